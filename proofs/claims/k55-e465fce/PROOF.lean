import PyProof.Rows.All
import Wide.All
import OpenK.AllK
import Wide.FinOn
import Lean
import PyProof.EqAt
import PyProof.EqKinds
import PyProof.TupleCall
import PySem.Challenge.RW_rentshare_k55_whole_no_fair_prices_are_b
set_option Elab.async false
set_option linter.all false
set_option maxHeartbeats 4000000
set_option maxRecDepth 100000
namespace L2
open PySem PySem.Spec PyProof.Rows
abbrev Key:=Sum Int Str
def keyIs:Key→Value→Bool
  | .inl k,v=>Value.isInt k v
  | .inr x,v=>Value.isStrOf x v
def keyH (w:World):Key→Int
  | .inl k=>hashInt k
  | .inr x=>hashStr w x
theorem keyIs_shape:∀ {k:Key} {v:Value},keyIs k v=true→(∃ i t,k=Sum.inl i∧v=Value.int i t)∨(∃ x t,k=Sum.inr x∧v=Value.str x t)
  | .inl i,v,h=>by
    obtain ⟨t,e⟩:=Value.isInt_shape (k:=i) (v:=v) h
    exact .inl ⟨i,t,rfl,e⟩
  | .inr x,v,h=>by
    obtain ⟨t,e⟩:=Value.isStrOf_shape (x:=x) (v:=v) h
    exact .inr ⟨x,t,rfl,e⟩
theorem keyIs_int (i:Int) (t:Tok):keyIs (.inl i) (.int i t)=true:=by simp [keyIs,Value.isInt]
theorem keyIs_str (x:Str) (t:Tok):keyIs (.inr x) (.str x t)=true:=by simp [keyIs,Value.isStrOf]
theorem key_ll (a b:Int):decide ((Sum.inl a:Key)=Sum.inl b)=(a == b):=by
  by_cases e:a=b
  · subst e; simp
  · have h:¬ (Sum.inl a:Key)=Sum.inl b:=fun q=>e (Sum.inl.inj q)
    rw [decide_eq_false h]
    exact (beq_eq_false_iff_ne.mpr e).symm
theorem key_rr (a b:Str):decide ((Sum.inr a:Key)=Sum.inr b)=decide (a=b):=by
  by_cases e:a=b
  · subst e; simp
  · have h:¬ (Sum.inr a:Key)=Sum.inr b:=fun q=>e (Sum.inr.inj q)
    rw [decide_eq_false h,decide_eq_false e]
theorem key_lr (a:Int) (b:Str):decide ((Sum.inl a:Key)=Sum.inr b)=false:=decide_eq_false (fun q=>nomatch q)
theorem key_rl (a:Str) (b:Int):decide ((Sum.inr a:Key)=Sum.inl b)=false:=decide_eq_false (fun q=>nomatch q)
def mixKind (prog:Program) (w:World):PySem.KeyKind prog w Key where
  is:=keyIs
  hash:=keyH w
  inj:=fun v a b ha hb=>by
    rcases keyIs_shape ha with ⟨i,t,rfl,rfl⟩ | ⟨x,t,rfl,rfl⟩
    · rcases keyIs_shape hb with ⟨j,u,rfl,e⟩ | ⟨y,u,rfl,e⟩
      · injection e with e1 _; rw [e1]
      · exact nomatch e
    · rcases keyIs_shape hb with ⟨j,u,rfl,e⟩ | ⟨y,u,rfl,e⟩
      · exact nomatch e
      · injection e with e1 _; rw [e1]
  byValue:=fun k v h=>by
    rcases keyIs_shape h with ⟨i,t,rfl,rfl⟩ | ⟨x,t,rfl,rfl⟩ <;> rfl
  pyHash:=fun hv h=>by
    rcases keyIs_shape hv with ⟨i,t,rfl,rfl⟩ | ⟨x,t,rfl,rfl⟩
    · exact wpAny_pyHash_int h
    · exact wpAny_pyHash_str h
  eqBool:=fun hu hv h=>by
    rcases keyIs_shape hu with ⟨i,t,rfl,rfl⟩ | ⟨x,t,rfl,rfl⟩
    · rcases keyIs_shape hv with ⟨j,u,rfl,rfl⟩ | ⟨y,u,rfl,rfl⟩
      · rw [key_ll] at h; exact wpAny_eqBool_int h
      · rw [key_lr] at h; exact SeqAt.EqAt.int_str i t y u _ _ _ _ h
    · rcases keyIs_shape hv with ⟨j,u,rfl,rfl⟩ | ⟨y,u,rfl,rfl⟩
      · rw [key_rl] at h; exact SeqAt.EqAt.str_int x t j u _ _ _ _ h
      · rw [key_rr] at h; exact wpAny_eqBool_str h
  «strs» := fun k x t v h=>by
    rcases keyIs_shape h with ⟨i,u,rfl,e⟩ | ⟨y,u,rfl,e⟩
    · exact nomatch e
    · injection e with e1 _
      subst e1
      cases v <;> rfl
theorem mixKind_int (prog:Program) (w:World) (i:Int) (t:Tok):(mixKind prog w).is (.inl i) (.int i t)=true:=keyIs_int i t
theorem mixKind_str (prog:Program) (w:World) (x:Str) (t:Tok):(mixKind prog w).is (.inr x) (.str x t)=true:=keyIs_str x t
end L2
namespace L2
open PySem PySem.Spec PyProof.Rows
inductive V where
  | non | bl (b:Bool) | int (i:Int) | str (x:Str) | byt (b:Array UInt8) | flt (b:UInt64) | ref (a:Addr) | ty (n:String)
  deriving DecidableEq
def RelV:V→Value→Prop
  | .non,u=>u=Value.none
  | .bl b,u=>u=Value.bool b
  | .int i,u => ∃ t,u=Value.int i t
  | .str x,u => ∃ t,u=Value.str x t
  | .byt b,u => ∃ t,u=Value.bytes b t
  | .flt b,u => ∃ t,u=Value.float b t
  | .ref a,u=>u=Value.ref a
  | .ty n,u=>u=Value.type n
abbrev Vals:List V→List Value→Prop:=Paired RelV
theorem Vals.length {xs:List V} {us:List Value} (r:Vals xs us):xs.length=us.length:=Paired.length r
theorem Vals.get:∀ {xs:List V} {us:List Value} {i:Nat} {x:V},Vals xs us→xs[i]? = some x→∃ u,us[i]? = some u∧RelV x u
  | _,_,_,_,.nil,e=>by simp at e
  | _,_,0,_,.cons r _,e=>by simp at e; subst e; exact ⟨_,rfl,r⟩
  | _,_,i + 1,x,.cons _ t,e=>by
    obtain ⟨u,h1,h2⟩:=Vals.get (i:=i) (x:=x) t (by simpa using e)
    exact ⟨u,by simpa using h1,h2⟩
theorem Vals.set {x:V} {u:Value} (r:RelV x u):∀ {xs:List V} {us:List Value} (i:Nat),Vals xs us→Vals (xs.set i x) (us.set i u)
  | _,_,_,.nil=>.nil
  | _,_,0,.cons _ t=>.cons r t
  | _,_,i + 1,.cons q t=>.cons q (Vals.set r i t)
theorem Vals.append:∀ {xs ys:List V} {us ws:List Value},Vals xs us→Vals ys ws→Vals (xs ++ ys) (us ++ ws)
  | _,_,_,_,.nil,s=>s
  | _,_,_,_,.cons r t,s=>.cons r (Vals.append t s)
theorem Vals.take:∀ {xs:List V} {us:List Value} (n:Nat),Vals xs us→Vals (xs.take n) (us.take n)
  | _,_,0,_=>.nil
  | _,_,_ + 1,.nil=>.nil
  | _,_,n + 1,.cons r t=>.cons r (Vals.take n t)
theorem Vals.drop:∀ {xs:List V} {us:List Value} (n:Nat),Vals xs us→Vals (xs.drop n) (us.drop n)
  | _,_,0,r=>r
  | _,_,_ + 1,.nil=>.nil
  | _,_,n + 1,.cons _ t=>Vals.drop n t
def RelO:Option V→Option Value→Prop
  | some v,some u=>RelV v u
  | none,none=>True
  | _,_=>False
def KV {κ:Type}:List (κ × V)→List (κ × Value)→Prop:=Paired fun (p:κ × V) (q:κ × Value)=>p.1=q.1∧RelV p.2 q.2
def kV:Key→V
  | .inl i=>.int i
  | .inr x=>.str x
inductive HO where
  | lst (xs:List V)
  | tup (xs:List V)
  | dK (kvs:List (Key × V)) | dT (kvs:List (List Key × V))
  | set (S:Int→Bool) (n:Nat)
  | ins (C dx:Addr) (fs:List (Str × V))
  | own (x:Addr)
  | xd (fs:List (Str × V))
  | met (f x:Addr)
  | rng (lo hi:Int)
  | frz (o:Obj) (u:HO)
  | tbl (ps:Array Value)
  | ext (φ:Heap→Prop)
abbrev Hp:=Addr→Option HO
def upd (H:Hp) (a:Addr) (o:HO):Hp:=fun b=>if b=a then some o else H b
theorem upd_same {H:Hp} {a:Addr} {o:HO}:upd H a o a=some o:=by unfold upd; rw [if_pos rfl]
theorem upd_ne {H:Hp} {a b:Addr} {o:HO} (h:b≠a):upd H a o b=H b:=by unfold upd; rw [if_neg h]
theorem ne_of {H:Hp} {a b:Addr} {o u:HO} (h:H a=some o) (h':H b=some u) (d:o≠u):a≠b:=by
  intro e; subst e; rw [h] at h'; exact d (Option.some.inj h')
theorem ne_of_none {H:Hp} {a b:Addr} {o:HO} (h:H a=some o) (h':H b=none):a≠b:=by
  intro e; subst e; rw [h] at h'; cases h'
section
variable (P:Program) (w:World)
def ObjOk (H:Hp) (h:Heap) (a:Addr):HO→Prop
  | .lst xs=>xs.length≤sizeLine∧∃ (its:List Value) (n:Nat),Vals xs its∧h.get? a=some { cls:=.type "list",data:=.seq its.toArray n }
  | .tup xs=>xs.length≤sizeLine∧∃ its:List Value,Vals xs its∧IsTup h a its.toArray
  | .dK kvs=>kvs.length≤sizeLine∧(a == sysModules)=false∧∃ vs,KV kvs vs∧h.DictOf (mixKind P w) a vs
  | .dT kvs=>kvs.length≤sizeLine∧(a == sysModules)=false∧∃ xs:List (List Key × Addr × Value),
      Paired (fun (p:List Key × V) (q:List Key × Addr × Value)=>p.1=q.1∧H q.2.1=some (.tup (p.1.map kV))∧RelV p.2 q.2.2) kvs xs ∧
      ∃ o es ep,h.get? a=some o∧o.ExactDict∧o.data=.dict es ep∧es.toList=xs.map (entryOfKey (tupleKind (mixKind P w)))∧(xs.map (·.1)).Nodup
  | .set S n=>h.SetOf (intKind P w) a S n
  | .ins C dx fs=>H dx=some (.own a)∧fs.length≤1000∧dx≠a∧h.get? a=some (PySem.W.instObj C dx) ∧
      ∃ mA,h.Ns1 dx mA∧(∀ f,RelO (fs.lookup f) (mA f))∧PySem.Within mA (fs.map (·.1))
  | .own _ => ∃ o,h.get? a=some o
  | .xd fs => ∃ mA,h.Ns1 a mA∧∀ f,RelO (fs.lookup f) (mA f)
  | .rng lo hi => ∃ t u v,h.get? a=some { cls:=.type "range",data:=.fields #[.int lo t,.int hi u,.int 1 v] }
  | .frz o u=>h.get? a=some o∧ObjOk H h a u
  | .tbl ps=>h.get? a=some { cls:=.none,data:=.fields ps }
  | .met f x=>h.get? a=some (PySem.W.methodObj (.ref f) (.ref x))
  | .ext φ=>φ h∧(∃ o,h.get? a=some o)∧∀ h1 h2:Heap,φ h1→(∀ o,h1.get? a=some o→h2.get? a=some o)→φ h2
def HOk (H:Hp) (h:Heap):Prop:=∀ a o,H a=some o→ObjOk P w H h a o
end
section
variable {P:Program} {w:World} {H H':Hp} {h h':Heap} {a:Addr} {o:HO}
theorem ObjOk.lt (x:ObjOk P w H h a o):a < h.objs.size:=by
  cases o with
  | lst xs=>obtain ⟨_,_,_,_,e⟩:=x; exact Heap.lt_size e
  | tup xs=>obtain ⟨_,_,_,p⟩:=x; exact p.lt
  | dK kvs=>obtain ⟨_,_,_,_,o,_,_,e,_⟩:=x; exact Heap.lt_size e
  | dT kvs=>obtain ⟨_,_,_,_,o,_,_,e,_⟩:=x; exact Heap.lt_size e
  | set S n=>obtain ⟨o,_,_,_,e,_⟩:=x; exact Heap.lt_size e
  | ins C dx fs=>obtain ⟨_,_,_,e,_⟩:=x; exact Heap.lt_size e
  | own y=>obtain ⟨_,e⟩:=x; exact Heap.lt_size e
  | xd fs=>obtain ⟨_,⟨_,_,_,e,_⟩,_⟩:=x; exact Heap.lt_size e
  | rng lo hi=>obtain ⟨_,_,_,e⟩:=x; exact Heap.lt_size e
  | frz ob u=>obtain ⟨e,_⟩:=x; exact Heap.lt_size e
  | tbl ps=>exact Heap.lt_size (show h.get? a=some _ from x)
  | met f y=>exact Heap.lt_size (show h.get? a=some _ from x)
  | ext φ=>obtain ⟨_,⟨_,e⟩,_⟩:=x; exact Heap.lt_size e
theorem Paired.mapP {α β:Type} {F G:α→β→Prop}:∀ {l₁:List α} {l₂:List β},Paired F l₁ l₂→(∀ a b,F a b→G a b)→Paired G l₁ l₂
  | _,_,.nil,_=>.nil
  | _,_,.cons r t,f=>.cons (f _ _ r) (Paired.mapP t f)
theorem ObjOk.stay (x:ObjOk P w H h a o) (k:∀ b u,(b=a∨H b=some (.own a))→h.get? b=some u→h'.get? b=some u)
    (ho:∀ b,H b=some (.own a)→H' b=some (.own a)) (ht:∀ b xs,H b=some (.tup xs)→H' b=some (.tup xs)):ObjOk P w H' h' a o:=by
  induction o with
  | lst xs=>obtain ⟨z,its,n,r,e⟩:=x; exact ⟨z,its,n,r,k _ _ (.inl rfl) e⟩
  | tup xs=>obtain ⟨z,its,r,ob,e,c⟩:=x; exact ⟨z,its,r,ob,k _ _ (.inl rfl) e,c⟩
  | dK kvs=>obtain ⟨z,y,vs,r,ob,es,ep,e,c⟩:=x; exact ⟨z,y,vs,r,ob,es,ep,k _ _ (.inl rfl) e,c⟩
  | dT kvs =>
    obtain ⟨z,y,xs,r,ob,es,ep,e,c⟩:=x
    exact ⟨z,y,xs,Paired.mapP r fun p q z=>⟨z.1,ht _ _ z.2.1,z.2.2⟩,ob,es,ep,k _ _ (.inl rfl) e,c⟩
  | set S n=>obtain ⟨ob,es,ep,t,e,c⟩:=x; exact ⟨ob,es,ep,t,k _ _ (.inl rfl) e,c⟩
  | ins C dx fs =>
    obtain ⟨d,z,ne,e,mA,⟨od,es,ep,e2,c⟩,r⟩:=x
    exact ⟨ho _ d,z,ne,k _ _ (.inl rfl) e,mA,⟨od,es,ep,k _ _ (.inr d) e2,c⟩,r⟩
  | own y=>obtain ⟨ob,e⟩:=x; exact ⟨ob,k _ _ (.inl rfl) e⟩
  | xd fs=>obtain ⟨mA,⟨od,es,ep,e,c⟩,r⟩:=x; exact ⟨mA,⟨od,es,ep,k _ _ (.inl rfl) e,c⟩,r⟩
  | rng lo hi=>obtain ⟨t,u,v,e⟩:=x; exact ⟨t,u,v,k _ _ (.inl rfl) e⟩
  | frz ob u ih=>obtain ⟨e,q⟩:=x; exact ⟨k _ _ (.inl rfl) e,ih q⟩
  | tbl ps =>
    have e:h.get? a=some { cls:=.none,data:=.fields ps }:=x
    show h'.get? a=some { cls:=.none,data:=.fields ps }
    exact k a _ (.inl rfl) e
  | met f y =>
    have e:h.get? a=some (PySem.W.methodObj (.ref f) (.ref y)):=x
    show h'.get? a=some (PySem.W.methodObj (.ref f) (.ref y))
    exact k a _ (.inl rfl) e
  | ext φ=>obtain ⟨p,⟨o,e⟩,st⟩:=x; exact ⟨st _ _ p fun o q=>k _ _ (.inl rfl) q,⟨o,k _ _ (.inl rfl) e⟩,st⟩
theorem HOk.lt (x:HOk P w H h) (e:H a=some o):a < h.objs.size:=(x a o e).lt
theorem HOk.fresh (x:HOk P w H h) (e:h.objs.size≤a):H a=none:=by
  cases q:H a with
  | none=>rfl
  | some u=>exact absurd (Nat.lt_of_lt_of_le (x.lt q) e) (Nat.lt_irrefl _)
theorem HOk.kept (x:HOk P w H h) (k:∀ b u,h.get? b=some u→h'.get? b=some u):HOk P w H h':=fun a o e =>
  (x a o e).stay (fun b u _ q=>k b u q) (fun _ q=>q) fun _ _ q=>q
theorem HOk.laid (x:HOk P w H h) (k:∀ b u,h.get? b=some u→h'.get? b=some u) (hp:h.objs.size≤a) (new:ObjOk P w (upd H a o) h' a o):HOk P w (upd H a o) h':=fun b u e=>by
  have hn:=x.fresh hp
  by_cases hb:b=a
  · subst hb; rw [upd_same] at e; cases e; exact new
  · rw [upd_ne hb] at e
    exact (x b u e).stay (fun c v _ q=>k c v q) (fun c q=>by rw [upd_ne (ne_of_none q hn)]; exact q) fun c xs q=>by rw [upd_ne (ne_of_none q hn)]; exact q
end
def Rd (H:Hp) (a:Addr) (u:HO):Prop:=H a=some u∨∃ o,H a=some (.frz o u)
theorem Rd.ok {P:Program} {w:World} {H:Hp} {h:Heap} {a:Addr} {u:HO} (r:Rd H a u) (x:HOk P w H h):ObjOk P w H h a u:=by
  rcases r with r | ⟨o,r⟩
  · exact x a u r
  · obtain ⟨_,q⟩:=x a _ r
    exact q
def Mut:Option HO→Prop
  | some (.lst _)=>True
  | some (.dK _)=>True
  | some (.dT _)=>True
  | some (.set _ _)=>True
  | some (.ins _ _ _)=>True
  | some (.ext _)=>True
  | _=>False
section
variable {P:Program} {w:World} {H:Hp} {h h':Heap} {x e:Addr} {o':HO}
theorem HOk.write (ok:HOk P w H h) (mu:Mut (H x)) (he:e=x∨H e=some (.own x)) (k:∀ b u,b≠e→h.get? b=some u→h'.get? b=some u) (heo:∃ u,h'.get? e=some u)
    (new:ObjOk P w (upd H x o') h' x o'):HOk P w (upd H x o') h':=fun b u q=>by
  have nown:∀ c y,H c=some (.own y)→c≠x:=fun c y r z=>by subst z; rw [r] at mu; exact mu
  have ntup:∀ c xs,H c=some (.tup xs)→c≠x:=fun c xs r z=>by subst z; rw [r] at mu; exact mu
  by_cases hb:b=x
  · subst hb; rw [upd_same] at q; cases q; exact new
  · rw [upd_ne hb] at q
    by_cases hbe:b=e
    · have q':H b=some (.own x):=by
        rcases he with z | z
        · exact absurd (hbe.trans z) hb
        · rw [hbe]; exact z
      rw [q] at q'; cases q'
      obtain ⟨v,hv⟩:=heo
      exact ⟨v,by rw [hbe]; exact hv⟩
    · refine (ok b u q).stay (fun c v hc r=>k c v ?_ r) (fun c r=>by rw [upd_ne (nown c b r)]; exact r) fun c xs r=>by rw [upd_ne (ntup c xs r)]; exact r
      rcases hc with rfl | hc
      · exact hbe
      · rintro rfl
        rcases he with z | z
        · exact nown c b hc z
        · rw [hc] at z; cases z; exact hb rfl
end
structure Un (fs ex:List Addr) (H H':Hp) (h h':Heap):Prop where
  keep:∀ b o,h.get? b=some o→H b=none→b ∉ fs→b ∉ ex→h'.get? b=some o
  slot:∀ b o,h.get? b=some o→H b=none→b∈fs→b ∉ ex→∃ sl,h'.get? b=some { o with slots:=sl }
  free:∀ b o,h.get? b=some o→H b=none→b ∉ ex→H' b=none
  there:∀ b o,h.get? b=some o→b ∉ ex→∃ o',h'.get? b=some o'
  tups:∀ b xs,H b=some (.tup xs)→H' b=some (.tup xs)
  frzs:∀ b o u,H b=some (.frz o u)→H' b=some (.frz o u)
  tbls:∀ b ps,H b=some (.tbl ps)→∃ more,H' b=some (.tbl (ps ++ more))
section
variable {fs fs' ex ex':List Addr} {H H1 H2:Hp} {h h1 h2 h':Heap} {a x e:Addr} {o:HO}
theorem Un.any (u:Un fs ex H H1 h h1) {b:Addr} {ob:Obj} (q:h.get? b=some ob) (n:H b=none) (hx:b ∉ ex):∃ sl,h1.get? b=some { ob with slots:=sl }:=by
  by_cases hb:b∈fs
  · exact u.slot b ob q n hb hx
  · exact ⟨ob.slots,u.keep b ob q n hb hx⟩
theorem Un.kept (k:∀ b u,h.get? b=some u→h'.get? b=some u):Un fs ex H H h h' :=
  ⟨fun b ob q _ _ _=>k b ob q,fun b ob q _ _ _=>⟨ob.slots,k b ob q⟩,fun _ _ _ n _=>n,fun b ob q _=>⟨ob,k b ob q⟩,fun _ _ q=>q,fun _ _ _ q=>q,fun _ ps q=>⟨#[],by rw [q]; simp⟩⟩
theorem Un.refl:Un fs ex H H h h:=Un.kept fun _ _ q=>q
theorem Un.laid (k:∀ b u,h.get? b=some u→h'.get? b=some u) (hp:h.objs.size≤a) (hn:H a=none):Un fs ex H (upd H a o) h h' where
  keep:=fun b u q _ _ _=>k b u q
  slot:=fun b u q _ _ _=>⟨u.slots,k b u q⟩
  free:=fun b u q n _=>by rw [upd_ne (Nat.ne_of_lt (Nat.lt_of_lt_of_le (Heap.lt_size q) hp))]; exact n
  there:=fun b u q _=>⟨u,k b u q⟩
  tups:=fun b xs q=>by rw [upd_ne (ne_of_none q hn)]; exact q
  frzs:=fun b u xs q=>by rw [upd_ne (ne_of_none q hn)]; exact q
  tbls:=fun b ps q=>⟨#[],by rw [upd_ne (ne_of_none q hn),q]; simp⟩
theorem Un.write (mu:Mut (H x)) (he:e=x∨H e=some (.own x)) (k:∀ b u,b≠e→h.get? b=some u→h'.get? b=some u) (heo:∃ u,h'.get? e=some u):Un fs ex H (upd H x o) h h':=by
  have hx:∀ b,H b=none→b≠x:=fun b n z=>by subst z; rw [n] at mu; exact mu
  have hb:∀ b,H b=none→b≠e:=fun b n z=>by
    subst z
    rcases he with r | r
    · exact hx b n r
    · rw [n] at r; cases r
  have hm:∀ b u,H b=some u→¬ Mut (some u)→b≠x:=fun b u q nm z=>by subst z; rw [q] at mu; exact nm mu
  refine ⟨fun b u q n _ _=>k b u (hb b n) q,fun b u q n _ _=>⟨u.slots,k b u (hb b n) q⟩,fun b u q n _=>by rw [upd_ne (hx b n)]; exact n,fun b u q _=>?_,
    fun b xs q=>by rw [upd_ne (hm b _ q fun z=>z)]; exact q,fun b u xs q=>by rw [upd_ne (hm b _ q fun z=>z)]; exact q,fun b ps q=>⟨#[],by rw [upd_ne (hm b _ q fun z=>z),q]; simp⟩⟩
  by_cases hbe:b=e
  · subst hbe; exact heo
  · exact ⟨u,k b u hbe q⟩
end
def trk (h:Heap) (H:Hp):List Addr:=(List.range h.objs.size).filter fun a=>(H a).isSome
def hidT (h:Heap) (H:Hp):Heap:=PySem.W.hideAll h (trk h H)
theorem hidT_size (h:Heap) (H:Hp):(hidT h H).objs.size=h.objs.size:=PySem.W.hideAll_size _ _
theorem hidT_get {h:Heap} {H:Hp} {b:Addr} {o:Obj} (e:h.get? b=some o) (n:H b=none):(hidT h H).get? b=some o :=
  PySem.W.hideAll_get _ e fun hm=>by
    have q:(H b).isSome=true:=(List.mem_filter.mp hm).2
    rw [n] at q; simp at q
theorem of_hidT {h:Heap} {H:Hp} {b:Addr} {o:Obj} (e:(hidT h H).get? b=some o):h.get? b=some o∧H b=none:=by
  have e':h.get? b=some o:=PySem.W.of_hideAll (trk h H) e
  refine ⟨e',?_⟩
  cases q:H b with
  | none=>rfl
  | some x =>
    have hm:b∈trk h H:=List.mem_filter.mpr ⟨List.mem_range.mpr (Heap.lt_size e'),by simp [q]⟩
    have z:(hidT h H).get? b=none:=PySem.W.hideAll_none (trk h H) hm
    rw [z] at e; cases e
end L2
namespace L2
open PySem PySem.Spec PyProof.Rows
structure Mod (K:PySem.W.Frag) (mg:Str→Option Value) (base:Heap):Prop where
  kin:K.In base
  glob:base.Ns mainGlobals mg
  blt:∃ mb,base.Ns builtinsNs mb∧∀ x:Str,x≠"__name__"→mb x=bootBuiltins x
  nolimit:base.NoLimit
structure Cx where
  prog:Program
  w:World
  K:PySem.W.Frag
  mg:Str→Option Value
  base:Heap
  A:Around
  N:List Str
  s₀:Shared
  H₀:Hp
  env:Env
  outer:List Env
  stack:List Env
  ex:List Addr
  fn:Str→Bool
  calm:Bool
  pn:List (Addr × Obj)
  xe:Value→Shared→Prop
def frs (l:List Env):List Addr:=l.filterMap (·.frame)
abbrev Cx.fs (X:Cx):List Addr:=frs X.outer
def Vis (sc:Scope) (x:Str):Prop:=sc.names.lookup x=some .local∨sc.names.lookup x=some .cell∨sc.names.lookup x=some .free
def Loc (sc:Scope) (x:Str):Prop:=sc.names.lookup x=some .local∨sc.names.lookup x=some .cell
def Look (env:Env) (h:Heap) (m:Str→Option Value) (x:Str) (u:Value):Prop :=
  (env.kindOf x=some .local∧m x=some u)∨((env.kindOf x=some .cell∨env.kindOf x=some .free)∧∃ c,env.cells.lookup x=some c∧h.IsCell c (some u))
structure Cx.Ok (X:Cx):Prop where
  mod:Mod X.K X.mg X.base
  kind:X.env.scope.kind=.function
  glob:X.env.globals=mainGlobals
  blt:X.env.builtins=builtinsNs
  above:X.s₀.heap.objs.size≤X.env.locals
  inj:∀ x y c,X.env.cells.lookup x=some c→X.env.cells.lookup y=some c→x=y
  has:∀ x,(X.env.kindOf x=some .cell∨X.env.kindOf x=some .free)→∃ c,X.env.cells.lookup x=some c
  cab:∀ x c,X.fn x=true→X.env.cells.lookup x=some c→X.s₀.heap.objs.size≤c
  hd:X.calm=true→X.A.handled=none
  frames:X.A.frames=some X.stack
  stk:X.stack=X.outer∨(X.stack=X.env :: X.outer∧X.env.frame=some X.env.locals)
  exf:∀ b∈X.ex,b≠X.env.locals∧∀ x c,X.env.cells.lookup x=some c→c≠b
  bs:∀ b o,X.base.get? b=some o→X.s₀.heap.get? b=some o∧X.H₀ b=none
  bsz:X.base.objs.size≤X.s₀.heap.objs.size
  noex:∀ b o,X.base.get? b=some o→b ∉ X.ex
  exfs:∀ b∈X.ex,b ∉ X.fs
  funs:X.s₀.heap.FunFrames X.base X.outer
  frf:∀ b∈X.fs,X.H₀ b=none
structure Inv (X:Cx) (pins:List (Addr × Obj)) (σ:List (Option V)) (H:Hp) (s:Shared):Prop where
  ok:X.Ok
  os:s.os=X.s₀.os
  bare:AllBare s.gens
  base:Un X.fs X.ex X.H₀ H X.s₀.heap s.heap
  loc:∃ m,s.heap.Ns X.env.locals m∧∀ (i:Nat) (x:Str) (v:V),X.N[i]? = some x→σ[i]? = some (some v)→Vis X.env.scope x→∃ u,RelV v u∧Look X.env s.heap m x u
  cell:∀ x c,X.env.cells.lookup x=some c→∃ v,s.heap.IsCell c v
  free:H X.env.locals=none
  freeC:∀ x c,X.env.cells.lookup x=some c→H c=none
  pin:∀ p∈X.pn ++ pins,s.heap.get? p.1=some p.2∧H p.1=none∧p.1≠X.env.locals∧p.1 ∉ X.fs∧∀ v,p.2.data≠.cell v
  hok:HOk X.prog X.w H s.heap
  len:σ.length=X.N.length
section
variable {X:Cx} {pins:List (Addr × Obj)} {σ:List (Option V)} {H H':Hp} {s:Shared} {h':Heap}
theorem Cx.Ok.nofr (ok:X.Ok) {b:Addr} {o:Obj} (e:X.base.get? b=some o):b ∉ X.fs:=fun hb=>by
  have:=(ok.funs.mem hb).1
  rw [e] at this; cases this
theorem Inv.bs (I:Inv X pins σ H s):∀ b o,X.base.get? b=some o→s.heap.get? b=some o∧H b=none:=fun b o e =>
  ⟨I.base.keep b o (I.ok.bs b o e).1 (I.ok.bs b o e).2 (I.ok.nofr e) (I.ok.noex b o e),I.base.free b o (I.ok.bs b o e).1 (I.ok.bs b o e).2 (I.ok.noex b o e)⟩
theorem Inv.bk (I:Inv X pins σ H s):∀ b o,X.base.get? b=some o→s.heap.get? b=some o:=fun b o e=>(I.bs b o e).1
theorem Inv.mod (I:Inv X pins σ H s):Mod X.K X.mg X.base:=I.ok.mod
theorem Inv.kIn (I:Inv X pins σ H s):X.K.In s.heap:=I.ok.mod.kin.keeps I.bk
theorem Inv.nolimit (I:Inv X pins σ H s):s.heap.NoLimit:=I.ok.mod.nolimit.keeps I.bk
theorem Inv.lt (I:Inv X pins σ H s):X.env.locals < s.heap.objs.size:=let ⟨_,hn,_⟩:=I.loc; hn.lt
theorem Inv.sz (I:Inv X pins σ H s):X.s₀.heap.objs.size≤s.heap.objs.size:=Nat.le_trans I.ok.above (Nat.le_of_lt I.lt)
theorem Inv.nofs (I:Inv X pins σ H s) {a:Addr} (h:s.heap.objs.size≤a):a ∉ X.fs:=fun hb=>by
  obtain ⟨_,o,ho,_⟩:=I.ok.funs.mem hb
  exact absurd (Nat.lt_of_lt_of_le (Heap.lt_size ho) (Nat.le_trans I.sz h)) (Nat.lt_irrefl _)
theorem Inv.cne (I:Inv X pins σ H s):∀ x c,X.env.cells.lookup x=some c→c≠X.env.locals:=fun x c e z=>by
  obtain ⟨v,o,ho,hd⟩:=I.cell x c e
  obtain ⟨m,⟨o',es,ep,ho',hd',_⟩,_⟩:=I.loc
  rw [z,ho'] at ho; cases ho; rw [hd'] at hd; cases hd
theorem Inv.funs (I:Inv X pins σ H s):s.heap.FunFrames X.base X.outer:=by
  have all:∀ (l:List Env),(∀ b∈frs l,b∈X.fs)→X.s₀.heap.FunFrames X.base l→s.heap.FunFrames X.base l:=by
    intro l
    induction l with
    | nil=>intro _ _; trivial
    | cons env r ih =>
      intro hs hl
      obtain ⟨hk,⟨L,o,hf,hn,ho,hd⟩,hr⟩:=hl
      have hL:L∈X.fs:=hs L (by unfold frs; rw [List.filterMap_cons,hf]; exact List.mem_cons_self)
      obtain ⟨sl,e⟩:=I.base.slot L o ho (I.ok.frf L hL) hL fun z=>I.ok.exfs L z hL
      exact ⟨hk,⟨L,_,hf,hn,e,hd⟩,ih (fun b hb=>hs b (by unfold frs; rw [List.filterMap_cons,hf]; exact List.mem_cons_of_mem _ hb)) hr⟩
  exact all X.outer (fun _ hb=>hb) I.ok.funs
theorem Inv.stack (I:Inv X pins σ H s):s.heap.FunFrames X.base X.stack:=by
  rcases I.ok.stk with e | ⟨e,hf⟩
  · rw [e]; exact I.funs
  · rw [e]
    obtain ⟨m,hn,_⟩:=I.loc
    refine .cons (by rw [I.ok.kind]; decide) hf hn ?_ I.funs
    exact Heap.get?_none_of_le (Nat.le_trans I.ok.bsz I.ok.above)
theorem Inv.stkSub (I:Inv X pins σ H s):∀ b∈frs X.stack,b∈X.env.locals :: X.fs:=fun b hb=>by
  rcases I.ok.stk with e | ⟨e,hf⟩
  · rw [e] at hb; exact List.mem_cons_of_mem _ hb
  · rw [e] at hb
    unfold frs at hb
    rw [List.filterMap_cons,hf] at hb
    exact hb
theorem Inv.stkFree (I:Inv X pins σ H s):∀ b∈frs X.stack,H b=none:=fun b hb=>by
  rcases List.mem_cons.mp (I.stkSub b hb) with e | hb
  · rw [e]; exact I.free
  · obtain ⟨_,o,ho,_⟩:=I.ok.funs.mem hb
    exact I.base.free b o ho (I.ok.frf b hb) fun z=>I.ok.exfs b z hb
theorem Inv.step {g':Array GenState} {t':Nat} {d':Drawn} {ch:List Addr} (I:Inv X pins σ H s)
    (hch:∀ b∈ch,(b∈X.ex∨X.s₀.heap.objs.size≤b)∧b≠X.env.locals∧(∀ x c,X.env.cells.lookup x=some c→c≠b)∧∀ p∈X.pn ++ pins,p.1≠b)
    (keep:∀ b o,b≠X.env.locals→b ∉ X.fs→b ∉ ch→s.heap.get? b=some o→H b=none→h'.get? b=some o)
    (slot:∀ b o,b≠X.env.locals→b∈X.fs→b ∉ ch→s.heap.get? b=some o→H b=none→∃ sl,h'.get? b=some { o with slots:=sl }) (free:∀ b o,b ∉ ch→s.heap.get? b=some o→H b=none→H' b=none)
    (there:∀ b o,b ∉ ch→s.heap.get? b=some o→∃ o',h'.get? b=some o')
    (tups:∀ b xs,H b=some (.tup xs)→H' b=some (.tup xs)) (frzs:∀ b o u,H b=some (.frz o u)→H' b=some (.frz o u)) (tbls:∀ b ps,H b=some (.tbl ps)→∃ more,H' b=some (.tbl (ps ++ more)))
    (ns:∀ m,s.heap.Ns X.env.locals m→h'.Ns X.env.locals m) (hok:HOk X.prog X.w H' h') (hg:AllBare g') :
    Inv X pins σ H' { s with heap:=h',gens:=g',drawn:=d',toks:=t' }:=by
  have neL:∀ b o,X.s₀.heap.get? b=some o→b≠X.env.locals:=fun b o e=>Nat.ne_of_lt (Nat.lt_of_lt_of_le (Heap.lt_size e) I.ok.above)
  have neC:∀ b o,X.s₀.heap.get? b=some o→b ∉ X.ex→b ∉ ch:=fun b o e hx hb=>by
    rcases (hch b hb).1 with z | z
    · exact hx z
    · exact absurd (Nat.lt_of_lt_of_le (Heap.lt_size e) z) (Nat.lt_irrefl _)
  have cellK:∀ x c,X.env.cells.lookup x=some c→∀ v,s.heap.IsCell c v→h'.IsCell c v:=fun x c e v ⟨o,ho,hd⟩=>by
    have nch:c ∉ ch:=fun z=>(hch c z).2.2.1 x c e rfl
    by_cases hc:c∈X.fs
    · obtain ⟨sl,q⟩:=slot c o (I.cne x c e) hc nch ho (I.freeC x c e)
      exact ⟨_,q,hd⟩
    · exact ⟨o,keep c o (I.cne x c e) hc nch ho (I.freeC x c e),hd⟩
  refine ⟨I.ok,I.os,hg,⟨fun b o e n hb hx=>?_,fun b o e n hb hx=>?_,fun b o e n hx=>?_,fun b o e hx=>?_,fun b xs e=>tups b xs (I.base.tups b xs e),fun b o xs e=>frzs b o xs (I.base.frzs b o xs e),fun b ps e=>?_⟩,?_,fun x c e=>?_,?_,fun x c e=>?_,fun p hp=>?_,hok,I.len⟩
  · exact keep b o (neL b o e) hb (neC b o e hx) (I.base.keep b o e n hb hx) (I.base.free b o e n hx)
  · obtain ⟨sl,e1⟩:=I.base.slot b o e n hb hx
    obtain ⟨sl',e2⟩:=slot b _ (neL b o e) hb (neC b o e hx) e1 (I.base.free b o e n hx)
    exact ⟨sl',e2⟩
  · obtain ⟨o',e1⟩:=I.base.there b o e hx
    exact free b o' (neC b o e hx) e1 (I.base.free b o e n hx)
  · obtain ⟨o',e1⟩:=I.base.there b o e hx
    exact there b o' (neC b o e hx) e1
  · obtain ⟨m1,e1⟩:=I.base.tbls b ps e
    obtain ⟨m2,e2⟩:=tbls b _ e1
    exact ⟨m1 ++ m2,by rw [e2,Array.append_assoc]⟩
  · obtain ⟨m,hn,hl⟩:=I.loc
    refine ⟨m,ns m hn,fun i x v e1 e2 e3=>?_⟩
    obtain ⟨u,r,l⟩:=hl i x v e1 e2 e3
    refine ⟨u,r,?_⟩
    rcases l with l | ⟨k,c,e,z⟩
    · exact .inl l
    · exact .inr ⟨k,c,e,cellK x c e _ z⟩
  · obtain ⟨v,z⟩:=I.cell x c e
    exact ⟨v,cellK x c e v z⟩
  · obtain ⟨m,⟨o,_,_,ho,_⟩,_⟩:=I.loc
    exact free _ o (fun z=>(hch _ z).2.1 rfl) ho I.free
  · obtain ⟨v,o,ho,hd⟩:=I.cell x c e
    exact free c o (fun z=>(hch c z).2.2.1 x c e rfl) ho (I.freeC x c e)
  · obtain ⟨e,n,ne,nf,d⟩:=I.pin p hp
    have nch:p.1 ∉ ch:=fun z=>(hch p.1 z).2.2.2 p hp rfl
    exact ⟨keep p.1 p.2 ne nf nch e n,free p.1 p.2 nch e n,ne,nf,d⟩
theorem Inv.un {t':Nat} (I:Inv X pins σ H s) (u:Un X.fs [] H H' s.heap h') (hok:HOk X.prog X.w H' h'):Inv X pins σ H' { s with heap:=h',toks:=t' }:=by
  obtain ⟨m,⟨o,es,ep,ho,r⟩,_⟩:=id I.loc
  obtain ⟨sl,hL⟩:=u.any ho I.free (by simp)
  exact I.step (g':=s.gens) (d':=s.drawn) (ch:=[]) (fun _ z=>nomatch z) (fun b o _ hb _ e n=>u.keep b o e n hb (by simp)) (fun b o _ hb _ e n=>u.slot b o e n hb (by simp)) (fun b o _ e n=>u.free b o e n (by simp)) (fun b o _ e=>u.there b o e (by simp)) u.tups u.frzs u.tbls (fun m' hm=>by
    obtain ⟨o',es',ep',ho',r'⟩:=hm
    rw [ho] at ho'; cases ho'
    exact ⟨_,es',ep',hL,r'⟩) hok I.bare
theorem Inv.call {g':Array GenState} {t':Nat} {d':Drawn} {ch:List Addr} (I:Inv X pins σ H s) (u:Un (frs X.stack) ch H H' s.heap h') (hok:HOk X.prog X.w H' h') (hg:AllBare g')
    (hch:∀ b∈ch,(b∈X.ex∨X.s₀.heap.objs.size≤b)∧b≠X.env.locals∧(∀ x c,X.env.cells.lookup x=some c→c≠b)∧∀ p∈X.pn ++ pins,p.1≠b) :
    Inv X pins σ H' { s with heap:=h',gens:=g',drawn:=d',toks:=t' }:=by
  obtain ⟨m,⟨o,es,ep,ho,r⟩,_⟩:=id I.loc
  obtain ⟨sl,hL⟩:=u.any ho I.free fun z=>(hch _ z).2.1 rfl
  exact I.step (ch:=ch) hch (fun b o hL hb hc e n=>u.keep b o e n (fun z=>(List.mem_cons.mp (I.stkSub b z)).elim hL hb) hc) (fun b o _ _ hc e n=>u.any e n hc) (fun b o hc e n=>u.free b o e n hc) (fun b o hc e=>u.there b o e hc) u.tups u.frzs u.tbls (fun m' hm=>by
    obtain ⟨o',es',ep',ho',r'⟩:=hm
    rw [ho] at ho'; cases ho'
    exact ⟨_,es',ep',hL,r'⟩) hok hg
theorem Inv.turned {t':Nat} {it:Addr} (I:Inv X pins σ H s) (k:∀ b o,b≠it→s.heap.get? b=some o→h'.get? b=some o) (hn:H it=none) (hL:it≠X.env.locals)
    (h1:it∈X.ex∨X.s₀.heap.objs.size≤it) (h2:∀ x c,X.env.cells.lookup x=some c→c≠it) (h3:∀ p∈X.pn ++ pins,p.1≠it):Inv X pins σ H { s with heap:=h',toks:=t' }:=by
  have nit:∀ b u,H b=some u→b≠it:=fun b u e z=>by rw [z,hn] at e; cases e
  refine I.step (g':=s.gens) (d':=s.drawn) (ch:=[it]) (fun b hb=>?_) (fun b o _ _ hc e _=>k b o (fun z=>hc (by simp [z])) e) (fun b o _ _ hc e _=>⟨o.slots,k b o (fun z=>hc (by simp [z])) e⟩) (fun _ _ _ _ n=>n)
    (fun b o hc e=>⟨o,k b o (fun z=>hc (by simp [z])) e⟩) (fun _ _ e=>e) (fun _ _ _ e=>e) (fun b ps e=>⟨#[],by rw [e]; simp⟩) (fun m hm=>?_) (fun b u e=>?_) I.bare
  · have e:b=it:=by simpa using hb
    subst e
    exact ⟨h1,hL,h2,h3⟩
  · obtain ⟨o,es,ep,ho,r⟩:=hm
    exact ⟨o,es,ep,k _ o (Ne.symm hL) ho,r⟩
  · refine (I.hok b u e).stay (fun c v hc q=>k c v ?_ q) (fun _ q=>q) fun _ _ q=>q
    rcases hc with z | z
    · rw [z]; exact nit b u e
    · exact nit c _ z
theorem Inv.tok (I:Inv X pins σ H s) (t:Nat):Inv X pins σ H { s with toks:=t }:=I.un (h':=s.heap) (t':=t) Un.refl I.hok
theorem Inv.kept {t':Nat} (I:Inv X pins σ H s) (k:∀ b u,s.heap.get? b=some u→h'.get? b=some u):Inv X pins σ H { s with heap:=h',toks:=t' }:=I.un (Un.kept k) (I.hok.kept k)
theorem Inv.laid {a:Addr} {o:HO} {t':Nat} (I:Inv X pins σ H s) (k:∀ b u,s.heap.get? b=some u→h'.get? b=some u) (hp:s.heap.objs.size≤a) (new:ObjOk X.prog X.w (upd H a o) h' a o) :
    Inv X pins σ (upd H a o) { s with heap:=h',toks:=t' }:=I.un (Un.laid k hp (I.hok.fresh hp)) (I.hok.laid k hp new)
theorem Inv.write {x e:Addr} {o:HO} {t':Nat} (I:Inv X pins σ H s) (mu:Mut (H x)) (he:e=x∨H e=some (.own x)) (k:∀ b u,b≠e→s.heap.get? b=some u→h'.get? b=some u) (heo:∃ u,h'.get? e=some u)
    (new:ObjOk X.prog X.w (upd H x o) h' x o):Inv X pins σ (upd H x o) { s with heap:=h',toks:=t' }:=I.un (Un.write mu he k heo) (I.hok.write mu he k heo new)
theorem Inv.weak {σ':List (Option V)} (I:Inv X pins σ H s) (hl:σ'.length=σ.length) (w:∀ (i:Nat) v,σ'[i]? = some (some v)→σ[i]? = some (some v)):Inv X pins σ' H s :=
  ⟨I.ok,I.os,I.bare,I.base,let ⟨m,hn,hl'⟩:=I.loc; ⟨m,hn,fun i x v e1 e2 e3=>hl' i x v e1 (w i v e2) e3⟩,I.cell,I.free,I.freeC,I.pin,I.hok,hl.trans I.len⟩
theorem Inv.pins_of {pins':List (Addr × Obj)} (I:Inv X pins σ H s) (h:∀ p∈pins',s.heap.get? p.1=some p.2∧H p.1=none∧p.1≠X.env.locals∧p.1 ∉ X.fs∧∀ v,p.2.data≠.cell v):Inv X pins' σ H s :=
  ⟨I.ok,I.os,I.bare,I.base,I.loc,I.cell,I.free,I.freeC,fun p hp=>(List.mem_append.mp hp).elim (fun z=>I.pin p (List.mem_append_left _ z)) (h p),I.hok,I.len⟩
theorem nodup_ix {N:List Str} (hN:N.Nodup) {i j:Nat} {x:Str} (a:N[i]? = some x) (b:N[j]? = some x):i=j:=by
  obtain ⟨h1,e1⟩:=List.getElem?_eq_some_iff.mp a
  obtain ⟨h2,e2⟩:=List.getElem?_eq_some_iff.mp b
  exact (List.getElem_inj hN).mp (e1.trans e2.symm)
theorem store_ok2 {M:Model} {A:Around} {E:Value→Shared→Prop} {i:Nat} {x:Str} {v:V} {u:Value} {Q:Unit→Shared→Prop} (I:Inv X pins σ H s) (hN:X.N.Nodup) (hi:X.N[i]? = some x) (hx:Loc X.env.scope x) (r:RelV v u)
    (h:∀ s',Inv X pins (σ.set i (some v)) H s'→(∃ a,Heap.SameBut a s.heap s'.heap∧(a=X.env.locals∨X.env.cells.lookup x=some a))→Q () s') (hf:X.fn x=true∨X.env.scope.names.lookup x=some .local:=by first | exact .inl rfl | exact .inr rfl | assumption):wpAny M A (storeName X.env x u) Q E s:=by
  obtain ⟨m,hn,hl⟩:=id I.loc
  have hcls:(X.env.scope.kind == .class || (X.env.scope.kind == .module && X.env.locals != X.env.globals))=false:=by rw [I.ok.kind]; rfl
  have hiσ:i < σ.length:=by rw [I.len]; exact (List.getElem?_eq_some_iff.mp hi).1
  have cne:=I.cne
  have tracked:∀ {a:Addr} {h':Heap},(∃ o,s.heap.get? a=some o∧H a=none)→Heap.SameBut a s.heap h'→HOk X.prog X.w H h':=fun {a h'} ha hs b ob e=>by
    obtain ⟨_,_,hfree⟩:=ha
    refine (I.hok b ob e).stay (fun c w' hc q=>(hs.2 c ?_).trans q) (fun _ q=>q) fun _ _ q=>q
    rintro rfl
    rcases hc with rfl | hc
    · rw [hfree] at e; cases e
    · rw [hfree] at hc; cases hc
  rcases hx with hk | hk
  · refine wpAny_storeName_local hk hn (fun h' hn' hs=>?_) hcls
    obtain ⟨oL,_,_,hoL,_⟩:=id hn
    refine h _ ⟨I.ok,I.os,I.bare,⟨fun b o e n hb hx=>?_,fun b o e n hb hx=>?_,I.base.free,fun b o e hx=>?_,I.base.tups,I.base.frzs,I.base.tbls⟩,⟨_,hn',fun j y v' e1 e2 e3=>?_⟩,fun y c e=>?_,I.free,I.freeC,fun p hp=>?_,tracked ⟨oL,hoL,I.free⟩ hs,by simpa using I.len⟩ ⟨_,hs,.inl rfl⟩
    · exact (hs.2 b (Nat.ne_of_lt (Nat.lt_of_lt_of_le (Heap.lt_size e) I.ok.above))).trans (I.base.keep b o e n hb hx)
    · obtain ⟨sl,e1⟩:=I.base.slot b o e n hb hx
      exact ⟨sl,(hs.2 b (Nat.ne_of_lt (Nat.lt_of_lt_of_le (Heap.lt_size e) I.ok.above))).trans e1⟩
    · obtain ⟨o',e1⟩:=I.base.there b o e hx
      exact ⟨o',(hs.2 b (Nat.ne_of_lt (Nat.lt_of_lt_of_le (Heap.lt_size e) I.ok.above))).trans e1⟩
    · by_cases hj:j=i
      · subst hj
        rw [hi] at e1; cases e1
        rw [List.getElem?_set_self hiσ] at e2
        cases e2
        exact ⟨u,r,.inl ⟨hk,by simp⟩⟩
      · rw [List.getElem?_set_ne (Ne.symm hj)] at e2
        obtain ⟨u',r',q⟩:=hl j y v' e1 e2 e3
        refine ⟨u',r',?_⟩
        rcases q with ⟨k,e⟩ | ⟨k,c,e,z⟩
        · refine .inl ⟨k,?_⟩
          have:y≠x:=fun e=>hj (nodup_ix hN e1 (e ▸ hi))
          simp [this,e]
        · exact .inr ⟨k,c,e,z.sameBut hs (cne y c e)⟩
    · obtain ⟨w',z⟩:=I.cell y c e
      exact ⟨w',z.sameBut hs (cne y c e)⟩
    · obtain ⟨e,n,ne,nf,d⟩:=I.pin p hp
      exact ⟨(hs.2 p.1 ne).trans e,n,ne,nf,d⟩
  · have hfn:X.fn x=true:=by
      rcases hf with z | z
      · exact z
      · rw [z] at hk; cases hk
    obtain ⟨c,hc⟩:=I.ok.has x (.inl hk)
    obtain ⟨w',z⟩:=I.cell x c hc
    refine wpAny_storeName_cell I.ok.kind hk hc z (fun h' hc' hs=>?_)
    obtain ⟨oc,hoc,hocd⟩:=id z
    refine h { s with heap:=h' } ⟨I.ok,I.os,I.bare,⟨fun b o e n hb hx=>?_,fun b o e n hb hx=>?_,I.base.free,fun b o e hx=>?_,I.base.tups,I.base.frzs,I.base.tbls⟩,⟨m,hn.sameBut hs (Ne.symm (cne x c hc)),fun j y v' e1 e2 e3=>?_⟩,fun y c' e=>?_,I.free,I.freeC,fun p hp=>?_,tracked ⟨oc,hoc,I.freeC x c hc⟩ hs,by simpa using I.len⟩ ⟨c,hs,.inr hc⟩
    · exact (hs.2 b (Nat.ne_of_lt (Nat.lt_of_lt_of_le (Heap.lt_size e) (I.ok.cab x c hfn hc)))).trans (I.base.keep b o e n hb hx)
    · obtain ⟨sl,e1⟩:=I.base.slot b o e n hb hx
      exact ⟨sl,(hs.2 b (Nat.ne_of_lt (Nat.lt_of_lt_of_le (Heap.lt_size e) (I.ok.cab x c hfn hc)))).trans e1⟩
    · obtain ⟨o',e1⟩:=I.base.there b o e hx
      exact ⟨o',(hs.2 b (Nat.ne_of_lt (Nat.lt_of_lt_of_le (Heap.lt_size e) (I.ok.cab x c hfn hc)))).trans e1⟩
    · by_cases hj:j=i
      · subst hj
        rw [hi] at e1; cases e1
        rw [List.getElem?_set_self hiσ] at e2
        cases e2
        exact ⟨u,r,.inr ⟨.inl hk,c,hc,hc'⟩⟩
      · rw [List.getElem?_set_ne (Ne.symm hj)] at e2
        obtain ⟨u',r',q⟩:=hl j y v' e1 e2 e3
        refine ⟨u',r',?_⟩
        rcases q with q | ⟨k,c',e,z'⟩
        · exact .inl q
        · refine .inr ⟨k,c',e,z'.sameBut hs ?_⟩
          rintro rfl
          exact hj (nodup_ix hN e1 (I.ok.inj _ _ _ e hc ▸ hi))
    · by_cases hcc:c'=c
      · subst hcc; exact ⟨_,hc'⟩
      · obtain ⟨w2,z2⟩:=I.cell y c' e
        exact ⟨w2,z2.sameBut hs hcc⟩
    · obtain ⟨e,n,ne,nf,d⟩:=I.pin p hp
      refine ⟨(hs.2 p.1 ?_).trans e,n,ne,nf,d⟩
      intro q
      rw [q,hoc] at e
      have q':oc=p.2:=Option.some.inj e
      exact d w' (by rw [← q']; exact hocd)
theorem store_ok {M:Model} {A:Around} {E:Value→Shared→Prop} {i:Nat} {x:Str} {v:V} {u:Value} {Q:Unit→Shared→Prop} (I:Inv X pins σ H s) (hN:X.N.Nodup) (hi:X.N[i]? = some x) (hx:Loc X.env.scope x) (r:RelV v u)
    (h:∀ s',Inv X pins (σ.set i (some v)) H s'→Q () s') (hf:X.fn x=true∨X.env.scope.names.lookup x=some .local:=by first | exact .inl rfl | exact .inr rfl | assumption):wpAny M A (storeName X.env x u) Q E s :=
  store_ok2 I hN hi hx r (fun s' I' _=>h s' I') hf
theorem Inv.call' {s':Shared} {ch:List Addr} (I:Inv X pins σ H s) (ho:s'.os=s.os) (u:Un (frs X.stack) ch H H' s.heap s'.heap) (hok:HOk X.prog X.w H' s'.heap) (hg:AllBare s'.gens)
    (hch:∀ b∈ch,(b∈X.ex∨X.s₀.heap.objs.size≤b)∧b≠X.env.locals∧(∀ x c,X.env.cells.lookup x=some c→c≠b)∧∀ p∈X.pn ++ pins,p.1≠b):Inv X pins σ H' s':=by
  obtain ⟨h',g',d',t',o'⟩:=s'
  have e:o'=s.os:=ho
  subst e
  exact I.call (g':=g') (t':=t') (d':=d') u hok hg hch
end
abbrev XK:=Value→Option Addr→Hp→Prop
abbrev St:=List (Option V)
abbrev VK:=V→Hp→Prop
abbrev TE:=St→Hp→VK→Prop
abbrev TT:=St→Hp→(Bool→Hp→Prop)→Prop
abbrev TA:=St→Hp→(List V→Hp→Prop)→Prop
structure Ends where
  nx:St→Hp→Prop
  rt:VK
  bk:St→Hp→Prop:=fun _ _=>False
  ct:St→Hp→Prop:=fun _ _=>False
abbrev TS:=Ends→St→Hp→Prop
def EP (X:Cx) (pins:List (Addr × Obj)) (σ:St) (Q:VK) (u:Value) (s':Shared):Prop:=∃ v H',Inv X pins σ H' s'∧RelV v u∧Q v H'
def TP (X:Cx) (pins:List (Addr × Obj)) (σ:St) (Q:Bool→Hp→Prop) (b:Bool) (s':Shared):Prop:=∃ H',Inv X pins σ H' s'∧Q b H'
def AP (X:Cx) (pins:List (Addr × Obj)) (σ:St) (Q:List V→Hp→Prop) (us:List Value) (s':Shared):Prop:=∃ vs H',Inv X pins σ H' s'∧Vals vs us∧Q vs H'
def SP (X:Cx) (pins:List (Addr × Obj)) (D:Ends) (f:Flow) (s':Shared):Prop :=
  match f with
  | .next => ∃ σ' H',Inv X pins σ' H' s'∧D.nx σ' H'
  | .brk => ∃ σ' H',Inv X pins σ' H' s'∧D.bk σ' H'
  | .cont => ∃ σ' H',Inv X pins σ' H' s'∧D.ct σ' H'
  | .ret u => ∃ v σ' H',Inv X pins σ' H' s'∧RelV v u∧D.rt v H'
def PE (X:Cx) (e:Expr) (t:TE):Prop :=
  ∀ (pins:List (Addr × Obj)) (s:Shared) (σ:St) (H:Hp) (Q:VK),Inv X pins σ H s→t σ H Q→wpAny (model X.prog X.w) X.A (eval e X.env) (EP X pins σ Q) X.xe s
def PT (X:Cx) (e:Expr) (t:TT):Prop :=
  ∀ (pins:List (Addr × Obj)) (s:Shared) (σ:St) (H:Hp) (Q:Bool→Hp→Prop),Inv X pins σ H s→t σ H Q→wpAny (model X.prog X.w) X.A (isTrue e X.env (eval e X.env)) (TP X pins σ Q) X.xe s
def PW (X:Cx) (e:Expr) (t:TT):Prop :=
  ∀ (whole:Sem Value) (pins:List (Addr × Obj)) (s:Shared) (σ:St) (H:Hp) (Q:Bool→Hp→Prop),Inv X pins σ H s→t σ H Q→wpAny (model X.prog X.w) X.A (isTrue e X.env whole) (TP X pins σ Q) X.xe s
theorem PW.pt {X:Cx} {e:Expr} {t:TT} (h:PW X e t):PT X e t:=h _
def PA (X:Cx) (es:List Expr) (t:TA):Prop :=
  ∀ (pos:Pos) (pins:List (Addr × Obj)) (s:Shared) (σ:St) (H:Hp) (Q:List V→Hp→Prop),Inv X pins σ H s→t σ H Q→wpAny (model X.prog X.w) X.A (spliced (backTo pos (starEach es X.env))) (AP X pins σ Q) X.xe s
def PS (X:Cx) (st:Stmt) (t:TS):Prop :=
  ∀ (pins:List (Addr × Obj)) (s:Shared) (σ:St) (H:Hp) (D:Ends),Inv X pins σ H s→t D σ H→wpAny (model X.prog X.w) X.A (exec st X.env) (SP X pins D) X.xe s
def PSs (X:Cx) (st:List Stmt) (t:TS):Prop :=
  ∀ (pins:List (Addr × Obj)) (s:Shared) (σ:St) (H:Hp) (D:Ends),Inv X pins σ H s→t D σ H→wpAny (model X.prog X.w) X.A (execs st X.env) (SP X pins D) X.xe s
theorem thn {α:Type} {t:Sem α} {Q Q':α→Shared→Prop} {M:Model} {A:Around} {E:Value→Shared→Prop} {s:Shared} (h:wpAny M A t Q E s) (hQ:∀ a s,Q a s→Q' a s):wpAny M A t Q' E s:=wpAny_mono h hQ fun _ _ x=>x
end L2
namespace L2
open PySem PySem.Spec PyProof.Rows
section
variable {X:Cx}
def tVar (i:Nat):TE:=fun σ H Q => ∃ v,σ[i]? = some (some v)∧Q v H
def tC (v:V):TE:=fun _ H Q=>Q v H
theorem pe_var {i:Nat} {x:Str} {pos:Pos} (hN:X.N[i]? = some x) (hv:Vis X.env.scope x) (hd:(x == ("__debug__" : Str))=false:=by decide) (hcd:(x == ("__classdict__" : Str))=false:=by decide):PE X (.Name x pos) (tVar i):=by
  intro pins s σ H Q I h
  obtain ⟨v,e,h⟩:=h
  obtain ⟨m,hn,hl⟩:=I.loc
  obtain ⟨u,r,l⟩:=hl i x v hN e hv
  have fin:EP X pins σ Q u s:=⟨v,H,I,r,h⟩
  rcases l with ⟨hk,hm⟩ | ⟨hk,c,hc,hcell⟩
  · exact wpAny_Name (wpAny_loadName_local I.ok.kind hk hn hm fin) hd
  · rcases hk with hk | hk
    · exact wpAny_Name (wpAny_loadName_cell I.ok.kind hk hc hcell fin) hd
    · exact wpAny_Name (wpAny_loadName_free I.ok.kind hk hc hcell fin hcd) hd
theorem pe_int {i j pos}:PE X (.Constant (.int i) j pos) (tC (.int i)):=fun _ _ _ H _ I h=>wpAny_Constant_int ⟨.int i,H,I.tok _,⟨_,rfl⟩,h⟩
theorem pe_bl {b j pos}:PE X (.Constant (.bool b) j pos) (tC (.bl b)):=fun _ _ _ H _ I h=>Constant_bool ⟨.bl b,H,I,rfl,h⟩
theorem pe_non {j pos}:PE X (.Constant .none j pos) (tC .non):=fun _ _ _ H _ I h=>Constant_none ⟨.non,H,I,rfl,h⟩
theorem pe_str {x j pos}:PE X (.Constant (.str x) j pos) (tC (.str x)):=fun _ _ _ H _ I h=>Calls.Constant_str ⟨.str x,H,I.tok _,⟨_,rfl⟩,h⟩
def Gl (X:Cx) (x:Str):Prop:=X.env.kindOf x=some .globalImplicit
theorem ld_glob {E:Value→Shared→Prop} {pins:List (Addr × Obj)} {s:Shared} {σ:St} {H:Hp} {x:Str} {u:Value} {pos:Pos} {Q:Value→Shared→Prop} (I:Inv X pins σ H s) (hg:Gl X x) (hm:X.mg x=some u) (h:Q u s)
    (hd:(x == ("__debug__" : Str))=false:=by decide):wpAny (model X.prog X.w) X.A (eval (.Name x pos) X.env) Q E s :=
  Calls.Name_function_global I.ok.kind hg (Calls.loadGlobal_global (by rw [I.ok.glob]; exact I.mod.glob.keeps I.bk) hm h) hd
theorem ld_blt {E:Value→Shared→Prop} {pins:List (Addr × Obj)} {s:Shared} {σ:St} {H:Hp} {x:Str} {u:Value} {pos:Pos} {Q:Value→Shared→Prop} (I:Inv X pins σ H s) (hg:Gl X x) (hm:X.mg x=none) (hv:bootBuiltins x=some u) (h:Q u s)
    (hn:x≠"__name__" := by decide) (hd:(x == ("__debug__" : Str))=false:=by decide):wpAny (model X.prog X.w) X.A (eval (.Name x pos) X.env) Q E s:=by
  obtain ⟨mb,h1,h2⟩:=I.mod.blt
  exact Calls.Name_function_global I.ok.kind hg (Calls.loadGlobal_builtin (by rw [I.ok.glob]; exact I.mod.glob.keeps I.bk) hm (by rw [I.ok.blt]; exact h1.keeps I.bk) ((h2 x hn).trans hv) h) hd
variable {a b:Expr} {ta tb:TE} {pos:Pos}
def tB (t:TE):TT:=fun σ H Q=>t σ H fun x H1 => ∃ c,x=.bl c∧Q c H1
theorem pt_val {e:Expr} {t:TE} (h:PE X e t) (he:∀ whole,isTrue e X.env whole=(do let v ← whole; standAt e.pos; holding [v] (truthy v)):=by intro _; rfl):PT X e (tB t):=by
  intro pins s σ H Q I hw
  refine isTrue_plain (thn (h pins s σ H _ I hw) fun v s1 ⟨x,H1,I1,r1,q1⟩=>?_) (he _)
  obtain ⟨d,rfl,q⟩:=q1
  cases r1
  exact wpAny_truthy_bool ⟨H1,I1,q⟩
variable {tA tB':TT} {rest:List Expr}
def tAnd (t u:TT):TT:=fun σ H Q=>t σ H fun c H1=>if c=true then u σ H1 Q else Q false H1
def tOr (t u:TT):TT:=fun σ H Q=>t σ H fun c H1=>if c=true then Q true H1 else u σ H1 Q
def tNot (t:TT):TT:=fun σ H Q=>t σ H fun c H1=>Q (!c) H1
theorem pw_and1 (ha:PT X a tA):PW X (.BoolOp .And [a] pos) tA:=by
  intro wh pins s σ H Q I h
  refine isTrue_and (thn (ha pins s σ H Q I h) fun c s1 e=>?_)
  cases c with
  | true=>exact isTrue_and_nil e
  | false=>exact e
theorem pw_or1 (ha:PT X a tA):PW X (.BoolOp .Or [a] pos) tA:=by
  intro wh pins s σ H Q I h
  refine isTrue_or (thn (ha pins s σ H Q I h) fun c s1 e=>?_)
  cases c with
  | false=>exact isTrue_or_nil e
  | true=>exact e
theorem pw_and (ha:PT X a tA) (hb:PW X (.BoolOp .And (b :: rest) pos) tB'):PW X (.BoolOp .And (a :: b :: rest) pos) (tAnd tA tB'):=by
  intro wh pins s σ H Q I h
  refine isTrue_and (thn (ha pins s σ H _ I h) fun c s1 ⟨H1,I1,q1⟩=>?_)
  cases c with
  | true=>exact hb wh pins s1 σ H1 Q I1 q1
  | false=>exact ⟨H1,I1,q1⟩
theorem pw_or (ha:PT X a tA) (hb:PW X (.BoolOp .Or (b :: rest) pos) tB'):PW X (.BoolOp .Or (a :: b :: rest) pos) (tOr tA tB'):=by
  intro wh pins s σ H Q I h
  refine isTrue_or (thn (ha pins s σ H _ I h) fun c s1 ⟨H1,I1,q1⟩=>?_)
  cases c with
  | true=>exact ⟨H1,I1,q1⟩
  | false=>exact hb wh pins s1 σ H1 Q I1 q1
theorem pt_not (ha:PT X a tA):PT X (.UnaryOp .Not a pos) (tNot tA):=by
  intro pins s σ H Q I h
  exact isTrue_not (ha pins s σ H (fun c H1=>Q (!c) H1) I h)
def tIf (t:TT) (ta tb:TE):TE:=fun σ H Q=>t σ H fun c H1=>if c=true then ta σ H1 Q else tb σ H1 Q
theorem pe_ifExp {c:Expr} (hc:PT X c tA) (ha:PE X a ta) (hb:PE X b tb):PE X (.IfExp c a b pos) (tIf tA ta tb):=by
  intro pins s σ H Q I h
  refine wpAny_IfExp (thn (hc pins s σ H _ I h) fun d s1 ⟨H1,I1,q1⟩=>?_)
  cases d with
  | true=>exact ha pins s1 σ H1 Q I1 q1
  | false=>exact hb pins s1 σ H1 Q I1 q1
end
end L2
namespace L2
open PySem PySem.Spec PyProof.Rows
def SqL (K:PySem.W.Frag) (H:Hp) (a:Addr) (xs:List V):Prop :=
  Rd H a (.lst xs) ∨
    ∃ (o:Obj) (its:Array Value) (n:Nat),K.lookup a=some o∧o.cls=.type "list"∧o.dict=none∧o.data=.seq its n∧its.size≤sizeLine∧Vals xs its.toList
def SqT (K:PySem.W.Frag) (H:Hp) (a:Addr) (xs:List V):Prop :=
  Rd H a (.tup xs) ∨
    ∃ (o:Obj) (its:Array Value) (n:Nat),K.lookup a=some o∧o.cls=.type "tuple"∧o.data=.seq its n∧its.size≤sizeLine∧Vals xs its.toList
def absV:Value→Option V
  | .none=>some .non
  | .bool b=>some (.bl b)
  | .int i _=>some (.int i)
  | .str x _=>some (.str x)
  | .bytes b _=>some (.byt b)
  | .float b _=>some (.flt b)
  | .ref a=>some (.ref a)
  | .type n=>some (.ty n)
  | _=>none
theorem RelV.abs {x:V} {u:Value} (r:RelV x u):absV u=some x:=by
  cases x with
  | non=>cases r; rfl
  | bl _=>cases r; rfl
  | int _=>obtain ⟨t,rfl⟩:=r; rfl
  | str _=>obtain ⟨t,rfl⟩:=r; rfl
  | byt _=>obtain ⟨t,rfl⟩:=r; rfl
  | flt _=>obtain ⟨t,rfl⟩:=r; rfl
  | ref _=>cases r; rfl
  | ty _=>cases r; rfl
theorem RelV.inj {x y:V} {u:Value} (r:RelV x u) (q:RelV y u):x=y:=Option.some.inj (r.abs.symm.trans q.abs)
theorem Vals.inj:∀ {xs ys:List V} {us:List Value},Vals xs us→Vals ys us→xs=ys
  | _,_,_,.nil,.nil=>rfl
  | _,_,_,.cons r t,.cons r' t'=>by rw [r.inj r',Vals.inj t t']
section
variable {X:Cx} {pins:List (Addr × Obj)} {σ:St} {H:Hp} {s:Shared} {a:Addr} {xs ys:List V}
theorem SqL.of {K:PySem.W.Frag} (h:H a=some (.lst xs)):SqL K H a xs:=.inl (.inl h)
theorem SqT.of {K:PySem.W.Frag} (h:H a=some (.tup xs)):SqT K H a xs:=.inl (.inl h)
theorem Inv.list (I:Inv X pins σ H s) (h:SqL X.K H a xs):∃ its:List Value,Vals xs its∧PlainL s.heap a its.toArray∧xs.length≤sizeLine:=by
  rcases h with h | ⟨o,its,n,hk,hc,hd,hs,hz,r⟩
  · obtain ⟨z,its,n,r,e⟩:=h.ok I.hok
    exact ⟨its,r,⟨_,n,e,rfl,rfl,rfl⟩,z⟩
  · refine ⟨its.toList,r,⟨o,n,I.kIn a o hk,hc,hd,by simpa using hs⟩,?_⟩
    have e:=r.length
    simp only [Array.length_toList] at e
    omega
theorem Inv.tuple (I:Inv X pins σ H s) (h:SqT X.K H a xs):∃ its:List Value,Vals xs its∧IsTup s.heap a its.toArray∧xs.length≤sizeLine:=by
  rcases h with h | ⟨o,its,n,hk,hc,hs,hz,r⟩
  · obtain ⟨z,its,r,p⟩:=h.ok I.hok
    exact ⟨its,r,p,z⟩
  · refine ⟨its.toList,r,⟨o,I.kIn a o hk,hc,n,by simpa using hs⟩,?_⟩
    have e:=r.length
    simp only [Array.length_toList] at e
    omega
theorem Inv.list_inj (I:Inv X pins σ H s) (h:SqL X.K H a xs) (h':SqL X.K H a ys):xs=ys:=by
  obtain ⟨its,r,⟨o,n,e,_,_,d⟩,_⟩:=I.list h
  obtain ⟨its',r',⟨o',n',e',_,_,d'⟩,_⟩:=I.list h'
  rw [e] at e'; cases e'
  rw [d] at d'
  injection d' with d1 _
  have:its=its':=by simpa using congrArg Array.toList d1
  subst this
  exact r.inj r'
end
abbrev Cx.wish (X:Cx) (E:Value→Shared→Prop):Cx:={ X with xe:=E }
abbrev Cx.nox (X:Cx):Cx:=X.wish fun _ _=>False
theorem Cx.Ok.wish {X:Cx} (ok:X.Ok) (E:Value→Shared→Prop):(X.wish E).Ok :=
  ⟨ok.mod,ok.kind,ok.glob,ok.blt,ok.above,ok.inj,ok.has,ok.cab,ok.hd,ok.frames,ok.stk,ok.exf,ok.bs,ok.bsz,ok.noex,ok.exfs,ok.funs,ok.frf⟩
theorem Cx.Ok.unwish {X:Cx} {E:Value→Shared→Prop} (ok:(X.wish E).Ok):X.Ok :=
  ⟨ok.mod,ok.kind,ok.glob,ok.blt,ok.above,ok.inj,ok.has,ok.cab,ok.hd,ok.frames,ok.stk,ok.exf,ok.bs,ok.bsz,ok.noex,ok.exfs,ok.funs,ok.frf⟩
section
variable {X:Cx} {pins:List (Addr × Obj)} {σ:St} {H:Hp} {s:Shared} {E:Value→Shared→Prop}
theorem Inv.wish (I:Inv X pins σ H s) (E:Value→Shared→Prop):Inv (X.wish E) pins σ H s:=⟨I.ok.wish E,I.os,I.bare,I.base,I.loc,I.cell,I.free,I.freeC,I.pin,I.hok,I.len⟩
theorem Inv.unwish (I:Inv (X.wish E) pins σ H s):Inv X pins σ H s:=⟨I.ok.unwish,I.os,I.bare,I.base,I.loc,I.cell,I.free,I.freeC,I.pin,I.hok,I.len⟩
theorem SP.unwish {D:Ends} {f:Flow} {s':Shared} (h:SP (X.wish E) pins D f s'):SP X pins D f s':=by
  cases f with
  | next=>obtain ⟨σ',H',I,q⟩:=h; exact ⟨σ',H',I.unwish,q⟩
  | brk=>obtain ⟨σ',H',I,q⟩:=h; exact ⟨σ',H',I.unwish,q⟩
  | cont=>obtain ⟨σ',H',I,q⟩:=h; exact ⟨σ',H',I.unwish,q⟩
  | ret u=>obtain ⟨v,σ',H',I,r,q⟩:=h; exact ⟨v,σ',H',I.unwish,r,q⟩
theorem PSs.nox {st:List Stmt} {t:TS} (h:PSs X.nox st t):PSs X st t:=fun pins s σ H D I hw =>
  wpAny_mono (h pins s σ H D (I.wish _) hw) (fun _ _ q=>q.unwish) fun _ _ z=>False.elim z
end
section
variable {X:Cx} {st:Stmt} {rest:List Stmt} {t u:TS} {e:Expr} {te:TE} {pos:Pos}
def tNext:TS:=fun D σ H=>D.nx σ H
def tSeq (t u:TS):TS:=fun D σ H=>t { D with nx:=u D } σ H
theorem pss_nil:PSs X [] tNext:=fun _ _ σ H _ I h=>wpAny_execs_nil ⟨σ,H,I,h⟩
theorem pss_cons (h1:PS X st t) (h2:PSs X rest u):PSs X (st :: rest) (tSeq t u):=by
  intro pins s σ H D I h
  refine wpAny_execs_cons (thn (h1 pins s σ H { D with nx:=u D } I h) fun f s1 q=>?_)
  cases f with
  | next =>
    obtain ⟨σ',H',I',q⟩:=q
    exact h2 pins s1 σ' H' D I' q
  | ret v=>exact q
  | brk=>exact q
  | cont=>exact q
theorem pss_one (h1:PS X st t):PSs X [st] t:=by
  intro pins s σ H D I h
  refine wpAny_execs_cons (thn (h1 pins s σ H D I h) fun f s1 q=>?_)
  cases f with
  | next=>exact wpAny_execs_nil q
  | ret v=>exact q
  | brk=>exact q
  | cont=>exact q
theorem Inv.quiet {pins:List (Addr × Obj)} {σ:St} {H:Hp} {s:Shared} (I:Inv X pins σ H s):interactive X.env=false:=by simp [interactive,I.ok.kind]
def tDrop (te:TE):TS:=fun D σ H=>te σ H fun _ H1=>D.nx σ H1
theorem ps_expr (he:PE X e te) (hs:swapsWith e none pos.line X.env=pure false:=by rfl):PS X (.Expr e pos) (tDrop te):=by
  intro pins s σ H D I h
  exact wpAny_Expr_any (thn (he pins s σ H _ I h) fun v s1 ⟨x,H1,I1,r1,q1⟩=>⟨σ,H1,I1,q1⟩) I.quiet hs
def tRet (te:TE):TS:=fun D σ H=>te σ H D.rt
theorem ps_ret (he:PE X e te):PS X (.Return (some e) pos) (tRet te):=by
  intro pins s σ H D I h
  exact wpAny_Return_some (thn (he pins s σ H _ I h) fun v s1 ⟨x,H1,I1,r1,q1⟩=>⟨x,σ,H1,I1,r1,q1⟩)
def tIfS (c:TT) (t u:TS):TS:=fun D σ H=>c σ H fun b H1=>if b=true then t D σ H1 else u D σ H1
theorem ps_if {c:Expr} {a b:List Stmt} {tc:TT} (hc:PT X c tc) (ha:PSs X a t) (hb:PSs X b u):PS X (.If c a b pos) (tIfS tc t u):=by
  intro pins s σ H D I h
  refine wpAny_If (thn (hc pins s σ H _ I h) fun d s1 ⟨H1,I1,q1⟩=>?_)
  cases d with
  | true=>exact ha pins s1 σ H1 D I1 q1
  | false=>exact hb pins s1 σ H1 D I1 q1
def tNever:TS:=fun _ _ _=>False
theorem ps_never:PS X st tNever:=fun _ _ _ _ _ _ h=>h.elim
end
abbrev TG:=V→St→Hp→(St→Hp→Prop)→Prop
abbrev TGs:=List V→St→Hp→(St→Hp→Prop)→Prop
def PG (X:Cx) (target:Expr) (t:TG):Prop :=
  ∀ (pins:List (Addr × Obj)) (s:Shared) (σ:St) (H:Hp) (v:V) (u:Value) (Q:St→Hp→Prop),Inv X pins σ H s→RelV v u→t v σ H Q →
    wpAny (model X.prog X.w) X.A (assign target X.env u) (fun _ s' => ∃ σ' H',Inv X pins σ' H' s'∧Q σ' H') X.xe s
def PGs (X:Cx) (ts:List Expr) (t:TGs):Prop :=
  ∀ (pins:List (Addr × Obj)) (s:Shared) (σ:St) (H:Hp) (vs:List V) (us:List Value) (Q:St→Hp→Prop),Inv X pins σ H s→Vals vs us→t vs σ H Q →
    wpAny (model X.prog X.w) X.A (assignInOrder ((assignEach ts X.env).map (·.2)) us) (fun _ s' => ∃ σ' H',Inv X pins σ' H' s'∧Q σ' H') X.xe s
abbrev TSet:=V→V→V→Hp→(Hp→Prop)→Prop
def PSet (X:Cx) (t:TSet):Prop :=
  ∀ (pins:List (Addr × Obj)) (s:Shared) (σ:St) (H:Hp) (o i v:V) (ov iv u:Value) (Q:Hp→Prop),Inv X pins σ H s→RelV o ov→RelV i iv→RelV v u→t o i v H Q →
    wpAny (model X.prog X.w) X.A (setItem ov iv u) (fun _ s' => ∃ H',Inv X pins σ H' s'∧Q H') X.xe s
section
variable {X:Cx} {pos:Pos}
def gName (i:Nat):TG:=fun v σ H Q=>Q (σ.set i (some v)) H
theorem pg_name {i:Nat} {x:Str} (hN:X.N.Nodup) (hi:X.N[i]? = some x) (hx:Loc X.env.scope x) (hf:X.fn x=true∨X.env.scope.names.lookup x=some .local:=by first | exact .inl rfl | exact .inr rfl | assumption):PG X (.Name x pos) (gName i):=by
  intro pins s σ H v u Q I r h
  exact wpAny_assign_Name (store_ok I hN hi hx r (fun s' I'=>⟨_,H,I',h⟩) hf)
def gNil:TGs:=fun vs σ H Q=>vs=[]∧Q σ H
def gCons (t:TG) (u:TGs):TGs:=fun vs σ H Q => ∃ v r,vs=v :: r∧t v σ H fun σ' H'=>u r σ' H' Q
theorem pgs_nil:PGs X [] gNil:=by
  intro pins s σ H vs us Q I r h
  obtain ⟨e,h⟩:=h
  subst e
  cases r
  exact assignInOrder_nil ⟨σ,H,I,h⟩
theorem pgs_cons {e:Expr} {es:List Expr} {t:TG} {u:TGs} (h1:PG X e t) (h2:PGs X es u)
    (hs:(assignEach (e :: es) X.env).map (·.2)=assign e X.env :: (assignEach es X.env).map (·.2):=by rfl):PGs X (e :: es) (gCons t u):=by
  intro pins s σ H vs us Q I r h
  obtain ⟨v,vr,e1,h⟩:=h
  subst e1
  cases r with
  | cons r rr =>
    rw [hs]
    refine assignInOrder_cons (thn (h1 pins s σ H _ _ _ I r h) fun _ s1 ⟨σ1,H1,I1,q1⟩=>?_)
    exact h2 pins s1 σ1 H1 _ _ Q I1 rr q1
def gTup (K:PySem.W.Frag) (n:Nat) (t:TGs):TG:=fun v σ H Q => ∃ a xs,v=.ref a∧SqT K H a xs∧xs.length=n∧t xs σ H Q
theorem pg_tup {es:List Expr} {k:Nat} {t:TGs} {n:Nat} (hc:X.calm=true) (h:PGs X es t)
    (hn:(assignEach es X.env).length=n:=by rfl) (hst:(assignEach es X.env).findIdx? (·.1)=none:=by rfl):PG X (.Tuple es k pos) (gTup X.K n t):=by
  intro pins s σ H v u Q I r hw
  obtain ⟨a,xs,e1,hq,hl,hw⟩:=hw
  subst e1
  cases r
  obtain ⟨its,rv,ht,hz⟩:=I.tuple hq
  refine assign_Tuple_tuple (I.ok.hd hc) ht (by simp [hn,← hl,rv.length]) hst fun h' hx=>?_
  have I1:Inv X pins σ H { s with heap:=h' }:=I.kept (t':=s.toks) fun b o e=>hx b o (Nat.ne_of_lt (Heap.lt_size e)) e
  exact h pins _ σ H xs _ Q I1 (by simpa using rv) hw
def gSub (to ti:TE) (t:TSet):TG:=fun v σ H Q=>to σ H fun o H1=>ti σ H1 fun i H2=>t o i v H2 fun H3=>Q σ H3
theorem pg_sub {o i:Expr} {to ti:TE} {t:TSet} (ho:PE X o to) (hi:PE X i ti) (hs:PSet X t)
    (ha:∀ v,assign (.Subscript o i pos) X.env v=(do
      let ov ← holding [v] (eval o X.env)
      let iv ← holding [v,ov] (eval i X.env)
      standAt pos
      holding [v,ov,iv] (setItem ov iv v)
      release [v,ov,iv] []):=by intro _; rfl):PG X (.Subscript o i pos) (gSub to ti t):=by
  intro pins s σ H v u Q I r h
  rw [ha]
  refine wpAny_bind (wpAny_holding (thn (ho pins s σ H _ I h) fun ov s1 ⟨x,H1,I1,r1,q1⟩=>?_))
  refine wpAny_bind (wpAny_holding (thn (hi pins s1 σ H1 _ I1 q1) fun iv s2 ⟨y,H2,I2,r2,q2⟩=>?_))
  refine wpAny_bind (wpAny_standAt (wpAny_bind (wpAny_holding (thn (hs pins s2 σ H2 x y v ov iv u _ I2 r1 r2 r q2) fun _ s3 ⟨H3,I3,q3⟩=>?_))))
  exact wpAny_release ⟨σ,H3,I3,q3⟩
def tAsg (te:TE) (g:TG):TS:=fun D σ H=>te σ H fun x H1=>g x σ H1 D.nx
theorem ps_asg {tg e:Expr} {te:TE} {g:TG} (he:PE X e te) (hg:PG X tg g) (hs:swapsWithSole [tg] e pos.line X.env=pure false:=by rfl) (hw:swappedStores [tg] e X.env=pure none:=by rfl)
    (h1:(assignEach [tg] X.env).map (·.2)=[assign tg X.env]:=by rfl):PS X (.Assign [tg] e pos) (tAsg te g):=by
  intro pins s σ H D I h
  refine wpAny_Assign_stores (thn (he pins s σ H _ I h) fun v s1 ⟨x,H1,I1,r1,q1⟩=>?_) hs hw
  rw [h1]
  exact thn (hg pins s1 σ H1 x v _ I1 r1 q1) fun _ s2 q=>q
theorem ps_set {i:Nat} {x:Str} {e:Expr} {te:TE} {pos':Pos} (hN:X.N.Nodup) (hi:X.N[i]? = some x) (hx:Loc X.env.scope x) (he:PE X e te) (hs:swapsWith e (some (.Name x pos')) pos.line X.env=pure false:=by rfl) (hf:X.fn x=true∨X.env.scope.names.lookup x=some .local:=by first | exact .inl rfl | exact .inr rfl | assumption) :
    PS X (.Assign [.Name x pos'] e pos) (tAsg te (gName i)):=by
  intro pins s σ H D I h
  refine wpAny_Assign_Name (thn (he pins s σ H _ I h) fun v s1 ⟨y,H1,I1,r1,q1⟩=>?_) hs
  exact store_ok I1 hN hi hx r1 (fun s2 I2=>⟨_,H1,I2,q1⟩) hf
end
section
variable {X:Cx} {pos:Pos}
def tWhile (c:TT) (tb:TS):TS:=fun D σ H => ∃ W:Nat→St→Hp→Prop,(∃ m,W m σ H)∧∀ m σ H,W m σ H →
  c σ H fun b H1=>if b=true then ∃ N:St→Hp→Prop,(∀ σ' H',N σ' H'→∃ m',m' < m∧W m' σ' H')∧tb { D with nx:=N,ct:=N,bk:=D.nx } σ H1 else D.nx σ H1
theorem ps_while {c:Expr} {body:List Stmt} {tc:TT} {tb:TS} (hp:PassesOwn (model X.prog X.w) X.A X.env X.xe) (hc:PT X c tc) (hb:PSs X body tb):PS X (.While c body [] pos) (tWhile tc tb):=by
  intro pins s σ H D I h
  obtain ⟨W,⟨m0,w0⟩,turn⟩:=h
  refine wpAny_While (codeAny_whileLoop (fun n s' => ∃ σ' H',Inv X pins σ' H' s'∧W n σ' H') ?_ m0 ⟨σ,H,I,w0⟩)
  rintro n s1 ⟨σ1,H1,I1,w1⟩
  refine wpAny_passesOwn hp (thn (hc pins s1 σ1 H1 _ I1 (turn n σ1 H1 w1)) fun b s2 ⟨H2,I2,q2⟩=>?_)
  cases b with
  | true =>
    obtain ⟨N,hN,q2⟩:=q2
    rw [if_pos rfl]
    refine wpAny_passesOwn hp (thn (hb pins s2 σ1 H2 _ I2 q2) fun f s3 q3=>?_)
    cases f with
    | next =>
      obtain ⟨σ3,H3,I3,n3⟩:=q3
      obtain ⟨m',hm,w3⟩:=hN σ3 H3 n3
      exact ⟨m',hm,σ3,H3,I3,w3⟩
    | cont =>
      obtain ⟨σ3,H3,I3,n3⟩:=q3
      obtain ⟨m',hm,w3⟩:=hN σ3 H3 n3
      exact ⟨m',hm,σ3,H3,I3,w3⟩
    | brk=>exact q3
    | ret v=>exact q3
  | false =>
    rw [if_neg Bool.false_ne_true]
    exact wpAny_execs_nil ⟨σ1,H2,I2,q2⟩
end
structure It where
  go:Nat→Hp→Prop
  yld:Nat→Hp→V→Hp→Prop
  stop:Nat→Hp→Prop
def FpOk (X:Cx) (pins:List (Addr × Obj)) (H:Hp) (b:Addr):Prop :=
  H b=none∧b≠X.env.locals∧b ∉ X.fs∧(b∈X.ex∨X.s₀.heap.objs.size≤b)∧(∀ x c,X.env.cells.lookup x=some c→c≠b)∧∀ p∈X.pn ++ pins,p.1≠b
theorem Inv.fpOk {X:Cx} {pins:List (Addr × Obj)} {σ:St} {H H':Hp} {s:Shared} {b:Addr} (I:Inv X pins σ H s) (hb:s.heap.objs.size≤b) (hn:H' b=none):FpOk X pins H' b:=by
  refine ⟨hn,Nat.ne_of_gt (Nat.lt_of_lt_of_le I.lt hb),I.nofs hb,.inr (Nat.le_trans I.sz hb),fun x c e z=>?_,fun p hp z=>?_⟩
  · obtain ⟨v,q⟩:=I.cell x c e
    exact absurd (Nat.lt_of_lt_of_le q.lt (by rw [z]; exact hb)) (Nat.lt_irrefl _)
  · exact absurd (Nat.lt_of_lt_of_le (Heap.lt_size (I.pin p hp).1) (by rw [z]; exact hb)) (Nat.lt_irrefl _)
structure Turn (P:Program) (w:World) (K:PySem.W.Frag) (tg:Expr) (J:It) (fp:List Addr) (it:Addr) (tn:Nat→Heap→Prop):Prop where
  mem:it∈fp
  obj:∀ i h,tn i h→∀ b∈fp,∃ o,h.get? b=some o∧∀ v,o.data≠.cell v
  keep:∀ i h h',tn i h→(∀ b∈fp,∀ o,h.get? b=some o→h'.get? b=some o)→tn i h'
  item:∀ (X:Cx),X.prog=P→X.w=w→X.K=K→X.calm=true→∀ (i:Nat) (pins:List (Addr × Obj)) (s:Shared) (σ:St) (H:Hp) (E:Value→Shared→Prop),Inv X pins σ H s→(∀ b∈fp,FpOk X pins H b)→tn i s.heap→J.go i H →
    wpAny (model P w) X.A (pyNext (.ref it)) (fun r s1 => ∃ u,r=some u ∧
      wpAny (model P w) X.A (letOwnedTupleGo tg (.ref it) u) (fun _ s2 => ∃ x H',Inv X pins σ H' s2∧RelV x u∧J.yld i H x H'∧tn (i + 1) s2.heap∧∀ b∈fp,H' b=none) E s1) E s
  done:∀ (X:Cx),X.prog=P→X.w=w→X.K=K→X.calm=true→∀ (i:Nat) (pins:List (Addr × Obj)) (s:Shared) (σ:St) (H:Hp) (E:Value→Shared→Prop),Inv X pins σ H s→(∀ b∈fp,FpOk X pins H b)→tn i s.heap→J.stop i H →
    wpAny (model P w) X.A (pyNext (.ref it)) (fun r s1=>r=none∧Inv X pins σ H s1) E s
  self:∀ (A:Around) (i:Nat) (s:Shared) (Q:Value→Shared→Prop) (E:Value→Shared→Prop),tn i s.heap→Q (.ref it) s→wpAny (model P w) A (pyIter (.ref it)) Q E s
abbrev TI:=St→Hp→(It→Hp→Prop)→Prop
def PIE (X:Cx) (pins:List (Addr × Obj)) (σ:St) (tg:Expr) (R:It→Hp→Prop) (itv:Value) (s2:Shared):Prop :=
  ∃ (it:Addr) (fp:List Addr) (tn:Nat→Heap→Prop) (J:It) (H':Hp),itv=.ref it∧Inv X pins σ H' s2∧Turn X.prog X.w X.K tg J fp it tn∧tn 0 s2.heap∧(∀ b∈fp,FpOk X pins H' b)∧R J H'
def PI (X:Cx) (tg iter:Expr) (wi:TI):Prop :=
  ∀ (pins:List (Addr × Obj)) (s:Shared) (σ:St) (H:Hp) (R:It→Hp→Prop),Inv X pins σ H s→wi σ H R →
    wpAny (model X.prog X.w) X.A (eval iter X.env) (fun v s1=>wpAny (model X.prog X.w) X.A (pyIter v) (PIE X pins σ tg R) X.xe s1) X.xe s
theorem go_of {M:Model} {A:Around} {E:Value→Shared→Prop} {s:Shared} {tg:Expr} {it:Addr} {u:Value} {o:Obj} {n:String} {vs:Array Value} {Q:Unit→Shared→Prop} (ho:s.heap.get? it=some o) (hc:o.cls=.type n) (hd:o.data=.fields vs)
    (hn:["enumerate","zip","dict_itemiterator","dict_reverseitemiterator","odict_iterator","itertools.zip_longest","itertools.pairwise"].contains n=false) (hQ:Q () s):wpAny M A (letOwnedTupleGo tg (.ref it) u) Q E s:=by
  unfold letOwnedTupleGo
  cases tg <;> first
    | exact wpAny_pure hQ
    | (cases u <;> first
        | exact wpAny_pure hQ
        | (refine wpAny_bind (wpAny_load ho ?_)
           rw [hc,hd]
           show wpAny M A (if (["enumerate","zip","dict_itemiterator","dict_reverseitemiterator","odict_iterator","itertools.zip_longest","itertools.pairwise"].contains n && vs[0]? == some (rawInt _))=true then _ else _) Q E s
           rw [if_neg (by intro h; rw [hn,Bool.false_and] at h; cases h)]
           exact wpAny_pure hQ))
def Itl (K:PySem.W.Frag) (a:Addr):It :=
  ⟨fun i H => ∃ xs x,SqL K H a xs∧xs[i]? = some x,fun i H x H'=>H'=H∧∀ xs,SqL K H a xs→xs[i]? = some x,fun i H => ∃ xs,SqL K H a xs∧xs.length≤i⟩
def Itr (lo:Int) (n:Nat):It:=⟨fun i _=>i < n,fun i H x H'=>H'=H∧x=.int (lo + i),fun i _=>n≤i⟩
theorem turn_list {P:Program} {w:World} {K:PySem.W.Frag} {tg:Expr} (a it:Addr):Turn P w K tg (Itl K a) [it] it (fun i h=>h.IsListIter it a i) where
  mem:=by simp
  obj:=fun i h st b hb=>by
    have e:b=it:=by simpa using hb
    subst e
    obtain ⟨o,e,c,d⟩:=st
    exact ⟨o,e,fun v z=>by rw [d] at z; cases z⟩
  keep:=fun i h h' st k=>st.at fun o e=>k it (by simp) o e
  item:=by
    intro X hP hw hK hc i pins s σ H E I hf st hg
    subst hP hw hK
    obtain ⟨xs,x,hq,hx⟩:=hg
    obtain ⟨its,rv,p,hz⟩:=I.list hq
    obtain ⟨u,hu,ru⟩:=rv.get hx
    obtain ⟨f0,f1,f2,f3,f4,f5⟩:=hf it (by simp)
    refine wpAny_pyNext_list_item st p.isList (x:=u) (by simpa using hu) fun h' st' sb=>?_
    have I1:Inv X pins σ H { s with heap:=h' }:=I.turned (t':=s.toks) (fun b o hb e=>(sb.2 b hb).trans e) f0 f1 f3 f4 f5
    obtain ⟨o,e,c,d⟩:=id st'
    exact ⟨u,rfl,go_of (s:={ s with heap:=h' }) e c d (by decide) ⟨x,H,I1,ru,⟨rfl,fun ys hy=>by rw [I.list_inj hy hq]; exact hx⟩,st',fun b hb=>(hf b hb).1⟩⟩
  done:=by
    intro X hP hw hK hc i pins s σ H E I hf st hg
    subst hP hw hK
    obtain ⟨xs,hq,hx⟩:=hg
    obtain ⟨its,rv,p,hz⟩:=I.list hq
    obtain ⟨f0,f1,f2,f3,f4,f5⟩:=hf it (by simp)
    have hl:=rv.length
    exact wpAny_pyNext_list_end (I.ok.hd hc) st p.isList (by simp; omega) fun h' eb=>⟨rfl,I.turned (t':=s.toks) (fun b o hb e=>eb b o hb e) f0 f1 f3 f4 f5⟩
  self:=fun _ _ _ _ _ st h=>wpAny_pyIter_listiter st h
theorem turn_range {P:Program} {w:World} {K:PySem.W.Frag} {tg:Expr} (it:Addr) (lo:Int) (n:Nat):Turn P w K tg (Itr lo n) [it] it (fun i h=>IsRangeIter h it (lo + (i:Nat) * 1) ((n:Int) - (i:Nat)) 1) where
  mem:=by simp
  obj:=fun i h st b hb=>by
    have e:b=it:=by simpa using hb
    subst e
    exact ⟨_,st,fun v z=>by
      have z':Data.fields _=Data.cell v:=z
      cases z'⟩
  keep:=fun i h h' st k=>k it (by simp) _ st
  item:=by
    intro X hP hw hK hc i pins s σ H E I hf st hg
    subst hP hw hK
    obtain ⟨f0,f1,f2,f3,f4,f5⟩:=hf it (by simp)
    have W:=Walks.range (prog:=X.prog) (w:=X.w) (I.ok.hd hc) it lo 1 n
    refine W.item i s _ _ hg st fun v h' tk hv st' kk=>?_
    obtain ⟨t,rfl⟩:=hv
    have I1:Inv X pins σ H { s with heap:=h',toks:=tk }:=I.turned (fun b o hb e=>kk b o (by simpa using hb) e) f0 f1 f3 f4 f5
    refine ⟨_,rfl,go_of (s:={ s with heap:=h',toks:=tk }) (n:="range_iterator") st' rfl rfl (by decide) ⟨.int (lo + i),H,I1,⟨t,?_⟩,⟨rfl,rfl⟩,st',fun b hb=>(hf b hb).1⟩⟩
    rw [Int.mul_one]
  done:=by
    intro X hP hw hK hc i pins s σ H E I hf st hg
    subst hP hw hK
    obtain ⟨f0,f1,f2,f3,f4,f5⟩:=hf it (by simp)
    exact wpAny_pyNext_range_end (I.ok.hd hc) st (by have:n≤i:=hg; omega) fun h' eb=>⟨rfl,I.turned (t':=s.toks) (fun b o hb e=>eb b o hb e) f0 f1 f3 f4 f5⟩
  self:=fun _ _ _ _ _ st h=>wpAny_pyIter_rangeiter st h
end L2
namespace L2
open PySem PySem.Spec PyProof.Rows
section
variable {X:Cx} {tg:Expr}
def iList (K:PySem.W.Frag) (tl:TE):TI:=fun σ H R=>tl σ H fun x H1 => ∃ a,x=.ref a∧(∃ xs,SqL K H1 a xs)∧R (Itl K a) H1
theorem pi_list {l:Expr} {tl:TE} (hl:PE X l tl):PI X tg l (iList X.K tl):=by
  intro pins s σ H R I h
  refine thn (hl pins s σ H _ I h) fun v s1 ⟨x,H1,I1,r1,q1⟩=>?_
  obtain ⟨a,e,⟨xs,hq⟩,q⟩:=q1
  subst e
  cases r1
  obtain ⟨its,rv,p,hz⟩:=I1.list hq
  refine wpAny_pyIter_list p.isList ?_
  refine ⟨s1.heap.objs.size,[s1.heap.objs.size],_,_,H1,rfl,I1.kept (t':=s1.toks) fun b o e=>Heap.get?_push_of_some _ e,turn_list a _,⟨_,Heap.get?_push_size _ rfl,rfl,rfl⟩,fun b hb=>?_,q⟩
  have e:b=s1.heap.objs.size:=by simpa using hb
  subst e
  exact I1.fpOk (Nat.le_refl _) (I1.hok.fresh (Nat.le_refl _))
theorem range_it {pins:List (Addr × Obj)} {σ:St} {H:Hp} {s:Shared} {R:It→Hp→Prop} {E:Value→Shared→Prop} {lo hi:Int} {t u v:Tok} {tk:Nat} (I:Inv X pins σ H s) (h1:-(2 ^ 62)≤lo) (h2:lo < 2 ^ 62) (h3:-(2 ^ 62)≤hi) (h4:hi < 2 ^ 62)
    (q:R (Itr lo (hi - lo).toNat) H):wpAny (model X.prog X.w) X.A (pyIter (.ref s.heap.objs.size)) (PIE X pins σ tg R) E { s with heap:=s.heap.push { cls:=.type "range",data:=.fields #[.int lo t,.int hi u,.int 1 v] },toks:=tk }:=by
  refine wpAny_pyIter_range (IsRange.new ..) (small_one h1 h2 h3 h4) ?_
  have I1:Inv X pins σ H { s with heap:=s.heap.push { cls:=.type "range",data:=.fields #[.int lo t,.int hi u,.int 1 v] },toks:=tk }:=I.kept fun b o e=>Heap.get?_push_of_some _ e
  refine ⟨(s.heap.push { cls:=.type "range",data:=.fields #[.int lo t,.int hi u,.int 1 v] }).objs.size,[(s.heap.push { cls:=.type "range",data:=.fields #[.int lo t,.int hi u,.int 1 v] }).objs.size],_,_,H,rfl,
    I1.kept (t':=tk) fun b o e=>Heap.get?_push_of_some _ e,turn_range _ lo (hi - lo).toNat,?_,fun b hb=>?_,q⟩
  · have e1:lo + ((0:Nat):Int) * 1=lo:=by simp
    have e2:(((hi - lo).toNat:Nat):Int) - ((0:Nat):Int)=Builtin.Range.rangeSize lo hi 1:=by rw [rangeSize_one]; split <;> omega
    show IsRangeIter _ _ (lo + ((0:Nat):Int) * 1) ((((hi - lo).toNat:Nat):Int) - ((0:Nat):Int)) 1
    rw [e1,e2]
    exact Heap.get?_push_size _ rfl
  · have e:b=(s.heap.push { cls:=.type "range",data:=.fields #[.int lo t,.int hi u,.int 1 v] }).objs.size:=by simpa using hb
    subst e
    exact I1.fpOk (Nat.le_refl _) (I1.hok.fresh (Nat.le_refl _))
def iRng1 (ta:TA):TI:=fun σ H R=>ta σ H fun vs H1 => ∃ j:Int,vs=[.int j]∧-(2 ^ 62)≤j∧j < 2 ^ 62∧R (Itr 0 j.toNat) H1
theorem pi_range1 {a:Expr} {ta:TA} {p pos:Pos} (hg:Gl X "range") (hm:X.mg "range" = none) (ha:PA X [a] ta) (hs:starEach [a] X.env=[(false,eval a X.env)]:=by rfl):PI X tg (.Call (.Name "range" p) [a] [] pos) (iRng1 ta):=by
  intro pins s σ H R I h
  refine Call_ (ld_blt I hg hm boot_range (PyProof.Rows.callWith_type1 (thn (ha pos pins s σ H _ I h) fun us s1 ⟨vs,H1,I1,r1,q1⟩=>?_) hs rfl))
  obtain ⟨j,e,q1,q2,q⟩:=q1
  subst e
  cases r1 with
  | cons r rr =>
    cases rr
    obtain ⟨t,rfl⟩:=r
    exact call_range_1 (range_it I1 (by omega) (by omega) q1 q2 (by simpa using q))
def tFor (wi:TI) (g:TG) (tb:TS):TS:=fun D σ H=>wi σ H fun J H1 => ∃ W:Nat→Nat→St→Hp→Prop,(∃ m,W 0 m σ H1)∧∀ i m σ H,W i m σ H →
  (J.stop i H∧D.nx σ H)∨(J.go i H∧∃ N:St→Hp→Prop,(∀ σ' H',N σ' H'→∃ m',m' < m∧W (i + 1) m' σ' H')∧∀ x H',J.yld i H x H'→g x σ H' fun σ2 H2=>tb { D with nx:=N,ct:=N,bk:=D.nx } σ2 H2)
def pinsAt (fp:List Addr) (h:Heap):List (Addr × Obj):=fp.filterMap fun b=>(h.get? b).map fun o=>(b,o)
theorem mem_pinsAt {fp:List Addr} {h:Heap} {b:Addr} {o:Obj} (hb:b∈fp) (e:h.get? b=some o):(b,o)∈pinsAt fp h:=List.mem_filterMap.mpr ⟨b,hb,by rw [e]; rfl⟩
theorem of_pinsAt {fp:List Addr} {h:Heap} {p:Addr × Obj} (hp:p∈pinsAt fp h):p.1∈fp∧h.get? p.1=some p.2:=by
  obtain ⟨b,hb,e⟩:=List.mem_filterMap.mp hp
  cases q:h.get? b with
  | none=>rw [q] at e; cases e
  | some o =>
    rw [q] at e
    have e':(b,o)=p:=Option.some.inj e
    subst e'
    exact ⟨hb,q⟩
theorem Inv.pinned {pins:List (Addr × Obj)} {σ:St} {H:Hp} {s:Shared} {fp:List Addr} (I:Inv X pins σ H s) (hf:∀ b∈fp,FpOk X pins H b) (ho:∀ b∈fp,∃ o,s.heap.get? b=some o∧∀ v,o.data≠.cell v):Inv X (pins ++ pinsAt fp s.heap) σ H s :=
  I.pins_of fun p hp=>(List.mem_append.mp hp).elim (fun z=>I.pin p (List.mem_append_right _ z)) fun z=>by
    obtain ⟨hb,e⟩:=of_pinsAt z
    obtain ⟨f0,f1,f2,_⟩:=hf p.1 hb
    obtain ⟨o,e',d⟩:=ho p.1 hb
    rw [e] at e'; cases e'
    exact ⟨e,f0,f1,f2,d⟩
theorem Inv.unpinned {pins pl:List (Addr × Obj)} {σ:St} {H:Hp} {s:Shared} (I:Inv X (pins ++ pl) σ H s):Inv X pins σ H s:=I.pins_of fun p hp=>I.pin p (List.mem_append_right _ (List.mem_append_left _ hp))
theorem ps_for {iter:Expr} {body:List Stmt} {wi:TI} {g:TG} {tb:TS} {pos:Pos} (hp:PassesOwn (model X.prog X.w) X.A X.env X.xe) (hc:X.calm=true) (hi:PI X tg iter wi) (hg:PG X tg g) (hb:PSs X body tb)
    (hs:∀ x,foldedSetIterable iter X.env x=pure x:=by intro _; rfl):PS X (.For tg iter body [] pos) (tFor wi g tb):=by
  intro pins s σ H D I h
  refine wpAny_For (thn (hi pins s σ H _ I h) fun v s1 h1=>thn h1 fun itv s2 h2=>?_) hs
  obtain ⟨it,fp,tn,J,H2,e,I2,T,st2,f2,W,⟨m0,w0⟩,turn⟩:=h2
  subst e
  have stat:∀ {H':Hp},(∀ b∈fp,H' b=none)→∀ b∈fp,FpOk X pins H' b:=fun hn b hb=>⟨hn b hb,(f2 b hb).2⟩
  refine codeAny_forLoop_any (fun n s' => ∃ i σ' H',Inv X pins σ' H' s'∧tn i s'.heap∧(∀ b∈fp,H' b=none)∧W i n σ' H') ?_ m0 ⟨0,σ,H2,I2,st2,fun b hb=>(f2 b hb).1,w0⟩
  rintro n s3 ⟨i,σ3,H3,I3,st3,fr3,w3⟩
  rcases turn i n σ3 H3 w3 with ⟨stop,qn⟩ | ⟨go,N,hN,step⟩
  · refine wpAny_passesOwn hp (thn (T.done X rfl rfl rfl hc i pins s3 σ3 H3 X.xe I3 (stat fr3) st3 stop) fun r s4 ⟨hr,I4⟩=>?_)
    subst hr
    exact wpAny_execs_nil ⟨σ3,H3,I4,qn⟩
  · refine wpAny_passesOwn hp (thn (T.item X rfl rfl rfl hc i pins s3 σ3 H3 X.xe I3 (stat fr3) st3 go) fun r s4 ⟨u,hr,h4⟩=>?_)
    subst hr
    refine wpAny_passesOwn hp (thn h4 fun _ s5 ⟨x,H5,I5,r5,y5,st5,fr5⟩=>?_)
    have I5':=I5.pinned (stat fr5) (T.obj _ _ st5)
    refine wpAny_passesOwn hp (thn (hg _ s5 σ3 H5 x u _ I5' r5 (step x H5 y5)) fun _ s6 ⟨σ6,H6,I6,q6⟩=>?_)
    refine wpAny_passesOwn hp (thn (hb _ s6 σ6 H6 _ I6 q6) fun f s7 q7=>?_)
    have again:∀ {σ7:St} {H7:Hp},Inv X (pins ++ pinsAt fp s5.heap) σ7 H7 s7→N σ7 H7→∃ m,m < n∧∃ i σ' H',Inv X pins σ' H' s7∧tn i s7.heap∧(∀ b∈fp,H' b=none)∧W i m σ' H':=fun {σ7 H7} I7 n7=>by
      obtain ⟨m',hm,w7⟩:=hN σ7 H7 n7
      refine ⟨m',hm,i + 1,σ7,H7,I7.unpinned,T.keep _ _ _ st5 fun b hb o e=>(I7.pin (b,o) (List.mem_append_right _ (List.mem_append_right _ (mem_pinsAt hb e)))).1,fun b hb=>?_,w7⟩
      obtain ⟨o,e,d⟩:=T.obj _ _ st5 b hb
      exact (I7.pin (b,o) (List.mem_append_right _ (List.mem_append_right _ (mem_pinsAt hb e)))).2.1
    cases f with
    | next=>obtain ⟨σ7,H7,I7,n7⟩:=q7; exact again I7 n7
    | cont=>obtain ⟨σ7,H7,I7,n7⟩:=q7; exact again I7 n7
    | brk=>obtain ⟨σ7,H7,I7,q7⟩:=q7; exact ⟨σ7,H7,I7.unpinned,q7⟩
    | ret v=>obtain ⟨x7,σ7,H7,I7,r7,q7⟩:=q7; exact ⟨x7,σ7,H7,I7.unpinned,r7,q7⟩
end
theorem for_list {K:PySem.W.Frag} {a:Addr} {xs:List V} {g:TG} {tb:TS} {D:Ends} {σ:St} {H:Hp} (Pv:Nat→St→Hp→Prop) (h0:Pv 0 σ H) (hl:∀ i σ H,i≤xs.length→Pv i σ H→SqL K H a xs)
    (hs:∀ i x σ H,xs[i]? = some x→Pv i σ H→g x σ H fun σ2 H2=>tb { D with nx:=Pv (i + 1),ct:=Pv (i + 1),bk:=D.nx } σ2 H2) (hd:∀ σ H,Pv xs.length σ H→D.nx σ H) :
    ∃ W:Nat→Nat→St→Hp→Prop,(∃ m,W 0 m σ H)∧∀ i m σ H,W i m σ H →
      ((Itl K a).stop i H∧D.nx σ H)∨((Itl K a).go i H∧∃ N:St→Hp→Prop,(∀ σ' H',N σ' H'→∃ m',m' < m∧W (i + 1) m' σ' H')∧∀ x H',(Itl K a).yld i H x H'→g x σ H' fun σ2 H2=>tb { D with nx:=N,ct:=N,bk:=D.nx } σ2 H2):=by
  refine ⟨fun i m σ H=>m=xs.length - i∧i≤xs.length∧Pv i σ H,⟨xs.length,by simp,Nat.zero_le _,h0⟩,?_⟩
  rintro i m σ H ⟨rfl,hi,p⟩
  have q:=hl i σ H hi p
  by_cases hlt:i < xs.length
  · refine .inr ⟨⟨xs,xs[i],q,by simp [hlt]⟩,Pv (i + 1),fun σ' H' p'=>⟨xs.length - (i + 1),by omega,rfl,hlt,p'⟩,fun x H' y=>?_⟩
    obtain ⟨e,y⟩:=y
    subst e
    exact hs i x σ _ (y xs q) p
  · have e:i=xs.length:=by omega
    subst e
    exact .inl ⟨⟨xs,q,Nat.le_refl _⟩,hd σ H p⟩
theorem for_range {lo:Int} {n:Nat} {g:TG} {tb:TS} {D:Ends} {σ:St} {H:Hp} (Pv:Nat→St→Hp→Prop) (h0:Pv 0 σ H)
    (hs:∀ i σ H,i < n→Pv i σ H→g (.int (lo + i)) σ H fun σ2 H2=>tb { D with nx:=Pv (i + 1),ct:=Pv (i + 1),bk:=D.nx } σ2 H2) (hd:∀ σ H,Pv n σ H→D.nx σ H) :
    ∃ W:Nat→Nat→St→Hp→Prop,(∃ m,W 0 m σ H)∧∀ i m σ H,W i m σ H →
      ((Itr lo n).stop i H∧D.nx σ H)∨((Itr lo n).go i H∧∃ N:St→Hp→Prop,(∀ σ' H',N σ' H'→∃ m',m' < m∧W (i + 1) m' σ' H')∧∀ x H',(Itr lo n).yld i H x H'→g x σ H' fun σ2 H2=>tb { D with nx:=N,ct:=N,bk:=D.nx } σ2 H2):=by
  refine ⟨fun i m σ H=>m=n - i∧i≤n∧Pv i σ H,⟨n,by simp,Nat.zero_le _,h0⟩,?_⟩
  rintro i m σ H ⟨rfl,hi,p⟩
  by_cases hlt:i < n
  · refine .inr ⟨hlt,Pv (i + 1),fun σ' H' p'=>⟨n - (i + 1),by omega,rfl,hlt,p'⟩,fun x H' y=>?_⟩
    obtain ⟨e,y⟩:=y
    subst e y
    exact hs i σ _ hlt p
  · have e:i=n:=by omega
    subst e
    exact .inl ⟨Nat.le_refl _,hd σ H p⟩
end L2
namespace L2
open PySem PySem.Spec PyProof.Rows
abbrev R2:=V→V→Hp→VK→Prop
def OpR (X:Cx) (f:Value→Value→Sem Value) (r:R2):Prop :=
  ∀ (pins:List (Addr × Obj)) (s:Shared) (σ:St) (H:Hp) (x y:V) (v u:Value) (Q:VK),Inv X pins σ H s→RelV x v→RelV y u→r x y H Q →
    wpAny (model X.prog X.w) X.A (f v u) (EP X pins σ Q) X.xe s
def CallR (X:Cx) (f:Value) (r:List V→Hp→VK→Prop):Prop :=
  ∀ (pins:List (Addr × Obj)) (s:Shared) (σ:St) (H:Hp) (xs:List V) (us:List Value) (Q:VK),Inv X pins σ H s→Vals xs us→r xs H Q →
    wpAny (model X.prog X.w) X.A (call f us) (EP X pins σ Q) X.xe s
def tOp (r:R2) (ta tb:TE):TE:=fun σ H Q=>ta σ H fun x H1=>tb σ H1 fun y H2=>r x y H2 Q
def rI (C:Int→Int→Prop) (g:Int→Int→V):R2:=fun x y H Q => ∃ i j,x=.int i∧y=.int j∧C i j∧Q (g i j) H
def rI0 (g:Int→Int→V):R2:=fun x y H Q => ∃ i j,x=.int i∧y=.int j∧Q (g i j) H
section
variable {X:Cx} {a b c:Expr} {ta tb tc:TE} {pos:Pos}
theorem binT (ha:PE X a ta) (hb:PE X b tb) {pins:List (Addr × Obj)} {s:Shared} {σ:St} {H:Hp} {R:V→V→Hp→Prop} (I:Inv X pins σ H s)
    (h:ta σ H fun x H1=>tb σ H1 fun y H2=>R x y H2) {Q:Value→Shared→Prop} {f:Value→Value→Sem Value}
    (hf:∀ v u s2 x y H2,Inv X pins σ H2 s2→RelV x v→RelV y u→R x y H2→wpAny (model X.prog X.w) X.A (f v u) Q X.xe s2) :
    wpAny (model X.prog X.w) X.A (eval a X.env) (fun v s₁=>wpAny (model X.prog X.w) X.A (eval b X.env) (fun u s₂=>wpAny (model X.prog X.w) X.A (f v u) Q X.xe s₂) X.xe s₁) X.xe s:=by
  refine thn (ha pins s σ H _ I h) fun v s1 ⟨x,H1,I1,r1,q1⟩=>?_
  refine thn (hb pins s1 σ H1 _ I1 q1) fun u s2 ⟨y,H2,I2,r2,q2⟩=>?_
  exact hf v u s2 x y H2 I2 r1 r2 q2
theorem pe_op {op:Operator} {r:R2} (ho:OpR X (binaryOp op) r) (ha:PE X a ta) (hb:PE X b tb):PE X (.BinOp a op b pos) (tOp r ta tb):=by
  intro pins s σ H Q I h
  exact wpAny_BinOp (binT ha hb I h fun v u s2 x y H2 I2 rx ry q=>ho pins s2 σ H2 x y v u Q I2 rx ry q)
theorem opI {f:Value→Value→Sem Value} {C:Int→Int→Prop} {g:Int→Int→Int}
    (rule:∀ (i j:Int) (t u:Tok) (s:Shared) (Q:Value→Shared→Prop) (E:Value→Shared→Prop),C i j→Q (.int (g i j) s.toks) { s with toks:=s.toks + 1 }→wpAny (model X.prog X.w) X.A (f (.int i t) (.int j u)) Q E s) :
    OpR X f (rI C fun i j=>.int (g i j)):=by
  intro pins s σ H x y v u Q I rx ry h
  obtain ⟨i,j,rfl,rfl,hc,q⟩:=h
  obtain ⟨t,rfl⟩:=rx
  obtain ⟨t',rfl⟩:=ry
  exact rule i j t t' s _ _ hc ⟨.int (g i j),H,I.tok _,⟨_,rfl⟩,q⟩
theorem opI0 {f:Value→Value→Sem Value} {g:Int→Int→Int}
    (rule:∀ (i j:Int) (t u:Tok) (s:Shared) (Q:Value→Shared→Prop) (E:Value→Shared→Prop),Q (.int (g i j) s.toks) { s with toks:=s.toks + 1 }→wpAny (model X.prog X.w) X.A (f (.int i t) (.int j u)) Q E s) :
    OpR X f (rI0 fun i j=>.int (g i j)):=by
  intro pins s σ H x y v u Q I rx ry h
  obtain ⟨i,j,rfl,rfl,q⟩:=h
  obtain ⟨t,rfl⟩:=rx
  obtain ⟨t',rfl⟩:=ry
  exact rule i j t t' s _ _ ⟨.int (g i j),H,I.tok _,⟨_,rfl⟩,q⟩
theorem opB0 {f:Value→Value→Sem Value} {g:Int→Int→Bool}
    (rule:∀ (i j:Int) (t u:Tok) (s:Shared) (Q:Value→Shared→Prop) (E:Value→Shared→Prop),Q (.bool (g i j)) s→wpAny (model X.prog X.w) X.A (f (.int i t) (.int j u)) Q E s) :
    OpR X f (rI0 fun i j=>.bl (g i j)):=by
  intro pins s σ H x y v u Q I rx ry h
  obtain ⟨i,j,rfl,rfl,q⟩:=h
  obtain ⟨t,rfl⟩:=rx
  obtain ⟨t',rfl⟩:=ry
  exact rule i j t t' s _ _ ⟨.bl (g i j),H,I,rfl,q⟩
def CPow (i j:Int):Prop:=0≤j∧j≤1000000∧i.natAbs < 2 ^ 64
theorem op_add:OpR X (binaryOp .Add) (rI0 fun i j=>.int (i + j)):=opI0 fun _ _ _ _ _ _ _ q=>add_int q
theorem op_sub:OpR X (binaryOp .Sub) (rI0 fun i j=>.int (i - j)):=opI0 fun _ _ _ _ _ _ _ q=>sub_int q
theorem op_mod:OpR X (binaryOp .Mod) (rI (fun _ j=>0 < j) fun i j=>.int (i % j)):=opI fun i j _ _ _ _ _ hc q=>by
  have h1:(0:Int) < j:=hc
  exact mod_int' (by omega) (by rw [Int.fmod_eq_emod_of_nonneg i (by omega)]; exact q)
theorem op_pow:OpR X (binaryOp .Pow) (rI CPow fun i j=>.int (i ^ j.toNat)):=opI fun _ _ _ _ _ _ _ hc q=>pow_int_small hc.1 hc.2.1 hc.2.2 q
end
def scal:V→V→Bool
  | .non,.non=>true | .non,.int _=>true | .int _,.non=>true | .non,.bl _=>true | .bl _,.non=>true | .non,.str _=>true | .str _,.non=>true
  | .int _,.int _=>true | .bl _,.bl _=>true | .str _,.str _=>true | .byt _,.byt _=>true
  | .int _,.str _=>true | .str _,.int _=>true | .bl _,.str _=>true | .str _,.bl _=>true
  | _,_=>false
def rEq:R2:=fun x y H Q=>scal x y=true∧Q (.bl (decide (x=y))) H
def rNe:R2:=fun x y H Q=>scal x y=true∧Q (.bl (!decide (x=y))) H
theorem dec_int {i j:Int}:decide (V.int i=V.int j)=(i == j):=by
  rw [Bool.eq_iff_iff]
  simp
theorem dec_bl {i j:Bool}:decide (V.bl i=V.bl j)=(i == j):=by
  rw [Bool.eq_iff_iff]
  simp
theorem dec_str {i j:Str}:decide (V.str i=V.str j)=(i == j):=by
  rw [Bool.eq_iff_iff]
  simp
theorem dec_byt {i j:Array UInt8}:decide (V.byt i=V.byt j)=(i.toList == j.toList):=by
  rw [Bool.eq_iff_iff]
  cases i
  cases j
  simp
section
variable {X:Cx} {a b c:Expr} {ta tb tc:TE} {pos:Pos}
theorem fin_bl {pins:List (Addr × Obj)} {σ:St} {H:Hp} {s:Shared} {Q:VK} {k k':Bool} (I:Inv X pins σ H s) (q:Q (.bl k) H) (e:k=k'):EP X pins σ Q (.bool k') s:=by
  subst e
  exact ⟨.bl k,H,I,rfl,q⟩
theorem op_eq:OpR X (compareOp .Eq) rEq:=by
  intro pins s σ H x y v u Q I rx ry h
  obtain ⟨hs,q⟩:=h
  cases x with
  | non =>
    cases rx
    cases y with
    | non=>cases ry; exact PySem.EqNone.eq_none_none (fin_bl I q (by simp))
    | bl j=>cases ry; exact PySem.EqNone.eq_none_bool (fin_bl I q (by simp))
    | int j=>obtain ⟨t',rfl⟩:=ry; exact PySem.EqNone.eq_none_int (fin_bl I q (by simp))
    | str j=>obtain ⟨t',rfl⟩:=ry; exact PySem.EqNone.eq_none_str (fin_bl I q (by simp))
    | _=>exact absurd (show false=true from hs) Bool.false_ne_true
  | bl i =>
    cases rx
    cases y with
    | non=>cases ry; exact PySem.EqNone.eq_bool_none (fin_bl I q (by simp))
    | bl j=>cases ry; exact eq_bool (fin_bl I q dec_bl)
    | str j=>obtain ⟨t',rfl⟩:=ry; exact PySem.EqMixed.eq_bool_str (fin_bl I q (by simp))
    | _=>exact absurd (show false=true from hs) Bool.false_ne_true
  | int i =>
    obtain ⟨t,rfl⟩:=rx
    cases y with
    | non=>cases ry; exact PySem.EqNone.eq_int_none (fin_bl I q (by simp))
    | int j=>obtain ⟨t',rfl⟩:=ry; exact eq_int (fin_bl I q dec_int)
    | str j=>obtain ⟨t',rfl⟩:=ry; exact PySem.EqMixed.eq_int_str (fin_bl I q (by simp))
    | _=>exact absurd (show false=true from hs) Bool.false_ne_true
  | str i =>
    obtain ⟨t,rfl⟩:=rx
    cases y with
    | non=>cases ry; exact PySem.EqNone.eq_str_none (fin_bl I q (by simp))
    | bl j=>cases ry; exact PySem.EqMixed.eq_str_bool (fin_bl I q (by simp))
    | int j=>obtain ⟨t',rfl⟩:=ry; exact PySem.EqMixed.eq_str_int (fin_bl I q (by simp))
    | str j=>obtain ⟨t',rfl⟩:=ry; exact eq_str (fin_bl I q dec_str)
    | _=>exact absurd (show false=true from hs) Bool.false_ne_true
  | byt i =>
    obtain ⟨t,rfl⟩:=rx
    cases y with
    | byt j=>obtain ⟨t',rfl⟩:=ry; exact PySem.W.eq_bytes (fin_bl I q dec_byt)
    | _=>exact absurd (show false=true from hs) Bool.false_ne_true
  | _=>cases y <;> exact absurd (show false=true from hs) Bool.false_ne_true
theorem op_ne:OpR X (compareOp .NotEq) rNe:=by
  intro pins s σ H x y v u Q I rx ry h
  obtain ⟨hs,q⟩:=h
  cases x with
  | non =>
    cases rx
    cases y with
    | non=>cases ry; exact PySem.EqNone.ne_none_none (fin_bl I q (by simp))
    | bl j=>cases ry; exact PySem.EqNone.ne_none_bool (fin_bl I q (by simp))
    | int j=>obtain ⟨t',rfl⟩:=ry; exact PySem.EqNone.ne_none_int (fin_bl I q (by simp))
    | str j=>obtain ⟨t',rfl⟩:=ry; exact PySem.EqNone.ne_none_str (fin_bl I q (by simp))
    | _=>exact absurd (show false=true from hs) Bool.false_ne_true
  | bl i =>
    cases rx
    cases y with
    | non=>cases ry; exact PySem.EqNone.ne_bool_none (fin_bl I q (by simp))
    | bl j=>cases ry; exact ne_bool (fin_bl I q (congrArg not dec_bl))
    | str j=>obtain ⟨t',rfl⟩:=ry; exact PySem.EqMixed.ne_bool_str (fin_bl I q (by simp))
    | _=>exact absurd (show false=true from hs) Bool.false_ne_true
  | int i =>
    obtain ⟨t,rfl⟩:=rx
    cases y with
    | non=>cases ry; exact PySem.EqNone.ne_int_none (fin_bl I q (by simp))
    | int j=>obtain ⟨t',rfl⟩:=ry; exact ne_int (fin_bl I q (congrArg not dec_int))
    | str j=>obtain ⟨t',rfl⟩:=ry; exact PySem.EqMixed.ne_int_str (fin_bl I q (by simp))
    | _=>exact absurd (show false=true from hs) Bool.false_ne_true
  | str i =>
    obtain ⟨t,rfl⟩:=rx
    cases y with
    | non=>cases ry; exact PySem.EqNone.ne_str_none (fin_bl I q (by simp))
    | bl j=>cases ry; exact PySem.EqMixed.ne_str_bool (fin_bl I q (by simp))
    | int j=>obtain ⟨t',rfl⟩:=ry; exact PySem.EqMixed.ne_str_int (fin_bl I q (by simp))
    | str j=>obtain ⟨t',rfl⟩:=ry; exact ne_str (fin_bl I q (congrArg not dec_str))
    | _=>exact absurd (show false=true from hs) Bool.false_ne_true
  | byt i =>
    obtain ⟨t,rfl⟩:=rx
    cases y with
    | byt j=>obtain ⟨t',rfl⟩:=ry; exact PySem.W.ne_bytes (fin_bl I q (congrArg not dec_byt))
    | _=>exact absurd (show false=true from hs) Bool.false_ne_true
  | _=>cases y <;> exact absurd (show false=true from hs) Bool.false_ne_true
theorem op_lt:OpR X (compareOp .Lt) (rI0 fun i j=>.bl (decide (i < j))):=opB0 fun _ _ _ _ _ _ _ q=>lt_int q
theorem op_le:OpR X (compareOp .LtE) (rI0 fun i j=>.bl (decide (i≤j))):=opB0 fun _ _ _ _ _ _ _ q=>le_int q
theorem op_gt:OpR X (compareOp .Gt) (rI0 fun i j=>.bl (decide (j < i))):=opB0 fun _ _ _ _ _ _ _ q=>gt_int q
theorem op_ge:OpR X (compareOp .GtE) (rI0 fun i j=>.bl (decide (j≤i))):=opB0 fun _ _ _ _ _ _ _ q=>ge_int q
theorem op_isN:OpR X (compareOp .Is) (fun x y H Q=>y=.non∧Q (.bl (decide (x=.non))) H):=by
  intro pins s σ H x y v u Q I rx ry h
  obtain ⟨rfl,q⟩:=h
  cases ry
  refine is_none_gen (fin_bl I q ?_)
  cases x <;> first
    | (cases rx; rfl)
    | (obtain ⟨t,rfl⟩:=rx; rfl)
theorem op_notN:OpR X (compareOp .IsNot) (fun x y H Q=>y=.non∧Q (.bl (!decide (x=.non))) H):=by
  intro pins s σ H x y v u Q I rx ry h
  obtain ⟨rfl,q⟩:=h
  cases ry
  refine isnot_none_gen (fin_bl I q ?_)
  cases x <;> first
    | (cases rx; rfl)
    | (obtain ⟨t,rfl⟩:=rx; rfl)
theorem nomark (b:Expr) {op:CmpOp} (h:op≠.In:=by decide) (h2:op≠.NotIn:=by decide):behindInMarks op b=false:=by
  have e1:(op == CmpOp.In)=false:=by cases op <;> first | rfl | exact absurd rfl h
  have e2:(op == CmpOp.NotIn)=false:=by cases op <;> first | rfl | exact absurd rfl h2
  cases b <;> simp [behindInMarks,e1,e2]
theorem pe_cmpR {op:CmpOp} {r:R2} (ho:OpR X (compareOp op) r) (ha:PE X a ta) (hb:PE X b tb) (hm:behindInMarks op b=false):PE X (.Compare a [op] [b] pos) (tOp r ta tb):=by
  intro pins s σ H Q I h
  exact wpAny_Compare1 (binT ha hb I h fun v u s2 x y H2 I2 rx ry q=>ho pins s2 σ H2 x y v u Q I2 rx ry q) hm
def tTest (t:TE):TT:=fun σ H Q=>t σ H fun x H' => ∃ k,x=.bl k∧Q k H'
theorem pt_cmpR {op:CmpOp} {r:R2} (ho:OpR X (compareOp op) r) (ha:PE X a ta) (hb:PE X b tb) (hm:behindInMarks op b=false):PT X (.Compare a [op] [b] pos) (tTest (tOp r ta tb)):=by
  intro pins s σ H Q I h
  refine wpAny_isTrue_Compare1 (thn (ha pins s σ H _ I h) fun v s1 ⟨x,H1,I1,r1,q1⟩=>thn (hb pins s1 σ H1 _ I1 q1) fun u s2 ⟨y,H2,I2,r2,q2⟩ =>
    thn (ho pins s2 σ H2 x y v u _ I2 r1 r2 q2) fun c s3 ⟨z,H3,I3,r3,k,e,q3⟩=>?_) hm
  subst e
  cases r3
  exact wpAny_truthy_bool ⟨H3,I3,q3⟩
def tChain (r r':R2) (ta tb tc:TE):TE:=fun σ H Q=>ta σ H fun x H1=>tb σ H1 fun y H2=>r x y H2 fun z H3 => ∃ k,z=.bl k ∧
  (if k=true then tc σ H3 fun w' H4=>r' y w' H4 Q else Q (.bl false) H3)
theorem pt_chain {op op':CmpOp} {r r':R2} (ho:OpR X (compareOp op) r) (ho':OpR X (compareOp op') r') (ha:PE X a ta) (hb:PE X b tb) (hc:PE X c tc)
    (hm:lastMarks [op,op'] [b,c]=false:=by with_unfolding_all rfl):PT X (.Compare a [op,op'] [b,c] pos) (tTest (tChain r r' ta tb tc)):=by
  intro pins s σ H Q I h
  refine isTrue_chain (thn (ha pins s σ H _ I h) fun v s1 ⟨x,H1,I1,r1,q1⟩=>test_link (thn (hb pins s1 σ H1 _ I1 q1) fun u s2 ⟨y,H2,I2,r2,q2⟩ =>
    thn (ho pins s2 σ H2 x y v u _ I2 r1 r2 q2) fun d s3 ⟨z,H3,I3,r3,k,e,q3⟩=>?_)) hm
  subst e
  cases r3
  refine wpAny_truthy_bool ?_
  cases k with
  | false =>
    obtain ⟨k',e',q'⟩:=q3
    cases e'
    exact ite_ff ⟨H3,I3,q'⟩
  | true =>
    refine ite_tt (test_last (thn (hc pins s3 σ H3 _ I3 q3) fun w' s4 ⟨z',H4,I4,r4,q4⟩=>thn (ho' pins s4 σ H4 y z' u w' _ I4 r2 r4 q4) fun d' s5 ⟨z2,H5,I5,r5,k2,e2,q5⟩=>?_))
    subst e2
    cases r5
    exact wpAny_truthy_bool ⟨H5,I5,q5⟩
theorem line63:(sizeLine:Nat) < 2 ^ 63:=by rw [sizeLine_eq]; decide
theorem vals1 {x:V} {us:List Value} (r:Vals [x] us):∃ u,us=[u]∧RelV x u:=by
  cases r with
  | cons r1 r2=>cases r2; exact ⟨_,rfl,r1⟩
theorem vals2 {x y:V} {us:List Value} (r:Vals [x,y] us):∃ u w',us=[u,w']∧RelV x u∧RelV y w':=by
  cases r with
  | cons r1 r2 =>
    cases r2 with
    | cons r3 r4=>cases r4; exact ⟨_,_,rfl,r1,r3⟩
theorem call_abs:CallR X (.builtin "abs") (fun xs H Q => ∃ i,xs=[.int i]∧Q (.int (if i < 0 then -i else i)) H):=by
  intro pins s σ H xs us Q I r h
  obtain ⟨i,rfl,q⟩:=h
  obtain ⟨u,rfl,t,rfl⟩:=vals1 r
  exact call_abs_int fun u tk=>⟨.int (if i < 0 then -i else i),H,I.tok _,⟨_,rfl⟩,q⟩
theorem call_max2 (hc:X.calm=true):CallR X (.builtin "max") (fun xs H Q => ∃ i j,xs=[.int i,.int j]∧Q (.int (if j > i then j else i)) H):=by
  intro pins s σ H xs us Q I r h
  obtain ⟨i,j,rfl,q⟩:=h
  obtain ⟨u,w',rfl,⟨t,rfl⟩,⟨t',rfl⟩⟩:=vals2 r
  refine max_two_ints (I.ok.hd hc) fun h' tk k=>⟨_,H,I.kept k,?_,q⟩
  by_cases hj:j > i
  · rw [if_pos hj,if_pos hj]; exact ⟨_,rfl⟩
  · rw [if_neg hj,if_neg hj]; exact ⟨_,rfl⟩
theorem call_min2 (hc:X.calm=true):CallR X (.builtin "min") (fun xs H Q => ∃ i j,xs=[.int i,.int j]∧Q (.int (if j < i then j else i)) H):=by
  intro pins s σ H xs us Q I r h
  obtain ⟨i,j,rfl,q⟩:=h
  obtain ⟨u,w',rfl,⟨t,rfl⟩,⟨t',rfl⟩⟩:=vals2 r
  refine min_two_ints (I.ok.hd hc) fun h' tk k=>⟨_,H,I.kept k,?_,q⟩
  by_cases hj:j < i
  · rw [if_pos hj,if_pos hj]; exact ⟨_,rfl⟩
  · rw [if_neg hj,if_neg hj]; exact ⟨_,rfl⟩
end
end L2
namespace L2
open PySem PySem.Spec PyProof.Rows
structure ObjM (h:Heap) (x dx C:Addr) (mA:Str→Option Value):Prop where
  obj:h.get? x=some (PySem.W.instObj C dx)
  ns:h.Ns1 dx mA
  ne:dx≠x
theorem lookIn_ns {h:Heap} {dx:Addr} {mA:Str→Option Value} (n:h.Ns1 dx mA):∃ od,h.get? dx=some od∧∀ name,PySem.W.lookIn name od=some (mA name):=by
  obtain ⟨o,es,ep,ho,hd,hk,_,hm⟩:=n
  refine ⟨o,ho,fun name=>?_⟩
  have e:=hm name
  unfold nsFind findBy at e
  rw [← Array.find?_toList] at e
  unfold PySem.W.lookIn
  rw [hd]
  dsimp only
  split
  · rename_i y q
    rw [q] at e
    exact congrArg some e
  · rename_i q
    rw [q] at e
    have a:es.toList.any (·.refKey)=false:=by
      rw [List.any_eq_false]
      intro y hy
      obtain ⟨z,t,hkey⟩:=hk y (Array.mem_toList_iff.mp hy)
      simp [DictEntry.refKey,hkey]
    have a':¬ es.toList.any (·.refKey)=true:=by rw [a]; exact Bool.false_ne_true
    rw [if_neg a']
    exact congrArg some e
theorem ObjM.look {h:Heap} {x dx C:Addr} {mA:Str→Option Value} (I:ObjM h x dx C mA):∃ od,PySem.W.InstAt h x (PySem.W.instObj C dx) C (some od)∧∀ name,PySem.W.lookIn name od=some (mA name) :=
  let ⟨od,ho,hl⟩:=lookIn_ns I.ns
  ⟨od,⟨I.obj,rfl,rfl,ho⟩,hl⟩
section
variable {prog:Program} {w:World} {A:Around} {E:Value→Shared→Prop} {s:Shared} {K:PySem.W.Frag} {x dx C f:Addr} {mA:Str→Option Value} {name:Str} {v:Value}
theorem get_map {expr:Bool} {Q:Value→Shared→Prop} (X:K.In s.heap) (I:ObjM s.heap x dx C mA) (hg:PySem.W.plainGet K C name=true) (hh:PySem.W.hasDictIn K C=true)
    (ha:PySem.W.findIn K (.ref C) name=some none) (hv:mA name=some v) (hv':PySem.W.handedIn v=true) (h:Q v { s with toks:=s.toks + 1 }) :
    wpAny (model prog w) A (getAttr (.ref x) name expr) Q E s:=by
  obtain ⟨od,J,hl⟩:=I.look
  exact PySem.W.get_value X J (PySem.W.plainGet_of hg).1 (PySem.W.findObj_own hh ha rfl (by rw [hl,hv])) hv' h
theorem get_meth {pl:Sem Bool} {Q:Value × List Value→Shared→Prop} (X:K.In s.heap) (I:ObjM s.heap x dx C mA) (hg:PySem.W.plainGet K C name=true)
    (hf:PySem.W.findIn K (.ref C) name=some (some (.ref f))) (ht:PySem.W.isFn K (.ref f)=true) (hv:mA name=none) (h:Q (.ref f,[.ref x]) s) :
    wpAny (model prog w) A (getMethod (.ref x) name pl) Q E s:=by
  obtain ⟨od,J,hl⟩:=I.look
  exact PySem.W.method_fn X J (PySem.W.plainGet_of hg).1 (PySem.W.plainGet_of hg).2 hf (beq_iff_eq.mp ht) (by show (PySem.W.lookIn name od).map (·.isSome)=some false; rw [hl,hv]; rfl) h
theorem set_map {ns:List Str} {Q:Unit→Shared→Prop} (X:K.In s.heap) (I:ObjM s.heap x dx C mA)
    (hs:PySem.W.findIn K (.ref C) "__setattr__" = some (some (.builtin "object.__setattr__"))) (hp:PySem.W.plainOver K C=true) (ht:PySem.W.takerIn K C name=some none) (hh:PySem.W.hasDictIn K C=true)
    (hw:PySem.Within mA ns) (hsz:ns.length≤sizeLine)
    (h:∀ h',ObjM h' x dx C (fun y=>if y=name then some v else mA y)→Heap.SameBut dx s.heap h'→Q () { s with heap:=h',toks:=s.toks + 2 }) :
    wpAny (model prog w) A (setAttr (.ref x) name v) Q E s:=by
  obtain ⟨od,J,hl⟩:=I.look
  refine PySem.W.set_plain X J hs (PySem.W.osa_open (s:={ s with toks:=s.toks + 1 }) (r:=none) X J hp ht fun b=>?_)
  obtain ⟨cd,hc,hd'⟩:=PySem.W.any_some hh
  have hx:s.heap.get? x=some ⟨.ref C,some dx,.plain,#[]⟩:=I.obj
  refine wpAny_bind (wpAny_pure (wpAny_bind (wpAny_bind (wpAny_loadPart hx (wpAny_bind (PySem.W.Looks.here (s:={ s with toks:=s.toks + 1 }) (PySem.W.looks_clsIn X hc) ?_))))))
  rw [hd']
  refine wpAny_pure (a:=some dx) (wpAny_bind (wpAny_pure (wpAny_bind ?_)))
  refine wpAny_nsSet1 (s:={ s with toks:=s.toks + 1 }) I.ns fun h' hn2 hs2=>?_
  obtain ⟨oD,esD,epD,hoD,hdD,hcD⟩:=hn2.count (PySem.Within.cons name v hw)
  refine wpAny_bind (wpAny_lookBehind hoD (by rw [hdD]; exact pastItsLine_dict (Nat.le_trans hcD (by rw [List.length_cons]; omega))) ?_)
  exact wpAny_pure (h _ ⟨(hs2.2 _ (Ne.symm I.ne)).trans I.obj,hn2,I.ne⟩ hs2)
theorem make_map {R:Result→Shared→Prop} {vs:List Value} {kw:List (Str × Value)} (X:K.In s.heap) (hm:PySem.W.makesIn K C=true)
    (hi:PySem.W.findIn K (.ref C) "__init__" = some (some (.ref f))) (hf:PySem.W.typeIn K (.ref f)=some (.type "function"))
    (h:codeAny (model prog w) (A.under (.builtin "type.__call__" ⟨.ref C :: vs,kw⟩)) (.call (.ref f) ⟨.ref (s.heap.objs.size + 1) :: vs,kw⟩) (PySem.W.InitBack (s.heap.objs.size + 1) R)
      { s with heap:=(s.heap.push PySem.W.emptyDict).push (PySem.W.instObj C s.heap.objs.size) }) :
    codeAny (model prog w) A (.call (.ref C) ⟨vs,kw⟩) R s:=by
  obtain ⟨hh,g,d,t,os⟩:=s
  exact PySem.W.make_core (PySem.W.makes_of X hm) (PySem.W.looks_findIn X hi) (fun self=>PySem.W.bind_fn X self hf) (.inl rfl) h
end
def putF (f:Str) (v:V):List (Str × V)→List (Str × V)
  | [] => [(f,v)]
  | (g,x) :: r=>if g=f then (g,v) :: r else (g,x) :: putF f v r
theorem lookup_putF (f g:Str) (v:V):∀ fs:List (Str × V),(putF f v fs).lookup g=if g=f then some v else fs.lookup g
  | []=>by
    show List.lookup g [(f,v)]=_
    by_cases h:g=f
    · have hb:(g == f)=true:=beq_iff_eq.mpr h
      simp only [List.lookup,hb,if_pos h]
    · have hb:(g == f)=false:=beq_eq_false_iff_ne.mpr h
      simp only [List.lookup,hb,if_neg h]
  | (k,x) :: r=>by
    have ih:=lookup_putF f g v r
    rw [show putF f v ((k,x) :: r)=(if k=f then (k,v) :: r else (k,x) :: putF f v r) from rfl]
    by_cases hk:k=f
    · rw [if_pos hk]
      by_cases h:g=k
      · have hb:(g == k)=true:=beq_iff_eq.mpr h
        simp only [List.lookup,hb,if_pos (h.trans hk)]
      · have hb:(g == k)=false:=beq_eq_false_iff_ne.mpr h
        simp only [List.lookup,hb,if_neg (fun e:g=f=>h (e.trans hk.symm))]
    · rw [if_neg hk]
      by_cases h:g=k
      · have hb:(g == k)=true:=beq_iff_eq.mpr h
        simp only [List.lookup,hb,if_neg (fun e:g=f=>hk (h.symm.trans e))]
      · have hb:(g == k)=false:=beq_eq_false_iff_ne.mpr h
        simp only [List.lookup,hb]
        exact ih
theorem keys_putF (f:Str) (v:V):∀ fs:List (Str × V),f∈(putF f v fs).map (·.1)∧∀ g,g∈fs.map (·.1)→g∈(putF f v fs).map (·.1)
  | []=>⟨by simp [putF],fun g h=>by simp at h⟩
  | (k,x) :: r=>by
    obtain ⟨i1,i2⟩:=keys_putF f v r
    rw [show putF f v ((k,x) :: r)=(if k=f then (k,v) :: r else (k,x) :: putF f v r) from rfl]
    by_cases hk:k=f
    · rw [if_pos hk]
      subst hk
      exact ⟨by simp,fun g h=>by simpa using h⟩
    · rw [if_neg hk]
      refine ⟨?_,fun g h=>?_⟩
      · rw [List.map_cons]
        exact List.mem_cons_of_mem _ i1
      · rw [List.map_cons] at h ⊢
        rcases List.mem_cons.mp h with e | e
        · exact List.mem_cons.mpr (.inl e)
        · exact List.mem_cons_of_mem _ (i2 g e)
theorem length_putF (f:Str) (v:V):∀ fs:List (Str × V),(putF f v fs).length≤fs.length + 1
  | []=>by simp [putF]
  | (k,x) :: r=>by
    have ih:=length_putF f v r
    rw [show putF f v ((k,x) :: r)=(if k=f then (k,v) :: r else (k,x) :: putF f v r) from rfl]
    by_cases hk:k=f
    · rw [if_pos hk,List.length_cons,List.length_cons]; omega
    · rw [if_neg hk,List.length_cons,List.length_cons]; omega
theorem RelO.some_of {v:V} {o:Option Value} (r:RelO (some v) o):∃ u,o=some u∧RelV v u:=by
  cases o with
  | none=>exact (show False from r).elim
  | some u=>exact ⟨u,rfl,r⟩
theorem RelO.none_of {o:Option Value} (r:RelO none o):o=none:=by
  cases o with
  | none=>rfl
  | some u=>exact (show False from r).elim
theorem handed_of {v:V} {u:Value} (r:RelV v u):PySem.W.handedIn u=true:=by
  cases v with
  | non=>cases (show u=Value.none from r); rfl
  | bl b=>cases (show u=Value.bool b from r); rfl
  | int i=>obtain ⟨t,e⟩:=(show ∃ t,u=Value.int i t from r); cases e; rfl
  | str x=>obtain ⟨t,e⟩:=(show ∃ t,u=Value.str x t from r); cases e; rfl
  | byt b=>obtain ⟨t,e⟩:=(show ∃ t,u=Value.bytes b t from r); cases e; rfl
  | flt b=>obtain ⟨t,e⟩:=(show ∃ t,u=Value.float b t from r); cases e; rfl
  | ref a=>cases (show u=Value.ref a from r); rfl
  | ty n=>cases (show u=Value.type n from r); rfl
section
variable {P:Program} {w:World} {H H':Hp} {h h':Heap} {a C dx:Addr} {fs fs':List (Str × V)}
theorem ins_get (hok:HOk P w H h) (e:H a=some (.ins C dx fs)):∃ mA,ObjM h a dx C mA∧(∀ f,RelO (fs.lookup f) (mA f))∧PySem.Within mA (fs.map (·.1))∧fs.length≤1000∧H dx=some (.own a):=by
  obtain ⟨d,z,ne,ob,mA,n,r,q⟩:=(show ObjOk P w H h a (.ins C dx fs) from hok a _ e)
  exact ⟨mA,⟨ob,n,ne⟩,r,q,z,d⟩
end
structure Cls (K:PySem.W.Frag) (C:Addr):Prop where
  pg:PySem.W.plainGet K C Str.empty=true
  hd:PySem.W.hasDictIn K C=true
  po:PySem.W.plainOver K C=true
  sa:PySem.W.findIn K (.ref C) "__setattr__" = some (some (.builtin "object.__setattr__"))
theorem Cls.get {K:PySem.W.Frag} {C:Addr} (c:Cls K C) (f:Str):PySem.W.plainGet K C f=true:=c.pg
def NoAttr (K:PySem.W.Frag) (C:Addr) (f:Str):Prop:=PySem.W.findIn K (.ref C) f=some none
theorem NoAttr.taker {K:PySem.W.Frag} {C:Addr} {f:Str} (n:NoAttr K C f):PySem.W.takerIn K C f=some none:=by
  unfold PySem.W.takerIn
  rw [show PySem.W.findIn K (.ref C) f=some none from n]
  rfl
structure Meth (K:PySem.W.Frag) (C:Addr) (m:Str) (f:Addr):Prop where
  at_:PySem.W.findIn K (.ref C) m=some (some (.ref f))
  fn:PySem.W.isFn K (.ref f)=true
  kp:PySem.W.keepIn K (.ref f)=true
section
variable {X:Cx} {pins:List (Addr × Obj)} {σ:St} {H:Hp} {s:Shared} {a C dx:Addr} {fs:List (Str × V)} {f:Str} {v:V} {A:Around} {E:Value→Shared→Prop}
theorem getattr_ok {b:Bool} {Q:Value→Shared→Prop} (I:Inv X pins σ H s) (e:H a=some (.ins C dx fs)) (c:Cls X.K C) (n:NoAttr X.K C f) (l:fs.lookup f=some v)
    (h:∀ u s',Inv X pins σ H s'→RelV v u→Q u s'):wpAny (model X.prog X.w) A (getAttr (.ref a) f b) Q E s:=by
  obtain ⟨mA,O,r,_,_,_⟩:=ins_get I.hok e
  obtain ⟨u,hu,ru⟩:=RelO.some_of (v:=v) (o:=mA f) (by rw [← l]; exact r f)
  exact get_map I.kIn O (c.get f) c.hd n hu (handed_of ru) (h u _ (I.tok _) ru)
theorem getmeth_ok {m:Str} {g:Addr} {pl:Sem Bool} {Q:Value × List Value→Shared→Prop} (I:Inv X pins σ H s) (e:H a=some (.ins C dx fs)) (c:Cls X.K C) (k:Meth X.K C m g) (l:fs.lookup m=none)
    (h:Q (.ref g,[.ref a]) s):wpAny (model X.prog X.w) A (getMethod (.ref a) m pl) Q E s:=by
  obtain ⟨mA,O,r,_,_,_⟩:=ins_get I.hok e
  have hn:mA m=none:=RelO.none_of (by rw [← l]; exact r m)
  exact get_meth I.kIn O (c.get m) k.at_ k.fn hn h
theorem setattr_ok {y:V} {u:Value} {Q:Unit→Shared→Prop} (I:Inv X pins σ H s) (e:H a=some (.ins C dx fs)) (c:Cls X.K C) (n:NoAttr X.K C f) (hl:fs.length < 1000) (ry:RelV y u)
    (h:∀ s',Inv X pins σ (upd H a (.ins C dx (putF f y fs))) s'→Q () s'):wpAny (model X.prog X.w) A (setAttr (.ref a) f u) Q E s:=by
  obtain ⟨mA,O,r,wi,_,ho⟩:=ins_get I.hok e
  have hz:(fs.map (·.1)).length≤sizeLine:=by rw [List.length_map,sizeLine_eq]; omega
  refine set_map I.kIn O c.sa c.po n.taker c.hd wi hz fun h' O' sb=>h _ ?_
  have hd:∃ o,h'.get? dx=some o:=let ⟨o,_,_,e',_⟩:=O'.ns; ⟨o,e'⟩
  refine I.write (x:=a) (e:=dx) (by rw [e]; exact True.intro) (.inr ho) (fun b q hb z=>(sb.2 b hb).trans z) hd ?_
  refine ⟨by rw [upd_ne O.ne]; exact ho,?_,O.ne,O'.obj,_,O'.ns,fun g=>?_,fun g hg=>?_⟩
  · have:=length_putF f y fs; omega
  · show RelO ((putF f y fs).lookup g) (if g=f then some u else mA g)
    rw [lookup_putF]
    by_cases q:g=f
    · rw [if_pos q,if_pos q]; exact ry
    · rw [if_neg q,if_neg q]; exact r g
  · by_cases q:g=f
    · rw [q]; exact (keys_putF f y fs).1
    · refine (keys_putF f y fs).2 g (wi g fun z=>hg ?_)
      show (if g=f then some u else mA g)=none
      rw [if_neg q]; exact z
theorem Inv.made (I:Inv X pins σ H s):Inv X pins σ (upd (upd H s.heap.objs.size (.own (s.heap.objs.size + 1))) (s.heap.objs.size + 1) (.ins C s.heap.objs.size []))
    { s with heap:=(s.heap.push PySem.W.emptyDict).push (PySem.W.instObj C s.heap.objs.size) }:=by
  have e1:(s.heap.push PySem.W.emptyDict).get? s.heap.objs.size=some PySem.W.emptyDict:=Heap.get?_push_size s.heap rfl
  have e2:((s.heap.push PySem.W.emptyDict).push (PySem.W.instObj C s.heap.objs.size)).get? (s.heap.objs.size + 1)=some (PySem.W.instObj C s.heap.objs.size):=by
    have:=Heap.get?_push_size (s.heap.push PySem.W.emptyDict) (o:=PySem.W.instObj C s.heap.objs.size) rfl
    rwa [Heap.size_push] at this
  have e3:(s.heap.push PySem.W.emptyDict).Ns s.heap.objs.size (fun _=>none):=⟨PySem.W.emptyDict,#[],_,e1,rfl,(fun e he=>absurd he (by simp)),fun _=>rfl⟩
  have I1:=I.laid (a:=s.heap.objs.size) (o:=.own (s.heap.objs.size + 1)) (h':=s.heap.push PySem.W.emptyDict) (t':=s.toks) (fun b u q=>Heap.get?_push_of_some _ q) (Nat.le_refl _) ⟨_,e1⟩
  refine I1.laid (a:=s.heap.objs.size + 1) (o:=.ins C s.heap.objs.size []) (t':=s.toks) (fun b u q=>Heap.get?_push_of_some _ q) (Nat.le_of_eq (Heap.size_push _ _)) ?_
  have ne:s.heap.objs.size≠s.heap.objs.size + 1:=Nat.ne_of_lt (Nat.lt_succ_self _)
  refine ⟨by rw [upd_ne ne,upd_same],Nat.zero_le _,ne,e2,fun _=>none,(Heap.Ns1.of_empty e3).at fun o q=>Heap.get?_push_of_some _ q,fun _=>True.intro,fun y hy=>absurd rfl hy⟩
theorem attr_of {prog:Program} {w:World} {env:Env} {e:Expr} {f:Str} {pos:Pos} {s:Shared} {Q:Value→Shared→Prop} (hb:attributeBase e f env (eval e env)=eval e env)
    (h:wpAny (model prog w) A (eval e env) (fun o s₁=>wpAny (model prog w) A (getAttr o f true) Q E s₁) E s):wpAny (model prog w) A (eval (.Attribute e f pos) env) Q E s :=
  Attribute_any_ h (by rw [arm_eval_Attribute,hb])
end
def tFld (K:PySem.W.Frag) (ta:TE) (f:Str):TE:=fun σ H Q=>ta σ H fun x H1 => ∃ a C dx fs v,x=.ref a∧H1 a=some (.ins C dx fs)∧Cls K C∧NoAttr K C f∧fs.lookup f=some v∧Q v H1
def sFld (K:PySem.W.Frag) (ta tv:TE) (f:Str):TS:=fun D σ H=>tv σ H fun y H1=>ta σ H1 fun x H2 => ∃ a C dx fs,x=.ref a∧H2 a=some (.ins C dx fs)∧Cls K C∧NoAttr K C f∧fs.length < 1000 ∧
  D.nx σ (upd H2 a (.ins C dx (putF f y fs)))
section
variable {X:Cx} {o e value:Expr} {f:Str} {pos pos' tpos:Pos} {ta tv:TE}
theorem pe_fld (he:PE X e ta) (hb:attributeBase e f X.env (eval e X.env)=eval e X.env):PE X (.Attribute e f pos) (tFld X.K ta f):=by
  intro pins s σ H Q I h
  refine attr_of hb (thn (he pins s σ H _ I h) fun u s1 ⟨x,H1,I1,rx,a,C,dx,fs,v,ex,ea,c,n,l,q⟩=>?_)
  subst ex
  obtain rfl:u=Value.ref a:=rx
  exact getattr_ok I1 ea c n l fun u' s2 I2 ru=>⟨v,H1,I2,ru,q⟩
theorem ps_fld (ha:PE X o ta) (hv:PE X value tv) (hs:swapsWith value (some (.Attribute o f pos')) pos.line X.env=pure false):PS X (.Assign [.Attribute o f pos'] value pos) (sFld X.K ta tv f):=by
  intro pins s σ H D I h
  refine plainObj_wpAny_Assign_Attribute (thn (hv pins s σ H _ I h) fun u s1 ⟨y,H1,I1,ry,q⟩=>thn (ha pins s1 σ H1 _ I1 q) fun ov s2 ⟨x,H2,I2,rx,a,C,dx,fs,ex,ea,c,n,l,q2⟩=>?_) hs
  subst ex
  obtain rfl:ov=Value.ref a:=rx
  exact setattr_ok I2 ea c n l ry fun s3 I3=>⟨σ,_,I3,q2⟩
end
section
variable {X:Cx} {pins:List (Addr × Obj)} {σ:St} {H:Hp} {s:Shared} {A:Around} {E:Value→Shared→Prop} {Q:Value→Shared→Prop} {c:Value} {b:Bool}
end
end L2
namespace L2
open PySem PySem.Spec PyProof.Rows
structure Room (k:Nat) (A:Around):Prop where
  hd:A.handled=none
  dp:A.depth + 3 * k + 5 < recursionLimit
  un:A.units + 16 * k + 200 < cLine
theorem Room.mono {j k:Nat} {A:Around} (r:Room k A) (h:j≤k):Room j A:=⟨r.hd,by have:=r.dp; omega,by have:=r.un; omega⟩
theorem Room.deeper {k:Nat} {A:Around} (r:Room (k + 1) A) (env:Env):Room k (A.deeper env) :=
  ⟨r.hd,by have:=r.dp; show A.depth + 1 + 3 * k + 5 < _; omega,by have:=r.un; show A.units + 3 + 16 * k + 200 < _; omega⟩
theorem Room.in1 {k:Nat} {A:Around} (r:Room (k + 1) A):Room k A.in1 :=
  ⟨r.hd,by have:=r.dp; show A.depth + 3 * k + 5 < _; omega,by have:=r.un; show A.units + 1 + 16 * k + 200 < _; omega⟩
theorem make_depth {A:Around} {C:Addr} {us:List Value} {kw:List (Str × Value)}:(A.under (.builtin "type.__call__" ⟨.ref C :: us,kw⟩)).depth=A.depth + 1:=by
  first | rfl | simp [Around.under,Code.weight,Code.isCreation,Code.isGuard,Code.isCaller,Code.frames,Code.isFrame,guardIds]
theorem make_units {A:Around} {C:Addr} {us:List Value} {kw:List (Str × Value)}:(A.under (.builtin "type.__call__" ⟨.ref C :: us,kw⟩)).units=A.units + 1:=by
  first | rfl | simp [Around.under,Code.cUnits,Code.frames,Code.isFrame]
theorem Room.make {k:Nat} {A:Around} (r:Room (k + 1) A) (C:Addr) (us:List Value) (kw:List (Str × Value)):Room k (A.under (.builtin "type.__call__" ⟨.ref C :: us,kw⟩)) :=
  ⟨r.hd,by have:=r.dp; rw [make_depth]; omega,by have:=r.un; rw [make_units]; omega⟩
theorem Room.depth {k:Nat} {A:Around} (r:Room k A):A.depth < recursionLimit:=by have:=r.dp; omega
theorem Room.units {k:Nat} {A:Around} (r:Room k A):A.units + 64 < cLine:=by have:=r.un; omega
def tNil:TA:=fun _ H Q=>Q [] H
def tCons (ta:TE) (tr:TA):TA:=fun σ H Q=>ta σ H fun x H1=>tr σ H1 fun xs H2=>Q (x :: xs) H2
section
variable {X:Cx} {e:Expr} {es:List Expr} {te:TE} {t:TA} {pos:Pos}
theorem pa_nil:PA X [] tNil:=fun _ _ _ _ H Q I h=>Calls.spliced_nil ⟨[],H,I,.nil,h⟩
theorem pa_cons (ha:PE X e te) (hr:PA X es t) (hs:starEach (e :: es) X.env=(false,eval e X.env) :: starEach es X.env:=by rfl):PA X (e :: es) (tCons te t):=by
  intro pos pins s σ H Q I h
  rw [hs]
  show wpAny _ _ (spliced ((false,eval e X.env) :: backTo pos (starEach es X.env))) _ _ s
  refine Calls.spliced_cons (thn (ha pins s σ H _ I h) fun u s1 ⟨x,H1,I1,r1,q1⟩=>?_)
  exact thn (hr pos pins s1 σ H1 _ I1 q1) fun us s2 ⟨xs,H2,I2,r2,q2⟩=>⟨x :: xs,H2,I2,.cons r1 r2,q2⟩
end
abbrev Sp:=List V→Hp→VK→XK→Prop
abbrev CXT:=List Env→Hp→Shared→XK→Value→Shared→Prop
structure Env0 (P:Program) (w:World) (K:PySem.W.Frag) (mg:Str→Option Value) (base:Heap) (A:Around) (outer:List Env) (s:Shared) (H:Hp):Prop where
  frames:A.frames=some outer
  mod:Mod K mg base
  bs:∀ b o,base.get? b=some o→s.heap.get? b=some o∧H b=none
  bsz:base.objs.size≤s.heap.objs.size
  funs:s.heap.FunFrames base outer
  frf:∀ b∈frs outer,H b=none
  hok:HOk P w H s.heap
  bare:AllBare s.gens
def CE (outer:List Env) (P:Program) (w:World) (H:Hp) (s:Shared) (Q:VK) (u:Value) (s':Shared):Prop :=
  ∃ v H',s'.os=s.os∧AllBare s'.gens∧Un (frs outer) [] H H' s.heap s'.heap∧HOk P w H' s'.heap∧RelV v u∧Q v H'
def CR (CX:CXT) (outer:List Env) (P:Program) (w:World) (H:Hp) (s:Shared) (Q:VK) (E:XK) (r:Result) (s':Shared):Prop :=
  match r with
  | .ok (.ret u)=>CE outer P w H s Q u s'
  | .ok _=>False
  | .error e=>CX outer H s E e s'
structure FnOk (P:Program) (w:World) (K:PySem.W.Frag) (mg:Str→Option Value) (base:Heap) (CX:CXT) (k:Nat) (f:Addr) (fd:FuncData) (ps:List Str) (sp:Sp):Prop where
  len:∀ vs H Q E,sp vs H Q E→vs.length=ps.length
  run:∀ (A:Around) (outer:List Env) (s:Shared) (H:Hp) (args:Args) (us:List Value) (vs:List V) (Q:VK) (E:XK),Room k A→Env0 P w K mg base A outer s H→BindsTo s fd args (ps.zip us)→Vals vs us→sp vs H Q E →
    codeAny (model P w) A (.call (.ref f) args) (CR CX outer P w H s Q E) s
theorem Env0.make {P:Program} {w:World} {K:PySem.W.Frag} {mg:Str→Option Value} {base:Heap} {A:Around} {outer:List Env} {s:Shared} {H:Hp} (e:Env0 P w K mg base A outer s H) (C:Addr) (us:List Value) (kw:List (Str × Value)) :
    Env0 P w K mg base (A.under (.builtin "type.__call__" ⟨.ref C :: us,kw⟩)) outer s H:=⟨by first | exact e.frames | (simpa [Around.under,Code.envs,Code.isFrame,pushEnvs] using e.frames),e.mod,e.bs,e.bsz,e.funs,e.frf,e.hok,e.bare⟩
section
variable {X:Cx} {pins:List (Addr × Obj)} {σ:St} {H:Hp} {s s':Shared}
theorem Inv.env0 (I:Inv X pins σ H s):Env0 X.prog X.w X.K X.mg X.base X.A X.stack s H :=
  ⟨I.ok.frames,I.ok.mod,I.bs,Nat.le_trans I.ok.bsz I.sz,I.stack,I.stkFree,I.hok,I.bare⟩
theorem Inv.after {Q:VK} {u:Value} (I:Inv X pins σ H s) (h:CE X.stack X.prog X.w H s Q u s'):EP X pins σ Q u s':=by
  obtain ⟨v,H',os,bare,un,hok,r,q⟩:=h
  obtain ⟨hh,g,d,t,os'⟩:=s'
  obtain rfl:os'=s.os:=os
  exact ⟨v,H',I.call (h':=hh) (g':=g) (d':=d) (t':=t) (ch:=[]) un hok bare (fun b z=>absurd z (by simp)),r,q⟩
end
def tCall (sp:Sp) (dvs:List V) (E:XK) (t:TA):TE:=fun σ H Q=>t σ H fun vs H1=>sp (vs ++ dvs) H1 Q E
def tMeth (C:Addr) (m:Str) (sp:Sp) (dvs:List V) (E:XK) (ta:TE) (t:TA):TE:=fun σ H Q=>ta σ H fun x H1 => ∃ a dx fs,x=.ref a∧H1 a=some (.ins C dx fs)∧fs.lookup m=none ∧
  t σ H1 fun vs H2=>sp (x :: (vs ++ dvs)) H2 Q E
def tMake (C:Addr) (sp:Sp) (dvs:List V) (E:XK) (t:TA):TE:=fun σ H Q=>t σ H fun vs H1 => ∀ x dx,H1 x=none→H1 dx=none→dx≠x →
  sp (.ref x :: (vs ++ dvs)) (upd (upd H1 dx (.own x)) x (.ins C dx [])) (fun v H2=>v=.non∧Q (.ref x) H2) E
def Binds (K:PySem.W.Frag) (fd:FuncData) (ps:List Str) (ds:List Value):Prop :=
  ∀ (s:Shared) (us:List Value),K.In s.heap→(us ++ ds).length=ps.length→BindsTo s fd ⟨us,[]⟩ (ps.zip (us ++ ds))
theorem Binds.all {K:PySem.W.Frag} {fd:FuncData} {ps:List Str} (h:∀ us:List Value,us.length=ps.length→bindArgs fd ⟨us,[]⟩=pure (ps.zip us)):Binds K fd ps []:=fun s us _ hl=>by
  rw [List.append_nil] at hl ⊢
  exact .of_eq (h us hl)
def Passes (CX:CXT) (X:Cx) (E:XK):Prop:=∀ (pins:List (Addr × Obj)) (σ:St) (H:Hp) (s:Shared) (e:Value) (s':Shared),Inv X pins σ H s→CX X.stack H s E e s'→X.xe e s'
section
variable {X:Cx} {CX:CXT} {k:Nat} {f C:Addr} {fd:FuncData} {ps:List Str} {sp:Sp} {dvs:List V} {ds:List Value} {E:XK} {x m:Str} {p pos apos:Pos} {e o:Expr} {es:List Expr} {ta:TE} {t:TA}
theorem run_fn {pins:List (Addr × Obj)} {σ:St} {H:Hp} {s:Shared} {Q:VK} {us:List Value} {vs:List V} (F:FnOk X.prog X.w X.K X.mg X.base CX k f fd ps sp) (hr:Room k X.A) (hb:Binds X.K fd ps ds) (hd:Vals dvs ds) (hx:Passes CX X E)
    (I:Inv X pins σ H s) (r:Vals vs us) (h:sp (vs ++ dvs) H Q E):wpAny (model X.prog X.w) X.A (call (.ref f) us) (EP X pins σ Q) X.xe s:=by
  have r2:Vals (vs ++ dvs) (us ++ ds):=r.append hd
  have hl:(us ++ ds).length=ps.length:=by rw [← r2.length]; exact F.len _ _ _ _ h
  refine wpAny_call (codeAny_mono (F.run X.A X.stack s H ⟨us,[]⟩ (us ++ ds) (vs ++ dvs) Q E hr I.env0 (hb s us I.kIn hl) r2 h) fun r s' hq=>?_)
  cases r with
  | error e=>exact hx pins σ H s e s' I hq
  | ok fl =>
    cases fl with
    | ret u=>exact I.after hq
    | next=>exact False.elim hq
    | brk=>exact False.elim hq
    | cont=>exact False.elim hq
theorem pe_call (F:FnOk X.prog X.w X.K X.mg X.base CX k f fd ps sp) (hr:Room k X.A) (hg:Gl X x) (hm:X.mg x=some (.ref f)) (hk:PySem.W.keepIn X.K (.ref f)=true) (hb:Binds X.K fd ps ds) (hd:Vals dvs ds) (hx:Passes CX X E)
    (ha:PA X (e :: es) t) (hdb:(x == ("__debug__" : Str))=false:=by decide) (he:starEach (e :: es) X.env=(false,eval e X.env) :: starEach es X.env:=by rfl) (hpl:(backTo pos (starEach es X.env)).any (·.1)=false:=by rfl) :
    PE X (.Call (.Name x p) (e :: es) [] pos) (tCall sp dvs E t):=by
  intro pins s σ H Q I h
  refine wpAny_Call_Name_kw (ld_glob I hg hm ?_ hdb)
  refine PySem.W.callWith_K (h₀:=X.base) I.ok.mod.kin hk (thn (ha pos pins s σ H _ I h) fun us s1 ⟨vs,H1,I1,r,q⟩=>⟨I1.kIn,?_⟩) he hpl
  exact run_fn F hr hb hd hx I1 r q
theorem pe_meth {pl:Sem Bool} (he:PE X o ta) (c:Cls X.K C) (hm:Meth X.K C m f) (F:FnOk X.prog X.w X.K X.mg X.base CX k f fd ps sp) (hr:Room k X.A) (hb:Binds X.K fd ps ds) (hd:Vals dvs ds) (hx:Passes CX X E) (ha:PA X (e :: es) t)
    (hst:starEach (e :: es) X.env=(false,eval e X.env) :: starEach es X.env:=by rfl) (hpl:(backTo pos (starEach es X.env)).any (·.1)=false:=by rfl)
    (ht:eval (.Call (.Attribute o m apos) (e :: es) [] pos) X.env=(do
      let ov ← eval o X.env
      standAt apos.atName
      let (f,first) ← holding [ov] (getMethod ov m pl)
      callWith pos f first (backTo pos (starEach (e :: es) X.env)) (backToKw pos (keywordEach [] X.env))):=by rfl) :
    PE X (.Call (.Attribute o m apos) (e :: es) [] pos) (tMeth C m sp dvs E ta t):=by
  intro pins s σ H Q I h
  refine PySem.W.methodCall_KW (pl:=pl) (thn (he pins s σ H _ I h) fun u s1 ⟨x,H1,I1,rx,a,dx,fs,ex,ea,l,q⟩=>?_) ht
  subst ex
  obtain rfl:u=Value.ref a:=rx
  refine getmeth_ok I1 ea c hm l ?_
  refine PySem.W.callWith_K (first:=[.ref a]) (h₀:=X.base) I.ok.mod.kin hm.kp (thn (ha pos pins s1 σ H1 _ I1 q) fun us s2 ⟨vs,H2,I2,r,q2⟩=>⟨I2.kIn,?_⟩) hst hpl
  exact run_fn (us:=.ref a :: us) (vs:=.ref a :: vs) F hr hb hd hx I2 (.cons rfl r) q2
theorem pe_meth0 {pl:Sem Bool} (he:PE X o ta) (c:Cls X.K C) (hm:Meth X.K C m f) (F:FnOk X.prog X.w X.K X.mg X.base CX k f fd ps sp) (hr:Room k X.A) (hb:Binds X.K fd ps ds) (hd:Vals dvs ds) (hx:Passes CX X E)
    (ht:eval (.Call (.Attribute o m apos) [] [] pos) X.env=(do
      let ov ← eval o X.env
      standAt apos.atName
      let (f,first) ← holding [ov] (getMethod ov m pl)
      callWith pos f first (backTo pos (starEach [] X.env)) (backToKw pos (keywordEach [] X.env))):=by rfl) :
    PE X (.Call (.Attribute o m apos) [] [] pos) (tMeth C m sp dvs E ta tNil):=by
  intro pins s σ H Q I h
  refine PySem.W.methodCall_KW (pl:=pl) (thn (he pins s σ H _ I h) fun u s1 ⟨x,H1,I1,rx,a,dx,fs,ex,ea,l,q⟩=>?_) ht
  subst ex
  obtain rfl:u=Value.ref a:=rx
  refine getmeth_ok I1 ea c hm l ?_
  exact PySem.W.callWith_K0 (first:=[.ref a]) I1.kIn hm.kp (run_fn (us:=[.ref a]) (vs:=[.ref a]) F hr hb hd hx I1 (.cons rfl .nil) q)
structure Mk (K:PySem.W.Frag) (C f:Addr):Prop where
  makes:PySem.W.makesIn K C=true
  init:PySem.W.findIn K (.ref C) "__init__" = some (some (.ref f))
  fn:PySem.W.isFn K (.ref f)=true
  kp:PySem.W.keepIn K (.ref C)=true
theorem run_make {pins:List (Addr × Obj)} {σ:St} {H:Hp} {s:Shared} {Q:VK} {us:List Value} {vs:List V} (M:Mk X.K C f) (F:FnOk X.prog X.w X.K X.mg X.base CX k f fd ps sp) (hr:Room (k + 1) X.A) (hb:Binds X.K fd ps ds) (hd:Vals dvs ds)
    (hx:Passes CX X E) (I:Inv X pins σ H s) (r:Vals vs us)
    (h:∀ x dx,H x=none→H dx=none→dx≠x→sp (.ref x :: (vs ++ dvs)) (upd (upd H dx (.own x)) x (.ins C dx [])) (fun v H2=>v=.non∧Q (.ref x) H2) E) :
    wpAny (model X.prog X.w) X.A (call (.ref C) us) (EP X pins σ Q) X.xe s:=by
  have hq:=h (s.heap.objs.size + 1) s.heap.objs.size (I.hok.fresh (Nat.le_succ _)) (I.hok.fresh (Nat.le_refl _)) (Nat.ne_of_lt (Nat.lt_succ_self _))
  have I2:=Inv.made (C:=C) I
  have r2:Vals (V.ref (s.heap.objs.size + 1) :: (vs ++ dvs)) (Value.ref (s.heap.objs.size + 1) :: (us ++ ds)):=.cons rfl (r.append hd)
  have hl:(Value.ref (s.heap.objs.size + 1) :: us ++ ds).length=ps.length:=by
    have e:=r2.length
    rw [F.len _ _ _ _ hq] at e
    exact e.symm
  refine wpAny_call (make_map (f:=f) I.kIn M.makes M.init (beq_iff_eq.mp M.fn) (codeAny_mono (F.run _ X.stack _ _ ⟨Value.ref (s.heap.objs.size + 1) :: us,[]⟩ (Value.ref (s.heap.objs.size + 1) :: (us ++ ds)) _ _ E (hr.make C us [])
    (I2.env0.make C us []) (hb _ (Value.ref (s.heap.objs.size + 1) :: us) I2.kIn hl) r2 hq) fun r s' hq'=>?_))
  cases r with
  | error e=>exact hx pins σ _ _ e s' I2 hq'
  | ok fl =>
    cases fl with
    | ret u =>
      obtain ⟨v,H',I3,rv,ev,q3⟩:=I2.after hq'
      subst ev
      exact ⟨rv,⟨V.ref (s.heap.objs.size + 1),H',I3,rfl,q3⟩⟩
    | next=>exact False.elim hq'
    | brk=>exact False.elim hq'
    | cont=>exact False.elim hq'
theorem pe_make (M:Mk X.K C f) (F:FnOk X.prog X.w X.K X.mg X.base CX k f fd ps sp) (hr:Room (k + 1) X.A) (hg:Gl X x) (hm:X.mg x=some (.ref C)) (hb:Binds X.K fd ps ds) (hd:Vals dvs ds) (hx:Passes CX X E)
    (ha:PA X (e :: es) t) (hdb:(x == ("__debug__" : Str))=false:=by decide) (he:starEach (e :: es) X.env=(false,eval e X.env) :: starEach es X.env:=by rfl) (hpl:(backTo pos (starEach es X.env)).any (·.1)=false:=by rfl) :
    PE X (.Call (.Name x p) (e :: es) [] pos) (tMake C sp dvs E t):=by
  intro pins s σ H Q I h
  refine wpAny_Call_Name_kw (ld_glob I hg hm ?_ hdb)
  refine PySem.W.callWith_K (h₀:=X.base) I.ok.mod.kin M.kp (thn (ha pos pins s σ H _ I h) fun us s1 ⟨vs,H1,I1,r,q⟩=>⟨I1.kIn,?_⟩) he hpl
  exact run_make M F hr hb hd hx I1 r q
end
section
variable {X:Cx} {CX:CXT} {k:Nat} {f C:Addr} {fd:FuncData} {ps ks:List Str} {sp:Sp} {E:XK} {x m:Str} {p pos apos kpos:Pos} {e o:Expr} {es:List Expr} {kws:List Keyword} {te ta:TE} {t tk:TA} {nm:Option Str}
variable {g:List Value→List Value→List Value} {gV:List V→List V→List V}
end
structure FnScope (N P:List Str) (sc:Scope):Prop where
  kind:sc.kind=.function
  co:sc.isCoroutine=false
  gen:sc.isGenerator=false
  nd:N.Nodup
  pre:N.take P.length=P
  par:∀ x∈P,sc.names.lookup x=some .local∨sc.names.lookup x=some .cell
  nofree:∀ y∈sc.names,y.2≠.free
theorem bindL_out {kindOf:Str→Option NameKind} {x:Str}:∀ {binds:List (Str × Value)} {m:Str→Option Value},(∀ v,(x,v) ∉ binds)→bindL kindOf binds m x=m x
  | [],_,_=>rfl
  | (n,v) :: r,m,h=>by
    unfold bindL
    rw [bindL_out fun w hw=>h w (List.mem_cons_of_mem _ hw)]
    split
    · have:x≠n:=by rintro rfl; exact h v List.mem_cons_self
      simp [this]
    · rfl
theorem bindC_out {kindOf:Str→Option NameKind} {x:Str}:∀ {binds:List (Str × Value)} {m:Str→Option Value},(∀ v,(x,v) ∉ binds)→bindC kindOf binds m x=m x
  | [],_,_=>rfl
  | (n,v) :: r,m,h=>by
    unfold bindC
    rw [bindC_out fun w hw=>h w (List.mem_cons_of_mem _ hw)]
    split
    · rfl
    · have:x≠n:=by rintro rfl; exact h v List.mem_cons_self
      simp [this]
theorem bindL_get {kindOf:Str→Option NameKind} {x:Str} {v:Value}:∀ {P:List Str} {vs:List Value} {i:Nat} {m:Str→Option Value},P.Nodup→P[i]? = some x→vs[i]? = some v→kindOf x=some .local →
    bindL kindOf (P.zip vs) m x=some v
  | [],_,_,_,_,h,_,_=>by simp at h
  | _ :: _,[],_,_,_,_,h,_=>by simp at h
  | p :: P,w :: vs,0,m,nd,h1,h2,hk=>by
    simp at h1 h2; subst h1; subst h2
    show bindL kindOf ((p,w) :: P.zip vs) m p=_
    unfold bindL
    rw [bindL_out fun v hv=>(List.nodup_cons.mp nd).1 (List.of_mem_zip hv).1,if_pos hk]
    simp
  | p :: P,w :: vs,i + 1,m,nd,h1,h2,hk=>by
    show bindL kindOf ((p,w) :: P.zip vs) m x=_
    unfold bindL
    exact bindL_get (i:=i) (List.nodup_cons.mp nd).2 (by simpa using h1) (by simpa using h2) hk
theorem bindC_get {kindOf:Str→Option NameKind} {x:Str} {v:Value}:∀ {P:List Str} {vs:List Value} {i:Nat} {m:Str→Option Value},P.Nodup→P[i]? = some x→vs[i]? = some v→kindOf x≠some .local →
    bindC kindOf (P.zip vs) m x=some v
  | [],_,_,_,_,h,_,_=>by simp at h
  | _ :: _,[],_,_,_,_,h,_=>by simp at h
  | p :: P,w :: vs,0,m,nd,h1,h2,hk=>by
    simp at h1 h2; subst h1; subst h2
    show bindC kindOf ((p,w) :: P.zip vs) m p=_
    unfold bindC
    rw [bindC_out fun v hv=>(List.nodup_cons.mp nd).1 (List.of_mem_zip hv).1,if_neg hk]
    simp
  | p :: P,w :: vs,i + 1,m,nd,h1,h2,hk=>by
    show bindC kindOf ((p,w) :: P.zip vs) m x=_
    unfold bindC
    exact bindC_get (i:=i) (List.nodup_cons.mp nd).2 (by simpa using h1) (by simpa using h2) hk
def start (N:List Str) (vs:List V):St:=vs.map some ++ List.replicate (N.length - vs.length) none
def cxOf (CX:CXT) (P:Program) (w:World) (K:PySem.W.Frag) (mg:Str→Option Value) (base:Heap) (N:List Str) (qual:Str) (scope:Scope) (f:Addr) (cd:Value) (A:Around) (outer:List Env) (s:Shared) (H:Hp) (E:XK):Cx where
  prog:=P
  w:=w
  K:=K
  mg:=mg
  base:=base
  A:=A.deeper (envOfC qual scope s.heap.objs.size f cd)
  N:=N
  s₀:=s
  H₀:=H
  env:=envOfC qual scope s.heap.objs.size f cd
  outer:=outer
  stack:=envOfC qual scope s.heap.objs.size f cd :: outer
  ex:=[]
  calm:=true
  fn:=fun _=>true
  pn:=[]
  xe:=fun e s'=>wpAny (model P w) (A.deeper (envOfC qual scope s.heap.objs.size f cd)) (leaving (envOfC qual scope s.heap.objs.size f cd) e) (fun _ s''=>CX outer H s E e s'') (fun e' s''=>CX outer H s E e' s'') s'
theorem cell_has {sc:Scope} {n:Nat} {x:Str} (h:sc.names.lookup x=some .cell):∃ c,(cellsFrom n sc.names []).lookup x=some c:=by
  have q:=PySem.W.cellsFrom_some sc.names n [] (.inl h)
  exact Option.isSome_iff_exists.mp q
theorem inv_start {CX:CXT} {P:Program} {w:World} {K:PySem.W.Frag} {mg:Str→Option Value} {base:Heap} {N ps:List Str} {qual:Str} {scope:Scope} {f:Addr} {cd:Value} {A:Around} {outer:List Env} {s s1:Shared} {H:Hp} {E:XK} {us:List Value} {vs:List V}
    (S:FnScope N ps scope) (hd:A.handled=none) (e0:Env0 P w K mg base A outer s H) (hl:vs.length=ps.length) (r:Vals vs us)
    (x:InCallC s s.heap.objs.size (bindL (envOfC qual scope s.heap.objs.size f cd).kindOf (ps.zip us) fun _=>none) (cellsFrom (s.heap.objs.size + 1) scope.names []) (bindC (envOfC qual scope s.heap.objs.size f cd).kindOf (ps.zip us) fun _=>none) s1) :
    Inv (cxOf CX P w K mg base N qual scope f cd A outer s H E) [] (start N vs) H s1:=by
  have hpl:ps.length≤N.length:=by have:=congrArg List.length S.pre; rw [List.length_take] at this; omega
  obtain ⟨h1,tk,rfl,hk⟩:=x.done
  have noA:∀ b:Addr,b ∉ (cxOf CX P w K mg base N qual scope f cd A outer s H E).ex:=fun b z=>absurd (show b∈([]:List Addr) from z) (by simp)
  refine ⟨⟨e0.mod,S.kind,rfl,rfl,Nat.le_refl _,fun y z c h1 h2=>?_,fun y hy=>?_,fun y c _ h=>?_,fun _=>hd,Around.frames_deeper e0.frames,.inr ⟨rfl,rfl⟩,fun b z=>absurd z (noA b),e0.bs,e0.bsz,fun b _ _=>noA b,fun b z=>absurd z (noA b),e0.funs,e0.frf⟩,
    rfl,e0.bare,Un.kept hk,⟨_,x.toInCall.ns,fun i y v h1 h2 h3=>?_⟩,fun y c h=>⟨_,x.cell y c h⟩,e0.hok.fresh (Nat.le_refl _),fun y c h=>?_,fun p hp=>absurd (show p∈([]:List (Addr × Obj)) from hp) (by simp),e0.hok.kept hk,?_⟩
  · exact name_of_addr x.apart (PySem.mem_of_lookup h1) (PySem.mem_of_lookup h2)
  · have hy:scope.names.lookup y=some .cell∨scope.names.lookup y=some .free:=hy
    rcases hy with hy | hy
    · exact cell_has hy
    · exact absurd rfl (S.nofree _ (PySem.mem_of_lookup hy))
  · exact Nat.le_of_lt (x.above y c (PySem.mem_of_lookup h))
  · have hi:i < vs.length:=by
      unfold start at h2
      by_cases hi:i < vs.length
      · exact hi
      · rw [List.getElem?_append_right (by simpa using hi)] at h2
        rw [List.getElem?_replicate] at h2
        split at h2 <;> cases h2
    have ha:vs[i]? = some v:=by
      unfold start at h2
      rw [List.getElem?_append_left (by simpa using hi),List.getElem?_map] at h2
      cases e:vs[i]? with
      | none=>rw [e] at h2; cases h2
      | some a=>rw [e] at h2; cases h2; rfl
    obtain ⟨u,hu,rv⟩:=r.get ha
    have hp:ps[i]? = some y:=by
      rw [← S.pre,List.getElem?_take_of_lt (by omega)]; exact h1
    have ndP:ps.Nodup:=by rw [← S.pre]; exact S.nd.sublist (List.take_sublist _ _)
    refine ⟨u,rv,?_⟩
    rcases S.par y (List.mem_of_getElem? hp) with k | k
    · exact .inl ⟨k,bindL_get ndP hp hu k⟩
    · obtain ⟨c,e⟩:=cell_has (n:=s.heap.objs.size + 1) k
      refine .inr ⟨.inl k,c,e,?_⟩
      have q:=x.cell y c e
      rw [bindC_get ndP hp hu (by show scope.names.lookup y≠_; rw [k]; decide)] at q
      exact q
  · exact e0.hok.fresh (Nat.le_of_lt (x.above y c (PySem.mem_of_lookup h)))
  · unfold start
    show _=N.length
    rw [List.length_append,List.length_map,List.length_replicate]
    omega
theorem fn_of {CX:CXT} {P:Program} {w:World} {K:PySem.W.Frag} {mg:Str→Option Value} {base:Heap} {k:Nat} {f:Addr} {name qual:Str} {params:Arguments} {body:List Stmt} {scope:Scope} {dV kV doc pm cdv ct oc:Value} {an od:Option Addr}
    {osl:Array (Option Value)} {N ps:List Str} {sp:Sp} (lk:K.lookup f=some ⟨oc,od,.func (PySem.W.fnOf name qual params body scope dV kV doc pm an cdv ct),osl⟩) (hcd:PySem.W.codeIn K cdv qual=true) (S:FnScope N ps scope)
    (len:∀ vs H Q E,sp vs H Q E→vs.length=ps.length)
    (hbody:∀ (A:Around) (outer:List Env) (s:Shared) (H:Hp) (vs:List V) (Q:VK) (E:XK),Room k (A.deeper (envOfC qual scope s.heap.objs.size f cdv))→sp vs H Q E →
      ∃ t,PSs (cxOf CX P w K mg base N qual scope f cdv A outer s H E) body t∧t { nx:=fun _ H'=>Q .non H',rt:=Q } (start N vs) H) :
    FnOk P w K mg base CX (k + 1) f (PySem.W.fnOf name qual params body scope dV kV doc pm an cdv ct) ps sp:=by
  refine ⟨len,fun A outer s H args us vs Q E hr e0 hb r hsp=>?_⟩
  have hl:=len _ _ _ _ hsp
  have KX:K.In s.heap:=e0.mod.kin.keeps fun b o e=>(e0.bs b o e).1
  have lim:s.heap.NoLimit:=e0.mod.nolimit.keeps fun b o e=>(e0.bs b o e).1
  have hkind:∀ y∈ps.zip us,scope.names.lookup y.1=some .local∨(scope.names.lookup y.1=some .cell∧((cellsFrom (s.heap.objs.size + 1) scope.names []).lookup y.1).isSome=true):=fun ⟨n,v⟩ hy=>by
    rcases S.par n (List.of_mem_zip hy).1 with q | q
    · exact .inl q
    · exact .inr ⟨q,PySem.W.cellsFrom_some _ _ _ (.inl q)⟩
  refine codeAny_call_function hr.depth (KX _ _ lk) rfl S.co S.gen rfl (PySem.W.codeRec_of KX hcd) (hb _ _ _ _ ?_)
  refine wpAny_newFunctionEnv_cells S.kind hkind fun env he s1 x=>?_
  subst he
  refine ⟨lim.keeps x.toInCall.keep,codeAny_func ?_⟩
  obtain ⟨t,ht,hq⟩:=hbody A outer s H vs Q E (hr.deeper _) hsp
  have I:Inv (cxOf CX P w K mg base N qual scope f cdv A outer s H E) [] (start N vs) H s1:=inv_start S hr.hd e0 hl r x
  refine wpAny_mono (ht [] s1 (start N vs) H _ I hq) (fun fl s' hs=>?_) fun e s' hs=>hs
  have fin:∀ {σ':St} {H':Hp} {v:V} {u:Value},Inv (cxOf CX P w K mg base N qual scope f cdv A outer s H E) [] σ' H' s'→RelV v u→Q v H'→CE outer P w H s Q u s' :=
    fun {σ' H' v u} J rv q=>⟨v,H',J.os,J.bare,J.base,J.hok,rv,q⟩
  cases fl with
  | ret u =>
    obtain ⟨v,σ',H',J,rv,q⟩:=hs
    exact fin J rv q
  | next =>
    obtain ⟨σ',H',J,q⟩:=hs
    exact fin (v:=V.non) (u:=Value.none) J rfl q
  | brk =>
    obtain ⟨_,_,_,q⟩:=hs
    exact False.elim q
  | cont =>
    obtain ⟨_,_,_,q⟩:=hs
    exact False.elim q
end L2
namespace L2
open PySem PySem.Spec PyProof.Rows
section
variable {X:Cx} {x:Str} {p pos:Pos} {e:Expr} {es:List Expr} {t:TA} {id T:String} {r:List V→Hp→VK→Prop}
def tCB (r:List V→Hp→VK→Prop) (t:TA):TE:=fun σ H Q=>t σ H fun vs H1=>r vs H1 Q
theorem pe_callB (hc:CallR X (.builtin id) r) (hg:Gl X x) (hm:X.mg x=none) (hv:bootBuiltins x=some (.builtin id)) (ha:PA X (e :: es) t) (hn:x≠"__name__" := by decide) (hdb:(x == ("__debug__" : Str))=false:=by decide)
    (he:starEach (e :: es) X.env=(false,eval e X.env) :: starEach es X.env:=by rfl) (hpl:(backTo pos (starEach es X.env)).any (·.1)=false:=by rfl):PE X (.Call (.Name x p) (e :: es) [] pos) (tCB r t):=by
  intro pins s σ H Q I h
  refine wpAny_Call_Name_kw (ld_blt I hg hm hv ?_ hn hdb)
  exact PyProof.Rows.callWith_builtin1 (thn (ha pos pins s σ H _ I h) fun us s1 ⟨vs,H1,I1,r1,q1⟩=>hc pins s1 σ H1 vs us Q I1 r1 q1) he hpl
theorem pe_callTy (hc:CallR X (.type T) r) (hg:Gl X x) (hm:X.mg x=none) (hv:bootBuiltins x=some (.type T)) (ha:PA X (e :: es) t) (hn:x≠"__name__" := by decide) (hdb:(x == ("__debug__" : Str))=false:=by decide)
    (he:starEach (e :: es) X.env=(false,eval e X.env) :: starEach es X.env:=by rfl) (hpl:(backTo pos (starEach es X.env)).any (·.1)=false:=by rfl):PE X (.Call (.Name x p) (e :: es) [] pos) (tCB r t):=by
  intro pins s σ H Q I h
  refine wpAny_Call_Name_kw (ld_blt I hg hm hv ?_ hn hdb)
  exact PyProof.Rows.callWith_type1 (thn (ha pos pins s σ H _ I h) fun us s1 ⟨vs,H1,I1,r1,q1⟩=>hc pins s1 σ H1 vs us Q I1 r1 q1) he hpl
end
end L2
namespace HT
open PySem PyProof.Rows
section
open PySem.SeqAt
open PySem.AutoSeq1 (wpAny_loadPart')
open PySem.MeetsSeq PySem.MeetsSeq2 PySem.MeetsSeq3
end
section
variable {prog:Program} {w:World} {A:Around} {E:Value→Shared→Prop} {s:Shared}
def sIx (n d:Nat):Option Int→Nat
  | none=>d
  | some v=>if v < 0 then (v + (n:Int)).toNat else min v.toNat n
theorem sIx_nat (n d k:Nat):sIx n d (some (k:Int))=min k n:=by
  show (if (k:Int) < 0 then ((k:Int) + (n:Int)).toNat else min (k:Int).toNat n)=min k n
  rw [if_neg (by omega),Int.toNat_natCast]
end
end HT
namespace L2
open PySem PySem.Spec PyProof.Rows
abbrev TO:=St→Hp→(Option Int→Hp→Prop)→Prop
def PO (X:Cx) (e:Option Expr) (t:TO):Prop :=
  ∀ (pins:List (Addr × Obj)) (s:Shared) (σ:St) (H:Hp) (Q:Option Int→Hp→Prop),Inv X pins σ H s→t σ H Q →
    wpAny (model X.prog X.w) X.A (evalPart e X.env) (fun u s' => ∃ o H',Inv X pins σ H' s'∧IsPart u o∧Q o H') X.xe s
def tNoPart:TO:=fun _ H Q=>Q none H
def tPart (t:TE):TO:=fun σ H Q=>t σ H fun x H1 => ∃ i,x=.int i∧Q (some i) H1
theorem intsAre_of {ns:List Int}:∀ {us:List Value},Vals (ns.map V.int) us→IntsAre us ns:=by
  induction ns with
  | nil=>intro us r; rw [List.map_nil] at r; cases r; exact .nil
  | cons n ns ih =>
    intro us r
    rw [List.map_cons] at r
    cases r with
    | cons r1 r2 =>
      obtain ⟨t,e⟩:=r1
      subst e
      exact .cons n t (ih r2)
section
variable {X:Cx} {e:Expr} {te:TE} {lo hi:Option Expr} {tl th:TO} {pos p2:Pos}
theorem po_none:PO X none tNoPart:=by
  intro pins s σ H Q I h
  rw [evalPart_none]
  exact wpAny_pure ⟨none,H,I,.none,h⟩
theorem po_some (h:PE X e te):PO X (some e) (tPart te):=by
  intro pins s σ H Q I hw
  rw [evalPart_some]
  refine thn (h pins s σ H _ I hw) fun u s1 ⟨x,H1,I1,r1,q1⟩=>?_
  obtain ⟨i,rfl,q⟩:=q1
  obtain ⟨t,rfl⟩:=r1
  exact ⟨some i,H1,I1,.int i t,q⟩
def SlR (X:Cx) (r:V→Option Int→Option Int→Hp→VK→Prop):Prop :=
  ∀ (pins:List (Addr × Obj)) (s:Shared) (σ:St) (H:Hp) (x:V) (v vl vu:Value) (lo hi:Option Int) (sl:Addr) (Q:VK),Inv X pins σ H s→RelV x v→s.heap.IsSliceOf sl vl vu .none→IsPart vl lo→IsPart vu hi→r x lo hi H Q →
    ∃ T id,typeLookup (.type T) "__getitem__" = pure (some (.builtin id))∧s.TypeIs v T∧wpAny (model X.prog X.w) X.A (getItem v (.ref sl)) (EP X pins σ Q) X.xe s
def tSl (r:V→Option Int→Option Int→Hp→VK→Prop) (te:TE) (tl th:TO):TE:=fun σ H Q=>te σ H fun x H1=>tl σ H1 fun l H2=>th σ H2 fun u H3=>r x l u H3 Q
theorem pe_slice {r:V→Option Int→Option Int→Hp→VK→Prop} (hr:SlR X r) (he:PE X e te) (hl:PO X lo tl) (hu:PO X hi th):PE X (.Subscript e (.Slice lo hi none p2) pos) (tSl r te tl th):=by
  intro pins s σ H Q I h
  refine Subscript_ (thn (he pins s σ H _ I h) fun v s1 ⟨x,H1,I1,r1,q1⟩=>?_)
  refine wpAny_Slice (thn (hl pins s1 σ H1 _ I1 q1) fun vl s2 ⟨l,H2,I2,pl,q2⟩=>thn (hu pins s2 σ H2 _ I2 q2) fun vu s3 ⟨u,H3,I3,pu,q3⟩=>?_)
  rw [evalPart_none]
  refine wpAny_pure ?_
  have I4:Inv X pins σ H3 { s3 with heap:=s3.heap.push { cls:=.type "slice",data:=.fields #[vl,vu,.none] } }:=I3.kept (t':=s3.toks) fun b ob q=>Heap.get?_push_of_some _ q
  obtain ⟨T,id,hT,ht,hg⟩:=hr pins { s3 with heap:=s3.heap.push { cls:=.type "slice",data:=.fields #[vl,vu,.none] } } σ H3 x v vl vu l u s3.heap.objs.size Q I4 r1 (Heap.IsSliceOf.new ..) pl pu q3
  show wpAny (model X.prog X.w) X.A (subscriptTail e (.Slice lo hi none p2) v (.ref s3.heap.objs.size)) (EP X pins σ Q) X.xe { s3 with heap:=s3.heap.push { cls:=.type "slice",data:=.fields #[vl,vu,.none] } }
  exact tail_any (ops:=[.ref s3.heap.objs.size,v]) ht hT hg (by with_unfolding_all rfl)
def cutV (xs:List V) (lo hi:Option Int):List V:=(xs.drop (HT.sIx xs.length 0 lo)).take (HT.sIx xs.length xs.length hi - HT.sIx xs.length 0 lo)
theorem cutV_length (xs:List V) (lo hi:Option Int):(cutV xs lo hi).length≤xs.length:=by
  unfold cutV
  rw [List.length_take,List.length_drop]
  omega
end
end L2
namespace L2
open PySem PySem.Spec PyProof.Rows
def ixN (n:Nat) (i:Int):Option Nat:=if 0≤i then (if i < n then some i.toNat else none) else if -(n:Int)≤i then some (i + n).toNat else none
def atI {α:Type} (xs:List α) (i:Int):Option α:=(ixN xs.length i).bind fun j=>xs[j]?
theorem ixN_seq {n:Nat} {i:Int} {j:Nat} (h:ixN n i=some j):seqIndex? i n=some j∧j < n∧-(n:Int)≤i∧i < n:=by
  unfold ixN at h
  by_cases h0:0≤i
  · rw [if_pos h0] at h
    by_cases h1:i < n
    · rw [if_pos h1] at h
      have e:i.toNat=j:=Option.some.inj h
      exact ⟨by rw [seqIndex_of h0 h1,e],by omega,by omega,h1⟩
    · rw [if_neg h1] at h; cases h
  · rw [if_neg h0] at h
    by_cases h1:-(n:Int)≤i
    · rw [if_pos h1] at h
      have e:(i + n).toNat=j:=Option.some.inj h
      exact ⟨by rw [seqIndex_neg (by omega) h1,e],by omega,h1,by omega⟩
    · rw [if_neg h1] at h; cases h
theorem atI_get {α:Type} {xs:List α} {i:Int} {v:α} (h:atI xs i=some v):∃ j,seqIndex? i xs.length=some j∧xs[j]? = some v∧j < xs.length∧-(xs.length:Int)≤i∧i < xs.length:=by
  unfold atI at h
  cases e:ixN xs.length i with
  | none=>rw [e] at h; cases h
  | some j =>
    rw [e] at h
    obtain ⟨h1,h2,h3,h4⟩:=ixN_seq e
    exact ⟨j,h1,h,h2,h3,h4⟩
theorem atI_nat {α:Type} {xs:List α} {j:Nat} {v:α} (h:xs[j]? = some v):atI xs (j:Int)=some v:=by
  have hj:j < xs.length:=(List.getElem?_eq_some_iff.mp h).1
  have e:ixN xs.length (j:Int)=some j:=by
    unfold ixN
    rw [if_pos (by omega),if_pos (by omega)]; simp
  unfold atI; rw [e]; exact h
def PlainIx (b:Expr):Prop:=∀ o i,subscripted b false o i=operate [o,i] (getItem o i)
def IxR (X:Cx) (r:R2):Prop :=
  ∀ (value slice:Expr) (pins:List (Addr × Obj)) (s:Shared) (σ:St) (H:Hp) (x y:V) (v u:Value) (Q:VK),Inv X pins σ H s→RelV x v→RelV y u→r x y H Q →
    subscripted slice false v u=operate [v,u] (getItem v u)→wpAny (model X.prog X.w) X.A (subscriptTail value slice v u) (EP X pins σ Q) X.xe s
def MtR (X:Cx) (id:String) (r:V→List V→Hp→VK→Prop):Prop :=
  ∀ (pins:List (Addr × Obj)) (s:Shared) (σ:St) (H:Hp) (x:V) (xs:List V) (v:Value) (us:List Value) (Q:VK),Inv X pins σ H s→RelV x v→Vals xs us→r x xs H Q →
    wpAny (model X.prog X.w) X.A (call (.builtin id) (v :: us)) (EP X pins σ Q) X.xe s
section
variable {X:Cx} {a b:Expr} {ta tb:TE} {pos:Pos}
theorem IxR.or {r r':R2} (h:IxR X r) (h':IxR X r'):IxR X (fun x y H Q=>r x y H Q∨r' x y H Q):=by
  intro value slice pins s σ H x y v u Q I rx ry q hs
  rcases q with q | q
  · exact h value slice pins s σ H x y v u Q I rx ry q hs
  · exact h' value slice pins s σ H x y v u Q I rx ry q hs
theorem pe_ix {r:R2} (hr:IxR X r) (ha:PE X a ta) (hb:PE X b tb) (hs:PlainIx b):PE X (.Subscript a b pos) (tOp r ta tb):=by
  intro pins s σ H Q I h
  exact Subscript_ (binT ha hb I h fun v u s2 x y H2 I2 rx ry q=>hr a b pins s2 σ H2 x y v u Q I2 rx ry q (hs _ _))
def rIxL (K:PySem.W.Frag):R2:=fun x y H Q => ∃ p xs i v,x=.ref p∧y=.int i∧SqL K H p xs∧atI xs i=some v∧Q v H
def rIxT (K:PySem.W.Frag):R2:=fun x y H Q => ∃ p xs i v,x=.ref p∧y=.int i∧SqT K H p xs∧atI xs i=some v∧Q v H
def rIxS:R2:=fun x y H Q => ∃ z i c,x=.str z∧y=.int i∧z.length≤sizeLine∧atI z.cps.toList i=some c∧Q (.str ⟨#[c]⟩) H
theorem ix_list:IxR X (rIxL X.K):=by
  intro value slice pins s σ H x y v u Q I rx ry h hs
  obtain ⟨p,xs,i,z,rfl,rfl,hq,he,q⟩:=h
  cases rx
  obtain ⟨t,rfl⟩:=ry
  obtain ⟨its,r,pl,hz⟩:=I.list hq
  obtain ⟨j,h1,h2,h3,h4,h5⟩:=atI_get he
  obtain ⟨w,ew,rw'⟩:=r.get h2
  have hl:=r.length
  have hn:=line63
  have fin:EP X pins σ Q w s:=⟨z,H,I,rw',q⟩
  by_cases h0:0≤i
  · have hj:i.toNat=j:=by
      rw [seqIndex_of h0 h5] at h1
      exact Option.some.inj h1
    exact item_listR pl.isList h0 (by omega) (by rw [hj]; simpa using ew) fin hs
  · have hj:(i + (its.toArray.size:Int)).toNat=j:=by
      rw [seqIndex_neg (by omega) h4] at h1
      rw [List.size_toArray,← hl]
      exact Option.some.inj h1
    exact subscriptTail_builtinR (x:=w) pl.isList.typeIs slot_list_getitem.lookup
      (wpAny_getItem_list_neg (Q:=fun r s'=>r=w∧EP X pins σ Q r s') pl.isList (by omega) (by rw [List.size_toArray] <;> omega) (by omega) (by rw [hj]; simpa using ew) ⟨rfl,fin⟩) hs
theorem ix_tup:IxR X (rIxT X.K):=by
  intro value slice pins s σ H x y v u Q I rx ry h hs
  obtain ⟨p,xs,i,z,rfl,rfl,hq,he,q⟩:=h
  cases rx
  obtain ⟨t,rfl⟩:=ry
  obtain ⟨its,r,pl,hz⟩:=I.tuple hq
  obtain ⟨j,h1,h2,h3,h4,h5⟩:=atI_get he
  obtain ⟨w,ew,rw'⟩:=r.get h2
  have hl:=r.length
  have hn:=line63
  have fin:EP X pins σ Q w s:=⟨z,H,I,rw',q⟩
  exact subscriptTail_builtinR (x:=w) pl.typeIs slot_tuple_getitem.lookup
    (getItem_tuple (j:=j) (Q:=fun r s'=>r=w∧EP X pins σ Q r s') pl (by omega) (by omega) (by rw [List.size_toArray,← hl]; exact h1) (by simpa using ew) ⟨rfl,fin⟩) hs
theorem ix_str:IxR X rIxS:=by
  intro value slice pins s σ H x y v u Q I rx ry h hs
  obtain ⟨z,i,c,rfl,rfl,hz,he,q⟩:=h
  obtain ⟨t,rfl⟩:=rx
  obtain ⟨t',rfl⟩:=ry
  obtain ⟨j,h1,h2,h3,h4,h5⟩:=atI_get he
  have hl:z.cps.toList.length=z.length:=by simp [Str.length]
  rw [hl] at h1 h4 h5
  have hn:=line63
  exact tail_any (typeIs_str s z t) slot_str_getitem.lookup (getItem_str (c:=c) (by
    have e1:decide (i < -(2 ^ 63:Int))=false:=decide_eq_false (by omega)
    have e2:decide (i≥2 ^ 63)=false:=decide_eq_false (by omega)
    rw [e1,e2,Bool.or_false]) (by rw [h1]; simpa using h2) ⟨.str ⟨#[c]⟩,H,I.tok _,⟨_,rfl⟩,q⟩) hs
def rIx (K:PySem.W.Frag):R2:=fun x y H Q=>rIxL K x y H Q∨rIxT K x y H Q∨rIxS x y H Q
theorem ix_seq:IxR X (rIx X.K):=ix_list.or (ix_tup.or ix_str)
theorem mapSeq_set (its:List Value) (n j:Nat) (u:Value):Obj.mapSeq (·.setIfInBounds j u) { cls:=.type "list",data:=.seq its.toArray n }={ cls:=.type "list",data:=.seq (its.set j u).toArray n }:=by
  simp [Obj.mapSeq]
theorem Inv.lst {pins:List (Addr × Obj)} {σ:St} {H:Hp} {s:Shared} {p:Addr} {xs:List V} (I:Inv X pins σ H s) (h:H p=some (.lst xs)) :
    ∃ (its:List Value) (n:Nat),Vals xs its∧s.heap.get? p=some { cls:=.type "list",data:=.seq its.toArray n }∧xs.length≤sizeLine:=by
  obtain ⟨z,its,n,r,e⟩:=I.hok p _ h
  exact ⟨its,n,r,e,z⟩
theorem Inv.lstUpd {pins:List (Addr × Obj)} {σ:St} {H:Hp} {s:Shared} {p:Addr} {xs ys:List V} {its its':List Value} {n n':Nat} {f:Obj→Obj} (I:Inv X pins σ H s) (h:H p=some (.lst xs))
    (ho:s.heap.get? p=some { cls:=.type "list",data:=.seq its.toArray n }) (hf:f { cls:=.type "list",data:=.seq its.toArray n }={ cls:=.type "list",data:=.seq its'.toArray n' }) (r:Vals ys its') (hz:ys.length≤sizeLine) (t:Nat) :
    Inv X pins σ (upd H p (.lst ys)) { s with heap:=s.heap.update p f,toks:=t }:=by
  have e:(s.heap.update p f).get? p=some { cls:=.type "list",data:=.seq its'.toArray n' }:=by
    rw [Heap.get?_update_self f ho (by rw [hf] <;> rfl),hf]
  refine I.write (x:=p) (e:=p) (by rw [h]; trivial) (.inl rfl) (fun b u hb q=>(Heap.get?_update_other _ _ (Ne.symm hb)).trans q) ⟨_,e⟩ ?_
  exact ⟨hz,its',n',r,e⟩
def rSetL:V→V→V→Hp→(Hp→Prop)→Prop:=fun o i v H Q => ∃ p xs k j,o=.ref p∧i=.int k∧H p=some (.lst xs)∧ixN xs.length k=some j∧Q (upd H p (.lst (xs.set j v)))
theorem set_list:PSet X rSetL:=by
  intro pins s σ H o i v ov iv u Q I ro ri rv h
  obtain ⟨p,xs,k,j,rfl,rfl,hp,hj,q⟩:=h
  cases ro
  obtain ⟨t,rfl⟩:=ri
  obtain ⟨its,n,r,ho,hz⟩:=I.lst hp
  obtain ⟨h1,h2,h3,h4⟩:=ixN_seq hj
  have hl:=r.length
  have hn:=line63
  have I':Inv X pins σ (upd H p (.lst (xs.set j v))) { s with heap:=s.heap.update p (Obj.mapSeq (·.setIfInBounds j u)) } :=
    I.lstUpd hp ho (mapSeq_set its n j u) (r.set rv j) (by rw [List.length_set]; exact hz) s.toks
  by_cases h0:0≤k
  · have hk:k.toNat=j:=by
      rw [seqIndex_of h0 h4] at h1
      exact Option.some.inj h1
    exact PySem.W.ki_setAt ho h0 (by omega) (by rw [List.size_toArray,← hl]; exact h4) (by rw [hk]; exact ⟨_,I',q⟩)
  · have hk:(k + (its.toArray.size:Int)).toNat=j:=by
      rw [seqIndex_neg (by omega) h3] at h1
      rw [List.size_toArray,← hl]
      exact Option.some.inj h1
    exact PySem.W.ki_setBack ho (by omega) (by rw [List.size_toArray,← hl]; exact h3) (by omega) (by rw [hk]; exact ⟨_,I',q⟩)
theorem slice_bounds (lo hi:Option Int) (n:Nat):(sliceBounds lo hi none n).1=((HT.sIx n 0 lo:Nat):Int)∧(sliceBounds lo hi none n).2.1=((HT.sIx n n hi:Nat):Int)∧(sliceBounds lo hi none n).2.2=1:=by
  refine ⟨?_,?_,rfl⟩
  · cases lo with
    | none=>simp [sliceBounds,HT.sIx]
    | some i =>
      simp only [sliceBounds,HT.sIx,Option.getD_none,show (1:Int) > 0 by decide,if_true]
      by_cases h:i < 0
      · simp only [h,if_true] <;> omega
      · simp only [h,if_false] <;> omega
  · cases hi with
    | none=>simp [sliceBounds,HT.sIx]
    | some i =>
      simp only [sliceBounds,HT.sIx,Option.getD_none,show (1:Int) > 0 by decide,if_true]
      by_cases h:i < 0
      · simp only [h,if_true] <;> omega
      · simp only [h,if_false] <;> omega
theorem slicePick_cut (its:List Value) (lo hi:Option Int):slicePick its.toArray lo hi none=((its.drop (HT.sIx its.length 0 lo)).take (HT.sIx its.length its.length hi - HT.sIx its.length 0 lo)).toArray:=by
  obtain ⟨h1,h2,h3⟩:=slice_bounds lo hi its.toArray.size
  unfold slicePick
  rw [h1,h2,h3]
  simp only [sliceRange_one,pick_run,List.size_toArray] <;> rfl
def rSlL (K:PySem.W.Frag):V→Option Int→Option Int→Hp→VK→Prop:=fun x lo hi H Q => ∃ a xs,x=.ref a∧SqL K H a xs∧∀ p,H p=none→Q (.ref p) (upd H p (.lst (cutV xs lo hi)))
theorem sl_list:SlR X (rSlL X.K):=by
  intro pins s σ H x v vl vu lo hi sl Q I rx hs pl pu h
  obtain ⟨a,xs,rfl,hx,q⟩:=h
  cases rx
  obtain ⟨its,r,ht,hz⟩:=I.list hx
  have hlen:=r.length
  refine ⟨"list",_,slot_list_getitem.lookup,ht.isList.typeIs,?_⟩
  refine wpAny_getItem_list_slice ht.isList hs pl pu .none (by simp) ?_ (by rw [List.size_toArray] <;> omega)
  rw [slicePick_cut,← hlen]
  refine ⟨.ref s.heap.objs.size,_,I.laid (t':=s.toks) (o:=.lst (cutV xs lo hi)) (fun b ob q=>Heap.get?_push_of_some _ q) (Nat.le_refl _) ?_,rfl,q _ (I.hok.fresh (Nat.le_refl _))⟩
  exact ⟨Nat.le_trans (cutV_length xs lo hi) hz,_,0,(r.drop (HT.sIx xs.length 0 lo)).take (HT.sIx xs.length xs.length hi - HT.sIx xs.length 0 lo),Heap.get?_push_size _ rfl⟩
def flatV:V→Bool
  | .non=>true
  | .bl _=>true
  | .int _=>true
  | .str _=>true
  | _=>false
def eqV:V→V→Bool
  | .non,.non=>true
  | .bl a,.bl b=>a == b
  | .bl a,.int b=>(if a then 1 else 0) == b
  | .int a,.bl b=>a == (if b then 1 else 0)
  | .int a,.int b=>a == b
  | .str a,.str b=>a == b
  | _,_=>false
theorem eqAt_V {A:Around} {s:Shared} {y x:V} {u v:Value} (ry:RelV y u) (rx:RelV x v) (fy:flatV y=true) (fx:flatV x=true):SeqAt.EqAt A s u v (eqV y x):=by
  cases y with
  | non =>
    cases ry
    cases x with
    | non=>cases rx; exact SeqAt.EqAt.same _
    | bl b=>cases rx; exact SeqAt.EqAt.none_bool b
    | int b=>obtain ⟨t,rfl⟩:=rx; exact SeqAt.EqAt.none_int b t
    | str b=>obtain ⟨t,rfl⟩:=rx; exact SeqAt.EqAt.none_str b t
    | _=>exact absurd (show false=true from fx) Bool.false_ne_true
  | bl a =>
    cases ry
    cases x with
    | non=>cases rx; exact SeqAt.EqAt.bool_none a
    | bl b=>cases rx; exact SeqAt.EqAt.bool_bool a b
    | int b=>obtain ⟨t,rfl⟩:=rx; exact SeqAt.EqAt.bool_int a b t
    | str b=>obtain ⟨t,rfl⟩:=rx; exact SeqAt.EqAt.bool_str a b t
    | _=>exact absurd (show false=true from fx) Bool.false_ne_true
  | int a =>
    obtain ⟨t',rfl⟩:=ry
    cases x with
    | non=>cases rx; exact SeqAt.EqAt.int_none a t'
    | bl b=>cases rx; exact SeqAt.EqAt.int_bool a t' b
    | int b=>obtain ⟨t,rfl⟩:=rx; exact SeqAt.EqAt.int_int a t' b t
    | str b=>obtain ⟨t,rfl⟩:=rx; exact SeqAt.EqAt.int_str a t' b t
    | _=>exact absurd (show false=true from fx) Bool.false_ne_true
  | str a =>
    obtain ⟨t',rfl⟩:=ry
    cases x with
    | non=>cases rx; exact SeqAt.EqAt.str_none a t'
    | bl b=>cases rx; exact SeqAt.EqAt.str_bool a t' b
    | int b=>obtain ⟨t,rfl⟩:=rx; exact SeqAt.EqAt.str_int a t' b t
    | str b=>obtain ⟨t,rfl⟩:=rx; exact SeqAt.EqAt.str_str a t' b t
    | _=>exact absurd (show false=true from fx) Bool.false_ne_true
  | _=>exact absurd (show false=true from fy) Bool.false_ne_true
def eqU (x:V) (u:Value):Bool:=match u with
  | .none=>eqV .non x
  | .bool b=>eqV (.bl b) x
  | .int i _=>eqV (.int i) x
  | .str z _=>eqV (.str z) x
  | _=>false
theorem eqU_of {x y:V} {u:Value} (r:RelV y u) (f:flatV y=true):eqU x u=eqV y x:=by
  cases y with
  | non=>cases r; rfl
  | bl b=>cases r; rfl
  | int i=>obtain ⟨t,rfl⟩:=r; rfl
  | str z=>obtain ⟨t,rfl⟩:=r; rfl
  | _=>exact absurd (show false=true from f) Bool.false_ne_true
theorem any_eqU {x:V}:∀ {xs:List V} {us:List Value},Vals xs us→xs.all flatV=true→us.any (eqU x)=xs.any fun y=>eqV y x
  | _,_,.nil,_=>rfl
  | y :: xs,u :: us,.cons r t,f=>by
    rw [List.all_cons,Bool.and_eq_true] at f
    rw [List.any_cons,List.any_cons,eqU_of r f.1,any_eqU t f.2]
theorem mem_eqAt {A:Around} {s:Shared} {x:V} {v:Value} (rx:RelV x v) (fx:flatV x=true):∀ {xs:List V} {us:List Value},Vals xs us→xs.all flatV=true→∀ u∈us,SeqAt.EqAt A s u v (eqU x u)
  | _,_,.nil,_=>fun u hu=>by cases hu
  | y :: xs,u :: us,.cons r t,f=>fun u' hu=>by
    rw [List.all_cons,Bool.and_eq_true] at f
    rcases List.mem_cons.mp hu with rfl | hu
    · rw [eqU_of r f.1]; exact eqAt_V r rx f.1 fx
    · exact mem_eqAt rx fx t f.2 u' hu
def inV (x:V) (xs:List V):Bool:=xs.any fun y=>eqV y x
def rIn (K:PySem.W.Frag) (neg:Bool):R2:=fun x y H Q => ∃ p xs,y=.ref p∧(SqL K H p xs∨SqT K H p xs)∧flatV x=true∧xs.all flatV=true∧Q (.bl (if neg then !inV x xs else inV x xs)) H
theorem op_in_seq:OpR X (compareOp .In) (rIn X.K false):=by
  intro pins s σ H x y v u Q I rx ry h
  obtain ⟨p,xs,rfl,hq,fx,fs,q⟩:=h
  cases ry
  rcases hq with hq | hq
  · obtain ⟨its,r,pl,hz⟩:=I.list hq
    refine SeqAt.in_listAt (eqU x) pl.isList (fun w hw=>mem_eqAt rx fx r fs w (by simpa using hw)) ⟨.bl _,H,I,rfl,?_⟩
    rw [show its.toArray.any (eqU x)=its.any (eqU x) by simp,any_eqU r fs]
    exact q
  · obtain ⟨its,r,pl,hz⟩:=I.tuple hq
    refine SeqAt.in_tupleAt (eqU x) pl (fun w hw=>mem_eqAt rx fx r fs w (by simpa using hw)) ⟨.bl _,H,I,rfl,?_⟩
    rw [show its.toArray.any (eqU x)=its.any (eqU x) by simp,any_eqU r fs]
    exact q
theorem call_len_seq:CallR X (.builtin "len") (fun xs H Q => ∃ p ys,xs=[.ref p]∧(SqL X.K H p ys∨SqT X.K H p ys)∧Q (.int ys.length) H):=by
  intro pins s σ H xs us Q I r h
  obtain ⟨p,ys,rfl,hq,q⟩:=h
  obtain ⟨u,rfl,rx⟩:=vals1 r
  cases rx
  have hn:=line63
  rcases hq with hq | hq
  · obtain ⟨its,r',pl,hz⟩:=I.list hq
    have hlen:=r'.length
    exact Calls.call_len_list pl.isList (by simp only [List.size_toArray] <;> omega) ⟨.int ys.length,H,I.tok _,⟨s.toks + 1,by rw [List.size_toArray,hlen]⟩,q⟩
  · obtain ⟨its,r',pl,hz⟩:=I.tuple hq
    have hlen:=r'.length
    exact len_tuple pl (by simp only [List.size_toArray] <;> omega) ⟨.int ys.length,H,I.tok _,⟨s.toks + 1,by rw [List.size_toArray,hlen]⟩,q⟩
theorem call_list_of:CallR X (.type "list") (fun xs H Q => ∃ p ys,xs=[.ref p]∧(SqL X.K H p ys∨SqT X.K H p ys)∧∀ l,H l=none→Q (.ref l) (upd H l (.lst ys))):=by
  intro pins s σ H xs us Q I r h
  obtain ⟨p,ys,rfl,hq,q⟩:=h
  obtain ⟨u,rfl,rx⟩:=vals1 r
  cases rx
  have fin:∀ (its:List Value),Vals ys its→ys.length≤sizeLine→∀ (h':Heap) (c':Nat),(∀ b o',s.heap.get? b=some o'→h'.get? b=some o') →
      h'.get? s.heap.objs.size=some { cls:=.type "list",dict:=none,data:=.seq its.toArray c',slots:=#[] }→EP X pins σ Q (.ref s.heap.objs.size) { s with heap:=h' }:=fun its r' hz h' c' kp e =>
    ⟨.ref s.heap.objs.size,_,I.laid (t':=s.toks) kp (Nat.le_refl _) (show ObjOk X.prog X.w _ h' _ (.lst ys) from ⟨hz,its,c',r',e⟩),rfl,q _ (I.hok.fresh (Nat.le_refl _))⟩
  rcases hq with hq | hq
  · obtain ⟨its,r',pl,hz⟩:=I.list hq
    have hlen:=r'.length
    obtain ⟨o,ho,hc,n,hd⟩:=pl.isList
    exact call_list_seq p (.inl rfl) ho hc hd (fun h' c' kp e=>fin its r' hz h' c' kp e) (by simp only [List.size_toArray] <;> omega)
  · obtain ⟨its,r',pl,hz⟩:=I.tuple hq
    have hlen:=r'.length
    obtain ⟨o,ho,hc,n,hd⟩:=pl
    exact call_list_seq p (.inr rfl) ho hc hd (fun h' c' kp e=>fin its r' hz h' c' kp e) (by simp only [List.size_toArray] <;> omega)
def tyV (K:PySem.W.Frag) (T:String) (x:V) (H:Hp):Prop:=match x with
  | .str _=>T="str"
  | .int _=>T="int"
  | .ref p=>(T="list"∧∃ xs,SqL K H p xs)∨(T="tuple"∧∃ o,K.lookup p=some o∧o.cls=.type "tuple"∧o.dict=none) ∨
      (T="dict"∧((∃ kvs,H p=some (.dK kvs))∨∃ kvs,H p=some (.dT kvs)))∨(T="set"∧∃ S n,H p=some (.set S n))
  | _=>False
theorem tyV_is {pins:List (Addr × Obj)} {σ:St} {H:Hp} {s:Shared} {T:String} {x:V} {v:Value} (I:Inv X pins σ H s) (r:RelV x v) (ty:tyV X.K T x H) :
    s.TypeIs v T∧∀ a,v=.ref a→∃ ob,s.heap.get? a=some ob∧ob.dict=none:=by
  cases x with
  | str z =>
    obtain ⟨t,rfl⟩:=r
    cases (show T="str" from ty)
    exact ⟨typeIs_str s z t,fun _ e=>nomatch e⟩
  | int i =>
    obtain ⟨t,rfl⟩:=r
    cases (show T="int" from ty)
    exact ⟨typeIs_int s i t,fun _ e=>nomatch e⟩
  | ref p =>
    cases r
    rcases ty with ⟨rfl,xs,hq⟩ | ⟨rfl,o,hk,hc,hd⟩ | ⟨rfl,hk⟩ | ⟨rfl,S,n,hk⟩
    · obtain ⟨its,_,pl,_⟩:=I.list hq
      refine ⟨pl.isList.typeIs,fun a e=>?_⟩
      cases e
      obtain ⟨o,n,e,c,hd,_⟩:=pl
      exact ⟨o,e,hd⟩
    · refine ⟨⟨o,I.kIn p o hk,hc⟩,fun a e=>?_⟩
      cases e
      exact ⟨o,I.kIn _ o hk,hd⟩
    · have z:∃ o,s.heap.get? p=some o∧o.ExactDict:=by
        rcases hk with ⟨kvs,hk⟩ | ⟨kvs,hk⟩
        · obtain ⟨_,_,_,_,o,_,_,e,ex,_⟩:=I.hok p _ hk
          exact ⟨o,e,ex⟩
        · obtain ⟨_,_,_,_,o,_,_,e,ex,_⟩:=I.hok p _ hk
          exact ⟨o,e,ex⟩
      obtain ⟨o,e,ex⟩:=z
      refine ⟨⟨o,e,ex.1⟩,fun a e2=>?_⟩
      cases e2
      exact ⟨o,e,ex.2.1⟩
    · obtain ⟨o,_,_,_,e,ex,_⟩:=I.hok p _ hk
      refine ⟨⟨o,e,ex.1⟩,fun a e2=>?_⟩
      cases e2
      exact ⟨o,e,ex.2.1⟩
  | _=>exact False.elim ty
def tBM (K:PySem.W.Frag) (T:String) (r:V→List V→Hp→VK→Prop) (to:TE) (t:TA):TE:=fun σ H Q=>to σ H fun x H1=>tyV K T x H1∧t σ H1 fun xs H2=>r x xs H2 Q
variable {o e:Expr} {es:List Expr} {to:TE} {t:TA} {name:Str} {apos cpos:Pos} {T id:String} {r:V→List V→Hp→VK→Prop}
theorem pe_bm (pa:PlainAttrs T) (slot:Slot T name id) (hty:typeOf (.builtin id)=pure (.type "method_descriptor")) (hm:MtR X id r) (ho:PE X o to) (ha:PA X (e :: es) t)
    (hbase:attributeBase o name X.env (eval o X.env)=eval o X.env:=by rfl)
    (hfew:((backTo cpos (starEach (e :: es) X.env)).all (fun x => !x.1) && (backToKw cpos (keywordEach [] X.env)).all (fun x=>x.1.isSome)
      && decide ((e :: es).length + ([]:List Keyword).length + (if ([]:List Keyword).isEmpty then 0 else 1) < 30))=true:=by rfl)
    (hline:(apos.endLine == cpos.line)=true:=by rfl) (hs:starEach (e :: es) X.env=(false,eval e X.env) :: starEach es X.env:=by rfl) (hplain:(backTo cpos (starEach es X.env)).any (·.1)=false:=by rfl) :
    PE X (.Call (.Attribute o name apos) (e :: es) [] cpos) (tBM X.K T r to t):=by
  intro pins s σ H Q I h
  refine wpAny_Call_method_late hbase hfew hline rfl (thn (ho pins s σ H _ I h) fun v s1 ⟨x,H1,I1,r1,ty,q1⟩=>?_)
  obtain ⟨h1,h2⟩:=tyV_is I1 r1 ty
  refine ⟨T,id,pa,slot,hty,h1,h2,?_⟩
  have hA:=ha cpos pins s1 σ H1 _ I1 q1
  rw [hs] at hA ⊢
  refine Calls.callWith_builtin (by show (false || (backTo cpos (starEach es X.env)).any (·.1))=false; rw [hplain] <;> rfl) (Calls.evalArgs_plain ?_)
  exact thn hA fun us s2 ⟨vs,H2,I2,r2,q2⟩=>hm pins s2 σ H2 x vs v us Q I2 r1 r2 q2
/- xs.append(e),list.index on a module's tuple .. are MtR facts of 06m -/
end
end L2
namespace L2
open PySem PySem.Spec PyProof.Rows
def MtM (X:Cx) (id:String) (r:V→List V→Hp→VK→Prop):Prop :=
  ∀ (pins:List (Addr × Obj)) (s:Shared) (σ:St) (H:Hp) (x:V) (xs:List V) (v:Value) (us:List Value) (Q:VK),Inv X pins σ H s→RelV x v→Vals xs us→r x xs H Q →
    wpAny (model X.prog X.w) X.A (call (.builtin id) (v :: us)) (EP X pins σ Q) X.xe s
theorem Vals.one:∀ {x:V} {us:List Value},Vals [x] us→∃ u,us=[u]∧RelV x u
  | _,_,.cons r .nil=>⟨_,rfl,r⟩
section
variable {X:Cx} {pins:List (Addr × Obj)} {σ:St} {H:Hp} {s:Shared} {l b:Addr} {xs ys zs:List V}
theorem Inv.lset {its its':List Value} {n:Nat} {f:Array Value→Array Value} {t':Nat} (I:Inv X pins σ H s) (hH:H l=some (.lst xs))
    (e:s.heap.get? l=some { cls:=.type "list",data:=.seq its.toArray n }) (hf:f its.toArray=its'.toArray) (hv:Vals ys its') (hz:ys.length≤sizeLine) :
    Inv X pins σ (upd H l (.lst ys)) { s with heap:=s.heap.update l (Obj.mapSeq f),toks:=t' }:=by
  have q:=PySem.IsL.update e f
  rw [hf] at q
  refine I.write (x:=l) (e:=l) (by rw [hH]; exact trivial) (.inl rfl) (fun b' u hb hu=>(Heap.get?_update_other s.heap (Obj.mapSeq f) (Ne.symm hb)).trans hu) ⟨_,q⟩ ?_
  exact ⟨hz,its',_,hv,q⟩
theorem Inv.lnew {its:List Value} {t':Nat} (I:Inv X pins σ H s) (hv:Vals ys its) (hz:ys.length≤sizeLine) :
    Inv X pins σ (upd H s.heap.objs.size (.lst ys)) { s with heap:=s.heap.push { cls:=.type "list",data:=.seq its.toArray },toks:=t' } :=
  I.laid (fun _ _ q=>Heap.get?_push_of_some _ q) (Nat.le_refl _) ⟨hz,its,0,hv,Heap.get?_push_size _ rfl⟩
theorem Inv.fresh (I:Inv X pins σ H s):H s.heap.objs.size=none:=I.hok.fresh (Nat.le_refl _)
theorem Inv.lstM (I:Inv X pins σ H s) (hH:H l=some (.lst xs)):xs.length≤sizeLine∧∃ (its:List Value) (n:Nat),Vals xs its∧xs.length=its.length∧s.heap.get? l=some { cls:=.type "list",data:=.seq its.toArray n }:=by
  obtain ⟨z,its,n,r,e⟩:=I.hok l _ hH
  exact ⟨z,its,n,r,r.length,e⟩
end
section
variable {X:Cx}
def rAppend:V→List V→Hp→VK→Prop:=fun x vs H Q => ∃ l xs y,x=.ref l∧vs=[y]∧H l=some (.lst xs)∧xs.length < sizeLine∧Q .non (upd H l (.lst (xs ++ [y])))
theorem mt_append:MtM X "list.append" rAppend:=by
  intro pins s σ H x vs v us Q I rx rv h
  obtain ⟨l,xs,y,rfl,rfl,hH,hz,q⟩:=h
  cases rx
  obtain ⟨u,rfl,ru⟩:=rv.one
  obtain ⟨z,its,n,r,hl,e⟩:=I.lstM hH
  refine call_meets F.slot_list_append ⟨_,e,rfl⟩ F.entry_list_append (F.args_list_append_2 _ _) (PySem.list_append l its.toArray n u (by rw [List.size_toArray]; omega)) ⟨e,?_⟩
  refine ⟨.non,_,I.lset (its':=its ++ [u]) hH e (by simp) (r.append (.cons ru .nil)) ?_,rfl,q⟩
  rw [List.length_append,List.length_singleton]
  omega
def rCat:R2:=fun x y H Q => ∃ l b xs zs,x=.ref l∧y=.ref b∧H l=some (.lst xs)∧H b=some (.lst zs)∧xs.length + zs.length≤sizeLine∧∀ p,H p=none→Q (.ref p) (upd H p (.lst (xs ++ zs)))
theorem op_cat:OpR X (binaryOp .Add) rCat:=by
  intro pins s σ H x y v u Q I rx ry h
  obtain ⟨l,b,xs,zs,rfl,rfl,hH,hB,hz,q⟩:=h
  cases rx
  cases ry
  obtain ⟨z,its,n,r,hl,e⟩:=I.lstM hH
  obtain ⟨z2,its2,n2,r2,hl2,e2⟩:=I.lstM hB
  refine PySem.P.add_list e e2 ?_ (by rw [List.size_toArray,List.size_toArray]; omega)
  have ea:its.toArray ++ its2.toArray=(its ++ its2).toArray:=by simp
  rw [ea]
  exact ⟨.ref _,_,I.lnew (t':=s.toks) (r.append r2) (by rw [List.length_append]; omega),rfl,q _ I.fresh⟩
end
section
variable {prog:Program} {w:World} {A:Around} {E:Value→Shared→Prop} {s:Shared}
end
section
variable {X:Cx}
end
end L2
namespace Att
open PySem PySem.W PySem.Calls PyProof.Rows
theorem ints_of_wellAll {P:Params} {h:Heap}:∀ (ns:List Int) (vs:List Value),WellAll P h vs (ns.map WData.int)→IntsAre vs ns:=by
  intro ns
  induction ns with
  | nil =>
    intro vs w
    rw [List.map_nil] at w
    cases w
    exact .nil
  | cons n ns ih =>
    intro vs w
    rw [List.map_cons] at w
    cases w with
    | cons a b =>
      cases a
      exact .cons _ _ (ih _ b)
theorem script_of {l:OpenLaw} {n:Nat} (hn:l.most=some n) {P:Params} {h:Heap} {args:List WData} {vals:List Value}
    (hpre:l.row.toRowW.claim.pre args=true) (hwl:WellAll P h vals args) :
    ∃ a vs ns,vals=[Value.ref a]∧args=[WData.list (ns.map WData.int)]∧h.get? a=some { cls:=.type "list",data:=.seq vs.toArray }∧IntsAre vs ns∧ns.length≤n:=by
  have hsh:WShape.hasAll [] args [.list .int]=true:=(pre_splitW hpre).1
  have hc:l.pre.holds [] { args:=args }=true:=(pre_splitW hpre).2
  obtain ⟨d,r,rfl,h1,h2⟩:=hasAllW_cons hsh
  obtain rfl:=hasAllW_nil h2
  obtain ⟨xs,rfl,h3⟩:=hasW_list h1
  obtain ⟨ns,rfl⟩:=items_int h3
  have hlen:ns.length≤n:=by
    unfold OpenLaw.pre at hc
    have h4:(WTm.not (.lt (.lit (.int (n:Int))) (.len (.arg 0)))).holds [] { args:=[.list (ns.map .int)] }=true:=by
      have h4:=(holds_andW hc).1
      rw [hn] at h4
      exact h4
    have h5:=condW_of h4 (w_not (w_lt w_lit (w_len_list (w_arg rfl))))
    rw [List.length_map] at h5
    refine Nat.le_of_not_lt fun q=>?_
    have q':(n:Int) < ((ns.length:Nat):Int):=by omega
    first
      | (rw [decide_eq_true q'] at h5; exact absurd h5 (by decide))
      | (simp at h5; omega)
  cases hwl with
  | cons w1 w2 =>
    cases w2
    cases w1 with
    | list ho hall=>exact ⟨_,_,ns,rfl,rfl,ho,ints_of_wellAll ns _ hall,hlen⟩
theorem post_true (l:OpenLaw) (args:List WData):l.row.toRowW.claim.post args (.bool true) args=true :=
  postW_of (r:=l.row.toRowW) (X:=(true == true))
    (show WShape.has [] (.bool true) .bool=true by first | rfl | decide | simp [WShape.has,WShape.arms,WShape.armsAll])
    (show (WTm.eq .res (.lit (.bool true))).value [] { args:=args,res:=some (.bool true),after:=args }=some (.bool (true == true)) from w_eq_bool (w_res rfl) w_lit) rfl
section
variable {prog:Program} {w:World} {A:Around} {E:Value→Shared→Prop} {s:Shared} {K:Frag}
end
end Att
namespace L2
open PySem PySem.Spec PyProof.Rows
theorem vals_ints:∀ {vs:List Value} {ns:List Int},IntsAre vs ns→Vals (ns.map V.int) vs
  | _,_,.nil=>.nil
  | _,_,.cons n t h=>.cons ⟨t,rfl⟩ (vals_ints h)
end L2
namespace L2
open PySem PySem.Spec PyProof.Rows
abbrev KOf {K:PySem.W.Frag} {h:Heap} (_:K.In h):PySem.W.Frag:=K
end L2
/- THE LAST THEOREM (shape; LID,My.* are yours):
   My.Adr: a structure of the addresses that your layer names (classes,functions); My.Txt K t: a structure (Prop) of the equations over K;
   My.txt_mk:{K} {implicit addresses ..} (e1:nsIn K mainGlobals "law" = some (some (.ref f))) (e2:K.lookup f=some ⟨oc,od,.func (fnOf "law" "law" params body scope dV kV doc pm an cdv ct),sl⟩) (e3:codeIn K cdv "law" = true) .. : ∃ t,My.Txt K t
set_option maxRecDepth 100000 in
set_option maxHeartbeats 0 in
theorem PySem.Challenge.cw_LID_holds : PySem.Challenge.rw_LID.Holds := by
  w_on; o_law; k_head; (case hw=>w_witness2)
  k_fill
  refine L2.walk_of (l:=PySem.Challenge.rw_LID) (n:=63) (k:=40) (x:="script") (CX:=fun w=>..) (sp:=fun _=>My.sp_law) rfl (by decide) rfl ⟨rfl,by decide,by decide⟩ (fun w h Y=>PySem.W.kIn_of Y) ?F ?S ?C
  case F =>
    intro w mg fa h KX G hmg
    have T:∃ t,My.Txt (L2.KOf KX) t:=by
      dsimp only [L2.KOf]                          -- K must stand as «<heap const> w.params» for k_is
      refine' My.txt_mk ?e1 ?e2 ?e3 ..
      (case e1=>PySem.W.k_is)                    -- in the order: a name -> its address -> its object -> its parts
      (case e2=>PySem.W.k_is)
      ..
    obtain ⟨t,T⟩:=T
    have e0:=hmg.symm.trans (PySem.W.mg_of KX G T.law)
    cases e0                                       -- fa is the law's own address
    exact ⟨_,fun s u=>.of_eq rfl,fun base kb nb=>My.law_fn T kb nb⟩     -- if «.of_eq rfl» comes too early: refine' ⟨_,?b,fun base kb nb=>My.law_fn T kb nb⟩; exact fun s u=>.of_eq rfl
  case S=>exact fun w H a ns hl hO hS=>..
  case C=>exact ..
(the tactic k_is has no namespace: write k_is) -/
namespace L2
open PySem PySem.Spec PyProof.Rows
def inClass (s:Stmt) (j:Nat):Stmt:=match s with
  | .ClassDef _ _ _ body _ _ _ _ _ _ _=>body.getD j (.Pass ⟨0,0,0,0⟩)
  | _=>.Pass ⟨0,0,0,0⟩
def defArgs (s:Stmt):Arguments:=match s with
  | .FunctionDef _ a _ _ _ _ _ _ _ _=>a
  | _ => { posonlyargs:=[],args:=[],vararg:=none,kwonlyargs:=[],kw_defaults:=[],kwarg:=none,defaults:=[] }
def defBody (s:Stmt):List Stmt:=match s with
  | .FunctionDef _ _ b _ _ _ _ _ _ _=>b
  | _ => []
def defScope (s:Stmt):Scope:=match s with
  | .FunctionDef _ _ _ _ _ _ sc _ _ _=>sc
  | _ => { kind:=.function,names:=[],isGenerator:=false,isCoroutine:=false }
abbrev CX0:CXT:=fun _ _ _ _ _ _=>False
abbrev E0:XK:=fun _ _ _=>False
theorem pass0 {X:Cx}:Passes CX0 X E0:=fun _ _ _ _ _ _ _ h=>h.elim
structure Fun (K:PySem.W.Frag) (x qual:Str) (st:Stmt) (f:Addr) (fd:FuncData):Prop where
  ex:∃ (oc:Value) (od:Option Addr) (kV doc pm:Value) (an:Option Addr) (cdv ct:Value) (osl:Array (Option Value)),
    fd=PySem.W.fnOf x qual (defArgs st) (defBody st) (defScope st) .none kV doc pm an cdv ct∧K.lookup f=some ⟨oc,od,.func fd,osl⟩∧PySem.W.codeIn K cdv qual=true
  kp:PySem.W.keepIn K (.ref f)=true
section
variable {P:Program} {w:World} {K:PySem.W.Frag} {mg:Str→Option Value} {base:Heap}
theorem Fun.ok {x qual:Str} {st:Stmt} {f:Addr} {fd:FuncData} {N ps:List Str} {k:Nat} {sp:Sp} (F:Fun K x qual st f fd) (S:FnScope N ps (defScope st)) (len:∀ vs H Q E,sp vs H Q E→vs.length=ps.length)
    (hbody:∀ (cdv:Value) (A:Around) (outer:List Env) (s:Shared) (H:Hp) (vs:List V) (Q:VK) (E:XK),Room k (A.deeper (envOfC qual (defScope st) s.heap.objs.size f cdv))→sp vs H Q E →
      ∃ t,PSs (cxOf CX0 P w K mg base N qual (defScope st) f cdv A outer s H E).nox (defBody st) t∧t { nx:=fun _ H'=>Q .non H',rt:=Q } (start N vs) H):FnOk P w K mg base CX0 (k + 1) f fd ps sp:=by
  obtain ⟨oc,od,kV,doc,pm,an,cdv,ct,osl,rfl,lk,hcd⟩:=F.ex
  refine fn_of lk hcd S len fun A outer s H vs Q E hr hsp=>?_
  obtain ⟨t,h,q⟩:=hbody cdv A outer s H vs Q E hr hsp
  exact ⟨t,h.nox,q⟩
theorem Fun.binds {x qual:Str} {st:Stmt} {f:Addr} {fd:FuncData} {ps:List Str} (F:Fun K x qual st f fd)
    (h:∀ (kV doc pm:Value) (an:Option Addr) (cdv ct:Value) (us:List Value),us.length=ps.length→bindArgs (PySem.W.fnOf x qual (defArgs st) (defBody st) (defScope st) .none kV doc pm an cdv ct) ⟨us,[]⟩=pure (ps.zip us)):Binds K fd ps []:=by
  obtain ⟨oc,od,kV,doc,pm,an,cdv,ct,osl,rfl,lk,hcd⟩:=F.ex
  exact .all (h kV doc pm an cdv ct)
theorem fun_mk {x qual:Str} {st:Stmt} {f:Addr} {oc:Value} {od an:Option Addr} {osl:Array (Option Value)} {kV doc pm cdv ct:Value} (l:K.lookup f=some ⟨oc,od,.func (PySem.W.fnOf x qual (defArgs st) (defBody st) (defScope st) .none kV doc pm an cdv ct),osl⟩)
    (c:PySem.W.codeIn K cdv qual=true) (k:PySem.W.keepIn K (.ref f)=true):Fun K x qual st f (PySem.W.fnOf x qual (defArgs st) (defBody st) (defScope st) .none kV doc pm an cdv ct):=⟨⟨oc,od,kV,doc,pm,an,cdv,ct,osl,rfl,l,c⟩,k⟩
end
theorem small1000 {n:Nat} (h:n≤1000):n < sizeLine:=Nat.lt_of_le_of_lt h (by decide)
section
variable {X:Cx}
theorem pv (i:Nat) {x:Str} {pos:Pos} (hN:X.N[i]? = some x:=by rfl) (hv:Vis X.env.scope x:=by first | exact Or.inl rfl | exact Or.inr (Or.inl rfl) | exact Or.inr (Or.inr rfl)) (hd:(x == ("__debug__" : Str))=false:=by decide)
    (hcd:(x == ("__classdict__" : Str))=false:=by decide):PE X (.Name x pos) (tVar i):=pe_var hN hv hd hcd
end
theorem iteF {A B:Prop} (h:B):if false=true then A else B:=by
  rw [if_neg Bool.false_ne_true]
  exact h
theorem iteT {A B:Prop} (h:A):if true=true then A else B:=by
  rw [if_pos rfl]
  exact h
theorem ite2 {c A B:Prop} [Decidable c] (h1:c→A) (h2:¬ c→B):if c then A else B:=by
  by_cases h:c
  · rw [if_pos h]
    exact h1 h
  · rw [if_neg h]
    exact h2 h
def Same (H H':Hp):Prop:=∀ b o,H b=some o→H' b=some o
theorem Same.refl (H:Hp):Same H H:=fun _ _ h=>h
theorem Same.trans {H H1 H2:Hp} (a:Same H H1) (b:Same H1 H2):Same H H2:=fun c o h=>b c o (a c o h)
theorem Same.free {H H':Hp} (e:Same H H') {l:Addr} (h:H' l=Option.none):H l=Option.none:=by
  cases q:H l with
  | none=>rfl
  | some o =>
    rw [e l o q] at h
    cases h
theorem Same.seq {K:PySem.W.Frag} {H H':Hp} {a:Addr} {xs:List V} (e:Same H H') (h:SqL K H a xs):SqL K H' a xs:=by
  rcases h with (h | ⟨o,h⟩) | h
  · exact .inl (.inl (e _ _ h))
  · exact .inl (.inr ⟨o,e _ _ h⟩)
  · exact .inr h
end L2
namespace L2
open PySem PySem.Spec PyProof.Rows
section
variable {prog:Program} {w:World} {A:Around} {E:Value→Shared→Prop} {R:Result→Shared→Prop} {s:Shared}
theorem compLoop_any {elt target iter:Expr} {ifs:List Expr} {scope:Scope} {pos:Pos} {it acc:Value} {env:Env} (I:Nat→Shared→Prop)
    (turn:∀ n s,I n s→wpAny (model prog w) A (pyNext it) (fun r s1=>match r with
      | none=>R (.ok .next) s1
      | some v=>wpAny (model prog w) A (letOwnedTupleGo target it v) (fun _ s1'=>wpAny (model prog w) A (assign target env v) (fun _ s2 =>
          wpAny (model prog w) A (forIn ifs true fun c r=>if r=true then do let ok ← isTrue c env (eval c env); pure (ForInStep.yield ok) else pure (ForInStep.yield r)) (fun ok s3 =>
            if ok=true then wpAny (model prog w) A (eval elt env) (fun x s4 =>
              wpAny (model prog w) A (call (.builtin "list.append") [acc,x]) (fun _ s5 => ∃ m,m < n∧I m s5) (fun _ _=>False) s4) (fun _ _=>False) s3
            else ∃ m,m < n∧I m s3) (fun _ _=>False) s2) (fun _ _=>False) s1') (fun _ _=>False) s1) (fun _ _=>False) s)
    (n:Nat) (h:I n s) :
    codeAny (model prog w) A (.compLoop (.ListComp elt [⟨target,iter,ifs,0⟩] scope pos) 0 it acc env) R s:=by
  refine codeAny_loop rfl I (fun n s hI=>?_) n h
  show wpAny _ A ((compTurn (.ListComp elt [⟨target,iter,ifs,0⟩] scope pos) 0 it acc env).onRaise (fun x=>do noteFrame x env; theTreesLotGoes x)) _ _ s
  refine wpAny_noted ?_
  rw [compTurn_list]
  refine wpAny_bind (wpAny_standAt (wpAny_bind (wpAny_mono (turn n s hI) (fun r s1 h1=>?_) fun _ _ h'=>h'.elim)))
  cases r with
  | none=>exact wpAny_pure h1
  | some v =>
    refine wpAny_bind (wpAny_mono h1 (fun _ s1' h1'=>?_) fun _ _ h'=>h'.elim)
    refine wpAny_bind (wpAny_mono h1' (fun _ s2 h2=>wpAny_bind (wpAny_mono h2 (fun ok s3 h3=>?_) fun _ _ h'=>h'.elim)) fun _ _ h'=>h'.elim)
    cases ok with
    | false=>exact wpAny_pure ⟨rfl,h3⟩
    | true =>
      exact wpAny_bind (wpAny_bind (wpAny_mono h3 (fun x s4 h4=>wpAny_bind (wpAny_mono h4 (fun _ s5 h5=>wpAny_pure (wpAny_pure ⟨rfl,h5⟩)) fun _ _ h'=>h'.elim)) fun _ _ h'=>h'.elim))
end
def clOf (cells:List (Str × Addr)):List (Str × NameKind)→List (Str × Addr)→List (Str × Addr)
  | [],acc=>acc
  | (n,k) :: r,acc=>if k == .free then clOf cells r ((n,(cells.lookup n).getD 0) :: acc) else clOf cells r acc
theorem closureFor_clOf {scope:Scope} {env:Env} (h:∀ y∈scope.names,y.2=.free→∃ c,env.cells.lookup y.1=some c):closureFor scope env=pure (clOf env.cells scope.names []):=by
  simp only [closureFor]
  generalize ([]:List (Str × Addr))=acc
  revert h
  generalize scope.names=l
  intro h
  induction l generalizing acc with
  | nil=>rfl
  | cons x r ih =>
    obtain ⟨n,k⟩:=x
    have hr:=ih (acc:=acc) fun y hy=>h y (List.mem_cons_of_mem _ hy)
    cases e:(k == NameKind.free) with
    | false =>
      simp only [List.forIn_cons,clOf,e,Bool.false_eq_true,if_false]
      exact hr
    | true =>
      obtain ⟨c,hc⟩:=h (n,k) List.mem_cons_self (by simpa using e)
      have hr':=ih (acc:=(n,c) :: acc) fun y hy=>h y (List.mem_cons_of_mem _ hy)
      have hc':env.cells.lookup n=some c:=hc
      simp only [List.forIn_cons,clOf,e,if_true,cellOf,hc',Option.getD_some]
      exact hr'
theorem clOf_get {cells:List (Str × Addr)}:∀ (l:List (Str × NameKind)) (acc:List (Str × Addr)) {x:Str} {c:Addr},(∀ y∈l,y.2=.free→∃ c,cells.lookup y.1=some c)→(clOf cells l acc).lookup x=some c→acc.lookup x=some c∨cells.lookup x=some c
  | [],acc,x,c,_,h=>.inl h
  | (n,k) :: r,acc,x,c,hy,h=>by
    have hr:∀ y∈r,y.2=.free→∃ c,cells.lookup y.1=some c:=fun y m=>hy y (List.mem_cons_of_mem _ m)
    unfold clOf at h
    cases e:(k == NameKind.free) with
    | false =>
      rw [e] at h
      exact clOf_get r acc hr h
    | true =>
      rw [e] at h
      rcases clOf_get r _ hr h with q | q
      · rw [List.lookup_cons] at q
        obtain ⟨c',hc'⟩:=hy (n,k) List.mem_cons_self (by simpa using e)
        have hc'':cells.lookup n=some c':=hc'
        cases en:(x == n) with
        | true =>
          rw [en] at q
          have:x=n:=by simpa using en
          subst this
          rw [hc''] at q
          exact .inr (hc''.trans q)
        | false =>
          rw [en] at q
          exact .inl q
      · exact .inr q
theorem clOf_has {cells:List (Str × Addr)}:∀ (l:List (Str × NameKind)) (acc:List (Str × Addr)) {x:Str},((x,NameKind.free)∈l∨(acc.lookup x).isSome=true)→((clOf cells l acc).lookup x).isSome=true
  | [],acc,x,h=>by
    rcases h with h | h
    · cases h
    · exact h
  | (n,k) :: r,acc,x,h=>by
    unfold clOf
    cases e:(k == NameKind.free) with
    | false =>
      simp only [Bool.false_eq_true,if_false]
      refine clOf_has r acc ?_
      rcases h with h | h
      · rcases List.mem_cons.mp h with h | h
        · injection h with h1 h2
          subst h2
          simp at e
        · exact .inl h
      · exact .inr h
    | true =>
      simp only [if_true]
      refine clOf_has r _ ?_
      cases en:(x == n) with
      | true=>exact .inr (by rw [List.lookup_cons,en]; rfl)
      | false =>
        rcases h with h | h
        · rcases List.mem_cons.mp h with h | h
          · injection h with h1 h2
            subst h1
            simp at en
          · exact .inl h
        · exact .inr (by rw [List.lookup_cons,en]; exact h)
theorem mem_of_lookup {β:Type}:∀ {l:List (Str × β)} {x:Str} {b:β},l.lookup x=some b→(x,b)∈l
  | [],_,_,h=>by simp at h
  | (n,k) :: r,x,b,h=>by
    rw [List.lookup_cons] at h
    cases en:(x == n) with
    | true =>
      rw [en] at h
      have:x=n:=by simpa using en
      subst this
      have h':k=b:=Option.some.inj h
      subst h'
      exact List.mem_cons_self
    | false =>
      rw [en] at h
      exact List.mem_cons_of_mem _ (mem_of_lookup h)
theorem relabel_free {env:Env}:∀ {names:List (Str × NameKind)} {x:Str},names.lookup x=some .free →
    (names.map fun (n,k)=>if (k == NameKind.free && env.scope.kind == .function && env.kindOf n == some .cell) then (n,NameKind.cell) else (n,k)).lookup x=some .cell ∨
    (names.map fun (n,k)=>if (k == NameKind.free && env.scope.kind == .function && env.kindOf n == some .cell) then (n,NameKind.cell) else (n,k)).lookup x=some .free
  | [],_,h=>by simp at h
  | (n,k) :: r,x,h=>by
    have ih:=@relabel_free env r x
    cases hx:x == n with
    | true =>
      simp only [List.lookup_cons,hx] at h
      cases h
      by_cases hc:(NameKind.free == NameKind.free && env.scope.kind == .function && env.kindOf n == some .cell)=true
      · left
        show List.lookup x ((if (NameKind.free == NameKind.free && env.scope.kind == .function && env.kindOf n == some .cell)=true then (n,NameKind.cell) else (n,NameKind.free)) :: _)=_
        rw [if_pos hc]
        simp only [List.lookup_cons,hx]
      · right
        show List.lookup x ((if (NameKind.free == NameKind.free && env.scope.kind == .function && env.kindOf n == some .cell)=true then (n,NameKind.cell) else (n,NameKind.free)) :: _)=_
        rw [if_neg hc]
        simp only [List.lookup_cons,hx]
    | false =>
      simp only [List.lookup_cons,hx] at h
      have q:=ih h
      by_cases hc:(k == NameKind.free && env.scope.kind == .function && env.kindOf n == some .cell)=true
      · show List.lookup x ((if (k == NameKind.free && env.scope.kind == .function && env.kindOf n == some .cell)=true then (n,NameKind.cell) else (n,k)) :: _)=_∨List.lookup x ((if (k == NameKind.free && env.scope.kind == .function && env.kindOf n == some .cell)=true then (n,NameKind.cell) else (n,k)) :: _)=_
        rw [if_pos hc]; simp only [List.lookup_cons,hx]; exact q
      · show List.lookup x ((if (k == NameKind.free && env.scope.kind == .function && env.kindOf n == some .cell)=true then (n,NameKind.cell) else (n,k)) :: _)=_∨List.lookup x ((if (k == NameKind.free && env.scope.kind == .function && env.kindOf n == some .cell)=true then (n,NameKind.cell) else (n,k)) :: _)=_
        rw [if_neg hc]; simp only [List.lookup_cons,hx]; exact q
theorem relabel_back {env:Env}:∀ {names:List (Str × NameKind)} {x:Str} {k':NameKind},(∀ y∈names,y.2≠.cell) →
    (names.map fun (n,k)=>if (k == NameKind.free && env.scope.kind == .function && env.kindOf n == some .cell) then (n,NameKind.cell) else (n,k)).lookup x=some k'→(k'=.cell∨k'=.free)→(x,NameKind.free)∈names
  | [],_,_,_,h,_=>by simp at h
  | (n,k) :: r,x,k',hn,h,hk=>by
    have ih:=@relabel_back env r x k' (fun y hy=>hn y (List.mem_cons_of_mem _ hy))
    have hnk:k≠.cell:=hn (n,k) List.mem_cons_self
    replace h:List.lookup x ((if (k == NameKind.free && env.scope.kind == .function && env.kindOf n == some .cell)=true then (n,NameKind.cell) else (n,k)) :: (r.map fun (n,k)=>if (k == NameKind.free && env.scope.kind == .function && env.kindOf n == some .cell) then (n,NameKind.cell) else (n,k)))=some k':=h
    by_cases hc:(k == NameKind.free && env.scope.kind == .function && env.kindOf n == some .cell)=true
    · rw [if_pos hc] at h
      have hkf:k=.free:=by
        have:=(Bool.and_eq_true_iff.mp (Bool.and_eq_true_iff.mp hc).1).1
        simpa using this
      cases hx:x == n with
      | true =>
        have:x=n:=by simpa using hx
        subst this
        rw [hkf]
        exact List.mem_cons_self
      | false =>
        simp only [List.lookup_cons,hx] at h
        exact List.mem_cons_of_mem _ (ih h hk)
    · rw [if_neg hc] at h
      cases hx:x == n with
      | true =>
        have:x=n:=by simpa using hx
        subst this
        simp only [List.lookup_cons,hx] at h
        cases h
        rcases hk with z | z
        · exact absurd z hnk
        · rw [z]
          exact List.mem_cons_self
      | false =>
        simp only [List.lookup_cons,hx] at h
        exact List.mem_cons_of_mem _ (ih h hk)
def compCx (X:Cx) (scope:Scope) (C:Addr) (s0:Shared) (H0:Hp) (fp:List Addr) (Nc:List Str):Cx where
  prog:=X.prog
  w:=X.w
  K:=X.K
  mg:=X.mg
  base:=X.base
  A:=X.A
  N:=Nc
  s₀:=s0
  H₀:=H0
  env:=compEnvC scope (clOf X.env.cells scope.names []) C X.env
  outer:=X.stack
  stack:=X.stack
  ex:=fp
  fn:=fun _=>false
  calm:=true
  pn:=[]
  xe:=fun _ _=>False
def compOk (sc out:Scope):Bool :=
  (match sc.kind with | .function=>true | _=>false) && sc.names.all fun y=>match y.2 with
    | .cell=>false
    | .free=>(match out.names.lookup y.1 with | some .cell=>true | some .free=>true | _=>false)
    | .local=>(match sc.names.lookup y.1 with | some .local=>true | _=>false)
    | _=>true
def ixOk (sc:Scope) (N:List Str):List Str→List (Option Nat)→Bool
  | [],[]=>true
  | _ :: xs,none :: r=>ixOk sc N xs r
  | x :: xs,some i :: r=>(match N[i]? with | some y=>decide (y=x) | none=>false) && (match sc.names.lookup x with | some .free=>true | _=>false) && ixOk sc N xs r
  | _,_=>false
def cSt (σ:St):List (Option Nat)→St
  | [] => []
  | none :: r=>none :: cSt σ r
  | some i :: r=>(match σ[i]? with | some v=>v | none=>none) :: cSt σ r
theorem ixOk_len {sc:Scope} {N:List Str}:∀ {xs:List Str} {ix:List (Option Nat)},ixOk sc N xs ix=true→ix.length=xs.length
  | [],[],_=>rfl
  | [],_ :: _,h=>by cases h
  | _ :: _,[],h=>by cases h
  | _ :: xs,none :: r,h=>by
    have h':ixOk sc N xs r=true:=h
    simp [ixOk_len h']
  | x :: xs,some i :: r,h=>by
    have h':((match N[i]? with | some y=>decide (y=x) | none=>false) && (match sc.names.lookup x with | some .free=>true | _=>false) && ixOk sc N xs r)=true:=h
    simp [ixOk_len (Bool.and_eq_true_iff.mp h').2]
theorem cSt_len {σ:St}:∀ (ix:List (Option Nat)),(cSt σ ix).length=ix.length
  | []=>rfl
  | none :: r=>by simp [cSt,cSt_len r]
  | some i :: r=>by simp [cSt,cSt_len r]
theorem cSt_get {sc:Scope} {N:List Str} {σ:St}:∀ {xs:List Str} {ix:List (Option Nat)} {j:Nat} {x:Str} {v:V},ixOk sc N xs ix=true→xs[j]? = some x→(cSt σ ix)[j]? = some (some v) →
    ∃ i:Nat,N[i]? = some x∧σ[i]? = some (some v)∧sc.names.lookup x=some .free
  | [],_,j,x,v,_,h,_=>by simp at h
  | _ :: _,[],j,x,v,h,_,_=>by cases h
  | _ :: xs,none :: r,0,x,v,_,_,e=>by simp [cSt] at e
  | _ :: xs,none :: r,j + 1,x,v,h,h1,e=>by
    have h':ixOk sc N xs r=true:=h
    exact cSt_get (j:=j) h' (by simpa using h1) (by simpa [cSt] using e)
  | y :: xs,some i :: r,0,x,v,h,h1,e=>by
    have h':((match N[i]? with | some z=>decide (z=y) | none=>false) && (match sc.names.lookup y with | some .free=>true | _=>false) && ixOk sc N xs r)=true:=h
    have h1':y=x:=by simpa using h1
    subst h1'
    obtain ⟨h2,_⟩:=Bool.and_eq_true_iff.mp h'
    obtain ⟨h3,h4⟩:=Bool.and_eq_true_iff.mp h2
    refine ⟨i,?_,?_,?_⟩
    · cases q:N[i]? with
      | none=>rw [q] at h3; cases h3
      | some z=>rw [q] at h3; simp at h3; rw [h3]
    · cases q:σ[i]? with
      | none=>simp [cSt,q] at e
      | some z=>simp [cSt,q] at e; rw [e]
    · cases q:sc.names.lookup y with
      | none=>rw [q] at h4; cases h4
      | some k=>rw [q] at h4; cases k <;> first | rfl | cases h4
  | y :: xs,some i :: r,j + 1,x,v,h,h1,e=>by
    have h':((match N[i]? with | some z=>decide (z=y) | none=>false) && (match sc.names.lookup y with | some .free=>true | _=>false) && ixOk sc N xs r)=true:=h
    exact cSt_get (j:=j) (Bool.and_eq_true_iff.mp h').2 (by simpa using h1) (by simpa [cSt] using e)
def PIfs (X:Cx) (ifs:List Expr) (t:TT):Prop :=
  ∀ (pins:List (Addr × Obj)) (s:Shared) (σ:St) (H:Hp) (Q:Bool→Hp→Prop),Inv X pins σ H s→t σ H Q →
    wpAny (model X.prog X.w) X.A (forIn ifs true fun c r=>if r=true then do let ok ← isTrue c X.env (eval c X.env); pure (ForInStep.yield ok) else pure (ForInStep.yield r)) (TP X pins σ Q) X.xe s
def tYes:TT:=fun _ H Q=>Q true H
theorem pifs_nil {X:Cx}:PIfs X [] tYes:=fun _ _ _ H _ I h=>wpAny_tests_nil ⟨H,I,h⟩
theorem pifs_one {X:Cx} {c:Expr} {t:TT} (h:PT X c t):PIfs X [c] t:=fun pins s σ H Q I q=>wpAny_tests_one (h pins s σ H Q I q)
def Agree (σ σ':St):Prop:=σ'.length=σ.length∧∀ (j:Nat) v,σ[j]? = some (some v)→σ'[j]? = some (some v)
theorem Agree.one (o o':Option V) (σ:St) (h:o=none):Agree (o :: σ) (o' :: σ):=⟨rfl,fun j v e=>by
  cases j with
  | zero=>subst h; simp at e
  | succ j=>simpa using e⟩
def CompW (J:It) (D:Addr) (g:TG) (tt:TT) (te:TE) (σ0:St) (H0:Hp) (Q:VK):Prop :=
  ∃ W:Nat→Nat→List V→Hp→Prop,(∃ m,W 0 m [] H0)∧∀ i m ys H2,W i m ys H2→H2 D=some (.lst ys) ∧
    ((J.stop i H2∧Q (.ref D) H2)∨(J.go i H2∧ys.length < sizeLine∧∃ (N:V→Hp→Prop) (N':Hp→Prop),
      (∀ y H6,N y H6→H6 D=some (.lst ys)∧∃ m',m' < m∧W (i + 1) m' (ys ++ [y]) (upd H6 D (.lst (ys ++ [y]))))∧(∀ H5,N' H5→∃ m',m' < m∧W (i + 1) m' ys H5) ∧
      ∀ x H3,J.yld i H2 x H3→g x σ0 H3 fun σ4 H4=>Agree σ0 σ4∧tt σ4 H4 fun b H5=>if b=true then te σ4 H5 N else N' H5))
def tComp (ix:List (Option Nat)) (wi:TI) (g:TG) (tt:TT) (te:TE):TE:=fun σ H Q=>wi σ H fun J H1 => ∀ D,H1 D=none→CompW J D g tt te (cSt σ ix) (upd H1 D (.lst [])) Q
section
variable {X:Cx} {tg iter elt:Expr} {ifs:List Expr} {scope:Scope} {pos:Pos} {pins:List (Addr × Obj)} {σ:St} {H:Hp} {s:Shared}
theorem compOk_kind (ok:compOk scope X.env.scope=true):scope.kind=.function:=by
  have h:=(Bool.and_eq_true_iff.mp ok).1
  cases e:scope.kind <;> rw [e] at h <;> first | rfl | cases h
theorem compOk_all (ok:compOk scope X.env.scope=true):∀ y∈scope.names,(match y.2 with
    | .cell=>false
    | .free=>(match X.env.scope.names.lookup y.1 with | some .cell=>true | some .free=>true | _=>false)
    | .local=>(match scope.names.lookup y.1 with | some .local=>true | _=>false)
    | _=>true)=true:=List.all_eq_true.mp (Bool.and_eq_true_iff.mp ok).2
theorem compOk_cell (ok:compOk scope X.env.scope=true):∀ y∈scope.names,y.2≠.cell:=fun y hy e=>by
  have h:=compOk_all ok y hy
  rw [e] at h
  cases h
theorem compOk_local (ok:compOk scope X.env.scope=true):∀ y∈scope.names,y.2=.local→scope.names.lookup y.1=some .local:=fun y hy e=>by
  have h:=compOk_all ok y hy
  rw [e] at h
  dsimp only at h
  cases q:scope.names.lookup y.1 with
  | none=>rw [q] at h; cases h
  | some k=>rw [q] at h; cases k <;> first | rfl | cases h
theorem compOk_free (ok:compOk scope X.env.scope=true):∀ y∈scope.names,y.2=.free→X.env.kindOf y.1=some .cell∨X.env.kindOf y.1=some .free:=fun y hy e=>by
  have h:=compOk_all ok y hy
  rw [e] at h
  dsimp only at h
  show X.env.scope.names.lookup y.1=_∨X.env.scope.names.lookup y.1=_
  cases q:X.env.scope.names.lookup y.1 with
  | none=>rw [q] at h; cases h
  | some k=>rw [q] at h; cases k <;> first | exact .inl rfl | exact .inr rfl | cases h
theorem comp_cells (I:Inv X pins σ H s) (ok:compOk scope X.env.scope=true):∀ y∈scope.names,y.2=.free→∃ c,X.env.cells.lookup y.1=some c:=fun y hy e=>I.ok.has y.1 (compOk_free ok y hy e)
theorem comp_cl (I:Inv X pins σ H s) (ok:compOk scope X.env.scope=true) {x:Str} {c:Addr} (h:(clOf X.env.cells scope.names []).lookup x=some c):X.env.cells.lookup x=some c:=by
  rcases clOf_get _ _ (comp_cells I ok) h with q | q
  · simp at q
  · exact q
theorem comp_inv {C:Addr} {fp:List Addr} {Nc:List Str} {ix:List (Option Nat)} {h1:Heap} {tk:Nat} {m:Str→Option Value} (I:Inv X pins σ H s) (hc:X.calm=true) (ok:compOk scope X.env.scope=true) (hix:ixOk scope X.N Nc ix=true)
    (hfp:∀ b∈fp,FpOk X pins H b∧b < s.heap.objs.size) (hC:C=s.heap.objs.size) (hns:h1.Ns C m) (hk:∀ b o,s.heap.get? b=some o→h1.get? b=some o) :
    Inv (compCx X scope C s H fp Nc) [] (cSt σ ix) H { s with heap:=h1,toks:=tk }:=by
  have lt:∀ b o,s.heap.get? b=some o→b≠C:=fun b o e=>by rw [hC]; exact Nat.ne_of_lt (Heap.lt_size e)
  have nfs:∀ b∈fp,b ∉ frs X.stack:=fun b hb z=>by
    obtain ⟨f1,f2,f3,_⟩:=(hfp b hb).1
    rcases List.mem_cons.mp (I.stkSub b z) with q | q
    · exact f2 q
    · exact f3 q
  refine ⟨⟨I.ok.mod,(compOk_kind (X:=X) (scope:=scope) ok),I.ok.glob,I.ok.blt,Nat.le_of_eq hC.symm,fun x y c e1 e2=>I.ok.inj x y c (comp_cl I ok e1) (comp_cl I ok e2),fun x hx=>?_,(fun _ _ z=>nomatch z),fun _=>I.ok.hd hc,I.ok.frames,.inl rfl,fun b hb=>⟨?_,fun x c e=>?_⟩,I.bs,Nat.le_trans I.ok.bsz I.sz,fun b o e hb=>?_,nfs,I.stack,I.stkFree⟩,
    rfl,I.bare,Un.kept hk,⟨m,hns,fun i x v e1 e2 e3=>?_⟩,fun x c e=>?_,?_,fun x c e=>I.freeC x c (comp_cl I ok e),(fun p hp=>by cases hp),I.hok.kept hk,?_⟩
  · -- has
    have hmem:(x,NameKind.free)∈scope.names:=by
      rcases hx with hx | hx
      · exact relabel_back (env:=X.env) (compOk_cell ok) hx (.inl rfl)
      · exact relabel_back (env:=X.env) (compOk_cell ok) hx (.inr rfl)
    have q:=clOf_has (cells:=X.env.cells) scope.names [] (x:=x) (.inl hmem)
    exact Option.isSome_iff_exists.mp q
  · rw [show (compCx X scope C s H fp Nc).env.locals=C from rfl,hC]
    exact Nat.ne_of_lt (hfp b hb).2
  · exact (hfp b hb).1.2.2.2.2.1 x c (comp_cl I ok e)
  · obtain ⟨_,_,_,f4,_⟩:=(hfp b hb).1
    rcases f4 with z | z
    · exact I.ok.noex b o e z
    · exact absurd (Nat.lt_of_lt_of_le (Heap.lt_size e) (Nat.le_trans I.ok.bsz z)) (Nat.lt_irrefl _)
  · obtain ⟨j,n1,n2,n3⟩:=cSt_get hix e1 e2
    have hmem:(x,NameKind.free)∈scope.names:=mem_of_lookup n3
    have hkind:=compOk_free ok (x,.free) hmem rfl
    obtain ⟨mX,_,hl⟩:=I.loc
    have hvis:Vis X.env.scope x:=.inr hkind
    obtain ⟨u,r,l⟩:=hl j x v n1 n2 hvis
    refine ⟨u,r,?_⟩
    rcases l with ⟨k1,_⟩ | ⟨_,c,e,z⟩
    · rcases hkind with q | q
      · rw [q] at k1; cases k1
      · rw [q] at k1; cases k1
    · refine .inr ⟨relabel_free n3,c,?_,?_⟩
      · have q:=clOf_has (cells:=X.env.cells) scope.names [] (x:=x) (.inl hmem)
        obtain ⟨c',hc'⟩:=Option.isSome_iff_exists.mp q
        have:=comp_cl I ok hc'
        rw [e] at this
        cases this
        exact hc'
      · obtain ⟨o,ho,hd⟩:=z
        exact ⟨o,hk c o ho,hd⟩
  · obtain ⟨v,o,ho,hd⟩:=I.cell x c (comp_cl I ok e)
    exact ⟨v,o,hk c o ho,hd⟩
  · rw [show (compCx X scope C s H fp Nc).env.locals=C from rfl,hC]
    exact I.hok.fresh (Nat.le_refl _)
  · rw [cSt_len,ixOk_len hix]
    rfl
theorem comp_run {g:TG} {tt:TT} {te:TE} {Nc:List Str} {ix:List (Option Nat)} {it:Addr} {fp:List Addr} {tn:Nat→Heap→Prop} {J:It} {Q:VK} {E:Value→Shared→Prop} {RR:Value→Addr→Result→Shared→Prop}
    (I:Inv X pins σ H s) (hc:X.calm=true) (ok:compOk scope X.env.scope=true) (hix:ixOk scope X.N Nc ix=true)
    (hg:∀ C s0 H0 fp,PG (compCx X scope C s0 H0 fp Nc) tg g) (ht:∀ C s0 H0 fp,PIfs (compCx X scope C s0 H0 fp Nc) ifs tt) (he:∀ C s0 H0 fp,PE (compCx X scope C s0 H0 fp Nc) elt te)
    (T:Turn X.prog X.w X.K tg J fp it tn) (t0:tn 0 s.heap) (f0:∀ b∈fp,FpOk X pins H b)
    (h:∀ D,H D=none→CompW J D g tt te (cSt σ ix) (upd H D (.lst [])) Q)
    (hRR:∀ D C s' H' m,Inv X pins σ H' s'→s'.heap.Ns C m→H' C=none→X.s₀.heap.objs.size≤C→C≠X.env.locals→(∀ x c,X.env.cells.lookup x=some c→c≠C)→(∀ p∈X.pn ++ pins,p.1≠C)→Q (.ref D) H'→RR (.ref D) C (.ok .next) s') :
    wpAny (model X.prog X.w) X.A (newList []) (fun acc s3=>wpAny (model X.prog X.w) X.A (newFunctionEnv scope X.env.globals (clOf X.env.cells scope.names []) [] X.env.qual none .none (some X.env)) (fun cenv s4 =>
      codeAny (model X.prog X.w) X.A (.compStart (.ListComp elt [⟨tg,iter,ifs,0⟩] scope pos) 0 (.ref it) acc { cenv with scope:=relabel scope X.env }) (RR acc cenv.locals) s4) E s3) E s:=by
  have hD:H s.heap.objs.size=none:=I.fresh
  obtain ⟨W,⟨m0,w0⟩,turn⟩:=h _ hD
  refine wpAny_newList ?_
  have I0:=I.lnew (its:=[]) (ys:=[]) (t':=s.toks) .nil (Nat.zero_le _)
  have hold:∀ b o,s.heap.get? b=some o→(s.heap.push { cls:=.type "list",data:=.seq ([]:List Value).toArray }).get? b=some o:=fun b o e=>Heap.get?_push_of_some _ e
  have f0':∀ b∈fp,FpOk X pins (upd H s.heap.objs.size (.lst [])) b∧b < (s.heap.push { cls:=.type "list",data:=.seq ([]:List Value).toArray }).objs.size:=fun b hb=>by
    obtain ⟨o,ho,_⟩:=T.obj _ _ t0 b hb
    have hlt:=Heap.lt_size ho
    refine ⟨⟨?_,(f0 b hb).2⟩,Heap.lt_size (hold b o ho)⟩
    rw [upd_ne (Nat.ne_of_lt hlt)]
    exact (f0 b hb).1
  have t0':tn 0 (s.heap.push { cls:=.type "list",data:=.seq ([]:List Value).toArray }):=T.keep _ _ _ t0 fun b hb o e=>hold b o e
  clear f0 t0 I
  generalize hs0:({ s with heap:=s.heap.push { cls:=.type "list",data:=.seq ([]:List Value).toArray },toks:=s.toks }:Shared)=s0 at I0
  have es0:s0.heap=s.heap.push { cls:=.type "list",data:=.seq ([]:List Value).toArray }:=by rw [← hs0]
  rw [← es0] at f0' t0'
  generalize s.heap.objs.size=D at *
  generalize upd H D (.lst [])=H0 at *
  refine wpAny_newFunctionEnv (compOk_cell ok) (by intro y hy; simp at hy) (fun h1 hns1 hsb1=>?_) (compOk_kind ok)
  generalize hCe:s0.heap.objs.size=C at hns1 hsb1
  have hk1:∀ b o,s0.heap.get? b=some o→h1.get? b=some o:=fun b o e=>hsb1.extBut b o (by rw [← hCe]; exact Nat.ne_of_lt (Heap.lt_size e)) (Heap.get?_push_of_some _ e)
  have IC:=comp_inv (C:=C) (fp:=fp) (Nc:=Nc) (ix:=ix) (h1:=h1) (tk:=s0.toks + ([]:List (Str × Value)).length) I0 hc ok hix f0' hCe.symm hns1 hk1
  have t1:tn 0 h1:=T.keep _ _ _ t0' fun b hb o e=>hk1 b o e
  have fpx:∀ {H':Hp} {pl:List (Addr × Obj)},(∀ p∈pl,p.1 ∉ fp)→(∀ b∈fp,H' b=none)→∀ b∈fp,FpOk (compCx X scope C s0 H0 fp Nc) pl H' b:=fun {H' pl} hpl hn b hb =>
    ⟨hn b hb,(IC.ok.exf b hb).1,IC.ok.exfs b hb,.inl hb,(IC.ok.exf b hb).2,fun p hp e=>hpl p (by simpa [compCx] using hp) (e ▸ hb)⟩
  have loop:∀ s1:Shared,s1={ s0 with heap:=h1,toks:=s0.toks + ([]:List (Str × Value)).length } →
      codeAny (model X.prog X.w) X.A (.compLoop (.ListComp elt [⟨tg,iter,ifs,0⟩] scope pos) 0 (.ref it) (.ref D) (compCx X scope C s0 H0 fp Nc).env) (RR (.ref D) C) s1:=by
    rintro s1 rfl
    refine compLoop_any (fun n s' => ∃ i ys H',Inv (compCx X scope C s0 H0 fp Nc) [] (cSt σ ix) H' s'∧tn i s'.heap∧(∀ b∈fp,H' b=none)∧W i n ys H') ?_ m0 ⟨0,[],_,IC,t1,fun b hb=>(f0' b hb).1.1,w0⟩
    rintro n s3 ⟨i,ys,H3,I3,st3,fr3,w3⟩
    obtain ⟨hD3,alt⟩:=turn i n ys H3 w3
    rcases alt with ⟨stop,qn⟩ | ⟨go,hlen,N,N',hN,hN',step⟩
    · refine thn (T.done (compCx X scope C s0 H0 fp Nc) rfl rfl rfl rfl i [] s3 _ H3 (fun _ _=>False) I3 (fpx (fun p hp=>by cases hp) fr3) st3 stop) fun r s4 ⟨hr,I4⟩=>?_
      subst hr
      have J4:Inv X pins σ H3 s4:=I0.call' (s':=s4) (ch:=fp) I4.os I4.base I4.hok I4.bare fun b hb=>⟨(f0' b hb).1.2.2.2.1,(f0' b hb).1.2.1,(f0' b hb).1.2.2.2.2.1,(f0' b hb).1.2.2.2.2.2⟩
      obtain ⟨m4,hn4,_⟩:=I4.loc
      exact hRR D C s4 H3 m4 J4 hn4 I4.free (by rw [← hCe]; exact I0.sz) (by rw [← hCe]; exact (Nat.ne_of_lt I0.lt).symm)
        (fun x c e z=>by
          obtain ⟨_,o,ho,_⟩:=I0.cell x c e
          have:=Heap.lt_size ho
          rw [z,← hCe] at this
          exact Nat.lt_irrefl _ this)
        (fun p hp z=>by
          have:=Heap.lt_size (I0.pin p hp).1
          rw [z,← hCe] at this
          exact Nat.lt_irrefl _ this) qn
    · refine thn (T.item (compCx X scope C s0 H0 fp Nc) rfl rfl rfl rfl i [] s3 _ H3 (fun _ _=>False) I3 (fpx (fun p hp=>by cases hp) fr3) st3 go) fun r s4 ⟨u,hr,h4⟩=>?_
      subst hr
      refine thn h4 fun _ s5 ⟨x,H5,I5,r5,y5,st5,fr5⟩=>?_
      have I5':=I5.pinned (fpx (fun p hp=>by cases hp) fr5) (T.obj _ _ st5)
      refine thn (hg C s0 H0 fp _ s5 _ H5 x u _ I5' r5 (step x H5 y5)) fun _ s6 ⟨σ6,H6,I6,hag,q6⟩=>?_
      refine thn (ht C s0 H0 fp _ s6 σ6 H6 _ I6 q6) fun ok7 s7 ⟨H7,I7,q7⟩=>?_
      have again:∀ {H8:Hp} {s8:Shared} {zs:List V} {m':Nat},Inv (compCx X scope C s0 H0 fp Nc) ([] ++ pinsAt fp s5.heap) σ6 H8 s8→m' < n→W (i + 1) m' zs H8 →
          ∃ m,m < n∧∃ i ys H',Inv (compCx X scope C s0 H0 fp Nc) [] (cSt σ ix) H' s8∧tn i s8.heap∧(∀ b∈fp,H' b=none)∧W i m ys H':=fun {H8 s8 zs m'} I8 hm w8=>by
        refine ⟨m',hm,i + 1,zs,H8,I8.unpinned.weak hag.1.symm hag.2,T.keep _ _ _ st5 fun b hb o e=>(I8.pin (b,o) (List.mem_append_right _ (List.mem_append_right _ (mem_pinsAt hb e)))).1,fun b hb=>?_,w8⟩
        obtain ⟨o,e,d⟩:=T.obj _ _ st5 b hb
        exact (I8.pin (b,o) (List.mem_append_right _ (List.mem_append_right _ (mem_pinsAt hb e)))).2.1
      cases ok7 with
      | false =>
        rw [if_neg Bool.false_ne_true] at q7 ⊢
        obtain ⟨m',hm,w7⟩:=hN' _ q7
        exact again I7 hm w7
      | true =>
        rw [if_pos rfl] at q7 ⊢
        refine thn (he C s0 H0 fp _ s7 σ6 H7 _ I7 q7) fun y s8 ⟨yv,H8,I8,r8,q8⟩=>?_
        obtain ⟨hD8,m',hm,w8⟩:=hN _ _ q8
        refine thn (mt_append (X:=compCx X scope C s0 H0 fp Nc) _ s8 σ6 H8 (.ref D) [yv] (.ref D) [y] (fun v H9=>v=.non∧H9=upd H8 D (.lst (ys ++ [yv]))) I8 rfl (.cons r8 .nil) ⟨D,ys,yv,rfl,rfl,hD8,hlen,rfl,rfl⟩) fun _ s9 ⟨v9,H9,I9,_,_,e9⟩=>?_
        subst e9
        exact again I9 hm w8
  exact codeAny_compStart_list (loop _ rfl) (T.self X.A 0 _ _ _ t1 (loop _ rfl))
theorem pe_comp {wi:TI} {g:TG} {tt:TT} {te:TE} (Nc:List Str) (ix:List (Option Nat)) (hc:X.calm=true) (ok:compOk scope X.env.scope=true) (hix:ixOk scope X.N Nc ix=true)
    (hi:PI X tg iter wi) (hg:∀ C s0 H0 fp,PG (compCx X scope C s0 H0 fp Nc) tg g) (ht:∀ C s0 H0 fp,PIfs (compCx X scope C s0 H0 fp Nc) ifs tt) (he:∀ C s0 H0 fp,PE (compCx X scope C s0 H0 fp Nc) elt te)
    (hs:∀ x,foldedSetIterable iter X.env x=pure x:=by intro _; rfl):PE X (.ListComp elt [⟨tg,iter,ifs,0⟩] scope pos) (tComp ix wi g tt te):=by
  intro pins s σ H Q I h
  rw [eval_ListComp]
  refine wpAny_comprehension_free (use:=none) rfl hs (closureFor_clOf (comp_cells I ok)) (compOk_kind ok) (compOk_local ok) (thn (hi pins s σ H _ I h) fun xv s1 h1=>thn h1 fun itv s2 h2=>?_)
  obtain ⟨it,fp,tn,J,H2,rfl,I2,T,st2,f2,q2⟩:=h2
  exact comp_run (RR:=fun acc C=>compPost (model X.prog X.w) X.A X.xe none (EP X pins σ Q) acc C) I2 hc ok hix hg ht he T st2 f2 q2
    (fun D C s' H' m J' hn hC h1 h2 h3 h4 q=>⟨m,hn,fun h' hs'=>⟨.ref D,H',J'.turned (t':=s'.toks) (fun b o nb e=>hs'.extBut b o nb e) hC h2 (.inr h1) h3 h4,rfl,q⟩⟩)
theorem ps_setC {wi:TI} {g:TG} {tt:TT} {te:TE} {i:Nat} {y:Str} {py spos:Pos} (hN:X.N.Nodup) (hy:X.N[i]? = some y) (hx:Loc X.env.scope y) (Nc:List Str) (ix:List (Option Nat)) (hc:X.calm=true) (ok:compOk scope X.env.scope=true) (hix:ixOk scope X.N Nc ix=true)
    (hi:PI X tg iter wi) (hg:∀ C s0 H0 fp,PG (compCx X scope C s0 H0 fp Nc) tg g) (ht:∀ C s0 H0 fp,PIfs (compCx X scope C s0 H0 fp Nc) ifs tt) (he:∀ C s0 H0 fp,PE (compCx X scope C s0 H0 fp Nc) elt te)
    (hs:∀ x,foldedSetIterable iter X.env x=pure x:=by intro _; rfl)
    (hsw:swapsWith (.ListComp elt [⟨tg,iter,ifs,0⟩] scope pos) (some (.Name y py)) spos.line X.env=pure true:=by rfl) (hf:X.fn y=true∨X.env.scope.names.lookup y=some .local:=by first | exact .inl rfl | exact .inr rfl | assumption) :
    PS X (.Assign [.Name y py] (.ListComp elt [⟨tg,iter,ifs,0⟩] scope pos) spos) (tAsg (tComp ix wi g tt te) (gName i)):=by
  intro pins s σ H Dn I h
  rw [exec_Assign_Name_used _ _ _ _ hsw]
  refine wpAny_bind (wpAny_standAt (wpAny_bind ?_))
  show wpAny _ X.A (do let _ ← comprehension (.ListComp elt [⟨tg,iter,ifs,0⟩] scope pos) scope X.env _ (newList []) false (eval iter X.env) (some (assign (.Name y py) X.env))) _ _ s
  refine wpAny_bind (wpAny_mono (wpAny_comprehension_free (use:=some (assign (.Name y py) X.env)) (Q:=fun _ s'=>SP X pins Dn .next s') rfl hs (closureFor_clOf (comp_cells I ok)) (compOk_kind ok) (compOk_local ok)
    (thn (hi pins s σ H _ I h) fun xv s1 h1=>thn h1 fun itv s2 h2=>?_)) (fun _ s' hq=>wpAny_pure (wpAny_pure hq)) fun _ _ e=>e)
  obtain ⟨it,fp,tn,J,H2,rfl,I2,T,st2,f2,q2⟩:=h2
  refine comp_run (RR:=fun acc C=>compPost (model X.prog X.w) X.A X.xe (some (assign (.Name y py) X.env)) (fun _ s'=>SP X pins Dn .next s') acc C) I2 hc ok hix hg ht he T st2 f2 q2
    (fun D C s' H' m J' hn hC h1 h2 h3 h4 q=>?_)
  show wpAny _ X.A (assign (.Name y py) X.env (.ref D)) _ _ _
  refine wpAny_assign_Name (store_ok2 J' hN hy hx (v:=.ref D) rfl (fun s'' J'' ⟨a,hsb,ha⟩=>⟨m,hn.sameBut hsb ?_,fun h' hs'=>⟨_,H',J''.turned (t':=s''.toks) (fun b o nb e=>hs'.extBut b o nb e) hC h2 (.inr h1) h3 h4,q⟩⟩) hf)
  rcases ha with ha | ha
  · rw [ha]
    exact h2
  · exact (h3 _ _ ha).symm
end
def Keep (D:Addr) (H H':Hp):Prop:=∀ b o,b≠D→H b=some o→H' b=some o
theorem Same.keep {H H':Hp} (h:Same H H') (D:Addr):Keep D H H':=fun b o _ e=>h b o e
theorem Keep.upd {H:Hp} {D:Addr} {o:HO}:Keep D H (upd H D o):=fun b u n e=>by rw [upd_ne n]; exact e
theorem Same.upd {H:Hp} {D:Addr} {o:HO} (h:H D=none):Same H (upd H D o):=fun b u e=>by rw [upd_ne (ne_of_none e h)]; exact e
theorem Same.updT {H H':Hp} {D:Addr} {o:HO} (s:Same H H') (h:H D=none):Same H (L2.upd H' D o):=fun b u e=>by rw [upd_ne (ne_of_none e h)]; exact s b u e
theorem comp1 {J:It} {D:Addr} {te:TE} {σf:St} {H1:Hp} {Q:VK} (n:Nat) (xv:Nat→V) (R:Nat→V→Hp→Prop) (hn:n < sizeLine) (hD1:H1 D=none)
    (hgo:∀ i H,i < n→Same H1 H→J.go i H) (hst:∀ H,Same H1 H→J.stop n H) (hy:∀ i H x H',i < n→Same H1 H→J.yld i H x H'→x=xv i∧H'=H)
    (mono:∀ i y H H',Keep D H H'→R i y H→R i y H')
    (hs:∀ i H ys (N:VK),i < n→Same H1 H→H D=some (.lst ys)→(∀ y H',Same H H'→R i y H'→N y H')→te (some (xv i) :: σf) H N)
    (hd:∀ ys H,Same H1 H→H D=some (.lst ys)→ys.length=n→(∀ (i:Nat) y,ys[i]? = some y→R i y H)→Q (.ref D) H):CompW J D (gName 0) tYes te (none :: σf) (upd H1 D (.lst [])) Q:=by
  refine ⟨fun i m ys H=>i≤n∧m=n - i∧Same H1 H∧H D=some (.lst ys)∧ys.length=i∧∀ j y,ys[j]? = some y→R j y H,⟨n,Nat.zero_le _,rfl,Same.upd hD1,upd_same,rfl,fun j y e=>by simp at e⟩,?_⟩
  rintro i m ys H ⟨hi,rfl,s1,d1,l1,r1⟩
  refine ⟨d1,?_⟩
  by_cases hlt:i < n
  · refine .inr ⟨hgo i H hlt s1,by rw [l1]; exact Nat.lt_trans hlt hn,fun y H'=>Same H H'∧R i y H',fun _=>False,fun y H6 q=>?_,fun _ z=>z.elim,fun x H' y=>?_⟩
    · obtain ⟨s6,r6⟩:=q
      refine ⟨s6 _ _ d1,n - (i + 1),by omega,hlt,rfl,(s1.trans s6).updT hD1,upd_same,by simp [l1],fun j z e=>?_⟩
      by_cases hj:j < ys.length
      · rw [List.getElem?_append_left hj] at e
        exact mono _ _ _ _ Keep.upd (mono _ _ _ _ (s6.keep D) (r1 j z e))
      · have hj':j=ys.length:=by
          have:=(List.getElem?_eq_some_iff.mp e).1
          simp at this
          omega
        subst hj'
        simp at e
        subst e
        rw [l1]
        exact mono _ _ _ _ Keep.upd r6
    · obtain ⟨rfl,rfl⟩:=hy i H x H' hlt s1 y
      refine ⟨Agree.one _ _ _ rfl,?_⟩
      show if true=true then te (some (xv i) :: σf) H' (fun y H''=>Same H' H''∧R i y H'') else False
      rw [if_pos rfl]
      exact hs i H' ys _ hlt s1 d1 fun y H6 a b=>⟨a,b⟩
  · obtain rfl:i=n:=Nat.le_antisymm hi (Nat.not_lt.mp hlt)
    exact .inl ⟨hst H s1,hd ys H s1 d1 l1 r1⟩
theorem comp_list {K:PySem.W.Frag} {a D:Addr} {xs:List V} {te:TE} {σf:St} {H1:Hp} {Q:VK} (R:Nat→V→Hp→Prop) (hS:SqL K H1 a xs) (hz:xs.length < sizeLine) (hD1:H1 D=none)
    (mono:∀ i y H H',Keep D H H'→R i y H→R i y H')
    (hs:∀ i x H ys (N:VK),xs[i]? = some x→Same H1 H→H D=some (.lst ys)→(∀ y H',Same H H'→R i y H'→N y H')→te (some x :: σf) H N)
    (hd:∀ ys H,Same H1 H→H D=some (.lst ys)→ys.length=xs.length→(∀ (i:Nat) y,ys[i]? = some y→R i y H)→Q (.ref D) H):CompW (Itl K a) D (gName 0) tYes te (none :: σf) (upd H1 D (.lst [])) Q:=by
  refine comp1 xs.length (fun i=>(xs[i]?).getD .non) R hz hD1 (fun i H hi s=>⟨xs,xs[i],s.seq hS,by simp [hi]⟩) (fun H s=>⟨xs,s.seq hS,Nat.le_refl _⟩) (fun i H x H' hi s y=>?_) mono (fun i H ys N hi s d hN=>?_) hd
  · obtain ⟨rfl,y⟩:=y
    have:=y xs (s.seq hS)
    exact ⟨by simp [this],rfl⟩
  · have e:xs[i]? = some xs[i]:=by simp [hi]
    have q:=hs i xs[i] H ys N e s d hN
    rw [e]
    exact q
theorem comp_range {lo:Int} {n:Nat} {D:Addr} {te:TE} {σf:St} {H1:Hp} {Q:VK} (R:Nat→V→Hp→Prop) (hz:n < sizeLine) (hD1:H1 D=none)
    (mono:∀ i y H H',Keep D H H'→R i y H→R i y H')
    (hs:∀ (i:Nat) H ys (N:VK),i < n→Same H1 H→H D=some (.lst ys)→(∀ y H',Same H H'→R i y H'→N y H')→te (some (.int (lo + i)) :: σf) H N)
    (hd:∀ ys H,Same H1 H→H D=some (.lst ys)→ys.length=n→(∀ (i:Nat) y,ys[i]? = some y→R i y H)→Q (.ref D) H):CompW (Itr lo n) D (gName 0) tYes te (none :: σf) (upd H1 D (.lst [])) Q :=
  comp1 n (fun i=>.int (lo + i)) R hz hD1 (fun i H hi _=>hi) (fun H _=>Nat.le_refl _) (fun i H x H' hi s y=>⟨y.2,y.1⟩) mono hs hd
end L2
namespace L2
open PySem PySem.Spec PyProof.Rows
def CBig (i j:Int):Prop:=(-(10 ^ 200) < i∧i < 10 ^ 200)∧(-(10 ^ 200) < j∧j < 10 ^ 200)
def CDivB (i j:Int):Prop:=0 < j∧j < 10 ^ 200
theorem big_pow:(10:Nat) ^ 200≤2 ^ 700:=by decide +kernel
theorem big_abs {i:Int} (h:-(10 ^ 200) < i∧i < 10 ^ 200):i.natAbs < 2 ^ 700:=by
  have h1:i.natAbs < 10 ^ 200:=by
    have e:((10 ^ 200:Nat):Int)=(10:Int) ^ 200:=by simp
    have:(i.natAbs:Int) < ((10 ^ 200:Nat):Int):=by rw [e]; omega
    exact Int.ofNat_lt.mp this
  exact Nat.lt_of_lt_of_le h1 big_pow
theorem CBig.ok {i j:Int} (h:CBig i j):IntMulOk i j:=IntMulOk.of_le (m:=700) (n:=700) (intBits_le_iff.mpr (big_abs h.1)) (intBits_le_iff.mpr (big_abs h.2)) (by decide)
section
variable {X:Cx}
theorem op_mulW:OpR X (binaryOp .Mult) (rI CBig fun i j=>.int (i * j)):=opI fun _ _ _ _ _ _ _ hc q=>mul_int q hc.ok
theorem op_fdivW:OpR X (binaryOp .FloorDiv) (rI CDivB fun i j=>.int (i / j)):=opI fun i j _ _ _ _ _ hc q=>by
  have h1:(0:Int) < j:=hc.1
  have h2:j.natAbs < 2 ^ 700:=big_abs ⟨by have:=hc.2; omega,hc.2⟩
  refine floordiv_int (by omega) (by rw [Int.fdiv_eq_ediv_of_nonneg i (by omega)]; exact q) (.inl (PyProof.noPylong_of_log2 ?_))
  have h3:j.natAbs.log2 < 700:=(Nat.log2_lt (by omega)).mpr h2
  omega
end
structure Src (K:PySem.W.Frag) (mg:Str→Option Value) (x qual:Str) (st:Stmt):Prop where
  ex:∃ f fd,Fun K x qual st f fd∧mg x=some (.ref f)
theorem src_mk {K:PySem.W.Frag} {h:Heap} {mg:Str→Option Value} {x qual:Str} {st:Stmt} {f:Addr} {oc:Value} {od an:Option Addr} {osl:Array (Option Value)} {kV doc pm cdv ct:Value} (X:K.In h) (G:h.Ns mainGlobals mg)
    (a:PySem.W.nsIn K mainGlobals x=some (some (.ref f))) (l:K.lookup f=some ⟨oc,od,.func (PySem.W.fnOf x qual (defArgs st) (defBody st) (defScope st) .none kV doc pm an cdv ct),osl⟩)
    (c:PySem.W.codeIn K cdv qual=true) (k:PySem.W.keepIn K (.ref f)=true):Src K mg x qual st:=⟨f,_,fun_mk l c k,PySem.W.mg_of X G a⟩
structure Def (P:Program) (w:World) (K:PySem.W.Frag) (mg:Str→Option Value) (base:Heap) (k:Nat) (x:Str) (ps:List Str) (sp:Sp):Prop where
  ex:∃ f fd,mg x=some (.ref f)∧PySem.W.keepIn K (.ref f)=true∧Binds K fd ps []∧FnOk P w K mg base CX0 k f fd ps sp∧∃ oc od osl,K.lookup f=some ⟨oc,od,.func fd,osl⟩
section
variable {P:Program} {w:World} {K:PySem.W.Frag} {mg:Str→Option Value} {base:Heap}
theorem Src.mk' {x qual:Str} {st:Stmt} {N ps:List Str} {k:Nat} {sp:Sp} (S:Src K mg x qual st) (Sc:FnScope N ps (defScope st)) (len:∀ vs H Q E,sp vs H Q E→vs.length=ps.length)
    (hb:∀ (kV doc pm:Value) (an:Option Addr) (cdv ct:Value) (us:List Value),us.length=ps.length→bindArgs (PySem.W.fnOf x qual (defArgs st) (defBody st) (defScope st) .none kV doc pm an cdv ct) ⟨us,[]⟩=pure (ps.zip us))
    (hbody:∀ (f:Addr) (cdv:Value) (A:Around) (outer:List Env) (s:Shared) (H:Hp) (vs:List V) (Q:VK) (E:XK),Room k (A.deeper (envOfC qual (defScope st) s.heap.objs.size f cdv))→sp vs H Q E →
      ∃ t,PSs (cxOf CX0 P w K mg base N qual (defScope st) f cdv A outer s H E).nox (defBody st) t∧t { nx:=fun _ H'=>Q .non H',rt:=Q } (start N vs) H):Def P w K mg base (k + 1) x ps sp:=by
  obtain ⟨f,fd,F,hm⟩:=S.ex
  obtain ⟨oc,od,_,_,_,_,_,_,osl,_,lk,_⟩:=F.ex
  exact ⟨f,fd,hm,F.kp,F.binds hb,F.ok Sc len (hbody f),oc,od,osl,lk⟩
end
section
variable {X:Cx} {k:Nat} {x:Str} {ps:List Str} {sp:Sp} {p pos:Pos} {e:Expr} {es:List Expr} {t:TA}
theorem pe_def (D:Def X.prog X.w X.K X.mg X.base k x ps sp) (hr:Room k X.A) (hg:Gl X x) (ha:PA X (e :: es) t) (hdb:(x == ("__debug__" : Str))=false:=by decide) (he:starEach (e :: es) X.env=(false,eval e X.env) :: starEach es X.env:=by rfl)
    (hpl:(backTo pos (starEach es X.env)).any (·.1)=false:=by rfl):PE X (.Call (.Name x p) (e :: es) [] pos) (tCall sp [] E0 t):=by
  obtain ⟨f,fd,hm,hk,hb,F,_⟩:=D.ex
  exact pe_call F hr hg hm hk hb .nil pass0 ha hdb he hpl
end
section
variable {X:Cx}
theorem boot_len':bootBuiltins "len" = some (.builtin "len"):=by decide +kernel
theorem boot_sum':bootBuiltins "sum" = some (.builtin "sum"):=by decide +kernel
theorem boot_min':bootBuiltins "min" = some (.builtin "min"):=by decide +kernel
theorem boot_max':bootBuiltins "max" = some (.builtin "max"):=by decide +kernel
theorem boot_list':bootBuiltins "list" = some (.type "list"):=by decide +kernel
theorem boot_abs':bootBuiltins "abs" = some (.builtin "abs"):=by decide +kernel
theorem boot_enumerate':bootBuiltins "enumerate" = some (.type "enumerate"):=by decide +kernel
end
def Ite (K:PySem.W.Frag) (a:Addr):It :=
  ⟨fun i H => ∃ xs x,SqL K H a xs∧xs[i]? = some x,fun i H x H' => ∃ T,H T=none∧x=.ref T∧∀ xs,SqL K H a xs→∃ v,xs[i]? = some v∧H'=upd H T (.tup [.int i,v]),fun i H => ∃ xs,SqL K H a xs∧xs.length≤i⟩
theorem Inv.turnNew {X:Cx} {pins:List (Addr × Obj)} {σ:St} {H:Hp} {s:Shared} {e it T:Addr} {h':Heap} {xs:List V} {t':Nat} (I:Inv X pins σ H s) (k:∀ b o,b≠e→b≠it→s.heap.get? b=some o→h'.get? b=some o) (fe:FpOk X pins H e) (fi:FpOk X pins H it)
    (hT:T=s.heap.objs.size) (new:ObjOk X.prog X.w (upd H T (.tup xs)) h' T (.tup xs)):Inv X pins σ (upd H T (.tup xs)) { s with heap:=h',toks:=t' }:=by
  have hn:H T=none:=by rw [hT]; exact I.fresh
  have nT:∀ b o,s.heap.get? b=some o→b≠T:=fun b o e=>by rw [hT]; exact Nat.ne_of_lt (Heap.lt_size e)
  have nch:∀ b,b ∉ [e,it]→b≠e∧b≠it:=fun b h=>⟨fun z=>h (by simp [z]),fun z=>h (by simp [z])⟩
  refine I.step (g':=s.gens) (d':=s.drawn) (ch:=[e,it]) (fun b hb=>?_) (fun b o _ _ hc q _=>k b o (nch b hc).1 (nch b hc).2 q) (fun b o _ _ hc q _=>⟨o.slots,k b o (nch b hc).1 (nch b hc).2 q⟩) (fun b o _ q n=>by rw [upd_ne (nT b o q)]; exact n)
    (fun b o hc q=>⟨o,k b o (nch b hc).1 (nch b hc).2 q⟩) (fun b ys q=>by rw [upd_ne (ne_of_none q hn)]; exact q) (fun b o u q=>by rw [upd_ne (ne_of_none q hn)]; exact q) (fun b ps q=>⟨#[],by rw [upd_ne (ne_of_none q hn),q]; simp⟩) (fun m hm=>?_) (fun b u q=>?_) I.bare
  · rcases List.mem_cons.mp hb with z | hb
    · subst z
      exact ⟨fe.2.2.2.1,fe.2.1,fe.2.2.2.2.1,fe.2.2.2.2.2⟩
    · have z:b=it:=by simpa using hb
      subst z
      exact ⟨fi.2.2.2.1,fi.2.1,fi.2.2.2.2.1,fi.2.2.2.2.2⟩
  · obtain ⟨o,es,ep,ho,r⟩:=hm
    exact ⟨o,es,ep,k _ o (Ne.symm fe.2.1) (Ne.symm fi.2.1) ho,r⟩
  · by_cases hb:b=T
    · subst hb
      rw [upd_same] at q
      cases q
      exact new
    · rw [upd_ne hb] at q
      have ne:∀ c u,H c=some u→c≠e∧c≠it:=fun c u z=>⟨fun w=>(by rw [w,fe.1] at z; cases z),fun w=>(by rw [w,fi.1] at z; cases z)⟩
      refine (I.hok b u q).stay (fun c v hc z=>?_) (fun c z=>by rw [upd_ne (ne_of_none z hn)]; exact z) fun c ys z=>by rw [upd_ne (ne_of_none z hn)]; exact z
      rcases hc with w | w
      · rw [w] at z ⊢
        exact k b v (ne b u q).1 (ne b u q).2 z
      · exact k c v (ne c _ w).1 (ne c _ w).2 z
theorem turn_enum {P:Program} {w:World} {K:PySem.W.Frag} {elts:List Expr} {tk:Nat} {tp:Pos} (a e it:Addr) (hne:e≠it) :
    Turn P w K (.Tuple elts tk tp) (Ite K a) [e,it] e (fun i h=>(∃ old,IsEnum h e it (i:Nat) old)∧h.IsListIter it a i) where
  mem:=by simp
  obj:=fun i h st b hb=>by
    obtain ⟨⟨old,he⟩,hit⟩:=st
    rcases List.mem_cons.mp hb with z | hb
    · subst z
      exact ⟨_,he,fun v z=>by
        have z':Data.fields _=Data.cell v:=z
        cases z'⟩
    · have z:b=it:=by simpa using hb
      subst z
      obtain ⟨o,e,c,d⟩:=hit
      exact ⟨o,e,fun v z=>by rw [d] at z; cases z⟩
  keep:=fun i h h' st k=>by
    obtain ⟨⟨old,he⟩,hit⟩:=st
    exact ⟨⟨old,k e (by simp) _ he⟩,hit.at fun o x=>k it (by simp) o x⟩
  item:=by
    intro X hP hw hK hc i pins s σ H E I hf st hg
    subst hP hw hK
    obtain ⟨⟨old,he⟩,hit⟩:=st
    obtain ⟨xs,x,hq,hx⟩:=hg
    obtain ⟨its,rv,p,hz⟩:=I.list hq
    obtain ⟨u,hu,ru⟩:=rv.get hx
    refine wpAny_pyNext_enum_item he hit p.isList (x:=u) (by simpa using hu) hne fun h' heo hit' hT hsz hk=>?_
    refine ⟨_,rfl,wpAny_letOwnedTupleGo_enum heo fun h2 he2 hs2=>?_⟩
    have helt:e < s.heap.objs.size:=Heap.lt_size he
    have hT2:h2.get? s.heap.objs.size=some { cls:=.type "tuple",data:=.seq #[.int i s.toks,u] }:=(hs2.2 _ (Nat.ne_of_gt helt)).trans hT
    have I2:Inv X pins σ (upd H s.heap.objs.size (.tup [.int i,x])) { s with heap:=h2,toks:=s.toks + 1 } :=
      I.turnNew (e:=e) (it:=it) (fun b o h1 h3 q=>(hs2.2 b h1).trans (hk b o h1 h3 q)) (hf e (by simp)) (hf it (by simp)) rfl
        ⟨by show 2≤sizeLine; rw [sizeLine_eq]; decide,[.int i s.toks,u],.cons ⟨_,rfl⟩ (.cons ru .nil),⟨_,hT2,rfl,_,rfl⟩⟩
    refine ⟨.ref s.heap.objs.size,_,I2,rfl,⟨_,I.fresh,rfl,fun ys hy=>⟨x,by rw [I.list_inj hy hq]; exact hx,rfl⟩⟩,⟨⟨u,?_⟩,hit'.at fun o q=>(hs2.2 it hne.symm).trans q⟩,fun b hb=>?_⟩
    · have e1:((i + 1:Nat):Int)=(i:Int) + 1:=by simp
      rw [e1]
      exact he2
    · obtain ⟨o,ho,_⟩:∃ o,s.heap.get? b=some o∧True:=by
        rcases List.mem_cons.mp hb with z | hb
        · subst z
          exact ⟨_,he,trivial⟩
        · have z:b=it:=by simpa using hb
          subst z
          obtain ⟨o,q,_⟩:=hit
          exact ⟨o,q,trivial⟩
      rw [upd_ne (Nat.ne_of_lt (Heap.lt_size ho))]
      exact (hf b hb).1
  done:=by
    intro X hP hw hK hc i pins s σ H E I hf st hg
    subst hP hw hK
    obtain ⟨⟨old,he⟩,hit⟩:=st
    obtain ⟨xs,hq,hx⟩:=hg
    obtain ⟨its,rv,p,hz⟩:=I.list hq
    obtain ⟨f0,f1,f2,f3,f4,f5⟩:=hf it (by simp)
    have hl:=rv.length
    exact wpAny_pyNext_enum_end (I.ok.hd hc) he hit p.isList (by simp; omega) fun h' eb=>⟨rfl,I.turned (t':=s.toks) (fun b o hb e=>eb b o hb e) f0 f1 f3 f4 f5⟩
  self:=fun A i s Q E st h=>by
    obtain ⟨⟨old,he⟩,_⟩:=st
    exact wpAny_pyIter_enum he h
section
variable {X:Cx}
def iEnum (K:PySem.W.Frag) (ta:TA):TI:=fun σ H R=>ta σ H fun vs H1 => ∃ a,vs=[.ref a]∧(∃ xs,SqL K H1 a xs)∧R (Ite K a) H1
theorem pi_enum {l:Expr} {ta:TA} {p pos tp:Pos} {elts:List Expr} {tk:Nat} (hg:Gl X "enumerate") (hm:X.mg "enumerate" = none) (ha:PA X [l] ta) (hs:starEach [l] X.env=[(false,eval l X.env)]:=by rfl) :
    PI X (.Tuple elts tk tp) (.Call (.Name "enumerate" p) [l] [] pos) (iEnum X.K ta):=by
  intro pins s σ H R I h
  refine Call_ (ld_blt I hg hm boot_enumerate' (PyProof.Rows.callWith_type1 (thn (ha pos pins s σ H _ I h) fun us s1 ⟨vs,H1,I1,r1,q1⟩=>?_) hs rfl))
  obtain ⟨a,e,⟨xs,hq⟩,q⟩:=q1
  subst e
  cases r1 with
  | cons r rr =>
    cases rr
    obtain rfl:=r
    obtain ⟨its,rv,pl,hz⟩:=I1.list hq
    refine call_enumerate_list pl.isList fun h' he hit hsz hk=>?_
    refine wpAny_pyIter_enum he ?_
    refine ⟨s1.heap.objs.size + 1,[s1.heap.objs.size + 1,s1.heap.objs.size],_,_,H1,rfl,I1.kept (t':=s1.toks) hk,turn_enum a _ _ (Nat.succ_ne_self _),⟨⟨_,he⟩,hit⟩,fun b hb=>?_,q⟩
    have hle:s1.heap.objs.size≤b:=by
      rcases List.mem_cons.mp hb with z | hb
      · rw [z]; exact Nat.le_succ _
      · have z:b=s1.heap.objs.size:=by simpa using hb
        rw [z]
        exact Nat.le_refl _
    exact I1.fpOk hle (I1.hok.fresh hle)
end
theorem for_enum {K:PySem.W.Frag} {a:Addr} {xs:List V} {g:TG} {tb:TS} {D:Ends} {σ:St} {H:Hp} (Pv:Nat→St→Hp→Prop) (h0:Pv 0 σ H) (hl:∀ i σ H,i≤xs.length→Pv i σ H→SqL K H a xs)
    (hs:∀ i x σ H T,xs[i]? = some x→Pv i σ H→H T=none→g (.ref T) σ (upd H T (.tup [.int i,x])) fun σ2 H2=>tb { D with nx:=Pv (i + 1),ct:=Pv (i + 1),bk:=D.nx } σ2 H2) (hd:∀ σ H,Pv xs.length σ H→D.nx σ H) :
    ∃ W:Nat→Nat→St→Hp→Prop,(∃ m,W 0 m σ H)∧∀ i m σ H,W i m σ H →
      ((Ite K a).stop i H∧D.nx σ H)∨((Ite K a).go i H∧∃ N:St→Hp→Prop,(∀ σ' H',N σ' H'→∃ m',m' < m∧W (i + 1) m' σ' H')∧∀ x H',(Ite K a).yld i H x H'→g x σ H' fun σ2 H2=>tb { D with nx:=N,ct:=N,bk:=D.nx } σ2 H2):=by
  refine ⟨fun i m σ H=>m=xs.length - i∧i≤xs.length∧Pv i σ H,⟨xs.length,by simp,Nat.zero_le _,h0⟩,?_⟩
  rintro i m σ H ⟨rfl,hi,p⟩
  have q:=hl i σ H hi p
  by_cases hlt:i < xs.length
  · refine .inr ⟨⟨xs,xs[i],q,by simp [hlt]⟩,Pv (i + 1),fun σ' H' p'=>⟨xs.length - (i + 1),by omega,rfl,hlt,p'⟩,fun x H' y=>?_⟩
    obtain ⟨T,hT,rfl,y⟩:=y
    obtain ⟨v,hv,rfl⟩:=y xs q
    exact hs i v σ H T hv p hT
  · obtain rfl:i=xs.length:=by omega
    exact .inl ⟨⟨xs,q,Nat.le_refl _⟩,hd σ H p⟩
end L2
namespace L2
open PySem PySem.Spec PyProof.Rows
def tJoin (t:TS):TS:=fun D σ H => ∃ N:St→Hp→Prop,t { D with nx:=N } σ H∧∀ σ' H',N σ' H'→D.nx σ' H'
theorem ps_join {X:Cx} {st:Stmt} {t:TS} (h:PS X st t):PS X st (tJoin t):=by
  intro pins s σ H D I q
  obtain ⟨N,q,hN⟩:=q
  refine thn (h pins s σ H _ I q) fun f s' z=>?_
  cases f with
  | next=>obtain ⟨σ',H',I',n⟩:=z; exact ⟨σ',H',I',hN σ' H' n⟩
  | brk=>exact z
  | cont=>exact z
  | ret v=>exact z
theorem len_small {n:Nat} (h:n≤1000):n≤sizeLine:=Nat.le_of_lt (small1000 h)
theorem atI_int {α:Type} {xs:List α} {z:Int} (j:Nat) {v:α} (hz:z=(j:Int)) (h:xs[j]? = some v):atI xs z=some v:=by
  subst hz
  exact atI_nat h
end L2
namespace L2
open PySem PySem.Spec PyProof.Rows
structure New (H:Hp) (p:Addr) (o:HO) (H':Hp):Prop where
  same:Same H H'
  none:H p=Option.none
  at_:H' p=some o
theorem new_upd {H:Hp} {p:Addr} {o:HO} (h:H p=Option.none):New H p o (upd H p o):=⟨Same.upd h,h,upd_same⟩
section
variable {X:Cx} {es:List Expr} {t:TA} {pos:Pos}
def tTup' (t:TA):TE:=fun σ H Q=>t σ H fun xs H1=>xs.length≤sizeLine∧∀ p H',New H1 p (.tup xs) H'→Q (.ref p) H'
def tLst' (t:TA):TE:=fun σ H Q=>t σ H fun xs H1=>xs.length≤sizeLine∧∀ p H',New H1 p (.lst xs) H'→Q (.ref p) H'
theorem OpR.imp {f:Value→Value→Sem Value} {r r':R2} (h:OpR X f r) (i:∀ x y H Q,r' x y H Q→r x y H Q):OpR X f r':=fun pins s σ H x y v u Q I rx ry q=>h pins s σ H x y v u Q I rx ry (i _ _ _ _ q)
theorem SlR.imp {r r':V→Option Int→Option Int→Hp→VK→Prop} (h:SlR X r) (i:∀ x l u H Q,r' x l u H Q→r x l u H Q):SlR X r':=fun pins s σ H x v vl vu lo hi sl Q I rx hs pl pu q=>h pins s σ H x v vl vu lo hi sl Q I rx hs pl pu (i _ _ _ _ _ q)
theorem CallR.imp {f:Value} {r r':List V→Hp→VK→Prop} (h:CallR X f r) (i:∀ xs H Q,r' xs H Q→r xs H Q):CallR X f r':=fun pins s σ H xs us Q I rv q=>h pins s σ H xs us Q I rv (i _ _ _ q)
def rSlL' (K:PySem.W.Frag):V→Option Int→Option Int→Hp→VK→Prop:=fun x lo hi H Q => ∃ a xs,x=.ref a∧SqL K H a xs∧∀ p H',New H p (.lst (cutV xs lo hi)) H'→Q (.ref p) H'
theorem sl_list':SlR X (rSlL' X.K):=sl_list.imp fun x l u H Q ⟨a,xs,e,h,q⟩=>⟨a,xs,e,h,fun p hp=>q p _ (new_upd hp)⟩
def rCat':R2:=fun x y H Q => ∃ l b xs zs,x=.ref l∧y=.ref b∧H l=some (.lst xs)∧H b=some (.lst zs)∧xs.length + zs.length≤sizeLine∧∀ p H',New H p (.lst (xs ++ zs)) H'→Q (.ref p) H'
theorem op_cat':OpR X (binaryOp .Add) rCat':=op_cat.imp fun x y H Q ⟨l,b,xs,zs,e1,e2,h1,h2,hz,q⟩=>⟨l,b,xs,zs,e1,e2,h1,h2,hz,fun p hp=>q p _ (new_upd hp)⟩
theorem call_list_of':CallR X (.type "list") (fun xs H Q => ∃ p ys,xs=[.ref p]∧(SqL X.K H p ys∨SqT X.K H p ys)∧∀ l H',New H l (.lst ys) H'→Q (.ref l) H'):=call_list_of.imp fun xs H Q ⟨p,ys,e,h,q⟩=>⟨p,ys,e,h,fun l hl=>q l _ (new_upd hl)⟩
theorem pe_tup' {x1} (h:PA X es t):PE X (.Tuple es x1 pos) (tTup' t):=by
  intro pins s σ H Q I hq
  refine wpAny_Tuple_spliced (thn (h pos pins s σ H _ I hq) fun us s1 ⟨xs,H1,I1,r,z,q⟩=>⟨by rw [← r.length]; exact z,?_⟩)
  refine ⟨.ref s1.heap.objs.size,_,I1.laid (t':=s1.toks) (o:=.tup xs) (fun b u e=>Heap.get?_push_of_some _ e) (Nat.le_refl _) ?_,rfl,q _ _ (new_upd I1.fresh)⟩
  exact ⟨z,us,r,⟨_,Heap.get?_push_size _ rfl,rfl,_,rfl⟩⟩
theorem pe_lst' (h:PA X es t):PE X (.List es pos) (tLst' t):=by
  intro pins s σ H Q I hq
  refine wpAny_List_spliced (thn (h pos pins s σ H _ I hq) fun us s1 ⟨xs,H1,I1,r,z,q⟩=>⟨by rw [← r.length]; exact z,?_⟩)
  refine ⟨.ref s1.heap.objs.size,_,I1.laid (t':=s1.toks) (o:=.lst xs) (fun b u e=>Heap.get?_push_of_some _ e) (Nat.le_refl _) ?_,rfl,q _ _ (new_upd I1.fresh)⟩
  exact ⟨z,us,0,r,Heap.get?_push_size _ rfl⟩
end
end L2
namespace L2
open PySem PySem.Spec PyProof.Rows
section
variable {X:Cx}
end
end L2
namespace L2
open PySem PySem.Spec PyProof.Rows
section
variable {X:Cx} {K:PySem.W.Frag}
theorem ix_seqK (h:X.K=K):IxR X (rIx K):=h ▸ ix_seq
theorem sl_listK (h:X.K=K):SlR X (rSlL' K):=h ▸ sl_list'
def rLen (K:PySem.W.Frag):List V→Hp→VK→Prop:=fun xs H Q => ∃ p ys,xs=[.ref p]∧(SqL K H p ys∨SqT K H p ys)∧Q (.int ys.length) H
theorem call_lenK (h:X.K=K):CallR X (.builtin "len") (rLen K):=h ▸ call_len_seq
def rListOf (K:PySem.W.Frag):List V→Hp→VK→Prop:=fun xs H Q => ∃ p ys,xs=[.ref p]∧(SqL K H p ys∨SqT K H p ys)∧∀ l H',New H l (.lst ys) H'→Q (.ref l) H'
theorem call_list_ofK (h:X.K=K):CallR X (.type "list") (rListOf K):=h ▸ call_list_of'
theorem op_in_seqK (h:X.K=K):OpR X (compareOp .In) (rIn K false):=h ▸ op_in_seq
theorem pi_listK {tg l:Expr} {tl:TE} (h:X.K=K) (hl:PE X l tl):PI X tg l (iList K tl):=h ▸ pi_list hl
theorem pi_enumK {l:Expr} {ta:TA} {p pos tp:Pos} {elts:List Expr} {tk:Nat} (h:X.K=K) (hg:Gl X "enumerate") (hm:X.mg "enumerate" = none) (ha:PA X [l] ta) (hs:starEach [l] X.env=[(false,eval l X.env)]:=by rfl) :
    PI X (.Tuple elts tk tp) (.Call (.Name "enumerate" p) [l] [] pos) (iEnum K ta):=h ▸ pi_enum hg hm ha hs
theorem pg_tupK {es:List Expr} {k:Nat} {t:TGs} {n:Nat} {pos:Pos} (hK:X.K=K) (hc:X.calm=true) (h:PGs X es t)
    (hn:(assignEach es X.env).length=n:=by rfl) (hst:(assignEach es X.env).findIdx? (·.1)=none:=by rfl):PG X (.Tuple es k pos) (gTup K n t):=hK ▸ pg_tup hc h hn hst
theorem pe_fldK {e:Expr} {f:Str} {pos:Pos} {ta:TE} (h:X.K=K) (he:PE X e ta) (hb:attributeBase e f X.env (eval e X.env)=eval e X.env):PE X (.Attribute e f pos) (tFld K ta f):=h ▸ pe_fld he hb
theorem ps_fldK {o value:Expr} {f:Str} {pos pos':Pos} {ta tv:TE} (h:X.K=K) (ha:PE X o ta) (hv:PE X value tv) (hs:swapsWith value (some (.Attribute o f pos')) pos.line X.env=pure false):PS X (.Assign [.Attribute o f pos'] value pos) (sFld K ta tv f):=h ▸ ps_fld ha hv hs
theorem pe_bmK {o e:Expr} {es:List Expr} {to:TE} {t:TA} {name:Str} {apos cpos:Pos} {T id:String} {r:V→List V→Hp→VK→Prop} (h:X.K=K) (pa:PlainAttrs T) (slot:Slot T name id) (hty:typeOf (.builtin id)=pure (.type "method_descriptor")) (hm:MtR X id r) (ho:PE X o to) (ha:PA X (e :: es) t)
    (hbase:attributeBase o name X.env (eval o X.env)=eval o X.env:=by rfl)
    (hfew:((backTo cpos (starEach (e :: es) X.env)).all (fun x => !x.1) && (backToKw cpos (keywordEach [] X.env)).all (fun x=>x.1.isSome) && decide ((e :: es).length + ([]:List Keyword).length + (if ([]:List Keyword).isEmpty then 0 else 1) < 30))=true:=by rfl)
    (hline:(apos.endLine == cpos.line)=true:=by rfl) (hs:starEach (e :: es) X.env=(false,eval e X.env) :: starEach es X.env:=by rfl) (hplain:(backTo cpos (starEach es X.env)).any (·.1)=false:=by rfl) :
    PE X (.Call (.Attribute o name apos) (e :: es) [] cpos) (tBM K T r to t):=by
  subst h
  exact pe_bm pa slot hty hm ho ha hbase hfew hline hs hplain
end
end L2
namespace L2
open PySem PySem.Spec PyProof.Rows
section
variable {X:Cx}
end
def tJoinE (t:TE):TE:=fun σ H Q => ∃ N:VK,t σ H N∧∀ v H',N v H'→Q v H'
theorem pe_join {X:Cx} {e:Expr} {t:TE} (h:PE X e t):PE X e (tJoinE t):=by
  intro pins s σ H Q I q
  obtain ⟨N,q,hN⟩:=q
  refine thn (h pins s σ H _ I q) fun u s' ⟨v,H',I',r,n⟩=>⟨v,H',I',r,hN v H' n⟩
theorem iteE {b:Bool} {A B:Prop} (e:b=false) (h:B):if b=true then A else B:=by
  rw [e]
  exact iteF h
end L2
namespace L2
open PySem PySem.Spec PyProof.Rows
theorem mul_bd {a b A B:Int} (a1:-A≤a) (a2:a≤A) (b1:-B≤b) (b2:b≤B):-(A * B)≤a * b∧a * b≤A * B:=by
  have hA:0≤A:=by omega
  have hB:0≤B:=by omega
  have h1:(a.natAbs:Int)≤A:=by omega
  have h2:(b.natAbs:Int)≤B:=by omega
  have h3:((a * b).natAbs:Int)≤A * B:=by
    rw [Int.natAbs_mul,Int.natCast_mul]
    exact Int.mul_le_mul h1 h2 (Int.natCast_nonneg _) hA
  omega
theorem ixT {K:PySem.W.Frag} {H:Hp} {a:Addr} {xs:List V} {i:Int} {v:V} {Q:VK} (h:SqT K H a xs) (e:atI xs i=some v) (q:Q v H):rIx K (.ref a) (.int i) H Q:=.inr (.inl ⟨a,xs,i,v,rfl,rfl,h,e,q⟩)
theorem ixL {K:PySem.W.Frag} {H:Hp} {a:Addr} {xs:List V} {i:Int} {v:V} {Q:VK} (h:SqL K H a xs) (e:atI xs i=some v) (q:Q v H):rIx K (.ref a) (.int i) H Q:=.inl ⟨a,xs,i,v,rfl,rfl,h,e,q⟩
theorem ixInts {K:PySem.W.Frag} {H:Hp} {a:Addr} {ns:List Int} {i:Int} {Q:VK} (h:SqL K H a (ns.map V.int)) (h0:0≤i) (h1:i < ns.length) (q:∀ z∈ns,Q (.int z) H):rIx K (.ref a) (.int i) H Q:=by
  have hi:i.toNat < ns.length:=by omega
  refine ixL h (atI_int i.toNat (by omega) (v:=.int ns[i.toNat]) (by simp [hi])) (q _ (List.getElem_mem hi))
theorem take_snoc {l:List Int} {i:Nat} {r:Int} (h:l[i]? = some r):l.take (i + 1)=l.take i ++ [r]:=by
  rw [List.take_add_one,h]
  rfl
theorem abs_nat (r:Int):(if r < 0 then -r else r)=((r.natAbs:Nat):Int):=by
  split <;> omega
theorem int_at {ns:List Int} {i:Nat} {x:V} (hx:(ns.map V.int)[i]? = some x):∃ z,ns[i]? = some z∧x=.int z:=by
  rw [List.getElem?_map] at hx
  cases e:ns[i]? with
  | none=>rw [e] at hx; cases hx
  | some z=>rw [e] at hx; exact ⟨z,rfl,(Option.some.inj hx).symm⟩
theorem ints_of {ys:List V} {ns:List Int} (l:ys.length=ns.length) (h:∀ (i:Nat) y,ys[i]? = some y→∃ z,ns[i]? = some z∧y=.int z):ys=ns.map V.int:=by
  refine List.ext_getElem? fun i=>?_
  rw [List.getElem?_map]
  cases q:ys[i]? with
  | none =>
    have:ns.length≤i:=by rw [← l]; exact List.getElem?_eq_none_iff.mp q
    rw [List.getElem?_eq_none_iff.mpr this]
    rfl
  | some y =>
    obtain ⟨z,h1,h2⟩:=h i y q
    rw [h1,h2]
    rfl
theorem cut_ints (ns:List Int) (lo hi:Option Int):∃ ms:List Int,cutV (ns.map V.int) lo hi=ms.map V.int∧ms.length≤ns.length:=by
  refine ⟨(ns.drop (HT.sIx ns.length 0 lo)).take (HT.sIx ns.length ns.length hi - HT.sIx ns.length 0 lo),?_,?_⟩
  · unfold cutV
    rw [List.length_map,List.map_take,List.map_drop]
  · simp
    omega
def gcdL (d:Nat) (rows:List Int):Nat:=rows.foldl (fun d r=>Nat.gcd d r.natAbs) d
theorem gcdL_dvd_start:∀ (rows:List Int) (d:Nat),gcdL d rows ∣ d
  | [],d=>Nat.dvd_refl _
  | r :: rs,d=>Nat.dvd_trans (gcdL_dvd_start rs (Nat.gcd d r.natAbs)) (Nat.gcd_dvd_left _ _)
theorem gcdL_dvd_mem:∀ (rows:List Int) (d:Nat) (r:Int),r∈rows→gcdL d rows ∣ r.natAbs
  | [],_,_,h=>by cases h
  | x :: rs,d,r,h=>by
    rcases List.mem_cons.mp h with rfl | h
    · exact Nat.dvd_trans (gcdL_dvd_start rs (Nat.gcd d r.natAbs)) (Nat.gcd_dvd_right _ _)
    · exact gcdL_dvd_mem rs _ r h
theorem gcdL_pos (rows:List Int) (d:Nat) (h:0 < d):0 < gcdL d rows:=Nat.pos_of_dvd_of_pos (gcdL_dvd_start rows d) h
theorem gcdL_snoc (d:Nat) (l:List Int) (r:Int):gcdL d (l ++ [r])=Nat.gcd (gcdL d l) r.natAbs:=by
  unfold gcdL
  rw [List.foldl_append]
  rfl
def sp_mixed:Sp:=fun vs H Q _ => ∃ c k:Int,vs=[.int c,.int k]∧0≤k∧k≤1000000∧∀ m:Int,0≤m→m < 2147483629→Q (.int m) H
def sp_cell (K:PySem.W.Frag):Sp:=fun vs H Q _ => ∃ (a:Addr) (ns:List Int) (k:Int),vs=[.ref a,.int k]∧SqL K H a (ns.map V.int)∧0≤k∧∀ z:Int,Q (.int z) H
def sp_cd:Sp:=fun vs H Q _ => ∃ a b:Int,vs=[.int a,.int b]∧0 < a∧0≤b∧Q (.int ((Nat.gcd a.natAbs b.natAbs:Nat):Int)) H
end L2
namespace L2
open PySem PySem.Spec PyProof.Rows
theorem preSum_take (ns:List Int):∀ k,k≤ns.length→preSum (fun i=>ns.getD i 0) k=(ns.take k).sum
  | 0,_=>by simp [preSum]
  | k + 1,h=>by
    have hk:k < ns.length:=h
    rw [preSum,preSum_take ns k (by omega),take_snoc (r:=ns[k]) (by simp [hk]),List.sum_append]
    simp [hk]
section
variable {X:Cx} {K:PySem.W.Frag}
theorem Inv.moved {pins:List (Addr × Obj)} {σ:St} {H:Hp} {s s':Shared} {o:Obj} (I:Inv X pins σ H s) (m:Moved [s.heap.objs.size] (fun a b=>b=a) { s with heap:=s.heap.push o } s'):Inv X pins σ H s':=by
  obtain ⟨h',g',d',t',os'⟩:=s'
  obtain ⟨m1,m2,m3,m4,m5⟩:=m
  have e1:g'=s.gens:=m2
  have e2:d'=s.drawn:=m3
  have e3:os'=s.os:=m4
  subst e1 e2 e3
  exact I.kept (t':=t') fun b u e=>m1 b u (fun z=>by
    have:b=s.heap.objs.size:=by simpa using z
    exact absurd (Heap.lt_size e) (by rw [this]; exact Nat.lt_irrefl _)) (Heap.get?_push_of_some _ e)
def rSum (K:PySem.W.Frag):List V→Hp→VK→Prop:=fun xs H Q => ∃ (a:Addr) (ns:List Int),xs=[.ref a]∧SqL K H a (ns.map V.int)∧Q (.int ns.sum) H
theorem call_sumK (hK:X.K=K) (hc:X.calm=true):CallR X (.builtin "sum") (rSum K):=by
  subst hK
  intro pins s σ H xs us Q I r h
  obtain ⟨a,ns,rfl,hq,q⟩:=h
  obtain ⟨u,rfl,rx⟩:=vals1 r
  cases rx
  obtain ⟨its,rv,pl,hz⟩:=I.list hq
  have hl:=rv.length
  have ha:a < s.heap.objs.size:=by
    obtain ⟨o,n,e,_⟩:=pl
    exact Heap.lt_size e
  have hhd:X.A.in1.handled=none:=I.ok.hd hc
  refine call_sum_walkAnyS (wpAny_pyIter_list pl.isList ?_)
  refine ⟨s.heap.objs.size,_,_,_,its.toArray.size,_,_,fun i=>ns.getD i 0,rfl,(Walks.list hhd s.heap.objs.size a (Nat.ne_of_lt ha) its.toArray).toS,⟨⟨_,Heap.get?_push_size _ rfl,rfl,rfl⟩,pl.isList.push _⟩,?_,?_,?_⟩
  · intro b hb
    rw [Heap.size_push]
    rcases List.mem_cons.mp hb with z | hb
    · rw [z]; exact Nat.lt_succ_self _
    · have z:b=a:=by simpa using hb
      rw [z]; exact Nat.lt_succ_of_lt ha
  · intro i v hv
    have hv':its[i]? = some v:=by simpa using hv
    have hi:i < ns.length:=by
      have:=(List.getElem?_eq_some_iff.mp hv').1
      simp at hl
      omega
    obtain ⟨u,h1,t,h2⟩:=rv.get (i:=i) (x:=.int ns[i]) (by simp [hi])
    rw [hv'] at h1
    cases h1
    exact ⟨t,by rw [h2]; simp [hi]⟩
  · intro s' t' m
    refine ⟨.int ns.sum,H,I.moved m,⟨t',?_⟩,q⟩
    have e:its.toArray.size=ns.length:=by
      rw [List.size_toArray,← hl]; simp
    rw [e,preSum_take ns _ (Nat.le_refl _),List.take_length]
def rCount (K:PySem.W.Frag):V→List V→Hp→VK→Prop:=fun x xs H Q => ∃ (a:Addr) (ns:List Int) (k:Int),x=.ref a∧xs=[.int k]∧SqL K H a (ns.map V.int)∧Q (.int ((ns.count k:Nat):Int)) H
theorem mt_countK (hK:X.K=K):MtR X "list.count" (rCount K):=by
  subst hK
  intro pins s σ H x xs v us Q I rx r h
  obtain ⟨a,ns,k,rfl,rfl,hq,q⟩:=h
  cases rx
  obtain ⟨u,rfl,t,rfl⟩:=vals1 r
  obtain ⟨its,rv,pl,hz⟩:=I.list hq
  exact count_list_ints pl.isList (intsAre_of rv) ⟨.int _,H,I.tok _,⟨_,rfl⟩,q⟩
end
theorem compIf {J:It} {D:Addr} {tt:TT} {te:TE} {σf:St} {H1:Hp} {Q:VK} (n:Nat) (xv:Nat→V) (p:Nat→Bool) (f:Nat→V) (hn:n < sizeLine) (hD1:H1 D=none)
    (hgo:∀ i H,i < n→Same H1 H→J.go i H) (hst:∀ H,Same H1 H→J.stop n H) (hy:∀ i H x H',i < n→Same H1 H→J.yld i H x H'→x=xv i∧H'=H)
    (ht:∀ i H (N:Bool→Hp→Prop),i < n→Same H1 H→(∀ H',Same H H'→N (p i) H')→tt (some (xv i) :: σf) H N)
    (hs:∀ i H (N:VK),i < n→p i=true→Same H1 H→(∀ H',Same H H'→N (f i) H')→te (some (xv i) :: σf) H N)
    (hd:∀ H,Same H1 H→H D=some (.lst (((List.range n).filter p).map f))→Q (.ref D) H):CompW J D (gName 0) tt te (none :: σf) (upd H1 D (.lst [])) Q:=by
  refine ⟨fun i m ys H=>i≤n∧m=n - i∧Same H1 H∧H D=some (.lst ys)∧ys=((List.range i).filter p).map f,⟨n,Nat.zero_le _,rfl,Same.upd hD1,upd_same,rfl⟩,?_⟩
  rintro i m ys H ⟨hi,rfl,s1,d1,rfl⟩
  refine ⟨d1,?_⟩
  by_cases hlt:i < n
  · have hle:(((List.range i).filter p).map f).length≤i:=by
      rw [List.length_map]
      exact Nat.le_trans (List.length_filter_le _ _) (by simp)
    refine .inr ⟨hgo i H hlt s1,by omega,fun y H'=>Same H H'∧y=f i∧p i=true,fun H'=>Same H H'∧p i=false,fun y H6 q=>?_,fun H5 q=>?_,fun x H' y=>?_⟩
    · obtain ⟨s6,rfl,hp⟩:=q
      refine ⟨s6 _ _ d1,n - (i + 1),by omega,hlt,rfl,(s1.trans s6).updT hD1,upd_same,?_⟩
      rw [List.range_succ,List.filter_append,List.map_append]
      simp [hp]
    · obtain ⟨s5,hp⟩:=q
      refine ⟨n - (i + 1),by omega,hlt,rfl,s1.trans s5,s5 _ _ d1,?_⟩
      rw [List.range_succ,List.filter_append,List.map_append]
      simp [hp]
    · obtain ⟨rfl,rfl⟩:=hy i H x H' hlt s1 y
      refine ⟨Agree.one _ _ _ rfl,?_⟩
      refine ht i H' _ hlt s1 fun H5 s5=>?_
      cases hp:p i with
      | true =>
        rw [if_pos rfl]
        exact hs i H5 _ hlt hp (s1.trans s5) fun H6 s6=>⟨s5.trans s6,rfl,rfl⟩
      | false =>
        rw [if_neg Bool.false_ne_true]
        exact ⟨s5,rfl⟩
  · obtain rfl:i=n:=Nat.le_antisymm hi (Nat.not_lt.mp hlt)
    exact .inl ⟨hst H s1,hd H s1 d1⟩
theorem compIf_range {n:Nat} {D:Addr} {tt:TT} {te:TE} {σf:St} {H1:Hp} {Q:VK} (p:Nat→Bool) (f:Nat→V) (hn:n < sizeLine) (hD1:H1 D=none)
    (ht:∀ (i:Nat) H (N:Bool→Hp→Prop),i < n→Same H1 H→(∀ H',Same H H'→N (p i) H')→tt (some (.int (0 + (i:Int))) :: σf) H N)
    (hs:∀ (i:Nat) H (N:VK),i < n→p i=true→Same H1 H→(∀ H',Same H H'→N (f i) H')→te (some (.int (0 + (i:Int))) :: σf) H N)
    (hd:∀ H,Same H1 H→H D=some (.lst (((List.range n).filter p).map f))→Q (.ref D) H):CompW (Itr 0 n) D (gName 0) tt te (none :: σf) (upd H1 D (.lst [])) Q :=
  compIf n (fun i=>.int (0 + (i:Int))) p f hn hD1 (fun i H hi _=>hi) (fun H _=>Nat.le_refl _) (fun i H x H' hi s y=>⟨y.2,y.1⟩) ht hs hd
section
variable {X:Cx} {K:PySem.W.Frag}
end
end L2
namespace L2
open PySem PySem.Spec PyProof.Rows
structure MSrc (K:PySem.W.Frag) (C:Addr) (m qual:Str) (st:Stmt):Prop where
  ex:∃ f fd,Fun K m qual st f fd∧Meth K C m f
theorem msrc_mk {K:PySem.W.Frag} {C:Addr} {m qual:Str} {st:Stmt} {f:Addr} {oc:Value} {od an:Option Addr} {osl:Array (Option Value)} {kV doc pm cdv ct:Value}
    (a:PySem.W.findIn K (.ref C) m=some (some (.ref f))) (n:PySem.W.isFn K (.ref f)=true) (l:K.lookup f=some ⟨oc,od,.func (PySem.W.fnOf m qual (defArgs st) (defBody st) (defScope st) .none kV doc pm an cdv ct),osl⟩)
    (c:PySem.W.codeIn K cdv qual=true) (k:PySem.W.keepIn K (.ref f)=true):MSrc K C m qual st:=⟨f,_,fun_mk l c k,⟨a,n,k⟩⟩
structure MDef (P:Program) (w:World) (K:PySem.W.Frag) (mg:Str→Option Value) (base:Heap) (k:Nat) (C:Addr) (m:Str) (ps:List Str) (sp:Sp):Prop where
  ex:∃ f fd,Meth K C m f∧Binds K fd ps []∧FnOk P w K mg base CX0 k f fd ps sp
section
variable {P:Program} {w:World} {K:PySem.W.Frag} {mg:Str→Option Value} {base:Heap}
theorem MSrc.mk' {C:Addr} {x qual:Str} {st:Stmt} {N ps:List Str} {k:Nat} {sp:Sp} (S:MSrc K C x qual st) (Sc:FnScope N ps (defScope st)) (len:∀ vs H Q E,sp vs H Q E→vs.length=ps.length)
    (hb:∀ (kV doc pm:Value) (an:Option Addr) (cdv ct:Value) (us:List Value),us.length=ps.length→bindArgs (PySem.W.fnOf x qual (defArgs st) (defBody st) (defScope st) .none kV doc pm an cdv ct) ⟨us,[]⟩=pure (ps.zip us))
    (hbody:∀ (f:Addr) (cdv:Value) (A:Around) (outer:List Env) (s:Shared) (H:Hp) (vs:List V) (Q:VK) (E:XK),Room k (A.deeper (envOfC qual (defScope st) s.heap.objs.size f cdv))→sp vs H Q E →
      ∃ t,PSs (cxOf CX0 P w K mg base N qual (defScope st) f cdv A outer s H E).nox (defBody st) t∧t { nx:=fun _ H'=>Q .non H',rt:=Q } (start N vs) H):MDef P w K mg base (k + 1) C x ps sp:=by
  obtain ⟨f,fd,F,hm⟩:=S.ex
  exact ⟨f,fd,hm,F.binds hb,F.ok Sc len (hbody f)⟩
end
section
variable {X:Cx} {k:Nat} {C:Addr} {x m:Str} {ps:List Str} {sp:Sp} {p pos apos:Pos} {e o:Expr} {es:List Expr} {ta:TE} {t:TA}
theorem pe_mdef {pl:Sem Bool} (D:MDef X.prog X.w X.K X.mg X.base k C m ps sp) (c:Cls X.K C) (he:PE X o ta) (hr:Room k X.A) (ha:PA X (e :: es) t)
    (hst:starEach (e :: es) X.env=(false,eval e X.env) :: starEach es X.env:=by rfl) (hpl:(backTo pos (starEach es X.env)).any (·.1)=false:=by rfl)
    (ht:eval (.Call (.Attribute o m apos) (e :: es) [] pos) X.env=(do
      let ov ← eval o X.env
      standAt apos.atName
      let (f,first) ← holding [ov] (getMethod ov m pl)
      callWith pos f first (backTo pos (starEach (e :: es) X.env)) (backToKw pos (keywordEach [] X.env))):=by rfl) :
    PE X (.Call (.Attribute o m apos) (e :: es) [] pos) (tMeth C m sp [] E0 ta t):=by
  obtain ⟨f,fd,hm,hb,F⟩:=D.ex
  exact pe_meth (pl:=pl) he c hm F hr hb .nil pass0 ha hst hpl ht
theorem pe_mdef0 {pl:Sem Bool} (D:MDef X.prog X.w X.K X.mg X.base k C m ps sp) (c:Cls X.K C) (he:PE X o ta) (hr:Room k X.A)
    (ht:eval (.Call (.Attribute o m apos) [] [] pos) X.env=(do
      let ov ← eval o X.env
      standAt apos.atName
      let (f,first) ← holding [ov] (getMethod ov m pl)
      callWith pos f first (backTo pos (starEach [] X.env)) (backToKw pos (keywordEach [] X.env))):=by rfl) :
    PE X (.Call (.Attribute o m apos) [] [] pos) (tMeth C m sp [] E0 ta tNil):=by
  obtain ⟨f,fd,hm,hb,F⟩:=D.ex
  exact pe_meth0 (pl:=pl) he c hm F hr hb .nil pass0 ht
theorem pe_mk (D:MDef X.prog X.w X.K X.mg X.base k C "__init__" ps sp) (mk:PySem.W.makesIn X.K C=true) (kp:PySem.W.keepIn X.K (.ref C)=true) (hm:X.mg x=some (.ref C)) (hr:Room (k + 1) X.A) (hg:Gl X x) (ha:PA X (e :: es) t)
    (hdb:(x == ("__debug__" : Str))=false:=by decide) (he:starEach (e :: es) X.env=(false,eval e X.env) :: starEach es X.env:=by rfl) (hpl:(backTo pos (starEach es X.env)).any (·.1)=false:=by rfl) :
    PE X (.Call (.Name x p) (e :: es) [] pos) (tMake C sp [] E0 t):=by
  obtain ⟨f,fd,M,hb,F⟩:=D.ex
  exact pe_make ⟨mk,M.at_,M.fn,kp⟩ F hr hg hm hb .nil pass0 ha hdb he hpl
end
theorem refs_ex {ys:List V} {P:Nat→Addr→Prop} (h:∀ (i:Nat) y,ys[i]? = some y→∃ l,y=.ref l∧P i l):∃ ws:List Addr,ys=ws.map V.ref∧∀ (i:Nat) a,ws[i]? = some a→P i a:=by
  induction ys generalizing P with
  | nil=>exact ⟨[],rfl,fun i a e=>by simp at e⟩
  | cons y r ih =>
    obtain ⟨ws,e,p⟩:=ih (P:=fun i l=>P (i + 1) l) fun i y' e=>h (i + 1) y' (by simpa using e)
    obtain ⟨l,e1,p1⟩:=h 0 y rfl
    refine ⟨l :: ws,by rw [e1,e]; rfl,fun i a e=>?_⟩
    cases i with
    | zero=>simp at e; subst e; exact p1
    | succ i=>exact p i a (by simpa using e)
theorem ref_at {ws:List Addr} {i:Nat} {x:V} (hx:(ws.map V.ref)[i]? = some x):∃ a,ws[i]? = some a∧x=.ref a:=by
  rw [List.getElem?_map] at hx
  cases e:ws[i]? with
  | none=>rw [e] at hx; cases hx
  | some z=>rw [e] at hx; exact ⟨z,rfl,(Option.some.inj hx).symm⟩
theorem putF_lt {f:Str} {v:V} {fs:List (Str × V)} {n:Nat} (h:fs.length≤n):(putF f v fs).length≤n + 1:=by
  have:=length_putF f v fs
  omega
def Rows (H:Hp) (ws:List Addr) (rows:List (List Int)):Prop:=ws.length=rows.length∧∀ (i:Nat) a row,ws[i]? = some a→rows[i]? = some row→H a=some (.lst (row.map V.int))
def Mat (H:Hp) (w:Addr) (rows:List (List Int)):Prop:=∃ ws:List Addr,H w=some (.lst (ws.map V.ref))∧Rows H ws rows
theorem Rows.same {H H':Hp} {ws:List Addr} {rows:List (List Int)} (r:Rows H ws rows) (s:Same H H'):Rows H' ws rows:=⟨r.1,fun i a row h1 h2=>s _ _ (r.2 i a row h1 h2)⟩
theorem Mat.same {H H':Hp} {w:Addr} {rows:List (List Int)} (m:Mat H w rows) (s:Same H H'):Mat H' w rows:=by
  obtain ⟨ws,h,r⟩:=m
  exact ⟨ws,s _ _ h,r.same s⟩
theorem Mat.len {H:Hp} {w:Addr} {rows:List (List Int)} (m:Mat H w rows):∃ ws:List Addr,H w=some (.lst (ws.map V.ref))∧(ws.map V.ref).length=rows.length:=by
  obtain ⟨ws,h,r⟩:=m
  exact ⟨ws,h,by rw [List.length_map]; exact r.1⟩
theorem Rows.at_ {H:Hp} {ws:List Addr} {rows:List (List Int)} (r:Rows H ws rows) {i:Nat} {row:List Int} (h:rows[i]? = some row):∃ a,ws[i]? = some a∧(ws.map V.ref)[i]? = some (.ref a)∧H a=some (.lst (row.map V.int)):=by
  have hi:i < ws.length:=by rw [r.1]; exact (List.getElem?_eq_some_iff.mp h).1
  exact ⟨ws[i],by simp [hi],by simp [hi],r.2 i _ row (by simp [hi]) h⟩
def hflds (b w:Addr) (r:Int):List (Str × V):=putF "rent" (.int r) (putF "worths" (.ref w) (putF "beds" (.ref b) []))
theorem hs1:¬ (("beds" : Str)="rent"):=by decide +kernel
theorem hs2:¬ (("beds" : Str)="worths"):=by decide +kernel
theorem hs3:¬ (("worths" : Str)="rent"):=by decide +kernel
theorem hf_beds (b w:Addr) (r:Int):(hflds b w r).lookup ("beds" : Str)=some (.ref b):=by
  unfold hflds
  rw [lookup_putF,if_neg hs1,lookup_putF,if_neg hs2,lookup_putF,if_pos rfl]
theorem hf_worths (b w:Addr) (r:Int):(hflds b w r).lookup ("worths" : Str)=some (.ref w):=by
  unfold hflds
  rw [lookup_putF,if_neg hs3,lookup_putF,if_pos rfl]
theorem hf_rent (b w:Addr) (r:Int):(hflds b w r).lookup ("rent" : Str)=some (.int r):=by
  unfold hflds
  rw [lookup_putF,if_pos rfl]
theorem hf_no (b w:Addr) (r:Int) {m:Str} (h1:¬ m="rent") (h2:¬ m="worths") (h3:¬ m="beds"):(hflds b w r).lookup m=none:=by
  unfold hflds
  rw [lookup_putF,if_neg h1,lookup_putF,if_neg h2,lookup_putF,if_neg h3]
  rfl
structure HCls (K:PySem.W.Frag) (mg:Str→Option Value) (C:Addr):Prop where
  mgC:mg "House" = some (.ref C)
  cl:Cls K C
  mks:PySem.W.makesIn K C=true
  kp:PySem.W.keepIn K (.ref C)=true
  nB:NoAttr K C "beds"
  nW:NoAttr K C "worths"
  nR:NoAttr K C "rent"
structure HouseAt (C:Addr) (H:Hp) (p:Addr) (beds:List Int) (worths:List (List Int)) (rent:Int):Prop where
  ex:∃ dx b w,H p=some (.ins C dx (hflds b w rent))∧H b=some (.lst (beds.map V.int))∧Mat H w worths
theorem HouseAt.same {C:Addr} {H H':Hp} {p:Addr} {beds:List Int} {worths:List (List Int)} {rent:Int} (h:HouseAt C H p beds worths rent) (s:Same H H'):HouseAt C H' p beds worths rent:=by
  obtain ⟨dx,b,w,h1,h2,h3⟩:=h.ex
  exact ⟨dx,b,w,s _ _ h1,s _ _ h2,h3.same s⟩
structure HouseOk (beds:List Int) (worths:List (List Int)) (rent:Int) (mp mr:Int):Prop where
  b1:1≤beds.length
  b2:(beds.length:Int)≤mr
  b3:∀ b∈beds,1≤b∧b≤4
  w1:1≤worths.length
  w2:(worths.length:Int)≤mp
  w3:(worths.length:Int)≤beds.sum
  w4:∀ row∈worths,row.length=beds.length
  w5:∀ row∈worths,∀ x∈row,-(10 ^ 40) < x∧x < 10 ^ 40
  r:-(10 ^ 40) < rent∧rent < 10 ^ 40
def sp_init (C:Addr):Sp:=fun vs H Q _ => ∃ (p dx b w:Addr) (beds:List Int) (worths:List (List Int)) (rent:Int),vs=[.ref p,.ref b,.ref w,.int rent]∧H p=some (.ins C dx [])∧H b=some (.lst (beds.map V.int))∧Mat H w worths ∧
  beds.length≤1000∧worths.length≤1000∧(worths.length:Int)≤beds.sum∧∀ H',HouseAt C H' p beds worths rent→(∀ c o,H c=some o→c≠p→H' c=some o)→Q .non H'
def sp_people (C:Addr):Sp:=fun vs H Q _ => ∃ (p:Addr) (beds:List Int) (worths:List (List Int)) (rent:Int),vs=[.ref p]∧HouseAt C H p beds worths rent∧Q (.int worths.length) H
def sp_rooms (C:Addr):Sp:=fun vs H Q _ => ∃ (p:Addr) (beds:List Int) (worths:List (List Int)) (rent:Int),vs=[.ref p]∧HouseAt C H p beds worths rent∧Q (.int beds.length) H
def sp_beds:Sp:=fun vs H Q _ => ∃ f m:Int,vs=[.int f,.int m]∧0≤m∧m≤10∧∀ (l:Addr) (bs:List Int) (H':Hp),New H l (.lst (bs.map V.int)) H'→(bs.length:Int)=m→(∀ b∈bs,1≤b∧b≤4)→Q (.ref l) H'
def sp_worths (K:PySem.W.Frag):Sp:=fun vs H Q _ => ∃ (a:Addr) (ns:List Int) (f p r:Int),vs=[.ref a,.int f,.int p,.int r]∧SqL K H a (ns.map V.int)∧ns.length≤63∧1≤p∧p≤10∧1≤r∧r≤10 ∧
  ∀ (w:Addr) (rows:List (List Int)) (H':Hp),Same H H'→Mat H' w rows→(rows.length:Int)=p→(∀ row∈rows,(row.length:Int)=r)→(∀ row∈rows,∀ x∈row,-(10 ^ 40) < x∧x < 10 ^ 40)→Q (.ref w) H'
def sp_house (K:PySem.W.Frag):Sp:=fun vs H Q _ => ∃ (a:Addr) (ns:List Int) (mp mr:Int),vs=[.ref a,.int mp,.int mr]∧SqL K H a (ns.map V.int)∧ns.length≤63∧1≤mp∧mp≤10∧1≤mr∧mr≤10 ∧
  ∀ (t b w:Addr) (beds:List Int) (worths:List (List Int)) (rent:Int) (H':Hp),Same H H'→H' t=some (.tup [.ref b,.ref w,.int rent])→H' b=some (.lst (beds.map V.int))→Mat H' w worths→HouseOk beds worths rent mp mr→Q (.ref t) H'
def lyingL (n:Nat) (way:List Int):List Int:=(List.range n).map fun (r:Nat)=>((way.count (r:Int):Nat):Int)
def openL (beds way:List Int):List Int:=((List.range beds.length).filter fun (r:Nat)=>decide (((way.count (r:Int):Nat):Int) < beds.getD r 0)).map fun (r:Nat)=>(r:Int)
def worthL (worths:List (List Int)) (way:List Int):Int:=((List.range worths.length).map fun i=>(worths.getD i []).getD (way.getD i 0).toNat 0).sum
def sp_lying (K:PySem.W.Frag) (C:Addr):Sp:=fun vs H Q _ => ∃ (p a:Addr) (beds:List Int) (worths:List (List Int)) (rent:Int) (way:List Int),vs=[.ref p,.ref a]∧HouseAt C H p beds worths rent∧beds.length≤1000∧SqL K H a (way.map V.int) ∧
  ∀ l H',New H l (.lst ((lyingL beds.length way).map V.int)) H'→Q (.ref l) H'
def sp_open (K:PySem.W.Frag) (C:Addr):Sp:=fun vs H Q _ => ∃ (p a:Addr) (beds:List Int) (worths:List (List Int)) (rent:Int) (way:List Int),vs=[.ref p,.ref a]∧HouseAt C H p beds worths rent∧beds.length≤1000∧SqL K H a (way.map V.int) ∧
  ∀ l H',New H l (.lst ((openL beds way).map V.int)) H'→Q (.ref l) H'
def sp_worthof (K:PySem.W.Frag) (C:Addr):Sp:=fun vs H Q _ => ∃ (p a:Addr) (beds:List Int) (worths:List (List Int)) (rent:Int) (way:List Int),vs=[.ref p,.ref a]∧HouseAt C H p beds worths rent∧worths.length≤1000∧SqL K H a (way.map V.int) ∧
  way.length=worths.length∧(∀ row∈worths,∀ r∈way,0≤r∧r < (row.length:Int))∧∀ H',Same H H'→Q (.int (worthL worths way)) H'
theorem cut_between (ns:List Int) {a b:Nat} (h1:a≤b) (h2:b≤ns.length):cutV (ns.map V.int) (some (a:Int)) (some (b:Int))=((ns.drop a).take (b - a)).map V.int:=by
  unfold cutV
  rw [List.length_map,HT.sIx_nat,HT.sIx_nat,Nat.min_eq_left (Nat.le_trans h1 h2),Nat.min_eq_left h2,List.map_take,List.map_drop]
theorem compMap {K:PySem.W.Frag} {a D:Addr} {te:TE} {σf:St} {H1:Hp} {Q:VK} (ns:List Int) (f:Int→Int) (hS:SqL K H1 a (ns.map V.int)) (hz:ns.length < sizeLine) (hD1:H1 D=none)
    (hs:∀ z∈ns,∀ H (N:VK),Same H1 H→N (.int (f z)) H→te (some (.int z) :: σf) H N) (hd:∀ H,Same H1 H→H D=some (.lst ((ns.map f).map V.int))→Q (.ref D) H):CompW (Itl K a) D (gName 0) tYes te (none :: σf) (upd H1 D (.lst [])) Q:=by
  refine comp_list (fun i y _ => ∃ z,ns[i]? = some z∧y=.int (f z)) hS (by simpa using hz) hD1 (fun _ _ _ _ _ h=>h) ?_ ?_
  · rintro i x H ys N hx s d hN
    obtain ⟨z,h1,rfl⟩:=int_at hx
    exact hs z (List.mem_of_getElem? h1) H N s (hN _ _ (Same.refl _) ⟨z,h1,rfl⟩)
  · rintro ys H s d l r
    have e:ys=(ns.map f).map V.int:=ints_of (by simpa using l) fun i y e=>by
      obtain ⟨z,h1,h2⟩:=r i y e
      exact ⟨_,by rw [List.getElem?_map,h1]; rfl,h2⟩
    rw [e] at d
    exact hd H s d
theorem Rows.snoc {H H':Hp} {ws:List Addr} {rows:List (List Int)} {c:Addr} {row:List Int} (r:Rows H ws rows) (k:∀ a∈ws,∀ o,H a=some o→H' a=some o) (hc:H' c=some (.lst (row.map V.int))):Rows H' (ws ++ [c]) (rows ++ [row]):=by
  refine ⟨by simp [r.1],fun i a rw' h1 h2=>?_⟩
  by_cases hi:i < ws.length
  · rw [List.getElem?_append_left hi] at h1
    rw [List.getElem?_append_left (by rw [← r.1]; exact hi)] at h2
    exact k a (List.mem_of_getElem? h1) _ (r.2 i a rw' h1 h2)
  · have hi2:i=ws.length:=by
      have:=(List.getElem?_eq_some_iff.mp h1).1
      simp at this
      omega
    subst hi2
    simp at h1
    rw [r.1] at h2
    simp at h2
    subst h1 h2
    exact hc
theorem sum_ge {bs:List Int} (h:∀ b∈bs,1≤b):(bs.length:Int)≤bs.sum:=by
  induction bs with
  | nil=>simp
  | cons b r ih =>
    have h1:=h b List.mem_cons_self
    have h2:=ih fun x hx=>h x (List.mem_cons_of_mem _ hx)
    simp
    omega
theorem sum_le {bs:List Int} {m:Int} (h:∀ b∈bs,b≤m):bs.sum≤m * bs.length:=by
  induction bs with
  | nil=>simp
  | cons b r ih =>
    have h1:=h b List.mem_cons_self
    have h2:=ih fun x hx=>h x (List.mem_cons_of_mem _ hx)
    have e:m * (((b :: r).length:Nat):Int)=m * (r.length:Int) + m:=by
      rw [List.length_cons,Int.natCast_add,Int.mul_add]
      simp
    rw [e]
    simp
    omega
theorem compMapV {K:PySem.W.Frag} {a D:Addr} {te:TE} {σf:St} {H1:Hp} {Q:VK} (ns:List Int) (f:Int→V) (hS:SqL K H1 a (ns.map V.int)) (hz:ns.length < sizeLine) (hD1:H1 D=none)
    (hs:∀ z∈ns,∀ H (N:VK),Same H1 H→(∀ H',Same H H'→N (f z) H')→te (some (.int z) :: σf) H N) (hd:∀ H,Same H1 H→H D=some (.lst (ns.map f))→Q (.ref D) H):CompW (Itl K a) D (gName 0) tYes te (none :: σf) (upd H1 D (.lst [])) Q:=by
  refine comp_list (fun i y _ => ∃ z,ns[i]? = some z∧y=f z) hS (by simpa using hz) hD1 (fun _ _ _ _ _ h=>h) ?_ ?_
  · rintro i x H ys N hx s d hN
    obtain ⟨z,h1,rfl⟩:=int_at hx
    exact hs z (List.mem_of_getElem? h1) H N s fun H' s'=>hN _ _ s' ⟨z,h1,rfl⟩
  · rintro ys H s d l r
    have e:ys=ns.map f:=by
      refine List.ext_getElem? fun i=>?_
      rw [List.getElem?_map]
      cases q:ys[i]? with
      | none =>
        have:ns.length≤i:=by
          have:=List.getElem?_eq_none_iff.mp q
          simp at l
          omega
        rw [List.getElem?_eq_none_iff.mpr this]
        rfl
      | some y =>
        obtain ⟨z,h1,h2⟩:=r i y q
        rw [h1,h2]
        rfl
    rw [e] at d
    exact hd H s d
theorem compRangeV {n:Nat} {D:Addr} {te:TE} {σf:St} {H1:Hp} {Q:VK} (f:Nat→V) (hz:n < sizeLine) (hD1:H1 D=none)
    (hs:∀ (i:Nat),i < n→∀ H (N:VK),Same H1 H→(∀ H',Same H H'→N (f i) H')→te (some (.int (0 + (i:Int))) :: σf) H N) (hd:∀ H,Same H1 H→H D=some (.lst ((List.range n).map f))→Q (.ref D) H):CompW (Itr 0 n) D (gName 0) tYes te (none :: σf) (upd H1 D (.lst [])) Q:=by
  refine comp_range (fun i y _=>y=f i) hz hD1 (fun _ _ _ _ _ h=>h) ?_ ?_
  · rintro i H ys N hi s d hN
    exact hs i hi H N s fun H' s'=>hN _ _ s' rfl
  · rintro ys H s d l r
    have e:ys=(List.range n).map f:=by
      refine List.ext_getElem? fun i=>?_
      rw [List.getElem?_map]
      cases q:ys[i]? with
      | none =>
        have:=List.getElem?_eq_none_iff.mp q
        rw [List.getElem?_eq_none_iff.mpr (by simp; omega)]
        rfl
      | some y =>
        have hi:=(List.getElem?_eq_some_iff.mp q).1
        rw [r i y q,List.getElem?_range (by omega)]
        rfl
    rw [e] at d
    exact hd H s d
end L2
namespace L2
open PySem PySem.Spec PyProof.Rows
section
variable {X:Cx} {K:PySem.W.Frag}
end
end L2
namespace L2
open PySem PySem.Spec PyProof.Rows
section
variable {X:Cx} {scope:Scope} {y:Str}
variable {pins:List (Addr × Obj)} {σ:St} {H:Hp} {s:Shared}
end
section
variable {X:Cx} {tg iter elt:Expr} {ifs:List Expr} {scope:Scope} {pos:Pos} {pins:List (Addr × Obj)} {σ:St} {H:Hp} {s:Shared}
end
end L2
namespace L2
open PySem PySem.Spec PyProof.Rows
section
variable {X:Cx} {st:Stmt} {rest:List Stmt} {t u:TS} {pos:Pos}
end
section
variable {X:Cx} {o:Expr} {to:TE} {K:PySem.W.Frag} {apos cpos p1 p2:Pos} {j1 j2:Nat}
end
end L2
namespace L2
open PySem PySem.Spec PyProof.Rows
end L2
namespace L2
open PySem PySem.Spec PyProof.Rows
section
variable {X:Cx} {pins:List (Addr × Obj)} {σ:St} {H:Hp} {s:Shared}
end
section
variable {P:Program} {w:World} {K:PySem.W.Frag} {mg:Str→Option Value} {base:Heap}
end
end L2
namespace L2
open PySem PySem.W PySem.Spec PyProof.Rows PySem.Calls Builtin Builtin.ObjectAttr Builtin.Getset_descriptor
section
variable {prog:Program} {w:World} {A:Around} {E:Value→Shared→Prop} {s:Shared} {K:Frag} {x D:Addr} {o:Obj}
end
end L2
namespace L2
open PySem PySem.Spec PyProof.Rows
section
variable {X:Cx} {pins:List (Addr × Obj)} {σ:St} {H:Hp} {s:Shared} {v:Value}
end
section
variable {X:Cx} {k:Nat} {f C:Addr} {fd:FuncData} {ps:List Str} {sp:Sp} {x m:Str} {p pos:Pos} {e:Expr} {es:List Expr} {t:TA}
end
end L2
namespace L2
open PySem PySem.Spec PyProof.Rows
section
variable {X:Cx}
end
section
variable {P:Program} {w:World} {K:PySem.W.Frag} {mg:Str→Option Value} {base:Heap}
end
section
variable {X:Cx} {k:Nat} {f:Addr} {x:Str} {ps:List Str} {sp:Sp} {p pos:Pos} {e:Expr} {es:List Expr} {t:TA}
end
end L2
namespace L2
open PySem PySem.Spec PyProof.Rows
section
variable {X:Cx} {K:PySem.W.Frag}
end
end L2
namespace L2
open PySem PySem.Spec PyProof.Rows
section
variable {X:Cx} {K:PySem.W.Frag}
end
end L2
namespace L2
open PySem PySem.Spec PyProof.Rows
section
variable {X:Cx}
end
section
variable {X:Cx}
end
end L2
namespace L2
open PySem PySem.Spec PyProof.Rows
theorem weight_item:∀ {ns:List Int} {n:Int},n∈ns→Builtin.Int.intBits n≤PySem.W.WData.weightAll (ns.map PySem.W.WData.int)
  | [],_,h=>by cases h
  | m :: r,n,h=>by
    rw [List.map_cons,PySem.W.WData.weightAll,PySem.W.WData.weight]
    rcases List.mem_cons.mp h with z | z
    · subst z
      show (if (n == 0)=true then 0 else n.natAbs.log2 + 1)≤_
      omega
    · have:=weight_item z
      omega
theorem bits_of_lay {ns:List Int} (h:PySem.W.WData.layableAll [PySem.W.WData.list (ns.map PySem.W.WData.int)]=true):∀ n∈ns,Builtin.Int.intBits n≤1048576:=fun n hn=>by
  have h1:=List.all_eq_true.mp h _ List.mem_cons_self
  have h2:=of_decide_eq_true (Bool.and_eq_true_iff.mp h1).2
  rw [PySem.W.WData.weight] at h2
  exact Nat.le_trans (weight_item hn) h2
end L2
namespace L2
open PySem PySem.Spec PyProof.Rows
def lamCx (X:Cx) (qual:Str) (scope:Scope) (L f:Addr) (cd:Value) (s0:Shared) (H0:Hp) (Nc:List Str):Cx where
  prog:=X.prog
  w:=X.w
  K:=X.K
  mg:=X.mg
  base:=X.base
  A:=X.A.in1.deeper (PySem.W.envX qual scope L f cd (clOf X.env.cells scope.names []))
  N:=Nc
  s₀:=s0
  H₀:=H0
  env:=PySem.W.envX qual scope L f cd (clOf X.env.cells scope.names [])
  outer:=X.stack
  stack:=PySem.W.envX qual scope L f cd (clOf X.env.cells scope.names []) :: X.stack
  ex:=[]
  fn:=fun _=>false
  calm:=true
  pn:=[]
  xe:=fun _ _=>False
section
variable {X:Cx} {scope:Scope} {pins:List (Addr × Obj)} {σ:St} {H:Hp} {s:Shared}
theorem lam_inv {qual:Str} {L f:Addr} {cd:Value} {Nc:List Str} {ix:List (Option Nat)} {h1:Heap} {tk:Nat} {x:Str} {v:V} {u:Value} (I:Inv X pins σ H s) (hc:X.calm=true) (ok:compOk scope X.env.scope=true) (hix:ixOk scope X.N (x :: Nc) (none :: ix)=true)
    (hx:scope.names.lookup x=some .local) (hL:L=s.heap.objs.size) (rv:RelV v u) (hns:h1.Ns L (fun y=>([(x,u)]:List (Str × Value)).reverse.lookup y)) (hk:∀ b o,s.heap.get? b=some o→h1.get? b=some o) :
    Inv (lamCx X qual scope L f cd s H (x :: Nc)) [] (some v :: cSt σ ix) H { s with heap:=h1,toks:=tk }:=by
  refine ⟨⟨I.ok.mod,(compOk_kind (X:=X) (scope:=scope) ok),rfl,rfl,Nat.le_of_eq hL.symm,fun y z c e1 e2=>I.ok.inj y z c (comp_cl I ok e1) (comp_cl I ok e2),fun y hy=>?_,(fun _ _ z=>nomatch z),fun _=>I.ok.hd hc,Around.frames_deeper (A:=X.A.in1) I.ok.frames,.inr ⟨rfl,rfl⟩,(fun b hb=>by cases hb),I.bs,Nat.le_trans I.ok.bsz I.sz,(fun b o e hb=>by cases hb),(fun b hb=>by cases hb),I.stack,I.stkFree⟩,
    rfl,I.bare,Un.kept hk,⟨_,hns,fun i y v' e1 e2 e3=>?_⟩,fun y c e=>?_,?_,fun y c e=>I.freeC y c (comp_cl I ok e),(fun p hp=>by cases hp),I.hok.kept hk,?_⟩
  · have hmem:(y,NameKind.free)∈scope.names:=by
      rcases hy with hy | hy
      · exact absurd rfl (compOk_cell ok _ (mem_of_lookup (show scope.names.lookup y=some .cell from hy)))
      · exact mem_of_lookup (show scope.names.lookup y=some .free from hy)
    exact Option.isSome_iff_exists.mp (clOf_has (cells:=X.env.cells) scope.names [] (x:=y) (.inl hmem))
  · cases i with
    | zero =>
      have e1':x=y:=by simpa [lamCx] using e1
      have e2':v=v':=by simpa using e2
      subst e1' e2'
      exact ⟨u,rv,.inl ⟨hx,by simp⟩⟩
    | succ i =>
      have hix':ixOk scope X.N Nc ix=true:=hix
      have e1':Nc[i]? = some y:=by simpa [lamCx] using e1
      have e2':(cSt σ ix)[i]? = some (some v'):=by simpa using e2
      obtain ⟨j,n1,n2,n3⟩:=cSt_get hix' e1' e2'
      have hmem:(y,NameKind.free)∈scope.names:=mem_of_lookup n3
      have hkind:=compOk_free ok (y,.free) hmem rfl
      obtain ⟨mX,_,hl⟩:=I.loc
      have hvis:Vis X.env.scope y:=.inr hkind
      obtain ⟨u',r,l⟩:=hl j y v' n1 n2 hvis
      refine ⟨u',r,?_⟩
      rcases l with ⟨k1,_⟩ | ⟨_,c,e,z⟩
      · rcases hkind with q | q
        · rw [q] at k1; cases k1
        · rw [q] at k1; cases k1
      · refine .inr ⟨.inr n3,c,?_,?_⟩
        · obtain ⟨c',hc'⟩:=Option.isSome_iff_exists.mp (clOf_has (cells:=X.env.cells) scope.names [] (x:=y) (.inl hmem))
          have:=comp_cl I ok hc'
          rw [e] at this
          cases this
          exact hc'
        · obtain ⟨o,ho,hd⟩:=z
          exact ⟨o,hk c o ho,hd⟩
  · obtain ⟨v',o,ho,hd⟩:=I.cell y c (comp_cl I ok e)
    exact ⟨v',o,hk c o ho,hd⟩
  · show H L=none
    rw [hL]
    exact I.hok.fresh (Nat.le_refl _)
  · have hix':ixOk scope X.N Nc ix=true:=hix
    show (cSt σ ix).length + 1=Nc.length + 1
    rw [cSt_len,ixOk_len hix']
theorem lam_call {name qual:Str} {params:Arguments} {body:Expr} {pm ctv:Value} {c' f:Addr} {Nc:List Str} {ix:List (Option Nat)} {x:Str} {v:V} {u:Value} {te:TE} {Q:VK} (I:Inv X pins σ H s) (hc:X.calm=true) (ok:compOk scope X.env.scope=true)
    (hix:ixOk scope X.N (x :: Nc) (none :: ix)=true) (hx:scope.names.lookup x=some .local) (hco:scope.isCoroutine=false) (hgen:scope.isGenerator=false)
    (ho:s.heap.get? f=some (PySem.W.kla_obj name qual params body scope (clOf X.env.cells scope.names []) pm c' ctv)) (hcd:s.heap.CodeRec (.ref c') qual) (hroom:X.A.depth < recursionLimit)
    (hbind:∀ u:Value,bindArgs (PySem.W.kla_fn name qual params body scope (clOf X.env.cells scope.names []) pm (.ref c') ctv) ⟨[u],[]⟩=pure [(x,u)]) (rv:RelV v u)
    (he:∀ L f cd s0 H0,PE (lamCx X qual scope L f cd s0 H0 (x :: Nc)) body te) (q:te (some v :: cSt σ ix) H Q):wpAny (model X.prog X.w) X.A.in1 (call (.ref f) [u]) (EP X pins σ Q) (fun _ _=>False) s:=by
  refine wpAny_call (PySem.W.kla_callFunE hroom ho rfl hco hgen rfl hcd ?_)
  rw [hbind]
  refine wpAny_pure (wpAny_newFunctionEnv (compOk_cell ok) (fun y hy=>?_) (fun h₁ hns hsb=>⟨I.nolimit.fresh _ hsb,?_⟩) (compOk_kind (X:=X) ok))
  · have:y=(x,u):=by simpa using hy
    rw [this]
    exact hx
  have hk₁:∀ b o,s.heap.get? b=some o→h₁.get? b=some o:=fun b o e=>hsb.extBut b o (Nat.ne_of_lt (Heap.lt_size e)) (Heap.get?_push_of_some _ e)
  have J:=lam_inv (qual:=qual) (f:=f) (cd:=.ref c') (tk:=s.toks + 1) I hc ok hix hx rfl rv hns hk₁
  refine PySem.W.kla_codeExpr (wpAny_mono (he _ _ _ _ _ [] _ _ _ _ J q) (fun v' s' h'=>?_) fun _ _ z=>z.elim)
  obtain ⟨y,H',J',ry,q'⟩:=h'
  exact I.after ⟨y,H',J'.os,J'.bare,J'.base,J'.hok,ry,q'⟩
end
section
variable {X:Cx} {pins:List (Addr × Obj)} {σ:St} {H:Hp} {s:Shared}
theorem Inv.turn1 {pl pl':List (Addr × Obj)} {it:Addr} {o':Obj} {h':Heap} {t':Nat} (J:Inv X pl σ H s) (hf:FpOk X [] H it) (hsub:∀ p∈pl',p∈pl∧p.1≠it) (k:∀ b o,b≠it→s.heap.get? b=some o→h'.get? b=some o) (ho':h'.get? it=some o') (hnc:∀ v,o'.data≠.cell v) :
    Inv X (pl' ++ [(it,o')]) σ H { s with heap:=h',toks:=t' }:=by
  obtain ⟨f0,f1,f2,f3,f4,f5⟩:=hf
  have J1:Inv X pl' σ H s:=J.pins_of fun p hp=>J.pin p (List.mem_append_right _ (hsub p hp).1)
  have J2:Inv X pl' σ H { s with heap:=h',toks:=t' }:=J1.turned k f0 f1 f3 f4 fun p hp=>by
    rcases List.mem_append.mp hp with z | z
    · exact f5 p (List.mem_append_left _ z)
    · exact (hsub p z).2
  refine J2.pins_of fun p hp=>?_
  rcases List.mem_append.mp hp with z | z
  · exact J2.pin p (List.mem_append_right _ z)
  · have:p=(it,o'):=by simpa using z
    subst this
    exact ⟨ho',f0,f1,f2,hnc⟩
theorem Inv.sub {pl pl':List (Addr × Obj)} (J:Inv X pl σ H s) (h:∀ p∈pl',p∈pl):Inv X pl' σ H s:=J.pins_of fun p hp=>J.pin p (List.mem_append_right _ (h p hp))
theorem max_key_args (a v:Value):argsOk "max" ⟨[a],[(Str.ofString "key",v)]⟩:=by unfold argsOk; kernel_rfl
variable {ns:List Int} {l q it S:Addr} {R:Result→Shared→Prop}
theorem max_loop (kf:Int→Int) (hc:X.calm=true) (hq:SqL X.K H l (ns.map V.int)) (fI:FpOk X [] H it) (fS:FpOk X [] H S) (hSI:S≠it) (hlI:l≠it) (nI:∀ p∈pins,p.1≠it) (nS:∀ p∈pins,p.1≠S)
    (turn:∀ z∈ns,∀ (t:Tok) (pl:List (Addr × Obj)) (s:Shared),(∀ p∈pins,p∈pl)→Inv X pl σ H s→wpAny (model X.prog X.w) X.A.in1 (call (.ref q) [.int z t]) (EP X pl σ fun y H'=>y=.int (kf z)∧H'=H) (fun _ _=>False) s)
    (hR:∀ z t s',z∈ns→(∀ z'∈ns,kf z'≤kf z)→Inv X pins σ H s'→R (.ok (.ret (.int z t))) s') :
    ∀ (r j:Nat) (s:Shared) (zb:Int) (tb kt:Tok) (c:Nat) (oI:Obj),ns.length - (j + 1)=r→j + 1≤ns.length→Inv X (pins ++ [(S,seqObj "list" #[.int zb tb,.int (kf zb) kt] c),(it,oI)]) σ H s→s.heap.IsListIter it l (j + 1)→zb∈ns→(∀ i z,i≤j→ns[i]? = some z→kf z≤kf zb) →
      codeAny (model X.prog X.w) X.A (.builtin "max.loop" ⟨[.ref it,.ref q,.ref S],[]⟩) R s:=by
  have hname:(toString "max" ++ toString ".loop" : String)="max.loop" := by decide
  intro r
  induction r with
  | zero =>
    intro j s zb tb kt c oI hr hj J hit hzb hbest
    have hin:j + 1=ns.length:=by omega
    obtain ⟨its,rv,pl,hz⟩:=J.list hq
    have hl:its.length=ns.length:=by have:=rv.length; simpa using this.symm
    have W:=Walks.list (prog:=X.prog) (w:=X.w) (A:=X.A.in1) (J.ok.hd hc) it l hlI its.toArray
    have pS:=J.pin (S,seqObj "list" #[.int zb tb,.int (kf zb) kt] c) (by simp)
    refine codeAny_builtin PySem.F.entry_max_loop ?_
    rw [Around.under_plainId PySem.F.plain_max_loop _]
    show wpAny _ X.A.in1 (seqItems? (.ref S) >>= _) _ _ _
    refine wpAny_bind (wpAny_seqItems pS.1 rfl ?_)
    show wpAny _ X.A.in1 (tryCatch (pyNext (.ref it)) _ >>= _) _ _ _
    refine wpAny_bind (wpAny_tryCatch (W.done _ _ _ ⟨by rw [List.size_toArray,hl,← hin]; exact hit,pl.isList⟩ fun h' tk' hk'=>?_))
    have J1:Inv X (pins ++ [(S,seqObj "list" #[.int zb tb,.int (kf zb) kt] c)]) σ H { s with heap:=h',toks:=tk' }:=(J.sub (pl':=pins ++ [(S,seqObj "list" #[.int zb tb,.int (kf zb) kt] c)]) (fun p hp=>by
      rcases List.mem_append.mp hp with z | z
      · simp [z]
      · have:p=(S,seqObj "list" #[.int zb tb,.int (kf zb) kt] c):=by simpa using z
        simp [this])).turned (fun b o hb e=>hk' b o (by simpa using hb) e) fI.1 fI.2.1 fI.2.2.2.1 fI.2.2.2.2.1 fun p hp=>by
      rcases List.mem_append.mp hp with z | z
      · exact fI.2.2.2.2.2 p (List.mem_append_left _ z)
      · rcases List.mem_append.mp z with z | z
        · exact nI p z
        · have:p=(S,seqObj "list" #[.int zb tb,.int (kf zb) kt] c):=by simpa using z
          rw [this]; exact hSI
    have pS1:=J1.pin (S,seqObj "list" #[.int zb tb,.int (kf zb) kt] c) (by simp)
    show wpAny _ X.A.in1 (updateSeq S (fun _ => #[]) >>= _) _ _ _
    refine wpAny_bind ?_
    refine wpAny_updateSeq pS1.1 rfl (wpAny_bind (wpAny_letGo (wpAny_pure ?_)))
    have s1:=Heap.SameBut.update h' S (Obj.mapSeq fun _=>(#[]:Array Value))
    refine hR zb tb _ hzb (fun z' hz'=>?_) ((J1.sub fun p hp=>List.mem_append_left _ hp).turned (t':=tk') (fun b o hb e=>(s1.2 b hb).trans e) fS.1 fS.2.1 fS.2.2.2.1 fS.2.2.2.2.1 fun p hp=>?_)
    · obtain ⟨i,hi,rfl⟩:=List.mem_iff_getElem.mp hz'
      exact hbest i _ (by omega) (by simp [hi])
    · rcases List.mem_append.mp hp with z | z
      · exact fS.2.2.2.2.2 p (List.mem_append_left _ z)
      · exact nS p z
  | succ r ih =>
    intro j s zb tb kt c oI hr hj J hit hzb hbest
    have hlt:j + 1 < ns.length:=by omega
    obtain ⟨its,rv,pl,hz⟩:=J.list hq
    have hl:its.length=ns.length:=by have:=rv.length; simpa using this.symm
    have W:=Walks.list (prog:=X.prog) (w:=X.w) (A:=X.A.in1) (J.ok.hd hc) it l hlI its.toArray
    have pS:=J.pin (S,seqObj "list" #[.int zb tb,.int (kf zb) kt] c) (by simp)
    refine codeAny_builtin PySem.F.entry_max_loop ?_
    rw [Around.under_plainId PySem.F.plain_max_loop _]
    show wpAny _ X.A.in1 (seqItems? (.ref S) >>= _) _ _ _
    refine wpAny_bind (wpAny_seqItems pS.1 rfl ?_)
    show wpAny _ X.A.in1 (tryCatch (pyNext (.ref it)) _ >>= _) _ _ _
    refine wpAny_bind (wpAny_tryCatch (W.item (j + 1) _ _ _ (by rw [List.size_toArray,hl]; exact hlt) ⟨hit,pl.isList⟩ fun v h' tk' hP hst' hk'=>?_))
    have hv:its[j + 1]? = some v:=by simpa using hP
    obtain ⟨u,hu,t,hut⟩:=rv.get (i:=j + 1) (x:=.int ns[j + 1]) (by simp [hlt])
    rw [hv] at hu
    cases hu
    subst hut
    obtain ⟨oI',hoI',hoc,hod⟩:=id hst'.1
    have J1:Inv X (pins ++ [(S,seqObj "list" #[.int zb tb,.int (kf zb) kt] c)] ++ [(it,oI')]) σ H { s with heap:=h',toks:=tk' }:=J.turn1 fI (fun p hp=>by
      rcases List.mem_append.mp hp with z | z
      · exact ⟨by simp [z],nI p z⟩
      · have:p=(S,seqObj "list" #[.int zb tb,.int (kf zb) kt] c):=by simpa using z
        rw [this]
        exact ⟨by simp,hSI⟩) (fun b o hb e=>hk' b o (by simpa using hb) e) hoI' (fun w z=>by rw [hod] at z; cases z)
    have hzj:ns[j + 1]∈ns:=List.getElem_mem hlt
    show wpAny _ X.A.in1 (tryCatch (holding [Value.int ns[j + 1] t] (call (.ref q) [Value.int ns[j + 1] t])) _ >>= _) _ _ _
    refine wpAny_bind (wpAny_tryCatch (wpAny_holding (wpAny_mono (turn _ hzj t _ _ (fun p hp=>by simp [hp]) J1) (fun x s'' he=>?_) fun _ _ hF=>hF.elim)))
    obtain ⟨y,H',J2,ry,rfl,rfl⟩:=he
    obtain ⟨t2,rfl⟩:=ry
    have pS2:=J2.pin (S,seqObj "list" #[.int zb tb,.int (kf zb) kt] c) (by simp)
    have pI2:=J2.pin (it,oI') (by simp)
    have hit2:s''.heap.IsListIter it l (j + 1 + 1):=⟨oI',pI2.1,hoc,hod⟩
    show wpAny _ X.A.in1 (tryCatch (holding [Value.int ns[j + 1] t,.int (kf ns[j + 1]) t2] (richCompare .Gt (.int (kf ns[j + 1]) t2) (.int (kf zb) kt) >>= _)) _ >>= _) _ _ _
    refine wpAny_bind (wpAny_tryCatch (wpAny_holding (wpAny_bind (CmpOf.ints_gt (prog:=X.prog) (w:=X.w) (A:=X.A.in1) (P:=fun i v => ∃ t,v=.int (if i=0 then kf ns[j + 1] else kf zb) t) (fun i=>if i=0 then kf ns[j + 1] else kf zb) (fun i v h=>h) 0 1 _ _ _ _ _ ⟨t2,rfl⟩ ⟨kt,rfl⟩ ?_))))
    refine wpAny_bind (wpAny_holding (wpAny_truthy_bool ?_))
    refine wpAny_bind (wpAny_letGo (wpAny_pure ?_))
    show wpAny _ X.A.in1 (if decide (kf ns[j + 1] > kf zb)=true then _ else _) _ _ _
    by_cases hb':kf ns[j + 1] > kf zb
    · have s1:=Heap.SameBut.update s''.heap S (Obj.mapSeq fun _ => #[.int ns[j + 1] t,.int (kf ns[j + 1]) t2])
      obtain ⟨c2,hc2⟩:∃ c2,(s''.heap.update S (Obj.mapSeq fun _ => #[.int ns[j + 1] t,.int (kf ns[j + 1]) t2])).get? S=some (seqObj "list" #[.int ns[j + 1] t,.int (kf ns[j + 1]) t2] c2):=⟨_,get?_update_seq pS2.1 fun _ => #[.int ns[j + 1] t,.int (kf ns[j + 1]) t2]⟩
      rw [decide_eq_true hb',if_pos rfl]
      refine wpAny_bind ?_
      refine wpAny_updateSeq pS2.1 rfl (wpAny_bind (wpAny_letGo ?_))
      rw [hname]
      have J3:=J2.turn1 (t':=s''.toks) (pl':=pins ++ [(it,oI')]) fS (fun p hp=>by
        rcases List.mem_append.mp hp with z | z
        · exact ⟨by simp [z],nS p z⟩
        · have:p=(it,oI'):=by simpa using z
          rw [this]
          exact ⟨by simp,hSI.symm⟩) (fun b o hb e=>(s1.2 b hb).trans e) hc2 (fun w z=>by cases z)
      refine wpAny_pure ⟨plainId_quiet PySem.F.plain_max_loop _,ih (j + 1) _ _ t t2 c2 oI' (by omega) hlt (J3.sub fun p hp=>by
        simp only [List.mem_append,List.mem_cons,List.not_mem_nil,or_false] at hp ⊢
        rcases hp with h | h | h <;> simp [h]) ⟨oI',(s1.2 it hSI.symm).trans pI2.1,hoc,hod⟩ hzj fun i z hi hz=>?_⟩
      by_cases e:i=j + 1
      · subst e
        have:z=ns[j + 1]:=by simpa [hlt] using hz.symm
        rw [this]
        exact Int.le_refl _
      · have:=hbest i z (by omega) hz
        omega
    · rw [decide_eq_false hb',if_neg Bool.false_ne_true]
      refine wpAny_bind (wpAny_letGo ?_)
      rw [hname]
      refine wpAny_pure ⟨plainId_quiet PySem.F.plain_max_loop _,ih (j + 1) _ zb tb kt c oI' (by omega) hlt (J2.sub fun p hp=>by
        simp only [List.mem_append,List.mem_cons,List.not_mem_nil,or_false] at hp ⊢
        rcases hp with h | h | h <;> simp [h]) hit2 hzb fun i z hi hz=>?_⟩
      by_cases e:i=j + 1
      · subst e
        have:z=ns[j + 1]:=by simpa [hlt] using hz.symm
        rw [this]
        omega
      · exact hbest i z (by omega) hz
theorem max_key {Q:Value→Shared→Prop} {E:Value→Shared→Prop} (kf:Int→Int) (hc:X.calm=true) (J:Inv X pins σ H s) (hq:SqL X.K H l (ns.map V.int)) (hne:0 < ns.length)
    (turn:∀ z∈ns,∀ (t:Tok) (pl:List (Addr × Obj)) (s:Shared),(∀ p∈pins,p∈pl)→Inv X pl σ H s→wpAny (model X.prog X.w) X.A.in1 (call (.ref q) [.int z t]) (EP X pl σ fun y H'=>y=.int (kf z)∧H'=H) (fun _ _=>False) s)
    (hQ:∀ z t s',z∈ns→(∀ z'∈ns,kf z'≤kf z)→Inv X pins σ H s'→Q (.int z t) s') :
    wpAny (model X.prog X.w) X.A (call (.builtin "max") [.ref l] [(Str.ofString "key",.ref q)]) Q E s:=by
  have hname:(toString "max" ++ toString ".loop" : String)="max.loop" := by decide
  obtain ⟨its,rv,pl,hz⟩:=J.list hq
  have hl:its.length=ns.length:=by have:=rv.length; simpa using this.symm
  have hll:l < s.heap.objs.size:=by
    obtain ⟨o,n,e,_⟩:=pl
    exact Heap.lt_size e
  refine kmk_tree PySem.F.kind_max PySem.F.plain_max PySem.F.entry_max (max_key_args _ _) ?_
  show wpAny _ X.A.in1 (Builtin.Builtins.bindParams "max" ["key","default"] 0 ⟨[],[(Str.ofString "key",.ref q)]⟩ >>= _) _ _ s
  refine wpAny_bind (wpAny_of_eq (show Builtin.Builtins.bindParams "max" ["key","default"] 0 ⟨[],[(Str.ofString "key",.ref q)]⟩=pure [some (.ref q),none] from rfl) ?_)
  refine wpAny_bind (wpAny_pure ?_)
  refine wpAny_bind (wpAny_pyIter_list pl.isList ?_)
  refine wpAny_bind (wpAny_newList ?_ (Nat.zero_le _))
  rw [hname]
  have hS:(s.heap.push { cls:=.type "list_iterator",data:=.fields #[.ref l,.int 0 0] }).objs.size=s.heap.objs.size + 1:=size_push' ..
  have hlI:l≠s.heap.objs.size:=Nat.ne_of_lt hll
  have gI:((s.heap.push { cls:=.type "list_iterator",data:=.fields #[.ref l,.int 0 0] }).push (seqObj "list" #[] 0)).get? s.heap.objs.size=some { cls:=.type "list_iterator",data:=.fields #[.ref l,.int 0 0] } :=
    Heap.get?_push_of_some _ (Heap.get?_push_size _ rfl)
  have gS:((s.heap.push { cls:=.type "list_iterator",data:=.fields #[.ref l,.int 0 0] }).push (seqObj "list" #[] 0)).get? (s.heap.push { cls:=.type "list_iterator",data:=.fields #[.ref l,.int 0 0] }).objs.size=some (seqObj "list" #[] 0):=Heap.get?_push_size _ rfl
  have J0:Inv X pins σ H { s with heap:=(s.heap.push { cls:=.type "list_iterator",data:=.fields #[.ref l,.int 0 0] }).push (seqObj "list" #[] 0),toks:=s.toks }:=J.kept fun b o e=>Heap.get?_push_of_some _ (Heap.get?_push_of_some _ e)
  have hk0:∀ b o,s.heap.get? b=some o→((s.heap.push { cls:=.type "list_iterator",data:=.fields #[.ref l,.int 0 0] }).push (seqObj "list" #[] 0)).get? b=some o:=fun b o e=>Heap.get?_push_of_some _ (Heap.get?_push_of_some _ e)
  have fI:=J.fpOk (H':=H) (b:=s.heap.objs.size) (Nat.le_refl _) J.fresh
  have fS:=J.fpOk (H':=H) (b:=s.heap.objs.size + 1) (Nat.le_succ _) (J.hok.fresh (Nat.le_succ _))
  rw [hS] at gS ⊢
  have fI':FpOk X [] H s.heap.objs.size:=⟨fI.1,fI.2.1,fI.2.2.1,fI.2.2.2.1,fI.2.2.2.2.1,fun p hp=>fI.2.2.2.2.2 p (by rcases List.mem_append.mp hp with z | z <;> first | exact List.mem_append_left _ z | cases z)⟩
  have fS':FpOk X [] H (s.heap.objs.size + 1):=⟨fS.1,fS.2.1,fS.2.2.1,fS.2.2.2.1,fS.2.2.2.2.1,fun p hp=>fS.2.2.2.2.2 p (by rcases List.mem_append.mp hp with z | z <;> first | exact List.mem_append_left _ z | cases z)⟩
  have nI:∀ p∈pins,p.1≠s.heap.objs.size:=fun p hp=>fI.2.2.2.2.2 p (List.mem_append_right _ hp)
  have nS:∀ p∈pins,p.1≠s.heap.objs.size + 1:=fun p hp=>fS.2.2.2.2.2 p (List.mem_append_right _ hp)
  have hSI:s.heap.objs.size + 1≠s.heap.objs.size:=Nat.succ_ne_self _
  generalize (s.heap.push { cls:=.type "list_iterator",data:=.fields #[.ref l,.int 0 0] }).push (seqObj "list" #[] 0)=h0 at *
  generalize s.heap.objs.size=it at *
  generalize it + 1=S at *
  refine wpAny_pure ⟨plainId_quiet PySem.F.plain_max_loop _,?_⟩
  have pl0:h0.IsList l its.toArray:=pl.isList.at fun o e=>hk0 _ _ e
  have W:=Walks.list (prog:=X.prog) (w:=X.w) (A:=X.A.in1) (J.ok.hd hc) it l hlI its.toArray
  refine codeAny_builtin PySem.F.entry_max_loop ?_
  rw [Around.under_plainId PySem.F.plain_max_loop _]
  show wpAny _ X.A.in1 (seqItems? (.ref _) >>= _) _ _ _
  refine wpAny_bind (wpAny_seqItems gS rfl ?_)
  show wpAny _ X.A.in1 (tryCatch (pyNext (.ref it)) _ >>= _) _ _ _
  refine wpAny_bind (wpAny_tryCatch (W.item 0 _ _ _ (by rw [List.size_toArray,hl]; exact hne) ⟨⟨_,gI,rfl,rfl⟩,pl0⟩ fun v h' tk' hP hst' hk'=>?_))
  have hv:its[0]? = some v:=by simpa using hP
  obtain ⟨u,hu,t,hut⟩:=rv.get (i:=0) (x:=.int ns[0]) (by simp [hne])
  rw [hv] at hu
  cases hu
  subst hut
  have hz0:ns[0]∈ns:=List.getElem_mem hne
  obtain ⟨oI',hoI',hoc,hod⟩:=id hst'.1
  have J1:Inv X (pins ++ [(it,oI')]) σ H { s with heap:=h',toks:=tk' }:=J0.turn1 fI' (fun p hp=>⟨hp,nI p hp⟩) (fun b o hb e=>hk' b o (by simpa using hb) e) hoI' (fun w z=>by rw [hod] at z; cases z)
  have J1':Inv X (pins ++ [(S,seqObj "list" #[] 0),(it,oI')]) σ H { s with heap:=h',toks:=tk' }:=J1.pins_of fun p hp=>by
    simp only [List.mem_append,List.mem_cons,List.not_mem_nil,or_false] at hp
    rcases hp with z | z | z
    · exact J1.pin p (by simp [z])
    · subst z
      exact ⟨hk' _ _ (by simpa using hSI) gS,fS'.1,fS'.2.1,fS'.2.2.1,fun v z=>by cases z⟩
    · exact J1.pin p (by simp [z])
  show wpAny _ X.A.in1 (tryCatch (holding [Value.int ns[0] t] (call (.ref q) [Value.int ns[0] t])) _ >>= _) _ _ _
  refine wpAny_bind (wpAny_tryCatch (wpAny_holding (wpAny_mono (turn _ hz0 t _ _ (fun p hp=>by simp [hp]) J1') (fun x s'' he=>?_) fun _ _ hF=>hF.elim)))
  obtain ⟨y,H',J2,ry,rfl,rfl⟩:=he
  obtain ⟨t2,rfl⟩:=ry
  have pS2:=J2.pin (S,seqObj "list" #[] 0) (by simp)
  have pI2:=J2.pin (it,oI') (by simp)
  have s1:=Heap.SameBut.update s''.heap S (Obj.mapSeq fun _ => #[.int ns[0] t,.int (kf ns[0]) t2])
  obtain ⟨c2,hc2⟩:∃ c2,(s''.heap.update S (Obj.mapSeq fun _ => #[.int ns[0] t,.int (kf ns[0]) t2])).get? S=some (seqObj "list" #[.int ns[0] t,.int (kf ns[0]) t2] c2):=⟨_,get?_update_seq pS2.1 fun _ => #[.int ns[0] t,.int (kf ns[0]) t2]⟩
  show wpAny _ X.A.in1 (updateSeq S (fun _ => #[.int ns[0] t,.int (kf ns[0]) t2]) >>= _) _ _ _
  refine wpAny_bind ?_
  refine wpAny_updateSeq pS2.1 rfl ?_
  rw [hname]
  have J3:=J2.turn1 (t':=s''.toks) (pl':=pins ++ [(it,oI')]) fS' (fun p hp=>by
    rcases List.mem_append.mp hp with z | z
    · exact ⟨by simp [z],nS p z⟩
    · have:p=(it,oI'):=by simpa using z
      rw [this]
      exact ⟨by simp,hSI.symm⟩) (fun b o hb e=>(s1.2 b hb).trans e) hc2 (fun w z=>by cases z)
  refine wpAny_pure ⟨plainId_quiet PySem.F.plain_max_loop _,max_loop kf hc hq fI' fS' hSI hlI nI nS turn hQ _ 0 _ _ t t2 c2 oI' rfl hne (J3.sub fun p hp=>by
    simp only [List.mem_append,List.mem_cons,List.not_mem_nil,or_false] at hp ⊢
    rcases hp with h | h | h <;> simp [h]) ⟨oI',(s1.2 it hSI.symm).trans pI2.1,hoc,hod⟩ hz0 fun i z hi hz=>?_⟩
  have:i=0:=by omega
  subst this
  have:z=ns[0]:=by simpa [hne] using hz.symm
  rw [this]
  exact Int.le_refl _
end
def isTbl:HO→Bool
  | .tbl _=>true
  | _=>false
structure SameB (H H':Hp):Prop where
  to:∀ b o,H b=some o→isTbl o=false→H' b=some o
  th:∀ b,H' b=none→H b=none
theorem SameB.refl (H:Hp):SameB H H:=⟨fun _ _ h _=>h,fun _ h=>h⟩
theorem SameB.trans {H H1 H2:Hp} (a:SameB H H1) (b:SameB H1 H2):SameB H H2:=⟨fun c o h z=>b.to c o (a.to c o h z) z,fun c h=>a.th c (b.th c h)⟩
theorem Same.b {H H':Hp} (a:Same H H'):SameB H H':=⟨fun c o h _=>a c o h,fun c h=>a.free h⟩
def LamAt (H:Hp) (P:Addr) (pos:Pos) (qual:Str):Prop :=
  H P=some (.tbl #[])∨∃ c' oc vs t,H P=some (.tbl #[rawInt pos.line,rawInt pos.col,.ref c'])∧H c'=some (.frz oc (.own 0))∧oc.data=.fields vs∧vs[1]? = some (.str qual t)
theorem LamAt.same {H H':Hp} {P:Addr} {pos:Pos} {qual:Str} (h:LamAt H P pos qual) (s:Same H H'):LamAt H' P pos qual:=by
  rcases h with h | ⟨c',oc,vs,t,h1,h2,h3⟩
  · exact .inl (s _ _ h)
  · exact .inr ⟨c',oc,vs,t,s _ _ h1,s _ _ h2,h3⟩
section
variable {X:Cx} {pins:List (Addr × Obj)} {σ:St} {H:Hp} {s:Shared} {c P:Addr} {scope:Scope} {params:Arguments} {body:Expr} {lpos:Pos}
theorem SameB.seq {K:PySem.W.Frag} {H H':Hp} {a:Addr} {xs:List V} (e:SameB H H') (h:SqL K H a xs):SqL K H' a xs:=by
  rcases h with (h | ⟨o,h⟩) | h
  · exact .inl (.inl (e.to _ _ h rfl))
  · exact .inl (.inr ⟨o,e.to _ _ h rfl⟩)
  · exact .inr h
end
end L2
namespace L2
open PySem PySem.Spec PyProof.Rows
structure SrcL (K:PySem.W.Frag) (mg:Str→Option Value) (x qual:Str) (st:Stmt) (c P:Addr):Prop where
  ex:∃ (f:Addr) (oc:Value) (od:Option Addr) (kV doc pm:Value) (an:Option Addr) (ct:Value) (osl:Array (Option Value)),K.lookup f=some ⟨oc,od,.func (PySem.W.fnOf x qual (defArgs st) (defBody st) (defScope st) .none kV doc pm an (.ref c) ct),osl⟩∧PySem.W.codeIn K (.ref c) qual=true∧PySem.W.keepIn K (.ref f)=true∧mg x=some (.ref f)
  hd:PySem.W.codeHdIn K c P=true
theorem srcL_mk {K:PySem.W.Frag} {h:Heap} {mg:Str→Option Value} {x qual:Str} {st:Stmt} {f c P:Addr} {oc:Value} {od an:Option Addr} {osl:Array (Option Value)} {kV doc pm ct:Value} (X:K.In h) (G:h.Ns mainGlobals mg)
    (a:PySem.W.nsIn K mainGlobals x=some (some (.ref f))) (l:K.lookup f=some ⟨oc,od,.func (PySem.W.fnOf x qual (defArgs st) (defBody st) (defScope st) .none kV doc pm an (.ref c) ct),osl⟩)
    (hc:PySem.W.codeIn K (.ref c) qual=true) (k:PySem.W.keepIn K (.ref f)=true) (hd:PySem.W.codeHdIn K c P=true):SrcL K mg x qual st c P:=⟨⟨f,oc,od,kV,doc,pm,an,ct,osl,l,hc,k,PySem.W.mg_of X G a⟩,hd⟩
section
variable {P:Program} {w:World} {K:PySem.W.Frag} {mg:Str→Option Value} {base:Heap}
theorem SrcL.mkL {x qual:Str} {st:Stmt} {N ps:List Str} {k:Nat} {sp:Sp} {c PT:Addr} (S:SrcL K mg x qual st c PT) (Sc:FnScope N ps (defScope st)) (len:∀ vs H Q E,sp vs H Q E→vs.length=ps.length)
    (hb:∀ (kV doc pm:Value) (an:Option Addr) (cdv ct:Value) (us:List Value),us.length=ps.length→bindArgs (PySem.W.fnOf x qual (defArgs st) (defBody st) (defScope st) .none kV doc pm an cdv ct) ⟨us,[]⟩=pure (ps.zip us))
    (hbody:∀ (f:Addr) (A:Around) (outer:List Env) (s:Shared) (H:Hp) (vs:List V) (Q:VK) (E:XK),Room k (A.deeper (envOfC qual (defScope st) s.heap.objs.size f (.ref c)))→sp vs H Q E →
      ∃ t,PSs (cxOf CX0 P w K mg base N qual (defScope st) f (.ref c) A outer s H E).nox (defBody st) t∧t { nx:=fun _ H'=>Q .non H',rt:=Q } (start N vs) H):Def P w K mg base (k + 1) x ps sp:=by
  obtain ⟨f,oc,od,kV,doc,pm,an,ct,osl,lk,hcd,kp,hm⟩:=S.ex
  refine ⟨f,_,hm,kp,.all (hb kV doc pm an (.ref c) ct),fn_of lk hcd Sc len fun A outer s H vs Q E hr hsp=>?_,oc,od,osl,lk⟩
  obtain ⟨t,h,q⟩:=hbody f A outer s H vs Q E hr hsp
  exact ⟨t,h.nox,q⟩
theorem law_fdT {x p:Str} {st:Stmt} {k:Nat} {sp:Sp} {fa:Addr} {ts:List Addr} (S:Src K mg x x st)
    (hb:∀ (kV doc pm:Value) (an:Option Addr) (cdv ct:Value) (u:Value),bindArgs (PySem.W.fnOf x x (defArgs st) (defBody st) (defScope st) .none kV doc pm an cdv ct) ⟨[u],[]⟩=pure [(p,u)])
    (h:∀ base:Heap,(∀ PT∈ts,base.BuiltinsAt mg PT)→Def P w K mg base k x [p] sp) (hfa:mg x=some (.ref fa)) :
    ∃ fd:FuncData,(∀ (s:Shared) (u:Value),BindsTo s fd ⟨[u],[]⟩ [(p,u)])∧∀ base:Heap,K.In base→base.Ns mainGlobals mg→(∀ PT∈ts,base.BuiltinsAt mg PT)→FnOk P w K mg base CX0 k fa fd [p] sp:=by
  obtain ⟨f,fd,F,hm⟩:=S.ex
  rw [hm] at hfa
  cases hfa
  obtain ⟨oc,od,kV,doc,pm,an,cdv,ct,osl,e,lk,hcd⟩:=F.ex
  refine ⟨fd,fun s u=>by subst e; exact .of_eq (hb kV doc pm an cdv ct u),fun base _ _ hB=>?_⟩
  obtain ⟨f',fd',hm',_,_,G,oc',od',osl',lk'⟩:=(h base hB).ex
  rw [hm] at hm'
  cases hm'
  rw [lk] at lk'
  cases lk'
  exact G
end
theorem law_callT {P:Program} {w:World} {K:PySem.W.Frag} {mg mb:Str→Option Value} {k:Nat} {fa a:Addr} {fd:FuncData} {x:Str} {sp:Sp} {s₁:Shared} {vs:List Value} {ns:List Int} {ts:List Addr}
    (KX:K.In s₁.heap) (hns:s₁.heap.Ns mainGlobals mg) (hb:s₁.heap.Ns builtinsNs mb) (hbb:∀ x:Str,x≠"__name__"→mb x=bootBuiltins x) (hlim:s₁.heap.NoLimit) (hg:s₁.gens=#[])
    (ht:∀ PT∈ts,s₁.heap.get? PT=some (PySem.W.tabObj #[])) (hcd:∀ PT∈ts,∃ c,PySem.W.codeHdIn K c PT=true) (hnt:PySem.W.noTabs K=true) (hbm:∃ bm ob,mg "__builtins__" = some (.ref bm)∧bm≠builtinsNs∧s₁.heap.get? bm=some ob∧ob.cls=.type "module"∧ob.dict=some builtinsNs∧ob.data=.plain)
    (ha:s₁.heap.get? a=some { cls:=.type "list",data:=.seq vs.toArray }) (hi:IntsAre vs ns) (hl:ns.length≤sizeLine) (hr:Room k callerA)
    (F:∀ base:Heap,K.In base→base.Ns mainGlobals mg→(∀ PT∈ts,base.BuiltinsAt mg PT)→FnOk P w K mg base CX0 k fa fd [x] sp) (hbind:∀ (s:Shared) (u:Value),BindsTo s fd ⟨[u],[]⟩ [(x,u)])
    (hsp:∀ H:Hp,(∀ PT∈ts,H PT=some (.tbl #[]))→SqL K H a (ns.map V.int)→sp [.ref a] H (fun v _=>v=.bl true) fun _ _ _=>False) :
    codeAny (model P w) callerA (.call (.ref fa) ⟨[.ref a],[]⟩) (fun r s'=>r=.ok (.ret (.bool true))∧OldK s₁.heap s'.heap∧s'.os=s₁.os∧AllBare s'.gens) s₁:=by
  have rv:=vals_ints hi
  have lenV:=hi.length
  have naT:a ∉ ts:=fun z=>by
    have:=ht a z
    rw [ha] at this
    cases this
  have nKT:∀ PT∈ts,K.lookup PT=none:=fun PT hP=>by
    cases q:K.lookup PT with
    | none=>rfl
    | some o =>
      have e:=KX PT o q
      rw [ht PT hP] at e
      cases e
      have h2:=List.all_eq_true.mp hnt (PT,_) (PySem.W.mem_of_lookupK q)
      exact absurd (show false=true from h2) Bool.false_ne_true
  have core:∀ H:Hp,(∀ b,H b=none∨(b∈ts∧H b=some (.tbl #[]))∨∃ o xs,H b=some (.frz o (.lst xs)))→(∀ PT∈ts,H PT=some (.tbl #[]))→SqL K H a (ns.map V.int)→HOk P w H s₁.heap→(∀ b,H b≠none→b=a∨b∈ts)→(H a≠none→K.lookup a=none) →
      codeAny (model P w) callerA (.call (.ref fa) ⟨[.ref a],[]⟩) (fun r s'=>r=.ok (.ret (.bool true))∧OldK s₁.heap s'.heap∧s'.os=s₁.os∧AllBare s'.gens) s₁:=by
    intro H hO hTs hS hok hA hK
    have base_of:∀ {b:Addr} {o:Obj},s₁.heap.get? b=some o→H b=none→(hidT s₁.heap H).get? b=some o:=fun e n=>hidT_get e n
    have noA:∀ {b:Addr} {o:Obj},s₁.heap.get? b=some o→o≠{ cls:=.type "list",data:=.seq vs.toArray }→o≠PySem.W.tabObj #[]→H b=none:=fun {b o} e d1 d2=>by
      cases q:H b with
      | none=>rfl
      | some u =>
        rcases hA b (by rw [q]; simp) with z | z
        · subst z
          rw [ha] at e; cases e
          exact absurd rfl d1
        · rw [ht b z] at e; cases e
          exact absurd rfl d2
    have nsK:∀ {b:Addr} {m:Str→Option Value},s₁.heap.Ns b m→(hidT s₁.heap H).Ns b m:=fun {b m} ⟨o,es,ep,e,d,r⟩=>⟨o,es,ep,base_of e (noA e (fun z=>by rw [z] at d; cases d) fun z=>by rw [z] at d; cases d),d,r⟩
    have hKb:K.In (hidT s₁.heap H):=fun b o e=>base_of (KX b o e) (by
      cases q:H b with
      | none=>rfl
      | some u =>
        rcases hA b (by rw [q]; simp) with z | z
        · subst z
          rw [hK (by rw [q]; simp)] at e; cases e
        · rw [nKT b z] at e; cases e)
    have hM:Mod K mg (hidT s₁.heap H):=⟨hKb,nsK hns,⟨mb,nsK hb,hbb⟩,let ⟨mc,h1,h2⟩:=hlim; ⟨mc,nsK h1,h2⟩⟩
    have hBA:∀ PT∈ts,(hidT s₁.heap H).BuiltinsAt mg PT:=fun PT hP=>by
      obtain ⟨bm,ob,b1,b2,b3,b4,b5,b6⟩:=hbm
      refine ⟨bm,ob,b1,b2,fun z=>?_,fun z=>?_,base_of b3 (noA b3 (fun z=>by rw [z] at b6; cases b6) fun z=>by rw [z] at b4; cases b4),b4,b5,b6⟩
      · obtain ⟨o,es,ep,e,d,_⟩:=hns
        rw [← z,b3] at e
        cases e
        rw [b6] at d
        cases d
      · rw [z,ht PT hP] at b3
        cases b3
        cases b4
    have e0:Env0 P w K mg (hidT s₁.heap H) callerA [] s₁ H:=⟨rfl,hM,fun b o e=>of_hidT e,Nat.le_of_eq (hidT_size _ _),trivial,fun b hb=>absurd (show b∈([]:List Addr) from hb) (by simp),hok,.of_eq hg⟩
    refine codeAny_mono ((F _ hKb (nsK hns) hBA).run callerA [] s₁ H ⟨[.ref a],[]⟩ [.ref a] [.ref a] _ _ hr e0 (hbind s₁ (.ref a)) (.cons rfl .nil) (hsp H hTs hS)) fun r s' h=>?_
    cases r with
    | error e=>exact h.elim
    | ok fl =>
      cases fl with
      | next=>exact False.elim h
      | brk=>exact False.elim h
      | cont=>exact False.elim h
      | ret u =>
        obtain ⟨v,H',os,bare,un,hok',r',q⟩:=h
        have q':v=.bl true:=q
        subst q'
        obtain rfl:u=Value.bool true:=r'
        refine ⟨rfl,⟨fun b o e=>?_,fun b o e=>?_⟩,os,bare⟩
        · rcases hO b with z | ⟨zt,z⟩ | ⟨ob,xs,z⟩
          · exact .inl (un.keep b o e z (by intro z; exact absurd (show b∈([]:List Addr) from z) (by simp)) (by simp))
          · obtain ⟨more,z2⟩:=un.tbls b _ z
            have e2:=hok' b _ z2
            rw [ht b zt] at e
            cases e
            obtain ⟨c,hc⟩:=hcd b zt
            exact .inr (.inl ⟨((PySem.W.codeHd_of_K KX hc).tab (ht b zt)).isCodeTable,rfl,#[],more,rfl,e2⟩)
          · have z2:=un.frzs b ob _ z
            obtain ⟨e1,_⟩:=hok b _ z
            obtain ⟨e2,_⟩:=hok' b _ z2
            rw [e] at e1; cases e1
            exact .inl e2
        · exact un.there b o e (by simp)
  cases hk:K.lookup a with
  | some o =>
    have e:=KX a o hk
    rw [ha] at e
    cases e
    refine core (fun b=>if b∈ts then some (.tbl #[]) else none) (fun b=>?_) (fun PT hP=>if_pos hP) (.inr ⟨_,vs.toArray,_,hk,rfl,rfl,rfl,by rw [List.size_toArray,lenV]; exact hl,by simpa using rv⟩) (fun b u z=>?_) (fun b z=>?_) fun z=>absurd (if_neg naT) z
    · by_cases hb':b∈ts
      · exact .inr (.inl ⟨hb',if_pos hb'⟩)
      · exact .inl (if_neg hb')
    · by_cases hb':b∈ts
      · have z':=(if_pos hb').symm.trans z
        cases z'
        exact ht b hb'
      · have z':=(if_neg hb').symm.trans z
        cases z'
    · by_cases hb':b∈ts
      · exact .inr hb'
      · exact absurd (if_neg hb') z
  | none =>
    refine core (fun b=>if b=a then some (.frz { cls:=.type "list",data:=.seq vs.toArray } (.lst (ns.map V.int))) else if b∈ts then some (.tbl #[]) else none) (fun b=>?_) (fun PT hP=>?_) (.inl (.inr ⟨{ cls:=.type "list",data:=.seq vs.toArray },if_pos rfl⟩)) (fun b u z=>?_) (fun b z=>?_) fun _=>hk
    · by_cases hb':b=a
      · exact .inr (.inr ⟨_,_,if_pos hb'⟩)
      · by_cases hb2:b∈ts
        · exact .inr (.inl ⟨hb2,by rw [if_neg hb',if_pos hb2]⟩)
        · exact .inl (by rw [if_neg hb',if_neg hb2])
    · have hne:PT≠a:=fun z=>naT (by rw [← z]; exact hP)
      rw [if_neg hne,if_pos hP]
    · by_cases hb':b=a
      · have z':=(if_pos hb').symm.trans z
        cases z'
        subst hb'
        exact ⟨ha,by rw [List.length_map]; exact hl,vs,_,rv,ha⟩
      · by_cases hb2:b∈ts
        · have z':=((if_neg hb').trans (if_pos hb2)).symm.trans z
          cases z'
          exact ht b hb2
        · have z':=((if_neg hb').trans (if_neg hb2)).symm.trans z
          cases z'
    · by_cases hb':b=a
      · exact .inl hb'
      · by_cases hb2:b∈ts
        · exact .inr hb2
        · exact absurd ((if_neg hb').trans (if_neg hb2)) z
theorem walk_ofT {l:PySem.W.OpenLaw} {n k:Nat} {q:Program} {loose:List Str} {XP:(Str→Option Value)→Heap→Prop} {YP:World→Heap→Prop} {d:DefRec} {K:Params→PySem.W.Frag} {sp:World→Sp} {x:Str} {ts:List Addr}
    (hn:l.most=some n) (hn2:n≤sizeLine) (hdf:d.params.defaults=[]) (hr:Room k callerA)
    (hY:∀ (w:World) (h:Heap),YP w h→(K w.params).In h∧∀ PT∈ts,h.get? PT=some (PySem.W.tabObj #[])) (hcd:∀ w:World,(ts.all fun PT=>(K w.params).any fun p=>PySem.W.codeHdIn (K w.params) p.1 PT)=true) (hnt:∀ w:World,PySem.W.noTabs (K w.params)=true)
    (F:∀ (w:World) (mg:Str→Option Value) (fa:Addr) (h:Heap),(K w.params).In h→h.Ns mainGlobals mg→mg d.name=some (.ref fa) →
      ∃ fd:FuncData,(∀ (s:Shared) (u:Value),BindsTo s fd ⟨[u],[]⟩ [(x,u)]) ∧
        ∀ base:Heap,(K w.params).In base→base.Ns mainGlobals mg→(∀ PT∈ts,base.BuiltinsAt mg PT)→FnOk l.prog w (K w.params) mg base CX0 k fa fd [x] (sp w))
    (hsp:∀ (w:World) (H:Hp) (a:Addr) (ns:List Int),ns.length≤n→(∀ z∈ns,Builtin.Int.intBits z≤1048576)→(∀ PT∈ts,H PT=some (.tbl #[]))→SqL (K w.params) H a (ns.map V.int)→sp w [.ref a] H (fun v _=>v=.bl true) fun _ _ _=>False) :
    PySem.W.WalkO q loose XP YP l.row.toRowW d [] (fun f vs=>PySem.call f vs):=by
  intro w s₀ s₁ mg mb G Y fa o pm cd doc dV kV ho hd hcd' hD hmg hg args vals as hpre hlay hrd hwl hlo
  obtain rfl:dV=.none:=PySem.W.Dflts.none hD hdf
  obtain rfl:kV=.none:=PySem.W.Dflts.noKw hD
  obtain ⟨a,vs,ns,rfl,rfl,hobj,hints,hlen⟩:=Att.script_of hn hpre hwl
  have hbits:=bits_of_lay hlay
  obtain ⟨KX,hts⟩:=hY w _ Y
  obtain ⟨fd,hb,hF⟩:=F w mg fa _ KX G.T.g hmg
  refine PySem.W.enter_call (codeAny_mono (law_callT (ts:=ts) KX G.T.g G.T.b G.T.builtins G.T.nolimit hg hts (fun PT hP=>by
    obtain ⟨p,_,h⟩:=List.any_eq_true.mp (List.all_eq_true.mp (hcd w) PT hP)
    exact ⟨_,h⟩) (hnt w) G.T.bmain hobj hints (Nat.le_trans hlen hn2) hr hF hb (fun H hT hS=>hsp w H a ns hlen hbits hT hS)) fun r s' hq=>?_)
  obtain ⟨rfl,h2,h3,h4⟩:=hq
  exact ⟨.inl ⟨.bool true,.bool true,[],rfl,fun _=>rfl,.bool true,Att.post_true l _,fun _=>⟨List.Pairwise.nil,fun _ hm=>(nomatch hm)⟩⟩,h2,h3,h4⟩
theorem srcL_at {base:Heap} {K:PySem.W.Frag} {h:Heap} {mg:Str→Option Value} {f c PT:Addr} {oc:Value} {od an:Option Addr} {osl:Array (Option Value)} {kV doc pm ct:Value} (x qual:Str) (st:Stmt) (_hB:∀ P∈[PT],base.BuiltinsAt mg P) (X:K.In h) (G:h.Ns mainGlobals mg)
    (a:PySem.W.nsIn K mainGlobals x=some (some (.ref f))) (l:K.lookup f=some ⟨oc,od,.func (PySem.W.fnOf x qual (defArgs st) (defBody st) (defScope st) .none kV doc pm an (.ref c) ct),osl⟩)
    (hc:PySem.W.codeIn K (.ref c) qual=true) (k:PySem.W.keepIn K (.ref f)=true) (hd:PySem.W.codeHdIn K c PT=true):∃ c,SrcL K mg x qual st c PT:=⟨c,srcL_mk X G a l hc k hd⟩
end L2
namespace BW
def wsum (W:Nat→Nat→Int) (v:List Nat):Int:=((List.range v.length).map fun i=>W i (v.getD i 0)).sum
def Fit (B:Nat→Nat) (v:List Nat):Prop:=∀ r,v.count r≤B r
def ind (a b:Nat):Nat:=if a=b then 1 else 0
theorem ind_self (a:Nat):ind a a=1:=if_pos rfl
theorem ind_ne {a b:Nat} (h:a≠b):ind a b=0:=if_neg h
theorem wsum_snoc (W:Nat→Nat→Int) (v:List Nat) (r:Nat):wsum W (v ++ [r])=wsum W v + W v.length r:=by
  unfold wsum
  rw [List.length_append,List.length_singleton,List.range_succ,List.map_append,List.sum_append]
  congr 1
  · congr 1
    refine List.map_congr_left fun i hi=>?_
    have hi:=List.mem_range.mp hi
    simp [List.getD,List.getElem?_append_left hi]
  · simp [List.getD]
theorem sum_one {f g:Nat→Int} {j:Nat}:∀ {n:Nat},j < n→(∀ i,i≠j→f i=g i)→((List.range n).map f).sum=((List.range n).map g).sum - g j + f j
  | 0,h,_=>absurd h (Nat.not_lt_zero _)
  | n + 1,h,e=>by
    rw [List.range_succ,List.map_append,List.map_append,List.sum_append,List.sum_append]
    by_cases hj:j=n
    · subst hj
      have:(List.range j).map f=(List.range j).map g:=List.map_congr_left fun i hi=>e i (Nat.ne_of_lt (List.mem_range.mp hi))
      rw [this]
      simp
    · have:=sum_one (f:=f) (g:=g) (n:=n) (by omega) e
      rw [this]
      have e2:=e n (fun z=>hj z.symm)
      simp [e2]
      omega
theorem wsum_set (W:Nat→Nat→Int) (v:List Nat) {j r:Nat} (h:j < v.length):wsum W (v.set j r)=wsum W v - W j v[j] + W j r:=by
  unfold wsum
  rw [List.length_set]
  have:=sum_one (f:=fun i=>W i ((v.set j r).getD i 0)) (g:=fun i=>W i (v.getD i 0)) h (fun i hi=>by
    simp [List.getD,List.getElem?_set_ne (fun z=>hi z.symm)])
  rw [this]
  simp [List.getD,h]
theorem count_move {v:List Nat} {j r x:Nat} (h:j < v.length):(v.set j r).count x + ind x v[j]=v.count x + ind x r:=by
  rw [List.count_set h]
  unfold ind
  have hpos:v[j]=x→0 < v.count x:=fun e=>List.count_pos_iff.mpr (e ▸ List.getElem_mem h)
  by_cases h1:v[j]=x <;> by_cases h2:r=x
  · have:=hpos h1
    simp [h1,h2]; omega
  · have:=hpos h1
    have h2':x≠r:=fun z=>h2 z.symm
    simp [h1,h2,h2']; omega
  · have h1':x≠v[j]:=fun z=>h1 z.symm
    simp [h1,h2,h1']
  · have h1':x≠v[j]:=fun z=>h1 z.symm
    have h2':x≠r:=fun z=>h2 z.symm
    simp [h1,h2,h1',h2']
theorem count_le_of:∀ {a b:List Nat} {r:Nat},a.length=b.length→(∀ p:Nat,a[p]? = some r→b[p]? = some r)→a.count r≤b.count r
  | [],_,_,_,_=>by simp
  | x :: a,[],r,h,_=>by simp at h
  | x :: a,y :: b,r,h,e=>by
    have ih:=count_le_of (a:=a) (b:=b) (r:=r) (by simpa using h) fun p hp=>by
      have:=e (p + 1) (by simpa using hp)
      simpa using this
    rw [List.count_cons,List.count_cons]
    have e0:=e 0
    by_cases hx:x=r
    · subst hx
      have:y=x:=by simpa using e0 rfl
      subst this
      omega
    · simp [hx]
      omega
theorem countP_lt {l:List Nat} {p q:Nat→Bool}:∀ (_:∀ x∈l,q x=true→p x=true) (_:∃ x∈l,p x=true∧q x=false),l.countP q < l.countP p:=by
  induction l with
  | nil=>rintro _ ⟨x,hx,_⟩; cases hx
  | cons a l ih =>
    rintro h ⟨x,hx,h1,h2⟩
    rw [List.countP_cons,List.countP_cons]
    have hm:l.countP q≤l.countP p:=List.countP_mono_left fun y hy=>h y (List.mem_cons_of_mem _ hy)
    rcases List.mem_cons.mp hx with z | z
    · subst z
      simp [h1,h2]
      omega
    · have:=ih (fun y hy=>h y (List.mem_cons_of_mem _ hy)) ⟨x,z,h1,h2⟩
      have ha:=h a List.mem_cons_self
      by_cases hq:q a=true
      · simp [hq,ha hq]; omega
      · simp [hq]; split <;> omega
theorem core {W:Nat→Nat→Int} {B:Nat→Nat} {way:List Nat} {g:Nat→Int} {G:Int} {R:Nat} (hB:∀ r,R≤r→B r=0) (hopt:∀ v:List Nat,v.length=way.length→Fit B v→wsum W v≤wsum W way)
    (hfix:∀ p (hp:p < way.length) r,r < R→g way[p] + W p r - W p way[p]≤g r) (hG:∀ r,way.count r < B r→g r≤G) :
    ∀ (d:Nat) (v:List Nat) (r:Nat),v.length=way.length→(List.range way.length).countP (fun i=>decide (v[i]?≠way[i]?))≤d→(∀ s,v.count s + ind s r≤B s)→wsum W v + g r≤wsum W way + G:=by
  intro d
  induction d with
  | zero =>
    intro v r hl hd hf
    by_cases ho:way.count r < B r
    · have h1:=hopt v hl fun s=>by have:=hf s; omega
      have h2:=hG r ho
      omega
    · exfalso
      have hr:=hf r
      rw [ind_self] at hr
      have:way.count r≤v.count r:=count_le_of hl.symm fun p hp=>by
        have h0:=Nat.le_zero.mp hd
        have hpl:p < way.length:=(List.getElem?_eq_some_iff.mp hp).1
        have:=List.countP_eq_zero.mp h0 p (List.mem_range.mpr hpl)
        have e:v[p]? = way[p]?:=by simpa using this
        rw [e]; exact hp
      omega
  | succ d ih =>
    intro v r hl hd hf
    by_cases ho:way.count r < B r
    · have h1:=hopt v hl fun s=>by have:=hf s; omega
      have h2:=hG r ho
      omega
    · have hr:=hf r
      rw [ind_self] at hr
      have hex:∃ p:Nat,way[p]? = some r∧v[p]?≠some r:=by
        refine Classical.byContradiction fun hn=>?_
        have:way.count r≤v.count r:=count_le_of hl.symm fun p hp=>by
          refine Classical.byContradiction fun z=>hn ⟨p,hp,z⟩
        omega
      obtain ⟨p,hp,hv⟩:=hex
      obtain ⟨hpl,hpe⟩:=List.getElem?_eq_some_iff.mp hp
      have hpv:p < v.length:=by omega
      have hv':v[p]≠r:=fun z=>hv (by simp [hpv,z])
      have hrB:r < R:=by
        refine Classical.byContradiction fun z=>?_
        have:=hB r (by omega)
        omega
      have hvR:v[p] < R:=by
        refine Classical.byContradiction fun z=>?_
        have h1:=hB v[p] (by omega)
        have h2:=hf v[p]
        have h3:0 < v.count v[p]:=List.count_pos_iff.mpr (List.getElem_mem hpv)
        omega
      have h1:=ih (v.set p r) v[p] (by simpa using hl) (by
        have:(List.range way.length).countP (fun i=>decide ((v.set p r)[i]?≠way[i]?)) < (List.range way.length).countP (fun i=>decide (v[i]?≠way[i]?)):=countP_lt (fun x hx hq=>by
          have hq':(v.set p r)[x]?≠way[x]?:=of_decide_eq_true hq
          refine decide_eq_true fun z=>hq' ?_
          by_cases hxp:x=p
          · subst hxp
            rw [List.getElem?_set_self hpv,hp]
          · rw [List.getElem?_set_ne (fun z=>hxp z.symm)]
            exact z) ⟨p,List.mem_range.mpr hpl,decide_eq_true (by rw [hp]; exact hv),decide_eq_false (by rw [List.getElem?_set_self hpv,hp]; simp)⟩
        omega) fun s=>by
          have h2:=count_move (v:=v) (j:=p) (r:=r) (x:=s) hpv
          have h3:=hf s
          have h4:ind s v[p]=ind s v[p]:=rfl
          omega
      have h2:=wsum_set W v (j:=p) (r:=r) hpv
      have h3:=hfix p hpl v[p] hvR
      rw [hpe] at h3
      omega
inductive Seg (W:Nat→Nat→Int) (way:List Nat) (R:Nat) (s:Nat):List (Nat × Nat)→Nat→Int→Prop
  | nil:s < R→Seg W way R s [] s 0
  | snoc {c:List (Nat × Nat)} {l:Nat} {g:Int} {p r:Nat}:Seg W way R s c l g→way[p]? = some l→r < R→r ∉ s :: c.map (·.2)→Seg W way R s (c ++ [(p,r)]) r (g + W p r - W p l)
section
variable {W:Nat→Nat→Int} {way:List Nat} {R s:Nat}
def endOf (s:Nat) (c:List (Nat × Nat)):Nat:=(c.getLast?.map (·.2)).getD s
def gainOf (W:Nat→Nat→Int) (way:List Nat) (c:List (Nat × Nat)):Int:=(c.map fun m=>W m.1 m.2 - W m.1 (way.getD m.1 0)).sum
theorem Seg.end_ {c:List (Nat × Nat)} {l:Nat} {g:Int} (h:Seg W way R s c l g):l=endOf s c∧g=gainOf W way c:=by
  induction h with
  | nil _=>exact ⟨rfl,rfl⟩
  | snoc h hp _ _ ih =>
    refine ⟨by simp [endOf],?_⟩
    rw [ih.2]
    simp [gainOf,List.getD,hp]
    omega
theorem Seg.mem {c:List (Nat × Nat)} {l:Nat} {g:Int} (h:Seg W way R s c l g):l∈s :: c.map (·.2):=by
  cases h with
  | nil _=>simp
  | snoc h _ _ _=>simp
theorem Seg.lt {c:List (Nat × Nat)} {l:Nat} {g:Int} (h:Seg W way R s c l g):∀ x∈s :: c.map (·.2),x < R:=by
  induction h with
  | nil h=>intro x hx; simp at hx; rw [hx]; exact h
  | snoc h _ hr _ ih =>
    intro x hx
    rw [List.map_append] at hx
    rcases List.mem_append.mp (show x∈(s :: _) ++ _ from hx) with z | z
    · exact ih x z
    · simp at z; rw [z]; exact hr
theorem Seg.nodup {c:List (Nat × Nat)} {l:Nat} {g:Int} (h:Seg W way R s c l g):(s :: c.map (·.2)).Nodup:=by
  induction h with
  | nil _=>simp
  | @snoc c _ _ p r h _ _ hn ih =>
    rw [List.map_append]
    show ((s :: c.map (·.2)) ++ [r]).Nodup
    refine List.nodup_append.mpr ⟨ih,by simp,fun a ha b hb=>?_⟩
    have:b=r:=by simpa using hb
    rw [this]
    exact fun z=>hn (z ▸ ha)
theorem Seg.split {c:List (Nat × Nat)} {l:Nat} {g:Int} (h:Seg W way R s c l g):∀ x∈s :: c.map (·.2),∃ c1 c2 g1 g2,c=c1 ++ c2∧Seg W way R s c1 x g1∧Seg W way R x c2 l g2∧g=g1 + g2:=by
  induction h with
  | nil h =>
    intro x hx
    have:x=s:=by simpa using hx
    subst this
    exact ⟨[],[],0,0,rfl,.nil h,.nil h,rfl⟩
  | @snoc c l g p r h hp hr hn ih =>
    intro x hx
    rw [List.map_append] at hx
    rcases List.mem_append.mp (show x∈(s :: c.map (·.2)) ++ [r] from hx) with z | z
    · obtain ⟨c1,c2,g1,g2,rfl,a,b,e⟩:=ih x z
      refine ⟨c1,c2 ++ [(p,r)],g1,g2 + W p r - W p l,by simp,a,.snoc b hp hr fun q=>?_,by omega⟩
      rcases List.mem_cons.mp q with q | q
      · exact hn (q ▸ z)
      · exact hn (List.mem_cons_of_mem _ (by simp only [List.map_append]; exact List.mem_append_right _ q))
    · have:x=r:=by simpa using z
      subst this
      exact ⟨c ++ [(p,x)],[],_,0,by simp,.snoc h hp hr hn,.nil hr,by omega⟩
def app (v:List Nat) (c:List (Nat × Nat)):List Nat:=c.foldl (fun v m=>v.set m.1 m.2) v
theorem app_snoc (v:List Nat) (c:List (Nat × Nat)) (m:Nat × Nat):app v (c ++ [m])=(app v c).set m.1 m.2:=by simp [app]
theorem Seg.app {c:List (Nat × Nat)} {l:Nat} {g:Int} (h:Seg W way R s c l g) :
    (app way c).length=way.length∧wsum W (app way c)=wsum W way + g∧(∀ x,(app way c).count x + ind x s=way.count x + ind x l)∧∀ q r:Nat,way[q]? = some r→(r ∉ s :: c.map (·.2)∨r=l)→(BW.app way c)[q]? = some r:=by
  induction h with
  | nil _=>exact ⟨rfl,by simp [BW.app],fun x=>rfl,fun q r h _=>h⟩
  | @snoc c l g p r h hp hr hn ih =>
    obtain ⟨i1,i2,i3,i4⟩:=ih
    obtain ⟨hpl,hpe⟩:=List.getElem?_eq_some_iff.mp hp
    have hpa:p < (BW.app way c).length:=by omega
    have hv:=i4 p l hp (.inr rfl)
    have hv':(BW.app way c)[p]=l:=by
      rw [List.getElem?_eq_getElem hpa] at hv
      exact Option.some.inj hv
    rw [app_snoc]
    dsimp only
    refine ⟨by simpa using i1,?_,fun x=>?_,fun q r' hq hc=>?_⟩
    · rw [wsum_set W _ hpa,i2,hv']
      omega
    · have h1:=count_move (v:=BW.app way c) (j:=p) (r:=r) (x:=x) hpa
      have h2:=i3 x
      rw [hv'] at h1
      omega
    · have hnot:r' ∉ s :: c.map (·.2):=by
        rcases hc with z | z
        · intro w
          refine z ?_
          rw [List.map_append]
          exact List.mem_append_left [r] w
        · rw [z]; exact hn
      have hqp:q≠p:=fun z=>by
        rw [z,hp] at hq
        have:l=r':=Option.some.inj hq
        exact hnot (this ▸ h.mem)
      rw [List.getElem?_set_ne (fun z=>hqp z.symm)]
      exact i4 q r' hq (.inl hnot)
theorem Seg.persons {c:List (Nat × Nat)} {l:Nat} {g:Int} (h:Seg W way R s c l g):∀ m∈c,m.1 < way.length∧m.2 < R:=by
  induction h with
  | nil _=>intro m hm; cases hm
  | @snoc c l g p r h hp hr _ ih =>
    intro m hm
    rcases List.mem_append.mp hm with z | z
    · exact ih m z
    · have:m=(p,r):=by simpa using z
      rw [this]
      exact ⟨(List.getElem?_eq_some_iff.mp hp).1,hr⟩
theorem Seg.round {B:Nat→Nat} (hfit:Fit B way) (hopt:∀ v:List Nat,v.length=way.length→Fit B v→wsum W v≤wsum W way) {c:List (Nat × Nat)} {l p:Nat} {g:Int} (h:Seg W way R s c l g) (hp:way[p]? = some l):g + W p s - W p l≤0:=by
  obtain ⟨i1,i2,i3,i4⟩:=h.app
  obtain ⟨hpl,hpe⟩:=List.getElem?_eq_some_iff.mp hp
  have hpa:p < (BW.app way c).length:=by omega
  have hv:=i4 p l hp (.inr rfl)
  have hv':(BW.app way c)[p]=l:=by
    rw [List.getElem?_eq_getElem hpa] at hv
    exact Option.some.inj hv
  have h1:=hopt ((BW.app way c).set p s) (by simpa using i1) fun x=>by
    have h1:=count_move (v:=BW.app way c) (j:=p) (r:=s) (x:=x) hpa
    have h2:=i3 x
    have h3:=hfit x
    rw [hv'] at h1
    omega
  rw [wsum_set W _ hpa,i2,hv'] at h1
  omega
end
theorem nodup_le:∀ (R:Nat) (l:List Nat),l.Nodup→(∀ x∈l,x < R)→l.length≤R
  | 0,l,_,h=>by
    cases l with
    | nil=>simp
    | cons a r=>exact absurd (h a List.mem_cons_self) (Nat.not_lt_zero _)
  | R + 1,l,hn,h=>by
    have h1:=nodup_le R (l.erase R) (hn.erase _) fun x hx=>by
      have hx':=(hn.mem_erase_iff).mp hx
      have:=h x hx'.2
      have:=hx'.1
      omega
    have h2:=List.length_erase (a:=R) (l:=l)
    split at h2 <;> omega
abbrev GM:=List Int × List (List (Nat × Nat))
def relax (W:Nat→Nat→Int) (p l:Nat) (st:GM) (r:Nat):GM :=
  if st.1.getD r 0 < st.1.getD l 0 + W p r - W p l then (st.1.set r (st.1.getD l 0 + W p r - W p l),st.2.set r (st.2.getD l [] ++ [(p,r)])) else st
def person (W:Nat→Nat→Int) (way:List Nat) (R:Nat) (st:GM) (p:Nat):GM:=(List.range R).foldl (relax W p (way.getD p 0)) st
def turn (W:Nat→Nat→Int) (way:List Nat) (R:Nat) (st:GM):GM:=(List.range way.length).foldl (person W way R) st
def turns (W:Nat→Nat→Int) (way:List Nat) (R:Nat) (st:GM) (k:Nat):GM:=(List.range k).foldl (fun st _=>turn W way R st) st
def first (W:Nat→Nat→Int) (way:List Nat) (R:Nat):GM:=((List.range R).map fun r=>W way.length r,(List.range R).map fun r => [(way.length,r)])
theorem turns_succ (W:Nat→Nat→Int) (way:List Nat) (R:Nat) (st:GM) (k:Nat):turns W way R st (k + 1)=turn W way R (turns W way R st k):=by
  unfold turns
  rw [List.range_succ,List.foldl_append]
  rfl
section
variable {W:Nat→Nat→Int} {way:List Nat} {R:Nat}
structure Ok (W:Nat→Nat→Int) (way:List Nat) (R:Nat) (st:GM):Prop where
  l1:st.1.length=R
  l2:st.2.length=R
  at_:∀ r,r < R→∃ r0 c g,st.2.getD r []=(way.length,r0) :: c∧Seg W way R r0 c r g∧st.1.getD r 0=W way.length r0 + g∧∀ c1 c2 x g1,c=c1 ++ c2→Seg W way R r0 c1 x g1→W way.length r0 + g1≤st.1.getD x 0
theorem first_ok:Ok W way R (first W way R):=by
  refine ⟨by simp [first],by simp [first],fun r hr=>⟨r,[],0,?_,.nil hr,?_,fun c1 c2 x g1 e h=>?_⟩⟩
  · simp [first,List.getD,hr]
  · simp [first,List.getD,hr]
  · have e1:c1=[]:=(List.append_eq_nil_iff.mp e.symm).1
    subst e1
    obtain ⟨h1,h2⟩:=h.end_
    have h1':x=r:=h1
    have h2':g1=0:=h2
    subst h1' h2'
    simp [first,List.getD,hr]
theorem getD_set {α:Type} {l:List α} {i j:Nat} {x d:α}:(l.set i x).getD j d=if i=j∧j < l.length then x else l.getD j d:=by
  simp only [List.getD]
  by_cases h:i=j
  · subst h
    by_cases hl:i < l.length
    · simp [List.getElem?_set_self hl,hl]
    · simp [hl]
  · rw [List.getElem?_set_ne h]
    simp [h]
theorem relax_mono {p l r:Nat} {st:GM} (x:Nat):st.1.getD x 0≤(relax W p l st r).1.getD x 0:=by
  unfold relax
  split
  · rename_i h
    show _≤(st.1.set r _).getD x 0
    rw [getD_set]
    split
    · rename_i hx
      rw [← hx.1]
      omega
    · exact Int.le_refl _
  · exact Int.le_refl _
theorem relax_at {p l r:Nat} {st:GM} (hr:r < st.1.length):st.1.getD l 0 + W p r - W p l≤(relax W p l st r).1.getD r 0:=by
  unfold relax
  split
  · show _≤(st.1.set r _).getD r 0
    rw [getD_set,if_pos ⟨rfl,hr⟩]
    exact Int.le_refl _
  · rename_i h
    omega
theorem relax_ok {B:Nat→Nat} (hfit:Fit B way) (hopt:∀ v:List Nat,v.length=way.length→Fit B v→wsum W v≤wsum W way) {p l r:Nat} {st:GM} (hp:way[p]? = some l) (hl:l < R) (hr:r < R) (ok:Ok W way R st):Ok W way R (relax W p l st r):=by
  have mono:=fun x=>relax_mono (W:=W) (p:=p) (l:=l) (r:=r) (st:=st) x
  unfold relax at mono ⊢
  split
  · rename_i hlt
    rw [if_pos hlt] at mono
    obtain ⟨r0,c,g,e1,hs,e2,hd⟩:=ok.at_ l hl
    have hnot:r ∉ r0 :: c.map (·.2):=fun z=>by
      obtain ⟨c1,c2,g1,g2,ec,s1,s2,eg⟩:=hs.split r z
      have h1:=hd c1 c2 r g1 ec s1
      have h2:=s2.round hfit hopt hp
      rw [e2] at hlt
      omega
    refine ⟨by simpa using ok.l1,by simpa using ok.l2,fun x hx=>?_⟩
    by_cases hxr:r=x
    · subst hxr
      refine ⟨r0,c ++ [(p,r)],g + W p r - W p l,?_,hs.snoc hp hr hnot,?_,fun c1 c2 y g1 ec s1=>?_⟩
      · show (st.2.set r _).getD r []=_
        rw [getD_set,if_pos ⟨rfl,by rw [ok.l2]; exact hr⟩,e1]
        rfl
      · show (st.1.set r _).getD r 0=_
        rw [getD_set,if_pos ⟨rfl,by rw [ok.l1]; exact hr⟩,e2]
        omega
      · rcases List.eq_nil_or_concat c2 with z | ⟨c2',m,z⟩
        · subst z
          rw [List.append_nil] at ec
          subst ec
          obtain ⟨a1,a2⟩:=s1.end_
          obtain ⟨b1,b2⟩:=(hs.snoc hp hr hnot).end_
          have:y=r:=a1.trans b1.symm
          subst this
          show _≤(st.1.set y _).getD y 0
          rw [getD_set,if_pos ⟨rfl,by rw [ok.l1]; exact hr⟩,e2]
          have:g1=g + W p y - W p l:=a2.trans b2.symm
          omega
        · subst z
          rw [List.concat_eq_append,← List.append_assoc] at ec
          have ec':=List.append_inj_left' ec rfl
          have:=hd c1 c2' y g1 ec' s1
          exact Int.le_trans this (mono y)
    · obtain ⟨r0',c',g',f1,f2,f3,f4⟩:=ok.at_ x hx
      refine ⟨r0',c',g',?_,f2,?_,fun c1 c2 y g1 ec s1=>Int.le_trans (f4 c1 c2 y g1 ec s1) (mono y)⟩
      · show (st.2.set r _).getD x []=_
        rw [getD_set,if_neg (fun z=>hxr z.1)]
        exact f1
      · show (st.1.set r _).getD x 0=_
        rw [getD_set,if_neg (fun z=>hxr z.1)]
        exact f3
  · exact ok
theorem fold_inv {α β:Type} {f:β→α→β} {I:β→Prop} {l:List α}:∀ {b:β},I b→(∀ b,∀ a∈l,I b→I (f b a))→I (l.foldl f b):=by
  induction l with
  | nil=>intro b h _; exact h
  | cons a l ih=>intro b h hs; exact ih (hs b a List.mem_cons_self h) fun b' a' ha=>hs b' a' (List.mem_cons_of_mem _ ha)
theorem person_mono {p:Nat} {st:GM} (x:Nat):st.1.getD x 0≤(person W way R st p).1.getD x 0 :=
  fold_inv (I:=fun st':GM=>st.1.getD x 0≤st'.1.getD x 0) (Int.le_refl _) fun b a _ h=>Int.le_trans h (relax_mono x)
theorem turn_mono {st:GM} (x:Nat):st.1.getD x 0≤(turn W way R st).1.getD x 0 :=
  fold_inv (I:=fun st':GM=>st.1.getD x 0≤st'.1.getD x 0) (Int.le_refl _) fun b a _ h=>Int.le_trans h (person_mono x)
theorem relax_len {p l r:Nat} {st:GM} (h:st.1.length=R):(relax W p l st r).1.length=R:=by
  unfold relax
  split
  · simpa using h
  · exact h
theorem person_len {p:Nat} {st:GM} (h:st.1.length=R):(person W way R st p).1.length=R:=fold_inv (I:=fun st':GM=>st'.1.length=R) h fun b a _ h=>relax_len h
theorem person_at {p l r:Nat} {st:GM} (hp:way[p]? = some l) (hl:st.1.length=R) (hr:r < R):st.1.getD l 0 + W p r - W p l≤(person W way R st p).1.getD r 0:=by
  have e:way.getD p 0=l:=by simp [List.getD,hp]
  unfold person
  rw [e]
  obtain ⟨a,b,hab⟩:=List.append_of_mem (List.mem_range.mpr hr)
  rw [hab,List.foldl_append,List.foldl_cons]
  have h1:st.1.getD l 0≤(a.foldl (relax W p l) st).1.getD l 0:=fold_inv (I:=fun st':GM=>st.1.getD l 0≤st'.1.getD l 0) (Int.le_refl _) fun b a _ h=>Int.le_trans h (relax_mono l)
  have h2:(a.foldl (relax W p l) st).1.length=R:=fold_inv (I:=fun st':GM=>st'.1.length=R) hl fun b a _ h=>relax_len h
  have h3:=relax_at (W:=W) (p:=p) (l:=l) (r:=r) (st:=a.foldl (relax W p l) st) (by rw [h2]; exact hr)
  have h4:(relax W p l (a.foldl (relax W p l) st) r).1.getD r 0≤(b.foldl (relax W p l) (relax W p l (a.foldl (relax W p l) st) r)).1.getD r 0:=fold_inv (I:=fun st':GM=>(relax W p l (a.foldl (relax W p l) st) r).1.getD r 0≤st'.1.getD r 0) (Int.le_refl _) fun b a _ h=>Int.le_trans h (relax_mono r)
  omega
theorem turn_at {p l r:Nat} {st:GM} (hp:way[p]? = some l) (hl:st.1.length=R) (hr:r < R):st.1.getD l 0 + W p r - W p l≤(turn W way R st).1.getD r 0:=by
  unfold turn
  obtain ⟨a,b,hab⟩:=List.append_of_mem (List.mem_range.mpr (List.getElem?_eq_some_iff.mp hp).1)
  rw [hab,List.foldl_append,List.foldl_cons]
  have h1:st.1.getD l 0≤(a.foldl (person W way R) st).1.getD l 0:=fold_inv (I:=fun st':GM=>st.1.getD l 0≤st'.1.getD l 0) (Int.le_refl _) fun b a _ h=>Int.le_trans h (person_mono l)
  have h2:(a.foldl (person W way R) st).1.length=R:=fold_inv (I:=fun st':GM=>st'.1.length=R) hl fun b a _ h=>person_len h
  have h3:=person_at (W:=W) (way:=way) (R:=R) (st:=a.foldl (person W way R) st) hp h2 hr
  have h4:(person W way R (a.foldl (person W way R) st) p).1.getD r 0≤(b.foldl (person W way R) (person W way R (a.foldl (person W way R) st) p)).1.getD r 0:=fold_inv (I:=fun st':GM=>(person W way R (a.foldl (person W way R) st) p).1.getD r 0≤st'.1.getD r 0) (Int.le_refl _) fun b a _ h=>Int.le_trans h (person_mono r)
  omega
theorem turns_ok {B:Nat→Nat} (hfit:Fit B way) (hopt:∀ v:List Nat,v.length=way.length→Fit B v→wsum W v≤wsum W way) (hway:∀ r∈way,r < R) (k:Nat):Ok W way R (turns W way R (first W way R) k):=by
  refine fold_inv (I:=Ok W way R) first_ok fun st _ _ ok=>?_
  refine fold_inv (I:=Ok W way R) ok fun st p hp ok=>?_
  have hpl:=List.mem_range.mp hp
  have e:way[p]? = some (way.getD p 0):=by simp [List.getD,hpl]
  exact fold_inv (I:=Ok W way R) ok fun st r hr ok=>relax_ok hfit hopt e (hway _ (List.mem_of_getElem? e)) (List.mem_range.mp hr) ok
inductive Reach (W:Nat→Nat→Int) (way:List Nat) (R:Nat):Nat→Nat→Int→Prop
  | base {r:Nat}:r < R→Reach W way R 0 r (W way.length r)
  | keep {k r:Nat} {x:Int}:Reach W way R k r x→Reach W way R (k + 1) r x
  | step {k l p r:Nat} {x:Int}:Reach W way R k l x→way[p]? = some l→r < R→Reach W way R (k + 1) r (x + W p r - W p l)
theorem Reach.more {k r:Nat} {x:Int} (h:Reach W way R k r x):∀ {j:Nat},k≤j→Reach W way R j r x:=by
  intro j hj
  induction j with
  | zero =>
    have:k=0:=by omega
    subst this
    exact h
  | succ j ih =>
    by_cases hk:k=j + 1
    · subst hk; exact h
    · exact .keep (ih (by omega))
theorem Seg.reach {r0 l:Nat} {c:List (Nat × Nat)} {g:Int} (h:Seg W way R r0 c l g):Reach W way R c.length l (W way.length r0 + g):=by
  induction h with
  | nil h =>
    have:=Reach.base (W:=W) (way:=way) h
    simpa using this
  | @snoc c l g p r h hp hr _ ih =>
    have:=Reach.step ih hp hr
    rw [List.length_append]
    have e:W way.length r0 + g + W p r - W p l=W way.length r0 + (g + W p r - W p l):=by omega
    rw [e] at this
    exact this
theorem reach_le {k r:Nat} {x:Int} (h:Reach W way R k r x):x≤(turns W way R (first W way R) k).1.getD r 0:=by
  have hlen:∀ k,(turns W way R (first W way R) k).1.length=R:=fun k=>fold_inv (I:=fun st':GM=>st'.1.length=R) (by simp [first]) fun b a _ h=>fold_inv (I:=fun st':GM=>st'.1.length=R) h fun b a _ h=>person_len h
  induction h with
  | base hr=>simp [turns,first,List.getD,hr]
  | keep _ ih=>rw [turns_succ]; exact Int.le_trans ih (turn_mono _)
  | @step k l p r x _ hp hr ih =>
    rw [turns_succ]
    have:=turn_at (W:=W) (way:=way) (R:=R) (st:=turns W way R (first W way R) k) hp (hlen k) hr
    omega
theorem turns_fix {B:Nat→Nat} (hfit:Fit B way) (hopt:∀ v:List Nat,v.length=way.length→Fit B v→wsum W v≤wsum W way) (hway:∀ r∈way,r < R) {p r:Nat} (hp:p < way.length) (hr:r < R) :
    (turns W way R (first W way R) R).1.getD way[p] 0 + W p r - W p way[p]≤(turns W way R (first W way R) R).1.getD r 0:=by
  have ok:=turns_ok (W:=W) (R:=R) hfit hopt hway R
  have hl:way[p] < R:=hway _ (List.getElem_mem hp)
  obtain ⟨r0,c,g,_,hs,e2,_⟩:=ok.at_ _ hl
  have h1:=nodup_le R _ hs.nodup hs.lt
  have h2:c.length + 1≤R:=by simpa using h1
  have h3:=hs.reach.more (j:=R - 1) (by omega)
  have h4:=Reach.step h3 (show way[p]? = some way[p] by simp [hp]) hr
  have h5:=reach_le h4
  rw [show R - 1 + 1=R by omega] at h5
  rw [e2]
  exact h5
theorem app_last {v:List Nat} {x:Nat}:∀ {c:List (Nat × Nat)},(∀ m∈c,m.1 < v.length)→app (v ++ [x]) c=app v c ++ [x]:=by
  intro c
  induction c generalizing v with
  | nil=>intro _; rfl
  | cons m c ih =>
    intro h
    have hm:=h m List.mem_cons_self
    show app ((v ++ [x]).set m.1 m.2) c=app (v.set m.1 m.2) c ++ [x]
    rw [List.set_append_left _ _ hm]
    exact ih fun m' hm'=>by rw [List.length_set]; exact h m' (List.mem_cons_of_mem _ hm')
theorem brought {B:Nat→Nat} (hB:∀ r,R≤r→B r=0) (hfit:Fit B way) (hopt:∀ v:List Nat,v.length=way.length→Fit B v→wsum W v≤wsum W way) {e:Nat} (he:way.count e < B e)
    (hbest:∀ r,way.count r < B r→(turns W way R (first W way R) R).1.getD r 0≤(turns W way R (first W way R) R).1.getD e 0) :
    ∀ b,b=app (way ++ [e]) ((turns W way R (first W way R) R).2.getD e [])→b.length=way.length + 1∧Fit B b∧∀ v:List Nat,v.length=way.length + 1→Fit B v→wsum W v≤wsum W b:=by
  have hway:∀ r∈way,r < R:=fun r hr=>by
    refine Classical.byContradiction fun z=>?_
    have h1:=hB r (by omega)
    have h2:=hfit r
    have h3:=List.count_pos_iff.mpr hr
    omega
  have ok:=turns_ok (W:=W) (R:=R) hfit hopt hway R
  have heR:e < R:=by
    refine Classical.byContradiction fun z=>?_
    have:=hB e (by omega)
    omega
  obtain ⟨r0,c,g,e1,hs,e2,_⟩:=ok.at_ e heR
  rintro b rfl
  rw [e1]
  have ea:app (way ++ [e]) ((way.length,r0) :: c)=app way c ++ [r0]:=by
    show app ((way ++ [e]).set way.length r0) c=_
    rw [List.set_append_right _ _ (Nat.le_refl _)]
    simp only [Nat.sub_self,List.set_cons_zero]
    exact app_last fun m hm=>(hs.persons m hm).1
  rw [ea]
  obtain ⟨i1,i2,i3,_⟩:=hs.app
  refine ⟨by simp [i1],fun x=>?_,fun v hv hf=>?_⟩
  · rw [List.count_append]
    have h1:=i3 x
    have h2:=hfit x
    have h3:List.count x [r0]=ind x r0:=by
      unfold ind
      by_cases h:x=r0
      · subst h; simp
      · have h':r0≠x:=fun z=>h z.symm
        simp [h,h']
    rw [h3]
    by_cases hx:x=e
    · subst hx
      rw [ind_self] at h1
      omega
    · rw [ind_ne hx] at h1
      omega
  · rw [wsum_snoc,i2,i1]
    rcases List.eq_nil_or_concat v with z | ⟨v',r,z⟩
    · subst z; simp at hv
    · subst z
      rw [List.concat_eq_append] at hf ⊢
      have hv':v'.length=way.length:=by simpa using hv
      rw [wsum_snoc,hv']
      have hf':∀ s,v'.count s + ind s r≤B s:=fun s=>by
        have:=hf s
        rw [List.count_append] at this
        have h3:List.count s [r]=ind s r:=by
          unfold ind
          by_cases h:s=r
          · subst h; simp
          · have h':r≠s:=fun z=>h z.symm
            simp [h,h']
        omega
      have hrR:r < R:=by
        refine Classical.byContradiction fun z=>?_
        have h1:=hB r (by omega)
        have h2:=hf' r
        rw [ind_self] at h2
        omega
      have h1:=core (W:=W) (B:=B) (way:=way) (g:=fun r=>(turns W way R (first W way R) R).1.getD r 0) (R:=R) hB hopt (fun p hp r hr=>turns_fix hfit hopt hway hp hr) hbest _ v' r hv' (Nat.le_refl _) hf'
      have h2:W way.length r≤(turns W way R (first W way R) R).1.getD r 0:=reach_le ((Reach.base hrR).more (Nat.zero_le _))
      have h3:(turns W way R (first W way R) R).1.getD e 0=W way.length r0 + g:=e2
      rw [h3] at h1
      omega
end
end BW
namespace L2
open PySem PySem.Spec PyProof.Rows BW
theorem Room.dep {k:Nat} {A:Around} (r:Room k A):A.depth < recursionLimit:=by have:=r.dp; omega
def wI (way:List Nat):List Int:=way.map fun (r:Nat)=>(r:Int)
theorem wI_len (way:List Nat):((wI way).map V.int).length=way.length:=by simp [wI]
theorem wI_at {way:List Nat} {i r:Nat} (h:way[i]? = some r):((wI way).map V.int)[i]? = some (.int (r:Int)):=by simp [wI,h]
theorem wI_count (way:List Nat) (r:Nat):(wI way).count (r:Int)=way.count r:=by
  induction way with
  | nil=>rfl
  | cons x l ih =>
    show List.count (r:Int) (((x:Nat):Int) :: wI l)=_
    rw [List.count_cons,List.count_cons,ih]
    by_cases h:x=r
    · subst h; simp
    · have:¬ (((x:Nat):Int)=(r:Int)):=by omega
      simp [h,this]
def wF (worths:List (List Int)) (p r:Nat):Int:=(worths.getD p []).getD r 0
def bF (beds:List Int) (r:Nat):Nat:=(beds.getD r 0).toNat
def ChainAt (H:Hp) (a:Addr) (c:List (Nat × Nat)):Prop:=∃ ts:List Addr,H a=some (.lst (ts.map V.ref))∧ts.length=c.length∧∀ (j:Nat) t m,ts[j]? = some t→c[j]? = some m→H t=some (.tup [.int (m.1:Int),.int (m.2:Int)])
theorem ChainAt.keep {H H':Hp} {a:Addr} {c:List (Nat × Nat)} (h:ChainAt H a c) (h1:∀ o,H a=some o→H' a=some o) (h2:∀ t xs,H t=some (.tup xs)→H' t=some (.tup xs)):ChainAt H' a c:=by
  obtain ⟨ts,e1,e2,e3⟩:=h
  exact ⟨ts,h1 _ e1,e2,fun j t m a b=>h2 _ _ (e3 j t m a b)⟩
theorem ChainAt.snoc {H:Hp} {a t:Addr} {c:List (Nat × Nat)} {m:Nat × Nat} {ts:List Addr} (e1:H a=some (.lst (ts.map V.ref ++ [.ref t]))) (e2:ts.length=c.length) (e3:∀ (j:Nat) t m,ts[j]? = some t→c[j]? = some m→H t=some (.tup [.int (m.1:Int),.int (m.2:Int)])) (e4:H t=some (.tup [.int (m.1:Int),.int (m.2:Int)])):ChainAt H a (c ++ [m]):=by
  refine ⟨ts ++ [t],by rw [e1]; simp,by simp [e2],fun j t' m' h1 h2=>?_⟩
  by_cases hj:j < ts.length
  · rw [List.getElem?_append_left hj] at h1
    rw [List.getElem?_append_left (by omega)] at h2
    exact e3 j t' m' h1 h2
  · have hj2:j=ts.length:=by
      have:=(List.getElem?_eq_some_iff.mp h1).1
      simp at this
      omega
    subst hj2
    simp at h1
    rw [e2] at h2
    simp at h2
    subst h1 h2
    exact e4
structure MovesAt (H:Hp) (ga mv:Addr) (gs:List Int) (ms:List (List (Nat × Nat))):Prop where
  ne:ga≠mv
  g:H ga=some (.lst (gs.map V.int))
  ex:∃ ls:List Addr,H mv=some (.lst (ls.map V.ref))∧ls.length=ms.length∧(∀ a∈ls,a≠ga∧a≠mv)∧∀ (i:Nat) a c,ls[i]? = some a→ms[i]? = some c→ChainAt H a c
theorem MovesAt.same {H H':Hp} {ga mv:Addr} {gs:List Int} {ms:List (List (Nat × Nat))} (h:MovesAt H ga mv gs ms) (s:Same H H'):MovesAt H' ga mv gs ms:=by
  obtain ⟨ls,e1,e2,e3,e4⟩:=h.ex
  exact ⟨h.ne,s _ _ h.g,ls,s _ _ e1,e2,e3,fun i a c h1 h2=>(e4 i a c h1 h2).keep (fun o e=>s _ _ e) fun t xs e=>s _ _ e⟩
theorem MovesAt.gset {H:Hp} {ga mv:Addr} {gs gs':List Int} {ms:List (List (Nat × Nat))} (h:MovesAt H ga mv gs ms):MovesAt (upd H ga (.lst (gs'.map V.int))) ga mv gs' ms:=by
  obtain ⟨ls,e1,e2,e3,e4⟩:=h.ex
  refine ⟨h.ne,upd_same,ls,by rw [upd_ne h.ne.symm]; exact e1,e2,e3,fun i a c h1 h2=>(e4 i a c h1 h2).keep (fun o e=>?_) fun t xs e=>?_⟩
  · rw [upd_ne (e3 a (List.mem_of_getElem? h1)).1]; exact e
  · rw [upd_ne (ne_of e h.g (by intro z; cases z))]; exact e
theorem MovesAt.mset {H:Hp} {ga mv n:Addr} {gs:List Int} {ms:List (List (Nat × Nat))} {ls:List Addr} {r:Nat} {c:List (Nat × Nat)} (h:MovesAt H ga mv gs ms) (e1:H mv=some (.lst (ls.map V.ref))) (hr:r < ls.length) (hn1:n≠ga) (hn2:n≠mv) (hc:ChainAt H n c) :
    MovesAt (upd H mv (.lst ((ls.map V.ref).set r (.ref n)))) ga mv gs (ms.set r c):=by
  obtain ⟨ls',f1,e2,e3,e4⟩:=h.ex
  rw [e1] at f1
  have:ls'=ls:=by
    have f2:=HO.lst.inj (Option.some.inj f1)
    have hinj:∀ a b:Addr,V.ref a=V.ref b→a=b:=fun a b z=>V.ref.inj z
    exact (List.map_inj_right (f:=V.ref) (fun a b z=>hinj a b z)).mp f2.symm
  subst this
  have kp:∀ a c,ChainAt H a c→a≠mv→ChainAt (upd H mv (.lst ((ls'.map V.ref).set r (.ref n)))) a c:=fun a c hc hne=>hc.keep (fun o e=>by rw [upd_ne hne]; exact e) fun t xs e=>by
    rw [upd_ne (ne_of e e1 (by intro z; cases z))]; exact e
  refine ⟨h.ne,by rw [upd_ne h.ne]; exact h.g,ls'.set r n,by rw [upd_same,List.map_set],by simp [e2],fun a ha=>?_,fun i a c' h1 h2=>?_⟩
  · rcases List.mem_or_eq_of_mem_set ha with z | z
    · exact e3 a z
    · rw [z]; exact ⟨hn1,hn2⟩
  · by_cases hi:r=i
    · subst hi
      rw [List.getElem?_set_self hr] at h1
      rw [List.getElem?_set_self (by omega)] at h2
      cases h1
      cases h2
      exact kp _ _ hc hn2
    · rw [List.getElem?_set_ne hi] at h1
      rw [List.getElem?_set_ne hi] at h2
      exact kp _ _ (e4 i a c' h1 h2) (e3 a (List.mem_of_getElem? h1)).2
def But2 (ga mv:Addr) (H H':Hp):Prop:=∀ b o,H b=some o→b≠ga→b≠mv→H' b=some o
structure BestOk (beds:List Int) (worths:List (List Int)):Prop where
  b1:beds.length≤10
  w1:worths.length≤10
  rows:∀ row∈worths,row.length=beds.length
theorem bF_out (beds:List Int):∀ r,beds.length≤r→bF beds r=0:=fun r h=>by simp [bF,List.getD,h]
def Opt (beds:List Int) (worths:List (List Int)) (way:List Nat):Prop:=∀ v:List Nat,v.length=way.length→Fit (bF beds) v→wsum (wF worths) v≤wsum (wF worths) way
theorem fit_lt {beds:List Int} {way:List Nat} (h:Fit (bF beds) way):∀ r∈way,r < beds.length:=fun r hr=>by
  refine Classical.byContradiction fun z=>?_
  have h1:=bF_out beds r (by omega)
  have h2:=h r
  have h3:=List.count_pos_iff.mpr hr
  omega
def sp_improve (K:PySem.W.Frag) (C:Addr):Sp:=fun vs H Q _ => ∃ (H0:Hp) (p a ga mv:Addr) (beds:List Int) (worths:List (List Int)) (rent:Int) (way:List Nat) (st:GM),vs=[.ref p,.ref a,.ref ga,.ref mv]∧Same H0 H∧H0 ga=none∧H0 mv=none ∧
  HouseAt C H0 p beds worths rent∧H0 a=some (.lst ((wI way).map V.int))∧BestOk beds worths∧way.length < worths.length∧Fit (bF beds) way∧Opt beds worths way∧Ok (wF worths) way beds.length st∧MovesAt H ga mv st.1 st.2 ∧
  ∀ H',But2 ga mv H H'→MovesAt H' ga mv (turn (wF worths) way beds.length st).1 (turn (wF worths) way beds.length st).2→Q .non H'
theorem HouseAt.sameB {C:Addr} {H H':Hp} {p:Addr} {beds:List Int} {worths:List (List Int)} {rent:Int} (h:HouseAt C H p beds worths rent) (s:SameB H H'):HouseAt C H' p beds worths rent:=by
  obtain ⟨dx,b,w,h1,h2,ws,h3,h4,h5⟩:=h.ex
  exact ⟨dx,b,w,s.to _ _ h1 rfl,s.to _ _ h2 rfl,ws,s.to _ _ h3 rfl,h4,fun i a row e1 e2=>s.to _ _ (h5 i a row e1 e2) rfl⟩
theorem Mat.sameB {H H':Hp} {w:Addr} {worths:List (List Int)} (h:Mat H w worths) (s:SameB H H'):Mat H' w worths:=by
  obtain ⟨ws,h3,h4,h5⟩:=h
  exact ⟨ws,s.to _ _ h3 rfl,h4,fun i a row e1 e2=>s.to _ _ (h5 i a row e1 e2) rfl⟩
theorem zsum:∀ R:Nat,((List.range R).map fun _=>(0:Nat)).sum=0
  | 0=>rfl
  | R + 1=>by
    rw [List.range_succ,List.map_append,List.sum_append,zsum R]
    rfl
theorem ind_sum (x:Nat):∀ R:Nat,((List.range R).map fun r=>ind x r).sum≤1:=by
  intro R
  induction R with
  | zero=>simp
  | succ R ih =>
    rw [List.range_succ,List.map_append,List.sum_append]
    by_cases h:x=R
    · subst h
      have:((List.range x).map fun r=>ind x r).sum=0:=by
        have:(List.range x).map (fun r=>ind x r)=(List.range x).map fun _=>0:=List.map_congr_left fun r hr=>ind_ne (Nat.ne_of_gt (List.mem_range.mp hr))
        rw [this]
        exact zsum x
      rw [this]
      simp [ind]
    · simp [ind_ne h]
      exact ih
theorem count_sum (way:List Nat) (R:Nat):((List.range R).map fun r=>way.count r).sum≤way.length:=by
  induction way with
  | nil =>
    have:=zsum R
    simp [this]
  | cons x l ih =>
    have h1:(List.range R).map (fun r=>(x :: l).count r)=(List.range R).map (fun r=>l.count r + ind x r):=List.map_congr_left fun r _=>by
      rw [List.count_cons]
      unfold ind
      by_cases h:x=r
      · subst h; simp
      · simp [h]
    have h2:∀ R,((List.range R).map (fun r=>l.count r + ind x r)).sum=((List.range R).map fun r=>l.count r).sum + ((List.range R).map fun r=>ind x r).sum:=by
      intro R
      induction R with
      | zero=>rfl
      | succ R ih' =>
        rw [List.range_succ,List.map_append,List.map_append,List.map_append,List.sum_append,List.sum_append,List.sum_append,ih']
        simp
        omega
    rw [h1,h2,List.length_cons]
    have:=ind_sum x R
    omega
theorem sum_range_getD (bs:List Int):bs.sum=((List.range bs.length).map fun r=>bs.getD r 0).sum:=by
  congr 1
  refine List.ext_getElem (by simp) fun i h1 h2=>?_
  simp [List.getD,h1]
theorem open_ex {beds:List Int} {way:List Nat} (h:(way.length:Int) < beds.sum) (hb:∀ b∈beds,0≤b):∃ r,r < beds.length∧way.count r < bF beds r:=by
  refine Classical.byContradiction fun hn=>?_
  have h1:∀ r,r < beds.length→beds.getD r 0≤((way.count r:Nat):Int):=fun r hr=>by
    have:¬ way.count r < bF beds r:=fun z=>hn ⟨r,hr,z⟩
    unfold bF at this
    omega
  have h2:∀ R,R≤beds.length→((List.range R).map fun r=>beds.getD r 0).sum≤((((List.range R).map fun r=>way.count r).sum:Nat):Int):=by
    intro R hR
    induction R with
    | zero=>simp
    | succ R ih =>
      rw [List.range_succ,List.map_append,List.map_append,List.sum_append,List.sum_append]
      have a:=ih (by omega)
      have b:=h1 R (by omega)
      simp at a b ⊢
      omega
  have h3:=h2 beds.length (Nat.le_refl _)
  rw [← sum_range_getD] at h3
  have h4:=count_sum way beds.length
  omega
theorem mem_open {beds:List Int} {way:List Nat} {z:Int}:z∈openL beds (wI way) ↔ ∃ r:Nat,z=r∧r < beds.length∧way.count r < bF beds r:=by
  unfold openL
  rw [List.mem_map]
  constructor
  · rintro ⟨r,h1,rfl⟩
    obtain ⟨h2,h3⟩:=List.mem_filter.mp h1
    have h4:=of_decide_eq_true h3
    rw [wI_count] at h4
    exact ⟨r,rfl,List.mem_range.mp h2,by unfold bF; omega⟩
  · rintro ⟨r,rfl,h1,h2⟩
    refine ⟨r,List.mem_filter.mpr ⟨List.mem_range.mpr h1,decide_eq_true ?_⟩,rfl⟩
    rw [wI_count]
    unfold bF at h2
    omega
end L2
namespace L2
open PySem PySem.Spec PyProof.Rows BW
end L2
namespace L2
open PySem PySem.Spec PyProof.Rows BW
def rMaxL (K:PySem.W.Frag):List V→Hp→VK→Prop:=fun xs H Q => ∃ (a:Addr) (ns:List Int),xs=[.ref a]∧SqL K H a (ns.map V.int)∧0 < ns.length∧∀ z∈ns,(∀ z'∈ns,z'≤z)→Q (.int z) H
theorem call_maxL {X:Cx} {K:PySem.W.Frag} (hK:X.K=K) (hc:X.calm=true):CallR X (.builtin "max") (rMaxL K):=by
  subst hK
  intro pins s σ H xs us Q I r h
  obtain ⟨a,ns,rfl,hq,hn,q⟩:=h
  obtain ⟨u,rfl,rx⟩:=vals1 r
  cases rx
  obtain ⟨its,rv,pl,hz⟩:=I.list hq
  have hl:its.length=ns.length:=by have:=rv.length; simpa using this.symm
  have ha:a < s.heap.objs.size:=by
    obtain ⟨o,n,e,_⟩:=pl
    exact Heap.lt_size e
  have hhd:X.A.in1.handled=none:=I.ok.hd hc
  have hval:∀ (i:Nat) v,its.toArray[i]? = some v→∃ t,v=.int (ns.getD i 0) t:=fun i v hv=>by
    have hv':its[i]? = some v:=by simpa using hv
    have hi:i < ns.length:=by
      have:=(List.getElem?_eq_some_iff.mp hv').1
      omega
    obtain ⟨u,h1,t,h2⟩:=rv.get (i:=i) (x:=.int ns[i]) (by simp [hi])
    rw [hv'] at h1
    cases h1
    exact ⟨t,by rw [h2]; simp [hi,List.getD]⟩
  refine call_max_walkS (wpAny_pyIter_list pl.isList ?_)
  refine ⟨s.heap.objs.size,_,_,_,its.toArray.size,_,_,_,rfl,(Walks.list hhd s.heap.objs.size a (Nat.ne_of_lt ha) its.toArray).toS,⟨⟨_,Heap.get?_push_size _ rfl,rfl,rfl⟩,pl.isList.push _⟩,?_,by rw [List.size_toArray,hl]; exact hn,CmpOf.ints_gt (fun i=>ns.getD i 0) hval,?_⟩
  · intro b hb
    rw [Heap.size_push]
    rcases List.mem_cons.mp hb with z | hb
    · rw [z]; exact Nat.lt_succ_self _
    · have z:b=a:=by simpa using hb
      rw [z]; exact Nat.lt_succ_of_lt ha
  · intro v s' hP m
    obtain ⟨b1,b2⟩:=argBest_gt (fun i=>ns.getD i 0) (its.toArray.size - 1)
    obtain ⟨t,rfl⟩:=hval _ v hP
    have hsz:its.toArray.size=ns.length:=by rw [List.size_toArray,hl]
    rw [hsz] at b1 b2 ⊢
    have hlt:argBest (fun i j=>decide (ns.getD i 0 > ns.getD j 0)) (ns.length - 1) < ns.length:=by omega
    refine ⟨.int _,H,I.moved m,⟨t,rfl⟩,q _ ?_ fun z' hz'=>?_⟩
    · have e:ns.getD (argBest (fun i j=>decide (ns.getD i 0 > ns.getD j 0)) (ns.length - 1)) 0=ns[argBest (fun i j=>decide (ns.getD i 0 > ns.getD j 0)) (ns.length - 1)]:=by
        rw [List.getD,List.getElem?_eq_getElem hlt]
        rfl
      rw [e]
      exact List.getElem_mem hlt
    · obtain ⟨i,hi,rfl⟩:=List.mem_iff_getElem.mp hz'
      have:=b2 i (by omega)
      simpa [List.getD,hi] using this
end L2
namespace L2
open PySem PySem.Spec PyProof.Rows BW
end L2
namespace L2
open PySem PySem.Spec PyProof.Rows BW
structure Fp where
  beds:List Int
  worths:List (List Int)
  rent:Int
  way:List Nat
  parts:Int
  rows:List Int
def Fp.share (F:Fp) (i r:Nat):Int:=F.parts * wF F.worths i r - F.rows.getD r 0
def Fp.envies (F:Fp) (i r:Nat):Prop:=F.share i (F.way.getD i 0) < F.share i r
def Fp.open_ (F:Fp) (r:Nat):Prop:=F.way.count r < bF F.beds r
def Fp.taken (F:Fp) (r:Nat):Prop:=0 < F.way.count r
def Fp.dear (F:Fp) (r q:Nat):Prop:=F.open_ r∧F.taken q∧F.rows.getD q 0 < F.rows.getD r 0
def Fp.sumOk (F:Fp):Prop:=(F.way.map fun r=>F.rows.getD r 0).sum=F.parts * F.rent
inductive BR
  | none
  | sum
  | envy (i r:Nat)
  | opn (r q:Nat)
def Fp.noEnvy (F:Fp):Prop:=∀ i r,i < F.worths.length→r < F.beds.length→¬ F.envies i r
def Fp.noDear (F:Fp):Prop:=∀ r q,r < F.beds.length→q < F.beds.length→¬ F.dear r q
def Fp.firstEnvy (F:Fp) (i r:Nat):Prop:=i < F.worths.length∧r < F.beds.length∧F.envies i r∧(∀ i' r',i' < i→r' < F.beds.length→¬ F.envies i' r')∧∀ r',r' < r→¬ F.envies i r'
def Fp.firstDear (F:Fp) (r q:Nat):Prop:=r < F.beds.length∧q < F.beds.length∧F.dear r q∧(∀ r' q',r' < r→q' < F.beds.length→¬ F.dear r' q')∧∀ q',q' < q→¬ F.dear r q'
def Fp.is (F:Fp):BR→Prop
  | .none=>F.sumOk∧F.noEnvy∧F.noDear
  | .sum => ¬ F.sumOk
  | .envy i r=>F.sumOk∧F.firstEnvy i r
  | .opn r q=>F.sumOk∧F.noEnvy∧F.firstDear r q
structure FpOk' (F:Fp):Prop where
  b1:F.beds.length≤10
  w1:F.worths.length≤10
  rw:∀ row∈F.worths,row.length=F.beds.length
  rl:F.rows.length=F.beds.length
  wl:F.way.length=F.worths.length
  fit:Fit (bF F.beds) F.way
  pb:-(10 ^ 100) < F.parts∧F.parts < 10 ^ 100
  rb:-(10 ^ 100) < F.rent∧F.rent < 10 ^ 100
  wb:∀ row∈F.worths,∀ x∈row,-(10 ^ 100) < x∧x < 10 ^ 100
end L2
namespace L2
open PySem PySem.Spec PyProof.Rows BW
def rMinL (K:PySem.W.Frag):List V→Hp→VK→Prop:=fun xs H Q => ∃ (a:Addr) (ns:List Int),xs=[.ref a]∧SqL K H a (ns.map V.int)∧0 < ns.length∧∀ z∈ns,(∀ z'∈ns,z≤z')→Q (.int z) H
theorem call_minL {X:Cx} {K:PySem.W.Frag} (hK:X.K=K) (hc:X.calm=true):CallR X (.builtin "min") (rMinL K):=by
  subst hK
  intro pins s σ H xs us Q I r h
  obtain ⟨a,ns,rfl,hq,hn,q⟩:=h
  obtain ⟨u,rfl,rx⟩:=vals1 r
  cases rx
  obtain ⟨its,rv,pl,hz⟩:=I.list hq
  have hl:its.length=ns.length:=by have:=rv.length; simpa using this.symm
  have ha:a < s.heap.objs.size:=by
    obtain ⟨o,n,e,_⟩:=pl
    exact Heap.lt_size e
  have hhd:X.A.in1.handled=none:=I.ok.hd hc
  have hval:∀ (i:Nat) v,its.toArray[i]? = some v→∃ t,v=.int (ns.getD i 0) t:=fun i v hv=>by
    have hv':its[i]? = some v:=by simpa using hv
    have hi:i < ns.length:=by
      have:=(List.getElem?_eq_some_iff.mp hv').1
      omega
    obtain ⟨u,h1,t,h2⟩:=rv.get (i:=i) (x:=.int ns[i]) (by simp [hi])
    rw [hv'] at h1
    cases h1
    exact ⟨t,by rw [h2]; simp [hi,List.getD]⟩
  refine call_min_walkS (wpAny_pyIter_list pl.isList ?_)
  refine ⟨s.heap.objs.size,_,_,_,its.toArray.size,_,_,_,rfl,(Walks.list hhd s.heap.objs.size a (Nat.ne_of_lt ha) its.toArray).toS,⟨⟨_,Heap.get?_push_size _ rfl,rfl,rfl⟩,pl.isList.push _⟩,?_,by rw [List.size_toArray,hl]; exact hn,CmpOf.ints_lt (fun i=>ns.getD i 0) hval,?_⟩
  · intro b hb
    rw [Heap.size_push]
    rcases List.mem_cons.mp hb with z | hb
    · rw [z]; exact Nat.lt_succ_self _
    · have z:b=a:=by simpa using hb
      rw [z]; exact Nat.lt_succ_of_lt ha
  · intro v s' hP m
    obtain ⟨b1,b2⟩:=argBest_lt (fun i=>ns.getD i 0) (its.toArray.size - 1)
    obtain ⟨t,rfl⟩:=hval _ v hP
    have hsz:its.toArray.size=ns.length:=by rw [List.size_toArray,hl]
    rw [hsz] at b1 b2 ⊢
    have hlt:argBest (fun i j=>decide (ns.getD i 0 < ns.getD j 0)) (ns.length - 1) < ns.length:=by omega
    refine ⟨.int _,H,I.moved m,⟨t,rfl⟩,q _ ?_ fun z' hz'=>?_⟩
    · have e:ns.getD (argBest (fun i j=>decide (ns.getD i 0 < ns.getD j 0)) (ns.length - 1)) 0=ns[argBest (fun i j=>decide (ns.getD i 0 < ns.getD j 0)) (ns.length - 1)]:=by
        rw [List.getD,List.getElem?_eq_getElem hlt]
        rfl
      rw [e]
      exact List.getElem_mem hlt
    · obtain ⟨i,hi,rfl⟩:=List.mem_iff_getElem.mp hz'
      have:=b2 i (by omega)
      simpa [List.getD,hi] using this
end L2
namespace L2
open PySem PySem.Spec PyProof.Rows BW
theorem rsum_le {f g:Nat→Int}:∀ n:Nat,(∀ i,i < n→f i≤g i)→((List.range n).map f).sum≤((List.range n).map g).sum
  | 0,_=>by simp
  | n + 1,h=>by
    rw [List.range_succ,List.map_append,List.map_append,List.sum_append,List.sum_append]
    have h1:=rsum_le n fun i hi=>h i (by omega)
    have h2:=h n (by omega)
    simp
    omega
theorem rsum_eq {f g:Nat→Int}:∀ n:Nat,(∀ i,i < n→f i≤g i)→((List.range n).map f).sum=((List.range n).map g).sum→∀ i,i < n→f i=g i
  | 0,_,_,i,hi=>absurd hi (Nat.not_lt_zero _)
  | n + 1,h,e,i,hi=>by
    rw [List.range_succ,List.map_append,List.map_append,List.sum_append,List.sum_append] at e
    have h1:=rsum_le n fun i hi=>h i (by omega)
    have h2:=h n (by omega)
    simp at e
    by_cases hin:i=n
    · subst hin; omega
    · exact rsum_eq n (fun i hi=>h i (by omega)) (by omega) i (by omega)
theorem rsum_add (f g:Nat→Int) (n:Nat):((List.range n).map fun i=>f i + g i).sum=((List.range n).map f).sum + ((List.range n).map g).sum:=by
  induction n with
  | zero=>simp
  | succ n ih =>
    rw [List.range_succ,List.map_append,List.map_append,List.map_append,List.sum_append,List.sum_append,List.sum_append,ih]
    simp
    omega
theorem map_range {α:Type} (v:List Nat) (f:Nat→Int):(v.map f).sum=((List.range v.length).map fun i=>f (v.getD i 0)).sum:=by
  congr 1
  refine List.ext_getElem (by simp) fun i h1 h2=>?_
  simp at h1
  simp [List.getD,h1]
end L2
namespace L2
open PySem PySem.Spec PyProof.Rows BW
theorem inV_ints (z:Int) (ns:List Int):inV (.int z) (ns.map V.int)=decide (z∈ns):=by
  unfold inV
  rw [Bool.eq_iff_iff,List.any_eq_true,decide_eq_true_iff]
  constructor
  · rintro ⟨y,hy,e⟩
    obtain ⟨n,hn,rfl⟩:=List.mem_map.mp hy
    have:n=z:=by simpa [eqV] using e
    rw [← this]
    exact hn
  · intro h
    exact ⟨.int z,List.mem_map.mpr ⟨z,h,rfl⟩,by simp [eqV]⟩
end L2
namespace L2
open PySem PySem.Spec PyProof.Rows BW
end L2
namespace L2
open PySem PySem.Spec PyProof.Rows BW
end L2
namespace L2
open PySem PySem.Spec PyProof.Rows BW
section
variable {prog:Program} {w:World} {A:Around} {s:Shared} {R:Result→Shared→Prop}
variable {I:Addr} {fp wr:List Addr} {G:Array GenState→Array GenState→Prop} {n:Nat} {P:Nat→Value→Prop} {St:Nat→Shared→Prop}
end
section
variable {prog:Program} {w:World} {A:Around} {E:Value→Shared→Prop} {s:Shared}
variable {I:Addr} {fp wr:List Addr} {G:Array GenState→Array GenState→Prop} {n:Nat} {P:Nat→Value→Prop} {St:Nat→Shared→Prop}
end
theorem vals_app {xs ys:List V} {us vs:List Value} (a:Vals xs us) (b:Vals ys vs):Vals (xs ++ ys) (us ++ vs):=by
  induction a with
  | nil=>exact b
  | cons h _ ih=>exact .cons h ih
theorem vals_rev {xs:List V} {us:List Value} (a:Vals xs us):Vals xs.reverse us.reverse:=by
  induction a with
  | nil=>exact .nil
  | cons h _ ih =>
    rw [List.reverse_cons,List.reverse_cons]
    exact vals_app ih (.cons h .nil)
end L2
namespace L2
open PySem PySem.Spec PyProof.Rows BW
end L2
namespace L2
open PySem PySem.Spec PyProof.Rows BW
end L2
namespace L2
open PySem PySem.Spec PyProof.Rows BW
end L2
namespace L2
open PySem PySem.Spec PyProof.Rows
def Rise (xs:Array Nat):Prop:=∀ i k,i < k→k < xs.size→xs.getD i 0 < xs.getD k 0
theorem getD_in {xs:Array Nat} {i d:Nat} (h:i < xs.size):xs.getD i d=xs.getD i 0:=by simp [Array.getD,h]
theorem below_go {xs:Array Nat} {j:Nat} (hr:Rise xs):∀ (fuel lo hi:Nat),lo≤hi→hi≤xs.size→hi - lo≤fuel→(∀ i,i < lo→xs.getD i 0 < j)→(∀ i,hi≤i→i < xs.size→j≤xs.getD i 0) →
    SetTable.below.go xs j fuel lo hi≤xs.size∧(∀ i,i < SetTable.below.go xs j fuel lo hi→xs.getD i 0 < j)∧∀ i,SetTable.below.go xs j fuel lo hi≤i→i < xs.size→j≤xs.getD i 0
  | 0,lo,hi,h1,h2,h3,h4,h5=>by
    unfold SetTable.below.go
    exact ⟨by omega,h4,fun i hi'=>h5 i (by omega)⟩
  | fuel + 1,lo,hi,h1,h2,h3,h4,h5=>by
    unfold SetTable.below.go
    by_cases hlt:lo < hi
    · rw [if_pos hlt]
      have hm:(lo + hi) / 2 < xs.size:=by omega
      dsimp only
      rw [getD_in hm]
      by_cases hx:xs.getD ((lo + hi) / 2) 0 < j
      · rw [if_pos hx]
        refine below_go hr fuel _ _ (by omega) h2 (by omega) (fun i hi'=>?_) h5
        by_cases e:i=(lo + hi) / 2
        · rw [e]; exact hx
        · have:=hr i ((lo + hi) / 2) (by omega) hm
          omega
      · rw [if_neg hx]
        refine below_go hr fuel _ _ (by omega) (by omega) (by omega) h4 fun i hi' hs=>?_
        by_cases e:i=(lo + hi) / 2
        · rw [e]; omega
        · have:=hr ((lo + hi) / 2) i (by omega) hs
          omega
    · rw [if_neg hlt]
      exact ⟨by omega,h4,fun i hi'=>h5 i (by omega)⟩
theorem below_spec {xs:Array Nat} {j:Nat} (hr:Rise xs):SetTable.below xs j≤xs.size∧(∀ i,i < SetTable.below xs j→xs.getD i 0 < j)∧∀ i,SetTable.below xs j≤i→i < xs.size→j≤xs.getD i 0:=by
  unfold SetTable.below
  exact below_go hr _ _ _ (Nat.zero_le _) (Nat.le_refl _) (by omega) (fun i h=>absurd h (Nat.not_lt_zero _)) fun i h1 h2=>by omega
theorem below_next {xs:Array Nat} (hr:Rise xs) {k:Nat} (h:k < xs.size):SetTable.below xs (xs.getD k 0 + 1)=k + 1:=by
  obtain ⟨b1,b2,b3⟩:=below_spec (j:=xs.getD k 0 + 1) hr
  rcases Nat.lt_trichotomy (SetTable.below xs (xs.getD k 0 + 1)) (k + 1) with z | z | z
  · have:=b3 k (by omega) h
    omega
  · exact z
  · have h1:=b2 (k + 1) z
    have h2:=hr k (k + 1) (by omega) (by omega)
    omega
theorem below_zero {xs:Array Nat} (hr:Rise xs):SetTable.below xs 0=0:=by
  obtain ⟨b1,b2,b3⟩:=below_spec (j:=0) hr
  refine Classical.byContradiction fun z=>?_
  have:=b2 0 (by omega)
  omega
structure SInv (led:Bool) (t:SetTable):Prop where
  rise:Rise t.place
  dum:t.dummies=#[]
  led_:t.led=led
theorem range_rise (n:Nat):Rise (Array.range n):=fun i k h1 h2=>by
  have h2':k < n:=by simpa using h2
  simp [Array.getD,h2',show i < n by omega]
  exact h1
theorem standIn_inv {led:Bool} {t:SetTable} (h:t.led=led) (n:Nat):SInv led (t.standIn n):=⟨range_rise n,rfl,h⟩
theorem orStandIn_inv {led:Bool} {t:SetTable} (h:SInv led t) (n:Nat):SInv led (t.orStandIn n):=by
  unfold SetTable.orStandIn
  split
  · exact h
  · exact standIn_inv h.led_ n
theorem insert_rise {xs:Array Nat} {j:Nat} (hr:Rise xs) (hn:xs[SetTable.below xs j]?≠some j):Rise (SetTable.insertAt xs (SetTable.below xs j) j):=by
  obtain ⟨b1,b2,b3⟩:=below_spec (j:=j) hr
  generalize SetTable.below xs j=p at *
  have hs:(SetTable.insertAt xs p j).size=xs.size + 1:=by
    unfold SetTable.insertAt
    simp
    omega
  have g:∀ i,i < xs.size + 1→(SetTable.insertAt xs p j).getD i 0=if i < p then xs.getD i 0 else if i=p then j else xs.getD (i - 1) 0:=fun i hi=>by
    unfold SetTable.insertAt
    rw [Array.getD_eq_getD_getElem?,Array.getElem?_append]
    by_cases h1:i < p
    · rw [if_pos h1,if_pos (by simp; omega),Array.getElem?_push]
      simp [Array.getElem?_extract,Nat.min_eq_left b1,h1,Nat.ne_of_lt h1,show i < xs.size by omega]
    · rw [if_neg h1]
      by_cases h2:i=p
      · subst h2
        rw [if_pos rfl,if_pos (by simp [Nat.min_eq_left b1]),Array.getElem?_push]
        simp [Nat.min_eq_left b1]
      · rw [if_neg h2,if_neg (by simp [Nat.min_eq_left b1]; omega)]
        simp [Array.getElem?_extract,Nat.min_eq_left b1]
        have e:p + (i - (p + 1))=i - 1:=by omega
        rw [e]
        have:i - (p + 1) < xs.size - p:=by omega
        simp [this]
  intro i k h1 h2
  rw [hs] at h2
  rw [g i (by omega),g k h2]
  have hp:∀ m,p≤m→m < xs.size→j < xs.getD m 0:=fun m hm1 hm2=>by
    have h3:=b3 m hm1 hm2
    by_cases e:m=p
    · subst e
      refine Nat.lt_of_le_of_ne h3 fun z=>hn ?_
      rw [Array.getElem?_eq_getElem hm2]
      have:xs.getD m 0=xs[m]:=by simp [Array.getD,hm2]
      rw [← this,← z]
    · have h4:=hr p m (by omega) hm2
      have h5:=b3 p (Nat.le_refl _) (by omega)
      omega
  by_cases c1:k < p
  · rw [if_pos c1,if_pos (by omega)]
    exact hr i k h1 (by omega)
  · rw [if_neg c1]
    by_cases c2:k=p
    · rw [if_pos c2,if_pos (by omega)]
      exact b2 i (by omega)
    · rw [if_neg c2]
      by_cases c3:i < p
      · rw [if_pos c3]
        by_cases c4:i < k - 1
        · exact hr i (k - 1) c4 (by omega)
        · omega
      · rw [if_neg c3]
        by_cases c5:i=p
        · rw [if_pos c5]
          exact hp (k - 1) (by omega) (by omega)
        · rw [if_neg c5]
          exact hr (i - 1) (k - 1) (by omega) (by omega)
theorem has_nil (j:Nat):SetTable.has #[] j=false:=by
  unfold SetTable.has
  simp
theorem slot_nil {t:SetTable} (h:t.dummies=#[]) (j:Nat):t.slot j=.empty∧t.place[SetTable.below t.place j]?≠some j∨∃ i,t.slot j=.live i:=by
  unfold SetTable.slot
  dsimp only
  by_cases c:t.place[SetTable.below t.place j]? = some j
  · right
    rw [if_pos (by rw [c]; simp)]
    exact ⟨_,rfl⟩
  · left
    rw [if_neg (by simpa using c),h,has_nil]
    exact ⟨rfl,c⟩
theorem probe_go {t:SetTable} (h:t.dummies=#[]) (x:Int):∀ (fuel:Nat) (p:SetTable.Probe),p.dummy=none→∀ j d,SetTable.probe.go t (fun _=>x + 1) x fuel p=some (.empty j d)→d=none∧t.place[SetTable.below t.place j]?≠some j
  | 0,p,_,j,d,e=>by simp [SetTable.probe.go] at e
  | fuel + 1,p,hp,j,d,e=>by
    unfold SetTable.probe.go at e
    rcases slot_nil h p.j with ⟨c,c'⟩ | ⟨i,c⟩
    · rw [c] at e
      cases e
      exact ⟨hp,c'⟩
    · rw [c] at e
      dsimp only at e
      rw [if_neg (by simp; omega)] at e
      refine probe_go h x fuel _ ?_ j d e
      unfold SetTable.advance
      split
      · exact hp
      · exact hp
theorem freeSlot_inv {t:SetTable} (h:t.dummies=#[]) {x:Int} {slot:Nat} {wd:Bool} (e:t.freeSlot x=some (slot,wd)):wd=false∧t.place[SetTable.below t.place slot]?≠some slot:=by
  unfold SetTable.freeSlot at e
  split at e
  · rename_i j d he
    unfold SetTable.probe at he
    obtain ⟨rfl,h2⟩:=probe_go h x _ _ rfl j d he
    cases e
    exact ⟨rfl,h2⟩
  · cases e
theorem put_inv {led:Bool} {t:SetTable} (h:SInv led t) {j:Nat} (hn:t.place[SetTable.below t.place j]?≠some j):SInv led (t.put j).1:=by
  unfold SetTable.put
  refine ⟨insert_rise h.rise hn,?_,h.led_⟩
  show (if SetTable.has t.dummies j=true then _ else t.dummies)=#[]
  rw [h.dum,has_nil]
  rfl
theorem layNew_inv {led:Bool} {t:SetTable} (h:SInv led t) (es:Array (Int × Value)) (x:Int) (v:Value):SInv led (layNew t es x v).2.1:=by
  unfold layNew
  split
  · rename_i slot wd he
    exact orStandIn_inv (put_inv h (freeSlot_inv h.dum he).2) _
  · exact standIn_inv h.led_ _
theorem filterMap_rise {m:Nat} {f:Nat→Option Nat}:Rise (((List.range m).filterMap fun j=>(f j).map fun k=>(j,k)).map Prod.fst).toArray:=by
  have hp:(((List.range m).filterMap fun j=>(f j).map fun k=>(j,k)).map Prod.fst).Pairwise (· < ·):=by
    rw [List.pairwise_map,List.pairwise_filterMap]
    refine List.Pairwise.imp ?_ (List.pairwise_lt_range (n:=m))
    intro a b hab x hx y hy
    cases ha:f a with
    | none=>rw [ha] at hx; cases hx
    | some k =>
      cases hb:f b with
      | none=>rw [hb] at hy; cases hy
      | some k' =>
        rw [ha] at hx
        rw [hb] at hy
        cases hx
        cases hy
        exact hab
  intro i k h1 h2
  have h2':k < (((List.range m).filterMap fun j=>(f j).map fun k=>(j,k)).map Prod.fst).length:=by simpa using h2
  have:=List.pairwise_iff_getElem.mp hp i k (by omega) h2' h1
  simp only [Array.getD_eq_getD_getElem?,List.getElem?_toArray,List.getElem?_eq_getElem h2',List.getElem?_eq_getElem (show i < _ from Nat.lt_trans h1 h2'),Option.getD_some]
  exact this
theorem relayAll_inv {led:Bool} {t:SetTable} (h:SInv led t) (es:Array (Int × Value)) (n:Nat):SInv led (relayAll t es n).2.1:=by
  unfold relayAll
  split
  · rename_i t' order he
    dsimp only
    split
    · unfold SetTable.relaid SetTable.laid at he
      cases ho:SetTable.layClean (SetTable.sizeAbove n - 1) (es.map (·.1)) with
      | none=>rw [ho] at he; cases he
      | some owner =>
        rw [ho] at he
        cases he
        exact ⟨filterMap_rise,rfl,h.led_⟩
    · exact standIn_inv h.led_ _
  · exact standIn_inv h.led_ _
end L2
namespace L2
open PySem PySem.Spec PyProof.Rows
section
variable {prog:Program} {w:World} {K:Type} [DecidableEq K] {knd:KeyKind prog w K} {A:Around} {E:Value→Shared→Prop} {s:Shared}
def LedAt (led:Bool) (h:Heap) (a:Addr):Prop:=∃ o es ep t,h.get? a=some o∧o.data=.set es ep t∧SInv led t
theorem SInv.plain {led:Bool} {t:SetTable} (h:SInv led t) (b:Bool):SInv led { t with plain:=b }:=⟨h.rise,h.dum,h.led_⟩
theorem lay_led {led:Bool} {g:Bool→Sem Unit} (hg:∀ (b:Bool) (s₁:Shared) (Q':Unit→Shared→Prop),Q' () s₁→wpAny (model prog w) A (g b) Q' E s₁)
    {a:Addr} {o:Obj} {es:Array (Int × Value)} {ep:Nat} {t:SetTable} (ho:s.heap.get? a=some o) (hex:o.ExactSet) (hd:o.data=.set es ep t)
    {es1:Array (Int × Value)} {t2:SetTable} {S':K→Bool} (hel1:ElemsOf knd es1.toList) (hmem1:∀ k',S' k'=true ↔ ∃ e∈es1.toList,knd.is k' e.2=true)
    (hb1:es1.size < scanBound) (hf2:t2.fits es1.size=true) (hi:SInv led t2) {wd:Bool} {R:Option Bool→Shared→Prop}
    (h:∀ h',Heap.SameBut a s.heap h'→h'.SetOf knd a S' es1.size→LedAt led h' a→R (some true) { s with heap:=h' }) :
    wpAny (model prog w) A (do
        storeSet a es1 t2
        if (!wd && t2.tooFull)=true then do
            g (relayAll t2 es1 (SetTable.grown es1.size)).2.2
            storeSet a (relayAll t2 es1 (SetTable.grown es1.size)).1 (relayAll t2 es1 (SetTable.grown es1.size)).2.1
            pure (some true)
          else pure (some true)) R E s:=by
  obtain ⟨ho1,hS1⟩:=SetOf_store (knd:=knd) ho hex hd hel1 hmem1 hb1 hf2
  refine wpAny_bind (wpAny_storeSet_of ho hd ?_ (fits_of_scanBound hb1))
  split
  · have hp:=relayAll_perm t2 es1 (SetTable.grown es1.size)
    have hm:∀ k',S' k'=true ↔ ∃ e∈(relayAll t2 es1 (SetTable.grown es1.size)).1.toList,knd.is k' e.2=true:=fun k'=>by
      rw [hmem1 k']
      constructor
      · rintro ⟨e,he,q⟩
        exact ⟨e,hp.mem_iff.mpr he,q⟩
      · rintro ⟨e,he,q⟩
        exact ⟨e,hp.mem_iff.mp he,q⟩
    have hz:(relayAll t2 es1 (SetTable.grown es1.size)).1.size=es1.size:=by rw [← Array.length_toList,hp.length_eq,Array.length_toList]
    obtain ⟨ho2,hS2⟩:=SetOf_store (knd:=knd) ho1 hex rfl (hel1.perm hp) hm (by rw [hz]; exact hb1) (relayAll_fits t2 es1 (SetTable.grown es1.size))
    rw [hz] at hS2
    refine wpAny_bind (hg _ _ _ (wpAny_bind (wpAny_storeSet_of ho1 rfl ?_ (fits_of_scanBound (by rw [hz]; exact hb1)))))
    exact wpAny_pure (h _ ((Heap.SameBut.update s.heap a _).trans (Heap.SameBut.update _ a _)) hS2 ⟨_,_,_,_,ho2,rfl,relayAll_inv hi _ _⟩)
  · exact wpAny_pure (h _ (Heap.SameBut.update s.heap a _) hS1 ⟨_,_,_,_,ho1,rfl,hi⟩)
theorem add_led {led:Bool} {a:Addr} {S:K→Bool} {n:Nat} {k:K} {x:Value} {Q:Bool→Shared→Prop} (hkey:knd.is k x=true) (hsc:x.scannable=true) (hS:s.heap.SetOf knd a S n) (hL:LedAt led s.heap a)
    (hroom:n + 1 < scanBound)
    (h:∀ h',Heap.SameBut a s.heap h'→h'.SetOf knd a (fun k'=>S k' || decide (k'=k)) (if S k then n else n + 1)→LedAt led h' a→Q (!S k) { s with heap:=h' }) :
    wpAny (model prog w) A (setAddHashed a x (knd.hash k)) Q E s:=by
  obtain ⟨o,es,ep,t,ho,hex,hd,hel,hmem,hb,hf,hn⟩:=id hS
  have hi:SInv led t:=by
    obtain ⟨o',es',ep',t',ho',hd',hi'⟩:=hL
    rw [ho] at ho'
    cases ho'
    rw [hd] at hd'
    cases hd'
    exact hi'
  unfold setAddHashed setAddHashedIn
  refine wpAny_holding (wpAny_bind (wpAny_setState_of ho hd hf ?_))
  dsimp only
  rw [byScan_of hsc hb hel]
  simp only [↓reduceIte]
  unfold setAddByScan
  refine wpAny_bind (wpAny_bind (wpAny_rule (wpAny_bind (wpAny_setScan_of hkey ho hd hf hel ?_))))
  have hfound:S k=true ↔ (List.findIdx? (fun e=>knd.is k e.2) es.toList).isSome=true:=by
    rw [hmem k,List.findIdx?_isSome,List.any_eq_true]
  cases hr:List.findIdx? (fun e=>knd.is k e.2) es.toList with
  | some j =>
    have hSk:S k=true:=hfound.mpr (by rw [hr]; rfl)
    have hst:=h s.heap (Heap.SameBut.refl a s.heap) (by
      rw [if_pos hSk]
      refine ⟨o,es,ep,t,ho,hex,hd,hel,fun k'=>?_,hb,hf,hn⟩
      rw [← hmem k']
      by_cases e:k'=k
      · subst e; simp [hSk]
      · simp [e]) hL
    rw [hSk] at hst
    exact wpAny_pure (wpAny_pure hst)
  | none =>
    have hSk:S k=false:=by
      cases c:S k with
      | false=>rfl
      | true=>have:=hfound.mp c; rw [hr] at this; cases this
    dsimp only
    have hp:=layNew_perm t es (knd.hash k) x
    have hlf:=layNew_fits t es (knd.hash k) x
    have hli:=layNew_inv hi es (knd.hash k) x
    generalize layNew t es (knd.hash k) x=L at hp hlf hli ⊢
    obtain ⟨es1,t1,wd,gave⟩:=L
    dsimp only at hp hlf hli ⊢
    rw [Array.toList_push] at hp
    have hz:es1.size=n + 1:=by rw [← Array.length_toList,hp.length_eq,List.length_append,Array.length_toList,hn]; rfl
    have fin:∀ h',Heap.SameBut a s.heap h'→h'.SetOf knd a (fun k'=>S k' || decide (k'=k)) es1.size→LedAt led h' a→Q true { s with heap:=h' }:=fun h' sb hS' hL'=>by
      have:=h h' sb
      rw [hSk,if_neg (by simp)] at this
      rw [hz] at hS'
      exact this hS' hL'
    have hm:=mem_push_iff hkey hmem hp
    have he1:ElemsOf knd es1.toList:=(hel.push hkey hsc).perm hp
    have hb1:es1.size < scanBound:=by rw [hz]; exact hroom
    have tail:∀ (t2:SetTable) {g:Bool→Sem Unit},(∀ (b:Bool) (s₁:Shared) (Q':Unit→Shared→Prop),Q' () s₁→wpAny (model prog w) A (g b) Q' E s₁)→t2.fits es1.size=true→SInv led t2→∀ {R:Option Bool→Shared→Prop},(∀ s',Q true s'→R (some true) s')→wpAny (model prog w) A (do
        storeSet a es1 t2
        if (!wd && t2.tooFull)=true then do
            g (relayAll t2 es1 (SetTable.grown es1.size)).2.2
            storeSet a (relayAll t2 es1 (SetTable.grown es1.size)).1 (relayAll t2 es1 (SetTable.grown es1.size)).2.1
            pure (some true)
          else pure (some true)) R E s:=fun t2 g hg f2 i2 R hR=>lay_led hg ho hex hd he1 hm hb1 f2 i2 fun h' sb hS' hL'=>hR _ (fin h' sb hS' hL')
    have gw:∀ {s₁:Shared} {Q':Unit→Shared→Prop} (b:Bool),Q' () s₁→wpAny (model prog w) A (match b with | true=>rule "set.scan.the-table-gave-way" | false=>pure ()) Q' E s₁:=fun b hq=>by
      cases b
      · exact wpAny_pure hq
      · exact wpAny_rule hq
    refine wpAny_bind (gw gave ?_)
    split
    · rw [hashByValue_scannable 8 hsc]
      refine wpAny_bind (wpAny_pure ?_)
      refine tail _ (fun b s₁ Q' hq=>gw b hq) ?_ ?_ fun s' hq=>wpAny_pure hq
      · split
        · exact hlf
        · exact SetTable.fits_plain_off hlf
      · split
        · exact hli
        · exact hli.plain false
    · refine wpAny_bind (wpAny_pure ?_)
      exact tail _ (fun b s₁ Q' hq=>gw b hq) hlf hli fun s' hq=>wpAny_pure hq
end
end L2
namespace L2
open PySem PySem.Spec PyProof.Rows
def IntSet (prog:Program) (w:World) (led:Bool) (h:Heap) (a:Addr) (ks:List Int):Prop:=h.SetOf (intKind prog w) a (fun k'=>ks.any (· == k')) ks.length∧LedAt led h a
theorem IntSet.at_ {prog:Program} {w:World} {led:Bool} {h h':Heap} {a:Addr} {ks:List Int} (x:IntSet prog w led h a ks) (k:∀ o,h.get? a=some o→h'.get? a=some o):IntSet prog w led h' a ks:=by
  obtain ⟨⟨o,es,ep,t,ho,rest⟩,⟨o',es',ep',t',ho',rest'⟩⟩:=x
  exact ⟨⟨o,es,ep,t,k _ ho,rest⟩,⟨o',es',ep',t',k _ ho',rest'⟩⟩
section
variable {prog:Program} {w:World} {A:Around} {R:Result→Shared→Prop} {I:Addr} {fp wr:List Addr} {G:Array GenState→Array GenState→Prop} {n:Nat} {P:Nat→Value→Prop} {St:Nat→Shared→Prop} {led:Bool}
theorem update_led (W:WalksS prog w A.in1 I fp wr G n P St) (S:Addr) (hSf:S ∉ fp) (val:Nat→Int) (hval:∀ i v,P i v→∃ t,v=.int (val i) t) (hb:n + 1 < scanBound) :
    ∀ (k i:Nat) (s:Shared),n - i=k→i≤n→St i s→IntSet prog w led s.heap S (firstMet val i) →
      (∀ s',Moved (S :: wr) G s s'→IntSet prog w led s'.heap S (firstMet val n)→R (.ok (.ret .none)) s') →
      codeAny (model prog w) A (.builtin "set.update.loop" ⟨[.ref S,.ref I],[]⟩) R s:=by
  have hSw:S ∉ wr:=fun h=>hSf (W.sub _ h)
  have hsub:∀ b∈wr,b∈S :: wr:=fun b hb=>List.mem_cons_of_mem _ hb
  intro k
  induction k with
  | zero =>
    intro i s hk hi hst hS hR
    obtain rfl:i=n:=by omega
    refine codeAny_builtin F.entry_set_update_loop ?_
    rw [Around.under_plainId F.plain_set_update_loop _]
    show wpAny _ A.in1 (pyNext (.ref I) >>= _) _ _ s
    refine wpAny_bind (W.done s _ _ hst fun s' hm=>?_)
    show wpAny _ A.in1 (ret Value.none) _ _ s'
    exact wpAny_pure (hR s' (hm.mono hsub) (hS.at_ fun o e=>hm.heap S o hSw e))
  | succ k ih =>
    intro i s hk hi hst hS hR
    have hlt:i < n:=by omega
    refine codeAny_builtin F.entry_set_update_loop ?_
    rw [Around.under_plainId F.plain_set_update_loop _]
    show wpAny _ A.in1 (pyNext (.ref I) >>= _) _ _ s
    refine wpAny_bind (W.item i s _ _ hlt hst fun v s' hP hst' hm=>?_)
    obtain ⟨t,rfl⟩:=hval i v hP
    obtain ⟨hS1,hL1⟩:=hS.at_ fun o e=>hm.heap S o hSw e
    show wpAny _ A.in1 (holding [Value.int (val i) t] (setAdd S (.int (val i) t)) >>= _) _ _ s'
    refine wpAny_bind (wpAny_holding ?_)
    unfold setAdd
    refine wpAny_holding ?_
    refine wpAny_bind ((intKind prog w).pyHash (k:=val i) (intKind_is _ _ _ _) ?_)
    refine add_led (knd:=intKind prog w) (s:={ s' with toks:=s'.toks + 1 }) (intKind_is _ _ _ _) rfl hS1 hL1 (by have:=firstMet_length_le val i; omega) fun h' hsb hS2 hL2=>?_
    have hS3:IntSet prog w led h' S (firstMet val (i + 1)):=⟨SetOf_congr hS2 (fun k'=>by rw [firstMet_succ,step_any]) (by rw [firstMet_succ,step_length]),hL2⟩
    have oth:∀ b o,b≠S→s'.heap.get? b=some o→h'.get? b=some o:=fun b o hb e=>by rw [hsb.2 b hb]; exact e
    refine wpAny_pure ⟨plainId_quiet F.plain_set_update_loop _,ih (i + 1) _ (by omega) hlt (W.frame _ s' _ _ hst' (Nat.le_succ _) fun b hb o e=>oth b o (fun h=>hSf (h ▸ hb)) e) hS3 fun s'' hm'' hS''=>?_⟩
    exact hR s'' (Moved.trans W.gtrans ((hm.mono hsub).then_heap (Nat.le_succ _) fun b o hb e=>oth b o (fun h=>hb (h ▸ List.mem_cons_self)) e) hm'') hS''
end
section
variable {prog:Program} {w:World} {A:Around} {E:Value→Shared→Prop} {s:Shared}
theorem fresh_inv (led:Bool):SInv led (.fresh 0 0 led):=⟨fun i k _ h=>by simp [SetTable.fresh] at h,rfl,rfl⟩
theorem set_new_led (a:Value) {Q₁:Value→Shared→Prop}
    (h:Q₁ (.ref s.heap.objs.size) { s with heap:=s.heap.push { cls:=.type "set",dict:=none,data:=.set #[] 0 (.fresh 0 0 (!w.params.followText "set-order")) } }) :
    codeAny (model prog w) A (.call (.builtin "set.__new__") ⟨[.type "set",a],[]⟩) (wants Q₁ E) s:=by
  refine codeAny_of_tree ?_
  show wpAny _ A.in1 (do checkBuiltinCall "set.__new__" ⟨[.type "set",a],[]⟩; again (.builtin "set.__new__" ⟨[.type "set",a],[]⟩)) _ _ s
  refine wpAny_bind (wpAny_of_eq (F.newCall_set_1 a) (wpAny_pure ⟨plainId_quiet F.plain_set_new _,codeAny_builtin F.entry_set_new ?_⟩))
  rw [Around.under_plainId F.plain_set_new _]
  unfold Builtin.«set.__new__» Builtin.Frozenset.newClass
  have hsub:=sub_set_self
  obtain ⟨hp,g,d,tk,os⟩:=s
  dsimp only
  wp_walk
  refine wpAny_askSetting (wpAny_pure ?_)
  dsimp only
  simp only [newObj]
  refine wpAny_bind (wpAny_alloc (wpAny_pure ?_))
  exact wpAny_pure h
end
end L2
namespace L2
open PySem PySem.Spec PyProof.Rows
section
variable {prog:Program} {w:World} {A:Around} {E:Value→Shared→Prop} {s:Shared}
theorem call_set_led {l:Addr} {items:Array Value} {ns:List Int} {Q:Value→Shared→Prop}
    (hh:A.handled=none) (hl:s.heap.IsList l items) (hi:IntsAre items.toList ns) (hb:items.size + 1 < scanBound)
    (h:∀ (h':Heap) (tk:Nat),IntSet prog w (!w.params.followText "set-order") h' s.heap.objs.size (firstMet (fun i=>ns.getD i 0) items.size) →
      (∀ b o,b < s.heap.objs.size→s.heap.get? b=some o→h'.get? b=some o)→Q (.ref s.heap.objs.size) { s with heap:=h',toks:=tk }) :
    wpAny (model prog w) A (call (.type "set") [.ref l]) Q E s:=by
  obtain ⟨c,tl,hmro⟩:=F.called_set.mro
  have hmade:=F.called_set.made
  have hsub:=F.called_set.sub
  refine wpAny_call (codeAny_of_tree ?_)
  show wpAny _ _ (callAny (.type "set") _) _ _ _
  refine wpAny_pure ⟨Code.quiet_builtin _ (by decide +kernel),codeAny_builtin F.entry_type_call ?_⟩
  rw [Around.under_plain (weight_type_call_type "set" [.ref l] []) rfl]
  have h1:=F.called_set.notType
  have h2:=F.called_set.canCreate
  have hct:=F.typeCall_set_1 (.ref l)
  repeat (any_goals (first | assumption | wp_step))
  obtain ⟨O,hO⟩:∃ O:Obj,O={ cls:=.type "set",dict:=none,data:=.set #[] 0 (.fresh 0 0 (!w.params.followText "set-order")) }:=⟨_,rfl⟩
  refine codeAny_mono (set_new_led (.ref l) (E:=E) (Q₁:=fun obj s₁=>obj=.ref s.heap.objs.size∧s₁={ s with heap:=s.heap.push O }) ⟨rfl,by rw [hO]⟩) fun r s₁ hr=>?_
  cases r with
  | error e=>exact hr
  | ok fl =>
    cases fl with
    | ret obj =>
      obtain ⟨rfl,rfl⟩:=hr
      have hS:(s.heap.push O).get? s.heap.objs.size=some O:=Heap.get?_push_size _ (by rw [hO]; rfl)
      have hT:Shared.TypeIs { s with heap:=s.heap.push O } (.ref s.heap.objs.size) "set" := ⟨_,hS,by rw [hO]⟩
      have hli:=F.called_set.init.lookup
      have hbi:=F.called_set.init.bind (.ref s.heap.objs.size)
      repeat (any_goals (first | assumption | wp_step))
      refine codeAny_mono (codeAny_call_builtin (R:=wants (fun r s₂=>r=.none∧∃ h' tk,s₂={ s with heap:=h',toks:=tk } ∧
          IntSet prog w (!w.params.followText "set-order") h' s.heap.objs.size (firstMet (fun i=>ns.getD i 0) items.size) ∧
          (∀ b o,b < s.heap.objs.size→s.heap.get? b=some o→h'.get? b=some o)) E) F.called_set.init.plain F.entry_set_init (check_set_init_1 hT ?_)) fun r₂ s₂ hr₂=>?_
      · obtain ⟨ol,hol,hcl,nl,hdl⟩:=id hl
        obtain ⟨ocls,odict,odata,oslots⟩:=ol
        simp only at hcl hdl
        subst hcl; subst hdl
        have hol':(s.heap.push O).get? l=some { cls:=.type "list",dict:=odict,data:=.seq items nl,slots:=oslots }:=Heap.get?_push_of_some _ hol
        have hsls:=F.sub_list_set
        have hslf:=F.sub_list_frozenset
        have hne:(Value.type "list" == Value.type "dict")=false:=by decide
        have hl1:(s.heap.push O).IsList l items:=⟨_,hol',rfl,nl,rfl⟩
        unfold Builtin.«set.__init__» noKeywords Builtin.Frozenset.updateFrom
        generalize hPI:pyIter=PI
        rw [hO] at hS hol' hl1 hT ⊢
        wp_walk
        subst hPI
        refine wpAny_pyIter_list hl1 ?_
        refine wpAny_bind (wpAny_runValue ?_)
        have hlS:l < s.heap.objs.size:=Heap.lt_size hol
        have hh3:A.in1.in1.in1.handled=none:=by simp [hh]
        rw [← hO] at hS hl1 ⊢
        have hz:(s.heap.push O).objs.size=s.heap.objs.size + 1:=Heap.size_push _ _
        have hval:∀ (i:Nat) (v:Value),items[i]? = some v→∃ t,v=.int ((fun i=>ns.getD i 0) i) t:=fun i v hv=>IntsAre.int_at hi i v (by rw [Array.getElem?_toList]; exact hv)
        refine update_led (led:=!w.params.followText "set-order") ((Walks.list hh3 _ l (by rw [hz]; exact Nat.ne_of_lt (Nat.lt_succ_of_lt hlS)) items).toS) s.heap.objs.size (by rw [hz]; simp only [List.mem_cons,List.not_mem_nil,or_false,not_or]; exact ⟨Nat.ne_of_lt (Nat.lt_succ_self _),Nat.ne_of_gt hlS⟩) (fun i=>ns.getD i 0) hval hb (items.size - 0) 0 _ (by omega) (Nat.zero_le _)
          ⟨⟨_,Heap.get?_push_size _ rfl,rfl,rfl⟩,(hl1.push _)⟩ ?hS0 ?hR
        case hS0 =>
          have hget:=Heap.get?_push_of_some { cls:=.type "list_iterator",data:=.fields #[.ref l,.int 0 0] } hS
          refine ⟨SetOf_congr ((setObjOf_fresh (knd:=intKind prog w) (!w.params.followText "set-order")).setOf (hO ▸ hget) (by unfold scanBound; omega)) (fun _=>rfl) rfl,⟨O,#[],0,_,hget,by rw [hO],fresh_inv _⟩⟩
        case hR =>
          intro s' hm hS'
          obtain ⟨h',g',d',tk',os'⟩:=s'
          have eg:g'=s.gens:=hm.gens
          have ed:d'=s.drawn:=hm.drawn
          have eo:os'=s.os:=hm.os
          subst eg; subst ed; subst eo
          show wpAny _ _ _ _ _ _
          refine wpAny_pure ?_
          show wpAny _ _ (ret Value.none) _ _ _
          refine wpAny_pure ⟨rfl,h',tk',rfl,hS',fun b o hb e=>?_⟩
          refine hm.heap b o ?_ (Heap.get?_push_of_some _ (Heap.get?_push_of_some _ e))
          rw [hz]
          simp only [List.mem_cons,List.not_mem_nil,or_false,not_or]
          exact ⟨Nat.ne_of_lt hb,Nat.ne_of_lt (Nat.lt_succ_of_lt hb)⟩
      · cases r₂ with
        | error e=>exact hr₂
        | ok fl₂ =>
          cases fl₂ with
          | ret r =>
            obtain ⟨rfl,h',tk,rfl,hS',hk'⟩:=hr₂
            repeat (any_goals (first | assumption | wp_step))
            exact h _ _ hS' hk'
          | _=>exact hr₂.elim
    | _=>exact hr.elim
end
end L2
namespace L2
open PySem PySem.Spec PyProof.Rows
theorem slot_sit_next:Slot "set_iterator" "__next__" "set_iterator.__next__" :=
  .of (owner:="set_iterator") (n:="__next__") (by rw [typeLookup_type,builtinLookup_eq_fast]; kernel_rfl) (by decide +kernel) (by decide +kernel) (by decide +kernel)
    (by first | exact .inl (by decide +kernel) | exact .inr (by decide +kernel)) (by rw [isSubtype_type]; kernel_rfl)
theorem entry_sit_next:entryFor table "set_iterator.__next__" = some Builtin.«set_iterator.__next__» := entryFor_of_tree (by kernel_rfl)
theorem slot_sit_iter:Slot "set_iterator" "__iter__" "set_iterator.__iter__" :=
  .of (owner:="set_iterator") (n:="__iter__") (by rw [typeLookup_type,builtinLookup_eq_fast]; kernel_rfl) (by decide +kernel) (by decide +kernel) (by decide +kernel)
    (by first | exact .inl (by decide +kernel) | exact .inr (by decide +kernel)) (by rw [isSubtype_type]; kernel_rfl)
theorem slot_set_iter:Slot "set" "__iter__" "set.__iter__" :=
  .of (owner:="set") (n:="__iter__") (by rw [typeLookup_type,builtinLookup_eq_fast]; kernel_rfl) (by decide +kernel) (by decide +kernel) (by decide +kernel)
    (by first | exact .inl (by decide +kernel) | exact .inr (by decide +kernel)) (by rw [isSubtype_type]; kernel_rfl)
theorem entry_set_iter:entryFor table "set.__iter__" = some Builtin.«frozenset.__iter__» :=
  entryFor_alias (id':="frozenset.__iter__") (by kernel_rfl) (by first | rfl | decide +kernel | (unfold String.splitOn; simp +decide [String.splitOnAux])) (by decide +kernel) (by kernel_rfl)
section
variable {prog:Program} {w:World} {A:Around} {E:Value→Shared→Prop} {s:Shared}
theorem next_led {a:Addr} {o:Obj} {es:Array (Int × Value)} {ep:Nat} {t:SetTable} {slot given e0:Nat} {Q:Option (Value × Nat)→Shared→Prop} (ho:s.heap.get? a=some o) (hd:o.data=.set es ep t) (hf:t.fits es.size=true) (hl:t.led=true) (hw:w.params.followText "set-order" = false) (hp:(!t.plain && decide (es.size > 1))=false)
    (h:Q (match es[SetTable.below t.place slot]?,t.place[SetTable.below t.place slot]? with | some (_,x),some j=>some (x,j + 1) | _,_=>none) s):wpAny (model prog w) A (setNext a slot given e0) Q E s:=by
  unfold setNext
  refine wpAny_bind (wpAny_setState_of ho hd hf ?_)
  dsimp only
  unfold setsByText
  refine wpAny_bind (wpAny_bind (wpAny_askSetting (wpAny_pure ?_)))
  show wpAny _ A (if w.params.followText "set-order" = true then _ else _) _ _ _
  rw [if_neg (by rw [hw]; simp)]
  show wpAny _ A (if (!t.plain && decide (es.size > 1))=true then _ else _) _ _ _
  rw [if_neg (by rw [hp]; simp)]
  show wpAny _ A ((if (!t.led && !es.isEmpty)=true then unsupported "set:maker-not-led" else pure ()) >>= _) _ _ _
  rw [if_neg (by rw [hl]; simp)]
  refine wpAny_bind (wpAny_pure ?_)
  exact wpAny_pure h
end
end L2
namespace L2
open PySem PySem.Spec PyProof.Rows
theorem owner_sit:Manifest.owners.lookup (String.ofList ['r','o','t','a','r','e','t','i','_','t','e','s'].reverse)=some Manifest.sig_set_iterator:=by kernel_rfl
theorem args_sit_next_1 (a:Value):argsOk "set_iterator.__next__" ⟨[a],[]⟩:=by
  unfold argsOk; rw [signature?_of (id:="set_iterator.__next__") (n:=['_','_','t','x','e','n','_','_']) (o:=['r','o','t','a','r','e','t','i','_','t','e','s']) (by kernel_rfl) owner_sit]; kernel_rfl
section
variable {prog:Program} {w:World} {A:Around} {E:Value→Shared→Prop} {s:Shared}
end
end L2
namespace L2
open PySem PySem.Spec PyProof.Rows
section
variable {prog:Program} {w:World} {A:Around} {E:Value→Shared→Prop} {s:Shared}
theorem next_text {a:Addr} {o:Obj} {es:Array (Int × Value)} {ep:Nat} {t:SetTable} {slot given:Nat} {Q:Option (Value × Nat)→Shared→Prop} (ho:s.heap.get? a=some o) (hd:o.data=.set es ep t) (hf:t.fits es.size=true) (hw:w.params.followText "set-order" = true)
    (h:Q (((pickOrder (w.params.setOrder a ep) es)[given]?).map fun e=>(e.2,slot)) s):wpAny (model prog w) A (setNext a slot given ep) Q E s:=by
  unfold setNext
  refine wpAny_bind (wpAny_setState_of ho hd hf ?_)
  dsimp only
  unfold setsByText
  refine wpAny_bind (wpAny_bind (wpAny_askSetting (wpAny_pure ?_)))
  show wpAny _ A (if w.params.followText "set-order" = true then _ else _) _ _ _
  rw [if_pos hw]
  rw [if_neg (by simp)]
  unfold setWalk
  refine wpAny_bind (wpAny_bind (wpAny_setState_of ho hd hf ?_))
  dsimp only
  unfold setsByText
  refine wpAny_bind (wpAny_bind (wpAny_askSetting (wpAny_pure ?_)))
  show wpAny _ A (if w.params.followText "set-order" = true then _ else _) _ _ _
  rw [if_pos hw]
  refine wpAny_bind (wpAny_askSetting (wpAny_pure ?_))
  exact wpAny_pure h
theorem next_drawn {a:Addr} {o:Obj} {es:Array (Int × Value)} {ep:Nat} {t:SetTable} {place:Nat} {hx:Int} {x:Value} {Q:Value→Shared→Prop} (ho:s.heap.get? a=some o) (hd:o.data=.set es ep t) (hf:t.fits es.size=true) (h1:es[place]? = some (hx,x))
    (h:Q x s):wpAny (model prog w) A (setNextDrawn a place ep) Q E s:=by
  unfold setNextDrawn
  refine wpAny_bind (wpAny_setState_of ho hd hf ?_)
  dsimp only
  rw [if_neg (by simp),h1]
  exact wpAny_pure h
theorem erase_perm {α:Type}:∀ (l:List α) (i:Nat) (h:i < l.length),(l[i] :: l.eraseIdx i).Perm l
  | y :: ys,0,_=>by simp
  | y :: ys,i + 1,h=>by
    have h':i < ys.length:=by simpa using h
    simp only [List.getElem_cons_succ,List.eraseIdx_cons_succ]
    exact (List.Perm.swap _ _ _).trans ((erase_perm ys i h').cons y)
theorem pick_perm {α:Type} (next:Nat→Nat):∀ (fuel k:Nat) (left:List α) (out:Array α),left.length≤fuel→(pickOrder.go next fuel k left out).toList.Perm (out.toList ++ left)
  | 0,k,left,out,h=>by
    have:left=[]:=List.length_eq_zero_iff.mp (by omega)
    subst this
    simp [pickOrder.go]
  | fuel + 1,k,left,out,h=>by
    unfold pickOrder.go
    cases hl:left with
    | nil=>simp
    | cons y ys =>
      have hlt:next k % (y :: ys).length < (y :: ys).length:=Nat.mod_lt _ (by simp)
      rw [List.getElem?_eq_getElem hlt]
      dsimp only
      generalize next k % (y :: ys).length=i at hlt
      refine (pick_perm next fuel (k + 1) _ _ ?_).trans ?_
      · rw [List.length_eraseIdx_of_lt hlt]
        rw [hl] at h
        omega
      · rw [Array.toList_push,List.append_assoc]
        refine List.Perm.append_left _ ?_
        exact erase_perm _ _ hlt
end
end L2
namespace L2
open PySem PySem.Spec PyProof.Rows BW
end L2
namespace L2
open PySem PySem.Spec PyProof.Rows BW
def Itv (K:PySem.W.Frag) (a:Addr) (n:Nat):It :=
  ⟨fun i H => ∃ xs x,SqL K H a xs∧xs.length=n∧xs.reverse[i]? = some x,fun i H x H'=>H'=H∧∀ xs,SqL K H a xs→xs.reverse[i]? = some x,fun i H=>i=n⟩
theorem turn_rev {P:Program} {w:World} {K:PySem.W.Frag} {tg:Expr} (a it:Addr) (n:Nat):Turn P w K tg (Itv K a n) [it] it (fun i h=>h.IsRevIter it a ((n:Int) - 1 - (i:Int))) where
  mem:=by simp
  obj:=fun i h st b hb=>by
    have e:b=it:=by simpa using hb
    subst e
    obtain ⟨o,e,c,d⟩:=st
    exact ⟨o,e,fun v z=>by rw [d] at z; cases z⟩
  keep:=fun i h h' st k=>st.at fun o e=>k it (by simp) o e
  item:=by
    intro X hP hw hK hc i pins s σ H E I hf st hg
    subst hP hw hK
    obtain ⟨xs,x,hq,hn,hx⟩:=hg
    have hi:i < n:=by
      have:=(List.getElem?_eq_some_iff.mp hx).1
      simp at this
      omega
    obtain ⟨its,rv,p,hz⟩:=I.list hq
    obtain ⟨u,hu,ru⟩:=(vals_rev rv).get hx
    obtain ⟨f0,f1,f2,f3,f4,f5⟩:=hf it (by simp)
    have hl:=rv.length
    have e1:(n:Int) - 1 - (i:Int)=((n - 1 - i:Nat):Int):=by omega
    have e2:((n - 1 - i:Nat):Int) - 1=(n:Int) - 1 - ((i + 1:Nat):Int):=by omega
    have hu2:its.toArray[n - 1 - i]? = some u:=by
      rw [List.getElem?_reverse (by omega)] at hu
      have e3:its.length - 1 - i=n - 1 - i:=by omega
      rw [e3] at hu
      simpa using hu
    rw [e1] at st
    refine wpAny_pyNext_rev_item st p.isList (x:=u) hu2 fun h' st' sb=>?_
    rw [e2] at st'
    have I1:Inv X pins σ H { s with heap:=h' }:=I.turned (t':=s.toks) (fun b o hb e=>(sb.2 b hb).trans e) f0 f1 f3 f4 f5
    obtain ⟨o,e,c,d⟩:=id st'
    exact ⟨u,rfl,go_of (s:={ s with heap:=h' }) e c d (by decide) ⟨x,H,I1,ru,⟨rfl,fun ys hy=>by rw [I.list_inj hy hq]; exact hx⟩,st',fun b hb=>(hf b hb).1⟩⟩
  done:=by
    intro X hP hw hK hc i pins s σ H E I hf st hg
    subst hP hw hK
    have hg':i=n:=hg
    subst hg'
    obtain ⟨f0,f1,f2,f3,f4,f5⟩:=hf it (by simp)
    have e1:(i:Int) - 1 - (i:Int)=-1:=by omega
    rw [e1] at st
    exact wpAny_pyNext_rev_end (I.ok.hd hc) st fun h' eb=>⟨rfl,I.turned (t':=s.toks) (fun b o hb e=>eb b o hb e) f0 f1 f3 f4 f5⟩
  self:=fun _ _ _ _ _ st h=>wpAny_pyIter_revIter st h
def iRev (K:PySem.W.Frag) (tl:TE):TI:=fun σ H R=>tl σ H fun x H1 => ∃ a xs,x=.ref a∧SqL K H1 a xs∧R (Itv K a xs.length) H1
theorem pi_revK {X:Cx} {K:PySem.W.Frag} {tg e:Expr} {t:TE} {p pos:Pos} (hK:X.K=K) (hg:Gl X "reversed") (hm:X.mg "reversed" = none) (ha:PE X e t)
    (he:starEach [e] X.env=(false,eval e X.env) :: starEach [] X.env:=by rfl):PI X tg (.Call (.Name "reversed" p) [e] [] pos) (iRev K t):=by
  subst hK
  intro pins s σ H R I h
  refine wpAny_Call_Name_kw (ld_blt I hg hm (u:=.type "reversed") (by decide +kernel) ?_ (by decide) (by decide))
  refine PyProof.Rows.callWith_type1 ?_ he rfl
  rw [he]
  show wpAny _ _ (spliced ((false,eval e X.env) :: backTo pos (starEach [] X.env))) _ _ s
  refine Calls.spliced_cons (thn (ha pins s σ H _ I h) fun u s1 ⟨x,H1,I1,r1,a,xs,e1,h1,q1⟩=>?_)
  subst e1
  cases r1
  refine Calls.spliced_nil ?_
  obtain ⟨its,rv,pl,hz⟩:=I1.list h1
  have hl:=rv.length
  refine call_reversed_list pl.isList ?_
  have hit:(s1.heap.push (revObj a ((its.toArray.size:Int) - 1))).IsRevIter s1.heap.objs.size a ((xs.length:Int) - 1 - ((0:Nat):Int)):=by
    refine ⟨_,Heap.get?_push_size _ rfl,rfl,?_⟩
    have e2:(its.toArray.size:Int) - 1=(xs.length:Int) - 1 - ((0:Nat):Int):=by rw [List.size_toArray,hl]; simp
    rw [e2]
    rfl
  refine wpAny_pyIter_revIter hit ?_
  refine ⟨s1.heap.objs.size,[s1.heap.objs.size],_,_,H1,rfl,I1.kept (t':=s1.toks) fun b o e=>Heap.get?_push_of_some _ e,turn_rev a _ xs.length,hit,fun b hb=>?_,q1⟩
  have e:b=s1.heap.objs.size:=by simpa using hb
  subst e
  exact I1.fpOk (Nat.le_refl _) (I1.hok.fresh (Nat.le_refl _))
theorem for_rev {K:PySem.W.Frag} {a:Addr} {xs:List V} {g:TG} {tb:TS} {D:Ends} {σ:St} {H:Hp} (Pv:Nat→St→Hp→Prop) (h0:Pv 0 σ H) (hl:∀ i σ H,i≤xs.length→Pv i σ H→SqL K H a xs)
    (hs:∀ i x σ H,xs.reverse[i]? = some x→Pv i σ H→g x σ H fun σ2 H2=>tb { D with nx:=Pv (i + 1),ct:=Pv (i + 1),bk:=D.nx } σ2 H2) (hd:∀ σ H,Pv xs.length σ H→D.nx σ H) :
    ∃ W:Nat→Nat→St→Hp→Prop,(∃ m,W 0 m σ H)∧∀ i m σ H,W i m σ H →
      ((Itv K a xs.length).stop i H∧D.nx σ H)∨((Itv K a xs.length).go i H∧∃ N:St→Hp→Prop,(∀ σ' H',N σ' H'→∃ m',m' < m∧W (i + 1) m' σ' H')∧∀ x H',(Itv K a xs.length).yld i H x H'→g x σ H' fun σ2 H2=>tb { D with nx:=N,ct:=N,bk:=D.nx } σ2 H2):=by
  refine ⟨fun i m σ H=>m=xs.length - i∧i≤xs.length∧Pv i σ H,⟨xs.length,by simp,Nat.zero_le _,h0⟩,?_⟩
  rintro i m σ H ⟨rfl,hi,p⟩
  have q:=hl i σ H hi p
  by_cases hlt:i < xs.length
  · refine .inr ⟨⟨xs,xs.reverse[i]'(by simpa using hlt),q,rfl,List.getElem?_eq_getElem _⟩,Pv (i + 1),fun σ' H' p'=>⟨xs.length - (i + 1),by omega,rfl,hlt,p'⟩,fun x H' y=>?_⟩
    obtain ⟨e,y⟩:=y
    subst e
    exact hs i x σ _ (y xs q) p
  · have e:i=xs.length:=by omega
    subst e
    exact .inl ⟨rfl,hd σ H p⟩
end L2
namespace L2
open PySem PySem.Spec PyProof.Rows
section
variable {prog:Program} {w:World} {A:Around} {E:Value→Shared→Prop} {s:Shared}
theorem wpAny_choose {src:Source} {n:Nat} {Q:Nat→Shared→Prop} (hn:n≠0) (h:∀ i,i < n→Q i { s with drawn:=s.drawn.bump src }):wpAny (model prog w) A (choose src n) Q E s:=fun Γ p hΓ=>by
  show Sem.wp (model prog w) Γ (.choose src n .pure) _ _ p s
  rw [Sem.wp_choose]
  exact ⟨hn,h _ (Nat.mod_lt _ (Nat.pos_of_ne_zero hn))⟩
theorem draw_perm {α:Type}:∀ (n:Nat) (xs:List α) (s:Shared) (Q:List α→Shared→Prop),xs.length≤n→(∀ ys d,ys.Perm xs→Q ys { s with drawn:=d })→wpAny (model prog w) A (drawOrder n xs) Q E s
  | 0,xs,s,Q,hl,h=>by
    have:xs=[]:=List.length_eq_zero_iff.mp (by omega)
    subst this
    exact wpAny_pure (h [] s.drawn (List.Perm.refl _))
  | n + 1,[],s,Q,hl,h=>wpAny_pure (h [] s.drawn (List.Perm.refl _))
  | n + 1,y :: ys,s,Q,hl,h=>by
    unfold drawOrder
    refine wpAny_bind (wpAny_choose (by simp) fun i hi=>?_)
    rw [List.getElem?_eq_getElem hi]
    dsimp only
    refine wpAny_bind (draw_perm n _ _ _ ?_ fun zs d hp=>?_)
    · rw [List.length_eraseIdx_of_lt hi]
      omega
    · exact wpAny_pure (h _ _ ((hp.cons _).trans (erase_perm _ _ hi)))
def sitO (first:Value) (S:Addr) (n ep:Nat):Obj:={ cls:=.type "set_iterator",data:=.fields #[first,rawInt 0,.ref S,rawInt n,rawInt ep] }
theorem args_set_iter_1 (a:Value):argsOk "set.__iter__" ⟨[a],[]⟩:=by unfold argsOk; kernel_rfl
theorem iter_set {S:Addr} {o:Obj} {es:Array (Int × Value)} {ep:Nat} {t:SetTable} {Q:Value→Shared→Prop} (ho:s.heap.get? S=some o) (hc:o.cls=.type "set") (hd:o.data=.set es ep t) (hf:t.fits es.size=true)
    (h1:(!w.params.followText "set-order" && (!t.plain && decide (es.size > 1)))=false→Q (.ref s.heap.objs.size) { s with heap:=s.heap.push (sitO (rawInt 0) S es.size ep) })
    (h2:(!w.params.followText "set-order" && (!t.plain && decide (es.size > 1)))=true→∀ (ys:List Nat) d,ys.Perm (List.range es.size) →
      Q (.ref (s.heap.objs.size + 1)) { s with heap:=(s.heap.push { cls:=.type "tuple",data:=.seq (ys.map fun (i:Nat)=>rawInt i).toArray }).push (sitO (.ref s.heap.objs.size) S es.size ep),drawn:=d }) (hz:es.size≤sizeLine) :
    wpAny (model prog w) A (pyIter (.ref S)) Q E s:=by
  have hT:s.TypeIs (.ref S) "set" := ⟨o,ho,hc⟩
  refine wpAny_pyIter_slot hT slot_set_iter (wpAny_call_entry slot_set_iter hT entry_set_iter ?_ (args_set_iter_1 _))
  unfold Builtin.«frozenset.__iter__»
  unfold Builtin.Frozenset.slot0
  refine wpAny_bind (wpAny_bind (wpAny_of_eq (a:=(Value.ref S,[])) rfl ?_))
  dsimp only
  refine wpAny_of_eq (a:=S) rfl ?_
  unfold Builtin.Frozenset.sizeOf setEntries
  refine wpAny_bind (wpAny_bind (wpAny_bind (wpAny_setState_of ho hd hf (wpAny_pure (wpAny_pure ?_)))))
  unfold setDrawn
  refine wpAny_bind (wpAny_bind (wpAny_setState_of ho hd hf ?_))
  dsimp only
  unfold setsByText
  refine wpAny_bind (wpAny_bind (wpAny_askSetting (wpAny_pure ?_)))
  refine wpAny_pure ?_
  show wpAny (model prog w) A.in1 (if (!w.params.followText "set-order" && (!t.plain && decide (es.size > 1)))=true then _ else _) _ _ _
  cases hb:(!w.params.followText "set-order" && (!t.plain && decide (es.size > 1))) with
  | false =>
    rw [if_neg Bool.false_ne_true]
    refine wpAny_bind (wpAny_pure (wpAny_bind (wpAny_setEpoch_of ho hd hf ?_)))
    refine wpAny_bind (wpAny_newObj_type ?_)
    exact wpAny_pure ⟨_,rfl,"set_iterator",_,⟨_,Heap.get?_push_size _ rfl,rfl⟩,slot_sit_next.lookup,h1 hb⟩
  | true =>
    rw [if_pos rfl]
    refine wpAny_bind (draw_perm _ _ _ _ (by simp) fun ys d hp=>?_)
    have hyl:ys.length=es.size:=by rw [hp.length_eq]; simp
    refine wpAny_bind (wpAny_newTuple ?_ ?_)
    · refine wpAny_bind (wpAny_setEpoch_of (Heap.get?_push_of_some _ ho) hd hf ?_)
      refine wpAny_bind (wpAny_newObj_type ?_)
      have hsz:(s.heap.push { cls:=.type "tuple",data:=.seq (ys.map fun (i:Nat)=>rawInt i).toArray }).objs.size=s.heap.objs.size + 1:=Heap.size_push _ _
      have:=h2 hb ys d hp
      refine wpAny_pure ⟨_,rfl,"set_iterator",_,⟨_,Heap.get?_push_size _ rfl,rfl⟩,slot_sit_next.lookup,?_⟩
      show Q (.ref (s.heap.push { cls:=.type "tuple",data:=.seq (ys.map fun (i:Nat)=>rawInt i).toArray }).objs.size) _
      rw [hsz]
      exact this
    · rw [List.length_map,hyl]
      exact hz
def SitF (h:Heap) (it S:Addr) (first:Value) (i:Int) (n ep:Nat):Prop:=∃ o,h.get? it=some o∧o.cls=.type "set_iterator"∧o.data=.fields #[first,rawInt i,.ref S,rawInt n,rawInt ep]
theorem SitF.typeIs {it S:Addr} {first:Value} {i:Int} {n ep:Nat} (x:SitF s.heap it S first i n ep):s.TypeIs (.ref it) "set_iterator" := let ⟨o,ho,hc,_⟩:=x; ⟨o,ho,hc⟩
theorem SitF.at_ {h h':Heap} {it S:Addr} {first:Value} {i:Int} {n ep:Nat} (x:SitF h it S first i n ep) (e:∀ o,h.get? it=some o→h'.get? it=some o):SitF h' it S first i n ep:=let ⟨o,ho,r⟩:=x; ⟨o,e _ ho,r⟩
theorem sitF_item {it a:Addr} {o:Obj} {es:Array (Int × Value)} {ep:Nat} {t:SetTable} {slot i:Nat} {Q:Option Value→Shared→Prop} (hit:SitF s.heap it a (rawInt (slot:Int)) (i:Int) es.size ep) (ho:s.heap.get? a=some o) (hd:o.data=.set es ep t) (hf:t.fits es.size=true)
    {x:Value} {nx:Nat} (hn:∀ (A:Around) (E:Value→Shared→Prop) (Q:Option (Value × Nat)→Shared→Prop),Q (some (x,nx)) s→wpAny (model prog w) A (setNext a slot i ep) Q E s)
    (hQ:∀ h',SitF h' it a (rawInt (nx:Int)) ((i + 1:Nat):Int) es.size ep→Heap.SameBut it s.heap h'→Q (some x) { s with heap:=h' }):wpAny (model prog w) A (pyNext (.ref it)) Q E s:=by
  obtain ⟨u,hu,hc,hud⟩:=id hit
  unfold pyNext
  refine wpAny_bind (wpAny_attempt (wpAny_callSpecial?_slot (name:=Str.ofString "__next__") hit.typeIs slot_sit_next
    (wpAny_call_entry slot_sit_next hit.typeIs entry_sit_next ?_ (args_sit_next_1 _))))
  unfold Builtin.«set_iterator.__next__»
  refine wpAny_bind (wpAny_of_eq (a:=(Value.ref it,[])) rfl ?_)
  dsimp only
  refine wpAny_bind (wpAny_fieldsOf hu hud ?_)
  dsimp only [rawInt]
  unfold setEntries
  refine wpAny_bind (wpAny_bind (wpAny_setState_of ho hd hf (wpAny_pure ?_)))
  rw [if_neg (by simp)]
  refine wpAny_bind (hn _ _ _ ?_)
  dsimp only
  refine wpAny_bind (wpAny_setField hu hud (by simp) ?_)
  have g1:=Heap.get?_update_self (Obj.mapFields fun vs=>vs.setIfInBounds 0 (rawInt (nx:Int))) hu (Obj.isFreed_of_fields (Obj.data_mapFields hud _))
  have d1:=Obj.data_mapFields hud fun vs=>vs.setIfInBounds 0 (rawInt (nx:Int))
  refine wpAny_bind (wpAny_setField g1 d1 (by simp) ?_)
  have g2:=Heap.get?_update_self (Obj.mapFields fun vs=>vs.setIfInBounds 1 (rawInt ((i:Int) + 1))) g1 (Obj.isFreed_of_fields (Obj.data_mapFields d1 _))
  have d2:=Obj.data_mapFields d1 fun vs=>vs.setIfInBounds 1 (rawInt ((i:Int) + 1))
  refine wpAny_pure ⟨x,rfl,wpAny_pure (hQ _ ⟨_,g2,?_,?_⟩ ((Heap.SameBut.update s.heap it _).trans (Heap.SameBut.update _ it _)))⟩
  · exact (Obj.cls_mapFields ..).trans ((Obj.cls_mapFields ..).trans hc)
  · rw [d2]
    simp
theorem sitF_end {it a:Addr} {o:Obj} {es:Array (Int × Value)} {ep:Nat} {t:SetTable} {slot i:Nat} {Q:Option Value→Shared→Prop} (hh:A.handled=none) (hit:SitF s.heap it a (rawInt (slot:Int)) (i:Int) es.size ep) (ho:s.heap.get? a=some o) (hd:o.data=.set es ep t) (hf:t.fits es.size=true)
    (hn:∀ (A:Around) (E:Value→Shared→Prop) (Q:Option (Value × Nat)→Shared→Prop),Q none s→wpAny (model prog w) A (setNext a slot i ep) Q E s)
    (hQ:∀ h',Heap.ExtBut it s.heap h'→Q none { s with heap:=h' }):wpAny (model prog w) A (pyNext (.ref it)) Q E s:=by
  obtain ⟨u,hu,hc,hud⟩:=id hit
  unfold pyNext
  refine wpAny_bind (wpAny_attempt (wpAny_callSpecial?_slot (name:=Str.ofString "__next__") hit.typeIs slot_sit_next
    (wpAny_call_entry slot_sit_next hit.typeIs entry_sit_next ?_ (args_sit_next_1 _))))
  unfold Builtin.«set_iterator.__next__»
  refine wpAny_bind (wpAny_of_eq (a:=(Value.ref it,[])) rfl ?_)
  dsimp only
  refine wpAny_bind (wpAny_fieldsOf hu hud ?_)
  dsimp only [rawInt]
  unfold setEntries
  refine wpAny_bind (wpAny_bind (wpAny_setState_of ho hd hf (wpAny_pure ?_)))
  rw [if_neg (by simp)]
  refine wpAny_bind (hn _ _ _ ?_)
  dsimp only
  refine wpAny_bind (wpAny_setField hu hud (by simp) ?_)
  refine wpAny_bind ?_
  simp only [newExc,newTuple]
  refine wpAny_bind (wpAny_newObj_type ?_ (by size_fits))
  refine wpAny_bind (m:=firstArgMember _ _) (wpAny_of_eq (a:=Value.none) (by first | rfl | (simp only [firstArgMember]; rfl)) ?_)
  refine wpAny_newObj_type ?_ (by size_fits)
  simp only [raiseNew]
  refine wpAny_bind (wpAny_handled ?_)
  first | rw [show A.in1.handled=none from hh] | rw [hh]
  refine wpAny_bind (wpAny_pure (wpAny_throw ?_))
  refine wpAny_bind (wpAny_isInstance (T:="StopIteration") (b:=true) ⟨_,Heap.get?_push_size _ rfl,rfl⟩ isSubtype_stop ?_)
  exact wpAny_pure (hQ _ ((((Heap.SameBut.update s.heap it _).extBut).push _).push _))
theorem sitD_item {it a tp:Addr} {o ot:Obj} {es:Array (Int × Value)} {ep:Nat} {t:SetTable} {i place c:Nat} {ps:Array Value} {tk:Tok} {Q:Option Value→Shared→Prop} (hit:SitF s.heap it a (.ref tp) (i:Int) es.size ep) (ho:s.heap.get? a=some o) (hd:o.data=.set es ep t) (hf:t.fits es.size=true)
    (hto:s.heap.get? tp=some ot) (htd:ot.data=.seq ps c) (hp:ps[i]? = some (.int (place:Int) tk)) {hx:Int} {x:Value} (hxx:es[place]? = some (hx,x))
    (hQ:∀ h',SitF h' it a (.ref tp) ((i + 1:Nat):Int) es.size ep→Heap.SameBut it s.heap h'→Q (some x) { s with heap:=h' }):wpAny (model prog w) A (pyNext (.ref it)) Q E s:=by
  obtain ⟨u,hu,hc,hud⟩:=id hit
  unfold pyNext
  refine wpAny_bind (wpAny_attempt (wpAny_callSpecial?_slot (name:=Str.ofString "__next__") hit.typeIs slot_sit_next
    (wpAny_call_entry slot_sit_next hit.typeIs entry_sit_next ?_ (args_sit_next_1 _))))
  unfold Builtin.«set_iterator.__next__»
  refine wpAny_bind (wpAny_of_eq (a:=(Value.ref it,[])) rfl ?_)
  dsimp only
  refine wpAny_bind (wpAny_fieldsOf hu hud ?_)
  dsimp only [rawInt]
  unfold setEntries
  refine wpAny_bind (wpAny_bind (wpAny_setState_of ho hd hf (wpAny_pure ?_)))
  rw [if_neg (by simp)]
  refine wpAny_bind (wpAny_seqItems hto htd ?_)
  dsimp only
  rw [show (i:Int).toNat=i from rfl,hp]
  dsimp only
  refine wpAny_bind (next_drawn ho hd hf (place:=(place:Int).toNat) hxx ?_)
  refine wpAny_bind (wpAny_setField hu hud (by simp) ?_)
  have g1:=Heap.get?_update_self (Obj.mapFields fun vs=>vs.setIfInBounds 1 (rawInt ((i:Int) + 1))) hu (Obj.isFreed_of_fields (Obj.data_mapFields hud _))
  have d1:=Obj.data_mapFields hud fun vs=>vs.setIfInBounds 1 (rawInt ((i:Int) + 1))
  refine wpAny_pure ⟨x,rfl,wpAny_pure (hQ _ ⟨_,g1,?_,?_⟩ (Heap.SameBut.update s.heap it _))⟩
  · exact (Obj.cls_mapFields ..).trans hc
  · rw [d1]
    simp
theorem sitD_end {it a tp:Addr} {o ot:Obj} {es:Array (Int × Value)} {ep:Nat} {t:SetTable} {i c:Nat} {ps:Array Value} {Q:Option Value→Shared→Prop} (hh:A.handled=none) (hit:SitF s.heap it a (.ref tp) (i:Int) es.size ep) (ho:s.heap.get? a=some o) (hd:o.data=.set es ep t) (hf:t.fits es.size=true)
    (hto:s.heap.get? tp=some ot) (htd:ot.data=.seq ps c) (hp:ps[i]? = none)
    (hQ:∀ h',Heap.ExtBut it s.heap h'→Q none { s with heap:=h' }):wpAny (model prog w) A (pyNext (.ref it)) Q E s:=by
  obtain ⟨u,hu,hc,hud⟩:=id hit
  unfold pyNext
  refine wpAny_bind (wpAny_attempt (wpAny_callSpecial?_slot (name:=Str.ofString "__next__") hit.typeIs slot_sit_next
    (wpAny_call_entry slot_sit_next hit.typeIs entry_sit_next ?_ (args_sit_next_1 _))))
  unfold Builtin.«set_iterator.__next__»
  refine wpAny_bind (wpAny_of_eq (a:=(Value.ref it,[])) rfl ?_)
  dsimp only
  refine wpAny_bind (wpAny_fieldsOf hu hud ?_)
  dsimp only [rawInt]
  unfold setEntries
  refine wpAny_bind (wpAny_bind (wpAny_setState_of ho hd hf (wpAny_pure ?_)))
  rw [if_neg (by simp)]
  refine wpAny_bind (wpAny_seqItems hto htd ?_)
  dsimp only
  rw [show (i:Int).toNat=i from rfl,hp]
  dsimp only
  refine wpAny_bind (wpAny_setField hu hud (by simp) ?_)
  have g1:=Heap.get?_update_self (Obj.mapFields fun vs=>vs.setIfInBounds 0 (rawInt 0)) hu (Obj.isFreed_of_fields (Obj.data_mapFields hud _))
  have d1:=Obj.data_mapFields hud fun vs=>vs.setIfInBounds 0 (rawInt 0)
  refine wpAny_bind (wpAny_setField g1 d1 (by simp) ?_)
  refine wpAny_bind ?_
  simp only [newExc,newTuple]
  refine wpAny_bind (wpAny_newObj_type ?_ (by size_fits))
  refine wpAny_bind (m:=firstArgMember _ _) (wpAny_of_eq (a:=Value.none) (by first | rfl | (simp only [firstArgMember]; rfl)) ?_)
  refine wpAny_newObj_type ?_ (by size_fits)
  simp only [raiseNew]
  refine wpAny_bind (wpAny_handled ?_)
  first | rw [show A.in1.handled=none from hh] | rw [hh]
  refine wpAny_bind (wpAny_pure (wpAny_throw ?_))
  refine wpAny_bind (wpAny_isInstance (T:="StopIteration") (b:=true) ⟨_,Heap.get?_push_size _ rfl,rfl⟩ isSubtype_stop ?_)
  exact wpAny_pure (hQ _ (((((Heap.SameBut.update s.heap it _).trans (Heap.SameBut.update _ it _)).extBut).push _).push _))
end
end L2
namespace L2
open PySem PySem.Spec PyProof.Rows
theorem args_sit_iter_1 (a:Value):argsOk "set_iterator.__iter__" ⟨[a],[]⟩:=by
  unfold argsOk; rw [signature?_of (id:="set_iterator.__iter__") (n:=['_','_','r','e','t','i','_','_']) (o:=['r','o','t','a','r','e','t','i','_','t','e','s']) (by kernel_rfl) owner_sit]; kernel_rfl
theorem entry_sit_iter:entryFor table "set_iterator.__iter__" = some Builtin.«dict_keyiterator.__iter__» :=
  entryFor_alias (id':="dict_keyiterator.__iter__") (by kernel_rfl) (by first | rfl | decide +kernel | (unfold String.splitOn; simp +decide [String.splitOnAux])) (by decide +kernel) (by kernel_rfl)
section
variable {prog:Program} {w:World} {A:Around} {E:Value→Shared→Prop} {s:Shared}
theorem sit_self {it S:Addr} {first:Value} {i:Int} {n ep:Nat} {Q:Value→Shared→Prop} (hit:SitF s.heap it S first i n ep) (h:Q (.ref it) s):wpAny (model prog w) A (pyIter (.ref it)) Q E s:=by
  refine wpAny_pyIter_slot hit.typeIs slot_sit_iter (wpAny_call_entry slot_sit_iter hit.typeIs entry_sit_iter ?_ (args_sit_iter_1 _))
  show wpAny _ _ (ret (.ref it)) _ _ s
  exact wpAny_pure ⟨_,rfl,"set_iterator",_,hit.typeIs,slot_sit_next.lookup,h⟩
theorem fits_size {t:SetTable} {n:Nat} (h:t.fits n=true):t.place.size=n:=by
  simp only [SetTable.fits,Bool.and_eq_true,beq_iff_eq,decide_eq_true_eq] at h
  exact h.1
theorem walks_led (hh:A.handled=none) {it S:Addr} (hne:S≠it) {o:Obj} {es:Array (Int × Value)} {ep:Nat} {t:SetTable} (hd:o.data=.set es ep t) (hf:t.fits es.size=true) (hl:t.led=true) (hw:w.params.followText "set-order" = false) (hp:(!t.plain && decide (es.size > 1))=false) (hr:Rise t.place) :
    Walks prog w A it [it,S] [it] es.size (fun i v=>(es.toList.map (fun e=>e.2))[i]? = some v) (fun i h=>(∃ slot:Nat,SetTable.below t.place slot=i∧SitF h it S (rawInt (slot:Int)) (i:Int) es.size ep)∧h.get? S=some o) where
  sub:=fun b hb=>by simp at hb; simp [hb]
  frame:=fun i h h' x hk=>by
    obtain ⟨⟨slot,h1,h2⟩,h3⟩:=x
    exact ⟨⟨slot,h1,h2.at_ fun o e=>hk it (by simp) o e⟩,hk S (by simp) o h3⟩
  item:=fun i s Q E hi x hQ=>by
    obtain ⟨⟨slot,h1,h2⟩,h3⟩:=x
    have hps:=fits_size hf
    have e1:es[i]? = some es[i]:=by simp [hi]
    have e2:t.place[i]? = some (t.place.getD i 0):=by simp [Array.getD,hps,hi]
    refine sitF_item h2 h3 hd hf (x:=es[i].2) (nx:=t.place.getD i 0 + 1) (fun A E Q q=>next_led h3 hd hf hl hw hp (by rw [h1,e1,e2]; exact q)) fun h' st' sb=>?_
    refine hQ _ h' s.toks ?_ ⟨⟨_,below_next hr (by omega),st'⟩,(sb.2 S hne).trans h3⟩ fun b o hb e=>sb.extBut b o (fun h=>hb (by simp [h])) e
    simp [hi]
  done:=fun s Q E x hQ=>by
    obtain ⟨⟨slot,h1,h2⟩,h3⟩:=x
    refine sitF_end hh h2 h3 hd hf (fun A E Q q=>next_led h3 hd hf hl hw hp (by rw [h1]; simpa using q)) fun h' eb=>?_
    exact hQ h' s.toks fun b o hb e=>eb b o (fun h=>hb (by simp [h])) e
  self:=fun i s Q E x hQ=>by
    obtain ⟨⟨slot,h1,h2⟩,h3⟩:=x
    exact sit_self h2 hQ
theorem walks_text (hh:A.handled=none) {it S:Addr} (hne:S≠it) {o:Obj} {es:Array (Int × Value)} {ep:Nat} {t:SetTable} (hd:o.data=.set es ep t) (hf:t.fits es.size=true) (hw:w.params.followText "set-order" = true) :
    Walks prog w A it [it,S] [it] es.size (fun i v=>((pickOrder (w.params.setOrder S ep) es).toList.map (fun e=>e.2))[i]? = some v) (fun i h=>SitF h it S (rawInt ((0:Nat):Int)) (i:Int) es.size ep∧h.get? S=some o) where
  sub:=fun b hb=>by simp at hb; simp [hb]
  frame:=fun i h h' x hk=>⟨x.1.at_ fun o e=>hk it (by simp) o e,hk S (by simp) o x.2⟩
  item:=fun i s Q E hi x hQ=>by
    obtain ⟨h2,h3⟩:=x
    have hpl:(pickOrder (w.params.setOrder S ep) es).size=es.size:=by
      have:=(pick_perm (w.params.setOrder S ep) es.size 0 es.toList #[] (by simp)).length_eq
      simpa [pickOrder] using this
    have e1:(pickOrder (w.params.setOrder S ep) es)[i]? = some ((pickOrder (w.params.setOrder S ep) es)[i]'(by omega)):=by simp [hpl,hi]
    refine sitF_item h2 h3 hd hf (x:=((pickOrder (w.params.setOrder S ep) es)[i]'(by omega)).2) (nx:=0) (fun A E Q q=>next_text h3 hd hf hw (by rw [e1]; exact q)) fun h' st' sb=>?_
    refine hQ _ h' s.toks ?_ ⟨st',(sb.2 S hne).trans h3⟩ fun b o hb e=>sb.extBut b o (fun h=>hb (by simp [h])) e
    simp [hi,hpl]
  done:=fun s Q E x hQ=>by
    obtain ⟨h2,h3⟩:=x
    have hpl:(pickOrder (w.params.setOrder S ep) es).size=es.size:=by
      have:=(pick_perm (w.params.setOrder S ep) es.size 0 es.toList #[] (by simp)).length_eq
      simpa [pickOrder] using this
    refine sitF_end hh h2 h3 hd hf (fun A E Q q=>next_text h3 hd hf hw (by rw [show (pickOrder (w.params.setOrder S ep) es)[es.size]? = none by simp [hpl]]; exact q)) fun h' eb=>?_
    exact hQ h' s.toks fun b o hb e=>eb b o (fun h=>hb (by simp [h])) e
  self:=fun i s Q E x hQ=>sit_self x.1 hQ
theorem walks_drawn (hh:A.handled=none) {it S tp:Addr} (hne:S≠it) (hne2:tp≠it) {o ot:Obj} {es:Array (Int × Value)} {ep c:Nat} {t:SetTable} (hd:o.data=.set es ep t) (hf:t.fits es.size=true) {ys:List Nat} (hy:ys.Perm (List.range es.size)) (htd:ot.data=.seq (ys.map fun (i:Nat)=>rawInt i).toArray c) :
    Walks prog w A it [it,S,tp] [it] es.size (fun i v=>(ys.map fun j=>(es.getD j (0,.none)).2)[i]? = some v) (fun i h=>SitF h it S (.ref tp) (i:Int) es.size ep∧h.get? S=some o∧h.get? tp=some ot) where
  sub:=fun b hb=>by simp at hb; simp [hb]
  frame:=fun i h h' x hk=>⟨x.1.at_ fun o e=>hk it (by simp) o e,hk S (by simp) o x.2.1,hk tp (by simp) ot x.2.2⟩
  item:=fun i s Q E hi x hQ=>by
    obtain ⟨h2,h3,h4⟩:=x
    have hyl:ys.length=es.size:=by rw [hy.length_eq]; simp
    have hlt:ys[i]'(by omega) < es.size:=List.mem_range.mp (hy.mem_iff.mp (List.getElem_mem _))
    have e1:(ys.map fun (i:Nat)=>rawInt i).toArray[i]? = some (.int ((ys[i]'(by omega):Nat):Int) 0):=by simp [hyl,hi,rawInt]
    refine sitD_item h2 h3 hd hf h4 htd e1 (hx:=(es[ys[i]'(by omega)]'hlt).1) (x:=(es[ys[i]'(by omega)]'hlt).2) (by simp [hlt]) fun h' st' sb=>?_
    refine hQ _ h' s.toks ?_ ⟨st',(sb.2 S hne).trans h3,(sb.2 tp hne2).trans h4⟩ fun b o hb e=>sb.extBut b o (fun h=>hb (by simp [h])) e
    simp [hyl,hi,Array.getD,hlt]
  done:=fun s Q E x hQ=>by
    obtain ⟨h2,h3,h4⟩:=x
    have hyl:ys.length=es.size:=by rw [hy.length_eq]; simp
    refine sitD_end hh h2 h3 hd hf h4 htd (by simp [hyl]) fun h' eb=>?_
    exact hQ h' s.toks fun b o hb e=>eb b o (fun h=>hb (by simp [h])) e
  self:=fun i s Q E x hQ=>sit_self x.1 hQ
end
end L2
namespace L2
open PySem PySem.Spec PyProof.Rows
theorem set_len:typeLookup (.type "set") "__len__" = pure (some (.builtin "set.__len__")):=by rw [typeLookup_type,builtinLookup_eq_fast]; kernel_rfl
section
variable {prog:Program} {w:World} {A:Around} {E:Value→Shared→Prop} {s:Shared}
theorem collect_set {Good:List Value→Prop} {S:Addr} {Q:List Value→Shared→Prop} (hT:s.TypeIs (.ref S) "set")
    (hit:∀ (s₁:Shared) (K:Value→Shared→Prop) (E:Value→Shared→Prop),s₁={ s with heap:=s.heap.push { cls:=.type "list",data:=.seq ([]:List Value).toArray } } →
      (∀ (I:Addr) (fp wr:List Addr) (n:Nat) (P:Nat→Value→Prop) (St:Nat→Heap→Prop) (s₂:Shared),Walks prog w A.in1 I fp wr n P St→St 0 s₂.heap→s.heap.objs.size ∉ fp→(∀ b∈wr,s.heap.objs.size < b)→(∀ b o,s₁.heap.get? b=some o→s₂.heap.get? b=some o) →
        s₂.gens=s₁.gens→s₂.os=s₁.os→n≤sizeLine→(∀ acc:Array Value,ItemsOf P acc n→Good acc.toList)→K (.ref I) s₂)→wpAny (model prog w) A.in1 (pyIter (.ref S)) K E s₁)
    (hQ:∀ vs s',Good vs→(∀ b o,s.heap.get? b=some o→s'.heap.get? b=some o)→s.heap.objs.size < s'.heap.objs.size→s'.gens=s.gens→s'.os=s.os→Q vs s'):wpAny (model prog w) A (collect (.ref S)) Q E s:=by
  obtain ⟨o,ho,hc⟩:=id hT
  have hSI:s.heap.objs.size≠S:=(Nat.ne_of_lt (Heap.lt_size ho)).symm
  unfold collect
  refine wpAny_bind (wpAny_runValue (codeAny_builtin F.entry_proto_collect ?_))
  rw [Around.under_plainId F.plain_proto_collect _]
  show wpAny _ A.in1 (newList [] >>= fun l=>again (.builtin "list.__iadd__" ⟨[l,.ref S],[]⟩)) _ _ s
  refine wpAny_bind (wpAny_newObj_type ?_)
  refine wpAny_pure ⟨plainId_quiet F.plain_list_iadd _,codeAny_builtin F.entry_list_iadd ?_⟩
  rw [Around.under_plainId F.plain_list_iadd _]
  have hS₁:(s.heap.push { cls:=.type "list",data:=.seq ([]:List Value).toArray }).get? s.heap.objs.size=some { cls:=.type "list",data:=.seq ([]:List Value).toArray }:=Heap.get?_push_size _ rfl
  have h1:Builtin.List.listSameRef (.ref s.heap.objs.size) (.ref S)=false:=by simp [Builtin.List.listSameRef,hSI]
  show wpAny _ A.in1 (Builtin.List.listExtendWith (.ref s.heap.objs.size) (.ref S) (.ref s.heap.objs.size)) _ _ _
  unfold Builtin.List.listExtendWith
  refine wpAny_bind (wpAny_typeOf (T:="set") ⟨o,Heap.get?_push_of_some _ ho,hc⟩ ?_)
  rw [if_neg (by rw [h1]; decide)]
  refine wpAny_bind (hit _ _ _ rfl fun I fp wr n P St s₂ W hst hSf hwr hk hg hos hn hgood=>?_)
  have ho₂:s₂.heap.get? S=some o:=hk _ _ (Heap.get?_push_of_some _ ho)
  have hS₂:=hk _ _ hS₁
  have hT₂:s₂.TypeIs (.ref S) "set" := ⟨o,ho₂,hc⟩
  refine wpAny_bind (wpAny_holding ?_)
  unfold Builtin.List.listLengthHint
  refine wpAny_bind (wpAny_specialOf hT₂ set_len ?_)
  generalize hid:("set.__len__" : String)=id0
  wp_delta
  rw [show splitId id0=some ("set","__len__") from by subst hid; decide +kernel]
  subst hid
  refine wpAny_bind (wpAny_isInstance (b:=true) hT₂ (by rw [isSubtype_type]; kernel_rfl) ?_)
  rw [if_neg (by decide)]
  rw [if_pos (by decide +kernel)]
  refine wpAny_bind (wpAny_typeOf (T:="set") hT₂ ?_)
  refine wpAny_pure ?_
  dsimp only
  rw [if_pos (by decide +kernel)]
  refine wpAny_bind (wpAny_rule ?_)
  unfold Builtin.List.listTouch
  refine wpAny_bind (wpAny_bind (listUpdate_at (xs:=#[]) (n:=0) hS₂ rfl ?_ (by simp) (by simp)))
  have hS₃:=get?_update_seq (c:="list") (xs:=#[]) (n:=0) hS₂ (·.push .none)
  refine listUpdate_at hS₃ rfl ?_ (by simp [sizeLine_eq]) (by simp)
  have hS₄:=get?_update_seq (c:="list") hS₃ (·.pop)
  refine wpAny_pure ⟨plainId_quiet F.plain_extend_loop _,?_⟩
  have oth:∀ b o,b≠s.heap.objs.size→s₂.heap.get? b=some o→((s₂.heap.update s.heap.objs.size (Obj.mapSeq (·.push .none))).update s.heap.objs.size (Obj.mapSeq (·.pop))).get? b=some o:=fun b o hb e=>by
    rw [Heap.get?_update_other _ _ (Ne.symm hb),Heap.get?_update_other _ _ (Ne.symm hb)]
    exact e
  refine codeAny_extend_loopS W.toS hn _ hSf _ n 0 _ _ _ rfl (Nat.zero_le _) (W.frame 0 _ _ hst fun b hb o e=>oth b o (fun z=>hSf (z ▸ hb)) e) hS₄ (ItemsOf.nil P) fun s' acc' c' hm hS' hacc=>?_
  show wpAny _ A (load s.heap.objs.size >>= _) _ _ s'
  refine wpAny_bind (wpAny_load hS' ?_)
  refine wpAny_pure (hQ _ s' (hgood acc' hacc) (fun b o e=>?_) (Heap.lt_size hS') ?_ ?_)
  · have hlt:=Heap.lt_size e
    refine hm.heap b o (fun z=>?_) (oth b o (Nat.ne_of_lt hlt) (hk _ _ (Heap.get?_push_of_some _ e)))
    rcases List.mem_cons.mp z with z | z
    · exact absurd z (Nat.ne_of_lt hlt)
    · exact absurd (hwr b z) (Nat.not_lt.mpr (Nat.le_of_lt hlt))
  · exact hm.gens.trans hg
  · exact hm.os.trans hos
theorem items_eq {L:List Value} {n:Nat} (hl:L.length=n) {acc:Array Value} (h:ItemsOf (fun i v=>L[i]? = some v) acc n):acc.toList=L:=by
  refine List.ext_getElem (by rw [Array.length_toList,h.1,hl]) fun i h1 h2=>?_
  have h1':i < acc.size:=by simpa using h1
  have h3:L[i]? = some acc[i]:=h.2 i _ (Array.getElem?_eq_getElem h1')
  rw [Array.getElem_toList]
  exact (List.getElem?_eq_some_iff.mp h3).2.symm
theorem ints_all:∀ {vs:List Value},(∀ v∈vs,∃ n t,v=Value.int n t)→∃ ns,IntsAre vs ns
  | [],_=>⟨[],.nil⟩
  | v :: r,h=>by
    obtain ⟨n,t,rfl⟩:=h v List.mem_cons_self
    obtain ⟨ns,hn⟩:=ints_all fun v hv=>h v (List.mem_cons_of_mem _ hv)
    exact ⟨n :: ns,.cons n t hn⟩
theorem ints_mem {vs:List Value} {ns:List Int} (h:IntsAre vs ns) {k:Int} {t:Tok} (hm:Value.int k t∈vs):k∈ns:=by
  obtain ⟨i,hi⟩:=List.getElem?_of_mem hm
  obtain ⟨n,t',e,hn⟩:=h.at i _ hi
  cases e
  exact List.mem_of_getElem? hn
theorem perm_of_sub:∀ {ks ns:List Int},ks.Nodup→(∀ k∈ks,k∈ns)→ns.length=ks.length→ns.Perm ks
  | [],ns,_,_,hl=>by
    have:ns=[]:=List.length_eq_zero_iff.mp hl
    subst this
    exact List.Perm.refl _
  | k :: ks,ns,hn,hs,hl=>by
    have hk:=hs k List.mem_cons_self
    have hp:=List.perm_cons_erase hk
    obtain ⟨hn1,hn2⟩:=List.nodup_cons.mp hn
    refine hp.trans ((perm_of_sub hn2 (fun z hz=>?_) ?_).cons k)
    · exact (List.mem_erase_of_ne (fun (e:z=k)=>hn1 (by rw [← e]; exact hz))).mpr (hs z (List.mem_cons_of_mem _ hz))
    · rw [List.length_erase_of_mem hk,hl]
      simp
theorem good_perm {es:Array (Int × Value)} {ks:List Int} (hel:ElemsOf (intKind prog w) es.toList) (hmem:∀ k:Int,(ks.any (· == k))=true ↔ ∃ e∈es.toList,(intKind prog w).is k e.2=true) (hn:es.size=ks.length) (hnd:ks.Nodup) {vs:List Value} (hp:vs.Perm (es.toList.map fun e=>e.2)) :
    ∃ ns,IntsAre vs ns∧ns.Perm ks:=by
  obtain ⟨ns,h1⟩:=ints_all (vs:=vs) fun v hv=>by
    obtain ⟨e,he,rfl⟩:=List.mem_map.mp (hp.mem_iff.mp hv)
    obtain ⟨⟨k,hk,_⟩,_⟩:=hel e he
    obtain ⟨t,e2⟩:=Value.isInt_shape (k:=k) (v:=e.2) hk
    exact ⟨k,t,e2⟩
  refine ⟨ns,h1,perm_of_sub hnd (fun k hk=>?_) ?_⟩
  · obtain ⟨e,he,hi⟩:=(hmem k).mp (List.any_eq_true.mpr ⟨k,hk,by simp⟩)
    obtain ⟨t,e2⟩:=Value.isInt_shape (k:=k) (v:=e.2) hi
    refine ints_mem h1 (k:=k) (t:=t) (hp.mem_iff.mpr ?_)
    rw [← e2]
    exact List.mem_map.mpr ⟨e,he,rfl⟩
  · rw [← h1.length,hp.length_eq,List.length_map,Array.length_toList,hn]
theorem sorted_set {S:Addr} {ks:List Int} {Q:Value→Shared→Prop} (hh:A.handled=none) (hI:IntSet prog w (!w.params.followText "set-order") s.heap S ks) (hnd:ks.Nodup) (h64:ks.length < 64)
    (h:∀ (s':Shared) (L:Addr) (out:List Value) (ms:List Int) (e:Nat),IntsAre out ms→ms.Perm ks→ms.Pairwise (·≤·)→(∀ b o,s.heap.get? b=some o→s'.heap.get? b=some o)→s.heap.objs.size≤L→s'.heap.get? L=some (seqObj "list" out.toArray e)→s'.gens=s.gens→s'.os=s.os→Q (.ref L) s') :
    wpAny (model prog w) A (call (.builtin "sorted") [.ref S]) Q E s:=by
  obtain ⟨⟨o,es,ep,t,ho,hex,hd,hel,hmem,hb,hf,hn⟩,o',es',ep',t',ho',hd',hi⟩:=hI
  rw [ho] at ho'
  cases ho'
  rw [hd] at hd'
  cases hd'
  have hSlt:=Heap.lt_size ho
  have hz:es.size≤sizeLine:=by rw [hn,sizeLine_eq]; omega
  have hps:∀ {vs:List Value},vs.Perm (es.toList.map fun e=>e.2)→∃ ns,IntsAre vs ns∧ns.Perm ks:=fun hp=>good_perm hel hmem hn hnd hp
  refine Calls.call_function_entry kind_sorted plain_sorted entry_sorted (args_sorted1 _) ?_
  unfold Builtin.«sorted»
  refine wpAny_bind (m:=checkCount "sorted" 1 1 _) (wpAny_pure ?_)
  refine wpAny_bind (collect_set (Good:=fun vs => ∃ ns,IntsAre vs ns∧ns.Perm ks) ⟨o,ho,hex.1⟩ (fun s₁ K E e₁ hK=>?_) fun vs s' hg hk hsz hgens hos=>?_)
  · subst e₁
    have ho1:(s.heap.push { cls:=.type "list",data:=.seq ([]:List Value).toArray }).get? S=some o:=Heap.get?_push_of_some _ ho
    have hsz1:(s.heap.push { cls:=.type "list",data:=.seq ([]:List Value).toArray }).objs.size=s.heap.objs.size + 1:=Heap.size_push _ _
    refine iter_set ho1 hex.1 hd hf (fun hdr=>?_) (fun hdr ys d hy=>?_) hz
    · have hit:SitF ((s.heap.push { cls:=.type "list",data:=.seq ([]:List Value).toArray }).push (sitO (rawInt 0) S es.size ep)) (s.heap.push { cls:=.type "list",data:=.seq ([]:List Value).toArray }).objs.size S (rawInt ((0:Nat):Int)) ((0:Nat):Int) es.size ep:=⟨_,Heap.get?_push_size _ rfl,rfl,rfl⟩
      have hne:S≠(s.heap.push { cls:=.type "list",data:=.seq ([]:List Value).toArray }).objs.size:=by rw [hsz1]; exact Nat.ne_of_lt (Nat.lt_succ_of_lt hSlt)
      have c1:s.heap.objs.size ∉ [(s.heap.push { cls:=.type "list",data:=.seq ([]:List Value).toArray }).objs.size,S]:=by
        rw [hsz1]
        intro z
        rcases List.mem_cons.mp z with z | z
        · exact absurd z (Nat.ne_of_lt (Nat.lt_succ_self _))
        · exact absurd (List.mem_singleton.mp z) (Nat.ne_of_gt hSlt)
      have c2:∀ b∈[(s.heap.push { cls:=.type "list",data:=.seq ([]:List Value).toArray }).objs.size],s.heap.objs.size < b:=fun b hb=>by
        rw [List.mem_singleton.mp hb,hsz1]
        exact Nat.lt_succ_self _
      cases hw:w.params.followText "set-order" with
      | true =>
        refine hK _ _ _ _ _ _ _ (walks_text (A:=A.in1.in1) hh hne hd hf hw) ⟨hit,Heap.get?_push_of_some _ ho1⟩ c1 c2 (fun b o e=>Heap.get?_push_of_some _ e) rfl rfl hz fun acc hacc=>?_
        have hpp:=pick_perm (w.params.setOrder S ep) es.size 0 es.toList #[] (by simp)
        have hpl:(pickOrder (w.params.setOrder S ep) es).toList.Perm es.toList:=by simpa [pickOrder] using hpp
        rw [items_eq (by rw [List.length_map,hpl.length_eq,Array.length_toList]) hacc]
        exact hps (hpl.map _)
      | false =>
        have hl:t.led=true:=by rw [hi.led_,hw]; rfl
        rw [hw] at hdr
        refine hK _ _ _ _ _ _ _ (walks_led (A:=A.in1.in1) hh hne hd hf hl hw (by simpa using hdr) hi.rise) ⟨⟨0,below_zero hi.rise,hit⟩,Heap.get?_push_of_some _ ho1⟩ c1 c2 (fun b o e=>Heap.get?_push_of_some _ e) rfl rfl hz fun acc hacc=>?_
        rw [items_eq (by simp) hacc]
        exact hps (List.Perm.refl _)
    · rw [hsz1]
      generalize hh1:s.heap.push { cls:=.type "list",data:=.seq ([]:List Value).toArray }=h1 at *
      have hsz2:(h1.push { cls:=.type "tuple",data:=.seq (ys.map fun (i:Nat)=>rawInt i).toArray }).objs.size=s.heap.objs.size + 1 + 1:=by rw [Heap.size_push,hsz1]
      have g1:((h1.push { cls:=.type "tuple",data:=.seq (ys.map fun (i:Nat)=>rawInt i).toArray }).push (sitO (.ref (s.heap.objs.size + 1)) S es.size ep)).get? (s.heap.objs.size + 1 + 1)=some (sitO (.ref (s.heap.objs.size + 1)) S es.size ep):=by
        rw [← hsz2]
        exact Heap.get?_push_size _ rfl
      have g2:((h1.push { cls:=.type "tuple",data:=.seq (ys.map fun (i:Nat)=>rawInt i).toArray }).push (sitO (.ref (s.heap.objs.size + 1)) S es.size ep)).get? (s.heap.objs.size + 1)=some { cls:=.type "tuple",data:=.seq (ys.map fun (i:Nat)=>rawInt i).toArray }:=by
        refine Heap.get?_push_of_some _ ?_
        rw [← hsz1]
        exact Heap.get?_push_size _ rfl
      refine hK (s.heap.objs.size + 1 + 1) _ _ _ _ _ _ (walks_drawn (A:=A.in1.in1) (it:=s.heap.objs.size + 1 + 1) (tp:=s.heap.objs.size + 1) hh (Nat.ne_of_lt (Nat.lt_succ_of_lt (Nat.lt_succ_of_lt hSlt))) (Nat.ne_of_lt (Nat.lt_succ_self _)) hd hf hy rfl) ⟨⟨_,g1,rfl,rfl⟩,Heap.get?_push_of_some _ (Heap.get?_push_of_some _ ho1),g2⟩ (fun z=>by
        rcases List.mem_cons.mp z with z | z
        · exact absurd z (Nat.ne_of_lt (Nat.lt_succ_of_lt (Nat.lt_succ_self _)))
        rcases List.mem_cons.mp z with z | z
        · exact absurd z (Nat.ne_of_gt hSlt)
        · exact absurd (List.mem_singleton.mp z) (Nat.ne_of_lt (Nat.lt_succ_self _))) (fun b hb=>by rw [List.mem_singleton.mp hb]; exact Nat.lt_succ_of_lt (Nat.lt_succ_self _)) (fun b o e=>Heap.get?_push_of_some _ (Heap.get?_push_of_some _ e)) rfl rfl hz fun acc hacc=>?_
      have hyl:ys.length=es.size:=by rw [hy.length_eq]; simp
      rw [items_eq (by simp [hyl]) hacc]
      refine hps ((hy.map _).trans ?_)
      have:(List.range es.size).map (fun j=>(es.getD j (0,.none)).2)=es.toList.map fun e=>e.2:=by
        refine List.ext_getElem (by simp) fun i z1 z2=>?_
        have hi:i < es.size:=by simpa using z1
        simp [Array.getD,hi]
      rw [this]
  · obtain ⟨ns,hns,hpm⟩:=hg
    have hvl:vs.length < 64:=by rw [hns.length,hpm.length_eq]; exact h64
    refine wpAny_bind (wpAny_newList ?_)
    have hoL:(s'.heap.push (seqObj "list" vs.toArray 0)).get? s'.heap.objs.size=some (seqObj "list" vs.toArray 0):=Heap.get?_push_size _ rfl
    refine wpAny_bind (wpAny_holding (wpAny_call_entry slot_list_sort ⟨_,hoL,rfl⟩ entry_list_sort (list_sort_tree hoL hns hvl fun out ms a1 a2 a3=>⟨_,rfl,?_⟩) (args_list_sort _)))
    obtain ⟨e,he⟩:=sortedHeap_at (out:=out) (vs:=vs) hoL
    refine wpAny_pure ⟨_,rfl,h _ s'.heap.objs.size out.toList ms e a1 (a2.trans hpm) a3 (fun b o eb=>?_) (Nat.le_of_lt hsz) (by rw [Array.toArray_toList]; exact he) hgens hos⟩
    have eb':=hk b o eb
    have hlt:=Heap.lt_size eb'
    rw [sortedHeap_old (Nat.ne_of_lt hlt) (by rw [size_push']; exact Nat.lt_succ_of_lt hlt)]
    exact Heap.get?_push_of_some _ eb'
end
end L2
namespace L2
open PySem PySem.Spec PyProof.Rows
theorem Inv.like {X:Cx} {pins:List (Addr × Obj)} {σ:St} {H:Hp} {s s':Shared} (I:Inv X pins σ H s) (h1:s'.heap=s.heap) (h2:s'.gens=s.gens) (h3:s'.os=s.os):Inv X pins σ H s':=by
  obtain ⟨hp,gs,dr,tk,os⟩:=s'
  have e1:hp=s.heap:=h1
  have e2:gs=s.gens:=h2
  have e3:os=s.os:=h3
  subst e1 e2 e3
  exact ⟨I.ok,I.os,I.bare,I.base,I.loc,I.cell,I.free,I.freeC,I.pin,I.hok,I.len⟩
theorem ints_back:∀ {ns:List Int} {its:List Value},Vals (ns.map V.int) its→IntsAre its ns
  | [],_,.nil=>.nil
  | n :: r,_,.cons h t=>by
    obtain ⟨tk,rfl⟩:=h
    exact .cons n tk (ints_back t)
theorem ints_vals:∀ {ns:List Int} {its:List Value},IntsAre its ns→Vals (ns.map V.int) its
  | _,_,.nil=>.nil
  | _,_,.cons n tk t=>.cons ⟨tk,rfl⟩ (ints_vals t)
theorem firstMet_nodup (val:Nat→Int):∀ i,(firstMet val i).Nodup
  | 0=>by rw [firstMet_zero]; exact List.nodup_nil
  | i + 1=>by
    rw [firstMet_succ]
    unfold step_dedup
    have ih:=firstMet_nodup val i
    split
    · exact ih
    · rename_i hn
      rw [List.nodup_append]
      refine ⟨ih,by simp,fun a ha b hb=>?_⟩
      have hb':b=val i:=by simpa using hb
      subst hb'
      intro e
      subst e
      exact hn (List.any_eq_true.mpr ⟨_,ha,by simp⟩)
theorem firstMet_mem {ns:List Int} {k:Int}:k∈firstMet (fun i=>ns.getD i 0) ns.length ↔ k∈ns:=by
  have h:=firstMet_any (fun i=>ns.getD i 0) ns.length k
  have e:(List.range ns.length).map (fun i=>ns.getD i 0)=ns:=by
    refine List.ext_getElem (by simp) fun i h1 h2=>?_
    simp [List.getD,h2]
  rw [e] at h
  have h1:∀ l:List Int,(l.any (· == k))=true ↔ k∈l:=fun l=>by simp [List.any_eq_true]
  rw [← h1,← h1,h]
theorem rise_strict:∀ {ms:List Int},ms.Pairwise (·≤·)→ms.Nodup→ms.Pairwise (· < ·)
  | [],_,_=>.nil
  | m :: r,h1,h2=>by
    obtain ⟨a1,a2⟩:=List.pairwise_cons.mp h1
    obtain ⟨b1,b2⟩:=List.nodup_cons.mp h2
    refine List.pairwise_cons.mpr ⟨fun z hz=>?_,rise_strict a2 b2⟩
    have h3:=a1 z hz
    have h4:m≠z:=fun e=>b1 (e ▸ hz)
    omega
def tSortSet (K:PySem.W.Frag) (t:TE):TE:=fun σ H Q=>t σ H fun x H1 => ∃ (a:Addr) (ns:List Int),x=.ref a∧SqL K H1 a (ns.map V.int)∧ns.length < 64∧∀ (l:Addr) (ms:List Int) (H':Hp),New H1 l (.lst (ms.map V.int)) H'→ms.Pairwise (· < ·)→(∀ z,z∈ms ↔ z∈ns)→Q (.ref l) H'
theorem pe_sortedSet {X:Cx} {K:PySem.W.Frag} {e:Expr} {t:TE} {p p' pos pos':Pos} (hK:X.K=K) (hc:X.calm=true) (hgl:Gl X "sorted") (hml:X.mg "sorted" = none) (hgr:Gl X "set") (hmr:X.mg "set" = none) (ha:PE X e t)
    (he:starEach [e] X.env=(false,eval e X.env) :: starEach [] X.env:=by rfl):PE X (.Call (.Name "sorted" p) [.Call (.Name "set" p') [e] [] pos'] [] pos) (tSortSet K t):=by
  subst hK
  intro pins s σ H Q I h
  refine wpAny_Call_Name_kw (ld_blt I hgl hml (u:=.builtin "sorted") (by decide +kernel) ?_ (by decide) (by decide))
  refine PyProof.Rows.callWith_builtin1 ?_ rfl rfl
  show wpAny _ _ (spliced ((false,eval _ X.env) :: backTo pos (starEach [] X.env))) _ _ s
  refine Calls.spliced_cons ?_
  refine wpAny_Call_Name_kw (ld_blt I hgr hmr (u:=.type "set") (by decide +kernel) ?_ (by decide) (by decide))
  refine PyProof.Rows.callWith_type1 ?_ he rfl
  rw [he]
  show wpAny _ _ (spliced ((false,eval e X.env) :: backTo pos' (starEach [] X.env))) _ _ s
  refine Calls.spliced_cons (thn (ha pins s σ H _ I h) fun u s1 ⟨x,H1,I1,r1,a,ns,e1,h1,h64,q1⟩=>?_)
  subst e1
  cases r1
  refine Calls.spliced_nil ?_
  obtain ⟨its,rv,pl,hz⟩:=I1.list h1
  have hl:its.length=ns.length:=by rw [← rv.length,List.length_map]
  have hsz:its.toArray.size=ns.length:=by rw [List.size_toArray,hl]
  have hhd:X.A.handled=none:=I1.ok.hd hc
  refine call_set_led (ns:=ns) hhd pl.isList (by simpa using ints_back rv) (by rw [hsz]; show _ < 4096; omega) fun h' tk hS hk=>?_
  rw [hsz] at hS
  have hk':∀ b o,s1.heap.get? b=some o→h'.get? b=some o:=fun b o e=>hk b o (Heap.lt_size e) e
  have hlt:s1.heap.objs.size < h'.objs.size:=by
    obtain ⟨⟨o,es,ep,t,ho,_⟩,_⟩:=hS
    exact Heap.lt_size ho
  refine Calls.spliced_nil ?_
  refine sorted_set (s:={ s1 with heap:=h',toks:=tk }) hhd hS (firstMet_nodup _ _) (Nat.lt_of_le_of_lt (firstMet_length_le _ _) h64) fun s' L out ms ee hi hp hr hk2 hL hgL hg hos=>?_
  have hk3:∀ b o,s1.heap.get? b=some o→s'.heap.get? b=some o:=fun b o e=>hk2 b o (hk' b o e)
  have hml:ms.length≤sizeLine:=by
    rw [hp.length_eq,sizeLine_eq]
    have:=firstMet_length_le (fun i=>ns.getD i 0) ns.length
    omega
  have I2:Inv X pins σ (upd H1 L (.lst (ms.map V.int))) { s1 with heap:=s'.heap,toks:=s'.toks }:=I1.laid (t':=s'.toks) (o:=.lst (ms.map V.int)) hk3 (Nat.le_trans (Nat.le_of_lt hlt) hL) ⟨by rw [List.length_map]; exact hml,out,ee,ints_vals hi,hgL⟩
  refine ⟨.ref L,_,I2.like rfl hg hos,rfl,q1 L ms _ (new_upd (I1.hok.fresh (Nat.le_trans (Nat.le_of_lt hlt) hL))) (rise_strict hr (hp.nodup_iff.mpr (firstMet_nodup _ _))) fun z=>?_⟩
  rw [hp.mem_iff,firstMet_mem]
end L2
namespace L2
open PySem PySem.Spec PyProof.Rows BW
theorem pe_either {X:Cx} {e:Expr} {t1 t2:TE} (h1:PE X e t1) (h2:PE X e t2):PE X e (fun σ H Q=>t1 σ H Q∨t2 σ H Q):=by
  intro pins s σ H Q I h
  rcases h with h | h
  · exact h1 pins s σ H Q I h
  · exact h2 pins s σ H Q I h
def IsRise (ms ns:List Int):Prop:=ms.Pairwise (· < ·)∧∀ z,z∈ms ↔ z∈ns
structure AimCls (K:PySem.W.Frag) (mg:Str→Option Value) (C:Addr) (x:Str):Prop where
  mgC:mg x=some (.ref C)
  cl:Cls K C
  mks:PySem.W.makesIn K C=true
  kp:PySem.W.keepIn K (.ref C)=true
  nH:NoAttr K C "house"
  nW:NoAttr K C "way"
structure ACls (K:PySem.W.Frag) (C:Addr):Prop where
  cl:Cls K C
  nH:NoAttr K C "house"
  nW:NoAttr K C "way"
theorem AimCls.a {K:PySem.W.Frag} {mg:Str→Option Value} {C:Addr} {x:Str} (h:AimCls K mg C x):ACls K C:=⟨h.cl,h.nH,h.nW⟩
def aflds (h w:Addr):List (Str × V):=putF "way" (.ref w) (putF "house" (.ref h) [])
theorem as1:¬ (("house" : Str)="way"):=by decide +kernel
theorem af_house (h w:Addr):(aflds h w).lookup ("house" : Str)=some (.ref h):=by
  unfold aflds
  rw [lookup_putF,if_neg as1,lookup_putF,if_pos rfl]
theorem af_way (h w:Addr):(aflds h w).lookup ("way" : Str)=some (.ref w):=by
  unfold aflds
  rw [lookup_putF,if_pos rfl]
theorem af_no (h w:Addr) {m:Str} (h1:¬ m="way") (h2:¬ m="house"):(aflds h w).lookup m=none:=by
  unfold aflds
  rw [lookup_putF,if_neg h1,lookup_putF,if_neg h2]
  rfl
structure AimAt (CH C:Addr) (H:Hp) (p:Addr) (beds:List Int) (worths:List (List Int)) (rent:Int) (way:List Nat):Prop where
  ex:∃ dx hp wa,H p=some (.ins C dx (aflds hp wa))∧HouseAt CH H hp beds worths rent∧H wa=some (.lst ((wI way).map V.int))
theorem AimAt.same {CH C:Addr} {H H':Hp} {p:Addr} {beds:List Int} {worths:List (List Int)} {rent:Int} {way:List Nat} (h:AimAt CH C H p beds worths rent way) (s:Same H H'):AimAt CH C H' p beds worths rent way:=by
  obtain ⟨dx,hp,wa,h1,h2,h3⟩:=h.ex
  exact ⟨dx,hp,wa,s _ _ h1,h2.same s,s _ _ h3⟩
theorem AimAt.sameB {CH C:Addr} {H H':Hp} {p:Addr} {beds:List Int} {worths:List (List Int)} {rent:Int} {way:List Nat} (h:AimAt CH C H p beds worths rent way) (s:SameB H H'):AimAt CH C H' p beds worths rent way:=by
  obtain ⟨dx,hp,wa,h1,h2,h3⟩:=h.ex
  exact ⟨dx,hp,wa,s.to _ _ h1 rfl,h2.sameB s,s.to _ _ h3 rfl⟩
structure AimOk (beds:List Int) (worths:List (List Int)) (way:List Nat):Prop where
  bok:BestOk beds worths
  len:way.length=worths.length
  lt:∀ r∈way,r < beds.length
theorem AimOk.at_ {beds:List Int} {worths:List (List Int)} {way:List Nat} (h:AimOk beds worths way) {i:Nat} (hi:i < worths.length):way[i]? = some (way.getD i 0)∧way.getD i 0 < beds.length:=by
  have hi':i < way.length:=by rw [h.len]; exact hi
  have e:way.getD i 0=way[i]:=by simp [List.getD,hi']
  rw [e]
  exact ⟨by simp [hi'],h.lt _ (List.getElem_mem hi')⟩
def ownF (worths:List (List Int)) (way:List Nat) (i:Nat):Int:=wF worths i (way.getD i 0)
def gainF (wo:Bool) (worths:List (List Int)) (way:List Nat) (a r b:Nat):Int:=wF worths (if wo then b else a) r - ownF worths way a
def thruL (wo:Bool) (beds:List Int) (way:List Nat) (a b:Nat):List Int:=openL beds (wI way) ++ [((way.getD (if wo then a else b) 0:Nat):Int)]
def sp_ainit (CH C:Addr):Sp:=fun vs H Q _ => ∃ (p dx hp wa:Addr) (beds:List Int) (worths:List (List Int)) (rent:Int) (way:List Nat),vs=[.ref p,.ref hp,.ref wa]∧H p=some (.ins C dx [])∧HouseAt CH H hp beds worths rent∧H wa=some (.lst ((wI way).map V.int)) ∧
  ∀ (l:Addr) (H':Hp),H l=none→H' p=some (.ins C dx (aflds hp l))→H' l=some (.lst ((wI way).map V.int))→(∀ c o,H c=some o→c≠p→H' c=some o)→Q .non H'
def sp_withopen (K:PySem.W.Frag) (CH:Addr):Sp:=fun vs H Q _ => ∃ (C p:Addr) (beds:List Int) (worths:List (List Int)) (rent:Int) (way:List Nat) (r:Nat),vs=[.ref p,.int (r:Int)]∧ACls K C∧AimAt CH C H p beds worths rent way∧AimOk beds worths way ∧
  ∀ (l:Addr) (ms:List Int) (H':Hp),Same H H'→H l=none→H' l=some (.lst (ms.map V.int))→IsRise ms (openL beds (wI way) ++ [(r:Int)])→Q (.ref l) H'
def sp_ownworth (K:PySem.W.Frag) (CH:Addr):Sp:=fun vs H Q _ => ∃ (C p:Addr) (beds:List Int) (worths:List (List Int)) (rent:Int) (way:List Nat) (i:Nat),vs=[.ref p,.int (i:Int)]∧ACls K C∧AimAt CH C H p beds worths rent way∧AimOk beds worths way∧i < worths.length∧Q (.int (ownF worths way i)) H
def sp_through (wo:Bool) (CH C:Addr):Sp:=fun vs H Q _ => ∃ (p:Addr) (beds:List Int) (worths:List (List Int)) (rent:Int) (way:List Nat) (a b:Nat),vs=[.ref p,.int (a:Int),.int (b:Int)]∧AimAt CH C H p beds worths rent way∧AimOk beds worths way∧a < worths.length∧b < worths.length ∧
  ∀ (l:Addr) (ms:List Int) (H':Hp),Same H H'→H l=none→H' l=some (.lst (ms.map V.int))→IsRise ms (thruL wo beds way a b)→Q (.ref l) H'
def sp_gain (wo:Bool) (CH C:Addr):Sp:=fun vs H Q _ => ∃ (p:Addr) (beds:List Int) (worths:List (List Int)) (rent:Int) (way:List Nat) (a r b:Nat),vs=[.ref p,.int (a:Int),.int (r:Int),.int (b:Int)]∧AimAt CH C H p beds worths rent way∧AimOk beds worths way∧a < worths.length∧r < beds.length∧b < worths.length∧Q (.int (gainF wo worths way a r b)) H
def sp_whole_ (wo:Bool) (CH C:Addr):Sp:=fun vs H Q _ => ∃ (p:Addr) (beds:List Int) (worths:List (List Int)) (rent:Int) (way:List Nat),vs=[.ref p]∧AimAt CH C H p beds worths rent way∧AimOk beds worths way∧∀ H',Same H H'→Q (.int (if wo then wsum (wF worths) way - rent else rent)) H'
def sp_price (wo:Bool) (CH C:Addr):Sp:=fun vs H Q _ => ∃ (p:Addr) (beds:List Int) (worths:List (List Int)) (rent:Int) (way:List Nat) (i:Nat) (level parts:Int),vs=[.ref p,.int (i:Int),.int level,.int parts]∧AimAt CH C H p beds worths rent way∧AimOk beds worths way∧i < worths.length∧(∀ row∈worths,∀ x∈row,-(10 ^ 42) < x∧x < 10 ^ 42)∧(-(10 ^ 200) < parts∧parts < 10 ^ 200) ∧
  Q (.int (if wo then parts * ownF worths way i - level else level)) H
theorem worthL_wsum {worths:List (List Int)} {way:List Nat} (h:way.length=worths.length):worthL worths (wI way)=wsum (wF worths) way:=by
  unfold worthL wsum
  rw [h]
  congr 1
  refine List.map_congr_left fun i hi=>?_
  have hi:=List.mem_range.mp hi
  simp [wI,wF,List.getD,h,hi]
end L2
namespace L2
open PySem PySem.Spec PyProof.Rows BW
def wordS (wo:Bool):Str:=if wo then "worst" else "even"
theorem dec_word (wo:Bool):decide (V.str (wordS wo)=V.str "worst")=wo:=by
  cases wo
  · exact decide_eq_false (by intro e; injection e with e; revert e; decide +kernel)
  · exact decide_eq_true rfl
def CC (CW CE:Addr) (wo:Bool):Addr:=if wo then CW else CE
def sp_spare (K:PySem.W.Frag):Sp:=fun vs H Q _ => ∃ (b a:Addr) (beds:List Int) (way:List Nat),vs=[.ref b,.ref a]∧H b=some (.lst (beds.map V.int))∧beds.length≤1000∧H a=some (.lst ((wI way).map V.int))∧∀ l H',New H l (.lst ((openL beds (wI way)).map V.int)) H'→Q (.ref l) H'
def sp_copy (K:PySem.W.Frag):Sp:=fun vs H Q _ => ∃ (a:Addr) (rows:List (List Int)),vs=[.ref a]∧Mat H a rows∧rows.length≤1000∧∀ (l:Addr) (H':Hp),Same H H'→H l=none→Mat H' l rows→Q (.ref l) H'
def sp_lthrough:Sp:=fun vs H Q _ => ∃ (wo:Bool) (sp wy:Addr) (beds:List Int) (way:List Nat) (a b:Nat),vs=[.str (wordS wo),.ref sp,.ref wy,.int (a:Int),.int (b:Int)]∧H sp=some (.lst ((openL beds (wI way)).map V.int))∧H wy=some (.lst ((wI way).map V.int))∧beds.length≤10∧a < way.length∧b < way.length ∧
  ∀ (l:Addr) (ms:List Int) (H':Hp),Same H H'→H l=none→H' l=some (.lst (ms.map V.int))→IsRise ms (thruL wo beds way a b)→Q (.ref l) H'
def sp_lgain:Sp:=fun vs H Q _ => ∃ (wo:Bool) (w wy:Addr) (beds:List Int) (worths:List (List Int)) (way:List Nat) (a r b:Nat),vs=[.str (wordS wo),.ref w,.ref wy,.int (a:Int),.int (r:Int),.int (b:Int)]∧Mat H w worths∧H wy=some (.lst ((wI way).map V.int))∧AimOk beds worths way∧a < worths.length∧r < beds.length∧b < worths.length∧Q (.int (gainF wo worths way a r b)) H
theorem thru_lt {wo:Bool} {beds:List Int} {worths:List (List Int)} {way:List Nat} {a b:Nat} (ok:AimOk beds worths way) (ha:a < worths.length) (hb:b < worths.length) {ms:List Int} (h:IsRise ms (thruL wo beds way a b)):∀ z∈ms,∃ r:Nat,z=(r:Int)∧r < beds.length:=fun z hz=>by
  rcases List.mem_append.mp ((h.2 z).mp hz) with e | e
  · obtain ⟨r,hr,hlt,_⟩:=mem_open.mp e
    exact ⟨r,hr,hlt⟩
  · have e':z=((way.getD (if wo then a else b) 0:Nat):Int):=by simpa using e
    refine ⟨_,e',?_⟩
    cases wo
    · exact (ok.at_ hb).2
    · exact (ok.at_ ha).2
section
variable {CH CW CE p:Addr} {wo:Bool} {beds:List Int} {worths:List (List Int)} {rent:Int} {way:List Nat} {σ:St} {H:Hp} {Q:VK} {ta:TE} {t:TA}
theorem thru_go {a b:Nat} (hA:AimAt CH (CC CW CE wo) H p beds worths rent way) (ok:AimOk beds worths way) (ha:a < worths.length) (hb:b < worths.length) (h0:∀ K:VK,K (.ref p) H→ta σ H K) (ht:∀ K:List V→Hp→Prop,K [.int (a:Int),.int (b:Int)] H→t σ H K)
    (k:∀ (l:Addr) (ms:List Int) (H':Hp),Same H H'→H l=none→H' l=some (.lst (ms.map V.int))→IsRise ms (thruL wo beds way a b)→Q (.ref l) H') :
    tMeth CW "through" (sp_through true CH CW) [] E0 ta t σ H Q∨tMeth CE "through" (sp_through false CH CE) [] E0 ta t σ H Q:=by
  obtain ⟨dx,hp,wa,g1,g2,g3⟩:=hA.ex
  cases wo with
  | true=>exact .inl (h0 _ ⟨p,dx,_,rfl,g1,af_no _ _ (by decide +kernel) (by decide +kernel),ht _ ⟨p,beds,worths,rent,way,a,b,rfl,hA,ok,ha,hb,k⟩⟩)
  | false=>exact .inr (h0 _ ⟨p,dx,_,rfl,g1,af_no _ _ (by decide +kernel) (by decide +kernel),ht _ ⟨p,beds,worths,rent,way,a,b,rfl,hA,ok,ha,hb,k⟩⟩)
theorem gain_go {a r b:Nat} (hA:AimAt CH (CC CW CE wo) H p beds worths rent way) (ok:AimOk beds worths way) (ha:a < worths.length) (hr:r < beds.length) (hb:b < worths.length) (h0:∀ K:VK,K (.ref p) H→ta σ H K) (ht:∀ K:List V→Hp→Prop,K [.int (a:Int),.int (r:Int),.int (b:Int)] H→t σ H K)
    (k:Q (.int (gainF wo worths way a r b)) H) :
    tMeth CW "gain" (sp_gain true CH CW) [] E0 ta t σ H Q∨tMeth CE "gain" (sp_gain false CH CE) [] E0 ta t σ H Q:=by
  obtain ⟨dx,hp,wa,g1,g2,g3⟩:=hA.ex
  cases wo with
  | true=>exact .inl (h0 _ ⟨p,dx,_,rfl,g1,af_no _ _ (by decide +kernel) (by decide +kernel),ht _ ⟨p,beds,worths,rent,way,a,r,b,rfl,hA,ok,ha,hr,hb,k⟩⟩)
  | false=>exact .inr (h0 _ ⟨p,dx,_,rfl,g1,af_no _ _ (by decide +kernel) (by decide +kernel),ht _ ⟨p,beds,worths,rent,way,a,r,b,rfl,hA,ok,ha,hr,hb,k⟩⟩)
theorem whole_go (hA:AimAt CH (CC CW CE wo) H p beds worths rent way) (ok:AimOk beds worths way) (h0:∀ K:VK,K (.ref p) H→ta σ H K)
    (k:∀ H',Same H H'→Q (.int (if wo then wsum (wF worths) way - rent else rent)) H') :
    tMeth CW "whole" (sp_whole_ true CH CW) [] E0 ta tNil σ H Q∨tMeth CE "whole" (sp_whole_ false CH CE) [] E0 ta tNil σ H Q:=by
  obtain ⟨dx,hp,wa,g1,g2,g3⟩:=hA.ex
  cases wo with
  | true=>exact .inl (h0 _ ⟨p,dx,_,rfl,g1,af_no _ _ (by decide +kernel) (by decide +kernel),p,beds,worths,rent,way,rfl,hA,ok,k⟩)
  | false=>exact .inr (h0 _ ⟨p,dx,_,rfl,g1,af_no _ _ (by decide +kernel) (by decide +kernel),p,beds,worths,rent,way,rfl,hA,ok,k⟩)
theorem price_go {i:Nat} {level parts:Int} (hA:AimAt CH (CC CW CE wo) H p beds worths rent way) (ok:AimOk beds worths way) (hi:i < worths.length) (hx:∀ row∈worths,∀ x∈row,-(10 ^ 42) < x∧x < 10 ^ 42) (hp:-(10 ^ 200) < parts∧parts < 10 ^ 200) (h0:∀ K:VK,K (.ref p) H→ta σ H K) (ht:∀ K:List V→Hp→Prop,K [.int (i:Int),.int level,.int parts] H→t σ H K)
    (k:Q (.int (if wo then parts * ownF worths way i - level else level)) H) :
    tMeth CW "price" (sp_price true CH CW) [] E0 ta t σ H Q∨tMeth CE "price" (sp_price false CH CE) [] E0 ta t σ H Q:=by
  obtain ⟨dx,hp',wa,g1,g2,g3⟩:=hA.ex
  cases wo with
  | true=>exact .inl (h0 _ ⟨p,dx,_,rfl,g1,af_no _ _ (by decide +kernel) (by decide +kernel),ht _ ⟨p,beds,worths,rent,way,i,level,parts,rfl,hA,ok,hi,hx,hp,k⟩⟩)
  | false=>exact .inr (h0 _ ⟨p,dx,_,rfl,g1,af_no _ _ (by decide +kernel) (by decide +kernel),ht _ ⟨p,beds,worths,rent,way,i,level,parts,rfl,hA,ok,hi,hx,hp,k⟩⟩)
end
end L2
namespace L2
open PySem PySem.Spec PyProof.Rows BW
section
variable {X:Cx} {pins:List (Addr × Obj)} {σ:St} {H:Hp} {s:Shared} {c P:Addr} {scope:Scope} {params:Arguments} {body:Expr} {lpos:Pos}
theorem lam_make2 {Q:Value→Shared→Prop} {E:Value→Shared→Prop} (J:Inv X pins σ H s) (ok:compOk scope X.env.scope=true) (hcode:X.env.code=.ref c) (C:PySem.W.codeHdIn X.K c P=true) (BA:X.base.BuiltinsAt X.mg P) (hdef:defaultsOf params X.env=([],[]))
    (hT:LamAt H P lpos (X.env.qual ++ "<lambda>"))
    (hQ:∀ f c' pm ctv H' s',Inv X (pins ++ [(f,PySem.W.kla_obj "<lambda>" (X.env.qual ++ "<lambda>") params body scope (clOf X.env.cells scope.names []) pm c' ctv)]) σ H' s'→(∃ oc vs t,H' c'=some (.frz oc (.own 0))∧oc.data=.fields vs∧vs[1]? = some (.str (X.env.qual ++ "<lambda>") t)) →
      SameB H H'→(∀ b o,H b=some o→b≠P→H' b=some o)→LamAt H' P lpos (X.env.qual ++ "<lambda>")→Q (.ref f) s') :
    wpAny (model X.prog X.w) X.A (eval (.Lambda params body scope lpos) X.env) Q E s:=by
  refine PySem.W.kla_eval hdef ?_
  have CH:PySem.W.CodeHd s.heap c P:=PySem.W.codeHd_of_K J.kIn C
  have hcl:closureFor scope X.env=pure (clOf X.env.cells scope.names []):=closureFor_clOf (comp_cells J ok)
  have hgs:s.heap.Ns mainGlobals X.mg:=J.mod.glob.keeps J.bk
  have hgP:mainGlobals≠P:=fun z=>by
    obtain ⟨o,es,ep,e,_⟩:=J.mod.glob
    have:=(J.bs _ _ e).2
    rw [z] at this
    rcases hT with h | ⟨_,_,_,_,h,_⟩ <;> rw [this] at h <;> cases h
  have BS:s.heap.BuiltinsAt X.mg P:=by
    obtain ⟨bm,o,b1,b2,b3,b4,b5,b6⟩:=BA
    exact ⟨bm,o,b1,b2,b3,b4,J.bk _ _ b5,b6⟩
  rcases hT with hT | ⟨c',oc,vs,t,hT,hc',hd,hv⟩
  · have hP:s.heap.get? P=some (PySem.W.tabObj #[]):=J.hok P _ hT
    refine PySem.W.kla_makeFunction (mg:=X.mg) hcl J.ok.glob hgs hcode CH hP trivial rfl hgP BS fun c' ctv h' tk hx hge hlt hrec htb=>?_
    obtain ⟨c2,oc,vs,t,e2,hoc,hd,hv⟩:=hrec
    cases e2
    have hPlt:P < s.heap.objs.size:=Heap.lt_size hP
    have nPc:P≠c':=Nat.ne_of_lt (Nat.lt_of_lt_of_le hPlt hge)
    have lt':∀ b o,s.heap.get? b=some o→b≠c':=fun b o e=>Nat.ne_of_lt (Nat.lt_of_lt_of_le (Heap.lt_size e) hge)
    have hfc:H c'=none:=J.hok.fresh hge
    have eP:upd (upd H P (.tbl (#[] ++ #[rawInt lpos.line,rawInt lpos.col,.ref c']))) c' (.frz oc (.own 0)) P=some (.tbl #[rawInt lpos.line,rawInt lpos.col,.ref c']):=by
      rw [upd_ne nPc,upd_same]; rfl
    have eo:∀ b,b≠P→b≠c'→upd (upd H P (.tbl (#[] ++ #[rawInt lpos.line,rawInt lpos.col,.ref c']))) c' (.frz oc (.own 0)) b=H b:=fun b h1 h2=>by rw [upd_ne h2,upd_ne h1]
    have hk:∀ b o,b≠P→s.heap.get? b=some o→(h'.push (PySem.W.kla_obj "<lambda>" (X.env.qual ++ "<lambda>") params body scope (clOf X.env.cells scope.names []) ((X.mg "__name__").getD .none) c' ctv)).get? b=some o:=fun b o hb e=>Heap.get?_push_of_some _ (hx b o hb e)
    have keepH:∀ b u,H b=some u→b≠P→upd (upd H P (.tbl (#[] ++ #[rawInt lpos.line,rawInt lpos.col,.ref c']))) c' (.frz oc (.own 0)) b=some u:=fun b u e h1=>by
      rw [eo b h1 (ne_of_none e hfc)]; exact e
    have J1:Inv X pins σ (upd (upd H P (.tbl (#[] ++ #[rawInt lpos.line,rawInt lpos.col,.ref c']))) c' (.frz oc (.own 0))) { s with heap:=h'.push (PySem.W.kla_obj "<lambda>" (X.env.qual ++ "<lambda>") params body scope (clOf X.env.cells scope.names []) ((X.mg "__name__").getD .none) c' ctv),toks:=tk }:=by
      refine J.un ⟨fun b o e n _ _=>hk b o (fun z=>by rw [z,hT] at n; cases n) e,fun b o e n _ _=>⟨o.slots,hk b o (fun z=>by rw [z,hT] at n; cases n) e⟩,fun b o e n _=>?_,fun b o e _=>?_,fun b xs e=>?_,fun b o u e=>?_,fun b ps e=>?_⟩ fun b u e=>?_
      · rw [eo b (fun z=>by rw [z,hT] at n; cases n) (lt' b o e)]
        exact n
      · by_cases hb:b=P
        · subst hb
          exact ⟨_,Heap.get?_push_of_some _ htb⟩
        · exact ⟨o,hk b o hb e⟩
      · exact keepH b _ e fun z=>by rw [z,hT] at e; cases e
      · exact keepH b _ e fun z=>by rw [z,hT] at e; cases e
      · by_cases hb:b=P
        · subst hb
          rw [hT] at e
          cases e
          exact ⟨_,by rw [upd_ne nPc,upd_same]⟩
        · exact ⟨#[],by rw [keepH b _ e hb]; simp⟩
      · by_cases hb:b=P
        · subst hb
          rw [eP] at e
          cases e
          exact Heap.get?_push_of_some _ htb
        · by_cases hb2:b=c'
          · subst hb2
            rw [upd_same] at e
            cases e
            exact ⟨Heap.get?_push_of_some _ hoc,_,Heap.get?_push_of_some _ hoc⟩
          · rw [eo b hb hb2] at e
            have nP:∀ b' u',H b'=some u'→isTbl u'=false→b'≠P:=fun b' u' e' z w=>by rw [w,hT] at e'; cases e'; cases z
            refine (J.hok b u e).stay (fun b' o' hb' e'=>hk b' o' ?_ e') (fun b' e'=>keepH b' _ e' (nP b' _ e' rfl)) fun b' xs e'=>keepH b' _ e' (nP b' _ e' rfl)
            rcases hb' with rfl | hb'
            · exact hb
            · exact nP b' _ hb' rfl
    have hfr:s.heap.objs.size≤h'.objs.size:=Nat.le_trans hge (Nat.le_of_lt hlt)
    have ff:=J.fpOk (H':=upd (upd H P (.tbl (#[] ++ #[rawInt lpos.line,rawInt lpos.col,.ref c']))) c' (.frz oc (.own 0))) (b:=h'.objs.size) hfr (by
      rw [eo _ (Nat.ne_of_gt (Nat.lt_of_lt_of_le hPlt hfr)) (Nat.ne_of_gt hlt)]
      exact J.hok.fresh hfr)
    refine hQ _ c' ((X.mg "__name__").getD .none) ctv _ _ (J1.pins_of fun p hp=>?_) ⟨oc,vs,t,upd_same,hd,hv⟩ ⟨fun b u e z=>keepH b u e (fun w=>by rw [w,hT] at e; cases e; cases z),fun b e=>by
      by_cases hb:b=P
      · subst hb; rw [eP] at e; cases e
      · by_cases hb2:b=c'
        · subst hb2; exact hfc
        · rw [eo b hb hb2] at e; exact e⟩ keepH (.inr ⟨c',oc,vs,t,eP,upd_same,hd,hv⟩)
    rcases List.mem_append.mp hp with z | z
    · exact J1.pin p (List.mem_append_right _ z)
    · have:p=(h'.objs.size,PySem.W.kla_obj "<lambda>" (X.env.qual ++ "<lambda>") params body scope (clOf X.env.cells scope.names []) ((X.mg "__name__").getD .none) c' ctv):=by simpa using z
      subst this
      exact ⟨Heap.get?_push_size _ rfl,ff.1,ff.2.1,ff.2.2.1,fun v z=>by cases z⟩
  · have hP:s.heap.get? P=some (PySem.W.tabObj #[rawInt lpos.line,rawInt lpos.col,.ref c']):=J.hok P _ hT
    refine PySem.W.kla_makeFunctionHit (cv:=.ref c') (mg:=X.mg) hcl J.ok.glob hgs hcode CH hP trivial (by show (if (((lpos.line:Nat):Int) == lpos.line && ((lpos.col:Nat):Int) == lpos.col)=true then _ else _)=_; simp) BS fun ctv h' tk hk hsz=>?_
    have hk2:∀ b o,s.heap.get? b=some o→(h'.push (PySem.W.kla_obj "<lambda>" (X.env.qual ++ "<lambda>") params body scope (clOf X.env.cells scope.names []) ((X.mg "__name__").getD .none) c' ctv)).get? b=some o:=fun b o e=>Heap.get?_push_of_some _ (hk b o e)
    have J1:=J.kept (t':=tk) hk2
    have ff:=J.fpOk (H':=H) (b:=h'.objs.size) hsz (J.hok.fresh hsz)
    refine hQ _ c' ((X.mg "__name__").getD .none) ctv H _ (J1.pins_of fun p hp=>?_) ⟨oc,vs,t,hc',hd,hv⟩ (SameB.refl _) (fun b o e _=>e) (.inr ⟨c',oc,vs,t,hT,hc',hd,hv⟩)
    rcases List.mem_append.mp hp with z | z
    · exact J1.pin p (List.mem_append_right _ z)
    · have:p=(h'.objs.size,PySem.W.kla_obj "<lambda>" (X.env.qual ++ "<lambda>") params body scope (clOf X.env.cells scope.names []) ((X.mg "__name__").getD .none) c' ctv):=by simpa using z
      subst this
      exact ⟨Heap.get?_push_size _ rfl,ff.1,ff.2.1,ff.2.2.1,fun v z=>by cases z⟩
def tMaxLam2 (K:PySem.W.Frag) (P:Addr) (lpos:Pos) (qual:Str) (ix:List (Option Nat)) (t1:TA) (te:TE):TE:=fun σ H Q=>t1 σ H fun vs H1 => ∃ (a:Addr) (ns:List Int) (kf:Int→Int),vs=[.ref a]∧SqL K H1 a (ns.map V.int)∧0 < ns.length∧LamAt H1 P lpos qual ∧
  (∀ z∈ns,∀ H2,SameB H1 H2→te (some (.int z) :: cSt σ ix) H2 fun y H3=>y=.int (kf z)∧H3=H2)∧∀ z∈ns,(∀ z'∈ns,kf z'≤kf z)→∀ H2,SameB H1 H2→(∀ b o,H1 b=some o→b≠P→H2 b=some o)→LamAt H2 P lpos qual→Q (.int z) H2
theorem pe_maxLam2 {e:Expr} {p pos kpos:Pos} {x:Str} {Nc:List Str} {ix:List (Option Nat)} {t1:TA} {te:TE} (C:PySem.W.codeHdIn X.K c P=true) (BA:X.base.BuiltinsAt X.mg P) (hcode:X.env.code=.ref c) (hc:X.calm=true) (hm:X.mg "max" = none) (hroom:X.A.depth < recursionLimit)
    (he1:PA X [e] t1) (he:∀ L f cd s0 H0,PE (lamCx X (X.env.qual ++ "<lambda>") scope L f cd s0 H0 (x :: Nc)) body te)
    (ok:compOk scope X.env.scope=true) (hix:ixOk scope X.N (x :: Nc) (none :: ix)=true) (hx:scope.names.lookup x=some .local) (hco:scope.isCoroutine=false) (hgen:scope.isGenerator=false)
    (hdef:defaultsOf params X.env=([],[])) (hbind:∀ (cl:List (Str × Addr)) (pm cd ctv u:Value),bindArgs (PySem.W.kla_fn "<lambda>" (X.env.qual ++ "<lambda>") params body scope cl pm cd ctv) ⟨[u],[]⟩=pure [(x,u)]) (hg:Gl X "max") (h1:starEach [e] X.env=[(false,eval e X.env)]) :
    PE X (.Call (.Name "max" p) [e] [⟨some "key",.Lambda params body scope lpos,kpos⟩] pos) (tMaxLam2 X.K P lpos (X.env.qual ++ "<lambda>") ix t1 te):=by
  intro pins s σ H Q I h
  refine wpAny_Call_Name_kw (ld_blt I hg hm boot_max' ?_)
  refine PyProof.Rows.callWith_kw ?_ (by rw [h1]; rfl) (by rw [h1]; rfl)
  refine thn (he1 pos pins s σ H _ I h) fun us s1 ⟨vs,H1,I1,r1,a,ns,kf,e1,hS,hne,hL,hk,hQ⟩=>?_
  subst e1
  obtain ⟨u,rfl,ru⟩:=vals1 r1
  cases ru
  show wpAny _ _ (evalAll [(do let v ← eval (.Lambda params body scope lpos) X.env; standAt pos; pure v)]) _ _ s1
  refine wpAny_evalAll_cons (wpAny_bind (lam_make2 I1 ok hcode C BA hdef hL fun f c' pm ctv H2 s2 I2 hrec sb so hL2=>wpAny_bind (wpAny_standAt (wpAny_pure (wpAny_evalAll_nil ?_)))))
  refine max_key kf hc I2 (sb.seq hS) hne (fun z hz t pl s3 hpl I3=>?_) fun z t s3 hz hmax I3=>?_
  · have hpin:=I3.pin _ (List.mem_append_right _ (hpl _ (List.mem_append_right pins List.mem_cons_self)))
    obtain ⟨oc,vs',t',h4,h5,h6⟩:=hrec
    have hcd:s3.heap.CodeRec (.ref c') (X.env.qual ++ "<lambda>"):=⟨c',oc,vs',t',rfl,(I3.hok c' _ h4).1,h5,h6⟩
    exact lam_call I3 hc ok hix hx hco hgen hpin.1 hcd hroom (fun u=>hbind _ _ _ _ u) (v:=.int z) ⟨t,rfl⟩ he (hk z hz H2 sb)
  · exact ⟨.int z,H2,I3.sub fun p hp=>List.mem_append_left _ hp,⟨t,rfl⟩,hQ z hz hmax H2 sb so hL2⟩
end
def SameO (P:Addr) (H H':Hp):Prop:=∀ b o,H b=some o→b≠P→H' b=some o
theorem Same.o {P:Addr} {H H':Hp} (s:Same H H'):SameO P H H':=fun b o e _=>s b o e
theorem SameO.trans {P:Addr} {H H1 H2:Hp} (a:SameO P H H1) (b:SameO P H1 H2):SameO P H H2:=fun c o e h=>b c o (a c o e h) h
theorem LamAt.o {H H':Hp} {P P2:Addr} {pos:Pos} {qual:Str} (h:LamAt H P2 pos qual) (hP:∃ ps,H P=some (.tbl ps)) (hne:P2≠P) (s:SameO P H H'):LamAt H' P2 pos qual:=by
  rcases h with h | ⟨c',oc,vs,t,h1,h2,h3⟩
  · exact .inl (s _ _ h hne)
  · refine .inr ⟨c',oc,vs,t,s _ _ h1 hne,s _ _ h2 ?_,h3⟩
    intro e
    obtain ⟨ps,hp⟩:=hP
    rw [e,hp] at h2
    cases h2
theorem LamAt.tbl {H:Hp} {P:Addr} {pos:Pos} {qual:Str} (h:LamAt H P pos qual):∃ ps,H P=some (.tbl ps):=by
  rcases h with h | ⟨c',oc,vs,t,h1,h2,h3⟩
  · exact ⟨_,h⟩
  · exact ⟨_,h1⟩
def sp_bring2 (K:PySem.W.Frag) (C PT:Addr) (lpos:Pos) (qual:Str):Sp:=fun vs H Q _ => ∃ (p a:Addr) (beds:List Int) (worths:List (List Int)) (rent:Int) (way:List Nat),vs=[.ref p,.ref a]∧HouseAt C H p beds worths rent∧H a=some (.lst ((wI way).map V.int))∧BestOk beds worths∧way.length < worths.length ∧
  (way.length:Int) < beds.sum∧(∀ b∈beds,0≤b)∧Fit (bF beds) way∧Opt beds worths way∧LamAt H PT lpos qual ∧
  ∀ (l:Addr) (way':List Nat) (H':Hp),SameB H H'→SameO PT H H'→H l=none→H' l=some (.lst ((wI way').map V.int))→LamAt H' PT lpos qual→way'.length=way.length + 1→Fit (bF beds) way'→Opt beds worths way'→Q (.ref l) H'
def sp_best2 (K:PySem.W.Frag) (C PT:Addr) (lpos:Pos) (qual:Str):Sp:=fun vs H Q _ => ∃ (p:Addr) (beds:List Int) (worths:List (List Int)) (rent:Int),vs=[.ref p]∧HouseAt C H p beds worths rent∧BestOk beds worths ∧
  (worths.length:Int)≤beds.sum∧(∀ b∈beds,0≤b)∧LamAt H PT lpos qual ∧
  ∀ (l:Addr) (way:List Nat) (H':Hp),SameB H H'→SameO PT H H'→H l=none→H' l=some (.lst ((wI way).map V.int))→LamAt H' PT lpos qual→way.length=worths.length→Fit (bF beds) way→Opt beds worths way→Q (.ref l) H'
end L2
namespace BW
open L2
theorem price_ex {W:Nat→Nat→Int} {B:Nat→Nat} {way:List Nat} {R:Nat} (hB:∀ r,R≤r→B r=0) (hfit:Fit B way) (hopt:∀ v:List Nat,v.length=way.length→Fit B v→wsum W v≤wsum W way) :
    ∃ g:Nat→Int,(∀ p (hp:p < way.length) r,r < R→g way[p] + W p r - W p way[p]≤g r)∧(∀ r,0≤g r)∧∀ e,way.count e < B e→g e≤0:=by
  have hway:∀ r∈way,r < R:=fun r hr=>by
    refine Classical.byContradiction fun z=>?_
    have h1:=hB r (by omega)
    have h2:=hfit r
    have h3:=List.count_pos_iff.mpr hr
    omega
  let W0:Nat→Nat→Int:=fun p r=>if p < way.length then W p r else 0
  have hs:∀ v:List Nat,v.length=way.length→wsum W0 v=wsum W v:=fun v hv=>by
    unfold wsum
    congr 1
    refine List.map_congr_left fun i hi=>?_
    have hi:=List.mem_range.mp hi
    show (if i < way.length then _ else _)=_
    rw [if_pos (by omega)]
  have hopt0:∀ v:List Nat,v.length=way.length→Fit B v→wsum W0 v≤wsum W0 way:=fun v hv hf=>by
    rw [hs v hv,hs way rfl]
    exact hopt v hv hf
  have ok:=turns_ok (W:=W0) (R:=R) hfit hopt0 hway R
  refine ⟨fun r=>(turns W0 way R (first W0 way R) R).1.getD r 0,fun p hp r hr=>?_,fun r=>?_,fun e he=>?_⟩
  · have:=turns_fix (W:=W0) (R:=R) hfit hopt0 hway hp hr
    have e1:W0 p r=W p r:=if_pos hp
    have e2:W0 p way[p]=W p way[p]:=if_pos hp
    rw [e1,e2] at this
    exact this
  · by_cases hr:r < R
    · have h1:Reach W0 way R R r (W0 way.length r):=(Reach.base hr).more (Nat.zero_le _)
      have h2:=reach_le h1
      have h3:W0 way.length r=0:=if_neg (Nat.lt_irrefl _)
      rw [h3] at h2
      exact h2
    · have:(turns W0 way R (first W0 way R) R).1.getD r 0=0:=by
        rw [List.getD_eq_getElem?_getD,List.getElem?_eq_none (by rw [ok.l1]; omega)]
        rfl
      show 0≤(turns W0 way R (first W0 way R) R).1.getD r 0
      rw [this]
      exact Int.le_refl _
  · have heR:e < R:=by
      refine Classical.byContradiction fun z=>?_
      have:=hB e (by omega)
      omega
    obtain ⟨r0,c,g,e1,hsg,e2,_⟩:=ok.at_ e heR
    have h3:W0 way.length r0=0:=if_neg (Nat.lt_irrefl _)
    obtain ⟨i1,i2,i3,_⟩:=hsg.app
    have hf:Fit B (app way c):=fun x=>by
      have h1:=i3 x
      have h2:=hfit x
      by_cases hx:x=e
      · subst hx
        rw [ind_self] at h1
        omega
      · rw [ind_ne hx] at h1
        omega
    have:=hopt0 _ i1 hf
    rw [i2] at this
    show (turns W0 way R (first W0 way R) R).1.getD e 0≤0
    rw [e2,h3]
    omega
abbrev Hop:=Nat × Nat × Nat
inductive ChS (hs:List Hop) (s:Nat):List Hop→Nat→Prop
  | nil:ChS hs s [] s
  | snoc {c:List Hop} {a r b:Nat}:ChS hs s c a→(a,r,b)∈hs→ChS hs s (c ++ [(a,r,b)]) b
def wt (gn:Hop→Int) (c:List Hop):Int:=(c.map gn).sum
theorem wt_app (gn:Hop→Int) (c d:List Hop):wt gn (c ++ d)=wt gn c + wt gn d:=by simp [wt]
section
variable {hs:List Hop} {gn:Hop→Int} {n:Nat}
theorem ChS.app {s x b:Nat} {c d:List Hop} (h1:ChS hs s c x) (h2:ChS hs x d b):ChS hs s (c ++ d) b:=by
  induction h2 with
  | nil=>simpa using h1
  | snoc _ hm ih =>
    rw [← List.append_assoc]
    exact .snoc ih hm
theorem ChS.split {s b:Nat} {c:List Hop} (h:ChS hs s c b):∀ x∈s :: c.map (fun m=>m.2.2),∃ c1 c2,c=c1 ++ c2∧ChS hs s c1 x∧ChS hs x c2 b:=by
  induction h with
  | nil =>
    intro x hx
    have:x=s:=by simpa using hx
    subst this
    exact ⟨[],[],rfl,.nil,.nil⟩
  | @snoc c a r b h hm ih =>
    intro x hx
    rw [List.map_append,← List.cons_append] at hx
    rcases List.mem_append.mp hx with hx | hx
    · obtain ⟨c1,c2,e,h1,h2⟩:=ih x hx
      exact ⟨c1,c2 ++ [(a,r,b)],by rw [e,List.append_assoc],h1,.snoc h2 hm⟩
    · have:x=b:=by simpa using hx
      subst this
      exact ⟨c ++ [(a,r,x)],[],by simp,.snoc h hm,.nil⟩
theorem ChS.dup {s b:Nat} {c:List Hop} (h:ChS hs s c b) (hd:¬ (s :: c.map (fun m=>m.2.2)).Nodup):∃ c1 c2 c3 x,c=c1 ++ (c2 ++ c3)∧c2≠[]∧ChS hs s c1 x∧ChS hs x c2 x∧ChS hs x c3 b:=by
  induction h with
  | nil=>exact absurd (by simp) hd
  | @snoc c a r b h hm ih =>
    by_cases hn:(s :: c.map (fun m=>m.2.2)).Nodup
    · have hb:b∈s :: c.map (fun m=>m.2.2):=by
        refine Classical.byContradiction fun z=>hd ?_
        rw [List.map_append,← List.cons_append,List.nodup_append]
        refine ⟨hn,by simp,fun p hp q hq=>?_⟩
        have:q=b:=by simpa using hq
        subst this
        intro e
        subst e
        exact z hp
      obtain ⟨c1,c2,e,h1,h2⟩:=h.split b hb
      exact ⟨c1,c2 ++ [(a,r,b)],[],b,by rw [e]; simp,by simp,h1,.snoc h2 hm,.nil⟩
    · obtain ⟨c1,c2,c3,x,e,hne,h1,h2,h3⟩:=ih hn
      exact ⟨c1,c2,c3 ++ [(a,r,b)],x,by rw [e]; simp,hne,h1,h2,.snoc h3 hm⟩
theorem ChS.pot {h:Nat→Int} (hp:∀ m∈hs,h m.1 + gn m≤h m.2.2) {s b:Nat} {c:List Hop} (hc:ChS hs s c b):h s + wt gn c≤h b:=by
  induction hc with
  | nil=>simp [wt]
  | @snoc c a r b _ hm ih =>
    have:=hp _ hm
    rw [wt_app]
    have e:wt gn [(a,r,b)]=gn (a,r,b):=by simp [wt]
    rw [e]
    simp only at this
    omega
theorem ChS.lt (hlt:∀ m∈hs,m.1 < n∧m.2.2 < n) {s b:Nat} {c:List Hop} (hc:ChS hs s c b) (hsn:s < n):(∀ x∈s :: c.map (fun m=>m.2.2),x < n)∧b < n:=by
  induction hc with
  | nil =>
    refine ⟨fun x hx=>?_,hsn⟩
    have:x=s:=by simpa using hx
    rw [this]; exact hsn
  | @snoc c a r b _ hm ih =>
    refine ⟨fun x hx=>?_,(hlt _ hm).2⟩
    rw [List.map_append,← List.cons_append] at hx
    rcases List.mem_append.mp hx with hx | hx
    · exact ih.1 x hx
    · have:x=b:=by simpa using hx
      rw [this]; exact (hlt _ hm).2
theorem shorten {h:Nat→Int} (hp:∀ m∈hs,h m.1 + gn m≤h m.2.2) (hlt:∀ m∈hs,m.1 < n∧m.2.2 < n):∀ (k:Nat) {s b:Nat} {c:List Hop},c.length≤k→s < n→ChS hs s c b→∃ c',ChS hs s c' b∧c'.length < n∧wt gn c≤wt gn c'
  | 0,s,b,c,hl,hs',hc=>⟨c,hc,by omega,Int.le_refl _⟩
  | k + 1,s,b,c,hl,hs',hc=>by
    by_cases hn:c.length < n
    · exact ⟨c,hc,hn,Int.le_refl _⟩
    · have hnd:¬ (s :: c.map (fun m=>m.2.2)).Nodup:=fun z=>by
        have:=nodup_le n _ z (hc.lt hlt hs').1
        simp at this
        omega
      obtain ⟨c1,c2,c3,x,rfl,hne,h1,h2,h3⟩:=hc.dup hnd
      have h4:=h2.pot hp
      have hl2:0 < c2.length:=List.length_pos_iff.mpr hne
      obtain ⟨c',g1,g2,g3⟩:=shorten hp hlt k (c:=c1 ++ c3) (by simp at hl ⊢; omega) hs' (h1.app h3)
      refine ⟨c',g1,g2,?_⟩
      rw [wt_app] at g3
      rw [wt_app,wt_app]
      omega
abbrev TC:=List Int × List (List Hop)
def relC (gn:Hop→Int) (st:TC) (m:Hop):TC:=if st.1.getD m.1 0 + gn m > st.1.getD m.2.2 0 then (st.1.set m.2.2 (st.1.getD m.1 0 + gn m),st.2.set m.2.2 (st.2.getD m.1 [] ++ [m])) else st
def rndC (gn:Hop→Int) (hs:List Hop) (st:TC):TC:=hs.foldl (relC gn) st
def rndsC (gn:Hop→Int) (hs:List Hop) (st:TC) (k:Nat):TC:=(List.range k).foldl (fun st _=>rndC gn hs st) st
theorem rndsC_succ (st:TC) (k:Nat):rndsC gn hs st (k + 1)=rndC gn hs (rndsC gn hs st k):=by
  unfold rndsC
  rw [List.range_succ,List.foldl_append]
  rfl
structure OkC (hs:List Hop) (gn:Hop→Int) (n:Nat) (st:TC):Prop where
  l1:st.1.length=n
  l2:st.2.length=n
  at_:∀ b,b < n→∃ s,s < n∧ChS hs s (st.2.getD b []) b∧wt gn (st.2.getD b [])=st.1.getD b 0
def zeroC (n:Nat):TC:=(List.replicate n 0,List.replicate n [])
theorem zero_ok:OkC hs gn n (zeroC n):=by
  refine ⟨by simp [zeroC],by simp [zeroC],fun b hb=>⟨b,hb,?_,?_⟩⟩
  · have:(zeroC n).2.getD b []=[]:=by simp [zeroC,List.getD,hb]
    rw [this]
    exact .nil
  · simp [zeroC,List.getD,hb,wt]
theorem relC_ok (hlt:∀ m∈hs,m.1 < n∧m.2.2 < n) {st:TC} (ok:OkC hs gn n st) {m:Hop} (hm:m∈hs):OkC hs gn n (relC gn st m):=by
  obtain ⟨h1,h2⟩:=hlt m hm
  unfold relC
  split
  · refine ⟨by simp [ok.l1],by simp [ok.l2],fun b hb=>?_⟩
    have l1:=ok.l1
    have l2:=ok.l2
    by_cases hbm:b=m.2.2
    · subst hbm
      obtain ⟨s,hs1,hs2,hs3⟩:=ok.at_ m.1 h1
      refine ⟨s,hs1,?_,?_⟩
      · have e:(st.2.set m.2.2 (st.2.getD m.1 [] ++ [m])).getD m.2.2 []=st.2.getD m.1 [] ++ [m]:=by simp [List.getD,l2,h2]
        rw [e]
        exact .snoc hs2 hm
      · have e:(st.2.set m.2.2 (st.2.getD m.1 [] ++ [m])).getD m.2.2 []=st.2.getD m.1 [] ++ [m]:=by simp [List.getD,l2,h2]
        rw [e,wt_app,hs3]
        simp [List.getD,l1,h2,wt]
    · obtain ⟨s,hs1,hs2,hs3⟩:=ok.at_ b hb
      have hbm':m.2.2≠b:=fun z=>hbm z.symm
      have e1:(st.2.set m.2.2 (st.2.getD m.1 [] ++ [m])).getD b []=st.2.getD b []:=by simp [List.getD,List.getElem?_set_ne hbm']
      have e2:(st.1.set m.2.2 (st.1.getD m.1 0 + gn m)).getD b 0=st.1.getD b 0:=by simp [List.getD,List.getElem?_set_ne hbm']
      exact ⟨s,hs1,by rw [e1]; exact hs2,by rw [e1,e2]; exact hs3⟩
  · exact ok
theorem relC_mono {st:TC} {m:Hop} (x:Nat):st.1.getD x 0≤(relC gn st m).1.getD x 0:=by
  unfold relC
  split
  · rename_i h
    by_cases hx:x=m.2.2
    · subst hx
      by_cases hl:m.2.2 < st.1.length
      · simp [List.getD,hl]
        simp [List.getD,hl] at h
        omega
      · rw [List.set_eq_of_length_le (by omega)]
        exact Int.le_refl _
    · have hx':m.2.2≠x:=fun z=>hx z.symm
      simp [List.getD,List.getElem?_set_ne hx']
  · exact Int.le_refl _
theorem relC_at {st:TC} {m:Hop} (h:m.2.2 < st.1.length):st.1.getD m.1 0 + gn m≤(relC gn st m).1.getD m.2.2 0:=by
  unfold relC
  split
  · simp [List.getD,h]
  · omega
theorem relC_len {st:TC} {m:Hop}:(relC gn st m).1.length=st.1.length:=by
  unfold relC
  split <;> simp
theorem fold_mono {st:TC} (x:Nat):∀ (l:List Hop),st.1.getD x 0≤(l.foldl (relC gn) st).1.getD x 0
  | []=>Int.le_refl _
  | m :: l=>Int.le_trans (relC_mono x) (fold_mono (st:=relC gn st m) x l)
theorem fold_at {st:TC} {m:Hop}:∀ (l:List Hop),m∈l→m.2.2 < st.1.length→st.1.getD m.1 0 + gn m≤(l.foldl (relC gn) st).1.getD m.2.2 0
  | m' :: l,hm,hl=>by
    rw [List.foldl_cons]
    rcases List.mem_cons.mp hm with rfl | hm
    · exact Int.le_trans (relC_at hl) (fold_mono _ l)
    · have h1:=relC_mono (gn:=gn) (st:=st) (m:=m') m.1
      have h2:=fold_at (st:=relC gn st m') l hm (by rw [relC_len]; exact hl)
      omega
theorem rnds_ok (hlt:∀ m∈hs,m.1 < n∧m.2.2 < n) (k:Nat):OkC hs gn n (rndsC gn hs (zeroC n) k):=by
  refine fold_inv (I:=OkC hs gn n) zero_ok fun st _ _ ok=>?_
  exact fold_inv (I:=OkC hs gn n) ok fun st m hm ok=>relC_ok hlt ok hm
theorem rnds_mono {x j:Nat}:∀ {k:Nat},j≤k→(rndsC gn hs (zeroC n) j).1.getD x 0≤(rndsC gn hs (zeroC n) k).1.getD x 0
  | 0,h=>by
    have:j=0:=by omega
    rw [this]; exact Int.le_refl _
  | k + 1,h=>by
    by_cases hj:j=k + 1
    · rw [hj]; exact Int.le_refl _
    · rw [rndsC_succ]
      exact Int.le_trans (rnds_mono (k:=k) (by omega)) (fold_mono x hs)
theorem rnds_dom (hlt:∀ m∈hs,m.1 < n∧m.2.2 < n) {s b:Nat} {c:List Hop} (hc:ChS hs s c b) (hsn:s < n):wt gn c≤(rndsC gn hs (zeroC n) c.length).1.getD b 0:=by
  induction hc with
  | nil=>simp [wt,rndsC,zeroC,List.getD,hsn]
  | @snoc c a r b _ hm ih =>
    rw [List.length_append,List.length_singleton,rndsC_succ,wt_app]
    have h1:=fold_at (gn:=gn) (st:=rndsC gn hs (zeroC n) c.length) hs hm (by rw [(rnds_ok hlt c.length).l1]; exact (hlt _ hm).2)
    have h2:wt gn [(a,r,b)]=gn (a,r,b):=by simp [wt]
    rw [h2]
    simp only at h1
    unfold rndC
    omega
theorem rnds_closed {h:Nat→Int} (hp:∀ m∈hs,h m.1 + gn m≤h m.2.2) (hlt:∀ m∈hs,m.1 < n∧m.2.2 < n) {m:Hop} (hm:m∈hs):(rndsC gn hs (zeroC n) n).1.getD m.1 0 + gn m≤(rndsC gn hs (zeroC n) n).1.getD m.2.2 0:=by
  obtain ⟨s,h1,h2,h3⟩:=(rnds_ok (gn:=gn) hlt n).at_ m.1 (hlt m hm).1
  have h4:ChS hs s ((rndsC gn hs (zeroC n) n).2.getD m.1 [] ++ [(m.1,m.2.1,m.2.2)]) m.2.2:=.snoc h2 hm
  obtain ⟨c',g1,g2,g3⟩:=shorten hp hlt _ (Nat.le_refl _) h1 h4
  have g4:=rnds_dom (gn:=gn) hlt g1 h1
  have g5:=rnds_mono (hs:=hs) (gn:=gn) (n:=n) (x:=m.2.2) (j:=c'.length) (k:=n) (by omega)
  rw [wt_app,h3] at g3
  have h5:wt gn [(m.1,m.2.1,m.2.2)]=gn m:=by simp [wt]
  rw [h5] at g3
  omega
theorem rnds_nonneg (hlt:∀ m∈hs,m.1 < n∧m.2.2 < n) {b:Nat} (hb:b < n):0≤(rndsC gn hs (zeroC n) n).1.getD b 0:=by
  have h1:=rnds_dom (gn:=gn) hlt (.nil:ChS hs b [] b) hb
  have h2:=rnds_mono (hs:=hs) (gn:=gn) (n:=n) (x:=b) (j:=0) (k:=n) (Nat.zero_le _)
  simp [wt] at h1
  exact Int.le_trans h1 h2
end
end BW
namespace L2
open BW
theorem pot_ex {beds:List Int} {worths:List (List Int)} {way:List Nat} (wo:Bool) (ok:AimOk beds worths way) (hfit:Fit (bF beds) way) (hopt:Opt beds worths way) :
    ∃ h:Nat→Int,∀ a b r,a < worths.length→b < worths.length→r < beds.length→((r:Int)∈thruL wo beds way a b)→h a + gainF wo worths way a r b≤h b:=by
  obtain ⟨g,g1,g2,g3⟩:=price_ex (bF_out beds) hfit hopt
  have hw:∀ a,a < worths.length→∃ (ha:a < way.length),way[a]=way.getD a 0:=fun a ha=>by
    have ha':a < way.length:=by rw [ok.len]; exact ha
    exact ⟨ha',by simp [List.getD,ha']⟩
  have hmem:∀ {r x:Nat},((r:Int)∈openL beds (wI way) ++ [(x:Int)])→r=x∨way.count r < bF beds r:=fun {r x} h=>by
    rcases List.mem_append.mp h with e | e
    · obtain ⟨r',e1,_,e2⟩:=mem_open.mp e
      have:r'=r:=by omega
      subst this
      exact .inr e2
    · have:(r:Int)=(x:Int):=by simpa using e
      exact .inl (by omega)
  cases wo with
  | true =>
    refine ⟨fun x=>ownF worths way x - g (way.getD x 0),fun a b r ha hb hr hm=>?_⟩
    obtain ⟨hb',eb⟩:=hw b hb
    have h1:=g1 b hb' r hr
    rw [eb] at h1
    show ownF worths way a - g (way.getD a 0) + (wF worths b r - ownF worths way a)≤wF worths b (way.getD b 0) - g (way.getD b 0)
    have h2:=g2 (way.getD a 0)
    rcases hmem (show (r:Int)∈openL beds (wI way) ++ [((way.getD a 0:Nat):Int)] from hm) with e | e
    · subst e
      omega
    · have h3:=g3 r e
      omega
  | false =>
    refine ⟨fun x=>g (way.getD x 0),fun a b r ha hb hr hm=>?_⟩
    obtain ⟨ha',ea⟩:=hw a ha
    have h1:=g1 a ha' r hr
    rw [ea] at h1
    show g (way.getD a 0) + (wF worths a r - wF worths a (way.getD a 0))≤g (way.getD b 0)
    have h2:=g2 (way.getD b 0)
    rcases hmem (show (r:Int)∈openL beds (wI way) ++ [((way.getD b 0:Nat):Int)] from hm) with e | e
    · subst e
      omega
    · have h3:=g3 r e
      omega
end L2
namespace L2
open PySem PySem.Spec PyProof.Rows BW
def hopV (m:Hop):List V:=[.int (m.1:Int),.int (m.2.1:Int),.int (m.2.2:Int)]
def HopsAt (H:Hp) (a:Addr) (c:List Hop):Prop:=∃ ts:List Addr,H a=some (.lst (ts.map V.ref))∧ts.length=c.length∧∀ (j:Nat) t m,ts[j]? = some t→c[j]? = some m→H t=some (.tup (hopV m))
theorem HopsAt.keep {H H':Hp} {a:Addr} {c:List Hop} (h:HopsAt H a c) (h1:∀ o,H a=some o→H' a=some o) (h2:∀ t xs,H t=some (.tup xs)→H' t=some (.tup xs)):HopsAt H' a c:=by
  obtain ⟨ts,e1,e2,e3⟩:=h
  exact ⟨ts,h1 _ e1,e2,fun j t m a b=>h2 _ _ (e3 j t m a b)⟩
theorem HopsAt.same {H H':Hp} {a:Addr} {c:List Hop} (h:HopsAt H a c) (s:Same H H'):HopsAt H' a c:=h.keep (fun o e=>s _ _ e) fun t xs e=>s _ _ e
theorem HopsAt.sameB {H H':Hp} {a:Addr} {c:List Hop} (h:HopsAt H a c) (s:SameB H H'):HopsAt H' a c:=by
  obtain ⟨ts,e1,e2,e3⟩:=h
  exact ⟨ts,s.to _ _ e1 rfl,e2,fun j t m a b=>s.to _ _ (e3 j t m a b) rfl⟩
theorem HopsAt.snoc {H:Hp} {a t:Addr} {c:List Hop} {m:Hop} {ts:List Addr} (e1:H a=some (.lst (ts.map V.ref ++ [.ref t]))) (e2:ts.length=c.length) (e3:∀ (j:Nat) t m,ts[j]? = some t→c[j]? = some m→H t=some (.tup (hopV m))) (e4:H t=some (.tup (hopV m))):HopsAt H a (c ++ [m]):=by
  refine ⟨ts ++ [t],by rw [e1]; simp,by simp [e2],fun j t' m' h1 h2=>?_⟩
  by_cases hj:j < ts.length
  · rw [List.getElem?_append_left hj] at h1
    rw [List.getElem?_append_left (by omega)] at h2
    exact e3 j t' m' h1 h2
  · have hj2:j=ts.length:=by
      have:=(List.getElem?_eq_some_iff.mp h1).1
      simp at this
      omega
    subst hj2
    simp at h1
    rw [e2] at h2
    simp at h2
    subst h1 h2
    exact e4
structure TCat (H:Hp) (ga mv:Addr) (st:TC):Prop where
  ne:ga≠mv
  g:H ga=some (.lst (st.1.map V.int))
  ex:∃ ls:List Addr,H mv=some (.lst (ls.map V.ref))∧ls.length=st.2.length∧(∀ a∈ls,a≠ga∧a≠mv)∧∀ (i:Nat) a c,ls[i]? = some a→st.2[i]? = some c→HopsAt H a c
theorem TCat.same {H H':Hp} {ga mv:Addr} {st:TC} (h:TCat H ga mv st) (s:Same H H'):TCat H' ga mv st:=by
  obtain ⟨ls,e1,e2,e3,e4⟩:=h.ex
  exact ⟨h.ne,s _ _ h.g,ls,s _ _ e1,e2,e3,fun i a c h1 h2=>(e4 i a c h1 h2).same s⟩
theorem TCat.sameB {H H':Hp} {ga mv:Addr} {st:TC} (h:TCat H ga mv st) (s:SameB H H'):TCat H' ga mv st:=by
  obtain ⟨ls,e1,e2,e3,e4⟩:=h.ex
  exact ⟨h.ne,s.to _ _ h.g rfl,ls,s.to _ _ e1 rfl,e2,e3,fun i a c h1 h2=>(e4 i a c h1 h2).sameB s⟩
theorem TCat.gset {H:Hp} {ga mv:Addr} {st:TC} {gs':List Int} (h:TCat H ga mv st):TCat (upd H ga (.lst (gs'.map V.int))) ga mv (gs',st.2):=by
  obtain ⟨ls,e1,e2,e3,e4⟩:=h.ex
  refine ⟨h.ne,upd_same,ls,by rw [upd_ne h.ne.symm]; exact e1,e2,e3,fun i a c h1 h2=>(e4 i a c h1 h2).keep (fun o e=>?_) fun t xs e=>?_⟩
  · rw [upd_ne (e3 a (List.mem_of_getElem? h1)).1]; exact e
  · rw [upd_ne (ne_of e h.g (by intro z; cases z))]; exact e
theorem TCat.mset {H:Hp} {ga mv n:Addr} {st:TC} {ls:List Addr} {r:Nat} {c:List Hop} (h:TCat H ga mv st) (e1:H mv=some (.lst (ls.map V.ref))) (hr:r < ls.length) (hn1:n≠ga) (hn2:n≠mv) (hc:HopsAt H n c) :
    TCat (upd H mv (.lst ((ls.map V.ref).set r (.ref n)))) ga mv (st.1,st.2.set r c):=by
  obtain ⟨ls',f1,e2,e3,e4⟩:=h.ex
  rw [e1] at f1
  have:ls'=ls:=by
    have f2:=HO.lst.inj (Option.some.inj f1)
    have hinj:∀ a b:Addr,V.ref a=V.ref b→a=b:=fun a b z=>V.ref.inj z
    exact (List.map_inj_right (f:=V.ref) (fun a b z=>hinj a b z)).mp f2.symm
  subst this
  have kp:∀ a c,HopsAt H a c→a≠mv→HopsAt (upd H mv (.lst ((ls'.map V.ref).set r (.ref n)))) a c:=fun a c hc hne=>hc.keep (fun o e=>by rw [upd_ne hne]; exact e) fun t xs e=>by
    rw [upd_ne (ne_of e e1 (by intro z; cases z))]; exact e
  refine ⟨h.ne,by rw [upd_ne h.ne]; exact h.g,ls'.set r n,by rw [upd_same,List.map_set],by simp [e2],fun a ha=>?_,fun i a c' h1 h2=>?_⟩
  · rcases List.mem_or_eq_of_mem_set ha with z | z
    · exact e3 a z
    · rw [z]; exact ⟨hn1,hn2⟩
  · by_cases hi:r=i
    · subst hi
      rw [List.getElem?_set_self hr] at h1
      rw [List.getElem?_set_self (by omega)] at h2
      cases h1
      cases h2
      exact kp _ _ hc hn2
    · rw [List.getElem?_set_ne hi] at h1
      rw [List.getElem?_set_ne hi] at h2
      exact kp _ _ (e4 i a c' h1 h2) (e3 a (List.mem_of_getElem? h1)).2
structure GoodHops (wo:Bool) (beds:List Int) (worths:List (List Int)) (way:List Nat) (hops:List Hop):Prop where
  mem:∀ m∈hops,m.1 < worths.length∧m.2.2 < worths.length∧m.1≠m.2.2∧m.2.1 < beds.length∧(m.2.1:Int)∈thruL wo beds way m.1 m.2.2
  best:∀ m∈hops,∀ r:Nat,(r:Int)∈thruL wo beds way m.1 m.2.2→gainF wo worths way m.1 r m.2.2≤gainF wo worths way m.1 m.2.1 m.2.2
  all_:∀ a b,a < worths.length→b < worths.length→a≠b→∃ r,(a,r,b)∈hops
  len:hops.length≤100
structure HopsTo (wo:Bool) (beds:List Int) (worths:List (List Int)) (way:List Nat) (hops:List Hop) (i j:Nat):Prop where
  mem:∀ m∈hops,m.1 < worths.length∧m.2.2 < worths.length∧m.1≠m.2.2∧m.2.1 < beds.length∧(m.2.1:Int)∈thruL wo beds way m.1 m.2.2
  best:∀ m∈hops,∀ r:Nat,(r:Int)∈thruL wo beds way m.1 m.2.2→gainF wo worths way m.1 r m.2.2≤gainF wo worths way m.1 m.2.1 m.2.2
  all_:∀ a b,a < worths.length→b < worths.length→a≠b→(a < i∨(a=i∧b < j))→∃ r,(a,r,b)∈hops
  len:hops.length≤i * worths.length + j
theorem HopsTo.skip {wo:Bool} {beds:List Int} {worths:List (List Int)} {way:List Nat} {hops:List Hop} {i j:Nat} (h:HopsTo wo beds worths way hops i j) (e:i=j):HopsTo wo beds worths way hops i (j + 1) :=
  ⟨h.mem,h.best,fun a b ha hb hab z=>h.all_ a b ha hb hab (by omega),by have:=h.len; omega⟩
theorem HopsTo.more {wo:Bool} {beds:List Int} {worths:List (List Int)} {way:List Nat} {hops:List Hop} {i j r:Nat} (h:HopsTo wo beds worths way hops i j) (hij:i < worths.length∧j < worths.length) (e:i≠j) (h1:(r:Int)∈thruL wo beds way i j) (h2:r < beds.length) (h3:∀ r':Nat,(r':Int)∈thruL wo beds way i j→gainF wo worths way i r' j≤gainF wo worths way i r j):HopsTo wo beds worths way (hops ++ [(i,r,j)]) i (j + 1):=by
  refine ⟨fun m hm=>?_,fun m hm=>?_,fun a b ha hb hab z=>?_,by have:=h.len; simp; omega⟩
  · rcases List.mem_append.mp hm with z | z
    · exact h.mem m z
    · have:m=(i,r,j):=by simpa using z
      subst this
      exact ⟨hij.1,hij.2,e,h2,h1⟩
  · rcases List.mem_append.mp hm with z | z
    · exact h.best m z
    · have:m=(i,r,j):=by simpa using z
      subst this
      exact h3
  · by_cases hz:a=i∧b=j
    · obtain ⟨rfl,rfl⟩:=hz
      exact ⟨r,by simp⟩
    · obtain ⟨r',hr'⟩:=h.all_ a b ha hb hab (by omega)
      exact ⟨r',List.mem_append_left _ hr'⟩
theorem HopsTo.next {wo:Bool} {beds:List Int} {worths:List (List Int)} {way:List Nat} {hops:List Hop} {i:Nat} (h:HopsTo wo beds worths way hops i worths.length):HopsTo wo beds worths way hops (i + 1) 0 :=
  ⟨h.mem,h.best,fun a b ha hb hab z=>h.all_ a b ha hb hab (by omega),by have:=h.len; rw [Nat.add_mul,Nat.one_mul]; omega⟩
theorem HopsTo.good {wo:Bool} {beds:List Int} {worths:List (List Int)} {way:List Nat} {hops:List Hop} (h:HopsTo wo beds worths way hops worths.length 0) (hl:worths.length≤10):GoodHops wo beds worths way hops :=
  ⟨h.mem,h.best,fun a b ha hb hab=>h.all_ a b ha hb hab (.inl ha),Nat.le_trans h.len (by have:=Nat.mul_le_mul hl hl; omega)⟩
theorem LamAt.updL {H:Hp} {P l:Addr} {pos:Pos} {qual:Str} {xs ys:List V} (h:LamAt H P pos qual) (hl:H l=some (.lst xs)):LamAt (upd H l (.lst ys)) P pos qual:=by
  have k:∀ c o,H c=some o→(∀ zs,o≠.lst zs)→upd H l (.lst ys) c=some o:=fun c o e hne=>by
    rw [upd_ne (ne_of e hl (hne _))]
    exact e
  rcases h with h | ⟨c',oc,vs,t,h1,h2,h3⟩
  · exact .inl (k _ _ h (by intro zs z; cases z))
  · exact .inr ⟨c',oc,vs,t,k _ _ h1 (by intro zs z; cases z),k _ _ h2 (by intro zs z; cases z),h3⟩
def gnF (wo:Bool) (worths:List (List Int)) (way:List Nat) (m:Hop):Int:=gainF wo worths way m.1 m.2.1 m.2.2
def sp_bestroom (CH CW CE PT:Addr) (lpos:Pos) (qual:Str) (K:PySem.W.Frag):Sp:=fun vs H Q _ => ∃ (wo:Bool) (p rl:Addr) (beds:List Int) (worths:List (List Int)) (rent:Int) (way:List Nat) (a b:Nat) (ms:List Int),vs=[.ref p,.ref rl,.int (a:Int),.int (b:Int)]∧AimAt CH (CC CW CE wo) H p beds worths rent way∧AimOk beds worths way∧a < worths.length∧b < worths.length ∧
  H rl=some (.lst (ms.map V.int))∧IsRise ms (thruL wo beds way a b)∧LamAt H PT lpos qual ∧
  ∀ (r:Nat) (H':Hp),SameB H H'→SameO PT H H'→LamAt H' PT lpos qual→(r:Int)∈thruL wo beds way a b→r < beds.length→(∀ r':Nat,(r':Int)∈thruL wo beds way a b→gainF wo worths way a r' b≤gainF wo worths way a r b)→Q (.int (r:Int)) H'
def sp_besthops (CH CW CE PT:Addr) (lpos:Pos) (qual:Str):Sp:=fun vs H Q _ => ∃ (wo:Bool) (p:Addr) (beds:List Int) (worths:List (List Int)) (rent:Int) (way:List Nat),vs=[.ref p]∧AimAt CH (CC CW CE wo) H p beds worths rent way∧AimOk beds worths way∧LamAt H PT lpos qual ∧
  ∀ (hl:Addr) (hops:List Hop) (H':Hp),SameB H H'→SameO PT H H'→LamAt H' PT lpos qual→H hl=none→HopsAt H' hl hops→GoodHops wo beds worths way hops→Q (.ref hl) H'
theorem relC_chains {gn:Hop→Int} {st:TC} {m:Hop} {N:Nat} (h:∀ c∈st.2,c.length≤N):∀ c∈(relC gn st m).2,c.length≤N + 1:=by
  unfold relC
  split
  · intro c hc
    rcases List.mem_or_eq_of_mem_set hc with z | z
    · have:=h c z; omega
    · rw [z,List.length_append,List.length_singleton]
      have:(st.2.getD m.1 []).length≤N:=by
        by_cases hl:m.1 < st.2.length
        · have e:st.2.getD m.1 []=st.2[m.1]:=by simp [List.getD,hl]
          rw [e]; exact h _ (List.getElem_mem hl)
        · rw [List.getD_eq_getElem?_getD,List.getElem?_eq_none (by omega)]
          simp
      omega
  · intro c hc
    have:=h c hc
    omega
structure GreatAt (wo:Bool) (H:Hp) (t tl cl:Addr) (beds:List Int) (worths:List (List Int)) (way:List Nat) (hops:List Hop) (st:TC):Prop where
  tup:H t=some (.tup [.ref tl,.ref cl])
  tc:TCat H tl cl st
  good:GoodHops wo beds worths way hops
  ok:OkC hops (gnF wo worths way) worths.length st
  nn:∀ b,b < worths.length→0≤st.1.getD b 0
  cl_:∀ a b r:Nat,a < worths.length→b < worths.length→a≠b→(r:Int)∈thruL wo beds way a b→st.1.getD a 0 + gainF wo worths way a r b≤st.1.getD b 0
theorem great_mk {wo:Bool} {H:Hp} {t tl cl:Addr} {beds:List Int} {worths:List (List Int)} {way:List Nat} {hops:List Hop} (aok:AimOk beds worths way) (hfit:Fit (bF beds) way) (hopt:Opt beds worths way) (good:GoodHops wo beds worths way hops) (h1:H t=some (.tup [.ref tl,.ref cl]))
    (h2:TCat H tl cl (rndsC (gnF wo worths way) hops (zeroC worths.length) worths.length)):GreatAt wo H t tl cl beds worths way hops (rndsC (gnF wo worths way) hops (zeroC worths.length) worths.length):=by
  obtain ⟨h,hp⟩:=pot_ex wo aok hfit hopt
  have hlt:∀ m∈hops,m.1 < worths.length∧m.2.2 < worths.length:=fun m hm=>⟨(good.mem m hm).1,(good.mem m hm).2.1⟩
  have hpot:∀ m∈hops,h m.1 + gnF wo worths way m≤h m.2.2:=fun m hm=>by
    obtain ⟨g1,g2,g3,g4,g5⟩:=good.mem m hm
    exact hp m.1 m.2.2 m.2.1 g1 g2 g4 g5
  refine ⟨h1,h2,good,rnds_ok hlt _,fun b hb=>rnds_nonneg hlt hb,fun a b r ha hb hab hr=>?_⟩
  obtain ⟨r0,hm⟩:=good.all_ a b ha hb hab
  have k1:=rnds_closed hpot hlt hm
  have k2:=good.best _ hm r hr
  have k3:gnF wo worths way (a,r0,b)=gainF wo worths way a r0 b:=rfl
  rw [k3] at k1
  simp only at k1 k2
  omega
def sp_lawT2 (K:PySem.W.Frag) (P1:Addr) (l1:Pos) (q1:Str) (P2:Addr) (l2:Pos) (q2:Str):Sp:=fun vs H Q _ => ∃ (a:Addr) (ns:List Int),vs=[.ref a]∧SqL K H a (ns.map V.int)∧ns.length≤63∧LamAt H P1 l1 q1∧LamAt H P2 l2 q2∧∀ H',Q (.bl true) H'
theorem one_mem {base:Heap} {mg:Str→Option Value} {P:Addr} (h:base.BuiltinsAt mg P):∀ Q∈[P],base.BuiltinsAt mg Q:=fun Q hQ=>by
  rw [List.mem_singleton.mp hQ]
  exact h
end L2
namespace BW
theorem ChS.inv {hs:List Hop} {s b:Nat} {c:List Hop} {m:Hop} (h:ChS hs s (c ++ [m]) b):ChS hs s c m.1∧m∈hs∧m.2.2=b:=by
  generalize e:c ++ [m]=d at h
  cases h with
  | nil=>simp at e
  | @snoc c' a r b h hm =>
    have h1:=List.append_inj' e rfl
    obtain ⟨rfl,h2⟩:=h1
    have h3:m=(a,r,b):=by simpa using h2
    subst h3
    exact ⟨h,hm,rfl⟩
end BW
namespace L2
open PySem PySem.Spec PyProof.Rows BW
def sp_ishop (CH CW CE:Addr):Sp:=fun vs H Q _ => ∃ (wo:Bool) (p t:Addr) (beds:List Int) (worths:List (List Int)) (rent:Int) (way:List Nat) (m:Hop),vs=[.ref p,.ref t]∧AimAt CH (CC CW CE wo) H p beds worths rent way∧AimOk beds worths way∧H t=some (.tup (hopV m))∧m.1 < worths.length∧m.2.2 < worths.length∧m.1≠m.2.2∧(m.2.1:Int)∈thruL wo beds way m.1 m.2.2∧∀ H',Same H H'→Q (.bl true) H'
def sp_cgain (CH CW CE:Addr):Sp:=fun vs H Q _ => ∃ (wo:Bool) (p cl:Addr) (beds:List Int) (worths:List (List Int)) (rent:Int) (way:List Nat) (hops c:List Hop) (s i:Nat),vs=[.ref p,.ref cl,.int (i:Int)]∧AimAt CH (CC CW CE wo) H p beds worths rent way∧AimOk beds worths way∧GoodHops wo beds worths way hops∧ChS hops s c i∧HopsAt H cl c∧∀ H',Same H H'→Q (.int (wt (gnF wo worths way) c)) H'
end L2
namespace L2
open PySem PySem.Spec PyProof.Rows
theorem vals_of {P:Nat→V→Prop} {α:Type} (f:α→V) (R:Nat→α→Prop):∀ (ys:List V) (k:Nat),(∀ (i:Nat) y,ys[i]? = some y→∃ z,y=f z∧R (k + i) z)→∃ zs:List α,ys=zs.map f∧∀ (i:Nat) z,zs[i]? = some z→R (k + i) z
  | [],_,_=>⟨[],rfl,fun i z h=>by simp at h⟩
  | y :: r,k,h=>by
    obtain ⟨z,e,hz⟩:=h 0 y rfl
    obtain ⟨zs,e2,hzs⟩:=vals_of (P:=P) f R r (k + 1) fun i y hy=>by
      obtain ⟨z,e,hz⟩:=h (i + 1) y (by simpa using hy)
      exact ⟨z,e,by rw [show k + 1 + i=k + (i + 1) by omega]; exact hz⟩
    refine ⟨z :: zs,by rw [e,e2]; rfl,fun i z' hi=>?_⟩
    cases i with
    | zero =>
      have:z=z':=by simpa using hi
      rw [← this]
      exact hz
    | succ i =>
      have:=hzs i z' (by simpa using hi)
      rw [show k + (i + 1)=k + 1 + i by omega]
      exact this
end L2
namespace L2
open PySem PySem.Spec PyProof.Rows
section
variable {X:Cx} {pins:List (Addr × Obj)} {σ:St} {H:Hp} {s:Shared}
theorem numsAre:∀ {ns:List Int} {us:List Value},Vals (ns.map V.int) us→IntsAre us ns
  | [],_,h=>by cases h; exact .nil
  | n :: r,_,h=>by
    cases h with
    | cons a b =>
      obtain ⟨t,rfl⟩:=a
      exact .cons n t (numsAre b)
variable {ns kz:List Int} {vs:List Value} {D kS l q:Addr} {keys:Array Value} {e e1:Nat} {A:Around} {E:Value→Shared→Prop} {P:PySem.Fin→Shared→Prop}
end
end L2
namespace L2
open PySem PySem.Spec PyProof.Rows BW
section
variable {X:Cx} {pins:List (Addr × Obj)} {σ:St} {H:Hp} {s:Shared} {c P:Addr} {scope:Scope} {params:Arguments} {body:Expr} {lpos:Pos}
end
end L2
namespace BW
open L2
end BW
namespace BW
open L2
end BW
namespace L2
open PySem PySem.Spec PyProof.Rows BW
section
variable {X:Cx} {K:PySem.W.Frag}
def rIndexL (K:PySem.W.Frag):V→List V→Hp→VK→Prop:=fun x xs H Q => ∃ (a:Addr) (ns:List Int) (k:Int),x=.ref a∧xs=[.int k]∧H a=some (.lst (ns.map V.int))∧k∈ns∧Q (.int ((ns.idxOf k:Nat):Int)) H
theorem mt_indexL:MtR X "list.index" (rIndexL K):=by
  intro pins s σ H x xs v us Q I rx r h
  obtain ⟨a,ns,k,rfl,rfl,ha,hm,q⟩:=h
  cases rx
  obtain ⟨u,rfl,t,rfl⟩:=vals1 r
  obtain ⟨z,its,n,rv,hl,e⟩:=I.lstM ha
  have hlen:its.length=ns.length:=by have:=rv.length; simpa using this.symm
  have hi:=List.idxOf_lt_length_iff.mpr hm
  have hia:=numsAre rv
  have item:∀ (j:Nat) (hj:j < ns.length),∃ t,its.toArray[j]'(by simp; omega)=Value.int ns[j] t:=fun j hj=>by
    obtain ⟨u,hu,t,hut⟩:=rv.get (i:=j) (x:=.int ns[j]) (by simp [hj])
    refine ⟨t,?_⟩
    rw [← hut]
    have:=(List.getElem?_eq_some_iff.mp hu).2
    simpa using this
  refine call_meets PySem.F.slot_list_index ⟨_,e,rfl⟩ PySem.F.entry_list_index (PySem.F.args_list_index_2 _ _)
    (MeetsSeq.list_index a its.toArray n (.int k t) (Value.isInt k) (fun y hy=>?_) (ns.idxOf k) (by simp; omega) (by rw [sizeLine_eq] at z; rw [List.length_map] at z; omega) ?_ fun m hm2 hlt=>?_) ⟨e,?_⟩
  · obtain ⟨b,t',rfl⟩:=hia.all y (by simpa using hy)
    exact MeetsSeq.EqGives.int b k t' t
  · obtain ⟨t',h⟩:=item _ hi
    rw [h,List.getElem_idxOf hi]
    simp [Value.isInt]
  · obtain ⟨t',h⟩:=item m (by simp at hm2; omega)
    rw [h]
    have:=List.not_of_lt_findIdx (p:=(· == k)) (xs:=ns) (i:=m) hlt
    simpa [Value.isInt] using this
  · exact ⟨.int _,H,I.tok _,⟨_,rfl⟩,q⟩
end
end L2
namespace L2
open PySem PySem.Spec PyProof.Rows BW
end L2
namespace L2
open PySem PySem.Spec PyProof.Rows BW
end L2
namespace L2
open PySem PySem.Spec PyProof.Rows BW
end L2
namespace L2
open PySem PySem.Spec PyProof.Rows BW
def TCF (F:Addr→Prop) (H:Hp) (mv:Addr):Prop:=∃ ls:List Addr,H mv=some (.lst (ls.map V.ref))∧∀ a∈ls,F a
theorem refs_inj {ls ls':List Addr} (h:ls.map V.ref=ls'.map V.ref):ls=ls':=(List.map_inj_right (f:=V.ref) (fun a b z=>V.ref.inj z)).mp h
theorem TCF.at_ {F:Addr→Prop} {H:Hp} {mv:Addr} {ls:List Addr} (h:TCF F H mv) (e:H mv=some (.lst (ls.map V.ref))):∀ a∈ls,F a:=by
  obtain ⟨ls',e',p⟩:=h
  rw [e] at e'
  have:=refs_inj (HO.lst.inj (Option.some.inj e'))
  rw [this]
  exact p
theorem TCF.keep {F:Addr→Prop} {H H':Hp} {mv:Addr} (h:TCF F H mv) (k:∀ o,H mv=some o→H' mv=some o):TCF F H' mv:=by
  obtain ⟨ls',e',p⟩:=h
  exact ⟨ls',k _ e',p⟩
theorem TCF.imp {F G:Addr→Prop} {H:Hp} {mv:Addr} (h:TCF F H mv) (k:∀ a,F a→G a):TCF G H mv:=by
  obtain ⟨ls',e',p⟩:=h
  exact ⟨ls',e',fun a ha=>k a (p a ha)⟩
def sp_hoponF:Sp:=fun vs H Q _ => ∃ (hl gl tl cl:Addr) (hops:List Hop) (gn:Hop→Int) (n N:Nat) (st:TC) (F:Addr→Prop),vs=[.ref hl,.ref gl,.ref tl,.ref cl]∧HopsAt H hl hops∧H gl=some (.lst ((hops.map gn).map V.int))∧TCat H tl cl st∧TCF F H cl∧(∀ a,H a=none→F a)∧hl≠tl∧hl≠cl∧gl≠tl∧gl≠cl∧(∀ m∈hops,m.1 < n∧m.2.2 < n)∧st.1.length=n∧st.2.length=n∧hops.length≤100∧(∀ c∈st.2,c.length≤N)∧N + hops.length≤5000 ∧
  ∀ H',(∀ b o,H b=some o→b≠tl→b≠cl→H' b=some o)→(∀ b,H' b=none→H b=none)→TCat H' tl cl (rndC gn hops st)→TCF F H' cl→(∀ c∈(rndC gn hops st).2,c.length≤N + hops.length)→Q .non H'
def sp_carryF (CH CW CE PT:Addr) (lpos:Pos) (qual:Str):Sp:=fun vs H Q _ => ∃ (wo:Bool) (p sl:Addr) (beds:List Int) (worths:List (List Int)) (rent:Int) (way:List Nat),vs=[.ref p,.ref sl]∧AimAt CH (CC CW CE wo) H p beds worths rent way∧AimOk beds worths way∧Fit (bF beds) way∧Opt beds worths way∧LamAt H PT lpos qual∧H sl=some (.lst ((List.replicate worths.length (0:Int)).map V.int)) ∧
  ∀ (t tl cl:Addr) (hops:List Hop) (st:TC) (H':Hp),SameB H H'→SameO PT H H'→LamAt H' PT lpos qual→H tl=none→H cl=none→H t=none→TCF (fun a=>H a=none) H' cl→(∀ c∈st.2,c.length≤5000)→GreatAt wo H' t tl cl beds worths way hops st→Q (.ref t) H'
def sp_greatF (CH CW CE PT:Addr) (lpos:Pos) (qual:Str):Sp:=fun vs H Q _ => ∃ (wo:Bool) (p:Addr) (beds:List Int) (worths:List (List Int)) (rent:Int) (way:List Nat),vs=[.ref p]∧AimAt CH (CC CW CE wo) H p beds worths rent way∧AimOk beds worths way∧Fit (bF beds) way∧Opt beds worths way∧LamAt H PT lpos qual ∧
  ∀ (t tl cl:Addr) (hops:List Hop) (st:TC) (H':Hp),SameB H H'→SameO PT H H'→LamAt H' PT lpos qual→H tl=none→H cl=none→H t=none→TCF (fun a=>H a=none) H' cl→(∀ c∈st.2,c.length≤5000)→GreatAt wo H' t tl cl beds worths way hops st→Q (.ref t) H'
end L2
namespace L2
open PySem PySem.Spec PyProof.Rows BW
def wholeF (wo:Bool) (worths:List (List Int)) (way:List Nat) (rent:Int):Int:=if wo then wsum (wF worths) way - rent else rent
structure ChsAt (H:Hp) (cl:Addr) (hops:List Hop) (n:Nat) (cs:List (List Hop)):Prop where
  ex:∃ ls:List Addr,H cl=some (.lst (ls.map V.ref))∧ls.length=n∧∀ (i:Nat) a c,ls[i]? = some a→cs[i]? = some c→HopsAt H a c
  len:cs.length=n
  ch:∀ i,i < n→∃ s,ChS hops s (cs.getD i []) i
theorem ChsAt.same {H H':Hp} {cl:Addr} {hops:List Hop} {n:Nat} {cs:List (List Hop)} (h:ChsAt H cl hops n cs) (s:Same H H'):ChsAt H' cl hops n cs:=by
  obtain ⟨ls,e1,e2,e3⟩:=h.ex
  exact ⟨⟨ls,s _ _ e1,e2,fun i a c h1 h2=>(e3 i a c h1 h2).same s⟩,h.len,h.ch⟩
theorem GreatAt.chs {wo:Bool} {H:Hp} {t tl cl:Addr} {beds:List Int} {worths:List (List Int)} {way:List Nat} {hops:List Hop} {st:TC} (g:GreatAt wo H t tl cl beds worths way hops st):ChsAt H cl hops worths.length st.2:=by
  obtain ⟨ls,c1,c2,c3,c4⟩:=g.tc.ex
  refine ⟨⟨ls,c1,by rw [c2,g.ok.l2],c4⟩,g.ok.l2,fun i hi=>?_⟩
  obtain ⟨s,_,h,_⟩:=g.ok.at_ i hi
  exact ⟨s,h⟩
def sp_bound (CH CW CE:Addr):Sp:=fun vs H Q _ => ∃ (wo:Bool) (p cl:Addr) (beds:List Int) (worths:List (List Int)) (rent:Int) (way:List Nat) (hops:List Hop) (cs:List (List Hop)),vs=[.ref p,.ref cl]∧AimAt CH (CC CW CE wo) H p beds worths rent way∧AimOk beds worths way∧GoodHops wo beds worths way hops∧ChsAt H cl hops worths.length cs ∧
  ∀ (t:Addr) (H':Hp),Same H H'→H t=none→H' t=some (.tup [.int (wholeF wo worths way rent - (cs.map (wt (gnF wo worths way))).sum),.int (worths.length:Int)])→Q (.ref t) H'
theorem mem_wI {way:List Nat} {r:Nat}:(r:Int)∈wI way ↔ r∈way:=by
  constructor
  · intro h
    obtain ⟨k,hk,e⟩:=List.mem_map.mp h
    have:k=r:=by
      have e':(k:Int)=(r:Int):=e
      omega
    exact this ▸ hk
  · exact fun h=>List.mem_map.mpr ⟨r,h,rfl⟩
theorem idxOf_wI (r:Nat):∀ way:List Nat,(wI way).idxOf (r:Int)=way.idxOf r
  | []=>rfl
  | a :: l=>by
    have ih:=idxOf_wI r l
    unfold wI at ih ⊢
    rw [List.map_cons,List.idxOf_cons,List.idxOf_cons,ih]
    by_cases h:a=r
    · subst h
      simp
    · have h1:((a:Int) == (r:Int))=false:=by
        have:¬ (a:Int)=(r:Int):=by omega
        exact beq_eq_false_iff_ne.mpr this
      have h2:(a == r)=false:=by simpa using h
      rw [show ((fun x:Nat=>(x:Int)) a == (r:Int))=false from h1,h2]
def costF (wo:Bool) (worths:List (List Int)) (way:List Nat) (lv:List Int) (parts:Int) (i:Nat):Int:=if wo then parts * ownF worths way i - lv.getD i 0 else lv.getD i 0
def costL (wo:Bool) (worths:List (List Int)) (way:List Nat) (lv:List Int) (parts:Int):List Int:=(List.range worths.length).map (costF wo worths way lv parts)
def IsLeast (z:Int) (ns:List Int):Prop:=z∈ns∧∀ y∈ns,z≤y
def IsRoom (way:List Nat) (cs:List Int) (r:Nat) (z:Int):Prop:=if r∈way then z=cs.getD (way.idxOf r) 0 else IsLeast z cs
def sp_roomprice (K:PySem.W.Frag) (CH CW CE:Addr):Sp:=fun vs H Q _ => ∃ (wo:Bool) (p cl:Addr) (beds:List Int) (worths:List (List Int)) (rent:Int) (way:List Nat) (cs:List Int) (r:Nat),vs=[.ref p,.ref cl,.int (r:Int)]∧AimAt CH (CC CW CE wo) H p beds worths rent way∧AimOk beds worths way∧H cl=some (.lst (cs.map V.int))∧cs.length=worths.length∧0 < worths.length ∧
  ∀ (z:Int),IsRoom way cs r z→Q (.int z) H
def IsRows (beds:List Int) (way:List Nat) (cs rows:List Int):Prop:=rows.length=beds.length∧∀ (r:Nat) z,rows[r]? = some z→IsRoom way cs r z
def sp_lowestF (K:PySem.W.Frag):Sp:=fun vs H Q _ => ∃ (parts:Int) (r:Addr) (rows:List Int),vs=[.int parts,.ref r]∧SqL K H r (rows.map V.int)∧rows.length≤1000∧0 < parts∧parts < 10 ^ 100 ∧
  ∀ (t l:Addr) (H':Hp),H l=none→Same H H'→H' t=some (.tup [.int (parts / ((gcdL parts.natAbs rows:Nat):Int)),.ref l])→H' l=some (.lst ((rows.map fun x=>x / ((gcdL parts.natAbs rows:Nat):Int)).map V.int))→Q (.ref t) H'
def sp_pricesat (K:PySem.W.Frag) (CH CW CE:Addr):Sp:=fun vs H Q _ => ∃ (wo:Bool) (p ll:Addr) (beds:List Int) (worths:List (List Int)) (rent:Int) (way:List Nat) (lv:List Int) (parts:Int),vs=[.ref p,.ref ll,.int parts]∧AimAt CH (CC CW CE wo) H p beds worths rent way∧AimOk beds worths way∧H ll=some (.lst (lv.map V.int))∧lv.length=worths.length∧0 < worths.length∧0 < parts∧parts < 1000∧(∀ row∈worths,∀ x∈row,-(10 ^ 42) < x∧x < 10 ^ 42) ∧
  ∀ (rows:List Int) (t l:Addr) (H':Hp),IsRows beds way (costL wo worths way lv parts) rows→H l=none→Same H H'→H' t=some (.tup [.int (parts / ((gcdL parts.natAbs rows:Nat):Int)),.ref l])→H' l=some (.lst ((rows.map fun x=>x / ((gcdL parts.natAbs rows:Nat):Int)).map V.int))→Q (.ref t) H'
def lvL (wo:Bool) (worths:List (List Int)) (way:List Nat) (rent:Int) (gs:List Int):List Int:=gs.map fun g=>(wholeF wo worths way rent - gs.sum) + (worths.length:Int) * g
structure DivAt (wo:Bool) (H:Hp) (t tp rl cl:Addr) (beds:List Int) (worths:List (List Int)) (rent:Int) (way:List Nat) (hops:List Hop) (st:TC) (rows:List Int):Prop where
  tup:H t=some (.tup [.ref tp,.ref cl])
  pr:H tp=some (.tup [.int ((worths.length:Int) / ((gcdL worths.length rows:Nat):Int)),.ref rl])
  rl_:H rl=some (.lst ((rows.map fun x=>x / ((gcdL worths.length rows:Nat):Int)).map V.int))
  isr:IsRows beds way (costL wo worths way (lvL wo worths way rent st.1) (worths.length:Int)) rows
  chs:ChsAt H cl hops worths.length st.2
  good:GoodHops wo beds worths way hops
  ok:OkC hops (gnF wo worths way) worths.length st
  nn:∀ b,b < worths.length→0≤st.1.getD b 0
  cl_:∀ a b r:Nat,a < worths.length→b < worths.length→a≠b→(r:Int)∈thruL wo beds way a b→st.1.getD a 0 + gainF wo worths way a r b≤st.1.getD b 0
  cb:∀ c∈st.2,c.length≤5000
def sp_divide (CH CW CE PT:Addr) (lpos:Pos) (qual:Str):Sp:=fun vs H Q _ => ∃ (wo:Bool) (p:Addr) (beds:List Int) (worths:List (List Int)) (rent:Int) (way:List Nat),vs=[.ref p]∧AimAt CH (CC CW CE wo) H p beds worths rent way∧AimOk beds worths way∧Fit (bF beds) way∧Opt beds worths way∧LamAt H PT lpos qual∧0 < worths.length∧(∀ row∈worths,∀ x∈row,-(10 ^ 42) < x∧x < 10 ^ 42) ∧
  ∀ (t tp rl cl:Addr) (hops:List Hop) (st:TC) (rows:List Int) (H':Hp),SameB H H'→SameO PT H H'→LamAt H' PT lpos qual→H cl=none→H rl=none→rl≠cl→TCF (fun a=>H a=none∧a≠rl) H' cl→DivAt wo H' t tp rl cl beds worths rent way hops st rows→Q (.ref t) H'
theorem okC_sum {hs:List Hop} {gn:Hop→Int} {n:Nat} {st:TC} (h:OkC hs gn n st):(st.2.map (wt gn))=st.1:=by
  refine List.ext_getElem (by simp [h.l1,h.l2]) fun i a b=>?_
  have hi:i < n:=by rw [← h.l1]; exact b
  have h2:i < st.2.length:=by rw [h.l2]; exact hi
  obtain ⟨s,_,_,e⟩:=h.at_ i hi
  have e1:st.2.getD i []=st.2[i]:=by simp [List.getD,h2]
  have e2:st.1.getD i 0=st.1[i]:=by simp [List.getD,b]
  rw [e1,e2] at e
  simpa using e
theorem wF_bd {worths:List (List Int)} (hx:∀ row∈worths,∀ x∈row,-(10 ^ 42) < x∧x < 10 ^ 42) (i r:Nat):-(10 ^ 42) < wF worths i r∧wF worths i r < 10 ^ 42:=by
  have z:-(10 ^ 42) < (0:Int)∧(0:Int) < 10 ^ 42:=by decide
  unfold wF
  by_cases h:i < worths.length
  · have e1:worths.getD i []=worths[i]:=by simp [List.getD,h]
    rw [e1]
    by_cases h2:r < (worths[i]).length
    · have e2:(worths[i]).getD r 0=(worths[i])[r]:=by simp [List.getD,h2]
      rw [e2]
      exact hx _ (List.getElem_mem h) _ (List.getElem_mem h2)
    · have e2:(worths[i]).getD r 0=0:=by simp [List.getD,h2]
      rw [e2]
      exact z
  · have e1:worths.getD i []=[]:=by simp [List.getD,h]
    rw [e1]
    exact z
theorem gnF_bd {worths:List (List Int)} (hx:∀ row∈worths,∀ x∈row,-(10 ^ 42) < x∧x < 10 ^ 42) (wo:Bool) (way:List Nat) (m:Hop):-(2 * 10 ^ 42)≤gnF wo worths way m∧gnF wo worths way m≤2 * 10 ^ 42:=by
  unfold gnF gainF ownF
  have a:=wF_bd hx (if wo then m.2.2 else m.1) m.2.1
  have b:=wF_bd hx m.1 (way.getD m.1 0)
  omega
theorem wt_bd {gn:Hop→Int} {B:Int} (h:∀ m,-B≤gn m∧gn m≤B):∀ c:List Hop,-(c.length * B)≤wt gn c∧wt gn c≤c.length * B
  | []=>by simp [wt]
  | m :: c=>by
    have ih:=wt_bd h c
    have hm:=h m
    have e:wt gn (m :: c)=gn m + wt gn c:=by simp [wt]
    rw [e,List.length_cons,show ((c.length + 1:Nat):Int) * B=c.length * B + B by rw [Int.natCast_add,Int.add_mul]; simp]
    omega
theorem great_bd {wo:Bool} {worths:List (List Int)} {way:List Nat} {hops:List Hop} {st:TC} (hx:∀ row∈worths,∀ x∈row,-(10 ^ 42) < x∧x < 10 ^ 42) (ok:OkC hops (gnF wo worths way) worths.length st) (cb:∀ c∈st.2,c.length≤5000):∀ z∈st.1,-(10 ^ 46)≤z∧z≤10 ^ 46:=fun z hz=>by
  rw [← okC_sum ok] at hz
  obtain ⟨c,hc,rfl⟩:=List.mem_map.mp hz
  have h:=wt_bd (gnF_bd hx wo way) c
  have hl:=cb c hc
  have:(c.length:Int) * (2 * 10 ^ 42)≤5000 * (2 * 10 ^ 42):=Int.mul_le_mul_of_nonneg_right (by omega) (by decide)
  have e:(5000:Int) * (2 * 10 ^ 42)=10 ^ 46:=by decide
  omega
end L2
namespace L2
open PySem PySem.Spec PyProof.Rows BW
theorem getD_get {α:Type} {d:α} (l:List α) (i:Nat) (h:i < l.length):l.getD i d=l[i]:=by simp [List.getD,h]
def Closed (wo:Bool) (beds:List Int) (worths:List (List Int)) (way:List Nat) (gs:List Int):Prop:=∀ a b r:Nat,a < worths.length→b < worths.length→a≠b→(r:Int)∈thruL wo beds way a b→gs.getD a 0 + gainF wo worths way a r b≤gs.getD b 0
theorem thru_own (wo:Bool) (beds:List Int) (way:List Nat) (a b:Nat):((way.getD (if wo then a else b) 0:Nat):Int)∈thruL wo beds way a b:=by
  unfold thruL
  exact List.mem_append_right _ (by simp)
theorem lv_at {wo:Bool} {worths:List (List Int)} {way:List Nat} {rent:Int} {gs:List Int} {i:Nat} (h:i < gs.length):(lvL wo worths way rent gs).getD i 0=(wholeF wo worths way rent - gs.sum) + (worths.length:Int) * gs.getD i 0:=by
  unfold lvL
  simp [List.getD,h]
theorem cost_same {wo:Bool} {beds:List Int} {worths:List (List Int)} {way:List Nat} {rent:Int} {gs:List Int} (lg:gs.length=worths.length) (hc:Closed wo beds worths way gs) {a b:Nat} (ha:a < worths.length) (hb:b < worths.length) (h:way.getD a 0=way.getD b 0) :
    costF wo worths way (lvL wo worths way rent gs) (worths.length:Int) a=costF wo worths way (lvL wo worths way rent gs) (worths.length:Int) b:=by
  by_cases e:a=b
  · rw [e]
  have h1:=hc a b _ ha hb e (thru_own wo beds way a b)
  have h2:=hc b a _ hb ha (Ne.symm e) (thru_own wo beds way b a)
  unfold costF
  rw [lv_at (by omega),lv_at (by omega)]
  cases wo with
  | true =>
    simp only [if_pos,gainF] at h1 h2 ⊢
    have e1:wF worths b (way.getD a 0)=ownF worths way b:=by rw [h]; rfl
    have e2:wF worths a (way.getD b 0)=ownF worths way a:=by rw [← h]; rfl
    rw [e1] at h1
    rw [e2] at h2
    have e3:ownF worths way a - gs.getD a 0=ownF worths way b - gs.getD b 0:=by omega
    have e4:(worths.length:Int) * ownF worths way a - (worths.length:Int) * gs.getD a 0=(worths.length:Int) * ownF worths way b - (worths.length:Int) * gs.getD b 0:=by rw [← Int.mul_sub,← Int.mul_sub,e3]
    omega
  | false =>
    simp only [Bool.false_eq_true,if_false,gainF] at h1 h2 ⊢
    have e1:wF worths a (way.getD b 0)=ownF worths way a:=by rw [← h]; rfl
    have e2:wF worths b (way.getD a 0)=ownF worths way b:=by rw [h]; rfl
    rw [e1] at h1
    rw [e2] at h2
    have e3:gs.getD a 0=gs.getD b 0:=by omega
    rw [e3]
theorem sum_lin2 (n:Int) (f g:Nat→Int):∀ l:List Nat,(l.map fun i=>n * f i - g i).sum=n * (l.map f).sum - (l.map g).sum
  | []=>by simp
  | a :: l=>by
    simp only [List.map_cons,List.sum_cons,sum_lin2 n f g l,Int.mul_add]
    omega
theorem sum_lv (L n:Int) (gs:List Int):(gs.map fun g=>L + n * g).sum=gs.length * L + n * gs.sum:=by
  induction gs with
  | nil=>simp
  | cons a l ih =>
    simp only [List.map_cons,List.sum_cons,ih,Int.mul_add,List.length_cons,Int.natCast_add,Int.add_mul]
    simp
    omega
theorem range_getD:∀ (gs:List Int),((List.range gs.length).map fun i=>gs.getD i 0)=gs:=fun gs=>by
  refine List.ext_getElem (by simp) fun i a b=>?_
  simp [List.getD,b]
theorem sum_cost {wo:Bool} {worths:List (List Int)} {way:List Nat} {rent:Int} {gs:List Int} (lg:gs.length=worths.length) (lw:way.length=worths.length) :
    (costL wo worths way (lvL wo worths way rent gs) (worths.length:Int)).sum=worths.length * rent:=by
  have hl:(lvL wo worths way rent gs).length=worths.length:=by simp [lvL,lg]
  have h2:((List.range worths.length).map fun i=>(lvL wo worths way rent gs).getD i 0)=lvL wo worths way rent gs:=by rw [← hl]; exact range_getD _
  have h3:(lvL wo worths way rent gs).sum=worths.length * wholeF wo worths way rent:=by
    unfold lvL
    rw [sum_lv,lg,← Int.mul_add]
    congr 1
    omega
  unfold costL
  cases wo with
  | true =>
    have e:((List.range worths.length).map (costF true worths way (lvL true worths way rent gs) (worths.length:Int)))=(List.range worths.length).map fun i=>(worths.length:Int) * ownF worths way i - (lvL true worths way rent gs).getD i 0:=List.map_congr_left fun i _=>by simp [costF]
    rw [e,sum_lin2,h2,h3]
    have ew:((List.range worths.length).map (ownF worths way)).sum=wsum (wF worths) way:=by
      unfold wsum
      rw [lw]
      rfl
    rw [ew]
    unfold wholeF
    rw [if_pos rfl,← Int.mul_sub]
    congr 1
    omega
  | false =>
    have e:((List.range worths.length).map (costF false worths way (lvL false worths way rent gs) (worths.length:Int)))=(List.range worths.length).map fun i=>(lvL false worths way rent gs).getD i 0:=List.map_congr_left fun i _=>by simp [costF]
    rw [e,h2,h3]
    rfl
theorem rows_at {wo:Bool} {beds:List Int} {worths:List (List Int)} {way:List Nat} {rent:Int} {gs rows:List Int} (lg:gs.length=worths.length) (lw:way.length=worths.length) (lt:∀ r∈way,r < beds.length) (hc:Closed wo beds worths way gs)
    (h:IsRows beds way (costL wo worths way (lvL wo worths way rent gs) (worths.length:Int)) rows) {p:Nat} (hp:p < worths.length):rows.getD (way.getD p 0) 0=costF wo worths way (lvL wo worths way rent gs) (worths.length:Int) p:=by
  have hp':p < way.length:=by omega
  have e0:way.getD p 0=way[p]:=getD_get _ _ hp'
  have hm:way.getD p 0∈way:=by rw [e0]; exact List.getElem_mem hp'
  generalize hr0:way.getD p 0=r at *
  have hr2:r < rows.length:=by rw [h.1]; exact lt _ hm
  have h2:=h.2 r (rows[r]'hr2) (List.getElem?_eq_getElem hr2)
  unfold IsRoom at h2
  rw [if_pos hm] at h2
  have hi:way.idxOf r < way.length:=List.idxOf_lt_length_iff.mpr hm
  have hg:way.getD (way.idxOf r) 0=r:=by rw [getD_get _ _ hi]; exact List.getElem_idxOf hi
  rw [getD_get _ _ hr2,h2]
  have hi2:way.idxOf r < worths.length:=by omega
  have lc:(costL wo worths way (lvL wo worths way rent gs) (worths.length:Int)).length=worths.length:=by simp [costL]
  rw [getD_get _ _ (by rw [lc]; exact hi2)]
  have e2:∀ (k:Nat) (hk:k < (costL wo worths way (lvL wo worths way rent gs) (worths.length:Int)).length),(costL wo worths way (lvL wo worths way rent gs) (worths.length:Int))[k]=costF wo worths way (lvL wo worths way rent gs) (worths.length:Int) k:=fun k hk=>by simp [costL]
  rw [e2]
  exact cost_same lg hc hi2 hp (by rw [hg,hr0])
end L2
namespace L2
open PySem PySem.Spec PyProof.Rows BW
end L2
namespace L2
open PySem PySem.Spec PyProof.Rows BW
theorem thru_open {wo:Bool} {beds:List Int} {way:List Nat} {a b r:Nat} (h:(r:Int)∈openL beds (wI way)):(r:Int)∈thruL wo beds way a b:=List.mem_append_left _ h
section
variable {wo:Bool} {beds:List Int} {worths:List (List Int)} {way:List Nat} {rent:Int} {gs:List Int}
theorem no_rather (lg:gs.length=worths.length) (hc:Closed wo beds worths way gs) {i c r:Nat} (hi:i < worths.length) (hcn:c < worths.length) (hr:r=way.getD c 0∨(r:Int)∈openL beds (wI way)) (hown:i=c→wF worths i r≤ownF worths way i) :
    (worths.length:Int) * wF worths i r - costF wo worths way (lvL wo worths way rent gs) (worths.length:Int) c≤(worths.length:Int) * ownF worths way i - costF wo worths way (lvL wo worths way rent gs) (worths.length:Int) i:=by
  have n0:(0:Int)≤(worths.length:Int):=by omega
  by_cases e:i=c
  · have h1:=Int.mul_le_mul_of_nonneg_left (hown e) n0
    subst e
    omega
  unfold costF
  rw [lv_at (by omega),lv_at (by omega)]
  cases wo with
  | true =>
    have hm:(r:Int)∈thruL true beds way c i:=by
      rcases hr with h | h
      · rw [h]; exact thru_own true beds way c i
      · exact thru_open h
    have h1:=hc c i r hcn hi (Ne.symm e) hm
    simp only [if_pos,gainF] at h1 ⊢
    have h2:wF worths i r - ownF worths way c + gs.getD c 0≤gs.getD i 0:=by omega
    have h3:=Int.mul_le_mul_of_nonneg_left h2 n0
    rw [Int.mul_add,Int.mul_sub] at h3
    omega
  | false =>
    have hm:(r:Int)∈thruL false beds way i c:=by
      rcases hr with h | h
      · rw [h]; exact thru_own false beds way i c
      · exact thru_open h
    have h1:=hc i c r hi hcn e hm
    simp only [Bool.false_eq_true,if_false,gainF] at h1 ⊢
    have h2:wF worths i r - ownF worths way i + gs.getD i 0≤gs.getD c 0:=by omega
    have h3:=Int.mul_le_mul_of_nonneg_left h2 n0
    rw [Int.mul_add,Int.mul_sub] at h3
    omega
theorem open_cheap (lg:gs.length=worths.length) (hc:Closed wo beds worths way gs) {b c:Nat} (hb:b < worths.length) (hcn:c < worths.length) (ho:((way.getD b 0:Nat):Int)∈openL beds (wI way)) :
    costF wo worths way (lvL wo worths way rent gs) (worths.length:Int) b≤costF wo worths way (lvL wo worths way rent gs) (worths.length:Int) c:=by
  have h:=no_rather (rent:=rent) lg hc (i:=b) (c:=c) (r:=way.getD b 0) hb hcn (.inr ho) (fun _=>Int.le_refl _)
  have e:wF worths b (way.getD b 0)=ownF worths way b:=rfl
  rw [e] at h
  omega
end
end L2
namespace L2
open PySem PySem.Spec PyProof.Rows BW
theorem open_own {beds:List Int} {worths:List (List Int)} {way:List Nat} (ok:AimOk beds worths way) (hfit:Fit (bF beds) way) (hopt:Opt beds worths way) {i r:Nat} (hi:i < worths.length) (hr:r < beds.length) (ho:way.count r < bF beds r):wF worths i r≤ownF worths way i:=by
  obtain ⟨g,g1,g2,g3⟩:=price_ex (bF_out beds) hfit hopt
  have hi':i < way.length:=by rw [ok.len]; exact hi
  have h1:=g1 i hi' r hr
  have h2:=g2 way[i]
  have h3:=g3 r ho
  have e:ownF worths way i=wF worths i way[i]:=by unfold ownF; rw [getD_get _ _ hi']
  rw [e]
  omega
theorem open_mem {beds:List Int} {way:List Nat} {r:Nat} (hr:r < beds.length) (ho:way.count r < bF beds r):(r:Int)∈openL beds (wI way):=mem_open.mpr ⟨r,rfl,hr,ho⟩
theorem lies {way:List Nat} {r:Nat} (h:r∈way):∃ c,c < way.length∧way.getD c 0=r:=by
  have hi:way.idxOf r < way.length:=List.idxOf_lt_length_iff.mpr h
  exact ⟨_,hi,by rw [getD_get _ _ hi]; exact List.getElem_idxOf hi⟩
theorem mem_at {way:List Nat} {p:Nat} (h:p < way.length):way.getD p 0∈way:=by rw [getD_get _ _ h]; exact List.getElem_mem h
section
variable {wo:Bool} {beds:List Int} {worths:List (List Int)} {way:List Nat} {rent:Int} {gs rows:List Int}
theorem cost_mem {c:Int} (h:c∈costL wo worths way (lvL wo worths way rent gs) (worths.length:Int)):∃ p,p < worths.length∧c=costF wo worths way (lvL wo worths way rent gs) (worths.length:Int) p:=by
  obtain ⟨p,hp,rfl⟩:=List.mem_map.mp h
  exact ⟨p,List.mem_range.mp hp,rfl⟩
theorem mem_cost {p:Nat} (h:p < worths.length):costF wo worths way (lvL wo worths way rent gs) (worths.length:Int) p∈costL wo worths way (lvL wo worths way rent gs) (worths.length:Int):=List.mem_map.mpr ⟨p,List.mem_range.mpr h,rfl⟩
theorem rows_empty (h:IsRows beds way (costL wo worths way (lvL wo worths way rent gs) (worths.length:Int)) rows) {r:Nat} (hr:r < beds.length) (hw:r ∉ way):IsLeast (rows.getD r 0) (costL wo worths way (lvL wo worths way rent gs) (worths.length:Int)):=by
  have hr2:r < rows.length:=by rw [h.1]; exact hr
  have h2:=h.2 r (rows[r]'hr2) (List.getElem?_eq_getElem hr2)
  unfold IsRoom at h2
  rw [if_neg hw] at h2
  rw [getD_get _ _ hr2]
  exact h2
theorem rows_noEnvy (ok:AimOk beds worths way) (hfit:Fit (bF beds) way) (hopt:Opt beds worths way) (hb1:∀ b∈beds,1≤b) (lg:gs.length=worths.length) (hc:Closed wo beds worths way gs) (h:IsRows beds way (costL wo worths way (lvL wo worths way rent gs) (worths.length:Int)) rows) {i r:Nat} (hi:i < worths.length) (hr:r < beds.length) :
    (worths.length:Int) * wF worths i r - rows.getD r 0≤(worths.length:Int) * wF worths i (way.getD i 0) - rows.getD (way.getD i 0) 0:=by
  rw [rows_at lg ok.len ok.lt hc h hi]
  have lw:=ok.len
  by_cases hw:r∈way
  · obtain ⟨c,hc1,hc2⟩:=lies hw
    have e:=rows_at (rent:=rent) lg ok.len ok.lt hc h (p:=c) (by omega)
    rw [hc2] at e
    rw [e]
    refine no_rather (rent:=rent) lg hc hi (c:=c) (r:=r) (by omega) (.inl hc2.symm) fun z=>?_
    subst z
    rw [← hc2]
    exact Int.le_refl _
  · obtain ⟨h1,h2⟩:=rows_empty h hr hw
    obtain ⟨c,hc1,hc2⟩:=cost_mem h1
    have ho:way.count r < bF beds r:=by
      rw [List.count_eq_zero.mpr hw]
      have:=hb1 (beds[r]) (List.getElem_mem hr)
      unfold bF
      rw [getD_get _ _ hr]
      omega
    rw [hc2]
    exact no_rather (rent:=rent) lg hc hi (c:=c) (r:=r) hc1 (.inr (open_mem hr ho)) fun _=>open_own ok hfit hopt hi hr ho
theorem rows_noDear (ok:AimOk beds worths way) (lg:gs.length=worths.length) (hc:Closed wo beds worths way gs) (h:IsRows beds way (costL wo worths way (lvL wo worths way rent gs) (worths.length:Int)) rows) {r q:Nat} (hr:r < beds.length) (ho:way.count r < bF beds r) (hq:q∈way):rows.getD r 0≤rows.getD q 0:=by
  have lw:=ok.len
  obtain ⟨c,hc1,hc2⟩:=lies hq
  have e:=rows_at (rent:=rent) lg ok.len ok.lt hc h (p:=c) (by omega)
  rw [hc2] at e
  rw [e]
  by_cases hw:r∈way
  · obtain ⟨b,hb1,hb2⟩:=lies hw
    have e2:=rows_at (rent:=rent) lg ok.len ok.lt hc h (p:=b) (by omega)
    rw [hb2] at e2
    rw [e2]
    refine open_cheap (rent:=rent) lg hc (by omega) (by omega) ?_
    rw [hb2]
    exact open_mem hr ho
  · exact (rows_empty h hr hw).2 _ (mem_cost (by omega))
theorem rows_sum (ok:AimOk beds worths way) (lg:gs.length=worths.length) (hc:Closed wo beds worths way gs) (h:IsRows beds way (costL wo worths way (lvL wo worths way rent gs) (worths.length:Int)) rows):(way.map fun r=>rows.getD r 0).sum=worths.length * rent:=by
  rw [← sum_cost (wo:=wo) (rent:=rent) lg ok.len]
  congr 1
  refine List.ext_getElem (by simp [costL,ok.len]) fun p a b=>?_
  have hp:p < way.length:=by simpa using a
  have e:=rows_at (rent:=rent) lg ok.len ok.lt hc h (p:=p) (by rw [← ok.len]; exact hp)
  rw [getD_get _ _ hp] at e
  simp only [List.getElem_map,costL,List.getElem_range]
  exact e
end
structure Low (n:Int) (rows:List Int) (d:Int) (k:Int) (R:List Int):Prop where
  d0:0 < d
  n_:n=d * k
  len:R.length=rows.length
  at_:∀ r,rows.getD r 0=d * R.getD r 0
theorem low_mk {n:Nat} {rows:List Int} (h:0 < n):Low n rows ((gcdL n rows:Nat):Int) ((n:Int) / ((gcdL n rows:Nat):Int)) (rows.map fun x=>x / ((gcdL n rows:Nat):Int)):=by
  have hd0:0 < gcdL n rows:=gcdL_pos _ _ h
  have hdn:((gcdL n rows:Nat):Int) ∣ (n:Int):=Int.ofNat_dvd.mpr (gcdL_dvd_start _ _)
  have hdr:∀ x∈rows,((gcdL n rows:Nat):Int) ∣ x:=fun x hx=>Int.ofNat_dvd_left.mpr (gcdL_dvd_mem rows _ x hx)
  refine ⟨by omega,(Int.mul_ediv_cancel' hdn).symm,by simp,fun r=>?_⟩
  by_cases hr:r < rows.length
  · rw [getD_get _ _ hr,getD_get _ _ (by simpa using hr),List.getElem_map]
    exact (Int.mul_ediv_cancel' (hdr _ (List.getElem_mem hr))).symm
  · have e1:rows.getD r 0=0:=by simp [List.getD,hr]
    have e2:(rows.map fun x=>x / ((gcdL n rows:Nat):Int)).getD r 0=0:=by simp [List.getD,hr]
    rw [e1,e2,Int.mul_zero]
theorem Low.sum {n d k:Int} {rows R:List Int} (h:Low n rows d k R) (way:List Nat):(way.map fun r=>rows.getD r 0).sum=d * (way.map fun r=>R.getD r 0).sum:=by
  induction way with
  | nil=>simp
  | cons a l ih=>simp only [List.map_cons,List.sum_cons,ih,h.at_ a,Int.mul_add]
theorem DivAt.low {wo:Bool} {H:Hp} {t tp rl cl:Addr} {beds:List Int} {worths:List (List Int)} {rent:Int} {way:List Nat} {hops:List Hop} {st:TC} {rows:List Int} (_:DivAt wo H t tp rl cl beds worths rent way hops st rows) (l0:0 < worths.length):Low worths.length rows ((gcdL worths.length rows:Nat):Int) ((worths.length:Int) / ((gcdL worths.length rows:Nat):Int)) (rows.map fun x=>x / ((gcdL worths.length rows:Nat):Int)):=low_mk l0
theorem div_fair {wo:Bool} {H:Hp} {t tp rl cl:Addr} {beds:List Int} {worths:List (List Int)} {rent:Int} {way:List Nat} {hops:List Hop} {st:TC} {rows:List Int} {d k:Int} {R:List Int} (g:DivAt wo H t tp rl cl beds worths rent way hops st rows) (ok:AimOk beds worths way) (hfit:Fit (bF beds) way) (hopt:Opt beds worths way) (hb1:∀ b∈beds,1≤b) (low:Low worths.length rows d k R) :
    Fp.is ⟨beds,worths,rent,way,k,R⟩ .none:=by
  have lg:=g.ok.l1
  have hc:Closed wo beds worths way st.1:=g.cl_
  have d0:=low.d0
  refine ⟨?_,fun i r hi hr he=>?_,fun r q hr hq hd=>?_⟩
  · show (way.map fun r=>R.getD r 0).sum=k * rent
    have h1:=rows_sum ok lg hc g.isr
    rw [low.sum,low.n_,Int.mul_assoc] at h1
    exact Int.eq_of_mul_eq_mul_left (by omega) h1
  · have h1:=rows_noEnvy ok hfit hopt hb1 lg hc g.isr (i:=i) (r:=r) hi hr
    have he':k * wF worths i (way.getD i 0) - R.getD (way.getD i 0) 0 < k * wF worths i r - R.getD r 0:=he
    have h2:=Int.mul_lt_mul_of_pos_left he' d0
    rw [low.at_,low.at_,low.n_,Int.mul_assoc,Int.mul_assoc,← Int.mul_sub,← Int.mul_sub] at h1
    omega
  · obtain ⟨h1,h2,h3⟩:=hd
    have hqw:q∈way:=List.count_pos_iff.mp h2
    have h4:=rows_noDear ok lg hc g.isr (r:=r) (q:=q) hr h1 hqw
    have h5:R.getD q 0 < R.getD r 0:=h3
    have h6:=Int.mul_lt_mul_of_pos_left h5 d0
    rw [low.at_,low.at_] at h4
    omega
def sp_lfair:Sp:=fun vs H Q _ => ∃ (b w wy rl:Addr) (F:Fp),vs=[.ref b,.ref w,.int F.rent,.ref wy,.int F.parts,.ref rl]∧H b=some (.lst (F.beds.map V.int))∧Mat H w F.worths∧H wy=some (.lst ((wI F.way).map V.int))∧H rl=some (.lst (F.rows.map V.int))∧FpOk' F∧0 < F.worths.length∧F.is .none∧∀ H',Same H H'→Q (.bl true) H'
end L2
namespace L2
open PySem PySem.Spec PyProof.Rows BW
theorem least_of (f:Nat→Int):∀ u:List Nat,0 < u.length→∃ m∈u,∀ q∈u,f m≤f q:=by
  intro u
  induction u with
  | nil=>intro h; simp at h
  | cons x u ih =>
    intro _
    cases u with
    | nil=>exact ⟨x,by simp,fun q hq=>by simp at hq; rw [hq]; exact Int.le_refl _⟩
    | cons y u =>
      obtain ⟨m,h1,h2⟩:=ih (by simp)
      by_cases hxm:f x≤f m
      · refine ⟨x,by simp,fun q hq=>?_⟩
        rcases List.mem_cons.mp hq with z | z
        · rw [z]; exact Int.le_refl _
        · exact Int.le_trans hxm (h2 q z)
      · refine ⟨m,List.mem_cons_of_mem _ h1,fun q hq=>?_⟩
        rcases List.mem_cons.mp hq with z | z
        · rw [z]; omega
        · exact h2 q z
def levF (wo:Bool) (worths:List (List Int)) (way:List Nat) (n:Int) (rows:List Int) (i:Nat):Int:=if wo then n * ownF worths way i - rows.getD (way.getD i 0) 0 else rows.getD (way.getD i 0) 0
section
variable {wo:Bool} {beds:List Int} {worths:List (List Int)} {way:List Nat} {rent n:Int} {rows:List Int}
theorem lev_hop (ok:AimOk beds worths way) (fair:Fp.is ⟨beds,worths,rent,way,n,rows⟩ .none) {a b r:Nat} (ha:a < worths.length) (hb:b < worths.length) (hr:r < beds.length) (hm:(r:Int)∈thruL wo beds way a b):levF wo worths way n rows a + n * gainF wo worths way a r b≤levF wo worths way n rows b:=by
  obtain ⟨_,ne,nd⟩:=fair
  have lw:=ok.len
  have key:∀ x,x < worths.length→(r=way.getD x 0∨(r:Int)∈openL beds (wI way))→rows.getD r 0≤rows.getD (way.getD x 0) 0:=fun x hx h=>by
    rcases h with h | h
    · rw [h]; exact Int.le_refl _
    · obtain ⟨r',e1,_,e2⟩:=mem_open.mp h
      have e3:r'=r:=by omega
      subst e3
      have hmem:=mem_at (way:=way) (p:=x) (by omega)
      have:=nd r' (way.getD x 0) hr (ok.lt _ hmem)
      refine Classical.byContradiction fun z=>this ⟨e2,List.count_pos_iff.mpr hmem,?_⟩
      show rows.getD (way.getD x 0) 0 < rows.getD r' 0
      omega
  have hmem:∀ x,((r:Int)∈openL beds (wI way) ++ [((way.getD x 0:Nat):Int)])→r=way.getD x 0∨(r:Int)∈openL beds (wI way):=fun x h=>by
    rcases List.mem_append.mp h with e | e
    · exact .inr e
    · have:(r:Int)=((way.getD x 0:Nat):Int):=by simpa using e
      exact .inl (by omega)
  cases wo with
  | true =>
    have h1:=key a ha (hmem a hm)
    have h2:=ne b r hb hr
    have h3:¬ (n * wF worths b (way.getD b 0) - rows.getD (way.getD b 0) 0 < n * wF worths b r - rows.getD r 0):=h2
    show n * ownF worths way a - rows.getD (way.getD a 0) 0 + n * (wF worths b r - ownF worths way a)≤n * wF worths b (way.getD b 0) - rows.getD (way.getD b 0) 0
    rw [Int.mul_sub]
    omega
  | false =>
    have h1:=key b hb (hmem b hm)
    have h2:=ne a r ha hr
    have h3:¬ (n * wF worths a (way.getD a 0) - rows.getD (way.getD a 0) 0 < n * wF worths a r - rows.getD r 0):=h2
    show rows.getD (way.getD a 0) 0 + n * (wF worths a r - wF worths a (way.getD a 0))≤rows.getD (way.getD b 0) 0
    rw [Int.mul_sub]
    omega
theorem wt_mul (n:Int) (gn:Hop→Int) (c:List Hop):wt (fun m=>n * gn m) c=n * wt gn c:=by
  unfold wt
  induction c with
  | nil=>simp
  | cons a l ih=>simp only [List.map_cons,List.sum_cons,ih,Int.mul_add]
theorem lev_sum (ok:AimOk beds worths way) (fair:Fp.is ⟨beds,worths,rent,way,n,rows⟩ .none):((List.range worths.length).map (levF wo worths way n rows)).sum=n * wholeF wo worths way rent:=by
  have sm:(way.map fun r=>rows.getD r 0).sum=n * rent:=fair.1
  rw [map_range (α:=Nat) way,ok.len] at sm
  cases wo with
  | true =>
    have e:((List.range worths.length).map (levF true worths way n rows))=(List.range worths.length).map fun i=>n * ownF worths way i - rows.getD (way.getD i 0) 0:=List.map_congr_left fun i _=>by simp [levF]
    have ew:((List.range worths.length).map (ownF worths way)).sum=wsum (wF worths) way:=by
      unfold wsum
      rw [ok.len]
      rfl
    rw [e,sum_lin2 n (ownF worths way) (fun i=>rows.getD (way.getD i 0) 0),sm,ew]
    show n * wsum (wF worths) way - n * rent=n * (wsum (wF worths) way - rent)
    rw [Int.mul_sub]
  | false =>
    have e:((List.range worths.length).map (levF false worths way n rows))=(List.range worths.length).map fun i=>rows.getD (way.getD i 0) 0:=List.map_congr_left fun i _=>by simp [levF]
    rw [e,sm]
    rfl
end
structure DivR (wo:Bool) (beds:List Int) (worths:List (List Int)) (rent:Int) (way:List Nat) (hops:List Hop) (st:TC) (rows:List Int):Prop where
  isr:IsRows beds way (costL wo worths way (lvL wo worths way rent st.1) (worths.length:Int)) rows
  good:GoodHops wo beds worths way hops
  ok:OkC hops (gnF wo worths way) worths.length st
  nn:∀ b,b < worths.length→0≤st.1.getD b 0
  cl_:Closed wo beds worths way st.1
theorem DivAt.r {wo:Bool} {H:Hp} {t tp rl cl:Addr} {beds:List Int} {worths:List (List Int)} {rent:Int} {way:List Nat} {hops:List Hop} {st:TC} {rows:List Int} (g:DivAt wo H t tp rl cl beds worths rent way hops st rows):DivR wo beds worths rent way hops st rows:=⟨g.isr,g.good,g.ok,g.nn,g.cl_⟩
section
variable {wo:Bool} {beds:List Int} {worths:List (List Int)} {rent:Int} {way:List Nat} {hops:List Hop} {st:TC} {rows:List Int}
theorem rsum_const (c:Int) (n:Nat):((List.range n).map fun _=>c).sum=n * c:=by
  induction n with
  | zero=>simp
  | succ n ih =>
    rw [List.range_succ,List.map_append,List.sum_append,ih]
    have:((n + 1:Nat):Int) * c=n * c + c:=by rw [Int.natCast_add,Int.add_mul]; simp
    rw [this]
    simp
theorem DivR.gsum (g:DivR wo beds worths rent way hops st rows):((List.range worths.length).map fun i=>st.1.getD i 0).sum=st.1.sum:=by
  rw [← g.ok.l1,range_getD]
theorem DivR.fair (g:DivR wo beds worths rent way hops st rows) (ok:AimOk beds worths way) (hfit:Fit (bF beds) way) (hopt:Opt beds worths way) (hb1:∀ b∈beds,1≤b):Fp.is ⟨beds,worths,rent,way,(worths.length:Int),rows⟩ .none:=by
  have lg:=g.ok.l1
  have hc:=g.cl_
  refine ⟨rows_sum ok lg hc g.isr,fun i r hi hr he=>?_,fun r q hr hq hd=>?_⟩
  · have h1:=rows_noEnvy ok hfit hopt hb1 lg hc g.isr (i:=i) (r:=r) hi hr
    have he':(worths.length:Int) * wF worths i (way.getD i 0) - rows.getD (way.getD i 0) 0 < (worths.length:Int) * wF worths i r - rows.getD r 0:=he
    omega
  · obtain ⟨h1,h2,h3⟩:=hd
    have h4:=rows_noDear ok lg hc g.isr (r:=r) (q:=q) hr h1 (List.count_pos_iff.mp h2)
    have h5:rows.getD q 0 < rows.getD r 0:=h3
    omega
theorem DivR.lev (g:DivR wo beds worths rent way hops st rows) (ok:AimOk beds worths way) {i:Nat} (hi:i < worths.length):levF wo worths way (worths.length:Int) rows i=(wholeF wo worths way rent - st.1.sum) + (worths.length:Int) * st.1.getD i 0:=by
  have e:=rows_at (rent:=rent) g.ok.l1 ok.len ok.lt g.cl_ g.isr hi
  have l:=lv_at (wo:=wo) (worths:=worths) (way:=way) (rent:=rent) (gs:=st.1) (i:=i) (by rw [g.ok.l1]; exact hi)
  unfold levF
  rw [e]
  unfold costF
  rw [l]
  cases wo
  · simp
  · simp
    omega
theorem DivR.bound (g:DivR wo beds worths rent way hops st rows) (ok:AimOk beds worths way) (l0:0 < worths.length) {n:Int} {rows':List Int} (n0:0 < n) (fair:Fp.is ⟨beds,worths,rent,way,n,rows'⟩ .none) {m:Int} (hm:∀ i,i < worths.length→m≤levF wo worths way n rows' i):(worths.length:Int) * m≤n * (wholeF wo worths way rent - st.1.sum)∧((worths.length:Int) * m=n * (wholeF wo worths way rent - st.1.sum)→∀ b,b < worths.length→levF wo worths way n rows' b=m + n * st.1.getD b 0):=by
  have h1:∀ b,b < worths.length→m + n * st.1.getD b 0≤levF wo worths way n rows' b:=fun b hb=>by
    obtain ⟨s,s1,s2,s3⟩:=g.ok.at_ b hb
    have h2:=s2.pot (gn:=fun x=>n * gnF wo worths way x) (h:=levF wo worths way n rows') fun x hx=>by
      obtain ⟨m1,m2,m3,m4,m5⟩:=g.good.mem x hx
      exact lev_hop ok fair m1 m2 m4 m5
    rw [wt_mul,s3] at h2
    have h3:=hm s s1
    omega
  have h2:=rsum_le worths.length h1
  have e1:((List.range worths.length).map fun b=>m + n * st.1.getD b 0).sum=worths.length * m + n * st.1.sum:=by
    rw [rsum_add (fun _=>m) (fun b=>n * st.1.getD b 0),rsum_const]
    have:=sum_lin2 n (fun b=>st.1.getD b 0) (fun _=>0) (List.range worths.length)
    rw [g.gsum] at this
    simp only [Int.sub_zero] at this
    rw [this,rsum_const]
    omega
  have e2:=lev_sum (wo:=wo) ok fair
  have e3:n * (wholeF wo worths way rent - st.1.sum)=n * wholeF wo worths way rent - n * st.1.sum:=Int.mul_sub _ _ _
  rw [e1] at h2
  rw [e3]
  have h2':(worths.length:Int) * m + n * st.1.sum≤((List.range worths.length).map (levF wo worths way n rows')).sum:=h2
  rw [e2] at h2'
  refine ⟨by omega,fun e b hb=>?_⟩
  have h4:=rsum_eq worths.length h1 (by
    rw [e1]
    show _=((List.range worths.length).map (levF wo worths way n rows')).sum
    rw [e2]
    omega) b hb
  exact h4.symm
end
structure Best (wo:Bool) (beds:List Int) (worths:List (List Int)) (rent:Int) (way:List Nat) (rows:List Int) (m:Int):Prop where
  ok:AimOk beds worths way
  fit:Fit (bF beds) way
  opt:Opt beds worths way
  l0:0 < worths.length
  len:rows.length=beds.length
  fair:Fp.is ⟨beds,worths,rent,way,(worths.length:Int),rows⟩ .none
  ge:∀ i,i < worths.length→m≤levF wo worths way (worths.length:Int) rows i
  empty:∀ r,r < beds.length→r ∉ way→(∃ p,p∈way∧rows.getD r 0=rows.getD p 0)∧∀ p,p∈way→rows.getD r 0≤rows.getD p 0
  max:∀ (rows':List Int) (m':Int),Fp.is ⟨beds,worths,rent,way,(worths.length:Int),rows'⟩ .none→(∀ i,i < worths.length→m'≤levF wo worths way (worths.length:Int) rows' i)→m'≤m∧(m'=m→∀ i,i < worths.length→levF wo worths way (worths.length:Int) rows' i=levF wo worths way (worths.length:Int) rows i)
theorem DivR.best {wo:Bool} {beds:List Int} {worths:List (List Int)} {rent:Int} {way:List Nat} {hops:List Hop} {st:TC} {rows:List Int} (g:DivR wo beds worths rent way hops st rows) (ok:AimOk beds worths way) (fit:Fit (bF beds) way) (opt:Opt beds worths way) (hb1:∀ b∈beds,1≤b) (l0:0 < worths.length):Best wo beds worths rent way rows (wholeF wo worths way rent - st.1.sum):=by
  have n0:(0:Int) < (worths.length:Int):=by omega
  have lw:=ok.len
  refine ⟨ok,fit,opt,l0,g.isr.1,g.fair ok fit opt hb1,fun i hi=>?_,fun r hr hw=>?_,fun rows' m' f h=>?_⟩
  · have h1:=g.lev ok hi
    have h2:=Int.mul_nonneg (show 0≤(worths.length:Int) by omega) (g.nn i hi)
    omega
  · obtain ⟨h1,h2⟩:=rows_empty g.isr hr hw
    obtain ⟨c,hc1,hc2⟩:=cost_mem h1
    refine ⟨⟨way.getD c 0,mem_at (by omega),?_⟩,fun p hp=>?_⟩
    · rw [rows_at (rent:=rent) g.ok.l1 ok.len ok.lt g.cl_ g.isr hc1]
      exact hc2
    · obtain ⟨c',hc1',rfl⟩:=lies hp
      rw [rows_at (rent:=rent) g.ok.l1 ok.len ok.lt g.cl_ g.isr (p:=c') (by omega)]
      exact h2 _ (mem_cost (by omega))
  · obtain ⟨c1,c2⟩:=g.bound ok l0 n0 f h
    refine ⟨Int.le_of_mul_le_mul_left c1 n0,fun e i hi=>?_⟩
    rw [c2 (by rw [e]) i hi,g.lev ok hi,e]
end L2
namespace L2
open PySem PySem.Spec PyProof.Rows BW
section
variable {beds:List Int} {worths:List (List Int)} {rent:Int} {beds':List Int} {worths':List (List Int)} {rent':Int} {p q s t:Nat→Nat} {c:Nat→Int} {e:Int}
end
end L2
namespace L2
open PySem PySem.Spec PyProof.Rows BW
section
variable {beds:List Int} {worths:List (List Int)} {rent:Int}
end
end L2
namespace L2
open PySem PySem.Spec PyProof.Rows BW
section
variable {CH CW p:Addr} {wo:Bool} {beds:List Int} {worths:List (List Int)} {rent:Int} {way:List Nat} {σ:St} {H:Hp} {Q:VK} {ta:TE} {t:TA}
end
end L2
namespace L2
open PySem PySem.Spec PyProof.Rows BW
theorem isum_bd {B:Int}:∀ {l:List Int},(∀ z∈l,-B≤z∧z≤B)→-((l.length:Int) * B)≤l.sum∧l.sum≤(l.length:Int) * B
  | [],_=>by simp
  | a :: l,h=>by
    have ih:=isum_bd (l:=l) fun z hz=>h z (List.mem_cons_of_mem _ hz)
    have ha:=h a List.mem_cons_self
    rw [List.sum_cons,List.length_cons,show ((l.length + 1:Nat):Int) * B=(l.length:Int) * B + B by rw [Int.natCast_add,Int.add_mul]; simp]
    omega
theorem own_bd {worths:List (List Int)} (hx:∀ row∈worths,∀ x∈row,-(10 ^ 42) < x∧x < 10 ^ 42) (way:List Nat) (i:Nat):-(10 ^ 42) < ownF worths way i∧ownF worths way i < 10 ^ 42:=wF_bd hx _ _
theorem wsum_bd {worths:List (List Int)} {way:List Nat} (hx:∀ row∈worths,∀ x∈row,-(10 ^ 42) < x∧x < 10 ^ 42) (hl:way.length≤10):-(10 ^ 43)≤wsum (wF worths) way∧wsum (wF worths) way≤10 ^ 43:=by
  have h:=isum_bd (B:=10 ^ 42) (l:=(List.range way.length).map fun i=>wF worths i (way.getD i 0)) fun z hz=>by
    obtain ⟨i,_,rfl⟩:=List.mem_map.mp hz
    have:=wF_bd hx i (way.getD i 0)
    omega
  rw [List.length_map,List.length_range] at h
  have h2:(way.length:Int) * 10 ^ 42≤10 * 10 ^ 42:=Int.mul_le_mul_of_nonneg_right (by omega) (by decide)
  have e:(10:Int) * 10 ^ 42=10 ^ 43:=by decide
  unfold wsum
  omega
section
variable {wo:Bool} {beds:List Int} {worths:List (List Int)} {rent:Int} {way:List Nat} {hops:List Hop} {st:TC} {rows:List Int} {d k:Int} {R:List Int}
theorem DivR.zero (g:DivR wo beds worths rent way hops st rows) (l0:0 < worths.length):∃ b,b < worths.length∧st.1.getD b 0=0:=by
  obtain ⟨s,h1,h2,h3⟩:=g.ok.at_ 0 l0
  have h4:=h2.pot (gn:=gnF wo worths way) (h:=fun x=>st.1.getD x 0) fun m hm=>by
    obtain ⟨m1,m2,m3,m4,m5⟩:=g.good.mem m hm
    exact g.cl_ m.1 m.2.2 m.2.1 m1 m2 m3 m5
  have h5:=g.nn s h1
  rw [h3] at h4
  have h4':st.1.getD s 0 + st.1.getD 0 0≤st.1.getD 0 0:=h4
  exact ⟨s,h1,by omega⟩
theorem DivR.gs_bd (g:DivR wo beds worths rent way hops st rows) (hx:∀ row∈worths,∀ x∈row,-(10 ^ 42) < x∧x < 10 ^ 42) (cb:∀ c∈st.2,c.length≤5000) (i:Nat):-(10 ^ 46)≤st.1.getD i 0∧st.1.getD i 0≤10 ^ 46:=by
  by_cases h:i < st.1.length
  · rw [getD_get _ _ h]
    exact great_bd hx g.ok cb _ (List.getElem_mem h)
  · have:st.1.getD i 0=0:=by simp [List.getD,h]
    rw [this]
    decide
theorem DivR.num_bd (g:DivR wo beds worths rent way hops st rows) (ok:AimOk beds worths way) (hx:∀ row∈worths,∀ x∈row,-(10 ^ 42) < x∧x < 10 ^ 42) (hre:-(10 ^ 42) < rent∧rent < 10 ^ 42) (cb:∀ c∈st.2,c.length≤5000):-(10 ^ 48) < wholeF wo worths way rent - st.1.sum∧wholeF wo worths way rent - st.1.sum < 10 ^ 48:=by
  have lw:=ok.bok.w1
  have h1:=isum_bd (great_bd hx g.ok cb)
  rw [g.ok.l1] at h1
  have h2:(worths.length:Int) * 10 ^ 46≤10 * 10 ^ 46:=Int.mul_le_mul_of_nonneg_right (by omega) (by decide)
  have h3:=wsum_bd hx (way:=way) (by have:=ok.len; omega)
  have h4:-(10 ^ 44) < wholeF wo worths way rent∧wholeF wo worths way rent < 10 ^ 44:=by
    unfold wholeF
    cases wo
    · simp only [Bool.false_eq_true,if_false]; omega
    · simp only [if_pos]; omega
  omega
theorem DivR.low_lev (g:DivR wo beds worths rent way hops st rows) (ok:AimOk beds worths way) (low:Low worths.length rows d k R) {i:Nat} (hi:i < worths.length):d * levF wo worths way k R i=(wholeF wo worths way rent - st.1.sum) + (worths.length:Int) * st.1.getD i 0∧levF wo worths way k R i * (worths.length:Int)=((wholeF wo worths way rent - st.1.sum) + (worths.length:Int) * st.1.getD i 0) * k:=by
  have h:=g.lev ok hi
  have e:levF wo worths way (worths.length:Int) rows i=d * levF wo worths way k R i:=by
    unfold levF
    rw [low.at_,low.n_]
    cases wo
    · simp only [Bool.false_eq_true,if_false]
    · simp only [if_pos]
      rw [Int.mul_sub,Int.mul_assoc]
  rw [e] at h
  refine ⟨h,?_⟩
  rw [← h,low.n_,Int.mul_comm d k,← Int.mul_assoc,Int.mul_comm (levF wo worths way k R i * k) d,← Int.mul_assoc]
theorem DivR.lev_bd (g:DivR wo beds worths rent way hops st rows) (ok:AimOk beds worths way) (low:Low worths.length rows d k R) (hx:∀ row∈worths,∀ x∈row,-(10 ^ 42) < x∧x < 10 ^ 42) (hre:-(10 ^ 42) < rent∧rent < 10 ^ 42) (cb:∀ c∈st.2,c.length≤5000) {i:Nat} (hi:i < worths.length):-(10 ^ 50) < levF wo worths way k R i∧levF wo worths way k R i < 10 ^ 50:=by
  have lw:=ok.bok.w1
  have h1:=(g.low_lev ok low hi).1
  have h2:=g.num_bd ok hx hre cb
  have h3:=g.gs_bd hx cb i
  have h4:(worths.length:Int) * st.1.getD i 0≤10 * 10 ^ 46:=Int.le_trans (Int.mul_le_mul_of_nonneg_left h3.2 (by omega)) (Int.mul_le_mul_of_nonneg_right (by omega) (by decide))
  have h5:-(10 * 10 ^ 46)≤(worths.length:Int) * st.1.getD i 0:=by
    have a:=Int.mul_le_mul_of_nonneg_left (show -(st.1.getD i 0)≤10 ^ 46 by omega) (show (0:Int)≤worths.length by omega)
    have b:=Int.mul_le_mul_of_nonneg_right (show (worths.length:Int)≤10 by omega) (show (0:Int)≤10 ^ 46 by decide)
    rw [Int.mul_neg] at a
    omega
  have d0:=low.d0
  generalize levF wo worths way k R i=L at *
  have key:∀ {B L:Int},0≤B→d * L < B→L < B:=fun {B L} hB h=>by
    refine Classical.byContradiction fun z=>?_
    have:=Int.mul_le_mul_of_nonneg_right (show 1≤d by omega) (show 0≤L by omega)
    omega
  have k1:=key (B:=10 ^ 50) (L:=L) (by decide) (by omega)
  have k2:=key (B:=10 ^ 50) (L:=-L) (by decide) (by rw [Int.mul_neg]; omega)
  omega
theorem DivR.spread (g:DivR false beds worths rent way hops st rows) (ok:AimOk beds worths way) (low:Low worths.length rows d k R) (l0:0 < worths.length) {z1 z2 z3:Int} (h1:z1∈(List.range worths.length).map (levF false worths way k R)) (m1:∀ y∈(List.range worths.length).map (levF false worths way k R),y≤z1) (h2:z2∈(List.range worths.length).map (levF false worths way k R)) (m2:∀ y∈(List.range worths.length).map (levF false worths way k R),z2≤y) (h3:z3∈st.1) (m3:∀ y∈st.1,y≤z3):z1 - z2=k * z3:=by
  have d0:=low.d0
  have n0:(0:Int)≤(worths.length:Int):=by omega
  obtain ⟨b,hb,eb⟩:=g.zero l0
  obtain ⟨c,hc,rfl⟩:=List.mem_iff_getElem.mp h3
  have hc':c < worths.length:=by rw [← g.ok.l1]; exact hc
  obtain ⟨i1,hi1,rfl⟩:=List.mem_map.mp h1
  obtain ⟨i2,hi2,rfl⟩:=List.mem_map.mp h2
  have hi1':=List.mem_range.mp hi1
  have hi2':=List.mem_range.mp hi2
  have mem:∀ i,i < worths.length→levF false worths way k R i∈(List.range worths.length).map (levF false worths way k R):=fun i hi=>List.mem_map.mpr ⟨i,List.mem_range.mpr hi,rfl⟩
  have a1:=m1 _ (mem c hc')
  have a2:=m2 _ (mem b hb)
  have L:=fun i hi=>(g.low_lev ok low (i:=i) hi).1
  have b1:=L i1 hi1'
  have b2:=L i2 hi2'
  have b3:=L c hc'
  have b4:=L b hb
  rw [eb] at b4
  have gi1:=m3 _ (show st.1.getD i1 0∈st.1 by rw [getD_get _ _ (by rw [g.ok.l1]; exact hi1')]; exact List.getElem_mem _)
  have gi2:=g.nn i2 hi2'
  have p1:=Int.mul_le_mul_of_nonneg_left gi1 n0
  have p2:=Int.mul_nonneg n0 gi2
  rw [getD_get _ _ hc] at b3
  have q1:=Int.mul_le_mul_of_nonneg_left a1 (show 0≤d by omega)
  have q2:=Int.mul_le_mul_of_nonneg_left a2 (show 0≤d by omega)
  have e1:d * levF false worths way k R i1 - d * levF false worths way k R i2=(worths.length:Int) * st.1[c]:=by omega
  refine Int.eq_of_mul_eq_mul_left (show d≠0 by omega) ?_
  rw [Int.mul_sub,e1,low.n_,Int.mul_assoc]
end
theorem lowk_bd {n d k:Int} {rows R:List Int} (low:Low n rows d k R) (h0:0 < n) (h1:n≤10):0 < k∧k≤10:=by
  have e:=low.n_
  have h2:=low.d0
  constructor
  · refine Classical.byContradiction fun z=>?_
    have:=Int.mul_nonneg (show 0≤d by omega) (show 0≤-k by omega)
    rw [Int.mul_neg] at this
    omega
  · refine Classical.byContradiction fun z=>?_
    have:=Int.mul_le_mul_of_nonneg_right (show 1≤d by omega) (show 0≤k by omega)
    omega
end L2
namespace L2
open PySem PySem.Spec PyProof.Rows BW
end L2
namespace L2
open PySem PySem.Spec PyProof.Rows BW
section
variable {beds:List Int} {worths:List (List Int)} {rent:Int} {P Q:List Nat}
end
end L2
namespace L2
open PySem PySem.Spec PyProof.Rows BW
section
variable {wo:Bool} {beds:List Int} {worths:List (List Int)} {rent:Int} {way:List Nat} {hops:List Hop} {st:TC}
end
section
variable {wo:Bool} {beds:List Int} {worths:List (List Int)} {P Q:List Nat} {way way':List Nat} {hops hops':List Hop} {st st':TC}
end
end L2
namespace L2
open PySem PySem.Spec PyProof.Rows BW
end L2
namespace L2
open PySem PySem.Spec PyProof.Rows BW
end L2
namespace L2
open PySem PySem.Spec PyProof.Rows BW
end L2
namespace L2
open PySem PySem.Spec PyProof.Rows BW
end L2
namespace L2
open PySem PySem.Spec PyProof.Rows BW
theorem DivR.least_lev {wo:Bool} {beds:List Int} {worths:List (List Int)} {rent:Int} {way:List Nat} {hops:List Hop} {st:TC} {rows:List Int} {d k:Int} {R:List Int} (g:DivR wo beds worths rent way hops st rows) (ok:AimOk beds worths way) (low:Low worths.length rows d k R) (k0:0 < k) (l0:0 < worths.length) {z:Int} (hz:z∈(List.range worths.length).map (levF wo worths way k R)) (hm:∀ y∈(List.range worths.length).map (levF wo worths way k R),z≤y):z * (worths.length:Int)=(wholeF wo worths way rent - st.1.sum) * k:=by
  obtain ⟨j,hj,rfl⟩:=List.mem_map.mp hz
  have hj':=List.mem_range.mp hj
  obtain ⟨b,hb,eb⟩:=g.zero l0
  have h1:=hm _ (List.mem_map.mpr ⟨b,List.mem_range.mpr hb,rfl⟩)
  have e1:=(g.low_lev ok low hj').2
  have e2:=(g.low_lev ok low hb).2
  rw [eb,Int.mul_zero,Int.add_zero] at e2
  have h2:=Int.mul_le_mul_of_nonneg_right h1 (show (0:Int)≤worths.length by omega)
  have h3:=g.nn j hj'
  have h4:=Int.mul_nonneg (Int.mul_nonneg (show (0:Int)≤worths.length by omega) h3) (show 0≤k by omega)
  rw [Int.add_mul] at e1
  omega
end L2
namespace L2
open PySem PySem.Spec PyProof.Rows BW
end L2
namespace L2
open PySem PySem.Spec PyProof.Rows BW
end L2
namespace BW
open L2
section
variable {hs:List Hop} {gn:Hop→Int} {n:Nat} {start:List (Option Int)}
end
end BW
namespace L2
open PySem PySem.Spec PyProof.Rows BW
def ClosedV (beds:List Int) (worths:List (List Int)) (way:List Nat) (n:Int) (lv:List Int):Prop:=∀ a b r:Nat,a < worths.length→b < worths.length→a≠b→(r:Int)∈thruL true beds way a b→lv.getD a 0 + n * gainF true worths way a r b≤lv.getD b 0
section
variable {beds:List Int} {worths:List (List Int)} {way:List Nat} {rent n:Int} {lv rows:List Int}
theorem no_ratherV (n0:0 < n) (hc:ClosedV beds worths way n lv) {i c r:Nat} (hi:i < worths.length) (hcn:c < worths.length) (hr:r=way.getD c 0∨(r:Int)∈openL beds (wI way)) (hown:i=c→wF worths i r≤ownF worths way i) :
    n * wF worths i r - costF true worths way lv n c≤n * ownF worths way i - costF true worths way lv n i:=by
  by_cases e:i=c
  · have h1:=Int.mul_le_mul_of_nonneg_left (hown e) (show 0≤n by omega)
    subst e
    omega
  unfold costF
  have hm:(r:Int)∈thruL true beds way c i:=by
    rcases hr with h | h
    · rw [h]; exact thru_own true beds way c i
    · exact thru_open h
  have h1:=hc c i r hcn hi (Ne.symm e) hm
  simp only [if_pos,gainF] at h1 ⊢
  rw [Int.mul_sub] at h1
  omega
theorem open_cheapV (n0:0 < n) (hc:ClosedV beds worths way n lv) {b c:Nat} (hb:b < worths.length) (hcn:c < worths.length) (ho:((way.getD b 0:Nat):Int)∈openL beds (wI way)):costF true worths way lv n b≤costF true worths way lv n c:=by
  have h:=no_ratherV n0 hc (i:=b) (c:=c) (r:=way.getD b 0) hb hcn (.inr ho) (fun _=>Int.le_refl _)
  have e:wF worths b (way.getD b 0)=ownF worths way b:=rfl
  rw [e] at h
  omega
theorem cost_sameV (n0:0 < n) (hc:ClosedV beds worths way n lv) {a b:Nat} (ha:a < worths.length) (hb:b < worths.length) (h:way.getD a 0=way.getD b 0):costF true worths way lv n a=costF true worths way lv n b:=by
  by_cases e:a=b
  · rw [e]
  have h1:=hc a b _ ha hb e (thru_own true beds way a b)
  have h2:=hc b a _ hb ha (Ne.symm e) (thru_own true beds way b a)
  unfold costF
  simp only [if_pos,gainF] at h1 h2 ⊢
  have e1:wF worths b (way.getD a 0)=ownF worths way b:=by rw [h]; rfl
  have e2:wF worths a (way.getD b 0)=ownF worths way a:=by rw [← h]; rfl
  rw [e1,Int.mul_sub] at h1
  rw [e2,Int.mul_sub] at h2
  omega
theorem rows_atV (n0:0 < n) (lw:way.length=worths.length) (lt:∀ r∈way,r < beds.length) (hc:ClosedV beds worths way n lv) (h:IsRows beds way (costL true worths way lv n) rows) {p:Nat} (hp:p < worths.length):rows.getD (way.getD p 0) 0=costF true worths way lv n p:=by
  have hp':p < way.length:=by omega
  have hm:way.getD p 0∈way:=mem_at hp'
  generalize hr0:way.getD p 0=r at *
  have hr2:r < rows.length:=by rw [h.1]; exact lt _ hm
  have h2:=h.2 r (rows[r]'hr2) (List.getElem?_eq_getElem hr2)
  unfold IsRoom at h2
  rw [if_pos hm] at h2
  have hi:way.idxOf r < way.length:=List.idxOf_lt_length_iff.mpr hm
  have hg:way.getD (way.idxOf r) 0=r:=by rw [getD_get _ _ hi]; exact List.getElem_idxOf hi
  rw [getD_get _ _ hr2,h2]
  have hi2:way.idxOf r < worths.length:=by omega
  have lc:(costL true worths way lv n).length=worths.length:=by simp [costL]
  rw [getD_get _ _ (by rw [lc]; exact hi2)]
  have e2:∀ (k:Nat) (hk:k < (costL true worths way lv n).length),(costL true worths way lv n)[k]=costF true worths way lv n k:=fun k hk=>by simp [costL]
  rw [e2]
  exact cost_sameV n0 hc hi2 hp (by rw [hg,hr0])
theorem rows_emptyV {cs:List Int} (h:IsRows beds way cs rows) {r:Nat} (hr:r < beds.length) (hw:r ∉ way):IsLeast (rows.getD r 0) cs:=by
  have hr2:r < rows.length:=by rw [h.1]; exact hr
  have h2:=h.2 r (rows[r]'hr2) (List.getElem?_eq_getElem hr2)
  unfold IsRoom at h2
  rw [if_neg hw] at h2
  rw [getD_get _ _ hr2]
  exact h2
theorem costV_mem {c:Int} (h:c∈costL true worths way lv n):∃ p,p < worths.length∧c=costF true worths way lv n p:=by
  obtain ⟨p,hp,rfl⟩:=List.mem_map.mp h
  exact ⟨p,List.mem_range.mp hp,rfl⟩
theorem mem_costV {p:Nat} (h:p < worths.length):costF true worths way lv n p∈costL true worths way lv n:=List.mem_map.mpr ⟨p,List.mem_range.mpr h,rfl⟩
theorem sum_costV (lw:way.length=worths.length) (lv_l:lv.length=worths.length) (hs:lv.sum=n * (wsum (wF worths) way - rent)):(costL true worths way lv n).sum=n * rent:=by
  have h2:((List.range worths.length).map fun i=>lv.getD i 0)=lv:=by rw [← lv_l]; exact range_getD _
  unfold costL
  have e:((List.range worths.length).map (costF true worths way lv n))=(List.range worths.length).map fun i=>n * ownF worths way i - lv.getD i 0:=List.map_congr_left fun i _=>by simp [costF]
  rw [e,sum_lin2,h2,hs]
  have ew:((List.range worths.length).map (ownF worths way)).sum=wsum (wF worths) way:=by
    unfold wsum
    rw [lw]
    rfl
  rw [ew,← Int.mul_sub]
  congr 1
  omega
theorem fairV (n0:0 < n) (ok:AimOk beds worths way) (hfit:Fit (bF beds) way) (hopt:Opt beds worths way) (hb1:∀ b∈beds,1≤b) (hc:ClosedV beds worths way n lv) (lv_l:lv.length=worths.length) (hs:lv.sum=n * (wsum (wF worths) way - rent)) (h:IsRows beds way (costL true worths way lv n) rows) {d k:Int} {R:List Int} (low:Low n rows d k R):Fp.is ⟨beds,worths,rent,way,k,R⟩ .none:=by
  have lw:=ok.len
  have d0:=low.d0
  have hat:∀ {p:Nat},p < worths.length→rows.getD (way.getD p 0) 0=costF true worths way lv n p:=fun hp=>rows_atV n0 lw ok.lt hc h hp
  refine ⟨?_,fun i r hi hr he=>?_,fun r q hr hq hd=>?_⟩
  · show (way.map fun r=>R.getD r 0).sum=k * rent
    have h1:(way.map fun r=>rows.getD r 0).sum=n * rent:=by
      rw [← sum_costV (rent:=rent) lw lv_l hs]
      congr 1
      refine List.ext_getElem (by simp [costL,lw]) fun p a b=>?_
      have hp:p < way.length:=by simpa using a
      have e:=hat (p:=p) (by omega)
      rw [getD_get _ _ hp] at e
      simp only [List.getElem_map,costL,List.getElem_range]
      exact e
    rw [low.sum,low.n_,Int.mul_assoc] at h1
    exact Int.eq_of_mul_eq_mul_left (by omega) h1
  · have hi':i < worths.length:=hi
    have hr':r < beds.length:=hr
    have h1:n * wF worths i r - rows.getD r 0≤n * wF worths i (way.getD i 0) - rows.getD (way.getD i 0) 0:=by
      rw [hat hi']
      by_cases hw:r∈way
      · obtain ⟨c,hc1,hc2⟩:=lies hw
        have e:=hat (p:=c) (by omega)
        rw [hc2] at e
        rw [e]
        refine no_ratherV n0 hc hi' (c:=c) (r:=r) (by omega) (.inl hc2.symm) fun z=>?_
        subst z
        rw [← hc2]
        exact Int.le_refl _
      · obtain ⟨h1,h2⟩:=rows_emptyV h hr' hw
        obtain ⟨c,hc1,hc2⟩:=costV_mem h1
        have ho:way.count r < bF beds r:=by
          rw [List.count_eq_zero.mpr hw]
          have:=hb1 (beds[r]) (List.getElem_mem hr')
          unfold bF
          rw [getD_get _ _ hr']
          omega
        rw [hc2]
        exact no_ratherV n0 hc hi' (c:=c) (r:=r) hc1 (.inr (open_mem hr' ho)) fun _=>open_own ok hfit hopt hi' hr' ho
    have he':k * wF worths i (way.getD i 0) - R.getD (way.getD i 0) 0 < k * wF worths i r - R.getD r 0:=he
    have h2:=Int.mul_lt_mul_of_pos_left he' d0
    rw [low.at_,low.at_,low.n_,Int.mul_assoc,Int.mul_assoc,← Int.mul_sub,← Int.mul_sub] at h1
    omega
  · obtain ⟨h1,h2,h3⟩:=hd
    have hqw:q∈way:=List.count_pos_iff.mp h2
    have hr':r < beds.length:=hr
    have h4:rows.getD r 0≤rows.getD q 0:=by
      obtain ⟨c,hc1,hc2⟩:=lies hqw
      have e:=hat (p:=c) (by omega)
      rw [hc2] at e
      rw [e]
      by_cases hw:r∈way
      · obtain ⟨b,hb1,hb2⟩:=lies hw
        have e2:=hat (p:=b) (by omega)
        rw [hb2] at e2
        rw [e2]
        refine open_cheapV n0 hc (by omega) (by omega) ?_
        rw [hb2]
        exact open_mem hr' h1
      · exact (rows_emptyV h hr' hw).2 _ (mem_costV (by omega))
    have h5:R.getD q 0 < R.getD r 0:=h3
    have h6:=Int.mul_lt_mul_of_pos_left h5 d0
    rw [low.at_,low.at_] at h4
    omega
end
section
variable {n:Nat} {g h:Nat→Int} {W:Int} {od:List Nat}
end
end L2
namespace L2
open PySem PySem.Spec PyProof.Rows BW
section
variable {n:Nat} {g h:Nat→Int} {W:Int} {S:List Nat}
theorem sum_add2 (f e:Nat→Int):∀ l:List Nat,(l.map fun i=>f i + e i).sum=(l.map f).sum + (l.map e).sum
  | []=>rfl
  | a :: l=>by
    simp only [List.map_cons,List.sum_cons,sum_add2 f e l]
    omega
theorem sum_mulL (c:Int) (f:Nat→Int):∀ l:List Nat,(l.map fun i=>c * f i).sum=c * (l.map f).sum
  | []=>by simp
  | a :: l=>by
    simp only [List.map_cons,List.sum_cons,sum_mulL c f l,Int.mul_add]
end
end L2
namespace BW
open L2
section
variable {hs:List Hop} {gn:Hop→Int} {n:Nat}
end
end BW
namespace L2
open PySem PySem.Spec PyProof.Rows BW
end L2
namespace L2
open PySem PySem.Spec PyProof.Rows
section
variable {X:Cx} {pins:List (Addr × Obj)} {σ:St} {H:Hp} {s:Shared}
variable {kf:Int→Int} {ns kz:List Int} {vs:List Value} {D kS l q:Addr} {keys:Array Value} {e e1:Nat} {A:Around} {E:Value→Shared→Prop} {P:PySem.Fin→Shared→Prop}
end
end L2
namespace L2
open PySem PySem.Spec PyProof.Rows BW
section
variable {X:Cx} {c P:Addr} {scope:Scope} {params:Arguments} {body:Expr} {lpos:Pos}
end
end L2
namespace L2
open PySem PySem.Spec PyProof.Rows BW
end L2
namespace L2
open PySem PySem.Spec PyProof.Rows BW
theorem thru_ltW {beds:List Int} {worths:List (List Int)} {way:List Nat} (ok:AimOk beds worths way) {a b r:Nat} (ha:a < worths.length) (h:(r:Int)∈thruL true beds way a b):r < beds.length:=by
  unfold thruL at h
  rcases List.mem_append.mp h with z | z
  · unfold openL at z
    obtain ⟨q,hq,e⟩:=List.mem_map.mp z
    have:=List.mem_range.mp (List.mem_filter.mp hq).1
    omega
  · have e:(r:Int)=((way.getD a 0:Nat):Int):=by simpa using z
    have:=(ok.at_ ha).2
    omega
section
variable {beds:List Int} {worths:List (List Int)} {way:List Nat} {rent:Int} {ps:List (Option Int)} {hops hops2:List Hop} {st:TC} {st2:THO} {L:List Nat} {h:Nat→Int} {rows:List Int}
end
end L2
namespace L2
open PySem PySem.Spec PyProof.Rows BW
theorem mulK_bd {k x B:Int} (hk:0 < k∧k≤10) (hx:-B≤x∧x≤B):-(10 * B)≤k * x∧k * x≤10 * B:=by
  have hB:0≤B:=by omega
  have h1:=Int.mul_le_mul_of_nonneg_left hx.2 (Int.le_of_lt hk.1)
  have h2:=Int.mul_le_mul_of_nonneg_left hx.1 (Int.le_of_lt hk.1)
  have h3:=Int.mul_le_mul_of_nonneg_right hk.2 hB
  rw [Int.mul_neg] at h2
  omega
end L2
namespace L2
open PySem PySem.Spec PyProof.Rows BW
theorem stN {i:Nat} {x:V} {σ σ':St} {H:Hp} {k:St→Hp→Prop} (e:σ.set i (some x)=σ') (h:k σ' H):gName i x σ H k:=by
  subst e
  exact h
end L2
namespace L2
open PySem PySem.Spec PyProof.Rows BW
section
variable {beds:List Int} {worths:List (List Int)} {way:List Nat} {rent k:Int} {R:List Int} {ps:List (Option Int)} {rows:List (Option Int × List IHop)} {as:List Int}
end
end L2
namespace L2
open PySem PySem.Spec PyProof.Rows BW
end L2
namespace L2
open PySem PySem.Spec PyProof.Rows BW
end L2
namespace L2
open PySem PySem.Spec PyProof.Rows BW
theorem fair_mix {beds:List Int} {worths:List (List Int)} {rent:Int} {way:List Nat} {k1 k2 a b:Int} {R1 R2 R:List Int} (f:Fp.is ⟨beds,worths,rent,way,k1,R1⟩ .none) (g:Fp.is ⟨beds,worths,rent,way,k2,R2⟩ .none) (ha:0≤a) (hb:0≤b) (hR:∀ r,R.getD r 0=a * R1.getD r 0 + b * R2.getD r 0):Fp.is ⟨beds,worths,rent,way,a * k1 + b * k2,R⟩ .none:=by
  obtain ⟨f1,f2,f3⟩:=f
  obtain ⟨g1,g2,g3⟩:=g
  have f1':(way.map fun r=>R1.getD r 0).sum=k1 * rent:=f1
  have g1':(way.map fun r=>R2.getD r 0).sum=k2 * rent:=g1
  refine ⟨?_,fun i r hi hr he=>?_,fun r q hr hq hd=>?_⟩
  · show (way.map fun r=>R.getD r 0).sum=(a * k1 + b * k2) * rent
    have e:(way.map fun r=>R.getD r 0)=way.map fun r=>a * R1.getD r 0 + b * R2.getD r 0:=List.map_congr_left fun r _=>hR r
    rw [e,sum_add2 (fun r=>a * R1.getD r 0) (fun r=>b * R2.getD r 0),sum_mulL,sum_mulL,f1',g1',Int.add_mul,Int.mul_assoc,Int.mul_assoc]
  · have h1:¬ (k1 * wF worths i (way.getD i 0) - R1.getD (way.getD i 0) 0 < k1 * wF worths i r - R1.getD r 0):=f2 i r hi hr
    have h2:¬ (k2 * wF worths i (way.getD i 0) - R2.getD (way.getD i 0) 0 < k2 * wF worths i r - R2.getD r 0):=g2 i r hi hr
    have he':(a * k1 + b * k2) * wF worths i (way.getD i 0) - R.getD (way.getD i 0) 0 < (a * k1 + b * k2) * wF worths i r - R.getD r 0:=he
    have h3:=Int.mul_le_mul_of_nonneg_left (Int.not_lt.mp h1) ha
    have h4:=Int.mul_le_mul_of_nonneg_left (Int.not_lt.mp h2) hb
    rw [hR,hR,Int.add_mul,Int.add_mul,Int.mul_assoc,Int.mul_assoc,Int.mul_assoc,Int.mul_assoc] at he'
    rw [Int.mul_sub,Int.mul_sub] at h3 h4
    omega
  · have h1:¬ (way.count r < bF beds r∧0 < way.count q∧R1.getD q 0 < R1.getD r 0):=f3 r q hr hq
    have h2:¬ (way.count r < bF beds r∧0 < way.count q∧R2.getD q 0 < R2.getD r 0):=g3 r q hr hq
    obtain ⟨d1,d2,d3⟩:=hd
    have d3':R.getD q 0 < R.getD r 0:=d3
    have h3:=Int.mul_le_mul_of_nonneg_left (Int.not_lt.mp fun z=>h1 ⟨d1,d2,z⟩) ha
    have h4:=Int.mul_le_mul_of_nonneg_left (Int.not_lt.mp fun z=>h2 ⟨d1,d2,z⟩) hb
    rw [hR,hR] at d3'
    omega
theorem DivR.R_bd {wo:Bool} {beds:List Int} {worths:List (List Int)} {rent d k:Int} {way:List Nat} {hops:List Hop} {st:TC} {rows R:List Int} (g:DivR wo beds worths rent way hops st rows) (ok:AimOk beds worths way) (fit:Fit (bF beds) way) (opt:Opt beds worths way) (hb1:∀ b∈beds,1≤b) (l0:0 < worths.length) (low:Low worths.length rows d k R) (hx:∀ row∈worths,∀ x∈row,-(10 ^ 42) < x∧x < 10 ^ 42) (hre:-(10 ^ 42) < rent∧rent < 10 ^ 42) (cb:∀ c∈st.2,c.length≤5000) (r:Nat):-(10 ^ 60) < R.getD r 0∧R.getD r 0 < 10 ^ 60:=by
  have lw:=ok.len
  have lwo:=ok.bok.w1
  have kb:=lowk_bd low (by omega) (by omega)
  have h1:∀ p,p < worths.length→-(10 ^ 60) < R.getD (way.getD p 0) 0∧R.getD (way.getD p 0) 0 < 10 ^ 60:=fun p hp=>by
    have h2:=g.lev_bd ok low hx hre cb hp
    have h3:=own_bd hx way p
    have h4:=mulK_bd (x:=ownF worths way p) (B:=10 ^ 42) kb ⟨by omega,by omega⟩
    cases wo with
    | true =>
      have e:levF true worths way k R p=k * ownF worths way p - R.getD (way.getD p 0) 0:=by simp [levF]
      rw [e] at h2
      omega
    | false =>
      have e:levF false worths way k R p=R.getD (way.getD p 0) 0:=by simp [levF]
      rw [e] at h2
      omega
  by_cases hr:r < beds.length
  · by_cases hw:r∈way
    · obtain ⟨c,c1,c2⟩:=lies hw
      have:=h1 c (by omega)
      rw [c2] at this
      exact this
    · obtain ⟨⟨p,p1,p2⟩,_⟩:=(g.best ok fit opt hb1 l0).empty r hr hw
      obtain ⟨c,c1,c2⟩:=lies p1
      have h3:=h1 c (by omega)
      rw [c2] at h3
      rw [low.at_,low.at_] at p2
      rw [Int.eq_of_mul_eq_mul_left (by have:=low.d0; omega) p2]
      exact h3
  · rw [List.getD_eq_getElem?_getD,List.getElem?_eq_none (by rw [low.len,g.isr.1]; omega)]
    exact ⟨by decide,by decide⟩
theorem mulN_bd {k x B:Int} (hk:0≤k∧k≤10) (hx:-B≤x∧x≤B):-(10 * B)≤k * x∧k * x≤10 * B:=by
  have hB:0≤B:=by omega
  have h1:=Int.mul_le_mul_of_nonneg_left hx.2 hk.1
  have h2:=Int.mul_le_mul_of_nonneg_left hx.1 hk.1
  have h3:=Int.mul_le_mul_of_nonneg_right hk.2 hB
  rw [Int.mul_neg] at h2
  omega
theorem mulA_bd {k x A B:Int} (hk:0≤k∧k≤A) (hx:-B≤x∧x≤B):-(A * B)≤k * x∧k * x≤A * B:=by
  have hB:0≤B:=by omega
  have h1:=Int.mul_le_mul_of_nonneg_left hx.2 hk.1
  have h2:=Int.mul_le_mul_of_nonneg_left hx.1 hk.1
  have h3:=Int.mul_le_mul_of_nonneg_right hk.2 hB
  rw [Int.mul_neg] at h2
  omega
end L2
namespace L2
open PySem PySem.Spec PyProof.Rows
section
variable {κ:Type} [DecidableEq κ]
def valV (kvs:List (κ × V)) (k:κ):Option V:=(kvs.find? fun kv=>decide (kv.1=k)).map (·.2)
def putK (kvs:List (κ × V)) (k:κ) (v:V):List (κ × V) :=
  if (kvs.any fun kv=>decide (kv.1=k))=true then kvs.map (fun kv=>if kv.1=k then (kv.1,v) else kv) else kvs ++ [(k,v)]
theorem valV_pos {p:κ × V} {r:List (κ × V)} {k:κ} (e:p.1=k):valV (p :: r) k=some p.2:=by simp [valV,List.find?_cons,e]
theorem valV_neg {p:κ × V} {r:List (κ × V)} {k:κ} (e:¬ p.1=k):valV (p :: r) k=valV r k:=by simp [valV,List.find?_cons,e]
theorem valV_any (k:κ):∀ kvs:List (κ × V),(kvs.any fun kv=>decide (kv.1=k))=(valV kvs k).isSome
  | []=>rfl
  | p :: r=>by
    rw [List.any_cons]
    by_cases e:p.1=k
    · simp only [valV_pos e,decide_eq_true e,Bool.true_or,Option.isSome_some]
    · rw [valV_neg e,decide_eq_false e,Bool.false_or]; exact valV_any k r
theorem valV_map (k j:κ) (y:V):∀ kvs:List (κ × V),valV (kvs.map fun kv=>if kv.1=k then (kv.1,y) else kv) j=(valV kvs j).map fun x=>if j=k then y else x
  | []=>rfl
  | p :: r=>by
    have ih:=valV_map k j y r
    rw [List.map_cons]
    by_cases h:p.1=k
    · rw [if_pos h]
      by_cases e:p.1=j
      · rw [valV_pos (p:=(p.1,y)) e,valV_pos e,Option.map_some,if_pos (e.symm.trans h)]
      · rw [valV_neg (p:=(p.1,y)) e,valV_neg e,ih]
    · rw [if_neg h]
      by_cases e:p.1=j
      · rw [valV_pos (p:=p) e,valV_pos e,Option.map_some,if_neg (fun z=>h (e.trans z))]
      · rw [valV_neg (p:=p) e,valV_neg e,ih]
theorem valV_snoc (k j:κ) (y:V):∀ kvs:List (κ × V),valV kvs k=none→valV (kvs ++ [(k,y)]) j=if j=k then some y else valV kvs j
  | [],_=>by
    by_cases e:k=j
    · rw [if_pos e.symm]; exact valV_pos (p:=(k,y)) e
    · rw [if_neg (fun z=>e z.symm)]; exact valV_neg (p:=(k,y)) e
  | p :: r,hn=>by
    rw [List.cons_append]
    have hk:¬ p.1=k:=fun z=>by rw [valV_pos z] at hn; cases hn
    rw [valV_neg hk] at hn
    have ih:=valV_snoc k j y r hn
    by_cases e:p.1=j
    · rw [valV_pos e,valV_pos e,if_neg (fun z=>hk (e.trans z))]
    · rw [valV_neg e,valV_neg e,ih]
theorem valV_put (kvs:List (κ × V)) (k j:κ) (y:V):valV (putK kvs k y) j=if j=k then some y else valV kvs j:=by
  unfold putK
  by_cases a:(kvs.any fun kv=>decide (kv.1=k))=true
  · rw [if_pos a,valV_map]
    rw [valV_any] at a
    by_cases e:j=k
    · obtain ⟨x,hx⟩:=Option.isSome_iff_exists.mp a
      rw [if_pos e,e,hx,Option.map_some,if_pos rfl]
    · rw [if_neg e]
      cases valV kvs j with
      | none=>rfl
      | some x=>rw [Option.map_some,if_neg e]
  · rw [if_neg a]
    refine valV_snoc k j y kvs ?_
    rw [valV_any] at a
    cases q:valV kvs k with
    | none=>rfl
    | some x=>rw [q] at a; exact (a rfl).elim
theorem length_putK (kvs:List (κ × V)) (k:κ) (v:V):(putK kvs k v).length≤kvs.length + 1:=by
  unfold putK
  split
  · rw [List.length_map]; omega
  · rw [List.length_append,List.length_cons,List.length_nil]; omega
theorem RelO.isSome_eq {o:Option V} {u:Option Value} (r:RelO o u):o.isSome=u.isSome:=by
  cases o with
  | none=>cases u with
    | none=>rfl
    | some _=>exact (show False from r).elim
  | some _=>cases u with
    | none=>exact (show False from r).elim
    | some _=>rfl
theorem RelO.getD {o:Option V} {u:Option Value} {d:V} {d':Value} (r:RelO o u) (rd:RelV d d'):RelV (o.getD d) (u.getD d'):=by
  cases o with
  | none=>cases u with
    | none=>exact rd
    | some _=>exact (show False from r).elim
  | some _=>cases u with
    | none=>exact (show False from r).elim
    | some _=>exact r
theorem KV.val {kvs:List (κ × V)} {vs:List (κ × Value)} (r:KV kvs vs) (k:κ):RelO (valV kvs k) (valueAt vs k):=by
  unfold KV at r
  induction r with
  | nil=>exact True.intro
  | @cons p q ps qs h t ih =>
    obtain ⟨h1,h2⟩:=h
    by_cases e:p.1=k
    · have e':q.1=k:=h1.symm.trans e
      have b:valueAt (q :: qs) k=some q.2:=by simp [valueAt,List.find?_cons,e']
      rw [valV_pos e,b]; exact h2
    · have e':¬ q.1=k:=fun z=>e (h1.trans z)
      have b:valueAt (q :: qs) k=valueAt qs k:=by simp [valueAt,List.find?_cons,e']
      rw [valV_neg e,b]; exact ih
theorem KV.any {kvs:List (κ × V)} {vs:List (κ × Value)} (r:KV kvs vs) (k:κ):(kvs.any fun kv=>decide (kv.1=k))=vs.any fun kv=>decide (kv.1=k):=by
  unfold KV at r
  induction r with
  | nil=>rfl
  | cons h t ih=>rw [List.any_cons,List.any_cons,ih,h.1]
theorem KV.repl {kvs:List (κ × V)} {vs:List (κ × Value)} (r:KV kvs vs) (k:κ) {y:V} {u:Value} (ry:RelV y u) :
    KV (kvs.map fun kv=>if kv.1=k then (kv.1,y) else kv) (vs.map fun kv=>if kv.1=k then (kv.1,u) else kv):=by
  unfold KV at r ⊢
  induction r with
  | nil=>exact .nil
  | @cons p q ps qs h t ih =>
    rw [List.map_cons,List.map_cons]
    refine .cons ?_ ih
    obtain ⟨h1,h2⟩:=h
    by_cases e:p.1=k
    · rw [if_pos e,if_pos (h1.symm.trans e)]; exact ⟨h1,ry⟩
    · rw [if_neg e,if_neg (fun z=>e (h1.trans z))]; exact ⟨h1,h2⟩
theorem KV.put {kvs:List (κ × V)} {vs:List (κ × Value)} (r:KV kvs vs) (k:κ) {y:V} {u:Value} (ry:RelV y u):KV (putK kvs k y) (stored vs k u):=by
  unfold putK stored
  rw [r.any k]
  by_cases e:(vs.any fun kv=>decide (kv.1=k))=true
  · rw [if_pos e,if_pos e]; exact r.repl k ry
  · rw [if_neg e,if_neg e]; exact Paired.snoc r ⟨rfl,ry⟩
theorem KV.length {kvs:List (κ × V)} {vs:List (κ × Value)} (r:KV kvs vs):kvs.length=vs.length:=Paired.length r
end
theorem kV_is {P:Program} {w:World} {k:Key} {u:Value} (r:RelV (kV k) u):(mixKind P w).is k u=true:=by
  cases k with
  | inl i=>obtain ⟨t,e⟩:=(show ∃ t,u=Value.int i t from r); subst e; exact mixKind_int P w i t
  | inr x=>obtain ⟨t,e⟩:=(show ∃ t,u=Value.str x t from r); subst e; exact mixKind_str P w x t
theorem items_are {P:Program} {w:World}:∀ {ks:List Key} {us:List Value},Vals (ks.map kV) us→ItemsAre (mixKind P w) ks us
  | [],_,r=>by rw [List.map_nil] at r; cases r; exact .nil
  | k :: ks,_,r=>by
    rw [List.map_cons] at r
    cases r with
    | cons h t=>exact .cons (kV_is h) (items_are t)
abbrev KT (H:Hp):List (List Key × V)→List (List Key × Addr × Value)→Prop:=Paired fun p q=>p.1=q.1∧H q.2.1=some (.tup (p.1.map kV))∧RelV p.2 q.2.2
theorem KT.val {H:Hp} {kvs:List (List Key × V)} {xs:List (List Key × Addr × Value)} (r:KT H kvs xs) (k:List Key):RelO (valV kvs k) ((atKey xs k).map (·.2)):=by
  induction r with
  | nil=>exact True.intro
  | @cons p q ps qs h t ih =>
    obtain ⟨h1,_,h2⟩:=h
    by_cases e:p.1=k
    · have e':q.1=k:=h1.symm.trans e
      have b:atKey (q :: qs) k=some q.2:=by simp [atKey,List.find?_cons,e']
      rw [valV_pos e,b]; exact h2
    · have e':¬ q.1=k:=fun z=>e (h1.trans z)
      have b:atKey (q :: qs) k=atKey qs k:=by simp [atKey,List.find?_cons,e']
      rw [valV_neg e,b]; exact ih
theorem KT.repl {H:Hp} {kvs:List (List Key × V)} {xs:List (List Key × Addr × Value)} (r:KT H kvs xs) (k:List Key) {y:V} {u:Value} (ry:RelV y u) :
    KT H (kvs.map fun kv=>if kv.1=k then (kv.1,y) else kv) (xs.map (putAt k u)):=by
  induction r with
  | nil=>exact .nil
  | @cons p q ps qs h t ih =>
    rw [List.map_cons,List.map_cons]
    refine .cons ?_ ih
    obtain ⟨h1,h2,h3⟩:=h
    unfold putAt
    by_cases e:p.1=k
    · rw [if_pos e,if_pos (h1.symm.trans e)]; exact ⟨h1,h2,ry⟩
    · rw [if_neg e,if_neg (fun z=>e (h1.trans z))]; exact ⟨h1,h2,h3⟩
theorem KT.put {H:Hp} {kvs:List (List Key × V)} {xs:List (List Key × Addr × Value)} (r:KT H kvs xs) (k:List Key) {b:Addr} {y:V} {u:Value} (hb:H b=some (.tup (k.map kV))) (ry:RelV y u) :
    KT H (putK kvs k y) (storedH xs k b u):=by
  have e:(kvs.any fun kv=>decide (kv.1=k))=(atKey xs k).isSome:=by
    rw [valV_any,(r.val k).isSome_eq,Option.isSome_map]
  unfold putK storedH
  rw [e]
  by_cases q:(atKey xs k).isSome=true
  · rw [if_pos q,if_pos q]; exact r.repl k ry
  · rw [if_neg q,if_neg q]; exact Paired.snoc r ⟨rfl,hb,ry⟩
theorem KT.keeps {H H':Hp} {kvs:List (List Key × V)} {xs:List (List Key × Addr × Value)} (r:KT H kvs xs) (ht:∀ b ys,H b=some (.tup ys)→H' b=some (.tup ys)):KT H' kvs xs :=
  Paired.mapP r fun _ _ z=>⟨z.1,ht _ _ z.2.1,z.2.2⟩
section
variable {P:Program} {w:World} {H:Hp} {h:Heap} {a:Addr}
theorem rd_of {u:HO} (ok:HOk P w H h) (e:Rd H a u):ObjOk P w H h a u:=e.ok ok
theorem dk_rd {kvs:List (Key × V)} (ok:HOk P w H h) (e:Rd H a (.dK kvs)):kvs.length≤sizeLine∧(a == sysModules)=false∧∃ vs,KV kvs vs∧h.DictOf (mixKind P w) a vs :=
  show ObjOk P w H h a (.dK kvs) from rd_of ok e
theorem dk_of {kvs:List (Key × V)} (ok:HOk P w H h) (e:H a=some (.dK kvs)):kvs.length≤sizeLine∧(a == sysModules)=false∧∃ vs,KV kvs vs∧h.DictOf (mixKind P w) a vs:=dk_rd ok (.inl e)
theorem key_of {ks:List Key} (ok:HOk P w H h) (e:H a=some (.tup (ks.map kV))):(tupleKind (mixKind P w)).is h ks a:=by
  obtain ⟨_,its,r,o,h1,h2,n,h3⟩:=(show ObjOk P w H h a (.tup (ks.map kV)) from ok a _ e)
  exact ⟨o,its.toArray,n,h1,h2,h3,by simpa using items_are r⟩
theorem dt_rd {kvs:List (List Key × V)} (ok:HOk P w H h) (e:Rd H a (.dT kvs)):kvs.length≤sizeLine∧(a == sysModules)=false ∧
    ∃ xs,KT H kvs xs∧h.DictOfH (tupleKind (mixKind P w)) a xs:=by
  obtain ⟨z,y,xs,r,o,es,ep,h1,h2,h3,h4,h5⟩:=(show ObjOk P w H h a (.dT kvs) from rd_of ok e)
  refine ⟨z,y,xs,r,o,es,ep,h1,h2,h3,h4,fun x hx=>?_,h5⟩
  have all:∀ {l:List (List Key × V)} {m:List (List Key × Addr × Value)},KT H l m→∀ x∈m,(tupleKind (mixKind P w)).is h x.1 x.2.1:=by
    intro l m q
    induction q with
    | nil=>intro x hx; exact nomatch hx
    | @cons p q ps qs hq t ih =>
      intro x hx
      rcases List.mem_cons.mp hx with e | hx
      · subst e
        exact key_of ok (by rw [← hq.1]; exact hq.2.1)
      · exact ih x hx
  exact all r x hx
theorem dt_of {kvs:List (List Key × V)} (ok:HOk P w H h) (e:H a=some (.dT kvs)):kvs.length≤sizeLine∧(a == sysModules)=false ∧
    ∃ xs,KT H kvs xs∧h.DictOfH (tupleKind (mixKind P w)) a xs:=dt_rd ok (.inl e)
end
def DGet (H:Hp) (a:Addr) (y:V) (r:Option V):Prop :=
  (∃ kvs k,Rd H a (.dK kvs)∧y=kV k∧r=valV kvs k)∨∃ kvs k b,Rd H a (.dT kvs)∧y=.ref b∧H b=some (.tup (k.map kV))∧r=valV kvs k
def DPut (H:Hp) (a:Addr) (y v:V) (H':Hp):Prop :=
  (∃ kvs k,H a=some (.dK kvs)∧y=kV k∧kvs.length < sizeLine∧H'=upd H a (.dK (putK kvs k v))) ∨
  ∃ kvs k b,H a=some (.dT kvs)∧y=.ref b∧H b=some (.tup (k.map kV))∧kvs.length < sizeLine∧H'=upd H a (.dT (putK kvs k v))
theorem DGet.k {H:Hp} {a:Addr} {kvs:List (Key × V)} {k:Key} (e:H a=some (.dK kvs)):DGet H a (kV k) (valV kvs k):=.inl ⟨kvs,k,.inl e,rfl,rfl⟩
theorem DPut.k {H:Hp} {a:Addr} {kvs:List (Key × V)} {k:Key} {v:V} (e:H a=some (.dK kvs)) (hl:kvs.length < sizeLine):DPut H a (kV k) v (upd H a (.dK (putK kvs k v))):=.inl ⟨kvs,k,e,rfl,hl,rfl⟩
section
variable {X:Cx} {pins:List (Addr × Obj)} {σ:St} {H:Hp} {s:Shared} {a:Addr} {y v:V} {u r:Value} {o:Option V} {A:Around} {E:Value→Shared→Prop}
theorem Inv.big (I:Inv X pins σ H s):sysModules < s.heap.objs.size:=by
  have h:mainGlobals < s.heap.objs.size:=(I.mod.glob.keeps I.bk).lt
  exact Nat.lt_trans (by decide) h
theorem d_write {h':Heap} {t':Nat} {ob:HO} (I:Inv X pins σ H s) (mu:Mut (H a)) (hs:Heap.SameBut a s.heap h') (he:∃ q,h'.get? a=some q) (new:ObjOk X.prog X.w (upd H a ob) h' a ob) :
    Inv X pins σ (upd H a ob) { s with heap:=h',toks:=t' } :=
  I.write (x:=a) (e:=a) mu (.inl rfl) (fun b q hb z=>(hs.2 b hb).trans z) he new
theorem dk_new {P:Program} {w:World} {H':Hp} {h':Heap} {kvs:List (Key × V)} {vs:List (Key × Value)} (z:kvs.length≤sizeLine) (hd:(a == sysModules)=false) (rel:KV kvs vs) (dd:h'.DictOf (mixKind P w) a vs) :
    ObjOk P w H' h' a (.dK kvs):=⟨z,hd,vs,rel,dd⟩
theorem d_setItem {H':Hp} {Q:Unit→Shared→Prop} (hu:A.units + 1 < cLine) (I:Inv X pins σ H s) (g:DPut H a y v H') (ry:RelV y u) (rv:RelV v r) (h:∀ s',Inv X pins σ H' s'→Q () s') :
    wpAny (model X.prog X.w) A (setItem (.ref a) u r) Q E s:=by
  rcases g with ⟨kvs,k,e,ey,l,eH⟩ | ⟨kvs,k,b,e,ey,eb,l,eH⟩
  · subst ey eH
    obtain ⟨z,hd,vs,rel,dd⟩:=dk_of I.hok e
    have hz:vs.length≤sizeLine:=by rw [← rel.length]; exact z
    have hl:(putK kvs k v).length≤sizeLine:=by have:=length_putK kvs k v; omega
    refine wpAny_setItem_pairs (hsz:=hz) (kV_is ry) dd fun h' dd' hs=>h _ ?_
    have he:∃ q,h'.get? a=some q:=let ⟨q,_,_,hq,_⟩:=dd'; ⟨q,hq⟩
    exact d_write I (by rw [e]; exact True.intro) hs he (dk_new hl hd (rel.put k rv) dd')
  · subst ey eH
    cases (show u=Value.ref b from ry)
    obtain ⟨z,hd,xs,rel,dd⟩:=dt_of I.hok e
    have hz:xs.length≤sizeLine:=by rw [← Paired.length rel]; exact z
    have hl:(putK kvs k v).length≤sizeLine:=by have:=length_putK kvs k v; omega
    refine wpAny_setItem_heap (hsz:=hz) (tupleKind_room_in1 hu) (key_of I.hok eb) dd fun h' dd' hs=>h _ ?_
    obtain ⟨q,es,ep,hq,h2,h3,h4,_,h5⟩:=dd'
    refine d_write I (by rw [e]; exact True.intro) hs ⟨q,hq⟩ ⟨hl,hd,_,(rel.put k eb rv).keeps fun c ys ec=>?_,q,es,ep,hq,h2,h3,h4,h5⟩
    rw [upd_ne (ne_of ec e (fun z=>nomatch z))]
    exact ec
end
section
variable {X:Cx} {pins:List (Addr × Obj)} {σ:St} {H:Hp} {s:Shared} {a:Addr} {kvs:List (Key × V)} {k:Key} {u:Value} {A:Around} {E:Value→Shared→Prop}
end
def sDPut (td ty tv:TE):TS:=fun D σ H=>tv σ H fun v H1=>td σ H1 fun x H2=>ty σ H2 fun y H3 => ∃ a H4,x=.ref a∧DPut H3 a y v H4∧D.nx σ H4
section
variable {X:Cx} {o i e value:Expr} {pos pos' tpos:Pos} {td ty tv:TE}
theorem ps_dput (hu:X.A.units + 1 < cLine) (ho:PE X o td) (hi:PE X i ty) (hv:PE X value tv) (hs:swapsWith value (some (.Subscript o i pos')) pos.line X.env=pure false) :
    PS X (.Assign [.Subscript o i pos'] value pos) (sDPut td ty tv):=by
  intro pins s σ H D I h
  refine wpAny_Assign_Subscript (thn (hv pins s σ H _ I h) fun r s1 ⟨v,H1,I1,rv,q1⟩=>thn (ho pins s1 σ H1 _ I1 q1) fun u s2 ⟨x,H2,I2,rx,q2⟩=>thn (hi pins s2 σ H2 _ I2 q2) fun iv s3 ⟨y,H3,I3,ry,a,H4,ex,g,q3⟩=>?_) hs
  subst ex
  obtain rfl:u=Value.ref a:=rx
  exact d_setItem hu I3 g ry rv fun s4 I4=>⟨σ,H4,I4,q3⟩
end
theorem dk_empty {P:Program} {w:World} {H:Hp} (h:Heap) (hb:sysModules < h.objs.size):ObjOk P w H (h.push { cls:=.type "dict",data:=.dict #[] }) h.objs.size (.dK []) :=
  ⟨Nat.zero_le _,beq_eq_false_iff_ne.mpr (Ne.symm (Nat.ne_of_lt hb)),[],.nil,Heap.DictOf.new h⟩
def tDNewK:TE:=fun _ H Q => ∀ p,H p=none→Q (.ref p) (upd H p (.dK []))
section
variable {X:Cx} {pos:Pos}
theorem pe_dnewK:PE X (.Dict [] [] pos) tDNewK:=fun pins s σ H Q I h =>
  wpAny_Dict_empty ⟨.ref s.heap.objs.size,_,I.laid (a:=s.heap.objs.size) (o:=.dK []) (t':=s.toks) (fun _ _ q=>Heap.get?_push_of_some _ q) (Nat.le_refl _) (dk_empty s.heap I.big),rfl,h _ (I.hok.fresh (Nat.le_refl _))⟩
end
structure M2 (X:Cx) (o:Expr) (m:Str) (apos:Pos) (e f:Expr) (cpos:Pos):Prop where
  base:attributeBase o m X.env (eval o X.env)=eval o X.env
  few:((backTo cpos (starEach [e,f] X.env)).all (fun x => !x.1) && (backToKw cpos (keywordEach [] X.env)).all (fun x=>x.1.isSome)
    && decide (([e,f]:List Expr).length + ([]:List Keyword).length + (if ([]:List Keyword).isEmpty then 0 else 1) < 30))=true
  line:(apos.endLine == cpos.line)=true
  trees:backTo cpos (starEach [e,f] X.env)=[(false,eval e X.env),(false,eval f X.env)]
def IsD (H:Hp) (a:Addr):Prop:=(∃ kvs,Rd H a (.dK kvs))∨∃ kvs,Rd H a (.dT kvs)
theorem isD_at {X:Cx} {pins:List (Addr × Obj)} {σ:St} {H:Hp} {s:Shared} {a:Addr} (I:Inv X pins σ H s) (d:IsD H a) :
    s.TypeIs (.ref a) "dict"∧(∀ b,Value.ref a=.ref b→∃ ob,s.heap.get? b=some ob∧ob.dict=none)∧(a == sysModules)=false:=by
  rcases d with ⟨kvs,e⟩ | ⟨kvs,e⟩
  · obtain ⟨_,hd,vs,_,dd⟩:=dk_rd I.hok e
    refine ⟨dd.typeIs,fun b q=>?_,hd⟩
    cases q
    obtain ⟨ob,_,_,h1,h2,_⟩:=dd
    exact ⟨ob,h1,h2.2.1⟩
  · obtain ⟨_,hd,xs,_,dd⟩:=dt_rd I.hok e
    refine ⟨dd.typeIs,fun b q=>?_,hd⟩
    cases q
    obtain ⟨ob,_,_,h1,h2,_⟩:=dd
    exact ⟨ob,h1,h2.2.1⟩
section
variable {X:Cx} {pins:List (Addr × Obj)} {σ:St} {H:Hp} {s:Shared} {a:Addr} {y d:V} {u r:Value} {o:Option V} {A:Around} {E:Value→Shared→Prop}
theorem d_get2 {Q:Value→Shared→Prop} (hu:A.units + 1 < cLine) (I:Inv X pins σ H s) (g:DGet H a y o) (ry:RelV y u) (rd:RelV d r) (h:∀ w' s',Inv X pins σ H s'→RelV (o.getD d) w'→Q w' s') :
    wpAny (model X.prog X.w) A (call (.builtin "dict.get") [.ref a,u,r]) Q E s:=by
  rcases g with ⟨kvs,k,e,ey,l⟩ | ⟨kvs,k,b,e,ey,eb,l⟩
  · subst ey
    obtain ⟨z,hd,vs,rel,dd⟩:=dk_rd I.hok e
    refine call_meetsIn PySem.F.slot_dict_get dd.typeIs PySem.F.entry_dict_get (PySem.F.args_dict_get_3 _ _ _) (meets_dict_get_default (mixKind X.prog X.w) a (kV_is ry) hd r) ⟨_,dd.mapOf,h _ _ (I.tok _) ?_⟩
    rw [l]
    exact (rel.val k).getD rd
  · subst ey
    cases (show u=Value.ref b from ry)
    obtain ⟨z,hd,xs,rel,dd⟩:=dt_rd I.hok e
    refine call_meetsIn PySem.F.slot_dict_get dd.typeIs PySem.F.entry_dict_get (PySem.F.args_dict_get_3 _ _ _) (meetsH_dict_get_default (tupleKind (mixKind X.prog X.w)) a b hd r) ⟨tupleKind_room_in1 hu,k,xs,key_of I.hok eb,dd,h _ _ (I.tok _) ?_⟩
    rw [l]
    exact (rel.val k).getD rd
end
def tDGet2 (td ty tx:TE):TE:=fun σ H Q=>td σ H fun x H1 => ∃ a,x=.ref a∧IsD H1 a∧ty σ H1 fun y H2=>tx σ H2 fun z H3 => ∃ o,DGet H3 a y o∧Q (o.getD z) H3
section
variable {X:Cx} {o e f:Expr} {apos cpos:Pos} {td ty tx:TE}
theorem pe_dget2 (hu:X.A.units + 1 < cLine) (ho:PE X o td) (he:PE X e ty) (hf:PE X f tx) (m:M2 X o "get" apos e f cpos):PE X (.Call (.Attribute o "get" apos) [e,f] [] cpos) (tDGet2 td ty tx):=by
  intro pins s σ H Q I h
  refine wpAny_Call_method m.base m.few m.line PySem.F.plainAttrs_dict PySem.F.slot_dict_get PySem.F.type_dict_get (thn (ho pins s σ H _ I h) fun u s1 ⟨x,H1,I1,rx,a,ex,d,q1⟩=>?_)
  subst ex
  obtain rfl:u=Value.ref a:=rx
  obtain ⟨t1,t2,_⟩:=isD_at I1 d
  refine ⟨t1,t2,?_⟩
  rw [m.trees]
  refine Calls.callWith_builtin rfl (Calls.evalArgs_plain (Calls.spliced_cons (thn (he pins s1 σ H1 _ I1 q1) fun iv s2 ⟨y,H2,I2,ry,q2⟩ =>
    Calls.spliced_cons (thn (hf pins s2 σ H2 _ I2 q2) fun fv s3 ⟨z,H3,I3,rz,ov,g,q3⟩=>Calls.spliced_nil ?_))))
  exact d_get2 hu I3 g ry rz fun w' s4 I4 rw'=>⟨_,H3,I4,rw',q3⟩
end
section
variable {X:Cx} {pins:List (Addr × Obj)} {σ:St} {H:Hp} {s:Shared} {a:Addr} {kvs:List (Key × V)} {A:Around} {E:Value→Shared→Prop}
end
end L2
namespace L2
open PySem PySem.Spec PyProof.Rows
def tMinVals (td:TE):TE:=fun σ H Q=>td σ H fun x H1 => ∃ (a:Addr) (kvs:List (Key × V)) (ns:List Int),x=.ref a∧H1 a=some (.dK kvs)∧kvs.map (·.2)=ns.map V.int∧0 < ns.length∧∀ z∈ns,(∀ z'∈ns,z≤z')→Q (.int z) H1
theorem kv_get {κ:Type}:∀ {kvs:List (κ × V)} {vs:List (κ × Value)},KV kvs vs→∀ {i:Nat} {p:κ × V},kvs[i]? = some p→∃ q,vs[i]? = some q∧RelV p.2 q.2
  | _,_,.nil,i,p,e=>by simp at e
  | _,_,.cons (a:=x) (b:=y) h r,i,p,e=>by
    cases i with
    | zero =>
      have:x=p:=by simpa using e
      subst this
      exact ⟨y,rfl,h.2⟩
    | succ i=>exact kv_get r (i:=i) (by simpa using e)
theorem pe_minVals {X:Cx} {o:Expr} {td:TE} {p pos apos cpos:Pos} (hc:X.calm=true) (hg:Gl X "min") (hm:X.mg "min" = none) (ho:PE X o td)
    (hbase:attributeBase o "values" X.env (eval o X.env)=eval o X.env:=by rfl) (hline:(apos.endLine == cpos.line)=true:=by rfl)
    (he:starEach [.Call (.Attribute o "values" apos) [] [] cpos] X.env=(false,eval (.Call (.Attribute o "values" apos) [] [] cpos) X.env) :: starEach [] X.env:=by rfl) :
    PE X (.Call (.Name "min" p) [.Call (.Attribute o "values" apos) [] [] cpos] [] pos) (tMinVals td):=by
  intro pins s σ H Q I h
  refine wpAny_Call_Name_kw (ld_blt I hg hm boot_min' ?_ (by decide) (by decide))
  refine PyProof.Rows.callWith_builtin1 ?_ he rfl
  show wpAny _ _ (spliced ((false,eval _ X.env) :: backTo pos (starEach [] X.env))) _ _ s
  refine Calls.spliced_cons ?_
  refine wpAny_Call_method0_late hbase hline (thn (ho pins s σ H _ I h) fun v s1 ⟨x,H1,I1,r1,a,kvs,ns,ex,hd,hk,hn,q⟩=>?_)
  subst ex
  obtain rfl:v=Value.ref a:=r1
  obtain ⟨z,hsm,vs,rel,dd⟩:=dk_of I1.hok hd
  obtain ⟨t1,t2,_⟩:=isD_at I1 (.inl ⟨kvs,.inl hd⟩)
  refine ⟨"dict","dict.values",PySem.F.plainAttrs_dict,PySem.F.slot_dict_values,PySem.F.type_dict_values,t1,t2,Calls.callWith_builtin rfl (PySem.evalArgs_none ?_)⟩
  refine call_meetsIn PySem.F.slot_dict_values t1 PySem.F.entry_dict_values (PySem.F.args_dict_values_1 _) (meets_dict_values (mixKind X.prog X.w) a hsm) ⟨⟨_,dd⟩,?_⟩
  have I2:Inv X pins σ H1 { s1 with heap:=s1.heap.push { cls:=.type "dict_values",data:=.fields #[.ref a] } }:=I1.kept (t':=s1.toks) fun b u e=>Heap.get?_push_of_some _ e
  have ha:a < s1.heap.objs.size:=by
    obtain ⟨o,es,ep,e1,_⟩:=dd
    exact Heap.lt_size e1
  have lvs:vs.length=ns.length:=by
    have h1:=rel.length
    have h2:=congrArg List.length hk
    rw [List.length_map,List.length_map] at h2
    omega
  have hval:∀ (i:Nat) v,(∃ k,vs[i]? = some (k,v))→∃ t,v=.int (ns.getD i 0) t:=fun i v ⟨k,hv⟩=>by
    have hi:i < vs.length:=(List.getElem?_eq_some_iff.mp hv).1
    have hik:i < kvs.length:=by have:=rel.length; omega
    obtain ⟨u,h1,h2⟩:=kv_get rel (i:=i) (p:=kvs[i]) (by simp [hik])
    rw [hv] at h1
    have e1:u=(k,v):=(Option.some.inj h1).symm
    subst e1
    have e2:(kvs.map (·.2))[i]? = (ns.map V.int)[i]?:=by rw [hk]
    have hin:i < ns.length:=by omega
    have e3:kvs[i].2=V.int ns[i]:=by simpa [hik,hin] using e2
    obtain ⟨t,e4⟩:∃ t,v=.int ns[i] t:=by
      rw [e3] at h2
      exact h2
    exact ⟨t,by rw [e4]; simp [List.getD,hin]⟩
  obtain ⟨ob,es,ep,e1,e2,e3,e4,e5,e6⟩:=dd
  have hhd:X.A.in1.handled=none:=I1.ok.hd hc
  have ha2:a < (s1.heap.push { cls:=.type "dict_values",data:=.fields #[.ref a] }).objs.size:=by rw [Heap.size_push]; exact Nat.lt_succ_of_lt ha
  show wpAny _ _ (spliced (backTo pos (starEach [] X.env))) _ _ _
  refine Calls.spliced_nil ?_
  refine call_min_walkS (wpAny_pyIter_values (knd:=mixKind X.prog X.w) (kvs:=vs) (ep:=ep) ⟨_,Heap.get?_push_size _ rfl,rfl,rfl⟩ ⟨ob,es,Heap.get?_push_of_some _ e1,e2,e3,e4,e5,e6⟩ ?_)
  refine ⟨_,_,_,_,vs.length,_,_,_,rfl,(Walks.dictValues hhd _ a (Nat.ne_of_lt ha2) vs ep).toS,⟨⟨_,Heap.get?_push_size _ rfl,rfl,rfl⟩,⟨ob,es,Heap.get?_push_of_some _ (Heap.get?_push_of_some _ e1),e2,e3,e4,e5,e6⟩⟩,?_,by rw [lvs]; exact hn,CmpOf.ints_lt (fun i=>ns.getD i 0) hval,?_⟩
  · intro b hb
    rw [Heap.size_push]
    rcases List.mem_cons.mp hb with z | hb
    · rw [z]; exact Nat.lt_succ_self _
    · have z:b=a:=by simpa using hb
      rw [z]; exact Nat.lt_succ_of_lt ha2
  · intro v s' hP m
    obtain ⟨b1,b2⟩:=argBest_lt (fun i=>ns.getD i 0) (vs.length - 1)
    obtain ⟨t,rfl⟩:=hval _ v hP
    rw [lvs] at b1 b2 ⊢
    have hlt:argBest (fun i j=>decide (ns.getD i 0 < ns.getD j 0)) (ns.length - 1) < ns.length:=by omega
    refine ⟨.int _,H1,I2.moved m,⟨t,rfl⟩,q _ ?_ fun z' hz'=>?_⟩
    · have e:ns.getD (argBest (fun i j=>decide (ns.getD i 0 < ns.getD j 0)) (ns.length - 1)) 0=ns[argBest (fun i j=>decide (ns.getD i 0 < ns.getD j 0)) (ns.length - 1)]:=by
        rw [List.getD,List.getElem?_eq_getElem hlt]
        rfl
      rw [e]
      exact List.getElem_mem hlt
    · obtain ⟨i,hi,rfl⟩:=List.mem_iff_getElem.mp hz'
      have:=b2 i (by omega)
      simpa [List.getD,hi] using this
end L2
namespace L2
open PySem PySem.Spec PyProof.Rows BW
theorem Room.u1 {k:Nat} {A:Around} (r:Room k A):A.units + 1 < cLine:=by have:=r.units; omega
def mx2 (i j:Int):Int:=if j > i then j else i
theorem mx2_l (i j:Int):i≤mx2 i j:=by unfold mx2; split <;> omega
theorem mx2_r (i j:Int):j≤mx2 i j:=by unfold mx2; split <;> omega
theorem mx2_or (i j:Int):mx2 i j=i∨mx2 i j=j:=by unfold mx2; split <;> omega
def relM (gn:Hop→Int) (G:List Int) (m:Hop):List Int:=G.set m.2.2 (mx2 (G.getD m.2.2 0) (G.getD m.1 0 + gn m))
theorem setI_self {l:List Int} {i:Nat} {x:Int} (h:i < l.length):(l.set i x).getD i 0=x:=by simp [List.getD,h]
theorem setI_ne {l:List Int} {i j:Nat} {x:Int} (h:i≠j):(l.set i x).getD j 0=l.getD j 0:=by simp [List.getD,List.getElem?_set_ne h]
structure RealG (hs:List Hop) (gn:Hop→Int) (n:Nat) (G0 G:List Int):Prop where
  len:G.length=n
  at_:∀ b,b < n→∃ s c,s < n∧ChS hs s c b∧G.getD b 0=G0.getD s 0 + wt gn c
def DomG (hs:List Hop) (gn:Hop→Int) (n:Nat) (G0 G:List Int) (k:Nat):Prop:=∀ s b c,s < n→ChS hs s c b→c.length≤k→G0.getD s 0 + wt gn c≤G.getD b 0
def UpG (G G':List Int):Prop:=∀ b,G.getD b 0≤G'.getD b 0
section
variable {hs:List Hop} {gn:Hop→Int} {n:Nat} {G0 G G':List Int} {m:Hop}
theorem RealG.start (h:G0.length=n):RealG hs gn n G0 G0:=⟨h,fun b hb=>⟨b,[],hb,.nil,by simp [wt]⟩⟩
theorem chs_nil {s b:Nat} {c:List Hop} (h:ChS hs s c b) (e:c.length=0):s=b:=by
  induction h with
  | nil=>rfl
  | snoc _ _ _=>simp at e
theorem DomG.start:DomG hs gn n G0 G0 0:=fun s b c hs hc hl=>by
  have e:=chs_nil hc (by omega)
  have:c=[]:=List.eq_nil_of_length_eq_zero (by omega)
  subst this e
  simp [wt]
theorem UpG.refl:UpG G G:=fun b=>Int.le_refl _
theorem UpG.trans {G2:List Int} (h:UpG G G') (h':UpG G' G2):UpG G G2:=fun b=>Int.le_trans (h b) (h' b)
theorem relM_up (hm:m.2.2 < G.length):UpG G (relM gn G m):=fun b=>by
  unfold relM
  by_cases e:m.2.2=b
  · subst e
    rw [setI_self hm]
    exact mx2_l _ _
  · rw [setI_ne e]
    exact Int.le_refl _
theorem relM_at (hm:m.2.2 < G.length):G.getD m.1 0 + gn m≤(relM gn G m).getD m.2.2 0:=by
  unfold relM
  rw [setI_self hm]
  exact mx2_r _ _
theorem RealG.rel (r:RealG hs gn n G0 G) (hlt:∀ m∈hs,m.1 < n∧m.2.2 < n) (hm:m∈hs):RealG hs gn n G0 (relM gn G m):=by
  have h2:=hlt m hm
  refine ⟨by unfold relM; rw [List.length_set]; exact r.len,fun b hb=>?_⟩
  unfold relM
  by_cases e:m.2.2=b
  · subst e
    rw [setI_self (by rw [r.len]; exact h2.2)]
    rcases mx2_or (G.getD m.2.2 0) (G.getD m.1 0 + gn m) with e | e
    · rw [e]; exact r.at_ _ h2.2
    · rw [e]
      obtain ⟨s,c,s1,s2,s3⟩:=r.at_ _ h2.1
      refine ⟨s,c ++ [(m.1,m.2.1,m.2.2)],s1,.snoc s2 hm,?_⟩
      rw [wt_app,s3]
      have:wt gn [(m.1,m.2.1,m.2.2)]=gn m:=by simp [wt]
      rw [this]
      omega
  · rw [setI_ne e]
    exact r.at_ b hb
theorem DomG.next {k:Nat} (d:DomG hs gn n G0 G k) (u:UpG G G') (hall:∀ m∈hs,G.getD m.1 0 + gn m≤G'.getD m.2.2 0):DomG hs gn n G0 G' (k + 1):=fun s b c h1 hc hl=>by
  cases hc with
  | nil =>
    have:=d s s [] h1 .nil (by simp)
    exact Int.le_trans this (u s)
  | @snoc c a r b h2 hm =>
    rw [List.length_append,List.length_singleton] at hl
    have h3:=d s a c h1 h2 (by omega)
    have h4:=hall _ hm
    rw [wt_app]
    have e:wt gn [(a,r,b)]=gn (a,r,b):=by simp [wt]
    rw [e]
    simp only at h4
    omega
theorem DomG.closed {h:Nat→Int} (hp:∀ m∈hs,h m.1 + gn m≤h m.2.2) (hlt:∀ m∈hs,m.1 < n∧m.2.2 < n) (r:RealG hs gn n G0 G) (d:DomG hs gn n G0 G n) (hm:m∈hs):G.getD m.1 0 + gn m≤G.getD m.2.2 0:=by
  obtain ⟨s,c,s1,s2,s3⟩:=r.at_ _ (hlt m hm).1
  have h4:ChS hs s (c ++ [(m.1,m.2.1,m.2.2)]) m.2.2:=.snoc s2 hm
  obtain ⟨c',g1,g2,g3⟩:=shorten hp hlt _ (Nat.le_refl _) s1 h4
  have h5:=d s _ c' s1 g1 (by omega)
  rw [wt_app] at g3
  have e:wt gn [(m.1,m.2.1,m.2.2)]=gn m:=by simp [wt]
  rw [e] at g3
  omega
theorem wt_le {B:Int} (hB:0≤B):∀ {c:List Hop},(∀ m∈c,gn m≤B)→wt gn c≤(c.length:Int) * B
  | [],_=>by simp [wt]
  | m :: c,h=>by
    have h1:=wt_le hB (c:=c) fun x hx=>h x (List.mem_cons_of_mem _ hx)
    have h2:=h m List.mem_cons_self
    have e:wt gn (m :: c)=gn m + wt gn c:=by simp [wt]
    rw [e,List.length_cons,show ((c.length + 1:Nat):Int)=(c.length:Int) + 1 by omega,Int.add_mul,Int.one_mul]
    omega
theorem chs_mem {s b:Nat} {c:List Hop} (h:ChS hs s c b):∀ m∈c,m∈hs:=by
  induction h with
  | nil=>intro m hm; simp at hm
  | snoc _ hm ih =>
    intro x hx
    rcases List.mem_append.mp hx with hx | hx
    · exact ih x hx
    · have:=List.mem_singleton.mp hx
      subst this
      exact hm
theorem RealG.bd {h:Nat→Int} {B:Int} (hp:∀ m∈hs,h m.1 + gn m≤h m.2.2) (hlt:∀ m∈hs,m.1 < n∧m.2.2 < n) (hB:0≤B) (hg:∀ m∈hs,gn m≤B) (h0:∀ s,s < n→-B≤G0.getD s 0∧G0.getD s 0≤B) (r:RealG hs gn n G0 G) (d:DomG hs gn n G0 G n) {b:Nat} (hb:b < n):-B≤G.getD b 0∧G.getD b 0≤(n:Int) * B + B:=by
  have h1:=d b b [] hb .nil (by simp)
  obtain ⟨s,c,s1,s2,s3⟩:=r.at_ _ hb
  obtain ⟨c',g1,g2,g3⟩:=shorten hp hlt _ (Nat.le_refl _) s1 s2
  have h2:=wt_le hB (c:=c') fun m hm=>hg m (chs_mem g1 m hm)
  have h3:=Int.mul_le_mul_of_nonneg_right (show (c'.length:Int)≤(n:Int) by omega) hB
  have h4:=h0 s s1
  have h5:=h0 b hb
  have e:wt gn []=0:=by simp [wt]
  rw [e] at h1
  omega
end
def allH (beds:List Int) (worths:List (List Int)) (way:List Nat):List Hop:=(List.range worths.length).flatMap fun a=>(List.range worths.length).flatMap fun b=>if a=b then [] else ((List.range beds.length).filter fun (r:Nat)=>decide ((r:Int)∈thruL true beds way a b)).map fun r=>(a,r,b)
theorem mem_allH {beds:List Int} {worths:List (List Int)} {way:List Nat} {a r b:Nat}:(a,r,b)∈allH beds worths way ↔ a < worths.length∧b < worths.length∧a≠b∧r < beds.length∧(r:Int)∈thruL true beds way a b:=by
  unfold allH
  constructor
  · intro h
    obtain ⟨a',h1,h2⟩:=List.mem_flatMap.mp h
    obtain ⟨b',h3,h4⟩:=List.mem_flatMap.mp h2
    by_cases e:a'=b'
    · rw [if_pos e] at h4
      simp at h4
    rw [if_neg e] at h4
    obtain ⟨r',h5,h6⟩:=List.mem_map.mp h4
    obtain ⟨h7,h8⟩:=List.mem_filter.mp h5
    have e1:a'=a:=congrArg (fun x:Hop=>x.1) h6
    have e2:r'=r:=congrArg (fun x:Hop=>x.2.1) h6
    have e3:b'=b:=congrArg (fun x:Hop=>x.2.2) h6
    subst e1 e2 e3
    exact ⟨List.mem_range.mp h1,List.mem_range.mp h3,e,List.mem_range.mp h7,of_decide_eq_true h8⟩
  · rintro ⟨h1,h2,h3,h4,h5⟩
    refine List.mem_flatMap.mpr ⟨a,List.mem_range.mpr h1,List.mem_flatMap.mpr ⟨b,List.mem_range.mpr h2,?_⟩⟩
    rw [if_neg h3]
    exact List.mem_map.mpr ⟨r,List.mem_filter.mpr ⟨List.mem_range.mpr h4,decide_eq_true h5⟩,rfl⟩
structure FairT (beds:List Int) (worths:List (List Int)) (rent:Int) (way:List Nat) (B:Int) (H:Hp) (t l:Addr) (k:Int) (R:List Int):Prop where
  tup:H t=some (.tup [.int k,.ref l])
  lst:H l=some (.lst (R.map V.int))
  len:R.length=beds.length
  k0:0 < k
  kB:k≤B
  bd:∀ r,-(10 ^ 60 * k)≤R.getD r 0∧R.getD r 0≤10 ^ 60 * k
  fair:Fp.is ⟨beds,worths,rent,way,k,R⟩ .none
theorem FairT.same {beds:List Int} {worths:List (List Int)} {rent:Int} {way:List Nat} {B:Int} {H H':Hp} {t l:Addr} {k:Int} {R:List Int} (h:FairT beds worths rent way B H t l k R) (s:Same H H'):FairT beds worths rent way B H' t l k R:=⟨s _ _ h.tup,s _ _ h.lst,h.len,h.k0,h.kB,h.bd,h.fair⟩
theorem FairT.sameB {beds:List Int} {worths:List (List Int)} {rent:Int} {way:List Nat} {B:Int} {H H':Hp} {t l:Addr} {k:Int} {R:List Int} (h:FairT beds worths rent way B H t l k R) (s:SameB H H'):FairT beds worths rent way B H' t l k R:=⟨s.to _ _ h.tup rfl,s.to _ _ h.lst rfl,h.len,h.k0,h.kB,h.bd,h.fair⟩
theorem FairT.wide {beds:List Int} {worths:List (List Int)} {rent:Int} {way:List Nat} {B B':Int} {H:Hp} {t l:Addr} {k:Int} {R:List Int} (h:FairT beds worths rent way B H t l k R) (hB:B≤B'):FairT beds worths rent way B' H t l k R:=⟨h.tup,h.lst,h.len,h.k0,by have:=h.kB; omega,h.bd,h.fair⟩
section
variable {beds:List Int} {worths:List (List Int)} {rent:Int} {way:List Nat} {hops:List Hop} {st:TC} {rows:List Int} {d k:Int} {R:List Int}
theorem DivR.no_more {wo:Bool} (g:DivR wo beds worths rent way hops st rows) (ok:AimOk beds worths way) (l0:0 < worths.length) (low:Low worths.length rows d k R) (k0:0 < k) {n:Int} {rows':List Int} (n0:0 < n) (fair:Fp.is ⟨beds,worths,rent,way,n,rows'⟩ .none) {z z':Int}
    (hz:z∈(List.range worths.length).map (levF wo worths way k R)) (hm:∀ y∈(List.range worths.length).map (levF wo worths way k R),z≤y) (hm':∀ y∈(List.range worths.length).map (levF wo worths way n rows'),z'≤y):z' * k≤z * n:=by
  have h1:=g.least_lev ok low k0 l0 hz hm
  have h2:=(g.bound ok l0 n0 fair (m:=z') fun i hi=>hm' _ (List.mem_map.mpr ⟨i,List.mem_range.mpr hi,rfl⟩)).1
  have h3:=Int.mul_le_mul_of_nonneg_right h2 (show 0≤k by omega)
  have e1:(worths.length:Int) * z' * k=(worths.length:Int) * (z' * k):=Int.mul_assoc _ _ _
  have e2:n * (wholeF wo worths way rent - st.1.sum) * k=(worths.length:Int) * (z * n):=by
    rw [Int.mul_assoc,← h1,Int.mul_comm,Int.mul_assoc,Int.mul_comm,Int.mul_assoc,Int.mul_comm n z]
  rw [e1,e2] at h3
  exact Int.le_of_mul_le_mul_left h3 (by omega)
theorem DivR.no_wider (g:DivR false beds worths rent way hops st rows) (ok:AimOk beds worths way) (l0:0 < worths.length) (low:Low worths.length rows d k R) (k0:0 < k) {n:Int} {rows':List Int} (n0:0 < n) (fair:Fp.is ⟨beds,worths,rent,way,n,rows'⟩ .none) {z1 z2 y1 y2:Int}
    (h1:z1∈(List.range worths.length).map (levF false worths way k R)) (m1:∀ y∈(List.range worths.length).map (levF false worths way k R),y≤z1) (h2:z2∈(List.range worths.length).map (levF false worths way k R)) (m2:∀ y∈(List.range worths.length).map (levF false worths way k R),z2≤y)
    (q1:∀ y∈(List.range worths.length).map (levF false worths way n rows'),y≤y1) (q2:∀ y∈(List.range worths.length).map (levF false worths way n rows'),y2≤y):(z1 - z2) * n≤(y1 - y2) * k:=by
  obtain ⟨z3,h3,m3⟩:∃ z3∈st.1,∀ y∈st.1,y≤z3:=by
    obtain ⟨i,hi,hq⟩:=least_of (fun i => -(st.1.getD i 0)) (List.range worths.length) (by simpa using l0)
    have hi':=List.mem_range.mp hi
    refine ⟨st.1.getD i 0,by rw [getD_get _ _ (by rw [g.ok.l1]; exact hi')]; exact List.getElem_mem _,fun y hy=>?_⟩
    obtain ⟨j,hj,rfl⟩:=List.mem_iff_getElem.mp hy
    have:=hq j (List.mem_range.mpr (by rw [← g.ok.l1]; exact hj))
    rw [getD_get _ _ hj] at this
    omega
  have e:=g.spread ok low l0 h1 m1 h2 m2 h3 m3
  obtain ⟨b,hb,rfl⟩:=List.mem_iff_getElem.mp h3
  have hb':b < worths.length:=by rw [← g.ok.l1]; exact hb
  obtain ⟨s,s1,s2,s3⟩:=g.ok.at_ b hb'
  have h4:=s2.pot (gn:=fun x=>n * gnF false worths way x) (h:=levF false worths way n rows') fun x hx=>by
    obtain ⟨m1,m2,m3,m4,m5⟩:=g.good.mem x hx
    exact lev_hop ok fair m1 m2 m4 m5
  rw [wt_mul,s3,getD_get _ _ hb] at h4
  have h5:=q1 _ (List.mem_map.mpr ⟨b,List.mem_range.mpr hb',rfl⟩)
  have h6:=q2 _ (List.mem_map.mpr ⟨s,List.mem_range.mpr s1,rfl⟩)
  rw [e]
  have h7:n * st.1[b]≤y1 - y2:=by omega
  have h8:=Int.mul_le_mul_of_nonneg_right h7 (show 0≤k by omega)
  have e2:k * st.1[b] * n=n * st.1[b] * k:=by rw [Int.mul_comm,← Int.mul_assoc,Int.mul_assoc n,Int.mul_comm k,← Int.mul_assoc]
  rw [e2]
  exact h8
end
theorem mem_putK {κ:Type} [DecidableEq κ] {kvs:List (κ × V)} {k:κ} {v:V} {kv:κ × V} (h:kv∈putK kvs k v):kv=(k,v)∨kv∈kvs:=by
  unfold putK at h
  split at h
  · obtain ⟨x,hx,e⟩:=List.mem_map.mp h
    by_cases e1:x.1=k
    · rw [if_pos e1,e1] at e
      exact .inl e.symm
    · rw [if_neg e1] at e
      exact .inr (e ▸ hx)
  · rcases List.mem_append.mp h with h | h
    · exact .inr h
    · exact .inl (List.mem_singleton.mp h)
theorem valV_mem {κ:Type} [DecidableEq κ] {kvs:List (κ × V)} {k:κ} {v:V} (h:valV kvs k=some v):(k,v)∈kvs:=by
  unfold valV at h
  obtain ⟨x,hx,e⟩:=Option.map_eq_some_iff.mp h
  have h1:=List.mem_of_find?_eq_some hx
  have h0:=List.find?_some hx
  simp only [decide_eq_true_eq] at h0
  obtain ⟨a,b⟩:=x
  simp only at h0 e
  subst h0 e
  exact h1
theorem own_row {H:Hp} {w:Addr} {beds:List Int} {worths:List (List Int)} {way:List Nat} (ok:AimOk beds worths way) (hM:Mat H w worths) {i:Nat} (hi:i < worths.length):∃ (ws:List Addr) (ra:Addr) (xs:List Int),H w=some (.lst (ws.map V.ref))∧(ws.map V.ref)[i]? = some (.ref ra)∧H ra=some (.lst (xs.map V.int))∧(xs.map V.int)[way.getD i 0]? = some (.int (ownF worths way i)):=by
  obtain ⟨ws,hw,hR⟩:=id hM
  have hrow:worths[i]? = some worths[i]:=by simp [hi]
  have hrl:=ok.bok.rows _ (List.getElem_mem hi)
  have h2:=(ok.at_ hi).2
  obtain ⟨ra,e1,e2,e3⟩:=hR.at_ hrow
  refine ⟨ws,ra,_,hw,e2,e3,?_⟩
  unfold ownF wF
  generalize way.getD i 0=r at *
  simp [List.getD,hi,show r < worths[i].length by omega]
def intOf:V→Int
  | .int z=>z
  | _=>0
theorem DivAt.fairT {wo:Bool} {H:Hp} {t tp rl cl:Addr} {beds:List Int} {worths:List (List Int)} {rent:Int} {way:List Nat} {hops:List Hop} {st:TC} {rows:List Int} (g:DivAt wo H t tp rl cl beds worths rent way hops st rows) (aok:AimOk beds worths way) (fit:Fit (bF beds) way) (opt:Opt beds worths way) (hb1:∀ b∈beds,1≤b) (l0:0 < worths.length) (hx:∀ row∈worths,∀ x∈row,-(10 ^ 42) < x∧x < 10 ^ 42) (hre:-(10 ^ 42) < rent∧rent < 10 ^ 42):∃ d k R,FairT beds worths rent way 10 H tp rl k R∧Low worths.length rows d k R:=by
  have low:=g.low l0
  have kb:=lowk_bd low (by omega) (by have:=aok.bok.w1; omega)
  refine ⟨_,_,_,⟨g.pr,g.rl_,by rw [low.len,g.isr.1],kb.1,kb.2,fun r=>?_,div_fair g aok fit opt hb1 low⟩,low⟩
  have h:=g.r.R_bd aok fit opt hb1 l0 low hx hre g.cb r
  omega
theorem FairT.upd {beds:List Int} {worths:List (List Int)} {rent:Int} {way:List Nat} {B:Int} {H:Hp} {t l so:Addr} {k:Int} {R:List Int} {ts:List Addr} {o:HO} (h:FairT beds worths rent way B H t l k R) (hs:H so=some (.lst (ts.map V.ref))) (h0:0 < ts.length):FairT beds worths rent way B (upd H so o) t l k R:=by
  refine ⟨?_,?_,h.len,h.k0,h.kB,h.bd,h.fair⟩
  · rw [upd_ne (ne_of h.tup hs (by intro z; cases z))]
    exact h.tup
  · rw [upd_ne fun z=>?_]
    · exact h.lst
    have h1:=h.lst
    rw [z,hs] at h1
    have e:ts.map V.ref=R.map V.int:=by injection h1 with h1; injection h1
    cases ts with
    | nil=>simp at h0
    | cons a r =>
      cases R with
      | nil=>simp at e
      | cons b r'=>simp at e
theorem b140 {i:Nat} (h:i≤6):(1400:Int) * 140 ^ i≤10 ^ 20:=by
  have:i=0∨i=1∨i=2∨i=3∨i=4∨i=5∨i=6:=by omega
  rcases this with rfl | rfl | rfl | rfl | rfl | rfl | rfl <;> decide
theorem n140 (i:Nat):(140:Int) * (1400 * 140 ^ i)=1400 * 140 ^ (i + 1):=by
  rw [Int.pow_succ]
  generalize (140:Int) ^ i=x
  omega
theorem m140 (i:Nat):(1400:Int) * 140 ^ i≤1400 * 140 ^ (i + 1)∧(10:Int)≤1400 * 140 ^ i:=by
  have h:(0:Int) < 140 ^ i:=Int.pow_pos (by decide)
  rw [Int.pow_succ]
  generalize (140:Int) ^ i=x at *
  omega
def sp_lgfrom:Sp:=fun vs H Q _ => ∃ (sp w wy:Addr) (beds:List Int) (worths:List (List Int)) (way:List Nat) (j:Nat) (gs:List Int),vs=[.ref sp,.ref w,.ref wy,.int (j:Int)]∧H sp=some (.lst ((openL beds (wI way)).map V.int))∧Mat H w worths∧H wy=some (.lst ((wI way).map V.int))∧AimOk beds worths way∧(∀ row∈worths,∀ x∈row,-(10 ^ 42) < x∧x < 10 ^ 42)∧Closed true beds worths way gs∧j < worths.length ∧
  ∀ (l:Addr) (G:List Int) (H':Hp),Same H H'→H' l=some (.lst (G.map V.int))→G.length=worths.length→Closed true beds worths way G→(∀ b,b < worths.length→-(10 ^ 45)≤G.getD b 0∧G.getD b 0≤10 ^ 45)→Q (.ref l) H'
def sp_lledby:Sp:=fun vs H Q _ => ∃ (b w wy:Addr) (beds:List Int) (worths:List (List Int)) (rent:Int) (way:List Nat) (j:Nat) (gs:List Int),vs=[.ref b,.ref w,.int rent,.ref wy,.int (j:Int)]∧H b=some (.lst (beds.map V.int))∧Mat H w worths∧H wy=some (.lst ((wI way).map V.int))∧AimOk beds worths way∧Fit (bF beds) way∧Opt beds worths way∧(∀ b∈beds,1≤b)∧(∀ row∈worths,∀ x∈row,-(10 ^ 42) < x∧x < 10 ^ 42)∧(-(10 ^ 42) < rent∧rent < 10 ^ 42)∧Closed true beds worths way gs∧j < worths.length ∧
  ∀ (t l:Addr) (k:Int) (R:List Int) (H':Hp),Same H H'→FairT beds worths rent way 10 H' t l k R→Q (.ref t) H'
def sp_lmean:Sp:=fun vs H Q _ => ∃ (t1 t2 l1 l2:Addr) (beds:List Int) (worths:List (List Int)) (rent:Int) (way:List Nat) (B1 B2 k1 k2 k m:Int) (R1 R2:List Int),vs=[.ref t1,.ref t2,.int k,.int m]∧FairT beds worths rent way B1 H t1 l1 k1 R1∧FairT beds worths rent way B2 H t2 l2 k2 R2∧B1≤10∧B2≤10 ^ 20∧beds.length≤10∧(0 < k∧k≤7)∧(0 < m∧m≤7) ∧
  ∀ (t l:Addr) (k':Int) (R:List Int) (H':Hp),Same H H'→FairT beds worths rent way (140 * B2) H' t l k' R→Q (.ref t) H'
def sp_lnobetter:Sp:=fun vs H Q _ => ∃ (w wy t l tw lw te le:Addr) (beds:List Int) (worths:List (List Int)) (rent:Int) (way:List Nat) (k kw ke dw de:Int) (R Rw Re rowsW rowsE:List Int) (hW hE:List Hop) (stW stE:TC),vs=[.ref w,.ref wy,.ref t,.ref tw,.ref te]∧Mat H w worths∧H wy=some (.lst ((wI way).map V.int))∧AimOk beds worths way∧0 < worths.length∧(∀ row∈worths,∀ x∈row,-(10 ^ 42) < x∧x < 10 ^ 42) ∧
  FairT beds worths rent way (10 ^ 20) H t l k R∧FairT beds worths rent way 10 H tw lw kw Rw∧FairT beds worths rent way 10 H te le ke Re∧DivR true beds worths rent way hW stW rowsW∧Low worths.length rowsW dw kw Rw∧DivR false beds worths rent way hE stE rowsE∧Low worths.length rowsE de ke Re∧∀ H',Same H H'→Q (.bl true) H'
end L2
local macro_rules | `(tactic| walk_at "go") => `(tactic| repeat (first
  | refine ⟨_,rfl,?_⟩
  | refine ⟨_,_,rfl,rfl,?_⟩
  | refine ⟨rfl,?_⟩
  | refine ⟨⟨⟨by omega,by omega⟩,⟨by omega,by omega⟩⟩,?_⟩
  | refine ⟨⟨by omega,by omega⟩,?_⟩
  | refine ⟨⟨by decide,by decide,by decide⟩,?_⟩
  | refine ⟨⟨by decide,by decide,by omega⟩,?_⟩
  | refine And.intro (by decide) ?_
  | refine And.intro (by show (0:Int) < _; decide) ?_
  | refine And.intro (by (with_reducible show List.length _≤PySem.sizeLine); exact L2.len_small (by simp)) ?_
  | refine And.intro (by omega) ?_))
namespace My
open PySem L2 BW
def top (i:Nat):Stmt:=PySem.Challenge.pw_rentshare_k55_whole_no_fair_prices_are_b.main.body.getD i (.Pass ⟨0,0,0,0⟩)
structure Txt (mg:Str→Option Value):Prop where
  len:mg "len" = none
  range:mg "range" = none
  enumerate:mg "enumerate" = none
  list:mg "list" = none
  min:mg "min" = none
  max:mg "max" = none
  sum:mg "sum" = none
  sorted:mg "sorted" = none
  set:mg "set" = none
  reversed:mg "reversed" = none
  abs:mg "abs" = none
abbrev s___init__:Stmt:=inClass (top 4) 0
theorem sc___init__:FnScope ["self","beds","worths","rent"] ["self","beds","worths","rent"] (defScope s___init__):=⟨rfl,rfl,rfl,by decide +kernel,rfl,by decide +kernel,by decide +kernel⟩
abbrev s_people:Stmt:=inClass (top 4) 1
theorem sc_people:FnScope ["self"] ["self"] (defScope s_people):=⟨rfl,rfl,rfl,by decide +kernel,rfl,by decide +kernel,by decide +kernel⟩
abbrev s_rooms:Stmt:=inClass (top 4) 2
theorem sc_rooms:FnScope ["self"] ["self"] (defScope s_rooms):=⟨rfl,rfl,rfl,by decide +kernel,rfl,by decide +kernel,by decide +kernel⟩
abbrev s_lying:Stmt:=top 5
theorem sc_lying:FnScope ["house","way"] ["house","way"] (defScope s_lying):=⟨rfl,rfl,rfl,by decide +kernel,rfl,by decide +kernel,by decide +kernel⟩
abbrev s_open_rooms:Stmt:=top 6
theorem sc_open_rooms:FnScope ["house","way","counts"] ["house","way"] (defScope s_open_rooms):=⟨rfl,rfl,rfl,by decide +kernel,rfl,by decide +kernel,by decide +kernel⟩
abbrev s_worth_of:Stmt:=top 7
theorem sc_worth_of:FnScope ["house","way"] ["house","way"] (defScope s_worth_of):=⟨rfl,rfl,rfl,by decide +kernel,rfl,by decide +kernel,by decide +kernel⟩
abbrev s_improve:Stmt:=top 15
theorem sc_improve:FnScope ["house","way","gains","moves","person","left","worths","room","gain"] ["house","way","gains","moves"] (defScope s_improve):=⟨rfl,rfl,rfl,by decide +kernel,rfl,by decide +kernel,by decide +kernel⟩
abbrev s_bring_in:Stmt:=top 16
theorem sc_bring_in:FnScope ["house","way","newcomer","moves","turn","end","brought","move","gains"] ["house","way"] (defScope s_bring_in):=⟨rfl,rfl,rfl,by decide +kernel,rfl,by decide +kernel,by decide +kernel⟩
abbrev s_best_way:Stmt:=top 17
theorem sc_best_way:FnScope ["house","way"] ["house"] (defScope s_best_way):=⟨rfl,rfl,rfl,by decide +kernel,rfl,by decide +kernel,by decide +kernel⟩
abbrev s_is_hop:Stmt:=top 19
theorem sc_is_hop:FnScope ["aim","hop","people"] ["aim","hop"] (defScope s_is_hop):=⟨rfl,rfl,rfl,by decide +kernel,rfl,by decide +kernel,by decide +kernel⟩
abbrev s_chain_gain:Stmt:=top 20
theorem sc_chain_gain:FnScope ["aim","chain","i","total","ending","hop"] ["aim","chain","i"] (defScope s_chain_gain):=⟨rfl,rfl,rfl,by decide +kernel,rfl,by decide +kernel,by decide +kernel⟩
abbrev s_best_room:Stmt:=top 21
theorem sc_best_room:FnScope ["aim","rooms","a","b"] ["aim","rooms","a","b"] (defScope s_best_room):=⟨rfl,rfl,rfl,by decide +kernel,rfl,by decide +kernel,by decide +kernel⟩
abbrev s_best_hops:Stmt:=top 22
theorem sc_best_hops:FnScope ["aim","people","hops","a","b","rooms"] ["aim"] (defScope s_best_hops):=⟨rfl,rfl,rfl,by decide +kernel,rfl,by decide +kernel,by decide +kernel⟩
abbrev s_hop_on:Stmt:=top 23
theorem sc_hop_on:FnScope ["hops","gains","totals","chains","place","hop","came","there"] ["hops","gains","totals","chains"] (defScope s_hop_on):=⟨rfl,rfl,rfl,by decide +kernel,rfl,by decide +kernel,by decide +kernel⟩
abbrev s_carry:Stmt:=top 24
theorem sc_carry:FnScope ["aim","starts","totals","chains","hops","gains","turn"] ["aim","starts"] (defScope s_carry):=⟨rfl,rfl,rfl,by decide +kernel,rfl,by decide +kernel,by decide +kernel⟩
abbrev s_greatest:Stmt:=top 25
theorem sc_greatest:FnScope ["aim"] ["aim"] (defScope s_greatest):=⟨rfl,rfl,rfl,by decide +kernel,rfl,by decide +kernel,by decide +kernel⟩
abbrev s_bound:Stmt:=top 26
theorem sc_bound:FnScope ["aim","chains","people","gains"] ["aim","chains"] (defScope s_bound):=⟨rfl,rfl,rfl,by decide +kernel,rfl,by decide +kernel,by decide +kernel⟩
abbrev s_common_divisor:Stmt:=top 28
theorem sc_common_divisor:FnScope ["one","other","rest"] ["one","other"] (defScope s_common_divisor):=⟨rfl,rfl,rfl,by decide +kernel,rfl,by decide +kernel,by decide +kernel⟩
abbrev s_lowest:Stmt:=top 29
theorem sc_lowest:FnScope ["parts","rows","divisor","row"] ["parts","rows"] (defScope s_lowest):=⟨rfl,rfl,rfl,by decide +kernel,rfl,by decide +kernel,by decide +kernel⟩
abbrev s_room_price:Stmt:=top 31
theorem sc_room_price:FnScope ["aim","costs","room"] ["aim","costs","room"] (defScope s_room_price):=⟨rfl,rfl,rfl,by decide +kernel,rfl,by decide +kernel,by decide +kernel⟩
abbrev s_prices_at:Stmt:=top 32
theorem sc_prices_at:FnScope ["aim","levels","parts","costs"] ["aim","levels","parts"] (defScope s_prices_at):=⟨rfl,rfl,rfl,by decide +kernel,rfl,by decide +kernel,by decide +kernel⟩
abbrev s_divide:Stmt:=top 33
theorem sc_divide:FnScope ["aim","told","least","levels"] ["aim"] (defScope s_divide):=⟨rfl,rfl,rfl,by decide +kernel,rfl,by decide +kernel,by decide +kernel⟩
abbrev s_Aim___init__:Stmt:=inClass (top 9) 0
theorem sc_Aim___init__:FnScope ["self","house","way"] ["self","house","way"] (defScope s_Aim___init__):=⟨rfl,rfl,rfl,by decide +kernel,rfl,by decide +kernel,by decide +kernel⟩
abbrev s_with_open:Stmt:=top 10
theorem sc_with_open:FnScope ["aim","room"] ["aim","room"] (defScope s_with_open):=⟨rfl,rfl,rfl,by decide +kernel,rfl,by decide +kernel,by decide +kernel⟩
abbrev s_own_worth:Stmt:=top 11
theorem sc_own_worth:FnScope ["aim","person"] ["aim","person"] (defScope s_own_worth):=⟨rfl,rfl,rfl,by decide +kernel,rfl,by decide +kernel,by decide +kernel⟩
abbrev s_Worst_through:Stmt:=inClass (top 12) 0
theorem sc_Worst_through:FnScope ["self","a","b"] ["self","a","b"] (defScope s_Worst_through):=⟨rfl,rfl,rfl,by decide +kernel,rfl,by decide +kernel,by decide +kernel⟩
abbrev s_Worst_gain:Stmt:=inClass (top 12) 1
theorem sc_Worst_gain:FnScope ["self","a","r","b"] ["self","a","r","b"] (defScope s_Worst_gain):=⟨rfl,rfl,rfl,by decide +kernel,rfl,by decide +kernel,by decide +kernel⟩
abbrev s_Worst_whole:Stmt:=inClass (top 12) 2
theorem sc_Worst_whole:FnScope ["self"] ["self"] (defScope s_Worst_whole):=⟨rfl,rfl,rfl,by decide +kernel,rfl,by decide +kernel,by decide +kernel⟩
abbrev s_Worst_price:Stmt:=inClass (top 12) 3
theorem sc_Worst_price:FnScope ["self","i","level","parts"] ["self","i","level","parts"] (defScope s_Worst_price):=⟨rfl,rfl,rfl,by decide +kernel,rfl,by decide +kernel,by decide +kernel⟩
abbrev s_Even_through:Stmt:=inClass (top 13) 0
theorem sc_Even_through:FnScope ["self","a","b"] ["self","a","b"] (defScope s_Even_through):=⟨rfl,rfl,rfl,by decide +kernel,rfl,by decide +kernel,by decide +kernel⟩
abbrev s_Even_gain:Stmt:=inClass (top 13) 1
theorem sc_Even_gain:FnScope ["self","a","r","b"] ["self","a","r","b"] (defScope s_Even_gain):=⟨rfl,rfl,rfl,by decide +kernel,rfl,by decide +kernel,by decide +kernel⟩
abbrev s_Even_whole:Stmt:=inClass (top 13) 2
theorem sc_Even_whole:FnScope ["self"] ["self"] (defScope s_Even_whole):=⟨rfl,rfl,rfl,by decide +kernel,rfl,by decide +kernel,by decide +kernel⟩
abbrev s_Even_price:Stmt:=inClass (top 13) 3
theorem sc_Even_price:FnScope ["self","i","level","parts"] ["self","i","level","parts"] (defScope s_Even_price):=⟨rfl,rfl,rfl,by decide +kernel,rfl,by decide +kernel,by decide +kernel⟩
abbrev s__law_cell_at:Stmt:=top 35
theorem sc__law_cell_at:FnScope ["_law_script","_law_k"] ["_law_script","_law_k"] (defScope s__law_cell_at):=⟨rfl,rfl,rfl,by decide +kernel,rfl,by decide +kernel,by decide +kernel⟩
abbrev s__law_mixed:Stmt:=top 36
theorem sc__law_mixed:FnScope ["_law_cell","_law_k","_law_m"] ["_law_cell","_law_k"] (defScope s__law_mixed):=⟨rfl,rfl,rfl,by decide +kernel,rfl,by decide +kernel,by decide +kernel⟩
abbrev s__law_beds:Stmt:=top 37
theorem sc__law_beds:FnScope ["_law_first","_law_many","_law_beds_here","_law_k"] ["_law_first","_law_many"] (defScope s__law_beds):=⟨rfl,rfl,rfl,by decide +kernel,rfl,by decide +kernel,by decide +kernel⟩
abbrev s__law_worths:Stmt:=top 38
theorem sc__law_worths:FnScope ["_law_script","_law_first","_law_people","_law_rooms","_law_sums","_law_k","_law_cell","_law_at","_law_worths_here","_law_i","_law_row"] ["_law_script","_law_first","_law_people","_law_rooms"] (defScope s__law_worths):=⟨rfl,rfl,rfl,by decide +kernel,rfl,by decide +kernel,by decide +kernel⟩
abbrev s__law_house:Stmt:=top 39
theorem sc__law_house:FnScope ["_law_script","_law_most_people","_law_most_rooms","_law_first","_law_beds_here","_law_people","_law_worths_here","_law_rent"] ["_law_script","_law_most_people","_law_most_rooms"] (defScope s__law_house):=⟨rfl,rfl,rfl,by decide +kernel,rfl,by decide +kernel,by decide +kernel⟩
abbrev s__law_spare:Stmt:=top 40
theorem sc__law_spare:FnScope ["_law_beds_here","_law_way"] ["_law_beds_here","_law_way"] (defScope s__law_spare):=⟨rfl,rfl,rfl,by decide +kernel,rfl,by decide +kernel,by decide +kernel⟩
abbrev s__law_through:Stmt:=top 41
theorem sc__law_through:FnScope ["_law_word","_law_spare_here","_law_way","_law_a","_law_b","_law_room"] ["_law_word","_law_spare_here","_law_way","_law_a","_law_b"] (defScope s__law_through):=⟨rfl,rfl,rfl,by decide +kernel,rfl,by decide +kernel,by decide +kernel⟩
abbrev s__law_gain:Stmt:=top 42
theorem sc__law_gain:FnScope ["_law_word","_law_worths_here","_law_way","_law_a","_law_r","_law_b"] ["_law_word","_law_worths_here","_law_way","_law_a","_law_r","_law_b"] (defScope s__law_gain):=⟨rfl,rfl,rfl,by decide +kernel,rfl,by decide +kernel,by decide +kernel⟩
abbrev s__law_fair:Stmt:=top 43
theorem sc__law_fair:FnScope ["_law_beds_here","_law_worths_here","_law_rent","_law_way","_law_parts","_law_rows","_law_r","_law_i","_law_own"] ["_law_beds_here","_law_worths_here","_law_rent","_law_way","_law_parts","_law_rows"] (defScope s__law_fair):=⟨rfl,rfl,rfl,by decide +kernel,rfl,by decide +kernel,by decide +kernel⟩
abbrev s__law_copy:Stmt:=top 44
theorem sc__law_copy:FnScope ["_law_rows"] ["_law_rows"] (defScope s__law_copy):=⟨rfl,rfl,rfl,by decide +kernel,rfl,by decide +kernel,by decide +kernel⟩
abbrev s__law_gains_from:Stmt:=top 45
theorem sc__law_gains_from:FnScope ["_law_spare_here","_law_worths_here","_law_way","_law_j","_law_b","_law_gains","_law_turn","_law_a","_law_r","_law_made"] ["_law_spare_here","_law_worths_here","_law_way","_law_j"] (defScope s__law_gains_from):=⟨rfl,rfl,rfl,by decide +kernel,rfl,by decide +kernel,by decide +kernel⟩
abbrev s__law_led_by:Stmt:=top 46
theorem sc__law_led_by:FnScope ["_law_beds_here","_law_worths_here","_law_rent","_law_way","_law_j","_law_gains","_law_parts","_law_i","_law_least","_law_found","_law_level","_law_cheapest"] ["_law_beds_here","_law_worths_here","_law_rent","_law_way","_law_j"] (defScope s__law_led_by):=⟨rfl,rfl,rfl,by decide +kernel,rfl,by decide +kernel,by decide +kernel⟩
abbrev s__law_mean:Stmt:=top 47
theorem sc__law_mean:FnScope ["_law_one","_law_other","_law_k","_law_m","_law_rows","_law_r"] ["_law_one","_law_other","_law_k","_law_m"] (defScope s__law_mean):=⟨rfl,rfl,rfl,by decide +kernel,rfl,by decide +kernel,by decide +kernel⟩
abbrev s__law_no_better:Stmt:=top 48
theorem sc__law_no_better:FnScope ["_law_worths_here","_law_way","_law_prices","_law_worst","_law_even","_law_parts","_law_rows","_law_owned","_law_share","_law_best","_law_pays","_law_evens"] ["_law_worths_here","_law_way","_law_prices","_law_worst","_law_even"] (defScope s__law_no_better):=⟨rfl,rfl,rfl,by decide +kernel,rfl,by decide +kernel,by decide +kernel⟩
abbrev s_law:Stmt:=top 49
theorem sc_law:FnScope ["_law_script","_law_first","_law_beds_here","_law_worths_here","_law_rent","_law_house_here","_law_way","_law_worst","_law_even","_law_some","_law_j","_law_led","_law_prices"] ["_law_script"] (defScope s_law):=⟨rfl,rfl,rfl,by decide +kernel,rfl,by decide +kernel,by decide +kernel⟩
def lamPos:Pos:=⟨92,42,92,66⟩
def lamPos2:Pos:=⟨118,26,118,59⟩
section
variable {P:Program} {w:World} {K:PySem.W.Frag} {mg:Str→Option Value} {base:Heap}
theorem D_init {C:Addr} (T:Txt mg) (HC:HCls K mg C) (S:MSrc K C "__init__" "House.__init__" s___init__):MDef P w K mg base 1 C "__init__" ["self","beds","worths","rent"] (sp_init C):=by
  refine S.mk' sc___init__ (fun vs H Q E h=>?_) (fun _ _ _ _ _ _ us hl=>match us,hl with | [_,_,_,_],_=>rfl) (fun f cdv A outer s H vs Q E hr h=>?_)
  · obtain ⟨p,dx,b,w,beds,worths,rent,rfl,_⟩:=h
    rfl
  · obtain ⟨p,dx,b,w,beds,worths,rent,rfl,hp,hb,hM,lb,lw,hle,q⟩:=h
    refine ⟨_,(pss_cons (ps_if (pt_cmpR op_gt (pe_callB (call_lenK (K:=K) rfl) (by rfl) T.len boot_len' (pa_cons (pv 2) pa_nil)) (pe_callB (call_sumK (K:=K) rfl rfl) (by rfl) T.sum boot_sum' (pa_cons (pv 1) pa_nil)) (nomark _)) (pss_one (ps_never)) pss_nil)
      (pss_cons (ps_fldK (K:=K) rfl (pv 0) (pe_callTy (call_list_ofK (K:=K) rfl) (by rfl) T.list boot_list' (pa_cons (pv 1) pa_nil)) rfl)
      (pss_cons (ps_fldK (K:=K) rfl (pv 0) (pe_comp ["row"] [none] rfl rfl rfl (pi_listK (K:=K) rfl (pv 2)) (fun _ _ _ _=>(pg_name (i:=0) (by decide +kernel:(["row"]:List PySem.Str).Nodup) rfl (Or.inl rfl))) (fun _ _ _ _=>pifs_nil) (fun _ _ _ _=>(pe_callTy (call_list_ofK (K:=K) rfl) (by rfl) T.list boot_list' (pa_cons (pv 0) pa_nil)))) rfl)
      (pss_one (ps_fldK (K:=K) rfl (pv 0) (pv 3) rfl))))),?_⟩
    obtain ⟨ws,hw,hR⟩:=hM
    have hwl:(ws.map V.ref).length=worths.length:=by rw [List.length_map]; exact hR.1
    walk_at "go"
    refine ⟨w,_,rfl,.inl (SqL.of hw),?_⟩
    walk_at "go"
    refine ⟨b,beds,rfl,SqL.of hb,?_⟩
    walk_at "go"
    refine iteE (decide_eq_false (by rw [hwl]; omega)) ?_
    walk_at "go"
    refine ⟨b,_,rfl,.inl (SqL.of hb),fun l1 H1 n1=>?_⟩
    refine ⟨_,rfl,p,C,dx,[],rfl,n1.same _ _ hp,HC.cl,HC.nB,by decide,?_⟩
    have npl:l1≠p:=(ne_of_none hp n1.none).symm
    have nwp:w≠p:=ne_of hw hp (by intro z; cases z)
    have hw2:upd H1 p (.ins C dx (putF "beds" (.ref l1) [])) w=some (.lst (ws.map V.ref)):=by rw [upd_ne nwp]; exact n1.same _ _ hw
    have hl2:upd H1 p (.ins C dx (putF "beds" (.ref l1) [])) l1=some (.lst (beds.map V.int)):=by rw [upd_ne npl]; exact n1.at_
    have hr2:∀ (i:Nat) a row,ws[i]? = some a→worths[i]? = some row→upd H1 p (.ins C dx (putF "beds" (.ref l1) [])) a=some (.lst (row.map V.int)):=fun i a row h1 h2=>by
      have h3:=hR.2 i a row h1 h2
      rw [upd_ne (ne_of h3 hp (by intro z; cases z))]
      exact n1.same _ _ h3
    have hk2:∀ c o,H c=some o→c≠p→upd H1 p (.ins C dx (putF "beds" (.ref l1) [])) c=some o:=fun c o e hc=>by
      rw [upd_ne hc]
      exact n1.same _ _ e
    have hp2:upd H1 p (.ins C dx (putF "beds" (.ref l1) [])) p=some (.ins C dx (putF "beds" (.ref l1) [])):=upd_same
    generalize upd H1 p (.ins C dx (putF "beds" (.ref l1) []))=H2 at *
    clear n1
    refine ⟨_,rfl,w,rfl,⟨_,SqL.of hw2⟩,fun D hD=>?_⟩
    refine comp_list (fun i y H => ∃ l row,y=.ref l∧l≠D∧worths[i]? = some row∧H l=some (.lst (row.map V.int))) (SqL.of hw2) (by rw [hwl,sizeLine_eq]; omega) hD (fun i y H H' k ⟨l,row,e,ne,h1,h2⟩=>⟨l,row,e,ne,h1,k l _ ne h2⟩) ?_ ?_
    · rintro i x H3 ys N hx s3 d3 hN
      obtain ⟨a,ha,rfl⟩:=ref_at hx
      have hi:i < worths.length:=by rw [← hR.1]; exact (List.getElem?_eq_some_iff.mp ha).1
      have hrow:worths[i]? = some worths[i]:=by simp [hi]
      have h3:=s3 _ _ (hr2 i a _ ha hrow)
      walk_at "go"
      exact ⟨a,_,rfl,.inl (SqL.of h3),fun l H4 n4=>hN _ _ n4.same ⟨l,_,rfl,(ne_of_none d3 n4.none).symm,hrow,n4.at_⟩⟩
    · rintro ys H3 s3 d3 l3 r3
      obtain ⟨ws',e',p'⟩:=refs_ex (P:=fun i l => ∃ row,worths[i]? = some row∧H3 l=some (.lst (row.map V.int))) (fun i y e=>by
        obtain ⟨l,row,h1,_,h2,h3⟩:=r3 i y e
        exact ⟨l,h1,row,h2,h3⟩)
      subst e'
      have lw':ws'.length=worths.length:=by
        rw [List.length_map,List.length_map] at l3
        rw [l3]
        exact hR.1
      have hp3:=s3 _ _ hp2
      have hl3:=s3 _ _ hl2
      refine ⟨_,rfl,p,C,dx,_,rfl,hp3,HC.cl,HC.nW,Nat.lt_of_le_of_lt (putF_lt (n:=0) (Nat.le_refl _)) (by decide),?_⟩
      refine ⟨_,rfl,_,rfl,p,C,dx,_,rfl,upd_same,HC.cl,HC.nR,Nat.lt_of_le_of_lt (putF_lt (n:=1) (putF_lt (n:=0) (Nat.le_refl _))) (by decide),?_⟩
      have nDp:D≠p:=ne_of d3 hp3 (by intro z; cases z)
      refine q _ ⟨⟨dx,l1,D,upd_same,?_,ws',?_,lw',fun i a row h1 h2=>?_⟩⟩ fun c o e hc=>?_
      · rw [upd_ne npl,upd_ne npl]
        exact hl3
      · rw [upd_ne nDp,upd_ne nDp]
        exact d3
      · obtain ⟨row',h3,h4⟩:=p' i a h1
        rw [h3] at h2
        cases h2
        rw [upd_ne (ne_of h4 hp3 (by intro z; cases z)),upd_ne (ne_of h4 hp3 (by intro z; cases z))]
        exact h4
      · rw [upd_ne hc,upd_ne hc]
        exact s3 _ _ (hk2 c o e hc)
theorem D_people {C:Addr} (T:Txt mg) (HC:HCls K mg C) (S:MSrc K C "people" "House.people" s_people):MDef P w K mg base 1 C "people" ["self"] (sp_people C):=by
  refine S.mk' sc_people (fun vs H Q E h=>?_) (fun _ _ _ _ _ _ us hl=>match us,hl with | [_],_=>rfl) (fun f cdv A outer s H vs Q E hr h=>?_)
  · obtain ⟨p,beds,worths,rent,rfl,_⟩:=h
    rfl
  · obtain ⟨p,beds,worths,rent,rfl,hA,q⟩:=h
    refine ⟨_,(pss_one (ps_ret (pe_callB (call_lenK (K:=K) rfl) (by rfl) T.len boot_len' (pa_cons (pe_fldK (K:=K) rfl (pv 0) rfl) pa_nil)))),?_⟩
    obtain ⟨dx,b,w,h1,h2,h3⟩:=hA.ex
    obtain ⟨ws,h4,h5⟩:=h3.len
    refine ⟨_,rfl,p,C,dx,_,_,rfl,h1,HC.cl,HC.nW,hf_worths _ _ _,w,_,rfl,.inl (SqL.of h4),?_⟩
    rw [h5]
    exact q
theorem D_rooms {C:Addr} (T:Txt mg) (HC:HCls K mg C) (S:MSrc K C "rooms" "House.rooms" s_rooms):MDef P w K mg base 1 C "rooms" ["self"] (sp_rooms C):=by
  refine S.mk' sc_rooms (fun vs H Q E h=>?_) (fun _ _ _ _ _ _ us hl=>match us,hl with | [_],_=>rfl) (fun f cdv A outer s H vs Q E hr h=>?_)
  · obtain ⟨p,beds,worths,rent,rfl,_⟩:=h
    rfl
  · obtain ⟨p,beds,worths,rent,rfl,hA,q⟩:=h
    refine ⟨_,(pss_one (ps_ret (pe_callB (call_lenK (K:=K) rfl) (by rfl) T.len boot_len' (pa_cons (pe_fldK (K:=K) rfl (pv 0) rfl) pa_nil)))),?_⟩
    obtain ⟨dx,b,w,h1,h2,h3⟩:=hA.ex
    refine ⟨_,rfl,p,C,dx,_,_,rfl,h1,HC.cl,HC.nB,hf_beds _ _ _,b,_,rfl,.inl (SqL.of h2),?_⟩
    rw [List.length_map]
    exact q
theorem D_lying {C:Addr} (T:Txt mg) (HC:HCls K mg C) (S:Src K mg "lying" "lying" s_lying) (Mrooms:MDef P w K mg base 1 C "rooms" ["self"] (sp_rooms C)):Def P w K mg base 2 "lying" ["house","way"] (sp_lying K C):=by
  refine S.mk' sc_lying (fun vs H Q E h=>?_) (fun _ _ _ _ _ _ us hl=>match us,hl with | [_,_],_=>rfl) (fun f cdv A outer s H vs Q E hr h=>?_)
  · obtain ⟨p,a,beds,worths,rent,way,rfl,_⟩:=h
    rfl
  · obtain ⟨p,a,beds,worths,rent,way,rfl,hA,hl,hS,q⟩:=h
    refine ⟨_,(pss_one (ps_ret (pe_comp ["room","way"] [none,some 1] rfl rfl rfl (pi_range1 rfl T.range (pa_cons (pe_mdef0 Mrooms HC.cl (pv 0) (hr.mono (by decide))) pa_nil)) (fun _ _ _ _=>(pg_name (i:=0) (by decide +kernel:(["room","way"]:List PySem.Str).Nodup) rfl (Or.inl rfl))) (fun _ _ _ _=>pifs_nil) (fun _ _ _ _=>(pe_bmK (K:=K) rfl PySem.F.plainAttrs_list PySem.F.slot_list_count PySem.F.type_list_count (mt_countK (K:=K) rfl) (pv 1) (pa_cons (pv 0) pa_nil)))))),?_⟩
    obtain ⟨dx,b,w,h1,h2,h3⟩:=hA.ex
    refine ⟨_,rfl,p,dx,_,rfl,h1,hf_no _ _ _ (by decide +kernel) (by decide +kernel) (by decide +kernel),p,beds,worths,rent,rfl,hA,?_⟩
    refine ⟨_,rfl,by omega,by omega,fun D hD=>?_⟩
    refine comp_range (fun i y _=>y=.int ((way.count (i:Int):Nat):Int)) (by rw [sizeLine_eq]; omega) hD (fun _ _ _ _ _ h=>h) ?_ ?_
    · rintro i H1 ys N hi s1 d1 hN
      refine ⟨_,rfl,.inl ⟨rfl,_,s1.seq hS⟩,_,rfl,a,way,_,rfl,rfl,s1.seq hS,hN _ _ (Same.refl _) ?_⟩
      rw [Int.zero_add]
    · rintro ys H1 s1 d1 l1 r1
      have e:ys=(lyingL beds.length way).map V.int:=ints_of (by rw [l1]; simp [lyingL]) fun i y e=>by
        have hi:i < beds.length:=by have:=(List.getElem?_eq_some_iff.mp e).1; omega
        exact ⟨_,by simp [lyingL,hi],r1 i y e⟩
      rw [e] at d1
      exact q D H1 ⟨s1,hD,d1⟩
theorem D_open {C:Addr} (T:Txt mg) (HC:HCls K mg C) (S:Src K mg "open_rooms" "open_rooms" s_open_rooms) (Dlying:Def P w K mg base 2 "lying" ["house","way"] (sp_lying K C)) (Mrooms:MDef P w K mg base 1 C "rooms" ["self"] (sp_rooms C)):Def P w K mg base 3 "open_rooms" ["house","way"] (sp_open K C):=by
  refine S.mk' sc_open_rooms (fun vs H Q E h=>?_) (fun _ _ _ _ _ _ us hl=>match us,hl with | [_,_],_=>rfl) (fun f cdv A outer s H vs Q E hr h=>?_)
  · obtain ⟨p,a,beds,worths,rent,way,rfl,_⟩:=h
    rfl
  · obtain ⟨p,a,beds,worths,rent,way,rfl,hA,hl,hS,q⟩:=h
    refine ⟨_,(pss_cons (ps_set (i:=2) sc_open_rooms.nd rfl (Or.inr rfl) (pe_def Dlying (hr.mono (by decide)) rfl (pa_cons (pv 0) (pa_cons (pv 1) pa_nil))))
      (pss_one (ps_ret (pe_comp ["room","counts","house"] [none,some 2,some 0] rfl rfl rfl (pi_range1 rfl T.range (pa_cons (pe_mdef0 Mrooms HC.cl (pv 0) (hr.mono (by decide))) pa_nil)) (fun _ _ _ _=>(pg_name (i:=0) (by decide +kernel:(["room","counts","house"]:List PySem.Str).Nodup) rfl (Or.inl rfl))) (fun _ _ _ _=>(pifs_one (pt_cmpR op_lt (pe_ix (ix_seqK (K:=K) rfl) (pv 1) (pv 0) (fun _ _=>rfl)) (pe_ix (ix_seqK (K:=K) rfl) (pe_fldK (K:=K) rfl (pv 2) rfl) (pv 0) (fun _ _=>rfl)) (nomark _)))) (fun _ _ _ _=>(pv 0)))))),?_⟩
    refine ⟨_,rfl,_,rfl,p,a,beds,worths,rent,way,rfl,hA,hl,hS,fun l H1 n1=>?_⟩
    have hA1:=hA.same n1.same
    obtain ⟨dx,b,w,h1,h2,h3⟩:=hA1.ex
    refine ⟨_,rfl,p,dx,_,rfl,h1,hf_no _ _ _ (by decide +kernel) (by decide +kernel) (by decide +kernel),p,beds,worths,rent,rfl,hA1,?_⟩
    refine ⟨_,rfl,by omega,by omega,fun D hD=>?_⟩
    refine compIf_range (fun (r:Nat)=>decide (((way.count (r:Int):Nat):Int) < beds.getD r 0)) (fun (r:Nat)=>.int r) (by rw [sizeLine_eq]; omega) hD ?_ ?_ ?_
    · rintro i H2 N hi s2 hN
      have g1:((lyingL beds.length way).map V.int)[i]? = some (.int ((way.count (i:Int):Nat):Int)):=by simp [lyingL,show i < beds.length by omega]
      have g2:(beds.map V.int)[i]? = some (.int (beds.getD i 0)):=by simp [show i < beds.length by omega]
      walk_at "go"
      refine ixL (SqL.of (s2 _ _ n1.at_)) (atI_int i (by omega) g1) ?_
      refine ⟨_,rfl,p,C,dx,_,_,rfl,s2 _ _ h1,HC.cl,HC.nB,hf_beds _ _ _,_,rfl,?_⟩
      refine ixL (SqL.of (s2 _ _ h2)) (atI_int i (by omega) g2) ?_
      walk_at "go"
      exact hN _ (Same.refl _)
    · rintro i H2 N hi hp s2 hN
      walk_at "go"
      have:=hN _ (Same.refl _)
      rw [Int.zero_add]
      exact this
    · rintro H2 s2 d2
      refine q D H2 ⟨n1.same.trans s2,n1.same.free hD,?_⟩
      rw [d2]
      unfold openL
      rw [List.map_map]
      rfl
theorem D_improve {C:Addr} (T:Txt mg) (HC:HCls K mg C) (S:Src K mg "improve" "improve" s_improve) (Mrooms:MDef P w K mg base 1 C "rooms" ["self"] (sp_rooms C)):Def P w K mg base 2 "improve" ["house","way","gains","moves"] (sp_improve K C):=by
  refine S.mk' sc_improve (fun vs H Q E h=>?_) (fun _ _ _ _ _ _ us hl=>match us,hl with | [_,_,_,_],_=>rfl) (fun f cdv A outer s H vs Q E hr h=>?_)
  · obtain ⟨H0,p,a,ga,mv,beds,worths,rent,way,st,rfl,_⟩:=h
    rfl
  · obtain ⟨H0,p,a,ga,mv,beds,worths,rent,way,st,rfl,s0,fg,fm,hA,ha,bok,hlt,hfit,hopt,hok,hM,q⟩:=h
    refine ⟨_,(pss_one (ps_for PassesOwn.never rfl (pi_range1 rfl T.range (pa_cons (pe_callB (call_lenK (K:=K) rfl) (by rfl) T.len boot_len' (pa_cons (pv 1) pa_nil)) pa_nil)) (pg_name (i:=4) sc_improve.nd rfl (Or.inl rfl))
      (pss_cons (ps_set (i:=5) sc_improve.nd rfl (Or.inl rfl) (pe_ix (ix_seqK (K:=K) rfl) (pv 1) (pv 4) (fun _ _=>rfl)))
      (pss_cons (ps_set (i:=6) sc_improve.nd rfl (Or.inl rfl) (pe_ix (ix_seqK (K:=K) rfl) (pe_fldK (K:=K) rfl (pv 0) rfl) (pv 4) (fun _ _=>rfl)))
      (pss_one (ps_for PassesOwn.never rfl (pi_range1 rfl T.range (pa_cons (pe_mdef0 Mrooms HC.cl (pv 0) (hr.mono (by decide))) pa_nil)) (pg_name (i:=7) sc_improve.nd rfl (Or.inl rfl))
      (pss_cons (ps_set (i:=8) sc_improve.nd rfl (Or.inl rfl) (pe_op op_sub (pe_op op_add (pe_ix (ix_seqK (K:=K) rfl) (pv 2) (pv 5) (fun _ _=>rfl)) (pe_ix (ix_seqK (K:=K) rfl) (pv 6) (pv 7) (fun _ _=>rfl))) (pe_ix (ix_seqK (K:=K) rfl) (pv 6) (pv 5) (fun _ _=>rfl))))
      (pss_one (ps_if (pt_cmpR op_gt (pv 8) (pe_ix (ix_seqK (K:=K) rfl) (pv 2) (pv 7) (fun _ _=>rfl)) (nomark _)) (pss_cons (ps_asg (pv 8) (pg_sub (pv 2) (pv 7) set_list))
      (pss_one (ps_asg (pe_op op_cat' (pe_ix (ix_seqK (K:=K) rfl) (pv 3) (pv 5) (fun _ _=>rfl)) (pe_lst' (pa_cons (pe_tup' (pa_cons (pv 4) (pa_cons (pv 7) pa_nil))) pa_nil))) (pg_sub (pv 3) (pv 7) set_list)))) pss_nil))))))))),?_⟩
    obtain ⟨dx,b,w,h1,h2,h3⟩:=hA.ex
    obtain ⟨ws,hw,hR⟩:=id h3
    have l1:=bok.w1
    have l2:=bok.b1
    have s0':∀ {H'},But2 ga mv H H'→Same H0 H':=fun k c o e=>k c o (s0 _ _ e) (ne_of_none e fg) (ne_of_none e fm)
    have hway:=fit_lt hfit
    refine ⟨_,rfl,a,_,rfl,.inl (SqL.of (s0 _ _ ha)),?_⟩
    rw [wI_len]
    refine ⟨_,rfl,by omega,by omega,?_⟩
    rw [Int.toNat_natCast]
    refine for_range (fun i σ H'=>(∃ o4 o5 o6 o7 o8,σ=[some (.ref p),some (.ref a),some (.ref ga),some (.ref mv),o4,o5,o6,o7,o8])∧But2 ga mv H H'∧MovesAt H' ga mv ((List.range i).foldl (person (wF worths) way beds.length) st).1 ((List.range i).foldl (person (wF worths) way beds.length) st).2∧Ok (wF worths) way beds.length ((List.range i).foldl (person (wF worths) way beds.length) st))
      ⟨⟨_,_,_,_,_,rfl⟩,fun c o e _ _=>e,hM,hok⟩ ?_ ?_
    · rintro i σ H1 hi ⟨⟨o4,o5,o6,o7,o8,rfl⟩,k1,hM1,ok1⟩
      have S1:=s0' k1
      have hl:way[i]? = some (way.getD i 0):=by simp [List.getD,hi]
      have hlb:way.getD i 0 < beds.length:=hway _ (List.mem_of_getElem? hl)
      generalize hle:way.getD i 0=l at *
      have hi':i < worths.length:=by omega
      have hrow:worths[i]? = some worths[i]:=by simp [hi']
      have hrl:=bok.rows _ (List.getElem_mem hi')
      obtain ⟨ra,g1,g2,g3⟩:=hR.at_ hrow
      have wfe:∀ r,wF worths i r=(worths[i]).getD r 0:=fun r=>by simp [wF,List.getD,hi']
      refine ⟨_,rfl,_,rfl,?_⟩
      refine ixL (SqL.of (S1 _ _ ha)) (atI_int i (by omega) (wI_at hl)) ?_
      refine ⟨_,rfl,p,C,dx,_,_,rfl,S1 _ _ h1,HC.cl,HC.nW,hf_worths _ _ _,_,rfl,?_⟩
      refine ixL (SqL.of (S1 _ _ hw)) (atI_int i (by omega) g2) ?_
      refine ⟨_,rfl,p,dx,_,rfl,S1 _ _ h1,hf_no _ _ _ (by decide +kernel) (by decide +kernel) (by decide +kernel),p,beds,worths,rent,rfl,hA.same S1,?_⟩
      refine ⟨_,rfl,by omega,by omega,?_⟩
      rw [Int.toNat_natCast]
      have hstep:∀ j,j≤beds.length→Ok (wF worths) way beds.length ((List.range j).foldl (relax (wF worths) i l) ((List.range i).foldl (person (wF worths) way beds.length) st)):=fun j hj=>fold_inv (I:=Ok (wF worths) way beds.length) ok1 fun b r hr ok=>relax_ok hfit hopt hl hlb (by have:=List.mem_range.mp hr; omega) ok
      have hper:(List.range (i + 1)).foldl (person (wF worths) way beds.length) st=(List.range beds.length).foldl (relax (wF worths) i l) ((List.range i).foldl (person (wF worths) way beds.length) st):=by
        rw [List.range_succ,List.foldl_append]
        show person _ _ _ _ i=_
        unfold person
        rw [hle]
      rw [hper]
      generalize (List.range i).foldl (person (wF worths) way beds.length) st=st1 at *
      refine for_range (fun j σ H'=>(∃ o7 o8,σ=[some (.ref p),some (.ref a),some (.ref ga),some (.ref mv),some (.int (0 + (i:Int))),some (.int (l:Int)),some (.ref ra),o7,o8])∧But2 ga mv H H'∧MovesAt H' ga mv ((List.range j).foldl (relax (wF worths) i l) st1).1 ((List.range j).foldl (relax (wF worths) i l) st1).2)
        ⟨⟨_,_,rfl⟩,k1,hM1⟩ ?_ ?_
      · rintro j σ H2 hj ⟨⟨o7,o8,rfl⟩,k2,hM2⟩
        have S2:=s0' k2
        have ok2:=hstep j (by omega)
        have hsucc:(List.range (j + 1)).foldl (relax (wF worths) i l) st1=relax (wF worths) i l ((List.range j).foldl (relax (wF worths) i l) st1) j:=by
          rw [List.range_succ,List.foldl_append]
          rfl
        rw [hsucc]
        clear hsucc
        generalize (List.range j).foldl (relax (wF worths) i l) st1=st2 at *
        obtain ⟨gs,ms⟩:=st2
        have lg:gs.length=beds.length:=ok2.l1
        have lm:ms.length=beds.length:=ok2.l2
        have gl:(gs.map V.int)[l]? = some (.int (gs.getD l 0)):=by simp [lg,hlb,List.getD]
        have gj:(gs.map V.int)[j]? = some (.int (gs.getD j 0)):=by simp [lg,hj,List.getD]
        have wj:(worths[i].map V.int)[j]? = some (.int ((worths[i]).getD j 0)):=by simp [hrl,hj,List.getD]
        have wl:(worths[i].map V.int)[l]? = some (.int ((worths[i]).getD l 0)):=by simp [hrl,hlb,List.getD]
        refine ⟨_,rfl,_,rfl,?_⟩
        refine ixL (SqL.of hM2.g) (atI_int l rfl gl) ?_
        refine ⟨_,rfl,_,rfl,?_⟩
        refine ixL (SqL.of (S2 _ _ g3)) (atI_int j (by omega) wj) ?_
        refine ⟨_,_,rfl,rfl,_,rfl,_,rfl,?_⟩
        refine ixL (SqL.of (S2 _ _ g3)) (atI_int l rfl wl) ?_
        refine ⟨_,_,rfl,rfl,?_⟩
        refine ⟨_,rfl,_,rfl,_,rfl,?_⟩
        refine ixL (SqL.of hM2.g) (atI_int j (by omega) gj) ?_
        refine ⟨_,_,rfl,rfl,?_⟩
        have hgain:gs.getD l 0 + worths[i].getD j 0 - worths[i].getD l 0=gs.getD l 0 + wF worths i j - wF worths i l:=by rw [wfe,wfe]
        dsimp only
        rw [hgain]
        refine ⟨_,rfl,ite2 (fun hgt=>?_) (fun hgt=>?_)⟩
        · have hgt':gs.getD j 0 < gs.getD l 0 + wF worths i j - wF worths i l:=of_decide_eq_true hgt
          have hrel:relax (wF worths) i l (gs,ms) j=(gs.set j (gs.getD l 0 + wF worths i j - wF worths i l),ms.set j (ms.getD l [] ++ [(i,j)])):=if_pos hgt'
          rw [hrel]
          generalize gs.getD l 0 + wF worths i j - wF worths i l=gn at *
          refine ⟨_,rfl,_,rfl,_,rfl,ga,_,_,j,rfl,rfl,hM2.g,?_,?_⟩
          · unfold ixN
            rw [if_pos (by omega),if_pos (by simp; omega)]
            simp
          rw [← List.map_set]
          have hM3:=hM2.gset (gs':=gs.set j gn)
          have k3:But2 ga mv H (upd H2 ga (.lst ((gs.set j gn).map V.int))):=fun c o e h1 h2=>by rw [upd_ne h1]; exact k2 c o e h1 h2
          generalize upd H2 ga (.lst ((gs.set j gn).map V.int))=H3 at *
          obtain ⟨ls,e1,e2,e3,e4⟩:=hM3.ex
          have e2':ls.length=ms.length:=e2
          have hll0:(ls.map V.ref)[l]? = some (.ref (ls[l]'(by omega))):=by simp [show l < ls.length by omega]
          have hll:ls[l]? = some (ls[l]'(by omega)):=by simp [show l < ls.length by omega]
          have hml:ms[l]? = some (ms.getD l []):=by simp [List.getD,show l < ms.length by omega]
          obtain ⟨ts,c1,c2,c3⟩:=e4 l _ _ hll hml
          obtain ⟨r0,cc,gg,f1,f2,_⟩:=ok2.at_ l hlb
          have hclen:ts.length≤10:=by
            have:=nodup_le _ _ f2.nodup f2.lt
            have f1':ms.getD l []=(way.length,r0) :: cc:=f1
            rw [c2,f1']
            simp at this ⊢
            omega
          refine ⟨_,rfl,_,rfl,?_⟩
          refine ixL (SqL.of e1) (atI_int l rfl hll0) ?_
          refine ⟨_,rfl,_,rfl,len_small (by simp),fun t4 H4 n4=>⟨len_small (by simp),fun t5 H5 n5=>?_⟩⟩
          have S5:Same H3 H5:=n4.same.trans n5.same
          refine ⟨ls[l]'(by omega),t5,_,_,rfl,rfl,S5 _ _ c1,n5.at_,by rw [sizeLine_eq]; simp; omega,fun t6 H6 n6=>?_⟩
          have S6:Same H3 H6:=S5.trans n6.same
          refine ⟨_,rfl,_,rfl,mv,_,_,j,rfl,rfl,S6 _ _ e1,?_,?_⟩
          · unfold ixN
            rw [if_pos (by omega),if_pos (by simp; omega)]
            simp
          have hM6:=hM3.same S6
          refine ⟨⟨_,_,rfl⟩,fun c o e z1 z2=>?_,hM6.mset (S6 _ _ e1) (by omega) (fun z=>?_) (fun z=>?_) (ChainAt.snoc (m:=(i,j)) n6.at_ c2 (fun j' t' m' a1 a2=>S6 _ _ (c3 j' t' m' a1 a2)) ?_)⟩
          · rw [upd_ne z2]
            exact S6 _ _ (k3 c o e z1 z2)
          · have:=n6.none
            rw [z,S5 _ _ hM3.g] at this
            cases this
          · have:=n6.none
            rw [z,S5 _ _ e1] at this
            cases this
          · have:=n6.same _ _ (n5.same _ _ n4.at_)
            simpa using this
        · have hrel:relax (wF worths) i l (gs,ms) j=(gs,ms):=if_neg (fun z=>hgt (decide_eq_true z))
          rw [hrel]
          exact ⟨⟨_,_,rfl⟩,k2,hM2⟩
      · rintro σ H2 ⟨⟨o7,o8,rfl⟩,k2,hM2⟩
        exact ⟨⟨_,_,_,_,_,rfl⟩,k2,hM2,hstep _ (Nat.le_refl _)⟩
    · rintro σ H1 ⟨⟨o4,o5,o6,o7,o8,rfl⟩,k1,hM1,ok1⟩
      exact q H1 k1 hM1
theorem D_bring {C cL PT:Addr} (T:Txt mg) (HC:HCls K mg C) (S:SrcL K mg "bring_in" "bring_in" s_bring_in cL PT) (BA:base.BuiltinsAt mg PT) (Dopen_rooms:Def P w K mg base 3 "open_rooms" ["house","way"] (sp_open K C)) (Dimprove:Def P w K mg base 2 "improve" ["house","way","gains","moves"] (sp_improve K C)) (Mrooms:MDef P w K mg base 1 C "rooms" ["self"] (sp_rooms C)):Def P w K mg base 4 "bring_in" ["house","way"] (sp_bring2 K C PT lamPos "bring_in.<locals>.<lambda>"):=by
  refine S.mkL sc_bring_in (fun vs H Q E h=>?_) (fun _ _ _ _ _ _ us hl=>match us,hl with | [_,_],_=>rfl) (fun f A outer s H vs Q E hr h=>?_)
  · obtain ⟨p,a,beds,worths,rent,way,rfl,_⟩:=h
    rfl
  · obtain ⟨p,a,beds,worths,rent,way,rfl,hA,ha,bok,hlt,hsum,hb0,hfit,hopt,hL,q⟩:=h
    refine ⟨_,(pss_cons (ps_set (i:=2) sc_bring_in.nd rfl (Or.inr rfl) (pe_callB (call_lenK (K:=K) rfl) (by rfl) T.len boot_len' (pa_cons (pv 1) pa_nil)))
      (pss_cons (ps_set (i:=8) sc_bring_in.nd rfl (Or.inr rfl) (pe_callTy (call_list_ofK (K:=K) rfl) (by rfl) T.list boot_list' (pa_cons (pe_ix (ix_seqK (K:=K) rfl) (pe_fldK (K:=K) rfl (pv 0) rfl) (pv 2) (fun _ _=>rfl)) pa_nil)))
      (pss_cons (ps_setC (i:=3) sc_bring_in.nd rfl (Or.inl rfl) ["room","newcomer"] [none,some 2] rfl rfl rfl (pi_range1 rfl T.range (pa_cons (pe_mdef0 Mrooms HC.cl (pv 0) (hr.mono (by decide))) pa_nil)) (fun _ _ _ _=>(pg_name (i:=0) (by decide +kernel:(["room","newcomer"]:List PySem.Str).Nodup) rfl (Or.inl rfl))) (fun _ _ _ _=>pifs_nil) (fun _ _ _ _=>(pe_lst' (pa_cons (pe_tup' (pa_cons (pv 1) (pa_cons (pv 0) pa_nil))) pa_nil))))
      (pss_cons (ps_for PassesOwn.never rfl (pi_range1 rfl T.range (pa_cons (pe_mdef0 Mrooms HC.cl (pv 0) (hr.mono (by decide))) pa_nil)) (pg_name (i:=4) sc_bring_in.nd rfl (Or.inl rfl))
      (pss_one (ps_expr (pe_def Dimprove (hr.mono (by decide)) rfl (pa_cons (pv 0) (pa_cons (pv 1) (pa_cons (pv 8) (pa_cons (pv 3) pa_nil))))))))
      (pss_cons (ps_set (i:=5) sc_bring_in.nd rfl (Or.inl rfl) (pe_maxLam2 (x:="room") (Nc:=["gains"]) (ix:=[some 8]) S.hd BA rfl rfl T.max hr.dep (pa_cons (pe_def Dopen_rooms (hr.mono (by decide)) rfl (pa_cons (pv 0) (pa_cons (pv 1) pa_nil))) pa_nil) (fun _ _ _ _ _=>(pe_ix (ix_seqK (K:=K) rfl) (pv 1) (pv 0) (fun _ _=>rfl))) rfl rfl rfl rfl rfl rfl (fun _ _ _ _ _=>rfl) rfl rfl))
      (pss_cons (ps_set (i:=6) sc_bring_in.nd rfl (Or.inl rfl) (pe_op op_cat' (pv 1) (pe_lst' (pa_cons (pv 5) pa_nil))))
      (pss_cons (ps_for PassesOwn.never rfl (pi_listK (K:=K) rfl (pe_ix (ix_seqK (K:=K) rfl) (pv 3) (pv 5) (fun _ _=>rfl))) (pg_name (i:=7) sc_bring_in.nd rfl (Or.inl rfl))
      (pss_one (ps_asg (pe_ix (ix_seqK (K:=K) rfl) (pv 7) pe_int (fun _ _=>rfl)) (pg_sub (pv 6) (pe_ix (ix_seqK (K:=K) rfl) (pv 7) pe_int (fun _ _=>rfl)) set_list))))
      (pss_one (ps_ret (pv 6)))))))))),?_⟩
    obtain ⟨dx,b,w,h1,h2,h3⟩:=hA.ex
    obtain ⟨ws,hw,hR⟩:=id h3
    have l1:=bok.w1
    have l2:=bok.b1
    have hway:=fit_lt hfit
    have hrow:worths[way.length]? = some worths[way.length]:=by simp [hlt]
    have hrl:=bok.rows _ (List.getElem_mem hlt)
    obtain ⟨ra,g1,g2,g3⟩:=hR.at_ hrow
    refine ⟨_,rfl,a,_,rfl,.inl (SqL.of ha),?_⟩
    rw [wI_len]
    refine ⟨_,rfl,p,C,dx,_,_,rfl,h1,HC.cl,HC.nW,hf_worths _ _ _,_,rfl,?_⟩
    refine ixL (SqL.of hw) (atI_int way.length rfl g2) ?_
    refine ⟨ra,_,rfl,.inl (SqL.of g3),fun ga H1 n1=>?_⟩
    refine ⟨_,rfl,p,dx,_,rfl,n1.same _ _ h1,hf_no _ _ _ (by decide +kernel) (by decide +kernel) (by decide +kernel),p,beds,worths,rent,rfl,hA.same n1.same,?_⟩
    refine ⟨_,rfl,by omega,by omega,fun mv hmv=>?_⟩
    rw [Int.toNat_natCast]
    have ngm:ga≠mv:=ne_of_none n1.at_ hmv
    refine comp_range (fun i y H => ∃ l t,y=.ref l∧l≠mv∧l≠ga∧t≠mv∧H l=some (.lst [.ref t])∧H t=some (.tup [.int (way.length:Int),.int (i:Int)])) (by rw [sizeLine_eq]; omega) hmv (fun i y H H' k ⟨l,t,e,ne1,ne2,ne3,h1,h2⟩=>⟨l,t,e,ne1,ne2,ne3,k l _ ne1 h1,k t _ ne3 h2⟩) ?_ ?_
    · rintro i H2 ys N hi s2 d2 hN
      refine ⟨_,rfl,_,rfl,len_small (by simp),fun t3 H3 n3=>⟨len_small (by simp),fun l3 H4 n4=>?_⟩⟩
      refine hN _ _ (n3.same.trans n4.same) ⟨l3,t3,rfl,?_,?_,?_,n4.at_,?_⟩
      · exact (ne_of_none (n3.same _ _ d2) n4.none).symm
      · exact (ne_of_none (n3.same _ _ (s2 _ _ n1.at_)) n4.none).symm
      · exact (ne_of_none d2 n3.none).symm
      · have:=n4.same _ _ n3.at_
        simpa using this
    rintro ys H2 s2 d2 ly r2
    obtain ⟨ls,els,pls⟩:=refs_ex (P:=fun i l => ∃ t,l≠mv∧l≠ga∧H2 l=some (.lst [.ref t])∧H2 t=some (.tup [.int (way.length:Int),.int (i:Int)])) (fun i y e=>by
      obtain ⟨l,t,e1,e2,e3,_,e4,e5⟩:=r2 i y e
      exact ⟨l,e1,t,e2,e3,e4,e5⟩)
    subst els
    have lls:ls.length=beds.length:=by simpa using ly
    have S2:Same H H2:=n1.same.trans s2
    have hrowe:(worths[way.length])=(List.range beds.length).map fun r=>wF worths way.length r:=by
      refine List.ext_getElem (by simp [hrl]) fun i z1 z2=>?_
      simp [wF,List.getD,hlt,z1]
    have hM2:MovesAt H2 ga mv (first (wF worths) way beds.length).1 (first (wF worths) way beds.length).2:=by
      refine ⟨ngm,?_,ls,d2,by simp [first,lls],fun x hx=>?_,fun i x c z1 z2=>?_⟩
      · rw [s2 _ _ n1.at_,hrowe]
        rfl
      · obtain ⟨i,hi,rfl⟩:=List.mem_iff_getElem.mp hx
        obtain ⟨t,e1,e2,_⟩:=pls i _ (List.getElem?_eq_getElem hi)
        exact ⟨e2,e1⟩
      · obtain ⟨t,e1,e2,e3,e4⟩:=pls i x z1
        have hi:i < beds.length:=by rw [← lls]; exact (List.getElem?_eq_some_iff.mp z1).1
        have ec:c=[(way.length,i)]:=by
          simp [first,hi] at z2
          exact z2.symm
        subst ec
        refine ⟨[t],e3,rfl,fun j t' m' y1 y2=>?_⟩
        have hj:j=0:=by have:=(List.getElem?_eq_some_iff.mp y1).1; simp at this; omega
        subst hj
        simp at y1 y2
        subst y1 y2
        exact e4
    have hok0:Ok (wF worths) way beds.length (first (wF worths) way beds.length):=first_ok
    refine ⟨_,rfl,p,dx,_,rfl,S2 _ _ h1,hf_no _ _ _ (by decide +kernel) (by decide +kernel) (by decide +kernel),p,beds,worths,rent,rfl,hA.same S2,?_⟩
    refine ⟨_,rfl,by omega,by omega,?_⟩
    rw [Int.toNat_natCast]
    refine for_range (fun i σ H'=>(∃ o4 o5 o6 o7,σ=[some (.ref p),some (.ref a),some (.int (way.length:Int)),some (.ref mv),o4,o5,o6,o7,some (.ref ga)])∧Same H H'∧MovesAt H' ga mv (turns (wF worths) way beds.length (first (wF worths) way beds.length) i).1 (turns (wF worths) way beds.length (first (wF worths) way beds.length) i).2)
      ⟨⟨_,_,_,_,rfl⟩,S2,hM2⟩ ?_ ?_
    · rintro i σ H3 hi ⟨⟨o4,o5,o6,o7,rfl⟩,S3,hM3⟩
      refine ⟨_,rfl,_,rfl,_,rfl,_,rfl,H,p,a,ga,mv,beds,worths,rent,way,_,rfl,S3,n1.none,n1.same.free hmv,hA,ha,bok,hlt,hfit,hopt,turns_ok hfit hopt hway i,hM3,fun H4 k4 hM4=>?_⟩
      refine ⟨⟨_,_,_,_,rfl⟩,fun c o e=>k4 c o (S3 _ _ e) (ne_of_none e n1.none) (ne_of_none e (n1.same.free hmv)),?_⟩
      rw [turns_succ]
      exact hM4
    rintro σ H3 ⟨⟨o4,o5,o6,o7,rfl⟩,S3,hM3⟩
    have hok3:Ok (wF worths) way beds.length (turns (wF worths) way beds.length (first (wF worths) way beds.length) beds.length):=turns_ok hfit hopt hway _
    have hbr:=fun e he hbest=>brought (W:=wF worths) (way:=way) (R:=beds.length) (bF_out beds) hfit hopt (e:=e) he hbest
    generalize turns (wF worths) way beds.length (first (wF worths) way beds.length) beds.length=st at *
    obtain ⟨gs,ms⟩:=st
    have lg:gs.length=beds.length:=hok3.l1
    have lm:ms.length=beds.length:=hok3.l2
    refine ⟨_,rfl,_,rfl,p,a,beds,worths,rent,wI way,rfl,hA.same S3,by omega,SqL.of (S3 _ _ ha),fun ol H4 n4=>?_⟩
    have S4:Same H H4:=S3.trans n4.same
    obtain ⟨r1,hr1,hr2⟩:=open_ex hsum hb0
    have hM4:=hM3.same n4.same
    refine ⟨ol,openL beds (wI way),fun z=>gs.getD z.toNat 0,rfl,SqL.of n4.at_,List.length_pos_of_mem (mem_open.mpr ⟨r1,rfl,hr1,hr2⟩),hL.same S4,fun z hz H5 s5=>?_,fun z hz hmax H5 s5 o5 hL5=>?_⟩
    · obtain ⟨r,rfl,hr,_⟩:=mem_open.mp hz
      have gr:(gs.map V.int)[r]? = some (.int (gs.getD r 0)):=by simp [lg,hr,List.getD]
      refine ⟨_,rfl,_,rfl,?_⟩
      refine ixL (SqL.of (s5.to _ _ hM4.g rfl)) (atI_int r rfl gr) ?_
      exact ⟨rfl,rfl⟩
    obtain ⟨e,rfl,he,hec⟩:=mem_open.mp hz
    have hbest:∀ r,way.count r < bF beds r→gs.getD r 0≤gs.getD e 0:=fun r hr=>by
      have hrl':r < beds.length:=by
        refine Classical.byContradiction fun z=>?_
        have:=bF_out beds r (by omega)
        omega
      have:=hmax _ (mem_open.mpr ⟨r,rfl,hrl',hr⟩)
      simpa using this
    obtain ⟨b1,b2,b3⟩:=hbr e hec hbest _ rfl
    have S5:SameB H H5:=S4.b.trans s5
    refine ⟨_,rfl,_,rfl,len_small (by simp),fun t6 H6 n6=>?_⟩
    refine ⟨a,t6,_,_,rfl,rfl,n6.same _ _ (S5.to _ _ ha rfl),n6.at_,by rw [sizeLine_eq,wI_len]; simp; omega,fun br H7 n7=>?_⟩
    have s7:SameB H4 H7:=s5.trans (n6.same.trans n7.same).b
    have S7:SameB H H7:=S4.b.trans s7
    have hbr7:H7 br=some (.lst ((wI (way ++ [e])).map V.int)):=by
      rw [n7.at_]
      simp [wI]
    obtain ⟨ls3,e1,e2,e3,e4⟩:=hM4.ex
    have e2':ls3.length=ms.length:=e2
    have hlle:(ls3.map V.ref)[e]? = some (.ref (ls3[e]'(by omega))):=by simp [show e < ls3.length by omega]
    have hme:ms[e]? = some (ms.getD e []):=by simp [List.getD,show e < ms.length by omega]
    obtain ⟨ts,c1,c2,c3⟩:=e4 e (ls3[e]'(by omega)) _ (by simp [show e < ls3.length by omega]) hme
    have fbr:H br=none:=S5.th _ (n6.same.free n7.none)
    have c1':H7 (ls3[e]'(by omega))=some (.lst (ts.map V.ref)):=s7.to _ _ c1 rfl
    have ncb:ls3[e]'(by omega)≠br:=ne_of_none (n6.same _ _ (s5.to _ _ c1 rfl)) n7.none
    obtain ⟨r0,cc,gg,f1,f2,_⟩:=hok3.at_ e he
    have f1':ms.getD e []=(way.length,r0) :: cc:=f1
    have hpers:∀ m∈ms.getD e [],m.1 < (way ++ [e]).length:=fun m hm=>by
      rw [f1'] at hm
      simp
      rcases List.mem_cons.mp hm with z | z
      · rw [z]; omega
      · have:=(f2.persons m z).1; omega
    have alen:∀ (v:List Nat) (c:List (Nat × Nat)),(app v c).length=v.length:=fun v c=>by
      induction c generalizing v with
      | nil=>rfl
      | cons m c ih=>show (app (v.set m.1 m.2) c).length=_; rw [ih]; simp
    clear f1 f2
    generalize ms.getD e []=ch at *
    refine ⟨_,rfl,_,rfl,?_⟩
    refine ixL (SqL.of (s7.to _ _ e1 rfl)) (atI_int e rfl hlle) ?_
    generalize ls3[e]'(by omega)=ca at *
    refine ⟨ca,rfl,⟨_,SqL.of c1'⟩,?_⟩
    refine for_list (xs:=ts.map V.ref) (fun i σ H'=>(∃ o4 o7,σ=[some (.ref p),some (.ref a),some (.int (way.length:Int)),some (.ref mv),o4,some (.int (e:Int)),some (.ref br),o7,some (.ref ga)])∧(∀ b o,H7 b=some o→b≠br→H' b=some o)∧H' br=some (.lst ((wI (app (way ++ [e]) (ch.take i))).map V.int))∧∀ b,H' b=none→H7 b=none)
      ⟨⟨_,_,rfl⟩,fun _ _ e _=>e,hbr7,fun _ z=>z⟩ (fun i σ H' _ h=>SqL.of (h.2.1 _ _ c1' ncb)) ?_ ?_
    · rintro i x σ H8 hx ⟨⟨o4',o7',rfl⟩,k8,hb8,z8⟩
      obtain ⟨t,ht,rfl⟩:=ref_at hx
      have hi:i < ch.length:=by rw [← c2]; exact (List.getElem?_eq_some_iff.mp ht).1
      have hm:ch[i]? = some ch[i]:=by simp [hi]
      have ht7:=s7.to _ _ (c3 i t _ ht hm) rfl
      have ht8:=k8 _ _ ht7 (ne_of ht7 hbr7 (by intro z; cases z))
      have hp:=hpers _ (List.getElem_mem hi)
      refine ⟨_,rfl,?_⟩
      refine ixT (SqT.of ht8) rfl ?_
      refine ⟨_,rfl,_,rfl,?_⟩
      refine ixT (SqT.of ht8) rfl ?_
      refine ⟨br,_,_,ch[i].1,rfl,rfl,hb8,?_,?_⟩
      · unfold ixN
        rw [if_pos (by omega),if_pos (by rw [wI_len,alen]; omega)]
        simp
      refine ⟨⟨_,_,rfl⟩,fun c o e' hne=>by rw [upd_ne hne]; exact k8 c o e' hne,?_,fun c e'=>z8 c (by
        by_cases hc:c=br
        · subst hc; rw [upd_same] at e'; cases e'
        · rw [upd_ne hc] at e'; exact e')⟩
      have et:ch.take (i + 1)=ch.take i ++ [ch[i]]:=by rw [List.take_succ,hm]; rfl
      rw [upd_same,et,app_snoc]
      simp [wI,List.map_set]
    · rintro σ H8 ⟨⟨o4',o7',rfl⟩,k8,hb8,z8⟩
      have hend:(ts.map V.ref).length=ch.length:=by rw [List.length_map,c2]
      rw [hend,List.take_length] at hb8
      refine ⟨_,rfl,?_⟩
      refine q br _ H8 ⟨fun c o e' z=>k8 _ _ (S7.to _ _ e' z) (ne_of_none e' fbr),fun c e'=>S7.th _ (z8 _ e')⟩ (fun c o e' hc=>k8 _ _ (n7.same _ _ (n6.same _ _ (o5 _ _ (S4 _ _ e') hc))) (ne_of_none e' fbr)) fbr hb8 ?_ b1 b2 fun v hv=>b3 v (hv.trans b1)
      have hL7:=(hL5.same n6.same).same n7.same
      rcases hL7 with z | ⟨c',oc,vs,t,z1,z2,z3⟩
      · exact .inl (k8 _ _ z (ne_of z hbr7 (by intro w; cases w)))
      · exact .inr ⟨c',oc,vs,t,k8 _ _ z1 (ne_of z1 hbr7 (by intro w; cases w)),k8 _ _ z2 (ne_of z2 hbr7 (by intro w; cases w)),z3⟩
theorem D_best {C PT:Addr} (T:Txt mg) (HC:HCls K mg C) (S:Src K mg "best_way" "best_way" s_best_way) (Dbring_in:Def P w K mg base 4 "bring_in" ["house","way"] (sp_bring2 K C PT lamPos "bring_in.<locals>.<lambda>")) (Mpeople:MDef P w K mg base 1 C "people" ["self"] (sp_people C)):Def P w K mg base 5 "best_way" ["house"] (sp_best2 K C PT lamPos "bring_in.<locals>.<lambda>"):=by
  refine S.mk' sc_best_way (fun vs H Q E h=>?_) (fun _ _ _ _ _ _ us hl=>match us,hl with | [_],_=>rfl) (fun f cdv A outer s H vs Q E hr h=>?_)
  · obtain ⟨p,beds,worths,rent,rfl,_⟩:=h
    rfl
  · obtain ⟨p,beds,worths,rent,rfl,hA,bok,hsum,hb0,hL,q⟩:=h
    refine ⟨_,(pss_cons (ps_set (i:=1) sc_best_way.nd rfl (Or.inl rfl) (pe_lst' pa_nil))
      (pss_cons (ps_while PassesOwn.never (pt_cmpR op_lt (pe_callB (call_lenK (K:=K) rfl) (by rfl) T.len boot_len' (pa_cons (pv 1) pa_nil)) (pe_mdef0 Mpeople HC.cl (pv 0) (hr.mono (by decide))) (nomark _)) (pss_one (ps_set (i:=1) sc_best_way.nd rfl (Or.inl rfl) (pe_def Dbring_in (hr.mono (by decide)) rfl (pa_cons (pv 0) (pa_cons (pv 1) pa_nil))))))
      (pss_one (ps_ret (pv 1))))),?_⟩
    have l1:=bok.w1
    walk_at "go"
    refine fun l0 H1 n1=>?_
    refine ⟨fun m σ H' => ∃ (l:Addr) (way:List Nat),σ=[some (.ref p),some (.ref l)]∧SameB H H'∧SameO PT H H'∧H l=none∧H' l=some (.lst ((wI way).map V.int))∧LamAt H' PT lamPos "bring_in.<locals>.<lambda>"∧m + way.length=worths.length∧Fit (bF beds) way∧Opt beds worths way,⟨worths.length,l0,[],rfl,n1.same.b,n1.same.o,n1.none,n1.at_,hL.same n1.same,rfl,fun r=>by simp,fun v hv _=>by
      have:v=[]:=List.length_eq_zero_iff.mp hv
      rw [this]
      exact Int.le_refl _⟩,?_⟩
    rintro m σ H2 ⟨l,way,rfl,s2,o2,hl0,hl,hL2,hm,hfit,hopt⟩
    have hA2:=hA.sameB s2
    obtain ⟨dx,b,w,h1,h2,h3⟩:=hA2.ex
    refine ⟨_,rfl,l,_,rfl,.inl (SqL.of hl),?_⟩
    rw [wI_len]
    refine ⟨_,rfl,p,dx,_,rfl,h1,hf_no _ _ _ (by decide +kernel) (by decide +kernel) (by decide +kernel),p,beds,worths,rent,rfl,hA2,?_⟩
    refine ⟨_,_,rfl,rfl,_,rfl,ite2 (fun hlt=>?_) (fun hge=>?_)⟩
    · have hlt':way.length < worths.length:=by
        have:(way.length:Int) < worths.length:=of_decide_eq_true hlt
        omega
      refine ⟨fun σ' H' => ∃ (l:Addr) (way':List Nat),σ'=[some (.ref p),some (.ref l)]∧SameB H H'∧SameO PT H H'∧H l=none∧H' l=some (.lst ((wI way').map V.int))∧LamAt H' PT lamPos "bring_in.<locals>.<lambda>"∧way'.length=way.length + 1∧Fit (bF beds) way'∧Opt beds worths way',fun σ' H' ⟨l',way',e1,e2,e2',e3,e4,e5,e6,e7,e8⟩=>⟨m - 1,by omega,l',way',e1,e2,e2',e3,e4,e5,by omega,e7,e8⟩,?_⟩
      refine ⟨_,rfl,_,rfl,p,l,beds,worths,rent,way,rfl,hA2,hl,bok,hlt',by omega,hb0,hfit,hopt,hL2,fun l' way' H3 s3 o3 f3 h3' hL3 e1 e2 e3=>?_⟩
      exact ⟨l',way',rfl,s2.trans s3,o2.trans o3,s2.th _ f3,h3',hL3,e1,e2,e3⟩
    · walk_at "go"
      have hge':way.length=worths.length:=by
        have:¬ (way.length:Int) < worths.length:=fun z=>hge (decide_eq_true z)
        omega
      exact q l way H2 s2 o2 hl0 hl hL2 hge' hfit hopt
theorem D_ainit {CH C:Addr} (T:Txt mg) (AC:ACls K C) (S:MSrc K C "__init__" "Aim.__init__" s_Aim___init__):MDef P w K mg base 1 C "__init__" ["self","house","way"] (sp_ainit CH C):=by
  refine S.mk' sc_Aim___init__ (fun vs H Q E h=>?_) (fun _ _ _ _ _ _ us hl=>match us,hl with | [_,_,_],_=>rfl) (fun f cdv A outer s H vs Q E hr h=>?_)
  · obtain ⟨p,dx,hp,wa,beds,worths,rent,way,rfl,_⟩:=h
    rfl
  · obtain ⟨p,dx,hp,wa,beds,worths,rent,way,rfl,hP,hA,hw,q⟩:=h
    refine ⟨_,(pss_cons (ps_fldK (K:=K) rfl (pv 0) (pv 1) rfl)
      (pss_one (ps_fldK (K:=K) rfl (pv 0) (pe_callTy (call_list_ofK (K:=K) rfl) (by rfl) T.list boot_list' (pa_cons (pv 2) pa_nil)) rfl))),?_⟩
    refine ⟨_,rfl,_,rfl,p,C,dx,[],rfl,hP,AC.cl,AC.nH,by decide,?_⟩
    have k1:∀ c o,H c=some o→c≠p→upd H p (.ins C dx (putF "house" (.ref hp) [])) c=some o:=fun c o e hc=>by rw [upd_ne hc]; exact e
    have hw1:=k1 _ _ hw (ne_of hw hP (by intro z; cases z))
    have hp1:upd H p (.ins C dx (putF "house" (.ref hp) [])) p=some (.ins C dx (putF "house" (.ref hp) [])):=upd_same
    have fr:∀ l,upd H p (.ins C dx (putF "house" (.ref hp) [])) l=none→H l=none:=fun l e=>by
      by_cases hl:l=p
      · rw [hl,hp1] at e; cases e
      · rw [upd_ne hl] at e; exact e
    generalize upd H p (.ins C dx (putF "house" (.ref hp) []))=H1 at *
    refine ⟨_,rfl,wa,_,rfl,.inl (SqL.of hw1),fun l H2 n2=>?_⟩
    refine ⟨_,rfl,p,C,dx,_,rfl,n2.same _ _ hp1,AC.cl,AC.nW,by have:=putF_lt (f:="house") (v:=V.ref hp) (fs:=[]) (n:=0) (by simp); omega,?_⟩
    have nlp:l≠p:=(ne_of_none hp1 n2.none).symm
    have k2:∀ c o,H2 c=some o→c≠p→upd H2 p (.ins C dx (putF "way" (.ref l) (putF "house" (.ref hp) []))) c=some o:=fun c o e hc=>by rw [upd_ne hc]; exact e
    exact q l _ (fr l n2.none) upd_same (k2 _ _ n2.at_ nlp) fun c o e hc=>k2 _ _ (n2.same _ _ (k1 c o e hc)) hc
theorem D_withopen {CH:Addr} (T:Txt mg) (HC:HCls K mg CH) (S:Src K mg "with_open" "with_open" s_with_open) (Dopen_rooms:Def P w K mg base 3 "open_rooms" ["house","way"] (sp_open K CH)):Def P w K mg base 4 "with_open" ["aim","room"] (sp_withopen K CH):=by
  refine S.mk' sc_with_open (fun vs H Q E h=>?_) (fun _ _ _ _ _ _ us hl=>match us,hl with | [_,_],_=>rfl) (fun f cdv A outer s H vs Q E hr h=>?_)
  · obtain ⟨C,p,beds,worths,rent,way,r,rfl,_⟩:=h
    rfl
  · obtain ⟨C,p,beds,worths,rent,way,r,rfl,AC,hA,ok,q⟩:=h
    refine ⟨_,(pss_one (ps_ret (pe_sortedSet (K:=K) rfl rfl (by rfl) T.sorted (by rfl) T.set (pe_op op_cat' (pe_def Dopen_rooms (hr.mono (by decide)) rfl (pa_cons (pe_fldK (K:=K) rfl (pv 0) rfl) (pa_cons (pe_fldK (K:=K) rfl (pv 0) rfl) pa_nil))) (pe_lst' (pa_cons (pv 1) pa_nil)))))),?_⟩
    obtain ⟨dx,hp,wa,g1,g2,g3⟩:=hA.ex
    have l1:=ok.bok.b1
    have l2:=ok.bok.w1
    refine ⟨_,rfl,p,C,dx,_,_,rfl,g1,AC.cl,AC.nH,af_house _ _,_,rfl,p,C,dx,_,_,rfl,g1,AC.cl,AC.nW,af_way _ _,?_⟩
    refine ⟨hp,wa,beds,worths,rent,wI way,rfl,g2,by omega,SqL.of g3,fun l1 H1 n1=>?_⟩
    refine ⟨_,rfl,len_small (by simp),fun l2 H2 n2=>?_⟩
    have hol:(openL beds (wI way)).length≤beds.length:=by
      unfold openL
      rw [List.length_map]
      exact Nat.le_trans (List.length_filter_le _ _) (by simp)
    refine ⟨l1,l2,_,_,rfl,rfl,n2.same _ _ n1.at_,n2.at_,by rw [sizeLine_eq,List.length_map]; simp; omega,fun l3 H3 n3=>?_⟩
    have h3:H3 l3=some (.lst ((openL beds (wI way) ++ [(r:Int)]).map V.int)):=by
      rw [n3.at_]
      simp
    refine ⟨l3,_,rfl,SqL.of h3,by simp; omega,fun l4 ms H4 n4 hr hm=>?_⟩
    refine q l4 ms H4 (((n1.same.trans n2.same).trans n3.same).trans n4.same) (((n1.same.trans n2.same).trans n3.same).free n4.none) n4.at_ ⟨hr,hm⟩
theorem D_ownworth {CH:Addr} (T:Txt mg) (HC:HCls K mg CH) (S:Src K mg "own_worth" "own_worth" s_own_worth):Def P w K mg base 1 "own_worth" ["aim","person"] (sp_ownworth K CH):=by
  refine S.mk' sc_own_worth (fun vs H Q E h=>?_) (fun _ _ _ _ _ _ us hl=>match us,hl with | [_,_],_=>rfl) (fun f cdv A outer s H vs Q E hr h=>?_)
  · obtain ⟨C,p,beds,worths,rent,way,i,rfl,_⟩:=h
    rfl
  · obtain ⟨C,p,beds,worths,rent,way,i,rfl,AC,hA,ok,hi,q⟩:=h
    refine ⟨_,(pss_one (ps_ret (pe_ix (ix_seqK (K:=K) rfl) (pe_ix (ix_seqK (K:=K) rfl) (pe_fldK (K:=K) rfl (pe_fldK (K:=K) rfl (pv 0) rfl) rfl) (pv 1) (fun _ _=>rfl)) (pe_ix (ix_seqK (K:=K) rfl) (pe_fldK (K:=K) rfl (pv 0) rfl) (pv 1) (fun _ _=>rfl)) (fun _ _=>rfl)))),?_⟩
    obtain ⟨dx,hp,wa,g1,g2,g3⟩:=hA.ex
    obtain ⟨dh,b,w,h1,h2,h3⟩:=g2.ex
    obtain ⟨ws,hw,hR⟩:=id h3
    have hrow:worths[i]? = some worths[i]:=by simp [hi]
    have hrl:=ok.bok.rows _ (List.getElem_mem hi)
    obtain ⟨ra,e1,e2,e3⟩:=hR.at_ hrow
    obtain ⟨w1,w2⟩:=ok.at_ hi
    have gen:∀ r,r < worths[i].length→(worths[i].map V.int)[r]? = some (.int (wF worths i r)):=fun r hr=>by simp [wF,List.getD,hi,hr]
    have g5:(worths[i].map V.int)[way.getD i 0]? = some (.int (ownF worths way i)):=gen _ (by omega)
    refine ⟨_,rfl,p,C,dx,_,_,rfl,g1,AC.cl,AC.nH,af_house _ _,hp,CH,dh,_,_,rfl,h1,HC.cl,HC.nW,hf_worths _ _ _,_,rfl,?_⟩
    refine ixL (SqL.of hw) (atI_int i rfl e2) ?_
    refine ⟨_,rfl,p,C,dx,_,_,rfl,g1,AC.cl,AC.nW,af_way _ _,_,rfl,?_⟩
    refine ixL (SqL.of g3) (atI_int i rfl (wI_at w1)) ?_
    refine ixL (SqL.of e3) (atI_int (way.getD i 0) rfl g5) ?_
    exact q
theorem D_Wthrough {CH C:Addr} (T:Txt mg) (AC:ACls K C) (S:MSrc K C "through" "Worst.through" s_Worst_through) (Dwith_open:Def P w K mg base 4 "with_open" ["aim","room"] (sp_withopen K CH)):MDef P w K mg base 5 C "through" ["self","a","b"] (sp_through true CH C):=by
  refine S.mk' sc_Worst_through (fun vs H Q E h=>?_) (fun _ _ _ _ _ _ us hl=>match us,hl with | [_,_,_],_=>rfl) (fun f cdv A outer s H vs Q E hr h=>?_)
  · obtain ⟨p,beds,worths,rent,way,a,b,rfl,_⟩:=h
    rfl
  · obtain ⟨p,beds,worths,rent,way,a,b,rfl,hA,ok,ha,hb,q⟩:=h
    refine ⟨_,(pss_one (ps_ret (pe_def Dwith_open (hr.mono (by decide)) rfl (pa_cons (pv 0) (pa_cons (pe_ix (ix_seqK (K:=K) rfl) (pe_fldK (K:=K) rfl (pv 0) rfl) (pv 1) (fun _ _=>rfl)) pa_nil))))),?_⟩
    obtain ⟨dx,hp,wa,g1,g2,g3⟩:=hA.ex
    obtain ⟨w1,w2⟩:=ok.at_ ha
    refine ⟨_,rfl,_,rfl,p,C,dx,_,_,rfl,g1,AC.cl,AC.nW,af_way _ _,_,rfl,?_⟩
    refine ixL (SqL.of g3) (atI_int a rfl (wI_at w1)) ?_
    exact ⟨C,p,beds,worths,rent,way,way.getD a 0,rfl,AC,hA,ok,q⟩
theorem D_Wgain {CH C:Addr} (T:Txt mg) (HC:HCls K mg CH) (AC:ACls K C) (S:MSrc K C "gain" "Worst.gain" s_Worst_gain) (Down_worth:Def P w K mg base 1 "own_worth" ["aim","person"] (sp_ownworth K CH)):MDef P w K mg base 2 C "gain" ["self","a","r","b"] (sp_gain true CH C):=by
  refine S.mk' sc_Worst_gain (fun vs H Q E h=>?_) (fun _ _ _ _ _ _ us hl=>match us,hl with | [_,_,_,_],_=>rfl) (fun f cdv A outer s H vs Q E hr h=>?_)
  · obtain ⟨p,beds,worths,rent,way,a,r,b,rfl,_⟩:=h
    rfl
  · obtain ⟨p,beds,worths,rent,way,a,r,b,rfl,hA,ok,ha,hr0,hb,q⟩:=h
    refine ⟨_,(pss_one (ps_ret (pe_op op_sub (pe_ix (ix_seqK (K:=K) rfl) (pe_ix (ix_seqK (K:=K) rfl) (pe_fldK (K:=K) rfl (pe_fldK (K:=K) rfl (pv 0) rfl) rfl) (pv 3) (fun _ _=>rfl)) (pv 2) (fun _ _=>rfl)) (pe_def Down_worth (hr.mono (by decide)) rfl (pa_cons (pv 0) (pa_cons (pv 1) pa_nil)))))),?_⟩
    obtain ⟨dx,hp,wa,g1,g2,g3⟩:=hA.ex
    obtain ⟨dh,bd,w,h1,h2,h3⟩:=g2.ex
    obtain ⟨ws,hw,hR⟩:=id h3
    have hrow:worths[b]? = some worths[b]:=by simp [hb]
    have hrl:=ok.bok.rows _ (List.getElem_mem hb)
    obtain ⟨ra,e1,e2,e3⟩:=hR.at_ hrow
    have g5:(worths[b].map V.int)[r]? = some (.int (wF worths b r)):=by simp [wF,List.getD,hb,show r < worths[b].length by omega]
    refine ⟨_,rfl,p,C,dx,_,_,rfl,g1,AC.cl,AC.nH,af_house _ _,hp,CH,dh,_,_,rfl,h1,HC.cl,HC.nW,hf_worths _ _ _,_,rfl,?_⟩
    refine ixL (SqL.of hw) (atI_int b rfl e2) ?_
    refine ⟨_,rfl,?_⟩
    refine ixL (SqL.of e3) (atI_int r rfl g5) ?_
    refine ⟨_,rfl,_,rfl,C,p,beds,worths,rent,way,a,rfl,AC,hA,ok,ha,?_⟩
    exact ⟨_,_,rfl,rfl,q⟩
theorem D_Ethrough {CH C:Addr} (T:Txt mg) (AC:ACls K C) (S:MSrc K C "through" "Even.through" s_Even_through) (Dwith_open:Def P w K mg base 4 "with_open" ["aim","room"] (sp_withopen K CH)):MDef P w K mg base 5 C "through" ["self","a","b"] (sp_through false CH C):=by
  refine S.mk' sc_Even_through (fun vs H Q E h=>?_) (fun _ _ _ _ _ _ us hl=>match us,hl with | [_,_,_],_=>rfl) (fun f cdv A outer s H vs Q E hr h=>?_)
  · obtain ⟨p,beds,worths,rent,way,a,b,rfl,_⟩:=h
    rfl
  · obtain ⟨p,beds,worths,rent,way,a,b,rfl,hA,ok,ha,hb,q⟩:=h
    refine ⟨_,(pss_one (ps_ret (pe_def Dwith_open (hr.mono (by decide)) rfl (pa_cons (pv 0) (pa_cons (pe_ix (ix_seqK (K:=K) rfl) (pe_fldK (K:=K) rfl (pv 0) rfl) (pv 2) (fun _ _=>rfl)) pa_nil))))),?_⟩
    obtain ⟨dx,hp,wa,g1,g2,g3⟩:=hA.ex
    obtain ⟨w1,w2⟩:=ok.at_ hb
    refine ⟨_,rfl,_,rfl,p,C,dx,_,_,rfl,g1,AC.cl,AC.nW,af_way _ _,_,rfl,?_⟩
    refine ixL (SqL.of g3) (atI_int b rfl (wI_at w1)) ?_
    exact ⟨C,p,beds,worths,rent,way,way.getD b 0,rfl,AC,hA,ok,q⟩
theorem D_Egain {CH C:Addr} (T:Txt mg) (HC:HCls K mg CH) (AC:ACls K C) (S:MSrc K C "gain" "Even.gain" s_Even_gain) (Down_worth:Def P w K mg base 1 "own_worth" ["aim","person"] (sp_ownworth K CH)):MDef P w K mg base 2 C "gain" ["self","a","r","b"] (sp_gain false CH C):=by
  refine S.mk' sc_Even_gain (fun vs H Q E h=>?_) (fun _ _ _ _ _ _ us hl=>match us,hl with | [_,_,_,_],_=>rfl) (fun f cdv A outer s H vs Q E hr h=>?_)
  · obtain ⟨p,beds,worths,rent,way,a,r,b,rfl,_⟩:=h
    rfl
  · obtain ⟨p,beds,worths,rent,way,a,r,b,rfl,hA,ok,ha,hr0,hb,q⟩:=h
    refine ⟨_,(pss_one (ps_ret (pe_op op_sub (pe_ix (ix_seqK (K:=K) rfl) (pe_ix (ix_seqK (K:=K) rfl) (pe_fldK (K:=K) rfl (pe_fldK (K:=K) rfl (pv 0) rfl) rfl) (pv 1) (fun _ _=>rfl)) (pv 2) (fun _ _=>rfl)) (pe_def Down_worth (hr.mono (by decide)) rfl (pa_cons (pv 0) (pa_cons (pv 1) pa_nil)))))),?_⟩
    obtain ⟨dx,hp,wa,g1,g2,g3⟩:=hA.ex
    obtain ⟨dh,bd,w,h1,h2,h3⟩:=g2.ex
    obtain ⟨ws,hw,hR⟩:=id h3
    have hrow:worths[a]? = some worths[a]:=by simp [ha]
    have hrl:=ok.bok.rows _ (List.getElem_mem ha)
    obtain ⟨ra,e1,e2,e3⟩:=hR.at_ hrow
    have g5:(worths[a].map V.int)[r]? = some (.int (wF worths a r)):=by simp [wF,List.getD,ha,show r < worths[a].length by omega]
    refine ⟨_,rfl,p,C,dx,_,_,rfl,g1,AC.cl,AC.nH,af_house _ _,hp,CH,dh,_,_,rfl,h1,HC.cl,HC.nW,hf_worths _ _ _,_,rfl,?_⟩
    refine ixL (SqL.of hw) (atI_int a rfl e2) ?_
    refine ⟨_,rfl,?_⟩
    refine ixL (SqL.of e3) (atI_int r rfl g5) ?_
    refine ⟨_,rfl,_,rfl,C,p,beds,worths,rent,way,a,rfl,AC,hA,ok,ha,?_⟩
    exact ⟨_,_,rfl,rfl,q⟩
theorem D_bestroom {CH CWorst CEven PT cL:Addr} (T:Txt mg) (HC:HCls K mg CH) (HWorst:AimCls K mg CWorst "Worst") (HEven:AimCls K mg CEven "Even") (S:SrcL K mg "best_room" "best_room" s_best_room cL PT) (BA:base.BuiltinsAt mg PT) (MWorst_gain:MDef P w K mg base 2 CWorst "gain" ["self","a","r","b"] (sp_gain true CH CWorst)) (MEven_gain:MDef P w K mg base 2 CEven "gain" ["self","a","r","b"] (sp_gain false CH CEven)):Def P w K mg base 6 "best_room" ["aim","rooms","a","b"] (sp_bestroom CH CWorst CEven PT lamPos2 "best_room.<locals>.<lambda>" K):=by
  refine S.mkL sc_best_room (fun vs H Q E h=>?_) (fun _ _ _ _ _ _ us hl=>match us,hl with | [_,_,_,_],_=>rfl) (fun f A outer s H vs Q E hr h=>?_)
  · obtain ⟨wo,p,rl,beds,worths,rent,way,a,b,ms,rfl,_⟩:=h
    rfl
  · obtain ⟨wo,p,rl,beds,worths,rent,way,a,b,ms,rfl,hA,ok,ha,hb,hrl,hri,hL,q⟩:=h
    refine ⟨_,(pss_one (ps_ret (pe_maxLam2 (x:="room") (Nc:=["a","aim","b"]) (ix:=[some 2,some 0,some 3]) S.hd BA rfl rfl T.max hr.dep (pa_cons (pv 1) pa_nil) (fun _ _ _ _ _=>(pe_either (pe_mdef MWorst_gain HWorst.cl (pv 2) ((Room.in1 (hr.mono (by decide))).deeper _) (pa_cons (pv 1) (pa_cons (pv 0) (pa_cons (pv 3) pa_nil)))) (pe_mdef MEven_gain HEven.cl (pv 2) ((Room.in1 (hr.mono (by decide))).deeper _) (pa_cons (pv 1) (pa_cons (pv 0) (pa_cons (pv 3) pa_nil)))))) rfl rfl rfl rfl rfl rfl (fun _ _ _ _ _=>rfl) rfl rfl))),?_⟩
    have hmem:((way.getD (if wo then a else b) 0:Nat):Int)∈ms:=(hri.2 _).mpr (by simp [thruL])
    refine ⟨_,rfl,rl,ms,fun z=>gainF wo worths way a z.toNat b,rfl,SqL.of hrl,List.length_pos_of_mem hmem,hL,fun z hz H5 s5=>?_,fun z hz hmax H5 s5 o5 hL5=>?_⟩
    · obtain ⟨r,rfl,hr⟩:=thru_lt ok ha hb hri z hz
      exact gain_go (hA.sameB s5) ok ha hr hb (fun _ k=>⟨_,rfl,k⟩) (fun _ k=>⟨_,rfl,_,rfl,_,rfl,k⟩) ⟨rfl,rfl⟩
    · obtain ⟨r,rfl,hr⟩:=thru_lt ok ha hb hri z hz
      refine q r H5 s5 o5 hL5 ((hri.2 _).mp hz) hr fun r' hr'=>?_
      have:=hmax _ ((hri.2 _).mpr hr')
      simpa using this
theorem D_besthops {CH CWorst CEven PT:Addr} (T:Txt mg) (HC:HCls K mg CH) (HWorst:AimCls K mg CWorst "Worst") (HEven:AimCls K mg CEven "Even") (S:Src K mg "best_hops" "best_hops" s_best_hops) (MWorst_through:MDef P w K mg base 5 CWorst "through" ["self","a","b"] (sp_through true CH CWorst)) (MEven_through:MDef P w K mg base 5 CEven "through" ["self","a","b"] (sp_through false CH CEven)) (Mpeople:MDef P w K mg base 1 CH "people" ["self"] (sp_people CH)) (Dbest_room:Def P w K mg base 6 "best_room" ["aim","rooms","a","b"] (sp_bestroom CH CWorst CEven PT lamPos2 "best_room.<locals>.<lambda>" K)):Def P w K mg base 7 "best_hops" ["aim"] (sp_besthops CH CWorst CEven PT lamPos2 "best_room.<locals>.<lambda>"):=by
  refine S.mk' sc_best_hops (fun vs H Q E h=>?_) (fun _ _ _ _ _ _ us hl=>match us,hl with | [_],_=>rfl) (fun f cdv A outer s H vs Q E hr h=>?_)
  · obtain ⟨wo,p,beds,worths,rent,way,rfl,_⟩:=h
    rfl
  · obtain ⟨wo,p,beds,worths,rent,way,rfl,hA,ok,hL,q⟩:=h
    refine ⟨_,(pss_cons (ps_set (i:=1) sc_best_hops.nd rfl (Or.inl rfl) (pe_mdef0 Mpeople HC.cl (pe_fldK (K:=K) rfl (pv 0) rfl) (hr.mono (by decide))))
      (pss_cons (ps_set (i:=2) sc_best_hops.nd rfl (Or.inl rfl) (pe_lst' pa_nil))
      (pss_cons (ps_for PassesOwn.never rfl (pi_range1 rfl T.range (pa_cons (pv 1) pa_nil)) (pg_name (i:=3) sc_best_hops.nd rfl (Or.inl rfl))
      (pss_one (ps_for PassesOwn.never rfl (pi_range1 rfl T.range (pa_cons (pv 1) pa_nil)) (pg_name (i:=4) sc_best_hops.nd rfl (Or.inl rfl))
      (pss_cons (ps_set (i:=5) sc_best_hops.nd rfl (Or.inl rfl) (pe_join (pe_ifExp (pt_cmpR op_eq (pv 3) (pv 4) (nomark _)) (pe_lst' pa_nil) (pe_either (pe_mdef MWorst_through HWorst.cl (pv 0) (hr.mono (by decide)) (pa_cons (pv 3) (pa_cons (pv 4) pa_nil))) (pe_mdef MEven_through HEven.cl (pv 0) (hr.mono (by decide)) (pa_cons (pv 3) (pa_cons (pv 4) pa_nil)))))))
      (pss_one (ps_if (pt_cmpR op_gt (pe_callB (call_lenK (K:=K) rfl) (by rfl) T.len boot_len' (pa_cons (pv 5) pa_nil)) pe_int (nomark _)) (pss_one (ps_expr (pe_bmK (K:=K) rfl PySem.F.plainAttrs_list PySem.F.slot_list_append PySem.F.type_list_append mt_append (pv 2) (pa_cons (pe_tup' (pa_cons (pv 3) (pa_cons (pe_def Dbest_room (hr.mono (by decide)) rfl (pa_cons (pv 0) (pa_cons (pv 5) (pa_cons (pv 3) (pa_cons (pv 4) pa_nil))))) (pa_cons (pv 4) pa_nil)))) pa_nil)))) pss_nil))))))
      (pss_one (ps_ret (pv 2)))))),?_⟩
    have AC:ACls K (CC CWorst CEven wo):=by
      cases wo
      · exact HEven.a
      · exact HWorst.a
    have lw:=ok.bok.w1
    have lb:=ok.bok.b1
    obtain ⟨dx,hp,wa,g1,g2,g3⟩:=hA.ex
    obtain ⟨dh,bb,ww,h1,h2,h3⟩:=g2.ex
    refine ⟨_,rfl,p,_,dx,_,_,rfl,g1,AC.cl,AC.nH,af_house _ _,hp,dh,_,rfl,h1,hf_no _ _ _ (by decide +kernel) (by decide +kernel) (by decide +kernel),hp,beds,worths,rent,rfl,g2,?_⟩
    walk_at "go"
    refine fun hl H1 n1=>?_
    refine ⟨_,rfl,_,rfl,by omega,by omega,?_⟩
    rw [Int.toNat_natCast]
    have fhl:H hl=none:=n1.none
    refine for_range (fun i σ H' => ∃ (hops:List Hop) (o3 o4 o5:Option V),σ=[some (.ref p),some (.int (worths.length:Int)),some (.ref hl),o3,o4,o5]∧SameB H H'∧SameO PT H H'∧LamAt H' PT lamPos2 "best_room.<locals>.<lambda>"∧HopsAt H' hl hops∧HopsTo wo beds worths way hops i 0)
      ⟨[],none,none,none,rfl,n1.same.b,n1.same.o,hL.same n1.same,⟨[],n1.at_,rfl,(fun j t m z=>by simp at z)⟩,⟨(fun m z=>by cases z),(fun m z=>by cases z),(fun a b _ _ _ z=>by omega),by simp⟩⟩ ?_ ?_
    · rintro i σ H2 hi ⟨hops,o3,o4,o5,rfl,s2,so2,hL2,hh2,ht2⟩
      refine ⟨_,rfl,_,rfl,by omega,by omega,?_⟩
      rw [Int.toNat_natCast]
      refine for_range (fun j σ H' => ∃ (hops:List Hop) (o4 o5:Option V),σ=[some (.ref p),some (.int (worths.length:Int)),some (.ref hl),some (.int (0 + (i:Int))),o4,o5]∧SameB H H'∧SameO PT H H'∧LamAt H' PT lamPos2 "best_room.<locals>.<lambda>"∧HopsAt H' hl hops∧HopsTo wo beds worths way hops i j)
        ⟨hops,_,_,rfl,s2,so2,hL2,hh2,ht2⟩ ?_ ?_
      · rintro j σ H3 hj ⟨hops',o4',o5',rfl,s3,so3,hL3,hh3,ht3⟩
        have hA3:=hA.sameB s3
        refine ⟨fun v H' => ∃ rl ms,v=.ref rl∧H' rl=some (.lst (ms.map V.int))∧Same H3 H'∧((i=j∧ms=[])∨(i≠j∧IsRise ms (thruL wo beds way i j))),?_,?_⟩
        · walk_at "go"
          refine ite2 (fun e=>?_) (fun e=>?_)
          · have e':i=j:=by
              have:=of_decide_eq_true e
              injection this with this
              omega
            refine ⟨len_small (by simp),fun l4 H4 n4=>?_⟩
            exact ⟨l4,[],rfl,n4.at_,n4.same,.inl ⟨e',rfl⟩⟩
          · have e':i≠j:=fun z=>e (decide_eq_true (by rw [z]))
            refine thru_go (a:=i) (b:=j) hA3 ok (by omega) (by omega) (fun _ k=>⟨_,rfl,k⟩) (fun K2 k=>⟨_,rfl,_,rfl,by show K2 [V.int (0 + (i:Int)),V.int (0 + (j:Int))] _; rw [Int.zero_add,Int.zero_add]; exact k⟩) fun l4 ms H4 s4 f4 h4 hr4=>?_
            exact ⟨l4,ms,rfl,h4,s4,.inr ⟨e',hr4⟩⟩
        rintro v H4 ⟨rl,ms,rfl,h4,s4,hcase⟩
        have S4:SameB H H4:=s3.trans s4.b
        have SO4:SameO PT H H4:=so3.trans s4.o
        have hL4:=hL3.same s4
        have hh4:=hh3.same s4
        refine ⟨_,rfl,rl,_,rfl,.inl (SqL.of h4),?_⟩
        rw [List.length_map]
        refine ⟨_,_,rfl,rfl,_,rfl,?_⟩
        rcases hcase with ⟨eij,rfl⟩ | ⟨nij,hri⟩
        · refine iteE rfl ?_
          exact ⟨hops',_,_,rfl,S4,SO4,hL4,hh4,ht3.skip eij⟩
        · have hmem:((way.getD (if wo then i else j) 0:Nat):Int)∈ms:=(hri.2 _).mpr (by simp [thruL])
          have hpos:0 < ms.length:=List.length_pos_of_mem hmem
          rw [if_pos (decide_eq_true (by omega))]
          obtain ⟨ts,t1,t2,t3⟩:=id hh4
          refine ⟨_,rfl,.inl ⟨rfl,_,SqL.of t1⟩,?_⟩
          refine ⟨_,rfl,_,rfl,_,rfl,_,rfl,_,rfl,wo,p,rl,beds,worths,rent,way,i,j,ms,by simp,hA.sameB S4,ok,by omega,by omega,h4,hri,hL4,fun r H5 s5 so5 hL5 hr1 hr2 hr3=>?_⟩
          refine ⟨_,rfl,len_small (by simp),fun tp H6 n6=>?_⟩
          have t16:H6 hl=some (.lst (ts.map V.ref)):=n6.same _ _ (s5.to _ _ t1 rfl)
          refine ⟨hl,_,_,rfl,rfl,t16,by rw [sizeLine_eq,List.length_map,t2]; have:=ht3.len; have:=Nat.mul_le_mul (show i≤10 by omega) lw; omega,?_⟩
          have hh7:HopsAt (upd H6 hl (.lst (ts.map V.ref ++ [.ref tp]))) hl (hops' ++ [(i,r,j)]):=by
            refine HopsAt.snoc (ts:=ts) (t:=tp) upd_same t2 (fun k t' m' x1 x2=>?_) ?_
            · have e1:=n6.same _ _ (s5.to _ _ (t3 k t' m' x1 x2) rfl)
              rw [upd_ne (ne_of e1 t16 (by intro z; cases z))]
              exact e1
            · have e1:=n6.at_
              rw [upd_ne (ne_of e1 t16 (by intro z; cases z)),e1]
              simp [hopV]
          refine ⟨hops' ++ [(i,r,j)],_,_,rfl,⟨fun c o e z=>?_,fun c e=>?_⟩,fun c o e hc=>?_,?_,hh7,ht3.more (by omega) nij hr1 hr2 hr3⟩
          · rw [upd_ne (ne_of_none e fhl)]
            exact n6.same _ _ (s5.to _ _ (S4.to _ _ e z) z)
          · by_cases hc:c=hl
            · rw [hc,upd_same] at e; cases e
            · rw [upd_ne hc] at e
              exact S4.th _ (s5.th _ (n6.same.free e))
          · rw [upd_ne (ne_of_none e fhl)]
            exact n6.same _ _ (so5 _ _ (SO4 _ _ e hc) hc)
          · exact (hL5.same n6.same).updL t16
      · rintro σ H3 ⟨hops',o4',o5',rfl,s3,so3,hL3,hh3,ht3⟩
        exact ⟨hops',_,_,_,rfl,s3,so3,hL3,hh3,ht3.next⟩
    · rintro σ H2 ⟨hops,o3,o4,o5,rfl,s2,so2,hL2,hh2,ht2⟩
      walk_at "go"
      exact q hl hops H2 s2 so2 hL2 fhl hh2 (ht2.good lw)
theorem D_hoponF (T:Txt mg) (S:Src K mg "hop_on" "hop_on" s_hop_on):Def P w K mg base 1 "hop_on" ["hops","gains","totals","chains"] sp_hoponF:=by
  refine S.mk' sc_hop_on (fun vs H Q E h=>?_) (fun _ _ _ _ _ _ us hl=>match us,hl with | [_,_,_,_],_=>rfl) (fun f cdv A outer s H vs Q E hr h=>?_)
  · obtain ⟨hl,gl,tl,cl,hops,gn,n,N,st,F,rfl,_⟩:=h
    rfl
  · obtain ⟨hl,gl,tl,cl,hops,gn,n,N,st,F,rfl,hh,hg,htc,hF,hF0,n1,n2,n3,n4,hlt,l1,l2,hlen,hN,hN2,q⟩:=h
    refine ⟨_,(pss_one (ps_for PassesOwn.never rfl (pi_range1 rfl T.range (pa_cons (pe_callB (call_lenK (K:=K) rfl) (by rfl) T.len boot_len' (pa_cons (pv 0) pa_nil)) pa_nil)) (pg_name (i:=4) sc_hop_on.nd rfl (Or.inl rfl))
      (pss_cons (ps_set (i:=5) sc_hop_on.nd rfl (Or.inl rfl) (pe_ix (ix_seqK (K:=K) rfl) (pv 0) (pv 4) (fun _ _=>rfl)))
      (pss_cons (ps_set (i:=6) sc_hop_on.nd rfl (Or.inl rfl) (pe_ix (ix_seqK (K:=K) rfl) (pv 2) (pe_ix (ix_seqK (K:=K) rfl) (pv 5) pe_int (fun _ _=>rfl)) (fun _ _=>rfl)))
      (pss_cons (ps_set (i:=7) sc_hop_on.nd rfl (Or.inl rfl) (pe_ix (ix_seqK (K:=K) rfl) (pv 2) (pe_ix (ix_seqK (K:=K) rfl) (pv 5) pe_int (fun _ _=>rfl)) (fun _ _=>rfl)))
      (pss_one (ps_if (PW.pt (pw_and (pt_cmpR op_notN (pv 6) pe_non (nomark _)) (pw_and1 (PW.pt (pw_or (pt_cmpR op_isN (pv 7) pe_non (nomark _)) (pw_or1 (pt_cmpR op_gt (pe_op op_add (pv 6) (pe_ix (ix_seqK (K:=K) rfl) (pv 1) (pv 4) (fun _ _=>rfl))) (pv 7) (nomark _)))))))) (pss_cons (ps_asg (pe_op op_add (pv 6) (pe_ix (ix_seqK (K:=K) rfl) (pv 1) (pv 4) (fun _ _=>rfl))) (pg_sub (pv 2) (pe_ix (ix_seqK (K:=K) rfl) (pv 5) pe_int (fun _ _=>rfl)) set_list))
      (pss_one (ps_asg (pe_op op_cat' (pe_ix (ix_seqK (K:=K) rfl) (pv 3) (pe_ix (ix_seqK (K:=K) rfl) (pv 5) pe_int (fun _ _=>rfl)) (fun _ _=>rfl)) (pe_lst' (pa_cons (pv 5) pa_nil))) (pg_sub (pv 3) (pe_ix (ix_seqK (K:=K) rfl) (pv 5) pe_int (fun _ _=>rfl)) set_list)))) pss_nil))))))),?_⟩
    obtain ⟨ts,e1,e2,e3⟩:=id hh
    refine ⟨_,rfl,hl,_,rfl,.inl (SqL.of e1),?_⟩
    rw [List.length_map,e2]
    refine ⟨_,rfl,by omega,by omega,?_⟩
    rw [Int.toNat_natCast]
    refine for_range (fun i σ H'=>(∃ o4 o5 o6 o7,σ=[some (.ref hl),some (.ref gl),some (.ref tl),some (.ref cl),o4,o5,o6,o7])∧(∀ b o,H b=some o→b≠tl→b≠cl→H' b=some o)∧(∀ b,H' b=none→H b=none)∧TCat H' tl cl ((hops.take i).foldl (relC gn) st)∧(∀ c∈((hops.take i).foldl (relC gn) st).2,c.length≤N + i)∧((hops.take i).foldl (relC gn) st).1.length=n∧((hops.take i).foldl (relC gn) st).2.length=n∧TCF F H' cl)
      ⟨⟨_,_,_,_,rfl⟩,fun _ _ e _ _=>e,fun _ e=>e,htc,hN,l1,l2,hF⟩ ?_ ?_
    · rintro i σ H1 hi ⟨⟨o4,o5,o6,o7,rfl⟩,k1,f1,tc1,c1,m1,m2,F1⟩
      have hm:hops[i]? = some hops[i]:=by simp [hi]
      have etk:hops.take (i + 1)=hops.take i ++ [hops[i]]:=by rw [List.take_succ,hm]; rfl
      rw [etk,List.foldl_append]
      obtain ⟨b1,b2⟩:=hlt _ (List.getElem_mem hi)
      have ht:ts[i]? = some (ts[i]'(by omega)):=by simp [show i < ts.length by omega]
      have htt:=e3 i _ _ ht hm
      generalize hops[i]=m at *
      generalize ts[i]'(by omega)=t at *
      generalize (hops.take i).foldl (relC gn) st=s0 at *
      have hh1:=k1 _ _ e1 n1 n2
      have htt1:=k1 _ _ htt (ne_of htt htc.g (by intro z; cases z)) (by
        obtain ⟨ls,e,_⟩:=htc.ex
        exact ne_of htt e (by intro z; cases z))
      have hg1:=k1 _ _ hg n3 n4
      have hix:(ts.map V.ref)[i]? = some (.ref t):=by simp [ht]
      have gt1:(s0.1.map V.int)[m.1]? = some (.int (s0.1.getD m.1 0)):=by simp [List.getD,m1,b1]
      have gt2:(s0.1.map V.int)[m.2.2]? = some (.int (s0.1.getD m.2.2 0)):=by simp [List.getD,m1,b2]
      have gg:((hops.map gn).map V.int)[i]? = some (.int (gn m)):=by simp [hm]
      walk_at "go"
      refine ixL (SqL.of hh1) (atI_int i (by omega) hix) ?_
      refine ⟨_,rfl,_,rfl,?_⟩
      refine ixT (SqT.of htt1) rfl ?_
      refine ixL (SqL.of tc1.g) (atI_int m.1 rfl gt1) ?_
      refine ⟨_,rfl,_,rfl,?_⟩
      refine ixT (SqT.of htt1) rfl ?_
      refine ixL (SqL.of tc1.g) (atI_int m.2.2 rfl gt2) ?_
      refine ⟨_,rfl,rfl,_,rfl,iteT ?_⟩
      refine ⟨_,rfl,rfl,_,rfl,iteF ?_⟩
      refine ⟨_,rfl,_,rfl,_,rfl,?_⟩
      refine ixL (SqL.of hg1) (atI_int i (by omega) gg) ?_
      refine ⟨_,_,rfl,rfl,_,rfl,_,_,rfl,rfl,_,rfl,?_⟩
      refine ite2 (fun hgt=>?_) (fun hgt=>?_)
      · have hgt':s0.1.getD m.1 0 + gn m > s0.1.getD m.2.2 0:=of_decide_eq_true hgt
        have er:[m].foldl (relC gn) s0=(s0.1.set m.2.2 (s0.1.getD m.1 0 + gn m),s0.2.set m.2.2 (s0.2.getD m.1 [] ++ [m])):=by
          show relC gn s0 m=_
          unfold relC
          rw [if_pos hgt']
        have clen:=relC_chains (gn:=gn) (m:=m) c1
        have erl:relC gn s0 m=(s0.1.set m.2.2 (s0.1.getD m.1 0 + gn m),s0.2.set m.2.2 (s0.2.getD m.1 [] ++ [m])):=er
        rw [erl] at clen
        rw [er]
        refine ⟨_,rfl,_,rfl,_,rfl,?_⟩
        refine ixL (SqL.of hg1) (atI_int i (by omega) gg) ?_
        refine ⟨_,_,rfl,rfl,_,rfl,_,rfl,?_⟩
        refine ixT (SqT.of htt1) rfl ?_
        refine ⟨tl,_,_,m.2.2,rfl,rfl,tc1.g,?_,?_⟩
        · unfold ixN
          rw [if_pos (by omega),if_pos (by rw [List.length_map,m1]; omega)]
          simp
        have tc2:TCat (upd H1 tl (.lst ((s0.1.map V.int).set m.2.2 (.int (s0.1.getD m.1 0 + gn m))))) tl cl (s0.1.set m.2.2 (s0.1.getD m.1 0 + gn m),s0.2):=by
          have:=tc1.gset (gs':=s0.1.set m.2.2 (s0.1.getD m.1 0 + gn m))
          rw [List.map_set] at this
          exact this
        have ntl:t≠tl:=ne_of htt1 tc1.g (by intro z; cases z)
        have k2:∀ b o,H1 b=some o→b≠tl→upd H1 tl (.lst ((s0.1.map V.int).set m.2.2 (.int (s0.1.getD m.1 0 + gn m)))) b=some o:=fun b o e hb=>by rw [upd_ne hb]; exact e
        have f2:∀ b,upd H1 tl (.lst ((s0.1.map V.int).set m.2.2 (.int (s0.1.getD m.1 0 + gn m)))) b=none→H1 b=none:=fun b e=>by
          by_cases hb:b=tl
          · rw [hb,upd_same] at e; cases e
          · rw [upd_ne hb] at e; exact e
        have htt2:=k2 _ _ htt1 ntl
        have F2:=F1.keep (H':=upd H1 tl (.lst ((s0.1.map V.int).set m.2.2 (.int (s0.1.getD m.1 0 + gn m))))) (fun o e=>k2 _ _ e tc1.ne.symm)
        generalize upd H1 tl (.lst ((s0.1.map V.int).set m.2.2 (.int (s0.1.getD m.1 0 + gn m))))=H2 at *
        obtain ⟨ls,a1,a2,a3,a4⟩:=id tc2.ex
        have a2':ls.length=n:=by rw [a2]; exact m2
        have hla:(ls.map V.ref)[m.1]? = some (.ref (ls[m.1]'(by omega))):=by simp [show m.1 < ls.length by omega]
        have hca:s0.2[m.1]? = some (s0.2.getD m.1 []):=by simp [List.getD,m2,b1]
        obtain ⟨us,u1,u2,u3⟩:=a4 m.1 (ls[m.1]'(by omega)) _ (by simp [show m.1 < ls.length by omega]) hca
        have hcl:(s0.2.getD m.1 []).length≤N + i:=c1 _ (List.mem_of_getElem? hca)
        refine ⟨_,rfl,_,rfl,?_⟩
        refine ixT (SqT.of htt2) rfl ?_
        refine ixL (SqL.of a1) (atI_int m.1 rfl hla) ?_
        refine ⟨_,rfl,len_small (by simp),fun l3 H3 n3=>?_⟩
        refine ⟨_,l3,_,_,rfl,rfl,n3.same _ _ u1,n3.at_,by rw [sizeLine_eq,List.length_map,u2]; show (s0.2.getD m.1 []).length + 1≤16777216; omega,fun l4 H4 n4=>?_⟩
        have S4:Same H2 H4:=n3.same.trans n4.same
        have tc4:=tc2.same S4
        refine ⟨_,rfl,_,rfl,?_⟩
        refine ixT (SqT.of (S4 _ _ htt2)) rfl ?_
        refine ⟨cl,_,_,m.2.2,rfl,rfl,S4 _ _ a1,?_,?_⟩
        · unfold ixN
          rw [if_pos (by omega),if_pos (by rw [List.length_map,a2']; omega)]
          simp
        have nl4a:l4≠tl:=(ne_of_none (n3.same _ _ tc2.g) n4.none).symm
        have nl4b:l4≠cl:=(ne_of_none (n3.same _ _ a1) n4.none).symm
        have hc4:HopsAt H4 l4 (s0.2.getD m.1 [] ++ [m]):=HopsAt.snoc (ts:=us) (t:=t) n4.at_ u2 (fun j t' m' x1 x2=>S4 _ _ (u3 j t' m' x1 x2)) (S4 _ _ htt2)
        have tc5:=tc4.mset (S4 _ _ a1) (r:=m.2.2) (by omega) nl4a nl4b hc4
        refine ⟨⟨_,_,_,_,rfl⟩,fun b o e h1' h2'=>?_,fun b e=>?_,tc5,?_,?_,?_,?_⟩
        · rw [upd_ne h2']
          exact S4 _ _ (k2 _ _ (k1 b o e h1' h2') h1')
        · have hb:b≠cl:=fun z=>by rw [z,upd_same] at e; cases e
          rw [upd_ne hb] at e
          exact f1 _ (f2 _ (S4.free e))
        · intro c hc
          have:=clen c hc
          omega
        · simp [m1]
        · simp [m2]
        · refine ⟨ls.set m.2.2 l4,by rw [upd_same,List.map_set],fun a ha=>?_⟩
          rcases List.mem_or_eq_of_mem_set ha with z | z
          · exact F2.at_ a1 a z
          · rw [z]
            exact hF0 _ (f1 _ (f2 _ (n3.same.free n4.none)))
      · have hgt':¬ s0.1.getD m.1 0 + gn m > s0.1.getD m.2.2 0:=fun z=>hgt (decide_eq_true z)
        have er:[m].foldl (relC gn) s0=s0:=by
          show relC gn s0 m=_
          unfold relC
          rw [if_neg hgt']
        rw [er]
        exact ⟨⟨_,_,_,_,rfl⟩,k1,f1,tc1,fun c hc=>by have:=c1 c hc; omega,m1,m2,F1⟩
    · rintro σ H1 ⟨⟨o4,o5,o6,o7,rfl⟩,k1,f1,tc1,c1,m1,m2,F1⟩
      rw [List.take_length] at tc1 c1
      exact q _ k1 f1 tc1 F1 c1
theorem D_carryF {CH CWorst CEven PT:Addr} (T:Txt mg) (HC:HCls K mg CH) (HWorst:AimCls K mg CWorst "Worst") (HEven:AimCls K mg CEven "Even") (S:Src K mg "carry" "carry" s_carry) (MWorst_gain:MDef P w K mg base 2 CWorst "gain" ["self","a","r","b"] (sp_gain true CH CWorst)) (MEven_gain:MDef P w K mg base 2 CEven "gain" ["self","a","r","b"] (sp_gain false CH CEven)) (Dbest_hops:Def P w K mg base 7 "best_hops" ["aim"] (sp_besthops CH CWorst CEven PT lamPos2 "best_room.<locals>.<lambda>")) (Dhop_on:Def P w K mg base 1 "hop_on" ["hops","gains","totals","chains"] sp_hoponF):Def P w K mg base 8 "carry" ["aim","starts"] (sp_carryF CH CWorst CEven PT lamPos2 "best_room.<locals>.<lambda>"):=by
  refine S.mk' sc_carry (fun vs H Q E h=>?_) (fun _ _ _ _ _ _ us hl=>match us,hl with | [_,_],_=>rfl) (fun f cdv A outer s H vs Q E hr h=>?_)
  · obtain ⟨wo,p,sl,beds,worths,rent,way,rfl,_⟩:=h
    rfl
  · obtain ⟨wo,p,sl,beds,worths,rent,way,rfl,hA,ok,hfit,hopt,hL,hsl,q⟩:=h
    refine ⟨_,(pss_cons (ps_set (i:=2) sc_carry.nd rfl (Or.inl rfl) (pe_callTy (call_list_ofK (K:=K) rfl) (by rfl) T.list boot_list' (pa_cons (pv 1) pa_nil)))
      (pss_cons (ps_setC (i:=3) sc_carry.nd rfl (Or.inl rfl) ["start"] [none] rfl rfl rfl (pi_listK (K:=K) rfl (pv 1)) (fun _ _ _ _=>(pg_name (i:=0) (by decide +kernel:(["start"]:List PySem.Str).Nodup) rfl (Or.inl rfl))) (fun _ _ _ _=>pifs_nil) (fun _ _ _ _=>(pe_lst' pa_nil)))
      (pss_cons (ps_set (i:=4) sc_carry.nd rfl (Or.inl rfl) (pe_def Dbest_hops (hr.mono (by decide)) rfl (pa_cons (pv 0) pa_nil)))
      (pss_cons (ps_setC (i:=5) sc_carry.nd rfl (Or.inl rfl) ["hop","aim"] [none,some 0] rfl rfl rfl (pi_listK (K:=K) rfl (pv 4)) (fun _ _ _ _=>(pg_name (i:=0) (by decide +kernel:(["hop","aim"]:List PySem.Str).Nodup) rfl (Or.inl rfl))) (fun _ _ _ _=>pifs_nil) (fun _ _ _ _=>(pe_either (pe_mdef MWorst_gain HWorst.cl (pv 1) (hr.mono (by decide)) (pa_cons (pe_ix (ix_seqK (K:=K) rfl) (pv 0) pe_int (fun _ _=>rfl)) (pa_cons (pe_ix (ix_seqK (K:=K) rfl) (pv 0) pe_int (fun _ _=>rfl)) (pa_cons (pe_ix (ix_seqK (K:=K) rfl) (pv 0) pe_int (fun _ _=>rfl)) pa_nil)))) (pe_mdef MEven_gain HEven.cl (pv 1) (hr.mono (by decide)) (pa_cons (pe_ix (ix_seqK (K:=K) rfl) (pv 0) pe_int (fun _ _=>rfl)) (pa_cons (pe_ix (ix_seqK (K:=K) rfl) (pv 0) pe_int (fun _ _=>rfl)) (pa_cons (pe_ix (ix_seqK (K:=K) rfl) (pv 0) pe_int (fun _ _=>rfl)) pa_nil)))))))
      (pss_cons (ps_for PassesOwn.never rfl (pi_range1 rfl T.range (pa_cons (pe_callB (call_lenK (K:=K) rfl) (by rfl) T.len boot_len' (pa_cons (pv 1) pa_nil)) pa_nil)) (pg_name (i:=6) sc_carry.nd rfl (Or.inl rfl))
      (pss_one (ps_expr (pe_def Dhop_on (hr.mono (by decide)) rfl (pa_cons (pv 4) (pa_cons (pv 5) (pa_cons (pv 2) (pa_cons (pv 3) pa_nil))))))))
      (pss_one (ps_ret (pe_tup' (pa_cons (pv 2) (pa_cons (pv 3) pa_nil)))))))))),?_⟩
    have lw:=ok.bok.w1
    have lr:((List.replicate worths.length (0:Int)).map V.int).length=worths.length:=by simp
    refine ⟨_,rfl,sl,_,rfl,.inl (SqL.of hsl),fun tl H1 n1=>?_⟩
    walk_at "go"
    refine ⟨⟨_,SqL.of (n1.same _ _ hsl)⟩,fun cl hcl=>?_⟩
    have ntc:tl≠cl:=ne_of_none n1.at_ hcl
    refine comp_list (fun i y H' => ∃ l,y=.ref l∧l≠cl∧H1 l=none∧H' l=some (.lst [])) (SqL.of (n1.same _ _ hsl)) (by rw [lr,sizeLine_eq]; omega) hcl (fun i y H H' k ⟨l,e,ne,h0,h⟩=>⟨l,e,ne,h0,k l _ ne h⟩) ?_ ?_
    · rintro i x H2 ys N hx s2 d2 hN
      refine ⟨len_small (by simp),fun l H3 n3=>?_⟩
      exact hN _ _ n3.same ⟨l,rfl,(ne_of_none d2 n3.none).symm,s2.free n3.none,n3.at_⟩
    rintro ys H2 s2 d2 ly r2
    obtain ⟨ls,els,pls⟩:=refs_ex (P:=fun i l=>l≠cl∧H1 l=none∧H2 l=some (.lst [])) (fun i y e=>by
      obtain ⟨l,e1,e2,e3,e4⟩:=r2 i y e
      exact ⟨l,e1,e2,e3,e4⟩)
    subst els
    have lls:ls.length=worths.length:=by rw [List.length_map,lr] at ly; exact ly
    have tc2:TCat H2 tl cl (zeroC worths.length):=by
      refine ⟨ntc,s2 _ _ n1.at_,ls,d2,by simp [zeroC,lls],fun x hx=>?_,fun i x c z1 z2=>?_⟩
      · obtain ⟨i,hi,rfl⟩:=List.mem_iff_getElem.mp hx
        obtain ⟨e1,e2,_⟩:=pls i _ (List.getElem?_eq_getElem hi)
        exact ⟨(ne_of_none n1.at_ e2).symm,e1⟩
      · obtain ⟨e1,e2,e3⟩:=pls i x z1
        have ec:c=[]:=by
          have hi:i < worths.length:=by rw [← lls]; exact (List.getElem?_eq_some_iff.mp z1).1
          simp [zeroC,hi] at z2
          exact z2
        subst ec
        exact ⟨[],e3,rfl,fun j t m z=>by simp at z⟩
    have S2:Same H H2:=n1.same.trans s2
    have F2:TCF (fun a=>H a=none) H2 cl:=⟨ls,d2,fun x hx=>by
      obtain ⟨i,hi,rfl⟩:=List.mem_iff_getElem.mp hx
      obtain ⟨_,e2,_⟩:=pls i _ (List.getElem?_eq_getElem hi)
      exact n1.same.free e2⟩
    have ftl:H tl=none:=n1.none
    have fcl:H cl=none:=n1.same.free hcl
    refine ⟨_,rfl,wo,p,beds,worths,rent,way,rfl,hA.same S2,ok,hL.same S2,fun hl hops H3 s3 so3 hL3 fhl hh3 good=>?_⟩
    have S3:SameB H H3:=S2.b.trans s3
    have SO3:SameO PT H H3:=S2.o.trans so3
    have tc3:=tc2.sameB s3
    have hA3:=hA.sameB S3
    obtain ⟨ts,t1,t2,t3⟩:=id hh3
    have hgl:=good.len
    walk_at "go"
    refine ⟨⟨_,SqL.of t1⟩,fun gl hgl0=>?_⟩
    refine comp_list (fun i y _ => ∃ m,hops[i]? = some m∧y=.int (gnF wo worths way m)) (SqL.of t1) (by rw [List.length_map,t2,sizeLine_eq]; omega) hgl0 (fun _ _ _ _ _ h=>h) ?_ ?_
    · rintro i x H4 ys N hx s4 d4 hN
      obtain ⟨t,ht,rfl⟩:=ref_at hx
      have hi:i < hops.length:=by rw [← t2]; exact (List.getElem?_eq_some_iff.mp ht).1
      have hm:hops[i]? = some hops[i]:=by simp [hi]
      have htt:=s4 _ _ (t3 i t _ ht hm)
      obtain ⟨m1,m2,m3,m4,m5⟩:=good.mem _ (List.getElem_mem hi)
      refine gain_go (hA3.same s4) ok m1 m4 m2 (fun _ k=>⟨_,rfl,k⟩) (fun K2 k=>?_) (hN _ _ (Same.refl _) ⟨_,hm,rfl⟩)
      refine ⟨_,rfl,ixT (SqT.of htt) rfl ?_⟩
      refine ⟨_,rfl,ixT (SqT.of htt) rfl ?_⟩
      refine ⟨_,rfl,ixT (SqT.of htt) rfl ?_⟩
      exact k
    rintro ys H4 s4 d4 ly4 r4
    have ey:ys=(hops.map (gnF wo worths way)).map V.int:=ints_of (by rw [ly4,List.length_map,List.length_map,t2]) fun i y e=>by
      obtain ⟨m,h1,h2⟩:=r4 i y e
      exact ⟨_,by rw [List.getElem?_map,h1]; rfl,h2⟩
    subst ey
    have S4:SameB H H4:=S3.trans s4.b
    have SO4:SameO PT H H4:=SO3.trans s4.o
    have tc4:=tc3.same s4
    have F4:TCF (fun a=>H a=none) H4 cl:=F2.keep fun o e=>by
      rw [d2] at e
      cases e
      exact s4 _ _ (s3.to _ _ d2 rfl)
    have hh4:=hh3.same s4
    have hL4:=hL3.same s4
    have hsl4:=S4.to _ _ hsl rfl
    have nhl1:hl≠tl:=(ne_of_none tc2.g fhl).symm
    have nhl2:hl≠cl:=(ne_of_none d2 fhl).symm
    have ngl1:gl≠tl:=(ne_of_none tc3.g hgl0).symm
    have ngl2:gl≠cl:=by
      obtain ⟨ls3,e1,_⟩:=tc3.ex
      exact (ne_of_none e1 hgl0).symm
    have hlt:∀ m∈hops,m.1 < worths.length∧m.2.2 < worths.length:=fun m hm=>⟨(good.mem m hm).1,(good.mem m hm).2.1⟩
    have hrl:∀ k,(rndsC (gnF wo worths way) hops (zeroC worths.length) k).1.length=worths.length∧(rndsC (gnF wo worths way) hops (zeroC worths.length) k).2.length=worths.length:=fun k=>⟨(rnds_ok hlt k).l1,(rnds_ok hlt k).l2⟩
    refine ⟨_,rfl,sl,_,rfl,.inl (SqL.of hsl4),?_⟩
    rw [lr]
    refine ⟨_,rfl,by omega,by omega,?_⟩
    rw [Int.toNat_natCast]
    refine for_range (fun i σ H'=>(∃ o6,σ=[some (.ref p),some (.ref sl),some (.ref tl),some (.ref cl),some (.ref hl),some (.ref gl),o6])∧(∀ b o,H4 b=some o→b≠tl→b≠cl→H' b=some o)∧(∀ b,H' b=none→H4 b=none)∧TCF (fun a=>H a=none) H' cl∧TCat H' tl cl (rndsC (gnF wo worths way) hops (zeroC worths.length) i)∧∀ c∈(rndsC (gnF wo worths way) hops (zeroC worths.length) i).2,c.length≤i * 100)
      ⟨⟨_,rfl⟩,(fun _ _ e _ _=>e),(fun _ e=>e),F4,tc4,(fun c hc=>by
        have:c=[]:=by
          have:=List.eq_of_mem_replicate (show c∈List.replicate worths.length [] from hc)
          exact this
        rw [this]; simp)⟩ ?_ ?_
    · rintro i σ H5 hi ⟨⟨o6,rfl⟩,k5,f5,F5,tc5,c5⟩
      have hh5:HopsAt H5 hl hops:=by
        obtain ⟨ts4,u1,u2,u3⟩:=hh4
        refine ⟨ts4,k5 _ _ u1 nhl1 nhl2,u2,fun j t m z1 z2=>?_⟩
        have:=u3 j t m z1 z2
        refine k5 _ _ this (ne_of this tc4.g (by intro z; cases z)) ?_
        obtain ⟨ls4,e1,_⟩:=tc4.ex
        exact ne_of this e1 (by intro z; cases z)
      refine ⟨_,rfl,_,rfl,_,rfl,_,rfl,hl,gl,tl,cl,hops,gnF wo worths way,worths.length,i * 100,_,(fun a=>H a=none),rfl,hh5,k5 _ _ d4 ngl1 ngl2,tc5,F5,(fun a e=>S4.th _ (f5 _ e)),nhl1,nhl2,ngl1,ngl2,hlt,(hrl i).1,(hrl i).2,hgl,c5,by omega,fun H6 k6 f6 tc6 F6 c6=>?_⟩
      refine ⟨⟨_,rfl⟩,fun b o e h1 h2=>k6 _ _ (k5 b o e h1 h2) h1 h2,fun b e=>f5 _ (f6 _ e),F6,?_,?_⟩
      · rw [rndsC_succ]; exact tc6
      · rw [rndsC_succ]
        intro c hc
        have:=c6 c hc
        omega
    · rintro σ H5 ⟨⟨o6,rfl⟩,k5,f5,F5,tc5,c5⟩
      refine ⟨_,rfl,_,rfl,len_small (by simp),fun t H6 n6=>?_⟩
      have kk:∀ b o,H b=some o→b≠PT→H6 b=some o:=fun b o e hb=>n6.same _ _ (k5 _ _ (SO4 _ _ e hb) (ne_of_none e ftl) (ne_of_none e fcl))
      refine q t tl cl hops _ H6 ⟨fun b o e z=>n6.same _ _ (k5 _ _ (S4.to _ _ e z) (ne_of_none e ftl) (ne_of_none e fcl)),fun b e=>S4.th _ (f5 _ (n6.same.free e))⟩ kk ?_ ftl fcl (S4.th _ (f5 _ n6.none)) (F5.keep fun o e=>n6.same _ _ e) (fun c hc=>by have:=c5 c hc; omega) (great_mk ok hfit hopt good n6.at_ (tc5.same n6.same))
      refine LamAt.same ?_ n6.same
      have k:∀ c o,H4 c=some o→(∀ zs,o≠.lst zs)→H5 c=some o:=fun c o e hne=>by
        refine k5 _ _ e (ne_of e tc4.g (hne _)) ?_
        obtain ⟨ls4,e1,_⟩:=tc4.ex
        exact ne_of e e1 (hne _)
      rcases hL4 with h | ⟨c',oc,vs,t',h1,h2,h3⟩
      · exact .inl (k _ _ h (by intro zs z; cases z))
      · exact .inr ⟨c',oc,vs,t',k _ _ h1 (by intro zs z; cases z),k _ _ h2 (by intro zs z; cases z),h3⟩
theorem D_greatestF {CH CWorst CEven PT:Addr} (T:Txt mg) (HC:HCls K mg CH) (HWorst:AimCls K mg CWorst "Worst") (HEven:AimCls K mg CEven "Even") (S:Src K mg "greatest" "greatest" s_greatest) (Mpeople:MDef P w K mg base 1 CH "people" ["self"] (sp_people CH)) (Dcarry:Def P w K mg base 8 "carry" ["aim","starts"] (sp_carryF CH CWorst CEven PT lamPos2 "best_room.<locals>.<lambda>")):Def P w K mg base 9 "greatest" ["aim"] (sp_greatF CH CWorst CEven PT lamPos2 "best_room.<locals>.<lambda>"):=by
  refine S.mk' sc_greatest (fun vs H Q E h=>?_) (fun _ _ _ _ _ _ us hl=>match us,hl with | [_],_=>rfl) (fun f cdv A outer s H vs Q E hr h=>?_)
  · obtain ⟨wo,p,beds,worths,rent,way,rfl,_⟩:=h
    rfl
  · obtain ⟨wo,p,beds,worths,rent,way,rfl,hA,ok,hfit,hopt,hL,q⟩:=h
    refine ⟨_,(pss_one (ps_ret (pe_def Dcarry (hr.mono (by decide)) rfl (pa_cons (pv 0) (pa_cons (pe_comp ["person"] [none] rfl rfl rfl (pi_range1 rfl T.range (pa_cons (pe_mdef0 Mpeople HC.cl (pe_fldK (K:=K) rfl (pv 0) rfl) (hr.mono (by decide))) pa_nil)) (fun _ _ _ _=>(pg_name (i:=0) (by decide +kernel:(["person"]:List PySem.Str).Nodup) rfl (Or.inl rfl))) (fun _ _ _ _=>pifs_nil) (fun _ _ _ _=>pe_int)) pa_nil))))),?_⟩
    have AC:ACls K (CC CWorst CEven wo):=by
      cases wo
      · exact HEven.a
      · exact HWorst.a
    have lw:=ok.bok.w1
    obtain ⟨dx,hp,wa,g1,g2,g3⟩:=hA.ex
    obtain ⟨dh,bb,ww,h1,h2,h3⟩:=g2.ex
    refine ⟨_,rfl,_,rfl,p,_,dx,_,_,rfl,g1,AC.cl,AC.nH,af_house _ _,hp,dh,_,rfl,h1,hf_no _ _ _ (by decide +kernel) (by decide +kernel) (by decide +kernel),hp,beds,worths,rent,rfl,g2,?_⟩
    refine ⟨_,rfl,by omega,by omega,fun D hD=>?_⟩
    rw [Int.toNat_natCast]
    refine compRangeV (fun _=>.int 0) (by rw [sizeLine_eq]; omega) hD (fun i hi H1 N s1 hN=>hN _ (Same.refl _)) fun H1 s1 d1=>?_
    have d1':H1 D=some (.lst ((List.replicate worths.length (0:Int)).map V.int)):=by
      rw [d1]
      congr 2
      rw [List.map_replicate]
      exact List.eq_replicate_iff.mpr ⟨by simp,fun b hb=>by
        obtain ⟨_,_,rfl⟩:=List.mem_map.mp hb
        rfl⟩
    exact ⟨wo,p,D,beds,worths,rent,way,rfl,hA.same s1,ok,hfit,hopt,hL.same s1,d1',fun t tl cl hops st H2 s2 so2 hL2 f1 f2 f3 ff cb g=>q t tl cl hops st H2 (s1.b.trans s2) (s1.o.trans so2) hL2 (s1.free f1) (s1.free f2) (s1.free f3) (ff.imp fun a e=>s1.free e) cb g⟩
theorem D_mixed (S:Src K mg "_law_mixed" "_law_mixed" s__law_mixed):Def P w K mg base 1 "_law_mixed" ["_law_cell","_law_k"] sp_mixed:=by
  refine S.mk' sc__law_mixed (fun vs H Q E h=>?_) (fun _ _ _ _ _ _ us hl=>match us,hl with | [_,_],_=>rfl) (fun f cdv A outer s H vs Q E hr h=>?_)
  · obtain ⟨c,k,rfl,_⟩:=h
    rfl
  · obtain ⟨c,k,rfl,h1,h2,q⟩:=h
    refine ⟨_,(pss_cons (ps_set (i:=2) sc__law_mixed.nd rfl (Or.inl rfl) (pe_op op_mod (pe_op op_mulW (pe_op op_add (pe_op op_mod (pv 0) pe_int) pe_int) (pe_op op_add pe_int (pe_op op_mulW (pe_op op_mulW pe_int (pv 1)) (pv 1)))) pe_int))
      (pss_one (ps_ret (pe_op op_mod (pe_op op_mulW (pv 2) (pv 2)) pe_int)))),?_⟩
    have b1:=mul_bd (a:=2 * k) (b:=k) (A:=2000000) (B:=1000000) (by omega) (by omega) (by omega) (by omega)
    walk_at "go"
    exact q _ (Int.emod_nonneg _ (by decide)) (Int.emod_lt_of_pos _ (by decide))
theorem D_cell (T:Txt mg) (S:Src K mg "_law_cell_at" "_law_cell_at" s__law_cell_at):Def P w K mg base 1 "_law_cell_at" ["_law_script","_law_k"] (sp_cell K):=by
  refine S.mk' sc__law_cell_at (fun vs H Q E h=>?_) (fun _ _ _ _ _ _ us hl=>match us,hl with | [_,_],_=>rfl) (fun f cdv A outer s H vs Q E hr h=>?_)
  · obtain ⟨a,ns,k,rfl,_⟩:=h
    rfl
  · obtain ⟨a,ns,k,rfl,hS,h0,q⟩:=h
    refine ⟨_,(pss_cons (ps_if (pt_cmpR op_lt (pv 1) (pe_callB (call_lenK (K:=K) rfl) (by rfl) T.len boot_len' (pa_cons (pv 0) pa_nil)) (nomark _)) (pss_one (ps_ret (pe_ix (ix_seqK (K:=K) rfl) (pv 0) (pv 1) (fun _ _=>rfl)))) pss_nil)
      (pss_one (ps_ret pe_int))),?_⟩
    walk_at "go"
    refine ⟨a,_,rfl,.inl hS,?_⟩
    walk_at "go"
    refine ite2 (fun e=>?_) (fun _=>q 0)
    walk_at "go"
    have hk:k < ns.length:=by
      have:=of_decide_eq_true e
      simpa using this
    exact ixInts hS h0 hk fun z _=>q z
theorem D_beds (T:Txt mg) (S:Src K mg "_law_beds" "_law_beds" s__law_beds) (D_law_mixed:Def P w K mg base 1 "_law_mixed" ["_law_cell","_law_k"] sp_mixed):Def P w K mg base 2 "_law_beds" ["_law_first","_law_many"] sp_beds:=by
  refine S.mk' sc__law_beds (fun vs H Q E h=>?_) (fun _ _ _ _ _ _ us hl=>match us,hl with | [_,_],_=>rfl) (fun f cdv A outer s H vs Q E hr h=>?_)
  · obtain ⟨f,m,rfl,_⟩:=h
    rfl
  · obtain ⟨f,m,rfl,m0,m1,q⟩:=h
    refine ⟨_,(pss_cons (ps_set (i:=2) sc__law_beds.nd rfl (Or.inl rfl) (pe_lst' pa_nil))
      (pss_cons (ps_for PassesOwn.never rfl (pi_range1 rfl T.range (pa_cons (pv 1) pa_nil)) (pg_name (i:=3) sc__law_beds.nd rfl (Or.inl rfl))
      (pss_one (ps_expr (pe_bmK (K:=K) rfl PySem.F.plainAttrs_list PySem.F.slot_list_append PySem.F.type_list_append mt_append (pv 2) (pa_cons (pe_ix (ix_seqK (K:=K) rfl) (pe_lst' (pa_cons pe_int (pa_cons pe_int (pa_cons pe_int (pa_cons pe_int (pa_cons pe_int (pa_cons pe_int (pa_cons pe_int (pa_cons pe_int pa_nil))))))))) (pe_op op_mod (pe_def D_law_mixed (hr.mono (by decide)) rfl (pa_cons (pv 0) (pa_cons (pe_op op_add pe_int (pv 3)) pa_nil))) pe_int) (fun _ _=>rfl)) pa_nil)))))
      (pss_one (ps_ret (pv 2))))),?_⟩
    walk_at "go"
    refine fun l H1 n1=>?_
    refine ⟨_,rfl,_,rfl,by omega,by omega,?_⟩
    refine for_range (fun i σ H' => ∃ (bs:List Int) (o:Option V),σ=[some (.int f),some (.int m),some (.ref l),o]∧H' l=some (.lst (bs.map V.int))∧bs.length=i∧(∀ b∈bs,1≤b∧b≤4)∧Same H H') ⟨[],none,rfl,n1.at_,rfl,(fun b hb=>by cases hb),n1.same⟩ ?_ ?_
    · rintro i σ H2 hi ⟨bs,o,rfl,hl,hlen,hb,s2⟩
      refine ⟨_,rfl,.inl ⟨rfl,_,SqL.of hl⟩,?_⟩
      walk_at "go"
      refine fun t H3 n3=>?_
      walk_at "go"
      refine ⟨f,_,rfl,by omega,by omega,fun z z0 z1=>?_⟩
      walk_at "go"
      refine ixInts (ns:=[1,1,2,1,3,1,2,4]) (SqL.of n3.at_) (by show (0:Int)≤z % 8; omega) (by show z % 8 < 8; omega) fun x hx=>?_
      have hx':1≤x∧x≤4:=by
        simp only [List.mem_cons,List.not_mem_nil,or_false] at hx
        omega
      refine ⟨l,_,_,rfl,rfl,n3.same _ _ hl,by rw [sizeLine_eq]; simp; omega,?_⟩
      refine ⟨bs ++ [x],_,rfl,by rw [upd_same]; simp,by simp [hlen],fun b hb'=>?_,fun c u e=>?_⟩
      · rcases List.mem_append.mp hb' with h | h
        · exact hb b h
        · have:b=x:=by simpa using h
          rw [this]; exact hx'
      · rw [upd_ne (ne_of_none e n1.none)]
        exact n3.same _ _ (s2 _ _ e)
    · rintro σ H2 ⟨bs,o,rfl,hl,hlen,hb,s2⟩
      walk_at "go"
      exact q l bs H2 ⟨s2,n1.none,hl⟩ (by omega) hb
theorem D_worths (T:Txt mg) (S:Src K mg "_law_worths" "_law_worths" s__law_worths) (D_law_mixed:Def P w K mg base 1 "_law_mixed" ["_law_cell","_law_k"] sp_mixed):Def P w K mg base 2 "_law_worths" ["_law_script","_law_first","_law_people","_law_rooms"] (sp_worths K):=by
  refine S.mk' sc__law_worths (fun vs H Q E h=>?_) (fun _ _ _ _ _ _ us hl=>match us,hl with | [_,_,_,_],_=>rfl) (fun f cdv A outer s H vs Q E hr h=>?_)
  · obtain ⟨a,ns,f,p,r,rfl,_⟩:=h
    rfl
  · obtain ⟨a,ns,f,p,r,rfl,hS,hlen,p0,p1,r0,r1,q⟩:=h
    refine ⟨_,(pss_cons (ps_set (i:=4) sc__law_worths.nd rfl (Or.inl rfl) (pe_lst' pa_nil))
      (pss_cons (ps_for PassesOwn.never rfl (pi_range1 rfl T.range (pa_cons (pe_op op_mulW (pv 2) (pv 3)) pa_nil)) (pg_name (i:=5) sc__law_worths.nd rfl (Or.inl rfl))
      (pss_one (ps_expr (pe_bmK (K:=K) rfl PySem.F.plainAttrs_list PySem.F.slot_list_append PySem.F.type_list_append mt_append (pv 4) (pa_cons (pe_def D_law_mixed (hr.mono (by decide)) rfl (pa_cons (pv 1) (pa_cons (pe_op op_add pe_int (pv 5)) pa_nil))) pa_nil)))))
      (pss_cons (ps_for PassesOwn.never rfl (pi_enumK (K:=K) rfl rfl T.enumerate (pa_cons (pe_slice (sl_listK (K:=K) rfl) (pv 0) (po_some pe_int) po_none) pa_nil)) (pg_tupK (K:=K) (n:=2) rfl rfl (pgs_cons (pg_name (i:=5) sc__law_worths.nd rfl (Or.inl rfl)) (pgs_cons (pg_name (i:=6) sc__law_worths.nd rfl (Or.inl rfl)) pgs_nil)))
      (pss_cons (ps_set (i:=7) sc__law_worths.nd rfl (Or.inl rfl) (pe_op op_mod (pv 5) (pe_callB (call_lenK (K:=K) rfl) (by rfl) T.len boot_len' (pa_cons (pv 4) pa_nil))))
      (pss_one (ps_asg (pe_op op_add (pe_op op_mod (pe_op op_mulW (pe_ix (ix_seqK (K:=K) rfl) (pv 4) (pv 7) (fun _ _=>rfl)) pe_int) (pe_op op_pow pe_int pe_int)) (pe_op op_mod (pv 6) (pe_op op_pow pe_int pe_int))) (pg_sub (pv 4) (pv 7) set_list)))))
      (pss_cons (ps_set (i:=8) sc__law_worths.nd rfl (Or.inl rfl) (pe_lst' pa_nil))
      (pss_cons (ps_for PassesOwn.never rfl (pi_range1 rfl T.range (pa_cons (pv 2) pa_nil)) (pg_name (i:=9) sc__law_worths.nd rfl (Or.inl rfl))
      (pss_cons (ps_set (i:=10) sc__law_worths.nd rfl (Or.inl rfl) (pe_slice (sl_listK (K:=K) rfl) (pv 4) (po_some (pe_op op_mulW (pv 9) (pv 3))) (po_some (pe_op op_add (pe_op op_mulW (pv 9) (pv 3)) (pv 3)))))
      (pss_cons (ps_join (ps_if (pt_cmpR op_eq (pe_op op_mod (pv 1) pe_int) pe_int (nomark _)) (pss_one (ps_setC (i:=10) sc__law_worths.nd rfl (Or.inl rfl) ["_law_number"] [none] rfl rfl rfl (pi_listK (K:=K) rfl (pv 10)) (fun _ _ _ _=>(pg_name (i:=0) (by decide +kernel:(["_law_number"]:List PySem.Str).Nodup) rfl (Or.inl rfl))) (fun _ _ _ _=>pifs_nil) (fun _ _ _ _=>(pe_op op_mod (pv 0) pe_int)))) (pss_one (ps_if (pt_cmpR op_eq (pe_op op_mod (pv 1) pe_int) pe_int (nomark _)) (pss_one (ps_setC (i:=10) sc__law_worths.nd rfl (Or.inl rfl) ["_law_number"] [none] rfl rfl rfl (pi_listK (K:=K) rfl (pv 10)) (fun _ _ _ _=>(pg_name (i:=0) (by decide +kernel:(["_law_number"]:List PySem.Str).Nodup) rfl (Or.inl rfl))) (fun _ _ _ _=>pifs_nil) (fun _ _ _ _=>(pe_op op_sub (pe_op op_mod (pv 0) pe_int) pe_int)))) (pss_one (ps_if (pt_cmpR op_eq (pe_op op_mod (pv 1) pe_int) pe_int (nomark _)) (pss_one (ps_setC (i:=10) sc__law_worths.nd rfl (Or.inl rfl) ["_law_number"] [none] rfl rfl rfl (pi_listK (K:=K) rfl (pv 10)) (fun _ _ _ _=>(pg_name (i:=0) (by decide +kernel:(["_law_number"]:List PySem.Str).Nodup) rfl (Or.inl rfl))) (fun _ _ _ _=>pifs_nil) (fun _ _ _ _=>(pe_op op_add (pe_op op_sub (pe_op op_mod (pv 0) (pe_op op_sub (pe_op op_mulW pe_int (pe_op op_pow pe_int pe_int)) pe_int)) (pe_op op_pow pe_int pe_int)) pe_int)))) (pss_one (ps_setC (i:=10) sc__law_worths.nd rfl (Or.inl rfl) ["_law_number"] [none] rfl rfl rfl (pi_listK (K:=K) rfl (pv 10)) (fun _ _ _ _=>(pg_name (i:=0) (by decide +kernel:(["_law_number"]:List PySem.Str).Nodup) rfl (Or.inl rfl))) (fun _ _ _ _=>pifs_nil) (fun _ _ _ _=>(pe_op op_mulW (pe_op op_mod (pv 0) pe_int) pe_int))))))))))
      (pss_one (ps_expr (pe_bmK (K:=K) rfl PySem.F.plainAttrs_list PySem.F.slot_list_append PySem.F.type_list_append mt_append (pv 8) (pa_cons (pv 10) pa_nil)))))))
      (pss_one (ps_ret (pv 8)))))))),?_⟩
    have hpr:=mul_bd (a:=p) (b:=r) (A:=10) (B:=10) (by omega) (by omega) (by omega) (by omega)
    have hpr0:0 < p * r:=Int.mul_pos (by omega) (by omega)
    walk_at "go"
    refine fun l H1 n1=>?_
    walk_at "go"
    refine for_range (fun i σ H' => ∃ (bs:List Int) (o5 o6 o7 o8 o9 o10:Option V),σ=[some (.ref a),some (.int f),some (.int p),some (.int r),some (.ref l),o5,o6,o7,o8,o9,o10]∧H' l=some (.lst (bs.map V.int))∧bs.length=i∧(∀ b∈bs,0≤b∧b < 10 ^ 42)∧Same H H') ⟨[],none,none,none,none,none,none,rfl,n1.at_,rfl,(fun b hb=>by cases hb),n1.same⟩ ?_ ?_
    · rintro i σ H2 hi ⟨bs,o5,o6,o7,o8,o9,o10,rfl,hl,hlen,hb,s2⟩
      refine ⟨_,rfl,.inl ⟨rfl,_,SqL.of hl⟩,?_⟩
      walk_at "go"
      refine ⟨f,_,rfl,by omega,by omega,fun z z0 z1=>?_⟩
      refine ⟨l,_,_,rfl,rfl,hl,by rw [sizeLine_eq]; simp; omega,?_⟩
      refine ⟨bs ++ [z],_,_,_,_,_,_,rfl,by rw [upd_same]; simp,by simp [hlen],fun b hb'=>?_,fun c u e=>?_⟩
      · rcases List.mem_append.mp hb' with h | h
        · exact hb b h
        · have:b=z:=by simpa using h
          rw [this]; omega
      · rw [upd_ne (ne_of_none e n1.none)]
        exact s2 _ _ e
    rintro σ H2 ⟨bs,o5,o6,o7,o8,o9,o10,rfl,hl,hlen',hb,s2⟩
    refine ⟨_,rfl,_,rfl,a,_,rfl,s2.seq hS,fun c1 H3 n3=>?_⟩
    obtain ⟨ms,em,lm⟩:=cut_ints ns (some 1) none
    rw [em] at n3
    have hl3:=n3.same _ _ hl
    have S3:Same H H3:=s2.trans n3.same
    have nlc:c1≠l:=(ne_of_none hl n3.none).symm
    refine ⟨c1,rfl,⟨_,SqL.of n3.at_⟩,?_⟩
    refine for_enum (xs:=ms.map V.int) (fun i σ H' => ∃ (bs':List Int) (o5 o6 o7 o8 o9 o10:Option V),σ=[some (.ref a),some (.int f),some (.int p),some (.int r),some (.ref l),o5,o6,o7,o8,o9,o10]∧H' l=some (.lst (bs'.map V.int))∧bs'.length=bs.length∧(∀ b∈bs',0≤b∧b < 10 ^ 42)∧Same H H'∧H' c1=some (.lst (ms.map V.int)))
      ⟨bs,_,_,_,_,_,_,rfl,hl3,rfl,hb,S3,n3.at_⟩ (fun i σ H' _ ⟨_,_,_,_,_,_,_,_,_,_,_,_,h⟩=>SqL.of h) ?_ ?_
    · rintro i x σ H4 T4 hx ⟨bs',o5,o6,o7,o8,o9,o10,rfl,hl4,hlen4,hb4,s4,hc4⟩ hT4
      obtain ⟨z,hz,rfl⟩:=int_at hx
      have hi:i < ms.length:=(List.getElem?_eq_some_iff.mp hz).1
      refine ⟨T4,[.int i,.int z],rfl,SqT.of upd_same,rfl,_,_,rfl,_,_,rfl,rfl,?_⟩
      have s5:Same H4 (upd H4 T4 (.tup [.int i,.int z])):=Same.upd hT4
      generalize upd H4 T4 (.tup [.int i,.int z])=H5 at *
      have hl5:=s5 _ _ hl4
      have hbl:0 < bs'.length:=by omega
      walk_at "go"
      refine ⟨l,_,rfl,.inl (SqL.of hl5),?_⟩
      refine ⟨_,_,rfl,rfl,by simp; omega,?_⟩
      have e1:(i:Int) % ((bs'.map V.int).length:Int)=((i % bs'.length:Nat):Int):=by simp
      dsimp only
      rw [e1]
      have hj:i % bs'.length < bs'.length:=Nat.mod_lt _ hbl
      generalize i % bs'.length=j at *
      have gj:(bs'.map V.int)[j]? = some (.int bs'[j]):=by simp [hj]
      obtain ⟨bj0,bj1⟩:=hb4 _ (List.getElem_mem hj)
      have gz:=Int.emod_lt_of_pos z (show (0:Int) < 10 ^ Int.toNat 41 by decide)
      have gz0:=Int.emod_nonneg z (show (10:Int) ^ Int.toNat 41≠0 by decide)
      have gy:=Int.emod_lt_of_pos (bs'[j] * 31) (show (0:Int) < 10 ^ Int.toNat 41 by decide)
      have gy0:=Int.emod_nonneg (bs'[j] * 31) (show (10:Int) ^ Int.toNat 41≠0 by decide)
      have ge:(10:Int) ^ Int.toNat 41=10 ^ 41:=rfl
      walk_at "go"
      refine ixL (SqL.of hl5) (atI_int j rfl gj) ?_
      walk_at "go"
      refine ⟨l,_,_,j,rfl,rfl,hl5,?_,?_⟩
      · unfold ixN
        rw [if_pos (by omega),if_pos (by simp; omega)]
        simp
      refine ⟨bs'.set j (bs'[j] * 31 % 10 ^ Int.toNat 41 + z % 10 ^ Int.toNat 41),_,_,_,_,_,_,rfl,by rw [upd_same,List.map_set],by simp [hlen4],fun b hb'=>?_,fun c u e=>?_,?_⟩
      · rcases List.mem_or_eq_of_mem_set hb' with h | h
        · exact hb4 b h
        · rw [h]; omega
      · rw [upd_ne (ne_of_none e n1.none)]
        exact s5 _ _ (s4 _ _ e)
      · rw [upd_ne nlc]
        exact s5 _ _ hc4
    rintro σ H4 ⟨bs',o5',o6',o7',o8',o9',o10',rfl,hl4,hlen4,hb4,s4,hc4⟩
    walk_at "go"
    refine fun W H5 n5=>?_
    walk_at "go"
    have S5:Same H H5:=s4.trans n5.same
    have hl5:=n5.same _ _ hl4
    have fW:H W=none:=s4.free n5.none
    have nlW:l≠W:=ne_of_none hl4 n5.none
    refine for_range (fun i σ H' => ∃ (ws:List Addr) (rows:List (List Int)) (o5 o6 o7 o9 o10:Option V),σ=[some (.ref a),some (.int f),some (.int p),some (.int r),some (.ref l),o5,o6,o7,some (.ref W),o9,o10]∧H' W=some (.lst (ws.map V.ref))∧rows.length=i∧Rows H' ws rows∧(∀ w∈ws,w≠W)∧(∀ row∈rows,(row.length:Int)=r)∧(∀ row∈rows,∀ x∈row,-(10 ^ 40) < x∧x < 10 ^ 40)∧Same H H'∧H' l=some (.lst (bs'.map V.int)))
      ⟨[],[],_,_,_,_,_,rfl,n5.at_,rfl,⟨rfl,fun i a row h=>by simp at h⟩,(fun w h=>by cases h),(fun w h=>by cases h),(fun w h=>by cases h),S5,hl5⟩ ?_ ?_
    · rintro i σ H6 hi ⟨ws,rows,o5,o6,o7,o9,o10,rfl,hW,hrl,hR,hne,hr1,hr2,s6,hl6⟩
      have hir:((i:Int) + 1) * r≤p * r:=Int.mul_le_mul_of_nonneg_right (by omega) (by omega)
      have hir0:0≤(i:Int) * r:=Int.mul_nonneg (by omega) (by omega)
      have hir1:((i:Int) + 1) * r=(i:Int) * r + r:=by rw [Int.add_mul,Int.one_mul]
      have hbig:(i:Int) * r≤100:=by omega
      have e0:(0 + (i:Int)) * r=((i * r.toNat:Nat):Int):=by
        rw [Int.zero_add,Int.natCast_mul]
        congr 1
        omega
      have e1:((i * r.toNat:Nat):Int) + r=((i * r.toNat + r.toNat:Nat):Int):=by
        rw [Int.natCast_add]
        congr 1
        omega
      have e2:i * r.toNat + r.toNat≤bs'.length:=by
        have:((i * r.toNat + r.toNat:Nat):Int)≤(bs'.length:Int):=by
          rw [← e1,← e0,Int.zero_add]
          omega
        exact Int.ofNat_le.mp this
      walk_at "go"
      rw [e0,e1]
      refine ⟨l,_,rfl,SqL.of hl6,fun c H7 n7=>?_⟩
      rw [cut_between bs' (Nat.le_add_right _ _) e2] at n7
      have hcl:((bs'.drop (i * r.toNat)).take (i * r.toNat + r.toNat - i * r.toNat)).length=r.toNat:=by
        rw [List.length_take,List.length_drop]
        omega
      have hcb:∀ z∈(bs'.drop (i * r.toNat)).take (i * r.toNat + r.toNat - i * r.toNat),0≤z∧z < 10 ^ 42:=fun z hz=>hb4 z (List.mem_of_mem_drop (List.mem_of_mem_take hz))
      generalize (bs'.drop (i * r.toNat)).take (i * r.toNat + r.toNat - i * r.toNat)=cs at *
      have hW7:=n7.same _ _ hW
      have S7:Same H H7:=s6.trans n7.same
      have key:∀ (g:Int→Int) (D:Addr) (H8:Hp),(∀ z,0≤z→-(10 ^ 40) < g z∧g z < 10 ^ 40)→H7 D=none→Same H7 H8→H8 D=some (.lst ((cs.map g).map V.int)) →
          ∃ (c':Addr) (row:List Int),D=c'∧H8 c'=some (.lst (row.map V.int))∧(row.length:Int)=r∧(∀ x∈row,-(10 ^ 40) < x∧x < 10 ^ 40)∧c'≠W∧Same H7 H8:=fun g D H8 hg hD s8 h8 =>
        ⟨D,cs.map g,rfl,h8,by rw [List.length_map,hcl]; omega,fun x hx=>by
          obtain ⟨z,hz,rfl⟩:=List.mem_map.mp hx
          exact hg z (hcb z hz).1,(ne_of_none hW7 hD).symm,s8⟩
      refine ⟨fun σ' H' => ∃ (c':Addr) (row:List Int),σ'=[some (.ref a),some (.int f),some (.int p),some (.int r),some (.ref l),o5,o6,o7,some (.ref W),some (.int (0 + (i:Int))),some (.ref c')]∧H' c'=some (.lst (row.map V.int))∧(row.length:Int)=r∧(∀ x∈row,-(10 ^ 40) < x∧x < 10 ^ 40)∧c'≠W∧Same H7 H',?_,?_⟩
      · walk_at "go"
        refine ite2 (fun _=>?_) (fun _=>?_)
        · refine ⟨_,rfl,c,rfl,⟨_,SqL.of n7.at_⟩,fun D hD=>?_⟩
          refine compMap cs (fun z=>z % 3) (SqL.of n7.at_) (by rw [hcl,sizeLine_eq]; omega) hD (fun z hz H8 N s8 hN=>?_) fun H8 s8 h8=>?_
          · walk_at "go"
            exact hN
          · obtain ⟨c',row,rfl,k1,k2,k3,k4,k5⟩:=key _ D H8 (fun z hz=>by omega) hD s8 h8
            exact ⟨D,row,rfl,k1,k2,k3,k4,k5⟩
        · walk_at "go"
          refine ite2 (fun _=>?_) (fun _=>?_)
          · refine ⟨_,rfl,c,rfl,⟨_,SqL.of n7.at_⟩,fun D hD=>?_⟩
            refine compMap cs (fun z=>z % 2001 - 500) (SqL.of n7.at_) (by rw [hcl,sizeLine_eq]; omega) hD (fun z hz H8 N s8 hN=>?_) fun H8 s8 h8=>?_
            · walk_at "go"
              exact hN
            · obtain ⟨c',row,rfl,k1,k2,k3,k4,k5⟩:=key _ D H8 (fun z hz=>by omega) hD s8 h8
              exact ⟨D,row,rfl,k1,k2,k3,k4,k5⟩
          · walk_at "go"
            refine ite2 (fun _=>?_) (fun _=>?_)
            · refine ⟨_,rfl,c,rfl,⟨_,SqL.of n7.at_⟩,fun D hD=>?_⟩
              refine compMap cs (fun z=>z % (2 * 10 ^ Int.toNat 40 - 1) - 10 ^ Int.toNat 40 + 1) (SqL.of n7.at_) (by rw [hcl,sizeLine_eq]; omega) hD (fun z hz H8 N s8 hN=>?_) fun H8 s8 h8=>?_
              · walk_at "go"
                exact hN
              · obtain ⟨c',row,rfl,k1,k2,k3,k4,k5⟩:=key _ D H8 (fun z hz=>by
                  have g1:=Int.emod_nonneg z (show (2 * 10 ^ Int.toNat 40 - 1:Int)≠0 by decide)
                  have g2:=Int.emod_lt_of_pos z (show (0:Int) < 2 * 10 ^ Int.toNat 40 - 1 by decide)
                  have ge:(10:Int) ^ Int.toNat 40=10 ^ 40:=rfl
                  rw [ge] at g1 g2 ⊢
                  omega) hD s8 h8
                exact ⟨D,row,rfl,k1,k2,k3,k4,k5⟩
            · refine ⟨_,rfl,c,rfl,⟨_,SqL.of n7.at_⟩,fun D hD=>?_⟩
              refine compMap cs (fun z=>z % 9 * 100) (SqL.of n7.at_) (by rw [hcl,sizeLine_eq]; omega) hD (fun z hz H8 N s8 hN=>?_) fun H8 s8 h8=>?_
              · walk_at "go"
                exact hN
              · obtain ⟨c',row,rfl,k1,k2,k3,k4,k5⟩:=key _ D H8 (fun z hz=>by omega) hD s8 h8
                exact ⟨D,row,rfl,k1,k2,k3,k4,k5⟩
      · rintro σ' H8 ⟨c',row,rfl,h8,l8,b8,n8,s8⟩
        have hW8:=s8 _ _ hW7
        have hwl:ws.length=i:=by rw [hR.1,hrl]
        refine ⟨_,rfl,.inl ⟨rfl,_,SqL.of hW8⟩,_,rfl,W,_,_,rfl,rfl,hW8,by rw [sizeLine_eq,List.length_map]; omega,?_⟩
        refine ⟨ws ++ [c'],rows ++ [row],_,_,_,_,_,rfl,by rw [upd_same]; simp,by simp [hrl],hR.snoc (fun a ha o e=>?_) ?_,fun w hw=>?_,fun w hw=>?_,fun w hw=>?_,fun b o e=>?_,?_⟩
        · rw [upd_ne (hne a ha)]
          exact s8 _ _ (n7.same _ _ e)
        · rw [upd_ne n8]
          exact h8
        · rcases List.mem_append.mp hw with h | h
          · exact hne w h
          · have:w=c':=by simpa using h
            rw [this]; exact n8
        · rcases List.mem_append.mp hw with h | h
          · exact hr1 w h
          · have:w=row:=by simpa using h
            rw [this]; exact l8
        · rcases List.mem_append.mp hw with h | h
          · exact hr2 w h
          · have:w=row:=by simpa using h
            rw [this]; exact b8
        · rw [upd_ne (ne_of_none e fW)]
          exact s8 _ _ (S7 _ _ e)
        · rw [upd_ne nlW]
          exact s8 _ _ (n7.same _ _ hl6)
    · rintro σ H6 ⟨ws,rows,o5,o6,o7,o9,o10,rfl,hW,hrl,hR,hne,hr1,hr2,s6,hl6⟩
      walk_at "go"
      exact q W rows H6 s6 ⟨ws,hW,hR⟩ (by omega) hr1 hr2
theorem D_house (T:Txt mg) (S:Src K mg "_law_house" "_law_house" s__law_house) (D_law_mixed:Def P w K mg base 1 "_law_mixed" ["_law_cell","_law_k"] sp_mixed) (D_law_cell_at:Def P w K mg base 1 "_law_cell_at" ["_law_script","_law_k"] (sp_cell K)) (D_law_beds:Def P w K mg base 2 "_law_beds" ["_law_first","_law_many"] sp_beds) (D_law_worths:Def P w K mg base 2 "_law_worths" ["_law_script","_law_first","_law_people","_law_rooms"] (sp_worths K)):Def P w K mg base 3 "_law_house" ["_law_script","_law_most_people","_law_most_rooms"] (sp_house K):=by
  refine S.mk' sc__law_house (fun vs H Q E h=>?_) (fun _ _ _ _ _ _ us hl=>match us,hl with | [_,_,_],_=>rfl) (fun f cdv A outer s H vs Q E hr h=>?_)
  · obtain ⟨a,ns,mp,mr,rfl,_⟩:=h
    rfl
  · obtain ⟨a,ns,mp,mr,rfl,hS,hlen,p0,p1,r0,r1,q⟩:=h
    refine ⟨_,(pss_cons (ps_set (i:=3) sc__law_house.nd rfl (Or.inl rfl) (pe_def D_law_mixed (hr.mono (by decide)) rfl (pa_cons (pe_def D_law_cell_at (hr.mono (by decide)) rfl (pa_cons (pv 0) (pa_cons pe_int pa_nil))) (pa_cons pe_int pa_nil))))
      (pss_cons (ps_set (i:=4) sc__law_house.nd rfl (Or.inl rfl) (pe_def D_law_beds (hr.mono (by decide)) rfl (pa_cons (pv 3) (pa_cons (pe_op op_add pe_int (pe_op op_mod (pe_op op_fdivW (pv 3) pe_int) (pv 2))) pa_nil))))
      (pss_cons (ps_set (i:=5) sc__law_house.nd rfl (Or.inl rfl) (pe_op op_add pe_int (pe_op op_mod (pe_op op_fdivW (pv 3) pe_int) (pe_callB (call_min2 rfl) (by rfl) T.min boot_min' (pa_cons (pv 1) (pa_cons (pe_callB (call_sumK (K:=K) rfl rfl) (by rfl) T.sum boot_sum' (pa_cons (pv 4) pa_nil)) pa_nil))))))
      (pss_cons (ps_set (i:=6) sc__law_house.nd rfl (Or.inl rfl) (pe_def D_law_worths (hr.mono (by decide)) rfl (pa_cons (pv 0) (pa_cons (pv 3) (pa_cons (pv 5) (pa_cons (pe_callB (call_lenK (K:=K) rfl) (by rfl) T.len boot_len' (pa_cons (pv 4) pa_nil)) pa_nil))))))
      (pss_cons (ps_set (i:=7) sc__law_house.nd rfl (Or.inl rfl) (pe_op op_mod (pe_op op_fdivW (pv 3) pe_int) pe_int))
      (pss_cons (ps_join (ps_if (pt_cmpR op_eq (pe_op op_mod (pe_op op_fdivW (pv 3) pe_int) pe_int) pe_int (nomark _)) (pss_one (ps_set (i:=7) sc__law_house.nd rfl (Or.inl rfl) (pe_op op_add (pe_op op_sub (pe_op op_mod (pe_def D_law_cell_at (hr.mono (by decide)) rfl (pa_cons (pv 0) (pa_cons pe_int pa_nil))) (pe_op op_sub (pe_op op_mulW pe_int (pe_op op_pow pe_int pe_int)) pe_int)) (pe_op op_pow pe_int pe_int)) pe_int))) pss_nil))
      (pss_one (ps_ret (pe_tup' (pa_cons (pv 4) (pa_cons (pv 6) (pa_cons (pv 7) pa_nil)))))))))))),?_⟩
    walk_at "go"
    refine ⟨a,ns,_,rfl,hS,by decide,fun z0=>?_⟩
    walk_at "go"
    refine ⟨z0,_,rfl,by decide,by decide,fun m m0 m1=>?_⟩
    walk_at "go"
    have g1:=Int.emod_nonneg (m / 4) (show mr≠0 by omega)
    have g2:=Int.emod_lt_of_pos (m / 4) (show 0 < mr by omega)
    refine ⟨m,_,rfl,by omega,by omega,fun b bs H1 n1 hbl hbb=>?_⟩
    have hb1:1≤bs.length:=by omega
    have hs1:=sum_ge (bs:=bs) fun x hx=>(hbb x hx).1
    have hs2:=sum_le (bs:=bs) (m:=4) fun x hx=>(hbb x hx).2
    walk_at "go"
    refine ⟨b,bs,rfl,SqL.of n1.at_,?_⟩
    refine ⟨_,_,rfl,?_⟩
    have hmin:1≤(if bs.sum < mp then bs.sum else mp)∧(if bs.sum < mp then bs.sum else mp)≤mp∧(if bs.sum < mp then bs.sum else mp)≤bs.sum:=by
      split <;> omega
    generalize (if bs.sum < mp then bs.sum else mp)=mn at *
    have g3:=Int.emod_nonneg (m / 40) (show mn≠0 by omega)
    have g4:=Int.emod_lt_of_pos (m / 40) (show 0 < mn by omega)
    walk_at "go"
    refine ⟨b,_,rfl,.inl (SqL.of n1.at_),?_⟩
    rw [List.length_map]
    refine ⟨a,ns,m,_,_,rfl,n1.same.seq hS,hlen,by omega,by omega,by omega,by omega,fun w rows H2 s2 hM hrl hr1 hr2=>?_⟩
    walk_at "go"
    have S2:Same H H2:=n1.same.trans s2
    refine ⟨fun σ' H'=>H'=H2∧∃ rent:Int,σ'=[some (.ref a),some (.int mp),some (.int mr),some (.int m),some (.ref b),some (.int (1 + m / 40 % mn)),some (.ref w),some (.int rent)]∧-(10 ^ 40) < rent∧rent < 10 ^ 40,?_,?_⟩
    · walk_at "go"
      refine ite2 (fun _=>?_) (fun _=>?_)
      · walk_at "go"
        refine ⟨a,ns,_,rfl,S2.seq hS,by decide,fun z=>?_⟩
        have g5:=Int.emod_nonneg z (show (2 * 10 ^ Int.toNat 40 - 1:Int)≠0 by decide)
        have g6:=Int.emod_lt_of_pos z (show (0:Int) < 2 * 10 ^ Int.toNat 40 - 1 by decide)
        have ge:(10:Int) ^ Int.toNat 40=10 ^ 40:=rfl
        walk_at "go"
        rw [ge] at g5 g6
        show z % (2 * 10 ^ Int.toNat 40 - 1) - 10 ^ Int.toNat 40 + 1 < 10 ^ 40
        rw [ge]
        omega
      · exact ⟨rfl,_,rfl,by omega,by omega⟩
    · rintro σ' H' ⟨rfl,rent,rfl,e1,e2⟩
      walk_at "go"
      refine fun t H3 n3=>?_
      refine q t b w bs rows rent H3 (S2.trans n3.same) n3.at_ (n3.same _ _ (s2 _ _ n1.at_)) (hM.same n3.same) ⟨hb1,by omega,hbb,by omega,by omega,by omega,fun row hr=>?_,hr2,e1,e2⟩
      have:=hr1 row hr
      omega
theorem D_ishop {CH CWorst CEven:Addr} (T:Txt mg) (HC:HCls K mg CH) (HWorst:AimCls K mg CWorst "Worst") (HEven:AimCls K mg CEven "Even") (S:Src K mg "is_hop" "is_hop" s_is_hop) (MWorst_through:MDef P w K mg base 5 CWorst "through" ["self","a","b"] (sp_through true CH CWorst)) (MEven_through:MDef P w K mg base 5 CEven "through" ["self","a","b"] (sp_through false CH CEven)) (Mpeople:MDef P w K mg base 1 CH "people" ["self"] (sp_people CH)):Def P w K mg base 6 "is_hop" ["aim","hop"] (sp_ishop CH CWorst CEven):=by
  refine S.mk' sc_is_hop (fun vs H Q E h=>?_) (fun _ _ _ _ _ _ us hl=>match us,hl with | [_,_],_=>rfl) (fun f cdv A outer s H vs Q E hr h=>?_)
  · obtain ⟨wo,p,t,beds,worths,rent,way,m,rfl,_⟩:=h
    rfl
  · obtain ⟨wo,p,t,beds,worths,rent,way,m,rfl,hA,ok,ht,m1,m2,m3,m4,q⟩:=h
    refine ⟨_,(pss_cons (ps_set (i:=2) sc_is_hop.nd rfl (Or.inl rfl) (pe_mdef0 Mpeople HC.cl (pe_fldK (K:=K) rfl (pv 0) rfl) (hr.mono (by decide))))
      (pss_cons (ps_if (PW.pt (pw_or (pt_cmpR op_eq (pe_ix (ix_seqK (K:=K) rfl) (pv 1) pe_int (fun _ _=>rfl)) (pe_ix (ix_seqK (K:=K) rfl) (pv 1) pe_int (fun _ _=>rfl)) (nomark _)) (pw_or (pt_not (pt_chain op_le op_lt pe_int (pe_ix (ix_seqK (K:=K) rfl) (pv 1) pe_int (fun _ _=>rfl)) (pv 2))) (pw_or1 (pt_not (pt_chain op_le op_lt pe_int (pe_ix (ix_seqK (K:=K) rfl) (pv 1) pe_int (fun _ _=>rfl)) (pv 2))))))) (pss_one (ps_ret pe_bl)) pss_nil)
      (pss_one (ps_ret (pe_cmpR (op_in_seqK (K:=K) rfl) (pe_ix (ix_seqK (K:=K) rfl) (pv 1) pe_int (fun _ _=>rfl)) (pe_either (pe_mdef MWorst_through HWorst.cl (pv 0) (hr.mono (by decide)) (pa_cons (pe_ix (ix_seqK (K:=K) rfl) (pv 1) pe_int (fun _ _=>rfl)) (pa_cons (pe_ix (ix_seqK (K:=K) rfl) (pv 1) pe_int (fun _ _=>rfl)) pa_nil))) (pe_mdef MEven_through HEven.cl (pv 0) (hr.mono (by decide)) (pa_cons (pe_ix (ix_seqK (K:=K) rfl) (pv 1) pe_int (fun _ _=>rfl)) (pa_cons (pe_ix (ix_seqK (K:=K) rfl) (pv 1) pe_int (fun _ _=>rfl)) pa_nil)))) (by with_unfolding_all rfl)))))),?_⟩
    have AC:ACls K (CC CWorst CEven wo):=by
      cases wo
      · exact HEven.a
      · exact HWorst.a
    obtain ⟨dx,hp,wa,g1,g2,g3⟩:=hA.ex
    obtain ⟨dh,bb,ww,h1,h2,h3⟩:=g2.ex
    refine ⟨_,rfl,p,_,dx,_,_,rfl,g1,AC.cl,AC.nH,af_house _ _,hp,dh,_,rfl,h1,hf_no _ _ _ (by decide +kernel) (by decide +kernel) (by decide +kernel),hp,beds,worths,rent,rfl,g2,?_⟩
    walk_at "go"
    refine ixT (SqT.of ht) rfl ?_
    walk_at "go"
    refine ixT (SqT.of ht) rfl ?_
    walk_at "go"
    refine iteE (decide_eq_false (fun z=>by injection z with z; omega)) ?_
    walk_at "go"
    refine ixT (SqT.of ht) rfl ?_
    walk_at "go"
    refine iteE (by rw [decide_eq_true (by omega)]; rfl) ?_
    walk_at "go"
    refine ixT (SqT.of ht) rfl ?_
    walk_at "go"
    refine iteE (by rw [decide_eq_true (by omega)]; rfl) ?_
    walk_at "go"
    refine ixT (SqT.of ht) rfl ?_
    refine thru_go (a:=m.1) (b:=m.2.2) hA ok m1 m2 (fun _ k=>⟨_,rfl,k⟩) (fun K2 k=>?_) fun l4 ms H4 s4 f4 h4 hr4=>?_
    · walk_at "go"
      refine ixT (SqT.of ht) rfl ?_
      walk_at "go"
      refine ixT (SqT.of ht) rfl ?_
      exact k
    refine ⟨l4,_,rfl,.inl (SqL.of h4),rfl,by simp [flatV],?_⟩
    rw [if_neg Bool.false_ne_true,inV_ints,decide_eq_true ((hr4.2 _).mpr m4)]
    exact q _ s4
theorem D_cgain {CH CWorst CEven:Addr} (T:Txt mg) (HC:HCls K mg CH) (HWorst:AimCls K mg CWorst "Worst") (HEven:AimCls K mg CEven "Even") (S:Src K mg "chain_gain" "chain_gain" s_chain_gain) (MWorst_gain:MDef P w K mg base 2 CWorst "gain" ["self","a","r","b"] (sp_gain true CH CWorst)) (MEven_gain:MDef P w K mg base 2 CEven "gain" ["self","a","r","b"] (sp_gain false CH CEven)) (Dis_hop:Def P w K mg base 6 "is_hop" ["aim","hop"] (sp_ishop CH CWorst CEven)):Def P w K mg base 7 "chain_gain" ["aim","chain","i"] (sp_cgain CH CWorst CEven):=by
  refine S.mk' sc_chain_gain (fun vs H Q E h=>?_) (fun _ _ _ _ _ _ us hl=>match us,hl with | [_,_,_],_=>rfl) (fun f cdv A outer s H vs Q E hr h=>?_)
  · obtain ⟨wo,p,cl,beds,worths,rent,way,hops,c,s,i,rfl,_⟩:=h
    rfl
  · obtain ⟨wo,p,cl,beds,worths,rent,way,hops,c,s,i,rfl,hA,ok,good,hc,hh,q⟩:=h
    refine ⟨_,(pss_cons (ps_set (i:=3) sc_chain_gain.nd rfl (Or.inl rfl) pe_int)
      (pss_cons (ps_set (i:=4) sc_chain_gain.nd rfl (Or.inl rfl) (pv 2))
      (pss_cons (ps_for PassesOwn.never rfl (pi_revK (K:=K) rfl rfl T.reversed (pv 1)) (pg_name (i:=5) sc_chain_gain.nd rfl (Or.inl rfl))
      (pss_cons (ps_if (PW.pt (pw_or (pt_cmpR op_ne (pe_ix (ix_seqK (K:=K) rfl) (pv 5) pe_int (fun _ _=>rfl)) (pv 4) (nomark _)) (pw_or1 (pt_not (pt_val (pe_def Dis_hop (hr.mono (by decide)) rfl (pa_cons (pv 0) (pa_cons (pv 5) pa_nil)))))))) (pss_one (ps_ret pe_non)) pss_nil)
      (pss_cons (ps_set (i:=3) sc_chain_gain.nd rfl (Or.inl rfl) (pe_op op_add (pv 3) (pe_either (pe_mdef MWorst_gain HWorst.cl (pv 0) (hr.mono (by decide)) (pa_cons (pe_ix (ix_seqK (K:=K) rfl) (pv 5) pe_int (fun _ _=>rfl)) (pa_cons (pe_ix (ix_seqK (K:=K) rfl) (pv 5) pe_int (fun _ _=>rfl)) (pa_cons (pe_ix (ix_seqK (K:=K) rfl) (pv 5) pe_int (fun _ _=>rfl)) pa_nil)))) (pe_mdef MEven_gain HEven.cl (pv 0) (hr.mono (by decide)) (pa_cons (pe_ix (ix_seqK (K:=K) rfl) (pv 5) pe_int (fun _ _=>rfl)) (pa_cons (pe_ix (ix_seqK (K:=K) rfl) (pv 5) pe_int (fun _ _=>rfl)) (pa_cons (pe_ix (ix_seqK (K:=K) rfl) (pv 5) pe_int (fun _ _=>rfl)) pa_nil)))))))
      (pss_one (ps_set (i:=4) sc_chain_gain.nd rfl (Or.inl rfl) (pe_ix (ix_seqK (K:=K) rfl) (pv 5) pe_int (fun _ _=>rfl)))))))
      (pss_one (ps_ret (pv 3)))))),?_⟩
    obtain ⟨ts,e1,e2,e3⟩:=id hh
    walk_at "go"
    refine ⟨cl,_,rfl,SqL.of e1,?_⟩
    refine for_rev (xs:=ts.map V.ref) (fun k σ H' => ∃ (e:Nat) (o5:Option V),σ=[some (.ref p),some (.ref cl),some (.int (i:Int)),some (.int (wt (gnF wo worths way) (c.drop (c.length - k)))),some (.int (e:Int)),o5]∧Same H H'∧ChS hops s (c.take (c.length - k)) e) ⟨i,none,by rw [Nat.sub_zero,List.drop_length]; rfl,Same.refl _,by simpa using hc⟩ (fun k σ H' _ h=>h.choose_spec.choose_spec.2.1.seq (SqL.of e1)) ?_ ?_
    · rintro k x σ H1 hx ⟨e,o5,rfl,s1,hc1⟩
      have hk:k < c.length:=by
        have:=(List.getElem?_eq_some_iff.mp hx).1
        simpa [e2] using this
      have hx2:(ts.map V.ref)[c.length - 1 - k]? = some x:=by
        rw [List.getElem?_reverse (by simpa [e2] using hk)] at hx
        simpa [e2] using hx
      obtain ⟨t,ht,rfl⟩:=ref_at hx2
      have hm:c[c.length - 1 - k]? = some (c[c.length - 1 - k]'(by omega)):=by simp [show c.length - 1 - k < c.length by omega]
      have htt:=s1 _ _ (e3 _ _ _ ht hm)
      have etk:c.take (c.length - k)=c.take (c.length - (k + 1)) ++ [c[c.length - 1 - k]'(by omega)]:=by
        rw [show c.length - k=(c.length - (k + 1)) + 1 by omega,List.take_succ,show c.length - (k + 1)=c.length - 1 - k by omega,hm]
        rfl
      have edr:c.drop (c.length - (k + 1))=(c[c.length - 1 - k]'(by omega)) :: c.drop (c.length - k):=by
        have h0:c.drop (c.length - 1 - k)=(c[c.length - 1 - k]'(by omega)) :: c.drop (c.length - 1 - k + 1):=List.drop_eq_getElem_cons (by omega)
        rw [show c.length - (k + 1)=c.length - 1 - k by omega,h0,show c.length - 1 - k + 1=c.length - k by omega]
      rw [etk] at hc1
      generalize c[c.length - 1 - k]'(by omega)=m at *
      obtain ⟨hc2,hmem,hme⟩:=hc1.inv
      obtain ⟨m1,m2,m3,m4,m5⟩:=good.mem m hmem
      have hA1:=hA.same s1
      walk_at "go"
      refine ixT (SqT.of htt) rfl ?_
      walk_at "go"
      refine iteE (by simp [hme]) ?_
      walk_at "go"
      refine ⟨wo,p,t,beds,worths,rent,way,m,rfl,hA1,ok,htt,m1,m2,m3,m5,fun H2 s2=>?_⟩
      walk_at "go"
      have htt2:=s2 _ _ htt
      refine gain_go (a:=m.1) (r:=m.2.1) (b:=m.2.2) (hA1.same s2) ok m1 m4 m2 (fun _ k=>⟨_,rfl,k⟩) (fun K2 k=>?_) ?_
      · walk_at "go"
        refine ixT (SqT.of htt2) rfl ?_
        walk_at "go"
        refine ixT (SqT.of htt2) rfl ?_
        walk_at "go"
        refine ixT (SqT.of htt2) rfl ?_
        exact k
      walk_at "go"
      refine ixT (SqT.of htt2) rfl ?_
      have ew:wt (gnF wo worths way) (c.drop (c.length - (k + 1)))=wt (gnF wo worths way) (c.drop (c.length - k)) + gainF wo worths way m.1 m.2.1 m.2.2:=by
        rw [edr]
        simp only [wt,List.map_cons,List.sum_cons,gnF]
        omega
      refine ⟨m.1,some (.ref t),?_,s1.trans s2,hc2⟩
      rw [ew]
      rfl
    · rintro σ H1 ⟨e,o5,rfl,s1,hc1⟩
      walk_at "go"
      rw [List.length_map,e2,Nat.sub_self,List.drop_zero]
      exact q _ s1
theorem D_worthof {C:Addr} (T:Txt mg) (HC:HCls K mg C) (S:Src K mg "worth_of" "worth_of" s_worth_of) (Mpeople:MDef P w K mg base 1 C "people" ["self"] (sp_people C)):Def P w K mg base 2 "worth_of" ["house","way"] (sp_worthof K C):=by
  refine S.mk' sc_worth_of (fun vs H Q E h=>?_) (fun _ _ _ _ _ _ us hl=>match us,hl with | [_,_],_=>rfl) (fun f cdv A outer s H vs Q E hr h=>?_)
  · obtain ⟨p,a,beds,worths,rent,way,rfl,_⟩:=h
    rfl
  · obtain ⟨p,a,beds,worths,rent,way,rfl,hA,hl,hS,hlen,hin,q⟩:=h
    refine ⟨_,(pss_one (ps_ret (pe_callB (call_sumK (K:=K) rfl rfl) (by rfl) T.sum boot_sum' (pa_cons (pe_comp ["person","house","way"] [none,some 0,some 1] rfl rfl rfl (pi_range1 rfl T.range (pa_cons (pe_mdef0 Mpeople HC.cl (pv 0) (hr.mono (by decide))) pa_nil)) (fun _ _ _ _=>(pg_name (i:=0) (by decide +kernel:(["person","house","way"]:List PySem.Str).Nodup) rfl (Or.inl rfl))) (fun _ _ _ _=>pifs_nil) (fun _ _ _ _=>(pe_ix (ix_seqK (K:=K) rfl) (pe_ix (ix_seqK (K:=K) rfl) (pe_fldK (K:=K) rfl (pv 1) rfl) (pv 0) (fun _ _=>rfl)) (pe_ix (ix_seqK (K:=K) rfl) (pv 2) (pv 0) (fun _ _=>rfl)) (fun _ _=>rfl)))) pa_nil)))),?_⟩
    obtain ⟨dx,b,w,h1,h2,h3⟩:=hA.ex
    obtain ⟨ws,hw,hR⟩:=id h3
    refine ⟨_,rfl,p,dx,_,rfl,h1,hf_no _ _ _ (by decide +kernel) (by decide +kernel) (by decide +kernel),p,beds,worths,rent,rfl,hA,?_⟩
    refine ⟨_,rfl,by omega,by omega,fun D hD=>?_⟩
    refine comp_range (fun i y _=>y=.int ((worths.getD i []).getD (way.getD i 0).toNat 0)) (by rw [sizeLine_eq]; omega) hD (fun _ _ _ _ _ h=>h) ?_ ?_
    · rintro i H1 ys N hi s1 d1 hN
      have hi':i < worths.length:=by omega
      have hi2:i < way.length:=by omega
      have hrow:worths[i]? = some worths[i]:=by simp [hi']
      obtain ⟨ra,g1,g2,g3⟩:=hR.at_ hrow
      have g4:(way.map V.int)[i]? = some (.int way[i]):=by simp [hi2]
      obtain ⟨b1,b2⟩:=hin _ (List.getElem_mem hi') _ (List.getElem_mem hi2)
      have g5:(worths[i].map V.int)[way[i].toNat]? = some (.int ((worths[i]).getD way[i].toNat 0)):=by
        have:way[i].toNat < worths[i].length:=by omega
        simp [this]
      refine ⟨_,rfl,p,C,dx,_,_,rfl,s1 _ _ h1,HC.cl,HC.nW,hf_worths _ _ _,_,rfl,?_⟩
      refine ixL (SqL.of (s1 _ _ hw)) (atI_int i (by omega) g2) ?_
      refine ⟨_,rfl,_,rfl,?_⟩
      refine ixL (s1.seq hS) (atI_int i (by omega) g4) ?_
      refine ixL (SqL.of (s1 _ _ g3)) (atI_int way[i].toNat (by omega) g5) ?_
      refine hN _ _ (Same.refl _) ?_
      simp [hi',hi2]
    · rintro ys H1 s1 d1 l1 r1
      have e:ys=((List.range worths.length).map fun i=>(worths.getD i []).getD (way.getD i 0).toNat 0).map V.int:=ints_of (by rw [l1]; simp) fun i y e=>by
        have hi:i < worths.length:=by have:=(List.getElem?_eq_some_iff.mp e).1; omega
        exact ⟨(worths.getD i []).getD (way.getD i 0).toNat 0,by rw [List.getElem?_map,List.getElem?_range hi]; rfl,r1 i y e⟩
      rw [e] at d1
      refine ⟨D,_,rfl,SqL.of d1,q _ s1⟩
theorem D_Wwhole {CH C:Addr} (T:Txt mg) (HC:HCls K mg CH) (AC:ACls K C) (S:MSrc K C "whole" "Worst.whole" s_Worst_whole) (Dworth_of:Def P w K mg base 2 "worth_of" ["house","way"] (sp_worthof K CH)):MDef P w K mg base 3 C "whole" ["self"] (sp_whole_ true CH C):=by
  refine S.mk' sc_Worst_whole (fun vs H Q E h=>?_) (fun _ _ _ _ _ _ us hl=>match us,hl with | [_],_=>rfl) (fun f cdv A outer s H vs Q E hr h=>?_)
  · obtain ⟨p,beds,worths,rent,way,rfl,_⟩:=h
    rfl
  · obtain ⟨p,beds,worths,rent,way,rfl,hA,ok,q⟩:=h
    refine ⟨_,(pss_one (ps_ret (pe_op op_sub (pe_def Dworth_of (hr.mono (by decide)) rfl (pa_cons (pe_fldK (K:=K) rfl (pv 0) rfl) (pa_cons (pe_fldK (K:=K) rfl (pv 0) rfl) pa_nil))) (pe_fldK (K:=K) rfl (pe_fldK (K:=K) rfl (pv 0) rfl) rfl)))),?_⟩
    obtain ⟨dx,hp,wa,g1,g2,g3⟩:=hA.ex
    have l1:=ok.bok.w1
    refine ⟨_,rfl,p,C,dx,_,_,rfl,g1,AC.cl,AC.nH,af_house _ _,_,rfl,p,C,dx,_,_,rfl,g1,AC.cl,AC.nW,af_way _ _,?_⟩
    refine ⟨hp,wa,beds,worths,rent,wI way,rfl,g2,by omega,SqL.of g3,by simp [wI,ok.len],fun row hr z hz=>?_,fun H1 s1=>?_⟩
    · obtain ⟨r,h1,rfl⟩:=List.mem_map.mp hz
      have h2:=ok.lt r h1
      have h3:=ok.bok.rows row hr
      omega
    obtain ⟨dh,bd,w,h1,h2,h3⟩:=(g2.same s1).ex
    refine ⟨_,rfl,p,C,dx,_,_,rfl,s1 _ _ g1,AC.cl,AC.nH,af_house _ _,hp,CH,dh,_,_,rfl,h1,HC.cl,HC.nR,hf_rent _ _ _,?_⟩
    rw [worthL_wsum ok.len]
    exact ⟨_,_,rfl,rfl,q _ s1⟩
theorem D_Ewhole {CH C:Addr} (T:Txt mg) (HC:HCls K mg CH) (AC:ACls K C) (S:MSrc K C "whole" "Even.whole" s_Even_whole):MDef P w K mg base 3 C "whole" ["self"] (sp_whole_ false CH C):=by
  refine S.mk' sc_Even_whole (fun vs H Q E h=>?_) (fun _ _ _ _ _ _ us hl=>match us,hl with | [_],_=>rfl) (fun f cdv A outer s H vs Q E hr h=>?_)
  · obtain ⟨p,beds,worths,rent,way,rfl,_⟩:=h
    rfl
  · obtain ⟨p,beds,worths,rent,way,rfl,hA,ok,q⟩:=h
    refine ⟨_,(pss_one (ps_ret (pe_fldK (K:=K) rfl (pe_fldK (K:=K) rfl (pv 0) rfl) rfl))),?_⟩
    obtain ⟨dx,hp,wa,g1,g2,g3⟩:=hA.ex
    obtain ⟨dh,bd,w,h1,h2,h3⟩:=g2.ex
    refine ⟨_,rfl,p,C,dx,_,_,rfl,g1,AC.cl,AC.nH,af_house _ _,hp,CH,dh,_,_,rfl,h1,HC.cl,HC.nR,hf_rent _ _ _,?_⟩
    exact q _ (Same.refl _)
theorem D_Wprice {CH C:Addr} (T:Txt mg) (AC:ACls K C) (S:MSrc K C "price" "Worst.price" s_Worst_price) (Down_worth:Def P w K mg base 1 "own_worth" ["aim","person"] (sp_ownworth K CH)):MDef P w K mg base 2 C "price" ["self","i","level","parts"] (sp_price true CH C):=by
  refine S.mk' sc_Worst_price (fun vs H Q E h=>?_) (fun _ _ _ _ _ _ us hl=>match us,hl with | [_,_,_,_],_=>rfl) (fun f cdv A outer s H vs Q E hr h=>?_)
  · obtain ⟨p,beds,worths,rent,way,i,level,parts,rfl,_⟩:=h
    rfl
  · obtain ⟨p,beds,worths,rent,way,i,level,parts,rfl,hA,ok,hi,hx,hp,q⟩:=h
    refine ⟨_,(pss_one (ps_ret (pe_op op_sub (pe_op op_mulW (pv 3) (pe_def Down_worth (hr.mono (by decide)) rfl (pa_cons (pv 0) (pa_cons (pv 1) pa_nil)))) (pv 2)))),?_⟩
    have hob:-(10 ^ 42) < ownF worths way i∧ownF worths way i < 10 ^ 42:=by
      obtain ⟨w1,w2⟩:=ok.at_ hi
      have hrl:=ok.bok.rows _ (List.getElem_mem hi)
      have:ownF worths way i=worths[i][way.getD i 0]'(by omega):=by
        unfold ownF wF
        rw [List.getD_eq_getElem?_getD (l:=worths),List.getElem?_eq_getElem hi]
        show (worths[i]).getD (way.getD i 0) 0=_
        rw [List.getD_eq_getElem?_getD (l:=worths[i]),List.getElem?_eq_getElem (by omega)]
        rfl
      rw [this]
      exact hx _ (List.getElem_mem hi) _ (List.getElem_mem _)
    refine ⟨_,rfl,_,rfl,_,rfl,C,p,beds,worths,rent,way,i,rfl,AC,hA,ok,hi,?_⟩
    refine ⟨_,_,rfl,rfl,⟨hp,by omega⟩,?_⟩
    exact ⟨_,rfl,_,_,rfl,rfl,q⟩
theorem D_Eprice {CH C:Addr} (T:Txt mg) (S:MSrc K C "price" "Even.price" s_Even_price):MDef P w K mg base 2 C "price" ["self","i","level","parts"] (sp_price false CH C):=by
  refine S.mk' sc_Even_price (fun vs H Q E h=>?_) (fun _ _ _ _ _ _ us hl=>match us,hl with | [_,_,_,_],_=>rfl) (fun f cdv A outer s H vs Q E hr h=>?_)
  · obtain ⟨p,beds,worths,rent,way,i,level,parts,rfl,_⟩:=h
    rfl
  · obtain ⟨p,beds,worths,rent,way,i,level,parts,rfl,hA,ok,hi,hx,hp,q⟩:=h
    refine ⟨_,(pss_one (ps_ret (pv 2))),?_⟩
    exact ⟨_,rfl,q⟩
theorem D_bound {CH CWorst CEven:Addr} (T:Txt mg) (HC:HCls K mg CH) (HWorst:AimCls K mg CWorst "Worst") (HEven:AimCls K mg CEven "Even") (S:Src K mg "bound" "bound" s_bound) (MWorst_whole:MDef P w K mg base 3 CWorst "whole" ["self"] (sp_whole_ true CH CWorst)) (MEven_whole:MDef P w K mg base 3 CEven "whole" ["self"] (sp_whole_ false CH CEven)) (Mpeople:MDef P w K mg base 1 CH "people" ["self"] (sp_people CH)) (Dchain_gain:Def P w K mg base 7 "chain_gain" ["aim","chain","i"] (sp_cgain CH CWorst CEven)):Def P w K mg base 8 "bound" ["aim","chains"] (sp_bound CH CWorst CEven):=by
  refine S.mk' sc_bound (fun vs H Q E h=>?_) (fun _ _ _ _ _ _ us hl=>match us,hl with | [_,_],_=>rfl) (fun f cdv A outer s H vs Q E hr h=>?_)
  · obtain ⟨wo,p,cl,beds,worths,rent,way,hops,cs,rfl,_⟩:=h
    rfl
  · obtain ⟨wo,p,cl,beds,worths,rent,way,hops,cs,rfl,hA,ok,good,hc,q⟩:=h
    refine ⟨_,(pss_cons (ps_set (i:=2) sc_bound.nd rfl (Or.inl rfl) (pe_mdef0 Mpeople HC.cl (pe_fldK (K:=K) rfl (pv 0) rfl) (hr.mono (by decide))))
      (pss_cons (ps_setC (i:=3) sc_bound.nd rfl (Or.inl rfl) ["person","aim","chains"] [none,some 0,some 1] rfl rfl rfl (pi_range1 rfl T.range (pa_cons (pv 2) pa_nil)) (fun _ _ _ _=>(pg_name (i:=0) (by decide +kernel:(["person","aim","chains"]:List PySem.Str).Nodup) rfl (Or.inl rfl))) (fun _ _ _ _=>pifs_nil) (fun _ _ _ _=>(pe_def Dchain_gain (hr.mono (by decide)) rfl (pa_cons (pv 1) (pa_cons (pe_ix (ix_seqK (K:=K) rfl) (pv 2) (pv 0) (fun _ _=>rfl)) (pa_cons (pv 0) pa_nil))))))
      (pss_cons (ps_if (pt_cmpR (op_in_seqK (K:=K) rfl) pe_non (pv 3) (by with_unfolding_all rfl)) (pss_one (ps_ret pe_non)) pss_nil)
      (pss_one (ps_ret (pe_tup' (pa_cons (pe_op op_sub (pe_either (pe_mdef0 MWorst_whole HWorst.cl (pv 0) (hr.mono (by decide))) (pe_mdef0 MEven_whole HEven.cl (pv 0) (hr.mono (by decide)))) (pe_callB (call_sumK (K:=K) rfl rfl) (by rfl) T.sum boot_sum' (pa_cons (pv 3) pa_nil))) (pa_cons (pv 2) pa_nil)))))))),?_⟩
    have AC:ACls K (CC CWorst CEven wo):=by
      cases wo
      · exact HEven.a
      · exact HWorst.a
    have lw:=ok.bok.w1
    obtain ⟨ls,e1,e2,e3⟩:=hc.ex
    obtain ⟨dx,hp,wa,g1,g2,g3⟩:=hA.ex
    obtain ⟨dh,bb,ww,h1,h2,h3⟩:=g2.ex
    refine ⟨_,rfl,p,_,dx,_,_,rfl,g1,AC.cl,AC.nH,af_house _ _,hp,dh,_,rfl,h1,hf_no _ _ _ (by decide +kernel) (by decide +kernel) (by decide +kernel),hp,beds,worths,rent,rfl,g2,?_⟩
    refine ⟨_,rfl,_,rfl,by omega,by omega,fun D hD=>?_⟩
    rw [Int.toNat_natCast]
    refine compRangeV (fun i=>.int (wt (gnF wo worths way) (cs.getD i []))) (by rw [sizeLine_eq]; omega) hD (fun i hi H1 N s1 hN=>?_) fun H1 s1 d1=>?_
    · have hl:(ls.map V.ref)[i]? = some (.ref (ls[i]'(by omega))):=by simp [show i < ls.length by omega]
      have hci:cs[i]? = some (cs.getD i []):=by simp [List.getD,show i < cs.length by rw [hc.len]; omega]
      have hh:=e3 i _ _ (show ls[i]? = some (ls[i]'(by omega)) by simp [show i < ls.length by omega]) hci
      obtain ⟨s,hs⟩:=hc.ch i hi
      rw [show (0:Int) + (i:Int)=(i:Int) by omega]
      walk_at "go"
      refine ixL (SqL.of (s1 _ _ e1)) (atI_int i rfl hl) ?_
      walk_at "go"
      exact ⟨wo,p,_,beds,worths,rent,way,hops,_,s,i,rfl,hA.same s1,ok,good,hs,hh.same s1,fun H2 s2=>hN _ s2⟩
    have ed:((List.range worths.length).map fun i=>V.int (wt (gnF wo worths way) (cs.getD i [])))=(cs.map (wt (gnF wo worths way))).map V.int:=by
      refine List.ext_getElem (by simp [hc.len]) fun i a b=>?_
      have:i < cs.length:=by simpa using b
      simp [List.getD,this]
    have d1':H1 D=some (.lst ((cs.map (wt (gnF wo worths way))).map V.int)):=by rw [d1,← ed]
    refine ⟨_,rfl,D,_,rfl,.inl (SqL.of d1'),rfl,by simp [flatV],?_⟩
    rw [if_neg Bool.false_ne_true,show inV V.non ((cs.map (wt (gnF wo worths way))).map V.int)=false by simp [inV,eqV]]
    walk_at "go"
    refine whole_go (hA.same s1) ok (fun _ k=>⟨_,rfl,k⟩) fun H2 s2=>?_
    walk_at "go"
    refine ⟨D,_,rfl,SqL.of (s2 _ _ d1'),?_⟩
    walk_at "go"
    exact fun t H3 n3=>q t H3 ((s1.trans s2).trans n3.same) ((s1.trans s2).free n3.none) n3.at_
theorem D_cd (S:Src K mg "common_divisor" "common_divisor" s_common_divisor):Def P w K mg base 1 "common_divisor" ["one","other"] sp_cd:=by
  refine S.mk' sc_common_divisor (fun vs H Q E h=>?_) (fun _ _ _ _ _ _ us hl=>match us,hl with | [_,_],_=>rfl) (fun f cdv A outer s H vs Q E hr h=>?_)
  · obtain ⟨a,b,rfl,_⟩:=h
    rfl
  · obtain ⟨a,b,rfl,ha,hb,q⟩:=h
    refine ⟨_,(pss_cons (ps_while PassesOwn.never (pt_cmpR op_ne (pv 1) pe_int (nomark _)) (pss_cons (ps_set (i:=2) sc_common_divisor.nd rfl (Or.inl rfl) (pe_op op_mod (pv 0) (pv 1)))
      (pss_cons (ps_set (i:=0) sc_common_divisor.nd rfl (Or.inl rfl) (pv 1))
      (pss_one (ps_set (i:=1) sc_common_divisor.nd rfl (Or.inl rfl) (pv 2))))))
      (pss_one (ps_ret (pv 0)))),?_⟩
    refine ⟨fun m σ H' => ∃ (x y:Int) (o:Option V),σ=[some (.int x),some (.int y),o]∧m=y.natAbs∧0≤x∧0≤y∧Nat.gcd x.natAbs y.natAbs=Nat.gcd a.natAbs b.natAbs∧H'=H,⟨_,a,b,_,rfl,rfl,by omega,hb,rfl,rfl⟩,?_⟩
    rintro m σ H' ⟨x,y,o,rfl,rfl,hx,hy,hg,rfl⟩
    walk_at "go"
    refine ite2 (fun e=>?_) (fun e=>?_)
    · have hy0:0 < y:=by
        simp at e
        omega
      refine ⟨_,fun σ' H' h=>h,?_⟩
      walk_at "go"
      refine ⟨_,?_,_,_,_,rfl,rfl,hy,Int.emod_nonneg _ (by omega),?_,rfl⟩
      rotate_left
      · rw [← hg,Nat.gcd_comm x.natAbs,Nat.gcd_rec y.natAbs x.natAbs,Int.natAbs_emod_of_nonneg hx,Nat.gcd_comm]
      · show (x % y).natAbs < y.natAbs
        have h1:=Int.emod_nonneg x (show y≠0 by omega)
        have h2:=Int.emod_lt_of_pos x hy0
        omega
    · have hy0:y=0:=by simpa using e
      subst hy0
      walk_at "go"
      have:x=((Nat.gcd a.natAbs b.natAbs:Nat):Int):=by
        rw [← hg]
        simp
        omega
      rw [this]
      exact q
theorem D_lowestF (T:Txt mg) (S:Src K mg "lowest" "lowest" s_lowest) (Dcommon_divisor:Def P w K mg base 1 "common_divisor" ["one","other"] sp_cd):Def P w K mg base 2 "lowest" ["parts","rows"] (sp_lowestF K):=by
  refine S.mk' sc_lowest (fun vs H Q E h=>?_) (fun _ _ _ _ _ _ us hl=>match us,hl with | [_,_],_=>rfl) (fun f cdv A outer s H vs Q E hr h=>?_)
  · obtain ⟨parts,r,rows,rfl,_⟩:=h
    rfl
  · obtain ⟨parts,r,rows,rfl,hS,hz,hp,hp2,q⟩:=h
    refine ⟨_,(pss_cons (ps_set (i:=2) sc_lowest.nd rfl (Or.inr rfl) (pv 0))
      (pss_cons (ps_for PassesOwn.never rfl (pi_listK (K:=K) rfl (pv 1)) (pg_name (i:=3) sc_lowest.nd rfl (Or.inl rfl))
      (pss_one (ps_set (i:=2) sc_lowest.nd rfl (Or.inr rfl) (pe_def Dcommon_divisor (hr.mono (by decide)) rfl (pa_cons (pv 2) (pa_cons (pe_callB call_abs (by rfl) T.abs boot_abs' (pa_cons (pv 3) pa_nil)) pa_nil))))))
      (pss_one (ps_ret (pe_tup' (pa_cons (pe_op op_fdivW (pv 0) (pv 2)) (pa_cons (pe_comp ["row","divisor"] [none,some 2] rfl rfl rfl (pi_listK (K:=K) rfl (pv 1)) (fun _ _ _ _=>(pg_name (i:=0) (by decide +kernel:(["row","divisor"]:List PySem.Str).Nodup) rfl (Or.inl rfl))) (fun _ _ _ _=>pifs_nil) (fun _ _ _ _=>(pe_op op_fdivW (pv 0) (pv 1)))) pa_nil))))))),?_⟩
    have hlen:(rows.map V.int).length=rows.length:=by simp
    refine ⟨_,rfl,?_⟩
    refine ⟨_,rfl,r,rfl,⟨_,hS⟩,?_⟩
    refine for_list (xs:=rows.map V.int) (fun i σ H' => ∃ (d:Int) (o:Option V),σ=[some (.int parts),some (.ref r),some (.int d),o]∧d=((gcdL parts.natAbs (rows.take i):Nat):Int)∧H'=H)
      ⟨parts,none,rfl,(by show parts=((parts.natAbs:Nat):Int); omega),rfl⟩ (fun i σ H' _ ⟨_,_,_,_,e⟩=>by rw [e]; exact hS) ?_ ?_
    · rintro i x σ H' hx ⟨d,o,rfl,hd,rfl⟩
      obtain ⟨z,hz1,rfl⟩:=int_at hx
      walk_at "go"
      have g0:=gcdL_pos (rows.take i) parts.natAbs (by omega)
      refine ⟨_,_,rfl,by omega,by rw [abs_nat]; omega,_,_,rfl,?_,rfl⟩
      rw [abs_nat,take_snoc hz1,gcdL_snoc,hd]
      rfl
    · rintro σ H' ⟨d,o,rfl,hd,rfl⟩
      rw [hlen,List.take_length] at hd
      have g0:=gcdL_pos rows parts.natAbs (by omega)
      have g1:gcdL parts.natAbs rows≤parts.natAbs:=Nat.le_of_dvd (by omega) (gcdL_dvd_start rows parts.natAbs)
      generalize hg:gcdL parts.natAbs rows=g at *
      walk_at "go"
      refine ⟨⟨_,hS⟩,fun D hD=>?_⟩
      refine comp_list (fun i y _ => ∃ z,rows[i]? = some z∧y=.int (z / (g:Int))) hS (by rw [hlen,sizeLine_eq]; omega) hD (fun _ _ _ _ _ h=>h) ?_ ?_
      · rintro i x H1 ys N hx s1 d1 hN
        obtain ⟨z,hz1,rfl⟩:=int_at hx
        walk_at "go"
        exact hN _ _ (Same.refl _) ⟨z,hz1,by rw [hd]⟩
      · rintro ys H1 s1 d1 l1 r1
        have e:ys=(rows.map fun x=>x / (g:Int)).map V.int:=ints_of (by simpa using l1) fun i y e=>by
          obtain ⟨z,h1,h2⟩:=r1 i y e
          exact ⟨_,by rw [List.getElem?_map,h1]; rfl,h2⟩
        walk_at "go"
        refine fun t H2 n2=>q t D H2 hD (s1.trans n2.same) ?_ (n2.same _ _ (e ▸ d1))
        rw [n2.at_,hd]
theorem D_roomprice {CH CWorst CEven:Addr} (T:Txt mg) (HWorst:AimCls K mg CWorst "Worst") (HEven:AimCls K mg CEven "Even") (S:Src K mg "room_price" "room_price" s_room_price):Def P w K mg base 1 "room_price" ["aim","costs","room"] (sp_roomprice K CH CWorst CEven):=by
  refine S.mk' sc_room_price (fun vs H Q E h=>?_) (fun _ _ _ _ _ _ us hl=>match us,hl with | [_,_,_],_=>rfl) (fun f cdv A outer s H vs Q E hr h=>?_)
  · obtain ⟨wo,p,cl,beds,worths,rent,way,cs,r,rfl,_⟩:=h
    rfl
  · obtain ⟨wo,p,cl,beds,worths,rent,way,cs,r,rfl,hA,ok,hcl,lc,l0,q⟩:=h
    refine ⟨_,(pss_cons (ps_if (pt_cmpR (op_in_seqK (K:=K) rfl) (pv 2) (pe_fldK (K:=K) rfl (pv 0) rfl) (by with_unfolding_all rfl)) (pss_one (ps_ret (pe_ix (ix_seqK (K:=K) rfl) (pv 1) (pe_bmK (K:=K) rfl PySem.F.plainAttrs_list PySem.F.slot_list_index PySem.F.type_list_index (mt_indexL (K:=K)) (pe_fldK (K:=K) rfl (pv 0) rfl) (pa_cons (pv 2) pa_nil)) (fun _ _=>rfl)))) pss_nil)
      (pss_one (ps_ret (pe_callB (call_minL (K:=K) rfl rfl) (by rfl) T.min boot_min' (pa_cons (pv 1) pa_nil))))),?_⟩
    have AC:ACls K (CC CWorst CEven wo):=by
      cases wo
      · exact HEven.a
      · exact HWorst.a
    obtain ⟨dx,hp,wa,g1,g2,g3⟩:=hA.ex
    refine ⟨_,rfl,_,rfl,p,_,dx,_,_,rfl,g1,AC.cl,AC.nW,af_way _ _,wa,_,rfl,.inl (SqL.of g3),rfl,by simp [flatV],?_⟩
    rw [if_neg Bool.false_ne_true,inV_ints]
    refine ⟨_,rfl,?_⟩
    refine ite2 (fun e=>?_) (fun e=>?_)
    · have hr:r∈way:=mem_wI.mp (of_decide_eq_true e)
      have hi:way.idxOf r < cs.length:=by rw [lc,← ok.len]; exact List.idxOf_lt_length_iff.mpr hr
      have ei:=idxOf_wI r way
      have hg:(cs.map V.int)[way.idxOf r]? = some (.int (cs.getD (way.idxOf r) 0)):=by simp [List.getD,hi]
      refine ⟨_,rfl,_,rfl,p,_,dx,_,_,rfl,g1,AC.cl,AC.nW,af_way _ _,.inl ⟨rfl,_,SqL.of g3⟩,_,rfl,wa,wI way,_,rfl,rfl,g3,of_decide_eq_true e,?_⟩
      rw [ei]
      refine ixL (SqL.of hcl) (atI_int _ rfl hg) ?_
      exact q _ (by unfold IsRoom; rw [if_pos hr])
    · have hr:r ∉ way:=fun z=>e (decide_eq_true (mem_wI.mpr z))
      walk_at "go"
      refine ⟨cl,cs,rfl,SqL.of hcl,by omega,fun z hz hmin=>?_⟩
      exact q _ (by unfold IsRoom; rw [if_neg hr]; exact ⟨hz,hmin⟩)
theorem D_pricesat {CH CWorst CEven:Addr} (T:Txt mg) (HC:HCls K mg CH) (HWorst:AimCls K mg CWorst "Worst") (HEven:AimCls K mg CEven "Even") (S:Src K mg "prices_at" "prices_at" s_prices_at) (MWorst_price:MDef P w K mg base 2 CWorst "price" ["self","i","level","parts"] (sp_price true CH CWorst)) (MEven_price:MDef P w K mg base 2 CEven "price" ["self","i","level","parts"] (sp_price false CH CEven)) (Mrooms:MDef P w K mg base 1 CH "rooms" ["self"] (sp_rooms CH)) (Droom_price:Def P w K mg base 1 "room_price" ["aim","costs","room"] (sp_roomprice K CH CWorst CEven)) (Dlowest:Def P w K mg base 2 "lowest" ["parts","rows"] (sp_lowestF K)):Def P w K mg base 3 "prices_at" ["aim","levels","parts"] (sp_pricesat K CH CWorst CEven):=by
  refine S.mk' sc_prices_at (fun vs H Q E h=>?_) (fun _ _ _ _ _ _ us hl=>match us,hl with | [_,_,_],_=>rfl) (fun f cdv A outer s H vs Q E hr h=>?_)
  · obtain ⟨wo,p,ll,beds,worths,rent,way,lv,parts,rfl,_⟩:=h
    rfl
  · obtain ⟨wo,p,ll,beds,worths,rent,way,lv,parts,rfl,hA,ok,hll,lvl,l0,p0,p1,hx,q⟩:=h
    refine ⟨_,(pss_cons (ps_set (i:=3) sc_prices_at.nd rfl (Or.inr rfl) (pe_comp ["person","aim","levels","parts"] [none,some 0,some 1,some 2] rfl rfl rfl (pi_range1 rfl T.range (pa_cons (pe_callB (call_lenK (K:=K) rfl) (by rfl) T.len boot_len' (pa_cons (pv 1) pa_nil)) pa_nil)) (fun _ _ _ _=>(pg_name (i:=0) (by decide +kernel:(["person","aim","levels","parts"]:List PySem.Str).Nodup) rfl (Or.inl rfl))) (fun _ _ _ _=>pifs_nil) (fun _ _ _ _=>(pe_either (pe_mdef MWorst_price HWorst.cl (pv 1) (hr.mono (by decide)) (pa_cons (pv 0) (pa_cons (pe_ix (ix_seqK (K:=K) rfl) (pv 2) (pv 0) (fun _ _=>rfl)) (pa_cons (pv 3) pa_nil)))) (pe_mdef MEven_price HEven.cl (pv 1) (hr.mono (by decide)) (pa_cons (pv 0) (pa_cons (pe_ix (ix_seqK (K:=K) rfl) (pv 2) (pv 0) (fun _ _=>rfl)) (pa_cons (pv 3) pa_nil))))))))
      (pss_one (ps_ret (pe_def Dlowest (hr.mono (by decide)) rfl (pa_cons (pv 2) (pa_cons (pe_comp ["room","aim","costs"] [none,some 0,some 3] rfl rfl rfl (pi_range1 rfl T.range (pa_cons (pe_mdef0 Mrooms HC.cl (pe_fldK (K:=K) rfl (pv 0) rfl) (hr.mono (by decide))) pa_nil)) (fun _ _ _ _=>(pg_name (i:=0) (by decide +kernel:(["room","aim","costs"]:List PySem.Str).Nodup) rfl (Or.inl rfl))) (fun _ _ _ _=>pifs_nil) (fun _ _ _ _=>(pe_def Droom_price (hr.mono (by decide)) rfl (pa_cons (pv 1) (pa_cons (pv 2) (pa_cons (pv 0) pa_nil)))))) pa_nil)))))),?_⟩
    have AC:ACls K (CC CWorst CEven wo):=by
      cases wo
      · exact HEven.a
      · exact HWorst.a
    have lw:=ok.bok.w1
    have lb:=ok.bok.b1
    refine ⟨_,rfl,ll,_,rfl,.inl (SqL.of hll),?_⟩
    rw [List.length_map,lvl]
    refine ⟨_,rfl,by omega,by omega,fun D hD=>?_⟩
    rw [Int.toNat_natCast]
    refine compRangeV (fun i=>.int (costF wo worths way lv parts i)) (by rw [sizeLine_eq]; omega) hD (fun i hi H1 N s1 hN=>?_) fun H1 s1 d1=>?_
    · have hg:(lv.map V.int)[i]? = some (.int (lv.getD i 0)):=by simp [List.getD,show i < lv.length by omega]
      rw [show (0:Int) + (i:Int)=(i:Int) by omega]
      refine price_go (i:=i) (level:=lv.getD i 0) (parts:=parts) (hA.same s1) ok hi hx ⟨by omega,by omega⟩ (fun _ k=>⟨_,rfl,k⟩) (fun K2 k=>?_) (hN _ (Same.refl _))
      walk_at "go"
      refine ixL (SqL.of (s1 _ _ hll)) (atI_int i rfl hg) ?_
      walk_at "go"
      exact k
    have d1':H1 D=some (.lst ((costL wo worths way lv parts).map V.int)):=by
      rw [d1]
      unfold costL
      rw [List.map_map]
      rfl
    have hA1:=hA.same s1
    obtain ⟨dx,hp,wa,g1,g2,g3⟩:=hA1.ex
    obtain ⟨dh,bb,ww,h1,h2,h3⟩:=g2.ex
    walk_at "go"
    refine ⟨p,_,dx,_,_,rfl,g1,AC.cl,AC.nH,af_house _ _,hp,dh,_,rfl,h1,hf_no _ _ _ (by decide +kernel) (by decide +kernel) (by decide +kernel),hp,beds,worths,rent,rfl,g2,?_⟩
    refine ⟨_,rfl,by omega,by omega,fun D2 hD2=>?_⟩
    rw [Int.toNat_natCast]
    refine comp_range (fun i y _ => ∃ z:Int,y=.int z∧IsRoom way (costL wo worths way lv parts) i z) (by rw [sizeLine_eq]; omega) hD2 (fun _ _ _ _ _ h=>h) ?_ ?_
    · rintro i H2 ys NN hi s2 d2 hNN
      rw [show (0:Int) + (i:Int)=(i:Int) by omega]
      walk_at "go"
      exact ⟨wo,p,D,beds,worths,rent,way,_,i,rfl,hA1.same s2,ok,s2 _ _ d1',by simp [costL],l0,fun z hz=>hNN _ _ (Same.refl _) ⟨z,rfl,hz⟩⟩
    · rintro ys H2 s2 d2 ly hy
      obtain ⟨rows,e,hr⟩:=vals_of (P:=fun _ _=>True) V.int (fun i z=>IsRoom way (costL wo worths way lv parts) i z) ys 0 (fun i y h=>by
        obtain ⟨z,e,h⟩:=hy i y h
        exact ⟨z,e,by rw [Nat.zero_add]; exact h⟩)
      subst e
      have hl:rows.length=beds.length:=by rw [List.length_map] at ly; omega
      refine ⟨parts,D2,rows,rfl,SqL.of d2,by omega,p0,by omega,fun t l H3 f3 s3 h3 h4=>?_⟩
      exact q rows t l H3 ⟨hl,fun r z e=>by have:=hr r z e; rwa [Nat.zero_add] at this⟩ ((s1.trans s2).free f3) ((s1.trans s2).trans s3) h3 h4
theorem D_divide {CH CWorst CEven PT:Addr} (T:Txt mg) (S:Src K mg "divide" "divide" s_divide) (Dgreatest:Def P w K mg base 9 "greatest" ["aim"] (sp_greatF CH CWorst CEven PT lamPos2 "best_room.<locals>.<lambda>")) (Dbound:Def P w K mg base 8 "bound" ["aim","chains"] (sp_bound CH CWorst CEven)) (Dprices_at:Def P w K mg base 3 "prices_at" ["aim","levels","parts"] (sp_pricesat K CH CWorst CEven)):Def P w K mg base 10 "divide" ["aim"] (sp_divide CH CWorst CEven PT lamPos2 "best_room.<locals>.<lambda>"):=by
  refine S.mk' sc_divide (fun vs H Q E h=>?_) (fun _ _ _ _ _ _ us hl=>match us,hl with | [_],_=>rfl) (fun f cdv A outer s H vs Q E hr h=>?_)
  · obtain ⟨wo,p,beds,worths,rent,way,rfl,_⟩:=h
    rfl
  · obtain ⟨wo,p,beds,worths,rent,way,rfl,hA,ok,fit,opt,hL,l0,hx,q⟩:=h
    refine ⟨_,(pss_cons (ps_set (i:=1) sc_divide.nd rfl (Or.inl rfl) (pe_def Dgreatest (hr.mono (by decide)) rfl (pa_cons (pv 0) pa_nil)))
      (pss_cons (ps_set (i:=2) sc_divide.nd rfl (Or.inr rfl) (pe_def Dbound (hr.mono (by decide)) rfl (pa_cons (pv 0) (pa_cons (pe_ix (ix_seqK (K:=K) rfl) (pv 1) pe_int (fun _ _=>rfl)) pa_nil))))
      (pss_cons (ps_setC (i:=3) sc_divide.nd rfl (Or.inl rfl) ["gain","least"] [none,some 2] rfl rfl rfl (pi_listK (K:=K) rfl (pe_ix (ix_seqK (K:=K) rfl) (pv 1) pe_int (fun _ _=>rfl))) (fun _ _ _ _=>(pg_name (i:=0) (by decide +kernel:(["gain","least"]:List PySem.Str).Nodup) rfl (Or.inl rfl))) (fun _ _ _ _=>pifs_nil) (fun _ _ _ _=>(pe_op op_add (pe_ix (ix_seqK (K:=K) rfl) (pv 1) pe_int (fun _ _=>rfl)) (pe_op op_mulW (pe_ix (ix_seqK (K:=K) rfl) (pv 1) pe_int (fun _ _=>rfl)) (pv 0)))))
      (pss_one (ps_ret (pe_tup' (pa_cons (pe_def Dprices_at (hr.mono (by decide)) rfl (pa_cons (pv 0) (pa_cons (pv 3) (pa_cons (pe_ix (ix_seqK (K:=K) rfl) (pv 2) pe_int (fun _ _=>rfl)) pa_nil)))) (pa_cons (pe_ix (ix_seqK (K:=K) rfl) (pv 1) pe_int (fun _ _=>rfl)) pa_nil)))))))),?_⟩
    have lw:=ok.bok.w1
    refine ⟨_,rfl,wo,p,beds,worths,rent,way,rfl,hA,ok,fit,opt,hL,fun t tl cl hops st H1 s1 so1 hL1 f1 f2 f3 ff cb g=>?_⟩
    have hA1:=hA.sameB s1
    have htl:=g.tc.g
    have l1:=g.ok.l1
    walk_at "go"
    refine ixT (SqT.of g.tup) rfl ?_
    refine ⟨wo,p,cl,beds,worths,rent,way,hops,st.2,rfl,hA1,ok,g.good,g.chs,fun tb H2 s2 f2b hb=>?_⟩
    rw [okC_sum g.ok] at hb
    have htup2:=s2 _ _ g.tup
    have htl2:=s2 _ _ htl
    walk_at "go"
    refine ixT (SqT.of htup2) rfl ?_
    refine ⟨tl,rfl,⟨_,SqL.of htl2⟩,fun D hD=>?_⟩
    refine compMapV st.1 (fun g=>.int ((wholeF wo worths way rent - st.1.sum) + (worths.length:Int) * g)) (SqL.of htl2) (by rw [sizeLine_eq]; omega) hD (fun z hz H3 N s3 hN=>?_) fun H3 s3 d3=>?_
    · walk_at "go"
      refine ixT (SqT.of (s3 _ _ hb)) rfl ?_
      walk_at "go"
      refine ixT (SqT.of (s3 _ _ hb)) rfl ?_
      walk_at "go"
      have hzb:=great_bd hx g.ok cb z hz
      refine ⟨⟨⟨by omega,by omega⟩,by omega,by omega⟩,?_⟩
      walk_at "go"
      exact hN _ (Same.refl _)
    have S3:=s2.trans s3
    have d3':H3 D=some (.lst ((lvL wo worths way rent st.1).map V.int)):=by
      rw [d3]
      unfold lvL
      rw [List.map_map]
      rfl
    walk_at "go"
    refine ixT (SqT.of (s3 _ _ hb)) rfl ?_
    refine ⟨wo,p,D,beds,worths,rent,way,_,_,rfl,hA1.same S3,ok,d3',by simp [lvL,l1],l0,by omega,by omega,hx,fun rows tp rl H4 isr frl s4 h4 h5=>?_⟩
    rw [show ((worths.length:Int)).natAbs=worths.length by omega] at h4 h5
    walk_at "go"
    have S4:=S3.trans s4
    refine ixT (SqT.of (S4 _ _ g.tup)) rfl ?_
    walk_at "go"
    refine fun t2 H5 n5=>?_
    have S5:=S4.trans n5.same
    obtain ⟨ls,c1,c2,c3,c4⟩:=id g.tc.ex
    refine q t2 tp rl cl hops st rows H5 (s1.trans S5.b) (so1.trans S5.o) (hL1.same S5) f2 (s1.th _ (S3.free frl)) (ne_of_none (S3 _ _ c1) frl).symm ?_ ⟨n5.at_,n5.same _ _ h4,n5.same _ _ h5,isr,g.chs.same S5,g.good,g.ok,g.nn,g.cl_,cb⟩
    refine ⟨ls,S5 _ _ c1,fun a ha=>⟨ff.at_ c1 a ha,?_⟩⟩
    obtain ⟨i,hi,rfl⟩:=List.mem_iff_getElem.mp ha
    have hi2:i < st.2.length:=by omega
    obtain ⟨ts,e1,_,_⟩:=c4 i _ _ (List.getElem?_eq_getElem hi) (List.getElem?_eq_getElem hi2)
    exact ne_of_none (S3 _ _ e1) frl
theorem D_copy (T:Txt mg) (S:Src K mg "_law_copy" "_law_copy" s__law_copy):Def P w K mg base 1 "_law_copy" ["_law_rows"] (sp_copy K):=by
  refine S.mk' sc__law_copy (fun vs H Q E h=>?_) (fun _ _ _ _ _ _ us hl=>match us,hl with | [_],_=>rfl) (fun f cdv A outer s H vs Q E hr h=>?_)
  · obtain ⟨a,rows,rfl,_⟩:=h
    rfl
  · obtain ⟨a,rows,rfl,hM,hl,q⟩:=h
    refine ⟨_,(pss_one (ps_ret (pe_comp ["_law_row"] [none] rfl rfl rfl (pi_listK (K:=K) rfl (pv 0)) (fun _ _ _ _=>(pg_name (i:=0) (by decide +kernel:(["_law_row"]:List PySem.Str).Nodup) rfl (Or.inl rfl))) (fun _ _ _ _=>pifs_nil) (fun _ _ _ _=>(pe_callTy (call_list_ofK (K:=K) rfl) (by rfl) T.list boot_list' (pa_cons (pv 0) pa_nil)))))),?_⟩
    obtain ⟨ws0,hw0,hR0⟩:=id hM
    walk_at "go"
    refine ⟨⟨_,SqL.of hw0⟩,fun D hD=>?_⟩
    refine comp_list (fun i y H => ∃ l row,y=.ref l∧l≠D∧rows[i]? = some row∧H l=some (.lst (row.map V.int))) (SqL.of hw0) (by rw [List.length_map,hR0.1,sizeLine_eq]; omega) hD (fun i y H H' k ⟨l,row,e,ne,h1,h2⟩=>⟨l,row,e,ne,h1,k l _ ne h2⟩) ?_ ?_
    · rintro i x H3 ys N hx s3 d3 hN
      obtain ⟨ra,ha,rfl⟩:=ref_at hx
      have hi:i < rows.length:=by rw [← hR0.1]; exact (List.getElem?_eq_some_iff.mp ha).1
      have hrow:rows[i]? = some rows[i]:=by simp [hi]
      have h3:=s3 _ _ (hR0.2 i ra _ ha hrow)
      walk_at "go"
      exact ⟨ra,_,rfl,.inl (SqL.of h3),fun l H4 n4=>hN _ _ n4.same ⟨l,_,rfl,(ne_of_none d3 n4.none).symm,hrow,n4.at_⟩⟩
    rintro ys H3 s3 d3 l3 r3
    obtain ⟨ws',e',p'⟩:=refs_ex (P:=fun i l => ∃ row,rows[i]? = some row∧H3 l=some (.lst (row.map V.int))) (fun i y e=>by
      obtain ⟨l,row,h1,_,h2,h3⟩:=r3 i y e
      exact ⟨l,h1,row,h2,h3⟩)
    subst e'
    refine q D H3 s3 hD ⟨ws',d3,?_,fun i a' row h1 h2=>?_⟩
    · rw [List.length_map,List.length_map] at l3
      rw [l3]
      exact hR0.1
    · obtain ⟨row',h3,h4⟩:=p' i a' h1
      rw [h3] at h2
      cases h2
      exact h4
theorem D_spare (T:Txt mg) (S:Src K mg "_law_spare" "_law_spare" s__law_spare):Def P w K mg base 1 "_law_spare" ["_law_beds_here","_law_way"] (sp_spare K):=by
  refine S.mk' sc__law_spare (fun vs H Q E h=>?_) (fun _ _ _ _ _ _ us hl=>match us,hl with | [_,_],_=>rfl) (fun f cdv A outer s H vs Q E hr h=>?_)
  · obtain ⟨b,a,beds,way,rfl,_⟩:=h
    rfl
  · obtain ⟨b,a,beds,way,rfl,hb,lb,ha,q⟩:=h
    refine ⟨_,(pss_one (ps_ret (pe_comp ["_law_r","_law_beds_here","_law_way"] [none,some 0,some 1] rfl rfl rfl (pi_range1 rfl T.range (pa_cons (pe_callB (call_lenK (K:=K) rfl) (by rfl) T.len boot_len' (pa_cons (pv 0) pa_nil)) pa_nil)) (fun _ _ _ _=>(pg_name (i:=0) (by decide +kernel:(["_law_r","_law_beds_here","_law_way"]:List PySem.Str).Nodup) rfl (Or.inl rfl))) (fun _ _ _ _=>(pifs_one (pt_cmpR op_lt (pe_bmK (K:=K) rfl PySem.F.plainAttrs_list PySem.F.slot_list_count PySem.F.type_list_count (mt_countK (K:=K) rfl) (pv 2) (pa_cons (pv 0) pa_nil)) (pe_ix (ix_seqK (K:=K) rfl) (pv 1) (pv 0) (fun _ _=>rfl)) (nomark _)))) (fun _ _ _ _=>(pv 0))))),?_⟩
    refine ⟨_,rfl,b,_,rfl,.inl (SqL.of hb),?_⟩
    rw [List.length_map]
    refine ⟨_,rfl,by omega,by omega,fun D hD=>?_⟩
    rw [Int.toNat_natCast]
    refine compIf_range (fun (r:Nat)=>decide ((((wI way).count (r:Int):Nat):Int) < beds.getD r 0)) (fun (r:Nat)=>.int r) (by rw [sizeLine_eq]; omega) hD ?_ ?_ ?_
    · rintro r H3 N hr s3 hN
      have g2:(beds.map V.int)[r]? = some (.int (beds.getD r 0)):=by simp [hr,List.getD]
      refine ⟨_,rfl,.inl ⟨rfl,_,SqL.of (s3 _ _ ha)⟩,_,rfl,a,wI way,_,rfl,rfl,SqL.of (s3 _ _ ha),?_⟩
      rw [show (0:Int) + (r:Int)=(r:Int) by omega]
      walk_at "go"
      refine ixL (SqL.of (s3 _ _ hb)) (atI_int r (by omega) g2) ?_
      exact ⟨_,_,rfl,rfl,_,rfl,hN _ (Same.refl _)⟩
    · rintro r H3 N hr hp s3 hN
      walk_at "go"
      have:=hN _ (Same.refl _)
      rw [Int.zero_add]
      exact this
    · rintro H3 s3 d3
      refine q D H3 ⟨s3,hD,?_⟩
      rw [d3]
      unfold openL
      rw [List.map_map]
      rfl
theorem D_lthrough (T:Txt mg) (S:Src K mg "_law_through" "_law_through" s__law_through):Def P w K mg base 1 "_law_through" ["_law_word","_law_spare_here","_law_way","_law_a","_law_b"] sp_lthrough:=by
  refine S.mk' sc__law_through (fun vs H Q E h=>?_) (fun _ _ _ _ _ _ us hl=>match us,hl with | [_,_,_,_,_],_=>rfl) (fun f cdv A outer s H vs Q E hr h=>?_)
  · obtain ⟨wo,sp,wy,beds,way,a,b,rfl,_⟩:=h
    rfl
  · obtain ⟨wo,sp,wy,beds,way,a,b,rfl,hsp,hwy,lb,ha,hb,q⟩:=h
    refine ⟨_,(pss_cons (ps_set (i:=5) sc__law_through.nd rfl (Or.inl rfl) (pe_join (pe_ifExp (pt_cmpR op_eq (pv 0) pe_str (nomark _)) (pe_ix (ix_seqK (K:=K) rfl) (pv 2) (pv 3) (fun _ _=>rfl)) (pe_ix (ix_seqK (K:=K) rfl) (pv 2) (pv 4) (fun _ _=>rfl)))))
      (pss_one (ps_ret (pe_sortedSet (K:=K) rfl rfl (by rfl) T.sorted (by rfl) T.set (pe_op op_cat' (pv 1) (pe_lst' (pa_cons (pv 5) pa_nil))))))),?_⟩
    have wa:way[a]? = some (way.getD a 0):=by simp [List.getD,ha]
    have wb:way[b]? = some (way.getD b 0):=by simp [List.getD,hb]
    refine ⟨fun v H'=>H'=H∧v=.int ((way.getD (if wo then a else b) 0:Nat):Int),?_,?_⟩
    · walk_at "go"
      rw [dec_word]
      cases wo with
      | true =>
        refine iteT ?_
        walk_at "go"
        refine ixL (SqL.of hwy) (atI_int a rfl (wI_at wa)) ?_
        exact ⟨rfl,rfl⟩
      | false =>
        refine iteF ?_
        walk_at "go"
        refine ixL (SqL.of hwy) (atI_int b rfl (wI_at wb)) ?_
        exact ⟨rfl,rfl⟩
    rintro v H' ⟨rfl,rfl⟩
    refine ⟨_,rfl,_,rfl,len_small (by simp),fun l2 H2 n2=>?_⟩
    have hol:(openL beds (wI way)).length≤beds.length:=by
      unfold openL
      rw [List.length_map]
      exact Nat.le_trans (List.length_filter_le _ _) (by simp)
    refine ⟨sp,l2,_,_,rfl,rfl,n2.same _ _ hsp,n2.at_,by rw [sizeLine_eq,List.length_map]; simp; omega,fun l3 H3 n3=>?_⟩
    have h3:H3 l3=some (.lst ((thruL wo beds way a b).map V.int)):=by
      rw [n3.at_]
      simp [thruL]
    refine ⟨l3,_,rfl,SqL.of h3,by simp [thruL]; omega,fun l4 ms H4 n4 hr hm=>?_⟩
    exact q l4 ms H4 ((n2.same.trans n3.same).trans n4.same) ((n2.same.trans n3.same).free n4.none) n4.at_ ⟨hr,hm⟩
theorem D_lgain (T:Txt mg) (S:Src K mg "_law_gain" "_law_gain" s__law_gain):Def P w K mg base 1 "_law_gain" ["_law_word","_law_worths_here","_law_way","_law_a","_law_r","_law_b"] sp_lgain:=by
  refine S.mk' sc__law_gain (fun vs H Q E h=>?_) (fun _ _ _ _ _ _ us hl=>match us,hl with | [_,_,_,_,_,_],_=>rfl) (fun f cdv A outer s H vs Q E hr h=>?_)
  · obtain ⟨wo,w,wy,beds,worths,way,a,r,b,rfl,_⟩:=h
    rfl
  · obtain ⟨wo,w,wy,beds,worths,way,a,r,b,rfl,hM,hwy,ok,ha,hr0,hb,q⟩:=h
    refine ⟨_,(pss_cons (ps_if (pt_cmpR op_eq (pv 0) pe_str (nomark _)) (pss_one (ps_ret (pe_op op_sub (pe_ix (ix_seqK (K:=K) rfl) (pe_ix (ix_seqK (K:=K) rfl) (pv 1) (pv 5) (fun _ _=>rfl)) (pv 4) (fun _ _=>rfl)) (pe_ix (ix_seqK (K:=K) rfl) (pe_ix (ix_seqK (K:=K) rfl) (pv 1) (pv 3) (fun _ _=>rfl)) (pe_ix (ix_seqK (K:=K) rfl) (pv 2) (pv 3) (fun _ _=>rfl)) (fun _ _=>rfl))))) pss_nil)
      (pss_one (ps_ret (pe_op op_sub (pe_ix (ix_seqK (K:=K) rfl) (pe_ix (ix_seqK (K:=K) rfl) (pv 1) (pv 3) (fun _ _=>rfl)) (pv 4) (fun _ _=>rfl)) (pe_ix (ix_seqK (K:=K) rfl) (pe_ix (ix_seqK (K:=K) rfl) (pv 1) (pv 3) (fun _ _=>rfl)) (pe_ix (ix_seqK (K:=K) rfl) (pv 2) (pv 3) (fun _ _=>rfl)) (fun _ _=>rfl)))))),?_⟩
    obtain ⟨ws,hw,hR⟩:=id hM
    obtain ⟨w1,w2⟩:=ok.at_ ha
    have row:∀ i,i < worths.length→∃ ra,(ws.map V.ref)[i]? = some (.ref ra)∧∃ xs:List Int,H ra=some (.lst (xs.map V.int))∧∀ k,k < beds.length→(xs.map V.int)[k]? = some (.int (wF worths i k)):=fun i hi=>by
      have hrow:worths[i]? = some worths[i]:=by simp [hi]
      have hrl:=ok.bok.rows _ (List.getElem_mem hi)
      obtain ⟨ra,e1,e2,e3⟩:=hR.at_ hrow
      exact ⟨ra,e2,_,e3,fun k hk=>by simp [wF,List.getD,hi,show k < worths[i].length by omega]⟩
    obtain ⟨ra,ea,xa,ha1,ha2⟩:=row a ha
    obtain ⟨rb,eb,xb,hb1,hb2⟩:=row b hb
    walk_at "go"
    rw [dec_word]
    cases wo with
    | true =>
      refine iteT ?_
      walk_at "go"
      refine ixL (SqL.of hw) (atI_int b rfl eb) ?_
      walk_at "go"
      refine ixL (SqL.of hb1) (atI_int r rfl (hb2 r hr0)) ?_
      walk_at "go"
      refine ixL (SqL.of hw) (atI_int a rfl ea) ?_
      walk_at "go"
      refine ixL (SqL.of hwy) (atI_int a rfl (wI_at w1)) ?_
      refine ixL (SqL.of ha1) (atI_int (way.getD a 0) rfl (ha2 _ w2)) ?_
      exact ⟨_,_,rfl,rfl,q⟩
    | false =>
      refine iteF ?_
      walk_at "go"
      refine ixL (SqL.of hw) (atI_int a rfl ea) ?_
      walk_at "go"
      refine ixL (SqL.of ha1) (atI_int r rfl (ha2 r hr0)) ?_
      walk_at "go"
      refine ixL (SqL.of hw) (atI_int a rfl ea) ?_
      walk_at "go"
      refine ixL (SqL.of hwy) (atI_int a rfl (wI_at w1)) ?_
      refine ixL (SqL.of ha1) (atI_int (way.getD a 0) rfl (ha2 _ w2)) ?_
      exact ⟨_,_,rfl,rfl,q⟩
theorem D_lfair (T:Txt mg) (S:Src K mg "_law_fair" "_law_fair" s__law_fair):Def P w K mg base 1 "_law_fair" ["_law_beds_here","_law_worths_here","_law_rent","_law_way","_law_parts","_law_rows"] sp_lfair:=by
  refine S.mk' sc__law_fair (fun vs H Q E h=>?_) (fun _ _ _ _ _ _ us hl=>match us,hl with | [_,_,_,_,_,_],_=>rfl) (fun f cdv A outer s H vs Q E hr h=>?_)
  · obtain ⟨b,w,wy,rl,F,rfl,_⟩:=h
    rfl
  · obtain ⟨b,w,wy,rl,⟨beds,worths,rent,way,parts,rows⟩,hvs,hb,hM,hwy,hrl,ok,l0,fair,q⟩:=h
    have hvs':vs=[.ref b,.ref w,.int rent,.ref wy,.int parts,.ref rl]:=hvs
    subst hvs'
    refine ⟨_,(pss_cons (ps_if (pt_cmpR op_ne (pe_callB (call_sumK (K:=K) rfl rfl) (by rfl) T.sum boot_sum' (pa_cons (pe_comp ["_law_r","_law_rows"] [none,some 5] rfl rfl rfl (pi_listK (K:=K) rfl (pv 3)) (fun _ _ _ _=>(pg_name (i:=0) (by decide +kernel:(["_law_r","_law_rows"]:List PySem.Str).Nodup) rfl (Or.inl rfl))) (fun _ _ _ _=>pifs_nil) (fun _ _ _ _=>(pe_ix (ix_seqK (K:=K) rfl) (pv 1) (pv 0) (fun _ _=>rfl)))) pa_nil)) (pe_op op_mulW (pv 2) (pv 4)) (nomark _)) (pss_one (ps_ret pe_bl)) pss_nil)
      (pss_cons (ps_for PassesOwn.never rfl (pi_range1 rfl T.range (pa_cons (pe_callB (call_lenK (K:=K) rfl) (by rfl) T.len boot_len' (pa_cons (pv 3) pa_nil)) pa_nil)) (pg_name (i:=7) sc__law_fair.nd rfl (Or.inl rfl))
      (pss_cons (ps_set (i:=8) sc__law_fair.nd rfl (Or.inl rfl) (pe_op op_sub (pe_op op_mulW (pv 4) (pe_ix (ix_seqK (K:=K) rfl) (pe_ix (ix_seqK (K:=K) rfl) (pv 1) (pv 7) (fun _ _=>rfl)) (pe_ix (ix_seqK (K:=K) rfl) (pv 3) (pv 7) (fun _ _=>rfl)) (fun _ _=>rfl))) (pe_ix (ix_seqK (K:=K) rfl) (pv 5) (pe_ix (ix_seqK (K:=K) rfl) (pv 3) (pv 7) (fun _ _=>rfl)) (fun _ _=>rfl))))
      (pss_one (ps_for PassesOwn.never rfl (pi_range1 rfl T.range (pa_cons (pe_callB (call_lenK (K:=K) rfl) (by rfl) T.len boot_len' (pa_cons (pv 0) pa_nil)) pa_nil)) (pg_name (i:=6) sc__law_fair.nd rfl (Or.inl rfl))
      (pss_one (ps_if (pt_cmpR op_gt (pe_op op_sub (pe_op op_mulW (pv 4) (pe_ix (ix_seqK (K:=K) rfl) (pe_ix (ix_seqK (K:=K) rfl) (pv 1) (pv 7) (fun _ _=>rfl)) (pv 6) (fun _ _=>rfl))) (pe_ix (ix_seqK (K:=K) rfl) (pv 5) (pv 6) (fun _ _=>rfl))) (pv 8) (nomark _)) (pss_one (ps_ret pe_bl)) pss_nil))))))
      (pss_cons (ps_for PassesOwn.never rfl (pi_range1 rfl T.range (pa_cons (pe_callB (call_lenK (K:=K) rfl) (by rfl) T.len boot_len' (pa_cons (pv 0) pa_nil)) pa_nil)) (pg_name (i:=6) sc__law_fair.nd rfl (Or.inl rfl))
      (pss_one (ps_if (PW.pt (pw_and (pt_cmpR op_lt (pe_bmK (K:=K) rfl PySem.F.plainAttrs_list PySem.F.slot_list_count PySem.F.type_list_count (mt_countK (K:=K) rfl) (pv 3) (pa_cons (pv 6) pa_nil)) (pe_ix (ix_seqK (K:=K) rfl) (pv 0) (pv 6) (fun _ _=>rfl)) (nomark _)) (pw_and1 (pt_cmpR op_gt (pe_ix (ix_seqK (K:=K) rfl) (pv 5) (pv 6) (fun _ _=>rfl)) (pe_callB (call_minL (K:=K) rfl rfl) (by rfl) T.min boot_min' (pa_cons (pe_comp ["_law_q","_law_rows"] [none,some 5] rfl rfl rfl (pi_listK (K:=K) rfl (pv 3)) (fun _ _ _ _=>(pg_name (i:=0) (by decide +kernel:(["_law_q","_law_rows"]:List PySem.Str).Nodup) rfl (Or.inl rfl))) (fun _ _ _ _=>pifs_nil) (fun _ _ _ _=>(pe_ix (ix_seqK (K:=K) rfl) (pv 1) (pv 0) (fun _ _=>rfl)))) pa_nil)) (nomark _))))) (pss_one (ps_ret pe_bl)) pss_nil)))
      (pss_one (ps_ret pe_bl))))),?_⟩
    replace hb:H b=some (.lst (beds.map V.int)):=hb
    replace hM:Mat H w worths:=hM
    replace hwy:H wy=some (.lst ((wI way).map V.int)):=hwy
    replace hrl:H rl=some (.lst (rows.map V.int)):=hrl
    have l1:worths.length≤10:=ok.w1
    have l2:beds.length≤10:=ok.b1
    have l3:way.length=worths.length:=ok.wl
    have l4:rows.length=beds.length:=ok.rl
    have l5:0 < worths.length:=l0
    have fit:Fit (bF beds) way:=ok.fit
    have hpb:-(10 ^ 100) < parts∧parts < 10 ^ 100:=ok.pb
    have hrb:-(10 ^ 100) < rent∧rent < 10 ^ 100:=ok.rb
    have hrw:∀ row∈worths,row.length=beds.length:=ok.rw
    have hwb:∀ row∈worths,∀ x∈row,-(10 ^ 100) < x∧x < 10 ^ 100:=ok.wb
    have hsum:(way.map fun r=>rows.getD r 0).sum=parts * rent:=fair.1
    have hne:∀ i r,i < worths.length→r < beds.length→¬ (parts * wF worths i (way.getD i 0) - rows.getD (way.getD i 0) 0 < parts * wF worths i r - rows.getD r 0):=fair.2.1
    have hnd:∀ r q,r < beds.length→q < beds.length→¬ (way.count r < bF beds r∧0 < way.count q∧rows.getD q 0 < rows.getD r 0):=fair.2.2
    clear fair ok
    have hlt:=fit_lt fit
    have hix:∀ z∈wI way,∃ j:Nat,z=(j:Int)∧(rows.map V.int)[j]? = some (.int (rows.getD z.toNat 0)):=fun z hz=>by
      obtain ⟨r,hr,rfl⟩:=List.mem_map.mp hz
      have hr2:r < rows.length:=by rw [l4]; exact hlt r hr
      refine ⟨r,rfl,?_⟩
      rw [Int.toNat_natCast,getD_get _ _ hr2]
      simp [hr2]
    have hpaid:((wI way).map fun z=>rows.getD z.toNat 0)=way.map fun r=>rows.getD r 0:=by
      unfold wI
      rw [List.map_map]
      rfl
    walk_at "go"
    refine ⟨⟨_,SqL.of hwy⟩,fun D hD=>?_⟩
    refine compMapV (wI way) (fun z=>.int (rows.getD z.toNat 0)) (SqL.of hwy) (by rw [sizeLine_eq]; simp [wI]; omega) hD (fun z hz H2 N s2 hN=>?_) fun H2 s2 d2=>?_
    · obtain ⟨j,ej,hj⟩:=hix z hz
      walk_at "go"
      exact ixL (SqL.of (s2 _ _ hrl)) (atI_int j ej hj) (hN _ (Same.refl _))
    have d2':H2 D=some (.lst ((way.map fun r=>rows.getD r 0).map V.int)):=by rw [d2,← hpaid,List.map_map]; rfl
    refine ⟨D,_,rfl,SqL.of d2',?_⟩
    rw [hsum]
    walk_at "go"
    refine iteE (by simp [Int.mul_comm parts rent]) ?_
    walk_at "go"
    refine ⟨wy,_,rfl,.inl (SqL.of (s2 _ _ hwy)),?_⟩
    rw [wI_len,l3]
    refine ⟨_,rfl,by omega,by omega,?_⟩
    rw [Int.toNat_natCast]
    refine for_range (fun i σ H'=>(∃ o6 o7 o8:Option V,σ=[some (.ref b),some (.ref w),some (.int rent),some (.ref wy),some (.int parts),some (.ref rl),o6,o7,o8])∧Same H H') ⟨⟨_,_,_,rfl⟩,s2⟩ ?_ ?_
    · rintro i σ H3 hi ⟨⟨o6,o7,o8,rfl⟩,s3⟩
      have hb3:=s3 _ _ hb
      have hwy3:=s3 _ _ hwy
      have hrl3:=s3 _ _ hrl
      obtain ⟨ws,hw3,hR3⟩:=id (hM.same s3)
      have hiw:i < way.length:=by omega
      have hrow:worths[i]? = some worths[i]:=by simp [hi]
      obtain ⟨ra,g1,g2,g3⟩:=hR3.at_ hrow
      have hrl':=hrw _ (List.getElem_mem hi)
      have gwy:((wI way).map V.int)[i]? = some (.int ((way.getD i 0:Nat):Int)):=by simp [wI,List.getD,hiw]
      have hwi:way.getD i 0 < beds.length:=hlt _ (by rw [getD_get _ _ hiw]; exact List.getElem_mem hiw)
      have gx:∀ j,j < beds.length→(worths[i].map V.int)[j]? = some (.int (wF worths i j))∧(-(10 ^ 100) < wF worths i j∧wF worths i j < 10 ^ 100)∧(rows.map V.int)[j]? = some (.int (rows.getD j 0)):=fun j hj=>by
        have hl:j < worths[i].length:=by omega
        have e5:wF worths i j=worths[i][j]:=by simp [hl,wF,hi,List.getD]
        refine ⟨by simp [hl,wF,hi,List.getD],?_,by simp [show j < rows.length by omega,List.getD]⟩
        rw [e5]
        exact hwb _ (List.getElem_mem hi) _ (List.getElem_mem hl)
      obtain ⟨x1,x2,x3⟩:=gx _ hwi
      rw [show (0:Int) + (i:Int)=(i:Int) by omega]
      walk_at "go"
      refine ixL (SqL.of hw3) (atI_int i rfl g2) ?_
      walk_at "go"
      refine ixL (SqL.of hwy3) (atI_int i rfl gwy) ?_
      walk_at "go"
      refine ixL (SqL.of g3) (atI_int _ rfl x1) ?_
      refine ⟨_,_,rfl,rfl,⟨by omega,by omega⟩,?_⟩
      walk_at "go"
      refine ixL (SqL.of hwy3) (atI_int i rfl gwy) ?_
      walk_at "go"
      refine ixL (SqL.of hrl3) (atI_int _ rfl x3) ?_
      walk_at "go"
      refine ⟨b,_,rfl,.inl (SqL.of hb3),?_⟩
      rw [List.length_map]
      refine ⟨_,rfl,by omega,by omega,?_⟩
      rw [Int.toNat_natCast]
      refine for_range (fun j σ H'=>(∃ o6:Option V,σ=[some (.ref b),some (.ref w),some (.int rent),some (.ref wy),some (.int parts),some (.ref rl),o6,some (.int (i:Int)),some (.int (parts * wF worths i (way.getD i 0) - rows.getD (way.getD i 0) 0))])∧H3=H') ⟨⟨_,rfl⟩,rfl⟩ ?_ ?_
      · rintro j σ H4 hj ⟨⟨o6',rfl⟩,rfl⟩
        obtain ⟨y1,y2,y3⟩:=gx _ hj
        rw [show (0:Int) + (j:Int)=(j:Int) by omega]
        walk_at "go"
        refine ixL (SqL.of hw3) (atI_int i rfl g2) ?_
        walk_at "go"
        refine ixL (SqL.of g3) (atI_int _ rfl y1) ?_
        refine ⟨_,_,rfl,rfl,⟨by omega,by omega⟩,?_⟩
        walk_at "go"
        refine ixL (SqL.of hrl3) (atI_int _ rfl y3) ?_
        walk_at "go"
        refine iteE (decide_eq_false (hne i j hi hj)) ?_
        exact ⟨⟨_,rfl⟩,rfl⟩
      · rintro σ H4 ⟨⟨o6',rfl⟩,rfl⟩
        exact ⟨⟨_,_,_,rfl⟩,s3⟩
    · rintro σ H3 ⟨⟨o6,o7,o8,rfl⟩,s3⟩
      walk_at "go"
      refine ⟨b,_,rfl,.inl (SqL.of (s3 _ _ hb)),?_⟩
      rw [List.length_map]
      refine ⟨_,rfl,by omega,by omega,?_⟩
      rw [Int.toNat_natCast]
      refine for_range (fun i σ H'=>(∃ o6:Option V,σ=[some (.ref b),some (.ref w),some (.int rent),some (.ref wy),some (.int parts),some (.ref rl),o6,o7,o8])∧Same H H') ⟨⟨_,rfl⟩,s3⟩ ?_ ?_
      · rintro r σ H4 hr ⟨⟨o6',rfl⟩,s4⟩
        have hb4:=s4 _ _ hb
        have hwy4:=s4 _ _ hwy
        have hrl4:=s4 _ _ hrl
        have gb:(beds.map V.int)[r]? = some (.int (beds.getD r 0)):=by simp [List.getD,hr]
        have gr:(rows.map V.int)[r]? = some (.int (rows.getD r 0)):=by simp [show r < rows.length by omega,List.getD]
        rw [show (0:Int) + (r:Int)=(r:Int) by omega]
        walk_at "go"
        refine ⟨.inl ⟨rfl,_,SqL.of hwy4⟩,?_⟩
        walk_at "go"
        refine ⟨wy,wI way,(r:Int),rfl,rfl,SqL.of hwy4,?_⟩
        rw [wI_count]
        walk_at "go"
        refine ixL (SqL.of hb4) (atI_int r rfl gb) ?_
        walk_at "go"
        refine ite2 (fun e=>?_) (fun e=>?_)
        · have ho:way.count r < bF beds r:=by
            have:=of_decide_eq_true e
            unfold bF
            omega
          walk_at "go"
          refine ixL (SqL.of hrl4) (atI_int r rfl gr) ?_
          walk_at "go"
          refine ⟨⟨_,SqL.of hwy4⟩,fun D5 hD5=>?_⟩
          refine compMapV (wI way) (fun z=>.int (rows.getD z.toNat 0)) (SqL.of hwy4) (by rw [sizeLine_eq]; simp [wI]; omega) hD5 (fun z hz H5 N s5 hN=>?_) fun H5 s5 d5=>?_
          · obtain ⟨j,ej,hj⟩:=hix z hz
            walk_at "go"
            exact ixL (SqL.of (s5 _ _ hrl4)) (atI_int j ej hj) (hN _ (Same.refl _))
          have d5':H5 D5=some (.lst ((way.map fun r=>rows.getD r 0).map V.int)):=by rw [d5,← hpaid,List.map_map]; rfl
          refine ⟨D5,_,rfl,SqL.of d5',by simp; omega,fun z hz hmin=>?_⟩
          obtain ⟨q',hq',rfl⟩:=List.mem_map.mp hz
          have h3:=hnd r q' hr (hlt q' hq')
          walk_at "go"
          refine iteE (decide_eq_false fun z=>h3 ⟨ho,List.count_pos_iff.mpr hq',z⟩) ?_
          exact ⟨⟨_,rfl⟩,s4.trans s5⟩
        · exact ⟨⟨_,rfl⟩,s4⟩
      · rintro σ H4 ⟨⟨o6',rfl⟩,s4⟩
        walk_at "go"
        exact q _ s4
theorem D_gfrom (T:Txt mg) (S:Src K mg "_law_gains_from" "_law_gains_from" s__law_gains_from) (D_law_through:Def P w K mg base 1 "_law_through" ["_law_word","_law_spare_here","_law_way","_law_a","_law_b"] sp_lthrough) (D_law_gain:Def P w K mg base 1 "_law_gain" ["_law_word","_law_worths_here","_law_way","_law_a","_law_r","_law_b"] sp_lgain):Def P w K mg base 2 "_law_gains_from" ["_law_spare_here","_law_worths_here","_law_way","_law_j"] sp_lgfrom:=by
  refine S.mk' sc__law_gains_from (fun vs H Q E h=>?_) (fun _ _ _ _ _ _ us hl=>match us,hl with | [_,_,_,_],_=>rfl) (fun f cdv A outer s H vs Q E hr h=>?_)
  · obtain ⟨sp,w,wy,beds,worths,way,j,gs,rfl,_⟩:=h
    rfl
  · obtain ⟨sp,w,wy,beds,worths,way,j,gs,rfl,hsp,hM,hwy,ok,hx,hcl,hj,q⟩:=h
    refine ⟨_,(pss_cons (ps_setC (i:=5) sc__law_gains_from.nd rfl (Or.inl rfl) ["_law_b","_law_j","_law_way","_law_worths_here"] [none,some 3,some 2,some 1] rfl rfl rfl (pi_range1 rfl T.range (pa_cons (pe_callB (call_lenK (K:=K) rfl) (by rfl) T.len boot_len' (pa_cons (pv 2) pa_nil)) pa_nil)) (fun _ _ _ _=>(pg_name (i:=0) (by decide +kernel:(["_law_b","_law_j","_law_way","_law_worths_here"]:List PySem.Str).Nodup) rfl (Or.inl rfl))) (fun _ _ _ _=>pifs_nil) (fun _ _ _ _=>(pe_def D_law_gain (hr.mono (by decide)) rfl (pa_cons pe_str (pa_cons (pv 3) (pa_cons (pv 2) (pa_cons (pv 1) (pa_cons (pe_ix (ix_seqK (K:=K) rfl) (pv 2) (pv 1) (fun _ _=>rfl)) (pa_cons (pv 0) pa_nil)))))))))
      (pss_cons (ps_asg pe_int (pg_sub (pv 5) (pv 3) set_list))
      (pss_cons (ps_for PassesOwn.never rfl (pi_range1 rfl T.range (pa_cons (pe_callB (call_lenK (K:=K) rfl) (by rfl) T.len boot_len' (pa_cons (pv 2) pa_nil)) pa_nil)) (pg_name (i:=6) sc__law_gains_from.nd rfl (Or.inl rfl))
      (pss_one (ps_for PassesOwn.never rfl (pi_range1 rfl T.range (pa_cons (pe_callB (call_lenK (K:=K) rfl) (by rfl) T.len boot_len' (pa_cons (pv 2) pa_nil)) pa_nil)) (pg_name (i:=7) sc__law_gains_from.nd rfl (Or.inl rfl))
      (pss_one (ps_for PassesOwn.never rfl (pi_range1 rfl T.range (pa_cons (pe_callB (call_lenK (K:=K) rfl) (by rfl) T.len boot_len' (pa_cons (pv 2) pa_nil)) pa_nil)) (pg_name (i:=4) sc__law_gains_from.nd rfl (Or.inl rfl))
      (pss_one (ps_if (pt_cmpR op_ne (pv 7) (pv 4) (nomark _)) (pss_one (ps_for PassesOwn.never rfl (pi_listK (K:=K) rfl (pe_def D_law_through (hr.mono (by decide)) rfl (pa_cons pe_str (pa_cons (pv 0) (pa_cons (pv 2) (pa_cons (pv 7) (pa_cons (pv 4) pa_nil))))))) (pg_name (i:=8) sc__law_gains_from.nd rfl (Or.inl rfl))
      (pss_cons (ps_set (i:=9) sc__law_gains_from.nd rfl (Or.inl rfl) (pe_op op_add (pe_ix (ix_seqK (K:=K) rfl) (pv 5) (pv 7) (fun _ _=>rfl)) (pe_def D_law_gain (hr.mono (by decide)) rfl (pa_cons pe_str (pa_cons (pv 1) (pa_cons (pv 2) (pa_cons (pv 7) (pa_cons (pv 8) (pa_cons (pv 4) pa_nil)))))))))
      (pss_one (ps_asg (pe_callB (call_max2 rfl) (by rfl) T.max boot_max' (pa_cons (pe_ix (ix_seqK (K:=K) rfl) (pv 5) (pv 4) (fun _ _=>rfl)) (pa_cons (pv 9) pa_nil))) (pg_sub (pv 5) (pv 4) set_list)))))) pss_nil)))))))
      (pss_one (ps_ret (pv 5)))))),?_⟩
    have hln:=ok.len
    have lb:=ok.bok.b1
    have lw:=ok.bok.w1
    obtain ⟨wj,wj2⟩:=ok.at_ hj
    have hlt:∀ m∈allH beds worths way,m.1 < worths.length∧m.2.2 < worths.length:=fun m hm=>by
      obtain ⟨a,r,b⟩:=m
      have:=mem_allH.mp hm
      exact ⟨this.1,this.2.1⟩
    have hpot:∀ m∈allH beds worths way,gs.getD m.1 0 + gnF true worths way m≤gs.getD m.2.2 0:=fun m hm=>by
      obtain ⟨a,r,b⟩:=m
      obtain ⟨h1,h2,h3,h4,h5⟩:=mem_allH.mp hm
      exact hcl a b r h1 h2 h3 h5
    have gbd:∀ a r b,-(2 * 10 ^ 42)≤gainF true worths way a r b∧gainF true worths way a r b≤2 * 10 ^ 42:=fun a r b=>by
      have h1:=own_bd hx way a
      have h2:=wF_bd hx b r
      unfold gainF
      rw [if_pos rfl]
      omega
    refine ⟨_,rfl,wy,_,rfl,.inl (SqL.of hwy),?_⟩
    rw [wI_len,hln]
    refine ⟨_,rfl,by omega,by omega,fun D hD=>?_⟩
    rw [Int.toNat_natCast]
    refine compRangeV (fun b=>.int (gainF true worths way j (way.getD j 0) b)) (by rw [sizeLine_eq]; omega) hD (fun b hb H1 N s1 hN=>?_) fun H1 s1 d1=>?_
    · walk_at "go"
      refine ixL (SqL.of (s1 _ _ hwy)) (atI_int j rfl (wI_at wj)) ?_
      refine ⟨_,rfl,true,w,wy,beds,worths,way,j,way.getD j 0,b,by simp [wordS],hM.same s1,s1 _ _ hwy,ok,hj,wj2,hb,?_⟩
      exact hN _ (Same.refl _)
    walk_at "go"
    refine ⟨D,_,_,j,rfl,rfl,d1,?_,?_⟩
    · unfold ixN
      rw [if_pos (by omega),if_pos (by simp; omega)]
      simp
    obtain ⟨G0,e0,l0,b0⟩:∃ G0:List Int,((List.range worths.length).map fun b=>V.int (gainF true worths way j (way.getD j 0) b)).set j (.int 0)=G0.map V.int∧G0.length=worths.length∧∀ s,s < worths.length→-(2 * 10 ^ 42)≤G0.getD s 0∧G0.getD s 0≤2 * 10 ^ 42:=by
      refine ⟨((List.range worths.length).map fun b=>gainF true worths way j (way.getD j 0) b).set j 0,by rw [List.map_set,List.map_map]; rfl,by simp,fun s hs=>?_⟩
      by_cases e:j=s
      · subst e
        rw [setI_self (by simpa using hs)]
        decide
      · rw [setI_ne e]
        have:((List.range worths.length).map fun b=>gainF true worths way j (way.getD j 0) b).getD s 0=gainF true worths way j (way.getD j 0) s:=by simp [List.getD,hs]
        rw [this]
        exact gbd _ _ _
    rw [e0]
    have sD:Same H (upd H1 D (.lst (G0.map V.int))):=fun c o e=>by rw [upd_ne (ne_of_none e hD)]; exact s1 _ _ e
    have dD:upd H1 D (.lst (G0.map V.int)) D=some (.lst (G0.map V.int)):=upd_same
    clear d1 e0
    generalize upd H1 D (.lst (G0.map V.int))=H2 at *
    clear s1
    walk_at "go"
    refine ⟨wy,_,rfl,.inl (SqL.of (sD _ _ hwy)),?_⟩
    rw [wI_len,hln]
    refine ⟨_,rfl,by omega,by omega,?_⟩
    rw [Int.toNat_natCast]
    refine for_range (fun k σ H' => ∃ (o4 o6 o7 o8 o9:Option V) (G:List Int),σ=[some (.ref sp),some (.ref w),some (.ref wy),some (.int (j:Int)),o4,some (.ref D),o6,o7,o8,o9]∧Same H H'∧H' D=some (.lst (G.map V.int))∧RealG (allH beds worths way) (gnF true worths way) worths.length G0 G∧DomG (allH beds worths way) (gnF true worths way) worths.length G0 G k) ⟨_,_,_,_,_,G0,rfl,sD,dD,.start l0,.start⟩ ?_ ?_
    · rintro k σ H3 hk ⟨o4,o6,o7,o8,o9,GS,rfl,s3,d3,rg,dg⟩
      walk_at "go"
      refine ⟨wy,_,rfl,.inl (SqL.of (s3 _ _ hwy)),?_⟩
      rw [wI_len,hln]
      refine ⟨_,rfl,by omega,by omega,?_⟩
      rw [Int.toNat_natCast]
      refine for_range (fun a σ H' => ∃ (o4 o6 o7 o8 o9:Option V) (G:List Int),σ=[some (.ref sp),some (.ref w),some (.ref wy),some (.int (j:Int)),o4,some (.ref D),o6,o7,o8,o9]∧Same H H'∧H' D=some (.lst (G.map V.int))∧RealG (allH beds worths way) (gnF true worths way) worths.length G0 G∧UpG GS G∧∀ m∈allH beds worths way,m.1 < a→GS.getD m.1 0 + gnF true worths way m≤G.getD m.2.2 0) ⟨_,_,_,_,_,GS,rfl,s3,d3,rg,.refl,fun m _ z=>absurd z (by omega)⟩ ?_ ?_
      · rintro a σ H4 ha ⟨o4,o6,o7,o8,o9,G,rfl,s4,d4,rg4,ug4,dn4⟩
        rw [show (0:Int) + (a:Int)=(a:Int) by omega]
        walk_at "go"
        refine ⟨wy,_,rfl,.inl (SqL.of (s4 _ _ hwy)),?_⟩
        rw [wI_len,hln]
        refine ⟨_,rfl,by omega,by omega,?_⟩
        rw [Int.toNat_natCast]
        refine for_range (fun b σ H' => ∃ (o4 o6 o8 o9:Option V) (G:List Int),σ=[some (.ref sp),some (.ref w),some (.ref wy),some (.int (j:Int)),o4,some (.ref D),o6,some (.int (a:Int)),o8,o9]∧Same H H'∧H' D=some (.lst (G.map V.int))∧RealG (allH beds worths way) (gnF true worths way) worths.length G0 G∧UpG GS G∧∀ m∈allH beds worths way,(m.1 < a∨m.1=a∧m.2.2 < b)→GS.getD m.1 0 + gnF true worths way m≤G.getD m.2.2 0) ⟨_,_,_,_,G,rfl,s4,d4,rg4,ug4,fun m hm z=>dn4 m hm (by omega)⟩ ?_ ?_
        · rintro b σ H5 hb ⟨o4,o6,o8,o9,G,rfl,s5,d5,rg5,ug5,dn5⟩
          rw [show (0:Int) + (b:Int)=(b:Int) by omega]
          walk_at "go"
          refine ite2 (fun e=>?_) (fun e=>?_)
          · have hab:a≠b:=fun z=>by
              rw [z] at e
              simp at e
            walk_at "go"
            refine ⟨true,sp,wy,beds,way,a,b,by simp [wordS],s5 _ _ hsp,s5 _ _ hwy,lb,by omega,by omega,fun l6 ms H6 s6 f6 h6 hr6=>?_⟩
            refine ⟨l6,rfl,⟨_,SqL.of h6⟩,?_⟩
            have S6:Same H H6:=s5.trans s6
            have nD:l6≠D:=fun z=>by
              rw [z,d5] at f6
              cases f6
            refine for_list (xs:=ms.map V.int) (fun i σ H' => ∃ (o8 o9:Option V) (G:List Int),σ=[some (.ref sp),some (.ref w),some (.ref wy),some (.int (j:Int)),some (.int (b:Int)),some (.ref D),o6,some (.int (a:Int)),o8,o9]∧Same H H'∧H' l6=some (.lst (ms.map V.int))∧H' D=some (.lst (G.map V.int))∧RealG (allH beds worths way) (gnF true worths way) worths.length G0 G∧UpG GS G∧∀ m∈allH beds worths way,(m.1 < a∨m.1=a∧m.2.2 < b∨m.1=a∧m.2.2=b∧(m.2.1:Int)∈ms.take i)→GS.getD m.1 0 + gnF true worths way m≤G.getD m.2.2 0) ⟨_,_,G,rfl,S6,h6,s6 _ _ d5,rg5,ug5,fun m hm z=>dn5 m hm (by simpa using z)⟩ (fun i σ H' _ ⟨_,_,_,_,_,h,_⟩=>SqL.of h) ?_ ?_
            · rintro i y σ H7 hy ⟨o8,o9,G,rfl,s7,h7,d7,rg7,ug7,dn7⟩
              obtain ⟨z,hz,rfl⟩:=int_at hy
              have hzm:=List.mem_of_getElem? hz
              obtain ⟨r,rfl,hrl⟩:=thru_lt ok ha hb hr6 z hzm
              have hm:(a,r,b)∈allH beds worths way:=mem_allH.mpr ⟨ha,hb,hab,hrl,(hr6.2 _).mp hzm⟩
              have lG:=rg7.len
              have ga:(G.map V.int)[a]? = some (.int (G.getD a 0)):=by simp [List.getD,show a < G.length by omega]
              have gb:(G.map V.int)[b]? = some (.int (G.getD b 0)):=by simp [List.getD,show b < G.length by omega]
              walk_at "go"
              refine ixL (SqL.of d7) (atI_int a rfl ga) ?_
              walk_at "go"
              refine ⟨true,w,wy,beds,worths,way,a,r,b,by simp [wordS],hM.same s7,s7 _ _ hwy,ok,ha,hrl,hb,?_⟩
              walk_at "go"
              refine ixL (SqL.of d7) (atI_int b rfl gb) ?_
              walk_at "go"
              refine ⟨_,_,rfl,?_⟩
              walk_at "go"
              refine ⟨D,_,_,b,rfl,rfl,d7,?_,?_⟩
              · unfold ixN
                rw [if_pos (by omega),if_pos (by rw [List.length_map,lG]; omega)]
                simp
              have hbl:b < G.length:=by omega
              have eG:(G.map V.int).set b (.int (if G.getD a 0 + gainF true worths way a r b > G.getD b 0 then G.getD a 0 + gainF true worths way a r b else G.getD b 0))=(relM (gnF true worths way) G (a,r,b)).map V.int:=by
                unfold relM
                rw [List.map_set]
                rfl
              rw [eG]
              refine ⟨_,_,relM (gnF true worths way) G (a,r,b),rfl,fun c o e=>?_,?_,upd_same,rg7.rel hlt hm,ug7.trans (relM_up hbl),fun m hm' hd=>?_⟩
              · rw [upd_ne (ne_of_none e hD)]
                exact s7 _ _ e
              · rw [upd_ne nD]
                exact h7
              · by_cases e:m=(a,r,b)
                · subst e
                  refine Int.le_trans ?_ (relM_at hbl)
                  have:=ug7 a
                  show GS.getD a 0 + _≤G.getD a 0 + _
                  omega
                · refine Int.le_trans (dn7 m hm' ?_) (relM_up hbl _)
                  rcases hd with hd | hd | ⟨h1,h2,h3⟩
                  · exact .inl hd
                  · exact .inr (.inl hd)
                  · refine .inr (.inr ⟨h1,h2,?_⟩)
                    rw [List.take_succ,hz] at h3
                    rcases List.mem_append.mp h3 with h3 | h3
                    · exact h3
                    · have h4:(m.2.1:Int)=(r:Int):=by simpa using h3
                      exact absurd (Prod.ext h1 (Prod.ext (by show m.2.1=r; omega) h2)) e
            · rintro σ H7 ⟨o8,o9,G,rfl,s7,h7,d7,rg7,ug7,dn7⟩
              refine ⟨_,_,_,_,G,rfl,s7,d7,rg7,ug7,fun m hm hd=>dn7 m hm ?_⟩
              rw [List.length_map,List.take_length]
              by_cases e1:m.1=a∧m.2.2=b
              · obtain ⟨ma,mr,mb⟩:=m
                obtain ⟨rfl,rfl⟩:=e1
                exact .inr (.inr ⟨rfl,rfl,(hr6.2 _).mpr (mem_allH.mp hm).2.2.2.2⟩)
              · omega
          · have hab:a=b:=by
              refine Classical.byContradiction fun z=>e ?_
              simp
              omega
            refine ⟨_,_,_,_,G,rfl,s5,d5,rg5,ug5,fun m hm hd=>dn5 m hm ?_⟩
            obtain ⟨ma,mr,mb⟩:=m
            have:=(mem_allH.mp hm).2.2.1
            simp only at hd ⊢
            omega
        · rintro σ H5 ⟨o4,o6,o8,o9,G,rfl,s5,d5,rg5,ug5,dn5⟩
          refine ⟨_,_,_,_,_,G,rfl,s5,d5,rg5,ug5,fun m hm hd=>dn5 m hm ?_⟩
          have:=(hlt m hm).2
          omega
      · rintro σ H4 ⟨o4,o6,o7,o8,o9,G,rfl,s4,d4,rg4,ug4,dn4⟩
        exact ⟨_,_,_,_,_,G,rfl,s4,d4,rg4,dg.next ug4 fun m hm=>dn4 m hm (hlt m hm).1⟩
    · rintro σ H3 ⟨o4,o6,o7,o8,o9,G,rfl,s3,d3,rg,dg⟩
      walk_at "go"
      refine q D G H3 s3 d3 rg.len (fun a b r h1 h2 h3 h4=>?_) fun b hb=>?_
      · exact dg.closed (h:=fun x=>gs.getD x 0) hpot hlt rg (m:=(a,r,b)) (mem_allH.mpr ⟨h1,h2,h3,thru_ltW ok h1 h4,h4⟩)
      · have h5:=rg.bd (gn:=gnF true worths way) (h:=fun x=>gs.getD x 0) (B:=2 * 10 ^ 42) hpot hlt (by decide) (fun m _=>(gbd _ _ _).2) b0 dg hb
        have h6:(worths.length:Int) * (2 * 10 ^ 42)≤10 * (2 * 10 ^ 42):=Int.mul_le_mul_of_nonneg_right (by omega) (by decide)
        omega
theorem D_ledby (T:Txt mg) (S:Src K mg "_law_led_by" "_law_led_by" s__law_led_by) (D_law_spare:Def P w K mg base 1 "_law_spare" ["_law_beds_here","_law_way"] (sp_spare K)) (D_law_gains_from:Def P w K mg base 2 "_law_gains_from" ["_law_spare_here","_law_worths_here","_law_way","_law_j"] sp_lgfrom):Def P w K mg base 3 "_law_led_by" ["_law_beds_here","_law_worths_here","_law_rent","_law_way","_law_j"] sp_lledby:=by
  refine S.mk' sc__law_led_by (fun vs H Q E h=>?_) (fun _ _ _ _ _ _ us hl=>match us,hl with | [_,_,_,_,_],_=>rfl) (fun f cdv A outer s H vs Q E hr h=>?_)
  · obtain ⟨b,w,wy,beds,worths,rent,way,j,gs,rfl,_⟩:=h
    rfl
  · obtain ⟨b,w,wy,beds,worths,rent,way,j,gs,rfl,hb,hM,hwy,ok,fit,opt,hb1,hx,hre,hcl,hj,q⟩:=h
    refine ⟨_,(pss_cons (ps_set (i:=5) sc__law_led_by.nd rfl (Or.inl rfl) (pe_def D_law_gains_from (hr.mono (by decide)) rfl (pa_cons (pe_def D_law_spare (hr.mono (by decide)) rfl (pa_cons (pv 0) (pa_cons (pv 3) pa_nil))) (pa_cons (pv 1) (pa_cons (pv 3) (pa_cons (pv 4) pa_nil))))))
      (pss_cons (ps_set (i:=6) sc__law_led_by.nd rfl (Or.inl rfl) (pe_callB (call_lenK (K:=K) rfl) (by rfl) T.len boot_len' (pa_cons (pv 3) pa_nil)))
      (pss_cons (ps_set (i:=8) sc__law_led_by.nd rfl (Or.inl rfl) (pe_op op_sub (pe_op op_sub (pe_callB (call_sumK (K:=K) rfl rfl) (by rfl) T.sum boot_sum' (pa_cons (pe_comp ["_law_i","_law_way","_law_worths_here"] [none,some 3,some 1] rfl rfl rfl (pi_range1 rfl T.range (pa_cons (pv 6) pa_nil)) (fun _ _ _ _=>(pg_name (i:=0) (by decide +kernel:(["_law_i","_law_way","_law_worths_here"]:List PySem.Str).Nodup) rfl (Or.inl rfl))) (fun _ _ _ _=>pifs_nil) (fun _ _ _ _=>(pe_ix (ix_seqK (K:=K) rfl) (pe_ix (ix_seqK (K:=K) rfl) (pv 2) (pv 0) (fun _ _=>rfl)) (pe_ix (ix_seqK (K:=K) rfl) (pv 1) (pv 0) (fun _ _=>rfl)) (fun _ _=>rfl)))) pa_nil)) (pv 2)) (pe_callB (call_sumK (K:=K) rfl rfl) (by rfl) T.sum boot_sum' (pa_cons (pv 5) pa_nil))))
      (pss_cons (ps_set (i:=9) sc__law_led_by.nd rfl (Or.inr rfl) pe_dnewK)
      (pss_cons (ps_for PassesOwn.never rfl (pi_range1 rfl T.range (pa_cons (pv 6) pa_nil)) (pg_name (i:=7) sc__law_led_by.nd rfl (Or.inl rfl))
      (pss_cons (ps_set (i:=10) sc__law_led_by.nd rfl (Or.inl rfl) (pe_op op_add (pv 8) (pe_op op_mulW (pv 6) (pe_ix (ix_seqK (K:=K) rfl) (pv 5) (pv 7) (fun _ _=>rfl)))))
      (pss_one (ps_dput hr.u1 (pv 9) (pe_ix (ix_seqK (K:=K) rfl) (pv 3) (pv 7) (fun _ _=>rfl)) (pe_op op_sub (pe_op op_mulW (pv 6) (pe_ix (ix_seqK (K:=K) rfl) (pe_ix (ix_seqK (K:=K) rfl) (pv 1) (pv 7) (fun _ _=>rfl)) (pe_ix (ix_seqK (K:=K) rfl) (pv 3) (pv 7) (fun _ _=>rfl)) (fun _ _=>rfl))) (pv 10)) rfl))))
      (pss_cons (ps_set (i:=11) sc__law_led_by.nd rfl (Or.inr rfl) (pe_minVals rfl (by rfl) T.min (pv 9)))
      (pss_one (ps_ret (pe_tup' (pa_cons (pv 6) (pa_cons (pe_comp ["_law_r","_law_cheapest","_law_found"] [none,some 11,some 9] rfl rfl rfl (pi_range1 rfl T.range (pa_cons (pe_callB (call_lenK (K:=K) rfl) (by rfl) T.len boot_len' (pa_cons (pv 0) pa_nil)) pa_nil)) (fun _ _ _ _=>(pg_name (i:=0) (by decide +kernel:(["_law_r","_law_cheapest","_law_found"]:List PySem.Str).Nodup) rfl (Or.inl rfl))) (fun _ _ _ _=>pifs_nil) (fun _ _ _ _=>(pe_dget2 hr.u1 (pv 2) (pv 0) (pv 1) ⟨rfl,rfl,rfl,rfl⟩))) pa_nil))))))))))),?_⟩
    have hln:=ok.len
    have lb:=ok.bok.b1
    have lw:=ok.bok.w1
    walk_at "go"
    refine ⟨b,wy,beds,way,rfl,hb,by omega,hwy,fun l1 H1 n1=>?_⟩
    have s1:=n1.same
    walk_at "go"
    refine ⟨l1,w,wy,beds,worths,way,j,gs,rfl,n1.at_,hM.same s1,s1 _ _ hwy,ok,hx,hcl,hj,fun gl G H2 s2' hgl lG clG bdG=>?_⟩
    have s2:=s1.trans s2'
    clear hcl n1 s2'
    walk_at "go"
    refine ⟨wy,_,rfl,.inl (SqL.of (s2 _ _ hwy)),?_⟩
    rw [wI_len,hln]
    refine stN (σ':=[some (.ref b),some (.ref w),some (.int rent),some (.ref wy),some (.int (j:Int)),some (.ref gl),some (.int (worths.length:Int)),none,none,none,none,none]) rfl ?_
    refine ⟨_,rfl,_,rfl,by omega,by omega,fun D hD=>?_⟩
    rw [Int.toNat_natCast]
    refine compRangeV (fun i=>.int (ownF worths way i)) (by rw [sizeLine_eq]; omega) hD (fun i hi H3 N s3 hN=>?_) fun H3 s3 d3=>?_
    · rw [show (0:Int) + (i:Int)=(i:Int) by omega]
      obtain ⟨ws,ra,xs,r1,r2,r3,r4⟩:=own_row ok (hM.same (s2.trans s3)) hi
      walk_at "go"
      refine ixL (SqL.of r1) (atI_int i rfl r2) ?_
      walk_at "go"
      refine ixL (SqL.of (s3 _ _ (s2 _ _ hwy))) (atI_int i rfl (wI_at (ok.at_ hi).1)) ?_
      refine ixL (SqL.of r3) (atI_int _ rfl r4) ?_
      exact hN _ (Same.refl _)
    have d3':H3 D=some (.lst (((List.range worths.length).map (ownF worths way)).map V.int)):=by rw [d3,List.map_map]; rfl
    refine ⟨D,_,rfl,SqL.of d3',?_⟩
    walk_at "go"
    refine ⟨gl,_,rfl,SqL.of (s3 _ _ hgl),?_⟩
    walk_at "go"
    have S3:=s2.trans s3
    have ew:((List.range worths.length).map (ownF worths way)).sum=wsum (wF worths) way:=by
      unfold wsum
      rw [hln]
      rfl
    rw [ew]
    obtain ⟨L,hL⟩:∃ L,wsum (wF worths) way - rent - G.sum=L:=⟨_,rfl⟩
    have hgl3:=s3 _ _ hgl
    have wb:=wsum_bd (way:=way) hx (by omega)
    have gsb:-(10 ^ 46)≤G.sum∧G.sum≤10 ^ 46:=by
      have h1:=isum_bd (B:=10 ^ 45) (l:=G) fun z hz=>by
        obtain ⟨i,hi,rfl⟩:=List.mem_iff_getElem.mp hz
        have:=bdG i (by omega)
        rw [getD_get _ _ hi] at this
        exact this
      have h2:(G.length:Int) * 10 ^ 45≤10 * 10 ^ 45:=Int.mul_le_mul_of_nonneg_right (by omega) (by decide)
      omega
    have Lb:-(10 ^ 47)≤L∧L≤10 ^ 47:=by omega
    have hlv:∃ lv:List Int,lv=G.map fun g=>L + (worths.length:Int) * g:=⟨_,rfl⟩
    obtain ⟨lv,elv⟩:=hlv
    have lvl:lv.length=worths.length:=by rw [elv,List.length_map,lG]
    have lva:∀ i,i < worths.length→lv.getD i 0=L + (worths.length:Int) * G.getD i 0:=fun i hi=>by rw [elv]; simp [List.getD,lG,hi]
    have lvs:lv.sum=(worths.length:Int) * (wsum (wF worths) way - rent):=by
      rw [elv,sum_lv,lG,← Int.mul_add]
      congr 1
      omega
    have n0:(0:Int) < (worths.length:Int):=by omega
    have clV:ClosedV beds worths way (worths.length:Int) lv:=fun a b r h1 h2 h3 h4=>by
      have h5:=Int.mul_le_mul_of_nonneg_left (clG a b r h1 h2 h3 h4) (Int.le_of_lt n0)
      rw [Int.mul_add] at h5
      rw [lva a h1,lva b h2]
      omega
    have cF:∀ i,i < worths.length→costF true worths way lv (worths.length:Int) i=(worths.length:Int) * ownF worths way i - (L + (worths.length:Int) * G.getD i 0):=fun i hi=>by rw [← lva i hi]; simp [costF]
    have cbd:∀ i,i < worths.length→-(10 ^ 48)≤costF true worths way lv (worths.length:Int) i∧costF true worths way lv (worths.length:Int) i≤10 ^ 48:=fun i hi=>by
      have h1:=own_bd hx way i
      have h2:=mulN_bd (k:=(worths.length:Int)) (x:=ownF worths way i) (B:=10 ^ 42) ⟨by omega,by omega⟩ ⟨by omega,by omega⟩
      have h3:=mulN_bd (k:=(worths.length:Int)) (x:=G.getD i 0) (B:=10 ^ 45) ⟨by omega,by omega⟩ (bdG i hi)
      rw [cF i hi]
      omega
    refine stN (σ':=[some (.ref b),some (.ref w),some (.int rent),some (.ref wy),some (.int (j:Int)),some (.ref gl),some (.int (worths.length:Int)),none,some (.int (wsum (wF worths) way - rent - G.sum)),none,none,none]) rfl ?_
    rw [hL]
    walk_at "go"
    refine fun dd hdd=>?_
    have S4:Same H (upd H3 dd (.dK [])):=fun c o e=>by rw [upd_ne (ne_of_none (S3 _ _ e) hdd)]; exact S3 _ _ e
    have hgl4:upd H3 dd (.dK []) gl=some (.lst (G.map V.int)):=by rw [upd_ne (ne_of_none hgl3 hdd)]; exact hgl3
    have hddH:H dd=none:=S3.free hdd
    have h4:upd H3 dd (.dK []) dd=some (.dK []):=upd_same
    generalize upd H3 dd (.dK [])=H4 at *
    refine stN (σ':=[some (.ref b),some (.ref w),some (.int rent),some (.ref wy),some (.int (j:Int)),some (.ref gl),some (.int (worths.length:Int)),none,some (.int L),some (.ref dd),none,none]) rfl ?_
    refine ⟨_,rfl,_,rfl,by omega,by omega,?_⟩
    rw [Int.toNat_natCast]
    refine for_range (fun i σ H' => ∃ (o7 o10:Option V) (kvs:List (Key × V)),σ=[some (.ref b),some (.ref w),some (.int rent),some (.ref wy),some (.int (j:Int)),some (.ref gl),some (.int (worths.length:Int)),o7,some (.int L),some (.ref dd),o10,none]∧Same H H'∧H' gl=some (.lst (G.map V.int))∧H' dd=some (.dK kvs)∧kvs.length≤i∧(∀ p,p < i→valV kvs (Sum.inl ((way.getD p 0:Nat):Int))=some (.int (costF true worths way lv (worths.length:Int) p)))∧∀ kv∈kvs,∃ p,p < i∧kv=(Sum.inl ((way.getD p 0:Nat):Int),.int (costF true worths way lv (worths.length:Int) p))) ⟨_,_,[],rfl,S4,hgl4,h4,by simp,fun p hp=>absurd hp (by omega),fun kv hk=>by simp at hk⟩ ?_ ?_
    · rintro i σ H5 hi ⟨o7,o10,kvs,rfl,s5,g5,d5,l5,v5,m5⟩
      rw [show (0:Int) + (i:Int)=(i:Int) by omega]
      obtain ⟨ws,ra,xs,r1,r2,r3,r4⟩:=own_row ok (hM.same s5) hi
      have gg:(G.map V.int)[i]? = some (.int (G.getD i 0)):=by simp [List.getD,show i < G.length by omega]
      have ob:=own_bd hx way i
      have gb:=bdG i hi
      walk_at "go"
      refine ixL (SqL.of g5) (atI_int i rfl gg) ?_
      refine ⟨_,_,rfl,rfl,⟨by omega,by omega⟩,?_⟩
      walk_at "go"
      refine ixL (SqL.of r1) (atI_int i rfl r2) ?_
      walk_at "go"
      refine ixL (SqL.of (s5 _ _ hwy)) (atI_int i rfl (wI_at (ok.at_ hi).1)) ?_
      refine ixL (SqL.of r3) (atI_int _ rfl r4) ?_
      refine ⟨_,_,rfl,rfl,⟨by omega,by omega⟩,?_⟩
      walk_at "go"
      refine ixL (SqL.of (s5 _ _ hwy)) (atI_int i rfl (wI_at (ok.at_ hi).1)) ?_
      refine ⟨dd,_,rfl,DPut.k (k:=Sum.inl ((way.getD i 0:Nat):Int)) d5 (by rw [sizeLine_eq]; omega),?_⟩
      refine ⟨_,_,putK kvs (Sum.inl ((way.getD i 0:Nat):Int)) (.int (costF true worths way lv (worths.length:Int) i)),rfl,fun c o e=>?_,?_,by rw [cF i hi]; exact upd_same,?_,fun p hp=>?_,fun kv hk=>?_⟩
      · rw [upd_ne (ne_of_none e hddH)]
        exact s5 _ _ e
      · rw [upd_ne (ne_of g5 d5 (by intro z; cases z))]
        exact g5
      · have:=length_putK kvs (Sum.inl ((way.getD i 0:Nat):Int)) (.int (costF true worths way lv (worths.length:Int) i))
        omega
      · rw [valV_put]
        by_cases e:way.getD p 0=way.getD i 0
        · rw [if_pos (by rw [e]),cost_sameV n0 clV (show p < worths.length by omega) hi e]
        · rw [if_neg (fun z=>e (by injection z with z; omega))]
          exact v5 p (by
            refine Classical.byContradiction fun z=>e ?_
            rw [show p=i by omega])
      · rcases mem_putK hk with h | h
        · exact ⟨i,by omega,h⟩
        · obtain ⟨p,hp,e⟩:=m5 kv h
          exact ⟨p,by omega,e⟩
    · rintro σ H5 ⟨o7,o10,kvs,rfl,s5,g5,d5,l5,v5,m5⟩
      walk_at "go"
      obtain ⟨ns,ens,hns,hns2⟩:∃ ns:List Int,kvs.map (·.2)=ns.map V.int∧(∀ z∈ns,∃ p,p < worths.length∧z=costF true worths way lv (worths.length:Int) p)∧∀ p,p < worths.length→costF true worths way lv (worths.length:Int) p∈ns:=by
        refine ⟨kvs.map fun kv=>intOf kv.2,?_,fun z hz=>?_,fun p hp=>?_⟩
        · rw [List.map_map]
          refine List.map_congr_left fun kv hk=>?_
          obtain ⟨p,hp,e⟩:=m5 kv hk
          rw [e]
          rfl
        · obtain ⟨kv,hk,rfl⟩:=List.mem_map.mp hz
          obtain ⟨p,hp,e⟩:=m5 kv hk
          exact ⟨p,hp,by rw [e]; rfl⟩
        · have h1:=valV_mem (v5 p hp)
          exact List.mem_map.mpr ⟨_,h1,rfl⟩
      refine ⟨dd,kvs,ns,rfl,d5,ens,List.length_pos_of_mem (hns2 j hj),fun z hz hzm=>?_⟩
      refine stN (σ':=[some (.ref b),some (.ref w),some (.int rent),some (.ref wy),some (.int (j:Int)),some (.ref gl),some (.int (worths.length:Int)),o7,some (.int L),some (.ref dd),o10,some (.int z)]) rfl ?_
      walk_at "go"
      refine ⟨b,_,rfl,.inl (SqL.of (s5 _ _ hb)),?_⟩
      rw [List.length_map]
      refine ⟨_,rfl,by omega,by omega,fun D6 hD6=>?_⟩
      rw [Int.toNat_natCast]
      obtain ⟨f,hf⟩:∃ f:Nat→Int,f=fun r=>if r∈way then costF true worths way lv (worths.length:Int) (way.idxOf r) else z:=⟨_,rfl⟩
      have hfr:∀ r:Nat,(valV kvs (Sum.inl (r:Int))).getD (.int z)=.int (f r):=fun r=>by
        rw [hf]
        by_cases e:r∈way
        · have hi:way.idxOf r < way.length:=List.idxOf_lt_length_iff.mpr e
          have hg:way.getD (way.idxOf r) 0=r:=by rw [getD_get _ _ hi]; exact List.getElem_idxOf hi
          have h1:=v5 (way.idxOf r) (by omega)
          rw [hg] at h1
          rw [h1]
          simp only [if_pos e]
          rfl
        · have h1:valV kvs (Sum.inl (r:Int))=none:=by
            cases hv:valV kvs (Sum.inl (r:Int)) with
            | none=>rfl
            | some v =>
              obtain ⟨p,hp,e2⟩:=m5 _ (valV_mem hv)
              have e3:(r:Int)=((way.getD p 0:Nat):Int):=Sum.inl.inj (congrArg (·.1) e2)
              refine absurd ?_ e
              have e4:r=way.getD p 0:=by omega
              rw [e4,getD_get _ _ (show p < way.length by omega)]
              exact List.getElem_mem _
          rw [h1]
          simp only [if_neg e]
          rfl
      refine compRangeV (fun r=>.int (f r)) (by rw [sizeLine_eq]; omega) hD6 (fun r hr H6 N s6 hN=>?_) fun H6 s6 d6=>?_
      · rw [show (0:Int) + (r:Int)=(r:Int) by omega]
        walk_at "go"
        refine ⟨.inl ⟨kvs,.inl (s6 _ _ d5)⟩,?_⟩
        walk_at "go"
        refine ⟨_,DGet.k (k:=Sum.inl (r:Int)) (s6 _ _ d5),?_⟩
        rw [hfr]
        exact hN _ (Same.refl _)
      walk_at "go"
      refine fun t7 H7 n7=>?_
      have isr:IsRows beds way (costL true worths way lv (worths.length:Int)) ((List.range beds.length).map f):=by
        refine ⟨by simp,fun r y hy=>?_⟩
        obtain ⟨hr,rfl⟩:r < beds.length∧y=f r:=by
          obtain ⟨h1,h2⟩:=List.getElem?_eq_some_iff.mp hy
          rw [List.length_map,List.length_range] at h1
          exact ⟨h1,by rw [← h2]; simp⟩
        unfold IsRoom
        rw [hf]
        by_cases e:r∈way
        · simp only [if_pos e]
          have hi:way.idxOf r < way.length:=List.idxOf_lt_length_iff.mpr e
          rw [getD_get _ _ (by simp [costL]; omega)]
          simp [costL]
        · simp only [if_neg e]
          refine ⟨?_,fun y hy=>?_⟩
          · obtain ⟨p,hp,e2⟩:=hns z hz
            rw [e2]
            exact mem_costV hp
          · obtain ⟨p,hp,e2⟩:=costV_mem hy
            rw [e2]
            exact hzm _ (hns2 p hp)
      have low:Low (worths.length:Int) ((List.range beds.length).map f) 1 (worths.length:Int) ((List.range beds.length).map f):=⟨by decide,by omega,rfl,fun r=>by rw [Int.one_mul]⟩
      have d7:H7 D6=some (.lst (((List.range beds.length).map f).map V.int)):=by rw [n7.same _ _ d6,List.map_map]; rfl
      refine q t7 D6 (worths.length:Int) ((List.range beds.length).map f) H7 ((s5.trans s6).trans n7.same) ⟨n7.at_,d7,by simp,n0,by omega,fun r=>?_,fairV n0 ok fit opt hb1 clV lvl lvs isr low⟩
      have fb:∀ r,-(10 ^ 48)≤f r∧f r≤10 ^ 48:=fun r=>by
        rw [hf]
        by_cases e:r∈way
        · simp only [if_pos e]
          have hi:way.idxOf r < way.length:=List.idxOf_lt_length_iff.mpr e
          exact cbd _ (by omega)
        · simp only [if_neg e]
          obtain ⟨p,hp,e2⟩:=hns z hz
          rw [e2]
          exact cbd p hp
      by_cases hr:r < beds.length
      · have e:((List.range beds.length).map f).getD r 0=f r:=by simp [List.getD,hr]
        have:=fb r
        rw [e]
        omega
      · rw [List.getD_eq_getElem?_getD,List.getElem?_eq_none (by simp; omega)]
        simp only [Option.getD_none]
        omega
theorem D_mean (T:Txt mg) (S:Src K mg "_law_mean" "_law_mean" s__law_mean):Def P w K mg base 1 "_law_mean" ["_law_one","_law_other","_law_k","_law_m"] sp_lmean:=by
  refine S.mk' sc__law_mean (fun vs H Q E h=>?_) (fun _ _ _ _ _ _ us hl=>match us,hl with | [_,_,_,_],_=>rfl) (fun f cdv A outer s H vs Q E hr h=>?_)
  · obtain ⟨t1,t2,l1,l2,beds,worths,rent,way,B1,B2,k1,k2,k,m,R1,R2,rfl,_⟩:=h
    rfl
  · obtain ⟨t1,t2,l1,l2,beds,worths,rent,way,B1,B2,k1,k2,k,m,R1,R2,rfl,F1,F2,hB1,hB2,lb,hk,hm,q⟩:=h
    refine ⟨_,(pss_cons (ps_set (i:=4) sc__law_mean.nd rfl (Or.inl rfl) (pe_lst' pa_nil))
      (pss_cons (ps_for PassesOwn.never rfl (pi_range1 rfl T.range (pa_cons (pe_callB (call_lenK (K:=K) rfl) (by rfl) T.len boot_len' (pa_cons (pe_ix (ix_seqK (K:=K) rfl) (pv 0) pe_int (fun _ _=>rfl)) pa_nil)) pa_nil)) (pg_name (i:=5) sc__law_mean.nd rfl (Or.inl rfl))
      (pss_one (ps_expr (pe_bmK (K:=K) rfl PySem.F.plainAttrs_list PySem.F.slot_list_append PySem.F.type_list_append mt_append (pv 4) (pa_cons (pe_op op_add (pe_op op_mulW (pe_op op_mulW (pv 2) (pe_ix (ix_seqK (K:=K) rfl) (pe_ix (ix_seqK (K:=K) rfl) (pv 0) pe_int (fun _ _=>rfl)) (pv 5) (fun _ _=>rfl))) (pe_ix (ix_seqK (K:=K) rfl) (pv 1) pe_int (fun _ _=>rfl))) (pe_op op_mulW (pe_op op_mulW (pv 3) (pe_ix (ix_seqK (K:=K) rfl) (pe_ix (ix_seqK (K:=K) rfl) (pv 1) pe_int (fun _ _=>rfl)) (pv 5) (fun _ _=>rfl))) (pe_ix (ix_seqK (K:=K) rfl) (pv 0) pe_int (fun _ _=>rfl)))) pa_nil)))))
      (pss_one (ps_ret (pe_tup' (pa_cons (pe_op op_mulW (pe_op op_mulW (pe_op op_add (pv 2) (pv 3)) (pe_ix (ix_seqK (K:=K) rfl) (pv 0) pe_int (fun _ _=>rfl))) (pe_ix (ix_seqK (K:=K) rfl) (pv 1) pe_int (fun _ _=>rfl))) (pa_cons (pv 4) pa_nil))))))),?_⟩
    have kb1:0 < k1∧k1≤10:=⟨F1.k0,by have:=F1.kB; omega⟩
    have kb2:0 < k2∧k2≤10 ^ 20:=⟨F2.k0,by have:=F2.kB; omega⟩
    have lR1:=F1.len
    have lR2:=F2.len
    have bd1:∀ r,-(10 ^ 61)≤R1.getD r 0∧R1.getD r 0≤10 ^ 61:=fun r=>by
      have:=F1.bd r
      omega
    have bd2:∀ r,-(10 ^ 80)≤R2.getD r 0∧R2.getD r 0≤10 ^ 80:=fun r=>by
      have:=F2.bd r
      omega
    walk_at "go"
    refine fun l H3 n3=>?_
    have S3:Same H H3:=n3.same
    refine stN (σ':=[some (.ref t1),some (.ref t2),some (.int k),some (.int m),some (.ref l),none]) rfl ?_
    walk_at "go"
    refine ixT (SqT.of (S3 _ _ F1.tup)) rfl ?_
    refine ⟨l1,_,rfl,.inl (SqL.of (S3 _ _ F1.lst)),?_⟩
    rw [List.length_map]
    refine ⟨_,rfl,by omega,by omega,?_⟩
    rw [Int.toNat_natCast]
    refine for_range (fun i σ H' => ∃ (o5:Option V),σ=[some (.ref t1),some (.ref t2),some (.int k),some (.int m),some (.ref l),o5]∧Same H H'∧H' l=some (.lst (((List.range i).map fun r=>k * R1.getD r 0 * k2 + m * R2.getD r 0 * k1).map V.int))) ⟨_,rfl,S3,n3.at_⟩ ?_ ?_
    · rintro i σ H4 hi ⟨o5,rfl,s4,hl4⟩
      rw [show (0:Int) + (i:Int)=(i:Int) by omega]
      have ht14:=s4 _ _ F1.tup
      have ht24:=s4 _ _ F2.tup
      have hl14:=s4 _ _ F1.lst
      have hl24:=s4 _ _ F2.lst
      have g1:(R1.map V.int)[i]? = some (.int (R1.getD i 0)):=by simp [List.getD,hi]
      have g2:(R2.map V.int)[i]? = some (.int (R2.getD i 0)):=by simp [List.getD,show i < R2.length by omega]
      have u1:=bd1 i
      have u2:=bd2 i
      have v1:=mulN_bd (k:=k) (x:=R1.getD i 0) (B:=10 ^ 61) ⟨by omega,by omega⟩ ⟨by omega,by omega⟩
      have v2:=mulN_bd (k:=m) (x:=R2.getD i 0) (B:=10 ^ 80) ⟨by omega,by omega⟩ ⟨by omega,by omega⟩
      walk_at "go"
      refine ⟨.inl ⟨rfl,_,SqL.of hl4⟩,?_⟩
      walk_at "go"
      refine ixT (SqT.of ht14) rfl ?_
      walk_at "go"
      refine ixL (SqL.of hl14) (atI_int i rfl g1) ?_
      refine ⟨_,_,rfl,rfl,⟨by omega,by omega⟩,?_⟩
      walk_at "go"
      refine ixT (SqT.of ht24) rfl ?_
      refine ⟨_,_,rfl,rfl,⟨by constructor <;> omega,by omega⟩,?_⟩
      walk_at "go"
      refine ixT (SqT.of ht24) rfl ?_
      walk_at "go"
      refine ixL (SqL.of hl24) (atI_int i rfl g2) ?_
      refine ⟨_,_,rfl,rfl,⟨by omega,by omega⟩,?_⟩
      walk_at "go"
      refine ixT (SqT.of ht14) rfl ?_
      refine ⟨_,_,rfl,rfl,⟨by constructor <;> omega,by omega⟩,?_⟩
      walk_at "go"
      refine ⟨l,_,_,rfl,rfl,hl4,by rw [sizeLine_eq]; simp; omega,?_⟩
      refine ⟨_,rfl,fun c o e=>?_,?_⟩
      · rw [upd_ne (ne_of_none e n3.none)]
        exact s4 _ _ e
      · rw [upd_same,List.range_succ,List.map_append,List.map_append]
        rfl
    · rintro σ H4 ⟨o5,rfl,s4,hl4⟩
      have pk:=mulA_bd (k:=k + m) (x:=k1) (A:=14) (B:=10) ⟨by omega,by omega⟩ ⟨by omega,by omega⟩
      have p0:=Int.mul_pos (show 0 < k + m by omega) kb1.1
      have p1:=Int.mul_pos p0 kb2.1
      have p2:=Int.mul_le_mul_of_nonneg_right (show (k + m) * k1≤140 by omega) (Int.le_of_lt kb2.1)
      have p3:=Int.mul_le_mul_of_nonneg_left F2.kB (show (0:Int)≤140 by decide)
      walk_at "go"
      refine ixT (SqT.of (s4 _ _ F1.tup)) rfl ?_
      refine ⟨_,_,rfl,rfl,⟨by omega,by omega⟩,?_⟩
      walk_at "go"
      refine ixT (SqT.of (s4 _ _ F2.tup)) rfl ?_
      refine ⟨_,_,rfl,rfl,⟨by constructor <;> omega,by omega⟩,?_⟩
      walk_at "go"
      refine fun t5 H5 n5=>?_
      have hR:∀ r,((List.range R1.length).map fun r=>k * R1.getD r 0 * k2 + m * R2.getD r 0 * k1).getD r 0=(k * k2) * R1.getD r 0 + (m * k1) * R2.getD r 0:=fun r=>by
        by_cases hr:r < R1.length
        · have e1:((List.range R1.length).map fun r=>k * R1.getD r 0 * k2 + m * R2.getD r 0 * k1).getD r 0=k * R1.getD r 0 * k2 + m * R2.getD r 0 * k1:=by simp [List.getD,hr]
          rw [e1,Int.mul_assoc,Int.mul_assoc,Int.mul_comm _ k2,Int.mul_comm _ k1,← Int.mul_assoc,← Int.mul_assoc]
        · rw [List.getD_eq_getElem?_getD,List.getElem?_eq_none (by simp; omega),List.getD_eq_getElem?_getD,List.getElem?_eq_none (by omega),List.getD_eq_getElem?_getD,List.getElem?_eq_none (by omega)]
          simp
      have ep:(k + m) * k1 * k2=(k * k2) * k1 + (m * k1) * k2:=by
        rw [Int.add_mul,Int.add_mul,Int.mul_assoc,Int.mul_comm k1 k2,← Int.mul_assoc]
      have a0:=Int.mul_pos hk.1 kb2.1
      have c0:=Int.mul_pos hm.1 kb1.1
      refine q t5 l ((k + m) * k1 * k2) _ H5 (s4.trans n5.same) ⟨n5.at_,n5.same _ _ hl4,by simp; omega,p1,by omega,fun r=>?_,?_⟩
      · rw [hR,ep]
        have h1:=F1.bd r
        have h2:=F2.bd r
        have h3:=Int.mul_le_mul_of_nonneg_left h1.1 (Int.le_of_lt a0)
        have h4:=Int.mul_le_mul_of_nonneg_left h1.2 (Int.le_of_lt a0)
        have h5:=Int.mul_le_mul_of_nonneg_left h2.1 (Int.le_of_lt c0)
        have h6:=Int.mul_le_mul_of_nonneg_left h2.2 (Int.le_of_lt c0)
        have e1:k * k2 * (10 ^ 60 * k1)=10 ^ 60 * (k * k2 * k1):=by rw [← Int.mul_assoc,Int.mul_comm _ (10 ^ 60),Int.mul_assoc]
        have e2:m * k1 * (10 ^ 60 * k2)=10 ^ 60 * (m * k1 * k2):=by rw [← Int.mul_assoc,Int.mul_comm _ (10 ^ 60),Int.mul_assoc]
        rw [Int.mul_neg,e1] at h3
        rw [e1] at h4
        rw [Int.mul_neg,e2] at h5
        rw [e2] at h6
        omega
      · rw [ep]
        exact fair_mix F1.fair F2.fair (Int.le_of_lt a0) (Int.le_of_lt c0) hR
theorem D_nobetter (T:Txt mg) (S:Src K mg "_law_no_better" "_law_no_better" s__law_no_better):Def P w K mg base 1 "_law_no_better" ["_law_worths_here","_law_way","_law_prices","_law_worst","_law_even"] sp_lnobetter:=by
  refine S.mk' sc__law_no_better (fun vs H Q E h=>?_) (fun _ _ _ _ _ _ us hl=>match us,hl with | [_,_,_,_,_],_=>rfl) (fun f cdv A outer s H vs Q E hr h=>?_)
  · obtain ⟨w,wy,t,l,tw,lw,te,le,beds,worths,rent,way,k,kw,ke,dw,de,R,Rw,Re,rowsW,rowsE,hW,hE,stW,stE,rfl,_⟩:=h
    rfl
  · obtain ⟨w,wy,t,l,tw,lw,te,le,beds,worths,rent,way,k,kw,ke,dw,de,R,Rw,Re,rowsW,rowsE,hW,hE,stW,stE,rfl,hM,hwy,ok,l0,hx,F,FW,FE,gW,lowW,gE,lowE,q⟩:=h
    refine ⟨_,(pss_cons (ps_asg (pv 2) (pg_tupK (K:=K) (n:=2) rfl rfl (pgs_cons (pg_name (i:=5) sc__law_no_better.nd rfl (Or.inr rfl)) (pgs_cons (pg_name (i:=6) sc__law_no_better.nd rfl (Or.inr rfl)) pgs_nil))))
      (pss_cons (ps_set (i:=7) sc__law_no_better.nd rfl (Or.inr rfl) (pe_comp ["_law_i","_law_way","_law_worths_here"] [none,some 1,some 0] rfl rfl rfl (pi_range1 rfl T.range (pa_cons (pe_callB (call_lenK (K:=K) rfl) (by rfl) T.len boot_len' (pa_cons (pv 1) pa_nil)) pa_nil)) (fun _ _ _ _=>(pg_name (i:=0) (by decide +kernel:(["_law_i","_law_way","_law_worths_here"]:List PySem.Str).Nodup) rfl (Or.inl rfl))) (fun _ _ _ _=>pifs_nil) (fun _ _ _ _=>(pe_ix (ix_seqK (K:=K) rfl) (pe_ix (ix_seqK (K:=K) rfl) (pv 2) (pv 0) (fun _ _=>rfl)) (pe_ix (ix_seqK (K:=K) rfl) (pv 1) (pv 0) (fun _ _=>rfl)) (fun _ _=>rfl)))))
      (pss_cons (ps_set (i:=8) sc__law_no_better.nd rfl (Or.inl rfl) (pe_callB (call_minL (K:=K) rfl rfl) (by rfl) T.min boot_min' (pa_cons (pe_comp ["_law_i","_law_owned","_law_parts","_law_rows","_law_way"] [none,some 7,some 5,some 6,some 1] rfl rfl rfl (pi_range1 rfl T.range (pa_cons (pe_callB (call_lenK (K:=K) rfl) (by rfl) T.len boot_len' (pa_cons (pv 1) pa_nil)) pa_nil)) (fun _ _ _ _=>(pg_name (i:=0) (by decide +kernel:(["_law_i","_law_owned","_law_parts","_law_rows","_law_way"]:List PySem.Str).Nodup) rfl (Or.inl rfl))) (fun _ _ _ _=>pifs_nil) (fun _ _ _ _=>(pe_op op_sub (pe_op op_mulW (pv 2) (pe_ix (ix_seqK (K:=K) rfl) (pv 1) (pv 0) (fun _ _=>rfl))) (pe_ix (ix_seqK (K:=K) rfl) (pv 3) (pe_ix (ix_seqK (K:=K) rfl) (pv 4) (pv 0) (fun _ _=>rfl)) (fun _ _=>rfl))))) pa_nil)))
      (pss_cons (ps_set (i:=9) sc__law_no_better.nd rfl (Or.inl rfl) (pe_callB (call_minL (K:=K) rfl rfl) (by rfl) T.min boot_min' (pa_cons (pe_comp ["_law_i","_law_owned","_law_way","_law_worst"] [none,some 7,some 1,some 3] rfl rfl rfl (pi_range1 rfl T.range (pa_cons (pe_callB (call_lenK (K:=K) rfl) (by rfl) T.len boot_len' (pa_cons (pv 1) pa_nil)) pa_nil)) (fun _ _ _ _=>(pg_name (i:=0) (by decide +kernel:(["_law_i","_law_owned","_law_way","_law_worst"]:List PySem.Str).Nodup) rfl (Or.inl rfl))) (fun _ _ _ _=>pifs_nil) (fun _ _ _ _=>(pe_op op_sub (pe_op op_mulW (pe_ix (ix_seqK (K:=K) rfl) (pv 3) pe_int (fun _ _=>rfl)) (pe_ix (ix_seqK (K:=K) rfl) (pv 1) (pv 0) (fun _ _=>rfl))) (pe_ix (ix_seqK (K:=K) rfl) (pe_ix (ix_seqK (K:=K) rfl) (pv 3) pe_int (fun _ _=>rfl)) (pe_ix (ix_seqK (K:=K) rfl) (pv 2) (pv 0) (fun _ _=>rfl)) (fun _ _=>rfl))))) pa_nil)))
      (pss_cons (ps_setC (i:=10) sc__law_no_better.nd rfl (Or.inl rfl) ["_law_r","_law_rows"] [none,some 6] rfl rfl rfl (pi_listK (K:=K) rfl (pv 1)) (fun _ _ _ _=>(pg_name (i:=0) (by decide +kernel:(["_law_r","_law_rows"]:List PySem.Str).Nodup) rfl (Or.inl rfl))) (fun _ _ _ _=>pifs_nil) (fun _ _ _ _=>(pe_ix (ix_seqK (K:=K) rfl) (pv 1) (pv 0) (fun _ _=>rfl))))
      (pss_cons (ps_setC (i:=11) sc__law_no_better.nd rfl (Or.inl rfl) ["_law_r","_law_even"] [none,some 4] rfl rfl rfl (pi_listK (K:=K) rfl (pv 1)) (fun _ _ _ _=>(pg_name (i:=0) (by decide +kernel:(["_law_r","_law_even"]:List PySem.Str).Nodup) rfl (Or.inl rfl))) (fun _ _ _ _=>pifs_nil) (fun _ _ _ _=>(pe_ix (ix_seqK (K:=K) rfl) (pe_ix (ix_seqK (K:=K) rfl) (pv 1) pe_int (fun _ _=>rfl)) (pv 0) (fun _ _=>rfl))))
      (pss_cons (ps_if (PW.pt (pw_or (pt_cmpR op_gt (pe_op op_mulW (pv 8) (pe_ix (ix_seqK (K:=K) rfl) (pv 3) pe_int (fun _ _=>rfl))) (pe_op op_mulW (pv 9) (pv 5)) (nomark _)) (pw_or1 (pt_cmpR op_gt (pe_op op_mulW (pe_callB (call_minL (K:=K) rfl rfl) (by rfl) T.min boot_min' (pa_cons (pv 10) pa_nil)) (pe_ix (ix_seqK (K:=K) rfl) (pv 4) pe_int (fun _ _=>rfl))) (pe_op op_mulW (pe_callB (call_minL (K:=K) rfl rfl) (by rfl) T.min boot_min' (pa_cons (pv 11) pa_nil)) (pv 5)) (nomark _))))) (pss_one (ps_ret pe_bl)) pss_nil)
      (pss_one (ps_ret (pe_cmpR op_ge (pe_op op_mulW (pe_op op_sub (pe_callB (call_maxL (K:=K) rfl rfl) (by rfl) T.max boot_max' (pa_cons (pv 10) pa_nil)) (pe_callB (call_minL (K:=K) rfl rfl) (by rfl) T.min boot_min' (pa_cons (pv 10) pa_nil))) (pe_ix (ix_seqK (K:=K) rfl) (pv 4) pe_int (fun _ _=>rfl))) (pe_op op_mulW (pe_op op_sub (pe_callB (call_maxL (K:=K) rfl rfl) (by rfl) T.max boot_max' (pa_cons (pv 11) pa_nil)) (pe_callB (call_minL (K:=K) rfl rfl) (by rfl) T.min boot_min' (pa_cons (pv 11) pa_nil))) (pv 5)) (nomark _))))))))))),?_⟩
    have hln:=ok.len
    have lb:=ok.bok.b1
    have lw10:=ok.bok.w1
    have kb:0 < k∧k≤10 ^ 20:=⟨F.k0,F.kB⟩
    have kwb:0 < kw∧kw≤10:=⟨FW.k0,FW.kB⟩
    have keb:0 < ke∧ke≤10:=⟨FE.k0,FE.kB⟩
    have Rb:∀ r,-(10 ^ 80)≤R.getD r 0∧R.getD r 0≤10 ^ 80:=fun r=>by have:=F.bd r; omega
    have Rwb:∀ r,-(10 ^ 80)≤Rw.getD r 0∧Rw.getD r 0≤10 ^ 80:=fun r=>by have:=FW.bd r; omega
    have Reb:∀ r,-(10 ^ 80)≤Re.getD r 0∧Re.getD r 0≤10 ^ 80:=fun r=>by have:=FE.bd r; omega
    have lT:∀ (k:Int) (R:List Int) i,levF true worths way k R i=k * ownF worths way i - R.getD (way.getD i 0) 0:=fun k R i=>by simp [levF]
    have lFl:∀ (k:Int) (R:List Int),((wI way).map fun z=>R.getD z.toNat 0)=(List.range worths.length).map (levF false worths way k R):=fun k R=>by
      refine List.ext_getElem (by simp [wI,hln]) fun i h1 h2=>?_
      have hi:i < way.length:=by simpa [wI] using h1
      simp [wI,levF,List.getD,hi]
    have lbT:∀ {k:Int} {R:List Int},(0 < k∧k≤10 ^ 20)→(∀ r,-(10 ^ 80)≤R.getD r 0∧R.getD r 0≤10 ^ 80)→∀ z∈(List.range worths.length).map (levF true worths way k R),-(10 ^ 81)≤z∧z≤10 ^ 81:=fun hk hR z hz=>by
      obtain ⟨i,_,rfl⟩:=List.mem_map.mp hz
      have h1:=own_bd hx way i
      have h2:=hR (way.getD i 0)
      have h3:=mulA_bd (x:=ownF worths way i) (A:=10 ^ 20) (B:=10 ^ 42) ⟨Int.le_of_lt hk.1,hk.2⟩ ⟨by omega,by omega⟩
      rw [lT]
      omega
    have lbF:∀ {k:Int} {R:List Int},(∀ r,-(10 ^ 80)≤R.getD r 0∧R.getD r 0≤10 ^ 80)→∀ z∈(List.range worths.length).map (levF false worths way k R),-(10 ^ 80)≤z∧z≤10 ^ 80:=fun hR z hz=>by
      obtain ⟨i,_,rfl⟩:=List.mem_map.mp hz
      have:=hR (way.getD i 0)
      simp only [levF]
      exact this
    have rat:∀ {R:List Int},R.length=beds.length→∀ i,i < worths.length→(R.map V.int)[way.getD i 0]? = some (.int (R.getD (way.getD i 0) 0)):=fun hR i hi=>by
      have h2:=(ok.at_ hi).2
      generalize way.getD i 0=r at *
      simp [List.getD,show r < _ from hR ▸ h2]
    have ratz:∀ {R:List Int},R.length=beds.length→∀ z∈wI way,∃ j:Nat,z=(j:Int)∧(R.map V.int)[j]? = some (.int (R.getD z.toNat 0)):=fun hR z hz=>by
      obtain ⟨r,hr,rfl⟩:=List.mem_map.mp hz
      have hr2:=ok.lt r hr
      refine ⟨r,rfl,?_⟩
      rw [Int.toNat_natCast]
      simp [List.getD,show r < _ from hR ▸ hr2]
    refine ⟨_,rfl,t,_,rfl,SqT.of F.tup,rfl,_,_,rfl,_,_,rfl,rfl,?_⟩
    walk_at "go"
    refine ⟨wy,_,rfl,.inl (SqL.of hwy),?_⟩
    rw [wI_len,hln]
    refine ⟨_,rfl,by omega,by omega,fun D1 hD1=>?_⟩
    rw [Int.toNat_natCast]
    refine compRangeV (fun i=>.int (ownF worths way i)) (by rw [sizeLine_eq]; omega) hD1 (fun i hi H3 N s3 hN=>?_) fun H1 s1 d1=>?_
    · rw [show (0:Int) + (i:Int)=(i:Int) by omega]
      obtain ⟨ws,ra,xs,r1,r2,r3,r4⟩:=own_row ok (hM.same s3) hi
      walk_at "go"
      refine ixL (SqL.of r1) (atI_int i rfl r2) ?_
      walk_at "go"
      refine ixL (SqL.of (s3 _ _ hwy)) (atI_int i rfl (wI_at (ok.at_ hi).1)) ?_
      refine ixL (SqL.of r3) (atI_int _ rfl r4) ?_
      exact hN _ (Same.refl _)
    have og:∀ i,i < worths.length→((List.range worths.length).map fun i=>V.int (ownF worths way i))[i]? = some (.int (ownF worths way i)):=fun i hi=>by simp [hi]
    refine stN (σ':=[some (.ref w),some (.ref wy),some (.ref t),some (.ref tw),some (.ref te),some (.int k),some (.ref l),some (.ref D1),none,none,none,none]) rfl ?_
    walk_at "go"
    refine ⟨wy,_,rfl,.inl (SqL.of (s1 _ _ hwy)),?_⟩
    rw [wI_len,hln]
    refine ⟨_,rfl,by omega,by omega,fun D2 hD2=>?_⟩
    rw [Int.toNat_natCast]
    refine compRangeV (fun i=>.int (levF true worths way k R i)) (by rw [sizeLine_eq]; omega) hD2 (fun i hi H3 N s3 hN=>?_) fun H2 s2 d2=>?_
    · rw [show (0:Int) + (i:Int)=(i:Int) by omega]
      have ob:=own_bd hx way i
      walk_at "go"
      refine ixL (SqL.of (s3 _ _ d1)) (atI_int i rfl (og i hi)) ?_
      refine ⟨_,_,rfl,rfl,⟨by omega,by omega⟩,?_⟩
      walk_at "go"
      refine ixL (SqL.of (s3 _ _ (s1 _ _ hwy))) (atI_int i rfl (wI_at (ok.at_ hi).1)) ?_
      walk_at "go"
      refine ixL (SqL.of (s3 _ _ (s1 _ _ F.lst))) (atI_int _ rfl (rat F.len i hi)) ?_
      refine ⟨_,_,rfl,rfl,?_⟩
      rw [lT] at hN
      exact hN _ (Same.refl _)
    have d2':H2 D2=some (.lst (((List.range worths.length).map (levF true worths way k R)).map V.int)):=by rw [d2,List.map_map]; rfl
    refine ⟨D2,_,rfl,SqL.of d2',by simp; omega,fun share hsh msh=>?_⟩
    have S2:=s1.trans s2
    have d12:=s2 _ _ d1
    refine stN (σ':=[some (.ref w),some (.ref wy),some (.ref t),some (.ref tw),some (.ref te),some (.int k),some (.ref l),some (.ref D1),some (.int share),none,none,none]) rfl ?_
    walk_at "go"
    refine ⟨wy,_,rfl,.inl (SqL.of (S2 _ _ hwy)),?_⟩
    rw [wI_len,hln]
    refine ⟨_,rfl,by omega,by omega,fun D3 hD3=>?_⟩
    rw [Int.toNat_natCast]
    refine compRangeV (fun i=>.int (levF true worths way kw Rw i)) (by rw [sizeLine_eq]; omega) hD3 (fun i hi H3 N s3 hN=>?_) fun H3 s3 d3=>?_
    · rw [show (0:Int) + (i:Int)=(i:Int) by omega]
      have ob:=own_bd hx way i
      have S3:=S2.trans s3
      walk_at "go"
      refine ixT (SqT.of (S3 _ _ FW.tup)) rfl ?_
      walk_at "go"
      refine ixL (SqL.of (s3 _ _ d12)) (atI_int i rfl (og i hi)) ?_
      refine ⟨_,_,rfl,rfl,⟨by omega,by omega⟩,?_⟩
      walk_at "go"
      refine ixT (SqT.of (S3 _ _ FW.tup)) rfl ?_
      walk_at "go"
      refine ixL (SqL.of (S3 _ _ hwy)) (atI_int i rfl (wI_at (ok.at_ hi).1)) ?_
      refine ixL (SqL.of (S3 _ _ FW.lst)) (atI_int _ rfl (rat FW.len i hi)) ?_
      refine ⟨_,_,rfl,rfl,?_⟩
      rw [lT] at hN
      exact hN _ (Same.refl _)
    have d3':H3 D3=some (.lst (((List.range worths.length).map (levF true worths way kw Rw)).map V.int)):=by rw [d3,List.map_map]; rfl
    refine ⟨D3,_,rfl,SqL.of d3',by simp; omega,fun best hbe mbe=>?_⟩
    have S3:=S2.trans s3
    refine stN (σ':=[some (.ref w),some (.ref wy),some (.ref t),some (.ref tw),some (.ref te),some (.int k),some (.ref l),some (.ref D1),some (.int share),some (.int best),none,none]) rfl ?_
    walk_at "go"
    refine ⟨⟨_,SqL.of (S3 _ _ hwy)⟩,fun D4 hD4=>?_⟩
    refine compMapV (wI way) (fun z=>.int (R.getD z.toNat 0)) (SqL.of (S3 _ _ hwy)) (by rw [sizeLine_eq]; simp [wI]; omega) hD4 (fun z hz H4 N s4 hN=>?_) fun H4 s4 d4=>?_
    · obtain ⟨j,ej,hj⟩:=ratz F.len z hz
      walk_at "go"
      exact ixL (SqL.of (s4 _ _ (S3 _ _ F.lst))) (atI_int j ej hj) (hN _ (Same.refl _))
    have d4':H4 D4=some (.lst (((List.range worths.length).map (levF false worths way k R)).map V.int)):=by rw [d4,← lFl,List.map_map]; rfl
    have S4:=S3.trans s4
    refine stN (σ':=[some (.ref w),some (.ref wy),some (.ref t),some (.ref tw),some (.ref te),some (.int k),some (.ref l),some (.ref D1),some (.int share),some (.int best),some (.ref D4),none]) rfl ?_
    walk_at "go"
    refine ⟨⟨_,SqL.of (S4 _ _ hwy)⟩,fun D5 hD5=>?_⟩
    refine compMapV (wI way) (fun z=>.int (Re.getD z.toNat 0)) (SqL.of (S4 _ _ hwy)) (by rw [sizeLine_eq]; simp [wI]; omega) hD5 (fun z hz H5 N s5 hN=>?_) fun H5 s5 d5=>?_
    · obtain ⟨j,ej,hj⟩:=ratz FE.len z hz
      walk_at "go"
      refine ixT (SqT.of (s5 _ _ (S4 _ _ FE.tup))) rfl ?_
      walk_at "go"
      exact ixL (SqL.of (s5 _ _ (S4 _ _ FE.lst))) (atI_int j ej hj) (hN _ (Same.refl _))
    have d5':H5 D5=some (.lst (((List.range worths.length).map (levF false worths way ke Re)).map V.int)):=by rw [d5,← lFl,List.map_map]; rfl
    have d45:=s5 _ _ d4'
    have S5:=S4.trans s5
    have bsh:=lbT kb Rb share hsh
    have bbe:=lbT ⟨kwb.1,by omega⟩ Rwb best hbe
    refine stN (σ':=[some (.ref w),some (.ref wy),some (.ref t),some (.ref tw),some (.ref te),some (.int k),some (.ref l),some (.ref D1),some (.int share),some (.int best),some (.ref D4),some (.ref D5)]) rfl ?_
    have W1:=gW.no_more ok l0 lowW kwb.1 kb.1 F.fair hbe mbe msh
    walk_at "go"
    refine ixT (SqT.of (S5 _ _ FW.tup)) rfl ?_
    refine ⟨_,_,rfl,rfl,⟨by omega,by omega⟩,?_⟩
    walk_at "go"
    refine iteE (decide_eq_false (by omega)) ?_
    walk_at "go"
    refine ⟨D4,_,rfl,SqL.of d45,by simp; omega,fun mp hmp mmp=>?_⟩
    have bmp:=lbF Rb mp hmp
    walk_at "go"
    refine ixT (SqT.of (S5 _ _ FE.tup)) rfl ?_
    refine ⟨_,_,rfl,rfl,⟨by omega,by omega⟩,?_⟩
    walk_at "go"
    refine ⟨D5,_,rfl,SqL.of d5',by simp; omega,fun me hme mme=>?_⟩
    have bme:=lbF Reb me hme
    have E1:=gE.no_more ok l0 lowE keb.1 kb.1 F.fair hme mme mmp
    walk_at "go"
    refine iteE (decide_eq_false (by omega)) ?_
    walk_at "go"
    refine ⟨D4,_,rfl,SqL.of d45,by simp; omega,fun xp hxp mxp=>?_⟩
    have bxp:=lbF Rb xp hxp
    walk_at "go"
    refine ⟨D4,_,rfl,SqL.of d45,by simp; omega,fun mp hmp mmp=>?_⟩
    have bmp:=lbF Rb mp hmp
    walk_at "go"
    refine ixT (SqT.of (S5 _ _ FE.tup)) rfl ?_
    refine ⟨_,_,rfl,rfl,⟨by omega,by omega⟩,?_⟩
    walk_at "go"
    refine ⟨D5,_,rfl,SqL.of d5',by simp; omega,fun xe hxe mxe=>?_⟩
    have bxe:=lbF Reb xe hxe
    walk_at "go"
    refine ⟨D5,_,rfl,SqL.of d5',by simp; omega,fun me hme mme=>?_⟩
    have bme:=lbF Reb me hme
    have E2:=gE.no_wider ok l0 lowE keb.1 kb.1 F.fair hxe mxe hme mme mxp mmp
    walk_at "go"
    show Q (.bl (decide ((xe - me) * k≤(xp - mp) * ke))) H5
    rw [decide_eq_true E2]
    exact q _ S5
theorem D_law {CH CWorst CEven PT PT2:Addr} (hPT:PT2≠PT) (T:Txt mg) (HC:HCls K mg CH) (HWorst:AimCls K mg CWorst "Worst") (HEven:AimCls K mg CEven "Even") (S:Src K mg "law" "law" s_law) (M__init__:MDef P w K mg base 1 CH "__init__" ["self","beds","worths","rent"] (sp_init CH)) (MWorst___init__:MDef P w K mg base 1 CWorst "__init__" ["self","house","way"] (sp_ainit CH CWorst)) (MEven___init__:MDef P w K mg base 1 CEven "__init__" ["self","house","way"] (sp_ainit CH CEven)) (D_law_mixed:Def P w K mg base 1 "_law_mixed" ["_law_cell","_law_k"] sp_mixed) (D_law_cell_at:Def P w K mg base 1 "_law_cell_at" ["_law_script","_law_k"] (sp_cell K)) (D_law_house:Def P w K mg base 3 "_law_house" ["_law_script","_law_most_people","_law_most_rooms"] (sp_house K)) (D_law_copy:Def P w K mg base 1 "_law_copy" ["_law_rows"] (sp_copy K)) (Dbest_way:Def P w K mg base 5 "best_way" ["house"] (sp_best2 K CH PT lamPos "bring_in.<locals>.<lambda>")) (Ddivide:Def P w K mg base 10 "divide" ["aim"] (sp_divide CH CWorst CEven PT2 lamPos2 "best_room.<locals>.<lambda>")) (D_law_led_by:Def P w K mg base 3 "_law_led_by" ["_law_beds_here","_law_worths_here","_law_rent","_law_way","_law_j"] sp_lledby) (D_law_mean:Def P w K mg base 1 "_law_mean" ["_law_one","_law_other","_law_k","_law_m"] sp_lmean) (D_law_fair:Def P w K mg base 1 "_law_fair" ["_law_beds_here","_law_worths_here","_law_rent","_law_way","_law_parts","_law_rows"] sp_lfair) (D_law_no_better:Def P w K mg base 1 "_law_no_better" ["_law_worths_here","_law_way","_law_prices","_law_worst","_law_even"] sp_lnobetter):Def P w K mg base 11 "law" ["_law_script"] (sp_lawT2 K PT lamPos "bring_in.<locals>.<lambda>" PT2 lamPos2 "best_room.<locals>.<lambda>"):=by
  refine S.mk' sc_law (fun vs H Q E h=>?_) (fun _ _ _ _ _ _ us hl=>match us,hl with | [_],_=>rfl) (fun f cdv A outer s H vs Q E hr h=>?_)
  · obtain ⟨a,ns,rfl,_⟩:=h
    rfl
  · obtain ⟨a,ns,rfl,hS,hlen,hL,hL2,q⟩:=h
    refine ⟨_,(pss_cons (ps_set (i:=1) sc_law.nd rfl (Or.inl rfl) (pe_def D_law_mixed (hr.mono (by decide)) rfl (pa_cons (pe_def D_law_cell_at (hr.mono (by decide)) rfl (pa_cons (pv 0) (pa_cons pe_int pa_nil))) (pa_cons pe_int pa_nil))))
      (pss_cons (ps_asg (pe_def D_law_house (hr.mono (by decide)) rfl (pa_cons (pv 0) (pa_cons pe_int (pa_cons pe_int pa_nil)))) (pg_tupK (K:=K) (n:=3) rfl rfl (pgs_cons (pg_name (i:=2) sc_law.nd rfl (Or.inl rfl)) (pgs_cons (pg_name (i:=3) sc_law.nd rfl (Or.inl rfl)) (pgs_cons (pg_name (i:=4) sc_law.nd rfl (Or.inl rfl)) pgs_nil)))))
      (pss_cons (ps_set (i:=5) sc_law.nd rfl (Or.inl rfl) (pe_mk M__init__ HC.mks HC.kp HC.mgC (hr.mono (by decide)) rfl (pa_cons (pe_callTy (call_list_ofK (K:=K) rfl) (by rfl) T.list boot_list' (pa_cons (pv 2) pa_nil)) (pa_cons (pe_def D_law_copy (hr.mono (by decide)) rfl (pa_cons (pv 3) pa_nil)) (pa_cons (pv 4) pa_nil)))))
      (pss_cons (ps_set (i:=6) sc_law.nd rfl (Or.inl rfl) (pe_def Dbest_way (hr.mono (by decide)) rfl (pa_cons (pv 5) pa_nil)))
      (pss_cons (ps_set (i:=7) sc_law.nd rfl (Or.inl rfl) (pe_ix (ix_seqK (K:=K) rfl) (pe_def Ddivide (hr.mono (by decide)) rfl (pa_cons (pe_mk MWorst___init__ HWorst.mks HWorst.kp HWorst.mgC (hr.mono (by decide)) rfl (pa_cons (pv 5) (pa_cons (pe_callTy (call_list_ofK (K:=K) rfl) (by rfl) T.list boot_list' (pa_cons (pv 6) pa_nil)) pa_nil))) pa_nil)) pe_int (fun _ _=>rfl)))
      (pss_cons (ps_set (i:=8) sc_law.nd rfl (Or.inl rfl) (pe_ix (ix_seqK (K:=K) rfl) (pe_def Ddivide (hr.mono (by decide)) rfl (pa_cons (pe_mk MEven___init__ HEven.mks HEven.kp HEven.mgC (hr.mono (by decide)) rfl (pa_cons (pv 5) (pa_cons (pe_callTy (call_list_ofK (K:=K) rfl) (by rfl) T.list boot_list' (pa_cons (pv 6) pa_nil)) pa_nil))) pa_nil)) pe_int (fun _ _=>rfl)))
      (pss_cons (ps_set (i:=9) sc_law.nd rfl (Or.inl rfl) (pe_lst' (pa_cons (pv 7) (pa_cons (pv 8) (pa_cons (pe_def D_law_mean (hr.mono (by decide)) rfl (pa_cons (pv 7) (pa_cons (pv 8) (pa_cons (pe_op op_add pe_int (pe_op op_mod (pv 1) pe_int)) (pa_cons (pe_op op_add pe_int (pe_op op_mod (pe_op op_fdivW (pv 1) pe_int) pe_int)) pa_nil))))) pa_nil)))))
      (pss_cons (ps_for PassesOwn.never rfl (pi_range1 rfl T.range (pa_cons (pe_callB (call_lenK (K:=K) rfl) (by rfl) T.len boot_len' (pa_cons (pv 6) pa_nil)) pa_nil)) (pg_name (i:=10) sc_law.nd rfl (Or.inl rfl))
      (pss_cons (ps_set (i:=11) sc_law.nd rfl (Or.inl rfl) (pe_def D_law_led_by (hr.mono (by decide)) rfl (pa_cons (pv 2) (pa_cons (pv 3) (pa_cons (pv 4) (pa_cons (pv 6) (pa_cons (pv 10) pa_nil)))))))
      (pss_cons (ps_expr (pe_bmK (K:=K) rfl PySem.F.plainAttrs_list PySem.F.slot_list_append PySem.F.type_list_append mt_append (pv 9) (pa_cons (pv 11) pa_nil)))
      (pss_one (ps_expr (pe_bmK (K:=K) rfl PySem.F.plainAttrs_list PySem.F.slot_list_append PySem.F.type_list_append mt_append (pv 9) (pa_cons (pe_def D_law_mean (hr.mono (by decide)) rfl (pa_cons (pv 11) (pa_cons (pe_ix (ix_seqK (K:=K) rfl) (pv 9) (pe_op op_mod (pe_op op_fdivW (pv 1) pe_int) (pe_callB (call_lenK (K:=K) rfl) (by rfl) T.len boot_len' (pa_cons (pv 9) pa_nil))) (fun _ _=>rfl)) (pa_cons (pe_op op_add pe_int (pe_op op_mod (pe_op op_fdivW (pv 1) pe_int) pe_int)) (pa_cons pe_int pa_nil))))) pa_nil)))))))
      (pss_cons (ps_for PassesOwn.never rfl (pi_listK (K:=K) rfl (pv 9)) (pg_name (i:=12) sc_law.nd rfl (Or.inl rfl))
      (pss_cons (ps_if (pt_not (pt_val (pe_def D_law_fair (hr.mono (by decide)) rfl (pa_cons (pv 2) (pa_cons (pv 3) (pa_cons (pv 4) (pa_cons (pv 6) (pa_cons (pe_ix (ix_seqK (K:=K) rfl) (pv 12) pe_int (fun _ _=>rfl)) (pa_cons (pe_ix (ix_seqK (K:=K) rfl) (pv 12) pe_int (fun _ _=>rfl)) pa_nil))))))))) (pss_one (ps_ret pe_bl)) pss_nil)
      (pss_one (ps_if (pt_not (pt_val (pe_def D_law_no_better (hr.mono (by decide)) rfl (pa_cons (pv 3) (pa_cons (pv 6) (pa_cons (pv 12) (pa_cons (pv 7) (pa_cons (pv 8) pa_nil)))))))) (pss_one (ps_ret pe_bl)) pss_nil))))
      (pss_one (ps_ret pe_bl))))))))))),?_⟩
    walk_at "go"
    refine ⟨a,ns,_,rfl,hS,by decide,fun z0=>?_⟩
    walk_at "go"
    refine ⟨z0,_,rfl,by decide,by decide,fun fi f0 f1=>?_⟩
    walk_at "go"
    refine ⟨a,ns,_,_,rfl,hS,hlen,by decide,by decide,by decide,by decide,fun t b0 w0 beds worths rent H1 s1 ht hb0 hM0 ok=>?_⟩
    refine ⟨t,_,rfl,SqT.of ht,rfl,_,_,rfl,_,_,rfl,_,_,rfl,rfl,?_⟩
    have w6:worths.length≤6:=by have:=ok.w2; omega
    have hbl:beds.length≤10:=by have:=ok.b2; omega
    have hwl:worths.length≤10:=by have:=ok.w2; omega
    have hw1:1≤worths.length:=by have:=ok.w1; omega
    have hb0':∀ b∈beds,0≤b:=fun b hb=>by have:=ok.b3 b hb; omega
    have hb1':∀ b∈beds,1≤b:=fun b hb=>by have:=ok.b3 b hb; omega
    have bok:BestOk beds worths:=⟨hbl,hwl,ok.w4⟩
    have hx42:∀ row∈worths,∀ z∈row,-(10 ^ 42) < z∧z < 10 ^ 42:=fun row hr z hz=>by have:=ok.w5 row hr z hz; omega
    have hre:-(10 ^ 42) < rent∧rent < 10 ^ 42:=by have:=ok.r; omega
    refine ⟨_,rfl,b0,_,rfl,.inl (SqL.of hb0),fun b1 H2 n2=>?_⟩
    refine ⟨_,rfl,w0,worths,rfl,hM0.same n2.same,by omega,fun D H3 s3 fD hM3=>?_⟩
    have S3:Same H1 H3:=n2.same.trans s3
    refine ⟨_,rfl,?_⟩
    refine fun x dx nx ndx nex=>?_
    have s0:Same H3 (upd (upd H3 dx (.own x)) x (.ins CH dx [])):=fun c o e=>by
      rw [upd_ne (ne_of_none e nx),upd_ne (ne_of_none e ndx)]
      exact e
    refine ⟨x,dx,b1,D,beds,worths,rent,rfl,upd_same,s0 _ _ (s3 _ _ n2.at_),hM3.same s0,by omega,by omega,ok.w3,fun H4 hA4 kp=>⟨rfl,?_⟩⟩
    have S4:Same H1 H4:=S3.trans fun c o e=>kp c o (s0 _ _ e) (ne_of_none e nx)
    have hb4:=S4 _ _ hb0
    have hM4:=hM0.same S4
    have hL4:=(hL.same s1).same S4
    have hL24:=(hL2.same s1).same S4
    refine ⟨_,rfl,x,beds,worths,rent,rfl,hA4,bok,ok.w3,hb0',hL4,fun wy way H5 s5 so5 f5 h5 hL5 ln fit opt=>?_⟩
    have hL25:LamAt H5 PT2 lamPos2 "best_room.<locals>.<lambda>" := hL24.o hL4.tbl hPT so5
    have aok:AimOk beds worths way:=⟨bok,ln,fit_lt fit⟩
    have hA5:=hA4.sameB s5
    have hM5:=hM4.sameB s5
    have hb5:=s5.to _ _ hb4 rfl
    have l0:0 < worths.length:=by omega
    refine stN (σ':=[some (.ref a),some (.int fi),some (.ref b0),some (.ref w0),some (.int rent),some (.ref x),some (.ref wy),none,none,none,none,none,none]) rfl ?_
    refine ⟨_,rfl,_,rfl,wy,_,rfl,.inl (SqL.of h5),fun wc6 H6 n6=>?_⟩
    refine fun xa da nxa nda nea=>?_
    have sa:Same H6 (upd (upd H6 da (.own xa)) xa (.ins CWorst da [])):=fun c o e=>by
      rw [upd_ne (ne_of_none e nxa),upd_ne (ne_of_none e nda)]
      exact e
    refine ⟨xa,da,x,wc6,beds,worths,rent,way,rfl,upd_same,(hA5.same n6.same).same sa,sa _ _ n6.at_,fun wa7 H7 f7 p7 w7 kp7=>⟨rfl,?_⟩⟩
    have s7:Same H5 H7:=n6.same.trans fun c o e=>kp7 c o (sa _ _ e) (ne_of_none e nxa)
    have aim7:AimAt CH (CC CWorst CEven true) H7 xa beds worths rent way:=⟨da,x,wa7,p7,hA5.same s7,w7⟩
    refine ⟨true,xa,beds,worths,rent,way,rfl,aim7,aok,fit,opt,hL25.same s7,by omega,hx42,fun tW tpW rlW clW hW stW rowsW H8 s8 so8 hL8 _ _ _ _ gW=>?_⟩
    clear kp7 sa
    walk_at "go"
    refine ixT (SqT.of gW.tup) rfl ?_
    obtain ⟨dW,kW,RW,FW,lowW⟩:=gW.fairT aok fit opt hb1' l0 hx42 hre
    have rW:=gW.r
    clear gW
    have S8:SameB H5 H8:=s7.b.trans s8
    have hA8:=hA5.sameB S8
    refine stN (σ':=[some (.ref a),some (.int fi),some (.ref b0),some (.ref w0),some (.int rent),some (.ref x),some (.ref wy),some (.ref tpW),none,none,none,none,none]) rfl ?_
    refine ⟨_,rfl,_,rfl,wy,_,rfl,.inl (SqL.of (S8.to _ _ h5 rfl)),fun wc9 H9 n9=>?_⟩
    refine fun xe de nxe nde nee=>?_
    have se:Same H9 (upd (upd H9 de (.own xe)) xe (.ins CEven de [])):=fun c o e=>by
      rw [upd_ne (ne_of_none e nxe),upd_ne (ne_of_none e nde)]
      exact e
    refine ⟨xe,de,x,wc9,beds,worths,rent,way,rfl,upd_same,(hA8.same n9.same).same se,se _ _ n9.at_,fun wa10 H10 f10 p10 w10 kp10=>⟨rfl,?_⟩⟩
    have s10:Same H8 H10:=n9.same.trans fun c o e=>kp10 c o (se _ _ e) (ne_of_none e nxe)
    have aim10:AimAt CH (CC CWorst CEven false) H10 xe beds worths rent way:=⟨de,x,wa10,p10,hA8.same s10,w10⟩
    refine ⟨false,xe,beds,worths,rent,way,rfl,aim10,aok,fit,opt,hL8.same s10,by omega,hx42,fun tE tpE rlE clE hE stE rowsE H11 s11 so11 hL11 _ _ _ _ gE=>?_⟩
    clear kp10 se
    walk_at "go"
    refine ixT (SqT.of gE.tup) rfl ?_
    obtain ⟨dE,kE,RE,FE,lowE⟩:=gE.fairT aok fit opt hb1' l0 hx42 hre
    have rE:=gE.r
    clear gE
    have FW11:=(FW.same s10).sameB s11
    have S11:SameB H5 H11:=(S8.trans s10.b).trans s11
    have hb11:=S11.to _ _ hb5 rfl
    have hM11:=hM5.sameB S11
    have hwy11:=S11.to _ _ h5 rfl
    clear FW hA8 aim7 aim10
    refine stN (σ':=[some (.ref a),some (.int fi),some (.ref b0),some (.ref w0),some (.int rent),some (.ref x),some (.ref wy),some (.ref tpW),some (.ref tpE),none,none,none,none]) rfl ?_
    walk_at "go"
    refine ⟨tpW,tpE,rlW,rlE,beds,worths,rent,way,10,10,kW,kE,_,_,RW,RE,rfl,FW11,FE,by omega,by omega,by omega,⟨by omega,by omega⟩,⟨by omega,by omega⟩,fun tM lM kM RM H12 s12 FM=>?_⟩
    refine ⟨len_small (by simp),fun so H13 n13=>?_⟩
    have FW12:=FW11.same s12
    have FE12:=FE.same s12
    have S13:Same H11 H13:=s12.trans n13.same
    refine stN (σ':=[some (.ref a),some (.int fi),some (.ref b0),some (.ref w0),some (.int rent),some (.ref x),some (.ref wy),some (.ref tpW),some (.ref tpE),some (.ref so),none,none,none]) rfl ?_
    walk_at "go"
    refine ⟨wy,_,rfl,.inl (SqL.of (S13 _ _ hwy11)),?_⟩
    rw [wI_len,ln]
    refine ⟨_,rfl,by omega,by omega,?_⟩
    rw [Int.toNat_natCast]
    refine for_range (fun i σ H' => ∃ (o10 o11:Option V) (ts:List Addr),σ=[some (.ref a),some (.int fi),some (.ref b0),some (.ref w0),some (.int rent),some (.ref x),some (.ref wy),some (.ref tpW),some (.ref tpE),some (.ref so),o10,o11,none]∧Same H12 H'∧H' so=some (.lst (ts.map V.ref))∧0 < ts.length∧ts.length≤3 + 2 * i∧∀ t∈ts,∃ l k R,FairT beds worths rent way (1400 * 140 ^ i) H' t l k R) ⟨_,_,[tpW,tpE,tM],rfl,n13.same,n13.at_,by simp,by simp,fun t ht=>?_⟩ ?_ ?_
    · have ht':t=tpW∨t=tpE∨t=tM:=by simpa using ht
      rcases ht' with rfl | rfl | rfl
      · exact ⟨_,_,_,(FW12.same n13.same).wide (by decide)⟩
      · exact ⟨_,_,_,(FE12.same n13.same).wide (by decide)⟩
      · exact ⟨_,_,_,(FM.same n13.same).wide (by decide)⟩
    · rintro i σ H14 hi ⟨o10,o11,ts,rfl,s14,hso,ts0,tsl,hts⟩
      rw [show (0:Int) + (i:Int)=(i:Int) by omega]
      have S14:Same H11 H14:=s12.trans s14
      walk_at "go"
      refine ⟨b0,w0,wy,beds,worths,rent,way,i,stW.1,rfl,S14 _ _ hb11,hM11.same S14,S14 _ _ hwy11,aok,fit,opt,hb1',hx42,hre,rW.cl_,hi,fun tL lL kL RL H15 s15 FL=>?_⟩
      have hso15:=s15 _ _ hso
      refine stN (σ':=[some (.ref a),some (.int fi),some (.ref b0),some (.ref w0),some (.int rent),some (.ref x),some (.ref wy),some (.ref tpW),some (.ref tpE),some (.ref so),some (.int (i:Int)),some (.ref tL),none]) rfl ?_
      walk_at "go"
      refine ⟨.inl ⟨rfl,_,SqL.of hso15⟩,?_⟩
      walk_at "go"
      refine ⟨so,_,_,rfl,rfl,hso15,by rw [sizeLine_eq]; simp; omega,?_⟩
      have m1:=m140 i
      have hso16:upd H15 so (.lst (ts.map V.ref ++ [V.ref tL])) so=some (.lst ((ts ++ [tL]).map V.ref)):=by rw [upd_same,List.map_append]; rfl
      have S16:Same H12 (upd H15 so (.lst (ts.map V.ref ++ [V.ref tL]))):=fun c o e=>by
        rw [upd_ne (ne_of_none e n13.none)]
        exact s15 _ _ (s14 _ _ e)
      have FL16:FairT beds worths rent way 10 (upd H15 so (.lst (ts.map V.ref ++ [V.ref tL]))) tL lL kL RL:=FL.upd hso15 ts0
      have hts16:∀ t∈ts ++ [tL],∃ l k R,FairT beds worths rent way (1400 * 140 ^ i) (upd H15 so (.lst (ts.map V.ref ++ [V.ref tL]))) t l k R:=fun t ht=>by
        rcases List.mem_append.mp ht with h | h
        · obtain ⟨l,k,R,h2⟩:=hts t h
          exact ⟨l,k,R,(h2.same s15).upd hso15 ts0⟩
        · have:=List.mem_singleton.mp h
          subst this
          exact ⟨_,_,_,FL16.wide m1.2⟩
      clear hts FL hso15 hso s15
      generalize upd H15 so (.lst (ts.map V.ref ++ [V.ref tL]))=H16 at *
      obtain ⟨ts2,ets2⟩:∃ ts2,ts2=ts ++ [tL]:=⟨_,rfl⟩
      have l2:ts2.length=ts.length + 1:=by rw [ets2]; simp
      rw [← ets2] at hso16 hts16
      clear ets2
      walk_at "go"
      refine ⟨.inl ⟨rfl,_,SqL.of hso16⟩,?_⟩
      walk_at "go"
      refine ⟨so,_,rfl,.inl (SqL.of hso16),?_⟩
      rw [List.length_map]
      refine ⟨_,_,rfl,rfl,(show (0:Int) < (ts2.length:Int) by omega),?_⟩
      obtain ⟨p,hp⟩:∃ p:Nat,fi / 50 % (ts2.length:Int)=(p:Int):=⟨(fi / 50 % (ts2.length:Int)).toNat,by
        have:=Int.emod_nonneg (fi / 50) (show (ts2.length:Int)≠0 by omega)
        omega⟩
      have hpl:p < ts2.length:=by
        have:=Int.emod_lt_of_pos (fi / 50) (show (0:Int) < (ts2.length:Int) by omega)
        omega
      refine ixL (SqL.of hso16) (atI_int p hp (show (ts2.map V.ref)[p]? = some (.ref ts2[p]) by simp [hpl])) ?_
      obtain ⟨l2',k2,R2,F2⟩:=hts16 _ (List.getElem_mem hpl)
      walk_at "go"
      refine ⟨tL,ts2[p],lL,l2',beds,worths,rent,way,10,1400 * 140 ^ i,kL,k2,_,_,RL,R2,rfl,FL16,F2,by omega,b140 (by omega),by omega,⟨by omega,by omega⟩,⟨by omega,by omega⟩,fun tN lN kN RN H17 s17 FN=>?_⟩
      have hso17:=s17 _ _ hso16
      refine ⟨so,_,_,rfl,rfl,hso17,by rw [sizeLine_eq]; simp; omega,?_⟩
      refine ⟨_,_,ts2 ++ [tN],rfl,fun c o e=>?_,by rw [upd_same,List.map_append]; rfl,by simp,by simp; omega,fun t ht=>?_⟩
      · rw [upd_ne (ne_of_none e n13.none)]
        exact s17 _ _ (S16 _ _ e)
      · rcases List.mem_append.mp ht with h | h
        · obtain ⟨l,k,R,h2⟩:=hts16 t h
          exact ⟨l,k,R,((h2.same s17).upd hso17 (by omega)).wide m1.1⟩
        · have:=List.mem_singleton.mp h
          subst this
          rw [n140] at FN
          exact ⟨_,_,_,FN.upd hso17 (by omega)⟩
    rintro σ H14 ⟨o10,o11,ts,rfl,s14,hso,ts0,tsl,hts⟩
    have S14:Same H11 H14:=s12.trans s14
    have hts':∀ t∈ts,∃ l k R,FairT beds worths rent way (10 ^ 20) H14 t l k R:=fun t ht=>by
      obtain ⟨l,k,R,h⟩:=hts t ht
      exact ⟨l,k,R,h.wide (b140 w6)⟩
    clear hts
    walk_at "go"
    refine ⟨⟨_,SqL.of hso⟩,?_⟩
    refine for_list (xs:=ts.map V.ref) (fun i σ H'=>(∃ o12:Option V,σ=[some (.ref a),some (.int fi),some (.ref b0),some (.ref w0),some (.int rent),some (.ref x),some (.ref wy),some (.ref tpW),some (.ref tpE),some (.ref so),o10,o11,o12])∧Same H14 H') ⟨⟨_,rfl⟩,Same.refl _⟩ (fun i σ H' _ h=>SqL.of (h.2 _ _ hso)) ?_ ?_
    · rintro i y σ H15 hy ⟨⟨o12,rfl⟩,s15⟩
      obtain ⟨t,hti,rfl⟩:∃ t,t∈ts∧y=.ref t:=by
        obtain ⟨t,h1,h2⟩:=List.mem_map.mp (List.mem_of_getElem? hy)
        exact ⟨t,h1,h2.symm⟩
      clear hy
      obtain ⟨l,k,R,F0⟩:=hts' t hti
      have F:=F0.same s15
      have S15:=S14.trans s15
      have fok:FpOk' ⟨beds,worths,rent,way,k,R⟩:=⟨hbl,hwl,ok.w4,F.len,ln,fit,⟨by have:=F.k0; show -(10 ^ 100) < k; omega,by have:=F.kB; show k < 10 ^ 100; omega⟩,⟨by show -(10 ^ 100) < rent; omega,by show rent < 10 ^ 100; omega⟩,fun row hr z hz=>by have:=hx42 row hr z hz; omega⟩
      walk_at "go"
      refine ixT (SqT.of F.tup) rfl ?_
      walk_at "go"
      refine ixT (SqT.of F.tup) rfl ?_
      refine ⟨b0,w0,wy,l,⟨beds,worths,rent,way,k,R⟩,rfl,S15 _ _ hb11,hM11.same S15,S15 _ _ hwy11,F.lst,fok,l0,F.fair,fun H16 s16=>?_⟩
      have S16:=S15.trans s16
      walk_at "go"
      refine ⟨w0,wy,t,l,tpW,rlW,tpE,rlE,beds,worths,rent,way,k,kW,kE,dW,dE,R,RW,RE,rowsW,rowsE,hW,hE,stW,stE,rfl,hM11.same S16,S16 _ _ hwy11,aok,l0,hx42,F.same s16,(FW11.same S16),(FE.same S16),rW,lowW,rE,lowE,fun H17 s17=>?_⟩
      walk_at "go"
      exact ⟨⟨_,rfl⟩,(s15.trans s16).trans s17⟩
    rintro σ H15 ⟨⟨o12,rfl⟩,s15⟩
    walk_at "go"
    exact q H15
end
theorem walkT2 {l:PySem.W.OpenLaw} {q:Program} {loose:List Str} {XP:(Str→Option Value)→Heap→Prop} {YP:World→Heap→Prop} {d:DefRec} {K:Params→PySem.W.Frag} {Pa Pb:Addr} (hn:l.most=some 63) (hdf:d.params.defaults=[])
    (hY:∀ (w:World) (h:Heap),YP w h→(K w.params).In h∧∀ P∈[Pb,Pa],h.get? P=some (PySem.W.tabObj #[])) (hcd:∀ w:World,([Pb,Pa].all fun P=>(K w.params).any fun p=>PySem.W.codeHdIn (K w.params) p.1 P)=true) (hnt:∀ w:World,PySem.W.noTabs (K w.params)=true)
    (F:∀ (w:World) (mg:Str→Option Value) (fa:Addr) (h:Heap),(K w.params).In h→h.Ns mainGlobals mg→mg d.name=some (.ref fa) →
      ∃ fd:FuncData,(∀ (s:Shared) (u:Value),BindsTo s fd ⟨[u],[]⟩ [("_law_script",u)])∧∀ base:Heap,(K w.params).In base→base.Ns mainGlobals mg→(∀ P∈[Pb,Pa],base.BuiltinsAt mg P)→FnOk l.prog w (K w.params) mg base CX0 11 fa fd ["_law_script"] (sp_lawT2 (K w.params) Pa lamPos "bring_in.<locals>.<lambda>" Pb lamPos2 "best_room.<locals>.<lambda>")) :
    PySem.W.WalkO q loose XP YP l.row.toRowW d [] (fun f vs=>PySem.call f vs) :=
  L2.walk_ofT (ts:=[Pb,Pa]) (n:=63) (k:=11) (x:="_law_script") (sp:=fun w=>sp_lawT2 (K w.params) Pa lamPos "bring_in.<locals>.<lambda>" Pb lamPos2 "best_room.<locals>.<lambda>") hn (by decide) hdf ⟨rfl,by decide,by decide⟩ hY hcd hnt F (fun _ _ a ns hl hb hT hS=>⟨a,ns,rfl,hS,hl,.inl (hT Pa (List.mem_cons_of_mem _ List.mem_cons_self)),.inl (hT Pb List.mem_cons_self),fun _=>rfl⟩)
end My
def PySem.W.Fast.tw14748945342811705488:Unit:=()
def PySem.W.Fast.tw6125341735610110161:Unit:=()
def PySem.W.Fast.tw13325086173614093430:Unit:=()
def PySem.W.Fast.tw5778217284582479540:Unit:=()
def PySem.W.Fast.tw13711144849984421554:Unit:=()
def PySem.W.Fast.tw17802847872517360676:Unit:=()
def PySem.W.Fast.tw1244676962880383020:Unit:=()
def PySem.W.Fast.tw16744932709544973088:Unit:=()
def PySem.W.Fast.tw17268883539811667999:Unit:=()
def PySem.W.Fast.tw279962152207657838:Unit:=()
def PySem.W.Fast.tw1142486121418307120:Unit:=()
def PySem.W.Fast.tw17600187756333646115:Unit:=()
def PySem.W.Fast.tw797616256498479055:Unit:=()
def PySem.W.Fast.tw577367033235817579:Unit:=()
def PySem.W.Fast.tw10038734828491871855:Unit:=()
def PySem.W.Fast.tw7699548875599031645:Unit:=()
def PySem.W.Fast.tw13765020682000958764:Unit:=()
def PySem.W.Fast.tw15323144164415832249:Unit:=()
def PySem.W.Fast.tw5613339139340394472:Unit:=()
def PySem.W.Fast.tw1096355021475437738:Unit:=()
def PySem.W.Fast.tw15309728747673838225:Unit:=()
def PySem.W.Fast.tw9374225316586927784:Unit:=()
def PySem.W.Fast.tw9169862449138377354:Unit:=()
def PySem.W.Fast.tw16798966189179675634:Unit:=()
def PySem.W.Fast.tw4383974277545928811:Unit:=()
def PySem.W.Fast.tw5479187921693722316:Unit:=()
def PySem.W.Fast.tw383392713528057779:Unit:=()
def PySem.W.Fast.tw6537979878294970929:Unit:=()
def PySem.W.Fast.tw17983667470447398912:Unit:=()
def PySem.W.Fast.tw7711092639892973010:Unit:=()
def PySem.W.Fast.tw3715638832265252821:Unit:=()
def PySem.W.Fast.tw9736134855012808400:Unit:=()
def PySem.W.Fast.tw10404210352087132246:Unit:=()
def PySem.W.Fast.tw1741105461469582481:Unit:=()
def PySem.W.Fast.tw1684348264528040252:Unit:=()
def PySem.W.Fast.tw11681588885301774807:Unit:=()
def PySem.W.Fast.tw12664137897801418124:Unit:=()
def PySem.W.Fast.tw9314501544230525156:Unit:=()
def PySem.W.Fast.tw4188508943575736456:Unit:=()
def PySem.W.Fast.tw13928837719191114838:Unit:=()
def PySem.W.Fast.tw6273638251642257540:Unit:=()
def PySem.W.Fast.tw5363309825515958940:Unit:=()
def PySem.W.Fast.tw9329983016433244413:Unit:=()
def PySem.W.Fast.tw6219741286007854136:Unit:=()
def PySem.W.Fast.tw12453888028419007678:Unit:=()
def PySem.W.Fast.tw9667648347998139789:Unit:=()
def PySem.W.Fast.tw4209436637046316456:Unit:=()
def PySem.W.Fast.tw4138767509660810797:Unit:=()
def PySem.W.Fast.tw16816869032110654632:Unit:=()
def PySem.W.Fast.tw10912447586669680296:Unit:=()
def PySem.W.Fast.tw8513012119527175815:Unit:=()
def PySem.W.Fast.tw12862968945589520461:Unit:=()
def PySem.W.Fast.tw11096869147239166842:Unit:=()
def PySem.W.Fast.tw17472347511828830045:Unit:=()
def PySem.W.Fast.tw16387536315339059177:Unit:=()
def PySem.W.Fast.tw13981064092123329109:Unit:=()
def PySem.W.Fast.tw16072704215860738791:Unit:=()
def PySem.W.Fast.tw7036767027431309262:Unit:=()
def PySem.W.Fast.tw5935603934401225209:Unit:=()
def PySem.W.Fast.tw13773534112681599328:Unit:=()
def PySem.W.Fast.tw102446590597140774:Unit:=()
def PySem.W.Fast.tw14671788142767263346:Unit:=()
def PySem.W.Fast.tw16586243629444302370:Unit:=()
def PySem.W.Fast.tw7512432778448269713:Unit:=()
def PySem.W.Fast.tw14048117374636338085:Unit:=()
def PySem.W.Fast.tw12059861187563500578:Unit:=()
def PySem.W.Fast.tw1552875442084610426:Unit:=()
def PySem.W.Fast.tw5523538077723144156:Unit:=()
def PySem.W.Fast.tw12322228422768992303:Unit:=()
def PySem.W.Fast.tw4805735080499463091:Unit:=()
def PySem.W.Fast.tw3361699737318138131:Unit:=()
def PySem.W.Fast.tw4677749642355313917:Unit:=()
def PySem.W.Fast.tw17718873937012552693:Unit:=()
def PySem.W.Fast.tw5127897913407637964:Unit:=()
def PySem.W.Fast.tw7316809494173239501:Unit:=()
def PySem.W.Fast.tw5883129396978253525:Unit:=()
open PySem PySem.W PyProof.Rows
set_option maxRecDepth 100000 in
set_option maxHeartbeats 0 in
theorem PySem.Challenge.cw_rentshare_k55_whole_no_fair_prices_are_b_holds : PySem.Challenge.rw_rentshare_k55_whole_no_fair_prices_are_b.Holds := by
  w_on; o_law; k_head; (case hw=>w_witness2)
  k_fill
  refine My.walkT2 (l:=PySem.Challenge.rw_rentshare_k55_whole_no_fair_prices_are_b) rfl rfl (fun w h Y=>⟨PySem.W.km_in_of Y,PySem.W.km_tabs_of Y⟩) (fun w=>by kernel_rfl) (fun w=>by kernel_rfl) ?F
  case F =>
    intro w mg fa h KX G hmg
    have S_lying:L2.Src (L2.KOf KX) mg "lying" "lying" My.s_lying:=by
      dsimp only [L2.KOf]
      refine' L2.src_mk KX G ?a ?l ?c ?k
      (case a=>k_is); (case l=>k_is); (case c=>k_is); (case k=>k_is)
    have S_open_rooms:L2.Src (L2.KOf KX) mg "open_rooms" "open_rooms" My.s_open_rooms:=by
      dsimp only [L2.KOf]
      refine' L2.src_mk KX G ?a ?l ?c ?k
      (case a=>k_is); (case l=>k_is); (case c=>k_is); (case k=>k_is)
    have S_worth_of:L2.Src (L2.KOf KX) mg "worth_of" "worth_of" My.s_worth_of:=by
      dsimp only [L2.KOf]
      refine' L2.src_mk KX G ?a ?l ?c ?k
      (case a=>k_is); (case l=>k_is); (case c=>k_is); (case k=>k_is)
    have S_improve:L2.Src (L2.KOf KX) mg "improve" "improve" My.s_improve:=by
      dsimp only [L2.KOf]
      refine' L2.src_mk KX G ?a ?l ?c ?k
      (case a=>k_is); (case l=>k_is); (case c=>k_is); (case k=>k_is)
    have S_best_way:L2.Src (L2.KOf KX) mg "best_way" "best_way" My.s_best_way:=by
      dsimp only [L2.KOf]
      refine' L2.src_mk KX G ?a ?l ?c ?k
      (case a=>k_is); (case l=>k_is); (case c=>k_is); (case k=>k_is)
    have S_is_hop:L2.Src (L2.KOf KX) mg "is_hop" "is_hop" My.s_is_hop:=by
      dsimp only [L2.KOf]
      refine' L2.src_mk KX G ?a ?l ?c ?k
      (case a=>k_is); (case l=>k_is); (case c=>k_is); (case k=>k_is)
    have S_chain_gain:L2.Src (L2.KOf KX) mg "chain_gain" "chain_gain" My.s_chain_gain:=by
      dsimp only [L2.KOf]
      refine' L2.src_mk KX G ?a ?l ?c ?k
      (case a=>k_is); (case l=>k_is); (case c=>k_is); (case k=>k_is)
    have S_best_hops:L2.Src (L2.KOf KX) mg "best_hops" "best_hops" My.s_best_hops:=by
      dsimp only [L2.KOf]
      refine' L2.src_mk KX G ?a ?l ?c ?k
      (case a=>k_is); (case l=>k_is); (case c=>k_is); (case k=>k_is)
    have S_hop_on:L2.Src (L2.KOf KX) mg "hop_on" "hop_on" My.s_hop_on:=by
      dsimp only [L2.KOf]
      refine' L2.src_mk KX G ?a ?l ?c ?k
      (case a=>k_is); (case l=>k_is); (case c=>k_is); (case k=>k_is)
    have S_carry:L2.Src (L2.KOf KX) mg "carry" "carry" My.s_carry:=by
      dsimp only [L2.KOf]
      refine' L2.src_mk KX G ?a ?l ?c ?k
      (case a=>k_is); (case l=>k_is); (case c=>k_is); (case k=>k_is)
    have S_greatest:L2.Src (L2.KOf KX) mg "greatest" "greatest" My.s_greatest:=by
      dsimp only [L2.KOf]
      refine' L2.src_mk KX G ?a ?l ?c ?k
      (case a=>k_is); (case l=>k_is); (case c=>k_is); (case k=>k_is)
    have S_bound:L2.Src (L2.KOf KX) mg "bound" "bound" My.s_bound:=by
      dsimp only [L2.KOf]
      refine' L2.src_mk KX G ?a ?l ?c ?k
      (case a=>k_is); (case l=>k_is); (case c=>k_is); (case k=>k_is)
    have S_common_divisor:L2.Src (L2.KOf KX) mg "common_divisor" "common_divisor" My.s_common_divisor:=by
      dsimp only [L2.KOf]
      refine' L2.src_mk KX G ?a ?l ?c ?k
      (case a=>k_is); (case l=>k_is); (case c=>k_is); (case k=>k_is)
    have S_lowest:L2.Src (L2.KOf KX) mg "lowest" "lowest" My.s_lowest:=by
      dsimp only [L2.KOf]
      refine' L2.src_mk KX G ?a ?l ?c ?k
      (case a=>k_is); (case l=>k_is); (case c=>k_is); (case k=>k_is)
    have S_room_price:L2.Src (L2.KOf KX) mg "room_price" "room_price" My.s_room_price:=by
      dsimp only [L2.KOf]
      refine' L2.src_mk KX G ?a ?l ?c ?k
      (case a=>k_is); (case l=>k_is); (case c=>k_is); (case k=>k_is)
    have S_prices_at:L2.Src (L2.KOf KX) mg "prices_at" "prices_at" My.s_prices_at:=by
      dsimp only [L2.KOf]
      refine' L2.src_mk KX G ?a ?l ?c ?k
      (case a=>k_is); (case l=>k_is); (case c=>k_is); (case k=>k_is)
    have S_divide:L2.Src (L2.KOf KX) mg "divide" "divide" My.s_divide:=by
      dsimp only [L2.KOf]
      refine' L2.src_mk KX G ?a ?l ?c ?k
      (case a=>k_is); (case l=>k_is); (case c=>k_is); (case k=>k_is)
    have S_with_open:L2.Src (L2.KOf KX) mg "with_open" "with_open" My.s_with_open:=by
      dsimp only [L2.KOf]
      refine' L2.src_mk KX G ?a ?l ?c ?k
      (case a=>k_is); (case l=>k_is); (case c=>k_is); (case k=>k_is)
    have S_own_worth:L2.Src (L2.KOf KX) mg "own_worth" "own_worth" My.s_own_worth:=by
      dsimp only [L2.KOf]
      refine' L2.src_mk KX G ?a ?l ?c ?k
      (case a=>k_is); (case l=>k_is); (case c=>k_is); (case k=>k_is)
    have S__law_cell_at:L2.Src (L2.KOf KX) mg "_law_cell_at" "_law_cell_at" My.s__law_cell_at:=by
      dsimp only [L2.KOf]
      refine' L2.src_mk KX G ?a ?l ?c ?k
      (case a=>k_is); (case l=>k_is); (case c=>k_is); (case k=>k_is)
    have S__law_mixed:L2.Src (L2.KOf KX) mg "_law_mixed" "_law_mixed" My.s__law_mixed:=by
      dsimp only [L2.KOf]
      refine' L2.src_mk KX G ?a ?l ?c ?k
      (case a=>k_is); (case l=>k_is); (case c=>k_is); (case k=>k_is)
    have S__law_beds:L2.Src (L2.KOf KX) mg "_law_beds" "_law_beds" My.s__law_beds:=by
      dsimp only [L2.KOf]
      refine' L2.src_mk KX G ?a ?l ?c ?k
      (case a=>k_is); (case l=>k_is); (case c=>k_is); (case k=>k_is)
    have S__law_worths:L2.Src (L2.KOf KX) mg "_law_worths" "_law_worths" My.s__law_worths:=by
      dsimp only [L2.KOf]
      refine' L2.src_mk KX G ?a ?l ?c ?k
      (case a=>k_is); (case l=>k_is); (case c=>k_is); (case k=>k_is)
    have S__law_house:L2.Src (L2.KOf KX) mg "_law_house" "_law_house" My.s__law_house:=by
      dsimp only [L2.KOf]
      refine' L2.src_mk KX G ?a ?l ?c ?k
      (case a=>k_is); (case l=>k_is); (case c=>k_is); (case k=>k_is)
    have S__law_spare:L2.Src (L2.KOf KX) mg "_law_spare" "_law_spare" My.s__law_spare:=by
      dsimp only [L2.KOf]
      refine' L2.src_mk KX G ?a ?l ?c ?k
      (case a=>k_is); (case l=>k_is); (case c=>k_is); (case k=>k_is)
    have S__law_through:L2.Src (L2.KOf KX) mg "_law_through" "_law_through" My.s__law_through:=by
      dsimp only [L2.KOf]
      refine' L2.src_mk KX G ?a ?l ?c ?k
      (case a=>k_is); (case l=>k_is); (case c=>k_is); (case k=>k_is)
    have S__law_gain:L2.Src (L2.KOf KX) mg "_law_gain" "_law_gain" My.s__law_gain:=by
      dsimp only [L2.KOf]
      refine' L2.src_mk KX G ?a ?l ?c ?k
      (case a=>k_is); (case l=>k_is); (case c=>k_is); (case k=>k_is)
    have S__law_fair:L2.Src (L2.KOf KX) mg "_law_fair" "_law_fair" My.s__law_fair:=by
      dsimp only [L2.KOf]
      refine' L2.src_mk KX G ?a ?l ?c ?k
      (case a=>k_is); (case l=>k_is); (case c=>k_is); (case k=>k_is)
    have S__law_copy:L2.Src (L2.KOf KX) mg "_law_copy" "_law_copy" My.s__law_copy:=by
      dsimp only [L2.KOf]
      refine' L2.src_mk KX G ?a ?l ?c ?k
      (case a=>k_is); (case l=>k_is); (case c=>k_is); (case k=>k_is)
    have S__law_gains_from:L2.Src (L2.KOf KX) mg "_law_gains_from" "_law_gains_from" My.s__law_gains_from:=by
      dsimp only [L2.KOf]
      refine' L2.src_mk KX G ?a ?l ?c ?k
      (case a=>k_is); (case l=>k_is); (case c=>k_is); (case k=>k_is)
    have S__law_led_by:L2.Src (L2.KOf KX) mg "_law_led_by" "_law_led_by" My.s__law_led_by:=by
      dsimp only [L2.KOf]
      refine' L2.src_mk KX G ?a ?l ?c ?k
      (case a=>k_is); (case l=>k_is); (case c=>k_is); (case k=>k_is)
    have S__law_mean:L2.Src (L2.KOf KX) mg "_law_mean" "_law_mean" My.s__law_mean:=by
      dsimp only [L2.KOf]
      refine' L2.src_mk KX G ?a ?l ?c ?k
      (case a=>k_is); (case l=>k_is); (case c=>k_is); (case k=>k_is)
    have S__law_no_better:L2.Src (L2.KOf KX) mg "_law_no_better" "_law_no_better" My.s__law_no_better:=by
      dsimp only [L2.KOf]
      refine' L2.src_mk KX G ?a ?l ?c ?k
      (case a=>k_is); (case l=>k_is); (case c=>k_is); (case k=>k_is)
    have S_law:L2.Src (L2.KOf KX) mg "law" "law" My.s_law:=by
      dsimp only [L2.KOf]
      refine' L2.src_mk KX G ?a ?l ?c ?k
      (case a=>k_is); (case l=>k_is); (case c=>k_is); (case k=>k_is)
    obtain ⟨C,HC,M___init__,M_people,M_rooms⟩:∃ C,L2.HCls (L2.KOf KX) mg C∧L2.MSrc (L2.KOf KX) C "__init__" "House.__init__" My.s___init__∧L2.MSrc (L2.KOf KX) C "people" "House.people" My.s_people∧L2.MSrc (L2.KOf KX) C "rooms" "House.rooms" My.s_rooms:=by
      dsimp only [L2.KOf]
      refine' ⟨_,⟨PySem.W.mg_of KX G ?aC,⟨?pg,?hd,?po,?sa⟩,?mk,?kc,?n1,?n2,?n3⟩,L2.msrc_mk ?a0 ?i0 ?l0 ?c0 ?k0,L2.msrc_mk ?a1 ?i1 ?l1 ?c1 ?k1,L2.msrc_mk ?a2 ?i2 ?l2 ?c2 ?k2⟩
      (case aC=>k_is); (case a0=>k_is); (case i0=>k_is); (case l0=>k_is); (case c0=>k_is); (case k0=>k_is); (case a1=>k_is); (case i1=>k_is); (case l1=>k_is); (case c1=>k_is); (case k1=>k_is); (case a2=>k_is); (case i2=>k_is); (case l2=>k_is); (case c2=>k_is); (case k2=>k_is)
      (case pg=>k_is); (case hd=>k_is); (case po=>k_is); (case sa=>k_is); (case mk=>k_is); (case kc=>k_is); (case n1=>dsimp only [L2.NoAttr]; k_is); (case n2=>dsimp only [L2.NoAttr]; k_is); (case n3=>dsimp only [L2.NoAttr]; k_is)
    obtain ⟨CWorst,CEven,HWorst,SWorst___init__,SWorst_through,SWorst_gain,SWorst_whole,SWorst_price,HEven,SEven___init__,SEven_through,SEven_gain,SEven_whole,SEven_price⟩:∃ CWorst CEven,L2.AimCls (L2.KOf KX) mg CWorst "Worst"∧L2.MSrc (L2.KOf KX) CWorst "__init__" "Aim.__init__" My.s_Aim___init__∧L2.MSrc (L2.KOf KX) CWorst "through" "Worst.through" My.s_Worst_through∧L2.MSrc (L2.KOf KX) CWorst "gain" "Worst.gain" My.s_Worst_gain∧L2.MSrc (L2.KOf KX) CWorst "whole" "Worst.whole" My.s_Worst_whole∧L2.MSrc (L2.KOf KX) CWorst "price" "Worst.price" My.s_Worst_price∧L2.AimCls (L2.KOf KX) mg CEven "Even"∧L2.MSrc (L2.KOf KX) CEven "__init__" "Aim.__init__" My.s_Aim___init__∧L2.MSrc (L2.KOf KX) CEven "through" "Even.through" My.s_Even_through∧L2.MSrc (L2.KOf KX) CEven "gain" "Even.gain" My.s_Even_gain∧L2.MSrc (L2.KOf KX) CEven "whole" "Even.whole" My.s_Even_whole∧L2.MSrc (L2.KOf KX) CEven "price" "Even.price" My.s_Even_price:=by
      dsimp only [L2.KOf]
      refine' ⟨_,_,⟨PySem.W.mg_of KX G ?aC0,⟨?pg0,?hd0,?po0,?sa0⟩,?mk0,?kc0,?n10,?n20⟩,L2.msrc_mk ?a0_0 ?i0_0 ?l0_0 ?c0_0 ?k0_0,L2.msrc_mk ?a0_1 ?i0_1 ?l0_1 ?c0_1 ?k0_1,L2.msrc_mk ?a0_2 ?i0_2 ?l0_2 ?c0_2 ?k0_2,L2.msrc_mk ?a0_3 ?i0_3 ?l0_3 ?c0_3 ?k0_3,L2.msrc_mk ?a0_4 ?i0_4 ?l0_4 ?c0_4 ?k0_4,⟨PySem.W.mg_of KX G ?aC1,⟨?pg1,?hd1,?po1,?sa1⟩,?mk1,?kc1,?n11,?n21⟩,L2.msrc_mk ?a1_0 ?i1_0 ?l1_0 ?c1_0 ?k1_0,L2.msrc_mk ?a1_1 ?i1_1 ?l1_1 ?c1_1 ?k1_1,L2.msrc_mk ?a1_2 ?i1_2 ?l1_2 ?c1_2 ?k1_2,L2.msrc_mk ?a1_3 ?i1_3 ?l1_3 ?c1_3 ?k1_3,L2.msrc_mk ?a1_4 ?i1_4 ?l1_4 ?c1_4 ?k1_4⟩
      (case aC0=>k_is); (case a0_0=>k_is); (case i0_0=>k_is); (case l0_0=>k_is); (case c0_0=>k_is); (case k0_0=>k_is); (case a0_1=>k_is); (case i0_1=>k_is); (case l0_1=>k_is); (case c0_1=>k_is); (case k0_1=>k_is); (case a0_2=>k_is); (case i0_2=>k_is); (case l0_2=>k_is); (case c0_2=>k_is); (case k0_2=>k_is); (case a0_3=>k_is); (case i0_3=>k_is); (case l0_3=>k_is); (case c0_3=>k_is); (case k0_3=>k_is); (case a0_4=>k_is); (case i0_4=>k_is); (case l0_4=>k_is); (case c0_4=>k_is); (case k0_4=>k_is)
      (case pg0=>k_is); (case hd0=>k_is); (case po0=>k_is); (case sa0=>k_is); (case mk0=>k_is); (case kc0=>k_is); (case n10=>dsimp only [L2.NoAttr]; k_is); (case n20=>dsimp only [L2.NoAttr]; k_is)
      (case aC1=>k_is); (case a1_0=>k_is); (case i1_0=>k_is); (case l1_0=>k_is); (case c1_0=>k_is); (case k1_0=>k_is); (case a1_1=>k_is); (case i1_1=>k_is); (case l1_1=>k_is); (case c1_1=>k_is); (case k1_1=>k_is); (case a1_2=>k_is); (case i1_2=>k_is); (case l1_2=>k_is); (case c1_2=>k_is); (case k1_2=>k_is); (case a1_3=>k_is); (case i1_3=>k_is); (case l1_3=>k_is); (case c1_3=>k_is); (case k1_3=>k_is); (case a1_4=>k_is); (case i1_4=>k_is); (case l1_4=>k_is); (case c1_4=>k_is); (case k1_4=>k_is)
      (case pg1=>k_is); (case hd1=>k_is); (case po1=>k_is); (case sa1=>k_is); (case mk1=>k_is); (case kc1=>k_is); (case n11=>dsimp only [L2.NoAttr]; k_is); (case n21=>dsimp only [L2.NoAttr]; k_is)
    have T:My.Txt mg:=by
      refine' ⟨PySem.W.mg_none_of KX G ?z0,PySem.W.mg_none_of KX G ?z1,PySem.W.mg_none_of KX G ?z2,PySem.W.mg_none_of KX G ?z3,PySem.W.mg_none_of KX G ?z4,PySem.W.mg_none_of KX G ?z5,PySem.W.mg_none_of KX G ?z6,PySem.W.mg_none_of KX G ?z7,PySem.W.mg_none_of KX G ?z8,PySem.W.mg_none_of KX G ?z9,PySem.W.mg_none_of KX G ?z10⟩
      (case z0=>k_is); (case z1=>k_is); (case z2=>k_is); (case z3=>k_is); (case z4=>k_is); (case z5=>k_is); (case z6=>k_is); (case z7=>k_is); (case z8=>k_is); (case z9=>k_is); (case z10=>k_is)
    refine L2.law_fdT S_law (fun _ _ _ _ _ _ _=>rfl) (fun base hB=>?_) hmg
    have BA2:=hB _ List.mem_cons_self
    have BA1:=hB _ (List.mem_cons_of_mem _ List.mem_cons_self)
    obtain ⟨cR,S_best_room⟩:∃ c,L2.SrcL (L2.KOf KX) mg "best_room" "best_room" My.s_best_room c _:=by
      dsimp only [L2.KOf]
      refine' L2.srcL_at "best_room" "best_room" My.s_best_room (L2.one_mem BA2) KX G ?a ?l ?c ?k ?hd
      (case a=>k_is); (case l=>k_is); (case c=>k_is); (case k=>k_is); (case hd=>kernel_rfl)
    obtain ⟨cB,S_bring_in⟩:∃ c,L2.SrcL (L2.KOf KX) mg "bring_in" "bring_in" My.s_bring_in c _:=by
      dsimp only [L2.KOf]
      refine' L2.srcL_at "bring_in" "bring_in" My.s_bring_in (L2.one_mem BA1) KX G ?a2 ?l2 ?c2 ?k2 ?hd2
      (case a2=>k_is); (case l2=>k_is); (case c2=>k_is); (case k2=>k_is); (case hd2=>kernel_rfl)
    have Dm:=My.D_mixed (P:=PySem.Challenge.rw_rentshare_k55_whole_no_fair_prices_are_b.prog) (w:=w) (base:=base) S__law_mixed
    have Da:=My.D_cell (P:=PySem.Challenge.rw_rentshare_k55_whole_no_fair_prices_are_b.prog) (w:=w) (base:=base) T S__law_cell_at
    have Mi:=My.D_init (P:=PySem.Challenge.rw_rentshare_k55_whole_no_fair_prices_are_b.prog) (w:=w) (base:=base) T HC M___init__
    have Mr:=My.D_rooms (P:=PySem.Challenge.rw_rentshare_k55_whole_no_fair_prices_are_b.prog) (w:=w) (base:=base) T HC M_rooms
    have Mp:=My.D_people (P:=PySem.Challenge.rw_rentshare_k55_whole_no_fair_prices_are_b.prog) (w:=w) (base:=base) T HC M_people
    have Do:=My.D_open (P:=PySem.Challenge.rw_rentshare_k55_whole_no_fair_prices_are_b.prog) (w:=w) (base:=base) T HC S_open_rooms (My.D_lying T HC S_lying Mr) Mr
    have Dbr:=My.D_bring (P:=PySem.Challenge.rw_rentshare_k55_whole_no_fair_prices_are_b.prog) (w:=w) (base:=base) T HC S_bring_in BA1 Do (My.D_improve T HC S_improve Mr) Mr
    have Dbw:=My.D_best (P:=PySem.Challenge.rw_rentshare_k55_whole_no_fair_prices_are_b.prog) (w:=w) (base:=base) T HC S_best_way Dbr Mp
    have Dwo:=My.D_withopen (P:=PySem.Challenge.rw_rentshare_k55_whole_no_fair_prices_are_b.prog) (w:=w) (base:=base) T HC S_with_open Do
    have Dow:=My.D_ownworth (P:=PySem.Challenge.rw_rentshare_k55_whole_no_fair_prices_are_b.prog) (w:=w) (base:=base) T HC S_own_worth
    have Wt:=My.D_Wthrough (P:=PySem.Challenge.rw_rentshare_k55_whole_no_fair_prices_are_b.prog) (w:=w) (base:=base) T HWorst.a SWorst_through Dwo
    have Wg:=My.D_Wgain (P:=PySem.Challenge.rw_rentshare_k55_whole_no_fair_prices_are_b.prog) (w:=w) (base:=base) T HC HWorst.a SWorst_gain Dow
    have Et:=My.D_Ethrough (P:=PySem.Challenge.rw_rentshare_k55_whole_no_fair_prices_are_b.prog) (w:=w) (base:=base) T HEven.a SEven_through Dwo
    have Eg:=My.D_Egain (P:=PySem.Challenge.rw_rentshare_k55_whole_no_fair_prices_are_b.prog) (w:=w) (base:=base) T HC HEven.a SEven_gain Dow
    have Dro:=My.D_bestroom (P:=PySem.Challenge.rw_rentshare_k55_whole_no_fair_prices_are_b.prog) (w:=w) (base:=base) T HC HWorst HEven S_best_room BA2 Wg Eg
    have Dbh:=My.D_besthops (P:=PySem.Challenge.rw_rentshare_k55_whole_no_fair_prices_are_b.prog) (w:=w) (base:=base) T HC HWorst HEven S_best_hops Wt Et Mp Dro
    have Dca:=My.D_carryF (P:=PySem.Challenge.rw_rentshare_k55_whole_no_fair_prices_are_b.prog) (w:=w) (base:=base) T HC HWorst HEven S_carry Wg Eg Dbh (My.D_hoponF T S_hop_on)
    have Dgr:=My.D_greatestF (P:=PySem.Challenge.rw_rentshare_k55_whole_no_fair_prices_are_b.prog) (w:=w) (base:=base) T HC HWorst HEven S_greatest Mp Dca
    have Dh:=My.D_house (P:=PySem.Challenge.rw_rentshare_k55_whole_no_fair_prices_are_b.prog) (w:=w) (base:=base) T S__law_house Dm Da (My.D_beds T S__law_beds Dm) (My.D_worths T S__law_worths Dm)
    have Dis:=My.D_ishop (P:=PySem.Challenge.rw_rentshare_k55_whole_no_fair_prices_are_b.prog) (w:=w) (base:=base) T HC HWorst HEven S_is_hop Wt Et Mp
    have Dcg:=My.D_cgain (P:=PySem.Challenge.rw_rentshare_k55_whole_no_fair_prices_are_b.prog) (w:=w) (base:=base) T HC HWorst HEven S_chain_gain Wg Eg Dis
    have Dwf:=My.D_worthof (P:=PySem.Challenge.rw_rentshare_k55_whole_no_fair_prices_are_b.prog) (w:=w) (base:=base) T HC S_worth_of Mp
    have Ww:=My.D_Wwhole (P:=PySem.Challenge.rw_rentshare_k55_whole_no_fair_prices_are_b.prog) (w:=w) (base:=base) T HC HWorst.a SWorst_whole Dwf
    have Ew:=My.D_Ewhole (P:=PySem.Challenge.rw_rentshare_k55_whole_no_fair_prices_are_b.prog) (w:=w) (base:=base) T HC HEven.a SEven_whole
    have Wp:=My.D_Wprice (P:=PySem.Challenge.rw_rentshare_k55_whole_no_fair_prices_are_b.prog) (w:=w) (base:=base) T HWorst.a SWorst_price Dow
    have Dbo:=My.D_bound (P:=PySem.Challenge.rw_rentshare_k55_whole_no_fair_prices_are_b.prog) (w:=w) (base:=base) T HC HWorst HEven S_bound Ww Ew Mp Dcg
    have Dlo:=My.D_lowestF (P:=PySem.Challenge.rw_rentshare_k55_whole_no_fair_prices_are_b.prog) (w:=w) (base:=base) T S_lowest (My.D_cd S_common_divisor)
    have Dpa:=My.D_pricesat (P:=PySem.Challenge.rw_rentshare_k55_whole_no_fair_prices_are_b.prog) (w:=w) (base:=base) T HC HWorst HEven S_prices_at Wp (My.D_Eprice T SEven_price) Mr (My.D_roomprice T HWorst HEven S_room_price) Dlo
    have Ddi:=My.D_divide (P:=PySem.Challenge.rw_rentshare_k55_whole_no_fair_prices_are_b.prog) (w:=w) (base:=base) T S_divide Dgr Dbo Dpa
    have Dgf:=My.D_gfrom (P:=PySem.Challenge.rw_rentshare_k55_whole_no_fair_prices_are_b.prog) (w:=w) (base:=base) T S__law_gains_from (My.D_lthrough T S__law_through) (My.D_lgain T S__law_gain)
    have Dlb:=My.D_ledby (P:=PySem.Challenge.rw_rentshare_k55_whole_no_fair_prices_are_b.prog) (w:=w) (base:=base) T S__law_led_by (My.D_spare T S__law_spare) Dgf
    exact My.D_law (by decide) T HC HWorst HEven S_law Mi (My.D_ainit T HWorst.a SWorst___init__) (My.D_ainit T HEven.a SEven___init__) Dm Da Dh (My.D_copy T S__law_copy) Dbw Ddi Dlb (My.D_mean T S__law_mean) (My.D_lfair T S__law_fair) (My.D_nobetter T S__law_no_better)
#print axioms PySem.Challenge.cw_rentshare_k55_whole_no_fair_prices_are_b_holds
