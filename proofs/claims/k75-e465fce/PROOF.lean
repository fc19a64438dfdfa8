import PyProof.Rows.All
import Wide.All
import OpenK.AllK
import Wide.FinOn
import Lean
import PyProof.EqAt
import PyProof.EqKinds
import PyProof.TupleCall
import PySem.Challenge.RW_rentshare_k75_near_way
set_option Elab.async false
set_option linter.all false
set_option maxHeartbeats 4000000
set_option maxRecDepth 100000
namespace L2
open PySem PySem.Spec PyProof.Rows
abbrev Key:=Sum Int Str
def keyIs:Key→Value→Bool
  | .inl k,v=>Value.isInt k v
  | .inr x,v=>Value.isStrOf x v
def keyH (w:World):Key→Int
  | .inl k=>hashInt k
  | .inr x=>hashStr w x
theorem keyIs_shape:∀ {k:Key} {v:Value},keyIs k v=true→(∃ i t,k=Sum.inl i∧v=Value.int i t)∨(∃ x t,k=Sum.inr x∧v=Value.str x t)
  | .inl i,v,h=>by
    obtain ⟨t,e⟩:=Value.isInt_shape (k:=i) (v:=v) h
    exact .inl ⟨i,t,rfl,e⟩
  | .inr x,v,h=>by
    obtain ⟨t,e⟩:=Value.isStrOf_shape (x:=x) (v:=v) h
    exact .inr ⟨x,t,rfl,e⟩
theorem key_ll (a b:Int):decide ((Sum.inl a:Key)=Sum.inl b)=(a == b):=by
  by_cases e:a=b
  · subst e; simp
  · have h:¬ (Sum.inl a:Key)=Sum.inl b:=fun q=>e (Sum.inl.inj q)
    rw [decide_eq_false h]
    exact (beq_eq_false_iff_ne.mpr e).symm
theorem key_rr (a b:Str):decide ((Sum.inr a:Key)=Sum.inr b)=decide (a=b):=by
  by_cases e:a=b
  · subst e; simp
  · have h:¬ (Sum.inr a:Key)=Sum.inr b:=fun q=>e (Sum.inr.inj q)
    rw [decide_eq_false h,decide_eq_false e]
theorem key_lr (a:Int) (b:Str):decide ((Sum.inl a:Key)=Sum.inr b)=false:=decide_eq_false (fun q=>nomatch q)
theorem key_rl (a:Str) (b:Int):decide ((Sum.inr a:Key)=Sum.inl b)=false:=decide_eq_false (fun q=>nomatch q)
def mixKind (prog:Program) (w:World):PySem.KeyKind prog w Key where
  is:=keyIs
  hash:=keyH w
  inj:=fun v a b ha hb=>by
    rcases keyIs_shape ha with ⟨i,t,rfl,rfl⟩ | ⟨x,t,rfl,rfl⟩
    · rcases keyIs_shape hb with ⟨j,u,rfl,e⟩ | ⟨y,u,rfl,e⟩
      · injection e with e1 _; rw [e1]
      · exact nomatch e
    · rcases keyIs_shape hb with ⟨j,u,rfl,e⟩ | ⟨y,u,rfl,e⟩
      · exact nomatch e
      · injection e with e1 _; rw [e1]
  byValue:=fun k v h=>by
    rcases keyIs_shape h with ⟨i,t,rfl,rfl⟩ | ⟨x,t,rfl,rfl⟩ <;> rfl
  pyHash:=fun hv h=>by
    rcases keyIs_shape hv with ⟨i,t,rfl,rfl⟩ | ⟨x,t,rfl,rfl⟩
    · exact wpAny_pyHash_int h
    · exact wpAny_pyHash_str h
  eqBool:=fun hu hv h=>by
    rcases keyIs_shape hu with ⟨i,t,rfl,rfl⟩ | ⟨x,t,rfl,rfl⟩
    · rcases keyIs_shape hv with ⟨j,u,rfl,rfl⟩ | ⟨y,u,rfl,rfl⟩
      · rw [key_ll] at h; exact wpAny_eqBool_int h
      · rw [key_lr] at h; exact SeqAt.EqAt.int_str i t y u _ _ _ _ h
    · rcases keyIs_shape hv with ⟨j,u,rfl,rfl⟩ | ⟨y,u,rfl,rfl⟩
      · rw [key_rl] at h; exact SeqAt.EqAt.str_int x t j u _ _ _ _ h
      · rw [key_rr] at h; exact wpAny_eqBool_str h
  «strs» := fun k x t v h=>by
    rcases keyIs_shape h with ⟨i,u,rfl,e⟩ | ⟨y,u,rfl,e⟩
    · exact nomatch e
    · injection e with e1 _
      subst e1
      cases v <;> rfl
end L2
namespace L2
open PySem PySem.Spec PyProof.Rows
inductive V where
  | non | bl (b:Bool) | int (i:Int) | str (x:Str) | byt (b:Array UInt8) | flt (b:UInt64) | ref (a:Addr) | ty (n:String)
  deriving DecidableEq
def RelV:V→Value→Prop
  | .non,u=>u=Value.none
  | .bl b,u=>u=Value.bool b
  | .int i,u => ∃ t,u=Value.int i t
  | .str x,u => ∃ t,u=Value.str x t
  | .byt b,u => ∃ t,u=Value.bytes b t
  | .flt b,u => ∃ t,u=Value.float b t
  | .ref a,u=>u=Value.ref a
  | .ty n,u=>u=Value.type n
abbrev Vals:List V→List Value→Prop:=Paired RelV
theorem Vals.length {xs:List V} {us:List Value} (r:Vals xs us):xs.length=us.length:=Paired.length r
theorem Vals.get:∀ {xs:List V} {us:List Value} {i:Nat} {x:V},Vals xs us→xs[i]? = some x→∃ u,us[i]? = some u∧RelV x u
  | _,_,_,_,.nil,e=>by simp at e
  | _,_,0,_,.cons r _,e=>by simp at e; subst e; exact ⟨_,rfl,r⟩
  | _,_,i + 1,x,.cons _ t,e=>by
    obtain ⟨u,h1,h2⟩:=Vals.get (i:=i) (x:=x) t (by simpa using e)
    exact ⟨u,by simpa using h1,h2⟩
theorem Vals.set {x:V} {u:Value} (r:RelV x u):∀ {xs:List V} {us:List Value} (i:Nat),Vals xs us→Vals (xs.set i x) (us.set i u)
  | _,_,_,.nil=>.nil
  | _,_,0,.cons _ t=>.cons r t
  | _,_,i + 1,.cons q t=>.cons q (Vals.set r i t)
theorem Vals.append:∀ {xs ys:List V} {us ws:List Value},Vals xs us→Vals ys ws→Vals (xs ++ ys) (us ++ ws)
  | _,_,_,_,.nil,s=>s
  | _,_,_,_,.cons r t,s=>.cons r (Vals.append t s)
theorem Vals.take:∀ {xs:List V} {us:List Value} (n:Nat),Vals xs us→Vals (xs.take n) (us.take n)
  | _,_,0,_=>.nil
  | _,_,_ + 1,.nil=>.nil
  | _,_,n + 1,.cons r t=>.cons r (Vals.take n t)
theorem Vals.drop:∀ {xs:List V} {us:List Value} (n:Nat),Vals xs us→Vals (xs.drop n) (us.drop n)
  | _,_,0,r=>r
  | _,_,_ + 1,.nil=>.nil
  | _,_,n + 1,.cons _ t=>Vals.drop n t
def RelO:Option V→Option Value→Prop
  | some v,some u=>RelV v u
  | none,none=>True
  | _,_=>False
def KV {κ:Type}:List (κ × V)→List (κ × Value)→Prop:=Paired fun (p:κ × V) (q:κ × Value)=>p.1=q.1∧RelV p.2 q.2
def kV:Key→V
  | .inl i=>.int i
  | .inr x=>.str x
inductive HO where
  | lst (xs:List V)
  | tup (xs:List V)
  | dK (kvs:List (Key × V)) | dT (kvs:List (List Key × V))
  | set (S:Int→Bool) (n:Nat)
  | ins (C dx:Addr) (fs:List (Str × V))
  | own (x:Addr)
  | xd (fs:List (Str × V))
  | met (f x:Addr)
  | rng (lo hi:Int)
  | frz (o:Obj) (u:HO)
  | tbl (ps:Array Value)
  | ext (φ:Heap→Prop)
abbrev Hp:=Addr→Option HO
def upd (H:Hp) (a:Addr) (o:HO):Hp:=fun b=>if b=a then some o else H b
theorem upd_same {H:Hp} {a:Addr} {o:HO}:upd H a o a=some o:=by unfold upd; rw [if_pos rfl]
theorem upd_ne {H:Hp} {a b:Addr} {o:HO} (h:b≠a):upd H a o b=H b:=by unfold upd; rw [if_neg h]
theorem ne_of {H:Hp} {a b:Addr} {o u:HO} (h:H a=some o) (h':H b=some u) (d:o≠u):a≠b:=by
  intro e; subst e; rw [h] at h'; exact d (Option.some.inj h')
theorem ne_of_none {H:Hp} {a b:Addr} {o:HO} (h:H a=some o) (h':H b=none):a≠b:=by
  intro e; subst e; rw [h] at h'; cases h'
section
variable (P:Program) (w:World)
def ObjOk (H:Hp) (h:Heap) (a:Addr):HO→Prop
  | .lst xs=>xs.length≤sizeLine∧∃ (its:List Value) (n:Nat),Vals xs its∧h.get? a=some { cls:=.type "list",data:=.seq its.toArray n }
  | .tup xs=>xs.length≤sizeLine∧∃ its:List Value,Vals xs its∧IsTup h a its.toArray
  | .dK kvs=>kvs.length≤sizeLine∧(a == sysModules)=false∧∃ vs,KV kvs vs∧h.DictOf (mixKind P w) a vs
  | .dT kvs=>kvs.length≤sizeLine∧(a == sysModules)=false∧∃ xs:List (List Key × Addr × Value),
      Paired (fun (p:List Key × V) (q:List Key × Addr × Value)=>p.1=q.1∧H q.2.1=some (.tup (p.1.map kV))∧RelV p.2 q.2.2) kvs xs ∧
      ∃ o es ep,h.get? a=some o∧o.ExactDict∧o.data=.dict es ep∧es.toList=xs.map (entryOfKey (tupleKind (mixKind P w)))∧(xs.map (·.1)).Nodup
  | .set S n=>h.SetOf (intKind P w) a S n
  | .ins C dx fs=>H dx=some (.own a)∧fs.length≤1000∧dx≠a∧h.get? a=some (PySem.W.instObj C dx) ∧
      ∃ mA,h.Ns1 dx mA∧(∀ f,RelO (fs.lookup f) (mA f))∧PySem.Within mA (fs.map (·.1))
  | .own _ => ∃ o,h.get? a=some o
  | .xd fs => ∃ mA,h.Ns1 a mA∧∀ f,RelO (fs.lookup f) (mA f)
  | .rng lo hi => ∃ t u v,h.get? a=some { cls:=.type "range",data:=.fields #[.int lo t,.int hi u,.int 1 v] }
  | .frz o u=>h.get? a=some o∧ObjOk H h a u
  | .tbl ps=>h.get? a=some { cls:=.none,data:=.fields ps }
  | .met f x=>h.get? a=some (PySem.W.methodObj (.ref f) (.ref x))
  | .ext φ=>φ h∧(∃ o,h.get? a=some o)∧∀ h1 h2:Heap,φ h1→(∀ o,h1.get? a=some o→h2.get? a=some o)→φ h2
def HOk (H:Hp) (h:Heap):Prop:=∀ a o,H a=some o→ObjOk P w H h a o
end
section
variable {P:Program} {w:World} {H H':Hp} {h h':Heap} {a:Addr} {o:HO}
theorem ObjOk.lt (x:ObjOk P w H h a o):a < h.objs.size:=by
  cases o with
  | lst xs=>obtain ⟨_,_,_,_,e⟩:=x; exact Heap.lt_size e
  | tup xs=>obtain ⟨_,_,_,p⟩:=x; exact p.lt
  | dK kvs=>obtain ⟨_,_,_,_,o,_,_,e,_⟩:=x; exact Heap.lt_size e
  | dT kvs=>obtain ⟨_,_,_,_,o,_,_,e,_⟩:=x; exact Heap.lt_size e
  | set S n=>obtain ⟨o,_,_,_,e,_⟩:=x; exact Heap.lt_size e
  | ins C dx fs=>obtain ⟨_,_,_,e,_⟩:=x; exact Heap.lt_size e
  | own y=>obtain ⟨_,e⟩:=x; exact Heap.lt_size e
  | xd fs=>obtain ⟨_,⟨_,_,_,e,_⟩,_⟩:=x; exact Heap.lt_size e
  | rng lo hi=>obtain ⟨_,_,_,e⟩:=x; exact Heap.lt_size e
  | frz ob u=>obtain ⟨e,_⟩:=x; exact Heap.lt_size e
  | tbl ps=>exact Heap.lt_size (show h.get? a=some _ from x)
  | met f y=>exact Heap.lt_size (show h.get? a=some _ from x)
  | ext φ=>obtain ⟨_,⟨_,e⟩,_⟩:=x; exact Heap.lt_size e
theorem Paired.mapP {α β:Type} {F G:α→β→Prop}:∀ {l₁:List α} {l₂:List β},Paired F l₁ l₂→(∀ a b,F a b→G a b)→Paired G l₁ l₂
  | _,_,.nil,_=>.nil
  | _,_,.cons r t,f=>.cons (f _ _ r) (Paired.mapP t f)
theorem ObjOk.stay (x:ObjOk P w H h a o) (k:∀ b u,(b=a∨H b=some (.own a))→h.get? b=some u→h'.get? b=some u)
    (ho:∀ b,H b=some (.own a)→H' b=some (.own a)) (ht:∀ b xs,H b=some (.tup xs)→H' b=some (.tup xs)):ObjOk P w H' h' a o:=by
  induction o with
  | lst xs=>obtain ⟨z,its,n,r,e⟩:=x; exact ⟨z,its,n,r,k _ _ (.inl rfl) e⟩
  | tup xs=>obtain ⟨z,its,r,ob,e,c⟩:=x; exact ⟨z,its,r,ob,k _ _ (.inl rfl) e,c⟩
  | dK kvs=>obtain ⟨z,y,vs,r,ob,es,ep,e,c⟩:=x; exact ⟨z,y,vs,r,ob,es,ep,k _ _ (.inl rfl) e,c⟩
  | dT kvs =>
    obtain ⟨z,y,xs,r,ob,es,ep,e,c⟩:=x
    exact ⟨z,y,xs,Paired.mapP r fun p q z=>⟨z.1,ht _ _ z.2.1,z.2.2⟩,ob,es,ep,k _ _ (.inl rfl) e,c⟩
  | set S n=>obtain ⟨ob,es,ep,t,e,c⟩:=x; exact ⟨ob,es,ep,t,k _ _ (.inl rfl) e,c⟩
  | ins C dx fs =>
    obtain ⟨d,z,ne,e,mA,⟨od,es,ep,e2,c⟩,r⟩:=x
    exact ⟨ho _ d,z,ne,k _ _ (.inl rfl) e,mA,⟨od,es,ep,k _ _ (.inr d) e2,c⟩,r⟩
  | own y=>obtain ⟨ob,e⟩:=x; exact ⟨ob,k _ _ (.inl rfl) e⟩
  | xd fs=>obtain ⟨mA,⟨od,es,ep,e,c⟩,r⟩:=x; exact ⟨mA,⟨od,es,ep,k _ _ (.inl rfl) e,c⟩,r⟩
  | rng lo hi=>obtain ⟨t,u,v,e⟩:=x; exact ⟨t,u,v,k _ _ (.inl rfl) e⟩
  | frz ob u ih=>obtain ⟨e,q⟩:=x; exact ⟨k _ _ (.inl rfl) e,ih q⟩
  | tbl ps =>
    have e:h.get? a=some { cls:=.none,data:=.fields ps }:=x
    show h'.get? a=some { cls:=.none,data:=.fields ps }
    exact k a _ (.inl rfl) e
  | met f y =>
    have e:h.get? a=some (PySem.W.methodObj (.ref f) (.ref y)):=x
    show h'.get? a=some (PySem.W.methodObj (.ref f) (.ref y))
    exact k a _ (.inl rfl) e
  | ext φ=>obtain ⟨p,⟨o,e⟩,st⟩:=x; exact ⟨st _ _ p fun o q=>k _ _ (.inl rfl) q,⟨o,k _ _ (.inl rfl) e⟩,st⟩
theorem HOk.lt (x:HOk P w H h) (e:H a=some o):a < h.objs.size:=(x a o e).lt
theorem HOk.fresh (x:HOk P w H h) (e:h.objs.size≤a):H a=none:=by
  cases q:H a with
  | none=>rfl
  | some u=>exact absurd (Nat.lt_of_lt_of_le (x.lt q) e) (Nat.lt_irrefl _)
theorem HOk.kept (x:HOk P w H h) (k:∀ b u,h.get? b=some u→h'.get? b=some u):HOk P w H h':=fun a o e =>
  (x a o e).stay (fun b u _ q=>k b u q) (fun _ q=>q) fun _ _ q=>q
theorem HOk.laid (x:HOk P w H h) (k:∀ b u,h.get? b=some u→h'.get? b=some u) (hp:h.objs.size≤a) (new:ObjOk P w (upd H a o) h' a o):HOk P w (upd H a o) h':=fun b u e=>by
  have hn:=x.fresh hp
  by_cases hb:b=a
  · subst hb; rw [upd_same] at e; cases e; exact new
  · rw [upd_ne hb] at e
    exact (x b u e).stay (fun c v _ q=>k c v q) (fun c q=>by rw [upd_ne (ne_of_none q hn)]; exact q) fun c xs q=>by rw [upd_ne (ne_of_none q hn)]; exact q
end
def Rd (H:Hp) (a:Addr) (u:HO):Prop:=H a=some u∨∃ o,H a=some (.frz o u)
theorem Rd.ok {P:Program} {w:World} {H:Hp} {h:Heap} {a:Addr} {u:HO} (r:Rd H a u) (x:HOk P w H h):ObjOk P w H h a u:=by
  rcases r with r | ⟨o,r⟩
  · exact x a u r
  · obtain ⟨_,q⟩:=x a _ r
    exact q
def Mut:Option HO→Prop
  | some (.lst _)=>True
  | some (.dK _)=>True
  | some (.dT _)=>True
  | some (.set _ _)=>True
  | some (.ins _ _ _)=>True
  | some (.ext _)=>True
  | _=>False
section
variable {P:Program} {w:World} {H:Hp} {h h':Heap} {x e:Addr} {o':HO}
theorem HOk.write (ok:HOk P w H h) (mu:Mut (H x)) (he:e=x∨H e=some (.own x)) (k:∀ b u,b≠e→h.get? b=some u→h'.get? b=some u) (heo:∃ u,h'.get? e=some u)
    (new:ObjOk P w (upd H x o') h' x o'):HOk P w (upd H x o') h':=fun b u q=>by
  have nown:∀ c y,H c=some (.own y)→c≠x:=fun c y r z=>by subst z; rw [r] at mu; exact mu
  have ntup:∀ c xs,H c=some (.tup xs)→c≠x:=fun c xs r z=>by subst z; rw [r] at mu; exact mu
  by_cases hb:b=x
  · subst hb; rw [upd_same] at q; cases q; exact new
  · rw [upd_ne hb] at q
    by_cases hbe:b=e
    · have q':H b=some (.own x):=by
        rcases he with z | z
        · exact absurd (hbe.trans z) hb
        · rw [hbe]; exact z
      rw [q] at q'; cases q'
      obtain ⟨v,hv⟩:=heo
      exact ⟨v,by rw [hbe]; exact hv⟩
    · refine (ok b u q).stay (fun c v hc r=>k c v ?_ r) (fun c r=>by rw [upd_ne (nown c b r)]; exact r) fun c xs r=>by rw [upd_ne (ntup c xs r)]; exact r
      rcases hc with rfl | hc
      · exact hbe
      · rintro rfl
        rcases he with z | z
        · exact nown c b hc z
        · rw [hc] at z; cases z; exact hb rfl
end
structure Un (fs ex:List Addr) (H H':Hp) (h h':Heap):Prop where
  keep:∀ b o,h.get? b=some o→H b=none→b ∉ fs→b ∉ ex→h'.get? b=some o
  slot:∀ b o,h.get? b=some o→H b=none→b∈fs→b ∉ ex→∃ sl,h'.get? b=some { o with slots:=sl }
  free:∀ b o,h.get? b=some o→H b=none→b ∉ ex→H' b=none
  there:∀ b o,h.get? b=some o→b ∉ ex→∃ o',h'.get? b=some o'
  tups:∀ b xs,H b=some (.tup xs)→H' b=some (.tup xs)
  frzs:∀ b o u,H b=some (.frz o u)→H' b=some (.frz o u)
  tbls:∀ b ps,H b=some (.tbl ps)→∃ more,H' b=some (.tbl (ps ++ more))
section
variable {fs fs' ex ex':List Addr} {H H1 H2:Hp} {h h1 h2 h':Heap} {a x e:Addr} {o:HO}
theorem Un.any (u:Un fs ex H H1 h h1) {b:Addr} {ob:Obj} (q:h.get? b=some ob) (n:H b=none) (hx:b ∉ ex):∃ sl,h1.get? b=some { ob with slots:=sl }:=by
  by_cases hb:b∈fs
  · exact u.slot b ob q n hb hx
  · exact ⟨ob.slots,u.keep b ob q n hb hx⟩
theorem Un.kept (k:∀ b u,h.get? b=some u→h'.get? b=some u):Un fs ex H H h h' :=
  ⟨fun b ob q _ _ _=>k b ob q,fun b ob q _ _ _=>⟨ob.slots,k b ob q⟩,fun _ _ _ n _=>n,fun b ob q _=>⟨ob,k b ob q⟩,fun _ _ q=>q,fun _ _ _ q=>q,fun _ ps q=>⟨#[],by rw [q]; simp⟩⟩
theorem Un.refl:Un fs ex H H h h:=Un.kept fun _ _ q=>q
theorem Un.laid (k:∀ b u,h.get? b=some u→h'.get? b=some u) (hp:h.objs.size≤a) (hn:H a=none):Un fs ex H (upd H a o) h h' where
  keep:=fun b u q _ _ _=>k b u q
  slot:=fun b u q _ _ _=>⟨u.slots,k b u q⟩
  free:=fun b u q n _=>by rw [upd_ne (Nat.ne_of_lt (Nat.lt_of_lt_of_le (Heap.lt_size q) hp))]; exact n
  there:=fun b u q _=>⟨u,k b u q⟩
  tups:=fun b xs q=>by rw [upd_ne (ne_of_none q hn)]; exact q
  frzs:=fun b u xs q=>by rw [upd_ne (ne_of_none q hn)]; exact q
  tbls:=fun b ps q=>⟨#[],by rw [upd_ne (ne_of_none q hn),q]; simp⟩
theorem Un.write (mu:Mut (H x)) (he:e=x∨H e=some (.own x)) (k:∀ b u,b≠e→h.get? b=some u→h'.get? b=some u) (heo:∃ u,h'.get? e=some u):Un fs ex H (upd H x o) h h':=by
  have hx:∀ b,H b=none→b≠x:=fun b n z=>by subst z; rw [n] at mu; exact mu
  have hb:∀ b,H b=none→b≠e:=fun b n z=>by
    subst z
    rcases he with r | r
    · exact hx b n r
    · rw [n] at r; cases r
  have hm:∀ b u,H b=some u→¬ Mut (some u)→b≠x:=fun b u q nm z=>by subst z; rw [q] at mu; exact nm mu
  refine ⟨fun b u q n _ _=>k b u (hb b n) q,fun b u q n _ _=>⟨u.slots,k b u (hb b n) q⟩,fun b u q n _=>by rw [upd_ne (hx b n)]; exact n,fun b u q _=>?_,
    fun b xs q=>by rw [upd_ne (hm b _ q fun z=>z)]; exact q,fun b u xs q=>by rw [upd_ne (hm b _ q fun z=>z)]; exact q,fun b ps q=>⟨#[],by rw [upd_ne (hm b _ q fun z=>z),q]; simp⟩⟩
  by_cases hbe:b=e
  · subst hbe; exact heo
  · exact ⟨u,k b u hbe q⟩
end
def trk (h:Heap) (H:Hp):List Addr:=(List.range h.objs.size).filter fun a=>(H a).isSome
def hidT (h:Heap) (H:Hp):Heap:=PySem.W.hideAll h (trk h H)
theorem hidT_size (h:Heap) (H:Hp):(hidT h H).objs.size=h.objs.size:=PySem.W.hideAll_size _ _
theorem hidT_get {h:Heap} {H:Hp} {b:Addr} {o:Obj} (e:h.get? b=some o) (n:H b=none):(hidT h H).get? b=some o :=
  PySem.W.hideAll_get _ e fun hm=>by
    have q:(H b).isSome=true:=(List.mem_filter.mp hm).2
    rw [n] at q; simp at q
theorem of_hidT {h:Heap} {H:Hp} {b:Addr} {o:Obj} (e:(hidT h H).get? b=some o):h.get? b=some o∧H b=none:=by
  have e':h.get? b=some o:=PySem.W.of_hideAll (trk h H) e
  refine ⟨e',?_⟩
  cases q:H b with
  | none=>rfl
  | some x =>
    have hm:b∈trk h H:=List.mem_filter.mpr ⟨List.mem_range.mpr (Heap.lt_size e'),by simp [q]⟩
    have z:(hidT h H).get? b=none:=PySem.W.hideAll_none (trk h H) hm
    rw [z] at e; cases e
end L2
namespace L2
open PySem PySem.Spec PyProof.Rows
structure Mod (K:PySem.W.Frag) (mg:Str→Option Value) (base:Heap):Prop where
  kin:K.In base
  glob:base.Ns mainGlobals mg
  blt:∃ mb,base.Ns builtinsNs mb∧∀ x:Str,x≠"__name__"→mb x=bootBuiltins x
  nolimit:base.NoLimit
structure Cx where
  prog:Program
  w:World
  K:PySem.W.Frag
  mg:Str→Option Value
  base:Heap
  A:Around
  N:List Str
  s₀:Shared
  H₀:Hp
  env:Env
  outer:List Env
  stack:List Env
  ex:List Addr
  fn:Str→Bool
  calm:Bool
  pn:List (Addr × Obj)
  xe:Value→Shared→Prop
def frs (l:List Env):List Addr:=l.filterMap (·.frame)
abbrev Cx.fs (X:Cx):List Addr:=frs X.outer
def Vis (sc:Scope) (x:Str):Prop:=sc.names.lookup x=some .local∨sc.names.lookup x=some .cell∨sc.names.lookup x=some .free
def Loc (sc:Scope) (x:Str):Prop:=sc.names.lookup x=some .local∨sc.names.lookup x=some .cell
def Look (env:Env) (h:Heap) (m:Str→Option Value) (x:Str) (u:Value):Prop :=
  (env.kindOf x=some .local∧m x=some u)∨((env.kindOf x=some .cell∨env.kindOf x=some .free)∧∃ c,env.cells.lookup x=some c∧h.IsCell c (some u))
structure Cx.Ok (X:Cx):Prop where
  mod:Mod X.K X.mg X.base
  kind:X.env.scope.kind=.function
  glob:X.env.globals=mainGlobals
  blt:X.env.builtins=builtinsNs
  above:X.s₀.heap.objs.size≤X.env.locals
  inj:∀ x y c,X.env.cells.lookup x=some c→X.env.cells.lookup y=some c→x=y
  has:∀ x,(X.env.kindOf x=some .cell∨X.env.kindOf x=some .free)→∃ c,X.env.cells.lookup x=some c
  cab:∀ x c,X.fn x=true→X.env.cells.lookup x=some c→X.s₀.heap.objs.size≤c
  hd:X.calm=true→X.A.handled=none
  frames:X.A.frames=some X.stack
  stk:X.stack=X.outer∨(X.stack=X.env :: X.outer∧X.env.frame=some X.env.locals)
  exf:∀ b∈X.ex,b≠X.env.locals∧∀ x c,X.env.cells.lookup x=some c→c≠b
  bs:∀ b o,X.base.get? b=some o→X.s₀.heap.get? b=some o∧X.H₀ b=none
  bsz:X.base.objs.size≤X.s₀.heap.objs.size
  noex:∀ b o,X.base.get? b=some o→b ∉ X.ex
  exfs:∀ b∈X.ex,b ∉ X.fs
  funs:X.s₀.heap.FunFrames X.base X.outer
  frf:∀ b∈X.fs,X.H₀ b=none
structure Inv (X:Cx) (pins:List (Addr × Obj)) (σ:List (Option V)) (H:Hp) (s:Shared):Prop where
  ok:X.Ok
  os:s.os=X.s₀.os
  bare:AllBare s.gens
  base:Un X.fs X.ex X.H₀ H X.s₀.heap s.heap
  loc:∃ m,s.heap.Ns X.env.locals m∧∀ (i:Nat) (x:Str) (v:V),X.N[i]? = some x→σ[i]? = some (some v)→Vis X.env.scope x→∃ u,RelV v u∧Look X.env s.heap m x u
  cell:∀ x c,X.env.cells.lookup x=some c→∃ v,s.heap.IsCell c v
  free:H X.env.locals=none
  freeC:∀ x c,X.env.cells.lookup x=some c→H c=none
  pin:∀ p∈X.pn ++ pins,s.heap.get? p.1=some p.2∧H p.1=none∧p.1≠X.env.locals∧p.1 ∉ X.fs∧∀ v,p.2.data≠.cell v
  hok:HOk X.prog X.w H s.heap
  len:σ.length=X.N.length
section
variable {X:Cx} {pins:List (Addr × Obj)} {σ:List (Option V)} {H H':Hp} {s:Shared} {h':Heap}
theorem Cx.Ok.nofr (ok:X.Ok) {b:Addr} {o:Obj} (e:X.base.get? b=some o):b ∉ X.fs:=fun hb=>by
  have:=(ok.funs.mem hb).1
  rw [e] at this; cases this
theorem Inv.bs (I:Inv X pins σ H s):∀ b o,X.base.get? b=some o→s.heap.get? b=some o∧H b=none:=fun b o e =>
  ⟨I.base.keep b o (I.ok.bs b o e).1 (I.ok.bs b o e).2 (I.ok.nofr e) (I.ok.noex b o e),I.base.free b o (I.ok.bs b o e).1 (I.ok.bs b o e).2 (I.ok.noex b o e)⟩
theorem Inv.bk (I:Inv X pins σ H s):∀ b o,X.base.get? b=some o→s.heap.get? b=some o:=fun b o e=>(I.bs b o e).1
theorem Inv.mod (I:Inv X pins σ H s):Mod X.K X.mg X.base:=I.ok.mod
theorem Inv.kIn (I:Inv X pins σ H s):X.K.In s.heap:=I.ok.mod.kin.keeps I.bk
theorem Inv.nolimit (I:Inv X pins σ H s):s.heap.NoLimit:=I.ok.mod.nolimit.keeps I.bk
theorem Inv.lt (I:Inv X pins σ H s):X.env.locals < s.heap.objs.size:=let ⟨_,hn,_⟩:=I.loc; hn.lt
theorem Inv.sz (I:Inv X pins σ H s):X.s₀.heap.objs.size≤s.heap.objs.size:=Nat.le_trans I.ok.above (Nat.le_of_lt I.lt)
theorem Inv.nofs (I:Inv X pins σ H s) {a:Addr} (h:s.heap.objs.size≤a):a ∉ X.fs:=fun hb=>by
  obtain ⟨_,o,ho,_⟩:=I.ok.funs.mem hb
  exact absurd (Nat.lt_of_lt_of_le (Heap.lt_size ho) (Nat.le_trans I.sz h)) (Nat.lt_irrefl _)
theorem Inv.cne (I:Inv X pins σ H s):∀ x c,X.env.cells.lookup x=some c→c≠X.env.locals:=fun x c e z=>by
  obtain ⟨v,o,ho,hd⟩:=I.cell x c e
  obtain ⟨m,⟨o',es,ep,ho',hd',_⟩,_⟩:=I.loc
  rw [z,ho'] at ho; cases ho; rw [hd'] at hd; cases hd
theorem Inv.funs (I:Inv X pins σ H s):s.heap.FunFrames X.base X.outer:=by
  have all:∀ (l:List Env),(∀ b∈frs l,b∈X.fs)→X.s₀.heap.FunFrames X.base l→s.heap.FunFrames X.base l:=by
    intro l
    induction l with
    | nil=>intro _ _; trivial
    | cons env r ih =>
      intro hs hl
      obtain ⟨hk,⟨L,o,hf,hn,ho,hd⟩,hr⟩:=hl
      have hL:L∈X.fs:=hs L (by unfold frs; rw [List.filterMap_cons,hf]; exact List.mem_cons_self)
      obtain ⟨sl,e⟩:=I.base.slot L o ho (I.ok.frf L hL) hL fun z=>I.ok.exfs L z hL
      exact ⟨hk,⟨L,_,hf,hn,e,hd⟩,ih (fun b hb=>hs b (by unfold frs; rw [List.filterMap_cons,hf]; exact List.mem_cons_of_mem _ hb)) hr⟩
  exact all X.outer (fun _ hb=>hb) I.ok.funs
theorem Inv.stack (I:Inv X pins σ H s):s.heap.FunFrames X.base X.stack:=by
  rcases I.ok.stk with e | ⟨e,hf⟩
  · rw [e]; exact I.funs
  · rw [e]
    obtain ⟨m,hn,_⟩:=I.loc
    refine .cons (by rw [I.ok.kind]; decide) hf hn ?_ I.funs
    exact Heap.get?_none_of_le (Nat.le_trans I.ok.bsz I.ok.above)
theorem Inv.stkSub (I:Inv X pins σ H s):∀ b∈frs X.stack,b∈X.env.locals :: X.fs:=fun b hb=>by
  rcases I.ok.stk with e | ⟨e,hf⟩
  · rw [e] at hb; exact List.mem_cons_of_mem _ hb
  · rw [e] at hb
    unfold frs at hb
    rw [List.filterMap_cons,hf] at hb
    exact hb
theorem Inv.stkFree (I:Inv X pins σ H s):∀ b∈frs X.stack,H b=none:=fun b hb=>by
  rcases List.mem_cons.mp (I.stkSub b hb) with e | hb
  · rw [e]; exact I.free
  · obtain ⟨_,o,ho,_⟩:=I.ok.funs.mem hb
    exact I.base.free b o ho (I.ok.frf b hb) fun z=>I.ok.exfs b z hb
theorem Inv.step {g':Array GenState} {t':Nat} {d':Drawn} {ch:List Addr} (I:Inv X pins σ H s)
    (hch:∀ b∈ch,(b∈X.ex∨X.s₀.heap.objs.size≤b)∧b≠X.env.locals∧(∀ x c,X.env.cells.lookup x=some c→c≠b)∧∀ p∈X.pn ++ pins,p.1≠b)
    (keep:∀ b o,b≠X.env.locals→b ∉ X.fs→b ∉ ch→s.heap.get? b=some o→H b=none→h'.get? b=some o)
    (slot:∀ b o,b≠X.env.locals→b∈X.fs→b ∉ ch→s.heap.get? b=some o→H b=none→∃ sl,h'.get? b=some { o with slots:=sl }) (free:∀ b o,b ∉ ch→s.heap.get? b=some o→H b=none→H' b=none)
    (there:∀ b o,b ∉ ch→s.heap.get? b=some o→∃ o',h'.get? b=some o')
    (tups:∀ b xs,H b=some (.tup xs)→H' b=some (.tup xs)) (frzs:∀ b o u,H b=some (.frz o u)→H' b=some (.frz o u)) (tbls:∀ b ps,H b=some (.tbl ps)→∃ more,H' b=some (.tbl (ps ++ more)))
    (ns:∀ m,s.heap.Ns X.env.locals m→h'.Ns X.env.locals m) (hok:HOk X.prog X.w H' h') (hg:AllBare g') :
    Inv X pins σ H' { s with heap:=h',gens:=g',drawn:=d',toks:=t' }:=by
  have neL:∀ b o,X.s₀.heap.get? b=some o→b≠X.env.locals:=fun b o e=>Nat.ne_of_lt (Nat.lt_of_lt_of_le (Heap.lt_size e) I.ok.above)
  have neC:∀ b o,X.s₀.heap.get? b=some o→b ∉ X.ex→b ∉ ch:=fun b o e hx hb=>by
    rcases (hch b hb).1 with z | z
    · exact hx z
    · exact absurd (Nat.lt_of_lt_of_le (Heap.lt_size e) z) (Nat.lt_irrefl _)
  have cellK:∀ x c,X.env.cells.lookup x=some c→∀ v,s.heap.IsCell c v→h'.IsCell c v:=fun x c e v ⟨o,ho,hd⟩=>by
    have nch:c ∉ ch:=fun z=>(hch c z).2.2.1 x c e rfl
    by_cases hc:c∈X.fs
    · obtain ⟨sl,q⟩:=slot c o (I.cne x c e) hc nch ho (I.freeC x c e)
      exact ⟨_,q,hd⟩
    · exact ⟨o,keep c o (I.cne x c e) hc nch ho (I.freeC x c e),hd⟩
  refine ⟨I.ok,I.os,hg,⟨fun b o e n hb hx=>?_,fun b o e n hb hx=>?_,fun b o e n hx=>?_,fun b o e hx=>?_,fun b xs e=>tups b xs (I.base.tups b xs e),fun b o xs e=>frzs b o xs (I.base.frzs b o xs e),fun b ps e=>?_⟩,?_,fun x c e=>?_,?_,fun x c e=>?_,fun p hp=>?_,hok,I.len⟩
  · exact keep b o (neL b o e) hb (neC b o e hx) (I.base.keep b o e n hb hx) (I.base.free b o e n hx)
  · obtain ⟨sl,e1⟩:=I.base.slot b o e n hb hx
    obtain ⟨sl',e2⟩:=slot b _ (neL b o e) hb (neC b o e hx) e1 (I.base.free b o e n hx)
    exact ⟨sl',e2⟩
  · obtain ⟨o',e1⟩:=I.base.there b o e hx
    exact free b o' (neC b o e hx) e1 (I.base.free b o e n hx)
  · obtain ⟨o',e1⟩:=I.base.there b o e hx
    exact there b o' (neC b o e hx) e1
  · obtain ⟨m1,e1⟩:=I.base.tbls b ps e
    obtain ⟨m2,e2⟩:=tbls b _ e1
    exact ⟨m1 ++ m2,by rw [e2,Array.append_assoc]⟩
  · obtain ⟨m,hn,hl⟩:=I.loc
    refine ⟨m,ns m hn,fun i x v e1 e2 e3=>?_⟩
    obtain ⟨u,r,l⟩:=hl i x v e1 e2 e3
    refine ⟨u,r,?_⟩
    rcases l with l | ⟨k,c,e,z⟩
    · exact .inl l
    · exact .inr ⟨k,c,e,cellK x c e _ z⟩
  · obtain ⟨v,z⟩:=I.cell x c e
    exact ⟨v,cellK x c e v z⟩
  · obtain ⟨m,⟨o,_,_,ho,_⟩,_⟩:=I.loc
    exact free _ o (fun z=>(hch _ z).2.1 rfl) ho I.free
  · obtain ⟨v,o,ho,hd⟩:=I.cell x c e
    exact free c o (fun z=>(hch c z).2.2.1 x c e rfl) ho (I.freeC x c e)
  · obtain ⟨e,n,ne,nf,d⟩:=I.pin p hp
    have nch:p.1 ∉ ch:=fun z=>(hch p.1 z).2.2.2 p hp rfl
    exact ⟨keep p.1 p.2 ne nf nch e n,free p.1 p.2 nch e n,ne,nf,d⟩
theorem Inv.un {t':Nat} (I:Inv X pins σ H s) (u:Un X.fs [] H H' s.heap h') (hok:HOk X.prog X.w H' h'):Inv X pins σ H' { s with heap:=h',toks:=t' }:=by
  obtain ⟨m,⟨o,es,ep,ho,r⟩,_⟩:=id I.loc
  obtain ⟨sl,hL⟩:=u.any ho I.free (by simp)
  exact I.step (g':=s.gens) (d':=s.drawn) (ch:=[]) (fun _ z=>nomatch z) (fun b o _ hb _ e n=>u.keep b o e n hb (by simp)) (fun b o _ hb _ e n=>u.slot b o e n hb (by simp)) (fun b o _ e n=>u.free b o e n (by simp)) (fun b o _ e=>u.there b o e (by simp)) u.tups u.frzs u.tbls (fun m' hm=>by
    obtain ⟨o',es',ep',ho',r'⟩:=hm
    rw [ho] at ho'; cases ho'
    exact ⟨_,es',ep',hL,r'⟩) hok I.bare
theorem Inv.call {g':Array GenState} {t':Nat} {d':Drawn} {ch:List Addr} (I:Inv X pins σ H s) (u:Un (frs X.stack) ch H H' s.heap h') (hok:HOk X.prog X.w H' h') (hg:AllBare g')
    (hch:∀ b∈ch,(b∈X.ex∨X.s₀.heap.objs.size≤b)∧b≠X.env.locals∧(∀ x c,X.env.cells.lookup x=some c→c≠b)∧∀ p∈X.pn ++ pins,p.1≠b) :
    Inv X pins σ H' { s with heap:=h',gens:=g',drawn:=d',toks:=t' }:=by
  obtain ⟨m,⟨o,es,ep,ho,r⟩,_⟩:=id I.loc
  obtain ⟨sl,hL⟩:=u.any ho I.free fun z=>(hch _ z).2.1 rfl
  exact I.step (ch:=ch) hch (fun b o hL hb hc e n=>u.keep b o e n (fun z=>(List.mem_cons.mp (I.stkSub b z)).elim hL hb) hc) (fun b o _ _ hc e n=>u.any e n hc) (fun b o hc e n=>u.free b o e n hc) (fun b o hc e=>u.there b o e hc) u.tups u.frzs u.tbls (fun m' hm=>by
    obtain ⟨o',es',ep',ho',r'⟩:=hm
    rw [ho] at ho'; cases ho'
    exact ⟨_,es',ep',hL,r'⟩) hok hg
theorem Inv.turned {t':Nat} {it:Addr} (I:Inv X pins σ H s) (k:∀ b o,b≠it→s.heap.get? b=some o→h'.get? b=some o) (hn:H it=none) (hL:it≠X.env.locals)
    (h1:it∈X.ex∨X.s₀.heap.objs.size≤it) (h2:∀ x c,X.env.cells.lookup x=some c→c≠it) (h3:∀ p∈X.pn ++ pins,p.1≠it):Inv X pins σ H { s with heap:=h',toks:=t' }:=by
  have nit:∀ b u,H b=some u→b≠it:=fun b u e z=>by rw [z,hn] at e; cases e
  refine I.step (g':=s.gens) (d':=s.drawn) (ch:=[it]) (fun b hb=>?_) (fun b o _ _ hc e _=>k b o (fun z=>hc (by simp [z])) e) (fun b o _ _ hc e _=>⟨o.slots,k b o (fun z=>hc (by simp [z])) e⟩) (fun _ _ _ _ n=>n)
    (fun b o hc e=>⟨o,k b o (fun z=>hc (by simp [z])) e⟩) (fun _ _ e=>e) (fun _ _ _ e=>e) (fun b ps e=>⟨#[],by rw [e]; simp⟩) (fun m hm=>?_) (fun b u e=>?_) I.bare
  · have e:b=it:=by simpa using hb
    subst e
    exact ⟨h1,hL,h2,h3⟩
  · obtain ⟨o,es,ep,ho,r⟩:=hm
    exact ⟨o,es,ep,k _ o (Ne.symm hL) ho,r⟩
  · refine (I.hok b u e).stay (fun c v hc q=>k c v ?_ q) (fun _ q=>q) fun _ _ q=>q
    rcases hc with z | z
    · rw [z]; exact nit b u e
    · exact nit c _ z
theorem Inv.tok (I:Inv X pins σ H s) (t:Nat):Inv X pins σ H { s with toks:=t }:=I.un (h':=s.heap) (t':=t) Un.refl I.hok
theorem Inv.kept {t':Nat} (I:Inv X pins σ H s) (k:∀ b u,s.heap.get? b=some u→h'.get? b=some u):Inv X pins σ H { s with heap:=h',toks:=t' }:=I.un (Un.kept k) (I.hok.kept k)
theorem Inv.laid {a:Addr} {o:HO} {t':Nat} (I:Inv X pins σ H s) (k:∀ b u,s.heap.get? b=some u→h'.get? b=some u) (hp:s.heap.objs.size≤a) (new:ObjOk X.prog X.w (upd H a o) h' a o) :
    Inv X pins σ (upd H a o) { s with heap:=h',toks:=t' }:=I.un (Un.laid k hp (I.hok.fresh hp)) (I.hok.laid k hp new)
theorem Inv.write {x e:Addr} {o:HO} {t':Nat} (I:Inv X pins σ H s) (mu:Mut (H x)) (he:e=x∨H e=some (.own x)) (k:∀ b u,b≠e→s.heap.get? b=some u→h'.get? b=some u) (heo:∃ u,h'.get? e=some u)
    (new:ObjOk X.prog X.w (upd H x o) h' x o):Inv X pins σ (upd H x o) { s with heap:=h',toks:=t' }:=I.un (Un.write mu he k heo) (I.hok.write mu he k heo new)
theorem Inv.weak {σ':List (Option V)} (I:Inv X pins σ H s) (hl:σ'.length=σ.length) (w:∀ (i:Nat) v,σ'[i]? = some (some v)→σ[i]? = some (some v)):Inv X pins σ' H s :=
  ⟨I.ok,I.os,I.bare,I.base,let ⟨m,hn,hl'⟩:=I.loc; ⟨m,hn,fun i x v e1 e2 e3=>hl' i x v e1 (w i v e2) e3⟩,I.cell,I.free,I.freeC,I.pin,I.hok,hl.trans I.len⟩
theorem Inv.pins_of {pins':List (Addr × Obj)} (I:Inv X pins σ H s) (h:∀ p∈pins',s.heap.get? p.1=some p.2∧H p.1=none∧p.1≠X.env.locals∧p.1 ∉ X.fs∧∀ v,p.2.data≠.cell v):Inv X pins' σ H s :=
  ⟨I.ok,I.os,I.bare,I.base,I.loc,I.cell,I.free,I.freeC,fun p hp=>(List.mem_append.mp hp).elim (fun z=>I.pin p (List.mem_append_left _ z)) (h p),I.hok,I.len⟩
theorem nodup_ix {N:List Str} (hN:N.Nodup) {i j:Nat} {x:Str} (a:N[i]? = some x) (b:N[j]? = some x):i=j:=by
  obtain ⟨h1,e1⟩:=List.getElem?_eq_some_iff.mp a
  obtain ⟨h2,e2⟩:=List.getElem?_eq_some_iff.mp b
  exact (List.getElem_inj hN).mp (e1.trans e2.symm)
theorem store_ok2 {M:Model} {A:Around} {E:Value→Shared→Prop} {i:Nat} {x:Str} {v:V} {u:Value} {Q:Unit→Shared→Prop} (I:Inv X pins σ H s) (hN:X.N.Nodup) (hi:X.N[i]? = some x) (hx:Loc X.env.scope x) (r:RelV v u)
    (h:∀ s',Inv X pins (σ.set i (some v)) H s'→(∃ a,Heap.SameBut a s.heap s'.heap∧(a=X.env.locals∨X.env.cells.lookup x=some a))→Q () s') (hf:X.fn x=true∨X.env.scope.names.lookup x=some .local:=by first | exact .inl rfl | exact .inr rfl | assumption):wpAny M A (storeName X.env x u) Q E s:=by
  obtain ⟨m,hn,hl⟩:=id I.loc
  have hcls:(X.env.scope.kind == .class || (X.env.scope.kind == .module && X.env.locals != X.env.globals))=false:=by rw [I.ok.kind]; rfl
  have hiσ:i < σ.length:=by rw [I.len]; exact (List.getElem?_eq_some_iff.mp hi).1
  have cne:=I.cne
  have tracked:∀ {a:Addr} {h':Heap},(∃ o,s.heap.get? a=some o∧H a=none)→Heap.SameBut a s.heap h'→HOk X.prog X.w H h':=fun {a h'} ha hs b ob e=>by
    obtain ⟨_,_,hfree⟩:=ha
    refine (I.hok b ob e).stay (fun c w' hc q=>(hs.2 c ?_).trans q) (fun _ q=>q) fun _ _ q=>q
    rintro rfl
    rcases hc with rfl | hc
    · rw [hfree] at e; cases e
    · rw [hfree] at hc; cases hc
  rcases hx with hk | hk
  · refine wpAny_storeName_local hk hn (fun h' hn' hs=>?_) hcls
    obtain ⟨oL,_,_,hoL,_⟩:=id hn
    refine h _ ⟨I.ok,I.os,I.bare,⟨fun b o e n hb hx=>?_,fun b o e n hb hx=>?_,I.base.free,fun b o e hx=>?_,I.base.tups,I.base.frzs,I.base.tbls⟩,⟨_,hn',fun j y v' e1 e2 e3=>?_⟩,fun y c e=>?_,I.free,I.freeC,fun p hp=>?_,tracked ⟨oL,hoL,I.free⟩ hs,by simpa using I.len⟩ ⟨_,hs,.inl rfl⟩
    · exact (hs.2 b (Nat.ne_of_lt (Nat.lt_of_lt_of_le (Heap.lt_size e) I.ok.above))).trans (I.base.keep b o e n hb hx)
    · obtain ⟨sl,e1⟩:=I.base.slot b o e n hb hx
      exact ⟨sl,(hs.2 b (Nat.ne_of_lt (Nat.lt_of_lt_of_le (Heap.lt_size e) I.ok.above))).trans e1⟩
    · obtain ⟨o',e1⟩:=I.base.there b o e hx
      exact ⟨o',(hs.2 b (Nat.ne_of_lt (Nat.lt_of_lt_of_le (Heap.lt_size e) I.ok.above))).trans e1⟩
    · by_cases hj:j=i
      · subst hj
        rw [hi] at e1; cases e1
        rw [List.getElem?_set_self hiσ] at e2
        cases e2
        exact ⟨u,r,.inl ⟨hk,by simp⟩⟩
      · rw [List.getElem?_set_ne (Ne.symm hj)] at e2
        obtain ⟨u',r',q⟩:=hl j y v' e1 e2 e3
        refine ⟨u',r',?_⟩
        rcases q with ⟨k,e⟩ | ⟨k,c,e,z⟩
        · refine .inl ⟨k,?_⟩
          have:y≠x:=fun e=>hj (nodup_ix hN e1 (e ▸ hi))
          simp [this,e]
        · exact .inr ⟨k,c,e,z.sameBut hs (cne y c e)⟩
    · obtain ⟨w',z⟩:=I.cell y c e
      exact ⟨w',z.sameBut hs (cne y c e)⟩
    · obtain ⟨e,n,ne,nf,d⟩:=I.pin p hp
      exact ⟨(hs.2 p.1 ne).trans e,n,ne,nf,d⟩
  · have hfn:X.fn x=true:=by
      rcases hf with z | z
      · exact z
      · rw [z] at hk; cases hk
    obtain ⟨c,hc⟩:=I.ok.has x (.inl hk)
    obtain ⟨w',z⟩:=I.cell x c hc
    refine wpAny_storeName_cell I.ok.kind hk hc z (fun h' hc' hs=>?_)
    obtain ⟨oc,hoc,hocd⟩:=id z
    refine h { s with heap:=h' } ⟨I.ok,I.os,I.bare,⟨fun b o e n hb hx=>?_,fun b o e n hb hx=>?_,I.base.free,fun b o e hx=>?_,I.base.tups,I.base.frzs,I.base.tbls⟩,⟨m,hn.sameBut hs (Ne.symm (cne x c hc)),fun j y v' e1 e2 e3=>?_⟩,fun y c' e=>?_,I.free,I.freeC,fun p hp=>?_,tracked ⟨oc,hoc,I.freeC x c hc⟩ hs,by simpa using I.len⟩ ⟨c,hs,.inr hc⟩
    · exact (hs.2 b (Nat.ne_of_lt (Nat.lt_of_lt_of_le (Heap.lt_size e) (I.ok.cab x c hfn hc)))).trans (I.base.keep b o e n hb hx)
    · obtain ⟨sl,e1⟩:=I.base.slot b o e n hb hx
      exact ⟨sl,(hs.2 b (Nat.ne_of_lt (Nat.lt_of_lt_of_le (Heap.lt_size e) (I.ok.cab x c hfn hc)))).trans e1⟩
    · obtain ⟨o',e1⟩:=I.base.there b o e hx
      exact ⟨o',(hs.2 b (Nat.ne_of_lt (Nat.lt_of_lt_of_le (Heap.lt_size e) (I.ok.cab x c hfn hc)))).trans e1⟩
    · by_cases hj:j=i
      · subst hj
        rw [hi] at e1; cases e1
        rw [List.getElem?_set_self hiσ] at e2
        cases e2
        exact ⟨u,r,.inr ⟨.inl hk,c,hc,hc'⟩⟩
      · rw [List.getElem?_set_ne (Ne.symm hj)] at e2
        obtain ⟨u',r',q⟩:=hl j y v' e1 e2 e3
        refine ⟨u',r',?_⟩
        rcases q with q | ⟨k,c',e,z'⟩
        · exact .inl q
        · refine .inr ⟨k,c',e,z'.sameBut hs ?_⟩
          rintro rfl
          exact hj (nodup_ix hN e1 (I.ok.inj _ _ _ e hc ▸ hi))
    · by_cases hcc:c'=c
      · subst hcc; exact ⟨_,hc'⟩
      · obtain ⟨w2,z2⟩:=I.cell y c' e
        exact ⟨w2,z2.sameBut hs hcc⟩
    · obtain ⟨e,n,ne,nf,d⟩:=I.pin p hp
      refine ⟨(hs.2 p.1 ?_).trans e,n,ne,nf,d⟩
      intro q
      rw [q,hoc] at e
      have q':oc=p.2:=Option.some.inj e
      exact d w' (by rw [← q']; exact hocd)
theorem store_ok {M:Model} {A:Around} {E:Value→Shared→Prop} {i:Nat} {x:Str} {v:V} {u:Value} {Q:Unit→Shared→Prop} (I:Inv X pins σ H s) (hN:X.N.Nodup) (hi:X.N[i]? = some x) (hx:Loc X.env.scope x) (r:RelV v u)
    (h:∀ s',Inv X pins (σ.set i (some v)) H s'→Q () s') (hf:X.fn x=true∨X.env.scope.names.lookup x=some .local:=by first | exact .inl rfl | exact .inr rfl | assumption):wpAny M A (storeName X.env x u) Q E s :=
  store_ok2 I hN hi hx r (fun s' I' _=>h s' I') hf
theorem Inv.call' {s':Shared} {ch:List Addr} (I:Inv X pins σ H s) (ho:s'.os=s.os) (u:Un (frs X.stack) ch H H' s.heap s'.heap) (hok:HOk X.prog X.w H' s'.heap) (hg:AllBare s'.gens)
    (hch:∀ b∈ch,(b∈X.ex∨X.s₀.heap.objs.size≤b)∧b≠X.env.locals∧(∀ x c,X.env.cells.lookup x=some c→c≠b)∧∀ p∈X.pn ++ pins,p.1≠b):Inv X pins σ H' s':=by
  obtain ⟨h',g',d',t',o'⟩:=s'
  have e:o'=s.os:=ho
  subst e
  exact I.call (g':=g') (t':=t') (d':=d') u hok hg hch
end
abbrev XK:=Value→Option Addr→Hp→Prop
abbrev St:=List (Option V)
abbrev VK:=V→Hp→Prop
abbrev TE:=St→Hp→VK→Prop
abbrev TT:=St→Hp→(Bool→Hp→Prop)→Prop
abbrev TA:=St→Hp→(List V→Hp→Prop)→Prop
structure Ends where
  nx:St→Hp→Prop
  rt:VK
  bk:St→Hp→Prop:=fun _ _=>False
  ct:St→Hp→Prop:=fun _ _=>False
abbrev TS:=Ends→St→Hp→Prop
def EP (X:Cx) (pins:List (Addr × Obj)) (σ:St) (Q:VK) (u:Value) (s':Shared):Prop:=∃ v H',Inv X pins σ H' s'∧RelV v u∧Q v H'
def TP (X:Cx) (pins:List (Addr × Obj)) (σ:St) (Q:Bool→Hp→Prop) (b:Bool) (s':Shared):Prop:=∃ H',Inv X pins σ H' s'∧Q b H'
def AP (X:Cx) (pins:List (Addr × Obj)) (σ:St) (Q:List V→Hp→Prop) (us:List Value) (s':Shared):Prop:=∃ vs H',Inv X pins σ H' s'∧Vals vs us∧Q vs H'
def SP (X:Cx) (pins:List (Addr × Obj)) (D:Ends) (f:Flow) (s':Shared):Prop :=
  match f with
  | .next => ∃ σ' H',Inv X pins σ' H' s'∧D.nx σ' H'
  | .brk => ∃ σ' H',Inv X pins σ' H' s'∧D.bk σ' H'
  | .cont => ∃ σ' H',Inv X pins σ' H' s'∧D.ct σ' H'
  | .ret u => ∃ v σ' H',Inv X pins σ' H' s'∧RelV v u∧D.rt v H'
def PE (X:Cx) (e:Expr) (t:TE):Prop :=
  ∀ (pins:List (Addr × Obj)) (s:Shared) (σ:St) (H:Hp) (Q:VK),Inv X pins σ H s→t σ H Q→wpAny (model X.prog X.w) X.A (eval e X.env) (EP X pins σ Q) X.xe s
def PT (X:Cx) (e:Expr) (t:TT):Prop :=
  ∀ (pins:List (Addr × Obj)) (s:Shared) (σ:St) (H:Hp) (Q:Bool→Hp→Prop),Inv X pins σ H s→t σ H Q→wpAny (model X.prog X.w) X.A (isTrue e X.env (eval e X.env)) (TP X pins σ Q) X.xe s
def PW (X:Cx) (e:Expr) (t:TT):Prop :=
  ∀ (whole:Sem Value) (pins:List (Addr × Obj)) (s:Shared) (σ:St) (H:Hp) (Q:Bool→Hp→Prop),Inv X pins σ H s→t σ H Q→wpAny (model X.prog X.w) X.A (isTrue e X.env whole) (TP X pins σ Q) X.xe s
theorem PW.pt {X:Cx} {e:Expr} {t:TT} (h:PW X e t):PT X e t:=h _
def PA (X:Cx) (es:List Expr) (t:TA):Prop :=
  ∀ (pos:Pos) (pins:List (Addr × Obj)) (s:Shared) (σ:St) (H:Hp) (Q:List V→Hp→Prop),Inv X pins σ H s→t σ H Q→wpAny (model X.prog X.w) X.A (spliced (backTo pos (starEach es X.env))) (AP X pins σ Q) X.xe s
def PS (X:Cx) (st:Stmt) (t:TS):Prop :=
  ∀ (pins:List (Addr × Obj)) (s:Shared) (σ:St) (H:Hp) (D:Ends),Inv X pins σ H s→t D σ H→wpAny (model X.prog X.w) X.A (exec st X.env) (SP X pins D) X.xe s
def PSs (X:Cx) (st:List Stmt) (t:TS):Prop :=
  ∀ (pins:List (Addr × Obj)) (s:Shared) (σ:St) (H:Hp) (D:Ends),Inv X pins σ H s→t D σ H→wpAny (model X.prog X.w) X.A (execs st X.env) (SP X pins D) X.xe s
theorem thn {α:Type} {t:Sem α} {Q Q':α→Shared→Prop} {M:Model} {A:Around} {E:Value→Shared→Prop} {s:Shared} (h:wpAny M A t Q E s) (hQ:∀ a s,Q a s→Q' a s):wpAny M A t Q' E s:=wpAny_mono h hQ fun _ _ x=>x
end L2
namespace L2
open PySem PySem.Spec PyProof.Rows
section
variable {X:Cx}
def tVar (i:Nat):TE:=fun σ H Q => ∃ v,σ[i]? = some (some v)∧Q v H
def tC (v:V):TE:=fun _ H Q=>Q v H
theorem pe_var {i:Nat} {x:Str} {pos:Pos} (hN:X.N[i]? = some x) (hv:Vis X.env.scope x) (hd:(x == ("__debug__" : Str))=false:=by decide) (hcd:(x == ("__classdict__" : Str))=false:=by decide):PE X (.Name x pos) (tVar i):=by
  intro pins s σ H Q I h
  obtain ⟨v,e,h⟩:=h
  obtain ⟨m,hn,hl⟩:=I.loc
  obtain ⟨u,r,l⟩:=hl i x v hN e hv
  have fin:EP X pins σ Q u s:=⟨v,H,I,r,h⟩
  rcases l with ⟨hk,hm⟩ | ⟨hk,c,hc,hcell⟩
  · exact wpAny_Name (wpAny_loadName_local I.ok.kind hk hn hm fin) hd
  · rcases hk with hk | hk
    · exact wpAny_Name (wpAny_loadName_cell I.ok.kind hk hc hcell fin) hd
    · exact wpAny_Name (wpAny_loadName_free I.ok.kind hk hc hcell fin hcd) hd
theorem pe_int {i j pos}:PE X (.Constant (.int i) j pos) (tC (.int i)):=fun _ _ _ H _ I h=>wpAny_Constant_int ⟨.int i,H,I.tok _,⟨_,rfl⟩,h⟩
theorem pe_bl {b j pos}:PE X (.Constant (.bool b) j pos) (tC (.bl b)):=fun _ _ _ H _ I h=>Constant_bool ⟨.bl b,H,I,rfl,h⟩
theorem pe_non {j pos}:PE X (.Constant .none j pos) (tC .non):=fun _ _ _ H _ I h=>Constant_none ⟨.non,H,I,rfl,h⟩
theorem pe_str {x j pos}:PE X (.Constant (.str x) j pos) (tC (.str x)):=fun _ _ _ H _ I h=>Calls.Constant_str ⟨.str x,H,I.tok _,⟨_,rfl⟩,h⟩
def Gl (X:Cx) (x:Str):Prop:=X.env.kindOf x=some .globalImplicit
theorem ld_glob {E:Value→Shared→Prop} {pins:List (Addr × Obj)} {s:Shared} {σ:St} {H:Hp} {x:Str} {u:Value} {pos:Pos} {Q:Value→Shared→Prop} (I:Inv X pins σ H s) (hg:Gl X x) (hm:X.mg x=some u) (h:Q u s)
    (hd:(x == ("__debug__" : Str))=false:=by decide):wpAny (model X.prog X.w) X.A (eval (.Name x pos) X.env) Q E s :=
  Calls.Name_function_global I.ok.kind hg (Calls.loadGlobal_global (by rw [I.ok.glob]; exact I.mod.glob.keeps I.bk) hm h) hd
theorem ld_blt {E:Value→Shared→Prop} {pins:List (Addr × Obj)} {s:Shared} {σ:St} {H:Hp} {x:Str} {u:Value} {pos:Pos} {Q:Value→Shared→Prop} (I:Inv X pins σ H s) (hg:Gl X x) (hm:X.mg x=none) (hv:bootBuiltins x=some u) (h:Q u s)
    (hn:x≠"__name__" := by decide) (hd:(x == ("__debug__" : Str))=false:=by decide):wpAny (model X.prog X.w) X.A (eval (.Name x pos) X.env) Q E s:=by
  obtain ⟨mb,h1,h2⟩:=I.mod.blt
  exact Calls.Name_function_global I.ok.kind hg (Calls.loadGlobal_builtin (by rw [I.ok.glob]; exact I.mod.glob.keeps I.bk) hm (by rw [I.ok.blt]; exact h1.keeps I.bk) ((h2 x hn).trans hv) h) hd
theorem pe_glob {x:Str} {v:V} {u:Value} {pos:Pos} (hg:Gl X x) (hm:X.mg x=some u) (r:RelV v u) (hd:(x == ("__debug__" : Str))=false:=by decide):PE X (.Name x pos) (tC v) :=
  fun _ _ _ H _ I h=>ld_glob I hg hm ⟨v,H,I,r,h⟩ hd
theorem pe_bltn {x:Str} {v:V} {u:Value} {pos:Pos} (hg:Gl X x) (hm:X.mg x=none) (hv:bootBuiltins x=some u) (r:RelV v u) (hn:x≠"__name__" := by decide) (hd:(x == ("__debug__" : Str))=false:=by decide):PE X (.Name x pos) (tC v) :=
  fun _ _ _ H _ I h=>ld_blt I hg hm hv ⟨v,H,I,r,h⟩ hn hd
variable {a b:Expr} {ta tb:TE} {pos:Pos}
def tB (t:TE):TT:=fun σ H Q=>t σ H fun x H1 => ∃ c,x=.bl c∧Q c H1
theorem pt_val {e:Expr} {t:TE} (h:PE X e t) (he:∀ whole,isTrue e X.env whole=(do let v ← whole; standAt e.pos; holding [v] (truthy v)):=by intro _; rfl):PT X e (tB t):=by
  intro pins s σ H Q I hw
  refine isTrue_plain (thn (h pins s σ H _ I hw) fun v s1 ⟨x,H1,I1,r1,q1⟩=>?_) (he _)
  obtain ⟨d,rfl,q⟩:=q1
  cases r1
  exact wpAny_truthy_bool ⟨H1,I1,q⟩
variable {tA tB':TT} {rest:List Expr}
def tAnd (t u:TT):TT:=fun σ H Q=>t σ H fun c H1=>if c=true then u σ H1 Q else Q false H1
def tOr (t u:TT):TT:=fun σ H Q=>t σ H fun c H1=>if c=true then Q true H1 else u σ H1 Q
def tNot (t:TT):TT:=fun σ H Q=>t σ H fun c H1=>Q (!c) H1
theorem pw_and1 (ha:PT X a tA):PW X (.BoolOp .And [a] pos) tA:=by
  intro wh pins s σ H Q I h
  refine isTrue_and (thn (ha pins s σ H Q I h) fun c s1 e=>?_)
  cases c with
  | true=>exact isTrue_and_nil e
  | false=>exact e
theorem pw_or1 (ha:PT X a tA):PW X (.BoolOp .Or [a] pos) tA:=by
  intro wh pins s σ H Q I h
  refine isTrue_or (thn (ha pins s σ H Q I h) fun c s1 e=>?_)
  cases c with
  | false=>exact isTrue_or_nil e
  | true=>exact e
theorem pw_and (ha:PT X a tA) (hb:PW X (.BoolOp .And (b :: rest) pos) tB'):PW X (.BoolOp .And (a :: b :: rest) pos) (tAnd tA tB'):=by
  intro wh pins s σ H Q I h
  refine isTrue_and (thn (ha pins s σ H _ I h) fun c s1 ⟨H1,I1,q1⟩=>?_)
  cases c with
  | true=>exact hb wh pins s1 σ H1 Q I1 q1
  | false=>exact ⟨H1,I1,q1⟩
theorem pw_or (ha:PT X a tA) (hb:PW X (.BoolOp .Or (b :: rest) pos) tB'):PW X (.BoolOp .Or (a :: b :: rest) pos) (tOr tA tB'):=by
  intro wh pins s σ H Q I h
  refine isTrue_or (thn (ha pins s σ H _ I h) fun c s1 ⟨H1,I1,q1⟩=>?_)
  cases c with
  | true=>exact ⟨H1,I1,q1⟩
  | false=>exact hb wh pins s1 σ H1 Q I1 q1
theorem pt_not (ha:PT X a tA):PT X (.UnaryOp .Not a pos) (tNot tA):=by
  intro pins s σ H Q I h
  exact isTrue_not (ha pins s σ H (fun c H1=>Q (!c) H1) I h)
def tAndV (ta tb:TE):TE:=fun σ H Q=>ta σ H fun x H1 => ∃ c,x=.bl c∧if c=true then tb σ H1 Q else Q (.bl false) H1
def tNotV (ta:TE):TE:=fun σ H Q=>ta σ H fun x H1 => ∃ c,x=.bl c∧Q (.bl (!c)) H1
theorem pe_one {op} {t:TE} (h:PE X a t):PE X (.BoolOp op [a] pos) t:=fun pins s σ H Q I hw=>BoolOp_one (h pins s σ H Q I hw)
theorem pe_and (ha:PE X a ta) (hb:PE X (.BoolOp .And (b :: rest) pos) tb):PE X (.BoolOp .And (a :: b :: rest) pos) (tAndV ta tb):=by
  intro pins s σ H Q I h
  refine BoolOp_and (thn (ha pins s σ H _ I h) fun v s1 ⟨x,H1,I1,r1,q1⟩=>?_)
  obtain ⟨c,rfl,q1⟩:=q1
  cases r1
  refine wpAny_truthy_bool ?_
  cases c with
  | true=>exact hb pins s1 σ H1 Q I1 q1
  | false=>exact ⟨.bl false,H1,I1,rfl,q1⟩
theorem pe_not (ha:PE X a ta):PE X (.UnaryOp .Not a pos) (tNotV ta):=by
  intro pins s σ H Q I h
  refine UnaryOp_ (thn (ha pins s σ H _ I h) fun v s1 ⟨x,H1,I1,r1,q1⟩=>?_)
  obtain ⟨c,rfl,q1⟩:=q1
  cases r1
  exact not_of (wpAny_truthy_bool ⟨.bl (!c),H1,I1,rfl,q1⟩)
def tIf (t:TT) (ta tb:TE):TE:=fun σ H Q=>t σ H fun c H1=>if c=true then ta σ H1 Q else tb σ H1 Q
theorem pe_ifExp {c:Expr} (hc:PT X c tA) (ha:PE X a ta) (hb:PE X b tb):PE X (.IfExp c a b pos) (tIf tA ta tb):=by
  intro pins s σ H Q I h
  refine wpAny_IfExp (thn (hc pins s σ H _ I h) fun d s1 ⟨H1,I1,q1⟩=>?_)
  cases d with
  | true=>exact ha pins s1 σ H1 Q I1 q1
  | false=>exact hb pins s1 σ H1 Q I1 q1
end
end L2
namespace L2
open PySem PySem.Spec PyProof.Rows
def SqL (K:PySem.W.Frag) (H:Hp) (a:Addr) (xs:List V):Prop :=
  Rd H a (.lst xs) ∨
    ∃ (o:Obj) (its:Array Value) (n:Nat),K.lookup a=some o∧o.cls=.type "list"∧o.dict=none∧o.data=.seq its n∧its.size≤sizeLine∧Vals xs its.toList
def SqT (K:PySem.W.Frag) (H:Hp) (a:Addr) (xs:List V):Prop :=
  Rd H a (.tup xs) ∨
    ∃ (o:Obj) (its:Array Value) (n:Nat),K.lookup a=some o∧o.cls=.type "tuple"∧o.data=.seq its n∧its.size≤sizeLine∧Vals xs its.toList
def absV:Value→Option V
  | .none=>some .non
  | .bool b=>some (.bl b)
  | .int i _=>some (.int i)
  | .str x _=>some (.str x)
  | .bytes b _=>some (.byt b)
  | .float b _=>some (.flt b)
  | .ref a=>some (.ref a)
  | .type n=>some (.ty n)
  | _=>none
theorem RelV.abs {x:V} {u:Value} (r:RelV x u):absV u=some x:=by
  cases x with
  | non=>cases r; rfl
  | bl _=>cases r; rfl
  | int _=>obtain ⟨t,rfl⟩:=r; rfl
  | str _=>obtain ⟨t,rfl⟩:=r; rfl
  | byt _=>obtain ⟨t,rfl⟩:=r; rfl
  | flt _=>obtain ⟨t,rfl⟩:=r; rfl
  | ref _=>cases r; rfl
  | ty _=>cases r; rfl
theorem RelV.inj {x y:V} {u:Value} (r:RelV x u) (q:RelV y u):x=y:=Option.some.inj (r.abs.symm.trans q.abs)
theorem Vals.inj:∀ {xs ys:List V} {us:List Value},Vals xs us→Vals ys us→xs=ys
  | _,_,_,.nil,.nil=>rfl
  | _,_,_,.cons r t,.cons r' t'=>by rw [r.inj r',Vals.inj t t']
section
variable {X:Cx} {pins:List (Addr × Obj)} {σ:St} {H:Hp} {s:Shared} {a:Addr} {xs ys:List V}
theorem SqL.of {K:PySem.W.Frag} (h:H a=some (.lst xs)):SqL K H a xs:=.inl (.inl h)
theorem SqT.of {K:PySem.W.Frag} (h:H a=some (.tup xs)):SqT K H a xs:=.inl (.inl h)
theorem Inv.list (I:Inv X pins σ H s) (h:SqL X.K H a xs):∃ its:List Value,Vals xs its∧PlainL s.heap a its.toArray∧xs.length≤sizeLine:=by
  rcases h with h | ⟨o,its,n,hk,hc,hd,hs,hz,r⟩
  · obtain ⟨z,its,n,r,e⟩:=h.ok I.hok
    exact ⟨its,r,⟨_,n,e,rfl,rfl,rfl⟩,z⟩
  · refine ⟨its.toList,r,⟨o,n,I.kIn a o hk,hc,hd,by simpa using hs⟩,?_⟩
    have e:=r.length
    simp only [Array.length_toList] at e
    omega
theorem Inv.tuple (I:Inv X pins σ H s) (h:SqT X.K H a xs):∃ its:List Value,Vals xs its∧IsTup s.heap a its.toArray∧xs.length≤sizeLine:=by
  rcases h with h | ⟨o,its,n,hk,hc,hs,hz,r⟩
  · obtain ⟨z,its,r,p⟩:=h.ok I.hok
    exact ⟨its,r,p,z⟩
  · refine ⟨its.toList,r,⟨o,I.kIn a o hk,hc,n,by simpa using hs⟩,?_⟩
    have e:=r.length
    simp only [Array.length_toList] at e
    omega
theorem Inv.list_inj (I:Inv X pins σ H s) (h:SqL X.K H a xs) (h':SqL X.K H a ys):xs=ys:=by
  obtain ⟨its,r,⟨o,n,e,_,_,d⟩,_⟩:=I.list h
  obtain ⟨its',r',⟨o',n',e',_,_,d'⟩,_⟩:=I.list h'
  rw [e] at e'; cases e'
  rw [d] at d'
  injection d' with d1 _
  have:its=its':=by simpa using congrArg Array.toList d1
  subst this
  exact r.inj r'
end
abbrev Cx.wish (X:Cx) (E:Value→Shared→Prop):Cx:={ X with xe:=E }
abbrev Cx.nox (X:Cx):Cx:=X.wish fun _ _=>False
theorem Cx.Ok.wish {X:Cx} (ok:X.Ok) (E:Value→Shared→Prop):(X.wish E).Ok :=
  ⟨ok.mod,ok.kind,ok.glob,ok.blt,ok.above,ok.inj,ok.has,ok.cab,ok.hd,ok.frames,ok.stk,ok.exf,ok.bs,ok.bsz,ok.noex,ok.exfs,ok.funs,ok.frf⟩
theorem Cx.Ok.unwish {X:Cx} {E:Value→Shared→Prop} (ok:(X.wish E).Ok):X.Ok :=
  ⟨ok.mod,ok.kind,ok.glob,ok.blt,ok.above,ok.inj,ok.has,ok.cab,ok.hd,ok.frames,ok.stk,ok.exf,ok.bs,ok.bsz,ok.noex,ok.exfs,ok.funs,ok.frf⟩
section
variable {X:Cx} {pins:List (Addr × Obj)} {σ:St} {H:Hp} {s:Shared} {E:Value→Shared→Prop}
theorem Inv.wish (I:Inv X pins σ H s) (E:Value→Shared→Prop):Inv (X.wish E) pins σ H s:=⟨I.ok.wish E,I.os,I.bare,I.base,I.loc,I.cell,I.free,I.freeC,I.pin,I.hok,I.len⟩
theorem Inv.unwish (I:Inv (X.wish E) pins σ H s):Inv X pins σ H s:=⟨I.ok.unwish,I.os,I.bare,I.base,I.loc,I.cell,I.free,I.freeC,I.pin,I.hok,I.len⟩
theorem SP.unwish {D:Ends} {f:Flow} {s':Shared} (h:SP (X.wish E) pins D f s'):SP X pins D f s':=by
  cases f with
  | next=>obtain ⟨σ',H',I,q⟩:=h; exact ⟨σ',H',I.unwish,q⟩
  | brk=>obtain ⟨σ',H',I,q⟩:=h; exact ⟨σ',H',I.unwish,q⟩
  | cont=>obtain ⟨σ',H',I,q⟩:=h; exact ⟨σ',H',I.unwish,q⟩
  | ret u=>obtain ⟨v,σ',H',I,r,q⟩:=h; exact ⟨v,σ',H',I.unwish,r,q⟩
theorem PT.nox {e:Expr} {t:TT} (h:PT X.nox e t):PT X e t:=fun pins s σ H Q I hw =>
  wpAny_mono (h pins s σ H Q (I.wish _) hw) (fun _ _ ⟨H',I',q⟩=>⟨H',I'.unwish,q⟩) fun _ _ z=>False.elim z
theorem PSs.nox {st:List Stmt} {t:TS} (h:PSs X.nox st t):PSs X st t:=fun pins s σ H D I hw =>
  wpAny_mono (h pins s σ H D (I.wish _) hw) (fun _ _ q=>q.unwish) fun _ _ z=>False.elim z
end
section
variable {X:Cx} {st:Stmt} {rest:List Stmt} {t u:TS} {e:Expr} {te:TE} {pos:Pos}
def tNext:TS:=fun D σ H=>D.nx σ H
def tSeq (t u:TS):TS:=fun D σ H=>t { D with nx:=u D } σ H
theorem pss_nil:PSs X [] tNext:=fun _ _ σ H _ I h=>wpAny_execs_nil ⟨σ,H,I,h⟩
theorem pss_cons (h1:PS X st t) (h2:PSs X rest u):PSs X (st :: rest) (tSeq t u):=by
  intro pins s σ H D I h
  refine wpAny_execs_cons (thn (h1 pins s σ H { D with nx:=u D } I h) fun f s1 q=>?_)
  cases f with
  | next =>
    obtain ⟨σ',H',I',q⟩:=q
    exact h2 pins s1 σ' H' D I' q
  | ret v=>exact q
  | brk=>exact q
  | cont=>exact q
theorem pss_one (h1:PS X st t):PSs X [st] t:=by
  intro pins s σ H D I h
  refine wpAny_execs_cons (thn (h1 pins s σ H D I h) fun f s1 q=>?_)
  cases f with
  | next=>exact wpAny_execs_nil q
  | ret v=>exact q
  | brk=>exact q
  | cont=>exact q
theorem Inv.quiet {pins:List (Addr × Obj)} {σ:St} {H:Hp} {s:Shared} (I:Inv X pins σ H s):interactive X.env=false:=by simp [interactive,I.ok.kind]
def tDrop (te:TE):TS:=fun D σ H=>te σ H fun _ H1=>D.nx σ H1
theorem ps_expr (he:PE X e te) (hs:swapsWith e none pos.line X.env=pure false:=by rfl):PS X (.Expr e pos) (tDrop te):=by
  intro pins s σ H D I h
  exact wpAny_Expr_any (thn (he pins s σ H _ I h) fun v s1 ⟨x,H1,I1,r1,q1⟩=>⟨σ,H1,I1,q1⟩) I.quiet hs
def tRet (te:TE):TS:=fun D σ H=>te σ H D.rt
theorem ps_ret (he:PE X e te):PS X (.Return (some e) pos) (tRet te):=by
  intro pins s σ H D I h
  exact wpAny_Return_some (thn (he pins s σ H _ I h) fun v s1 ⟨x,H1,I1,r1,q1⟩=>⟨x,σ,H1,I1,r1,q1⟩)
def tIfS (c:TT) (t u:TS):TS:=fun D σ H=>c σ H fun b H1=>if b=true then t D σ H1 else u D σ H1
theorem ps_if {c:Expr} {a b:List Stmt} {tc:TT} (hc:PT X c tc) (ha:PSs X a t) (hb:PSs X b u):PS X (.If c a b pos) (tIfS tc t u):=by
  intro pins s σ H D I h
  refine wpAny_If (thn (hc pins s σ H _ I h) fun d s1 ⟨H1,I1,q1⟩=>?_)
  cases d with
  | true=>exact ha pins s1 σ H1 D I1 q1
  | false=>exact hb pins s1 σ H1 D I1 q1
def tNever:TS:=fun _ _ _=>False
theorem ps_never:PS X st tNever:=fun _ _ _ _ _ _ h=>h.elim
end
abbrev TG:=V→St→Hp→(St→Hp→Prop)→Prop
abbrev TGs:=List V→St→Hp→(St→Hp→Prop)→Prop
def PG (X:Cx) (target:Expr) (t:TG):Prop :=
  ∀ (pins:List (Addr × Obj)) (s:Shared) (σ:St) (H:Hp) (v:V) (u:Value) (Q:St→Hp→Prop),Inv X pins σ H s→RelV v u→t v σ H Q →
    wpAny (model X.prog X.w) X.A (assign target X.env u) (fun _ s' => ∃ σ' H',Inv X pins σ' H' s'∧Q σ' H') X.xe s
def PGs (X:Cx) (ts:List Expr) (t:TGs):Prop :=
  ∀ (pins:List (Addr × Obj)) (s:Shared) (σ:St) (H:Hp) (vs:List V) (us:List Value) (Q:St→Hp→Prop),Inv X pins σ H s→Vals vs us→t vs σ H Q →
    wpAny (model X.prog X.w) X.A (assignInOrder ((assignEach ts X.env).map (·.2)) us) (fun _ s' => ∃ σ' H',Inv X pins σ' H' s'∧Q σ' H') X.xe s
abbrev TSet:=V→V→V→Hp→(Hp→Prop)→Prop
def PSet (X:Cx) (t:TSet):Prop :=
  ∀ (pins:List (Addr × Obj)) (s:Shared) (σ:St) (H:Hp) (o i v:V) (ov iv u:Value) (Q:Hp→Prop),Inv X pins σ H s→RelV o ov→RelV i iv→RelV v u→t o i v H Q →
    wpAny (model X.prog X.w) X.A (setItem ov iv u) (fun _ s' => ∃ H',Inv X pins σ H' s'∧Q H') X.xe s
section
variable {X:Cx} {pos:Pos}
def gName (i:Nat):TG:=fun v σ H Q=>Q (σ.set i (some v)) H
theorem pg_name {i:Nat} {x:Str} (hN:X.N.Nodup) (hi:X.N[i]? = some x) (hx:Loc X.env.scope x) (hf:X.fn x=true∨X.env.scope.names.lookup x=some .local:=by first | exact .inl rfl | exact .inr rfl | assumption):PG X (.Name x pos) (gName i):=by
  intro pins s σ H v u Q I r h
  exact wpAny_assign_Name (store_ok I hN hi hx r (fun s' I'=>⟨_,H,I',h⟩) hf)
def gNil:TGs:=fun vs σ H Q=>vs=[]∧Q σ H
def gCons (t:TG) (u:TGs):TGs:=fun vs σ H Q => ∃ v r,vs=v :: r∧t v σ H fun σ' H'=>u r σ' H' Q
theorem pgs_nil:PGs X [] gNil:=by
  intro pins s σ H vs us Q I r h
  obtain ⟨e,h⟩:=h
  subst e
  cases r
  exact assignInOrder_nil ⟨σ,H,I,h⟩
theorem pgs_cons {e:Expr} {es:List Expr} {t:TG} {u:TGs} (h1:PG X e t) (h2:PGs X es u)
    (hs:(assignEach (e :: es) X.env).map (·.2)=assign e X.env :: (assignEach es X.env).map (·.2):=by rfl):PGs X (e :: es) (gCons t u):=by
  intro pins s σ H vs us Q I r h
  obtain ⟨v,vr,e1,h⟩:=h
  subst e1
  cases r with
  | cons r rr =>
    rw [hs]
    refine assignInOrder_cons (thn (h1 pins s σ H _ _ _ I r h) fun _ s1 ⟨σ1,H1,I1,q1⟩=>?_)
    exact h2 pins s1 σ1 H1 _ _ Q I1 rr q1
def gTup (K:PySem.W.Frag) (n:Nat) (t:TGs):TG:=fun v σ H Q => ∃ a xs,v=.ref a∧SqT K H a xs∧xs.length=n∧t xs σ H Q
theorem pg_tup {es:List Expr} {k:Nat} {t:TGs} {n:Nat} (hc:X.calm=true) (h:PGs X es t)
    (hn:(assignEach es X.env).length=n:=by rfl) (hst:(assignEach es X.env).findIdx? (·.1)=none:=by rfl):PG X (.Tuple es k pos) (gTup X.K n t):=by
  intro pins s σ H v u Q I r hw
  obtain ⟨a,xs,e1,hq,hl,hw⟩:=hw
  subst e1
  cases r
  obtain ⟨its,rv,ht,hz⟩:=I.tuple hq
  refine assign_Tuple_tuple (I.ok.hd hc) ht (by simp [hn,← hl,rv.length]) hst fun h' hx=>?_
  have I1:Inv X pins σ H { s with heap:=h' }:=I.kept (t':=s.toks) fun b o e=>hx b o (Nat.ne_of_lt (Heap.lt_size e)) e
  exact h pins _ σ H xs _ Q I1 (by simpa using rv) hw
def gSub (to ti:TE) (t:TSet):TG:=fun v σ H Q=>to σ H fun o H1=>ti σ H1 fun i H2=>t o i v H2 fun H3=>Q σ H3
theorem pg_sub {o i:Expr} {to ti:TE} {t:TSet} (ho:PE X o to) (hi:PE X i ti) (hs:PSet X t)
    (ha:∀ v,assign (.Subscript o i pos) X.env v=(do
      let ov ← holding [v] (eval o X.env)
      let iv ← holding [v,ov] (eval i X.env)
      standAt pos
      holding [v,ov,iv] (setItem ov iv v)
      release [v,ov,iv] []):=by intro _; rfl):PG X (.Subscript o i pos) (gSub to ti t):=by
  intro pins s σ H v u Q I r h
  rw [ha]
  refine wpAny_bind (wpAny_holding (thn (ho pins s σ H _ I h) fun ov s1 ⟨x,H1,I1,r1,q1⟩=>?_))
  refine wpAny_bind (wpAny_holding (thn (hi pins s1 σ H1 _ I1 q1) fun iv s2 ⟨y,H2,I2,r2,q2⟩=>?_))
  refine wpAny_bind (wpAny_standAt (wpAny_bind (wpAny_holding (thn (hs pins s2 σ H2 x y v ov iv u _ I2 r1 r2 r q2) fun _ s3 ⟨H3,I3,q3⟩=>?_))))
  exact wpAny_release ⟨σ,H3,I3,q3⟩
def tAsg (te:TE) (g:TG):TS:=fun D σ H=>te σ H fun x H1=>g x σ H1 D.nx
theorem ps_asg {tg e:Expr} {te:TE} {g:TG} (he:PE X e te) (hg:PG X tg g) (hs:swapsWithSole [tg] e pos.line X.env=pure false:=by rfl) (hw:swappedStores [tg] e X.env=pure none:=by rfl)
    (h1:(assignEach [tg] X.env).map (·.2)=[assign tg X.env]:=by rfl):PS X (.Assign [tg] e pos) (tAsg te g):=by
  intro pins s σ H D I h
  refine wpAny_Assign_stores (thn (he pins s σ H _ I h) fun v s1 ⟨x,H1,I1,r1,q1⟩=>?_) hs hw
  rw [h1]
  exact thn (hg pins s1 σ H1 x v _ I1 r1 q1) fun _ s2 q=>q
theorem ps_set {i:Nat} {x:Str} {e:Expr} {te:TE} {pos':Pos} (hN:X.N.Nodup) (hi:X.N[i]? = some x) (hx:Loc X.env.scope x) (he:PE X e te) (hs:swapsWith e (some (.Name x pos')) pos.line X.env=pure false:=by rfl) (hf:X.fn x=true∨X.env.scope.names.lookup x=some .local:=by first | exact .inl rfl | exact .inr rfl | assumption) :
    PS X (.Assign [.Name x pos'] e pos) (tAsg te (gName i)):=by
  intro pins s σ H D I h
  refine wpAny_Assign_Name (thn (he pins s σ H _ I h) fun v s1 ⟨y,H1,I1,r1,q1⟩=>?_) hs
  exact store_ok I1 hN hi hx r1 (fun s2 I2=>⟨_,H1,I2,q1⟩) hf
end
section
variable {X:Cx} {pos:Pos}
def tWhile (c:TT) (tb:TS):TS:=fun D σ H => ∃ W:Nat→St→Hp→Prop,(∃ m,W m σ H)∧∀ m σ H,W m σ H →
  c σ H fun b H1=>if b=true then ∃ N:St→Hp→Prop,(∀ σ' H',N σ' H'→∃ m',m' < m∧W m' σ' H')∧tb { D with nx:=N,ct:=N,bk:=D.nx } σ H1 else D.nx σ H1
theorem ps_while {c:Expr} {body:List Stmt} {tc:TT} {tb:TS} (hp:PassesOwn (model X.prog X.w) X.A X.env X.xe) (hc:PT X c tc) (hb:PSs X body tb):PS X (.While c body [] pos) (tWhile tc tb):=by
  intro pins s σ H D I h
  obtain ⟨W,⟨m0,w0⟩,turn⟩:=h
  refine wpAny_While (codeAny_whileLoop (fun n s' => ∃ σ' H',Inv X pins σ' H' s'∧W n σ' H') ?_ m0 ⟨σ,H,I,w0⟩)
  rintro n s1 ⟨σ1,H1,I1,w1⟩
  refine wpAny_passesOwn hp (thn (hc pins s1 σ1 H1 _ I1 (turn n σ1 H1 w1)) fun b s2 ⟨H2,I2,q2⟩=>?_)
  cases b with
  | true =>
    obtain ⟨N,hN,q2⟩:=q2
    rw [if_pos rfl]
    refine wpAny_passesOwn hp (thn (hb pins s2 σ1 H2 _ I2 q2) fun f s3 q3=>?_)
    cases f with
    | next =>
      obtain ⟨σ3,H3,I3,n3⟩:=q3
      obtain ⟨m',hm,w3⟩:=hN σ3 H3 n3
      exact ⟨m',hm,σ3,H3,I3,w3⟩
    | cont =>
      obtain ⟨σ3,H3,I3,n3⟩:=q3
      obtain ⟨m',hm,w3⟩:=hN σ3 H3 n3
      exact ⟨m',hm,σ3,H3,I3,w3⟩
    | brk=>exact q3
    | ret v=>exact q3
  | false =>
    rw [if_neg Bool.false_ne_true]
    exact wpAny_execs_nil ⟨σ1,H2,I2,q2⟩
end
structure It where
  go:Nat→Hp→Prop
  yld:Nat→Hp→V→Hp→Prop
  stop:Nat→Hp→Prop
def FpOk (X:Cx) (pins:List (Addr × Obj)) (H:Hp) (b:Addr):Prop :=
  H b=none∧b≠X.env.locals∧b ∉ X.fs∧(b∈X.ex∨X.s₀.heap.objs.size≤b)∧(∀ x c,X.env.cells.lookup x=some c→c≠b)∧∀ p∈X.pn ++ pins,p.1≠b
theorem Inv.fpOk {X:Cx} {pins:List (Addr × Obj)} {σ:St} {H H':Hp} {s:Shared} {b:Addr} (I:Inv X pins σ H s) (hb:s.heap.objs.size≤b) (hn:H' b=none):FpOk X pins H' b:=by
  refine ⟨hn,Nat.ne_of_gt (Nat.lt_of_lt_of_le I.lt hb),I.nofs hb,.inr (Nat.le_trans I.sz hb),fun x c e z=>?_,fun p hp z=>?_⟩
  · obtain ⟨v,q⟩:=I.cell x c e
    exact absurd (Nat.lt_of_lt_of_le q.lt (by rw [z]; exact hb)) (Nat.lt_irrefl _)
  · exact absurd (Nat.lt_of_lt_of_le (Heap.lt_size (I.pin p hp).1) (by rw [z]; exact hb)) (Nat.lt_irrefl _)
structure Turn (P:Program) (w:World) (K:PySem.W.Frag) (tg:Expr) (J:It) (fp:List Addr) (it:Addr) (tn:Nat→Heap→Prop):Prop where
  mem:it∈fp
  obj:∀ i h,tn i h→∀ b∈fp,∃ o,h.get? b=some o∧∀ v,o.data≠.cell v
  keep:∀ i h h',tn i h→(∀ b∈fp,∀ o,h.get? b=some o→h'.get? b=some o)→tn i h'
  item:∀ (X:Cx),X.prog=P→X.w=w→X.K=K→X.calm=true→∀ (i:Nat) (pins:List (Addr × Obj)) (s:Shared) (σ:St) (H:Hp) (E:Value→Shared→Prop),Inv X pins σ H s→(∀ b∈fp,FpOk X pins H b)→tn i s.heap→J.go i H →
    wpAny (model P w) X.A (pyNext (.ref it)) (fun r s1 => ∃ u,r=some u ∧
      wpAny (model P w) X.A (letOwnedTupleGo tg (.ref it) u) (fun _ s2 => ∃ x H',Inv X pins σ H' s2∧RelV x u∧J.yld i H x H'∧tn (i + 1) s2.heap∧∀ b∈fp,H' b=none) E s1) E s
  done:∀ (X:Cx),X.prog=P→X.w=w→X.K=K→X.calm=true→∀ (i:Nat) (pins:List (Addr × Obj)) (s:Shared) (σ:St) (H:Hp) (E:Value→Shared→Prop),Inv X pins σ H s→(∀ b∈fp,FpOk X pins H b)→tn i s.heap→J.stop i H →
    wpAny (model P w) X.A (pyNext (.ref it)) (fun r s1=>r=none∧Inv X pins σ H s1) E s
  self:∀ (A:Around) (i:Nat) (s:Shared) (Q:Value→Shared→Prop) (E:Value→Shared→Prop),tn i s.heap→Q (.ref it) s→wpAny (model P w) A (pyIter (.ref it)) Q E s
abbrev TI:=St→Hp→(It→Hp→Prop)→Prop
def PIE (X:Cx) (pins:List (Addr × Obj)) (σ:St) (tg:Expr) (R:It→Hp→Prop) (itv:Value) (s2:Shared):Prop :=
  ∃ (it:Addr) (fp:List Addr) (tn:Nat→Heap→Prop) (J:It) (H':Hp),itv=.ref it∧Inv X pins σ H' s2∧Turn X.prog X.w X.K tg J fp it tn∧tn 0 s2.heap∧(∀ b∈fp,FpOk X pins H' b)∧R J H'
def PI (X:Cx) (tg iter:Expr) (wi:TI):Prop :=
  ∀ (pins:List (Addr × Obj)) (s:Shared) (σ:St) (H:Hp) (R:It→Hp→Prop),Inv X pins σ H s→wi σ H R →
    wpAny (model X.prog X.w) X.A (eval iter X.env) (fun v s1=>wpAny (model X.prog X.w) X.A (pyIter v) (PIE X pins σ tg R) X.xe s1) X.xe s
theorem go_of {M:Model} {A:Around} {E:Value→Shared→Prop} {s:Shared} {tg:Expr} {it:Addr} {u:Value} {o:Obj} {n:String} {vs:Array Value} {Q:Unit→Shared→Prop} (ho:s.heap.get? it=some o) (hc:o.cls=.type n) (hd:o.data=.fields vs)
    (hn:["enumerate","zip","dict_itemiterator","dict_reverseitemiterator","odict_iterator","itertools.zip_longest","itertools.pairwise"].contains n=false) (hQ:Q () s):wpAny M A (letOwnedTupleGo tg (.ref it) u) Q E s:=by
  unfold letOwnedTupleGo
  cases tg <;> first
    | exact wpAny_pure hQ
    | (cases u <;> first
        | exact wpAny_pure hQ
        | (refine wpAny_bind (wpAny_load ho ?_)
           rw [hc,hd]
           show wpAny M A (if (["enumerate","zip","dict_itemiterator","dict_reverseitemiterator","odict_iterator","itertools.zip_longest","itertools.pairwise"].contains n && vs[0]? == some (rawInt _))=true then _ else _) Q E s
           rw [if_neg (by intro h; rw [hn,Bool.false_and] at h; cases h)]
           exact wpAny_pure hQ))
def Itl (K:PySem.W.Frag) (a:Addr):It :=
  ⟨fun i H => ∃ xs x,SqL K H a xs∧xs[i]? = some x,fun i H x H'=>H'=H∧∀ xs,SqL K H a xs→xs[i]? = some x,fun i H => ∃ xs,SqL K H a xs∧xs.length≤i⟩
def Itr (lo:Int) (n:Nat):It:=⟨fun i _=>i < n,fun i H x H'=>H'=H∧x=.int (lo + i),fun i _=>n≤i⟩
theorem turn_list {P:Program} {w:World} {K:PySem.W.Frag} {tg:Expr} (a it:Addr):Turn P w K tg (Itl K a) [it] it (fun i h=>h.IsListIter it a i) where
  mem:=by simp
  obj:=fun i h st b hb=>by
    have e:b=it:=by simpa using hb
    subst e
    obtain ⟨o,e,c,d⟩:=st
    exact ⟨o,e,fun v z=>by rw [d] at z; cases z⟩
  keep:=fun i h h' st k=>st.at fun o e=>k it (by simp) o e
  item:=by
    intro X hP hw hK hc i pins s σ H E I hf st hg
    subst hP hw hK
    obtain ⟨xs,x,hq,hx⟩:=hg
    obtain ⟨its,rv,p,hz⟩:=I.list hq
    obtain ⟨u,hu,ru⟩:=rv.get hx
    obtain ⟨f0,f1,f2,f3,f4,f5⟩:=hf it (by simp)
    refine wpAny_pyNext_list_item st p.isList (x:=u) (by simpa using hu) fun h' st' sb=>?_
    have I1:Inv X pins σ H { s with heap:=h' }:=I.turned (t':=s.toks) (fun b o hb e=>(sb.2 b hb).trans e) f0 f1 f3 f4 f5
    obtain ⟨o,e,c,d⟩:=id st'
    exact ⟨u,rfl,go_of (s:={ s with heap:=h' }) e c d (by decide) ⟨x,H,I1,ru,⟨rfl,fun ys hy=>by rw [I.list_inj hy hq]; exact hx⟩,st',fun b hb=>(hf b hb).1⟩⟩
  done:=by
    intro X hP hw hK hc i pins s σ H E I hf st hg
    subst hP hw hK
    obtain ⟨xs,hq,hx⟩:=hg
    obtain ⟨its,rv,p,hz⟩:=I.list hq
    obtain ⟨f0,f1,f2,f3,f4,f5⟩:=hf it (by simp)
    have hl:=rv.length
    exact wpAny_pyNext_list_end (I.ok.hd hc) st p.isList (by simp; omega) fun h' eb=>⟨rfl,I.turned (t':=s.toks) (fun b o hb e=>eb b o hb e) f0 f1 f3 f4 f5⟩
  self:=fun _ _ _ _ _ st h=>wpAny_pyIter_listiter st h
theorem turn_range {P:Program} {w:World} {K:PySem.W.Frag} {tg:Expr} (it:Addr) (lo:Int) (n:Nat):Turn P w K tg (Itr lo n) [it] it (fun i h=>IsRangeIter h it (lo + (i:Nat) * 1) ((n:Int) - (i:Nat)) 1) where
  mem:=by simp
  obj:=fun i h st b hb=>by
    have e:b=it:=by simpa using hb
    subst e
    exact ⟨_,st,fun v z=>by
      have z':Data.fields _=Data.cell v:=z
      cases z'⟩
  keep:=fun i h h' st k=>k it (by simp) _ st
  item:=by
    intro X hP hw hK hc i pins s σ H E I hf st hg
    subst hP hw hK
    obtain ⟨f0,f1,f2,f3,f4,f5⟩:=hf it (by simp)
    have W:=Walks.range (prog:=X.prog) (w:=X.w) (I.ok.hd hc) it lo 1 n
    refine W.item i s _ _ hg st fun v h' tk hv st' kk=>?_
    obtain ⟨t,rfl⟩:=hv
    have I1:Inv X pins σ H { s with heap:=h',toks:=tk }:=I.turned (fun b o hb e=>kk b o (by simpa using hb) e) f0 f1 f3 f4 f5
    refine ⟨_,rfl,go_of (s:={ s with heap:=h',toks:=tk }) (n:="range_iterator") st' rfl rfl (by decide) ⟨.int (lo + i),H,I1,⟨t,?_⟩,⟨rfl,rfl⟩,st',fun b hb=>(hf b hb).1⟩⟩
    rw [Int.mul_one]
  done:=by
    intro X hP hw hK hc i pins s σ H E I hf st hg
    subst hP hw hK
    obtain ⟨f0,f1,f2,f3,f4,f5⟩:=hf it (by simp)
    exact wpAny_pyNext_range_end (I.ok.hd hc) st (by have:n≤i:=hg; omega) fun h' eb=>⟨rfl,I.turned (t':=s.toks) (fun b o hb e=>eb b o hb e) f0 f1 f3 f4 f5⟩
  self:=fun _ _ _ _ _ st h=>wpAny_pyIter_rangeiter st h
end L2
namespace L2
open PySem PySem.Spec PyProof.Rows
section
variable {X:Cx} {tg:Expr}
def iList (K:PySem.W.Frag) (tl:TE):TI:=fun σ H R=>tl σ H fun x H1 => ∃ a,x=.ref a∧(∃ xs,SqL K H1 a xs)∧R (Itl K a) H1
theorem pi_list {l:Expr} {tl:TE} (hl:PE X l tl):PI X tg l (iList X.K tl):=by
  intro pins s σ H R I h
  refine thn (hl pins s σ H _ I h) fun v s1 ⟨x,H1,I1,r1,q1⟩=>?_
  obtain ⟨a,e,⟨xs,hq⟩,q⟩:=q1
  subst e
  cases r1
  obtain ⟨its,rv,p,hz⟩:=I1.list hq
  refine wpAny_pyIter_list p.isList ?_
  refine ⟨s1.heap.objs.size,[s1.heap.objs.size],_,_,H1,rfl,I1.kept (t':=s1.toks) fun b o e=>Heap.get?_push_of_some _ e,turn_list a _,⟨_,Heap.get?_push_size _ rfl,rfl,rfl⟩,fun b hb=>?_,q⟩
  have e:b=s1.heap.objs.size:=by simpa using hb
  subst e
  exact I1.fpOk (Nat.le_refl _) (I1.hok.fresh (Nat.le_refl _))
theorem range_it {pins:List (Addr × Obj)} {σ:St} {H:Hp} {s:Shared} {R:It→Hp→Prop} {E:Value→Shared→Prop} {lo hi:Int} {t u v:Tok} {tk:Nat} (I:Inv X pins σ H s) (h1:-(2 ^ 62)≤lo) (h2:lo < 2 ^ 62) (h3:-(2 ^ 62)≤hi) (h4:hi < 2 ^ 62)
    (q:R (Itr lo (hi - lo).toNat) H):wpAny (model X.prog X.w) X.A (pyIter (.ref s.heap.objs.size)) (PIE X pins σ tg R) E { s with heap:=s.heap.push { cls:=.type "range",data:=.fields #[.int lo t,.int hi u,.int 1 v] },toks:=tk }:=by
  refine wpAny_pyIter_range (IsRange.new ..) (small_one h1 h2 h3 h4) ?_
  have I1:Inv X pins σ H { s with heap:=s.heap.push { cls:=.type "range",data:=.fields #[.int lo t,.int hi u,.int 1 v] },toks:=tk }:=I.kept fun b o e=>Heap.get?_push_of_some _ e
  refine ⟨(s.heap.push { cls:=.type "range",data:=.fields #[.int lo t,.int hi u,.int 1 v] }).objs.size,[(s.heap.push { cls:=.type "range",data:=.fields #[.int lo t,.int hi u,.int 1 v] }).objs.size],_,_,H,rfl,
    I1.kept (t':=tk) fun b o e=>Heap.get?_push_of_some _ e,turn_range _ lo (hi - lo).toNat,?_,fun b hb=>?_,q⟩
  · have e1:lo + ((0:Nat):Int) * 1=lo:=by simp
    have e2:(((hi - lo).toNat:Nat):Int) - ((0:Nat):Int)=Builtin.Range.rangeSize lo hi 1:=by rw [rangeSize_one]; split <;> omega
    show IsRangeIter _ _ (lo + ((0:Nat):Int) * 1) ((((hi - lo).toNat:Nat):Int) - ((0:Nat):Int)) 1
    rw [e1,e2]
    exact Heap.get?_push_size _ rfl
  · have e:b=(s.heap.push { cls:=.type "range",data:=.fields #[.int lo t,.int hi u,.int 1 v] }).objs.size:=by simpa using hb
    subst e
    exact I1.fpOk (Nat.le_refl _) (I1.hok.fresh (Nat.le_refl _))
def iRng1 (ta:TA):TI:=fun σ H R=>ta σ H fun vs H1 => ∃ j:Int,vs=[.int j]∧-(2 ^ 62)≤j∧j < 2 ^ 62∧R (Itr 0 j.toNat) H1
theorem pi_range1 {a:Expr} {ta:TA} {p pos:Pos} (hg:Gl X "range") (hm:X.mg "range" = none) (ha:PA X [a] ta) (hs:starEach [a] X.env=[(false,eval a X.env)]:=by rfl):PI X tg (.Call (.Name "range" p) [a] [] pos) (iRng1 ta):=by
  intro pins s σ H R I h
  refine Call_ (ld_blt I hg hm boot_range (PyProof.Rows.callWith_type1 (thn (ha pos pins s σ H _ I h) fun us s1 ⟨vs,H1,I1,r1,q1⟩=>?_) hs rfl))
  obtain ⟨j,e,q1,q2,q⟩:=q1
  subst e
  cases r1 with
  | cons r rr =>
    cases rr
    obtain ⟨t,rfl⟩:=r
    exact call_range_1 (range_it I1 (by omega) (by omega) q1 q2 (by simpa using q))
def tFor (wi:TI) (g:TG) (tb:TS):TS:=fun D σ H=>wi σ H fun J H1 => ∃ W:Nat→Nat→St→Hp→Prop,(∃ m,W 0 m σ H1)∧∀ i m σ H,W i m σ H →
  (J.stop i H∧D.nx σ H)∨(J.go i H∧∃ N:St→Hp→Prop,(∀ σ' H',N σ' H'→∃ m',m' < m∧W (i + 1) m' σ' H')∧∀ x H',J.yld i H x H'→g x σ H' fun σ2 H2=>tb { D with nx:=N,ct:=N,bk:=D.nx } σ2 H2)
def pinsAt (fp:List Addr) (h:Heap):List (Addr × Obj):=fp.filterMap fun b=>(h.get? b).map fun o=>(b,o)
theorem mem_pinsAt {fp:List Addr} {h:Heap} {b:Addr} {o:Obj} (hb:b∈fp) (e:h.get? b=some o):(b,o)∈pinsAt fp h:=List.mem_filterMap.mpr ⟨b,hb,by rw [e]; rfl⟩
theorem of_pinsAt {fp:List Addr} {h:Heap} {p:Addr × Obj} (hp:p∈pinsAt fp h):p.1∈fp∧h.get? p.1=some p.2:=by
  obtain ⟨b,hb,e⟩:=List.mem_filterMap.mp hp
  cases q:h.get? b with
  | none=>rw [q] at e; cases e
  | some o =>
    rw [q] at e
    have e':(b,o)=p:=Option.some.inj e
    subst e'
    exact ⟨hb,q⟩
theorem Inv.pinned {pins:List (Addr × Obj)} {σ:St} {H:Hp} {s:Shared} {fp:List Addr} (I:Inv X pins σ H s) (hf:∀ b∈fp,FpOk X pins H b) (ho:∀ b∈fp,∃ o,s.heap.get? b=some o∧∀ v,o.data≠.cell v):Inv X (pins ++ pinsAt fp s.heap) σ H s :=
  I.pins_of fun p hp=>(List.mem_append.mp hp).elim (fun z=>I.pin p (List.mem_append_right _ z)) fun z=>by
    obtain ⟨hb,e⟩:=of_pinsAt z
    obtain ⟨f0,f1,f2,_⟩:=hf p.1 hb
    obtain ⟨o,e',d⟩:=ho p.1 hb
    rw [e] at e'; cases e'
    exact ⟨e,f0,f1,f2,d⟩
theorem Inv.unpinned {pins pl:List (Addr × Obj)} {σ:St} {H:Hp} {s:Shared} (I:Inv X (pins ++ pl) σ H s):Inv X pins σ H s:=I.pins_of fun p hp=>I.pin p (List.mem_append_right _ (List.mem_append_left _ hp))
theorem ps_for {iter:Expr} {body:List Stmt} {wi:TI} {g:TG} {tb:TS} {pos:Pos} (hp:PassesOwn (model X.prog X.w) X.A X.env X.xe) (hc:X.calm=true) (hi:PI X tg iter wi) (hg:PG X tg g) (hb:PSs X body tb)
    (hs:∀ x,foldedSetIterable iter X.env x=pure x:=by intro _; rfl):PS X (.For tg iter body [] pos) (tFor wi g tb):=by
  intro pins s σ H D I h
  refine wpAny_For (thn (hi pins s σ H _ I h) fun v s1 h1=>thn h1 fun itv s2 h2=>?_) hs
  obtain ⟨it,fp,tn,J,H2,e,I2,T,st2,f2,W,⟨m0,w0⟩,turn⟩:=h2
  subst e
  have stat:∀ {H':Hp},(∀ b∈fp,H' b=none)→∀ b∈fp,FpOk X pins H' b:=fun hn b hb=>⟨hn b hb,(f2 b hb).2⟩
  refine codeAny_forLoop_any (fun n s' => ∃ i σ' H',Inv X pins σ' H' s'∧tn i s'.heap∧(∀ b∈fp,H' b=none)∧W i n σ' H') ?_ m0 ⟨0,σ,H2,I2,st2,fun b hb=>(f2 b hb).1,w0⟩
  rintro n s3 ⟨i,σ3,H3,I3,st3,fr3,w3⟩
  rcases turn i n σ3 H3 w3 with ⟨stop,qn⟩ | ⟨go,N,hN,step⟩
  · refine wpAny_passesOwn hp (thn (T.done X rfl rfl rfl hc i pins s3 σ3 H3 X.xe I3 (stat fr3) st3 stop) fun r s4 ⟨hr,I4⟩=>?_)
    subst hr
    exact wpAny_execs_nil ⟨σ3,H3,I4,qn⟩
  · refine wpAny_passesOwn hp (thn (T.item X rfl rfl rfl hc i pins s3 σ3 H3 X.xe I3 (stat fr3) st3 go) fun r s4 ⟨u,hr,h4⟩=>?_)
    subst hr
    refine wpAny_passesOwn hp (thn h4 fun _ s5 ⟨x,H5,I5,r5,y5,st5,fr5⟩=>?_)
    have I5':=I5.pinned (stat fr5) (T.obj _ _ st5)
    refine wpAny_passesOwn hp (thn (hg _ s5 σ3 H5 x u _ I5' r5 (step x H5 y5)) fun _ s6 ⟨σ6,H6,I6,q6⟩=>?_)
    refine wpAny_passesOwn hp (thn (hb _ s6 σ6 H6 _ I6 q6) fun f s7 q7=>?_)
    have again:∀ {σ7:St} {H7:Hp},Inv X (pins ++ pinsAt fp s5.heap) σ7 H7 s7→N σ7 H7→∃ m,m < n∧∃ i σ' H',Inv X pins σ' H' s7∧tn i s7.heap∧(∀ b∈fp,H' b=none)∧W i m σ' H':=fun {σ7 H7} I7 n7=>by
      obtain ⟨m',hm,w7⟩:=hN σ7 H7 n7
      refine ⟨m',hm,i + 1,σ7,H7,I7.unpinned,T.keep _ _ _ st5 fun b hb o e=>(I7.pin (b,o) (List.mem_append_right _ (List.mem_append_right _ (mem_pinsAt hb e)))).1,fun b hb=>?_,w7⟩
      obtain ⟨o,e,d⟩:=T.obj _ _ st5 b hb
      exact (I7.pin (b,o) (List.mem_append_right _ (List.mem_append_right _ (mem_pinsAt hb e)))).2.1
    cases f with
    | next=>obtain ⟨σ7,H7,I7,n7⟩:=q7; exact again I7 n7
    | cont=>obtain ⟨σ7,H7,I7,n7⟩:=q7; exact again I7 n7
    | brk=>obtain ⟨σ7,H7,I7,q7⟩:=q7; exact ⟨σ7,H7,I7.unpinned,q7⟩
    | ret v=>obtain ⟨x7,σ7,H7,I7,r7,q7⟩:=q7; exact ⟨x7,σ7,H7,I7.unpinned,r7,q7⟩
end
theorem for_list {K:PySem.W.Frag} {a:Addr} {xs:List V} {g:TG} {tb:TS} {D:Ends} {σ:St} {H:Hp} (Pv:Nat→St→Hp→Prop) (h0:Pv 0 σ H) (hl:∀ i σ H,i≤xs.length→Pv i σ H→SqL K H a xs)
    (hs:∀ i x σ H,xs[i]? = some x→Pv i σ H→g x σ H fun σ2 H2=>tb { D with nx:=Pv (i + 1),ct:=Pv (i + 1),bk:=D.nx } σ2 H2) (hd:∀ σ H,Pv xs.length σ H→D.nx σ H) :
    ∃ W:Nat→Nat→St→Hp→Prop,(∃ m,W 0 m σ H)∧∀ i m σ H,W i m σ H →
      ((Itl K a).stop i H∧D.nx σ H)∨((Itl K a).go i H∧∃ N:St→Hp→Prop,(∀ σ' H',N σ' H'→∃ m',m' < m∧W (i + 1) m' σ' H')∧∀ x H',(Itl K a).yld i H x H'→g x σ H' fun σ2 H2=>tb { D with nx:=N,ct:=N,bk:=D.nx } σ2 H2):=by
  refine ⟨fun i m σ H=>m=xs.length - i∧i≤xs.length∧Pv i σ H,⟨xs.length,by simp,Nat.zero_le _,h0⟩,?_⟩
  rintro i m σ H ⟨rfl,hi,p⟩
  have q:=hl i σ H hi p
  by_cases hlt:i < xs.length
  · refine .inr ⟨⟨xs,xs[i],q,by simp [hlt]⟩,Pv (i + 1),fun σ' H' p'=>⟨xs.length - (i + 1),by omega,rfl,hlt,p'⟩,fun x H' y=>?_⟩
    obtain ⟨e,y⟩:=y
    subst e
    exact hs i x σ _ (y xs q) p
  · have e:i=xs.length:=by omega
    subst e
    exact .inl ⟨⟨xs,q,Nat.le_refl _⟩,hd σ H p⟩
theorem for_range {lo:Int} {n:Nat} {g:TG} {tb:TS} {D:Ends} {σ:St} {H:Hp} (Pv:Nat→St→Hp→Prop) (h0:Pv 0 σ H)
    (hs:∀ i σ H,i < n→Pv i σ H→g (.int (lo + i)) σ H fun σ2 H2=>tb { D with nx:=Pv (i + 1),ct:=Pv (i + 1),bk:=D.nx } σ2 H2) (hd:∀ σ H,Pv n σ H→D.nx σ H) :
    ∃ W:Nat→Nat→St→Hp→Prop,(∃ m,W 0 m σ H)∧∀ i m σ H,W i m σ H →
      ((Itr lo n).stop i H∧D.nx σ H)∨((Itr lo n).go i H∧∃ N:St→Hp→Prop,(∀ σ' H',N σ' H'→∃ m',m' < m∧W (i + 1) m' σ' H')∧∀ x H',(Itr lo n).yld i H x H'→g x σ H' fun σ2 H2=>tb { D with nx:=N,ct:=N,bk:=D.nx } σ2 H2):=by
  refine ⟨fun i m σ H=>m=n - i∧i≤n∧Pv i σ H,⟨n,by simp,Nat.zero_le _,h0⟩,?_⟩
  rintro i m σ H ⟨rfl,hi,p⟩
  by_cases hlt:i < n
  · refine .inr ⟨hlt,Pv (i + 1),fun σ' H' p'=>⟨n - (i + 1),by omega,rfl,hlt,p'⟩,fun x H' y=>?_⟩
    obtain ⟨e,y⟩:=y
    subst e y
    exact hs i σ _ hlt p
  · have e:i=n:=by omega
    subst e
    exact .inl ⟨Nat.le_refl _,hd σ H p⟩
end L2
namespace L2
open PySem PySem.Spec PyProof.Rows
abbrev R2:=V→V→Hp→VK→Prop
def OpR (X:Cx) (f:Value→Value→Sem Value) (r:R2):Prop :=
  ∀ (pins:List (Addr × Obj)) (s:Shared) (σ:St) (H:Hp) (x y:V) (v u:Value) (Q:VK),Inv X pins σ H s→RelV x v→RelV y u→r x y H Q →
    wpAny (model X.prog X.w) X.A (f v u) (EP X pins σ Q) X.xe s
def CallR (X:Cx) (f:Value) (r:List V→Hp→VK→Prop):Prop :=
  ∀ (pins:List (Addr × Obj)) (s:Shared) (σ:St) (H:Hp) (xs:List V) (us:List Value) (Q:VK),Inv X pins σ H s→Vals xs us→r xs H Q →
    wpAny (model X.prog X.w) X.A (call f us) (EP X pins σ Q) X.xe s
def tOp (r:R2) (ta tb:TE):TE:=fun σ H Q=>ta σ H fun x H1=>tb σ H1 fun y H2=>r x y H2 Q
def rI (C:Int→Int→Prop) (g:Int→Int→V):R2:=fun x y H Q => ∃ i j,x=.int i∧y=.int j∧C i j∧Q (g i j) H
def rI0 (g:Int→Int→V):R2:=fun x y H Q => ∃ i j,x=.int i∧y=.int j∧Q (g i j) H
section
variable {X:Cx} {a b c:Expr} {ta tb tc:TE} {pos:Pos}
theorem binT (ha:PE X a ta) (hb:PE X b tb) {pins:List (Addr × Obj)} {s:Shared} {σ:St} {H:Hp} {R:V→V→Hp→Prop} (I:Inv X pins σ H s)
    (h:ta σ H fun x H1=>tb σ H1 fun y H2=>R x y H2) {Q:Value→Shared→Prop} {f:Value→Value→Sem Value}
    (hf:∀ v u s2 x y H2,Inv X pins σ H2 s2→RelV x v→RelV y u→R x y H2→wpAny (model X.prog X.w) X.A (f v u) Q X.xe s2) :
    wpAny (model X.prog X.w) X.A (eval a X.env) (fun v s₁=>wpAny (model X.prog X.w) X.A (eval b X.env) (fun u s₂=>wpAny (model X.prog X.w) X.A (f v u) Q X.xe s₂) X.xe s₁) X.xe s:=by
  refine thn (ha pins s σ H _ I h) fun v s1 ⟨x,H1,I1,r1,q1⟩=>?_
  refine thn (hb pins s1 σ H1 _ I1 q1) fun u s2 ⟨y,H2,I2,r2,q2⟩=>?_
  exact hf v u s2 x y H2 I2 r1 r2 q2
theorem pe_op {op:Operator} {r:R2} (ho:OpR X (binaryOp op) r) (ha:PE X a ta) (hb:PE X b tb):PE X (.BinOp a op b pos) (tOp r ta tb):=by
  intro pins s σ H Q I h
  exact wpAny_BinOp (binT ha hb I h fun v u s2 x y H2 I2 rx ry q=>ho pins s2 σ H2 x y v u Q I2 rx ry q)
theorem opI {f:Value→Value→Sem Value} {C:Int→Int→Prop} {g:Int→Int→Int}
    (rule:∀ (i j:Int) (t u:Tok) (s:Shared) (Q:Value→Shared→Prop) (E:Value→Shared→Prop),C i j→Q (.int (g i j) s.toks) { s with toks:=s.toks + 1 }→wpAny (model X.prog X.w) X.A (f (.int i t) (.int j u)) Q E s) :
    OpR X f (rI C fun i j=>.int (g i j)):=by
  intro pins s σ H x y v u Q I rx ry h
  obtain ⟨i,j,rfl,rfl,hc,q⟩:=h
  obtain ⟨t,rfl⟩:=rx
  obtain ⟨t',rfl⟩:=ry
  exact rule i j t t' s _ _ hc ⟨.int (g i j),H,I.tok _,⟨_,rfl⟩,q⟩
theorem opI0 {f:Value→Value→Sem Value} {g:Int→Int→Int}
    (rule:∀ (i j:Int) (t u:Tok) (s:Shared) (Q:Value→Shared→Prop) (E:Value→Shared→Prop),Q (.int (g i j) s.toks) { s with toks:=s.toks + 1 }→wpAny (model X.prog X.w) X.A (f (.int i t) (.int j u)) Q E s) :
    OpR X f (rI0 fun i j=>.int (g i j)):=by
  intro pins s σ H x y v u Q I rx ry h
  obtain ⟨i,j,rfl,rfl,q⟩:=h
  obtain ⟨t,rfl⟩:=rx
  obtain ⟨t',rfl⟩:=ry
  exact rule i j t t' s _ _ ⟨.int (g i j),H,I.tok _,⟨_,rfl⟩,q⟩
theorem opB0 {f:Value→Value→Sem Value} {g:Int→Int→Bool}
    (rule:∀ (i j:Int) (t u:Tok) (s:Shared) (Q:Value→Shared→Prop) (E:Value→Shared→Prop),Q (.bool (g i j)) s→wpAny (model X.prog X.w) X.A (f (.int i t) (.int j u)) Q E s) :
    OpR X f (rI0 fun i j=>.bl (g i j)):=by
  intro pins s σ H x y v u Q I rx ry h
  obtain ⟨i,j,rfl,rfl,q⟩:=h
  obtain ⟨t,rfl⟩:=rx
  obtain ⟨t',rfl⟩:=ry
  exact rule i j t t' s _ _ ⟨.bl (g i j),H,I,rfl,q⟩
def CPow (i j:Int):Prop:=0≤j∧j≤1000000∧i.natAbs < 2 ^ 64
theorem op_add:OpR X (binaryOp .Add) (rI0 fun i j=>.int (i + j)):=opI0 fun _ _ _ _ _ _ _ q=>add_int q
theorem op_sub:OpR X (binaryOp .Sub) (rI0 fun i j=>.int (i - j)):=opI0 fun _ _ _ _ _ _ _ q=>sub_int q
theorem op_mod:OpR X (binaryOp .Mod) (rI (fun _ j=>0 < j) fun i j=>.int (i % j)):=opI fun i j _ _ _ _ _ hc q=>by
  have h1:(0:Int) < j:=hc
  exact mod_int' (by omega) (by rw [Int.fmod_eq_emod_of_nonneg i (by omega)]; exact q)
theorem op_pow:OpR X (binaryOp .Pow) (rI CPow fun i j=>.int (i ^ j.toNat)):=opI fun _ _ _ _ _ _ _ hc q=>pow_int_small hc.1 hc.2.1 hc.2.2 q
end
def scal:V→V→Bool
  | .non,.non=>true | .non,.int _=>true | .int _,.non=>true | .non,.bl _=>true | .bl _,.non=>true | .non,.str _=>true | .str _,.non=>true
  | .int _,.int _=>true | .bl _,.bl _=>true | .str _,.str _=>true | .byt _,.byt _=>true
  | .int _,.str _=>true | .str _,.int _=>true | .bl _,.str _=>true | .str _,.bl _=>true
  | _,_=>false
def rEq:R2:=fun x y H Q=>scal x y=true∧Q (.bl (decide (x=y))) H
def rNe:R2:=fun x y H Q=>scal x y=true∧Q (.bl (!decide (x=y))) H
theorem dec_int {i j:Int}:decide (V.int i=V.int j)=(i == j):=by
  rw [Bool.eq_iff_iff]
  simp
theorem dec_bl {i j:Bool}:decide (V.bl i=V.bl j)=(i == j):=by
  rw [Bool.eq_iff_iff]
  simp
theorem dec_str {i j:Str}:decide (V.str i=V.str j)=(i == j):=by
  rw [Bool.eq_iff_iff]
  simp
theorem dec_byt {i j:Array UInt8}:decide (V.byt i=V.byt j)=(i.toList == j.toList):=by
  rw [Bool.eq_iff_iff]
  cases i
  cases j
  simp
section
variable {X:Cx} {a b c:Expr} {ta tb tc:TE} {pos:Pos}
theorem fin_bl {pins:List (Addr × Obj)} {σ:St} {H:Hp} {s:Shared} {Q:VK} {k k':Bool} (I:Inv X pins σ H s) (q:Q (.bl k) H) (e:k=k'):EP X pins σ Q (.bool k') s:=by
  subst e
  exact ⟨.bl k,H,I,rfl,q⟩
theorem op_eq:OpR X (compareOp .Eq) rEq:=by
  intro pins s σ H x y v u Q I rx ry h
  obtain ⟨hs,q⟩:=h
  cases x with
  | non =>
    cases rx
    cases y with
    | non=>cases ry; exact PySem.EqNone.eq_none_none (fin_bl I q (by simp))
    | bl j=>cases ry; exact PySem.EqNone.eq_none_bool (fin_bl I q (by simp))
    | int j=>obtain ⟨t',rfl⟩:=ry; exact PySem.EqNone.eq_none_int (fin_bl I q (by simp))
    | str j=>obtain ⟨t',rfl⟩:=ry; exact PySem.EqNone.eq_none_str (fin_bl I q (by simp))
    | _=>exact absurd (show false=true from hs) Bool.false_ne_true
  | bl i =>
    cases rx
    cases y with
    | non=>cases ry; exact PySem.EqNone.eq_bool_none (fin_bl I q (by simp))
    | bl j=>cases ry; exact eq_bool (fin_bl I q dec_bl)
    | str j=>obtain ⟨t',rfl⟩:=ry; exact PySem.EqMixed.eq_bool_str (fin_bl I q (by simp))
    | _=>exact absurd (show false=true from hs) Bool.false_ne_true
  | int i =>
    obtain ⟨t,rfl⟩:=rx
    cases y with
    | non=>cases ry; exact PySem.EqNone.eq_int_none (fin_bl I q (by simp))
    | int j=>obtain ⟨t',rfl⟩:=ry; exact eq_int (fin_bl I q dec_int)
    | str j=>obtain ⟨t',rfl⟩:=ry; exact PySem.EqMixed.eq_int_str (fin_bl I q (by simp))
    | _=>exact absurd (show false=true from hs) Bool.false_ne_true
  | str i =>
    obtain ⟨t,rfl⟩:=rx
    cases y with
    | non=>cases ry; exact PySem.EqNone.eq_str_none (fin_bl I q (by simp))
    | bl j=>cases ry; exact PySem.EqMixed.eq_str_bool (fin_bl I q (by simp))
    | int j=>obtain ⟨t',rfl⟩:=ry; exact PySem.EqMixed.eq_str_int (fin_bl I q (by simp))
    | str j=>obtain ⟨t',rfl⟩:=ry; exact eq_str (fin_bl I q dec_str)
    | _=>exact absurd (show false=true from hs) Bool.false_ne_true
  | byt i =>
    obtain ⟨t,rfl⟩:=rx
    cases y with
    | byt j=>obtain ⟨t',rfl⟩:=ry; exact PySem.W.eq_bytes (fin_bl I q dec_byt)
    | _=>exact absurd (show false=true from hs) Bool.false_ne_true
  | _=>cases y <;> exact absurd (show false=true from hs) Bool.false_ne_true
theorem op_ne:OpR X (compareOp .NotEq) rNe:=by
  intro pins s σ H x y v u Q I rx ry h
  obtain ⟨hs,q⟩:=h
  cases x with
  | non =>
    cases rx
    cases y with
    | non=>cases ry; exact PySem.EqNone.ne_none_none (fin_bl I q (by simp))
    | bl j=>cases ry; exact PySem.EqNone.ne_none_bool (fin_bl I q (by simp))
    | int j=>obtain ⟨t',rfl⟩:=ry; exact PySem.EqNone.ne_none_int (fin_bl I q (by simp))
    | str j=>obtain ⟨t',rfl⟩:=ry; exact PySem.EqNone.ne_none_str (fin_bl I q (by simp))
    | _=>exact absurd (show false=true from hs) Bool.false_ne_true
  | bl i =>
    cases rx
    cases y with
    | non=>cases ry; exact PySem.EqNone.ne_bool_none (fin_bl I q (by simp))
    | bl j=>cases ry; exact ne_bool (fin_bl I q (congrArg not dec_bl))
    | str j=>obtain ⟨t',rfl⟩:=ry; exact PySem.EqMixed.ne_bool_str (fin_bl I q (by simp))
    | _=>exact absurd (show false=true from hs) Bool.false_ne_true
  | int i =>
    obtain ⟨t,rfl⟩:=rx
    cases y with
    | non=>cases ry; exact PySem.EqNone.ne_int_none (fin_bl I q (by simp))
    | int j=>obtain ⟨t',rfl⟩:=ry; exact ne_int (fin_bl I q (congrArg not dec_int))
    | str j=>obtain ⟨t',rfl⟩:=ry; exact PySem.EqMixed.ne_int_str (fin_bl I q (by simp))
    | _=>exact absurd (show false=true from hs) Bool.false_ne_true
  | str i =>
    obtain ⟨t,rfl⟩:=rx
    cases y with
    | non=>cases ry; exact PySem.EqNone.ne_str_none (fin_bl I q (by simp))
    | bl j=>cases ry; exact PySem.EqMixed.ne_str_bool (fin_bl I q (by simp))
    | int j=>obtain ⟨t',rfl⟩:=ry; exact PySem.EqMixed.ne_str_int (fin_bl I q (by simp))
    | str j=>obtain ⟨t',rfl⟩:=ry; exact ne_str (fin_bl I q (congrArg not dec_str))
    | _=>exact absurd (show false=true from hs) Bool.false_ne_true
  | byt i =>
    obtain ⟨t,rfl⟩:=rx
    cases y with
    | byt j=>obtain ⟨t',rfl⟩:=ry; exact PySem.W.ne_bytes (fin_bl I q (congrArg not dec_byt))
    | _=>exact absurd (show false=true from hs) Bool.false_ne_true
  | _=>cases y <;> exact absurd (show false=true from hs) Bool.false_ne_true
theorem op_lt:OpR X (compareOp .Lt) (rI0 fun i j=>.bl (decide (i < j))):=opB0 fun _ _ _ _ _ _ _ q=>lt_int q
theorem op_le:OpR X (compareOp .LtE) (rI0 fun i j=>.bl (decide (i≤j))):=opB0 fun _ _ _ _ _ _ _ q=>le_int q
theorem op_gt:OpR X (compareOp .Gt) (rI0 fun i j=>.bl (decide (j < i))):=opB0 fun _ _ _ _ _ _ _ q=>gt_int q
theorem op_isN:OpR X (compareOp .Is) (fun x y H Q=>y=.non∧Q (.bl (decide (x=.non))) H):=by
  intro pins s σ H x y v u Q I rx ry h
  obtain ⟨rfl,q⟩:=h
  cases ry
  refine is_none_gen (fin_bl I q ?_)
  cases x <;> first
    | (cases rx; rfl)
    | (obtain ⟨t,rfl⟩:=rx; rfl)
theorem op_notN:OpR X (compareOp .IsNot) (fun x y H Q=>y=.non∧Q (.bl (!decide (x=.non))) H):=by
  intro pins s σ H x y v u Q I rx ry h
  obtain ⟨rfl,q⟩:=h
  cases ry
  refine isnot_none_gen (fin_bl I q ?_)
  cases x <;> first
    | (cases rx; rfl)
    | (obtain ⟨t,rfl⟩:=rx; rfl)
theorem nomark (b:Expr) {op:CmpOp} (h:op≠.In:=by decide) (h2:op≠.NotIn:=by decide):behindInMarks op b=false:=by
  have e1:(op == CmpOp.In)=false:=by cases op <;> first | rfl | exact absurd rfl h
  have e2:(op == CmpOp.NotIn)=false:=by cases op <;> first | rfl | exact absurd rfl h2
  cases b <;> simp [behindInMarks,e1,e2]
theorem pe_cmpR {op:CmpOp} {r:R2} (ho:OpR X (compareOp op) r) (ha:PE X a ta) (hb:PE X b tb) (hm:behindInMarks op b=false):PE X (.Compare a [op] [b] pos) (tOp r ta tb):=by
  intro pins s σ H Q I h
  exact wpAny_Compare1 (binT ha hb I h fun v u s2 x y H2 I2 rx ry q=>ho pins s2 σ H2 x y v u Q I2 rx ry q) hm
def tTest (t:TE):TT:=fun σ H Q=>t σ H fun x H' => ∃ k,x=.bl k∧Q k H'
theorem pt_cmpR {op:CmpOp} {r:R2} (ho:OpR X (compareOp op) r) (ha:PE X a ta) (hb:PE X b tb) (hm:behindInMarks op b=false):PT X (.Compare a [op] [b] pos) (tTest (tOp r ta tb)):=by
  intro pins s σ H Q I h
  refine wpAny_isTrue_Compare1 (thn (ha pins s σ H _ I h) fun v s1 ⟨x,H1,I1,r1,q1⟩=>thn (hb pins s1 σ H1 _ I1 q1) fun u s2 ⟨y,H2,I2,r2,q2⟩ =>
    thn (ho pins s2 σ H2 x y v u _ I2 r1 r2 q2) fun c s3 ⟨z,H3,I3,r3,k,e,q3⟩=>?_) hm
  subst e
  cases r3
  exact wpAny_truthy_bool ⟨H3,I3,q3⟩
def tChain (r r':R2) (ta tb tc:TE):TE:=fun σ H Q=>ta σ H fun x H1=>tb σ H1 fun y H2=>r x y H2 fun z H3 => ∃ k,z=.bl k ∧
  (if k=true then tc σ H3 fun w' H4=>r' y w' H4 Q else Q (.bl false) H3)
theorem pe_chain {op op':CmpOp} {r r':R2} (ho:OpR X (compareOp op) r) (ho':OpR X (compareOp op') r') (ha:PE X a ta) (hb:PE X b tb) (hc:PE X c tc)
    (hm:lastMarks [op,op'] [b,c]=false:=by with_unfolding_all rfl):PE X (.Compare a [op,op'] [b,c] pos) (tChain r r' ta tb tc):=by
  intro pins s σ H Q I h
  refine Compare_chain (thn (ha pins s σ H _ I h) fun v s1 ⟨x,H1,I1,r1,q1⟩=>chain_link (thn (hb pins s1 σ H1 _ I1 q1) fun u s2 ⟨y,H2,I2,r2,q2⟩ =>
    thn (ho pins s2 σ H2 x y v u _ I2 r1 r2 q2) fun d s3 ⟨z,H3,I3,r3,k,e,q3⟩=>?_)) hm
  subst e
  cases r3
  refine wpAny_truthy_bool ?_
  cases k with
  | false=>exact ite_ff ⟨.bl false,H3,I3,rfl,q3⟩
  | true=>exact ite_tt (chain_last (thn (hc pins s3 σ H3 _ I3 q3) fun w' s4 ⟨z',H4,I4,r4,q4⟩=>ho' pins s4 σ H4 y z' u w' Q I4 r2 r4 q4))
theorem pt_chain {op op':CmpOp} {r r':R2} (ho:OpR X (compareOp op) r) (ho':OpR X (compareOp op') r') (ha:PE X a ta) (hb:PE X b tb) (hc:PE X c tc)
    (hm:lastMarks [op,op'] [b,c]=false:=by with_unfolding_all rfl):PT X (.Compare a [op,op'] [b,c] pos) (tTest (tChain r r' ta tb tc)):=by
  intro pins s σ H Q I h
  refine isTrue_chain (thn (ha pins s σ H _ I h) fun v s1 ⟨x,H1,I1,r1,q1⟩=>test_link (thn (hb pins s1 σ H1 _ I1 q1) fun u s2 ⟨y,H2,I2,r2,q2⟩ =>
    thn (ho pins s2 σ H2 x y v u _ I2 r1 r2 q2) fun d s3 ⟨z,H3,I3,r3,k,e,q3⟩=>?_)) hm
  subst e
  cases r3
  refine wpAny_truthy_bool ?_
  cases k with
  | false =>
    obtain ⟨k',e',q'⟩:=q3
    cases e'
    exact ite_ff ⟨H3,I3,q'⟩
  | true =>
    refine ite_tt (test_last (thn (hc pins s3 σ H3 _ I3 q3) fun w' s4 ⟨z',H4,I4,r4,q4⟩=>thn (ho' pins s4 σ H4 y z' u w' _ I4 r2 r4 q4) fun d' s5 ⟨z2,H5,I5,r5,k2,e2,q5⟩=>?_))
    subst e2
    cases r5
    exact wpAny_truthy_bool ⟨H5,I5,q5⟩
theorem line63:(sizeLine:Nat) < 2 ^ 63:=by rw [sizeLine_eq]; decide
theorem op_add_str:OpR X (binaryOp .Add) (fun x y H Q => ∃ i j,x=.str i∧y=.str j∧i.length + j.length≤sizeLine∧Q (.str (i ++ j)) H):=by
  intro pins s σ H x y v u Q I rx ry h
  obtain ⟨i,j,rfl,rfl,hz,q⟩:=h
  obtain ⟨t,rfl⟩:=rx
  obtain ⟨t',rfl⟩:=ry
  exact add_str (fun t' tk=>⟨.str (i ++ j),H,I.tok _,⟨_,rfl⟩,q⟩) hz
theorem vals1 {x:V} {us:List Value} (r:Vals [x] us):∃ u,us=[u]∧RelV x u:=by
  cases r with
  | cons r1 r2=>cases r2; exact ⟨_,rfl,r1⟩
theorem vals2 {x y:V} {us:List Value} (r:Vals [x,y] us):∃ u w',us=[u,w']∧RelV x u∧RelV y w':=by
  cases r with
  | cons r1 r2 =>
    cases r2 with
    | cons r3 r4=>cases r4; exact ⟨_,_,rfl,r1,r3⟩
theorem call_abs:CallR X (.builtin "abs") (fun xs H Q => ∃ i,xs=[.int i]∧Q (.int (if i < 0 then -i else i)) H):=by
  intro pins s σ H xs us Q I r h
  obtain ⟨i,rfl,q⟩:=h
  obtain ⟨u,rfl,t,rfl⟩:=vals1 r
  exact call_abs_int fun u tk=>⟨.int (if i < 0 then -i else i),H,I.tok _,⟨_,rfl⟩,q⟩
theorem call_min2 (hc:X.calm=true):CallR X (.builtin "min") (fun xs H Q => ∃ i j,xs=[.int i,.int j]∧Q (.int (if j < i then j else i)) H):=by
  intro pins s σ H xs us Q I r h
  obtain ⟨i,j,rfl,q⟩:=h
  obtain ⟨u,w',rfl,⟨t,rfl⟩,⟨t',rfl⟩⟩:=vals2 r
  refine min_two_ints (I.ok.hd hc) fun h' tk k=>⟨_,H,I.kept k,?_,q⟩
  by_cases hj:j < i
  · rw [if_pos hj,if_pos hj]; exact ⟨_,rfl⟩
  · rw [if_neg hj,if_neg hj]; exact ⟨_,rfl⟩
theorem call_int1:CallR X (.type "int") (fun xs H Q=>(∃ i,xs=[.int i]∧Q (.int i) H)∨∃ k,xs=[.bl k]∧Q (.int (if k then 1 else 0)) H):=by
  intro pins s σ H xs us Q I r h
  rcases h with ⟨i,rfl,q⟩ | ⟨k,rfl,q⟩
  · obtain ⟨u,rfl,t,rfl⟩:=vals1 r
    exact call_int_int ⟨.int i,H,I,⟨_,rfl⟩,q⟩
  · obtain ⟨u,rfl,r1⟩:=vals1 r
    cases r1
    exact call_int_bool ⟨.int (if k then 1 else 0),H,I.tok _,⟨_,rfl⟩,q⟩
end
end L2
namespace L2
open PySem PySem.Spec PyProof.Rows
structure ObjM (h:Heap) (x dx C:Addr) (mA:Str→Option Value):Prop where
  obj:h.get? x=some (PySem.W.instObj C dx)
  ns:h.Ns1 dx mA
  ne:dx≠x
theorem lookIn_ns {h:Heap} {dx:Addr} {mA:Str→Option Value} (n:h.Ns1 dx mA):∃ od,h.get? dx=some od∧∀ name,PySem.W.lookIn name od=some (mA name):=by
  obtain ⟨o,es,ep,ho,hd,hk,_,hm⟩:=n
  refine ⟨o,ho,fun name=>?_⟩
  have e:=hm name
  unfold nsFind findBy at e
  rw [← Array.find?_toList] at e
  unfold PySem.W.lookIn
  rw [hd]
  dsimp only
  split
  · rename_i y q
    rw [q] at e
    exact congrArg some e
  · rename_i q
    rw [q] at e
    have a:es.toList.any (·.refKey)=false:=by
      rw [List.any_eq_false]
      intro y hy
      obtain ⟨z,t,hkey⟩:=hk y (Array.mem_toList_iff.mp hy)
      simp [DictEntry.refKey,hkey]
    have a':¬ es.toList.any (·.refKey)=true:=by rw [a]; exact Bool.false_ne_true
    rw [if_neg a']
    exact congrArg some e
theorem ObjM.look {h:Heap} {x dx C:Addr} {mA:Str→Option Value} (I:ObjM h x dx C mA):∃ od,PySem.W.InstAt h x (PySem.W.instObj C dx) C (some od)∧∀ name,PySem.W.lookIn name od=some (mA name) :=
  let ⟨od,ho,hl⟩:=lookIn_ns I.ns
  ⟨od,⟨I.obj,rfl,rfl,ho⟩,hl⟩
section
variable {prog:Program} {w:World} {A:Around} {E:Value→Shared→Prop} {s:Shared} {K:PySem.W.Frag} {x dx C f:Addr} {mA:Str→Option Value} {name:Str} {v:Value}
theorem get_map {expr:Bool} {Q:Value→Shared→Prop} (X:K.In s.heap) (I:ObjM s.heap x dx C mA) (hg:PySem.W.plainGet K C name=true) (hh:PySem.W.hasDictIn K C=true)
    (ha:PySem.W.findIn K (.ref C) name=some none) (hv:mA name=some v) (hv':PySem.W.handedIn v=true) (h:Q v { s with toks:=s.toks + 1 }) :
    wpAny (model prog w) A (getAttr (.ref x) name expr) Q E s:=by
  obtain ⟨od,J,hl⟩:=I.look
  exact PySem.W.get_value X J (PySem.W.plainGet_of hg).1 (PySem.W.findObj_own hh ha rfl (by rw [hl,hv])) hv' h
theorem get_meth {pl:Sem Bool} {Q:Value × List Value→Shared→Prop} (X:K.In s.heap) (I:ObjM s.heap x dx C mA) (hg:PySem.W.plainGet K C name=true)
    (hf:PySem.W.findIn K (.ref C) name=some (some (.ref f))) (ht:PySem.W.isFn K (.ref f)=true) (hv:mA name=none) (h:Q (.ref f,[.ref x]) s) :
    wpAny (model prog w) A (getMethod (.ref x) name pl) Q E s:=by
  obtain ⟨od,J,hl⟩:=I.look
  exact PySem.W.method_fn X J (PySem.W.plainGet_of hg).1 (PySem.W.plainGet_of hg).2 hf (beq_iff_eq.mp ht) (by show (PySem.W.lookIn name od).map (·.isSome)=some false; rw [hl,hv]; rfl) h
theorem set_map {ns:List Str} {Q:Unit→Shared→Prop} (X:K.In s.heap) (I:ObjM s.heap x dx C mA)
    (hs:PySem.W.findIn K (.ref C) "__setattr__" = some (some (.builtin "object.__setattr__"))) (hp:PySem.W.plainOver K C=true) (ht:PySem.W.takerIn K C name=some none) (hh:PySem.W.hasDictIn K C=true)
    (hw:PySem.Within mA ns) (hsz:ns.length≤sizeLine)
    (h:∀ h',ObjM h' x dx C (fun y=>if y=name then some v else mA y)→Heap.SameBut dx s.heap h'→Q () { s with heap:=h',toks:=s.toks + 2 }) :
    wpAny (model prog w) A (setAttr (.ref x) name v) Q E s:=by
  obtain ⟨od,J,hl⟩:=I.look
  refine PySem.W.set_plain X J hs (PySem.W.osa_open (s:={ s with toks:=s.toks + 1 }) (r:=none) X J hp ht fun b=>?_)
  obtain ⟨cd,hc,hd'⟩:=PySem.W.any_some hh
  have hx:s.heap.get? x=some ⟨.ref C,some dx,.plain,#[]⟩:=I.obj
  refine wpAny_bind (wpAny_pure (wpAny_bind (wpAny_bind (wpAny_loadPart hx (wpAny_bind (PySem.W.Looks.here (s:={ s with toks:=s.toks + 1 }) (PySem.W.looks_clsIn X hc) ?_))))))
  rw [hd']
  refine wpAny_pure (a:=some dx) (wpAny_bind (wpAny_pure (wpAny_bind ?_)))
  refine wpAny_nsSet1 (s:={ s with toks:=s.toks + 1 }) I.ns fun h' hn2 hs2=>?_
  obtain ⟨oD,esD,epD,hoD,hdD,hcD⟩:=hn2.count (PySem.Within.cons name v hw)
  refine wpAny_bind (wpAny_lookBehind hoD (by rw [hdD]; exact pastItsLine_dict (Nat.le_trans hcD (by rw [List.length_cons]; omega))) ?_)
  exact wpAny_pure (h _ ⟨(hs2.2 _ (Ne.symm I.ne)).trans I.obj,hn2,I.ne⟩ hs2)
theorem make_map {R:Result→Shared→Prop} {vs:List Value} {kw:List (Str × Value)} (X:K.In s.heap) (hm:PySem.W.makesIn K C=true)
    (hi:PySem.W.findIn K (.ref C) "__init__" = some (some (.ref f))) (hf:PySem.W.typeIn K (.ref f)=some (.type "function"))
    (h:codeAny (model prog w) (A.under (.builtin "type.__call__" ⟨.ref C :: vs,kw⟩)) (.call (.ref f) ⟨.ref (s.heap.objs.size + 1) :: vs,kw⟩) (PySem.W.InitBack (s.heap.objs.size + 1) R)
      { s with heap:=(s.heap.push PySem.W.emptyDict).push (PySem.W.instObj C s.heap.objs.size) }) :
    codeAny (model prog w) A (.call (.ref C) ⟨vs,kw⟩) R s:=by
  obtain ⟨hh,g,d,t,os⟩:=s
  exact PySem.W.make_core (PySem.W.makes_of X hm) (PySem.W.looks_findIn X hi) (fun self=>PySem.W.bind_fn X self hf) (.inl rfl) h
end
def putF (f:Str) (v:V):List (Str × V)→List (Str × V)
  | [] => [(f,v)]
  | (g,x) :: r=>if g=f then (g,v) :: r else (g,x) :: putF f v r
theorem lookup_putF (f g:Str) (v:V):∀ fs:List (Str × V),(putF f v fs).lookup g=if g=f then some v else fs.lookup g
  | []=>by
    show List.lookup g [(f,v)]=_
    by_cases h:g=f
    · have hb:(g == f)=true:=beq_iff_eq.mpr h
      simp only [List.lookup,hb,if_pos h]
    · have hb:(g == f)=false:=beq_eq_false_iff_ne.mpr h
      simp only [List.lookup,hb,if_neg h]
  | (k,x) :: r=>by
    have ih:=lookup_putF f g v r
    rw [show putF f v ((k,x) :: r)=(if k=f then (k,v) :: r else (k,x) :: putF f v r) from rfl]
    by_cases hk:k=f
    · rw [if_pos hk]
      by_cases h:g=k
      · have hb:(g == k)=true:=beq_iff_eq.mpr h
        simp only [List.lookup,hb,if_pos (h.trans hk)]
      · have hb:(g == k)=false:=beq_eq_false_iff_ne.mpr h
        simp only [List.lookup,hb,if_neg (fun e:g=f=>h (e.trans hk.symm))]
    · rw [if_neg hk]
      by_cases h:g=k
      · have hb:(g == k)=true:=beq_iff_eq.mpr h
        simp only [List.lookup,hb,if_neg (fun e:g=f=>hk (h.symm.trans e))]
      · have hb:(g == k)=false:=beq_eq_false_iff_ne.mpr h
        simp only [List.lookup,hb]
        exact ih
theorem keys_putF (f:Str) (v:V):∀ fs:List (Str × V),f∈(putF f v fs).map (·.1)∧∀ g,g∈fs.map (·.1)→g∈(putF f v fs).map (·.1)
  | []=>⟨by simp [putF],fun g h=>by simp at h⟩
  | (k,x) :: r=>by
    obtain ⟨i1,i2⟩:=keys_putF f v r
    rw [show putF f v ((k,x) :: r)=(if k=f then (k,v) :: r else (k,x) :: putF f v r) from rfl]
    by_cases hk:k=f
    · rw [if_pos hk]
      subst hk
      exact ⟨by simp,fun g h=>by simpa using h⟩
    · rw [if_neg hk]
      refine ⟨?_,fun g h=>?_⟩
      · rw [List.map_cons]
        exact List.mem_cons_of_mem _ i1
      · rw [List.map_cons] at h ⊢
        rcases List.mem_cons.mp h with e | e
        · exact List.mem_cons.mpr (.inl e)
        · exact List.mem_cons_of_mem _ (i2 g e)
theorem length_putF (f:Str) (v:V):∀ fs:List (Str × V),(putF f v fs).length≤fs.length + 1
  | []=>by simp [putF]
  | (k,x) :: r=>by
    have ih:=length_putF f v r
    rw [show putF f v ((k,x) :: r)=(if k=f then (k,v) :: r else (k,x) :: putF f v r) from rfl]
    by_cases hk:k=f
    · rw [if_pos hk,List.length_cons,List.length_cons]; omega
    · rw [if_neg hk,List.length_cons,List.length_cons]; omega
theorem RelO.some_of {v:V} {o:Option Value} (r:RelO (some v) o):∃ u,o=some u∧RelV v u:=by
  cases o with
  | none=>exact (show False from r).elim
  | some u=>exact ⟨u,rfl,r⟩
theorem RelO.none_of {o:Option Value} (r:RelO none o):o=none:=by
  cases o with
  | none=>rfl
  | some u=>exact (show False from r).elim
theorem handed_of {v:V} {u:Value} (r:RelV v u):PySem.W.handedIn u=true:=by
  cases v with
  | non=>cases (show u=Value.none from r); rfl
  | bl b=>cases (show u=Value.bool b from r); rfl
  | int i=>obtain ⟨t,e⟩:=(show ∃ t,u=Value.int i t from r); cases e; rfl
  | str x=>obtain ⟨t,e⟩:=(show ∃ t,u=Value.str x t from r); cases e; rfl
  | byt b=>obtain ⟨t,e⟩:=(show ∃ t,u=Value.bytes b t from r); cases e; rfl
  | flt b=>obtain ⟨t,e⟩:=(show ∃ t,u=Value.float b t from r); cases e; rfl
  | ref a=>cases (show u=Value.ref a from r); rfl
  | ty n=>cases (show u=Value.type n from r); rfl
section
variable {P:Program} {w:World} {H H':Hp} {h h':Heap} {a C dx:Addr} {fs fs':List (Str × V)}
theorem ins_get (hok:HOk P w H h) (e:H a=some (.ins C dx fs)):∃ mA,ObjM h a dx C mA∧(∀ f,RelO (fs.lookup f) (mA f))∧PySem.Within mA (fs.map (·.1))∧fs.length≤1000∧H dx=some (.own a):=by
  obtain ⟨d,z,ne,ob,mA,n,r,q⟩:=(show ObjOk P w H h a (.ins C dx fs) from hok a _ e)
  exact ⟨mA,⟨ob,n,ne⟩,r,q,z,d⟩
end
structure Cls (K:PySem.W.Frag) (C:Addr):Prop where
  pg:PySem.W.plainGet K C Str.empty=true
  hd:PySem.W.hasDictIn K C=true
  po:PySem.W.plainOver K C=true
  sa:PySem.W.findIn K (.ref C) "__setattr__" = some (some (.builtin "object.__setattr__"))
theorem Cls.get {K:PySem.W.Frag} {C:Addr} (c:Cls K C) (f:Str):PySem.W.plainGet K C f=true:=c.pg
def NoAttr (K:PySem.W.Frag) (C:Addr) (f:Str):Prop:=PySem.W.findIn K (.ref C) f=some none
theorem NoAttr.taker {K:PySem.W.Frag} {C:Addr} {f:Str} (n:NoAttr K C f):PySem.W.takerIn K C f=some none:=by
  unfold PySem.W.takerIn
  rw [show PySem.W.findIn K (.ref C) f=some none from n]
  rfl
structure Meth (K:PySem.W.Frag) (C:Addr) (m:Str) (f:Addr):Prop where
  at_:PySem.W.findIn K (.ref C) m=some (some (.ref f))
  fn:PySem.W.isFn K (.ref f)=true
  kp:PySem.W.keepIn K (.ref f)=true
section
variable {X:Cx} {pins:List (Addr × Obj)} {σ:St} {H:Hp} {s:Shared} {a C dx:Addr} {fs:List (Str × V)} {f:Str} {v:V} {A:Around} {E:Value→Shared→Prop}
theorem getattr_ok {b:Bool} {Q:Value→Shared→Prop} (I:Inv X pins σ H s) (e:H a=some (.ins C dx fs)) (c:Cls X.K C) (n:NoAttr X.K C f) (l:fs.lookup f=some v)
    (h:∀ u s',Inv X pins σ H s'→RelV v u→Q u s'):wpAny (model X.prog X.w) A (getAttr (.ref a) f b) Q E s:=by
  obtain ⟨mA,O,r,_,_,_⟩:=ins_get I.hok e
  obtain ⟨u,hu,ru⟩:=RelO.some_of (v:=v) (o:=mA f) (by rw [← l]; exact r f)
  exact get_map I.kIn O (c.get f) c.hd n hu (handed_of ru) (h u _ (I.tok _) ru)
theorem getmeth_ok {m:Str} {g:Addr} {pl:Sem Bool} {Q:Value × List Value→Shared→Prop} (I:Inv X pins σ H s) (e:H a=some (.ins C dx fs)) (c:Cls X.K C) (k:Meth X.K C m g) (l:fs.lookup m=none)
    (h:Q (.ref g,[.ref a]) s):wpAny (model X.prog X.w) A (getMethod (.ref a) m pl) Q E s:=by
  obtain ⟨mA,O,r,_,_,_⟩:=ins_get I.hok e
  have hn:mA m=none:=RelO.none_of (by rw [← l]; exact r m)
  exact get_meth I.kIn O (c.get m) k.at_ k.fn hn h
theorem setattr_ok {y:V} {u:Value} {Q:Unit→Shared→Prop} (I:Inv X pins σ H s) (e:H a=some (.ins C dx fs)) (c:Cls X.K C) (n:NoAttr X.K C f) (hl:fs.length < 1000) (ry:RelV y u)
    (h:∀ s',Inv X pins σ (upd H a (.ins C dx (putF f y fs))) s'→Q () s'):wpAny (model X.prog X.w) A (setAttr (.ref a) f u) Q E s:=by
  obtain ⟨mA,O,r,wi,_,ho⟩:=ins_get I.hok e
  have hz:(fs.map (·.1)).length≤sizeLine:=by rw [List.length_map,sizeLine_eq]; omega
  refine set_map I.kIn O c.sa c.po n.taker c.hd wi hz fun h' O' sb=>h _ ?_
  have hd:∃ o,h'.get? dx=some o:=let ⟨o,_,_,e',_⟩:=O'.ns; ⟨o,e'⟩
  refine I.write (x:=a) (e:=dx) (by rw [e]; exact True.intro) (.inr ho) (fun b q hb z=>(sb.2 b hb).trans z) hd ?_
  refine ⟨by rw [upd_ne O.ne]; exact ho,?_,O.ne,O'.obj,_,O'.ns,fun g=>?_,fun g hg=>?_⟩
  · have:=length_putF f y fs; omega
  · show RelO ((putF f y fs).lookup g) (if g=f then some u else mA g)
    rw [lookup_putF]
    by_cases q:g=f
    · rw [if_pos q,if_pos q]; exact ry
    · rw [if_neg q,if_neg q]; exact r g
  · by_cases q:g=f
    · rw [q]; exact (keys_putF f y fs).1
    · refine (keys_putF f y fs).2 g (wi g fun z=>hg ?_)
      show (if g=f then some u else mA g)=none
      rw [if_neg q]; exact z
theorem Inv.made (I:Inv X pins σ H s):Inv X pins σ (upd (upd H s.heap.objs.size (.own (s.heap.objs.size + 1))) (s.heap.objs.size + 1) (.ins C s.heap.objs.size []))
    { s with heap:=(s.heap.push PySem.W.emptyDict).push (PySem.W.instObj C s.heap.objs.size) }:=by
  have e1:(s.heap.push PySem.W.emptyDict).get? s.heap.objs.size=some PySem.W.emptyDict:=Heap.get?_push_size s.heap rfl
  have e2:((s.heap.push PySem.W.emptyDict).push (PySem.W.instObj C s.heap.objs.size)).get? (s.heap.objs.size + 1)=some (PySem.W.instObj C s.heap.objs.size):=by
    have:=Heap.get?_push_size (s.heap.push PySem.W.emptyDict) (o:=PySem.W.instObj C s.heap.objs.size) rfl
    rwa [Heap.size_push] at this
  have e3:(s.heap.push PySem.W.emptyDict).Ns s.heap.objs.size (fun _=>none):=⟨PySem.W.emptyDict,#[],_,e1,rfl,(fun e he=>absurd he (by simp)),fun _=>rfl⟩
  have I1:=I.laid (a:=s.heap.objs.size) (o:=.own (s.heap.objs.size + 1)) (h':=s.heap.push PySem.W.emptyDict) (t':=s.toks) (fun b u q=>Heap.get?_push_of_some _ q) (Nat.le_refl _) ⟨_,e1⟩
  refine I1.laid (a:=s.heap.objs.size + 1) (o:=.ins C s.heap.objs.size []) (t':=s.toks) (fun b u q=>Heap.get?_push_of_some _ q) (Nat.le_of_eq (Heap.size_push _ _)) ?_
  have ne:s.heap.objs.size≠s.heap.objs.size + 1:=Nat.ne_of_lt (Nat.lt_succ_self _)
  refine ⟨by rw [upd_ne ne,upd_same],Nat.zero_le _,ne,e2,fun _=>none,(Heap.Ns1.of_empty e3).at fun o q=>Heap.get?_push_of_some _ q,fun _=>True.intro,fun y hy=>absurd rfl hy⟩
theorem attr_of {prog:Program} {w:World} {env:Env} {e:Expr} {f:Str} {pos:Pos} {s:Shared} {Q:Value→Shared→Prop} (hb:attributeBase e f env (eval e env)=eval e env)
    (h:wpAny (model prog w) A (eval e env) (fun o s₁=>wpAny (model prog w) A (getAttr o f true) Q E s₁) E s):wpAny (model prog w) A (eval (.Attribute e f pos) env) Q E s :=
  Attribute_any_ h (by rw [arm_eval_Attribute,hb])
end
def tFld (K:PySem.W.Frag) (ta:TE) (f:Str):TE:=fun σ H Q=>ta σ H fun x H1 => ∃ a C dx fs v,x=.ref a∧H1 a=some (.ins C dx fs)∧Cls K C∧NoAttr K C f∧fs.lookup f=some v∧Q v H1
def sFld (K:PySem.W.Frag) (ta tv:TE) (f:Str):TS:=fun D σ H=>tv σ H fun y H1=>ta σ H1 fun x H2 => ∃ a C dx fs,x=.ref a∧H2 a=some (.ins C dx fs)∧Cls K C∧NoAttr K C f∧fs.length < 1000 ∧
  D.nx σ (upd H2 a (.ins C dx (putF f y fs)))
section
variable {X:Cx} {o e value:Expr} {f:Str} {pos pos' tpos:Pos} {ta tv:TE}
theorem pe_fld (he:PE X e ta) (hb:attributeBase e f X.env (eval e X.env)=eval e X.env):PE X (.Attribute e f pos) (tFld X.K ta f):=by
  intro pins s σ H Q I h
  refine attr_of hb (thn (he pins s σ H _ I h) fun u s1 ⟨x,H1,I1,rx,a,C,dx,fs,v,ex,ea,c,n,l,q⟩=>?_)
  subst ex
  obtain rfl:u=Value.ref a:=rx
  exact getattr_ok I1 ea c n l fun u' s2 I2 ru=>⟨v,H1,I2,ru,q⟩
theorem ps_fld (ha:PE X o ta) (hv:PE X value tv) (hs:swapsWith value (some (.Attribute o f pos')) pos.line X.env=pure false):PS X (.Assign [.Attribute o f pos'] value pos) (sFld X.K ta tv f):=by
  intro pins s σ H D I h
  refine plainObj_wpAny_Assign_Attribute (thn (hv pins s σ H _ I h) fun u s1 ⟨y,H1,I1,ry,q⟩=>thn (ha pins s1 σ H1 _ I1 q) fun ov s2 ⟨x,H2,I2,rx,a,C,dx,fs,ex,ea,c,n,l,q2⟩=>?_) hs
  subst ex
  obtain rfl:ov=Value.ref a:=rx
  exact setattr_ok I2 ea c n l ry fun s3 I3=>⟨σ,_,I3,q2⟩
end
section
variable {X:Cx} {pins:List (Addr × Obj)} {σ:St} {H:Hp} {s:Shared} {A:Around} {E:Value→Shared→Prop} {Q:Value→Shared→Prop} {c:Value} {b:Bool}
inductive TyOf (K:PySem.W.Frag) (H:Hp):V→Value→Prop where
  | non:TyOf K H .non (.type "NoneType")
  | bl (x:Bool):TyOf K H (.bl x) (.type "bool")
  | int (i:Int):TyOf K H (.int i) (.type "int")
  | str (x:Str):TyOf K H (.str x) (.type "str")
  | flt (x:UInt64):TyOf K H (.flt x) (.type "float")
  | lst {a:Addr} {xs:List V} (e:H a=some (.lst xs)):TyOf K H (.ref a) (.type "list")
  | frz {a:Addr} {o:Obj} {xs:List V} (e:H a=some (.frz o (.lst xs))):TyOf K H (.ref a) (.type "list")
  | tup {a:Addr} {xs:List V} (e:H a=some (.tup xs)):TyOf K H (.ref a) (.type "tuple")
  | dK {a:Addr} {kvs:List (Key × V)} (e:H a=some (.dK kvs)):TyOf K H (.ref a) (.type "dict")
  | dT {a:Addr} {kvs:List (List Key × V)} (e:H a=some (.dT kvs)):TyOf K H (.ref a) (.type "dict")
  | ins {a C dx:Addr} {fs:List (Str × V)} (e:H a=some (.ins C dx fs)) (cl:Cls K C) (ha:PySem.W.findIn K (.ref C) "__class__" = some (some (.builtin "object.__class__")))
      (hn:PySem.W.specialIn K (.builtin "object.__class__") "__get__" = some (some (.builtin "getset_descriptor.__get__"))) (htk:PySem.W.takesIn K (.builtin "object.__class__")=some true)
      (hm:PySem.W.mroIn K C (.type "object")=some true):TyOf K H (.ref a) (.ref C)
theorem isinst_ok {x:V} {u t:Value} (I:Inv X pins σ H s) (rx:RelV x u) (ty:TyOf X.K H x t) (e:PySem.W.kitOne X.K t c=some b) (h:∀ tk,Q (.bool b) { s with toks:=tk }) :
    wpAny (model X.prog X.w) A (call (.builtin "isinstance") [u,c]) Q E s:=by
  cases ty with
  | non=>cases (show u=Value.none from rx); exact PySem.W.kia_one PySem.W.kitx_none I.kIn True.intro e (fun z=>nomatch z) h
  | bl y=>cases (show u=Value.bool y from rx); exact PySem.W.kia_one PySem.W.kitx_bool I.kIn True.intro e (fun z=>nomatch z) h
  | int i=>obtain ⟨t,q⟩:=(show ∃ t,u=Value.int i t from rx); cases q; exact PySem.W.kia_one PySem.W.kitx_int I.kIn True.intro e (fun z=>nomatch z) h
  | str y=>obtain ⟨t,q⟩:=(show ∃ t,u=Value.str y t from rx); cases q; exact PySem.W.kia_one PySem.W.kitx_str I.kIn True.intro e (fun z=>nomatch z) h
  | flt y=>obtain ⟨t,q⟩:=(show ∃ t,u=Value.float y t from rx); cases q; exact PySem.W.kia_one PySem.W.kitx_float I.kIn True.intro e (fun z=>nomatch z) h
  | @lst a xs ea =>
    cases (show u=Value.ref a from rx)
    obtain ⟨_,_,n,_,h1⟩:=(show ObjOk X.prog X.w H s.heap a (.lst xs) from I.hok a _ ea)
    exact PySem.W.kia_one PySem.W.kitx_list I.kIn ⟨_,h1,rfl⟩ e (fun z=>nomatch z) h
  | @frz a ob xs ea =>
    cases (show u=Value.ref a from rx)
    obtain ⟨_,_,_,n,_,h1⟩:=(show ObjOk X.prog X.w H s.heap a (.frz ob (.lst xs)) from I.hok a _ ea)
    exact PySem.W.kia_one PySem.W.kitx_list I.kIn ⟨_,h1,rfl⟩ e (fun z=>nomatch z) h
  | @tup a xs ea =>
    cases (show u=Value.ref a from rx)
    obtain ⟨_,_,_,p⟩:=(show ObjOk X.prog X.w H s.heap a (.tup xs) from I.hok a _ ea)
    obtain ⟨o,h1,h2,_⟩:=p
    exact PySem.W.kia_one PySem.W.kitx_tuple I.kIn ⟨o,h1,h2⟩ e (fun z=>nomatch z) h
  | @dK a kvs ea =>
    cases (show u=Value.ref a from rx)
    obtain ⟨_,_,vs,_,p⟩:=(show ObjOk X.prog X.w H s.heap a (.dK kvs) from I.hok a _ ea)
    obtain ⟨o,es,ep,h1,h2,_⟩:=p
    exact PySem.W.kia_one PySem.W.kitx_dict I.kIn ⟨o,h1,h2.1⟩ e (fun z=>nomatch z) h
  | @dT a kvs ea =>
    cases (show u=Value.ref a from rx)
    obtain ⟨_,_,xs,_,o,es,ep,h1,h2,_⟩:=(show ObjOk X.prog X.w H s.heap a (.dT kvs) from I.hok a _ ea)
    exact PySem.W.kia_one PySem.W.kitx_dict I.kIn ⟨o,h1,h2.1⟩ e (fun z=>nomatch z) h
  | @ins a C dx fs ea cl ha hn htk hm =>
    cases (show u=Value.ref a from rx)
    obtain ⟨mA,O,_⟩:=ins_get I.hok ea
    obtain ⟨od,J,_⟩:=O.look
    exact PySem.W.kia_one (PySem.W.kitx_own (cl.get _) cl.hd ha hn htk hm) I.kIn J e (fun z=>nomatch z) h
end
end L2
namespace L2
open PySem PySem.Spec PyProof.Rows
structure Room (k:Nat) (A:Around):Prop where
  hd:A.handled=none
  dp:A.depth + 3 * k + 5 < recursionLimit
  un:A.units + 16 * k + 200 < cLine
theorem Room.mono {j k:Nat} {A:Around} (r:Room k A) (h:j≤k):Room j A:=⟨r.hd,by have:=r.dp; omega,by have:=r.un; omega⟩
theorem Room.deeper {k:Nat} {A:Around} (r:Room (k + 1) A) (env:Env):Room k (A.deeper env) :=
  ⟨r.hd,by have:=r.dp; show A.depth + 1 + 3 * k + 5 < _; omega,by have:=r.un; show A.units + 3 + 16 * k + 200 < _; omega⟩
theorem Room.in1 {k:Nat} {A:Around} (r:Room (k + 1) A):Room k A.in1 :=
  ⟨r.hd,by have:=r.dp; show A.depth + 3 * k + 5 < _; omega,by have:=r.un; show A.units + 1 + 16 * k + 200 < _; omega⟩
theorem make_depth {A:Around} {C:Addr} {us:List Value} {kw:List (Str × Value)}:(A.under (.builtin "type.__call__" ⟨.ref C :: us,kw⟩)).depth=A.depth + 1:=by
  first | rfl | simp [Around.under,Code.weight,Code.isCreation,Code.isGuard,Code.isCaller,Code.frames,Code.isFrame,guardIds]
theorem make_units {A:Around} {C:Addr} {us:List Value} {kw:List (Str × Value)}:(A.under (.builtin "type.__call__" ⟨.ref C :: us,kw⟩)).units=A.units + 1:=by
  first | rfl | simp [Around.under,Code.cUnits,Code.frames,Code.isFrame]
theorem Room.make {k:Nat} {A:Around} (r:Room (k + 1) A) (C:Addr) (us:List Value) (kw:List (Str × Value)):Room k (A.under (.builtin "type.__call__" ⟨.ref C :: us,kw⟩)) :=
  ⟨r.hd,by have:=r.dp; rw [make_depth]; omega,by have:=r.un; rw [make_units]; omega⟩
theorem Room.depth {k:Nat} {A:Around} (r:Room k A):A.depth < recursionLimit:=by have:=r.dp; omega
theorem Room.units {k:Nat} {A:Around} (r:Room k A):A.units + 64 < cLine:=by have:=r.un; omega
theorem Room.units0 {k:Nat} {A:Around} (r:Room k A):A.units < cLine:=by have:=r.un; omega
def tNil:TA:=fun _ H Q=>Q [] H
def tCons (ta:TE) (tr:TA):TA:=fun σ H Q=>ta σ H fun x H1=>tr σ H1 fun xs H2=>Q (x :: xs) H2
section
variable {X:Cx} {e:Expr} {es:List Expr} {te:TE} {t:TA} {pos:Pos}
theorem pa_nil:PA X [] tNil:=fun _ _ _ _ H Q I h=>Calls.spliced_nil ⟨[],H,I,.nil,h⟩
theorem pa_cons (ha:PE X e te) (hr:PA X es t) (hs:starEach (e :: es) X.env=(false,eval e X.env) :: starEach es X.env:=by rfl):PA X (e :: es) (tCons te t):=by
  intro pos pins s σ H Q I h
  rw [hs]
  show wpAny _ _ (spliced ((false,eval e X.env) :: backTo pos (starEach es X.env))) _ _ s
  refine Calls.spliced_cons (thn (ha pins s σ H _ I h) fun u s1 ⟨x,H1,I1,r1,q1⟩=>?_)
  exact thn (hr pos pins s1 σ H1 _ I1 q1) fun us s2 ⟨xs,H2,I2,r2,q2⟩=>⟨x :: xs,H2,I2,.cons r1 r2,q2⟩
end
abbrev Sp:=List V→Hp→VK→XK→Prop
abbrev CXT:=List Env→Hp→Shared→XK→Value→Shared→Prop
structure Env0 (P:Program) (w:World) (K:PySem.W.Frag) (mg:Str→Option Value) (base:Heap) (A:Around) (outer:List Env) (s:Shared) (H:Hp):Prop where
  frames:A.frames=some outer
  mod:Mod K mg base
  bs:∀ b o,base.get? b=some o→s.heap.get? b=some o∧H b=none
  bsz:base.objs.size≤s.heap.objs.size
  funs:s.heap.FunFrames base outer
  frf:∀ b∈frs outer,H b=none
  hok:HOk P w H s.heap
  bare:AllBare s.gens
def CE (outer:List Env) (P:Program) (w:World) (H:Hp) (s:Shared) (Q:VK) (u:Value) (s':Shared):Prop :=
  ∃ v H',s'.os=s.os∧AllBare s'.gens∧Un (frs outer) [] H H' s.heap s'.heap∧HOk P w H' s'.heap∧RelV v u∧Q v H'
def CR (CX:CXT) (outer:List Env) (P:Program) (w:World) (H:Hp) (s:Shared) (Q:VK) (E:XK) (r:Result) (s':Shared):Prop :=
  match r with
  | .ok (.ret u)=>CE outer P w H s Q u s'
  | .ok _=>False
  | .error e=>CX outer H s E e s'
structure FnOk (P:Program) (w:World) (K:PySem.W.Frag) (mg:Str→Option Value) (base:Heap) (CX:CXT) (k:Nat) (f:Addr) (fd:FuncData) (ps:List Str) (sp:Sp):Prop where
  len:∀ vs H Q E,sp vs H Q E→vs.length=ps.length
  run:∀ (A:Around) (outer:List Env) (s:Shared) (H:Hp) (args:Args) (us:List Value) (vs:List V) (Q:VK) (E:XK),Room k A→Env0 P w K mg base A outer s H→BindsTo s fd args (ps.zip us)→Vals vs us→sp vs H Q E →
    codeAny (model P w) A (.call (.ref f) args) (CR CX outer P w H s Q E) s
theorem Env0.make {P:Program} {w:World} {K:PySem.W.Frag} {mg:Str→Option Value} {base:Heap} {A:Around} {outer:List Env} {s:Shared} {H:Hp} (e:Env0 P w K mg base A outer s H) (C:Addr) (us:List Value) (kw:List (Str × Value)) :
    Env0 P w K mg base (A.under (.builtin "type.__call__" ⟨.ref C :: us,kw⟩)) outer s H:=⟨by first | exact e.frames | (simpa [Around.under,Code.envs,Code.isFrame,pushEnvs] using e.frames),e.mod,e.bs,e.bsz,e.funs,e.frf,e.hok,e.bare⟩
section
variable {X:Cx} {pins:List (Addr × Obj)} {σ:St} {H:Hp} {s s':Shared}
theorem Inv.env0 (I:Inv X pins σ H s):Env0 X.prog X.w X.K X.mg X.base X.A X.stack s H :=
  ⟨I.ok.frames,I.ok.mod,I.bs,Nat.le_trans I.ok.bsz I.sz,I.stack,I.stkFree,I.hok,I.bare⟩
theorem Inv.after {Q:VK} {u:Value} (I:Inv X pins σ H s) (h:CE X.stack X.prog X.w H s Q u s'):EP X pins σ Q u s':=by
  obtain ⟨v,H',os,bare,un,hok,r,q⟩:=h
  obtain ⟨hh,g,d,t,os'⟩:=s'
  obtain rfl:os'=s.os:=os
  exact ⟨v,H',I.call (h':=hh) (g':=g) (d':=d) (t':=t) (ch:=[]) un hok bare (fun b z=>absurd z (by simp)),r,q⟩
end
def tCall (sp:Sp) (dvs:List V) (E:XK) (t:TA):TE:=fun σ H Q=>t σ H fun vs H1=>sp (vs ++ dvs) H1 Q E
def tMeth (C:Addr) (m:Str) (sp:Sp) (dvs:List V) (E:XK) (ta:TE) (t:TA):TE:=fun σ H Q=>ta σ H fun x H1 => ∃ a dx fs,x=.ref a∧H1 a=some (.ins C dx fs)∧fs.lookup m=none ∧
  t σ H1 fun vs H2=>sp (x :: (vs ++ dvs)) H2 Q E
def tMake (C:Addr) (sp:Sp) (dvs:List V) (E:XK) (t:TA):TE:=fun σ H Q=>t σ H fun vs H1 => ∀ x dx,H1 x=none→H1 dx=none→dx≠x →
  sp (.ref x :: (vs ++ dvs)) (upd (upd H1 dx (.own x)) x (.ins C dx [])) (fun v H2=>v=.non∧Q (.ref x) H2) E
def Binds (K:PySem.W.Frag) (fd:FuncData) (ps:List Str) (ds:List Value):Prop :=
  ∀ (s:Shared) (us:List Value),K.In s.heap→(us ++ ds).length=ps.length→BindsTo s fd ⟨us,[]⟩ (ps.zip (us ++ ds))
theorem Binds.all {K:PySem.W.Frag} {fd:FuncData} {ps:List Str} (h:∀ us:List Value,us.length=ps.length→bindArgs fd ⟨us,[]⟩=pure (ps.zip us)):Binds K fd ps []:=fun s us _ hl=>by
  rw [List.append_nil] at hl ⊢
  exact .of_eq (h us hl)
def Passes (CX:CXT) (X:Cx) (E:XK):Prop:=∀ (pins:List (Addr × Obj)) (σ:St) (H:Hp) (s:Shared) (e:Value) (s':Shared),Inv X pins σ H s→CX X.stack H s E e s'→X.xe e s'
section
variable {X:Cx} {CX:CXT} {k:Nat} {f C:Addr} {fd:FuncData} {ps:List Str} {sp:Sp} {dvs:List V} {ds:List Value} {E:XK} {x m:Str} {p pos apos:Pos} {e o:Expr} {es:List Expr} {ta:TE} {t:TA}
theorem run_fn {pins:List (Addr × Obj)} {σ:St} {H:Hp} {s:Shared} {Q:VK} {us:List Value} {vs:List V} (F:FnOk X.prog X.w X.K X.mg X.base CX k f fd ps sp) (hr:Room k X.A) (hb:Binds X.K fd ps ds) (hd:Vals dvs ds) (hx:Passes CX X E)
    (I:Inv X pins σ H s) (r:Vals vs us) (h:sp (vs ++ dvs) H Q E):wpAny (model X.prog X.w) X.A (call (.ref f) us) (EP X pins σ Q) X.xe s:=by
  have r2:Vals (vs ++ dvs) (us ++ ds):=r.append hd
  have hl:(us ++ ds).length=ps.length:=by rw [← r2.length]; exact F.len _ _ _ _ h
  refine wpAny_call (codeAny_mono (F.run X.A X.stack s H ⟨us,[]⟩ (us ++ ds) (vs ++ dvs) Q E hr I.env0 (hb s us I.kIn hl) r2 h) fun r s' hq=>?_)
  cases r with
  | error e=>exact hx pins σ H s e s' I hq
  | ok fl =>
    cases fl with
    | ret u=>exact I.after hq
    | next=>exact False.elim hq
    | brk=>exact False.elim hq
    | cont=>exact False.elim hq
theorem pe_call (F:FnOk X.prog X.w X.K X.mg X.base CX k f fd ps sp) (hr:Room k X.A) (hg:Gl X x) (hm:X.mg x=some (.ref f)) (hk:PySem.W.keepIn X.K (.ref f)=true) (hb:Binds X.K fd ps ds) (hd:Vals dvs ds) (hx:Passes CX X E)
    (ha:PA X (e :: es) t) (hdb:(x == ("__debug__" : Str))=false:=by decide) (he:starEach (e :: es) X.env=(false,eval e X.env) :: starEach es X.env:=by rfl) (hpl:(backTo pos (starEach es X.env)).any (·.1)=false:=by rfl) :
    PE X (.Call (.Name x p) (e :: es) [] pos) (tCall sp dvs E t):=by
  intro pins s σ H Q I h
  refine wpAny_Call_Name_kw (ld_glob I hg hm ?_ hdb)
  refine PySem.W.callWith_K (h₀:=X.base) I.ok.mod.kin hk (thn (ha pos pins s σ H _ I h) fun us s1 ⟨vs,H1,I1,r,q⟩=>⟨I1.kIn,?_⟩) he hpl
  exact run_fn F hr hb hd hx I1 r q
theorem pe_meth {pl:Sem Bool} (he:PE X o ta) (c:Cls X.K C) (hm:Meth X.K C m f) (F:FnOk X.prog X.w X.K X.mg X.base CX k f fd ps sp) (hr:Room k X.A) (hb:Binds X.K fd ps ds) (hd:Vals dvs ds) (hx:Passes CX X E) (ha:PA X (e :: es) t)
    (hst:starEach (e :: es) X.env=(false,eval e X.env) :: starEach es X.env:=by rfl) (hpl:(backTo pos (starEach es X.env)).any (·.1)=false:=by rfl)
    (ht:eval (.Call (.Attribute o m apos) (e :: es) [] pos) X.env=(do
      let ov ← eval o X.env
      standAt apos.atName
      let (f,first) ← holding [ov] (getMethod ov m pl)
      callWith pos f first (backTo pos (starEach (e :: es) X.env)) (backToKw pos (keywordEach [] X.env))):=by rfl) :
    PE X (.Call (.Attribute o m apos) (e :: es) [] pos) (tMeth C m sp dvs E ta t):=by
  intro pins s σ H Q I h
  refine PySem.W.methodCall_KW (pl:=pl) (thn (he pins s σ H _ I h) fun u s1 ⟨x,H1,I1,rx,a,dx,fs,ex,ea,l,q⟩=>?_) ht
  subst ex
  obtain rfl:u=Value.ref a:=rx
  refine getmeth_ok I1 ea c hm l ?_
  refine PySem.W.callWith_K (first:=[.ref a]) (h₀:=X.base) I.ok.mod.kin hm.kp (thn (ha pos pins s1 σ H1 _ I1 q) fun us s2 ⟨vs,H2,I2,r,q2⟩=>⟨I2.kIn,?_⟩) hst hpl
  exact run_fn (us:=.ref a :: us) (vs:=.ref a :: vs) F hr hb hd hx I2 (.cons rfl r) q2
theorem pe_meth0 {pl:Sem Bool} (he:PE X o ta) (c:Cls X.K C) (hm:Meth X.K C m f) (F:FnOk X.prog X.w X.K X.mg X.base CX k f fd ps sp) (hr:Room k X.A) (hb:Binds X.K fd ps ds) (hd:Vals dvs ds) (hx:Passes CX X E)
    (ht:eval (.Call (.Attribute o m apos) [] [] pos) X.env=(do
      let ov ← eval o X.env
      standAt apos.atName
      let (f,first) ← holding [ov] (getMethod ov m pl)
      callWith pos f first (backTo pos (starEach [] X.env)) (backToKw pos (keywordEach [] X.env))):=by rfl) :
    PE X (.Call (.Attribute o m apos) [] [] pos) (tMeth C m sp dvs E ta tNil):=by
  intro pins s σ H Q I h
  refine PySem.W.methodCall_KW (pl:=pl) (thn (he pins s σ H _ I h) fun u s1 ⟨x,H1,I1,rx,a,dx,fs,ex,ea,l,q⟩=>?_) ht
  subst ex
  obtain rfl:u=Value.ref a:=rx
  refine getmeth_ok I1 ea c hm l ?_
  exact PySem.W.callWith_K0 (first:=[.ref a]) I1.kIn hm.kp (run_fn (us:=[.ref a]) (vs:=[.ref a]) F hr hb hd hx I1 (.cons rfl .nil) q)
structure Mk (K:PySem.W.Frag) (C f:Addr):Prop where
  makes:PySem.W.makesIn K C=true
  init:PySem.W.findIn K (.ref C) "__init__" = some (some (.ref f))
  fn:PySem.W.isFn K (.ref f)=true
  kp:PySem.W.keepIn K (.ref C)=true
theorem run_make {pins:List (Addr × Obj)} {σ:St} {H:Hp} {s:Shared} {Q:VK} {us:List Value} {vs:List V} (M:Mk X.K C f) (F:FnOk X.prog X.w X.K X.mg X.base CX k f fd ps sp) (hr:Room (k + 1) X.A) (hb:Binds X.K fd ps ds) (hd:Vals dvs ds)
    (hx:Passes CX X E) (I:Inv X pins σ H s) (r:Vals vs us)
    (h:∀ x dx,H x=none→H dx=none→dx≠x→sp (.ref x :: (vs ++ dvs)) (upd (upd H dx (.own x)) x (.ins C dx [])) (fun v H2=>v=.non∧Q (.ref x) H2) E) :
    wpAny (model X.prog X.w) X.A (call (.ref C) us) (EP X pins σ Q) X.xe s:=by
  have hq:=h (s.heap.objs.size + 1) s.heap.objs.size (I.hok.fresh (Nat.le_succ _)) (I.hok.fresh (Nat.le_refl _)) (Nat.ne_of_lt (Nat.lt_succ_self _))
  have I2:=Inv.made (C:=C) I
  have r2:Vals (V.ref (s.heap.objs.size + 1) :: (vs ++ dvs)) (Value.ref (s.heap.objs.size + 1) :: (us ++ ds)):=.cons rfl (r.append hd)
  have hl:(Value.ref (s.heap.objs.size + 1) :: us ++ ds).length=ps.length:=by
    have e:=r2.length
    rw [F.len _ _ _ _ hq] at e
    exact e.symm
  refine wpAny_call (make_map (f:=f) I.kIn M.makes M.init (beq_iff_eq.mp M.fn) (codeAny_mono (F.run _ X.stack _ _ ⟨Value.ref (s.heap.objs.size + 1) :: us,[]⟩ (Value.ref (s.heap.objs.size + 1) :: (us ++ ds)) _ _ E (hr.make C us [])
    (I2.env0.make C us []) (hb _ (Value.ref (s.heap.objs.size + 1) :: us) I2.kIn hl) r2 hq) fun r s' hq'=>?_))
  cases r with
  | error e=>exact hx pins σ _ _ e s' I2 hq'
  | ok fl =>
    cases fl with
    | ret u =>
      obtain ⟨v,H',I3,rv,ev,q3⟩:=I2.after hq'
      subst ev
      exact ⟨rv,⟨V.ref (s.heap.objs.size + 1),H',I3,rfl,q3⟩⟩
    | next=>exact False.elim hq'
    | brk=>exact False.elim hq'
    | cont=>exact False.elim hq'
theorem pe_make (M:Mk X.K C f) (F:FnOk X.prog X.w X.K X.mg X.base CX k f fd ps sp) (hr:Room (k + 1) X.A) (hg:Gl X x) (hm:X.mg x=some (.ref C)) (hb:Binds X.K fd ps ds) (hd:Vals dvs ds) (hx:Passes CX X E)
    (ha:PA X (e :: es) t) (hdb:(x == ("__debug__" : Str))=false:=by decide) (he:starEach (e :: es) X.env=(false,eval e X.env) :: starEach es X.env:=by rfl) (hpl:(backTo pos (starEach es X.env)).any (·.1)=false:=by rfl) :
    PE X (.Call (.Name x p) (e :: es) [] pos) (tMake C sp dvs E t):=by
  intro pins s σ H Q I h
  refine wpAny_Call_Name_kw (ld_glob I hg hm ?_ hdb)
  refine PySem.W.callWith_K (h₀:=X.base) I.ok.mod.kin M.kp (thn (ha pos pins s σ H _ I h) fun us s1 ⟨vs,H1,I1,r,q⟩=>⟨I1.kIn,?_⟩) he hpl
  exact run_make M F hr hb hd hx I1 r q
end
section
variable {X:Cx} {CX:CXT} {k:Nat} {f C:Addr} {fd:FuncData} {ps ks:List Str} {sp:Sp} {E:XK} {x m:Str} {p pos apos kpos:Pos} {e o:Expr} {es:List Expr} {kws:List Keyword} {te ta:TE} {t tk:TA} {nm:Option Str}
variable {g:List Value→List Value→List Value} {gV:List V→List V→List V}
end
structure FnScope (N P:List Str) (sc:Scope):Prop where
  kind:sc.kind=.function
  co:sc.isCoroutine=false
  gen:sc.isGenerator=false
  nd:N.Nodup
  pre:N.take P.length=P
  par:∀ x∈P,sc.names.lookup x=some .local∨sc.names.lookup x=some .cell
  nofree:∀ y∈sc.names,y.2≠.free
theorem bindL_out {kindOf:Str→Option NameKind} {x:Str}:∀ {binds:List (Str × Value)} {m:Str→Option Value},(∀ v,(x,v) ∉ binds)→bindL kindOf binds m x=m x
  | [],_,_=>rfl
  | (n,v) :: r,m,h=>by
    unfold bindL
    rw [bindL_out fun w hw=>h w (List.mem_cons_of_mem _ hw)]
    split
    · have:x≠n:=by rintro rfl; exact h v List.mem_cons_self
      simp [this]
    · rfl
theorem bindC_out {kindOf:Str→Option NameKind} {x:Str}:∀ {binds:List (Str × Value)} {m:Str→Option Value},(∀ v,(x,v) ∉ binds)→bindC kindOf binds m x=m x
  | [],_,_=>rfl
  | (n,v) :: r,m,h=>by
    unfold bindC
    rw [bindC_out fun w hw=>h w (List.mem_cons_of_mem _ hw)]
    split
    · rfl
    · have:x≠n:=by rintro rfl; exact h v List.mem_cons_self
      simp [this]
theorem bindL_get {kindOf:Str→Option NameKind} {x:Str} {v:Value}:∀ {P:List Str} {vs:List Value} {i:Nat} {m:Str→Option Value},P.Nodup→P[i]? = some x→vs[i]? = some v→kindOf x=some .local →
    bindL kindOf (P.zip vs) m x=some v
  | [],_,_,_,_,h,_,_=>by simp at h
  | _ :: _,[],_,_,_,_,h,_=>by simp at h
  | p :: P,w :: vs,0,m,nd,h1,h2,hk=>by
    simp at h1 h2; subst h1; subst h2
    show bindL kindOf ((p,w) :: P.zip vs) m p=_
    unfold bindL
    rw [bindL_out fun v hv=>(List.nodup_cons.mp nd).1 (List.of_mem_zip hv).1,if_pos hk]
    simp
  | p :: P,w :: vs,i + 1,m,nd,h1,h2,hk=>by
    show bindL kindOf ((p,w) :: P.zip vs) m x=_
    unfold bindL
    exact bindL_get (i:=i) (List.nodup_cons.mp nd).2 (by simpa using h1) (by simpa using h2) hk
theorem bindC_get {kindOf:Str→Option NameKind} {x:Str} {v:Value}:∀ {P:List Str} {vs:List Value} {i:Nat} {m:Str→Option Value},P.Nodup→P[i]? = some x→vs[i]? = some v→kindOf x≠some .local →
    bindC kindOf (P.zip vs) m x=some v
  | [],_,_,_,_,h,_,_=>by simp at h
  | _ :: _,[],_,_,_,_,h,_=>by simp at h
  | p :: P,w :: vs,0,m,nd,h1,h2,hk=>by
    simp at h1 h2; subst h1; subst h2
    show bindC kindOf ((p,w) :: P.zip vs) m p=_
    unfold bindC
    rw [bindC_out fun v hv=>(List.nodup_cons.mp nd).1 (List.of_mem_zip hv).1,if_neg hk]
    simp
  | p :: P,w :: vs,i + 1,m,nd,h1,h2,hk=>by
    show bindC kindOf ((p,w) :: P.zip vs) m x=_
    unfold bindC
    exact bindC_get (i:=i) (List.nodup_cons.mp nd).2 (by simpa using h1) (by simpa using h2) hk
def start (N:List Str) (vs:List V):St:=vs.map some ++ List.replicate (N.length - vs.length) none
def cxOf (CX:CXT) (P:Program) (w:World) (K:PySem.W.Frag) (mg:Str→Option Value) (base:Heap) (N:List Str) (qual:Str) (scope:Scope) (f:Addr) (cd:Value) (A:Around) (outer:List Env) (s:Shared) (H:Hp) (E:XK):Cx where
  prog:=P
  w:=w
  K:=K
  mg:=mg
  base:=base
  A:=A.deeper (envOfC qual scope s.heap.objs.size f cd)
  N:=N
  s₀:=s
  H₀:=H
  env:=envOfC qual scope s.heap.objs.size f cd
  outer:=outer
  stack:=envOfC qual scope s.heap.objs.size f cd :: outer
  ex:=[]
  calm:=true
  fn:=fun _=>true
  pn:=[]
  xe:=fun e s'=>wpAny (model P w) (A.deeper (envOfC qual scope s.heap.objs.size f cd)) (leaving (envOfC qual scope s.heap.objs.size f cd) e) (fun _ s''=>CX outer H s E e s'') (fun e' s''=>CX outer H s E e' s'') s'
theorem cell_has {sc:Scope} {n:Nat} {x:Str} (h:sc.names.lookup x=some .cell):∃ c,(cellsFrom n sc.names []).lookup x=some c:=by
  have q:=PySem.W.cellsFrom_some sc.names n [] (.inl h)
  exact Option.isSome_iff_exists.mp q
theorem inv_start {CX:CXT} {P:Program} {w:World} {K:PySem.W.Frag} {mg:Str→Option Value} {base:Heap} {N ps:List Str} {qual:Str} {scope:Scope} {f:Addr} {cd:Value} {A:Around} {outer:List Env} {s s1:Shared} {H:Hp} {E:XK} {us:List Value} {vs:List V}
    (S:FnScope N ps scope) (hd:A.handled=none) (e0:Env0 P w K mg base A outer s H) (hl:vs.length=ps.length) (r:Vals vs us)
    (x:InCallC s s.heap.objs.size (bindL (envOfC qual scope s.heap.objs.size f cd).kindOf (ps.zip us) fun _=>none) (cellsFrom (s.heap.objs.size + 1) scope.names []) (bindC (envOfC qual scope s.heap.objs.size f cd).kindOf (ps.zip us) fun _=>none) s1) :
    Inv (cxOf CX P w K mg base N qual scope f cd A outer s H E) [] (start N vs) H s1:=by
  have hpl:ps.length≤N.length:=by have:=congrArg List.length S.pre; rw [List.length_take] at this; omega
  obtain ⟨h1,tk,rfl,hk⟩:=x.done
  have noA:∀ b:Addr,b ∉ (cxOf CX P w K mg base N qual scope f cd A outer s H E).ex:=fun b z=>absurd (show b∈([]:List Addr) from z) (by simp)
  refine ⟨⟨e0.mod,S.kind,rfl,rfl,Nat.le_refl _,fun y z c h1 h2=>?_,fun y hy=>?_,fun y c _ h=>?_,fun _=>hd,Around.frames_deeper e0.frames,.inr ⟨rfl,rfl⟩,fun b z=>absurd z (noA b),e0.bs,e0.bsz,fun b _ _=>noA b,fun b z=>absurd z (noA b),e0.funs,e0.frf⟩,
    rfl,e0.bare,Un.kept hk,⟨_,x.toInCall.ns,fun i y v h1 h2 h3=>?_⟩,fun y c h=>⟨_,x.cell y c h⟩,e0.hok.fresh (Nat.le_refl _),fun y c h=>?_,fun p hp=>absurd (show p∈([]:List (Addr × Obj)) from hp) (by simp),e0.hok.kept hk,?_⟩
  · exact name_of_addr x.apart (PySem.mem_of_lookup h1) (PySem.mem_of_lookup h2)
  · have hy:scope.names.lookup y=some .cell∨scope.names.lookup y=some .free:=hy
    rcases hy with hy | hy
    · exact cell_has hy
    · exact absurd rfl (S.nofree _ (PySem.mem_of_lookup hy))
  · exact Nat.le_of_lt (x.above y c (PySem.mem_of_lookup h))
  · have hi:i < vs.length:=by
      unfold start at h2
      by_cases hi:i < vs.length
      · exact hi
      · rw [List.getElem?_append_right (by simpa using hi)] at h2
        rw [List.getElem?_replicate] at h2
        split at h2 <;> cases h2
    have ha:vs[i]? = some v:=by
      unfold start at h2
      rw [List.getElem?_append_left (by simpa using hi),List.getElem?_map] at h2
      cases e:vs[i]? with
      | none=>rw [e] at h2; cases h2
      | some a=>rw [e] at h2; cases h2; rfl
    obtain ⟨u,hu,rv⟩:=r.get ha
    have hp:ps[i]? = some y:=by
      rw [← S.pre,List.getElem?_take_of_lt (by omega)]; exact h1
    have ndP:ps.Nodup:=by rw [← S.pre]; exact S.nd.sublist (List.take_sublist _ _)
    refine ⟨u,rv,?_⟩
    rcases S.par y (List.mem_of_getElem? hp) with k | k
    · exact .inl ⟨k,bindL_get ndP hp hu k⟩
    · obtain ⟨c,e⟩:=cell_has (n:=s.heap.objs.size + 1) k
      refine .inr ⟨.inl k,c,e,?_⟩
      have q:=x.cell y c e
      rw [bindC_get ndP hp hu (by show scope.names.lookup y≠_; rw [k]; decide)] at q
      exact q
  · exact e0.hok.fresh (Nat.le_of_lt (x.above y c (PySem.mem_of_lookup h)))
  · unfold start
    show _=N.length
    rw [List.length_append,List.length_map,List.length_replicate]
    omega
theorem fn_of {CX:CXT} {P:Program} {w:World} {K:PySem.W.Frag} {mg:Str→Option Value} {base:Heap} {k:Nat} {f:Addr} {name qual:Str} {params:Arguments} {body:List Stmt} {scope:Scope} {dV kV doc pm cdv ct oc:Value} {an od:Option Addr}
    {osl:Array (Option Value)} {N ps:List Str} {sp:Sp} (lk:K.lookup f=some ⟨oc,od,.func (PySem.W.fnOf name qual params body scope dV kV doc pm an cdv ct),osl⟩) (hcd:PySem.W.codeIn K cdv qual=true) (S:FnScope N ps scope)
    (len:∀ vs H Q E,sp vs H Q E→vs.length=ps.length)
    (hbody:∀ (A:Around) (outer:List Env) (s:Shared) (H:Hp) (vs:List V) (Q:VK) (E:XK),Room k (A.deeper (envOfC qual scope s.heap.objs.size f cdv))→sp vs H Q E →
      ∃ t,PSs (cxOf CX P w K mg base N qual scope f cdv A outer s H E) body t∧t { nx:=fun _ H'=>Q .non H',rt:=Q } (start N vs) H) :
    FnOk P w K mg base CX (k + 1) f (PySem.W.fnOf name qual params body scope dV kV doc pm an cdv ct) ps sp:=by
  refine ⟨len,fun A outer s H args us vs Q E hr e0 hb r hsp=>?_⟩
  have hl:=len _ _ _ _ hsp
  have KX:K.In s.heap:=e0.mod.kin.keeps fun b o e=>(e0.bs b o e).1
  have lim:s.heap.NoLimit:=e0.mod.nolimit.keeps fun b o e=>(e0.bs b o e).1
  have hkind:∀ y∈ps.zip us,scope.names.lookup y.1=some .local∨(scope.names.lookup y.1=some .cell∧((cellsFrom (s.heap.objs.size + 1) scope.names []).lookup y.1).isSome=true):=fun ⟨n,v⟩ hy=>by
    rcases S.par n (List.of_mem_zip hy).1 with q | q
    · exact .inl q
    · exact .inr ⟨q,PySem.W.cellsFrom_some _ _ _ (.inl q)⟩
  refine codeAny_call_function hr.depth (KX _ _ lk) rfl S.co S.gen rfl (PySem.W.codeRec_of KX hcd) (hb _ _ _ _ ?_)
  refine wpAny_newFunctionEnv_cells S.kind hkind fun env he s1 x=>?_
  subst he
  refine ⟨lim.keeps x.toInCall.keep,codeAny_func ?_⟩
  obtain ⟨t,ht,hq⟩:=hbody A outer s H vs Q E (hr.deeper _) hsp
  have I:Inv (cxOf CX P w K mg base N qual scope f cdv A outer s H E) [] (start N vs) H s1:=inv_start S hr.hd e0 hl r x
  refine wpAny_mono (ht [] s1 (start N vs) H _ I hq) (fun fl s' hs=>?_) fun e s' hs=>hs
  have fin:∀ {σ':St} {H':Hp} {v:V} {u:Value},Inv (cxOf CX P w K mg base N qual scope f cdv A outer s H E) [] σ' H' s'→RelV v u→Q v H'→CE outer P w H s Q u s' :=
    fun {σ' H' v u} J rv q=>⟨v,H',J.os,J.bare,J.base,J.hok,rv,q⟩
  cases fl with
  | ret u =>
    obtain ⟨v,σ',H',J,rv,q⟩:=hs
    exact fin J rv q
  | next =>
    obtain ⟨σ',H',J,q⟩:=hs
    exact fin (v:=V.non) (u:=Value.none) J rfl q
  | brk =>
    obtain ⟨_,_,_,q⟩:=hs
    exact False.elim q
  | cont =>
    obtain ⟨_,_,_,q⟩:=hs
    exact False.elim q
end L2
namespace L2
open PySem PySem.Spec PyProof.Rows
section
variable {X:Cx} {x:Str} {p pos:Pos} {e:Expr} {es:List Expr} {t:TA} {id T:String} {r:List V→Hp→VK→Prop}
def tCB (r:List V→Hp→VK→Prop) (t:TA):TE:=fun σ H Q=>t σ H fun vs H1=>r vs H1 Q
theorem pe_callB (hc:CallR X (.builtin id) r) (hg:Gl X x) (hm:X.mg x=none) (hv:bootBuiltins x=some (.builtin id)) (ha:PA X (e :: es) t) (hn:x≠"__name__" := by decide) (hdb:(x == ("__debug__" : Str))=false:=by decide)
    (he:starEach (e :: es) X.env=(false,eval e X.env) :: starEach es X.env:=by rfl) (hpl:(backTo pos (starEach es X.env)).any (·.1)=false:=by rfl):PE X (.Call (.Name x p) (e :: es) [] pos) (tCB r t):=by
  intro pins s σ H Q I h
  refine wpAny_Call_Name_kw (ld_blt I hg hm hv ?_ hn hdb)
  exact PyProof.Rows.callWith_builtin1 (thn (ha pos pins s σ H _ I h) fun us s1 ⟨vs,H1,I1,r1,q1⟩=>hc pins s1 σ H1 vs us Q I1 r1 q1) he hpl
theorem pe_callTy (hc:CallR X (.type T) r) (hg:Gl X x) (hm:X.mg x=none) (hv:bootBuiltins x=some (.type T)) (ha:PA X (e :: es) t) (hn:x≠"__name__" := by decide) (hdb:(x == ("__debug__" : Str))=false:=by decide)
    (he:starEach (e :: es) X.env=(false,eval e X.env) :: starEach es X.env:=by rfl) (hpl:(backTo pos (starEach es X.env)).any (·.1)=false:=by rfl):PE X (.Call (.Name x p) (e :: es) [] pos) (tCB r t):=by
  intro pins s σ H Q I h
  refine wpAny_Call_Name_kw (ld_blt I hg hm hv ?_ hn hdb)
  exact PyProof.Rows.callWith_type1 (thn (ha pos pins s σ H _ I h) fun us s1 ⟨vs,H1,I1,r1,q1⟩=>hc pins s1 σ H1 vs us Q I1 r1 q1) he hpl
end
end L2
namespace HT
open PySem PyProof.Rows
section
open PySem.SeqAt
open PySem.AutoSeq1 (wpAny_loadPart')
open PySem.MeetsSeq PySem.MeetsSeq2 PySem.MeetsSeq3
end
section
variable {prog:Program} {w:World} {A:Around} {E:Value→Shared→Prop} {s:Shared}
def sIx (n d:Nat):Option Int→Nat
  | none=>d
  | some v=>if v < 0 then (v + (n:Int)).toNat else min v.toNat n
theorem sIx_nat (n d k:Nat):sIx n d (some (k:Int))=min k n:=by
  show (if (k:Int) < 0 then ((k:Int) + (n:Int)).toNat else min (k:Int).toNat n)=min k n
  rw [if_neg (by omega),Int.toNat_natCast]
end
end HT
namespace L2
open PySem PySem.Spec PyProof.Rows
abbrev TO:=St→Hp→(Option Int→Hp→Prop)→Prop
def PO (X:Cx) (e:Option Expr) (t:TO):Prop :=
  ∀ (pins:List (Addr × Obj)) (s:Shared) (σ:St) (H:Hp) (Q:Option Int→Hp→Prop),Inv X pins σ H s→t σ H Q →
    wpAny (model X.prog X.w) X.A (evalPart e X.env) (fun u s' => ∃ o H',Inv X pins σ H' s'∧IsPart u o∧Q o H') X.xe s
def tNoPart:TO:=fun _ H Q=>Q none H
def tPart (t:TE):TO:=fun σ H Q=>t σ H fun x H1 => ∃ i,x=.int i∧Q (some i) H1
theorem intsAre_of {ns:List Int}:∀ {us:List Value},Vals (ns.map V.int) us→IntsAre us ns:=by
  induction ns with
  | nil=>intro us r; rw [List.map_nil] at r; cases r; exact .nil
  | cons n ns ih =>
    intro us r
    rw [List.map_cons] at r
    cases r with
    | cons r1 r2 =>
      obtain ⟨t,e⟩:=r1
      subst e
      exact .cons n t (ih r2)
section
variable {X:Cx} {e:Expr} {te:TE} {lo hi:Option Expr} {tl th:TO} {pos p2:Pos}
theorem po_none:PO X none tNoPart:=by
  intro pins s σ H Q I h
  rw [evalPart_none]
  exact wpAny_pure ⟨none,H,I,.none,h⟩
theorem po_some (h:PE X e te):PO X (some e) (tPart te):=by
  intro pins s σ H Q I hw
  rw [evalPart_some]
  refine thn (h pins s σ H _ I hw) fun u s1 ⟨x,H1,I1,r1,q1⟩=>?_
  obtain ⟨i,rfl,q⟩:=q1
  obtain ⟨t,rfl⟩:=r1
  exact ⟨some i,H1,I1,.int i t,q⟩
def SlR (X:Cx) (r:V→Option Int→Option Int→Hp→VK→Prop):Prop :=
  ∀ (pins:List (Addr × Obj)) (s:Shared) (σ:St) (H:Hp) (x:V) (v vl vu:Value) (lo hi:Option Int) (sl:Addr) (Q:VK),Inv X pins σ H s→RelV x v→s.heap.IsSliceOf sl vl vu .none→IsPart vl lo→IsPart vu hi→r x lo hi H Q →
    ∃ T id,typeLookup (.type T) "__getitem__" = pure (some (.builtin id))∧s.TypeIs v T∧wpAny (model X.prog X.w) X.A (getItem v (.ref sl)) (EP X pins σ Q) X.xe s
def tSl (r:V→Option Int→Option Int→Hp→VK→Prop) (te:TE) (tl th:TO):TE:=fun σ H Q=>te σ H fun x H1=>tl σ H1 fun l H2=>th σ H2 fun u H3=>r x l u H3 Q
theorem pe_slice {r:V→Option Int→Option Int→Hp→VK→Prop} (hr:SlR X r) (he:PE X e te) (hl:PO X lo tl) (hu:PO X hi th):PE X (.Subscript e (.Slice lo hi none p2) pos) (tSl r te tl th):=by
  intro pins s σ H Q I h
  refine Subscript_ (thn (he pins s σ H _ I h) fun v s1 ⟨x,H1,I1,r1,q1⟩=>?_)
  refine wpAny_Slice (thn (hl pins s1 σ H1 _ I1 q1) fun vl s2 ⟨l,H2,I2,pl,q2⟩=>thn (hu pins s2 σ H2 _ I2 q2) fun vu s3 ⟨u,H3,I3,pu,q3⟩=>?_)
  rw [evalPart_none]
  refine wpAny_pure ?_
  have I4:Inv X pins σ H3 { s3 with heap:=s3.heap.push { cls:=.type "slice",data:=.fields #[vl,vu,.none] } }:=I3.kept (t':=s3.toks) fun b ob q=>Heap.get?_push_of_some _ q
  obtain ⟨T,id,hT,ht,hg⟩:=hr pins { s3 with heap:=s3.heap.push { cls:=.type "slice",data:=.fields #[vl,vu,.none] } } σ H3 x v vl vu l u s3.heap.objs.size Q I4 r1 (Heap.IsSliceOf.new ..) pl pu q3
  show wpAny (model X.prog X.w) X.A (subscriptTail e (.Slice lo hi none p2) v (.ref s3.heap.objs.size)) (EP X pins σ Q) X.xe { s3 with heap:=s3.heap.push { cls:=.type "slice",data:=.fields #[vl,vu,.none] } }
  exact tail_any (ops:=[.ref s3.heap.objs.size,v]) ht hT hg (by with_unfolding_all rfl)
def cutV (xs:List V) (lo hi:Option Int):List V:=(xs.drop (HT.sIx xs.length 0 lo)).take (HT.sIx xs.length xs.length hi - HT.sIx xs.length 0 lo)
theorem cutV_length (xs:List V) (lo hi:Option Int):(cutV xs lo hi).length≤xs.length:=by
  unfold cutV
  rw [List.length_take,List.length_drop]
  omega
end
end L2
namespace L2
open PySem PySem.Spec PyProof.Rows
def ixN (n:Nat) (i:Int):Option Nat:=if 0≤i then (if i < n then some i.toNat else none) else if -(n:Int)≤i then some (i + n).toNat else none
def atI {α:Type} (xs:List α) (i:Int):Option α:=(ixN xs.length i).bind fun j=>xs[j]?
theorem ixN_seq {n:Nat} {i:Int} {j:Nat} (h:ixN n i=some j):seqIndex? i n=some j∧j < n∧-(n:Int)≤i∧i < n:=by
  unfold ixN at h
  by_cases h0:0≤i
  · rw [if_pos h0] at h
    by_cases h1:i < n
    · rw [if_pos h1] at h
      have e:i.toNat=j:=Option.some.inj h
      exact ⟨by rw [seqIndex_of h0 h1,e],by omega,by omega,h1⟩
    · rw [if_neg h1] at h; cases h
  · rw [if_neg h0] at h
    by_cases h1:-(n:Int)≤i
    · rw [if_pos h1] at h
      have e:(i + n).toNat=j:=Option.some.inj h
      exact ⟨by rw [seqIndex_neg (by omega) h1,e],by omega,h1,by omega⟩
    · rw [if_neg h1] at h; cases h
theorem atI_get {α:Type} {xs:List α} {i:Int} {v:α} (h:atI xs i=some v):∃ j,seqIndex? i xs.length=some j∧xs[j]? = some v∧j < xs.length∧-(xs.length:Int)≤i∧i < xs.length:=by
  unfold atI at h
  cases e:ixN xs.length i with
  | none=>rw [e] at h; cases h
  | some j =>
    rw [e] at h
    obtain ⟨h1,h2,h3,h4⟩:=ixN_seq e
    exact ⟨j,h1,h,h2,h3,h4⟩
theorem atI_nat {α:Type} {xs:List α} {j:Nat} {v:α} (h:xs[j]? = some v):atI xs (j:Int)=some v:=by
  have hj:j < xs.length:=(List.getElem?_eq_some_iff.mp h).1
  have e:ixN xs.length (j:Int)=some j:=by
    unfold ixN
    rw [if_pos (by omega),if_pos (by omega)]; simp
  unfold atI; rw [e]; exact h
def PlainIx (b:Expr):Prop:=∀ o i,subscripted b false o i=operate [o,i] (getItem o i)
def IxR (X:Cx) (r:R2):Prop :=
  ∀ (value slice:Expr) (pins:List (Addr × Obj)) (s:Shared) (σ:St) (H:Hp) (x y:V) (v u:Value) (Q:VK),Inv X pins σ H s→RelV x v→RelV y u→r x y H Q →
    subscripted slice false v u=operate [v,u] (getItem v u)→wpAny (model X.prog X.w) X.A (subscriptTail value slice v u) (EP X pins σ Q) X.xe s
def MtR (X:Cx) (id:String) (r:V→List V→Hp→VK→Prop):Prop :=
  ∀ (pins:List (Addr × Obj)) (s:Shared) (σ:St) (H:Hp) (x:V) (xs:List V) (v:Value) (us:List Value) (Q:VK),Inv X pins σ H s→RelV x v→Vals xs us→r x xs H Q →
    wpAny (model X.prog X.w) X.A (call (.builtin id) (v :: us)) (EP X pins σ Q) X.xe s
section
variable {X:Cx} {a b:Expr} {ta tb:TE} {pos:Pos}
theorem IxR.or {r r':R2} (h:IxR X r) (h':IxR X r'):IxR X (fun x y H Q=>r x y H Q∨r' x y H Q):=by
  intro value slice pins s σ H x y v u Q I rx ry q hs
  rcases q with q | q
  · exact h value slice pins s σ H x y v u Q I rx ry q hs
  · exact h' value slice pins s σ H x y v u Q I rx ry q hs
theorem pe_ix {r:R2} (hr:IxR X r) (ha:PE X a ta) (hb:PE X b tb) (hs:PlainIx b):PE X (.Subscript a b pos) (tOp r ta tb):=by
  intro pins s σ H Q I h
  exact Subscript_ (binT ha hb I h fun v u s2 x y H2 I2 rx ry q=>hr a b pins s2 σ H2 x y v u Q I2 rx ry q (hs _ _))
def rIxL (K:PySem.W.Frag):R2:=fun x y H Q => ∃ p xs i v,x=.ref p∧y=.int i∧SqL K H p xs∧atI xs i=some v∧Q v H
def rIxT (K:PySem.W.Frag):R2:=fun x y H Q => ∃ p xs i v,x=.ref p∧y=.int i∧SqT K H p xs∧atI xs i=some v∧Q v H
def rIxS:R2:=fun x y H Q => ∃ z i c,x=.str z∧y=.int i∧z.length≤sizeLine∧atI z.cps.toList i=some c∧Q (.str ⟨#[c]⟩) H
theorem ix_list:IxR X (rIxL X.K):=by
  intro value slice pins s σ H x y v u Q I rx ry h hs
  obtain ⟨p,xs,i,z,rfl,rfl,hq,he,q⟩:=h
  cases rx
  obtain ⟨t,rfl⟩:=ry
  obtain ⟨its,r,pl,hz⟩:=I.list hq
  obtain ⟨j,h1,h2,h3,h4,h5⟩:=atI_get he
  obtain ⟨w,ew,rw'⟩:=r.get h2
  have hl:=r.length
  have hn:=line63
  have fin:EP X pins σ Q w s:=⟨z,H,I,rw',q⟩
  by_cases h0:0≤i
  · have hj:i.toNat=j:=by
      rw [seqIndex_of h0 h5] at h1
      exact Option.some.inj h1
    exact item_listR pl.isList h0 (by omega) (by rw [hj]; simpa using ew) fin hs
  · have hj:(i + (its.toArray.size:Int)).toNat=j:=by
      rw [seqIndex_neg (by omega) h4] at h1
      rw [List.size_toArray,← hl]
      exact Option.some.inj h1
    exact subscriptTail_builtinR (x:=w) pl.isList.typeIs slot_list_getitem.lookup
      (wpAny_getItem_list_neg (Q:=fun r s'=>r=w∧EP X pins σ Q r s') pl.isList (by omega) (by rw [List.size_toArray] <;> omega) (by omega) (by rw [hj]; simpa using ew) ⟨rfl,fin⟩) hs
theorem ix_tup:IxR X (rIxT X.K):=by
  intro value slice pins s σ H x y v u Q I rx ry h hs
  obtain ⟨p,xs,i,z,rfl,rfl,hq,he,q⟩:=h
  cases rx
  obtain ⟨t,rfl⟩:=ry
  obtain ⟨its,r,pl,hz⟩:=I.tuple hq
  obtain ⟨j,h1,h2,h3,h4,h5⟩:=atI_get he
  obtain ⟨w,ew,rw'⟩:=r.get h2
  have hl:=r.length
  have hn:=line63
  have fin:EP X pins σ Q w s:=⟨z,H,I,rw',q⟩
  exact subscriptTail_builtinR (x:=w) pl.typeIs slot_tuple_getitem.lookup
    (getItem_tuple (j:=j) (Q:=fun r s'=>r=w∧EP X pins σ Q r s') pl (by omega) (by omega) (by rw [List.size_toArray,← hl]; exact h1) (by simpa using ew) ⟨rfl,fin⟩) hs
theorem ix_str:IxR X rIxS:=by
  intro value slice pins s σ H x y v u Q I rx ry h hs
  obtain ⟨z,i,c,rfl,rfl,hz,he,q⟩:=h
  obtain ⟨t,rfl⟩:=rx
  obtain ⟨t',rfl⟩:=ry
  obtain ⟨j,h1,h2,h3,h4,h5⟩:=atI_get he
  have hl:z.cps.toList.length=z.length:=by simp [Str.length]
  rw [hl] at h1 h4 h5
  have hn:=line63
  exact tail_any (typeIs_str s z t) slot_str_getitem.lookup (getItem_str (c:=c) (by
    have e1:decide (i < -(2 ^ 63:Int))=false:=decide_eq_false (by omega)
    have e2:decide (i≥2 ^ 63)=false:=decide_eq_false (by omega)
    rw [e1,e2,Bool.or_false]) (by rw [h1]; simpa using h2) ⟨.str ⟨#[c]⟩,H,I.tok _,⟨_,rfl⟩,q⟩) hs
def rIx (K:PySem.W.Frag):R2:=fun x y H Q=>rIxL K x y H Q∨rIxT K x y H Q∨rIxS x y H Q
theorem ix_seq:IxR X (rIx X.K):=ix_list.or (ix_tup.or ix_str)
theorem mapSeq_set (its:List Value) (n j:Nat) (u:Value):Obj.mapSeq (·.setIfInBounds j u) { cls:=.type "list",data:=.seq its.toArray n }={ cls:=.type "list",data:=.seq (its.set j u).toArray n }:=by
  simp [Obj.mapSeq]
theorem Inv.lst {pins:List (Addr × Obj)} {σ:St} {H:Hp} {s:Shared} {p:Addr} {xs:List V} (I:Inv X pins σ H s) (h:H p=some (.lst xs)) :
    ∃ (its:List Value) (n:Nat),Vals xs its∧s.heap.get? p=some { cls:=.type "list",data:=.seq its.toArray n }∧xs.length≤sizeLine:=by
  obtain ⟨z,its,n,r,e⟩:=I.hok p _ h
  exact ⟨its,n,r,e,z⟩
theorem Inv.lstUpd {pins:List (Addr × Obj)} {σ:St} {H:Hp} {s:Shared} {p:Addr} {xs ys:List V} {its its':List Value} {n n':Nat} {f:Obj→Obj} (I:Inv X pins σ H s) (h:H p=some (.lst xs))
    (ho:s.heap.get? p=some { cls:=.type "list",data:=.seq its.toArray n }) (hf:f { cls:=.type "list",data:=.seq its.toArray n }={ cls:=.type "list",data:=.seq its'.toArray n' }) (r:Vals ys its') (hz:ys.length≤sizeLine) (t:Nat) :
    Inv X pins σ (upd H p (.lst ys)) { s with heap:=s.heap.update p f,toks:=t }:=by
  have e:(s.heap.update p f).get? p=some { cls:=.type "list",data:=.seq its'.toArray n' }:=by
    rw [Heap.get?_update_self f ho (by rw [hf] <;> rfl),hf]
  refine I.write (x:=p) (e:=p) (by rw [h]; trivial) (.inl rfl) (fun b u hb q=>(Heap.get?_update_other _ _ (Ne.symm hb)).trans q) ⟨_,e⟩ ?_
  exact ⟨hz,its',n',r,e⟩
def rSetL:V→V→V→Hp→(Hp→Prop)→Prop:=fun o i v H Q => ∃ p xs k j,o=.ref p∧i=.int k∧H p=some (.lst xs)∧ixN xs.length k=some j∧Q (upd H p (.lst (xs.set j v)))
theorem set_list:PSet X rSetL:=by
  intro pins s σ H o i v ov iv u Q I ro ri rv h
  obtain ⟨p,xs,k,j,rfl,rfl,hp,hj,q⟩:=h
  cases ro
  obtain ⟨t,rfl⟩:=ri
  obtain ⟨its,n,r,ho,hz⟩:=I.lst hp
  obtain ⟨h1,h2,h3,h4⟩:=ixN_seq hj
  have hl:=r.length
  have hn:=line63
  have I':Inv X pins σ (upd H p (.lst (xs.set j v))) { s with heap:=s.heap.update p (Obj.mapSeq (·.setIfInBounds j u)) } :=
    I.lstUpd hp ho (mapSeq_set its n j u) (r.set rv j) (by rw [List.length_set]; exact hz) s.toks
  by_cases h0:0≤k
  · have hk:k.toNat=j:=by
      rw [seqIndex_of h0 h4] at h1
      exact Option.some.inj h1
    exact PySem.W.ki_setAt ho h0 (by omega) (by rw [List.size_toArray,← hl]; exact h4) (by rw [hk]; exact ⟨_,I',q⟩)
  · have hk:(k + (its.toArray.size:Int)).toNat=j:=by
      rw [seqIndex_neg (by omega) h3] at h1
      rw [List.size_toArray,← hl]
      exact Option.some.inj h1
    exact PySem.W.ki_setBack ho (by omega) (by rw [List.size_toArray,← hl]; exact h3) (by omega) (by rw [hk]; exact ⟨_,I',q⟩)
theorem slice_bounds (lo hi:Option Int) (n:Nat):(sliceBounds lo hi none n).1=((HT.sIx n 0 lo:Nat):Int)∧(sliceBounds lo hi none n).2.1=((HT.sIx n n hi:Nat):Int)∧(sliceBounds lo hi none n).2.2=1:=by
  refine ⟨?_,?_,rfl⟩
  · cases lo with
    | none=>simp [sliceBounds,HT.sIx]
    | some i =>
      simp only [sliceBounds,HT.sIx,Option.getD_none,show (1:Int) > 0 by decide,if_true]
      by_cases h:i < 0
      · simp only [h,if_true] <;> omega
      · simp only [h,if_false] <;> omega
  · cases hi with
    | none=>simp [sliceBounds,HT.sIx]
    | some i =>
      simp only [sliceBounds,HT.sIx,Option.getD_none,show (1:Int) > 0 by decide,if_true]
      by_cases h:i < 0
      · simp only [h,if_true] <;> omega
      · simp only [h,if_false] <;> omega
theorem slicePick_cut (its:List Value) (lo hi:Option Int):slicePick its.toArray lo hi none=((its.drop (HT.sIx its.length 0 lo)).take (HT.sIx its.length its.length hi - HT.sIx its.length 0 lo)).toArray:=by
  obtain ⟨h1,h2,h3⟩:=slice_bounds lo hi its.toArray.size
  unfold slicePick
  rw [h1,h2,h3]
  simp only [sliceRange_one,pick_run,List.size_toArray] <;> rfl
def rSlL (K:PySem.W.Frag):V→Option Int→Option Int→Hp→VK→Prop:=fun x lo hi H Q => ∃ a xs,x=.ref a∧SqL K H a xs∧∀ p,H p=none→Q (.ref p) (upd H p (.lst (cutV xs lo hi)))
theorem sl_list:SlR X (rSlL X.K):=by
  intro pins s σ H x v vl vu lo hi sl Q I rx hs pl pu h
  obtain ⟨a,xs,rfl,hx,q⟩:=h
  cases rx
  obtain ⟨its,r,ht,hz⟩:=I.list hx
  have hlen:=r.length
  refine ⟨"list",_,slot_list_getitem.lookup,ht.isList.typeIs,?_⟩
  refine wpAny_getItem_list_slice ht.isList hs pl pu .none (by simp) ?_ (by rw [List.size_toArray] <;> omega)
  rw [slicePick_cut,← hlen]
  refine ⟨.ref s.heap.objs.size,_,I.laid (t':=s.toks) (o:=.lst (cutV xs lo hi)) (fun b ob q=>Heap.get?_push_of_some _ q) (Nat.le_refl _) ?_,rfl,q _ (I.hok.fresh (Nat.le_refl _))⟩
  exact ⟨Nat.le_trans (cutV_length xs lo hi) hz,_,0,(r.drop (HT.sIx xs.length 0 lo)).take (HT.sIx xs.length xs.length hi - HT.sIx xs.length 0 lo),Heap.get?_push_size _ rfl⟩
def flatV:V→Bool
  | .non=>true
  | .bl _=>true
  | .int _=>true
  | .str _=>true
  | _=>false
def eqV:V→V→Bool
  | .non,.non=>true
  | .bl a,.bl b=>a == b
  | .bl a,.int b=>(if a then 1 else 0) == b
  | .int a,.bl b=>a == (if b then 1 else 0)
  | .int a,.int b=>a == b
  | .str a,.str b=>a == b
  | _,_=>false
theorem eqAt_V {A:Around} {s:Shared} {y x:V} {u v:Value} (ry:RelV y u) (rx:RelV x v) (fy:flatV y=true) (fx:flatV x=true):SeqAt.EqAt A s u v (eqV y x):=by
  cases y with
  | non =>
    cases ry
    cases x with
    | non=>cases rx; exact SeqAt.EqAt.same _
    | bl b=>cases rx; exact SeqAt.EqAt.none_bool b
    | int b=>obtain ⟨t,rfl⟩:=rx; exact SeqAt.EqAt.none_int b t
    | str b=>obtain ⟨t,rfl⟩:=rx; exact SeqAt.EqAt.none_str b t
    | _=>exact absurd (show false=true from fx) Bool.false_ne_true
  | bl a =>
    cases ry
    cases x with
    | non=>cases rx; exact SeqAt.EqAt.bool_none a
    | bl b=>cases rx; exact SeqAt.EqAt.bool_bool a b
    | int b=>obtain ⟨t,rfl⟩:=rx; exact SeqAt.EqAt.bool_int a b t
    | str b=>obtain ⟨t,rfl⟩:=rx; exact SeqAt.EqAt.bool_str a b t
    | _=>exact absurd (show false=true from fx) Bool.false_ne_true
  | int a =>
    obtain ⟨t',rfl⟩:=ry
    cases x with
    | non=>cases rx; exact SeqAt.EqAt.int_none a t'
    | bl b=>cases rx; exact SeqAt.EqAt.int_bool a t' b
    | int b=>obtain ⟨t,rfl⟩:=rx; exact SeqAt.EqAt.int_int a t' b t
    | str b=>obtain ⟨t,rfl⟩:=rx; exact SeqAt.EqAt.int_str a t' b t
    | _=>exact absurd (show false=true from fx) Bool.false_ne_true
  | str a =>
    obtain ⟨t',rfl⟩:=ry
    cases x with
    | non=>cases rx; exact SeqAt.EqAt.str_none a t'
    | bl b=>cases rx; exact SeqAt.EqAt.str_bool a t' b
    | int b=>obtain ⟨t,rfl⟩:=rx; exact SeqAt.EqAt.str_int a t' b t
    | str b=>obtain ⟨t,rfl⟩:=rx; exact SeqAt.EqAt.str_str a t' b t
    | _=>exact absurd (show false=true from fx) Bool.false_ne_true
  | _=>exact absurd (show false=true from fy) Bool.false_ne_true
def eqU (x:V) (u:Value):Bool:=match u with
  | .none=>eqV .non x
  | .bool b=>eqV (.bl b) x
  | .int i _=>eqV (.int i) x
  | .str z _=>eqV (.str z) x
  | _=>false
theorem eqU_of {x y:V} {u:Value} (r:RelV y u) (f:flatV y=true):eqU x u=eqV y x:=by
  cases y with
  | non=>cases r; rfl
  | bl b=>cases r; rfl
  | int i=>obtain ⟨t,rfl⟩:=r; rfl
  | str z=>obtain ⟨t,rfl⟩:=r; rfl
  | _=>exact absurd (show false=true from f) Bool.false_ne_true
theorem any_eqU {x:V}:∀ {xs:List V} {us:List Value},Vals xs us→xs.all flatV=true→us.any (eqU x)=xs.any fun y=>eqV y x
  | _,_,.nil,_=>rfl
  | y :: xs,u :: us,.cons r t,f=>by
    rw [List.all_cons,Bool.and_eq_true] at f
    rw [List.any_cons,List.any_cons,eqU_of r f.1,any_eqU t f.2]
theorem mem_eqAt {A:Around} {s:Shared} {x:V} {v:Value} (rx:RelV x v) (fx:flatV x=true):∀ {xs:List V} {us:List Value},Vals xs us→xs.all flatV=true→∀ u∈us,SeqAt.EqAt A s u v (eqU x u)
  | _,_,.nil,_=>fun u hu=>by cases hu
  | y :: xs,u :: us,.cons r t,f=>fun u' hu=>by
    rw [List.all_cons,Bool.and_eq_true] at f
    rcases List.mem_cons.mp hu with rfl | hu
    · rw [eqU_of r f.1]; exact eqAt_V r rx f.1 fx
    · exact mem_eqAt rx fx t f.2 u' hu
def inV (x:V) (xs:List V):Bool:=xs.any fun y=>eqV y x
def rIn (K:PySem.W.Frag) (neg:Bool):R2:=fun x y H Q => ∃ p xs,y=.ref p∧(SqL K H p xs∨SqT K H p xs)∧flatV x=true∧xs.all flatV=true∧Q (.bl (if neg then !inV x xs else inV x xs)) H
theorem op_in_seq:OpR X (compareOp .In) (rIn X.K false):=by
  intro pins s σ H x y v u Q I rx ry h
  obtain ⟨p,xs,rfl,hq,fx,fs,q⟩:=h
  cases ry
  rcases hq with hq | hq
  · obtain ⟨its,r,pl,hz⟩:=I.list hq
    refine SeqAt.in_listAt (eqU x) pl.isList (fun w hw=>mem_eqAt rx fx r fs w (by simpa using hw)) ⟨.bl _,H,I,rfl,?_⟩
    rw [show its.toArray.any (eqU x)=its.any (eqU x) by simp,any_eqU r fs]
    exact q
  · obtain ⟨its,r,pl,hz⟩:=I.tuple hq
    refine SeqAt.in_tupleAt (eqU x) pl (fun w hw=>mem_eqAt rx fx r fs w (by simpa using hw)) ⟨.bl _,H,I,rfl,?_⟩
    rw [show its.toArray.any (eqU x)=its.any (eqU x) by simp,any_eqU r fs]
    exact q
theorem call_len_seq:CallR X (.builtin "len") (fun xs H Q => ∃ p ys,xs=[.ref p]∧(SqL X.K H p ys∨SqT X.K H p ys)∧Q (.int ys.length) H):=by
  intro pins s σ H xs us Q I r h
  obtain ⟨p,ys,rfl,hq,q⟩:=h
  obtain ⟨u,rfl,rx⟩:=vals1 r
  cases rx
  have hn:=line63
  rcases hq with hq | hq
  · obtain ⟨its,r',pl,hz⟩:=I.list hq
    have hlen:=r'.length
    exact Calls.call_len_list pl.isList (by simp only [List.size_toArray] <;> omega) ⟨.int ys.length,H,I.tok _,⟨s.toks + 1,by rw [List.size_toArray,hlen]⟩,q⟩
  · obtain ⟨its,r',pl,hz⟩:=I.tuple hq
    have hlen:=r'.length
    exact len_tuple pl (by simp only [List.size_toArray] <;> omega) ⟨.int ys.length,H,I.tok _,⟨s.toks + 1,by rw [List.size_toArray,hlen]⟩,q⟩
theorem call_list_of:CallR X (.type "list") (fun xs H Q => ∃ p ys,xs=[.ref p]∧(SqL X.K H p ys∨SqT X.K H p ys)∧∀ l,H l=none→Q (.ref l) (upd H l (.lst ys))):=by
  intro pins s σ H xs us Q I r h
  obtain ⟨p,ys,rfl,hq,q⟩:=h
  obtain ⟨u,rfl,rx⟩:=vals1 r
  cases rx
  have fin:∀ (its:List Value),Vals ys its→ys.length≤sizeLine→∀ (h':Heap) (c':Nat),(∀ b o',s.heap.get? b=some o'→h'.get? b=some o') →
      h'.get? s.heap.objs.size=some { cls:=.type "list",dict:=none,data:=.seq its.toArray c',slots:=#[] }→EP X pins σ Q (.ref s.heap.objs.size) { s with heap:=h' }:=fun its r' hz h' c' kp e =>
    ⟨.ref s.heap.objs.size,_,I.laid (t':=s.toks) kp (Nat.le_refl _) (show ObjOk X.prog X.w _ h' _ (.lst ys) from ⟨hz,its,c',r',e⟩),rfl,q _ (I.hok.fresh (Nat.le_refl _))⟩
  rcases hq with hq | hq
  · obtain ⟨its,r',pl,hz⟩:=I.list hq
    have hlen:=r'.length
    obtain ⟨o,ho,hc,n,hd⟩:=pl.isList
    exact call_list_seq p (.inl rfl) ho hc hd (fun h' c' kp e=>fin its r' hz h' c' kp e) (by simp only [List.size_toArray] <;> omega)
  · obtain ⟨its,r',pl,hz⟩:=I.tuple hq
    have hlen:=r'.length
    obtain ⟨o,ho,hc,n,hd⟩:=pl
    exact call_list_seq p (.inr rfl) ho hc hd (fun h' c' kp e=>fin its r' hz h' c' kp e) (by simp only [List.size_toArray] <;> omega)
def tyV (K:PySem.W.Frag) (T:String) (x:V) (H:Hp):Prop:=match x with
  | .str _=>T="str"
  | .int _=>T="int"
  | .ref p=>(T="list"∧∃ xs,SqL K H p xs)∨(T="tuple"∧∃ o,K.lookup p=some o∧o.cls=.type "tuple"∧o.dict=none) ∨
      (T="dict"∧((∃ kvs,H p=some (.dK kvs))∨∃ kvs,H p=some (.dT kvs)))∨(T="set"∧∃ S n,H p=some (.set S n))
  | _=>False
theorem tyV_is {pins:List (Addr × Obj)} {σ:St} {H:Hp} {s:Shared} {T:String} {x:V} {v:Value} (I:Inv X pins σ H s) (r:RelV x v) (ty:tyV X.K T x H) :
    s.TypeIs v T∧∀ a,v=.ref a→∃ ob,s.heap.get? a=some ob∧ob.dict=none:=by
  cases x with
  | str z =>
    obtain ⟨t,rfl⟩:=r
    cases (show T="str" from ty)
    exact ⟨typeIs_str s z t,fun _ e=>nomatch e⟩
  | int i =>
    obtain ⟨t,rfl⟩:=r
    cases (show T="int" from ty)
    exact ⟨typeIs_int s i t,fun _ e=>nomatch e⟩
  | ref p =>
    cases r
    rcases ty with ⟨rfl,xs,hq⟩ | ⟨rfl,o,hk,hc,hd⟩ | ⟨rfl,hk⟩ | ⟨rfl,S,n,hk⟩
    · obtain ⟨its,_,pl,_⟩:=I.list hq
      refine ⟨pl.isList.typeIs,fun a e=>?_⟩
      cases e
      obtain ⟨o,n,e,c,hd,_⟩:=pl
      exact ⟨o,e,hd⟩
    · refine ⟨⟨o,I.kIn p o hk,hc⟩,fun a e=>?_⟩
      cases e
      exact ⟨o,I.kIn _ o hk,hd⟩
    · have z:∃ o,s.heap.get? p=some o∧o.ExactDict:=by
        rcases hk with ⟨kvs,hk⟩ | ⟨kvs,hk⟩
        · obtain ⟨_,_,_,_,o,_,_,e,ex,_⟩:=I.hok p _ hk
          exact ⟨o,e,ex⟩
        · obtain ⟨_,_,_,_,o,_,_,e,ex,_⟩:=I.hok p _ hk
          exact ⟨o,e,ex⟩
      obtain ⟨o,e,ex⟩:=z
      refine ⟨⟨o,e,ex.1⟩,fun a e2=>?_⟩
      cases e2
      exact ⟨o,e,ex.2.1⟩
    · obtain ⟨o,_,_,_,e,ex,_⟩:=I.hok p _ hk
      refine ⟨⟨o,e,ex.1⟩,fun a e2=>?_⟩
      cases e2
      exact ⟨o,e,ex.2.1⟩
  | _=>exact False.elim ty
def tBM (K:PySem.W.Frag) (T:String) (r:V→List V→Hp→VK→Prop) (to:TE) (t:TA):TE:=fun σ H Q=>to σ H fun x H1=>tyV K T x H1∧t σ H1 fun xs H2=>r x xs H2 Q
variable {o e:Expr} {es:List Expr} {to:TE} {t:TA} {name:Str} {apos cpos:Pos} {T id:String} {r:V→List V→Hp→VK→Prop}
theorem pe_bm (pa:PlainAttrs T) (slot:Slot T name id) (hty:typeOf (.builtin id)=pure (.type "method_descriptor")) (hm:MtR X id r) (ho:PE X o to) (ha:PA X (e :: es) t)
    (hbase:attributeBase o name X.env (eval o X.env)=eval o X.env:=by rfl)
    (hfew:((backTo cpos (starEach (e :: es) X.env)).all (fun x => !x.1) && (backToKw cpos (keywordEach [] X.env)).all (fun x=>x.1.isSome)
      && decide ((e :: es).length + ([]:List Keyword).length + (if ([]:List Keyword).isEmpty then 0 else 1) < 30))=true:=by rfl)
    (hline:(apos.endLine == cpos.line)=true:=by rfl) (hs:starEach (e :: es) X.env=(false,eval e X.env) :: starEach es X.env:=by rfl) (hplain:(backTo cpos (starEach es X.env)).any (·.1)=false:=by rfl) :
    PE X (.Call (.Attribute o name apos) (e :: es) [] cpos) (tBM X.K T r to t):=by
  intro pins s σ H Q I h
  refine wpAny_Call_method_late hbase hfew hline rfl (thn (ho pins s σ H _ I h) fun v s1 ⟨x,H1,I1,r1,ty,q1⟩=>?_)
  obtain ⟨h1,h2⟩:=tyV_is I1 r1 ty
  refine ⟨T,id,pa,slot,hty,h1,h2,?_⟩
  have hA:=ha cpos pins s1 σ H1 _ I1 q1
  rw [hs] at hA ⊢
  refine Calls.callWith_builtin (by show (false || (backTo cpos (starEach es X.env)).any (·.1))=false; rw [hplain] <;> rfl) (Calls.evalArgs_plain ?_)
  exact thn hA fun us s2 ⟨vs,H2,I2,r2,q2⟩=>hm pins s2 σ H2 x vs v us Q I2 r1 r2 q2
/- xs.append(e),list.index on a module's tuple .. are MtR facts of 06m -/
end
end L2
namespace L2
open PySem PySem.Spec PyProof.Rows
def MtM (X:Cx) (id:String) (r:V→List V→Hp→VK→Prop):Prop :=
  ∀ (pins:List (Addr × Obj)) (s:Shared) (σ:St) (H:Hp) (x:V) (xs:List V) (v:Value) (us:List Value) (Q:VK),Inv X pins σ H s→RelV x v→Vals xs us→r x xs H Q →
    wpAny (model X.prog X.w) X.A (call (.builtin id) (v :: us)) (EP X pins σ Q) X.xe s
theorem Vals.one:∀ {x:V} {us:List Value},Vals [x] us→∃ u,us=[u]∧RelV x u
  | _,_,.cons r .nil=>⟨_,rfl,r⟩
section
variable {X:Cx} {pins:List (Addr × Obj)} {σ:St} {H:Hp} {s:Shared} {l b:Addr} {xs ys zs:List V}
theorem Inv.lset {its its':List Value} {n:Nat} {f:Array Value→Array Value} {t':Nat} (I:Inv X pins σ H s) (hH:H l=some (.lst xs))
    (e:s.heap.get? l=some { cls:=.type "list",data:=.seq its.toArray n }) (hf:f its.toArray=its'.toArray) (hv:Vals ys its') (hz:ys.length≤sizeLine) :
    Inv X pins σ (upd H l (.lst ys)) { s with heap:=s.heap.update l (Obj.mapSeq f),toks:=t' }:=by
  have q:=PySem.IsL.update e f
  rw [hf] at q
  refine I.write (x:=l) (e:=l) (by rw [hH]; exact trivial) (.inl rfl) (fun b' u hb hu=>(Heap.get?_update_other s.heap (Obj.mapSeq f) (Ne.symm hb)).trans hu) ⟨_,q⟩ ?_
  exact ⟨hz,its',_,hv,q⟩
theorem Inv.lnew {its:List Value} {t':Nat} (I:Inv X pins σ H s) (hv:Vals ys its) (hz:ys.length≤sizeLine) :
    Inv X pins σ (upd H s.heap.objs.size (.lst ys)) { s with heap:=s.heap.push { cls:=.type "list",data:=.seq its.toArray },toks:=t' } :=
  I.laid (fun _ _ q=>Heap.get?_push_of_some _ q) (Nat.le_refl _) ⟨hz,its,0,hv,Heap.get?_push_size _ rfl⟩
theorem Inv.fresh (I:Inv X pins σ H s):H s.heap.objs.size=none:=I.hok.fresh (Nat.le_refl _)
theorem Inv.lstM (I:Inv X pins σ H s) (hH:H l=some (.lst xs)):xs.length≤sizeLine∧∃ (its:List Value) (n:Nat),Vals xs its∧xs.length=its.length∧s.heap.get? l=some { cls:=.type "list",data:=.seq its.toArray n }:=by
  obtain ⟨z,its,n,r,e⟩:=I.hok l _ hH
  exact ⟨z,its,n,r,r.length,e⟩
theorem notLongL {n:Nat} (h:n≤sizeLine):Builtin.List.listTooLong n=false:=by
  unfold Builtin.List.listTooLong
  exact decide_eq_false (by omega)
end
section
variable {X:Cx}
def rAppend:V→List V→Hp→VK→Prop:=fun x vs H Q => ∃ l xs y,x=.ref l∧vs=[y]∧H l=some (.lst xs)∧xs.length < sizeLine∧Q .non (upd H l (.lst (xs ++ [y])))
theorem mt_append:MtM X "list.append" rAppend:=by
  intro pins s σ H x vs v us Q I rx rv h
  obtain ⟨l,xs,y,rfl,rfl,hH,hz,q⟩:=h
  cases rx
  obtain ⟨u,rfl,ru⟩:=rv.one
  obtain ⟨z,its,n,r,hl,e⟩:=I.lstM hH
  refine call_meets F.slot_list_append ⟨_,e,rfl⟩ F.entry_list_append (F.args_list_append_2 _ _) (PySem.list_append l its.toArray n u (by rw [List.size_toArray]; omega)) ⟨e,?_⟩
  refine ⟨.non,_,I.lset (its':=its ++ [u]) hH e (by simp) (r.append (.cons ru .nil)) ?_,rfl,q⟩
  rw [List.length_append,List.length_singleton]
  omega
def rExtend:V→List V→Hp→VK→Prop:=fun x vs H Q => ∃ l b xs zs,x=.ref l∧vs=[.ref b]∧H l=some (.lst xs)∧H b=some (.lst zs)∧xs.length + zs.length≤sizeLine∧Q .non (upd H l (.lst (xs ++ zs)))
theorem mt_extend:MtM X "list.extend" rExtend:=by
  intro pins s σ H x vs v us Q I rx rv h
  obtain ⟨l,b,xs,zs,rfl,rfl,hH,hB,hz,q⟩:=h
  cases rx
  obtain ⟨u,rfl,ru⟩:=rv.one
  cases ru
  obtain ⟨z,its,n,r,hl,e⟩:=I.lstM hH
  obtain ⟨z2,its2,n2,r2,hl2,e2⟩:=I.lstM hB
  have hsz:its.toArray.size + its2.toArray.size≤sizeLine:=by rw [List.size_toArray,List.size_toArray]; omega
  have hlong:¬ (!its.toArray.isEmpty && Builtin.List.listTooLong (its.toArray.size + its2.toArray.size))=true:=by
    rw [notLongL hsz,Bool.and_false]
    exact Bool.false_ne_true
  refine call_meets F.slot_list_extend ⟨_,e,rfl⟩ F.entry_list_extend (F.args_list_extend_2 _ _)
    (AutoSeq1.list_extend_list_list_0 l its.toArray n b its2.toArray n2 hlong (by rw [List.size_toArray]; omega) (by omega)) ⟨e,e2,?_⟩
  refine ⟨.non,_,I.lset (its':=its ++ its2) hH e (by simp) (r.append r2) ?_,rfl,q⟩
  rw [List.length_append]
  omega
def rCat:R2:=fun x y H Q => ∃ l b xs zs,x=.ref l∧y=.ref b∧H l=some (.lst xs)∧H b=some (.lst zs)∧xs.length + zs.length≤sizeLine∧∀ p,H p=none→Q (.ref p) (upd H p (.lst (xs ++ zs)))
theorem op_cat:OpR X (binaryOp .Add) rCat:=by
  intro pins s σ H x y v u Q I rx ry h
  obtain ⟨l,b,xs,zs,rfl,rfl,hH,hB,hz,q⟩:=h
  cases rx
  cases ry
  obtain ⟨z,its,n,r,hl,e⟩:=I.lstM hH
  obtain ⟨z2,its2,n2,r2,hl2,e2⟩:=I.lstM hB
  refine PySem.P.add_list e e2 ?_ (by rw [List.size_toArray,List.size_toArray]; omega)
  have ea:its.toArray ++ its2.toArray=(its ++ its2).toArray:=by simp
  rw [ea]
  exact ⟨.ref _,_,I.lnew (t':=s.toks) (r.append r2) (by rw [List.length_append]; omega),rfl,q _ I.fresh⟩
end
section
variable {prog:Program} {w:World} {A:Around} {E:Value→Shared→Prop} {s:Shared}
end
section
variable {X:Cx}
end
end L2
namespace Att
open PySem PySem.W PySem.Calls PyProof.Rows
theorem ints_of_wellAll {P:Params} {h:Heap}:∀ (ns:List Int) (vs:List Value),WellAll P h vs (ns.map WData.int)→IntsAre vs ns:=by
  intro ns
  induction ns with
  | nil =>
    intro vs w
    rw [List.map_nil] at w
    cases w
    exact .nil
  | cons n ns ih =>
    intro vs w
    rw [List.map_cons] at w
    cases w with
    | cons a b =>
      cases a
      exact .cons _ _ (ih _ b)
theorem script_of {l:OpenLaw} {n:Nat} (hn:l.most=some n) {P:Params} {h:Heap} {args:List WData} {vals:List Value}
    (hpre:l.row.toRowW.claim.pre args=true) (hwl:WellAll P h vals args) :
    ∃ a vs ns,vals=[Value.ref a]∧args=[WData.list (ns.map WData.int)]∧h.get? a=some { cls:=.type "list",data:=.seq vs.toArray }∧IntsAre vs ns∧ns.length≤n:=by
  have hsh:WShape.hasAll [] args [.list .int]=true:=(pre_splitW hpre).1
  have hc:l.pre.holds [] { args:=args }=true:=(pre_splitW hpre).2
  obtain ⟨d,r,rfl,h1,h2⟩:=hasAllW_cons hsh
  obtain rfl:=hasAllW_nil h2
  obtain ⟨xs,rfl,h3⟩:=hasW_list h1
  obtain ⟨ns,rfl⟩:=items_int h3
  have hlen:ns.length≤n:=by
    unfold OpenLaw.pre at hc
    have h4:(WTm.not (.lt (.lit (.int (n:Int))) (.len (.arg 0)))).holds [] { args:=[.list (ns.map .int)] }=true:=by
      have h4:=(holds_andW hc).1
      rw [hn] at h4
      exact h4
    have h5:=condW_of h4 (w_not (w_lt w_lit (w_len_list (w_arg rfl))))
    rw [List.length_map] at h5
    refine Nat.le_of_not_lt fun q=>?_
    have q':(n:Int) < ((ns.length:Nat):Int):=by omega
    first
      | (rw [decide_eq_true q'] at h5; exact absurd h5 (by decide))
      | (simp at h5; omega)
  cases hwl with
  | cons w1 w2 =>
    cases w2
    cases w1 with
    | list ho hall=>exact ⟨_,_,ns,rfl,rfl,ho,ints_of_wellAll ns _ hall,hlen⟩
theorem post_true (l:OpenLaw) (args:List WData):l.row.toRowW.claim.post args (.bool true) args=true :=
  postW_of (r:=l.row.toRowW) (X:=(true == true))
    (show WShape.has [] (.bool true) .bool=true by first | rfl | decide | simp [WShape.has,WShape.arms,WShape.armsAll])
    (show (WTm.eq .res (.lit (.bool true))).value [] { args:=args,res:=some (.bool true),after:=args }=some (.bool (true == true)) from w_eq_bool (w_res rfl) w_lit) rfl
section
variable {prog:Program} {w:World} {A:Around} {E:Value→Shared→Prop} {s:Shared} {K:Frag}
end
end Att
namespace L2
open PySem PySem.Spec PyProof.Rows
theorem vals_ints:∀ {vs:List Value} {ns:List Int},IntsAre vs ns→Vals (ns.map V.int) vs
  | _,_,.nil=>.nil
  | _,_,.cons n t h=>.cons ⟨t,rfl⟩ (vals_ints h)
end L2
namespace L2
open PySem PySem.Spec PyProof.Rows
abbrev KOf {K:PySem.W.Frag} {h:Heap} (_:K.In h):PySem.W.Frag:=K
end L2
/- THE LAST THEOREM (shape; LID,My.* are yours):
   My.Adr: a structure of the addresses that your layer names (classes,functions); My.Txt K t: a structure (Prop) of the equations over K;
   My.txt_mk:{K} {implicit addresses ..} (e1:nsIn K mainGlobals "law" = some (some (.ref f))) (e2:K.lookup f=some ⟨oc,od,.func (fnOf "law" "law" params body scope dV kV doc pm an cdv ct),sl⟩) (e3:codeIn K cdv "law" = true) .. : ∃ t,My.Txt K t
set_option maxRecDepth 100000 in
set_option maxHeartbeats 0 in
theorem PySem.Challenge.cw_LID_holds : PySem.Challenge.rw_LID.Holds := by
  w_on; o_law; k_head; (case hw=>w_witness2)
  k_fill
  refine L2.walk_of (l:=PySem.Challenge.rw_LID) (n:=63) (k:=40) (x:="script") (CX:=fun w=>..) (sp:=fun _=>My.sp_law) rfl (by decide) rfl ⟨rfl,by decide,by decide⟩ (fun w h Y=>PySem.W.kIn_of Y) ?F ?S ?C
  case F =>
    intro w mg fa h KX G hmg
    have T:∃ t,My.Txt (L2.KOf KX) t:=by
      dsimp only [L2.KOf]                          -- K must stand as «<heap const> w.params» for k_is
      refine' My.txt_mk ?e1 ?e2 ?e3 ..
      (case e1=>PySem.W.k_is)                    -- in the order: a name -> its address -> its object -> its parts
      (case e2=>PySem.W.k_is)
      ..
    obtain ⟨t,T⟩:=T
    have e0:=hmg.symm.trans (PySem.W.mg_of KX G T.law)
    cases e0                                       -- fa is the law's own address
    exact ⟨_,fun s u=>.of_eq rfl,fun base kb nb=>My.law_fn T kb nb⟩     -- if «.of_eq rfl» comes too early: refine' ⟨_,?b,fun base kb nb=>My.law_fn T kb nb⟩; exact fun s u=>.of_eq rfl
  case S=>exact fun w H a ns hl hO hS=>..
  case C=>exact ..
(the tactic k_is has no namespace: write k_is) -/
namespace L2
open PySem PySem.Spec PyProof.Rows
def inClass (s:Stmt) (j:Nat):Stmt:=match s with
  | .ClassDef _ _ _ body _ _ _ _ _ _ _=>body.getD j (.Pass ⟨0,0,0,0⟩)
  | _=>.Pass ⟨0,0,0,0⟩
def defArgs (s:Stmt):Arguments:=match s with
  | .FunctionDef _ a _ _ _ _ _ _ _ _=>a
  | _ => { posonlyargs:=[],args:=[],vararg:=none,kwonlyargs:=[],kw_defaults:=[],kwarg:=none,defaults:=[] }
def defBody (s:Stmt):List Stmt:=match s with
  | .FunctionDef _ _ b _ _ _ _ _ _ _=>b
  | _ => []
def defScope (s:Stmt):Scope:=match s with
  | .FunctionDef _ _ _ _ _ _ sc _ _ _=>sc
  | _ => { kind:=.function,names:=[],isGenerator:=false,isCoroutine:=false }
abbrev CX0:CXT:=fun _ _ _ _ _ _=>False
abbrev E0:XK:=fun _ _ _=>False
theorem pass0 {X:Cx}:Passes CX0 X E0:=fun _ _ _ _ _ _ _ h=>h.elim
structure Fun (K:PySem.W.Frag) (x qual:Str) (st:Stmt) (f:Addr) (fd:FuncData):Prop where
  ex:∃ (oc:Value) (od:Option Addr) (kV doc pm:Value) (an:Option Addr) (cdv ct:Value) (osl:Array (Option Value)),
    fd=PySem.W.fnOf x qual (defArgs st) (defBody st) (defScope st) .none kV doc pm an cdv ct∧K.lookup f=some ⟨oc,od,.func fd,osl⟩∧PySem.W.codeIn K cdv qual=true
  kp:PySem.W.keepIn K (.ref f)=true
section
variable {P:Program} {w:World} {K:PySem.W.Frag} {mg:Str→Option Value} {base:Heap}
theorem Fun.ok {x qual:Str} {st:Stmt} {f:Addr} {fd:FuncData} {N ps:List Str} {k:Nat} {sp:Sp} (F:Fun K x qual st f fd) (S:FnScope N ps (defScope st)) (len:∀ vs H Q E,sp vs H Q E→vs.length=ps.length)
    (hbody:∀ (cdv:Value) (A:Around) (outer:List Env) (s:Shared) (H:Hp) (vs:List V) (Q:VK) (E:XK),Room k (A.deeper (envOfC qual (defScope st) s.heap.objs.size f cdv))→sp vs H Q E →
      ∃ t,PSs (cxOf CX0 P w K mg base N qual (defScope st) f cdv A outer s H E).nox (defBody st) t∧t { nx:=fun _ H'=>Q .non H',rt:=Q } (start N vs) H):FnOk P w K mg base CX0 (k + 1) f fd ps sp:=by
  obtain ⟨oc,od,kV,doc,pm,an,cdv,ct,osl,rfl,lk,hcd⟩:=F.ex
  refine fn_of lk hcd S len fun A outer s H vs Q E hr hsp=>?_
  obtain ⟨t,h,q⟩:=hbody cdv A outer s H vs Q E hr hsp
  exact ⟨t,h.nox,q⟩
theorem Fun.binds {x qual:Str} {st:Stmt} {f:Addr} {fd:FuncData} {ps:List Str} (F:Fun K x qual st f fd)
    (h:∀ (kV doc pm:Value) (an:Option Addr) (cdv ct:Value) (us:List Value),us.length=ps.length→bindArgs (PySem.W.fnOf x qual (defArgs st) (defBody st) (defScope st) .none kV doc pm an cdv ct) ⟨us,[]⟩=pure (ps.zip us)):Binds K fd ps []:=by
  obtain ⟨oc,od,kV,doc,pm,an,cdv,ct,osl,rfl,lk,hcd⟩:=F.ex
  exact .all (h kV doc pm an cdv ct)
theorem fun_mk {x qual:Str} {st:Stmt} {f:Addr} {oc:Value} {od an:Option Addr} {osl:Array (Option Value)} {kV doc pm cdv ct:Value} (l:K.lookup f=some ⟨oc,od,.func (PySem.W.fnOf x qual (defArgs st) (defBody st) (defScope st) .none kV doc pm an cdv ct),osl⟩)
    (c:PySem.W.codeIn K cdv qual=true) (k:PySem.W.keepIn K (.ref f)=true):Fun K x qual st f (PySem.W.fnOf x qual (defArgs st) (defBody st) (defScope st) .none kV doc pm an cdv ct):=⟨⟨oc,od,kV,doc,pm,an,cdv,ct,osl,rfl,l,c⟩,k⟩
end
theorem small1000 {n:Nat} (h:n≤1000):n < sizeLine:=Nat.lt_of_le_of_lt h (by decide)
section
variable {X:Cx}
theorem pv (i:Nat) {x:Str} {pos:Pos} (hN:X.N[i]? = some x:=by rfl) (hv:Vis X.env.scope x:=by first | exact Or.inl rfl | exact Or.inr (Or.inl rfl) | exact Or.inr (Or.inr rfl)) (hd:(x == ("__debug__" : Str))=false:=by decide)
    (hcd:(x == ("__classdict__" : Str))=false:=by decide):PE X (.Name x pos) (tVar i):=pe_var hN hv hd hcd
end
theorem iteF {A B:Prop} (h:B):if false=true then A else B:=by
  rw [if_neg Bool.false_ne_true]
  exact h
theorem iteT {A B:Prop} (h:A):if true=true then A else B:=by
  rw [if_pos rfl]
  exact h
theorem ite2 {c A B:Prop} [Decidable c] (h1:c→A) (h2:¬ c→B):if c then A else B:=by
  by_cases h:c
  · rw [if_pos h]
    exact h1 h
  · rw [if_neg h]
    exact h2 h
def Same (H H':Hp):Prop:=∀ b o,H b=some o→H' b=some o
theorem Same.refl (H:Hp):Same H H:=fun _ _ h=>h
theorem Same.trans {H H1 H2:Hp} (a:Same H H1) (b:Same H1 H2):Same H H2:=fun c o h=>b c o (a c o h)
theorem Same.free {H H':Hp} (e:Same H H') {l:Addr} (h:H' l=Option.none):H l=Option.none:=by
  cases q:H l with
  | none=>rfl
  | some o =>
    rw [e l o q] at h
    cases h
theorem Same.seq {K:PySem.W.Frag} {H H':Hp} {a:Addr} {xs:List V} (e:Same H H') (h:SqL K H a xs):SqL K H' a xs:=by
  rcases h with (h | ⟨o,h⟩) | h
  · exact .inl (.inl (e _ _ h))
  · exact .inl (.inr ⟨o,e _ _ h⟩)
  · exact .inr h
end L2
namespace L2
open PySem PySem.Spec PyProof.Rows
section
variable {prog:Program} {w:World} {A:Around} {E:Value→Shared→Prop} {R:Result→Shared→Prop} {s:Shared}
theorem compLoop_any {elt target iter:Expr} {ifs:List Expr} {scope:Scope} {pos:Pos} {it acc:Value} {env:Env} (I:Nat→Shared→Prop)
    (turn:∀ n s,I n s→wpAny (model prog w) A (pyNext it) (fun r s1=>match r with
      | none=>R (.ok .next) s1
      | some v=>wpAny (model prog w) A (letOwnedTupleGo target it v) (fun _ s1'=>wpAny (model prog w) A (assign target env v) (fun _ s2 =>
          wpAny (model prog w) A (forIn ifs true fun c r=>if r=true then do let ok ← isTrue c env (eval c env); pure (ForInStep.yield ok) else pure (ForInStep.yield r)) (fun ok s3 =>
            if ok=true then wpAny (model prog w) A (eval elt env) (fun x s4 =>
              wpAny (model prog w) A (call (.builtin "list.append") [acc,x]) (fun _ s5 => ∃ m,m < n∧I m s5) (fun _ _=>False) s4) (fun _ _=>False) s3
            else ∃ m,m < n∧I m s3) (fun _ _=>False) s2) (fun _ _=>False) s1') (fun _ _=>False) s1) (fun _ _=>False) s)
    (n:Nat) (h:I n s) :
    codeAny (model prog w) A (.compLoop (.ListComp elt [⟨target,iter,ifs,0⟩] scope pos) 0 it acc env) R s:=by
  refine codeAny_loop rfl I (fun n s hI=>?_) n h
  show wpAny _ A ((compTurn (.ListComp elt [⟨target,iter,ifs,0⟩] scope pos) 0 it acc env).onRaise (fun x=>do noteFrame x env; theTreesLotGoes x)) _ _ s
  refine wpAny_noted ?_
  rw [compTurn_list]
  refine wpAny_bind (wpAny_standAt (wpAny_bind (wpAny_mono (turn n s hI) (fun r s1 h1=>?_) fun _ _ h'=>h'.elim)))
  cases r with
  | none=>exact wpAny_pure h1
  | some v =>
    refine wpAny_bind (wpAny_mono h1 (fun _ s1' h1'=>?_) fun _ _ h'=>h'.elim)
    refine wpAny_bind (wpAny_mono h1' (fun _ s2 h2=>wpAny_bind (wpAny_mono h2 (fun ok s3 h3=>?_) fun _ _ h'=>h'.elim)) fun _ _ h'=>h'.elim)
    cases ok with
    | false=>exact wpAny_pure ⟨rfl,h3⟩
    | true =>
      exact wpAny_bind (wpAny_bind (wpAny_mono h3 (fun x s4 h4=>wpAny_bind (wpAny_mono h4 (fun _ s5 h5=>wpAny_pure (wpAny_pure ⟨rfl,h5⟩)) fun _ _ h'=>h'.elim)) fun _ _ h'=>h'.elim))
end
def clOf (cells:List (Str × Addr)):List (Str × NameKind)→List (Str × Addr)→List (Str × Addr)
  | [],acc=>acc
  | (n,k) :: r,acc=>if k == .free then clOf cells r ((n,(cells.lookup n).getD 0) :: acc) else clOf cells r acc
theorem closureFor_clOf {scope:Scope} {env:Env} (h:∀ y∈scope.names,y.2=.free→∃ c,env.cells.lookup y.1=some c):closureFor scope env=pure (clOf env.cells scope.names []):=by
  simp only [closureFor]
  generalize ([]:List (Str × Addr))=acc
  revert h
  generalize scope.names=l
  intro h
  induction l generalizing acc with
  | nil=>rfl
  | cons x r ih =>
    obtain ⟨n,k⟩:=x
    have hr:=ih (acc:=acc) fun y hy=>h y (List.mem_cons_of_mem _ hy)
    cases e:(k == NameKind.free) with
    | false =>
      simp only [List.forIn_cons,clOf,e,Bool.false_eq_true,if_false]
      exact hr
    | true =>
      obtain ⟨c,hc⟩:=h (n,k) List.mem_cons_self (by simpa using e)
      have hr':=ih (acc:=(n,c) :: acc) fun y hy=>h y (List.mem_cons_of_mem _ hy)
      have hc':env.cells.lookup n=some c:=hc
      simp only [List.forIn_cons,clOf,e,if_true,cellOf,hc',Option.getD_some]
      exact hr'
theorem clOf_get {cells:List (Str × Addr)}:∀ (l:List (Str × NameKind)) (acc:List (Str × Addr)) {x:Str} {c:Addr},(∀ y∈l,y.2=.free→∃ c,cells.lookup y.1=some c)→(clOf cells l acc).lookup x=some c→acc.lookup x=some c∨cells.lookup x=some c
  | [],acc,x,c,_,h=>.inl h
  | (n,k) :: r,acc,x,c,hy,h=>by
    have hr:∀ y∈r,y.2=.free→∃ c,cells.lookup y.1=some c:=fun y m=>hy y (List.mem_cons_of_mem _ m)
    unfold clOf at h
    cases e:(k == NameKind.free) with
    | false =>
      rw [e] at h
      exact clOf_get r acc hr h
    | true =>
      rw [e] at h
      rcases clOf_get r _ hr h with q | q
      · rw [List.lookup_cons] at q
        obtain ⟨c',hc'⟩:=hy (n,k) List.mem_cons_self (by simpa using e)
        have hc'':cells.lookup n=some c':=hc'
        cases en:(x == n) with
        | true =>
          rw [en] at q
          have:x=n:=by simpa using en
          subst this
          rw [hc''] at q
          exact .inr (hc''.trans q)
        | false =>
          rw [en] at q
          exact .inl q
      · exact .inr q
theorem clOf_has {cells:List (Str × Addr)}:∀ (l:List (Str × NameKind)) (acc:List (Str × Addr)) {x:Str},((x,NameKind.free)∈l∨(acc.lookup x).isSome=true)→((clOf cells l acc).lookup x).isSome=true
  | [],acc,x,h=>by
    rcases h with h | h
    · cases h
    · exact h
  | (n,k) :: r,acc,x,h=>by
    unfold clOf
    cases e:(k == NameKind.free) with
    | false =>
      simp only [Bool.false_eq_true,if_false]
      refine clOf_has r acc ?_
      rcases h with h | h
      · rcases List.mem_cons.mp h with h | h
        · injection h with h1 h2
          subst h2
          simp at e
        · exact .inl h
      · exact .inr h
    | true =>
      simp only [if_true]
      refine clOf_has r _ ?_
      cases en:(x == n) with
      | true=>exact .inr (by rw [List.lookup_cons,en]; rfl)
      | false =>
        rcases h with h | h
        · rcases List.mem_cons.mp h with h | h
          · injection h with h1 h2
            subst h1
            simp at en
          · exact .inl h
        · exact .inr (by rw [List.lookup_cons,en]; exact h)
theorem mem_of_lookup {β:Type}:∀ {l:List (Str × β)} {x:Str} {b:β},l.lookup x=some b→(x,b)∈l
  | [],_,_,h=>by simp at h
  | (n,k) :: r,x,b,h=>by
    rw [List.lookup_cons] at h
    cases en:(x == n) with
    | true =>
      rw [en] at h
      have:x=n:=by simpa using en
      subst this
      have h':k=b:=Option.some.inj h
      subst h'
      exact List.mem_cons_self
    | false =>
      rw [en] at h
      exact List.mem_cons_of_mem _ (mem_of_lookup h)
theorem relabel_free {env:Env}:∀ {names:List (Str × NameKind)} {x:Str},names.lookup x=some .free →
    (names.map fun (n,k)=>if (k == NameKind.free && env.scope.kind == .function && env.kindOf n == some .cell) then (n,NameKind.cell) else (n,k)).lookup x=some .cell ∨
    (names.map fun (n,k)=>if (k == NameKind.free && env.scope.kind == .function && env.kindOf n == some .cell) then (n,NameKind.cell) else (n,k)).lookup x=some .free
  | [],_,h=>by simp at h
  | (n,k) :: r,x,h=>by
    have ih:=@relabel_free env r x
    cases hx:x == n with
    | true =>
      simp only [List.lookup_cons,hx] at h
      cases h
      by_cases hc:(NameKind.free == NameKind.free && env.scope.kind == .function && env.kindOf n == some .cell)=true
      · left
        show List.lookup x ((if (NameKind.free == NameKind.free && env.scope.kind == .function && env.kindOf n == some .cell)=true then (n,NameKind.cell) else (n,NameKind.free)) :: _)=_
        rw [if_pos hc]
        simp only [List.lookup_cons,hx]
      · right
        show List.lookup x ((if (NameKind.free == NameKind.free && env.scope.kind == .function && env.kindOf n == some .cell)=true then (n,NameKind.cell) else (n,NameKind.free)) :: _)=_
        rw [if_neg hc]
        simp only [List.lookup_cons,hx]
    | false =>
      simp only [List.lookup_cons,hx] at h
      have q:=ih h
      by_cases hc:(k == NameKind.free && env.scope.kind == .function && env.kindOf n == some .cell)=true
      · show List.lookup x ((if (k == NameKind.free && env.scope.kind == .function && env.kindOf n == some .cell)=true then (n,NameKind.cell) else (n,k)) :: _)=_∨List.lookup x ((if (k == NameKind.free && env.scope.kind == .function && env.kindOf n == some .cell)=true then (n,NameKind.cell) else (n,k)) :: _)=_
        rw [if_pos hc]; simp only [List.lookup_cons,hx]; exact q
      · show List.lookup x ((if (k == NameKind.free && env.scope.kind == .function && env.kindOf n == some .cell)=true then (n,NameKind.cell) else (n,k)) :: _)=_∨List.lookup x ((if (k == NameKind.free && env.scope.kind == .function && env.kindOf n == some .cell)=true then (n,NameKind.cell) else (n,k)) :: _)=_
        rw [if_neg hc]; simp only [List.lookup_cons,hx]; exact q
theorem relabel_back {env:Env}:∀ {names:List (Str × NameKind)} {x:Str} {k':NameKind},(∀ y∈names,y.2≠.cell) →
    (names.map fun (n,k)=>if (k == NameKind.free && env.scope.kind == .function && env.kindOf n == some .cell) then (n,NameKind.cell) else (n,k)).lookup x=some k'→(k'=.cell∨k'=.free)→(x,NameKind.free)∈names
  | [],_,_,_,h,_=>by simp at h
  | (n,k) :: r,x,k',hn,h,hk=>by
    have ih:=@relabel_back env r x k' (fun y hy=>hn y (List.mem_cons_of_mem _ hy))
    have hnk:k≠.cell:=hn (n,k) List.mem_cons_self
    replace h:List.lookup x ((if (k == NameKind.free && env.scope.kind == .function && env.kindOf n == some .cell)=true then (n,NameKind.cell) else (n,k)) :: (r.map fun (n,k)=>if (k == NameKind.free && env.scope.kind == .function && env.kindOf n == some .cell) then (n,NameKind.cell) else (n,k)))=some k':=h
    by_cases hc:(k == NameKind.free && env.scope.kind == .function && env.kindOf n == some .cell)=true
    · rw [if_pos hc] at h
      have hkf:k=.free:=by
        have:=(Bool.and_eq_true_iff.mp (Bool.and_eq_true_iff.mp hc).1).1
        simpa using this
      cases hx:x == n with
      | true =>
        have:x=n:=by simpa using hx
        subst this
        rw [hkf]
        exact List.mem_cons_self
      | false =>
        simp only [List.lookup_cons,hx] at h
        exact List.mem_cons_of_mem _ (ih h hk)
    · rw [if_neg hc] at h
      cases hx:x == n with
      | true =>
        have:x=n:=by simpa using hx
        subst this
        simp only [List.lookup_cons,hx] at h
        cases h
        rcases hk with z | z
        · exact absurd z hnk
        · rw [z]
          exact List.mem_cons_self
      | false =>
        simp only [List.lookup_cons,hx] at h
        exact List.mem_cons_of_mem _ (ih h hk)
def compCx (X:Cx) (scope:Scope) (C:Addr) (s0:Shared) (H0:Hp) (fp:List Addr) (Nc:List Str):Cx where
  prog:=X.prog
  w:=X.w
  K:=X.K
  mg:=X.mg
  base:=X.base
  A:=X.A
  N:=Nc
  s₀:=s0
  H₀:=H0
  env:=compEnvC scope (clOf X.env.cells scope.names []) C X.env
  outer:=X.stack
  stack:=X.stack
  ex:=fp
  fn:=fun _=>false
  calm:=true
  pn:=[]
  xe:=fun _ _=>False
def compOk (sc out:Scope):Bool :=
  (match sc.kind with | .function=>true | _=>false) && sc.names.all fun y=>match y.2 with
    | .cell=>false
    | .free=>(match out.names.lookup y.1 with | some .cell=>true | some .free=>true | _=>false)
    | .local=>(match sc.names.lookup y.1 with | some .local=>true | _=>false)
    | _=>true
def ixOk (sc:Scope) (N:List Str):List Str→List (Option Nat)→Bool
  | [],[]=>true
  | _ :: xs,none :: r=>ixOk sc N xs r
  | x :: xs,some i :: r=>(match N[i]? with | some y=>decide (y=x) | none=>false) && (match sc.names.lookup x with | some .free=>true | _=>false) && ixOk sc N xs r
  | _,_=>false
def cSt (σ:St):List (Option Nat)→St
  | [] => []
  | none :: r=>none :: cSt σ r
  | some i :: r=>(match σ[i]? with | some v=>v | none=>none) :: cSt σ r
theorem ixOk_len {sc:Scope} {N:List Str}:∀ {xs:List Str} {ix:List (Option Nat)},ixOk sc N xs ix=true→ix.length=xs.length
  | [],[],_=>rfl
  | [],_ :: _,h=>by cases h
  | _ :: _,[],h=>by cases h
  | _ :: xs,none :: r,h=>by
    have h':ixOk sc N xs r=true:=h
    simp [ixOk_len h']
  | x :: xs,some i :: r,h=>by
    have h':((match N[i]? with | some y=>decide (y=x) | none=>false) && (match sc.names.lookup x with | some .free=>true | _=>false) && ixOk sc N xs r)=true:=h
    simp [ixOk_len (Bool.and_eq_true_iff.mp h').2]
theorem cSt_len {σ:St}:∀ (ix:List (Option Nat)),(cSt σ ix).length=ix.length
  | []=>rfl
  | none :: r=>by simp [cSt,cSt_len r]
  | some i :: r=>by simp [cSt,cSt_len r]
theorem cSt_get {sc:Scope} {N:List Str} {σ:St}:∀ {xs:List Str} {ix:List (Option Nat)} {j:Nat} {x:Str} {v:V},ixOk sc N xs ix=true→xs[j]? = some x→(cSt σ ix)[j]? = some (some v) →
    ∃ i:Nat,N[i]? = some x∧σ[i]? = some (some v)∧sc.names.lookup x=some .free
  | [],_,j,x,v,_,h,_=>by simp at h
  | _ :: _,[],j,x,v,h,_,_=>by cases h
  | _ :: xs,none :: r,0,x,v,_,_,e=>by simp [cSt] at e
  | _ :: xs,none :: r,j + 1,x,v,h,h1,e=>by
    have h':ixOk sc N xs r=true:=h
    exact cSt_get (j:=j) h' (by simpa using h1) (by simpa [cSt] using e)
  | y :: xs,some i :: r,0,x,v,h,h1,e=>by
    have h':((match N[i]? with | some z=>decide (z=y) | none=>false) && (match sc.names.lookup y with | some .free=>true | _=>false) && ixOk sc N xs r)=true:=h
    have h1':y=x:=by simpa using h1
    subst h1'
    obtain ⟨h2,_⟩:=Bool.and_eq_true_iff.mp h'
    obtain ⟨h3,h4⟩:=Bool.and_eq_true_iff.mp h2
    refine ⟨i,?_,?_,?_⟩
    · cases q:N[i]? with
      | none=>rw [q] at h3; cases h3
      | some z=>rw [q] at h3; simp at h3; rw [h3]
    · cases q:σ[i]? with
      | none=>simp [cSt,q] at e
      | some z=>simp [cSt,q] at e; rw [e]
    · cases q:sc.names.lookup y with
      | none=>rw [q] at h4; cases h4
      | some k=>rw [q] at h4; cases k <;> first | rfl | cases h4
  | y :: xs,some i :: r,j + 1,x,v,h,h1,e=>by
    have h':((match N[i]? with | some z=>decide (z=y) | none=>false) && (match sc.names.lookup y with | some .free=>true | _=>false) && ixOk sc N xs r)=true:=h
    exact cSt_get (j:=j) (Bool.and_eq_true_iff.mp h').2 (by simpa using h1) (by simpa [cSt] using e)
def PIfs (X:Cx) (ifs:List Expr) (t:TT):Prop :=
  ∀ (pins:List (Addr × Obj)) (s:Shared) (σ:St) (H:Hp) (Q:Bool→Hp→Prop),Inv X pins σ H s→t σ H Q →
    wpAny (model X.prog X.w) X.A (forIn ifs true fun c r=>if r=true then do let ok ← isTrue c X.env (eval c X.env); pure (ForInStep.yield ok) else pure (ForInStep.yield r)) (TP X pins σ Q) X.xe s
def tYes:TT:=fun _ H Q=>Q true H
theorem pifs_nil {X:Cx}:PIfs X [] tYes:=fun _ _ _ H _ I h=>wpAny_tests_nil ⟨H,I,h⟩
theorem pifs_one {X:Cx} {c:Expr} {t:TT} (h:PT X c t):PIfs X [c] t:=fun pins s σ H Q I q=>wpAny_tests_one (h pins s σ H Q I q)
def Agree (σ σ':St):Prop:=σ'.length=σ.length∧∀ (j:Nat) v,σ[j]? = some (some v)→σ'[j]? = some (some v)
theorem Agree.one (o o':Option V) (σ:St) (h:o=none):Agree (o :: σ) (o' :: σ):=⟨rfl,fun j v e=>by
  cases j with
  | zero=>subst h; simp at e
  | succ j=>simpa using e⟩
def CompW (J:It) (D:Addr) (g:TG) (tt:TT) (te:TE) (σ0:St) (H0:Hp) (Q:VK):Prop :=
  ∃ W:Nat→Nat→List V→Hp→Prop,(∃ m,W 0 m [] H0)∧∀ i m ys H2,W i m ys H2→H2 D=some (.lst ys) ∧
    ((J.stop i H2∧Q (.ref D) H2)∨(J.go i H2∧ys.length < sizeLine∧∃ (N:V→Hp→Prop) (N':Hp→Prop),
      (∀ y H6,N y H6→H6 D=some (.lst ys)∧∃ m',m' < m∧W (i + 1) m' (ys ++ [y]) (upd H6 D (.lst (ys ++ [y]))))∧(∀ H5,N' H5→∃ m',m' < m∧W (i + 1) m' ys H5) ∧
      ∀ x H3,J.yld i H2 x H3→g x σ0 H3 fun σ4 H4=>Agree σ0 σ4∧tt σ4 H4 fun b H5=>if b=true then te σ4 H5 N else N' H5))
def tComp (ix:List (Option Nat)) (wi:TI) (g:TG) (tt:TT) (te:TE):TE:=fun σ H Q=>wi σ H fun J H1 => ∀ D,H1 D=none→CompW J D g tt te (cSt σ ix) (upd H1 D (.lst [])) Q
section
variable {X:Cx} {tg iter elt:Expr} {ifs:List Expr} {scope:Scope} {pos:Pos} {pins:List (Addr × Obj)} {σ:St} {H:Hp} {s:Shared}
theorem compOk_kind (ok:compOk scope X.env.scope=true):scope.kind=.function:=by
  have h:=(Bool.and_eq_true_iff.mp ok).1
  cases e:scope.kind <;> rw [e] at h <;> first | rfl | cases h
theorem compOk_all (ok:compOk scope X.env.scope=true):∀ y∈scope.names,(match y.2 with
    | .cell=>false
    | .free=>(match X.env.scope.names.lookup y.1 with | some .cell=>true | some .free=>true | _=>false)
    | .local=>(match scope.names.lookup y.1 with | some .local=>true | _=>false)
    | _=>true)=true:=List.all_eq_true.mp (Bool.and_eq_true_iff.mp ok).2
theorem compOk_cell (ok:compOk scope X.env.scope=true):∀ y∈scope.names,y.2≠.cell:=fun y hy e=>by
  have h:=compOk_all ok y hy
  rw [e] at h
  cases h
theorem compOk_local (ok:compOk scope X.env.scope=true):∀ y∈scope.names,y.2=.local→scope.names.lookup y.1=some .local:=fun y hy e=>by
  have h:=compOk_all ok y hy
  rw [e] at h
  dsimp only at h
  cases q:scope.names.lookup y.1 with
  | none=>rw [q] at h; cases h
  | some k=>rw [q] at h; cases k <;> first | rfl | cases h
theorem compOk_free (ok:compOk scope X.env.scope=true):∀ y∈scope.names,y.2=.free→X.env.kindOf y.1=some .cell∨X.env.kindOf y.1=some .free:=fun y hy e=>by
  have h:=compOk_all ok y hy
  rw [e] at h
  dsimp only at h
  show X.env.scope.names.lookup y.1=_∨X.env.scope.names.lookup y.1=_
  cases q:X.env.scope.names.lookup y.1 with
  | none=>rw [q] at h; cases h
  | some k=>rw [q] at h; cases k <;> first | exact .inl rfl | exact .inr rfl | cases h
theorem comp_cells (I:Inv X pins σ H s) (ok:compOk scope X.env.scope=true):∀ y∈scope.names,y.2=.free→∃ c,X.env.cells.lookup y.1=some c:=fun y hy e=>I.ok.has y.1 (compOk_free ok y hy e)
theorem comp_cl (I:Inv X pins σ H s) (ok:compOk scope X.env.scope=true) {x:Str} {c:Addr} (h:(clOf X.env.cells scope.names []).lookup x=some c):X.env.cells.lookup x=some c:=by
  rcases clOf_get _ _ (comp_cells I ok) h with q | q
  · simp at q
  · exact q
theorem comp_inv {C:Addr} {fp:List Addr} {Nc:List Str} {ix:List (Option Nat)} {h1:Heap} {tk:Nat} {m:Str→Option Value} (I:Inv X pins σ H s) (hc:X.calm=true) (ok:compOk scope X.env.scope=true) (hix:ixOk scope X.N Nc ix=true)
    (hfp:∀ b∈fp,FpOk X pins H b∧b < s.heap.objs.size) (hC:C=s.heap.objs.size) (hns:h1.Ns C m) (hk:∀ b o,s.heap.get? b=some o→h1.get? b=some o) :
    Inv (compCx X scope C s H fp Nc) [] (cSt σ ix) H { s with heap:=h1,toks:=tk }:=by
  have lt:∀ b o,s.heap.get? b=some o→b≠C:=fun b o e=>by rw [hC]; exact Nat.ne_of_lt (Heap.lt_size e)
  have nfs:∀ b∈fp,b ∉ frs X.stack:=fun b hb z=>by
    obtain ⟨f1,f2,f3,_⟩:=(hfp b hb).1
    rcases List.mem_cons.mp (I.stkSub b z) with q | q
    · exact f2 q
    · exact f3 q
  refine ⟨⟨I.ok.mod,(compOk_kind (X:=X) (scope:=scope) ok),I.ok.glob,I.ok.blt,Nat.le_of_eq hC.symm,fun x y c e1 e2=>I.ok.inj x y c (comp_cl I ok e1) (comp_cl I ok e2),fun x hx=>?_,(fun _ _ z=>nomatch z),fun _=>I.ok.hd hc,I.ok.frames,.inl rfl,fun b hb=>⟨?_,fun x c e=>?_⟩,I.bs,Nat.le_trans I.ok.bsz I.sz,fun b o e hb=>?_,nfs,I.stack,I.stkFree⟩,
    rfl,I.bare,Un.kept hk,⟨m,hns,fun i x v e1 e2 e3=>?_⟩,fun x c e=>?_,?_,fun x c e=>I.freeC x c (comp_cl I ok e),(fun p hp=>by cases hp),I.hok.kept hk,?_⟩
  · -- has
    have hmem:(x,NameKind.free)∈scope.names:=by
      rcases hx with hx | hx
      · exact relabel_back (env:=X.env) (compOk_cell ok) hx (.inl rfl)
      · exact relabel_back (env:=X.env) (compOk_cell ok) hx (.inr rfl)
    have q:=clOf_has (cells:=X.env.cells) scope.names [] (x:=x) (.inl hmem)
    exact Option.isSome_iff_exists.mp q
  · rw [show (compCx X scope C s H fp Nc).env.locals=C from rfl,hC]
    exact Nat.ne_of_lt (hfp b hb).2
  · exact (hfp b hb).1.2.2.2.2.1 x c (comp_cl I ok e)
  · obtain ⟨_,_,_,f4,_⟩:=(hfp b hb).1
    rcases f4 with z | z
    · exact I.ok.noex b o e z
    · exact absurd (Nat.lt_of_lt_of_le (Heap.lt_size e) (Nat.le_trans I.ok.bsz z)) (Nat.lt_irrefl _)
  · obtain ⟨j,n1,n2,n3⟩:=cSt_get hix e1 e2
    have hmem:(x,NameKind.free)∈scope.names:=mem_of_lookup n3
    have hkind:=compOk_free ok (x,.free) hmem rfl
    obtain ⟨mX,_,hl⟩:=I.loc
    have hvis:Vis X.env.scope x:=.inr hkind
    obtain ⟨u,r,l⟩:=hl j x v n1 n2 hvis
    refine ⟨u,r,?_⟩
    rcases l with ⟨k1,_⟩ | ⟨_,c,e,z⟩
    · rcases hkind with q | q
      · rw [q] at k1; cases k1
      · rw [q] at k1; cases k1
    · refine .inr ⟨relabel_free n3,c,?_,?_⟩
      · have q:=clOf_has (cells:=X.env.cells) scope.names [] (x:=x) (.inl hmem)
        obtain ⟨c',hc'⟩:=Option.isSome_iff_exists.mp q
        have:=comp_cl I ok hc'
        rw [e] at this
        cases this
        exact hc'
      · obtain ⟨o,ho,hd⟩:=z
        exact ⟨o,hk c o ho,hd⟩
  · obtain ⟨v,o,ho,hd⟩:=I.cell x c (comp_cl I ok e)
    exact ⟨v,o,hk c o ho,hd⟩
  · rw [show (compCx X scope C s H fp Nc).env.locals=C from rfl,hC]
    exact I.hok.fresh (Nat.le_refl _)
  · rw [cSt_len,ixOk_len hix]
    rfl
theorem comp_run {g:TG} {tt:TT} {te:TE} {Nc:List Str} {ix:List (Option Nat)} {it:Addr} {fp:List Addr} {tn:Nat→Heap→Prop} {J:It} {Q:VK} {E:Value→Shared→Prop} {RR:Value→Addr→Result→Shared→Prop}
    (I:Inv X pins σ H s) (hc:X.calm=true) (ok:compOk scope X.env.scope=true) (hix:ixOk scope X.N Nc ix=true)
    (hg:∀ C s0 H0 fp,PG (compCx X scope C s0 H0 fp Nc) tg g) (ht:∀ C s0 H0 fp,PIfs (compCx X scope C s0 H0 fp Nc) ifs tt) (he:∀ C s0 H0 fp,PE (compCx X scope C s0 H0 fp Nc) elt te)
    (T:Turn X.prog X.w X.K tg J fp it tn) (t0:tn 0 s.heap) (f0:∀ b∈fp,FpOk X pins H b)
    (h:∀ D,H D=none→CompW J D g tt te (cSt σ ix) (upd H D (.lst [])) Q)
    (hRR:∀ D C s' H' m,Inv X pins σ H' s'→s'.heap.Ns C m→H' C=none→X.s₀.heap.objs.size≤C→C≠X.env.locals→(∀ x c,X.env.cells.lookup x=some c→c≠C)→(∀ p∈X.pn ++ pins,p.1≠C)→Q (.ref D) H'→RR (.ref D) C (.ok .next) s') :
    wpAny (model X.prog X.w) X.A (newList []) (fun acc s3=>wpAny (model X.prog X.w) X.A (newFunctionEnv scope X.env.globals (clOf X.env.cells scope.names []) [] X.env.qual none .none (some X.env)) (fun cenv s4 =>
      codeAny (model X.prog X.w) X.A (.compStart (.ListComp elt [⟨tg,iter,ifs,0⟩] scope pos) 0 (.ref it) acc { cenv with scope:=relabel scope X.env }) (RR acc cenv.locals) s4) E s3) E s:=by
  have hD:H s.heap.objs.size=none:=I.fresh
  obtain ⟨W,⟨m0,w0⟩,turn⟩:=h _ hD
  refine wpAny_newList ?_
  have I0:=I.lnew (its:=[]) (ys:=[]) (t':=s.toks) .nil (Nat.zero_le _)
  have hold:∀ b o,s.heap.get? b=some o→(s.heap.push { cls:=.type "list",data:=.seq ([]:List Value).toArray }).get? b=some o:=fun b o e=>Heap.get?_push_of_some _ e
  have f0':∀ b∈fp,FpOk X pins (upd H s.heap.objs.size (.lst [])) b∧b < (s.heap.push { cls:=.type "list",data:=.seq ([]:List Value).toArray }).objs.size:=fun b hb=>by
    obtain ⟨o,ho,_⟩:=T.obj _ _ t0 b hb
    have hlt:=Heap.lt_size ho
    refine ⟨⟨?_,(f0 b hb).2⟩,Heap.lt_size (hold b o ho)⟩
    rw [upd_ne (Nat.ne_of_lt hlt)]
    exact (f0 b hb).1
  have t0':tn 0 (s.heap.push { cls:=.type "list",data:=.seq ([]:List Value).toArray }):=T.keep _ _ _ t0 fun b hb o e=>hold b o e
  clear f0 t0 I
  generalize hs0:({ s with heap:=s.heap.push { cls:=.type "list",data:=.seq ([]:List Value).toArray },toks:=s.toks }:Shared)=s0 at I0
  have es0:s0.heap=s.heap.push { cls:=.type "list",data:=.seq ([]:List Value).toArray }:=by rw [← hs0]
  rw [← es0] at f0' t0'
  generalize s.heap.objs.size=D at *
  generalize upd H D (.lst [])=H0 at *
  refine wpAny_newFunctionEnv (compOk_cell ok) (by intro y hy; simp at hy) (fun h1 hns1 hsb1=>?_) (compOk_kind ok)
  generalize hCe:s0.heap.objs.size=C at hns1 hsb1
  have hk1:∀ b o,s0.heap.get? b=some o→h1.get? b=some o:=fun b o e=>hsb1.extBut b o (by rw [← hCe]; exact Nat.ne_of_lt (Heap.lt_size e)) (Heap.get?_push_of_some _ e)
  have IC:=comp_inv (C:=C) (fp:=fp) (Nc:=Nc) (ix:=ix) (h1:=h1) (tk:=s0.toks + ([]:List (Str × Value)).length) I0 hc ok hix f0' hCe.symm hns1 hk1
  have t1:tn 0 h1:=T.keep _ _ _ t0' fun b hb o e=>hk1 b o e
  have fpx:∀ {H':Hp} {pl:List (Addr × Obj)},(∀ p∈pl,p.1 ∉ fp)→(∀ b∈fp,H' b=none)→∀ b∈fp,FpOk (compCx X scope C s0 H0 fp Nc) pl H' b:=fun {H' pl} hpl hn b hb =>
    ⟨hn b hb,(IC.ok.exf b hb).1,IC.ok.exfs b hb,.inl hb,(IC.ok.exf b hb).2,fun p hp e=>hpl p (by simpa [compCx] using hp) (e ▸ hb)⟩
  have loop:∀ s1:Shared,s1={ s0 with heap:=h1,toks:=s0.toks + ([]:List (Str × Value)).length } →
      codeAny (model X.prog X.w) X.A (.compLoop (.ListComp elt [⟨tg,iter,ifs,0⟩] scope pos) 0 (.ref it) (.ref D) (compCx X scope C s0 H0 fp Nc).env) (RR (.ref D) C) s1:=by
    rintro s1 rfl
    refine compLoop_any (fun n s' => ∃ i ys H',Inv (compCx X scope C s0 H0 fp Nc) [] (cSt σ ix) H' s'∧tn i s'.heap∧(∀ b∈fp,H' b=none)∧W i n ys H') ?_ m0 ⟨0,[],_,IC,t1,fun b hb=>(f0' b hb).1.1,w0⟩
    rintro n s3 ⟨i,ys,H3,I3,st3,fr3,w3⟩
    obtain ⟨hD3,alt⟩:=turn i n ys H3 w3
    rcases alt with ⟨stop,qn⟩ | ⟨go,hlen,N,N',hN,hN',step⟩
    · refine thn (T.done (compCx X scope C s0 H0 fp Nc) rfl rfl rfl rfl i [] s3 _ H3 (fun _ _=>False) I3 (fpx (fun p hp=>by cases hp) fr3) st3 stop) fun r s4 ⟨hr,I4⟩=>?_
      subst hr
      have J4:Inv X pins σ H3 s4:=I0.call' (s':=s4) (ch:=fp) I4.os I4.base I4.hok I4.bare fun b hb=>⟨(f0' b hb).1.2.2.2.1,(f0' b hb).1.2.1,(f0' b hb).1.2.2.2.2.1,(f0' b hb).1.2.2.2.2.2⟩
      obtain ⟨m4,hn4,_⟩:=I4.loc
      exact hRR D C s4 H3 m4 J4 hn4 I4.free (by rw [← hCe]; exact I0.sz) (by rw [← hCe]; exact (Nat.ne_of_lt I0.lt).symm)
        (fun x c e z=>by
          obtain ⟨_,o,ho,_⟩:=I0.cell x c e
          have:=Heap.lt_size ho
          rw [z,← hCe] at this
          exact Nat.lt_irrefl _ this)
        (fun p hp z=>by
          have:=Heap.lt_size (I0.pin p hp).1
          rw [z,← hCe] at this
          exact Nat.lt_irrefl _ this) qn
    · refine thn (T.item (compCx X scope C s0 H0 fp Nc) rfl rfl rfl rfl i [] s3 _ H3 (fun _ _=>False) I3 (fpx (fun p hp=>by cases hp) fr3) st3 go) fun r s4 ⟨u,hr,h4⟩=>?_
      subst hr
      refine thn h4 fun _ s5 ⟨x,H5,I5,r5,y5,st5,fr5⟩=>?_
      have I5':=I5.pinned (fpx (fun p hp=>by cases hp) fr5) (T.obj _ _ st5)
      refine thn (hg C s0 H0 fp _ s5 _ H5 x u _ I5' r5 (step x H5 y5)) fun _ s6 ⟨σ6,H6,I6,hag,q6⟩=>?_
      refine thn (ht C s0 H0 fp _ s6 σ6 H6 _ I6 q6) fun ok7 s7 ⟨H7,I7,q7⟩=>?_
      have again:∀ {H8:Hp} {s8:Shared} {zs:List V} {m':Nat},Inv (compCx X scope C s0 H0 fp Nc) ([] ++ pinsAt fp s5.heap) σ6 H8 s8→m' < n→W (i + 1) m' zs H8 →
          ∃ m,m < n∧∃ i ys H',Inv (compCx X scope C s0 H0 fp Nc) [] (cSt σ ix) H' s8∧tn i s8.heap∧(∀ b∈fp,H' b=none)∧W i m ys H':=fun {H8 s8 zs m'} I8 hm w8=>by
        refine ⟨m',hm,i + 1,zs,H8,I8.unpinned.weak hag.1.symm hag.2,T.keep _ _ _ st5 fun b hb o e=>(I8.pin (b,o) (List.mem_append_right _ (List.mem_append_right _ (mem_pinsAt hb e)))).1,fun b hb=>?_,w8⟩
        obtain ⟨o,e,d⟩:=T.obj _ _ st5 b hb
        exact (I8.pin (b,o) (List.mem_append_right _ (List.mem_append_right _ (mem_pinsAt hb e)))).2.1
      cases ok7 with
      | false =>
        rw [if_neg Bool.false_ne_true] at q7 ⊢
        obtain ⟨m',hm,w7⟩:=hN' _ q7
        exact again I7 hm w7
      | true =>
        rw [if_pos rfl] at q7 ⊢
        refine thn (he C s0 H0 fp _ s7 σ6 H7 _ I7 q7) fun y s8 ⟨yv,H8,I8,r8,q8⟩=>?_
        obtain ⟨hD8,m',hm,w8⟩:=hN _ _ q8
        refine thn (mt_append (X:=compCx X scope C s0 H0 fp Nc) _ s8 σ6 H8 (.ref D) [yv] (.ref D) [y] (fun v H9=>v=.non∧H9=upd H8 D (.lst (ys ++ [yv]))) I8 rfl (.cons r8 .nil) ⟨D,ys,yv,rfl,rfl,hD8,hlen,rfl,rfl⟩) fun _ s9 ⟨v9,H9,I9,_,_,e9⟩=>?_
        subst e9
        exact again I9 hm w8
  exact codeAny_compStart_list (loop _ rfl) (T.self X.A 0 _ _ _ t1 (loop _ rfl))
theorem pe_comp {wi:TI} {g:TG} {tt:TT} {te:TE} (Nc:List Str) (ix:List (Option Nat)) (hc:X.calm=true) (ok:compOk scope X.env.scope=true) (hix:ixOk scope X.N Nc ix=true)
    (hi:PI X tg iter wi) (hg:∀ C s0 H0 fp,PG (compCx X scope C s0 H0 fp Nc) tg g) (ht:∀ C s0 H0 fp,PIfs (compCx X scope C s0 H0 fp Nc) ifs tt) (he:∀ C s0 H0 fp,PE (compCx X scope C s0 H0 fp Nc) elt te)
    (hs:∀ x,foldedSetIterable iter X.env x=pure x:=by intro _; rfl):PE X (.ListComp elt [⟨tg,iter,ifs,0⟩] scope pos) (tComp ix wi g tt te):=by
  intro pins s σ H Q I h
  rw [eval_ListComp]
  refine wpAny_comprehension_free (use:=none) rfl hs (closureFor_clOf (comp_cells I ok)) (compOk_kind ok) (compOk_local ok) (thn (hi pins s σ H _ I h) fun xv s1 h1=>thn h1 fun itv s2 h2=>?_)
  obtain ⟨it,fp,tn,J,H2,rfl,I2,T,st2,f2,q2⟩:=h2
  exact comp_run (RR:=fun acc C=>compPost (model X.prog X.w) X.A X.xe none (EP X pins σ Q) acc C) I2 hc ok hix hg ht he T st2 f2 q2
    (fun D C s' H' m J' hn hC h1 h2 h3 h4 q=>⟨m,hn,fun h' hs'=>⟨.ref D,H',J'.turned (t':=s'.toks) (fun b o nb e=>hs'.extBut b o nb e) hC h2 (.inr h1) h3 h4,rfl,q⟩⟩)
theorem ps_setC {wi:TI} {g:TG} {tt:TT} {te:TE} {i:Nat} {y:Str} {py spos:Pos} (hN:X.N.Nodup) (hy:X.N[i]? = some y) (hx:Loc X.env.scope y) (Nc:List Str) (ix:List (Option Nat)) (hc:X.calm=true) (ok:compOk scope X.env.scope=true) (hix:ixOk scope X.N Nc ix=true)
    (hi:PI X tg iter wi) (hg:∀ C s0 H0 fp,PG (compCx X scope C s0 H0 fp Nc) tg g) (ht:∀ C s0 H0 fp,PIfs (compCx X scope C s0 H0 fp Nc) ifs tt) (he:∀ C s0 H0 fp,PE (compCx X scope C s0 H0 fp Nc) elt te)
    (hs:∀ x,foldedSetIterable iter X.env x=pure x:=by intro _; rfl)
    (hsw:swapsWith (.ListComp elt [⟨tg,iter,ifs,0⟩] scope pos) (some (.Name y py)) spos.line X.env=pure true:=by rfl) (hf:X.fn y=true∨X.env.scope.names.lookup y=some .local:=by first | exact .inl rfl | exact .inr rfl | assumption) :
    PS X (.Assign [.Name y py] (.ListComp elt [⟨tg,iter,ifs,0⟩] scope pos) spos) (tAsg (tComp ix wi g tt te) (gName i)):=by
  intro pins s σ H Dn I h
  rw [exec_Assign_Name_used _ _ _ _ hsw]
  refine wpAny_bind (wpAny_standAt (wpAny_bind ?_))
  show wpAny _ X.A (do let _ ← comprehension (.ListComp elt [⟨tg,iter,ifs,0⟩] scope pos) scope X.env _ (newList []) false (eval iter X.env) (some (assign (.Name y py) X.env))) _ _ s
  refine wpAny_bind (wpAny_mono (wpAny_comprehension_free (use:=some (assign (.Name y py) X.env)) (Q:=fun _ s'=>SP X pins Dn .next s') rfl hs (closureFor_clOf (comp_cells I ok)) (compOk_kind ok) (compOk_local ok)
    (thn (hi pins s σ H _ I h) fun xv s1 h1=>thn h1 fun itv s2 h2=>?_)) (fun _ s' hq=>wpAny_pure (wpAny_pure hq)) fun _ _ e=>e)
  obtain ⟨it,fp,tn,J,H2,rfl,I2,T,st2,f2,q2⟩:=h2
  refine comp_run (RR:=fun acc C=>compPost (model X.prog X.w) X.A X.xe (some (assign (.Name y py) X.env)) (fun _ s'=>SP X pins Dn .next s') acc C) I2 hc ok hix hg ht he T st2 f2 q2
    (fun D C s' H' m J' hn hC h1 h2 h3 h4 q=>?_)
  show wpAny _ X.A (assign (.Name y py) X.env (.ref D)) _ _ _
  refine wpAny_assign_Name (store_ok2 J' hN hy hx (v:=.ref D) rfl (fun s'' J'' ⟨a,hsb,ha⟩=>⟨m,hn.sameBut hsb ?_,fun h' hs'=>⟨_,H',J''.turned (t':=s''.toks) (fun b o nb e=>hs'.extBut b o nb e) hC h2 (.inr h1) h3 h4,q⟩⟩) hf)
  rcases ha with ha | ha
  · rw [ha]
    exact h2
  · exact (h3 _ _ ha).symm
end
def Keep (D:Addr) (H H':Hp):Prop:=∀ b o,b≠D→H b=some o→H' b=some o
theorem Same.keep {H H':Hp} (h:Same H H') (D:Addr):Keep D H H':=fun b o _ e=>h b o e
theorem Keep.upd {H:Hp} {D:Addr} {o:HO}:Keep D H (upd H D o):=fun b u n e=>by rw [upd_ne n]; exact e
theorem Same.upd {H:Hp} {D:Addr} {o:HO} (h:H D=none):Same H (upd H D o):=fun b u e=>by rw [upd_ne (ne_of_none e h)]; exact e
theorem Same.updT {H H':Hp} {D:Addr} {o:HO} (s:Same H H') (h:H D=none):Same H (L2.upd H' D o):=fun b u e=>by rw [upd_ne (ne_of_none e h)]; exact s b u e
theorem comp1 {J:It} {D:Addr} {te:TE} {σf:St} {H1:Hp} {Q:VK} (n:Nat) (xv:Nat→V) (R:Nat→V→Hp→Prop) (hn:n < sizeLine) (hD1:H1 D=none)
    (hgo:∀ i H,i < n→Same H1 H→J.go i H) (hst:∀ H,Same H1 H→J.stop n H) (hy:∀ i H x H',i < n→Same H1 H→J.yld i H x H'→x=xv i∧H'=H)
    (mono:∀ i y H H',Keep D H H'→R i y H→R i y H')
    (hs:∀ i H ys (N:VK),i < n→Same H1 H→H D=some (.lst ys)→(∀ y H',Same H H'→R i y H'→N y H')→te (some (xv i) :: σf) H N)
    (hd:∀ ys H,Same H1 H→H D=some (.lst ys)→ys.length=n→(∀ (i:Nat) y,ys[i]? = some y→R i y H)→Q (.ref D) H):CompW J D (gName 0) tYes te (none :: σf) (upd H1 D (.lst [])) Q:=by
  refine ⟨fun i m ys H=>i≤n∧m=n - i∧Same H1 H∧H D=some (.lst ys)∧ys.length=i∧∀ j y,ys[j]? = some y→R j y H,⟨n,Nat.zero_le _,rfl,Same.upd hD1,upd_same,rfl,fun j y e=>by simp at e⟩,?_⟩
  rintro i m ys H ⟨hi,rfl,s1,d1,l1,r1⟩
  refine ⟨d1,?_⟩
  by_cases hlt:i < n
  · refine .inr ⟨hgo i H hlt s1,by rw [l1]; exact Nat.lt_trans hlt hn,fun y H'=>Same H H'∧R i y H',fun _=>False,fun y H6 q=>?_,fun _ z=>z.elim,fun x H' y=>?_⟩
    · obtain ⟨s6,r6⟩:=q
      refine ⟨s6 _ _ d1,n - (i + 1),by omega,hlt,rfl,(s1.trans s6).updT hD1,upd_same,by simp [l1],fun j z e=>?_⟩
      by_cases hj:j < ys.length
      · rw [List.getElem?_append_left hj] at e
        exact mono _ _ _ _ Keep.upd (mono _ _ _ _ (s6.keep D) (r1 j z e))
      · have hj':j=ys.length:=by
          have:=(List.getElem?_eq_some_iff.mp e).1
          simp at this
          omega
        subst hj'
        simp at e
        subst e
        rw [l1]
        exact mono _ _ _ _ Keep.upd r6
    · obtain ⟨rfl,rfl⟩:=hy i H x H' hlt s1 y
      refine ⟨Agree.one _ _ _ rfl,?_⟩
      show if true=true then te (some (xv i) :: σf) H' (fun y H''=>Same H' H''∧R i y H'') else False
      rw [if_pos rfl]
      exact hs i H' ys _ hlt s1 d1 fun y H6 a b=>⟨a,b⟩
  · obtain rfl:i=n:=Nat.le_antisymm hi (Nat.not_lt.mp hlt)
    exact .inl ⟨hst H s1,hd ys H s1 d1 l1 r1⟩
theorem comp_list {K:PySem.W.Frag} {a D:Addr} {xs:List V} {te:TE} {σf:St} {H1:Hp} {Q:VK} (R:Nat→V→Hp→Prop) (hS:SqL K H1 a xs) (hz:xs.length < sizeLine) (hD1:H1 D=none)
    (mono:∀ i y H H',Keep D H H'→R i y H→R i y H')
    (hs:∀ i x H ys (N:VK),xs[i]? = some x→Same H1 H→H D=some (.lst ys)→(∀ y H',Same H H'→R i y H'→N y H')→te (some x :: σf) H N)
    (hd:∀ ys H,Same H1 H→H D=some (.lst ys)→ys.length=xs.length→(∀ (i:Nat) y,ys[i]? = some y→R i y H)→Q (.ref D) H):CompW (Itl K a) D (gName 0) tYes te (none :: σf) (upd H1 D (.lst [])) Q:=by
  refine comp1 xs.length (fun i=>(xs[i]?).getD .non) R hz hD1 (fun i H hi s=>⟨xs,xs[i],s.seq hS,by simp [hi]⟩) (fun H s=>⟨xs,s.seq hS,Nat.le_refl _⟩) (fun i H x H' hi s y=>?_) mono (fun i H ys N hi s d hN=>?_) hd
  · obtain ⟨rfl,y⟩:=y
    have:=y xs (s.seq hS)
    exact ⟨by simp [this],rfl⟩
  · have e:xs[i]? = some xs[i]:=by simp [hi]
    have q:=hs i xs[i] H ys N e s d hN
    rw [e]
    exact q
theorem comp_range {lo:Int} {n:Nat} {D:Addr} {te:TE} {σf:St} {H1:Hp} {Q:VK} (R:Nat→V→Hp→Prop) (hz:n < sizeLine) (hD1:H1 D=none)
    (mono:∀ i y H H',Keep D H H'→R i y H→R i y H')
    (hs:∀ (i:Nat) H ys (N:VK),i < n→Same H1 H→H D=some (.lst ys)→(∀ y H',Same H H'→R i y H'→N y H')→te (some (.int (lo + i)) :: σf) H N)
    (hd:∀ ys H,Same H1 H→H D=some (.lst ys)→ys.length=n→(∀ (i:Nat) y,ys[i]? = some y→R i y H)→Q (.ref D) H):CompW (Itr lo n) D (gName 0) tYes te (none :: σf) (upd H1 D (.lst [])) Q :=
  comp1 n (fun i=>.int (lo + i)) R hz hD1 (fun i H hi _=>hi) (fun H _=>Nat.le_refl _) (fun i H x H' hi s y=>⟨y.2,y.1⟩) mono hs hd
end L2
namespace L2
open PySem PySem.Spec PyProof.Rows
def CBig (i j:Int):Prop:=(-(10 ^ 200) < i∧i < 10 ^ 200)∧(-(10 ^ 200) < j∧j < 10 ^ 200)
def CDivB (i j:Int):Prop:=0 < j∧j < 10 ^ 200
theorem big_pow:(10:Nat) ^ 200≤2 ^ 700:=by decide +kernel
theorem big_abs {i:Int} (h:-(10 ^ 200) < i∧i < 10 ^ 200):i.natAbs < 2 ^ 700:=by
  have h1:i.natAbs < 10 ^ 200:=by
    have e:((10 ^ 200:Nat):Int)=(10:Int) ^ 200:=by simp
    have:(i.natAbs:Int) < ((10 ^ 200:Nat):Int):=by rw [e]; omega
    exact Int.ofNat_lt.mp this
  exact Nat.lt_of_lt_of_le h1 big_pow
theorem CBig.ok {i j:Int} (h:CBig i j):IntMulOk i j:=IntMulOk.of_le (m:=700) (n:=700) (intBits_le_iff.mpr (big_abs h.1)) (intBits_le_iff.mpr (big_abs h.2)) (by decide)
section
variable {X:Cx}
theorem op_mulW:OpR X (binaryOp .Mult) (rI CBig fun i j=>.int (i * j)):=opI fun _ _ _ _ _ _ _ hc q=>mul_int q hc.ok
theorem op_fdivW:OpR X (binaryOp .FloorDiv) (rI CDivB fun i j=>.int (i / j)):=opI fun i j _ _ _ _ _ hc q=>by
  have h1:(0:Int) < j:=hc.1
  have h2:j.natAbs < 2 ^ 700:=big_abs ⟨by have:=hc.2; omega,hc.2⟩
  refine floordiv_int (by omega) (by rw [Int.fdiv_eq_ediv_of_nonneg i (by omega)]; exact q) (.inl (PyProof.noPylong_of_log2 ?_))
  have h3:j.natAbs.log2 < 700:=(Nat.log2_lt (by omega)).mpr h2
  omega
end
structure Src (K:PySem.W.Frag) (mg:Str→Option Value) (x qual:Str) (st:Stmt):Prop where
  ex:∃ f fd,Fun K x qual st f fd∧mg x=some (.ref f)
theorem src_mk {K:PySem.W.Frag} {h:Heap} {mg:Str→Option Value} {x qual:Str} {st:Stmt} {f:Addr} {oc:Value} {od an:Option Addr} {osl:Array (Option Value)} {kV doc pm cdv ct:Value} (X:K.In h) (G:h.Ns mainGlobals mg)
    (a:PySem.W.nsIn K mainGlobals x=some (some (.ref f))) (l:K.lookup f=some ⟨oc,od,.func (PySem.W.fnOf x qual (defArgs st) (defBody st) (defScope st) .none kV doc pm an cdv ct),osl⟩)
    (c:PySem.W.codeIn K cdv qual=true) (k:PySem.W.keepIn K (.ref f)=true):Src K mg x qual st:=⟨f,_,fun_mk l c k,PySem.W.mg_of X G a⟩
structure Def (P:Program) (w:World) (K:PySem.W.Frag) (mg:Str→Option Value) (base:Heap) (k:Nat) (x:Str) (ps:List Str) (sp:Sp):Prop where
  ex:∃ f fd,mg x=some (.ref f)∧PySem.W.keepIn K (.ref f)=true∧Binds K fd ps []∧FnOk P w K mg base CX0 k f fd ps sp∧∃ oc od osl,K.lookup f=some ⟨oc,od,.func fd,osl⟩
section
variable {P:Program} {w:World} {K:PySem.W.Frag} {mg:Str→Option Value} {base:Heap}
theorem Src.mk' {x qual:Str} {st:Stmt} {N ps:List Str} {k:Nat} {sp:Sp} (S:Src K mg x qual st) (Sc:FnScope N ps (defScope st)) (len:∀ vs H Q E,sp vs H Q E→vs.length=ps.length)
    (hb:∀ (kV doc pm:Value) (an:Option Addr) (cdv ct:Value) (us:List Value),us.length=ps.length→bindArgs (PySem.W.fnOf x qual (defArgs st) (defBody st) (defScope st) .none kV doc pm an cdv ct) ⟨us,[]⟩=pure (ps.zip us))
    (hbody:∀ (f:Addr) (cdv:Value) (A:Around) (outer:List Env) (s:Shared) (H:Hp) (vs:List V) (Q:VK) (E:XK),Room k (A.deeper (envOfC qual (defScope st) s.heap.objs.size f cdv))→sp vs H Q E →
      ∃ t,PSs (cxOf CX0 P w K mg base N qual (defScope st) f cdv A outer s H E).nox (defBody st) t∧t { nx:=fun _ H'=>Q .non H',rt:=Q } (start N vs) H):Def P w K mg base (k + 1) x ps sp:=by
  obtain ⟨f,fd,F,hm⟩:=S.ex
  obtain ⟨oc,od,_,_,_,_,_,_,osl,_,lk,_⟩:=F.ex
  exact ⟨f,fd,hm,F.kp,F.binds hb,F.ok Sc len (hbody f),oc,od,osl,lk⟩
end
section
variable {X:Cx} {k:Nat} {x:Str} {ps:List Str} {sp:Sp} {p pos:Pos} {e:Expr} {es:List Expr} {t:TA}
theorem pe_def (D:Def X.prog X.w X.K X.mg X.base k x ps sp) (hr:Room k X.A) (hg:Gl X x) (ha:PA X (e :: es) t) (hdb:(x == ("__debug__" : Str))=false:=by decide) (he:starEach (e :: es) X.env=(false,eval e X.env) :: starEach es X.env:=by rfl)
    (hpl:(backTo pos (starEach es X.env)).any (·.1)=false:=by rfl):PE X (.Call (.Name x p) (e :: es) [] pos) (tCall sp [] E0 t):=by
  obtain ⟨f,fd,hm,hk,hb,F,_⟩:=D.ex
  exact pe_call F hr hg hm hk hb .nil pass0 ha hdb he hpl
end
section
variable {X:Cx}
def rIs (K:PySem.W.Frag):List V→Hp→VK→Prop:=fun xs H Q => ∃ x n t b,xs=[x,.ty n]∧TyOf K H x t∧PySem.W.kitOne K t (.type n)=some b∧Q (.bl b) H
theorem call_isinst:CallR X (.builtin "isinstance") (rIs X.K):=by
  intro pins s σ H xs us Q I r h
  obtain ⟨x,n,t,b,rfl,ty,e,q⟩:=h
  obtain ⟨u,u2,rfl,ru,r2⟩:=vals2 r
  have e2:u2=Value.type n:=r2
  subst e2
  exact isinst_ok I ru ty e fun tk=>⟨.bl b,H,I.tok tk,rfl,q⟩
theorem boot_len':bootBuiltins "len" = some (.builtin "len"):=by decide +kernel
theorem boot_isinstance':bootBuiltins "isinstance" = some (.builtin "isinstance"):=by decide +kernel
theorem boot_sum':bootBuiltins "sum" = some (.builtin "sum"):=by decide +kernel
theorem boot_min':bootBuiltins "min" = some (.builtin "min"):=by decide +kernel
theorem boot_max':bootBuiltins "max" = some (.builtin "max"):=by decide +kernel
theorem boot_all':bootBuiltins "all" = some (.builtin "all"):=by decide +kernel
theorem boot_bool':bootBuiltins "bool" = some (.type "bool"):=by decide +kernel
theorem boot_int':bootBuiltins "int" = some (.type "int"):=by decide +kernel
theorem boot_list':bootBuiltins "list" = some (.type "list"):=by decide +kernel
theorem boot_abs':bootBuiltins "abs" = some (.builtin "abs"):=by decide +kernel
theorem boot_enumerate':bootBuiltins "enumerate" = some (.type "enumerate"):=by decide +kernel
theorem kit_same (K:PySem.W.Frag) (n:String):PySem.W.kitOne K (.type n) (.type n)=some true:=by
  unfold PySem.W.kitOne
  rw [if_pos (beq_self_eq_true _)]
end
def Ite (K:PySem.W.Frag) (a:Addr):It :=
  ⟨fun i H => ∃ xs x,SqL K H a xs∧xs[i]? = some x,fun i H x H' => ∃ T,H T=none∧x=.ref T∧∀ xs,SqL K H a xs→∃ v,xs[i]? = some v∧H'=upd H T (.tup [.int i,v]),fun i H => ∃ xs,SqL K H a xs∧xs.length≤i⟩
theorem Inv.turnNew {X:Cx} {pins:List (Addr × Obj)} {σ:St} {H:Hp} {s:Shared} {e it T:Addr} {h':Heap} {xs:List V} {t':Nat} (I:Inv X pins σ H s) (k:∀ b o,b≠e→b≠it→s.heap.get? b=some o→h'.get? b=some o) (fe:FpOk X pins H e) (fi:FpOk X pins H it)
    (hT:T=s.heap.objs.size) (new:ObjOk X.prog X.w (upd H T (.tup xs)) h' T (.tup xs)):Inv X pins σ (upd H T (.tup xs)) { s with heap:=h',toks:=t' }:=by
  have hn:H T=none:=by rw [hT]; exact I.fresh
  have nT:∀ b o,s.heap.get? b=some o→b≠T:=fun b o e=>by rw [hT]; exact Nat.ne_of_lt (Heap.lt_size e)
  have nch:∀ b,b ∉ [e,it]→b≠e∧b≠it:=fun b h=>⟨fun z=>h (by simp [z]),fun z=>h (by simp [z])⟩
  refine I.step (g':=s.gens) (d':=s.drawn) (ch:=[e,it]) (fun b hb=>?_) (fun b o _ _ hc q _=>k b o (nch b hc).1 (nch b hc).2 q) (fun b o _ _ hc q _=>⟨o.slots,k b o (nch b hc).1 (nch b hc).2 q⟩) (fun b o _ q n=>by rw [upd_ne (nT b o q)]; exact n)
    (fun b o hc q=>⟨o,k b o (nch b hc).1 (nch b hc).2 q⟩) (fun b ys q=>by rw [upd_ne (ne_of_none q hn)]; exact q) (fun b o u q=>by rw [upd_ne (ne_of_none q hn)]; exact q) (fun b ps q=>⟨#[],by rw [upd_ne (ne_of_none q hn),q]; simp⟩) (fun m hm=>?_) (fun b u q=>?_) I.bare
  · rcases List.mem_cons.mp hb with z | hb
    · subst z
      exact ⟨fe.2.2.2.1,fe.2.1,fe.2.2.2.2.1,fe.2.2.2.2.2⟩
    · have z:b=it:=by simpa using hb
      subst z
      exact ⟨fi.2.2.2.1,fi.2.1,fi.2.2.2.2.1,fi.2.2.2.2.2⟩
  · obtain ⟨o,es,ep,ho,r⟩:=hm
    exact ⟨o,es,ep,k _ o (Ne.symm fe.2.1) (Ne.symm fi.2.1) ho,r⟩
  · by_cases hb:b=T
    · subst hb
      rw [upd_same] at q
      cases q
      exact new
    · rw [upd_ne hb] at q
      have ne:∀ c u,H c=some u→c≠e∧c≠it:=fun c u z=>⟨fun w=>(by rw [w,fe.1] at z; cases z),fun w=>(by rw [w,fi.1] at z; cases z)⟩
      refine (I.hok b u q).stay (fun c v hc z=>?_) (fun c z=>by rw [upd_ne (ne_of_none z hn)]; exact z) fun c ys z=>by rw [upd_ne (ne_of_none z hn)]; exact z
      rcases hc with w | w
      · rw [w] at z ⊢
        exact k b v (ne b u q).1 (ne b u q).2 z
      · exact k c v (ne c _ w).1 (ne c _ w).2 z
theorem turn_enum {P:Program} {w:World} {K:PySem.W.Frag} {elts:List Expr} {tk:Nat} {tp:Pos} (a e it:Addr) (hne:e≠it) :
    Turn P w K (.Tuple elts tk tp) (Ite K a) [e,it] e (fun i h=>(∃ old,IsEnum h e it (i:Nat) old)∧h.IsListIter it a i) where
  mem:=by simp
  obj:=fun i h st b hb=>by
    obtain ⟨⟨old,he⟩,hit⟩:=st
    rcases List.mem_cons.mp hb with z | hb
    · subst z
      exact ⟨_,he,fun v z=>by
        have z':Data.fields _=Data.cell v:=z
        cases z'⟩
    · have z:b=it:=by simpa using hb
      subst z
      obtain ⟨o,e,c,d⟩:=hit
      exact ⟨o,e,fun v z=>by rw [d] at z; cases z⟩
  keep:=fun i h h' st k=>by
    obtain ⟨⟨old,he⟩,hit⟩:=st
    exact ⟨⟨old,k e (by simp) _ he⟩,hit.at fun o x=>k it (by simp) o x⟩
  item:=by
    intro X hP hw hK hc i pins s σ H E I hf st hg
    subst hP hw hK
    obtain ⟨⟨old,he⟩,hit⟩:=st
    obtain ⟨xs,x,hq,hx⟩:=hg
    obtain ⟨its,rv,p,hz⟩:=I.list hq
    obtain ⟨u,hu,ru⟩:=rv.get hx
    refine wpAny_pyNext_enum_item he hit p.isList (x:=u) (by simpa using hu) hne fun h' heo hit' hT hsz hk=>?_
    refine ⟨_,rfl,wpAny_letOwnedTupleGo_enum heo fun h2 he2 hs2=>?_⟩
    have helt:e < s.heap.objs.size:=Heap.lt_size he
    have hT2:h2.get? s.heap.objs.size=some { cls:=.type "tuple",data:=.seq #[.int i s.toks,u] }:=(hs2.2 _ (Nat.ne_of_gt helt)).trans hT
    have I2:Inv X pins σ (upd H s.heap.objs.size (.tup [.int i,x])) { s with heap:=h2,toks:=s.toks + 1 } :=
      I.turnNew (e:=e) (it:=it) (fun b o h1 h3 q=>(hs2.2 b h1).trans (hk b o h1 h3 q)) (hf e (by simp)) (hf it (by simp)) rfl
        ⟨by show 2≤sizeLine; rw [sizeLine_eq]; decide,[.int i s.toks,u],.cons ⟨_,rfl⟩ (.cons ru .nil),⟨_,hT2,rfl,_,rfl⟩⟩
    refine ⟨.ref s.heap.objs.size,_,I2,rfl,⟨_,I.fresh,rfl,fun ys hy=>⟨x,by rw [I.list_inj hy hq]; exact hx,rfl⟩⟩,⟨⟨u,?_⟩,hit'.at fun o q=>(hs2.2 it hne.symm).trans q⟩,fun b hb=>?_⟩
    · have e1:((i + 1:Nat):Int)=(i:Int) + 1:=by simp
      rw [e1]
      exact he2
    · obtain ⟨o,ho,_⟩:∃ o,s.heap.get? b=some o∧True:=by
        rcases List.mem_cons.mp hb with z | hb
        · subst z
          exact ⟨_,he,trivial⟩
        · have z:b=it:=by simpa using hb
          subst z
          obtain ⟨o,q,_⟩:=hit
          exact ⟨o,q,trivial⟩
      rw [upd_ne (Nat.ne_of_lt (Heap.lt_size ho))]
      exact (hf b hb).1
  done:=by
    intro X hP hw hK hc i pins s σ H E I hf st hg
    subst hP hw hK
    obtain ⟨⟨old,he⟩,hit⟩:=st
    obtain ⟨xs,hq,hx⟩:=hg
    obtain ⟨its,rv,p,hz⟩:=I.list hq
    obtain ⟨f0,f1,f2,f3,f4,f5⟩:=hf it (by simp)
    have hl:=rv.length
    exact wpAny_pyNext_enum_end (I.ok.hd hc) he hit p.isList (by simp; omega) fun h' eb=>⟨rfl,I.turned (t':=s.toks) (fun b o hb e=>eb b o hb e) f0 f1 f3 f4 f5⟩
  self:=fun A i s Q E st h=>by
    obtain ⟨⟨old,he⟩,_⟩:=st
    exact wpAny_pyIter_enum he h
section
variable {X:Cx}
def iEnum (K:PySem.W.Frag) (ta:TA):TI:=fun σ H R=>ta σ H fun vs H1 => ∃ a,vs=[.ref a]∧(∃ xs,SqL K H1 a xs)∧R (Ite K a) H1
theorem pi_enum {l:Expr} {ta:TA} {p pos tp:Pos} {elts:List Expr} {tk:Nat} (hg:Gl X "enumerate") (hm:X.mg "enumerate" = none) (ha:PA X [l] ta) (hs:starEach [l] X.env=[(false,eval l X.env)]:=by rfl) :
    PI X (.Tuple elts tk tp) (.Call (.Name "enumerate" p) [l] [] pos) (iEnum X.K ta):=by
  intro pins s σ H R I h
  refine Call_ (ld_blt I hg hm boot_enumerate' (PyProof.Rows.callWith_type1 (thn (ha pos pins s σ H _ I h) fun us s1 ⟨vs,H1,I1,r1,q1⟩=>?_) hs rfl))
  obtain ⟨a,e,⟨xs,hq⟩,q⟩:=q1
  subst e
  cases r1 with
  | cons r rr =>
    cases rr
    obtain rfl:=r
    obtain ⟨its,rv,pl,hz⟩:=I1.list hq
    refine call_enumerate_list pl.isList fun h' he hit hsz hk=>?_
    refine wpAny_pyIter_enum he ?_
    refine ⟨s1.heap.objs.size + 1,[s1.heap.objs.size + 1,s1.heap.objs.size],_,_,H1,rfl,I1.kept (t':=s1.toks) hk,turn_enum a _ _ (Nat.succ_ne_self _),⟨⟨_,he⟩,hit⟩,fun b hb=>?_,q⟩
    have hle:s1.heap.objs.size≤b:=by
      rcases List.mem_cons.mp hb with z | hb
      · rw [z]; exact Nat.le_succ _
      · have z:b=s1.heap.objs.size:=by simpa using hb
        rw [z]
        exact Nat.le_refl _
    exact I1.fpOk hle (I1.hok.fresh hle)
end
theorem for_enum {K:PySem.W.Frag} {a:Addr} {xs:List V} {g:TG} {tb:TS} {D:Ends} {σ:St} {H:Hp} (Pv:Nat→St→Hp→Prop) (h0:Pv 0 σ H) (hl:∀ i σ H,i≤xs.length→Pv i σ H→SqL K H a xs)
    (hs:∀ i x σ H T,xs[i]? = some x→Pv i σ H→H T=none→g (.ref T) σ (upd H T (.tup [.int i,x])) fun σ2 H2=>tb { D with nx:=Pv (i + 1),ct:=Pv (i + 1),bk:=D.nx } σ2 H2) (hd:∀ σ H,Pv xs.length σ H→D.nx σ H) :
    ∃ W:Nat→Nat→St→Hp→Prop,(∃ m,W 0 m σ H)∧∀ i m σ H,W i m σ H →
      ((Ite K a).stop i H∧D.nx σ H)∨((Ite K a).go i H∧∃ N:St→Hp→Prop,(∀ σ' H',N σ' H'→∃ m',m' < m∧W (i + 1) m' σ' H')∧∀ x H',(Ite K a).yld i H x H'→g x σ H' fun σ2 H2=>tb { D with nx:=N,ct:=N,bk:=D.nx } σ2 H2):=by
  refine ⟨fun i m σ H=>m=xs.length - i∧i≤xs.length∧Pv i σ H,⟨xs.length,by simp,Nat.zero_le _,h0⟩,?_⟩
  rintro i m σ H ⟨rfl,hi,p⟩
  have q:=hl i σ H hi p
  by_cases hlt:i < xs.length
  · refine .inr ⟨⟨xs,xs[i],q,by simp [hlt]⟩,Pv (i + 1),fun σ' H' p'=>⟨xs.length - (i + 1),by omega,rfl,hlt,p'⟩,fun x H' y=>?_⟩
    obtain ⟨T,hT,rfl,y⟩:=y
    obtain ⟨v,hv,rfl⟩:=y xs q
    exact hs i v σ H T hv p hT
  · obtain rfl:i=xs.length:=by omega
    exact .inl ⟨⟨xs,q,Nat.le_refl _⟩,hd σ H p⟩
end L2
namespace L2
open PySem PySem.Spec PyProof.Rows
def tJoin (t:TS):TS:=fun D σ H => ∃ N:St→Hp→Prop,t { D with nx:=N } σ H∧∀ σ' H',N σ' H'→D.nx σ' H'
theorem ps_join {X:Cx} {st:Stmt} {t:TS} (h:PS X st t):PS X st (tJoin t):=by
  intro pins s σ H D I q
  obtain ⟨N,q,hN⟩:=q
  refine thn (h pins s σ H _ I q) fun f s' z=>?_
  cases f with
  | next=>obtain ⟨σ',H',I',n⟩:=z; exact ⟨σ',H',I',hN σ' H' n⟩
  | brk=>exact z
  | cont=>exact z
  | ret v=>exact z
theorem len_small {n:Nat} (h:n≤1000):n≤sizeLine:=Nat.le_of_lt (small1000 h)
theorem atI_int {α:Type} {xs:List α} {z:Int} (j:Nat) {v:α} (hz:z=(j:Int)) (h:xs[j]? = some v):atI xs z=some v:=by
  subst hz
  exact atI_nat h
end L2
namespace L2
open PySem PySem.Spec PyProof.Rows
structure New (H:Hp) (p:Addr) (o:HO) (H':Hp):Prop where
  same:Same H H'
  none:H p=Option.none
  at_:H' p=some o
theorem new_upd {H:Hp} {p:Addr} {o:HO} (h:H p=Option.none):New H p o (upd H p o):=⟨Same.upd h,h,upd_same⟩
section
variable {X:Cx} {es:List Expr} {t:TA} {pos:Pos}
def tTup' (t:TA):TE:=fun σ H Q=>t σ H fun xs H1=>xs.length≤sizeLine∧∀ p H',New H1 p (.tup xs) H'→Q (.ref p) H'
def tLst' (t:TA):TE:=fun σ H Q=>t σ H fun xs H1=>xs.length≤sizeLine∧∀ p H',New H1 p (.lst xs) H'→Q (.ref p) H'
theorem OpR.imp {f:Value→Value→Sem Value} {r r':R2} (h:OpR X f r) (i:∀ x y H Q,r' x y H Q→r x y H Q):OpR X f r':=fun pins s σ H x y v u Q I rx ry q=>h pins s σ H x y v u Q I rx ry (i _ _ _ _ q)
theorem SlR.imp {r r':V→Option Int→Option Int→Hp→VK→Prop} (h:SlR X r) (i:∀ x l u H Q,r' x l u H Q→r x l u H Q):SlR X r':=fun pins s σ H x v vl vu lo hi sl Q I rx hs pl pu q=>h pins s σ H x v vl vu lo hi sl Q I rx hs pl pu (i _ _ _ _ _ q)
theorem CallR.imp {f:Value} {r r':List V→Hp→VK→Prop} (h:CallR X f r) (i:∀ xs H Q,r' xs H Q→r xs H Q):CallR X f r':=fun pins s σ H xs us Q I rv q=>h pins s σ H xs us Q I rv (i _ _ _ q)
def rSlL' (K:PySem.W.Frag):V→Option Int→Option Int→Hp→VK→Prop:=fun x lo hi H Q => ∃ a xs,x=.ref a∧SqL K H a xs∧∀ p H',New H p (.lst (cutV xs lo hi)) H'→Q (.ref p) H'
theorem sl_list':SlR X (rSlL' X.K):=sl_list.imp fun x l u H Q ⟨a,xs,e,h,q⟩=>⟨a,xs,e,h,fun p hp=>q p _ (new_upd hp)⟩
def rCat':R2:=fun x y H Q => ∃ l b xs zs,x=.ref l∧y=.ref b∧H l=some (.lst xs)∧H b=some (.lst zs)∧xs.length + zs.length≤sizeLine∧∀ p H',New H p (.lst (xs ++ zs)) H'→Q (.ref p) H'
theorem op_cat':OpR X (binaryOp .Add) rCat':=op_cat.imp fun x y H Q ⟨l,b,xs,zs,e1,e2,h1,h2,hz,q⟩=>⟨l,b,xs,zs,e1,e2,h1,h2,hz,fun p hp=>q p _ (new_upd hp)⟩
theorem call_list_of':CallR X (.type "list") (fun xs H Q => ∃ p ys,xs=[.ref p]∧(SqL X.K H p ys∨SqT X.K H p ys)∧∀ l H',New H l (.lst ys) H'→Q (.ref l) H'):=call_list_of.imp fun xs H Q ⟨p,ys,e,h,q⟩=>⟨p,ys,e,h,fun l hl=>q l _ (new_upd hl)⟩
theorem pe_tup' {x1} (h:PA X es t):PE X (.Tuple es x1 pos) (tTup' t):=by
  intro pins s σ H Q I hq
  refine wpAny_Tuple_spliced (thn (h pos pins s σ H _ I hq) fun us s1 ⟨xs,H1,I1,r,z,q⟩=>⟨by rw [← r.length]; exact z,?_⟩)
  refine ⟨.ref s1.heap.objs.size,_,I1.laid (t':=s1.toks) (o:=.tup xs) (fun b u e=>Heap.get?_push_of_some _ e) (Nat.le_refl _) ?_,rfl,q _ _ (new_upd I1.fresh)⟩
  exact ⟨z,us,r,⟨_,Heap.get?_push_size _ rfl,rfl,_,rfl⟩⟩
theorem pe_lst' (h:PA X es t):PE X (.List es pos) (tLst' t):=by
  intro pins s σ H Q I hq
  refine wpAny_List_spliced (thn (h pos pins s σ H _ I hq) fun us s1 ⟨xs,H1,I1,r,z,q⟩=>⟨by rw [← r.length]; exact z,?_⟩)
  refine ⟨.ref s1.heap.objs.size,_,I1.laid (t':=s1.toks) (o:=.lst xs) (fun b u e=>Heap.get?_push_of_some _ e) (Nat.le_refl _) ?_,rfl,q _ _ (new_upd I1.fresh)⟩
  exact ⟨z,us,0,r,Heap.get?_push_size _ rfl⟩
end
end L2
namespace L2
open PySem PySem.Spec PyProof.Rows
theorem kit_ib (K:PySem.W.Frag):PySem.W.kitOne K (.type "int") (.type "bool")=some false:=by kernel_rfl
theorem all_eq:∀ (ns ms:List Int),ns.length=ms.length→((List.range ns.length).all fun j=>decide (ns[j]? = ms[j]?))=decide (ns=ms):=fun ns ms hl=>by
  by_cases h:ns=ms
  · subst h
    rw [decide_eq_true rfl]
    exact List.all_eq_true.mpr fun j _=>decide_eq_true rfl
  · rw [decide_eq_false h]
    refine Bool.eq_false_iff.mpr fun q=>h (List.ext_getElem? fun j=>?_)
    have q:=List.all_eq_true.mp q
    by_cases hj:j < ns.length
    · exact of_decide_eq_true (q j (List.mem_range.mpr hj))
    · rw [List.getElem?_eq_none_iff.mpr (by omega),List.getElem?_eq_none_iff.mpr (by omega)]
section
variable {X:Cx}
theorem ints_eqAt {A:Around} {s:Shared} {ns ms:List Int} {us ws:List Value} (r1:Vals (ns.map V.int) us) (r2:Vals (ms.map V.int) ws) (j:Nat) (h1:j < us.toArray.size) (h2:j < ws.toArray.size) :
    SeqAt.EqAt A s us.toArray[j] ws.toArray[j] (decide (ns[j]? = ms[j]?)):=by
  have l1:=r1.length
  have l2:=r2.length
  simp at l1 l2 h1 h2
  have g1:(ns.map V.int)[j]? = some (.int ns[j]):=by simp [l1,h1]
  have g2:(ms.map V.int)[j]? = some (.int ms[j]):=by simp [l2,h2]
  obtain ⟨u,e1,q1⟩:=r1.get g1
  obtain ⟨v,e2,q2⟩:=r2.get g2
  have e1':us.toArray[j]=u:=by
    have:=List.getElem?_eq_some_iff.mp e1
    obtain ⟨_,z⟩:=this
    simpa using z
  have e2':ws.toArray[j]=v:=by
    have:=List.getElem?_eq_some_iff.mp e2
    obtain ⟨_,z⟩:=this
    simpa using z
  rw [e1',e2']
  have k:=eqAt_V (A:=A) (s:=s) q1 q2 rfl rfl
  have e3:eqV (V.int ns[j]) (V.int ms[j])=decide (ns[j]? = ms[j]?):=by
    show (ns[j] == ms[j])=_
    simp [List.getElem?_eq_getElem,l1,l2,h1,h2,Bool.beq_eq_decide_eq]
  rw [e3] at k
  exact k
def rEqLI (K:PySem.W.Frag) (neg:Bool):R2:=fun x y H Q => ∃ (a b:Addr) (ns ms:List Int),x=.ref a∧y=.ref b∧SqL K H a (ns.map V.int)∧SqL K H b (ms.map V.int)∧Q (.bl (if neg=true then !decide (ns=ms) else decide (ns=ms))) H
theorem op_eqLI (hu:X.A.units < cLine):OpR X (compareOp .Eq) (rEqLI X.K false):=by
  intro pins s σ H x y v u Q I rx ry h
  obtain ⟨a,b,ns,ms,rfl,rfl,ha,hb,q⟩:=h
  cases rx
  cases ry
  obtain ⟨is,r1,p1,z1⟩:=I.list ha
  obtain ⟨js,r2,p2,z2⟩:=I.list hb
  have l1:=r1.length
  have l2:=r2.length
  simp at l1 l2
  by_cases hl:ns.length=ms.length
  · refine SeqAt.eq_listAt (e:=fun j=>decide (ns[j]? = ms[j]?)) p1.isList p2.isList (by simp; omega) hu (fun j h1 h2=>ints_eqAt r1 r2 j h1 h2) ?_
    have e:((List.range is.toArray.size).all fun j=>decide (ns[j]? = ms[j]?))=decide (ns=ms):=by
      rw [List.size_toArray,← l1]
      exact all_eq ns ms hl
    rw [e]
    exact ⟨.bl (decide (ns=ms)),H,I,rfl,q⟩
  · refine SeqAt.eq_list_lengthsAt p1.isList p2.isList (by simp; omega) hu ?_
    have e:decide (ns=ms)=false:=decide_eq_false fun z=>hl (by rw [z])
    rw [e] at q
    exact ⟨.bl false,H,I,rfl,q⟩
theorem op_neLI (hu:X.A.units < cLine):OpR X (compareOp .NotEq) (rEqLI X.K true):=by
  intro pins s σ H x y v u Q I rx ry h
  obtain ⟨a,b,ns,ms,rfl,rfl,ha,hb,q⟩:=h
  cases rx
  cases ry
  obtain ⟨is,r1,p1,z1⟩:=I.list ha
  obtain ⟨js,r2,p2,z2⟩:=I.list hb
  have l1:=r1.length
  have l2:=r2.length
  simp at l1 l2
  by_cases hl:ns.length=ms.length
  · refine SeqAt.RcNeAt.lists (e:=fun j=>decide (ns[j]? = ms[j]?)) p1.isList p2.isList (by simp; omega) hu (fun j h1 h2=>ints_eqAt r1 r2 j h1 h2) _ _ _ _ ?_
    have e:((List.range is.toArray.size).all fun j=>decide (ns[j]? = ms[j]?))=decide (ns=ms):=by
      rw [List.size_toArray,← l1]
      exact all_eq ns ms hl
    rw [e]
    exact ⟨.bl (!decide (ns=ms)),H,I,rfl,q⟩
  · refine SeqAt.RcNeAt.lists_lengths p1.isList p2.isList (by simp; omega) hu _ _ _ _ ?_
    have e:decide (ns=ms)=false:=decide_eq_false fun z=>hl (by rw [z])
    rw [e] at q
    exact ⟨.bl true,H,I,rfl,q⟩
end
end L2
namespace L2
open PySem PySem.Spec PyProof.Rows
section
variable {X:Cx} {K:PySem.W.Frag}
theorem ix_seqK (h:X.K=K):IxR X (rIx K):=h ▸ ix_seq
theorem sl_listK (h:X.K=K):SlR X (rSlL' K):=h ▸ sl_list'
def rLen (K:PySem.W.Frag):List V→Hp→VK→Prop:=fun xs H Q => ∃ p ys,xs=[.ref p]∧(SqL K H p ys∨SqT K H p ys)∧Q (.int ys.length) H
theorem call_lenK (h:X.K=K):CallR X (.builtin "len") (rLen K):=h ▸ call_len_seq
theorem call_isinstK (h:X.K=K):CallR X (.builtin "isinstance") (rIs K):=h ▸ call_isinst
def rListOf (K:PySem.W.Frag):List V→Hp→VK→Prop:=fun xs H Q => ∃ p ys,xs=[.ref p]∧(SqL K H p ys∨SqT K H p ys)∧∀ l H',New H l (.lst ys) H'→Q (.ref l) H'
theorem call_list_ofK (h:X.K=K):CallR X (.type "list") (rListOf K):=h ▸ call_list_of'
theorem op_eqLK (h:X.K=K) (hu:X.A.units < cLine):OpR X (compareOp .Eq) (rEqLI K false):=h ▸ op_eqLI hu
theorem op_neLK (h:X.K=K) (hu:X.A.units < cLine):OpR X (compareOp .NotEq) (rEqLI K true):=h ▸ op_neLI hu
theorem op_in_seqK (h:X.K=K):OpR X (compareOp .In) (rIn K false):=h ▸ op_in_seq
theorem pi_listK {tg l:Expr} {tl:TE} (h:X.K=K) (hl:PE X l tl):PI X tg l (iList K tl):=h ▸ pi_list hl
theorem pi_enumK {l:Expr} {ta:TA} {p pos tp:Pos} {elts:List Expr} {tk:Nat} (h:X.K=K) (hg:Gl X "enumerate") (hm:X.mg "enumerate" = none) (ha:PA X [l] ta) (hs:starEach [l] X.env=[(false,eval l X.env)]:=by rfl) :
    PI X (.Tuple elts tk tp) (.Call (.Name "enumerate" p) [l] [] pos) (iEnum K ta):=h ▸ pi_enum hg hm ha hs
theorem pg_tupK {es:List Expr} {k:Nat} {t:TGs} {n:Nat} {pos:Pos} (hK:X.K=K) (hc:X.calm=true) (h:PGs X es t)
    (hn:(assignEach es X.env).length=n:=by rfl) (hst:(assignEach es X.env).findIdx? (·.1)=none:=by rfl):PG X (.Tuple es k pos) (gTup K n t):=hK ▸ pg_tup hc h hn hst
theorem pe_fldK {e:Expr} {f:Str} {pos:Pos} {ta:TE} (h:X.K=K) (he:PE X e ta) (hb:attributeBase e f X.env (eval e X.env)=eval e X.env):PE X (.Attribute e f pos) (tFld K ta f):=h ▸ pe_fld he hb
theorem ps_fldK {o value:Expr} {f:Str} {pos pos':Pos} {ta tv:TE} (h:X.K=K) (ha:PE X o ta) (hv:PE X value tv) (hs:swapsWith value (some (.Attribute o f pos')) pos.line X.env=pure false):PS X (.Assign [.Attribute o f pos'] value pos) (sFld K ta tv f):=h ▸ ps_fld ha hv hs
theorem pe_bmK {o e:Expr} {es:List Expr} {to:TE} {t:TA} {name:Str} {apos cpos:Pos} {T id:String} {r:V→List V→Hp→VK→Prop} (h:X.K=K) (pa:PlainAttrs T) (slot:Slot T name id) (hty:typeOf (.builtin id)=pure (.type "method_descriptor")) (hm:MtR X id r) (ho:PE X o to) (ha:PA X (e :: es) t)
    (hbase:attributeBase o name X.env (eval o X.env)=eval o X.env:=by rfl)
    (hfew:((backTo cpos (starEach (e :: es) X.env)).all (fun x => !x.1) && (backToKw cpos (keywordEach [] X.env)).all (fun x=>x.1.isSome) && decide ((e :: es).length + ([]:List Keyword).length + (if ([]:List Keyword).isEmpty then 0 else 1) < 30))=true:=by rfl)
    (hline:(apos.endLine == cpos.line)=true:=by rfl) (hs:starEach (e :: es) X.env=(false,eval e X.env) :: starEach es X.env:=by rfl) (hplain:(backTo cpos (starEach es X.env)).any (·.1)=false:=by rfl) :
    PE X (.Call (.Attribute o name apos) (e :: es) [] cpos) (tBM K T r to t):=by
  subst h
  exact pe_bm pa slot hty hm ho ha hbase hfew hline hs hplain
end
end L2
namespace L2
open PySem PySem.Spec PyProof.Rows
abbrev cod (x:Str):List Nat:=x.cps.toList
theorem cod_len (x:Str):(cod x).length=x.length:=by simp [cod,Str.length]
theorem cod_app (a b:Str):cod (a ++ b)=cod a ++ cod b:=by
  show (a.cps ++ b.cps).toList=_
  simp [cod]
section
variable {X:Cx}
theorem pe_gint {x:Str} {i:Int} {pos:Pos} (hg:Gl X x) (hm:∃ v,X.mg x=some v∧∃ t,v=.int i t) (hd:(x == ("__debug__" : Str))=false:=by decide):PE X (.Name x pos) (tC (.int i)):=by
  obtain ⟨v,hm,t,rfl⟩:=hm
  exact pe_glob hg hm ⟨t,rfl⟩ hd
end
def tJoinE (t:TE):TE:=fun σ H Q => ∃ N:VK,t σ H N∧∀ v H',N v H'→Q v H'
theorem pe_join {X:Cx} {e:Expr} {t:TE} (h:PE X e t):PE X e (tJoinE t):=by
  intro pins s σ H Q I q
  obtain ⟨N,q,hN⟩:=q
  refine thn (h pins s σ H _ I q) fun u s' ⟨v,H',I',r,n⟩=>⟨v,H',I',r,hN v H' n⟩
theorem iteE {b:Bool} {A B:Prop} (e:b=false) (h:B):if b=true then A else B:=by
  rw [e]
  exact iteF h
theorem iteTr {b:Bool} {A B:Prop} (e:b=true) (h:A):if b=true then A else B:=by
  rw [e]
  exact iteT h
end L2
namespace L2
open PySem PySem.Spec PyProof.Rows
theorem mul_bd {a b A B:Int} (a1:-A≤a) (a2:a≤A) (b1:-B≤b) (b2:b≤B):-(A * B)≤a * b∧a * b≤A * B:=by
  have hA:0≤A:=by omega
  have hB:0≤B:=by omega
  have h1:(a.natAbs:Int)≤A:=by omega
  have h2:(b.natAbs:Int)≤B:=by omega
  have h3:((a * b).natAbs:Int)≤A * B:=by
    rw [Int.natAbs_mul,Int.natCast_mul]
    exact Int.mul_le_mul h1 h2 (Int.natCast_nonneg _) hA
  omega
theorem ixT {K:PySem.W.Frag} {H:Hp} {a:Addr} {xs:List V} {i:Int} {v:V} {Q:VK} (h:SqT K H a xs) (e:atI xs i=some v) (q:Q v H):rIx K (.ref a) (.int i) H Q:=.inr (.inl ⟨a,xs,i,v,rfl,rfl,h,e,q⟩)
theorem ixL {K:PySem.W.Frag} {H:Hp} {a:Addr} {xs:List V} {i:Int} {v:V} {Q:VK} (h:SqL K H a xs) (e:atI xs i=some v) (q:Q v H):rIx K (.ref a) (.int i) H Q:=.inl ⟨a,xs,i,v,rfl,rfl,h,e,q⟩
theorem ixInts {K:PySem.W.Frag} {H:Hp} {a:Addr} {ns:List Int} {i:Int} {Q:VK} (h:SqL K H a (ns.map V.int)) (h0:0≤i) (h1:i < ns.length) (q:∀ z∈ns,Q (.int z) H):rIx K (.ref a) (.int i) H Q:=by
  have hi:i.toNat < ns.length:=by omega
  refine ixL h (atI_int i.toNat (by omega) (v:=.int ns[i.toNat]) (by simp [hi])) (q _ (List.getElem_mem hi))
theorem take_snoc {l:List Int} {i:Nat} {r:Int} (h:l[i]? = some r):l.take (i + 1)=l.take i ++ [r]:=by
  rw [List.take_add_one,h]
  rfl
theorem abs_nat (r:Int):(if r < 0 then -r else r)=((r.natAbs:Nat):Int):=by
  split <;> omega
theorem int_at {ns:List Int} {i:Nat} {x:V} (hx:(ns.map V.int)[i]? = some x):∃ z,ns[i]? = some z∧x=.int z:=by
  rw [List.getElem?_map] at hx
  cases e:ns[i]? with
  | none=>rw [e] at hx; cases hx
  | some z=>rw [e] at hx; exact ⟨z,rfl,(Option.some.inj hx).symm⟩
theorem ints_of {ys:List V} {ns:List Int} (l:ys.length=ns.length) (h:∀ (i:Nat) y,ys[i]? = some y→∃ z,ns[i]? = some z∧y=.int z):ys=ns.map V.int:=by
  refine List.ext_getElem? fun i=>?_
  rw [List.getElem?_map]
  cases q:ys[i]? with
  | none =>
    have:ns.length≤i:=by rw [← l]; exact List.getElem?_eq_none_iff.mp q
    rw [List.getElem?_eq_none_iff.mpr this]
    rfl
  | some y =>
    obtain ⟨z,h1,h2⟩:=h i y q
    rw [h1,h2]
    rfl
theorem cut_ints (ns:List Int) (lo hi:Option Int):∃ ms:List Int,cutV (ns.map V.int) lo hi=ms.map V.int∧ms.length≤ns.length:=by
  refine ⟨(ns.drop (HT.sIx ns.length 0 lo)).take (HT.sIx ns.length ns.length hi - HT.sIx ns.length 0 lo),?_,?_⟩
  · unfold cutV
    rw [List.length_map,List.map_take,List.map_drop]
  · simp
    omega
def gcdL (d:Nat) (rows:List Int):Nat:=rows.foldl (fun d r=>Nat.gcd d r.natAbs) d
theorem gcdL_dvd_start:∀ (rows:List Int) (d:Nat),gcdL d rows ∣ d
  | [],d=>Nat.dvd_refl _
  | r :: rs,d=>Nat.dvd_trans (gcdL_dvd_start rs (Nat.gcd d r.natAbs)) (Nat.gcd_dvd_left _ _)
theorem gcdL_dvd_mem:∀ (rows:List Int) (d:Nat) (r:Int),r∈rows→gcdL d rows ∣ r.natAbs
  | [],_,_,h=>by cases h
  | x :: rs,d,r,h=>by
    rcases List.mem_cons.mp h with rfl | h
    · exact Nat.dvd_trans (gcdL_dvd_start rs (Nat.gcd d r.natAbs)) (Nat.gcd_dvd_right _ _)
    · exact gcdL_dvd_mem rs _ r h
theorem gcdL_pos (rows:List Int) (d:Nat) (h:0 < d):0 < gcdL d rows:=Nat.pos_of_dvd_of_pos (gcdL_dvd_start rows d) h
theorem gcdL_snoc (d:Nat) (l:List Int) (r:Int):gcdL d (l ++ [r])=Nat.gcd (gcdL d l) r.natAbs:=by
  unfold gcdL
  rw [List.foldl_append]
  rfl
def sp_mixed:Sp:=fun vs H Q _ => ∃ c k:Int,vs=[.int c,.int k]∧0≤k∧k≤1000000∧∀ m:Int,0≤m→m < 2147483629→Q (.int m) H
def sp_cell (K:PySem.W.Frag):Sp:=fun vs H Q _ => ∃ (a:Addr) (ns:List Int) (k:Int),vs=[.ref a,.int k]∧SqL K H a (ns.map V.int)∧0≤k∧∀ z:Int,Q (.int z) H
def sp_whole:Sp:=fun vs H Q _ => ∃ i:Int,vs=[.int i]∧Q (.bl true) H
def sp_cd:Sp:=fun vs H Q _ => ∃ a b:Int,vs=[.int a,.int b]∧0 < a∧0≤b∧Q (.int ((Nat.gcd a.natAbs b.natAbs:Nat):Int)) H
end L2
namespace L2
open PySem PySem.Spec PyProof.Rows
theorem preSum_take (ns:List Int):∀ k,k≤ns.length→preSum (fun i=>ns.getD i 0) k=(ns.take k).sum
  | 0,_=>by simp [preSum]
  | k + 1,h=>by
    have hk:k < ns.length:=h
    rw [preSum,preSum_take ns k (by omega),take_snoc (r:=ns[k]) (by simp [hk]),List.sum_append]
    simp [hk]
section
variable {X:Cx} {K:PySem.W.Frag}
theorem Inv.moved {pins:List (Addr × Obj)} {σ:St} {H:Hp} {s s':Shared} {o:Obj} (I:Inv X pins σ H s) (m:Moved [s.heap.objs.size] (fun a b=>b=a) { s with heap:=s.heap.push o } s'):Inv X pins σ H s':=by
  obtain ⟨h',g',d',t',os'⟩:=s'
  obtain ⟨m1,m2,m3,m4,m5⟩:=m
  have e1:g'=s.gens:=m2
  have e2:d'=s.drawn:=m3
  have e3:os'=s.os:=m4
  subst e1 e2 e3
  exact I.kept (t':=t') fun b u e=>m1 b u (fun z=>by
    have:b=s.heap.objs.size:=by simpa using z
    exact absurd (Heap.lt_size e) (by rw [this]; exact Nat.lt_irrefl _)) (Heap.get?_push_of_some _ e)
def rSum (K:PySem.W.Frag):List V→Hp→VK→Prop:=fun xs H Q => ∃ (a:Addr) (ns:List Int),xs=[.ref a]∧SqL K H a (ns.map V.int)∧Q (.int ns.sum) H
theorem call_sumK (hK:X.K=K) (hc:X.calm=true):CallR X (.builtin "sum") (rSum K):=by
  subst hK
  intro pins s σ H xs us Q I r h
  obtain ⟨a,ns,rfl,hq,q⟩:=h
  obtain ⟨u,rfl,rx⟩:=vals1 r
  cases rx
  obtain ⟨its,rv,pl,hz⟩:=I.list hq
  have hl:=rv.length
  have ha:a < s.heap.objs.size:=by
    obtain ⟨o,n,e,_⟩:=pl
    exact Heap.lt_size e
  have hhd:X.A.in1.handled=none:=I.ok.hd hc
  refine call_sum_walkAnyS (wpAny_pyIter_list pl.isList ?_)
  refine ⟨s.heap.objs.size,_,_,_,its.toArray.size,_,_,fun i=>ns.getD i 0,rfl,(Walks.list hhd s.heap.objs.size a (Nat.ne_of_lt ha) its.toArray).toS,⟨⟨_,Heap.get?_push_size _ rfl,rfl,rfl⟩,pl.isList.push _⟩,?_,?_,?_⟩
  · intro b hb
    rw [Heap.size_push]
    rcases List.mem_cons.mp hb with z | hb
    · rw [z]; exact Nat.lt_succ_self _
    · have z:b=a:=by simpa using hb
      rw [z]; exact Nat.lt_succ_of_lt ha
  · intro i v hv
    have hv':its[i]? = some v:=by simpa using hv
    have hi:i < ns.length:=by
      have:=(List.getElem?_eq_some_iff.mp hv').1
      simp at hl
      omega
    obtain ⟨u,h1,t,h2⟩:=rv.get (i:=i) (x:=.int ns[i]) (by simp [hi])
    rw [hv'] at h1
    cases h1
    exact ⟨t,by rw [h2]; simp [hi]⟩
  · intro s' t' m
    refine ⟨.int ns.sum,H,I.moved m,⟨t',?_⟩,q⟩
    have e:its.toArray.size=ns.length:=by
      rw [List.size_toArray,← hl]; simp
    rw [e,preSum_take ns _ (Nat.le_refl _),List.take_length]
def rAll (K:PySem.W.Frag):List V→Hp→VK→Prop:=fun xs H Q => ∃ (a:Addr) (bs:List Bool),xs=[.ref a]∧SqL K H a (bs.map V.bl)∧Q (.bl (bs.all id)) H
theorem range_all (bs:List Bool):(List.range bs.length).all (fun i=>bs.getD i false)=bs.all id:=by
  rw [Bool.eq_iff_iff,List.all_eq_true,List.all_eq_true]
  constructor
  · intro h b hb
    obtain ⟨i,hi,rfl⟩:=List.mem_iff_getElem.mp hb
    have:=h i (List.mem_range.mpr hi)
    simpa [hi] using this
  · intro h i hi
    have hi':=List.mem_range.mp hi
    have:=h bs[i] (List.getElem_mem hi')
    simpa [hi'] using this
theorem call_allK (hK:X.K=K) (hc:X.calm=true):CallR X (.builtin "all") (rAll K):=by
  subst hK
  intro pins s σ H xs us Q I r h
  obtain ⟨a,bs,rfl,hq,q⟩:=h
  obtain ⟨u,rfl,rx⟩:=vals1 r
  cases rx
  obtain ⟨its,rv,pl,hz⟩:=I.list hq
  have hl:=rv.length
  have ha:a < s.heap.objs.size:=by
    obtain ⟨o,n,e,_⟩:=pl
    exact Heap.lt_size e
  have hhd:X.A.in1.handled=none:=I.ok.hd hc
  refine call_all_walkS (wpAny_pyIter_list pl.isList ?_)
  refine ⟨s.heap.objs.size,_,_,_,its.toArray.size,_,_,fun i=>bs.getD i false,rfl,(Walks.list hhd s.heap.objs.size a (Nat.ne_of_lt ha) its.toArray).toS,⟨⟨_,Heap.get?_push_size _ rfl,rfl,rfl⟩,pl.isList.push _⟩,?_,?_⟩
  · intro i v s1 Q1 E1 hv hQ
    have hv':its[i]? = some v:=by simpa using hv
    have hi:i < bs.length:=by
      have:=(List.getElem?_eq_some_iff.mp hv').1
      simp at hl
      omega
    obtain ⟨u,h1,h2⟩:=rv.get (i:=i) (x:=.bl bs[i]) (by simp [hi])
    rw [hv'] at h1
    cases h1
    have h2':v=Value.bool bs[i]:=h2
    subst h2'
    refine wpAny_truthy_bool ?_
    have e:bs.getD i false=bs[i]:=by simp [hi]
    rw [← e]
    exact hQ
  · intro s' m
    refine ⟨.bl (bs.all id),H,I.moved m,?_,q⟩
    have e:its.toArray.size=bs.length:=by
      rw [List.size_toArray,← hl]; simp
    rw [e,range_all]
    rfl
def rCount (K:PySem.W.Frag):V→List V→Hp→VK→Prop:=fun x xs H Q => ∃ (a:Addr) (ns:List Int) (k:Int),x=.ref a∧xs=[.int k]∧SqL K H a (ns.map V.int)∧Q (.int ((ns.count k:Nat):Int)) H
theorem mt_countK (hK:X.K=K):MtR X "list.count" (rCount K):=by
  subst hK
  intro pins s σ H x xs v us Q I rx r h
  obtain ⟨a,ns,k,rfl,rfl,hq,q⟩:=h
  cases rx
  obtain ⟨u,rfl,t,rfl⟩:=vals1 r
  obtain ⟨its,rv,pl,hz⟩:=I.list hq
  exact count_list_ints pl.isList (intsAre_of rv) ⟨.int _,H,I.tok _,⟨_,rfl⟩,q⟩
end
theorem compIf {J:It} {D:Addr} {tt:TT} {te:TE} {σf:St} {H1:Hp} {Q:VK} (n:Nat) (xv:Nat→V) (p:Nat→Bool) (f:Nat→V) (hn:n < sizeLine) (hD1:H1 D=none)
    (hgo:∀ i H,i < n→Same H1 H→J.go i H) (hst:∀ H,Same H1 H→J.stop n H) (hy:∀ i H x H',i < n→Same H1 H→J.yld i H x H'→x=xv i∧H'=H)
    (ht:∀ i H (N:Bool→Hp→Prop),i < n→Same H1 H→(∀ H',Same H H'→N (p i) H')→tt (some (xv i) :: σf) H N)
    (hs:∀ i H (N:VK),i < n→p i=true→Same H1 H→(∀ H',Same H H'→N (f i) H')→te (some (xv i) :: σf) H N)
    (hd:∀ H,Same H1 H→H D=some (.lst (((List.range n).filter p).map f))→Q (.ref D) H):CompW J D (gName 0) tt te (none :: σf) (upd H1 D (.lst [])) Q:=by
  refine ⟨fun i m ys H=>i≤n∧m=n - i∧Same H1 H∧H D=some (.lst ys)∧ys=((List.range i).filter p).map f,⟨n,Nat.zero_le _,rfl,Same.upd hD1,upd_same,rfl⟩,?_⟩
  rintro i m ys H ⟨hi,rfl,s1,d1,rfl⟩
  refine ⟨d1,?_⟩
  by_cases hlt:i < n
  · have hle:(((List.range i).filter p).map f).length≤i:=by
      rw [List.length_map]
      exact Nat.le_trans (List.length_filter_le _ _) (by simp)
    refine .inr ⟨hgo i H hlt s1,by omega,fun y H'=>Same H H'∧y=f i∧p i=true,fun H'=>Same H H'∧p i=false,fun y H6 q=>?_,fun H5 q=>?_,fun x H' y=>?_⟩
    · obtain ⟨s6,rfl,hp⟩:=q
      refine ⟨s6 _ _ d1,n - (i + 1),by omega,hlt,rfl,(s1.trans s6).updT hD1,upd_same,?_⟩
      rw [List.range_succ,List.filter_append,List.map_append]
      simp [hp]
    · obtain ⟨s5,hp⟩:=q
      refine ⟨n - (i + 1),by omega,hlt,rfl,s1.trans s5,s5 _ _ d1,?_⟩
      rw [List.range_succ,List.filter_append,List.map_append]
      simp [hp]
    · obtain ⟨rfl,rfl⟩:=hy i H x H' hlt s1 y
      refine ⟨Agree.one _ _ _ rfl,?_⟩
      refine ht i H' _ hlt s1 fun H5 s5=>?_
      cases hp:p i with
      | true =>
        rw [if_pos rfl]
        exact hs i H5 _ hlt hp (s1.trans s5) fun H6 s6=>⟨s5.trans s6,rfl,rfl⟩
      | false =>
        rw [if_neg Bool.false_ne_true]
        exact ⟨s5,rfl⟩
  · obtain rfl:i=n:=Nat.le_antisymm hi (Nat.not_lt.mp hlt)
    exact .inl ⟨hst H s1,hd H s1 d1⟩
theorem compIf_range {n:Nat} {D:Addr} {tt:TT} {te:TE} {σf:St} {H1:Hp} {Q:VK} (p:Nat→Bool) (f:Nat→V) (hn:n < sizeLine) (hD1:H1 D=none)
    (ht:∀ (i:Nat) H (N:Bool→Hp→Prop),i < n→Same H1 H→(∀ H',Same H H'→N (p i) H')→tt (some (.int (0 + (i:Int))) :: σf) H N)
    (hs:∀ (i:Nat) H (N:VK),i < n→p i=true→Same H1 H→(∀ H',Same H H'→N (f i) H')→te (some (.int (0 + (i:Int))) :: σf) H N)
    (hd:∀ H,Same H1 H→H D=some (.lst (((List.range n).filter p).map f))→Q (.ref D) H):CompW (Itr 0 n) D (gName 0) tt te (none :: σf) (upd H1 D (.lst [])) Q :=
  compIf n (fun i=>.int (0 + (i:Int))) p f hn hD1 (fun i H hi _=>hi) (fun H _=>Nat.le_refl _) (fun i H x H' hi s y=>⟨y.2,y.1⟩) ht hs hd
section
variable {X:Cx} {K:PySem.W.Frag}
end
end L2
namespace L2
open PySem PySem.Spec PyProof.Rows
structure MSrc (K:PySem.W.Frag) (C:Addr) (m qual:Str) (st:Stmt):Prop where
  ex:∃ f fd,Fun K m qual st f fd∧Meth K C m f
theorem msrc_mk {K:PySem.W.Frag} {C:Addr} {m qual:Str} {st:Stmt} {f:Addr} {oc:Value} {od an:Option Addr} {osl:Array (Option Value)} {kV doc pm cdv ct:Value}
    (a:PySem.W.findIn K (.ref C) m=some (some (.ref f))) (n:PySem.W.isFn K (.ref f)=true) (l:K.lookup f=some ⟨oc,od,.func (PySem.W.fnOf m qual (defArgs st) (defBody st) (defScope st) .none kV doc pm an cdv ct),osl⟩)
    (c:PySem.W.codeIn K cdv qual=true) (k:PySem.W.keepIn K (.ref f)=true):MSrc K C m qual st:=⟨f,_,fun_mk l c k,⟨a,n,k⟩⟩
structure MDef (P:Program) (w:World) (K:PySem.W.Frag) (mg:Str→Option Value) (base:Heap) (k:Nat) (C:Addr) (m:Str) (ps:List Str) (sp:Sp):Prop where
  ex:∃ f fd,Meth K C m f∧Binds K fd ps []∧FnOk P w K mg base CX0 k f fd ps sp
section
variable {P:Program} {w:World} {K:PySem.W.Frag} {mg:Str→Option Value} {base:Heap}
theorem MSrc.mk' {C:Addr} {x qual:Str} {st:Stmt} {N ps:List Str} {k:Nat} {sp:Sp} (S:MSrc K C x qual st) (Sc:FnScope N ps (defScope st)) (len:∀ vs H Q E,sp vs H Q E→vs.length=ps.length)
    (hb:∀ (kV doc pm:Value) (an:Option Addr) (cdv ct:Value) (us:List Value),us.length=ps.length→bindArgs (PySem.W.fnOf x qual (defArgs st) (defBody st) (defScope st) .none kV doc pm an cdv ct) ⟨us,[]⟩=pure (ps.zip us))
    (hbody:∀ (f:Addr) (cdv:Value) (A:Around) (outer:List Env) (s:Shared) (H:Hp) (vs:List V) (Q:VK) (E:XK),Room k (A.deeper (envOfC qual (defScope st) s.heap.objs.size f cdv))→sp vs H Q E →
      ∃ t,PSs (cxOf CX0 P w K mg base N qual (defScope st) f cdv A outer s H E).nox (defBody st) t∧t { nx:=fun _ H'=>Q .non H',rt:=Q } (start N vs) H):MDef P w K mg base (k + 1) C x ps sp:=by
  obtain ⟨f,fd,F,hm⟩:=S.ex
  exact ⟨f,fd,hm,F.binds hb,F.ok Sc len (hbody f)⟩
end
section
variable {X:Cx} {k:Nat} {C:Addr} {x m:Str} {ps:List Str} {sp:Sp} {p pos apos:Pos} {e o:Expr} {es:List Expr} {ta:TE} {t:TA}
theorem pe_mdef {pl:Sem Bool} (D:MDef X.prog X.w X.K X.mg X.base k C m ps sp) (c:Cls X.K C) (he:PE X o ta) (hr:Room k X.A) (ha:PA X (e :: es) t)
    (hst:starEach (e :: es) X.env=(false,eval e X.env) :: starEach es X.env:=by rfl) (hpl:(backTo pos (starEach es X.env)).any (·.1)=false:=by rfl)
    (ht:eval (.Call (.Attribute o m apos) (e :: es) [] pos) X.env=(do
      let ov ← eval o X.env
      standAt apos.atName
      let (f,first) ← holding [ov] (getMethod ov m pl)
      callWith pos f first (backTo pos (starEach (e :: es) X.env)) (backToKw pos (keywordEach [] X.env))):=by rfl) :
    PE X (.Call (.Attribute o m apos) (e :: es) [] pos) (tMeth C m sp [] E0 ta t):=by
  obtain ⟨f,fd,hm,hb,F⟩:=D.ex
  exact pe_meth (pl:=pl) he c hm F hr hb .nil pass0 ha hst hpl ht
theorem pe_mdef0 {pl:Sem Bool} (D:MDef X.prog X.w X.K X.mg X.base k C m ps sp) (c:Cls X.K C) (he:PE X o ta) (hr:Room k X.A)
    (ht:eval (.Call (.Attribute o m apos) [] [] pos) X.env=(do
      let ov ← eval o X.env
      standAt apos.atName
      let (f,first) ← holding [ov] (getMethod ov m pl)
      callWith pos f first (backTo pos (starEach [] X.env)) (backToKw pos (keywordEach [] X.env))):=by rfl) :
    PE X (.Call (.Attribute o m apos) [] [] pos) (tMeth C m sp [] E0 ta tNil):=by
  obtain ⟨f,fd,hm,hb,F⟩:=D.ex
  exact pe_meth0 (pl:=pl) he c hm F hr hb .nil pass0 ht
theorem pe_mk (D:MDef X.prog X.w X.K X.mg X.base k C "__init__" ps sp) (mk:PySem.W.makesIn X.K C=true) (kp:PySem.W.keepIn X.K (.ref C)=true) (hm:X.mg x=some (.ref C)) (hr:Room (k + 1) X.A) (hg:Gl X x) (ha:PA X (e :: es) t)
    (hdb:(x == ("__debug__" : Str))=false:=by decide) (he:starEach (e :: es) X.env=(false,eval e X.env) :: starEach es X.env:=by rfl) (hpl:(backTo pos (starEach es X.env)).any (·.1)=false:=by rfl) :
    PE X (.Call (.Name x p) (e :: es) [] pos) (tMake C sp [] E0 t):=by
  obtain ⟨f,fd,M,hb,F⟩:=D.ex
  exact pe_make ⟨mk,M.at_,M.fn,kp⟩ F hr hg hm hb .nil pass0 ha hdb he hpl
end
theorem refs_ex {ys:List V} {P:Nat→Addr→Prop} (h:∀ (i:Nat) y,ys[i]? = some y→∃ l,y=.ref l∧P i l):∃ ws:List Addr,ys=ws.map V.ref∧∀ (i:Nat) a,ws[i]? = some a→P i a:=by
  induction ys generalizing P with
  | nil=>exact ⟨[],rfl,fun i a e=>by simp at e⟩
  | cons y r ih =>
    obtain ⟨ws,e,p⟩:=ih (P:=fun i l=>P (i + 1) l) fun i y' e=>h (i + 1) y' (by simpa using e)
    obtain ⟨l,e1,p1⟩:=h 0 y rfl
    refine ⟨l :: ws,by rw [e1,e]; rfl,fun i a e=>?_⟩
    cases i with
    | zero=>simp at e; subst e; exact p1
    | succ i=>exact p i a (by simpa using e)
theorem ref_at {ws:List Addr} {i:Nat} {x:V} (hx:(ws.map V.ref)[i]? = some x):∃ a,ws[i]? = some a∧x=.ref a:=by
  rw [List.getElem?_map] at hx
  cases e:ws[i]? with
  | none=>rw [e] at hx; cases hx
  | some z=>rw [e] at hx; exact ⟨z,rfl,(Option.some.inj hx).symm⟩
theorem putF_lt {f:Str} {v:V} {fs:List (Str × V)} {n:Nat} (h:fs.length≤n):(putF f v fs).length≤n + 1:=by
  have:=length_putF f v fs
  omega
def Rows (H:Hp) (ws:List Addr) (rows:List (List Int)):Prop:=ws.length=rows.length∧∀ (i:Nat) a row,ws[i]? = some a→rows[i]? = some row→H a=some (.lst (row.map V.int))
def Mat (H:Hp) (w:Addr) (rows:List (List Int)):Prop:=∃ ws:List Addr,H w=some (.lst (ws.map V.ref))∧Rows H ws rows
theorem Rows.same {H H':Hp} {ws:List Addr} {rows:List (List Int)} (r:Rows H ws rows) (s:Same H H'):Rows H' ws rows:=⟨r.1,fun i a row h1 h2=>s _ _ (r.2 i a row h1 h2)⟩
theorem Mat.same {H H':Hp} {w:Addr} {rows:List (List Int)} (m:Mat H w rows) (s:Same H H'):Mat H' w rows:=by
  obtain ⟨ws,h,r⟩:=m
  exact ⟨ws,s _ _ h,r.same s⟩
theorem Mat.len {H:Hp} {w:Addr} {rows:List (List Int)} (m:Mat H w rows):∃ ws:List Addr,H w=some (.lst (ws.map V.ref))∧(ws.map V.ref).length=rows.length:=by
  obtain ⟨ws,h,r⟩:=m
  exact ⟨ws,h,by rw [List.length_map]; exact r.1⟩
theorem Rows.at_ {H:Hp} {ws:List Addr} {rows:List (List Int)} (r:Rows H ws rows) {i:Nat} {row:List Int} (h:rows[i]? = some row):∃ a,ws[i]? = some a∧(ws.map V.ref)[i]? = some (.ref a)∧H a=some (.lst (row.map V.int)):=by
  have hi:i < ws.length:=by rw [r.1]; exact (List.getElem?_eq_some_iff.mp h).1
  exact ⟨ws[i],by simp [hi],by simp [hi],r.2 i _ row (by simp [hi]) h⟩
def hflds (b w:Addr) (r:Int):List (Str × V):=putF "rent" (.int r) (putF "worths" (.ref w) (putF "beds" (.ref b) []))
theorem hs1:¬ (("beds" : Str)="rent"):=by decide +kernel
theorem hs2:¬ (("beds" : Str)="worths"):=by decide +kernel
theorem hs3:¬ (("worths" : Str)="rent"):=by decide +kernel
theorem hf_beds (b w:Addr) (r:Int):(hflds b w r).lookup ("beds" : Str)=some (.ref b):=by
  unfold hflds
  rw [lookup_putF,if_neg hs1,lookup_putF,if_neg hs2,lookup_putF,if_pos rfl]
theorem hf_worths (b w:Addr) (r:Int):(hflds b w r).lookup ("worths" : Str)=some (.ref w):=by
  unfold hflds
  rw [lookup_putF,if_neg hs3,lookup_putF,if_pos rfl]
theorem hf_rent (b w:Addr) (r:Int):(hflds b w r).lookup ("rent" : Str)=some (.int r):=by
  unfold hflds
  rw [lookup_putF,if_pos rfl]
theorem hf_no (b w:Addr) (r:Int) {m:Str} (h1:¬ m="rent") (h2:¬ m="worths") (h3:¬ m="beds"):(hflds b w r).lookup m=none:=by
  unfold hflds
  rw [lookup_putF,if_neg h1,lookup_putF,if_neg h2,lookup_putF,if_neg h3]
  rfl
structure HCls (K:PySem.W.Frag) (mg:Str→Option Value) (C:Addr):Prop where
  mgC:mg "House" = some (.ref C)
  cl:Cls K C
  mks:PySem.W.makesIn K C=true
  kp:PySem.W.keepIn K (.ref C)=true
  nB:NoAttr K C "beds"
  nW:NoAttr K C "worths"
  nR:NoAttr K C "rent"
structure HouseAt (C:Addr) (H:Hp) (p:Addr) (beds:List Int) (worths:List (List Int)) (rent:Int):Prop where
  ex:∃ dx b w,H p=some (.ins C dx (hflds b w rent))∧H b=some (.lst (beds.map V.int))∧Mat H w worths
theorem HouseAt.same {C:Addr} {H H':Hp} {p:Addr} {beds:List Int} {worths:List (List Int)} {rent:Int} (h:HouseAt C H p beds worths rent) (s:Same H H'):HouseAt C H' p beds worths rent:=by
  obtain ⟨dx,b,w,h1,h2,h3⟩:=h.ex
  exact ⟨dx,b,w,s _ _ h1,s _ _ h2,h3.same s⟩
structure HouseOk (beds:List Int) (worths:List (List Int)) (rent:Int) (mp mr:Int):Prop where
  b1:1≤beds.length
  b2:(beds.length:Int)≤mr
  b3:∀ b∈beds,1≤b∧b≤4
  w1:1≤worths.length
  w2:(worths.length:Int)≤mp
  w3:(worths.length:Int)≤beds.sum
  w4:∀ row∈worths,row.length=beds.length
  w5:∀ row∈worths,∀ x∈row,-(10 ^ 40) < x∧x < 10 ^ 40
  r:-(10 ^ 40) < rent∧rent < 10 ^ 40
def sp_init (C:Addr):Sp:=fun vs H Q _ => ∃ (p dx b w:Addr) (beds:List Int) (worths:List (List Int)) (rent:Int),vs=[.ref p,.ref b,.ref w,.int rent]∧H p=some (.ins C dx [])∧H b=some (.lst (beds.map V.int))∧Mat H w worths ∧
  beds.length≤1000∧worths.length≤1000∧(worths.length:Int)≤beds.sum∧∀ H',HouseAt C H' p beds worths rent→(∀ c o,H c=some o→c≠p→H' c=some o)→Q .non H'
def sp_people (C:Addr):Sp:=fun vs H Q _ => ∃ (p:Addr) (beds:List Int) (worths:List (List Int)) (rent:Int),vs=[.ref p]∧HouseAt C H p beds worths rent∧Q (.int worths.length) H
def sp_rooms (C:Addr):Sp:=fun vs H Q _ => ∃ (p:Addr) (beds:List Int) (worths:List (List Int)) (rent:Int),vs=[.ref p]∧HouseAt C H p beds worths rent∧Q (.int beds.length) H
def sp_beds:Sp:=fun vs H Q _ => ∃ f m:Int,vs=[.int f,.int m]∧0≤m∧m≤10∧∀ (l:Addr) (bs:List Int) (H':Hp),New H l (.lst (bs.map V.int)) H'→(bs.length:Int)=m→(∀ b∈bs,1≤b∧b≤4)→Q (.ref l) H'
def sp_worths (K:PySem.W.Frag):Sp:=fun vs H Q _ => ∃ (a:Addr) (ns:List Int) (f p r:Int),vs=[.ref a,.int f,.int p,.int r]∧SqL K H a (ns.map V.int)∧ns.length≤63∧1≤p∧p≤10∧1≤r∧r≤10 ∧
  ∀ (w:Addr) (rows:List (List Int)) (H':Hp),Same H H'→Mat H' w rows→(rows.length:Int)=p→(∀ row∈rows,(row.length:Int)=r)→(∀ row∈rows,∀ x∈row,-(10 ^ 40) < x∧x < 10 ^ 40)→Q (.ref w) H'
def sp_house (K:PySem.W.Frag):Sp:=fun vs H Q _ => ∃ (a:Addr) (ns:List Int) (mp mr:Int),vs=[.ref a,.int mp,.int mr]∧SqL K H a (ns.map V.int)∧ns.length≤63∧1≤mp∧mp≤10∧1≤mr∧mr≤10 ∧
  ∀ (t b w:Addr) (beds:List Int) (worths:List (List Int)) (rent:Int) (H':Hp),Same H H'→H' t=some (.tup [.ref b,.ref w,.int rent])→H' b=some (.lst (beds.map V.int))→Mat H' w worths→HouseOk beds worths rent mp mr→Q (.ref t) H'
def lyingL (n:Nat) (way:List Int):List Int:=(List.range n).map fun (r:Nat)=>((way.count (r:Int):Nat):Int)
def openL (beds way:List Int):List Int:=((List.range beds.length).filter fun (r:Nat)=>decide (((way.count (r:Int):Nat):Int) < beds.getD r 0)).map fun (r:Nat)=>(r:Int)
def worthL (worths:List (List Int)) (way:List Int):Int:=((List.range worths.length).map fun i=>(worths.getD i []).getD (way.getD i 0).toNat 0).sum
def sp_lying (K:PySem.W.Frag) (C:Addr):Sp:=fun vs H Q _ => ∃ (p a:Addr) (beds:List Int) (worths:List (List Int)) (rent:Int) (way:List Int),vs=[.ref p,.ref a]∧HouseAt C H p beds worths rent∧beds.length≤1000∧SqL K H a (way.map V.int) ∧
  ∀ l H',New H l (.lst ((lyingL beds.length way).map V.int)) H'→Q (.ref l) H'
def sp_open (K:PySem.W.Frag) (C:Addr):Sp:=fun vs H Q _ => ∃ (p a:Addr) (beds:List Int) (worths:List (List Int)) (rent:Int) (way:List Int),vs=[.ref p,.ref a]∧HouseAt C H p beds worths rent∧beds.length≤1000∧SqL K H a (way.map V.int) ∧
  ∀ l H',New H l (.lst ((openL beds way).map V.int)) H'→Q (.ref l) H'
def sp_worthof (K:PySem.W.Frag) (C:Addr):Sp:=fun vs H Q _ => ∃ (p a:Addr) (beds:List Int) (worths:List (List Int)) (rent:Int) (way:List Int),vs=[.ref p,.ref a]∧HouseAt C H p beds worths rent∧worths.length≤1000∧SqL K H a (way.map V.int) ∧
  way.length=worths.length∧(∀ row∈worths,∀ r∈way,0≤r∧r < (row.length:Int))∧∀ H',Same H H'→Q (.int (worthL worths way)) H'
theorem cut_between (ns:List Int) {a b:Nat} (h1:a≤b) (h2:b≤ns.length):cutV (ns.map V.int) (some (a:Int)) (some (b:Int))=((ns.drop a).take (b - a)).map V.int:=by
  unfold cutV
  rw [List.length_map,HT.sIx_nat,HT.sIx_nat,Nat.min_eq_left (Nat.le_trans h1 h2),Nat.min_eq_left h2,List.map_take,List.map_drop]
theorem compMap {K:PySem.W.Frag} {a D:Addr} {te:TE} {σf:St} {H1:Hp} {Q:VK} (ns:List Int) (f:Int→Int) (hS:SqL K H1 a (ns.map V.int)) (hz:ns.length < sizeLine) (hD1:H1 D=none)
    (hs:∀ z∈ns,∀ H (N:VK),Same H1 H→N (.int (f z)) H→te (some (.int z) :: σf) H N) (hd:∀ H,Same H1 H→H D=some (.lst ((ns.map f).map V.int))→Q (.ref D) H):CompW (Itl K a) D (gName 0) tYes te (none :: σf) (upd H1 D (.lst [])) Q:=by
  refine comp_list (fun i y _ => ∃ z,ns[i]? = some z∧y=.int (f z)) hS (by simpa using hz) hD1 (fun _ _ _ _ _ h=>h) ?_ ?_
  · rintro i x H ys N hx s d hN
    obtain ⟨z,h1,rfl⟩:=int_at hx
    exact hs z (List.mem_of_getElem? h1) H N s (hN _ _ (Same.refl _) ⟨z,h1,rfl⟩)
  · rintro ys H s d l r
    have e:ys=(ns.map f).map V.int:=ints_of (by simpa using l) fun i y e=>by
      obtain ⟨z,h1,h2⟩:=r i y e
      exact ⟨_,by rw [List.getElem?_map,h1]; rfl,h2⟩
    rw [e] at d
    exact hd H s d
theorem Rows.snoc {H H':Hp} {ws:List Addr} {rows:List (List Int)} {c:Addr} {row:List Int} (r:Rows H ws rows) (k:∀ a∈ws,∀ o,H a=some o→H' a=some o) (hc:H' c=some (.lst (row.map V.int))):Rows H' (ws ++ [c]) (rows ++ [row]):=by
  refine ⟨by simp [r.1],fun i a rw' h1 h2=>?_⟩
  by_cases hi:i < ws.length
  · rw [List.getElem?_append_left hi] at h1
    rw [List.getElem?_append_left (by rw [← r.1]; exact hi)] at h2
    exact k a (List.mem_of_getElem? h1) _ (r.2 i a rw' h1 h2)
  · have hi2:i=ws.length:=by
      have:=(List.getElem?_eq_some_iff.mp h1).1
      simp at this
      omega
    subst hi2
    simp at h1
    rw [r.1] at h2
    simp at h2
    subst h1 h2
    exact hc
theorem sum_ge {bs:List Int} (h:∀ b∈bs,1≤b):(bs.length:Int)≤bs.sum:=by
  induction bs with
  | nil=>simp
  | cons b r ih =>
    have h1:=h b List.mem_cons_self
    have h2:=ih fun x hx=>h x (List.mem_cons_of_mem _ hx)
    simp
    omega
theorem sum_le {bs:List Int} {m:Int} (h:∀ b∈bs,b≤m):bs.sum≤m * bs.length:=by
  induction bs with
  | nil=>simp
  | cons b r ih =>
    have h1:=h b List.mem_cons_self
    have h2:=ih fun x hx=>h x (List.mem_cons_of_mem _ hx)
    have e:m * (((b :: r).length:Nat):Int)=m * (r.length:Int) + m:=by
      rw [List.length_cons,Int.natCast_add,Int.mul_add]
      simp
    rw [e]
    simp
    omega
theorem compMapV {K:PySem.W.Frag} {a D:Addr} {te:TE} {σf:St} {H1:Hp} {Q:VK} (ns:List Int) (f:Int→V) (hS:SqL K H1 a (ns.map V.int)) (hz:ns.length < sizeLine) (hD1:H1 D=none)
    (hs:∀ z∈ns,∀ H (N:VK),Same H1 H→(∀ H',Same H H'→N (f z) H')→te (some (.int z) :: σf) H N) (hd:∀ H,Same H1 H→H D=some (.lst (ns.map f))→Q (.ref D) H):CompW (Itl K a) D (gName 0) tYes te (none :: σf) (upd H1 D (.lst [])) Q:=by
  refine comp_list (fun i y _ => ∃ z,ns[i]? = some z∧y=f z) hS (by simpa using hz) hD1 (fun _ _ _ _ _ h=>h) ?_ ?_
  · rintro i x H ys N hx s d hN
    obtain ⟨z,h1,rfl⟩:=int_at hx
    exact hs z (List.mem_of_getElem? h1) H N s fun H' s'=>hN _ _ s' ⟨z,h1,rfl⟩
  · rintro ys H s d l r
    have e:ys=ns.map f:=by
      refine List.ext_getElem? fun i=>?_
      rw [List.getElem?_map]
      cases q:ys[i]? with
      | none =>
        have:ns.length≤i:=by
          have:=List.getElem?_eq_none_iff.mp q
          simp at l
          omega
        rw [List.getElem?_eq_none_iff.mpr this]
        rfl
      | some y =>
        obtain ⟨z,h1,h2⟩:=r i y q
        rw [h1,h2]
        rfl
    rw [e] at d
    exact hd H s d
theorem compRangeV {n:Nat} {D:Addr} {te:TE} {σf:St} {H1:Hp} {Q:VK} (f:Nat→V) (hz:n < sizeLine) (hD1:H1 D=none)
    (hs:∀ (i:Nat),i < n→∀ H (N:VK),Same H1 H→(∀ H',Same H H'→N (f i) H')→te (some (.int (0 + (i:Int))) :: σf) H N) (hd:∀ H,Same H1 H→H D=some (.lst ((List.range n).map f))→Q (.ref D) H):CompW (Itr 0 n) D (gName 0) tYes te (none :: σf) (upd H1 D (.lst [])) Q:=by
  refine comp_range (fun i y _=>y=f i) hz hD1 (fun _ _ _ _ _ h=>h) ?_ ?_
  · rintro i H ys N hi s d hN
    exact hs i hi H N s fun H' s'=>hN _ _ s' rfl
  · rintro ys H s d l r
    have e:ys=(List.range n).map f:=by
      refine List.ext_getElem? fun i=>?_
      rw [List.getElem?_map]
      cases q:ys[i]? with
      | none =>
        have:=List.getElem?_eq_none_iff.mp q
        rw [List.getElem?_eq_none_iff.mpr (by simp; omega)]
        rfl
      | some y =>
        have hi:=(List.getElem?_eq_some_iff.mp q).1
        rw [r i y q,List.getElem?_range (by omega)]
        rfl
    rw [e] at d
    exact hd H s d
def isWayB (beds:List Int) (n:Nat) (row:List Int):Bool:=decide (row.length=n) && row.all (fun r=>decide (0≤r∧r < (beds.length:Int))) && (List.range beds.length).all (fun r=>decide (((row.count (r:Int):Nat):Int)≤beds.getD r 0))
def sp_isway (K:PySem.W.Frag) (C:Addr):Sp:=fun vs H Q _ => ∃ (p a:Addr) (beds:List Int) (worths:List (List Int)) (rent:Int) (row:List Int),vs=[.ref p,.ref a]∧HouseAt C H p beds worths rent∧beds.length≤1000∧row.length≤1000∧SqL K H a (row.map V.int) ∧
  ∀ H',Same H H'→Q (.bl (isWayB beds worths.length row)) H'
end L2
namespace L2
open PySem PySem.Spec PyProof.Rows
section
variable {X:Cx} {K:PySem.W.Frag}
end
end L2
namespace L2
open PySem PySem.Spec PyProof.Rows
section
variable {X:Cx} {scope:Scope} {y:Str}
variable {pins:List (Addr × Obj)} {σ:St} {H:Hp} {s:Shared}
end
section
variable {X:Cx} {tg iter elt:Expr} {ifs:List Expr} {scope:Scope} {pos:Pos} {pins:List (Addr × Obj)} {σ:St} {H:Hp} {s:Shared}
end
end L2
namespace L2
open PySem PySem.Spec PyProof.Rows
section
variable {X:Cx} {st:Stmt} {rest:List Stmt} {t u:TS} {pos:Pos}
end
section
variable {X:Cx} {o:Expr} {to:TE} {K:PySem.W.Frag} {apos cpos p1 p2:Pos} {j1 j2:Nat}
end
end L2
namespace L2
open PySem PySem.Spec PyProof.Rows
end L2
namespace L2
open PySem PySem.Spec PyProof.Rows
structure ExcAt (P:Program) (w:World) (outer:List Env) (H:Hp) (s:Shared) (E:XK) (e:Value) (s':Shared) (ea:Addr) (cls a0:Value) (H':Hp) (B:Heap):Prop where
  is_:e=.ref ea
  wish:E cls none H'
  os:s'.os=s.os
  bare:AllBare s'.gens
  un:Un (frs outer) [] H H' s.heap s'.heap
  hokB:HOk P w H' B
  fly:Heap.FlyingW B outer ea cls a0 s'.heap
  old:∀ b o,s.heap.get? b=some o→b ∉ frs outer→∃ o',B.get? b=some o'
def CXR (P:Program) (w:World):CXT:=fun outer H s E e s' => ∃ ea cls a0 H' B,ExcAt P w outer H s E e s' ea cls a0 H' B
section
variable {X:Cx} {pins:List (Addr × Obj)} {σ:St} {H:Hp} {s:Shared}
theorem Inv.thrown {E:XK} {F:Value→Shared→Prop} {h1:Heap} {e:Addr} {cls:Value} {args:List Value} (I:Inv X pins σ H s) (hX:X.ex=[]) (hst:X.stack=X.env :: X.outer) (hf:X.env.frame=some X.env.locals)
    (m:Heap.MadeExcOf s.heap h1 e cls args) (q:E cls none H) :
    wpAny (model X.prog X.w) X.A (leaving X.env (.ref e)) (fun _ s''=>CXR X.prog X.w X.outer X.H₀ X.s₀ E (.ref e) s'') F { s with heap:=h1 }:=by
  have fr:=I.stack
  have sub:∀ b o,X.s₀.heap.get? b=some o→b∈frs X.stack→b∈X.fs:=fun b o h0 hb=>by
    rcases List.mem_cons.mp (I.stkSub b hb) with z | z
    · exact absurd (Heap.lt_size h0) (by rw [z]; exact Nat.not_lt.mpr I.ok.above)
    · exact z
  have sup:∀ b,b∈X.fs→b∈frs X.stack:=fun b hb=>by
    rw [hst]
    obtain ⟨en,h2,h3⟩:=List.mem_filterMap.mp hb
    exact List.mem_filterMap.mpr ⟨en,.tail _ h2,h3⟩
  have nx:∀ b,b ∉ X.ex:=fun b z=>by rw [hX] at z; cases z
  have hfr:X.A.frames=some (X.env :: X.outer):=by rw [← hst]; exact I.ok.frames
  have frB:s.heap.FunFrames (PySem.W.hideAll s.heap (frs X.stack)) (X.env :: X.outer):=by
    rw [← hst]
    exact PySem.W.funFrames_hide fr fun en he a ha=>List.mem_filterMap.mpr ⟨en,he,ha⟩
  refine wpAny_leaves_madeW (base:=PySem.W.hideAll s.heap (frs X.stack)) (h:=s.heap) hfr hf (fun b o z=>PySem.W.of_hideAll _ z) frB m fun h2 t x1 x2 x3 x4=>?_
  have st:∀ b o,s.heap.get? b=some o→b ∉ frs X.stack→h2.get? b=some o:=fun b o z n=>x1.1 b o (PySem.W.hideAll_get _ z n)
  have sl:∀ b o,s.heap.get? b=some o→b∈frs X.stack→∃ sl,h2.get? b=some { o with slots:=sl }:=fun b o z hb=>by
    obtain ⟨_,o',ho',nf⟩:=fr.mem hb
    rw [z] at ho'
    cases ho'
    exact x4 b o (m.keeps b o z) nf
  refine ⟨e,cls,.ref t,H,PySem.W.hideAll s.heap (frs X.stack),rfl,q,I.os,I.bare,⟨fun b o e0 n hb _=>?_,fun b o e0 n hb _=>?_,fun b o e0 n _=>I.base.free b o e0 n (nx b),fun b o e0 _=>?_,I.base.tups,I.base.frzs,I.base.tbls⟩,fun a o ea=>?_,x1,fun b o e0 hb=>?_⟩
  · exact st b o (I.base.keep b o e0 n hb (nx b)) fun z=>hb (sub b o e0 z)
  · obtain ⟨sl1,e1⟩:=I.base.slot b o e0 n hb (nx b)
    obtain ⟨sl2,e2⟩:=sl b _ e1 (sup b hb)
    exact ⟨sl2,e2⟩
  · obtain ⟨o',e1⟩:=I.base.there b o e0 (nx b)
    by_cases hb:b∈frs X.stack
    · obtain ⟨sl2,e2⟩:=sl b _ e1 hb
      exact ⟨_,e2⟩
    · exact ⟨_,st b _ e1 hb⟩
  · refine (I.hok a o ea).stay (fun b u hc z=>PySem.W.hideAll_get _ z fun hb=>?_) (fun _ q=>q) fun _ _ q=>q
    have nb:=I.stkFree b hb
    rcases hc with hc | hc
    · rw [hc,ea] at nb; cases nb
    · rw [hc] at nb; cases nb
  · obtain ⟨o',e1⟩:=I.base.there b o e0 (nx b)
    exact ⟨o',PySem.W.hideAll_get _ e1 fun z=>hb (sub b o e0 z)⟩
end
def veMro:List Value:=[.type "ValueError",.type "Exception",.type "BaseException",.type "object"]
theorem exc_of_in {K:PySem.W.Frag} {h:Heap} {C:Addr} {bmB:List Value} {newId:String} (X:K.In h) (q:PySem.W.excIn K C bmB newId=true) :
    ∃ bm N nm q bs hdct sn sub ab col dd k0 k1 k2 k3 k5 mN,h.get? C=some (excClassObj nm q C N bs bm hdct sn sub ab col dd k0 k1 k2 k3 k5 newId)∧h.Ns N mN∧mN "__init__" = none∧OwnTail h bmB bm:=by
  unfold PySem.W.excIn at q
  split at q
  · rename_i dd cd sl ho
    split at q
    · rename_i C' bm k0 k1 k2 k3 n k5 hm hs
      simp only [Bool.and_eq_true,beq_iff_eq,Bool.not_eq_true'] at q
      obtain ⟨⟨⟨⟨⟨rfl,rfl⟩,hdel⟩,ht⟩,hok⟩,hni⟩:=q
      obtain ⟨nm,bs,mro,ns,qn,hd,sn,sub,ab,col,del⟩:=cd
      dsimp only at hm hdel hok hni
      subst hm hdel
      have hsl:sl=#[k0,k1,k2,k3,some (.builtin n),k5]:=by
        obtain ⟨l⟩:=sl
        simp only at hs
        rw [hs]
      subst hsl
      exact ⟨bm,ns,nm,qn,bs,hd,sn,sub,ab,col,dd,k0,k1,k2,k3,k5,_,X _ _ ho,.of_isNs (PySem.W.isNs_of_in X hok),PySem.W.nsMap_none_of_in X hok hni,PySem.W.tail_of_in X ht⟩
    · cases q
  · cases q
def Throws (X:Cx) (E:XK):Prop:=∀ (pins:List (Addr × Obj)) (σ:St) (H:Hp) (s:Shared) (h':Heap) (e:Addr) (cls:Value) (args:List Value),Inv X pins σ H s→Heap.MadeExcOf s.heap h' e cls args→E cls none H→X.xe (.ref e) { s with heap:=h' }
theorem throws_def {P:Program} {w:World} {K:PySem.W.Frag} {mg:Str→Option Value} {base:Heap} {N:List Str} {qual:Str} {scope:Scope} {f:Addr} {cd:Value} {A:Around} {outer:List Env} {s:Shared} {H:Hp} {E:XK} :
    Throws (cxOf (CXR P w) P w K mg base N qual scope f cd A outer s H E) E:=fun pins σ H1 s1 h' e cls args I m q=>I.thrown rfl rfl rfl m q
def tRaise (C:Addr) (E:XK) (t:TA):TS:=fun _ σ H=>t σ H fun vs H1=>vs.length≤sizeLine∧E (.ref C) none H1
theorem ps_raise {X:Cx} {E:XK} {x:Str} {C:Addr} {np cpos pos:Pos} {e:Expr} {es:List Expr} {t:TA} (hxe:Throws X E) (hc:X.calm=true) (hg:Gl X x) (hm:X.mg x=some (.ref C)) (q:PySem.W.excIn X.K C veMro "ValueError.__new__" = true) (ha:PA X (e :: es) t)
    (hdb:(x == ("__debug__" : Str))=false:=by decide) (he:starEach (e :: es) X.env=(false,eval e X.env) :: starEach es X.env:=by rfl) (hpl:(backTo cpos (starEach (e :: es) X.env)).any (·.1)=false:=by rfl) :
    PS X (.Raise (some (.Call (.Name x np) (e :: es) [] cpos)) none pos) (tRaise C E t):=by
  intro pins s σ H D I h
  obtain ⟨bm,N,nm,qn,bs,hdct,sn,sub,ab,col,dd,k0,k1,k2,k3,k5,mN,hC,hN,hni,TL⟩:=exc_of_in (h:=X.base) I.ok.mod.kin q
  refine wpAny_Raise_call_subU (Bn:="ValueError") (C:=C) (nm:=nm) (q:=qn) (N:=N) (bs:=bs) (bm:=bm) (hdct:=hdct) (sn:=sn) (sub:=sub) (ab:=ab) (col:=col) (dd:=dd) (k0:=k0) (k1:=k1) (k2:=k2) (k3:=k3) (k5:=k5) (mN:=mN) PySem.F.excBase_ValueError (by decide) PySem.F.excBase_ValueError (TL.hasType (by decide)) (I.ok.hd hc) hpl hni (ld_glob I hg hm ⟨rfl,?_⟩ hdb)
  rw [he]
  refine Calls.evalArgs_plain ?_
  have hh:=ha cpos pins s σ H _ I h
  rw [he] at hh
  refine thn hh fun us s2 ⟨vs,H2,I2,r,hl,w2⟩=>⟨rfl,by show us.length≤_; rw [← r.length]; exact hl,I2.bk _ _ hC,hN.keeps I2.bk,TL.keeps I2.bk,fun h' ea mm=>?_⟩
  exact hxe pins σ H2 s2 h' ea _ _ I2 mm w2
theorem PS.nox {X:Cx} {st:Stmt} {t:TS} (h:PS X.nox st t):PS X st t:=fun pins s σ H D I hw =>
  wpAny_mono (h pins s σ H D (I.wish _) hw) (fun f s' q=>q.unwish) fun _ _ q=>q.elim
theorem PA.nox {X:Cx} {es:List Expr} {t:TA} (h:PA X.nox es t):PA X es t:=fun pos pins s σ H Q I hw =>
  wpAny_mono (h pos pins s σ H Q (I.wish _) hw) (fun f s' ⟨vs,H',J,r,q⟩=>⟨vs,H',J.unwish,r,q⟩) fun _ _ q=>q.elim
structure DefX (P:Program) (w:World) (K:PySem.W.Frag) (mg:Str→Option Value) (base:Heap) (k:Nat) (x:Str) (ps:List Str) (sp:Sp):Prop where
  ex:∃ f fd,mg x=some (.ref f)∧PySem.W.keepIn K (.ref f)=true∧Binds K fd ps []∧FnOk P w K mg base (CXR P w) k f fd ps sp
section
variable {P:Program} {w:World} {K:PySem.W.Frag} {mg:Str→Option Value} {base:Heap}
theorem Fun.okX {x qual:Str} {st:Stmt} {f:Addr} {fd:FuncData} {N ps:List Str} {k:Nat} {sp:Sp} (F:Fun K x qual st f fd) (S:FnScope N ps (defScope st)) (len:∀ vs H Q E,sp vs H Q E→vs.length=ps.length)
    (hbody:∀ (cdv:Value) (A:Around) (outer:List Env) (s:Shared) (H:Hp) (vs:List V) (Q:VK) (E:XK),Room k (A.deeper (envOfC qual (defScope st) s.heap.objs.size f cdv))→sp vs H Q E →
      ∃ t,PSs (cxOf (CXR P w) P w K mg base N qual (defScope st) f cdv A outer s H E) (defBody st) t∧t { nx:=fun _ H'=>Q .non H',rt:=Q } (start N vs) H):FnOk P w K mg base (CXR P w) (k + 1) f fd ps sp:=by
  obtain ⟨oc,od,kV,doc,pm,an,cdv,ct,osl,rfl,lk,hcd⟩:=F.ex
  exact fn_of lk hcd S len fun A outer s H vs Q E hr hsp=>hbody cdv A outer s H vs Q E hr hsp
theorem Src.mkX {x qual:Str} {st:Stmt} {N ps:List Str} {k:Nat} {sp:Sp} (S:Src K mg x qual st) (Sc:FnScope N ps (defScope st)) (len:∀ vs H Q E,sp vs H Q E→vs.length=ps.length)
    (hb:∀ (kV doc pm:Value) (an:Option Addr) (cdv ct:Value) (us:List Value),us.length=ps.length→bindArgs (PySem.W.fnOf x qual (defArgs st) (defBody st) (defScope st) .none kV doc pm an cdv ct) ⟨us,[]⟩=pure (ps.zip us))
    (hbody:∀ (f:Addr) (cdv:Value) (A:Around) (outer:List Env) (s:Shared) (H:Hp) (vs:List V) (Q:VK) (E:XK),Room k (A.deeper (envOfC qual (defScope st) s.heap.objs.size f cdv))→sp vs H Q E →
      ∃ t,PSs (cxOf (CXR P w) P w K mg base N qual (defScope st) f cdv A outer s H E) (defBody st) t∧t { nx:=fun _ H'=>Q .non H',rt:=Q } (start N vs) H):DefX P w K mg base (k + 1) x ps sp:=by
  obtain ⟨f,fd,F,hm⟩:=S.ex
  exact ⟨f,fd,hm,F.kp,F.binds hb,F.okX Sc len (hbody f)⟩
end
end L2
namespace L2
open PySem PySem.W PySem.Spec PyProof.Rows PySem.Calls Builtin Builtin.ObjectAttr Builtin.Getset_descriptor
structure ExcK (K:Frag) (D:Addr):Prop where
  ga:findIn K (.ref D) "__getattribute__" = some (some (.builtin "BaseException.__getattribute__"))
  gt:findIn K (.ref D) "__getattr__" = some none
  cl:findIn K (.ref D) "__class__" = some (some (.builtin "object.__class__"))
  sg:specialIn K (.builtin "object.__class__") "__get__" = some (some (.builtin "getset_descriptor.__get__"))
  tk:takesIn K (.builtin "object.__class__")=some true
  be:mroIn K D (.type "BaseException")=some true
  ob:mroIn K D (.type "object")=some true
  at_:∃ cd,clsIn K D=some cd
section
variable {prog:Program} {w:World} {A:Around} {E:Value→Shared→Prop} {s:Shared} {K:Frag} {x D:Addr} {o:Obj}
theorem exc_type {M:Model} {h:Heap} (hx:h.get? x=some o) (hc:o.cls=.ref D):Looks M h (typeOf (.ref x)) (.ref D):=hc ▸ (Looks.ld hx).andThen .now
def IsExc (x D:Addr) (h:Heap):Prop:=∃ o,h.get? x=some o∧o.cls=.ref D
end
end L2
namespace L2
open PySem PySem.Spec PyProof.Rows
def excO (ea C:Addr):HO:=.ext (IsExc ea C)
theorem excO_ok {P:Program} {w:World} {H:Hp} {h:Heap} {ea C:Addr} (x:IsExc ea C h):ObjOk P w H h ea (excO ea C):=by
  obtain ⟨o,ho,hc⟩:=x
  exact ⟨⟨o,ho,hc⟩,⟨o,ho⟩,fun h1 h2 ⟨o1,e1,c1⟩ k=>⟨o1,k o1 e1,c1⟩⟩
theorem ObjOk.got {P:Program} {w:World} {H:Hp} {h:Heap} {a:Addr} {o:HO} (x:ObjOk P w H h a o):∃ ob,h.get? a=some ob:=by
  cases o with
  | lst xs=>obtain ⟨_,_,_,_,e⟩:=x; exact ⟨_,e⟩
  | tup xs=>obtain ⟨_,_,_,ob,e,_⟩:=x; exact ⟨_,e⟩
  | dK kvs=>obtain ⟨_,_,_,_,o,_,_,e,_⟩:=x; exact ⟨_,e⟩
  | dT kvs=>obtain ⟨_,_,_,_,o,_,_,e,_⟩:=x; exact ⟨_,e⟩
  | set S n=>obtain ⟨o,_,_,_,e,_⟩:=x; exact ⟨_,e⟩
  | ins C dx fs=>obtain ⟨_,_,_,e,_⟩:=x; exact ⟨_,e⟩
  | own y=>obtain ⟨_,e⟩:=x; exact ⟨_,e⟩
  | xd fs=>obtain ⟨_,⟨_,_,_,e,_⟩,_⟩:=x; exact ⟨_,e⟩
  | rng lo hi=>obtain ⟨_,_,_,e⟩:=x; exact ⟨_,e⟩
  | frz ob u=>obtain ⟨e,_⟩:=x; exact ⟨_,e⟩
  | tbl ps=>exact ⟨_,(show h.get? a=some _ from x)⟩
  | met f y=>exact ⟨_,(show h.get? a=some _ from x)⟩
  | ext φ=>obtain ⟨_,⟨_,e⟩,_⟩:=x; exact ⟨_,e⟩
abbrev Cx.hot (X:Cx) (v:Value):Cx:={ X with A:=X.A.mark (some v),calm:=false,xe:=fun _ _=>False }
section
variable {X:Cx} {pins:List (Addr × Obj)} {σ:St} {H:Hp} {s:Shared} {v:Value}
theorem Cx.Ok.hot (ok:X.Ok) (v:Value):(X.hot v).Ok :=
  ⟨ok.mod,ok.kind,ok.glob,ok.blt,ok.above,ok.inj,ok.has,ok.cab,fun q=>(nomatch q),ok.frames,ok.stk,ok.exf,ok.bs,ok.bsz,ok.noex,ok.exfs,ok.funs,ok.frf⟩
theorem Inv.hot (I:Inv X pins σ H s) (v:Value):Inv (X.hot v) pins σ H s:=⟨I.ok.hot v,I.os,I.bare,I.base,I.loc,I.cell,I.free,I.freeC,I.pin,I.hok,I.len⟩
theorem Inv.cool (I:Inv (X.hot v) pins σ H s) (ok:X.Ok):Inv X pins σ H s:=⟨ok,I.os,I.bare,I.base,I.loc,I.cell,I.free,I.freeC,I.pin,I.hok,I.len⟩
theorem Inv.caught {E:XK} {e:Value} {s':Shared} {ea C:Addr} {a0:Value} {H':Hp} {B h6:Heap} (I:Inv X pins σ H s) (x:ExcAt X.prog X.w X.stack H s E e s' ea (.ref C) a0 H' B)
    (fly6:Heap.FlyingW B X.stack ea (.ref C) a0 h6) (sm:s'.heap.UpToSlots h6):New H' ea (excO ea C) (upd H' ea (excO ea C))∧Inv X pins σ (upd H' ea (excO ea C)) { s' with heap:=h6 }:=by
  have hea:H' ea=none:=by
    cases q:H' ea with
    | none=>rfl
    | some o =>
      obtain ⟨ob,z⟩:=(x.hokB ea o q).got
      rw [x.fly.2.1] at z; cases z
  obtain ⟨oe,ws,T,oT,ts,t1,⟨t2,t3⟩,t4,t5⟩:=x.fly.2.2.2
  have nofr:ea ∉ frs X.stack:=fun hb=>by
    obtain ⟨_,o,ho,nf⟩:=x.fly.2.2.1.mem hb
    rw [t1] at ho; cases ho
    exact nf _ t4
  have new:∀ b o,s.heap.get? b=some o→b≠ea:=fun b o q z=>by
    subst z
    obtain ⟨o',z'⟩:=x.old b o q nofr
    rw [x.fly.2.1] at z'; cases z'
  have nU:∀ b u,H' b=some u→b≠ea:=fun b u q z=>by rw [z,hea] at q; cases q
  refine ⟨new_upd hea,I.call' (ch:=[]) x.os ⟨fun b o q n hb _=>?_,fun b o q n hb _=>?_,fun b o q n _=>?_,fun b o q _=>?_,fun b xs q=>?_,fun b o u q=>?_,fun b ps q=>?_⟩ (fun b u q=>?_) x.bare fun b z=>nomatch z⟩
  · have e1:=x.un.keep b o q n hb (by simp)
    obtain ⟨o',z⟩:=x.old b o q hb
    have e2:=x.fly.1 b o' z
    rw [e1] at e2; cases e2
    exact fly6.1 b o z
  · obtain ⟨sl,e1⟩:=x.un.slot b o q n hb (by simp)
    obtain ⟨_,o',ho',nf⟩:=x.fly.2.2.1.mem hb
    obtain ⟨sl',e2⟩:=sm b o' ho' nf
    rw [e1] at ho'; cases ho'
    exact ⟨sl',e2⟩
  · rw [upd_ne (new b o q)]
    exact x.un.free b o q n (by simp)
  · by_cases hb:b∈frs X.stack
    · obtain ⟨_,o',ho',nf⟩:=x.fly.2.2.1.mem hb
      obtain ⟨sl',e2⟩:=sm b o' ho' nf
      exact ⟨_,e2⟩
    · obtain ⟨o',z⟩:=x.old b o q hb
      exact ⟨o',fly6.1 b o' z⟩
  · have z:=x.un.tups b xs q
    rw [upd_ne (nU b _ z)]; exact z
  · have z:=x.un.frzs b o u q
    rw [upd_ne (nU b _ z)]; exact z
  · obtain ⟨more,z⟩:=x.un.tbls b ps q
    exact ⟨more,by rw [upd_ne (nU b _ z)]; exact z⟩
  · by_cases hb:b=ea
    · subst hb
      rw [upd_same] at q; cases q
      obtain ⟨oe,ws,_,_,_,t1,⟨t2,_⟩,_⟩:=fly6.2.2.2
      exact excO_ok ⟨oe,t1,t2⟩
    · rw [upd_ne hb] at q
      exact (x.hokB b u q).stay (fun c o' _ z=>fly6.1 c o' z) (fun c z=>by rw [upd_ne (nU c _ z)]; exact z) (fun c xs z=>by rw [upd_ne (nU c _ z)]; exact z)
end
def Goes (X:Cx) (pins:List (Addr × Obj)) (σ:St) (E:XK) (F:Value→Shared→Prop):Prop:=∀ (H2:Hp) (s2:Shared) (e:Value) (s':Shared),Inv X pins σ H2 s2→CXR X.prog X.w X.stack H2 s2 E e s'→F e s'
def PEx (X:Cx) (e:Expr) (t:XK→TE):Prop:=∀ (pins:List (Addr × Obj)) (s:Shared) (σ:St) (H:Hp) (Q:VK) (E:XK) (F:Value→Shared→Prop),Inv X pins σ H s→t E σ H Q→Goes X pins σ E F→wpAny (model X.prog X.w) X.A (eval e X.env) (EP X pins σ Q) F s
def PSx (X:Cx) (st:Stmt) (t:XK→TS):Prop:=∀ (pins:List (Addr × Obj)) (s:Shared) (σ:St) (H:Hp) (D:Ends) (E:XK) (F:Value→Shared→Prop),Inv X pins σ H s→t E D σ H→Goes X pins σ E F→wpAny (model X.prog X.w) X.A (exec st X.env) (SP X pins D) F s
section
variable {X:Cx} {k:Nat} {f C:Addr} {fd:FuncData} {ps:List Str} {sp:Sp} {x m:Str} {p pos:Pos} {e:Expr} {es:List Expr} {t:TA}
theorem run_fnX {CX:CXT} {E:XK} {F:Value→Shared→Prop} {pins:List (Addr × Obj)} {σ:St} {H:Hp} {s:Shared} {Q:VK} {us:List Value} {vs:List V} (G:FnOk X.prog X.w X.K X.mg X.base CX k f fd ps sp) (hr:Room k X.A) (hb:Binds X.K fd ps [])
    (hx:∀ e s',CX X.stack H s E e s'→F e s') (I:Inv X pins σ H s) (r:Vals vs us) (h:sp vs H Q E):wpAny (model X.prog X.w) X.A (call (.ref f) us) (EP X pins σ Q) F s:=by
  have hl:us.length=ps.length:=by rw [← r.length]; exact G.len _ _ _ _ h
  have hb':=hb s us I.kIn (by rw [List.append_nil]; exact hl)
  rw [List.append_nil] at hb'
  refine wpAny_call (codeAny_mono (G.run X.A X.stack s H ⟨us,[]⟩ us vs Q E hr I.env0 hb' r h) fun r s' hq=>?_)
  cases r with
  | error e=>exact hx e s' hq
  | ok fl =>
    cases fl with
    | ret u=>exact I.after hq
    | next=>exact False.elim hq
    | brk=>exact False.elim hq
    | cont=>exact False.elim hq
theorem pe_defX (D:DefX X.prog X.w X.K X.mg X.base k x ps sp) (hr:Room k X.A) (hg:Gl X x) (ha:PA X.nox (e :: es) t) (hdb:(x == ("__debug__" : Str))=false:=by decide) (he:starEach (e :: es) X.env=(false,eval e X.env) :: starEach es X.env:=by rfl)
    (hpl:(backTo pos (starEach es X.env)).any (·.1)=false:=by rfl):PEx X (.Call (.Name x p) (e :: es) [] pos) (fun E=>tCall sp [] E t):=by
  intro pins s σ H Q E F I h hx
  obtain ⟨f,fd,hm,hk,hb,G⟩:=D.ex
  refine wpAny_Call_Name_kw (ld_glob I hg hm ?_ hdb)
  refine PySem.W.callWith_K (h₀:=X.base) I.ok.mod.kin hk (wpAny_mono (ha pos pins s σ H _ (I.wish _) h) (fun us s1 ⟨vs,H1,I1,r,q⟩=>⟨I1.unwish.kIn,?_⟩) fun _ _ z=>z.elim) he hpl
  simp only [List.append_nil] at q
  exact run_fnX G hr hb (fun e s' z=>hx H1 s1 e s' I1.unwish z) I1.unwish r q
theorem ps_setX {i:Nat} {te:XK→TE} {pos':Pos} (hN:X.N.Nodup) (hi:X.N[i]? = some x) (hx:Loc X.env.scope x) (he:PEx X e te) (hs:swapsWith e (some (.Name x pos')) pos.line X.env=pure false:=by rfl) (hf:X.fn x=true∨X.env.scope.names.lookup x=some .local:=by first | exact .inl rfl | exact .inr rfl | assumption) :
    PSx X (.Assign [.Name x pos'] e pos) (fun E=>tAsg (te E) (gName i)):=by
  intro pins s σ H D E F I h hg
  refine wpAny_Assign_Name (thn (he pins s σ H _ E F I h hg) fun v s1 ⟨y,H1,I1,r1,q1⟩=>?_) hs
  exact store_ok I1 hN hi hx r1 (fun s2 I2=>⟨_,H1,I2,q1⟩) hf
end
end L2
namespace L2
open PySem PySem.Spec PyProof.Rows
section
variable {X:Cx}
end
section
variable {P:Program} {w:World} {K:PySem.W.Frag} {mg:Str→Option Value} {base:Heap}
end
section
variable {X:Cx} {k:Nat} {f:Addr} {x:Str} {ps:List Str} {sp:Sp} {p pos:Pos} {e:Expr} {es:List Expr} {t:TA}
end
end L2
namespace L2
open PySem PySem.Spec PyProof.Rows
structure ExcOk (K:PySem.W.Frag) (R D:Addr):Prop where
  ex:PySem.W.excIn K D veMro "ValueError.__new__" = true
  ck:ExcK K D
  cat:PySem.W.exmOne K (.ref D) (.ref R)=some true
  ve:PySem.W.kitOne K (.ref D) (.type "ValueError")=some true
theorem cls_of_exc {K:PySem.W.Frag} {D:Addr} {bm:List Value} {n:String} (q:PySem.W.excIn K D bm n=true):∃ cd,PySem.W.clsIn K D=some cd:=by
  unfold PySem.W.excIn at q
  split at q
  · rename_i dd cd sl ho
    exact ⟨cd,by unfold PySem.W.clsIn; rw [ho]⟩
  · cases q
theorem excOk_mk {K:PySem.W.Frag} {R D:Addr} (ex:PySem.W.excIn K D veMro "ValueError.__new__" = true) (ga:PySem.W.findIn K (.ref D) "__getattribute__" = some (some (.builtin "BaseException.__getattribute__")))
    (gt:PySem.W.findIn K (.ref D) "__getattr__" = some none) (cl:PySem.W.findIn K (.ref D) "__class__" = some (some (.builtin "object.__class__")))
    (sg:PySem.W.specialIn K (.builtin "object.__class__") "__get__" = some (some (.builtin "getset_descriptor.__get__"))) (tk:PySem.W.takesIn K (.builtin "object.__class__")=some true)
    (be:PySem.W.mroIn K D (.type "BaseException")=some true) (ob:PySem.W.mroIn K D (.type "object")=some true) (cat:PySem.W.exmOne K (.ref D) (.ref R)=some true) (ve:PySem.W.kitOne K (.ref D) (.type "ValueError")=some true):ExcOk K R D :=
  ⟨ex,⟨ga,gt,cl,sg,tk,be,ob,cls_of_exc ex⟩,cat,ve⟩
section
variable {X:Cx} {K:PySem.W.Frag}
end
end L2
namespace L2
open PySem PySem.Spec PyProof.Rows
def ReadV (K:PySem.W.Frag) (H:Hp) (v:V) (d:PyData):Prop:=∀ (X:Cx) (pins:List (Addr × Obj)) (σ:St) (s:Shared) (u:Value),X.K=K→Inv X pins σ H s→RelV v u→∃ as,Reads s.heap u d as
theorem rv_int {K:PySem.W.Frag} {H:Hp} {i:Int}:ReadV K H (.int i) (.int i):=fun X pins σ s u _ _ r=>by
  obtain ⟨t,rfl⟩:=r
  exact ⟨[],.int i t⟩
theorem rv_all {K:PySem.W.Frag} {H:Hp} {X:Cx} {pins:List (Addr × Obj)} {σ:St} {s:Shared} (e:X.K=K) (I:Inv X pins σ H s):∀ {xs:List V} {ds:List PyData} {us:List Value},Paired (ReadV K H) xs ds→Vals xs us→∃ as,ReadsAll s.heap us ds as
  | _,_,_,.nil,.nil=>⟨[],.nil⟩
  | _,_,_,.cons a b,.cons r t=>by
    obtain ⟨as,h1⟩:=a X pins σ s _ e I r
    obtain ⟨bs,h2⟩:=rv_all e I b t
    exact ⟨as ++ bs,.cons h1 h2⟩
theorem rv_list {K:PySem.W.Frag} {H:Hp} {a:Addr} {xs:List V} {ds:List PyData} (h:SqL K H a xs) (p:Paired (ReadV K H) xs ds):ReadV K H (.ref a) (.list ds):=fun X pins σ s u e I r=>by
  obtain rfl:u=Value.ref a:=r
  subst e
  obtain ⟨its,rv,pl,_⟩:=I.list h
  obtain ⟨as,ha⟩:=rv_all rfl I p rv
  obtain ⟨o,h1,h2,n,h3⟩:=pl.isList
  exact ⟨_,.list h1 h2 h3 (by simpa using ha)⟩
theorem rv_tup {K:PySem.W.Frag} {H:Hp} {a:Addr} {xs:List V} {ds:List PyData} (h:SqT K H a xs) (p:Paired (ReadV K H) xs ds):ReadV K H (.ref a) (.tuple ds):=fun X pins σ s u e I r=>by
  obtain rfl:u=Value.ref a:=r
  subst e
  obtain ⟨its,rv,pl,_⟩:=I.tuple h
  obtain ⟨as,ha⟩:=rv_all rfl I p rv
  obtain ⟨o,h1,h2,n,h3⟩:=pl
  exact ⟨_,.tuple h1 h2 h3 (by simpa using ha)⟩
theorem rv_ints {K:PySem.W.Frag} {H:Hp}:∀ ns:List Int,Paired (ReadV K H) (ns.map V.int) (ns.map PyData.int)
  | []=>.nil
  | _ :: r=>.cons rv_int (rv_ints r)
def rEqD (K:PySem.W.Frag) (neg:Bool):R2:=fun x y H Q => ∃ d e,ReadV K H x d∧ReadV K H y e∧SeqAt.shaped d=true∧SeqAt.shaped e=true∧Q (.bl (if neg=true then !PyData.eqv d e else PyData.eqv d e)) H
section
variable {X:Cx} {K:PySem.W.Frag}
theorem op_neDK (h:X.K=K) (hu:X.A.units + 64 < cLine):OpR X (compareOp .NotEq) (rEqD K true):=by
  intro pins s σ H x y v u Q I rx ry q
  obtain ⟨d,e,r1,r2,s1,s2,q⟩:=q
  obtain ⟨as,h1⟩:=r1 X pins σ s v h I rx
  obtain ⟨bs,h2⟩:=r2 X pins σ s u h I ry
  exact ne_dataH h1 h2 s1 s2 hu ⟨.bl _,H,I,rfl,q⟩
end
def rowD (r:List Int):PyData:=.list (r.map PyData.int)
def matD (rows:List (List Int)):PyData:=.list (rows.map rowD)
theorem row_eqv (r:List Int):PyData.eqv (rowD r) (rowD r)=true:=by
  unfold rowD
  rw [PyData.eqv,PySem.W.ked_eqvAll]
  exact decide_eq_true rfl
theorem rows_eqv:∀ rows:List (List Int),PyData.eqvAll (rows.map rowD) (rows.map rowD)=true
  | []=>by simp [PyData.eqvAll]
  | r :: t=>by simp only [List.map_cons,PyData.eqvAll,row_eqv,rows_eqv t,Bool.and_true]
theorem rows_lay:∀ rows:List (List Int),PyData.canLayAll0 (rows.map rowD)=true
  | []=>rfl
  | r :: t=>by simp [PyData.canLayAll0,rowD,PyData.canLay0,PySem.W.ke_canLayAll0,rows_lay t]
theorem rows_depth:∀ rows:List (List Int),PyData.depthAll (rows.map rowD)≤1
  | []=>by simp [PyData.depthAll]
  | r :: t=>by
    have:=rows_depth t
    simp only [List.map_cons,PyData.depthAll,rowD,PyData.depth,PySem.W.ke_depthAll]
    omega
theorem rv_rows {K:PySem.W.Frag} {H:Hp}:∀ {ws:List Addr} {rows:List (List Int)},Rows H ws rows→Paired (ReadV K H) (ws.map V.ref) (rows.map rowD)
  | [],[],_=>.nil
  | [],_ :: _,h=>by have:=h.1; simp at this
  | _ :: _,[],h=>by have:=h.1; simp at this
  | a :: ws,r :: rows,h=>.cons (rv_list (SqL.of (h.2 0 a r rfl rfl)) (rv_ints r)) (rv_rows ⟨by have:=h.1; simpa using this,fun i b row h1 h2=>h.2 (i + 1) b row (by simpa using h1) (by simpa using h2)⟩)
end L2
namespace L2
open PySem PySem.Spec PyProof.Rows
section
variable {X:Cx}
theorem op_mulS:OpR X (binaryOp .Mult) (fun x y H Q => ∃ z n,x=.str z∧y=.int n∧PySem.MulOk z n∧Q (.str (Txt.mul z n)) H):=by
  intro pins s σ H x y v u Q I rx ry h
  obtain ⟨z,n,rfl,rfl,ok,q⟩:=h
  obtain ⟨t,rfl⟩:=rx
  obtain ⟨t',rfl⟩:=ry
  exact PySem.SB.mul ok fun t'' k=>⟨.str _,H,I.tok k,⟨_,rfl⟩,q⟩
end
section
variable {X:Cx}
end
end L2
namespace L2
open PySem PySem.Spec PyProof.Rows
theorem weight_item:∀ {ns:List Int} {n:Int},n∈ns→Builtin.Int.intBits n≤PySem.W.WData.weightAll (ns.map PySem.W.WData.int)
  | [],_,h=>by cases h
  | m :: r,n,h=>by
    rw [List.map_cons,PySem.W.WData.weightAll,PySem.W.WData.weight]
    rcases List.mem_cons.mp h with z | z
    · subst z
      show (if (n == 0)=true then 0 else n.natAbs.log2 + 1)≤_
      omega
    · have:=weight_item z
      omega
theorem bits_of_lay {ns:List Int} (h:PySem.W.WData.layableAll [PySem.W.WData.list (ns.map PySem.W.WData.int)]=true):∀ n∈ns,Builtin.Int.intBits n≤1048576:=fun n hn=>by
  have h1:=List.all_eq_true.mp h _ List.mem_cons_self
  have h2:=of_decide_eq_true (Bool.and_eq_true_iff.mp h1).2
  rw [PySem.W.WData.weight] at h2
  exact Nat.le_trans (weight_item hn) h2
def PriceAt (H:Hp) (t:Addr) (parts:Int) (rows:List Int):Prop:=∃ r,H t=some (.tup [.int parts,.ref r])∧H r=some (.lst (rows.map V.int))
theorem PriceAt.same {H H':Hp} {t:Addr} {parts:Int} {rows:List Int} (h:PriceAt H t parts rows) (s:Same H H'):PriceAt H' t parts rows:=by
  obtain ⟨r,h1,h2⟩:=h
  exact ⟨r,s _ _ h1,s _ _ h2⟩
def paidL (way rows:List Int):List Int:=way.map fun r=>rows.getD r.toNat 0
def sharesL (worths:List (List Int)) (way:List Int) (parts:Int) (rows:List Int):List Int:=(List.range worths.length).map fun i=>parts * (worths.getD i []).getD (way.getD i 0).toNat 0 - rows.getD (way.getD i 0).toNat 0
def sp_paid (K:PySem.W.Frag):Sp:=fun vs H Q _ => ∃ (v:V) (a t:Addr) (parts:Int) (rows way:List Int),vs=[v,.ref a,.ref t]∧PriceAt H t parts rows∧SqL K H a (way.map V.int)∧way.length≤1000∧(∀ r∈way,0≤r∧r < (rows.length:Int)) ∧
  ∀ l H',New H l (.lst ((paidL way rows).map V.int)) H'→Q (.ref l) H'
def sp_shares (K:PySem.W.Frag) (C:Addr):Sp:=fun vs H Q _ => ∃ (p a t:Addr) (beds:List Int) (worths:List (List Int)) (rent:Int) (parts:Int) (rows way:List Int),vs=[.ref p,.ref a,.ref t]∧HouseAt C H p beds worths rent∧PriceAt H t parts rows∧SqL K H a (way.map V.int)∧way.length=worths.length∧worths.length≤1000 ∧
  (-(10 ^ 200) < parts∧parts < 10 ^ 200)∧(∀ row∈worths,row.length=rows.length∧∀ x∈row,-(10 ^ 200) < x∧x < 10 ^ 200)∧(∀ r∈way,0≤r∧r < (rows.length:Int)) ∧
  ∀ l H',New H l (.lst ((sharesL worths way parts rows).map V.int)) H'→Q (.ref l) H'
end L2
namespace L2
open PySem PySem.Spec PyProof.Rows
def lamCx (X:Cx) (qual:Str) (scope:Scope) (L f:Addr) (cd:Value) (s0:Shared) (H0:Hp) (Nc:List Str):Cx where
  prog:=X.prog
  w:=X.w
  K:=X.K
  mg:=X.mg
  base:=X.base
  A:=X.A.in1.deeper (PySem.W.envX qual scope L f cd (clOf X.env.cells scope.names []))
  N:=Nc
  s₀:=s0
  H₀:=H0
  env:=PySem.W.envX qual scope L f cd (clOf X.env.cells scope.names [])
  outer:=X.stack
  stack:=PySem.W.envX qual scope L f cd (clOf X.env.cells scope.names []) :: X.stack
  ex:=[]
  fn:=fun _=>false
  calm:=true
  pn:=[]
  xe:=fun _ _=>False
section
variable {X:Cx} {scope:Scope} {pins:List (Addr × Obj)} {σ:St} {H:Hp} {s:Shared}
theorem lam_inv {qual:Str} {L f:Addr} {cd:Value} {Nc:List Str} {ix:List (Option Nat)} {h1:Heap} {tk:Nat} {x:Str} {v:V} {u:Value} (I:Inv X pins σ H s) (hc:X.calm=true) (ok:compOk scope X.env.scope=true) (hix:ixOk scope X.N (x :: Nc) (none :: ix)=true)
    (hx:scope.names.lookup x=some .local) (hL:L=s.heap.objs.size) (rv:RelV v u) (hns:h1.Ns L (fun y=>([(x,u)]:List (Str × Value)).reverse.lookup y)) (hk:∀ b o,s.heap.get? b=some o→h1.get? b=some o) :
    Inv (lamCx X qual scope L f cd s H (x :: Nc)) [] (some v :: cSt σ ix) H { s with heap:=h1,toks:=tk }:=by
  refine ⟨⟨I.ok.mod,(compOk_kind (X:=X) (scope:=scope) ok),rfl,rfl,Nat.le_of_eq hL.symm,fun y z c e1 e2=>I.ok.inj y z c (comp_cl I ok e1) (comp_cl I ok e2),fun y hy=>?_,(fun _ _ z=>nomatch z),fun _=>I.ok.hd hc,Around.frames_deeper (A:=X.A.in1) I.ok.frames,.inr ⟨rfl,rfl⟩,(fun b hb=>by cases hb),I.bs,Nat.le_trans I.ok.bsz I.sz,(fun b o e hb=>by cases hb),(fun b hb=>by cases hb),I.stack,I.stkFree⟩,
    rfl,I.bare,Un.kept hk,⟨_,hns,fun i y v' e1 e2 e3=>?_⟩,fun y c e=>?_,?_,fun y c e=>I.freeC y c (comp_cl I ok e),(fun p hp=>by cases hp),I.hok.kept hk,?_⟩
  · have hmem:(y,NameKind.free)∈scope.names:=by
      rcases hy with hy | hy
      · exact absurd rfl (compOk_cell ok _ (mem_of_lookup (show scope.names.lookup y=some .cell from hy)))
      · exact mem_of_lookup (show scope.names.lookup y=some .free from hy)
    exact Option.isSome_iff_exists.mp (clOf_has (cells:=X.env.cells) scope.names [] (x:=y) (.inl hmem))
  · cases i with
    | zero =>
      have e1':x=y:=by simpa [lamCx] using e1
      have e2':v=v':=by simpa using e2
      subst e1' e2'
      exact ⟨u,rv,.inl ⟨hx,by simp⟩⟩
    | succ i =>
      have hix':ixOk scope X.N Nc ix=true:=hix
      have e1':Nc[i]? = some y:=by simpa [lamCx] using e1
      have e2':(cSt σ ix)[i]? = some (some v'):=by simpa using e2
      obtain ⟨j,n1,n2,n3⟩:=cSt_get hix' e1' e2'
      have hmem:(y,NameKind.free)∈scope.names:=mem_of_lookup n3
      have hkind:=compOk_free ok (y,.free) hmem rfl
      obtain ⟨mX,_,hl⟩:=I.loc
      have hvis:Vis X.env.scope y:=.inr hkind
      obtain ⟨u',r,l⟩:=hl j y v' n1 n2 hvis
      refine ⟨u',r,?_⟩
      rcases l with ⟨k1,_⟩ | ⟨_,c,e,z⟩
      · rcases hkind with q | q
        · rw [q] at k1; cases k1
        · rw [q] at k1; cases k1
      · refine .inr ⟨.inr n3,c,?_,?_⟩
        · obtain ⟨c',hc'⟩:=Option.isSome_iff_exists.mp (clOf_has (cells:=X.env.cells) scope.names [] (x:=y) (.inl hmem))
          have:=comp_cl I ok hc'
          rw [e] at this
          cases this
          exact hc'
        · obtain ⟨o,ho,hd⟩:=z
          exact ⟨o,hk c o ho,hd⟩
  · obtain ⟨v',o,ho,hd⟩:=I.cell y c (comp_cl I ok e)
    exact ⟨v',o,hk c o ho,hd⟩
  · show H L=none
    rw [hL]
    exact I.hok.fresh (Nat.le_refl _)
  · have hix':ixOk scope X.N Nc ix=true:=hix
    show (cSt σ ix).length + 1=Nc.length + 1
    rw [cSt_len,ixOk_len hix']
theorem lam_call {name qual:Str} {params:Arguments} {body:Expr} {pm ctv:Value} {c' f:Addr} {Nc:List Str} {ix:List (Option Nat)} {x:Str} {v:V} {u:Value} {te:TE} {Q:VK} (I:Inv X pins σ H s) (hc:X.calm=true) (ok:compOk scope X.env.scope=true)
    (hix:ixOk scope X.N (x :: Nc) (none :: ix)=true) (hx:scope.names.lookup x=some .local) (hco:scope.isCoroutine=false) (hgen:scope.isGenerator=false)
    (ho:s.heap.get? f=some (PySem.W.kla_obj name qual params body scope (clOf X.env.cells scope.names []) pm c' ctv)) (hcd:s.heap.CodeRec (.ref c') qual) (hroom:X.A.depth < recursionLimit)
    (hbind:∀ u:Value,bindArgs (PySem.W.kla_fn name qual params body scope (clOf X.env.cells scope.names []) pm (.ref c') ctv) ⟨[u],[]⟩=pure [(x,u)]) (rv:RelV v u)
    (he:∀ L f cd s0 H0,PE (lamCx X qual scope L f cd s0 H0 (x :: Nc)) body te) (q:te (some v :: cSt σ ix) H Q):wpAny (model X.prog X.w) X.A.in1 (call (.ref f) [u]) (EP X pins σ Q) (fun _ _=>False) s:=by
  refine wpAny_call (PySem.W.kla_callFunE hroom ho rfl hco hgen rfl hcd ?_)
  rw [hbind]
  refine wpAny_pure (wpAny_newFunctionEnv (compOk_cell ok) (fun y hy=>?_) (fun h₁ hns hsb=>⟨I.nolimit.fresh _ hsb,?_⟩) (compOk_kind (X:=X) ok))
  · have:y=(x,u):=by simpa using hy
    rw [this]
    exact hx
  have hk₁:∀ b o,s.heap.get? b=some o→h₁.get? b=some o:=fun b o e=>hsb.extBut b o (Nat.ne_of_lt (Heap.lt_size e)) (Heap.get?_push_of_some _ e)
  have J:=lam_inv (qual:=qual) (f:=f) (cd:=.ref c') (tk:=s.toks + 1) I hc ok hix hx rfl rv hns hk₁
  refine PySem.W.kla_codeExpr (wpAny_mono (he _ _ _ _ _ [] _ _ _ _ J q) (fun v' s' h'=>?_) fun _ _ z=>z.elim)
  obtain ⟨y,H',J',ry,q'⟩:=h'
  exact I.after ⟨y,H',J'.os,J'.bare,J'.base,J'.hok,ry,q'⟩
end
section
variable {X:Cx} {pins:List (Addr × Obj)} {σ:St} {H:Hp} {s:Shared}
theorem Inv.turn1 {pl pl':List (Addr × Obj)} {it:Addr} {o':Obj} {h':Heap} {t':Nat} (J:Inv X pl σ H s) (hf:FpOk X [] H it) (hsub:∀ p∈pl',p∈pl∧p.1≠it) (k:∀ b o,b≠it→s.heap.get? b=some o→h'.get? b=some o) (ho':h'.get? it=some o') (hnc:∀ v,o'.data≠.cell v) :
    Inv X (pl' ++ [(it,o')]) σ H { s with heap:=h',toks:=t' }:=by
  obtain ⟨f0,f1,f2,f3,f4,f5⟩:=hf
  have J1:Inv X pl' σ H s:=J.pins_of fun p hp=>J.pin p (List.mem_append_right _ (hsub p hp).1)
  have J2:Inv X pl' σ H { s with heap:=h',toks:=t' }:=J1.turned k f0 f1 f3 f4 fun p hp=>by
    rcases List.mem_append.mp hp with z | z
    · exact f5 p (List.mem_append_left _ z)
    · exact (hsub p z).2
  refine J2.pins_of fun p hp=>?_
  rcases List.mem_append.mp hp with z | z
  · exact J2.pin p (List.mem_append_right _ z)
  · have:p=(it,o'):=by simpa using z
    subst this
    exact ⟨ho',f0,f1,f2,hnc⟩
theorem Inv.sub {pl pl':List (Addr × Obj)} (J:Inv X pl σ H s) (h:∀ p∈pl',p∈pl):Inv X pl' σ H s:=J.pins_of fun p hp=>J.pin p (List.mem_append_right _ (h p hp))
theorem max_key_args (a v:Value):argsOk "max" ⟨[a],[(Str.ofString "key",v)]⟩:=by unfold argsOk; kernel_rfl
variable {ns:List Int} {l q it S:Addr} {R:Result→Shared→Prop}
theorem max_loop (kf:Int→Int) (hc:X.calm=true) (hq:SqL X.K H l (ns.map V.int)) (fI:FpOk X [] H it) (fS:FpOk X [] H S) (hSI:S≠it) (hlI:l≠it) (nI:∀ p∈pins,p.1≠it) (nS:∀ p∈pins,p.1≠S)
    (turn:∀ z∈ns,∀ (t:Tok) (pl:List (Addr × Obj)) (s:Shared),(∀ p∈pins,p∈pl)→Inv X pl σ H s→wpAny (model X.prog X.w) X.A.in1 (call (.ref q) [.int z t]) (EP X pl σ fun y H'=>y=.int (kf z)∧H'=H) (fun _ _=>False) s)
    (hR:∀ z t s',z∈ns→(∀ z'∈ns,kf z'≤kf z)→Inv X pins σ H s'→R (.ok (.ret (.int z t))) s') :
    ∀ (r j:Nat) (s:Shared) (zb:Int) (tb kt:Tok) (c:Nat) (oI:Obj),ns.length - (j + 1)=r→j + 1≤ns.length→Inv X (pins ++ [(S,seqObj "list" #[.int zb tb,.int (kf zb) kt] c),(it,oI)]) σ H s→s.heap.IsListIter it l (j + 1)→zb∈ns→(∀ i z,i≤j→ns[i]? = some z→kf z≤kf zb) →
      codeAny (model X.prog X.w) X.A (.builtin "max.loop" ⟨[.ref it,.ref q,.ref S],[]⟩) R s:=by
  have hname:(toString "max" ++ toString ".loop" : String)="max.loop" := by decide
  intro r
  induction r with
  | zero =>
    intro j s zb tb kt c oI hr hj J hit hzb hbest
    have hin:j + 1=ns.length:=by omega
    obtain ⟨its,rv,pl,hz⟩:=J.list hq
    have hl:its.length=ns.length:=by have:=rv.length; simpa using this.symm
    have W:=Walks.list (prog:=X.prog) (w:=X.w) (A:=X.A.in1) (J.ok.hd hc) it l hlI its.toArray
    have pS:=J.pin (S,seqObj "list" #[.int zb tb,.int (kf zb) kt] c) (by simp)
    refine codeAny_builtin PySem.F.entry_max_loop ?_
    rw [Around.under_plainId PySem.F.plain_max_loop _]
    show wpAny _ X.A.in1 (seqItems? (.ref S) >>= _) _ _ _
    refine wpAny_bind (wpAny_seqItems pS.1 rfl ?_)
    show wpAny _ X.A.in1 (tryCatch (pyNext (.ref it)) _ >>= _) _ _ _
    refine wpAny_bind (wpAny_tryCatch (W.done _ _ _ ⟨by rw [List.size_toArray,hl,← hin]; exact hit,pl.isList⟩ fun h' tk' hk'=>?_))
    have J1:Inv X (pins ++ [(S,seqObj "list" #[.int zb tb,.int (kf zb) kt] c)]) σ H { s with heap:=h',toks:=tk' }:=(J.sub (pl':=pins ++ [(S,seqObj "list" #[.int zb tb,.int (kf zb) kt] c)]) (fun p hp=>by
      rcases List.mem_append.mp hp with z | z
      · simp [z]
      · have:p=(S,seqObj "list" #[.int zb tb,.int (kf zb) kt] c):=by simpa using z
        simp [this])).turned (fun b o hb e=>hk' b o (by simpa using hb) e) fI.1 fI.2.1 fI.2.2.2.1 fI.2.2.2.2.1 fun p hp=>by
      rcases List.mem_append.mp hp with z | z
      · exact fI.2.2.2.2.2 p (List.mem_append_left _ z)
      · rcases List.mem_append.mp z with z | z
        · exact nI p z
        · have:p=(S,seqObj "list" #[.int zb tb,.int (kf zb) kt] c):=by simpa using z
          rw [this]; exact hSI
    have pS1:=J1.pin (S,seqObj "list" #[.int zb tb,.int (kf zb) kt] c) (by simp)
    show wpAny _ X.A.in1 (updateSeq S (fun _ => #[]) >>= _) _ _ _
    refine wpAny_bind ?_
    refine wpAny_updateSeq pS1.1 rfl (wpAny_bind (wpAny_letGo (wpAny_pure ?_)))
    have s1:=Heap.SameBut.update h' S (Obj.mapSeq fun _=>(#[]:Array Value))
    refine hR zb tb _ hzb (fun z' hz'=>?_) ((J1.sub fun p hp=>List.mem_append_left _ hp).turned (t':=tk') (fun b o hb e=>(s1.2 b hb).trans e) fS.1 fS.2.1 fS.2.2.2.1 fS.2.2.2.2.1 fun p hp=>?_)
    · obtain ⟨i,hi,rfl⟩:=List.mem_iff_getElem.mp hz'
      exact hbest i _ (by omega) (by simp [hi])
    · rcases List.mem_append.mp hp with z | z
      · exact fS.2.2.2.2.2 p (List.mem_append_left _ z)
      · exact nS p z
  | succ r ih =>
    intro j s zb tb kt c oI hr hj J hit hzb hbest
    have hlt:j + 1 < ns.length:=by omega
    obtain ⟨its,rv,pl,hz⟩:=J.list hq
    have hl:its.length=ns.length:=by have:=rv.length; simpa using this.symm
    have W:=Walks.list (prog:=X.prog) (w:=X.w) (A:=X.A.in1) (J.ok.hd hc) it l hlI its.toArray
    have pS:=J.pin (S,seqObj "list" #[.int zb tb,.int (kf zb) kt] c) (by simp)
    refine codeAny_builtin PySem.F.entry_max_loop ?_
    rw [Around.under_plainId PySem.F.plain_max_loop _]
    show wpAny _ X.A.in1 (seqItems? (.ref S) >>= _) _ _ _
    refine wpAny_bind (wpAny_seqItems pS.1 rfl ?_)
    show wpAny _ X.A.in1 (tryCatch (pyNext (.ref it)) _ >>= _) _ _ _
    refine wpAny_bind (wpAny_tryCatch (W.item (j + 1) _ _ _ (by rw [List.size_toArray,hl]; exact hlt) ⟨hit,pl.isList⟩ fun v h' tk' hP hst' hk'=>?_))
    have hv:its[j + 1]? = some v:=by simpa using hP
    obtain ⟨u,hu,t,hut⟩:=rv.get (i:=j + 1) (x:=.int ns[j + 1]) (by simp [hlt])
    rw [hv] at hu
    cases hu
    subst hut
    obtain ⟨oI',hoI',hoc,hod⟩:=id hst'.1
    have J1:Inv X (pins ++ [(S,seqObj "list" #[.int zb tb,.int (kf zb) kt] c)] ++ [(it,oI')]) σ H { s with heap:=h',toks:=tk' }:=J.turn1 fI (fun p hp=>by
      rcases List.mem_append.mp hp with z | z
      · exact ⟨by simp [z],nI p z⟩
      · have:p=(S,seqObj "list" #[.int zb tb,.int (kf zb) kt] c):=by simpa using z
        rw [this]
        exact ⟨by simp,hSI⟩) (fun b o hb e=>hk' b o (by simpa using hb) e) hoI' (fun w z=>by rw [hod] at z; cases z)
    have hzj:ns[j + 1]∈ns:=List.getElem_mem hlt
    show wpAny _ X.A.in1 (tryCatch (holding [Value.int ns[j + 1] t] (call (.ref q) [Value.int ns[j + 1] t])) _ >>= _) _ _ _
    refine wpAny_bind (wpAny_tryCatch (wpAny_holding (wpAny_mono (turn _ hzj t _ _ (fun p hp=>by simp [hp]) J1) (fun x s'' he=>?_) fun _ _ hF=>hF.elim)))
    obtain ⟨y,H',J2,ry,rfl,rfl⟩:=he
    obtain ⟨t2,rfl⟩:=ry
    have pS2:=J2.pin (S,seqObj "list" #[.int zb tb,.int (kf zb) kt] c) (by simp)
    have pI2:=J2.pin (it,oI') (by simp)
    have hit2:s''.heap.IsListIter it l (j + 1 + 1):=⟨oI',pI2.1,hoc,hod⟩
    show wpAny _ X.A.in1 (tryCatch (holding [Value.int ns[j + 1] t,.int (kf ns[j + 1]) t2] (richCompare .Gt (.int (kf ns[j + 1]) t2) (.int (kf zb) kt) >>= _)) _ >>= _) _ _ _
    refine wpAny_bind (wpAny_tryCatch (wpAny_holding (wpAny_bind (CmpOf.ints_gt (prog:=X.prog) (w:=X.w) (A:=X.A.in1) (P:=fun i v => ∃ t,v=.int (if i=0 then kf ns[j + 1] else kf zb) t) (fun i=>if i=0 then kf ns[j + 1] else kf zb) (fun i v h=>h) 0 1 _ _ _ _ _ ⟨t2,rfl⟩ ⟨kt,rfl⟩ ?_))))
    refine wpAny_bind (wpAny_holding (wpAny_truthy_bool ?_))
    refine wpAny_bind (wpAny_letGo (wpAny_pure ?_))
    show wpAny _ X.A.in1 (if decide (kf ns[j + 1] > kf zb)=true then _ else _) _ _ _
    by_cases hb':kf ns[j + 1] > kf zb
    · have s1:=Heap.SameBut.update s''.heap S (Obj.mapSeq fun _ => #[.int ns[j + 1] t,.int (kf ns[j + 1]) t2])
      obtain ⟨c2,hc2⟩:∃ c2,(s''.heap.update S (Obj.mapSeq fun _ => #[.int ns[j + 1] t,.int (kf ns[j + 1]) t2])).get? S=some (seqObj "list" #[.int ns[j + 1] t,.int (kf ns[j + 1]) t2] c2):=⟨_,get?_update_seq pS2.1 fun _ => #[.int ns[j + 1] t,.int (kf ns[j + 1]) t2]⟩
      rw [decide_eq_true hb',if_pos rfl]
      refine wpAny_bind ?_
      refine wpAny_updateSeq pS2.1 rfl (wpAny_bind (wpAny_letGo ?_))
      rw [hname]
      have J3:=J2.turn1 (t':=s''.toks) (pl':=pins ++ [(it,oI')]) fS (fun p hp=>by
        rcases List.mem_append.mp hp with z | z
        · exact ⟨by simp [z],nS p z⟩
        · have:p=(it,oI'):=by simpa using z
          rw [this]
          exact ⟨by simp,hSI.symm⟩) (fun b o hb e=>(s1.2 b hb).trans e) hc2 (fun w z=>by cases z)
      refine wpAny_pure ⟨plainId_quiet PySem.F.plain_max_loop _,ih (j + 1) _ _ t t2 c2 oI' (by omega) hlt (J3.sub fun p hp=>by
        simp only [List.mem_append,List.mem_cons,List.not_mem_nil,or_false] at hp ⊢
        rcases hp with h | h | h <;> simp [h]) ⟨oI',(s1.2 it hSI.symm).trans pI2.1,hoc,hod⟩ hzj fun i z hi hz=>?_⟩
      by_cases e:i=j + 1
      · subst e
        have:z=ns[j + 1]:=by simpa [hlt] using hz.symm
        rw [this]
        exact Int.le_refl _
      · have:=hbest i z (by omega) hz
        omega
    · rw [decide_eq_false hb',if_neg Bool.false_ne_true]
      refine wpAny_bind (wpAny_letGo ?_)
      rw [hname]
      refine wpAny_pure ⟨plainId_quiet PySem.F.plain_max_loop _,ih (j + 1) _ zb tb kt c oI' (by omega) hlt (J2.sub fun p hp=>by
        simp only [List.mem_append,List.mem_cons,List.not_mem_nil,or_false] at hp ⊢
        rcases hp with h | h | h <;> simp [h]) hit2 hzb fun i z hi hz=>?_⟩
      by_cases e:i=j + 1
      · subst e
        have:z=ns[j + 1]:=by simpa [hlt] using hz.symm
        rw [this]
        omega
      · exact hbest i z (by omega) hz
theorem max_key {Q:Value→Shared→Prop} {E:Value→Shared→Prop} (kf:Int→Int) (hc:X.calm=true) (J:Inv X pins σ H s) (hq:SqL X.K H l (ns.map V.int)) (hne:0 < ns.length)
    (turn:∀ z∈ns,∀ (t:Tok) (pl:List (Addr × Obj)) (s:Shared),(∀ p∈pins,p∈pl)→Inv X pl σ H s→wpAny (model X.prog X.w) X.A.in1 (call (.ref q) [.int z t]) (EP X pl σ fun y H'=>y=.int (kf z)∧H'=H) (fun _ _=>False) s)
    (hQ:∀ z t s',z∈ns→(∀ z'∈ns,kf z'≤kf z)→Inv X pins σ H s'→Q (.int z t) s') :
    wpAny (model X.prog X.w) X.A (call (.builtin "max") [.ref l] [(Str.ofString "key",.ref q)]) Q E s:=by
  have hname:(toString "max" ++ toString ".loop" : String)="max.loop" := by decide
  obtain ⟨its,rv,pl,hz⟩:=J.list hq
  have hl:its.length=ns.length:=by have:=rv.length; simpa using this.symm
  have hll:l < s.heap.objs.size:=by
    obtain ⟨o,n,e,_⟩:=pl
    exact Heap.lt_size e
  refine kmk_tree PySem.F.kind_max PySem.F.plain_max PySem.F.entry_max (max_key_args _ _) ?_
  show wpAny _ X.A.in1 (Builtin.Builtins.bindParams "max" ["key","default"] 0 ⟨[],[(Str.ofString "key",.ref q)]⟩ >>= _) _ _ s
  refine wpAny_bind (wpAny_of_eq (show Builtin.Builtins.bindParams "max" ["key","default"] 0 ⟨[],[(Str.ofString "key",.ref q)]⟩=pure [some (.ref q),none] from rfl) ?_)
  refine wpAny_bind (wpAny_pure ?_)
  refine wpAny_bind (wpAny_pyIter_list pl.isList ?_)
  refine wpAny_bind (wpAny_newList ?_ (Nat.zero_le _))
  rw [hname]
  have hS:(s.heap.push { cls:=.type "list_iterator",data:=.fields #[.ref l,.int 0 0] }).objs.size=s.heap.objs.size + 1:=size_push' ..
  have hlI:l≠s.heap.objs.size:=Nat.ne_of_lt hll
  have gI:((s.heap.push { cls:=.type "list_iterator",data:=.fields #[.ref l,.int 0 0] }).push (seqObj "list" #[] 0)).get? s.heap.objs.size=some { cls:=.type "list_iterator",data:=.fields #[.ref l,.int 0 0] } :=
    Heap.get?_push_of_some _ (Heap.get?_push_size _ rfl)
  have gS:((s.heap.push { cls:=.type "list_iterator",data:=.fields #[.ref l,.int 0 0] }).push (seqObj "list" #[] 0)).get? (s.heap.push { cls:=.type "list_iterator",data:=.fields #[.ref l,.int 0 0] }).objs.size=some (seqObj "list" #[] 0):=Heap.get?_push_size _ rfl
  have J0:Inv X pins σ H { s with heap:=(s.heap.push { cls:=.type "list_iterator",data:=.fields #[.ref l,.int 0 0] }).push (seqObj "list" #[] 0),toks:=s.toks }:=J.kept fun b o e=>Heap.get?_push_of_some _ (Heap.get?_push_of_some _ e)
  have hk0:∀ b o,s.heap.get? b=some o→((s.heap.push { cls:=.type "list_iterator",data:=.fields #[.ref l,.int 0 0] }).push (seqObj "list" #[] 0)).get? b=some o:=fun b o e=>Heap.get?_push_of_some _ (Heap.get?_push_of_some _ e)
  have fI:=J.fpOk (H':=H) (b:=s.heap.objs.size) (Nat.le_refl _) J.fresh
  have fS:=J.fpOk (H':=H) (b:=s.heap.objs.size + 1) (Nat.le_succ _) (J.hok.fresh (Nat.le_succ _))
  rw [hS] at gS ⊢
  have fI':FpOk X [] H s.heap.objs.size:=⟨fI.1,fI.2.1,fI.2.2.1,fI.2.2.2.1,fI.2.2.2.2.1,fun p hp=>fI.2.2.2.2.2 p (by rcases List.mem_append.mp hp with z | z <;> first | exact List.mem_append_left _ z | cases z)⟩
  have fS':FpOk X [] H (s.heap.objs.size + 1):=⟨fS.1,fS.2.1,fS.2.2.1,fS.2.2.2.1,fS.2.2.2.2.1,fun p hp=>fS.2.2.2.2.2 p (by rcases List.mem_append.mp hp with z | z <;> first | exact List.mem_append_left _ z | cases z)⟩
  have nI:∀ p∈pins,p.1≠s.heap.objs.size:=fun p hp=>fI.2.2.2.2.2 p (List.mem_append_right _ hp)
  have nS:∀ p∈pins,p.1≠s.heap.objs.size + 1:=fun p hp=>fS.2.2.2.2.2 p (List.mem_append_right _ hp)
  have hSI:s.heap.objs.size + 1≠s.heap.objs.size:=Nat.succ_ne_self _
  generalize (s.heap.push { cls:=.type "list_iterator",data:=.fields #[.ref l,.int 0 0] }).push (seqObj "list" #[] 0)=h0 at *
  generalize s.heap.objs.size=it at *
  generalize it + 1=S at *
  refine wpAny_pure ⟨plainId_quiet PySem.F.plain_max_loop _,?_⟩
  have pl0:h0.IsList l its.toArray:=pl.isList.at fun o e=>hk0 _ _ e
  have W:=Walks.list (prog:=X.prog) (w:=X.w) (A:=X.A.in1) (J.ok.hd hc) it l hlI its.toArray
  refine codeAny_builtin PySem.F.entry_max_loop ?_
  rw [Around.under_plainId PySem.F.plain_max_loop _]
  show wpAny _ X.A.in1 (seqItems? (.ref _) >>= _) _ _ _
  refine wpAny_bind (wpAny_seqItems gS rfl ?_)
  show wpAny _ X.A.in1 (tryCatch (pyNext (.ref it)) _ >>= _) _ _ _
  refine wpAny_bind (wpAny_tryCatch (W.item 0 _ _ _ (by rw [List.size_toArray,hl]; exact hne) ⟨⟨_,gI,rfl,rfl⟩,pl0⟩ fun v h' tk' hP hst' hk'=>?_))
  have hv:its[0]? = some v:=by simpa using hP
  obtain ⟨u,hu,t,hut⟩:=rv.get (i:=0) (x:=.int ns[0]) (by simp [hne])
  rw [hv] at hu
  cases hu
  subst hut
  have hz0:ns[0]∈ns:=List.getElem_mem hne
  obtain ⟨oI',hoI',hoc,hod⟩:=id hst'.1
  have J1:Inv X (pins ++ [(it,oI')]) σ H { s with heap:=h',toks:=tk' }:=J0.turn1 fI' (fun p hp=>⟨hp,nI p hp⟩) (fun b o hb e=>hk' b o (by simpa using hb) e) hoI' (fun w z=>by rw [hod] at z; cases z)
  have J1':Inv X (pins ++ [(S,seqObj "list" #[] 0),(it,oI')]) σ H { s with heap:=h',toks:=tk' }:=J1.pins_of fun p hp=>by
    simp only [List.mem_append,List.mem_cons,List.not_mem_nil,or_false] at hp
    rcases hp with z | z | z
    · exact J1.pin p (by simp [z])
    · subst z
      exact ⟨hk' _ _ (by simpa using hSI) gS,fS'.1,fS'.2.1,fS'.2.2.1,fun v z=>by cases z⟩
    · exact J1.pin p (by simp [z])
  show wpAny _ X.A.in1 (tryCatch (holding [Value.int ns[0] t] (call (.ref q) [Value.int ns[0] t])) _ >>= _) _ _ _
  refine wpAny_bind (wpAny_tryCatch (wpAny_holding (wpAny_mono (turn _ hz0 t _ _ (fun p hp=>by simp [hp]) J1') (fun x s'' he=>?_) fun _ _ hF=>hF.elim)))
  obtain ⟨y,H',J2,ry,rfl,rfl⟩:=he
  obtain ⟨t2,rfl⟩:=ry
  have pS2:=J2.pin (S,seqObj "list" #[] 0) (by simp)
  have pI2:=J2.pin (it,oI') (by simp)
  have s1:=Heap.SameBut.update s''.heap S (Obj.mapSeq fun _ => #[.int ns[0] t,.int (kf ns[0]) t2])
  obtain ⟨c2,hc2⟩:∃ c2,(s''.heap.update S (Obj.mapSeq fun _ => #[.int ns[0] t,.int (kf ns[0]) t2])).get? S=some (seqObj "list" #[.int ns[0] t,.int (kf ns[0]) t2] c2):=⟨_,get?_update_seq pS2.1 fun _ => #[.int ns[0] t,.int (kf ns[0]) t2]⟩
  show wpAny _ X.A.in1 (updateSeq S (fun _ => #[.int ns[0] t,.int (kf ns[0]) t2]) >>= _) _ _ _
  refine wpAny_bind ?_
  refine wpAny_updateSeq pS2.1 rfl ?_
  rw [hname]
  have J3:=J2.turn1 (t':=s''.toks) (pl':=pins ++ [(it,oI')]) fS' (fun p hp=>by
    rcases List.mem_append.mp hp with z | z
    · exact ⟨by simp [z],nS p z⟩
    · have:p=(it,oI'):=by simpa using z
      rw [this]
      exact ⟨by simp,hSI.symm⟩) (fun b o hb e=>(s1.2 b hb).trans e) hc2 (fun w z=>by cases z)
  refine wpAny_pure ⟨plainId_quiet PySem.F.plain_max_loop _,max_loop kf hc hq fI' fS' hSI hlI nI nS turn hQ _ 0 _ _ t t2 c2 oI' rfl hne (J3.sub fun p hp=>by
    simp only [List.mem_append,List.mem_cons,List.not_mem_nil,or_false] at hp ⊢
    rcases hp with h | h | h <;> simp [h]) ⟨oI',(s1.2 it hSI.symm).trans pI2.1,hoc,hod⟩ hz0 fun i z hi hz=>?_⟩
  have:i=0:=by omega
  subst this
  have:z=ns[0]:=by simpa [hne] using hz.symm
  rw [this]
  exact Int.le_refl _
end
def isTbl:HO→Bool
  | .tbl _=>true
  | _=>false
structure SameB (H H':Hp):Prop where
  to:∀ b o,H b=some o→isTbl o=false→H' b=some o
  th:∀ b,H' b=none→H b=none
theorem SameB.refl (H:Hp):SameB H H:=⟨fun _ _ h _=>h,fun _ h=>h⟩
theorem SameB.trans {H H1 H2:Hp} (a:SameB H H1) (b:SameB H1 H2):SameB H H2:=⟨fun c o h z=>b.to c o (a.to c o h z) z,fun c h=>a.th c (b.th c h)⟩
theorem Same.b {H H':Hp} (a:Same H H'):SameB H H':=⟨fun c o h _=>a c o h,fun c h=>a.free h⟩
def LamAt (H:Hp) (P:Addr) (pos:Pos) (qual:Str):Prop :=
  H P=some (.tbl #[])∨∃ c' oc vs t,H P=some (.tbl #[rawInt pos.line,rawInt pos.col,.ref c'])∧H c'=some (.frz oc (.own 0))∧oc.data=.fields vs∧vs[1]? = some (.str qual t)
theorem LamAt.same {H H':Hp} {P:Addr} {pos:Pos} {qual:Str} (h:LamAt H P pos qual) (s:Same H H'):LamAt H' P pos qual:=by
  rcases h with h | ⟨c',oc,vs,t,h1,h2,h3⟩
  · exact .inl (s _ _ h)
  · exact .inr ⟨c',oc,vs,t,s _ _ h1,s _ _ h2,h3⟩
section
variable {X:Cx} {pins:List (Addr × Obj)} {σ:St} {H:Hp} {s:Shared} {c P:Addr} {scope:Scope} {params:Arguments} {body:Expr} {lpos:Pos}
theorem SameB.seq {K:PySem.W.Frag} {H H':Hp} {a:Addr} {xs:List V} (e:SameB H H') (h:SqL K H a xs):SqL K H' a xs:=by
  rcases h with (h | ⟨o,h⟩) | h
  · exact .inl (.inl (e.to _ _ h rfl))
  · exact .inl (.inr ⟨o,e.to _ _ h rfl⟩)
  · exact .inr h
end
end L2
namespace L2
open PySem PySem.Spec PyProof.Rows
structure SrcL (K:PySem.W.Frag) (mg:Str→Option Value) (x qual:Str) (st:Stmt) (c P:Addr):Prop where
  ex:∃ (f:Addr) (oc:Value) (od:Option Addr) (kV doc pm:Value) (an:Option Addr) (ct:Value) (osl:Array (Option Value)),K.lookup f=some ⟨oc,od,.func (PySem.W.fnOf x qual (defArgs st) (defBody st) (defScope st) .none kV doc pm an (.ref c) ct),osl⟩∧PySem.W.codeIn K (.ref c) qual=true∧PySem.W.keepIn K (.ref f)=true∧mg x=some (.ref f)
  hd:PySem.W.codeHdIn K c P=true
theorem srcL_mk {K:PySem.W.Frag} {h:Heap} {mg:Str→Option Value} {x qual:Str} {st:Stmt} {f c P:Addr} {oc:Value} {od an:Option Addr} {osl:Array (Option Value)} {kV doc pm ct:Value} (X:K.In h) (G:h.Ns mainGlobals mg)
    (a:PySem.W.nsIn K mainGlobals x=some (some (.ref f))) (l:K.lookup f=some ⟨oc,od,.func (PySem.W.fnOf x qual (defArgs st) (defBody st) (defScope st) .none kV doc pm an (.ref c) ct),osl⟩)
    (hc:PySem.W.codeIn K (.ref c) qual=true) (k:PySem.W.keepIn K (.ref f)=true) (hd:PySem.W.codeHdIn K c P=true):SrcL K mg x qual st c P:=⟨⟨f,oc,od,kV,doc,pm,an,ct,osl,l,hc,k,PySem.W.mg_of X G a⟩,hd⟩
section
variable {P:Program} {w:World} {K:PySem.W.Frag} {mg:Str→Option Value} {base:Heap}
theorem SrcL.mkL {x qual:Str} {st:Stmt} {N ps:List Str} {k:Nat} {sp:Sp} {c PT:Addr} (S:SrcL K mg x qual st c PT) (Sc:FnScope N ps (defScope st)) (len:∀ vs H Q E,sp vs H Q E→vs.length=ps.length)
    (hb:∀ (kV doc pm:Value) (an:Option Addr) (cdv ct:Value) (us:List Value),us.length=ps.length→bindArgs (PySem.W.fnOf x qual (defArgs st) (defBody st) (defScope st) .none kV doc pm an cdv ct) ⟨us,[]⟩=pure (ps.zip us))
    (hbody:∀ (f:Addr) (A:Around) (outer:List Env) (s:Shared) (H:Hp) (vs:List V) (Q:VK) (E:XK),Room k (A.deeper (envOfC qual (defScope st) s.heap.objs.size f (.ref c)))→sp vs H Q E →
      ∃ t,PSs (cxOf CX0 P w K mg base N qual (defScope st) f (.ref c) A outer s H E).nox (defBody st) t∧t { nx:=fun _ H'=>Q .non H',rt:=Q } (start N vs) H):Def P w K mg base (k + 1) x ps sp:=by
  obtain ⟨f,oc,od,kV,doc,pm,an,ct,osl,lk,hcd,kp,hm⟩:=S.ex
  refine ⟨f,_,hm,kp,.all (hb kV doc pm an (.ref c) ct),fn_of lk hcd Sc len fun A outer s H vs Q E hr hsp=>?_,oc,od,osl,lk⟩
  obtain ⟨t,h,q⟩:=hbody f A outer s H vs Q E hr hsp
  exact ⟨t,h.nox,q⟩
theorem law_fdT {x p:Str} {st:Stmt} {k:Nat} {sp:Sp} {fa:Addr} {ts:List Addr} (S:Src K mg x x st)
    (hb:∀ (kV doc pm:Value) (an:Option Addr) (cdv ct:Value) (u:Value),bindArgs (PySem.W.fnOf x x (defArgs st) (defBody st) (defScope st) .none kV doc pm an cdv ct) ⟨[u],[]⟩=pure [(p,u)])
    (h:∀ base:Heap,(∀ PT∈ts,base.BuiltinsAt mg PT)→Def P w K mg base k x [p] sp) (hfa:mg x=some (.ref fa)) :
    ∃ fd:FuncData,(∀ (s:Shared) (u:Value),BindsTo s fd ⟨[u],[]⟩ [(p,u)])∧∀ base:Heap,K.In base→base.Ns mainGlobals mg→(∀ PT∈ts,base.BuiltinsAt mg PT)→FnOk P w K mg base CX0 k fa fd [p] sp:=by
  obtain ⟨f,fd,F,hm⟩:=S.ex
  rw [hm] at hfa
  cases hfa
  obtain ⟨oc,od,kV,doc,pm,an,cdv,ct,osl,e,lk,hcd⟩:=F.ex
  refine ⟨fd,fun s u=>by subst e; exact .of_eq (hb kV doc pm an cdv ct u),fun base _ _ hB=>?_⟩
  obtain ⟨f',fd',hm',_,_,G,oc',od',osl',lk'⟩:=(h base hB).ex
  rw [hm] at hm'
  cases hm'
  rw [lk] at lk'
  cases lk'
  exact G
end
theorem law_callT {P:Program} {w:World} {K:PySem.W.Frag} {mg mb:Str→Option Value} {k:Nat} {fa a:Addr} {fd:FuncData} {x:Str} {sp:Sp} {s₁:Shared} {vs:List Value} {ns:List Int} {ts:List Addr}
    (KX:K.In s₁.heap) (hns:s₁.heap.Ns mainGlobals mg) (hb:s₁.heap.Ns builtinsNs mb) (hbb:∀ x:Str,x≠"__name__"→mb x=bootBuiltins x) (hlim:s₁.heap.NoLimit) (hg:s₁.gens=#[])
    (ht:∀ PT∈ts,s₁.heap.get? PT=some (PySem.W.tabObj #[])) (hcd:∀ PT∈ts,∃ c,PySem.W.codeHdIn K c PT=true) (hnt:PySem.W.noTabs K=true) (hbm:∃ bm ob,mg "__builtins__" = some (.ref bm)∧bm≠builtinsNs∧s₁.heap.get? bm=some ob∧ob.cls=.type "module"∧ob.dict=some builtinsNs∧ob.data=.plain)
    (ha:s₁.heap.get? a=some { cls:=.type "list",data:=.seq vs.toArray }) (hi:IntsAre vs ns) (hl:ns.length≤sizeLine) (hr:Room k callerA)
    (F:∀ base:Heap,K.In base→base.Ns mainGlobals mg→(∀ PT∈ts,base.BuiltinsAt mg PT)→FnOk P w K mg base CX0 k fa fd [x] sp) (hbind:∀ (s:Shared) (u:Value),BindsTo s fd ⟨[u],[]⟩ [(x,u)])
    (hsp:∀ H:Hp,(∀ PT∈ts,H PT=some (.tbl #[]))→SqL K H a (ns.map V.int)→sp [.ref a] H (fun v _=>v=.bl true) fun _ _ _=>False) :
    codeAny (model P w) callerA (.call (.ref fa) ⟨[.ref a],[]⟩) (fun r s'=>r=.ok (.ret (.bool true))∧OldK s₁.heap s'.heap∧s'.os=s₁.os∧AllBare s'.gens) s₁:=by
  have rv:=vals_ints hi
  have lenV:=hi.length
  have naT:a ∉ ts:=fun z=>by
    have:=ht a z
    rw [ha] at this
    cases this
  have nKT:∀ PT∈ts,K.lookup PT=none:=fun PT hP=>by
    cases q:K.lookup PT with
    | none=>rfl
    | some o =>
      have e:=KX PT o q
      rw [ht PT hP] at e
      cases e
      have h2:=List.all_eq_true.mp hnt (PT,_) (PySem.W.mem_of_lookupK q)
      exact absurd (show false=true from h2) Bool.false_ne_true
  have core:∀ H:Hp,(∀ b,H b=none∨(b∈ts∧H b=some (.tbl #[]))∨∃ o xs,H b=some (.frz o (.lst xs)))→(∀ PT∈ts,H PT=some (.tbl #[]))→SqL K H a (ns.map V.int)→HOk P w H s₁.heap→(∀ b,H b≠none→b=a∨b∈ts)→(H a≠none→K.lookup a=none) →
      codeAny (model P w) callerA (.call (.ref fa) ⟨[.ref a],[]⟩) (fun r s'=>r=.ok (.ret (.bool true))∧OldK s₁.heap s'.heap∧s'.os=s₁.os∧AllBare s'.gens) s₁:=by
    intro H hO hTs hS hok hA hK
    have base_of:∀ {b:Addr} {o:Obj},s₁.heap.get? b=some o→H b=none→(hidT s₁.heap H).get? b=some o:=fun e n=>hidT_get e n
    have noA:∀ {b:Addr} {o:Obj},s₁.heap.get? b=some o→o≠{ cls:=.type "list",data:=.seq vs.toArray }→o≠PySem.W.tabObj #[]→H b=none:=fun {b o} e d1 d2=>by
      cases q:H b with
      | none=>rfl
      | some u =>
        rcases hA b (by rw [q]; simp) with z | z
        · subst z
          rw [ha] at e; cases e
          exact absurd rfl d1
        · rw [ht b z] at e; cases e
          exact absurd rfl d2
    have nsK:∀ {b:Addr} {m:Str→Option Value},s₁.heap.Ns b m→(hidT s₁.heap H).Ns b m:=fun {b m} ⟨o,es,ep,e,d,r⟩=>⟨o,es,ep,base_of e (noA e (fun z=>by rw [z] at d; cases d) fun z=>by rw [z] at d; cases d),d,r⟩
    have hKb:K.In (hidT s₁.heap H):=fun b o e=>base_of (KX b o e) (by
      cases q:H b with
      | none=>rfl
      | some u =>
        rcases hA b (by rw [q]; simp) with z | z
        · subst z
          rw [hK (by rw [q]; simp)] at e; cases e
        · rw [nKT b z] at e; cases e)
    have hM:Mod K mg (hidT s₁.heap H):=⟨hKb,nsK hns,⟨mb,nsK hb,hbb⟩,let ⟨mc,h1,h2⟩:=hlim; ⟨mc,nsK h1,h2⟩⟩
    have hBA:∀ PT∈ts,(hidT s₁.heap H).BuiltinsAt mg PT:=fun PT hP=>by
      obtain ⟨bm,ob,b1,b2,b3,b4,b5,b6⟩:=hbm
      refine ⟨bm,ob,b1,b2,fun z=>?_,fun z=>?_,base_of b3 (noA b3 (fun z=>by rw [z] at b6; cases b6) fun z=>by rw [z] at b4; cases b4),b4,b5,b6⟩
      · obtain ⟨o,es,ep,e,d,_⟩:=hns
        rw [← z,b3] at e
        cases e
        rw [b6] at d
        cases d
      · rw [z,ht PT hP] at b3
        cases b3
        cases b4
    have e0:Env0 P w K mg (hidT s₁.heap H) callerA [] s₁ H:=⟨rfl,hM,fun b o e=>of_hidT e,Nat.le_of_eq (hidT_size _ _),trivial,fun b hb=>absurd (show b∈([]:List Addr) from hb) (by simp),hok,.of_eq hg⟩
    refine codeAny_mono ((F _ hKb (nsK hns) hBA).run callerA [] s₁ H ⟨[.ref a],[]⟩ [.ref a] [.ref a] _ _ hr e0 (hbind s₁ (.ref a)) (.cons rfl .nil) (hsp H hTs hS)) fun r s' h=>?_
    cases r with
    | error e=>exact h.elim
    | ok fl =>
      cases fl with
      | next=>exact False.elim h
      | brk=>exact False.elim h
      | cont=>exact False.elim h
      | ret u =>
        obtain ⟨v,H',os,bare,un,hok',r',q⟩:=h
        have q':v=.bl true:=q
        subst q'
        obtain rfl:u=Value.bool true:=r'
        refine ⟨rfl,⟨fun b o e=>?_,fun b o e=>?_⟩,os,bare⟩
        · rcases hO b with z | ⟨zt,z⟩ | ⟨ob,xs,z⟩
          · exact .inl (un.keep b o e z (by intro z; exact absurd (show b∈([]:List Addr) from z) (by simp)) (by simp))
          · obtain ⟨more,z2⟩:=un.tbls b _ z
            have e2:=hok' b _ z2
            rw [ht b zt] at e
            cases e
            obtain ⟨c,hc⟩:=hcd b zt
            exact .inr (.inl ⟨((PySem.W.codeHd_of_K KX hc).tab (ht b zt)).isCodeTable,rfl,#[],more,rfl,e2⟩)
          · have z2:=un.frzs b ob _ z
            obtain ⟨e1,_⟩:=hok b _ z
            obtain ⟨e2,_⟩:=hok' b _ z2
            rw [e] at e1; cases e1
            exact .inl e2
        · exact un.there b o e (by simp)
  cases hk:K.lookup a with
  | some o =>
    have e:=KX a o hk
    rw [ha] at e
    cases e
    refine core (fun b=>if b∈ts then some (.tbl #[]) else none) (fun b=>?_) (fun PT hP=>if_pos hP) (.inr ⟨_,vs.toArray,_,hk,rfl,rfl,rfl,by rw [List.size_toArray,lenV]; exact hl,by simpa using rv⟩) (fun b u z=>?_) (fun b z=>?_) fun z=>absurd (if_neg naT) z
    · by_cases hb':b∈ts
      · exact .inr (.inl ⟨hb',if_pos hb'⟩)
      · exact .inl (if_neg hb')
    · by_cases hb':b∈ts
      · have z':=(if_pos hb').symm.trans z
        cases z'
        exact ht b hb'
      · have z':=(if_neg hb').symm.trans z
        cases z'
    · by_cases hb':b∈ts
      · exact .inr hb'
      · exact absurd (if_neg hb') z
  | none =>
    refine core (fun b=>if b=a then some (.frz { cls:=.type "list",data:=.seq vs.toArray } (.lst (ns.map V.int))) else if b∈ts then some (.tbl #[]) else none) (fun b=>?_) (fun PT hP=>?_) (.inl (.inr ⟨{ cls:=.type "list",data:=.seq vs.toArray },if_pos rfl⟩)) (fun b u z=>?_) (fun b z=>?_) fun _=>hk
    · by_cases hb':b=a
      · exact .inr (.inr ⟨_,_,if_pos hb'⟩)
      · by_cases hb2:b∈ts
        · exact .inr (.inl ⟨hb2,by rw [if_neg hb',if_pos hb2]⟩)
        · exact .inl (by rw [if_neg hb',if_neg hb2])
    · have hne:PT≠a:=fun z=>naT (by rw [← z]; exact hP)
      rw [if_neg hne,if_pos hP]
    · by_cases hb':b=a
      · have z':=(if_pos hb').symm.trans z
        cases z'
        subst hb'
        exact ⟨ha,by rw [List.length_map]; exact hl,vs,_,rv,ha⟩
      · by_cases hb2:b∈ts
        · have z':=((if_neg hb').trans (if_pos hb2)).symm.trans z
          cases z'
          exact ht b hb2
        · have z':=((if_neg hb').trans (if_neg hb2)).symm.trans z
          cases z'
    · by_cases hb':b=a
      · exact .inl hb'
      · by_cases hb2:b∈ts
        · exact .inr hb2
        · exact absurd ((if_neg hb').trans (if_neg hb2)) z
theorem walk_ofT {l:PySem.W.OpenLaw} {n k:Nat} {q:Program} {loose:List Str} {XP:(Str→Option Value)→Heap→Prop} {YP:World→Heap→Prop} {d:DefRec} {K:Params→PySem.W.Frag} {sp:World→Sp} {x:Str} {ts:List Addr}
    (hn:l.most=some n) (hn2:n≤sizeLine) (hdf:d.params.defaults=[]) (hr:Room k callerA)
    (hY:∀ (w:World) (h:Heap),YP w h→(K w.params).In h∧∀ PT∈ts,h.get? PT=some (PySem.W.tabObj #[])) (hcd:∀ w:World,(ts.all fun PT=>(K w.params).any fun p=>PySem.W.codeHdIn (K w.params) p.1 PT)=true) (hnt:∀ w:World,PySem.W.noTabs (K w.params)=true)
    (F:∀ (w:World) (mg:Str→Option Value) (fa:Addr) (h:Heap),(K w.params).In h→h.Ns mainGlobals mg→mg d.name=some (.ref fa) →
      ∃ fd:FuncData,(∀ (s:Shared) (u:Value),BindsTo s fd ⟨[u],[]⟩ [(x,u)]) ∧
        ∀ base:Heap,(K w.params).In base→base.Ns mainGlobals mg→(∀ PT∈ts,base.BuiltinsAt mg PT)→FnOk l.prog w (K w.params) mg base CX0 k fa fd [x] (sp w))
    (hsp:∀ (w:World) (H:Hp) (a:Addr) (ns:List Int),ns.length≤n→(∀ z∈ns,Builtin.Int.intBits z≤1048576)→(∀ PT∈ts,H PT=some (.tbl #[]))→SqL (K w.params) H a (ns.map V.int)→sp w [.ref a] H (fun v _=>v=.bl true) fun _ _ _=>False) :
    PySem.W.WalkO q loose XP YP l.row.toRowW d [] (fun f vs=>PySem.call f vs):=by
  intro w s₀ s₁ mg mb G Y fa o pm cd doc dV kV ho hd hcd' hD hmg hg args vals as hpre hlay hrd hwl hlo
  obtain rfl:dV=.none:=PySem.W.Dflts.none hD hdf
  obtain rfl:kV=.none:=PySem.W.Dflts.noKw hD
  obtain ⟨a,vs,ns,rfl,rfl,hobj,hints,hlen⟩:=Att.script_of hn hpre hwl
  have hbits:=bits_of_lay hlay
  obtain ⟨KX,hts⟩:=hY w _ Y
  obtain ⟨fd,hb,hF⟩:=F w mg fa _ KX G.T.g hmg
  refine PySem.W.enter_call (codeAny_mono (law_callT (ts:=ts) KX G.T.g G.T.b G.T.builtins G.T.nolimit hg hts (fun PT hP=>by
    obtain ⟨p,_,h⟩:=List.any_eq_true.mp (List.all_eq_true.mp (hcd w) PT hP)
    exact ⟨_,h⟩) (hnt w) G.T.bmain hobj hints (Nat.le_trans hlen hn2) hr hF hb (fun H hT hS=>hsp w H a ns hlen hbits hT hS)) fun r s' hq=>?_)
  obtain ⟨rfl,h2,h3,h4⟩:=hq
  exact ⟨.inl ⟨.bool true,.bool true,[],rfl,fun _=>rfl,.bool true,Att.post_true l _,fun _=>⟨List.Pairwise.nil,fun _ hm=>(nomatch hm)⟩⟩,h2,h3,h4⟩
theorem srcL_at {base:Heap} {K:PySem.W.Frag} {h:Heap} {mg:Str→Option Value} {f c PT:Addr} {oc:Value} {od an:Option Addr} {osl:Array (Option Value)} {kV doc pm ct:Value} (x qual:Str) (st:Stmt) (_hB:∀ P∈[PT],base.BuiltinsAt mg P) (X:K.In h) (G:h.Ns mainGlobals mg)
    (a:PySem.W.nsIn K mainGlobals x=some (some (.ref f))) (l:K.lookup f=some ⟨oc,od,.func (PySem.W.fnOf x qual (defArgs st) (defBody st) (defScope st) .none kV doc pm an (.ref c) ct),osl⟩)
    (hc:PySem.W.codeIn K (.ref c) qual=true) (k:PySem.W.keepIn K (.ref f)=true) (hd:PySem.W.codeHdIn K c PT=true):∃ c,SrcL K mg x qual st c PT:=⟨c,srcL_mk X G a l hc k hd⟩
end L2
namespace BW
def wsum (W:Nat→Nat→Int) (v:List Nat):Int:=((List.range v.length).map fun i=>W i (v.getD i 0)).sum
def Fit (B:Nat→Nat) (v:List Nat):Prop:=∀ r,v.count r≤B r
def ind (a b:Nat):Nat:=if a=b then 1 else 0
theorem ind_self (a:Nat):ind a a=1:=if_pos rfl
theorem ind_ne {a b:Nat} (h:a≠b):ind a b=0:=if_neg h
theorem wsum_snoc (W:Nat→Nat→Int) (v:List Nat) (r:Nat):wsum W (v ++ [r])=wsum W v + W v.length r:=by
  unfold wsum
  rw [List.length_append,List.length_singleton,List.range_succ,List.map_append,List.sum_append]
  congr 1
  · congr 1
    refine List.map_congr_left fun i hi=>?_
    have hi:=List.mem_range.mp hi
    simp [List.getD,List.getElem?_append_left hi]
  · simp [List.getD]
theorem sum_one {f g:Nat→Int} {j:Nat}:∀ {n:Nat},j < n→(∀ i,i≠j→f i=g i)→((List.range n).map f).sum=((List.range n).map g).sum - g j + f j
  | 0,h,_=>absurd h (Nat.not_lt_zero _)
  | n + 1,h,e=>by
    rw [List.range_succ,List.map_append,List.map_append,List.sum_append,List.sum_append]
    by_cases hj:j=n
    · subst hj
      have:(List.range j).map f=(List.range j).map g:=List.map_congr_left fun i hi=>e i (Nat.ne_of_lt (List.mem_range.mp hi))
      rw [this]
      simp
    · have:=sum_one (f:=f) (g:=g) (n:=n) (by omega) e
      rw [this]
      have e2:=e n (fun z=>hj z.symm)
      simp [e2]
      omega
theorem wsum_set (W:Nat→Nat→Int) (v:List Nat) {j r:Nat} (h:j < v.length):wsum W (v.set j r)=wsum W v - W j v[j] + W j r:=by
  unfold wsum
  rw [List.length_set]
  have:=sum_one (f:=fun i=>W i ((v.set j r).getD i 0)) (g:=fun i=>W i (v.getD i 0)) h (fun i hi=>by
    simp [List.getD,List.getElem?_set_ne (fun z=>hi z.symm)])
  rw [this]
  simp [List.getD,h]
theorem count_move {v:List Nat} {j r x:Nat} (h:j < v.length):(v.set j r).count x + ind x v[j]=v.count x + ind x r:=by
  rw [List.count_set h]
  unfold ind
  have hpos:v[j]=x→0 < v.count x:=fun e=>List.count_pos_iff.mpr (e ▸ List.getElem_mem h)
  by_cases h1:v[j]=x <;> by_cases h2:r=x
  · have:=hpos h1
    simp [h1,h2]; omega
  · have:=hpos h1
    have h2':x≠r:=fun z=>h2 z.symm
    simp [h1,h2,h2']; omega
  · have h1':x≠v[j]:=fun z=>h1 z.symm
    simp [h1,h2,h1']
  · have h1':x≠v[j]:=fun z=>h1 z.symm
    have h2':x≠r:=fun z=>h2 z.symm
    simp [h1,h2,h1',h2']
theorem count_le_of:∀ {a b:List Nat} {r:Nat},a.length=b.length→(∀ p:Nat,a[p]? = some r→b[p]? = some r)→a.count r≤b.count r
  | [],_,_,_,_=>by simp
  | x :: a,[],r,h,_=>by simp at h
  | x :: a,y :: b,r,h,e=>by
    have ih:=count_le_of (a:=a) (b:=b) (r:=r) (by simpa using h) fun p hp=>by
      have:=e (p + 1) (by simpa using hp)
      simpa using this
    rw [List.count_cons,List.count_cons]
    have e0:=e 0
    by_cases hx:x=r
    · subst hx
      have:y=x:=by simpa using e0 rfl
      subst this
      omega
    · simp [hx]
      omega
theorem countP_lt {l:List Nat} {p q:Nat→Bool}:∀ (_:∀ x∈l,q x=true→p x=true) (_:∃ x∈l,p x=true∧q x=false),l.countP q < l.countP p:=by
  induction l with
  | nil=>rintro _ ⟨x,hx,_⟩; cases hx
  | cons a l ih =>
    rintro h ⟨x,hx,h1,h2⟩
    rw [List.countP_cons,List.countP_cons]
    have hm:l.countP q≤l.countP p:=List.countP_mono_left fun y hy=>h y (List.mem_cons_of_mem _ hy)
    rcases List.mem_cons.mp hx with z | z
    · subst z
      simp [h1,h2]
      omega
    · have:=ih (fun y hy=>h y (List.mem_cons_of_mem _ hy)) ⟨x,z,h1,h2⟩
      have ha:=h a List.mem_cons_self
      by_cases hq:q a=true
      · simp [hq,ha hq]; omega
      · simp [hq]; split <;> omega
theorem core {W:Nat→Nat→Int} {B:Nat→Nat} {way:List Nat} {g:Nat→Int} {G:Int} {R:Nat} (hB:∀ r,R≤r→B r=0) (hopt:∀ v:List Nat,v.length=way.length→Fit B v→wsum W v≤wsum W way)
    (hfix:∀ p (hp:p < way.length) r,r < R→g way[p] + W p r - W p way[p]≤g r) (hG:∀ r,way.count r < B r→g r≤G) :
    ∀ (d:Nat) (v:List Nat) (r:Nat),v.length=way.length→(List.range way.length).countP (fun i=>decide (v[i]?≠way[i]?))≤d→(∀ s,v.count s + ind s r≤B s)→wsum W v + g r≤wsum W way + G:=by
  intro d
  induction d with
  | zero =>
    intro v r hl hd hf
    by_cases ho:way.count r < B r
    · have h1:=hopt v hl fun s=>by have:=hf s; omega
      have h2:=hG r ho
      omega
    · exfalso
      have hr:=hf r
      rw [ind_self] at hr
      have:way.count r≤v.count r:=count_le_of hl.symm fun p hp=>by
        have h0:=Nat.le_zero.mp hd
        have hpl:p < way.length:=(List.getElem?_eq_some_iff.mp hp).1
        have:=List.countP_eq_zero.mp h0 p (List.mem_range.mpr hpl)
        have e:v[p]? = way[p]?:=by simpa using this
        rw [e]; exact hp
      omega
  | succ d ih =>
    intro v r hl hd hf
    by_cases ho:way.count r < B r
    · have h1:=hopt v hl fun s=>by have:=hf s; omega
      have h2:=hG r ho
      omega
    · have hr:=hf r
      rw [ind_self] at hr
      have hex:∃ p:Nat,way[p]? = some r∧v[p]?≠some r:=by
        refine Classical.byContradiction fun hn=>?_
        have:way.count r≤v.count r:=count_le_of hl.symm fun p hp=>by
          refine Classical.byContradiction fun z=>hn ⟨p,hp,z⟩
        omega
      obtain ⟨p,hp,hv⟩:=hex
      obtain ⟨hpl,hpe⟩:=List.getElem?_eq_some_iff.mp hp
      have hpv:p < v.length:=by omega
      have hv':v[p]≠r:=fun z=>hv (by simp [hpv,z])
      have hrB:r < R:=by
        refine Classical.byContradiction fun z=>?_
        have:=hB r (by omega)
        omega
      have hvR:v[p] < R:=by
        refine Classical.byContradiction fun z=>?_
        have h1:=hB v[p] (by omega)
        have h2:=hf v[p]
        have h3:0 < v.count v[p]:=List.count_pos_iff.mpr (List.getElem_mem hpv)
        omega
      have h1:=ih (v.set p r) v[p] (by simpa using hl) (by
        have:(List.range way.length).countP (fun i=>decide ((v.set p r)[i]?≠way[i]?)) < (List.range way.length).countP (fun i=>decide (v[i]?≠way[i]?)):=countP_lt (fun x hx hq=>by
          have hq':(v.set p r)[x]?≠way[x]?:=of_decide_eq_true hq
          refine decide_eq_true fun z=>hq' ?_
          by_cases hxp:x=p
          · subst hxp
            rw [List.getElem?_set_self hpv,hp]
          · rw [List.getElem?_set_ne (fun z=>hxp z.symm)]
            exact z) ⟨p,List.mem_range.mpr hpl,decide_eq_true (by rw [hp]; exact hv),decide_eq_false (by rw [List.getElem?_set_self hpv,hp]; simp)⟩
        omega) fun s=>by
          have h2:=count_move (v:=v) (j:=p) (r:=r) (x:=s) hpv
          have h3:=hf s
          have h4:ind s v[p]=ind s v[p]:=rfl
          omega
      have h2:=wsum_set W v (j:=p) (r:=r) hpv
      have h3:=hfix p hpl v[p] hvR
      rw [hpe] at h3
      omega
inductive Seg (W:Nat→Nat→Int) (way:List Nat) (R:Nat) (s:Nat):List (Nat × Nat)→Nat→Int→Prop
  | nil:s < R→Seg W way R s [] s 0
  | snoc {c:List (Nat × Nat)} {l:Nat} {g:Int} {p r:Nat}:Seg W way R s c l g→way[p]? = some l→r < R→r ∉ s :: c.map (·.2)→Seg W way R s (c ++ [(p,r)]) r (g + W p r - W p l)
section
variable {W:Nat→Nat→Int} {way:List Nat} {R s:Nat}
def endOf (s:Nat) (c:List (Nat × Nat)):Nat:=(c.getLast?.map (·.2)).getD s
def gainOf (W:Nat→Nat→Int) (way:List Nat) (c:List (Nat × Nat)):Int:=(c.map fun m=>W m.1 m.2 - W m.1 (way.getD m.1 0)).sum
theorem Seg.end_ {c:List (Nat × Nat)} {l:Nat} {g:Int} (h:Seg W way R s c l g):l=endOf s c∧g=gainOf W way c:=by
  induction h with
  | nil _=>exact ⟨rfl,rfl⟩
  | snoc h hp _ _ ih =>
    refine ⟨by simp [endOf],?_⟩
    rw [ih.2]
    simp [gainOf,List.getD,hp]
    omega
theorem Seg.mem {c:List (Nat × Nat)} {l:Nat} {g:Int} (h:Seg W way R s c l g):l∈s :: c.map (·.2):=by
  cases h with
  | nil _=>simp
  | snoc h _ _ _=>simp
theorem Seg.lt {c:List (Nat × Nat)} {l:Nat} {g:Int} (h:Seg W way R s c l g):∀ x∈s :: c.map (·.2),x < R:=by
  induction h with
  | nil h=>intro x hx; simp at hx; rw [hx]; exact h
  | snoc h _ hr _ ih =>
    intro x hx
    rw [List.map_append] at hx
    rcases List.mem_append.mp (show x∈(s :: _) ++ _ from hx) with z | z
    · exact ih x z
    · simp at z; rw [z]; exact hr
theorem Seg.nodup {c:List (Nat × Nat)} {l:Nat} {g:Int} (h:Seg W way R s c l g):(s :: c.map (·.2)).Nodup:=by
  induction h with
  | nil _=>simp
  | @snoc c _ _ p r h _ _ hn ih =>
    rw [List.map_append]
    show ((s :: c.map (·.2)) ++ [r]).Nodup
    refine List.nodup_append.mpr ⟨ih,by simp,fun a ha b hb=>?_⟩
    have:b=r:=by simpa using hb
    rw [this]
    exact fun z=>hn (z ▸ ha)
theorem Seg.split {c:List (Nat × Nat)} {l:Nat} {g:Int} (h:Seg W way R s c l g):∀ x∈s :: c.map (·.2),∃ c1 c2 g1 g2,c=c1 ++ c2∧Seg W way R s c1 x g1∧Seg W way R x c2 l g2∧g=g1 + g2:=by
  induction h with
  | nil h =>
    intro x hx
    have:x=s:=by simpa using hx
    subst this
    exact ⟨[],[],0,0,rfl,.nil h,.nil h,rfl⟩
  | @snoc c l g p r h hp hr hn ih =>
    intro x hx
    rw [List.map_append] at hx
    rcases List.mem_append.mp (show x∈(s :: c.map (·.2)) ++ [r] from hx) with z | z
    · obtain ⟨c1,c2,g1,g2,rfl,a,b,e⟩:=ih x z
      refine ⟨c1,c2 ++ [(p,r)],g1,g2 + W p r - W p l,by simp,a,.snoc b hp hr fun q=>?_,by omega⟩
      rcases List.mem_cons.mp q with q | q
      · exact hn (q ▸ z)
      · exact hn (List.mem_cons_of_mem _ (by simp only [List.map_append]; exact List.mem_append_right _ q))
    · have:x=r:=by simpa using z
      subst this
      exact ⟨c ++ [(p,x)],[],_,0,by simp,.snoc h hp hr hn,.nil hr,by omega⟩
def app (v:List Nat) (c:List (Nat × Nat)):List Nat:=c.foldl (fun v m=>v.set m.1 m.2) v
theorem app_snoc (v:List Nat) (c:List (Nat × Nat)) (m:Nat × Nat):app v (c ++ [m])=(app v c).set m.1 m.2:=by simp [app]
theorem Seg.app {c:List (Nat × Nat)} {l:Nat} {g:Int} (h:Seg W way R s c l g) :
    (app way c).length=way.length∧wsum W (app way c)=wsum W way + g∧(∀ x,(app way c).count x + ind x s=way.count x + ind x l)∧∀ q r:Nat,way[q]? = some r→(r ∉ s :: c.map (·.2)∨r=l)→(BW.app way c)[q]? = some r:=by
  induction h with
  | nil _=>exact ⟨rfl,by simp [BW.app],fun x=>rfl,fun q r h _=>h⟩
  | @snoc c l g p r h hp hr hn ih =>
    obtain ⟨i1,i2,i3,i4⟩:=ih
    obtain ⟨hpl,hpe⟩:=List.getElem?_eq_some_iff.mp hp
    have hpa:p < (BW.app way c).length:=by omega
    have hv:=i4 p l hp (.inr rfl)
    have hv':(BW.app way c)[p]=l:=by
      rw [List.getElem?_eq_getElem hpa] at hv
      exact Option.some.inj hv
    rw [app_snoc]
    dsimp only
    refine ⟨by simpa using i1,?_,fun x=>?_,fun q r' hq hc=>?_⟩
    · rw [wsum_set W _ hpa,i2,hv']
      omega
    · have h1:=count_move (v:=BW.app way c) (j:=p) (r:=r) (x:=x) hpa
      have h2:=i3 x
      rw [hv'] at h1
      omega
    · have hnot:r' ∉ s :: c.map (·.2):=by
        rcases hc with z | z
        · intro w
          refine z ?_
          rw [List.map_append]
          exact List.mem_append_left [r] w
        · rw [z]; exact hn
      have hqp:q≠p:=fun z=>by
        rw [z,hp] at hq
        have:l=r':=Option.some.inj hq
        exact hnot (this ▸ h.mem)
      rw [List.getElem?_set_ne (fun z=>hqp z.symm)]
      exact i4 q r' hq (.inl hnot)
theorem Seg.persons {c:List (Nat × Nat)} {l:Nat} {g:Int} (h:Seg W way R s c l g):∀ m∈c,m.1 < way.length∧m.2 < R:=by
  induction h with
  | nil _=>intro m hm; cases hm
  | @snoc c l g p r h hp hr _ ih =>
    intro m hm
    rcases List.mem_append.mp hm with z | z
    · exact ih m z
    · have:m=(p,r):=by simpa using z
      rw [this]
      exact ⟨(List.getElem?_eq_some_iff.mp hp).1,hr⟩
theorem Seg.round {B:Nat→Nat} (hfit:Fit B way) (hopt:∀ v:List Nat,v.length=way.length→Fit B v→wsum W v≤wsum W way) {c:List (Nat × Nat)} {l p:Nat} {g:Int} (h:Seg W way R s c l g) (hp:way[p]? = some l):g + W p s - W p l≤0:=by
  obtain ⟨i1,i2,i3,i4⟩:=h.app
  obtain ⟨hpl,hpe⟩:=List.getElem?_eq_some_iff.mp hp
  have hpa:p < (BW.app way c).length:=by omega
  have hv:=i4 p l hp (.inr rfl)
  have hv':(BW.app way c)[p]=l:=by
    rw [List.getElem?_eq_getElem hpa] at hv
    exact Option.some.inj hv
  have h1:=hopt ((BW.app way c).set p s) (by simpa using i1) fun x=>by
    have h1:=count_move (v:=BW.app way c) (j:=p) (r:=s) (x:=x) hpa
    have h2:=i3 x
    have h3:=hfit x
    rw [hv'] at h1
    omega
  rw [wsum_set W _ hpa,i2,hv'] at h1
  omega
end
theorem nodup_le:∀ (R:Nat) (l:List Nat),l.Nodup→(∀ x∈l,x < R)→l.length≤R
  | 0,l,_,h=>by
    cases l with
    | nil=>simp
    | cons a r=>exact absurd (h a List.mem_cons_self) (Nat.not_lt_zero _)
  | R + 1,l,hn,h=>by
    have h1:=nodup_le R (l.erase R) (hn.erase _) fun x hx=>by
      have hx':=(hn.mem_erase_iff).mp hx
      have:=h x hx'.2
      have:=hx'.1
      omega
    have h2:=List.length_erase (a:=R) (l:=l)
    split at h2 <;> omega
abbrev GM:=List Int × List (List (Nat × Nat))
def relax (W:Nat→Nat→Int) (p l:Nat) (st:GM) (r:Nat):GM :=
  if st.1.getD r 0 < st.1.getD l 0 + W p r - W p l then (st.1.set r (st.1.getD l 0 + W p r - W p l),st.2.set r (st.2.getD l [] ++ [(p,r)])) else st
def person (W:Nat→Nat→Int) (way:List Nat) (R:Nat) (st:GM) (p:Nat):GM:=(List.range R).foldl (relax W p (way.getD p 0)) st
def turn (W:Nat→Nat→Int) (way:List Nat) (R:Nat) (st:GM):GM:=(List.range way.length).foldl (person W way R) st
def turns (W:Nat→Nat→Int) (way:List Nat) (R:Nat) (st:GM) (k:Nat):GM:=(List.range k).foldl (fun st _=>turn W way R st) st
def first (W:Nat→Nat→Int) (way:List Nat) (R:Nat):GM:=((List.range R).map fun r=>W way.length r,(List.range R).map fun r => [(way.length,r)])
theorem turns_succ (W:Nat→Nat→Int) (way:List Nat) (R:Nat) (st:GM) (k:Nat):turns W way R st (k + 1)=turn W way R (turns W way R st k):=by
  unfold turns
  rw [List.range_succ,List.foldl_append]
  rfl
section
variable {W:Nat→Nat→Int} {way:List Nat} {R:Nat}
structure Ok (W:Nat→Nat→Int) (way:List Nat) (R:Nat) (st:GM):Prop where
  l1:st.1.length=R
  l2:st.2.length=R
  at_:∀ r,r < R→∃ r0 c g,st.2.getD r []=(way.length,r0) :: c∧Seg W way R r0 c r g∧st.1.getD r 0=W way.length r0 + g∧∀ c1 c2 x g1,c=c1 ++ c2→Seg W way R r0 c1 x g1→W way.length r0 + g1≤st.1.getD x 0
theorem first_ok:Ok W way R (first W way R):=by
  refine ⟨by simp [first],by simp [first],fun r hr=>⟨r,[],0,?_,.nil hr,?_,fun c1 c2 x g1 e h=>?_⟩⟩
  · simp [first,List.getD,hr]
  · simp [first,List.getD,hr]
  · have e1:c1=[]:=(List.append_eq_nil_iff.mp e.symm).1
    subst e1
    obtain ⟨h1,h2⟩:=h.end_
    have h1':x=r:=h1
    have h2':g1=0:=h2
    subst h1' h2'
    simp [first,List.getD,hr]
theorem getD_set {α:Type} {l:List α} {i j:Nat} {x d:α}:(l.set i x).getD j d=if i=j∧j < l.length then x else l.getD j d:=by
  simp only [List.getD]
  by_cases h:i=j
  · subst h
    by_cases hl:i < l.length
    · simp [List.getElem?_set_self hl,hl]
    · simp [hl]
  · rw [List.getElem?_set_ne h]
    simp [h]
theorem relax_mono {p l r:Nat} {st:GM} (x:Nat):st.1.getD x 0≤(relax W p l st r).1.getD x 0:=by
  unfold relax
  split
  · rename_i h
    show _≤(st.1.set r _).getD x 0
    rw [getD_set]
    split
    · rename_i hx
      rw [← hx.1]
      omega
    · exact Int.le_refl _
  · exact Int.le_refl _
theorem relax_at {p l r:Nat} {st:GM} (hr:r < st.1.length):st.1.getD l 0 + W p r - W p l≤(relax W p l st r).1.getD r 0:=by
  unfold relax
  split
  · show _≤(st.1.set r _).getD r 0
    rw [getD_set,if_pos ⟨rfl,hr⟩]
    exact Int.le_refl _
  · rename_i h
    omega
theorem relax_ok {B:Nat→Nat} (hfit:Fit B way) (hopt:∀ v:List Nat,v.length=way.length→Fit B v→wsum W v≤wsum W way) {p l r:Nat} {st:GM} (hp:way[p]? = some l) (hl:l < R) (hr:r < R) (ok:Ok W way R st):Ok W way R (relax W p l st r):=by
  have mono:=fun x=>relax_mono (W:=W) (p:=p) (l:=l) (r:=r) (st:=st) x
  unfold relax at mono ⊢
  split
  · rename_i hlt
    rw [if_pos hlt] at mono
    obtain ⟨r0,c,g,e1,hs,e2,hd⟩:=ok.at_ l hl
    have hnot:r ∉ r0 :: c.map (·.2):=fun z=>by
      obtain ⟨c1,c2,g1,g2,ec,s1,s2,eg⟩:=hs.split r z
      have h1:=hd c1 c2 r g1 ec s1
      have h2:=s2.round hfit hopt hp
      rw [e2] at hlt
      omega
    refine ⟨by simpa using ok.l1,by simpa using ok.l2,fun x hx=>?_⟩
    by_cases hxr:r=x
    · subst hxr
      refine ⟨r0,c ++ [(p,r)],g + W p r - W p l,?_,hs.snoc hp hr hnot,?_,fun c1 c2 y g1 ec s1=>?_⟩
      · show (st.2.set r _).getD r []=_
        rw [getD_set,if_pos ⟨rfl,by rw [ok.l2]; exact hr⟩,e1]
        rfl
      · show (st.1.set r _).getD r 0=_
        rw [getD_set,if_pos ⟨rfl,by rw [ok.l1]; exact hr⟩,e2]
        omega
      · rcases List.eq_nil_or_concat c2 with z | ⟨c2',m,z⟩
        · subst z
          rw [List.append_nil] at ec
          subst ec
          obtain ⟨a1,a2⟩:=s1.end_
          obtain ⟨b1,b2⟩:=(hs.snoc hp hr hnot).end_
          have:y=r:=a1.trans b1.symm
          subst this
          show _≤(st.1.set y _).getD y 0
          rw [getD_set,if_pos ⟨rfl,by rw [ok.l1]; exact hr⟩,e2]
          have:g1=g + W p y - W p l:=a2.trans b2.symm
          omega
        · subst z
          rw [List.concat_eq_append,← List.append_assoc] at ec
          have ec':=List.append_inj_left' ec rfl
          have:=hd c1 c2' y g1 ec' s1
          exact Int.le_trans this (mono y)
    · obtain ⟨r0',c',g',f1,f2,f3,f4⟩:=ok.at_ x hx
      refine ⟨r0',c',g',?_,f2,?_,fun c1 c2 y g1 ec s1=>Int.le_trans (f4 c1 c2 y g1 ec s1) (mono y)⟩
      · show (st.2.set r _).getD x []=_
        rw [getD_set,if_neg (fun z=>hxr z.1)]
        exact f1
      · show (st.1.set r _).getD x 0=_
        rw [getD_set,if_neg (fun z=>hxr z.1)]
        exact f3
  · exact ok
theorem fold_inv {α β:Type} {f:β→α→β} {I:β→Prop} {l:List α}:∀ {b:β},I b→(∀ b,∀ a∈l,I b→I (f b a))→I (l.foldl f b):=by
  induction l with
  | nil=>intro b h _; exact h
  | cons a l ih=>intro b h hs; exact ih (hs b a List.mem_cons_self h) fun b' a' ha=>hs b' a' (List.mem_cons_of_mem _ ha)
theorem person_mono {p:Nat} {st:GM} (x:Nat):st.1.getD x 0≤(person W way R st p).1.getD x 0 :=
  fold_inv (I:=fun st':GM=>st.1.getD x 0≤st'.1.getD x 0) (Int.le_refl _) fun b a _ h=>Int.le_trans h (relax_mono x)
theorem turn_mono {st:GM} (x:Nat):st.1.getD x 0≤(turn W way R st).1.getD x 0 :=
  fold_inv (I:=fun st':GM=>st.1.getD x 0≤st'.1.getD x 0) (Int.le_refl _) fun b a _ h=>Int.le_trans h (person_mono x)
theorem relax_len {p l r:Nat} {st:GM} (h:st.1.length=R):(relax W p l st r).1.length=R:=by
  unfold relax
  split
  · simpa using h
  · exact h
theorem person_len {p:Nat} {st:GM} (h:st.1.length=R):(person W way R st p).1.length=R:=fold_inv (I:=fun st':GM=>st'.1.length=R) h fun b a _ h=>relax_len h
theorem person_at {p l r:Nat} {st:GM} (hp:way[p]? = some l) (hl:st.1.length=R) (hr:r < R):st.1.getD l 0 + W p r - W p l≤(person W way R st p).1.getD r 0:=by
  have e:way.getD p 0=l:=by simp [List.getD,hp]
  unfold person
  rw [e]
  obtain ⟨a,b,hab⟩:=List.append_of_mem (List.mem_range.mpr hr)
  rw [hab,List.foldl_append,List.foldl_cons]
  have h1:st.1.getD l 0≤(a.foldl (relax W p l) st).1.getD l 0:=fold_inv (I:=fun st':GM=>st.1.getD l 0≤st'.1.getD l 0) (Int.le_refl _) fun b a _ h=>Int.le_trans h (relax_mono l)
  have h2:(a.foldl (relax W p l) st).1.length=R:=fold_inv (I:=fun st':GM=>st'.1.length=R) hl fun b a _ h=>relax_len h
  have h3:=relax_at (W:=W) (p:=p) (l:=l) (r:=r) (st:=a.foldl (relax W p l) st) (by rw [h2]; exact hr)
  have h4:(relax W p l (a.foldl (relax W p l) st) r).1.getD r 0≤(b.foldl (relax W p l) (relax W p l (a.foldl (relax W p l) st) r)).1.getD r 0:=fold_inv (I:=fun st':GM=>(relax W p l (a.foldl (relax W p l) st) r).1.getD r 0≤st'.1.getD r 0) (Int.le_refl _) fun b a _ h=>Int.le_trans h (relax_mono r)
  omega
theorem turn_at {p l r:Nat} {st:GM} (hp:way[p]? = some l) (hl:st.1.length=R) (hr:r < R):st.1.getD l 0 + W p r - W p l≤(turn W way R st).1.getD r 0:=by
  unfold turn
  obtain ⟨a,b,hab⟩:=List.append_of_mem (List.mem_range.mpr (List.getElem?_eq_some_iff.mp hp).1)
  rw [hab,List.foldl_append,List.foldl_cons]
  have h1:st.1.getD l 0≤(a.foldl (person W way R) st).1.getD l 0:=fold_inv (I:=fun st':GM=>st.1.getD l 0≤st'.1.getD l 0) (Int.le_refl _) fun b a _ h=>Int.le_trans h (person_mono l)
  have h2:(a.foldl (person W way R) st).1.length=R:=fold_inv (I:=fun st':GM=>st'.1.length=R) hl fun b a _ h=>person_len h
  have h3:=person_at (W:=W) (way:=way) (R:=R) (st:=a.foldl (person W way R) st) hp h2 hr
  have h4:(person W way R (a.foldl (person W way R) st) p).1.getD r 0≤(b.foldl (person W way R) (person W way R (a.foldl (person W way R) st) p)).1.getD r 0:=fold_inv (I:=fun st':GM=>(person W way R (a.foldl (person W way R) st) p).1.getD r 0≤st'.1.getD r 0) (Int.le_refl _) fun b a _ h=>Int.le_trans h (person_mono r)
  omega
theorem turns_ok {B:Nat→Nat} (hfit:Fit B way) (hopt:∀ v:List Nat,v.length=way.length→Fit B v→wsum W v≤wsum W way) (hway:∀ r∈way,r < R) (k:Nat):Ok W way R (turns W way R (first W way R) k):=by
  refine fold_inv (I:=Ok W way R) first_ok fun st _ _ ok=>?_
  refine fold_inv (I:=Ok W way R) ok fun st p hp ok=>?_
  have hpl:=List.mem_range.mp hp
  have e:way[p]? = some (way.getD p 0):=by simp [List.getD,hpl]
  exact fold_inv (I:=Ok W way R) ok fun st r hr ok=>relax_ok hfit hopt e (hway _ (List.mem_of_getElem? e)) (List.mem_range.mp hr) ok
inductive Reach (W:Nat→Nat→Int) (way:List Nat) (R:Nat):Nat→Nat→Int→Prop
  | base {r:Nat}:r < R→Reach W way R 0 r (W way.length r)
  | keep {k r:Nat} {x:Int}:Reach W way R k r x→Reach W way R (k + 1) r x
  | step {k l p r:Nat} {x:Int}:Reach W way R k l x→way[p]? = some l→r < R→Reach W way R (k + 1) r (x + W p r - W p l)
theorem Reach.more {k r:Nat} {x:Int} (h:Reach W way R k r x):∀ {j:Nat},k≤j→Reach W way R j r x:=by
  intro j hj
  induction j with
  | zero =>
    have:k=0:=by omega
    subst this
    exact h
  | succ j ih =>
    by_cases hk:k=j + 1
    · subst hk; exact h
    · exact .keep (ih (by omega))
theorem Seg.reach {r0 l:Nat} {c:List (Nat × Nat)} {g:Int} (h:Seg W way R r0 c l g):Reach W way R c.length l (W way.length r0 + g):=by
  induction h with
  | nil h =>
    have:=Reach.base (W:=W) (way:=way) h
    simpa using this
  | @snoc c l g p r h hp hr _ ih =>
    have:=Reach.step ih hp hr
    rw [List.length_append]
    have e:W way.length r0 + g + W p r - W p l=W way.length r0 + (g + W p r - W p l):=by omega
    rw [e] at this
    exact this
theorem reach_le {k r:Nat} {x:Int} (h:Reach W way R k r x):x≤(turns W way R (first W way R) k).1.getD r 0:=by
  have hlen:∀ k,(turns W way R (first W way R) k).1.length=R:=fun k=>fold_inv (I:=fun st':GM=>st'.1.length=R) (by simp [first]) fun b a _ h=>fold_inv (I:=fun st':GM=>st'.1.length=R) h fun b a _ h=>person_len h
  induction h with
  | base hr=>simp [turns,first,List.getD,hr]
  | keep _ ih=>rw [turns_succ]; exact Int.le_trans ih (turn_mono _)
  | @step k l p r x _ hp hr ih =>
    rw [turns_succ]
    have:=turn_at (W:=W) (way:=way) (R:=R) (st:=turns W way R (first W way R) k) hp (hlen k) hr
    omega
theorem turns_fix {B:Nat→Nat} (hfit:Fit B way) (hopt:∀ v:List Nat,v.length=way.length→Fit B v→wsum W v≤wsum W way) (hway:∀ r∈way,r < R) {p r:Nat} (hp:p < way.length) (hr:r < R) :
    (turns W way R (first W way R) R).1.getD way[p] 0 + W p r - W p way[p]≤(turns W way R (first W way R) R).1.getD r 0:=by
  have ok:=turns_ok (W:=W) (R:=R) hfit hopt hway R
  have hl:way[p] < R:=hway _ (List.getElem_mem hp)
  obtain ⟨r0,c,g,_,hs,e2,_⟩:=ok.at_ _ hl
  have h1:=nodup_le R _ hs.nodup hs.lt
  have h2:c.length + 1≤R:=by simpa using h1
  have h3:=hs.reach.more (j:=R - 1) (by omega)
  have h4:=Reach.step h3 (show way[p]? = some way[p] by simp [hp]) hr
  have h5:=reach_le h4
  rw [show R - 1 + 1=R by omega] at h5
  rw [e2]
  exact h5
theorem app_last {v:List Nat} {x:Nat}:∀ {c:List (Nat × Nat)},(∀ m∈c,m.1 < v.length)→app (v ++ [x]) c=app v c ++ [x]:=by
  intro c
  induction c generalizing v with
  | nil=>intro _; rfl
  | cons m c ih =>
    intro h
    have hm:=h m List.mem_cons_self
    show app ((v ++ [x]).set m.1 m.2) c=app (v.set m.1 m.2) c ++ [x]
    rw [List.set_append_left _ _ hm]
    exact ih fun m' hm'=>by rw [List.length_set]; exact h m' (List.mem_cons_of_mem _ hm')
theorem brought {B:Nat→Nat} (hB:∀ r,R≤r→B r=0) (hfit:Fit B way) (hopt:∀ v:List Nat,v.length=way.length→Fit B v→wsum W v≤wsum W way) {e:Nat} (he:way.count e < B e)
    (hbest:∀ r,way.count r < B r→(turns W way R (first W way R) R).1.getD r 0≤(turns W way R (first W way R) R).1.getD e 0) :
    ∀ b,b=app (way ++ [e]) ((turns W way R (first W way R) R).2.getD e [])→b.length=way.length + 1∧Fit B b∧∀ v:List Nat,v.length=way.length + 1→Fit B v→wsum W v≤wsum W b:=by
  have hway:∀ r∈way,r < R:=fun r hr=>by
    refine Classical.byContradiction fun z=>?_
    have h1:=hB r (by omega)
    have h2:=hfit r
    have h3:=List.count_pos_iff.mpr hr
    omega
  have ok:=turns_ok (W:=W) (R:=R) hfit hopt hway R
  have heR:e < R:=by
    refine Classical.byContradiction fun z=>?_
    have:=hB e (by omega)
    omega
  obtain ⟨r0,c,g,e1,hs,e2,_⟩:=ok.at_ e heR
  rintro b rfl
  rw [e1]
  have ea:app (way ++ [e]) ((way.length,r0) :: c)=app way c ++ [r0]:=by
    show app ((way ++ [e]).set way.length r0) c=_
    rw [List.set_append_right _ _ (Nat.le_refl _)]
    simp only [Nat.sub_self,List.set_cons_zero]
    exact app_last fun m hm=>(hs.persons m hm).1
  rw [ea]
  obtain ⟨i1,i2,i3,_⟩:=hs.app
  refine ⟨by simp [i1],fun x=>?_,fun v hv hf=>?_⟩
  · rw [List.count_append]
    have h1:=i3 x
    have h2:=hfit x
    have h3:List.count x [r0]=ind x r0:=by
      unfold ind
      by_cases h:x=r0
      · subst h; simp
      · have h':r0≠x:=fun z=>h z.symm
        simp [h,h']
    rw [h3]
    by_cases hx:x=e
    · subst hx
      rw [ind_self] at h1
      omega
    · rw [ind_ne hx] at h1
      omega
  · rw [wsum_snoc,i2,i1]
    rcases List.eq_nil_or_concat v with z | ⟨v',r,z⟩
    · subst z; simp at hv
    · subst z
      rw [List.concat_eq_append] at hf ⊢
      have hv':v'.length=way.length:=by simpa using hv
      rw [wsum_snoc,hv']
      have hf':∀ s,v'.count s + ind s r≤B s:=fun s=>by
        have:=hf s
        rw [List.count_append] at this
        have h3:List.count s [r]=ind s r:=by
          unfold ind
          by_cases h:s=r
          · subst h; simp
          · have h':r≠s:=fun z=>h z.symm
            simp [h,h']
        omega
      have hrR:r < R:=by
        refine Classical.byContradiction fun z=>?_
        have h1:=hB r (by omega)
        have h2:=hf' r
        rw [ind_self] at h2
        omega
      have h1:=core (W:=W) (B:=B) (way:=way) (g:=fun r=>(turns W way R (first W way R) R).1.getD r 0) (R:=R) hB hopt (fun p hp r hr=>turns_fix hfit hopt hway hp hr) hbest _ v' r hv' (Nat.le_refl _) hf'
      have h2:W way.length r≤(turns W way R (first W way R) R).1.getD r 0:=reach_le ((Reach.base hrR).more (Nat.zero_le _))
      have h3:(turns W way R (first W way R) R).1.getD e 0=W way.length r0 + g:=e2
      rw [h3] at h1
      omega
end
end BW
namespace L2
open PySem PySem.Spec PyProof.Rows BW
theorem Room.dep {k:Nat} {A:Around} (r:Room k A):A.depth < recursionLimit:=by have:=r.dp; omega
def wI (way:List Nat):List Int:=way.map fun (r:Nat)=>(r:Int)
theorem wI_len (way:List Nat):((wI way).map V.int).length=way.length:=by simp [wI]
theorem wI_at {way:List Nat} {i r:Nat} (h:way[i]? = some r):((wI way).map V.int)[i]? = some (.int (r:Int)):=by simp [wI,h]
theorem wI_count (way:List Nat) (r:Nat):(wI way).count (r:Int)=way.count r:=by
  induction way with
  | nil=>rfl
  | cons x l ih =>
    show List.count (r:Int) (((x:Nat):Int) :: wI l)=_
    rw [List.count_cons,List.count_cons,ih]
    by_cases h:x=r
    · subst h; simp
    · have:¬ (((x:Nat):Int)=(r:Int)):=by omega
      simp [h,this]
def wF (worths:List (List Int)) (p r:Nat):Int:=(worths.getD p []).getD r 0
def bF (beds:List Int) (r:Nat):Nat:=(beds.getD r 0).toNat
def ChainAt (H:Hp) (a:Addr) (c:List (Nat × Nat)):Prop:=∃ ts:List Addr,H a=some (.lst (ts.map V.ref))∧ts.length=c.length∧∀ (j:Nat) t m,ts[j]? = some t→c[j]? = some m→H t=some (.tup [.int (m.1:Int),.int (m.2:Int)])
theorem ChainAt.keep {H H':Hp} {a:Addr} {c:List (Nat × Nat)} (h:ChainAt H a c) (h1:∀ o,H a=some o→H' a=some o) (h2:∀ t xs,H t=some (.tup xs)→H' t=some (.tup xs)):ChainAt H' a c:=by
  obtain ⟨ts,e1,e2,e3⟩:=h
  exact ⟨ts,h1 _ e1,e2,fun j t m a b=>h2 _ _ (e3 j t m a b)⟩
theorem ChainAt.snoc {H:Hp} {a t:Addr} {c:List (Nat × Nat)} {m:Nat × Nat} {ts:List Addr} (e1:H a=some (.lst (ts.map V.ref ++ [.ref t]))) (e2:ts.length=c.length) (e3:∀ (j:Nat) t m,ts[j]? = some t→c[j]? = some m→H t=some (.tup [.int (m.1:Int),.int (m.2:Int)])) (e4:H t=some (.tup [.int (m.1:Int),.int (m.2:Int)])):ChainAt H a (c ++ [m]):=by
  refine ⟨ts ++ [t],by rw [e1]; simp,by simp [e2],fun j t' m' h1 h2=>?_⟩
  by_cases hj:j < ts.length
  · rw [List.getElem?_append_left hj] at h1
    rw [List.getElem?_append_left (by omega)] at h2
    exact e3 j t' m' h1 h2
  · have hj2:j=ts.length:=by
      have:=(List.getElem?_eq_some_iff.mp h1).1
      simp at this
      omega
    subst hj2
    simp at h1
    rw [e2] at h2
    simp at h2
    subst h1 h2
    exact e4
structure MovesAt (H:Hp) (ga mv:Addr) (gs:List Int) (ms:List (List (Nat × Nat))):Prop where
  ne:ga≠mv
  g:H ga=some (.lst (gs.map V.int))
  ex:∃ ls:List Addr,H mv=some (.lst (ls.map V.ref))∧ls.length=ms.length∧(∀ a∈ls,a≠ga∧a≠mv)∧∀ (i:Nat) a c,ls[i]? = some a→ms[i]? = some c→ChainAt H a c
theorem MovesAt.same {H H':Hp} {ga mv:Addr} {gs:List Int} {ms:List (List (Nat × Nat))} (h:MovesAt H ga mv gs ms) (s:Same H H'):MovesAt H' ga mv gs ms:=by
  obtain ⟨ls,e1,e2,e3,e4⟩:=h.ex
  exact ⟨h.ne,s _ _ h.g,ls,s _ _ e1,e2,e3,fun i a c h1 h2=>(e4 i a c h1 h2).keep (fun o e=>s _ _ e) fun t xs e=>s _ _ e⟩
theorem MovesAt.gset {H:Hp} {ga mv:Addr} {gs gs':List Int} {ms:List (List (Nat × Nat))} (h:MovesAt H ga mv gs ms):MovesAt (upd H ga (.lst (gs'.map V.int))) ga mv gs' ms:=by
  obtain ⟨ls,e1,e2,e3,e4⟩:=h.ex
  refine ⟨h.ne,upd_same,ls,by rw [upd_ne h.ne.symm]; exact e1,e2,e3,fun i a c h1 h2=>(e4 i a c h1 h2).keep (fun o e=>?_) fun t xs e=>?_⟩
  · rw [upd_ne (e3 a (List.mem_of_getElem? h1)).1]; exact e
  · rw [upd_ne (ne_of e h.g (by intro z; cases z))]; exact e
theorem MovesAt.mset {H:Hp} {ga mv n:Addr} {gs:List Int} {ms:List (List (Nat × Nat))} {ls:List Addr} {r:Nat} {c:List (Nat × Nat)} (h:MovesAt H ga mv gs ms) (e1:H mv=some (.lst (ls.map V.ref))) (hr:r < ls.length) (hn1:n≠ga) (hn2:n≠mv) (hc:ChainAt H n c) :
    MovesAt (upd H mv (.lst ((ls.map V.ref).set r (.ref n)))) ga mv gs (ms.set r c):=by
  obtain ⟨ls',f1,e2,e3,e4⟩:=h.ex
  rw [e1] at f1
  have:ls'=ls:=by
    have f2:=HO.lst.inj (Option.some.inj f1)
    have hinj:∀ a b:Addr,V.ref a=V.ref b→a=b:=fun a b z=>V.ref.inj z
    exact (List.map_inj_right (f:=V.ref) (fun a b z=>hinj a b z)).mp f2.symm
  subst this
  have kp:∀ a c,ChainAt H a c→a≠mv→ChainAt (upd H mv (.lst ((ls'.map V.ref).set r (.ref n)))) a c:=fun a c hc hne=>hc.keep (fun o e=>by rw [upd_ne hne]; exact e) fun t xs e=>by
    rw [upd_ne (ne_of e e1 (by intro z; cases z))]; exact e
  refine ⟨h.ne,by rw [upd_ne h.ne]; exact h.g,ls'.set r n,by rw [upd_same,List.map_set],by simp [e2],fun a ha=>?_,fun i a c' h1 h2=>?_⟩
  · rcases List.mem_or_eq_of_mem_set ha with z | z
    · exact e3 a z
    · rw [z]; exact ⟨hn1,hn2⟩
  · by_cases hi:r=i
    · subst hi
      rw [List.getElem?_set_self hr] at h1
      rw [List.getElem?_set_self (by omega)] at h2
      cases h1
      cases h2
      exact kp _ _ hc hn2
    · rw [List.getElem?_set_ne hi] at h1
      rw [List.getElem?_set_ne hi] at h2
      exact kp _ _ (e4 i a c' h1 h2) (e3 a (List.mem_of_getElem? h1)).2
def But2 (ga mv:Addr) (H H':Hp):Prop:=∀ b o,H b=some o→b≠ga→b≠mv→H' b=some o
structure BestOk (beds:List Int) (worths:List (List Int)):Prop where
  b1:beds.length≤10
  w1:worths.length≤10
  rows:∀ row∈worths,row.length=beds.length
theorem bF_out (beds:List Int):∀ r,beds.length≤r→bF beds r=0:=fun r h=>by simp [bF,List.getD,h]
def Opt (beds:List Int) (worths:List (List Int)) (way:List Nat):Prop:=∀ v:List Nat,v.length=way.length→Fit (bF beds) v→wsum (wF worths) v≤wsum (wF worths) way
theorem fit_lt {beds:List Int} {way:List Nat} (h:Fit (bF beds) way):∀ r∈way,r < beds.length:=fun r hr=>by
  refine Classical.byContradiction fun z=>?_
  have h1:=bF_out beds r (by omega)
  have h2:=h r
  have h3:=List.count_pos_iff.mpr hr
  omega
def sp_improve (K:PySem.W.Frag) (C:Addr):Sp:=fun vs H Q _ => ∃ (H0:Hp) (p a ga mv:Addr) (beds:List Int) (worths:List (List Int)) (rent:Int) (way:List Nat) (st:GM),vs=[.ref p,.ref a,.ref ga,.ref mv]∧Same H0 H∧H0 ga=none∧H0 mv=none ∧
  HouseAt C H0 p beds worths rent∧H0 a=some (.lst ((wI way).map V.int))∧BestOk beds worths∧way.length < worths.length∧Fit (bF beds) way∧Opt beds worths way∧Ok (wF worths) way beds.length st∧MovesAt H ga mv st.1 st.2 ∧
  ∀ H',But2 ga mv H H'→MovesAt H' ga mv (turn (wF worths) way beds.length st).1 (turn (wF worths) way beds.length st).2→Q .non H'
theorem HouseAt.sameB {C:Addr} {H H':Hp} {p:Addr} {beds:List Int} {worths:List (List Int)} {rent:Int} (h:HouseAt C H p beds worths rent) (s:SameB H H'):HouseAt C H' p beds worths rent:=by
  obtain ⟨dx,b,w,h1,h2,ws,h3,h4,h5⟩:=h.ex
  exact ⟨dx,b,w,s.to _ _ h1 rfl,s.to _ _ h2 rfl,ws,s.to _ _ h3 rfl,h4,fun i a row e1 e2=>s.to _ _ (h5 i a row e1 e2) rfl⟩
theorem Mat.sameB {H H':Hp} {w:Addr} {worths:List (List Int)} (h:Mat H w worths) (s:SameB H H'):Mat H' w worths:=by
  obtain ⟨ws,h3,h4,h5⟩:=h
  exact ⟨ws,s.to _ _ h3 rfl,h4,fun i a row e1 e2=>s.to _ _ (h5 i a row e1 e2) rfl⟩
theorem zsum:∀ R:Nat,((List.range R).map fun _=>(0:Nat)).sum=0
  | 0=>rfl
  | R + 1=>by
    rw [List.range_succ,List.map_append,List.sum_append,zsum R]
    rfl
theorem ind_sum (x:Nat):∀ R:Nat,((List.range R).map fun r=>ind x r).sum≤1:=by
  intro R
  induction R with
  | zero=>simp
  | succ R ih =>
    rw [List.range_succ,List.map_append,List.sum_append]
    by_cases h:x=R
    · subst h
      have:((List.range x).map fun r=>ind x r).sum=0:=by
        have:(List.range x).map (fun r=>ind x r)=(List.range x).map fun _=>0:=List.map_congr_left fun r hr=>ind_ne (Nat.ne_of_gt (List.mem_range.mp hr))
        rw [this]
        exact zsum x
      rw [this]
      simp [ind]
    · simp [ind_ne h]
      exact ih
theorem count_sum (way:List Nat) (R:Nat):((List.range R).map fun r=>way.count r).sum≤way.length:=by
  induction way with
  | nil =>
    have:=zsum R
    simp [this]
  | cons x l ih =>
    have h1:(List.range R).map (fun r=>(x :: l).count r)=(List.range R).map (fun r=>l.count r + ind x r):=List.map_congr_left fun r _=>by
      rw [List.count_cons]
      unfold ind
      by_cases h:x=r
      · subst h; simp
      · simp [h]
    have h2:∀ R,((List.range R).map (fun r=>l.count r + ind x r)).sum=((List.range R).map fun r=>l.count r).sum + ((List.range R).map fun r=>ind x r).sum:=by
      intro R
      induction R with
      | zero=>rfl
      | succ R ih' =>
        rw [List.range_succ,List.map_append,List.map_append,List.map_append,List.sum_append,List.sum_append,List.sum_append,ih']
        simp
        omega
    rw [h1,h2,List.length_cons]
    have:=ind_sum x R
    omega
theorem sum_range_getD (bs:List Int):bs.sum=((List.range bs.length).map fun r=>bs.getD r 0).sum:=by
  congr 1
  refine List.ext_getElem (by simp) fun i h1 h2=>?_
  simp [List.getD,h1]
theorem open_ex {beds:List Int} {way:List Nat} (h:(way.length:Int) < beds.sum) (hb:∀ b∈beds,0≤b):∃ r,r < beds.length∧way.count r < bF beds r:=by
  refine Classical.byContradiction fun hn=>?_
  have h1:∀ r,r < beds.length→beds.getD r 0≤((way.count r:Nat):Int):=fun r hr=>by
    have:¬ way.count r < bF beds r:=fun z=>hn ⟨r,hr,z⟩
    unfold bF at this
    omega
  have h2:∀ R,R≤beds.length→((List.range R).map fun r=>beds.getD r 0).sum≤((((List.range R).map fun r=>way.count r).sum:Nat):Int):=by
    intro R hR
    induction R with
    | zero=>simp
    | succ R ih =>
      rw [List.range_succ,List.map_append,List.map_append,List.sum_append,List.sum_append]
      have a:=ih (by omega)
      have b:=h1 R (by omega)
      simp at a b ⊢
      omega
  have h3:=h2 beds.length (Nat.le_refl _)
  rw [← sum_range_getD] at h3
  have h4:=count_sum way beds.length
  omega
theorem mem_open {beds:List Int} {way:List Nat} {z:Int}:z∈openL beds (wI way) ↔ ∃ r:Nat,z=r∧r < beds.length∧way.count r < bF beds r:=by
  unfold openL
  rw [List.mem_map]
  constructor
  · rintro ⟨r,h1,rfl⟩
    obtain ⟨h2,h3⟩:=List.mem_filter.mp h1
    have h4:=of_decide_eq_true h3
    rw [wI_count] at h4
    exact ⟨r,rfl,List.mem_range.mp h2,by unfold bF; omega⟩
  · rintro ⟨r,rfl,h1,h2⟩
    refine ⟨r,List.mem_filter.mpr ⟨List.mem_range.mpr h1,decide_eq_true ?_⟩,rfl⟩
    rw [wI_count]
    unfold bF at h2
    omega
theorem mat_shaped (rows:List (List Int)):SeqAt.shaped (matD rows)=true:=by
  have:=rows_depth rows
  unfold SeqAt.shaped
  refine Bool.and_eq_true_iff.mpr ⟨?_,decide_eq_true ?_⟩
  · simp [matD,PyData.canLay0,rows_lay]
  · simp only [matD,PyData.depth]
    omega
theorem mat_eqv (rows:List (List Int)):PyData.eqv (matD rows) (matD rows)=true:=by unfold matD; rw [PyData.eqv]; exact rows_eqv rows
end L2
namespace L2
open PySem PySem.Spec PyProof.Rows BW
end L2
namespace L2
open PySem PySem.Spec PyProof.Rows BW
def rMaxL (K:PySem.W.Frag):List V→Hp→VK→Prop:=fun xs H Q => ∃ (a:Addr) (ns:List Int),xs=[.ref a]∧SqL K H a (ns.map V.int)∧0 < ns.length∧∀ z∈ns,(∀ z'∈ns,z'≤z)→Q (.int z) H
theorem call_maxL {X:Cx} {K:PySem.W.Frag} (hK:X.K=K) (hc:X.calm=true):CallR X (.builtin "max") (rMaxL K):=by
  subst hK
  intro pins s σ H xs us Q I r h
  obtain ⟨a,ns,rfl,hq,hn,q⟩:=h
  obtain ⟨u,rfl,rx⟩:=vals1 r
  cases rx
  obtain ⟨its,rv,pl,hz⟩:=I.list hq
  have hl:its.length=ns.length:=by have:=rv.length; simpa using this.symm
  have ha:a < s.heap.objs.size:=by
    obtain ⟨o,n,e,_⟩:=pl
    exact Heap.lt_size e
  have hhd:X.A.in1.handled=none:=I.ok.hd hc
  have hval:∀ (i:Nat) v,its.toArray[i]? = some v→∃ t,v=.int (ns.getD i 0) t:=fun i v hv=>by
    have hv':its[i]? = some v:=by simpa using hv
    have hi:i < ns.length:=by
      have:=(List.getElem?_eq_some_iff.mp hv').1
      omega
    obtain ⟨u,h1,t,h2⟩:=rv.get (i:=i) (x:=.int ns[i]) (by simp [hi])
    rw [hv'] at h1
    cases h1
    exact ⟨t,by rw [h2]; simp [hi,List.getD]⟩
  refine call_max_walkS (wpAny_pyIter_list pl.isList ?_)
  refine ⟨s.heap.objs.size,_,_,_,its.toArray.size,_,_,_,rfl,(Walks.list hhd s.heap.objs.size a (Nat.ne_of_lt ha) its.toArray).toS,⟨⟨_,Heap.get?_push_size _ rfl,rfl,rfl⟩,pl.isList.push _⟩,?_,by rw [List.size_toArray,hl]; exact hn,CmpOf.ints_gt (fun i=>ns.getD i 0) hval,?_⟩
  · intro b hb
    rw [Heap.size_push]
    rcases List.mem_cons.mp hb with z | hb
    · rw [z]; exact Nat.lt_succ_self _
    · have z:b=a:=by simpa using hb
      rw [z]; exact Nat.lt_succ_of_lt ha
  · intro v s' hP m
    obtain ⟨b1,b2⟩:=argBest_gt (fun i=>ns.getD i 0) (its.toArray.size - 1)
    obtain ⟨t,rfl⟩:=hval _ v hP
    have hsz:its.toArray.size=ns.length:=by rw [List.size_toArray,hl]
    rw [hsz] at b1 b2 ⊢
    have hlt:argBest (fun i j=>decide (ns.getD i 0 > ns.getD j 0)) (ns.length - 1) < ns.length:=by omega
    refine ⟨.int _,H,I.moved m,⟨t,rfl⟩,q _ ?_ fun z' hz'=>?_⟩
    · have e:ns.getD (argBest (fun i j=>decide (ns.getD i 0 > ns.getD j 0)) (ns.length - 1)) 0=ns[argBest (fun i j=>decide (ns.getD i 0 > ns.getD j 0)) (ns.length - 1)]:=by
        rw [List.getD,List.getElem?_eq_getElem hlt]
        rfl
      rw [e]
      exact List.getElem_mem hlt
    · obtain ⟨i,hi,rfl⟩:=List.mem_iff_getElem.mp hz'
      have:=b2 i (by omega)
      simpa [List.getD,hi] using this
end L2
namespace L2
open PySem PySem.Spec PyProof.Rows BW
end L2
namespace L2
open PySem PySem.Spec PyProof.Rows BW
structure Fp where
  beds:List Int
  worths:List (List Int)
  rent:Int
  way:List Nat
  parts:Int
  rows:List Int
def Fp.share (F:Fp) (i r:Nat):Int:=F.parts * wF F.worths i r - F.rows.getD r 0
def Fp.envies (F:Fp) (i r:Nat):Prop:=F.share i (F.way.getD i 0) < F.share i r
def Fp.open_ (F:Fp) (r:Nat):Prop:=F.way.count r < bF F.beds r
def Fp.taken (F:Fp) (r:Nat):Prop:=0 < F.way.count r
def Fp.dear (F:Fp) (r q:Nat):Prop:=F.open_ r∧F.taken q∧F.rows.getD q 0 < F.rows.getD r 0
def Fp.sumOk (F:Fp):Prop:=(F.way.map fun r=>F.rows.getD r 0).sum=F.parts * F.rent
inductive BR
  | none
  | sum
  | envy (i r:Nat)
  | opn (r q:Nat)
def Fp.noEnvy (F:Fp):Prop:=∀ i r,i < F.worths.length→r < F.beds.length→¬ F.envies i r
def Fp.noDear (F:Fp):Prop:=∀ r q,r < F.beds.length→q < F.beds.length→¬ F.dear r q
def Fp.firstEnvy (F:Fp) (i r:Nat):Prop:=i < F.worths.length∧r < F.beds.length∧F.envies i r∧(∀ i' r',i' < i→r' < F.beds.length→¬ F.envies i' r')∧∀ r',r' < r→¬ F.envies i r'
def Fp.firstDear (F:Fp) (r q:Nat):Prop:=r < F.beds.length∧q < F.beds.length∧F.dear r q∧(∀ r' q',r' < r→q' < F.beds.length→¬ F.dear r' q')∧∀ q',q' < q→¬ F.dear r q'
def Fp.is (F:Fp):BR→Prop
  | .none=>F.sumOk∧F.noEnvy∧F.noDear
  | .sum => ¬ F.sumOk
  | .envy i r=>F.sumOk∧F.firstEnvy i r
  | .opn r q=>F.sumOk∧F.noEnvy∧F.firstDear r q
structure FpOk' (F:Fp):Prop where
  b1:F.beds.length≤10
  w1:F.worths.length≤10
  rw:∀ row∈F.worths,row.length=F.beds.length
  rl:F.rows.length=F.beds.length
  wl:F.way.length=F.worths.length
  fit:Fit (bF F.beds) F.way
  pb:-(10 ^ 100) < F.parts∧F.parts < 10 ^ 100
  rb:-(10 ^ 100) < F.rent∧F.rent < 10 ^ 100
  wb:∀ row∈F.worths,∀ x∈row,-(10 ^ 100) < x∧x < 10 ^ 100
theorem shares_at {F:Fp} (ok:FpOk' F) {i:Nat} (hi:i < F.worths.length):((sharesL F.worths (wI F.way) F.parts F.rows).map V.int)[i]? = some (.int (F.share i (F.way.getD i 0))):=by
  have hw:i < F.way.length:=by have:=ok.wl; omega
  unfold sharesL
  rw [List.getElem?_map,List.getElem?_map,List.getElem?_range hi]
  simp [Fp.share,wF,wI,List.getD,hw]
theorem wI_lt {beds:List Int} {way:List Nat} (h:Fit (bF beds) way) {n:Nat} (hn:n=beds.length):∀ r∈wI way,0≤r∧r < (n:Int):=fun r hr=>by
  obtain ⟨k,hk,rfl⟩:=List.mem_map.mp hr
  have:=fit_lt h k hk
  omega
end L2
namespace L2
open PySem PySem.Spec PyProof.Rows BW
def rMinL (K:PySem.W.Frag):List V→Hp→VK→Prop:=fun xs H Q => ∃ (a:Addr) (ns:List Int),xs=[.ref a]∧SqL K H a (ns.map V.int)∧0 < ns.length∧∀ z∈ns,(∀ z'∈ns,z≤z')→Q (.int z) H
theorem call_minL {X:Cx} {K:PySem.W.Frag} (hK:X.K=K) (hc:X.calm=true):CallR X (.builtin "min") (rMinL K):=by
  subst hK
  intro pins s σ H xs us Q I r h
  obtain ⟨a,ns,rfl,hq,hn,q⟩:=h
  obtain ⟨u,rfl,rx⟩:=vals1 r
  cases rx
  obtain ⟨its,rv,pl,hz⟩:=I.list hq
  have hl:its.length=ns.length:=by have:=rv.length; simpa using this.symm
  have ha:a < s.heap.objs.size:=by
    obtain ⟨o,n,e,_⟩:=pl
    exact Heap.lt_size e
  have hhd:X.A.in1.handled=none:=I.ok.hd hc
  have hval:∀ (i:Nat) v,its.toArray[i]? = some v→∃ t,v=.int (ns.getD i 0) t:=fun i v hv=>by
    have hv':its[i]? = some v:=by simpa using hv
    have hi:i < ns.length:=by
      have:=(List.getElem?_eq_some_iff.mp hv').1
      omega
    obtain ⟨u,h1,t,h2⟩:=rv.get (i:=i) (x:=.int ns[i]) (by simp [hi])
    rw [hv'] at h1
    cases h1
    exact ⟨t,by rw [h2]; simp [hi,List.getD]⟩
  refine call_min_walkS (wpAny_pyIter_list pl.isList ?_)
  refine ⟨s.heap.objs.size,_,_,_,its.toArray.size,_,_,_,rfl,(Walks.list hhd s.heap.objs.size a (Nat.ne_of_lt ha) its.toArray).toS,⟨⟨_,Heap.get?_push_size _ rfl,rfl,rfl⟩,pl.isList.push _⟩,?_,by rw [List.size_toArray,hl]; exact hn,CmpOf.ints_lt (fun i=>ns.getD i 0) hval,?_⟩
  · intro b hb
    rw [Heap.size_push]
    rcases List.mem_cons.mp hb with z | hb
    · rw [z]; exact Nat.lt_succ_self _
    · have z:b=a:=by simpa using hb
      rw [z]; exact Nat.lt_succ_of_lt ha
  · intro v s' hP m
    obtain ⟨b1,b2⟩:=argBest_lt (fun i=>ns.getD i 0) (its.toArray.size - 1)
    obtain ⟨t,rfl⟩:=hval _ v hP
    have hsz:its.toArray.size=ns.length:=by rw [List.size_toArray,hl]
    rw [hsz] at b1 b2 ⊢
    have hlt:argBest (fun i j=>decide (ns.getD i 0 < ns.getD j 0)) (ns.length - 1) < ns.length:=by omega
    refine ⟨.int _,H,I.moved m,⟨t,rfl⟩,q _ ?_ fun z' hz'=>?_⟩
    · have e:ns.getD (argBest (fun i j=>decide (ns.getD i 0 < ns.getD j 0)) (ns.length - 1)) 0=ns[argBest (fun i j=>decide (ns.getD i 0 < ns.getD j 0)) (ns.length - 1)]:=by
        rw [List.getD,List.getElem?_eq_getElem hlt]
        rfl
      rw [e]
      exact List.getElem_mem hlt
    · obtain ⟨i,hi,rfl⟩:=List.mem_iff_getElem.mp hz'
      have:=b2 i (by omega)
      simpa [List.getD,hi] using this
end L2
namespace L2
open PySem PySem.Spec PyProof.Rows BW
theorem rsum_le {f g:Nat→Int}:∀ n:Nat,(∀ i,i < n→f i≤g i)→((List.range n).map f).sum≤((List.range n).map g).sum
  | 0,_=>by simp
  | n + 1,h=>by
    rw [List.range_succ,List.map_append,List.map_append,List.sum_append,List.sum_append]
    have h1:=rsum_le n fun i hi=>h i (by omega)
    have h2:=h n (by omega)
    simp
    omega
theorem rsum_eq {f g:Nat→Int}:∀ n:Nat,(∀ i,i < n→f i≤g i)→((List.range n).map f).sum=((List.range n).map g).sum→∀ i,i < n→f i=g i
  | 0,_,_,i,hi=>absurd hi (Nat.not_lt_zero _)
  | n + 1,h,e,i,hi=>by
    rw [List.range_succ,List.map_append,List.map_append,List.sum_append,List.sum_append] at e
    have h1:=rsum_le n fun i hi=>h i (by omega)
    have h2:=h n (by omega)
    simp at e
    by_cases hin:i=n
    · subst hin; omega
    · exact rsum_eq n (fun i hi=>h i (by omega)) (by omega) i (by omega)
theorem rsum_add (f g:Nat→Int) (n:Nat):((List.range n).map fun i=>f i + g i).sum=((List.range n).map f).sum + ((List.range n).map g).sum:=by
  induction n with
  | zero=>simp
  | succ n ih =>
    rw [List.range_succ,List.map_append,List.map_append,List.map_append,List.sum_append,List.sum_append,List.sum_append,ih]
    simp
    omega
theorem one_sum (d:Nat→Int) (x:Nat):∀ R:Nat,((List.range R).map fun r=>d r * (ind x r:Int)).sum=if x < R then d x else 0:=by
  intro R
  induction R with
  | zero=>simp
  | succ R ih =>
    rw [List.range_succ,List.map_append,List.sum_append,ih]
    by_cases h:x=R
    · subst h
      simp [ind]
    · have h2:(x < R + 1)=(x < R):=by
        simp
        omega
      simp [ind,h,h2]
theorem by_rooms (d:Nat→Int) (R:Nat):∀ v:List Nat,(∀ r∈v,r < R)→(v.map d).sum=((List.range R).map fun r=>d r * ((v.count r:Nat):Int)).sum
  | [],_=>by
    have:((List.range R).map fun r=>d r * ((([]:List Nat).count r:Nat):Int))=(List.range R).map fun _=>0:=List.map_congr_left fun r _=>by simp
    rw [this]
    clear this
    induction R with
    | zero=>simp
    | succ R ih =>
      rw [List.range_succ,List.map_append,List.sum_append,← ih (fun r hr=>by cases hr)]
      simp
  | x :: v,h=>by
    have ih:=by_rooms d R v fun r hr=>h r (List.mem_cons_of_mem _ hr)
    have e:((List.range R).map fun r=>d r * (((x :: v).count r:Nat):Int))=(List.range R).map fun r=>d r * ((v.count r:Nat):Int) + d r * (ind x r:Int):=List.map_congr_left fun r _=>by
      rw [List.count_cons]
      unfold ind
      by_cases hx:x=r
      · subst hx; simp [Int.mul_add]
      · simp [hx]
    rw [e,rsum_add,← ih,one_sum,if_pos (h x List.mem_cons_self),List.map_cons,List.sum_cons]
    omega
theorem mul_le {d:Int} {a b:Nat} (h1:0 < d→a≤b) (h2:d < 0→b≤a):d * (a:Int)≤d * (b:Int):=by
  rcases Int.lt_trichotomy d 0 with z | z | z
  · have:=h2 z
    exact Int.mul_le_mul_of_nonpos_left (by omega) (by omega)
  · rw [z]; simp
  · exact Int.mul_le_mul_of_nonneg_left (by have:=h1 z; omega) (by omega)
theorem map_range {α:Type} (v:List Nat) (f:Nat→Int):(v.map f).sum=((List.range v.length).map fun i=>f (v.getD i 0)).sum:=by
  congr 1
  refine List.ext_getElem (by simp) fun i h1 h2=>?_
  simp at h1
  simp [List.getD,h1]
theorem map_sub (v:List Nat) (f:Nat→Int) (c:Int):(v.map fun r=>f r - c).sum=(v.map f).sum - c * v.length:=by
  induction v with
  | nil=>simp
  | cons x v ih =>
    rw [List.map_cons,List.sum_cons,ih,List.map_cons,List.sum_cons,List.length_cons]
    have:c * ((v.length + 1:Nat):Int)=c * (v.length:Int) + c:=by rw [Int.natCast_add,Int.mul_add]; simp
    omega
theorem mul_cancel {d:Int} {a b:Nat} (h:d * (a:Int)=d * (b:Int)) (hd:d≠0):a=b:=by
  have:=Int.eq_of_mul_eq_mul_left hd h
  omega
end L2
namespace L2
open PySem PySem.Spec PyProof.Rows BW
theorem rv_str {K:PySem.W.Frag} {H:Hp} {x:Str}:ReadV K H (.str x) (.str x):=fun X pins σ s u _ _ r=>by
  obtain ⟨t,rfl⟩:=r
  exact ⟨[],.str x t⟩
theorem inV_ints (z:Int) (ns:List Int):inV (.int z) (ns.map V.int)=decide (z∈ns):=by
  unfold inV
  rw [Bool.eq_iff_iff,List.any_eq_true,decide_eq_true_iff]
  constructor
  · rintro ⟨y,hy,e⟩
    obtain ⟨n,hn,rfl⟩:=List.mem_map.mp hy
    have:n=z:=by simpa [eqV] using e
    rw [← this]
    exact hn
  · intro h
    exact ⟨.int z,List.mem_map.mpr ⟨z,h,rfl⟩,by simp [eqV]⟩
end L2
namespace L2
open PySem PySem.Spec PyProof.Rows BW
end L2
namespace L2
open PySem PySem.Spec PyProof.Rows BW
end L2
namespace L2
open PySem PySem.Spec PyProof.Rows BW
section
variable {prog:Program} {w:World} {A:Around} {s:Shared} {R:Result→Shared→Prop}
variable {I:Addr} {fp wr:List Addr} {G:Array GenState→Array GenState→Prop} {n:Nat} {P:Nat→Value→Prop} {St:Nat→Shared→Prop}
end
section
variable {prog:Program} {w:World} {A:Around} {E:Value→Shared→Prop} {s:Shared}
variable {I:Addr} {fp wr:List Addr} {G:Array GenState→Array GenState→Prop} {n:Nat} {P:Nat→Value→Prop} {St:Nat→Shared→Prop}
end
theorem vals_app {xs ys:List V} {us vs:List Value} (a:Vals xs us) (b:Vals ys vs):Vals (xs ++ ys) (us ++ vs):=by
  induction a with
  | nil=>exact b
  | cons h _ ih=>exact .cons h ih
theorem vals_rev {xs:List V} {us:List Value} (a:Vals xs us):Vals xs.reverse us.reverse:=by
  induction a with
  | nil=>exact .nil
  | cons h _ ih =>
    rw [List.reverse_cons,List.reverse_cons]
    exact vals_app ih (.cons h .nil)
end L2
namespace L2
open PySem PySem.Spec PyProof.Rows BW
end L2
namespace L2
open PySem PySem.Spec PyProof.Rows BW
end L2
namespace L2
open PySem PySem.Spec PyProof.Rows BW
end L2
namespace L2
open PySem PySem.Spec PyProof.Rows
def Rise (xs:Array Nat):Prop:=∀ i k,i < k→k < xs.size→xs.getD i 0 < xs.getD k 0
theorem getD_in {xs:Array Nat} {i d:Nat} (h:i < xs.size):xs.getD i d=xs.getD i 0:=by simp [Array.getD,h]
theorem below_go {xs:Array Nat} {j:Nat} (hr:Rise xs):∀ (fuel lo hi:Nat),lo≤hi→hi≤xs.size→hi - lo≤fuel→(∀ i,i < lo→xs.getD i 0 < j)→(∀ i,hi≤i→i < xs.size→j≤xs.getD i 0) →
    SetTable.below.go xs j fuel lo hi≤xs.size∧(∀ i,i < SetTable.below.go xs j fuel lo hi→xs.getD i 0 < j)∧∀ i,SetTable.below.go xs j fuel lo hi≤i→i < xs.size→j≤xs.getD i 0
  | 0,lo,hi,h1,h2,h3,h4,h5=>by
    unfold SetTable.below.go
    exact ⟨by omega,h4,fun i hi'=>h5 i (by omega)⟩
  | fuel + 1,lo,hi,h1,h2,h3,h4,h5=>by
    unfold SetTable.below.go
    by_cases hlt:lo < hi
    · rw [if_pos hlt]
      have hm:(lo + hi) / 2 < xs.size:=by omega
      dsimp only
      rw [getD_in hm]
      by_cases hx:xs.getD ((lo + hi) / 2) 0 < j
      · rw [if_pos hx]
        refine below_go hr fuel _ _ (by omega) h2 (by omega) (fun i hi'=>?_) h5
        by_cases e:i=(lo + hi) / 2
        · rw [e]; exact hx
        · have:=hr i ((lo + hi) / 2) (by omega) hm
          omega
      · rw [if_neg hx]
        refine below_go hr fuel _ _ (by omega) (by omega) (by omega) h4 fun i hi' hs=>?_
        by_cases e:i=(lo + hi) / 2
        · rw [e]; omega
        · have:=hr ((lo + hi) / 2) i (by omega) hs
          omega
    · rw [if_neg hlt]
      exact ⟨by omega,h4,fun i hi'=>h5 i (by omega)⟩
theorem below_spec {xs:Array Nat} {j:Nat} (hr:Rise xs):SetTable.below xs j≤xs.size∧(∀ i,i < SetTable.below xs j→xs.getD i 0 < j)∧∀ i,SetTable.below xs j≤i→i < xs.size→j≤xs.getD i 0:=by
  unfold SetTable.below
  exact below_go hr _ _ _ (Nat.zero_le _) (Nat.le_refl _) (by omega) (fun i h=>absurd h (Nat.not_lt_zero _)) fun i h1 h2=>by omega
theorem below_next {xs:Array Nat} (hr:Rise xs) {k:Nat} (h:k < xs.size):SetTable.below xs (xs.getD k 0 + 1)=k + 1:=by
  obtain ⟨b1,b2,b3⟩:=below_spec (j:=xs.getD k 0 + 1) hr
  rcases Nat.lt_trichotomy (SetTable.below xs (xs.getD k 0 + 1)) (k + 1) with z | z | z
  · have:=b3 k (by omega) h
    omega
  · exact z
  · have h1:=b2 (k + 1) z
    have h2:=hr k (k + 1) (by omega) (by omega)
    omega
theorem below_zero {xs:Array Nat} (hr:Rise xs):SetTable.below xs 0=0:=by
  obtain ⟨b1,b2,b3⟩:=below_spec (j:=0) hr
  refine Classical.byContradiction fun z=>?_
  have:=b2 0 (by omega)
  omega
structure SInv (led:Bool) (t:SetTable):Prop where
  rise:Rise t.place
  dum:t.dummies=#[]
  led_:t.led=led
theorem range_rise (n:Nat):Rise (Array.range n):=fun i k h1 h2=>by
  have h2':k < n:=by simpa using h2
  simp [Array.getD,h2',show i < n by omega]
  exact h1
theorem standIn_inv {led:Bool} {t:SetTable} (h:t.led=led) (n:Nat):SInv led (t.standIn n):=⟨range_rise n,rfl,h⟩
theorem orStandIn_inv {led:Bool} {t:SetTable} (h:SInv led t) (n:Nat):SInv led (t.orStandIn n):=by
  unfold SetTable.orStandIn
  split
  · exact h
  · exact standIn_inv h.led_ n
theorem insert_rise {xs:Array Nat} {j:Nat} (hr:Rise xs) (hn:xs[SetTable.below xs j]?≠some j):Rise (SetTable.insertAt xs (SetTable.below xs j) j):=by
  obtain ⟨b1,b2,b3⟩:=below_spec (j:=j) hr
  generalize SetTable.below xs j=p at *
  have hs:(SetTable.insertAt xs p j).size=xs.size + 1:=by
    unfold SetTable.insertAt
    simp
    omega
  have g:∀ i,i < xs.size + 1→(SetTable.insertAt xs p j).getD i 0=if i < p then xs.getD i 0 else if i=p then j else xs.getD (i - 1) 0:=fun i hi=>by
    unfold SetTable.insertAt
    rw [Array.getD_eq_getD_getElem?,Array.getElem?_append]
    by_cases h1:i < p
    · rw [if_pos h1,if_pos (by simp; omega),Array.getElem?_push]
      simp [Array.getElem?_extract,Nat.min_eq_left b1,h1,Nat.ne_of_lt h1,show i < xs.size by omega]
    · rw [if_neg h1]
      by_cases h2:i=p
      · subst h2
        rw [if_pos rfl,if_pos (by simp [Nat.min_eq_left b1]),Array.getElem?_push]
        simp [Nat.min_eq_left b1]
      · rw [if_neg h2,if_neg (by simp [Nat.min_eq_left b1]; omega)]
        simp [Array.getElem?_extract,Nat.min_eq_left b1]
        have e:p + (i - (p + 1))=i - 1:=by omega
        rw [e]
        have:i - (p + 1) < xs.size - p:=by omega
        simp [this]
  intro i k h1 h2
  rw [hs] at h2
  rw [g i (by omega),g k h2]
  have hp:∀ m,p≤m→m < xs.size→j < xs.getD m 0:=fun m hm1 hm2=>by
    have h3:=b3 m hm1 hm2
    by_cases e:m=p
    · subst e
      refine Nat.lt_of_le_of_ne h3 fun z=>hn ?_
      rw [Array.getElem?_eq_getElem hm2]
      have:xs.getD m 0=xs[m]:=by simp [Array.getD,hm2]
      rw [← this,← z]
    · have h4:=hr p m (by omega) hm2
      have h5:=b3 p (Nat.le_refl _) (by omega)
      omega
  by_cases c1:k < p
  · rw [if_pos c1,if_pos (by omega)]
    exact hr i k h1 (by omega)
  · rw [if_neg c1]
    by_cases c2:k=p
    · rw [if_pos c2,if_pos (by omega)]
      exact b2 i (by omega)
    · rw [if_neg c2]
      by_cases c3:i < p
      · rw [if_pos c3]
        by_cases c4:i < k - 1
        · exact hr i (k - 1) c4 (by omega)
        · omega
      · rw [if_neg c3]
        by_cases c5:i=p
        · rw [if_pos c5]
          exact hp (k - 1) (by omega) (by omega)
        · rw [if_neg c5]
          exact hr (i - 1) (k - 1) (by omega) (by omega)
theorem has_nil (j:Nat):SetTable.has #[] j=false:=by
  unfold SetTable.has
  simp
theorem slot_nil {t:SetTable} (h:t.dummies=#[]) (j:Nat):t.slot j=.empty∧t.place[SetTable.below t.place j]?≠some j∨∃ i,t.slot j=.live i:=by
  unfold SetTable.slot
  dsimp only
  by_cases c:t.place[SetTable.below t.place j]? = some j
  · right
    rw [if_pos (by rw [c]; simp)]
    exact ⟨_,rfl⟩
  · left
    rw [if_neg (by simpa using c),h,has_nil]
    exact ⟨rfl,c⟩
theorem probe_go {t:SetTable} (h:t.dummies=#[]) (x:Int):∀ (fuel:Nat) (p:SetTable.Probe),p.dummy=none→∀ j d,SetTable.probe.go t (fun _=>x + 1) x fuel p=some (.empty j d)→d=none∧t.place[SetTable.below t.place j]?≠some j
  | 0,p,_,j,d,e=>by simp [SetTable.probe.go] at e
  | fuel + 1,p,hp,j,d,e=>by
    unfold SetTable.probe.go at e
    rcases slot_nil h p.j with ⟨c,c'⟩ | ⟨i,c⟩
    · rw [c] at e
      cases e
      exact ⟨hp,c'⟩
    · rw [c] at e
      dsimp only at e
      rw [if_neg (by simp; omega)] at e
      refine probe_go h x fuel _ ?_ j d e
      unfold SetTable.advance
      split
      · exact hp
      · exact hp
theorem freeSlot_inv {t:SetTable} (h:t.dummies=#[]) {x:Int} {slot:Nat} {wd:Bool} (e:t.freeSlot x=some (slot,wd)):wd=false∧t.place[SetTable.below t.place slot]?≠some slot:=by
  unfold SetTable.freeSlot at e
  split at e
  · rename_i j d he
    unfold SetTable.probe at he
    obtain ⟨rfl,h2⟩:=probe_go h x _ _ rfl j d he
    cases e
    exact ⟨rfl,h2⟩
  · cases e
theorem put_inv {led:Bool} {t:SetTable} (h:SInv led t) {j:Nat} (hn:t.place[SetTable.below t.place j]?≠some j):SInv led (t.put j).1:=by
  unfold SetTable.put
  refine ⟨insert_rise h.rise hn,?_,h.led_⟩
  show (if SetTable.has t.dummies j=true then _ else t.dummies)=#[]
  rw [h.dum,has_nil]
  rfl
theorem layNew_inv {led:Bool} {t:SetTable} (h:SInv led t) (es:Array (Int × Value)) (x:Int) (v:Value):SInv led (layNew t es x v).2.1:=by
  unfold layNew
  split
  · rename_i slot wd he
    exact orStandIn_inv (put_inv h (freeSlot_inv h.dum he).2) _
  · exact standIn_inv h.led_ _
theorem filterMap_rise {m:Nat} {f:Nat→Option Nat}:Rise (((List.range m).filterMap fun j=>(f j).map fun k=>(j,k)).map Prod.fst).toArray:=by
  have hp:(((List.range m).filterMap fun j=>(f j).map fun k=>(j,k)).map Prod.fst).Pairwise (· < ·):=by
    rw [List.pairwise_map,List.pairwise_filterMap]
    refine List.Pairwise.imp ?_ (List.pairwise_lt_range (n:=m))
    intro a b hab x hx y hy
    cases ha:f a with
    | none=>rw [ha] at hx; cases hx
    | some k =>
      cases hb:f b with
      | none=>rw [hb] at hy; cases hy
      | some k' =>
        rw [ha] at hx
        rw [hb] at hy
        cases hx
        cases hy
        exact hab
  intro i k h1 h2
  have h2':k < (((List.range m).filterMap fun j=>(f j).map fun k=>(j,k)).map Prod.fst).length:=by simpa using h2
  have:=List.pairwise_iff_getElem.mp hp i k (by omega) h2' h1
  simp only [Array.getD_eq_getD_getElem?,List.getElem?_toArray,List.getElem?_eq_getElem h2',List.getElem?_eq_getElem (show i < _ from Nat.lt_trans h1 h2'),Option.getD_some]
  exact this
theorem relayAll_inv {led:Bool} {t:SetTable} (h:SInv led t) (es:Array (Int × Value)) (n:Nat):SInv led (relayAll t es n).2.1:=by
  unfold relayAll
  split
  · rename_i t' order he
    dsimp only
    split
    · unfold SetTable.relaid SetTable.laid at he
      cases ho:SetTable.layClean (SetTable.sizeAbove n - 1) (es.map (·.1)) with
      | none=>rw [ho] at he; cases he
      | some owner =>
        rw [ho] at he
        cases he
        exact ⟨filterMap_rise,rfl,h.led_⟩
    · exact standIn_inv h.led_ _
  · exact standIn_inv h.led_ _
end L2
namespace L2
open PySem PySem.Spec PyProof.Rows
section
variable {prog:Program} {w:World} {K:Type} [DecidableEq K] {knd:KeyKind prog w K} {A:Around} {E:Value→Shared→Prop} {s:Shared}
def LedAt (led:Bool) (h:Heap) (a:Addr):Prop:=∃ o es ep t,h.get? a=some o∧o.data=.set es ep t∧SInv led t
theorem SInv.plain {led:Bool} {t:SetTable} (h:SInv led t) (b:Bool):SInv led { t with plain:=b }:=⟨h.rise,h.dum,h.led_⟩
theorem lay_led {led:Bool} {g:Bool→Sem Unit} (hg:∀ (b:Bool) (s₁:Shared) (Q':Unit→Shared→Prop),Q' () s₁→wpAny (model prog w) A (g b) Q' E s₁)
    {a:Addr} {o:Obj} {es:Array (Int × Value)} {ep:Nat} {t:SetTable} (ho:s.heap.get? a=some o) (hex:o.ExactSet) (hd:o.data=.set es ep t)
    {es1:Array (Int × Value)} {t2:SetTable} {S':K→Bool} (hel1:ElemsOf knd es1.toList) (hmem1:∀ k',S' k'=true ↔ ∃ e∈es1.toList,knd.is k' e.2=true)
    (hb1:es1.size < scanBound) (hf2:t2.fits es1.size=true) (hi:SInv led t2) {wd:Bool} {R:Option Bool→Shared→Prop}
    (h:∀ h',Heap.SameBut a s.heap h'→h'.SetOf knd a S' es1.size→LedAt led h' a→R (some true) { s with heap:=h' }) :
    wpAny (model prog w) A (do
        storeSet a es1 t2
        if (!wd && t2.tooFull)=true then do
            g (relayAll t2 es1 (SetTable.grown es1.size)).2.2
            storeSet a (relayAll t2 es1 (SetTable.grown es1.size)).1 (relayAll t2 es1 (SetTable.grown es1.size)).2.1
            pure (some true)
          else pure (some true)) R E s:=by
  obtain ⟨ho1,hS1⟩:=SetOf_store (knd:=knd) ho hex hd hel1 hmem1 hb1 hf2
  refine wpAny_bind (wpAny_storeSet_of ho hd ?_ (fits_of_scanBound hb1))
  split
  · have hp:=relayAll_perm t2 es1 (SetTable.grown es1.size)
    have hm:∀ k',S' k'=true ↔ ∃ e∈(relayAll t2 es1 (SetTable.grown es1.size)).1.toList,knd.is k' e.2=true:=fun k'=>by
      rw [hmem1 k']
      constructor
      · rintro ⟨e,he,q⟩
        exact ⟨e,hp.mem_iff.mpr he,q⟩
      · rintro ⟨e,he,q⟩
        exact ⟨e,hp.mem_iff.mp he,q⟩
    have hz:(relayAll t2 es1 (SetTable.grown es1.size)).1.size=es1.size:=by rw [← Array.length_toList,hp.length_eq,Array.length_toList]
    obtain ⟨ho2,hS2⟩:=SetOf_store (knd:=knd) ho1 hex rfl (hel1.perm hp) hm (by rw [hz]; exact hb1) (relayAll_fits t2 es1 (SetTable.grown es1.size))
    rw [hz] at hS2
    refine wpAny_bind (hg _ _ _ (wpAny_bind (wpAny_storeSet_of ho1 rfl ?_ (fits_of_scanBound (by rw [hz]; exact hb1)))))
    exact wpAny_pure (h _ ((Heap.SameBut.update s.heap a _).trans (Heap.SameBut.update _ a _)) hS2 ⟨_,_,_,_,ho2,rfl,relayAll_inv hi _ _⟩)
  · exact wpAny_pure (h _ (Heap.SameBut.update s.heap a _) hS1 ⟨_,_,_,_,ho1,rfl,hi⟩)
theorem add_led {led:Bool} {a:Addr} {S:K→Bool} {n:Nat} {k:K} {x:Value} {Q:Bool→Shared→Prop} (hkey:knd.is k x=true) (hsc:x.scannable=true) (hS:s.heap.SetOf knd a S n) (hL:LedAt led s.heap a)
    (hroom:n + 1 < scanBound)
    (h:∀ h',Heap.SameBut a s.heap h'→h'.SetOf knd a (fun k'=>S k' || decide (k'=k)) (if S k then n else n + 1)→LedAt led h' a→Q (!S k) { s with heap:=h' }) :
    wpAny (model prog w) A (setAddHashed a x (knd.hash k)) Q E s:=by
  obtain ⟨o,es,ep,t,ho,hex,hd,hel,hmem,hb,hf,hn⟩:=id hS
  have hi:SInv led t:=by
    obtain ⟨o',es',ep',t',ho',hd',hi'⟩:=hL
    rw [ho] at ho'
    cases ho'
    rw [hd] at hd'
    cases hd'
    exact hi'
  unfold setAddHashed setAddHashedIn
  refine wpAny_holding (wpAny_bind (wpAny_setState_of ho hd hf ?_))
  dsimp only
  rw [byScan_of hsc hb hel]
  simp only [↓reduceIte]
  unfold setAddByScan
  refine wpAny_bind (wpAny_bind (wpAny_rule (wpAny_bind (wpAny_setScan_of hkey ho hd hf hel ?_))))
  have hfound:S k=true ↔ (List.findIdx? (fun e=>knd.is k e.2) es.toList).isSome=true:=by
    rw [hmem k,List.findIdx?_isSome,List.any_eq_true]
  cases hr:List.findIdx? (fun e=>knd.is k e.2) es.toList with
  | some j =>
    have hSk:S k=true:=hfound.mpr (by rw [hr]; rfl)
    have hst:=h s.heap (Heap.SameBut.refl a s.heap) (by
      rw [if_pos hSk]
      refine ⟨o,es,ep,t,ho,hex,hd,hel,fun k'=>?_,hb,hf,hn⟩
      rw [← hmem k']
      by_cases e:k'=k
      · subst e; simp [hSk]
      · simp [e]) hL
    rw [hSk] at hst
    exact wpAny_pure (wpAny_pure hst)
  | none =>
    have hSk:S k=false:=by
      cases c:S k with
      | false=>rfl
      | true=>have:=hfound.mp c; rw [hr] at this; cases this
    dsimp only
    have hp:=layNew_perm t es (knd.hash k) x
    have hlf:=layNew_fits t es (knd.hash k) x
    have hli:=layNew_inv hi es (knd.hash k) x
    generalize layNew t es (knd.hash k) x=L at hp hlf hli ⊢
    obtain ⟨es1,t1,wd,gave⟩:=L
    dsimp only at hp hlf hli ⊢
    rw [Array.toList_push] at hp
    have hz:es1.size=n + 1:=by rw [← Array.length_toList,hp.length_eq,List.length_append,Array.length_toList,hn]; rfl
    have fin:∀ h',Heap.SameBut a s.heap h'→h'.SetOf knd a (fun k'=>S k' || decide (k'=k)) es1.size→LedAt led h' a→Q true { s with heap:=h' }:=fun h' sb hS' hL'=>by
      have:=h h' sb
      rw [hSk,if_neg (by simp)] at this
      rw [hz] at hS'
      exact this hS' hL'
    have hm:=mem_push_iff hkey hmem hp
    have he1:ElemsOf knd es1.toList:=(hel.push hkey hsc).perm hp
    have hb1:es1.size < scanBound:=by rw [hz]; exact hroom
    have tail:∀ (t2:SetTable) {g:Bool→Sem Unit},(∀ (b:Bool) (s₁:Shared) (Q':Unit→Shared→Prop),Q' () s₁→wpAny (model prog w) A (g b) Q' E s₁)→t2.fits es1.size=true→SInv led t2→∀ {R:Option Bool→Shared→Prop},(∀ s',Q true s'→R (some true) s')→wpAny (model prog w) A (do
        storeSet a es1 t2
        if (!wd && t2.tooFull)=true then do
            g (relayAll t2 es1 (SetTable.grown es1.size)).2.2
            storeSet a (relayAll t2 es1 (SetTable.grown es1.size)).1 (relayAll t2 es1 (SetTable.grown es1.size)).2.1
            pure (some true)
          else pure (some true)) R E s:=fun t2 g hg f2 i2 R hR=>lay_led hg ho hex hd he1 hm hb1 f2 i2 fun h' sb hS' hL'=>hR _ (fin h' sb hS' hL')
    have gw:∀ {s₁:Shared} {Q':Unit→Shared→Prop} (b:Bool),Q' () s₁→wpAny (model prog w) A (match b with | true=>rule "set.scan.the-table-gave-way" | false=>pure ()) Q' E s₁:=fun b hq=>by
      cases b
      · exact wpAny_pure hq
      · exact wpAny_rule hq
    refine wpAny_bind (gw gave ?_)
    split
    · rw [hashByValue_scannable 8 hsc]
      refine wpAny_bind (wpAny_pure ?_)
      refine tail _ (fun b s₁ Q' hq=>gw b hq) ?_ ?_ fun s' hq=>wpAny_pure hq
      · split
        · exact hlf
        · exact SetTable.fits_plain_off hlf
      · split
        · exact hli
        · exact hli.plain false
    · refine wpAny_bind (wpAny_pure ?_)
      exact tail _ (fun b s₁ Q' hq=>gw b hq) hlf hli fun s' hq=>wpAny_pure hq
end
end L2
namespace L2
open PySem PySem.Spec PyProof.Rows
def IntSet (prog:Program) (w:World) (led:Bool) (h:Heap) (a:Addr) (ks:List Int):Prop:=h.SetOf (intKind prog w) a (fun k'=>ks.any (· == k')) ks.length∧LedAt led h a
theorem IntSet.at_ {prog:Program} {w:World} {led:Bool} {h h':Heap} {a:Addr} {ks:List Int} (x:IntSet prog w led h a ks) (k:∀ o,h.get? a=some o→h'.get? a=some o):IntSet prog w led h' a ks:=by
  obtain ⟨⟨o,es,ep,t,ho,rest⟩,⟨o',es',ep',t',ho',rest'⟩⟩:=x
  exact ⟨⟨o,es,ep,t,k _ ho,rest⟩,⟨o',es',ep',t',k _ ho',rest'⟩⟩
section
variable {prog:Program} {w:World} {A:Around} {R:Result→Shared→Prop} {I:Addr} {fp wr:List Addr} {G:Array GenState→Array GenState→Prop} {n:Nat} {P:Nat→Value→Prop} {St:Nat→Shared→Prop} {led:Bool}
theorem update_led (W:WalksS prog w A.in1 I fp wr G n P St) (S:Addr) (hSf:S ∉ fp) (val:Nat→Int) (hval:∀ i v,P i v→∃ t,v=.int (val i) t) (hb:n + 1 < scanBound) :
    ∀ (k i:Nat) (s:Shared),n - i=k→i≤n→St i s→IntSet prog w led s.heap S (firstMet val i) →
      (∀ s',Moved (S :: wr) G s s'→IntSet prog w led s'.heap S (firstMet val n)→R (.ok (.ret .none)) s') →
      codeAny (model prog w) A (.builtin "set.update.loop" ⟨[.ref S,.ref I],[]⟩) R s:=by
  have hSw:S ∉ wr:=fun h=>hSf (W.sub _ h)
  have hsub:∀ b∈wr,b∈S :: wr:=fun b hb=>List.mem_cons_of_mem _ hb
  intro k
  induction k with
  | zero =>
    intro i s hk hi hst hS hR
    obtain rfl:i=n:=by omega
    refine codeAny_builtin F.entry_set_update_loop ?_
    rw [Around.under_plainId F.plain_set_update_loop _]
    show wpAny _ A.in1 (pyNext (.ref I) >>= _) _ _ s
    refine wpAny_bind (W.done s _ _ hst fun s' hm=>?_)
    show wpAny _ A.in1 (ret Value.none) _ _ s'
    exact wpAny_pure (hR s' (hm.mono hsub) (hS.at_ fun o e=>hm.heap S o hSw e))
  | succ k ih =>
    intro i s hk hi hst hS hR
    have hlt:i < n:=by omega
    refine codeAny_builtin F.entry_set_update_loop ?_
    rw [Around.under_plainId F.plain_set_update_loop _]
    show wpAny _ A.in1 (pyNext (.ref I) >>= _) _ _ s
    refine wpAny_bind (W.item i s _ _ hlt hst fun v s' hP hst' hm=>?_)
    obtain ⟨t,rfl⟩:=hval i v hP
    obtain ⟨hS1,hL1⟩:=hS.at_ fun o e=>hm.heap S o hSw e
    show wpAny _ A.in1 (holding [Value.int (val i) t] (setAdd S (.int (val i) t)) >>= _) _ _ s'
    refine wpAny_bind (wpAny_holding ?_)
    unfold setAdd
    refine wpAny_holding ?_
    refine wpAny_bind ((intKind prog w).pyHash (k:=val i) (intKind_is _ _ _ _) ?_)
    refine add_led (knd:=intKind prog w) (s:={ s' with toks:=s'.toks + 1 }) (intKind_is _ _ _ _) rfl hS1 hL1 (by have:=firstMet_length_le val i; omega) fun h' hsb hS2 hL2=>?_
    have hS3:IntSet prog w led h' S (firstMet val (i + 1)):=⟨SetOf_congr hS2 (fun k'=>by rw [firstMet_succ,step_any]) (by rw [firstMet_succ,step_length]),hL2⟩
    have oth:∀ b o,b≠S→s'.heap.get? b=some o→h'.get? b=some o:=fun b o hb e=>by rw [hsb.2 b hb]; exact e
    refine wpAny_pure ⟨plainId_quiet F.plain_set_update_loop _,ih (i + 1) _ (by omega) hlt (W.frame _ s' _ _ hst' (Nat.le_succ _) fun b hb o e=>oth b o (fun h=>hSf (h ▸ hb)) e) hS3 fun s'' hm'' hS''=>?_⟩
    exact hR s'' (Moved.trans W.gtrans ((hm.mono hsub).then_heap (Nat.le_succ _) fun b o hb e=>oth b o (fun h=>hb (h ▸ List.mem_cons_self)) e) hm'') hS''
end
section
variable {prog:Program} {w:World} {A:Around} {E:Value→Shared→Prop} {s:Shared}
theorem fresh_inv (led:Bool):SInv led (.fresh 0 0 led):=⟨fun i k _ h=>by simp [SetTable.fresh] at h,rfl,rfl⟩
theorem set_new_led (a:Value) {Q₁:Value→Shared→Prop}
    (h:Q₁ (.ref s.heap.objs.size) { s with heap:=s.heap.push { cls:=.type "set",dict:=none,data:=.set #[] 0 (.fresh 0 0 (!w.params.followText "set-order")) } }) :
    codeAny (model prog w) A (.call (.builtin "set.__new__") ⟨[.type "set",a],[]⟩) (wants Q₁ E) s:=by
  refine codeAny_of_tree ?_
  show wpAny _ A.in1 (do checkBuiltinCall "set.__new__" ⟨[.type "set",a],[]⟩; again (.builtin "set.__new__" ⟨[.type "set",a],[]⟩)) _ _ s
  refine wpAny_bind (wpAny_of_eq (F.newCall_set_1 a) (wpAny_pure ⟨plainId_quiet F.plain_set_new _,codeAny_builtin F.entry_set_new ?_⟩))
  rw [Around.under_plainId F.plain_set_new _]
  unfold Builtin.«set.__new__» Builtin.Frozenset.newClass
  have hsub:=sub_set_self
  obtain ⟨hp,g,d,tk,os⟩:=s
  dsimp only
  wp_walk
  refine wpAny_askSetting (wpAny_pure ?_)
  dsimp only
  simp only [newObj]
  refine wpAny_bind (wpAny_alloc (wpAny_pure ?_))
  exact wpAny_pure h
end
end L2
namespace L2
open PySem PySem.Spec PyProof.Rows
section
variable {prog:Program} {w:World} {A:Around} {E:Value→Shared→Prop} {s:Shared}
theorem call_set_led {l:Addr} {items:Array Value} {ns:List Int} {Q:Value→Shared→Prop}
    (hh:A.handled=none) (hl:s.heap.IsList l items) (hi:IntsAre items.toList ns) (hb:items.size + 1 < scanBound)
    (h:∀ (h':Heap) (tk:Nat),IntSet prog w (!w.params.followText "set-order") h' s.heap.objs.size (firstMet (fun i=>ns.getD i 0) items.size) →
      (∀ b o,b < s.heap.objs.size→s.heap.get? b=some o→h'.get? b=some o)→Q (.ref s.heap.objs.size) { s with heap:=h',toks:=tk }) :
    wpAny (model prog w) A (call (.type "set") [.ref l]) Q E s:=by
  obtain ⟨c,tl,hmro⟩:=F.called_set.mro
  have hmade:=F.called_set.made
  have hsub:=F.called_set.sub
  refine wpAny_call (codeAny_of_tree ?_)
  show wpAny _ _ (callAny (.type "set") _) _ _ _
  refine wpAny_pure ⟨Code.quiet_builtin _ (by decide +kernel),codeAny_builtin F.entry_type_call ?_⟩
  rw [Around.under_plain (weight_type_call_type "set" [.ref l] []) rfl]
  have h1:=F.called_set.notType
  have h2:=F.called_set.canCreate
  have hct:=F.typeCall_set_1 (.ref l)
  repeat (any_goals (first | assumption | wp_step))
  obtain ⟨O,hO⟩:∃ O:Obj,O={ cls:=.type "set",dict:=none,data:=.set #[] 0 (.fresh 0 0 (!w.params.followText "set-order")) }:=⟨_,rfl⟩
  refine codeAny_mono (set_new_led (.ref l) (E:=E) (Q₁:=fun obj s₁=>obj=.ref s.heap.objs.size∧s₁={ s with heap:=s.heap.push O }) ⟨rfl,by rw [hO]⟩) fun r s₁ hr=>?_
  cases r with
  | error e=>exact hr
  | ok fl =>
    cases fl with
    | ret obj =>
      obtain ⟨rfl,rfl⟩:=hr
      have hS:(s.heap.push O).get? s.heap.objs.size=some O:=Heap.get?_push_size _ (by rw [hO]; rfl)
      have hT:Shared.TypeIs { s with heap:=s.heap.push O } (.ref s.heap.objs.size) "set" := ⟨_,hS,by rw [hO]⟩
      have hli:=F.called_set.init.lookup
      have hbi:=F.called_set.init.bind (.ref s.heap.objs.size)
      repeat (any_goals (first | assumption | wp_step))
      refine codeAny_mono (codeAny_call_builtin (R:=wants (fun r s₂=>r=.none∧∃ h' tk,s₂={ s with heap:=h',toks:=tk } ∧
          IntSet prog w (!w.params.followText "set-order") h' s.heap.objs.size (firstMet (fun i=>ns.getD i 0) items.size) ∧
          (∀ b o,b < s.heap.objs.size→s.heap.get? b=some o→h'.get? b=some o)) E) F.called_set.init.plain F.entry_set_init (check_set_init_1 hT ?_)) fun r₂ s₂ hr₂=>?_
      · obtain ⟨ol,hol,hcl,nl,hdl⟩:=id hl
        obtain ⟨ocls,odict,odata,oslots⟩:=ol
        simp only at hcl hdl
        subst hcl; subst hdl
        have hol':(s.heap.push O).get? l=some { cls:=.type "list",dict:=odict,data:=.seq items nl,slots:=oslots }:=Heap.get?_push_of_some _ hol
        have hsls:=F.sub_list_set
        have hslf:=F.sub_list_frozenset
        have hne:(Value.type "list" == Value.type "dict")=false:=by decide
        have hl1:(s.heap.push O).IsList l items:=⟨_,hol',rfl,nl,rfl⟩
        unfold Builtin.«set.__init__» noKeywords Builtin.Frozenset.updateFrom
        generalize hPI:pyIter=PI
        rw [hO] at hS hol' hl1 hT ⊢
        wp_walk
        subst hPI
        refine wpAny_pyIter_list hl1 ?_
        refine wpAny_bind (wpAny_runValue ?_)
        have hlS:l < s.heap.objs.size:=Heap.lt_size hol
        have hh3:A.in1.in1.in1.handled=none:=by simp [hh]
        rw [← hO] at hS hl1 ⊢
        have hz:(s.heap.push O).objs.size=s.heap.objs.size + 1:=Heap.size_push _ _
        have hval:∀ (i:Nat) (v:Value),items[i]? = some v→∃ t,v=.int ((fun i=>ns.getD i 0) i) t:=fun i v hv=>IntsAre.int_at hi i v (by rw [Array.getElem?_toList]; exact hv)
        refine update_led (led:=!w.params.followText "set-order") ((Walks.list hh3 _ l (by rw [hz]; exact Nat.ne_of_lt (Nat.lt_succ_of_lt hlS)) items).toS) s.heap.objs.size (by rw [hz]; simp only [List.mem_cons,List.not_mem_nil,or_false,not_or]; exact ⟨Nat.ne_of_lt (Nat.lt_succ_self _),Nat.ne_of_gt hlS⟩) (fun i=>ns.getD i 0) hval hb (items.size - 0) 0 _ (by omega) (Nat.zero_le _)
          ⟨⟨_,Heap.get?_push_size _ rfl,rfl,rfl⟩,(hl1.push _)⟩ ?hS0 ?hR
        case hS0 =>
          have hget:=Heap.get?_push_of_some { cls:=.type "list_iterator",data:=.fields #[.ref l,.int 0 0] } hS
          refine ⟨SetOf_congr ((setObjOf_fresh (knd:=intKind prog w) (!w.params.followText "set-order")).setOf (hO ▸ hget) (by unfold scanBound; omega)) (fun _=>rfl) rfl,⟨O,#[],0,_,hget,by rw [hO],fresh_inv _⟩⟩
        case hR =>
          intro s' hm hS'
          obtain ⟨h',g',d',tk',os'⟩:=s'
          have eg:g'=s.gens:=hm.gens
          have ed:d'=s.drawn:=hm.drawn
          have eo:os'=s.os:=hm.os
          subst eg; subst ed; subst eo
          show wpAny _ _ _ _ _ _
          refine wpAny_pure ?_
          show wpAny _ _ (ret Value.none) _ _ _
          refine wpAny_pure ⟨rfl,h',tk',rfl,hS',fun b o hb e=>?_⟩
          refine hm.heap b o ?_ (Heap.get?_push_of_some _ (Heap.get?_push_of_some _ e))
          rw [hz]
          simp only [List.mem_cons,List.not_mem_nil,or_false,not_or]
          exact ⟨Nat.ne_of_lt hb,Nat.ne_of_lt (Nat.lt_succ_of_lt hb)⟩
      · cases r₂ with
        | error e=>exact hr₂
        | ok fl₂ =>
          cases fl₂ with
          | ret r =>
            obtain ⟨rfl,h',tk,rfl,hS',hk'⟩:=hr₂
            repeat (any_goals (first | assumption | wp_step))
            exact h _ _ hS' hk'
          | _=>exact hr₂.elim
    | _=>exact hr.elim
end
end L2
namespace L2
open PySem PySem.Spec PyProof.Rows
theorem slot_sit_next:Slot "set_iterator" "__next__" "set_iterator.__next__" :=
  .of (owner:="set_iterator") (n:="__next__") (by rw [typeLookup_type,builtinLookup_eq_fast]; kernel_rfl) (by decide +kernel) (by decide +kernel) (by decide +kernel)
    (by first | exact .inl (by decide +kernel) | exact .inr (by decide +kernel)) (by rw [isSubtype_type]; kernel_rfl)
theorem entry_sit_next:entryFor table "set_iterator.__next__" = some Builtin.«set_iterator.__next__» := entryFor_of_tree (by kernel_rfl)
theorem slot_sit_iter:Slot "set_iterator" "__iter__" "set_iterator.__iter__" :=
  .of (owner:="set_iterator") (n:="__iter__") (by rw [typeLookup_type,builtinLookup_eq_fast]; kernel_rfl) (by decide +kernel) (by decide +kernel) (by decide +kernel)
    (by first | exact .inl (by decide +kernel) | exact .inr (by decide +kernel)) (by rw [isSubtype_type]; kernel_rfl)
theorem slot_set_iter:Slot "set" "__iter__" "set.__iter__" :=
  .of (owner:="set") (n:="__iter__") (by rw [typeLookup_type,builtinLookup_eq_fast]; kernel_rfl) (by decide +kernel) (by decide +kernel) (by decide +kernel)
    (by first | exact .inl (by decide +kernel) | exact .inr (by decide +kernel)) (by rw [isSubtype_type]; kernel_rfl)
theorem entry_set_iter:entryFor table "set.__iter__" = some Builtin.«frozenset.__iter__» :=
  entryFor_alias (id':="frozenset.__iter__") (by kernel_rfl) (by first | rfl | decide +kernel | (unfold String.splitOn; simp +decide [String.splitOnAux])) (by decide +kernel) (by kernel_rfl)
section
variable {prog:Program} {w:World} {A:Around} {E:Value→Shared→Prop} {s:Shared}
theorem next_led {a:Addr} {o:Obj} {es:Array (Int × Value)} {ep:Nat} {t:SetTable} {slot given e0:Nat} {Q:Option (Value × Nat)→Shared→Prop} (ho:s.heap.get? a=some o) (hd:o.data=.set es ep t) (hf:t.fits es.size=true) (hl:t.led=true) (hw:w.params.followText "set-order" = false) (hp:(!t.plain && decide (es.size > 1))=false)
    (h:Q (match es[SetTable.below t.place slot]?,t.place[SetTable.below t.place slot]? with | some (_,x),some j=>some (x,j + 1) | _,_=>none) s):wpAny (model prog w) A (setNext a slot given e0) Q E s:=by
  unfold setNext
  refine wpAny_bind (wpAny_setState_of ho hd hf ?_)
  dsimp only
  unfold setsByText
  refine wpAny_bind (wpAny_bind (wpAny_askSetting (wpAny_pure ?_)))
  show wpAny _ A (if w.params.followText "set-order" = true then _ else _) _ _ _
  rw [if_neg (by rw [hw]; simp)]
  show wpAny _ A (if (!t.plain && decide (es.size > 1))=true then _ else _) _ _ _
  rw [if_neg (by rw [hp]; simp)]
  show wpAny _ A ((if (!t.led && !es.isEmpty)=true then unsupported "set:maker-not-led" else pure ()) >>= _) _ _ _
  rw [if_neg (by rw [hl]; simp)]
  refine wpAny_bind (wpAny_pure ?_)
  exact wpAny_pure h
end
end L2
namespace L2
open PySem PySem.Spec PyProof.Rows
theorem owner_sit:Manifest.owners.lookup (String.ofList ['r','o','t','a','r','e','t','i','_','t','e','s'].reverse)=some Manifest.sig_set_iterator:=by kernel_rfl
theorem args_sit_next_1 (a:Value):argsOk "set_iterator.__next__" ⟨[a],[]⟩:=by
  unfold argsOk; rw [signature?_of (id:="set_iterator.__next__") (n:=['_','_','t','x','e','n','_','_']) (o:=['r','o','t','a','r','e','t','i','_','t','e','s']) (by kernel_rfl) owner_sit]; kernel_rfl
section
variable {prog:Program} {w:World} {A:Around} {E:Value→Shared→Prop} {s:Shared}
end
end L2
namespace L2
open PySem PySem.Spec PyProof.Rows
section
variable {prog:Program} {w:World} {A:Around} {E:Value→Shared→Prop} {s:Shared}
theorem next_text {a:Addr} {o:Obj} {es:Array (Int × Value)} {ep:Nat} {t:SetTable} {slot given:Nat} {Q:Option (Value × Nat)→Shared→Prop} (ho:s.heap.get? a=some o) (hd:o.data=.set es ep t) (hf:t.fits es.size=true) (hw:w.params.followText "set-order" = true)
    (h:Q (((pickOrder (w.params.setOrder a ep) es)[given]?).map fun e=>(e.2,slot)) s):wpAny (model prog w) A (setNext a slot given ep) Q E s:=by
  unfold setNext
  refine wpAny_bind (wpAny_setState_of ho hd hf ?_)
  dsimp only
  unfold setsByText
  refine wpAny_bind (wpAny_bind (wpAny_askSetting (wpAny_pure ?_)))
  show wpAny _ A (if w.params.followText "set-order" = true then _ else _) _ _ _
  rw [if_pos hw]
  rw [if_neg (by simp)]
  unfold setWalk
  refine wpAny_bind (wpAny_bind (wpAny_setState_of ho hd hf ?_))
  dsimp only
  unfold setsByText
  refine wpAny_bind (wpAny_bind (wpAny_askSetting (wpAny_pure ?_)))
  show wpAny _ A (if w.params.followText "set-order" = true then _ else _) _ _ _
  rw [if_pos hw]
  refine wpAny_bind (wpAny_askSetting (wpAny_pure ?_))
  exact wpAny_pure h
theorem next_drawn {a:Addr} {o:Obj} {es:Array (Int × Value)} {ep:Nat} {t:SetTable} {place:Nat} {hx:Int} {x:Value} {Q:Value→Shared→Prop} (ho:s.heap.get? a=some o) (hd:o.data=.set es ep t) (hf:t.fits es.size=true) (h1:es[place]? = some (hx,x))
    (h:Q x s):wpAny (model prog w) A (setNextDrawn a place ep) Q E s:=by
  unfold setNextDrawn
  refine wpAny_bind (wpAny_setState_of ho hd hf ?_)
  dsimp only
  rw [if_neg (by simp),h1]
  exact wpAny_pure h
theorem erase_perm {α:Type}:∀ (l:List α) (i:Nat) (h:i < l.length),(l[i] :: l.eraseIdx i).Perm l
  | y :: ys,0,_=>by simp
  | y :: ys,i + 1,h=>by
    have h':i < ys.length:=by simpa using h
    simp only [List.getElem_cons_succ,List.eraseIdx_cons_succ]
    exact (List.Perm.swap _ _ _).trans ((erase_perm ys i h').cons y)
theorem pick_perm {α:Type} (next:Nat→Nat):∀ (fuel k:Nat) (left:List α) (out:Array α),left.length≤fuel→(pickOrder.go next fuel k left out).toList.Perm (out.toList ++ left)
  | 0,k,left,out,h=>by
    have:left=[]:=List.length_eq_zero_iff.mp (by omega)
    subst this
    simp [pickOrder.go]
  | fuel + 1,k,left,out,h=>by
    unfold pickOrder.go
    cases hl:left with
    | nil=>simp
    | cons y ys =>
      have hlt:next k % (y :: ys).length < (y :: ys).length:=Nat.mod_lt _ (by simp)
      rw [List.getElem?_eq_getElem hlt]
      dsimp only
      generalize next k % (y :: ys).length=i at hlt
      refine (pick_perm next fuel (k + 1) _ _ ?_).trans ?_
      · rw [List.length_eraseIdx_of_lt hlt]
        rw [hl] at h
        omega
      · rw [Array.toList_push,List.append_assoc]
        refine List.Perm.append_left _ ?_
        exact erase_perm _ _ hlt
end
end L2
namespace L2
open PySem PySem.Spec PyProof.Rows BW
def extP (beds:List Int) (v:List Nat):List (List Nat):=((List.range beds.length).filter fun r=>decide (((v.count r:Nat):Int) < beds.getD r 0)).map fun r=>v ++ [r]
def allP (beds:List Int):Nat→List (List Nat)
  | 0 => [[]]
  | n + 1=>(allP beds n).flatMap (extP beds)
theorem bF_lt {beds:List Int} {r c:Nat}:((c:Int) < beds.getD r 0) ↔ c < bF beds r:=by
  unfold bF
  omega
theorem fit_snoc {beds:List Int} {v:List Nat} {r:Nat}:Fit (bF beds) (v ++ [r]) ↔ Fit (bF beds) v∧v.count r < bF beds r:=by
  constructor
  · intro h
    refine ⟨fun x=>?_,?_⟩
    · have:=h x
      rw [List.count_append] at this
      omega
    · have:=h r
      rw [List.count_append] at this
      simp at this
      omega
  · rintro ⟨h1,h2⟩ x
    rw [List.count_append]
    by_cases hx:r=x
    · subst hx
      simp
      omega
    · have:=h1 x
      simp [hx]
      omega
theorem mem_all {beds:List Int}:∀ {n:Nat} {v:List Nat},v∈allP beds n ↔ v.length=n∧Fit (bF beds) v
  | 0,v=>by
    rw [allP,List.mem_singleton]
    constructor
    · rintro rfl
      exact ⟨rfl,fun r=>by simp⟩
    · rintro ⟨h,_⟩
      exact List.length_eq_zero_iff.mp h
  | n + 1,v=>by
    rw [allP,List.mem_flatMap]
    constructor
    · rintro ⟨u,hu,hv⟩
      obtain ⟨h1,h2⟩:=mem_all.mp hu
      obtain ⟨r,hr,rfl⟩:=List.mem_map.mp hv
      obtain ⟨h3,h4⟩:=List.mem_filter.mp hr
      exact ⟨by simp [h1],fit_snoc.mpr ⟨h2,bF_lt.mp (of_decide_eq_true h4)⟩⟩
    · rintro ⟨h1,h2⟩
      have hne:v≠[]:=fun z=>by rw [z] at h1; simp at h1
      have e:=(List.dropLast_concat_getLast hne).symm
      rw [e] at h2
      obtain ⟨h3,h4⟩:=fit_snoc.mp h2
      refine ⟨v.dropLast,mem_all.mpr ⟨by simp [h1],h3⟩,?_⟩
      refine List.mem_map.mpr ⟨v.getLast hne,List.mem_filter.mpr ⟨?_,decide_eq_true (bF_lt.mpr h4)⟩,e.symm⟩
      rw [List.mem_range]
      exact fit_lt h2 _ (by simp)
def bestP (beds:List Int) (worths:List (List Int)):List (List Nat):=(allP beds worths.length).filter fun v=>decide (∀ u∈allP beds worths.length,wsum (wF worths) u≤wsum (wF worths) v)
theorem mem_best {beds:List Int} {worths:List (List Int)} {v:List Nat}:v∈bestP beds worths ↔ v.length=worths.length∧Fit (bF beds) v∧Opt beds worths v:=by
  unfold bestP
  rw [List.mem_filter,mem_all]
  simp only [decide_eq_true_eq]
  constructor
  · rintro ⟨⟨h1,h2⟩,h3⟩
    exact ⟨h1,h2,fun u hu hf=>h3 u (mem_all.mpr ⟨by omega,hf⟩)⟩
  · rintro ⟨h1,h2,h3⟩
    exact ⟨⟨h1,h2⟩,fun u hu=>h3 u (by have:=(mem_all.mp hu).1; omega) (mem_all.mp hu).2⟩
theorem Rows.app {H:Hp} {ws1 ws2:List Addr} {r1 r2:List (List Int)} (h1:Rows H ws1 r1) (h2:Rows H ws2 r2):Rows H (ws1 ++ ws2) (r1 ++ r2):=by
  refine ⟨by simp [h1.1,h2.1],fun i a row z1 z2=>?_⟩
  by_cases hi:i < ws1.length
  · rw [List.getElem?_append_left hi] at z1
    rw [List.getElem?_append_left (by rw [← h1.1]; exact hi)] at z2
    exact h1.2 i a row z1 z2
  · rw [List.getElem?_append_right (by omega)] at z1
    rw [List.getElem?_append_right (by rw [← h1.1]; omega),← h1.1] at z2
    exact h2.2 _ a row z1 z2
end L2
namespace L2
open PySem PySem.Spec PyProof.Rows BW
def Itv (K:PySem.W.Frag) (a:Addr) (n:Nat):It :=
  ⟨fun i H => ∃ xs x,SqL K H a xs∧xs.length=n∧xs.reverse[i]? = some x,fun i H x H'=>H'=H∧∀ xs,SqL K H a xs→xs.reverse[i]? = some x,fun i H=>i=n⟩
theorem turn_rev {P:Program} {w:World} {K:PySem.W.Frag} {tg:Expr} (a it:Addr) (n:Nat):Turn P w K tg (Itv K a n) [it] it (fun i h=>h.IsRevIter it a ((n:Int) - 1 - (i:Int))) where
  mem:=by simp
  obj:=fun i h st b hb=>by
    have e:b=it:=by simpa using hb
    subst e
    obtain ⟨o,e,c,d⟩:=st
    exact ⟨o,e,fun v z=>by rw [d] at z; cases z⟩
  keep:=fun i h h' st k=>st.at fun o e=>k it (by simp) o e
  item:=by
    intro X hP hw hK hc i pins s σ H E I hf st hg
    subst hP hw hK
    obtain ⟨xs,x,hq,hn,hx⟩:=hg
    have hi:i < n:=by
      have:=(List.getElem?_eq_some_iff.mp hx).1
      simp at this
      omega
    obtain ⟨its,rv,p,hz⟩:=I.list hq
    obtain ⟨u,hu,ru⟩:=(vals_rev rv).get hx
    obtain ⟨f0,f1,f2,f3,f4,f5⟩:=hf it (by simp)
    have hl:=rv.length
    have e1:(n:Int) - 1 - (i:Int)=((n - 1 - i:Nat):Int):=by omega
    have e2:((n - 1 - i:Nat):Int) - 1=(n:Int) - 1 - ((i + 1:Nat):Int):=by omega
    have hu2:its.toArray[n - 1 - i]? = some u:=by
      rw [List.getElem?_reverse (by omega)] at hu
      have e3:its.length - 1 - i=n - 1 - i:=by omega
      rw [e3] at hu
      simpa using hu
    rw [e1] at st
    refine wpAny_pyNext_rev_item st p.isList (x:=u) hu2 fun h' st' sb=>?_
    rw [e2] at st'
    have I1:Inv X pins σ H { s with heap:=h' }:=I.turned (t':=s.toks) (fun b o hb e=>(sb.2 b hb).trans e) f0 f1 f3 f4 f5
    obtain ⟨o,e,c,d⟩:=id st'
    exact ⟨u,rfl,go_of (s:={ s with heap:=h' }) e c d (by decide) ⟨x,H,I1,ru,⟨rfl,fun ys hy=>by rw [I.list_inj hy hq]; exact hx⟩,st',fun b hb=>(hf b hb).1⟩⟩
  done:=by
    intro X hP hw hK hc i pins s σ H E I hf st hg
    subst hP hw hK
    have hg':i=n:=hg
    subst hg'
    obtain ⟨f0,f1,f2,f3,f4,f5⟩:=hf it (by simp)
    have e1:(i:Int) - 1 - (i:Int)=-1:=by omega
    rw [e1] at st
    exact wpAny_pyNext_rev_end (I.ok.hd hc) st fun h' eb=>⟨rfl,I.turned (t':=s.toks) (fun b o hb e=>eb b o hb e) f0 f1 f3 f4 f5⟩
  self:=fun _ _ _ _ _ st h=>wpAny_pyIter_revIter st h
def iRev (K:PySem.W.Frag) (tl:TE):TI:=fun σ H R=>tl σ H fun x H1 => ∃ a xs,x=.ref a∧SqL K H1 a xs∧R (Itv K a xs.length) H1
theorem pi_revK {X:Cx} {K:PySem.W.Frag} {tg e:Expr} {t:TE} {p pos:Pos} (hK:X.K=K) (hg:Gl X "reversed") (hm:X.mg "reversed" = none) (ha:PE X e t)
    (he:starEach [e] X.env=(false,eval e X.env) :: starEach [] X.env:=by rfl):PI X tg (.Call (.Name "reversed" p) [e] [] pos) (iRev K t):=by
  subst hK
  intro pins s σ H R I h
  refine wpAny_Call_Name_kw (ld_blt I hg hm (u:=.type "reversed") (by decide +kernel) ?_ (by decide) (by decide))
  refine PyProof.Rows.callWith_type1 ?_ he rfl
  rw [he]
  show wpAny _ _ (spliced ((false,eval e X.env) :: backTo pos (starEach [] X.env))) _ _ s
  refine Calls.spliced_cons (thn (ha pins s σ H _ I h) fun u s1 ⟨x,H1,I1,r1,a,xs,e1,h1,q1⟩=>?_)
  subst e1
  cases r1
  refine Calls.spliced_nil ?_
  obtain ⟨its,rv,pl,hz⟩:=I1.list h1
  have hl:=rv.length
  refine call_reversed_list pl.isList ?_
  have hit:(s1.heap.push (revObj a ((its.toArray.size:Int) - 1))).IsRevIter s1.heap.objs.size a ((xs.length:Int) - 1 - ((0:Nat):Int)):=by
    refine ⟨_,Heap.get?_push_size _ rfl,rfl,?_⟩
    have e2:(its.toArray.size:Int) - 1=(xs.length:Int) - 1 - ((0:Nat):Int):=by rw [List.size_toArray,hl]; simp
    rw [e2]
    rfl
  refine wpAny_pyIter_revIter hit ?_
  refine ⟨s1.heap.objs.size,[s1.heap.objs.size],_,_,H1,rfl,I1.kept (t':=s1.toks) fun b o e=>Heap.get?_push_of_some _ e,turn_rev a _ xs.length,hit,fun b hb=>?_,q1⟩
  have e:b=s1.heap.objs.size:=by simpa using hb
  subst e
  exact I1.fpOk (Nat.le_refl _) (I1.hok.fresh (Nat.le_refl _))
theorem for_rev {K:PySem.W.Frag} {a:Addr} {xs:List V} {g:TG} {tb:TS} {D:Ends} {σ:St} {H:Hp} (Pv:Nat→St→Hp→Prop) (h0:Pv 0 σ H) (hl:∀ i σ H,i≤xs.length→Pv i σ H→SqL K H a xs)
    (hs:∀ i x σ H,xs.reverse[i]? = some x→Pv i σ H→g x σ H fun σ2 H2=>tb { D with nx:=Pv (i + 1),ct:=Pv (i + 1),bk:=D.nx } σ2 H2) (hd:∀ σ H,Pv xs.length σ H→D.nx σ H) :
    ∃ W:Nat→Nat→St→Hp→Prop,(∃ m,W 0 m σ H)∧∀ i m σ H,W i m σ H →
      ((Itv K a xs.length).stop i H∧D.nx σ H)∨((Itv K a xs.length).go i H∧∃ N:St→Hp→Prop,(∀ σ' H',N σ' H'→∃ m',m' < m∧W (i + 1) m' σ' H')∧∀ x H',(Itv K a xs.length).yld i H x H'→g x σ H' fun σ2 H2=>tb { D with nx:=N,ct:=N,bk:=D.nx } σ2 H2):=by
  refine ⟨fun i m σ H=>m=xs.length - i∧i≤xs.length∧Pv i σ H,⟨xs.length,by simp,Nat.zero_le _,h0⟩,?_⟩
  rintro i m σ H ⟨rfl,hi,p⟩
  have q:=hl i σ H hi p
  by_cases hlt:i < xs.length
  · refine .inr ⟨⟨xs,xs.reverse[i]'(by simpa using hlt),q,rfl,List.getElem?_eq_getElem _⟩,Pv (i + 1),fun σ' H' p'=>⟨xs.length - (i + 1),by omega,rfl,hlt,p'⟩,fun x H' y=>?_⟩
    obtain ⟨e,y⟩:=y
    subst e
    exact hs i x σ _ (y xs q) p
  · have e:i=xs.length:=by omega
    subst e
    exact .inl ⟨rfl,hd σ H p⟩
end L2
namespace L2
open PySem PySem.Spec PyProof.Rows
section
variable {prog:Program} {w:World} {A:Around} {E:Value→Shared→Prop} {s:Shared}
theorem wpAny_choose {src:Source} {n:Nat} {Q:Nat→Shared→Prop} (hn:n≠0) (h:∀ i,i < n→Q i { s with drawn:=s.drawn.bump src }):wpAny (model prog w) A (choose src n) Q E s:=fun Γ p hΓ=>by
  show Sem.wp (model prog w) Γ (.choose src n .pure) _ _ p s
  rw [Sem.wp_choose]
  exact ⟨hn,h _ (Nat.mod_lt _ (Nat.pos_of_ne_zero hn))⟩
theorem draw_perm {α:Type}:∀ (n:Nat) (xs:List α) (s:Shared) (Q:List α→Shared→Prop),xs.length≤n→(∀ ys d,ys.Perm xs→Q ys { s with drawn:=d })→wpAny (model prog w) A (drawOrder n xs) Q E s
  | 0,xs,s,Q,hl,h=>by
    have:xs=[]:=List.length_eq_zero_iff.mp (by omega)
    subst this
    exact wpAny_pure (h [] s.drawn (List.Perm.refl _))
  | n + 1,[],s,Q,hl,h=>wpAny_pure (h [] s.drawn (List.Perm.refl _))
  | n + 1,y :: ys,s,Q,hl,h=>by
    unfold drawOrder
    refine wpAny_bind (wpAny_choose (by simp) fun i hi=>?_)
    rw [List.getElem?_eq_getElem hi]
    dsimp only
    refine wpAny_bind (draw_perm n _ _ _ ?_ fun zs d hp=>?_)
    · rw [List.length_eraseIdx_of_lt hi]
      omega
    · exact wpAny_pure (h _ _ ((hp.cons _).trans (erase_perm _ _ hi)))
def sitO (first:Value) (S:Addr) (n ep:Nat):Obj:={ cls:=.type "set_iterator",data:=.fields #[first,rawInt 0,.ref S,rawInt n,rawInt ep] }
theorem args_set_iter_1 (a:Value):argsOk "set.__iter__" ⟨[a],[]⟩:=by unfold argsOk; kernel_rfl
theorem iter_set {S:Addr} {o:Obj} {es:Array (Int × Value)} {ep:Nat} {t:SetTable} {Q:Value→Shared→Prop} (ho:s.heap.get? S=some o) (hc:o.cls=.type "set") (hd:o.data=.set es ep t) (hf:t.fits es.size=true)
    (h1:(!w.params.followText "set-order" && (!t.plain && decide (es.size > 1)))=false→Q (.ref s.heap.objs.size) { s with heap:=s.heap.push (sitO (rawInt 0) S es.size ep) })
    (h2:(!w.params.followText "set-order" && (!t.plain && decide (es.size > 1)))=true→∀ (ys:List Nat) d,ys.Perm (List.range es.size) →
      Q (.ref (s.heap.objs.size + 1)) { s with heap:=(s.heap.push { cls:=.type "tuple",data:=.seq (ys.map fun (i:Nat)=>rawInt i).toArray }).push (sitO (.ref s.heap.objs.size) S es.size ep),drawn:=d }) (hz:es.size≤sizeLine) :
    wpAny (model prog w) A (pyIter (.ref S)) Q E s:=by
  have hT:s.TypeIs (.ref S) "set" := ⟨o,ho,hc⟩
  refine wpAny_pyIter_slot hT slot_set_iter (wpAny_call_entry slot_set_iter hT entry_set_iter ?_ (args_set_iter_1 _))
  unfold Builtin.«frozenset.__iter__»
  unfold Builtin.Frozenset.slot0
  refine wpAny_bind (wpAny_bind (wpAny_of_eq (a:=(Value.ref S,[])) rfl ?_))
  dsimp only
  refine wpAny_of_eq (a:=S) rfl ?_
  unfold Builtin.Frozenset.sizeOf setEntries
  refine wpAny_bind (wpAny_bind (wpAny_bind (wpAny_setState_of ho hd hf (wpAny_pure (wpAny_pure ?_)))))
  unfold setDrawn
  refine wpAny_bind (wpAny_bind (wpAny_setState_of ho hd hf ?_))
  dsimp only
  unfold setsByText
  refine wpAny_bind (wpAny_bind (wpAny_askSetting (wpAny_pure ?_)))
  refine wpAny_pure ?_
  show wpAny (model prog w) A.in1 (if (!w.params.followText "set-order" && (!t.plain && decide (es.size > 1)))=true then _ else _) _ _ _
  cases hb:(!w.params.followText "set-order" && (!t.plain && decide (es.size > 1))) with
  | false =>
    rw [if_neg Bool.false_ne_true]
    refine wpAny_bind (wpAny_pure (wpAny_bind (wpAny_setEpoch_of ho hd hf ?_)))
    refine wpAny_bind (wpAny_newObj_type ?_)
    exact wpAny_pure ⟨_,rfl,"set_iterator",_,⟨_,Heap.get?_push_size _ rfl,rfl⟩,slot_sit_next.lookup,h1 hb⟩
  | true =>
    rw [if_pos rfl]
    refine wpAny_bind (draw_perm _ _ _ _ (by simp) fun ys d hp=>?_)
    have hyl:ys.length=es.size:=by rw [hp.length_eq]; simp
    refine wpAny_bind (wpAny_newTuple ?_ ?_)
    · refine wpAny_bind (wpAny_setEpoch_of (Heap.get?_push_of_some _ ho) hd hf ?_)
      refine wpAny_bind (wpAny_newObj_type ?_)
      have hsz:(s.heap.push { cls:=.type "tuple",data:=.seq (ys.map fun (i:Nat)=>rawInt i).toArray }).objs.size=s.heap.objs.size + 1:=Heap.size_push _ _
      have:=h2 hb ys d hp
      refine wpAny_pure ⟨_,rfl,"set_iterator",_,⟨_,Heap.get?_push_size _ rfl,rfl⟩,slot_sit_next.lookup,?_⟩
      show Q (.ref (s.heap.push { cls:=.type "tuple",data:=.seq (ys.map fun (i:Nat)=>rawInt i).toArray }).objs.size) _
      rw [hsz]
      exact this
    · rw [List.length_map,hyl]
      exact hz
def SitF (h:Heap) (it S:Addr) (first:Value) (i:Int) (n ep:Nat):Prop:=∃ o,h.get? it=some o∧o.cls=.type "set_iterator"∧o.data=.fields #[first,rawInt i,.ref S,rawInt n,rawInt ep]
theorem SitF.typeIs {it S:Addr} {first:Value} {i:Int} {n ep:Nat} (x:SitF s.heap it S first i n ep):s.TypeIs (.ref it) "set_iterator" := let ⟨o,ho,hc,_⟩:=x; ⟨o,ho,hc⟩
theorem SitF.at_ {h h':Heap} {it S:Addr} {first:Value} {i:Int} {n ep:Nat} (x:SitF h it S first i n ep) (e:∀ o,h.get? it=some o→h'.get? it=some o):SitF h' it S first i n ep:=let ⟨o,ho,r⟩:=x; ⟨o,e _ ho,r⟩
theorem sitF_item {it a:Addr} {o:Obj} {es:Array (Int × Value)} {ep:Nat} {t:SetTable} {slot i:Nat} {Q:Option Value→Shared→Prop} (hit:SitF s.heap it a (rawInt (slot:Int)) (i:Int) es.size ep) (ho:s.heap.get? a=some o) (hd:o.data=.set es ep t) (hf:t.fits es.size=true)
    {x:Value} {nx:Nat} (hn:∀ (A:Around) (E:Value→Shared→Prop) (Q:Option (Value × Nat)→Shared→Prop),Q (some (x,nx)) s→wpAny (model prog w) A (setNext a slot i ep) Q E s)
    (hQ:∀ h',SitF h' it a (rawInt (nx:Int)) ((i + 1:Nat):Int) es.size ep→Heap.SameBut it s.heap h'→Q (some x) { s with heap:=h' }):wpAny (model prog w) A (pyNext (.ref it)) Q E s:=by
  obtain ⟨u,hu,hc,hud⟩:=id hit
  unfold pyNext
  refine wpAny_bind (wpAny_attempt (wpAny_callSpecial?_slot (name:=Str.ofString "__next__") hit.typeIs slot_sit_next
    (wpAny_call_entry slot_sit_next hit.typeIs entry_sit_next ?_ (args_sit_next_1 _))))
  unfold Builtin.«set_iterator.__next__»
  refine wpAny_bind (wpAny_of_eq (a:=(Value.ref it,[])) rfl ?_)
  dsimp only
  refine wpAny_bind (wpAny_fieldsOf hu hud ?_)
  dsimp only [rawInt]
  unfold setEntries
  refine wpAny_bind (wpAny_bind (wpAny_setState_of ho hd hf (wpAny_pure ?_)))
  rw [if_neg (by simp)]
  refine wpAny_bind (hn _ _ _ ?_)
  dsimp only
  refine wpAny_bind (wpAny_setField hu hud (by simp) ?_)
  have g1:=Heap.get?_update_self (Obj.mapFields fun vs=>vs.setIfInBounds 0 (rawInt (nx:Int))) hu (Obj.isFreed_of_fields (Obj.data_mapFields hud _))
  have d1:=Obj.data_mapFields hud fun vs=>vs.setIfInBounds 0 (rawInt (nx:Int))
  refine wpAny_bind (wpAny_setField g1 d1 (by simp) ?_)
  have g2:=Heap.get?_update_self (Obj.mapFields fun vs=>vs.setIfInBounds 1 (rawInt ((i:Int) + 1))) g1 (Obj.isFreed_of_fields (Obj.data_mapFields d1 _))
  have d2:=Obj.data_mapFields d1 fun vs=>vs.setIfInBounds 1 (rawInt ((i:Int) + 1))
  refine wpAny_pure ⟨x,rfl,wpAny_pure (hQ _ ⟨_,g2,?_,?_⟩ ((Heap.SameBut.update s.heap it _).trans (Heap.SameBut.update _ it _)))⟩
  · exact (Obj.cls_mapFields ..).trans ((Obj.cls_mapFields ..).trans hc)
  · rw [d2]
    simp
theorem sitF_end {it a:Addr} {o:Obj} {es:Array (Int × Value)} {ep:Nat} {t:SetTable} {slot i:Nat} {Q:Option Value→Shared→Prop} (hh:A.handled=none) (hit:SitF s.heap it a (rawInt (slot:Int)) (i:Int) es.size ep) (ho:s.heap.get? a=some o) (hd:o.data=.set es ep t) (hf:t.fits es.size=true)
    (hn:∀ (A:Around) (E:Value→Shared→Prop) (Q:Option (Value × Nat)→Shared→Prop),Q none s→wpAny (model prog w) A (setNext a slot i ep) Q E s)
    (hQ:∀ h',Heap.ExtBut it s.heap h'→Q none { s with heap:=h' }):wpAny (model prog w) A (pyNext (.ref it)) Q E s:=by
  obtain ⟨u,hu,hc,hud⟩:=id hit
  unfold pyNext
  refine wpAny_bind (wpAny_attempt (wpAny_callSpecial?_slot (name:=Str.ofString "__next__") hit.typeIs slot_sit_next
    (wpAny_call_entry slot_sit_next hit.typeIs entry_sit_next ?_ (args_sit_next_1 _))))
  unfold Builtin.«set_iterator.__next__»
  refine wpAny_bind (wpAny_of_eq (a:=(Value.ref it,[])) rfl ?_)
  dsimp only
  refine wpAny_bind (wpAny_fieldsOf hu hud ?_)
  dsimp only [rawInt]
  unfold setEntries
  refine wpAny_bind (wpAny_bind (wpAny_setState_of ho hd hf (wpAny_pure ?_)))
  rw [if_neg (by simp)]
  refine wpAny_bind (hn _ _ _ ?_)
  dsimp only
  refine wpAny_bind (wpAny_setField hu hud (by simp) ?_)
  refine wpAny_bind ?_
  simp only [newExc,newTuple]
  refine wpAny_bind (wpAny_newObj_type ?_ (by size_fits))
  refine wpAny_bind (m:=firstArgMember _ _) (wpAny_of_eq (a:=Value.none) (by first | rfl | (simp only [firstArgMember]; rfl)) ?_)
  refine wpAny_newObj_type ?_ (by size_fits)
  simp only [raiseNew]
  refine wpAny_bind (wpAny_handled ?_)
  first | rw [show A.in1.handled=none from hh] | rw [hh]
  refine wpAny_bind (wpAny_pure (wpAny_throw ?_))
  refine wpAny_bind (wpAny_isInstance (T:="StopIteration") (b:=true) ⟨_,Heap.get?_push_size _ rfl,rfl⟩ isSubtype_stop ?_)
  exact wpAny_pure (hQ _ ((((Heap.SameBut.update s.heap it _).extBut).push _).push _))
theorem sitD_item {it a tp:Addr} {o ot:Obj} {es:Array (Int × Value)} {ep:Nat} {t:SetTable} {i place c:Nat} {ps:Array Value} {tk:Tok} {Q:Option Value→Shared→Prop} (hit:SitF s.heap it a (.ref tp) (i:Int) es.size ep) (ho:s.heap.get? a=some o) (hd:o.data=.set es ep t) (hf:t.fits es.size=true)
    (hto:s.heap.get? tp=some ot) (htd:ot.data=.seq ps c) (hp:ps[i]? = some (.int (place:Int) tk)) {hx:Int} {x:Value} (hxx:es[place]? = some (hx,x))
    (hQ:∀ h',SitF h' it a (.ref tp) ((i + 1:Nat):Int) es.size ep→Heap.SameBut it s.heap h'→Q (some x) { s with heap:=h' }):wpAny (model prog w) A (pyNext (.ref it)) Q E s:=by
  obtain ⟨u,hu,hc,hud⟩:=id hit
  unfold pyNext
  refine wpAny_bind (wpAny_attempt (wpAny_callSpecial?_slot (name:=Str.ofString "__next__") hit.typeIs slot_sit_next
    (wpAny_call_entry slot_sit_next hit.typeIs entry_sit_next ?_ (args_sit_next_1 _))))
  unfold Builtin.«set_iterator.__next__»
  refine wpAny_bind (wpAny_of_eq (a:=(Value.ref it,[])) rfl ?_)
  dsimp only
  refine wpAny_bind (wpAny_fieldsOf hu hud ?_)
  dsimp only [rawInt]
  unfold setEntries
  refine wpAny_bind (wpAny_bind (wpAny_setState_of ho hd hf (wpAny_pure ?_)))
  rw [if_neg (by simp)]
  refine wpAny_bind (wpAny_seqItems hto htd ?_)
  dsimp only
  rw [show (i:Int).toNat=i from rfl,hp]
  dsimp only
  refine wpAny_bind (next_drawn ho hd hf (place:=(place:Int).toNat) hxx ?_)
  refine wpAny_bind (wpAny_setField hu hud (by simp) ?_)
  have g1:=Heap.get?_update_self (Obj.mapFields fun vs=>vs.setIfInBounds 1 (rawInt ((i:Int) + 1))) hu (Obj.isFreed_of_fields (Obj.data_mapFields hud _))
  have d1:=Obj.data_mapFields hud fun vs=>vs.setIfInBounds 1 (rawInt ((i:Int) + 1))
  refine wpAny_pure ⟨x,rfl,wpAny_pure (hQ _ ⟨_,g1,?_,?_⟩ (Heap.SameBut.update s.heap it _))⟩
  · exact (Obj.cls_mapFields ..).trans hc
  · rw [d1]
    simp
theorem sitD_end {it a tp:Addr} {o ot:Obj} {es:Array (Int × Value)} {ep:Nat} {t:SetTable} {i c:Nat} {ps:Array Value} {Q:Option Value→Shared→Prop} (hh:A.handled=none) (hit:SitF s.heap it a (.ref tp) (i:Int) es.size ep) (ho:s.heap.get? a=some o) (hd:o.data=.set es ep t) (hf:t.fits es.size=true)
    (hto:s.heap.get? tp=some ot) (htd:ot.data=.seq ps c) (hp:ps[i]? = none)
    (hQ:∀ h',Heap.ExtBut it s.heap h'→Q none { s with heap:=h' }):wpAny (model prog w) A (pyNext (.ref it)) Q E s:=by
  obtain ⟨u,hu,hc,hud⟩:=id hit
  unfold pyNext
  refine wpAny_bind (wpAny_attempt (wpAny_callSpecial?_slot (name:=Str.ofString "__next__") hit.typeIs slot_sit_next
    (wpAny_call_entry slot_sit_next hit.typeIs entry_sit_next ?_ (args_sit_next_1 _))))
  unfold Builtin.«set_iterator.__next__»
  refine wpAny_bind (wpAny_of_eq (a:=(Value.ref it,[])) rfl ?_)
  dsimp only
  refine wpAny_bind (wpAny_fieldsOf hu hud ?_)
  dsimp only [rawInt]
  unfold setEntries
  refine wpAny_bind (wpAny_bind (wpAny_setState_of ho hd hf (wpAny_pure ?_)))
  rw [if_neg (by simp)]
  refine wpAny_bind (wpAny_seqItems hto htd ?_)
  dsimp only
  rw [show (i:Int).toNat=i from rfl,hp]
  dsimp only
  refine wpAny_bind (wpAny_setField hu hud (by simp) ?_)
  have g1:=Heap.get?_update_self (Obj.mapFields fun vs=>vs.setIfInBounds 0 (rawInt 0)) hu (Obj.isFreed_of_fields (Obj.data_mapFields hud _))
  have d1:=Obj.data_mapFields hud fun vs=>vs.setIfInBounds 0 (rawInt 0)
  refine wpAny_bind (wpAny_setField g1 d1 (by simp) ?_)
  refine wpAny_bind ?_
  simp only [newExc,newTuple]
  refine wpAny_bind (wpAny_newObj_type ?_ (by size_fits))
  refine wpAny_bind (m:=firstArgMember _ _) (wpAny_of_eq (a:=Value.none) (by first | rfl | (simp only [firstArgMember]; rfl)) ?_)
  refine wpAny_newObj_type ?_ (by size_fits)
  simp only [raiseNew]
  refine wpAny_bind (wpAny_handled ?_)
  first | rw [show A.in1.handled=none from hh] | rw [hh]
  refine wpAny_bind (wpAny_pure (wpAny_throw ?_))
  refine wpAny_bind (wpAny_isInstance (T:="StopIteration") (b:=true) ⟨_,Heap.get?_push_size _ rfl,rfl⟩ isSubtype_stop ?_)
  exact wpAny_pure (hQ _ (((((Heap.SameBut.update s.heap it _).trans (Heap.SameBut.update _ it _)).extBut).push _).push _))
end
end L2
namespace L2
open PySem PySem.Spec PyProof.Rows
theorem args_sit_iter_1 (a:Value):argsOk "set_iterator.__iter__" ⟨[a],[]⟩:=by
  unfold argsOk; rw [signature?_of (id:="set_iterator.__iter__") (n:=['_','_','r','e','t','i','_','_']) (o:=['r','o','t','a','r','e','t','i','_','t','e','s']) (by kernel_rfl) owner_sit]; kernel_rfl
theorem entry_sit_iter:entryFor table "set_iterator.__iter__" = some Builtin.«dict_keyiterator.__iter__» :=
  entryFor_alias (id':="dict_keyiterator.__iter__") (by kernel_rfl) (by first | rfl | decide +kernel | (unfold String.splitOn; simp +decide [String.splitOnAux])) (by decide +kernel) (by kernel_rfl)
section
variable {prog:Program} {w:World} {A:Around} {E:Value→Shared→Prop} {s:Shared}
theorem sit_self {it S:Addr} {first:Value} {i:Int} {n ep:Nat} {Q:Value→Shared→Prop} (hit:SitF s.heap it S first i n ep) (h:Q (.ref it) s):wpAny (model prog w) A (pyIter (.ref it)) Q E s:=by
  refine wpAny_pyIter_slot hit.typeIs slot_sit_iter (wpAny_call_entry slot_sit_iter hit.typeIs entry_sit_iter ?_ (args_sit_iter_1 _))
  show wpAny _ _ (ret (.ref it)) _ _ s
  exact wpAny_pure ⟨_,rfl,"set_iterator",_,hit.typeIs,slot_sit_next.lookup,h⟩
theorem fits_size {t:SetTable} {n:Nat} (h:t.fits n=true):t.place.size=n:=by
  simp only [SetTable.fits,Bool.and_eq_true,beq_iff_eq,decide_eq_true_eq] at h
  exact h.1
theorem walks_led (hh:A.handled=none) {it S:Addr} (hne:S≠it) {o:Obj} {es:Array (Int × Value)} {ep:Nat} {t:SetTable} (hd:o.data=.set es ep t) (hf:t.fits es.size=true) (hl:t.led=true) (hw:w.params.followText "set-order" = false) (hp:(!t.plain && decide (es.size > 1))=false) (hr:Rise t.place) :
    Walks prog w A it [it,S] [it] es.size (fun i v=>(es.toList.map (fun e=>e.2))[i]? = some v) (fun i h=>(∃ slot:Nat,SetTable.below t.place slot=i∧SitF h it S (rawInt (slot:Int)) (i:Int) es.size ep)∧h.get? S=some o) where
  sub:=fun b hb=>by simp at hb; simp [hb]
  frame:=fun i h h' x hk=>by
    obtain ⟨⟨slot,h1,h2⟩,h3⟩:=x
    exact ⟨⟨slot,h1,h2.at_ fun o e=>hk it (by simp) o e⟩,hk S (by simp) o h3⟩
  item:=fun i s Q E hi x hQ=>by
    obtain ⟨⟨slot,h1,h2⟩,h3⟩:=x
    have hps:=fits_size hf
    have e1:es[i]? = some es[i]:=by simp [hi]
    have e2:t.place[i]? = some (t.place.getD i 0):=by simp [Array.getD,hps,hi]
    refine sitF_item h2 h3 hd hf (x:=es[i].2) (nx:=t.place.getD i 0 + 1) (fun A E Q q=>next_led h3 hd hf hl hw hp (by rw [h1,e1,e2]; exact q)) fun h' st' sb=>?_
    refine hQ _ h' s.toks ?_ ⟨⟨_,below_next hr (by omega),st'⟩,(sb.2 S hne).trans h3⟩ fun b o hb e=>sb.extBut b o (fun h=>hb (by simp [h])) e
    simp [hi]
  done:=fun s Q E x hQ=>by
    obtain ⟨⟨slot,h1,h2⟩,h3⟩:=x
    refine sitF_end hh h2 h3 hd hf (fun A E Q q=>next_led h3 hd hf hl hw hp (by rw [h1]; simpa using q)) fun h' eb=>?_
    exact hQ h' s.toks fun b o hb e=>eb b o (fun h=>hb (by simp [h])) e
  self:=fun i s Q E x hQ=>by
    obtain ⟨⟨slot,h1,h2⟩,h3⟩:=x
    exact sit_self h2 hQ
theorem walks_text (hh:A.handled=none) {it S:Addr} (hne:S≠it) {o:Obj} {es:Array (Int × Value)} {ep:Nat} {t:SetTable} (hd:o.data=.set es ep t) (hf:t.fits es.size=true) (hw:w.params.followText "set-order" = true) :
    Walks prog w A it [it,S] [it] es.size (fun i v=>((pickOrder (w.params.setOrder S ep) es).toList.map (fun e=>e.2))[i]? = some v) (fun i h=>SitF h it S (rawInt ((0:Nat):Int)) (i:Int) es.size ep∧h.get? S=some o) where
  sub:=fun b hb=>by simp at hb; simp [hb]
  frame:=fun i h h' x hk=>⟨x.1.at_ fun o e=>hk it (by simp) o e,hk S (by simp) o x.2⟩
  item:=fun i s Q E hi x hQ=>by
    obtain ⟨h2,h3⟩:=x
    have hpl:(pickOrder (w.params.setOrder S ep) es).size=es.size:=by
      have:=(pick_perm (w.params.setOrder S ep) es.size 0 es.toList #[] (by simp)).length_eq
      simpa [pickOrder] using this
    have e1:(pickOrder (w.params.setOrder S ep) es)[i]? = some ((pickOrder (w.params.setOrder S ep) es)[i]'(by omega)):=by simp [hpl,hi]
    refine sitF_item h2 h3 hd hf (x:=((pickOrder (w.params.setOrder S ep) es)[i]'(by omega)).2) (nx:=0) (fun A E Q q=>next_text h3 hd hf hw (by rw [e1]; exact q)) fun h' st' sb=>?_
    refine hQ _ h' s.toks ?_ ⟨st',(sb.2 S hne).trans h3⟩ fun b o hb e=>sb.extBut b o (fun h=>hb (by simp [h])) e
    simp [hi,hpl]
  done:=fun s Q E x hQ=>by
    obtain ⟨h2,h3⟩:=x
    have hpl:(pickOrder (w.params.setOrder S ep) es).size=es.size:=by
      have:=(pick_perm (w.params.setOrder S ep) es.size 0 es.toList #[] (by simp)).length_eq
      simpa [pickOrder] using this
    refine sitF_end hh h2 h3 hd hf (fun A E Q q=>next_text h3 hd hf hw (by rw [show (pickOrder (w.params.setOrder S ep) es)[es.size]? = none by simp [hpl]]; exact q)) fun h' eb=>?_
    exact hQ h' s.toks fun b o hb e=>eb b o (fun h=>hb (by simp [h])) e
  self:=fun i s Q E x hQ=>sit_self x.1 hQ
theorem walks_drawn (hh:A.handled=none) {it S tp:Addr} (hne:S≠it) (hne2:tp≠it) {o ot:Obj} {es:Array (Int × Value)} {ep c:Nat} {t:SetTable} (hd:o.data=.set es ep t) (hf:t.fits es.size=true) {ys:List Nat} (hy:ys.Perm (List.range es.size)) (htd:ot.data=.seq (ys.map fun (i:Nat)=>rawInt i).toArray c) :
    Walks prog w A it [it,S,tp] [it] es.size (fun i v=>(ys.map fun j=>(es.getD j (0,.none)).2)[i]? = some v) (fun i h=>SitF h it S (.ref tp) (i:Int) es.size ep∧h.get? S=some o∧h.get? tp=some ot) where
  sub:=fun b hb=>by simp at hb; simp [hb]
  frame:=fun i h h' x hk=>⟨x.1.at_ fun o e=>hk it (by simp) o e,hk S (by simp) o x.2.1,hk tp (by simp) ot x.2.2⟩
  item:=fun i s Q E hi x hQ=>by
    obtain ⟨h2,h3,h4⟩:=x
    have hyl:ys.length=es.size:=by rw [hy.length_eq]; simp
    have hlt:ys[i]'(by omega) < es.size:=List.mem_range.mp (hy.mem_iff.mp (List.getElem_mem _))
    have e1:(ys.map fun (i:Nat)=>rawInt i).toArray[i]? = some (.int ((ys[i]'(by omega):Nat):Int) 0):=by simp [hyl,hi,rawInt]
    refine sitD_item h2 h3 hd hf h4 htd e1 (hx:=(es[ys[i]'(by omega)]'hlt).1) (x:=(es[ys[i]'(by omega)]'hlt).2) (by simp [hlt]) fun h' st' sb=>?_
    refine hQ _ h' s.toks ?_ ⟨st',(sb.2 S hne).trans h3,(sb.2 tp hne2).trans h4⟩ fun b o hb e=>sb.extBut b o (fun h=>hb (by simp [h])) e
    simp [hyl,hi,Array.getD,hlt]
  done:=fun s Q E x hQ=>by
    obtain ⟨h2,h3,h4⟩:=x
    have hyl:ys.length=es.size:=by rw [hy.length_eq]; simp
    refine sitD_end hh h2 h3 hd hf h4 htd (by simp [hyl]) fun h' eb=>?_
    exact hQ h' s.toks fun b o hb e=>eb b o (fun h=>hb (by simp [h])) e
  self:=fun i s Q E x hQ=>sit_self x.1 hQ
end
end L2
namespace L2
open PySem PySem.Spec PyProof.Rows
theorem set_len:typeLookup (.type "set") "__len__" = pure (some (.builtin "set.__len__")):=by rw [typeLookup_type,builtinLookup_eq_fast]; kernel_rfl
section
variable {prog:Program} {w:World} {A:Around} {E:Value→Shared→Prop} {s:Shared}
theorem collect_set {Good:List Value→Prop} {S:Addr} {Q:List Value→Shared→Prop} (hT:s.TypeIs (.ref S) "set")
    (hit:∀ (s₁:Shared) (K:Value→Shared→Prop) (E:Value→Shared→Prop),s₁={ s with heap:=s.heap.push { cls:=.type "list",data:=.seq ([]:List Value).toArray } } →
      (∀ (I:Addr) (fp wr:List Addr) (n:Nat) (P:Nat→Value→Prop) (St:Nat→Heap→Prop) (s₂:Shared),Walks prog w A.in1 I fp wr n P St→St 0 s₂.heap→s.heap.objs.size ∉ fp→(∀ b∈wr,s.heap.objs.size < b)→(∀ b o,s₁.heap.get? b=some o→s₂.heap.get? b=some o) →
        s₂.gens=s₁.gens→s₂.os=s₁.os→n≤sizeLine→(∀ acc:Array Value,ItemsOf P acc n→Good acc.toList)→K (.ref I) s₂)→wpAny (model prog w) A.in1 (pyIter (.ref S)) K E s₁)
    (hQ:∀ vs s',Good vs→(∀ b o,s.heap.get? b=some o→s'.heap.get? b=some o)→s.heap.objs.size < s'.heap.objs.size→s'.gens=s.gens→s'.os=s.os→Q vs s'):wpAny (model prog w) A (collect (.ref S)) Q E s:=by
  obtain ⟨o,ho,hc⟩:=id hT
  have hSI:s.heap.objs.size≠S:=(Nat.ne_of_lt (Heap.lt_size ho)).symm
  unfold collect
  refine wpAny_bind (wpAny_runValue (codeAny_builtin F.entry_proto_collect ?_))
  rw [Around.under_plainId F.plain_proto_collect _]
  show wpAny _ A.in1 (newList [] >>= fun l=>again (.builtin "list.__iadd__" ⟨[l,.ref S],[]⟩)) _ _ s
  refine wpAny_bind (wpAny_newObj_type ?_)
  refine wpAny_pure ⟨plainId_quiet F.plain_list_iadd _,codeAny_builtin F.entry_list_iadd ?_⟩
  rw [Around.under_plainId F.plain_list_iadd _]
  have hS₁:(s.heap.push { cls:=.type "list",data:=.seq ([]:List Value).toArray }).get? s.heap.objs.size=some { cls:=.type "list",data:=.seq ([]:List Value).toArray }:=Heap.get?_push_size _ rfl
  have h1:Builtin.List.listSameRef (.ref s.heap.objs.size) (.ref S)=false:=by simp [Builtin.List.listSameRef,hSI]
  show wpAny _ A.in1 (Builtin.List.listExtendWith (.ref s.heap.objs.size) (.ref S) (.ref s.heap.objs.size)) _ _ _
  unfold Builtin.List.listExtendWith
  refine wpAny_bind (wpAny_typeOf (T:="set") ⟨o,Heap.get?_push_of_some _ ho,hc⟩ ?_)
  rw [if_neg (by rw [h1]; decide)]
  refine wpAny_bind (hit _ _ _ rfl fun I fp wr n P St s₂ W hst hSf hwr hk hg hos hn hgood=>?_)
  have ho₂:s₂.heap.get? S=some o:=hk _ _ (Heap.get?_push_of_some _ ho)
  have hS₂:=hk _ _ hS₁
  have hT₂:s₂.TypeIs (.ref S) "set" := ⟨o,ho₂,hc⟩
  refine wpAny_bind (wpAny_holding ?_)
  unfold Builtin.List.listLengthHint
  refine wpAny_bind (wpAny_specialOf hT₂ set_len ?_)
  generalize hid:("set.__len__" : String)=id0
  wp_delta
  rw [show splitId id0=some ("set","__len__") from by subst hid; decide +kernel]
  subst hid
  refine wpAny_bind (wpAny_isInstance (b:=true) hT₂ (by rw [isSubtype_type]; kernel_rfl) ?_)
  rw [if_neg (by decide)]
  rw [if_pos (by decide +kernel)]
  refine wpAny_bind (wpAny_typeOf (T:="set") hT₂ ?_)
  refine wpAny_pure ?_
  dsimp only
  rw [if_pos (by decide +kernel)]
  refine wpAny_bind (wpAny_rule ?_)
  unfold Builtin.List.listTouch
  refine wpAny_bind (wpAny_bind (listUpdate_at (xs:=#[]) (n:=0) hS₂ rfl ?_ (by simp) (by simp)))
  have hS₃:=get?_update_seq (c:="list") (xs:=#[]) (n:=0) hS₂ (·.push .none)
  refine listUpdate_at hS₃ rfl ?_ (by simp [sizeLine_eq]) (by simp)
  have hS₄:=get?_update_seq (c:="list") hS₃ (·.pop)
  refine wpAny_pure ⟨plainId_quiet F.plain_extend_loop _,?_⟩
  have oth:∀ b o,b≠s.heap.objs.size→s₂.heap.get? b=some o→((s₂.heap.update s.heap.objs.size (Obj.mapSeq (·.push .none))).update s.heap.objs.size (Obj.mapSeq (·.pop))).get? b=some o:=fun b o hb e=>by
    rw [Heap.get?_update_other _ _ (Ne.symm hb),Heap.get?_update_other _ _ (Ne.symm hb)]
    exact e
  refine codeAny_extend_loopS W.toS hn _ hSf _ n 0 _ _ _ rfl (Nat.zero_le _) (W.frame 0 _ _ hst fun b hb o e=>oth b o (fun z=>hSf (z ▸ hb)) e) hS₄ (ItemsOf.nil P) fun s' acc' c' hm hS' hacc=>?_
  show wpAny _ A (load s.heap.objs.size >>= _) _ _ s'
  refine wpAny_bind (wpAny_load hS' ?_)
  refine wpAny_pure (hQ _ s' (hgood acc' hacc) (fun b o e=>?_) (Heap.lt_size hS') ?_ ?_)
  · have hlt:=Heap.lt_size e
    refine hm.heap b o (fun z=>?_) (oth b o (Nat.ne_of_lt hlt) (hk _ _ (Heap.get?_push_of_some _ e)))
    rcases List.mem_cons.mp z with z | z
    · exact absurd z (Nat.ne_of_lt hlt)
    · exact absurd (hwr b z) (Nat.not_lt.mpr (Nat.le_of_lt hlt))
  · exact hm.gens.trans hg
  · exact hm.os.trans hos
theorem items_eq {L:List Value} {n:Nat} (hl:L.length=n) {acc:Array Value} (h:ItemsOf (fun i v=>L[i]? = some v) acc n):acc.toList=L:=by
  refine List.ext_getElem (by rw [Array.length_toList,h.1,hl]) fun i h1 h2=>?_
  have h1':i < acc.size:=by simpa using h1
  have h3:L[i]? = some acc[i]:=h.2 i _ (Array.getElem?_eq_getElem h1')
  rw [Array.getElem_toList]
  exact (List.getElem?_eq_some_iff.mp h3).2.symm
theorem ints_all:∀ {vs:List Value},(∀ v∈vs,∃ n t,v=Value.int n t)→∃ ns,IntsAre vs ns
  | [],_=>⟨[],.nil⟩
  | v :: r,h=>by
    obtain ⟨n,t,rfl⟩:=h v List.mem_cons_self
    obtain ⟨ns,hn⟩:=ints_all fun v hv=>h v (List.mem_cons_of_mem _ hv)
    exact ⟨n :: ns,.cons n t hn⟩
theorem ints_mem {vs:List Value} {ns:List Int} (h:IntsAre vs ns) {k:Int} {t:Tok} (hm:Value.int k t∈vs):k∈ns:=by
  obtain ⟨i,hi⟩:=List.getElem?_of_mem hm
  obtain ⟨n,t',e,hn⟩:=h.at i _ hi
  cases e
  exact List.mem_of_getElem? hn
theorem perm_of_sub:∀ {ks ns:List Int},ks.Nodup→(∀ k∈ks,k∈ns)→ns.length=ks.length→ns.Perm ks
  | [],ns,_,_,hl=>by
    have:ns=[]:=List.length_eq_zero_iff.mp hl
    subst this
    exact List.Perm.refl _
  | k :: ks,ns,hn,hs,hl=>by
    have hk:=hs k List.mem_cons_self
    have hp:=List.perm_cons_erase hk
    obtain ⟨hn1,hn2⟩:=List.nodup_cons.mp hn
    refine hp.trans ((perm_of_sub hn2 (fun z hz=>?_) ?_).cons k)
    · exact (List.mem_erase_of_ne (fun (e:z=k)=>hn1 (by rw [← e]; exact hz))).mpr (hs z (List.mem_cons_of_mem _ hz))
    · rw [List.length_erase_of_mem hk,hl]
      simp
theorem good_perm {es:Array (Int × Value)} {ks:List Int} (hel:ElemsOf (intKind prog w) es.toList) (hmem:∀ k:Int,(ks.any (· == k))=true ↔ ∃ e∈es.toList,(intKind prog w).is k e.2=true) (hn:es.size=ks.length) (hnd:ks.Nodup) {vs:List Value} (hp:vs.Perm (es.toList.map fun e=>e.2)) :
    ∃ ns,IntsAre vs ns∧ns.Perm ks:=by
  obtain ⟨ns,h1⟩:=ints_all (vs:=vs) fun v hv=>by
    obtain ⟨e,he,rfl⟩:=List.mem_map.mp (hp.mem_iff.mp hv)
    obtain ⟨⟨k,hk,_⟩,_⟩:=hel e he
    obtain ⟨t,e2⟩:=Value.isInt_shape (k:=k) (v:=e.2) hk
    exact ⟨k,t,e2⟩
  refine ⟨ns,h1,perm_of_sub hnd (fun k hk=>?_) ?_⟩
  · obtain ⟨e,he,hi⟩:=(hmem k).mp (List.any_eq_true.mpr ⟨k,hk,by simp⟩)
    obtain ⟨t,e2⟩:=Value.isInt_shape (k:=k) (v:=e.2) hi
    refine ints_mem h1 (k:=k) (t:=t) (hp.mem_iff.mpr ?_)
    rw [← e2]
    exact List.mem_map.mpr ⟨e,he,rfl⟩
  · rw [← h1.length,hp.length_eq,List.length_map,Array.length_toList,hn]
theorem sorted_set {S:Addr} {ks:List Int} {Q:Value→Shared→Prop} (hh:A.handled=none) (hI:IntSet prog w (!w.params.followText "set-order") s.heap S ks) (hnd:ks.Nodup) (h64:ks.length < 64)
    (h:∀ (s':Shared) (L:Addr) (out:List Value) (ms:List Int) (e:Nat),IntsAre out ms→ms.Perm ks→ms.Pairwise (·≤·)→(∀ b o,s.heap.get? b=some o→s'.heap.get? b=some o)→s.heap.objs.size≤L→s'.heap.get? L=some (seqObj "list" out.toArray e)→s'.gens=s.gens→s'.os=s.os→Q (.ref L) s') :
    wpAny (model prog w) A (call (.builtin "sorted") [.ref S]) Q E s:=by
  obtain ⟨⟨o,es,ep,t,ho,hex,hd,hel,hmem,hb,hf,hn⟩,o',es',ep',t',ho',hd',hi⟩:=hI
  rw [ho] at ho'
  cases ho'
  rw [hd] at hd'
  cases hd'
  have hSlt:=Heap.lt_size ho
  have hz:es.size≤sizeLine:=by rw [hn,sizeLine_eq]; omega
  have hps:∀ {vs:List Value},vs.Perm (es.toList.map fun e=>e.2)→∃ ns,IntsAre vs ns∧ns.Perm ks:=fun hp=>good_perm hel hmem hn hnd hp
  refine Calls.call_function_entry kind_sorted plain_sorted entry_sorted (args_sorted1 _) ?_
  unfold Builtin.«sorted»
  refine wpAny_bind (m:=checkCount "sorted" 1 1 _) (wpAny_pure ?_)
  refine wpAny_bind (collect_set (Good:=fun vs => ∃ ns,IntsAre vs ns∧ns.Perm ks) ⟨o,ho,hex.1⟩ (fun s₁ K E e₁ hK=>?_) fun vs s' hg hk hsz hgens hos=>?_)
  · subst e₁
    have ho1:(s.heap.push { cls:=.type "list",data:=.seq ([]:List Value).toArray }).get? S=some o:=Heap.get?_push_of_some _ ho
    have hsz1:(s.heap.push { cls:=.type "list",data:=.seq ([]:List Value).toArray }).objs.size=s.heap.objs.size + 1:=Heap.size_push _ _
    refine iter_set ho1 hex.1 hd hf (fun hdr=>?_) (fun hdr ys d hy=>?_) hz
    · have hit:SitF ((s.heap.push { cls:=.type "list",data:=.seq ([]:List Value).toArray }).push (sitO (rawInt 0) S es.size ep)) (s.heap.push { cls:=.type "list",data:=.seq ([]:List Value).toArray }).objs.size S (rawInt ((0:Nat):Int)) ((0:Nat):Int) es.size ep:=⟨_,Heap.get?_push_size _ rfl,rfl,rfl⟩
      have hne:S≠(s.heap.push { cls:=.type "list",data:=.seq ([]:List Value).toArray }).objs.size:=by rw [hsz1]; exact Nat.ne_of_lt (Nat.lt_succ_of_lt hSlt)
      have c1:s.heap.objs.size ∉ [(s.heap.push { cls:=.type "list",data:=.seq ([]:List Value).toArray }).objs.size,S]:=by
        rw [hsz1]
        intro z
        rcases List.mem_cons.mp z with z | z
        · exact absurd z (Nat.ne_of_lt (Nat.lt_succ_self _))
        · exact absurd (List.mem_singleton.mp z) (Nat.ne_of_gt hSlt)
      have c2:∀ b∈[(s.heap.push { cls:=.type "list",data:=.seq ([]:List Value).toArray }).objs.size],s.heap.objs.size < b:=fun b hb=>by
        rw [List.mem_singleton.mp hb,hsz1]
        exact Nat.lt_succ_self _
      cases hw:w.params.followText "set-order" with
      | true =>
        refine hK _ _ _ _ _ _ _ (walks_text (A:=A.in1.in1) hh hne hd hf hw) ⟨hit,Heap.get?_push_of_some _ ho1⟩ c1 c2 (fun b o e=>Heap.get?_push_of_some _ e) rfl rfl hz fun acc hacc=>?_
        have hpp:=pick_perm (w.params.setOrder S ep) es.size 0 es.toList #[] (by simp)
        have hpl:(pickOrder (w.params.setOrder S ep) es).toList.Perm es.toList:=by simpa [pickOrder] using hpp
        rw [items_eq (by rw [List.length_map,hpl.length_eq,Array.length_toList]) hacc]
        exact hps (hpl.map _)
      | false =>
        have hl:t.led=true:=by rw [hi.led_,hw]; rfl
        rw [hw] at hdr
        refine hK _ _ _ _ _ _ _ (walks_led (A:=A.in1.in1) hh hne hd hf hl hw (by simpa using hdr) hi.rise) ⟨⟨0,below_zero hi.rise,hit⟩,Heap.get?_push_of_some _ ho1⟩ c1 c2 (fun b o e=>Heap.get?_push_of_some _ e) rfl rfl hz fun acc hacc=>?_
        rw [items_eq (by simp) hacc]
        exact hps (List.Perm.refl _)
    · rw [hsz1]
      generalize hh1:s.heap.push { cls:=.type "list",data:=.seq ([]:List Value).toArray }=h1 at *
      have hsz2:(h1.push { cls:=.type "tuple",data:=.seq (ys.map fun (i:Nat)=>rawInt i).toArray }).objs.size=s.heap.objs.size + 1 + 1:=by rw [Heap.size_push,hsz1]
      have g1:((h1.push { cls:=.type "tuple",data:=.seq (ys.map fun (i:Nat)=>rawInt i).toArray }).push (sitO (.ref (s.heap.objs.size + 1)) S es.size ep)).get? (s.heap.objs.size + 1 + 1)=some (sitO (.ref (s.heap.objs.size + 1)) S es.size ep):=by
        rw [← hsz2]
        exact Heap.get?_push_size _ rfl
      have g2:((h1.push { cls:=.type "tuple",data:=.seq (ys.map fun (i:Nat)=>rawInt i).toArray }).push (sitO (.ref (s.heap.objs.size + 1)) S es.size ep)).get? (s.heap.objs.size + 1)=some { cls:=.type "tuple",data:=.seq (ys.map fun (i:Nat)=>rawInt i).toArray }:=by
        refine Heap.get?_push_of_some _ ?_
        rw [← hsz1]
        exact Heap.get?_push_size _ rfl
      refine hK (s.heap.objs.size + 1 + 1) _ _ _ _ _ _ (walks_drawn (A:=A.in1.in1) (it:=s.heap.objs.size + 1 + 1) (tp:=s.heap.objs.size + 1) hh (Nat.ne_of_lt (Nat.lt_succ_of_lt (Nat.lt_succ_of_lt hSlt))) (Nat.ne_of_lt (Nat.lt_succ_self _)) hd hf hy rfl) ⟨⟨_,g1,rfl,rfl⟩,Heap.get?_push_of_some _ (Heap.get?_push_of_some _ ho1),g2⟩ (fun z=>by
        rcases List.mem_cons.mp z with z | z
        · exact absurd z (Nat.ne_of_lt (Nat.lt_succ_of_lt (Nat.lt_succ_self _)))
        rcases List.mem_cons.mp z with z | z
        · exact absurd z (Nat.ne_of_gt hSlt)
        · exact absurd (List.mem_singleton.mp z) (Nat.ne_of_lt (Nat.lt_succ_self _))) (fun b hb=>by rw [List.mem_singleton.mp hb]; exact Nat.lt_succ_of_lt (Nat.lt_succ_self _)) (fun b o e=>Heap.get?_push_of_some _ (Heap.get?_push_of_some _ e)) rfl rfl hz fun acc hacc=>?_
      have hyl:ys.length=es.size:=by rw [hy.length_eq]; simp
      rw [items_eq (by simp [hyl]) hacc]
      refine hps ((hy.map _).trans ?_)
      have:(List.range es.size).map (fun j=>(es.getD j (0,.none)).2)=es.toList.map fun e=>e.2:=by
        refine List.ext_getElem (by simp) fun i z1 z2=>?_
        have hi:i < es.size:=by simpa using z1
        simp [Array.getD,hi]
      rw [this]
  · obtain ⟨ns,hns,hpm⟩:=hg
    have hvl:vs.length < 64:=by rw [hns.length,hpm.length_eq]; exact h64
    refine wpAny_bind (wpAny_newList ?_)
    have hoL:(s'.heap.push (seqObj "list" vs.toArray 0)).get? s'.heap.objs.size=some (seqObj "list" vs.toArray 0):=Heap.get?_push_size _ rfl
    refine wpAny_bind (wpAny_holding (wpAny_call_entry slot_list_sort ⟨_,hoL,rfl⟩ entry_list_sort (list_sort_tree hoL hns hvl fun out ms a1 a2 a3=>⟨_,rfl,?_⟩) (args_list_sort _)))
    obtain ⟨e,he⟩:=sortedHeap_at (out:=out) (vs:=vs) hoL
    refine wpAny_pure ⟨_,rfl,h _ s'.heap.objs.size out.toList ms e a1 (a2.trans hpm) a3 (fun b o eb=>?_) (Nat.le_of_lt hsz) (by rw [Array.toArray_toList]; exact he) hgens hos⟩
    have eb':=hk b o eb
    have hlt:=Heap.lt_size eb'
    rw [sortedHeap_old (Nat.ne_of_lt hlt) (by rw [size_push']; exact Nat.lt_succ_of_lt hlt)]
    exact Heap.get?_push_of_some _ eb'
end
end L2
namespace L2
open PySem PySem.Spec PyProof.Rows
theorem Inv.like {X:Cx} {pins:List (Addr × Obj)} {σ:St} {H:Hp} {s s':Shared} (I:Inv X pins σ H s) (h1:s'.heap=s.heap) (h2:s'.gens=s.gens) (h3:s'.os=s.os):Inv X pins σ H s':=by
  obtain ⟨hp,gs,dr,tk,os⟩:=s'
  have e1:hp=s.heap:=h1
  have e2:gs=s.gens:=h2
  have e3:os=s.os:=h3
  subst e1 e2 e3
  exact ⟨I.ok,I.os,I.bare,I.base,I.loc,I.cell,I.free,I.freeC,I.pin,I.hok,I.len⟩
theorem ints_back:∀ {ns:List Int} {its:List Value},Vals (ns.map V.int) its→IntsAre its ns
  | [],_,.nil=>.nil
  | n :: r,_,.cons h t=>by
    obtain ⟨tk,rfl⟩:=h
    exact .cons n tk (ints_back t)
theorem ints_vals:∀ {ns:List Int} {its:List Value},IntsAre its ns→Vals (ns.map V.int) its
  | _,_,.nil=>.nil
  | _,_,.cons n tk t=>.cons ⟨tk,rfl⟩ (ints_vals t)
theorem firstMet_nodup (val:Nat→Int):∀ i,(firstMet val i).Nodup
  | 0=>by rw [firstMet_zero]; exact List.nodup_nil
  | i + 1=>by
    rw [firstMet_succ]
    unfold step_dedup
    have ih:=firstMet_nodup val i
    split
    · exact ih
    · rename_i hn
      rw [List.nodup_append]
      refine ⟨ih,by simp,fun a ha b hb=>?_⟩
      have hb':b=val i:=by simpa using hb
      subst hb'
      intro e
      subst e
      exact hn (List.any_eq_true.mpr ⟨_,ha,by simp⟩)
theorem firstMet_mem {ns:List Int} {k:Int}:k∈firstMet (fun i=>ns.getD i 0) ns.length ↔ k∈ns:=by
  have h:=firstMet_any (fun i=>ns.getD i 0) ns.length k
  have e:(List.range ns.length).map (fun i=>ns.getD i 0)=ns:=by
    refine List.ext_getElem (by simp) fun i h1 h2=>?_
    simp [List.getD,h2]
  rw [e] at h
  have h1:∀ l:List Int,(l.any (· == k))=true ↔ k∈l:=fun l=>by simp [List.any_eq_true]
  rw [← h1,← h1,h]
theorem rise_strict:∀ {ms:List Int},ms.Pairwise (·≤·)→ms.Nodup→ms.Pairwise (· < ·)
  | [],_,_=>.nil
  | m :: r,h1,h2=>by
    obtain ⟨a1,a2⟩:=List.pairwise_cons.mp h1
    obtain ⟨b1,b2⟩:=List.nodup_cons.mp h2
    refine List.pairwise_cons.mpr ⟨fun z hz=>?_,rise_strict a2 b2⟩
    have h3:=a1 z hz
    have h4:m≠z:=fun e=>b1 (e ▸ hz)
    omega
def tSortSet (K:PySem.W.Frag) (t:TE):TE:=fun σ H Q=>t σ H fun x H1 => ∃ (a:Addr) (ns:List Int),x=.ref a∧SqL K H1 a (ns.map V.int)∧ns.length < 64∧∀ (l:Addr) (ms:List Int) (H':Hp),New H1 l (.lst (ms.map V.int)) H'→ms.Pairwise (· < ·)→(∀ z,z∈ms ↔ z∈ns)→Q (.ref l) H'
theorem pe_sortedSet {X:Cx} {K:PySem.W.Frag} {e:Expr} {t:TE} {p p' pos pos':Pos} (hK:X.K=K) (hc:X.calm=true) (hgl:Gl X "sorted") (hml:X.mg "sorted" = none) (hgr:Gl X "set") (hmr:X.mg "set" = none) (ha:PE X e t)
    (he:starEach [e] X.env=(false,eval e X.env) :: starEach [] X.env:=by rfl):PE X (.Call (.Name "sorted" p) [.Call (.Name "set" p') [e] [] pos'] [] pos) (tSortSet K t):=by
  subst hK
  intro pins s σ H Q I h
  refine wpAny_Call_Name_kw (ld_blt I hgl hml (u:=.builtin "sorted") (by decide +kernel) ?_ (by decide) (by decide))
  refine PyProof.Rows.callWith_builtin1 ?_ rfl rfl
  show wpAny _ _ (spliced ((false,eval _ X.env) :: backTo pos (starEach [] X.env))) _ _ s
  refine Calls.spliced_cons ?_
  refine wpAny_Call_Name_kw (ld_blt I hgr hmr (u:=.type "set") (by decide +kernel) ?_ (by decide) (by decide))
  refine PyProof.Rows.callWith_type1 ?_ he rfl
  rw [he]
  show wpAny _ _ (spliced ((false,eval e X.env) :: backTo pos' (starEach [] X.env))) _ _ s
  refine Calls.spliced_cons (thn (ha pins s σ H _ I h) fun u s1 ⟨x,H1,I1,r1,a,ns,e1,h1,h64,q1⟩=>?_)
  subst e1
  cases r1
  refine Calls.spliced_nil ?_
  obtain ⟨its,rv,pl,hz⟩:=I1.list h1
  have hl:its.length=ns.length:=by rw [← rv.length,List.length_map]
  have hsz:its.toArray.size=ns.length:=by rw [List.size_toArray,hl]
  have hhd:X.A.handled=none:=I1.ok.hd hc
  refine call_set_led (ns:=ns) hhd pl.isList (by simpa using ints_back rv) (by rw [hsz]; show _ < 4096; omega) fun h' tk hS hk=>?_
  rw [hsz] at hS
  have hk':∀ b o,s1.heap.get? b=some o→h'.get? b=some o:=fun b o e=>hk b o (Heap.lt_size e) e
  have hlt:s1.heap.objs.size < h'.objs.size:=by
    obtain ⟨⟨o,es,ep,t,ho,_⟩,_⟩:=hS
    exact Heap.lt_size ho
  refine Calls.spliced_nil ?_
  refine sorted_set (s:={ s1 with heap:=h',toks:=tk }) hhd hS (firstMet_nodup _ _) (Nat.lt_of_le_of_lt (firstMet_length_le _ _) h64) fun s' L out ms ee hi hp hr hk2 hL hgL hg hos=>?_
  have hk3:∀ b o,s1.heap.get? b=some o→s'.heap.get? b=some o:=fun b o e=>hk2 b o (hk' b o e)
  have hml:ms.length≤sizeLine:=by
    rw [hp.length_eq,sizeLine_eq]
    have:=firstMet_length_le (fun i=>ns.getD i 0) ns.length
    omega
  have I2:Inv X pins σ (upd H1 L (.lst (ms.map V.int))) { s1 with heap:=s'.heap,toks:=s'.toks }:=I1.laid (t':=s'.toks) (o:=.lst (ms.map V.int)) hk3 (Nat.le_trans (Nat.le_of_lt hlt) hL) ⟨by rw [List.length_map]; exact hml,out,ee,ints_vals hi,hgL⟩
  refine ⟨.ref L,_,I2.like rfl hg hos,rfl,q1 L ms _ (new_upd (I1.hok.fresh (Nat.le_trans (Nat.le_of_lt hlt) hL))) (rise_strict hr (hp.nodup_iff.mpr (firstMet_nodup _ _))) fun z=>?_⟩
  rw [hp.mem_iff,firstMet_mem]
end L2
namespace L2
open PySem PySem.Spec PyProof.Rows BW
theorem pe_either {X:Cx} {e:Expr} {t1 t2:TE} (h1:PE X e t1) (h2:PE X e t2):PE X e (fun σ H Q=>t1 σ H Q∨t2 σ H Q):=by
  intro pins s σ H Q I h
  rcases h with h | h
  · exact h1 pins s σ H Q I h
  · exact h2 pins s σ H Q I h
def IsRise (ms ns:List Int):Prop:=ms.Pairwise (· < ·)∧∀ z,z∈ms ↔ z∈ns
structure AimCls (K:PySem.W.Frag) (mg:Str→Option Value) (C:Addr) (x:Str):Prop where
  mgC:mg x=some (.ref C)
  cl:Cls K C
  mks:PySem.W.makesIn K C=true
  kp:PySem.W.keepIn K (.ref C)=true
  nH:NoAttr K C "house"
  nW:NoAttr K C "way"
structure ACls (K:PySem.W.Frag) (C:Addr):Prop where
  cl:Cls K C
  nH:NoAttr K C "house"
  nW:NoAttr K C "way"
theorem AimCls.a {K:PySem.W.Frag} {mg:Str→Option Value} {C:Addr} {x:Str} (h:AimCls K mg C x):ACls K C:=⟨h.cl,h.nH,h.nW⟩
def aflds (h w:Addr):List (Str × V):=putF "way" (.ref w) (putF "house" (.ref h) [])
theorem as1:¬ (("house" : Str)="way"):=by decide +kernel
theorem af_house (h w:Addr):(aflds h w).lookup ("house" : Str)=some (.ref h):=by
  unfold aflds
  rw [lookup_putF,if_neg as1,lookup_putF,if_pos rfl]
theorem af_way (h w:Addr):(aflds h w).lookup ("way" : Str)=some (.ref w):=by
  unfold aflds
  rw [lookup_putF,if_pos rfl]
theorem af_no (h w:Addr) {m:Str} (h1:¬ m="way") (h2:¬ m="house"):(aflds h w).lookup m=none:=by
  unfold aflds
  rw [lookup_putF,if_neg h1,lookup_putF,if_neg h2]
  rfl
structure AimAt (CH C:Addr) (H:Hp) (p:Addr) (beds:List Int) (worths:List (List Int)) (rent:Int) (way:List Nat):Prop where
  ex:∃ dx hp wa,H p=some (.ins C dx (aflds hp wa))∧HouseAt CH H hp beds worths rent∧H wa=some (.lst ((wI way).map V.int))
theorem AimAt.same {CH C:Addr} {H H':Hp} {p:Addr} {beds:List Int} {worths:List (List Int)} {rent:Int} {way:List Nat} (h:AimAt CH C H p beds worths rent way) (s:Same H H'):AimAt CH C H' p beds worths rent way:=by
  obtain ⟨dx,hp,wa,h1,h2,h3⟩:=h.ex
  exact ⟨dx,hp,wa,s _ _ h1,h2.same s,s _ _ h3⟩
theorem AimAt.sameB {CH C:Addr} {H H':Hp} {p:Addr} {beds:List Int} {worths:List (List Int)} {rent:Int} {way:List Nat} (h:AimAt CH C H p beds worths rent way) (s:SameB H H'):AimAt CH C H' p beds worths rent way:=by
  obtain ⟨dx,hp,wa,h1,h2,h3⟩:=h.ex
  exact ⟨dx,hp,wa,s.to _ _ h1 rfl,h2.sameB s,s.to _ _ h3 rfl⟩
structure AimOk (beds:List Int) (worths:List (List Int)) (way:List Nat):Prop where
  bok:BestOk beds worths
  len:way.length=worths.length
  lt:∀ r∈way,r < beds.length
theorem AimOk.at_ {beds:List Int} {worths:List (List Int)} {way:List Nat} (h:AimOk beds worths way) {i:Nat} (hi:i < worths.length):way[i]? = some (way.getD i 0)∧way.getD i 0 < beds.length:=by
  have hi':i < way.length:=by rw [h.len]; exact hi
  have e:way.getD i 0=way[i]:=by simp [List.getD,hi']
  rw [e]
  exact ⟨by simp [hi'],h.lt _ (List.getElem_mem hi')⟩
def ownF (worths:List (List Int)) (way:List Nat) (i:Nat):Int:=wF worths i (way.getD i 0)
def gainF (wo:Bool) (worths:List (List Int)) (way:List Nat) (a r b:Nat):Int:=wF worths (if wo then b else a) r - ownF worths way a
def thruL (wo:Bool) (beds:List Int) (way:List Nat) (a b:Nat):List Int:=openL beds (wI way) ++ [((way.getD (if wo then a else b) 0:Nat):Int)]
def sp_ainit (CH C:Addr):Sp:=fun vs H Q _ => ∃ (p dx hp wa:Addr) (beds:List Int) (worths:List (List Int)) (rent:Int) (way:List Nat),vs=[.ref p,.ref hp,.ref wa]∧H p=some (.ins C dx [])∧HouseAt CH H hp beds worths rent∧H wa=some (.lst ((wI way).map V.int)) ∧
  ∀ (l:Addr) (H':Hp),H l=none→H' p=some (.ins C dx (aflds hp l))→H' l=some (.lst ((wI way).map V.int))→(∀ c o,H c=some o→c≠p→H' c=some o)→Q .non H'
def sp_withopen (K:PySem.W.Frag) (CH:Addr):Sp:=fun vs H Q _ => ∃ (C p:Addr) (beds:List Int) (worths:List (List Int)) (rent:Int) (way:List Nat) (r:Nat),vs=[.ref p,.int (r:Int)]∧ACls K C∧AimAt CH C H p beds worths rent way∧AimOk beds worths way ∧
  ∀ (l:Addr) (ms:List Int) (H':Hp),Same H H'→H l=none→H' l=some (.lst (ms.map V.int))→IsRise ms (openL beds (wI way) ++ [(r:Int)])→Q (.ref l) H'
def sp_ownworth (K:PySem.W.Frag) (CH:Addr):Sp:=fun vs H Q _ => ∃ (C p:Addr) (beds:List Int) (worths:List (List Int)) (rent:Int) (way:List Nat) (i:Nat),vs=[.ref p,.int (i:Int)]∧ACls K C∧AimAt CH C H p beds worths rent way∧AimOk beds worths way∧i < worths.length∧Q (.int (ownF worths way i)) H
def sp_through (wo:Bool) (CH C:Addr):Sp:=fun vs H Q _ => ∃ (p:Addr) (beds:List Int) (worths:List (List Int)) (rent:Int) (way:List Nat) (a b:Nat),vs=[.ref p,.int (a:Int),.int (b:Int)]∧AimAt CH C H p beds worths rent way∧AimOk beds worths way∧a < worths.length∧b < worths.length ∧
  ∀ (l:Addr) (ms:List Int) (H':Hp),Same H H'→H l=none→H' l=some (.lst (ms.map V.int))→IsRise ms (thruL wo beds way a b)→Q (.ref l) H'
def sp_gain (wo:Bool) (CH C:Addr):Sp:=fun vs H Q _ => ∃ (p:Addr) (beds:List Int) (worths:List (List Int)) (rent:Int) (way:List Nat) (a r b:Nat),vs=[.ref p,.int (a:Int),.int (r:Int),.int (b:Int)]∧AimAt CH C H p beds worths rent way∧AimOk beds worths way∧a < worths.length∧r < beds.length∧b < worths.length∧Q (.int (gainF wo worths way a r b)) H
def sp_whole_ (wo:Bool) (CH C:Addr):Sp:=fun vs H Q _ => ∃ (p:Addr) (beds:List Int) (worths:List (List Int)) (rent:Int) (way:List Nat),vs=[.ref p]∧AimAt CH C H p beds worths rent way∧AimOk beds worths way∧∀ H',Same H H'→Q (.int (if wo then wsum (wF worths) way - rent else rent)) H'
def sp_price (wo:Bool) (CH C:Addr):Sp:=fun vs H Q _ => ∃ (p:Addr) (beds:List Int) (worths:List (List Int)) (rent:Int) (way:List Nat) (i:Nat) (level parts:Int),vs=[.ref p,.int (i:Int),.int level,.int parts]∧AimAt CH C H p beds worths rent way∧AimOk beds worths way∧i < worths.length∧(∀ row∈worths,∀ x∈row,-(10 ^ 42) < x∧x < 10 ^ 42)∧(-(10 ^ 200) < parts∧parts < 10 ^ 200) ∧
  Q (.int (if wo then parts * ownF worths way i - level else level)) H
theorem worthL_wsum {worths:List (List Int)} {way:List Nat} (h:way.length=worths.length):worthL worths (wI way)=wsum (wF worths) way:=by
  unfold worthL wsum
  rw [h]
  congr 1
  refine List.map_congr_left fun i hi=>?_
  have hi:=List.mem_range.mp hi
  simp [wI,wF,List.getD,h,hi]
end L2
namespace L2
open PySem PySem.Spec PyProof.Rows BW
def wordS (wo:Bool):Str:=if wo then "worst" else "even"
theorem dec_word (wo:Bool):decide (V.str (wordS wo)=V.str "worst")=wo:=by
  cases wo
  · exact decide_eq_false (by intro e; injection e with e; revert e; decide +kernel)
  · exact decide_eq_true rfl
def CC (CW CE:Addr) (wo:Bool):Addr:=if wo then CW else CE
theorem thru_lt {wo:Bool} {beds:List Int} {worths:List (List Int)} {way:List Nat} {a b:Nat} (ok:AimOk beds worths way) (ha:a < worths.length) (hb:b < worths.length) {ms:List Int} (h:IsRise ms (thruL wo beds way a b)):∀ z∈ms,∃ r:Nat,z=(r:Int)∧r < beds.length:=fun z hz=>by
  rcases List.mem_append.mp ((h.2 z).mp hz) with e | e
  · obtain ⟨r,hr,hlt,_⟩:=mem_open.mp e
    exact ⟨r,hr,hlt⟩
  · have e':z=((way.getD (if wo then a else b) 0:Nat):Int):=by simpa using e
    refine ⟨_,e',?_⟩
    cases wo
    · exact (ok.at_ hb).2
    · exact (ok.at_ ha).2
section
variable {CH CW CE p:Addr} {wo:Bool} {beds:List Int} {worths:List (List Int)} {rent:Int} {way:List Nat} {σ:St} {H:Hp} {Q:VK} {ta:TE} {t:TA}
theorem thru_go {a b:Nat} (hA:AimAt CH (CC CW CE wo) H p beds worths rent way) (ok:AimOk beds worths way) (ha:a < worths.length) (hb:b < worths.length) (h0:∀ K:VK,K (.ref p) H→ta σ H K) (ht:∀ K:List V→Hp→Prop,K [.int (a:Int),.int (b:Int)] H→t σ H K)
    (k:∀ (l:Addr) (ms:List Int) (H':Hp),Same H H'→H l=none→H' l=some (.lst (ms.map V.int))→IsRise ms (thruL wo beds way a b)→Q (.ref l) H') :
    tMeth CW "through" (sp_through true CH CW) [] E0 ta t σ H Q∨tMeth CE "through" (sp_through false CH CE) [] E0 ta t σ H Q:=by
  obtain ⟨dx,hp,wa,g1,g2,g3⟩:=hA.ex
  cases wo with
  | true=>exact .inl (h0 _ ⟨p,dx,_,rfl,g1,af_no _ _ (by decide +kernel) (by decide +kernel),ht _ ⟨p,beds,worths,rent,way,a,b,rfl,hA,ok,ha,hb,k⟩⟩)
  | false=>exact .inr (h0 _ ⟨p,dx,_,rfl,g1,af_no _ _ (by decide +kernel) (by decide +kernel),ht _ ⟨p,beds,worths,rent,way,a,b,rfl,hA,ok,ha,hb,k⟩⟩)
theorem gain_go {a r b:Nat} (hA:AimAt CH (CC CW CE wo) H p beds worths rent way) (ok:AimOk beds worths way) (ha:a < worths.length) (hr:r < beds.length) (hb:b < worths.length) (h0:∀ K:VK,K (.ref p) H→ta σ H K) (ht:∀ K:List V→Hp→Prop,K [.int (a:Int),.int (r:Int),.int (b:Int)] H→t σ H K)
    (k:Q (.int (gainF wo worths way a r b)) H) :
    tMeth CW "gain" (sp_gain true CH CW) [] E0 ta t σ H Q∨tMeth CE "gain" (sp_gain false CH CE) [] E0 ta t σ H Q:=by
  obtain ⟨dx,hp,wa,g1,g2,g3⟩:=hA.ex
  cases wo with
  | true=>exact .inl (h0 _ ⟨p,dx,_,rfl,g1,af_no _ _ (by decide +kernel) (by decide +kernel),ht _ ⟨p,beds,worths,rent,way,a,r,b,rfl,hA,ok,ha,hr,hb,k⟩⟩)
  | false=>exact .inr (h0 _ ⟨p,dx,_,rfl,g1,af_no _ _ (by decide +kernel) (by decide +kernel),ht _ ⟨p,beds,worths,rent,way,a,r,b,rfl,hA,ok,ha,hr,hb,k⟩⟩)
theorem whole_go (hA:AimAt CH (CC CW CE wo) H p beds worths rent way) (ok:AimOk beds worths way) (h0:∀ K:VK,K (.ref p) H→ta σ H K)
    (k:∀ H',Same H H'→Q (.int (if wo then wsum (wF worths) way - rent else rent)) H') :
    tMeth CW "whole" (sp_whole_ true CH CW) [] E0 ta tNil σ H Q∨tMeth CE "whole" (sp_whole_ false CH CE) [] E0 ta tNil σ H Q:=by
  obtain ⟨dx,hp,wa,g1,g2,g3⟩:=hA.ex
  cases wo with
  | true=>exact .inl (h0 _ ⟨p,dx,_,rfl,g1,af_no _ _ (by decide +kernel) (by decide +kernel),p,beds,worths,rent,way,rfl,hA,ok,k⟩)
  | false=>exact .inr (h0 _ ⟨p,dx,_,rfl,g1,af_no _ _ (by decide +kernel) (by decide +kernel),p,beds,worths,rent,way,rfl,hA,ok,k⟩)
theorem price_go {i:Nat} {level parts:Int} (hA:AimAt CH (CC CW CE wo) H p beds worths rent way) (ok:AimOk beds worths way) (hi:i < worths.length) (hx:∀ row∈worths,∀ x∈row,-(10 ^ 42) < x∧x < 10 ^ 42) (hp:-(10 ^ 200) < parts∧parts < 10 ^ 200) (h0:∀ K:VK,K (.ref p) H→ta σ H K) (ht:∀ K:List V→Hp→Prop,K [.int (i:Int),.int level,.int parts] H→t σ H K)
    (k:Q (.int (if wo then parts * ownF worths way i - level else level)) H) :
    tMeth CW "price" (sp_price true CH CW) [] E0 ta t σ H Q∨tMeth CE "price" (sp_price false CH CE) [] E0 ta t σ H Q:=by
  obtain ⟨dx,hp',wa,g1,g2,g3⟩:=hA.ex
  cases wo with
  | true=>exact .inl (h0 _ ⟨p,dx,_,rfl,g1,af_no _ _ (by decide +kernel) (by decide +kernel),ht _ ⟨p,beds,worths,rent,way,i,level,parts,rfl,hA,ok,hi,hx,hp,k⟩⟩)
  | false=>exact .inr (h0 _ ⟨p,dx,_,rfl,g1,af_no _ _ (by decide +kernel) (by decide +kernel),ht _ ⟨p,beds,worths,rent,way,i,level,parts,rfl,hA,ok,hi,hx,hp,k⟩⟩)
end
end L2
namespace L2
open PySem PySem.Spec PyProof.Rows BW
section
variable {X:Cx} {pins:List (Addr × Obj)} {σ:St} {H:Hp} {s:Shared} {c P:Addr} {scope:Scope} {params:Arguments} {body:Expr} {lpos:Pos}
theorem lam_make2 {Q:Value→Shared→Prop} {E:Value→Shared→Prop} (J:Inv X pins σ H s) (ok:compOk scope X.env.scope=true) (hcode:X.env.code=.ref c) (C:PySem.W.codeHdIn X.K c P=true) (BA:X.base.BuiltinsAt X.mg P) (hdef:defaultsOf params X.env=([],[]))
    (hT:LamAt H P lpos (X.env.qual ++ "<lambda>"))
    (hQ:∀ f c' pm ctv H' s',Inv X (pins ++ [(f,PySem.W.kla_obj "<lambda>" (X.env.qual ++ "<lambda>") params body scope (clOf X.env.cells scope.names []) pm c' ctv)]) σ H' s'→(∃ oc vs t,H' c'=some (.frz oc (.own 0))∧oc.data=.fields vs∧vs[1]? = some (.str (X.env.qual ++ "<lambda>") t)) →
      SameB H H'→(∀ b o,H b=some o→b≠P→H' b=some o)→LamAt H' P lpos (X.env.qual ++ "<lambda>")→Q (.ref f) s') :
    wpAny (model X.prog X.w) X.A (eval (.Lambda params body scope lpos) X.env) Q E s:=by
  refine PySem.W.kla_eval hdef ?_
  have CH:PySem.W.CodeHd s.heap c P:=PySem.W.codeHd_of_K J.kIn C
  have hcl:closureFor scope X.env=pure (clOf X.env.cells scope.names []):=closureFor_clOf (comp_cells J ok)
  have hgs:s.heap.Ns mainGlobals X.mg:=J.mod.glob.keeps J.bk
  have hgP:mainGlobals≠P:=fun z=>by
    obtain ⟨o,es,ep,e,_⟩:=J.mod.glob
    have:=(J.bs _ _ e).2
    rw [z] at this
    rcases hT with h | ⟨_,_,_,_,h,_⟩ <;> rw [this] at h <;> cases h
  have BS:s.heap.BuiltinsAt X.mg P:=by
    obtain ⟨bm,o,b1,b2,b3,b4,b5,b6⟩:=BA
    exact ⟨bm,o,b1,b2,b3,b4,J.bk _ _ b5,b6⟩
  rcases hT with hT | ⟨c',oc,vs,t,hT,hc',hd,hv⟩
  · have hP:s.heap.get? P=some (PySem.W.tabObj #[]):=J.hok P _ hT
    refine PySem.W.kla_makeFunction (mg:=X.mg) hcl J.ok.glob hgs hcode CH hP trivial rfl hgP BS fun c' ctv h' tk hx hge hlt hrec htb=>?_
    obtain ⟨c2,oc,vs,t,e2,hoc,hd,hv⟩:=hrec
    cases e2
    have hPlt:P < s.heap.objs.size:=Heap.lt_size hP
    have nPc:P≠c':=Nat.ne_of_lt (Nat.lt_of_lt_of_le hPlt hge)
    have lt':∀ b o,s.heap.get? b=some o→b≠c':=fun b o e=>Nat.ne_of_lt (Nat.lt_of_lt_of_le (Heap.lt_size e) hge)
    have hfc:H c'=none:=J.hok.fresh hge
    have eP:upd (upd H P (.tbl (#[] ++ #[rawInt lpos.line,rawInt lpos.col,.ref c']))) c' (.frz oc (.own 0)) P=some (.tbl #[rawInt lpos.line,rawInt lpos.col,.ref c']):=by
      rw [upd_ne nPc,upd_same]; rfl
    have eo:∀ b,b≠P→b≠c'→upd (upd H P (.tbl (#[] ++ #[rawInt lpos.line,rawInt lpos.col,.ref c']))) c' (.frz oc (.own 0)) b=H b:=fun b h1 h2=>by rw [upd_ne h2,upd_ne h1]
    have hk:∀ b o,b≠P→s.heap.get? b=some o→(h'.push (PySem.W.kla_obj "<lambda>" (X.env.qual ++ "<lambda>") params body scope (clOf X.env.cells scope.names []) ((X.mg "__name__").getD .none) c' ctv)).get? b=some o:=fun b o hb e=>Heap.get?_push_of_some _ (hx b o hb e)
    have keepH:∀ b u,H b=some u→b≠P→upd (upd H P (.tbl (#[] ++ #[rawInt lpos.line,rawInt lpos.col,.ref c']))) c' (.frz oc (.own 0)) b=some u:=fun b u e h1=>by
      rw [eo b h1 (ne_of_none e hfc)]; exact e
    have J1:Inv X pins σ (upd (upd H P (.tbl (#[] ++ #[rawInt lpos.line,rawInt lpos.col,.ref c']))) c' (.frz oc (.own 0))) { s with heap:=h'.push (PySem.W.kla_obj "<lambda>" (X.env.qual ++ "<lambda>") params body scope (clOf X.env.cells scope.names []) ((X.mg "__name__").getD .none) c' ctv),toks:=tk }:=by
      refine J.un ⟨fun b o e n _ _=>hk b o (fun z=>by rw [z,hT] at n; cases n) e,fun b o e n _ _=>⟨o.slots,hk b o (fun z=>by rw [z,hT] at n; cases n) e⟩,fun b o e n _=>?_,fun b o e _=>?_,fun b xs e=>?_,fun b o u e=>?_,fun b ps e=>?_⟩ fun b u e=>?_
      · rw [eo b (fun z=>by rw [z,hT] at n; cases n) (lt' b o e)]
        exact n
      · by_cases hb:b=P
        · subst hb
          exact ⟨_,Heap.get?_push_of_some _ htb⟩
        · exact ⟨o,hk b o hb e⟩
      · exact keepH b _ e fun z=>by rw [z,hT] at e; cases e
      · exact keepH b _ e fun z=>by rw [z,hT] at e; cases e
      · by_cases hb:b=P
        · subst hb
          rw [hT] at e
          cases e
          exact ⟨_,by rw [upd_ne nPc,upd_same]⟩
        · exact ⟨#[],by rw [keepH b _ e hb]; simp⟩
      · by_cases hb:b=P
        · subst hb
          rw [eP] at e
          cases e
          exact Heap.get?_push_of_some _ htb
        · by_cases hb2:b=c'
          · subst hb2
            rw [upd_same] at e
            cases e
            exact ⟨Heap.get?_push_of_some _ hoc,_,Heap.get?_push_of_some _ hoc⟩
          · rw [eo b hb hb2] at e
            have nP:∀ b' u',H b'=some u'→isTbl u'=false→b'≠P:=fun b' u' e' z w=>by rw [w,hT] at e'; cases e'; cases z
            refine (J.hok b u e).stay (fun b' o' hb' e'=>hk b' o' ?_ e') (fun b' e'=>keepH b' _ e' (nP b' _ e' rfl)) fun b' xs e'=>keepH b' _ e' (nP b' _ e' rfl)
            rcases hb' with rfl | hb'
            · exact hb
            · exact nP b' _ hb' rfl
    have hfr:s.heap.objs.size≤h'.objs.size:=Nat.le_trans hge (Nat.le_of_lt hlt)
    have ff:=J.fpOk (H':=upd (upd H P (.tbl (#[] ++ #[rawInt lpos.line,rawInt lpos.col,.ref c']))) c' (.frz oc (.own 0))) (b:=h'.objs.size) hfr (by
      rw [eo _ (Nat.ne_of_gt (Nat.lt_of_lt_of_le hPlt hfr)) (Nat.ne_of_gt hlt)]
      exact J.hok.fresh hfr)
    refine hQ _ c' ((X.mg "__name__").getD .none) ctv _ _ (J1.pins_of fun p hp=>?_) ⟨oc,vs,t,upd_same,hd,hv⟩ ⟨fun b u e z=>keepH b u e (fun w=>by rw [w,hT] at e; cases e; cases z),fun b e=>by
      by_cases hb:b=P
      · subst hb; rw [eP] at e; cases e
      · by_cases hb2:b=c'
        · subst hb2; exact hfc
        · rw [eo b hb hb2] at e; exact e⟩ keepH (.inr ⟨c',oc,vs,t,eP,upd_same,hd,hv⟩)
    rcases List.mem_append.mp hp with z | z
    · exact J1.pin p (List.mem_append_right _ z)
    · have:p=(h'.objs.size,PySem.W.kla_obj "<lambda>" (X.env.qual ++ "<lambda>") params body scope (clOf X.env.cells scope.names []) ((X.mg "__name__").getD .none) c' ctv):=by simpa using z
      subst this
      exact ⟨Heap.get?_push_size _ rfl,ff.1,ff.2.1,ff.2.2.1,fun v z=>by cases z⟩
  · have hP:s.heap.get? P=some (PySem.W.tabObj #[rawInt lpos.line,rawInt lpos.col,.ref c']):=J.hok P _ hT
    refine PySem.W.kla_makeFunctionHit (cv:=.ref c') (mg:=X.mg) hcl J.ok.glob hgs hcode CH hP trivial (by show (if (((lpos.line:Nat):Int) == lpos.line && ((lpos.col:Nat):Int) == lpos.col)=true then _ else _)=_; simp) BS fun ctv h' tk hk hsz=>?_
    have hk2:∀ b o,s.heap.get? b=some o→(h'.push (PySem.W.kla_obj "<lambda>" (X.env.qual ++ "<lambda>") params body scope (clOf X.env.cells scope.names []) ((X.mg "__name__").getD .none) c' ctv)).get? b=some o:=fun b o e=>Heap.get?_push_of_some _ (hk b o e)
    have J1:=J.kept (t':=tk) hk2
    have ff:=J.fpOk (H':=H) (b:=h'.objs.size) hsz (J.hok.fresh hsz)
    refine hQ _ c' ((X.mg "__name__").getD .none) ctv H _ (J1.pins_of fun p hp=>?_) ⟨oc,vs,t,hc',hd,hv⟩ (SameB.refl _) (fun b o e _=>e) (.inr ⟨c',oc,vs,t,hT,hc',hd,hv⟩)
    rcases List.mem_append.mp hp with z | z
    · exact J1.pin p (List.mem_append_right _ z)
    · have:p=(h'.objs.size,PySem.W.kla_obj "<lambda>" (X.env.qual ++ "<lambda>") params body scope (clOf X.env.cells scope.names []) ((X.mg "__name__").getD .none) c' ctv):=by simpa using z
      subst this
      exact ⟨Heap.get?_push_size _ rfl,ff.1,ff.2.1,ff.2.2.1,fun v z=>by cases z⟩
def tMaxLam2 (K:PySem.W.Frag) (P:Addr) (lpos:Pos) (qual:Str) (ix:List (Option Nat)) (t1:TA) (te:TE):TE:=fun σ H Q=>t1 σ H fun vs H1 => ∃ (a:Addr) (ns:List Int) (kf:Int→Int),vs=[.ref a]∧SqL K H1 a (ns.map V.int)∧0 < ns.length∧LamAt H1 P lpos qual ∧
  (∀ z∈ns,∀ H2,SameB H1 H2→te (some (.int z) :: cSt σ ix) H2 fun y H3=>y=.int (kf z)∧H3=H2)∧∀ z∈ns,(∀ z'∈ns,kf z'≤kf z)→∀ H2,SameB H1 H2→(∀ b o,H1 b=some o→b≠P→H2 b=some o)→LamAt H2 P lpos qual→Q (.int z) H2
theorem pe_maxLam2 {e:Expr} {p pos kpos:Pos} {x:Str} {Nc:List Str} {ix:List (Option Nat)} {t1:TA} {te:TE} (C:PySem.W.codeHdIn X.K c P=true) (BA:X.base.BuiltinsAt X.mg P) (hcode:X.env.code=.ref c) (hc:X.calm=true) (hm:X.mg "max" = none) (hroom:X.A.depth < recursionLimit)
    (he1:PA X [e] t1) (he:∀ L f cd s0 H0,PE (lamCx X (X.env.qual ++ "<lambda>") scope L f cd s0 H0 (x :: Nc)) body te)
    (ok:compOk scope X.env.scope=true) (hix:ixOk scope X.N (x :: Nc) (none :: ix)=true) (hx:scope.names.lookup x=some .local) (hco:scope.isCoroutine=false) (hgen:scope.isGenerator=false)
    (hdef:defaultsOf params X.env=([],[])) (hbind:∀ (cl:List (Str × Addr)) (pm cd ctv u:Value),bindArgs (PySem.W.kla_fn "<lambda>" (X.env.qual ++ "<lambda>") params body scope cl pm cd ctv) ⟨[u],[]⟩=pure [(x,u)]) (hg:Gl X "max") (h1:starEach [e] X.env=[(false,eval e X.env)]) :
    PE X (.Call (.Name "max" p) [e] [⟨some "key",.Lambda params body scope lpos,kpos⟩] pos) (tMaxLam2 X.K P lpos (X.env.qual ++ "<lambda>") ix t1 te):=by
  intro pins s σ H Q I h
  refine wpAny_Call_Name_kw (ld_blt I hg hm boot_max' ?_)
  refine PyProof.Rows.callWith_kw ?_ (by rw [h1]; rfl) (by rw [h1]; rfl)
  refine thn (he1 pos pins s σ H _ I h) fun us s1 ⟨vs,H1,I1,r1,a,ns,kf,e1,hS,hne,hL,hk,hQ⟩=>?_
  subst e1
  obtain ⟨u,rfl,ru⟩:=vals1 r1
  cases ru
  show wpAny _ _ (evalAll [(do let v ← eval (.Lambda params body scope lpos) X.env; standAt pos; pure v)]) _ _ s1
  refine wpAny_evalAll_cons (wpAny_bind (lam_make2 I1 ok hcode C BA hdef hL fun f c' pm ctv H2 s2 I2 hrec sb so hL2=>wpAny_bind (wpAny_standAt (wpAny_pure (wpAny_evalAll_nil ?_)))))
  refine max_key kf hc I2 (sb.seq hS) hne (fun z hz t pl s3 hpl I3=>?_) fun z t s3 hz hmax I3=>?_
  · have hpin:=I3.pin _ (List.mem_append_right _ (hpl _ (List.mem_append_right pins List.mem_cons_self)))
    obtain ⟨oc,vs',t',h4,h5,h6⟩:=hrec
    have hcd:s3.heap.CodeRec (.ref c') (X.env.qual ++ "<lambda>"):=⟨c',oc,vs',t',rfl,(I3.hok c' _ h4).1,h5,h6⟩
    exact lam_call I3 hc ok hix hx hco hgen hpin.1 hcd hroom (fun u=>hbind _ _ _ _ u) (v:=.int z) ⟨t,rfl⟩ he (hk z hz H2 sb)
  · exact ⟨.int z,H2,I3.sub fun p hp=>List.mem_append_left _ hp,⟨t,rfl⟩,hQ z hz hmax H2 sb so hL2⟩
end
def SameO (P:Addr) (H H':Hp):Prop:=∀ b o,H b=some o→b≠P→H' b=some o
theorem Same.o {P:Addr} {H H':Hp} (s:Same H H'):SameO P H H':=fun b o e _=>s b o e
theorem SameO.trans {P:Addr} {H H1 H2:Hp} (a:SameO P H H1) (b:SameO P H1 H2):SameO P H H2:=fun c o e h=>b c o (a c o e h) h
theorem LamAt.o {H H':Hp} {P P2:Addr} {pos:Pos} {qual:Str} (h:LamAt H P2 pos qual) (hP:∃ ps,H P=some (.tbl ps)) (hne:P2≠P) (s:SameO P H H'):LamAt H' P2 pos qual:=by
  rcases h with h | ⟨c',oc,vs,t,h1,h2,h3⟩
  · exact .inl (s _ _ h hne)
  · refine .inr ⟨c',oc,vs,t,s _ _ h1 hne,s _ _ h2 ?_,h3⟩
    intro e
    obtain ⟨ps,hp⟩:=hP
    rw [e,hp] at h2
    cases h2
theorem LamAt.tbl {H:Hp} {P:Addr} {pos:Pos} {qual:Str} (h:LamAt H P pos qual):∃ ps,H P=some (.tbl ps):=by
  rcases h with h | ⟨c',oc,vs,t,h1,h2,h3⟩
  · exact ⟨_,h⟩
  · exact ⟨_,h1⟩
def sp_bring2 (K:PySem.W.Frag) (C PT:Addr) (lpos:Pos) (qual:Str):Sp:=fun vs H Q _ => ∃ (p a:Addr) (beds:List Int) (worths:List (List Int)) (rent:Int) (way:List Nat),vs=[.ref p,.ref a]∧HouseAt C H p beds worths rent∧H a=some (.lst ((wI way).map V.int))∧BestOk beds worths∧way.length < worths.length ∧
  (way.length:Int) < beds.sum∧(∀ b∈beds,0≤b)∧Fit (bF beds) way∧Opt beds worths way∧LamAt H PT lpos qual ∧
  ∀ (l:Addr) (way':List Nat) (H':Hp),SameB H H'→SameO PT H H'→H l=none→H' l=some (.lst ((wI way').map V.int))→LamAt H' PT lpos qual→way'.length=way.length + 1→Fit (bF beds) way'→Opt beds worths way'→Q (.ref l) H'
def sp_best2 (K:PySem.W.Frag) (C PT:Addr) (lpos:Pos) (qual:Str):Sp:=fun vs H Q _ => ∃ (p:Addr) (beds:List Int) (worths:List (List Int)) (rent:Int),vs=[.ref p]∧HouseAt C H p beds worths rent∧BestOk beds worths ∧
  (worths.length:Int)≤beds.sum∧(∀ b∈beds,0≤b)∧LamAt H PT lpos qual ∧
  ∀ (l:Addr) (way:List Nat) (H':Hp),SameB H H'→SameO PT H H'→H l=none→H' l=some (.lst ((wI way).map V.int))→LamAt H' PT lpos qual→way.length=worths.length→Fit (bF beds) way→Opt beds worths way→Q (.ref l) H'
end L2
namespace BW
open L2
theorem price_ex {W:Nat→Nat→Int} {B:Nat→Nat} {way:List Nat} {R:Nat} (hB:∀ r,R≤r→B r=0) (hfit:Fit B way) (hopt:∀ v:List Nat,v.length=way.length→Fit B v→wsum W v≤wsum W way) :
    ∃ g:Nat→Int,(∀ p (hp:p < way.length) r,r < R→g way[p] + W p r - W p way[p]≤g r)∧(∀ r,0≤g r)∧∀ e,way.count e < B e→g e≤0:=by
  have hway:∀ r∈way,r < R:=fun r hr=>by
    refine Classical.byContradiction fun z=>?_
    have h1:=hB r (by omega)
    have h2:=hfit r
    have h3:=List.count_pos_iff.mpr hr
    omega
  let W0:Nat→Nat→Int:=fun p r=>if p < way.length then W p r else 0
  have hs:∀ v:List Nat,v.length=way.length→wsum W0 v=wsum W v:=fun v hv=>by
    unfold wsum
    congr 1
    refine List.map_congr_left fun i hi=>?_
    have hi:=List.mem_range.mp hi
    show (if i < way.length then _ else _)=_
    rw [if_pos (by omega)]
  have hopt0:∀ v:List Nat,v.length=way.length→Fit B v→wsum W0 v≤wsum W0 way:=fun v hv hf=>by
    rw [hs v hv,hs way rfl]
    exact hopt v hv hf
  have ok:=turns_ok (W:=W0) (R:=R) hfit hopt0 hway R
  refine ⟨fun r=>(turns W0 way R (first W0 way R) R).1.getD r 0,fun p hp r hr=>?_,fun r=>?_,fun e he=>?_⟩
  · have:=turns_fix (W:=W0) (R:=R) hfit hopt0 hway hp hr
    have e1:W0 p r=W p r:=if_pos hp
    have e2:W0 p way[p]=W p way[p]:=if_pos hp
    rw [e1,e2] at this
    exact this
  · by_cases hr:r < R
    · have h1:Reach W0 way R R r (W0 way.length r):=(Reach.base hr).more (Nat.zero_le _)
      have h2:=reach_le h1
      have h3:W0 way.length r=0:=if_neg (Nat.lt_irrefl _)
      rw [h3] at h2
      exact h2
    · have:(turns W0 way R (first W0 way R) R).1.getD r 0=0:=by
        rw [List.getD_eq_getElem?_getD,List.getElem?_eq_none (by rw [ok.l1]; omega)]
        rfl
      show 0≤(turns W0 way R (first W0 way R) R).1.getD r 0
      rw [this]
      exact Int.le_refl _
  · have heR:e < R:=by
      refine Classical.byContradiction fun z=>?_
      have:=hB e (by omega)
      omega
    obtain ⟨r0,c,g,e1,hsg,e2,_⟩:=ok.at_ e heR
    have h3:W0 way.length r0=0:=if_neg (Nat.lt_irrefl _)
    obtain ⟨i1,i2,i3,_⟩:=hsg.app
    have hf:Fit B (app way c):=fun x=>by
      have h1:=i3 x
      have h2:=hfit x
      by_cases hx:x=e
      · subst hx
        rw [ind_self] at h1
        omega
      · rw [ind_ne hx] at h1
        omega
    have:=hopt0 _ i1 hf
    rw [i2] at this
    show (turns W0 way R (first W0 way R) R).1.getD e 0≤0
    rw [e2,h3]
    omega
abbrev Hop:=Nat × Nat × Nat
inductive ChS (hs:List Hop) (s:Nat):List Hop→Nat→Prop
  | nil:ChS hs s [] s
  | snoc {c:List Hop} {a r b:Nat}:ChS hs s c a→(a,r,b)∈hs→ChS hs s (c ++ [(a,r,b)]) b
def wt (gn:Hop→Int) (c:List Hop):Int:=(c.map gn).sum
theorem wt_app (gn:Hop→Int) (c d:List Hop):wt gn (c ++ d)=wt gn c + wt gn d:=by simp [wt]
section
variable {hs:List Hop} {gn:Hop→Int} {n:Nat}
theorem ChS.app {s x b:Nat} {c d:List Hop} (h1:ChS hs s c x) (h2:ChS hs x d b):ChS hs s (c ++ d) b:=by
  induction h2 with
  | nil=>simpa using h1
  | snoc _ hm ih =>
    rw [← List.append_assoc]
    exact .snoc ih hm
theorem ChS.split {s b:Nat} {c:List Hop} (h:ChS hs s c b):∀ x∈s :: c.map (fun m=>m.2.2),∃ c1 c2,c=c1 ++ c2∧ChS hs s c1 x∧ChS hs x c2 b:=by
  induction h with
  | nil =>
    intro x hx
    have:x=s:=by simpa using hx
    subst this
    exact ⟨[],[],rfl,.nil,.nil⟩
  | @snoc c a r b h hm ih =>
    intro x hx
    rw [List.map_append,← List.cons_append] at hx
    rcases List.mem_append.mp hx with hx | hx
    · obtain ⟨c1,c2,e,h1,h2⟩:=ih x hx
      exact ⟨c1,c2 ++ [(a,r,b)],by rw [e,List.append_assoc],h1,.snoc h2 hm⟩
    · have:x=b:=by simpa using hx
      subst this
      exact ⟨c ++ [(a,r,x)],[],by simp,.snoc h hm,.nil⟩
theorem ChS.dup {s b:Nat} {c:List Hop} (h:ChS hs s c b) (hd:¬ (s :: c.map (fun m=>m.2.2)).Nodup):∃ c1 c2 c3 x,c=c1 ++ (c2 ++ c3)∧c2≠[]∧ChS hs s c1 x∧ChS hs x c2 x∧ChS hs x c3 b:=by
  induction h with
  | nil=>exact absurd (by simp) hd
  | @snoc c a r b h hm ih =>
    by_cases hn:(s :: c.map (fun m=>m.2.2)).Nodup
    · have hb:b∈s :: c.map (fun m=>m.2.2):=by
        refine Classical.byContradiction fun z=>hd ?_
        rw [List.map_append,← List.cons_append,List.nodup_append]
        refine ⟨hn,by simp,fun p hp q hq=>?_⟩
        have:q=b:=by simpa using hq
        subst this
        intro e
        subst e
        exact z hp
      obtain ⟨c1,c2,e,h1,h2⟩:=h.split b hb
      exact ⟨c1,c2 ++ [(a,r,b)],[],b,by rw [e]; simp,by simp,h1,.snoc h2 hm,.nil⟩
    · obtain ⟨c1,c2,c3,x,e,hne,h1,h2,h3⟩:=ih hn
      exact ⟨c1,c2,c3 ++ [(a,r,b)],x,by rw [e]; simp,hne,h1,h2,.snoc h3 hm⟩
theorem ChS.pot {h:Nat→Int} (hp:∀ m∈hs,h m.1 + gn m≤h m.2.2) {s b:Nat} {c:List Hop} (hc:ChS hs s c b):h s + wt gn c≤h b:=by
  induction hc with
  | nil=>simp [wt]
  | @snoc c a r b _ hm ih =>
    have:=hp _ hm
    rw [wt_app]
    have e:wt gn [(a,r,b)]=gn (a,r,b):=by simp [wt]
    rw [e]
    simp only at this
    omega
theorem ChS.lt (hlt:∀ m∈hs,m.1 < n∧m.2.2 < n) {s b:Nat} {c:List Hop} (hc:ChS hs s c b) (hsn:s < n):(∀ x∈s :: c.map (fun m=>m.2.2),x < n)∧b < n:=by
  induction hc with
  | nil =>
    refine ⟨fun x hx=>?_,hsn⟩
    have:x=s:=by simpa using hx
    rw [this]; exact hsn
  | @snoc c a r b _ hm ih =>
    refine ⟨fun x hx=>?_,(hlt _ hm).2⟩
    rw [List.map_append,← List.cons_append] at hx
    rcases List.mem_append.mp hx with hx | hx
    · exact ih.1 x hx
    · have:x=b:=by simpa using hx
      rw [this]; exact (hlt _ hm).2
theorem shorten {h:Nat→Int} (hp:∀ m∈hs,h m.1 + gn m≤h m.2.2) (hlt:∀ m∈hs,m.1 < n∧m.2.2 < n):∀ (k:Nat) {s b:Nat} {c:List Hop},c.length≤k→s < n→ChS hs s c b→∃ c',ChS hs s c' b∧c'.length < n∧wt gn c≤wt gn c'
  | 0,s,b,c,hl,hs',hc=>⟨c,hc,by omega,Int.le_refl _⟩
  | k + 1,s,b,c,hl,hs',hc=>by
    by_cases hn:c.length < n
    · exact ⟨c,hc,hn,Int.le_refl _⟩
    · have hnd:¬ (s :: c.map (fun m=>m.2.2)).Nodup:=fun z=>by
        have:=nodup_le n _ z (hc.lt hlt hs').1
        simp at this
        omega
      obtain ⟨c1,c2,c3,x,rfl,hne,h1,h2,h3⟩:=hc.dup hnd
      have h4:=h2.pot hp
      have hl2:0 < c2.length:=List.length_pos_iff.mpr hne
      obtain ⟨c',g1,g2,g3⟩:=shorten hp hlt k (c:=c1 ++ c3) (by simp at hl ⊢; omega) hs' (h1.app h3)
      refine ⟨c',g1,g2,?_⟩
      rw [wt_app] at g3
      rw [wt_app,wt_app]
      omega
abbrev TC:=List Int × List (List Hop)
def relC (gn:Hop→Int) (st:TC) (m:Hop):TC:=if st.1.getD m.1 0 + gn m > st.1.getD m.2.2 0 then (st.1.set m.2.2 (st.1.getD m.1 0 + gn m),st.2.set m.2.2 (st.2.getD m.1 [] ++ [m])) else st
def rndC (gn:Hop→Int) (hs:List Hop) (st:TC):TC:=hs.foldl (relC gn) st
def rndsC (gn:Hop→Int) (hs:List Hop) (st:TC) (k:Nat):TC:=(List.range k).foldl (fun st _=>rndC gn hs st) st
theorem rndsC_succ (st:TC) (k:Nat):rndsC gn hs st (k + 1)=rndC gn hs (rndsC gn hs st k):=by
  unfold rndsC
  rw [List.range_succ,List.foldl_append]
  rfl
structure OkC (hs:List Hop) (gn:Hop→Int) (n:Nat) (st:TC):Prop where
  l1:st.1.length=n
  l2:st.2.length=n
  at_:∀ b,b < n→∃ s,s < n∧ChS hs s (st.2.getD b []) b∧wt gn (st.2.getD b [])=st.1.getD b 0
def zeroC (n:Nat):TC:=(List.replicate n 0,List.replicate n [])
theorem zero_ok:OkC hs gn n (zeroC n):=by
  refine ⟨by simp [zeroC],by simp [zeroC],fun b hb=>⟨b,hb,?_,?_⟩⟩
  · have:(zeroC n).2.getD b []=[]:=by simp [zeroC,List.getD,hb]
    rw [this]
    exact .nil
  · simp [zeroC,List.getD,hb,wt]
theorem relC_ok (hlt:∀ m∈hs,m.1 < n∧m.2.2 < n) {st:TC} (ok:OkC hs gn n st) {m:Hop} (hm:m∈hs):OkC hs gn n (relC gn st m):=by
  obtain ⟨h1,h2⟩:=hlt m hm
  unfold relC
  split
  · refine ⟨by simp [ok.l1],by simp [ok.l2],fun b hb=>?_⟩
    have l1:=ok.l1
    have l2:=ok.l2
    by_cases hbm:b=m.2.2
    · subst hbm
      obtain ⟨s,hs1,hs2,hs3⟩:=ok.at_ m.1 h1
      refine ⟨s,hs1,?_,?_⟩
      · have e:(st.2.set m.2.2 (st.2.getD m.1 [] ++ [m])).getD m.2.2 []=st.2.getD m.1 [] ++ [m]:=by simp [List.getD,l2,h2]
        rw [e]
        exact .snoc hs2 hm
      · have e:(st.2.set m.2.2 (st.2.getD m.1 [] ++ [m])).getD m.2.2 []=st.2.getD m.1 [] ++ [m]:=by simp [List.getD,l2,h2]
        rw [e,wt_app,hs3]
        simp [List.getD,l1,h2,wt]
    · obtain ⟨s,hs1,hs2,hs3⟩:=ok.at_ b hb
      have hbm':m.2.2≠b:=fun z=>hbm z.symm
      have e1:(st.2.set m.2.2 (st.2.getD m.1 [] ++ [m])).getD b []=st.2.getD b []:=by simp [List.getD,List.getElem?_set_ne hbm']
      have e2:(st.1.set m.2.2 (st.1.getD m.1 0 + gn m)).getD b 0=st.1.getD b 0:=by simp [List.getD,List.getElem?_set_ne hbm']
      exact ⟨s,hs1,by rw [e1]; exact hs2,by rw [e1,e2]; exact hs3⟩
  · exact ok
theorem relC_mono {st:TC} {m:Hop} (x:Nat):st.1.getD x 0≤(relC gn st m).1.getD x 0:=by
  unfold relC
  split
  · rename_i h
    by_cases hx:x=m.2.2
    · subst hx
      by_cases hl:m.2.2 < st.1.length
      · simp [List.getD,hl]
        simp [List.getD,hl] at h
        omega
      · rw [List.set_eq_of_length_le (by omega)]
        exact Int.le_refl _
    · have hx':m.2.2≠x:=fun z=>hx z.symm
      simp [List.getD,List.getElem?_set_ne hx']
  · exact Int.le_refl _
theorem relC_at {st:TC} {m:Hop} (h:m.2.2 < st.1.length):st.1.getD m.1 0 + gn m≤(relC gn st m).1.getD m.2.2 0:=by
  unfold relC
  split
  · simp [List.getD,h]
  · omega
theorem relC_len {st:TC} {m:Hop}:(relC gn st m).1.length=st.1.length:=by
  unfold relC
  split <;> simp
theorem fold_mono {st:TC} (x:Nat):∀ (l:List Hop),st.1.getD x 0≤(l.foldl (relC gn) st).1.getD x 0
  | []=>Int.le_refl _
  | m :: l=>Int.le_trans (relC_mono x) (fold_mono (st:=relC gn st m) x l)
theorem fold_at {st:TC} {m:Hop}:∀ (l:List Hop),m∈l→m.2.2 < st.1.length→st.1.getD m.1 0 + gn m≤(l.foldl (relC gn) st).1.getD m.2.2 0
  | m' :: l,hm,hl=>by
    rw [List.foldl_cons]
    rcases List.mem_cons.mp hm with rfl | hm
    · exact Int.le_trans (relC_at hl) (fold_mono _ l)
    · have h1:=relC_mono (gn:=gn) (st:=st) (m:=m') m.1
      have h2:=fold_at (st:=relC gn st m') l hm (by rw [relC_len]; exact hl)
      omega
theorem rnds_ok (hlt:∀ m∈hs,m.1 < n∧m.2.2 < n) (k:Nat):OkC hs gn n (rndsC gn hs (zeroC n) k):=by
  refine fold_inv (I:=OkC hs gn n) zero_ok fun st _ _ ok=>?_
  exact fold_inv (I:=OkC hs gn n) ok fun st m hm ok=>relC_ok hlt ok hm
theorem rnds_mono {x j:Nat}:∀ {k:Nat},j≤k→(rndsC gn hs (zeroC n) j).1.getD x 0≤(rndsC gn hs (zeroC n) k).1.getD x 0
  | 0,h=>by
    have:j=0:=by omega
    rw [this]; exact Int.le_refl _
  | k + 1,h=>by
    by_cases hj:j=k + 1
    · rw [hj]; exact Int.le_refl _
    · rw [rndsC_succ]
      exact Int.le_trans (rnds_mono (k:=k) (by omega)) (fold_mono x hs)
theorem rnds_dom (hlt:∀ m∈hs,m.1 < n∧m.2.2 < n) {s b:Nat} {c:List Hop} (hc:ChS hs s c b) (hsn:s < n):wt gn c≤(rndsC gn hs (zeroC n) c.length).1.getD b 0:=by
  induction hc with
  | nil=>simp [wt,rndsC,zeroC,List.getD,hsn]
  | @snoc c a r b _ hm ih =>
    rw [List.length_append,List.length_singleton,rndsC_succ,wt_app]
    have h1:=fold_at (gn:=gn) (st:=rndsC gn hs (zeroC n) c.length) hs hm (by rw [(rnds_ok hlt c.length).l1]; exact (hlt _ hm).2)
    have h2:wt gn [(a,r,b)]=gn (a,r,b):=by simp [wt]
    rw [h2]
    simp only at h1
    unfold rndC
    omega
theorem rnds_closed {h:Nat→Int} (hp:∀ m∈hs,h m.1 + gn m≤h m.2.2) (hlt:∀ m∈hs,m.1 < n∧m.2.2 < n) {m:Hop} (hm:m∈hs):(rndsC gn hs (zeroC n) n).1.getD m.1 0 + gn m≤(rndsC gn hs (zeroC n) n).1.getD m.2.2 0:=by
  obtain ⟨s,h1,h2,h3⟩:=(rnds_ok (gn:=gn) hlt n).at_ m.1 (hlt m hm).1
  have h4:ChS hs s ((rndsC gn hs (zeroC n) n).2.getD m.1 [] ++ [(m.1,m.2.1,m.2.2)]) m.2.2:=.snoc h2 hm
  obtain ⟨c',g1,g2,g3⟩:=shorten hp hlt _ (Nat.le_refl _) h1 h4
  have g4:=rnds_dom (gn:=gn) hlt g1 h1
  have g5:=rnds_mono (hs:=hs) (gn:=gn) (n:=n) (x:=m.2.2) (j:=c'.length) (k:=n) (by omega)
  rw [wt_app,h3] at g3
  have h5:wt gn [(m.1,m.2.1,m.2.2)]=gn m:=by simp [wt]
  rw [h5] at g3
  omega
theorem rnds_nonneg (hlt:∀ m∈hs,m.1 < n∧m.2.2 < n) {b:Nat} (hb:b < n):0≤(rndsC gn hs (zeroC n) n).1.getD b 0:=by
  have h1:=rnds_dom (gn:=gn) hlt (.nil:ChS hs b [] b) hb
  have h2:=rnds_mono (hs:=hs) (gn:=gn) (n:=n) (x:=b) (j:=0) (k:=n) (Nat.zero_le _)
  simp [wt] at h1
  exact Int.le_trans h1 h2
end
end BW
namespace L2
open BW
theorem pot_ex {beds:List Int} {worths:List (List Int)} {way:List Nat} (wo:Bool) (ok:AimOk beds worths way) (hfit:Fit (bF beds) way) (hopt:Opt beds worths way) :
    ∃ h:Nat→Int,∀ a b r,a < worths.length→b < worths.length→r < beds.length→((r:Int)∈thruL wo beds way a b)→h a + gainF wo worths way a r b≤h b:=by
  obtain ⟨g,g1,g2,g3⟩:=price_ex (bF_out beds) hfit hopt
  have hw:∀ a,a < worths.length→∃ (ha:a < way.length),way[a]=way.getD a 0:=fun a ha=>by
    have ha':a < way.length:=by rw [ok.len]; exact ha
    exact ⟨ha',by simp [List.getD,ha']⟩
  have hmem:∀ {r x:Nat},((r:Int)∈openL beds (wI way) ++ [(x:Int)])→r=x∨way.count r < bF beds r:=fun {r x} h=>by
    rcases List.mem_append.mp h with e | e
    · obtain ⟨r',e1,_,e2⟩:=mem_open.mp e
      have:r'=r:=by omega
      subst this
      exact .inr e2
    · have:(r:Int)=(x:Int):=by simpa using e
      exact .inl (by omega)
  cases wo with
  | true =>
    refine ⟨fun x=>ownF worths way x - g (way.getD x 0),fun a b r ha hb hr hm=>?_⟩
    obtain ⟨hb',eb⟩:=hw b hb
    have h1:=g1 b hb' r hr
    rw [eb] at h1
    show ownF worths way a - g (way.getD a 0) + (wF worths b r - ownF worths way a)≤wF worths b (way.getD b 0) - g (way.getD b 0)
    have h2:=g2 (way.getD a 0)
    rcases hmem (show (r:Int)∈openL beds (wI way) ++ [((way.getD a 0:Nat):Int)] from hm) with e | e
    · subst e
      omega
    · have h3:=g3 r e
      omega
  | false =>
    refine ⟨fun x=>g (way.getD x 0),fun a b r ha hb hr hm=>?_⟩
    obtain ⟨ha',ea⟩:=hw a ha
    have h1:=g1 a ha' r hr
    rw [ea] at h1
    show g (way.getD a 0) + (wF worths a r - wF worths a (way.getD a 0))≤g (way.getD b 0)
    have h2:=g2 (way.getD b 0)
    rcases hmem (show (r:Int)∈openL beds (wI way) ++ [((way.getD b 0:Nat):Int)] from hm) with e | e
    · subst e
      omega
    · have h3:=g3 r e
      omega
end L2
namespace L2
open PySem PySem.Spec PyProof.Rows BW
def hopV (m:Hop):List V:=[.int (m.1:Int),.int (m.2.1:Int),.int (m.2.2:Int)]
def HopsAt (H:Hp) (a:Addr) (c:List Hop):Prop:=∃ ts:List Addr,H a=some (.lst (ts.map V.ref))∧ts.length=c.length∧∀ (j:Nat) t m,ts[j]? = some t→c[j]? = some m→H t=some (.tup (hopV m))
theorem HopsAt.keep {H H':Hp} {a:Addr} {c:List Hop} (h:HopsAt H a c) (h1:∀ o,H a=some o→H' a=some o) (h2:∀ t xs,H t=some (.tup xs)→H' t=some (.tup xs)):HopsAt H' a c:=by
  obtain ⟨ts,e1,e2,e3⟩:=h
  exact ⟨ts,h1 _ e1,e2,fun j t m a b=>h2 _ _ (e3 j t m a b)⟩
theorem HopsAt.same {H H':Hp} {a:Addr} {c:List Hop} (h:HopsAt H a c) (s:Same H H'):HopsAt H' a c:=h.keep (fun o e=>s _ _ e) fun t xs e=>s _ _ e
theorem HopsAt.sameB {H H':Hp} {a:Addr} {c:List Hop} (h:HopsAt H a c) (s:SameB H H'):HopsAt H' a c:=by
  obtain ⟨ts,e1,e2,e3⟩:=h
  exact ⟨ts,s.to _ _ e1 rfl,e2,fun j t m a b=>s.to _ _ (e3 j t m a b) rfl⟩
theorem HopsAt.snoc {H:Hp} {a t:Addr} {c:List Hop} {m:Hop} {ts:List Addr} (e1:H a=some (.lst (ts.map V.ref ++ [.ref t]))) (e2:ts.length=c.length) (e3:∀ (j:Nat) t m,ts[j]? = some t→c[j]? = some m→H t=some (.tup (hopV m))) (e4:H t=some (.tup (hopV m))):HopsAt H a (c ++ [m]):=by
  refine ⟨ts ++ [t],by rw [e1]; simp,by simp [e2],fun j t' m' h1 h2=>?_⟩
  by_cases hj:j < ts.length
  · rw [List.getElem?_append_left hj] at h1
    rw [List.getElem?_append_left (by omega)] at h2
    exact e3 j t' m' h1 h2
  · have hj2:j=ts.length:=by
      have:=(List.getElem?_eq_some_iff.mp h1).1
      simp at this
      omega
    subst hj2
    simp at h1
    rw [e2] at h2
    simp at h2
    subst h1 h2
    exact e4
structure TCat (H:Hp) (ga mv:Addr) (st:TC):Prop where
  ne:ga≠mv
  g:H ga=some (.lst (st.1.map V.int))
  ex:∃ ls:List Addr,H mv=some (.lst (ls.map V.ref))∧ls.length=st.2.length∧(∀ a∈ls,a≠ga∧a≠mv)∧∀ (i:Nat) a c,ls[i]? = some a→st.2[i]? = some c→HopsAt H a c
theorem TCat.same {H H':Hp} {ga mv:Addr} {st:TC} (h:TCat H ga mv st) (s:Same H H'):TCat H' ga mv st:=by
  obtain ⟨ls,e1,e2,e3,e4⟩:=h.ex
  exact ⟨h.ne,s _ _ h.g,ls,s _ _ e1,e2,e3,fun i a c h1 h2=>(e4 i a c h1 h2).same s⟩
theorem TCat.sameB {H H':Hp} {ga mv:Addr} {st:TC} (h:TCat H ga mv st) (s:SameB H H'):TCat H' ga mv st:=by
  obtain ⟨ls,e1,e2,e3,e4⟩:=h.ex
  exact ⟨h.ne,s.to _ _ h.g rfl,ls,s.to _ _ e1 rfl,e2,e3,fun i a c h1 h2=>(e4 i a c h1 h2).sameB s⟩
theorem TCat.gset {H:Hp} {ga mv:Addr} {st:TC} {gs':List Int} (h:TCat H ga mv st):TCat (upd H ga (.lst (gs'.map V.int))) ga mv (gs',st.2):=by
  obtain ⟨ls,e1,e2,e3,e4⟩:=h.ex
  refine ⟨h.ne,upd_same,ls,by rw [upd_ne h.ne.symm]; exact e1,e2,e3,fun i a c h1 h2=>(e4 i a c h1 h2).keep (fun o e=>?_) fun t xs e=>?_⟩
  · rw [upd_ne (e3 a (List.mem_of_getElem? h1)).1]; exact e
  · rw [upd_ne (ne_of e h.g (by intro z; cases z))]; exact e
theorem TCat.mset {H:Hp} {ga mv n:Addr} {st:TC} {ls:List Addr} {r:Nat} {c:List Hop} (h:TCat H ga mv st) (e1:H mv=some (.lst (ls.map V.ref))) (hr:r < ls.length) (hn1:n≠ga) (hn2:n≠mv) (hc:HopsAt H n c) :
    TCat (upd H mv (.lst ((ls.map V.ref).set r (.ref n)))) ga mv (st.1,st.2.set r c):=by
  obtain ⟨ls',f1,e2,e3,e4⟩:=h.ex
  rw [e1] at f1
  have:ls'=ls:=by
    have f2:=HO.lst.inj (Option.some.inj f1)
    have hinj:∀ a b:Addr,V.ref a=V.ref b→a=b:=fun a b z=>V.ref.inj z
    exact (List.map_inj_right (f:=V.ref) (fun a b z=>hinj a b z)).mp f2.symm
  subst this
  have kp:∀ a c,HopsAt H a c→a≠mv→HopsAt (upd H mv (.lst ((ls'.map V.ref).set r (.ref n)))) a c:=fun a c hc hne=>hc.keep (fun o e=>by rw [upd_ne hne]; exact e) fun t xs e=>by
    rw [upd_ne (ne_of e e1 (by intro z; cases z))]; exact e
  refine ⟨h.ne,by rw [upd_ne h.ne]; exact h.g,ls'.set r n,by rw [upd_same,List.map_set],by simp [e2],fun a ha=>?_,fun i a c' h1 h2=>?_⟩
  · rcases List.mem_or_eq_of_mem_set ha with z | z
    · exact e3 a z
    · rw [z]; exact ⟨hn1,hn2⟩
  · by_cases hi:r=i
    · subst hi
      rw [List.getElem?_set_self hr] at h1
      rw [List.getElem?_set_self (by omega)] at h2
      cases h1
      cases h2
      exact kp _ _ hc hn2
    · rw [List.getElem?_set_ne hi] at h1
      rw [List.getElem?_set_ne hi] at h2
      exact kp _ _ (e4 i a c' h1 h2) (e3 a (List.mem_of_getElem? h1)).2
structure GoodHops (wo:Bool) (beds:List Int) (worths:List (List Int)) (way:List Nat) (hops:List Hop):Prop where
  mem:∀ m∈hops,m.1 < worths.length∧m.2.2 < worths.length∧m.1≠m.2.2∧m.2.1 < beds.length∧(m.2.1:Int)∈thruL wo beds way m.1 m.2.2
  best:∀ m∈hops,∀ r:Nat,(r:Int)∈thruL wo beds way m.1 m.2.2→gainF wo worths way m.1 r m.2.2≤gainF wo worths way m.1 m.2.1 m.2.2
  all_:∀ a b,a < worths.length→b < worths.length→a≠b→∃ r,(a,r,b)∈hops
  len:hops.length≤100
structure HopsTo (wo:Bool) (beds:List Int) (worths:List (List Int)) (way:List Nat) (hops:List Hop) (i j:Nat):Prop where
  mem:∀ m∈hops,m.1 < worths.length∧m.2.2 < worths.length∧m.1≠m.2.2∧m.2.1 < beds.length∧(m.2.1:Int)∈thruL wo beds way m.1 m.2.2
  best:∀ m∈hops,∀ r:Nat,(r:Int)∈thruL wo beds way m.1 m.2.2→gainF wo worths way m.1 r m.2.2≤gainF wo worths way m.1 m.2.1 m.2.2
  all_:∀ a b,a < worths.length→b < worths.length→a≠b→(a < i∨(a=i∧b < j))→∃ r,(a,r,b)∈hops
  len:hops.length≤i * worths.length + j
theorem HopsTo.skip {wo:Bool} {beds:List Int} {worths:List (List Int)} {way:List Nat} {hops:List Hop} {i j:Nat} (h:HopsTo wo beds worths way hops i j) (e:i=j):HopsTo wo beds worths way hops i (j + 1) :=
  ⟨h.mem,h.best,fun a b ha hb hab z=>h.all_ a b ha hb hab (by omega),by have:=h.len; omega⟩
theorem HopsTo.more {wo:Bool} {beds:List Int} {worths:List (List Int)} {way:List Nat} {hops:List Hop} {i j r:Nat} (h:HopsTo wo beds worths way hops i j) (hij:i < worths.length∧j < worths.length) (e:i≠j) (h1:(r:Int)∈thruL wo beds way i j) (h2:r < beds.length) (h3:∀ r':Nat,(r':Int)∈thruL wo beds way i j→gainF wo worths way i r' j≤gainF wo worths way i r j):HopsTo wo beds worths way (hops ++ [(i,r,j)]) i (j + 1):=by
  refine ⟨fun m hm=>?_,fun m hm=>?_,fun a b ha hb hab z=>?_,by have:=h.len; simp; omega⟩
  · rcases List.mem_append.mp hm with z | z
    · exact h.mem m z
    · have:m=(i,r,j):=by simpa using z
      subst this
      exact ⟨hij.1,hij.2,e,h2,h1⟩
  · rcases List.mem_append.mp hm with z | z
    · exact h.best m z
    · have:m=(i,r,j):=by simpa using z
      subst this
      exact h3
  · by_cases hz:a=i∧b=j
    · obtain ⟨rfl,rfl⟩:=hz
      exact ⟨r,by simp⟩
    · obtain ⟨r',hr'⟩:=h.all_ a b ha hb hab (by omega)
      exact ⟨r',List.mem_append_left _ hr'⟩
theorem HopsTo.next {wo:Bool} {beds:List Int} {worths:List (List Int)} {way:List Nat} {hops:List Hop} {i:Nat} (h:HopsTo wo beds worths way hops i worths.length):HopsTo wo beds worths way hops (i + 1) 0 :=
  ⟨h.mem,h.best,fun a b ha hb hab z=>h.all_ a b ha hb hab (by omega),by have:=h.len; rw [Nat.add_mul,Nat.one_mul]; omega⟩
theorem HopsTo.good {wo:Bool} {beds:List Int} {worths:List (List Int)} {way:List Nat} {hops:List Hop} (h:HopsTo wo beds worths way hops worths.length 0) (hl:worths.length≤10):GoodHops wo beds worths way hops :=
  ⟨h.mem,h.best,fun a b ha hb hab=>h.all_ a b ha hb hab (.inl ha),Nat.le_trans h.len (by have:=Nat.mul_le_mul hl hl; omega)⟩
theorem LamAt.updL {H:Hp} {P l:Addr} {pos:Pos} {qual:Str} {xs ys:List V} (h:LamAt H P pos qual) (hl:H l=some (.lst xs)):LamAt (upd H l (.lst ys)) P pos qual:=by
  have k:∀ c o,H c=some o→(∀ zs,o≠.lst zs)→upd H l (.lst ys) c=some o:=fun c o e hne=>by
    rw [upd_ne (ne_of e hl (hne _))]
    exact e
  rcases h with h | ⟨c',oc,vs,t,h1,h2,h3⟩
  · exact .inl (k _ _ h (by intro zs z; cases z))
  · exact .inr ⟨c',oc,vs,t,k _ _ h1 (by intro zs z; cases z),k _ _ h2 (by intro zs z; cases z),h3⟩
def gnF (wo:Bool) (worths:List (List Int)) (way:List Nat) (m:Hop):Int:=gainF wo worths way m.1 m.2.1 m.2.2
def sp_bestroom (CH CW CE PT:Addr) (lpos:Pos) (qual:Str) (K:PySem.W.Frag):Sp:=fun vs H Q _ => ∃ (wo:Bool) (p rl:Addr) (beds:List Int) (worths:List (List Int)) (rent:Int) (way:List Nat) (a b:Nat) (ms:List Int),vs=[.ref p,.ref rl,.int (a:Int),.int (b:Int)]∧AimAt CH (CC CW CE wo) H p beds worths rent way∧AimOk beds worths way∧a < worths.length∧b < worths.length ∧
  H rl=some (.lst (ms.map V.int))∧IsRise ms (thruL wo beds way a b)∧LamAt H PT lpos qual ∧
  ∀ (r:Nat) (H':Hp),SameB H H'→SameO PT H H'→LamAt H' PT lpos qual→(r:Int)∈thruL wo beds way a b→r < beds.length→(∀ r':Nat,(r':Int)∈thruL wo beds way a b→gainF wo worths way a r' b≤gainF wo worths way a r b)→Q (.int (r:Int)) H'
def sp_besthops (CH CW CE PT:Addr) (lpos:Pos) (qual:Str):Sp:=fun vs H Q _ => ∃ (wo:Bool) (p:Addr) (beds:List Int) (worths:List (List Int)) (rent:Int) (way:List Nat),vs=[.ref p]∧AimAt CH (CC CW CE wo) H p beds worths rent way∧AimOk beds worths way∧LamAt H PT lpos qual ∧
  ∀ (hl:Addr) (hops:List Hop) (H':Hp),SameB H H'→SameO PT H H'→LamAt H' PT lpos qual→H hl=none→HopsAt H' hl hops→GoodHops wo beds worths way hops→Q (.ref hl) H'
theorem relC_chains {gn:Hop→Int} {st:TC} {m:Hop} {N:Nat} (h:∀ c∈st.2,c.length≤N):∀ c∈(relC gn st m).2,c.length≤N + 1:=by
  unfold relC
  split
  · intro c hc
    rcases List.mem_or_eq_of_mem_set hc with z | z
    · have:=h c z; omega
    · rw [z,List.length_append,List.length_singleton]
      have:(st.2.getD m.1 []).length≤N:=by
        by_cases hl:m.1 < st.2.length
        · have e:st.2.getD m.1 []=st.2[m.1]:=by simp [List.getD,hl]
          rw [e]; exact h _ (List.getElem_mem hl)
        · rw [List.getD_eq_getElem?_getD,List.getElem?_eq_none (by omega)]
          simp
      omega
  · intro c hc
    have:=h c hc
    omega
structure GreatAt (wo:Bool) (H:Hp) (t tl cl:Addr) (beds:List Int) (worths:List (List Int)) (way:List Nat) (hops:List Hop) (st:TC):Prop where
  tup:H t=some (.tup [.ref tl,.ref cl])
  tc:TCat H tl cl st
  good:GoodHops wo beds worths way hops
  ok:OkC hops (gnF wo worths way) worths.length st
  nn:∀ b,b < worths.length→0≤st.1.getD b 0
  cl_:∀ a b r:Nat,a < worths.length→b < worths.length→a≠b→(r:Int)∈thruL wo beds way a b→st.1.getD a 0 + gainF wo worths way a r b≤st.1.getD b 0
theorem great_mk {wo:Bool} {H:Hp} {t tl cl:Addr} {beds:List Int} {worths:List (List Int)} {way:List Nat} {hops:List Hop} (aok:AimOk beds worths way) (hfit:Fit (bF beds) way) (hopt:Opt beds worths way) (good:GoodHops wo beds worths way hops) (h1:H t=some (.tup [.ref tl,.ref cl]))
    (h2:TCat H tl cl (rndsC (gnF wo worths way) hops (zeroC worths.length) worths.length)):GreatAt wo H t tl cl beds worths way hops (rndsC (gnF wo worths way) hops (zeroC worths.length) worths.length):=by
  obtain ⟨h,hp⟩:=pot_ex wo aok hfit hopt
  have hlt:∀ m∈hops,m.1 < worths.length∧m.2.2 < worths.length:=fun m hm=>⟨(good.mem m hm).1,(good.mem m hm).2.1⟩
  have hpot:∀ m∈hops,h m.1 + gnF wo worths way m≤h m.2.2:=fun m hm=>by
    obtain ⟨g1,g2,g3,g4,g5⟩:=good.mem m hm
    exact hp m.1 m.2.2 m.2.1 g1 g2 g4 g5
  refine ⟨h1,h2,good,rnds_ok hlt _,fun b hb=>rnds_nonneg hlt hb,fun a b r ha hb hab hr=>?_⟩
  obtain ⟨r0,hm⟩:=good.all_ a b ha hb hab
  have k1:=rnds_closed hpot hlt hm
  have k2:=good.best _ hm r hr
  have k3:gnF wo worths way (a,r0,b)=gainF wo worths way a r0 b:=rfl
  rw [k3] at k1
  simp only at k1 k2
  omega
def sp_lawT2 (K:PySem.W.Frag) (P1:Addr) (l1:Pos) (q1:Str) (P2:Addr) (l2:Pos) (q2:Str):Sp:=fun vs H Q _ => ∃ (a:Addr) (ns:List Int),vs=[.ref a]∧SqL K H a (ns.map V.int)∧ns.length≤63∧LamAt H P1 l1 q1∧LamAt H P2 l2 q2∧∀ H',Q (.bl true) H'
theorem one_mem {base:Heap} {mg:Str→Option Value} {P:Addr} (h:base.BuiltinsAt mg P):∀ Q∈[P],base.BuiltinsAt mg Q:=fun Q hQ=>by
  rw [List.mem_singleton.mp hQ]
  exact h
end L2
namespace BW
theorem ChS.inv {hs:List Hop} {s b:Nat} {c:List Hop} {m:Hop} (h:ChS hs s (c ++ [m]) b):ChS hs s c m.1∧m∈hs∧m.2.2=b:=by
  generalize e:c ++ [m]=d at h
  cases h with
  | nil=>simp at e
  | @snoc c' a r b h hm =>
    have h1:=List.append_inj' e rfl
    obtain ⟨rfl,h2⟩:=h1
    have h3:m=(a,r,b):=by simpa using h2
    subst h3
    exact ⟨h,hm,rfl⟩
end BW
namespace L2
open PySem PySem.Spec PyProof.Rows BW
def sp_ishop (CH CW CE:Addr):Sp:=fun vs H Q _ => ∃ (wo:Bool) (p t:Addr) (beds:List Int) (worths:List (List Int)) (rent:Int) (way:List Nat) (m:Hop),vs=[.ref p,.ref t]∧AimAt CH (CC CW CE wo) H p beds worths rent way∧AimOk beds worths way∧H t=some (.tup (hopV m))∧m.1 < worths.length∧m.2.2 < worths.length∧m.1≠m.2.2∧(m.2.1:Int)∈thruL wo beds way m.1 m.2.2∧∀ H',Same H H'→Q (.bl true) H'
def sp_cgain (CH CW CE:Addr):Sp:=fun vs H Q _ => ∃ (wo:Bool) (p cl:Addr) (beds:List Int) (worths:List (List Int)) (rent:Int) (way:List Nat) (hops c:List Hop) (s i:Nat),vs=[.ref p,.ref cl,.int (i:Int)]∧AimAt CH (CC CW CE wo) H p beds worths rent way∧AimOk beds worths way∧GoodHops wo beds worths way hops∧ChS hops s c i∧HopsAt H cl c∧∀ H',Same H H'→Q (.int (wt (gnF wo worths way) c)) H'
end L2
namespace L2
open PySem PySem.Spec PyProof.Rows
theorem rv_strs {K:PySem.W.Frag} {H:Hp}:∀ zs:List Str,Paired (ReadV K H) (zs.map V.str) (zs.map PyData.str)
  | []=>.nil
  | _ :: r=>.cons rv_str (rv_strs r)
def Prs (H:Hp) (as:List Addr) (ps:List (Int × Int)):Prop:=as.length=ps.length∧∀ (i:Nat) a (p:Int × Int),as[i]? = some a→ps[i]? = some p→H a=some (.tup [.int p.1,.int p.2])
theorem Prs.keep {H H':Hp} {as:List Addr} {ps:List (Int × Int)} (h:Prs H as ps) (k:∀ a∈as,∀ o,H a=some o→H' a=some o):Prs H' as ps:=⟨h.1,fun i a p h1 h2=>k a (List.mem_of_getElem? h1) _ (h.2 i a p h1 h2)⟩
theorem Prs.same {H H':Hp} {as:List Addr} {ps:List (Int × Int)} (h:Prs H as ps) (s:Same H H'):Prs H' as ps:=h.keep fun a _ o e=>s a o e
theorem Prs.nil {H:Hp}:Prs H [] []:=⟨rfl,fun i a p h=>by simp at h⟩
theorem Prs.snoc {H:Hp} {as:List Addr} {ps:List (Int × Int)} {a:Addr} {p:Int × Int} (h:Prs H as ps) (ha:H a=some (.tup [.int p.1,.int p.2])):Prs H (as ++ [a]) (ps ++ [p]):=by
  refine ⟨by simp [h.1],fun i b q h1 h2=>?_⟩
  by_cases hi:i < as.length
  · rw [List.getElem?_append_left hi] at h1
    rw [List.getElem?_append_left (by rw [← h.1]; exact hi)] at h2
    exact h.2 i b q h1 h2
  · have hl:=(List.getElem?_eq_some_iff.mp h1).1
    have e:i=as.length:=by simp at hl; omega
    subst e
    have e1:a=b:=by simpa using h1
    have e2:p=q:=by rw [h.1] at h2; simpa using h2
    subst e1 e2
    exact ha
def prD (p:Int × Int):PyData:=.tuple [.int p.1,.int p.2]
theorem rv_prs {K:PySem.W.Frag} {H:Hp}:∀ {as:List Addr} {ps:List (Int × Int)},Prs H as ps→Paired (ReadV K H) (as.map V.ref) (ps.map prD)
  | [],[],_=>.nil
  | [],_ :: _,h=>by have:=h.1; simp at this
  | _ :: _,[],h=>by have:=h.1; simp at this
  | a :: as,p :: ps,h=>.cons (rv_tup (SqT.of (h.2 0 a p rfl rfl)) (.cons rv_int (.cons rv_int .nil))) (rv_prs ⟨by have:=h.1; simpa using this,fun i b q h1 h2=>h.2 (i + 1) b q (by simpa using h1) (by simpa using h2)⟩)
theorem strs_eqv:∀ zs:List Str,PyData.eqvAll (zs.map PyData.str) (zs.map PyData.str)=true
  | []=>by simp [PyData.eqvAll]
  | z :: r=>by simp [PyData.eqvAll,PyData.eqv,strs_eqv r]
theorem prs_eqv:∀ ps:List (Int × Int),PyData.eqvAll (ps.map prD) (ps.map prD)=true
  | []=>by simp [PyData.eqvAll]
  | z :: r=>by simp [PyData.eqvAll,PyData.eqv,prD,prs_eqv r]
theorem strs_lay:∀ zs:List Str,(∀ z∈zs,PyData.strOk z=true)→PyData.canLayAll0 (zs.map PyData.str)=true
  | [],_=>rfl
  | z :: r,h=>by simp [PyData.canLayAll0,PyData.canLay0,strs_lay r fun y hy=>h y (List.mem_cons_of_mem _ hy),h z (List.mem_cons_self ..)]
theorem strOk_of {z:Str} (h:∀ c∈cod z,c < 1114112):PyData.strOk z=true:=by
  unfold PyData.strOk
  rw [Array.all_eq_true']
  intro c hc
  exact decide_eq_true (h c (by simpa [cod] using hc))
theorem strOk_mem {z:Str} (h:PyData.strOk z=true):∀ c∈cod z,c < 1114112:=by
  unfold PyData.strOk at h
  rw [Array.all_eq_true'] at h
  intro c hc
  exact of_decide_eq_true (h c (by simpa [cod] using hc))
theorem strOk_app {a b:Str} (h1:PyData.strOk a=true) (h2:PyData.strOk b=true):PyData.strOk (a ++ b)=true:=by
  refine strOk_of fun c hc=>?_
  rw [cod_app] at hc
  rcases List.mem_append.mp hc with h | h
  · exact strOk_mem h1 c h
  · exact strOk_mem h2 c h
theorem strOk_mul {z:Str} (h:PyData.strOk z=true) (n:Int):PyData.strOk (Txt.mul z n)=true:=by
  unfold Txt.mul
  split
  · decide +kernel
  split
  · exact h
  refine strOk_of fun c hc=>?_
  have key:∀ (k:Nat) (acc:Array Nat),(∀ x∈acc.toList,x < 1114112)→∀ x∈((List.replicate k z.cps).foldl (· ++ ·) acc).toList,x < 1114112:=by
    intro k
    induction k with
    | zero=>intro acc ha; simpa using ha
    | succ k ih =>
      intro acc ha
      rw [List.replicate_succ,List.foldl_cons]
      refine ih _ fun x hx=>?_
      rw [Array.toList_append] at hx
      rcases List.mem_append.mp hx with q | q
      · exact ha x q
      · exact strOk_mem h x q
  exact key n.toNat #[] (by simp) c hc
theorem mul_len1 {c:Nat} {n:Int} (h0:0≤n) (h1:n≤10):(Txt.mul ⟨#[c]⟩ n).length≤10∧PySem.MulOk ⟨#[c]⟩ n:=by
  have e:n=0∨n=1∨n=2∨n=3∨n=4∨n=5∨n=6∨n=7∨n=8∨n=9∨n=10:=by omega
  rcases e with rfl | rfl | rfl | rfl | rfl | rfl | rfl | rfl | rfl | rfl | rfl <;> refine ⟨by simp [Txt.mul,Str.length,Str.empty],?_⟩ <;> (unfold PySem.MulOk; simp [Str.length]; try decide)
theorem prs_lay:∀ zs:List (Int × Int),PyData.canLayAll0 (zs.map prD)=true
  | []=>rfl
  | z :: r=>by simp [PyData.canLayAll0,PyData.canLay0,prD,prs_lay r]
theorem strs_depth:∀ zs:List Str,PyData.depthAll (zs.map PyData.str)=0
  | []=>by simp [PyData.depthAll]
  | z :: r=>by simp [PyData.depthAll,PyData.depth,strs_depth r]
theorem prs_depth:∀ zs:List (Int × Int),PyData.depthAll (zs.map prD)≤1
  | []=>by simp [PyData.depthAll]
  | z :: r=>by
    have:=prs_depth r
    simp only [List.map_cons,PyData.depthAll,prD,PyData.depth]
    omega
def wAt (way:List Int) (wings:List Str) (i:Int):Str:=wings.getD (way.getD i.toNat 0).toNat Str.empty
def nearP (way:List Int) (wings:List Str) (p:Int × Int):Bool:=decide (V.str (wAt way wings p.1)=V.str (wAt way wings p.2))
def nearN (way:List Int) (wings:List Str) (ps:List (Int × Int)):Nat:=(ps.filter (nearP way wings)).length
theorem near_snoc (way:List Int) (wings:List Str) (ps:List (Int × Int)) (p:Int × Int):nearN way wings (ps ++ [p])=nearN way wings ps + (if nearP way wings p then 1 else 0):=by
  unfold nearN
  rw [List.filter_append,List.length_append,List.filter_cons]
  split <;> simp
structure NearOk (way:List Int) (wings:List Str) (ps:List (Int × Int)):Prop where
  lw:way.length≤1000
  lz:wings.length≤1000
  lp:ps.length≤1000
  wr:∀ r∈way,0≤r∧r < (wings.length:Int)
  pr:∀ p∈ps,(0≤p.1∧p.1 < (way.length:Int))∧0≤p.2∧p.2 < (way.length:Int)
theorem ixWing {K:PySem.W.Frag} {H:Hp} {b:Addr} {way:List Int} {wings:List Str} {i:Int} {Q:VK} (hb:H b=some (.lst (wings.map V.str))) (wr:∀ r∈way,0≤r∧r < (wings.length:Int)) (h0:0≤i) (h1:i < (way.length:Int)) (q:Q (.str (wAt way wings i)) H):rIx K (.ref b) (.int (way.getD i.toNat 0)) H Q:=by
  have hi:i.toNat < way.length:=by omega
  have e:way.getD i.toNat 0=way[i.toNat]:=by simp [hi]
  obtain ⟨r0,r1⟩:=wr _ (List.getElem_mem hi)
  rw [← e] at r0 r1
  have hr:(way.getD i.toNat 0).toNat < wings.length:=by omega
  refine ixL (SqL.of hb) (atI_int (way.getD i.toNat 0).toNat (by omega) (v:=.str (wAt way wings i)) ?_) q
  unfold wAt
  rw [List.getElem?_map]
  generalize (way.getD i.toNat 0).toNat=j at *
  rw [List.getElem?_eq_getElem hr]
  simp [hr]
theorem ixWay {K:PySem.W.Frag} {H:Hp} {a:Addr} {way:List Int} {i:Int} {Q:VK} (ha:H a=some (.lst (way.map V.int))) (h0:0≤i) (h1:i < (way.length:Int)) (q:Q (.int (way.getD i.toNat 0)) H):rIx K (.ref a) (.int i) H Q:=by
  have hi:i.toNat < way.length:=by omega
  refine ixL (SqL.of ha) (atI_int i.toNat (by omega) (v:=.int (way.getD i.toNat 0)) ?_) q
  simp [hi]
def sp_near:Sp:=fun vs H Q _ => ∃ (a b c:Addr) (way:List Int) (wings:List Str) (as:List Addr) (ps:List (Int × Int)),vs=[.ref a,.ref b,.ref c]∧H a=some (.lst (way.map V.int))∧H b=some (.lst (wings.map V.str))∧H c=some (.lst (as.map V.ref))∧Prs H as ps∧NearOk way wings ps ∧
  ∀ H',Same H H'→Q (.int (nearN way wings ps:Nat)) H'
def sp_wings74 (K:PySem.W.Frag):Sp:=fun vs H Q _ => ∃ (a:Addr) (ns:List Int) (r:Int),vs=[.ref a,.int r]∧SqL K H a (ns.map V.int)∧1≤r∧r≤10 ∧
  ∀ (W:Addr) (wings:List Str) (H':Hp),Same H H'→H W=none→H' W=some (.lst (wings.map V.str))→(wings.length:Int)=r→(∀ z∈wings,PyData.strOk z=true)→Q (.ref W) H'
def sp_pairs74 (K:PySem.W.Frag):Sp:=fun vs H Q _ => ∃ (a:Addr) (ns:List Int) (m:Int),vs=[.ref a,.int m]∧SqL K H a (ns.map V.int)∧0≤m∧m≤10 ∧
  ∀ (l:Addr) (as:List Addr) (ps:List (Int × Int)) (H':Hp),Same H H'→H l=none→H' l=some (.lst (as.map V.ref))→Prs H' as ps→ps.length≤200→(∀ p∈ps,(0≤p.1∧p.1 < m)∧0≤p.2∧p.2 < m)→Q (.ref l) H'
theorem filt_range {α:Type} (d:α) (P:α→Bool):∀ ps:List α,((List.range ps.length).filter fun i=>P (ps.getD i d)).length=(ps.filter P).length:=by
  intro ps
  have e:ps=(List.range ps.length).map fun i=>ps.getD i d:=by
    refine List.ext_getElem (by simp) fun i h1 h2=>?_
    simp [h1]
  conv=>rhs; rw [e,List.filter_map,List.length_map]
  rfl
theorem compIf_listN {K:PySem.W.Frag} {a D:Addr} {xs:List V} {tt:TT} {te:TE} {σf:St} {H1:Hp} {Q:VK} (p:Nat→Bool) (f:Nat→V) (hS:SqL K H1 a xs) (hz:xs.length < sizeLine) (hD1:H1 D=none)
    (ht:∀ (i:Nat) x H (N:Bool→Hp→Prop),xs[i]? = some x→Same H1 H→(∀ H',Same H H'→N (p i) H')→tt (some x :: σf) H N)
    (hs:∀ (i:Nat) x H (N:VK),xs[i]? = some x→p i=true→Same H1 H→(∀ H',Same H H'→N (f i) H')→te (some x :: σf) H N)
    (hd:∀ H,Same H1 H→H D=some (.lst (((List.range xs.length).filter p).map f))→Q (.ref D) H):CompW (Itl K a) D (gName 0) tt te (none :: σf) (upd H1 D (.lst [])) Q:=by
  have hx:∀ i,i < xs.length→xs[i]? = some ((xs[i]?).getD .non):=fun i hi=>by simp [hi]
  refine compIf xs.length (fun i=>(xs[i]?).getD .non) p f hz hD1 (fun i H hi s=>⟨xs,xs[i],s.seq hS,List.getElem?_eq_getElem hi⟩) (fun H s=>⟨xs,s.seq hS,Nat.le_refl _⟩) (fun i H x H' hi s y=>?_) (fun i H N hi s k=>ht i _ H N (hx i hi) s k) (fun i H N hi e s k=>hs i _ H N (hx i hi) e s k) hd
  obtain ⟨e,y⟩:=y
  refine ⟨?_,e⟩
  rw [y xs (s.seq hS)]
  rfl
theorem Prs.get {H:Hp} {as:List Addr} {ps:List (Int × Int)} {i:Nat} {x:V} (h:Prs H as ps) (hx:(as.map V.ref)[i]? = some x):∃ a,x=.ref a∧as[i]? = some a∧i < ps.length∧ps[i]? = some (ps.getD i (0,0))∧H a=some (.tup [.int (ps.getD i (0,0)).1,.int (ps.getD i (0,0)).2]):=by
  rw [List.getElem?_map] at hx
  cases ha:as[i]? with
  | none=>rw [ha] at hx; cases hx
  | some a =>
    rw [ha] at hx
    have e:V.ref a=x:=by simpa using hx
    have hi:i < as.length:=(List.getElem?_eq_some_iff.mp ha).1
    have hi2:i < ps.length:=by rw [← h.1]; exact hi
    have e2:ps[i]? = some (ps.getD i (0,0)):=by simp [hi2]
    exact ⟨a,e.symm,rfl,hi2,e2,h.2 i a _ ha e2⟩
theorem vals_of {P:Nat→V→Prop} {α:Type} (f:α→V) (R:Nat→α→Prop):∀ (ys:List V) (k:Nat),(∀ (i:Nat) y,ys[i]? = some y→∃ z,y=f z∧R (k + i) z)→∃ zs:List α,ys=zs.map f∧∀ (i:Nat) z,zs[i]? = some z→R (k + i) z
  | [],_,_=>⟨[],rfl,fun i z h=>by simp at h⟩
  | y :: r,k,h=>by
    obtain ⟨z,e,hz⟩:=h 0 y rfl
    obtain ⟨zs,e2,hzs⟩:=vals_of (P:=P) f R r (k + 1) fun i y hy=>by
      obtain ⟨z,e,hz⟩:=h (i + 1) y (by simpa using hy)
      exact ⟨z,e,by rw [show k + 1 + i=k + (i + 1) by omega]; exact hz⟩
    refine ⟨z :: zs,by rw [e,e2]; rfl,fun i z' hi=>?_⟩
    cases i with
    | zero =>
      have:z=z':=by simpa using hi
      rw [← this]
      exact hz
    | succ i =>
      have:=hzs i z' (by simpa using hi)
      rw [show k + (i + 1)=k + 1 + i by omega]
      exact this
theorem ixLetter {K:PySem.W.Frag} {H:Hp} {i:Int} {Q:VK} (h0:0≤i) (h1:i < 26) (q:∀ c:Nat,c < 1114112→Q (.str ⟨#[c]⟩) H):rIx K (.str (Str.ofString "abcdefghijklmnopqrstuvwxyz")) (.int i) H Q:=by
  have e:cod (Str.ofString "abcdefghijklmnopqrstuvwxyz")=(List.range 26).map (· + 97):=by decide +kernel
  have hl:i.toNat < 26:=by omega
  refine .inr (.inr ⟨_,i,i.toNat + 97,rfl,rfl,by decide +kernel,atI_int i.toNat (by omega) ?_,q _ (by omega)⟩)
  show (cod (Str.ofString "abcdefghijklmnopqrstuvwxyz"))[i.toNat]? = _
  rw [e]
  simp [hl]
end L2
namespace L2
open PySem PySem.Spec PyProof.Rows
section
variable {X:Cx} {pins:List (Addr × Obj)} {σ:St} {H:Hp} {s:Shared}
theorem numsAre:∀ {ns:List Int} {us:List Value},Vals (ns.map V.int) us→IntsAre us ns
  | [],_,h=>by cases h; exact .nil
  | n :: r,_,h=>by
    cases h with
    | cons a b =>
      obtain ⟨t,rfl⟩:=a
      exact .cons n t (numsAre b)
variable {ns kz:List Int} {vs:List Value} {D kS l q:Addr} {keys:Array Value} {e e1:Nat} {A:Around} {E:Value→Shared→Prop} {P:PySem.Fin→Shared→Prop}
end
end L2
namespace L2
open PySem PySem.Spec PyProof.Rows BW
section
variable {X:Cx} {pins:List (Addr × Obj)} {σ:St} {H:Hp} {s:Shared} {c P:Addr} {scope:Scope} {params:Arguments} {body:Expr} {lpos:Pos}
end
end L2
namespace BW
open L2
end BW
namespace BW
open L2
end BW
namespace L2
open PySem PySem.Spec PyProof.Rows BW
section
variable {X:Cx} {K:PySem.W.Frag}
def rIndexL (K:PySem.W.Frag):V→List V→Hp→VK→Prop:=fun x xs H Q => ∃ (a:Addr) (ns:List Int) (k:Int),x=.ref a∧xs=[.int k]∧H a=some (.lst (ns.map V.int))∧k∈ns∧Q (.int ((ns.idxOf k:Nat):Int)) H
theorem mt_indexL:MtR X "list.index" (rIndexL K):=by
  intro pins s σ H x xs v us Q I rx r h
  obtain ⟨a,ns,k,rfl,rfl,ha,hm,q⟩:=h
  cases rx
  obtain ⟨u,rfl,t,rfl⟩:=vals1 r
  obtain ⟨z,its,n,rv,hl,e⟩:=I.lstM ha
  have hlen:its.length=ns.length:=by have:=rv.length; simpa using this.symm
  have hi:=List.idxOf_lt_length_iff.mpr hm
  have hia:=numsAre rv
  have item:∀ (j:Nat) (hj:j < ns.length),∃ t,its.toArray[j]'(by simp; omega)=Value.int ns[j] t:=fun j hj=>by
    obtain ⟨u,hu,t,hut⟩:=rv.get (i:=j) (x:=.int ns[j]) (by simp [hj])
    refine ⟨t,?_⟩
    rw [← hut]
    have:=(List.getElem?_eq_some_iff.mp hu).2
    simpa using this
  refine call_meets PySem.F.slot_list_index ⟨_,e,rfl⟩ PySem.F.entry_list_index (PySem.F.args_list_index_2 _ _)
    (MeetsSeq.list_index a its.toArray n (.int k t) (Value.isInt k) (fun y hy=>?_) (ns.idxOf k) (by simp; omega) (by rw [sizeLine_eq] at z; rw [List.length_map] at z; omega) ?_ fun m hm2 hlt=>?_) ⟨e,?_⟩
  · obtain ⟨b,t',rfl⟩:=hia.all y (by simpa using hy)
    exact MeetsSeq.EqGives.int b k t' t
  · obtain ⟨t',h⟩:=item _ hi
    rw [h,List.getElem_idxOf hi]
    simp [Value.isInt]
  · obtain ⟨t',h⟩:=item m (by simp at hm2; omega)
    rw [h]
    have:=List.not_of_lt_findIdx (p:=(· == k)) (xs:=ns) (i:=m) hlt
    simpa [Value.isInt] using this
  · exact ⟨.int _,H,I.tok _,⟨_,rfl⟩,q⟩
end
end L2
namespace L2
open PySem PySem.Spec PyProof.Rows BW
end L2
namespace L2
open PySem PySem.Spec PyProof.Rows BW
theorem Prs.sameB {H H':Hp} {as:List Addr} {ps:List (Int × Int)} (h:Prs H as ps) (s:SameB H H'):Prs H' as ps:=⟨h.1,fun i a p h1 h2=>s.to _ _ (h.2 i a p h1 h2) rfl⟩
end L2
namespace L2
open PySem PySem.Spec PyProof.Rows BW
theorem comp_copyM {K:PySem.W.Frag} {a D:Addr} {rows:List (List Int)} {te:TE} {σf:St} {H1:Hp} {Q:VK} (hM:Mat H1 a rows) (hz:rows.length < sizeLine) (hD1:H1 D=none)
    (hs:∀ ra (row:List Int) H (N:VK),H ra=some (.lst (row.map V.int))→(∀ l H',New H l (.lst (row.map V.int)) H'→N (.ref l) H')→te (some (.ref ra) :: σf) H N)
    (hd:∀ H,Same H1 H→Mat H D rows→Q (.ref D) H):CompW (Itl K a) D (gName 0) tYes te (none :: σf) (upd H1 D (.lst [])) Q:=by
  obtain ⟨ws,hw,hR⟩:=hM
  have lw:(ws.map V.ref).length=rows.length:=by rw [List.length_map,hR.1]
  refine comp_list (fun i y H => ∃ l row,y=.ref l∧l≠D∧rows[i]? = some row∧H l=some (.lst (row.map V.int))) (SqL.of hw) (by rw [lw]; exact hz) hD1 (fun i y H H' k ⟨l,row,e,ne,h1,h2⟩=>⟨l,row,e,ne,h1,k l _ ne h2⟩) ?_ ?_
  · rintro i x H9 ys N hx s9 d9 hN
    obtain ⟨ra,ha,rfl⟩:=ref_at hx
    have hi:i < rows.length:=by rw [← hR.1]; exact (List.getElem?_eq_some_iff.mp ha).1
    have hrow:rows[i]? = some rows[i]:=by simp [hi]
    exact hs ra _ H9 N (s9 _ _ (hR.2 i ra _ ha hrow)) fun l H4 n4=>hN _ _ n4.same ⟨l,_,rfl,(ne_of_none d9 n4.none).symm,hrow,n4.at_⟩
  rintro ys H9 s9 d9 l9 r9
  obtain ⟨ws9,e9,p9⟩:=refs_ex (P:=fun i l => ∃ row,rows[i]? = some row∧H9 l=some (.lst (row.map V.int))) (fun i y e=>by
    obtain ⟨l,row,h1,_,h2,h3⟩:=r9 i y e
    exact ⟨l,h1,row,h2,h3⟩)
  subst e9
  refine hd H9 s9 ⟨ws9,d9,by rw [List.length_map,lw] at l9; exact l9,fun i a' row h1 h2=>?_⟩
  obtain ⟨row',h3,h4⟩:=p9 i a' h1
  rw [h3] at h2
  cases h2
  exact h4
end L2
namespace L2
open PySem PySem.Spec PyProof.Rows BW
def TCF (F:Addr→Prop) (H:Hp) (mv:Addr):Prop:=∃ ls:List Addr,H mv=some (.lst (ls.map V.ref))∧∀ a∈ls,F a
theorem refs_inj {ls ls':List Addr} (h:ls.map V.ref=ls'.map V.ref):ls=ls':=(List.map_inj_right (f:=V.ref) (fun a b z=>V.ref.inj z)).mp h
theorem TCF.at_ {F:Addr→Prop} {H:Hp} {mv:Addr} {ls:List Addr} (h:TCF F H mv) (e:H mv=some (.lst (ls.map V.ref))):∀ a∈ls,F a:=by
  obtain ⟨ls',e',p⟩:=h
  rw [e] at e'
  have:=refs_inj (HO.lst.inj (Option.some.inj e'))
  rw [this]
  exact p
theorem TCF.keep {F:Addr→Prop} {H H':Hp} {mv:Addr} (h:TCF F H mv) (k:∀ o,H mv=some o→H' mv=some o):TCF F H' mv:=by
  obtain ⟨ls',e',p⟩:=h
  exact ⟨ls',k _ e',p⟩
theorem TCF.imp {F G:Addr→Prop} {H:Hp} {mv:Addr} (h:TCF F H mv) (k:∀ a,F a→G a):TCF G H mv:=by
  obtain ⟨ls',e',p⟩:=h
  exact ⟨ls',e',fun a ha=>k a (p a ha)⟩
def sp_hoponF:Sp:=fun vs H Q _ => ∃ (hl gl tl cl:Addr) (hops:List Hop) (gn:Hop→Int) (n N:Nat) (st:TC) (F:Addr→Prop),vs=[.ref hl,.ref gl,.ref tl,.ref cl]∧HopsAt H hl hops∧H gl=some (.lst ((hops.map gn).map V.int))∧TCat H tl cl st∧TCF F H cl∧(∀ a,H a=none→F a)∧hl≠tl∧hl≠cl∧gl≠tl∧gl≠cl∧(∀ m∈hops,m.1 < n∧m.2.2 < n)∧st.1.length=n∧st.2.length=n∧hops.length≤100∧(∀ c∈st.2,c.length≤N)∧N + hops.length≤5000 ∧
  ∀ H',(∀ b o,H b=some o→b≠tl→b≠cl→H' b=some o)→(∀ b,H' b=none→H b=none)→TCat H' tl cl (rndC gn hops st)→TCF F H' cl→(∀ c∈(rndC gn hops st).2,c.length≤N + hops.length)→Q .non H'
def sp_carryF (CH CW CE PT:Addr) (lpos:Pos) (qual:Str):Sp:=fun vs H Q _ => ∃ (wo:Bool) (p sl:Addr) (beds:List Int) (worths:List (List Int)) (rent:Int) (way:List Nat),vs=[.ref p,.ref sl]∧AimAt CH (CC CW CE wo) H p beds worths rent way∧AimOk beds worths way∧Fit (bF beds) way∧Opt beds worths way∧LamAt H PT lpos qual∧H sl=some (.lst ((List.replicate worths.length (0:Int)).map V.int)) ∧
  ∀ (t tl cl:Addr) (hops:List Hop) (st:TC) (H':Hp),SameB H H'→SameO PT H H'→LamAt H' PT lpos qual→H tl=none→H cl=none→H t=none→TCF (fun a=>H a=none) H' cl→(∀ c∈st.2,c.length≤5000)→GreatAt wo H' t tl cl beds worths way hops st→Q (.ref t) H'
def sp_greatF (CH CW CE PT:Addr) (lpos:Pos) (qual:Str):Sp:=fun vs H Q _ => ∃ (wo:Bool) (p:Addr) (beds:List Int) (worths:List (List Int)) (rent:Int) (way:List Nat),vs=[.ref p]∧AimAt CH (CC CW CE wo) H p beds worths rent way∧AimOk beds worths way∧Fit (bF beds) way∧Opt beds worths way∧LamAt H PT lpos qual ∧
  ∀ (t tl cl:Addr) (hops:List Hop) (st:TC) (H':Hp),SameB H H'→SameO PT H H'→LamAt H' PT lpos qual→H tl=none→H cl=none→H t=none→TCF (fun a=>H a=none) H' cl→(∀ c∈st.2,c.length≤5000)→GreatAt wo H' t tl cl beds worths way hops st→Q (.ref t) H'
end L2
namespace L2
open PySem PySem.Spec PyProof.Rows BW
def wholeF (wo:Bool) (worths:List (List Int)) (way:List Nat) (rent:Int):Int:=if wo then wsum (wF worths) way - rent else rent
structure ChsAt (H:Hp) (cl:Addr) (hops:List Hop) (n:Nat) (cs:List (List Hop)):Prop where
  ex:∃ ls:List Addr,H cl=some (.lst (ls.map V.ref))∧ls.length=n∧∀ (i:Nat) a c,ls[i]? = some a→cs[i]? = some c→HopsAt H a c
  len:cs.length=n
  ch:∀ i,i < n→∃ s,ChS hops s (cs.getD i []) i
theorem ChsAt.same {H H':Hp} {cl:Addr} {hops:List Hop} {n:Nat} {cs:List (List Hop)} (h:ChsAt H cl hops n cs) (s:Same H H'):ChsAt H' cl hops n cs:=by
  obtain ⟨ls,e1,e2,e3⟩:=h.ex
  exact ⟨⟨ls,s _ _ e1,e2,fun i a c h1 h2=>(e3 i a c h1 h2).same s⟩,h.len,h.ch⟩
theorem GreatAt.chs {wo:Bool} {H:Hp} {t tl cl:Addr} {beds:List Int} {worths:List (List Int)} {way:List Nat} {hops:List Hop} {st:TC} (g:GreatAt wo H t tl cl beds worths way hops st):ChsAt H cl hops worths.length st.2:=by
  obtain ⟨ls,c1,c2,c3,c4⟩:=g.tc.ex
  refine ⟨⟨ls,c1,by rw [c2,g.ok.l2],c4⟩,g.ok.l2,fun i hi=>?_⟩
  obtain ⟨s,_,h,_⟩:=g.ok.at_ i hi
  exact ⟨s,h⟩
def sp_bound (CH CW CE:Addr):Sp:=fun vs H Q _ => ∃ (wo:Bool) (p cl:Addr) (beds:List Int) (worths:List (List Int)) (rent:Int) (way:List Nat) (hops:List Hop) (cs:List (List Hop)),vs=[.ref p,.ref cl]∧AimAt CH (CC CW CE wo) H p beds worths rent way∧AimOk beds worths way∧GoodHops wo beds worths way hops∧ChsAt H cl hops worths.length cs ∧
  ∀ (t:Addr) (H':Hp),Same H H'→H t=none→H' t=some (.tup [.int (wholeF wo worths way rent - (cs.map (wt (gnF wo worths way))).sum),.int (worths.length:Int)])→Q (.ref t) H'
theorem mem_wI {way:List Nat} {r:Nat}:(r:Int)∈wI way ↔ r∈way:=by
  constructor
  · intro h
    obtain ⟨k,hk,e⟩:=List.mem_map.mp h
    have:k=r:=by
      have e':(k:Int)=(r:Int):=e
      omega
    exact this ▸ hk
  · exact fun h=>List.mem_map.mpr ⟨r,h,rfl⟩
theorem idxOf_wI (r:Nat):∀ way:List Nat,(wI way).idxOf (r:Int)=way.idxOf r
  | []=>rfl
  | a :: l=>by
    have ih:=idxOf_wI r l
    unfold wI at ih ⊢
    rw [List.map_cons,List.idxOf_cons,List.idxOf_cons,ih]
    by_cases h:a=r
    · subst h
      simp
    · have h1:((a:Int) == (r:Int))=false:=by
        have:¬ (a:Int)=(r:Int):=by omega
        exact beq_eq_false_iff_ne.mpr this
      have h2:(a == r)=false:=by simpa using h
      rw [show ((fun x:Nat=>(x:Int)) a == (r:Int))=false from h1,h2]
def costF (wo:Bool) (worths:List (List Int)) (way:List Nat) (lv:List Int) (parts:Int) (i:Nat):Int:=if wo then parts * ownF worths way i - lv.getD i 0 else lv.getD i 0
def costL (wo:Bool) (worths:List (List Int)) (way:List Nat) (lv:List Int) (parts:Int):List Int:=(List.range worths.length).map (costF wo worths way lv parts)
def IsLeast (z:Int) (ns:List Int):Prop:=z∈ns∧∀ y∈ns,z≤y
def IsRoom (way:List Nat) (cs:List Int) (r:Nat) (z:Int):Prop:=if r∈way then z=cs.getD (way.idxOf r) 0 else IsLeast z cs
def sp_roomprice (K:PySem.W.Frag) (CH CW CE:Addr):Sp:=fun vs H Q _ => ∃ (wo:Bool) (p cl:Addr) (beds:List Int) (worths:List (List Int)) (rent:Int) (way:List Nat) (cs:List Int) (r:Nat),vs=[.ref p,.ref cl,.int (r:Int)]∧AimAt CH (CC CW CE wo) H p beds worths rent way∧AimOk beds worths way∧H cl=some (.lst (cs.map V.int))∧cs.length=worths.length∧0 < worths.length ∧
  ∀ (z:Int),IsRoom way cs r z→Q (.int z) H
def IsRows (beds:List Int) (way:List Nat) (cs rows:List Int):Prop:=rows.length=beds.length∧∀ (r:Nat) z,rows[r]? = some z→IsRoom way cs r z
def sp_lowestF (K:PySem.W.Frag):Sp:=fun vs H Q _ => ∃ (parts:Int) (r:Addr) (rows:List Int),vs=[.int parts,.ref r]∧SqL K H r (rows.map V.int)∧rows.length≤1000∧0 < parts∧parts < 10 ^ 100 ∧
  ∀ (t l:Addr) (H':Hp),H l=none→Same H H'→H' t=some (.tup [.int (parts / ((gcdL parts.natAbs rows:Nat):Int)),.ref l])→H' l=some (.lst ((rows.map fun x=>x / ((gcdL parts.natAbs rows:Nat):Int)).map V.int))→Q (.ref t) H'
def sp_pricesat (K:PySem.W.Frag) (CH CW CE:Addr):Sp:=fun vs H Q _ => ∃ (wo:Bool) (p ll:Addr) (beds:List Int) (worths:List (List Int)) (rent:Int) (way:List Nat) (lv:List Int) (parts:Int),vs=[.ref p,.ref ll,.int parts]∧AimAt CH (CC CW CE wo) H p beds worths rent way∧AimOk beds worths way∧H ll=some (.lst (lv.map V.int))∧lv.length=worths.length∧0 < worths.length∧0 < parts∧parts < 1000∧(∀ row∈worths,∀ x∈row,-(10 ^ 42) < x∧x < 10 ^ 42) ∧
  ∀ (rows:List Int) (t l:Addr) (H':Hp),IsRows beds way (costL wo worths way lv parts) rows→H l=none→Same H H'→H' t=some (.tup [.int (parts / ((gcdL parts.natAbs rows:Nat):Int)),.ref l])→H' l=some (.lst ((rows.map fun x=>x / ((gcdL parts.natAbs rows:Nat):Int)).map V.int))→Q (.ref t) H'
def lvL (wo:Bool) (worths:List (List Int)) (way:List Nat) (rent:Int) (gs:List Int):List Int:=gs.map fun g=>(wholeF wo worths way rent - gs.sum) + (worths.length:Int) * g
structure DivAt (wo:Bool) (H:Hp) (t tp rl cl:Addr) (beds:List Int) (worths:List (List Int)) (rent:Int) (way:List Nat) (hops:List Hop) (st:TC) (rows:List Int):Prop where
  tup:H t=some (.tup [.ref tp,.ref cl])
  pr:H tp=some (.tup [.int ((worths.length:Int) / ((gcdL worths.length rows:Nat):Int)),.ref rl])
  rl_:H rl=some (.lst ((rows.map fun x=>x / ((gcdL worths.length rows:Nat):Int)).map V.int))
  isr:IsRows beds way (costL wo worths way (lvL wo worths way rent st.1) (worths.length:Int)) rows
  chs:ChsAt H cl hops worths.length st.2
  good:GoodHops wo beds worths way hops
  ok:OkC hops (gnF wo worths way) worths.length st
  nn:∀ b,b < worths.length→0≤st.1.getD b 0
  cl_:∀ a b r:Nat,a < worths.length→b < worths.length→a≠b→(r:Int)∈thruL wo beds way a b→st.1.getD a 0 + gainF wo worths way a r b≤st.1.getD b 0
  cb:∀ c∈st.2,c.length≤5000
def sp_divide (CH CW CE PT:Addr) (lpos:Pos) (qual:Str):Sp:=fun vs H Q _ => ∃ (wo:Bool) (p:Addr) (beds:List Int) (worths:List (List Int)) (rent:Int) (way:List Nat),vs=[.ref p]∧AimAt CH (CC CW CE wo) H p beds worths rent way∧AimOk beds worths way∧Fit (bF beds) way∧Opt beds worths way∧LamAt H PT lpos qual∧0 < worths.length∧(∀ row∈worths,∀ x∈row,-(10 ^ 42) < x∧x < 10 ^ 42) ∧
  ∀ (t tp rl cl:Addr) (hops:List Hop) (st:TC) (rows:List Int) (H':Hp),SameB H H'→SameO PT H H'→LamAt H' PT lpos qual→H cl=none→H rl=none→rl≠cl→TCF (fun a=>H a=none∧a≠rl) H' cl→DivAt wo H' t tp rl cl beds worths rent way hops st rows→Q (.ref t) H'
theorem okC_sum {hs:List Hop} {gn:Hop→Int} {n:Nat} {st:TC} (h:OkC hs gn n st):(st.2.map (wt gn))=st.1:=by
  refine List.ext_getElem (by simp [h.l1,h.l2]) fun i a b=>?_
  have hi:i < n:=by rw [← h.l1]; exact b
  have h2:i < st.2.length:=by rw [h.l2]; exact hi
  obtain ⟨s,_,_,e⟩:=h.at_ i hi
  have e1:st.2.getD i []=st.2[i]:=by simp [List.getD,h2]
  have e2:st.1.getD i 0=st.1[i]:=by simp [List.getD,b]
  rw [e1,e2] at e
  simpa using e
theorem wF_bd {worths:List (List Int)} (hx:∀ row∈worths,∀ x∈row,-(10 ^ 42) < x∧x < 10 ^ 42) (i r:Nat):-(10 ^ 42) < wF worths i r∧wF worths i r < 10 ^ 42:=by
  have z:-(10 ^ 42) < (0:Int)∧(0:Int) < 10 ^ 42:=by decide
  unfold wF
  by_cases h:i < worths.length
  · have e1:worths.getD i []=worths[i]:=by simp [List.getD,h]
    rw [e1]
    by_cases h2:r < (worths[i]).length
    · have e2:(worths[i]).getD r 0=(worths[i])[r]:=by simp [List.getD,h2]
      rw [e2]
      exact hx _ (List.getElem_mem h) _ (List.getElem_mem h2)
    · have e2:(worths[i]).getD r 0=0:=by simp [List.getD,h2]
      rw [e2]
      exact z
  · have e1:worths.getD i []=[]:=by simp [List.getD,h]
    rw [e1]
    exact z
theorem gnF_bd {worths:List (List Int)} (hx:∀ row∈worths,∀ x∈row,-(10 ^ 42) < x∧x < 10 ^ 42) (wo:Bool) (way:List Nat) (m:Hop):-(2 * 10 ^ 42)≤gnF wo worths way m∧gnF wo worths way m≤2 * 10 ^ 42:=by
  unfold gnF gainF ownF
  have a:=wF_bd hx (if wo then m.2.2 else m.1) m.2.1
  have b:=wF_bd hx m.1 (way.getD m.1 0)
  omega
theorem wt_bd {gn:Hop→Int} {B:Int} (h:∀ m,-B≤gn m∧gn m≤B):∀ c:List Hop,-(c.length * B)≤wt gn c∧wt gn c≤c.length * B
  | []=>by simp [wt]
  | m :: c=>by
    have ih:=wt_bd h c
    have hm:=h m
    have e:wt gn (m :: c)=gn m + wt gn c:=by simp [wt]
    rw [e,List.length_cons,show ((c.length + 1:Nat):Int) * B=c.length * B + B by rw [Int.natCast_add,Int.add_mul]; simp]
    omega
theorem great_bd {wo:Bool} {worths:List (List Int)} {way:List Nat} {hops:List Hop} {st:TC} (hx:∀ row∈worths,∀ x∈row,-(10 ^ 42) < x∧x < 10 ^ 42) (ok:OkC hops (gnF wo worths way) worths.length st) (cb:∀ c∈st.2,c.length≤5000):∀ z∈st.1,-(10 ^ 46)≤z∧z≤10 ^ 46:=fun z hz=>by
  rw [← okC_sum ok] at hz
  obtain ⟨c,hc,rfl⟩:=List.mem_map.mp hz
  have h:=wt_bd (gnF_bd hx wo way) c
  have hl:=cb c hc
  have:(c.length:Int) * (2 * 10 ^ 42)≤5000 * (2 * 10 ^ 42):=Int.mul_le_mul_of_nonneg_right (by omega) (by decide)
  have e:(5000:Int) * (2 * 10 ^ 42)=10 ^ 46:=by decide
  omega
end L2
namespace L2
open PySem PySem.Spec PyProof.Rows BW
theorem getD_get {α:Type} {d:α} (l:List α) (i:Nat) (h:i < l.length):l.getD i d=l[i]:=by simp [List.getD,h]
def Closed (wo:Bool) (beds:List Int) (worths:List (List Int)) (way:List Nat) (gs:List Int):Prop:=∀ a b r:Nat,a < worths.length→b < worths.length→a≠b→(r:Int)∈thruL wo beds way a b→gs.getD a 0 + gainF wo worths way a r b≤gs.getD b 0
theorem thru_own (wo:Bool) (beds:List Int) (way:List Nat) (a b:Nat):((way.getD (if wo then a else b) 0:Nat):Int)∈thruL wo beds way a b:=by
  unfold thruL
  exact List.mem_append_right _ (by simp)
theorem lv_at {wo:Bool} {worths:List (List Int)} {way:List Nat} {rent:Int} {gs:List Int} {i:Nat} (h:i < gs.length):(lvL wo worths way rent gs).getD i 0=(wholeF wo worths way rent - gs.sum) + (worths.length:Int) * gs.getD i 0:=by
  unfold lvL
  simp [List.getD,h]
theorem cost_same {wo:Bool} {beds:List Int} {worths:List (List Int)} {way:List Nat} {rent:Int} {gs:List Int} (lg:gs.length=worths.length) (hc:Closed wo beds worths way gs) {a b:Nat} (ha:a < worths.length) (hb:b < worths.length) (h:way.getD a 0=way.getD b 0) :
    costF wo worths way (lvL wo worths way rent gs) (worths.length:Int) a=costF wo worths way (lvL wo worths way rent gs) (worths.length:Int) b:=by
  by_cases e:a=b
  · rw [e]
  have h1:=hc a b _ ha hb e (thru_own wo beds way a b)
  have h2:=hc b a _ hb ha (Ne.symm e) (thru_own wo beds way b a)
  unfold costF
  rw [lv_at (by omega),lv_at (by omega)]
  cases wo with
  | true =>
    simp only [if_pos,gainF] at h1 h2 ⊢
    have e1:wF worths b (way.getD a 0)=ownF worths way b:=by rw [h]; rfl
    have e2:wF worths a (way.getD b 0)=ownF worths way a:=by rw [← h]; rfl
    rw [e1] at h1
    rw [e2] at h2
    have e3:ownF worths way a - gs.getD a 0=ownF worths way b - gs.getD b 0:=by omega
    have e4:(worths.length:Int) * ownF worths way a - (worths.length:Int) * gs.getD a 0=(worths.length:Int) * ownF worths way b - (worths.length:Int) * gs.getD b 0:=by rw [← Int.mul_sub,← Int.mul_sub,e3]
    omega
  | false =>
    simp only [Bool.false_eq_true,if_false,gainF] at h1 h2 ⊢
    have e1:wF worths a (way.getD b 0)=ownF worths way a:=by rw [← h]; rfl
    have e2:wF worths b (way.getD a 0)=ownF worths way b:=by rw [h]; rfl
    rw [e1] at h1
    rw [e2] at h2
    have e3:gs.getD a 0=gs.getD b 0:=by omega
    rw [e3]
theorem sum_lin2 (n:Int) (f g:Nat→Int):∀ l:List Nat,(l.map fun i=>n * f i - g i).sum=n * (l.map f).sum - (l.map g).sum
  | []=>by simp
  | a :: l=>by
    simp only [List.map_cons,List.sum_cons,sum_lin2 n f g l,Int.mul_add]
    omega
theorem sum_lv (L n:Int) (gs:List Int):(gs.map fun g=>L + n * g).sum=gs.length * L + n * gs.sum:=by
  induction gs with
  | nil=>simp
  | cons a l ih =>
    simp only [List.map_cons,List.sum_cons,ih,Int.mul_add,List.length_cons,Int.natCast_add,Int.add_mul]
    simp
    omega
theorem range_getD:∀ (gs:List Int),((List.range gs.length).map fun i=>gs.getD i 0)=gs:=fun gs=>by
  refine List.ext_getElem (by simp) fun i a b=>?_
  simp [List.getD,b]
theorem sum_cost {wo:Bool} {worths:List (List Int)} {way:List Nat} {rent:Int} {gs:List Int} (lg:gs.length=worths.length) (lw:way.length=worths.length) :
    (costL wo worths way (lvL wo worths way rent gs) (worths.length:Int)).sum=worths.length * rent:=by
  have hl:(lvL wo worths way rent gs).length=worths.length:=by simp [lvL,lg]
  have h2:((List.range worths.length).map fun i=>(lvL wo worths way rent gs).getD i 0)=lvL wo worths way rent gs:=by rw [← hl]; exact range_getD _
  have h3:(lvL wo worths way rent gs).sum=worths.length * wholeF wo worths way rent:=by
    unfold lvL
    rw [sum_lv,lg,← Int.mul_add]
    congr 1
    omega
  unfold costL
  cases wo with
  | true =>
    have e:((List.range worths.length).map (costF true worths way (lvL true worths way rent gs) (worths.length:Int)))=(List.range worths.length).map fun i=>(worths.length:Int) * ownF worths way i - (lvL true worths way rent gs).getD i 0:=List.map_congr_left fun i _=>by simp [costF]
    rw [e,sum_lin2,h2,h3]
    have ew:((List.range worths.length).map (ownF worths way)).sum=wsum (wF worths) way:=by
      unfold wsum
      rw [lw]
      rfl
    rw [ew]
    unfold wholeF
    rw [if_pos rfl,← Int.mul_sub]
    congr 1
    omega
  | false =>
    have e:((List.range worths.length).map (costF false worths way (lvL false worths way rent gs) (worths.length:Int)))=(List.range worths.length).map fun i=>(lvL false worths way rent gs).getD i 0:=List.map_congr_left fun i _=>by simp [costF]
    rw [e,h2,h3]
    rfl
theorem rows_at {wo:Bool} {beds:List Int} {worths:List (List Int)} {way:List Nat} {rent:Int} {gs rows:List Int} (lg:gs.length=worths.length) (lw:way.length=worths.length) (lt:∀ r∈way,r < beds.length) (hc:Closed wo beds worths way gs)
    (h:IsRows beds way (costL wo worths way (lvL wo worths way rent gs) (worths.length:Int)) rows) {p:Nat} (hp:p < worths.length):rows.getD (way.getD p 0) 0=costF wo worths way (lvL wo worths way rent gs) (worths.length:Int) p:=by
  have hp':p < way.length:=by omega
  have e0:way.getD p 0=way[p]:=getD_get _ _ hp'
  have hm:way.getD p 0∈way:=by rw [e0]; exact List.getElem_mem hp'
  generalize hr0:way.getD p 0=r at *
  have hr2:r < rows.length:=by rw [h.1]; exact lt _ hm
  have h2:=h.2 r (rows[r]'hr2) (List.getElem?_eq_getElem hr2)
  unfold IsRoom at h2
  rw [if_pos hm] at h2
  have hi:way.idxOf r < way.length:=List.idxOf_lt_length_iff.mpr hm
  have hg:way.getD (way.idxOf r) 0=r:=by rw [getD_get _ _ hi]; exact List.getElem_idxOf hi
  rw [getD_get _ _ hr2,h2]
  have hi2:way.idxOf r < worths.length:=by omega
  have lc:(costL wo worths way (lvL wo worths way rent gs) (worths.length:Int)).length=worths.length:=by simp [costL]
  rw [getD_get _ _ (by rw [lc]; exact hi2)]
  have e2:∀ (k:Nat) (hk:k < (costL wo worths way (lvL wo worths way rent gs) (worths.length:Int)).length),(costL wo worths way (lvL wo worths way rent gs) (worths.length:Int))[k]=costF wo worths way (lvL wo worths way rent gs) (worths.length:Int) k:=fun k hk=>by simp [costL]
  rw [e2]
  exact cost_same lg hc hi2 hp (by rw [hg,hr0])
end L2
namespace L2
open PySem PySem.Spec PyProof.Rows BW
end L2
namespace L2
open PySem PySem.Spec PyProof.Rows BW
theorem thru_open {wo:Bool} {beds:List Int} {way:List Nat} {a b r:Nat} (h:(r:Int)∈openL beds (wI way)):(r:Int)∈thruL wo beds way a b:=List.mem_append_left _ h
section
variable {wo:Bool} {beds:List Int} {worths:List (List Int)} {way:List Nat} {rent:Int} {gs:List Int}
theorem no_rather (lg:gs.length=worths.length) (hc:Closed wo beds worths way gs) {i c r:Nat} (hi:i < worths.length) (hcn:c < worths.length) (hr:r=way.getD c 0∨(r:Int)∈openL beds (wI way)) (hown:i=c→wF worths i r≤ownF worths way i) :
    (worths.length:Int) * wF worths i r - costF wo worths way (lvL wo worths way rent gs) (worths.length:Int) c≤(worths.length:Int) * ownF worths way i - costF wo worths way (lvL wo worths way rent gs) (worths.length:Int) i:=by
  have n0:(0:Int)≤(worths.length:Int):=by omega
  by_cases e:i=c
  · have h1:=Int.mul_le_mul_of_nonneg_left (hown e) n0
    subst e
    omega
  unfold costF
  rw [lv_at (by omega),lv_at (by omega)]
  cases wo with
  | true =>
    have hm:(r:Int)∈thruL true beds way c i:=by
      rcases hr with h | h
      · rw [h]; exact thru_own true beds way c i
      · exact thru_open h
    have h1:=hc c i r hcn hi (Ne.symm e) hm
    simp only [if_pos,gainF] at h1 ⊢
    have h2:wF worths i r - ownF worths way c + gs.getD c 0≤gs.getD i 0:=by omega
    have h3:=Int.mul_le_mul_of_nonneg_left h2 n0
    rw [Int.mul_add,Int.mul_sub] at h3
    omega
  | false =>
    have hm:(r:Int)∈thruL false beds way i c:=by
      rcases hr with h | h
      · rw [h]; exact thru_own false beds way i c
      · exact thru_open h
    have h1:=hc i c r hi hcn e hm
    simp only [Bool.false_eq_true,if_false,gainF] at h1 ⊢
    have h2:wF worths i r - ownF worths way i + gs.getD i 0≤gs.getD c 0:=by omega
    have h3:=Int.mul_le_mul_of_nonneg_left h2 n0
    rw [Int.mul_add,Int.mul_sub] at h3
    omega
theorem open_cheap (lg:gs.length=worths.length) (hc:Closed wo beds worths way gs) {b c:Nat} (hb:b < worths.length) (hcn:c < worths.length) (ho:((way.getD b 0:Nat):Int)∈openL beds (wI way)) :
    costF wo worths way (lvL wo worths way rent gs) (worths.length:Int) b≤costF wo worths way (lvL wo worths way rent gs) (worths.length:Int) c:=by
  have h:=no_rather (rent:=rent) lg hc (i:=b) (c:=c) (r:=way.getD b 0) hb hcn (.inr ho) (fun _=>Int.le_refl _)
  have e:wF worths b (way.getD b 0)=ownF worths way b:=rfl
  rw [e] at h
  omega
end
end L2
namespace L2
open PySem PySem.Spec PyProof.Rows BW
theorem open_own {beds:List Int} {worths:List (List Int)} {way:List Nat} (ok:AimOk beds worths way) (hfit:Fit (bF beds) way) (hopt:Opt beds worths way) {i r:Nat} (hi:i < worths.length) (hr:r < beds.length) (ho:way.count r < bF beds r):wF worths i r≤ownF worths way i:=by
  obtain ⟨g,g1,g2,g3⟩:=price_ex (bF_out beds) hfit hopt
  have hi':i < way.length:=by rw [ok.len]; exact hi
  have h1:=g1 i hi' r hr
  have h2:=g2 way[i]
  have h3:=g3 r ho
  have e:ownF worths way i=wF worths i way[i]:=by unfold ownF; rw [getD_get _ _ hi']
  rw [e]
  omega
theorem open_mem {beds:List Int} {way:List Nat} {r:Nat} (hr:r < beds.length) (ho:way.count r < bF beds r):(r:Int)∈openL beds (wI way):=mem_open.mpr ⟨r,rfl,hr,ho⟩
theorem lies {way:List Nat} {r:Nat} (h:r∈way):∃ c,c < way.length∧way.getD c 0=r:=by
  have hi:way.idxOf r < way.length:=List.idxOf_lt_length_iff.mpr h
  exact ⟨_,hi,by rw [getD_get _ _ hi]; exact List.getElem_idxOf hi⟩
theorem mem_at {way:List Nat} {p:Nat} (h:p < way.length):way.getD p 0∈way:=by rw [getD_get _ _ h]; exact List.getElem_mem h
section
variable {wo:Bool} {beds:List Int} {worths:List (List Int)} {way:List Nat} {rent:Int} {gs rows:List Int}
theorem cost_mem {c:Int} (h:c∈costL wo worths way (lvL wo worths way rent gs) (worths.length:Int)):∃ p,p < worths.length∧c=costF wo worths way (lvL wo worths way rent gs) (worths.length:Int) p:=by
  obtain ⟨p,hp,rfl⟩:=List.mem_map.mp h
  exact ⟨p,List.mem_range.mp hp,rfl⟩
theorem mem_cost {p:Nat} (h:p < worths.length):costF wo worths way (lvL wo worths way rent gs) (worths.length:Int) p∈costL wo worths way (lvL wo worths way rent gs) (worths.length:Int):=List.mem_map.mpr ⟨p,List.mem_range.mpr h,rfl⟩
theorem rows_empty (h:IsRows beds way (costL wo worths way (lvL wo worths way rent gs) (worths.length:Int)) rows) {r:Nat} (hr:r < beds.length) (hw:r ∉ way):IsLeast (rows.getD r 0) (costL wo worths way (lvL wo worths way rent gs) (worths.length:Int)):=by
  have hr2:r < rows.length:=by rw [h.1]; exact hr
  have h2:=h.2 r (rows[r]'hr2) (List.getElem?_eq_getElem hr2)
  unfold IsRoom at h2
  rw [if_neg hw] at h2
  rw [getD_get _ _ hr2]
  exact h2
theorem rows_noEnvy (ok:AimOk beds worths way) (hfit:Fit (bF beds) way) (hopt:Opt beds worths way) (hb1:∀ b∈beds,1≤b) (lg:gs.length=worths.length) (hc:Closed wo beds worths way gs) (h:IsRows beds way (costL wo worths way (lvL wo worths way rent gs) (worths.length:Int)) rows) {i r:Nat} (hi:i < worths.length) (hr:r < beds.length) :
    (worths.length:Int) * wF worths i r - rows.getD r 0≤(worths.length:Int) * wF worths i (way.getD i 0) - rows.getD (way.getD i 0) 0:=by
  rw [rows_at lg ok.len ok.lt hc h hi]
  have lw:=ok.len
  by_cases hw:r∈way
  · obtain ⟨c,hc1,hc2⟩:=lies hw
    have e:=rows_at (rent:=rent) lg ok.len ok.lt hc h (p:=c) (by omega)
    rw [hc2] at e
    rw [e]
    refine no_rather (rent:=rent) lg hc hi (c:=c) (r:=r) (by omega) (.inl hc2.symm) fun z=>?_
    subst z
    rw [← hc2]
    exact Int.le_refl _
  · obtain ⟨h1,h2⟩:=rows_empty h hr hw
    obtain ⟨c,hc1,hc2⟩:=cost_mem h1
    have ho:way.count r < bF beds r:=by
      rw [List.count_eq_zero.mpr hw]
      have:=hb1 (beds[r]) (List.getElem_mem hr)
      unfold bF
      rw [getD_get _ _ hr]
      omega
    rw [hc2]
    exact no_rather (rent:=rent) lg hc hi (c:=c) (r:=r) hc1 (.inr (open_mem hr ho)) fun _=>open_own ok hfit hopt hi hr ho
theorem rows_noDear (ok:AimOk beds worths way) (lg:gs.length=worths.length) (hc:Closed wo beds worths way gs) (h:IsRows beds way (costL wo worths way (lvL wo worths way rent gs) (worths.length:Int)) rows) {r q:Nat} (hr:r < beds.length) (ho:way.count r < bF beds r) (hq:q∈way):rows.getD r 0≤rows.getD q 0:=by
  have lw:=ok.len
  obtain ⟨c,hc1,hc2⟩:=lies hq
  have e:=rows_at (rent:=rent) lg ok.len ok.lt hc h (p:=c) (by omega)
  rw [hc2] at e
  rw [e]
  by_cases hw:r∈way
  · obtain ⟨b,hb1,hb2⟩:=lies hw
    have e2:=rows_at (rent:=rent) lg ok.len ok.lt hc h (p:=b) (by omega)
    rw [hb2] at e2
    rw [e2]
    refine open_cheap (rent:=rent) lg hc (by omega) (by omega) ?_
    rw [hb2]
    exact open_mem hr ho
  · exact (rows_empty h hr hw).2 _ (mem_cost (by omega))
theorem rows_sum (ok:AimOk beds worths way) (lg:gs.length=worths.length) (hc:Closed wo beds worths way gs) (h:IsRows beds way (costL wo worths way (lvL wo worths way rent gs) (worths.length:Int)) rows):(way.map fun r=>rows.getD r 0).sum=worths.length * rent:=by
  rw [← sum_cost (wo:=wo) (rent:=rent) lg ok.len]
  congr 1
  refine List.ext_getElem (by simp [costL,ok.len]) fun p a b=>?_
  have hp:p < way.length:=by simpa using a
  have e:=rows_at (rent:=rent) lg ok.len ok.lt hc h (p:=p) (by rw [← ok.len]; exact hp)
  rw [getD_get _ _ hp] at e
  simp only [List.getElem_map,costL,List.getElem_range]
  exact e
end
structure Low (n:Int) (rows:List Int) (d:Int) (k:Int) (R:List Int):Prop where
  d0:0 < d
  n_:n=d * k
  len:R.length=rows.length
  at_:∀ r,rows.getD r 0=d * R.getD r 0
theorem low_mk {n:Nat} {rows:List Int} (h:0 < n):Low n rows ((gcdL n rows:Nat):Int) ((n:Int) / ((gcdL n rows:Nat):Int)) (rows.map fun x=>x / ((gcdL n rows:Nat):Int)):=by
  have hd0:0 < gcdL n rows:=gcdL_pos _ _ h
  have hdn:((gcdL n rows:Nat):Int) ∣ (n:Int):=Int.ofNat_dvd.mpr (gcdL_dvd_start _ _)
  have hdr:∀ x∈rows,((gcdL n rows:Nat):Int) ∣ x:=fun x hx=>Int.ofNat_dvd_left.mpr (gcdL_dvd_mem rows _ x hx)
  refine ⟨by omega,(Int.mul_ediv_cancel' hdn).symm,by simp,fun r=>?_⟩
  by_cases hr:r < rows.length
  · rw [getD_get _ _ hr,getD_get _ _ (by simpa using hr),List.getElem_map]
    exact (Int.mul_ediv_cancel' (hdr _ (List.getElem_mem hr))).symm
  · have e1:rows.getD r 0=0:=by simp [List.getD,hr]
    have e2:(rows.map fun x=>x / ((gcdL n rows:Nat):Int)).getD r 0=0:=by simp [List.getD,hr]
    rw [e1,e2,Int.mul_zero]
theorem DivAt.low {wo:Bool} {H:Hp} {t tp rl cl:Addr} {beds:List Int} {worths:List (List Int)} {rent:Int} {way:List Nat} {hops:List Hop} {st:TC} {rows:List Int} (_:DivAt wo H t tp rl cl beds worths rent way hops st rows) (l0:0 < worths.length):Low worths.length rows ((gcdL worths.length rows:Nat):Int) ((worths.length:Int) / ((gcdL worths.length rows:Nat):Int)) (rows.map fun x=>x / ((gcdL worths.length rows:Nat):Int)):=low_mk l0
theorem div_fpok {beds:List Int} {worths:List (List Int)} {rent:Int} {way:List Nat} {rows:List Int} {d k:Int} {R:List Int} (ok:AimOk beds worths way) (hfit:Fit (bF beds) way) (lr:rows.length=beds.length) (hx:∀ row∈worths,∀ x∈row,-(10 ^ 42) < x∧x < 10 ^ 42) (hre:-(10 ^ 42) < rent∧rent < 10 ^ 42) (l0:0 < worths.length) (low:Low worths.length rows d k R):FpOk' ⟨beds,worths,rent,way,k,R⟩:=by
  have k1:0 < k∧k≤10:=by
    have h1:=low.n_
    have h2:=low.d0
    have h3:=ok.bok.w1
    constructor
    · refine Classical.byContradiction fun z=>?_
      have:=Int.mul_nonneg (show 0≤d by omega) (show 0≤-k by omega)
      rw [Int.mul_neg] at this
      omega
    · refine Classical.byContradiction fun z=>?_
      have:=Int.mul_le_mul_of_nonneg_right (show 1≤d by omega) (show 0≤k by omega)
      omega
  have e:(10:Int) ^ 42 < 10 ^ 100:=by decide
  refine ⟨ok.bok.b1,ok.bok.w1,ok.bok.rows,by show R.length=beds.length; rw [low.len,lr],ok.len,hfit,?_,?_,fun row hr x hxr=>?_⟩
  · show -(10 ^ 100) < k∧k < 10 ^ 100
    omega
  · show -(10 ^ 100) < rent∧rent < 10 ^ 100
    omega
  · have:=hx row hr x hxr
    omega
end L2
namespace L2
open PySem PySem.Spec PyProof.Rows BW
theorem least_of (f:Nat→Int):∀ u:List Nat,0 < u.length→∃ m∈u,∀ q∈u,f m≤f q:=by
  intro u
  induction u with
  | nil=>intro h; simp at h
  | cons x u ih =>
    intro _
    cases u with
    | nil=>exact ⟨x,by simp,fun q hq=>by simp at hq; rw [hq]; exact Int.le_refl _⟩
    | cons y u =>
      obtain ⟨m,h1,h2⟩:=ih (by simp)
      by_cases hxm:f x≤f m
      · refine ⟨x,by simp,fun q hq=>?_⟩
        rcases List.mem_cons.mp hq with z | z
        · rw [z]; exact Int.le_refl _
        · exact Int.le_trans hxm (h2 q z)
      · refine ⟨m,List.mem_cons_of_mem _ h1,fun q hq=>?_⟩
        rcases List.mem_cons.mp hq with z | z
        · rw [z]; omega
        · exact h2 q z
theorem fair_any {F:Fp} (hp:0 < F.parts) (w1:0 < F.worths.length) (l:F.way.length=F.worths.length) (fit:Fit (bF F.beds) F.way) (fair:F.is .none) {v:List Nat} (hl:v.length=F.worths.length) (hf:Fit (bF F.beds) v) :
    wsum (wF F.worths) v≤wsum (wF F.worths) F.way∧(wsum (wF F.worths) v=wsum (wF F.worths) F.way→Fp.is { F with way:=v } .none∧∀ i,i < F.worths.length→F.share i (v.getD i 0)=F.share i (F.way.getD i 0)):=by
  obtain ⟨sm,ne,nd⟩:=fair
  have hvl:=fit_lt hf
  have hwl:=fit_lt fit
  have hat:∀ (u:List Nat),u.length=F.worths.length→(∀ r∈u,r < F.beds.length)→∀ i,i < F.worths.length→u.getD i 0 < F.beds.length:=fun u hu hr i hi=>hr _ (mem_at (by omega))
  have hS:∀ i,i < F.worths.length→F.share i (v.getD i 0)≤F.share i (F.way.getD i 0):=fun i hi=>by
    have:=ne i (v.getD i 0) hi (hat v hl hvl i hi)
    unfold Fp.envies at this
    omega
  have hw:∀ u:List Nat,u.length=F.worths.length→F.parts * wsum (wF F.worths) u=((List.range F.worths.length).map fun i=>F.share i (u.getD i 0)).sum + (u.map fun r=>F.rows.getD r 0).sum:=fun u hu=>by
    rw [map_range (α:=Nat) u,← hu,← rsum_add]
    unfold wsum
    have e0:=sum_lin2 F.parts (fun i=>wF F.worths i (u.getD i 0)) (fun _=>0) (List.range u.length)
    have e1:((List.range u.length).map fun i=>F.parts * wF F.worths i (u.getD i 0) - (fun _=>(0:Int)) i).sum=((List.range u.length).map fun i=>F.share i (u.getD i 0) + F.rows.getD (u.getD i 0) 0).sum:=by
      congr 1
      refine List.map_congr_left fun i _=>?_
      show F.parts * wF F.worths i (u.getD i 0) - 0=F.parts * wF F.worths i (u.getD i 0) - F.rows.getD (u.getD i 0) 0 + F.rows.getD (u.getD i 0) 0
      omega
    have e2:((List.range u.length).map fun _=>(0:Int)).sum=0:=by
      generalize u.length=n
      induction n with
      | zero=>simp
      | succ n ih=>rw [List.range_succ,List.map_append,List.sum_append,ih]; simp
    rw [← e1,e0,e2]
    omega
  obtain ⟨c,hc1,hc2⟩:∃ c:Int,(∀ r,r < F.beds.length→F.open_ r→F.rows.getD r 0≤c)∧∀ q,q < F.beds.length→F.taken q→c≤F.rows.getD q 0:=by
    have hne:0 < F.way.length:=by omega
    obtain ⟨m,hm1,hm2⟩:=least_of (fun r=>F.rows.getD r 0) F.way hne
    refine ⟨F.rows.getD m 0,fun r hr ho=>?_,fun q hq ht=>hm2 q (List.count_pos_iff.mp ht)⟩
    have:=nd r m hr (hwl m hm1)
    unfold Fp.dear at this
    refine Classical.byContradiction fun z=>this ⟨ho,List.count_pos_iff.mpr hm1,by omega⟩
  have hterm:∀ r,r < F.beds.length→(F.rows.getD r 0 - c) * ((v.count r:Nat):Int)≤(F.rows.getD r 0 - c) * ((F.way.count r:Nat):Int):=fun r hr=>mul_le (fun hd=>by
      have h1:¬ F.open_ r:=fun ho=>by have:=hc1 r hr ho; omega
      unfold Fp.open_ at h1
      have:=hf r
      omega) (fun hd=>by
      have h1:¬ F.taken r:=fun ht=>by have:=hc2 r hr ht; omega
      unfold Fp.taken at h1
      omega)
  have hP:∀ u:List Nat,u.length=F.worths.length→(∀ r∈u,r < F.beds.length)→(u.map fun r=>F.rows.getD r 0).sum=((List.range F.beds.length).map fun r=>(F.rows.getD r 0 - c) * ((u.count r:Nat):Int)).sum + c * F.worths.length:=fun u hu hr=>by
    rw [← by_rooms _ _ u hr,map_sub,hu]
    omega
  have hPle:=rsum_le F.beds.length hterm
  have hSle:=rsum_le F.worths.length hS
  have e1:=hw v hl
  have e2:=hw F.way l
  have e3:=hP v hl hvl
  have e4:=hP F.way l hwl
  refine ⟨Int.le_of_mul_le_mul_left (by omega) hp,fun he=>?_⟩
  rw [he] at e1
  have hSe:=rsum_eq F.worths.length hS (by omega)
  have hPe:=rsum_eq F.beds.length hterm (by omega)
  refine ⟨⟨?_,fun i r hi hr he'=>?_,fun r q hr hq hd=>?_⟩,hSe⟩
  · unfold Fp.sumOk at sm ⊢
    show (v.map fun r=>F.rows.getD r 0).sum=F.parts * F.rent
    rw [← sm]
    omega
  · have h1:=ne i r hi hr
    have h2:=hSe i hi
    unfold Fp.envies at h1 he'
    have h3:F.share i (v.getD i 0) < F.share i r:=he'
    omega
  · obtain ⟨d1,d2,d3⟩:=hd
    have d1':v.count r < bF F.beds r:=d1
    have d2':0 < v.count q:=d2
    have d3':F.rows.getD q 0 < F.rows.getD r 0:=d3
    have hr':F.rows.getD r 0≤c:=by
      refine Classical.byContradiction fun z=>?_
      have h1:¬ F.open_ r:=fun ho=>by have:=hc1 r hr ho; omega
      have h2:=mul_cancel (hPe r hr) (by omega)
      unfold Fp.open_ at h1
      omega
    have hq':c≤F.rows.getD q 0:=by
      refine Classical.byContradiction fun z=>?_
      have h1:¬ F.taken q:=fun ht=>by have:=hc2 q hq ht; omega
      have h2:=mul_cancel (hPe q hq) (by omega)
      unfold Fp.taken at h1
      omega
    omega
def levF (wo:Bool) (worths:List (List Int)) (way:List Nat) (n:Int) (rows:List Int) (i:Nat):Int:=if wo then n * ownF worths way i - rows.getD (way.getD i 0) 0 else rows.getD (way.getD i 0) 0
section
variable {wo:Bool} {beds:List Int} {worths:List (List Int)} {way:List Nat} {rent n:Int} {rows:List Int}
theorem lev_hop (ok:AimOk beds worths way) (fair:Fp.is ⟨beds,worths,rent,way,n,rows⟩ .none) {a b r:Nat} (ha:a < worths.length) (hb:b < worths.length) (hr:r < beds.length) (hm:(r:Int)∈thruL wo beds way a b):levF wo worths way n rows a + n * gainF wo worths way a r b≤levF wo worths way n rows b:=by
  obtain ⟨_,ne,nd⟩:=fair
  have lw:=ok.len
  have key:∀ x,x < worths.length→(r=way.getD x 0∨(r:Int)∈openL beds (wI way))→rows.getD r 0≤rows.getD (way.getD x 0) 0:=fun x hx h=>by
    rcases h with h | h
    · rw [h]; exact Int.le_refl _
    · obtain ⟨r',e1,_,e2⟩:=mem_open.mp h
      have e3:r'=r:=by omega
      subst e3
      have hmem:=mem_at (way:=way) (p:=x) (by omega)
      have:=nd r' (way.getD x 0) hr (ok.lt _ hmem)
      refine Classical.byContradiction fun z=>this ⟨e2,List.count_pos_iff.mpr hmem,?_⟩
      show rows.getD (way.getD x 0) 0 < rows.getD r' 0
      omega
  have hmem:∀ x,((r:Int)∈openL beds (wI way) ++ [((way.getD x 0:Nat):Int)])→r=way.getD x 0∨(r:Int)∈openL beds (wI way):=fun x h=>by
    rcases List.mem_append.mp h with e | e
    · exact .inr e
    · have:(r:Int)=((way.getD x 0:Nat):Int):=by simpa using e
      exact .inl (by omega)
  cases wo with
  | true =>
    have h1:=key a ha (hmem a hm)
    have h2:=ne b r hb hr
    have h3:¬ (n * wF worths b (way.getD b 0) - rows.getD (way.getD b 0) 0 < n * wF worths b r - rows.getD r 0):=h2
    show n * ownF worths way a - rows.getD (way.getD a 0) 0 + n * (wF worths b r - ownF worths way a)≤n * wF worths b (way.getD b 0) - rows.getD (way.getD b 0) 0
    rw [Int.mul_sub]
    omega
  | false =>
    have h1:=key b hb (hmem b hm)
    have h2:=ne a r ha hr
    have h3:¬ (n * wF worths a (way.getD a 0) - rows.getD (way.getD a 0) 0 < n * wF worths a r - rows.getD r 0):=h2
    show rows.getD (way.getD a 0) 0 + n * (wF worths a r - wF worths a (way.getD a 0))≤rows.getD (way.getD b 0) 0
    rw [Int.mul_sub]
    omega
theorem wt_mul (n:Int) (gn:Hop→Int) (c:List Hop):wt (fun m=>n * gn m) c=n * wt gn c:=by
  unfold wt
  induction c with
  | nil=>simp
  | cons a l ih=>simp only [List.map_cons,List.sum_cons,ih,Int.mul_add]
theorem lev_sum (ok:AimOk beds worths way) (fair:Fp.is ⟨beds,worths,rent,way,n,rows⟩ .none):((List.range worths.length).map (levF wo worths way n rows)).sum=n * wholeF wo worths way rent:=by
  have sm:(way.map fun r=>rows.getD r 0).sum=n * rent:=fair.1
  rw [map_range (α:=Nat) way,ok.len] at sm
  cases wo with
  | true =>
    have e:((List.range worths.length).map (levF true worths way n rows))=(List.range worths.length).map fun i=>n * ownF worths way i - rows.getD (way.getD i 0) 0:=List.map_congr_left fun i _=>by simp [levF]
    have ew:((List.range worths.length).map (ownF worths way)).sum=wsum (wF worths) way:=by
      unfold wsum
      rw [ok.len]
      rfl
    rw [e,sum_lin2 n (ownF worths way) (fun i=>rows.getD (way.getD i 0) 0),sm,ew]
    show n * wsum (wF worths) way - n * rent=n * (wsum (wF worths) way - rent)
    rw [Int.mul_sub]
  | false =>
    have e:((List.range worths.length).map (levF false worths way n rows))=(List.range worths.length).map fun i=>rows.getD (way.getD i 0) 0:=List.map_congr_left fun i _=>by simp [levF]
    rw [e,sm]
    rfl
end
structure DivR (wo:Bool) (beds:List Int) (worths:List (List Int)) (rent:Int) (way:List Nat) (hops:List Hop) (st:TC) (rows:List Int):Prop where
  isr:IsRows beds way (costL wo worths way (lvL wo worths way rent st.1) (worths.length:Int)) rows
  good:GoodHops wo beds worths way hops
  ok:OkC hops (gnF wo worths way) worths.length st
  nn:∀ b,b < worths.length→0≤st.1.getD b 0
  cl_:Closed wo beds worths way st.1
theorem DivAt.r {wo:Bool} {H:Hp} {t tp rl cl:Addr} {beds:List Int} {worths:List (List Int)} {rent:Int} {way:List Nat} {hops:List Hop} {st:TC} {rows:List Int} (g:DivAt wo H t tp rl cl beds worths rent way hops st rows):DivR wo beds worths rent way hops st rows:=⟨g.isr,g.good,g.ok,g.nn,g.cl_⟩
section
variable {wo:Bool} {beds:List Int} {worths:List (List Int)} {rent:Int} {way:List Nat} {hops:List Hop} {st:TC} {rows:List Int}
theorem rsum_const (c:Int) (n:Nat):((List.range n).map fun _=>c).sum=n * c:=by
  induction n with
  | zero=>simp
  | succ n ih =>
    rw [List.range_succ,List.map_append,List.sum_append,ih]
    have:((n + 1:Nat):Int) * c=n * c + c:=by rw [Int.natCast_add,Int.add_mul]; simp
    rw [this]
    simp
theorem DivR.gsum (g:DivR wo beds worths rent way hops st rows):((List.range worths.length).map fun i=>st.1.getD i 0).sum=st.1.sum:=by
  rw [← g.ok.l1,range_getD]
theorem DivR.fair (g:DivR wo beds worths rent way hops st rows) (ok:AimOk beds worths way) (hfit:Fit (bF beds) way) (hopt:Opt beds worths way) (hb1:∀ b∈beds,1≤b):Fp.is ⟨beds,worths,rent,way,(worths.length:Int),rows⟩ .none:=by
  have lg:=g.ok.l1
  have hc:=g.cl_
  refine ⟨rows_sum ok lg hc g.isr,fun i r hi hr he=>?_,fun r q hr hq hd=>?_⟩
  · have h1:=rows_noEnvy ok hfit hopt hb1 lg hc g.isr (i:=i) (r:=r) hi hr
    have he':(worths.length:Int) * wF worths i (way.getD i 0) - rows.getD (way.getD i 0) 0 < (worths.length:Int) * wF worths i r - rows.getD r 0:=he
    omega
  · obtain ⟨h1,h2,h3⟩:=hd
    have h4:=rows_noDear ok lg hc g.isr (r:=r) (q:=q) hr h1 (List.count_pos_iff.mp h2)
    have h5:rows.getD q 0 < rows.getD r 0:=h3
    omega
theorem DivR.lev (g:DivR wo beds worths rent way hops st rows) (ok:AimOk beds worths way) {i:Nat} (hi:i < worths.length):levF wo worths way (worths.length:Int) rows i=(wholeF wo worths way rent - st.1.sum) + (worths.length:Int) * st.1.getD i 0:=by
  have e:=rows_at (rent:=rent) g.ok.l1 ok.len ok.lt g.cl_ g.isr hi
  have l:=lv_at (wo:=wo) (worths:=worths) (way:=way) (rent:=rent) (gs:=st.1) (i:=i) (by rw [g.ok.l1]; exact hi)
  unfold levF
  rw [e]
  unfold costF
  rw [l]
  cases wo
  · simp
  · simp
    omega
theorem DivR.bound (g:DivR wo beds worths rent way hops st rows) (ok:AimOk beds worths way) (l0:0 < worths.length) {n:Int} {rows':List Int} (n0:0 < n) (fair:Fp.is ⟨beds,worths,rent,way,n,rows'⟩ .none) {m:Int} (hm:∀ i,i < worths.length→m≤levF wo worths way n rows' i):(worths.length:Int) * m≤n * (wholeF wo worths way rent - st.1.sum)∧((worths.length:Int) * m=n * (wholeF wo worths way rent - st.1.sum)→∀ b,b < worths.length→levF wo worths way n rows' b=m + n * st.1.getD b 0):=by
  have h1:∀ b,b < worths.length→m + n * st.1.getD b 0≤levF wo worths way n rows' b:=fun b hb=>by
    obtain ⟨s,s1,s2,s3⟩:=g.ok.at_ b hb
    have h2:=s2.pot (gn:=fun x=>n * gnF wo worths way x) (h:=levF wo worths way n rows') fun x hx=>by
      obtain ⟨m1,m2,m3,m4,m5⟩:=g.good.mem x hx
      exact lev_hop ok fair m1 m2 m4 m5
    rw [wt_mul,s3] at h2
    have h3:=hm s s1
    omega
  have h2:=rsum_le worths.length h1
  have e1:((List.range worths.length).map fun b=>m + n * st.1.getD b 0).sum=worths.length * m + n * st.1.sum:=by
    rw [rsum_add (fun _=>m) (fun b=>n * st.1.getD b 0),rsum_const]
    have:=sum_lin2 n (fun b=>st.1.getD b 0) (fun _=>0) (List.range worths.length)
    rw [g.gsum] at this
    simp only [Int.sub_zero] at this
    rw [this,rsum_const]
    omega
  have e2:=lev_sum (wo:=wo) ok fair
  have e3:n * (wholeF wo worths way rent - st.1.sum)=n * wholeF wo worths way rent - n * st.1.sum:=Int.mul_sub _ _ _
  rw [e1] at h2
  rw [e3]
  have h2':(worths.length:Int) * m + n * st.1.sum≤((List.range worths.length).map (levF wo worths way n rows')).sum:=h2
  rw [e2] at h2'
  refine ⟨by omega,fun e b hb=>?_⟩
  have h4:=rsum_eq worths.length h1 (by
    rw [e1]
    show _=((List.range worths.length).map (levF wo worths way n rows')).sum
    rw [e2]
    omega) b hb
  exact h4.symm
end
theorem lev_inj {wo:Bool} {worths:List (List Int)} {way:List Nat} {n:Int} {rows rows':List Int} {i:Nat} (h:levF wo worths way n rows i=levF wo worths way n rows' i):rows.getD (way.getD i 0) 0=rows'.getD (way.getD i 0) 0:=by
  unfold levF at h
  cases wo with
  | false=>simpa using h
  | true =>
    simp only [if_pos] at h
    omega
structure Best (wo:Bool) (beds:List Int) (worths:List (List Int)) (rent:Int) (way:List Nat) (rows:List Int) (m:Int):Prop where
  ok:AimOk beds worths way
  fit:Fit (bF beds) way
  opt:Opt beds worths way
  l0:0 < worths.length
  len:rows.length=beds.length
  fair:Fp.is ⟨beds,worths,rent,way,(worths.length:Int),rows⟩ .none
  ge:∀ i,i < worths.length→m≤levF wo worths way (worths.length:Int) rows i
  empty:∀ r,r < beds.length→r ∉ way→(∃ p,p∈way∧rows.getD r 0=rows.getD p 0)∧∀ p,p∈way→rows.getD r 0≤rows.getD p 0
  max:∀ (rows':List Int) (m':Int),Fp.is ⟨beds,worths,rent,way,(worths.length:Int),rows'⟩ .none→(∀ i,i < worths.length→m'≤levF wo worths way (worths.length:Int) rows' i)→m'≤m∧(m'=m→∀ i,i < worths.length→levF wo worths way (worths.length:Int) rows' i=levF wo worths way (worths.length:Int) rows i)
theorem DivR.best {wo:Bool} {beds:List Int} {worths:List (List Int)} {rent:Int} {way:List Nat} {hops:List Hop} {st:TC} {rows:List Int} (g:DivR wo beds worths rent way hops st rows) (ok:AimOk beds worths way) (fit:Fit (bF beds) way) (opt:Opt beds worths way) (hb1:∀ b∈beds,1≤b) (l0:0 < worths.length):Best wo beds worths rent way rows (wholeF wo worths way rent - st.1.sum):=by
  have n0:(0:Int) < (worths.length:Int):=by omega
  have lw:=ok.len
  refine ⟨ok,fit,opt,l0,g.isr.1,g.fair ok fit opt hb1,fun i hi=>?_,fun r hr hw=>?_,fun rows' m' f h=>?_⟩
  · have h1:=g.lev ok hi
    have h2:=Int.mul_nonneg (show 0≤(worths.length:Int) by omega) (g.nn i hi)
    omega
  · obtain ⟨h1,h2⟩:=rows_empty g.isr hr hw
    obtain ⟨c,hc1,hc2⟩:=cost_mem h1
    refine ⟨⟨way.getD c 0,mem_at (by omega),?_⟩,fun p hp=>?_⟩
    · rw [rows_at (rent:=rent) g.ok.l1 ok.len ok.lt g.cl_ g.isr hc1]
      exact hc2
    · obtain ⟨c',hc1',rfl⟩:=lies hp
      rw [rows_at (rent:=rent) g.ok.l1 ok.len ok.lt g.cl_ g.isr (p:=c') (by omega)]
      exact h2 _ (mem_cost (by omega))
  · obtain ⟨c1,c2⟩:=g.bound ok l0 n0 f h
    refine ⟨Int.le_of_mul_le_mul_left c1 n0,fun e i hi=>?_⟩
    rw [c2 (by rw [e]) i hi,g.lev ok hi,e]
theorem Best.all_ge {beds:List Int} {worths:List (List Int)} {rent:Int} {way:List Nat} {rows:List Int} {m:Int} (g:Best false beds worths rent way rows m) {r:Nat} (hr:r < beds.length):m≤rows.getD r 0:=by
  have lw:=g.ok.len
  have key:∀ p∈way,m≤rows.getD p 0:=fun p hp=>by
    obtain ⟨c,hc1,rfl⟩:=lies hp
    exact g.ge c (by omega)
  by_cases hw:r∈way
  · exact key r hw
  · obtain ⟨⟨p,h1,h2⟩,_⟩:=g.empty r hr hw
    rw [h2]
    exact key p h1
theorem Best.half {wo:Bool} {beds:List Int} {worths:List (List Int)} {rent:Int} {way way':List Nat} {rows:List Int} {m:Int} (g:Best wo beds worths rent way rows m) (ok':AimOk beds worths way') (fit':Fit (bF beds) way') (opt':Opt beds worths way') :
    Fp.is ⟨beds,worths,rent,way',(worths.length:Int),rows⟩ .none∧(∀ i,i < worths.length→m≤levF wo worths way' (worths.length:Int) rows i)∧(wo=true→∀ i,i < worths.length→levF wo worths way' (worths.length:Int) rows i=levF wo worths way (worths.length:Int) rows i):=by
  have lw:=g.ok.len
  have lw':=ok'.len
  have l0:=g.l0
  have ew:wsum (wF worths) way'=wsum (wF worths) way:=by
    have h1:=g.opt way' (by omega) fit'
    have h2:=opt' way (by omega) g.fit
    omega
  obtain ⟨f1,f2⟩:=(fair_any (F:=⟨beds,worths,rent,way,(worths.length:Int),rows⟩) (by show (0:Int) < worths.length; omega) l0 lw g.fit g.fair (v:=way') lw' fit').2 ew
  have hs:wo=true→∀ i,i < worths.length→levF wo worths way' (worths.length:Int) rows i=levF wo worths way (worths.length:Int) rows i:=fun e i hi=>by
    subst e
    have h3:=f2 i hi
    unfold levF
    simp only [if_pos]
    exact h3
  refine ⟨f1,fun i hi=>?_,hs⟩
  cases wo with
  | true =>
    rw [hs rfl i hi]
    exact g.ge i hi
  | false=>exact g.all_ge (r:=way'.getD i 0) (ok'.lt _ (mem_at (by omega)))
theorem Best.same {wo:Bool} {beds:List Int} {worths:List (List Int)} {rent:Int} {way way':List Nat} {rows rows':List Int} {m m':Int} (g:Best wo beds worths rent way rows m) (g':Best wo beds worths rent way' rows' m'):rows=rows'∧m=m':=by
  obtain ⟨a1,a2,_⟩:=g.half g'.ok g'.fit g'.opt
  obtain ⟨b1,b2,_⟩:=g'.half g.ok g.fit g.opt
  obtain ⟨c1,c2⟩:=g'.max rows m a1 a2
  obtain ⟨d1,d2⟩:=g.max rows' m' b1 b2
  have em:m=m':=by omega
  have lw:=g.ok.len
  have lw':=g'.ok.len
  have t1:∀ r,r∈way→rows.getD r 0=rows'.getD r 0:=fun r hr=>by
    obtain ⟨c,hc1,rfl⟩:=lies hr
    exact (lev_inj (d2 em.symm c (by omega))).symm
  have t2:∀ r,r∈way'→rows.getD r 0=rows'.getD r 0:=fun r hr=>by
    obtain ⟨c,hc1,rfl⟩:=lies hr
    exact lev_inj (c2 em c (by omega))
  refine ⟨List.ext_getElem (by rw [g.len,g'.len]) fun r h1 h2=>?_,em⟩
  have hr:r < beds.length:=by rw [← g.len]; exact h1
  rw [← getD_get (d:=0) _ _ h1,← getD_get (d:=0) _ _ h2]
  by_cases w1:r∈way
  · exact t1 r w1
  by_cases w2:r∈way'
  · exact t2 r w2
  obtain ⟨⟨p,p1,p2⟩,p3⟩:=g.empty r hr w1
  obtain ⟨⟨p',q1,q2⟩,q3⟩:=g'.empty r hr w2
  have u1:rows'.getD r 0≤rows.getD p 0:=by
    by_cases z:p∈way'
    · rw [t1 p p1]; exact q3 p z
    · obtain ⟨⟨p2',y1,y2⟩,y3⟩:=g'.empty p (g.ok.lt p p1) z
      rw [t1 p p1,y2]
      exact q3 _ y1
  have u2:rows.getD r 0≤rows'.getD p' 0:=by
    by_cases z:p'∈way
    · rw [← t2 p' q1]; exact p3 p' z
    · obtain ⟨⟨p2',y1,y2⟩,y3⟩:=g.empty p' (g'.ok.lt p' q1) z
      rw [← t2 p' q1,y2]
      exact p3 _ y1
  omega
end L2
namespace L2
open PySem PySem.Spec PyProof.Rows BW
section
variable {beds:List Int} {worths:List (List Int)} {rent:Int} {beds':List Int} {worths':List (List Int)} {rent':Int} {p q s t:Nat→Nat} {c:Nat→Int} {e:Int}
end
def Told (wo:Bool) (beds:List Int) (worths:List (List Int)) (rent:Int) (rows:List Int):Prop:=∃ (way:List Nat) (m:Int),Best wo beds worths rent way rows m
theorem Told.uniq {wo:Bool} {beds:List Int} {worths:List (List Int)} {rent:Int} {rows rows':List Int} (h:Told wo beds worths rent rows) (h':Told wo beds worths rent rows'):rows=rows':=by
  obtain ⟨w1,m1,b1⟩:=h
  obtain ⟨w2,m2,b2⟩:=h'
  exact (b1.same b2).1
end L2
namespace L2
open PySem PySem.Spec PyProof.Rows BW
structure HouseG (beds:List Int) (worths:List (List Int)):Prop where
  bok:BestOk beds worths
  w1:0 < worths.length
  w3:(worths.length:Int)≤beds.sum
  b1:∀ b∈beds,1≤b
  x:∀ row∈worths,∀ x∈row,-(10 ^ 42) < x∧x < 10 ^ 42
theorem HouseOk.g {beds:List Int} {worths:List (List Int)} {rent mp mr:Int} (ok:HouseOk beds worths rent mp mr) (h1:mp≤10) (h2:mr≤10):HouseG beds worths :=
  ⟨⟨by have:=ok.b2; omega,by have:=ok.w2; omega,ok.w4⟩,by have:=ok.w1; omega,ok.w3,fun b hb=>(ok.b3 b hb).1,fun row hr z hz=>by have:=ok.w5 row hr z hz; omega⟩
section
variable {beds:List Int} {worths:List (List Int)} {rent:Int}
end
end L2
namespace L2
open PySem PySem.Spec PyProof.Rows BW
section
variable {wo:Bool} {beds:List Int} {worths:List (List Int)} {rent:Int} {way:List Nat} {hops:List Hop} {st:TC} {rows:List Int} {d k:Int} {R:List Int}
end
theorem lowk_bd {n d k:Int} {rows R:List Int} (low:Low n rows d k R) (h0:0 < n) (h1:n≤10):0 < k∧k≤10:=by
  have e:=low.n_
  have h2:=low.d0
  constructor
  · refine Classical.byContradiction fun z=>?_
    have:=Int.mul_nonneg (show 0≤d by omega) (show 0≤-k by omega)
    rw [Int.mul_neg] at this
    omega
  · refine Classical.byContradiction fun z=>?_
    have:=Int.mul_le_mul_of_nonneg_right (show 1≤d by omega) (show 0≤k by omega)
    omega
end L2
namespace L2
open PySem PySem.Spec PyProof.Rows BW
def lvlB (n:Int) (m:Nat) (worths:List (List Int)) (rows:List Int) (i r:Nat):Bool:=(List.range m).all fun r'=>decide (n * wF worths i r' - rows.getD r' 0≤n * wF worths i r - rows.getD r 0)
def levelM (n:Int) (m:Nat) (worths:List (List Int)) (rows:List Int):List (List Int):=(List.range worths.length).map fun i=>((List.range m).filter (lvlB n m worths rows i)).map fun (r:Nat)=>(r:Int)
theorem lvl_iff {n:Int} {m:Nat} {worths:List (List Int)} {rows:List Int} {i r:Nat}:lvlB n m worths rows i r=true ↔ ∀ r',r' < m→n * wF worths i r' - rows.getD r' 0≤n * wF worths i r - rows.getD r 0:=by
  unfold lvlB
  rw [List.all_eq_true]
  exact ⟨fun h r' hr'=>of_decide_eq_true (h r' (List.mem_range.mpr hr')),fun h r' hr'=>decide_eq_true (h r' (List.mem_range.mp hr'))⟩
theorem lvl_own {beds:List Int} {worths:List (List Int)} {rent:Int} {way:List Nat} {rows:List Int} {d k:Int} {R:List Int} (ok:AimOk beds worths way) (fair:Fp.is ⟨beds,worths,rent,way,(worths.length:Int),rows⟩ .none) (low:Low worths.length rows d k R) {i r:Nat} (hi:i < worths.length) (hr:r < beds.length):decide (k * wF worths i r - R.getD r 0=k * wF worths i (way.getD i 0) - R.getD (way.getD i 0) 0)=lvlB (worths.length:Int) beds.length worths rows i r:=by
  have d0:=low.d0
  have sc:∀ x,(worths.length:Int) * wF worths i x - rows.getD x 0=d * (k * wF worths i x - R.getD x 0):=fun x=>by rw [low.at_,low.n_,Int.mul_sub,Int.mul_assoc]
  have ne:∀ x,x < beds.length→(worths.length:Int) * wF worths i x - rows.getD x 0≤(worths.length:Int) * wF worths i (way.getD i 0) - rows.getD (way.getD i 0) 0:=fun x hx=>by
    have:=fair.2.1 i x hi hx
    have h2:¬ ((worths.length:Int) * wF worths i (way.getD i 0) - rows.getD (way.getD i 0) 0 < (worths.length:Int) * wF worths i x - rows.getD x 0):=this
    omega
  have hw:=(ok.at_ hi).2
  rw [Bool.eq_iff_iff,lvl_iff]
  constructor
  · intro h r' hr'
    have e:=of_decide_eq_true h
    have h1:=ne r' hr'
    rw [sc r,e,← sc]
    exact h1
  · intro h
    have h1:=h _ hw
    have h2:=ne r hr
    have e:(worths.length:Int) * wF worths i r - rows.getD r 0=(worths.length:Int) * wF worths i (way.getD i 0) - rows.getD (way.getD i 0) 0:=by omega
    rw [sc,sc] at e
    exact decide_eq_true (Int.eq_of_mul_eq_mul_left (by omega) e)
theorem Told.fair {wo:Bool} {beds:List Int} {worths:List (List Int)} {rent:Int} {rows:List Int} (h:Told wo beds worths rent rows) {way:List Nat} (ok:AimOk beds worths way) (fit:Fit (bF beds) way) (opt:Opt beds worths way):Fp.is ⟨beds,worths,rent,way,(worths.length:Int),rows⟩ .none:=by
  obtain ⟨w,m,b⟩:=h
  exact (b.half ok fit opt).1
theorem levelM_len {n:Int} {m:Nat} {worths:List (List Int)} {rows:List Int}:(levelM n m worths rows).length=worths.length:=by simp [levelM]
def sp_shareout (CH:Addr) (P1:Addr) (l1:Pos) (q1:Str) (P2:Addr) (l2:Pos) (q2:Str):Sp:=fun vs H Q _ => ∃ (wo:Bool) (x:Addr) (beds:List Int) (worths:List (List Int)) (rent:Int),vs=[.ref x,.str (wordS wo)]∧HouseAt CH H x beds worths rent∧HouseG beds worths∧LamAt H P1 l1 q1∧LamAt H P2 l2 q2 ∧
  ∀ (t wy t0 tp rl cl:Addr) (way:List Nat) (hops:List Hop) (st:TC) (rows:List Int) (H':Hp),SameB H H'→LamAt H' P1 l1 q1→LamAt H' P2 l2 q2→H wy=none→H rl=none→H cl=none→wy≠rl→wy≠cl→rl≠cl→TCF (fun a=>H a=none∧a≠rl∧a≠wy) H' cl→H' t=some (.tup [.ref wy,.ref tp,.ref cl])→H' wy=some (.lst ((wI way).map V.int))→AimOk beds worths way→Fit (bF beds) way→Opt beds worths way→DivAt wo H' t0 tp rl cl beds worths rent way hops st rows→Q (.ref t) H'
def sp_level (CH:Addr) (P1:Addr) (l1:Pos) (q1:Str) (P2:Addr) (l2:Pos) (q2:Str):Sp:=fun vs H Q _ => ∃ (x:Addr) (beds:List Int) (worths:List (List Int)) (rent:Int),vs=[.ref x]∧HouseAt CH H x beds worths rent∧HouseG beds worths∧LamAt H P1 l1 q1∧LamAt H P2 l2 q2∧(-(10 ^ 42) < rent∧rent < 10 ^ 42) ∧
  ∀ (l:Addr) (rows:List Int) (H':Hp),SameB H H'→LamAt H' P1 l1 q1→LamAt H' P2 l2 q2→Told true beds worths rent rows→H l=none→Mat H' l (levelM (worths.length:Int) beds.length worths rows)→Q (.ref l) H'
end L2
namespace L2
open PySem PySem.Spec PyProof.Rows BW
section
variable {beds:List Int} {worths:List (List Int)} {rent:Int} {P Q:List Nat}
end
end L2
namespace L2
open PySem PySem.Spec PyProof.Rows BW
section
variable {wo:Bool} {beds:List Int} {worths:List (List Int)} {rent:Int} {way:List Nat} {hops:List Hop} {st:TC}
end
section
variable {wo:Bool} {beds:List Int} {worths:List (List Int)} {P Q:List Nat} {way way':List Nat} {hops hops':List Hop} {st st':TC}
end
end L2
namespace L2
open PySem PySem.Spec PyProof.Rows BW
end L2
namespace L2
open PySem PySem.Spec PyProof.Rows BW
end L2
namespace L2
open PySem PySem.Spec PyProof.Rows BW
end L2
namespace L2
open PySem PySem.Spec PyProof.Rows BW
end L2
namespace L2
open PySem PySem.Spec PyProof.Rows BW
end L2
namespace L2
open PySem PySem.Spec PyProof.Rows BW
end L2
namespace L2
open PySem PySem.Spec PyProof.Rows BW
def fullF (m:Nat) (Q:List Nat→Nat→Bool):Nat→List (List Nat)
  | 0 => [[]]
  | k + 1=>(fullF m Q k).flatMap fun b=>((List.range m).filter (Q b)).map fun r=>b ++ [r]
def fullA (m k:Nat):List (List Nat):=fullF m (fun _ _=>true) k
theorem full_mem {m:Nat} {Q:List Nat→Nat→Bool}:∀ {k:Nat} {v:List Nat},v∈fullF m Q k→v.length=k∧∀ r∈v,r < m
  | 0,v,h=>by
    have:v=[]:=by simpa [fullF] using h
    subst this
    exact ⟨rfl,fun r z=>by cases z⟩
  | k + 1,v,h=>by
    obtain ⟨b,hb,h2⟩:=List.mem_flatMap.mp h
    obtain ⟨r,hr,rfl⟩:=List.mem_map.mp h2
    have ih:=full_mem hb
    have hr2:=List.mem_range.mp (List.mem_filter.mp hr).1
    refine ⟨by simp [ih.1],fun x hx=>?_⟩
    rcases List.mem_append.mp hx with z | z
    · exact ih.2 x z
    · have:x=r:=by simpa using z
      omega
theorem full_all {m:Nat}:∀ {k:Nat} {v:List Nat},v.length=k→(∀ r∈v,r < m)→v∈fullA m k
  | 0,v,h,_=>by
    have:v=[]:=List.length_eq_zero_iff.mp h
    subst this
    simp [fullA,fullF]
  | k + 1,v,h,h2=>by
    have hne:v≠[]:=fun z=>by subst z; simp at h
    have e:=List.dropLast_concat_getLast hne
    rw [← e]
    refine List.mem_flatMap.mpr ⟨v.dropLast,full_all (by simp [h]) (fun r hr=>h2 r (List.dropLast_subset _ hr)),List.mem_map.mpr ⟨v.getLast hne,?_,rfl⟩⟩
    simpa using h2 _ (List.getLast_mem hne)
theorem flat_filter {α β:Type} (p:α→Bool) (f:α→List β):∀ l:List α,(l.filter p).flatMap f=l.flatMap fun b=>if p b then f b else []
  | []=>rfl
  | a :: l=>by
    rw [List.flatMap_cons,List.filter_cons]
    cases h:p a with
    | true=>simp only [if_true,List.flatMap_cons,flat_filter p f l]
    | false=>simpa using flat_filter p f l
theorem full_filter {m:Nat} {Q:List Nat→Nat→Bool} {OK:List Nat→Bool} (h0:OK []=true) (h:∀ b r,r < m→OK (b ++ [r])=(OK b && Q b r)):∀ k,fullF m Q k=(fullA m k).filter OK
  | 0=>by simp [fullA,fullF,h0]
  | k + 1=>by
    have ih:=full_filter h0 h k
    unfold fullA at ih ⊢
    rw [fullF,ih,flat_filter,fullF,List.filter_flatMap]
    congr 1
    funext b
    rw [List.filter_map]
    cases hb:OK b with
    | true =>
      rw [if_pos rfl]
      congr 1
      rw [List.filter_filter]
      refine List.filter_congr fun r hr=>?_
      show Q b r=(OK (b ++ [r]) && true)
      rw [h b r (List.mem_range.mp hr),hb,Bool.and_true,Bool.true_and]
    | false =>
      rw [if_neg (by decide)]
      symm
      rw [List.map_eq_nil_iff,List.filter_eq_nil_iff]
      intro r hr
      have hr2:=List.mem_range.mp (List.mem_filter.mp hr).1
      show ¬ (OK (b ++ [r])=true)
      rw [h b r hr2,hb]
      simp
def fitsB (beds:List Int) (v:List Nat):Bool:=(List.range beds.length).all fun r=>decide (v.count r≤bF beds r)
theorem fitsB_iff {beds:List Int} {v:List Nat} (hv:∀ r∈v,r < beds.length):fitsB beds v=true ↔ Fit (bF beds) v:=by
  unfold fitsB
  rw [List.all_eq_true]
  constructor
  · intro h r
    by_cases hr:r < beds.length
    · exact of_decide_eq_true (h r (List.mem_range.mpr hr))
    · have:v.count r=0:=List.count_eq_zero.mpr fun z=>hr (hv r z)
      omega
  · intro h r hr
    exact decide_eq_true (h r)
theorem fitsB_step {beds:List Int} (b:List Nat) {r:Nat} (hr:r < beds.length):fitsB beds (b ++ [r])=(fitsB beds b && decide (((b.count r:Nat):Int) < beds.getD r 0)):=by
  have hc:∀ x,(b ++ [r]).count x=b.count x + if r=x then 1 else 0:=fun x=>by
    rw [List.count_append,List.count_singleton]
    congr 1
    simp [beq_iff_eq]
  rw [Bool.eq_iff_iff,Bool.and_eq_true]
  unfold fitsB
  rw [List.all_eq_true,List.all_eq_true]
  constructor
  · intro h
    refine ⟨fun x hx=>decide_eq_true ?_,decide_eq_true ?_⟩
    · have:=of_decide_eq_true (h x hx)
      rw [hc] at this
      omega
    · have:=of_decide_eq_true (h r (List.mem_range.mpr hr))
      rw [hc,if_pos rfl] at this
      unfold bF at this
      omega
  · rintro ⟨h1,h2⟩ x hx
    have h3:=of_decide_eq_true (h1 x hx)
    have h4:=of_decide_eq_true h2
    refine decide_eq_true ?_
    rw [hc]
    by_cases e:r=x
    · subst e
      rw [if_pos rfl]
      unfold bF at *
      omega
    · rw [if_neg e]
      omega
theorem fitsB_nil (beds:List Int):fitsB beds []=true:=by simp [fitsB]
def lvlP (L:Nat→Nat→Bool) (v:List Nat):Bool:=(List.range v.length).all fun i=>L i (v.getD i 0)
theorem lvlP_nil (L:Nat→Nat→Bool):lvlP L []=true:=rfl
theorem lvlP_step (L:Nat→Nat→Bool) (b:List Nat) (r:Nat):lvlP L (b ++ [r])=(lvlP L b && L b.length r):=by
  have e1:∀ i,i < b.length→(b ++ [r]).getD i 0=b.getD i 0:=fun i hi=>by
    simp [List.getD,List.getElem?_append_left hi]
  have e2:(b ++ [r]).getD b.length 0=r:=by simp [List.getD]
  rw [Bool.eq_iff_iff,Bool.and_eq_true]
  unfold lvlP
  rw [List.all_eq_true,List.all_eq_true,List.length_append,List.length_singleton]
  constructor
  · intro h
    refine ⟨fun i hi=>?_,?_⟩
    · have hi2:=List.mem_range.mp hi
      have:=h i (List.mem_range.mpr (by omega))
      rwa [e1 i hi2] at this
    · have:=h b.length (List.mem_range.mpr (by omega))
      rwa [e2] at this
  · rintro ⟨h1,h2⟩ i hi
    have hi2:=List.mem_range.mp hi
    by_cases e:i=b.length
    · subst e
      rw [e2]
      exact h2
    · rw [e1 i (by omega)]
      exact h1 i (List.mem_range.mpr (by omega))
def bestL (beds:List Int) (worths:List (List Int)) (M:Int):List (List Nat):=(fullA beds.length worths.length).filter fun v=>fitsB beds v && decide (wsum (wF worths) v=M)
def fitL (beds:List Int) (n:Nat):List (List Nat):=fullF beds.length (fun b r=>decide (((b.count r:Nat):Int) < beds.getD r 0)) n
theorem fitL_eq (beds:List Int) (n:Nat):fitL beds n=(fullA beds.length n).filter (fitsB beds):=full_filter (fitsB_nil beds) (fun b r hr=>fitsB_step b hr) n
def lvlL (m n:Nat) (L:Nat→Nat→Bool):List (List Nat):=fullF m (fun b r=>L b.length r) n
theorem lvlL_eq (m n:Nat) (L:Nat→Nat→Bool):lvlL m n L=(fullA m n).filter (lvlP L):=full_filter (lvlP_nil L) (fun b r _=>lvlP_step L b r) n
theorem fitL_best {beds:List Int} {worths:List (List Int)} {M:Int}:((fitL beds worths.length).filter fun v=>decide (wsum (wF worths) v=M))=bestL beds worths M:=by
  rw [fitL_eq,List.filter_filter]
  unfold bestL
  refine List.filter_congr fun v _=>?_
  rw [Bool.and_comm]
theorem lvlL_best {beds:List Int} {worths:List (List Int)} {M:Int} {L:Nat→Nat→Bool} (h:∀ v:List Nat,v.length=worths.length→Fit (bF beds) v→wsum (wF worths) v=M→∀ i,i < worths.length→L i (v.getD i 0)=true):(((lvlL beds.length worths.length L).filter (fitsB beds)).filter fun v=>decide (wsum (wF worths) v=M))=bestL beds worths M:=by
  rw [lvlL_eq,List.filter_filter,List.filter_filter]
  unfold bestL
  refine List.filter_congr fun v hv=>?_
  obtain ⟨hl,hr⟩:=full_mem hv
  cases hf:fitsB beds v with
  | false=>simp
  | true =>
    cases hw:decide (wsum (wF worths) v=M) with
    | false=>simp
    | true =>
      have h1:=h v hl ((fitsB_iff hr).mp hf) (of_decide_eq_true hw)
      have h2:lvlP L v=true:=by
        unfold lvlP
        rw [List.all_eq_true]
        exact fun i hi=>h1 i (by have:=List.mem_range.mp hi; omega)
      simp [h2]
theorem Told.lvl {beds:List Int} {worths:List (List Int)} {rent:Int} {rows:List Int} (T:Told true beds worths rent rows) (w1:0 < worths.length) {way:List Nat} (ok:AimOk beds worths way) (fit:Fit (bF beds) way) (opt:Opt beds worths way) {v:List Nat} (hl:v.length=worths.length) (hf:Fit (bF beds) v) (hm:wsum (wF worths) v=wsum (wF worths) way) {i:Nat} (hi:i < worths.length):lvlB (worths.length:Int) beds.length worths rows i (v.getD i 0)=true:=by
  have fair:=T.fair ok fit opt
  have hfa:=fair_any (F:=⟨beds,worths,rent,way,(worths.length:Int),rows⟩) (by show (0:Int) < worths.length; omega) w1 ok.len fit fair hl hf
  obtain ⟨_,hs⟩:=hfa.2 hm
  have e:=hs i hi
  rw [lvl_iff]
  intro r' hr'
  have h2:¬ ((worths.length:Int) * wF worths i (way.getD i 0) - rows.getD (way.getD i 0) 0 < (worths.length:Int) * wF worths i r' - rows.getD r' 0):=fair.2.1 i r' hi hr'
  have e':(worths.length:Int) * wF worths i (v.getD i 0) - rows.getD (v.getD i 0) 0=(worths.length:Int) * wF worths i (way.getD i 0) - rows.getD (way.getD i 0) 0:=e
  omega
end L2
namespace L2
open PySem PySem.Spec PyProof PyProof.Rows
def tTryP (K:PySem.W.Frag) (R:Addr) (tb:XK→TS) (th:TS):TS:=fun D σ H =>
  tb (fun cls _ H' => ∃ C,cls=.ref C∧PySem.W.exmOne K (.ref C) (.ref R)=some true∧∀ ea H2,New H' ea (excO ea C) H2→th D σ H2) D σ H
theorem ps_tryP {X:Cx} {st b0:Stmt} {suite:List Stmt} {rx:Str} {R:Addr} {np hpos pos:Pos} {tb:XK→TS} {th:TS} (hst:X.stack=X.env :: X.outer) (hf:X.env.frame=some X.env.locals)
    (hg:Gl X rx) (hm:X.mg rx=some (.ref R)) (hb:PSx X st tb) (hs:∀ v,PSs (X.hot v) (b0 :: suite) th) (hdb:(rx == ("__debug__" : Str))=false:=by decide) :
    PS X (.Try [st] [.ExceptHandler (some (.Name rx np)) none (b0 :: suite) hpos] [] [] pos) (tTryP X.K R tb th):=by
  intro pins s σ H D I h
  refine wpAny_Try_except (wpAny_execs_cons (thn (hb pins s σ H D _ _ I h ?_) fun f s1 q=>?_))
  · intro H2 s2 e s' I2 ⟨ea,cls,a0,H',B,x⟩
    obtain rfl:=x.is_
    obtain ⟨C,rfl,hmat,hth⟩:=x.wish
    have hfr:X.A.frames=some (X.env :: X.outer):=by rw [← hst]; exact I2.ok.frames
    have fly:=x.fly
    rw [hst] at fly
    refine wpAny_looks_onW (base:=B) hfr hf fly fun h4 held4 sm4=>?_
    refine wpAny_landsW held4 fun h5 fly5 sm5=>?_
    have J5:=(I2.caught x (by rw [hst]; exact fly5) (sm4.trans sm5)).2
    obtain ⟨ob,hob,hobc⟩:=fly5.there
    refine wpAny_handleBy_cons (codeAny_handlers_test (ld_glob (X:=X.hot (.ref ea)) (J5.hot _) hg hm ?_ hdb)) (by intro q; cases q)
    refine PySem.W.Looks.here (PySem.W.exm_one (J5.kIn) (exc_type hob hobc) hmat) ?_
    refine codeAny_handlers_suite ?_
    refine lands_againW fly5 fun h6 fly6 sm6=>?_
    obtain ⟨new,J6⟩:=I2.caught x (by rw [hst]; exact fly6) ((sm4.trans sm5).trans sm6)
    refine wpAny_mono (hs (.ref ea) pins _ _ _ _ (J6.hot _) (hth ea _ new)) (fun f s8 q=>?_) fun _ _ z=>z.elim
    cases f with
    | next =>
      obtain ⟨σ',H9,J9,q9⟩:=q
      exact ⟨_,_,J9.cool I.ok,q9⟩
    | brk =>
      obtain ⟨σ',H9,J9,q9⟩:=q
      exact ⟨_,_,J9.cool I.ok,q9⟩
    | cont =>
      obtain ⟨σ',H9,J9,q9⟩:=q
      exact ⟨_,_,J9.cool I.ok,q9⟩
    | ret u =>
      obtain ⟨v,σ',H9,J9,r9,q9⟩:=q
      exact ⟨v,_,_,J9.cool I.ok,r9,q9⟩
  · cases f with
    | next=>exact wpAny_execs_nil (wpAny_execs_nil q)
    | ret v=>exact q
    | brk=>exact q
    | cont=>exact q
theorem ps_tryPK {X:Cx} {K:PySem.W.Frag} {st b0:Stmt} {suite:List Stmt} {rx:Str} {R:Addr} {np hpos pos:Pos} {tb:XK→TS} {th:TS} (e:X.K=K) (hst:X.stack=X.env :: X.outer) (hf:X.env.frame=some X.env.locals)
    (hg:Gl X rx) (hm:X.mg rx=some (.ref R)) (hb:PSx X st tb) (hs:∀ v,PSs (X.hot v) (b0 :: suite) th) (hdb:(rx == ("__debug__" : Str))=false:=by decide) :
    PS X (.Try [st] [.ExceptHandler (some (.Name rx np)) none (b0 :: suite) hpos] [] [] pos) (tTryP K R tb th):=by subst e; exact ps_tryP hst hf hg hm hb hs hdb
end L2
namespace L2
open PySem PySem.Spec PyProof.Rows BW
theorem allP_fitL (beds:List Int):∀ n,allP beds n=fitL beds n
  | 0=>rfl
  | n + 1=>by
    rw [allP,allP_fitL beds n]
    rfl
theorem bestP_eq {beds:List Int} {worths:List (List Int)} {way:List Nat} (hl:way.length=worths.length) (fit:Fit (bF beds) way) (opt:Opt beds worths way):bestP beds worths=bestL beds worths (wsum (wF worths) way):=by
  rw [← fitL_best,← allP_fitL]
  unfold bestP
  refine List.filter_congr fun v hv=>?_
  rw [Bool.eq_iff_iff,decide_eq_true_eq,decide_eq_true_eq]
  constructor
  · intro h
    have h1:=h way (mem_all.mpr ⟨hl,fit⟩)
    have h2:=opt v (by have:=(mem_all.mp hv).1; omega) (mem_all.mp hv).2
    omega
  · intro h u hu
    rw [h]
    exact opt u (by have:=(mem_all.mp hu).1; omega) (mem_all.mp hu).2
def extL (rooms:List Nat) (b:List Nat):List (List Nat):=rooms.map fun r=>b ++ [r]
def prodL (L:List (List Nat)):List (List Nat):=L.foldl (fun acc rooms=>acc.flatMap (extL rooms)) [[]]
theorem prodL_snoc (L:List (List Nat)) (rooms:List Nat):prodL (L ++ [rooms])=(prodL L).flatMap (extL rooms):=by
  unfold prodL
  rw [List.foldl_append]
  rfl
def lvlN (n m:Nat) (L:Nat→Nat→Bool):List (List Nat):=(List.range n).map fun i=>(List.range m).filter (L i)
theorem prodL_lvl (m:Nat) (L:Nat→Nat→Bool):∀ n,prodL (lvlN n m L)=lvlL m n L
  | 0=>rfl
  | n + 1=>by
    have e:lvlN (n + 1) m L=lvlN n m L ++ [(List.range m).filter (L n)]:=by
      unfold lvlN
      rw [List.range_succ,List.map_append]
      rfl
    rw [e,prodL_snoc,prodL_lvl m L n]
    show _=fullF m (fun b r=>L b.length r) (n + 1)
    rw [fullF,List.flatMap_def,List.flatMap_def]
    congr 1
    refine List.map_congr_left fun b hb=>?_
    have:=(full_mem hb).1
    show ((List.range m).filter (L n)).map (fun r=>b ++ [r])=((List.range m).filter (fun r=>L b.length r)).map fun r=>b ++ [r]
    rw [this]
theorem fold_mem_len:∀ (L:List (List Nat)) (acc:List (List Nat)) (k:Nat),(∀ b∈acc,b.length=k)→∀ v∈L.foldl (fun acc rooms=>acc.flatMap (extL rooms)) acc,v.length=k + L.length
  | [],acc,k,h,v,hv=>h v hv
  | r :: L,acc,k,h,v,hv=>by
    have:=fold_mem_len L (acc.flatMap (extL r)) (k + 1) (fun b hb=>by
      obtain ⟨c,hc,hd⟩:=List.mem_flatMap.mp hb
      obtain ⟨x,_,rfl⟩:=List.mem_map.mp hd
      simp [h c hc]) v hv
    rw [List.length_cons]
    omega
theorem prodL_mem {L:List (List Nat)} {v:List Nat} (h:v∈prodL L):v.length=L.length:=by
  have:=fold_mem_len L [[]] 0 (fun b hb=>by simp at hb; simp [hb]) v h
  omega
def lenP (L:List (List Nat)):Nat:=L.foldl (fun t r=>t * r.length) 1
theorem ext_flat_len (rooms:List Nat):∀ acc:List (List Nat),(acc.flatMap (extL rooms)).length=acc.length * rooms.length
  | []=>by simp
  | a :: l=>by
    rw [List.flatMap_cons,List.length_append,ext_flat_len rooms l,List.length_cons,Nat.succ_mul]
    simp [extL]
    omega
theorem fold_len:∀ (L:List (List Nat)) (acc:List (List Nat)),(L.foldl (fun acc rooms=>acc.flatMap (extL rooms)) acc).length=L.foldl (fun t r=>t * r.length) acc.length
  | [],acc=>rfl
  | r :: L,acc=>by
    rw [List.foldl_cons,List.foldl_cons,fold_len L,ext_flat_len]
theorem prodL_len (L:List (List Nat)):(prodL L).length=lenP L:=fold_len L [[]]
theorem fold_ge:∀ (L:List (List Nat)) (t:Nat),(∀ r∈L,1≤r.length)→t≤L.foldl (fun t r=>t * r.length) t
  | [],t,_=>Nat.le_refl _
  | r :: L,t,h=>by
    rw [List.foldl_cons]
    refine Nat.le_trans ?_ (fold_ge L _ fun x hx=>h x (List.mem_cons_of_mem _ hx))
    exact Nat.le_mul_of_pos_right _ (h r List.mem_cons_self)
theorem lenP_take {L:List (List Nat)} (h:∀ r∈L,1≤r.length) (j:Nat):lenP (L.take j)≤lenP L:=by
  have e:lenP L=(L.drop j).foldl (fun t r=>t * r.length) (lenP (L.take j)):=by
    unfold lenP
    rw [← List.foldl_append,List.take_append_drop]
  rw [e]
  exact fold_ge _ _ fun r hr=>h r (List.drop_subset _ _ hr)
theorem lenP_prod (L:List (List Nat)):lenP L=(L.map List.length).foldl (· * ·) 1:=by
  unfold lenP
  rw [List.foldl_map]
theorem fold_bd:∀ (ks:List Nat) (t:Nat),(∀ k∈ks,k≤10)→ks.foldl (· * ·) t≤t * 10 ^ ks.length
  | [],t,_=>by simp
  | k :: ks,t,h=>by
    rw [List.foldl_cons,List.length_cons]
    refine Nat.le_trans (fold_bd ks _ fun x hx=>h x (List.mem_cons_of_mem _ hx)) ?_
    rw [Nat.pow_succ,Nat.mul_assoc,Nat.mul_comm (10 ^ ks.length) 10]
    exact Nat.mul_le_mul_left _ (Nat.mul_le_mul_right _ (h k List.mem_cons_self))
theorem prod_bd {ks:List Nat} (h:∀ k∈ks,k≤10) (hl:ks.length≤10):ks.foldl (· * ·) 1≤10 ^ 10:=by
  have h1:=fold_bd ks 1 h
  have h2:10 ^ ks.length≤10 ^ 10:=Nat.pow_le_pow_right (by omega) hl
  omega
theorem prod_take {ks:List Nat} {j:Nat} (hj:j < ks.length):(ks.take (j + 1)).foldl (· * ·) 1=(ks.take j).foldl (· * ·) 1 * ks.getD j 0:=by
  rw [List.take_succ,List.foldl_append]
  simp [List.getD,hj]
def sp_product:Sp:=fun vs H Q _ => ∃ (l:Addr) (ks:List Nat),vs=[.ref l]∧H l=some (.lst ((wI ks).map V.int))∧ks.length≤10∧(∀ k∈ks,k≤10)∧Q (.int ((ks.foldl (· * ·) 1:Nat):Int)) H
def MatF (H H':Hp) (l:Addr) (rows:List (List Int)):Prop:=∃ ws:List Addr,H' l=some (.lst (ws.map V.ref))∧Rows H' ws rows∧∀ a∈ws,H a=none
theorem MatF.mat {H H':Hp} {l:Addr} {rows:List (List Int)} (h:MatF H H' l rows):Mat H' l rows:=by
  obtain ⟨ws,h1,h2,_⟩:=h
  exact ⟨ws,h1,h2⟩
def sp_alllists:Sp:=fun vs H Q _ => ∃ (lv:Addr) (L:List (List Nat)),vs=[.ref lv]∧Mat H lv (L.map wI)∧L.length≤10∧(∀ row∈L,row.length≤10)∧(∀ j,(prodL (L.take j)).length≤1000)∧∀ (l:Addr) (H':Hp),Same H H'→H l=none→MatF H H' l ((prodL L).map wI)→Q (.ref l) H'
def sp_allways (CH eM:Addr) (P1:Addr) (l1:Pos) (q1:Str) (P2:Addr) (l2:Pos) (q2:Str):Sp:=fun vs H Q E => ∃ (x:Addr) (beds:List Int) (worths:List (List Int)) (rent:Int),vs=[.ref x]∧HouseAt CH H x beds worths rent∧HouseG beds worths∧LamAt H P1 l1 q1∧LamAt H P2 l2 q2∧(-(10 ^ 42) < rent∧rent < 10 ^ 42) ∧
  ∀ (rows:List Int) (H':Hp),SameB H H'→LamAt H' P1 l1 q1→LamAt H' P2 l2 q2→Told true beds worths rent rows →
    (lenP (lvlN worths.length beds.length (lvlB (worths.length:Int) beds.length worths rows))≤200→∀ l,H l=none→MatF H H' l ((bestP beds worths).map wI)→Q (.ref l) H')∧(200 < lenP (lvlN worths.length beds.length (lvlB (worths.length:Int) beds.length worths rows))→E (.ref eM) none H')
theorem levelM_wI {n:Int} {m:Nat} {worths:List (List Int)} {rows:List Int}:levelM n m worths rows=(lvlN worths.length m (lvlB n m worths rows)).map wI:=by
  unfold levelM lvlN
  rw [List.map_map]
  rfl
end L2
namespace L2
open PySem PySem.Spec PyProof PyProof.Rows BW
section
variable {X:Cx} {k:Nat} {ps:List Str} {sp:Sp} {x:Str} {p pos:Pos} {e:Expr} {es:List Expr} {t:TA}
end
structure ErrM (K:PySem.W.Frag) (mg:Str→Option Value) (eM:Addr):Prop where
  mTooMany:mg "TooMany" = some (.ref eM)
  ok:ExcOk K eM eM
theorem isWay_fits {beds:List Int} {n:Nat} {v:List Nat} (hb:∀ b∈beds,0≤b) (hl:v.length=n) (hr:∀ r∈v,r < beds.length):isWayB beds n (wI v)=fitsB beds v:=by
  have h1:decide ((wI v).length=n)=true:=decide_eq_true (by simp [wI,hl])
  have h2:((wI v).all fun r=>decide (0≤r∧r < (beds.length:Int)))=true:=by
    rw [List.all_eq_true]
    intro z hz
    obtain ⟨r,hr',rfl⟩:=List.mem_map.mp hz
    have:=hr r hr'
    exact decide_eq_true (by omega)
  unfold isWayB fitsB
  rw [h1,h2,Bool.and_self,Bool.true_and,Bool.eq_iff_iff,List.all_eq_true,List.all_eq_true]
  have key:∀ r,r∈List.range beds.length→((((wI v).count (r:Int):Nat):Int)≤beds.getD r 0 ↔ v.count r≤bF beds r):=fun r hr'=>by
    have hr2:=List.mem_range.mp hr'
    have:0≤beds.getD r 0:=by
      rw [getD_get _ _ hr2]
      exact hb _ (List.getElem_mem hr2)
    rw [wI_count]
    unfold bF
    omega
  constructor
  · intro h r hr'
    exact decide_eq_true ((key r hr').mp (of_decide_eq_true (h r hr')))
  · intro h r hr'
    exact decide_eq_true ((key r hr').mpr (of_decide_eq_true (h r hr')))
theorem filter_range {α:Type} (p:α→Bool) (d:α) (xs:List α):((List.range xs.length).filter fun i=>p (xs.getD i d)).map (fun i=>xs.getD i d)=xs.filter p:=by
  have hg:xs=(List.range xs.length).map fun k=>xs.getD k d:=by
    refine List.ext_getElem (by simp) fun i z1 z2=>?_
    simp [List.getD,z1]
  conv=>rhs; rw [hg,List.filter_map]
  rfl
theorem pick_rows {H:Hp} {ws:List Addr} {al:List (List Nat)} (hR:Rows H ws (al.map wI)) (p:List Nat→Bool) (d:Addr):Rows H (((List.range ws.length).filter fun i=>p (al.getD i [])).map fun i=>ws.getD i d) ((al.filter p).map wI):=by
  have hl:ws.length=al.length:=by rw [hR.1,List.length_map]
  rw [hl,← filter_range p [] al]
  refine ⟨by simp,fun i a row z1 z2=>?_⟩
  rw [List.getElem?_map] at z1
  rw [List.getElem?_map,List.getElem?_map] at z2
  have hmf:∀ k∈(List.range al.length).filter fun k=>p (al.getD k []),k < al.length:=fun k hk=>List.mem_range.mp (List.mem_filter.mp hk).1
  generalize (List.range al.length).filter (fun k=>p (al.getD k []))=fl at *
  cases hf:fl[i]? with
  | none=>rw [hf] at z1; cases z1
  | some k =>
    rw [hf] at z1 z2
    have hk:=hmf k (List.mem_of_getElem? hf)
    simp at z1 z2
    subst z1 z2
    refine hR.2 k _ _ (by simp [show k < ws.length by omega]) ?_
    simp [hk]
theorem pick_mem {ws:List Addr} {p:Nat→Bool} {d a:Addr} (h:a∈((List.range ws.length).filter p).map fun i=>ws.getD i d):a∈ws:=by
  obtain ⟨k,hk,rfl⟩:=List.mem_map.mp h
  have:=List.mem_range.mp (List.mem_filter.mp hk).1
  rw [show ws.getD k d=ws[k] by simp [List.getD,this]]
  exact List.getElem_mem this
end L2
namespace L2
open PySem PySem.Spec PyProof.Rows BW
def sp_broad (K:PySem.W.Frag):Sp:=fun vs H Q _ => ∃ (a:Addr) (ns:List Int),vs=[.ref a]∧SqL K H a (ns.map V.int) ∧
  ∀ (t b w:Addr) (worths:List (List Int)) (rent:Int) (H':Hp),Same H H'→H' t=some (.tup [.ref b,.ref w,.int rent])→H' b=some (.lst (([4,4]:List Int).map V.int))→Mat H' w worths→5≤worths.length→worths.length≤8→(∀ row∈worths,row.length=2)→(∀ row∈worths,∀ x∈row,-(10 ^ 40) < x∧x < 10 ^ 40)→0≤rent→rent < 3000→Q (.ref t) H'
end L2
namespace L2
open PySem PySem.Spec PyProof.Rows BW
theorem told_len {beds:List Int} {worths:List (List Int)} {rent:Int} {rows:List Int} (HG:HouseG beds worths) (told:Told true beds worths rent rows):0 < (bestP beds worths).length∧(bestP beds worths).length≤lenP (lvlN worths.length beds.length (lvlB (worths.length:Int) beds.length worths rows)):=by
  obtain ⟨way,m,bst⟩:=id told
  have ln:=bst.ok.len
  refine ⟨List.length_pos_of_mem (mem_best.mpr ⟨ln,bst.fit,bst.opt⟩),?_⟩
  rw [bestP_eq ln bst.fit bst.opt,← lvlL_best (L:=lvlB (worths.length:Int) beds.length worths rows) (fun v h1 h2 h3 i hi=>told.lvl HG.w1 bst.ok bst.fit bst.opt h1 h2 h3 hi),← prodL_lvl,← prodL_len]
  exact Nat.le_trans (List.length_filter_le _ _) (List.length_filter_le _ _)
end L2
namespace L2
open PySem PySem.Spec PyProof PyProof.Rows BW
section
variable {X:Cx} {pins:List (Addr × Obj)} {σ:St} {H:Hp} {s:Shared}
theorem Inv.through {E:XK} {F:Value→Shared→Prop} {e:Value} {s':Shared} (I:Inv X pins σ H s) (hX:X.ex=[]) (hst:X.stack=X.env :: X.outer) (hf:X.env.frame=some X.env.locals) (c:CXR X.prog X.w X.stack H s E e s') :
    wpAny (model X.prog X.w) X.A (leaving X.env e) (fun _ s''=>CXR X.prog X.w X.outer X.H₀ X.s₀ E e s'') F s':=by
  obtain ⟨ea,cls,a0,H',B,x⟩:=c
  obtain rfl:=x.is_
  have sub:∀ b o,X.s₀.heap.get? b=some o→b∈frs X.stack→b∈X.fs:=fun b o h0 hb=>by
    rcases List.mem_cons.mp (I.stkSub b hb) with z | z
    · exact absurd (Heap.lt_size h0) (by rw [z]; exact Nat.not_lt.mpr I.ok.above)
    · exact z
  have sup:∀ b,b∈X.fs→b∈frs X.stack:=fun b hb=>by
    rw [hst]
    obtain ⟨en,h2,h3⟩:=List.mem_filterMap.mp hb
    exact List.mem_filterMap.mpr ⟨en,.tail _ h2,h3⟩
  have nx:∀ b,b ∉ X.ex:=fun b z=>by rw [hX] at z; cases z
  have nn:∀ b:Addr,b ∉ ([]:List Addr):=fun b=>by simp
  have hfr:X.A.frames=some (X.env :: X.outer):=by rw [← hst]; exact I.ok.frames
  have fly:=x.fly
  rw [hst] at fly
  refine wpAny_leaves_onW (base:=B) hfr hf fly fun h2 fly2 up=>?_
  have st:∀ b o,s'.heap.get? b=some o→b∈frs X.stack→∃ sl,h2.get? b=some { o with slots:=sl }:=fun b o z hb=>by
    obtain ⟨_,o',ho',nf⟩:=x.fly.2.2.1.mem hb
    rw [z] at ho'
    cases ho'
    exact up b o z nf
  refine ⟨ea,cls,a0,H',B,rfl,x.wish,x.os.trans I.os,x.bare,⟨fun b o e0 n hb _=>?_,fun b o e0 n hb _=>?_,fun b o e0 n _=>?_,fun b o e0 _=>?_,fun b xs q=>x.un.tups b xs (I.base.tups b xs q),fun b o u q=>x.un.frzs b o u (I.base.frzs b o u q),fun b ps q=>?_⟩,x.hokB,fly2,fun b o e0 hb=>?_⟩
  · have e1:=I.base.keep b o e0 n hb (nx b)
    have n1:=I.base.free b o e0 n (nx b)
    have hb':b ∉ frs X.stack:=fun z=>hb (sub b o e0 z)
    have e2:=x.un.keep b o e1 n1 hb' (nn b)
    obtain ⟨o',z⟩:=x.old b o e1 hb'
    have e3:=x.fly.1 b o' z
    rw [e2] at e3
    cases e3
    exact fly2.1 b o z
  · obtain ⟨sl1,e1⟩:=I.base.slot b o e0 n hb (nx b)
    have n1:=I.base.free b o e0 n (nx b)
    obtain ⟨sl2,e2⟩:=x.un.slot b _ e1 n1 (sup b hb) (nn b)
    obtain ⟨sl3,e3⟩:=st b _ e2 (sup b hb)
    exact ⟨sl3,e3⟩
  · obtain ⟨o',e1⟩:=I.base.there b o e0 (nx b)
    exact x.un.free b o' e1 (I.base.free b o e0 n (nx b)) (nn b)
  · obtain ⟨o',e1⟩:=I.base.there b o e0 (nx b)
    by_cases hb:b∈frs X.stack
    · obtain ⟨o2,e2⟩:=x.un.there b o' e1 (nn b)
      obtain ⟨sl2,e3⟩:=st b _ e2 hb
      exact ⟨_,e3⟩
    · obtain ⟨o2,e2⟩:=x.old b o' e1 hb
      exact ⟨_,fly2.1 b _ e2⟩
  · obtain ⟨more,z⟩:=I.base.tbls b ps q
    obtain ⟨more2,z2⟩:=x.un.tbls b _ z
    exact ⟨more ++ more2,by rw [z2]; simp⟩
  · obtain ⟨o',e1⟩:=I.base.there b o e0 (nx b)
    exact x.old b o' e1 fun z=>hb (sub b o e0 z)
end
theorem passR {P:Program} {w:World} {K:PySem.W.Frag} {mg:Str→Option Value} {base:Heap} {N:List Str} {qual:Str} {scope:Scope} {f:Addr} {cd:Value} {A:Around} {outer:List Env} {s:Shared} {H:Hp} {E:XK} :
    Passes (CXR P w) (cxOf (CXR P w) P w K mg base N qual scope f cd A outer s H E) E:=fun pins σ H1 s1 e s' I c=>I.through rfl rfl rfl c
section
variable {X:Cx} {k:Nat} {ps:List Str} {sp:Sp} {x:Str} {p pos:Pos} {e:Expr} {es:List Expr} {t:TA} {E:XK}
theorem pe_defXP (hx:Passes (CXR X.prog X.w) X E) (D:DefX X.prog X.w X.K X.mg X.base k x ps sp) (hr:Room k X.A) (hg:Gl X x) (ha:PA X (e :: es) t) (hdb:(x == ("__debug__" : Str))=false:=by decide) (he:starEach (e :: es) X.env=(false,eval e X.env) :: starEach es X.env:=by rfl)
    (hpl:(backTo pos (starEach es X.env)).any (·.1)=false:=by rfl):PE X (.Call (.Name x p) (e :: es) [] pos) (tCall sp [] E t):=by
  obtain ⟨f,fd,hm,hk,hb,G⟩:=D.ex
  exact pe_call G hr hg hm hk hb .nil hx ha hdb he hpl
end
def nearC (wings:List Str) (ps:List (Int × Int)) (bl:List (List Nat)):List Int:=bl.map fun v=>((nearN (wI v) wings ps:Nat):Int)
def handD2 (wings:List Str) (ps:List (Int × Int)):PyData:=.list [.list (wings.map PyData.str),.list (ps.map prD)]
theorem hand2_eqv (wings:List Str) (ps:List (Int × Int)):PyData.eqv (handD2 wings ps) (handD2 wings ps)=true:=by
  simp [handD2,PyData.eqv,PyData.eqvAll,strs_eqv,prs_eqv]
theorem hand2_shaped (wings:List Str) (ps:List (Int × Int)) (ok:∀ z∈wings,PyData.strOk z=true):SeqAt.shaped (handD2 wings ps)=true:=by
  have:=prs_depth ps
  unfold SeqAt.shaped
  refine Bool.and_eq_true_iff.mpr ⟨?_,decide_eq_true ?_⟩
  · simp [handD2,PyData.canLay0,PyData.canLayAll0,strs_lay wings ok,prs_lay]
  · simp only [handD2,PyData.depth,PyData.depthAll,strs_depth]
    omega
theorem rv_hand2 {K:PySem.W.Frag} {H:Hp} {l b c:Addr} {wings:List Str} {as:List Addr} {ps:List (Int × Int)} (hl:H l=some (.lst [.ref b,.ref c])) (hb:H b=some (.lst (wings.map V.str)))
    (hc:H c=some (.lst (as.map V.ref))) (hp:Prs H as ps):ReadV K H (.ref l) (handD2 wings ps) :=
  rv_list (SqL.of hl) (.cons (rv_list (SqL.of hb) (rv_strs _)) (.cons (rv_list (SqL.of hc) (rv_prs hp)) .nil))
def sp_nearway (CH eM:Addr) (P1:Addr) (l1:Pos) (q1:Str) (P2:Addr) (l2:Pos) (q2:Str):Sp:=fun vs H Q E => ∃ (x b c:Addr) (beds:List Int) (worths:List (List Int)) (rent:Int) (wings:List Str) (as:List Addr) (ps:List (Int × Int)),vs=[.ref x,.ref b,.ref c]∧HouseAt CH H x beds worths rent∧HouseG beds worths∧LamAt H P1 l1 q1∧LamAt H P2 l2 q2∧(-(10 ^ 42) < rent∧rent < 10 ^ 42) ∧
  H b=some (.lst (wings.map V.str))∧H c=some (.lst (as.map V.ref))∧Prs H as ps∧(∀ v:List Nat,v.length=worths.length→(∀ r∈v,r < beds.length)→NearOk (wI v) wings ps) ∧
  ∀ (rows:List Int) (H':Hp),SameB H H'→LamAt H' P1 l1 q1→LamAt H' P2 l2 q2→Told true beds worths rent rows →
    (lenP (lvlN worths.length beds.length (lvlB (worths.length:Int) beds.length worths rows))≤200→∀ (l:Addr) (z:Int),H l=none→z∈nearC wings ps (bestP beds worths)→(∀ y∈nearC wings ps (bestP beds worths),y≤z)→H' l=some (.lst ((wI ((bestP beds worths).getD ((nearC wings ps (bestP beds worths)).idxOf z) [])).map V.int))→Q (.ref l) H')∧(200 < lenP (lvlN worths.length beds.length (lvlB (worths.length:Int) beds.length worths rows))→E (.ref eM) none H')
def sp_asked75 (CH:Addr) (P1:Addr) (l1:Pos) (q1:Str) (P2:Addr) (l2:Pos) (q2:Str):Sp:=fun vs H Q _ => ∃ (x b c:Addr) (beds:List Int) (worths:List (List Int)) (rent:Int) (wings:List Str) (as:List Addr) (ps:List (Int × Int)),vs=[.ref x,.ref b,.ref c]∧HouseAt CH H x beds worths rent∧HouseG beds worths∧LamAt H P1 l1 q1∧LamAt H P2 l2 q2∧(-(10 ^ 42) < rent∧rent < 10 ^ 42) ∧
  H b=some (.lst (wings.map V.str))∧H c=some (.lst (as.map V.ref))∧Prs H as ps∧(∀ v:List Nat,v.length=worths.length→(∀ r∈v,r < beds.length)→NearOk (wI v) wings ps) ∧
  ∀ (rows:List Int) (t:Addr) (fo:V) (re:Bool) (H':Hp),SameB H H'→LamAt H' P1 l1 q1→LamAt H' P2 l2 q2→Told true beds worths rent rows→H' t=some (.tup [fo,.bl re]) →
    ((re=false∧lenP (lvlN worths.length beds.length (lvlB (worths.length:Int) beds.length worths rows))≤200∧∃ (l:Addr) (z:Int),fo=.ref l∧z∈nearC wings ps (bestP beds worths)∧(∀ y∈nearC wings ps (bestP beds worths),y≤z)∧H' l=some (.lst ((wI ((bestP beds worths).getD ((nearC wings ps (bestP beds worths)).idxOf z) [])).map V.int)))∨(re=true∧200 < lenP (lvlN worths.length beds.length (lvlB (worths.length:Int) beds.length worths rows))))→Q (.ref t) H'
def sp_ways75 (CH:Addr) (P1:Addr) (l1:Pos) (q1:Str) (P2:Addr) (l2:Pos) (q2:Str):Sp:=fun vs H Q _ => ∃ (x:Addr) (beds:List Int) (worths:List (List Int)) (rent:Int),vs=[.ref x]∧HouseAt CH H x beds worths rent∧HouseG beds worths∧LamAt H P1 l1 q1∧LamAt H P2 l2 q2∧(-(10 ^ 42) < rent∧rent < 10 ^ 42) ∧
  ∀ (rows:List Int) (fo:V) (H':Hp),SameB H H'→Told true beds worths rent rows→((lenP (lvlN worths.length beds.length (lvlB (worths.length:Int) beds.length worths rows))≤200∧∃ l,fo=.ref l∧Mat H' l ((bestP beds worths).map wI))∨(200 < lenP (lvlN worths.length beds.length (lvlB (worths.length:Int) beds.length worths rows))∧fo=.non))→Q fo H'
end L2
local macro_rules | `(tactic| walk_at "go") => `(tactic| repeat (first
  | refine ⟨_,rfl,?_⟩
  | refine ⟨_,_,rfl,rfl,?_⟩
  | refine ⟨rfl,?_⟩
  | refine ⟨⟨⟨by omega,by omega⟩,⟨by omega,by omega⟩⟩,?_⟩
  | refine ⟨⟨by omega,by omega⟩,?_⟩
  | refine ⟨⟨by decide,by decide,by decide⟩,?_⟩
  | refine ⟨⟨by decide,by decide,by omega⟩,?_⟩
  | refine And.intro (by decide) ?_
  | refine And.intro (by show (0:Int) < _; decide) ?_
  | refine And.intro (by (with_reducible show List.length _≤PySem.sizeLine); exact L2.len_small (by simp)) ?_
  | refine And.intro (by omega) ?_))
namespace My
open PySem L2 BW
def top (i:Nat):Stmt:=PySem.Challenge.pw_rentshare_k75_near_way.main.body.getD i (.Pass ⟨0,0,0,0⟩)
structure Txt (mg:Str→Option Value):Prop where
  len:mg "len" = none
  range:mg "range" = none
  enumerate:mg "enumerate" = none
  isinstance:mg "isinstance" = none
  int:mg "int" = none
  bool:mg "bool" = none
  list:mg "list" = none
  min:mg "min" = none
  max:mg "max" = none
  sum:mg "sum" = none
  all:mg "all" = none
  sorted:mg "sorted" = none
  set:mg "set" = none
  reversed:mg "reversed" = none
  abs:mg "abs" = none
  MOST_LISTS:∃ v,mg "MOST_LISTS" = some v∧∃ t,v=.int 200 t
abbrev s___init__:Stmt:=inClass (top 5) 0
theorem sc___init__:FnScope ["self","beds","worths","rent"] ["self","beds","worths","rent"] (defScope s___init__):=⟨rfl,rfl,rfl,by decide +kernel,rfl,by decide +kernel,by decide +kernel⟩
abbrev s_people:Stmt:=inClass (top 5) 1
theorem sc_people:FnScope ["self"] ["self"] (defScope s_people):=⟨rfl,rfl,rfl,by decide +kernel,rfl,by decide +kernel,by decide +kernel⟩
abbrev s_rooms:Stmt:=inClass (top 5) 2
theorem sc_rooms:FnScope ["self"] ["self"] (defScope s_rooms):=⟨rfl,rfl,rfl,by decide +kernel,rfl,by decide +kernel,by decide +kernel⟩
abbrev s_lying:Stmt:=top 6
theorem sc_lying:FnScope ["house","way"] ["house","way"] (defScope s_lying):=⟨rfl,rfl,rfl,by decide +kernel,rfl,by decide +kernel,by decide +kernel⟩
abbrev s_open_rooms:Stmt:=top 7
theorem sc_open_rooms:FnScope ["house","way","counts"] ["house","way"] (defScope s_open_rooms):=⟨rfl,rfl,rfl,by decide +kernel,rfl,by decide +kernel,by decide +kernel⟩
abbrev s_worth_of:Stmt:=top 8
theorem sc_worth_of:FnScope ["house","way"] ["house","way"] (defScope s_worth_of):=⟨rfl,rfl,rfl,by decide +kernel,rfl,by decide +kernel,by decide +kernel⟩
abbrev s_improve:Stmt:=top 17
theorem sc_improve:FnScope ["house","way","gains","moves","person","left","worths","room","gain"] ["house","way","gains","moves"] (defScope s_improve):=⟨rfl,rfl,rfl,by decide +kernel,rfl,by decide +kernel,by decide +kernel⟩
abbrev s_bring_in:Stmt:=top 18
theorem sc_bring_in:FnScope ["house","way","newcomer","moves","turn","end","brought","move","gains"] ["house","way"] (defScope s_bring_in):=⟨rfl,rfl,rfl,by decide +kernel,rfl,by decide +kernel,by decide +kernel⟩
abbrev s_best_way:Stmt:=top 19
theorem sc_best_way:FnScope ["house","way"] ["house"] (defScope s_best_way):=⟨rfl,rfl,rfl,by decide +kernel,rfl,by decide +kernel,by decide +kernel⟩
abbrev s_is_hop:Stmt:=top 21
theorem sc_is_hop:FnScope ["aim","hop","people"] ["aim","hop"] (defScope s_is_hop):=⟨rfl,rfl,rfl,by decide +kernel,rfl,by decide +kernel,by decide +kernel⟩
abbrev s_chain_gain:Stmt:=top 22
theorem sc_chain_gain:FnScope ["aim","chain","i","total","ending","hop"] ["aim","chain","i"] (defScope s_chain_gain):=⟨rfl,rfl,rfl,by decide +kernel,rfl,by decide +kernel,by decide +kernel⟩
abbrev s_best_room:Stmt:=top 23
theorem sc_best_room:FnScope ["aim","rooms","a","b"] ["aim","rooms","a","b"] (defScope s_best_room):=⟨rfl,rfl,rfl,by decide +kernel,rfl,by decide +kernel,by decide +kernel⟩
abbrev s_best_hops:Stmt:=top 24
theorem sc_best_hops:FnScope ["aim","people","hops","a","b","rooms"] ["aim"] (defScope s_best_hops):=⟨rfl,rfl,rfl,by decide +kernel,rfl,by decide +kernel,by decide +kernel⟩
abbrev s_hop_on:Stmt:=top 25
theorem sc_hop_on:FnScope ["hops","gains","totals","chains","place","hop","came","there"] ["hops","gains","totals","chains"] (defScope s_hop_on):=⟨rfl,rfl,rfl,by decide +kernel,rfl,by decide +kernel,by decide +kernel⟩
abbrev s_carry:Stmt:=top 26
theorem sc_carry:FnScope ["aim","starts","totals","chains","hops","gains","turn"] ["aim","starts"] (defScope s_carry):=⟨rfl,rfl,rfl,by decide +kernel,rfl,by decide +kernel,by decide +kernel⟩
abbrev s_greatest:Stmt:=top 27
theorem sc_greatest:FnScope ["aim"] ["aim"] (defScope s_greatest):=⟨rfl,rfl,rfl,by decide +kernel,rfl,by decide +kernel,by decide +kernel⟩
abbrev s_bound:Stmt:=top 28
theorem sc_bound:FnScope ["aim","chains","people","gains"] ["aim","chains"] (defScope s_bound):=⟨rfl,rfl,rfl,by decide +kernel,rfl,by decide +kernel,by decide +kernel⟩
abbrev s_common_divisor:Stmt:=top 30
theorem sc_common_divisor:FnScope ["one","other","rest"] ["one","other"] (defScope s_common_divisor):=⟨rfl,rfl,rfl,by decide +kernel,rfl,by decide +kernel,by decide +kernel⟩
abbrev s_lowest:Stmt:=top 31
theorem sc_lowest:FnScope ["parts","rows","divisor","row"] ["parts","rows"] (defScope s_lowest):=⟨rfl,rfl,rfl,by decide +kernel,rfl,by decide +kernel,by decide +kernel⟩
abbrev s_room_price:Stmt:=top 33
theorem sc_room_price:FnScope ["aim","costs","room"] ["aim","costs","room"] (defScope s_room_price):=⟨rfl,rfl,rfl,by decide +kernel,rfl,by decide +kernel,by decide +kernel⟩
abbrev s_prices_at:Stmt:=top 34
theorem sc_prices_at:FnScope ["aim","levels","parts","costs"] ["aim","levels","parts"] (defScope s_prices_at):=⟨rfl,rfl,rfl,by decide +kernel,rfl,by decide +kernel,by decide +kernel⟩
abbrev s_divide:Stmt:=top 35
theorem sc_divide:FnScope ["aim","told","least","levels"] ["aim"] (defScope s_divide):=⟨rfl,rfl,rfl,by decide +kernel,rfl,by decide +kernel,by decide +kernel⟩
abbrev s_Aim___init__:Stmt:=inClass (top 11) 0
theorem sc_Aim___init__:FnScope ["self","house","way"] ["self","house","way"] (defScope s_Aim___init__):=⟨rfl,rfl,rfl,by decide +kernel,rfl,by decide +kernel,by decide +kernel⟩
abbrev s_with_open:Stmt:=top 12
theorem sc_with_open:FnScope ["aim","room"] ["aim","room"] (defScope s_with_open):=⟨rfl,rfl,rfl,by decide +kernel,rfl,by decide +kernel,by decide +kernel⟩
abbrev s_own_worth:Stmt:=top 13
theorem sc_own_worth:FnScope ["aim","person"] ["aim","person"] (defScope s_own_worth):=⟨rfl,rfl,rfl,by decide +kernel,rfl,by decide +kernel,by decide +kernel⟩
abbrev s_Worst_through:Stmt:=inClass (top 14) 0
theorem sc_Worst_through:FnScope ["self","a","b"] ["self","a","b"] (defScope s_Worst_through):=⟨rfl,rfl,rfl,by decide +kernel,rfl,by decide +kernel,by decide +kernel⟩
abbrev s_Worst_gain:Stmt:=inClass (top 14) 1
theorem sc_Worst_gain:FnScope ["self","a","r","b"] ["self","a","r","b"] (defScope s_Worst_gain):=⟨rfl,rfl,rfl,by decide +kernel,rfl,by decide +kernel,by decide +kernel⟩
abbrev s_Worst_whole:Stmt:=inClass (top 14) 2
theorem sc_Worst_whole:FnScope ["self"] ["self"] (defScope s_Worst_whole):=⟨rfl,rfl,rfl,by decide +kernel,rfl,by decide +kernel,by decide +kernel⟩
abbrev s_Worst_price:Stmt:=inClass (top 14) 3
theorem sc_Worst_price:FnScope ["self","i","level","parts"] ["self","i","level","parts"] (defScope s_Worst_price):=⟨rfl,rfl,rfl,by decide +kernel,rfl,by decide +kernel,by decide +kernel⟩
abbrev s_Even_through:Stmt:=inClass (top 15) 0
theorem sc_Even_through:FnScope ["self","a","b"] ["self","a","b"] (defScope s_Even_through):=⟨rfl,rfl,rfl,by decide +kernel,rfl,by decide +kernel,by decide +kernel⟩
abbrev s_Even_gain:Stmt:=inClass (top 15) 1
theorem sc_Even_gain:FnScope ["self","a","r","b"] ["self","a","r","b"] (defScope s_Even_gain):=⟨rfl,rfl,rfl,by decide +kernel,rfl,by decide +kernel,by decide +kernel⟩
abbrev s_Even_whole:Stmt:=inClass (top 15) 2
theorem sc_Even_whole:FnScope ["self"] ["self"] (defScope s_Even_whole):=⟨rfl,rfl,rfl,by decide +kernel,rfl,by decide +kernel,by decide +kernel⟩
abbrev s_Even_price:Stmt:=inClass (top 15) 3
theorem sc_Even_price:FnScope ["self","i","level","parts"] ["self","i","level","parts"] (defScope s_Even_price):=⟨rfl,rfl,rfl,by decide +kernel,rfl,by decide +kernel,by decide +kernel⟩
abbrev s_share_out:Stmt:=top 36
theorem sc_share_out:FnScope ["house","word","way","aim","told"] ["house","word"] (defScope s_share_out):=⟨rfl,rfl,rfl,by decide +kernel,rfl,by decide +kernel,by decide +kernel⟩
abbrev s_paid:Stmt:=top 38
theorem sc_paid:FnScope ["house","way","prices"] ["house","way","prices"] (defScope s_paid):=⟨rfl,rfl,rfl,by decide +kernel,rfl,by decide +kernel,by decide +kernel⟩
abbrev s_shares:Stmt:=top 39
theorem sc_shares:FnScope ["house","way","prices","costs"] ["house","way","prices"] (defScope s_shares):=⟨rfl,rfl,rfl,by decide +kernel,rfl,by decide +kernel,by decide +kernel⟩
abbrev s_level_rooms:Stmt:=top 42
theorem sc_level_rooms:FnScope ["house","told","parts","rows","had","level","person","worths"] ["house"] (defScope s_level_rooms):=⟨rfl,rfl,rfl,by decide +kernel,rfl,by decide +kernel,by decide +kernel⟩
abbrev s_product:Stmt:=top 43
theorem sc_product:FnScope ["numbers","total","number"] ["numbers"] (defScope s_product):=⟨rfl,rfl,rfl,by decide +kernel,rfl,by decide +kernel,by decide +kernel⟩
abbrev s_all_lists:Stmt:=top 44
theorem sc_all_lists:FnScope ["level","lists","rooms","longer","begun"] ["level"] (defScope s_all_lists):=⟨rfl,rfl,rfl,by decide +kernel,rfl,by decide +kernel,by decide +kernel⟩
abbrev s_all_ways:Stmt:=top 45
theorem sc_all_ways:FnScope ["house","level","ways","most"] ["house"] (defScope s_all_ways):=⟨rfl,rfl,rfl,by decide +kernel,rfl,by decide +kernel,by decide +kernel⟩
abbrev s_is_way:Stmt:=top 9
theorem sc_is_way:FnScope ["house","way","counts"] ["house","way"] (defScope s_is_way):=⟨rfl,rfl,rfl,by decide +kernel,rfl,by decide +kernel,by decide +kernel⟩
abbrev s_lie_near:Stmt:=top 47
theorem sc_lie_near:FnScope ["way","wings","pair"] ["way","wings","pair"] (defScope s_lie_near):=⟨rfl,rfl,rfl,by decide +kernel,rfl,by decide +kernel,by decide +kernel⟩
abbrev s_near_count:Stmt:=top 48
theorem sc_near_count:FnScope ["way","wings","pairs"] ["way","wings","pairs"] (defScope s_near_count):=⟨rfl,rfl,rfl,by decide +kernel,rfl,by decide +kernel,by decide +kernel⟩
abbrev s_near_way:Stmt:=top 49
theorem sc_near_way:FnScope ["house","wings","pairs","ways","counts"] ["house","wings","pairs"] (defScope s_near_way):=⟨rfl,rfl,rfl,by decide +kernel,rfl,by decide +kernel,by decide +kernel⟩
abbrev s__law_cell_at:Stmt:=top 51
theorem sc__law_cell_at:FnScope ["_law_script","_law_k"] ["_law_script","_law_k"] (defScope s__law_cell_at):=⟨rfl,rfl,rfl,by decide +kernel,rfl,by decide +kernel,by decide +kernel⟩
abbrev s__law_mixed:Stmt:=top 52
theorem sc__law_mixed:FnScope ["_law_cell","_law_k","_law_m"] ["_law_cell","_law_k"] (defScope s__law_mixed):=⟨rfl,rfl,rfl,by decide +kernel,rfl,by decide +kernel,by decide +kernel⟩
abbrev s__law_beds:Stmt:=top 53
theorem sc__law_beds:FnScope ["_law_first","_law_many","_law_beds_here","_law_k"] ["_law_first","_law_many"] (defScope s__law_beds):=⟨rfl,rfl,rfl,by decide +kernel,rfl,by decide +kernel,by decide +kernel⟩
abbrev s__law_worths:Stmt:=top 54
theorem sc__law_worths:FnScope ["_law_script","_law_first","_law_people","_law_rooms","_law_sums","_law_k","_law_cell","_law_at","_law_worths_here","_law_i","_law_row"] ["_law_script","_law_first","_law_people","_law_rooms"] (defScope s__law_worths):=⟨rfl,rfl,rfl,by decide +kernel,rfl,by decide +kernel,by decide +kernel⟩
abbrev s__law_house:Stmt:=top 55
theorem sc__law_house:FnScope ["_law_script","_law_most_people","_law_most_rooms","_law_first","_law_beds_here","_law_people","_law_worths_here","_law_rent"] ["_law_script","_law_most_people","_law_most_rooms"] (defScope s__law_house):=⟨rfl,rfl,rfl,by decide +kernel,rfl,by decide +kernel,by decide +kernel⟩
abbrev s__law_broad:Stmt:=top 56
theorem sc__law_broad:FnScope ["_law_script","_law_worths_here","_law_i","_law_m","_law_worth"] ["_law_script"] (defScope s__law_broad):=⟨rfl,rfl,rfl,by decide +kernel,rfl,by decide +kernel,by decide +kernel⟩
abbrev s__law_whole:Stmt:=top 57
theorem sc__law_whole:FnScope ["_law_found"] ["_law_found"] (defScope s__law_whole):=⟨rfl,rfl,rfl,by decide +kernel,rfl,by decide +kernel,by decide +kernel⟩
abbrev s__law_wings:Stmt:=top 58
theorem sc__law_wings:FnScope ["_law_script","_law_rooms","_law_letters","_law_head","_law_size","_law_place","_law_rest","_law_names","_law_k","_law_sign","_law_many"] ["_law_script","_law_rooms"] (defScope s__law_wings):=⟨rfl,rfl,rfl,by decide +kernel,rfl,by decide +kernel,by decide +kernel⟩
abbrev s__law_pairs:Stmt:=top 59
theorem sc__law_pairs:FnScope ["_law_script","_law_many","_law_pairs_here","_law_a","_law_b","_law_m"] ["_law_script","_law_many"] (defScope s__law_pairs):=⟨rfl,rfl,rfl,by decide +kernel,rfl,by decide +kernel,by decide +kernel⟩
abbrev s__law_near:Stmt:=top 60
theorem sc__law_near:FnScope ["_law_way","_law_wings_here","_law_pairs_here","_law_many","_law_pair"] ["_law_way","_law_wings_here","_law_pairs_here"] (defScope s__law_near):=⟨rfl,rfl,rfl,by decide +kernel,rfl,by decide +kernel,by decide +kernel⟩
abbrev s__law_ways:Stmt:=top 61
theorem sc__law_ways:FnScope ["_law_house_here","_law_ways_here"] ["_law_house_here"] (defScope s__law_ways):=⟨rfl,rfl,rfl,by decide +kernel,rfl,by decide +kernel,by decide +kernel⟩
abbrev s__law_asked:Stmt:=top 62
theorem sc__law_asked:FnScope ["_law_house_here","_law_wings_here","_law_pairs_here","_law_found","_law_refused"] ["_law_house_here","_law_wings_here","_law_pairs_here"] (defScope s__law_asked):=⟨rfl,rfl,rfl,by decide +kernel,rfl,by decide +kernel,by decide +kernel⟩
abbrev s_law:Stmt:=top 63
theorem sc_law:FnScope ["_law_script","_law_beds_here","_law_worths_here","_law_rent","_law_house_here","_law_wings_here","_law_pairs_here","_law_handed","_law_found","_law_refused","_law_ways_here","_law_counts","_law_due"] ["_law_script"] (defScope s_law):=⟨rfl,rfl,rfl,by decide +kernel,rfl,by decide +kernel,by decide +kernel⟩
def lamPos:Pos:=⟨101,42,101,66⟩
def lamPos2:Pos:=⟨127,26,127,59⟩
section
variable {P:Program} {w:World} {K:PySem.W.Frag} {mg:Str→Option Value} {base:Heap}
theorem D_init {C:Addr} (T:Txt mg) (HC:HCls K mg C) (S:MSrc K C "__init__" "House.__init__" s___init__):MDef P w K mg base 1 C "__init__" ["self","beds","worths","rent"] (sp_init C):=by
  refine S.mk' sc___init__ (fun vs H Q E h=>?_) (fun _ _ _ _ _ _ us hl=>match us,hl with | [_,_,_,_],_=>rfl) (fun f cdv A outer s H vs Q E hr h=>?_)
  · obtain ⟨p,dx,b,w,beds,worths,rent,rfl,_⟩:=h
    rfl
  · obtain ⟨p,dx,b,w,beds,worths,rent,rfl,hp,hb,hM,lb,lw,hle,q⟩:=h
    refine ⟨_,(pss_cons (ps_if (pt_cmpR op_gt (pe_callB (call_lenK (K:=K) rfl) (by rfl) T.len boot_len' (pa_cons (pv 2) pa_nil)) (pe_callB (call_sumK (K:=K) rfl rfl) (by rfl) T.sum boot_sum' (pa_cons (pv 1) pa_nil)) (nomark _)) (pss_one (ps_never)) pss_nil)
      (pss_cons (ps_fldK (K:=K) rfl (pv 0) (pe_callTy (call_list_ofK (K:=K) rfl) (by rfl) T.list boot_list' (pa_cons (pv 1) pa_nil)) rfl)
      (pss_cons (ps_fldK (K:=K) rfl (pv 0) (pe_comp ["row"] [none] rfl rfl rfl (pi_listK (K:=K) rfl (pv 2)) (fun _ _ _ _=>(pg_name (i:=0) (by decide +kernel:(["row"]:List PySem.Str).Nodup) rfl (Or.inl rfl))) (fun _ _ _ _=>pifs_nil) (fun _ _ _ _=>(pe_callTy (call_list_ofK (K:=K) rfl) (by rfl) T.list boot_list' (pa_cons (pv 0) pa_nil)))) rfl)
      (pss_one (ps_fldK (K:=K) rfl (pv 0) (pv 3) rfl))))),?_⟩
    obtain ⟨ws,hw,hR⟩:=hM
    have hwl:(ws.map V.ref).length=worths.length:=by rw [List.length_map]; exact hR.1
    walk_at "go"
    refine ⟨w,_,rfl,.inl (SqL.of hw),?_⟩
    walk_at "go"
    refine ⟨b,beds,rfl,SqL.of hb,?_⟩
    walk_at "go"
    refine iteE (decide_eq_false (by rw [hwl]; omega)) ?_
    walk_at "go"
    refine ⟨b,_,rfl,.inl (SqL.of hb),fun l1 H1 n1=>?_⟩
    refine ⟨_,rfl,p,C,dx,[],rfl,n1.same _ _ hp,HC.cl,HC.nB,by decide,?_⟩
    have npl:l1≠p:=(ne_of_none hp n1.none).symm
    have nwp:w≠p:=ne_of hw hp (by intro z; cases z)
    have hw2:upd H1 p (.ins C dx (putF "beds" (.ref l1) [])) w=some (.lst (ws.map V.ref)):=by rw [upd_ne nwp]; exact n1.same _ _ hw
    have hl2:upd H1 p (.ins C dx (putF "beds" (.ref l1) [])) l1=some (.lst (beds.map V.int)):=by rw [upd_ne npl]; exact n1.at_
    have hr2:∀ (i:Nat) a row,ws[i]? = some a→worths[i]? = some row→upd H1 p (.ins C dx (putF "beds" (.ref l1) [])) a=some (.lst (row.map V.int)):=fun i a row h1 h2=>by
      have h3:=hR.2 i a row h1 h2
      rw [upd_ne (ne_of h3 hp (by intro z; cases z))]
      exact n1.same _ _ h3
    have hk2:∀ c o,H c=some o→c≠p→upd H1 p (.ins C dx (putF "beds" (.ref l1) [])) c=some o:=fun c o e hc=>by
      rw [upd_ne hc]
      exact n1.same _ _ e
    have hp2:upd H1 p (.ins C dx (putF "beds" (.ref l1) [])) p=some (.ins C dx (putF "beds" (.ref l1) [])):=upd_same
    generalize upd H1 p (.ins C dx (putF "beds" (.ref l1) []))=H2 at *
    clear n1
    refine ⟨_,rfl,w,rfl,⟨_,SqL.of hw2⟩,fun D hD=>?_⟩
    refine comp_list (fun i y H => ∃ l row,y=.ref l∧l≠D∧worths[i]? = some row∧H l=some (.lst (row.map V.int))) (SqL.of hw2) (by rw [hwl,sizeLine_eq]; omega) hD (fun i y H H' k ⟨l,row,e,ne,h1,h2⟩=>⟨l,row,e,ne,h1,k l _ ne h2⟩) ?_ ?_
    · rintro i x H3 ys N hx s3 d3 hN
      obtain ⟨a,ha,rfl⟩:=ref_at hx
      have hi:i < worths.length:=by rw [← hR.1]; exact (List.getElem?_eq_some_iff.mp ha).1
      have hrow:worths[i]? = some worths[i]:=by simp [hi]
      have h3:=s3 _ _ (hr2 i a _ ha hrow)
      walk_at "go"
      exact ⟨a,_,rfl,.inl (SqL.of h3),fun l H4 n4=>hN _ _ n4.same ⟨l,_,rfl,(ne_of_none d3 n4.none).symm,hrow,n4.at_⟩⟩
    · rintro ys H3 s3 d3 l3 r3
      obtain ⟨ws',e',p'⟩:=refs_ex (P:=fun i l => ∃ row,worths[i]? = some row∧H3 l=some (.lst (row.map V.int))) (fun i y e=>by
        obtain ⟨l,row,h1,_,h2,h3⟩:=r3 i y e
        exact ⟨l,h1,row,h2,h3⟩)
      subst e'
      have lw':ws'.length=worths.length:=by
        rw [List.length_map,List.length_map] at l3
        rw [l3]
        exact hR.1
      have hp3:=s3 _ _ hp2
      have hl3:=s3 _ _ hl2
      refine ⟨_,rfl,p,C,dx,_,rfl,hp3,HC.cl,HC.nW,Nat.lt_of_le_of_lt (putF_lt (n:=0) (Nat.le_refl _)) (by decide),?_⟩
      refine ⟨_,rfl,_,rfl,p,C,dx,_,rfl,upd_same,HC.cl,HC.nR,Nat.lt_of_le_of_lt (putF_lt (n:=1) (putF_lt (n:=0) (Nat.le_refl _))) (by decide),?_⟩
      have nDp:D≠p:=ne_of d3 hp3 (by intro z; cases z)
      refine q _ ⟨⟨dx,l1,D,upd_same,?_,ws',?_,lw',fun i a row h1 h2=>?_⟩⟩ fun c o e hc=>?_
      · rw [upd_ne npl,upd_ne npl]
        exact hl3
      · rw [upd_ne nDp,upd_ne nDp]
        exact d3
      · obtain ⟨row',h3,h4⟩:=p' i a h1
        rw [h3] at h2
        cases h2
        rw [upd_ne (ne_of h4 hp3 (by intro z; cases z)),upd_ne (ne_of h4 hp3 (by intro z; cases z))]
        exact h4
      · rw [upd_ne hc,upd_ne hc]
        exact s3 _ _ (hk2 c o e hc)
theorem D_people {C:Addr} (T:Txt mg) (HC:HCls K mg C) (S:MSrc K C "people" "House.people" s_people):MDef P w K mg base 1 C "people" ["self"] (sp_people C):=by
  refine S.mk' sc_people (fun vs H Q E h=>?_) (fun _ _ _ _ _ _ us hl=>match us,hl with | [_],_=>rfl) (fun f cdv A outer s H vs Q E hr h=>?_)
  · obtain ⟨p,beds,worths,rent,rfl,_⟩:=h
    rfl
  · obtain ⟨p,beds,worths,rent,rfl,hA,q⟩:=h
    refine ⟨_,(pss_one (ps_ret (pe_callB (call_lenK (K:=K) rfl) (by rfl) T.len boot_len' (pa_cons (pe_fldK (K:=K) rfl (pv 0) rfl) pa_nil)))),?_⟩
    obtain ⟨dx,b,w,h1,h2,h3⟩:=hA.ex
    obtain ⟨ws,h4,h5⟩:=h3.len
    refine ⟨_,rfl,p,C,dx,_,_,rfl,h1,HC.cl,HC.nW,hf_worths _ _ _,w,_,rfl,.inl (SqL.of h4),?_⟩
    rw [h5]
    exact q
theorem D_rooms {C:Addr} (T:Txt mg) (HC:HCls K mg C) (S:MSrc K C "rooms" "House.rooms" s_rooms):MDef P w K mg base 1 C "rooms" ["self"] (sp_rooms C):=by
  refine S.mk' sc_rooms (fun vs H Q E h=>?_) (fun _ _ _ _ _ _ us hl=>match us,hl with | [_],_=>rfl) (fun f cdv A outer s H vs Q E hr h=>?_)
  · obtain ⟨p,beds,worths,rent,rfl,_⟩:=h
    rfl
  · obtain ⟨p,beds,worths,rent,rfl,hA,q⟩:=h
    refine ⟨_,(pss_one (ps_ret (pe_callB (call_lenK (K:=K) rfl) (by rfl) T.len boot_len' (pa_cons (pe_fldK (K:=K) rfl (pv 0) rfl) pa_nil)))),?_⟩
    obtain ⟨dx,b,w,h1,h2,h3⟩:=hA.ex
    refine ⟨_,rfl,p,C,dx,_,_,rfl,h1,HC.cl,HC.nB,hf_beds _ _ _,b,_,rfl,.inl (SqL.of h2),?_⟩
    rw [List.length_map]
    exact q
theorem D_lying {C:Addr} (T:Txt mg) (HC:HCls K mg C) (S:Src K mg "lying" "lying" s_lying) (Mrooms:MDef P w K mg base 1 C "rooms" ["self"] (sp_rooms C)):Def P w K mg base 2 "lying" ["house","way"] (sp_lying K C):=by
  refine S.mk' sc_lying (fun vs H Q E h=>?_) (fun _ _ _ _ _ _ us hl=>match us,hl with | [_,_],_=>rfl) (fun f cdv A outer s H vs Q E hr h=>?_)
  · obtain ⟨p,a,beds,worths,rent,way,rfl,_⟩:=h
    rfl
  · obtain ⟨p,a,beds,worths,rent,way,rfl,hA,hl,hS,q⟩:=h
    refine ⟨_,(pss_one (ps_ret (pe_comp ["room","way"] [none,some 1] rfl rfl rfl (pi_range1 rfl T.range (pa_cons (pe_mdef0 Mrooms HC.cl (pv 0) (hr.mono (by decide))) pa_nil)) (fun _ _ _ _=>(pg_name (i:=0) (by decide +kernel:(["room","way"]:List PySem.Str).Nodup) rfl (Or.inl rfl))) (fun _ _ _ _=>pifs_nil) (fun _ _ _ _=>(pe_bmK (K:=K) rfl PySem.F.plainAttrs_list PySem.F.slot_list_count PySem.F.type_list_count (mt_countK (K:=K) rfl) (pv 1) (pa_cons (pv 0) pa_nil)))))),?_⟩
    obtain ⟨dx,b,w,h1,h2,h3⟩:=hA.ex
    refine ⟨_,rfl,p,dx,_,rfl,h1,hf_no _ _ _ (by decide +kernel) (by decide +kernel) (by decide +kernel),p,beds,worths,rent,rfl,hA,?_⟩
    refine ⟨_,rfl,by omega,by omega,fun D hD=>?_⟩
    refine comp_range (fun i y _=>y=.int ((way.count (i:Int):Nat):Int)) (by rw [sizeLine_eq]; omega) hD (fun _ _ _ _ _ h=>h) ?_ ?_
    · rintro i H1 ys N hi s1 d1 hN
      refine ⟨_,rfl,.inl ⟨rfl,_,s1.seq hS⟩,_,rfl,a,way,_,rfl,rfl,s1.seq hS,hN _ _ (Same.refl _) ?_⟩
      rw [Int.zero_add]
    · rintro ys H1 s1 d1 l1 r1
      have e:ys=(lyingL beds.length way).map V.int:=ints_of (by rw [l1]; simp [lyingL]) fun i y e=>by
        have hi:i < beds.length:=by have:=(List.getElem?_eq_some_iff.mp e).1; omega
        exact ⟨_,by simp [lyingL,hi],r1 i y e⟩
      rw [e] at d1
      exact q D H1 ⟨s1,hD,d1⟩
theorem D_open {C:Addr} (T:Txt mg) (HC:HCls K mg C) (S:Src K mg "open_rooms" "open_rooms" s_open_rooms) (Dlying:Def P w K mg base 2 "lying" ["house","way"] (sp_lying K C)) (Mrooms:MDef P w K mg base 1 C "rooms" ["self"] (sp_rooms C)):Def P w K mg base 3 "open_rooms" ["house","way"] (sp_open K C):=by
  refine S.mk' sc_open_rooms (fun vs H Q E h=>?_) (fun _ _ _ _ _ _ us hl=>match us,hl with | [_,_],_=>rfl) (fun f cdv A outer s H vs Q E hr h=>?_)
  · obtain ⟨p,a,beds,worths,rent,way,rfl,_⟩:=h
    rfl
  · obtain ⟨p,a,beds,worths,rent,way,rfl,hA,hl,hS,q⟩:=h
    refine ⟨_,(pss_cons (ps_set (i:=2) sc_open_rooms.nd rfl (Or.inr rfl) (pe_def Dlying (hr.mono (by decide)) rfl (pa_cons (pv 0) (pa_cons (pv 1) pa_nil))))
      (pss_one (ps_ret (pe_comp ["room","counts","house"] [none,some 2,some 0] rfl rfl rfl (pi_range1 rfl T.range (pa_cons (pe_mdef0 Mrooms HC.cl (pv 0) (hr.mono (by decide))) pa_nil)) (fun _ _ _ _=>(pg_name (i:=0) (by decide +kernel:(["room","counts","house"]:List PySem.Str).Nodup) rfl (Or.inl rfl))) (fun _ _ _ _=>(pifs_one (pt_cmpR op_lt (pe_ix (ix_seqK (K:=K) rfl) (pv 1) (pv 0) (fun _ _=>rfl)) (pe_ix (ix_seqK (K:=K) rfl) (pe_fldK (K:=K) rfl (pv 2) rfl) (pv 0) (fun _ _=>rfl)) (nomark _)))) (fun _ _ _ _=>(pv 0)))))),?_⟩
    refine ⟨_,rfl,_,rfl,p,a,beds,worths,rent,way,rfl,hA,hl,hS,fun l H1 n1=>?_⟩
    have hA1:=hA.same n1.same
    obtain ⟨dx,b,w,h1,h2,h3⟩:=hA1.ex
    refine ⟨_,rfl,p,dx,_,rfl,h1,hf_no _ _ _ (by decide +kernel) (by decide +kernel) (by decide +kernel),p,beds,worths,rent,rfl,hA1,?_⟩
    refine ⟨_,rfl,by omega,by omega,fun D hD=>?_⟩
    refine compIf_range (fun (r:Nat)=>decide (((way.count (r:Int):Nat):Int) < beds.getD r 0)) (fun (r:Nat)=>.int r) (by rw [sizeLine_eq]; omega) hD ?_ ?_ ?_
    · rintro i H2 N hi s2 hN
      have g1:((lyingL beds.length way).map V.int)[i]? = some (.int ((way.count (i:Int):Nat):Int)):=by simp [lyingL,show i < beds.length by omega]
      have g2:(beds.map V.int)[i]? = some (.int (beds.getD i 0)):=by simp [show i < beds.length by omega]
      walk_at "go"
      refine ixL (SqL.of (s2 _ _ n1.at_)) (atI_int i (by omega) g1) ?_
      refine ⟨_,rfl,p,C,dx,_,_,rfl,s2 _ _ h1,HC.cl,HC.nB,hf_beds _ _ _,_,rfl,?_⟩
      refine ixL (SqL.of (s2 _ _ h2)) (atI_int i (by omega) g2) ?_
      walk_at "go"
      exact hN _ (Same.refl _)
    · rintro i H2 N hi hp s2 hN
      walk_at "go"
      have:=hN _ (Same.refl _)
      rw [Int.zero_add]
      exact this
    · rintro H2 s2 d2
      refine q D H2 ⟨n1.same.trans s2,n1.same.free hD,?_⟩
      rw [d2]
      unfold openL
      rw [List.map_map]
      rfl
theorem D_improve {C:Addr} (T:Txt mg) (HC:HCls K mg C) (S:Src K mg "improve" "improve" s_improve) (Mrooms:MDef P w K mg base 1 C "rooms" ["self"] (sp_rooms C)):Def P w K mg base 2 "improve" ["house","way","gains","moves"] (sp_improve K C):=by
  refine S.mk' sc_improve (fun vs H Q E h=>?_) (fun _ _ _ _ _ _ us hl=>match us,hl with | [_,_,_,_],_=>rfl) (fun f cdv A outer s H vs Q E hr h=>?_)
  · obtain ⟨H0,p,a,ga,mv,beds,worths,rent,way,st,rfl,_⟩:=h
    rfl
  · obtain ⟨H0,p,a,ga,mv,beds,worths,rent,way,st,rfl,s0,fg,fm,hA,ha,bok,hlt,hfit,hopt,hok,hM,q⟩:=h
    refine ⟨_,(pss_one (ps_for PassesOwn.never rfl (pi_range1 rfl T.range (pa_cons (pe_callB (call_lenK (K:=K) rfl) (by rfl) T.len boot_len' (pa_cons (pv 1) pa_nil)) pa_nil)) (pg_name (i:=4) sc_improve.nd rfl (Or.inl rfl))
      (pss_cons (ps_set (i:=5) sc_improve.nd rfl (Or.inl rfl) (pe_ix (ix_seqK (K:=K) rfl) (pv 1) (pv 4) (fun _ _=>rfl)))
      (pss_cons (ps_set (i:=6) sc_improve.nd rfl (Or.inl rfl) (pe_ix (ix_seqK (K:=K) rfl) (pe_fldK (K:=K) rfl (pv 0) rfl) (pv 4) (fun _ _=>rfl)))
      (pss_one (ps_for PassesOwn.never rfl (pi_range1 rfl T.range (pa_cons (pe_mdef0 Mrooms HC.cl (pv 0) (hr.mono (by decide))) pa_nil)) (pg_name (i:=7) sc_improve.nd rfl (Or.inl rfl))
      (pss_cons (ps_set (i:=8) sc_improve.nd rfl (Or.inl rfl) (pe_op op_sub (pe_op op_add (pe_ix (ix_seqK (K:=K) rfl) (pv 2) (pv 5) (fun _ _=>rfl)) (pe_ix (ix_seqK (K:=K) rfl) (pv 6) (pv 7) (fun _ _=>rfl))) (pe_ix (ix_seqK (K:=K) rfl) (pv 6) (pv 5) (fun _ _=>rfl))))
      (pss_one (ps_if (pt_cmpR op_gt (pv 8) (pe_ix (ix_seqK (K:=K) rfl) (pv 2) (pv 7) (fun _ _=>rfl)) (nomark _)) (pss_cons (ps_asg (pv 8) (pg_sub (pv 2) (pv 7) set_list))
      (pss_one (ps_asg (pe_op op_cat' (pe_ix (ix_seqK (K:=K) rfl) (pv 3) (pv 5) (fun _ _=>rfl)) (pe_lst' (pa_cons (pe_tup' (pa_cons (pv 4) (pa_cons (pv 7) pa_nil))) pa_nil))) (pg_sub (pv 3) (pv 7) set_list)))) pss_nil))))))))),?_⟩
    obtain ⟨dx,b,w,h1,h2,h3⟩:=hA.ex
    obtain ⟨ws,hw,hR⟩:=id h3
    have l1:=bok.w1
    have l2:=bok.b1
    have s0':∀ {H'},But2 ga mv H H'→Same H0 H':=fun k c o e=>k c o (s0 _ _ e) (ne_of_none e fg) (ne_of_none e fm)
    have hway:=fit_lt hfit
    refine ⟨_,rfl,a,_,rfl,.inl (SqL.of (s0 _ _ ha)),?_⟩
    rw [wI_len]
    refine ⟨_,rfl,by omega,by omega,?_⟩
    rw [Int.toNat_natCast]
    refine for_range (fun i σ H'=>(∃ o4 o5 o6 o7 o8,σ=[some (.ref p),some (.ref a),some (.ref ga),some (.ref mv),o4,o5,o6,o7,o8])∧But2 ga mv H H'∧MovesAt H' ga mv ((List.range i).foldl (person (wF worths) way beds.length) st).1 ((List.range i).foldl (person (wF worths) way beds.length) st).2∧Ok (wF worths) way beds.length ((List.range i).foldl (person (wF worths) way beds.length) st))
      ⟨⟨_,_,_,_,_,rfl⟩,fun c o e _ _=>e,hM,hok⟩ ?_ ?_
    · rintro i σ H1 hi ⟨⟨o4,o5,o6,o7,o8,rfl⟩,k1,hM1,ok1⟩
      have S1:=s0' k1
      have hl:way[i]? = some (way.getD i 0):=by simp [List.getD,hi]
      have hlb:way.getD i 0 < beds.length:=hway _ (List.mem_of_getElem? hl)
      generalize hle:way.getD i 0=l at *
      have hi':i < worths.length:=by omega
      have hrow:worths[i]? = some worths[i]:=by simp [hi']
      have hrl:=bok.rows _ (List.getElem_mem hi')
      obtain ⟨ra,g1,g2,g3⟩:=hR.at_ hrow
      have wfe:∀ r,wF worths i r=(worths[i]).getD r 0:=fun r=>by simp [wF,List.getD,hi']
      refine ⟨_,rfl,_,rfl,?_⟩
      refine ixL (SqL.of (S1 _ _ ha)) (atI_int i (by omega) (wI_at hl)) ?_
      refine ⟨_,rfl,p,C,dx,_,_,rfl,S1 _ _ h1,HC.cl,HC.nW,hf_worths _ _ _,_,rfl,?_⟩
      refine ixL (SqL.of (S1 _ _ hw)) (atI_int i (by omega) g2) ?_
      refine ⟨_,rfl,p,dx,_,rfl,S1 _ _ h1,hf_no _ _ _ (by decide +kernel) (by decide +kernel) (by decide +kernel),p,beds,worths,rent,rfl,hA.same S1,?_⟩
      refine ⟨_,rfl,by omega,by omega,?_⟩
      rw [Int.toNat_natCast]
      have hstep:∀ j,j≤beds.length→Ok (wF worths) way beds.length ((List.range j).foldl (relax (wF worths) i l) ((List.range i).foldl (person (wF worths) way beds.length) st)):=fun j hj=>fold_inv (I:=Ok (wF worths) way beds.length) ok1 fun b r hr ok=>relax_ok hfit hopt hl hlb (by have:=List.mem_range.mp hr; omega) ok
      have hper:(List.range (i + 1)).foldl (person (wF worths) way beds.length) st=(List.range beds.length).foldl (relax (wF worths) i l) ((List.range i).foldl (person (wF worths) way beds.length) st):=by
        rw [List.range_succ,List.foldl_append]
        show person _ _ _ _ i=_
        unfold person
        rw [hle]
      rw [hper]
      generalize (List.range i).foldl (person (wF worths) way beds.length) st=st1 at *
      refine for_range (fun j σ H'=>(∃ o7 o8,σ=[some (.ref p),some (.ref a),some (.ref ga),some (.ref mv),some (.int (0 + (i:Int))),some (.int (l:Int)),some (.ref ra),o7,o8])∧But2 ga mv H H'∧MovesAt H' ga mv ((List.range j).foldl (relax (wF worths) i l) st1).1 ((List.range j).foldl (relax (wF worths) i l) st1).2)
        ⟨⟨_,_,rfl⟩,k1,hM1⟩ ?_ ?_
      · rintro j σ H2 hj ⟨⟨o7,o8,rfl⟩,k2,hM2⟩
        have S2:=s0' k2
        have ok2:=hstep j (by omega)
        have hsucc:(List.range (j + 1)).foldl (relax (wF worths) i l) st1=relax (wF worths) i l ((List.range j).foldl (relax (wF worths) i l) st1) j:=by
          rw [List.range_succ,List.foldl_append]
          rfl
        rw [hsucc]
        clear hsucc
        generalize (List.range j).foldl (relax (wF worths) i l) st1=st2 at *
        obtain ⟨gs,ms⟩:=st2
        have lg:gs.length=beds.length:=ok2.l1
        have lm:ms.length=beds.length:=ok2.l2
        have gl:(gs.map V.int)[l]? = some (.int (gs.getD l 0)):=by simp [lg,hlb,List.getD]
        have gj:(gs.map V.int)[j]? = some (.int (gs.getD j 0)):=by simp [lg,hj,List.getD]
        have wj:(worths[i].map V.int)[j]? = some (.int ((worths[i]).getD j 0)):=by simp [hrl,hj,List.getD]
        have wl:(worths[i].map V.int)[l]? = some (.int ((worths[i]).getD l 0)):=by simp [hrl,hlb,List.getD]
        refine ⟨_,rfl,_,rfl,?_⟩
        refine ixL (SqL.of hM2.g) (atI_int l rfl gl) ?_
        refine ⟨_,rfl,_,rfl,?_⟩
        refine ixL (SqL.of (S2 _ _ g3)) (atI_int j (by omega) wj) ?_
        refine ⟨_,_,rfl,rfl,_,rfl,_,rfl,?_⟩
        refine ixL (SqL.of (S2 _ _ g3)) (atI_int l rfl wl) ?_
        refine ⟨_,_,rfl,rfl,?_⟩
        refine ⟨_,rfl,_,rfl,_,rfl,?_⟩
        refine ixL (SqL.of hM2.g) (atI_int j (by omega) gj) ?_
        refine ⟨_,_,rfl,rfl,?_⟩
        have hgain:gs.getD l 0 + worths[i].getD j 0 - worths[i].getD l 0=gs.getD l 0 + wF worths i j - wF worths i l:=by rw [wfe,wfe]
        dsimp only
        rw [hgain]
        refine ⟨_,rfl,ite2 (fun hgt=>?_) (fun hgt=>?_)⟩
        · have hgt':gs.getD j 0 < gs.getD l 0 + wF worths i j - wF worths i l:=of_decide_eq_true hgt
          have hrel:relax (wF worths) i l (gs,ms) j=(gs.set j (gs.getD l 0 + wF worths i j - wF worths i l),ms.set j (ms.getD l [] ++ [(i,j)])):=if_pos hgt'
          rw [hrel]
          generalize gs.getD l 0 + wF worths i j - wF worths i l=gn at *
          refine ⟨_,rfl,_,rfl,_,rfl,ga,_,_,j,rfl,rfl,hM2.g,?_,?_⟩
          · unfold ixN
            rw [if_pos (by omega),if_pos (by simp; omega)]
            simp
          rw [← List.map_set]
          have hM3:=hM2.gset (gs':=gs.set j gn)
          have k3:But2 ga mv H (upd H2 ga (.lst ((gs.set j gn).map V.int))):=fun c o e h1 h2=>by rw [upd_ne h1]; exact k2 c o e h1 h2
          generalize upd H2 ga (.lst ((gs.set j gn).map V.int))=H3 at *
          obtain ⟨ls,e1,e2,e3,e4⟩:=hM3.ex
          have e2':ls.length=ms.length:=e2
          have hll0:(ls.map V.ref)[l]? = some (.ref (ls[l]'(by omega))):=by simp [show l < ls.length by omega]
          have hll:ls[l]? = some (ls[l]'(by omega)):=by simp [show l < ls.length by omega]
          have hml:ms[l]? = some (ms.getD l []):=by simp [List.getD,show l < ms.length by omega]
          obtain ⟨ts,c1,c2,c3⟩:=e4 l _ _ hll hml
          obtain ⟨r0,cc,gg,f1,f2,_⟩:=ok2.at_ l hlb
          have hclen:ts.length≤10:=by
            have:=nodup_le _ _ f2.nodup f2.lt
            have f1':ms.getD l []=(way.length,r0) :: cc:=f1
            rw [c2,f1']
            simp at this ⊢
            omega
          refine ⟨_,rfl,_,rfl,?_⟩
          refine ixL (SqL.of e1) (atI_int l rfl hll0) ?_
          refine ⟨_,rfl,_,rfl,len_small (by simp),fun t4 H4 n4=>⟨len_small (by simp),fun t5 H5 n5=>?_⟩⟩
          have S5:Same H3 H5:=n4.same.trans n5.same
          refine ⟨ls[l]'(by omega),t5,_,_,rfl,rfl,S5 _ _ c1,n5.at_,by rw [sizeLine_eq]; simp; omega,fun t6 H6 n6=>?_⟩
          have S6:Same H3 H6:=S5.trans n6.same
          refine ⟨_,rfl,_,rfl,mv,_,_,j,rfl,rfl,S6 _ _ e1,?_,?_⟩
          · unfold ixN
            rw [if_pos (by omega),if_pos (by simp; omega)]
            simp
          have hM6:=hM3.same S6
          refine ⟨⟨_,_,rfl⟩,fun c o e z1 z2=>?_,hM6.mset (S6 _ _ e1) (by omega) (fun z=>?_) (fun z=>?_) (ChainAt.snoc (m:=(i,j)) n6.at_ c2 (fun j' t' m' a1 a2=>S6 _ _ (c3 j' t' m' a1 a2)) ?_)⟩
          · rw [upd_ne z2]
            exact S6 _ _ (k3 c o e z1 z2)
          · have:=n6.none
            rw [z,S5 _ _ hM3.g] at this
            cases this
          · have:=n6.none
            rw [z,S5 _ _ e1] at this
            cases this
          · have:=n6.same _ _ (n5.same _ _ n4.at_)
            simpa using this
        · have hrel:relax (wF worths) i l (gs,ms) j=(gs,ms):=if_neg (fun z=>hgt (decide_eq_true z))
          rw [hrel]
          exact ⟨⟨_,_,rfl⟩,k2,hM2⟩
      · rintro σ H2 ⟨⟨o7,o8,rfl⟩,k2,hM2⟩
        exact ⟨⟨_,_,_,_,_,rfl⟩,k2,hM2,hstep _ (Nat.le_refl _)⟩
    · rintro σ H1 ⟨⟨o4,o5,o6,o7,o8,rfl⟩,k1,hM1,ok1⟩
      exact q H1 k1 hM1
theorem D_bring {C cL PT:Addr} (T:Txt mg) (HC:HCls K mg C) (S:SrcL K mg "bring_in" "bring_in" s_bring_in cL PT) (BA:base.BuiltinsAt mg PT) (Dopen_rooms:Def P w K mg base 3 "open_rooms" ["house","way"] (sp_open K C)) (Dimprove:Def P w K mg base 2 "improve" ["house","way","gains","moves"] (sp_improve K C)) (Mrooms:MDef P w K mg base 1 C "rooms" ["self"] (sp_rooms C)):Def P w K mg base 4 "bring_in" ["house","way"] (sp_bring2 K C PT lamPos "bring_in.<locals>.<lambda>"):=by
  refine S.mkL sc_bring_in (fun vs H Q E h=>?_) (fun _ _ _ _ _ _ us hl=>match us,hl with | [_,_],_=>rfl) (fun f A outer s H vs Q E hr h=>?_)
  · obtain ⟨p,a,beds,worths,rent,way,rfl,_⟩:=h
    rfl
  · obtain ⟨p,a,beds,worths,rent,way,rfl,hA,ha,bok,hlt,hsum,hb0,hfit,hopt,hL,q⟩:=h
    refine ⟨_,(pss_cons (ps_set (i:=2) sc_bring_in.nd rfl (Or.inr rfl) (pe_callB (call_lenK (K:=K) rfl) (by rfl) T.len boot_len' (pa_cons (pv 1) pa_nil)))
      (pss_cons (ps_set (i:=8) sc_bring_in.nd rfl (Or.inr rfl) (pe_callTy (call_list_ofK (K:=K) rfl) (by rfl) T.list boot_list' (pa_cons (pe_ix (ix_seqK (K:=K) rfl) (pe_fldK (K:=K) rfl (pv 0) rfl) (pv 2) (fun _ _=>rfl)) pa_nil)))
      (pss_cons (ps_setC (i:=3) sc_bring_in.nd rfl (Or.inl rfl) ["room","newcomer"] [none,some 2] rfl rfl rfl (pi_range1 rfl T.range (pa_cons (pe_mdef0 Mrooms HC.cl (pv 0) (hr.mono (by decide))) pa_nil)) (fun _ _ _ _=>(pg_name (i:=0) (by decide +kernel:(["room","newcomer"]:List PySem.Str).Nodup) rfl (Or.inl rfl))) (fun _ _ _ _=>pifs_nil) (fun _ _ _ _=>(pe_lst' (pa_cons (pe_tup' (pa_cons (pv 1) (pa_cons (pv 0) pa_nil))) pa_nil))))
      (pss_cons (ps_for PassesOwn.never rfl (pi_range1 rfl T.range (pa_cons (pe_mdef0 Mrooms HC.cl (pv 0) (hr.mono (by decide))) pa_nil)) (pg_name (i:=4) sc_bring_in.nd rfl (Or.inl rfl))
      (pss_one (ps_expr (pe_def Dimprove (hr.mono (by decide)) rfl (pa_cons (pv 0) (pa_cons (pv 1) (pa_cons (pv 8) (pa_cons (pv 3) pa_nil))))))))
      (pss_cons (ps_set (i:=5) sc_bring_in.nd rfl (Or.inl rfl) (pe_maxLam2 (x:="room") (Nc:=["gains"]) (ix:=[some 8]) S.hd BA rfl rfl T.max hr.dep (pa_cons (pe_def Dopen_rooms (hr.mono (by decide)) rfl (pa_cons (pv 0) (pa_cons (pv 1) pa_nil))) pa_nil) (fun _ _ _ _ _=>(pe_ix (ix_seqK (K:=K) rfl) (pv 1) (pv 0) (fun _ _=>rfl))) rfl rfl rfl rfl rfl rfl (fun _ _ _ _ _=>rfl) rfl rfl))
      (pss_cons (ps_set (i:=6) sc_bring_in.nd rfl (Or.inl rfl) (pe_op op_cat' (pv 1) (pe_lst' (pa_cons (pv 5) pa_nil))))
      (pss_cons (ps_for PassesOwn.never rfl (pi_listK (K:=K) rfl (pe_ix (ix_seqK (K:=K) rfl) (pv 3) (pv 5) (fun _ _=>rfl))) (pg_name (i:=7) sc_bring_in.nd rfl (Or.inl rfl))
      (pss_one (ps_asg (pe_ix (ix_seqK (K:=K) rfl) (pv 7) pe_int (fun _ _=>rfl)) (pg_sub (pv 6) (pe_ix (ix_seqK (K:=K) rfl) (pv 7) pe_int (fun _ _=>rfl)) set_list))))
      (pss_one (ps_ret (pv 6)))))))))),?_⟩
    obtain ⟨dx,b,w,h1,h2,h3⟩:=hA.ex
    obtain ⟨ws,hw,hR⟩:=id h3
    have l1:=bok.w1
    have l2:=bok.b1
    have hway:=fit_lt hfit
    have hrow:worths[way.length]? = some worths[way.length]:=by simp [hlt]
    have hrl:=bok.rows _ (List.getElem_mem hlt)
    obtain ⟨ra,g1,g2,g3⟩:=hR.at_ hrow
    refine ⟨_,rfl,a,_,rfl,.inl (SqL.of ha),?_⟩
    rw [wI_len]
    refine ⟨_,rfl,p,C,dx,_,_,rfl,h1,HC.cl,HC.nW,hf_worths _ _ _,_,rfl,?_⟩
    refine ixL (SqL.of hw) (atI_int way.length rfl g2) ?_
    refine ⟨ra,_,rfl,.inl (SqL.of g3),fun ga H1 n1=>?_⟩
    refine ⟨_,rfl,p,dx,_,rfl,n1.same _ _ h1,hf_no _ _ _ (by decide +kernel) (by decide +kernel) (by decide +kernel),p,beds,worths,rent,rfl,hA.same n1.same,?_⟩
    refine ⟨_,rfl,by omega,by omega,fun mv hmv=>?_⟩
    rw [Int.toNat_natCast]
    have ngm:ga≠mv:=ne_of_none n1.at_ hmv
    refine comp_range (fun i y H => ∃ l t,y=.ref l∧l≠mv∧l≠ga∧t≠mv∧H l=some (.lst [.ref t])∧H t=some (.tup [.int (way.length:Int),.int (i:Int)])) (by rw [sizeLine_eq]; omega) hmv (fun i y H H' k ⟨l,t,e,ne1,ne2,ne3,h1,h2⟩=>⟨l,t,e,ne1,ne2,ne3,k l _ ne1 h1,k t _ ne3 h2⟩) ?_ ?_
    · rintro i H2 ys N hi s2 d2 hN
      refine ⟨_,rfl,_,rfl,len_small (by simp),fun t3 H3 n3=>⟨len_small (by simp),fun l3 H4 n4=>?_⟩⟩
      refine hN _ _ (n3.same.trans n4.same) ⟨l3,t3,rfl,?_,?_,?_,n4.at_,?_⟩
      · exact (ne_of_none (n3.same _ _ d2) n4.none).symm
      · exact (ne_of_none (n3.same _ _ (s2 _ _ n1.at_)) n4.none).symm
      · exact (ne_of_none d2 n3.none).symm
      · have:=n4.same _ _ n3.at_
        simpa using this
    rintro ys H2 s2 d2 ly r2
    obtain ⟨ls,els,pls⟩:=refs_ex (P:=fun i l => ∃ t,l≠mv∧l≠ga∧H2 l=some (.lst [.ref t])∧H2 t=some (.tup [.int (way.length:Int),.int (i:Int)])) (fun i y e=>by
      obtain ⟨l,t,e1,e2,e3,_,e4,e5⟩:=r2 i y e
      exact ⟨l,e1,t,e2,e3,e4,e5⟩)
    subst els
    have lls:ls.length=beds.length:=by simpa using ly
    have S2:Same H H2:=n1.same.trans s2
    have hrowe:(worths[way.length])=(List.range beds.length).map fun r=>wF worths way.length r:=by
      refine List.ext_getElem (by simp [hrl]) fun i z1 z2=>?_
      simp [wF,List.getD,hlt,z1]
    have hM2:MovesAt H2 ga mv (first (wF worths) way beds.length).1 (first (wF worths) way beds.length).2:=by
      refine ⟨ngm,?_,ls,d2,by simp [first,lls],fun x hx=>?_,fun i x c z1 z2=>?_⟩
      · rw [s2 _ _ n1.at_,hrowe]
        rfl
      · obtain ⟨i,hi,rfl⟩:=List.mem_iff_getElem.mp hx
        obtain ⟨t,e1,e2,_⟩:=pls i _ (List.getElem?_eq_getElem hi)
        exact ⟨e2,e1⟩
      · obtain ⟨t,e1,e2,e3,e4⟩:=pls i x z1
        have hi:i < beds.length:=by rw [← lls]; exact (List.getElem?_eq_some_iff.mp z1).1
        have ec:c=[(way.length,i)]:=by
          simp [first,hi] at z2
          exact z2.symm
        subst ec
        refine ⟨[t],e3,rfl,fun j t' m' y1 y2=>?_⟩
        have hj:j=0:=by have:=(List.getElem?_eq_some_iff.mp y1).1; simp at this; omega
        subst hj
        simp at y1 y2
        subst y1 y2
        exact e4
    have hok0:Ok (wF worths) way beds.length (first (wF worths) way beds.length):=first_ok
    refine ⟨_,rfl,p,dx,_,rfl,S2 _ _ h1,hf_no _ _ _ (by decide +kernel) (by decide +kernel) (by decide +kernel),p,beds,worths,rent,rfl,hA.same S2,?_⟩
    refine ⟨_,rfl,by omega,by omega,?_⟩
    rw [Int.toNat_natCast]
    refine for_range (fun i σ H'=>(∃ o4 o5 o6 o7,σ=[some (.ref p),some (.ref a),some (.int (way.length:Int)),some (.ref mv),o4,o5,o6,o7,some (.ref ga)])∧Same H H'∧MovesAt H' ga mv (turns (wF worths) way beds.length (first (wF worths) way beds.length) i).1 (turns (wF worths) way beds.length (first (wF worths) way beds.length) i).2)
      ⟨⟨_,_,_,_,rfl⟩,S2,hM2⟩ ?_ ?_
    · rintro i σ H3 hi ⟨⟨o4,o5,o6,o7,rfl⟩,S3,hM3⟩
      refine ⟨_,rfl,_,rfl,_,rfl,_,rfl,H,p,a,ga,mv,beds,worths,rent,way,_,rfl,S3,n1.none,n1.same.free hmv,hA,ha,bok,hlt,hfit,hopt,turns_ok hfit hopt hway i,hM3,fun H4 k4 hM4=>?_⟩
      refine ⟨⟨_,_,_,_,rfl⟩,fun c o e=>k4 c o (S3 _ _ e) (ne_of_none e n1.none) (ne_of_none e (n1.same.free hmv)),?_⟩
      rw [turns_succ]
      exact hM4
    rintro σ H3 ⟨⟨o4,o5,o6,o7,rfl⟩,S3,hM3⟩
    have hok3:Ok (wF worths) way beds.length (turns (wF worths) way beds.length (first (wF worths) way beds.length) beds.length):=turns_ok hfit hopt hway _
    have hbr:=fun e he hbest=>brought (W:=wF worths) (way:=way) (R:=beds.length) (bF_out beds) hfit hopt (e:=e) he hbest
    generalize turns (wF worths) way beds.length (first (wF worths) way beds.length) beds.length=st at *
    obtain ⟨gs,ms⟩:=st
    have lg:gs.length=beds.length:=hok3.l1
    have lm:ms.length=beds.length:=hok3.l2
    refine ⟨_,rfl,_,rfl,p,a,beds,worths,rent,wI way,rfl,hA.same S3,by omega,SqL.of (S3 _ _ ha),fun ol H4 n4=>?_⟩
    have S4:Same H H4:=S3.trans n4.same
    obtain ⟨r1,hr1,hr2⟩:=open_ex hsum hb0
    have hM4:=hM3.same n4.same
    refine ⟨ol,openL beds (wI way),fun z=>gs.getD z.toNat 0,rfl,SqL.of n4.at_,List.length_pos_of_mem (mem_open.mpr ⟨r1,rfl,hr1,hr2⟩),hL.same S4,fun z hz H5 s5=>?_,fun z hz hmax H5 s5 o5 hL5=>?_⟩
    · obtain ⟨r,rfl,hr,_⟩:=mem_open.mp hz
      have gr:(gs.map V.int)[r]? = some (.int (gs.getD r 0)):=by simp [lg,hr,List.getD]
      refine ⟨_,rfl,_,rfl,?_⟩
      refine ixL (SqL.of (s5.to _ _ hM4.g rfl)) (atI_int r rfl gr) ?_
      exact ⟨rfl,rfl⟩
    obtain ⟨e,rfl,he,hec⟩:=mem_open.mp hz
    have hbest:∀ r,way.count r < bF beds r→gs.getD r 0≤gs.getD e 0:=fun r hr=>by
      have hrl':r < beds.length:=by
        refine Classical.byContradiction fun z=>?_
        have:=bF_out beds r (by omega)
        omega
      have:=hmax _ (mem_open.mpr ⟨r,rfl,hrl',hr⟩)
      simpa using this
    obtain ⟨b1,b2,b3⟩:=hbr e hec hbest _ rfl
    have S5:SameB H H5:=S4.b.trans s5
    refine ⟨_,rfl,_,rfl,len_small (by simp),fun t6 H6 n6=>?_⟩
    refine ⟨a,t6,_,_,rfl,rfl,n6.same _ _ (S5.to _ _ ha rfl),n6.at_,by rw [sizeLine_eq,wI_len]; simp; omega,fun br H7 n7=>?_⟩
    have s7:SameB H4 H7:=s5.trans (n6.same.trans n7.same).b
    have S7:SameB H H7:=S4.b.trans s7
    have hbr7:H7 br=some (.lst ((wI (way ++ [e])).map V.int)):=by
      rw [n7.at_]
      simp [wI]
    obtain ⟨ls3,e1,e2,e3,e4⟩:=hM4.ex
    have e2':ls3.length=ms.length:=e2
    have hlle:(ls3.map V.ref)[e]? = some (.ref (ls3[e]'(by omega))):=by simp [show e < ls3.length by omega]
    have hme:ms[e]? = some (ms.getD e []):=by simp [List.getD,show e < ms.length by omega]
    obtain ⟨ts,c1,c2,c3⟩:=e4 e (ls3[e]'(by omega)) _ (by simp [show e < ls3.length by omega]) hme
    have fbr:H br=none:=S5.th _ (n6.same.free n7.none)
    have c1':H7 (ls3[e]'(by omega))=some (.lst (ts.map V.ref)):=s7.to _ _ c1 rfl
    have ncb:ls3[e]'(by omega)≠br:=ne_of_none (n6.same _ _ (s5.to _ _ c1 rfl)) n7.none
    obtain ⟨r0,cc,gg,f1,f2,_⟩:=hok3.at_ e he
    have f1':ms.getD e []=(way.length,r0) :: cc:=f1
    have hpers:∀ m∈ms.getD e [],m.1 < (way ++ [e]).length:=fun m hm=>by
      rw [f1'] at hm
      simp
      rcases List.mem_cons.mp hm with z | z
      · rw [z]; omega
      · have:=(f2.persons m z).1; omega
    have alen:∀ (v:List Nat) (c:List (Nat × Nat)),(app v c).length=v.length:=fun v c=>by
      induction c generalizing v with
      | nil=>rfl
      | cons m c ih=>show (app (v.set m.1 m.2) c).length=_; rw [ih]; simp
    clear f1 f2
    generalize ms.getD e []=ch at *
    refine ⟨_,rfl,_,rfl,?_⟩
    refine ixL (SqL.of (s7.to _ _ e1 rfl)) (atI_int e rfl hlle) ?_
    generalize ls3[e]'(by omega)=ca at *
    refine ⟨ca,rfl,⟨_,SqL.of c1'⟩,?_⟩
    refine for_list (xs:=ts.map V.ref) (fun i σ H'=>(∃ o4 o7,σ=[some (.ref p),some (.ref a),some (.int (way.length:Int)),some (.ref mv),o4,some (.int (e:Int)),some (.ref br),o7,some (.ref ga)])∧(∀ b o,H7 b=some o→b≠br→H' b=some o)∧H' br=some (.lst ((wI (app (way ++ [e]) (ch.take i))).map V.int))∧∀ b,H' b=none→H7 b=none)
      ⟨⟨_,_,rfl⟩,fun _ _ e _=>e,hbr7,fun _ z=>z⟩ (fun i σ H' _ h=>SqL.of (h.2.1 _ _ c1' ncb)) ?_ ?_
    · rintro i x σ H8 hx ⟨⟨o4',o7',rfl⟩,k8,hb8,z8⟩
      obtain ⟨t,ht,rfl⟩:=ref_at hx
      have hi:i < ch.length:=by rw [← c2]; exact (List.getElem?_eq_some_iff.mp ht).1
      have hm:ch[i]? = some ch[i]:=by simp [hi]
      have ht7:=s7.to _ _ (c3 i t _ ht hm) rfl
      have ht8:=k8 _ _ ht7 (ne_of ht7 hbr7 (by intro z; cases z))
      have hp:=hpers _ (List.getElem_mem hi)
      refine ⟨_,rfl,?_⟩
      refine ixT (SqT.of ht8) rfl ?_
      refine ⟨_,rfl,_,rfl,?_⟩
      refine ixT (SqT.of ht8) rfl ?_
      refine ⟨br,_,_,ch[i].1,rfl,rfl,hb8,?_,?_⟩
      · unfold ixN
        rw [if_pos (by omega),if_pos (by rw [wI_len,alen]; omega)]
        simp
      refine ⟨⟨_,_,rfl⟩,fun c o e' hne=>by rw [upd_ne hne]; exact k8 c o e' hne,?_,fun c e'=>z8 c (by
        by_cases hc:c=br
        · subst hc; rw [upd_same] at e'; cases e'
        · rw [upd_ne hc] at e'; exact e')⟩
      have et:ch.take (i + 1)=ch.take i ++ [ch[i]]:=by rw [List.take_succ,hm]; rfl
      rw [upd_same,et,app_snoc]
      simp [wI,List.map_set]
    · rintro σ H8 ⟨⟨o4',o7',rfl⟩,k8,hb8,z8⟩
      have hend:(ts.map V.ref).length=ch.length:=by rw [List.length_map,c2]
      rw [hend,List.take_length] at hb8
      refine ⟨_,rfl,?_⟩
      refine q br _ H8 ⟨fun c o e' z=>k8 _ _ (S7.to _ _ e' z) (ne_of_none e' fbr),fun c e'=>S7.th _ (z8 _ e')⟩ (fun c o e' hc=>k8 _ _ (n7.same _ _ (n6.same _ _ (o5 _ _ (S4 _ _ e') hc))) (ne_of_none e' fbr)) fbr hb8 ?_ b1 b2 fun v hv=>b3 v (hv.trans b1)
      have hL7:=(hL5.same n6.same).same n7.same
      rcases hL7 with z | ⟨c',oc,vs,t,z1,z2,z3⟩
      · exact .inl (k8 _ _ z (ne_of z hbr7 (by intro w; cases w)))
      · exact .inr ⟨c',oc,vs,t,k8 _ _ z1 (ne_of z1 hbr7 (by intro w; cases w)),k8 _ _ z2 (ne_of z2 hbr7 (by intro w; cases w)),z3⟩
theorem D_best {C PT:Addr} (T:Txt mg) (HC:HCls K mg C) (S:Src K mg "best_way" "best_way" s_best_way) (Dbring_in:Def P w K mg base 4 "bring_in" ["house","way"] (sp_bring2 K C PT lamPos "bring_in.<locals>.<lambda>")) (Mpeople:MDef P w K mg base 1 C "people" ["self"] (sp_people C)):Def P w K mg base 5 "best_way" ["house"] (sp_best2 K C PT lamPos "bring_in.<locals>.<lambda>"):=by
  refine S.mk' sc_best_way (fun vs H Q E h=>?_) (fun _ _ _ _ _ _ us hl=>match us,hl with | [_],_=>rfl) (fun f cdv A outer s H vs Q E hr h=>?_)
  · obtain ⟨p,beds,worths,rent,rfl,_⟩:=h
    rfl
  · obtain ⟨p,beds,worths,rent,rfl,hA,bok,hsum,hb0,hL,q⟩:=h
    refine ⟨_,(pss_cons (ps_set (i:=1) sc_best_way.nd rfl (Or.inl rfl) (pe_lst' pa_nil))
      (pss_cons (ps_while PassesOwn.never (pt_cmpR op_lt (pe_callB (call_lenK (K:=K) rfl) (by rfl) T.len boot_len' (pa_cons (pv 1) pa_nil)) (pe_mdef0 Mpeople HC.cl (pv 0) (hr.mono (by decide))) (nomark _)) (pss_one (ps_set (i:=1) sc_best_way.nd rfl (Or.inl rfl) (pe_def Dbring_in (hr.mono (by decide)) rfl (pa_cons (pv 0) (pa_cons (pv 1) pa_nil))))))
      (pss_one (ps_ret (pv 1))))),?_⟩
    have l1:=bok.w1
    walk_at "go"
    refine fun l0 H1 n1=>?_
    refine ⟨fun m σ H' => ∃ (l:Addr) (way:List Nat),σ=[some (.ref p),some (.ref l)]∧SameB H H'∧SameO PT H H'∧H l=none∧H' l=some (.lst ((wI way).map V.int))∧LamAt H' PT lamPos "bring_in.<locals>.<lambda>"∧m + way.length=worths.length∧Fit (bF beds) way∧Opt beds worths way,⟨worths.length,l0,[],rfl,n1.same.b,n1.same.o,n1.none,n1.at_,hL.same n1.same,rfl,fun r=>by simp,fun v hv _=>by
      have:v=[]:=List.length_eq_zero_iff.mp hv
      rw [this]
      exact Int.le_refl _⟩,?_⟩
    rintro m σ H2 ⟨l,way,rfl,s2,o2,hl0,hl,hL2,hm,hfit,hopt⟩
    have hA2:=hA.sameB s2
    obtain ⟨dx,b,w,h1,h2,h3⟩:=hA2.ex
    refine ⟨_,rfl,l,_,rfl,.inl (SqL.of hl),?_⟩
    rw [wI_len]
    refine ⟨_,rfl,p,dx,_,rfl,h1,hf_no _ _ _ (by decide +kernel) (by decide +kernel) (by decide +kernel),p,beds,worths,rent,rfl,hA2,?_⟩
    refine ⟨_,_,rfl,rfl,_,rfl,ite2 (fun hlt=>?_) (fun hge=>?_)⟩
    · have hlt':way.length < worths.length:=by
        have:(way.length:Int) < worths.length:=of_decide_eq_true hlt
        omega
      refine ⟨fun σ' H' => ∃ (l:Addr) (way':List Nat),σ'=[some (.ref p),some (.ref l)]∧SameB H H'∧SameO PT H H'∧H l=none∧H' l=some (.lst ((wI way').map V.int))∧LamAt H' PT lamPos "bring_in.<locals>.<lambda>"∧way'.length=way.length + 1∧Fit (bF beds) way'∧Opt beds worths way',fun σ' H' ⟨l',way',e1,e2,e2',e3,e4,e5,e6,e7,e8⟩=>⟨m - 1,by omega,l',way',e1,e2,e2',e3,e4,e5,by omega,e7,e8⟩,?_⟩
      refine ⟨_,rfl,_,rfl,p,l,beds,worths,rent,way,rfl,hA2,hl,bok,hlt',by omega,hb0,hfit,hopt,hL2,fun l' way' H3 s3 o3 f3 h3' hL3 e1 e2 e3=>?_⟩
      exact ⟨l',way',rfl,s2.trans s3,o2.trans o3,s2.th _ f3,h3',hL3,e1,e2,e3⟩
    · walk_at "go"
      have hge':way.length=worths.length:=by
        have:¬ (way.length:Int) < worths.length:=fun z=>hge (decide_eq_true z)
        omega
      exact q l way H2 s2 o2 hl0 hl hL2 hge' hfit hopt
theorem D_ainit {CH C:Addr} (T:Txt mg) (AC:ACls K C) (S:MSrc K C "__init__" "Aim.__init__" s_Aim___init__):MDef P w K mg base 1 C "__init__" ["self","house","way"] (sp_ainit CH C):=by
  refine S.mk' sc_Aim___init__ (fun vs H Q E h=>?_) (fun _ _ _ _ _ _ us hl=>match us,hl with | [_,_,_],_=>rfl) (fun f cdv A outer s H vs Q E hr h=>?_)
  · obtain ⟨p,dx,hp,wa,beds,worths,rent,way,rfl,_⟩:=h
    rfl
  · obtain ⟨p,dx,hp,wa,beds,worths,rent,way,rfl,hP,hA,hw,q⟩:=h
    refine ⟨_,(pss_cons (ps_fldK (K:=K) rfl (pv 0) (pv 1) rfl)
      (pss_one (ps_fldK (K:=K) rfl (pv 0) (pe_callTy (call_list_ofK (K:=K) rfl) (by rfl) T.list boot_list' (pa_cons (pv 2) pa_nil)) rfl))),?_⟩
    refine ⟨_,rfl,_,rfl,p,C,dx,[],rfl,hP,AC.cl,AC.nH,by decide,?_⟩
    have k1:∀ c o,H c=some o→c≠p→upd H p (.ins C dx (putF "house" (.ref hp) [])) c=some o:=fun c o e hc=>by rw [upd_ne hc]; exact e
    have hw1:=k1 _ _ hw (ne_of hw hP (by intro z; cases z))
    have hp1:upd H p (.ins C dx (putF "house" (.ref hp) [])) p=some (.ins C dx (putF "house" (.ref hp) [])):=upd_same
    have fr:∀ l,upd H p (.ins C dx (putF "house" (.ref hp) [])) l=none→H l=none:=fun l e=>by
      by_cases hl:l=p
      · rw [hl,hp1] at e; cases e
      · rw [upd_ne hl] at e; exact e
    generalize upd H p (.ins C dx (putF "house" (.ref hp) []))=H1 at *
    refine ⟨_,rfl,wa,_,rfl,.inl (SqL.of hw1),fun l H2 n2=>?_⟩
    refine ⟨_,rfl,p,C,dx,_,rfl,n2.same _ _ hp1,AC.cl,AC.nW,by have:=putF_lt (f:="house") (v:=V.ref hp) (fs:=[]) (n:=0) (by simp); omega,?_⟩
    have nlp:l≠p:=(ne_of_none hp1 n2.none).symm
    have k2:∀ c o,H2 c=some o→c≠p→upd H2 p (.ins C dx (putF "way" (.ref l) (putF "house" (.ref hp) []))) c=some o:=fun c o e hc=>by rw [upd_ne hc]; exact e
    exact q l _ (fr l n2.none) upd_same (k2 _ _ n2.at_ nlp) fun c o e hc=>k2 _ _ (n2.same _ _ (k1 c o e hc)) hc
theorem D_withopen {CH:Addr} (T:Txt mg) (HC:HCls K mg CH) (S:Src K mg "with_open" "with_open" s_with_open) (Dopen_rooms:Def P w K mg base 3 "open_rooms" ["house","way"] (sp_open K CH)):Def P w K mg base 4 "with_open" ["aim","room"] (sp_withopen K CH):=by
  refine S.mk' sc_with_open (fun vs H Q E h=>?_) (fun _ _ _ _ _ _ us hl=>match us,hl with | [_,_],_=>rfl) (fun f cdv A outer s H vs Q E hr h=>?_)
  · obtain ⟨C,p,beds,worths,rent,way,r,rfl,_⟩:=h
    rfl
  · obtain ⟨C,p,beds,worths,rent,way,r,rfl,AC,hA,ok,q⟩:=h
    refine ⟨_,(pss_one (ps_ret (pe_sortedSet (K:=K) rfl rfl (by rfl) T.sorted (by rfl) T.set (pe_op op_cat' (pe_def Dopen_rooms (hr.mono (by decide)) rfl (pa_cons (pe_fldK (K:=K) rfl (pv 0) rfl) (pa_cons (pe_fldK (K:=K) rfl (pv 0) rfl) pa_nil))) (pe_lst' (pa_cons (pv 1) pa_nil)))))),?_⟩
    obtain ⟨dx,hp,wa,g1,g2,g3⟩:=hA.ex
    have l1:=ok.bok.b1
    have l2:=ok.bok.w1
    refine ⟨_,rfl,p,C,dx,_,_,rfl,g1,AC.cl,AC.nH,af_house _ _,_,rfl,p,C,dx,_,_,rfl,g1,AC.cl,AC.nW,af_way _ _,?_⟩
    refine ⟨hp,wa,beds,worths,rent,wI way,rfl,g2,by omega,SqL.of g3,fun l1 H1 n1=>?_⟩
    refine ⟨_,rfl,len_small (by simp),fun l2 H2 n2=>?_⟩
    have hol:(openL beds (wI way)).length≤beds.length:=by
      unfold openL
      rw [List.length_map]
      exact Nat.le_trans (List.length_filter_le _ _) (by simp)
    refine ⟨l1,l2,_,_,rfl,rfl,n2.same _ _ n1.at_,n2.at_,by rw [sizeLine_eq,List.length_map]; simp; omega,fun l3 H3 n3=>?_⟩
    have h3:H3 l3=some (.lst ((openL beds (wI way) ++ [(r:Int)]).map V.int)):=by
      rw [n3.at_]
      simp
    refine ⟨l3,_,rfl,SqL.of h3,by simp; omega,fun l4 ms H4 n4 hr hm=>?_⟩
    refine q l4 ms H4 (((n1.same.trans n2.same).trans n3.same).trans n4.same) (((n1.same.trans n2.same).trans n3.same).free n4.none) n4.at_ ⟨hr,hm⟩
theorem D_ownworth {CH:Addr} (T:Txt mg) (HC:HCls K mg CH) (S:Src K mg "own_worth" "own_worth" s_own_worth):Def P w K mg base 1 "own_worth" ["aim","person"] (sp_ownworth K CH):=by
  refine S.mk' sc_own_worth (fun vs H Q E h=>?_) (fun _ _ _ _ _ _ us hl=>match us,hl with | [_,_],_=>rfl) (fun f cdv A outer s H vs Q E hr h=>?_)
  · obtain ⟨C,p,beds,worths,rent,way,i,rfl,_⟩:=h
    rfl
  · obtain ⟨C,p,beds,worths,rent,way,i,rfl,AC,hA,ok,hi,q⟩:=h
    refine ⟨_,(pss_one (ps_ret (pe_ix (ix_seqK (K:=K) rfl) (pe_ix (ix_seqK (K:=K) rfl) (pe_fldK (K:=K) rfl (pe_fldK (K:=K) rfl (pv 0) rfl) rfl) (pv 1) (fun _ _=>rfl)) (pe_ix (ix_seqK (K:=K) rfl) (pe_fldK (K:=K) rfl (pv 0) rfl) (pv 1) (fun _ _=>rfl)) (fun _ _=>rfl)))),?_⟩
    obtain ⟨dx,hp,wa,g1,g2,g3⟩:=hA.ex
    obtain ⟨dh,b,w,h1,h2,h3⟩:=g2.ex
    obtain ⟨ws,hw,hR⟩:=id h3
    have hrow:worths[i]? = some worths[i]:=by simp [hi]
    have hrl:=ok.bok.rows _ (List.getElem_mem hi)
    obtain ⟨ra,e1,e2,e3⟩:=hR.at_ hrow
    obtain ⟨w1,w2⟩:=ok.at_ hi
    have gen:∀ r,r < worths[i].length→(worths[i].map V.int)[r]? = some (.int (wF worths i r)):=fun r hr=>by simp [wF,List.getD,hi,hr]
    have g5:(worths[i].map V.int)[way.getD i 0]? = some (.int (ownF worths way i)):=gen _ (by omega)
    refine ⟨_,rfl,p,C,dx,_,_,rfl,g1,AC.cl,AC.nH,af_house _ _,hp,CH,dh,_,_,rfl,h1,HC.cl,HC.nW,hf_worths _ _ _,_,rfl,?_⟩
    refine ixL (SqL.of hw) (atI_int i rfl e2) ?_
    refine ⟨_,rfl,p,C,dx,_,_,rfl,g1,AC.cl,AC.nW,af_way _ _,_,rfl,?_⟩
    refine ixL (SqL.of g3) (atI_int i rfl (wI_at w1)) ?_
    refine ixL (SqL.of e3) (atI_int (way.getD i 0) rfl g5) ?_
    exact q
theorem D_Wthrough {CH C:Addr} (T:Txt mg) (AC:ACls K C) (S:MSrc K C "through" "Worst.through" s_Worst_through) (Dwith_open:Def P w K mg base 4 "with_open" ["aim","room"] (sp_withopen K CH)):MDef P w K mg base 5 C "through" ["self","a","b"] (sp_through true CH C):=by
  refine S.mk' sc_Worst_through (fun vs H Q E h=>?_) (fun _ _ _ _ _ _ us hl=>match us,hl with | [_,_,_],_=>rfl) (fun f cdv A outer s H vs Q E hr h=>?_)
  · obtain ⟨p,beds,worths,rent,way,a,b,rfl,_⟩:=h
    rfl
  · obtain ⟨p,beds,worths,rent,way,a,b,rfl,hA,ok,ha,hb,q⟩:=h
    refine ⟨_,(pss_one (ps_ret (pe_def Dwith_open (hr.mono (by decide)) rfl (pa_cons (pv 0) (pa_cons (pe_ix (ix_seqK (K:=K) rfl) (pe_fldK (K:=K) rfl (pv 0) rfl) (pv 1) (fun _ _=>rfl)) pa_nil))))),?_⟩
    obtain ⟨dx,hp,wa,g1,g2,g3⟩:=hA.ex
    obtain ⟨w1,w2⟩:=ok.at_ ha
    refine ⟨_,rfl,_,rfl,p,C,dx,_,_,rfl,g1,AC.cl,AC.nW,af_way _ _,_,rfl,?_⟩
    refine ixL (SqL.of g3) (atI_int a rfl (wI_at w1)) ?_
    exact ⟨C,p,beds,worths,rent,way,way.getD a 0,rfl,AC,hA,ok,q⟩
theorem D_Wgain {CH C:Addr} (T:Txt mg) (HC:HCls K mg CH) (AC:ACls K C) (S:MSrc K C "gain" "Worst.gain" s_Worst_gain) (Down_worth:Def P w K mg base 1 "own_worth" ["aim","person"] (sp_ownworth K CH)):MDef P w K mg base 2 C "gain" ["self","a","r","b"] (sp_gain true CH C):=by
  refine S.mk' sc_Worst_gain (fun vs H Q E h=>?_) (fun _ _ _ _ _ _ us hl=>match us,hl with | [_,_,_,_],_=>rfl) (fun f cdv A outer s H vs Q E hr h=>?_)
  · obtain ⟨p,beds,worths,rent,way,a,r,b,rfl,_⟩:=h
    rfl
  · obtain ⟨p,beds,worths,rent,way,a,r,b,rfl,hA,ok,ha,hr0,hb,q⟩:=h
    refine ⟨_,(pss_one (ps_ret (pe_op op_sub (pe_ix (ix_seqK (K:=K) rfl) (pe_ix (ix_seqK (K:=K) rfl) (pe_fldK (K:=K) rfl (pe_fldK (K:=K) rfl (pv 0) rfl) rfl) (pv 3) (fun _ _=>rfl)) (pv 2) (fun _ _=>rfl)) (pe_def Down_worth (hr.mono (by decide)) rfl (pa_cons (pv 0) (pa_cons (pv 1) pa_nil)))))),?_⟩
    obtain ⟨dx,hp,wa,g1,g2,g3⟩:=hA.ex
    obtain ⟨dh,bd,w,h1,h2,h3⟩:=g2.ex
    obtain ⟨ws,hw,hR⟩:=id h3
    have hrow:worths[b]? = some worths[b]:=by simp [hb]
    have hrl:=ok.bok.rows _ (List.getElem_mem hb)
    obtain ⟨ra,e1,e2,e3⟩:=hR.at_ hrow
    have g5:(worths[b].map V.int)[r]? = some (.int (wF worths b r)):=by simp [wF,List.getD,hb,show r < worths[b].length by omega]
    refine ⟨_,rfl,p,C,dx,_,_,rfl,g1,AC.cl,AC.nH,af_house _ _,hp,CH,dh,_,_,rfl,h1,HC.cl,HC.nW,hf_worths _ _ _,_,rfl,?_⟩
    refine ixL (SqL.of hw) (atI_int b rfl e2) ?_
    refine ⟨_,rfl,?_⟩
    refine ixL (SqL.of e3) (atI_int r rfl g5) ?_
    refine ⟨_,rfl,_,rfl,C,p,beds,worths,rent,way,a,rfl,AC,hA,ok,ha,?_⟩
    exact ⟨_,_,rfl,rfl,q⟩
theorem D_Ethrough {CH C:Addr} (T:Txt mg) (AC:ACls K C) (S:MSrc K C "through" "Even.through" s_Even_through) (Dwith_open:Def P w K mg base 4 "with_open" ["aim","room"] (sp_withopen K CH)):MDef P w K mg base 5 C "through" ["self","a","b"] (sp_through false CH C):=by
  refine S.mk' sc_Even_through (fun vs H Q E h=>?_) (fun _ _ _ _ _ _ us hl=>match us,hl with | [_,_,_],_=>rfl) (fun f cdv A outer s H vs Q E hr h=>?_)
  · obtain ⟨p,beds,worths,rent,way,a,b,rfl,_⟩:=h
    rfl
  · obtain ⟨p,beds,worths,rent,way,a,b,rfl,hA,ok,ha,hb,q⟩:=h
    refine ⟨_,(pss_one (ps_ret (pe_def Dwith_open (hr.mono (by decide)) rfl (pa_cons (pv 0) (pa_cons (pe_ix (ix_seqK (K:=K) rfl) (pe_fldK (K:=K) rfl (pv 0) rfl) (pv 2) (fun _ _=>rfl)) pa_nil))))),?_⟩
    obtain ⟨dx,hp,wa,g1,g2,g3⟩:=hA.ex
    obtain ⟨w1,w2⟩:=ok.at_ hb
    refine ⟨_,rfl,_,rfl,p,C,dx,_,_,rfl,g1,AC.cl,AC.nW,af_way _ _,_,rfl,?_⟩
    refine ixL (SqL.of g3) (atI_int b rfl (wI_at w1)) ?_
    exact ⟨C,p,beds,worths,rent,way,way.getD b 0,rfl,AC,hA,ok,q⟩
theorem D_Egain {CH C:Addr} (T:Txt mg) (HC:HCls K mg CH) (AC:ACls K C) (S:MSrc K C "gain" "Even.gain" s_Even_gain) (Down_worth:Def P w K mg base 1 "own_worth" ["aim","person"] (sp_ownworth K CH)):MDef P w K mg base 2 C "gain" ["self","a","r","b"] (sp_gain false CH C):=by
  refine S.mk' sc_Even_gain (fun vs H Q E h=>?_) (fun _ _ _ _ _ _ us hl=>match us,hl with | [_,_,_,_],_=>rfl) (fun f cdv A outer s H vs Q E hr h=>?_)
  · obtain ⟨p,beds,worths,rent,way,a,r,b,rfl,_⟩:=h
    rfl
  · obtain ⟨p,beds,worths,rent,way,a,r,b,rfl,hA,ok,ha,hr0,hb,q⟩:=h
    refine ⟨_,(pss_one (ps_ret (pe_op op_sub (pe_ix (ix_seqK (K:=K) rfl) (pe_ix (ix_seqK (K:=K) rfl) (pe_fldK (K:=K) rfl (pe_fldK (K:=K) rfl (pv 0) rfl) rfl) (pv 1) (fun _ _=>rfl)) (pv 2) (fun _ _=>rfl)) (pe_def Down_worth (hr.mono (by decide)) rfl (pa_cons (pv 0) (pa_cons (pv 1) pa_nil)))))),?_⟩
    obtain ⟨dx,hp,wa,g1,g2,g3⟩:=hA.ex
    obtain ⟨dh,bd,w,h1,h2,h3⟩:=g2.ex
    obtain ⟨ws,hw,hR⟩:=id h3
    have hrow:worths[a]? = some worths[a]:=by simp [ha]
    have hrl:=ok.bok.rows _ (List.getElem_mem ha)
    obtain ⟨ra,e1,e2,e3⟩:=hR.at_ hrow
    have g5:(worths[a].map V.int)[r]? = some (.int (wF worths a r)):=by simp [wF,List.getD,ha,show r < worths[a].length by omega]
    refine ⟨_,rfl,p,C,dx,_,_,rfl,g1,AC.cl,AC.nH,af_house _ _,hp,CH,dh,_,_,rfl,h1,HC.cl,HC.nW,hf_worths _ _ _,_,rfl,?_⟩
    refine ixL (SqL.of hw) (atI_int a rfl e2) ?_
    refine ⟨_,rfl,?_⟩
    refine ixL (SqL.of e3) (atI_int r rfl g5) ?_
    refine ⟨_,rfl,_,rfl,C,p,beds,worths,rent,way,a,rfl,AC,hA,ok,ha,?_⟩
    exact ⟨_,_,rfl,rfl,q⟩
theorem D_bestroom {CH CWorst CEven PT cL:Addr} (T:Txt mg) (HC:HCls K mg CH) (HWorst:AimCls K mg CWorst "Worst") (HEven:AimCls K mg CEven "Even") (S:SrcL K mg "best_room" "best_room" s_best_room cL PT) (BA:base.BuiltinsAt mg PT) (MWorst_gain:MDef P w K mg base 2 CWorst "gain" ["self","a","r","b"] (sp_gain true CH CWorst)) (MEven_gain:MDef P w K mg base 2 CEven "gain" ["self","a","r","b"] (sp_gain false CH CEven)):Def P w K mg base 6 "best_room" ["aim","rooms","a","b"] (sp_bestroom CH CWorst CEven PT lamPos2 "best_room.<locals>.<lambda>" K):=by
  refine S.mkL sc_best_room (fun vs H Q E h=>?_) (fun _ _ _ _ _ _ us hl=>match us,hl with | [_,_,_,_],_=>rfl) (fun f A outer s H vs Q E hr h=>?_)
  · obtain ⟨wo,p,rl,beds,worths,rent,way,a,b,ms,rfl,_⟩:=h
    rfl
  · obtain ⟨wo,p,rl,beds,worths,rent,way,a,b,ms,rfl,hA,ok,ha,hb,hrl,hri,hL,q⟩:=h
    refine ⟨_,(pss_one (ps_ret (pe_maxLam2 (x:="room") (Nc:=["a","aim","b"]) (ix:=[some 2,some 0,some 3]) S.hd BA rfl rfl T.max hr.dep (pa_cons (pv 1) pa_nil) (fun _ _ _ _ _=>(pe_either (pe_mdef MWorst_gain HWorst.cl (pv 2) ((Room.in1 (hr.mono (by decide))).deeper _) (pa_cons (pv 1) (pa_cons (pv 0) (pa_cons (pv 3) pa_nil)))) (pe_mdef MEven_gain HEven.cl (pv 2) ((Room.in1 (hr.mono (by decide))).deeper _) (pa_cons (pv 1) (pa_cons (pv 0) (pa_cons (pv 3) pa_nil)))))) rfl rfl rfl rfl rfl rfl (fun _ _ _ _ _=>rfl) rfl rfl))),?_⟩
    have hmem:((way.getD (if wo then a else b) 0:Nat):Int)∈ms:=(hri.2 _).mpr (by simp [thruL])
    refine ⟨_,rfl,rl,ms,fun z=>gainF wo worths way a z.toNat b,rfl,SqL.of hrl,List.length_pos_of_mem hmem,hL,fun z hz H5 s5=>?_,fun z hz hmax H5 s5 o5 hL5=>?_⟩
    · obtain ⟨r,rfl,hr⟩:=thru_lt ok ha hb hri z hz
      exact gain_go (hA.sameB s5) ok ha hr hb (fun _ k=>⟨_,rfl,k⟩) (fun _ k=>⟨_,rfl,_,rfl,_,rfl,k⟩) ⟨rfl,rfl⟩
    · obtain ⟨r,rfl,hr⟩:=thru_lt ok ha hb hri z hz
      refine q r H5 s5 o5 hL5 ((hri.2 _).mp hz) hr fun r' hr'=>?_
      have:=hmax _ ((hri.2 _).mpr hr')
      simpa using this
theorem D_besthops {CH CWorst CEven PT:Addr} (T:Txt mg) (HC:HCls K mg CH) (HWorst:AimCls K mg CWorst "Worst") (HEven:AimCls K mg CEven "Even") (S:Src K mg "best_hops" "best_hops" s_best_hops) (MWorst_through:MDef P w K mg base 5 CWorst "through" ["self","a","b"] (sp_through true CH CWorst)) (MEven_through:MDef P w K mg base 5 CEven "through" ["self","a","b"] (sp_through false CH CEven)) (Mpeople:MDef P w K mg base 1 CH "people" ["self"] (sp_people CH)) (Dbest_room:Def P w K mg base 6 "best_room" ["aim","rooms","a","b"] (sp_bestroom CH CWorst CEven PT lamPos2 "best_room.<locals>.<lambda>" K)):Def P w K mg base 7 "best_hops" ["aim"] (sp_besthops CH CWorst CEven PT lamPos2 "best_room.<locals>.<lambda>"):=by
  refine S.mk' sc_best_hops (fun vs H Q E h=>?_) (fun _ _ _ _ _ _ us hl=>match us,hl with | [_],_=>rfl) (fun f cdv A outer s H vs Q E hr h=>?_)
  · obtain ⟨wo,p,beds,worths,rent,way,rfl,_⟩:=h
    rfl
  · obtain ⟨wo,p,beds,worths,rent,way,rfl,hA,ok,hL,q⟩:=h
    refine ⟨_,(pss_cons (ps_set (i:=1) sc_best_hops.nd rfl (Or.inl rfl) (pe_mdef0 Mpeople HC.cl (pe_fldK (K:=K) rfl (pv 0) rfl) (hr.mono (by decide))))
      (pss_cons (ps_set (i:=2) sc_best_hops.nd rfl (Or.inl rfl) (pe_lst' pa_nil))
      (pss_cons (ps_for PassesOwn.never rfl (pi_range1 rfl T.range (pa_cons (pv 1) pa_nil)) (pg_name (i:=3) sc_best_hops.nd rfl (Or.inl rfl))
      (pss_one (ps_for PassesOwn.never rfl (pi_range1 rfl T.range (pa_cons (pv 1) pa_nil)) (pg_name (i:=4) sc_best_hops.nd rfl (Or.inl rfl))
      (pss_cons (ps_set (i:=5) sc_best_hops.nd rfl (Or.inl rfl) (pe_join (pe_ifExp (pt_cmpR op_eq (pv 3) (pv 4) (nomark _)) (pe_lst' pa_nil) (pe_either (pe_mdef MWorst_through HWorst.cl (pv 0) (hr.mono (by decide)) (pa_cons (pv 3) (pa_cons (pv 4) pa_nil))) (pe_mdef MEven_through HEven.cl (pv 0) (hr.mono (by decide)) (pa_cons (pv 3) (pa_cons (pv 4) pa_nil)))))))
      (pss_one (ps_if (pt_cmpR op_gt (pe_callB (call_lenK (K:=K) rfl) (by rfl) T.len boot_len' (pa_cons (pv 5) pa_nil)) pe_int (nomark _)) (pss_one (ps_expr (pe_bmK (K:=K) rfl PySem.F.plainAttrs_list PySem.F.slot_list_append PySem.F.type_list_append mt_append (pv 2) (pa_cons (pe_tup' (pa_cons (pv 3) (pa_cons (pe_def Dbest_room (hr.mono (by decide)) rfl (pa_cons (pv 0) (pa_cons (pv 5) (pa_cons (pv 3) (pa_cons (pv 4) pa_nil))))) (pa_cons (pv 4) pa_nil)))) pa_nil)))) pss_nil))))))
      (pss_one (ps_ret (pv 2)))))),?_⟩
    have AC:ACls K (CC CWorst CEven wo):=by
      cases wo
      · exact HEven.a
      · exact HWorst.a
    have lw:=ok.bok.w1
    have lb:=ok.bok.b1
    obtain ⟨dx,hp,wa,g1,g2,g3⟩:=hA.ex
    obtain ⟨dh,bb,ww,h1,h2,h3⟩:=g2.ex
    refine ⟨_,rfl,p,_,dx,_,_,rfl,g1,AC.cl,AC.nH,af_house _ _,hp,dh,_,rfl,h1,hf_no _ _ _ (by decide +kernel) (by decide +kernel) (by decide +kernel),hp,beds,worths,rent,rfl,g2,?_⟩
    walk_at "go"
    refine fun hl H1 n1=>?_
    refine ⟨_,rfl,_,rfl,by omega,by omega,?_⟩
    rw [Int.toNat_natCast]
    have fhl:H hl=none:=n1.none
    refine for_range (fun i σ H' => ∃ (hops:List Hop) (o3 o4 o5:Option V),σ=[some (.ref p),some (.int (worths.length:Int)),some (.ref hl),o3,o4,o5]∧SameB H H'∧SameO PT H H'∧LamAt H' PT lamPos2 "best_room.<locals>.<lambda>"∧HopsAt H' hl hops∧HopsTo wo beds worths way hops i 0)
      ⟨[],none,none,none,rfl,n1.same.b,n1.same.o,hL.same n1.same,⟨[],n1.at_,rfl,(fun j t m z=>by simp at z)⟩,⟨(fun m z=>by cases z),(fun m z=>by cases z),(fun a b _ _ _ z=>by omega),by simp⟩⟩ ?_ ?_
    · rintro i σ H2 hi ⟨hops,o3,o4,o5,rfl,s2,so2,hL2,hh2,ht2⟩
      refine ⟨_,rfl,_,rfl,by omega,by omega,?_⟩
      rw [Int.toNat_natCast]
      refine for_range (fun j σ H' => ∃ (hops:List Hop) (o4 o5:Option V),σ=[some (.ref p),some (.int (worths.length:Int)),some (.ref hl),some (.int (0 + (i:Int))),o4,o5]∧SameB H H'∧SameO PT H H'∧LamAt H' PT lamPos2 "best_room.<locals>.<lambda>"∧HopsAt H' hl hops∧HopsTo wo beds worths way hops i j)
        ⟨hops,_,_,rfl,s2,so2,hL2,hh2,ht2⟩ ?_ ?_
      · rintro j σ H3 hj ⟨hops',o4',o5',rfl,s3,so3,hL3,hh3,ht3⟩
        have hA3:=hA.sameB s3
        refine ⟨fun v H' => ∃ rl ms,v=.ref rl∧H' rl=some (.lst (ms.map V.int))∧Same H3 H'∧((i=j∧ms=[])∨(i≠j∧IsRise ms (thruL wo beds way i j))),?_,?_⟩
        · walk_at "go"
          refine ite2 (fun e=>?_) (fun e=>?_)
          · have e':i=j:=by
              have:=of_decide_eq_true e
              injection this with this
              omega
            refine ⟨len_small (by simp),fun l4 H4 n4=>?_⟩
            exact ⟨l4,[],rfl,n4.at_,n4.same,.inl ⟨e',rfl⟩⟩
          · have e':i≠j:=fun z=>e (decide_eq_true (by rw [z]))
            refine thru_go (a:=i) (b:=j) hA3 ok (by omega) (by omega) (fun _ k=>⟨_,rfl,k⟩) (fun K2 k=>⟨_,rfl,_,rfl,by show K2 [V.int (0 + (i:Int)),V.int (0 + (j:Int))] _; rw [Int.zero_add,Int.zero_add]; exact k⟩) fun l4 ms H4 s4 f4 h4 hr4=>?_
            exact ⟨l4,ms,rfl,h4,s4,.inr ⟨e',hr4⟩⟩
        rintro v H4 ⟨rl,ms,rfl,h4,s4,hcase⟩
        have S4:SameB H H4:=s3.trans s4.b
        have SO4:SameO PT H H4:=so3.trans s4.o
        have hL4:=hL3.same s4
        have hh4:=hh3.same s4
        refine ⟨_,rfl,rl,_,rfl,.inl (SqL.of h4),?_⟩
        rw [List.length_map]
        refine ⟨_,_,rfl,rfl,_,rfl,?_⟩
        rcases hcase with ⟨eij,rfl⟩ | ⟨nij,hri⟩
        · refine iteE rfl ?_
          exact ⟨hops',_,_,rfl,S4,SO4,hL4,hh4,ht3.skip eij⟩
        · have hmem:((way.getD (if wo then i else j) 0:Nat):Int)∈ms:=(hri.2 _).mpr (by simp [thruL])
          have hpos:0 < ms.length:=List.length_pos_of_mem hmem
          rw [if_pos (decide_eq_true (by omega))]
          obtain ⟨ts,t1,t2,t3⟩:=id hh4
          refine ⟨_,rfl,.inl ⟨rfl,_,SqL.of t1⟩,?_⟩
          refine ⟨_,rfl,_,rfl,_,rfl,_,rfl,_,rfl,wo,p,rl,beds,worths,rent,way,i,j,ms,by simp,hA.sameB S4,ok,by omega,by omega,h4,hri,hL4,fun r H5 s5 so5 hL5 hr1 hr2 hr3=>?_⟩
          refine ⟨_,rfl,len_small (by simp),fun tp H6 n6=>?_⟩
          have t16:H6 hl=some (.lst (ts.map V.ref)):=n6.same _ _ (s5.to _ _ t1 rfl)
          refine ⟨hl,_,_,rfl,rfl,t16,by rw [sizeLine_eq,List.length_map,t2]; have:=ht3.len; have:=Nat.mul_le_mul (show i≤10 by omega) lw; omega,?_⟩
          have hh7:HopsAt (upd H6 hl (.lst (ts.map V.ref ++ [.ref tp]))) hl (hops' ++ [(i,r,j)]):=by
            refine HopsAt.snoc (ts:=ts) (t:=tp) upd_same t2 (fun k t' m' x1 x2=>?_) ?_
            · have e1:=n6.same _ _ (s5.to _ _ (t3 k t' m' x1 x2) rfl)
              rw [upd_ne (ne_of e1 t16 (by intro z; cases z))]
              exact e1
            · have e1:=n6.at_
              rw [upd_ne (ne_of e1 t16 (by intro z; cases z)),e1]
              simp [hopV]
          refine ⟨hops' ++ [(i,r,j)],_,_,rfl,⟨fun c o e z=>?_,fun c e=>?_⟩,fun c o e hc=>?_,?_,hh7,ht3.more (by omega) nij hr1 hr2 hr3⟩
          · rw [upd_ne (ne_of_none e fhl)]
            exact n6.same _ _ (s5.to _ _ (S4.to _ _ e z) z)
          · by_cases hc:c=hl
            · rw [hc,upd_same] at e; cases e
            · rw [upd_ne hc] at e
              exact S4.th _ (s5.th _ (n6.same.free e))
          · rw [upd_ne (ne_of_none e fhl)]
            exact n6.same _ _ (so5 _ _ (SO4 _ _ e hc) hc)
          · exact (hL5.same n6.same).updL t16
      · rintro σ H3 ⟨hops',o4',o5',rfl,s3,so3,hL3,hh3,ht3⟩
        exact ⟨hops',_,_,_,rfl,s3,so3,hL3,hh3,ht3.next⟩
    · rintro σ H2 ⟨hops,o3,o4,o5,rfl,s2,so2,hL2,hh2,ht2⟩
      walk_at "go"
      exact q hl hops H2 s2 so2 hL2 fhl hh2 (ht2.good lw)
theorem D_hoponF (T:Txt mg) (S:Src K mg "hop_on" "hop_on" s_hop_on):Def P w K mg base 1 "hop_on" ["hops","gains","totals","chains"] sp_hoponF:=by
  refine S.mk' sc_hop_on (fun vs H Q E h=>?_) (fun _ _ _ _ _ _ us hl=>match us,hl with | [_,_,_,_],_=>rfl) (fun f cdv A outer s H vs Q E hr h=>?_)
  · obtain ⟨hl,gl,tl,cl,hops,gn,n,N,st,F,rfl,_⟩:=h
    rfl
  · obtain ⟨hl,gl,tl,cl,hops,gn,n,N,st,F,rfl,hh,hg,htc,hF,hF0,n1,n2,n3,n4,hlt,l1,l2,hlen,hN,hN2,q⟩:=h
    refine ⟨_,(pss_one (ps_for PassesOwn.never rfl (pi_range1 rfl T.range (pa_cons (pe_callB (call_lenK (K:=K) rfl) (by rfl) T.len boot_len' (pa_cons (pv 0) pa_nil)) pa_nil)) (pg_name (i:=4) sc_hop_on.nd rfl (Or.inl rfl))
      (pss_cons (ps_set (i:=5) sc_hop_on.nd rfl (Or.inl rfl) (pe_ix (ix_seqK (K:=K) rfl) (pv 0) (pv 4) (fun _ _=>rfl)))
      (pss_cons (ps_set (i:=6) sc_hop_on.nd rfl (Or.inl rfl) (pe_ix (ix_seqK (K:=K) rfl) (pv 2) (pe_ix (ix_seqK (K:=K) rfl) (pv 5) pe_int (fun _ _=>rfl)) (fun _ _=>rfl)))
      (pss_cons (ps_set (i:=7) sc_hop_on.nd rfl (Or.inl rfl) (pe_ix (ix_seqK (K:=K) rfl) (pv 2) (pe_ix (ix_seqK (K:=K) rfl) (pv 5) pe_int (fun _ _=>rfl)) (fun _ _=>rfl)))
      (pss_one (ps_if (PW.pt (pw_and (pt_cmpR op_notN (pv 6) pe_non (nomark _)) (pw_and1 (PW.pt (pw_or (pt_cmpR op_isN (pv 7) pe_non (nomark _)) (pw_or1 (pt_cmpR op_gt (pe_op op_add (pv 6) (pe_ix (ix_seqK (K:=K) rfl) (pv 1) (pv 4) (fun _ _=>rfl))) (pv 7) (nomark _)))))))) (pss_cons (ps_asg (pe_op op_add (pv 6) (pe_ix (ix_seqK (K:=K) rfl) (pv 1) (pv 4) (fun _ _=>rfl))) (pg_sub (pv 2) (pe_ix (ix_seqK (K:=K) rfl) (pv 5) pe_int (fun _ _=>rfl)) set_list))
      (pss_one (ps_asg (pe_op op_cat' (pe_ix (ix_seqK (K:=K) rfl) (pv 3) (pe_ix (ix_seqK (K:=K) rfl) (pv 5) pe_int (fun _ _=>rfl)) (fun _ _=>rfl)) (pe_lst' (pa_cons (pv 5) pa_nil))) (pg_sub (pv 3) (pe_ix (ix_seqK (K:=K) rfl) (pv 5) pe_int (fun _ _=>rfl)) set_list)))) pss_nil))))))),?_⟩
    obtain ⟨ts,e1,e2,e3⟩:=id hh
    refine ⟨_,rfl,hl,_,rfl,.inl (SqL.of e1),?_⟩
    rw [List.length_map,e2]
    refine ⟨_,rfl,by omega,by omega,?_⟩
    rw [Int.toNat_natCast]
    refine for_range (fun i σ H'=>(∃ o4 o5 o6 o7,σ=[some (.ref hl),some (.ref gl),some (.ref tl),some (.ref cl),o4,o5,o6,o7])∧(∀ b o,H b=some o→b≠tl→b≠cl→H' b=some o)∧(∀ b,H' b=none→H b=none)∧TCat H' tl cl ((hops.take i).foldl (relC gn) st)∧(∀ c∈((hops.take i).foldl (relC gn) st).2,c.length≤N + i)∧((hops.take i).foldl (relC gn) st).1.length=n∧((hops.take i).foldl (relC gn) st).2.length=n∧TCF F H' cl)
      ⟨⟨_,_,_,_,rfl⟩,fun _ _ e _ _=>e,fun _ e=>e,htc,hN,l1,l2,hF⟩ ?_ ?_
    · rintro i σ H1 hi ⟨⟨o4,o5,o6,o7,rfl⟩,k1,f1,tc1,c1,m1,m2,F1⟩
      have hm:hops[i]? = some hops[i]:=by simp [hi]
      have etk:hops.take (i + 1)=hops.take i ++ [hops[i]]:=by rw [List.take_succ,hm]; rfl
      rw [etk,List.foldl_append]
      obtain ⟨b1,b2⟩:=hlt _ (List.getElem_mem hi)
      have ht:ts[i]? = some (ts[i]'(by omega)):=by simp [show i < ts.length by omega]
      have htt:=e3 i _ _ ht hm
      generalize hops[i]=m at *
      generalize ts[i]'(by omega)=t at *
      generalize (hops.take i).foldl (relC gn) st=s0 at *
      have hh1:=k1 _ _ e1 n1 n2
      have htt1:=k1 _ _ htt (ne_of htt htc.g (by intro z; cases z)) (by
        obtain ⟨ls,e,_⟩:=htc.ex
        exact ne_of htt e (by intro z; cases z))
      have hg1:=k1 _ _ hg n3 n4
      have hix:(ts.map V.ref)[i]? = some (.ref t):=by simp [ht]
      have gt1:(s0.1.map V.int)[m.1]? = some (.int (s0.1.getD m.1 0)):=by simp [List.getD,m1,b1]
      have gt2:(s0.1.map V.int)[m.2.2]? = some (.int (s0.1.getD m.2.2 0)):=by simp [List.getD,m1,b2]
      have gg:((hops.map gn).map V.int)[i]? = some (.int (gn m)):=by simp [hm]
      walk_at "go"
      refine ixL (SqL.of hh1) (atI_int i (by omega) hix) ?_
      refine ⟨_,rfl,_,rfl,?_⟩
      refine ixT (SqT.of htt1) rfl ?_
      refine ixL (SqL.of tc1.g) (atI_int m.1 rfl gt1) ?_
      refine ⟨_,rfl,_,rfl,?_⟩
      refine ixT (SqT.of htt1) rfl ?_
      refine ixL (SqL.of tc1.g) (atI_int m.2.2 rfl gt2) ?_
      refine ⟨_,rfl,rfl,_,rfl,iteT ?_⟩
      refine ⟨_,rfl,rfl,_,rfl,iteF ?_⟩
      refine ⟨_,rfl,_,rfl,_,rfl,?_⟩
      refine ixL (SqL.of hg1) (atI_int i (by omega) gg) ?_
      refine ⟨_,_,rfl,rfl,_,rfl,_,_,rfl,rfl,_,rfl,?_⟩
      refine ite2 (fun hgt=>?_) (fun hgt=>?_)
      · have hgt':s0.1.getD m.1 0 + gn m > s0.1.getD m.2.2 0:=of_decide_eq_true hgt
        have er:[m].foldl (relC gn) s0=(s0.1.set m.2.2 (s0.1.getD m.1 0 + gn m),s0.2.set m.2.2 (s0.2.getD m.1 [] ++ [m])):=by
          show relC gn s0 m=_
          unfold relC
          rw [if_pos hgt']
        have clen:=relC_chains (gn:=gn) (m:=m) c1
        have erl:relC gn s0 m=(s0.1.set m.2.2 (s0.1.getD m.1 0 + gn m),s0.2.set m.2.2 (s0.2.getD m.1 [] ++ [m])):=er
        rw [erl] at clen
        rw [er]
        refine ⟨_,rfl,_,rfl,_,rfl,?_⟩
        refine ixL (SqL.of hg1) (atI_int i (by omega) gg) ?_
        refine ⟨_,_,rfl,rfl,_,rfl,_,rfl,?_⟩
        refine ixT (SqT.of htt1) rfl ?_
        refine ⟨tl,_,_,m.2.2,rfl,rfl,tc1.g,?_,?_⟩
        · unfold ixN
          rw [if_pos (by omega),if_pos (by rw [List.length_map,m1]; omega)]
          simp
        have tc2:TCat (upd H1 tl (.lst ((s0.1.map V.int).set m.2.2 (.int (s0.1.getD m.1 0 + gn m))))) tl cl (s0.1.set m.2.2 (s0.1.getD m.1 0 + gn m),s0.2):=by
          have:=tc1.gset (gs':=s0.1.set m.2.2 (s0.1.getD m.1 0 + gn m))
          rw [List.map_set] at this
          exact this
        have ntl:t≠tl:=ne_of htt1 tc1.g (by intro z; cases z)
        have k2:∀ b o,H1 b=some o→b≠tl→upd H1 tl (.lst ((s0.1.map V.int).set m.2.2 (.int (s0.1.getD m.1 0 + gn m)))) b=some o:=fun b o e hb=>by rw [upd_ne hb]; exact e
        have f2:∀ b,upd H1 tl (.lst ((s0.1.map V.int).set m.2.2 (.int (s0.1.getD m.1 0 + gn m)))) b=none→H1 b=none:=fun b e=>by
          by_cases hb:b=tl
          · rw [hb,upd_same] at e; cases e
          · rw [upd_ne hb] at e; exact e
        have htt2:=k2 _ _ htt1 ntl
        have F2:=F1.keep (H':=upd H1 tl (.lst ((s0.1.map V.int).set m.2.2 (.int (s0.1.getD m.1 0 + gn m))))) (fun o e=>k2 _ _ e tc1.ne.symm)
        generalize upd H1 tl (.lst ((s0.1.map V.int).set m.2.2 (.int (s0.1.getD m.1 0 + gn m))))=H2 at *
        obtain ⟨ls,a1,a2,a3,a4⟩:=id tc2.ex
        have a2':ls.length=n:=by rw [a2]; exact m2
        have hla:(ls.map V.ref)[m.1]? = some (.ref (ls[m.1]'(by omega))):=by simp [show m.1 < ls.length by omega]
        have hca:s0.2[m.1]? = some (s0.2.getD m.1 []):=by simp [List.getD,m2,b1]
        obtain ⟨us,u1,u2,u3⟩:=a4 m.1 (ls[m.1]'(by omega)) _ (by simp [show m.1 < ls.length by omega]) hca
        have hcl:(s0.2.getD m.1 []).length≤N + i:=c1 _ (List.mem_of_getElem? hca)
        refine ⟨_,rfl,_,rfl,?_⟩
        refine ixT (SqT.of htt2) rfl ?_
        refine ixL (SqL.of a1) (atI_int m.1 rfl hla) ?_
        refine ⟨_,rfl,len_small (by simp),fun l3 H3 n3=>?_⟩
        refine ⟨_,l3,_,_,rfl,rfl,n3.same _ _ u1,n3.at_,by rw [sizeLine_eq,List.length_map,u2]; show (s0.2.getD m.1 []).length + 1≤16777216; omega,fun l4 H4 n4=>?_⟩
        have S4:Same H2 H4:=n3.same.trans n4.same
        have tc4:=tc2.same S4
        refine ⟨_,rfl,_,rfl,?_⟩
        refine ixT (SqT.of (S4 _ _ htt2)) rfl ?_
        refine ⟨cl,_,_,m.2.2,rfl,rfl,S4 _ _ a1,?_,?_⟩
        · unfold ixN
          rw [if_pos (by omega),if_pos (by rw [List.length_map,a2']; omega)]
          simp
        have nl4a:l4≠tl:=(ne_of_none (n3.same _ _ tc2.g) n4.none).symm
        have nl4b:l4≠cl:=(ne_of_none (n3.same _ _ a1) n4.none).symm
        have hc4:HopsAt H4 l4 (s0.2.getD m.1 [] ++ [m]):=HopsAt.snoc (ts:=us) (t:=t) n4.at_ u2 (fun j t' m' x1 x2=>S4 _ _ (u3 j t' m' x1 x2)) (S4 _ _ htt2)
        have tc5:=tc4.mset (S4 _ _ a1) (r:=m.2.2) (by omega) nl4a nl4b hc4
        refine ⟨⟨_,_,_,_,rfl⟩,fun b o e h1' h2'=>?_,fun b e=>?_,tc5,?_,?_,?_,?_⟩
        · rw [upd_ne h2']
          exact S4 _ _ (k2 _ _ (k1 b o e h1' h2') h1')
        · have hb:b≠cl:=fun z=>by rw [z,upd_same] at e; cases e
          rw [upd_ne hb] at e
          exact f1 _ (f2 _ (S4.free e))
        · intro c hc
          have:=clen c hc
          omega
        · simp [m1]
        · simp [m2]
        · refine ⟨ls.set m.2.2 l4,by rw [upd_same,List.map_set],fun a ha=>?_⟩
          rcases List.mem_or_eq_of_mem_set ha with z | z
          · exact F2.at_ a1 a z
          · rw [z]
            exact hF0 _ (f1 _ (f2 _ (n3.same.free n4.none)))
      · have hgt':¬ s0.1.getD m.1 0 + gn m > s0.1.getD m.2.2 0:=fun z=>hgt (decide_eq_true z)
        have er:[m].foldl (relC gn) s0=s0:=by
          show relC gn s0 m=_
          unfold relC
          rw [if_neg hgt']
        rw [er]
        exact ⟨⟨_,_,_,_,rfl⟩,k1,f1,tc1,fun c hc=>by have:=c1 c hc; omega,m1,m2,F1⟩
    · rintro σ H1 ⟨⟨o4,o5,o6,o7,rfl⟩,k1,f1,tc1,c1,m1,m2,F1⟩
      rw [List.take_length] at tc1 c1
      exact q _ k1 f1 tc1 F1 c1
theorem D_carryF {CH CWorst CEven PT:Addr} (T:Txt mg) (HC:HCls K mg CH) (HWorst:AimCls K mg CWorst "Worst") (HEven:AimCls K mg CEven "Even") (S:Src K mg "carry" "carry" s_carry) (MWorst_gain:MDef P w K mg base 2 CWorst "gain" ["self","a","r","b"] (sp_gain true CH CWorst)) (MEven_gain:MDef P w K mg base 2 CEven "gain" ["self","a","r","b"] (sp_gain false CH CEven)) (Dbest_hops:Def P w K mg base 7 "best_hops" ["aim"] (sp_besthops CH CWorst CEven PT lamPos2 "best_room.<locals>.<lambda>")) (Dhop_on:Def P w K mg base 1 "hop_on" ["hops","gains","totals","chains"] sp_hoponF):Def P w K mg base 8 "carry" ["aim","starts"] (sp_carryF CH CWorst CEven PT lamPos2 "best_room.<locals>.<lambda>"):=by
  refine S.mk' sc_carry (fun vs H Q E h=>?_) (fun _ _ _ _ _ _ us hl=>match us,hl with | [_,_],_=>rfl) (fun f cdv A outer s H vs Q E hr h=>?_)
  · obtain ⟨wo,p,sl,beds,worths,rent,way,rfl,_⟩:=h
    rfl
  · obtain ⟨wo,p,sl,beds,worths,rent,way,rfl,hA,ok,hfit,hopt,hL,hsl,q⟩:=h
    refine ⟨_,(pss_cons (ps_set (i:=2) sc_carry.nd rfl (Or.inl rfl) (pe_callTy (call_list_ofK (K:=K) rfl) (by rfl) T.list boot_list' (pa_cons (pv 1) pa_nil)))
      (pss_cons (ps_setC (i:=3) sc_carry.nd rfl (Or.inl rfl) ["start"] [none] rfl rfl rfl (pi_listK (K:=K) rfl (pv 1)) (fun _ _ _ _=>(pg_name (i:=0) (by decide +kernel:(["start"]:List PySem.Str).Nodup) rfl (Or.inl rfl))) (fun _ _ _ _=>pifs_nil) (fun _ _ _ _=>(pe_lst' pa_nil)))
      (pss_cons (ps_set (i:=4) sc_carry.nd rfl (Or.inl rfl) (pe_def Dbest_hops (hr.mono (by decide)) rfl (pa_cons (pv 0) pa_nil)))
      (pss_cons (ps_setC (i:=5) sc_carry.nd rfl (Or.inl rfl) ["hop","aim"] [none,some 0] rfl rfl rfl (pi_listK (K:=K) rfl (pv 4)) (fun _ _ _ _=>(pg_name (i:=0) (by decide +kernel:(["hop","aim"]:List PySem.Str).Nodup) rfl (Or.inl rfl))) (fun _ _ _ _=>pifs_nil) (fun _ _ _ _=>(pe_either (pe_mdef MWorst_gain HWorst.cl (pv 1) (hr.mono (by decide)) (pa_cons (pe_ix (ix_seqK (K:=K) rfl) (pv 0) pe_int (fun _ _=>rfl)) (pa_cons (pe_ix (ix_seqK (K:=K) rfl) (pv 0) pe_int (fun _ _=>rfl)) (pa_cons (pe_ix (ix_seqK (K:=K) rfl) (pv 0) pe_int (fun _ _=>rfl)) pa_nil)))) (pe_mdef MEven_gain HEven.cl (pv 1) (hr.mono (by decide)) (pa_cons (pe_ix (ix_seqK (K:=K) rfl) (pv 0) pe_int (fun _ _=>rfl)) (pa_cons (pe_ix (ix_seqK (K:=K) rfl) (pv 0) pe_int (fun _ _=>rfl)) (pa_cons (pe_ix (ix_seqK (K:=K) rfl) (pv 0) pe_int (fun _ _=>rfl)) pa_nil)))))))
      (pss_cons (ps_for PassesOwn.never rfl (pi_range1 rfl T.range (pa_cons (pe_callB (call_lenK (K:=K) rfl) (by rfl) T.len boot_len' (pa_cons (pv 1) pa_nil)) pa_nil)) (pg_name (i:=6) sc_carry.nd rfl (Or.inl rfl))
      (pss_one (ps_expr (pe_def Dhop_on (hr.mono (by decide)) rfl (pa_cons (pv 4) (pa_cons (pv 5) (pa_cons (pv 2) (pa_cons (pv 3) pa_nil))))))))
      (pss_one (ps_ret (pe_tup' (pa_cons (pv 2) (pa_cons (pv 3) pa_nil)))))))))),?_⟩
    have lw:=ok.bok.w1
    have lr:((List.replicate worths.length (0:Int)).map V.int).length=worths.length:=by simp
    refine ⟨_,rfl,sl,_,rfl,.inl (SqL.of hsl),fun tl H1 n1=>?_⟩
    walk_at "go"
    refine ⟨⟨_,SqL.of (n1.same _ _ hsl)⟩,fun cl hcl=>?_⟩
    have ntc:tl≠cl:=ne_of_none n1.at_ hcl
    refine comp_list (fun i y H' => ∃ l,y=.ref l∧l≠cl∧H1 l=none∧H' l=some (.lst [])) (SqL.of (n1.same _ _ hsl)) (by rw [lr,sizeLine_eq]; omega) hcl (fun i y H H' k ⟨l,e,ne,h0,h⟩=>⟨l,e,ne,h0,k l _ ne h⟩) ?_ ?_
    · rintro i x H2 ys N hx s2 d2 hN
      refine ⟨len_small (by simp),fun l H3 n3=>?_⟩
      exact hN _ _ n3.same ⟨l,rfl,(ne_of_none d2 n3.none).symm,s2.free n3.none,n3.at_⟩
    rintro ys H2 s2 d2 ly r2
    obtain ⟨ls,els,pls⟩:=refs_ex (P:=fun i l=>l≠cl∧H1 l=none∧H2 l=some (.lst [])) (fun i y e=>by
      obtain ⟨l,e1,e2,e3,e4⟩:=r2 i y e
      exact ⟨l,e1,e2,e3,e4⟩)
    subst els
    have lls:ls.length=worths.length:=by rw [List.length_map,lr] at ly; exact ly
    have tc2:TCat H2 tl cl (zeroC worths.length):=by
      refine ⟨ntc,s2 _ _ n1.at_,ls,d2,by simp [zeroC,lls],fun x hx=>?_,fun i x c z1 z2=>?_⟩
      · obtain ⟨i,hi,rfl⟩:=List.mem_iff_getElem.mp hx
        obtain ⟨e1,e2,_⟩:=pls i _ (List.getElem?_eq_getElem hi)
        exact ⟨(ne_of_none n1.at_ e2).symm,e1⟩
      · obtain ⟨e1,e2,e3⟩:=pls i x z1
        have ec:c=[]:=by
          have hi:i < worths.length:=by rw [← lls]; exact (List.getElem?_eq_some_iff.mp z1).1
          simp [zeroC,hi] at z2
          exact z2
        subst ec
        exact ⟨[],e3,rfl,fun j t m z=>by simp at z⟩
    have S2:Same H H2:=n1.same.trans s2
    have F2:TCF (fun a=>H a=none) H2 cl:=⟨ls,d2,fun x hx=>by
      obtain ⟨i,hi,rfl⟩:=List.mem_iff_getElem.mp hx
      obtain ⟨_,e2,_⟩:=pls i _ (List.getElem?_eq_getElem hi)
      exact n1.same.free e2⟩
    have ftl:H tl=none:=n1.none
    have fcl:H cl=none:=n1.same.free hcl
    refine ⟨_,rfl,wo,p,beds,worths,rent,way,rfl,hA.same S2,ok,hL.same S2,fun hl hops H3 s3 so3 hL3 fhl hh3 good=>?_⟩
    have S3:SameB H H3:=S2.b.trans s3
    have SO3:SameO PT H H3:=S2.o.trans so3
    have tc3:=tc2.sameB s3
    have hA3:=hA.sameB S3
    obtain ⟨ts,t1,t2,t3⟩:=id hh3
    have hgl:=good.len
    walk_at "go"
    refine ⟨⟨_,SqL.of t1⟩,fun gl hgl0=>?_⟩
    refine comp_list (fun i y _ => ∃ m,hops[i]? = some m∧y=.int (gnF wo worths way m)) (SqL.of t1) (by rw [List.length_map,t2,sizeLine_eq]; omega) hgl0 (fun _ _ _ _ _ h=>h) ?_ ?_
    · rintro i x H4 ys N hx s4 d4 hN
      obtain ⟨t,ht,rfl⟩:=ref_at hx
      have hi:i < hops.length:=by rw [← t2]; exact (List.getElem?_eq_some_iff.mp ht).1
      have hm:hops[i]? = some hops[i]:=by simp [hi]
      have htt:=s4 _ _ (t3 i t _ ht hm)
      obtain ⟨m1,m2,m3,m4,m5⟩:=good.mem _ (List.getElem_mem hi)
      refine gain_go (hA3.same s4) ok m1 m4 m2 (fun _ k=>⟨_,rfl,k⟩) (fun K2 k=>?_) (hN _ _ (Same.refl _) ⟨_,hm,rfl⟩)
      refine ⟨_,rfl,ixT (SqT.of htt) rfl ?_⟩
      refine ⟨_,rfl,ixT (SqT.of htt) rfl ?_⟩
      refine ⟨_,rfl,ixT (SqT.of htt) rfl ?_⟩
      exact k
    rintro ys H4 s4 d4 ly4 r4
    have ey:ys=(hops.map (gnF wo worths way)).map V.int:=ints_of (by rw [ly4,List.length_map,List.length_map,t2]) fun i y e=>by
      obtain ⟨m,h1,h2⟩:=r4 i y e
      exact ⟨_,by rw [List.getElem?_map,h1]; rfl,h2⟩
    subst ey
    have S4:SameB H H4:=S3.trans s4.b
    have SO4:SameO PT H H4:=SO3.trans s4.o
    have tc4:=tc3.same s4
    have F4:TCF (fun a=>H a=none) H4 cl:=F2.keep fun o e=>by
      rw [d2] at e
      cases e
      exact s4 _ _ (s3.to _ _ d2 rfl)
    have hh4:=hh3.same s4
    have hL4:=hL3.same s4
    have hsl4:=S4.to _ _ hsl rfl
    have nhl1:hl≠tl:=(ne_of_none tc2.g fhl).symm
    have nhl2:hl≠cl:=(ne_of_none d2 fhl).symm
    have ngl1:gl≠tl:=(ne_of_none tc3.g hgl0).symm
    have ngl2:gl≠cl:=by
      obtain ⟨ls3,e1,_⟩:=tc3.ex
      exact (ne_of_none e1 hgl0).symm
    have hlt:∀ m∈hops,m.1 < worths.length∧m.2.2 < worths.length:=fun m hm=>⟨(good.mem m hm).1,(good.mem m hm).2.1⟩
    have hrl:∀ k,(rndsC (gnF wo worths way) hops (zeroC worths.length) k).1.length=worths.length∧(rndsC (gnF wo worths way) hops (zeroC worths.length) k).2.length=worths.length:=fun k=>⟨(rnds_ok hlt k).l1,(rnds_ok hlt k).l2⟩
    refine ⟨_,rfl,sl,_,rfl,.inl (SqL.of hsl4),?_⟩
    rw [lr]
    refine ⟨_,rfl,by omega,by omega,?_⟩
    rw [Int.toNat_natCast]
    refine for_range (fun i σ H'=>(∃ o6,σ=[some (.ref p),some (.ref sl),some (.ref tl),some (.ref cl),some (.ref hl),some (.ref gl),o6])∧(∀ b o,H4 b=some o→b≠tl→b≠cl→H' b=some o)∧(∀ b,H' b=none→H4 b=none)∧TCF (fun a=>H a=none) H' cl∧TCat H' tl cl (rndsC (gnF wo worths way) hops (zeroC worths.length) i)∧∀ c∈(rndsC (gnF wo worths way) hops (zeroC worths.length) i).2,c.length≤i * 100)
      ⟨⟨_,rfl⟩,(fun _ _ e _ _=>e),(fun _ e=>e),F4,tc4,(fun c hc=>by
        have:c=[]:=by
          have:=List.eq_of_mem_replicate (show c∈List.replicate worths.length [] from hc)
          exact this
        rw [this]; simp)⟩ ?_ ?_
    · rintro i σ H5 hi ⟨⟨o6,rfl⟩,k5,f5,F5,tc5,c5⟩
      have hh5:HopsAt H5 hl hops:=by
        obtain ⟨ts4,u1,u2,u3⟩:=hh4
        refine ⟨ts4,k5 _ _ u1 nhl1 nhl2,u2,fun j t m z1 z2=>?_⟩
        have:=u3 j t m z1 z2
        refine k5 _ _ this (ne_of this tc4.g (by intro z; cases z)) ?_
        obtain ⟨ls4,e1,_⟩:=tc4.ex
        exact ne_of this e1 (by intro z; cases z)
      refine ⟨_,rfl,_,rfl,_,rfl,_,rfl,hl,gl,tl,cl,hops,gnF wo worths way,worths.length,i * 100,_,(fun a=>H a=none),rfl,hh5,k5 _ _ d4 ngl1 ngl2,tc5,F5,(fun a e=>S4.th _ (f5 _ e)),nhl1,nhl2,ngl1,ngl2,hlt,(hrl i).1,(hrl i).2,hgl,c5,by omega,fun H6 k6 f6 tc6 F6 c6=>?_⟩
      refine ⟨⟨_,rfl⟩,fun b o e h1 h2=>k6 _ _ (k5 b o e h1 h2) h1 h2,fun b e=>f5 _ (f6 _ e),F6,?_,?_⟩
      · rw [rndsC_succ]; exact tc6
      · rw [rndsC_succ]
        intro c hc
        have:=c6 c hc
        omega
    · rintro σ H5 ⟨⟨o6,rfl⟩,k5,f5,F5,tc5,c5⟩
      refine ⟨_,rfl,_,rfl,len_small (by simp),fun t H6 n6=>?_⟩
      have kk:∀ b o,H b=some o→b≠PT→H6 b=some o:=fun b o e hb=>n6.same _ _ (k5 _ _ (SO4 _ _ e hb) (ne_of_none e ftl) (ne_of_none e fcl))
      refine q t tl cl hops _ H6 ⟨fun b o e z=>n6.same _ _ (k5 _ _ (S4.to _ _ e z) (ne_of_none e ftl) (ne_of_none e fcl)),fun b e=>S4.th _ (f5 _ (n6.same.free e))⟩ kk ?_ ftl fcl (S4.th _ (f5 _ n6.none)) (F5.keep fun o e=>n6.same _ _ e) (fun c hc=>by have:=c5 c hc; omega) (great_mk ok hfit hopt good n6.at_ (tc5.same n6.same))
      refine LamAt.same ?_ n6.same
      have k:∀ c o,H4 c=some o→(∀ zs,o≠.lst zs)→H5 c=some o:=fun c o e hne=>by
        refine k5 _ _ e (ne_of e tc4.g (hne _)) ?_
        obtain ⟨ls4,e1,_⟩:=tc4.ex
        exact ne_of e e1 (hne _)
      rcases hL4 with h | ⟨c',oc,vs,t',h1,h2,h3⟩
      · exact .inl (k _ _ h (by intro zs z; cases z))
      · exact .inr ⟨c',oc,vs,t',k _ _ h1 (by intro zs z; cases z),k _ _ h2 (by intro zs z; cases z),h3⟩
theorem D_greatestF {CH CWorst CEven PT:Addr} (T:Txt mg) (HC:HCls K mg CH) (HWorst:AimCls K mg CWorst "Worst") (HEven:AimCls K mg CEven "Even") (S:Src K mg "greatest" "greatest" s_greatest) (Mpeople:MDef P w K mg base 1 CH "people" ["self"] (sp_people CH)) (Dcarry:Def P w K mg base 8 "carry" ["aim","starts"] (sp_carryF CH CWorst CEven PT lamPos2 "best_room.<locals>.<lambda>")):Def P w K mg base 9 "greatest" ["aim"] (sp_greatF CH CWorst CEven PT lamPos2 "best_room.<locals>.<lambda>"):=by
  refine S.mk' sc_greatest (fun vs H Q E h=>?_) (fun _ _ _ _ _ _ us hl=>match us,hl with | [_],_=>rfl) (fun f cdv A outer s H vs Q E hr h=>?_)
  · obtain ⟨wo,p,beds,worths,rent,way,rfl,_⟩:=h
    rfl
  · obtain ⟨wo,p,beds,worths,rent,way,rfl,hA,ok,hfit,hopt,hL,q⟩:=h
    refine ⟨_,(pss_one (ps_ret (pe_def Dcarry (hr.mono (by decide)) rfl (pa_cons (pv 0) (pa_cons (pe_comp ["person"] [none] rfl rfl rfl (pi_range1 rfl T.range (pa_cons (pe_mdef0 Mpeople HC.cl (pe_fldK (K:=K) rfl (pv 0) rfl) (hr.mono (by decide))) pa_nil)) (fun _ _ _ _=>(pg_name (i:=0) (by decide +kernel:(["person"]:List PySem.Str).Nodup) rfl (Or.inl rfl))) (fun _ _ _ _=>pifs_nil) (fun _ _ _ _=>pe_int)) pa_nil))))),?_⟩
    have AC:ACls K (CC CWorst CEven wo):=by
      cases wo
      · exact HEven.a
      · exact HWorst.a
    have lw:=ok.bok.w1
    obtain ⟨dx,hp,wa,g1,g2,g3⟩:=hA.ex
    obtain ⟨dh,bb,ww,h1,h2,h3⟩:=g2.ex
    refine ⟨_,rfl,_,rfl,p,_,dx,_,_,rfl,g1,AC.cl,AC.nH,af_house _ _,hp,dh,_,rfl,h1,hf_no _ _ _ (by decide +kernel) (by decide +kernel) (by decide +kernel),hp,beds,worths,rent,rfl,g2,?_⟩
    refine ⟨_,rfl,by omega,by omega,fun D hD=>?_⟩
    rw [Int.toNat_natCast]
    refine compRangeV (fun _=>.int 0) (by rw [sizeLine_eq]; omega) hD (fun i hi H1 N s1 hN=>hN _ (Same.refl _)) fun H1 s1 d1=>?_
    have d1':H1 D=some (.lst ((List.replicate worths.length (0:Int)).map V.int)):=by
      rw [d1]
      congr 2
      rw [List.map_replicate]
      exact List.eq_replicate_iff.mpr ⟨by simp,fun b hb=>by
        obtain ⟨_,_,rfl⟩:=List.mem_map.mp hb
        rfl⟩
    exact ⟨wo,p,D,beds,worths,rent,way,rfl,hA.same s1,ok,hfit,hopt,hL.same s1,d1',fun t tl cl hops st H2 s2 so2 hL2 f1 f2 f3 ff cb g=>q t tl cl hops st H2 (s1.b.trans s2) (s1.o.trans so2) hL2 (s1.free f1) (s1.free f2) (s1.free f3) (ff.imp fun a e=>s1.free e) cb g⟩
theorem D_mixed (S:Src K mg "_law_mixed" "_law_mixed" s__law_mixed):Def P w K mg base 1 "_law_mixed" ["_law_cell","_law_k"] sp_mixed:=by
  refine S.mk' sc__law_mixed (fun vs H Q E h=>?_) (fun _ _ _ _ _ _ us hl=>match us,hl with | [_,_],_=>rfl) (fun f cdv A outer s H vs Q E hr h=>?_)
  · obtain ⟨c,k,rfl,_⟩:=h
    rfl
  · obtain ⟨c,k,rfl,h1,h2,q⟩:=h
    refine ⟨_,(pss_cons (ps_set (i:=2) sc__law_mixed.nd rfl (Or.inl rfl) (pe_op op_mod (pe_op op_mulW (pe_op op_add (pe_op op_mod (pv 0) pe_int) pe_int) (pe_op op_add pe_int (pe_op op_mulW (pe_op op_mulW pe_int (pv 1)) (pv 1)))) pe_int))
      (pss_one (ps_ret (pe_op op_mod (pe_op op_mulW (pv 2) (pv 2)) pe_int)))),?_⟩
    have b1:=mul_bd (a:=2 * k) (b:=k) (A:=2000000) (B:=1000000) (by omega) (by omega) (by omega) (by omega)
    walk_at "go"
    exact q _ (Int.emod_nonneg _ (by decide)) (Int.emod_lt_of_pos _ (by decide))
theorem D_cell (T:Txt mg) (S:Src K mg "_law_cell_at" "_law_cell_at" s__law_cell_at):Def P w K mg base 1 "_law_cell_at" ["_law_script","_law_k"] (sp_cell K):=by
  refine S.mk' sc__law_cell_at (fun vs H Q E h=>?_) (fun _ _ _ _ _ _ us hl=>match us,hl with | [_,_],_=>rfl) (fun f cdv A outer s H vs Q E hr h=>?_)
  · obtain ⟨a,ns,k,rfl,_⟩:=h
    rfl
  · obtain ⟨a,ns,k,rfl,hS,h0,q⟩:=h
    refine ⟨_,(pss_cons (ps_if (pt_cmpR op_lt (pv 1) (pe_callB (call_lenK (K:=K) rfl) (by rfl) T.len boot_len' (pa_cons (pv 0) pa_nil)) (nomark _)) (pss_one (ps_ret (pe_ix (ix_seqK (K:=K) rfl) (pv 0) (pv 1) (fun _ _=>rfl)))) pss_nil)
      (pss_one (ps_ret pe_int))),?_⟩
    walk_at "go"
    refine ⟨a,_,rfl,.inl hS,?_⟩
    walk_at "go"
    refine ite2 (fun e=>?_) (fun _=>q 0)
    walk_at "go"
    have hk:k < ns.length:=by
      have:=of_decide_eq_true e
      simpa using this
    exact ixInts hS h0 hk fun z _=>q z
theorem D_beds (T:Txt mg) (S:Src K mg "_law_beds" "_law_beds" s__law_beds) (D_law_mixed:Def P w K mg base 1 "_law_mixed" ["_law_cell","_law_k"] sp_mixed):Def P w K mg base 2 "_law_beds" ["_law_first","_law_many"] sp_beds:=by
  refine S.mk' sc__law_beds (fun vs H Q E h=>?_) (fun _ _ _ _ _ _ us hl=>match us,hl with | [_,_],_=>rfl) (fun f cdv A outer s H vs Q E hr h=>?_)
  · obtain ⟨f,m,rfl,_⟩:=h
    rfl
  · obtain ⟨f,m,rfl,m0,m1,q⟩:=h
    refine ⟨_,(pss_cons (ps_set (i:=2) sc__law_beds.nd rfl (Or.inl rfl) (pe_lst' pa_nil))
      (pss_cons (ps_for PassesOwn.never rfl (pi_range1 rfl T.range (pa_cons (pv 1) pa_nil)) (pg_name (i:=3) sc__law_beds.nd rfl (Or.inl rfl))
      (pss_one (ps_expr (pe_bmK (K:=K) rfl PySem.F.plainAttrs_list PySem.F.slot_list_append PySem.F.type_list_append mt_append (pv 2) (pa_cons (pe_ix (ix_seqK (K:=K) rfl) (pe_lst' (pa_cons pe_int (pa_cons pe_int (pa_cons pe_int (pa_cons pe_int (pa_cons pe_int (pa_cons pe_int (pa_cons pe_int (pa_cons pe_int pa_nil))))))))) (pe_op op_mod (pe_def D_law_mixed (hr.mono (by decide)) rfl (pa_cons (pv 0) (pa_cons (pe_op op_add pe_int (pv 3)) pa_nil))) pe_int) (fun _ _=>rfl)) pa_nil)))))
      (pss_one (ps_ret (pv 2))))),?_⟩
    walk_at "go"
    refine fun l H1 n1=>?_
    refine ⟨_,rfl,_,rfl,by omega,by omega,?_⟩
    refine for_range (fun i σ H' => ∃ (bs:List Int) (o:Option V),σ=[some (.int f),some (.int m),some (.ref l),o]∧H' l=some (.lst (bs.map V.int))∧bs.length=i∧(∀ b∈bs,1≤b∧b≤4)∧Same H H') ⟨[],none,rfl,n1.at_,rfl,(fun b hb=>by cases hb),n1.same⟩ ?_ ?_
    · rintro i σ H2 hi ⟨bs,o,rfl,hl,hlen,hb,s2⟩
      refine ⟨_,rfl,.inl ⟨rfl,_,SqL.of hl⟩,?_⟩
      walk_at "go"
      refine fun t H3 n3=>?_
      walk_at "go"
      refine ⟨f,_,rfl,by omega,by omega,fun z z0 z1=>?_⟩
      walk_at "go"
      refine ixInts (ns:=[1,1,2,1,3,1,2,4]) (SqL.of n3.at_) (by show (0:Int)≤z % 8; omega) (by show z % 8 < 8; omega) fun x hx=>?_
      have hx':1≤x∧x≤4:=by
        simp only [List.mem_cons,List.not_mem_nil,or_false] at hx
        omega
      refine ⟨l,_,_,rfl,rfl,n3.same _ _ hl,by rw [sizeLine_eq]; simp; omega,?_⟩
      refine ⟨bs ++ [x],_,rfl,by rw [upd_same]; simp,by simp [hlen],fun b hb'=>?_,fun c u e=>?_⟩
      · rcases List.mem_append.mp hb' with h | h
        · exact hb b h
        · have:b=x:=by simpa using h
          rw [this]; exact hx'
      · rw [upd_ne (ne_of_none e n1.none)]
        exact n3.same _ _ (s2 _ _ e)
    · rintro σ H2 ⟨bs,o,rfl,hl,hlen,hb,s2⟩
      walk_at "go"
      exact q l bs H2 ⟨s2,n1.none,hl⟩ (by omega) hb
theorem D_worths (T:Txt mg) (S:Src K mg "_law_worths" "_law_worths" s__law_worths) (D_law_mixed:Def P w K mg base 1 "_law_mixed" ["_law_cell","_law_k"] sp_mixed):Def P w K mg base 2 "_law_worths" ["_law_script","_law_first","_law_people","_law_rooms"] (sp_worths K):=by
  refine S.mk' sc__law_worths (fun vs H Q E h=>?_) (fun _ _ _ _ _ _ us hl=>match us,hl with | [_,_,_,_],_=>rfl) (fun f cdv A outer s H vs Q E hr h=>?_)
  · obtain ⟨a,ns,f,p,r,rfl,_⟩:=h
    rfl
  · obtain ⟨a,ns,f,p,r,rfl,hS,hlen,p0,p1,r0,r1,q⟩:=h
    refine ⟨_,(pss_cons (ps_set (i:=4) sc__law_worths.nd rfl (Or.inl rfl) (pe_lst' pa_nil))
      (pss_cons (ps_for PassesOwn.never rfl (pi_range1 rfl T.range (pa_cons (pe_op op_mulW (pv 2) (pv 3)) pa_nil)) (pg_name (i:=5) sc__law_worths.nd rfl (Or.inl rfl))
      (pss_one (ps_expr (pe_bmK (K:=K) rfl PySem.F.plainAttrs_list PySem.F.slot_list_append PySem.F.type_list_append mt_append (pv 4) (pa_cons (pe_def D_law_mixed (hr.mono (by decide)) rfl (pa_cons (pv 1) (pa_cons (pe_op op_add pe_int (pv 5)) pa_nil))) pa_nil)))))
      (pss_cons (ps_for PassesOwn.never rfl (pi_enumK (K:=K) rfl rfl T.enumerate (pa_cons (pe_slice (sl_listK (K:=K) rfl) (pv 0) (po_some pe_int) po_none) pa_nil)) (pg_tupK (K:=K) (n:=2) rfl rfl (pgs_cons (pg_name (i:=5) sc__law_worths.nd rfl (Or.inl rfl)) (pgs_cons (pg_name (i:=6) sc__law_worths.nd rfl (Or.inl rfl)) pgs_nil)))
      (pss_cons (ps_set (i:=7) sc__law_worths.nd rfl (Or.inl rfl) (pe_op op_mod (pv 5) (pe_callB (call_lenK (K:=K) rfl) (by rfl) T.len boot_len' (pa_cons (pv 4) pa_nil))))
      (pss_one (ps_asg (pe_op op_add (pe_op op_mod (pe_op op_mulW (pe_ix (ix_seqK (K:=K) rfl) (pv 4) (pv 7) (fun _ _=>rfl)) pe_int) (pe_op op_pow pe_int pe_int)) (pe_op op_mod (pv 6) (pe_op op_pow pe_int pe_int))) (pg_sub (pv 4) (pv 7) set_list)))))
      (pss_cons (ps_set (i:=8) sc__law_worths.nd rfl (Or.inl rfl) (pe_lst' pa_nil))
      (pss_cons (ps_for PassesOwn.never rfl (pi_range1 rfl T.range (pa_cons (pv 2) pa_nil)) (pg_name (i:=9) sc__law_worths.nd rfl (Or.inl rfl))
      (pss_cons (ps_set (i:=10) sc__law_worths.nd rfl (Or.inl rfl) (pe_slice (sl_listK (K:=K) rfl) (pv 4) (po_some (pe_op op_mulW (pv 9) (pv 3))) (po_some (pe_op op_add (pe_op op_mulW (pv 9) (pv 3)) (pv 3)))))
      (pss_cons (ps_join (ps_if (pt_cmpR op_eq (pe_op op_mod (pv 1) pe_int) pe_int (nomark _)) (pss_one (ps_setC (i:=10) sc__law_worths.nd rfl (Or.inl rfl) ["_law_number"] [none] rfl rfl rfl (pi_listK (K:=K) rfl (pv 10)) (fun _ _ _ _=>(pg_name (i:=0) (by decide +kernel:(["_law_number"]:List PySem.Str).Nodup) rfl (Or.inl rfl))) (fun _ _ _ _=>pifs_nil) (fun _ _ _ _=>(pe_op op_mod (pv 0) pe_int)))) (pss_one (ps_if (pt_cmpR op_eq (pe_op op_mod (pv 1) pe_int) pe_int (nomark _)) (pss_one (ps_setC (i:=10) sc__law_worths.nd rfl (Or.inl rfl) ["_law_number"] [none] rfl rfl rfl (pi_listK (K:=K) rfl (pv 10)) (fun _ _ _ _=>(pg_name (i:=0) (by decide +kernel:(["_law_number"]:List PySem.Str).Nodup) rfl (Or.inl rfl))) (fun _ _ _ _=>pifs_nil) (fun _ _ _ _=>(pe_op op_sub (pe_op op_mod (pv 0) pe_int) pe_int)))) (pss_one (ps_if (pt_cmpR op_eq (pe_op op_mod (pv 1) pe_int) pe_int (nomark _)) (pss_one (ps_setC (i:=10) sc__law_worths.nd rfl (Or.inl rfl) ["_law_number"] [none] rfl rfl rfl (pi_listK (K:=K) rfl (pv 10)) (fun _ _ _ _=>(pg_name (i:=0) (by decide +kernel:(["_law_number"]:List PySem.Str).Nodup) rfl (Or.inl rfl))) (fun _ _ _ _=>pifs_nil) (fun _ _ _ _=>(pe_op op_add (pe_op op_sub (pe_op op_mod (pv 0) (pe_op op_sub (pe_op op_mulW pe_int (pe_op op_pow pe_int pe_int)) pe_int)) (pe_op op_pow pe_int pe_int)) pe_int)))) (pss_one (ps_setC (i:=10) sc__law_worths.nd rfl (Or.inl rfl) ["_law_number"] [none] rfl rfl rfl (pi_listK (K:=K) rfl (pv 10)) (fun _ _ _ _=>(pg_name (i:=0) (by decide +kernel:(["_law_number"]:List PySem.Str).Nodup) rfl (Or.inl rfl))) (fun _ _ _ _=>pifs_nil) (fun _ _ _ _=>(pe_op op_mulW (pe_op op_mod (pv 0) pe_int) pe_int))))))))))
      (pss_one (ps_expr (pe_bmK (K:=K) rfl PySem.F.plainAttrs_list PySem.F.slot_list_append PySem.F.type_list_append mt_append (pv 8) (pa_cons (pv 10) pa_nil)))))))
      (pss_one (ps_ret (pv 8)))))))),?_⟩
    have hpr:=mul_bd (a:=p) (b:=r) (A:=10) (B:=10) (by omega) (by omega) (by omega) (by omega)
    have hpr0:0 < p * r:=Int.mul_pos (by omega) (by omega)
    walk_at "go"
    refine fun l H1 n1=>?_
    walk_at "go"
    refine for_range (fun i σ H' => ∃ (bs:List Int) (o5 o6 o7 o8 o9 o10:Option V),σ=[some (.ref a),some (.int f),some (.int p),some (.int r),some (.ref l),o5,o6,o7,o8,o9,o10]∧H' l=some (.lst (bs.map V.int))∧bs.length=i∧(∀ b∈bs,0≤b∧b < 10 ^ 42)∧Same H H') ⟨[],none,none,none,none,none,none,rfl,n1.at_,rfl,(fun b hb=>by cases hb),n1.same⟩ ?_ ?_
    · rintro i σ H2 hi ⟨bs,o5,o6,o7,o8,o9,o10,rfl,hl,hlen,hb,s2⟩
      refine ⟨_,rfl,.inl ⟨rfl,_,SqL.of hl⟩,?_⟩
      walk_at "go"
      refine ⟨f,_,rfl,by omega,by omega,fun z z0 z1=>?_⟩
      refine ⟨l,_,_,rfl,rfl,hl,by rw [sizeLine_eq]; simp; omega,?_⟩
      refine ⟨bs ++ [z],_,_,_,_,_,_,rfl,by rw [upd_same]; simp,by simp [hlen],fun b hb'=>?_,fun c u e=>?_⟩
      · rcases List.mem_append.mp hb' with h | h
        · exact hb b h
        · have:b=z:=by simpa using h
          rw [this]; omega
      · rw [upd_ne (ne_of_none e n1.none)]
        exact s2 _ _ e
    rintro σ H2 ⟨bs,o5,o6,o7,o8,o9,o10,rfl,hl,hlen',hb,s2⟩
    refine ⟨_,rfl,_,rfl,a,_,rfl,s2.seq hS,fun c1 H3 n3=>?_⟩
    obtain ⟨ms,em,lm⟩:=cut_ints ns (some 1) none
    rw [em] at n3
    have hl3:=n3.same _ _ hl
    have S3:Same H H3:=s2.trans n3.same
    have nlc:c1≠l:=(ne_of_none hl n3.none).symm
    refine ⟨c1,rfl,⟨_,SqL.of n3.at_⟩,?_⟩
    refine for_enum (xs:=ms.map V.int) (fun i σ H' => ∃ (bs':List Int) (o5 o6 o7 o8 o9 o10:Option V),σ=[some (.ref a),some (.int f),some (.int p),some (.int r),some (.ref l),o5,o6,o7,o8,o9,o10]∧H' l=some (.lst (bs'.map V.int))∧bs'.length=bs.length∧(∀ b∈bs',0≤b∧b < 10 ^ 42)∧Same H H'∧H' c1=some (.lst (ms.map V.int)))
      ⟨bs,_,_,_,_,_,_,rfl,hl3,rfl,hb,S3,n3.at_⟩ (fun i σ H' _ ⟨_,_,_,_,_,_,_,_,_,_,_,_,h⟩=>SqL.of h) ?_ ?_
    · rintro i x σ H4 T4 hx ⟨bs',o5,o6,o7,o8,o9,o10,rfl,hl4,hlen4,hb4,s4,hc4⟩ hT4
      obtain ⟨z,hz,rfl⟩:=int_at hx
      have hi:i < ms.length:=(List.getElem?_eq_some_iff.mp hz).1
      refine ⟨T4,[.int i,.int z],rfl,SqT.of upd_same,rfl,_,_,rfl,_,_,rfl,rfl,?_⟩
      have s5:Same H4 (upd H4 T4 (.tup [.int i,.int z])):=Same.upd hT4
      generalize upd H4 T4 (.tup [.int i,.int z])=H5 at *
      have hl5:=s5 _ _ hl4
      have hbl:0 < bs'.length:=by omega
      walk_at "go"
      refine ⟨l,_,rfl,.inl (SqL.of hl5),?_⟩
      refine ⟨_,_,rfl,rfl,by simp; omega,?_⟩
      have e1:(i:Int) % ((bs'.map V.int).length:Int)=((i % bs'.length:Nat):Int):=by simp
      dsimp only
      rw [e1]
      have hj:i % bs'.length < bs'.length:=Nat.mod_lt _ hbl
      generalize i % bs'.length=j at *
      have gj:(bs'.map V.int)[j]? = some (.int bs'[j]):=by simp [hj]
      obtain ⟨bj0,bj1⟩:=hb4 _ (List.getElem_mem hj)
      have gz:=Int.emod_lt_of_pos z (show (0:Int) < 10 ^ Int.toNat 41 by decide)
      have gz0:=Int.emod_nonneg z (show (10:Int) ^ Int.toNat 41≠0 by decide)
      have gy:=Int.emod_lt_of_pos (bs'[j] * 31) (show (0:Int) < 10 ^ Int.toNat 41 by decide)
      have gy0:=Int.emod_nonneg (bs'[j] * 31) (show (10:Int) ^ Int.toNat 41≠0 by decide)
      have ge:(10:Int) ^ Int.toNat 41=10 ^ 41:=rfl
      walk_at "go"
      refine ixL (SqL.of hl5) (atI_int j rfl gj) ?_
      walk_at "go"
      refine ⟨l,_,_,j,rfl,rfl,hl5,?_,?_⟩
      · unfold ixN
        rw [if_pos (by omega),if_pos (by simp; omega)]
        simp
      refine ⟨bs'.set j (bs'[j] * 31 % 10 ^ Int.toNat 41 + z % 10 ^ Int.toNat 41),_,_,_,_,_,_,rfl,by rw [upd_same,List.map_set],by simp [hlen4],fun b hb'=>?_,fun c u e=>?_,?_⟩
      · rcases List.mem_or_eq_of_mem_set hb' with h | h
        · exact hb4 b h
        · rw [h]; omega
      · rw [upd_ne (ne_of_none e n1.none)]
        exact s5 _ _ (s4 _ _ e)
      · rw [upd_ne nlc]
        exact s5 _ _ hc4
    rintro σ H4 ⟨bs',o5',o6',o7',o8',o9',o10',rfl,hl4,hlen4,hb4,s4,hc4⟩
    walk_at "go"
    refine fun W H5 n5=>?_
    walk_at "go"
    have S5:Same H H5:=s4.trans n5.same
    have hl5:=n5.same _ _ hl4
    have fW:H W=none:=s4.free n5.none
    have nlW:l≠W:=ne_of_none hl4 n5.none
    refine for_range (fun i σ H' => ∃ (ws:List Addr) (rows:List (List Int)) (o5 o6 o7 o9 o10:Option V),σ=[some (.ref a),some (.int f),some (.int p),some (.int r),some (.ref l),o5,o6,o7,some (.ref W),o9,o10]∧H' W=some (.lst (ws.map V.ref))∧rows.length=i∧Rows H' ws rows∧(∀ w∈ws,w≠W)∧(∀ row∈rows,(row.length:Int)=r)∧(∀ row∈rows,∀ x∈row,-(10 ^ 40) < x∧x < 10 ^ 40)∧Same H H'∧H' l=some (.lst (bs'.map V.int)))
      ⟨[],[],_,_,_,_,_,rfl,n5.at_,rfl,⟨rfl,fun i a row h=>by simp at h⟩,(fun w h=>by cases h),(fun w h=>by cases h),(fun w h=>by cases h),S5,hl5⟩ ?_ ?_
    · rintro i σ H6 hi ⟨ws,rows,o5,o6,o7,o9,o10,rfl,hW,hrl,hR,hne,hr1,hr2,s6,hl6⟩
      have hir:((i:Int) + 1) * r≤p * r:=Int.mul_le_mul_of_nonneg_right (by omega) (by omega)
      have hir0:0≤(i:Int) * r:=Int.mul_nonneg (by omega) (by omega)
      have hir1:((i:Int) + 1) * r=(i:Int) * r + r:=by rw [Int.add_mul,Int.one_mul]
      have hbig:(i:Int) * r≤100:=by omega
      have e0:(0 + (i:Int)) * r=((i * r.toNat:Nat):Int):=by
        rw [Int.zero_add,Int.natCast_mul]
        congr 1
        omega
      have e1:((i * r.toNat:Nat):Int) + r=((i * r.toNat + r.toNat:Nat):Int):=by
        rw [Int.natCast_add]
        congr 1
        omega
      have e2:i * r.toNat + r.toNat≤bs'.length:=by
        have:((i * r.toNat + r.toNat:Nat):Int)≤(bs'.length:Int):=by
          rw [← e1,← e0,Int.zero_add]
          omega
        exact Int.ofNat_le.mp this
      walk_at "go"
      rw [e0,e1]
      refine ⟨l,_,rfl,SqL.of hl6,fun c H7 n7=>?_⟩
      rw [cut_between bs' (Nat.le_add_right _ _) e2] at n7
      have hcl:((bs'.drop (i * r.toNat)).take (i * r.toNat + r.toNat - i * r.toNat)).length=r.toNat:=by
        rw [List.length_take,List.length_drop]
        omega
      have hcb:∀ z∈(bs'.drop (i * r.toNat)).take (i * r.toNat + r.toNat - i * r.toNat),0≤z∧z < 10 ^ 42:=fun z hz=>hb4 z (List.mem_of_mem_drop (List.mem_of_mem_take hz))
      generalize (bs'.drop (i * r.toNat)).take (i * r.toNat + r.toNat - i * r.toNat)=cs at *
      have hW7:=n7.same _ _ hW
      have S7:Same H H7:=s6.trans n7.same
      have key:∀ (g:Int→Int) (D:Addr) (H8:Hp),(∀ z,0≤z→-(10 ^ 40) < g z∧g z < 10 ^ 40)→H7 D=none→Same H7 H8→H8 D=some (.lst ((cs.map g).map V.int)) →
          ∃ (c':Addr) (row:List Int),D=c'∧H8 c'=some (.lst (row.map V.int))∧(row.length:Int)=r∧(∀ x∈row,-(10 ^ 40) < x∧x < 10 ^ 40)∧c'≠W∧Same H7 H8:=fun g D H8 hg hD s8 h8 =>
        ⟨D,cs.map g,rfl,h8,by rw [List.length_map,hcl]; omega,fun x hx=>by
          obtain ⟨z,hz,rfl⟩:=List.mem_map.mp hx
          exact hg z (hcb z hz).1,(ne_of_none hW7 hD).symm,s8⟩
      refine ⟨fun σ' H' => ∃ (c':Addr) (row:List Int),σ'=[some (.ref a),some (.int f),some (.int p),some (.int r),some (.ref l),o5,o6,o7,some (.ref W),some (.int (0 + (i:Int))),some (.ref c')]∧H' c'=some (.lst (row.map V.int))∧(row.length:Int)=r∧(∀ x∈row,-(10 ^ 40) < x∧x < 10 ^ 40)∧c'≠W∧Same H7 H',?_,?_⟩
      · walk_at "go"
        refine ite2 (fun _=>?_) (fun _=>?_)
        · refine ⟨_,rfl,c,rfl,⟨_,SqL.of n7.at_⟩,fun D hD=>?_⟩
          refine compMap cs (fun z=>z % 3) (SqL.of n7.at_) (by rw [hcl,sizeLine_eq]; omega) hD (fun z hz H8 N s8 hN=>?_) fun H8 s8 h8=>?_
          · walk_at "go"
            exact hN
          · obtain ⟨c',row,rfl,k1,k2,k3,k4,k5⟩:=key _ D H8 (fun z hz=>by omega) hD s8 h8
            exact ⟨D,row,rfl,k1,k2,k3,k4,k5⟩
        · walk_at "go"
          refine ite2 (fun _=>?_) (fun _=>?_)
          · refine ⟨_,rfl,c,rfl,⟨_,SqL.of n7.at_⟩,fun D hD=>?_⟩
            refine compMap cs (fun z=>z % 2001 - 500) (SqL.of n7.at_) (by rw [hcl,sizeLine_eq]; omega) hD (fun z hz H8 N s8 hN=>?_) fun H8 s8 h8=>?_
            · walk_at "go"
              exact hN
            · obtain ⟨c',row,rfl,k1,k2,k3,k4,k5⟩:=key _ D H8 (fun z hz=>by omega) hD s8 h8
              exact ⟨D,row,rfl,k1,k2,k3,k4,k5⟩
          · walk_at "go"
            refine ite2 (fun _=>?_) (fun _=>?_)
            · refine ⟨_,rfl,c,rfl,⟨_,SqL.of n7.at_⟩,fun D hD=>?_⟩
              refine compMap cs (fun z=>z % (2 * 10 ^ Int.toNat 40 - 1) - 10 ^ Int.toNat 40 + 1) (SqL.of n7.at_) (by rw [hcl,sizeLine_eq]; omega) hD (fun z hz H8 N s8 hN=>?_) fun H8 s8 h8=>?_
              · walk_at "go"
                exact hN
              · obtain ⟨c',row,rfl,k1,k2,k3,k4,k5⟩:=key _ D H8 (fun z hz=>by
                  have g1:=Int.emod_nonneg z (show (2 * 10 ^ Int.toNat 40 - 1:Int)≠0 by decide)
                  have g2:=Int.emod_lt_of_pos z (show (0:Int) < 2 * 10 ^ Int.toNat 40 - 1 by decide)
                  have ge:(10:Int) ^ Int.toNat 40=10 ^ 40:=rfl
                  rw [ge] at g1 g2 ⊢
                  omega) hD s8 h8
                exact ⟨D,row,rfl,k1,k2,k3,k4,k5⟩
            · refine ⟨_,rfl,c,rfl,⟨_,SqL.of n7.at_⟩,fun D hD=>?_⟩
              refine compMap cs (fun z=>z % 9 * 100) (SqL.of n7.at_) (by rw [hcl,sizeLine_eq]; omega) hD (fun z hz H8 N s8 hN=>?_) fun H8 s8 h8=>?_
              · walk_at "go"
                exact hN
              · obtain ⟨c',row,rfl,k1,k2,k3,k4,k5⟩:=key _ D H8 (fun z hz=>by omega) hD s8 h8
                exact ⟨D,row,rfl,k1,k2,k3,k4,k5⟩
      · rintro σ' H8 ⟨c',row,rfl,h8,l8,b8,n8,s8⟩
        have hW8:=s8 _ _ hW7
        have hwl:ws.length=i:=by rw [hR.1,hrl]
        refine ⟨_,rfl,.inl ⟨rfl,_,SqL.of hW8⟩,_,rfl,W,_,_,rfl,rfl,hW8,by rw [sizeLine_eq,List.length_map]; omega,?_⟩
        refine ⟨ws ++ [c'],rows ++ [row],_,_,_,_,_,rfl,by rw [upd_same]; simp,by simp [hrl],hR.snoc (fun a ha o e=>?_) ?_,fun w hw=>?_,fun w hw=>?_,fun w hw=>?_,fun b o e=>?_,?_⟩
        · rw [upd_ne (hne a ha)]
          exact s8 _ _ (n7.same _ _ e)
        · rw [upd_ne n8]
          exact h8
        · rcases List.mem_append.mp hw with h | h
          · exact hne w h
          · have:w=c':=by simpa using h
            rw [this]; exact n8
        · rcases List.mem_append.mp hw with h | h
          · exact hr1 w h
          · have:w=row:=by simpa using h
            rw [this]; exact l8
        · rcases List.mem_append.mp hw with h | h
          · exact hr2 w h
          · have:w=row:=by simpa using h
            rw [this]; exact b8
        · rw [upd_ne (ne_of_none e fW)]
          exact s8 _ _ (S7 _ _ e)
        · rw [upd_ne nlW]
          exact s8 _ _ (n7.same _ _ hl6)
    · rintro σ H6 ⟨ws,rows,o5,o6,o7,o9,o10,rfl,hW,hrl,hR,hne,hr1,hr2,s6,hl6⟩
      walk_at "go"
      exact q W rows H6 s6 ⟨ws,hW,hR⟩ (by omega) hr1 hr2
theorem D_house (T:Txt mg) (S:Src K mg "_law_house" "_law_house" s__law_house) (D_law_mixed:Def P w K mg base 1 "_law_mixed" ["_law_cell","_law_k"] sp_mixed) (D_law_cell_at:Def P w K mg base 1 "_law_cell_at" ["_law_script","_law_k"] (sp_cell K)) (D_law_beds:Def P w K mg base 2 "_law_beds" ["_law_first","_law_many"] sp_beds) (D_law_worths:Def P w K mg base 2 "_law_worths" ["_law_script","_law_first","_law_people","_law_rooms"] (sp_worths K)):Def P w K mg base 3 "_law_house" ["_law_script","_law_most_people","_law_most_rooms"] (sp_house K):=by
  refine S.mk' sc__law_house (fun vs H Q E h=>?_) (fun _ _ _ _ _ _ us hl=>match us,hl with | [_,_,_],_=>rfl) (fun f cdv A outer s H vs Q E hr h=>?_)
  · obtain ⟨a,ns,mp,mr,rfl,_⟩:=h
    rfl
  · obtain ⟨a,ns,mp,mr,rfl,hS,hlen,p0,p1,r0,r1,q⟩:=h
    refine ⟨_,(pss_cons (ps_set (i:=3) sc__law_house.nd rfl (Or.inl rfl) (pe_def D_law_mixed (hr.mono (by decide)) rfl (pa_cons (pe_def D_law_cell_at (hr.mono (by decide)) rfl (pa_cons (pv 0) (pa_cons pe_int pa_nil))) (pa_cons pe_int pa_nil))))
      (pss_cons (ps_set (i:=4) sc__law_house.nd rfl (Or.inl rfl) (pe_def D_law_beds (hr.mono (by decide)) rfl (pa_cons (pv 3) (pa_cons (pe_op op_add pe_int (pe_op op_mod (pe_op op_fdivW (pv 3) pe_int) (pv 2))) pa_nil))))
      (pss_cons (ps_set (i:=5) sc__law_house.nd rfl (Or.inl rfl) (pe_op op_add pe_int (pe_op op_mod (pe_op op_fdivW (pv 3) pe_int) (pe_callB (call_min2 rfl) (by rfl) T.min boot_min' (pa_cons (pv 1) (pa_cons (pe_callB (call_sumK (K:=K) rfl rfl) (by rfl) T.sum boot_sum' (pa_cons (pv 4) pa_nil)) pa_nil))))))
      (pss_cons (ps_set (i:=6) sc__law_house.nd rfl (Or.inl rfl) (pe_def D_law_worths (hr.mono (by decide)) rfl (pa_cons (pv 0) (pa_cons (pv 3) (pa_cons (pv 5) (pa_cons (pe_callB (call_lenK (K:=K) rfl) (by rfl) T.len boot_len' (pa_cons (pv 4) pa_nil)) pa_nil))))))
      (pss_cons (ps_set (i:=7) sc__law_house.nd rfl (Or.inl rfl) (pe_op op_mod (pe_op op_fdivW (pv 3) pe_int) pe_int))
      (pss_cons (ps_join (ps_if (pt_cmpR op_eq (pe_op op_mod (pe_op op_fdivW (pv 3) pe_int) pe_int) pe_int (nomark _)) (pss_one (ps_set (i:=7) sc__law_house.nd rfl (Or.inl rfl) (pe_op op_add (pe_op op_sub (pe_op op_mod (pe_def D_law_cell_at (hr.mono (by decide)) rfl (pa_cons (pv 0) (pa_cons pe_int pa_nil))) (pe_op op_sub (pe_op op_mulW pe_int (pe_op op_pow pe_int pe_int)) pe_int)) (pe_op op_pow pe_int pe_int)) pe_int))) pss_nil))
      (pss_one (ps_ret (pe_tup' (pa_cons (pv 4) (pa_cons (pv 6) (pa_cons (pv 7) pa_nil)))))))))))),?_⟩
    walk_at "go"
    refine ⟨a,ns,_,rfl,hS,by decide,fun z0=>?_⟩
    walk_at "go"
    refine ⟨z0,_,rfl,by decide,by decide,fun m m0 m1=>?_⟩
    walk_at "go"
    have g1:=Int.emod_nonneg (m / 4) (show mr≠0 by omega)
    have g2:=Int.emod_lt_of_pos (m / 4) (show 0 < mr by omega)
    refine ⟨m,_,rfl,by omega,by omega,fun b bs H1 n1 hbl hbb=>?_⟩
    have hb1:1≤bs.length:=by omega
    have hs1:=sum_ge (bs:=bs) fun x hx=>(hbb x hx).1
    have hs2:=sum_le (bs:=bs) (m:=4) fun x hx=>(hbb x hx).2
    walk_at "go"
    refine ⟨b,bs,rfl,SqL.of n1.at_,?_⟩
    refine ⟨_,_,rfl,?_⟩
    have hmin:1≤(if bs.sum < mp then bs.sum else mp)∧(if bs.sum < mp then bs.sum else mp)≤mp∧(if bs.sum < mp then bs.sum else mp)≤bs.sum:=by
      split <;> omega
    generalize (if bs.sum < mp then bs.sum else mp)=mn at *
    have g3:=Int.emod_nonneg (m / 40) (show mn≠0 by omega)
    have g4:=Int.emod_lt_of_pos (m / 40) (show 0 < mn by omega)
    walk_at "go"
    refine ⟨b,_,rfl,.inl (SqL.of n1.at_),?_⟩
    rw [List.length_map]
    refine ⟨a,ns,m,_,_,rfl,n1.same.seq hS,hlen,by omega,by omega,by omega,by omega,fun w rows H2 s2 hM hrl hr1 hr2=>?_⟩
    walk_at "go"
    have S2:Same H H2:=n1.same.trans s2
    refine ⟨fun σ' H'=>H'=H2∧∃ rent:Int,σ'=[some (.ref a),some (.int mp),some (.int mr),some (.int m),some (.ref b),some (.int (1 + m / 40 % mn)),some (.ref w),some (.int rent)]∧-(10 ^ 40) < rent∧rent < 10 ^ 40,?_,?_⟩
    · walk_at "go"
      refine ite2 (fun _=>?_) (fun _=>?_)
      · walk_at "go"
        refine ⟨a,ns,_,rfl,S2.seq hS,by decide,fun z=>?_⟩
        have g5:=Int.emod_nonneg z (show (2 * 10 ^ Int.toNat 40 - 1:Int)≠0 by decide)
        have g6:=Int.emod_lt_of_pos z (show (0:Int) < 2 * 10 ^ Int.toNat 40 - 1 by decide)
        have ge:(10:Int) ^ Int.toNat 40=10 ^ 40:=rfl
        walk_at "go"
        rw [ge] at g5 g6
        show z % (2 * 10 ^ Int.toNat 40 - 1) - 10 ^ Int.toNat 40 + 1 < 10 ^ 40
        rw [ge]
        omega
      · exact ⟨rfl,_,rfl,by omega,by omega⟩
    · rintro σ' H' ⟨rfl,rent,rfl,e1,e2⟩
      walk_at "go"
      refine fun t H3 n3=>?_
      refine q t b w bs rows rent H3 (S2.trans n3.same) n3.at_ (n3.same _ _ (s2 _ _ n1.at_)) (hM.same n3.same) ⟨hb1,by omega,hbb,by omega,by omega,by omega,fun row hr=>?_,hr2,e1,e2⟩
      have:=hr1 row hr
      omega
theorem D_ishop {CH CWorst CEven:Addr} (T:Txt mg) (HC:HCls K mg CH) (HWorst:AimCls K mg CWorst "Worst") (HEven:AimCls K mg CEven "Even") (S:Src K mg "is_hop" "is_hop" s_is_hop) (MWorst_through:MDef P w K mg base 5 CWorst "through" ["self","a","b"] (sp_through true CH CWorst)) (MEven_through:MDef P w K mg base 5 CEven "through" ["self","a","b"] (sp_through false CH CEven)) (Mpeople:MDef P w K mg base 1 CH "people" ["self"] (sp_people CH)):Def P w K mg base 6 "is_hop" ["aim","hop"] (sp_ishop CH CWorst CEven):=by
  refine S.mk' sc_is_hop (fun vs H Q E h=>?_) (fun _ _ _ _ _ _ us hl=>match us,hl with | [_,_],_=>rfl) (fun f cdv A outer s H vs Q E hr h=>?_)
  · obtain ⟨wo,p,t,beds,worths,rent,way,m,rfl,_⟩:=h
    rfl
  · obtain ⟨wo,p,t,beds,worths,rent,way,m,rfl,hA,ok,ht,m1,m2,m3,m4,q⟩:=h
    refine ⟨_,(pss_cons (ps_set (i:=2) sc_is_hop.nd rfl (Or.inl rfl) (pe_mdef0 Mpeople HC.cl (pe_fldK (K:=K) rfl (pv 0) rfl) (hr.mono (by decide))))
      (pss_cons (ps_if (PW.pt (pw_or (pt_cmpR op_eq (pe_ix (ix_seqK (K:=K) rfl) (pv 1) pe_int (fun _ _=>rfl)) (pe_ix (ix_seqK (K:=K) rfl) (pv 1) pe_int (fun _ _=>rfl)) (nomark _)) (pw_or (pt_not (pt_chain op_le op_lt pe_int (pe_ix (ix_seqK (K:=K) rfl) (pv 1) pe_int (fun _ _=>rfl)) (pv 2))) (pw_or1 (pt_not (pt_chain op_le op_lt pe_int (pe_ix (ix_seqK (K:=K) rfl) (pv 1) pe_int (fun _ _=>rfl)) (pv 2))))))) (pss_one (ps_ret pe_bl)) pss_nil)
      (pss_one (ps_ret (pe_cmpR (op_in_seqK (K:=K) rfl) (pe_ix (ix_seqK (K:=K) rfl) (pv 1) pe_int (fun _ _=>rfl)) (pe_either (pe_mdef MWorst_through HWorst.cl (pv 0) (hr.mono (by decide)) (pa_cons (pe_ix (ix_seqK (K:=K) rfl) (pv 1) pe_int (fun _ _=>rfl)) (pa_cons (pe_ix (ix_seqK (K:=K) rfl) (pv 1) pe_int (fun _ _=>rfl)) pa_nil))) (pe_mdef MEven_through HEven.cl (pv 0) (hr.mono (by decide)) (pa_cons (pe_ix (ix_seqK (K:=K) rfl) (pv 1) pe_int (fun _ _=>rfl)) (pa_cons (pe_ix (ix_seqK (K:=K) rfl) (pv 1) pe_int (fun _ _=>rfl)) pa_nil)))) (by with_unfolding_all rfl)))))),?_⟩
    have AC:ACls K (CC CWorst CEven wo):=by
      cases wo
      · exact HEven.a
      · exact HWorst.a
    obtain ⟨dx,hp,wa,g1,g2,g3⟩:=hA.ex
    obtain ⟨dh,bb,ww,h1,h2,h3⟩:=g2.ex
    refine ⟨_,rfl,p,_,dx,_,_,rfl,g1,AC.cl,AC.nH,af_house _ _,hp,dh,_,rfl,h1,hf_no _ _ _ (by decide +kernel) (by decide +kernel) (by decide +kernel),hp,beds,worths,rent,rfl,g2,?_⟩
    walk_at "go"
    refine ixT (SqT.of ht) rfl ?_
    walk_at "go"
    refine ixT (SqT.of ht) rfl ?_
    walk_at "go"
    refine iteE (decide_eq_false (fun z=>by injection z with z; omega)) ?_
    walk_at "go"
    refine ixT (SqT.of ht) rfl ?_
    walk_at "go"
    refine iteE (by rw [decide_eq_true (by omega)]; rfl) ?_
    walk_at "go"
    refine ixT (SqT.of ht) rfl ?_
    walk_at "go"
    refine iteE (by rw [decide_eq_true (by omega)]; rfl) ?_
    walk_at "go"
    refine ixT (SqT.of ht) rfl ?_
    refine thru_go (a:=m.1) (b:=m.2.2) hA ok m1 m2 (fun _ k=>⟨_,rfl,k⟩) (fun K2 k=>?_) fun l4 ms H4 s4 f4 h4 hr4=>?_
    · walk_at "go"
      refine ixT (SqT.of ht) rfl ?_
      walk_at "go"
      refine ixT (SqT.of ht) rfl ?_
      exact k
    refine ⟨l4,_,rfl,.inl (SqL.of h4),rfl,by simp [flatV],?_⟩
    rw [if_neg Bool.false_ne_true,inV_ints,decide_eq_true ((hr4.2 _).mpr m4)]
    exact q _ s4
theorem D_cgain {CH CWorst CEven:Addr} (T:Txt mg) (HC:HCls K mg CH) (HWorst:AimCls K mg CWorst "Worst") (HEven:AimCls K mg CEven "Even") (S:Src K mg "chain_gain" "chain_gain" s_chain_gain) (MWorst_gain:MDef P w K mg base 2 CWorst "gain" ["self","a","r","b"] (sp_gain true CH CWorst)) (MEven_gain:MDef P w K mg base 2 CEven "gain" ["self","a","r","b"] (sp_gain false CH CEven)) (Dis_hop:Def P w K mg base 6 "is_hop" ["aim","hop"] (sp_ishop CH CWorst CEven)):Def P w K mg base 7 "chain_gain" ["aim","chain","i"] (sp_cgain CH CWorst CEven):=by
  refine S.mk' sc_chain_gain (fun vs H Q E h=>?_) (fun _ _ _ _ _ _ us hl=>match us,hl with | [_,_,_],_=>rfl) (fun f cdv A outer s H vs Q E hr h=>?_)
  · obtain ⟨wo,p,cl,beds,worths,rent,way,hops,c,s,i,rfl,_⟩:=h
    rfl
  · obtain ⟨wo,p,cl,beds,worths,rent,way,hops,c,s,i,rfl,hA,ok,good,hc,hh,q⟩:=h
    refine ⟨_,(pss_cons (ps_set (i:=3) sc_chain_gain.nd rfl (Or.inl rfl) pe_int)
      (pss_cons (ps_set (i:=4) sc_chain_gain.nd rfl (Or.inl rfl) (pv 2))
      (pss_cons (ps_for PassesOwn.never rfl (pi_revK (K:=K) rfl rfl T.reversed (pv 1)) (pg_name (i:=5) sc_chain_gain.nd rfl (Or.inl rfl))
      (pss_cons (ps_if (PW.pt (pw_or (pt_cmpR op_ne (pe_ix (ix_seqK (K:=K) rfl) (pv 5) pe_int (fun _ _=>rfl)) (pv 4) (nomark _)) (pw_or1 (pt_not (pt_val (pe_def Dis_hop (hr.mono (by decide)) rfl (pa_cons (pv 0) (pa_cons (pv 5) pa_nil)))))))) (pss_one (ps_ret pe_non)) pss_nil)
      (pss_cons (ps_set (i:=3) sc_chain_gain.nd rfl (Or.inl rfl) (pe_op op_add (pv 3) (pe_either (pe_mdef MWorst_gain HWorst.cl (pv 0) (hr.mono (by decide)) (pa_cons (pe_ix (ix_seqK (K:=K) rfl) (pv 5) pe_int (fun _ _=>rfl)) (pa_cons (pe_ix (ix_seqK (K:=K) rfl) (pv 5) pe_int (fun _ _=>rfl)) (pa_cons (pe_ix (ix_seqK (K:=K) rfl) (pv 5) pe_int (fun _ _=>rfl)) pa_nil)))) (pe_mdef MEven_gain HEven.cl (pv 0) (hr.mono (by decide)) (pa_cons (pe_ix (ix_seqK (K:=K) rfl) (pv 5) pe_int (fun _ _=>rfl)) (pa_cons (pe_ix (ix_seqK (K:=K) rfl) (pv 5) pe_int (fun _ _=>rfl)) (pa_cons (pe_ix (ix_seqK (K:=K) rfl) (pv 5) pe_int (fun _ _=>rfl)) pa_nil)))))))
      (pss_one (ps_set (i:=4) sc_chain_gain.nd rfl (Or.inl rfl) (pe_ix (ix_seqK (K:=K) rfl) (pv 5) pe_int (fun _ _=>rfl)))))))
      (pss_one (ps_ret (pv 3)))))),?_⟩
    obtain ⟨ts,e1,e2,e3⟩:=id hh
    walk_at "go"
    refine ⟨cl,_,rfl,SqL.of e1,?_⟩
    refine for_rev (xs:=ts.map V.ref) (fun k σ H' => ∃ (e:Nat) (o5:Option V),σ=[some (.ref p),some (.ref cl),some (.int (i:Int)),some (.int (wt (gnF wo worths way) (c.drop (c.length - k)))),some (.int (e:Int)),o5]∧Same H H'∧ChS hops s (c.take (c.length - k)) e) ⟨i,none,by rw [Nat.sub_zero,List.drop_length]; rfl,Same.refl _,by simpa using hc⟩ (fun k σ H' _ h=>h.choose_spec.choose_spec.2.1.seq (SqL.of e1)) ?_ ?_
    · rintro k x σ H1 hx ⟨e,o5,rfl,s1,hc1⟩
      have hk:k < c.length:=by
        have:=(List.getElem?_eq_some_iff.mp hx).1
        simpa [e2] using this
      have hx2:(ts.map V.ref)[c.length - 1 - k]? = some x:=by
        rw [List.getElem?_reverse (by simpa [e2] using hk)] at hx
        simpa [e2] using hx
      obtain ⟨t,ht,rfl⟩:=ref_at hx2
      have hm:c[c.length - 1 - k]? = some (c[c.length - 1 - k]'(by omega)):=by simp [show c.length - 1 - k < c.length by omega]
      have htt:=s1 _ _ (e3 _ _ _ ht hm)
      have etk:c.take (c.length - k)=c.take (c.length - (k + 1)) ++ [c[c.length - 1 - k]'(by omega)]:=by
        rw [show c.length - k=(c.length - (k + 1)) + 1 by omega,List.take_succ,show c.length - (k + 1)=c.length - 1 - k by omega,hm]
        rfl
      have edr:c.drop (c.length - (k + 1))=(c[c.length - 1 - k]'(by omega)) :: c.drop (c.length - k):=by
        have h0:c.drop (c.length - 1 - k)=(c[c.length - 1 - k]'(by omega)) :: c.drop (c.length - 1 - k + 1):=List.drop_eq_getElem_cons (by omega)
        rw [show c.length - (k + 1)=c.length - 1 - k by omega,h0,show c.length - 1 - k + 1=c.length - k by omega]
      rw [etk] at hc1
      generalize c[c.length - 1 - k]'(by omega)=m at *
      obtain ⟨hc2,hmem,hme⟩:=hc1.inv
      obtain ⟨m1,m2,m3,m4,m5⟩:=good.mem m hmem
      have hA1:=hA.same s1
      walk_at "go"
      refine ixT (SqT.of htt) rfl ?_
      walk_at "go"
      refine iteE (by simp [hme]) ?_
      walk_at "go"
      refine ⟨wo,p,t,beds,worths,rent,way,m,rfl,hA1,ok,htt,m1,m2,m3,m5,fun H2 s2=>?_⟩
      walk_at "go"
      have htt2:=s2 _ _ htt
      refine gain_go (a:=m.1) (r:=m.2.1) (b:=m.2.2) (hA1.same s2) ok m1 m4 m2 (fun _ k=>⟨_,rfl,k⟩) (fun K2 k=>?_) ?_
      · walk_at "go"
        refine ixT (SqT.of htt2) rfl ?_
        walk_at "go"
        refine ixT (SqT.of htt2) rfl ?_
        walk_at "go"
        refine ixT (SqT.of htt2) rfl ?_
        exact k
      walk_at "go"
      refine ixT (SqT.of htt2) rfl ?_
      have ew:wt (gnF wo worths way) (c.drop (c.length - (k + 1)))=wt (gnF wo worths way) (c.drop (c.length - k)) + gainF wo worths way m.1 m.2.1 m.2.2:=by
        rw [edr]
        simp only [wt,List.map_cons,List.sum_cons,gnF]
        omega
      refine ⟨m.1,some (.ref t),?_,s1.trans s2,hc2⟩
      rw [ew]
      rfl
    · rintro σ H1 ⟨e,o5,rfl,s1,hc1⟩
      walk_at "go"
      rw [List.length_map,e2,Nat.sub_self,List.drop_zero]
      exact q _ s1
theorem D_worthof {C:Addr} (T:Txt mg) (HC:HCls K mg C) (S:Src K mg "worth_of" "worth_of" s_worth_of) (Mpeople:MDef P w K mg base 1 C "people" ["self"] (sp_people C)):Def P w K mg base 2 "worth_of" ["house","way"] (sp_worthof K C):=by
  refine S.mk' sc_worth_of (fun vs H Q E h=>?_) (fun _ _ _ _ _ _ us hl=>match us,hl with | [_,_],_=>rfl) (fun f cdv A outer s H vs Q E hr h=>?_)
  · obtain ⟨p,a,beds,worths,rent,way,rfl,_⟩:=h
    rfl
  · obtain ⟨p,a,beds,worths,rent,way,rfl,hA,hl,hS,hlen,hin,q⟩:=h
    refine ⟨_,(pss_one (ps_ret (pe_callB (call_sumK (K:=K) rfl rfl) (by rfl) T.sum boot_sum' (pa_cons (pe_comp ["person","house","way"] [none,some 0,some 1] rfl rfl rfl (pi_range1 rfl T.range (pa_cons (pe_mdef0 Mpeople HC.cl (pv 0) (hr.mono (by decide))) pa_nil)) (fun _ _ _ _=>(pg_name (i:=0) (by decide +kernel:(["person","house","way"]:List PySem.Str).Nodup) rfl (Or.inl rfl))) (fun _ _ _ _=>pifs_nil) (fun _ _ _ _=>(pe_ix (ix_seqK (K:=K) rfl) (pe_ix (ix_seqK (K:=K) rfl) (pe_fldK (K:=K) rfl (pv 1) rfl) (pv 0) (fun _ _=>rfl)) (pe_ix (ix_seqK (K:=K) rfl) (pv 2) (pv 0) (fun _ _=>rfl)) (fun _ _=>rfl)))) pa_nil)))),?_⟩
    obtain ⟨dx,b,w,h1,h2,h3⟩:=hA.ex
    obtain ⟨ws,hw,hR⟩:=id h3
    refine ⟨_,rfl,p,dx,_,rfl,h1,hf_no _ _ _ (by decide +kernel) (by decide +kernel) (by decide +kernel),p,beds,worths,rent,rfl,hA,?_⟩
    refine ⟨_,rfl,by omega,by omega,fun D hD=>?_⟩
    refine comp_range (fun i y _=>y=.int ((worths.getD i []).getD (way.getD i 0).toNat 0)) (by rw [sizeLine_eq]; omega) hD (fun _ _ _ _ _ h=>h) ?_ ?_
    · rintro i H1 ys N hi s1 d1 hN
      have hi':i < worths.length:=by omega
      have hi2:i < way.length:=by omega
      have hrow:worths[i]? = some worths[i]:=by simp [hi']
      obtain ⟨ra,g1,g2,g3⟩:=hR.at_ hrow
      have g4:(way.map V.int)[i]? = some (.int way[i]):=by simp [hi2]
      obtain ⟨b1,b2⟩:=hin _ (List.getElem_mem hi') _ (List.getElem_mem hi2)
      have g5:(worths[i].map V.int)[way[i].toNat]? = some (.int ((worths[i]).getD way[i].toNat 0)):=by
        have:way[i].toNat < worths[i].length:=by omega
        simp [this]
      refine ⟨_,rfl,p,C,dx,_,_,rfl,s1 _ _ h1,HC.cl,HC.nW,hf_worths _ _ _,_,rfl,?_⟩
      refine ixL (SqL.of (s1 _ _ hw)) (atI_int i (by omega) g2) ?_
      refine ⟨_,rfl,_,rfl,?_⟩
      refine ixL (s1.seq hS) (atI_int i (by omega) g4) ?_
      refine ixL (SqL.of (s1 _ _ g3)) (atI_int way[i].toNat (by omega) g5) ?_
      refine hN _ _ (Same.refl _) ?_
      simp [hi',hi2]
    · rintro ys H1 s1 d1 l1 r1
      have e:ys=((List.range worths.length).map fun i=>(worths.getD i []).getD (way.getD i 0).toNat 0).map V.int:=ints_of (by rw [l1]; simp) fun i y e=>by
        have hi:i < worths.length:=by have:=(List.getElem?_eq_some_iff.mp e).1; omega
        exact ⟨(worths.getD i []).getD (way.getD i 0).toNat 0,by rw [List.getElem?_map,List.getElem?_range hi]; rfl,r1 i y e⟩
      rw [e] at d1
      refine ⟨D,_,rfl,SqL.of d1,q _ s1⟩
theorem D_Wwhole {CH C:Addr} (T:Txt mg) (HC:HCls K mg CH) (AC:ACls K C) (S:MSrc K C "whole" "Worst.whole" s_Worst_whole) (Dworth_of:Def P w K mg base 2 "worth_of" ["house","way"] (sp_worthof K CH)):MDef P w K mg base 3 C "whole" ["self"] (sp_whole_ true CH C):=by
  refine S.mk' sc_Worst_whole (fun vs H Q E h=>?_) (fun _ _ _ _ _ _ us hl=>match us,hl with | [_],_=>rfl) (fun f cdv A outer s H vs Q E hr h=>?_)
  · obtain ⟨p,beds,worths,rent,way,rfl,_⟩:=h
    rfl
  · obtain ⟨p,beds,worths,rent,way,rfl,hA,ok,q⟩:=h
    refine ⟨_,(pss_one (ps_ret (pe_op op_sub (pe_def Dworth_of (hr.mono (by decide)) rfl (pa_cons (pe_fldK (K:=K) rfl (pv 0) rfl) (pa_cons (pe_fldK (K:=K) rfl (pv 0) rfl) pa_nil))) (pe_fldK (K:=K) rfl (pe_fldK (K:=K) rfl (pv 0) rfl) rfl)))),?_⟩
    obtain ⟨dx,hp,wa,g1,g2,g3⟩:=hA.ex
    have l1:=ok.bok.w1
    refine ⟨_,rfl,p,C,dx,_,_,rfl,g1,AC.cl,AC.nH,af_house _ _,_,rfl,p,C,dx,_,_,rfl,g1,AC.cl,AC.nW,af_way _ _,?_⟩
    refine ⟨hp,wa,beds,worths,rent,wI way,rfl,g2,by omega,SqL.of g3,by simp [wI,ok.len],fun row hr z hz=>?_,fun H1 s1=>?_⟩
    · obtain ⟨r,h1,rfl⟩:=List.mem_map.mp hz
      have h2:=ok.lt r h1
      have h3:=ok.bok.rows row hr
      omega
    obtain ⟨dh,bd,w,h1,h2,h3⟩:=(g2.same s1).ex
    refine ⟨_,rfl,p,C,dx,_,_,rfl,s1 _ _ g1,AC.cl,AC.nH,af_house _ _,hp,CH,dh,_,_,rfl,h1,HC.cl,HC.nR,hf_rent _ _ _,?_⟩
    rw [worthL_wsum ok.len]
    exact ⟨_,_,rfl,rfl,q _ s1⟩
theorem D_Ewhole {CH C:Addr} (T:Txt mg) (HC:HCls K mg CH) (AC:ACls K C) (S:MSrc K C "whole" "Even.whole" s_Even_whole):MDef P w K mg base 3 C "whole" ["self"] (sp_whole_ false CH C):=by
  refine S.mk' sc_Even_whole (fun vs H Q E h=>?_) (fun _ _ _ _ _ _ us hl=>match us,hl with | [_],_=>rfl) (fun f cdv A outer s H vs Q E hr h=>?_)
  · obtain ⟨p,beds,worths,rent,way,rfl,_⟩:=h
    rfl
  · obtain ⟨p,beds,worths,rent,way,rfl,hA,ok,q⟩:=h
    refine ⟨_,(pss_one (ps_ret (pe_fldK (K:=K) rfl (pe_fldK (K:=K) rfl (pv 0) rfl) rfl))),?_⟩
    obtain ⟨dx,hp,wa,g1,g2,g3⟩:=hA.ex
    obtain ⟨dh,bd,w,h1,h2,h3⟩:=g2.ex
    refine ⟨_,rfl,p,C,dx,_,_,rfl,g1,AC.cl,AC.nH,af_house _ _,hp,CH,dh,_,_,rfl,h1,HC.cl,HC.nR,hf_rent _ _ _,?_⟩
    exact q _ (Same.refl _)
theorem D_Wprice {CH C:Addr} (T:Txt mg) (AC:ACls K C) (S:MSrc K C "price" "Worst.price" s_Worst_price) (Down_worth:Def P w K mg base 1 "own_worth" ["aim","person"] (sp_ownworth K CH)):MDef P w K mg base 2 C "price" ["self","i","level","parts"] (sp_price true CH C):=by
  refine S.mk' sc_Worst_price (fun vs H Q E h=>?_) (fun _ _ _ _ _ _ us hl=>match us,hl with | [_,_,_,_],_=>rfl) (fun f cdv A outer s H vs Q E hr h=>?_)
  · obtain ⟨p,beds,worths,rent,way,i,level,parts,rfl,_⟩:=h
    rfl
  · obtain ⟨p,beds,worths,rent,way,i,level,parts,rfl,hA,ok,hi,hx,hp,q⟩:=h
    refine ⟨_,(pss_one (ps_ret (pe_op op_sub (pe_op op_mulW (pv 3) (pe_def Down_worth (hr.mono (by decide)) rfl (pa_cons (pv 0) (pa_cons (pv 1) pa_nil)))) (pv 2)))),?_⟩
    have hob:-(10 ^ 42) < ownF worths way i∧ownF worths way i < 10 ^ 42:=by
      obtain ⟨w1,w2⟩:=ok.at_ hi
      have hrl:=ok.bok.rows _ (List.getElem_mem hi)
      have:ownF worths way i=worths[i][way.getD i 0]'(by omega):=by
        unfold ownF wF
        rw [List.getD_eq_getElem?_getD (l:=worths),List.getElem?_eq_getElem hi]
        show (worths[i]).getD (way.getD i 0) 0=_
        rw [List.getD_eq_getElem?_getD (l:=worths[i]),List.getElem?_eq_getElem (by omega)]
        rfl
      rw [this]
      exact hx _ (List.getElem_mem hi) _ (List.getElem_mem _)
    refine ⟨_,rfl,_,rfl,_,rfl,C,p,beds,worths,rent,way,i,rfl,AC,hA,ok,hi,?_⟩
    refine ⟨_,_,rfl,rfl,⟨hp,by omega⟩,?_⟩
    exact ⟨_,rfl,_,_,rfl,rfl,q⟩
theorem D_Eprice {CH C:Addr} (T:Txt mg) (S:MSrc K C "price" "Even.price" s_Even_price):MDef P w K mg base 2 C "price" ["self","i","level","parts"] (sp_price false CH C):=by
  refine S.mk' sc_Even_price (fun vs H Q E h=>?_) (fun _ _ _ _ _ _ us hl=>match us,hl with | [_,_,_,_],_=>rfl) (fun f cdv A outer s H vs Q E hr h=>?_)
  · obtain ⟨p,beds,worths,rent,way,i,level,parts,rfl,_⟩:=h
    rfl
  · obtain ⟨p,beds,worths,rent,way,i,level,parts,rfl,hA,ok,hi,hx,hp,q⟩:=h
    refine ⟨_,(pss_one (ps_ret (pv 2))),?_⟩
    exact ⟨_,rfl,q⟩
theorem D_bound {CH CWorst CEven:Addr} (T:Txt mg) (HC:HCls K mg CH) (HWorst:AimCls K mg CWorst "Worst") (HEven:AimCls K mg CEven "Even") (S:Src K mg "bound" "bound" s_bound) (MWorst_whole:MDef P w K mg base 3 CWorst "whole" ["self"] (sp_whole_ true CH CWorst)) (MEven_whole:MDef P w K mg base 3 CEven "whole" ["self"] (sp_whole_ false CH CEven)) (Mpeople:MDef P w K mg base 1 CH "people" ["self"] (sp_people CH)) (Dchain_gain:Def P w K mg base 7 "chain_gain" ["aim","chain","i"] (sp_cgain CH CWorst CEven)):Def P w K mg base 8 "bound" ["aim","chains"] (sp_bound CH CWorst CEven):=by
  refine S.mk' sc_bound (fun vs H Q E h=>?_) (fun _ _ _ _ _ _ us hl=>match us,hl with | [_,_],_=>rfl) (fun f cdv A outer s H vs Q E hr h=>?_)
  · obtain ⟨wo,p,cl,beds,worths,rent,way,hops,cs,rfl,_⟩:=h
    rfl
  · obtain ⟨wo,p,cl,beds,worths,rent,way,hops,cs,rfl,hA,ok,good,hc,q⟩:=h
    refine ⟨_,(pss_cons (ps_set (i:=2) sc_bound.nd rfl (Or.inl rfl) (pe_mdef0 Mpeople HC.cl (pe_fldK (K:=K) rfl (pv 0) rfl) (hr.mono (by decide))))
      (pss_cons (ps_setC (i:=3) sc_bound.nd rfl (Or.inl rfl) ["person","aim","chains"] [none,some 0,some 1] rfl rfl rfl (pi_range1 rfl T.range (pa_cons (pv 2) pa_nil)) (fun _ _ _ _=>(pg_name (i:=0) (by decide +kernel:(["person","aim","chains"]:List PySem.Str).Nodup) rfl (Or.inl rfl))) (fun _ _ _ _=>pifs_nil) (fun _ _ _ _=>(pe_def Dchain_gain (hr.mono (by decide)) rfl (pa_cons (pv 1) (pa_cons (pe_ix (ix_seqK (K:=K) rfl) (pv 2) (pv 0) (fun _ _=>rfl)) (pa_cons (pv 0) pa_nil))))))
      (pss_cons (ps_if (pt_cmpR (op_in_seqK (K:=K) rfl) pe_non (pv 3) (by with_unfolding_all rfl)) (pss_one (ps_ret pe_non)) pss_nil)
      (pss_one (ps_ret (pe_tup' (pa_cons (pe_op op_sub (pe_either (pe_mdef0 MWorst_whole HWorst.cl (pv 0) (hr.mono (by decide))) (pe_mdef0 MEven_whole HEven.cl (pv 0) (hr.mono (by decide)))) (pe_callB (call_sumK (K:=K) rfl rfl) (by rfl) T.sum boot_sum' (pa_cons (pv 3) pa_nil))) (pa_cons (pv 2) pa_nil)))))))),?_⟩
    have AC:ACls K (CC CWorst CEven wo):=by
      cases wo
      · exact HEven.a
      · exact HWorst.a
    have lw:=ok.bok.w1
    obtain ⟨ls,e1,e2,e3⟩:=hc.ex
    obtain ⟨dx,hp,wa,g1,g2,g3⟩:=hA.ex
    obtain ⟨dh,bb,ww,h1,h2,h3⟩:=g2.ex
    refine ⟨_,rfl,p,_,dx,_,_,rfl,g1,AC.cl,AC.nH,af_house _ _,hp,dh,_,rfl,h1,hf_no _ _ _ (by decide +kernel) (by decide +kernel) (by decide +kernel),hp,beds,worths,rent,rfl,g2,?_⟩
    refine ⟨_,rfl,_,rfl,by omega,by omega,fun D hD=>?_⟩
    rw [Int.toNat_natCast]
    refine compRangeV (fun i=>.int (wt (gnF wo worths way) (cs.getD i []))) (by rw [sizeLine_eq]; omega) hD (fun i hi H1 N s1 hN=>?_) fun H1 s1 d1=>?_
    · have hl:(ls.map V.ref)[i]? = some (.ref (ls[i]'(by omega))):=by simp [show i < ls.length by omega]
      have hci:cs[i]? = some (cs.getD i []):=by simp [List.getD,show i < cs.length by rw [hc.len]; omega]
      have hh:=e3 i _ _ (show ls[i]? = some (ls[i]'(by omega)) by simp [show i < ls.length by omega]) hci
      obtain ⟨s,hs⟩:=hc.ch i hi
      rw [show (0:Int) + (i:Int)=(i:Int) by omega]
      walk_at "go"
      refine ixL (SqL.of (s1 _ _ e1)) (atI_int i rfl hl) ?_
      walk_at "go"
      exact ⟨wo,p,_,beds,worths,rent,way,hops,_,s,i,rfl,hA.same s1,ok,good,hs,hh.same s1,fun H2 s2=>hN _ s2⟩
    have ed:((List.range worths.length).map fun i=>V.int (wt (gnF wo worths way) (cs.getD i [])))=(cs.map (wt (gnF wo worths way))).map V.int:=by
      refine List.ext_getElem (by simp [hc.len]) fun i a b=>?_
      have:i < cs.length:=by simpa using b
      simp [List.getD,this]
    have d1':H1 D=some (.lst ((cs.map (wt (gnF wo worths way))).map V.int)):=by rw [d1,← ed]
    refine ⟨_,rfl,D,_,rfl,.inl (SqL.of d1'),rfl,by simp [flatV],?_⟩
    rw [if_neg Bool.false_ne_true,show inV V.non ((cs.map (wt (gnF wo worths way))).map V.int)=false by simp [inV,eqV]]
    walk_at "go"
    refine whole_go (hA.same s1) ok (fun _ k=>⟨_,rfl,k⟩) fun H2 s2=>?_
    walk_at "go"
    refine ⟨D,_,rfl,SqL.of (s2 _ _ d1'),?_⟩
    walk_at "go"
    exact fun t H3 n3=>q t H3 ((s1.trans s2).trans n3.same) ((s1.trans s2).free n3.none) n3.at_
theorem D_cd (S:Src K mg "common_divisor" "common_divisor" s_common_divisor):Def P w K mg base 1 "common_divisor" ["one","other"] sp_cd:=by
  refine S.mk' sc_common_divisor (fun vs H Q E h=>?_) (fun _ _ _ _ _ _ us hl=>match us,hl with | [_,_],_=>rfl) (fun f cdv A outer s H vs Q E hr h=>?_)
  · obtain ⟨a,b,rfl,_⟩:=h
    rfl
  · obtain ⟨a,b,rfl,ha,hb,q⟩:=h
    refine ⟨_,(pss_cons (ps_while PassesOwn.never (pt_cmpR op_ne (pv 1) pe_int (nomark _)) (pss_cons (ps_set (i:=2) sc_common_divisor.nd rfl (Or.inl rfl) (pe_op op_mod (pv 0) (pv 1)))
      (pss_cons (ps_set (i:=0) sc_common_divisor.nd rfl (Or.inl rfl) (pv 1))
      (pss_one (ps_set (i:=1) sc_common_divisor.nd rfl (Or.inl rfl) (pv 2))))))
      (pss_one (ps_ret (pv 0)))),?_⟩
    refine ⟨fun m σ H' => ∃ (x y:Int) (o:Option V),σ=[some (.int x),some (.int y),o]∧m=y.natAbs∧0≤x∧0≤y∧Nat.gcd x.natAbs y.natAbs=Nat.gcd a.natAbs b.natAbs∧H'=H,⟨_,a,b,_,rfl,rfl,by omega,hb,rfl,rfl⟩,?_⟩
    rintro m σ H' ⟨x,y,o,rfl,rfl,hx,hy,hg,rfl⟩
    walk_at "go"
    refine ite2 (fun e=>?_) (fun e=>?_)
    · have hy0:0 < y:=by
        simp at e
        omega
      refine ⟨_,fun σ' H' h=>h,?_⟩
      walk_at "go"
      refine ⟨_,?_,_,_,_,rfl,rfl,hy,Int.emod_nonneg _ (by omega),?_,rfl⟩
      rotate_left
      · rw [← hg,Nat.gcd_comm x.natAbs,Nat.gcd_rec y.natAbs x.natAbs,Int.natAbs_emod_of_nonneg hx,Nat.gcd_comm]
      · show (x % y).natAbs < y.natAbs
        have h1:=Int.emod_nonneg x (show y≠0 by omega)
        have h2:=Int.emod_lt_of_pos x hy0
        omega
    · have hy0:y=0:=by simpa using e
      subst hy0
      walk_at "go"
      have:x=((Nat.gcd a.natAbs b.natAbs:Nat):Int):=by
        rw [← hg]
        simp
        omega
      rw [this]
      exact q
theorem D_lowestF (T:Txt mg) (S:Src K mg "lowest" "lowest" s_lowest) (Dcommon_divisor:Def P w K mg base 1 "common_divisor" ["one","other"] sp_cd):Def P w K mg base 2 "lowest" ["parts","rows"] (sp_lowestF K):=by
  refine S.mk' sc_lowest (fun vs H Q E h=>?_) (fun _ _ _ _ _ _ us hl=>match us,hl with | [_,_],_=>rfl) (fun f cdv A outer s H vs Q E hr h=>?_)
  · obtain ⟨parts,r,rows,rfl,_⟩:=h
    rfl
  · obtain ⟨parts,r,rows,rfl,hS,hz,hp,hp2,q⟩:=h
    refine ⟨_,(pss_cons (ps_set (i:=2) sc_lowest.nd rfl (Or.inr rfl) (pv 0))
      (pss_cons (ps_for PassesOwn.never rfl (pi_listK (K:=K) rfl (pv 1)) (pg_name (i:=3) sc_lowest.nd rfl (Or.inl rfl))
      (pss_one (ps_set (i:=2) sc_lowest.nd rfl (Or.inr rfl) (pe_def Dcommon_divisor (hr.mono (by decide)) rfl (pa_cons (pv 2) (pa_cons (pe_callB call_abs (by rfl) T.abs boot_abs' (pa_cons (pv 3) pa_nil)) pa_nil))))))
      (pss_one (ps_ret (pe_tup' (pa_cons (pe_op op_fdivW (pv 0) (pv 2)) (pa_cons (pe_comp ["row","divisor"] [none,some 2] rfl rfl rfl (pi_listK (K:=K) rfl (pv 1)) (fun _ _ _ _=>(pg_name (i:=0) (by decide +kernel:(["row","divisor"]:List PySem.Str).Nodup) rfl (Or.inl rfl))) (fun _ _ _ _=>pifs_nil) (fun _ _ _ _=>(pe_op op_fdivW (pv 0) (pv 1)))) pa_nil))))))),?_⟩
    have hlen:(rows.map V.int).length=rows.length:=by simp
    refine ⟨_,rfl,?_⟩
    refine ⟨_,rfl,r,rfl,⟨_,hS⟩,?_⟩
    refine for_list (xs:=rows.map V.int) (fun i σ H' => ∃ (d:Int) (o:Option V),σ=[some (.int parts),some (.ref r),some (.int d),o]∧d=((gcdL parts.natAbs (rows.take i):Nat):Int)∧H'=H)
      ⟨parts,none,rfl,(by show parts=((parts.natAbs:Nat):Int); omega),rfl⟩ (fun i σ H' _ ⟨_,_,_,_,e⟩=>by rw [e]; exact hS) ?_ ?_
    · rintro i x σ H' hx ⟨d,o,rfl,hd,rfl⟩
      obtain ⟨z,hz1,rfl⟩:=int_at hx
      walk_at "go"
      have g0:=gcdL_pos (rows.take i) parts.natAbs (by omega)
      refine ⟨_,_,rfl,by omega,by rw [abs_nat]; omega,_,_,rfl,?_,rfl⟩
      rw [abs_nat,take_snoc hz1,gcdL_snoc,hd]
      rfl
    · rintro σ H' ⟨d,o,rfl,hd,rfl⟩
      rw [hlen,List.take_length] at hd
      have g0:=gcdL_pos rows parts.natAbs (by omega)
      have g1:gcdL parts.natAbs rows≤parts.natAbs:=Nat.le_of_dvd (by omega) (gcdL_dvd_start rows parts.natAbs)
      generalize hg:gcdL parts.natAbs rows=g at *
      walk_at "go"
      refine ⟨⟨_,hS⟩,fun D hD=>?_⟩
      refine comp_list (fun i y _ => ∃ z,rows[i]? = some z∧y=.int (z / (g:Int))) hS (by rw [hlen,sizeLine_eq]; omega) hD (fun _ _ _ _ _ h=>h) ?_ ?_
      · rintro i x H1 ys N hx s1 d1 hN
        obtain ⟨z,hz1,rfl⟩:=int_at hx
        walk_at "go"
        exact hN _ _ (Same.refl _) ⟨z,hz1,by rw [hd]⟩
      · rintro ys H1 s1 d1 l1 r1
        have e:ys=(rows.map fun x=>x / (g:Int)).map V.int:=ints_of (by simpa using l1) fun i y e=>by
          obtain ⟨z,h1,h2⟩:=r1 i y e
          exact ⟨_,by rw [List.getElem?_map,h1]; rfl,h2⟩
        walk_at "go"
        refine fun t H2 n2=>q t D H2 hD (s1.trans n2.same) ?_ (n2.same _ _ (e ▸ d1))
        rw [n2.at_,hd]
theorem D_roomprice {CH CWorst CEven:Addr} (T:Txt mg) (HWorst:AimCls K mg CWorst "Worst") (HEven:AimCls K mg CEven "Even") (S:Src K mg "room_price" "room_price" s_room_price):Def P w K mg base 1 "room_price" ["aim","costs","room"] (sp_roomprice K CH CWorst CEven):=by
  refine S.mk' sc_room_price (fun vs H Q E h=>?_) (fun _ _ _ _ _ _ us hl=>match us,hl with | [_,_,_],_=>rfl) (fun f cdv A outer s H vs Q E hr h=>?_)
  · obtain ⟨wo,p,cl,beds,worths,rent,way,cs,r,rfl,_⟩:=h
    rfl
  · obtain ⟨wo,p,cl,beds,worths,rent,way,cs,r,rfl,hA,ok,hcl,lc,l0,q⟩:=h
    refine ⟨_,(pss_cons (ps_if (pt_cmpR (op_in_seqK (K:=K) rfl) (pv 2) (pe_fldK (K:=K) rfl (pv 0) rfl) (by with_unfolding_all rfl)) (pss_one (ps_ret (pe_ix (ix_seqK (K:=K) rfl) (pv 1) (pe_bmK (K:=K) rfl PySem.F.plainAttrs_list PySem.F.slot_list_index PySem.F.type_list_index (mt_indexL (K:=K)) (pe_fldK (K:=K) rfl (pv 0) rfl) (pa_cons (pv 2) pa_nil)) (fun _ _=>rfl)))) pss_nil)
      (pss_one (ps_ret (pe_callB (call_minL (K:=K) rfl rfl) (by rfl) T.min boot_min' (pa_cons (pv 1) pa_nil))))),?_⟩
    have AC:ACls K (CC CWorst CEven wo):=by
      cases wo
      · exact HEven.a
      · exact HWorst.a
    obtain ⟨dx,hp,wa,g1,g2,g3⟩:=hA.ex
    refine ⟨_,rfl,_,rfl,p,_,dx,_,_,rfl,g1,AC.cl,AC.nW,af_way _ _,wa,_,rfl,.inl (SqL.of g3),rfl,by simp [flatV],?_⟩
    rw [if_neg Bool.false_ne_true,inV_ints]
    refine ⟨_,rfl,?_⟩
    refine ite2 (fun e=>?_) (fun e=>?_)
    · have hr:r∈way:=mem_wI.mp (of_decide_eq_true e)
      have hi:way.idxOf r < cs.length:=by rw [lc,← ok.len]; exact List.idxOf_lt_length_iff.mpr hr
      have ei:=idxOf_wI r way
      have hg:(cs.map V.int)[way.idxOf r]? = some (.int (cs.getD (way.idxOf r) 0)):=by simp [List.getD,hi]
      refine ⟨_,rfl,_,rfl,p,_,dx,_,_,rfl,g1,AC.cl,AC.nW,af_way _ _,.inl ⟨rfl,_,SqL.of g3⟩,_,rfl,wa,wI way,_,rfl,rfl,g3,of_decide_eq_true e,?_⟩
      rw [ei]
      refine ixL (SqL.of hcl) (atI_int _ rfl hg) ?_
      exact q _ (by unfold IsRoom; rw [if_pos hr])
    · have hr:r ∉ way:=fun z=>e (decide_eq_true (mem_wI.mpr z))
      walk_at "go"
      refine ⟨cl,cs,rfl,SqL.of hcl,by omega,fun z hz hmin=>?_⟩
      exact q _ (by unfold IsRoom; rw [if_neg hr]; exact ⟨hz,hmin⟩)
theorem D_pricesat {CH CWorst CEven:Addr} (T:Txt mg) (HC:HCls K mg CH) (HWorst:AimCls K mg CWorst "Worst") (HEven:AimCls K mg CEven "Even") (S:Src K mg "prices_at" "prices_at" s_prices_at) (MWorst_price:MDef P w K mg base 2 CWorst "price" ["self","i","level","parts"] (sp_price true CH CWorst)) (MEven_price:MDef P w K mg base 2 CEven "price" ["self","i","level","parts"] (sp_price false CH CEven)) (Mrooms:MDef P w K mg base 1 CH "rooms" ["self"] (sp_rooms CH)) (Droom_price:Def P w K mg base 1 "room_price" ["aim","costs","room"] (sp_roomprice K CH CWorst CEven)) (Dlowest:Def P w K mg base 2 "lowest" ["parts","rows"] (sp_lowestF K)):Def P w K mg base 3 "prices_at" ["aim","levels","parts"] (sp_pricesat K CH CWorst CEven):=by
  refine S.mk' sc_prices_at (fun vs H Q E h=>?_) (fun _ _ _ _ _ _ us hl=>match us,hl with | [_,_,_],_=>rfl) (fun f cdv A outer s H vs Q E hr h=>?_)
  · obtain ⟨wo,p,ll,beds,worths,rent,way,lv,parts,rfl,_⟩:=h
    rfl
  · obtain ⟨wo,p,ll,beds,worths,rent,way,lv,parts,rfl,hA,ok,hll,lvl,l0,p0,p1,hx,q⟩:=h
    refine ⟨_,(pss_cons (ps_set (i:=3) sc_prices_at.nd rfl (Or.inr rfl) (pe_comp ["person","aim","levels","parts"] [none,some 0,some 1,some 2] rfl rfl rfl (pi_range1 rfl T.range (pa_cons (pe_callB (call_lenK (K:=K) rfl) (by rfl) T.len boot_len' (pa_cons (pv 1) pa_nil)) pa_nil)) (fun _ _ _ _=>(pg_name (i:=0) (by decide +kernel:(["person","aim","levels","parts"]:List PySem.Str).Nodup) rfl (Or.inl rfl))) (fun _ _ _ _=>pifs_nil) (fun _ _ _ _=>(pe_either (pe_mdef MWorst_price HWorst.cl (pv 1) (hr.mono (by decide)) (pa_cons (pv 0) (pa_cons (pe_ix (ix_seqK (K:=K) rfl) (pv 2) (pv 0) (fun _ _=>rfl)) (pa_cons (pv 3) pa_nil)))) (pe_mdef MEven_price HEven.cl (pv 1) (hr.mono (by decide)) (pa_cons (pv 0) (pa_cons (pe_ix (ix_seqK (K:=K) rfl) (pv 2) (pv 0) (fun _ _=>rfl)) (pa_cons (pv 3) pa_nil))))))))
      (pss_one (ps_ret (pe_def Dlowest (hr.mono (by decide)) rfl (pa_cons (pv 2) (pa_cons (pe_comp ["room","aim","costs"] [none,some 0,some 3] rfl rfl rfl (pi_range1 rfl T.range (pa_cons (pe_mdef0 Mrooms HC.cl (pe_fldK (K:=K) rfl (pv 0) rfl) (hr.mono (by decide))) pa_nil)) (fun _ _ _ _=>(pg_name (i:=0) (by decide +kernel:(["room","aim","costs"]:List PySem.Str).Nodup) rfl (Or.inl rfl))) (fun _ _ _ _=>pifs_nil) (fun _ _ _ _=>(pe_def Droom_price (hr.mono (by decide)) rfl (pa_cons (pv 1) (pa_cons (pv 2) (pa_cons (pv 0) pa_nil)))))) pa_nil)))))),?_⟩
    have AC:ACls K (CC CWorst CEven wo):=by
      cases wo
      · exact HEven.a
      · exact HWorst.a
    have lw:=ok.bok.w1
    have lb:=ok.bok.b1
    refine ⟨_,rfl,ll,_,rfl,.inl (SqL.of hll),?_⟩
    rw [List.length_map,lvl]
    refine ⟨_,rfl,by omega,by omega,fun D hD=>?_⟩
    rw [Int.toNat_natCast]
    refine compRangeV (fun i=>.int (costF wo worths way lv parts i)) (by rw [sizeLine_eq]; omega) hD (fun i hi H1 N s1 hN=>?_) fun H1 s1 d1=>?_
    · have hg:(lv.map V.int)[i]? = some (.int (lv.getD i 0)):=by simp [List.getD,show i < lv.length by omega]
      rw [show (0:Int) + (i:Int)=(i:Int) by omega]
      refine price_go (i:=i) (level:=lv.getD i 0) (parts:=parts) (hA.same s1) ok hi hx ⟨by omega,by omega⟩ (fun _ k=>⟨_,rfl,k⟩) (fun K2 k=>?_) (hN _ (Same.refl _))
      walk_at "go"
      refine ixL (SqL.of (s1 _ _ hll)) (atI_int i rfl hg) ?_
      walk_at "go"
      exact k
    have d1':H1 D=some (.lst ((costL wo worths way lv parts).map V.int)):=by
      rw [d1]
      unfold costL
      rw [List.map_map]
      rfl
    have hA1:=hA.same s1
    obtain ⟨dx,hp,wa,g1,g2,g3⟩:=hA1.ex
    obtain ⟨dh,bb,ww,h1,h2,h3⟩:=g2.ex
    walk_at "go"
    refine ⟨p,_,dx,_,_,rfl,g1,AC.cl,AC.nH,af_house _ _,hp,dh,_,rfl,h1,hf_no _ _ _ (by decide +kernel) (by decide +kernel) (by decide +kernel),hp,beds,worths,rent,rfl,g2,?_⟩
    refine ⟨_,rfl,by omega,by omega,fun D2 hD2=>?_⟩
    rw [Int.toNat_natCast]
    refine comp_range (fun i y _ => ∃ z:Int,y=.int z∧IsRoom way (costL wo worths way lv parts) i z) (by rw [sizeLine_eq]; omega) hD2 (fun _ _ _ _ _ h=>h) ?_ ?_
    · rintro i H2 ys NN hi s2 d2 hNN
      rw [show (0:Int) + (i:Int)=(i:Int) by omega]
      walk_at "go"
      exact ⟨wo,p,D,beds,worths,rent,way,_,i,rfl,hA1.same s2,ok,s2 _ _ d1',by simp [costL],l0,fun z hz=>hNN _ _ (Same.refl _) ⟨z,rfl,hz⟩⟩
    · rintro ys H2 s2 d2 ly hy
      obtain ⟨rows,e,hr⟩:=vals_of (P:=fun _ _=>True) V.int (fun i z=>IsRoom way (costL wo worths way lv parts) i z) ys 0 (fun i y h=>by
        obtain ⟨z,e,h⟩:=hy i y h
        exact ⟨z,e,by rw [Nat.zero_add]; exact h⟩)
      subst e
      have hl:rows.length=beds.length:=by rw [List.length_map] at ly; omega
      refine ⟨parts,D2,rows,rfl,SqL.of d2,by omega,p0,by omega,fun t l H3 f3 s3 h3 h4=>?_⟩
      exact q rows t l H3 ⟨hl,fun r z e=>by have:=hr r z e; rwa [Nat.zero_add] at this⟩ ((s1.trans s2).free f3) ((s1.trans s2).trans s3) h3 h4
theorem D_divide {CH CWorst CEven PT:Addr} (T:Txt mg) (S:Src K mg "divide" "divide" s_divide) (Dgreatest:Def P w K mg base 9 "greatest" ["aim"] (sp_greatF CH CWorst CEven PT lamPos2 "best_room.<locals>.<lambda>")) (Dbound:Def P w K mg base 8 "bound" ["aim","chains"] (sp_bound CH CWorst CEven)) (Dprices_at:Def P w K mg base 3 "prices_at" ["aim","levels","parts"] (sp_pricesat K CH CWorst CEven)):Def P w K mg base 10 "divide" ["aim"] (sp_divide CH CWorst CEven PT lamPos2 "best_room.<locals>.<lambda>"):=by
  refine S.mk' sc_divide (fun vs H Q E h=>?_) (fun _ _ _ _ _ _ us hl=>match us,hl with | [_],_=>rfl) (fun f cdv A outer s H vs Q E hr h=>?_)
  · obtain ⟨wo,p,beds,worths,rent,way,rfl,_⟩:=h
    rfl
  · obtain ⟨wo,p,beds,worths,rent,way,rfl,hA,ok,fit,opt,hL,l0,hx,q⟩:=h
    refine ⟨_,(pss_cons (ps_set (i:=1) sc_divide.nd rfl (Or.inl rfl) (pe_def Dgreatest (hr.mono (by decide)) rfl (pa_cons (pv 0) pa_nil)))
      (pss_cons (ps_set (i:=2) sc_divide.nd rfl (Or.inr rfl) (pe_def Dbound (hr.mono (by decide)) rfl (pa_cons (pv 0) (pa_cons (pe_ix (ix_seqK (K:=K) rfl) (pv 1) pe_int (fun _ _=>rfl)) pa_nil))))
      (pss_cons (ps_setC (i:=3) sc_divide.nd rfl (Or.inl rfl) ["gain","least"] [none,some 2] rfl rfl rfl (pi_listK (K:=K) rfl (pe_ix (ix_seqK (K:=K) rfl) (pv 1) pe_int (fun _ _=>rfl))) (fun _ _ _ _=>(pg_name (i:=0) (by decide +kernel:(["gain","least"]:List PySem.Str).Nodup) rfl (Or.inl rfl))) (fun _ _ _ _=>pifs_nil) (fun _ _ _ _=>(pe_op op_add (pe_ix (ix_seqK (K:=K) rfl) (pv 1) pe_int (fun _ _=>rfl)) (pe_op op_mulW (pe_ix (ix_seqK (K:=K) rfl) (pv 1) pe_int (fun _ _=>rfl)) (pv 0)))))
      (pss_one (ps_ret (pe_tup' (pa_cons (pe_def Dprices_at (hr.mono (by decide)) rfl (pa_cons (pv 0) (pa_cons (pv 3) (pa_cons (pe_ix (ix_seqK (K:=K) rfl) (pv 2) pe_int (fun _ _=>rfl)) pa_nil)))) (pa_cons (pe_ix (ix_seqK (K:=K) rfl) (pv 1) pe_int (fun _ _=>rfl)) pa_nil)))))))),?_⟩
    have lw:=ok.bok.w1
    refine ⟨_,rfl,wo,p,beds,worths,rent,way,rfl,hA,ok,fit,opt,hL,fun t tl cl hops st H1 s1 so1 hL1 f1 f2 f3 ff cb g=>?_⟩
    have hA1:=hA.sameB s1
    have htl:=g.tc.g
    have l1:=g.ok.l1
    walk_at "go"
    refine ixT (SqT.of g.tup) rfl ?_
    refine ⟨wo,p,cl,beds,worths,rent,way,hops,st.2,rfl,hA1,ok,g.good,g.chs,fun tb H2 s2 f2b hb=>?_⟩
    rw [okC_sum g.ok] at hb
    have htup2:=s2 _ _ g.tup
    have htl2:=s2 _ _ htl
    walk_at "go"
    refine ixT (SqT.of htup2) rfl ?_
    refine ⟨tl,rfl,⟨_,SqL.of htl2⟩,fun D hD=>?_⟩
    refine compMapV st.1 (fun g=>.int ((wholeF wo worths way rent - st.1.sum) + (worths.length:Int) * g)) (SqL.of htl2) (by rw [sizeLine_eq]; omega) hD (fun z hz H3 N s3 hN=>?_) fun H3 s3 d3=>?_
    · walk_at "go"
      refine ixT (SqT.of (s3 _ _ hb)) rfl ?_
      walk_at "go"
      refine ixT (SqT.of (s3 _ _ hb)) rfl ?_
      walk_at "go"
      have hzb:=great_bd hx g.ok cb z hz
      refine ⟨⟨⟨by omega,by omega⟩,by omega,by omega⟩,?_⟩
      walk_at "go"
      exact hN _ (Same.refl _)
    have S3:=s2.trans s3
    have d3':H3 D=some (.lst ((lvL wo worths way rent st.1).map V.int)):=by
      rw [d3]
      unfold lvL
      rw [List.map_map]
      rfl
    walk_at "go"
    refine ixT (SqT.of (s3 _ _ hb)) rfl ?_
    refine ⟨wo,p,D,beds,worths,rent,way,_,_,rfl,hA1.same S3,ok,d3',by simp [lvL,l1],l0,by omega,by omega,hx,fun rows tp rl H4 isr frl s4 h4 h5=>?_⟩
    rw [show ((worths.length:Int)).natAbs=worths.length by omega] at h4 h5
    walk_at "go"
    have S4:=S3.trans s4
    refine ixT (SqT.of (S4 _ _ g.tup)) rfl ?_
    walk_at "go"
    refine fun t2 H5 n5=>?_
    have S5:=S4.trans n5.same
    obtain ⟨ls,c1,c2,c3,c4⟩:=id g.tc.ex
    refine q t2 tp rl cl hops st rows H5 (s1.trans S5.b) (so1.trans S5.o) (hL1.same S5) f2 (s1.th _ (S3.free frl)) (ne_of_none (S3 _ _ c1) frl).symm ?_ ⟨n5.at_,n5.same _ _ h4,n5.same _ _ h5,isr,g.chs.same S5,g.good,g.ok,g.nn,g.cl_,cb⟩
    refine ⟨ls,S5 _ _ c1,fun a ha=>⟨ff.at_ c1 a ha,?_⟩⟩
    obtain ⟨i,hi,rfl⟩:=List.mem_iff_getElem.mp ha
    have hi2:i < st.2.length:=by omega
    obtain ⟨ts,e1,_,_⟩:=c4 i _ _ (List.getElem?_eq_getElem hi) (List.getElem?_eq_getElem hi2)
    exact ne_of_none (S3 _ _ e1) frl
theorem D_paid (T:Txt mg) (S:Src K mg "paid" "paid" s_paid):Def P w K mg base 1 "paid" ["house","way","prices"] (sp_paid K):=by
  refine S.mk' sc_paid (fun vs H Q E h=>?_) (fun _ _ _ _ _ _ us hl=>match us,hl with | [_,_,_],_=>rfl) (fun f cdv A outer s H vs Q E hr h=>?_)
  · obtain ⟨v,a,t,parts,rows,way,rfl,_⟩:=h
    rfl
  · obtain ⟨v,a,t,parts,rows,way,rfl,⟨r,h1,h2⟩,hS,hl,hin,q⟩:=h
    refine ⟨_,(pss_one (ps_ret (pe_comp ["room","prices"] [none,some 2] rfl rfl rfl (pi_listK (K:=K) rfl (pv 1)) (fun _ _ _ _=>(pg_name (i:=0) (by decide +kernel:(["room","prices"]:List PySem.Str).Nodup) rfl (Or.inl rfl))) (fun _ _ _ _=>pifs_nil) (fun _ _ _ _=>(pe_ix (ix_seqK (K:=K) rfl) (pe_ix (ix_seqK (K:=K) rfl) (pv 1) pe_int (fun _ _=>rfl)) (pv 0) (fun _ _=>rfl)))))),?_⟩
    refine ⟨_,rfl,a,rfl,⟨_,hS⟩,fun D hD=>?_⟩
    refine compMap way (fun r=>rows.getD r.toNat 0) hS (by rw [sizeLine_eq]; omega) hD (fun z hz H1 N s1 hN=>?_) fun H1 s1 d1=>?_
    · obtain ⟨b1,b2⟩:=hin z hz
      have g:(rows.map V.int)[z.toNat]? = some (.int (rows.getD z.toNat 0)):=by
        have:z.toNat < rows.length:=by omega
        simp [this]
      refine ⟨_,rfl,?_⟩
      refine ixT (SqT.of (s1 _ _ h1)) rfl ?_
      refine ⟨_,rfl,?_⟩
      exact ixL (SqL.of (s1 _ _ h2)) (atI_int z.toNat (by omega) g) hN
    · exact q D H1 ⟨s1,hD,d1⟩
theorem D_shares {C:Addr} (T:Txt mg) (HC:HCls K mg C) (S:Src K mg "shares" "shares" s_shares) (Dpaid:Def P w K mg base 1 "paid" ["house","way","prices"] (sp_paid K)) (Mpeople:MDef P w K mg base 1 C "people" ["self"] (sp_people C)):Def P w K mg base 2 "shares" ["house","way","prices"] (sp_shares K C):=by
  refine S.mk' sc_shares (fun vs H Q E h=>?_) (fun _ _ _ _ _ _ us hl=>match us,hl with | [_,_,_],_=>rfl) (fun f cdv A outer s H vs Q E hr h=>?_)
  · obtain ⟨p,a,t,beds,worths,rent,parts,rows,way,rfl,_⟩:=h
    rfl
  · obtain ⟨p,a,t,beds,worths,rent,parts,rows,way,rfl,hA,hP,hS,hlen,hl,hpb,hrow,hin,q⟩:=h
    refine ⟨_,(pss_cons (ps_set (i:=3) sc_shares.nd rfl (Or.inr rfl) (pe_def Dpaid (hr.mono (by decide)) rfl (pa_cons (pv 0) (pa_cons (pv 1) (pa_cons (pv 2) pa_nil)))))
      (pss_one (ps_ret (pe_comp ["person","costs","house","prices","way"] [none,some 3,some 0,some 2,some 1] rfl rfl rfl (pi_range1 rfl T.range (pa_cons (pe_mdef0 Mpeople HC.cl (pv 0) (hr.mono (by decide))) pa_nil)) (fun _ _ _ _=>(pg_name (i:=0) (by decide +kernel:(["person","costs","house","prices","way"]:List PySem.Str).Nodup) rfl (Or.inl rfl))) (fun _ _ _ _=>pifs_nil) (fun _ _ _ _=>(pe_op op_sub (pe_op op_mulW (pe_ix (ix_seqK (K:=K) rfl) (pv 3) pe_int (fun _ _=>rfl)) (pe_ix (ix_seqK (K:=K) rfl) (pe_ix (ix_seqK (K:=K) rfl) (pe_fldK (K:=K) rfl (pv 2) rfl) (pv 0) (fun _ _=>rfl)) (pe_ix (ix_seqK (K:=K) rfl) (pv 4) (pv 0) (fun _ _=>rfl)) (fun _ _=>rfl))) (pe_ix (ix_seqK (K:=K) rfl) (pv 1) (pv 0) (fun _ _=>rfl)))))))),?_⟩
    refine ⟨_,rfl,_,rfl,_,rfl,_,a,t,parts,rows,way,rfl,hP,hS,by omega,hin,fun c H1 n1=>?_⟩
    have hA1:=hA.same n1.same
    obtain ⟨r,hp1,hp2⟩:=hP.same n1.same
    obtain ⟨dx,b,w,h1,h2,h3⟩:=hA1.ex
    obtain ⟨ws,hw,hR⟩:=id h3
    refine ⟨_,rfl,p,dx,_,rfl,h1,hf_no _ _ _ (by decide +kernel) (by decide +kernel) (by decide +kernel),p,beds,worths,rent,rfl,hA1,?_⟩
    refine ⟨_,rfl,by omega,by omega,fun D hD=>?_⟩
    refine comp_range (fun i y _=>y=.int (parts * (worths.getD i []).getD (way.getD i 0).toNat 0 - rows.getD (way.getD i 0).toNat 0)) (by rw [sizeLine_eq]; omega) hD (fun _ _ _ _ _ h=>h) ?_ ?_
    · rintro i H2 ys N hi s2 d2 hN
      have hi':i < worths.length:=by omega
      have hi2:i < way.length:=by omega
      have hrow':worths[i]? = some worths[i]:=by simp [hi']
      obtain ⟨ra,g1,g2,g3⟩:=hR.at_ hrow'
      have g4:(way.map V.int)[i]? = some (.int way[i]):=by simp [hi2]
      obtain ⟨b1,b2⟩:=hin _ (List.getElem_mem hi2)
      obtain ⟨b3,b4⟩:=hrow _ (List.getElem_mem hi')
      have hlt:way[i].toNat < worths[i].length:=by omega
      have g5:(worths[i].map V.int)[way[i].toNat]? = some (.int (worths[i][way[i].toNat])):=by simp [hlt]
      have b5:=b4 _ (List.getElem_mem hlt)
      have g6:((paidL way rows).map V.int)[i]? = some (.int (rows.getD way[i].toNat 0)):=by simp [paidL,hi2]
      refine ⟨_,rfl,?_⟩
      refine ixT (SqT.of (s2 _ _ hp1)) rfl ?_
      refine ⟨_,rfl,p,C,dx,_,_,rfl,s2 _ _ h1,HC.cl,HC.nW,hf_worths _ _ _,_,rfl,?_⟩
      refine ixL (SqL.of (s2 _ _ hw)) (atI_int i (by omega) g2) ?_
      refine ⟨_,rfl,_,rfl,?_⟩
      refine ixL (s2.seq (n1.same.seq hS)) (atI_int i (by omega) g4) ?_
      refine ixL (SqL.of (s2 _ _ g3)) (atI_int way[i].toNat (by omega) g5) ?_
      refine ⟨_,_,rfl,rfl,⟨hpb,b5⟩,?_⟩
      refine ⟨_,rfl,_,rfl,?_⟩
      refine ixL (SqL.of (s2 _ _ n1.at_)) (atI_int i (by omega) g6) ?_
      refine ⟨_,_,rfl,rfl,?_⟩
      refine hN _ _ (Same.refl _) ?_
      simp [hi',hi2,hlt]
    · rintro ys H2 s2 d2 l2 r2
      have e:ys=(sharesL worths way parts rows).map V.int:=ints_of (by rw [l2]; simp [sharesL]) fun i y e=>by
        have hi:i < worths.length:=by have:=(List.getElem?_eq_some_iff.mp e).1; omega
        exact ⟨_,by unfold sharesL; rw [List.getElem?_map,List.getElem?_range hi]; rfl,r2 i y e⟩
      rw [e] at d2
      exact q D H2 ⟨n1.same.trans s2,n1.same.free hD,d2⟩
theorem D_whole (T:Txt mg) (S:Src K mg "_law_whole" "_law_whole" s__law_whole):Def P w K mg base 1 "_law_whole" ["_law_found"] sp_whole:=by
  refine S.mk' sc__law_whole (fun vs H Q E h=>?_) (fun _ _ _ _ _ _ us hl=>match us,hl with | [_],_=>rfl) (fun f cdv A outer s H vs Q E hr h=>?_)
  · obtain ⟨i,rfl,_⟩:=h
    rfl
  · obtain ⟨i,rfl,q⟩:=h
    refine ⟨_,(pss_one (ps_ret (pe_and (pe_callB (call_isinstK (K:=K) rfl) (by rfl) T.isinstance boot_isinstance' (pa_cons (pv 0) (pa_cons (pe_bltn (v:=.ty "int") rfl T.int boot_int' rfl) pa_nil))) (pe_one (pe_not (pe_callB (call_isinstK (K:=K) rfl) (by rfl) T.isinstance boot_isinstance' (pa_cons (pv 0) (pa_cons (pe_bltn (v:=.ty "bool") rfl T.bool boot_bool' rfl) pa_nil)))))))),?_⟩
    walk_at "go"
    refine ⟨_,_,_,true,rfl,.int _,kit_same _ _,_,rfl,iteT ?_⟩
    walk_at "go"
    refine ⟨_,_,_,false,rfl,.int _,kit_ib _,_,rfl,?_⟩
    exact q
theorem D_shareout {CH CWorst CEven PT PT2:Addr} (hPT:PT2≠PT) (T:Txt mg) (HC:HCls K mg CH) (HWorst:AimCls K mg CWorst "Worst") (HEven:AimCls K mg CEven "Even") (S:Src K mg "share_out" "share_out" s_share_out) (MWorst___init__:MDef P w K mg base 1 CWorst "__init__" ["self","house","way"] (sp_ainit CH CWorst)) (MEven___init__:MDef P w K mg base 1 CEven "__init__" ["self","house","way"] (sp_ainit CH CEven)) (Dbest_way:Def P w K mg base 5 "best_way" ["house"] (sp_best2 K CH PT lamPos "bring_in.<locals>.<lambda>")) (Ddivide:Def P w K mg base 10 "divide" ["aim"] (sp_divide CH CWorst CEven PT2 lamPos2 "best_room.<locals>.<lambda>")):Def P w K mg base 11 "share_out" ["house","word"] (sp_shareout CH PT lamPos "bring_in.<locals>.<lambda>" PT2 lamPos2 "best_room.<locals>.<lambda>"):=by
  refine S.mk' sc_share_out (fun vs H Q E h=>?_) (fun _ _ _ _ _ _ us hl=>match us,hl with | [_,_],_=>rfl) (fun f cdv A outer s H vs Q E hr h=>?_)
  · obtain ⟨wo,x,beds,worths,rent,rfl,_⟩:=h
    rfl
  · obtain ⟨wo,x,beds,worths,rent,rfl,hA4,ok,hL4,hL24,q⟩:=h
    refine ⟨_,(pss_cons (ps_set (i:=2) sc_share_out.nd rfl (Or.inl rfl) (pe_def Dbest_way (hr.mono (by decide)) rfl (pa_cons (pv 0) pa_nil)))
      (pss_cons (ps_set (i:=3) sc_share_out.nd rfl (Or.inl rfl) (pe_join (pe_ifExp (pt_cmpR op_eq (pv 1) pe_str (nomark _)) (pe_mk MWorst___init__ HWorst.mks HWorst.kp HWorst.mgC (hr.mono (by decide)) rfl (pa_cons (pv 0) (pa_cons (pv 2) pa_nil))) (pe_mk MEven___init__ HEven.mks HEven.kp HEven.mgC (hr.mono (by decide)) rfl (pa_cons (pv 0) (pa_cons (pv 2) pa_nil))))))
      (pss_cons (ps_set (i:=4) sc_share_out.nd rfl (Or.inl rfl) (pe_def Ddivide (hr.mono (by decide)) rfl (pa_cons (pv 3) pa_nil)))
      (pss_one (ps_ret (pe_tup' (pa_cons (pv 2) (pa_cons (pe_ix (ix_seqK (K:=K) rfl) (pv 4) pe_int (fun _ _=>rfl)) (pa_cons (pe_ix (ix_seqK (K:=K) rfl) (pv 4) pe_int (fun _ _=>rfl)) pa_nil))))))))),?_⟩
    have hb0':∀ b∈beds,0≤b:=fun b hb=>by have:=ok.b1 b hb; omega
    refine ⟨_,rfl,x,beds,worths,rent,rfl,hA4,ok.bok,ok.w3,hb0',hL4,fun wy way H5 s5 so5 f5 h5 hL5 ln fit opt=>?_⟩
    have hL25:LamAt H5 PT2 lamPos2 "best_room.<locals>.<lambda>" := hL24.o hL4.tbl hPT so5
    have aok:AimOk beds worths way:=⟨ok.bok,ln,fit_lt fit⟩
    have hA5:=hA4.sameB s5
    refine ⟨fun v H' => ∃ xa dxa wa,v=.ref xa∧H' xa=some (.ins (CC CWorst CEven wo) dxa (aflds x wa))∧H' wa=some (.lst ((wI way).map V.int))∧Same H5 H',?_,?_⟩
    · walk_at "go"
      rw [dec_word]
      cases wo with
      | true =>
          refine iteT ?_
          walk_at "go"
          refine fun xa da nxa nda nea=>?_
          have sa:Same H5 (upd (upd H5 da (.own xa)) xa (.ins CWorst da [])):=fun c o e=>by
            rw [upd_ne (ne_of_none e nxa),upd_ne (ne_of_none e nda)]
            exact e
          refine ⟨xa,da,x,wy,beds,worths,rent,way,rfl,upd_same,hA5.same sa,sa _ _ h5,fun wa H10 f10 p10 w10 kp10=>⟨rfl,?_⟩⟩
          exact ⟨xa,da,wa,rfl,p10,w10,fun c o e=>kp10 c o (sa _ _ e) (ne_of_none e nxa)⟩
      | false =>
          refine iteF ?_
          walk_at "go"
          refine fun xa da nxa nda nea=>?_
          have sa:Same H5 (upd (upd H5 da (.own xa)) xa (.ins CEven da [])):=fun c o e=>by
            rw [upd_ne (ne_of_none e nxa),upd_ne (ne_of_none e nda)]
            exact e
          refine ⟨xa,da,x,wy,beds,worths,rent,way,rfl,upd_same,hA5.same sa,sa _ _ h5,fun wa H10 f10 p10 w10 kp10=>⟨rfl,?_⟩⟩
          exact ⟨xa,da,wa,rfl,p10,w10,fun c o e=>kp10 c o (sa _ _ e) (ne_of_none e nxa)⟩
    rintro v H10 ⟨xa,dxa,wa,rfl,p10,w10,S10⟩
    have aim10:AimAt CH (CC CWorst CEven wo) H10 xa beds worths rent way:=⟨dxa,x,wa,p10,hA5.same S10,w10⟩
    walk_at "go"
    refine ⟨wo,xa,beds,worths,rent,way,rfl,aim10,aok,fit,opt,hL25.same S10,ok.w1,ok.x,fun t0 tp rl cl hops st rows H11 s11 so11 hL11 f2 frl nrc ff g=>?_⟩
    have hL11':LamAt H11 PT lamPos "bring_in.<locals>.<lambda>" := (hL5.same S10).o (hL25.same S10).tbl hPT.symm so11
    walk_at "go"
    refine ixT (SqT.of g.tup) rfl ?_
    walk_at "go"
    refine ixT (SqT.of g.tup) rfl ?_
    walk_at "go"
    refine fun t H12 n12=>?_
    have S12:SameB H10 H12:=s11.trans n12.same.b
    have U:SameB H H12:=s5.trans (S10.b.trans S12)
    have th10:∀ b,H10 b=none→H b=none:=fun b e=>s5.th _ (S10.free e)
    have wy10:=S10 _ _ h5
    refine q t wy t0 tp rl cl way hops st rows H12 U (hL11'.same n12.same) (hL11.same n12.same) f5 (th10 _ frl) (th10 _ f2) (ne_of_none wy10 frl) (ne_of_none wy10 f2) nrc ?_ n12.at_ (S12.to _ _ wy10 rfl) aok fit opt ⟨n12.same _ _ g.tup,n12.same _ _ g.pr,n12.same _ _ g.rl_,g.isr,g.chs.same n12.same,g.good,g.ok,g.nn,g.cl_,g.cb⟩
    exact (ff.keep fun o e=>n12.same _ _ e).imp fun b e=>⟨th10 _ e.1,e.2,(ne_of_none wy10 e.1).symm⟩
theorem D_level {CH PT PT2:Addr} (T:Txt mg) (HC:HCls K mg CH) (S:Src K mg "level_rooms" "level_rooms" s_level_rooms) (Dshare_out:Def P w K mg base 11 "share_out" ["house","word"] (sp_shareout CH PT lamPos "bring_in.<locals>.<lambda>" PT2 lamPos2 "best_room.<locals>.<lambda>")) (Dshares:Def P w K mg base 2 "shares" ["house","way","prices"] (sp_shares K CH)) (Mpeople:MDef P w K mg base 1 CH "people" ["self"] (sp_people CH)) (Mrooms:MDef P w K mg base 1 CH "rooms" ["self"] (sp_rooms CH)):Def P w K mg base 12 "level_rooms" ["house"] (sp_level CH PT lamPos "bring_in.<locals>.<lambda>" PT2 lamPos2 "best_room.<locals>.<lambda>"):=by
  refine S.mk' sc_level_rooms (fun vs H Q E h=>?_) (fun _ _ _ _ _ _ us hl=>match us,hl with | [_],_=>rfl) (fun f cdv A outer s H vs Q E hr h=>?_)
  · obtain ⟨x,beds,worths,rent,rfl,_⟩:=h
    rfl
  · obtain ⟨x,beds,worths,rent,rfl,hA,ok,hL,hL2,hre,q⟩:=h
    refine ⟨_,(pss_cons (ps_set (i:=1) sc_level_rooms.nd rfl (Or.inl rfl) (pe_def Dshare_out (hr.mono (by decide)) rfl (pa_cons (pv 0) (pa_cons pe_str pa_nil))))
      (pss_cons (ps_set (i:=2) sc_level_rooms.nd rfl (Or.inr rfl) (pe_ix (ix_seqK (K:=K) rfl) (pe_ix (ix_seqK (K:=K) rfl) (pv 1) pe_int (fun _ _=>rfl)) pe_int (fun _ _=>rfl)))
      (pss_cons (ps_set (i:=3) sc_level_rooms.nd rfl (Or.inr rfl) (pe_ix (ix_seqK (K:=K) rfl) (pe_ix (ix_seqK (K:=K) rfl) (pv 1) pe_int (fun _ _=>rfl)) pe_int (fun _ _=>rfl)))
      (pss_cons (ps_set (i:=4) sc_level_rooms.nd rfl (Or.inr rfl) (pe_def Dshares (hr.mono (by decide)) rfl (pa_cons (pv 0) (pa_cons (pe_ix (ix_seqK (K:=K) rfl) (pv 1) pe_int (fun _ _=>rfl)) (pa_cons (pe_ix (ix_seqK (K:=K) rfl) (pv 1) pe_int (fun _ _=>rfl)) pa_nil)))))
      (pss_cons (ps_set (i:=5) sc_level_rooms.nd rfl (Or.inl rfl) (pe_lst' pa_nil))
      (pss_cons (ps_for PassesOwn.never rfl (pi_range1 rfl T.range (pa_cons (pe_mdef0 Mpeople HC.cl (pv 0) (hr.mono (by decide))) pa_nil)) (pg_name (i:=6) sc_level_rooms.nd rfl (Or.inr rfl))
      (pss_cons (ps_set (i:=7) sc_level_rooms.nd rfl (Or.inr rfl) (pe_ix (ix_seqK (K:=K) rfl) (pe_fldK (K:=K) rfl (pv 0) rfl) (pv 6) (fun _ _=>rfl)))
      (pss_one (ps_expr (pe_bmK (K:=K) rfl PySem.F.plainAttrs_list PySem.F.slot_list_append PySem.F.type_list_append mt_append (pv 5) (pa_cons (pe_comp ["room","had","parts","person","rows","worths"] [none,some 4,some 2,some 6,some 3,some 7] rfl rfl rfl (pi_range1 rfl T.range (pa_cons (pe_mdef0 Mrooms HC.cl (pv 0) (hr.mono (by decide))) pa_nil)) (fun _ _ _ _=>(pg_name (i:=0) (by decide +kernel:(["room","had","parts","person","rows","worths"]:List PySem.Str).Nodup) rfl (Or.inl rfl))) (fun _ _ _ _=>(pifs_one (pt_cmpR op_eq (pe_op op_sub (pe_op op_mulW (pv 2) (pe_ix (ix_seqK (K:=K) rfl) (pv 5) (pv 0) (fun _ _=>rfl))) (pe_ix (ix_seqK (K:=K) rfl) (pv 4) (pv 0) (fun _ _=>rfl))) (pe_ix (ix_seqK (K:=K) rfl) (pv 1) (pv 3) (fun _ _=>rfl)) (nomark _)))) (fun _ _ _ _=>(pv 0))) pa_nil))))))
      (pss_one (ps_ret (pv 5))))))))),?_⟩
    have lw:=ok.bok.w1
    have lb:=ok.bok.b1
    have l0:=ok.w1
    walk_at "go"
    refine ⟨true,x,beds,worths,rent,rfl,hA,ok,hL,hL2,fun t wy t0 tp rl cl way hops st rows H1 s1 la1 lb1 _ _ _ _ _ _ _ ht hwy aok fit opt g=>?_⟩
    have low:=g.low l0
    have told:Told true beds worths rent rows:=⟨way,_,g.r.best aok fit opt ok.b1 l0⟩
    have fair0:=told.fair aok fit opt
    have hpr:=g.pr
    have hrl:=g.rl_
    have lrows:=g.isr.1
    have fpok:=div_fpok aok fit lrows ok.x hre l0 low
    generalize hR:(rows.map fun z=>z / ((gcdL worths.length rows:Nat):Int))=R at *
    generalize hk0:(worths.length:Int) / ((gcdL worths.length rows:Nat):Int)=k at *
    have kb:=lowk_bd low (by omega) (by omega)
    have lR:R.length=beds.length:=by rw [low.len,lrows]
    have ln:=aok.len
    have hA1:=hA.sameB s1
    walk_at "go"
    refine ixT (SqT.of ht) rfl ?_
    walk_at "go"
    refine ixT (SqT.of hpr) rfl ?_
    walk_at "go"
    refine ixT (SqT.of ht) rfl ?_
    walk_at "go"
    refine ixT (SqT.of hpr) rfl ?_
    walk_at "go"
    refine ixT (SqT.of ht) rfl ?_
    walk_at "go"
    refine ixT (SqT.of ht) rfl ?_
    refine ⟨x,wy,tp,beds,worths,rent,k,R,wI way,rfl,hA1,⟨rl,hpr,hrl⟩,SqL.of hwy,by simp [wI]; omega,by omega,by omega,fun row hr=>⟨by have:=ok.bok.rows row hr; omega,fun z hz=>by have:=ok.x row hr z hz; omega⟩,wI_lt fit lR,fun hd H2 n2=>?_⟩
    have hA2:=hA1.same n2.same
    have hrl2:=n2.same _ _ hrl
    obtain ⟨dx,b,wm,h1,h2,h3⟩:=hA2.ex
    obtain ⟨ws,hw,hRm⟩:=id h3
    walk_at "go"
    refine fun lv H3 n3=>?_
    have fl3:H lv=none:=s1.th _ (n2.same.free n3.none)
    refine ⟨_,rfl,x,dx,_,rfl,n3.same _ _ h1,hf_no _ _ _ (by decide +kernel) (by decide +kernel) (by decide +kernel),x,beds,worths,rent,rfl,hA2.same n3.same,?_⟩
    refine ⟨_,rfl,by omega,by omega,?_⟩
    rw [Int.toNat_natCast]
    refine for_range (fun i σ H'=>(∃ o6 o7:Option V,σ=[some (.ref x),some (.ref t),some (.int k),some (.ref rl),some (.ref hd),some (.ref lv),o6,o7])∧(∃ ls:List Addr,H' lv=some (.lst (ls.map V.ref))∧ls.length=i∧∀ (j:Nat) a,ls[j]? = some a→H' a=some (.lst ((((List.range beds.length).filter (lvlB (worths.length:Int) beds.length worths rows j)).map fun (r:Nat)=>(r:Int)).map V.int)))∧(∀ c o,H2 c=some o→H' c=some o)∧(∀ c,H' c=none→H2 c=none)) ⟨⟨_,_,rfl⟩,⟨[],n3.at_,rfl,fun j a z=>by simp at z⟩,n3.same,fun c e=>n3.same.free e⟩ ?_ ?_
    · rintro i σ H4 hi ⟨⟨o6,o7,rfl⟩,⟨ls,e1,e2,e3⟩,k4,f4⟩
      obtain ⟨ra,r1,r2,r3⟩:=hRm.at_ (show worths[i]? = some worths[i] by simp [hi])
      have hrow:=ok.bok.rows _ (List.getElem_mem hi)
      have hsh:=shares_at (F:=⟨beds,worths,rent,way,k,R⟩) fpok hi
      rw [show (0:Int) + (i:Int)=(i:Int) by omega]
      refine ⟨_,rfl,x,CH,dx,_,_,rfl,k4 _ _ h1,HC.cl,HC.nW,hf_worths _ _ _,_,rfl,?_⟩
      refine ixL (SqL.of (k4 _ _ hw)) (atI_int i rfl r2) ?_
      refine ⟨_,rfl,.inl ⟨rfl,_,SqL.of e1⟩,?_⟩
      refine ⟨_,rfl,x,dx,_,rfl,k4 _ _ h1,hf_no _ _ _ (by decide +kernel) (by decide +kernel) (by decide +kernel),x,beds,worths,rent,rfl,hA2.same k4,?_⟩
      refine ⟨_,rfl,by omega,by omega,fun D hD=>?_⟩
      rw [Int.toNat_natCast]
      refine compIf_range (lvlB (worths.length:Int) beds.length worths rows i) (fun (r:Nat)=>.int r) (by rw [sizeLine_eq]; omega) hD ?_ ?_ ?_
      · rintro r H5 N hr s5 hN
        have g5:(worths[i].map V.int)[r]? = some (.int (wF worths i r)):=by simp [wF,List.getD,hi,show r < worths[i].length by omega]
        have g6:(R.map V.int)[r]? = some (.int (R.getD r 0)):=by simp [List.getD,show r < R.length by omega]
        have wb:=wF_bd ok.x i r
        rw [show (0:Int) + (r:Int)=(r:Int) by omega]
        walk_at "go"
        refine ixL (SqL.of (s5 _ _ (k4 _ _ r3))) (atI_int r rfl g5) ?_
        refine ⟨_,_,rfl,rfl,⟨by omega,by omega⟩,?_⟩
        walk_at "go"
        refine ixL (SqL.of (s5 _ _ (k4 _ _ hrl2))) (atI_int r rfl g6) ?_
        walk_at "go"
        refine ixL (SqL.of (s5 _ _ (k4 _ _ n2.at_))) (atI_int i rfl hsh) ?_
        walk_at "go"
        have ez:decide (V.int (k * wF worths i r - R.getD r 0)=V.int (Fp.share ⟨beds,worths,rent,way,k,R⟩ i (way.getD i 0)))=lvlB (worths.length:Int) beds.length worths rows i r:=by
          rw [← lvl_own aok fair0 low hi hr]
          simp [Fp.share]
        have:=hN _ (Same.refl _)
        rw [← ez] at this
        exact this
      · rintro r H5 N hr hp s5 hN
        walk_at "go"
        have:=hN _ (Same.refl _)
        rw [Int.zero_add]
        exact this
      · rintro H5 s5 d5
        have e15:=s5 _ _ e1
        refine ⟨lv,_,_,rfl,rfl,e15,by rw [sizeLine_eq,List.length_map]; omega,?_⟩
        have hDl:D≠lv:=(ne_of_none e1 hD).symm
        have d5':H5 D=some (.lst ((((List.range beds.length).filter (lvlB (worths.length:Int) beds.length worths rows i)).map fun (r:Nat)=>(r:Int)).map V.int)):=by rw [d5,List.map_map]; rfl
        have nlv:∀ c o,H2 c=some o→c≠lv:=fun c o e=>ne_of_none e n3.none
        refine ⟨⟨_,_,rfl⟩,⟨ls ++ [D],by rw [upd_same]; simp,by simp [e2],fun j a' hj=>?_⟩,fun c o e=>by rw [upd_ne (nlv c o e)]; exact s5 _ _ (k4 _ _ e),fun c e=>?_⟩
        · by_cases hjl:j < ls.length
          · rw [List.getElem?_append_left hjl] at hj
            have h5:=s5 _ _ (e3 j a' hj)
            by_cases ha:a'=lv
            · exfalso
              subst ha
              rw [e15] at h5
              have h6:=HO.lst.inj (Option.some.inj h5)
              have h7:0 < (ls.map V.ref).length:=by rw [List.length_map]; omega
              have h8:∀ v∈ls.map V.ref,∃ a,v=V.ref a:=fun v hv=>by
                obtain ⟨y,_,rfl⟩:=List.mem_map.mp hv
                exact ⟨y,rfl⟩
              obtain ⟨y,hy⟩:=h8 _ (List.getElem_mem h7)
              have h9:=List.getElem_mem (h6 ▸ h7)
              obtain ⟨zz,_,hzz⟩:=List.mem_map.mp h9
              have h10:(ls.map V.ref)[0]? = ((((List.range beds.length).filter (lvlB (worths.length:Int) beds.length worths rows j)).map fun (r:Nat)=>(r:Int)).map V.int)[0]?:=by rw [h6]
              rw [List.getElem?_eq_getElem h7,hy,List.getElem?_eq_getElem (h6 ▸ h7),← hzz] at h10
              cases h10
            · rw [upd_ne ha]
              exact h5
          · have hj2:j=ls.length:=by
              have:=(List.getElem?_eq_some_iff.mp hj).1
              simp at this
              omega
            subst hj2
            simp at hj
            subst hj
            rw [upd_ne hDl,e2]
            exact d5'
        · by_cases hc:c=lv
          · rw [hc,upd_same] at e; cases e
          · rw [upd_ne hc] at e
            exact f4 _ (s5.free e)
    · rintro σ H4 ⟨⟨o6,o7,rfl⟩,⟨ls,e1,e2,e3⟩,k4,f4⟩
      walk_at "go"
      have S4:Same H1 H4:=n2.same.trans k4
      refine q lv rows H4 (s1.trans S4.b) (la1.same S4) (lb1.same S4) told fl3 ⟨ls,e1,by rw [levelM_len,e2],fun j a' row hj hrw=>?_⟩
      unfold levelM at hrw
      rw [List.getElem?_map] at hrw
      have hjl:j < worths.length:=by have:=(List.getElem?_eq_some_iff.mp hj).1; omega
      rw [List.getElem?_range hjl] at hrw
      cases hrw
      exact e3 j a' hj
theorem D_product (T:Txt mg) (S:Src K mg "product" "product" s_product):Def P w K mg base 1 "product" ["numbers"] sp_product:=by
  refine S.mk' sc_product (fun vs H Q E h=>?_) (fun _ _ _ _ _ _ us hl=>match us,hl with | [_],_=>rfl) (fun f cdv A outer s H vs Q E hr h=>?_)
  · obtain ⟨l,ks,rfl,_⟩:=h
    rfl
  · obtain ⟨l,ks,rfl,hl,lk,hk,q⟩:=h
    refine ⟨_,(pss_cons (ps_set (i:=1) sc_product.nd rfl (Or.inl rfl) pe_int)
      (pss_cons (ps_for PassesOwn.never rfl (pi_listK (K:=K) rfl (pv 0)) (pg_name (i:=2) sc_product.nd rfl (Or.inl rfl))
      (pss_one (ps_set (i:=1) sc_product.nd rfl (Or.inl rfl) (pe_op op_mulW (pv 1) (pv 2)))))
      (pss_one (ps_ret (pv 1))))),?_⟩
    walk_at "go"
    refine ⟨⟨_,SqL.of hl⟩,?_⟩
    refine for_list (xs:=(wI ks).map V.int) (fun i σ H'=>(∃ o2:Option V,σ=[some (.ref l),some (.int (((ks.take i).foldl (· * ·) 1:Nat):Int)),o2])∧H=H') ⟨⟨_,rfl⟩,rfl⟩ (fun i σ H' _ h=>h.2 ▸ SqL.of hl) ?_ ?_
    · rintro i y σ H2 hy ⟨⟨o2,rfl⟩,rfl⟩
      have hi:i < ks.length:=by
        have:=(List.getElem?_eq_some_iff.mp hy).1
        simpa [wI] using this
      have ey:y=.int ((ks.getD i 0:Nat):Int):=by
        simp [wI,hi] at hy
        simp [List.getD,hi,← hy]
      subst ey
      have hb:=prod_bd (ks:=ks.take i) (fun k hk'=>hk k (List.take_subset _ _ hk')) (by simp; omega)
      have hb2:ks.getD i 0≤10:=by
        rw [show ks.getD i 0=ks[i] by simp [List.getD,hi]]
        exact hk _ (List.getElem_mem hi)
      have ep:=prod_take hi
      walk_at "go"
      generalize (ks.take i).foldl (· * ·) 1=t at *
      generalize ks.getD i 0=k at *
      exact ⟨⟨some (.int (k:Int)),by rw [ep,Int.natCast_mul]; rfl⟩,rfl⟩
    rintro σ H2 ⟨⟨o2,rfl⟩,rfl⟩
    rw [wI_len,List.take_length]
    walk_at "go"
    exact q
theorem D_alllists (T:Txt mg) (S:Src K mg "all_lists" "all_lists" s_all_lists):Def P w K mg base 1 "all_lists" ["level"] sp_alllists:=by
  refine S.mk' sc_all_lists (fun vs H Q E h=>?_) (fun _ _ _ _ _ _ us hl=>match us,hl with | [_],_=>rfl) (fun f cdv A outer s H vs Q E hr h=>?_)
  · obtain ⟨lv,L,rfl,_⟩:=h
    rfl
  · obtain ⟨lv,L,rfl,hM,lL,hrow,hsz,q⟩:=h
    refine ⟨_,(pss_cons (ps_set (i:=1) sc_all_lists.nd rfl (Or.inl rfl) (pe_lst' (pa_cons (pe_lst' pa_nil) pa_nil)))
      (pss_cons (ps_for PassesOwn.never rfl (pi_listK (K:=K) rfl (pv 0)) (pg_name (i:=2) sc_all_lists.nd rfl (Or.inl rfl))
      (pss_cons (ps_set (i:=3) sc_all_lists.nd rfl (Or.inl rfl) (pe_lst' pa_nil))
      (pss_cons (ps_for PassesOwn.never rfl (pi_listK (K:=K) rfl (pv 1)) (pg_name (i:=4) sc_all_lists.nd rfl (Or.inr rfl))
      (pss_one (ps_expr (pe_bmK (K:=K) rfl PySem.F.plainAttrs_list PySem.F.slot_list_extend PySem.F.type_list_extend mt_extend (pv 3) (pa_cons (pe_comp ["room","begun"] [none,some 4] rfl rfl rfl (pi_listK (K:=K) rfl (pv 2)) (fun _ _ _ _=>(pg_name (i:=0) (by decide +kernel:(["room","begun"]:List PySem.Str).Nodup) rfl (Or.inl rfl))) (fun _ _ _ _=>pifs_nil) (fun _ _ _ _=>(pe_op op_cat' (pv 1) (pe_lst' (pa_cons (pv 0) pa_nil))))) pa_nil)))))
      (pss_one (ps_set (i:=1) sc_all_lists.nd rfl (Or.inl rfl) (pv 3))))))
      (pss_one (ps_ret (pv 1))))),?_⟩
    obtain ⟨ws,hw,hR⟩:=id hM
    have lw:ws.length=L.length:=by rw [hR.1,List.length_map]
    walk_at "go"
    refine fun p0 H1 n1=>?_
    refine ⟨len_small (by simp),fun pk H2 n2=>?_⟩
    have S2:Same H H2:=n1.same.trans n2.same
    walk_at "go"
    refine ⟨⟨_,SqL.of (S2 _ _ hw)⟩,?_⟩
    refine for_list (xs:=ws.map V.ref) (fun n σ H' => ∃ (pk:Addr) (o2 o3 o4:Option V),σ=[some (.ref lv),some (.ref pk),o2,o3,o4]∧Same H H'∧H pk=none∧MatF H H' pk ((prodL (L.take n)).map wI)) ⟨pk,none,none,none,rfl,S2,n1.same.free n2.none,[p0],n2.at_,⟨rfl,fun i a row z1 z2=>?_⟩,fun a ha=>?_⟩ (fun i σ H' _ ⟨_,_,_,_,_,h,_⟩=>SqL.of (h _ _ hw)) ?_ ?_
    · have hi:i=0:=by have:=(List.getElem?_eq_some_iff.mp z1).1; simp at this; omega
      subst hi
      simp at z1
      simp [prodL,wI] at z2
      subst z1 z2
      exact n2.same _ _ n1.at_
    · have:a=p0:=by simpa using ha
      rw [this]
      exact n1.none
    · rintro n y σ H3 hy ⟨pk,o2,o3,o4,rfl,s3,fpk,hM3⟩
      obtain ⟨ra,hra,rfl⟩:=ref_at hy
      have hn:n < L.length:=by rw [← lw]; exact (List.getElem?_eq_some_iff.mp hra).1
      have hrv:H ra=some (.lst ((wI L[n]).map V.int)):=hR.2 n ra _ hra (by simp [hn])
      have hrl:=hrow _ (List.getElem_mem hn)
      have htn:L.take (n + 1)=L.take n ++ [L[n]]:=by rw [List.take_succ]; simp [hn]
      have hz1:=hsz n
      have hz2:=hsz (n + 1)
      rw [htn,prodL_snoc,ext_flat_len] at hz2
      rw [htn,prodL_snoc]
      generalize L[n]=rooms at *
      have hvl:∀ v∈prodL (L.take n),v.length≤10:=fun v hv=>by have:=prodL_mem hv; rw [List.length_take] at this; omega
      generalize prodL (L.take n)=al at *
      obtain ⟨ps,hp3,hR3,fp3⟩:=id hM3
      have hpl:ps.length=al.length:=by rw [hR3.1,List.length_map]
      walk_at "go"
      refine fun l4 H4 n4=>?_
      have hp4:=n4.same _ _ hp3
      have S4:Same H H4:=s3.trans n4.same
      have npl:pk≠l4:=ne_of_none hp3 n4.none
      walk_at "go"
      refine ⟨⟨_,SqL.of hp4⟩,?_⟩
      refine for_list (xs:=ps.map V.ref) (fun j σ H' => ∃ (o4:Option V) (qs:List Addr),σ=[some (.ref lv),some (.ref pk),some (.ref ra),some (.ref l4),o4]∧Same H3 H'∧H' l4=some (.lst (qs.map V.ref))∧Rows H' qs (((al.take j).flatMap (extL rooms)).map wI)∧∀ a∈qs,H3 a=none∧a≠l4)
        ⟨_,[],rfl,n4.same,n4.at_,⟨rfl,fun i a row z=>by simp at z⟩,fun a ha=>by cases ha⟩ (fun i σ H' _ ⟨_,_,_,h,_⟩=>SqL.of (h _ _ hp3)) ?_ ?_
      · rintro j y σ H5 hy ⟨o4',qs,rfl,s5,hq5,hR5,fq5⟩
        obtain ⟨pa,hpa,rfl⟩:=ref_at hy
        have hj:j < al.length:=by rw [← hpl]; exact (List.getElem?_eq_some_iff.mp hpa).1
        have hv:al[j]? = some al[j]:=by simp [hj]
        have hpv:H5 pa=some (.lst ((wI al[j]).map V.int)):=s5 _ _ (hR3.2 j pa _ hpa (by rw [List.getElem?_map,hv]; rfl))
        have htk:al.take (j + 1)=al.take j ++ [al[j]]:=by rw [List.take_succ,hv]; rfl
        have hfl:=ext_flat_len rooms (al.take j)
        rw [List.length_take,Nat.min_eq_left (by omega)] at hfl
        have hfl2:j * rooms.length≤1000:=Nat.le_trans (Nat.mul_le_mul_right _ (by omega)) hz2
        have hv10:=hvl _ (List.getElem_mem hj)
        generalize al[j]=v at *
        have hra5:=s5 _ _ (s3 _ _ hrv)
        walk_at "go"
        refine ⟨.inl ⟨rfl,_,SqL.of hq5⟩,?_⟩
        walk_at "go"
        refine ⟨⟨_,SqL.of hra5⟩,fun D hD=>?_⟩
        refine comp_list (fun i y H => ∃ l,y=.ref l∧l≠D∧H5 l=none∧∀ r,rooms[i]? = some r→H l=some (.lst ((wI (v ++ [r])).map V.int))) (SqL.of hra5) (by rw [sizeLine_eq,wI_len]; omega) hD (fun i y H H' k ⟨l,e,ne,nn,h⟩=>⟨l,e,ne,nn,fun r hr=>k l _ ne (h r hr)⟩) ?_ ?_
        · rintro i y H6 ys N hx s6 d6 hN
          have hi:i < rooms.length:=by
            have:=(List.getElem?_eq_some_iff.mp hx).1
            simpa [wI] using this
          have ey:y=.int ((rooms[i]:Nat):Int):=by
            simp [wI,hi] at hx
            exact hx.symm
          subst ey
          walk_at "go"
          refine fun t7 H7 n7=>?_
          refine ⟨pa,t7,_,_,rfl,rfl,n7.same _ _ (s6 _ _ hpv),n7.at_,by rw [sizeLine_eq,wI_len]; simp; omega,fun c8 H8 n8=>?_⟩
          refine hN _ _ (n7.same.trans n8.same) ⟨c8,rfl,(ne_of_none (n7.same _ _ d6) n8.none).symm,s6.free (n7.same.free n8.none),fun r hr=>?_⟩
          rw [n8.at_]
          simp [hi] at hr
          simp [wI,hr]
        · rintro ys H6 s6 d6 ly r6
          obtain ⟨es,ees,pes⟩:=refs_ex (P:=fun i l=>H5 l=none∧∀ r,rooms[i]? = some r→H6 l=some (.lst ((wI (v ++ [r])).map V.int))) (fun i y e=>by
            obtain ⟨l,h1,_,h3,h4⟩:=r6 i y e
            exact ⟨l,h1,h3,h4⟩)
          subst ees
          have hel:es.length=rooms.length:=by
            rw [List.length_map,wI_len] at ly
            exact ly
          refine ⟨l4,D,_,_,rfl,rfl,s6 _ _ hq5,d6,?_,?_⟩
          · rw [sizeLine_eq,List.length_map,List.length_map,hR5.1,List.length_map,hfl]
            omega
          have fes:∀ a∈es,H5 a=none:=fun a ha=>by
            obtain ⟨i,hi,rfl⟩:=List.getElem_of_mem ha
            exact (pes i _ (List.getElem?_eq_getElem hi)).1
          refine ⟨_,qs ++ es,rfl,fun c o e=>?_,?_,?_,fun a ha=>?_⟩
          · rw [upd_ne (ne_of_none e n4.none)]
            exact s6 _ _ (s5 _ _ e)
          · rw [upd_same]
            simp
          · rw [htk,List.flatMap_append,List.map_append]
            refine Rows.app ⟨hR5.1,fun i a row h1 h2=>?_⟩ ⟨by simp [hel,extL],fun i a row z1 z2=>?_⟩
            · rw [upd_ne (fq5 a (List.mem_of_getElem? h1)).2]
              exact s6 _ _ (hR5.2 i a row h1 h2)
            · have hi:i < es.length:=(List.getElem?_eq_some_iff.mp z1).1
              have hi2:i < rooms.length:=by omega
              rw [upd_ne (ne_of_none hq5 (fes a (List.mem_of_getElem? z1))).symm]
              rw [(pes i a z1).2 _ (List.getElem?_eq_getElem hi2)]
              rw [List.flatMap_singleton] at z2
              unfold extL at z2
              rw [List.getElem?_map,List.getElem?_map,List.getElem?_eq_getElem hi2] at z2
              have z3:=Option.some.inj z2
              rw [← z3]
          · rcases List.mem_append.mp ha with z | z
            · exact fq5 a z
            · exact ⟨s5.free (fes a z),(ne_of_none hq5 (fes a z)).symm⟩
      · rintro σ H5 ⟨o4',qs,rfl,s5,hq5,hR5,fq5⟩
        rw [List.length_map,hpl,List.take_length] at hR5
        walk_at "go"
        exact ⟨l4,_,_,_,rfl,s3.trans s5,s3.free n4.none,qs,hq5,hR5,fun a ha=>s3.free (fq5 a ha).1⟩
    rintro σ H3 ⟨pk,o2,o3,o4,rfl,s3,fpk,hM3⟩
    rw [List.length_map,lw,List.take_length] at hM3
    walk_at "go"
    exact q pk H3 s3 fpk hM3
theorem D_isway {C:Addr} (T:Txt mg) (HC:HCls K mg C) (S:Src K mg "is_way" "is_way" s_is_way) (Dlying:Def P w K mg base 2 "lying" ["house","way"] (sp_lying K C)) (Mpeople:MDef P w K mg base 1 C "people" ["self"] (sp_people C)) (Mrooms:MDef P w K mg base 1 C "rooms" ["self"] (sp_rooms C)):Def P w K mg base 3 "is_way" ["house","way"] (sp_isway K C):=by
  refine S.mk' sc_is_way (fun vs H Q E h=>?_) (fun _ _ _ _ _ _ us hl=>match us,hl with | [_,_],_=>rfl) (fun f cdv A outer s H vs Q E hr h=>?_)
  · obtain ⟨p,a,beds,worths,rent,row,rfl,_⟩:=h
    rfl
  · obtain ⟨p,a,beds,worths,rent,row,rfl,hA,lb,lr,hS,q⟩:=h
    refine ⟨_,(pss_cons (ps_if (pt_cmpR op_ne (pe_callB (call_lenK (K:=K) rfl) (by rfl) T.len boot_len' (pa_cons (pv 1) pa_nil)) (pe_mdef0 Mpeople HC.cl (pv 0) (hr.mono (by decide))) (nomark _)) (pss_one (ps_ret pe_bl)) pss_nil)
      (pss_cons (ps_if (pt_not (pt_val (pe_callB (call_allK (K:=K) rfl rfl) (by rfl) T.all boot_all' (pa_cons (pe_comp ["room","house"] [none,some 0] rfl rfl rfl (pi_listK (K:=K) rfl (pv 1)) (fun _ _ _ _=>(pg_name (i:=0) (by decide +kernel:(["room","house"]:List PySem.Str).Nodup) rfl (Or.inl rfl))) (fun _ _ _ _=>pifs_nil) (fun _ _ _ _=>(pe_chain op_le op_lt pe_int (pv 0) (pe_mdef0 Mrooms HC.cl (pv 1) (hr.mono (by decide)))))) pa_nil)))) (pss_one (ps_ret pe_bl)) pss_nil)
      (pss_cons (ps_set (i:=2) sc_is_way.nd rfl (Or.inr rfl) (pe_def Dlying (hr.mono (by decide)) rfl (pa_cons (pv 0) (pa_cons (pv 1) pa_nil))))
      (pss_one (ps_ret (pe_callB (call_allK (K:=K) rfl rfl) (by rfl) T.all boot_all' (pa_cons (pe_comp ["room","counts","house"] [none,some 2,some 0] rfl rfl rfl (pi_range1 rfl T.range (pa_cons (pe_mdef0 Mrooms HC.cl (pv 0) (hr.mono (by decide))) pa_nil)) (fun _ _ _ _=>(pg_name (i:=0) (by decide +kernel:(["room","counts","house"]:List PySem.Str).Nodup) rfl (Or.inl rfl))) (fun _ _ _ _=>pifs_nil) (fun _ _ _ _=>(pe_cmpR op_le (pe_ix (ix_seqK (K:=K) rfl) (pv 1) (pv 0) (fun _ _=>rfl)) (pe_ix (ix_seqK (K:=K) rfl) (pe_fldK (K:=K) rfl (pv 2) rfl) (pv 0) (fun _ _=>rfl)) (nomark _)))) pa_nil))))))),?_⟩
    obtain ⟨dx,b,w,h1,h2,h3⟩:=hA.ex
    walk_at "go"
    refine ⟨a,_,rfl,.inl hS,?_⟩
    refine ⟨_,rfl,p,dx,_,rfl,h1,hf_no _ _ _ (by decide +kernel) (by decide +kernel) (by decide +kernel),p,beds,worths,rent,rfl,hA,?_⟩
    refine ⟨rfl,_,rfl,?_⟩
    refine ite2 (fun e=>?_) (fun e=>?_)
    · walk_at "go"
      have hne:row.length≠worths.length:=fun z=>by
        rw [List.length_map,z] at e
        simp at e
      have:isWayB beds worths.length row=false:=by
        unfold isWayB
        rw [decide_eq_false hne]
        rfl
      rw [← this]
      exact q _ (Same.refl _)
    have hl:row.length=worths.length:=by
      rw [List.length_map] at e
      simp at e
      omega
    walk_at "go"
    refine ⟨⟨_,hS⟩,fun D hD=>?_⟩
    refine compMapV row (fun r=>.bl (decide (0≤r∧r < (beds.length:Int)))) hS (by rw [sizeLine_eq]; omega) hD (fun r hr H1 N s1 hN=>?_) fun H1 s1 d1=>?_
    · walk_at "go"
      refine ite2 (fun e=>?_) (fun e=>?_)
      · have e':0≤r:=of_decide_eq_true e
        refine ⟨_,rfl,p,dx,_,rfl,s1 _ _ h1,hf_no _ _ _ (by decide +kernel) (by decide +kernel) (by decide +kernel),p,beds,worths,rent,rfl,hA.same s1,?_⟩
        walk_at "go"
        have:decide (r < (beds.length:Int))=decide (0≤r∧r < (beds.length:Int)):=by simp [e']
        show N (.bl (decide (r < (beds.length:Int)))) H1
        rw [this]
        exact hN _ (Same.refl _)
      · have e':¬ 0≤r:=fun z=>e (decide_eq_true z)
        have:decide (0≤r∧r < (beds.length:Int))=false:=by simp [e']
        rw [← this]
        exact hN _ (Same.refl _)
    refine ⟨D,row.map fun r=>decide (0≤r∧r < (beds.length:Int)),rfl,SqL.of (by rw [d1,List.map_map]; rfl),?_⟩
    walk_at "go"
    refine ite2 (fun e=>?_) (fun e=>?_)
    · walk_at "go"
      have:isWayB beds worths.length row=false:=by
        unfold isWayB
        have e2:row.all (fun r=>decide (0≤r∧r < (beds.length:Int)))=false:=by
          simpa [List.all_map] using e
        rw [e2]
        simp
      rw [← this]
      exact q _ s1
    have hall:row.all (fun r=>decide (0≤r∧r < (beds.length:Int)))=true:=by
      simpa [List.all_map] using e
    have hA1:=hA.same s1
    refine ⟨_,rfl,_,rfl,p,a,beds,worths,rent,row,rfl,hA1,lb,s1.seq hS,fun l H2 n2=>?_⟩
    have hA2:=hA1.same n2.same
    have h12:=n2.same _ _ (s1 _ _ h1)
    have h22:=n2.same _ _ (s1 _ _ h2)
    refine ⟨_,rfl,p,dx,_,rfl,h12,hf_no _ _ _ (by decide +kernel) (by decide +kernel) (by decide +kernel),p,beds,worths,rent,rfl,hA2,?_⟩
    refine ⟨_,rfl,by omega,by omega,fun D2 hD2=>?_⟩
    rw [Int.toNat_natCast]
    refine compRangeV (fun r=>.bl (decide (((row.count (r:Int):Nat):Int)≤beds.getD r 0))) (by rw [sizeLine_eq]; omega) hD2 (fun i hi H3 N s3 hN=>?_) fun H3 s3 d3=>?_
    · have g1:((lyingL beds.length row).map V.int)[i]? = some (.int ((row.count (i:Int):Nat):Int)):=by simp [lyingL,hi]
      have g2:(beds.map V.int)[i]? = some (.int (beds.getD i 0)):=by simp [hi]
      walk_at "go"
      refine ixL (SqL.of (s3 _ _ n2.at_)) (atI_int i (by omega) g1) ?_
      refine ⟨_,rfl,p,C,dx,_,_,rfl,s3 _ _ h12,HC.cl,HC.nB,hf_beds _ _ _,_,rfl,?_⟩
      refine ixL (SqL.of (s3 _ _ h22)) (atI_int i (by omega) g2) ?_
      walk_at "go"
      exact hN _ (Same.refl _)
    · refine ⟨D2,(List.range beds.length).map fun (r:Nat)=>decide (((row.count (r:Int):Nat):Int)≤beds.getD r 0),rfl,SqL.of (by rw [d3,List.map_map]; rfl),?_⟩
      have:isWayB beds worths.length row=((List.range beds.length).map fun (r:Nat)=>decide (((row.count (r:Int):Nat):Int)≤beds.getD r 0)).all id:=by
        unfold isWayB
        rw [hall,decide_eq_true hl,List.all_map]
        rfl
      rw [← this]
      exact q _ ((s1.trans n2.same).trans s3)
theorem D_allways {CH Px Py eM:Addr} (T:Txt mg) (HC:HCls K mg CH) (HE:ErrM K mg eM) (S:Src K mg "all_ways" "all_ways" s_all_ways) (Dlevel_rooms:Def P w K mg base 12 "level_rooms" ["house"] (sp_level CH Px lamPos "bring_in.<locals>.<lambda>" Py lamPos2 "best_room.<locals>.<lambda>")) (Dproduct:Def P w K mg base 1 "product" ["numbers"] sp_product) (Dall_lists:Def P w K mg base 1 "all_lists" ["level"] sp_alllists) (Dis_way:Def P w K mg base 3 "is_way" ["house","way"] (sp_isway K CH)) (Dworth_of:Def P w K mg base 2 "worth_of" ["house","way"] (sp_worthof K CH)):DefX P w K mg base 13 "all_ways" ["house"] (sp_allways CH eM Px lamPos "bring_in.<locals>.<lambda>" Py lamPos2 "best_room.<locals>.<lambda>"):=by
  refine S.mkX sc_all_ways (fun vs H Q E h=>?_) (fun _ _ _ _ _ _ us hl=>match us,hl with | [_],_=>rfl) (fun f cdv A outer s H vs Q E hr h=>?_)
  · obtain ⟨x,beds,worths,rent,rfl,_⟩:=h
    rfl
  · obtain ⟨x,beds,worths,rent,rfl,hA,HG,hL,hL2,hre,q⟩:=h
    refine ⟨_,(pss_cons (PS.nox (ps_set (i:=1) sc_all_ways.nd rfl (Or.inl rfl) (pe_def Dlevel_rooms (hr.mono (by decide)) rfl (pa_cons (pv 0) pa_nil))))
      (pss_cons (ps_if (PT.nox (pt_cmpR op_gt (pe_def Dproduct (hr.mono (by decide)) rfl (pa_cons (pe_comp ["rooms"] [none] rfl rfl rfl (pi_listK (K:=K) rfl (pv 1)) (fun _ _ _ _=>(pg_name (i:=0) (by decide +kernel:(["rooms"]:List PySem.Str).Nodup) rfl (Or.inl rfl))) (fun _ _ _ _=>pifs_nil) (fun _ _ _ _=>(pe_callB (call_lenK (K:=K) rfl) (by rfl) T.len boot_len' (pa_cons (pv 0) pa_nil)))) pa_nil)) (pe_gint rfl T.MOST_LISTS) (nomark _))) (pss_one (ps_raise throws_def rfl rfl HE.mTooMany HE.ok.ex (pa_cons pe_str pa_nil))) pss_nil)
      (PSs.nox (pss_cons (ps_setC (i:=2) sc_all_ways.nd rfl (Or.inl rfl) ["rooms","house"] [none,some 0] rfl rfl rfl (pi_listK (K:=K) rfl (pe_def Dall_lists (hr.mono (by decide)) rfl (pa_cons (pv 1) pa_nil))) (fun _ _ _ _=>(pg_name (i:=0) (by decide +kernel:(["rooms","house"]:List PySem.Str).Nodup) rfl (Or.inl rfl))) (fun _ _ _ _=>(pifs_one (pt_val (pe_def Dis_way (hr.mono (by decide)) rfl (pa_cons (pv 1) (pa_cons (pv 0) pa_nil)))))) (fun _ _ _ _=>(pv 0)))
      (pss_cons (ps_set (i:=3) sc_all_ways.nd rfl (Or.inr rfl) (pe_callB (call_maxL (K:=K) rfl rfl) (by rfl) T.max boot_max' (pa_cons (pe_comp ["way","house"] [none,some 0] rfl rfl rfl (pi_listK (K:=K) rfl (pv 2)) (fun _ _ _ _=>(pg_name (i:=0) (by decide +kernel:(["way","house"]:List PySem.Str).Nodup) rfl (Or.inl rfl))) (fun _ _ _ _=>pifs_nil) (fun _ _ _ _=>(pe_def Dworth_of (hr.mono (by decide)) rfl (pa_cons (pv 1) (pa_cons (pv 0) pa_nil))))) pa_nil)))
      (pss_one (ps_ret (pe_comp ["way","house","most"] [none,some 0,some 3] rfl rfl rfl (pi_listK (K:=K) rfl (pv 2)) (fun _ _ _ _=>(pg_name (i:=0) (by decide +kernel:(["way","house","most"]:List PySem.Str).Nodup) rfl (Or.inl rfl))) (fun _ _ _ _=>(pifs_one (pt_cmpR op_eq (pe_def Dworth_of (hr.mono (by decide)) rfl (pa_cons (pv 1) (pa_cons (pv 0) pa_nil))) (pv 2) (nomark _)))) (fun _ _ _ _=>(pv 0)))))))))),?_⟩
    have lb:=HG.bok.b1
    have lw:=HG.bok.w1
    have hb0:∀ b∈beds,0≤b:=fun b hb=>by have:=HG.b1 b hb; omega
    walk_at "go"
    refine ⟨x,beds,worths,rent,rfl,hA,HG,hL,hL2,hre,fun lv rows H1 s1 hL1 hL21 told flv hM1=>?_⟩
    rw [levelM_wI] at hM1
    have hA1:=hA.sameB s1
    obtain ⟨way,m,bst⟩:=id told
    have ok:=bst.ok
    have fit:=bst.fit
    have opt:=bst.opt
    have ln:=ok.len
    have hlv:∀ v:List Nat,v.length=worths.length→Fit (bF beds) v→wsum (wF worths) v=wsum (wF worths) way→∀ i,i < worths.length→lvlB (worths.length:Int) beds.length worths rows i (v.getD i 0)=true:=fun v h1 h2 h3 i hi=>told.lvl HG.w1 ok fit opt h1 h2 h3 hi
    have hq:=fun H' a b c=>q rows H' a b c told
    have hpl:=prodL_lvl beds.length (lvlB (worths.length:Int) beds.length worths rows) worths.length
    have hbest:=lvlL_best (M:=wsum (wF worths) way) hlv
    rw [← bestP_eq ln fit opt] at hbest
    have lLN:(lvlN worths.length beds.length (lvlB (worths.length:Int) beds.length worths rows)).length=worths.length:=by simp [lvlN]
    have hrow:∀ row∈lvlN worths.length beds.length (lvlB (worths.length:Int) beds.length worths rows),row.length≤10:=fun row hr=>by
      obtain ⟨i,hi,rfl⟩:=List.mem_map.mp hr
      exact Nat.le_trans (List.length_filter_le _ _) (by simpa using lb)
    have hrow1:∀ row∈lvlN worths.length beds.length (lvlB (worths.length:Int) beds.length worths rows),1≤row.length:=fun row hr=>by
      obtain ⟨i,hi,rfl⟩:=List.mem_map.mp hr
      have hi2:=List.mem_range.mp hi
      exact List.length_pos_of_mem (List.mem_filter.mpr ⟨List.mem_range.mpr (ok.at_ hi2).2,hlv way ln fit rfl i hi2⟩)
    have hmem:∀ v∈prodL (lvlN worths.length beds.length (lvlB (worths.length:Int) beds.length worths rows)),v.length=worths.length∧∀ r∈v,r < beds.length:=fun v hv=>by
      rw [hpl] at hv
      exact full_mem hv
    have hwin:way∈prodL (lvlN worths.length beds.length (lvlB (worths.length:Int) beds.length worths rows)):=by
      rw [hpl,lvlL_eq]
      refine List.mem_filter.mpr ⟨full_all ln (fit_lt fit),?_⟩
      unfold lvlP
      rw [List.all_eq_true]
      exact fun i hi=>hlv way ln fit rfl i (by have:=List.mem_range.mp hi; omega)
    rw [← hpl] at hbest
    generalize lvlN worths.length beds.length (lvlB (worths.length:Int) beds.length worths rows)=LN at *
    obtain ⟨ws,hw,hR⟩:=id hM1
    have lws:ws.length=LN.length:=by rw [hR.1,List.length_map]
    walk_at "go"
    refine ⟨⟨_,SqL.of hw⟩,fun D hD=>?_⟩
    refine comp_list (fun j y _=>y=.int (((LN.map List.length).getD j 0:Nat):Int)) (SqL.of hw) (by rw [sizeLine_eq,List.length_map]; omega) hD (fun _ _ _ _ _ h=>h) ?_ ?_
    · rintro j y H2 ys N hy s2 d2 hN
      obtain ⟨ra,hra,rfl⟩:=ref_at hy
      have hj:j < LN.length:=by rw [← lws]; exact (List.getElem?_eq_some_iff.mp hra).1
      have hrv:=s2 _ _ (hR.2 j ra _ hra (by rw [List.getElem?_map,List.getElem?_eq_getElem hj]; rfl))
      walk_at "go"
      refine ⟨ra,_,rfl,.inl (SqL.of hrv),?_⟩
      rw [wI_len]
      exact hN _ _ (Same.refl _) (by simp [List.getD,hj])
    rintro ys H2 s2 d2 ly r2
    have ey:ys=(wI (LN.map List.length)).map V.int:=ints_of (by rw [ly]; simp [wI,lws]) fun i y e=>by
      have hi:i < LN.length:=by have:=(List.getElem?_eq_some_iff.mp e).1; rw [ly,List.length_map] at this; omega
      exact ⟨(((LN.map List.length).getD i 0:Nat):Int),by simp [wI,List.getD,hi],r2 i y e⟩
    subst ey
    refine ⟨D,LN.map List.length,rfl,d2,by rw [List.length_map]; omega,fun k hk=>?_,?_⟩
    · obtain ⟨row,hr,rfl⟩:=List.mem_map.mp hk
      exact hrow row hr
    rw [← lenP_prod]
    walk_at "go"
    have S2:SameB H H2:=s1.trans s2.b
    by_cases hlt:200 < lenP LN
    · refine iteTr (decide_eq_true (by omega)) ?_
      exact ⟨by decide,(hq H2 S2 (hL1.same s2) (hL21.same s2)).2 hlt⟩
    refine iteE (decide_eq_false (by omega)) ?_
    walk_at "go"
    refine ⟨lv,LN,rfl,hM1.same s2,by omega,hrow,fun j=>?_,fun la H3 s3 fla hMF=>?_⟩
    · rw [prodL_len]
      have:=lenP_take hrow1 j
      omega
    have hal:(prodL LN).length≤200:=by rw [prodL_len]; omega
    generalize prodL LN=al at *
    obtain ⟨ps,hp3,hR3,fp3⟩:=hMF
    have lps:ps.length=al.length:=by rw [hR3.1,List.length_map]
    have hA3:=(hA1.same s2).same s3
    refine ⟨la,rfl,⟨_,SqL.of hp3⟩,fun D3 hD3=>?_⟩
    refine compIf_listN (fun i=>fitsB beds (al.getD i [])) (fun i=>.ref (ps.getD i la)) (SqL.of hp3) (by rw [sizeLine_eq,List.length_map]; omega) hD3 ?_ ?_ ?_
    · rintro i y H4 N hy s4 hN
      obtain ⟨pa,hpa,rfl⟩:=ref_at hy
      have hi:i < al.length:=by rw [← lps]; exact (List.getElem?_eq_some_iff.mp hpa).1
      obtain ⟨hvl,hvr⟩:=hmem _ (List.getElem_mem hi)
      have hpv:=s4 _ _ (hR3.2 i pa _ hpa (by rw [List.getElem?_map,List.getElem?_eq_getElem hi]; rfl))
      rw [getD_get _ _ hi] at hN
      generalize al[i]=v at *
      walk_at "go"
      refine ⟨x,pa,beds,worths,rent,wI v,rfl,hA3.same s4,by omega,by simp [wI]; omega,SqL.of hpv,fun H5 s5=>?_⟩
      rw [isWay_fits hb0 hvl hvr]
      walk_at "go"
      exact hN _ s5
    · rintro i y H4 N hy hp s4 hN
      obtain ⟨pa,hpa,rfl⟩:=ref_at hy
      have e:ps.getD i la=pa:=by simp [List.getD,hpa]
      rw [e] at hN
      walk_at "go"
      exact hN _ (Same.refl _)
    rintro H4 s4 d4
    have hRW:=(pick_rows hR3 (fitsB beds) la).same s4
    have hWm:∀ a∈((List.range ps.length).filter fun i=>fitsB beds (al.getD i [])).map (fun i=>ps.getD i la),a∈ps:=fun a ha=>pick_mem ha
    rw [List.length_map] at d4
    have d4':H4 D3=some (.lst ((((List.range ps.length).filter fun i=>fitsB beds (al.getD i [])).map fun i=>ps.getD i la).map V.ref)):=by rw [d4,List.map_map]; rfl
    clear d4
    generalize ((List.range ps.length).filter fun i=>fitsB beds (al.getD i [])).map (fun i=>ps.getD i la)=wls at *
    have lwls:wls.length=(al.filter (fitsB beds)).length:=by rw [hRW.1,List.length_map]
    have hwl:∀ v∈al.filter (fitsB beds),v.length=worths.length∧(∀ r∈v,r < beds.length)∧Fit (bF beds) v:=fun v hv=>by
      obtain ⟨h1,h2⟩:=List.mem_filter.mp hv
      exact ⟨(hmem v h1).1,(hmem v h1).2,(fitsB_iff (hmem v h1).2).mp h2⟩
    have hwin2:way∈al.filter (fitsB beds):=List.mem_filter.mpr ⟨hwin,(fitsB_iff (fit_lt fit)).mpr fit⟩
    have lwl2:(al.filter (fitsB beds)).length≤200:=Nat.le_trans (List.length_filter_le _ _) hal
    generalize al.filter (fitsB beds)=wl at *
    have hmx:∀ v∈wl,wsum (wF worths) v≤wsum (wF worths) way:=fun v hv=>opt v (by have:=(hwl v hv).1; omega) (hwl v hv).2.2
    have hA4:=hA3.same s4
    walk_at "go"
    refine ⟨⟨_,SqL.of d4'⟩,fun D5 hD5=>?_⟩
    refine comp_list (fun j y _ => ∃ v,wl[j]? = some v∧y=.int (wsum (wF worths) v)) (SqL.of d4') (by rw [sizeLine_eq,List.length_map]; omega) hD5 (fun _ _ _ _ _ h=>h) ?_ ?_
    · rintro j y H5 ys N hy s5 d5 hN
      obtain ⟨pa,hpa,rfl⟩:=ref_at hy
      have hj:j < wl.length:=by rw [← lwls]; exact (List.getElem?_eq_some_iff.mp hpa).1
      obtain ⟨hvl,hvr,_⟩:=hwl _ (List.getElem_mem hj)
      have hpv:=s5 _ _ (hRW.2 j pa _ hpa (by rw [List.getElem?_map,List.getElem?_eq_getElem hj]; rfl))
      have hv:wl[j]? = some wl[j]:=List.getElem?_eq_getElem hj
      generalize wl[j]=v at *
      walk_at "go"
      refine ⟨x,pa,beds,worths,rent,wI v,rfl,hA4.same s5,by omega,SqL.of hpv,by simp [wI,hvl],fun row hr z hz=>?_,fun H6 s6=>?_⟩
      · obtain ⟨r,hr',rfl⟩:=List.mem_map.mp hz
        rw [HG.bok.rows row hr]
        have:=hvr r hr'
        omega
      rw [worthL_wsum hvl]
      exact hN _ _ s6 ⟨v,hv,rfl⟩
    rintro ys H5 s5 d5 ly r5
    have ey:ys=(wl.map fun v=>wsum (wF worths) v).map V.int:=ints_of (by rw [ly,List.length_map,List.length_map,lwls]) fun i y e=>by
      obtain ⟨v,h1,h2⟩:=r5 i y e
      exact ⟨_,by rw [List.getElem?_map,h1]; rfl,h2⟩
    subst ey
    walk_at "go"
    refine ⟨D5,_,rfl,SqL.of d5,by rw [List.length_map]; exact List.length_pos_of_mem hwin2,fun z hz hmax=>?_⟩
    have ez:z=wsum (wF worths) way:=by
      obtain ⟨u,hu,rfl⟩:=List.mem_map.mp hz
      have h1:=hmx u hu
      have h2:=hmax _ (List.mem_map.mpr ⟨way,hwin2,rfl⟩)
      omega
    subst ez
    have d45:=s5 _ _ d4'
    walk_at "go"
    refine ⟨⟨_,SqL.of d45⟩,fun D6 hD6=>?_⟩
    refine compIf_listN (fun i=>decide (wsum (wF worths) (wl.getD i [])=wsum (wF worths) way)) (fun i=>.ref (wls.getD i D3)) (SqL.of d45) (by rw [sizeLine_eq,List.length_map]; omega) hD6 ?_ ?_ ?_
    · rintro i y H6 N hy s6 hN
      obtain ⟨pa,hpa,rfl⟩:=ref_at hy
      have hj:i < wl.length:=by rw [← lwls]; exact (List.getElem?_eq_some_iff.mp hpa).1
      obtain ⟨hvl,hvr,_⟩:=hwl _ (List.getElem_mem hj)
      have hpv:=s6 _ _ (s5 _ _ (hRW.2 i pa _ hpa (by rw [List.getElem?_map,List.getElem?_eq_getElem hj]; rfl)))
      rw [getD_get _ _ hj] at hN
      generalize wl[i]=v at *
      walk_at "go"
      refine ⟨x,pa,beds,worths,rent,wI v,rfl,(hA4.same s5).same s6,by omega,SqL.of hpv,by simp [wI,hvl],fun row hr z hz=>?_,fun H7 s7=>?_⟩
      · obtain ⟨r,hr',rfl⟩:=List.mem_map.mp hz
        rw [HG.bok.rows row hr]
        have:=hvr r hr'
        omega
      rw [worthL_wsum hvl]
      walk_at "go"
      have e:decide (V.int (wsum (wF worths) v)=V.int (wsum (wF worths) way))=decide (wsum (wF worths) v=wsum (wF worths) way):=by
        rw [Bool.eq_iff_iff,decide_eq_true_eq,decide_eq_true_eq]
        exact ⟨fun h=>V.int.inj h,fun h=>by rw [h]⟩
      rw [e]
      exact hN _ s7
    · rintro i y H6 N hy hp s6 hN
      obtain ⟨pa,hpa,rfl⟩:=ref_at hy
      have e:wls.getD i D3=pa:=by simp [List.getD,hpa]
      rw [e] at hN
      walk_at "go"
      exact hN _ (Same.refl _)
    rintro H6 s6 d6
    have hRB:=(pick_rows hRW (fun v=>decide (wsum (wF worths) v=wsum (wF worths) way)) D3).same (s5.trans s6)
    rw [hbest] at hRB
    have S36:Same H2 H6:=((s3.trans s4).trans (s5.trans s6))
    have S6:SameB H H6:=S2.trans S36.b
    have S5:SameB H H5:=S2.trans ((s3.trans s4).trans s5).b
    refine (hq H6 S6 ((hL1.same s2).same S36) ((hL21.same s2).same S36)).1 (by omega) D6 (S5.th _ hD6) ⟨_,by rw [d6,List.length_map,List.map_map]; rfl,hRB,fun a ha=>S2.th _ (fp3 a (hWm a (pick_mem ha)))⟩
theorem D_broad75 (T:Txt mg) (S:Src K mg "_law_broad" "_law_broad" s__law_broad) (D_law_mixed:Def P w K mg base 1 "_law_mixed" ["_law_cell","_law_k"] sp_mixed) (D_law_cell_at:Def P w K mg base 1 "_law_cell_at" ["_law_script","_law_k"] (sp_cell K)):Def P w K mg base 2 "_law_broad" ["_law_script"] (sp_broad K):=by
  refine S.mk' sc__law_broad (fun vs H Q E h=>?_) (fun _ _ _ _ _ _ us hl=>match us,hl with | [_],_=>rfl) (fun f cdv A outer s H vs Q E hr h=>?_)
  · obtain ⟨a,ns,rfl,_⟩:=h
    rfl
  · obtain ⟨a,ns,rfl,hS,q⟩:=h
    refine ⟨_,(pss_cons (ps_set (i:=1) sc__law_broad.nd rfl (Or.inl rfl) (pe_lst' pa_nil))
      (pss_cons (ps_for PassesOwn.never rfl (pi_range1 rfl T.range (pa_cons (pe_op op_add pe_int (pe_op op_mod (pe_def D_law_mixed (hr.mono (by decide)) rfl (pa_cons (pe_def D_law_cell_at (hr.mono (by decide)) rfl (pa_cons (pv 0) (pa_cons pe_int pa_nil))) (pa_cons pe_int pa_nil))) pe_int)) pa_nil)) (pg_name (i:=2) sc__law_broad.nd rfl (Or.inl rfl))
      (pss_cons (ps_set (i:=3) sc__law_broad.nd rfl (Or.inl rfl) (pe_def D_law_mixed (hr.mono (by decide)) rfl (pa_cons (pe_def D_law_cell_at (hr.mono (by decide)) rfl (pa_cons (pv 0) (pa_cons (pe_op op_add pe_int (pv 2)) pa_nil))) (pa_cons (pe_op op_add pe_int (pv 2)) pa_nil))))
      (pss_cons (ps_set (i:=4) sc__law_broad.nd rfl (Or.inl rfl) (pe_op op_sub (pe_op op_mod (pe_op op_fdivW (pv 3) pe_int) pe_int) pe_int))
      (pss_one (ps_expr (pe_bmK (K:=K) rfl PySem.F.plainAttrs_list PySem.F.slot_list_append PySem.F.type_list_append mt_append (pv 1) (pa_cons (pe_lst' (pa_cons (pe_op op_add (pv 4) (pe_op op_mulW (pe_op op_mulW pe_int (pv 2)) (pe_callTy call_int1 (by rfl) T.int boot_int' (pa_cons (pe_cmpR op_gt (pv 2) pe_int (nomark _)) pa_nil)))) (pa_cons (pe_op op_add (pv 4) (pe_callTy call_int1 (by rfl) T.int boot_int' (pa_cons (pe_and (pe_cmpR op_eq (pe_op op_mod (pv 3) pe_int) pe_int (nomark _)) (pe_one (pe_cmpR op_lt (pv 2) pe_int (nomark _)))) pa_nil))) pa_nil))) pa_nil)))))))
      (pss_one (ps_ret (pe_tup' (pa_cons (pe_lst' (pa_cons pe_int (pa_cons pe_int pa_nil))) (pa_cons (pv 1) (pa_cons (pe_op op_mod (pe_def D_law_mixed (hr.mono (by decide)) rfl (pa_cons (pe_def D_law_cell_at (hr.mono (by decide)) rfl (pa_cons (pv 0) (pa_cons pe_int pa_nil))) (pa_cons pe_int pa_nil))) pe_int) pa_nil)))))))),?_⟩
    walk_at "go"
    refine fun l H1 n1=>?_
    walk_at "go"
    refine ⟨a,ns,_,rfl,n1.same.seq hS,by decide,fun z0=>?_⟩
    walk_at "go"
    refine ⟨z0,_,rfl,by decide,by decide,fun m m0 m1=>?_⟩
    have e1:=Int.emod_nonneg m (show (4:Int)≠0 by decide)
    have e2:=Int.emod_lt_of_pos m (show (0:Int) < 4 by decide)
    refine ⟨_,_,rfl,rfl,by show (0:Int) < 4; decide,_,_,rfl,rfl,_,rfl,by omega,by omega,?_⟩
    refine for_range (fun i σ H' => ∃ (o2 o3 o4:Option V) (ws:List Addr) (rows:List (List Int)),σ=[some (.ref a),some (.ref l),o2,o3,o4]∧Same H H'∧H' l=some (.lst (ws.map V.ref))∧Rows H' ws rows∧rows.length=i∧(∀ a∈ws,a≠l)∧(∀ row∈rows,row.length=2∧∀ x∈row,-(10 ^ 40) < x∧x < 10 ^ 40)) ⟨_,_,_,[],[],rfl,n1.same,n1.at_,⟨rfl,fun i a row z=>by simp at z⟩,rfl,(fun a ha=>by cases ha),(fun row hr=>by cases hr)⟩ ?_ ?_
    · rintro i σ H2 hi ⟨o2,o3,o4,ws,rows,rfl,s2,hl,hR,lr,nw,hb⟩
      have hi2:i < 8:=by omega
      rw [show (0:Int) + (i:Int)=(i:Int) by omega]
      walk_at "go"
      refine ⟨a,ns,_,rfl,s2.seq hS,by omega,fun z1=>?_⟩
      walk_at "go"
      refine ⟨z1,_,rfl,by omega,by omega,fun m2 p0 p1=>?_⟩
      have g1:=Int.emod_nonneg (m2 / 4) (show (2001:Int)≠0 by decide)
      have g2:=Int.emod_lt_of_pos (m2 / 4) (show (0:Int) < 2001 by decide)
      walk_at "go"
      refine ⟨.inl ⟨rfl,_,SqL.of hl⟩,?_⟩
      walk_at "go"
      refine .inr ⟨_,rfl,?_⟩
      dsimp only
      generalize hc:(if decide (5 < (i:Int))=true then (1:Int) else 0)=cc at *
      have hc2:0≤cc∧cc≤1:=by rw [← hc]; split <;> omega
      have hcm:0≤100 * (i:Int) * cc∧100 * (i:Int) * cc≤800:=by
        have e:cc=0∨cc=1:=by omega
        rcases e with rfl | rfl <;> omega
      refine ⟨_,_,rfl,rfl,⟨by omega,by omega⟩,?_⟩
      dsimp only
      generalize 100 * (i:Int) * cc=cm at *
      walk_at "go"
      have m9:=Int.emod_nonneg (m2 / 4) (show (2001:Int)≠0 by decide)
      refine ite2 (fun _=>?_) (fun _=>?_)
      all_goals
        walk_at "go"
        refine .inr ⟨_,rfl,?_⟩
        walk_at "go"
        refine fun t H3 n3=>?_
        have ntl:t≠l:=(ne_of_none hl n3.none).symm
        obtain ⟨x1,x2,ht3,bx1,bx2⟩:∃ x1 x2:Int,H3 t=some (.lst ([x1,x2].map V.int))∧(-(10 ^ 40) < x1∧x1 < 10 ^ 40)∧(-(10 ^ 40) < x2∧x2 < 10 ^ 40):=⟨_,_,n3.at_,by omega,by first | (split <;> omega) | (simp; omega)⟩
        refine ⟨l,_,_,rfl,rfl,n3.same _ _ hl,by rw [sizeLine_eq,List.length_map,hR.1]; omega,?_⟩
        refine ⟨_,_,_,ws ++ [t],rows ++ [[x1,x2]],rfl,fun c o e=>?_,by rw [upd_same]; simp,?_,by simp [lr],fun b hb'=>?_,fun row hr=>?_⟩
        · rw [upd_ne (ne_of_none e n1.none)]
          exact n3.same _ _ (s2 _ _ e)
        · refine Rows.app ⟨hR.1,fun j a' row h1 h2=>?_⟩ ⟨rfl,fun j a' row z1 z2=>?_⟩
          · rw [upd_ne (nw a' (List.mem_of_getElem? h1))]
            exact n3.same _ _ (hR.2 j a' row h1 h2)
          · have hj:j=0:=by have:=(List.getElem?_eq_some_iff.mp z1).1; simp at this; omega
            subst hj
            have e1:t=a':=Option.some.inj z1
            have e2:=Option.some.inj z2
            rw [← e1,← e2,upd_ne ntl]
            exact ht3
        · rcases List.mem_append.mp hb' with z | z
          · exact nw b z
          · have:b=t:=by simpa using z
            rw [this]
            exact ntl
        · rcases List.mem_append.mp hr with z | z
          · exact hb row z
          · rw [List.mem_singleton.mp z]
            refine ⟨rfl,fun x hx=>?_⟩
            simp at hx
            omega
    · rintro σ H2 ⟨o2,o3,o4,ws,rows,rfl,s2,hl,hR,lr,nw,hb⟩
      walk_at "go"
      refine fun b5 H5 n5=>?_
      walk_at "go"
      refine ⟨a,ns,_,rfl,(s2.trans n5.same).seq hS,by decide,fun z3=>?_⟩
      walk_at "go"
      refine ⟨z3,_,rfl,by decide,by decide,fun m3 p0 p1=>?_⟩
      have g1:=Int.emod_nonneg m3 (show (3000:Int)≠0 by decide)
      have g2:=Int.emod_lt_of_pos m3 (show (0:Int) < 3000 by decide)
      walk_at "go"
      refine fun t6 H6 n6=>?_
      exact q t6 b5 l rows _ H6 ((s2.trans n5.same).trans n6.same) n6.at_ (n6.same _ _ n5.at_) ⟨ws,n6.same _ _ (n5.same _ _ hl),(hR.same n5.same).same n6.same⟩ (by omega) (by omega) (fun row hr=>(hb row hr).1) (fun row hr=>(hb row hr).2) g1 g2
def sp_lie:Sp:=fun vs H Q _ => ∃ (a b t:Addr) (way:List Int) (wings:List Str) (as:List Addr) (ps:List (Int × Int)) (p:Int × Int),vs=[.ref a,.ref b,.ref t]∧H a=some (.lst (way.map V.int))∧H b=some (.lst (wings.map V.str))∧NearOk way wings ps∧p∈ps∧H t=some (.tup [.int p.1,.int p.2])∧as=[]∧∀ H',Same H H'→Q (.bl (nearP way wings p)) H'
theorem D_lie (T:Txt mg) (S:Src K mg "lie_near" "lie_near" s_lie_near):Def P w K mg base 1 "lie_near" ["way","wings","pair"] sp_lie:=by
  refine S.mk' sc_lie_near (fun vs H Q E h=>?_) (fun _ _ _ _ _ _ us hl=>match us,hl with | [_,_,_],_=>rfl) (fun f cdv A outer s H vs Q E hr h=>?_)
  · obtain ⟨a,b,t,way,wings,as,ps,p,rfl,_⟩:=h
    rfl
  · obtain ⟨a,b,t,way,wings,as,ps,p,rfl,ha,hb,ok,hp,ht,_,q⟩:=h
    refine ⟨_,(pss_one (ps_ret (pe_cmpR op_eq (pe_ix (ix_seqK (K:=K) rfl) (pv 1) (pe_ix (ix_seqK (K:=K) rfl) (pv 0) (pe_ix (ix_seqK (K:=K) rfl) (pv 2) pe_int (fun _ _=>rfl)) (fun _ _=>rfl)) (fun _ _=>rfl)) (pe_ix (ix_seqK (K:=K) rfl) (pv 1) (pe_ix (ix_seqK (K:=K) rfl) (pv 0) (pe_ix (ix_seqK (K:=K) rfl) (pv 2) pe_int (fun _ _=>rfl)) (fun _ _=>rfl)) (fun _ _=>rfl)) (nomark _)))),?_⟩
    have hpr:=ok.pr _ hp
    walk_at "go"
    refine ixT (SqT.of ht) rfl ?_
    refine ixWay ha hpr.1.1 hpr.1.2 ?_
    refine ixWing hb ok.wr hpr.1.1 hpr.1.2 ?_
    walk_at "go"
    refine ixT (SqT.of ht) rfl ?_
    refine ixWay ha hpr.2.1 hpr.2.2 ?_
    refine ixWing hb ok.wr hpr.2.1 hpr.2.2 ?_
    walk_at "go"
    exact q _ (Same.refl _)
theorem D_near (T:Txt mg) (S:Src K mg "near_count" "near_count" s_near_count) (Dlie_near:Def P w K mg base 1 "lie_near" ["way","wings","pair"] sp_lie):Def P w K mg base 2 "near_count" ["way","wings","pairs"] sp_near:=by
  refine S.mk' sc_near_count (fun vs H Q E h=>?_) (fun _ _ _ _ _ _ us hl=>match us,hl with | [_,_,_],_=>rfl) (fun f cdv A outer s H vs Q E hr h=>?_)
  · obtain ⟨a,b,c,way,wings,as,ps,rfl,_⟩:=h
    rfl
  · obtain ⟨a,b,c,way,wings,as,ps,rfl,ha,hb,hc,hp,ok,q⟩:=h
    refine ⟨_,(pss_one (ps_ret (pe_callB (call_lenK (K:=K) rfl) (by rfl) T.len boot_len' (pa_cons (pe_comp ["pair","way","wings"] [none,some 0,some 1] rfl rfl rfl (pi_listK (K:=K) rfl (pv 2)) (fun _ _ _ _=>(pg_name (i:=0) (by decide +kernel:(["pair","way","wings"]:List PySem.Str).Nodup) rfl (Or.inl rfl))) (fun _ _ _ _=>(pifs_one (pt_val (pe_def Dlie_near (hr.mono (by decide)) rfl (pa_cons (pv 1) (pa_cons (pv 2) (pa_cons (pv 0) pa_nil))))))) (fun _ _ _ _=>(pv 0))) pa_nil)))),?_⟩
    refine ⟨_,rfl,c,rfl,⟨_,SqL.of hc⟩,fun D hD=>?_⟩
    have hlen:(as.map V.ref).length=ps.length:=by rw [List.length_map,hp.1]
    refine compIf_listN (fun i=>nearP way wings (ps.getD i (0,0))) (fun i=>.ref (as.getD i 0)) (SqL.of hc) (by rw [hlen,sizeLine_eq]; have:=ok.lp; omega) hD ?_ ?_ ?_
    · rintro i x H1 N hx s1 hN
      obtain ⟨t,rfl,_,hi,e2,ht⟩:=(hp.same s1).get hx
      have hpr:=ok.pr _ (List.mem_of_getElem? e2)
      have ha1:=s1 _ _ ha
      have hb1:=s1 _ _ hb
      walk_at "go"
      refine ⟨a,b,t,way,wings,[],ps,_,rfl,ha1,hb1,ok,List.mem_of_getElem? e2,ht,rfl,fun H2 s2=>?_⟩
      walk_at "go"
      exact hN _ s2
    · rintro i x H1 N hx hpi s1 hN
      obtain ⟨t,rfl,e1,hi,e2,ht⟩:=(hp.same s1).get hx
      have e3:t=as.getD i 0:=by rw [List.getD_eq_getElem?_getD,e1]; rfl
      subst e3
      exact ⟨_,rfl,hN _ (Same.refl _)⟩
    · rintro H1 s1 d1
      refine ⟨D,_,rfl,.inl (SqL.of d1),?_⟩
      rw [List.length_map,hlen,filt_range (0,0) (nearP way wings) ps]
      exact q _ s1
theorem D_lnear (T:Txt mg) (S:Src K mg "_law_near" "_law_near" s__law_near):Def P w K mg base 1 "_law_near" ["_law_way","_law_wings_here","_law_pairs_here"] sp_near:=by
  refine S.mk' sc__law_near (fun vs H Q E h=>?_) (fun _ _ _ _ _ _ us hl=>match us,hl with | [_,_,_],_=>rfl) (fun f cdv A outer s H vs Q E hr h=>?_)
  · obtain ⟨a,b,c,way,wings,as,ps,rfl,_⟩:=h
    rfl
  · obtain ⟨a,b,c,way,wings,as,ps,rfl,ha,hb,hc,hp,ok,q⟩:=h
    refine ⟨_,(pss_cons (ps_set (i:=3) sc__law_near.nd rfl (Or.inl rfl) pe_int)
      (pss_cons (ps_for PassesOwn.never rfl (pi_listK (K:=K) rfl (pv 2)) (pg_name (i:=4) sc__law_near.nd rfl (Or.inl rfl))
      (pss_one (ps_set (i:=3) sc__law_near.nd rfl (Or.inl rfl) (pe_op op_add (pv 3) (pe_callTy call_int1 (by rfl) T.int boot_int' (pa_cons (pe_cmpR op_eq (pe_ix (ix_seqK (K:=K) rfl) (pv 1) (pe_ix (ix_seqK (K:=K) rfl) (pv 0) (pe_ix (ix_seqK (K:=K) rfl) (pv 4) pe_int (fun _ _=>rfl)) (fun _ _=>rfl)) (fun _ _=>rfl)) (pe_ix (ix_seqK (K:=K) rfl) (pv 1) (pe_ix (ix_seqK (K:=K) rfl) (pv 0) (pe_ix (ix_seqK (K:=K) rfl) (pv 4) pe_int (fun _ _=>rfl)) (fun _ _=>rfl)) (fun _ _=>rfl)) (nomark _)) pa_nil))))))
      (pss_one (ps_ret (pv 3))))),?_⟩
    refine ⟨_,rfl,c,rfl,⟨_,SqL.of hc⟩,?_⟩
    have hlen:(as.map V.ref).length=ps.length:=by rw [List.length_map,hp.1]
    refine for_list (xs:=as.map V.ref) (fun i σ H'=>H'=H∧∃ o4:Option V,σ=[some (.ref a),some (.ref b),some (.ref c),some (.int ((nearN way wings (ps.take i):Nat):Int)),o4]) ⟨rfl,none,rfl⟩ (fun i σ H' _ h=>h.1 ▸ SqL.of hc) ?_ ?_
    · rintro i x σ H1 hx ⟨rfl,o4,rfl⟩
      obtain ⟨t,rfl,_,hi,e2,ht⟩:=hp.get hx
      have hpr:=ok.pr _ (List.mem_of_getElem? e2)
      have hn:nearN way wings (ps.take i)≤1000:=by
        unfold nearN
        have:=List.length_filter_le (nearP way wings) (ps.take i)
        rw [List.length_take] at this
        have:=ok.lp
        omega
      have e3:ps.take (i + 1)=ps.take i ++ [ps.getD i (0,0)]:=by
        rw [List.take_add_one,e2]
        rfl
      walk_at "go"
      refine ixT (SqT.of ht) rfl ?_
      refine ixWay ha hpr.1.1 hpr.1.2 ?_
      refine ixWing hb ok.wr hpr.1.1 hpr.1.2 ?_
      walk_at "go"
      refine ixT (SqT.of ht) rfl ?_
      refine ixWay ha hpr.2.1 hpr.2.2 ?_
      refine ixWing hb ok.wr hpr.2.1 hpr.2.2 ?_
      refine ⟨rfl,.inr ⟨_,rfl,?_⟩⟩
      walk_at "go"
      refine ⟨some (.ref t),?_⟩
      rw [e3,near_snoc]
      cases h:nearP way wings (ps.getD i (0,0)) with
      | false =>
        have h':decide (V.str (wAt way wings (ps.getD i (0,0)).1)=V.str (wAt way wings (ps.getD i (0,0)).2))=false:=h
        rw [h']
        rfl
      | true =>
        have h':decide (V.str (wAt way wings (ps.getD i (0,0)).1)=V.str (wAt way wings (ps.getD i (0,0)).2))=true:=h
        rw [h']
        rfl
    · rintro σ H1 ⟨rfl,o4,rfl⟩
      walk_at "go"
      rw [hlen,List.take_length]
      exact q _ (Same.refl _)
theorem D_wings74 (T:Txt mg) (S:Src K mg "_law_wings" "_law_wings" s__law_wings) (D_law_mixed:Def P w K mg base 1 "_law_mixed" ["_law_cell","_law_k"] sp_mixed) (D_law_cell_at:Def P w K mg base 1 "_law_cell_at" ["_law_script","_law_k"] (sp_cell K)):Def P w K mg base 2 "_law_wings" ["_law_script","_law_rooms"] (sp_wings74 K):=by
  refine S.mk' sc__law_wings (fun vs H Q E h=>?_) (fun _ _ _ _ _ _ us hl=>match us,hl with | [_,_],_=>rfl) (fun f cdv A outer s H vs Q E hr h=>?_)
  · obtain ⟨a,ns,r,rfl,_⟩:=h
    rfl
  · obtain ⟨a,ns,r,rfl,hS,r0,r1,q⟩:=h
    refine ⟨_,(pss_cons (ps_set (i:=2) sc__law_wings.nd rfl (Or.inl rfl) pe_str)
      (pss_cons (ps_set (i:=3) sc__law_wings.nd rfl (Or.inl rfl) (pe_def D_law_mixed (hr.mono (by decide)) rfl (pa_cons (pe_def D_law_cell_at (hr.mono (by decide)) rfl (pa_cons (pv 0) (pa_cons pe_int pa_nil))) (pa_cons pe_int pa_nil))))
      (pss_cons (ps_set (i:=4) sc__law_wings.nd rfl (Or.inl rfl) (pe_op op_add pe_int (pe_op op_mod (pv 3) pe_int)))
      (pss_cons (ps_set (i:=5) sc__law_wings.nd rfl (Or.inl rfl) (pe_op op_mod (pe_op op_fdivW (pv 3) pe_int) (pv 4)))
      (pss_cons (ps_set (i:=6) sc__law_wings.nd rfl (Or.inl rfl) (pe_ix (ix_seqK (K:=K) rfl) (pv 2) (pe_op op_mod (pe_op op_fdivW (pv 3) pe_int) pe_int) (fun _ _=>rfl)))
      (pss_cons (ps_set (i:=7) sc__law_wings.nd rfl (Or.inr rfl) (pe_lst' pa_nil))
      (pss_cons (ps_for PassesOwn.never rfl (pi_range1 rfl T.range (pa_cons pe_int pa_nil)) (pg_name (i:=8) sc__law_wings.nd rfl (Or.inl rfl))
      (pss_cons (ps_set (i:=9) sc__law_wings.nd rfl (Or.inl rfl) (pe_ix (ix_seqK (K:=K) rfl) (pv 2) (pe_op op_mod (pe_op op_add (pe_op op_fdivW (pv 3) pe_int) (pv 8)) pe_int) (fun _ _=>rfl)))
      (pss_one (ps_expr (pe_bmK (K:=K) rfl PySem.F.plainAttrs_list PySem.F.slot_list_append PySem.F.type_list_append mt_append (pv 7) (pa_cons (pe_op op_add_str (pe_op op_add_str (pe_op op_mulS (pv 6) (pv 5)) (pv 9)) (pe_op op_mulS (pv 6) (pe_op op_sub (pe_op op_sub (pv 4) pe_int) (pv 5)))) pa_nil))))))
      (pss_cons (ps_set (i:=10) sc__law_wings.nd rfl (Or.inr rfl) (pe_op op_add pe_int (pe_op op_mod (pe_op op_fdivW (pv 3) pe_int) pe_int)))
      (pss_one (ps_ret (pe_comp ["_law_r","_law_many","_law_names","_law_script"] [none,some 10,some 7,some 0] rfl rfl rfl (pi_range1 rfl T.range (pa_cons (pv 1) pa_nil)) (fun _ _ _ _=>(pg_name (i:=0) (by decide +kernel:(["_law_r","_law_many","_law_names","_law_script"]:List PySem.Str).Nodup) rfl (Or.inl rfl))) (fun _ _ _ _=>pifs_nil) (fun _ _ _ _=>(pe_ix (ix_seqK (K:=K) rfl) (pv 2) (pe_op op_mod (pe_def D_law_mixed (hr.mono (by decide)) rfl (pa_cons (pe_def D_law_cell_at (hr.mono (by decide)) rfl (pa_cons (pv 3) (pa_cons (pe_op op_add pe_int (pv 0)) pa_nil))) (pa_cons (pe_op op_add pe_int (pv 0)) pa_nil))) (pv 1)) (fun _ _=>rfl)))))))))))))),?_⟩
    walk_at "go"
    refine ⟨a,ns,_,rfl,hS,by omega,fun z=>?_⟩
    walk_at "go"
    refine ⟨z,_,rfl,by omega,by omega,fun y y0 y1=>?_⟩
    walk_at "go"
    have g0:=Int.emod_nonneg (y / 64) (show (26:Int)≠0 by decide)
    have g1:=Int.emod_lt_of_pos (y / 64) (show (0:Int) < 26 by decide)
    refine ixLetter g0 g1 fun c0 hc0=>?_
    have p0:=Int.emod_nonneg (y / 8) (show 1 + y % 8≠0 by omega)
    have p1:=Int.emod_lt_of_pos (y / 8) (show 0 < 1 + y % 8 by omega)
    have y8:=Int.emod_lt_of_pos y (show (0:Int) < 8 by decide)
    have ok0:PyData.strOk ⟨#[c0]⟩=true:=strOk_of fun c hc=>by
      have:c=c0:=by simpa [cod] using hc
      omega
    walk_at "go"
    refine fun N H1 n1=>?_
    walk_at "go"
    refine for_range (fun i σ H' => ∃ (names:List Str) (o8 o9 o10:Option V),σ=[some (.ref a),some (.int r),some (.str (Str.ofString "abcdefghijklmnopqrstuvwxyz")),some (.int y),some (.int (1 + y % 8)),some (.int (y / 8 % (1 + y % 8))),some (.str ⟨#[c0]⟩),some (.ref N),o8,o9,o10]∧H' N=some (.lst (names.map V.str))∧names.length=i∧(∀ z∈names,PyData.strOk z=true)∧Same H H') ⟨[],none,none,none,rfl,n1.at_,rfl,(fun z h=>by cases h),n1.same⟩ ?_ ?_
    · rintro i σ H2 hi ⟨names,o8,o9,o10,rfl,hN,hl,hok,s2⟩
      generalize y / 8 % (1 + y % 8)=pl at *
      generalize hs:1 + y % 8=sz at *
      walk_at "go"
      refine ixLetter (Int.emod_nonneg _ (by decide)) (Int.emod_lt_of_pos _ (by decide)) fun c1 hc1=>?_
      have ok1:PyData.strOk ⟨#[c1]⟩=true:=strOk_of fun c hc=>by
        have:c=c1:=by simpa [cod] using hc
        omega
      have m1:=mul_len1 (c:=c0) (n:=pl) (by omega) (by omega)
      have m2:=mul_len1 (c:=c0) (n:=sz - 1 - pl) (by omega) (by omega)
      refine ⟨_,rfl,.inl ⟨rfl,_,SqL.of hN⟩,?_⟩
      refine ⟨_,rfl,_,rfl,_,_,rfl,rfl,m1.2,?_⟩
      refine ⟨_,rfl,_,_,rfl,rfl,by rw [sizeLine_eq]; have:=m1.1; show _ + 1≤_; omega,?_⟩
      refine ⟨_,rfl,_,rfl,_,_,rfl,rfl,_,rfl,_,_,rfl,rfl,_,_,rfl,rfl,m2.2,?_⟩
      have la:∀ x y:Str,(x ++ y).length=x.length + y.length:=fun x y=>by rw [← cod_len,cod_app,List.length_append,cod_len,cod_len]
      refine ⟨_,_,rfl,rfl,by rw [la,sizeLine_eq]; have:=m1.1; have:=m2.1; have:Str.length ⟨#[c1]⟩=1:=rfl; omega,?_⟩
      refine ⟨N,_,_,rfl,rfl,hN,by rw [sizeLine_eq]; simp; omega,?_⟩
      refine ⟨names ++ [Txt.mul ⟨#[c0]⟩ pl ++ ⟨#[c1]⟩ ++ Txt.mul ⟨#[c0]⟩ (sz - 1 - pl)],_,_,_,rfl,by rw [upd_same]; simp,by simp [hl],fun z hz=>?_,fun c u e=>?_⟩
      · rcases List.mem_append.mp hz with h | h
        · exact hok z h
        · have:z=Txt.mul ⟨#[c0]⟩ pl ++ ⟨#[c1]⟩ ++ Txt.mul ⟨#[c0]⟩ (sz - 1 - pl):=by simpa using h
          rw [this]
          exact strOk_app (strOk_app (strOk_mul ok0 _) ok1) (strOk_mul ok0 _)
      · rw [upd_ne (ne_of_none e n1.none)]
        exact s2 _ _ e
    · rintro σ H2 ⟨names,o8,o9,o10,rfl,hN,hl,hok,s2⟩
      walk_at "go"
      have b0:=Int.emod_nonneg (y / 50000) (show (3:Int)≠0 by decide)
      have b1:=Int.emod_lt_of_pos (y / 50000) (show (0:Int) < 3 by decide)
      refine fun D hD=>?_
      refine comp_range (fun i y _ => ∃ z:Str,y=.str z∧PyData.strOk z=true) (by rw [sizeLine_eq]; omega) hD (fun _ _ _ _ _ h=>h) ?_ ?_
      · rintro i H3 ys NN hi s3 d3 hNN
        walk_at "go"
        refine ⟨a,ns,_,rfl,(s2.trans s3).seq hS,by omega,fun z=>?_⟩
        walk_at "go"
        refine ⟨z,_,rfl,by omega,by omega,fun x x0 x1=>?_⟩
        walk_at "go"
        have k0:=Int.emod_nonneg x (show 1 + y / 50000 % 3≠0 by omega)
        have k1:=Int.emod_lt_of_pos x (show 0 < 1 + y / 50000 % 3 by omega)
        have hk:(x % (1 + y / 50000 % 3)).toNat < names.length:=by omega
        refine ixL (SqL.of (s3 _ _ hN)) (atI_int (x % (1 + y / 50000 % 3)).toNat (by omega) (v:=.str names[(x % (1 + y / 50000 % 3)).toNat]) (by simp [hk])) ?_
        exact hNN _ _ (Same.refl _) ⟨_,rfl,hok _ (List.getElem_mem hk)⟩
      · rintro ys H3 s3 d3 ly hy
        obtain ⟨wings,e,hw⟩:=vals_of (P:=fun _ _=>True) V.str (fun _ z=>PyData.strOk z=true) ys 0 (fun i y h=>hy i y h)
        subst e
        refine q D wings H3 (s2.trans s3) (s2.free hD) d3 (by rw [List.length_map] at ly; omega) fun z hz=>?_
        obtain ⟨i,hi,rfl⟩:=List.mem_iff_getElem.mp hz
        exact hw i _ (List.getElem?_eq_getElem hi)
theorem D_pairs75 (T:Txt mg) (S:Src K mg "_law_pairs" "_law_pairs" s__law_pairs) (D_law_mixed:Def P w K mg base 1 "_law_mixed" ["_law_cell","_law_k"] sp_mixed) (D_law_cell_at:Def P w K mg base 1 "_law_cell_at" ["_law_script","_law_k"] (sp_cell K)):Def P w K mg base 2 "_law_pairs" ["_law_script","_law_many"] (sp_pairs74 K):=by
  refine S.mk' sc__law_pairs (fun vs H Q E h=>?_) (fun _ _ _ _ _ _ us hl=>match us,hl with | [_,_],_=>rfl) (fun f cdv A outer s H vs Q E hr h=>?_)
  · obtain ⟨a,ns,m,rfl,_⟩:=h
    rfl
  · obtain ⟨a,ns,m,rfl,hS,m0,m1,q⟩:=h
    refine ⟨_,(pss_cons (ps_set (i:=2) sc__law_pairs.nd rfl (Or.inl rfl) (pe_lst' pa_nil))
      (pss_cons (ps_for PassesOwn.never rfl (pi_range1 rfl T.range (pa_cons (pv 1) pa_nil)) (pg_name (i:=3) sc__law_pairs.nd rfl (Or.inl rfl))
      (pss_one (ps_for PassesOwn.never rfl (pi_range1 rfl T.range (pa_cons (pv 3) pa_nil)) (pg_name (i:=4) sc__law_pairs.nd rfl (Or.inl rfl))
      (pss_cons (ps_set (i:=5) sc__law_pairs.nd rfl (Or.inl rfl) (pe_def D_law_mixed (hr.mono (by decide)) rfl (pa_cons (pe_def D_law_cell_at (hr.mono (by decide)) rfl (pa_cons (pv 0) (pa_cons (pe_op op_add (pe_op op_add pe_int (pe_op op_mulW (pv 3) (pv 3))) (pv 4)) pa_nil))) (pa_cons (pe_op op_add (pe_op op_add pe_int (pe_op op_mulW (pv 3) (pv 3))) (pv 4)) pa_nil))))
      (pss_one (ps_if (pt_cmpR op_gt (pe_op op_mod (pv 5) pe_int) pe_int (nomark _)) (pss_one (ps_expr (pe_bmK (K:=K) rfl PySem.F.plainAttrs_list PySem.F.slot_list_append PySem.F.type_list_append mt_append (pv 2) (pa_cons (pe_ix (ix_seqK (K:=K) rfl) (pe_lst' (pa_cons (pe_tup' (pa_cons (pv 3) (pa_cons (pv 4) pa_nil))) (pa_cons (pe_tup' (pa_cons (pv 4) (pa_cons (pv 3) pa_nil))) pa_nil))) (pe_op op_sub (pe_op op_mod (pv 5) pe_int) pe_int) (fun _ _=>rfl)) pa_nil)))) pss_nil))))))
      (pss_one (ps_ret (pv 2))))),?_⟩
    walk_at "go"
    refine fun l H1 n1=>?_
    walk_at "go"
    refine for_range (fun i σ H' => ∃ (as:List Addr) (ps:List (Int × Int)) (o3 o4 o5:Option V),σ=[some (.ref a),some (.int m),some (.ref l),o3,o4,o5]∧H' l=some (.lst (as.map V.ref))∧Prs H' as ps∧(∀ c∈as,c≠l)∧ps.length≤10 * i∧(∀ p∈ps,(0≤p.1∧p.1 < m)∧0≤p.2∧p.2 < m)∧Same H H') ⟨[],[],none,none,none,rfl,n1.at_,Prs.nil,(fun c h=>by cases h),(by simp),(fun c h=>by cases h),n1.same⟩ ?_ ?_
    · rintro i σ H2 hi ⟨as,ps,o3,o4,o5,rfl,hl,hp,hne,lp,pr,s2⟩
      refine ⟨_,rfl,_,rfl,by omega,by omega,?_⟩
      refine for_range (fun k σ H' => ∃ (as:List Addr) (ps:List (Int × Int)) (o4 o5:Option V),σ=[some (.ref a),some (.int m),some (.ref l),some (.int (0 + (i:Int))),o4,o5]∧H' l=some (.lst (as.map V.ref))∧Prs H' as ps∧(∀ c∈as,c≠l)∧ps.length≤10 * i + k∧(∀ p∈ps,(0≤p.1∧p.1 < m)∧0≤p.2∧p.2 < m)∧Same H H') ⟨as,ps,_,_,rfl,hl,hp,hne,by omega,pr,s2⟩ ?_ ?_
      · rintro k σ H3 hk ⟨as0,ps0,o4,o5,rfl,hl,hp,hne,lp,pr,s3⟩
        have hk2:k < i:=by omega
        have b1:=mul_bd (a:=0 + (i:Int)) (b:=0 + (i:Int)) (A:=10) (B:=10) (by omega) (by omega) (by omega) (by omega)
        have b2:0≤(0 + (i:Int)) * (0 + (i:Int)):=Int.mul_nonneg (by omega) (by omega)
        walk_at "go"
        refine ⟨a,ns,_,rfl,s3.seq hS,by omega,fun z=>?_⟩
        walk_at "go"
        refine ⟨z,_,rfl,by omega,by omega,fun y y0 y1=>?_⟩
        walk_at "go"
        refine ite2 (fun e=>?_) (fun e=>?_)
        · have e3:y % 3=1∨y % 3=2:=by
            have:=of_decide_eq_true e
            have:=Int.emod_lt_of_pos y (show (0:Int) < 3 by decide)
            omega
          refine ⟨_,rfl,.inl ⟨rfl,_,SqL.of hl⟩,?_⟩
          refine ⟨_,rfl,_,rfl,len_small (by simp),fun t1 H4 n4=>?_⟩
          refine ⟨_,rfl,_,rfl,len_small (by simp),fun t2 H5 n5=>?_⟩
          refine ⟨len_small (by simp),fun t3 H6 n6=>?_⟩
          walk_at "go"
          have S6:Same H3 H6:=(n4.same.trans n5.same).trans n6.same
          have hl6:=S6 _ _ hl
          have ht1:H6 t1=some (.tup [.int (0 + (i:Int)),.int (0 + (k:Int))]):=n6.same _ _ (n5.same _ _ n4.at_)
          have ht2:H6 t2=some (.tup [.int (0 + (k:Int)),.int (0 + (i:Int))]):=n6.same _ _ n5.at_
          have d1:t1≠l:=(ne_of_none hl n4.none).symm
          have d2:t2≠l:=(ne_of_none (n4.same _ _ hl) n5.none).symm
          have fin:∀ (t:Addr) (p:Int × Int),H6 t=some (.tup [.int p.1,.int p.2])→t≠l→((0≤p.1∧p.1 < m)∧0≤p.2∧p.2 < m) →
              upd H6 l (.lst (as0.map V.ref ++ [.ref t])) l=some (.lst ((as0 ++ [t]).map V.ref))∧Prs (upd H6 l (.lst (as0.map V.ref ++ [.ref t]))) (as0 ++ [t]) (ps0 ++ [p])∧(∀ c∈as0 ++ [t],c≠l)∧(ps0 ++ [p]).length≤10 * i + (k + 1) ∧
                (∀ q∈ps0 ++ [p],(0≤q.1∧q.1 < m)∧0≤q.2∧q.2 < m)∧Same H (upd H6 l (.lst (as0.map V.ref ++ [.ref t]))):=fun t p ht dt hb=>by
            refine ⟨by rw [upd_same]; simp,?_,fun c hc=>?_,by simp; omega,fun q hq=>?_,fun c o e=>?_⟩
            · refine Prs.snoc ((hp.same S6).keep fun c hc o e=>?_) ?_
              · rw [upd_ne (hne c hc)]
                exact e
              · rw [upd_ne dt]
                exact ht
            · rcases List.mem_append.mp hc with h | h
              · exact hne c h
              · have:c=t:=by simpa using h
                rw [this]
                exact dt
            · rcases List.mem_append.mp hq with h | h
              · exact pr q h
              · have:q=p:=by simpa using h
                rw [this]
                exact hb
            · rw [upd_ne (ne_of_none e n1.none)]
              exact S6 _ _ (s3 _ _ e)
          have las:as0.length≤110:=by rw [hp.1]; omega
          rcases e3 with e3 | e3
          · refine ixL (SqL.of n6.at_) (atI_int 0 (by omega) rfl) ?_
            refine ⟨l,_,_,rfl,rfl,hl6,by rw [sizeLine_eq]; simp; omega,?_⟩
            obtain ⟨f1,f2,f3,f4,f5,f6⟩:=fin t1 (0 + (i:Int),0 + (k:Int)) ht1 d1 ⟨⟨by omega,by omega⟩,by omega,by omega⟩
            exact ⟨as0 ++ [t1],_,_,_,rfl,f1,f2,f3,f4,f5,f6⟩
          · refine ixL (SqL.of n6.at_) (atI_int 1 (by omega) rfl) ?_
            refine ⟨l,_,_,rfl,rfl,hl6,by rw [sizeLine_eq]; simp; omega,?_⟩
            obtain ⟨f1,f2,f3,f4,f5,f6⟩:=fin t2 (0 + (k:Int),0 + (i:Int)) ht2 d2 ⟨⟨by omega,by omega⟩,by omega,by omega⟩
            exact ⟨as0 ++ [t2],_,_,_,rfl,f1,f2,f3,f4,f5,f6⟩
        · exact ⟨as0,ps0,_,_,rfl,hl,hp,hne,by omega,pr,s3⟩
      · rintro σ H3 ⟨as,ps,o4,o5,rfl,hl,hp,hne,lp,pr,s3⟩
        exact ⟨as,ps,_,_,_,rfl,hl,hp,hne,by omega,pr,s3⟩
    · rintro σ H2 ⟨as,ps,o3,o4,o5,rfl,hl,hp,hne,lp,pr,s2⟩
      walk_at "go"
      exact q l as ps H2 s2 n1.none hl hp (by omega) pr
theorem D_nearway {CH Px Py eM:Addr} (T:Txt mg) (S:Src K mg "near_way" "near_way" s_near_way) (Dall_ways:DefX P w K mg base 13 "all_ways" ["house"] (sp_allways CH eM Px lamPos "bring_in.<locals>.<lambda>" Py lamPos2 "best_room.<locals>.<lambda>")) (Dnear_count:Def P w K mg base 2 "near_count" ["way","wings","pairs"] sp_near):DefX P w K mg base 14 "near_way" ["house","wings","pairs"] (sp_nearway CH eM Px lamPos "bring_in.<locals>.<lambda>" Py lamPos2 "best_room.<locals>.<lambda>"):=by
  refine S.mkX sc_near_way (fun vs H Q E h=>?_) (fun _ _ _ _ _ _ us hl=>match us,hl with | [_,_,_],_=>rfl) (fun f cdv A outer s H vs Q E hr h=>?_)
  · obtain ⟨x,b,c,beds,worths,rent,wings,as,ps,rfl,_⟩:=h
    rfl
  · obtain ⟨x,b,c,beds,worths,rent,wings,as,ps,rfl,hA,HG,hL,hL2,hre,hb,hc,hp,nok,q⟩:=h
    refine ⟨_,(pss_cons (ps_set (i:=3) sc_near_way.nd rfl (Or.inl rfl) (pe_defXP passR Dall_ways (hr.mono (by decide)) rfl (PA.nox (pa_cons (pv 0) pa_nil))))
      (PSs.nox (pss_cons (ps_setC (i:=4) sc_near_way.nd rfl (Or.inl rfl) ["way","pairs","wings"] [none,some 2,some 1] rfl rfl rfl (pi_listK (K:=K) rfl (pv 3)) (fun _ _ _ _=>(pg_name (i:=0) (by decide +kernel:(["way","pairs","wings"]:List PySem.Str).Nodup) rfl (Or.inl rfl))) (fun _ _ _ _=>pifs_nil) (fun _ _ _ _=>(pe_def Dnear_count (hr.mono (by decide)) rfl (pa_cons (pv 0) (pa_cons (pv 2) (pa_cons (pv 1) pa_nil))))))
      (pss_one (ps_ret (pe_ix (ix_seqK (K:=K) rfl) (pv 3) (pe_bmK (K:=K) rfl PySem.F.plainAttrs_list PySem.F.slot_list_index PySem.F.type_list_index (mt_indexL (K:=K)) (pv 4) (pa_cons (pe_callB (call_maxL (K:=K) rfl rfl) (by rfl) T.max boot_max' (pa_cons (pv 4) pa_nil)) pa_nil)) (fun _ _=>rfl))))))),?_⟩
    walk_at "go"
    refine ⟨x,beds,worths,rent,rfl,hA,HG,hL,hL2,hre,fun rows H1 s1 hL1 hL21 told=>⟨fun hle l fl hMF=>?_,fun hlt=>(q rows H1 s1 hL1 hL21 told).2 hlt⟩⟩
    obtain ⟨ws,hw,hR,fw⟩:=hMF
    have hbl:∀ v∈bestP beds worths,v.length=worths.length∧∀ r∈v,r < beds.length:=fun v hv=>⟨(mem_best.mp hv).1,fit_lt (mem_best.mp hv).2.1⟩
    obtain ⟨hn0,hn1⟩:=told_len HG told
    have hq:=fun H' a b c=>(q rows H' a b c told).1 hle
    generalize bestP beds worths=bl at *
    have lw:ws.length=bl.length:=by rw [hR.1,List.length_map]
    walk_at "go"
    refine ⟨⟨_,SqL.of hw⟩,fun D hD=>?_⟩
    refine comp_list (fun j y _ => ∃ v,bl[j]? = some v∧y=.int ((nearN (wI v) wings ps:Nat):Int)) (SqL.of hw) (by rw [sizeLine_eq,List.length_map]; omega) hD (fun _ _ _ _ _ h=>h) ?_ ?_
    · rintro j y H2 ys N hy s2 d2 hN
      obtain ⟨pa,hpa,rfl⟩:=ref_at hy
      have hj:j < bl.length:=by rw [← lw]; exact (List.getElem?_eq_some_iff.mp hpa).1
      obtain ⟨hvl,hvr⟩:=hbl _ (List.getElem_mem hj)
      have hpv:=s2 _ _ (hR.2 j pa _ hpa (by rw [List.getElem?_map,List.getElem?_eq_getElem hj]; rfl))
      have hv:bl[j]? = some bl[j]:=List.getElem?_eq_getElem hj
      generalize bl[j]=v at *
      walk_at "go"
      refine ⟨pa,b,c,wI v,wings,as,ps,rfl,hpv,s2 _ _ (s1.to _ _ hb rfl),s2 _ _ (s1.to _ _ hc rfl),(hp.sameB s1).same s2,nok v hvl hvr,fun H3 s3=>?_⟩
      exact hN _ _ s3 ⟨v,hv,rfl⟩
    rintro ys H2 s2 d2 ly r2
    have ey:ys=(nearC wings ps bl).map V.int:=ints_of (by rw [ly,List.length_map,lw]; simp [nearC]) fun i y e=>by
      obtain ⟨v,h1,h2⟩:=r2 i y e
      exact ⟨_,by unfold nearC; rw [List.getElem?_map,h1]; rfl,h2⟩
    subst ey
    have lC:(nearC wings ps bl).length=bl.length:=by simp [nearC]
    walk_at "go"
    refine ⟨.inl ⟨rfl,_,SqL.of d2⟩,?_⟩
    walk_at "go"
    refine ⟨D,_,rfl,SqL.of d2,by omega,fun z hz hmax=>?_⟩
    refine ⟨D,_,z,rfl,rfl,d2,hz,?_⟩
    have hi:=List.idxOf_lt_length_iff.mpr hz
    rw [lC] at hi
    have hi2:(nearC wings ps bl).idxOf z < ws.length:=by omega
    have g:(ws.map V.ref)[(nearC wings ps bl).idxOf z]? = some (.ref ws[(nearC wings ps bl).idxOf z]):=by simp [hi2]
    refine ixL (SqL.of (s2 _ _ hw)) (atI_int _ rfl g) ?_
    refine hq H2 (s1.trans s2.b) (hL1.same s2) (hL21.same s2) _ z (fw _ (List.getElem_mem hi2)) hz hmax (s2 _ _ (hR.2 _ _ _ (List.getElem?_eq_getElem hi2) ?_))
    rw [List.getElem?_map,List.getElem?_eq_getElem hi]
    simp [List.getD,hi]
theorem D_ways75 {CH Px Py eM:Addr} (T:Txt mg) (HE:ErrM K mg eM) (S:Src K mg "_law_ways" "_law_ways" s__law_ways) (Dall_ways:DefX P w K mg base 13 "all_ways" ["house"] (sp_allways CH eM Px lamPos "bring_in.<locals>.<lambda>" Py lamPos2 "best_room.<locals>.<lambda>")):Def P w K mg base 14 "_law_ways" ["_law_house_here"] (sp_ways75 CH Px lamPos "bring_in.<locals>.<lambda>" Py lamPos2 "best_room.<locals>.<lambda>"):=by
  refine S.mk' sc__law_ways (fun vs H Q E h=>?_) (fun _ _ _ _ _ _ us hl=>match us,hl with | [_],_=>rfl) (fun f cdv A outer s H vs Q E hr h=>?_)
  · obtain ⟨x,beds,worths,rent,rfl,_⟩:=h
    rfl
  · obtain ⟨x,beds,worths,rent,rfl,hA,HG,hL,hL2,hre,q⟩:=h
    refine ⟨_,(pss_cons (ps_set (i:=1) sc__law_ways.nd rfl (Or.inl rfl) pe_non)
      (pss_cons (ps_join (ps_tryPK (K:=K) rfl rfl rfl rfl HE.mTooMany (ps_setX (i:=1) sc__law_ways.nd rfl (Or.inl rfl) (pe_defX Dall_ways (hr.mono (by decide)) rfl (pa_cons (pv 0) pa_nil))) (fun _=>(pss_one (ps_set (i:=1) sc__law_ways.nd rfl (Or.inl rfl) pe_non)))))
      (pss_one (ps_ret (pv 1))))),?_⟩
    walk_at "go"
    refine ⟨fun σ' H' => ∃ (fo:V),σ'=[some (.ref x),some fo]∧Q fo H',?_,?_⟩
    · refine ⟨_,rfl,x,beds,worths,rent,rfl,hA,HG,hL,hL2,hre,fun rows H1 s1 hL1 hL21 told=>⟨fun hle l fl hMF=>?_,fun hlt=>⟨eM,rfl,HE.ok.cat,fun ea H2 n2=>?_⟩⟩⟩
      · exact ⟨_,rfl,q rows _ H1 s1 told (.inl ⟨hle,l,rfl,hMF.mat⟩)⟩
      · walk_at "go"
        exact q rows _ H2 (s1.trans n2.same.b) told (.inr ⟨hlt,rfl⟩)
    rintro σ' H1 ⟨fo,rfl,hq⟩
    walk_at "go"
    exact hq
theorem D_asked75 {CH Px Py eM:Addr} (T:Txt mg) (HE:ErrM K mg eM) (S:Src K mg "_law_asked" "_law_asked" s__law_asked) (Dnear_way:DefX P w K mg base 14 "near_way" ["house","wings","pairs"] (sp_nearway CH eM Px lamPos "bring_in.<locals>.<lambda>" Py lamPos2 "best_room.<locals>.<lambda>")):Def P w K mg base 15 "_law_asked" ["_law_house_here","_law_wings_here","_law_pairs_here"] (sp_asked75 CH Px lamPos "bring_in.<locals>.<lambda>" Py lamPos2 "best_room.<locals>.<lambda>"):=by
  refine S.mk' sc__law_asked (fun vs H Q E h=>?_) (fun _ _ _ _ _ _ us hl=>match us,hl with | [_,_,_],_=>rfl) (fun f cdv A outer s H vs Q E hr h=>?_)
  · obtain ⟨x,b,c,beds,worths,rent,wings,as,ps,rfl,_⟩:=h
    rfl
  · obtain ⟨x,b,c,beds,worths,rent,wings,as,ps,rfl,hA,HG,hL,hL2,hre,hb,hc,hp,nok,q⟩:=h
    refine ⟨_,(pss_cons (ps_set (i:=3) sc__law_asked.nd rfl (Or.inl rfl) pe_non)
      (pss_cons (ps_set (i:=4) sc__law_asked.nd rfl (Or.inl rfl) pe_bl)
      (pss_cons (ps_join (ps_tryPK (K:=K) rfl rfl rfl rfl HE.mTooMany (ps_setX (i:=3) sc__law_asked.nd rfl (Or.inl rfl) (pe_defX Dnear_way (hr.mono (by decide)) rfl (pa_cons (pv 0) (pa_cons (pv 1) (pa_cons (pv 2) pa_nil))))) (fun _=>(pss_one (ps_set (i:=4) sc__law_asked.nd rfl (Or.inl rfl) pe_bl)))))
      (pss_one (ps_ret (pe_tup' (pa_cons (pv 3) (pa_cons (pv 4) pa_nil)))))))),?_⟩
    walk_at "go"
    refine ⟨fun σ' H' => ∃ (fo:V) (re:Bool),σ'=[some (.ref x),some (.ref b),some (.ref c),some fo,some (.bl re)]∧∀ t H2,New H' t (.tup [fo,.bl re]) H2→Q (.ref t) H2,?_,?_⟩
    · refine ⟨_,rfl,_,rfl,_,rfl,x,b,c,beds,worths,rent,wings,as,ps,rfl,hA,HG,hL,hL2,hre,hb,hc,hp,nok,fun rows H1 s1 hL1 hL21 told=>⟨fun hle l z fl hz hm hl=>?_,fun hlt=>⟨eM,rfl,HE.ok.cat,fun ea H2 n2=>?_⟩⟩⟩
      · exact ⟨_,_,rfl,fun t H2 n2=>q rows t _ _ H2 (s1.trans n2.same.b) (hL1.same n2.same) (hL21.same n2.same) told n2.at_ (.inl ⟨rfl,hle,l,z,rfl,hz,hm,n2.same _ _ hl⟩)⟩
      · walk_at "go"
        exact ⟨_,_,rfl,fun t H3 n3=>q rows t _ _ H3 ((s1.trans n2.same.b).trans n3.same.b) ((hL1.same n2.same).same n3.same) ((hL21.same n2.same).same n3.same) told n3.at_ (.inr ⟨rfl,hlt⟩)⟩
    rintro σ' H1 ⟨fo,re,rfl,hq⟩
    walk_at "go"
    exact fun t H2 n2=>hq t H2 n2
theorem D_law {CH PT PT2:Addr} (T:Txt mg) (HC:HCls K mg CH) (S:Src K mg "law" "law" s_law) (M__init__:MDef P w K mg base 1 CH "__init__" ["self","beds","worths","rent"] (sp_init CH)) (D_law_mixed:Def P w K mg base 1 "_law_mixed" ["_law_cell","_law_k"] sp_mixed) (D_law_cell_at:Def P w K mg base 1 "_law_cell_at" ["_law_script","_law_k"] (sp_cell K)) (D_law_house:Def P w K mg base 3 "_law_house" ["_law_script","_law_most_people","_law_most_rooms"] (sp_house K)) (D_law_broad:Def P w K mg base 2 "_law_broad" ["_law_script"] (sp_broad K)) (D_law_wings:Def P w K mg base 2 "_law_wings" ["_law_script","_law_rooms"] (sp_wings74 K)) (D_law_pairs:Def P w K mg base 2 "_law_pairs" ["_law_script","_law_many"] (sp_pairs74 K)) (D_law_asked:Def P w K mg base 15 "_law_asked" ["_law_house_here","_law_wings_here","_law_pairs_here"] (sp_asked75 CH PT lamPos "bring_in.<locals>.<lambda>" PT2 lamPos2 "best_room.<locals>.<lambda>")) (D_law_ways:Def P w K mg base 14 "_law_ways" ["_law_house_here"] (sp_ways75 CH PT lamPos "bring_in.<locals>.<lambda>" PT2 lamPos2 "best_room.<locals>.<lambda>")) (D_law_near:Def P w K mg base 1 "_law_near" ["_law_way","_law_wings_here","_law_pairs_here"] sp_near) (D_law_whole:Def P w K mg base 1 "_law_whole" ["_law_found"] sp_whole):Def P w K mg base 16 "law" ["_law_script"] (sp_lawT2 K PT lamPos "bring_in.<locals>.<lambda>" PT2 lamPos2 "best_room.<locals>.<lambda>"):=by
  refine S.mk' sc_law (fun vs H Q E h=>?_) (fun _ _ _ _ _ _ us hl=>match us,hl with | [_],_=>rfl) (fun f cdv A outer s H vs Q E hr h=>?_)
  · obtain ⟨a,ns,rfl,_⟩:=h
    rfl
  · obtain ⟨a,ns,rfl,hS,hlen,hL,hL2,q⟩:=h
    refine ⟨_,(pss_cons (ps_asg (pe_def D_law_house (hr.mono (by decide)) rfl (pa_cons (pv 0) (pa_cons pe_int (pa_cons pe_int pa_nil)))) (pg_tupK (K:=K) (n:=3) rfl rfl (pgs_cons (pg_name (i:=1) sc_law.nd rfl (Or.inl rfl)) (pgs_cons (pg_name (i:=2) sc_law.nd rfl (Or.inl rfl)) (pgs_cons (pg_name (i:=3) sc_law.nd rfl (Or.inl rfl)) pgs_nil)))))
      (pss_cons (ps_join (ps_if (pt_cmpR op_eq (pe_op op_mod (pe_def D_law_mixed (hr.mono (by decide)) rfl (pa_cons (pe_def D_law_cell_at (hr.mono (by decide)) rfl (pa_cons (pv 0) (pa_cons pe_int pa_nil))) (pa_cons pe_int pa_nil))) pe_int) pe_int (nomark _)) (pss_one (ps_asg (pe_def D_law_broad (hr.mono (by decide)) rfl (pa_cons (pv 0) pa_nil)) (pg_tupK (K:=K) (n:=3) rfl rfl (pgs_cons (pg_name (i:=1) sc_law.nd rfl (Or.inl rfl)) (pgs_cons (pg_name (i:=2) sc_law.nd rfl (Or.inl rfl)) (pgs_cons (pg_name (i:=3) sc_law.nd rfl (Or.inl rfl)) pgs_nil)))))) pss_nil))
      (pss_cons (ps_set (i:=4) sc_law.nd rfl (Or.inl rfl) (pe_mk M__init__ HC.mks HC.kp HC.mgC (hr.mono (by decide)) rfl (pa_cons (pe_callTy (call_list_ofK (K:=K) rfl) (by rfl) T.list boot_list' (pa_cons (pv 1) pa_nil)) (pa_cons (pe_comp ["_law_row"] [none] rfl rfl rfl (pi_listK (K:=K) rfl (pv 2)) (fun _ _ _ _=>(pg_name (i:=0) (by decide +kernel:(["_law_row"]:List PySem.Str).Nodup) rfl (Or.inl rfl))) (fun _ _ _ _=>pifs_nil) (fun _ _ _ _=>(pe_callTy (call_list_ofK (K:=K) rfl) (by rfl) T.list boot_list' (pa_cons (pv 0) pa_nil)))) (pa_cons (pv 3) pa_nil)))))
      (pss_cons (ps_set (i:=5) sc_law.nd rfl (Or.inr rfl) (pe_def D_law_wings (hr.mono (by decide)) rfl (pa_cons (pv 0) (pa_cons (pe_callB (call_lenK (K:=K) rfl) (by rfl) T.len boot_len' (pa_cons (pv 1) pa_nil)) pa_nil))))
      (pss_cons (ps_set (i:=6) sc_law.nd rfl (Or.inr rfl) (pe_def D_law_pairs (hr.mono (by decide)) rfl (pa_cons (pv 0) (pa_cons (pe_callB (call_lenK (K:=K) rfl) (by rfl) T.len boot_len' (pa_cons (pv 2) pa_nil)) pa_nil))))
      (pss_cons (ps_set (i:=7) sc_law.nd rfl (Or.inl rfl) (pe_lst' (pa_cons (pe_callTy (call_list_ofK (K:=K) rfl) (by rfl) T.list boot_list' (pa_cons (pv 5) pa_nil)) (pa_cons (pe_callTy (call_list_ofK (K:=K) rfl) (by rfl) T.list boot_list' (pa_cons (pv 6) pa_nil)) pa_nil))))
      (pss_cons (ps_asg (pe_def D_law_asked (hr.mono (by decide)) rfl (pa_cons (pv 4) (pa_cons (pe_ix (ix_seqK (K:=K) rfl) (pv 7) pe_int (fun _ _=>rfl)) (pa_cons (pe_ix (ix_seqK (K:=K) rfl) (pv 7) pe_int (fun _ _=>rfl)) pa_nil)))) (pg_tupK (K:=K) (n:=2) rfl rfl (pgs_cons (pg_name (i:=8) sc_law.nd rfl (Or.inl rfl)) (pgs_cons (pg_name (i:=9) sc_law.nd rfl (Or.inl rfl)) pgs_nil))))
      (pss_cons (ps_set (i:=10) sc_law.nd rfl (Or.inl rfl) (pe_def D_law_ways (hr.mono (by decide)) rfl (pa_cons (pv 4) pa_nil)))
      (pss_cons (ps_if (PW.pt (pw_or (pt_cmpR (op_neDK (K:=K) rfl hr.units) (pv 7) (pe_lst' (pa_cons (pv 5) (pa_cons (pv 6) pa_nil))) (nomark _)) (pw_or (pt_cmpR (op_neDK (K:=K) rfl hr.units) (pe_fldK (K:=K) rfl (pv 4) rfl) (pv 2) (nomark _)) (pw_or (pt_cmpR (op_neLK (K:=K) rfl hr.units0) (pe_fldK (K:=K) rfl (pv 4) rfl) (pv 1) (nomark _)) (pw_or1 (pt_cmpR op_ne (pv 9) (pe_cmpR op_isN (pv 10) pe_non (nomark _)) (nomark _))))))) (pss_one (ps_ret pe_bl)) pss_nil)
      (pss_cons (ps_if (pt_val (pv 9)) (pss_one (ps_ret pe_bl)) pss_nil)
      (pss_cons (ps_setC (i:=11) sc_law.nd rfl (Or.inl rfl) ["_law_way","_law_pairs_here","_law_wings_here"] [none,some 6,some 5] rfl rfl rfl (pi_listK (K:=K) rfl (pv 10)) (fun _ _ _ _=>(pg_name (i:=0) (by decide +kernel:(["_law_way","_law_pairs_here","_law_wings_here"]:List PySem.Str).Nodup) rfl (Or.inl rfl))) (fun _ _ _ _=>pifs_nil) (fun _ _ _ _=>(pe_def D_law_near (hr.mono (by decide)) rfl (pa_cons (pv 0) (pa_cons (pv 2) (pa_cons (pv 1) pa_nil))))))
      (pss_cons (ps_set (i:=12) sc_law.nd rfl (Or.inl rfl) (pe_ix (ix_seqK (K:=K) rfl) (pv 10) (pe_bmK (K:=K) rfl PySem.F.plainAttrs_list PySem.F.slot_list_index PySem.F.type_list_index (mt_indexL (K:=K)) (pv 11) (pa_cons (pe_callB (call_maxL (K:=K) rfl rfl) (by rfl) T.max boot_max' (pa_cons (pv 11) pa_nil)) pa_nil)) (fun _ _=>rfl)))
      (pss_one (ps_ret (pe_and (pe_callB (call_isinstK (K:=K) rfl) (by rfl) T.isinstance boot_isinstance' (pa_cons (pv 8) (pa_cons (pe_bltn (v:=.ty "list") rfl T.list boot_list' rfl) pa_nil))) (pe_and (pe_callB (call_allK (K:=K) rfl rfl) (by rfl) T.all boot_all' (pa_cons (pe_comp ["_law_r"] [none] rfl rfl rfl (pi_listK (K:=K) rfl (pv 8)) (fun _ _ _ _=>(pg_name (i:=0) (by decide +kernel:(["_law_r"]:List PySem.Str).Nodup) rfl (Or.inl rfl))) (fun _ _ _ _=>pifs_nil) (fun _ _ _ _=>(pe_def D_law_whole (hr.mono (by decide)) rfl (pa_cons (pv 0) pa_nil)))) pa_nil)) (pe_one (pe_cmpR (op_eqLK (K:=K) rfl hr.units0) (pv 8) (pv 12) (nomark _))))))))))))))))))),?_⟩
    walk_at "go"
    refine ⟨a,ns,_,_,rfl,hS,hlen,by decide,by decide,by decide,by decide,fun t b0 w0 beds worths rent H1 s1 ht hb0 hM0 ok=>?_⟩
    refine ⟨t,_,rfl,SqT.of ht,rfl,_,_,rfl,_,_,rfl,_,_,rfl,rfl,?_⟩
    refine ⟨fun σ' H' => ∃ (b0 w0:Addr) (beds:List Int) (worths:List (List Int)) (rent:Int),σ'=[some (.ref a),some (.ref b0),some (.ref w0),some (.int rent),none,none,none,none,none,none,none,none,none]∧Same H H'∧H' b0=some (.lst (beds.map V.int))∧Mat H' w0 worths∧HouseG beds worths∧(-(10 ^ 42) < rent∧rent < 10 ^ 42),?_,?_⟩
    · walk_at "go"
      refine ⟨a,ns,_,rfl,s1.seq hS,by decide,fun z1=>?_⟩
      walk_at "go"
      refine ⟨z1,_,rfl,by decide,by decide,fun m2 p0 p1=>?_⟩
      walk_at "go"
      refine ite2 (fun _=>?_) (fun _=>?_)
      · walk_at "go"
        refine ⟨a,ns,rfl,s1.seq hS,fun t2 b2 w2 worths2 rent2 H2 s2 h1 h2 h3 h4 h5 h6 h7 h8 h9=>?_⟩
        refine ⟨t2,_,rfl,SqT.of h1,rfl,_,_,rfl,_,_,rfl,_,_,rfl,rfl,?_⟩
        exact ⟨b2,w2,[4,4],worths2,rent2,rfl,s1.trans s2,h2,h3,⟨⟨by decide,by omega,fun row hr=>h6 row hr⟩,by omega,by simp; omega,by decide,fun row hr x hx=>by have:=h7 row hr x hx; omega⟩,by omega⟩
      · exact ⟨b0,w0,beds,worths,rent,rfl,s1,hb0,hM0,ok.g (by omega) (by omega),by have:=ok.r; omega⟩
    rintro σ' H2 ⟨b0,w0,beds,worths,rent,rfl,s2,hb2,hM2,HG,hre⟩
    have hbl:=HG.bok.b1
    have hwl:=HG.bok.w1
    have hw1:=HG.w1
    have hb1:1≤beds.length:=by
      have h3:=HG.w3
      cases beds with
      | nil=>exact absurd (show (worths.length:Int)≤0 from h3) (by omega)
      | cons b r=>simp
    walk_at "go"
    refine ⟨b0,_,rfl,.inl (SqL.of hb2),fun b1 H3 n3=>?_⟩
    obtain ⟨ws3,hw3,hR3⟩:=id (hM2.same n3.same)
    walk_at "go"
    refine ⟨⟨_,SqL.of hw3⟩,fun D hD=>?_⟩
    refine comp_copyM (hM2.same n3.same) (by rw [sizeLine_eq]; omega) hD (fun ra row H3 N h3 hN=>?_) fun H4 s4 hM4=>?_
    · walk_at "go"
      exact ⟨ra,_,rfl,.inl (SqL.of h3),hN⟩
    walk_at "go"
    refine fun x dx nx ndx nex=>?_
    have s0:Same H4 (upd (upd H4 dx (.own x)) x (.ins CH dx [])):=fun c o e=>by
      rw [upd_ne (ne_of_none e nx),upd_ne (ne_of_none e ndx)]
      exact e
    refine ⟨x,dx,b1,D,beds,worths,rent,rfl,upd_same,s0 _ _ (s4 _ _ n3.at_),hM4.same s0,by omega,by omega,HG.w3,fun H5 hA5 kp=>⟨rfl,?_⟩⟩
    have S5:Same H2 H5:=(n3.same.trans s4).trans fun c o e=>kp c o (s0 _ _ e) (ne_of_none e nx)
    have hL5:=(hL.same s2).same S5
    have hL25:=(hL2.same s2).same S5
    have hb5:=S5 _ _ hb2
    have hM5:=hM2.same S5
    obtain ⟨ws5,hw5,hR5⟩:=id hM5
    have lw5:ws5.length=worths.length:=hR5.1
    walk_at "go"
    refine ⟨b0,_,rfl,.inl (SqL.of hb5),?_⟩
    rw [List.length_map]
    refine ⟨a,ns,_,rfl,(s2.trans S5).seq hS,by omega,by omega,fun Z wings H6 s6 fZ hZ lz okz=>?_⟩
    walk_at "go"
    refine ⟨w0,_,rfl,.inl (SqL.of (s6 _ _ hw5)),?_⟩
    rw [List.length_map,lw5]
    refine ⟨a,ns,_,rfl,((s2.trans S5).trans s6).seq hS,by omega,by omega,fun pl as ps H7 s7 fl hl hp lp pr=>?_⟩
    have hZ7:=s7 _ _ hZ
    walk_at "go"
    refine ⟨Z,_,rfl,.inl (SqL.of hZ7),fun A1 H8 n8=>?_⟩
    walk_at "go"
    refine ⟨pl,_,rfl,.inl (SqL.of (n8.same _ _ hl)),fun A2 H9 n9=>?_⟩
    walk_at "go"
    refine fun hd H10 n10=>?_
    have S10:Same H7 H10:=(n8.same.trans n9.same).trans n10.same
    have T10:Same H5 H10:=(s6.trans s7).trans S10
    have hA1:=n10.same _ _ (n9.same _ _ n8.at_)
    have hA2:=n10.same _ _ n9.at_
    have hh10:=n10.at_
    have nok:∀ v:List Nat,v.length=worths.length→(∀ r∈v,r < beds.length)→NearOk (wI v) wings ps:=fun v hv hr=>⟨by simp [wI]; omega,by omega,by omega,fun y hy=>by
      obtain ⟨r,hr',rfl⟩:=List.mem_map.mp hy
      have:=hr r hr'
      omega,fun p hp'=>by
      have:=pr p hp'
      rw [show (wI v).length=worths.length by simp [wI,hv]]
      omega⟩
    walk_at "go"
    refine ixL (SqL.of hh10) rfl ?_
    walk_at "go"
    refine ixL (SqL.of hh10) rfl ?_
    refine ⟨x,A1,A2,beds,worths,rent,wings,as,ps,rfl,hA5.same T10,HG,hL5.same T10,hL25.same T10,hre,hA1,hA2,hp.same S10,nok,fun rows t3 fo re H11 s11 hL11 hL211 told ht3 hcase=>?_⟩
    refine ⟨t3,_,rfl,SqT.of ht3,rfl,_,_,rfl,_,_,rfl,rfl,?_⟩
    have U11:SameB H5 H11:=T10.b.trans s11
    walk_at "go"
    refine ⟨x,beds,worths,rent,rfl,hA5.sameB U11,HG,hL11,hL211,hre,fun rows2 fo2 H12 s12 told2 hcase2=>?_⟩
    have er:=told.uniq told2
    rw [← er] at hcase2
    have U12:SameB H5 H12:=U11.trans s12
    have V12:SameB H7 H12:=(S10.b.trans s11).trans s12
    have W12:SameB H10 H12:=s11.trans s12
    walk_at "go"
    refine fun l2 H13 n13=>?_
    have W13:SameB H10 H13:=W12.trans n13.same.b
    have V13:SameB H7 H13:=V12.trans n13.same.b
    have U13:SameB H5 H13:=U12.trans n13.same.b
    have hZ13:=V13.to _ _ hZ7 rfl
    have hl13:=V13.to _ _ hl rfl
    have hp13:=hp.sameB V13
    refine ⟨handD2 wings ps,handD2 wings ps,rv_hand2 (W13.to _ _ hh10 rfl) (W13.to _ _ hA1 rfl) (W13.to _ _ hA2 rfl) hp13,rv_hand2 n13.at_ hZ13 hl13 hp13,hand2_shaped _ _ okz,hand2_shaped _ _ okz,?_⟩
    refine ⟨_,rfl,iteE (by rw [hand2_eqv]; rfl) ?_⟩
    have hA13:=hA5.sameB U13
    have hM13:=hM5.sameB U13
    have hb13:=U13.to _ _ hb5 rfl
    obtain ⟨dh,bb,ww,i1,i2,i3⟩:=hA13.ex
    obtain ⟨wt,hwt,hRt⟩:=id i3
    obtain ⟨wss,hwss,hRs⟩:=id hM13
    refine ⟨_,rfl,x,CH,dh,_,_,rfl,i1,HC.cl,HC.nW,hf_worths _ _ _,_,rfl,matD worths,matD worths,rv_list (SqL.of hwt) (rv_rows hRt),rv_list (SqL.of hwss) (rv_rows hRs),mat_shaped _,mat_shaped _,?_⟩
    rw [mat_eqv]
    refine ⟨_,rfl,iteE rfl ?_⟩
    refine ⟨_,rfl,x,CH,dh,_,_,rfl,i1,HC.cl,HC.nB,hf_beds _ _ _,_,rfl,bb,b0,beds,beds,rfl,rfl,SqL.of i2,SqL.of hb13,?_⟩
    refine ⟨_,rfl,iteE (by simp) ?_⟩
    have hbl2:∀ v∈bestP beds worths,v.length=worths.length∧∀ r∈v,r < beds.length:=fun v hv=>⟨(mem_best.mp hv).1,fit_lt (mem_best.mp hv).2.1⟩
    obtain ⟨hn0,hn1⟩:=told_len HG told
    generalize lenP (lvlN worths.length beds.length (lvlB (worths.length:Int) beds.length worths rows))=M at *
    walk_at "go"
    rcases hcase with ⟨rfl,hle,l,z,rfl,hz,hm,hl0⟩ | ⟨rfl,hlt⟩
    rotate_left
    · rcases hcase2 with ⟨h,_⟩ | ⟨_,rfl⟩
      · exact absurd h (by omega)
      refine iteE (by simp) ?_
      walk_at "go"
      refine iteTr rfl ?_
      walk_at "go"
      exact q _
    rcases hcase2 with ⟨_,l3,rfl,hM12⟩ | ⟨h,_⟩
    rotate_left
    · exact absurd h (by omega)
    refine iteE (by simp) ?_
    walk_at "go"
    generalize bestP beds worths=bl at *
    obtain ⟨ws,hw,hR⟩:=id (hM12.same n13.same)
    have lw:ws.length=bl.length:=by rw [hR.1,List.length_map]
    walk_at "go"
    refine ⟨⟨_,SqL.of hw⟩,fun D2 hD2=>?_⟩
    refine comp_list (fun j y _ => ∃ v,bl[j]? = some v∧y=.int ((nearN (wI v) wings ps:Nat):Int)) (SqL.of hw) (by rw [sizeLine_eq,List.length_map]; omega) hD2 (fun _ _ _ _ _ h=>h) ?_ ?_
    · rintro j y H14 ys N hy s14 d14 hN
      obtain ⟨pa,hpa,rfl⟩:=ref_at hy
      have hj:j < bl.length:=by rw [← lw]; exact (List.getElem?_eq_some_iff.mp hpa).1
      obtain ⟨hvl,hvr⟩:=hbl2 _ (List.getElem_mem hj)
      have hpv:=s14 _ _ (hR.2 j pa _ hpa (by rw [List.getElem?_map,List.getElem?_eq_getElem hj]; rfl))
      have hv:bl[j]? = some bl[j]:=List.getElem?_eq_getElem hj
      generalize bl[j]=v at *
      walk_at "go"
      refine ⟨pa,Z,pl,wI v,wings,as,ps,rfl,hpv,s14 _ _ hZ13,s14 _ _ hl13,hp13.same s14,nok v hvl hvr,fun H15 s15=>?_⟩
      exact hN _ _ s15 ⟨v,hv,rfl⟩
    rintro ys H14 s14 d14 ly r14
    have ey:ys=(nearC wings ps bl).map V.int:=ints_of (by rw [ly,List.length_map,lw]; simp [nearC]) fun i y e=>by
      obtain ⟨v,h1,h2⟩:=r14 i y e
      exact ⟨_,by unfold nearC; rw [List.getElem?_map,h1]; rfl,h2⟩
    subst ey
    have lC:(nearC wings ps bl).length=bl.length:=by simp [nearC]
    walk_at "go"
    refine ⟨.inl ⟨rfl,_,SqL.of d14⟩,?_⟩
    walk_at "go"
    refine ⟨D2,_,rfl,SqL.of d14,by omega,fun z2 hz2 hmax=>?_⟩
    obtain rfl:z2=z:=Int.le_antisymm (hm _ hz2) (hmax _ hz)
    refine ⟨D2,_,z2,rfl,rfl,d14,hz2,?_⟩
    have hi:=List.idxOf_lt_length_iff.mpr hz2
    rw [lC] at hi
    have hi2:(nearC wings ps bl).idxOf z2 < ws.length:=by omega
    have g:(ws.map V.ref)[(nearC wings ps bl).idxOf z2]? = some (.ref ws[(nearC wings ps bl).idxOf z2]):=by simp [hi2]
    refine ixL (SqL.of (s14 _ _ hw)) (atI_int _ rfl g) ?_
    have hdue:=s14 _ _ (hR.2 _ _ _ (List.getElem?_eq_getElem hi2) (by rw [List.getElem?_map,List.getElem?_eq_getElem hi]; rfl))
    have hfo:=s14 _ _ (n13.same _ _ (s12.to _ _ hl0 rfl))
    have hvl:=(hbl2 _ (List.getElem_mem hi)).1
    rw [show bl.getD ((nearC wings ps bl).idxOf z2) []=bl[(nearC wings ps bl).idxOf z2] by simp [List.getD,hi]] at hfo
    generalize bl[(nearC wings ps bl).idxOf z2]=v at *
    generalize ws[(nearC wings ps bl).idxOf z2]=du at *
    walk_at "go"
    refine ⟨_,_,_,true,rfl,.lst hfo,kit_same _ _,_,rfl,?_⟩
    refine iteTr rfl ?_
    refine ⟨_,rfl,l,rfl,⟨_,SqL.of hfo⟩,fun D8 hD8=>?_⟩
    refine compMapV (wI v) (fun _=>.bl true) (SqL.of hfo) (by rw [sizeLine_eq]; simp [wI]; omega) hD8 (fun z hz H8 N s8 hN=>?_) fun H15 s15 d15=>?_
    · walk_at "go"
      exact hN _ (Same.refl _)
    have d15':H15 D8=some (.lst (((wI v).map fun _=>true).map V.bl)):=by rw [d15,List.map_map]; rfl
    refine ⟨D8,_,rfl,SqL.of d15',?_⟩
    rw [show (((wI v).map fun _=>true).all id)=true by simp]
    refine ⟨_,rfl,?_⟩
    refine iteTr rfl ?_
    refine ⟨_,rfl,_,rfl,l,du,_,_,rfl,rfl,SqL.of (s15 _ _ hfo),SqL.of (s15 _ _ hdue),?_⟩
    simpa using q H15
end
theorem walkT2 {l:PySem.W.OpenLaw} {q:Program} {loose:List Str} {XP:(Str→Option Value)→Heap→Prop} {YP:World→Heap→Prop} {d:DefRec} {K:Params→PySem.W.Frag} {Pa Pb:Addr} (hn:l.most=some 63) (hdf:d.params.defaults=[])
    (hY:∀ (w:World) (h:Heap),YP w h→(K w.params).In h∧∀ P∈[Pb,Pa],h.get? P=some (PySem.W.tabObj #[])) (hcd:∀ w:World,([Pb,Pa].all fun P=>(K w.params).any fun p=>PySem.W.codeHdIn (K w.params) p.1 P)=true) (hnt:∀ w:World,PySem.W.noTabs (K w.params)=true)
    (F:∀ (w:World) (mg:Str→Option Value) (fa:Addr) (h:Heap),(K w.params).In h→h.Ns mainGlobals mg→mg d.name=some (.ref fa) →
      ∃ fd:FuncData,(∀ (s:Shared) (u:Value),BindsTo s fd ⟨[u],[]⟩ [("_law_script",u)])∧∀ base:Heap,(K w.params).In base→base.Ns mainGlobals mg→(∀ P∈[Pb,Pa],base.BuiltinsAt mg P)→FnOk l.prog w (K w.params) mg base CX0 16 fa fd ["_law_script"] (sp_lawT2 (K w.params) Pa lamPos "bring_in.<locals>.<lambda>" Pb lamPos2 "best_room.<locals>.<lambda>")) :
    PySem.W.WalkO q loose XP YP l.row.toRowW d [] (fun f vs=>PySem.call f vs) :=
  L2.walk_ofT (ts:=[Pb,Pa]) (n:=63) (k:=16) (x:="_law_script") (sp:=fun w=>sp_lawT2 (K w.params) Pa lamPos "bring_in.<locals>.<lambda>" Pb lamPos2 "best_room.<locals>.<lambda>") hn (by decide) hdf ⟨rfl,by decide,by decide⟩ hY hcd hnt F (fun _ _ a ns hl hb hT hS=>⟨a,ns,rfl,hS,hl,.inl (hT Pa (List.mem_cons_of_mem _ List.mem_cons_self)),.inl (hT Pb List.mem_cons_self),fun _=>rfl⟩)
end My
def PySem.W.Fast.tw14961566667902974373:Unit:=()
def PySem.W.Fast.tw3998266339997812536:Unit:=()
def PySem.W.Fast.tw4342389069788914846:Unit:=()
def PySem.W.Fast.tw18344357268280701910:Unit:=()
def PySem.W.Fast.tw1284080126097267005:Unit:=()
def PySem.W.Fast.tw12201937159024789757:Unit:=()
def PySem.W.Fast.tw8684540727664193205:Unit:=()
def PySem.W.Fast.tw5324776189922022685:Unit:=()
def PySem.W.Fast.tw676878855490709725:Unit:=()
def PySem.W.Fast.tw13295651134196667362:Unit:=()
def PySem.W.Fast.tw17606570015337164519:Unit:=()
def PySem.W.Fast.tw7307785166581078340:Unit:=()
def PySem.W.Fast.tw13660763911958448703:Unit:=()
def PySem.W.Fast.tw3482687712288125970:Unit:=()
def PySem.W.Fast.tw17816354377517420023:Unit:=()
def PySem.W.Fast.tw14311645314040696666:Unit:=()
def PySem.W.Fast.tw18227944707799198141:Unit:=()
def PySem.W.Fast.tw16678296289801945296:Unit:=()
def PySem.W.Fast.tw17900971056108112415:Unit:=()
def PySem.W.Fast.tw4276415997617591934:Unit:=()
def PySem.W.Fast.tw15919858816116631806:Unit:=()
def PySem.W.Fast.tw11348979603762545001:Unit:=()
def PySem.W.Fast.tw6666927565262262893:Unit:=()
def PySem.W.Fast.tw18317419549733339272:Unit:=()
def PySem.W.Fast.tw1065957171621181108:Unit:=()
def PySem.W.Fast.tw1926059060968960211:Unit:=()
def PySem.W.Fast.tw15223524249522007846:Unit:=()
def PySem.W.Fast.tw6754040947658060424:Unit:=()
def PySem.W.Fast.tw11587036858490122779:Unit:=()
def PySem.W.Fast.tw7813889369644459372:Unit:=()
def PySem.W.Fast.tw10872766410674231399:Unit:=()
def PySem.W.Fast.tw36673922353481476:Unit:=()
def PySem.W.Fast.tw10892063297765366223:Unit:=()
def PySem.W.Fast.tw3463611656701154606:Unit:=()
def PySem.W.Fast.tw3658207031213468357:Unit:=()
def PySem.W.Fast.tw17512349891083170521:Unit:=()
def PySem.W.Fast.tw17897495275186818381:Unit:=()
def PySem.W.Fast.tw12693576101352807340:Unit:=()
def PySem.W.Fast.tw4235063383844496441:Unit:=()
def PySem.W.Fast.tw12537335852574707516:Unit:=()
def PySem.W.Fast.tw14331729885621447661:Unit:=()
def PySem.W.Fast.tw2048293579809061057:Unit:=()
def PySem.W.Fast.tw9953047296093582364:Unit:=()
def PySem.W.Fast.tw6996125703843662275:Unit:=()
def PySem.W.Fast.tw16476761660260648300:Unit:=()
def PySem.W.Fast.tw283255779954250454:Unit:=()
def PySem.W.Fast.tw13429138812214614976:Unit:=()
def PySem.W.Fast.tw18105923010061816212:Unit:=()
def PySem.W.Fast.tw4244971103438691007:Unit:=()
def PySem.W.Fast.tw14252203774477472048:Unit:=()
def PySem.W.Fast.tw1833896269446442977:Unit:=()
def PySem.W.Fast.tw905280701917860604:Unit:=()
def PySem.W.Fast.tw11133908697549319040:Unit:=()
def PySem.W.Fast.tw4781768551686314664:Unit:=()
def PySem.W.Fast.tw3252674913899278629:Unit:=()
def PySem.W.Fast.tw9393729775433744052:Unit:=()
def PySem.W.Fast.tw9092309446388745124:Unit:=()
def PySem.W.Fast.tw3596528717840067955:Unit:=()
def PySem.W.Fast.tw12881183488221191829:Unit:=()
def PySem.W.Fast.tw9204419896924581016:Unit:=()
def PySem.W.Fast.tw13653429577011457659:Unit:=()
def PySem.W.Fast.tw10287656129977049031:Unit:=()
def PySem.W.Fast.tw10150531221659223973:Unit:=()
def PySem.W.Fast.tw4646787786268880026:Unit:=()
def PySem.W.Fast.tw3877029099681490891:Unit:=()
def PySem.W.Fast.tw3498780358026798486:Unit:=()
def PySem.W.Fast.tw148257397560982285:Unit:=()
def PySem.W.Fast.tw6706038129798665953:Unit:=()
def PySem.W.Fast.tw18402397574794661546:Unit:=()
def PySem.W.Fast.tw10565968869015353482:Unit:=()
def PySem.W.Fast.tw343556025385118902:Unit:=()
def PySem.W.Fast.tw6136102767265520891:Unit:=()
def PySem.W.Fast.tw17717854737994930069:Unit:=()
def PySem.W.Fast.tw8356671427591613980:Unit:=()
def PySem.W.Fast.tw13277207851633845549:Unit:=()
def PySem.W.Fast.tw601602520725240455:Unit:=()
def PySem.W.Fast.tw12771738591715402831:Unit:=()
def PySem.W.Fast.tw2088584488700280961:Unit:=()
def PySem.W.Fast.tw17423247246105529107:Unit:=()
def PySem.W.Fast.tw11058800530556713338:Unit:=()
def PySem.W.Fast.tw8018039438866924102:Unit:=()
def PySem.W.Fast.tw16580735067292149044:Unit:=()
def PySem.W.Fast.tw17419298822143321511:Unit:=()
def PySem.W.Fast.tw12629811416981000408:Unit:=()
def PySem.W.Fast.tw9744432051277562697:Unit:=()
open PySem PySem.W PyProof.Rows
set_option maxRecDepth 100000 in
set_option maxHeartbeats 0 in
theorem PySem.Challenge.cw_rentshare_k75_near_way_holds : PySem.Challenge.rw_rentshare_k75_near_way.Holds := by
  w_on; o_law; k_head; (case hw=>w_witness2)
  k_fill
  refine My.walkT2 (l:=PySem.Challenge.rw_rentshare_k75_near_way) rfl rfl (fun w h Y=>⟨PySem.W.km_in_of Y,PySem.W.km_tabs_of Y⟩) (fun w=>by kernel_rfl) (fun w=>by kernel_rfl) ?F
  case F =>
    intro w mg fa h KX G hmg
    have S_lying:L2.Src (L2.KOf KX) mg "lying" "lying" My.s_lying:=by
      dsimp only [L2.KOf]
      refine' L2.src_mk KX G ?a ?l ?c ?k
      (case a=>k_is); (case l=>k_is); (case c=>k_is); (case k=>k_is)
    have S_open_rooms:L2.Src (L2.KOf KX) mg "open_rooms" "open_rooms" My.s_open_rooms:=by
      dsimp only [L2.KOf]
      refine' L2.src_mk KX G ?a ?l ?c ?k
      (case a=>k_is); (case l=>k_is); (case c=>k_is); (case k=>k_is)
    have S_worth_of:L2.Src (L2.KOf KX) mg "worth_of" "worth_of" My.s_worth_of:=by
      dsimp only [L2.KOf]
      refine' L2.src_mk KX G ?a ?l ?c ?k
      (case a=>k_is); (case l=>k_is); (case c=>k_is); (case k=>k_is)
    have S_improve:L2.Src (L2.KOf KX) mg "improve" "improve" My.s_improve:=by
      dsimp only [L2.KOf]
      refine' L2.src_mk KX G ?a ?l ?c ?k
      (case a=>k_is); (case l=>k_is); (case c=>k_is); (case k=>k_is)
    have S_best_way:L2.Src (L2.KOf KX) mg "best_way" "best_way" My.s_best_way:=by
      dsimp only [L2.KOf]
      refine' L2.src_mk KX G ?a ?l ?c ?k
      (case a=>k_is); (case l=>k_is); (case c=>k_is); (case k=>k_is)
    have S_is_hop:L2.Src (L2.KOf KX) mg "is_hop" "is_hop" My.s_is_hop:=by
      dsimp only [L2.KOf]
      refine' L2.src_mk KX G ?a ?l ?c ?k
      (case a=>k_is); (case l=>k_is); (case c=>k_is); (case k=>k_is)
    have S_chain_gain:L2.Src (L2.KOf KX) mg "chain_gain" "chain_gain" My.s_chain_gain:=by
      dsimp only [L2.KOf]
      refine' L2.src_mk KX G ?a ?l ?c ?k
      (case a=>k_is); (case l=>k_is); (case c=>k_is); (case k=>k_is)
    have S_best_hops:L2.Src (L2.KOf KX) mg "best_hops" "best_hops" My.s_best_hops:=by
      dsimp only [L2.KOf]
      refine' L2.src_mk KX G ?a ?l ?c ?k
      (case a=>k_is); (case l=>k_is); (case c=>k_is); (case k=>k_is)
    have S_hop_on:L2.Src (L2.KOf KX) mg "hop_on" "hop_on" My.s_hop_on:=by
      dsimp only [L2.KOf]
      refine' L2.src_mk KX G ?a ?l ?c ?k
      (case a=>k_is); (case l=>k_is); (case c=>k_is); (case k=>k_is)
    have S_carry:L2.Src (L2.KOf KX) mg "carry" "carry" My.s_carry:=by
      dsimp only [L2.KOf]
      refine' L2.src_mk KX G ?a ?l ?c ?k
      (case a=>k_is); (case l=>k_is); (case c=>k_is); (case k=>k_is)
    have S_greatest:L2.Src (L2.KOf KX) mg "greatest" "greatest" My.s_greatest:=by
      dsimp only [L2.KOf]
      refine' L2.src_mk KX G ?a ?l ?c ?k
      (case a=>k_is); (case l=>k_is); (case c=>k_is); (case k=>k_is)
    have S_bound:L2.Src (L2.KOf KX) mg "bound" "bound" My.s_bound:=by
      dsimp only [L2.KOf]
      refine' L2.src_mk KX G ?a ?l ?c ?k
      (case a=>k_is); (case l=>k_is); (case c=>k_is); (case k=>k_is)
    have S_common_divisor:L2.Src (L2.KOf KX) mg "common_divisor" "common_divisor" My.s_common_divisor:=by
      dsimp only [L2.KOf]
      refine' L2.src_mk KX G ?a ?l ?c ?k
      (case a=>k_is); (case l=>k_is); (case c=>k_is); (case k=>k_is)
    have S_lowest:L2.Src (L2.KOf KX) mg "lowest" "lowest" My.s_lowest:=by
      dsimp only [L2.KOf]
      refine' L2.src_mk KX G ?a ?l ?c ?k
      (case a=>k_is); (case l=>k_is); (case c=>k_is); (case k=>k_is)
    have S_room_price:L2.Src (L2.KOf KX) mg "room_price" "room_price" My.s_room_price:=by
      dsimp only [L2.KOf]
      refine' L2.src_mk KX G ?a ?l ?c ?k
      (case a=>k_is); (case l=>k_is); (case c=>k_is); (case k=>k_is)
    have S_prices_at:L2.Src (L2.KOf KX) mg "prices_at" "prices_at" My.s_prices_at:=by
      dsimp only [L2.KOf]
      refine' L2.src_mk KX G ?a ?l ?c ?k
      (case a=>k_is); (case l=>k_is); (case c=>k_is); (case k=>k_is)
    have S_divide:L2.Src (L2.KOf KX) mg "divide" "divide" My.s_divide:=by
      dsimp only [L2.KOf]
      refine' L2.src_mk KX G ?a ?l ?c ?k
      (case a=>k_is); (case l=>k_is); (case c=>k_is); (case k=>k_is)
    have S_with_open:L2.Src (L2.KOf KX) mg "with_open" "with_open" My.s_with_open:=by
      dsimp only [L2.KOf]
      refine' L2.src_mk KX G ?a ?l ?c ?k
      (case a=>k_is); (case l=>k_is); (case c=>k_is); (case k=>k_is)
    have S_own_worth:L2.Src (L2.KOf KX) mg "own_worth" "own_worth" My.s_own_worth:=by
      dsimp only [L2.KOf]
      refine' L2.src_mk KX G ?a ?l ?c ?k
      (case a=>k_is); (case l=>k_is); (case c=>k_is); (case k=>k_is)
    have S_share_out:L2.Src (L2.KOf KX) mg "share_out" "share_out" My.s_share_out:=by
      dsimp only [L2.KOf]
      refine' L2.src_mk KX G ?a ?l ?c ?k
      (case a=>k_is); (case l=>k_is); (case c=>k_is); (case k=>k_is)
    have S_paid:L2.Src (L2.KOf KX) mg "paid" "paid" My.s_paid:=by
      dsimp only [L2.KOf]
      refine' L2.src_mk KX G ?a ?l ?c ?k
      (case a=>k_is); (case l=>k_is); (case c=>k_is); (case k=>k_is)
    have S_shares:L2.Src (L2.KOf KX) mg "shares" "shares" My.s_shares:=by
      dsimp only [L2.KOf]
      refine' L2.src_mk KX G ?a ?l ?c ?k
      (case a=>k_is); (case l=>k_is); (case c=>k_is); (case k=>k_is)
    have S_level_rooms:L2.Src (L2.KOf KX) mg "level_rooms" "level_rooms" My.s_level_rooms:=by
      dsimp only [L2.KOf]
      refine' L2.src_mk KX G ?a ?l ?c ?k
      (case a=>k_is); (case l=>k_is); (case c=>k_is); (case k=>k_is)
    have S_product:L2.Src (L2.KOf KX) mg "product" "product" My.s_product:=by
      dsimp only [L2.KOf]
      refine' L2.src_mk KX G ?a ?l ?c ?k
      (case a=>k_is); (case l=>k_is); (case c=>k_is); (case k=>k_is)
    have S_all_lists:L2.Src (L2.KOf KX) mg "all_lists" "all_lists" My.s_all_lists:=by
      dsimp only [L2.KOf]
      refine' L2.src_mk KX G ?a ?l ?c ?k
      (case a=>k_is); (case l=>k_is); (case c=>k_is); (case k=>k_is)
    have S_all_ways:L2.Src (L2.KOf KX) mg "all_ways" "all_ways" My.s_all_ways:=by
      dsimp only [L2.KOf]
      refine' L2.src_mk KX G ?a ?l ?c ?k
      (case a=>k_is); (case l=>k_is); (case c=>k_is); (case k=>k_is)
    have S_is_way:L2.Src (L2.KOf KX) mg "is_way" "is_way" My.s_is_way:=by
      dsimp only [L2.KOf]
      refine' L2.src_mk KX G ?a ?l ?c ?k
      (case a=>k_is); (case l=>k_is); (case c=>k_is); (case k=>k_is)
    have S_lie_near:L2.Src (L2.KOf KX) mg "lie_near" "lie_near" My.s_lie_near:=by
      dsimp only [L2.KOf]
      refine' L2.src_mk KX G ?a ?l ?c ?k
      (case a=>k_is); (case l=>k_is); (case c=>k_is); (case k=>k_is)
    have S_near_count:L2.Src (L2.KOf KX) mg "near_count" "near_count" My.s_near_count:=by
      dsimp only [L2.KOf]
      refine' L2.src_mk KX G ?a ?l ?c ?k
      (case a=>k_is); (case l=>k_is); (case c=>k_is); (case k=>k_is)
    have S_near_way:L2.Src (L2.KOf KX) mg "near_way" "near_way" My.s_near_way:=by
      dsimp only [L2.KOf]
      refine' L2.src_mk KX G ?a ?l ?c ?k
      (case a=>k_is); (case l=>k_is); (case c=>k_is); (case k=>k_is)
    have S__law_cell_at:L2.Src (L2.KOf KX) mg "_law_cell_at" "_law_cell_at" My.s__law_cell_at:=by
      dsimp only [L2.KOf]
      refine' L2.src_mk KX G ?a ?l ?c ?k
      (case a=>k_is); (case l=>k_is); (case c=>k_is); (case k=>k_is)
    have S__law_mixed:L2.Src (L2.KOf KX) mg "_law_mixed" "_law_mixed" My.s__law_mixed:=by
      dsimp only [L2.KOf]
      refine' L2.src_mk KX G ?a ?l ?c ?k
      (case a=>k_is); (case l=>k_is); (case c=>k_is); (case k=>k_is)
    have S__law_beds:L2.Src (L2.KOf KX) mg "_law_beds" "_law_beds" My.s__law_beds:=by
      dsimp only [L2.KOf]
      refine' L2.src_mk KX G ?a ?l ?c ?k
      (case a=>k_is); (case l=>k_is); (case c=>k_is); (case k=>k_is)
    have S__law_worths:L2.Src (L2.KOf KX) mg "_law_worths" "_law_worths" My.s__law_worths:=by
      dsimp only [L2.KOf]
      refine' L2.src_mk KX G ?a ?l ?c ?k
      (case a=>k_is); (case l=>k_is); (case c=>k_is); (case k=>k_is)
    have S__law_house:L2.Src (L2.KOf KX) mg "_law_house" "_law_house" My.s__law_house:=by
      dsimp only [L2.KOf]
      refine' L2.src_mk KX G ?a ?l ?c ?k
      (case a=>k_is); (case l=>k_is); (case c=>k_is); (case k=>k_is)
    have S__law_broad:L2.Src (L2.KOf KX) mg "_law_broad" "_law_broad" My.s__law_broad:=by
      dsimp only [L2.KOf]
      refine' L2.src_mk KX G ?a ?l ?c ?k
      (case a=>k_is); (case l=>k_is); (case c=>k_is); (case k=>k_is)
    have S__law_whole:L2.Src (L2.KOf KX) mg "_law_whole" "_law_whole" My.s__law_whole:=by
      dsimp only [L2.KOf]
      refine' L2.src_mk KX G ?a ?l ?c ?k
      (case a=>k_is); (case l=>k_is); (case c=>k_is); (case k=>k_is)
    have S__law_wings:L2.Src (L2.KOf KX) mg "_law_wings" "_law_wings" My.s__law_wings:=by
      dsimp only [L2.KOf]
      refine' L2.src_mk KX G ?a ?l ?c ?k
      (case a=>k_is); (case l=>k_is); (case c=>k_is); (case k=>k_is)
    have S__law_pairs:L2.Src (L2.KOf KX) mg "_law_pairs" "_law_pairs" My.s__law_pairs:=by
      dsimp only [L2.KOf]
      refine' L2.src_mk KX G ?a ?l ?c ?k
      (case a=>k_is); (case l=>k_is); (case c=>k_is); (case k=>k_is)
    have S__law_near:L2.Src (L2.KOf KX) mg "_law_near" "_law_near" My.s__law_near:=by
      dsimp only [L2.KOf]
      refine' L2.src_mk KX G ?a ?l ?c ?k
      (case a=>k_is); (case l=>k_is); (case c=>k_is); (case k=>k_is)
    have S__law_ways:L2.Src (L2.KOf KX) mg "_law_ways" "_law_ways" My.s__law_ways:=by
      dsimp only [L2.KOf]
      refine' L2.src_mk KX G ?a ?l ?c ?k
      (case a=>k_is); (case l=>k_is); (case c=>k_is); (case k=>k_is)
    have S__law_asked:L2.Src (L2.KOf KX) mg "_law_asked" "_law_asked" My.s__law_asked:=by
      dsimp only [L2.KOf]
      refine' L2.src_mk KX G ?a ?l ?c ?k
      (case a=>k_is); (case l=>k_is); (case c=>k_is); (case k=>k_is)
    have S_law:L2.Src (L2.KOf KX) mg "law" "law" My.s_law:=by
      dsimp only [L2.KOf]
      refine' L2.src_mk KX G ?a ?l ?c ?k
      (case a=>k_is); (case l=>k_is); (case c=>k_is); (case k=>k_is)
    obtain ⟨C,HC,M___init__,M_people,M_rooms⟩:∃ C,L2.HCls (L2.KOf KX) mg C∧L2.MSrc (L2.KOf KX) C "__init__" "House.__init__" My.s___init__∧L2.MSrc (L2.KOf KX) C "people" "House.people" My.s_people∧L2.MSrc (L2.KOf KX) C "rooms" "House.rooms" My.s_rooms:=by
      dsimp only [L2.KOf]
      refine' ⟨_,⟨PySem.W.mg_of KX G ?aC,⟨?pg,?hd,?po,?sa⟩,?mk,?kc,?n1,?n2,?n3⟩,L2.msrc_mk ?a0 ?i0 ?l0 ?c0 ?k0,L2.msrc_mk ?a1 ?i1 ?l1 ?c1 ?k1,L2.msrc_mk ?a2 ?i2 ?l2 ?c2 ?k2⟩
      (case aC=>k_is); (case a0=>k_is); (case i0=>k_is); (case l0=>k_is); (case c0=>k_is); (case k0=>k_is); (case a1=>k_is); (case i1=>k_is); (case l1=>k_is); (case c1=>k_is); (case k1=>k_is); (case a2=>k_is); (case i2=>k_is); (case l2=>k_is); (case c2=>k_is); (case k2=>k_is)
      (case pg=>k_is); (case hd=>k_is); (case po=>k_is); (case sa=>k_is); (case mk=>k_is); (case kc=>k_is); (case n1=>dsimp only [L2.NoAttr]; k_is); (case n2=>dsimp only [L2.NoAttr]; k_is); (case n3=>dsimp only [L2.NoAttr]; k_is)
    obtain ⟨CWorst,CEven,HWorst,SWorst___init__,SWorst_through,SWorst_gain,SWorst_whole,SWorst_price,HEven,SEven___init__,SEven_through,SEven_gain,SEven_whole,SEven_price⟩:∃ CWorst CEven,L2.AimCls (L2.KOf KX) mg CWorst "Worst"∧L2.MSrc (L2.KOf KX) CWorst "__init__" "Aim.__init__" My.s_Aim___init__∧L2.MSrc (L2.KOf KX) CWorst "through" "Worst.through" My.s_Worst_through∧L2.MSrc (L2.KOf KX) CWorst "gain" "Worst.gain" My.s_Worst_gain∧L2.MSrc (L2.KOf KX) CWorst "whole" "Worst.whole" My.s_Worst_whole∧L2.MSrc (L2.KOf KX) CWorst "price" "Worst.price" My.s_Worst_price∧L2.AimCls (L2.KOf KX) mg CEven "Even"∧L2.MSrc (L2.KOf KX) CEven "__init__" "Aim.__init__" My.s_Aim___init__∧L2.MSrc (L2.KOf KX) CEven "through" "Even.through" My.s_Even_through∧L2.MSrc (L2.KOf KX) CEven "gain" "Even.gain" My.s_Even_gain∧L2.MSrc (L2.KOf KX) CEven "whole" "Even.whole" My.s_Even_whole∧L2.MSrc (L2.KOf KX) CEven "price" "Even.price" My.s_Even_price:=by
      dsimp only [L2.KOf]
      refine' ⟨_,_,⟨PySem.W.mg_of KX G ?aC0,⟨?pg0,?hd0,?po0,?sa0⟩,?mk0,?kc0,?n10,?n20⟩,L2.msrc_mk ?a0_0 ?i0_0 ?l0_0 ?c0_0 ?k0_0,L2.msrc_mk ?a0_1 ?i0_1 ?l0_1 ?c0_1 ?k0_1,L2.msrc_mk ?a0_2 ?i0_2 ?l0_2 ?c0_2 ?k0_2,L2.msrc_mk ?a0_3 ?i0_3 ?l0_3 ?c0_3 ?k0_3,L2.msrc_mk ?a0_4 ?i0_4 ?l0_4 ?c0_4 ?k0_4,⟨PySem.W.mg_of KX G ?aC1,⟨?pg1,?hd1,?po1,?sa1⟩,?mk1,?kc1,?n11,?n21⟩,L2.msrc_mk ?a1_0 ?i1_0 ?l1_0 ?c1_0 ?k1_0,L2.msrc_mk ?a1_1 ?i1_1 ?l1_1 ?c1_1 ?k1_1,L2.msrc_mk ?a1_2 ?i1_2 ?l1_2 ?c1_2 ?k1_2,L2.msrc_mk ?a1_3 ?i1_3 ?l1_3 ?c1_3 ?k1_3,L2.msrc_mk ?a1_4 ?i1_4 ?l1_4 ?c1_4 ?k1_4⟩
      (case aC0=>k_is); (case a0_0=>k_is); (case i0_0=>k_is); (case l0_0=>k_is); (case c0_0=>k_is); (case k0_0=>k_is); (case a0_1=>k_is); (case i0_1=>k_is); (case l0_1=>k_is); (case c0_1=>k_is); (case k0_1=>k_is); (case a0_2=>k_is); (case i0_2=>k_is); (case l0_2=>k_is); (case c0_2=>k_is); (case k0_2=>k_is); (case a0_3=>k_is); (case i0_3=>k_is); (case l0_3=>k_is); (case c0_3=>k_is); (case k0_3=>k_is); (case a0_4=>k_is); (case i0_4=>k_is); (case l0_4=>k_is); (case c0_4=>k_is); (case k0_4=>k_is)
      (case pg0=>k_is); (case hd0=>k_is); (case po0=>k_is); (case sa0=>k_is); (case mk0=>k_is); (case kc0=>k_is); (case n10=>dsimp only [L2.NoAttr]; k_is); (case n20=>dsimp only [L2.NoAttr]; k_is)
      (case aC1=>k_is); (case a1_0=>k_is); (case i1_0=>k_is); (case l1_0=>k_is); (case c1_0=>k_is); (case k1_0=>k_is); (case a1_1=>k_is); (case i1_1=>k_is); (case l1_1=>k_is); (case c1_1=>k_is); (case k1_1=>k_is); (case a1_2=>k_is); (case i1_2=>k_is); (case l1_2=>k_is); (case c1_2=>k_is); (case k1_2=>k_is); (case a1_3=>k_is); (case i1_3=>k_is); (case l1_3=>k_is); (case c1_3=>k_is); (case k1_3=>k_is); (case a1_4=>k_is); (case i1_4=>k_is); (case l1_4=>k_is); (case c1_4=>k_is); (case k1_4=>k_is)
      (case pg1=>k_is); (case hd1=>k_is); (case po1=>k_is); (case sa1=>k_is); (case mk1=>k_is); (case kc1=>k_is); (case n11=>dsimp only [L2.NoAttr]; k_is); (case n21=>dsimp only [L2.NoAttr]; k_is)
    have T:My.Txt mg:=by
      refine' ⟨PySem.W.mg_none_of KX G ?z0,PySem.W.mg_none_of KX G ?z1,PySem.W.mg_none_of KX G ?z2,PySem.W.mg_none_of KX G ?z3,PySem.W.mg_none_of KX G ?z4,PySem.W.mg_none_of KX G ?z5,PySem.W.mg_none_of KX G ?z6,PySem.W.mg_none_of KX G ?z7,PySem.W.mg_none_of KX G ?z8,PySem.W.mg_none_of KX G ?z9,PySem.W.mg_none_of KX G ?z10,PySem.W.mg_none_of KX G ?z11,PySem.W.mg_none_of KX G ?z12,PySem.W.mg_none_of KX G ?z13,PySem.W.mg_none_of KX G ?z14,⟨_,PySem.W.mg_of KX G ?z15,?y15⟩⟩
      (case z0=>k_is); (case z1=>k_is); (case z2=>k_is); (case z3=>k_is); (case z4=>k_is); (case z5=>k_is); (case z6=>k_is); (case z7=>k_is); (case z8=>k_is); (case z9=>k_is); (case z10=>k_is); (case z11=>k_is); (case z12=>k_is); (case z13=>k_is); (case z14=>k_is); (case z15=>k_is); (case y15=>exact ⟨_,rfl⟩)
    refine L2.law_fdT S_law (fun _ _ _ _ _ _ _=>rfl) (fun base hB=>?_) hmg
    have BA2:=hB _ List.mem_cons_self
    have BA1:=hB _ (List.mem_cons_of_mem _ List.mem_cons_self)
    obtain ⟨cR,S_best_room⟩:∃ c,L2.SrcL (L2.KOf KX) mg "best_room" "best_room" My.s_best_room c _:=by
      dsimp only [L2.KOf]
      refine' L2.srcL_at "best_room" "best_room" My.s_best_room (L2.one_mem BA2) KX G ?a ?l ?c ?k ?hd
      (case a=>k_is); (case l=>k_is); (case c=>k_is); (case k=>k_is); (case hd=>kernel_rfl)
    obtain ⟨cB,S_bring_in⟩:∃ c,L2.SrcL (L2.KOf KX) mg "bring_in" "bring_in" My.s_bring_in c _:=by
      dsimp only [L2.KOf]
      refine' L2.srcL_at "bring_in" "bring_in" My.s_bring_in (L2.one_mem BA1) KX G ?a2 ?l2 ?c2 ?k2 ?hd2
      (case a2=>k_is); (case l2=>k_is); (case c2=>k_is); (case k2=>k_is); (case hd2=>kernel_rfl)
    have Dm:=My.D_mixed (P:=PySem.Challenge.rw_rentshare_k75_near_way.prog) (w:=w) (base:=base) S__law_mixed
    have Da:=My.D_cell (P:=PySem.Challenge.rw_rentshare_k75_near_way.prog) (w:=w) (base:=base) T S__law_cell_at
    have Mi:=My.D_init (P:=PySem.Challenge.rw_rentshare_k75_near_way.prog) (w:=w) (base:=base) T HC M___init__
    have Mr:=My.D_rooms (P:=PySem.Challenge.rw_rentshare_k75_near_way.prog) (w:=w) (base:=base) T HC M_rooms
    have Mp:=My.D_people (P:=PySem.Challenge.rw_rentshare_k75_near_way.prog) (w:=w) (base:=base) T HC M_people
    have Do:=My.D_open (P:=PySem.Challenge.rw_rentshare_k75_near_way.prog) (w:=w) (base:=base) T HC S_open_rooms (My.D_lying T HC S_lying Mr) Mr
    have Dbr:=My.D_bring (P:=PySem.Challenge.rw_rentshare_k75_near_way.prog) (w:=w) (base:=base) T HC S_bring_in BA1 Do (My.D_improve T HC S_improve Mr) Mr
    have Dbw:=My.D_best (P:=PySem.Challenge.rw_rentshare_k75_near_way.prog) (w:=w) (base:=base) T HC S_best_way Dbr Mp
    have Dwo:=My.D_withopen (P:=PySem.Challenge.rw_rentshare_k75_near_way.prog) (w:=w) (base:=base) T HC S_with_open Do
    have Dow:=My.D_ownworth (P:=PySem.Challenge.rw_rentshare_k75_near_way.prog) (w:=w) (base:=base) T HC S_own_worth
    have Wt:=My.D_Wthrough (P:=PySem.Challenge.rw_rentshare_k75_near_way.prog) (w:=w) (base:=base) T HWorst.a SWorst_through Dwo
    have Wg:=My.D_Wgain (P:=PySem.Challenge.rw_rentshare_k75_near_way.prog) (w:=w) (base:=base) T HC HWorst.a SWorst_gain Dow
    have Et:=My.D_Ethrough (P:=PySem.Challenge.rw_rentshare_k75_near_way.prog) (w:=w) (base:=base) T HEven.a SEven_through Dwo
    have Eg:=My.D_Egain (P:=PySem.Challenge.rw_rentshare_k75_near_way.prog) (w:=w) (base:=base) T HC HEven.a SEven_gain Dow
    have Dro:=My.D_bestroom (P:=PySem.Challenge.rw_rentshare_k75_near_way.prog) (w:=w) (base:=base) T HC HWorst HEven S_best_room BA2 Wg Eg
    have Dbh:=My.D_besthops (P:=PySem.Challenge.rw_rentshare_k75_near_way.prog) (w:=w) (base:=base) T HC HWorst HEven S_best_hops Wt Et Mp Dro
    have Dca:=My.D_carryF (P:=PySem.Challenge.rw_rentshare_k75_near_way.prog) (w:=w) (base:=base) T HC HWorst HEven S_carry Wg Eg Dbh (My.D_hoponF T S_hop_on)
    have Dgr:=My.D_greatestF (P:=PySem.Challenge.rw_rentshare_k75_near_way.prog) (w:=w) (base:=base) T HC HWorst HEven S_greatest Mp Dca
    have Dh:=My.D_house (P:=PySem.Challenge.rw_rentshare_k75_near_way.prog) (w:=w) (base:=base) T S__law_house Dm Da (My.D_beds T S__law_beds Dm) (My.D_worths T S__law_worths Dm)
    have Dis:=My.D_ishop (P:=PySem.Challenge.rw_rentshare_k75_near_way.prog) (w:=w) (base:=base) T HC HWorst HEven S_is_hop Wt Et Mp
    have Dcg:=My.D_cgain (P:=PySem.Challenge.rw_rentshare_k75_near_way.prog) (w:=w) (base:=base) T HC HWorst HEven S_chain_gain Wg Eg Dis
    have Dwf:=My.D_worthof (P:=PySem.Challenge.rw_rentshare_k75_near_way.prog) (w:=w) (base:=base) T HC S_worth_of Mp
    have Ww:=My.D_Wwhole (P:=PySem.Challenge.rw_rentshare_k75_near_way.prog) (w:=w) (base:=base) T HC HWorst.a SWorst_whole Dwf
    have Ew:=My.D_Ewhole (P:=PySem.Challenge.rw_rentshare_k75_near_way.prog) (w:=w) (base:=base) T HC HEven.a SEven_whole
    have Wp:=My.D_Wprice (P:=PySem.Challenge.rw_rentshare_k75_near_way.prog) (w:=w) (base:=base) T HWorst.a SWorst_price Dow
    have Dbo:=My.D_bound (P:=PySem.Challenge.rw_rentshare_k75_near_way.prog) (w:=w) (base:=base) T HC HWorst HEven S_bound Ww Ew Mp Dcg
    have Dlo:=My.D_lowestF (P:=PySem.Challenge.rw_rentshare_k75_near_way.prog) (w:=w) (base:=base) T S_lowest (My.D_cd S_common_divisor)
    have Dpa:=My.D_pricesat (P:=PySem.Challenge.rw_rentshare_k75_near_way.prog) (w:=w) (base:=base) T HC HWorst HEven S_prices_at Wp (My.D_Eprice T SEven_price) Mr (My.D_roomprice T HWorst HEven S_room_price) Dlo
    have Ddi:=My.D_divide (P:=PySem.Challenge.rw_rentshare_k75_near_way.prog) (w:=w) (base:=base) T S_divide Dgr Dbo Dpa
    obtain ⟨eM,HE⟩:∃ eM,L2.ErrM (L2.KOf KX) mg eM:=by
      dsimp only [L2.KOf]
      refine' ⟨_,⟨PySem.W.mg_of KX G ?a1,L2.excOk_mk ?x1 ?x2 ?x3 ?x4 ?x5 ?x6 ?x7 ?x8 ?x9 ?x10⟩⟩
      (case a1=>k_is)
      (case x1=>k_exc); (case x2=>k_is); (case x3=>k_is); (case x4=>k_is); (case x5=>k_is); (case x6=>k_is); (case x7=>k_is); (case x8=>k_is); (case x9=>kts_exm); (case x10=>kit_is)
    have Dpd:=My.D_paid (P:=PySem.Challenge.rw_rentshare_k75_near_way.prog) (w:=w) (base:=base) T S_paid
    have Dsh:=My.D_shares (P:=PySem.Challenge.rw_rentshare_k75_near_way.prog) (w:=w) (base:=base) T HC S_shares Dpd Mp
    have Dso:=My.D_shareout (P:=PySem.Challenge.rw_rentshare_k75_near_way.prog) (w:=w) (base:=base) (by decide) T HC HWorst HEven S_share_out (My.D_ainit T HWorst.a SWorst___init__) (My.D_ainit T HEven.a SEven___init__) Dbw Ddi
    have Dlv:=My.D_level (P:=PySem.Challenge.rw_rentshare_k75_near_way.prog) (w:=w) (base:=base) T HC S_level_rooms Dso Dsh Mp Mr
    have Diw:=My.D_isway (P:=PySem.Challenge.rw_rentshare_k75_near_way.prog) (w:=w) (base:=base) T HC S_is_way (My.D_lying T HC S_lying Mr) Mp Mr
    have Daw:=My.D_allways (P:=PySem.Challenge.rw_rentshare_k75_near_way.prog) (w:=w) (base:=base) T HC HE S_all_ways Dlv (My.D_product T S_product) (My.D_alllists T S_all_lists) Diw Dwf
    have Dnw:=My.D_nearway (P:=PySem.Challenge.rw_rentshare_k75_near_way.prog) (w:=w) (base:=base) T S_near_way Daw (My.D_near T S_near_count (My.D_lie T S_lie_near))
    exact My.D_law T HC S_law Mi Dm Da Dh (My.D_broad75 T S__law_broad Dm Da) (My.D_wings74 T S__law_wings Dm Da) (My.D_pairs75 T S__law_pairs Dm Da) (My.D_asked75 T HE S__law_asked Dnw) (My.D_ways75 T HE S__law_ways Daw) (My.D_lnear T S__law_near) (My.D_whole T S__law_whole)
#print axioms PySem.Challenge.cw_rentshare_k75_near_way_holds
