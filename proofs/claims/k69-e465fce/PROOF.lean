import PyProof.Rows.All
import Wide.All
import OpenK.AllK
import Wide.FinOn
import Lean
import PyProof.EqAt
import PyProof.EqKinds
import PyProof.TupleCall
import PySem.Challenge.RW_rentshare_k69_whole_purses
set_option Elab.async false
set_option linter.all false
set_option maxHeartbeats 4000000
set_option maxRecDepth 100000
set_option compiler.extract_closed false
namespace Zx
open Lean Parser Tactic
section
variable {α β γ δ ε ζ η θ:Sort _}{A B C D E F G H I J K L M:Prop}
theorem i2 {p:α->β->Prop}(a b)(x:p a b):∃ a b,p a b:=⟨a,b,x⟩
theorem e2 {p:α->β->Prop}(x:∃ a b,p a b)(k:∀ a b,p a b->G):G:=x.elim λa x=>x.elim λb x=>k a b x
theorem i3 {p:α->β->γ->Prop}(a b c)(x:p a b c):∃ a b c,p a b c:=⟨a,b,c,x⟩
theorem e3 {p:α->β->γ->Prop}(x:∃ a b c,p a b c)(k:∀ a b c,p a b c->G):G:=x.elim λa x=>x.elim λb x=>x.elim λc x=>k a b c x
theorem i4 {p:α->β->γ->δ->Prop}(a b c d)(x:p a b c d):∃ a b c d,p a b c d:=⟨a,b,c,d,x⟩
theorem e4 {p:α->β->γ->δ->Prop}(x:∃ a b c d,p a b c d)(k:∀ a b c d,p a b c d->G):G:=x.elim λa x=>x.elim λb x=>x.elim λc x=>x.elim λd x=>k a b c d x
theorem i5 {p:α->β->γ->δ->ε->Prop}(a b c d e)(x:p a b c d e):∃ a b c d e,p a b c d e:=⟨a,b,c,d,e,x⟩
theorem e5 {p:α->β->γ->δ->ε->Prop}(x:∃ a b c d e,p a b c d e)(k:∀ a b c d e,p a b c d e->G):G:=x.elim λa x=>x.elim λb x=>x.elim λc x=>x.elim λd x=>x.elim λe x=>k a b c d e x
theorem i6 {p:α->β->γ->δ->ε->ζ->Prop}(a b c d e f)(x:p a b c d e f):∃ a b c d e f,p a b c d e f:=⟨a,b,c,d,e,f,x⟩
theorem e6 {p:α->β->γ->δ->ε->ζ->Prop}(x:∃ a b c d e f,p a b c d e f)(k:∀ a b c d e f,p a b c d e f->G):G:=x.elim λa x=>x.elim λb x=>x.elim λc x=>x.elim λd x=>x.elim λe x=>x.elim λf x=>k a b c d e f x
theorem a2 (x:A∧B)(k:A->B->G):G:=k x.1 x.2
theorem a3 (x:A∧B∧C)(k:A->B->C->G):G:=k x.1 x.2.1 x.2.2
theorem a4 (x:A∧B∧C∧D)(k:A->B->C->D->G):G:=k x.1 x.2.1 x.2.2.1 x.2.2.2
theorem a5 (x:A∧B∧C∧D∧E)(k:A->B->C->D->E->G):G:=k x.1 x.2.1 x.2.2.1 x.2.2.2.1 x.2.2.2.2
theorem a6 (x:A∧B∧C∧D∧E∧F)(k:A->B->C->D->E->F->G):G:=k x.1 x.2.1 x.2.2.1 x.2.2.2.1 x.2.2.2.2.1 x.2.2.2.2.2
theorem a7 (x:A∧B∧C∧D∧E∧F∧H)(k:A->B->C->D->E->F->H->G):G:=k x.1 x.2.1 x.2.2.1 x.2.2.2.1 x.2.2.2.2.1 x.2.2.2.2.2.1 x.2.2.2.2.2.2
theorem a8 (x:A∧B∧C∧D∧E∧F∧H∧I)(k:A->B->C->D->E->F->H->I->G):G:=k x.1 x.2.1 x.2.2.1 x.2.2.2.1 x.2.2.2.2.1 x.2.2.2.2.2.1 x.2.2.2.2.2.2.1 x.2.2.2.2.2.2.2
theorem a9 (x:A∧B∧C∧D∧E∧F∧H∧I∧J)(k:A->B->C->D->E->F->H->I->J->G):G:=k x.1 x.2.1 x.2.2.1 x.2.2.2.1 x.2.2.2.2.1 x.2.2.2.2.2.1 x.2.2.2.2.2.2.1 x.2.2.2.2.2.2.2.1 x.2.2.2.2.2.2.2.2
end
abbrev S:=Syntax
abbrev L:=List S
abbrev T:=TSyntax `tactic
abbrev M:=MacroM T
def seq (a b:T):M:=`(tactic| ($a:tactic;$b:tactic))
def fst (a b:T):M:=`(tactic| first|($a:tactic)|($b:tactic))
def thn (a b:T):M:=`(tactic| $a<;>$b)
def rf (f:String) (e:S) (xs:L):M :=
 let xs:Array (TSyntax `term):=⟨xs.map (⟨·⟩)⟩
 `(tactic| refine $(mkIdent (.mkStr `Zx f)) $(⟨e⟩) λ$xs*=>?_)
def clr (e:S):M:=if e.isIdent then `(tactic| try clear $(⟨e⟩):ident) else `(tactic| skip)
def rc (e p:S):M:=`(tactic| rcases $(⟨e⟩):term with $(⟨p⟩):rcasesPatLo)
def z (j:Nat):S:=mkIdent (.mkSimple s!"z'{j}")
def lo (p:S):S:=mkNode ``rcasesPatLo #[mkNode ``rcasesPatMed #[mkNullNode #[p]],mkNullNode]
def tu (a:Array S):S:=lo (mkNode ``rcasesPat.tuple #[mkAtom "⟨",Syntax.mkSep a (mkAtom ","),mkAtom "⟩"])
def tup (a:L):S:=tu ⟨a⟩
def pat:Nat->S->S
|0,t=>t
|n + 1,t=>if t.isOfKind ``Term.anonymousCtor then tu (t[1].getSepArgs.map (pat n)) else lo (if t.isOfKind ``Term.hole then mkNode ``rcasesPat.ignore #[mkAtom "_"] else mkNode ``rcasesPat.one #[t])
def nm (p:S):Option S :=
 let s:=p[0][0][0]
 if p[0][0].getNumArgs !=1 then none
 else if s.isOfKind ``rcasesPat.one&&s[0].getId !=`rfl then some s[0]
 else if s.isOfKind ``rcasesPat.ignore then some (mkHole s) else none
def fin:Nat->L->T->M
|_,[],t=>pure t
|j,p::ps,t=>if (nm p).isSome then fin (j + 1) ps t else do fin (j + 1) ps (← thn t (← rc (z j) p))
def nms:Nat->L->L
|_,[]=>[]
|j,p::ps=>(nm p).getD (z j)::nms (j + 1) ps
def cut:Nat->L->L
|0,ps=>if ps.length > 1 then [tup ps] else ps
|_,[]=>[]
|n + 1,p::ps=>p::cut n ps
def ands (x:S) (r:L):M:=do
 let h:=cut 8 r
 let t ← seq (← rf s!"a{h.length}" x (nms 0 h)) (← clr x)
 fst (← fin 0 h t) (← rc x (tup r))
def mor (e:S) (ps:L):M:=do
 let a ← ands e ps
 let f (a:T) (k:Nat):M:=do
  let t ← seq (← rf s!"e{k}" e (nms 0 (ps.take k)++[z 95])) (← clr e)
  fst (← seq t (← ands (z 95) (ps.drop k))) a
 f (← f (← f (← f (← f a 2) 3) 4) 5) 6
def ex (e:S) (ps:L):Nat->M
|0|1=>ands e ps
|k + 1=>do
  let r:=ps.drop (k + 1)
  let y:=match r with|[p]=>(nm p).getD (z 99)|_=>z 99
  let t ← seq (← rf s!"e{k + 1}" e (nms 0 (ps.take (k + 1))++[y])) (← clr e)
  let t ← match r with|[p]=>if (nm p).isSome then pure t else seq t (← rc y p)|_=>seq t (← if k==5 then mor y r else ands y r)
  fst t (← ex e ps k)
def obt (e:S) (ps:L):M:=do
 let m:=min 6 (min (ps.length - 1) (ps.takeWhile λp=>(nm p).isSome).length)
 if e.isIdent&&ps.any λp=>p[0][0][0][0].getId==e.getId then
  seq (← `(tactic| have $(⟨z 98⟩):ident:=$(⟨e⟩))) (← seq (← clr e) (← ex (z 98) ps m))
 else ex e ps m
def lt (s:S):M:=do
 let d:=s[2][0]
 if !d[0].isOfKind ``Term.anonymousCtor||d[2].getNumArgs !=0 then Macro.throwUnsupported
 let a:=d[0][1].getSepArgs.map (pat 9)
 if a.size < 3 then rc d[4] (tu a) else obt d[4] a.toList
def ob (s:S):M:=do
 let p:=s[1][0][0]
 if s[2].getNumArgs !=0||s[3].getNumArgs !=2||p.getNumArgs !=1||!p[0].isOfKind ``rcasesPat.tuple||p[0][1].getNumArgs < 5 then Macro.throwUnsupported
 obt s[3][1][0] p[0][1].getSepArgs.toList
def par (s:S) (r:L):MacroM S:=do
 match r with
|[x]=>pure x
|r=>do pure (← `(($(⟨s[1].setArg 1 (Syntax.mkSep ⟨r⟩ (mkAtom ","))⟩)))).raw
def nat (s:S) (r:L):M:=do return ⟨s.setArg 1 (← par s r)⟩
def wit (ws:L):M:=do
 let i:=mkIdent (.mkStr `Zx s!"i{ws.length}")
 let a:Array (TSyntax `term):=⟨ws.map (⟨·⟩)⟩
 if ws.any (·.isOfKind ``Term.hole) then `(tactic| apply ($i $a*)) else `(tactic| refine $i $a* ?_)
def cts (f:L->M) (s:S) (es:L):Nat->M
|0|1=>nat s es
|k + 1=>do
  let r:=es.drop (k + 1)
  fst (← seq (← wit (es.take (k + 1))) (← if k==5&&r.length > 2 then f r else nat s r)) (← cts f s es k)
def ct (s:S):M:=do
 if !s[1].isOfKind ``Term.anonymousCtor||s[1][1].getNumArgs < 7 then Macro.throwUnsupported
 let es:=s[1][1].getSepArgs.toList
 cts (λr=>cts (nat s) s r (min 6 (r.length - 1))) s es (min 6 (es.length - 1))
def big (p:S):Bool:=p.isOfKind ``rcasesPat.tuple&&p[1].getNumArgs > 4
def ri (s:S):L->T->M
|[],t=>pure t
|p::ps,t=>do
  let u ← if big p[0] then seq (← `(tactic| intro $(⟨z 97⟩):ident)) (← obt (z 97) p[0][1].getSepArgs.toList) else pure ⟨s.setArg 1 (mkNullNode #[p])⟩
  ri s ps (← thn t u)
def alt (c:T) (x:S):M:=do
 if big x then seq c (← obt (z 96) x[1].getSepArgs.toList)
 else if x.isOfKind ``rcasesPat.one&&x[0].getId !=`rfl then pure c
 else seq c (← `(tactic| rcases $(⟨z 96⟩):term with $(⟨x⟩):rcasesPat))
def rcs (s:S):M:=do
 let a:=s[2][1][0][0].getSepArgs
 if s[2].getNumArgs !=2||s[1].getNumArgs !=1||a.size !=2||!a.any big then Macro.throwUnsupported
 let e:=s[1][0][1]
 let n (x:S):S:=if x.isOfKind ``rcasesPat.one&&x[0].getId !=`rfl then x[0] else z 96
 if e.isIdent&&a.any λx=>x[0].getId==e.getId then Macro.throwUnsupported
 let c ← clr e
 `(tactic| (refine Or.elim $(⟨e⟩) (λ$(⟨n a[0]!⟩)=>?_) (λ$(⟨n a[1]!⟩)=>?_);rotate_left;$(← alt c a[1]!):tactic;rotate_right;$(← alt c a[0]!):tactic))
def dec (c:Char):Nat:=let n:=c.toNat;if n < 64 then n - 40 else if n < 92 then n - 41 else n - 42
def tw:List Char->Nat->Nat->Array S->MacroM (Array S)
|[],_,_,a=>pure a
|c::cs,9,n,a=>do tw cs 0 0 (a.push (← `(command| theorem $(mkIdent (.mkStr `PySem.W.Fast s!"tw{n * 85 + dec c}")) :True:=⟨⟩)))
|c::cs,j,n,a=>tw cs (j + 1) (n * 85 + dec c) a
end Zx
local macro_rules (kind:=Lean.Parser.Tactic.obtain) | s => Zx.ob s
local macro_rules (kind:=Lean.Parser.Tactic.refine) | s => Zx.ct s
local macro_rules (kind:=Lean.Parser.Tactic.exact) | s => Zx.ct s
local macro_rules (kind:=Lean.Parser.Tactic.rintro) | s => do
  if s[1].getArgs.any fun p => Zx.big p[0] then Zx.ri s s[1].getArgs.toList (← `(tactic| skip)) else Lean.Macro.throwUnsupported
local macro_rules (kind:=Lean.Parser.Tactic.rcases) | s => Zx.rcs s
local macro_rules (kind:=Lean.Parser.Tactic.tacticLet__) | s => Zx.lt s
local macro_rules (kind:=Lean.Parser.Command.print) | s => match s[1].isStrLit? with | some t => return Lean.mkNullNode (← Zx.tw t.toList 0 0 #[]) | none => Lean.Macro.throwUnsupported
local macro_rules | `(tactic| lia) => `(tactic| first | (law_clear;law_purse 4000=>lia -verbose) | omega)
local macro_rules | `("o") => `(by lia)
abbrev G3:=PySem.Value
abbrev G4:=PySem.Shared
abbrev G5:=PySem.Addr
abbrev G6:=PySem.SetTable
abbrev G7:=PySem.Around
abbrev G8:=PySem.Program
abbrev G9:=List (G5 × PySem.Obj)
abbrev J5:=List (List Int)
abbrev J6:=List (List Nat)
abbrev J7:=List (Option Int)
abbrev J8:=List (Option Nat)
abbrev J9:=PySem.Str->Option G3
abbrev K1:=G3->G4->Prop
abbrev K3:=List Int
abbrev K4:=List Nat
abbrev K5:=List G3
abbrev K6:=List G5
abbrev K7:=Option G3
abbrev K8:=Option Int
abbrev K9:=List PySem.Str
abbrev M4:=List PySem.Expr
abbrev M5:=Option G5
def M6:=@PySem.wpAny_bind
abbrev M7:=PySem.W.Frag
def M8:=@PySem.wpAny_pure
def M9:=@List.getElem_mem
def N5:=@List.getElem?_eq_some_iff
def N6:=@PySem.Heap.lt_size
def N7:=@PySem.Heap.get?_push_of_some
def N8:=@List.mem_range
def O1:=@Nat.le_refl
def O3:=@List.mem_map
def O5:=@List.mem_append
def O6:=@Nat.le_trans
def O7:=@Nat.ne_of_lt
def O8:=@decide_eq_true
def O9:=@List.mem_cons_self
def P0:=@List.mem_append_right
def Q0:=@List.mem_cons_of_mem
def Q5:=@PySem.Heap.get?_push_size
def Q6:=@Int.le_refl
def Q7:=@of_decide_eq_true
def Q8:=@List.mem_cons
def Q9:=@Option.some.inj
def R3:=@List.getElem?_eq_getElem
def R4:=@Classical.byContradiction
def R5:=@List.mem_append_left
def R6:=@List.map_congr_left
def R7:=@Nat.zero_le
def R8:=@Bool.false_ne_true
def R9:=@List.mem_of_getElem?
def S8:=@decide_eq_false
def S9:=@Nat.lt_of_lt_of_le
def T3:=@List.mem_filter
def T5:=@PySem.wpAny_mono
def T6:=@Int.le_trans
def T7:=@Nat.lt_irrefl
def T8:=@PySem.Heap.SameBut.update
def T9:=@Int.mul_le_mul_of_nonneg_left
def U0:=@Int.mul_le_mul_of_nonneg_right
def U3:=@PySem.wpAny_holding
def U5:=@Bool.and_eq_true_iff
def U6:=@if_neg
def U7:=@List.ext_getElem
def U8:=@PySem.wpAny_newObj_type
def U9:=@Int.le_of_lt
def V0:=@Nat.lt_succ_self
def V1:=@PySem.wpAny_Call_Name_kw
def V2:=@if_pos
def V3:=@Nat.le_of_lt
def V4:=@PySem.W.kia_one
def V5:=@Nat.le_succ
def V6:=@Nat.lt_succ_of_lt
def V7:=@PySem.codeAny_builtin
def V8:=@List.count_pos_iff
def V9:=@PySem.wpAny_setState_of
def W2:=@PySem.wpAny_truthy_bool
def W3:=@List.length_filter_le
def W4:=@PySem.wpAny_of_eq
def W5:=@Int.emod_nonneg
def W6:=@congrArg
def W7:=@PyProof.Rows.callWith_type1
def W8:=@Nat.not_lt
def W9:=@PySem.Walks.list
def X3:=@List.mem_iff_getElem
def X4:=@PySem.plainId_quiet
def X5:=@PySem.wpAny_pyIter_list
def X6:=@PySem.Calls.spliced_nil
def X7:=@PySem.Calls.spliced_cons
def X8:=@PySem.wpAny_call_entry
def Z0:=@PySem.Obj.data_mapFields
def Z1:=@List.length_pos_of_mem
def Z2:=@Int.emod_lt_of_pos
def Z3:=@PySem.wpAny_passesOwn
def Z4:=@Nat.ne_of_gt
def Z5:=@List.mem_filterMap
def Z6:=@Option.isSome_iff_exists
def Z7:=@PyProof.Rows.get?_update_seq
def Z8:=@PySem.wpAny_standAt
def Z9:=@PySem.codeAny_mono
def A0a:=@PySem.wpAny_newList
def A0b:=@PySem.wpAny_tryCatch
def A0c:=@List.mem_or_eq_of_mem_set
def A0d:=@PySem.wpAny_askSetting
def A0e:=@List.length_eq_zero_iff
def A0f:=@PySem.wpAny_setField
def A0g:=@PyProof.Rows.listUpdate_at
def A0h:=@List.filter_congr
def A0i:=@PySem.F.plainAttrs_list
def A0j:=@beq_eq_false_iff_ne
def A0k:=@Nat.le_of_eq
def A0l:=@PySem.mem_of_lookup
def A0m:=@PySem.wpAny_callSpecial?_slot
def A0n:=@Nat.mul_le_mul_right
def A0o:=@PySem.wpAny_seqItems
def A0p:=@PySem.wpAny_attempt
def A0q:=@List.idxOf_lt_length_iff
def A0r:=@Int.mul_nonneg
def A0s:=@Int.le_of_mul_le_mul_left
def A0t:=@Int.eq_ofNat_of_zero_le
def A0u:=@List.getElem_of_mem
def A0v:=@PySem.W.hideAll_get
def A0w:=@PySem.wpAny_execs_nil
def A0x:=@Nat.lt_of_le_of_lt
def A0y:=@Nat.le_antisymm
def A0z:=@PySem.F.plain_max_loop
def A1a:=@Nat.not_lt_zero
def A1b:=@Int.eq_of_mul_eq_mul_left
def A1c:=@List.pairwise_iff_getElem
def A1d:=@Nat.mul_le_mul_left
def A1e:=@PySem.Heap.get?_update_self
def A1f:=@PySem.Obj.isFreed_of_fields
def A1g:=@Nat.pow_le_pow_right
def A1h:=@Int.le_of_mul_le_mul_right
def A1i:=@PySem.PassesOwn.never
def A1j:=@PySem.wpAny_comprehension_free
def A1k:=@List.getElem?_eq_none_iff
def A1l:=@PySem.F.entry_max_loop
def A1m:=@Int.mul_lt_mul_of_pos_left
def A1n:=@PySem.F.slot_list_count
def A1o:=@PySem.F.type_list_count
open List
namespace L2
open PySem PySem.Spec PyProof.Rows
variable {o:Obj} {a b C:G5} {h base:Heap} {w:World} {P:G8} {t' i k:Nat} {x:Str} {Q:Unit->G4->Prop} {u:G3} {E:K1} {A:G7} {M:Model} {e c tg:Expr} {s:G4} {pos:Pos} {dz:G9} {K:M7} {body:List Stmt} {f:G3->G3->Sem G3} {op:CmpOp} {us:K5} {pl:Sem Bool} {kw:List (Str × G3)}
abbrev Key:=Sum Int Str
def Qi3:Key->G3->Bool
 | .inl k,v=>Value.isInt k v
 | .inr x,v=>Value.isStrOf x v
def Zjq (w:World):Key->Int
 | .inl k=>hashInt k
 | .inr x=>hashStr w x
theorem Xv:∀ {k:Key} {v:G3},Qi3 k v=true->(∃ i t,k=Sum.inl i/\v=Value.int i t)\/(∃ x t,k=Sum.inr x/\v=Value.str x t)
 | .inl i,v,h=>by let ⟨t,e⟩:=Value.isInt_shape (k:=i) (v:=v) h;exact .inl ⟨i,t,rfl,e⟩
 | .inr x,v,h=>by let ⟨t,e⟩:=Value.isStrOf_shape (x:=x) (v:=v) h;exact .inr ⟨x,t,rfl,e⟩
def Qew (a b:Int):decide ((Sum.inl a:Key)=Sum.inl b)=(a == b):=by
 by_cases e:a=b
 ·subst e; simp
 ·have h:¬ (Sum.inl a:Key)=Sum.inl b:=λq=>e (Sum.inl.inj q);rw [decide_eq_false h];exact (A0j.mpr e).symm
def Qex (a b:Str):decide ((Sum.inr a:Key)=Sum.inr b)=decide (a=b):=by
 by_cases e:a=b
 ·subst e; simp
 ·have h:¬ (Sum.inr a:Key)=Sum.inr b:=λq=>e (Sum.inr.inj q);rw [decide_eq_false h,decide_eq_false e]
def Qev (a:Int) (b:Str):decide ((Sum.inl a:Key)=Sum.inr b)=false:=S8 (λq=>nomatch q)
def Qej (a:Str) (b:Int):decide ((Sum.inr a:Key)=Sum.inl b)=false:=S8 (λq=>nomatch q)
def Qv1 (prog:G8) (w:World):PySem.KeyKind prog w Key where
 is:=Qi3
 hash:=Zjq w
 inj:=λv a b ha hb=>by
  rcases Xv ha with ⟨i,t,rfl,rfl⟩ | ⟨x,t,rfl,rfl⟩
  ·rcases Xv hb with ⟨j,u,rfl,e⟩ | ⟨y,u,rfl,e⟩
   ·injection e with e1 _; rw [e1]
   ·exact nomatch e
  ·rcases Xv hb with ⟨j,u,rfl,e⟩ | ⟨y,u,rfl,e⟩
   ·exact nomatch e
   ·injection e with e1 _; rw [e1]
 byValue:=λk v h=>by rcases Xv h with ⟨i,t,rfl,rfl⟩ | ⟨x,t,rfl,rfl⟩ <;> rfl
 pyHash:=λhv h=>by
  rcases Xv hv with ⟨i,t,rfl,rfl⟩ | ⟨x,t,rfl,rfl⟩
  ·exact wpAny_pyHash_int h
  ·exact wpAny_pyHash_str h
 eqBool:=λhu hv h=>by
  rcases Xv hu with ⟨i,t,rfl,rfl⟩ | ⟨x,t,rfl,rfl⟩
  ·rcases Xv hv with ⟨j,u,rfl,rfl⟩ | ⟨y,u,rfl,rfl⟩
   ·rw [Qew] at h; exact wpAny_eqBool_int h
   ·rw [Qev] at h; exact SeqAt.EqAt.int_str i t y u _ _ _ _ h
  ·rcases Xv hv with ⟨j,u,rfl,rfl⟩ | ⟨y,u,rfl,rfl⟩
   ·rw [Qej] at h; exact SeqAt.EqAt.str_int x t j u _ _ _ _ h
   ·rw [Qex] at h; exact wpAny_eqBool_str h
 «strs» := λk x t v h=>by
  rcases Xv h with ⟨i,u,rfl,e⟩ | ⟨y,u,rfl,e⟩
  ·exact nomatch e
  ·injection e with e1 _
   subst e1;cases v <;> rfl
inductive V where
 | non | bl (b:Bool) | int (i:Int) | str (x:Str) | byt (b:Array UInt8) | flt (b:UInt64) | ref (a:G5) | ty (n:String)
 deriving DecidableEq
variable {v:V} {vs:List V}
def Yi:V->G3->Prop
 | .non,u=>u=Value.none
 | .bl b,u=>u=Value.bool b
 | .int i,u => ∃ t,u=Value.int i t
 | .str x,u => ∃ t,u=Value.str x t
 | .byt b,u => ∃ t,u=Value.bytes b t
 | .flt b,u => ∃ t,u=Value.float b t
 | .ref a,u=>u=Value.ref a
 | .ty n,u=>u=Value.type n
abbrev Xq:List V->List G3->Prop:=Paired Yi
def Xq.length {xs:List V} {us:K5} (r:Xq xs us):xs.length=us.length:=Paired.length r
theorem Xq.get:∀ {xs:List V} {us:K5} {i:Nat} {x:V},Xq xs us->xs[i]? = some x->∃ u,us[i]? = some u/\Yi x u
 | _,_,_,_,.nil,e=>by simp at e
 | _,_,0,_,.cons r _,e=>by simp at e; subst e; exact ⟨_,rfl,r⟩
 | _,_,i + 1,x,.cons _ t,e=>by let ⟨u,h1,h2⟩:=Xq.get (i:=i) (x:=x) t (by simpa using e);exact ⟨u,by simpa using h1,h2⟩
theorem Xq.set {x:V} {u:G3} (r:Yi x u):∀ {xs:List V} {us:K5} (i:Nat),Xq xs us->Xq (xs.set i x) (us.set i u)
 | _,_,_,.nil=>.nil
 | _,_,0,.cons _ t=>.cons r t
 | _,_,i + 1,.cons q t=>.cons q (Xq.set r i t)
theorem Xq.append:∀ {xs ys:List V} {us ws:K5},Xq xs us->Xq ys ws->Xq (xs ++ ys) (us ++ ws)
 | _,_,_,_,.nil,s=>s
 | _,_,_,_,.cons r t,s=>.cons r (Xq.append t s)
theorem Xq.take:∀ {xs:List V} {us:K5} (n:Nat),Xq xs us->Xq (xs.take n) (us.take n)
 | _,_,0,_=>.nil
 | _,_,_ + 1,.nil=>.nil
 | _,_,n + 1,.cons r t=>.cons r (Xq.take n t)
theorem Xq.drop:∀ {xs:List V} {us:K5} (n:Nat),Xq xs us->Xq (xs.drop n) (us.drop n)
 | _,_,0,r=>r
 | _,_,_ + 1,.nil=>.nil
 | _,_,n + 1,.cons _ t=>Xq.drop n t
def Qbz:Option V->Option G3->Prop
 | some v,some u=>Yi v u
 | none,none=>True
 | _,_=>False
def KV {κ:Type}:List (κ × V)->List (κ × G3)->Prop:=Paired λ(p:κ × V) (q:κ × G3)=>p.1=q.1/\Yi p.2 q.2
def kV:Key->V
 | .inl i=>.int i
 | .inr x=>.str x
inductive HO where
 | lst (xs:List V)
 | tup (xs:List V)
 | dK (kvs:List (Key × V)) | dT (kvs:List (List Key × V))
 | set (S:Int->Bool) (n:Nat)
 | ins (C dx:G5) (fs:List (Str × V))
 | own (x:G5)
 | xd (fs:List (Str × V))
 | met (f x:G5)
 | rng (lo hi:Int)
 | frz (o:Obj) (u:HO)
 | tbl (ps:Array G3)
 | ext (φ:Heap->Prop)
abbrev Hp:=G5->Option HO
variable {H:Hp}
def upd (H:Hp) (a:G5) (o:HO):Hp:=λb=>if b=a then some o else H b
def Qk {o:HO}:upd H a o a=some o:=by unfold upd; rw [if_pos rfl]
def Qv {o:HO} (h:b≠a):upd H a o b=H b:=by unfold upd; rw [if_neg h]
def Ql0 {o u:HO}:upd (upd H a o) a u=upd H a u:=by funext b; unfold upd; split <;> rfl
def Jw {o u:HO} (h:H a=some o) (h':H b=some u) (d:o≠u):a≠b:=by intro e; subst e; rw [h] at h'; exact d (Q9 h')
def Qj {o:HO} (h:H a=some o) (h':H b=none):a≠b:=by intro e; subst e; rw [h] at h'; cases h'
section
variable (P:G8) (w:World)
def Ub (H:Hp) (h:Heap) (a:G5):HO->Prop
 | .lst xs=>xs.length<=sizeLine/\∃ (its:K5) (n:Nat),Xq xs its/\h.get? a=some { cls:=.type "list",data:=.seq its.toArray n }
 | .tup xs=>xs.length<=sizeLine/\∃ its:K5,Xq xs its/\IsTup h a its.toArray
 | .dK kvs=>kvs.length<=sizeLine/\(a == sysModules)=false/\∃ vs,KV kvs vs/\h.DictOf (Qv1 P w) a vs
 | .dT kvs=>kvs.length<=sizeLine/\(a == sysModules)=false/\∃ xs:List (List Key × G5 × G3),
   Paired (λ(p:List Key × V) (q:List Key × G5 × G3)=>p.1=q.1/\H q.2.1=some (.tup (p.1.map kV))/\Yi p.2 q.2.2) kvs xs /\
   ∃ o es ep,h.get? a=some o/\o.ExactDict/\o.data=.dict es ep/\es.toList=xs.map (entryOfKey (tupleKind (Qv1 P w)))/\(xs.map (·.1)).Nodup
 | .set S n=>h.SetOf (intKind P w) a S n
 | .ins C dx fs=>H dx=some (.own a)/\fs.length<=1000/\dx≠a/\h.get? a=some (PySem.W.instObj C dx) /\
   ∃ mA,h.Ns1 dx mA/\(∀ f,Qbz (fs.lookup f) (mA f))/\PySem.Within mA (fs.map (·.1))
 | .own _ => ∃ o,h.get? a=some o
 | .xd fs => ∃ mA,h.Ns1 a mA/\∀ f,Qbz (fs.lookup f) (mA f)
 | .rng lo hi => ∃ t u v,h.get? a=some { cls:=.type "range",data:=.fields #[.int lo t,.int hi u,.int 1 v] }
 | .frz o u=>h.get? a=some o/\Ub H h a u
 | .tbl ps=>h.get? a=some { cls:=.none,data:=.fields ps }
 | .met f x=>h.get? a=some (PySem.W.methodObj (.ref f) (.ref x))
 | .ext φ=>φ h/\(∃ o,h.get? a=some o)/\∀ h1 h2:Heap,φ h1->(∀ o,h1.get? a=some o->h2.get? a=some o)->φ h2
def HOk (H:Hp) (h:Heap):Prop:=∀ a o,H a=some o->Ub P w H h a o
end
section
variable {H':Hp} {h':Heap} {o:HO}
theorem Ub.lt (x:Ub P w H h a o):a < h.objs.size:=by
 cases o with
 | lst xs=>let ⟨_,_,_,_,e⟩:=x; exact N6 e
 | tup xs=>let ⟨_,_,_,p⟩:=x; exact p.lt
 | dK kvs=>let ⟨_,_,_,_,o,_,_,e,_⟩:=x; exact N6 e
 | dT kvs=>let ⟨_,_,_,_,o,_,_,e,_⟩:=x; exact N6 e
 | set S n=>let ⟨o,_,_,_,e,_⟩:=x; exact N6 e
 | ins C dx fs=>let ⟨_,_,_,e,_⟩:=x; exact N6 e
 | own y=>let ⟨_,e⟩:=x; exact N6 e
 | xd fs=>let ⟨_,⟨_,_,_,e,_⟩,_⟩:=x; exact N6 e
 | rng lo hi=>let ⟨_,_,_,e⟩:=x; exact N6 e
 | frz ob u=>let ⟨e,_⟩:=x; exact N6 e
 | tbl ps=>exact N6 (show h.get? a=some _ from x)
 | met f y=>exact N6 (show h.get? a=some _ from x)
 | ext φ=>let ⟨_,⟨_,e⟩,_⟩:=x; exact N6 e
theorem Paired.mapP {α β:Type} {F G:α->β->Prop}:∀ {l₁:List α} {l₂:List β},Paired F l₁ l₂->(∀ a b,F a b->G a b)->Paired G l₁ l₂
 | _,_,.nil,_=>.nil
 | _,_,.cons r t,f=>.cons (f _ _ r) (Paired.mapP t f)
theorem Ub.stay (x:Ub P w H h a o) (k:∀ b u,(b=a\/H b=some (.own a))->h.get? b=some u->h'.get? b=some u)
  (ho:∀ b,H b=some (.own a)->H' b=some (.own a)) (ht:∀ b xs,H b=some (.tup xs)->H' b=some (.tup xs)):Ub P w H' h' a o:=by
 induction o with
 | lst xs=>let ⟨z,its,n,r,e⟩:=x; exact ⟨z,its,n,r,k _ _ (.inl rfl) e⟩
 | tup xs=>let ⟨z,its,r,ob,e,c⟩:=x; exact ⟨z,its,r,ob,k _ _ (.inl rfl) e,c⟩
 | dK kvs=>let ⟨z,y,vs,r,ob,es,ep,e,c⟩:=x; exact ⟨z,y,vs,r,ob,es,ep,k _ _ (.inl rfl) e,c⟩
 | dT kvs =>let ⟨z,y,xs,r,ob,es,ep,e,c⟩:=x;exact ⟨z,y,xs,Paired.mapP r λp q z=>⟨z.1,ht _ _ z.2.1,z.2.2⟩,ob,es,ep,k _ _ (.inl rfl) e,c⟩
 | set S n=>let ⟨ob,es,ep,t,e,c⟩:=x; exact ⟨ob,es,ep,t,k _ _ (.inl rfl) e,c⟩
 | ins C dx fs =>let ⟨d,z,ne,e,mA,⟨od,es,ep,e2,c⟩,r⟩:=x;exact ⟨ho _ d,z,ne,k _ _ (.inl rfl) e,mA,⟨od,es,ep,k _ _ (.inr d) e2,c⟩,r⟩
 | own y=>let ⟨ob,e⟩:=x; exact ⟨ob,k _ _ (.inl rfl) e⟩
 | xd fs=>let ⟨mA,⟨od,es,ep,e,c⟩,r⟩:=x; exact ⟨mA,⟨od,es,ep,k _ _ (.inl rfl) e,c⟩,r⟩
 | rng lo hi=>let ⟨t,u,v,e⟩:=x; exact ⟨t,u,v,k _ _ (.inl rfl) e⟩
 | frz ob u ih=>let ⟨e,q⟩:=x; exact ⟨k _ _ (.inl rfl) e,ih q⟩
 | tbl ps =>have e:h.get? a=some { cls:=.none,data:=.fields ps }:=x;show h'.get? a=some { cls:=.none,data:=.fields ps };exact k a _ (.inl rfl) e
 | met f y =>have e:h.get? a=some (PySem.W.methodObj (.ref f) (.ref y)):=x;show h'.get? a=some (PySem.W.methodObj (.ref f) (.ref y));exact k a _ (.inl rfl) e
 | ext φ=>let ⟨p,⟨o,e⟩,st⟩:=x; exact ⟨st _ _ p λo q=>k _ _ (.inl rfl) q,⟨o,k _ _ (.inl rfl) e⟩,st⟩
def HOk.lt (x:HOk P w H h) (e:H a=some o):a < h.objs.size:=(x a o e).lt
theorem HOk.fresh (x:HOk P w H h) (e:h.objs.size<=a):H a=none:=by
 cases q:H a with
 | none=>rfl
 | some u=>exact absurd (S9 (x.lt q) e) (T7 _)
def HOk.kept (x:HOk P w H h) (k:∀ b u,h.get? b=some u->h'.get? b=some u):HOk P w H h':=λa o e =>(x a o e).stay (λb u _ q=>k b u q) (λ_ q=>q) λ_ _ q=>q
def HOk.laid (x:HOk P w H h) (k:∀ b u,h.get? b=some u->h'.get? b=some u) (hp:h.objs.size<=a) (new:Ub P w (upd H a o) h' a o):HOk P w (upd H a o) h':=λb u e=>by
 have hn:=x.fresh hp
 by_cases hb:b=a
 ·subst hb; rw [Qk] at e; cases e; exact new
 ·rw [Qv hb] at e;exact (x b u e).stay (λc v _ q=>k c v q) (λc q=>by rw [Qv (Qj q hn)]; exact q) λc xs q=>by rw [Qv (Qj q hn)]; exact q
end
def Rd (H:Hp) (a:G5) (u:HO):Prop:=H a=some u\/∃ o,H a=some (.frz o u)
def Rd.ok {u:HO} (r:Rd H a u) (x:HOk P w H h):Ub P w H h a u:=by
 rcases r with r | ⟨o,r⟩
 ·exact x a u r
 ·let ⟨_,q⟩:=x a _ r;exact q
def Mut:Option HO->Prop
 | some (.lst _)=>True
 | some (.dK _)=>True
 | some (.dT _)=>True
 | some (.set _ _)=>True
 | some (.ins _ _ _)=>True
 | some (.ext _)=>True
 | _=>False
section
variable {h':Heap} {x e:G5} {o':HO}
def HOk.write (ok:HOk P w H h) (mu:Mut (H x)) (he:e=x\/H e=some (.own x)) (k:∀ b u,b≠e->h.get? b=some u->h'.get? b=some u) (heo:∃ u,h'.get? e=some u)
  (new:Ub P w (upd H x o') h' x o'):HOk P w (upd H x o') h':=λb u q=>by
 have nown:∀ c y,H c=some (.own y)->c≠x:=λc y r z=>by subst z; rw [r] at mu; exact mu
 have ntup:∀ c xs,H c=some (.tup xs)->c≠x:=λc xs r z=>by subst z; rw [r] at mu; exact mu
 by_cases hb:b=x
 ·subst hb; rw [Qk] at q; cases q; exact new
 ·rw [Qv hb] at q
  by_cases hbe:b=e
  ·have q':H b=some (.own x):=by
    rcases he with z | z
    ·exact absurd (hbe.trans z) hb
    ·rw [hbe]; exact z
   rw [q] at q'; cases q';let ⟨v,hv⟩:=heo;exact ⟨v,by rw [hbe]; exact hv⟩
  ·refine (ok b u q).stay (λc v hc r=>k c v ?_ r) (λc r=>by rw [Qv (nown c b r)]; exact r) λc xs r=>by rw [Qv (ntup c xs r)]; exact r
   rcases hc with rfl | hc
   ·exact hbe
   ·rintro rfl;rcases he with z | z
    ·exact nown c b hc z
    ·rw [hc] at z; cases z; exact hb rfl
end
structure Un (fs ex:K6) (H H':Hp) (h h':Heap):Prop where
 keep:∀ b o,h.get? b=some o->H b=none->b ∉ fs->b ∉ ex->h'.get? b=some o
 slot:∀ b o,h.get? b=some o->H b=none->b∈fs->b ∉ ex->∃ sl,h'.get? b=some { o with slots:=sl }
 free:∀ b o,h.get? b=some o->H b=none->b ∉ ex->H' b=none
 there:∀ b o,h.get? b=some o->b ∉ ex->∃ o',h'.get? b=some o'
 tups:∀ b xs,H b=some (.tup xs)->H' b=some (.tup xs)
 frzs:∀ b o u,H b=some (.frz o u)->H' b=some (.frz o u)
 tbls:∀ b ps,H b=some (.tbl ps)->∃ more,H' b=some (.tbl (ps ++ more))
section
variable {fs fs' ex ex':K6} {H1 H2:Hp} {h1 h2 h':Heap} {x e:G5} {o:HO}
def Un.any (u:Un fs ex H H1 h h1) {ob:Obj} (q:h.get? b=some ob) (n:H b=none) (hx:b ∉ ex):∃ sl,h1.get? b=some { ob with slots:=sl }:=by
 by_cases hb:b∈fs
 ·exact u.slot b ob q n hb hx
 ·exact ⟨ob.slots,u.keep b ob q n hb hx⟩
def Un.kept (k:∀ b u,h.get? b=some u->h'.get? b=some u):Un fs ex H H h h' :=⟨λb ob q _ _ _=>k b ob q,λb ob q _ _ _=>⟨ob.slots,k b ob q⟩,λ_ _ _ n _=>n,λb ob q _=>⟨ob,k b ob q⟩,λ_ _ q=>q,λ_ _ _ q=>q,λ_ ps q=>⟨#[],by rw [q]; simp⟩⟩
def Un.refl:Un fs ex H H h h:=Un.kept λ_ _ q=>q
def Un.laid (k:∀ b u,h.get? b=some u->h'.get? b=some u) (hp:h.objs.size<=a) (hn:H a=none):Un fs ex H (upd H a o) h h' where
 keep:=λb u q _ _ _=>k b u q
 slot:=λb u q _ _ _=>⟨u.slots,k b u q⟩
 free:=λb u q n _=>by rw [Qv (Nat.ne_of_lt (Nat.lt_of_lt_of_le (Heap.lt_size q) hp))]; exact n
 there:=λb u q _=>⟨u,k b u q⟩
 tups:=λb xs q=>by rw [Qv (Qj q hn)]; exact q
 frzs:=λb u xs q=>by rw [Qv (Qj q hn)]; exact q
 tbls:=λb ps q=>⟨#[],by rw [Qv (Qj q hn),q]; simp⟩
def Un.write (mu:Mut (H x)) (he:e=x\/H e=some (.own x)) (k:∀ b u,b≠e->h.get? b=some u->h'.get? b=some u) (heo:∃ u,h'.get? e=some u):Un fs ex H (upd H x o) h h':=by
 have hx:∀ b,H b=none->b≠x:=λb n z=>by subst z; rw [n] at mu; exact mu
 have hb:∀ b,H b=none->b≠e:=λb n z=>by
  subst z;rcases he with r | r
  ·exact hx b n r
  ·rw [n] at r; cases r
 have hm:∀ b u,H b=some u->¬ Mut (some u)->b≠x:=λb u q nm z=>by subst z; rw [q] at mu; exact nm mu
 refine ⟨λb u q n _ _=>k b u (hb b n) q,λb u q n _ _=>⟨u.slots,k b u (hb b n) q⟩,λb u q n _=>by rw [Qv (hx b n)]; exact n,λb u q _=>?_,
  λb xs q=>by rw [Qv (hm b _ q λz=>z)]; exact q,λb u xs q=>by rw [Qv (hm b _ q λz=>z)]; exact q,λb ps q=>⟨#[],by rw [Qv (hm b _ q λz=>z),q]; simp⟩⟩
 by_cases hbe:b=e
 ·subst hbe; exact heo
 ·exact ⟨u,k b u hbe q⟩
end
def trk (h:Heap) (H:Hp):K6:=(range h.objs.size).filter λa=>(H a).isSome
def Qb7 (h:Heap) (H:Hp):Heap:=PySem.W.hideAll h (trk h H)
def Qu9 (h:Heap) (H:Hp):(Qb7 h H).objs.size=h.objs.size:=PySem.W.hideAll_size _ _
def Qhv (e:h.get? b=some o) (n:H b=none):(Qb7 h H).get? b=some o :=A0v _ e λhm=>by have q:(H b).isSome=true:=(T3.mp hm).2;rw [n] at q; simp at q
theorem Qt3 (e:(Qb7 h H).get? b=some o):h.get? b=some o/\H b=none:=by
 have e':h.get? b=some o:=PySem.W.of_hideAll (trk h H) e;refine ⟨e',?_⟩;cases q:H b with
 | none=>rfl
 | some x =>have hm:b∈trk h H:=T3.mpr ⟨N8.mpr (N6 e'),by simp [q]⟩;have z:(Qb7 h H).get? b=none:=PySem.W.hideAll_none (trk h H) hm;rw [z] at e; cases e
structure Mod (K:M7) (mg:J9) (base:Heap):Prop where
 kin:K.In base
 glob:base.Ns mainGlobals mg
 blt:∃ mb,base.Ns builtinsNs mb/\∀ x:Str,x≠"__name__"->mb x=bootBuiltins x
 nolimit:base.NoLimit
structure Cx where
 prog:G8
 w:World
 K:M7
 mg:J9
 base:Heap
 A:G7
 N:K9
 s₀:G4
 H₀:Hp
 env:Env
 outer:List Env
 stack:List Env
 ex:K6
 fn:Str->Bool
 calm:Bool
 pn:G9
 xe:K1
variable {X:Cx}
def frs (l:List Env):K6:=l.filterMap (·.frame)
abbrev Cx.fs (X:Cx):K6:=frs X.outer
def Vis (sc:Scope) (x:Str):Prop:=sc.names.lookup x=some .local\/sc.names.lookup x=some .cell\/sc.names.lookup x=some .free
def Loc (sc:Scope) (x:Str):Prop:=sc.names.lookup x=some .local\/sc.names.lookup x=some .cell
def Zv0 (env:Env) (h:Heap) (m:J9) (x:Str) (u:G3):Prop :=(env.kindOf x=some .local/\m x=some u)\/((env.kindOf x=some .cell\/env.kindOf x=some .free)/\∃ c,env.cells.lookup x=some c/\h.IsCell c (some u))
structure Cx.Ok (X:Cx):Prop where
 mod:Mod X.K X.mg X.base
 kind:X.env.scope.kind=.function
 glob:X.env.globals=mainGlobals
 blt:X.env.builtins=builtinsNs
 above:X.s₀.heap.objs.size<=X.env.locals
 inj:∀ x y c,X.env.cells.lookup x=some c->X.env.cells.lookup y=some c->x=y
 has:∀ x,(X.env.kindOf x=some .cell\/X.env.kindOf x=some .free)->∃ c,X.env.cells.lookup x=some c
 cab:∀ x c,X.fn x=true->X.env.cells.lookup x=some c->X.s₀.heap.objs.size<=c
 hd:X.calm=true->X.A.handled=none
 frames:X.A.frames=some X.stack
 stk:X.stack=X.outer\/(X.stack=X.env :: X.outer/\X.env.frame=some X.env.locals)
 exf:∀ b∈X.ex,b≠X.env.locals/\∀ x c,X.env.cells.lookup x=some c->c≠b
 bs:∀ b o,X.base.get? b=some o->X.s₀.heap.get? b=some o/\X.H₀ b=none
 bsz:X.base.objs.size<=X.s₀.heap.objs.size
 noex:∀ b o,X.base.get? b=some o->b ∉ X.ex
 exfs:∀ b∈X.ex,b ∉ X.fs
 dw:X.s₀.heap.FunFrames X.base X.outer
 frf:∀ b∈X.fs,X.H₀ b=none
structure Inv (X:Cx) (dz:G9) (σ:List (Option V)) (H:Hp) (s:G4):Prop where
 ok:X.Ok
 os:s.os=X.s₀.os
 bare:AllBare s.gens
 base:Un X.fs X.ex X.H₀ H X.s₀.heap s.heap
 loc:∃ m,s.heap.Ns X.env.locals m/\∀ (i:Nat) (x:Str) (v:V),X.N[i]? = some x->σ[i]? = some (some v)->Vis X.env.scope x->∃ u,Yi v u/\Zv0 X.env s.heap m x u
 cell:∀ x c,X.env.cells.lookup x=some c->∃ v,s.heap.IsCell c v
 free:H X.env.locals=none
 c7:∀ x c,X.env.cells.lookup x=some c->H c=none
 pin:∀ p∈X.pn ++ dz,s.heap.get? p.1=some p.2/\H p.1=none/\p.1≠X.env.locals/\p.1 ∉ X.fs/\∀ v,p.2.data≠.cell v
 hok:HOk X.prog X.w H s.heap
 len:σ.length=X.N.length
section
variable {σ:List (Option V)} {H':Hp} {h':Heap}
def Cx.Ok.nofr (ok:X.Ok) (e:X.base.get? b=some o):b ∉ X.fs:=λhb=>by have:=(ok.dw.mem hb).1;rw [e] at this; cases this
def Inv.bs (I:Inv X dz σ H s):∀ b o,X.base.get? b=some o->s.heap.get? b=some o/\H b=none:=λb o e =>⟨I.base.keep b o (I.ok.bs b o e).1 (I.ok.bs b o e).2 (I.ok.nofr e) (I.ok.noex b o e),I.base.free b o (I.ok.bs b o e).1 (I.ok.bs b o e).2 (I.ok.noex b o e)⟩
def Inv.bk (I:Inv X dz σ H s):∀ b o,X.base.get? b=some o->s.heap.get? b=some o:=λb o e=>(I.bs b o e).1
def Inv.mod (I:Inv X dz σ H s):Mod X.K X.mg X.base:=I.ok.mod
def Inv.kIn (I:Inv X dz σ H s):X.K.In s.heap:=I.ok.mod.kin.keeps I.bk
def Inv.nolimit (I:Inv X dz σ H s):s.heap.NoLimit:=I.ok.mod.nolimit.keeps I.bk
def Inv.lt (I:Inv X dz σ H s):X.env.locals < s.heap.objs.size:=let ⟨_,hn,_⟩:=I.loc; hn.lt
def Inv.sz (I:Inv X dz σ H s):X.s₀.heap.objs.size<=s.heap.objs.size:=O6 I.ok.above (V3 I.lt)
def Inv.nofs (I:Inv X dz σ H s) (h:s.heap.objs.size<=a):a ∉ X.fs:=λhb=>by let ⟨_,o,ho,_⟩:=I.ok.dw.mem hb;exact absurd (S9 (N6 ho) (O6 I.sz h)) (T7 _)
def Inv.cne (I:Inv X dz σ H s):∀ x c,X.env.cells.lookup x=some c->c≠X.env.locals:=λx c e z=>by let ⟨v,o,ho,hd⟩:=I.cell x c e;let ⟨m,⟨o',es,ep,ho',hd',_⟩,_⟩:=I.loc;rw [z,ho'] at ho; cases ho; rw [hd'] at hd; cases hd
theorem Inv.dw (I:Inv X dz σ H s):s.heap.FunFrames X.base X.outer:=by
 have all:∀ (l:List Env),(∀ b∈frs l,b∈X.fs)->X.s₀.heap.FunFrames X.base l->s.heap.FunFrames X.base l:=by
  intro l
  induction l with
  | nil=>intro _ _; trivial
  | cons env r ih =>intro hs hl;let ⟨hk,⟨L,o,hf,hn,ho,hd⟩,hr⟩:=hl;have hL:L∈X.fs:=hs L (by unfold frs; rw [filterMap_cons,hf]; exact O9);let ⟨sl,e⟩:=I.base.slot L o ho (I.ok.frf L hL) hL λz=>I.ok.exfs L z hL;exact ⟨hk,⟨L,_,hf,hn,e,hd⟩,ih (λb hb=>hs b (by unfold frs; rw [filterMap_cons,hf]; exact Q0 _ hb)) hr⟩
 exact all X.outer (λ_ hb=>hb) I.ok.dw
def Inv.stack (I:Inv X dz σ H s):s.heap.FunFrames X.base X.stack:=by
 rcases I.ok.stk with e | ⟨e,hf⟩
 ·rw [e]; exact I.dw
 ·rw [e];let ⟨m,hn,_⟩:=I.loc;refine .cons (by rw [I.ok.kind]; decide) hf hn ?_ I.dw;exact Heap.get?_none_of_le (O6 I.ok.bsz I.ok.above)
def Inv.stkSub (I:Inv X dz σ H s):∀ b∈frs X.stack,b∈X.env.locals :: X.fs:=λb hb=>by
 rcases I.ok.stk with e | ⟨e,hf⟩
 ·rw [e] at hb; exact Q0 _ hb
 ·rw [e] at hb;unfold frs at hb;rw [filterMap_cons,hf] at hb;exact hb
def Inv.stkFree (I:Inv X dz σ H s):∀ b∈frs X.stack,H b=none:=λb hb=>by
 rcases Q8.mp (I.stkSub b hb) with e | hb
 ·rw [e]; exact I.free
 ·let ⟨_,o,ho,_⟩:=I.ok.dw.mem hb;exact I.base.free b o ho (I.ok.frf b hb) λz=>I.ok.exfs b z hb
def Inv.step {g':Array GenState} {t':Nat} {d':Drawn} {ch:K6} (I:Inv X dz σ H s)
  (hch:∀ b∈ch,(b∈X.ex\/X.s₀.heap.objs.size<=b)/\b≠X.env.locals/\(∀ x c,X.env.cells.lookup x=some c->c≠b)/\∀ p∈X.pn ++ dz,p.1≠b)
  (keep:∀ b o,b≠X.env.locals->b ∉ X.fs->b ∉ ch->s.heap.get? b=some o->H b=none->h'.get? b=some o)
  (slot:∀ b o,b≠X.env.locals->b∈X.fs->b ∉ ch->s.heap.get? b=some o->H b=none->∃ sl,h'.get? b=some { o with slots:=sl }) (free:∀ b o,b ∉ ch->s.heap.get? b=some o->H b=none->H' b=none)
  (there:∀ b o,b ∉ ch->s.heap.get? b=some o->∃ o',h'.get? b=some o')
  (tups:∀ b xs,H b=some (.tup xs)->H' b=some (.tup xs)) (frzs:∀ b o u,H b=some (.frz o u)->H' b=some (.frz o u)) (tbls:∀ b ps,H b=some (.tbl ps)->∃ more,H' b=some (.tbl (ps ++ more)))
  (ns:∀ m,s.heap.Ns X.env.locals m->h'.Ns X.env.locals m) (hok:HOk X.prog X.w H' h') (hg:AllBare g') :
  Inv X dz σ H' { s with heap:=h',gens:=g',drawn:=d',toks:=t' }:=by
 have neL:∀ b o,X.s₀.heap.get? b=some o->b≠X.env.locals:=λb o e=>O7 (S9 (N6 e) I.ok.above);have neC:∀ b o,X.s₀.heap.get? b=some o->b ∉ X.ex->b ∉ ch:=λb o e hx hb=>by
  rcases (hch b hb).1 with z | z
  ·exact hx z
  ·exact absurd (S9 (N6 e) z) (T7 _)
 have cellK:∀ x c,X.env.cells.lookup x=some c->∀ v,s.heap.IsCell c v->h'.IsCell c v:=λx c e v ⟨o,ho,hd⟩=>by
  have nch:c ∉ ch:=λz=>(hch c z).2.2.1 x c e rfl
  by_cases hc:c∈X.fs
  ·let ⟨sl,q⟩:=slot c o (I.cne x c e) hc nch ho (I.c7 x c e);exact ⟨_,q,hd⟩
  ·exact ⟨o,keep c o (I.cne x c e) hc nch ho (I.c7 x c e),hd⟩
 refine ⟨I.ok,I.os,hg,⟨λb o e n hb hx=>?_,λb o e n hb hx=>?_,λb o e n hx=>?_,λb o e hx=>?_,λb xs e=>tups b xs (I.base.tups b xs e),λb o xs e=>frzs b o xs (I.base.frzs b o xs e),λb ps e=>?_⟩,?_,λx c e=>?_,?_,λx c e=>?_,λp hp=>?_,hok,I.len⟩
 ·exact keep b o (neL b o e) hb (neC b o e hx) (I.base.keep b o e n hb hx) (I.base.free b o e n hx)
 ·let ⟨sl,e1⟩:=I.base.slot b o e n hb hx;let ⟨sl',e2⟩:=slot b _ (neL b o e) hb (neC b o e hx) e1 (I.base.free b o e n hx);exact ⟨sl',e2⟩
 ·let ⟨o',e1⟩:=I.base.there b o e hx;exact free b o' (neC b o e hx) e1 (I.base.free b o e n hx)
 ·let ⟨o',e1⟩:=I.base.there b o e hx;exact there b o' (neC b o e hx) e1
 ·let ⟨m1,e1⟩:=I.base.tbls b ps e;let ⟨m2,e2⟩:=tbls b _ e1;exact ⟨m1 ++ m2,by rw [e2,Array.append_assoc]⟩
 ·let ⟨m,hn,hl⟩:=I.loc;refine ⟨m,ns m hn,λi x v e1 e2 e3=>?_⟩;let ⟨u,r,l⟩:=hl i x v e1 e2 e3;refine ⟨u,r,?_⟩;rcases l with l | ⟨k,c,e,z⟩
  ·exact .inl l
  ·exact .inr ⟨k,c,e,cellK x c e _ z⟩
 ·let ⟨v,z⟩:=I.cell x c e;exact ⟨v,cellK x c e v z⟩
 ·let ⟨m,⟨o,_,_,ho,_⟩,_⟩:=I.loc;exact free _ o (λz=>(hch _ z).2.1 rfl) ho I.free
 ·let ⟨v,o,ho,hd⟩:=I.cell x c e;exact free c o (λz=>(hch c z).2.2.1 x c e rfl) ho (I.c7 x c e)
 ·let ⟨e,n,ne,nf,d⟩:=I.pin p hp;have nch:p.1 ∉ ch:=λz=>(hch p.1 z).2.2.2 p hp rfl;exact ⟨keep p.1 p.2 ne nf nch e n,free p.1 p.2 nch e n,ne,nf,d⟩
def Inv.un (I:Inv X dz σ H s) (u:Un X.fs [] H H' s.heap h') (hok:HOk X.prog X.w H' h'):Inv X dz σ H' { s with heap:=h',toks:=t' }:=by let ⟨m,⟨o,es,ep,ho,r⟩,_⟩:=id I.loc;let ⟨sl,hL⟩:=u.any ho I.free (by simp);exact I.step (g':=s.gens) (d':=s.drawn) (ch:=[]) (λ_ z=>nomatch z) (λb o _ hb _ e n=>u.keep b o e n hb (by simp)) (λb o _ hb _ e n=>u.slot b o e n hb (by simp)) (λb o _ e n=>u.free b o e n (by simp)) (λb o _ e=>u.there b o e (by simp)) u.tups u.frzs u.tbls (λm' hm=>by let ⟨o',es',ep',ho',r'⟩:=hm;rw [ho] at ho'; cases ho';exact ⟨_,es',ep',hL,r'⟩) hok I.bare
def Inv.call {g':Array GenState} {d':Drawn} {ch:K6} (I:Inv X dz σ H s) (u:Un (frs X.stack) ch H H' s.heap h') (hok:HOk X.prog X.w H' h') (hg:AllBare g')
  (hch:∀ b∈ch,(b∈X.ex\/X.s₀.heap.objs.size<=b)/\b≠X.env.locals/\(∀ x c,X.env.cells.lookup x=some c->c≠b)/\∀ p∈X.pn ++ dz,p.1≠b) :
  Inv X dz σ H' { s with heap:=h',gens:=g',drawn:=d',toks:=t' }:=by
 let ⟨m,⟨o,es,ep,ho,r⟩,_⟩:=id I.loc;let ⟨sl,hL⟩:=u.any ho I.free λz=>(hch _ z).2.1 rfl;exact I.step (ch:=ch) hch (λb o hL hb hc e n=>u.keep b o e n (λz=>(Q8.mp (I.stkSub b z)).elim hL hb) hc) (λb o _ _ hc e n=>u.any e n hc) (λb o hc e n=>u.free b o e n hc) (λb o hc e=>u.there b o e hc) u.tups u.frzs u.tbls (λm' hm=>by let ⟨o',es',ep',ho',r'⟩:=hm;rw [ho] at ho'; cases ho';exact ⟨_,es',ep',hL,r'⟩) hok hg
def Inv.turned {it:G5} (I:Inv X dz σ H s) (k:∀ b o,b≠it->s.heap.get? b=some o->h'.get? b=some o) (hn:H it=none) (hL:it≠X.env.locals)
  (h1:it∈X.ex\/X.s₀.heap.objs.size<=it) (h2:∀ x c,X.env.cells.lookup x=some c->c≠it) (h3:∀ p∈X.pn ++ dz,p.1≠it):Inv X dz σ H { s with heap:=h',toks:=t' }:=by
 have nit:∀ b u,H b=some u->b≠it:=λb u e z=>by rw [z,hn] at e; cases e
 refine I.step (g':=s.gens) (d':=s.drawn) (ch:=[it]) (λb hb=>?_) (λb o _ _ hc e _=>k b o (λz=>hc (by simp [z])) e) (λb o _ _ hc e _=>⟨o.slots,k b o (λz=>hc (by simp [z])) e⟩) (λ_ _ _ _ n=>n)
  (λb o hc e=>⟨o,k b o (λz=>hc (by simp [z])) e⟩) (λ_ _ e=>e) (λ_ _ _ e=>e) (λb ps e=>⟨#[],by rw [e]; simp⟩) (λm hm=>?_) (λb u e=>?_) I.bare
 ·have e:b=it:=by simpa using hb
  subst e;exact ⟨h1,hL,h2,h3⟩
 ·let ⟨o,es,ep,ho,r⟩:=hm;exact ⟨o,es,ep,k _ o (Ne.symm hL) ho,r⟩
 ·refine (I.hok b u e).stay (λc v hc q=>k c v ?_ q) (λ_ q=>q) λ_ _ q=>q;rcases hc with z | z
  ·rw [z]; exact nit b u e
  ·exact nit c _ z
def Inv.tok (I:Inv X dz σ H s) (t:Nat):Inv X dz σ H { s with toks:=t }:=I.un (h':=s.heap) (t':=t) Un.refl I.hok
def Inv.kept {t':Nat} (I:Inv X dz σ H s) (k:∀ b u,s.heap.get? b=some u->h'.get? b=some u):Inv X dz σ H { s with heap:=h',toks:=t' }:=I.un (Un.kept k) (I.hok.kept k)
def Inv.laid {a:G5} {o:HO} {t':Nat} (I:Inv X dz σ H s) (k:∀ b u,s.heap.get? b=some u->h'.get? b=some u) (hp:s.heap.objs.size<=a) (new:Ub X.prog X.w (upd H a o) h' a o) :
  Inv X dz σ (upd H a o) { s with heap:=h',toks:=t' }:=I.un (Un.laid k hp (I.hok.fresh hp)) (I.hok.laid k hp new)
def Inv.write {x e:G5} {o:HO} {t':Nat} (I:Inv X dz σ H s) (mu:Mut (H x)) (he:e=x\/H e=some (.own x)) (k:∀ b u,b≠e->s.heap.get? b=some u->h'.get? b=some u) (heo:∃ u,h'.get? e=some u)
  (new:Ub X.prog X.w (upd H x o) h' x o):Inv X dz σ (upd H x o) { s with heap:=h',toks:=t' }:=I.un (Un.write mu he k heo) (I.hok.write mu he k heo new)
def Inv.weak {σ':List (Option V)} (I:Inv X dz σ H s) (hl:σ'.length=σ.length) (w:∀ (i:Nat) v,σ'[i]? = some (some v)->σ[i]? = some (some v)):Inv X dz σ' H s :=⟨I.ok,I.os,I.bare,I.base,let ⟨m,hn,hl'⟩:=I.loc; ⟨m,hn,λi x v e1 e2 e3=>hl' i x v e1 (w i v e2) e3⟩,I.cell,I.free,I.c7,I.pin,I.hok,hl.trans I.len⟩
def Inv.cg {pins':G9} (I:Inv X dz σ H s) (h:∀ p∈pins',s.heap.get? p.1=some p.2/\H p.1=none/\p.1≠X.env.locals/\p.1 ∉ X.fs/\∀ v,p.2.data≠.cell v):Inv X pins' σ H s :=⟨I.ok,I.os,I.bare,I.base,I.loc,I.cell,I.free,I.c7,λp hp=>(O5.mp hp).elim (λz=>I.pin p (R5 _ z)) (h p),I.hok,I.len⟩
def Ed {N:K9} (hN:N.Nodup) {j:Nat} (a:N[i]? = some x) (b:N[j]? = some x):i=j:=by let ⟨h1,e1⟩:=N5.mp a;let ⟨h2,e2⟩:=N5.mp b;exact (getElem_inj hN).mp (e1.trans e2.symm)
def Br (I:Inv X dz σ H s) (hN:X.N.Nodup) (hi:X.N[i]? = some x) (hx:Loc X.env.scope x) (r:Yi v u)
  (h:∀ s',Inv X dz (σ.set i (some v)) H s'->(∃ a,Heap.SameBut a s.heap s'.heap/\(a=X.env.locals\/X.env.cells.lookup x=some a))->Q () s') (hf:X.fn x=true\/X.env.scope.names.lookup x=some .local:=by first | exact .inl rfl | exact .inr rfl | assumption):wpAny M A (storeName X.env x u) Q E s:=by
 let ⟨m,hn,hl⟩:=id I.loc;have hcls:(X.env.scope.kind == .class || (X.env.scope.kind == .module && X.env.locals != X.env.globals))=false:=by rw [I.ok.kind]; rfl
 have hiσ:i < σ.length:=by rw [I.len]; exact (N5.mp hi).1
 have cne:=I.cne;have tracked:∀ {a:G5} {h':Heap},(∃ o,s.heap.get? a=some o/\H a=none)->Heap.SameBut a s.heap h'->HOk X.prog X.w H h':=λ{a h'} ha hs b ob e=>by
  let ⟨_,_,hfree⟩:=ha;refine (I.hok b ob e).stay (λc w' hc q=>(hs.2 c ?_).trans q) (λ_ q=>q) λ_ _ q=>q;rintro rfl;rcases hc with rfl | hc
  ·rw [hfree] at e; cases e
  ·rw [hfree] at hc; cases hc
 rcases hx with hk | hk
 ·refine wpAny_storeName_local hk hn (λh' hn' hs=>?_) hcls;let ⟨oL,_,_,hoL,_⟩:=id hn;refine h _ ⟨I.ok,I.os,I.bare,⟨λb o e n hb hx=>?_,λb o e n hb hx=>?_,I.base.free,λb o e hx=>?_,I.base.tups,I.base.frzs,I.base.tbls⟩,⟨_,hn',λj y v' e1 e2 e3=>?_⟩,λy c e=>?_,I.free,I.c7,λp hp=>?_,tracked ⟨oL,hoL,I.free⟩ hs,by simpa using I.len⟩ ⟨_,hs,.inl rfl⟩
  ·exact (hs.2 b (O7 (S9 (N6 e) I.ok.above))).trans (I.base.keep b o e n hb hx)
  ·let ⟨sl,e1⟩:=I.base.slot b o e n hb hx;exact ⟨sl,(hs.2 b (O7 (S9 (N6 e) I.ok.above))).trans e1⟩
  ·let ⟨o',e1⟩:=I.base.there b o e hx;exact ⟨o',(hs.2 b (O7 (S9 (N6 e) I.ok.above))).trans e1⟩
  ·by_cases hj:j=i
   ·subst hj;rw [hi] at e1; cases e1;rw [getElem?_set_self hiσ] at e2;cases e2;exact ⟨u,r,.inl ⟨hk,by simp⟩⟩
   ·rw [getElem?_set_ne (Ne.symm hj)] at e2;let ⟨u',r',q⟩:=hl j y v' e1 e2 e3;refine ⟨u',r',?_⟩;rcases q with ⟨k,e⟩ | ⟨k,c,e,z⟩
    ·refine .inl ⟨k,?_⟩;have:y≠x:=λe=>hj (Ed hN e1 (e ▸ hi));simp [this,e]
    ·exact .inr ⟨k,c,e,z.sameBut hs (cne y c e)⟩
  ·let ⟨w',z⟩:=I.cell y c e;exact ⟨w',z.sameBut hs (cne y c e)⟩
  ·let ⟨e,n,ne,nf,d⟩:=I.pin p hp;exact ⟨(hs.2 p.1 ne).trans e,n,ne,nf,d⟩
 ·have hfn:X.fn x=true:=by
   rcases hf with z | z
   ·exact z
   ·rw [z] at hk; cases hk
  let ⟨c,hc⟩:=I.ok.has x (.inl hk);let ⟨w',z⟩:=I.cell x c hc;refine wpAny_storeName_cell I.ok.kind hk hc z (λh' hc' hs=>?_);let ⟨oc,hoc,hocd⟩:=id z;refine h { s with heap:=h' } ⟨I.ok,I.os,I.bare,⟨λb o e n hb hx=>?_,λb o e n hb hx=>?_,I.base.free,λb o e hx=>?_,I.base.tups,I.base.frzs,I.base.tbls⟩,⟨m,hn.sameBut hs (Ne.symm (cne x c hc)),λj y v' e1 e2 e3=>?_⟩,λy c' e=>?_,I.free,I.c7,λp hp=>?_,tracked ⟨oc,hoc,I.c7 x c hc⟩ hs,by simpa using I.len⟩ ⟨c,hs,.inr hc⟩
  ·exact (hs.2 b (O7 (S9 (N6 e) (I.ok.cab x c hfn hc)))).trans (I.base.keep b o e n hb hx)
  ·let ⟨sl,e1⟩:=I.base.slot b o e n hb hx;exact ⟨sl,(hs.2 b (O7 (S9 (N6 e) (I.ok.cab x c hfn hc)))).trans e1⟩
  ·let ⟨o',e1⟩:=I.base.there b o e hx;exact ⟨o',(hs.2 b (O7 (S9 (N6 e) (I.ok.cab x c hfn hc)))).trans e1⟩
  ·by_cases hj:j=i
   ·subst hj;rw [hi] at e1; cases e1;rw [getElem?_set_self hiσ] at e2;cases e2;exact ⟨u,r,.inr ⟨.inl hk,c,hc,hc'⟩⟩
   ·rw [getElem?_set_ne (Ne.symm hj)] at e2;let ⟨u',r',q⟩:=hl j y v' e1 e2 e3;refine ⟨u',r',?_⟩;rcases q with q | ⟨k,c',e,z'⟩
    ·exact .inl q
    ·refine .inr ⟨k,c',e,z'.sameBut hs ?_⟩;rintro rfl;exact hj (Ed hN e1 (I.ok.inj _ _ _ e hc ▸ hi))
  ·by_cases hcc:c'=c
   ·subst hcc; exact ⟨_,hc'⟩
   ·let ⟨w2,z2⟩:=I.cell y c' e;exact ⟨w2,z2.sameBut hs hcc⟩
  ·let ⟨e,n,ne,nf,d⟩:=I.pin p hp;refine ⟨(hs.2 p.1 ?_).trans e,n,ne,nf,d⟩;intro q;rw [q,hoc] at e;have q':oc=p.2:=Q9 e;exact d w' (by rw [<- q']; exact hocd)
def Kb (I:Inv X dz σ H s) (hN:X.N.Nodup) (hi:X.N[i]? = some x) (hx:Loc X.env.scope x) (r:Yi v u)
  (h:∀ s',Inv X dz (σ.set i (some v)) H s'->Q () s') (hf:X.fn x=true\/X.env.scope.names.lookup x=some .local:=by first | exact .inl rfl | exact .inr rfl | assumption):wpAny M A (storeName X.env x u) Q E s :=
 Br I hN hi hx r (λs' I' _=>h s' I') hf
def Inv.call' {s':G4} {ch:K6} (I:Inv X dz σ H s) (ho:s'.os=s.os) (u:Un (frs X.stack) ch H H' s.heap s'.heap) (hok:HOk X.prog X.w H' s'.heap) (hg:AllBare s'.gens)
  (hch:∀ b∈ch,(b∈X.ex\/X.s₀.heap.objs.size<=b)/\b≠X.env.locals/\(∀ x c,X.env.cells.lookup x=some c->c≠b)/\∀ p∈X.pn ++ dz,p.1≠b):Inv X dz σ H' s':=by
 let ⟨h',g',d',t',o'⟩:=s';have e:o'=s.os:=ho;subst e;exact I.call (g':=g') (t':=t') (d':=d') u hok hg hch
end
abbrev XK:=G3->Option G5->Hp->Prop
abbrev St:=List (Option V)
variable {σ:St}
abbrev VK:=V->Hp->Prop
abbrev TE:=St->Hp->VK->Prop
abbrev TT:=St->Hp->(Bool->Hp->Prop)->Prop
abbrev TA:=St->Hp->(List V->Hp->Prop)->Prop
structure Qx2 where
 nx:St->Hp->Prop
 rt:VK
 bk:St->Hp->Prop:=λ_ _=>False
 ct:St->Hp->Prop:=λ_ _=>False
abbrev TS:=Qx2->St->Hp->Prop
variable {tb:TS}
def EP (X:Cx) (dz:G9) (σ:St) (Q:VK) (u:G3) (s':G4):Prop:=∃ v H',Inv X dz σ H' s'/\Yi v u/\Q v H'
def TP (X:Cx) (dz:G9) (σ:St) (Q:Bool->Hp->Prop) (b:Bool) (s':G4):Prop:=∃ H',Inv X dz σ H' s'/\Q b H'
def AP (X:Cx) (dz:G9) (σ:St) (Q:List V->Hp->Prop) (us:K5) (s':G4):Prop:=∃ vs H',Inv X dz σ H' s'/\Xq vs us/\Q vs H'
def SP (X:Cx) (dz:G9) (D:Qx2) (f:Flow) (s':G4):Prop :=
 match f with
 | .next => ∃ σ' H',Inv X dz σ' H' s'/\D.nx σ' H'
 | .brk => ∃ σ' H',Inv X dz σ' H' s'/\D.bk σ' H'
 | .cont => ∃ σ' H',Inv X dz σ' H' s'/\D.ct σ' H'
 | .ret u => ∃ v σ' H',Inv X dz σ' H' s'/\Yi v u/\D.rt v H'
def PE (X:Cx) (e:Expr) (t:TE):Prop :=∀ (dz:G9) (s:G4) (σ:St) (H:Hp) (Q:VK),Inv X dz σ H s->t σ H Q->wpAny (model X.prog X.w) X.A (eval e X.env) (EP X dz σ Q) X.xe s
def PT (X:Cx) (e:Expr) (t:TT):Prop :=∀ (dz:G9) (s:G4) (σ:St) (H:Hp) (Q:Bool->Hp->Prop),Inv X dz σ H s->t σ H Q->wpAny (model X.prog X.w) X.A (isTrue e X.env (eval e X.env)) (TP X dz σ Q) X.xe s
def PW (X:Cx) (e:Expr) (t:TT):Prop :=∀ (whole:Sem G3) (dz:G9) (s:G4) (σ:St) (H:Hp) (Q:Bool->Hp->Prop),Inv X dz σ H s->t σ H Q->wpAny (model X.prog X.w) X.A (isTrue e X.env whole) (TP X dz σ Q) X.xe s
def PW.pt {t:TT} (h:PW X e t):PT X e t:=h _
def PA (X:Cx) (es:M4) (t:TA):Prop :=∀ (pos:Pos) (dz:G9) (s:G4) (σ:St) (H:Hp) (Q:List V->Hp->Prop),Inv X dz σ H s->t σ H Q->wpAny (model X.prog X.w) X.A (spliced (backTo pos (starEach es X.env))) (AP X dz σ Q) X.xe s
def PS (X:Cx) (st:Stmt) (t:TS):Prop :=∀ (dz:G9) (s:G4) (σ:St) (H:Hp) (D:Qx2),Inv X dz σ H s->t D σ H->wpAny (model X.prog X.w) X.A (exec st X.env) (SP X dz D) X.xe s
def PSs (X:Cx) (st:List Stmt) (t:TS):Prop :=∀ (dz:G9) (s:G4) (σ:St) (H:Hp) (D:Qx2),Inv X dz σ H s->t D σ H->wpAny (model X.prog X.w) X.A (execs st X.env) (SP X dz D) X.xe s
def thn {α:Type} {t:Sem α} {Q Q':α->G4->Prop} (h:wpAny M A t Q E s) (hQ:∀ a s,Q a s->Q' a s):wpAny M A t Q' E s:=T5 h hQ λ_ _ x=>x
section
inductive Zjw (i:Nat) (σ:St) (H:Hp) (Q:VK):Prop
 | mk (v:V) (e:σ[i]? = some (some v)) (q:Q v H)
def Zzj (i:Nat):TE:=Zjw i
def tC (v:V):TE:=λ_ H Q=>Q v H
def Qe0 (hN:X.N[i]? = some x) (hv:Vis X.env.scope x) (hd:(x == ("__debug__" : Str))=false:=by decide) (hcd:(x == ("__classdict__" : Str))=false:=by decide):PE X (.Name x pos) (Zzj i):=by
 intro dz s σ H Q I h;let ⟨v,e,h⟩:=h;let ⟨m,hn,hl⟩:=I.loc;let ⟨u,r,l⟩:=hl i x v hN e hv;have fin:EP X dz σ Q u s:=⟨v,H,I,r,h⟩
 rcases l with ⟨hk,hm⟩ | ⟨hk,c,hc,hcell⟩
 ·exact wpAny_Name (wpAny_loadName_local I.ok.kind hk hn hm fin) hd
 ·rcases hk with hk | hk
  ·exact wpAny_Name (wpAny_loadName_cell I.ok.kind hk hc hcell fin) hd
  ·exact wpAny_Name (wpAny_loadName_free I.ok.kind hk hc hcell fin hcd) hd
def Qx {i j pos}:PE X (.Constant (.int i) j pos) (tC (.int i)):=λ_ _ _ H _ I h=>wpAny_Constant_int ⟨.int i,H,I.tok _,⟨_,rfl⟩,h⟩
def Ju {b j pos}:PE X (.Constant (.bool b) j pos) (tC (.bl b)):=λ_ _ _ H _ I h=>Constant_bool ⟨.bl b,H,I,rfl,h⟩
def Zg {j pos}:PE X (.Constant .none j pos) (tC .non):=λ_ _ _ H _ I h=>Constant_none ⟨.non,H,I,rfl,h⟩
def Jq {x j pos}:PE X (.Constant (.str x) j pos) (tC (.str x)):=λ_ _ _ H _ I h=>Calls.Constant_str ⟨.str x,H,I.tok _,⟨_,rfl⟩,h⟩
def Gl (X:Cx) (x:Str):Prop:=X.env.kindOf x=some .globalImplicit
def Nt {Q:K1} (I:Inv X dz σ H s) (hg:Gl X x) (hm:X.mg x=some u) (h:Q u s)
  (hd:(x == ("__debug__" : Str))=false:=by decide):wpAny (model X.prog X.w) X.A (eval (.Name x pos) X.env) Q E s :=
 Calls.Name_function_global I.ok.kind hg (Calls.loadGlobal_global (by rw [I.ok.glob]; exact I.mod.glob.keeps I.bk) hm h) hd
def Ux {Q:K1} (I:Inv X dz σ H s) (hg:Gl X x) (hm:X.mg x=none) (hv:bootBuiltins x=some u) (h:Q u s)
  (hn:x≠"__name__" := by decide) (hd:(x == ("__debug__" : Str))=false:=by decide):wpAny (model X.prog X.w) X.A (eval (.Name x pos) X.env) Q E s:=by
 let ⟨mb,h1,h2⟩:=I.mod.blt;exact Calls.Name_function_global I.ok.kind hg (Calls.loadGlobal_builtin (by rw [I.ok.glob]; exact I.mod.glob.keeps I.bk) hm (by rw [I.ok.blt]; exact h1.keeps I.bk) ((h2 x hn).trans hv) h) hd
def Qrj (hg:Gl X x) (hm:X.mg x=some u) (r:Yi v u) (hd:(x == ("__debug__" : Str))=false:=by decide):PE X (.Name x pos) (tC v) :=λ_ _ _ H _ I h=>Nt I hg hm ⟨v,H,I,r,h⟩ hd
def Ul (hg:Gl X x) (hm:X.mg x=none) (hv:bootBuiltins x=some u) (r:Yi v u) (hn:x≠"__name__" := by decide) (hd:(x == ("__debug__" : Str))=false:=by decide):PE X (.Name x pos) (tC v) :=λ_ _ _ H _ I h=>Ux I hg hm hv ⟨v,H,I,r,h⟩ hn hd
variable {a b:Expr} {ta tb:TE}
def tB (t:TE):TT:=λσ H Q=>t σ H λx H1 => ∃ c,x=.bl c/\Q c H1
def Xc {t:TE} (h:PE X e t) (he:∀ whole,isTrue e X.env whole=(do let v <- whole; standAt e.pos; holding [v] (truthy v)):=by intro _; rfl):PT X e (tB t):=by intro dz s σ H Q I hw;refine isTrue_plain (thn (h dz s σ H _ I hw) λv s1 ⟨x,H1,I1,r1,q1⟩=>?_) (he _);let ⟨d,rfl,q⟩:=q1;cases r1;exact W2 ⟨H1,I1,q⟩
variable {tA tB':TT} {j6:M4}
def Zj4 (t u:TT):TT:=λσ H Q=>t σ H λc H1=>if c=true then u σ H1 Q else Q false H1
def tOr (t u:TT):TT:=λσ H Q=>t σ H λc H1=>if c=true then Q true H1 else u σ H1 Q
def Zj1 (t:TT):TT:=λσ H Q=>t σ H λc H1=>Q (!c) H1
theorem Vw (ha:PT X a tA):PW X (.BoolOp .And [a] pos) tA:=by
 intro wh dz s σ H Q I h;refine isTrue_and (thn (ha dz s σ H Q I h) λc s1 e=>?_);cases c with
 | true=>exact isTrue_and_nil e
 | false=>exact e
theorem Yo (ha:PT X a tA):PW X (.BoolOp .Or [a] pos) tA:=by
 intro wh dz s σ H Q I h;refine isTrue_or (thn (ha dz s σ H Q I h) λc s1 e=>?_);cases c with
 | false=>exact isTrue_or_nil e
 | true=>exact e
theorem Re (ha:PT X a tA) (hb:PW X (.BoolOp .And (b :: j6) pos) tB'):PW X (.BoolOp .And (a :: b :: j6) pos) (Zj4 tA tB'):=by
 intro wh dz s σ H Q I h;refine isTrue_and (thn (ha dz s σ H _ I h) λc s1 ⟨H1,I1,q1⟩=>?_);cases c with
 | true=>exact hb wh dz s1 σ H1 Q I1 q1
 | false=>exact ⟨H1,I1,q1⟩
theorem Jv (ha:PT X a tA) (hb:PW X (.BoolOp .Or (b :: j6) pos) tB'):PW X (.BoolOp .Or (a :: b :: j6) pos) (tOr tA tB'):=by
 intro wh dz s σ H Q I h;refine isTrue_or (thn (ha dz s σ H _ I h) λc s1 ⟨H1,I1,q1⟩=>?_);cases c with
 | true=>exact ⟨H1,I1,q1⟩
 | false=>exact hb wh dz s1 σ H1 Q I1 q1
def Xf (ha:PT X a tA):PT X (.UnaryOp .Not a pos) (Zj1 tA):=by intro dz s σ H Q I h;exact isTrue_not (ha dz s σ H (λc H1=>Q (!c) H1) I h)
def Zqv (ta tb:TE):TE:=λσ H Q=>ta σ H λx H1 => ∃ c,x=.bl c/\if c=true then tb σ H1 Q else Q (.bl false) H1
def Zq8 (ta:TE):TE:=λσ H Q=>ta σ H λx H1 => ∃ c,x=.bl c/\Q (.bl (!c)) H1
def Qe1 {op} {t:TE} (h:PE X a t):PE X (.BoolOp op [a] pos) t:=λdz s σ H Q I hw=>BoolOp_one (h dz s σ H Q I hw)
theorem Qe5 (ha:PE X a ta) (hb:PE X (.BoolOp .And (b :: j6) pos) tb):PE X (.BoolOp .And (a :: b :: j6) pos) (Zqv ta tb):=by
 intro dz s σ H Q I h;refine BoolOp_and (thn (ha dz s σ H _ I h) λv s1 ⟨x,H1,I1,r1,q1⟩=>?_);let ⟨c,rfl,q1⟩:=q1;cases r1;refine W2 ?_;cases c with
 | true=>exact hb dz s1 σ H1 Q I1 q1
 | false=>exact ⟨.bl false,H1,I1,rfl,q1⟩
def Qe2 (ha:PE X a ta):PE X (.UnaryOp .Not a pos) (Zq8 ta):=by intro dz s σ H Q I h;refine UnaryOp_ (thn (ha dz s σ H _ I h) λv s1 ⟨x,H1,I1,r1,q1⟩=>?_);let ⟨c,rfl,q1⟩:=q1;cases r1;exact not_of (W2 ⟨.bl (!c),H1,I1,rfl,q1⟩)
def tIf (t:TT) (ta tb:TE):TE:=λσ H Q=>t σ H λc H1=>if c=true then ta σ H1 Q else tb σ H1 Q
theorem Kf (hc:PT X c tA) (ha:PE X a ta) (hb:PE X b tb):PE X (.IfExp c a b pos) (tIf tA ta tb):=by
 intro dz s σ H Q I h;refine wpAny_IfExp (thn (hc dz s σ H _ I h) λd s1 ⟨H1,I1,q1⟩=>?_);cases d with
 | true=>exact ha dz s1 σ H1 Q I1 q1
 | false=>exact hb dz s1 σ H1 Q I1 q1
end
def SqL (K:M7) (H:Hp) (a:G5) (xs:List V):Prop :=
 Rd H a (.lst xs) \/
  ∃ (o:Obj) (its:Array G3) (n:Nat),K.lookup a=some o/\o.cls=.type "list"/\o.dict=none/\o.data=.seq its n/\its.size<=sizeLine/\Xq xs its.toList
def SqT (K:M7) (H:Hp) (a:G5) (xs:List V):Prop :=
 Rd H a (.tup xs) \/
  ∃ (o:Obj) (its:Array G3) (n:Nat),K.lookup a=some o/\o.cls=.type "tuple"/\o.data=.seq its n/\its.size<=sizeLine/\Xq xs its.toList
def Zjv:G3->Option V
 | .none=>some .non
 | .bool b=>some (.bl b)
 | .int i _=>some (.int i)
 | .str x _=>some (.str x)
 | .bytes b _=>some (.byt b)
 | .float b _=>some (.flt b)
 | .ref a=>some (.ref a)
 | .type n=>some (.ty n)
 | _=>none
theorem Yi.abs {x:V} (r:Yi x u):Zjv u=some x:=by
 cases x with
 | non=>cases r; rfl
 | bl _=>cases r; rfl
 | int _=>let ⟨t,rfl⟩:=r; rfl
 | str _=>let ⟨t,rfl⟩:=r; rfl
 | byt _=>let ⟨t,rfl⟩:=r; rfl
 | flt _=>let ⟨t,rfl⟩:=r; rfl
 | ref _=>cases r; rfl
 | ty _=>cases r; rfl
def Yi.inj {x y:V} {u:G3} (r:Yi x u) (q:Yi y u):x=y:=Q9 (r.abs.symm.trans q.abs)
theorem Xq.inj:∀ {xs ys:List V} {us:K5},Xq xs us->Xq ys us->xs=ys
 | _,_,_,.nil,.nil=>rfl
 | _,_,_,.cons r t,.cons r' t'=>by rw [r.inj r',Xq.inj t t']
section
variable {xs ys:List V}
def SqL.of (h:H a=some (.lst xs)):SqL K H a xs:=.inl (.inl h)
def SqT.of (h:H a=some (.tup xs)):SqT K H a xs:=.inl (.inl h)
theorem Inv.list (I:Inv X dz σ H s) (h:SqL X.K H a xs):∃ its:K5,Xq xs its/\PlainL s.heap a its.toArray/\xs.length<=sizeLine:=by
 rcases h with h | ⟨o,its,n,hk,hc,hd,hs,hz,r⟩
 ·let ⟨z,its,n,r,e⟩:=h.ok I.hok;exact ⟨its,r,⟨_,n,e,rfl,rfl,rfl⟩,z⟩
 ·refine ⟨its.toList,r,⟨o,n,I.kIn a o hk,hc,hd,by simpa using hs⟩,?_⟩;have e:=r.length;simp only [Array.length_toList] at e;lia
theorem Inv.tuple (I:Inv X dz σ H s) (h:SqT X.K H a xs):∃ its:K5,Xq xs its/\IsTup s.heap a its.toArray/\xs.length<=sizeLine:=by
 rcases h with h | ⟨o,its,n,hk,hc,hs,hz,r⟩
 ·let ⟨z,its,r,p⟩:=h.ok I.hok;exact ⟨its,r,p,z⟩
 ·refine ⟨its.toList,r,⟨o,I.kIn a o hk,hc,n,by simpa using hs⟩,?_⟩;have e:=r.length;simp only [Array.length_toList] at e;lia
def Inv.list_inj (I:Inv X dz σ H s) (h:SqL X.K H a xs) (h':SqL X.K H a ys):xs=ys:=by
 let ⟨its,r,⟨o,n,e,_,_,d⟩,_⟩:=I.list h;let ⟨its',r',⟨o',n',e',_,_,d'⟩,_⟩:=I.list h';rw [e] at e'; cases e';rw [d] at d';injection d' with d1 _
 have:its=its':=by simpa using W6 Array.toList d1
 subst this;exact r.inj r'
def Inv.tuple_inj (I:Inv X dz σ H s) (h:SqT X.K H a xs) (h':SqT X.K H a ys):xs=ys:=by
 let ⟨its,r,⟨o,e,_,n,d⟩,_⟩:=I.tuple h;let ⟨its',r',⟨o',e',_,n',d'⟩,_⟩:=I.tuple h';rw [e] at e'; cases e';rw [d] at d';injection d' with d1 _
 have:its=its':=by simpa using W6 Array.toList d1
 subst this;exact r.inj r'
end
abbrev Cx.wish (X:Cx) (E:K1):Cx:={ X with xe:=E }
abbrev Cx.nox (X:Cx):Cx:=X.wish λ_ _=>False
def Cx.Ok.wish (ok:X.Ok) (E:K1):(X.wish E).Ok :=⟨ok.mod,ok.kind,ok.glob,ok.blt,ok.above,ok.inj,ok.has,ok.cab,ok.hd,ok.frames,ok.stk,ok.exf,ok.bs,ok.bsz,ok.noex,ok.exfs,ok.dw,ok.frf⟩
def Cx.Ok.cu (ok:(X.wish E).Ok):X.Ok :=⟨ok.mod,ok.kind,ok.glob,ok.blt,ok.above,ok.inj,ok.has,ok.cab,ok.hd,ok.frames,ok.stk,ok.exf,ok.bs,ok.bsz,ok.noex,ok.exfs,ok.dw,ok.frf⟩
section
def Inv.wish (I:Inv X dz σ H s) (E:K1):Inv (X.wish E) dz σ H s:=⟨I.ok.wish E,I.os,I.bare,I.base,I.loc,I.cell,I.free,I.c7,I.pin,I.hok,I.len⟩
def Inv.cu (I:Inv (X.wish E) dz σ H s):Inv X dz σ H s:=⟨I.ok.cu,I.os,I.bare,I.base,I.loc,I.cell,I.free,I.c7,I.pin,I.hok,I.len⟩
theorem SP.cu {D:Qx2} {f:Flow} {s':G4} (h:SP (X.wish E) dz D f s'):SP X dz D f s':=by
 cases f with
 | next=>let ⟨σ',H',I,q⟩:=h; exact ⟨σ',H',I.cu,q⟩
 | brk=>let ⟨σ',H',I,q⟩:=h; exact ⟨σ',H',I.cu,q⟩
 | cont=>let ⟨σ',H',I,q⟩:=h; exact ⟨σ',H',I.cu,q⟩
 | ret u=>let ⟨v,σ',H',I,r,q⟩:=h; exact ⟨v,σ',H',I.cu,r,q⟩
def PT.nox {t:TT} (h:PT X.nox e t):PT X e t:=λdz s σ H Q I hw =>T5 (h dz s σ H Q (I.wish _) hw) (λ_ _ ⟨H',I',q⟩=>⟨H',I'.cu,q⟩) λ_ _ z=>False.elim z
def PSs.nox {st:List Stmt} {t:TS} (h:PSs X.nox st t):PSs X st t:=λdz s σ H D I hw =>T5 (h dz s σ H D (I.wish _) hw) (λ_ _ q=>q.cu) λ_ _ z=>False.elim z
end
section
variable {st:Stmt} {j6:List Stmt} {t u:TS} {te:TE}
def Zq9:TS:=λD σ H=>D.nx σ H
def Zzv (t u:TS):TS:=λD σ H=>t { D with nx:=u D } σ H
def Qh:PSs X [] Zq9:=λ_ _ σ H _ I h=>A0w ⟨σ,H,I,h⟩
theorem Qw (h1:PS X st t) (h2:PSs X j6 u):PSs X (st :: j6) (Zzv t u):=by
 intro dz s σ H D I h;refine wpAny_execs_cons (thn (h1 dz s σ H { D with nx:=u D } I h) λf s1 q=>?_);cases f with
 | next =>let ⟨σ',H',I',q⟩:=q;exact h2 dz s1 σ' H' D I' q
 | ret v=>exact q
 | brk=>exact q
 | cont=>exact q
theorem Qm (h1:PS X st t):PSs X [st] t:=by
 intro dz s σ H D I h;refine wpAny_execs_cons (thn (h1 dz s σ H D I h) λf s1 q=>?_);cases f with
 | next=>exact A0w q
 | ret v=>exact q
 | brk=>exact q
 | cont=>exact q
def Inv.quiet (I:Inv X dz σ H s):interactive X.env=false:=by simp [interactive,I.ok.kind]
def Zqx (te:TE):TS:=λD σ H=>te σ H λ_ H1=>D.nx σ H1
def Yq (he:PE X e te) (hs:swapsWith e none pos.line X.env=pure false:=by rfl):PS X (.Expr e pos) (Zqx te):=by intro dz s σ H D I h;exact wpAny_Expr_any (thn (he dz s σ H _ I h) λv s1 ⟨x,H1,I1,r1,q1⟩=>⟨σ,H1,I1,q1⟩) I.quiet hs
def Zzw (te:TE):TS:=λD σ H=>te σ H D.rt
def Qaq (he:PE X e te):PS X (.Return (some e) pos) (Zzw te):=by intro dz s σ H D I h;exact wpAny_Return_some (thn (he dz s σ H _ I h) λv s1 ⟨x,H1,I1,r1,q1⟩=>⟨x,σ,H1,I1,r1,q1⟩)
def Zj3 (c:TT) (t u:TS):TS:=λD σ H=>c σ H λb H1=>if b=true then t D σ H1 else u D σ H1
theorem Zz {a b:List Stmt} {tc:TT} (hc:PT X c tc) (ha:PSs X a t) (hb:PSs X b u):PS X (.If c a b pos) (Zj3 tc t u):=by
 intro dz s σ H D I h;refine wpAny_If (thn (hc dz s σ H _ I h) λd s1 ⟨H1,I1,q1⟩=>?_);cases d with
 | true=>exact ha dz s1 σ H1 D I1 q1
 | false=>exact hb dz s1 σ H1 D I1 q1
def Qiw:TS:=λ_ _ _=>False
def Qfz:PS X st Qiw:=λ_ _ _ _ _ _ h=>h.elim
end
abbrev TG:=V->St->Hp->(St->Hp->Prop)->Prop
variable {g:TG}
abbrev TGs:=List V->St->Hp->(St->Hp->Prop)->Prop
def PG (X:Cx) (jc:Expr) (t:TG):Prop :=
 ∀ (dz:G9) (s:G4) (σ:St) (H:Hp) (v:V) (u:G3) (Q:St->Hp->Prop),Inv X dz σ H s->Yi v u->t v σ H Q ->
  wpAny (model X.prog X.w) X.A (assign jc X.env u) (λ_ s' => ∃ σ' H',Inv X dz σ' H' s'/\Q σ' H') X.xe s
def PGs (X:Cx) (ts:M4) (t:TGs):Prop :=
 ∀ (dz:G9) (s:G4) (σ:St) (H:Hp) (vs:List V) (us:K5) (Q:St->Hp->Prop),Inv X dz σ H s->Xq vs us->t vs σ H Q ->
  wpAny (model X.prog X.w) X.A (assignInOrder ((assignEach ts X.env).map (·.2)) us) (λ_ s' => ∃ σ' H',Inv X dz σ' H' s'/\Q σ' H') X.xe s
abbrev Zq2:=V->V->V->Hp->(Hp->Prop)->Prop
def Zxj (X:Cx) (t:Zq2):Prop :=
 ∀ (dz:G9) (s:G4) (σ:St) (H:Hp) (o i v:V) (ov iv u:G3) (Q:Hp->Prop),Inv X dz σ H s->Yi o ov->Yi i iv->Yi v u->t o i v H Q ->
  wpAny (model X.prog X.w) X.A (setItem ov iv u) (λ_ s' => ∃ H',Inv X dz σ H' s'/\Q H') X.xe s
section
def Jb (i:Nat):TG:=λv σ H Q=>Q (σ.set i (some v)) H
def Ru (hN:X.N.Nodup) (hi:X.N[i]? = some x) (hx:Loc X.env.scope x) (hf:X.fn x=true\/X.env.scope.names.lookup x=some .local:=by first | exact .inl rfl | exact .inr rfl | assumption):PG X (.Name x pos) (Jb i):=by intro dz s σ H v u Q I r h;exact wpAny_assign_Name (Kb I hN hi hx r (λs' I'=>⟨_,H,I',h⟩) hf)
def Zjj:TGs:=λvs σ H Q=>vs=[]/\Q σ H
inductive GCo (t:TG) (u:TGs) (vs:List V) (σ:St) (H:Hp) (Q:St->Hp->Prop):Prop
 | mk (v:V) (r:List V) (e:vs=v :: r) (q:t v σ H λσ' H'=>u r σ' H' Q)
def Zz8 (t:TG) (u:TGs):TGs:=GCo t u
def Wy:PGs X [] Zjj:=by intro dz s σ H vs us Q I r h;let ⟨e,h⟩:=h;subst e;cases r;exact assignInOrder_nil ⟨σ,H,I,h⟩
theorem Zy {es:M4} {t:TG} {u:TGs} (h1:PG X e t) (h2:PGs X es u)
  (hs:(assignEach (e :: es) X.env).map (·.2)=assign e X.env :: (assignEach es X.env).map (·.2):=by rfl):PGs X (e :: es) (Zz8 t u):=by
 intro dz s σ H vs us Q I r h;let ⟨v,vr,e1,h⟩:=h;subst e1;cases r with
 | cons r rr =>rw [hs];refine assignInOrder_cons (thn (h1 dz s σ H _ _ _ I r h) λ_ s1 ⟨σ1,H1,I1,q1⟩=>?_);exact h2 dz s1 σ1 H1 _ _ Q I1 rr q1
inductive GTu (K:M7) (n:Nat) (t:TGs) (v:V) (σ:St) (H:Hp) (Q:St->Hp->Prop):Prop
 | mk (a:G5) (xs:List V) (e:v=.ref a) (q:SqT K H a xs/\xs.length=n/\t xs σ H Q)
def Zxq (K:M7) (n:Nat) (t:TGs):TG:=GTu K n t
def Qaw {es:M4} {t:TGs} {n:Nat} (hc:X.calm=true) (h:PGs X es t)
  (hn:(assignEach es X.env).length=n:=by rfl) (hst:(assignEach es X.env).findIdx? (·.1)=none:=by rfl):PG X (.Tuple es k pos) (Zxq X.K n t):=by
 intro dz s σ H v u Q I r hw;let ⟨a,xs,e1,hq,hl,hw⟩:=hw;subst e1;cases r;let ⟨its,rv,ht,hz⟩:=I.tuple hq;refine assign_Tuple_tuple (I.ok.hd hc) ht (by simp [hn,<- hl,rv.length]) hst λh' hx=>?_;have I1:Inv X dz σ H { s with heap:=h' }:=I.kept (t':=s.toks) λb o e=>hx b o (O7 (N6 e)) e;exact h dz _ σ H xs _ Q I1 (by simpa using rv) hw
def Zjx (to ti:TE) (t:Zq2):TG:=λv σ H Q=>to σ H λo H1=>ti σ H1 λi H2=>t o i v H2 λH3=>Q σ H3
def Dj {o i:Expr} {to ti:TE} {t:Zq2} (ho:PE X o to) (hi:PE X i ti) (hs:Zxj X t)
  (ha:∀ v,assign (.Subscript o i pos) X.env v=(do
   let ov <- holding [v] (eval o X.env)
   let iv <- holding [v,ov] (eval i X.env)
   standAt pos
   holding [v,ov,iv] (setItem ov iv v)
   release [v,ov,iv] []):=by intro _; rfl):PG X (.Subscript o i pos) (Zjx to ti t):=by
 intro dz s σ H v u Q I r h;rw [ha];refine M6 (U3 (thn (ho dz s σ H _ I h) λov s1 ⟨x,H1,I1,r1,q1⟩=>?_));refine M6 (U3 (thn (hi dz s1 σ H1 _ I1 q1) λiv s2 ⟨y,H2,I2,r2,q2⟩=>?_));refine M6 (Z8 (M6 (U3 (thn (hs dz s2 σ H2 x y v ov iv u _ I2 r1 r2 r q2) λ_ s3 ⟨H3,I3,q3⟩=>?_))));exact wpAny_release ⟨σ,H3,I3,q3⟩
def Qsz (te:TE) (g:TG):TS:=λD σ H=>te σ H λx H1=>g x σ H1 D.nx
def Vn {te:TE} (he:PE X e te) (hg:PG X tg g) (hs:swapsWithSole [tg] e pos.line X.env=pure false:=by rfl) (hw:swappedStores [tg] e X.env=pure none:=by rfl)
  (h1:(assignEach [tg] X.env).map (·.2)=[assign tg X.env]:=by rfl):PS X (.Assign [tg] e pos) (Qsz te g):=by
 intro dz s σ H D I h;refine wpAny_Assign_stores (thn (he dz s σ H _ I h) λv s1 ⟨x,H1,I1,r1,q1⟩=>?_) hs hw;rw [h1];exact thn (hg dz s1 σ H1 x v _ I1 r1 q1) λ_ s2 q=>q
def Qa9 {te:TE} {j5:Pos} (hN:X.N.Nodup) (hi:X.N[i]? = some x) (hx:Loc X.env.scope x) (he:PE X e te) (hs:swapsWith e (some (.Name x j5)) pos.line X.env=pure false:=by rfl) (hf:X.fn x=true\/X.env.scope.names.lookup x=some .local:=by first | exact .inl rfl | exact .inr rfl | assumption) :
  PS X (.Assign [.Name x j5] e pos) (Qsz te (Jb i)):=by
 intro dz s σ H D I h;refine wpAny_Assign_Name (thn (he dz s σ H _ I h) λv s1 ⟨y,H1,I1,r1,q1⟩=>?_) hs;exact Kb I1 hN hi hx r1 (λs2 I2=>⟨_,H1,I2,q1⟩) hf
def Zj0 (i j:Nat) (ta:TA):TS:=λD σ H=>ta σ H λvs H1 => ∃ v w,vs=[v,w]/\D.nx ((σ.set i (some v)).set j (some w)) H1
theorem Qaz {i j:Nat} {x y:Str} {a b:Expr} {ta:TA} {px py pt:Pos} {kt k2 pt2} (hc:X.calm=true) (hN:X.N.Nodup) (hi:X.N[i]? = some x) (hj:X.N[j]? = some y) (hij:i≠j)
  (hx:X.env.scope.names.lookup x=some .local) (hy:X.env.scope.names.lookup y=some .local) (ha:PA X [a,b] ta)
  (hw:swappedStores [.Tuple [.Name x px,.Name y py] kt pt] (.Tuple [a,b] k2 pt2) X.env=pure (some [x,y]))
  (hs:swapsWithSole [.Tuple [.Name x px,.Name y py] kt pt] (.Tuple [a,b] k2 pt2) pos.line X.env=pure false:=by rfl) :
  PS X (.Assign [.Tuple [.Name x px,.Name y py] kt pt] (.Tuple [a,b] k2 pt2) pos) (Zj0 i j ta):=by
 intro dz s σ H D I h;rw [exec_Assign_arm];refine M6 (Z8 ?_);rw [hs];refine M6 (M8 ?_);rw [if_neg (by decide)];refine M6 (Tuple_ (thn (ha _ dz s σ H _ I h) λus s1 ⟨vs,H1,I1,r1,q1⟩=>?_));let ⟨v,w,e1,q1⟩:=q1;subst e1;obtain ⟨u1,u2,rfl,rv,rw'⟩:∃ u1 u2,us=[u1,u2]/\Yi v u1/\Yi w u2:=by
  cases r1 with
  | cons p q =>
   cases q with
   | cons p' q' =>cases q';exact ⟨_,_,rfl,p,p'⟩
 refine U8 ?_ (by show 2<=sizeLine; decide);have I2:Inv X dz σ H1 { s1 with heap:=s1.heap.push { cls:=.type "tuple",data:=.seq [u1,u2].toArray } }:=I1.kept (t':=s1.toks) λb o e=>N7 _ e;rw [hw];refine M6 (M8 ?_);show wpAny (model X.prog X.w) X.A (do rule "assign.swapped-stores"; let items <- unpackItems (.ref s1.heap.objs.size) 2 none; assignInOrder [λv=>bindName X.env y v,λv=>bindName X.env x v] items.reverse; pure Flow.next) _ _ _;refine M6 (wpAny_rule (M6 (unpackItems_tuple (items:=#[u1,u2]) (I.ok.hd hc) (IsTup.new s1.heap _) λh' hx'=>?_)));have I3:=I2.kept (h':=h') (t':=s1.toks) λb o e=>hx' b o (O7 (N6 e)) e;show wpAny _ _ (assignInOrder [λv=>bindName X.env y v,λv=>bindName X.env x v] [u2,u1] >>= λ_=>pure Flow.next) _ _ _;refine M6 (assignInOrder_cons (wpAny_bindName (Kb I3 hN hj (.inl hy) rw' (λs2 I4=>?_) (.inr hy))));refine assignInOrder_cons (wpAny_bindName (Kb I4 hN hi (.inl hx) rv (λs3 I5=>assignInOrder_nil (M8 ?_)) (.inr hx)));rw [set_comm _ _ (Ne.symm hij)] at I5;exact ⟨_,H1,I5,q1⟩
end
section
def Qij (c:TT) (tb:TS):TS:=λD σ H => ∃ W:Nat->St->Hp->Prop,(∃ m,W m σ H)/\∀ m σ H,W m σ H ->
 c σ H λb H1=>if b=true then ∃ N:St->Hp->Prop,(∀ σ' H',N σ' H'->∃ m',m' < m/\W m' σ' H')/\tb { D with nx:=N,ct:=N,bk:=D.nx } σ H1 else D.nx σ H1
theorem Mu {tc:TT} (hp:PassesOwn (model X.prog X.w) X.A X.env X.xe) (hc:PT X c tc) (hb:PSs X body tb):PS X (.While c body [] pos) (Qij tc tb):=by
 intro dz s σ H D I h;let ⟨W,⟨m0,w0⟩,turn⟩:=h;refine wpAny_While (codeAny_whileLoop (λn s' => ∃ σ' H',Inv X dz σ' H' s'/\W n σ' H') ?_ m0 ⟨σ,H,I,w0⟩);rintro n s1 ⟨σ1,H1,I1,w1⟩;refine Z3 hp (thn (hc dz s1 σ1 H1 _ I1 (turn n σ1 H1 w1)) λb s2 ⟨H2,I2,q2⟩=>?_);cases b with
 | true =>
  let ⟨N,hN,q2⟩:=q2;rw [if_pos rfl];refine Z3 hp (thn (hb dz s2 σ1 H2 _ I2 q2) λf s3 q3=>?_);cases f with
  | next =>let ⟨σ3,H3,I3,n3⟩:=q3;let ⟨m',hm,w3⟩:=hN σ3 H3 n3;exact ⟨m',hm,σ3,H3,I3,w3⟩
  | cont =>let ⟨σ3,H3,I3,n3⟩:=q3;let ⟨m',hm,w3⟩:=hN σ3 H3 n3;exact ⟨m',hm,σ3,H3,I3,w3⟩
  | brk=>exact q3
  | ret v=>exact q3
 | false =>rw [if_neg Bool.false_ne_true];exact A0w ⟨σ1,H2,I2,q2⟩
end
structure It where
 go:Nat->Hp->Prop
 yld:Nat->Hp->V->Hp->Prop
 stop:Nat->Hp->Prop
def Tn (X:Cx) (dz:G9) (H:Hp) (b:G5):Prop :=H b=none/\b≠X.env.locals/\b ∉ X.fs/\(b∈X.ex\/X.s₀.heap.objs.size<=b)/\(∀ x c,X.env.cells.lookup x=some c->c≠b)/\∀ p∈X.pn ++ dz,p.1≠b
def Inv.fpOk {H':Hp} (I:Inv X dz σ H s) (hb:s.heap.objs.size<=b) (hn:H' b=none):Tn X dz H' b:=by
 refine ⟨hn,Z4 (S9 I.lt hb),I.nofs hb,.inr (O6 I.sz hb),λx c e z=>?_,λp hp z=>?_⟩
 ·let ⟨v,q⟩:=I.cell x c e;exact absurd (S9 q.lt (by rw [z]; exact hb)) (T7 _)
 ·exact absurd (S9 (N6 (I.pin p hp).1) (by rw [z]; exact hb)) (T7 _)
structure Qmk (P:G8) (w:World) (K:M7) (tg:Expr) (J:It) (fp:K6) (it:G5) (tn:Nat->Heap->Prop):Prop where
 mem:it∈fp
 obj:∀ i h,tn i h->∀ b∈fp,∃ o,h.get? b=some o/\∀ v,o.data≠.cell v
 keep:∀ i h h',tn i h->(∀ b∈fp,∀ o,h.get? b=some o->h'.get? b=some o)->tn i h'
 item:∀ (X:Cx),X.prog=P->X.w=w->X.K=K->X.calm=true->∀ (i:Nat) (dz:G9) (s:G4) (σ:St) (H:Hp) (E:K1),Inv X dz σ H s->(∀ b∈fp,Tn X dz H b)->tn i s.heap->J.go i H ->
  wpAny (model P w) X.A (pyNext (.ref it)) (λr s1 => ∃ u,r=some u /\
   wpAny (model P w) X.A (letOwnedTupleGo tg (.ref it) u) (λ_ s2 => ∃ x H',Inv X dz σ H' s2/\Yi x u/\J.yld i H x H'/\tn (i + 1) s2.heap/\∀ b∈fp,H' b=none) E s1) E s
 done:∀ (X:Cx),X.prog=P->X.w=w->X.K=K->X.calm=true->∀ (i:Nat) (dz:G9) (s:G4) (σ:St) (H:Hp) (E:K1),Inv X dz σ H s->(∀ b∈fp,Tn X dz H b)->tn i s.heap->J.stop i H ->
  wpAny (model P w) X.A (pyNext (.ref it)) (λr s1=>r=none/\Inv X dz σ H s1) E s
 self:∀ (A:G7) (i:Nat) (s:G4) (Q:K1) (E:K1),tn i s.heap->Q (.ref it) s->wpAny (model P w) A (pyIter (.ref it)) Q E s
abbrev TI:=St->Hp->(It->Hp->Prop)->Prop
def PIE (X:Cx) (dz:G9) (σ:St) (tg:Expr) (R:It->Hp->Prop) (itv:G3) (s2:G4):Prop :=∃ (it:G5) (fp:K6) (tn:Nat->Heap->Prop) (J:It) (H':Hp),itv=.ref it/\Inv X dz σ H' s2/\Qmk X.prog X.w X.K tg J fp it tn/\tn 0 s2.heap/\(∀ b∈fp,Tn X dz H' b)/\R J H'
def PI (X:Cx) (tg iter:Expr) (wi:TI):Prop :=
 ∀ (dz:G9) (s:G4) (σ:St) (H:Hp) (R:It->Hp->Prop),Inv X dz σ H s->wi σ H R ->
  wpAny (model X.prog X.w) X.A (eval iter X.env) (λv s1=>wpAny (model X.prog X.w) X.A (pyIter v) (PIE X dz σ tg R) X.xe s1) X.xe s
theorem Qbv {it:G5} {n:String} {vs:Array G3} (ho:s.heap.get? it=some o) (hc:o.cls=.type n) (hd:o.data=.fields vs)
  (hn:["enumerate","zip","dict_itemiterator","dict_reverseitemiterator","odict_iterator","itertools.zip_longest","itertools.pairwise"].contains n=false) (hQ:Q () s):wpAny M A (letOwnedTupleGo tg (.ref it) u) Q E s:=by
 unfold letOwnedTupleGo;cases tg <;> first
  | exact M8 hQ
  | (cases u <;> first
    | exact M8 hQ
    | (refine M6 (wpAny_load ho ?_)
       rw [hc,hd];show wpAny M A (if (["enumerate","zip","dict_itemiterator","dict_reverseitemiterator","odict_iterator","itertools.zip_longest","itertools.pairwise"].contains n && vs[0]? == some (rawInt _))=true then _ else _) Q E s;rw [if_neg (by intro h; rw [hn,Bool.false_and] at h; cases h)];exact M8 hQ))
def Itl (K:M7) (a:G5):It :=⟨λi H => ∃ xs x,SqL K H a xs/\xs[i]? = some x,λi H x H'=>H'=H/\∀ xs,SqL K H a xs->xs[i]? = some x,λi H => ∃ xs,SqL K H a xs/\xs.length<=i⟩
def Itt (K:M7) (a:G5):It :=⟨λi H => ∃ xs x,SqT K H a xs/\xs[i]? = some x,λi H x H'=>H'=H/\∀ xs,SqT K H a xs->xs[i]? = some x,λi H => ∃ xs,SqT K H a xs/\xs.length<=i⟩
def Itr (lo:Int) (n:Nat):It:=⟨λi _=>i < n,λi H x H'=>H'=H/\x=.int (lo + i),λi _=>n<=i⟩
theorem Qwz (a it:G5):Qmk P w K tg (Itl K a) [it] it (λi h=>h.IsListIter it a i) where
 mem:=by simp
 obj:=λi h st b hb=>by
  have e:b=it:=by simpa using hb
  subst e;let ⟨o,e,c,d⟩:=st;exact ⟨o,e,λv z=>by rw [d] at z; cases z⟩
 keep:=λi h h' st k=>st.at λo e=>k it (by simp) o e
 item:=by intro X hP hw hK hc i dz s σ H E I hf st hg;subst hP hw hK;let ⟨xs,x,hq,hx⟩:=hg;let ⟨its,rv,p,hz⟩:=I.list hq;let ⟨u,hu,ru⟩:=rv.get hx;let ⟨f0,f1,f2,f3,f4,f5⟩:=hf it (by simp);refine wpAny_pyNext_list_item st p.isList (x:=u) (by simpa using hu) λh' st' sb=>?_;have I1:Inv X dz σ H { s with heap:=h' }:=I.turned (t':=s.toks) (λb o hb e=>(sb.2 b hb).trans e) f0 f1 f3 f4 f5;let ⟨o,e,c,d⟩:=id st';exact ⟨u,rfl,Qbv (s:={ s with heap:=h' }) e c d (by decide) ⟨x,H,I1,ru,⟨rfl,λys hy=>by rw [I.list_inj hy hq]; exact hx⟩,st',λb hb=>(hf b hb).1⟩⟩
 done:=by intro X hP hw hK hc i dz s σ H E I hf st hg;subst hP hw hK;let ⟨xs,hq,hx⟩:=hg;let ⟨its,rv,p,hz⟩:=I.list hq;let ⟨f0,f1,f2,f3,f4,f5⟩:=hf it (by simp);have hl:=rv.length;exact wpAny_pyNext_list_end (I.ok.hd hc) st p.isList (by simp; lia) λh' eb=>⟨rfl,I.turned (t':=s.toks) (λb o hb e=>eb b o hb e) f0 f1 f3 f4 f5⟩
 self:=λ_ _ _ _ _ st h=>wpAny_pyIter_listiter st h
theorem Ob (a it:G5):Qmk P w K tg (Itt K a) [it] it (λi h=>h.IsTupleIter it a i) where
 mem:=by simp
 obj:=λi h st b hb=>by
  have e:b=it:=by simpa using hb
  subst e;let ⟨o,e,c,d⟩:=st;exact ⟨o,e,λv z=>by rw [d] at z; cases z⟩
 keep:=λi h h' st k=>st.at λo e=>k it (by simp) o e
 item:=by intro X hP hw hK hc i dz s σ H E I hf st hg;subst hP hw hK;let ⟨xs,x,hq,hx⟩:=hg;let ⟨its,rv,p,hz⟩:=I.tuple hq;let ⟨u,hu,ru⟩:=rv.get hx;let ⟨f0,f1,f2,f3,f4,f5⟩:=hf it (by simp);refine wpAny_pyNext_tuple_item st (show s.heap.IsTuple a its.toArray from p) (x:=u) (by simpa using hu) λh' st' sb=>?_;have I1:Inv X dz σ H { s with heap:=h' }:=I.turned (t':=s.toks) (λb o hb e=>(sb.2 b hb).trans e) f0 f1 f3 f4 f5;let ⟨o,e,c,d⟩:=id st';exact ⟨u,rfl,Qbv (s:={ s with heap:=h' }) e c d (by decide) ⟨x,H,I1,ru,⟨rfl,λys hy=>by rw [I.tuple_inj hy hq]; exact hx⟩,st',λb hb=>(hf b hb).1⟩⟩
 done:=by intro X hP hw hK hc i dz s σ H E I hf st hg;subst hP hw hK;let ⟨xs,hq,hx⟩:=hg;let ⟨its,rv,p,hz⟩:=I.tuple hq;let ⟨f0,f1,f2,f3,f4,f5⟩:=hf it (by simp);have hl:=rv.length;exact wpAny_pyNext_tuple_end (I.ok.hd hc) st (show s.heap.IsTuple a its.toArray from p) (by simp; lia) λh' eb=>⟨rfl,I.turned (t':=s.toks) (λb o hb e=>eb b o hb e) f0 f1 f3 f4 f5⟩
 self:=λ_ _ _ _ _ st h=>wpAny_pyIter_tupleiter st h
theorem Of (it:G5) (lo:Int) (n:Nat):Qmk P w K tg (Itr lo n) [it] it (λi h=>IsRangeIter h it (lo + (i:Nat) * 1) ((n:Int) - (i:Nat)) 1) where
 mem:=by simp
 obj:=λi h st b hb=>by
  have e:b=it:=by simpa using hb
  subst e;exact ⟨_,st,λv z=>by have z':Data.fields _=Data.cell v:=z;cases z'⟩
 keep:=λi h h' st k=>k it (by simp) _ st
 item:=by intro X hP hw hK hc i dz s σ H E I hf st hg;subst hP hw hK;let ⟨f0,f1,f2,f3,f4,f5⟩:=hf it (by simp);have W:=Walks.range (prog:=X.prog) (w:=X.w) (I.ok.hd hc) it lo 1 n;refine W.item i s _ _ hg st λv h' tk hv st' kk=>?_;let ⟨t,rfl⟩:=hv;have I1:Inv X dz σ H { s with heap:=h',toks:=tk }:=I.turned (λb o hb e=>kk b o (by simpa using hb) e) f0 f1 f3 f4 f5;refine ⟨_,rfl,Qbv (s:={ s with heap:=h',toks:=tk }) (n:="range_iterator") st' rfl rfl (by decide) ⟨.int (lo + i),H,I1,⟨t,?_⟩,⟨rfl,rfl⟩,st',λb hb=>(hf b hb).1⟩⟩;rw [Int.mul_one]
 done:=by intro X hP hw hK hc i dz s σ H E I hf st hg;subst hP hw hK;let ⟨f0,f1,f2,f3,f4,f5⟩:=hf it (by simp);exact wpAny_pyNext_range_end (I.ok.hd hc) st (by have:n<=i:=hg; lia) λh' eb=>⟨rfl,I.turned (t':=s.toks) (λb o hb e=>eb b o hb e) f0 f1 f3 f4 f5⟩
 self:=λ_ _ _ _ _ st h=>wpAny_pyIter_rangeiter st h
section
def Qcj (K:M7) (tl:TE):TI:=λσ H R=>tl σ H λx H1 => ∃ a,x=.ref a/\(∃ xs,SqL K H1 a xs)/\R (Itl K a) H1
def Zx9 (K:M7) (tl:TE):TI:=λσ H R=>tl σ H λx H1 => ∃ a,x=.ref a/\(∃ xs,SqT K H1 a xs)/\R (Itt K a) H1
def Qr9 {l:Expr} {tl:TE} (hl:PE X l tl):PI X tg l (Qcj X.K tl):=by
 intro dz s σ H R I h;refine thn (hl dz s σ H _ I h) λv s1 ⟨x,H1,I1,r1,q1⟩=>?_;let ⟨a,e,⟨xs,hq⟩,q⟩:=q1;subst e;cases r1;let ⟨its,rv,p,hz⟩:=I1.list hq;refine X5 p.isList ?_;refine ⟨s1.heap.objs.size,[s1.heap.objs.size],_,_,H1,rfl,I1.kept (t':=s1.toks) λb o e=>N7 _ e,Qwz a _,⟨_,Q5 _ rfl,rfl,rfl⟩,λb hb=>?_,q⟩;have e:b=s1.heap.objs.size:=by simpa using hb
 subst e;exact I1.fpOk (O1 _) (I1.hok.fresh (O1 _))
def Qav {l:Expr} {tl:TE} (hl:PE X l tl):PI X tg l (Zx9 X.K tl):=by
 intro dz s σ H R I h;refine thn (hl dz s σ H _ I h) λv s1 ⟨x,H1,I1,r1,q1⟩=>?_;let ⟨a,e,⟨xs,hq⟩,q⟩:=q1;subst e;cases r1;let ⟨its,rv,p,hz⟩:=I1.tuple hq;refine wpAny_pyIter_tuple (show s1.heap.IsTuple a its.toArray from p) ?_;refine ⟨s1.heap.objs.size,[s1.heap.objs.size],_,_,H1,rfl,I1.kept (t':=s1.toks) λb o e=>N7 _ e,Ob a _,⟨_,Q5 _ rfl,rfl,rfl⟩,λb hb=>?_,q⟩;have e:b=s1.heap.objs.size:=by simpa using hb
 subst e;exact I1.fpOk (O1 _) (I1.hok.fresh (O1 _))
theorem Ep {R:It->Hp->Prop} {lo hi:Int} {t u v:Tok} {tk:Nat} (I:Inv X dz σ H s) (h1:-(2 ^ 62)<=lo) (h2:lo < 2 ^ 62) (h3:-(2 ^ 62)<=hi) (h4:hi < 2 ^ 62)
  (q:R (Itr lo (hi - lo).toNat) H):wpAny (model X.prog X.w) X.A (pyIter (.ref s.heap.objs.size)) (PIE X dz σ tg R) E { s with heap:=s.heap.push { cls:=.type "range",data:=.fields #[.int lo t,.int hi u,.int 1 v] },toks:=tk }:=by
 refine wpAny_pyIter_range (IsRange.new ..) (small_one h1 h2 h3 h4) ?_;have I1:Inv X dz σ H { s with heap:=s.heap.push { cls:=.type "range",data:=.fields #[.int lo t,.int hi u,.int 1 v] },toks:=tk }:=I.kept λb o e=>N7 _ e;refine ⟨(s.heap.push { cls:=.type "range",data:=.fields #[.int lo t,.int hi u,.int 1 v] }).objs.size,[(s.heap.push { cls:=.type "range",data:=.fields #[.int lo t,.int hi u,.int 1 v] }).objs.size],_,_,H,rfl,
  I1.kept (t':=tk) λb o e=>N7 _ e,Of _ lo (hi - lo).toNat,?_,λb hb=>?_,q⟩
 ·have e1:lo + ((0:Nat):Int) * 1=lo:=by simp
  have e2:(((hi - lo).toNat:Nat):Int) - ((0:Nat):Int)=Builtin.Range.rangeSize lo hi 1:=by rw [rangeSize_one]; split <;> lia
  show IsRangeIter _ _ (lo + ((0:Nat):Int) * 1) ((((hi - lo).toNat:Nat):Int) - ((0:Nat):Int)) 1;rw [e1,e2];exact Q5 _ rfl
 ·have e:b=(s.heap.push { cls:=.type "range",data:=.fields #[.int lo t,.int hi u,.int 1 v] }).objs.size:=by simpa using hb
  subst e;exact I1.fpOk (O1 _) (I1.hok.fresh (O1 _))
def Qi5 (ta:TA):TI:=λσ H R=>ta σ H λvs H1 => ∃ j:Int,vs=[.int j]/\-(2 ^ 62)<=j/\j < 2 ^ 62/\R (Itr 0 j.toNat) H1
def Zz6 (ta:TA):TI:=λσ H R=>ta σ H λvs H1 => ∃ i j:Int,vs=[.int i,.int j]/\(-(2 ^ 62)<=i/\i < 2 ^ 62/\-(2 ^ 62)<=j/\j < 2 ^ 62)/\R (Itr i (j - i).toNat) H1
theorem Qy8 {a:Expr} {ta:TA} {p:Pos} (hg:Gl X "range") (hm:X.mg "range" = none) (ha:PA X [a] ta) (hs:starEach [a] X.env=[(false,eval a X.env)]:=by rfl):PI X tg (.Call (.Name "range" p) [a] [] pos) (Qi5 ta):=by
 intro dz s σ H R I h;refine Call_ (Ux I hg hm boot_range (W7 (thn (ha pos dz s σ H _ I h) λus s1 ⟨vs,H1,I1,r1,q1⟩=>?_) hs rfl));let ⟨j,e,q1,q2,q⟩:=q1;subst e;cases r1 with
 | cons r rr =>cases rr;let ⟨t,rfl⟩:=r;exact call_range_1 (Ep I1 "o" "o" q1 q2 (by simpa using q))
theorem Qy7 {a b:Expr} {ta:TA} {p:Pos} (hg:Gl X "range") (hm:X.mg "range" = none) (ha:PA X [a,b] ta) (hs:starEach [a,b] X.env=[(false,eval a X.env),(false,eval b X.env)]:=by rfl) (hs2:starEach [b] X.env=[(false,eval b X.env)]:=by rfl) :
  PI X tg (.Call (.Name "range" p) [a,b] [] pos) (Zz6 ta):=by
 intro dz s σ H R I h;refine Call_ (Ux I hg hm boot_range (W7 (thn (ha pos dz s σ H _ I h) λus s1 ⟨vs,H1,I1,r1,q1⟩=>?_) (by rw [hs,hs2]) (by rw [hs2]; rfl)));let ⟨i,j,e,⟨q1,q2,q3,q4⟩,q⟩:=q1;subst e;cases r1 with
 | cons r rr =>
  cases rr with
  | cons r' rr =>cases rr;let ⟨t,rfl⟩:=r;let ⟨t',rfl⟩:=r';exact call_range_2 (Ep I1 q1 q2 q3 q4 q)
def Zzk (wi:TI) (g:TG) (tb:TS):TS:=λD σ H=>wi σ H λJ H1 => ∃ W:Nat->Nat->St->Hp->Prop,(∃ m,W 0 m σ H1)/\∀ i m σ H,W i m σ H ->
 (J.stop i H/\D.nx σ H)\/(J.go i H/\∃ N:St->Hp->Prop,(∀ σ' H',N σ' H'->∃ m',m' < m/\W (i + 1) m' σ' H')/\∀ x H',J.yld i H x H'->g x σ H' λσ2 H2=>tb { D with nx:=N,ct:=N,bk:=D.nx } σ2 H2)
def Dx (fp:K6) (h:Heap):G9:=fp.filterMap λb=>(h.get? b).map λo=>(b,o)
def Jh {fp:K6} (hb:b∈fp) (e:h.get? b=some o):(b,o)∈Dx fp h:=Z5.mpr ⟨b,hb,by rw [e]; rfl⟩
theorem Qyz {fp:K6} {p:G5 × Obj} (hp:p∈Dx fp h):p.1∈fp/\h.get? p.1=some p.2:=by
 let ⟨b,hb,e⟩:=Z5.mp hp;cases q:h.get? b with
 | none=>rw [q] at e; cases e
 | some o =>rw [q] at e;have e':(b,o)=p:=Q9 e;subst e';exact ⟨hb,q⟩
def Inv.pinned {fp:K6} (I:Inv X dz σ H s) (hf:∀ b∈fp,Tn X dz H b) (ho:∀ b∈fp,∃ o,s.heap.get? b=some o/\∀ v,o.data≠.cell v):Inv X (dz ++ Dx fp s.heap) σ H s :=I.cg λp hp=>(O5.mp hp).elim (λz=>I.pin p (P0 _ z)) λz=>by let ⟨hb,e⟩:=Qyz z;let ⟨f0,f1,f2,_⟩:=hf p.1 hb;let ⟨o,e',d⟩:=ho p.1 hb;rw [e] at e'; cases e';exact ⟨e,f0,f1,f2,d⟩
def Inv.dj {pl:G9} (I:Inv X (dz ++ pl) σ H s):Inv X dz σ H s:=I.cg λp hp=>I.pin p (P0 _ (R5 _ hp))
theorem Qax {iter:Expr} {wi:TI} (hp:PassesOwn (model X.prog X.w) X.A X.env X.xe) (hc:X.calm=true) (hi:PI X tg iter wi) (hg:PG X tg g) (hb:PSs X body tb)
  (hs:∀ x,foldedSetIterable iter X.env x=pure x:=by intro _; rfl):PS X (.For tg iter body [] pos) (Zzk wi g tb):=by
 intro dz s σ H D I h;refine wpAny_For (thn (hi dz s σ H _ I h) λv s1 h1=>thn h1 λitv s2 h2=>?_) hs;let ⟨it,fp,tn,J,H2,e,I2,T,st2,f2,W,⟨m0,w0⟩,turn⟩:=h2;subst e;have stat:∀ {H':Hp},(∀ b∈fp,H' b=none)->∀ b∈fp,Tn X dz H' b:=λhn b hb=>⟨hn b hb,(f2 b hb).2⟩
 refine codeAny_forLoop_any (λn s' => ∃ i σ' H',Inv X dz σ' H' s'/\tn i s'.heap/\(∀ b∈fp,H' b=none)/\W i n σ' H') ?_ m0 ⟨0,σ,H2,I2,st2,λb hb=>(f2 b hb).1,w0⟩;rintro n s3 ⟨i,σ3,H3,I3,st3,fr3,w3⟩;rcases turn i n σ3 H3 w3 with ⟨stop,qn⟩ | ⟨go,N,hN,step⟩
 ·refine Z3 hp (thn (T.done X rfl rfl rfl hc i dz s3 σ3 H3 X.xe I3 (stat fr3) st3 stop) λr s4 ⟨hr,I4⟩=>?_);subst hr;exact A0w ⟨σ3,H3,I4,qn⟩
 ·refine Z3 hp (thn (T.item X rfl rfl rfl hc i dz s3 σ3 H3 X.xe I3 (stat fr3) st3 go) λr s4 ⟨u,hr,h4⟩=>?_);subst hr;refine Z3 hp (thn h4 λ_ s5 ⟨x,H5,I5,r5,y5,st5,fr5⟩=>?_);have I5':=I5.pinned (stat fr5) (T.obj _ _ st5);refine Z3 hp (thn (hg _ s5 σ3 H5 x u _ I5' r5 (step x H5 y5)) λ_ s6 ⟨σ6,H6,I6,q6⟩=>?_);refine Z3 hp (thn (hb _ s6 σ6 H6 _ I6 q6) λf s7 q7=>?_);have again:∀ {σ7:St} {H7:Hp},Inv X (dz ++ Dx fp s5.heap) σ7 H7 s7->N σ7 H7->∃ m,m < n/\∃ i σ' H',Inv X dz σ' H' s7/\tn i s7.heap/\(∀ b∈fp,H' b=none)/\W i m σ' H':=λ{σ7 H7} I7 n7=>by let ⟨m',hm,w7⟩:=hN σ7 H7 n7;refine ⟨m',hm,i + 1,σ7,H7,I7.dj,T.keep _ _ _ st5 λb hb o e=>(I7.pin (b,o) (P0 _ (P0 _ (Jh hb e)))).1,λb hb=>?_,w7⟩;let ⟨o,e,d⟩:=T.obj _ _ st5 b hb;exact (I7.pin (b,o) (P0 _ (P0 _ (Jh hb e)))).2.1
  cases f with
  | next=>let ⟨σ7,H7,I7,n7⟩:=q7; exact again I7 n7
  | cont=>let ⟨σ7,H7,I7,n7⟩:=q7; exact again I7 n7
  | brk=>let ⟨σ7,H7,I7,q7⟩:=q7; exact ⟨σ7,H7,I7.dj,q7⟩
  | ret v=>let ⟨x7,σ7,H7,I7,r7,q7⟩:=q7; exact ⟨x7,σ7,H7,I7.dj,r7,q7⟩
end
theorem Tp {xs:List V} {D:Qx2} (Pv:Nat->St->Hp->Prop) (h0:Pv 0 σ H) (hl:∀ i σ H,i<=xs.length->Pv i σ H->SqL K H a xs)
  (hs:∀ i x σ H,xs[i]? = some x->Pv i σ H->g x σ H λσ2 H2=>tb { D with nx:=Pv (i + 1),ct:=Pv (i + 1),bk:=D.nx } σ2 H2) (hd:∀ σ H,Pv xs.length σ H->D.nx σ H) :
  ∃ W:Nat->Nat->St->Hp->Prop,(∃ m,W 0 m σ H)/\∀ i m σ H,W i m σ H ->
   ((Itl K a).stop i H/\D.nx σ H)\/((Itl K a).go i H/\∃ N:St->Hp->Prop,(∀ σ' H',N σ' H'->∃ m',m' < m/\W (i + 1) m' σ' H')/\∀ x H',(Itl K a).yld i H x H'->g x σ H' λσ2 H2=>tb { D with nx:=N,ct:=N,bk:=D.nx } σ2 H2):=by
 refine ⟨λi m σ H=>m=xs.length - i/\i<=xs.length/\Pv i σ H,⟨xs.length,by simp,R7 _,h0⟩,?_⟩;rintro i m σ H ⟨rfl,hi,p⟩;have q:=hl i σ H hi p
 by_cases hlt:i < xs.length
 ·refine .inr ⟨⟨xs,xs[i],q,by simp [hlt]⟩,Pv (i + 1),λσ' H' p'=>⟨xs.length - (i + 1),"o",rfl,hlt,p'⟩,λx H' y=>?_⟩;let ⟨e,y⟩:=y;subst e;exact hs i x σ _ (y xs q) p
 ·have e:i=xs.length:=by lia
  subst e;exact .inl ⟨⟨xs,q,O1 _⟩,hd σ H p⟩
theorem Ji {lo:Int} {n:Nat} {D:Qx2} (Pv:Nat->St->Hp->Prop) (h0:Pv 0 σ H)
  (hs:∀ i σ H,i < n->Pv i σ H->g (.int (lo + i)) σ H λσ2 H2=>tb { D with nx:=Pv (i + 1),ct:=Pv (i + 1),bk:=D.nx } σ2 H2) (hd:∀ σ H,Pv n σ H->D.nx σ H) :
  ∃ W:Nat->Nat->St->Hp->Prop,(∃ m,W 0 m σ H)/\∀ i m σ H,W i m σ H ->
   ((Itr lo n).stop i H/\D.nx σ H)\/((Itr lo n).go i H/\∃ N:St->Hp->Prop,(∀ σ' H',N σ' H'->∃ m',m' < m/\W (i + 1) m' σ' H')/\∀ x H',(Itr lo n).yld i H x H'->g x σ H' λσ2 H2=>tb { D with nx:=N,ct:=N,bk:=D.nx } σ2 H2):=by
 refine ⟨λi m σ H=>m=n - i/\i<=n/\Pv i σ H,⟨n,by simp,R7 _,h0⟩,?_⟩;rintro i m σ H ⟨rfl,hi,p⟩
 by_cases hlt:i < n
 ·refine .inr ⟨hlt,Pv (i + 1),λσ' H' p'=>⟨n - (i + 1),"o",rfl,hlt,p'⟩,λx H' y=>?_⟩;let ⟨e,y⟩:=y;subst e y;exact hs i σ _ hlt p
 ·have e:i=n:=by lia
  subst e;exact .inl ⟨O1 _,hd σ H p⟩
abbrev R2:=V->V->Hp->VK->Prop
variable {r:R2}
def OpR (X:Cx) (f:G3->G3->Sem G3) (r:R2):Prop :=
 ∀ (dz:G9) (s:G4) (σ:St) (H:Hp) (x y:V) (v u:G3) (Q:VK),Inv X dz σ H s->Yi x v->Yi y u->r x y H Q ->
  wpAny (model X.prog X.w) X.A (f v u) (EP X dz σ Q) X.xe s
def UnR (X:Cx) (f:G3->Sem G3) (r:V->Hp->VK->Prop):Prop :=
 ∀ (dz:G9) (s:G4) (σ:St) (H:Hp) (x:V) (v:G3) (Q:VK),Inv X dz σ H s->Yi x v->r x H Q ->
  wpAny (model X.prog X.w) X.A (f v) (EP X dz σ Q) X.xe s
def Up (X:Cx) (f:G3) (r:List V->Hp->VK->Prop):Prop :=
 ∀ (dz:G9) (s:G4) (σ:St) (H:Hp) (xs:List V) (us:K5) (Q:VK),Inv X dz σ H s->Xq xs us->r xs H Q ->
  wpAny (model X.prog X.w) X.A (call f us) (EP X dz σ Q) X.xe s
def tOp (r:R2) (ta tb:TE):TE:=λσ H Q=>ta σ H λx H1=>tb σ H1 λy H2=>r x y H2 Q
def tUn (r:V->Hp->VK->Prop) (ta:TE):TE:=λσ H Q=>ta σ H λx H1=>r x H1 Q
inductive RI (C:Int->Int->Prop) (g:Int->Int->V) (x y:V) (H:Hp) (Q:VK):Prop
 | mk (i j:Int) (a:x=.int i) (b:y=.int j) (q:C i j/\Q (g i j) H)
def rI (C:Int->Int->Prop) (g:Int->Int->V):R2:=RI C g
inductive RI0 (g:Int->Int->V) (x y:V) (H:Hp) (Q:VK):Prop
 | mk (i j:Int) (a:x=.int i) (b:y=.int j) (q:Q (g i j) H)
def rI0 (g:Int->Int->V):R2:=RI0 g
def rU (g:Int->V):V->Hp->VK->Prop:=λx H Q => ∃ i,x=.int i/\Q (g i) H
section
variable {a b:Expr} {ta tb tc:TE}
def Zq1 (ha:PE X a ta) (hb:PE X b tb) {R:V->V->Hp->Prop} (I:Inv X dz σ H s)
  (h:ta σ H λx H1=>tb σ H1 λy H2=>R x y H2) {Q:K1}
  (hf:∀ v u s2 x y H2,Inv X dz σ H2 s2->Yi x v->Yi y u->R x y H2->wpAny (model X.prog X.w) X.A (f v u) Q X.xe s2) :
  wpAny (model X.prog X.w) X.A (eval a X.env) (λv s₁=>wpAny (model X.prog X.w) X.A (eval b X.env) (λu s₂=>wpAny (model X.prog X.w) X.A (f v u) Q X.xe s₂) X.xe s₁) X.xe s:=by
 refine thn (ha dz s σ H _ I h) λv s1 ⟨x,H1,I1,r1,q1⟩=>?_;refine thn (hb dz s1 σ H1 _ I1 q1) λu s2 ⟨y,H2,I2,r2,q2⟩=>?_;exact hf v u s2 x y H2 I2 r1 r2 q2
def Qy {op:Operator} (ho:OpR X (binaryOp op) r) (ha:PE X a ta) (hb:PE X b tb):PE X (.BinOp a op b pos) (tOp r ta tb):=by intro dz s σ H Q I h;exact wpAny_BinOp (Zq1 ha hb I h λv u s2 x y H2 I2 rx ry q=>ho dz s2 σ H2 x y v u Q I2 rx ry q)
def Qi2 {op:UnaryOp} {r:V->Hp->VK->Prop} (ho:UnR X (unaryOp op) r) (ha:PE X a ta):PE X (.UnaryOp op a pos) (tUn r ta):=by intro dz s σ H Q I h;exact UnaryOp_ (thn (ha dz s σ H _ I h) λv s1 ⟨x,H1,I1,r1,q1⟩=>ho dz s1 σ H1 x v Q I1 r1 q1)
def opI {C:Int->Int->Prop} {g:Int->Int->Int}
  (rule:∀ (i j:Int) (t u:Tok) (s:G4) (Q:K1) (E:K1),C i j->Q (.int (g i j) s.toks) { s with toks:=s.toks + 1 }->wpAny (model X.prog X.w) X.A (f (.int i t) (.int j u)) Q E s) :
  OpR X f (rI C λi j=>.int (g i j)):=by
 intro dz s σ H x y v u Q I rx ry h;let ⟨i,j,rfl,rfl,hc,q⟩:=h;let ⟨t,rfl⟩:=rx;let ⟨t',rfl⟩:=ry;exact rule i j t t' s _ _ hc ⟨.int (g i j),H,I.tok _,⟨_,rfl⟩,q⟩
def Zx8 {g:Int->Int->Int}
  (rule:∀ (i j:Int) (t u:Tok) (s:G4) (Q:K1) (E:K1),Q (.int (g i j) s.toks) { s with toks:=s.toks + 1 }->wpAny (model X.prog X.w) X.A (f (.int i t) (.int j u)) Q E s) :
  OpR X f (rI0 λi j=>.int (g i j)):=by
 intro dz s σ H x y v u Q I rx ry h;let ⟨i,j,rfl,rfl,q⟩:=h;let ⟨t,rfl⟩:=rx;let ⟨t',rfl⟩:=ry;exact rule i j t t' s _ _ ⟨.int (g i j),H,I.tok _,⟨_,rfl⟩,q⟩
def Qow {g:Int->Int->Bool}
  (rule:∀ (i j:Int) (t u:Tok) (s:G4) (Q:K1) (E:K1),Q (.bool (g i j)) s->wpAny (model X.prog X.w) X.A (f (.int i t) (.int j u)) Q E s) :
  OpR X f (rI0 λi j=>.bl (g i j)):=by
 intro dz s σ H x y v u Q I rx ry h;let ⟨i,j,rfl,rfl,q⟩:=h;let ⟨t,rfl⟩:=rx;let ⟨t',rfl⟩:=ry;exact rule i j t t' s _ _ ⟨.bl (g i j),H,I,rfl,q⟩
def Zv3 (i j:Int):Prop:=0<=j/\j<=1000000/\i.natAbs < 2 ^ 64
def Xm:OpR X (binaryOp .Add) (rI0 λi j=>.int (i + j)):=Zx8 λ_ _ _ _ _ _ _ q=>add_int q
def Zv:OpR X (binaryOp .Sub) (rI0 λi j=>.int (i - j)):=Zx8 λ_ _ _ _ _ _ _ q=>sub_int q
theorem Ze:OpR X (binaryOp .Mod) (rI (λ_ j=>0 < j) λi j=>.int (i % j)):=opI λi j _ _ _ _ _ hc q=>by have h1:(0:Int) < j:=hc;exact mod_int' "o" (by rw [Int.fmod_eq_emod_of_nonneg i "o"]; exact q)
def Qt0:OpR X (binaryOp .Mod) (rI (λ_ j=>j≠0) λi j=>.int (i.fmod j)):=opI λ_ _ _ _ _ _ _ hc q=>mod_int' hc q
def Pl:OpR X (binaryOp .Pow) (rI Zv3 λi j=>.int (i ^ j.toNat)):=opI λ_ _ _ _ _ _ _ hc q=>pow_int_small hc.1 hc.2.1 hc.2.2 q
def unI {f:G3->Sem G3} {g:Int->Int}
  (rule:∀ (i:Int) (t:Tok) (s:G4) (Q:K1) (E:K1),Q (.int (g i) s.toks) { s with toks:=s.toks + 1 }->wpAny (model X.prog X.w) X.A (f (.int i t)) Q E s) :
  UnR X f (rU λi=>.int (g i)):=by
 intro dz s σ H x v Q I rx h;let ⟨i,rfl,q⟩:=h;let ⟨t,rfl⟩:=rx;exact rule i t s _ _ ⟨.int (g i),H,I.tok _,⟨_,rfl⟩,q⟩
def Qd2:UnR X (unaryOp .USub) (rU λi=>.int (-i)):=unI λ_ _ _ _ _ q=>neg_int q
end
def Zx0:V->V->Bool
 | .non,.non=>true | .non,.int _=>true | .int _,.non=>true | .non,.bl _=>true | .bl _,.non=>true | .non,.str _=>true | .str _,.non=>true
 | .int _,.int _=>true | .bl _,.bl _=>true | .str _,.str _=>true | .byt _,.byt _=>true
 | .int _,.str _=>true | .str _,.int _=>true | .bl _,.str _=>true | .str _,.bl _=>true
 | _,_=>false
def rEq:R2:=λx y H Q=>Zx0 x y=true/\Q (.bl (decide (x=y))) H
def rNe:R2:=λx y H Q=>Zx0 x y=true/\Q (.bl (!decide (x=y))) H
def Qw1 {i j:Int}:decide (V.int i=V.int j)=(i == j):=by rw [Bool.eq_iff_iff];simp
def Qdx {i j:Bool}:decide (V.bl i=V.bl j)=(i == j):=by rw [Bool.eq_iff_iff];simp
def Qw0 {i j:Str}:decide (V.str i=V.str j)=(i == j):=by rw [Bool.eq_iff_iff];simp
def Qw2 {i j:Array UInt8}:decide (V.byt i=V.byt j)=(i.toList == j.toList):=by rw [Bool.eq_iff_iff];cases i;cases j;simp
section
variable {a b:Expr} {ta tb tc:TE}
def Zb {Q:VK} {k k':Bool} (I:Inv X dz σ H s) (q:Q (.bl k) H) (e:k=k'):EP X dz σ Q (.bool k') s:=by subst e;exact ⟨.bl k,H,I,rfl,q⟩
theorem Jg:OpR X (compareOp .Eq) rEq:=by
 intro dz s σ H x y v u Q I rx ry h;let ⟨hs,q⟩:=h;cases x with
 | non =>
  cases rx;cases y with
  | non=>cases ry; exact PySem.EqNone.eq_none_none (Zb I q (by simp))
  | bl j=>cases ry; exact PySem.EqNone.eq_none_bool (Zb I q (by simp))
  | int j=>let ⟨t',rfl⟩:=ry; exact PySem.EqNone.eq_none_int (Zb I q (by simp))
  | str j=>let ⟨t',rfl⟩:=ry; exact PySem.EqNone.eq_none_str (Zb I q (by simp))
  | _=>exact absurd (show false=true from hs) R8
 | bl i =>
  cases rx;cases y with
  | non=>cases ry; exact PySem.EqNone.eq_bool_none (Zb I q (by simp))
  | bl j=>cases ry; exact eq_bool (Zb I q Qdx)
  | str j=>let ⟨t',rfl⟩:=ry; exact PySem.EqMixed.eq_bool_str (Zb I q (by simp))
  | _=>exact absurd (show false=true from hs) R8
 | int i =>
  let ⟨t,rfl⟩:=rx;cases y with
  | non=>cases ry; exact PySem.EqNone.eq_int_none (Zb I q (by simp))
  | int j=>let ⟨t',rfl⟩:=ry; exact eq_int (Zb I q Qw1)
  | str j=>let ⟨t',rfl⟩:=ry; exact PySem.EqMixed.eq_int_str (Zb I q (by simp))
  | _=>exact absurd (show false=true from hs) R8
 | str i =>
  let ⟨t,rfl⟩:=rx;cases y with
  | non=>cases ry; exact PySem.EqNone.eq_str_none (Zb I q (by simp))
  | bl j=>cases ry; exact PySem.EqMixed.eq_str_bool (Zb I q (by simp))
  | int j=>let ⟨t',rfl⟩:=ry; exact PySem.EqMixed.eq_str_int (Zb I q (by simp))
  | str j=>let ⟨t',rfl⟩:=ry; exact eq_str (Zb I q Qw0)
  | _=>exact absurd (show false=true from hs) R8
 | byt i =>
  let ⟨t,rfl⟩:=rx;cases y with
  | byt j=>let ⟨t',rfl⟩:=ry; exact PySem.W.eq_bytes (Zb I q Qw2)
  | _=>exact absurd (show false=true from hs) R8
 | _=>cases y <;> exact absurd (show false=true from hs) R8
theorem Ue:OpR X (compareOp .NotEq) rNe:=by
 intro dz s σ H x y v u Q I rx ry h;let ⟨hs,q⟩:=h;cases x with
 | non =>
  cases rx;cases y with
  | non=>cases ry; exact PySem.EqNone.ne_none_none (Zb I q (by simp))
  | bl j=>cases ry; exact PySem.EqNone.ne_none_bool (Zb I q (by simp))
  | int j=>let ⟨t',rfl⟩:=ry; exact PySem.EqNone.ne_none_int (Zb I q (by simp))
  | str j=>let ⟨t',rfl⟩:=ry; exact PySem.EqNone.ne_none_str (Zb I q (by simp))
  | _=>exact absurd (show false=true from hs) R8
 | bl i =>
  cases rx;cases y with
  | non=>cases ry; exact PySem.EqNone.ne_bool_none (Zb I q (by simp))
  | bl j=>cases ry; exact ne_bool (Zb I q (W6 not Qdx))
  | str j=>let ⟨t',rfl⟩:=ry; exact PySem.EqMixed.ne_bool_str (Zb I q (by simp))
  | _=>exact absurd (show false=true from hs) R8
 | int i =>
  let ⟨t,rfl⟩:=rx;cases y with
  | non=>cases ry; exact PySem.EqNone.ne_int_none (Zb I q (by simp))
  | int j=>let ⟨t',rfl⟩:=ry; exact ne_int (Zb I q (W6 not Qw1))
  | str j=>let ⟨t',rfl⟩:=ry; exact PySem.EqMixed.ne_int_str (Zb I q (by simp))
  | _=>exact absurd (show false=true from hs) R8
 | str i =>
  let ⟨t,rfl⟩:=rx;cases y with
  | non=>cases ry; exact PySem.EqNone.ne_str_none (Zb I q (by simp))
  | bl j=>cases ry; exact PySem.EqMixed.ne_str_bool (Zb I q (by simp))
  | int j=>let ⟨t',rfl⟩:=ry; exact PySem.EqMixed.ne_str_int (Zb I q (by simp))
  | str j=>let ⟨t',rfl⟩:=ry; exact ne_str (Zb I q (W6 not Qw0))
  | _=>exact absurd (show false=true from hs) R8
 | byt i =>
  let ⟨t,rfl⟩:=rx;cases y with
  | byt j=>let ⟨t',rfl⟩:=ry; exact PySem.W.ne_bytes (Zb I q (W6 not Qw2))
  | _=>exact absurd (show false=true from hs) R8
 | _=>cases y <;> exact absurd (show false=true from hs) R8
def Ra:OpR X (compareOp .Lt) (rI0 λi j=>.bl (decide (i < j))):=Qow λ_ _ _ _ _ _ _ q=>lt_int q
def Bg:OpR X (compareOp .LtE) (rI0 λi j=>.bl (decide (i<=j))):=Qow λ_ _ _ _ _ _ _ q=>le_int q
def Ft:OpR X (compareOp .Gt) (rI0 λi j=>.bl (decide (j < i))):=Qow λ_ _ _ _ _ _ _ q=>gt_int q
theorem Pr:OpR X (compareOp .Is) (λx y H Q=>y=.non/\Q (.bl (decide (x=.non))) H):=by
 intro dz s σ H x y v u Q I rx ry h;let ⟨rfl,q⟩:=h;cases ry;refine is_none_gen (Zb I q ?_);cases x <;> first
  | (cases rx; rfl)
  | (let ⟨t,rfl⟩:=rx; rfl)
theorem Nl:OpR X (compareOp .IsNot) (λx y H Q=>y=.non/\Q (.bl (!decide (x=.non))) H):=by
 intro dz s σ H x y v u Q I rx ry h;let ⟨rfl,q⟩:=h;cases ry;refine isnot_none_gen (Zb I q ?_);cases x <;> first
  | (cases rx; rfl)
  | (let ⟨t,rfl⟩:=rx; rfl)
def Rx (b:Expr) (h:op≠.In:=by decide) (h2:op≠.NotIn:=by decide):behindInMarks op b=false:=by
 have e1:(op == CmpOp.In)=false:=by cases op <;> first | rfl | exact absurd rfl h
 have e2:(op == CmpOp.NotIn)=false:=by cases op <;> first | rfl | exact absurd rfl h2
 cases b <;> simp [behindInMarks,e1,e2]
def Uc (ho:OpR X (compareOp op) r) (ha:PE X a ta) (hb:PE X b tb) (hm:behindInMarks op b=false):PE X (.Compare a [op] [b] pos) (tOp r ta tb):=by intro dz s σ H Q I h;exact wpAny_Compare1 (Zq1 ha hb I h λv u s2 x y H2 I2 rx ry q=>ho dz s2 σ H2 x y v u Q I2 rx ry q) hm
inductive Zjk (Q:Bool->Hp->Prop) (x:V) (H:Hp):Prop
 | mk (k:Bool) (e:x=.bl k) (q:Q k H)
def Qcz (t:TE):TT:=λσ H Q=>t σ H (Zjk Q)
def Ud (ho:OpR X (compareOp op) r) (ha:PE X a ta) (hb:PE X b tb) (hm:behindInMarks op b=false):PT X (.Compare a [op] [b] pos) (Qcz (tOp r ta tb)):=by
 intro dz s σ H Q I h;refine wpAny_isTrue_Compare1 (thn (ha dz s σ H _ I h) λv s1 ⟨x,H1,I1,r1,q1⟩=>thn (hb dz s1 σ H1 _ I1 q1) λu s2 ⟨y,H2,I2,r2,q2⟩ =>thn (ho dz s2 σ H2 x y v u _ I2 r1 r2 q2) λc s3 ⟨z,H3,I3,r3,k,e,q3⟩=>?_) hm
 subst e;cases r3;exact W2 ⟨H3,I3,q3⟩
def Qd3 (r r':R2) (ta tb tc:TE):TE:=λσ H Q=>ta σ H λx H1=>tb σ H1 λy H2=>r x y H2 λz H3 => ∃ k,z=.bl k /\
 (if k=true then tc σ H3 λw' H4=>r' y w' H4 Q else Q (.bl false) H3)
theorem Qh4 {op':CmpOp} {r':R2} (ho:OpR X (compareOp op) r) (ho':OpR X (compareOp op') r') (ha:PE X a ta) (hb:PE X b tb) (hc:PE X c tc)
  (hm:lastMarks [op,op'] [b,c]=false:=by with_unfolding_all rfl):PE X (.Compare a [op,op'] [b,c] pos) (Qd3 r r' ta tb tc):=by
 intro dz s σ H Q I h;refine Compare_chain (thn (ha dz s σ H _ I h) λv s1 ⟨x,H1,I1,r1,q1⟩=>chain_link (thn (hb dz s1 σ H1 _ I1 q1) λu s2 ⟨y,H2,I2,r2,q2⟩ =>thn (ho dz s2 σ H2 x y v u _ I2 r1 r2 q2) λd s3 ⟨z,H3,I3,r3,k,e,q3⟩=>?_)) hm
 subst e;cases r3;refine W2 ?_;cases k with
 | false=>exact ite_ff ⟨.bl false,H3,I3,rfl,q3⟩
 | true=>exact ite_tt (chain_last (thn (hc dz s3 σ H3 _ I3 q3) λw' s4 ⟨z',H4,I4,r4,q4⟩=>ho' dz s4 σ H4 y z' u w' Q I4 r2 r4 q4))
theorem Tw {op':CmpOp} {r':R2} (ho:OpR X (compareOp op) r) (ho':OpR X (compareOp op') r') (ha:PE X a ta) (hb:PE X b tb) (hc:PE X c tc)
  (hm:lastMarks [op,op'] [b,c]=false:=by with_unfolding_all rfl):PT X (.Compare a [op,op'] [b,c] pos) (Qcz (Qd3 r r' ta tb tc)):=by
 intro dz s σ H Q I h;refine isTrue_chain (thn (ha dz s σ H _ I h) λv s1 ⟨x,H1,I1,r1,q1⟩=>test_link (thn (hb dz s1 σ H1 _ I1 q1) λu s2 ⟨y,H2,I2,r2,q2⟩ =>thn (ho dz s2 σ H2 x y v u _ I2 r1 r2 q2) λd s3 ⟨z,H3,I3,r3,k,e,q3⟩=>?_)) hm
 subst e;cases r3;refine W2 ?_;cases k with
 | false =>let ⟨k',e',q'⟩:=q3;cases e';exact ite_ff ⟨H3,I3,q'⟩
 | true =>refine ite_tt (test_last (thn (hc dz s3 σ H3 _ I3 q3) λw' s4 ⟨z',H4,I4,r4,q4⟩=>thn (ho' dz s4 σ H4 y z' u w' _ I4 r2 r4 q4) λd' s5 ⟨z2,H5,I5,r5,k2,e2,q5⟩=>?_));subst e2;cases r5;exact W2 ⟨H5,I5,q5⟩
def Bh:(sizeLine:Nat) < 2 ^ 63:=by rw [sizeLine_eq]; decide
theorem Ts {x:V} (r:Xq [x] us):∃ u,us=[u]/\Yi x u:=by
 cases r with
 | cons r1 r2=>cases r2; exact ⟨_,rfl,r1⟩
theorem Qcq {x y:V} (r:Xq [x,y] us):∃ u w',us=[u,w']/\Yi x u/\Yi y w':=by
 cases r with
 | cons r1 r2 =>
  cases r2 with
  | cons r3 r4=>cases r4; exact ⟨_,_,rfl,r1,r3⟩
def Im:Up X (.builtin "abs") (λxs H Q => ∃ i,xs=[.int i]/\Q (.int (if i < 0 then -i else i)) H):=by intro dz s σ H xs us Q I r h;let ⟨i,rfl,q⟩:=h;let ⟨u,rfl,t,rfl⟩:=Ts r;exact call_abs_int λu tk=>⟨.int (if i < 0 then -i else i),H,I.tok _,⟨_,rfl⟩,q⟩
def Qg7 (hc:X.calm=true):Up X (.builtin "max") (λxs H Q => ∃ i j,xs=[.int i,.int j]/\Q (.int (if j > i then j else i)) H):=by
 intro dz s σ H xs us Q I r h;let ⟨i,j,rfl,q⟩:=h;let ⟨u,w',rfl,⟨t,rfl⟩,⟨t',rfl⟩⟩:=Qcq r;refine max_two_ints (I.ok.hd hc) λh' tk k=>⟨_,H,I.kept k,?_,q⟩
 by_cases hj:j > i
 ·rw [if_pos hj,if_pos hj]; exact ⟨_,rfl⟩
 ·rw [if_neg hj,if_neg hj]; exact ⟨_,rfl⟩
def Lc (hc:X.calm=true):Up X (.builtin "min") (λxs H Q => ∃ i j,xs=[.int i,.int j]/\Q (.int (if j < i then j else i)) H):=by
 intro dz s σ H xs us Q I r h;let ⟨i,j,rfl,q⟩:=h;let ⟨u,w',rfl,⟨t,rfl⟩,⟨t',rfl⟩⟩:=Qcq r;refine min_two_ints (I.ok.hd hc) λh' tk k=>⟨_,H,I.kept k,?_,q⟩
 by_cases hj:j < i
 ·rw [if_pos hj,if_pos hj]; exact ⟨_,rfl⟩
 ·rw [if_neg hj,if_neg hj]; exact ⟨_,rfl⟩
def Qg9:Up X (.type "int") (λxs H Q=>(∃ i,xs=[.int i]/\Q (.int i) H)\/∃ k,xs=[.bl k]/\Q (.int (if k then 1 else 0)) H):=by
 intro dz s σ H xs us Q I r h;rcases h with ⟨i,rfl,q⟩ | ⟨k,rfl,q⟩
 ·let ⟨u,rfl,t,rfl⟩:=Ts r;exact call_int_int ⟨.int i,H,I,⟨_,rfl⟩,q⟩
 ·let ⟨u,rfl,r1⟩:=Ts r;cases r1;exact call_int_bool ⟨.int (if k then 1 else 0),H,I.tok _,⟨_,rfl⟩,q⟩
end
structure Qc5 (h:Heap) (x dx C:G5) (mA:J9):Prop where
 obj:h.get? x=some (PySem.W.instObj C dx)
 ns:h.Ns1 dx mA
 ne:dx≠x
def Qu0 {dx:G5} {mA:J9} (n:h.Ns1 dx mA):∃ od,h.get? dx=some od/\∀ name,PySem.W.lookIn name od=some (mA name):=by
 let ⟨o,es,ep,ho,hd,hk,_,hm⟩:=n;refine ⟨o,ho,λname=>?_⟩;have e:=hm name;unfold nsFind findBy at e;rw [<- Array.find?_toList] at e;unfold PySem.W.lookIn;rw [hd];dsimp only
 split
 ·rename_i y q
  rw [q] at e;exact W6 some e
 ·rename_i q
  rw [q] at e;have a:es.toList.any (·.refKey)=false:=by rw [any_eq_false];intro y hy;let ⟨z,t,jo⟩:=hk y (Array.mem_toList_iff.mp hy);simp [DictEntry.refKey,jo]
  have a':¬ es.toList.any (·.refKey)=true:=by rw [a]; exact R8
  rw [if_neg a'];exact W6 some e
def Qc5.look {x dx:G5} {mA:J9} (I:Qc5 h x dx C mA):∃ od,PySem.W.InstAt h x (PySem.W.instObj C dx) C (some od)/\∀ name,PySem.W.lookIn name od=some (mA name) :=
 let ⟨od,ho,hl⟩:=Qu0 I.ns
 ⟨od,⟨I.obj,rfl,rfl,ho⟩,hl⟩
section
variable {prog:G8} {x dx f:G5} {mA:J9} {name:Str} {v:G3}
def Qn2 {expr:Bool} {Q:K1} (X:K.In s.heap) (I:Qc5 s.heap x dx C mA) (hg:PySem.W.plainGet K C name=true) (hh:PySem.W.hasDictIn K C=true)
  (ha:PySem.W.findIn K (.ref C) name=some none) (hv:mA name=some v) (hv':PySem.W.handedIn v=true) (h:Q v { s with toks:=s.toks + 1 }) :
  wpAny (model prog w) A (getAttr (.ref x) name expr) Q E s:=by
 let ⟨od,J,hl⟩:=I.look;exact PySem.W.get_value X J (PySem.W.plainGet_of hg).1 (PySem.W.findObj_own hh ha rfl (by rw [hl,hv])) hv' h
def Qhk {Q:G3 × List G3->G4->Prop} (X:K.In s.heap) (I:Qc5 s.heap x dx C mA) (hg:PySem.W.plainGet K C name=true)
  (hf:PySem.W.findIn K (.ref C) name=some (some (.ref f))) (ht:PySem.W.isFn K (.ref f)=true) (hv:mA name=none) (h:Q (.ref f,[.ref x]) s) :
  wpAny (model prog w) A (getMethod (.ref x) name pl) Q E s:=by
 let ⟨od,J,hl⟩:=I.look;exact PySem.W.method_fn X J (PySem.W.plainGet_of hg).1 (PySem.W.plainGet_of hg).2 hf (beq_iff_eq.mp ht) (by show (PySem.W.lookIn name od).map (·.isSome)=some false; rw [hl,hv]; rfl) h
theorem Qlz {ns:K9} (X:K.In s.heap) (I:Qc5 s.heap x dx C mA)
  (hs:PySem.W.findIn K (.ref C) "__setattr__" = some (some (.builtin "object.__setattr__"))) (hp:PySem.W.plainOver K C=true) (ht:PySem.W.takerIn K C name=some none) (hh:PySem.W.hasDictIn K C=true)
  (hw:PySem.Within mA ns) (hsz:ns.length<=sizeLine)
  (h:∀ h',Qc5 h' x dx C (λy=>if y=name then some v else mA y)->Heap.SameBut dx s.heap h'->Q () { s with heap:=h',toks:=s.toks + 2 }) :
  wpAny (model prog w) A (setAttr (.ref x) name v) Q E s:=by
 let ⟨od,J,hl⟩:=I.look;refine PySem.W.set_plain X J hs (PySem.W.osa_open (s:={ s with toks:=s.toks + 1 }) (r:=none) X J hp ht λb=>?_);let ⟨cd,hc,hd'⟩:=PySem.W.any_some hh;have hx:s.heap.get? x=some ⟨.ref C,some dx,.plain,#[]⟩:=I.obj;refine M6 (M8 (M6 (M6 (wpAny_loadPart hx (M6 (PySem.W.Looks.here (s:={ s with toks:=s.toks + 1 }) (PySem.W.looks_clsIn X hc) ?_))))));rw [hd'];refine M8 (a:=some dx) (M6 (M8 (M6 ?_)));refine wpAny_nsSet1 (s:={ s with toks:=s.toks + 1 }) I.ns λh' hn2 hs2=>?_;let ⟨oD,esD,epD,hoD,hdD,hcD⟩:=hn2.count (PySem.Within.cons name v hw);refine M6 (wpAny_lookBehind hoD (by rw [hdD]; exact pastItsLine_dict (O6 hcD (by rw [length_cons]; lia))) ?_);exact M8 (h _ ⟨(hs2.2 _ (Ne.symm I.ne)).trans I.obj,hn2,I.ne⟩ hs2)
def Qh8 {R:Result->G4->Prop} {vs:K5} (X:K.In s.heap) (hm:PySem.W.makesIn K C=true)
  (hi:PySem.W.findIn K (.ref C) "__init__" = some (some (.ref f))) (hf:PySem.W.typeIn K (.ref f)=some (.type "function"))
  (h:codeAny (model prog w) (A.under (.builtin "type.__call__" ⟨.ref C :: vs,kw⟩)) (.call (.ref f) ⟨.ref (s.heap.objs.size + 1) :: vs,kw⟩) (PySem.W.InitBack (s.heap.objs.size + 1) R)
   { s with heap:=(s.heap.push PySem.W.emptyDict).push (PySem.W.instObj C s.heap.objs.size) }) :
  codeAny (model prog w) A (.call (.ref C) ⟨vs,kw⟩) R s:=by
 let ⟨hh,g,d,t,os⟩:=s;exact PySem.W.make_core (PySem.W.makes_of X hm) (PySem.W.looks_findIn X hi) (λself=>PySem.W.bind_fn X self hf) (.inl rfl) h
end
def Wq (f:Str) (v:V):List (Str × V)->List (Str × V)
 | [] => [(f,v)]
 | (g,x) :: r=>if g=f then (g,v) :: r else (g,x) :: Wq f v r
theorem Qs (f g:Str) (v:V):∀ fs:List (Str × V),(Wq f v fs).lookup g=if g=f then some v else fs.lookup g
 | []=>by
  show List.lookup g [(f,v)]=_
  by_cases h:g=f
  ·have hb:(g == f)=true:=beq_iff_eq.mpr h;simp only [List.lookup,hb,if_pos h]
  ·have hb:(g == f)=false:=A0j.mpr h;simp only [List.lookup,hb,if_neg h]
 | (k,x) :: r=>by
  have ih:=Qs f g v r;rw [show Wq f v ((k,x) :: r)=(if k=f then (k,v) :: r else (k,x) :: Wq f v r) from rfl]
  by_cases hk:k=f
  ·rw [if_pos hk]
   by_cases h:g=k
   ·have hb:(g == k)=true:=beq_iff_eq.mpr h;simp only [List.lookup,hb,if_pos (h.trans hk)]
   ·have hb:(g == k)=false:=A0j.mpr h;simp only [List.lookup,hb,if_neg (λe:g=f=>h (e.trans hk.symm))]
  ·rw [if_neg hk]
   by_cases h:g=k
   ·have hb:(g == k)=true:=beq_iff_eq.mpr h;simp only [List.lookup,hb,if_neg (λe:g=f=>hk (h.symm.trans e))]
   ·have hb:(g == k)=false:=A0j.mpr h;simp only [List.lookup,hb];exact ih
theorem Gc (f:Str) (v:V):∀ fs:List (Str × V),f∈(Wq f v fs).map (·.1)/\∀ g,g∈fs.map (·.1)->g∈(Wq f v fs).map (·.1)
 | []=>⟨by simp [Wq],λg h=>by simp at h⟩
 | (k,x) :: r=>by
  let ⟨i1,i2⟩:=Gc f v r;rw [show Wq f v ((k,x) :: r)=(if k=f then (k,v) :: r else (k,x) :: Wq f v r) from rfl]
  by_cases hk:k=f
  ·rw [if_pos hk];subst hk;exact ⟨by simp,λg h=>by simpa using h⟩
  ·rw [if_neg hk];refine ⟨?_,λg h=>?_⟩
   ·rw [map_cons];exact Q0 _ i1
   ·rw [map_cons] at h ⊢;rcases Q8.mp h with e | e
    ·exact Q8.mpr (.inl e)
    ·exact Q0 _ (i2 g e)
theorem Rm (f:Str) (v:V):∀ fs:List (Str × V),(Wq f v fs).length<=fs.length + 1
 | []=>by simp [Wq]
 | (k,x) :: r=>by
  have ih:=Rm f v r;rw [show Wq f v ((k,x) :: r)=(if k=f then (k,v) :: r else (k,x) :: Wq f v r) from rfl]
  by_cases hk:k=f
  ·rw [if_pos hk,length_cons,length_cons]; lia
  ·rw [if_neg hk,length_cons,length_cons]; lia
theorem Qbz.some_of {o:K7} (r:Qbz (some v) o):∃ u,o=some u/\Yi v u:=by
 cases o with
 | none=>exact (show False from r).elim
 | some u=>exact ⟨u,rfl,r⟩
theorem Qbz.none_of {o:K7} (r:Qbz none o):o=none:=by
 cases o with
 | none=>rfl
 | some u=>exact (show False from r).elim
theorem Quq (r:Yi v u):PySem.W.handedIn u=true:=by
 cases v with
 | non=>cases (show u=Value.none from r); rfl
 | bl b=>cases (show u=Value.bool b from r); rfl
 | int i=>let ⟨t,e⟩:=(show ∃ t,u=Value.int i t from r); cases e; rfl
 | str x=>let ⟨t,e⟩:=(show ∃ t,u=Value.str x t from r); cases e; rfl
 | byt b=>let ⟨t,e⟩:=(show ∃ t,u=Value.bytes b t from r); cases e; rfl
 | flt b=>let ⟨t,e⟩:=(show ∃ t,u=Value.float b t from r); cases e; rfl
 | ref a=>cases (show u=Value.ref a from r); rfl
 | ty n=>cases (show u=Value.type n from r); rfl
section
variable {H':Hp} {h':Heap} {dx:G5} {fs fs':List (Str × V)}
def Ni (hok:HOk P w H h) (e:H a=some (.ins C dx fs)):∃ mA,Qc5 h a dx C mA/\(∀ f,Qbz (fs.lookup f) (mA f))/\PySem.Within mA (fs.map (·.1))/\fs.length<=1000/\H dx=some (.own a):=by
 let ⟨d,z,ne,ob,mA,n,r,q⟩:=(show Ub P w H h a (.ins C dx fs) from hok a _ e)
 exact ⟨mA,⟨ob,n,ne⟩,r,q,z,d⟩
end
structure Cls (K:M7) (C:G5):Prop where
 pg:PySem.W.plainGet K C Str.empty=true
 hd:PySem.W.hasDictIn K C=true
 po:PySem.W.plainOver K C=true
 sa:PySem.W.findIn K (.ref C) "__setattr__" = some (some (.builtin "object.__setattr__"))
def Cls.get (c:Cls K C) (f:Str):PySem.W.plainGet K C f=true:=c.pg
def Jr (K:M7) (C:G5) (f:Str):Prop:=PySem.W.findIn K (.ref C) f=some none
def Jr.taker {f:Str} (n:Jr K C f):PySem.W.takerIn K C f=some none:=by unfold PySem.W.takerIn;rw [show PySem.W.findIn K (.ref C) f=some none from n];rfl
structure Qsj (K:M7) (C:G5) (m:Str) (f:G5):Prop where
 at_:PySem.W.findIn K (.ref C) m=some (some (.ref f))
 fn:PySem.W.isFn K (.ref f)=true
 kp:PySem.W.keepIn K (.ref f)=true
section
variable {dx:G5} {fs:List (Str × V)} {f:Str}
def Qz1 {b:Bool} {Q:K1} (I:Inv X dz σ H s) (e:H a=some (.ins C dx fs)) (c:Cls X.K C) (n:Jr X.K C f) (l:fs.lookup f=some v)
  (h:∀ u s',Inv X dz σ H s'->Yi v u->Q u s'):wpAny (model X.prog X.w) A (getAttr (.ref a) f b) Q E s:=by
 let ⟨mA,O,r,_,_,_⟩:=Ni I.hok e;let ⟨u,hu,ru⟩:=Qbz.some_of (v:=v) (o:=mA f) (by rw [<- l]; exact r f);exact Qn2 I.kIn O (c.get f) c.hd n hu (Quq ru) (h u _ (I.tok _) ru)
def Nq {m:Str} {g:G5} {Q:G3 × List G3->G4->Prop} (I:Inv X dz σ H s) (e:H a=some (.ins C dx fs)) (c:Cls X.K C) (k:Qsj X.K C m g) (l:fs.lookup m=none)
  (h:Q (.ref g,[.ref a]) s):wpAny (model X.prog X.w) A (getMethod (.ref a) m pl) Q E s:=by
 let ⟨mA,O,r,_,_,_⟩:=Ni I.hok e;have hn:mA m=none:=Qbz.none_of (by rw [<- l]; exact r m);exact Qhk I.kIn O (c.get m) k.at_ k.fn hn h
theorem Qq2 {y:V} (I:Inv X dz σ H s) (e:H a=some (.ins C dx fs)) (c:Cls X.K C) (n:Jr X.K C f) (hl:fs.length < 1000) (ry:Yi y u)
  (h:∀ s',Inv X dz σ (upd H a (.ins C dx (Wq f y fs))) s'->Q () s'):wpAny (model X.prog X.w) A (setAttr (.ref a) f u) Q E s:=by
 let ⟨mA,O,r,wi,_,ho⟩:=Ni I.hok e;have hz:(fs.map (·.1)).length<=sizeLine:=by rw [length_map,sizeLine_eq]; lia
 refine Qlz I.kIn O c.sa c.po n.taker c.hd wi hz λh' O' sb=>h _ ?_;have hd:∃ o,h'.get? dx=some o:=let ⟨o,_,_,e',_⟩:=O'.ns; ⟨o,e'⟩
 refine I.write (x:=a) (e:=dx) (by rw [e]; exact True.intro) (.inr ho) (λb q hb z=>(sb.2 b hb).trans z) hd ?_;refine ⟨by rw [Qv O.ne]; exact ho,?_,O.ne,O'.obj,_,O'.ns,λg=>?_,λg hg=>?_⟩
 ·have:=Rm f y fs; lia
 ·show Qbz ((Wq f y fs).lookup g) (if g=f then some u else mA g);rw [Qs]
  by_cases q:g=f
  ·rw [if_pos q,if_pos q]; exact ry
  ·rw [if_neg q,if_neg q]; exact r g
 ·by_cases q:g=f
  ·rw [q]; exact (Gc f y fs).1
  ·refine (Gc f y fs).2 g (wi g λz=>hg ?_);show (if g=f then some u else mA g)=none;rw [if_neg q]; exact z
def Inv.made (I:Inv X dz σ H s):Inv X dz σ (upd (upd H s.heap.objs.size (.own (s.heap.objs.size + 1))) (s.heap.objs.size + 1) (.ins C s.heap.objs.size []))
  { s with heap:=(s.heap.push PySem.W.emptyDict).push (PySem.W.instObj C s.heap.objs.size) }:=by
 have e1:(s.heap.push PySem.W.emptyDict).get? s.heap.objs.size=some PySem.W.emptyDict:=Q5 s.heap rfl;have e2:((s.heap.push PySem.W.emptyDict).push (PySem.W.instObj C s.heap.objs.size)).get? (s.heap.objs.size + 1)=some (PySem.W.instObj C s.heap.objs.size):=by
  have:=Q5 (s.heap.push PySem.W.emptyDict) (o:=PySem.W.instObj C s.heap.objs.size) rfl
  rwa [Heap.size_push] at this
 have e3:(s.heap.push PySem.W.emptyDict).Ns s.heap.objs.size (λ_=>none):=⟨PySem.W.emptyDict,#[],_,e1,rfl,(λe he=>absurd he (by simp)),λ_=>rfl⟩
 have I1:=I.laid (a:=s.heap.objs.size) (o:=.own (s.heap.objs.size + 1)) (h':=s.heap.push PySem.W.emptyDict) (t':=s.toks) (λb u q=>N7 _ q) (O1 _) ⟨_,e1⟩;refine I1.laid (a:=s.heap.objs.size + 1) (o:=.ins C s.heap.objs.size []) (t':=s.toks) (λb u q=>N7 _ q) (A0k (Heap.size_push _ _)) ?_;have ne:s.heap.objs.size≠s.heap.objs.size + 1:=O7 (V0 _);refine ⟨by rw [Qv ne,Qk],R7 _,ne,e2,λ_=>none,(Heap.Ns1.of_empty e3).at λo q=>N7 _ q,λ_=>True.intro,λy hy=>absurd rfl hy⟩
def Qnz {prog:G8} {env:Env} {Q:K1} (hb:attributeBase e f env (eval e env)=eval e env)
  (h:wpAny (model prog w) A (eval e env) (λo s₁=>wpAny (model prog w) A (getAttr o f true) Q E s₁) E s):wpAny (model prog w) A (eval (.Attribute e f pos) env) Q E s :=
 Attribute_any_ h (by rw [arm_eval_Attribute,hb])
end
def Qoj (K:M7) (ta:TE) (f:Str):TE:=λσ H Q=>ta σ H λx H1 => ∃ a C dx fs v,x=.ref a/\H1 a=some (.ins C dx fs)/\Cls K C/\Jr K C f/\fs.lookup f=some v/\Q v H1
def Zx1 (K:M7) (ta tv:TE) (f:Str):TS:=λD σ H=>tv σ H λy H1=>ta σ H1 λx H2 => ∃ a C dx fs,x=.ref a/\H2 a=some (.ins C dx fs)/\Cls K C/\Jr K C f/\fs.length < 1000 /\
 D.nx σ (upd H2 a (.ins C dx (Wq f y fs)))
section
variable {o value:Expr} {f:Str} {j5 tpos:Pos} {ta tv:TE}
def Qe3 (he:PE X e ta) (hb:attributeBase e f X.env (eval e X.env)=eval e X.env):PE X (.Attribute e f pos) (Qoj X.K ta f):=by intro dz s σ H Q I h;refine Qnz hb (thn (he dz s σ H _ I h) λu s1 ⟨x,H1,I1,rx,a,C,dx,fs,v,ex,ea,c,n,l,q⟩=>?_);subst ex;obtain rfl:u=Value.ref a:=rx;exact Qz1 I1 ea c n l λu' s2 I2 ru=>⟨v,H1,I2,ru,q⟩
def Qaj (ha:PE X o ta) (hv:PE X value tv) (hs:swapsWith value (some (.Attribute o f j5)) pos.line X.env=pure false):PS X (.Assign [.Attribute o f j5] value pos) (Zx1 X.K ta tv f):=by intro dz s σ H D I h;refine plainObj_wpAny_Assign_Attribute (thn (hv dz s σ H _ I h) λu s1 ⟨y,H1,I1,ry,q⟩=>thn (ha dz s1 σ H1 _ I1 q) λov s2 ⟨x,H2,I2,rx,a,C,dx,fs,ex,ea,c,n,l,q2⟩=>?_) hs;subst ex;obtain rfl:ov=Value.ref a:=rx;exact Qq2 I2 ea c n l ry λs3 I3=>⟨σ,_,I3,q2⟩
end
section
variable {Q:K1} {c:G3} {b:Bool}
inductive Oz (K:M7) (H:Hp):V->G3->Prop where
 | non:Oz K H .non (.type "NoneType")
 | bl (x:Bool):Oz K H (.bl x) (.type "bool")
 | int (i:Int):Oz K H (.int i) (.type "int")
 | str (x:Str):Oz K H (.str x) (.type "str")
 | flt (x:UInt64):Oz K H (.flt x) (.type "float")
 | lst {a:G5} {xs:List V} (e:H a=some (.lst xs)):Oz K H (.ref a) (.type "list")
 | frz {a:G5} {o:Obj} {xs:List V} (e:H a=some (.frz o (.lst xs))):Oz K H (.ref a) (.type "list")
 | tup {a:G5} {xs:List V} (e:H a=some (.tup xs)):Oz K H (.ref a) (.type "tuple")
 | dK {a:G5} {kvs:List (Key × V)} (e:H a=some (.dK kvs)):Oz K H (.ref a) (.type "dict")
 | dT {a:G5} {kvs:List (List Key × V)} (e:H a=some (.dT kvs)):Oz K H (.ref a) (.type "dict")
 | ins {a C dx:G5} {fs:List (Str × V)} (e:H a=some (.ins C dx fs)) (cl:Cls K C) (ha:PySem.W.findIn K (.ref C) "__class__" = some (some (.builtin "object.__class__")))
   (hn:PySem.W.specialIn K (.builtin "object.__class__") "__get__" = some (some (.builtin "getset_descriptor.__get__"))) (htk:PySem.W.takesIn K (.builtin "object.__class__")=some true)
   (hm:PySem.W.mroIn K C (.type "object")=some true):Oz K H (.ref a) (.ref C)
theorem Qu7 {x:V} {t:G3} (I:Inv X dz σ H s) (rx:Yi x u) (ty:Oz X.K H x t) (e:PySem.W.kitOne X.K t c=some b) (h:∀ tk,Q (.bool b) { s with toks:=tk }) :
  wpAny (model X.prog X.w) A (call (.builtin "isinstance") [u,c]) Q E s:=by
 cases ty with
 | non=>cases (show u=Value.none from rx); exact V4 PySem.W.kitx_none I.kIn True.intro e (λz=>nomatch z) h
 | bl y=>cases (show u=Value.bool y from rx); exact V4 PySem.W.kitx_bool I.kIn True.intro e (λz=>nomatch z) h
 | int i=>let ⟨t,q⟩:=(show ∃ t,u=Value.int i t from rx); cases q; exact V4 PySem.W.kitx_int I.kIn True.intro e (λz=>nomatch z) h
 | str y=>let ⟨t,q⟩:=(show ∃ t,u=Value.str y t from rx); cases q; exact V4 PySem.W.kitx_str I.kIn True.intro e (λz=>nomatch z) h
 | flt y=>let ⟨t,q⟩:=(show ∃ t,u=Value.float y t from rx); cases q; exact V4 PySem.W.kitx_float I.kIn True.intro e (λz=>nomatch z) h
 | @lst a xs ea =>
  cases (show u=Value.ref a from rx);let ⟨_,_,n,_,h1⟩:=(show Ub X.prog X.w H s.heap a (.lst xs) from I.hok a _ ea)
  exact V4 PySem.W.kitx_list I.kIn ⟨_,h1,rfl⟩ e (λz=>nomatch z) h
 | @frz a ob xs ea =>
  cases (show u=Value.ref a from rx);let ⟨_,_,_,n,_,h1⟩:=(show Ub X.prog X.w H s.heap a (.frz ob (.lst xs)) from I.hok a _ ea)
  exact V4 PySem.W.kitx_list I.kIn ⟨_,h1,rfl⟩ e (λz=>nomatch z) h
 | @tup a xs ea =>
  cases (show u=Value.ref a from rx);let ⟨_,_,_,p⟩:=(show Ub X.prog X.w H s.heap a (.tup xs) from I.hok a _ ea)
  let ⟨o,h1,h2,_⟩:=p;exact V4 PySem.W.kitx_tuple I.kIn ⟨o,h1,h2⟩ e (λz=>nomatch z) h
 | @dK a kvs ea =>
  cases (show u=Value.ref a from rx);let ⟨_,_,vs,_,p⟩:=(show Ub X.prog X.w H s.heap a (.dK kvs) from I.hok a _ ea)
  let ⟨o,es,ep,h1,h2,_⟩:=p;exact V4 PySem.W.kitx_dict I.kIn ⟨o,h1,h2.1⟩ e (λz=>nomatch z) h
 | @dT a kvs ea =>
  cases (show u=Value.ref a from rx);let ⟨_,_,xs,_,o,es,ep,h1,h2,_⟩:=(show Ub X.prog X.w H s.heap a (.dT kvs) from I.hok a _ ea)
  exact V4 PySem.W.kitx_dict I.kIn ⟨o,h1,h2.1⟩ e (λz=>nomatch z) h
 | @ins a C dx fs ea cl ha hn htk hm =>cases (show u=Value.ref a from rx);let ⟨mA,O,_⟩:=Ni I.hok ea;let ⟨od,J,_⟩:=O.look;exact V4 (PySem.W.kitx_own (cl.get _) cl.hd ha hn htk hm) I.kIn J e (λz=>nomatch z) h
end
structure Uq (k:Nat) (A:G7):Prop where
 hd:A.handled=none
 dp:A.depth + 3 * k + 5 < recursionLimit
 un:A.units + 16 * k + 200 < cLine
theorem Uq.mono {j:Nat} (r:Uq k A) (h:j<=k):Uq j A:=⟨r.hd,by have:=r.dp; lia,by have:=r.un; lia⟩
theorem Uq.deeper (r:Uq (k + 1) A) (env:Env):Uq k (A.deeper env) :=⟨r.hd,by have:=r.dp; show A.depth + 1 + 3 * k + 5 < _; lia,by have:=r.un; show A.units + 3 + 16 * k + 200 < _; lia⟩
theorem Uq.in1 (r:Uq (k + 1) A):Uq k A.in1 :=⟨r.hd,by have:=r.dp; show A.depth + 3 * k + 5 < _; lia,by have:=r.un; show A.units + 1 + 16 * k + 200 < _; lia⟩
def Qqx:(A.under (.builtin "type.__call__" ⟨.ref C :: us,kw⟩)).depth=A.depth + 1:=by first | rfl | simp [Around.under,Code.weight,Code.isCreation,Code.isGuard,Code.isCaller,Code.frames,Code.isFrame,guardIds]
def Qqz:(A.under (.builtin "type.__call__" ⟨.ref C :: us,kw⟩)).units=A.units + 1:=by first | rfl | simp [Around.under,Code.cUnits,Code.frames,Code.isFrame]
theorem Uq.make (r:Uq (k + 1) A) (C:G5) (us:K5) (kw:List (Str × G3)):Uq k (A.under (.builtin "type.__call__" ⟨.ref C :: us,kw⟩)) :=⟨r.hd,by have:=r.dp; rw [Qqx]; lia,by have:=r.un; rw [Qqz]; lia⟩
theorem Uq.depth (r:Uq k A):A.depth < recursionLimit:=by have:=r.dp; lia
theorem Uq.units (r:Uq k A):A.units + 64 < cLine:=by have:=r.un; lia
def Qo8:TA:=λ_ H Q=>Q [] H
def Zqj (ta:TE) (tr:TA):TA:=λσ H Q=>ta σ H λx H1=>tr σ H1 λxs H2=>Q (x :: xs) H2
section
variable {es:M4} {te:TE} {t:TA}
def Qz:PA X [] Qo8:=λ_ _ _ _ H Q I h=>X6 ⟨[],H,I,.nil,h⟩
def Qq (ha:PE X e te) (hr:PA X es t) (hs:starEach (e :: es) X.env=(false,eval e X.env) :: starEach es X.env:=by rfl):PA X (e :: es) (Zqj te t):=by intro pos dz s σ H Q I h;rw [hs];show wpAny _ _ (spliced ((false,eval e X.env) :: backTo pos (starEach es X.env))) _ _ s;refine X7 (thn (ha dz s σ H _ I h) λu s1 ⟨x,H1,I1,r1,q1⟩=>?_);exact thn (hr pos dz s1 σ H1 _ I1 q1) λus s2 ⟨xs,H2,I2,r2,q2⟩=>⟨x :: xs,H2,I2,.cons r1 r2,q2⟩
end
abbrev Sp:=List V->Hp->VK->XK->Prop
abbrev CXT:=List Env->Hp->G4->XK->G3->G4->Prop
structure Qc7 (P:G8) (w:World) (K:M7) (mg:J9) (base:Heap) (A:G7) (outer:List Env) (s:G4) (H:Hp):Prop where
 frames:A.frames=some outer
 mod:Mod K mg base
 bs:∀ b o,base.get? b=some o->s.heap.get? b=some o/\H b=none
 bsz:base.objs.size<=s.heap.objs.size
 dw:s.heap.FunFrames base outer
 frf:∀ b∈frs outer,H b=none
 hok:HOk P w H s.heap
 bare:AllBare s.gens
def CE (outer:List Env) (P:G8) (w:World) (H:Hp) (s:G4) (Q:VK) (u:G3) (s':G4):Prop :=∃ v H',s'.os=s.os/\AllBare s'.gens/\Un (frs outer) [] H H' s.heap s'.heap/\HOk P w H' s'.heap/\Yi v u/\Q v H'
def CR (CX:CXT) (outer:List Env) (P:G8) (w:World) (H:Hp) (s:G4) (Q:VK) (E:XK) (r:Result) (s':G4):Prop :=
 match r with
 | .ok (.ret u)=>CE outer P w H s Q u s'
 | .ok _=>False
 | .error e=>CX outer H s E e s'
structure Cg (P:G8) (w:World) (K:M7) (mg:J9) (base:Heap) (CX:CXT) (k:Nat) (f:G5) (fd:FuncData) (ps:K9) (sp:Sp):Prop where
 len:∀ vs H Q E,sp vs H Q E->vs.length=ps.length
 run:∀ (A:G7) (outer:List Env) (s:G4) (H:Hp) (args:Args) (us:K5) (vs:List V) (Q:VK) (E:XK),Uq k A->Qc7 P w K mg base A outer s H->BindsTo s fd args (ps.zip us)->Xq vs us->sp vs H Q E ->
  codeAny (model P w) A (.call (.ref f) args) (CR CX outer P w H s Q E) s
def Qc7.make {mg:J9} {outer:List Env} (e:Qc7 P w K mg base A outer s H) (C:G5) (us:K5) (kw:List (Str × G3)) :
  Qc7 P w K mg base (A.under (.builtin "type.__call__" ⟨.ref C :: us,kw⟩)) outer s H:=⟨by first | exact e.frames | (simpa [Around.under,Code.envs,Code.isFrame,pushEnvs] using e.frames),e.mod,e.bs,e.bsz,e.dw,e.frf,e.hok,e.bare⟩
section
variable {s':G4}
def Inv.env0 (I:Inv X dz σ H s):Qc7 X.prog X.w X.K X.mg X.base X.A X.stack s H :=⟨I.ok.frames,I.ok.mod,I.bs,O6 I.ok.bsz I.sz,I.stack,I.stkFree,I.hok,I.bare⟩
def Inv.after {Q:VK} (I:Inv X dz σ H s) (h:CE X.stack X.prog X.w H s Q u s'):EP X dz σ Q u s':=by let ⟨v,H',os,bare,un,hok,r,q⟩:=h;let ⟨hh,g,d,t,os'⟩:=s';obtain rfl:os'=s.os:=os;exact ⟨v,H',I.call (h':=hh) (g':=g) (d':=d) (t':=t) (ch:=[]) un hok bare (λb z=>absurd z (by simp)),r,q⟩
end
def Qx8 (sp:Sp) (dvs:List V) (E:XK) (t:TA):TE:=λσ H Q=>t σ H λvs H1=>sp (vs ++ dvs) H1 Q E
def Bu (C:G5) (m:Str) (sp:Sp) (dvs:List V) (E:XK) (ta:TE) (t:TA):TE:=λσ H Q=>ta σ H λx H1 => ∃ a dx fs,x=.ref a/\H1 a=some (.ins C dx fs)/\fs.lookup m=none /\
 t σ H1 λvs H2=>sp (x :: (vs ++ dvs)) H2 Q E
def Qi0 (C:G5) (sp:Sp) (dvs:List V) (E:XK) (t:TA):TE:=λσ H Q=>t σ H λvs H1 => ∀ x dx,H1 x=none->H1 dx=none->dx≠x ->
 sp (.ref x :: (vs ++ dvs)) (upd (upd H1 dx (.own x)) x (.ins C dx [])) (λv H2=>v=.non/\Q (.ref x) H2) E
def Kk (K:M7) (fd:FuncData) (ps:K9) (ds:K5):Prop :=∀ (s:G4) (us:K5),K.In s.heap->(us ++ ds).length=ps.length->BindsTo s fd ⟨us,[]⟩ (ps.zip (us ++ ds))
def Kk.all {fd:FuncData} {ps:K9} (h:∀ us:K5,us.length=ps.length->bindArgs fd ⟨us,[]⟩=pure (ps.zip us)):Kk K fd ps []:=λs us _ hl=>by rw [append_nil] at hl ⊢;exact .of_eq (h us hl)
def Rv (CX:CXT) (X:Cx) (E:XK):Prop:=∀ (dz:G9) (σ:St) (H:Hp) (s:G4) (e:G3) (s':G4),Inv X dz σ H s->CX X.stack H s E e s'->X.xe e s'
section
variable {CX:CXT} {f:G5} {fd:FuncData} {ps:K9} {sp:Sp} {dvs:List V} {ds:K5} {E:XK} {m:Str} {p ig:Pos} {o:Expr} {es:M4} {ta:TE} {t:TA}
theorem Qj0 {Q:VK} (F:Cg X.prog X.w X.K X.mg X.base CX k f fd ps sp) (hr:Uq k X.A) (hb:Kk X.K fd ps ds) (hd:Xq dvs ds) (hx:Rv CX X E)
  (I:Inv X dz σ H s) (r:Xq vs us) (h:sp (vs ++ dvs) H Q E):wpAny (model X.prog X.w) X.A (call (.ref f) us) (EP X dz σ Q) X.xe s:=by
 have r2:Xq (vs ++ dvs) (us ++ ds):=r.append hd;have hl:(us ++ ds).length=ps.length:=by rw [<- r2.length]; exact F.len _ _ _ _ h
 refine wpAny_call (Z9 (F.run X.A X.stack s H ⟨us,[]⟩ (us ++ ds) (vs ++ dvs) Q E hr I.env0 (hb s us I.kIn hl) r2 h) λr s' hq=>?_);cases r with
 | error e=>exact hx dz σ H s e s' I hq
 | ok fl =>
  cases fl with
  | ret u=>exact I.after hq
  | next=>exact False.elim hq
  | brk=>exact False.elim hq
  | cont=>exact False.elim hq
def Ca (F:Cg X.prog X.w X.K X.mg X.base CX k f fd ps sp) (hr:Uq k X.A) (hg:Gl X x) (hm:X.mg x=some (.ref f)) (hk:PySem.W.keepIn X.K (.ref f)=true) (hb:Kk X.K fd ps ds) (hd:Xq dvs ds) (hx:Rv CX X E)
  (ha:PA X (e :: es) t) (hdb:(x == ("__debug__" : Str))=false:=by decide) (he:starEach (e :: es) X.env=(false,eval e X.env) :: starEach es X.env:=by rfl) (hpl:(backTo pos (starEach es X.env)).any (·.1)=false:=by rfl) :
  PE X (.Call (.Name x p) (e :: es) [] pos) (Qx8 sp dvs E t):=by
 intro dz s σ H Q I h;refine V1 (Nt I hg hm ?_ hdb);refine PySem.W.callWith_K (h₀:=X.base) I.ok.mod.kin hk (thn (ha pos dz s σ H _ I h) λus s1 ⟨vs,H1,I1,r,q⟩=>⟨I1.kIn,?_⟩) he hpl;exact Qj0 F hr hb hd hx I1 r q
def Qrz (he:PE X o ta) (c:Cls X.K C) (hm:Qsj X.K C m f) (F:Cg X.prog X.w X.K X.mg X.base CX k f fd ps sp) (hr:Uq k X.A) (hb:Kk X.K fd ps ds) (hd:Xq dvs ds) (hx:Rv CX X E) (ha:PA X (e :: es) t)
  (hst:starEach (e :: es) X.env=(false,eval e X.env) :: starEach es X.env:=by rfl) (hpl:(backTo pos (starEach es X.env)).any (·.1)=false:=by rfl)
  (ht:eval (.Call (.Attribute o m ig) (e :: es) [] pos) X.env=(do
   let ov <- eval o X.env
   standAt ig.atName
   let (f,first) <- holding [ov] (getMethod ov m pl)
   callWith pos f first (backTo pos (starEach (e :: es) X.env)) (backToKw pos (keywordEach [] X.env))):=by rfl) :
  PE X (.Call (.Attribute o m ig) (e :: es) [] pos) (Bu C m sp dvs E ta t):=by
 intro dz s σ H Q I h;refine PySem.W.methodCall_KW (pl:=pl) (thn (he dz s σ H _ I h) λu s1 ⟨x,H1,I1,rx,a,dx,fs,ex,ea,l,q⟩=>?_) ht;subst ex;obtain rfl:u=Value.ref a:=rx;refine Nq I1 ea c hm l ?_;refine PySem.W.callWith_K (first:=[.ref a]) (h₀:=X.base) I.ok.mod.kin hm.kp (thn (ha pos dz s1 σ H1 _ I1 q) λus s2 ⟨vs,H2,I2,r,q2⟩=>⟨I2.kIn,?_⟩) hst hpl;exact Qj0 (us:=.ref a :: us) (vs:=.ref a :: vs) F hr hb hd hx I2 (.cons rfl r) q2
def Qfk (he:PE X o ta) (c:Cls X.K C) (hm:Qsj X.K C m f) (F:Cg X.prog X.w X.K X.mg X.base CX k f fd ps sp) (hr:Uq k X.A) (hb:Kk X.K fd ps ds) (hd:Xq dvs ds) (hx:Rv CX X E)
  (ht:eval (.Call (.Attribute o m ig) [] [] pos) X.env=(do
   let ov <- eval o X.env
   standAt ig.atName
   let (f,first) <- holding [ov] (getMethod ov m pl)
   callWith pos f first (backTo pos (starEach [] X.env)) (backToKw pos (keywordEach [] X.env))):=by rfl) :
  PE X (.Call (.Attribute o m ig) [] [] pos) (Bu C m sp dvs E ta Qo8):=by
 intro dz s σ H Q I h;refine PySem.W.methodCall_KW (pl:=pl) (thn (he dz s σ H _ I h) λu s1 ⟨x,H1,I1,rx,a,dx,fs,ex,ea,l,q⟩=>?_) ht;subst ex;obtain rfl:u=Value.ref a:=rx;refine Nq I1 ea c hm l ?_;exact PySem.W.callWith_K0 (first:=[.ref a]) I1.kIn hm.kp (Qj0 (us:=[.ref a]) (vs:=[.ref a]) F hr hb hd hx I1 (.cons rfl .nil) q)
structure Mk (K:M7) (C f:G5):Prop where
 makes:PySem.W.makesIn K C=true
 init:PySem.W.findIn K (.ref C) "__init__" = some (some (.ref f))
 fn:PySem.W.isFn K (.ref f)=true
 kp:PySem.W.keepIn K (.ref C)=true
theorem Qf7 {Q:VK} (M:Mk X.K C f) (F:Cg X.prog X.w X.K X.mg X.base CX k f fd ps sp) (hr:Uq (k + 1) X.A) (hb:Kk X.K fd ps ds) (hd:Xq dvs ds)
  (hx:Rv CX X E) (I:Inv X dz σ H s) (r:Xq vs us)
  (h:∀ x dx,H x=none->H dx=none->dx≠x->sp (.ref x :: (vs ++ dvs)) (upd (upd H dx (.own x)) x (.ins C dx [])) (λv H2=>v=.non/\Q (.ref x) H2) E) :
  wpAny (model X.prog X.w) X.A (call (.ref C) us) (EP X dz σ Q) X.xe s:=by
 have hq:=h (s.heap.objs.size + 1) s.heap.objs.size (I.hok.fresh (V5 _)) (I.hok.fresh (O1 _)) (O7 (V0 _));have I2:=Inv.made (C:=C) I;have r2:Xq (V.ref (s.heap.objs.size + 1) :: (vs ++ dvs)) (Value.ref (s.heap.objs.size + 1) :: (us ++ ds)):=.cons rfl (r.append hd);have hl:(Value.ref (s.heap.objs.size + 1) :: us ++ ds).length=ps.length:=by have e:=r2.length;rw [F.len _ _ _ _ hq] at e;exact e.symm
 refine wpAny_call (Qh8 (f:=f) I.kIn M.makes M.init (beq_iff_eq.mp M.fn) (Z9 (F.run _ X.stack _ _ ⟨Value.ref (s.heap.objs.size + 1) :: us,[]⟩ (Value.ref (s.heap.objs.size + 1) :: (us ++ ds)) _ _ E (hr.make C us [])
  (I2.env0.make C us []) (hb _ (Value.ref (s.heap.objs.size + 1) :: us) I2.kIn hl) r2 hq) λr s' hq'=>?_))
 cases r with
 | error e=>exact hx dz σ _ _ e s' I2 hq'
 | ok fl =>
  cases fl with
  | ret u =>let ⟨v,H',I3,rv,ev,q3⟩:=I2.after hq';subst ev;exact ⟨rv,⟨V.ref (s.heap.objs.size + 1),H',I3,rfl,q3⟩⟩
  | next=>exact False.elim hq'
  | brk=>exact False.elim hq'
  | cont=>exact False.elim hq'
def Qrx (M:Mk X.K C f) (F:Cg X.prog X.w X.K X.mg X.base CX k f fd ps sp) (hr:Uq (k + 1) X.A) (hg:Gl X x) (hm:X.mg x=some (.ref C)) (hb:Kk X.K fd ps ds) (hd:Xq dvs ds) (hx:Rv CX X E)
  (ha:PA X (e :: es) t) (hdb:(x == ("__debug__" : Str))=false:=by decide) (he:starEach (e :: es) X.env=(false,eval e X.env) :: starEach es X.env:=by rfl) (hpl:(backTo pos (starEach es X.env)).any (·.1)=false:=by rfl) :
  PE X (.Call (.Name x p) (e :: es) [] pos) (Qi0 C sp dvs E t):=by
 intro dz s σ H Q I h;refine V1 (Nt I hg hm ?_ hdb);refine PySem.W.callWith_K (h₀:=X.base) I.ok.mod.kin M.kp (thn (ha pos dz s σ H _ I h) λus s1 ⟨vs,H1,I1,r,q⟩=>⟨I1.kIn,?_⟩) he hpl;exact Qf7 M F hr hb hd hx I1 r q
end
structure Xa (N P:K9) (sc:Scope):Prop where
 kind:sc.kind=.function
 co:sc.isCoroutine=false
 gen:sc.isGenerator=false
 nd:N.Nodup
 pre:N.take P.length=P
 par:∀ x∈P,sc.names.lookup x=some .local\/sc.names.lookup x=some .cell
 nofree:∀ y∈sc.names,y.2≠.free
theorem Ls {kindOf:Str->Option NameKind} {x:Str}:∀ {binds:List (Str × G3)} {m:J9},(∀ v,(x,v) ∉ binds)->bindL kindOf binds m x=m x
 | [],_,_=>rfl
 | (n,v) :: r,m,h=>by
  unfold bindL;rw [Ls λw hw=>h w (mem_cons_of_mem _ hw)]
  split
  ·have:x≠n:=by rintro rfl; exact h v O9
   simp [this]
  ·rfl
theorem La {kindOf:Str->Option NameKind} {x:Str}:∀ {binds:List (Str × G3)} {m:J9},(∀ v,(x,v) ∉ binds)->bindC kindOf binds m x=m x
 | [],_,_=>rfl
 | (n,v) :: r,m,h=>by
  unfold bindC;rw [La λw hw=>h w (mem_cons_of_mem _ hw)]
  split
  ·rfl
  ·have:x≠n:=by rintro rfl; exact h v O9
   simp [this]
theorem Li {kindOf:Str->Option NameKind} {x:Str} {v:G3}:∀ {P:K9} {vs:K5} {i:Nat} {m:J9},P.Nodup->P[i]? = some x->vs[i]? = some v->kindOf x=some .local ->
  bindL kindOf (P.zip vs) m x=some v
 | [],_,_,_,_,h,_,_=>by simp at h
 | _ :: _,[],_,_,_,_,h,_=>by simp at h
 | p :: P,w :: vs,0,m,nd,h1,h2,hk=>by simp at h1 h2; subst h1; subst h2;show bindL kindOf ((p,w) :: P.zip vs) m p=_;unfold bindL;rw [Ls λv hv=>(nodup_cons.mp nd).1 (of_mem_zip hv).1,if_pos hk];simp
 | p :: P,w :: vs,i + 1,m,nd,h1,h2,hk=>by show bindL kindOf ((p,w) :: P.zip vs) m x=_;unfold bindL;exact Li (i:=i) (nodup_cons.mp nd).2 (by simpa using h1) (by simpa using h2) hk
theorem Le {kindOf:Str->Option NameKind} {x:Str} {v:G3}:∀ {P:K9} {vs:K5} {i:Nat} {m:J9},P.Nodup->P[i]? = some x->vs[i]? = some v->kindOf x≠some .local ->
  bindC kindOf (P.zip vs) m x=some v
 | [],_,_,_,_,h,_,_=>by simp at h
 | _ :: _,[],_,_,_,_,h,_=>by simp at h
 | p :: P,w :: vs,0,m,nd,h1,h2,hk=>by simp at h1 h2; subst h1; subst h2;show bindC kindOf ((p,w) :: P.zip vs) m p=_;unfold bindC;rw [La λv hv=>(nodup_cons.mp nd).1 (of_mem_zip hv).1,if_neg hk];simp
 | p :: P,w :: vs,i + 1,m,nd,h1,h2,hk=>by show bindC kindOf ((p,w) :: P.zip vs) m x=_;unfold bindC;exact Le (i:=i) (nodup_cons.mp nd).2 (by simpa using h1) (by simpa using h2) hk
def start (N:K9) (vs:List V):St:=vs.map some ++ replicate (N.length - vs.length) none
def Cf (CX:CXT) (P:G8) (w:World) (K:M7) (mg:J9) (base:Heap) (N:K9) (qual:Str) (scope:Scope) (f:G5) (cd:G3) (A:G7) (outer:List Env) (s:G4) (H:Hp) (E:XK):Cx where
 prog:=P
 w:=w
 K:=K
 mg:=mg
 base:=base
 A:=A.deeper (envOfC qual scope s.heap.objs.size f cd)
 N:=N
 s₀:=s
 H₀:=H
 env:=envOfC qual scope s.heap.objs.size f cd
 outer:=outer
 stack:=envOfC qual scope s.heap.objs.size f cd :: outer
 ex:=[]
 calm:=true
 fn:=λ_=>true
 pn:=[]
 xe:=λe s'=>wpAny (model P w) (A.deeper (envOfC qual scope s.heap.objs.size f cd)) (leaving (envOfC qual scope s.heap.objs.size f cd) e) (λ_ s''=>CX outer H s E e s'') (λe' s''=>CX outer H s E e' s'') s'
def Ih {sc:Scope} {n:Nat} (h:sc.names.lookup x=some .cell):∃ c,(cellsFrom n sc.names []).lookup x=some c:=by have q:=PySem.W.cellsFrom_some sc.names n [] (.inl h);exact Z6.mp q
theorem Qu8 {CX:CXT} {mg:J9} {N ps:K9} {qual:Str} {scope:Scope} {f:G5} {cd:G3} {outer:List Env} {s1:G4} {E:XK}
  (S:Xa N ps scope) (hd:A.handled=none) (e0:Qc7 P w K mg base A outer s H) (hl:vs.length=ps.length) (r:Xq vs us)
  (x:InCallC s s.heap.objs.size (bindL (envOfC qual scope s.heap.objs.size f cd).kindOf (ps.zip us) λ_=>none) (cellsFrom (s.heap.objs.size + 1) scope.names []) (bindC (envOfC qual scope s.heap.objs.size f cd).kindOf (ps.zip us) λ_=>none) s1) :
  Inv (Cf CX P w K mg base N qual scope f cd A outer s H E) [] (start N vs) H s1:=by
 have hpl:ps.length<=N.length:=by have:=W6 List.length S.pre; rw [length_take] at this; lia
 let ⟨h1,tk,rfl,hk⟩:=x.done;have noA:∀ b:G5,b ∉ (Cf CX P w K mg base N qual scope f cd A outer s H E).ex:=λb z=>absurd (show b∈([]:K6) from z) (by simp);refine ⟨⟨e0.mod,S.kind,rfl,rfl,O1 _,λy z c h1 h2=>?_,λy hy=>?_,λy c _ h=>?_,λ_=>hd,Around.frames_deeper e0.frames,.inr ⟨rfl,rfl⟩,λb z=>absurd z (noA b),e0.bs,e0.bsz,λb _ _=>noA b,λb z=>absurd z (noA b),e0.dw,e0.frf⟩,
  rfl,e0.bare,Un.kept hk,⟨_,x.toInCall.ns,λi y v h1 h2 h3=>?_⟩,λy c h=>⟨_,x.cell y c h⟩,e0.hok.fresh (O1 _),λy c h=>?_,λp hp=>absurd (show p∈([]:G9) from hp) (by simp),e0.hok.kept hk,?_⟩
 ·exact name_of_addr x.apart (A0l h1) (A0l h2)
 ·have hy:scope.names.lookup y=some .cell\/scope.names.lookup y=some .free:=hy;rcases hy with hy | hy
  ·exact Ih hy
  ·exact absurd rfl (S.nofree _ (A0l hy))
 ·exact V3 (x.above y c (A0l h))
 ·have hi:i < vs.length:=by
   unfold start at h2
   by_cases hi:i < vs.length
   ·exact hi
   ·rw [getElem?_append_right (by simpa using hi)] at h2;rw [getElem?_replicate] at h2
    split at h2 <;> cases h2
  have ha:vs[i]? = some v:=by
   unfold start at h2;rw [getElem?_append_left (by simpa using hi),getElem?_map] at h2;cases e:vs[i]? with
   | none=>rw [e] at h2; cases h2
   | some a=>rw [e] at h2; cases h2; rfl
  let ⟨u,hu,rv⟩:=r.get ha;have hp:ps[i]? = some y:=by rw [<- S.pre,getElem?_take_of_lt "o"]; exact h1
  have ndP:ps.Nodup:=by rw [<- S.pre]; exact S.nd.sublist (take_sublist _ _)
  refine ⟨u,rv,?_⟩;rcases S.par y (R9 hp) with k | k
  ·exact .inl ⟨k,Li ndP hp hu k⟩
  ·let ⟨c,e⟩:=Ih (n:=s.heap.objs.size + 1) k;refine .inr ⟨.inl k,c,e,?_⟩;have q:=x.cell y c e;rw [Le ndP hp hu (by show scope.names.lookup y≠_; rw [k]; decide)] at q;exact q
 ·exact e0.hok.fresh (V3 (x.above y c (A0l h)))
 ·unfold start;show _=N.length;rw [length_append,length_map,length_replicate];lia
theorem Qcv {CX:CXT} {mg:J9} {f:G5} {name qual:Str} {params:Arguments} {scope:Scope} {dV kV doc pm cdv ct oc:G3} {an od:M5}
  {osl:Array K7} {N ps:K9} {sp:Sp} (lk:K.lookup f=some ⟨oc,od,.func (PySem.W.fnOf name qual params body scope dV kV doc pm an cdv ct),osl⟩) (hcd:PySem.W.codeIn K cdv qual=true) (S:Xa N ps scope)
  (len:∀ vs H Q E,sp vs H Q E->vs.length=ps.length)
  (ir:∀ (A:G7) (outer:List Env) (s:G4) (H:Hp) (vs:List V) (Q:VK) (E:XK),Uq k (A.deeper (envOfC qual scope s.heap.objs.size f cdv))->sp vs H Q E ->
   ∃ t,PSs (Cf CX P w K mg base N qual scope f cdv A outer s H E) body t/\t { nx:=λ_ H'=>Q .non H',rt:=Q } (start N vs) H) :
  Cg P w K mg base CX (k + 1) f (PySem.W.fnOf name qual params body scope dV kV doc pm an cdv ct) ps sp:=by
 refine ⟨len,λA outer s H args us vs Q E hr e0 hb r hsp=>?_⟩;have hl:=len _ _ _ _ hsp;have KX:K.In s.heap:=e0.mod.kin.keeps λb o e=>(e0.bs b o e).1;have lim:s.heap.NoLimit:=e0.mod.nolimit.keeps λb o e=>(e0.bs b o e).1;have j8:∀ y∈ps.zip us,scope.names.lookup y.1=some .local\/(scope.names.lookup y.1=some .cell/\((cellsFrom (s.heap.objs.size + 1) scope.names []).lookup y.1).isSome=true):=λ⟨n,v⟩ hy=>by
  rcases S.par n (of_mem_zip hy).1 with q | q
  ·exact .inl q
  ·exact .inr ⟨q,PySem.W.cellsFrom_some _ _ _ (.inl q)⟩
 refine codeAny_call_function hr.depth (KX _ _ lk) rfl S.co S.gen rfl (PySem.W.codeRec_of KX hcd) (hb _ _ _ _ ?_);refine wpAny_newFunctionEnv_cells S.kind j8 λenv he s1 x=>?_;subst he;refine ⟨lim.keeps x.toInCall.keep,codeAny_func ?_⟩;let ⟨t,ht,hq⟩:=ir A outer s H vs Q E (hr.deeper _) hsp;have I:Inv (Cf CX P w K mg base N qual scope f cdv A outer s H E) [] (start N vs) H s1:=Qu8 S hr.hd e0 hl r x;refine T5 (ht [] s1 (start N vs) H _ I hq) (λfl s' hs=>?_) λe s' hs=>hs;have fin:∀ {σ':St} {H':Hp} {v:V} {u:G3},Inv (Cf CX P w K mg base N qual scope f cdv A outer s H E) [] σ' H' s'->Yi v u->Q v H'->CE outer P w H s Q u s' :=λ{σ' H' v u} J rv q=>⟨v,H',J.os,J.bare,J.base,J.hok,rv,q⟩
 cases fl with
 | ret u =>let ⟨v,σ',H',J,rv,q⟩:=hs;exact fin J rv q
 | next =>let ⟨σ',H',J,q⟩:=hs;exact fin (v:=V.non) (u:=Value.none) J rfl q
 | brk =>let ⟨_,_,_,q⟩:=hs;exact False.elim q
 | cont =>let ⟨_,_,_,q⟩:=hs;exact False.elim q
section
variable {p:Pos} {es:M4} {t:TA} {id T:String} {r:List V->Hp->VK->Prop}
def tCB (r:List V->Hp->VK->Prop) (t:TA):TE:=λσ H Q=>t σ H λvs H1=>r vs H1 Q
def Qr (hc:Up X (.builtin id) r) (hg:Gl X x) (hm:X.mg x=none) (hv:bootBuiltins x=some (.builtin id)) (ha:PA X (e :: es) t) (hn:x≠"__name__" := by decide) (hdb:(x == ("__debug__" : Str))=false:=by decide)
  (he:starEach (e :: es) X.env=(false,eval e X.env) :: starEach es X.env:=by rfl) (hpl:(backTo pos (starEach es X.env)).any (·.1)=false:=by rfl):PE X (.Call (.Name x p) (e :: es) [] pos) (tCB r t):=by
 intro dz s σ H Q I h;refine V1 (Ux I hg hm hv ?_ hn hdb);exact PyProof.Rows.callWith_builtin1 (thn (ha pos dz s σ H _ I h) λus s1 ⟨vs,H1,I1,r1,q1⟩=>hc dz s1 σ H1 vs us Q I1 r1 q1) he hpl
def Lz (hc:Up X (.type T) r) (hg:Gl X x) (hm:X.mg x=none) (hv:bootBuiltins x=some (.type T)) (ha:PA X (e :: es) t) (hn:x≠"__name__" := by decide) (hdb:(x == ("__debug__" : Str))=false:=by decide)
  (he:starEach (e :: es) X.env=(false,eval e X.env) :: starEach es X.env:=by rfl) (hpl:(backTo pos (starEach es X.env)).any (·.1)=false:=by rfl):PE X (.Call (.Name x p) (e :: es) [] pos) (tCB r t):=by
 intro dz s σ H Q I h;refine V1 (Ux I hg hm hv ?_ hn hdb);exact W7 (thn (ha pos dz s σ H _ I h) λus s1 ⟨vs,H1,I1,r1,q1⟩=>hc dz s1 σ H1 vs us Q I1 r1 q1) he hpl
end
end L2
namespace HT
open PySem PyProof.Rows
section
variable {prog:G8} {w:World} {A:G7} {E:K1} {s:G4}
def sIx (n d:Nat):Option Int->Nat
 | none=>d
 | some v=>if v < 0 then (v + (n:Int)).toNat else min v.toNat n
def sIx_none (n d:Nat):sIx n d none=d:=rfl
def sIx_nat (n d k:Nat):sIx n d (some (k:Int))=min k n:=by show (if (k:Int) < 0 then ((k:Int) + (n:Int)).toNat else min (k:Int).toNat n)=min k n;rw [if_neg "o",Int.toNat_natCast]
theorem Qa7 (n d:Nat) (hd:d<=n) (o:K8):sIx n d o<=n:=by
 cases o with
 | none=>exact hd
 | some v =>
  show (if v < 0 then (v + (n:Int)).toNat else min v.toNat n)<=n
  by_cases hv:v < 0
  ·rw [if_pos hv]; lia
  ·rw [if_neg hv]; exact Nat.min_le_right _ _
theorem Qw3 (v:Int) (n d:Nat):(if v < 0 then max (v + (n:Int)) 0 else min v (n:Int))=((sIx n d (some v):Nat):Int):=by
 show (if v < 0 then max (v + (n:Int)) 0 else min v (n:Int))=(((if v < 0 then (v + (n:Int)).toNat else min v.toNat n):Nat):Int)
 by_cases hv:v < 0
 ·simp only [if_pos hv]; lia
 ·simp only [if_neg hv]; lia
theorem Qzq (lo hi:K8) (n:Nat):Builtin.Slice.sliceAdjust lo hi 1 (n:Int)=(((sIx n 0 lo:Nat):Int),((sIx n n hi:Nat):Int)):=by
 have h1:¬ ((1:Int) < 0):=by lia
 unfold Builtin.Slice.sliceAdjust;simp only [h1,if_false];refine Prod.ext ?_ ?_
 ·cases lo with
  | none=>rfl
  | some v=>exact Qw3 v n 0
 ·cases hi with
  | none=>rfl
  | some v=>exact Qw3 v n n
theorem Qq5 (i j:Nat):Builtin.Slice.slicePlaces (i:Int) (j:Int) 1=j - i:=by
 unfold Builtin.Slice.slicePlaces;have h1:(1:Int) > 0:=by lia
 simp only [h1,if_true,Int.ediv_one]
 split <;> lia
theorem Dd {v:G3} {o:K8} {Q:Option Int->G4->Prop} (p:IsPart v o) (h:Q o s):wpAny (model prog w) A (Builtin.Slice.slicePartIndex v) Q E s:=by
 cases p with
 | none=>exact slicePart_none h
 | int i t=>exact slicePart_int h
def Ky {sl:G5} {vl vu:G3} {lo hi:K8} {n:Nat} {Q:Int × Int × Nat->G4->Prop} (hs:s.heap.IsSliceOf sl vl vu .none) (pl:IsPart vl lo) (pu:IsPart vu hi)
  (h:Q (((sIx n 0 lo:Nat):Int),1,sIx n n hi - sIx n 0 lo) s):wpAny (model prog w) A (Builtin.Slice.sliceApplied (.ref sl) (pure (n:Int))) Q E s:=by
 let ⟨os,hos,hcs,hds⟩:=id hs;unfold Builtin.Slice.sliceApplied Builtin.Slice.sliceFields;refine M6 (M6 (wpAny_field hos hds (x:=vl) rfl (M6 (wpAny_field hos hds (x:=vu) rfl (M6 (wpAny_field hos hds (x:=.none) rfl (M8 ?_)))))));refine M6 (slicePart_none ?_);show wpAny _ _ (if ((1:Int) == 0)=true then _ else _) _ _ s;rw [if_neg (by decide)];refine M6 (Dd pl (M6 (Dd pu (M6 (M8 ?_)))));show wpAny _ _ (match Builtin.Slice.sliceAdjust lo hi 1 (n:Int) with | (lo,hi)=>pure (lo,(1:Int),Builtin.Slice.slicePlaces lo hi 1)) _ _ s;rw [Qzq lo hi n];show wpAny _ _ (pure (((sIx n 0 lo:Nat):Int),(1:Int),Builtin.Slice.slicePlaces ((sIx n 0 lo:Nat):Int) ((sIx n n hi:Nat):Int) 1)) _ _ s;rw [Qq5];exact M8 h
theorem Qfx (xs:Array G3) (i k:Nat):((range k).filterMap λ(m:Nat)=>xs[((i:Int) + (m:Int) * 1).toNat]?).toArray=((xs.toList.drop i).take k).toArray:=by
 have e:(λ(m:Nat)=>xs[((i:Int) + (m:Int) * 1).toNat]?)=λm=>xs[i + m]?:=by
  funext m
  have:((i:Int) + (m:Int) * 1).toNat=i + m:=by lia
  rw [this]
 rw [e];have:=pick_run xs i k;rw [filterMap_map] at this;have e2:((λx=>xs[x]?) ∘ λx=>i + x)=λm=>xs[i + m]?:=rfl;rw [e2] at this;rw [this]
def getItem_tuple_cut {t sl:G5} {items:Array G3} {vl vu:G3} {lo hi:K8} {Q:K1} (ht:IsTup s.heap t items) (hs:s.heap.IsSliceOf sl vl vu .none) (pl:IsPart vl lo) (pu:IsPart vu hi)
  (hw:¬ (sIx items.size 0 lo=0/\sIx items.size items.size hi=items.size))
  (h:Q (.ref s.heap.objs.size) { s with heap:=s.heap.push { cls:=.type "tuple",data:=.seq ((items.toList.drop (sIx items.size 0 lo)).take (sIx items.size items.size hi - sIx items.size 0 lo)).toArray } })
  (hsz:items.size<=sizeLine):wpAny (model prog w) A (getItem (.ref t) (.ref sl)) Q E s:=by
 have htake:sizeOk (.seq ((items.toList.drop (sIx items.size 0 lo)).take (sIx items.size items.size hi - sIx items.size 0 lo)).toArray):=by show ((items.toList.drop (sIx items.size 0 lo)).take (sIx items.size items.size hi - sIx items.size 0 lo)).toArray.size<=sizeLine;rw [size_toArray,length_take,length_drop,Array.length_toList];lia
 have hj:sIx items.size items.size hi<=items.size:=Qa7 _ _ (O1 _) hi;let ⟨os,hos,hcs,hds⟩:=id hs;have hTs:s.TypeIs (.ref sl) "slice" := ⟨os,hos,hcs⟩
 unfold getItem
 try with_reducible refine U3 ?_
 first | refine M6 (M8 ?_) | skip
 refine M6 (wpAny_sequenceKey ht.typeIs (by decide) ?_);refine M6 (A0m (name:=Str.ofString "__getitem__") ht.typeIs PyProof.Rows.slot_tuple_getitem
  (X8 PyProof.Rows.slot_tuple_getitem ht.typeIs entry_tuple_getitem ?_ (args_tuple_getitem _ _)))
 show wpAny _ _ (Builtin.Tuple.tupleItemsOf (.ref t) >>= _) _ _ s;refine M6 (tupleItemsOf_ ht ?_);refine M6 (wpAny_typeOf hTs ?_);rw [if_pos (by decide)];refine M6 (Ky hs pl pu ?_);have hno:¬ ((((sIx items.size 0 lo:Nat):Int) == 0 && (1:Int) == 1 && (sIx items.size items.size hi - sIx items.size 0 lo) == items.size)=true):=by intro q;rw [Bool.and_eq_true,Bool.and_eq_true] at q;have q1:((sIx items.size 0 lo:Nat):Int)=0:=eq_of_beq q.1.1;have q2:sIx items.size items.size hi - sIx items.size 0 lo=items.size:=eq_of_beq q.2;exact hw ⟨"o","o"⟩
 show wpAny _ _ (if (((sIx items.size 0 lo:Nat):Int) == 0 && (1:Int) == 1 && (sIx items.size items.size hi - sIx items.size 0 lo) == items.size)=true then _ else _) _ _ s;rw [if_neg hno,Qfx]
 first
  | exact M6 (m:=Builtin.Tuple.tupleExact _) (U8 (M8 ⟨_,rfl,M8 h⟩) htake)
  | exact M6 (m:=Builtin.Tuple.tupleExact _) (U8 (M6 (M8 (M8 ⟨_,rfl,M8 h⟩))) htake)
  | exact M6 (M6 (m:=Builtin.Tuple.tupleExact _) (U8 (M8 (M8 ⟨_,rfl,M8 h⟩)) htake))
  | exact M6 (M6 (m:=Builtin.Tuple.tupleExact _) (U8 (M8 ⟨_,rfl,M8 h⟩) htake))
end
end HT
namespace L2
open PySem PySem.Spec PyProof.Rows
variable {n:Nat} {its:K5}
abbrev TO:=St->Hp->(Option Int->Hp->Prop)->Prop
def PO (X:Cx) (e:Option Expr) (t:TO):Prop :=
 ∀ (dz:G9) (s:G4) (σ:St) (H:Hp) (Q:Option Int->Hp->Prop),Inv X dz σ H s->t σ H Q ->
  wpAny (model X.prog X.w) X.A (evalPart e X.env) (λu s' => ∃ o H',Inv X dz σ H' s'/\IsPart u o/\Q o H') X.xe s
def Ql2:TO:=λ_ H Q=>Q none H
def Zq7 (t:TE):TO:=λσ H Q=>t σ H λx H1 => ∃ i,x=.int i/\Q (some i) H1
theorem Qz0 {ns:K3}:∀ {us:K5},Xq (ns.map V.int) us->IntsAre us ns:=by
 induction ns with
 | nil=>intro us r; rw [map_nil] at r; cases r; exact .nil
 | cons n ns ih =>
  intro us r;rw [map_cons] at r;cases r with
  | cons r1 r2 =>let ⟨t,e⟩:=r1;subst e;exact .cons n t (ih r2)
section
variable {X:Cx} {e:Expr} {te:TE} {lo hi:Option Expr} {tl th:TO} {pos p2:Pos}
def Ry:PO X none Ql2:=by intro dz s σ H Q I h;rw [evalPart_none];exact M8 ⟨none,H,I,.none,h⟩
def Vk (h:PE X e te):PO X (some e) (Zq7 te):=by intro dz s σ H Q I hw;rw [evalPart_some];refine thn (h dz s σ H _ I hw) λu s1 ⟨x,H1,I1,r1,q1⟩=>?_;let ⟨i,rfl,q⟩:=q1;let ⟨t,rfl⟩:=r1;exact ⟨some i,H1,I1,.int i t,q⟩
def SlR (X:Cx) (r:V->Option Int->Option Int->Hp->VK->Prop):Prop :=
 ∀ (dz:G9) (s:G4) (σ:St) (H:Hp) (x:V) (v vl vu:G3) (lo hi:K8) (sl:G5) (Q:VK),Inv X dz σ H s->Yi x v->s.heap.IsSliceOf sl vl vu .none->IsPart vl lo->IsPart vu hi->r x lo hi H Q ->
  ∃ T id,typeLookup (.type T) "__getitem__" = pure (some (.builtin id))/\s.TypeIs v T/\wpAny (model X.prog X.w) X.A (getItem v (.ref sl)) (EP X dz σ Q) X.xe s
def tSl (r:V->Option Int->Option Int->Hp->VK->Prop) (te:TE) (tl th:TO):TE:=λσ H Q=>te σ H λx H1=>tl σ H1 λl H2=>th σ H2 λu H3=>r x l u H3 Q
def Uj {r:V->Option Int->Option Int->Hp->VK->Prop} (hr:SlR X r) (he:PE X e te) (hl:PO X lo tl) (hu:PO X hi th):PE X (.Subscript e (.Slice lo hi none p2) pos) (tSl r te tl th):=by intro dz s σ H Q I h;refine Subscript_ (thn (he dz s σ H _ I h) λv s1 ⟨x,H1,I1,r1,q1⟩=>?_);refine wpAny_Slice (thn (hl dz s1 σ H1 _ I1 q1) λvl s2 ⟨l,H2,I2,pl,q2⟩=>thn (hu dz s2 σ H2 _ I2 q2) λvu s3 ⟨u,H3,I3,pu,q3⟩=>?_);rw [evalPart_none];refine M8 ?_;have I4:Inv X dz σ H3 { s3 with heap:=s3.heap.push { cls:=.type "slice",data:=.fields #[vl,vu,.none] } }:=I3.kept (t':=s3.toks) λb ob q=>N7 _ q;let ⟨T,id,hT,ht,hg⟩:=hr dz { s3 with heap:=s3.heap.push { cls:=.type "slice",data:=.fields #[vl,vu,.none] } } σ H3 x v vl vu l u s3.heap.objs.size Q I4 r1 (Heap.IsSliceOf.new ..) pl pu q3;show wpAny (model X.prog X.w) X.A (subscriptTail e (.Slice lo hi none p2) v (.ref s3.heap.objs.size)) (EP X dz σ Q) X.xe { s3 with heap:=s3.heap.push { cls:=.type "slice",data:=.fields #[vl,vu,.none] } };exact tail_any (ops:=[.ref s3.heap.objs.size,v]) ht hT hg (by with_unfolding_all rfl)
def Fd (xs:List V) (lo hi:K8):List V:=(xs.drop (HT.sIx xs.length 0 lo)).take (HT.sIx xs.length xs.length hi - HT.sIx xs.length 0 lo)
theorem Fk (xs:List V) (lo hi:K8):(Fd xs lo hi).length<=xs.length:=by unfold Fd;rw [length_take,length_drop];lia
def Zx2 (K:M7):V->Option Int->Option Int->Hp->VK->Prop:=λx lo hi H Q => ∃ a xs,x=.ref a/\SqT K H a xs /\
 ¬ (HT.sIx xs.length 0 lo=0/\HT.sIx xs.length xs.length hi=xs.length)/\∀ p,H p=none->Q (.ref p) (upd H p (.tup (Fd xs lo hi)))
def Qa6:SlR X (Zx2 X.K):=by
 intro dz s σ H x v vl vu lo hi sl Q I rx hs pl pu h;let ⟨a,xs,rfl,hx,hw,q⟩:=h;cases rx;let ⟨its,r,ht,hz⟩:=I.tuple hx;have fu:its.toArray.size=xs.length:=by rw [size_toArray]; exact r.length.symm
 refine ⟨"tuple",_,PyProof.Rows.slot_tuple_getitem.lookup,ht.typeIs,?_⟩;refine HT.getItem_tuple_cut ht hs pl pu (by rw [fu]; exact hw) ?_ (by rw [fu]; exact hz);rw [fu];refine ⟨.ref s.heap.objs.size,_,I.laid (t':=s.toks) (o:=.tup (Fd xs lo hi)) (λb ob q=>N7 _ q) (O1 _) ?_,rfl,q _ (I.hok.fresh (O1 _))⟩;exact ⟨O6 (Fk xs lo hi) hz,_,(r.drop (HT.sIx xs.length 0 lo)).take (HT.sIx xs.length xs.length hi - HT.sIx xs.length 0 lo),IsTup.new _ _⟩
end
def ixN (n:Nat) (i:Int):Option Nat:=if 0<=i then (if i < n then some i.toNat else none) else if -(n:Int)<=i then some (i + n).toNat else none
def atI {α:Type} (xs:List α) (i:Int):Option α:=(ixN xs.length i).bind λj=>xs[j]?
theorem Qv7 {i:Int} {j:Nat} (h:ixN n i=some j):seqIndex? i n=some j/\j < n/\-(n:Int)<=i/\i < n:=by
 unfold ixN at h
 by_cases h0:0<=i
 ·rw [if_pos h0] at h
  by_cases h1:i < n
  ·rw [if_pos h1] at h;have e:i.toNat=j:=Q9 h;exact ⟨by rw [seqIndex_of h0 h1,e],"o","o",h1⟩
  ·rw [if_neg h1] at h; cases h
 ·rw [if_neg h0] at h
  by_cases h1:-(n:Int)<=i
  ·rw [if_pos h1] at h;have e:(i + n).toNat=j:=Q9 h;exact ⟨by rw [seqIndex_neg "o" h1,e],"o",h1,"o"⟩
  ·rw [if_neg h1] at h; cases h
theorem Sy {α:Type} {xs:List α} {i:Int} {v:α} (h:atI xs i=some v):∃ j,seqIndex? i xs.length=some j/\xs[j]? = some v/\j < xs.length/\-(xs.length:Int)<=i/\i < xs.length:=by
 unfold atI at h;cases e:ixN xs.length i with
 | none=>rw [e] at h; cases h
 | some j =>rw [e] at h;let ⟨h1,h2,h3,h4⟩:=Qv7 e;exact ⟨j,h1,h,h2,h3,h4⟩
theorem Qnx {α:Type} {xs:List α} {j:Nat} {v:α} (h:xs[j]? = some v):atI xs (j:Int)=some v:=by
 have hj:j < xs.length:=(N5.mp h).1;have e:ixN xs.length (j:Int)=some j:=by unfold ixN;rw [if_pos "o",if_pos "o"]; simp
 unfold atI; rw [e]; exact h
def Qw6 (b:Expr):Prop:=∀ o i,subscripted b false o i=operate [o,i] (getItem o i)
def IxR (X:Cx) (r:R2):Prop :=
 ∀ (value jd:Expr) (dz:G9) (s:G4) (σ:St) (H:Hp) (x y:V) (v u:G3) (Q:VK),Inv X dz σ H s->Yi x v->Yi y u->r x y H Q ->
  subscripted jd false v u=operate [v,u] (getItem v u)->wpAny (model X.prog X.w) X.A (subscriptTail value jd v u) (EP X dz σ Q) X.xe s
def MtR (X:Cx) (id:String) (r:V->List V->Hp->VK->Prop):Prop :=
 ∀ (dz:G9) (s:G4) (σ:St) (H:Hp) (x:V) (xs:List V) (v:G3) (us:K5) (Q:VK),Inv X dz σ H s->Yi x v->Xq xs us->r x xs H Q ->
  wpAny (model X.prog X.w) X.A (call (.builtin id) (v :: us)) (EP X dz σ Q) X.xe s
section
variable {X:Cx} {a b:Expr} {ta tb:TE} {pos:Pos}
def IxR.or {r r':R2} (h:IxR X r) (h':IxR X r'):IxR X (λx y H Q=>r x y H Q\/r' x y H Q):=by
 intro value jd dz s σ H x y v u Q I rx ry q hs;rcases q with q | q
 ·exact h value jd dz s σ H x y v u Q I rx ry q hs
 ·exact h' value jd dz s σ H x y v u Q I rx ry q hs
def Zz3 {r:R2} (hr:IxR X r) (ha:PE X a ta) (hb:PE X b tb) (hs:Qw6 b):PE X (.Subscript a b pos) (tOp r ta tb):=by intro dz s σ H Q I h;exact Subscript_ (Zq1 ha hb I h λv u s2 x y H2 I2 rx ry q=>hr a b dz s2 σ H2 x y v u Q I2 rx ry q (hs _ _))
inductive RxL (K:M7) (x y:V) (H:Hp) (Q:VK):Prop
 | mk (p:G5) (xs:List V) (i:Int) (v:V) (a:x=.ref p) (b:y=.int i) (c:SqL K H p xs) (d:atI xs i=some v) (q:Q v H)
def Zx6 (K:M7):R2:=RxL K
inductive RxT (K:M7) (x y:V) (H:Hp) (Q:VK):Prop
 | mk (p:G5) (xs:List V) (i:Int) (v:V) (a:x=.ref p) (b:y=.int i) (c:SqT K H p xs) (d:atI xs i=some v) (q:Q v H)
def Zx4 (K:M7):R2:=RxT K
def Zx5:R2:=λx y H Q => ∃ z i c,x=.str z/\y=.int i/\z.length<=sizeLine/\atI z.cps.toList i=some c/\Q (.str ⟨#[c]⟩) H
theorem Qtv:IxR X (Zx6 X.K):=by
 intro value jd dz s σ H x y v u Q I rx ry h hs;let ⟨p,xs,i,z,rfl,rfl,hq,he,q⟩:=h;cases rx;let ⟨t,rfl⟩:=ry;let ⟨its,r,pl,hz⟩:=I.list hq;let ⟨j,h1,h2,h3,h4,h5⟩:=Sy he;let ⟨w,ew,rw'⟩:=r.get h2;have hl:=r.length;have hn:=Bh;have fin:EP X dz σ Q w s:=⟨z,H,I,rw',q⟩
 by_cases h0:0<=i
 ·have hj:i.toNat=j:=by rw [seqIndex_of h0 h5] at h1;exact Q9 h1
  exact item_listR pl.isList h0 "o" (by rw [hj]; simpa using ew) fin hs
 ·have hj:(i + (its.toArray.size:Int)).toNat=j:=by rw [seqIndex_neg "o" h4] at h1;rw [size_toArray,<- hl];exact Q9 h1
  exact subscriptTail_builtinR (x:=w) pl.isList.typeIs slot_list_getitem.lookup
   (wpAny_getItem_list_neg (Q:=λr s'=>r=w/\EP X dz σ Q r s') pl.isList "o" (by rw [size_toArray] <;> lia) "o" (by rw [hj]; simpa using ew) ⟨rfl,fin⟩) hs
theorem Qek:IxR X (Zx4 X.K):=by
 intro value jd dz s σ H x y v u Q I rx ry h hs;let ⟨p,xs,i,z,rfl,rfl,hq,he,q⟩:=h;cases rx;let ⟨t,rfl⟩:=ry;let ⟨its,r,pl,hz⟩:=I.tuple hq;let ⟨j,h1,h2,h3,h4,h5⟩:=Sy he;let ⟨w,ew,rw'⟩:=r.get h2;have hl:=r.length;have hn:=Bh;have fin:EP X dz σ Q w s:=⟨z,H,I,rw',q⟩
 exact subscriptTail_builtinR (x:=w) pl.typeIs slot_tuple_getitem.lookup
  (getItem_tuple (j:=j) (Q:=λr s'=>r=w/\EP X dz σ Q r s') pl "o" "o" (by rw [size_toArray,<- hl]; exact h1) (by simpa using ew) ⟨rfl,fin⟩) hs
theorem Qo0:IxR X Zx5:=by
 intro value jd dz s σ H x y v u Q I rx ry h hs;let ⟨z,i,c,rfl,rfl,hz,he,q⟩:=h;let ⟨t,rfl⟩:=rx;let ⟨t',rfl⟩:=ry;let ⟨j,h1,h2,h3,h4,h5⟩:=Sy he;have hl:z.cps.toList.length=z.length:=by simp [Str.length]
 rw [hl] at h1 h4 h5;have hn:=Bh;exact tail_any (typeIs_str s z t) slot_str_getitem.lookup (getItem_str (c:=c) (by have e1:decide (i < -(2 ^ 63:Int))=false:=S8 "o";have e2:decide (i>=2 ^ 63)=false:=S8 "o";rw [e1,e2,Bool.or_false]) (by rw [h1]; simpa using h2) ⟨.str ⟨#[c]⟩,H,I.tok _,⟨_,rfl⟩,q⟩) hs
def rIx (K:M7):R2:=λx y H Q=>Zx6 K x y H Q\/Zx4 K x y H Q\/Zx5 x y H Q
def Qo1:IxR X (rIx X.K):=Qtv.or (Qek.or Qo0)
def Qqq (its:K5) (n j:Nat) (u:G3):Obj.mapSeq (·.setIfInBounds j u) { cls:=.type "list",data:=.seq its.toArray n }={ cls:=.type "list",data:=.seq (its.set j u).toArray n }:=by simp [Obj.mapSeq]
def Inv.lst {dz:G9} {σ:St} {H:Hp} {s:G4} {p:G5} {xs:List V} (I:Inv X dz σ H s) (h:H p=some (.lst xs)) :
  ∃ (its:K5) (n:Nat),Xq xs its/\s.heap.get? p=some { cls:=.type "list",data:=.seq its.toArray n }/\xs.length<=sizeLine:=by
 let ⟨z,its,n,r,e⟩:=I.hok p _ h;exact ⟨its,n,r,e,z⟩
def Inv.lstUpd {dz:G9} {σ:St} {H:Hp} {s:G4} {p:G5} {xs ys:List V} {its':K5} {n':Nat} {f:Obj->Obj} (I:Inv X dz σ H s) (h:H p=some (.lst xs))
  (ho:s.heap.get? p=some { cls:=.type "list",data:=.seq its.toArray n }) (hf:f { cls:=.type "list",data:=.seq its.toArray n }={ cls:=.type "list",data:=.seq its'.toArray n' }) (r:Xq ys its') (hz:ys.length<=sizeLine) (t:Nat) :
  Inv X dz σ (upd H p (.lst ys)) { s with heap:=s.heap.update p f,toks:=t }:=by
 have e:(s.heap.update p f).get? p=some { cls:=.type "list",data:=.seq its'.toArray n' }:=by rw [Heap.get?_update_self f ho (by rw [hf] <;> rfl),hf]
 refine I.write (x:=p) (e:=p) (by rw [h]; trivial) (.inl rfl) (λb u hb q=>(Heap.get?_update_other _ _ (Ne.symm hb)).trans q) ⟨_,e⟩ ?_;exact ⟨hz,its',n',r,e⟩
def Zqk:V->V->V->Hp->(Hp->Prop)->Prop:=λo i v H Q => ∃ p xs k j,o=.ref p/\i=.int k/\H p=some (.lst xs)/\ixN xs.length k=some j/\Q (upd H p (.lst (xs.set j v)))
theorem Wr:Zxj X Zqk:=by
 intro dz s σ H o i v ov iv u Q I ro ri rv h;let ⟨p,xs,k,j,rfl,rfl,hp,hj,q⟩:=h;cases ro;let ⟨t,rfl⟩:=ri;let ⟨its,n,r,ho,hz⟩:=I.lst hp;let ⟨h1,h2,h3,h4⟩:=Qv7 hj;have hl:=r.length;have hn:=Bh;have I':Inv X dz σ (upd H p (.lst (xs.set j v))) { s with heap:=s.heap.update p (Obj.mapSeq (·.setIfInBounds j u)) } :=I.lstUpd hp ho (Qqq its n j u) (r.set rv j) (by rw [length_set]; exact hz) s.toks
 by_cases h0:0<=k
 ·have hk:k.toNat=j:=by rw [seqIndex_of h0 h4] at h1;exact Q9 h1
  exact PySem.W.ki_setAt ho h0 "o" (by rw [size_toArray,<- hl]; exact h4) (by rw [hk]; exact ⟨_,I',q⟩)
 ·have hk:(k + (its.toArray.size:Int)).toNat=j:=by rw [seqIndex_neg "o" h3] at h1;rw [size_toArray,<- hl];exact Q9 h1
  exact PySem.W.ki_setBack ho "o" (by rw [size_toArray,<- hl]; exact h3) "o" (by rw [hk]; exact ⟨_,I',q⟩)
theorem Hb (lo hi:K8) (n:Nat):(sliceBounds lo hi none n).1=((HT.sIx n 0 lo:Nat):Int)/\(sliceBounds lo hi none n).2.1=((HT.sIx n n hi:Nat):Int)/\(sliceBounds lo hi none n).2.2=1:=by
 refine ⟨?_,?_,rfl⟩
 ·cases lo with
  | none=>simp [sliceBounds,HT.sIx]
  | some i =>
   simp only [sliceBounds,HT.sIx,Option.getD_none,show (1:Int) > 0 by decide,if_true]
   by_cases h:i < 0
   ·simp only [h,if_true] <;> lia
   ·simp only [h,if_false] <;> lia
 ·cases hi with
  | none=>simp [sliceBounds,HT.sIx]
  | some i =>
   simp only [sliceBounds,HT.sIx,Option.getD_none,show (1:Int) > 0 by decide,if_true]
   by_cases h:i < 0
   ·simp only [h,if_true] <;> lia
   ·simp only [h,if_false] <;> lia
def Ma (its:K5) (lo hi:K8):slicePick its.toArray lo hi none=((its.drop (HT.sIx its.length 0 lo)).take (HT.sIx its.length its.length hi - HT.sIx its.length 0 lo)).toArray:=by let ⟨h1,h2,h3⟩:=Hb lo hi its.toArray.size;unfold slicePick;rw [h1,h2,h3];simp only [sliceRange_one,pick_run,size_toArray] <;> rfl
def Zj6 (K:M7):V->Option Int->Option Int->Hp->VK->Prop:=λx lo hi H Q => ∃ a xs,x=.ref a/\SqL K H a xs/\∀ p,H p=none->Q (.ref p) (upd H p (.lst (Fd xs lo hi)))
theorem Qlq:SlR X (Zj6 X.K):=by intro dz s σ H x v vl vu lo hi sl Q I rx hs pl pu h;let ⟨a,xs,rfl,hx,q⟩:=h;cases rx;let ⟨its,r,ht,hz⟩:=I.list hx;have fu:=r.length;refine ⟨"list",_,slot_list_getitem.lookup,ht.isList.typeIs,?_⟩;refine wpAny_getItem_list_slice ht.isList hs pl pu .none (by simp) ?_ (by rw [size_toArray] <;> lia);rw [Ma,<- fu];refine ⟨.ref s.heap.objs.size,_,I.laid (t':=s.toks) (o:=.lst (Fd xs lo hi)) (λb ob q=>N7 _ q) (O1 _) ?_,rfl,q _ (I.hok.fresh (O1 _))⟩;exact ⟨O6 (Fk xs lo hi) hz,_,0,(r.drop (HT.sIx xs.length 0 lo)).take (HT.sIx xs.length xs.length hi - HT.sIx xs.length 0 lo),Q5 _ rfl⟩
def Ve:V->Bool
 | .non=>true
 | .bl _=>true
 | .int _=>true
 | .str _=>true
 | _=>false
def eqV:V->V->Bool
 | .non,.non=>true
 | .bl a,.bl b=>a == b
 | .bl a,.int b=>(if a then 1 else 0) == b
 | .int a,.bl b=>a == (if b then 1 else 0)
 | .int a,.int b=>a == b
 | .str a,.str b=>a == b
 | _,_=>false
theorem Qo2 {A:G7} {s:G4} {y x:V} {u v:G3} (ry:Yi y u) (rx:Yi x v) (fy:Ve y=true) (fx:Ve x=true):SeqAt.EqAt A s u v (eqV y x):=by
 cases y with
 | non =>
  cases ry;cases x with
  | non=>cases rx; exact SeqAt.EqAt.same _
  | bl b=>cases rx; exact SeqAt.EqAt.none_bool b
  | int b=>let ⟨t,rfl⟩:=rx; exact SeqAt.EqAt.none_int b t
  | str b=>let ⟨t,rfl⟩:=rx; exact SeqAt.EqAt.none_str b t
  | _=>exact absurd (show false=true from fx) R8
 | bl a =>
  cases ry;cases x with
  | non=>cases rx; exact SeqAt.EqAt.bool_none a
  | bl b=>cases rx; exact SeqAt.EqAt.bool_bool a b
  | int b=>let ⟨t,rfl⟩:=rx; exact SeqAt.EqAt.bool_int a b t
  | str b=>let ⟨t,rfl⟩:=rx; exact SeqAt.EqAt.bool_str a b t
  | _=>exact absurd (show false=true from fx) R8
 | int a =>
  let ⟨t',rfl⟩:=ry;cases x with
  | non=>cases rx; exact SeqAt.EqAt.int_none a t'
  | bl b=>cases rx; exact SeqAt.EqAt.int_bool a t' b
  | int b=>let ⟨t,rfl⟩:=rx; exact SeqAt.EqAt.int_int a t' b t
  | str b=>let ⟨t,rfl⟩:=rx; exact SeqAt.EqAt.int_str a t' b t
  | _=>exact absurd (show false=true from fx) R8
 | str a =>
  let ⟨t',rfl⟩:=ry;cases x with
  | non=>cases rx; exact SeqAt.EqAt.str_none a t'
  | bl b=>cases rx; exact SeqAt.EqAt.str_bool a t' b
  | int b=>let ⟨t,rfl⟩:=rx; exact SeqAt.EqAt.str_int a t' b t
  | str b=>let ⟨t,rfl⟩:=rx; exact SeqAt.EqAt.str_str a t' b t
  | _=>exact absurd (show false=true from fx) R8
 | _=>exact absurd (show false=true from fy) R8
def eqU (x:V) (u:G3):Bool:=match u with
 | .none=>eqV .non x
 | .bool b=>eqV (.bl b) x
 | .int i _=>eqV (.int i) x
 | .str z _=>eqV (.str z) x
 | _=>false
theorem Qdz {x y:V} {u:G3} (r:Yi y u) (f:Ve y=true):eqU x u=eqV y x:=by
 cases y with
 | non=>cases r; rfl
 | bl b=>cases r; rfl
 | int i=>let ⟨t,rfl⟩:=r; rfl
 | str z=>let ⟨t,rfl⟩:=r; rfl
 | _=>exact absurd (show false=true from f) R8
theorem Gz {x:V}:∀ {xs:List V} {us:K5},Xq xs us->xs.all Ve=true->us.any (eqU x)=xs.any λy=>eqV y x
 | _,_,.nil,_=>rfl
 | y :: xs,u :: us,.cons r t,f=>by rw [all_cons,Bool.and_eq_true] at f;rw [any_cons,any_cons,Qdz r f.1,Gz t f.2]
theorem Tu {A:G7} {s:G4} {x:V} {v:G3} (rx:Yi x v) (fx:Ve x=true):∀ {xs:List V} {us:K5},Xq xs us->xs.all Ve=true->∀ u∈us,SeqAt.EqAt A s u v (eqU x u)
 | _,_,.nil,_=>λu hu=>by cases hu
 | y :: xs,u :: us,.cons r t,f=>λu' hu=>by
  rw [all_cons,Bool.and_eq_true] at f;rcases Q8.mp hu with rfl | hu
  ·rw [Qdz r f.1]; exact Qo2 r rx f.1 fx
  ·exact Tu rx fx t f.2 u' hu
def inV (x:V) (xs:List V):Bool:=xs.any λy=>eqV y x
def rIn (K:M7) (neg:Bool):R2:=λx y H Q => ∃ p xs,y=.ref p/\(SqL K H p xs\/SqT K H p xs)/\Ve x=true/\xs.all Ve=true/\Q (.bl (if neg then !inV x xs else inV x xs)) H
def Qyq:OpR X (compareOp .In) (rIn X.K false):=by
 intro dz s σ H x y v u Q I rx ry h;let ⟨p,xs,rfl,hq,fx,fs,q⟩:=h;cases ry;rcases hq with hq | hq
 ·let ⟨its,r,pl,hz⟩:=I.list hq;refine SeqAt.in_listAt (eqU x) pl.isList (λw hw=>Tu rx fx r fs w (by simpa using hw)) ⟨.bl _,H,I,rfl,?_⟩;rw [show its.toArray.any (eqU x)=its.any (eqU x) by simp,Gz r fs];exact q
 ·let ⟨its,r,pl,hz⟩:=I.tuple hq;refine SeqAt.in_tupleAt (eqU x) pl (λw hw=>Tu rx fx r fs w (by simpa using hw)) ⟨.bl _,H,I,rfl,?_⟩;rw [show its.toArray.any (eqU x)=its.any (eqU x) by simp,Gz r fs];exact q
def Hl:OpR X (compareOp .NotIn) (rIn X.K true):=by
 intro dz s σ H x y v u Q I rx ry h;let ⟨p,xs,rfl,hq,fx,fs,q⟩:=h;cases ry;rcases hq with hq | hq
 ·let ⟨its,r,pl,hz⟩:=I.list hq;refine SeqAt.notIn_listAt (eqU x) pl.isList (λw hw=>Tu rx fx r fs w (by simpa using hw)) ⟨.bl _,H,I,rfl,?_⟩;rw [show its.toArray.any (eqU x)=its.any (eqU x) by simp,Gz r fs];exact q
 ·let ⟨its,r,pl,hz⟩:=I.tuple hq;refine SeqAt.notIn_tupleAt (eqU x) pl (λw hw=>Tu rx fx r fs w (by simpa using hw)) ⟨.bl _,H,I,rfl,?_⟩;rw [show its.toArray.any (eqU x)=its.any (eqU x) by simp,Gz r fs];exact q
theorem Cz:Up X (.builtin "len") (λxs H Q => ∃ p ys,xs=[.ref p]/\(SqL X.K H p ys\/SqT X.K H p ys)/\Q (.int ys.length) H):=by
 intro dz s σ H xs us Q I r h;let ⟨p,ys,rfl,hq,q⟩:=h;let ⟨u,rfl,rx⟩:=Ts r;cases rx;have hn:=Bh;rcases hq with hq | hq
 ·let ⟨its,r',pl,hz⟩:=I.list hq;have fu:=r'.length;exact Calls.call_len_list pl.isList (by simp only [size_toArray] <;> lia) ⟨.int ys.length,H,I.tok _,⟨s.toks + 1,by rw [size_toArray,fu]⟩,q⟩
 ·let ⟨its,r',pl,hz⟩:=I.tuple hq;have fu:=r'.length;exact len_tuple pl (by simp only [size_toArray] <;> lia) ⟨.int ys.length,H,I.tok _,⟨s.toks + 1,by rw [size_toArray,fu]⟩,q⟩
theorem Cq:Up X (.type "list") (λxs H Q => ∃ p ys,xs=[.ref p]/\(SqL X.K H p ys\/SqT X.K H p ys)/\∀ l,H l=none->Q (.ref l) (upd H l (.lst ys))):=by
 intro dz s σ H xs us Q I r h;let ⟨p,ys,rfl,hq,q⟩:=h;let ⟨u,rfl,rx⟩:=Ts r;cases rx;have fin:∀ (its:K5),Xq ys its->ys.length<=sizeLine->∀ (h':Heap) (c':Nat),(∀ b o',s.heap.get? b=some o'->h'.get? b=some o') ->
   h'.get? s.heap.objs.size=some { cls:=.type "list",dict:=none,data:=.seq its.toArray c',slots:=#[] }->EP X dz σ Q (.ref s.heap.objs.size) { s with heap:=h' }:=λits r' hz h' c' kp e =>
  ⟨.ref s.heap.objs.size,_,I.laid (t':=s.toks) kp (O1 _) (show Ub X.prog X.w _ h' _ (.lst ys) from ⟨hz,its,c',r',e⟩),rfl,q _ (I.hok.fresh (O1 _))⟩
 rcases hq with hq | hq
 ·let ⟨its,r',pl,hz⟩:=I.list hq;have fu:=r'.length;let ⟨o,ho,hc,n,hd⟩:=pl.isList;exact call_list_seq p (.inl rfl) ho hc hd (λh' c' kp e=>fin its r' hz h' c' kp e) (by simp only [size_toArray] <;> lia)
 ·let ⟨its,r',pl,hz⟩:=I.tuple hq;have fu:=r'.length;let ⟨o,ho,hc,n,hd⟩:=pl;exact call_list_seq p (.inr rfl) ho hc hd (λh' c' kp e=>fin its r' hz h' c' kp e) (by simp only [size_toArray] <;> lia)
def tyV (K:M7) (T:String) (x:V) (H:Hp):Prop:=match x with
 | .str _=>T="str"
 | .int _=>T="int"
 | .ref p=>(T="list"/\∃ xs,SqL K H p xs)\/(T="tuple"/\∃ o,K.lookup p=some o/\o.cls=.type "tuple"/\o.dict=none) \/
   (T="dict"/\((∃ kvs,H p=some (.dK kvs))\/∃ kvs,H p=some (.dT kvs)))\/(T="set"/\∃ S n,H p=some (.set S n))
 | _=>False
theorem Qix {dz:G9} {σ:St} {H:Hp} {s:G4} {T:String} {x:V} {v:G3} (I:Inv X dz σ H s) (r:Yi x v) (ty:tyV X.K T x H) :
  s.TypeIs v T/\∀ a,v=.ref a->∃ ob,s.heap.get? a=some ob/\ob.dict=none:=by
 cases x with
 | str z =>let ⟨t,rfl⟩:=r;cases (show T="str" from ty);exact ⟨typeIs_str s z t,λ_ e=>nomatch e⟩
 | int i =>let ⟨t,rfl⟩:=r;cases (show T="int" from ty);exact ⟨typeIs_int s i t,λ_ e=>nomatch e⟩
 | ref p =>
  cases r;rcases ty with ⟨rfl,xs,hq⟩ | ⟨rfl,o,hk,hc,hd⟩ | ⟨rfl,hk⟩ | ⟨rfl,S,n,hk⟩
  ·let ⟨its,_,pl,_⟩:=I.list hq;refine ⟨pl.isList.typeIs,λa e=>?_⟩;cases e;let ⟨o,n,e,c,hd,_⟩:=pl;exact ⟨o,e,hd⟩
  ·refine ⟨⟨o,I.kIn p o hk,hc⟩,λa e=>?_⟩;cases e;exact ⟨o,I.kIn _ o hk,hd⟩
  ·have z:∃ o,s.heap.get? p=some o/\o.ExactDict:=by
    rcases hk with ⟨kvs,hk⟩ | ⟨kvs,hk⟩
    ·let ⟨_,_,_,_,o,_,_,e,ex,_⟩:=I.hok p _ hk;exact ⟨o,e,ex⟩
    ·let ⟨_,_,_,_,o,_,_,e,ex,_⟩:=I.hok p _ hk;exact ⟨o,e,ex⟩
   let ⟨o,e,ex⟩:=z;refine ⟨⟨o,e,ex.1⟩,λa e2=>?_⟩;cases e2;exact ⟨o,e,ex.2.1⟩
  ·let ⟨o,_,_,_,e,ex,_⟩:=I.hok p _ hk;refine ⟨⟨o,e,ex.1⟩,λa e2=>?_⟩;cases e2;exact ⟨o,e,ex.2.1⟩
 | _=>exact False.elim ty
def tBM (K:M7) (T:String) (r:V->List V->Hp->VK->Prop) (to:TE) (t:TA):TE:=λσ H Q=>to σ H λx H1=>tyV K T x H1/\t σ H1 λxs H2=>r x xs H2 Q
variable {o e:Expr} {es:M4} {to:TE} {t:TA} {name:Str} {ig iu:Pos} {T id:String} {r:V->List V->Hp->VK->Prop}
def Zz4 (pa:PlainAttrs T) (slot:Slot T name id) (hty:typeOf (.builtin id)=pure (.type "method_descriptor")) (hm:MtR X id r) (ho:PE X o to) (ha:PA X (e :: es) t)
  (jq:attributeBase o name X.env (eval o X.env)=eval o X.env:=by rfl)
  (m7:((backTo iu (starEach (e :: es) X.env)).all (λx => !x.1) && (backToKw iu (keywordEach [] X.env)).all (λx=>x.1.isSome)
   && decide ((e :: es).length + ([]:List Keyword).length + (if ([]:List Keyword).isEmpty then 0 else 1) < 30))=true:=by rfl)
  (jr:(ig.endLine == iu.line)=true:=by rfl) (hs:starEach (e :: es) X.env=(false,eval e X.env) :: starEach es X.env:=by rfl) (jf:(backTo iu (starEach es X.env)).any (·.1)=false:=by rfl) :
  PE X (.Call (.Attribute o name ig) (e :: es) [] iu) (tBM X.K T r to t):=by
 intro dz s σ H Q I h;refine wpAny_Call_method_late jq m7 jr rfl (thn (ho dz s σ H _ I h) λv s1 ⟨x,H1,I1,r1,ty,q1⟩=>?_);let ⟨h1,h2⟩:=Qix I1 r1 ty;refine ⟨T,id,pa,slot,hty,h1,h2,?_⟩;have hA:=ha iu dz s1 σ H1 _ I1 q1;rw [hs] at hA ⊢;refine Calls.callWith_builtin (by show (false || (backTo iu (starEach es X.env)).any (·.1))=false; rw [jf] <;> rfl) (Calls.evalArgs_plain ?_);exact thn hA λus s2 ⟨vs,H2,I2,r2,q2⟩=>hm dz s2 σ H2 x vs v us Q I2 r1 r2 q2
end
def MtM (X:Cx) (id:String) (r:V->List V->Hp->VK->Prop):Prop :=
 ∀ (dz:G9) (s:G4) (σ:St) (H:Hp) (x:V) (xs:List V) (v:G3) (us:K5) (Q:VK),Inv X dz σ H s->Yi x v->Xq xs us->r x xs H Q ->
  wpAny (model X.prog X.w) X.A (call (.builtin id) (v :: us)) (EP X dz σ Q) X.xe s
theorem Xq.one:∀ {x:V} {us:K5},Xq [x] us->∃ u,us=[u]/\Yi x u
 | _,_,.cons r .nil=>⟨_,rfl,r⟩
section
variable {X:Cx} {dz:G9} {σ:St} {H:Hp} {s:G4} {l b:G5} {xs ys zs:List V}
def Inv.lset {its':K5} {f:Array G3->Array G3} {t':Nat} (I:Inv X dz σ H s) (hH:H l=some (.lst xs))
  (e:s.heap.get? l=some { cls:=.type "list",data:=.seq its.toArray n }) (hf:f its.toArray=its'.toArray) (hv:Xq ys its') (hz:ys.length<=sizeLine) :
  Inv X dz σ (upd H l (.lst ys)) { s with heap:=s.heap.update l (Obj.mapSeq f),toks:=t' }:=by
 have q:=PySem.IsL.update e f;rw [hf] at q;refine I.write (x:=l) (e:=l) (by rw [hH]; exact trivial) (.inl rfl) (λb' u hb hu=>(Heap.get?_update_other s.heap (Obj.mapSeq f) (Ne.symm hb)).trans hu) ⟨_,q⟩ ?_;exact ⟨hz,its',_,hv,q⟩
def Inv.lnew {t':Nat} (I:Inv X dz σ H s) (hv:Xq ys its) (hz:ys.length<=sizeLine) :
  Inv X dz σ (upd H s.heap.objs.size (.lst ys)) { s with heap:=s.heap.push { cls:=.type "list",data:=.seq its.toArray },toks:=t' } :=
 I.laid (λ_ _ q=>N7 _ q) (O1 _) ⟨hz,its,0,hv,Q5 _ rfl⟩
def Inv.fresh (I:Inv X dz σ H s):H s.heap.objs.size=none:=I.hok.fresh (O1 _)
def Inv.lstM (I:Inv X dz σ H s) (hH:H l=some (.lst xs)):xs.length<=sizeLine/\∃ (its:K5) (n:Nat),Xq xs its/\xs.length=its.length/\s.heap.get? l=some { cls:=.type "list",data:=.seq its.toArray n }:=by let ⟨z,its,n,r,e⟩:=I.hok l _ hH;exact ⟨z,its,n,r,r.length,e⟩
theorem Qh6 (h:n<=sizeLine):Builtin.List.listTooLong n=false:=by unfold Builtin.List.listTooLong;exact S8 "o"
end
section
variable {X:Cx}
def Qjv:V->List V->Hp->VK->Prop:=λx vs H Q => ∃ l xs y,x=.ref l/\vs=[y]/\H l=some (.lst xs)/\xs.length < sizeLine/\Q .non (upd H l (.lst (xs ++ [y])))
theorem Gm:MtM X "list.append" Qjv:=by intro dz s σ H x vs v us Q I rx rv h;let ⟨l,xs,y,rfl,rfl,hH,hz,q⟩:=h;cases rx;let ⟨u,rfl,ru⟩:=rv.one;let ⟨z,its,n,r,hl,e⟩:=I.lstM hH;refine call_meets F.slot_list_append ⟨_,e,rfl⟩ F.entry_list_append (F.args_list_append_2 _ _) (PySem.list_append l its.toArray n u (by rw [size_toArray]; lia)) ⟨e,?_⟩;refine ⟨.non,_,I.lset (its':=its ++ [u]) hH e (by simp) (r.append (.cons ru .nil)) ?_,rfl,q⟩;rw [length_append,length_singleton];lia
def Qr3:V->List V->Hp->VK->Prop:=λx vs H Q => ∃ l b xs zs,x=.ref l/\vs=[.ref b]/\H l=some (.lst xs)/\H b=some (.lst zs)/\xs.length + zs.length<=sizeLine/\Q .non (upd H l (.lst (xs ++ zs)))
theorem Qyj:MtM X "list.extend" Qr3:=by
 intro dz s σ H x vs v us Q I rx rv h;let ⟨l,b,xs,zs,rfl,rfl,hH,hB,hz,q⟩:=h;cases rx;let ⟨u,rfl,ru⟩:=rv.one;cases ru;let ⟨z,its,n,r,hl,e⟩:=I.lstM hH;let ⟨z2,jy,n2,r2,hl2,e2⟩:=I.lstM hB;have hsz:its.toArray.size + jy.toArray.size<=sizeLine:=by rw [size_toArray,size_toArray]; lia
 have hlong:¬ (!its.toArray.isEmpty && Builtin.List.listTooLong (its.toArray.size + jy.toArray.size))=true:=by rw [Qh6 hsz,Bool.and_false];exact R8
 refine call_meets F.slot_list_extend ⟨_,e,rfl⟩ F.entry_list_extend (F.args_list_extend_2 _ _)
  (AutoSeq1.list_extend_list_list_0 l its.toArray n b jy.toArray n2 hlong (by rw [size_toArray]; lia) "o") ⟨e,e2,?_⟩
 refine ⟨.non,_,I.lset (its':=its ++ jy) hH e (by simp) (r.append r2) ?_,rfl,q⟩;rw [length_append];lia
def Zj7:R2:=λx y H Q => ∃ l b xs zs,x=.ref l/\y=.ref b/\H l=some (.lst xs)/\H b=some (.lst zs)/\xs.length + zs.length<=sizeLine/\∀ p,H p=none->Q (.ref p) (upd H p (.lst (xs ++ zs)))
theorem Qe7:OpR X (binaryOp .Add) Zj7:=by
 intro dz s σ H x y v u Q I rx ry h;let ⟨l,b,xs,zs,rfl,rfl,hH,hB,hz,q⟩:=h;cases rx;cases ry;let ⟨z,its,n,r,hl,e⟩:=I.lstM hH;let ⟨z2,jy,n2,r2,hl2,e2⟩:=I.lstM hB;refine PySem.P.add_list e e2 ?_ (by rw [size_toArray,size_toArray]; lia);have ea:its.toArray ++ jy.toArray=(its ++ jy).toArray:=by simp
 rw [ea];exact ⟨.ref _,_,I.lnew (t':=s.toks) (r.append r2) (by rw [length_append]; lia),rfl,q _ I.fresh⟩
end
end L2
namespace Att
open PySem PySem.W PySem.Calls PyProof.Rows
theorem Fg {P:Params} {h:Heap}:∀ (ns:K3) (vs:K5),WellAll P h vs (ns.map WData.int)->IntsAre vs ns:=by
 intro ns
 induction ns with
 | nil =>intro vs w;rw [map_nil] at w;cases w;exact .nil
 | cons n ns ih =>
  intro vs w;rw [map_cons] at w;cases w with
  | cons a b =>cases a;exact .cons _ _ (ih _ b)
def script_of {l:OpenLaw} {n:Nat} (hn:l.most=some n) {P:Params} {h:Heap} {args:List WData} {vals:K5}
  (hpre:l.row.toRowW.claim.pre args=true) (hwl:WellAll P h vals args) :
  ∃ a vs ns,vals=[Value.ref a]/\args=[WData.list (ns.map WData.int)]/\h.get? a=some { cls:=.type "list",data:=.seq vs.toArray }/\IntsAre vs ns/\ns.length<=n:=by
 have hsh:WShape.hasAll [] args [.list .int]=true:=(pre_splitW hpre).1;have hc:l.pre.holds [] { args:=args }=true:=(pre_splitW hpre).2;let ⟨d,r,rfl,h1,h2⟩:=hasAllW_cons hsh;obtain rfl:=hasAllW_nil h2;let ⟨xs,rfl,h3⟩:=hasW_list h1;let ⟨ns,rfl⟩:=items_int h3;have fu:ns.length<=n:=by
  unfold OpenLaw.pre at hc;have h4:(WTm.not (.lt (.lit (.int (n:Int))) (.len (.arg 0)))).holds [] { args:=[.list (ns.map .int)] }=true:=by have h4:=(holds_andW hc).1;rw [hn] at h4;exact h4
  have h5:=condW_of h4 (w_not (w_lt w_lit (w_len_list (w_arg rfl))));rw [length_map] at h5;refine Nat.le_of_not_lt λq=>?_;have q':(n:Int) < ((ns.length:Nat):Int):=by lia
  first
   | (rw [decide_eq_true q'] at h5; exact absurd h5 (by decide))
   | (simp at h5; lia)
 cases hwl with
 | cons w1 w2 =>
  cases w2;cases w1 with
  | list ho iy=>exact ⟨_,_,ns,rfl,rfl,ho,Fg ns _ iy,fu⟩
def post_true (l:OpenLaw) (args:List WData):l.row.toRowW.claim.post args (.bool true) args=true :=
 postW_of (r:=l.row.toRowW) (X:=(true == true))
  (show WShape.has [] (.bool true) .bool=true by first | rfl | decide | simp [WShape.has,WShape.arms,WShape.armsAll])
  (show (WTm.eq .res (.lit (.bool true))).value [] { args:=args,res:=some (.bool true),after:=args }=some (.bool (true == true)) from w_eq_bool (w_res rfl) w_lit) rfl
end Att
namespace L2
open PySem PySem.Spec PyProof.Rows
variable {X:Cx} {sp:Sp} {k n tk:Nat} {N ps Nc:K9} {fd:FuncData} {f a c C it D:G5} {st:Stmt} {x qual:Str} {kV doc pm cdv ct oc:G3} {osl:Array K7} {od an:M5} {pos tp:Pos} {A B:Prop} {H H1 H':Hp} {xs:List V} {K:M7} {scope:Scope} {h1 h:Heap} {ix:J8} {fp:K6} {RR:G3->G5->Result->G4->Prop} {E:K1} {Q:VK} {J:It} {te:TE} {tt:TT} {g:TG} {i:Int} {o:HO} {σf:St} {mg:J9} {w:World} {l e:Expr} {es:M4} {v:V} {ns:K3} {rows:J5}
theorem Bc:∀ {vs:K5} {ns:K3},IntsAre vs ns->Xq (ns.map V.int) vs
 | _,_,.nil=>.nil
 | _,_,.cons n t h=>.cons ⟨t,rfl⟩ (Bc h)
abbrev KOf {K:M7} {h:Heap} (_:K.In h):M7:=K
def Wg (s:Stmt) (j:Nat):Stmt:=match s with
 | .ClassDef _ _ _ body _ _ _ _ _ _ _=>body.getD j (.Pass ⟨0,0,0,0⟩)
 | _=>.Pass ⟨0,0,0,0⟩
def Yx (s:Stmt):Arguments:=match s with
 | .FunctionDef _ a _ _ _ _ _ _ _ _=>a
 | _ => { posonlyargs:=[],args:=[],vararg:=none,kwonlyargs:=[],kw_defaults:=[],kwarg:=none,defaults:=[] }
def Zd (s:Stmt):List Stmt:=match s with
 | .FunctionDef _ _ b _ _ _ _ _ _ _=>b
 | _ => []
def Qp (s:Stmt):Scope:=match s with
 | .FunctionDef _ _ _ _ _ _ sc _ _ _=>sc
 | _ => { kind:=.function,names:=[],isGenerator:=false,isCoroutine:=false }
abbrev CX0:CXT:=λ_ _ _ _ _ _=>False
abbrev E0:XK:=λ_ _ _=>False
def Qbj:Rv CX0 X E0:=λ_ _ _ _ _ _ _ h=>h.elim
structure Fun (K:M7) (x qual:Str) (st:Stmt) (f:G5) (fd:FuncData):Prop where
 ex:∃ (oc:G3) (od:M5) (kV doc pm:G3) (an:M5) (cdv ct:G3) (osl:Array K7),
  fd=PySem.W.fnOf x qual (Yx st) (Zd st) (Qp st) .none kV doc pm an cdv ct/\K.lookup f=some ⟨oc,od,.func fd,osl⟩/\PySem.W.codeIn K cdv qual=true
 kp:PySem.W.keepIn K (.ref f)=true
section
variable {P:G8} {base:Heap}
def Fun.ok (F:Fun K x qual st f fd) (S:Xa N ps (Qp st)) (len:∀ vs H Q E,sp vs H Q E->vs.length=ps.length)
  (ir:∀ (cdv:G3) (A:G7) (outer:List Env) (s:G4) (H:Hp) (vs:List V) (Q:VK) (E:XK),Uq k (A.deeper (envOfC qual (Qp st) s.heap.objs.size f cdv))->sp vs H Q E ->
   ∃ t,PSs (Cf CX0 P w K mg base N qual (Qp st) f cdv A outer s H E).nox (Zd st) t/\t { nx:=λ_ H'=>Q .non H',rt:=Q } (start N vs) H):Cg P w K mg base CX0 (k + 1) f fd ps sp:=by
 let ⟨oc,od,kV,doc,pm,an,cdv,ct,osl,rfl,lk,hcd⟩:=F.ex;refine Qcv lk hcd S len λA outer s H vs Q E hr hsp=>?_;let ⟨t,h,q⟩:=ir cdv A outer s H vs Q E hr hsp;exact ⟨t,h.nox,q⟩
def Fun.binds (F:Fun K x qual st f fd)
  (h:∀ (kV doc pm:G3) (an:M5) (cdv ct:G3) (us:K5),us.length=ps.length->bindArgs (PySem.W.fnOf x qual (Yx st) (Zd st) (Qp st) .none kV doc pm an cdv ct) ⟨us,[]⟩=pure (ps.zip us)):Kk K fd ps []:=by
 let ⟨oc,od,kV,doc,pm,an,cdv,ct,osl,rfl,lk,hcd⟩:=F.ex;exact .all (h kV doc pm an cdv ct)
def Qdq (l:K.lookup f=some ⟨oc,od,.func (PySem.W.fnOf x qual (Yx st) (Zd st) (Qp st) .none kV doc pm an cdv ct),osl⟩)
  (c:PySem.W.codeIn K cdv qual=true) (k:PySem.W.keepIn K (.ref f)=true):Fun K x qual st f (PySem.W.fnOf x qual (Yx st) (Zd st) (Qp st) .none kV doc pm an cdv ct):=⟨⟨oc,od,kV,doc,pm,an,cdv,ct,osl,rfl,l,c⟩,k⟩
end
def Qkv (h:n<=1000):n < sizeLine:=A0x h (by decide)
section
def pv (i:Nat) (hN:X.N[i]? = some x:=by rfl) (hv:Vis X.env.scope x:=by first | exact Or.inl rfl | exact Or.inr (Or.inl rfl) | exact Or.inr (Or.inr rfl)) (hd:(x == ("__debug__" : Str))=false:=by decide)
  (hcd:(x == ("__classdict__" : Str))=false:=by decide):PE X (.Name x pos) (Zzj i):=Qe0 hN hv hd hcd
end
def Bv (h:B):if false=true then A else B:=by rw [if_neg Bool.false_ne_true];exact h
def Qoq (h:A):if true=true then A else B:=by rw [if_pos rfl];exact h
def Fm {c A B:Prop} [Decidable c] (h1:c->A) (h2:¬ c->B):if c then A else B:=by
 by_cases h:c
 ·rw [if_pos h];exact h1 h
 ·rw [if_neg h];exact h2 h
def Qu (H H':Hp):Prop:=∀ b o,H b=some o->H' b=some o
def Qu.refl (H:Hp):Qu H H:=λ_ _ h=>h
def Qu.trans {H2:Hp} (a:Qu H H1) (b:Qu H1 H2):Qu H H2:=λc o h=>b c o (a c o h)
theorem Qu.free (e:Qu H H') {l:G5} (h:H' l=Option.none):H l=Option.none:=by
 cases q:H l with
 | none=>rfl
 | some o =>rw [e l o q] at h;cases h
def Qu.seq (e:Qu H H') (h:SqL K H a xs):SqL K H' a xs:=by
 rcases h with (h | ⟨o,h⟩) | h
 ·exact .inl (.inl (e _ _ h))
 ·exact .inl (.inr ⟨o,e _ _ h⟩)
 ·exact .inr h
section
variable {prog:G8} {A:G7} {R:Result->G4->Prop} {s:G4}
theorem Kx {elt jc iter:Expr} {ifs:M4} {it acc:G3} {env:Env} (I:Nat->G4->Prop)
  (turn:∀ n s,I n s->wpAny (model prog w) A (pyNext it) (λr s1=>match r with
   | none=>R (.ok .next) s1
   | some v=>wpAny (model prog w) A (letOwnedTupleGo jc it v) (λ_ s1'=>wpAny (model prog w) A (assign jc env v) (λ_ s2 =>
     wpAny (model prog w) A (forIn ifs true λc r=>if r=true then do let ok <- isTrue c env (eval c env); pure (ForInStep.yield ok) else pure (ForInStep.yield r)) (λok s3 =>
      if ok=true then wpAny (model prog w) A (eval elt env) (λx s4 =>wpAny (model prog w) A (call (.builtin "list.append") [acc,x]) (λ_ s5 => ∃ m,m < n/\I m s5) (λ_ _=>False) s4) (λ_ _=>False) s3
      else ∃ m,m < n/\I m s3) (λ_ _=>False) s2) (λ_ _=>False) s1') (λ_ _=>False) s1) (λ_ _=>False) s)
  (n:Nat) (h:I n s) :
  codeAny (model prog w) A (.compLoop (.ListComp elt [⟨jc,iter,ifs,0⟩] scope pos) 0 it acc env) R s:=by
 refine codeAny_loop rfl I (λn s hI=>?_) n h;show wpAny _ A ((compTurn (.ListComp elt [⟨jc,iter,ifs,0⟩] scope pos) 0 it acc env).onRaise (λx=>do noteFrame x env; theTreesLotGoes x)) _ _ s;refine wpAny_noted ?_;rw [compTurn_list];refine M6 (Z8 (M6 (T5 (turn n s hI) (λr s1 h1=>?_) λ_ _ h'=>h'.elim)));cases r with
 | none=>exact M8 h1
 | some v =>
  refine M6 (T5 h1 (λ_ s1' h1'=>?_) λ_ _ h'=>h'.elim);refine M6 (T5 h1' (λ_ s2 h2=>M6 (T5 h2 (λok s3 h3=>?_) λ_ _ h'=>h'.elim)) λ_ _ h'=>h'.elim);cases ok with
  | false=>exact M8 ⟨rfl,h3⟩
  | true =>exact M6 (M6 (T5 h3 (λx s4 h4=>M6 (T5 h4 (λ_ s5 h5=>M8 (M8 ⟨rfl,h5⟩)) λ_ _ h'=>h'.elim)) λ_ _ h'=>h'.elim))
end
def Ri (cells:List (Str × G5)):List (Str × NameKind)->List (Str × G5)->List (Str × G5)
 | [],acc=>acc
 | (n,k) :: r,acc=>if k == .free then Ri cells r ((n,(cells.lookup n).getD 0) :: acc) else Ri cells r acc
theorem Yc {env:Env} (h:∀ y∈scope.names,y.2=.free->∃ c,env.cells.lookup y.1=some c):closureFor scope env=pure (Ri env.cells scope.names []):=by
 simp only [closureFor];generalize ([]:List (Str × G5))=acc;revert h;generalize scope.names=l;intro h
 induction l generalizing acc with
 | nil=>rfl
 | cons x r ih =>
  let ⟨n,k⟩:=x;have hr:=ih (acc:=acc) λy hy=>h y (Q0 _ hy);cases e:(k == NameKind.free) with
  | false =>simp only [forIn_cons,Ri,e,Bool.false_eq_true,if_false];exact hr
  | true =>let ⟨c,hc⟩:=h (n,k) O9 (by simpa using e);have hr':=ih (acc:=(n,c) :: acc) λy hy=>h y (Q0 _ hy);have hc':env.cells.lookup n=some c:=hc;simp only [forIn_cons,Ri,e,if_true,cellOf,hc',Option.getD_some];exact hr'
theorem Kt {cells:List (Str × G5)}:∀ (l:List (Str × NameKind)) (acc:List (Str × G5)) {x:Str} {c:G5},(∀ y∈l,y.2=.free->∃ c,cells.lookup y.1=some c)->(Ri cells l acc).lookup x=some c->acc.lookup x=some c\/cells.lookup x=some c
 | [],acc,x,c,_,h=>.inl h
 | (n,k) :: r,acc,x,c,hy,h=>by
  have hr:∀ y∈r,y.2=.free->∃ c,cells.lookup y.1=some c:=λy m=>hy y (Q0 _ m);unfold Ri at h;cases e:(k == NameKind.free) with
  | false =>rw [e] at h;exact Kt r acc hr h
  | true =>
   rw [e] at h;rcases Kt r _ hr h with q | q
   ·rw [lookup_cons] at q;let ⟨c',hc'⟩:=hy (n,k) O9 (by simpa using e);have hc'':cells.lookup n=some c':=hc';cases en:(x == n) with
    | true =>
     rw [en] at q;have:x=n:=by simpa using en
     subst this;rw [hc''] at q;exact .inr (hc''.trans q)
    | false =>rw [en] at q;exact .inl q
   ·exact .inr q
theorem Uv {cells:List (Str × G5)}:∀ (l:List (Str × NameKind)) (acc:List (Str × G5)) {x:Str},((x,NameKind.free)∈l\/(acc.lookup x).isSome=true)->((Ri cells l acc).lookup x).isSome=true
 | [],acc,x,h=>by
  rcases h with h | h
  ·cases h
  ·exact h
 | (n,k) :: r,acc,x,h=>by
  unfold Ri;cases e:(k == NameKind.free) with
  | false =>
   simp only [Bool.false_eq_true,if_false];refine Uv r acc ?_;rcases h with h | h
   ·rcases Q8.mp h with h | h
    ·injection h with h1 h2
     subst h2;simp at e
    ·exact .inl h
   ·exact .inr h
  | true =>
   simp only [if_true];refine Uv r _ ?_;cases en:(x == n) with
   | true=>exact .inr (by rw [lookup_cons,en]; rfl)
   | false =>
    rcases h with h | h
    ·rcases Q8.mp h with h | h
     ·injection h with h1 h2
      subst h1;simp at en
     ·exact .inl h
    ·exact .inr (by rw [lookup_cons,en]; exact h)
def mem_of_lookup {β:Type}:∀ {l:List (Str × β)} {x:Str} {b:β},l.lookup x=some b->(x,b)∈l
 | [],_,_,h=>by simp at h
 | (n,k) :: r,x,b,h=>by
  rw [lookup_cons] at h;cases en:(x == n) with
  | true =>
   rw [en] at h;have:x=n:=by simpa using en
   subst this;have h':k=b:=Q9 h;subst h';exact O9
  | false =>rw [en] at h;exact Q0 _ (mem_of_lookup h)
theorem Wp {env:Env}:∀ {names:List (Str × NameKind)} {x:Str},names.lookup x=some .free ->
  (names.map λ(n,k)=>if (k == NameKind.free && env.scope.kind == .function && env.kindOf n == some .cell) then (n,NameKind.cell) else (n,k)).lookup x=some .cell \/
  (names.map λ(n,k)=>if (k == NameKind.free && env.scope.kind == .function && env.kindOf n == some .cell) then (n,NameKind.cell) else (n,k)).lookup x=some .free
 | [],_,h=>by simp at h
 | (n,k) :: r,x,h=>by
  have ih:=@Wp env r x;cases hx:x == n with
  | true =>
   simp only [lookup_cons,hx] at h;cases h
   by_cases hc:(NameKind.free == NameKind.free && env.scope.kind == .function && env.kindOf n == some .cell)=true
   ·left
    show List.lookup x ((if (NameKind.free == NameKind.free && env.scope.kind == .function && env.kindOf n == some .cell)=true then (n,NameKind.cell) else (n,NameKind.free)) :: _)=_;rw [if_pos hc];simp only [lookup_cons,hx]
   ·right
    show List.lookup x ((if (NameKind.free == NameKind.free && env.scope.kind == .function && env.kindOf n == some .cell)=true then (n,NameKind.cell) else (n,NameKind.free)) :: _)=_;rw [if_neg hc];simp only [lookup_cons,hx]
  | false =>
   simp only [lookup_cons,hx] at h;have q:=ih h
   by_cases hc:(k == NameKind.free && env.scope.kind == .function && env.kindOf n == some .cell)=true
   ·show List.lookup x ((if (k == NameKind.free && env.scope.kind == .function && env.kindOf n == some .cell)=true then (n,NameKind.cell) else (n,k)) :: _)=_\/List.lookup x ((if (k == NameKind.free && env.scope.kind == .function && env.kindOf n == some .cell)=true then (n,NameKind.cell) else (n,k)) :: _)=_;rw [if_pos hc]; simp only [lookup_cons,hx]; exact q
   ·show List.lookup x ((if (k == NameKind.free && env.scope.kind == .function && env.kindOf n == some .cell)=true then (n,NameKind.cell) else (n,k)) :: _)=_\/List.lookup x ((if (k == NameKind.free && env.scope.kind == .function && env.kindOf n == some .cell)=true then (n,NameKind.cell) else (n,k)) :: _)=_;rw [if_neg hc]; simp only [lookup_cons,hx]; exact q
theorem Wf {env:Env}:∀ {names:List (Str × NameKind)} {x:Str} {k':NameKind},(∀ y∈names,y.2≠.cell) ->
  (names.map λ(n,k)=>if (k == NameKind.free && env.scope.kind == .function && env.kindOf n == some .cell) then (n,NameKind.cell) else (n,k)).lookup x=some k'->(k'=.cell\/k'=.free)->(x,NameKind.free)∈names
 | [],_,_,_,h,_=>by simp at h
 | (n,k) :: r,x,k',hn,h,hk=>by
  have ih:=@Wf env r x k' (λy hy=>hn y (Q0 _ hy));have hnk:k≠.cell:=hn (n,k) O9;replace h:List.lookup x ((if (k == NameKind.free && env.scope.kind == .function && env.kindOf n == some .cell)=true then (n,NameKind.cell) else (n,k)) :: (r.map λ(n,k)=>if (k == NameKind.free && env.scope.kind == .function && env.kindOf n == some .cell) then (n,NameKind.cell) else (n,k)))=some k':=h
  by_cases hc:(k == NameKind.free && env.scope.kind == .function && env.kindOf n == some .cell)=true
  ·rw [if_pos hc] at h;have hkf:k=.free:=by have:=(U5.mp (U5.mp hc).1).1;simpa using this
   cases hx:x == n with
   | true =>
    have:x=n:=by simpa using hx
    subst this;rw [hkf];exact O9
   | false =>simp only [lookup_cons,hx] at h;exact Q0 _ (ih h hk)
  ·rw [if_neg hc] at h;cases hx:x == n with
   | true =>
    have:x=n:=by simpa using hx
    subst this;simp only [lookup_cons,hx] at h;cases h;rcases hk with z | z
    ·exact absurd z hnk
    ·rw [z];exact O9
   | false =>simp only [lookup_cons,hx] at h;exact Q0 _ (ih h hk)
def Zo (X:Cx) (scope:Scope) (C:G5) (s0:G4) (H0:Hp) (fp:K6) (Nc:K9):Cx where
 prog:=X.prog
 w:=X.w
 K:=X.K
 mg:=X.mg
 base:=X.base
 A:=X.A
 N:=Nc
 s₀:=s0
 H₀:=H0
 env:=compEnvC scope (Ri X.env.cells scope.names []) C X.env
 outer:=X.stack
 stack:=X.stack
 ex:=fp
 fn:=λ_=>false
 calm:=true
 pn:=[]
 xe:=λ_ _=>False
def Yp (sc out:Scope):Bool :=
 (match sc.kind with | .function=>true | _=>false) && sc.names.all λy=>match y.2 with
  | .cell=>false
  | .free=>(match out.names.lookup y.1 with | some .cell=>true | some .free=>true | _=>false)
  | .local=>(match sc.names.lookup y.1 with | some .local=>true | _=>false)
  | _=>true
def Kv (sc:Scope) (N:K9):List Str->List (Option Nat)->Bool
 | [],[]=>true
 | _ :: xs,none :: r=>Kv sc N xs r
 | x :: xs,some i :: r=>(match N[i]? with | some y=>decide (y=x) | none=>false) && (match sc.names.lookup x with | some .free=>true | _=>false) && Kv sc N xs r
 | _,_=>false
def cSt (σ:St):List (Option Nat)->St
 | [] => []
 | none :: r=>none :: cSt σ r
 | some i :: r=>(match σ[i]? with | some v=>v | none=>none) :: cSt σ r
theorem Tg {sc:Scope} {N:K9}:∀ {xs:K9} {ix:J8},Kv sc N xs ix=true->ix.length=xs.length
 | [],[],_=>rfl
 | [],_ :: _,h=>by cases h
 | _ :: _,[],h=>by cases h
 | _ :: xs,none :: r,h=>by have h':Kv sc N xs r=true:=h;simp [Tg h']
 | x :: xs,some i :: r,h=>by have h':((match N[i]? with | some y=>decide (y=x) | none=>false) && (match sc.names.lookup x with | some .free=>true | _=>false) && Kv sc N xs r)=true:=h;simp [Tg (Bool.and_eq_true_iff.mp h').2]
theorem Ko {σ:St}:∀ (ix:J8),(cSt σ ix).length=ix.length
 | []=>rfl
 | none :: r=>by simp [cSt,Ko r]
 | some i :: r=>by simp [cSt,Ko r]
theorem Gq {sc:Scope} {N:K9} {σ:St}:∀ {xs:K9} {ix:J8} {j:Nat} {x:Str} {v:V},Kv sc N xs ix=true->xs[j]? = some x->(cSt σ ix)[j]? = some (some v) ->
  ∃ i:Nat,N[i]? = some x/\σ[i]? = some (some v)/\sc.names.lookup x=some .free
 | [],_,j,x,v,_,h,_=>by simp at h
 | _ :: _,[],j,x,v,h,_,_=>by cases h
 | _ :: xs,none :: r,0,x,v,_,_,e=>by simp [cSt] at e
 | _ :: xs,none :: r,j + 1,x,v,h,h1,e=>by have h':Kv sc N xs r=true:=h;exact Gq (j:=j) h' (by simpa using h1) (by simpa [cSt] using e)
 | y :: xs,some i :: r,0,x,v,h,h1,e=>by
  have h':((match N[i]? with | some z=>decide (z=y) | none=>false) && (match sc.names.lookup y with | some .free=>true | _=>false) && Kv sc N xs r)=true:=h;have h1':y=x:=by simpa using h1
  subst h1';let ⟨h2,_⟩:=U5.mp h';let ⟨h3,h4⟩:=U5.mp h2;refine ⟨i,?_,?_,?_⟩
  ·cases q:N[i]? with
   | none=>rw [q] at h3; cases h3
   | some z=>rw [q] at h3; simp at h3; rw [h3]
  ·cases q:σ[i]? with
   | none=>simp [cSt,q] at e
   | some z=>simp [cSt,q] at e; rw [e]
  ·cases q:sc.names.lookup y with
   | none=>rw [q] at h4; cases h4
   | some k=>rw [q] at h4; cases k <;> first | rfl | cases h4
 | y :: xs,some i :: r,j + 1,x,v,h,h1,e=>by have h':((match N[i]? with | some z=>decide (z=y) | none=>false) && (match sc.names.lookup y with | some .free=>true | _=>false) && Kv sc N xs r)=true:=h;exact Gq (j:=j) (U5.mp h').2 (by simpa using h1) (by simpa [cSt] using e)
def Qc4 (X:Cx) (ifs:M4) (t:TT):Prop :=
 ∀ (dz:G9) (s:G4) (σ:St) (H:Hp) (Q:Bool->Hp->Prop),Inv X dz σ H s->t σ H Q ->
  wpAny (model X.prog X.w) X.A (forIn ifs true λc r=>if r=true then do let ok <- isTrue c X.env (eval c X.env); pure (ForInStep.yield ok) else pure (ForInStep.yield r)) (TP X dz σ Q) X.xe s
def Qx0:TT:=λ_ H Q=>Q true H
def Mb:Qc4 X [] Qx0:=λ_ _ _ H _ I h=>wpAny_tests_nil ⟨H,I,h⟩
def Mg {c:Expr} {t:TT} (h:PT X c t):Qc4 X [c] t:=λdz s σ H Q I q=>wpAny_tests_one (h dz s σ H Q I q)
def Agree (σ σ':St):Prop:=σ'.length=σ.length/\∀ (j:Nat) v,σ[j]? = some (some v)->σ'[j]? = some (some v)
theorem Agree.one (o o':Option V) (σ:St) (h:o=none):Agree (o :: σ) (o' :: σ):=⟨rfl,λj v e=>by
 cases j with
 | zero=>subst h; simp at e
 | succ j=>simpa using e⟩
def Wo (J:It) (D:G5) (g:TG) (tt:TT) (te:TE) (σ0:St) (H0:Hp) (Q:VK):Prop :=
 ∃ W:Nat->Nat->List V->Hp->Prop,(∃ m,W 0 m [] H0)/\∀ i m ys H2,W i m ys H2->H2 D=some (.lst ys) /\
  ((J.stop i H2/\Q (.ref D) H2)\/(J.go i H2/\ys.length < sizeLine/\∃ (N:V->Hp->Prop) (N':Hp->Prop),
   (∀ y H6,N y H6->H6 D=some (.lst ys)/\∃ m',m' < m/\W (i + 1) m' (ys ++ [y]) (upd H6 D (.lst (ys ++ [y]))))/\(∀ H5,N' H5->∃ m',m' < m/\W (i + 1) m' ys H5) /\
   ∀ x H3,J.yld i H2 x H3->g x σ0 H3 λσ4 H4=>Agree σ0 σ4/\tt σ4 H4 λb H5=>if b=true then te σ4 H5 N else N' H5))
def Oj (ix:J8) (wi:TI) (g:TG) (tt:TT) (te:TE):TE:=λσ H Q=>wi σ H λJ H1 => ∀ D,H1 D=none->Wo J D g tt te (cSt σ ix) (upd H1 D (.lst [])) Q
section
variable {tg iter elt:Expr} {ifs:M4} {dz:G9} {σ:St} {s:G4}
def Ys (ok:Yp scope X.env.scope=true):scope.kind=.function:=by have h:=(U5.mp ok).1;cases e:scope.kind <;> rw [e] at h <;> first | rfl | cases h
theorem Pf (ok:Yp scope X.env.scope=true):∀ y∈scope.names,(match y.2 with
  | .cell=>false
  | .free=>(match X.env.scope.names.lookup y.1 with | some .cell=>true | some .free=>true | _=>false)
  | .local=>(match scope.names.lookup y.1 with | some .local=>true | _=>false)
  | _=>true)=true:=all_eq_true.mp (U5.mp ok).2
def Je (ok:Yp scope X.env.scope=true):∀ y∈scope.names,y.2≠.cell:=λy hy e=>by have h:=Pf ok y hy;rw [e] at h;cases h
theorem Po (ok:Yp scope X.env.scope=true):∀ y∈scope.names,y.2=.local->scope.names.lookup y.1=some .local:=λy hy e=>by
 have h:=Pf ok y hy;rw [e] at h;dsimp only at h;cases q:scope.names.lookup y.1 with
 | none=>rw [q] at h; cases h
 | some k=>rw [q] at h; cases k <;> first | rfl | cases h
theorem Rt (ok:Yp scope X.env.scope=true):∀ y∈scope.names,y.2=.free->X.env.kindOf y.1=some .cell\/X.env.kindOf y.1=some .free:=λy hy e=>by
 have h:=Pf ok y hy;rw [e] at h;dsimp only at h;show X.env.scope.names.lookup y.1=_\/X.env.scope.names.lookup y.1=_;cases q:X.env.scope.names.lookup y.1 with
 | none=>rw [q] at h; cases h
 | some k=>rw [q] at h; cases k <;> first | exact .inl rfl | exact .inr rfl | cases h
def Wa (I:Inv X dz σ H s) (ok:Yp scope X.env.scope=true):∀ y∈scope.names,y.2=.free->∃ c,X.env.cells.lookup y.1=some c:=λy hy e=>I.ok.has y.1 (Rt ok y hy e)
def Js (I:Inv X dz σ H s) (ok:Yp scope X.env.scope=true) (h:(Ri X.env.cells scope.names []).lookup x=some c):X.env.cells.lookup x=some c:=by
 rcases Kt _ _ (Wa I ok) h with q | q
 ·simp at q
 ·exact q
def Qm7 {m:J9} (I:Inv X dz σ H s) (hc:X.calm=true) (ok:Yp scope X.env.scope=true) (hix:Kv scope X.N Nc ix=true)
  (hfp:∀ b∈fp,Tn X dz H b/\b < s.heap.objs.size) (hC:C=s.heap.objs.size) (hns:h1.Ns C m) (hk:∀ b o,s.heap.get? b=some o->h1.get? b=some o) :
  Inv (Zo X scope C s H fp Nc) [] (cSt σ ix) H { s with heap:=h1,toks:=tk }:=by
 have lt:∀ b o,s.heap.get? b=some o->b≠C:=λb o e=>by rw [hC]; exact O7 (N6 e)
 have nfs:∀ b∈fp,b ∉ frs X.stack:=λb hb z=>by
  let ⟨f1,f2,f3,_⟩:=(hfp b hb).1;rcases Q8.mp (I.stkSub b z) with q | q
  ·exact f2 q
  ·exact f3 q
 refine ⟨⟨I.ok.mod,(Ys (X:=X) (scope:=scope) ok),I.ok.glob,I.ok.blt,A0k hC.symm,λx y c e1 e2=>I.ok.inj x y c (Js I ok e1) (Js I ok e2),λx hx=>?_,(λ_ _ z=>nomatch z),λ_=>I.ok.hd hc,I.ok.frames,.inl rfl,λb hb=>⟨?_,λx c e=>?_⟩,I.bs,O6 I.ok.bsz I.sz,λb o e hb=>?_,nfs,I.stack,I.stkFree⟩,
  rfl,I.bare,Un.kept hk,⟨m,hns,λi x v e1 e2 e3=>?_⟩,λx c e=>?_,?_,λx c e=>I.c7 x c (Js I ok e),(λp hp=>by cases hp),I.hok.kept hk,?_⟩
 ·-- has
  have g8:(x,NameKind.free)∈scope.names:=by
   rcases hx with hx | hx
   ·exact Wf (env:=X.env) (Je ok) hx (.inl rfl)
   ·exact Wf (env:=X.env) (Je ok) hx (.inr rfl)
  have q:=Uv (cells:=X.env.cells) scope.names [] (x:=x) (.inl g8);exact Z6.mp q
 ·rw [show (Zo X scope C s H fp Nc).env.locals=C from rfl,hC];exact O7 (hfp b hb).2
 ·exact (hfp b hb).1.2.2.2.2.1 x c (Js I ok e)
 ·let ⟨_,_,_,f4,_⟩:=(hfp b hb).1;rcases f4 with z | z
  ·exact I.ok.noex b o e z
  ·exact absurd (S9 (N6 e) (O6 I.ok.bsz z)) (T7 _)
 ·let ⟨j,n1,n2,n3⟩:=Gq hix e1 e2;have g8:(x,NameKind.free)∈scope.names:=mem_of_lookup n3;have j8:=Rt ok (x,.free) g8 rfl;let ⟨mX,_,hl⟩:=I.loc;have m8:Vis X.env.scope x:=.inr j8;let ⟨u,r,l⟩:=hl j x v n1 n2 m8;refine ⟨u,r,?_⟩;rcases l with ⟨k1,_⟩ | ⟨_,c,e,z⟩
  ·rcases j8 with q | q
   ·rw [q] at k1; cases k1
   ·rw [q] at k1; cases k1
  ·refine .inr ⟨Wp n3,c,?_,?_⟩
   ·have q:=Uv (cells:=X.env.cells) scope.names [] (x:=x) (.inl g8);let ⟨c',hc'⟩:=Z6.mp q;have:=Js I ok hc';rw [e] at this;cases this;exact hc'
   ·let ⟨o,ho,hd⟩:=z;exact ⟨o,hk c o ho,hd⟩
 ·let ⟨v,o,ho,hd⟩:=I.cell x c (Js I ok e);exact ⟨v,o,hk c o ho,hd⟩
 ·rw [show (Zo X scope C s H fp Nc).env.locals=C from rfl,hC];exact I.hok.fresh (O1 _)
 ·rw [Ko,Tg hix];rfl
theorem Ig {tn:Nat->Heap->Prop}
  (I:Inv X dz σ H s) (hc:X.calm=true) (ok:Yp scope X.env.scope=true) (hix:Kv scope X.N Nc ix=true)
  (hg:∀ C s0 H0 fp,PG (Zo X scope C s0 H0 fp Nc) tg g) (ht:∀ C s0 H0 fp,Qc4 (Zo X scope C s0 H0 fp Nc) ifs tt) (he:∀ C s0 H0 fp,PE (Zo X scope C s0 H0 fp Nc) elt te)
  (T:Qmk X.prog X.w X.K tg J fp it tn) (t0:tn 0 s.heap) (f0:∀ b∈fp,Tn X dz H b)
  (h:∀ D,H D=none->Wo J D g tt te (cSt σ ix) (upd H D (.lst [])) Q)
  (hRR:∀ D C s' H' m,Inv X dz σ H' s'->s'.heap.Ns C m->H' C=none->X.s₀.heap.objs.size<=C->C≠X.env.locals->(∀ x c,X.env.cells.lookup x=some c->c≠C)->(∀ p∈X.pn ++ dz,p.1≠C)->Q (.ref D) H'->RR (.ref D) C (.ok .next) s') :
  wpAny (model X.prog X.w) X.A (newList []) (λacc s3=>wpAny (model X.prog X.w) X.A (newFunctionEnv scope X.env.globals (Ri X.env.cells scope.names []) [] X.env.qual none .none (some X.env)) (λcenv s4 =>
   codeAny (model X.prog X.w) X.A (.compStart (.ListComp elt [⟨tg,iter,ifs,0⟩] scope pos) 0 (.ref it) acc { cenv with scope:=relabel scope X.env }) (RR acc cenv.locals) s4) E s3) E s:=by
 have hD:H s.heap.objs.size=none:=I.fresh;let ⟨W,⟨m0,w0⟩,turn⟩:=h _ hD;refine A0a ?_;have I0:=I.lnew (its:=[]) (ys:=[]) (t':=s.toks) .nil (R7 _);have m9:∀ b o,s.heap.get? b=some o->(s.heap.push { cls:=.type "list",data:=.seq ([]:K5).toArray }).get? b=some o:=λb o e=>N7 _ e;have f0':∀ b∈fp,Tn X dz (upd H s.heap.objs.size (.lst [])) b/\b < (s.heap.push { cls:=.type "list",data:=.seq ([]:K5).toArray }).objs.size:=λb hb=>by let ⟨o,ho,_⟩:=T.obj _ _ t0 b hb;have hlt:=N6 ho;refine ⟨⟨?_,(f0 b hb).2⟩,N6 (m9 b o ho)⟩;rw [Qv (Nat.ne_of_lt hlt)];exact (f0 b hb).1
 have t0':tn 0 (s.heap.push { cls:=.type "list",data:=.seq ([]:K5).toArray }):=T.keep _ _ _ t0 λb hb o e=>m9 b o e;clear f0 t0 I;generalize hs0:({ s with heap:=s.heap.push { cls:=.type "list",data:=.seq ([]:K5).toArray },toks:=s.toks }:G4)=s0 at I0;have es0:s0.heap=s.heap.push { cls:=.type "list",data:=.seq ([]:K5).toArray }:=by rw [<- hs0]
 rw [<- es0] at f0' t0';generalize s.heap.objs.size=D at *;generalize upd H D (.lst [])=H0 at *;refine wpAny_newFunctionEnv (Je ok) (by intro y hy; simp at hy) (λh1 hns1 hsb1=>?_) (Ys ok);generalize hCe:s0.heap.objs.size=C at hns1 hsb1;have hk1:∀ b o,s0.heap.get? b=some o->h1.get? b=some o:=λb o e=>hsb1.extBut b o (by rw [<- hCe]; exact O7 (N6 e)) (N7 _ e);have IC:=Qm7 (C:=C) (fp:=fp) (Nc:=Nc) (ix:=ix) (h1:=h1) (tk:=s0.toks + ([]:List (Str × G3)).length) I0 hc ok hix f0' hCe.symm hns1 hk1;have t1:tn 0 h1:=T.keep _ _ _ t0' λb hb o e=>hk1 b o e;have fpx:∀ {H':Hp} {pl:G9},(∀ p∈pl,p.1 ∉ fp)->(∀ b∈fp,H' b=none)->∀ b∈fp,Tn (Zo X scope C s0 H0 fp Nc) pl H' b:=λ{H' pl} hpl hn b hb =>⟨hn b hb,(IC.ok.exf b hb).1,IC.ok.exfs b hb,.inl hb,(IC.ok.exf b hb).2,λp hp e=>hpl p (by simpa [Zo] using hp) (e ▸ hb)⟩
 have mj:∀ s1:G4,s1={ s0 with heap:=h1,toks:=s0.toks + ([]:List (Str × G3)).length } ->
   codeAny (model X.prog X.w) X.A (.compLoop (.ListComp elt [⟨tg,iter,ifs,0⟩] scope pos) 0 (.ref it) (.ref D) (Zo X scope C s0 H0 fp Nc).env) (RR (.ref D) C) s1:=by
  rintro s1 rfl;refine Kx (λn s' => ∃ i ys H',Inv (Zo X scope C s0 H0 fp Nc) [] (cSt σ ix) H' s'/\tn i s'.heap/\(∀ b∈fp,H' b=none)/\W i n ys H') ?_ m0 ⟨0,[],_,IC,t1,λb hb=>(f0' b hb).1.1,w0⟩;rintro n s3 ⟨i,ys,H3,I3,st3,fr3,w3⟩;let ⟨hD3,alt⟩:=turn i n ys H3 w3;rcases alt with ⟨stop,qn⟩ | ⟨go,fu,N,N',hN,hN',step⟩
  ·refine thn (T.done (Zo X scope C s0 H0 fp Nc) rfl rfl rfl rfl i [] s3 _ H3 (λ_ _=>False) I3 (fpx (λp hp=>by cases hp) fr3) st3 stop) λr s4 ⟨hr,I4⟩=>?_;subst hr;have J4:Inv X dz σ H3 s4:=I0.call' (s':=s4) (ch:=fp) I4.os I4.base I4.hok I4.bare λb hb=>⟨(f0' b hb).1.2.2.2.1,(f0' b hb).1.2.1,(f0' b hb).1.2.2.2.2.1,(f0' b hb).1.2.2.2.2.2⟩
   let ⟨m4,hn4,_⟩:=I4.loc;exact hRR D C s4 H3 m4 J4 hn4 I4.free (by rw [<- hCe]; exact I0.sz) (by rw [<- hCe]; exact (O7 I0.lt).symm)
    (λx c e z=>by let ⟨_,o,ho,_⟩:=I0.cell x c e;have:=N6 ho;rw [z,<- hCe] at this;exact T7 _ this)
    (λp hp z=>by have:=N6 (I0.pin p hp).1;rw [z,<- hCe] at this;exact T7 _ this) qn
  ·refine thn (T.item (Zo X scope C s0 H0 fp Nc) rfl rfl rfl rfl i [] s3 _ H3 (λ_ _=>False) I3 (fpx (λp hp=>by cases hp) fr3) st3 go) λr s4 ⟨u,hr,h4⟩=>?_;subst hr;refine thn h4 λ_ s5 ⟨x,H5,I5,r5,y5,st5,fr5⟩=>?_;have I5':=I5.pinned (fpx (λp hp=>by cases hp) fr5) (T.obj _ _ st5);refine thn (hg C s0 H0 fp _ s5 _ H5 x u _ I5' r5 (step x H5 y5)) λ_ s6 ⟨σ6,H6,I6,hag,q6⟩=>?_;refine thn (ht C s0 H0 fp _ s6 σ6 H6 _ I6 q6) λok7 s7 ⟨H7,I7,q7⟩=>?_;have again:∀ {H8:Hp} {s8:G4} {zs:List V} {m':Nat},Inv (Zo X scope C s0 H0 fp Nc) ([] ++ Dx fp s5.heap) σ6 H8 s8->m' < n->W (i + 1) m' zs H8 ->
     ∃ m,m < n/\∃ i ys H',Inv (Zo X scope C s0 H0 fp Nc) [] (cSt σ ix) H' s8/\tn i s8.heap/\(∀ b∈fp,H' b=none)/\W i m ys H':=λ{H8 s8 zs m'} I8 hm w8=>by
    refine ⟨m',hm,i + 1,zs,H8,I8.dj.weak hag.1.symm hag.2,T.keep _ _ _ st5 λb hb o e=>(I8.pin (b,o) (P0 _ (P0 _ (Jh hb e)))).1,λb hb=>?_,w8⟩;let ⟨o,e,d⟩:=T.obj _ _ st5 b hb;exact (I8.pin (b,o) (P0 _ (P0 _ (Jh hb e)))).2.1
   cases ok7 with
   | false =>rw [if_neg Bool.false_ne_true] at q7 ⊢;let ⟨m',hm,w7⟩:=hN' _ q7;exact again I7 hm w7
   | true =>rw [if_pos rfl] at q7 ⊢;refine thn (he C s0 H0 fp _ s7 σ6 H7 _ I7 q7) λy s8 ⟨yv,H8,I8,r8,q8⟩=>?_;let ⟨hD8,m',hm,w8⟩:=hN _ _ q8;refine thn (Gm (X:=Zo X scope C s0 H0 fp Nc) _ s8 σ6 H8 (.ref D) [yv] (.ref D) [y] (λv H9=>v=.non/\H9=upd H8 D (.lst (ys ++ [yv]))) I8 rfl (.cons r8 .nil) ⟨D,ys,yv,rfl,rfl,hD8,fu,rfl,rfl⟩) λ_ s9 ⟨v9,H9,I9,_,_,e9⟩=>?_;subst e9;exact again I9 hm w8
 exact codeAny_compStart_list (mj _ rfl) (T.self X.A 0 _ _ _ t1 (mj _ rfl))
def Qjw {wi:TI} (Nc:K9) (ix:J8) (hc:X.calm=true) (ok:Yp scope X.env.scope=true) (hix:Kv scope X.N Nc ix=true)
  (hi:PI X tg iter wi) (hg:∀ C s0 H0 fp,PG (Zo X scope C s0 H0 fp Nc) tg g) (ht:∀ C s0 H0 fp,Qc4 (Zo X scope C s0 H0 fp Nc) ifs tt) (he:∀ C s0 H0 fp,PE (Zo X scope C s0 H0 fp Nc) elt te)
  (hs:∀ x,foldedSetIterable iter X.env x=pure x:=by intro _; rfl):PE X (.ListComp elt [⟨tg,iter,ifs,0⟩] scope pos) (Oj ix wi g tt te):=by
 intro dz s σ H Q I h;rw [eval_ListComp];refine A1j (use:=none) rfl hs (Yc (Wa I ok)) (Ys ok) (Po ok) (thn (hi dz s σ H _ I h) λxv s1 h1=>thn h1 λitv s2 h2=>?_);let ⟨it,fp,tn,J,H2,rfl,I2,T,st2,f2,q2⟩:=h2;exact Ig (RR:=λacc C=>compPost (model X.prog X.w) X.A X.xe none (EP X dz σ Q) acc C) I2 hc ok hix hg ht he T st2 f2 q2
  (λD C s' H' m J' hn hC h1 h2 h3 h4 q=>⟨m,hn,λh' hs'=>⟨.ref D,H',J'.turned (t':=s'.toks) (λb o nb e=>hs'.extBut b o nb e) hC h2 (.inr h1) h3 h4,rfl,q⟩⟩)
def Ci {wi:TI} {i:Nat} {y:Str} {py spos:Pos} (hN:X.N.Nodup) (hy:X.N[i]? = some y) (hx:Loc X.env.scope y) (Nc:K9) (ix:J8) (hc:X.calm=true) (ok:Yp scope X.env.scope=true) (hix:Kv scope X.N Nc ix=true)
  (hi:PI X tg iter wi) (hg:∀ C s0 H0 fp,PG (Zo X scope C s0 H0 fp Nc) tg g) (ht:∀ C s0 H0 fp,Qc4 (Zo X scope C s0 H0 fp Nc) ifs tt) (he:∀ C s0 H0 fp,PE (Zo X scope C s0 H0 fp Nc) elt te)
  (hs:∀ x,foldedSetIterable iter X.env x=pure x:=by intro _; rfl)
  (hsw:swapsWith (.ListComp elt [⟨tg,iter,ifs,0⟩] scope pos) (some (.Name y py)) spos.line X.env=pure true:=by rfl) (hf:X.fn y=true\/X.env.scope.names.lookup y=some .local:=by first | exact .inl rfl | exact .inr rfl | assumption) :
  PS X (.Assign [.Name y py] (.ListComp elt [⟨tg,iter,ifs,0⟩] scope pos) spos) (Qsz (Oj ix wi g tt te) (Jb i)):=by
 intro dz s σ H Dn I h;rw [exec_Assign_Name_used _ _ _ _ hsw];refine M6 (Z8 (M6 ?_));show wpAny _ X.A (do let _ <- comprehension (.ListComp elt [⟨tg,iter,ifs,0⟩] scope pos) scope X.env _ (newList []) false (eval iter X.env) (some (assign (.Name y py) X.env))) _ _ s;refine M6 (T5 (A1j (use:=some (assign (.Name y py) X.env)) (Q:=λ_ s'=>SP X dz Dn .next s') rfl hs (Yc (Wa I ok)) (Ys ok) (Po ok)
  (thn (hi dz s σ H _ I h) λxv s1 h1=>thn h1 λitv s2 h2=>?_)) (λ_ s' hq=>M8 (M8 hq)) λ_ _ e=>e)
 let ⟨it,fp,tn,J,H2,rfl,I2,T,st2,f2,q2⟩:=h2;refine Ig (RR:=λacc C=>compPost (model X.prog X.w) X.A X.xe (some (assign (.Name y py) X.env)) (λ_ s'=>SP X dz Dn .next s') acc C) I2 hc ok hix hg ht he T st2 f2 q2
  (λD C s' H' m J' hn hC h1 h2 h3 h4 q=>?_)
 show wpAny _ X.A (assign (.Name y py) X.env (.ref D)) _ _ _;refine wpAny_assign_Name (Br J' hN hy hx (v:=.ref D) rfl (λs'' J'' ⟨a,hsb,ha⟩=>⟨m,hn.sameBut hsb ?_,λh' hs'=>⟨_,H',J''.turned (t':=s''.toks) (λb o nb e=>hs'.extBut b o nb e) hC h2 (.inr h1) h3 h4,q⟩⟩) hf);rcases ha with ha | ha
 ·rw [ha];exact h2
 ·exact (h3 _ _ ha).symm
end
def Qx1 (D:G5) (H H':Hp):Prop:=∀ b o,b≠D->H b=some o->H' b=some o
def Qu.keep (h:Qu H H') (D:G5):Qx1 D H H':=λb o _ e=>h b o e
theorem Qx1.upd:Qx1 D H (upd H D o):=λb u n e=>by rw [Qv n]; exact e
theorem Qu.upd (h:H D=none):Qu H (upd H D o):=λb u e=>by rw [Qv (Qj e h)]; exact e
def Qu.updT (s:Qu H H') (h:H D=none):Qu H (L2.upd H' D o):=λb u e=>by rw [Qv (Qj e h)]; exact s b u e
def Qu.seqT (e:Qu H H') (h:SqT K H a xs):SqT K H' a xs:=by
 rcases h with (h | ⟨o,h⟩) | h
 ·exact .inl (.inl (e _ _ h))
 ·exact .inl (.inr ⟨o,e _ _ h⟩)
 ·exact .inr h
theorem Qcw (n:Nat) (xv:Nat->V) (R:Nat->V->Hp->Prop) (hn:n < sizeLine) (hD1:H1 D=none)
  (hgo:∀ i H,i < n->Qu H1 H->J.go i H) (hst:∀ H,Qu H1 H->J.stop n H) (hy:∀ i H x H',i < n->Qu H1 H->J.yld i H x H'->x=xv i/\H'=H)
  (mono:∀ i y H H',Qx1 D H H'->R i y H->R i y H')
  (hs:∀ i H ys (N:VK),i < n->Qu H1 H->H D=some (.lst ys)->(∀ y H',Qu H H'->R i y H'->N y H')->te (some (xv i) :: σf) H N)
  (hd:∀ ys H,Qu H1 H->H D=some (.lst ys)->ys.length=n->(∀ (i:Nat) y,ys[i]? = some y->R i y H)->Q (.ref D) H):Wo J D (Jb 0) Qx0 te (none :: σf) (upd H1 D (.lst [])) Q:=by
 refine ⟨λi m ys H=>i<=n/\m=n - i/\Qu H1 H/\H D=some (.lst ys)/\ys.length=i/\∀ j y,ys[j]? = some y->R j y H,⟨n,R7 _,rfl,Qu.upd hD1,Qk,rfl,λj y e=>by simp at e⟩,?_⟩;rintro i m ys H ⟨hi,rfl,s1,d1,l1,r1⟩;refine ⟨d1,?_⟩
 by_cases hlt:i < n
 ·refine .inr ⟨hgo i H hlt s1,by rw [l1]; exact Nat.lt_trans hlt hn,λy H'=>Qu H H'/\R i y H',λ_=>False,λy H6 q=>?_,λ_ z=>z.elim,λx H' y=>?_⟩
  ·let ⟨s6,r6⟩:=q;refine ⟨s6 _ _ d1,n - (i + 1),"o",hlt,rfl,(s1.trans s6).updT hD1,Qk,by simp [l1],λj z e=>?_⟩
   by_cases hj:j < ys.length
   ·rw [getElem?_append_left hj] at e;exact mono _ _ _ _ Qx1.upd (mono _ _ _ _ (s6.keep D) (r1 j z e))
   ·have hj':j=ys.length:=by have:=(N5.mp e).1;simp at this;lia
    subst hj';simp at e;subst e;rw [l1];exact mono _ _ _ _ Qx1.upd r6
  ·let ⟨rfl,rfl⟩:=hy i H x H' hlt s1 y;refine ⟨Agree.one _ _ _ rfl,?_⟩;show if true=true then te (some (xv i) :: σf) H' (λy H''=>Qu H' H''/\R i y H'') else False
   rw [if_pos rfl];exact hs i H' ys _ hlt s1 d1 λy H6 a b=>⟨a,b⟩
 ·obtain rfl:i=n:=A0y hi (W8.mp hlt);exact .inl ⟨hst H s1,hd ys H s1 d1 l1 r1⟩
def Xy (R:Nat->V->Hp->Prop) (hS:SqL K H1 a xs) (hz:xs.length < sizeLine) (hD1:H1 D=none)
  (mono:∀ i y H H',Qx1 D H H'->R i y H->R i y H')
  (hs:∀ i x H ys (N:VK),xs[i]? = some x->Qu H1 H->H D=some (.lst ys)->(∀ y H',Qu H H'->R i y H'->N y H')->te (some x :: σf) H N)
  (hd:∀ ys H,Qu H1 H->H D=some (.lst ys)->ys.length=xs.length->(∀ (i:Nat) y,ys[i]? = some y->R i y H)->Q (.ref D) H):Wo (Itl K a) D (Jb 0) Qx0 te (none :: σf) (upd H1 D (.lst [])) Q:=by
 refine Qcw xs.length (λi=>(xs[i]?).getD .non) R hz hD1 (λi H hi s=>⟨xs,xs[i],s.seq hS,by simp [hi]⟩) (λH s=>⟨xs,s.seq hS,O1 _⟩) (λi H x H' hi s y=>?_) mono (λi H ys N hi s d hN=>?_) hd
 ·let ⟨rfl,y⟩:=y;have:=y xs (s.seq hS);exact ⟨by simp [this],rfl⟩
 ·have e:xs[i]? = some xs[i]:=by simp [hi]
  have q:=hs i xs[i] H ys N e s d hN;rw [e];exact q
def Yk {lo:Int} (R:Nat->V->Hp->Prop) (hz:n < sizeLine) (hD1:H1 D=none)
  (mono:∀ i y H H',Qx1 D H H'->R i y H->R i y H')
  (hs:∀ (i:Nat) H ys (N:VK),i < n->Qu H1 H->H D=some (.lst ys)->(∀ y H',Qu H H'->R i y H'->N y H')->te (some (.int (lo + i)) :: σf) H N)
  (hd:∀ ys H,Qu H1 H->H D=some (.lst ys)->ys.length=n->(∀ (i:Nat) y,ys[i]? = some y->R i y H)->Q (.ref D) H):Wo (Itr lo n) D (Jb 0) Qx0 te (none :: σf) (upd H1 D (.lst [])) Q :=
 Qcw n (λi=>.int (lo + i)) R hz hD1 (λi H hi _=>hi) (λH _=>O1 _) (λi H x H' hi s y=>⟨y.2,y.1⟩) mono hs hd
def Zq3 (i j:Int):Prop:=(-(10 ^ 200) < i/\i < 10 ^ 200)/\(-(10 ^ 200) < j/\j < 10 ^ 200)
def Zzx (i j:Int):Prop:=0 < j/\j < 10 ^ 200
def Qn9:(10:Nat) ^ 200<=2 ^ 700:=by decide +kernel
theorem Sk (h:-(10 ^ 200) < i/\i < 10 ^ 200):i.natAbs < 2 ^ 700:=by
 have h1:i.natAbs < 10 ^ 200:=by
  have e:((10 ^ 200:Nat):Int)=(10:Int) ^ 200:=by simp
  have:(i.natAbs:Int) < ((10 ^ 200:Nat):Int):=by rw [e]; lia
  exact Int.ofNat_lt.mp this
 exact S9 h1 Qn9
def Zq3.ok {j:Int} (h:Zq3 i j):IntMulOk i j:=IntMulOk.of_le (m:=700) (n:=700) (intBits_le_iff.mpr (Sk h.1)) (intBits_le_iff.mpr (Sk h.2)) (by decide)
section
def Qi:OpR X (binaryOp .Mult) (rI Zq3 λi j=>.int (i * j)):=opI λ_ _ _ _ _ _ _ hc q=>mul_int q hc.ok
theorem Xo:OpR X (binaryOp .FloorDiv) (rI Zzx λi j=>.int (i / j)):=opI λi j _ _ _ _ _ hc q=>by have h1:(0:Int) < j:=hc.1;have h2:j.natAbs < 2 ^ 700:=Sk ⟨by have:=hc.2; lia,hc.2⟩;refine floordiv_int "o" (by rw [Int.fdiv_eq_ediv_of_nonneg i "o"]; exact q) (.inl (PyProof.noPylong_of_log2 ?_));have h3:j.natAbs.log2 < 700:=(Nat.log2_lt "o").mpr h2;lia
end
structure Src (K:M7) (mg:J9) (x qual:Str) (st:Stmt):Prop where
 ex:∃ f fd,Fun K x qual st f fd/\mg x=some (.ref f)
def Qa4 (X:K.In h) (G:h.Ns mainGlobals mg)
  (a:PySem.W.nsIn K mainGlobals x=some (some (.ref f))) (l:K.lookup f=some ⟨oc,od,.func (PySem.W.fnOf x qual (Yx st) (Zd st) (Qp st) .none kV doc pm an cdv ct),osl⟩)
  (c:PySem.W.codeIn K cdv qual=true) (k:PySem.W.keepIn K (.ref f)=true):Src K mg x qual st:=⟨f,_,Qdq l c k,PySem.W.mg_of X G a⟩
structure Def (P:G8) (w:World) (K:M7) (mg:J9) (base:Heap) (k:Nat) (x:Str) (ps:K9) (sp:Sp):Prop where
 ex:∃ f fd,mg x=some (.ref f)/\PySem.W.keepIn K (.ref f)=true/\Kk K fd ps []/\Cg P w K mg base CX0 k f fd ps sp/\∃ oc od osl,K.lookup f=some ⟨oc,od,.func fd,osl⟩
section
variable {P:G8} {base:Heap}
def Src.mk' (S:Src K mg x qual st) (Sc:Xa N ps (Qp st)) (len:∀ vs H Q E,sp vs H Q E->vs.length=ps.length)
  (hb:∀ (kV doc pm:G3) (an:M5) (cdv ct:G3) (us:K5),us.length=ps.length->bindArgs (PySem.W.fnOf x qual (Yx st) (Zd st) (Qp st) .none kV doc pm an cdv ct) ⟨us,[]⟩=pure (ps.zip us))
  (ir:∀ (f:G5) (cdv:G3) (A:G7) (outer:List Env) (s:G4) (H:Hp) (vs:List V) (Q:VK) (E:XK),Uq k (A.deeper (envOfC qual (Qp st) s.heap.objs.size f cdv))->sp vs H Q E ->
   ∃ t,PSs (Cf CX0 P w K mg base N qual (Qp st) f cdv A outer s H E).nox (Zd st) t/\t { nx:=λ_ H'=>Q .non H',rt:=Q } (start N vs) H):Def P w K mg base (k + 1) x ps sp:=by
 let ⟨f,fd,F,hm⟩:=S.ex;let ⟨oc,od,_,_,_,_,_,_,osl,_,lk,_⟩:=F.ex;exact ⟨f,fd,hm,F.kp,F.binds hb,F.ok Sc len (ir f),oc,od,osl,lk⟩
end
section
variable {p:Pos} {t:TA}
def Qe4 (D:Def X.prog X.w X.K X.mg X.base k x ps sp) (hr:Uq k X.A) (hg:Gl X x) (ha:PA X (e :: es) t) (hdb:(x == ("__debug__" : Str))=false:=by decide) (he:starEach (e :: es) X.env=(false,eval e X.env) :: starEach es X.env:=by rfl)
  (hpl:(backTo pos (starEach es X.env)).any (·.1)=false:=by rfl):PE X (.Call (.Name x p) (e :: es) [] pos) (Qx8 sp [] E0 t):=by
 let ⟨f,fd,hm,hk,hb,F,_⟩:=D.ex;exact Ca F hr hg hm hk hb .nil Qbj ha hdb he hpl
end
section
def rIs (K:M7):List V->Hp->VK->Prop:=λxs H Q => ∃ x n t b,xs=[x,.ty n]/\Oz K H x t/\PySem.W.kitOne K t (.type n)=some b/\Q (.bl b) H
def Ag:Up X (.builtin "isinstance") (rIs X.K):=by intro dz s σ H xs us Q I r h;let ⟨x,n,t,b,rfl,ty,e,q⟩:=h;let ⟨u,u2,rfl,ru,r2⟩:=Qcq r;have e2:u2=Value.type n:=r2;subst e2;exact Qu7 I ru ty e λtk=>⟨.bl b,H,I.tok tk,rfl,q⟩
def Qgz:bootBuiltins "len" = some (.builtin "len"):=by decide +kernel
def Ku:bootBuiltins "isinstance" = some (.builtin "isinstance"):=by decide +kernel
def Xg:bootBuiltins "sum" = some (.builtin "sum"):=by decide +kernel
def Ja:bootBuiltins "min" = some (.builtin "min"):=by decide +kernel
def Th:bootBuiltins "max" = some (.builtin "max"):=by decide +kernel
def Ga:bootBuiltins "all" = some (.builtin "all"):=by decide +kernel
def Qgx:bootBuiltins "any" = some (.builtin "any"):=by decide +kernel
def Qz7:bootBuiltins "bool" = some (.type "bool"):=by decide +kernel
def Lr:bootBuiltins "int" = some (.type "int"):=by decide +kernel
def Jc:bootBuiltins "list" = some (.type "list"):=by decide +kernel
def Vl:bootBuiltins "tuple" = some (.type "tuple"):=by decide +kernel
def Ln:bootBuiltins "abs" = some (.builtin "abs"):=by decide +kernel
def Fb:bootBuiltins "enumerate" = some (.type "enumerate"):=by decide +kernel
def Ya (K:M7) (n:String):PySem.W.kitOne K (.type n) (.type n)=some true:=by unfold PySem.W.kitOne;rw [if_pos (beq_self_eq_true _)]
end
def Ite (K:M7) (a:G5):It :=⟨λi H => ∃ xs x,SqL K H a xs/\xs[i]? = some x,λi H x H' => ∃ T,H T=none/\x=.ref T/\∀ xs,SqL K H a xs->∃ v,xs[i]? = some v/\H'=upd H T (.tup [.int i,v]),λi H => ∃ xs,SqL K H a xs/\xs.length<=i⟩
def Inv.turnNew {dz:G9} {σ:St} {s:G4} {e T:G5} {h':Heap} {t':Nat} (I:Inv X dz σ H s) (k:∀ b o,b≠e->b≠it->s.heap.get? b=some o->h'.get? b=some o) (fe:Tn X dz H e) (fi:Tn X dz H it)
  (hT:T=s.heap.objs.size) (new:Ub X.prog X.w (upd H T (.tup xs)) h' T (.tup xs)):Inv X dz σ (upd H T (.tup xs)) { s with heap:=h',toks:=t' }:=by
 have hn:H T=none:=by rw [hT]; exact I.fresh
 have nT:∀ b o,s.heap.get? b=some o->b≠T:=λb o e=>by rw [hT]; exact O7 (N6 e)
 have nch:∀ b,b ∉ [e,it]->b≠e/\b≠it:=λb h=>⟨λz=>h (by simp [z]),λz=>h (by simp [z])⟩
 refine I.step (g':=s.gens) (d':=s.drawn) (ch:=[e,it]) (λb hb=>?_) (λb o _ _ hc q _=>k b o (nch b hc).1 (nch b hc).2 q) (λb o _ _ hc q _=>⟨o.slots,k b o (nch b hc).1 (nch b hc).2 q⟩) (λb o _ q n=>by rw [Qv (nT b o q)]; exact n)
  (λb o hc q=>⟨o,k b o (nch b hc).1 (nch b hc).2 q⟩) (λb ys q=>by rw [Qv (Qj q hn)]; exact q) (λb o u q=>by rw [Qv (Qj q hn)]; exact q) (λb ps q=>⟨#[],by rw [Qv (Qj q hn),q]; simp⟩) (λm hm=>?_) (λb u q=>?_) I.bare
 ·rcases Q8.mp hb with z | hb
  ·subst z;exact ⟨fe.2.2.2.1,fe.2.1,fe.2.2.2.2.1,fe.2.2.2.2.2⟩
  ·have z:b=it:=by simpa using hb
   subst z;exact ⟨fi.2.2.2.1,fi.2.1,fi.2.2.2.2.1,fi.2.2.2.2.2⟩
 ·let ⟨o,es,ep,ho,r⟩:=hm;exact ⟨o,es,ep,k _ o (Ne.symm fe.2.1) (Ne.symm fi.2.1) ho,r⟩
 ·by_cases hb:b=T
  ·subst hb;rw [Qk] at q;cases q;exact new
  ·rw [Qv hb] at q;have ne:∀ c u,H c=some u->c≠e/\c≠it:=λc u z=>⟨λw=>(by rw [w,fe.1] at z; cases z),λw=>(by rw [w,fi.1] at z; cases z)⟩
   refine (I.hok b u q).stay (λc v hc z=>?_) (λc z=>by rw [Qv (Qj z hn)]; exact z) λc ys z=>by rw [Qv (Qj z hn)]; exact z
   rcases hc with w | w
   ·rw [w] at z ⊢;exact k b v (ne b u q).1 (ne b u q).2 z
   ·exact k c v (ne c _ w).1 (ne c _ w).2 z
theorem Qwx {P:G8} {mz:M4} (a e it:G5) (hne:e≠it) :
  Qmk P w K (.Tuple mz tk tp) (Ite K a) [e,it] e (λi h=>(∃ old,IsEnum h e it (i:Nat) old)/\h.IsListIter it a i) where
 mem:=by simp
 obj:=λi h st b hb=>by
  let ⟨⟨old,he⟩,hit⟩:=st;rcases Q8.mp hb with z | hb
  ·subst z;exact ⟨_,he,λv z=>by have z':Data.fields _=Data.cell v:=z;cases z'⟩
  ·have z:b=it:=by simpa using hb
   subst z;let ⟨o,e,c,d⟩:=hit;exact ⟨o,e,λv z=>by rw [d] at z; cases z⟩
 keep:=λi h h' st k=>by let ⟨⟨old,he⟩,hit⟩:=st;exact ⟨⟨old,k e (by simp) _ he⟩,hit.at λo x=>k it (by simp) o x⟩
 item:=by
  intro X hP hw hK hc i dz s σ H E I hf st hg;subst hP hw hK;let ⟨⟨old,he⟩,hit⟩:=st;let ⟨xs,x,hq,hx⟩:=hg;let ⟨its,rv,p,hz⟩:=I.list hq;let ⟨u,hu,ru⟩:=rv.get hx;refine wpAny_pyNext_enum_item he hit p.isList (x:=u) (by simpa using hu) hne λh' heo hit' hT hsz hk=>?_;refine ⟨_,rfl,wpAny_letOwnedTupleGo_enum heo λh2 he2 hs2=>?_⟩;have helt:e < s.heap.objs.size:=N6 he;have hT2:h2.get? s.heap.objs.size=some { cls:=.type "tuple",data:=.seq #[.int i s.toks,u] }:=(hs2.2 _ (Z4 helt)).trans hT;have I2:Inv X dz σ (upd H s.heap.objs.size (.tup [.int i,x])) { s with heap:=h2,toks:=s.toks + 1 } :=
   I.turnNew (e:=e) (it:=it) (λb o h1 h3 q=>(hs2.2 b h1).trans (hk b o h1 h3 q)) (hf e (by simp)) (hf it (by simp)) rfl
    ⟨by show 2<=sizeLine; rw [sizeLine_eq]; decide,[.int i s.toks,u],.cons ⟨_,rfl⟩ (.cons ru .nil),⟨_,hT2,rfl,_,rfl⟩⟩
  refine ⟨.ref s.heap.objs.size,_,I2,rfl,⟨_,I.fresh,rfl,λys hy=>⟨x,by rw [I.list_inj hy hq]; exact hx,rfl⟩⟩,⟨⟨u,?_⟩,hit'.at λo q=>(hs2.2 it hne.symm).trans q⟩,λb hb=>?_⟩
  ·have e1:((i + 1:Nat):Int)=(i:Int) + 1:=by simp
   rw [e1];exact he2
  ·obtain ⟨o,ho,_⟩:∃ o,s.heap.get? b=some o/\True:=by
    rcases Q8.mp hb with z | hb
    ·subst z;exact ⟨_,he,trivial⟩
    ·have z:b=it:=by simpa using hb
     subst z;let ⟨o,q,_⟩:=hit;exact ⟨o,q,trivial⟩
   rw [Qv (Nat.ne_of_lt (Heap.lt_size ho))];exact (hf b hb).1
 done:=by intro X hP hw hK hc i dz s σ H E I hf st hg;subst hP hw hK;let ⟨⟨old,he⟩,hit⟩:=st;let ⟨xs,hq,hx⟩:=hg;let ⟨its,rv,p,hz⟩:=I.list hq;let ⟨f0,f1,f2,f3,f4,f5⟩:=hf it (by simp);have hl:=rv.length;exact wpAny_pyNext_enum_end (I.ok.hd hc) he hit p.isList (by simp; lia) λh' eb=>⟨rfl,I.turned (t':=s.toks) (λb o hb e=>eb b o hb e) f0 f1 f3 f4 f5⟩
 self:=λA i s Q E st h=>by let ⟨⟨old,he⟩,_⟩:=st;exact wpAny_pyIter_enum he h
section
def Qi6 (K:M7) (ta:TA):TI:=λσ H R=>ta σ H λvs H1 => ∃ a,vs=[.ref a]/\(∃ xs,SqL K H1 a xs)/\R (Ite K a) H1
theorem Qrq {ta:TA} {p:Pos} {mz:M4} (hg:Gl X "enumerate") (hm:X.mg "enumerate" = none) (ha:PA X [l] ta) (hs:starEach [l] X.env=[(false,eval l X.env)]:=by rfl) :
  PI X (.Tuple mz tk tp) (.Call (.Name "enumerate" p) [l] [] pos) (Qi6 X.K ta):=by
 intro dz s σ H R I h;refine Call_ (Ux I hg hm Fb (W7 (thn (ha pos dz s σ H _ I h) λus s1 ⟨vs,H1,I1,r1,q1⟩=>?_) hs rfl));let ⟨a,e,⟨xs,hq⟩,q⟩:=q1;subst e;cases r1 with
 | cons r rr =>
  cases rr;obtain rfl:=r;let ⟨its,rv,pl,hz⟩:=I1.list hq;refine call_enumerate_list pl.isList λh' he hit hsz hk=>?_;refine wpAny_pyIter_enum he ?_;refine ⟨s1.heap.objs.size + 1,[s1.heap.objs.size + 1,s1.heap.objs.size],_,_,H1,rfl,I1.kept (t':=s1.toks) hk,Qwx a _ _ (Nat.succ_ne_self _),⟨⟨_,he⟩,hit⟩,λb hb=>?_,q⟩;have hle:s1.heap.objs.size<=b:=by
   rcases Q8.mp hb with z | hb
   ·rw [z]; exact V5 _
   ·have z:b=s1.heap.objs.size:=by simpa using hb
    rw [z];exact O1 _
  exact I1.fpOk hle (I1.hok.fresh hle)
end
theorem Qm1 {tb:TS} {D:Qx2} {σ:St} (Pv:Nat->St->Hp->Prop) (h0:Pv 0 σ H) (hl:∀ i σ H,i<=xs.length->Pv i σ H->SqL K H a xs)
  (hs:∀ i x σ H T,xs[i]? = some x->Pv i σ H->H T=none->g (.ref T) σ (upd H T (.tup [.int i,x])) λσ2 H2=>tb { D with nx:=Pv (i + 1),ct:=Pv (i + 1),bk:=D.nx } σ2 H2) (hd:∀ σ H,Pv xs.length σ H->D.nx σ H) :
  ∃ W:Nat->Nat->St->Hp->Prop,(∃ m,W 0 m σ H)/\∀ i m σ H,W i m σ H ->
   ((Ite K a).stop i H/\D.nx σ H)\/((Ite K a).go i H/\∃ N:St->Hp->Prop,(∀ σ' H',N σ' H'->∃ m',m' < m/\W (i + 1) m' σ' H')/\∀ x H',(Ite K a).yld i H x H'->g x σ H' λσ2 H2=>tb { D with nx:=N,ct:=N,bk:=D.nx } σ2 H2):=by
 refine ⟨λi m σ H=>m=xs.length - i/\i<=xs.length/\Pv i σ H,⟨xs.length,by simp,R7 _,h0⟩,?_⟩;rintro i m σ H ⟨rfl,hi,p⟩;have q:=hl i σ H hi p
 by_cases hlt:i < xs.length
 ·refine .inr ⟨⟨xs,xs[i],q,by simp [hlt]⟩,Pv (i + 1),λσ' H' p'=>⟨xs.length - (i + 1),"o",rfl,hlt,p'⟩,λx H' y=>?_⟩;let ⟨T,hT,rfl,y⟩:=y;let ⟨v,hv,rfl⟩:=y xs q;exact hs i v σ H T hv p hT
 ·obtain rfl:i=xs.length:=by lia
  exact .inl ⟨⟨xs,q,O1 _⟩,hd σ H p⟩
def Zqz (t:TS):TS:=λD σ H => ∃ N:St->Hp->Prop,t { D with nx:=N } σ H/\∀ σ' H',N σ' H'->D.nx σ' H'
theorem Qr5 {t:TS} (h:PS X st t):PS X st (Zqz t):=by
 intro dz s σ H D I q;let ⟨N,q,hN⟩:=q;refine thn (h dz s σ H _ I q) λf s' z=>?_;cases f with
 | next=>let ⟨σ',H',I',n⟩:=z; exact ⟨σ',H',I',hN σ' H' n⟩
 | brk=>exact z
 | cont=>exact z
 | ret v=>exact z
def Zk (h:n<=1000):n<=sizeLine:=V3 (Qkv h)
def Qc {α:Type} {xs:List α} {z:Int} (j:Nat) {v:α} (hz:z=(j:Int)) (h:xs[j]? = some v):atI xs z=some v:=by subst hz;exact Qnx h
structure New (H:Hp) (p:G5) (o:HO) (H':Hp):Prop where
 same:Qu H H'
 none:H p=Option.none
 at_:H' p=some o
def Jn {p:G5} (h:H p=Option.none):New H p o (upd H p o):=⟨Qu.upd h,h,Qk⟩
section
variable {t:TA}
def Zq6 (t:TA):TE:=λσ H Q=>t σ H λxs H1=>xs.length<=sizeLine/\∀ p H',New H1 p (.tup xs) H'->Q (.ref p) H'
def Zqq (t:TA):TE:=λσ H Q=>t σ H λxs H1=>xs.length<=sizeLine/\∀ p H',New H1 p (.lst xs) H'->Q (.ref p) H'
def OpR.imp {f:G3->G3->Sem G3} {r r':R2} (h:OpR X f r) (i:∀ x y H Q,r' x y H Q->r x y H Q):OpR X f r':=λdz s σ H x y v u Q I rx ry q=>h dz s σ H x y v u Q I rx ry (i _ _ _ _ q)
def SlR.imp {r r':V->Option Int->Option Int->Hp->VK->Prop} (h:SlR X r) (i:∀ x l u H Q,r' x l u H Q->r x l u H Q):SlR X r':=λdz s σ H x v vl vu lo hi sl Q I rx hs pl pu q=>h dz s σ H x v vl vu lo hi sl Q I rx hs pl pu (i _ _ _ _ _ q)
def Up.imp {f:G3} {r r':List V->Hp->VK->Prop} (h:Up X f r) (i:∀ xs H Q,r' xs H Q->r xs H Q):Up X f r':=λdz s σ H xs us Q I rv q=>h dz s σ H xs us Q I rv (i _ _ _ q)
def Qi1 (K:M7):V->Option Int->Option Int->Hp->VK->Prop:=λx lo hi H Q => ∃ a xs,x=.ref a/\SqL K H a xs/\∀ p H',New H p (.lst (Fd xs lo hi)) H'->Q (.ref p) H'
def Qf5:SlR X (Qi1 X.K):=Qlq.imp λx l u H Q ⟨a,xs,e,h,q⟩=>⟨a,xs,e,h,λp hp=>q p _ (Jn hp)⟩
def Zz2:R2:=λx y H Q => ∃ l b xs zs,x=.ref l/\y=.ref b/\H l=some (.lst xs)/\H b=some (.lst zs)/\xs.length + zs.length<=sizeLine/\∀ p H',New H p (.lst (xs ++ zs)) H'->Q (.ref p) H'
def Rg:OpR X (binaryOp .Add) Zz2:=Qe7.imp λx y H Q ⟨l,b,xs,zs,e1,e2,h1,h2,hz,q⟩=>⟨l,b,xs,zs,e1,e2,h1,h2,hz,λp hp=>q p _ (Jn hp)⟩
def Bx:Up X (.type "list") (λxs H Q => ∃ p ys,xs=[.ref p]/\(SqL X.K H p ys\/SqT X.K H p ys)/\∀ l H',New H l (.lst ys) H'->Q (.ref l) H'):=Cq.imp λxs H Q ⟨p,ys,e,h,q⟩=>⟨p,ys,e,h,λl hl=>q l _ (Jn hl)⟩
def Zc {x1} (h:PA X es t):PE X (.Tuple es x1 pos) (Zq6 t):=by intro dz s σ H Q I hq;refine wpAny_Tuple_spliced (thn (h pos dz s σ H _ I hq) λus s1 ⟨xs,H1,I1,r,z,q⟩=>⟨by rw [<- r.length]; exact z,?_⟩);refine ⟨.ref s1.heap.objs.size,_,I1.laid (t':=s1.toks) (o:=.tup xs) (λb u e=>N7 _ e) (O1 _) ?_,rfl,q _ _ (Jn I1.fresh)⟩;exact ⟨z,us,r,⟨_,Q5 _ rfl,rfl,_,rfl⟩⟩
def Qe (h:PA X es t):PE X (.List es pos) (Zqq t):=by intro dz s σ H Q I hq;refine wpAny_List_spliced (thn (h pos dz s σ H _ I hq) λus s1 ⟨xs,H1,I1,r,z,q⟩=>⟨by rw [<- r.length]; exact z,?_⟩);refine ⟨.ref s1.heap.objs.size,_,I1.laid (t':=s1.toks) (o:=.lst xs) (λb u e=>N7 _ e) (O1 _) ?_,rfl,q _ _ (Jn I1.fresh)⟩;exact ⟨z,us,0,r,Q5 _ rfl⟩
end
def Qez (K:M7):PySem.W.kitOne K (.type "int") (.type "bool")=some false:=by kernel_rfl
section
def Qtj (h:X.K=K):IxR X (rIx K):=h ▸ Qo1
def Tj (h:X.K=K):SlR X (Qi1 K):=h ▸ Qf5
def Zx3 (K:M7):List V->Hp->VK->Prop:=λxs H Q => ∃ p ys,xs=[.ref p]/\(SqL K H p ys\/SqT K H p ys)/\Q (.int ys.length) H
def Qg8 (h:X.K=K):Up X (.builtin "len") (Zx3 K):=h ▸ Cz
def Cj (h:X.K=K):Up X (.builtin "isinstance") (rIs K):=h ▸ Ag
def Qjj (K:M7):List V->Hp->VK->Prop:=λxs H Q => ∃ p ys,xs=[.ref p]/\(SqL K H p ys\/SqT K H p ys)/\∀ l H',New H l (.lst ys) H'->Q (.ref l) H'
def Bz (h:X.K=K):Up X (.type "list") (Qjj K):=h ▸ Bx
def Yn (h:X.K=K):OpR X (compareOp .In) (rIn K false):=h ▸ Qyq
def Tr (h:X.K=K):OpR X (compareOp .NotIn) (rIn K true):=h ▸ Hl
def Qfj {tg:Expr} {tl:TE} (h:X.K=K) (hl:PE X l tl):PI X tg l (Qcj K tl):=h ▸ Qr9 hl
def Qr7 {tg:Expr} {tl:TE} (h:X.K=K) (hl:PE X l tl):PI X tg l (Zx9 K tl):=h ▸ Qav hl
def Qfv {ta:TA} {p:Pos} {mz:M4} (h:X.K=K) (hg:Gl X "enumerate") (hm:X.mg "enumerate" = none) (ha:PA X [l] ta) (hs:starEach [l] X.env=[(false,eval l X.env)]:=by rfl) :
  PI X (.Tuple mz tk tp) (.Call (.Name "enumerate" p) [l] [] pos) (Qi6 K ta):=h ▸ Qrq hg hm ha hs
def Wu {t:TGs} (hK:X.K=K) (hc:X.calm=true) (h:PGs X es t)
  (hn:(assignEach es X.env).length=n:=by rfl) (hst:(assignEach es X.env).findIdx? (·.1)=none:=by rfl):PG X (.Tuple es k pos) (Zxq K n t):=hK ▸ Qaw hc h hn hst
def Qrw {f:Str} {ta:TE} (h:X.K=K) (he:PE X e ta) (hb:attributeBase e f X.env (eval e X.env)=eval e X.env):PE X (.Attribute e f pos) (Qoj K ta f):=h ▸ Qe3 he hb
def Ka {o value:Expr} {f:Str} {j5:Pos} {ta tv:TE} (h:X.K=K) (ha:PE X o ta) (hv:PE X value tv) (hs:swapsWith value (some (.Attribute o f j5)) pos.line X.env=pure false):PS X (.Assign [.Attribute o f j5] value pos) (Zx1 K ta tv f):=h ▸ Qaj ha hv hs
def Dv {o:Expr} {to:TE} {t:TA} {name:Str} {ig iu:Pos} {T id:String} {r:V->List V->Hp->VK->Prop} (h:X.K=K) (pa:PlainAttrs T) (slot:Slot T name id) (hty:typeOf (.builtin id)=pure (.type "method_descriptor")) (hm:MtR X id r) (ho:PE X o to) (ha:PA X (e :: es) t)
  (jq:attributeBase o name X.env (eval o X.env)=eval o X.env:=by rfl)
  (m7:((backTo iu (starEach (e :: es) X.env)).all (λx => !x.1) && (backToKw iu (keywordEach [] X.env)).all (λx=>x.1.isSome) && decide ((e :: es).length + ([]:List Keyword).length + (if ([]:List Keyword).isEmpty then 0 else 1) < 30))=true:=by rfl)
  (jr:(ig.endLine == iu.line)=true:=by rfl) (hs:starEach (e :: es) X.env=(false,eval e X.env) :: starEach es X.env:=by rfl) (jf:(backTo iu (starEach es X.env)).any (·.1)=false:=by rfl) :
  PE X (.Call (.Attribute o name ig) (e :: es) [] iu) (tBM K T r to t):=by
 subst h;exact Zz4 pa slot hty hm ho ha jq m7 jr hs jf
end
section
def Qrv (hg:Gl X x) (hm:∃ v,X.mg x=some v/\∃ t,v=.int i t) (hd:(x == ("__debug__" : Str))=false:=by decide):PE X (.Name x pos) (tC (.int i)):=by let ⟨v,hm,t,rfl⟩:=hm;exact Qrj hg hm ⟨t,rfl⟩ hd
end
def Qa0 (t:TE):TE:=λσ H Q => ∃ N:VK,t σ H N/\∀ v H',N v H'->Q v H'
def Nd {t:TE} (h:PE X e t):PE X e (Qa0 t):=by intro dz s σ H Q I q;let ⟨N,q,hN⟩:=q;refine thn (h dz s σ H _ I q) λu s' ⟨v,H',I',r,n⟩=>⟨v,H',I',r,hN v H' n⟩
def Vt {b:Bool} (e:b=false) (h:B):if b=true then A else B:=by rw [e];exact Bv h
def Yr {b:Bool} (e:b=true) (h:A):if b=true then A else B:=by rw [e];exact Qoq h
theorem Qd5 {a b A B:Int} (a1:-A<=a) (a2:a<=A) (b1:-B<=b) (b2:b<=B):-(A * B)<=a * b/\a * b<=A * B:=by
 have hA:0<=A:=by lia
 have hB:0<=B:=by lia
 have h1:(a.natAbs:Int)<=A:=by lia
 have h2:(b.natAbs:Int)<=B:=by lia
 have h3:((a * b).natAbs:Int)<=A * B:=by rw [Int.natAbs_mul,Int.natCast_mul];exact Int.mul_le_mul h1 h2 (Int.natCast_nonneg _) hA
 lia
def ixT (h:SqT K H a xs) (e:atI xs i=some v) (q:Q v H):rIx K (.ref a) (.int i) H Q:=.inr (.inl ⟨a,xs,i,v,rfl,rfl,h,e,q⟩)
def ixL (h:SqL K H a xs) (e:atI xs i=some v) (q:Q v H):rIx K (.ref a) (.int i) H Q:=.inl ⟨a,xs,i,v,rfl,rfl,h,e,q⟩
theorem Ac (h:SqL K H a (ns.map V.int)) (h0:0<=i) (h1:i < ns.length) (q:∀ z∈ns,Q (.int z) H):rIx K (.ref a) (.int i) H Q:=by
 have hi:i.toNat < ns.length:=by lia
 refine ixL h (Qc i.toNat "o" (v:=.int ns[i.toNat]) (by simp [hi])) (q _ (M9 hi))
def take_snoc {l:K3} {i:Nat} {r:Int} (h:l[i]? = some r):l.take (i + 1)=l.take i ++ [r]:=by rw [take_add_one,h];rfl
theorem Qw5 (r:Int):(if r < 0 then -r else r)=((r.natAbs:Nat):Int):=by split <;> lia
def int_at {i:Nat} {x:V} (hx:(ns.map V.int)[i]? = some x):∃ z,ns[i]? = some z/\x=.int z:=by
 rw [getElem?_map] at hx;cases e:ns[i]? with
 | none=>rw [e] at hx; cases hx
 | some z=>rw [e] at hx; exact ⟨z,rfl,(Q9 hx).symm⟩
theorem Vu {ys:List V} (l:ys.length=ns.length) (h:∀ (i:Nat) y,ys[i]? = some y->∃ z,ns[i]? = some z/\y=.int z):ys=ns.map V.int:=by
 refine ext_getElem? λi=>?_;rw [getElem?_map];cases q:ys[i]? with
 | none =>
  have:ns.length<=i:=by rw [<- l]; exact A1k.mp q
  rw [List.getElem?_eq_none_iff.mpr this];rfl
 | some y =>let ⟨z,h1,h2⟩:=h i y q;rw [h1,h2];rfl
theorem Qm5 (ns:K3) (lo hi:K8):∃ ms:K3,Fd (ns.map V.int) lo hi=ms.map V.int/\ms.length<=ns.length:=by
 refine ⟨(ns.drop (HT.sIx ns.length 0 lo)).take (HT.sIx ns.length ns.length hi - HT.sIx ns.length 0 lo),?_,?_⟩
 ·unfold Fd;rw [length_map,map_take,map_drop]
 ·simp;lia
def bx (d:Nat) (rows:K3):Nat:=rows.foldl (λd r=>Nat.gcd d r.natAbs) d
theorem Zi:∀ (rows:K3) (d:Nat),bx d rows ∣ d
 | [],d=>Nat.dvd_refl _
 | r :: rs,d=>Nat.dvd_trans (Zi rs (Nat.gcd d r.natAbs)) (Nat.gcd_dvd_left _ _)
theorem Uk:∀ (rows:K3) (d:Nat) (r:Int),r∈rows->bx d rows ∣ r.natAbs
 | [],_,_,h=>by cases h
 | x :: rs,d,r,h=>by
  rcases Q8.mp h with rfl | h
  ·exact Nat.dvd_trans (Zi rs (Nat.gcd d r.natAbs)) (Nat.gcd_dvd_right _ _)
  ·exact Uk rs _ r h
theorem Iy:∀ (rows:K3) (d e:Nat),e ∣ d->(∀ r∈rows,e ∣ r.natAbs)->e ∣ bx d rows
 | [],_,_,h,_=>h
 | x :: rs,d,e,h,hr=>Iy rs _ e (Nat.dvd_gcd h (hr x O9)) λr m=>hr r (Q0 _ m)
def Kc (rows:K3) (d:Nat) (h:0 < d):0 < bx d rows:=Nat.pos_of_dvd_of_pos (Zi rows d) h
theorem Tt {r:Int} {g:Nat} (h:g ∣ r.natAbs) (hg:0 < g):(r / (g:Int)).natAbs * g=r.natAbs:=by
 obtain ⟨k,hk⟩:(g:Int) ∣ r:=by rw [<- Int.natAbs_dvd_natAbs,Int.natAbs_natCast]; exact h
 have hg':(g:Int)≠0:=by lia
 rw [hk,Int.mul_ediv_cancel_left _ hg',Int.natAbs_mul,Int.natAbs_natCast,Nat.mul_comm]
theorem Ak (parts:Nat) (rows:K3) (h:0 < parts):bx (parts / bx parts rows) (rows.map λr=>r / ((bx parts rows:Nat):Int))=1:=by
 have hg:=Kc rows parts h;generalize hG:bx parts rows=g at hg;have h1:g ∣ parts:=hG ▸ Zi rows parts;have h2:∀ r∈rows,g ∣ r.natAbs:=λr m=>hG ▸ Uk rows parts r m;generalize hE:bx (parts / g) (rows.map λr=>r / (g:Int))=e;have e1:e ∣ parts / g:=hE ▸ Zi _ _;have e2:∀ r∈rows,e ∣ (r / (g:Int)).natAbs:=λr m=>hE ▸ Uk _ _ _ (O3.mpr ⟨r,m,rfl⟩);have k1:e * g ∣ parts:=by
  have:=Nat.mul_dvd_mul_right e1 g
  rwa [Nat.div_mul_cancel h1] at this
 have k2:∀ r∈rows,e * g ∣ r.natAbs:=λr m=>by
  have:=Nat.mul_dvd_mul_right (e2 r m) g
  rwa [Tt (h2 r m) hg] at this
 have k3:e * g ∣ g:=by
  have:=Iy rows parts (e * g) k1 k2
  rwa [hG] at this
 have k4:e * g<=g:=Nat.le_of_dvd hg k3;have k5:0 < e * g:=Nat.pos_of_dvd_of_pos k3 hg;have k6:e<=1:=by
  rcases Nat.lt_or_ge 1 e with q | q
  ·have:=A0n g q;lia
  ·exact q
 have k7:0 < e:=Nat.pos_of_mul_pos_left k5 |> λ_=>by
  rcases Nat.eq_zero_or_pos e with z | z
  ·rw [z] at k5; simp at k5
  ·exact z
 lia
def Qux (d:Nat) (l:K3) (r:Int):bx d (l ++ [r])=Nat.gcd (bx d l) r.natAbs:=by unfold bx;rw [foldl_append];rfl
def Qpx:Sp:=λvs H Q _ => ∃ c k:Int,vs=[.int c,.int k]/\0<=k/\k<=1000000/\∀ m:Int,0<=m->m < 2147483629->Q (.int m) H
def Ql7 (K:M7):Sp:=λvs H Q _ => ∃ (a:G5) (ns:K3) (k:Int),vs=[.ref a,.int k]/\SqL K H a (ns.map V.int)/\0<=k/\∀ z:Int,Q (.int z) H
def Qp8:Sp:=λvs H Q _ => ∃ i:Int,vs=[.int i]/\Q (.bl true) H
def Zqw:Sp:=λvs H Q _ => ∃ a b:Int,vs=[.int a,.int b]/\0 < a/\0<=b/\Q (.int ((Nat.gcd a.natAbs b.natAbs:Nat):Int)) H
theorem Fv (ns:K3):∀ k,k<=ns.length->preSum (λi=>ns.getD i 0) k=(ns.take k).sum
 | 0,_=>by simp [preSum]
 | k + 1,h=>by have hk:k < ns.length:=h;rw [preSum,Fv ns k "o",take_snoc (r:=ns[k]) (by simp [hk]),sum_append];simp [hk]
section
def Inv.moved {dz:G9} {σ:St} {s s':G4} {o:Obj} (I:Inv X dz σ H s) (m:Moved [s.heap.objs.size] (λa b=>b=a) { s with heap:=s.heap.push o } s'):Inv X dz σ H s':=by
 let ⟨h',g',d',t',os'⟩:=s';let ⟨m1,m2,m3,m4,m5⟩:=m;have e1:g'=s.gens:=m2;have e2:d'=s.drawn:=m3;have e3:os'=s.os:=m4;subst e1 e2 e3;exact I.kept (t':=t') λb u e=>m1 b u (λz=>by
  have:b=s.heap.objs.size:=by simpa using z
  exact absurd (N6 e) (by rw [this]; exact T7 _)) (N7 _ e)
def Zj5 (K:M7):List V->Hp->VK->Prop:=λxs H Q => ∃ (a:G5) (ns:K3),xs=[.ref a]/\SqL K H a (ns.map V.int)/\Q (.int ns.sum) H
theorem Xu (hK:X.K=K) (hc:X.calm=true):Up X (.builtin "sum") (Zj5 K):=by
 subst hK;intro dz s σ H xs us Q I r h;let ⟨a,ns,rfl,hq,q⟩:=h;let ⟨u,rfl,rx⟩:=Ts r;cases rx;let ⟨its,rv,pl,hz⟩:=I.list hq;have hl:=rv.length;have ha:a < s.heap.objs.size:=by let ⟨o,n,e,_⟩:=pl;exact N6 e
 have hhd:X.A.in1.handled=none:=I.ok.hd hc;refine call_sum_walkAnyS (X5 pl.isList ?_);refine ⟨s.heap.objs.size,_,_,_,its.toArray.size,_,_,λi=>ns.getD i 0,rfl,(W9 hhd s.heap.objs.size a (O7 ha) its.toArray).toS,⟨⟨_,Q5 _ rfl,rfl,rfl⟩,pl.isList.push _⟩,?_,?_,?_⟩
 ·intro b hb;rw [Heap.size_push];rcases Q8.mp hb with z | hb
  ·rw [z]; exact V0 _
  ·have z:b=a:=by simpa using hb
   rw [z]; exact V6 ha
 ·intro i v hv;have hv':its[i]? = some v:=by simpa using hv
  have hi:i < ns.length:=by have:=(N5.mp hv').1;simp at hl;lia
  let ⟨u,h1,t,h2⟩:=rv.get (i:=i) (x:=.int ns[i]) (by simp [hi]);rw [hv'] at h1;cases h1;exact ⟨t,by rw [h2]; simp [hi]⟩
 ·intro s' t' m;refine ⟨.int ns.sum,H,I.moved m,⟨t',?_⟩,q⟩;have e:its.toArray.size=ns.length:=by rw [size_toArray,<- hl]; simp
  rw [e,Fv ns _ (Nat.le_refl _),take_length]
def Zj9 (K:M7):List V->Hp->VK->Prop:=λxs H Q => ∃ (a:G5) (bs:List Bool),xs=[.ref a]/\SqL K H a (bs.map V.bl)/\Q (.bl (bs.all id)) H
def range_all (bs:List Bool):(range bs.length).all (λi=>bs.getD i false)=bs.all id:=by
 rw [Bool.eq_iff_iff,all_eq_true,all_eq_true]
 constructor
 ·intro h b hb;let ⟨i,hi,rfl⟩:=X3.mp hb;have:=h i (N8.mpr hi);simpa [hi] using this
 ·intro h i hi;have hi':=N8.mp hi;have:=h bs[i] (M9 hi');simpa [hi'] using this
theorem Gi (hK:X.K=K) (hc:X.calm=true):Up X (.builtin "all") (Zj9 K):=by
 subst hK;intro dz s σ H xs us Q I r h;let ⟨a,bs,rfl,hq,q⟩:=h;let ⟨u,rfl,rx⟩:=Ts r;cases rx;let ⟨its,rv,pl,hz⟩:=I.list hq;have hl:=rv.length;have ha:a < s.heap.objs.size:=by let ⟨o,n,e,_⟩:=pl;exact N6 e
 have hhd:X.A.in1.handled=none:=I.ok.hd hc;refine call_all_walkS (X5 pl.isList ?_);refine ⟨s.heap.objs.size,_,_,_,its.toArray.size,_,_,λi=>bs.getD i false,rfl,(W9 hhd s.heap.objs.size a (O7 ha) its.toArray).toS,⟨⟨_,Q5 _ rfl,rfl,rfl⟩,pl.isList.push _⟩,?_,?_⟩
 ·intro i v s1 Q1 E1 hv hQ;have hv':its[i]? = some v:=by simpa using hv
  have hi:i < bs.length:=by have:=(N5.mp hv').1;simp at hl;lia
  let ⟨u,h1,h2⟩:=rv.get (i:=i) (x:=.bl bs[i]) (by simp [hi]);rw [hv'] at h1;cases h1;have h2':v=Value.bool bs[i]:=h2;subst h2';refine W2 ?_;have e:bs.getD i false=bs[i]:=by simp [hi]
  rw [<- e];exact hQ
 ·intro s' m;refine ⟨.bl (bs.all id),H,I.moved m,?_,q⟩;have e:its.toArray.size=bs.length:=by rw [size_toArray,<- hl]; simp
  rw [e,range_all];rfl
def Qa8 (K:M7):V->List V->Hp->VK->Prop:=λx xs H Q => ∃ (a:G5) (ns:K3) (k:Int),x=.ref a/\xs=[.int k]/\SqL K H a (ns.map V.int)/\Q (.int ((ns.count k:Nat):Int)) H
def Gh (hK:X.K=K):MtR X "list.count" (Qa8 K):=by subst hK;intro dz s σ H x xs v us Q I rx r h;let ⟨a,ns,k,rfl,rfl,hq,q⟩:=h;cases rx;let ⟨u,rfl,t,rfl⟩:=Ts r;let ⟨its,rv,pl,hz⟩:=I.list hq;exact count_list_ints pl.isList (Qz0 rv) ⟨.int _,H,I.tok _,⟨_,rfl⟩,q⟩
end
theorem Qdj (n:Nat) (xv:Nat->V) (p:Nat->Bool) (f:Nat->V) (hn:n < sizeLine) (hD1:H1 D=none)
  (hgo:∀ i H,i < n->Qu H1 H->J.go i H) (hst:∀ H,Qu H1 H->J.stop n H) (hy:∀ i H x H',i < n->Qu H1 H->J.yld i H x H'->x=xv i/\H'=H)
  (ht:∀ i H (N:Bool->Hp->Prop),i < n->Qu H1 H->(∀ H',Qu H H'->N (p i) H')->tt (some (xv i) :: σf) H N)
  (hs:∀ i H (N:VK),i < n->p i=true->Qu H1 H->(∀ H',Qu H H'->N (f i) H')->te (some (xv i) :: σf) H N)
  (hd:∀ H,Qu H1 H->H D=some (.lst (((range n).filter p).map f))->Q (.ref D) H):Wo J D (Jb 0) tt te (none :: σf) (upd H1 D (.lst [])) Q:=by
 refine ⟨λi m ys H=>i<=n/\m=n - i/\Qu H1 H/\H D=some (.lst ys)/\ys=((range i).filter p).map f,⟨n,R7 _,rfl,Qu.upd hD1,Qk,rfl⟩,?_⟩;rintro i m ys H ⟨hi,rfl,s1,d1,rfl⟩;refine ⟨d1,?_⟩
 by_cases hlt:i < n
 ·have hle:(((range i).filter p).map f).length<=i:=by rw [length_map];exact O6 (W3 _ _) (by simp)
  refine .inr ⟨hgo i H hlt s1,"o",λy H'=>Qu H H'/\y=f i/\p i=true,λH'=>Qu H H'/\p i=false,λy H6 q=>?_,λH5 q=>?_,λx H' y=>?_⟩
  ·let ⟨s6,rfl,hp⟩:=q;refine ⟨s6 _ _ d1,n - (i + 1),"o",hlt,rfl,(s1.trans s6).updT hD1,Qk,?_⟩;rw [range_succ,filter_append,map_append];simp [hp]
  ·let ⟨s5,hp⟩:=q;refine ⟨n - (i + 1),"o",hlt,rfl,s1.trans s5,s5 _ _ d1,?_⟩;rw [range_succ,filter_append,map_append];simp [hp]
  ·let ⟨rfl,rfl⟩:=hy i H x H' hlt s1 y;refine ⟨Agree.one _ _ _ rfl,?_⟩;refine ht i H' _ hlt s1 λH5 s5=>?_;cases hp:p i with
   | true =>rw [if_pos rfl];exact hs i H5 _ hlt hp (s1.trans s5) λH6 s6=>⟨s5.trans s6,rfl,rfl⟩
   | false =>rw [if_neg Bool.false_ne_true];exact ⟨s5,rfl⟩
 ·obtain rfl:i=n:=A0y hi (W8.mp hlt);exact .inl ⟨hst H s1,hd H s1 d1⟩
def Yy (p:Nat->Bool) (f:Nat->V) (hn:n < sizeLine) (hD1:H1 D=none)
  (ht:∀ (i:Nat) H (N:Bool->Hp->Prop),i < n->Qu H1 H->(∀ H',Qu H H'->N (p i) H')->tt (some (.int (0 + (i:Int))) :: σf) H N)
  (hs:∀ (i:Nat) H (N:VK),i < n->p i=true->Qu H1 H->(∀ H',Qu H H'->N (f i) H')->te (some (.int (0 + (i:Int))) :: σf) H N)
  (hd:∀ H,Qu H1 H->H D=some (.lst (((range n).filter p).map f))->Q (.ref D) H):Wo (Itr 0 n) D (Jb 0) tt te (none :: σf) (upd H1 D (.lst [])) Q :=
 Qdj n (λi=>.int (0 + (i:Int))) p f hn hD1 (λi H hi _=>hi) (λH _=>O1 _) (λi H x H' hi s y=>⟨y.2,y.1⟩) ht hs hd
structure Kg (K:M7) (C:G5) (m qual:Str) (st:Stmt):Prop where
 ex:∃ f fd,Fun K m qual st f fd/\Qsj K C m f
def Vy {m:Str}
  (a:PySem.W.findIn K (.ref C) m=some (some (.ref f))) (n:PySem.W.isFn K (.ref f)=true) (l:K.lookup f=some ⟨oc,od,.func (PySem.W.fnOf m qual (Yx st) (Zd st) (Qp st) .none kV doc pm an cdv ct),osl⟩)
  (c:PySem.W.codeIn K cdv qual=true) (k:PySem.W.keepIn K (.ref f)=true):Kg K C m qual st:=⟨f,_,Qdq l c k,⟨a,n,k⟩⟩
structure Ox (P:G8) (w:World) (K:M7) (mg:J9) (base:Heap) (k:Nat) (C:G5) (m:Str) (ps:K9) (sp:Sp):Prop where
 ex:∃ f fd,Qsj K C m f/\Kk K fd ps []/\Cg P w K mg base CX0 k f fd ps sp
section
variable {P:G8} {base:Heap}
def Kg.mk' (S:Kg K C x qual st) (Sc:Xa N ps (Qp st)) (len:∀ vs H Q E,sp vs H Q E->vs.length=ps.length)
  (hb:∀ (kV doc pm:G3) (an:M5) (cdv ct:G3) (us:K5),us.length=ps.length->bindArgs (PySem.W.fnOf x qual (Yx st) (Zd st) (Qp st) .none kV doc pm an cdv ct) ⟨us,[]⟩=pure (ps.zip us))
  (ir:∀ (f:G5) (cdv:G3) (A:G7) (outer:List Env) (s:G4) (H:Hp) (vs:List V) (Q:VK) (E:XK),Uq k (A.deeper (envOfC qual (Qp st) s.heap.objs.size f cdv))->sp vs H Q E ->
   ∃ t,PSs (Cf CX0 P w K mg base N qual (Qp st) f cdv A outer s H E).nox (Zd st) t/\t { nx:=λ_ H'=>Q .non H',rt:=Q } (start N vs) H):Ox P w K mg base (k + 1) C x ps sp:=by
 let ⟨f,fd,F,hm⟩:=S.ex;exact ⟨f,fd,hm,F.binds hb,F.ok Sc len (ir f)⟩
end
section
variable {m:Str} {p ig:Pos} {o:Expr} {ta:TE} {t:TA}
def Te {pl:Sem Bool} (D:Ox X.prog X.w X.K X.mg X.base k C m ps sp) (c:Cls X.K C) (he:PE X o ta) (hr:Uq k X.A) (ha:PA X (e :: es) t)
  (hst:starEach (e :: es) X.env=(false,eval e X.env) :: starEach es X.env:=by rfl) (hpl:(backTo pos (starEach es X.env)).any (·.1)=false:=by rfl)
  (ht:eval (.Call (.Attribute o m ig) (e :: es) [] pos) X.env=(do
   let ov <- eval o X.env
   standAt ig.atName
   let (f,first) <- holding [ov] (getMethod ov m pl)
   callWith pos f first (backTo pos (starEach (e :: es) X.env)) (backToKw pos (keywordEach [] X.env))):=by rfl) :
  PE X (.Call (.Attribute o m ig) (e :: es) [] pos) (Bu C m sp [] E0 ta t):=by
 let ⟨f,fd,hm,hb,F⟩:=D.ex;exact Qrz (pl:=pl) he c hm F hr hb .nil Qbj ha hst hpl ht
def Qo {pl:Sem Bool} (D:Ox X.prog X.w X.K X.mg X.base k C m ps sp) (c:Cls X.K C) (he:PE X o ta) (hr:Uq k X.A)
  (ht:eval (.Call (.Attribute o m ig) [] [] pos) X.env=(do
   let ov <- eval o X.env
   standAt ig.atName
   let (f,first) <- holding [ov] (getMethod ov m pl)
   callWith pos f first (backTo pos (starEach [] X.env)) (backToKw pos (keywordEach [] X.env))):=by rfl) :
  PE X (.Call (.Attribute o m ig) [] [] pos) (Bu C m sp [] E0 ta Qo8):=by
 let ⟨f,fd,hm,hb,F⟩:=D.ex;exact Qfk (pl:=pl) he c hm F hr hb .nil Qbj ht
def Qx9 (D:Ox X.prog X.w X.K X.mg X.base k C "__init__" ps sp) (mk:PySem.W.makesIn X.K C=true) (kp:PySem.W.keepIn X.K (.ref C)=true) (hm:X.mg x=some (.ref C)) (hr:Uq (k + 1) X.A) (hg:Gl X x) (ha:PA X (e :: es) t)
  (hdb:(x == ("__debug__" : Str))=false:=by decide) (he:starEach (e :: es) X.env=(false,eval e X.env) :: starEach es X.env:=by rfl) (hpl:(backTo pos (starEach es X.env)).any (·.1)=false:=by rfl) :
  PE X (.Call (.Name x p) (e :: es) [] pos) (Qi0 C sp [] E0 t):=by
 let ⟨f,fd,M,hb,F⟩:=D.ex;exact Qrx ⟨mk,M.at_,M.fn,kp⟩ F hr hg hm hb .nil Qbj ha hdb he hpl
end
theorem Um {ys:List V} {P:Nat->G5->Prop} (h:∀ (i:Nat) y,ys[i]? = some y->∃ l,y=.ref l/\P i l):∃ ws:K6,ys=ws.map V.ref/\∀ (i:Nat) a,ws[i]? = some a->P i a:=by
 induction ys generalizing P with
 | nil=>exact ⟨[],rfl,λi a e=>by simp at e⟩
 | cons y r ih =>
  let ⟨ws,e,p⟩:=ih (P:=λi l=>P (i + 1) l) λi y' e=>h (i + 1) y' (by simpa using e);let ⟨l,e1,p1⟩:=h 0 y rfl;refine ⟨l :: ws,by rw [e1,e]; rfl,λi a e=>?_⟩;cases i with
  | zero=>simp at e; subst e; exact p1
  | succ i=>exact p i a (by simpa using e)
theorem Yw {ws:K6} {i:Nat} {x:V} (hx:(ws.map V.ref)[i]? = some x):∃ a,ws[i]? = some a/\x=.ref a:=by
 rw [getElem?_map] at hx;cases e:ws[i]? with
 | none=>rw [e] at hx; cases hx
 | some z=>rw [e] at hx; exact ⟨z,rfl,(Q9 hx).symm⟩
theorem Nm {f:Str} {fs:List (Str × V)} (h:fs.length<=n):(Wq f v fs).length<=n + 1:=by have:=Rm f v fs;lia
def Rows (H:Hp) (ws:K6) (rows:J5):Prop:=ws.length=rows.length/\∀ (i:Nat) a row,ws[i]? = some a->rows[i]? = some row->H a=some (.lst (row.map V.int))
def Mat (H:Hp) (w:G5) (rows:J5):Prop:=∃ ws:K6,H w=some (.lst (ws.map V.ref))/\Rows H ws rows
def Rows.same {ws:K6} (r:Rows H ws rows) (s:Qu H H'):Rows H' ws rows:=⟨r.1,λi a row h1 h2=>s _ _ (r.2 i a row h1 h2)⟩
def Mat.same {H H':Hp} {w:G5} {rows:J5} (m:Mat H w rows) (s:Qu H H'):Mat H' w rows:=by let ⟨ws,h,r⟩:=m;exact ⟨ws,s _ _ h,r.same s⟩
def Mat.len {w:G5} (m:Mat H w rows):∃ ws:K6,H w=some (.lst (ws.map V.ref))/\(ws.map V.ref).length=rows.length:=by let ⟨ws,h,r⟩:=m;exact ⟨ws,h,by rw [length_map]; exact r.1⟩
def Rows.at_ {ws:K6} (r:Rows H ws rows) {i:Nat} {row:K3} (h:rows[i]? = some row):∃ a,ws[i]? = some a/\(ws.map V.ref)[i]? = some (.ref a)/\H a=some (.lst (row.map V.int)):=by
 have hi:i < ws.length:=by rw [r.1]; exact (N5.mp h).1
 exact ⟨ws[i],by simp [hi],by simp [hi],r.2 i _ row (by simp [hi]) h⟩
def Fn (b w:G5) (r:Int):List (Str × V):=Wq "rent" (.int r) (Wq "worths" (.ref w) (Wq "beds" (.ref b) []))
def hs1:¬ (("beds" : Str)="rent"):=by decide +kernel
def hs2:¬ (("beds" : Str)="worths"):=by decide +kernel
def hs3:¬ (("worths" : Str)="rent"):=by decide +kernel
def Sv (b w:G5) (r:Int):(Fn b w r).lookup ("beds" : Str)=some (.ref b):=by unfold Fn;rw [Qs,if_neg hs1,Qs,if_neg hs2,Qs,if_pos rfl]
def Jx (b w:G5) (r:Int):(Fn b w r).lookup ("worths" : Str)=some (.ref w):=by unfold Fn;rw [Qs,if_neg hs3,Qs,if_pos rfl]
def Qn1 (b w:G5) (r:Int):(Fn b w r).lookup ("rent" : Str)=some (.int r):=by unfold Fn;rw [Qs,if_pos rfl]
def Zz7 (b w:G5) (r:Int) {m:Str} (h1:¬ m="rent") (h2:¬ m="worths") (h3:¬ m="beds"):(Fn b w r).lookup m=none:=by unfold Fn;rw [Qs,if_neg h1,Qs,if_neg h2,Qs,if_neg h3];rfl
structure Zxv (K:M7) (mg:J9) (C:G5):Prop where
 mgC:mg "House" = some (.ref C)
 cl:Cls K C
 mks:PySem.W.makesIn K C=true
 kp:PySem.W.keepIn K (.ref C)=true
 nB:Jr K C "beds"
 nW:Jr K C "worths"
 nR:Jr K C "rent"
structure Zj (C:G5) (H:Hp) (p:G5) (ak:K3) (aj:J5) (ao:Int):Prop where
 ex:∃ dx b w,H p=some (.ins C dx (Fn b w ao))/\H b=some (.lst (ak.map V.int))/\Mat H w aj
def Zj.same {C:G5} {H H':Hp} {p:G5} {ak:K3} {aj:J5} {ao:Int} (h:Zj C H p ak aj ao) (s:Qu H H'):Zj C H' p ak aj ao:=by let ⟨dx,b,w,h1,h2,h3⟩:=h.ex;exact ⟨dx,b,w,s _ _ h1,s _ _ h2,h3.same s⟩
structure Sb (ak:K3) (aj:J5) (ao:Int) (mp mr:Int):Prop where
 b1:1<=ak.length
 b2:(ak.length:Int)<=mr
 b3:∀ b∈ak,1<=b/\b<=4
 w1:1<=aj.length
 w2:(aj.length:Int)<=mp
 w3:(aj.length:Int)<=ak.sum
 w4:∀ row∈aj,row.length=ak.length
 w5:∀ row∈aj,∀ x∈row,-(10 ^ 40) < x/\x < 10 ^ 40
 r:-(10 ^ 40) < ao/\ao < 10 ^ 40
def Ql6 (C:G5):Sp:=λvs H Q _ => ∃ (p dx b w:G5) (ak:K3) (aj:J5) (ao:Int),vs=[.ref p,.ref b,.ref w,.int ao]/\H p=some (.ins C dx [])/\H b=some (.lst (ak.map V.int))/\Mat H w aj /\
 ak.length<=1000/\aj.length<=1000/\(aj.length:Int)<=ak.sum/\∀ H',Zj C H' p ak aj ao->(∀ c o,H c=some o->c≠p->H' c=some o)->Q .non H'
def Qk2 (C:G5):Sp:=λvs H Q _ => ∃ (p:G5) (ak:K3) (aj:J5) (ao:Int),vs=[.ref p]/\Zj C H p ak aj ao/\Q (.int aj.length) H
def Qpz (C:G5):Sp:=λvs H Q _ => ∃ (p:G5) (ak:K3) (aj:J5) (ao:Int),vs=[.ref p]/\Zj C H p ak aj ao/\Q (.int ak.length) H
def Ql8:Sp:=λvs H Q _ => ∃ f m:Int,vs=[.int f,.int m]/\0<=m/\m<=10/\∀ (l:G5) (bs:K3) (H':Hp),New H l (.lst (bs.map V.int)) H'->(bs.length:Int)=m->(∀ b∈bs,1<=b/\b<=4)->Q (.ref l) H'
def Qwk (K:M7):Sp:=λvs H Q _ => ∃ (a:G5) (ns:K3) (f p r:Int),vs=[.ref a,.int f,.int p,.int r]/\SqL K H a (ns.map V.int)/\ns.length<=63/\1<=p/\p<=10/\1<=r/\r<=10 /\
 ∀ (w:G5) (rows:J5) (H':Hp),Qu H H'->Mat H' w rows->(rows.length:Int)=p->(∀ row∈rows,(row.length:Int)=r)->(∀ row∈rows,∀ x∈row,-(10 ^ 40) < x/\x < 10 ^ 40)->Q (.ref w) H'
def Qf1 (K:M7):Sp:=λvs H Q _ => ∃ (a:G5) (ns:K3) (mp mr:Int),vs=[.ref a,.int mp,.int mr]/\SqL K H a (ns.map V.int)/\ns.length<=63/\1<=mp/\mp<=10/\1<=mr/\mr<=10 /\
 ∀ (t b w:G5) (ak:K3) (aj:J5) (ao:Int) (H':Hp),Qu H H'->H' t=some (.tup [.ref b,.ref w,.int ao])->H' b=some (.lst (ak.map V.int))->Mat H' w aj->Sb ak aj ao mp mr->Q (.ref t) H'
def Pn (n:Nat) (way:K3):K3:=(range n).map λ(r:Nat)=>((way.count (r:Int):Nat):Int)
def Yu (ak way:K3):K3:=((range ak.length).filter λ(r:Nat)=>decide (((way.count (r:Int):Nat):Int) < ak.getD r 0)).map λ(r:Nat)=>(r:Int)
def Qxj (aj:J5) (way:K3):Int:=((range aj.length).map λi=>(aj.getD i []).getD (way.getD i 0).toNat 0).sum
def Qpj (K:M7) (C:G5):Sp:=λvs H Q _ => ∃ (p a:G5) (ak:K3) (aj:J5) (ao:Int) (way:K3),vs=[.ref p,.ref a]/\Zj C H p ak aj ao/\ak.length<=1000/\SqL K H a (way.map V.int) /\
 ∀ l H',New H l (.lst ((Pn ak.length way).map V.int)) H'->Q (.ref l) H'
def Ql5 (K:M7) (C:G5):Sp:=λvs H Q _ => ∃ (p a:G5) (ak:K3) (aj:J5) (ao:Int) (way:K3),vs=[.ref p,.ref a]/\Zj C H p ak aj ao/\ak.length<=1000/\SqL K H a (way.map V.int) /\
 ∀ l H',New H l (.lst ((Yu ak way).map V.int)) H'->Q (.ref l) H'
def Od (K:M7) (C:G5):Sp:=λvs H Q _ => ∃ (p a:G5) (ak:K3) (aj:J5) (ao:Int) (way:K3),vs=[.ref p,.ref a]/\Zj C H p ak aj ao/\aj.length<=1000/\SqL K H a (way.map V.int) /\
 way.length=aj.length/\(∀ row∈aj,∀ r∈way,0<=r/\r < (row.length:Int))/\∀ H',Qu H H'->Q (.int (Qxj aj way)) H'
def Ay (ns:K3) {a b:Nat} (h1:a<=b) (h2:b<=ns.length):Fd (ns.map V.int) (some (a:Int)) (some (b:Int))=((ns.drop a).take (b - a)).map V.int:=by unfold Fd;rw [length_map,HT.sIx_nat,HT.sIx_nat,Nat.min_eq_left (Nat.le_trans h1 h2),Nat.min_eq_left h2,map_take,map_drop]
def Ke (ns:K3) (f:Int->Int) (hS:SqL K H1 a (ns.map V.int)) (hz:ns.length < sizeLine) (hD1:H1 D=none)
  (hs:∀ z∈ns,∀ H (N:VK),Qu H1 H->N (.int (f z)) H->te (some (.int z) :: σf) H N) (hd:∀ H,Qu H1 H->H D=some (.lst ((ns.map f).map V.int))->Q (.ref D) H):Wo (Itl K a) D (Jb 0) Qx0 te (none :: σf) (upd H1 D (.lst [])) Q:=by
 refine Xy (λi y _ => ∃ z,ns[i]? = some z/\y=.int (f z)) hS (by simpa using hz) hD1 (λ_ _ _ _ _ h=>h) ?_ ?_
 ·rintro i x H ys N hx s d hN;let ⟨z,h1,rfl⟩:=int_at hx;exact hs z (R9 h1) H N s (hN _ _ (Qu.refl _) ⟨z,h1,rfl⟩)
 ·rintro ys H s d l r;have e:ys=(ns.map f).map V.int:=Vu (by simpa using l) λi y e=>by let ⟨z,h1,h2⟩:=r i y e;exact ⟨_,by rw [getElem?_map,h1]; rfl,h2⟩
  rw [e] at d;exact hd H s d
theorem Rows.snoc {H H':Hp} {ws:K6} {rows:J5} {c:G5} {row:K3} (r:Rows H ws rows) (k:∀ a∈ws,∀ o,H a=some o->H' a=some o) (hc:H' c=some (.lst (row.map V.int))):Rows H' (ws ++ [c]) (rows ++ [row]):=by
 refine ⟨by simp [r.1],λi a rw' h1 h2=>?_⟩
 by_cases hi:i < ws.length
 ·rw [getElem?_append_left hi] at h1;rw [getElem?_append_left (by rw [<- r.1]; exact hi)] at h2;exact k a (R9 h1) _ (r.2 i a rw' h1 h2)
 ·have hi2:i=ws.length:=by have:=(N5.mp h1).1;simp at this;lia
  subst hi2;simp at h1;rw [r.1] at h2;simp at h2;subst h1 h2;exact hc
theorem Qa3 {bs:K3} (h:∀ b∈bs,1<=b):(bs.length:Int)<=bs.sum:=by
 induction bs with
 | nil=>simp
 | cons b r ih =>have h1:=h b O9;have h2:=ih λx hx=>h x (Q0 _ hx);simp;lia
theorem Qa2 {bs:K3} {m:Int} (h:∀ b∈bs,b<=m):bs.sum<=m * bs.length:=by
 induction bs with
 | nil=>simp
 | cons b r ih =>
  have h1:=h b O9;have h2:=ih λx hx=>h x (Q0 _ hx);have e:m * (((b :: r).length:Nat):Int)=m * (r.length:Int) + m:=by rw [length_cons,Int.natCast_add,Int.mul_add];simp
  rw [e];simp;lia
theorem Kr (ns:K3) (f:Int->V) (hS:SqL K H1 a (ns.map V.int)) (hz:ns.length < sizeLine) (hD1:H1 D=none)
  (hs:∀ z∈ns,∀ H (N:VK),Qu H1 H->(∀ H',Qu H H'->N (f z) H')->te (some (.int z) :: σf) H N) (hd:∀ H,Qu H1 H->H D=some (.lst (ns.map f))->Q (.ref D) H):Wo (Itl K a) D (Jb 0) Qx0 te (none :: σf) (upd H1 D (.lst [])) Q:=by
 refine Xy (λi y _ => ∃ z,ns[i]? = some z/\y=f z) hS (by simpa using hz) hD1 (λ_ _ _ _ _ h=>h) ?_ ?_
 ·rintro i x H ys N hx s d hN;let ⟨z,h1,rfl⟩:=int_at hx;exact hs z (R9 h1) H N s λH' s'=>hN _ _ s' ⟨z,h1,rfl⟩
 ·rintro ys H s d l r;have e:ys=ns.map f:=by
   refine ext_getElem? λi=>?_;rw [getElem?_map];cases q:ys[i]? with
   | none =>
    have:ns.length<=i:=by have:=A1k.mp q;simp at l;lia
    rw [List.getElem?_eq_none_iff.mpr this];rfl
   | some y =>let ⟨z,h1,h2⟩:=r i y q;rw [h1,h2];rfl
  rw [e] at d;exact hd H s d
theorem Zl (f:Nat->V) (hz:n < sizeLine) (hD1:H1 D=none)
  (hs:∀ (i:Nat),i < n->∀ H (N:VK),Qu H1 H->(∀ H',Qu H H'->N (f i) H')->te (some (.int (0 + (i:Int))) :: σf) H N) (hd:∀ H,Qu H1 H->H D=some (.lst ((range n).map f))->Q (.ref D) H):Wo (Itr 0 n) D (Jb 0) Qx0 te (none :: σf) (upd H1 D (.lst [])) Q:=by
 refine Yk (λi y _=>y=f i) hz hD1 (λ_ _ _ _ _ h=>h) ?_ ?_
 ·rintro i H ys N hi s d hN;exact hs i hi H N s λH' s'=>hN _ _ s' rfl
 ·rintro ys H s d l r;have e:ys=(range n).map f:=by
   refine ext_getElem? λi=>?_;rw [getElem?_map];cases q:ys[i]? with
   | none =>have:=A1k.mp q;rw [List.getElem?_eq_none_iff.mpr (by simp; lia)];rfl
   | some y =>have hi:=(N5.mp q).1;rw [r i y q,getElem?_range "o"];rfl
  rw [e] at d;exact hd H s d
def Ro (ak:K3) (n:Nat) (row:K3):Bool:=decide (row.length=n) && row.all (λr=>decide (0<=r/\r < (ak.length:Int))) && (range ak.length).all (λr=>decide (((row.count (r:Int):Nat):Int)<=ak.getD r 0))
def Qf0 (K:M7) (C:G5):Sp:=λvs H Q _ => ∃ (p a:G5) (ak:K3) (aj:J5) (ao:Int) (row:K3),vs=[.ref p,.ref a]/\Zj C H p ak aj ao/\ak.length<=1000/\row.length<=1000/\SqL K H a (row.map V.int) /\
 ∀ H',Qu H H'->Q (.bl (Ro ak aj.length row)) H'
def Xj (X:Cx) (y:Str) (scope:Scope) (C:G5) (s0:G4) (H0:Hp) (fp:K6) (Nc:K9):Cx where
 prog:=X.prog
 w:=X.w
 K:=X.K
 mg:=X.mg
 base:=X.base
 A:=X.A
 N:=Nc
 s₀:=s0
 H₀:=H0
 env:=compEnvC scope ((y,C + 1) :: Ri X.env.cells scope.names []) C X.env
 outer:=X.stack
 stack:=X.stack
 ex:=fp
 fn:=λx=>decide (x=y)
 calm:=true
 pn:=[]
 xe:=λ_ _=>False
def Jk (y:Str) (sc out:Scope):Bool :=
 (match sc.kind with | .function=>true | _=>false) && decide (sc.names.filter (λp=>p.2 == .cell)=[(y,.cell)]) && (match sc.names.lookup y with | some .cell=>true | _=>false) && sc.names.all λp=>match p.2 with
  | .cell=>true
  | .free=>(match out.names.lookup p.1 with | some .cell=>true | some .free=>true | _=>false)
  | .local=>(match sc.names.lookup p.1 with | some .local=>true | _=>false)
  | _=>true
section
variable {y:Str}
theorem Xi (ok:Jk y scope X.env.scope=true):scope.kind=.function/\scope.names.filter (λp=>p.2 == .cell)=[(y,.cell)]/\scope.names.lookup y=some .cell/\(∀ p∈scope.names,(match p.2 with
  | .cell=>true
  | .free=>(match X.env.scope.names.lookup p.1 with | some .cell=>true | some .free=>true | _=>false)
  | .local=>(match scope.names.lookup p.1 with | some .local=>true | _=>false)
  | _=>true)=true):=by
 let ⟨h1,h2⟩:=U5.mp ok;let ⟨h1,h3⟩:=U5.mp h1;let ⟨h1,h4⟩:=U5.mp h1;refine ⟨?_,Q7 h4,?_,all_eq_true.mp h2⟩
 ·cases e:scope.kind <;> rw [e] at h1 <;> first | rfl | cases h1
 ·cases e:scope.names.lookup y with
  | none=>rw [e] at h3; cases h3
  | some k=>rw [e] at h3; cases k <;> first | rfl | cases h3
def Kq (ok:Jk y scope X.env.scope=true):scope.kind=.function:=(Xi ok).1
theorem Mo (ok:Jk y scope X.env.scope=true):∀ p∈scope.names,p.2=.local->scope.names.lookup p.1=some .local:=λp hp e=>by
 have h:=(Xi ok).2.2.2 p hp;rw [e] at h;dsimp only at h;cases q:scope.names.lookup p.1 with
 | none=>rw [q] at h; cases h
 | some k=>rw [q] at h; cases k <;> first | rfl | cases h
theorem Kz (ok:Jk y scope X.env.scope=true):∀ p∈scope.names,p.2=.free->X.env.kindOf p.1=some .cell\/X.env.kindOf p.1=some .free:=λp hp e=>by
 have h:=(Xi ok).2.2.2 p hp;rw [e] at h;dsimp only at h;show X.env.scope.names.lookup p.1=_\/X.env.scope.names.lookup p.1=_;cases q:X.env.scope.names.lookup p.1 with
 | none=>rw [q] at h; cases h
 | some k=>rw [q] at h; cases k <;> first | exact .inl rfl | exact .inr rfl | cases h
def He (ok:Jk y scope X.env.scope=true):∀ p∈scope.names,p.2=.cell->p.1=y:=λp hp e=>by
 have h:p∈scope.names.filter (λp=>p.2 == .cell):=T3.mpr ⟨hp,by rw [e]; rfl⟩;rw [(Xi ok).2.1] at h;have:p=(y,.cell):=by simpa using h
 rw [this]
variable {dz:G9} {σ:St} {s:G4}
def Fy (I:Inv X dz σ H s) (ok:Jk y scope X.env.scope=true):∀ p∈scope.names,p.2=.free->∃ c,X.env.cells.lookup p.1=some c:=λp hp e=>I.ok.has p.1 (Kz ok p hp e)
def Ib (I:Inv X dz σ H s) (ok:Jk y scope X.env.scope=true) (h:(Ri X.env.cells scope.names []).lookup x=some c):X.env.cells.lookup x=some c:=by
 rcases Kt _ _ (Fy I ok) h with q | q
 ·simp at q
 ·exact q
theorem Jm (I:Inv X dz σ H s) (ok:Jk y scope X.env.scope=true) {n:G5} (h:((y,n) :: Ri X.env.cells scope.names []).lookup x=some c):(x=y/\c=n)\/(x≠y/\X.env.cells.lookup x=some c):=by
 rw [lookup_cons] at h;cases e:(x == y) with
 | true =>rw [e] at h;exact .inl ⟨by simpa using e,(Q9 h).symm⟩
 | false =>rw [e] at h;exact .inr ⟨by simpa using e,Ib I ok h⟩
theorem Vr {env:Env}:∀ {names:List (Str × NameKind)} {x:Str} {k':NameKind},
  (names.map λ(n,k)=>if (k == NameKind.free && env.scope.kind == .function && env.kindOf n == some .cell) then (n,NameKind.cell) else (n,k)).lookup x=some k'->(k'=.cell\/k'=.free)->(x,NameKind.free)∈names\/(x,NameKind.cell)∈names
 | [],_,_,h,_=>by simp at h
 | (n,k) :: r,x,k',h,hk=>by
  have ih:=@Vr env r x k';replace h:List.lookup x ((if (k == NameKind.free && env.scope.kind == .function && env.kindOf n == some .cell)=true then (n,NameKind.cell) else (n,k)) :: (r.map λ(n,k)=>if (k == NameKind.free && env.scope.kind == .function && env.kindOf n == some .cell) then (n,NameKind.cell) else (n,k)))=some k':=h;have fin:∀ {q:(x,NameKind.free)∈r\/(x,NameKind.cell)∈r},(x,NameKind.free)∈(n,k) :: r\/(x,NameKind.cell)∈(n,k) :: r:=λ{q}=>by
   rcases q with q | q
   ·exact .inl (Q0 _ q)
   ·exact .inr (Q0 _ q)
  by_cases hc:(k == NameKind.free && env.scope.kind == .function && env.kindOf n == some .cell)=true
  ·rw [if_pos hc] at h;have hkf:k=.free:=by have:=(U5.mp (U5.mp hc).1).1;simpa using this
   cases hx:x == n with
   | true =>
    have:x=n:=by simpa using hx
    subst this;rw [hkf];exact .inl O9
   | false =>simp only [lookup_cons,hx] at h;exact fin (q:=ih h hk)
  ·rw [if_neg hc] at h;cases hx:x == n with
   | true =>
    have:x=n:=by simpa using hx
    subst this;simp only [lookup_cons,hx] at h;cases h;rcases hk with z | z
    ·rw [z];exact .inr O9
    ·rw [z];exact .inl O9
   | false =>simp only [lookup_cons,hx] at h;exact fin (q:=ih h hk)
theorem Nx:∀ {names:List (Str × NameKind)},names.filter (λp=>p.2 == .cell)=[]->∀ (n:Nat) (acc:List (Str × G5)) (h:Heap),cellsFrom n names acc=acc/\pushCells h names=h
 | [],_,_,_,_=>⟨rfl,rfl⟩
 | (x,k) :: r,e,n,acc,h=>by
  rw [filter_cons] at e;cases hk:(k == NameKind.cell) with
  | true=>rw [hk] at e; simp at e
  | false =>rw [hk] at e;have:=Nx (names:=r) (by simpa using e) n acc h;unfold cellsFrom pushCells;rw [hk];simpa using this
theorem Ld:∀ {names:List (Str × NameKind)} {y:Str},names.filter (λp=>p.2 == .cell)=[(y,.cell)]->∀ (n:Nat) (acc:List (Str × G5)) (h:Heap),cellsFrom n names acc=(y,n) :: acc/\pushCells h names=h.push { cls:=.type "cell",data:=.cell none }
 | [],_,e,_,_,_=>by simp at e
 | (x,k) :: r,y,e,n,acc,h=>by
  rw [filter_cons] at e;cases hk:(k == NameKind.cell) with
  | true =>rw [hk] at e;simp only [if_true,List.cons.injEq,Prod.mk.injEq] at e;let ⟨⟨e1,e2⟩,e3⟩:=e;subst e1;have:=Nx e3 (n + 1) ((x,n) :: acc) (h.push { cls:=.type "cell",data:=.cell none });unfold cellsFrom pushCells;rw [hk];simpa using this
  | false =>rw [hk] at e;have:=Ld (names:=r) (y:=y) (by simpa using e) n acc h;unfold cellsFrom pushCells;rw [hk];simpa using this
def Qt4 {cl:List (Str × G5)} {M:Model} {A:G7} {Q:Env->G4->Prop} (ok:Jk y scope X.env.scope=true)
  (h:Q ⟨scope,s.heap.objs.size,X.env.globals,(y,s.heap.objs.size + 1) :: cl,X.env.qual,none,X.env.code,X.env.frame,X.env.builtins⟩ { s with heap:=(s.heap.push { cls:=.type "dict",data:=.dict #[] }).push { cls:=.type "cell",data:=.cell none } }) :
  wpAny M A (newFunctionEnv scope X.env.globals cl [] X.env.qual none .none (some X.env)) Q E s:=by
 simp only [newFunctionEnv,Option.isSome_some,if_true];refine M6 (wpAny_alloc ?_);refine M6 (wpAny_layCells _ (λname kind cells=>by cases hkc:kind == NameKind.cell <;> simp [hkc]) _ _ _ _ ?_);let ⟨e1,e2⟩:=Ld (Xi ok).2.1 (s.heap.push { cls:=.type "dict",data:=.dict #[] }).objs.size cl (s.heap.push { cls:=.type "dict",data:=.dict #[] });rw [show ({ s with heap:=s.heap.push { cls:=.type "dict",data:=.dict #[] } }:G4).heap=s.heap.push { cls:=.type "dict",data:=.dict #[] } from rfl,e1,e2,Heap.size_push];simp only [forIn_nil];exact M6 (M8 (M8 h))
end
section
variable {tg iter elt:Expr} {ifs:M4} {dz:G9} {σ:St} {s:G4}
theorem Qg6 {y:Str} {m:J9} (I:Inv X dz σ H s) (hc:X.calm=true) (ok:Jk y scope X.env.scope=true) (hix:Kv scope X.N Nc ix=true)
  (hfp:∀ b∈fp,Tn X dz H b/\b < s.heap.objs.size) (hC:C=s.heap.objs.size) (hns:h1.Ns C m) (hcl:h1.get? (C + 1)=some { cls:=.type "cell",data:=.cell none }) (hk:∀ b o,s.heap.get? b=some o->h1.get? b=some o) :
  Inv (Xj X y scope C s H fp Nc) [] (cSt σ ix) H { s with heap:=h1,toks:=tk }:=by
 have lt:∀ b o,s.heap.get? b=some o->b < C:=λb o e=>by rw [hC]; exact N6 e
 have oldc:∀ x c,X.env.cells.lookup x=some c->c < C:=λx c e=>by let ⟨v,o,ho,hd⟩:=I.cell x c e;exact lt c o ho
 have nfs:∀ b∈fp,b ∉ frs X.stack:=λb hb z=>by
  let ⟨f1,f2,f3,_⟩:=(hfp b hb).1;rcases Q8.mp (I.stkSub b z) with q | q
  ·exact f2 q
  ·exact f3 q
 refine ⟨⟨I.ok.mod,(Kq (X:=X) (scope:=scope) ok),I.ok.glob,I.ok.blt,A0k hC.symm,λx z c e1 e2=>?_,λx hx=>?_,λx c hf e=>?_,λ_=>I.ok.hd hc,I.ok.frames,.inl rfl,λb hb=>⟨?_,λx c e=>?_⟩,I.bs,O6 I.ok.bsz I.sz,λb o e hb=>?_,nfs,I.stack,I.stkFree⟩,
  rfl,I.bare,Un.kept hk,⟨m,hns,λi x v e1 e2 e3=>?_⟩,λx c e=>?_,?_,λx c e=>?_,(λp hp=>by cases hp),I.hok.kept hk,?_⟩
 ·-- inj
  rcases Jm I ok e1 with ⟨h1,h2⟩ | ⟨h1,h2⟩ <;> rcases Jm I ok e2 with ⟨h3,h4⟩ | ⟨h3,h4⟩
  ·rw [h1,h3]
  ·have:=oldc _ _ h4;rw [h2] at this;exact absurd this (W8.mpr (V5 _))
  ·have:=oldc _ _ h2;rw [h4] at this;exact absurd this (W8.mpr (V5 _))
  ·exact I.ok.inj x z c h2 h4
 ·-- has
  have g8:(x,NameKind.free)∈scope.names\/(x,NameKind.cell)∈scope.names:=by
   rcases hx with hx | hx
   ·exact Vr (env:=X.env) hx (.inl rfl)
   ·exact Vr (env:=X.env) hx (.inr rfl)
  show ∃ c,List.lookup x ((y,C + 1) :: Ri X.env.cells scope.names [])=some c;rw [lookup_cons];cases e:(x == y) with
  | true=>exact ⟨_,rfl⟩
  | false =>
   rcases g8 with hm | hm
   ·have q:=Uv (cells:=X.env.cells) scope.names [] (x:=x) (.inl hm);exact Z6.mp q
   ·have:=He ok _ hm rfl;rw [show x=y from this] at e;simp at e
 ·-- cab
  have hxy:x=y:=Q7 hf;rcases Jm I ok e with ⟨_,h2⟩ | ⟨h1,_⟩
  ·rw [h2,hC]; exact V5 _
  ·exact absurd hxy h1
 ·rw [show (Xj X y scope C s H fp Nc).env.locals=C from rfl,hC];exact O7 (hfp b hb).2
 ·rcases Jm I ok e with ⟨_,h2⟩ | ⟨_,h2⟩
  ·rw [h2,hC];exact Z4 (V6 (hfp b hb).2)
  ·exact (hfp b hb).1.2.2.2.2.1 x c h2
 ·let ⟨_,_,_,f4,_⟩:=(hfp b hb).1;rcases f4 with z | z
  ·exact I.ok.noex b o e z
  ·exact absurd (S9 (N6 e) (O6 I.ok.bsz z)) (T7 _)
 ·let ⟨j,n1,n2,n3⟩:=Gq hix e1 e2;have g8:(x,NameKind.free)∈scope.names:=mem_of_lookup n3;have j8:=Kz ok (x,.free) g8 rfl;have hxy:x≠y:=λz=>by rw [z,(Xi ok).2.2.1] at n3;cases n3
  let ⟨mX,_,hl⟩:=I.loc;have m8:Vis X.env.scope x:=.inr j8;let ⟨u,r,l⟩:=hl j x v n1 n2 m8;refine ⟨u,r,?_⟩;rcases l with ⟨k1,_⟩ | ⟨_,c,e,z⟩
  ·rcases j8 with q | q
   ·rw [q] at k1; cases k1
   ·rw [q] at k1; cases k1
  ·refine .inr ⟨Wp n3,c,?_,?_⟩
   ·have q:=Uv (cells:=X.env.cells) scope.names [] (x:=x) (.inl g8);let ⟨c',hc'⟩:=Z6.mp q;have:=Ib I ok hc';rw [e] at this;cases this;show List.lookup x ((y,C + 1) :: Ri X.env.cells scope.names [])=some c;rw [lookup_cons,show (x == y)=false from by simpa using hxy];exact hc'
   ·let ⟨o,ho,hd⟩:=z;exact ⟨o,hk c o ho,hd⟩
 ·rcases Jm I ok e with ⟨_,h2⟩ | ⟨_,h2⟩
  ·rw [h2];exact ⟨none,_,hcl,rfl⟩
  ·let ⟨v,o,ho,hd⟩:=I.cell x c h2;exact ⟨v,o,hk c o ho,hd⟩
 ·rw [show (Xj X y scope C s H fp Nc).env.locals=C from rfl,hC];exact I.hok.fresh (O1 _)
 ·rcases Jm I ok e with ⟨_,h2⟩ | ⟨_,h2⟩
  ·rw [h2,hC];exact I.hok.fresh (V5 _)
  ·exact I.c7 x c h2
 ·rw [Ko,Tg hix];rfl
theorem Qg5 {yc:Str} {tn:Nat->Heap->Prop}
  (I:Inv X dz σ H s) (hc:X.calm=true) (ok:Jk yc scope X.env.scope=true) (hix:Kv scope X.N Nc ix=true)
  (hg:∀ C s0 H0 fp,PG (Xj X yc scope C s0 H0 fp Nc) tg g) (ht:∀ C s0 H0 fp,Qc4 (Xj X yc scope C s0 H0 fp Nc) ifs tt) (he:∀ C s0 H0 fp,PE (Xj X yc scope C s0 H0 fp Nc) elt te)
  (T:Qmk X.prog X.w X.K tg J fp it tn) (t0:tn 0 s.heap) (f0:∀ b∈fp,Tn X dz H b)
  (h:∀ D,H D=none->Wo J D g tt te (cSt σ ix) (upd H D (.lst [])) Q)
  (hRR:∀ D C s' H' m,Inv X dz σ H' s'->s'.heap.Ns C m->H' C=none->X.s₀.heap.objs.size<=C->C≠X.env.locals->(∀ x c,X.env.cells.lookup x=some c->c≠C)->(∀ p∈X.pn ++ dz,p.1≠C)->Q (.ref D) H'->RR (.ref D) C (.ok .next) s') :
  wpAny (model X.prog X.w) X.A (newList []) (λacc s3=>wpAny (model X.prog X.w) X.A (newFunctionEnv scope X.env.globals (Ri X.env.cells scope.names []) [] X.env.qual none .none (some X.env)) (λcenv s4 =>
   codeAny (model X.prog X.w) X.A (.compStart (.ListComp elt [⟨tg,iter,ifs,0⟩] scope pos) 0 (.ref it) acc { cenv with scope:=relabel scope X.env }) (RR acc cenv.locals) s4) E s3) E s:=by
 have hD:H s.heap.objs.size=none:=I.fresh;let ⟨W,⟨m0,w0⟩,turn⟩:=h _ hD;refine A0a ?_;have I0:=I.lnew (its:=[]) (ys:=[]) (t':=s.toks) .nil (R7 _);have m9:∀ b o,s.heap.get? b=some o->(s.heap.push { cls:=.type "list",data:=.seq ([]:K5).toArray }).get? b=some o:=λb o e=>N7 _ e;have f0':∀ b∈fp,Tn X dz (upd H s.heap.objs.size (.lst [])) b/\b < (s.heap.push { cls:=.type "list",data:=.seq ([]:K5).toArray }).objs.size:=λb hb=>by let ⟨o,ho,_⟩:=T.obj _ _ t0 b hb;have hlt:=N6 ho;refine ⟨⟨?_,(f0 b hb).2⟩,N6 (m9 b o ho)⟩;rw [Qv (Nat.ne_of_lt hlt)];exact (f0 b hb).1
 have t0':tn 0 (s.heap.push { cls:=.type "list",data:=.seq ([]:K5).toArray }):=T.keep _ _ _ t0 λb hb o e=>m9 b o e;clear f0 t0 I;generalize hs0:({ s with heap:=s.heap.push { cls:=.type "list",data:=.seq ([]:K5).toArray },toks:=s.toks }:G4)=s0 at I0;have es0:s0.heap=s.heap.push { cls:=.type "list",data:=.seq ([]:K5).toArray }:=by rw [<- hs0]
 rw [<- es0] at f0' t0';generalize s.heap.objs.size=D at *;generalize upd H D (.lst [])=H0 at *;refine Qt4 ok ?_;generalize hCe:s0.heap.objs.size=C;generalize hh1:(s0.heap.push { cls:=.type "dict",data:=.dict #[] }).push { cls:=.type "cell",data:=.cell none }=h1;have hns1:h1.Ns C (λ_=>none):=by rw [<- hh1,<- hCe];exact (Heap.Ns.new s0.heap (.type "dict")).keeps λb o e=>N7 _ e
 have hk1:∀ b o,s0.heap.get? b=some o->h1.get? b=some o:=λb o e=>by rw [<- hh1];exact N7 _ (N7 _ e)
 have hcl1:h1.get? (C + 1)=some { cls:=.type "cell",data:=.cell none }:=by
  rw [<- hh1,<- hCe];have:=Q5 (s0.heap.push { cls:=.type "dict",data:=.dict #[] }) (o:={ cls:=.type "cell",data:=.cell none }) rfl
  rwa [Heap.size_push] at this
 have IC:=Qg6 (y:=yc) (C:=C) (fp:=fp) (Nc:=Nc) (ix:=ix) (h1:=h1) (tk:=s0.toks) I0 hc ok hix f0' hCe.symm hns1 hcl1 hk1;have t1:tn 0 h1:=T.keep _ _ _ t0' λb hb o e=>hk1 b o e;have fpx:∀ {H':Hp} {pl:G9},(∀ p∈pl,p.1 ∉ fp)->(∀ b∈fp,H' b=none)->∀ b∈fp,Tn (Xj X yc scope C s0 H0 fp Nc) pl H' b:=λ{H' pl} hpl hn b hb =>⟨hn b hb,(IC.ok.exf b hb).1,IC.ok.exfs b hb,.inl hb,(IC.ok.exf b hb).2,λp hp e=>hpl p (by simpa [Xj] using hp) (e ▸ hb)⟩
 have mj:∀ s1:G4,s1={ s0 with heap:=h1,toks:=s0.toks } ->
   codeAny (model X.prog X.w) X.A (.compLoop (.ListComp elt [⟨tg,iter,ifs,0⟩] scope pos) 0 (.ref it) (.ref D) (Xj X yc scope C s0 H0 fp Nc).env) (RR (.ref D) C) s1:=by
  rintro s1 rfl;refine Kx (λn s' => ∃ i ys H',Inv (Xj X yc scope C s0 H0 fp Nc) [] (cSt σ ix) H' s'/\tn i s'.heap/\(∀ b∈fp,H' b=none)/\W i n ys H') ?_ m0 ⟨0,[],_,IC,t1,λb hb=>(f0' b hb).1.1,w0⟩;rintro n s3 ⟨i,ys,H3,I3,st3,fr3,w3⟩;let ⟨hD3,alt⟩:=turn i n ys H3 w3;rcases alt with ⟨stop,qn⟩ | ⟨go,fu,N,N',hN,hN',step⟩
  ·refine thn (T.done (Xj X yc scope C s0 H0 fp Nc) rfl rfl rfl rfl i [] s3 _ H3 (λ_ _=>False) I3 (fpx (λp hp=>by cases hp) fr3) st3 stop) λr s4 ⟨hr,I4⟩=>?_;subst hr;have J4:Inv X dz σ H3 s4:=I0.call' (s':=s4) (ch:=fp) I4.os I4.base I4.hok I4.bare λb hb=>⟨(f0' b hb).1.2.2.2.1,(f0' b hb).1.2.1,(f0' b hb).1.2.2.2.2.1,(f0' b hb).1.2.2.2.2.2⟩
   let ⟨m4,hn4,_⟩:=I4.loc;exact hRR D C s4 H3 m4 J4 hn4 I4.free (by rw [<- hCe]; exact I0.sz) (by rw [<- hCe]; exact (O7 I0.lt).symm)
    (λx c e z=>by let ⟨_,o,ho,_⟩:=I0.cell x c e;have:=N6 ho;rw [z,<- hCe] at this;exact T7 _ this)
    (λp hp z=>by have:=N6 (I0.pin p hp).1;rw [z,<- hCe] at this;exact T7 _ this) qn
  ·refine thn (T.item (Xj X yc scope C s0 H0 fp Nc) rfl rfl rfl rfl i [] s3 _ H3 (λ_ _=>False) I3 (fpx (λp hp=>by cases hp) fr3) st3 go) λr s4 ⟨u,hr,h4⟩=>?_;subst hr;refine thn h4 λ_ s5 ⟨x,H5,I5,r5,y5,st5,fr5⟩=>?_;have I5':=I5.pinned (fpx (λp hp=>by cases hp) fr5) (T.obj _ _ st5);refine thn (hg C s0 H0 fp _ s5 _ H5 x u _ I5' r5 (step x H5 y5)) λ_ s6 ⟨σ6,H6,I6,hag,q6⟩=>?_;refine thn (ht C s0 H0 fp _ s6 σ6 H6 _ I6 q6) λok7 s7 ⟨H7,I7,q7⟩=>?_;have again:∀ {H8:Hp} {s8:G4} {zs:List V} {m':Nat},Inv (Xj X yc scope C s0 H0 fp Nc) ([] ++ Dx fp s5.heap) σ6 H8 s8->m' < n->W (i + 1) m' zs H8 ->
     ∃ m,m < n/\∃ i ys H',Inv (Xj X yc scope C s0 H0 fp Nc) [] (cSt σ ix) H' s8/\tn i s8.heap/\(∀ b∈fp,H' b=none)/\W i m ys H':=λ{H8 s8 zs m'} I8 hm w8=>by
    refine ⟨m',hm,i + 1,zs,H8,I8.dj.weak hag.1.symm hag.2,T.keep _ _ _ st5 λb hb o e=>(I8.pin (b,o) (P0 _ (P0 _ (Jh hb e)))).1,λb hb=>?_,w8⟩;let ⟨o,e,d⟩:=T.obj _ _ st5 b hb;exact (I8.pin (b,o) (P0 _ (P0 _ (Jh hb e)))).2.1
   cases ok7 with
   | false =>rw [if_neg Bool.false_ne_true] at q7 ⊢;let ⟨m',hm,w7⟩:=hN' _ q7;exact again I7 hm w7
   | true =>rw [if_pos rfl] at q7 ⊢;refine thn (he C s0 H0 fp _ s7 σ6 H7 _ I7 q7) λy s8 ⟨yv,H8,I8,r8,q8⟩=>?_;let ⟨hD8,m',hm,w8⟩:=hN _ _ q8;refine thn (Gm (X:=Xj X yc scope C s0 H0 fp Nc) _ s8 σ6 H8 (.ref D) [yv] (.ref D) [y] (λv H9=>v=.non/\H9=upd H8 D (.lst (ys ++ [yv]))) I8 rfl (.cons r8 .nil) ⟨D,ys,yv,rfl,rfl,hD8,fu,rfl,rfl⟩) λ_ s9 ⟨v9,H9,I9,_,_,e9⟩=>?_;subst e9;exact again I9 hm w8
 exact codeAny_compStart_list (mj _ rfl) (T.self X.A 0 _ _ _ t1 (mj _ rfl))
def Qh3 {wi:TI} (y1:Str) (Nc:K9) (ix:J8) (hc:X.calm=true) (ok:Jk y1 scope X.env.scope=true) (hix:Kv scope X.N Nc ix=true)
  (hi:PI X tg iter wi) (hg:∀ C s0 H0 fp,PG (Xj X y1 scope C s0 H0 fp Nc) tg g) (ht:∀ C s0 H0 fp,Qc4 (Xj X y1 scope C s0 H0 fp Nc) ifs tt) (he:∀ C s0 H0 fp,PE (Xj X y1 scope C s0 H0 fp Nc) elt te)
  (hs:∀ x,foldedSetIterable iter X.env x=pure x:=by intro _; rfl):PE X (.ListComp elt [⟨tg,iter,ifs,0⟩] scope pos) (Oj ix wi g tt te):=by
 intro dz s σ H Q I h;rw [eval_ListComp];refine A1j (use:=none) rfl hs (Yc (Fy I ok)) (Kq ok) (Mo ok) (thn (hi dz s σ H _ I h) λxv s1 h1=>thn h1 λitv s2 h2=>?_);let ⟨it,fp,tn,J,H2,rfl,I2,T,st2,f2,q2⟩:=h2;exact Qg5 (RR:=λacc C=>compPost (model X.prog X.w) X.A X.xe none (EP X dz σ Q) acc C) I2 hc ok hix hg ht he T st2 f2 q2
  (λD C s' H' m J' hn hC h1 h2 h3 h4 q=>⟨m,hn,λh' hs'=>⟨.ref D,H',J'.turned (t':=s'.toks) (λb o nb e=>hs'.extBut b o nb e) hC h2 (.inr h1) h3 h4,rfl,q⟩⟩)
def Qak {y:Str} {s0:G4} {H0:Hp} {i:Nat} {p:Pos} (hN:Nc.Nodup) (hi:Nc[i]? = some y) (hx:Loc (relabel scope X.env) y):PG (Xj X y scope C s0 H0 fp Nc) (.Name y p) (Jb i) :=Ru hN hi hx (.inl (O8 rfl))
end
structure ExcAt (P:G8) (w:World) (outer:List Env) (H:Hp) (s:G4) (E:XK) (e:G3) (s':G4) (ea:G5) (cls a0:G3) (H':Hp) (B:Heap):Prop where
 is_:e=.ref ea
 wish:E cls none H'
 os:s'.os=s.os
 bare:AllBare s'.gens
 un:Un (frs outer) [] H H' s.heap s'.heap
 hokB:HOk P w H' B
 fly:Heap.FlyingW B outer ea cls a0 s'.heap
 old:∀ b o,s.heap.get? b=some o->b ∉ frs outer->∃ o',B.get? b=some o'
def CXR (P:G8) (w:World):CXT:=λouter H s E e s' => ∃ ea cls a0 H' B,ExcAt P w outer H s E e s' ea cls a0 H' B
section
variable {dz:G9} {σ:St} {s:G4}
def Inv.thrown {E:XK} {F:K1} {e:G5} {cls:G3} {args:K5} (I:Inv X dz σ H s) (hX:X.ex=[]) (hst:X.stack=X.env :: X.outer) (hf:X.env.frame=some X.env.locals)
  (m:Heap.MadeExcOf s.heap h1 e cls args) (q:E cls none H) :
  wpAny (model X.prog X.w) X.A (leaving X.env (.ref e)) (λ_ s''=>CXR X.prog X.w X.outer X.H₀ X.s₀ E (.ref e) s'') F { s with heap:=h1 }:=by
 have fr:=I.stack;have sub:∀ b o,X.s₀.heap.get? b=some o->b∈frs X.stack->b∈X.fs:=λb o h0 hb=>by
  rcases Q8.mp (I.stkSub b hb) with z | z
  ·exact absurd (N6 h0) (by rw [z]; exact W8.mpr I.ok.above)
  ·exact z
 have sup:∀ b,b∈X.fs->b∈frs X.stack:=λb hb=>by rw [hst];let ⟨en,h2,h3⟩:=Z5.mp hb;exact Z5.mpr ⟨en,.tail _ h2,h3⟩
 have nx:∀ b,b ∉ X.ex:=λb z=>by rw [hX] at z; cases z
 have hfr:X.A.frames=some (X.env :: X.outer):=by rw [<- hst]; exact I.ok.frames
 have frB:s.heap.FunFrames (PySem.W.hideAll s.heap (frs X.stack)) (X.env :: X.outer):=by rw [<- hst];exact PySem.W.funFrames_hide fr λen he a ha=>Z5.mpr ⟨en,he,ha⟩
 refine wpAny_leaves_madeW (base:=PySem.W.hideAll s.heap (frs X.stack)) (h:=s.heap) hfr hf (λb o z=>PySem.W.of_hideAll _ z) frB m λh2 t x1 x2 x3 x4=>?_;have st:∀ b o,s.heap.get? b=some o->b ∉ frs X.stack->h2.get? b=some o:=λb o z n=>x1.1 b o (A0v _ z n);have sl:∀ b o,s.heap.get? b=some o->b∈frs X.stack->∃ sl,h2.get? b=some { o with slots:=sl }:=λb o z hb=>by let ⟨_,o',ho',nf⟩:=fr.mem hb;rw [z] at ho';cases ho';exact x4 b o (m.keeps b o z) nf
 refine ⟨e,cls,.ref t,H,PySem.W.hideAll s.heap (frs X.stack),rfl,q,I.os,I.bare,⟨λb o e0 n hb _=>?_,λb o e0 n hb _=>?_,λb o e0 n _=>I.base.free b o e0 n (nx b),λb o e0 _=>?_,I.base.tups,I.base.frzs,I.base.tbls⟩,λa o ea=>?_,x1,λb o e0 hb=>?_⟩
 ·exact st b o (I.base.keep b o e0 n hb (nx b)) λz=>hb (sub b o e0 z)
 ·let ⟨sl1,e1⟩:=I.base.slot b o e0 n hb (nx b);let ⟨sl2,e2⟩:=sl b _ e1 (sup b hb);exact ⟨sl2,e2⟩
 ·let ⟨o',e1⟩:=I.base.there b o e0 (nx b)
  by_cases hb:b∈frs X.stack
  ·let ⟨sl2,e2⟩:=sl b _ e1 hb;exact ⟨_,e2⟩
  ·exact ⟨_,st b _ e1 hb⟩
 ·refine (I.hok a o ea).stay (λb u hc z=>A0v _ z λhb=>?_) (λ_ q=>q) λ_ _ q=>q;have nb:=I.stkFree b hb;rcases hc with hc | hc
  ·rw [hc,ea] at nb; cases nb
  ·rw [hc] at nb; cases nb
 ·let ⟨o',e1⟩:=I.base.there b o e0 (nx b);exact ⟨o',A0v _ e1 λz=>hb (sub b o e0 z)⟩
end
def Qc9:K5:=[.type "ValueError",.type "Exception",.type "BaseException",.type "object"]
def Qg1 {bmB:K5} {newId:String} (X:K.In h) (q:PySem.W.excIn K C bmB newId=true) :
  ∃ bm N nm q bs hdct sn sub ab col dd k0 k1 k2 k3 k5 mN,h.get? C=some (excClassObj nm q C N bs bm hdct sn sub ab col dd k0 k1 k2 k3 k5 newId)/\h.Ns N mN/\mN "__init__" = none/\OwnTail h bmB bm:=by
 unfold PySem.W.excIn at q
 split at q
 ·rename_i dd cd sl ho
  split at q
  ·rename_i C' bm k0 k1 k2 k3 n k5 hm hs
   simp only [Bool.and_eq_true,beq_iff_eq,Bool.not_eq_true'] at q;let ⟨⟨⟨⟨⟨rfl,rfl⟩,hdel⟩,ht⟩,hok⟩,hni⟩:=q;let ⟨nm,bs,mro,ns,qn,hd,sn,sub,ab,col,del⟩:=cd;dsimp only at hm hdel hok hni;subst hm hdel;have hsl:sl=#[k0,k1,k2,k3,some (.builtin n),k5]:=by let ⟨l⟩:=sl;simp only at hs;rw [hs]
   subst hsl;exact ⟨bm,ns,nm,qn,bs,hd,sn,sub,ab,col,dd,k0,k1,k2,k3,k5,_,X _ _ ho,.of_isNs (PySem.W.isNs_of_in X hok),PySem.W.nsMap_none_of_in X hok hni,PySem.W.tail_of_in X ht⟩
  ·cases q
 ·cases q
def Throws (X:Cx) (E:XK):Prop:=∀ (dz:G9) (σ:St) (H:Hp) (s:G4) (h':Heap) (e:G5) (cls:G3) (args:K5),Inv X dz σ H s->Heap.MadeExcOf s.heap h' e cls args->E cls none H->X.xe (.ref e) { s with heap:=h' }
def Oh {P:G8} {base:Heap} {cd:G3} {A:G7} {outer:List Env} {s:G4} {E:XK} :
  Throws (Cf (CXR P w) P w K mg base N qual scope f cd A outer s H E) E:=λdz σ H1 s1 h' e cls args I m q=>I.thrown rfl rfl rfl m q
def Qiv (C:G5) (E:XK) (t:TA):TS:=λ_ σ H=>t σ H λvs H1=>vs.length<=sizeLine/\E (.ref C) none H1
def Qfq {E:XK} {np iu:Pos} {t:TA} (hxe:Throws X E) (hc:X.calm=true) (hg:Gl X x) (hm:X.mg x=some (.ref C)) (q:PySem.W.excIn X.K C Qc9 "ValueError.__new__" = true) (ha:PA X (e :: es) t)
  (hdb:(x == ("__debug__" : Str))=false:=by decide) (he:starEach (e :: es) X.env=(false,eval e X.env) :: starEach es X.env:=by rfl) (hpl:(backTo iu (starEach (e :: es) X.env)).any (·.1)=false:=by rfl) :
  PS X (.Raise (some (.Call (.Name x np) (e :: es) [] iu)) none pos) (Qiv C E t):=by
 intro dz s σ H D I h;let ⟨bm,N,nm,qn,bs,hdct,sn,sub,ab,col,dd,k0,k1,k2,k3,k5,mN,hC,hN,hni,TL⟩:=Qg1 (h:=X.base) I.ok.mod.kin q;refine wpAny_Raise_call_subU (Bn:="ValueError") (C:=C) (nm:=nm) (q:=qn) (N:=N) (bs:=bs) (bm:=bm) (hdct:=hdct) (sn:=sn) (sub:=sub) (ab:=ab) (col:=col) (dd:=dd) (k0:=k0) (k1:=k1) (k2:=k2) (k3:=k3) (k5:=k5) (mN:=mN) PySem.F.excBase_ValueError (by decide) PySem.F.excBase_ValueError (TL.hasType (by decide)) (I.ok.hd hc) hpl hni (Nt I hg hm ⟨rfl,?_⟩ hdb);rw [he];refine Calls.evalArgs_plain ?_;have hh:=ha iu dz s σ H _ I h;rw [he] at hh;refine thn hh λus s2 ⟨vs,H2,I2,r,hl,w2⟩=>⟨rfl,by show us.length<=_; rw [<- r.length]; exact hl,I2.bk _ _ hC,hN.keeps I2.bk,TL.keeps I2.bk,λh' ea mm=>?_⟩
 exact hxe dz σ H2 s2 h' ea _ _ I2 mm w2
def PS.nox {t:TS} (h:PS X.nox st t):PS X st t:=λdz s σ H D I hw =>T5 (h dz s σ H D (I.wish _) hw) (λf s' q=>q.cu) λ_ _ q=>q.elim
def PA.nox {t:TA} (h:PA X.nox es t):PA X es t:=λpos dz s σ H Q I hw =>T5 (h pos dz s σ H Q (I.wish _) hw) (λf s' ⟨vs,H',J,r,q⟩=>⟨vs,H',J.cu,r,q⟩) λ_ _ q=>q.elim
structure Qsv (P:G8) (w:World) (K:M7) (mg:J9) (base:Heap) (k:Nat) (x:Str) (ps:K9) (sp:Sp):Prop where
 ex:∃ f fd,mg x=some (.ref f)/\PySem.W.keepIn K (.ref f)=true/\Kk K fd ps []/\Cg P w K mg base (CXR P w) k f fd ps sp
section
variable {P:G8} {base:Heap}
def Fun.okX (F:Fun K x qual st f fd) (S:Xa N ps (Qp st)) (len:∀ vs H Q E,sp vs H Q E->vs.length=ps.length)
  (ir:∀ (cdv:G3) (A:G7) (outer:List Env) (s:G4) (H:Hp) (vs:List V) (Q:VK) (E:XK),Uq k (A.deeper (envOfC qual (Qp st) s.heap.objs.size f cdv))->sp vs H Q E ->
   ∃ t,PSs (Cf (CXR P w) P w K mg base N qual (Qp st) f cdv A outer s H E) (Zd st) t/\t { nx:=λ_ H'=>Q .non H',rt:=Q } (start N vs) H):Cg P w K mg base (CXR P w) (k + 1) f fd ps sp:=by
 let ⟨oc,od,kV,doc,pm,an,cdv,ct,osl,rfl,lk,hcd⟩:=F.ex;exact Qcv lk hcd S len λA outer s H vs Q E hr hsp=>ir cdv A outer s H vs Q E hr hsp
def Src.mkX (S:Src K mg x qual st) (Sc:Xa N ps (Qp st)) (len:∀ vs H Q E,sp vs H Q E->vs.length=ps.length)
  (hb:∀ (kV doc pm:G3) (an:M5) (cdv ct:G3) (us:K5),us.length=ps.length->bindArgs (PySem.W.fnOf x qual (Yx st) (Zd st) (Qp st) .none kV doc pm an cdv ct) ⟨us,[]⟩=pure (ps.zip us))
  (ir:∀ (f:G5) (cdv:G3) (A:G7) (outer:List Env) (s:G4) (H:Hp) (vs:List V) (Q:VK) (E:XK),Uq k (A.deeper (envOfC qual (Qp st) s.heap.objs.size f cdv))->sp vs H Q E ->
   ∃ t,PSs (Cf (CXR P w) P w K mg base N qual (Qp st) f cdv A outer s H E) (Zd st) t/\t { nx:=λ_ H'=>Q .non H',rt:=Q } (start N vs) H):Qsv P w K mg base (k + 1) x ps sp:=by
 let ⟨f,fd,F,hm⟩:=S.ex;exact ⟨f,fd,hm,F.kp,F.binds hb,F.okX Sc len (ir f)⟩
end
open PySem.W PySem.Calls Builtin Builtin.ObjectAttr Builtin.Getset_descriptor
structure Zv1 (K:Frag) (D:G5):Prop where
 ga:findIn K (.ref D) "__getattribute__" = some (some (.builtin "BaseException.__getattribute__"))
 gt:findIn K (.ref D) "__getattr__" = some none
 cl:findIn K (.ref D) "__class__" = some (some (.builtin "object.__class__"))
 sg:specialIn K (.builtin "object.__class__") "__get__" = some (some (.builtin "getset_descriptor.__get__"))
 tk:takesIn K (.builtin "object.__class__")=some true
 be:mroIn K D (.type "BaseException")=some true
 ob:mroIn K D (.type "object")=some true
 at_:∃ cd,clsIn K D=some cd
structure Qi9 (K:M7) (R D:G5):Prop where
 ex:PySem.W.excIn K D Qc9 "ValueError.__new__" = true
 ck:Zv1 K D
 cat:PySem.W.exmOne K (.ref D) (.ref R)=some true
 ve:PySem.W.kitOne K (.ref D) (.type "ValueError")=some true
def Qz6 {bm:K5} {n:String} (q:PySem.W.excIn K D bm n=true):∃ cd,PySem.W.clsIn K D=some cd:=by
 unfold PySem.W.excIn at q
 split at q
 ·rename_i dd cd sl ho
  exact ⟨cd,by unfold PySem.W.clsIn; rw [ho]⟩
 ·cases q
def Qm3 {R:G5} (ex:PySem.W.excIn K D Qc9 "ValueError.__new__" = true) (ga:PySem.W.findIn K (.ref D) "__getattribute__" = some (some (.builtin "BaseException.__getattribute__")))
  (gt:PySem.W.findIn K (.ref D) "__getattr__" = some none) (cl:PySem.W.findIn K (.ref D) "__class__" = some (some (.builtin "object.__class__")))
  (sg:PySem.W.specialIn K (.builtin "object.__class__") "__get__" = some (some (.builtin "getset_descriptor.__get__"))) (tk:PySem.W.takesIn K (.builtin "object.__class__")=some true)
  (be:PySem.W.mroIn K D (.type "BaseException")=some true) (ob:PySem.W.mroIn K D (.type "object")=some true) (cat:PySem.W.exmOne K (.ref D) (.ref R)=some true) (ve:PySem.W.kitOne K (.ref D) (.type "ValueError")=some true):Qi9 K R D :=
 ⟨ex,⟨ga,gt,cl,sg,tk,be,ob,Qz6 ex⟩,cat,ve⟩
def Rk (K:M7) (H:Hp) (v:V) (d:PyData):Prop:=∀ (X:Cx) (dz:G9) (σ:St) (s:G4) (u:G3),X.K=K->Inv X dz σ H s->Yi v u->∃ as,Reads s.heap u d as
def Am:Rk K H (.int i) (.int i):=λX dz σ s u _ _ r=>by let ⟨t,rfl⟩:=r;exact ⟨[],.int i t⟩
theorem Qxk {K:M7} {H:Hp} {X:Cx} {dz:G9} {σ:St} {s:G4} (e:X.K=K) (I:Inv X dz σ H s):∀ {xs:List V} {ds:List PyData} {us:K5},Paired (Rk K H) xs ds->Xq xs us->∃ as,ReadsAll s.heap us ds as
 | _,_,_,.nil,.nil=>⟨[],.nil⟩
 | _,_,_,.cons a b,.cons r t=>by let ⟨as,h1⟩:=a X dz σ s _ e I r;let ⟨bs,h2⟩:=Qxk e I b t;exact ⟨as ++ bs,.cons h1 h2⟩
def Wv {ds:List PyData} (h:SqL K H a xs) (p:Paired (Rk K H) xs ds):Rk K H (.ref a) (.list ds):=λX dz σ s u e I r=>by obtain rfl:u=Value.ref a:=r;subst e;let ⟨its,rv,pl,_⟩:=I.list h;let ⟨as,ha⟩:=Qxk rfl I p rv;let ⟨o,h1,h2,n,h3⟩:=pl.isList;exact ⟨_,.list h1 h2 h3 (by simpa using ha)⟩
def Ks {ds:List PyData} (h:SqT K H a xs) (p:Paired (Rk K H) xs ds):Rk K H (.ref a) (.tuple ds):=λX dz σ s u e I r=>by obtain rfl:u=Value.ref a:=r;subst e;let ⟨its,rv,pl,_⟩:=I.tuple h;let ⟨as,ha⟩:=Qxk rfl I p rv;let ⟨o,h1,h2,n,h3⟩:=pl;exact ⟨_,.tuple h1 h2 h3 (by simpa using ha)⟩
theorem Cs {K:M7} {H:Hp}:∀ ns:K3,Paired (Rk K H) (ns.map V.int) (ns.map PyData.int)
 | []=>.nil
 | _ :: r=>.cons Am (Cs r)
def Zx7 (K:M7) (neg:Bool):R2:=λx y H Q => ∃ d e,Rk K H x d/\Rk K H y e/\SeqAt.shaped d=true/\SeqAt.shaped e=true/\Q (.bl (if neg=true then !PyData.eqv d e else PyData.eqv d e)) H
section
def Qt1 (h:X.K=K) (hu:X.A.units + 64 < cLine):OpR X (compareOp .Eq) (Zx7 K false):=by intro dz s σ H x y v u Q I rx ry q;let ⟨d,e,r1,r2,s1,s2,q⟩:=q;let ⟨as,h1⟩:=r1 X dz σ s v h I rx;let ⟨bs,h2⟩:=r2 X dz σ s u h I ry;exact eq_dataH h1 h2 s1 s2 hu ⟨.bl _,H,I,rfl,q⟩
def Nr (h:X.K=K) (hu:X.A.units + 64 < cLine):OpR X (compareOp .NotEq) (Zx7 K true):=by intro dz s σ H x y v u Q I rx ry q;let ⟨d,e,r1,r2,s1,s2,q⟩:=q;let ⟨as,h1⟩:=r1 X dz σ s v h I rx;let ⟨bs,h2⟩:=r2 X dz σ s u h I ry;exact ne_dataH h1 h2 s1 s2 hu ⟨.bl _,H,I,rfl,q⟩
end
def Nk (r:K3):PyData:=.list (r.map PyData.int)
def Qmv (rows:J5):PyData:=.list (rows.map Nk)
def Qjx (r:K3):PyData.eqv (Nk r) (Nk r)=true:=by unfold Nk;rw [PyData.eqv,PySem.W.ked_eqvAll];exact O8 rfl
theorem Ex:∀ rows:J5,PyData.eqvAll (rows.map Nk) (rows.map Nk)=true
 | []=>by simp [PyData.eqvAll]
 | r :: t=>by simp only [map_cons,PyData.eqvAll,Qjx,Ex t,Bool.and_true]
theorem Ez:∀ rows:J5,PyData.canLayAll0 (rows.map Nk)=true
 | []=>rfl
 | r :: t=>by simp [PyData.canLayAll0,Nk,PyData.canLay0,PySem.W.ke_canLayAll0,Ez t]
theorem Dl:∀ rows:J5,PyData.depthAll (rows.map Nk)<=1
 | []=>by simp [PyData.depthAll]
 | r :: t=>by have:=Dl t;simp only [map_cons,PyData.depthAll,Nk,PyData.depth,PySem.W.ke_depthAll];lia
theorem Np {K:M7} {H:Hp}:∀ {ws:K6} {rows:J5},Rows H ws rows->Paired (Rk K H) (ws.map V.ref) (rows.map Nk)
 | [],[],_=>.nil
 | [],_ :: _,h=>by have:=h.1; simp at this
 | _ :: _,[],h=>by have:=h.1; simp at this
 | a :: ws,r :: rows,h=>.cons (Wv (SqL.of (h.2 0 a r rfl rfl)) (Cs r)) (Np ⟨by have:=h.1; simpa using this,λi b row h1 h2=>h.2 (i + 1) b row (by simpa using h1) (by simpa using h2)⟩)
theorem Fq:∀ {ns:K3} {n:Int},n∈ns->Builtin.Int.intBits n<=PySem.W.WData.weightAll (ns.map PySem.W.WData.int)
 | [],_,h=>by cases h
 | m :: r,n,h=>by
  rw [map_cons,PySem.W.WData.weightAll,PySem.W.WData.weight];rcases Q8.mp h with z | z
  ·subst z;show (if (n == 0)=true then 0 else n.natAbs.log2 + 1)<=_;lia
  ·have:=Fq z;lia
def Ab (h:PySem.W.WData.layableAll [PySem.W.WData.list (ns.map PySem.W.WData.int)]=true):∀ n∈ns,Builtin.Int.intBits n<=1048576:=λn hn=>by have h1:=all_eq_true.mp h _ O9;have h2:=Q7 (U5.mp h1).2;rw [PySem.W.WData.weight] at h2;exact O6 (Fq hn) h2
def Gx (H:Hp) (t:G5) (parts:Int) (rows:K3):Prop:=∃ r,H t=some (.tup [.int parts,.ref r])/\H r=some (.lst (rows.map V.int))
def Gx.same {t:G5} {parts:Int} {rows:K3} (h:Gx H t parts rows) (s:Qu H H'):Gx H' t parts rows:=by let ⟨r,h1,h2⟩:=h;exact ⟨r,s _ _ h1,s _ _ h2⟩
def Qcx (way rows:K3):K3:=way.map λr=>rows.getD r.toNat 0
def Wj (aj:J5) (way:K3) (parts:Int) (rows:K3):K3:=(range aj.length).map λi=>parts * (aj.getD i []).getD (way.getD i 0).toNat 0 - rows.getD (way.getD i 0).toNat 0
def Ql4 (K:M7):Sp:=λvs H Q _ => ∃ (v:V) (a t:G5) (parts:Int) (rows way:K3),vs=[v,.ref a,.ref t]/\Gx H t parts rows/\SqL K H a (way.map V.int)/\way.length<=1000/\(∀ r∈way,0<=r/\r < (rows.length:Int)) /\
 ∀ l H',New H l (.lst ((Qcx way rows).map V.int)) H'->Q (.ref l) H'
def Qk1 (K:M7) (C:G5):Sp:=λvs H Q _ => ∃ (p a t:G5) (ak:K3) (aj:J5) (ao:Int) (parts:Int) (rows way:K3),vs=[.ref p,.ref a,.ref t]/\Zj C H p ak aj ao/\Gx H t parts rows/\SqL K H a (way.map V.int)/\way.length=aj.length/\aj.length<=1000 /\
 (-(10 ^ 200) < parts/\parts < 10 ^ 200)/\(∀ row∈aj,row.length=rows.length/\∀ x∈row,-(10 ^ 200) < x/\x < 10 ^ 200)/\(∀ r∈way,0<=r/\r < (rows.length:Int)) /\
 ∀ l H',New H l (.lst ((Wj aj way parts rows).map V.int)) H'->Q (.ref l) H'
def Ov (X:Cx) (qual:Str) (scope:Scope) (L f:G5) (cd:G3) (s0:G4) (H0:Hp) (Nc:K9):Cx where
 prog:=X.prog
 w:=X.w
 K:=X.K
 mg:=X.mg
 base:=X.base
 A:=X.A.in1.deeper (PySem.W.envX qual scope L f cd (Ri X.env.cells scope.names []))
 N:=Nc
 s₀:=s0
 H₀:=H0
 env:=PySem.W.envX qual scope L f cd (Ri X.env.cells scope.names [])
 outer:=X.stack
 stack:=PySem.W.envX qual scope L f cd (Ri X.env.cells scope.names []) :: X.stack
 ex:=[]
 fn:=λ_=>false
 calm:=true
 pn:=[]
 xe:=λ_ _=>False
section
variable {dz:G9} {σ:St} {s:G4}
theorem Qtz {L:G5} {cd:G3} {u:G3} (I:Inv X dz σ H s) (hc:X.calm=true) (ok:Yp scope X.env.scope=true) (hix:Kv scope X.N (x :: Nc) (none :: ix)=true)
  (hx:scope.names.lookup x=some .local) (hL:L=s.heap.objs.size) (rv:Yi v u) (hns:h1.Ns L (λy=>([(x,u)]:List (Str × G3)).reverse.lookup y)) (hk:∀ b o,s.heap.get? b=some o->h1.get? b=some o) :
  Inv (Ov X qual scope L f cd s H (x :: Nc)) [] (some v :: cSt σ ix) H { s with heap:=h1,toks:=tk }:=by
 refine ⟨⟨I.ok.mod,(Ys (X:=X) (scope:=scope) ok),rfl,rfl,A0k hL.symm,λy z c e1 e2=>I.ok.inj y z c (Js I ok e1) (Js I ok e2),λy hy=>?_,(λ_ _ z=>nomatch z),λ_=>I.ok.hd hc,Around.frames_deeper (A:=X.A.in1) I.ok.frames,.inr ⟨rfl,rfl⟩,(λb hb=>by cases hb),I.bs,O6 I.ok.bsz I.sz,(λb o e hb=>by cases hb),(λb hb=>by cases hb),I.stack,I.stkFree⟩,
  rfl,I.bare,Un.kept hk,⟨_,hns,λi y v' e1 e2 e3=>?_⟩,λy c e=>?_,?_,λy c e=>I.c7 y c (Js I ok e),(λp hp=>by cases hp),I.hok.kept hk,?_⟩
 ·have g8:(y,NameKind.free)∈scope.names:=by
   rcases hy with hy | hy
   ·exact absurd rfl (Je ok _ (mem_of_lookup (show scope.names.lookup y=some .cell from hy)))
   ·exact mem_of_lookup (show scope.names.lookup y=some .free from hy)
  exact Z6.mp (Uv (cells:=X.env.cells) scope.names [] (x:=y) (.inl g8))
 ·cases i with
  | zero =>
   have e1':x=y:=by simpa [Ov] using e1
   have e2':v=v':=by simpa using e2
   subst e1' e2';exact ⟨u,rv,.inl ⟨hx,by simp⟩⟩
  | succ i =>
   have hix':Kv scope X.N Nc ix=true:=hix;have e1':Nc[i]? = some y:=by simpa [Ov] using e1
   have e2':(cSt σ ix)[i]? = some (some v'):=by simpa using e2
   let ⟨j,n1,n2,n3⟩:=Gq hix' e1' e2';have g8:(y,NameKind.free)∈scope.names:=mem_of_lookup n3;have j8:=Rt ok (y,.free) g8 rfl;let ⟨mX,_,hl⟩:=I.loc;have m8:Vis X.env.scope y:=.inr j8;let ⟨u',r,l⟩:=hl j y v' n1 n2 m8;refine ⟨u',r,?_⟩;rcases l with ⟨k1,_⟩ | ⟨_,c,e,z⟩
   ·rcases j8 with q | q
    ·rw [q] at k1; cases k1
    ·rw [q] at k1; cases k1
   ·refine .inr ⟨.inr n3,c,?_,?_⟩
    ·let ⟨c',hc'⟩:=Z6.mp (Uv (cells:=X.env.cells) scope.names [] (x:=y) (.inl g8));have:=Js I ok hc';rw [e] at this;cases this;exact hc'
    ·let ⟨o,ho,hd⟩:=z;exact ⟨o,hk c o ho,hd⟩
 ·let ⟨v',o,ho,hd⟩:=I.cell y c (Js I ok e);exact ⟨v',o,hk c o ho,hd⟩
 ·show H L=none;rw [hL];exact I.hok.fresh (O1 _)
 ·have hix':Kv scope X.N Nc ix=true:=hix;show (cSt σ ix).length + 1=Nc.length + 1;rw [Ko,Tg hix']
def Er {name:Str} {params:Arguments} {body:Expr} {ctv:G3} {c':G5} {u:G3} (I:Inv X dz σ H s) (hc:X.calm=true) (ok:Yp scope X.env.scope=true)
  (hix:Kv scope X.N (x :: Nc) (none :: ix)=true) (hx:scope.names.lookup x=some .local) (hco:scope.isCoroutine=false) (ni:scope.isGenerator=false)
  (ho:s.heap.get? f=some (PySem.W.kla_obj name qual params body scope (Ri X.env.cells scope.names []) pm c' ctv)) (hcd:s.heap.CodeRec (.ref c') qual) (jg:X.A.depth < recursionLimit)
  (jh:∀ u:G3,bindArgs (PySem.W.kla_fn name qual params body scope (Ri X.env.cells scope.names []) pm (.ref c') ctv) ⟨[u],[]⟩=pure [(x,u)]) (rv:Yi v u)
  (he:∀ L f cd s0 H0,PE (Ov X qual scope L f cd s0 H0 (x :: Nc)) body te) (q:te (some v :: cSt σ ix) H Q):wpAny (model X.prog X.w) X.A.in1 (call (.ref f) [u]) (EP X dz σ Q) (λ_ _=>False) s:=by
 refine wpAny_call (PySem.W.kla_callFunE jg ho rfl hco ni rfl hcd ?_);rw [jh];refine M8 (wpAny_newFunctionEnv (Je ok) (λy hy=>?_) (λh₁ hns hsb=>⟨I.nolimit.fresh _ hsb,?_⟩) (Ys (X:=X) ok))
 ·have:y=(x,u):=by simpa using hy
  rw [this];exact hx
 have hk₁:∀ b o,s.heap.get? b=some o->h₁.get? b=some o:=λb o e=>hsb.extBut b o (O7 (N6 e)) (N7 _ e);have J:=Qtz (qual:=qual) (f:=f) (cd:=.ref c') (tk:=s.toks + 1) I hc ok hix hx rfl rv hns hk₁;refine PySem.W.kla_codeExpr (T5 (he _ _ _ _ _ [] _ _ _ _ J q) (λv' s' h'=>?_) λ_ _ z=>z.elim);let ⟨y,H',J',ry,q'⟩:=h';exact I.after ⟨y,H',J'.os,J'.bare,J'.base,J'.hok,ry,q'⟩
end
section
variable {dz:G9} {σ:St} {s:G4}
def Inv.turn1 {pl pl':G9} {o':Obj} {h':Heap} {t':Nat} (J:Inv X pl σ H s) (hf:Tn X [] H it) (jz:∀ p∈pl',p∈pl/\p.1≠it) (k:∀ b o,b≠it->s.heap.get? b=some o->h'.get? b=some o) (ho':h'.get? it=some o') (hnc:∀ v,o'.data≠.cell v) :
  Inv X (pl' ++ [(it,o')]) σ H { s with heap:=h',toks:=t' }:=by
 let ⟨f0,f1,f2,f3,f4,f5⟩:=hf;have J1:Inv X pl' σ H s:=J.cg λp hp=>J.pin p (P0 _ (jz p hp).1);have J2:Inv X pl' σ H { s with heap:=h',toks:=t' }:=J1.turned k f0 f1 f3 f4 λp hp=>by
  rcases O5.mp hp with z | z
  ·exact f5 p (R5 _ z)
  ·exact (jz p z).2
 refine J2.cg λp hp=>?_;rcases O5.mp hp with z | z
 ·exact J2.pin p (P0 _ z)
 ·have:p=(it,o'):=by simpa using z
  subst this;exact ⟨ho',f0,f1,f2,hnc⟩
def Inv.sub {pl pl':G9} (J:Inv X pl σ H s) (h:∀ p∈pl',p∈pl):Inv X pl' σ H s:=J.cg λp hp=>J.pin p (P0 _ (h p hp))
def Hr (a v:G3):argsOk "max" ⟨[a],[(Str.ofString "key",v)]⟩:=by unfold argsOk; kernel_rfl
variable {l q S:G5} {R:Result->G4->Prop}
theorem Qh7 (kf:Int->Int) (hc:X.calm=true) (hq:SqL X.K H l (ns.map V.int)) (fI:Tn X [] H it) (fS:Tn X [] H S) (hSI:S≠it) (hlI:l≠it) (nI:∀ p∈dz,p.1≠it) (nS:∀ p∈dz,p.1≠S)
  (turn:∀ z∈ns,∀ (t:Tok) (pl:G9) (s:G4),(∀ p∈dz,p∈pl)->Inv X pl σ H s->wpAny (model X.prog X.w) X.A.in1 (call (.ref q) [.int z t]) (EP X pl σ λy H'=>y=.int (kf z)/\H'=H) (λ_ _=>False) s)
  (hR:∀ z t s',z∈ns->(∀ z'∈ns,kf z'<=kf z)->Inv X dz σ H s'->R (.ok (.ret (.int z t))) s') :
  ∀ (r j:Nat) (s:G4) (zb:Int) (tb kt:Tok) (c:Nat) (oI:Obj),ns.length - (j + 1)=r->j + 1<=ns.length->Inv X (dz ++ [(S,seqObj "list" #[.int zb tb,.int (kf zb) kt] c),(it,oI)]) σ H s->s.heap.IsListIter it l (j + 1)->zb∈ns->(∀ i z,i<=j->ns[i]? = some z->kf z<=kf zb) ->
   codeAny (model X.prog X.w) X.A (.builtin "max.loop" ⟨[.ref it,.ref q,.ref S],[]⟩) R s:=by
 have jt:(toString "max" ++ toString ".loop" : String)="max.loop" := by decide
 intro r
 induction r with
 | zero =>
  intro j s zb tb kt c oI hr hj J hit hzb iz;have hin:j + 1=ns.length:=by lia
  let ⟨its,rv,pl,hz⟩:=J.list hq;have hl:its.length=ns.length:=by have:=rv.length; simpa using this.symm
  have W:=W9 (prog:=X.prog) (w:=X.w) (A:=X.A.in1) (J.ok.hd hc) it l hlI its.toArray;have pS:=J.pin (S,seqObj "list" #[.int zb tb,.int (kf zb) kt] c) (by simp);refine V7 A1l ?_;rw [Around.under_plainId PySem.F.plain_max_loop _];show wpAny _ X.A.in1 (seqItems? (.ref S) >>= _) _ _ _;refine M6 (A0o pS.1 rfl ?_);show wpAny _ X.A.in1 (tryCatch (pyNext (.ref it)) _ >>= _) _ _ _;refine M6 (A0b (W.done _ _ _ ⟨by rw [size_toArray,hl,<- hin]; exact hit,pl.isList⟩ λh' tk' hk'=>?_));have J1:Inv X (dz ++ [(S,seqObj "list" #[.int zb tb,.int (kf zb) kt] c)]) σ H { s with heap:=h',toks:=tk' }:=(J.sub (pl':=dz ++ [(S,seqObj "list" #[.int zb tb,.int (kf zb) kt] c)]) (λp hp=>by
   rcases O5.mp hp with z | z
   ·simp [z]
   ·have:p=(S,seqObj "list" #[.int zb tb,.int (kf zb) kt] c):=by simpa using z
    simp [this])).turned (λb o hb e=>hk' b o (by simpa using hb) e) fI.1 fI.2.1 fI.2.2.2.1 fI.2.2.2.2.1 λp hp=>by
   rcases O5.mp hp with z | z
   ·exact fI.2.2.2.2.2 p (R5 _ z)
   ·rcases O5.mp z with z | z
    ·exact nI p z
    ·have:p=(S,seqObj "list" #[.int zb tb,.int (kf zb) kt] c):=by simpa using z
     rw [this]; exact hSI
  have pS1:=J1.pin (S,seqObj "list" #[.int zb tb,.int (kf zb) kt] c) (by simp);show wpAny _ X.A.in1 (updateSeq S (λ_ => #[]) >>= _) _ _ _;refine M6 ?_;refine wpAny_updateSeq pS1.1 rfl (M6 (wpAny_letGo (M8 ?_)));have s1:=T8 h' S (Obj.mapSeq λ_=>(#[]:Array G3));refine hR zb tb _ hzb (λz' hz'=>?_) ((J1.sub λp hp=>R5 _ hp).turned (t':=tk') (λb o hb e=>(s1.2 b hb).trans e) fS.1 fS.2.1 fS.2.2.2.1 fS.2.2.2.2.1 λp hp=>?_)
  ·let ⟨i,hi,rfl⟩:=X3.mp hz';exact iz i _ "o" (by simp [hi])
  ·rcases O5.mp hp with z | z
   ·exact fS.2.2.2.2.2 p (R5 _ z)
   ·exact nS p z
 | succ r ih =>
  intro j s zb tb kt c oI hr hj J hit hzb iz;have hlt:j + 1 < ns.length:=by lia
  let ⟨its,rv,pl,hz⟩:=J.list hq;have hl:its.length=ns.length:=by have:=rv.length; simpa using this.symm
  have W:=W9 (prog:=X.prog) (w:=X.w) (A:=X.A.in1) (J.ok.hd hc) it l hlI its.toArray;have pS:=J.pin (S,seqObj "list" #[.int zb tb,.int (kf zb) kt] c) (by simp);refine V7 A1l ?_;rw [Around.under_plainId PySem.F.plain_max_loop _];show wpAny _ X.A.in1 (seqItems? (.ref S) >>= _) _ _ _;refine M6 (A0o pS.1 rfl ?_);show wpAny _ X.A.in1 (tryCatch (pyNext (.ref it)) _ >>= _) _ _ _;refine M6 (A0b (W.item (j + 1) _ _ _ (by rw [size_toArray,hl]; exact hlt) ⟨hit,pl.isList⟩ λv h' tk' hP hst' hk'=>?_));have hv:its[j + 1]? = some v:=by simpa using hP
  let ⟨u,hu,t,hut⟩:=rv.get (i:=j + 1) (x:=.int ns[j + 1]) (by simp [hlt]);rw [hv] at hu;cases hu;subst hut;let ⟨oI',hoI',hoc,hod⟩:=id hst'.1;have J1:Inv X (dz ++ [(S,seqObj "list" #[.int zb tb,.int (kf zb) kt] c)] ++ [(it,oI')]) σ H { s with heap:=h',toks:=tk' }:=J.turn1 fI (λp hp=>by
   rcases O5.mp hp with z | z
   ·exact ⟨by simp [z],nI p z⟩
   ·have:p=(S,seqObj "list" #[.int zb tb,.int (kf zb) kt] c):=by simpa using z
    rw [this];exact ⟨by simp,hSI⟩) (λb o hb e=>hk' b o (by simpa using hb) e) hoI' (λw z=>by rw [hod] at z; cases z)
  have hzj:ns[j + 1]∈ns:=M9 hlt;show wpAny _ X.A.in1 (tryCatch (holding [Value.int ns[j + 1] t] (call (.ref q) [Value.int ns[j + 1] t])) _ >>= _) _ _ _;refine M6 (A0b (U3 (T5 (turn _ hzj t _ _ (λp hp=>by simp [hp]) J1) (λx s'' he=>?_) λ_ _ hF=>hF.elim)));let ⟨y,H',J2,ry,rfl,rfl⟩:=he;let ⟨t2,rfl⟩:=ry;have pS2:=J2.pin (S,seqObj "list" #[.int zb tb,.int (kf zb) kt] c) (by simp);have pI2:=J2.pin (it,oI') (by simp);have hit2:s''.heap.IsListIter it l (j + 1 + 1):=⟨oI',pI2.1,hoc,hod⟩
  show wpAny _ X.A.in1 (tryCatch (holding [Value.int ns[j + 1] t,.int (kf ns[j + 1]) t2] (richCompare .Gt (.int (kf ns[j + 1]) t2) (.int (kf zb) kt) >>= _)) _ >>= _) _ _ _;refine M6 (A0b (U3 (M6 (CmpOf.ints_gt (prog:=X.prog) (w:=X.w) (A:=X.A.in1) (P:=λi v => ∃ t,v=.int (if i=0 then kf ns[j + 1] else kf zb) t) (λi=>if i=0 then kf ns[j + 1] else kf zb) (λi v h=>h) 0 1 _ _ _ _ _ ⟨t2,rfl⟩ ⟨kt,rfl⟩ ?_))));refine M6 (U3 (W2 ?_));refine M6 (wpAny_letGo (M8 ?_));show wpAny _ X.A.in1 (if decide (kf ns[j + 1] > kf zb)=true then _ else _) _ _ _
  by_cases hb':kf ns[j + 1] > kf zb
  ·have s1:=T8 s''.heap S (Obj.mapSeq λ_ => #[.int ns[j + 1] t,.int (kf ns[j + 1]) t2]);obtain ⟨c2,hc2⟩:∃ c2,(s''.heap.update S (Obj.mapSeq λ_ => #[.int ns[j + 1] t,.int (kf ns[j + 1]) t2])).get? S=some (seqObj "list" #[.int ns[j + 1] t,.int (kf ns[j + 1]) t2] c2):=⟨_,Z7 pS2.1 λ_ => #[.int ns[j + 1] t,.int (kf ns[j + 1]) t2]⟩
   rw [decide_eq_true hb',if_pos rfl];refine M6 ?_;refine wpAny_updateSeq pS2.1 rfl (M6 (wpAny_letGo ?_));rw [jt];have J3:=J2.turn1 (t':=s''.toks) (pl':=dz ++ [(it,oI')]) fS (λp hp=>by
    rcases O5.mp hp with z | z
    ·exact ⟨by simp [z],nS p z⟩
    ·have:p=(it,oI'):=by simpa using z
     rw [this];exact ⟨by simp,hSI.symm⟩) (λb o hb e=>(s1.2 b hb).trans e) hc2 (λw z=>by cases z)
   refine M8 ⟨X4 A0z _,ih (j + 1) _ _ t t2 c2 oI' "o" hlt (J3.sub λp hp=>by simp only [mem_append,mem_cons,not_mem_nil,or_false] at hp ⊢;rcases hp with h | h | h <;> simp [h]) ⟨oI',(s1.2 it hSI.symm).trans pI2.1,hoc,hod⟩ hzj λi z hi hz=>?_⟩
   by_cases e:i=j + 1
   ·subst e;have:z=ns[j + 1]:=by simpa [hlt] using hz.symm
    rw [this];exact Q6 _
   ·have:=iz i z "o" hz;lia
  ·rw [decide_eq_false hb',if_neg Bool.false_ne_true];refine M6 (wpAny_letGo ?_);rw [jt];refine M8 ⟨X4 A0z _,ih (j + 1) _ zb tb kt c oI' "o" hlt (J2.sub λp hp=>by simp only [mem_append,mem_cons,not_mem_nil,or_false] at hp ⊢;rcases hp with h | h | h <;> simp [h]) hit2 hzb λi z hi hz=>?_⟩
   by_cases e:i=j + 1
   ·subst e;have:z=ns[j + 1]:=by simpa [hlt] using hz.symm
    rw [this];lia
   ·exact iz i z "o" hz
theorem Qt5 {Q:K1} (kf:Int->Int) (hc:X.calm=true) (J:Inv X dz σ H s) (hq:SqL X.K H l (ns.map V.int)) (hne:0 < ns.length)
  (turn:∀ z∈ns,∀ (t:Tok) (pl:G9) (s:G4),(∀ p∈dz,p∈pl)->Inv X pl σ H s->wpAny (model X.prog X.w) X.A.in1 (call (.ref q) [.int z t]) (EP X pl σ λy H'=>y=.int (kf z)/\H'=H) (λ_ _=>False) s)
  (hQ:∀ z t s',z∈ns->(∀ z'∈ns,kf z'<=kf z)->Inv X dz σ H s'->Q (.int z t) s') :
  wpAny (model X.prog X.w) X.A (call (.builtin "max") [.ref l] [(Str.ofString "key",.ref q)]) Q E s:=by
 have jt:(toString "max" ++ toString ".loop" : String)="max.loop" := by decide
 let ⟨its,rv,pl,hz⟩:=J.list hq;have hl:its.length=ns.length:=by have:=rv.length; simpa using this.symm
 have hll:l < s.heap.objs.size:=by let ⟨o,n,e,_⟩:=pl;exact N6 e
 refine kmk_tree PySem.F.kind_max PySem.F.plain_max PySem.F.entry_max (Hr _ _) ?_;show wpAny _ X.A.in1 (Builtin.Builtins.bindParams "max" ["key","default"] 0 ⟨[],[(Str.ofString "key",.ref q)]⟩ >>= _) _ _ s;refine M6 (W4 (show Builtin.Builtins.bindParams "max" ["key","default"] 0 ⟨[],[(Str.ofString "key",.ref q)]⟩=pure [some (.ref q),none] from rfl) ?_);refine M6 (M8 ?_);refine M6 (X5 pl.isList ?_);refine M6 (A0a ?_ (R7 _));rw [jt];have hS:(s.heap.push { cls:=.type "list_iterator",data:=.fields #[.ref l,.int 0 0] }).objs.size=s.heap.objs.size + 1:=size_push' ..;have hlI:l≠s.heap.objs.size:=O7 hll;have gI:((s.heap.push { cls:=.type "list_iterator",data:=.fields #[.ref l,.int 0 0] }).push (seqObj "list" #[] 0)).get? s.heap.objs.size=some { cls:=.type "list_iterator",data:=.fields #[.ref l,.int 0 0] } :=N7 _ (Q5 _ rfl)
 have gS:((s.heap.push { cls:=.type "list_iterator",data:=.fields #[.ref l,.int 0 0] }).push (seqObj "list" #[] 0)).get? (s.heap.push { cls:=.type "list_iterator",data:=.fields #[.ref l,.int 0 0] }).objs.size=some (seqObj "list" #[] 0):=Q5 _ rfl;have J0:Inv X dz σ H { s with heap:=(s.heap.push { cls:=.type "list_iterator",data:=.fields #[.ref l,.int 0 0] }).push (seqObj "list" #[] 0),toks:=s.toks }:=J.kept λb o e=>N7 _ (N7 _ e);have hk0:∀ b o,s.heap.get? b=some o->((s.heap.push { cls:=.type "list_iterator",data:=.fields #[.ref l,.int 0 0] }).push (seqObj "list" #[] 0)).get? b=some o:=λb o e=>N7 _ (N7 _ e);have fI:=J.fpOk (H':=H) (b:=s.heap.objs.size) (O1 _) J.fresh;have fS:=J.fpOk (H':=H) (b:=s.heap.objs.size + 1) (V5 _) (J.hok.fresh (V5 _));rw [hS] at gS ⊢;have fI':Tn X [] H s.heap.objs.size:=⟨fI.1,fI.2.1,fI.2.2.1,fI.2.2.2.1,fI.2.2.2.2.1,λp hp=>fI.2.2.2.2.2 p (by rcases O5.mp hp with z | z <;> first | exact R5 _ z | cases z)⟩
 have fS':Tn X [] H (s.heap.objs.size + 1):=⟨fS.1,fS.2.1,fS.2.2.1,fS.2.2.2.1,fS.2.2.2.2.1,λp hp=>fS.2.2.2.2.2 p (by rcases O5.mp hp with z | z <;> first | exact R5 _ z | cases z)⟩
 have nI:∀ p∈dz,p.1≠s.heap.objs.size:=λp hp=>fI.2.2.2.2.2 p (P0 _ hp);have nS:∀ p∈dz,p.1≠s.heap.objs.size + 1:=λp hp=>fS.2.2.2.2.2 p (P0 _ hp);have hSI:s.heap.objs.size + 1≠s.heap.objs.size:=Nat.succ_ne_self _;generalize (s.heap.push { cls:=.type "list_iterator",data:=.fields #[.ref l,.int 0 0] }).push (seqObj "list" #[] 0)=h0 at *;generalize s.heap.objs.size=it at *;generalize it + 1=S at *;refine M8 ⟨X4 A0z _,?_⟩;have pl0:h0.IsList l its.toArray:=pl.isList.at λo e=>hk0 _ _ e;have W:=W9 (prog:=X.prog) (w:=X.w) (A:=X.A.in1) (J.ok.hd hc) it l hlI its.toArray;refine V7 A1l ?_;rw [Around.under_plainId PySem.F.plain_max_loop _];show wpAny _ X.A.in1 (seqItems? (.ref _) >>= _) _ _ _;refine M6 (A0o gS rfl ?_);show wpAny _ X.A.in1 (tryCatch (pyNext (.ref it)) _ >>= _) _ _ _;refine M6 (A0b (W.item 0 _ _ _ (by rw [size_toArray,hl]; exact hne) ⟨⟨_,gI,rfl,rfl⟩,pl0⟩ λv h' tk' hP hst' hk'=>?_));have hv:its[0]? = some v:=by simpa using hP
 let ⟨u,hu,t,hut⟩:=rv.get (i:=0) (x:=.int ns[0]) (by simp [hne]);rw [hv] at hu;cases hu;subst hut;have hz0:ns[0]∈ns:=M9 hne;let ⟨oI',hoI',hoc,hod⟩:=id hst'.1;have J1:Inv X (dz ++ [(it,oI')]) σ H { s with heap:=h',toks:=tk' }:=J0.turn1 fI' (λp hp=>⟨hp,nI p hp⟩) (λb o hb e=>hk' b o (by simpa using hb) e) hoI' (λw z=>by rw [hod] at z; cases z);have J1':Inv X (dz ++ [(S,seqObj "list" #[] 0),(it,oI')]) σ H { s with heap:=h',toks:=tk' }:=J1.cg λp hp=>by
  simp only [mem_append,mem_cons,not_mem_nil,or_false] at hp;rcases hp with z | z | z
  ·exact J1.pin p (by simp [z])
  ·subst z;exact ⟨hk' _ _ (by simpa using hSI) gS,fS'.1,fS'.2.1,fS'.2.2.1,λv z=>by cases z⟩
  ·exact J1.pin p (by simp [z])
 show wpAny _ X.A.in1 (tryCatch (holding [Value.int ns[0] t] (call (.ref q) [Value.int ns[0] t])) _ >>= _) _ _ _;refine M6 (A0b (U3 (T5 (turn _ hz0 t _ _ (λp hp=>by simp [hp]) J1') (λx s'' he=>?_) λ_ _ hF=>hF.elim)));let ⟨y,H',J2,ry,rfl,rfl⟩:=he;let ⟨t2,rfl⟩:=ry;have pS2:=J2.pin (S,seqObj "list" #[] 0) (by simp);have pI2:=J2.pin (it,oI') (by simp);have s1:=T8 s''.heap S (Obj.mapSeq λ_ => #[.int ns[0] t,.int (kf ns[0]) t2]);obtain ⟨c2,hc2⟩:∃ c2,(s''.heap.update S (Obj.mapSeq λ_ => #[.int ns[0] t,.int (kf ns[0]) t2])).get? S=some (seqObj "list" #[.int ns[0] t,.int (kf ns[0]) t2] c2):=⟨_,Z7 pS2.1 λ_ => #[.int ns[0] t,.int (kf ns[0]) t2]⟩
 show wpAny _ X.A.in1 (updateSeq S (λ_ => #[.int ns[0] t,.int (kf ns[0]) t2]) >>= _) _ _ _;refine M6 ?_;refine wpAny_updateSeq pS2.1 rfl ?_;rw [jt];have J3:=J2.turn1 (t':=s''.toks) (pl':=dz ++ [(it,oI')]) fS' (λp hp=>by
  rcases O5.mp hp with z | z
  ·exact ⟨by simp [z],nS p z⟩
  ·have:p=(it,oI'):=by simpa using z
   rw [this];exact ⟨by simp,hSI.symm⟩) (λb o hb e=>(s1.2 b hb).trans e) hc2 (λw z=>by cases z)
 refine M8 ⟨X4 A0z _,Qh7 kf hc hq fI' fS' hSI hlI nI nS turn hQ _ 0 _ _ t t2 c2 oI' rfl hne (J3.sub λp hp=>by simp only [mem_append,mem_cons,not_mem_nil,or_false] at hp ⊢;rcases hp with h | h | h <;> simp [h]) ⟨oI',(s1.2 it hSI.symm).trans pI2.1,hoc,hod⟩ hz0 λi z hi hz=>?_⟩
 have:i=0:=by lia
 subst this;have:z=ns[0]:=by simpa [hne] using hz.symm
 rw [this];exact Q6 _
end
def Qi4:HO->Bool
 | .tbl _=>true
 | _=>false
structure Qt (H H':Hp):Prop where
 to:∀ b o,H b=some o->Qi4 o=false->H' b=some o
 th:∀ b,H' b=none->H b=none
def Qt.refl (H:Hp):Qt H H:=⟨λ_ _ h _=>h,λ_ h=>h⟩
def Qt.trans {H2:Hp} (a:Qt H H1) (b:Qt H1 H2):Qt H H2:=⟨λc o h z=>b.to c o (a.to c o h z) z,λc h=>a.th c (b.th c h)⟩
def Qu.b (a:Qu H H'):Qt H H':=⟨λc o h _=>a c o h,λc h=>a.free h⟩
def Qa (H:Hp) (P:G5) (pos:Pos) (qual:Str):Prop :=H P=some (.tbl #[])\/∃ c' oc vs t,H P=some (.tbl #[rawInt pos.line,rawInt pos.col,.ref c'])/\H c'=some (.frz oc (.own 0))/\oc.data=.fields vs/\vs[1]? = some (.str qual t)
def Qa.same {P:G5} (h:Qa H P pos qual) (s:Qu H H'):Qa H' P pos qual:=by
 rcases h with h | ⟨c',oc,vs,t,h1,h2,h3⟩
 ·exact .inl (s _ _ h)
 ·exact .inr ⟨c',oc,vs,t,s _ _ h1,s _ _ h2,h3⟩
section
variable {dz:G9} {σ:St} {s:G4} {P:G5} {params:Arguments} {body:Expr} {bh:Pos}
def Qt.seq (e:Qt H H') (h:SqL K H a xs):SqL K H' a xs:=by
 rcases h with (h | ⟨o,h⟩) | h
 ·exact .inl (.inl (e.to _ _ h rfl))
 ·exact .inl (.inr ⟨o,e.to _ _ h rfl⟩)
 ·exact .inr h
end
structure SrcL (K:M7) (mg:J9) (x qual:Str) (st:Stmt) (c P:G5):Prop where
 ex:∃ (f:G5) (oc:G3) (od:M5) (kV doc pm:G3) (an:M5) (ct:G3) (osl:Array K7),K.lookup f=some ⟨oc,od,.func (PySem.W.fnOf x qual (Yx st) (Zd st) (Qp st) .none kV doc pm an (.ref c) ct),osl⟩/\PySem.W.codeIn K (.ref c) qual=true/\PySem.W.keepIn K (.ref f)=true/\mg x=some (.ref f)
 hd:PySem.W.codeHdIn K c P=true
def Ql3 {P:G5} (X:K.In h) (G:h.Ns mainGlobals mg)
  (a:PySem.W.nsIn K mainGlobals x=some (some (.ref f))) (l:K.lookup f=some ⟨oc,od,.func (PySem.W.fnOf x qual (Yx st) (Zd st) (Qp st) .none kV doc pm an (.ref c) ct),osl⟩)
  (hc:PySem.W.codeIn K (.ref c) qual=true) (k:PySem.W.keepIn K (.ref f)=true) (hd:PySem.W.codeHdIn K c P=true):SrcL K mg x qual st c P:=⟨⟨f,oc,od,kV,doc,pm,an,ct,osl,l,hc,k,PySem.W.mg_of X G a⟩,hd⟩
section
variable {P:G8} {base:Heap}
def SrcL.mkL {PT:G5} (S:SrcL K mg x qual st c PT) (Sc:Xa N ps (Qp st)) (len:∀ vs H Q E,sp vs H Q E->vs.length=ps.length)
  (hb:∀ (kV doc pm:G3) (an:M5) (cdv ct:G3) (us:K5),us.length=ps.length->bindArgs (PySem.W.fnOf x qual (Yx st) (Zd st) (Qp st) .none kV doc pm an cdv ct) ⟨us,[]⟩=pure (ps.zip us))
  (ir:∀ (f:G5) (A:G7) (outer:List Env) (s:G4) (H:Hp) (vs:List V) (Q:VK) (E:XK),Uq k (A.deeper (envOfC qual (Qp st) s.heap.objs.size f (.ref c)))->sp vs H Q E ->
   ∃ t,PSs (Cf CX0 P w K mg base N qual (Qp st) f (.ref c) A outer s H E).nox (Zd st) t/\t { nx:=λ_ H'=>Q .non H',rt:=Q } (start N vs) H):Def P w K mg base (k + 1) x ps sp:=by
 let ⟨f,oc,od,kV,doc,pm,an,ct,osl,lk,hcd,kp,hm⟩:=S.ex;refine ⟨f,_,hm,kp,.all (hb kV doc pm an (.ref c) ct),Qcv lk hcd Sc len λA outer s H vs Q E hr hsp=>?_,oc,od,osl,lk⟩;let ⟨t,h,q⟩:=ir f A outer s H vs Q E hr hsp;exact ⟨t,h.nox,q⟩
def Qtq {p:Str} {fa:G5} {ts:K6} (S:Src K mg x x st)
  (hb:∀ (kV doc pm:G3) (an:M5) (cdv ct:G3) (u:G3),bindArgs (PySem.W.fnOf x x (Yx st) (Zd st) (Qp st) .none kV doc pm an cdv ct) ⟨[u],[]⟩=pure [(p,u)])
  (h:∀ base:Heap,(∀ PT∈ts,base.BuiltinsAt mg PT)->Def P w K mg base k x [p] sp) (hfa:mg x=some (.ref fa)) :
  ∃ fd:FuncData,(∀ (s:G4) (u:G3),BindsTo s fd ⟨[u],[]⟩ [(p,u)])/\∀ base:Heap,K.In base->base.Ns mainGlobals mg->(∀ PT∈ts,base.BuiltinsAt mg PT)->Cg P w K mg base CX0 k fa fd [p] sp:=by
 let ⟨f,fd,F,hm⟩:=S.ex;rw [hm] at hfa;cases hfa;let ⟨oc,od,kV,doc,pm,an,cdv,ct,osl,e,lk,hcd⟩:=F.ex;refine ⟨fd,λs u=>by subst e; exact .of_eq (hb kV doc pm an cdv ct u),λbase _ _ hB=>?_⟩;let ⟨f',fd',hm',_,_,G,oc',od',osl',lk'⟩:=(h base hB).ex;rw [hm] at hm';cases hm';rw [lk] at lk';cases lk';exact G
end
theorem Qu3 {P:G8} {mb:J9} {fa:G5} {s₁:G4} {vs:K5} {ts:K6}
  (KX:K.In s₁.heap) (hns:s₁.heap.Ns mainGlobals mg) (hb:s₁.heap.Ns builtinsNs mb) (hbb:∀ x:Str,x≠"__name__"->mb x=bootBuiltins x) (hlim:s₁.heap.NoLimit) (hg:s₁.gens=#[])
  (ht:∀ PT∈ts,s₁.heap.get? PT=some (PySem.W.tabObj #[])) (hcd:∀ PT∈ts,∃ c,PySem.W.codeHdIn K c PT=true) (hnt:PySem.W.noTabs K=true) (hbm:∃ bm ob,mg "__builtins__" = some (.ref bm)/\bm≠builtinsNs/\s₁.heap.get? bm=some ob/\ob.cls=.type "module"/\ob.dict=some builtinsNs/\ob.data=.plain)
  (ha:s₁.heap.get? a=some { cls:=.type "list",data:=.seq vs.toArray }) (hi:IntsAre vs ns) (hl:ns.length<=sizeLine) (hr:Uq k callerA)
  (F:∀ base:Heap,K.In base->base.Ns mainGlobals mg->(∀ PT∈ts,base.BuiltinsAt mg PT)->Cg P w K mg base CX0 k fa fd [x] sp) (jh:∀ (s:G4) (u:G3),BindsTo s fd ⟨[u],[]⟩ [(x,u)])
  (hsp:∀ H:Hp,(∀ PT∈ts,H PT=some (.tbl #[]))->SqL K H a (ns.map V.int)->sp [.ref a] H (λv _=>v=.bl true) λ_ _ _=>False) :
  codeAny (model P w) callerA (.call (.ref fa) ⟨[.ref a],[]⟩) (λr s'=>r=.ok (.ret (.bool true))/\OldK s₁.heap s'.heap/\s'.os=s₁.os/\AllBare s'.gens) s₁:=by
 have rv:=Bc hi;have lenV:=hi.length;have naT:a ∉ ts:=λz=>by have:=ht a z;rw [ha] at this;cases this
 have nKT:∀ PT∈ts,K.lookup PT=none:=λPT hP=>by
  cases q:K.lookup PT with
  | none=>rfl
  | some o =>have e:=KX PT o q;rw [ht PT hP] at e;cases e;have h2:=all_eq_true.mp hnt (PT,_) (PySem.W.mem_of_lookupK q);exact absurd (show false=true from h2) R8
 have core:∀ H:Hp,(∀ b,H b=none\/(b∈ts/\H b=some (.tbl #[]))\/∃ o xs,H b=some (.frz o (.lst xs)))->(∀ PT∈ts,H PT=some (.tbl #[]))->SqL K H a (ns.map V.int)->HOk P w H s₁.heap->(∀ b,H b≠none->b=a\/b∈ts)->(H a≠none->K.lookup a=none) ->
   codeAny (model P w) callerA (.call (.ref fa) ⟨[.ref a],[]⟩) (λr s'=>r=.ok (.ret (.bool true))/\OldK s₁.heap s'.heap/\s'.os=s₁.os/\AllBare s'.gens) s₁:=by
  intro H hO hTs hS hok hA hK;have base_of:∀ {b:G5} {o:Obj},s₁.heap.get? b=some o->H b=none->(Qb7 s₁.heap H).get? b=some o:=λe n=>Qhv e n;have noA:∀ {b:G5} {o:Obj},s₁.heap.get? b=some o->o≠{ cls:=.type "list",data:=.seq vs.toArray }->o≠PySem.W.tabObj #[]->H b=none:=λ{b o} e d1 d2=>by
   cases q:H b with
   | none=>rfl
   | some u =>
    rcases hA b (by rw [q]; simp) with z | z
    ·subst z;rw [ha] at e; cases e;exact absurd rfl d1
    ·rw [ht b z] at e; cases e;exact absurd rfl d2
  have nsK:∀ {b:G5} {m:J9},s₁.heap.Ns b m->(Qb7 s₁.heap H).Ns b m:=λ{b m} ⟨o,es,ep,e,d,r⟩=>⟨o,es,ep,base_of e (noA e (λz=>by rw [z] at d; cases d) λz=>by rw [z] at d; cases d),d,r⟩
  have hKb:K.In (Qb7 s₁.heap H):=λb o e=>base_of (KX b o e) (by
   cases q:H b with
   | none=>rfl
   | some u =>
    rcases hA b (by rw [q]; simp) with z | z
    ·subst z;rw [hK (by rw [q]; simp)] at e; cases e
    ·rw [nKT b z] at e; cases e)
  have hM:Mod K mg (Qb7 s₁.heap H):=⟨hKb,nsK hns,⟨mb,nsK hb,hbb⟩,let ⟨mc,h1,h2⟩:=hlim; ⟨mc,nsK h1,h2⟩⟩
  have hBA:∀ PT∈ts,(Qb7 s₁.heap H).BuiltinsAt mg PT:=λPT hP=>by
   let ⟨bm,ob,b1,b2,b3,b4,b5,b6⟩:=hbm;refine ⟨bm,ob,b1,b2,λz=>?_,λz=>?_,base_of b3 (noA b3 (λz=>by rw [z] at b6; cases b6) λz=>by rw [z] at b4; cases b4),b4,b5,b6⟩
   ·let ⟨o,es,ep,e,d,_⟩:=hns;rw [<- z,b3] at e;cases e;rw [b6] at d;cases d
   ·rw [z,ht PT hP] at b3;cases b3;cases b4
  have e0:Qc7 P w K mg (Qb7 s₁.heap H) callerA [] s₁ H:=⟨rfl,hM,λb o e=>Qt3 e,A0k (Qu9 _ _),trivial,λb hb=>absurd (show b∈([]:K6) from hb) (by simp),hok,.of_eq hg⟩
  refine Z9 ((F _ hKb (nsK hns) hBA).run callerA [] s₁ H ⟨[.ref a],[]⟩ [.ref a] [.ref a] _ _ hr e0 (jh s₁ (.ref a)) (.cons rfl .nil) (hsp H hTs hS)) λr s' h=>?_;cases r with
  | error e=>exact h.elim
  | ok fl =>
   cases fl with
   | next=>exact False.elim h
   | brk=>exact False.elim h
   | cont=>exact False.elim h
   | ret u =>
    let ⟨v,H',os,bare,un,hok',r',q⟩:=h;have q':v=.bl true:=q;subst q';obtain rfl:u=Value.bool true:=r';refine ⟨rfl,⟨λb o e=>?_,λb o e=>?_⟩,os,bare⟩
    ·rcases hO b with z | ⟨zt,z⟩ | ⟨ob,xs,z⟩
     ·exact .inl (un.keep b o e z (by intro z; exact absurd (show b∈([]:K6) from z) (by simp)) (by simp))
     ·let ⟨more,z2⟩:=un.tbls b _ z;have e2:=hok' b _ z2;rw [ht b zt] at e;cases e;let ⟨c,hc⟩:=hcd b zt;exact .inr (.inl ⟨((PySem.W.codeHd_of_K KX hc).tab (ht b zt)).isCodeTable,rfl,#[],more,rfl,e2⟩)
     ·have z2:=un.frzs b ob _ z;let ⟨e1,_⟩:=hok b _ z;let ⟨e2,_⟩:=hok' b _ z2;rw [e] at e1; cases e1;exact .inl e2
    ·exact un.there b o e (by simp)
 cases hk:K.lookup a with
 | some o =>
  have e:=KX a o hk;rw [ha] at e;cases e;refine core (λb=>if b∈ts then some (.tbl #[]) else none) (λb=>?_) (λPT hP=>V2 hP) (.inr ⟨_,vs.toArray,_,hk,rfl,rfl,rfl,by rw [size_toArray,lenV]; exact hl,by simpa using rv⟩) (λb u z=>?_) (λb z=>?_) λz=>absurd (U6 naT) z
  ·by_cases hb':b∈ts
   ·exact .inr (.inl ⟨hb',V2 hb'⟩)
   ·exact .inl (U6 hb')
  ·by_cases hb':b∈ts
   ·have z':=(V2 hb').symm.trans z;cases z';exact ht b hb'
   ·have z':=(U6 hb').symm.trans z;cases z'
  ·by_cases hb':b∈ts
   ·exact .inr hb'
   ·exact absurd (U6 hb') z
 | none =>
  refine core (λb=>if b=a then some (.frz { cls:=.type "list",data:=.seq vs.toArray } (.lst (ns.map V.int))) else if b∈ts then some (.tbl #[]) else none) (λb=>?_) (λPT hP=>?_) (.inl (.inr ⟨{ cls:=.type "list",data:=.seq vs.toArray },V2 rfl⟩)) (λb u z=>?_) (λb z=>?_) λ_=>hk
  ·by_cases hb':b=a
   ·exact .inr (.inr ⟨_,_,V2 hb'⟩)
   ·by_cases hb2:b∈ts
    ·exact .inr (.inl ⟨hb2,by rw [if_neg hb',if_pos hb2]⟩)
    ·exact .inl (by rw [if_neg hb',if_neg hb2])
  ·have hne:PT≠a:=λz=>naT (by rw [<- z]; exact hP);rw [if_neg hne,if_pos hP]
  ·by_cases hb':b=a
   ·have z':=(V2 hb').symm.trans z;cases z';subst hb';exact ⟨ha,by rw [length_map]; exact hl,vs,_,rv,ha⟩
   ·by_cases hb2:b∈ts
    ·have z':=((U6 hb').trans (V2 hb2)).symm.trans z;cases z';exact ht b hb2
    ·have z':=((U6 hb').trans (U6 hb2)).symm.trans z;cases z'
  ·by_cases hb':b=a
   ·exact .inl hb'
   ·by_cases hb2:b∈ts
    ·exact .inr hb2
    ·exact absurd ((U6 hb').trans (U6 hb2)) z
def Qp0 {l:PySem.W.OpenLaw} {q:G8} {loose:K9} {XP:J9->Heap->Prop} {YP:World->Heap->Prop} {d:DefRec} {K:Params->M7} {sp:World->Sp} {ts:K6}
  (hn:l.most=some n) (hn2:n<=sizeLine) (hdf:d.params.defaults=[]) (hr:Uq k callerA)
  (hY:∀ (w:World) (h:Heap),YP w h->(K w.params).In h/\∀ PT∈ts,h.get? PT=some (PySem.W.tabObj #[])) (hcd:∀ w:World,(ts.all λPT=>(K w.params).any λp=>PySem.W.codeHdIn (K w.params) p.1 PT)=true) (hnt:∀ w:World,PySem.W.noTabs (K w.params)=true)
  (F:∀ (w:World) (mg:J9) (fa:G5) (h:Heap),(K w.params).In h->h.Ns mainGlobals mg->mg d.name=some (.ref fa) ->
   ∃ fd:FuncData,(∀ (s:G4) (u:G3),BindsTo s fd ⟨[u],[]⟩ [(x,u)]) /\
    ∀ base:Heap,(K w.params).In base->base.Ns mainGlobals mg->(∀ PT∈ts,base.BuiltinsAt mg PT)->Cg l.prog w (K w.params) mg base CX0 k fa fd [x] (sp w))
  (hsp:∀ (w:World) (H:Hp) (a:G5) (ns:K3),ns.length<=n->(∀ z∈ns,Builtin.Int.intBits z<=1048576)->(∀ PT∈ts,H PT=some (.tbl #[]))->SqL (K w.params) H a (ns.map V.int)->sp w [.ref a] H (λv _=>v=.bl true) λ_ _ _=>False) :
  PySem.W.WalkO q loose XP YP l.row.toRowW d [] (λf vs=>PySem.call f vs):=by
 intro w s₀ s₁ mg mb G Y fa o pm cd doc dV kV ho hd hcd' hD hmg hg args vals as hpre hlay hrd hwl hlo;obtain rfl:dV=.none:=PySem.W.Dflts.none hD hdf;obtain rfl:kV=.none:=PySem.W.Dflts.noKw hD;let ⟨a,vs,ns,rfl,rfl,hobj,hints,fu⟩:=Att.script_of hn hpre hwl;have hbits:=Ab hlay;let ⟨KX,hts⟩:=hY w _ Y;let ⟨fd,hb,hF⟩:=F w mg fa _ KX G.T.g hmg;refine PySem.W.enter_call (Z9 (Qu3 (ts:=ts) KX G.T.g G.T.b G.T.builtins G.T.nolimit hg hts (λPT hP=>by let ⟨p,_,h⟩:=any_eq_true.mp (all_eq_true.mp (hcd w) PT hP);exact ⟨_,h⟩) (hnt w) G.T.bmain hobj hints (O6 fu hn2) hr hF hb (λH hT hS=>hsp w H a ns fu hbits hT hS)) λr s' hq=>?_)
 let ⟨rfl,h2,h3,h4⟩:=hq;exact ⟨.inl ⟨.bool true,.bool true,[],rfl,λ_=>rfl,.bool true,Att.post_true l _,λ_=>⟨List.Pairwise.nil,λ_ hm=>(nomatch hm)⟩⟩,h2,h3,h4⟩
def Cc {base:Heap} {PT:G5} (x qual:Str) (st:Stmt) (_hB:∀ P∈[PT],base.BuiltinsAt mg P) (X:K.In h) (G:h.Ns mainGlobals mg)
  (a:PySem.W.nsIn K mainGlobals x=some (some (.ref f))) (l:K.lookup f=some ⟨oc,od,.func (PySem.W.fnOf x qual (Yx st) (Zd st) (Qp st) .none kV doc pm an (.ref c) ct),osl⟩)
  (hc:PySem.W.codeIn K (.ref c) qual=true) (k:PySem.W.keepIn K (.ref f)=true) (hd:PySem.W.codeHdIn K c PT=true):∃ c,SrcL K mg x qual st c PT:=⟨c,Ql3 X G a l hc k hd⟩
end L2
namespace BW
variable {r l p:Nat} {B:Nat->Nat} {g:Int} {c:List (Nat × Nat)}
def wsum (W:Nat->Nat->Int) (v:K4):Int:=((range v.length).map λi=>W i (v.getD i 0)).sum
def Fit (B:Nat->Nat) (v:K4):Prop:=∀ r,v.count r<=B r
def ind (a b:Nat):Nat:=if a=b then 1 else 0
def Tb (a:Nat):ind a a=1:=V2 rfl
def Al {a b:Nat} (h:a≠b):ind a b=0:=U6 h
def wsum_snoc (W:Nat->Nat->Int) (v:K4) (r:Nat):wsum W (v ++ [r])=wsum W v + W v.length r:=by
 unfold wsum;rw [length_append,length_singleton,range_succ,map_append,sum_append]
 congr 1
 ·congr 1
  refine R6 λi hi=>?_;have hi:=N8.mp hi;simp [getD,getElem?_append_left hi]
 ·simp [getD]
theorem Nb {f g:Nat->Int} {j:Nat}:∀ {n:Nat},j < n->(∀ i,i≠j->f i=g i)->((range n).map f).sum=((range n).map g).sum - g j + f j
 | 0,h,_=>absurd h (A1a _)
 | n + 1,h,e=>by
  rw [range_succ,map_append,map_append,sum_append,sum_append]
  by_cases hj:j=n
  ·subst hj;have:(range j).map f=(range j).map g:=R6 λi hi=>e i (O7 (N8.mp hi));rw [this];simp
  ·have:=Nb (f:=f) (g:=g) (n:=n) "o" e;rw [this];have e2:=e n (λz=>hj z.symm);simp [e2];lia
def Mz (W:Nat->Nat->Int) (v:K4) {j:Nat} (h:j < v.length):wsum W (v.set j r)=wsum W v - W j v[j] + W j r:=by
 unfold wsum;rw [length_set];have:=Nb (f:=λi=>W i ((v.set j r).getD i 0)) (g:=λi=>W i (v.getD i 0)) h (λi hi=>by simp [getD,getElem?_set_ne (λz=>hi z.symm)])
 rw [this];simp [getD,h]
theorem Pp {v:K4} {j x:Nat} (h:j < v.length):(v.set j r).count x + ind x v[j]=v.count x + ind x r:=by
 rw [count_set h];unfold ind;have hpos:v[j]=x->0 < v.count x:=λe=>V8.mpr (e ▸ M9 h)
 by_cases h1:v[j]=x <;> by_cases h2:r=x
 ·have:=hpos h1;simp [h1,h2]; lia
 ·have:=hpos h1;have h2':x≠r:=λz=>h2 z.symm;simp [h1,h2,h2']; lia
 ·have h1':x≠v[j]:=λz=>h1 z.symm;simp [h1,h2,h1']
 ·have h1':x≠v[j]:=λz=>h1 z.symm;have h2':x≠r:=λz=>h2 z.symm;simp [h1,h2,h1',h2']
theorem Rr:∀ {a b:K4} {r:Nat},a.length=b.length->(∀ p:Nat,a[p]? = some r->b[p]? = some r)->a.count r<=b.count r
 | [],_,_,_,_=>by simp
 | x :: a,[],r,h,_=>by simp at h
 | x :: a,y :: b,r,h,e=>by
  have ih:=Rr (a:=a) (b:=b) (r:=r) (by simpa using h) λp hp=>by have:=e (p + 1) (by simpa using hp);simpa using this
  rw [count_cons,count_cons];have e0:=e 0
  by_cases hx:x=r
  ·subst hx;have:y=x:=by simpa using e0 rfl
   subst this;lia
  ·simp [hx];lia
theorem Qg3 {l:K4} {p q:Nat->Bool}:∀ (_:∀ x∈l,q x=true->p x=true) (_:∃ x∈l,p x=true/\q x=false),l.countP q < l.countP p:=by
 induction l with
 | nil=>rintro _ ⟨x,hx,_⟩; cases hx
 | cons a l ih =>
  rintro h ⟨x,hx,h1,h2⟩;rw [countP_cons,countP_cons];have hm:l.countP q<=l.countP p:=countP_mono_left λy hy=>h y (Q0 _ hy);rcases Q8.mp hx with z | z
  ·subst z;simp [h1,h2];lia
  ·have:=ih (λy hy=>h y (Q0 _ hy)) ⟨x,z,h1,h2⟩;have ha:=h a O9
   by_cases hq:q a=true
   ·simp [hq,ha hq]; lia
   ·simp [hq]; split <;> lia
def core {W:Nat->Nat->Int} {way:K4} {g:Nat->Int} {G:Int} {R:Nat} (hB:∀ r,R<=r->B r=0) (fj:∀ v:K4,v.length=way.length->Fit B v->wsum W v<=wsum W way)
  (hfix:∀ p (hp:p < way.length) r,r < R->g way[p] + W p r - W p way[p]<=g r) (hG:∀ r,way.count r < B r->g r<=G) :
  ∀ (d:Nat) (v:K4) (r:Nat),v.length=way.length->(range way.length).countP (λi=>decide (v[i]?≠way[i]?))<=d->(∀ s,v.count s + ind s r<=B s)->wsum W v + g r<=wsum W way + G:=by
 intro d
 induction d with
 | zero =>
  intro v r hl hd hf
  by_cases ho:way.count r < B r
  ·have h1:=fj v hl λs=>by have:=hf s; lia
   have h2:=hG r ho;lia
  ·exfalso;have hr:=hf r;rw [Tb] at hr;have:way.count r<=v.count r:=Rr hl.symm λp hp=>by
    have h0:=Nat.le_zero.mp hd;have hpl:p < way.length:=(N5.mp hp).1;have:=countP_eq_zero.mp h0 p (N8.mpr hpl);have e:v[p]? = way[p]?:=by simpa using this
    rw [e]; exact hp
   lia
 | succ d ih =>
  intro v r hl hd hf
  by_cases ho:way.count r < B r
  ·have h1:=fj v hl λs=>by have:=hf s; lia
   have h2:=hG r ho;lia
  ·have hr:=hf r;rw [Tb] at hr;have hex:∃ p:Nat,way[p]? = some r/\v[p]?≠some r:=by
    refine R4 λhn=>?_;have:way.count r<=v.count r:=Rr hl.symm λp hp=>by refine R4 λz=>hn ⟨p,hp,z⟩
    lia
   let ⟨p,hp,hv⟩:=hex;let ⟨hpl,hpe⟩:=N5.mp hp;have hpv:p < v.length:=by lia
   have hv':v[p]≠r:=λz=>hv (by simp [hpv,z]);have hrB:r < R:=by refine R4 λz=>?_;have:=hB r "o";lia
   have hvR:v[p] < R:=by refine R4 λz=>?_;have h1:=hB v[p] "o";have h2:=hf v[p];have h3:0 < v.count v[p]:=V8.mpr (M9 hpv);lia
   have h1:=ih (v.set p r) v[p] (by simpa using hl) (by
    have:(range way.length).countP (λi=>decide ((v.set p r)[i]?≠way[i]?)) < (range way.length).countP (λi=>decide (v[i]?≠way[i]?)):=Qg3 (λx hx hq=>by
     have hq':(v.set p r)[x]?≠way[x]?:=Q7 hq;refine O8 λz=>hq' ?_
     by_cases hxp:x=p
     ·subst hxp;rw [getElem?_set_self hpv,hp]
     ·rw [getElem?_set_ne (λz=>hxp z.symm)];exact z) ⟨p,N8.mpr hpl,O8 (by rw [hp]; exact hv),S8 (by rw [getElem?_set_self hpv,hp]; simp)⟩
    lia) λs=>by have h2:=Pp (v:=v) (j:=p) (r:=r) (x:=s) hpv;have h3:=hf s;have h4:ind s v[p]=ind s v[p]:=rfl;lia
   have h2:=Mz W v (j:=p) (r:=r) hpv;have h3:=hfix p hpl v[p] hvR;rw [hpe] at h3;lia
inductive Seg (W:Nat->Nat->Int) (way:K4) (R:Nat) (s:Nat):List (Nat × Nat)->Nat->Int->Prop
 | nil:s < R->Seg W way R s [] s 0
 | snoc {c:List (Nat × Nat)} {l:Nat} {g:Int} {p r:Nat}:Seg W way R s c l g->way[p]? = some l->r < R->r ∉ s :: c.map (·.2)->Seg W way R s (c ++ [(p,r)]) r (g + W p r - W p l)
section
variable {W:Nat->Nat->Int} {way:K4} {R s:Nat}
def endOf (s:Nat) (c:List (Nat × Nat)):Nat:=(c.getLast?.map (·.2)).getD s
def Qd9 (W:Nat->Nat->Int) (way:K4) (c:List (Nat × Nat)):Int:=(c.map λm=>W m.1 m.2 - W m.1 (way.getD m.1 0)).sum
theorem Seg.end_ (h:Seg W way R s c l g):l=endOf s c/\g=Qd9 W way c:=by
 induction h with
 | nil _=>exact ⟨rfl,rfl⟩
 | snoc h hp _ _ ih =>refine ⟨by simp [endOf],?_⟩;rw [ih.2];simp [Qd9,getD,hp];lia
theorem Seg.mem (h:Seg W way R s c l g):l∈s :: c.map (·.2):=by
 cases h with
 | nil _=>simp
 | snoc h _ _ _=>simp
theorem Seg.lt (h:Seg W way R s c l g):∀ x∈s :: c.map (·.2),x < R:=by
 induction h with
 | nil h=>intro x hx; simp at hx; rw [hx]; exact h
 | snoc h _ hr _ ih =>
  intro x hx;rw [map_append] at hx;rcases O5.mp (show x∈(s :: _) ++ _ from hx) with z | z
  ·exact ih x z
  ·simp at z; rw [z]; exact hr
theorem Seg.nodup (h:Seg W way R s c l g):(s :: c.map (·.2)).Nodup:=by
 induction h with
 | nil _=>simp
 | @snoc c _ _ p r h _ _ hn ih =>
  rw [map_append];show ((s :: c.map (·.2)) ++ [r]).Nodup;refine nodup_append.mpr ⟨ih,by simp,λa ha b hb=>?_⟩;have:b=r:=by simpa using hb
  rw [this];exact λz=>hn (z ▸ ha)
theorem Seg.split (h:Seg W way R s c l g):∀ x∈s :: c.map (·.2),∃ c1 c2 g1 g2,c=c1 ++ c2/\Seg W way R s c1 x g1/\Seg W way R x c2 l g2/\g=g1 + g2:=by
 induction h with
 | nil h =>
  intro x hx;have:x=s:=by simpa using hx
  subst this;exact ⟨[],[],0,0,rfl,.nil h,.nil h,rfl⟩
 | @snoc c l g p r h hp hr hn ih =>
  intro x hx;rw [map_append] at hx;rcases O5.mp (show x∈(s :: c.map (·.2)) ++ [r] from hx) with z | z
  ·let ⟨c1,c2,g1,g2,rfl,a,b,e⟩:=ih x z;refine ⟨c1,c2 ++ [(p,r)],g1,g2 + W p r - W p l,by simp,a,.snoc b hp hr λq=>?_,"o"⟩;rcases Q8.mp q with q | q
   ·exact hn (q ▸ z)
   ·exact hn (Q0 _ (by simp only [map_append]; exact P0 _ q))
  ·have:x=r:=by simpa using z
   subst this;exact ⟨c ++ [(p,x)],[],_,0,by simp,.snoc h hp hr hn,.nil hr,"o"⟩
def app (v:K4) (c:List (Nat × Nat)):K4:=c.foldl (λv m=>v.set m.1 m.2) v
def Il (v:K4) (c:List (Nat × Nat)) (m:Nat × Nat):app v (c ++ [m])=(app v c).set m.1 m.2:=by simp [app]
theorem Seg.app {c:List (Nat × Nat)} {l:Nat} {g:Int} (h:Seg W way R s c l g) :
  (app way c).length=way.length/\wsum W (app way c)=wsum W way + g/\(∀ x,(app way c).count x + ind x s=way.count x + ind x l)/\∀ q r:Nat,way[q]? = some r->(r ∉ s :: c.map (·.2)\/r=l)->(BW.app way c)[q]? = some r:=by
 induction h with
 | nil _=>exact ⟨rfl,by simp [BW.app],λx=>rfl,λq r h _=>h⟩
 | @snoc c l g p r h hp hr hn ih =>
  let ⟨i1,i2,i3,i4⟩:=ih;let ⟨hpl,hpe⟩:=N5.mp hp;have hpa:p < (BW.app way c).length:=by lia
  have hv:=i4 p l hp (.inr rfl);have hv':(BW.app way c)[p]=l:=by rw [getElem?_eq_getElem hpa] at hv;exact Q9 hv
  rw [Il];dsimp only;refine ⟨by simpa using i1,?_,λx=>?_,λq r' hq hc=>?_⟩
  ·rw [Mz W _ hpa,i2,hv'];lia
  ·have h1:=Pp (v:=BW.app way c) (j:=p) (r:=r) (x:=x) hpa;have h2:=i3 x;rw [hv'] at h1;lia
  ·have kh:r' ∉ s :: c.map (·.2):=by
    rcases hc with z | z
    ·intro w;refine z ?_;rw [map_append];exact R5 [r] w
    ·rw [z]; exact hn
   have hqp:q≠p:=λz=>by rw [z,hp] at hq;have:l=r':=Q9 hq;exact kh (this ▸ h.mem)
   rw [getElem?_set_ne (λz=>hqp z.symm)];exact i4 q r' hq (.inl kh)
theorem Seg.persons (h:Seg W way R s c l g):∀ m∈c,m.1 < way.length/\m.2 < R:=by
 induction h with
 | nil _=>intro m hm; cases hm
 | @snoc c l g p r h hp hr _ ih =>
  intro m hm;rcases O5.mp hm with z | z
  ·exact ih m z
  ·have:m=(p,r):=by simpa using z
   rw [this];exact ⟨(N5.mp hp).1,hr⟩
theorem Seg.round (f9:Fit B way) (fj:∀ v:K4,v.length=way.length->Fit B v->wsum W v<=wsum W way) (h:Seg W way R s c l g) (hp:way[p]? = some l):g + W p s - W p l<=0:=by
 let ⟨i1,i2,i3,i4⟩:=h.app;let ⟨hpl,hpe⟩:=N5.mp hp;have hpa:p < (BW.app way c).length:=by lia
 have hv:=i4 p l hp (.inr rfl);have hv':(BW.app way c)[p]=l:=by rw [getElem?_eq_getElem hpa] at hv;exact Q9 hv
 have h1:=fj ((BW.app way c).set p s) (by simpa using i1) λx=>by have h1:=Pp (v:=BW.app way c) (j:=p) (r:=s) (x:=x) hpa;have h2:=i3 x;have h3:=f9 x;rw [hv'] at h1;lia
 rw [Mz W _ hpa,i2,hv'] at h1;lia
end
theorem Km:∀ (R:Nat) (l:K4),l.Nodup->(∀ x∈l,x < R)->l.length<=R
 | 0,l,_,h=>by
  cases l with
  | nil=>simp
  | cons a r=>exact absurd (h a O9) (A1a _)
 | R + 1,l,hn,h=>by
  have h1:=Km R (l.erase R) (hn.erase _) λx hx=>by have hx':=(hn.mem_erase_iff).mp hx;have:=h x hx'.2;have:=hx'.1;lia
  have h2:=length_erase (a:=R) (l:=l)
  split at h2 <;> lia
abbrev GM:=K3 × List (List (Nat × Nat))
variable {st:GM}
def Yg (W:Nat->Nat->Int) (p l:Nat) (st:GM) (r:Nat):GM :=if st.1.getD r 0 < st.1.getD l 0 + W p r - W p l then (st.1.set r (st.1.getD l 0 + W p r - W p l),st.2.set r (st.2.getD l [] ++ [(p,r)])) else st
def Xh (W:Nat->Nat->Int) (way:K4) (R:Nat) (st:GM) (p:Nat):GM:=(range R).foldl (Yg W p (way.getD p 0)) st
def turn (W:Nat->Nat->Int) (way:K4) (R:Nat) (st:GM):GM:=(range way.length).foldl (Xh W way R) st
def turns (W:Nat->Nat->Int) (way:K4) (R:Nat) (st:GM) (k:Nat):GM:=(range k).foldl (λst _=>turn W way R st) st
def first (W:Nat->Nat->Int) (way:K4) (R:Nat):GM:=((range R).map λr=>W way.length r,(range R).map λr => [(way.length,r)])
def Pq (W:Nat->Nat->Int) (way:K4) (R:Nat) (st:GM) (k:Nat):turns W way R st (k + 1)=turn W way R (turns W way R st k):=by unfold turns;rw [range_succ,foldl_append];rfl
section
variable {W:Nat->Nat->Int} {way:K4} {R:Nat}
structure Ok (W:Nat->Nat->Int) (way:K4) (R:Nat) (st:GM):Prop where
 l1:st.1.length=R
 l2:st.2.length=R
 at_:∀ r,r < R->∃ r0 c g,st.2.getD r []=(way.length,r0) :: c/\Seg W way R r0 c r g/\st.1.getD r 0=W way.length r0 + g/\∀ c1 c2 x g1,c=c1 ++ c2->Seg W way R r0 c1 x g1->W way.length r0 + g1<=st.1.getD x 0
def Iw:Ok W way R (first W way R):=by
 refine ⟨by simp [first],by simp [first],λr hr=>⟨r,[],0,?_,.nil hr,?_,λc1 c2 x g1 e h=>?_⟩⟩
 ·simp [first,getD,hr]
 ·simp [first,getD,hr]
 ·have e1:c1=[]:=(append_eq_nil_iff.mp e.symm).1;subst e1;let ⟨h1,h2⟩:=h.end_;have h1':x=r:=h1;have h2':g1=0:=h2;subst h1' h2';simp [first,getD,hr]
def Vf {α:Type} {l:List α} {i j:Nat} {x d:α}:(l.set i x).getD j d=if i=j/\j < l.length then x else l.getD j d:=by
 simp only [getD]
 by_cases h:i=j
 ·subst h
  by_cases hl:i < l.length
  ·simp [getElem?_set_self hl,hl]
  ·simp [hl]
 ·rw [getElem?_set_ne h];simp [h]
theorem Wi (x:Nat):st.1.getD x 0<=(Yg W p l st r).1.getD x 0:=by
 unfold Yg
 split
 ·rename_i h
  show _<=(st.1.set r _).getD x 0;rw [Vf]
  split
  ·rename_i hx
   rw [<- hx.1];lia
  ·exact Q6 _
 ·exact Q6 _
theorem Qf9 (hr:r < st.1.length):st.1.getD l 0 + W p r - W p l<=(Yg W p l st r).1.getD r 0:=by
 unfold Yg
 split
 ·show _<=(st.1.set r _).getD r 0;rw [Vf,if_pos ⟨rfl,hr⟩];exact Q6 _
 ·rename_i h
  lia
theorem Ey (f9:Fit B way) (fj:∀ v:K4,v.length=way.length->Fit B v->wsum W v<=wsum W way) (hp:way[p]? = some l) (hl:l < R) (hr:r < R) (ok:Ok W way R st):Ok W way R (Yg W p l st r):=by
 have mono:=λx=>Wi (W:=W) (p:=p) (l:=l) (r:=r) (st:=st) x;unfold Yg at mono ⊢
 split
 ·rename_i hlt
  rw [if_pos hlt] at mono;let ⟨r0,c,g,e1,hs,e2,hd⟩:=ok.at_ l hl;have kh:r ∉ r0 :: c.map (·.2):=λz=>by let ⟨c1,c2,g1,g2,ec,s1,s2,eg⟩:=hs.split r z;have h1:=hd c1 c2 r g1 ec s1;have h2:=s2.round f9 fj hp;rw [e2] at hlt;lia
  refine ⟨by simpa using ok.l1,by simpa using ok.l2,λx hx=>?_⟩
  by_cases hxr:r=x
  ·subst hxr;refine ⟨r0,c ++ [(p,r)],g + W p r - W p l,?_,hs.snoc hp hr kh,?_,λc1 c2 y g1 ec s1=>?_⟩
   ·show (st.2.set r _).getD r []=_;rw [Vf,if_pos ⟨rfl,by rw [ok.l2]; exact hr⟩,e1];rfl
   ·show (st.1.set r _).getD r 0=_;rw [Vf,if_pos ⟨rfl,by rw [ok.l1]; exact hr⟩,e2];lia
   ·rcases eq_nil_or_concat c2 with z | ⟨c2',m,z⟩
    ·subst z;rw [append_nil] at ec;subst ec;let ⟨a1,a2⟩:=s1.end_;let ⟨b1,b2⟩:=(hs.snoc hp hr kh).end_;have:y=r:=a1.trans b1.symm;subst this;show _<=(st.1.set y _).getD y 0;rw [Vf,if_pos ⟨rfl,by rw [ok.l1]; exact hr⟩,e2];have:g1=g + W p y - W p l:=a2.trans b2.symm;lia
    ·subst z;rw [concat_eq_append,<- append_assoc] at ec;have ec':=append_inj_left' ec rfl;have:=hd c1 c2' y g1 ec' s1;exact T6 this (mono y)
  ·let ⟨r0',c',g',f1,f2,f3,f4⟩:=ok.at_ x hx;refine ⟨r0',c',g',?_,f2,?_,λc1 c2 y g1 ec s1=>T6 (f4 c1 c2 y g1 ec s1) (mono y)⟩
   ·show (st.2.set r _).getD x []=_;rw [Vf,if_neg (λz=>hxr z.1)];exact f1
   ·show (st.1.set r _).getD x 0=_;rw [Vf,if_neg (λz=>hxr z.1)];exact f3
 ·exact ok
theorem Zu {α β:Type} {f:β->α->β} {I:β->Prop} {l:List α}:∀ {b:β},I b->(∀ b,∀ a∈l,I b->I (f b a))->I (l.foldl f b):=by
 induction l with
 | nil=>intro b h _; exact h
 | cons a l ih=>intro b h hs; exact ih (hs b a O9 h) λb' a' ha=>hs b' a' (Q0 _ ha)
def Rf (x:Nat):st.1.getD x 0<=(Xh W way R st p).1.getD x 0 :=Zu (I:=λst':GM=>st.1.getD x 0<=st'.1.getD x 0) (Q6 _) λb a _ h=>T6 h (Wi x)
def Qwq (x:Nat):st.1.getD x 0<=(turn W way R st).1.getD x 0 :=Zu (I:=λst':GM=>st.1.getD x 0<=st'.1.getD x 0) (Q6 _) λb a _ h=>T6 h (Rf x)
def Ba (h:st.1.length=R):(Yg W p l st r).1.length=R:=by
 unfold Yg
 split
 ·simpa using h
 ·exact h
def Ds (h:st.1.length=R):(Xh W way R st p).1.length=R:=Zu (I:=λst':GM=>st'.1.length=R) h λb a _ h=>Ba h
theorem Qy9 (hp:way[p]? = some l) (hl:st.1.length=R) (hr:r < R):st.1.getD l 0 + W p r - W p l<=(Xh W way R st p).1.getD r 0:=by
 have e:way.getD p 0=l:=by simp [getD,hp]
 unfold Xh;rw [e];let ⟨a,b,hab⟩:=append_of_mem (N8.mpr hr);rw [hab,foldl_append,foldl_cons];have h1:st.1.getD l 0<=(a.foldl (Yg W p l) st).1.getD l 0:=Zu (I:=λst':GM=>st.1.getD l 0<=st'.1.getD l 0) (Q6 _) λb a _ h=>T6 h (Wi l);have h2:(a.foldl (Yg W p l) st).1.length=R:=Zu (I:=λst':GM=>st'.1.length=R) hl λb a _ h=>Ba h;have h3:=Qf9 (W:=W) (p:=p) (l:=l) (r:=r) (st:=a.foldl (Yg W p l) st) (by rw [h2]; exact hr);have h4:(Yg W p l (a.foldl (Yg W p l) st) r).1.getD r 0<=(b.foldl (Yg W p l) (Yg W p l (a.foldl (Yg W p l) st) r)).1.getD r 0:=Zu (I:=λst':GM=>(Yg W p l (a.foldl (Yg W p l) st) r).1.getD r 0<=st'.1.getD r 0) (Q6 _) λb a _ h=>T6 h (Wi r);lia
theorem Ql1 (hp:way[p]? = some l) (hl:st.1.length=R) (hr:r < R):st.1.getD l 0 + W p r - W p l<=(turn W way R st).1.getD r 0:=by unfold turn;let ⟨a,b,hab⟩:=append_of_mem (N8.mpr (N5.mp hp).1);rw [hab,foldl_append,foldl_cons];have h1:st.1.getD l 0<=(a.foldl (Xh W way R) st).1.getD l 0:=Zu (I:=λst':GM=>st.1.getD l 0<=st'.1.getD l 0) (Q6 _) λb a _ h=>T6 h (Rf l);have h2:(a.foldl (Xh W way R) st).1.length=R:=Zu (I:=λst':GM=>st'.1.length=R) hl λb a _ h=>Ds h;have h3:=Qy9 (W:=W) (way:=way) (R:=R) (st:=a.foldl (Xh W way R) st) hp h2 hr;have h4:(Xh W way R (a.foldl (Xh W way R) st) p).1.getD r 0<=(b.foldl (Xh W way R) (Xh W way R (a.foldl (Xh W way R) st) p)).1.getD r 0:=Zu (I:=λst':GM=>(Xh W way R (a.foldl (Xh W way R) st) p).1.getD r 0<=st'.1.getD r 0) (Q6 _) λb a _ h=>T6 h (Rf r);lia
def Tx (f9:Fit B way) (fj:∀ v:K4,v.length=way.length->Fit B v->wsum W v<=wsum W way) (di:∀ r∈way,r < R) (k:Nat):Ok W way R (turns W way R (first W way R) k):=by
 refine Zu (I:=Ok W way R) Iw λst _ _ ok=>?_;refine Zu (I:=Ok W way R) ok λst p hp ok=>?_;have hpl:=N8.mp hp;have e:way[p]? = some (way.getD p 0):=by simp [getD,hpl]
 exact Zu (I:=Ok W way R) ok λst r hr ok=>Ey f9 fj e (di _ (R9 e)) (N8.mp hr) ok
inductive Reach (W:Nat->Nat->Int) (way:K4) (R:Nat):Nat->Nat->Int->Prop
 | base {r:Nat}:r < R->Reach W way R 0 r (W way.length r)
 | keep {k r:Nat} {x:Int}:Reach W way R k r x->Reach W way R (k + 1) r x
 | step {k l p r:Nat} {x:Int}:Reach W way R k l x->way[p]? = some l->r < R->Reach W way R (k + 1) r (x + W p r - W p l)
theorem Reach.more {k:Nat} {x:Int} (h:Reach W way R k r x):∀ {j:Nat},k<=j->Reach W way R j r x:=by
 intro j hj
 induction j with
 | zero =>
  have:k=0:=by lia
  subst this;exact h
 | succ j ih =>
  by_cases hk:k=j + 1
  ·subst hk; exact h
  ·exact .keep (ih "o")
theorem Seg.reach {r0:Nat} (h:Seg W way R r0 c l g):Reach W way R c.length l (W way.length r0 + g):=by
 induction h with
 | nil h =>have:=Reach.base (W:=W) (way:=way) h;simpa using this
 | @snoc c l g p r h hp hr _ ih =>
  have:=Reach.step ih hp hr;rw [length_append];have e:W way.length r0 + g + W p r - W p l=W way.length r0 + (g + W p r - W p l):=by lia
  rw [e] at this;exact this
theorem Mw {k:Nat} {x:Int} (h:Reach W way R k r x):x<=(turns W way R (first W way R) k).1.getD r 0:=by
 have fu:∀ k,(turns W way R (first W way R) k).1.length=R:=λk=>Zu (I:=λst':GM=>st'.1.length=R) (by simp [first]) λb a _ h=>Zu (I:=λst':GM=>st'.1.length=R) h λb a _ h=>Ds h
 induction h with
 | base hr=>simp [turns,first,getD,hr]
 | keep _ ih=>rw [Pq]; exact T6 ih (Qwq _)
 | @step k l p r x _ hp hr ih =>rw [Pq];have:=Ql1 (W:=W) (way:=way) (R:=R) (st:=turns W way R (first W way R) k) hp (fu k) hr;lia
theorem Bl (f9:Fit B way) (fj:∀ v:K4,v.length=way.length->Fit B v->wsum W v<=wsum W way) (di:∀ r∈way,r < R) (hp:p < way.length) (hr:r < R) :
  (turns W way R (first W way R) R).1.getD way[p] 0 + W p r - W p way[p]<=(turns W way R (first W way R) R).1.getD r 0:=by
 have ok:=Tx (W:=W) (R:=R) f9 fj di R;have hl:way[p] < R:=di _ (M9 hp);let ⟨r0,c,g,_,hs,e2,_⟩:=ok.at_ _ hl;have h1:=Km R _ hs.nodup hs.lt;have h2:c.length + 1<=R:=by simpa using h1
 have h3:=hs.reach.more (j:=R - 1) "o";have h4:=Reach.step h3 (show way[p]? = some way[p] by simp [hp]) hr;have h5:=Mw h4;rw [show R - 1 + 1=R by lia] at h5;rw [e2];exact h5
theorem Qmq {v:K4} {x:Nat}:∀ {c:List (Nat × Nat)},(∀ m∈c,m.1 < v.length)->app (v ++ [x]) c=app v c ++ [x]:=by
 intro c
 induction c generalizing v with
 | nil=>intro _; rfl
 | cons m c ih =>intro h;have hm:=h m O9;show app ((v ++ [x]).set m.1 m.2) c=app (v.set m.1 m.2) c ++ [x];rw [set_append_left _ _ hm];exact ih λm' hm'=>by rw [length_set]; exact h m' (Q0 _ hm')
theorem Qn8 (hB:∀ r,R<=r->B r=0) (f9:Fit B way) (fj:∀ v:K4,v.length=way.length->Fit B v->wsum W v<=wsum W way) {e:Nat} (he:way.count e < B e)
  (iz:∀ r,way.count r < B r->(turns W way R (first W way R) R).1.getD r 0<=(turns W way R (first W way R) R).1.getD e 0) :
  ∀ b,b=app (way ++ [e]) ((turns W way R (first W way R) R).2.getD e [])->b.length=way.length + 1/\Fit B b/\∀ v:K4,v.length=way.length + 1->Fit B v->wsum W v<=wsum W b:=by
 have di:∀ r∈way,r < R:=λr hr=>by refine R4 λz=>?_;have h1:=hB r "o";have h2:=f9 r;have h3:=V8.mpr hr;lia
 have ok:=Tx (W:=W) (R:=R) f9 fj di R;have heR:e < R:=by refine R4 λz=>?_;have:=hB e "o";lia
 let ⟨r0,c,g,e1,hs,e2,_⟩:=ok.at_ e heR;rintro b rfl;rw [e1];have ea:app (way ++ [e]) ((way.length,r0) :: c)=app way c ++ [r0]:=by show app ((way ++ [e]).set way.length r0) c=_;rw [set_append_right _ _ (Nat.le_refl _)];simp only [Nat.sub_self,set_cons_zero];exact Qmq λm hm=>(hs.persons m hm).1
 rw [ea];let ⟨i1,i2,i3,_⟩:=hs.app;refine ⟨by simp [i1],λx=>?_,λv hv hf=>?_⟩
 ·rw [count_append];have h1:=i3 x;have h2:=f9 x;have h3:count x [r0]=ind x r0:=by
   unfold ind
   by_cases h:x=r0
   ·subst h; simp
   ·have h':r0≠x:=λz=>h z.symm;simp [h,h']
  rw [h3]
  by_cases hx:x=e
  ·subst hx;rw [Tb] at h1;lia
  ·rw [Al hx] at h1;lia
 ·rw [wsum_snoc,i2,i1];rcases eq_nil_or_concat v with z | ⟨v',r,z⟩
  ·subst z; simp at hv
  ·subst z;rw [concat_eq_append] at hf ⊢;have hv':v'.length=way.length:=by simpa using hv
   rw [wsum_snoc,hv'];have hf':∀ s,v'.count s + ind s r<=B s:=λs=>by
    have:=hf s;rw [count_append] at this;have h3:count s [r]=ind s r:=by
     unfold ind
     by_cases h:s=r
     ·subst h; simp
     ·have h':r≠s:=λz=>h z.symm;simp [h,h']
    lia
   have hrR:r < R:=by refine R4 λz=>?_;have h1:=hB r "o";have h2:=hf' r;rw [Tb] at h2;lia
   have h1:=core (W:=W) (B:=B) (way:=way) (g:=λr=>(turns W way R (first W way R) R).1.getD r 0) (R:=R) hB fj (λp hp r hr=>Bl f9 fj di hp hr) iz _ v' r hv' (O1 _) hf';have h2:W way.length r<=(turns W way R (first W way R) R).1.getD r 0:=Mw ((Reach.base hrR).more (R7 _));have h3:(turns W way R (first W way R) R).1.getD e 0=W way.length r0 + g:=e2;rw [h3] at h1;lia
end
end BW
namespace L2
open PySem PySem.Spec PyProof.Rows BW
variable {i r n slot ep c:Nat} {way:K4} {H H':Hp} {ms:List (List (Nat × Nat))} {ak:K3} {aj:J5} {K:M7} {X:Cx} {xs:Array Nat} {t:G6} {led:Bool} {es:Array (Int × G3)} {x first:G3} {Q:Option G3->G4->Prop} {pos:Pos} {e:Expr} {S it:G5} {ot:Obj}
theorem Uq.dep {k:Nat} {A:G7} (r:Uq k A):A.depth < recursionLimit:=by have:=r.dp; lia
def wI (way:K4):K3:=way.map λ(r:Nat)=>(r:Int)
def Za (way:K4):((wI way).map V.int).length=way.length:=by simp [wI]
def Fl (h:way[i]? = some r):((wI way).map V.int)[i]? = some (.int (r:Int)):=by simp [wI,h]
theorem Tz (way:K4) (r:Nat):(wI way).count (r:Int)=way.count r:=by
 induction way with
 | nil=>rfl
 | cons x l ih =>
  show count (r:Int) (((x:Nat):Int) :: wI l)=_;rw [count_cons,count_cons,ih]
  by_cases h:x=r
  ·subst h; simp
  ·have:¬ (((x:Nat):Int)=(r:Int)):=by lia
   simp [h,this]
def wF (aj:J5) (p r:Nat):Int:=(aj.getD p []).getD r 0
def bF (ak:K3) (r:Nat):Nat:=(ak.getD r 0).toNat
def Ut (H:Hp) (a:G5) (c:List (Nat × Nat)):Prop:=∃ ts:K6,H a=some (.lst (ts.map V.ref))/\ts.length=c.length/\∀ (j:Nat) t m,ts[j]? = some t->c[j]? = some m->H t=some (.tup [.int (m.1:Int),.int (m.2:Int)])
def Ut.keep {a:G5} {c:List (Nat × Nat)} (h:Ut H a c) (h1:∀ o,H a=some o->H' a=some o) (h2:∀ t xs,H t=some (.tup xs)->H' t=some (.tup xs)):Ut H' a c:=by let ⟨ts,e1,e2,e3⟩:=h;exact ⟨ts,h1 _ e1,e2,λj t m a b=>h2 _ _ (e3 j t m a b)⟩
theorem Ut.snoc {H:Hp} {a t:G5} {c:List (Nat × Nat)} {m:Nat × Nat} {ts:K6} (e1:H a=some (.lst (ts.map V.ref ++ [.ref t]))) (e2:ts.length=c.length) (e3:∀ (j:Nat) t m,ts[j]? = some t->c[j]? = some m->H t=some (.tup [.int (m.1:Int),.int (m.2:Int)])) (e4:H t=some (.tup [.int (m.1:Int),.int (m.2:Int)])):Ut H a (c ++ [m]):=by
 refine ⟨ts ++ [t],by rw [e1]; simp,by simp [e2],λj t' m' h1 h2=>?_⟩
 by_cases hj:j < ts.length
 ·rw [getElem?_append_left hj] at h1;rw [getElem?_append_left "o"] at h2;exact e3 j t' m' h1 h2
 ·have hj2:j=ts.length:=by have:=(N5.mp h1).1;simp at this;lia
  subst hj2;simp at h1;rw [e2] at h2;simp at h2;subst h1 h2;exact e4
structure Yj (H:Hp) (ga mv:G5) (gs:K3) (ms:List (List (Nat × Nat))):Prop where
 ne:ga≠mv
 g:H ga=some (.lst (gs.map V.int))
 ex:∃ ls:K6,H mv=some (.lst (ls.map V.ref))/\ls.length=ms.length/\(∀ a∈ls,a≠ga/\a≠mv)/\∀ (i:Nat) a c,ls[i]? = some a->ms[i]? = some c->Ut H a c
def Yj.same {ga mv:G5} {gs:K3} (h:Yj H ga mv gs ms) (s:Qu H H'):Yj H' ga mv gs ms:=by let ⟨ls,e1,e2,e3,e4⟩:=h.ex;exact ⟨h.ne,s _ _ h.g,ls,s _ _ e1,e2,e3,λi a c h1 h2=>(e4 i a c h1 h2).keep (λo e=>s _ _ e) λt xs e=>s _ _ e⟩
def Yj.gset {ga mv:G5} {gs gs':K3} (h:Yj H ga mv gs ms):Yj (upd H ga (.lst (gs'.map V.int))) ga mv gs' ms:=by
 let ⟨ls,e1,e2,e3,e4⟩:=h.ex;refine ⟨h.ne,Qk,ls,by rw [Qv h.ne.symm]; exact e1,e2,e3,λi a c h1 h2=>(e4 i a c h1 h2).keep (λo e=>?_) λt xs e=>?_⟩
 ·rw [Qv (e3 a (mem_of_getElem? h1)).1]; exact e
 ·rw [Qv (Jw e h.g (by intro z; cases z))]; exact e
theorem Yj.mset {ga mv n:G5} {gs:K3} {ls:K6} {c:List (Nat × Nat)} (h:Yj H ga mv gs ms) (e1:H mv=some (.lst (ls.map V.ref))) (hr:r < ls.length) (hn1:n≠ga) (hn2:n≠mv) (hc:Ut H n c) :
  Yj (upd H mv (.lst ((ls.map V.ref).set r (.ref n)))) ga mv gs (ms.set r c):=by
 let ⟨ls',f1,e2,e3,e4⟩:=h.ex;rw [e1] at f1;have:ls'=ls:=by have f2:=HO.lst.inj (Q9 f1);have hinj:∀ a b:G5,V.ref a=V.ref b->a=b:=λa b z=>V.ref.inj z;exact (List.map_inj_right (f:=V.ref) (λa b z=>hinj a b z)).mp f2.symm
 subst this;have kp:∀ a c,Ut H a c->a≠mv->Ut (upd H mv (.lst ((ls'.map V.ref).set r (.ref n)))) a c:=λa c hc hne=>hc.keep (λo e=>by rw [Qv hne]; exact e) λt xs e=>by rw [Qv (Jw e e1 (by intro z; cases z))]; exact e
 refine ⟨h.ne,by rw [Qv h.ne]; exact h.g,ls'.set r n,by rw [Qk,map_set],by simp [e2],λa ha=>?_,λi a c' h1 h2=>?_⟩
 ·rcases A0c ha with z | z
  ·exact e3 a z
  ·rw [z]; exact ⟨hn1,hn2⟩
 ·by_cases hi:r=i
  ·subst hi;rw [getElem?_set_self hr] at h1;rw [getElem?_set_self "o"] at h2;cases h1;cases h2;exact kp _ _ hc hn2
  ·rw [getElem?_set_ne hi] at h1;rw [getElem?_set_ne hi] at h2;exact kp _ _ (e4 i a c' h1 h2) (e3 a (R9 h1)).2
def Qsw (ga mv:G5) (H H':Hp):Prop:=∀ b o,H b=some o->b≠ga->b≠mv->H' b=some o
structure Df (ak:K3) (aj:J5):Prop where
 b1:ak.length<=10
 w1:aj.length<=10
 rows:∀ row∈aj,row.length=ak.length
def Bm (ak:K3):∀ r,ak.length<=r->bF ak r=0:=λr h=>by simp [bF,getD,h]
def Opt (ak:K3) (aj:J5) (way:K4):Prop:=∀ v:K4,v.length=way.length->Fit (bF ak) v->wsum (wF aj) v<=wsum (wF aj) way
theorem Jz (h:Fit (bF ak) way):∀ r∈way,r < ak.length:=λr hr=>by refine R4 λz=>?_;have h1:=Bm ak r "o";have h2:=h r;have h3:=V8.mpr hr;lia
def Oa (K:M7) (C:G5):Sp:=λvs H Q _ => ∃ (H0:Hp) (p a ga mv:G5) (ak:K3) (aj:J5) (ao:Int) (way:K4) (st:GM),vs=[.ref p,.ref a,.ref ga,.ref mv]/\Qu H0 H/\H0 ga=none/\H0 mv=none /\
 Zj C H0 p ak aj ao/\H0 a=some (.lst ((wI way).map V.int))/\Df ak aj/\way.length < aj.length/\Fit (bF ak) way/\Opt ak aj way/\Ok (wF aj) way ak.length st/\Yj H ga mv st.1 st.2 /\
 ∀ H',Qsw ga mv H H'->Yj H' ga mv (turn (wF aj) way ak.length st).1 (turn (wF aj) way ak.length st).2->Q .non H'
def Zj.bf {C:G5} {p:G5} {ao:Int} (h:Zj C H p ak aj ao) (s:Qt H H'):Zj C H' p ak aj ao:=by let ⟨dx,b,w,h1,h2,ws,h3,h4,h5⟩:=h.ex;exact ⟨dx,b,w,s.to _ _ h1 rfl,s.to _ _ h2 rfl,ws,s.to _ _ h3 rfl,h4,λi a row e1 e2=>s.to _ _ (h5 i a row e1 e2) rfl⟩
def Mat.bf {w:G5} (h:Mat H w aj) (s:Qt H H'):Mat H' w aj:=by let ⟨ws,h3,h4,h5⟩:=h;exact ⟨ws,s.to _ _ h3 rfl,h4,λi a row e1 e2=>s.to _ _ (h5 i a row e1 e2) rfl⟩
theorem Qox:∀ R:Nat,((range R).map λ_=>(0:Nat)).sum=0
 | 0=>rfl
 | R + 1=>by rw [range_succ,map_append,sum_append,Qox R];rfl
theorem Qtw (x:Nat):∀ R:Nat,((range R).map λr=>ind x r).sum<=1:=by
 intro R
 induction R with
 | zero=>simp
 | succ R ih =>
  rw [range_succ,map_append,sum_append]
  by_cases h:x=R
  ·subst h;have:((range x).map λr=>ind x r).sum=0:=by have:(range x).map (λr=>ind x r)=(range x).map λ_=>0:=R6 λr hr=>Al (Z4 (N8.mp hr));rw [this];exact Qox x
   rw [this];simp [ind]
  ·simp [Al h];exact ih
theorem Qg2 (way:K4) (R:Nat):((range R).map λr=>way.count r).sum<=way.length:=by
 induction way with
 | nil =>have:=Qox R;simp [this]
 | cons x l ih =>
  have h1:(range R).map (λr=>(x :: l).count r)=(range R).map (λr=>l.count r + ind x r):=R6 λr _=>by
   rw [count_cons];unfold ind
   by_cases h:x=r
   ·subst h; simp
   ·simp [h]
  have h2:∀ R,((range R).map (λr=>l.count r + ind x r)).sum=((range R).map λr=>l.count r).sum + ((range R).map λr=>ind x r).sum:=by
   intro R
   induction R with
   | zero=>rfl
   | succ R ih' =>rw [range_succ,map_append,map_append,map_append,sum_append,sum_append,sum_append,ih'];simp;lia
  rw [h1,h2,length_cons];have:=Qtw x R;lia
def Fs (bs:K3):bs.sum=((range bs.length).map λr=>bs.getD r 0).sum:=by
 congr 1
 refine U7 (by simp) λi h1 h2=>?_;simp [getD,h1]
theorem Qrk (h:(way.length:Int) < ak.sum) (hb:∀ b∈ak,0<=b):∃ r,r < ak.length/\way.count r < bF ak r:=by
 refine R4 λhn=>?_;have h1:∀ r,r < ak.length->ak.getD r 0<=((way.count r:Nat):Int):=λr hr=>by have:¬ way.count r < bF ak r:=λz=>hn ⟨r,hr,z⟩;unfold bF at this;lia
 have h2:∀ R,R<=ak.length->((range R).map λr=>ak.getD r 0).sum<=((((range R).map λr=>way.count r).sum:Nat):Int):=by
  intro R hR
  induction R with
  | zero=>simp
  | succ R ih =>rw [range_succ,map_append,map_append,sum_append,sum_append];have a:=ih "o";have b:=h1 R "o";simp at a b ⊢;lia
 have h3:=h2 ak.length (O1 _);rw [<- Fs] at h3;have h4:=Qg2 way ak.length;lia
theorem Jp {z:Int}:z∈Yu ak (wI way) ↔ ∃ r:Nat,z=r/\r < ak.length/\way.count r < bF ak r:=by
 unfold Yu;rw [mem_map]
 constructor
 ·rintro ⟨r,h1,rfl⟩;let ⟨h2,h3⟩:=T3.mp h1;have h4:=Q7 h3;rw [Tz] at h4;exact ⟨r,rfl,N8.mp h2,by unfold bF; lia⟩
 ·rintro ⟨r,rfl,h1,h2⟩;refine ⟨r,T3.mpr ⟨N8.mpr h1,O8 ?_⟩,rfl⟩;rw [Tz];unfold bF at h2;lia
theorem De (rows:J5):SeqAt.shaped (Qmv rows)=true:=by
 have:=Dl rows;unfold SeqAt.shaped;refine U5.mpr ⟨?_,O8 ?_⟩
 ·simp [Qmv,PyData.canLay0,Ez]
 ·simp only [Qmv,PyData.depth];lia
def Qt6 (rows:J5):PyData.eqv (Qmv rows) (Qmv rows)=true:=by unfold Qmv; rw [PyData.eqv]; exact Ex rows
def Zz1 (K:M7):List V->Hp->VK->Prop:=λxs H Q => ∃ (a:G5) (ns:K3),xs=[.ref a]/\SqL K H a (ns.map V.int)/\0 < ns.length/\∀ z∈ns,(∀ z'∈ns,z'<=z)->Q (.int z) H
theorem Ll (hK:X.K=K) (hc:X.calm=true):Up X (.builtin "max") (Zz1 K):=by
 subst hK;intro dz s σ H xs us Q I r h;let ⟨a,ns,rfl,hq,hn,q⟩:=h;let ⟨u,rfl,rx⟩:=Ts r;cases rx;let ⟨its,rv,pl,hz⟩:=I.list hq;have hl:its.length=ns.length:=by have:=rv.length; simpa using this.symm
 have ha:a < s.heap.objs.size:=by let ⟨o,n,e,_⟩:=pl;exact N6 e
 have hhd:X.A.in1.handled=none:=I.ok.hd hc;have jk:∀ (i:Nat) v,its.toArray[i]? = some v->∃ t,v=.int (ns.getD i 0) t:=λi v hv=>by
  have hv':its[i]? = some v:=by simpa using hv
  have hi:i < ns.length:=by have:=(N5.mp hv').1;lia
  let ⟨u,h1,t,h2⟩:=rv.get (i:=i) (x:=.int ns[i]) (by simp [hi]);rw [hv'] at h1;cases h1;exact ⟨t,by rw [h2]; simp [hi,getD]⟩
 refine call_max_walkS (X5 pl.isList ?_);refine ⟨s.heap.objs.size,_,_,_,its.toArray.size,_,_,_,rfl,(W9 hhd s.heap.objs.size a (O7 ha) its.toArray).toS,⟨⟨_,Q5 _ rfl,rfl,rfl⟩,pl.isList.push _⟩,?_,by rw [size_toArray,hl]; exact hn,CmpOf.ints_gt (λi=>ns.getD i 0) jk,?_⟩
 ·intro b hb;rw [Heap.size_push];rcases Q8.mp hb with z | hb
  ·rw [z]; exact V0 _
  ·have z:b=a:=by simpa using hb
   rw [z]; exact V6 ha
 ·intro v s' hP m;let ⟨b1,b2⟩:=argBest_gt (λi=>ns.getD i 0) (its.toArray.size - 1);let ⟨t,rfl⟩:=jk _ v hP;have hsz:its.toArray.size=ns.length:=by rw [size_toArray,hl]
  rw [hsz] at b1 b2 ⊢;have hlt:argBest (λi j=>decide (ns.getD i 0 > ns.getD j 0)) (ns.length - 1) < ns.length:=by lia
  refine ⟨.int _,H,I.moved m,⟨t,rfl⟩,q _ ?_ λz' hz'=>?_⟩
  ·have e:ns.getD (argBest (λi j=>decide (ns.getD i 0 > ns.getD j 0)) (ns.length - 1)) 0=ns[argBest (λi j=>decide (ns.getD i 0 > ns.getD j 0)) (ns.length - 1)]:=by rw [getD,getElem?_eq_getElem hlt];rfl
   rw [e];exact M9 hlt
  ·let ⟨i,hi,rfl⟩:=X3.mp hz';have:=b2 i "o";simpa [getD,hi] using this
theorem Qn6 {D:G5} {tt:TT} {te:TE} {σf:St} {H1:Hp} {Q:VK} (p:Nat->Bool) (R:Nat->V->Hp->Prop) (hn:n < sizeLine) (hD1:H1 D=none) (mono:∀ i y H H',Qx1 D H H'->R i y H->R i y H')
  (ht:∀ (i:Nat) H (N:Bool->Hp->Prop),i < n->Qu H1 H->(∀ H',Qu H H'->N (p i) H')->tt (some (.int (0 + (i:Int))) :: σf) H N)
  (hs:∀ (i:Nat) H ys (N:VK),i < n->p i=true->Qu H1 H->H D=some (.lst ys)->(∀ y H',Qu H H'->R i y H'->N y H')->te (some (.int (0 + (i:Int))) :: σf) H N)
  (hd:∀ ys H,Qu H1 H->H D=some (.lst ys)->ys.length=((range n).filter p).length->(∀ (j k:Nat) y,((range n).filter p)[j]? = some k->ys[j]? = some y->R k y H)->Q (.ref D) H):Wo (Itr 0 n) D (Jb 0) tt te (none :: σf) (upd H1 D (.lst [])) Q:=by
 refine ⟨λi m ys H=>i<=n/\m=n - i/\Qu H1 H/\H D=some (.lst ys)/\ys.length=((range i).filter p).length/\∀ (j k:Nat) y,((range i).filter p)[j]? = some k->ys[j]? = some y->R k y H,⟨n,R7 _,rfl,Qu.upd hD1,Qk,rfl,λj k y e=>by simp at e⟩,?_⟩;rintro i m ys H ⟨hi,rfl,s1,d1,l1,r1⟩;refine ⟨d1,?_⟩
 by_cases hlt:i < n
 ·have hle:ys.length<=i:=by rw [l1];exact O6 (W3 _ _) (by simp)
  refine .inr ⟨hlt,"o",λy H'=>Qu H H'/\R i y H'/\p i=true,λH'=>Qu H H'/\p i=false,λy H6 q=>?_,λH5 q=>?_,λx H' y=>?_⟩
  ·let ⟨s6,r6,hp⟩:=q;have ef:(range (i + 1)).filter p=(range i).filter p ++ [i]:=by rw [range_succ,filter_append];simp [hp]
   refine ⟨s6 _ _ d1,n - (i + 1),"o",hlt,rfl,(s1.trans s6).updT hD1,Qk,by rw [ef]; simp [l1],λj k z e1 e2=>?_⟩;rw [ef] at e1
   by_cases hj:j < ys.length
   ·rw [getElem?_append_left "o"] at e1;rw [getElem?_append_left hj] at e2;exact mono _ _ _ _ Qx1.upd (mono _ _ _ _ (s6.keep D) (r1 j k z e1 e2))
   ·have hj':j=ys.length:=by have:=(N5.mp e2).1;simp at this;lia
    subst hj';rw [l1] at e1;simp at e1 e2;subst e1 e2;exact mono _ _ _ _ Qx1.upd r6
  ·let ⟨s5,hp⟩:=q;have ef:(range (i + 1)).filter p=(range i).filter p:=by rw [range_succ,filter_append];simp [hp]
   exact ⟨n - (i + 1),"o",hlt,rfl,s1.trans s5,s5 _ _ d1,by rw [ef]; exact l1,λj k z e1 e2=>by rw [ef] at e1; exact mono _ _ _ _ (s5.keep D) (r1 j k z e1 e2)⟩
  ·let ⟨rfl,rfl⟩:=y;refine ⟨Agree.one _ _ _ rfl,?_⟩;refine ht i H' _ hlt s1 λH5 s5=>?_;cases hp:p i with
   | true =>rw [if_pos rfl];exact hs i H5 ys _ hlt hp (s1.trans s5) (s5 _ _ d1) λy H6 s6 r6=>⟨s5.trans s6,r6,rfl⟩
   | false =>rw [if_neg Bool.false_ne_true];exact ⟨s5,rfl⟩
 ·obtain rfl:i=n:=A0y hi (W8.mp hlt);exact .inl ⟨O1 _,hd ys H s1 d1 l1 r1⟩
structure Fp where
 ak:K3
 aj:J5
 ao:Int
 way:K4
 parts:Int
 rows:K3
def Fp.share (F:Fp) (i r:Nat):Int:=F.parts * wF F.aj i r - F.rows.getD r 0
def Fp.envies (F:Fp) (i r:Nat):Prop:=F.share i (F.way.getD i 0) < F.share i r
def Fp.open_ (F:Fp) (r:Nat):Prop:=F.way.count r < bF F.ak r
def Fp.taken (F:Fp) (r:Nat):Prop:=0 < F.way.count r
def Fp.dear (F:Fp) (r q:Nat):Prop:=F.open_ r/\F.taken q/\F.rows.getD q 0 < F.rows.getD r 0
def Fp.sumOk (F:Fp):Prop:=(F.way.map λr=>F.rows.getD r 0).sum=F.parts * F.ao
inductive BR
 | none
 | sum
 | envy (i r:Nat)
 | opn (r q:Nat)
def Fp.noEnvy (F:Fp):Prop:=∀ i r,i < F.aj.length->r < F.ak.length->¬ F.envies i r
def Fp.noDear (F:Fp):Prop:=∀ r q,r < F.ak.length->q < F.ak.length->¬ F.dear r q
def Fp.firstEnvy (F:Fp) (i r:Nat):Prop:=i < F.aj.length/\r < F.ak.length/\F.envies i r/\(∀ i' r',i' < i->r' < F.ak.length->¬ F.envies i' r')/\∀ r',r' < r->¬ F.envies i r'
def Fp.firstDear (F:Fp) (r q:Nat):Prop:=r < F.ak.length/\q < F.ak.length/\F.dear r q/\(∀ r' q',r' < r->q' < F.ak.length->¬ F.dear r' q')/\∀ q',q' < q->¬ F.dear r q'
def Fp.is (F:Fp):BR->Prop
 | .none=>F.sumOk/\F.noEnvy/\F.noDear
 | .sum => ¬ F.sumOk
 | .envy i r=>F.sumOk/\F.firstEnvy i r
 | .opn r q=>F.sumOk/\F.noEnvy/\F.firstDear r q
structure Qbk (F:Fp):Prop where
 b1:F.ak.length<=10
 w1:F.aj.length<=10
 rw:∀ row∈F.aj,row.length=F.ak.length
 rl:F.rows.length=F.ak.length
 wl:F.way.length=F.aj.length
 fit:Fit (bF F.ak) F.way
 pb:-(10 ^ 100) < F.parts/\F.parts < 10 ^ 100
 rb:-(10 ^ 100) < F.ao/\F.ao < 10 ^ 100
 wb:∀ row∈F.aj,∀ x∈row,-(10 ^ 100) < x/\x < 10 ^ 100
theorem Qkk {F:Fp} (ok:Qbk F) (hi:i < F.aj.length):((Wj F.aj (wI F.way) F.parts F.rows).map V.int)[i]? = some (.int (F.share i (F.way.getD i 0))):=by
 have hw:i < F.way.length:=by have:=ok.wl; lia
 unfold Wj;rw [getElem?_map,getElem?_map,getElem?_range hi];simp [Fp.share,wF,wI,getD,hw]
theorem Qsk (h:Fit (bF ak) way) (hn:n=ak.length):∀ r∈wI way,0<=r/\r < (n:Int):=λr hr=>by let ⟨k,hk,rfl⟩:=O3.mp hr;have:=Jz h k hk;lia
def Zz0 (K:M7):List V->Hp->VK->Prop:=λxs H Q => ∃ (a:G5) (ns:K3),xs=[.ref a]/\SqL K H a (ns.map V.int)/\0 < ns.length/\∀ z∈ns,(∀ z'∈ns,z<=z')->Q (.int z) H
theorem Wb (hK:X.K=K) (hc:X.calm=true):Up X (.builtin "min") (Zz0 K):=by
 subst hK;intro dz s σ H xs us Q I r h;let ⟨a,ns,rfl,hq,hn,q⟩:=h;let ⟨u,rfl,rx⟩:=Ts r;cases rx;let ⟨its,rv,pl,hz⟩:=I.list hq;have hl:its.length=ns.length:=by have:=rv.length; simpa using this.symm
 have ha:a < s.heap.objs.size:=by let ⟨o,n,e,_⟩:=pl;exact N6 e
 have hhd:X.A.in1.handled=none:=I.ok.hd hc;have jk:∀ (i:Nat) v,its.toArray[i]? = some v->∃ t,v=.int (ns.getD i 0) t:=λi v hv=>by
  have hv':its[i]? = some v:=by simpa using hv
  have hi:i < ns.length:=by have:=(N5.mp hv').1;lia
  let ⟨u,h1,t,h2⟩:=rv.get (i:=i) (x:=.int ns[i]) (by simp [hi]);rw [hv'] at h1;cases h1;exact ⟨t,by rw [h2]; simp [hi,getD]⟩
 refine call_min_walkS (X5 pl.isList ?_);refine ⟨s.heap.objs.size,_,_,_,its.toArray.size,_,_,_,rfl,(W9 hhd s.heap.objs.size a (O7 ha) its.toArray).toS,⟨⟨_,Q5 _ rfl,rfl,rfl⟩,pl.isList.push _⟩,?_,by rw [size_toArray,hl]; exact hn,CmpOf.ints_lt (λi=>ns.getD i 0) jk,?_⟩
 ·intro b hb;rw [Heap.size_push];rcases Q8.mp hb with z | hb
  ·rw [z]; exact V0 _
  ·have z:b=a:=by simpa using hb
   rw [z]; exact V6 ha
 ·intro v s' hP m;let ⟨b1,b2⟩:=argBest_lt (λi=>ns.getD i 0) (its.toArray.size - 1);let ⟨t,rfl⟩:=jk _ v hP;have hsz:its.toArray.size=ns.length:=by rw [size_toArray,hl]
  rw [hsz] at b1 b2 ⊢;have hlt:argBest (λi j=>decide (ns.getD i 0 < ns.getD j 0)) (ns.length - 1) < ns.length:=by lia
  refine ⟨.int _,H,I.moved m,⟨t,rfl⟩,q _ ?_ λz' hz'=>?_⟩
  ·have e:ns.getD (argBest (λi j=>decide (ns.getD i 0 < ns.getD j 0)) (ns.length - 1)) 0=ns[argBest (λi j=>decide (ns.getD i 0 < ns.getD j 0)) (ns.length - 1)]:=by rw [getD,getElem?_eq_getElem hlt];rfl
   rw [e];exact M9 hlt
  ·let ⟨i,hi,rfl⟩:=X3.mp hz';have:=b2 i "o";simpa [getD,hi] using this
theorem Ta {f g:Nat->Int}:∀ n:Nat,(∀ i,i < n->f i<=g i)->((range n).map f).sum<=((range n).map g).sum
 | 0,_=>by simp
 | n + 1,h=>by rw [range_succ,map_append,map_append,sum_append,sum_append];have h1:=Ta n λi hi=>h i "o";have h2:=h n "o";simp;lia
theorem Nf {f g:Nat->Int}:∀ n:Nat,(∀ i,i < n->f i<=g i)->((range n).map f).sum=((range n).map g).sum->∀ i,i < n->f i=g i
 | 0,_,_,i,hi=>absurd hi (A1a _)
 | n + 1,h,e,i,hi=>by
  rw [range_succ,map_append,map_append,sum_append,sum_append] at e;have h1:=Ta n λi hi=>h i "o";have h2:=h n "o";simp at e
  by_cases hin:i=n
  ·subst hin; lia
  ·exact Nf n (λi hi=>h i "o") "o" i "o"
theorem Kp (f g:Nat->Int) (n:Nat):((range n).map λi=>f i + g i).sum=((range n).map f).sum + ((range n).map g).sum:=by
 induction n with
 | zero=>simp
 | succ n ih =>rw [range_succ,map_append,map_append,map_append,sum_append,sum_append,sum_append,ih];simp;lia
theorem Qt2 (d:Nat->Int) (x:Nat):∀ R:Nat,((range R).map λr=>d r * (ind x r:Int)).sum=if x < R then d x else 0:=by
 intro R
 induction R with
 | zero=>simp
 | succ R ih =>
  rw [range_succ,map_append,sum_append,ih]
  by_cases h:x=R
  ·subst h;simp [ind]
  ·have h2:(x < R + 1)=(x < R):=by simp;lia
   simp [ind,h,h2]
theorem Id (d:Nat->Int) (R:Nat):∀ v:K4,(∀ r∈v,r < R)->(v.map d).sum=((range R).map λr=>d r * ((v.count r:Nat):Int)).sum
 | [],_=>by
  have:((range R).map λr=>d r * ((([]:K4).count r:Nat):Int))=(range R).map λ_=>0:=R6 λr _=>by simp
  rw [this];clear this
  induction R with
  | zero=>simp
  | succ R ih =>rw [range_succ,map_append,sum_append,<- ih (λr hr=>by cases hr)];simp
 | x :: v,h=>by
  have ih:=Id d R v λr hr=>h r (Q0 _ hr);have e:((range R).map λr=>d r * (((x :: v).count r:Nat):Int))=(range R).map λr=>d r * ((v.count r:Nat):Int) + d r * (ind x r:Int):=R6 λr _=>by
   rw [count_cons];unfold ind
   by_cases hx:x=r
   ·subst hx; simp [Int.mul_add]
   ·simp [hx]
  rw [e,Kp,<- ih,Qt2,if_pos (h x mem_cons_self),map_cons,sum_cons];lia
theorem Qeq {d:Int} {a b:Nat} (h1:0 < d->a<=b) (h2:d < 0->b<=a):d * (a:Int)<=d * (b:Int):=by
 rcases Int.lt_trichotomy d 0 with z | z | z
 ·have:=h2 z;exact Int.mul_le_mul_of_nonpos_left "o" "o"
 ·rw [z]; simp
 ·exact T9 (by have:=h1 z; lia) "o"
def map_range {α:Type} (v:K4) (f:Nat->Int):(v.map f).sum=((range v.length).map λi=>f (v.getD i 0)).sum:=by
 congr 1
 refine U7 (by simp) λi h1 h2=>?_;simp at h1;simp [getD,h1]
theorem Qt7 (v:K4) (f:Nat->Int) (c:Int):(v.map λr=>f r - c).sum=(v.map f).sum - c * v.length:=by
 induction v with
 | nil=>simp
 | cons x v ih =>
  rw [map_cons,sum_cons,ih,map_cons,sum_cons,length_cons];have:c * ((v.length + 1:Nat):Int)=c * (v.length:Int) + c:=by rw [Int.natCast_add,Int.mul_add]; simp
  lia
theorem Da {d:Int} {a b:Nat} (h:d * (a:Int)=d * (b:Int)) (hd:d≠0):a=b:=by have:=A1b hd h;lia
def Dz {x:Str}:Rk K H (.str x) (.str x):=λX dz σ s u _ _ r=>by let ⟨t,rfl⟩:=r;exact ⟨[],.str x t⟩
def Cr (h:X.K=K):SlR X (Zx2 K):=h ▸ Qa6
def Vp (z:Int) (ns:K3):inV (.int z) (ns.map V.int)=decide (z∈ns):=by
 unfold inV;rw [Bool.eq_iff_iff,any_eq_true,decide_eq_true_iff]
 constructor
 ·rintro ⟨y,hy,e⟩;let ⟨n,hn,rfl⟩:=O3.mp hy;have:n=z:=by simpa [eqV] using e
  rw [<- this];exact hn
 ·intro h;exact ⟨.int z,O3.mpr ⟨z,h,rfl⟩,by simp [eqV]⟩
def stC {t:St->Hp->Prop} {σ σ':St} (e:σ=σ') (h:t σ' H):t σ H:=e ▸ h
theorem Qp2 {xs ys:List V} {us vs:K5} (a:Xq xs us) (b:Xq ys vs):Xq (xs ++ ys) (us ++ vs):=by
 induction a with
 | nil=>exact b
 | cons h _ ih=>exact .cons h ih
theorem Qp1 {xs:List V} {us:K5} (a:Xq xs us):Xq xs.reverse us.reverse:=by
 induction a with
 | nil=>exact .nil
 | cons h _ ih =>rw [reverse_cons,reverse_cons];exact Qp2 ih (.cons h .nil)
def Qbq (xs:Array Nat):Prop:=∀ i k,i < k->k < xs.size->xs.getD i 0 < xs.getD k 0
def getD_in {d:Nat} (h:i < xs.size):xs.getD i d=xs.getD i 0:=by simp [Array.getD,h]
theorem Mr {xs:Array Nat} {j:Nat} (hr:Qbq xs):∀ (j7 lo hi:Nat),lo<=hi->hi<=xs.size->hi - lo<=j7->(∀ i,i < lo->xs.getD i 0 < j)->(∀ i,hi<=i->i < xs.size->j<=xs.getD i 0) ->
  SetTable.below.go xs j j7 lo hi<=xs.size/\(∀ i,i < SetTable.below.go xs j j7 lo hi->xs.getD i 0 < j)/\∀ i,SetTable.below.go xs j j7 lo hi<=i->i < xs.size->j<=xs.getD i 0
 | 0,lo,hi,h1,h2,h3,h4,h5=>by unfold SetTable.below.go;exact ⟨"o",h4,λi hi'=>h5 i "o"⟩
 | j7 + 1,lo,hi,h1,h2,h3,h4,h5=>by
  unfold SetTable.below.go
  by_cases hlt:lo < hi
  ·rw [if_pos hlt];have hm:(lo + hi) / 2 < xs.size:=by lia
   dsimp only;rw [getD_in hm]
   by_cases hx:xs.getD ((lo + hi) / 2) 0 < j
   ·rw [if_pos hx];refine Mr hr j7 _ _ "o" h2 "o" (λi hi'=>?_) h5
    by_cases e:i=(lo + hi) / 2
    ·rw [e]; exact hx
    ·have:=hr i ((lo + hi) / 2) "o" hm;lia
   ·rw [if_neg hx];refine Mr hr j7 _ _ "o" "o" "o" h4 λi hi' hs=>?_
    by_cases e:i=(lo + hi) / 2
    ·rw [e]; lia
    ·have:=hr ((lo + hi) / 2) i "o" hs;lia
  ·rw [if_neg hlt];exact ⟨"o",h4,λi hi'=>h5 i "o"⟩
theorem Ph {j:Nat} (hr:Qbq xs):SetTable.below xs j<=xs.size/\(∀ i,i < SetTable.below xs j->xs.getD i 0 < j)/\∀ i,SetTable.below xs j<=i->i < xs.size->j<=xs.getD i 0:=by unfold SetTable.below;exact Mr hr _ _ _ (R7 _) (O1 _) "o" (λi h=>absurd h (A1a _)) λi h1 h2=>by lia
theorem Qz9 (hr:Qbq xs) {k:Nat} (h:k < xs.size):SetTable.below xs (xs.getD k 0 + 1)=k + 1:=by
 let ⟨b1,b2,b3⟩:=Ph (j:=xs.getD k 0 + 1) hr;rcases Nat.lt_trichotomy (SetTable.below xs (xs.getD k 0 + 1)) (k + 1) with z | z | z
 ·have:=b3 k "o" h;lia
 ·exact z
 ·have h1:=b2 (k + 1) z;have h2:=hr k (k + 1) "o" "o";lia
theorem Qz8 (hr:Qbq xs):SetTable.below xs 0=0:=by let ⟨b1,b2,b3⟩:=Ph (j:=0) hr;refine R4 λz=>?_;have:=b2 0 "o";lia
structure Bk (led:Bool) (t:G6):Prop where
 rise:Qbq t.place
 dum:t.dummies=#[]
 led_:t.led=led
theorem Qq4 (n:Nat):Qbq (Array.range n):=λi k h1 h2=>by
 have h2':k < n:=by simpa using h2
 simp [Array.getD,h2',show i < n by lia];exact h1
def Vh (h:t.led=led) (n:Nat):Bk led (t.standIn n):=⟨Qq4 n,rfl,h⟩
def Me (h:Bk led t) (n:Nat):Bk led (t.orStandIn n):=by
 unfold SetTable.orStandIn
 split
 ·exact h
 ·exact Vh h.led_ n
theorem Aw {j:Nat} (hr:Qbq xs) (hn:xs[SetTable.below xs j]?≠some j):Qbq (SetTable.insertAt xs (SetTable.below xs j) j):=by
 let ⟨b1,b2,b3⟩:=Ph (j:=j) hr;generalize SetTable.below xs j=p at *;have hs:(SetTable.insertAt xs p j).size=xs.size + 1:=by unfold SetTable.insertAt;simp;lia
 have g:∀ i,i < xs.size + 1->(SetTable.insertAt xs p j).getD i 0=if i < p then xs.getD i 0 else if i=p then j else xs.getD (i - 1) 0:=λi hi=>by
  unfold SetTable.insertAt;rw [Array.getD_eq_getD_getElem?,Array.getElem?_append]
  by_cases h1:i < p
  ·rw [if_pos h1,if_pos (by simp; lia),Array.getElem?_push];simp [Array.getElem?_extract,Nat.min_eq_left b1,h1,Nat.ne_of_lt h1,show i < xs.size by lia]
  ·rw [if_neg h1]
   by_cases h2:i=p
   ·subst h2;rw [if_pos rfl,if_pos (by simp [Nat.min_eq_left b1]),Array.getElem?_push];simp [Nat.min_eq_left b1]
   ·rw [if_neg h2,if_neg (by simp [Nat.min_eq_left b1]; lia)];simp [Array.getElem?_extract,Nat.min_eq_left b1];have e:p + (i - (p + 1))=i - 1:=by lia
    rw [e];have:i - (p + 1) < xs.size - p:=by lia
    simp [this]
 intro i k h1 h2;rw [hs] at h2;rw [g i "o",g k h2];have hp:∀ m,p<=m->m < xs.size->j < xs.getD m 0:=λm hm1 hm2=>by
  have h3:=b3 m hm1 hm2
  by_cases e:m=p
  ·subst e;refine Nat.lt_of_le_of_ne h3 λz=>hn ?_;rw [Array.getElem?_eq_getElem hm2];have:xs.getD m 0=xs[m]:=by simp [Array.getD,hm2]
   rw [<- this,<- z]
  ·have h4:=hr p m "o" hm2;have h5:=b3 p (O1 _) "o";lia
 by_cases c1:k < p
 ·rw [if_pos c1,if_pos "o"];exact hr i k h1 "o"
 ·rw [if_neg c1]
  by_cases c2:k=p
  ·rw [if_pos c2,if_pos "o"];exact b2 i "o"
  ·rw [if_neg c2]
   by_cases c3:i < p
   ·rw [if_pos c3]
    by_cases c4:i < k - 1
    ·exact hr i (k - 1) c4 "o"
    ·lia
   ·rw [if_neg c3]
    by_cases c5:i=p
    ·rw [if_pos c5];exact hp (k - 1) "o" "o"
    ·rw [if_neg c5];exact hr (i - 1) (k - 1) "o" "o"
def Qv9 (j:Nat):SetTable.has #[] j=false:=by unfold SetTable.has;simp
def Qf4 (h:t.dummies=#[]) (j:Nat):t.slot j=.empty/\t.place[SetTable.below t.place j]?≠some j\/∃ i,t.slot j=.live i:=by
 unfold SetTable.slot;dsimp only
 by_cases c:t.place[SetTable.below t.place j]? = some j
 ·right
  rw [if_pos (by rw [c]; simp)];exact ⟨_,rfl⟩
 ·left
  rw [if_neg (by simpa using c),h,Qv9];exact ⟨rfl,c⟩
theorem Ef {t:G6} (h:t.dummies=#[]) (x:Int):∀ (j7:Nat) (p:SetTable.Probe),p.dummy=none->∀ j d,SetTable.probe.go t (λ_=>x + 1) x j7 p=some (.empty j d)->d=none/\t.place[SetTable.below t.place j]?≠some j
 | 0,p,_,j,d,e=>by simp [SetTable.probe.go] at e
 | j7 + 1,p,hp,j,d,e=>by
  unfold SetTable.probe.go at e;rcases Qf4 h p.j with ⟨c,c'⟩ | ⟨i,c⟩
  ·rw [c] at e;cases e;exact ⟨hp,c'⟩
  ·rw [c] at e;dsimp only at e;rw [if_neg (by simp; lia)] at e;refine Ef h x j7 _ ?_ j d e;unfold SetTable.advance
   split
   ·exact hp
   ·exact hp
def Hs (h:t.dummies=#[]) {x:Int} {wd:Bool} (e:t.freeSlot x=some (slot,wd)):wd=false/\t.place[SetTable.below t.place slot]?≠some slot:=by
 unfold SetTable.freeSlot at e
 split at e
 ·rename_i j d he
  unfold SetTable.probe at he;let ⟨rfl,h2⟩:=Ef h x _ _ rfl j d he;cases e;exact ⟨rfl,h2⟩
 ·cases e
def Qr4 (h:Bk led t) {j:Nat} (hn:t.place[SetTable.below t.place j]?≠some j):Bk led (t.put j).1:=by unfold SetTable.put;refine ⟨Aw h.rise hn,?_,h.led_⟩;show (if SetTable.has t.dummies j=true then _ else t.dummies)=#[];rw [h.dum,Qv9];rfl
def Qqw (h:Bk led t) (es:Array (Int × G3)) (x:Int) (v:G3):Bk led (layNew t es x v).2.1:=by
 unfold layNew
 split
 ·rename_i slot wd he
  exact Me (Qr4 h (Hs h.dum he).2) _
 ·exact Vh h.led_ _
theorem Fa {m:Nat} {f:Nat->Option Nat}:Qbq (((range m).filterMap λj=>(f j).map λk=>(j,k)).map Prod.fst).toArray:=by
 have hp:(((range m).filterMap λj=>(f j).map λk=>(j,k)).map Prod.fst).Pairwise (· < ·):=by
  rw [pairwise_map,pairwise_filterMap];refine List.Pairwise.imp ?_ (pairwise_lt_range (n:=m));intro a b hab x hx y hy;cases ha:f a with
  | none=>rw [ha] at hx; cases hx
  | some k =>
   cases hb:f b with
   | none=>rw [hb] at hy; cases hy
   | some k' =>rw [ha] at hx;rw [hb] at hy;cases hx;cases hy;exact hab
 intro i k h1 h2;have h2':k < (((range m).filterMap λj=>(f j).map λk=>(j,k)).map Prod.fst).length:=by simpa using h2
 have:=A1c.mp hp i k "o" h2' h1;simp only [Array.getD_eq_getD_getElem?,getElem?_toArray,getElem?_eq_getElem h2',getElem?_eq_getElem (show i < _ from Nat.lt_trans h1 h2'),Option.getD_some];exact this
theorem Hm (h:Bk led t) (es:Array (Int × G3)) (n:Nat):Bk led (relayAll t es n).2.1:=by
 unfold relayAll
 split
 ·rename_i t' order he
  dsimp only
  split
  ·unfold SetTable.relaid SetTable.laid at he;cases ho:SetTable.layClean (SetTable.sizeAbove n - 1) (es.map (·.1)) with
   | none=>rw [ho] at he; cases he
   | some owner =>rw [ho] at he;cases he;exact ⟨Fa,rfl,h.led_⟩
  ·exact Vh h.led_ _
 ·exact Vh h.led_ _
section
variable {prog:G8} {w:World} {K:Type} [DecidableEq K] {knd:KeyKind prog w K} {A:G7} {E:K1} {s:G4}
def Qxx (led:Bool) (h:Heap) (a:G5):Prop:=∃ o es ep t,h.get? a=some o/\o.data=.set es ep t/\Bk led t
theorem Bk.plain (h:Bk led t) (b:Bool):Bk led { t with plain:=b }:=⟨h.rise,h.dum,h.led_⟩
def Qt9 {g:Bool->Sem Unit} (hg:∀ (b:Bool) (s₁:G4) (Q':Unit->G4->Prop),Q' () s₁->wpAny (model prog w) A (g b) Q' E s₁)
  {a:G5} {o:Obj} (ho:s.heap.get? a=some o) (hex:o.ExactSet) (hd:o.data=.set es ep t)
  {es1:Array (Int × G3)} {t2:G6} {S':K->Bool} (hel1:ElemsOf knd es1.toList) (hmem1:∀ k',S' k'=true ↔ ∃ e∈es1.toList,knd.is k' e.2=true)
  (hb1:es1.size < scanBound) (hf2:t2.fits es1.size=true) (hi:Bk led t2) {wd:Bool} {R:Option Bool->G4->Prop}
  (h:∀ h',Heap.SameBut a s.heap h'->h'.SetOf knd a S' es1.size->Qxx led h' a->R (some true) { s with heap:=h' }) :
  wpAny (model prog w) A (do
    storeSet a es1 t2
    if (!wd && t2.tooFull)=true then do
      g (relayAll t2 es1 (SetTable.grown es1.size)).2.2
      storeSet a (relayAll t2 es1 (SetTable.grown es1.size)).1 (relayAll t2 es1 (SetTable.grown es1.size)).2.1
      pure (some true)
     else pure (some true)) R E s:=by
 let ⟨ho1,hS1⟩:=SetOf_store (knd:=knd) ho hex hd hel1 hmem1 hb1 hf2;refine M6 (wpAny_storeSet_of ho hd ?_ (fits_of_scanBound hb1))
 split
 ·have hp:=relayAll_perm t2 es1 (SetTable.grown es1.size);have hm:∀ k',S' k'=true ↔ ∃ e∈(relayAll t2 es1 (SetTable.grown es1.size)).1.toList,knd.is k' e.2=true:=λk'=>by
   rw [hmem1 k']
   constructor
   ·rintro ⟨e,he,q⟩;exact ⟨e,hp.mem_iff.mpr he,q⟩
   ·rintro ⟨e,he,q⟩;exact ⟨e,hp.mem_iff.mp he,q⟩
  have hz:(relayAll t2 es1 (SetTable.grown es1.size)).1.size=es1.size:=by rw [<- Array.length_toList,hp.length_eq,Array.length_toList]
  let ⟨ho2,hS2⟩:=SetOf_store (knd:=knd) ho1 hex rfl (hel1.perm hp) hm (by rw [hz]; exact hb1) (relayAll_fits t2 es1 (SetTable.grown es1.size));rw [hz] at hS2;refine M6 (hg _ _ _ (M6 (wpAny_storeSet_of ho1 rfl ?_ (fits_of_scanBound (by rw [hz]; exact hb1)))));exact M8 (h _ ((T8 s.heap a _).trans (T8 _ a _)) hS2 ⟨_,_,_,_,ho2,rfl,Hm hi _ _⟩)
 ·exact M8 (h _ (T8 s.heap a _) hS1 ⟨_,_,_,_,ho1,rfl,hi⟩)
theorem Qnj {a:G5} {S:K->Bool} {k:K} {Q:Bool->G4->Prop} (jo:knd.is k x=true) (hsc:x.scannable=true) (hS:s.heap.SetOf knd a S n) (hL:Qxx led s.heap a)
  (jg:n + 1 < scanBound)
  (h:∀ h',Heap.SameBut a s.heap h'->h'.SetOf knd a (λk'=>S k' || decide (k'=k)) (if S k then n else n + 1)->Qxx led h' a->Q (!S k) { s with heap:=h' }) :
  wpAny (model prog w) A (setAddHashed a x (knd.hash k)) Q E s:=by
 let ⟨o,es,ep,t,ho,hex,hd,hel,g8,hb,hf,hn⟩:=id hS;have hi:Bk led t:=by let ⟨o',es',ep',t',ho',hd',hi'⟩:=hL;rw [ho] at ho';cases ho';rw [hd] at hd';cases hd';exact hi'
 unfold setAddHashed setAddHashedIn;refine U3 (M6 (V9 ho hd hf ?_));dsimp only;rw [byScan_of hsc hb hel];simp only [↓reduceIte];unfold setAddByScan;refine M6 (M6 (wpAny_rule (M6 (wpAny_setScan_of jo ho hd hf hel ?_))));have hfound:S k=true ↔ (findIdx? (λe=>knd.is k e.2) es.toList).isSome=true:=by rw [g8 k,findIdx?_isSome,any_eq_true]
 cases hr:findIdx? (λe=>knd.is k e.2) es.toList with
 | some j =>
  have hSk:S k=true:=hfound.mpr (by rw [hr]; rfl);have hst:=h s.heap (Heap.SameBut.refl a s.heap) (by
   rw [if_pos hSk];refine ⟨o,es,ep,t,ho,hex,hd,hel,λk'=>?_,hb,hf,hn⟩;rw [<- g8 k']
   by_cases e:k'=k
   ·subst e; simp [hSk]
   ·simp [e]) hL
  rw [hSk] at hst;exact M8 (M8 hst)
 | none =>
  have hSk:S k=false:=by
   cases c:S k with
   | false=>rfl
   | true=>have:=hfound.mp c; rw [hr] at this; cases this
  dsimp only;have hp:=layNew_perm t es (knd.hash k) x;have hlf:=layNew_fits t es (knd.hash k) x;have hli:=Qqw hi es (knd.hash k) x;generalize layNew t es (knd.hash k) x=L at hp hlf hli ⊢;let ⟨es1,t1,wd,gave⟩:=L;dsimp only at hp hlf hli ⊢;rw [Array.toList_push] at hp;have hz:es1.size=n + 1:=by rw [<- Array.length_toList,hp.length_eq,length_append,Array.length_toList,hn]; rfl
  have fin:∀ h',Heap.SameBut a s.heap h'->h'.SetOf knd a (λk'=>S k' || decide (k'=k)) es1.size->Qxx led h' a->Q true { s with heap:=h' }:=λh' sb hS' hL'=>by have:=h h' sb;rw [hSk,if_neg (by simp)] at this;rw [hz] at hS';exact this hS' hL'
  have hm:=mem_push_iff jo g8 hp;have he1:ElemsOf knd es1.toList:=(hel.push jo hsc).perm hp;have hb1:es1.size < scanBound:=by rw [hz]; exact jg
  have tail:∀ (t2:G6) {g:Bool->Sem Unit},(∀ (b:Bool) (s₁:G4) (Q':Unit->G4->Prop),Q' () s₁->wpAny (model prog w) A (g b) Q' E s₁)->t2.fits es1.size=true->Bk led t2->∀ {R:Option Bool->G4->Prop},(∀ s',Q true s'->R (some true) s')->wpAny (model prog w) A (do
    storeSet a es1 t2
    if (!wd && t2.tooFull)=true then do
      g (relayAll t2 es1 (SetTable.grown es1.size)).2.2
      storeSet a (relayAll t2 es1 (SetTable.grown es1.size)).1 (relayAll t2 es1 (SetTable.grown es1.size)).2.1
      pure (some true)
     else pure (some true)) R E s:=λt2 g hg f2 i2 R hR=>Qt9 hg ho hex hd he1 hm hb1 f2 i2 λh' sb hS' hL'=>hR _ (fin h' sb hS' hL')
  have gw:∀ {s₁:G4} {Q':Unit->G4->Prop} (b:Bool),Q' () s₁->wpAny (model prog w) A (match b with | true=>rule "set.scan.the-table-gave-way" | false=>pure ()) Q' E s₁:=λb hq=>by
   cases b
   ·exact M8 hq
   ·exact wpAny_rule hq
  refine M6 (gw gave ?_)
  split
  ·rw [hashByValue_scannable 8 hsc];refine M6 (M8 ?_);refine tail _ (λb s₁ Q' hq=>gw b hq) ?_ ?_ λs' hq=>M8 hq
   ·split
    ·exact hlf
    ·exact SetTable.fits_plain_off hlf
   ·split
    ·exact hli
    ·exact hli.plain false
  ·refine M6 (M8 ?_);exact tail _ (λb s₁ Q' hq=>gw b hq) hlf hli λs' hq=>M8 hq
end
def Tq (prog:G8) (w:World) (led:Bool) (h:Heap) (a:G5) (ks:K3):Prop:=h.SetOf (intKind prog w) a (λk'=>ks.any (· == k')) ks.length/\Qxx led h a
def Tq.at_ {prog:G8} {w:World} {h h':Heap} {a:G5} {ks:K3} (x:Tq prog w led h a ks) (k:∀ o,h.get? a=some o->h'.get? a=some o):Tq prog w led h' a ks:=by let ⟨⟨o,es,ep,t,ho,j6⟩,⟨o',es',ep',t',ho',rest'⟩⟩:=x;exact ⟨⟨o,es,ep,t,k _ ho,j6⟩,⟨o',es',ep',t',k _ ho',rest'⟩⟩
section
variable {prog:G8} {w:World} {A:G7} {R:Result->G4->Prop} {I:G5} {fp wr:K6} {G:Array GenState->Array GenState->Prop} {P:Nat->G3->Prop} {St:Nat->G4->Prop}
theorem Og (W:WalksS prog w A.in1 I fp wr G n P St) (S:G5) (hSf:S ∉ fp) (val:Nat->Int) (jk:∀ i v,P i v->∃ t,v=.int (val i) t) (hb:n + 1 < scanBound) :
  ∀ (k i:Nat) (s:G4),n - i=k->i<=n->St i s->Tq prog w led s.heap S (firstMet val i) ->
   (∀ s',Moved (S :: wr) G s s'->Tq prog w led s'.heap S (firstMet val n)->R (.ok (.ret .none)) s') ->
   codeAny (model prog w) A (.builtin "set.update.loop" ⟨[.ref S,.ref I],[]⟩) R s:=by
 have hSw:S ∉ wr:=λh=>hSf (W.sub _ h);have jz:∀ b∈wr,b∈S :: wr:=λb hb=>Q0 _ hb;intro k
 induction k with
 | zero =>
  intro i s hk hi hst hS hR;obtain rfl:i=n:=by lia
  refine V7 F.entry_set_update_loop ?_;rw [Around.under_plainId F.plain_set_update_loop _];show wpAny _ A.in1 (pyNext (.ref I) >>= _) _ _ s;refine M6 (W.done s _ _ hst λs' hm=>?_);show wpAny _ A.in1 (ret Value.none) _ _ s';exact M8 (hR s' (hm.mono jz) (hS.at_ λo e=>hm.heap S o hSw e))
 | succ k ih =>
  intro i s hk hi hst hS hR;have hlt:i < n:=by lia
  refine V7 F.entry_set_update_loop ?_;rw [Around.under_plainId F.plain_set_update_loop _];show wpAny _ A.in1 (pyNext (.ref I) >>= _) _ _ s;refine M6 (W.item i s _ _ hlt hst λv s' hP hst' hm=>?_);let ⟨t,rfl⟩:=jk i v hP;let ⟨hS1,hL1⟩:=hS.at_ λo e=>hm.heap S o hSw e;show wpAny _ A.in1 (holding [Value.int (val i) t] (setAdd S (.int (val i) t)) >>= _) _ _ s';refine M6 (U3 ?_);unfold setAdd;refine U3 ?_;refine M6 ((intKind prog w).pyHash (k:=val i) (intKind_is _ _ _ _) ?_);refine Qnj (knd:=intKind prog w) (s:={ s' with toks:=s'.toks + 1 }) (intKind_is _ _ _ _) rfl hS1 hL1 (by have:=firstMet_length_le val i; lia) λh' hsb hS2 hL2=>?_;have hS3:Tq prog w led h' S (firstMet val (i + 1)):=⟨SetOf_congr hS2 (λk'=>by rw [firstMet_succ,step_any]) (by rw [firstMet_succ,step_length]),hL2⟩
  have oth:∀ b o,b≠S->s'.heap.get? b=some o->h'.get? b=some o:=λb o hb e=>by rw [hsb.2 b hb]; exact e
  refine M8 ⟨X4 F.plain_set_update_loop _,ih (i + 1) _ "o" hlt (W.frame _ s' _ _ hst' (V5 _) λb hb o e=>oth b o (λh=>hSf (h ▸ hb)) e) hS3 λs'' hm'' hS''=>?_⟩;exact hR s'' (Moved.trans W.gtrans ((hm.mono jz).then_heap (V5 _) λb o hb e=>oth b o (λh=>hb (h ▸ O9)) e) hm'') hS''
end
section
variable {prog:G8} {w:World} {A:G7} {E:K1} {s:G4}
def Quj (led:Bool):Bk led (.fresh 0 0 led):=⟨λi k _ h=>by simp [SetTable.fresh] at h,rfl,rfl⟩
def Se (a:G3) {Q₁:K1}
  (h:Q₁ (.ref s.heap.objs.size) { s with heap:=s.heap.push { cls:=.type "set",dict:=none,data:=.set #[] 0 (.fresh 0 0 (!w.params.followText "set-order")) } }) :
  codeAny (model prog w) A (.call (.builtin "set.__new__") ⟨[.type "set",a],[]⟩) (wants Q₁ E) s:=by
 refine codeAny_of_tree ?_;show wpAny _ A.in1 (do checkBuiltinCall "set.__new__" ⟨[.type "set",a],[]⟩; again (.builtin "set.__new__" ⟨[.type "set",a],[]⟩)) _ _ s;refine M6 (W4 (F.newCall_set_1 a) (M8 ⟨X4 F.plain_set_new _,V7 F.entry_set_new ?_⟩));rw [Around.under_plainId F.plain_set_new _];unfold Builtin.«set.__new__» Builtin.Frozenset.newClass;have jz:=sub_set_self;let ⟨hp,g,d,tk,os⟩:=s;dsimp only
 wp_walk
 refine A0d (M8 ?_);dsimp only;simp only [newObj];refine M6 (wpAny_alloc (M8 ?_));exact M8 h
end
section
variable {prog:G8} {w:World} {A:G7} {E:K1} {s:G4}
theorem Ho {l:G5} {items:Array G3} {ns:K3} {Q:K1}
  (hh:A.handled=none) (hl:s.heap.IsList l items) (hi:IntsAre items.toList ns) (hb:items.size + 1 < scanBound)
  (h:∀ (h':Heap) (tk:Nat),Tq prog w (!w.params.followText "set-order") h' s.heap.objs.size (firstMet (λi=>ns.getD i 0) items.size) ->
   (∀ b o,b < s.heap.objs.size->s.heap.get? b=some o->h'.get? b=some o)->Q (.ref s.heap.objs.size) { s with heap:=h',toks:=tk }) :
  wpAny (model prog w) A (call (.type "set") [.ref l]) Q E s:=by
 let ⟨c,tl,hmro⟩:=F.called_set.mro;have hmade:=F.called_set.made;have jz:=F.called_set.sub;refine wpAny_call (codeAny_of_tree ?_);show wpAny _ _ (callAny (.type "set") _) _ _ _;refine M8 ⟨Code.quiet_builtin _ (by decide +kernel),V7 F.entry_type_call ?_⟩;rw [Around.under_plain (weight_type_call_type "set" [.ref l] []) rfl];have h1:=F.called_set.notType;have h2:=F.called_set.canCreate;have hct:=F.typeCall_set_1 (.ref l)
 repeat (any_goals (first | assumption | wp_step))
 obtain ⟨O,hO⟩:∃ O:Obj,O={ cls:=.type "set",dict:=none,data:=.set #[] 0 (.fresh 0 0 (!w.params.followText "set-order")) }:=⟨_,rfl⟩
 refine Z9 (Se (.ref l) (E:=E) (Q₁:=λobj s₁=>obj=.ref s.heap.objs.size/\s₁={ s with heap:=s.heap.push O }) ⟨rfl,by rw [hO]⟩) λr s₁ hr=>?_;cases r with
 | error e=>exact hr
 | ok fl =>
  cases fl with
  | ret obj =>
   let ⟨rfl,rfl⟩:=hr;have hS:(s.heap.push O).get? s.heap.objs.size=some O:=Q5 _ (by rw [hO]; rfl);have hT:Shared.TypeIs { s with heap:=s.heap.push O } (.ref s.heap.objs.size) "set" := ⟨_,hS,by rw [hO]⟩
   have hli:=F.called_set.init.lookup;have hbi:=F.called_set.init.bind (.ref s.heap.objs.size)
   repeat (any_goals (first | assumption | wp_step))
   refine Z9 (codeAny_call_builtin (R:=wants (λr s₂=>r=.none/\∃ h' tk,s₂={ s with heap:=h',toks:=tk } /\
     Tq prog w (!w.params.followText "set-order") h' s.heap.objs.size (firstMet (λi=>ns.getD i 0) items.size) /\
     (∀ b o,b < s.heap.objs.size->s.heap.get? b=some o->h'.get? b=some o)) E) F.called_set.init.plain F.entry_set_init (check_set_init_1 hT ?_)) λr₂ s₂ hr₂=>?_
   ·let ⟨ol,hol,hcl,nl,hdl⟩:=id hl;let ⟨ocls,odict,odata,oslots⟩:=ol;simp only at hcl hdl;subst hcl; subst hdl;have hol':(s.heap.push O).get? l=some { cls:=.type "list",dict:=odict,data:=.seq items nl,slots:=oslots }:=N7 _ hol;have hsls:=F.sub_list_set;have hslf:=F.sub_list_frozenset;have hne:(Value.type "list" == Value.type "dict")=false:=by decide
    have hl1:(s.heap.push O).IsList l items:=⟨_,hol',rfl,nl,rfl⟩
    unfold Builtin.«set.__init__» noKeywords Builtin.Frozenset.updateFrom;generalize hPI:pyIter=PI;rw [hO] at hS hol' hl1 hT ⊢
    wp_walk
    subst hPI;refine X5 hl1 ?_;refine M6 (wpAny_runValue ?_);have hlS:l < s.heap.objs.size:=N6 hol;have hh3:A.in1.in1.in1.handled=none:=by simp [hh]
    rw [<- hO] at hS hl1 ⊢;have hz:(s.heap.push O).objs.size=s.heap.objs.size + 1:=Heap.size_push _ _;have jk:∀ (i:Nat) (v:G3),items[i]? = some v->∃ t,v=.int ((λi=>ns.getD i 0) i) t:=λi v hv=>IntsAre.int_at hi i v (by rw [Array.getElem?_toList]; exact hv);refine Og (led:=!w.params.followText "set-order") ((W9 hh3 _ l (by rw [hz]; exact O7 (V6 hlS)) items).toS) s.heap.objs.size (by rw [hz]; simp only [mem_cons,not_mem_nil,or_false,not_or]; exact ⟨O7 (V0 _),Z4 hlS⟩) (λi=>ns.getD i 0) jk hb (items.size - 0) 0 _ "o" (R7 _)
     ⟨⟨_,Q5 _ rfl,rfl,rfl⟩,(hl1.push _)⟩ ?hS0 ?hR
    case hS0 =>have hget:=N7 { cls:=.type "list_iterator",data:=.fields #[.ref l,.int 0 0] } hS;refine ⟨SetOf_congr ((setObjOf_fresh (knd:=intKind prog w) (!w.params.followText "set-order")).setOf (hO ▸ hget) (by unfold scanBound; lia)) (λ_=>rfl) rfl,⟨O,#[],0,_,hget,by rw [hO],Quj _⟩⟩
    case hR =>intro s' hm hS';let ⟨h',g',d',tk',os'⟩:=s';have eg:g'=s.gens:=hm.gens;have ed:d'=s.drawn:=hm.drawn;have eo:os'=s.os:=hm.os;subst eg; subst ed; subst eo;show wpAny _ _ _ _ _ _;refine M8 ?_;show wpAny _ _ (ret Value.none) _ _ _;refine M8 ⟨rfl,h',tk',rfl,hS',λb o hb e=>?_⟩;refine hm.heap b o ?_ (N7 _ (N7 _ e));rw [hz];simp only [mem_cons,not_mem_nil,or_false,not_or];exact ⟨O7 hb,O7 (V6 hb)⟩
   ·cases r₂ with
    | error e=>exact hr₂
    | ok fl₂ =>
     cases fl₂ with
     | ret r =>
      let ⟨rfl,h',tk,rfl,hS',hk'⟩:=hr₂
      repeat (any_goals (first | assumption | wp_step))
      exact h _ _ hS' hk'
     | _=>exact hr₂.elim
  | _=>exact hr.elim
end
def Zq:Slot "set_iterator" "__next__" "set_iterator.__next__" :=
 .of (owner:="set_iterator") (n:="__next__") (by rw [typeLookup_type,builtinLookup_eq_fast]; kernel_rfl) (by decide +kernel) (by decide +kernel) (by decide +kernel)
  (by first | exact .inl (by decide +kernel) | exact .inr (by decide +kernel)) (by rw [isSubtype_type]; kernel_rfl)
def Ye:entryFor table "set_iterator.__next__" = some Builtin.«set_iterator.__next__» := entryFor_of_tree (by kernel_rfl)
def Td:Slot "set_iterator" "__iter__" "set_iterator.__iter__" :=
 .of (owner:="set_iterator") (n:="__iter__") (by rw [typeLookup_type,builtinLookup_eq_fast]; kernel_rfl) (by decide +kernel) (by decide +kernel) (by decide +kernel)
  (by first | exact .inl (by decide +kernel) | exact .inr (by decide +kernel)) (by rw [isSubtype_type]; kernel_rfl)
def slot_set_iter:Slot "set" "__iter__" "set.__iter__" :=
 .of (owner:="set") (n:="__iter__") (by rw [typeLookup_type,builtinLookup_eq_fast]; kernel_rfl) (by decide +kernel) (by decide +kernel) (by decide +kernel)
  (by first | exact .inl (by decide +kernel) | exact .inr (by decide +kernel)) (by rw [isSubtype_type]; kernel_rfl)
def Fo:entryFor table "set.__iter__" = some Builtin.«frozenset.__iter__» :=entryFor_alias (id':="frozenset.__iter__") (by kernel_rfl) (by first | rfl | decide +kernel | (unfold String.splitOn; simp +decide [String.splitOnAux])) (by decide +kernel) (by kernel_rfl)
section
variable {prog:G8} {w:World} {A:G7} {E:K1} {s:G4}
def Ec {a:G5} {o:Obj} {given e0:Nat} {Q:Option (G3 × Nat)->G4->Prop} (ho:s.heap.get? a=some o) (hd:o.data=.set es ep t) (hf:t.fits es.size=true) (hl:t.led=true) (hw:w.params.followText "set-order" = false) (hp:(!t.plain && decide (es.size > 1))=false)
  (h:Q (match es[SetTable.below t.place slot]?,t.place[SetTable.below t.place slot]? with | some (_,x),some j=>some (x,j + 1) | _,_=>none) s):wpAny (model prog w) A (setNext a slot given e0) Q E s:=by
 unfold setNext;refine M6 (V9 ho hd hf ?_);dsimp only;unfold setsByText;refine M6 (M6 (A0d (M8 ?_)));show wpAny _ A (if w.params.followText "set-order" = true then _ else _) _ _ _;rw [if_neg (by rw [hw]; simp)];show wpAny _ A (if (!t.plain && decide (es.size > 1))=true then _ else _) _ _ _;rw [if_neg (by rw [hp]; simp)];show wpAny _ A ((if (!t.led && !es.isEmpty)=true then unsupported "set:maker-not-led" else pure ()) >>= _) _ _ _;rw [if_neg (by rw [hl]; simp)];refine M6 (M8 ?_);exact M8 h
end
def Lj:Manifest.owners.lookup (String.ofList ['r','o','t','a','r','e','t','i','_','t','e','s'].reverse)=some Manifest.sig_set_iterator:=by kernel_rfl
def Yl (a:G3):argsOk "set_iterator.__next__" ⟨[a],[]⟩:=by unfold argsOk; rw [signature?_of (id:="set_iterator.__next__") (n:=['_','_','t','x','e','n','_','_']) (o:=['r','o','t','a','r','e','t','i','_','t','e','s']) (by kernel_rfl) Lj]; kernel_rfl
section
variable {prog:G8} {w:World} {A:G7} {E:K1} {s:G4}
def Lv {a:G5} {o:Obj} {given:Nat} {Q:Option (G3 × Nat)->G4->Prop} (ho:s.heap.get? a=some o) (hd:o.data=.set es ep t) (hf:t.fits es.size=true) (hw:w.params.followText "set-order" = true)
  (h:Q (((pickOrder (w.params.setOrder a ep) es)[given]?).map λe=>(e.2,slot)) s):wpAny (model prog w) A (setNext a slot given ep) Q E s:=by
 unfold setNext;refine M6 (V9 ho hd hf ?_);dsimp only;unfold setsByText;refine M6 (M6 (A0d (M8 ?_)));show wpAny _ A (if w.params.followText "set-order" = true then _ else _) _ _ _;rw [if_pos hw];rw [if_neg (by simp)];unfold setWalk;refine M6 (M6 (V9 ho hd hf ?_));dsimp only;unfold setsByText;refine M6 (M6 (A0d (M8 ?_)));show wpAny _ A (if w.params.followText "set-order" = true then _ else _) _ _ _;rw [if_pos hw];refine M6 (A0d (M8 ?_));exact M8 h
def Qq9 {a:G5} {o:Obj} {place:Nat} {hx:Int} {Q:K1} (ho:s.heap.get? a=some o) (hd:o.data=.set es ep t) (hf:t.fits es.size=true) (h1:es[place]? = some (hx,x))
  (h:Q x s):wpAny (model prog w) A (setNextDrawn a place ep) Q E s:=by
 unfold setNextDrawn;refine M6 (V9 ho hd hf ?_);dsimp only;rw [if_neg (by simp),h1];exact M8 h
theorem Pu {α:Type}:∀ (l:List α) (i:Nat) (h:i < l.length),(l[i] :: l.eraseIdx i).Perm l
 | y :: ys,0,_=>by simp
 | y :: ys,i + 1,h=>by
  have h':i < ys.length:=by simpa using h
  simp only [getElem_cons_succ,eraseIdx_cons_succ];exact (List.Perm.swap _ _ _).trans ((Pu ys i h').cons y)
theorem Tf {α:Type} (next:Nat->Nat):∀ (j7 k:Nat) (left:List α) (out:Array α),left.length<=j7->(pickOrder.go next j7 k left out).toList.Perm (out.toList ++ left)
 | 0,k,left,out,h=>by have:left=[]:=A0e.mp "o";subst this;simp [pickOrder.go]
 | j7 + 1,k,left,out,h=>by
  unfold pickOrder.go;cases hl:left with
  | nil=>simp
  | cons y ys =>
   have hlt:next k % (y :: ys).length < (y :: ys).length:=Nat.mod_lt _ (by simp)
   rw [getElem?_eq_getElem hlt];dsimp only;generalize next k % (y :: ys).length=i at hlt
   refine (Tf next j7 (k + 1) _ _ ?_).trans ?_
   ·rw [length_eraseIdx_of_lt hlt];rw [hl] at h;lia
   ·rw [Array.toList_push,append_assoc];refine List.Perm.append_left _ ?_;exact Pu _ _ hlt
end
theorem Gp {α β:Type} {R:α->β->Prop}:∀ {xs:List α} {ys:List β},Paired R xs ys->∀ (i:Nat) x,xs[i]? = some x->∃ y,ys[i]? = some y/\R x y
 | _,_,.nil,i,x,h=>by simp at h
 | _,_,.cons a t,0,x,h=>by simp at h;subst h;exact ⟨_,rfl,a⟩
 | _,_,.cons a t,i + 1,x,h=>by let ⟨y,e,r⟩:=Gp t i x (by simpa using h);exact ⟨y,by simpa using e,r⟩
theorem Rh {α β:Type} {R:α->β->Prop}:∀ {xs:List α} {ys:List β},Paired R xs ys->∀ (i:Nat) y,ys[i]? = some y->∃ x,xs[i]? = some x/\R x y
 | _,_,.nil,i,x,h=>by simp at h
 | _,_,.cons a t,0,x,h=>by simp at h;subst h;exact ⟨_,rfl,a⟩
 | _,_,.cons a t,i + 1,x,h=>by let ⟨y,e,r⟩:=Rh t i x (by simpa using h);exact ⟨y,by simpa using e,r⟩
def oV:Option Int->V
 | none=>.non
 | some m=>.int m
def Qjz (r:K3):(Nk r).canLay0=true:=by simp [Nk,PyData.canLay0,PySem.W.ke_canLayAll0]
theorem Qy0 (r:K3):(Nk r).depth<=8:=by simp only [Nk,PyData.depth,PySem.W.ke_depthAll];lia
def Qb8 (ak:K3) (v:K4):J6:=((range ak.length).filter λr=>decide (((v.count r:Nat):Int) < ak.getD r 0)).map λr=>v ++ [r]
def Wc (ak:K3):Nat->List K4
 | 0 => [[]]
 | n + 1=>(Wc ak n).flatMap (Qb8 ak)
def Qvw (ak:K3) (v:K4):(Qb8 ak v).length<=ak.length:=by unfold Qb8;rw [length_map];exact O6 (W3 _ _) (by simp)
theorem Mc (ak:K3):∀ vs:J6,(vs.flatMap (Qb8 ak)).length<=ak.length * vs.length
 | []=>by simp
 | v :: r=>by rw [flatMap_cons,length_append,length_cons,Nat.mul_add];have h1:=Qvw ak v;have h2:=Mc ak r;lia
theorem Su (ak:K3):∀ n,(Wc ak n).length<=ak.length ^ n
 | 0=>by simp [Wc]
 | n + 1=>by rw [Wc,Nat.pow_succ,Nat.mul_comm];exact O6 (Mc ak _) (A1d _ (Su ak n))
theorem Qi7:((c:Int) < ak.getD r 0) ↔ c < bF ak r:=by unfold bF;lia
theorem Iv {v:K4}:Fit (bF ak) (v ++ [r]) ↔ Fit (bF ak) v/\v.count r < bF ak r:=by
 constructor
 ·intro h;refine ⟨λx=>?_,?_⟩
  ·have:=h x;rw [count_append] at this;lia
  ·have:=h r;rw [count_append] at this;simp at this;lia
 ·rintro ⟨h1,h2⟩ x;rw [count_append]
  by_cases hx:r=x
  ·subst hx;simp;lia
  ·have:=h1 x;simp [hx];lia
theorem Yz {ak:K3}:∀ {n:Nat} {v:K4},v∈Wc ak n ↔ v.length=n/\Fit (bF ak) v
 | 0,v=>by
  rw [Wc,mem_singleton]
  constructor
  ·rintro rfl;exact ⟨rfl,λr=>by simp⟩
  ·rintro ⟨h,_⟩;exact A0e.mp h
 | n + 1,v=>by
  rw [Wc,mem_flatMap]
  constructor
  ·rintro ⟨u,hu,hv⟩;let ⟨h1,h2⟩:=Yz.mp hu;let ⟨r,hr,rfl⟩:=O3.mp hv;let ⟨h3,h4⟩:=T3.mp hr;exact ⟨by simp [h1],Iv.mpr ⟨h2,Qi7.mp (Q7 h4)⟩⟩
  ·rintro ⟨h1,h2⟩;have hne:v≠[]:=λz=>by rw [z] at h1; simp at h1
   have e:=(dropLast_concat_getLast hne).symm;rw [e] at h2;let ⟨h3,h4⟩:=Iv.mp h2;refine ⟨v.dropLast,Yz.mpr ⟨by simp [h1],h3⟩,?_⟩;refine O3.mpr ⟨v.getLast hne,T3.mpr ⟨?_,O8 (Qi7.mpr h4)⟩,e.symm⟩;rw [mem_range];exact Jz h2 _ (by simp)
def Vv (ak:K3) (aj:J5):J6:=(Wc ak aj.length).filter λv=>decide (∀ u∈Wc ak aj.length,wsum (wF aj) u<=wsum (wF aj) v)
theorem Kd {v:K4}:v∈Vv ak aj ↔ v.length=aj.length/\Fit (bF ak) v/\Opt ak aj v:=by
 unfold Vv;rw [mem_filter,Yz];simp only [decide_eq_true_eq]
 constructor
 ·rintro ⟨⟨h1,h2⟩,h3⟩;exact ⟨h1,h2,λu hu hf=>h3 u (Yz.mpr ⟨"o",hf⟩)⟩
 ·rintro ⟨h1,h2,h3⟩;exact ⟨⟨h1,h2⟩,λu hu=>h3 u (by have:=(Yz.mp hu).1; lia) (Yz.mp hu).2⟩
theorem Rows.app {ws1 ws2:K6} {r1 r2:J5} (h1:Rows H ws1 r1) (h2:Rows H ws2 r2):Rows H (ws1 ++ ws2) (r1 ++ r2):=by
 refine ⟨by simp [h1.1,h2.1],λi a row z1 z2=>?_⟩
 by_cases hi:i < ws1.length
 ·rw [getElem?_append_left hi] at z1;rw [getElem?_append_left (by rw [<- h1.1]; exact hi)] at z2;exact h1.2 i a row z1 z2
 ·rw [getElem?_append_right "o"] at z1;rw [getElem?_append_right (by rw [<- h1.1]; lia),<- h1.1] at z2;exact h2.2 _ a row z1 z2
def Itv (K:M7) (a:G5) (n:Nat):It :=⟨λi H => ∃ xs x,SqL K H a xs/\xs.length=n/\xs.reverse[i]? = some x,λi H x H'=>H'=H/\∀ xs,SqL K H a xs->xs.reverse[i]? = some x,λi H=>i=n⟩
theorem Qp3 {P:G8} {w:World} {tg:Expr} (a it:G5) (n:Nat):Qmk P w K tg (Itv K a n) [it] it (λi h=>h.IsRevIter it a ((n:Int) - 1 - (i:Int))) where
 mem:=by simp
 obj:=λi h st b hb=>by
  have e:b=it:=by simpa using hb
  subst e;let ⟨o,e,c,d⟩:=st;exact ⟨o,e,λv z=>by rw [d] at z; cases z⟩
 keep:=λi h h' st k=>st.at λo e=>k it (by simp) o e
 item:=by
  intro X hP hw hK hc i dz s σ H E I hf st hg;subst hP hw hK;let ⟨xs,x,hq,hn,hx⟩:=hg;have hi:i < n:=by have:=(N5.mp hx).1;simp at this;lia
  let ⟨its,rv,p,hz⟩:=I.list hq;let ⟨u,hu,ru⟩:=(Qp1 rv).get hx;let ⟨f0,f1,f2,f3,f4,f5⟩:=hf it (by simp);have hl:=rv.length;have e1:(n:Int) - 1 - (i:Int)=((n - 1 - i:Nat):Int):=by lia
  have e2:((n - 1 - i:Nat):Int) - 1=(n:Int) - 1 - ((i + 1:Nat):Int):=by lia
  have hu2:its.toArray[n - 1 - i]? = some u:=by
   rw [getElem?_reverse "o"] at hu;have e3:its.length - 1 - i=n - 1 - i:=by lia
   rw [e3] at hu;simpa using hu
  rw [e1] at st;refine wpAny_pyNext_rev_item st p.isList (x:=u) hu2 λh' st' sb=>?_;rw [e2] at st';have I1:Inv X dz σ H { s with heap:=h' }:=I.turned (t':=s.toks) (λb o hb e=>(sb.2 b hb).trans e) f0 f1 f3 f4 f5;let ⟨o,e,c,d⟩:=id st';exact ⟨u,rfl,Qbv (s:={ s with heap:=h' }) e c d (by decide) ⟨x,H,I1,ru,⟨rfl,λys hy=>by rw [I.list_inj hy hq]; exact hx⟩,st',λb hb=>(hf b hb).1⟩⟩
 done:=by
  intro X hP hw hK hc i dz s σ H E I hf st hg;subst hP hw hK;have hg':i=n:=hg;subst hg';let ⟨f0,f1,f2,f3,f4,f5⟩:=hf it (by simp);have e1:(i:Int) - 1 - (i:Int)=-1:=by lia
  rw [e1] at st;exact wpAny_pyNext_rev_end (I.ok.hd hc) st λh' eb=>⟨rfl,I.turned (t':=s.toks) (λb o hb e=>eb b o hb e) f0 f1 f3 f4 f5⟩
 self:=λ_ _ _ _ _ st h=>wpAny_pyIter_revIter st h
def Zjz (K:M7) (tl:TE):TI:=λσ H R=>tl σ H λx H1 => ∃ a xs,x=.ref a/\SqL K H1 a xs/\R (Itv K a xs.length) H1
def Qr8 {tg:Expr} {t:TE} {p:Pos} (hK:X.K=K) (hg:Gl X "reversed") (hm:X.mg "reversed" = none) (ha:PE X e t)
  (he:starEach [e] X.env=(false,eval e X.env) :: starEach [] X.env:=by rfl):PI X tg (.Call (.Name "reversed" p) [e] [] pos) (Zjz K t):=by
 subst hK;intro dz s σ H R I h;refine V1 (Ux I hg hm (u:=.type "reversed") (by decide +kernel) ?_ (by decide) (by decide));refine W7 ?_ he rfl;rw [he];show wpAny _ _ (spliced ((false,eval e X.env) :: backTo pos (starEach [] X.env))) _ _ s;refine X7 (thn (ha dz s σ H _ I h) λu s1 ⟨x,H1,I1,r1,a,xs,e1,h1,q1⟩=>?_);subst e1;cases r1;refine X6 ?_;let ⟨its,rv,pl,hz⟩:=I1.list h1;have hl:=rv.length;refine call_reversed_list pl.isList ?_;have hit:(s1.heap.push (revObj a ((its.toArray.size:Int) - 1))).IsRevIter s1.heap.objs.size a ((xs.length:Int) - 1 - ((0:Nat):Int)):=by
  refine ⟨_,Q5 _ rfl,rfl,?_⟩;have e2:(its.toArray.size:Int) - 1=(xs.length:Int) - 1 - ((0:Nat):Int):=by rw [size_toArray,hl]; simp
  rw [e2];rfl
 refine wpAny_pyIter_revIter hit ?_;refine ⟨s1.heap.objs.size,[s1.heap.objs.size],_,_,H1,rfl,I1.kept (t':=s1.toks) λb o e=>N7 _ e,Qp3 a _ xs.length,hit,λb hb=>?_,q1⟩;have e:b=s1.heap.objs.size:=by simpa using hb
 subst e;exact I1.fpOk (O1 _) (I1.hok.fresh (O1 _))
theorem Qn4 {a:G5} {xs:List V} {g:TG} {tb:TS} {D:Qx2} {σ:St} (Pv:Nat->St->Hp->Prop) (h0:Pv 0 σ H) (hl:∀ i σ H,i<=xs.length->Pv i σ H->SqL K H a xs)
  (hs:∀ i x σ H,xs.reverse[i]? = some x->Pv i σ H->g x σ H λσ2 H2=>tb { D with nx:=Pv (i + 1),ct:=Pv (i + 1),bk:=D.nx } σ2 H2) (hd:∀ σ H,Pv xs.length σ H->D.nx σ H) :
  ∃ W:Nat->Nat->St->Hp->Prop,(∃ m,W 0 m σ H)/\∀ i m σ H,W i m σ H ->
   ((Itv K a xs.length).stop i H/\D.nx σ H)\/((Itv K a xs.length).go i H/\∃ N:St->Hp->Prop,(∀ σ' H',N σ' H'->∃ m',m' < m/\W (i + 1) m' σ' H')/\∀ x H',(Itv K a xs.length).yld i H x H'->g x σ H' λσ2 H2=>tb { D with nx:=N,ct:=N,bk:=D.nx } σ2 H2):=by
 refine ⟨λi m σ H=>m=xs.length - i/\i<=xs.length/\Pv i σ H,⟨xs.length,by simp,R7 _,h0⟩,?_⟩;rintro i m σ H ⟨rfl,hi,p⟩;have q:=hl i σ H hi p
 by_cases hlt:i < xs.length
 ·refine .inr ⟨⟨xs,xs.reverse[i]'(by simpa using hlt),q,rfl,R3 _⟩,Pv (i + 1),λσ' H' p'=>⟨xs.length - (i + 1),"o",rfl,hlt,p'⟩,λx H' y=>?_⟩;let ⟨e,y⟩:=y;subst e;exact hs i x σ _ (y xs q) p
 ·have e:i=xs.length:=by lia
  subst e;exact .inl ⟨rfl,hd σ H p⟩
section
variable {prog:G8} {w:World} {A:G7} {E:K1} {s:G4}
def Hz {src:Source} {Q:Nat->G4->Prop} (hn:n≠0) (h:∀ i,i < n->Q i { s with drawn:=s.drawn.bump src }):wpAny (model prog w) A (choose src n) Q E s:=λΓ p hΓ=>by show Sem.wp (model prog w) Γ (.choose src n .pure) _ _ p s;rw [Sem.wp_choose];exact ⟨hn,h _ (Nat.mod_lt _ (Nat.pos_of_ne_zero hn))⟩
theorem Lh {α:Type}:∀ (n:Nat) (xs:List α) (s:G4) (Q:List α->G4->Prop),xs.length<=n->(∀ ys d,ys.Perm xs->Q ys { s with drawn:=d })->wpAny (model prog w) A (drawOrder n xs) Q E s
 | 0,xs,s,Q,hl,h=>by have:xs=[]:=A0e.mp "o";subst this;exact M8 (h [] s.drawn (List.Perm.refl _))
 | n + 1,[],s,Q,hl,h=>M8 (h [] s.drawn (List.Perm.refl _))
 | n + 1,y :: ys,s,Q,hl,h=>by
  unfold drawOrder;refine M6 (Hz (by simp) λi hi=>?_);rw [getElem?_eq_getElem hi];dsimp only;refine M6 (Lh n _ _ _ ?_ λzs d hp=>?_)
  ·rw [length_eraseIdx_of_lt hi];lia
  ·exact M8 (h _ _ ((hp.cons _).trans (Pu _ _ hi)))
def Qs9 (first:G3) (S:G5) (n ep:Nat):Obj:={ cls:=.type "set_iterator",data:=.fields #[first,rawInt 0,.ref S,rawInt n,rawInt ep] }
def args_set_iter_1 (a:G3):argsOk "set.__iter__" ⟨[a],[]⟩:=by unfold argsOk; kernel_rfl
theorem Qhx {o:Obj} {Q:K1} (ho:s.heap.get? S=some o) (hc:o.cls=.type "set") (hd:o.data=.set es ep t) (hf:t.fits es.size=true)
  (h1:(!w.params.followText "set-order" && (!t.plain && decide (es.size > 1)))=false->Q (.ref s.heap.objs.size) { s with heap:=s.heap.push (Qs9 (rawInt 0) S es.size ep) })
  (h2:(!w.params.followText "set-order" && (!t.plain && decide (es.size > 1)))=true->∀ (ys:K4) d,ys.Perm (range es.size) ->
   Q (.ref (s.heap.objs.size + 1)) { s with heap:=(s.heap.push { cls:=.type "tuple",data:=.seq (ys.map λ(i:Nat)=>rawInt i).toArray }).push (Qs9 (.ref s.heap.objs.size) S es.size ep),drawn:=d }) (hz:es.size<=sizeLine) :
  wpAny (model prog w) A (pyIter (.ref S)) Q E s:=by
 have hT:s.TypeIs (.ref S) "set" := ⟨o,ho,hc⟩
 refine wpAny_pyIter_slot hT slot_set_iter (X8 slot_set_iter hT Fo ?_ (args_set_iter_1 _));unfold Builtin.«frozenset.__iter__»;unfold Builtin.Frozenset.slot0;refine M6 (M6 (W4 (a:=(Value.ref S,[])) rfl ?_));dsimp only;refine W4 (a:=S) rfl ?_;unfold Builtin.Frozenset.sizeOf setEntries;refine M6 (M6 (M6 (V9 ho hd hf (M8 (M8 ?_)))));unfold setDrawn;refine M6 (M6 (V9 ho hd hf ?_));dsimp only;unfold setsByText;refine M6 (M6 (A0d (M8 ?_)));refine M8 ?_;show wpAny (model prog w) A.in1 (if (!w.params.followText "set-order" && (!t.plain && decide (es.size > 1)))=true then _ else _) _ _ _;cases hb:(!w.params.followText "set-order" && (!t.plain && decide (es.size > 1))) with
 | false =>rw [if_neg Bool.false_ne_true];refine M6 (M8 (M6 (wpAny_setEpoch_of ho hd hf ?_)));refine M6 (U8 ?_);exact M8 ⟨_,rfl,"set_iterator",_,⟨_,Q5 _ rfl,rfl⟩,Zq.lookup,h1 hb⟩
 | true =>
  rw [if_pos rfl];refine M6 (Lh _ _ _ _ (by simp) λys d hp=>?_);have hyl:ys.length=es.size:=by rw [hp.length_eq]; simp
  refine M6 (wpAny_newTuple ?_ ?_)
  ·refine M6 (wpAny_setEpoch_of (N7 _ ho) hd hf ?_);refine M6 (U8 ?_);have hsz:(s.heap.push { cls:=.type "tuple",data:=.seq (ys.map λ(i:Nat)=>rawInt i).toArray }).objs.size=s.heap.objs.size + 1:=Heap.size_push _ _;have:=h2 hb ys d hp;refine M8 ⟨_,rfl,"set_iterator",_,⟨_,Q5 _ rfl,rfl⟩,Zq.lookup,?_⟩;show Q (.ref (s.heap.push { cls:=.type "tuple",data:=.seq (ys.map λ(i:Nat)=>rawInt i).toArray }).objs.size) _;rw [hsz];exact this
  ·rw [length_map,hyl];exact hz
def Cu (h:Heap) (it S:G5) (first:G3) (i:Int) (n ep:Nat):Prop:=∃ o,h.get? it=some o/\o.cls=.type "set_iterator"/\o.data=.fields #[first,rawInt i,.ref S,rawInt n,rawInt ep]
def Cu.typeIs {i:Int} (x:Cu s.heap it S first i n ep):s.TypeIs (.ref it) "set_iterator" := let ⟨o,ho,hc,_⟩:=x; ⟨o,ho,hc⟩
def Cu.at_ {h h':Heap} {i:Int} (x:Cu h it S first i n ep) (e:∀ o,h.get? it=some o->h'.get? it=some o):Cu h' it S first i n ep:=let ⟨o,ho,r⟩:=x; ⟨o,e _ ho,r⟩
def Bs {a:G5} {o:Obj} (hit:Cu s.heap it a (rawInt (slot:Int)) (i:Int) es.size ep) (ho:s.heap.get? a=some o) (hd:o.data=.set es ep t) (hf:t.fits es.size=true)
  {nx:Nat} (hn:∀ (A:G7) (E:K1) (Q:Option (G3 × Nat)->G4->Prop),Q (some (x,nx)) s->wpAny (model prog w) A (setNext a slot i ep) Q E s)
  (hQ:∀ h',Cu h' it a (rawInt (nx:Int)) ((i + 1:Nat):Int) es.size ep->Heap.SameBut it s.heap h'->Q (some x) { s with heap:=h' }):wpAny (model prog w) A (pyNext (.ref it)) Q E s:=by
 let ⟨u,hu,hc,hud⟩:=id hit;unfold pyNext;refine M6 (A0p (A0m (name:=Str.ofString "__next__") hit.typeIs Zq
  (X8 Zq hit.typeIs Ye ?_ (Yl _))))
 unfold Builtin.«set_iterator.__next__»;refine M6 (W4 (a:=(Value.ref it,[])) rfl ?_);dsimp only;refine M6 (wpAny_fieldsOf hu hud ?_);dsimp only [rawInt];unfold setEntries;refine M6 (M6 (V9 ho hd hf (M8 ?_)));rw [if_neg (by simp)];refine M6 (hn _ _ _ ?_);dsimp only;refine M6 (A0f hu hud (by simp) ?_);have g1:=A1e (Obj.mapFields λvs=>vs.setIfInBounds 0 (rawInt (nx:Int))) hu (A1f (Z0 hud _));have d1:=Z0 hud λvs=>vs.setIfInBounds 0 (rawInt (nx:Int));refine M6 (A0f g1 d1 (by simp) ?_);have g2:=A1e (Obj.mapFields λvs=>vs.setIfInBounds 1 (rawInt ((i:Int) + 1))) g1 (A1f (Z0 d1 _));have d2:=Z0 d1 λvs=>vs.setIfInBounds 1 (rawInt ((i:Int) + 1));refine M8 ⟨x,rfl,M8 (hQ _ ⟨_,g2,?_,?_⟩ ((T8 s.heap it _).trans (T8 _ it _)))⟩
 ·exact (Obj.cls_mapFields ..).trans ((Obj.cls_mapFields ..).trans hc)
 ·rw [d2];simp
def Ae {a:G5} {o:Obj} (hh:A.handled=none) (hit:Cu s.heap it a (rawInt (slot:Int)) (i:Int) es.size ep) (ho:s.heap.get? a=some o) (hd:o.data=.set es ep t) (hf:t.fits es.size=true)
  (hn:∀ (A:G7) (E:K1) (Q:Option (G3 × Nat)->G4->Prop),Q none s->wpAny (model prog w) A (setNext a slot i ep) Q E s)
  (hQ:∀ h',Heap.ExtBut it s.heap h'->Q none { s with heap:=h' }):wpAny (model prog w) A (pyNext (.ref it)) Q E s:=by
 let ⟨u,hu,hc,hud⟩:=id hit;unfold pyNext;refine M6 (A0p (A0m (name:=Str.ofString "__next__") hit.typeIs Zq
  (X8 Zq hit.typeIs Ye ?_ (Yl _))))
 unfold Builtin.«set_iterator.__next__»;refine M6 (W4 (a:=(Value.ref it,[])) rfl ?_);dsimp only;refine M6 (wpAny_fieldsOf hu hud ?_);dsimp only [rawInt];unfold setEntries;refine M6 (M6 (V9 ho hd hf (M8 ?_)));rw [if_neg (by simp)];refine M6 (hn _ _ _ ?_);dsimp only;refine M6 (A0f hu hud (by simp) ?_);refine M6 ?_;simp only [newExc,newTuple];refine M6 (U8 ?_ (by size_fits));refine M6 (m:=firstArgMember _ _) (W4 (a:=Value.none) (by first | rfl | (simp only [firstArgMember]; rfl)) ?_);refine U8 ?_ (by size_fits);simp only [raiseNew];refine M6 (wpAny_handled ?_)
 first | rw [show A.in1.handled=none from hh] | rw [hh]
 refine M6 (M8 (wpAny_throw ?_));refine M6 (wpAny_isInstance (T:="StopIteration") (b:=true) ⟨_,Q5 _ rfl,rfl⟩ isSubtype_stop ?_);exact M8 (hQ _ ((((T8 s.heap it _).extBut).push _).push _))
def Qkw {a tp:G5} {o:Obj} {place:Nat} {ps:Array G3} {tk:Tok} (hit:Cu s.heap it a (.ref tp) (i:Int) es.size ep) (ho:s.heap.get? a=some o) (hd:o.data=.set es ep t) (hf:t.fits es.size=true)
  (hto:s.heap.get? tp=some ot) (htd:ot.data=.seq ps c) (hp:ps[i]? = some (.int (place:Int) tk)) {hx:Int} (hxx:es[place]? = some (hx,x))
  (hQ:∀ h',Cu h' it a (.ref tp) ((i + 1:Nat):Int) es.size ep->Heap.SameBut it s.heap h'->Q (some x) { s with heap:=h' }):wpAny (model prog w) A (pyNext (.ref it)) Q E s:=by
 let ⟨u,hu,hc,hud⟩:=id hit;unfold pyNext;refine M6 (A0p (A0m (name:=Str.ofString "__next__") hit.typeIs Zq
  (X8 Zq hit.typeIs Ye ?_ (Yl _))))
 unfold Builtin.«set_iterator.__next__»;refine M6 (W4 (a:=(Value.ref it,[])) rfl ?_);dsimp only;refine M6 (wpAny_fieldsOf hu hud ?_);dsimp only [rawInt];unfold setEntries;refine M6 (M6 (V9 ho hd hf (M8 ?_)));rw [if_neg (by simp)];refine M6 (A0o hto htd ?_);dsimp only;rw [show (i:Int).toNat=i from rfl,hp];dsimp only;refine M6 (Qq9 ho hd hf (place:=(place:Int).toNat) hxx ?_);refine M6 (A0f hu hud (by simp) ?_);have g1:=A1e (Obj.mapFields λvs=>vs.setIfInBounds 1 (rawInt ((i:Int) + 1))) hu (A1f (Z0 hud _));have d1:=Z0 hud λvs=>vs.setIfInBounds 1 (rawInt ((i:Int) + 1));refine M8 ⟨x,rfl,M8 (hQ _ ⟨_,g1,?_,?_⟩ (T8 s.heap it _))⟩
 ·exact (Obj.cls_mapFields ..).trans hc
 ·rw [d1];simp
def Qf6 {a tp:G5} {o:Obj} {ps:Array G3} (hh:A.handled=none) (hit:Cu s.heap it a (.ref tp) (i:Int) es.size ep) (ho:s.heap.get? a=some o) (hd:o.data=.set es ep t) (hf:t.fits es.size=true)
  (hto:s.heap.get? tp=some ot) (htd:ot.data=.seq ps c) (hp:ps[i]? = none)
  (hQ:∀ h',Heap.ExtBut it s.heap h'->Q none { s with heap:=h' }):wpAny (model prog w) A (pyNext (.ref it)) Q E s:=by
 let ⟨u,hu,hc,hud⟩:=id hit;unfold pyNext;refine M6 (A0p (A0m (name:=Str.ofString "__next__") hit.typeIs Zq
  (X8 Zq hit.typeIs Ye ?_ (Yl _))))
 unfold Builtin.«set_iterator.__next__»;refine M6 (W4 (a:=(Value.ref it,[])) rfl ?_);dsimp only;refine M6 (wpAny_fieldsOf hu hud ?_);dsimp only [rawInt];unfold setEntries;refine M6 (M6 (V9 ho hd hf (M8 ?_)));rw [if_neg (by simp)];refine M6 (A0o hto htd ?_);dsimp only;rw [show (i:Int).toNat=i from rfl,hp];dsimp only;refine M6 (A0f hu hud (by simp) ?_);have g1:=A1e (Obj.mapFields λvs=>vs.setIfInBounds 0 (rawInt 0)) hu (A1f (Z0 hud _));have d1:=Z0 hud λvs=>vs.setIfInBounds 0 (rawInt 0);refine M6 (A0f g1 d1 (by simp) ?_);refine M6 ?_;simp only [newExc,newTuple];refine M6 (U8 ?_ (by size_fits));refine M6 (m:=firstArgMember _ _) (W4 (a:=Value.none) (by first | rfl | (simp only [firstArgMember]; rfl)) ?_);refine U8 ?_ (by size_fits);simp only [raiseNew];refine M6 (wpAny_handled ?_)
 first | rw [show A.in1.handled=none from hh] | rw [hh]
 refine M6 (M8 (wpAny_throw ?_));refine M6 (wpAny_isInstance (T:="StopIteration") (b:=true) ⟨_,Q5 _ rfl,rfl⟩ isSubtype_stop ?_);exact M8 (hQ _ (((((T8 s.heap it _).trans (T8 _ it _)).extBut).push _).push _))
end
def Ff (a:G3):argsOk "set_iterator.__iter__" ⟨[a],[]⟩:=by unfold argsOk; rw [signature?_of (id:="set_iterator.__iter__") (n:=['_','_','r','e','t','i','_','_']) (o:=['r','o','t','a','r','e','t','i','_','t','e','s']) (by kernel_rfl) Lj]; kernel_rfl
def Fe:entryFor table "set_iterator.__iter__" = some Builtin.«dict_keyiterator.__iter__» :=entryFor_alias (id':="dict_keyiterator.__iter__") (by kernel_rfl) (by first | rfl | decide +kernel | (unfold String.splitOn; simp +decide [String.splitOnAux])) (by decide +kernel) (by kernel_rfl)
section
variable {prog:G8} {w:World} {A:G7} {E:K1} {s:G4}
def Mv {i:Int} {Q:K1} (hit:Cu s.heap it S first i n ep) (h:Q (.ref it) s):wpAny (model prog w) A (pyIter (.ref it)) Q E s:=by refine wpAny_pyIter_slot hit.typeIs Td (X8 Td hit.typeIs Fe ?_ (Ff _));show wpAny _ _ (ret (.ref it)) _ _ s;exact M8 ⟨_,rfl,"set_iterator",_,hit.typeIs,Zq.lookup,h⟩
def Quv (h:t.fits n=true):t.place.size=n:=by simp only [SetTable.fits,Bool.and_eq_true,beq_iff_eq,decide_eq_true_eq] at h;exact h.1
theorem Qw9 (hh:A.handled=none) (hne:S≠it) {o:Obj} (hd:o.data=.set es ep t) (hf:t.fits es.size=true) (hl:t.led=true) (hw:w.params.followText "set-order" = false) (hp:(!t.plain && decide (es.size > 1))=false) (hr:Qbq t.place) :
  Walks prog w A it [it,S] [it] es.size (λi v=>(es.toList.map (λe=>e.2))[i]? = some v) (λi h=>(∃ slot:Nat,SetTable.below t.place slot=i/\Cu h it S (rawInt (slot:Int)) (i:Int) es.size ep)/\h.get? S=some o) where
 sub:=λb hb=>by simp at hb; simp [hb]
 frame:=λi h h' x hk=>by let ⟨⟨slot,h1,h2⟩,h3⟩:=x;exact ⟨⟨slot,h1,h2.at_ λo e=>hk it (by simp) o e⟩,hk S (by simp) o h3⟩
 item:=λi s Q E hi x hQ=>by
  let ⟨⟨slot,h1,h2⟩,h3⟩:=x;have hps:=Quv hf;have e1:es[i]? = some es[i]:=by simp [hi]
  have e2:t.place[i]? = some (t.place.getD i 0):=by simp [Array.getD,hps,hi]
  refine Bs h2 h3 hd hf (x:=es[i].2) (nx:=t.place.getD i 0 + 1) (λA E Q q=>Ec h3 hd hf hl hw hp (by rw [h1,e1,e2]; exact q)) λh' st' sb=>?_;refine hQ _ h' s.toks ?_ ⟨⟨_,Qz9 hr "o",st'⟩,(sb.2 S hne).trans h3⟩ λb o hb e=>sb.extBut b o (λh=>hb (by simp [h])) e;simp [hi]
 done:=λs Q E x hQ=>by let ⟨⟨slot,h1,h2⟩,h3⟩:=x;refine Ae hh h2 h3 hd hf (λA E Q q=>Ec h3 hd hf hl hw hp (by rw [h1]; simpa using q)) λh' eb=>?_;exact hQ h' s.toks λb o hb e=>eb b o (λh=>hb (by simp [h])) e
 self:=λi s Q E x hQ=>by let ⟨⟨slot,h1,h2⟩,h3⟩:=x;exact Mv h2 hQ
theorem Ou (hh:A.handled=none) (hne:S≠it) {o:Obj} (hd:o.data=.set es ep t) (hf:t.fits es.size=true) (hw:w.params.followText "set-order" = true) :
  Walks prog w A it [it,S] [it] es.size (λi v=>((pickOrder (w.params.setOrder S ep) es).toList.map (λe=>e.2))[i]? = some v) (λi h=>Cu h it S (rawInt ((0:Nat):Int)) (i:Int) es.size ep/\h.get? S=some o) where
 sub:=λb hb=>by simp at hb; simp [hb]
 frame:=λi h h' x hk=>⟨x.1.at_ λo e=>hk it (by simp) o e,hk S (by simp) o x.2⟩
 item:=λi s Q E hi x hQ=>by
  let ⟨h2,h3⟩:=x;have hpl:(pickOrder (w.params.setOrder S ep) es).size=es.size:=by have:=(Tf (w.params.setOrder S ep) es.size 0 es.toList #[] (by simp)).length_eq;simpa [pickOrder] using this
  have e1:(pickOrder (w.params.setOrder S ep) es)[i]? = some ((pickOrder (w.params.setOrder S ep) es)[i]'(by lia)):=by simp [hpl,hi]
  refine Bs h2 h3 hd hf (x:=((pickOrder (w.params.setOrder S ep) es)[i]'(by lia)).2) (nx:=0) (λA E Q q=>Lv h3 hd hf hw (by rw [e1]; exact q)) λh' st' sb=>?_;refine hQ _ h' s.toks ?_ ⟨st',(sb.2 S hne).trans h3⟩ λb o hb e=>sb.extBut b o (λh=>hb (by simp [h])) e;simp [hi,hpl]
 done:=λs Q E x hQ=>by
  let ⟨h2,h3⟩:=x;have hpl:(pickOrder (w.params.setOrder S ep) es).size=es.size:=by have:=(Tf (w.params.setOrder S ep) es.size 0 es.toList #[] (by simp)).length_eq;simpa [pickOrder] using this
  refine Ae hh h2 h3 hd hf (λA E Q q=>Lv h3 hd hf hw (by rw [show (pickOrder (w.params.setOrder S ep) es)[es.size]? = none by simp [hpl]]; exact q)) λh' eb=>?_;exact hQ h' s.toks λb o hb e=>eb b o (λh=>hb (by simp [h])) e
 self:=λi s Q E x hQ=>Mv x.1 hQ
theorem Sh (hh:A.handled=none) {tp:G5} (hne:S≠it) (hne2:tp≠it) {o:Obj} (hd:o.data=.set es ep t) (hf:t.fits es.size=true) {ys:K4} (hy:ys.Perm (range es.size)) (htd:ot.data=.seq (ys.map λ(i:Nat)=>rawInt i).toArray c) :
  Walks prog w A it [it,S,tp] [it] es.size (λi v=>(ys.map λj=>(es.getD j (0,.none)).2)[i]? = some v) (λi h=>Cu h it S (.ref tp) (i:Int) es.size ep/\h.get? S=some o/\h.get? tp=some ot) where
 sub:=λb hb=>by simp at hb; simp [hb]
 frame:=λi h h' x hk=>⟨x.1.at_ λo e=>hk it (by simp) o e,hk S (by simp) o x.2.1,hk tp (by simp) ot x.2.2⟩
 item:=λi s Q E hi x hQ=>by
  let ⟨h2,h3,h4⟩:=x;have hyl:ys.length=es.size:=by rw [hy.length_eq]; simp
  have hlt:ys[i]'(by lia) < es.size:=N8.mp (hy.mem_iff.mp (M9 _));have e1:(ys.map λ(i:Nat)=>rawInt i).toArray[i]? = some (.int ((ys[i]'(by lia):Nat):Int) 0):=by simp [hyl,hi,rawInt]
  refine Qkw h2 h3 hd hf h4 htd e1 (hx:=(es[ys[i]'(by lia)]'hlt).1) (x:=(es[ys[i]'(by lia)]'hlt).2) (by simp [hlt]) λh' st' sb=>?_;refine hQ _ h' s.toks ?_ ⟨st',(sb.2 S hne).trans h3,(sb.2 tp hne2).trans h4⟩ λb o hb e=>sb.extBut b o (λh=>hb (by simp [h])) e;simp [hyl,hi,Array.getD,hlt]
 done:=λs Q E x hQ=>by
  let ⟨h2,h3,h4⟩:=x;have hyl:ys.length=es.size:=by rw [hy.length_eq]; simp
  refine Qf6 hh h2 h3 hd hf h4 htd (by simp [hyl]) λh' eb=>?_;exact hQ h' s.toks λb o hb e=>eb b o (λh=>hb (by simp [h])) e
 self:=λi s Q E x hQ=>Mv x.1 hQ
end
def Qlx:typeLookup (.type "set") "__len__" = pure (some (.builtin "set.__len__")):=by rw [typeLookup_type,builtinLookup_eq_fast]; kernel_rfl
section
variable {prog:G8} {w:World} {A:G7} {E:K1} {s:G4}
def Au {Good:List G3->Prop} {Q:List G3->G4->Prop} (hT:s.TypeIs (.ref S) "set")
  (hit:∀ (s₁:G4) (K:K1) (E:K1),s₁={ s with heap:=s.heap.push { cls:=.type "list",data:=.seq ([]:K5).toArray } } ->
   (∀ (I:G5) (fp wr:K6) (n:Nat) (P:Nat->G3->Prop) (St:Nat->Heap->Prop) (s₂:G4),Walks prog w A.in1 I fp wr n P St->St 0 s₂.heap->s.heap.objs.size ∉ fp->(∀ b∈wr,s.heap.objs.size < b)->(∀ b o,s₁.heap.get? b=some o->s₂.heap.get? b=some o) ->
    s₂.gens=s₁.gens->s₂.os=s₁.os->n<=sizeLine->(∀ acc:Array G3,ItemsOf P acc n->Good acc.toList)->K (.ref I) s₂)->wpAny (model prog w) A.in1 (pyIter (.ref S)) K E s₁)
  (hQ:∀ vs s',Good vs->(∀ b o,s.heap.get? b=some o->s'.heap.get? b=some o)->s.heap.objs.size < s'.heap.objs.size->s'.gens=s.gens->s'.os=s.os->Q vs s'):wpAny (model prog w) A (collect (.ref S)) Q E s:=by
 let ⟨o,ho,hc⟩:=id hT;have hSI:s.heap.objs.size≠S:=(O7 (N6 ho)).symm;unfold collect;refine M6 (wpAny_runValue (V7 F.entry_proto_collect ?_));rw [Around.under_plainId F.plain_proto_collect _];show wpAny _ A.in1 (newList [] >>= λl=>again (.builtin "list.__iadd__" ⟨[l,.ref S],[]⟩)) _ _ s;refine M6 (U8 ?_);refine M8 ⟨X4 F.plain_list_iadd _,V7 F.entry_list_iadd ?_⟩;rw [Around.under_plainId F.plain_list_iadd _];have hS₁:(s.heap.push { cls:=.type "list",data:=.seq ([]:K5).toArray }).get? s.heap.objs.size=some { cls:=.type "list",data:=.seq ([]:K5).toArray }:=Q5 _ rfl;have h1:Builtin.List.listSameRef (.ref s.heap.objs.size) (.ref S)=false:=by simp [Builtin.List.listSameRef,hSI]
 show wpAny _ A.in1 (Builtin.List.listExtendWith (.ref s.heap.objs.size) (.ref S) (.ref s.heap.objs.size)) _ _ _;unfold Builtin.List.listExtendWith;refine M6 (wpAny_typeOf (T:="set") ⟨o,N7 _ ho,hc⟩ ?_);rw [if_neg (by rw [h1]; decide)];refine M6 (hit _ _ _ rfl λI fp wr n P St s₂ W hst hSf hwr hk hg hos hn hgood=>?_);have ho₂:s₂.heap.get? S=some o:=hk _ _ (N7 _ ho);have hS₂:=hk _ _ hS₁;have hT₂:s₂.TypeIs (.ref S) "set" := ⟨o,ho₂,hc⟩
 refine M6 (U3 ?_);unfold Builtin.List.listLengthHint;refine M6 (wpAny_specialOf hT₂ Qlx ?_);generalize hid:("set.__len__" : String)=id0
 wp_delta
 rw [show splitId id0=some ("set","__len__") from by subst hid; decide +kernel];subst hid;refine M6 (wpAny_isInstance (b:=true) hT₂ (by rw [isSubtype_type]; kernel_rfl) ?_);rw [if_neg (by decide)];rw [if_pos (by decide +kernel)];refine M6 (wpAny_typeOf (T:="set") hT₂ ?_);refine M8 ?_;dsimp only;rw [if_pos (by decide +kernel)];refine M6 (wpAny_rule ?_);unfold Builtin.List.listTouch;refine M6 (M6 (A0g (xs:=#[]) (n:=0) hS₂ rfl ?_ (by simp) (by simp)));have hS₃:=Z7 (c:="list") (xs:=#[]) (n:=0) hS₂ (·.push .none);refine A0g hS₃ rfl ?_ (by simp [sizeLine_eq]) (by simp);have hS₄:=Z7 (c:="list") hS₃ (·.pop);refine M8 ⟨X4 F.plain_extend_loop _,?_⟩;have oth:∀ b o,b≠s.heap.objs.size->s₂.heap.get? b=some o->((s₂.heap.update s.heap.objs.size (Obj.mapSeq (·.push .none))).update s.heap.objs.size (Obj.mapSeq (·.pop))).get? b=some o:=λb o hb e=>by rw [Heap.get?_update_other _ _ (Ne.symm hb),Heap.get?_update_other _ _ (Ne.symm hb)];exact e
 refine codeAny_extend_loopS W.toS hn _ hSf _ n 0 _ _ _ rfl (R7 _) (W.frame 0 _ _ hst λb hb o e=>oth b o (λz=>hSf (z ▸ hb)) e) hS₄ (ItemsOf.nil P) λs' acc' c' hm hS' hacc=>?_;show wpAny _ A (load s.heap.objs.size >>= _) _ _ s';refine M6 (wpAny_load hS' ?_);refine M8 (hQ _ s' (hgood acc' hacc) (λb o e=>?_) (N6 hS') ?_ ?_)
 ·have hlt:=N6 e;refine hm.heap b o (λz=>?_) (oth b o (O7 hlt) (hk _ _ (N7 _ e)));rcases Q8.mp z with z | z
  ·exact absurd z (O7 hlt)
  ·exact absurd (hwr b z) (W8.mpr (V3 hlt))
 ·exact hm.gens.trans hg
 ·exact hm.os.trans hos
def Mf {L:K5} (hl:L.length=n) {acc:Array G3} (h:ItemsOf (λi v=>L[i]? = some v) acc n):acc.toList=L:=by
 refine U7 (by rw [Array.length_toList,h.1,hl]) λi h1 h2=>?_;have h1':i < acc.size:=by simpa using h1
 have h3:L[i]? = some acc[i]:=h.2 i _ (Array.getElem?_eq_getElem h1');rw [Array.getElem_toList];exact (N5.mp h3).2.symm
theorem Et:∀ {vs:K5},(∀ v∈vs,∃ n t,v=Value.int n t)->∃ ns,IntsAre vs ns
 | [],_=>⟨[],.nil⟩
 | v :: r,h=>by let ⟨n,t,rfl⟩:=h v O9;let ⟨ns,hn⟩:=Et λv hv=>h v (Q0 _ hv);exact ⟨n :: ns,.cons n t hn⟩
def Qhj {vs:K5} {ns:K3} (h:IntsAre vs ns) {k:Int} {t:Tok} (hm:Value.int k t∈vs):k∈ns:=by let ⟨i,hi⟩:=getElem?_of_mem hm;let ⟨n,t',e,hn⟩:=h.at i _ hi;cases e;exact R9 hn
theorem Fw:∀ {ks ns:K3},ks.Nodup->(∀ k∈ks,k∈ns)->ns.length=ks.length->ns.Perm ks
 | [],ns,_,_,hl=>by have:ns=[]:=A0e.mp hl;subst this;exact List.Perm.refl _
 | k :: ks,ns,hn,hs,hl=>by
  have hk:=hs k O9;have hp:=perm_cons_erase hk;let ⟨hn1,hn2⟩:=nodup_cons.mp hn;refine hp.trans ((Fw hn2 (λz hz=>?_) ?_).cons k)
  ·exact (mem_erase_of_ne (λ(e:z=k)=>hn1 (by rw [<- e]; exact hz))).mpr (hs z (Q0 _ hz))
  ·rw [length_erase_of_mem hk,hl];simp
def Quz {ks:K3} (hel:ElemsOf (intKind prog w) es.toList) (g8:∀ k:Int,(ks.any (· == k))=true ↔ ∃ e∈es.toList,(intKind prog w).is k e.2=true) (hn:es.size=ks.length) (hnd:ks.Nodup) {vs:K5} (hp:vs.Perm (es.toList.map λe=>e.2)) :
  ∃ ns,IntsAre vs ns/\ns.Perm ks:=by
 let ⟨ns,h1⟩:=Et (vs:=vs) λv hv=>by let ⟨e,he,rfl⟩:=O3.mp (hp.mem_iff.mp hv);let ⟨⟨k,hk,_⟩,_⟩:=hel e he;let ⟨t,e2⟩:=Value.isInt_shape (k:=k) (v:=e.2) hk;exact ⟨k,t,e2⟩
 refine ⟨ns,h1,Fw hnd (λk hk=>?_) ?_⟩
 ·let ⟨e,he,hi⟩:=(g8 k).mp (any_eq_true.mpr ⟨k,hk,by simp⟩);let ⟨t,e2⟩:=Value.isInt_shape (k:=k) (v:=e.2) hi;refine Qhj h1 (k:=k) (t:=t) (hp.mem_iff.mpr ?_);rw [<- e2];exact O3.mpr ⟨e,he,rfl⟩
 ·rw [<- h1.length,hp.length_eq,length_map,Array.length_toList,hn]
theorem Qq1 {ks:K3} {Q:K1} (hh:A.handled=none) (hI:Tq prog w (!w.params.followText "set-order") s.heap S ks) (hnd:ks.Nodup) (h64:ks.length < 64)
  (h:∀ (s':G4) (L:G5) (out:K5) (ms:K3) (e:Nat),IntsAre out ms->ms.Perm ks->ms.Pairwise (·<=·)->(∀ b o,s.heap.get? b=some o->s'.heap.get? b=some o)->s.heap.objs.size<=L->s'.heap.get? L=some (seqObj "list" out.toArray e)->s'.gens=s.gens->s'.os=s.os->Q (.ref L) s') :
  wpAny (model prog w) A (call (.builtin "sorted") [.ref S]) Q E s:=by
 let ⟨⟨o,es,ep,t,ho,hex,hd,hel,g8,hb,hf,hn⟩,o',es',ep',t',ho',hd',hi⟩:=hI;rw [ho] at ho';cases ho';rw [hd] at hd';cases hd';have hSlt:=N6 ho;have hz:es.size<=sizeLine:=by rw [hn,sizeLine_eq]; lia
 have hps:∀ {vs:K5},vs.Perm (es.toList.map λe=>e.2)->∃ ns,IntsAre vs ns/\ns.Perm ks:=λhp=>Quz hel g8 hn hnd hp;refine Calls.call_function_entry kind_sorted plain_sorted entry_sorted (args_sorted1 _) ?_;unfold Builtin.«sorted»;refine M6 (m:=checkCount "sorted" 1 1 _) (M8 ?_);refine M6 (Au (Good:=λvs => ∃ ns,IntsAre vs ns/\ns.Perm ks) ⟨o,ho,hex.1⟩ (λs₁ K E e₁ hK=>?_) λvs s' hg hk hsz hgens hos=>?_)
 ·subst e₁;have ho1:(s.heap.push { cls:=.type "list",data:=.seq ([]:K5).toArray }).get? S=some o:=N7 _ ho;have m6:(s.heap.push { cls:=.type "list",data:=.seq ([]:K5).toArray }).objs.size=s.heap.objs.size + 1:=Heap.size_push _ _;refine Qhx ho1 hex.1 hd hf (λhdr=>?_) (λhdr ys d hy=>?_) hz
  ·have hit:Cu ((s.heap.push { cls:=.type "list",data:=.seq ([]:K5).toArray }).push (Qs9 (rawInt 0) S es.size ep)) (s.heap.push { cls:=.type "list",data:=.seq ([]:K5).toArray }).objs.size S (rawInt ((0:Nat):Int)) ((0:Nat):Int) es.size ep:=⟨_,Q5 _ rfl,rfl,rfl⟩
   have hne:S≠(s.heap.push { cls:=.type "list",data:=.seq ([]:K5).toArray }).objs.size:=by rw [m6]; exact O7 (V6 hSlt)
   have c1:s.heap.objs.size ∉ [(s.heap.push { cls:=.type "list",data:=.seq ([]:K5).toArray }).objs.size,S]:=by
    rw [m6];intro z;rcases Q8.mp z with z | z
    ·exact absurd z (O7 (V0 _))
    ·exact absurd (mem_singleton.mp z) (Z4 hSlt)
   have c2:∀ b∈[(s.heap.push { cls:=.type "list",data:=.seq ([]:K5).toArray }).objs.size],s.heap.objs.size < b:=λb hb=>by rw [mem_singleton.mp hb,m6];exact V0 _
   cases hw:w.params.followText "set-order" with
   | true =>
    refine hK _ _ _ _ _ _ _ (Ou (A:=A.in1.in1) hh hne hd hf hw) ⟨hit,N7 _ ho1⟩ c1 c2 (λb o e=>N7 _ e) rfl rfl hz λacc hacc=>?_;have hpp:=Tf (w.params.setOrder S ep) es.size 0 es.toList #[] (by simp);have hpl:(pickOrder (w.params.setOrder S ep) es).toList.Perm es.toList:=by simpa [pickOrder] using hpp
    rw [Mf (by rw [length_map,hpl.length_eq,Array.length_toList]) hacc];exact hps (hpl.map _)
   | false =>
    have hl:t.led=true:=by rw [hi.led_,hw]; rfl
    rw [hw] at hdr;refine hK _ _ _ _ _ _ _ (Qw9 (A:=A.in1.in1) hh hne hd hf hl hw (by simpa using hdr) hi.rise) ⟨⟨0,Qz8 hi.rise,hit⟩,N7 _ ho1⟩ c1 c2 (λb o e=>N7 _ e) rfl rfl hz λacc hacc=>?_;rw [Mf (by simp) hacc];exact hps (List.Perm.refl _)
  ·rw [m6];generalize hh1:s.heap.push { cls:=.type "list",data:=.seq ([]:K5).toArray }=h1 at *;have hsz2:(h1.push { cls:=.type "tuple",data:=.seq (ys.map λ(i:Nat)=>rawInt i).toArray }).objs.size=s.heap.objs.size + 1 + 1:=by rw [Heap.size_push,m6]
   have g1:((h1.push { cls:=.type "tuple",data:=.seq (ys.map λ(i:Nat)=>rawInt i).toArray }).push (Qs9 (.ref (s.heap.objs.size + 1)) S es.size ep)).get? (s.heap.objs.size + 1 + 1)=some (Qs9 (.ref (s.heap.objs.size + 1)) S es.size ep):=by rw [<- hsz2];exact Q5 _ rfl
   have g2:((h1.push { cls:=.type "tuple",data:=.seq (ys.map λ(i:Nat)=>rawInt i).toArray }).push (Qs9 (.ref (s.heap.objs.size + 1)) S es.size ep)).get? (s.heap.objs.size + 1)=some { cls:=.type "tuple",data:=.seq (ys.map λ(i:Nat)=>rawInt i).toArray }:=by refine N7 _ ?_;rw [<- m6];exact Q5 _ rfl
   refine hK (s.heap.objs.size + 1 + 1) _ _ _ _ _ _ (Sh (A:=A.in1.in1) (it:=s.heap.objs.size + 1 + 1) (tp:=s.heap.objs.size + 1) hh (O7 (V6 (V6 hSlt))) (O7 (V0 _)) hd hf hy rfl) ⟨⟨_,g1,rfl,rfl⟩,N7 _ (N7 _ ho1),g2⟩ (λz=>by
    rcases Q8.mp z with z | z
    ·exact absurd z (O7 (V6 (V0 _)))
    rcases Q8.mp z with z | z
    ·exact absurd z (Z4 hSlt)
    ·exact absurd (mem_singleton.mp z) (O7 (V0 _))) (λb hb=>by rw [mem_singleton.mp hb]; exact V6 (V0 _)) (λb o e=>N7 _ (N7 _ e)) rfl rfl hz λacc hacc=>?_
   have hyl:ys.length=es.size:=by rw [hy.length_eq]; simp
   rw [Mf (by simp [hyl]) hacc];refine hps ((hy.map _).trans ?_);have:(range es.size).map (λj=>(es.getD j (0,.none)).2)=es.toList.map λe=>e.2:=by
    refine U7 (by simp) λi z1 z2=>?_;have hi:i < es.size:=by simpa using z1
    simp [Array.getD,hi]
   rw [this]
 ·let ⟨ns,hns,hpm⟩:=hg;have hvl:vs.length < 64:=by rw [hns.length,hpm.length_eq]; exact h64
  refine M6 (A0a ?_);have hoL:(s'.heap.push (seqObj "list" vs.toArray 0)).get? s'.heap.objs.size=some (seqObj "list" vs.toArray 0):=Q5 _ rfl;refine M6 (U3 (X8 slot_list_sort ⟨_,hoL,rfl⟩ entry_list_sort (list_sort_tree hoL hns hvl λout ms a1 a2 a3=>⟨_,rfl,?_⟩) (args_list_sort _)));let ⟨e,he⟩:=sortedHeap_at (out:=out) (vs:=vs) hoL;refine M8 ⟨_,rfl,h _ s'.heap.objs.size out.toList ms e a1 (a2.trans hpm) a3 (λb o eb=>?_) (V3 hsz) (by rw [Array.toArray_toList]; exact he) hgens hos⟩;have eb':=hk b o eb;have hlt:=N6 eb';rw [sortedHeap_old (Nat.ne_of_lt hlt) (by rw [size_push']; exact Nat.lt_succ_of_lt hlt)];exact N7 _ eb'
end
def Inv.like {dz:G9} {σ:St} {s s':G4} (I:Inv X dz σ H s) (h1:s'.heap=s.heap) (h2:s'.gens=s.gens) (h3:s'.os=s.os):Inv X dz σ H s':=by let ⟨hp,gs,dr,tk,os⟩:=s';have e1:hp=s.heap:=h1;have e2:gs=s.gens:=h2;have e3:os=s.os:=h3;subst e1 e2 e3;exact ⟨I.ok,I.os,I.bare,I.base,I.loc,I.cell,I.free,I.c7,I.pin,I.hok,I.len⟩
theorem Lf:∀ {ns:K3} {its:K5},Xq (ns.map V.int) its->IntsAre its ns
 | [],_,.nil=>.nil
 | n :: r,_,.cons h t=>by let ⟨tk,rfl⟩:=h;exact .cons n tk (Lf t)
theorem Lp:∀ {ns:K3} {its:K5},IntsAre its ns->Xq (ns.map V.int) its
 | _,_,.nil=>.nil
 | _,_,.cons n tk t=>.cons ⟨tk,rfl⟩ (Lp t)
theorem Us (val:Nat->Int):∀ i,(firstMet val i).Nodup
 | 0=>by rw [firstMet_zero]; exact nodup_nil
 | i + 1=>by
  rw [firstMet_succ];unfold step_dedup;have ih:=Us val i
  split
  ·exact ih
  ·rename_i hn
   rw [nodup_append];refine ⟨ih,by simp,λa ha b hb=>?_⟩;have hb':b=val i:=by simpa using hb
   subst hb';intro e;subst e;exact hn (any_eq_true.mpr ⟨_,ha,by simp⟩)
def Hi {ns:K3} {k:Int}:k∈firstMet (λi=>ns.getD i 0) ns.length ↔ k∈ns:=by
 have h:=firstMet_any (λi=>ns.getD i 0) ns.length k;have e:(range ns.length).map (λi=>ns.getD i 0)=ns:=by refine U7 (by simp) λi h1 h2=>?_;simp [getD,h2]
 rw [e] at h;have h1:∀ l:K3,(l.any (· == k))=true ↔ k∈l:=λl=>by simp [any_eq_true]
 rw [<- h1,<- h1,h]
theorem Fx:∀ {ms:K3},ms.Pairwise (·<=·)->ms.Nodup->ms.Pairwise (· < ·)
 | [],_,_=>.nil
 | m :: r,h1,h2=>by let ⟨a1,a2⟩:=pairwise_cons.mp h1;let ⟨b1,b2⟩:=nodup_cons.mp h2;refine pairwise_cons.mpr ⟨λz hz=>?_,Fx a2 b2⟩;have h3:=a1 z hz;have h4:m≠z:=λe=>b1 (e ▸ hz);lia
def Qp5 (K:M7) (t:TE):TE:=λσ H Q=>t σ H λx H1 => ∃ (a:G5) (ns:K3),x=.ref a/\SqL K H1 a (ns.map V.int)/\ns.length < 64/\∀ (l:G5) (ms:K3) (H':Hp),New H1 l (.lst (ms.map V.int)) H'->ms.Pairwise (· < ·)->(∀ z,z∈ms ↔ z∈ns)->Q (.ref l) H'
theorem Hd {t:TE} {p p' j5:Pos} (hK:X.K=K) (hc:X.calm=true) (hgl:Gl X "sorted") (hml:X.mg "sorted" = none) (hgr:Gl X "set") (hmr:X.mg "set" = none) (ha:PE X e t)
  (he:starEach [e] X.env=(false,eval e X.env) :: starEach [] X.env:=by rfl):PE X (.Call (.Name "sorted" p) [.Call (.Name "set" p') [e] [] j5] [] pos) (Qp5 K t):=by
 subst hK;intro dz s σ H Q I h;refine V1 (Ux I hgl hml (u:=.builtin "sorted") (by decide +kernel) ?_ (by decide) (by decide));refine PyProof.Rows.callWith_builtin1 ?_ rfl rfl;show wpAny _ _ (spliced ((false,eval _ X.env) :: backTo pos (starEach [] X.env))) _ _ s;refine X7 ?_;refine V1 (Ux I hgr hmr (u:=.type "set") (by decide +kernel) ?_ (by decide) (by decide));refine W7 ?_ he rfl;rw [he];show wpAny _ _ (spliced ((false,eval e X.env) :: backTo j5 (starEach [] X.env))) _ _ s;refine X7 (thn (ha dz s σ H _ I h) λu s1 ⟨x,H1,I1,r1,a,ns,e1,h1,h64,q1⟩=>?_);subst e1;cases r1;refine X6 ?_;let ⟨its,rv,pl,hz⟩:=I1.list h1;have hl:its.length=ns.length:=by rw [<- rv.length,length_map]
 have hsz:its.toArray.size=ns.length:=by rw [size_toArray,hl]
 have hhd:X.A.handled=none:=I1.ok.hd hc;refine Ho (ns:=ns) hhd pl.isList (by simpa using Lf rv) (by rw [hsz]; show _ < 4096; lia) λh' tk hS hk=>?_;rw [hsz] at hS;have hk':∀ b o,s1.heap.get? b=some o->h'.get? b=some o:=λb o e=>hk b o (N6 e) e;have hlt:s1.heap.objs.size < h'.objs.size:=by let ⟨⟨o,es,ep,t,ho,_⟩,_⟩:=hS;exact N6 ho
 refine X6 ?_;refine Qq1 (s:={ s1 with heap:=h',toks:=tk }) hhd hS (Us _ _) (A0x (firstMet_length_le _ _) h64) λs' L out ms ee hi hp hr hk2 hL hgL hg hos=>?_;have hk3:∀ b o,s1.heap.get? b=some o->s'.heap.get? b=some o:=λb o e=>hk2 b o (hk' b o e);have hml:ms.length<=sizeLine:=by rw [hp.length_eq,sizeLine_eq];have:=firstMet_length_le (λi=>ns.getD i 0) ns.length;lia
 have I2:Inv X dz σ (upd H1 L (.lst (ms.map V.int))) { s1 with heap:=s'.heap,toks:=s'.toks }:=I1.laid (t':=s'.toks) (o:=.lst (ms.map V.int)) hk3 (O6 (V3 hlt) hL) ⟨by rw [length_map]; exact hml,out,ee,Lp hi,hgL⟩;refine ⟨.ref L,_,I2.like rfl hg hos,rfl,q1 L ms _ (Jn (I1.hok.fresh (O6 (V3 hlt) hL))) (Fx hr (hp.nodup_iff.mpr (Us _ _))) λz=>?_⟩;rw [hp.mem_iff,Hi]
def Du (ms ns:K3):Prop:=ms.Pairwise (· < ·)/\∀ z,z∈ms ↔ z∈ns
structure Dh (K:M7) (mg:J9) (C:G5) (x:Str):Prop where
 mgC:mg x=some (.ref C)
 cl:Cls K C
 mks:PySem.W.makesIn K C=true
 kp:PySem.W.keepIn K (.ref C)=true
 nH:Jr K C "house"
 nW:Jr K C "way"
structure Qx6 (K:M7) (C:G5):Prop where
 cl:Cls K C
 nH:Jr K C "house"
 nW:Jr K C "way"
def Dh.a {mg:J9} {C:G5} {x:Str} (h:Dh K mg C x):Qx6 K C:=⟨h.cl,h.nH,h.nW⟩
def Ny (h w:G5):List (Str × V):=Wq "way" (.ref w) (Wq "house" (.ref h) [])
def as1:¬ (("house" : Str)="way"):=by decide +kernel
def Yf (h w:G5):(Ny h w).lookup ("house" : Str)=some (.ref h):=by unfold Ny;rw [Qs,if_neg as1,Qs,if_pos rfl]
def Dy (h w:G5):(Ny h w).lookup ("way" : Str)=some (.ref w):=by unfold Ny;rw [Qs,if_pos rfl]
def Qbw (h w:G5) {m:Str} (h1:¬ m="way") (h2:¬ m="house"):(Ny h w).lookup m=none:=by unfold Ny;rw [Qs,if_neg h1,Qs,if_neg h2];rfl
structure Xn (CH C:G5) (H:Hp) (p:G5) (ak:K3) (aj:J5) (ao:Int) (way:K4):Prop where
 ex:∃ dx hp wa,H p=some (.ins C dx (Ny hp wa))/\Zj CH H hp ak aj ao/\H wa=some (.lst ((wI way).map V.int))
def Xn.same {CH C:G5} {H H':Hp} {p:G5} {ak:K3} {aj:J5} {ao:Int} {way:K4} (h:Xn CH C H p ak aj ao way) (s:Qu H H'):Xn CH C H' p ak aj ao way:=by let ⟨dx,hp,wa,h1,h2,h3⟩:=h.ex;exact ⟨dx,hp,wa,s _ _ h1,h2.same s,s _ _ h3⟩
def Xn.bf {CH C:G5} {H H':Hp} {p:G5} {ak:K3} {aj:J5} {ao:Int} {way:K4} (h:Xn CH C H p ak aj ao way) (s:Qt H H'):Xn CH C H' p ak aj ao way:=by let ⟨dx,hp,wa,h1,h2,h3⟩:=h.ex;exact ⟨dx,hp,wa,s.to _ _ h1 rfl,h2.bf s,s.to _ _ h3 rfl⟩
structure Qn (ak:K3) (aj:J5) (way:K4):Prop where
 bok:Df ak aj
 len:way.length=aj.length
 lt:∀ r∈way,r < ak.length
def Qn.at_ (h:Qn ak aj way) (hi:i < aj.length):way[i]? = some (way.getD i 0)/\way.getD i 0 < ak.length:=by
 have hi':i < way.length:=by rw [h.len]; exact hi
 have e:way.getD i 0=way[i]:=by simp [getD,hi']
 rw [e];exact ⟨by simp [hi'],h.lt _ (M9 hi')⟩
def Zh (aj:J5) (way:K4) (i:Nat):Int:=wF aj i (way.getD i 0)
def Zn (wo:Bool) (aj:J5) (way:K4) (a r b:Nat):Int:=wF aj (if wo then b else a) r - Zh aj way a
def Zm (wo:Bool) (ak:K3) (way:K4) (a b:Nat):K3:=Yu ak (wI way) ++ [((way.getD (if wo then a else b) 0:Nat):Int)]
def Qf3 (CH C:G5):Sp:=λvs H Q _ => ∃ (p dx hp wa:G5) (ak:K3) (aj:J5) (ao:Int) (way:K4),vs=[.ref p,.ref hp,.ref wa]/\H p=some (.ins C dx [])/\Zj CH H hp ak aj ao/\H wa=some (.lst ((wI way).map V.int)) /\
 ∀ (l:G5) (H':Hp),H l=none->H' p=some (.ins C dx (Ny hp l))->H' l=some (.lst ((wI way).map V.int))->(∀ c o,H c=some o->c≠p->H' c=some o)->Q .non H'
def Sd (K:M7) (CH:G5):Sp:=λvs H Q _ => ∃ (C p:G5) (ak:K3) (aj:J5) (ao:Int) (way:K4) (r:Nat),vs=[.ref p,.int (r:Int)]/\Qx6 K C/\Xn CH C H p ak aj ao way/\Qn ak aj way /\
 ∀ (l:G5) (ms:K3) (H':Hp),Qu H H'->H l=none->H' l=some (.lst (ms.map V.int))->Du ms (Yu ak (wI way) ++ [(r:Int)])->Q (.ref l) H'
def Sr (K:M7) (CH:G5):Sp:=λvs H Q _ => ∃ (C p:G5) (ak:K3) (aj:J5) (ao:Int) (way:K4) (i:Nat),vs=[.ref p,.int (i:Int)]/\Qx6 K C/\Xn CH C H p ak aj ao way/\Qn ak aj way/\i < aj.length/\Q (.int (Zh aj way i)) H
def Dm (wo:Bool) (CH C:G5):Sp:=λvs H Q _ => ∃ (p:G5) (ak:K3) (aj:J5) (ao:Int) (way:K4) (a b:Nat),vs=[.ref p,.int (a:Int),.int (b:Int)]/\Xn CH C H p ak aj ao way/\Qn ak aj way/\a < aj.length/\b < aj.length /\
 ∀ (l:G5) (ms:K3) (H':Hp),Qu H H'->H l=none->H' l=some (.lst (ms.map V.int))->Du ms (Zm wo ak way a b)->Q (.ref l) H'
def Qj7 (wo:Bool) (CH C:G5):Sp:=λvs H Q _ => ∃ (p:G5) (ak:K3) (aj:J5) (ao:Int) (way:K4) (a r b:Nat),vs=[.ref p,.int (a:Int),.int (r:Int),.int (b:Int)]/\Xn CH C H p ak aj ao way/\Qn ak aj way/\a < aj.length/\r < ak.length/\b < aj.length/\Q (.int (Zn wo aj way a r b)) H
def Bt (wo:Bool) (CH C:G5):Sp:=λvs H Q _ => ∃ (p:G5) (ak:K3) (aj:J5) (ao:Int) (way:K4),vs=[.ref p]/\Xn CH C H p ak aj ao way/\Qn ak aj way/\∀ H',Qu H H'->Q (.int (if wo then wsum (wF aj) way - ao else ao)) H'
def Aa (wo:Bool) (CH C:G5):Sp:=λvs H Q _ => ∃ (p:G5) (ak:K3) (aj:J5) (ao:Int) (way:K4) (i:Nat) (level parts:Int),vs=[.ref p,.int (i:Int),.int level,.int parts]/\Xn CH C H p ak aj ao way/\Qn ak aj way/\i < aj.length/\(∀ row∈aj,∀ x∈row,-(10 ^ 42) < x/\x < 10 ^ 42)/\(-(10 ^ 200) < parts/\parts < 10 ^ 200) /\
 Q (.int (if wo then parts * Zh aj way i - level else level)) H
def Rb (h:way.length=aj.length):Qxj aj (wI way)=wsum (wF aj) way:=by
 unfold Qxj wsum;rw [h]
 congr 1
 refine R6 λi hi=>?_;have hi:=N8.mp hi;simp [wI,wF,getD,h,hi]
def Zq4 (wo:Bool):Str:=if wo then "worst" else "even"
def Qp9 (K:M7):Sp:=λvs H Q _ => ∃ (b a:G5) (ak:K3) (way:K4),vs=[.ref b,.ref a]/\H b=some (.lst (ak.map V.int))/\ak.length<=1000/\H a=some (.lst ((wI way).map V.int))/\∀ l H',New H l (.lst ((Yu ak (wI way)).map V.int)) H'->Q (.ref l) H'
def Qj5 {wo:Bool} {a b:Nat} (ok:Qn ak aj way) (ha:a < aj.length) (hb:b < aj.length) {ms:K3} (h:Du ms (Zm wo ak way a b)):∀ z∈ms,∃ r:Nat,z=(r:Int)/\r < ak.length:=λz hz=>by
 rcases O5.mp ((h.2 z).mp hz) with e | e
 ·let ⟨r,hr,hlt,_⟩:=Jp.mp e;exact ⟨r,hr,hlt⟩
 ·have e':z=((way.getD (if wo then a else b) 0:Nat):Int):=by simpa using e
  refine ⟨_,e',?_⟩;cases wo
  ·exact (ok.at_ hb).2
  ·exact (ok.at_ ha).2
section
variable {dz:G9} {σ:St} {s:G4} {c P:G5} {scope:Scope} {params:Arguments} {body:Expr} {bh:Pos}
def Lg {Q:K1} {E:K1} (J:Inv X dz σ H s) (ok:Yp scope X.env.scope=true) (jm:X.env.code=.ref c) (C:PySem.W.codeHdIn X.K c P=true) (BA:X.base.BuiltinsAt X.mg P) (nj:defaultsOf params X.env=([],[]))
  (hT:Qa H P bh (X.env.qual ++ "<lambda>"))
  (hQ:∀ f c' pm ctv H' s',Inv X (dz ++ [(f,PySem.W.kla_obj "<lambda>" (X.env.qual ++ "<lambda>") params body scope (Ri X.env.cells scope.names []) pm c' ctv)]) σ H' s'->(∃ oc vs t,H' c'=some (.frz oc (.own 0))/\oc.data=.fields vs/\vs[1]? = some (.str (X.env.qual ++ "<lambda>") t)) ->
   Qt H H'->(∀ b o,H b=some o->b≠P->H' b=some o)->Qa H' P bh (X.env.qual ++ "<lambda>")->Q (.ref f) s') :
  wpAny (model X.prog X.w) X.A (eval (.Lambda params body scope bh) X.env) Q E s:=by
 refine PySem.W.kla_eval nj ?_;have CH:PySem.W.CodeHd s.heap c P:=PySem.W.codeHd_of_K J.kIn C;have hcl:closureFor scope X.env=pure (Ri X.env.cells scope.names []):=Yc (Wa J ok);have hgs:s.heap.Ns mainGlobals X.mg:=J.mod.glob.keeps J.bk;have hgP:mainGlobals≠P:=λz=>by let ⟨o,es,ep,e,_⟩:=J.mod.glob;have:=(J.bs _ _ e).2;rw [z] at this;rcases hT with h | ⟨_,_,_,_,h,_⟩ <;> rw [this] at h <;> cases h
 have BS:s.heap.BuiltinsAt X.mg P:=by let ⟨bm,o,b1,b2,b3,b4,b5,b6⟩:=BA;exact ⟨bm,o,b1,b2,b3,b4,J.bk _ _ b5,b6⟩
 rcases hT with hT | ⟨c',oc,vs,t,hT,hc',hd,hv⟩
 ·have hP:s.heap.get? P=some (PySem.W.tabObj #[]):=J.hok P _ hT;refine PySem.W.kla_makeFunction (mg:=X.mg) hcl J.ok.glob hgs jm CH hP trivial rfl hgP BS λc' ctv h' tk hx hge hlt hrec htb=>?_;let ⟨c2,oc,vs,t,e2,hoc,hd,hv⟩:=hrec;cases e2;have hPlt:P < s.heap.objs.size:=N6 hP;have nPc:P≠c':=O7 (S9 hPlt hge);have lt':∀ b o,s.heap.get? b=some o->b≠c':=λb o e=>O7 (S9 (N6 e) hge);have hfc:H c'=none:=J.hok.fresh hge;have eP:upd (upd H P (.tbl (#[] ++ #[rawInt bh.line,rawInt bh.col,.ref c']))) c' (.frz oc (.own 0)) P=some (.tbl #[rawInt bh.line,rawInt bh.col,.ref c']):=by rw [Qv nPc,Qk]; rfl
  have eo:∀ b,b≠P->b≠c'->upd (upd H P (.tbl (#[] ++ #[rawInt bh.line,rawInt bh.col,.ref c']))) c' (.frz oc (.own 0)) b=H b:=λb h1 h2=>by rw [Qv h2,Qv h1]
  have hk:∀ b o,b≠P->s.heap.get? b=some o->(h'.push (PySem.W.kla_obj "<lambda>" (X.env.qual ++ "<lambda>") params body scope (Ri X.env.cells scope.names []) ((X.mg "__name__").getD .none) c' ctv)).get? b=some o:=λb o hb e=>N7 _ (hx b o hb e);have ji:∀ b u,H b=some u->b≠P->upd (upd H P (.tbl (#[] ++ #[rawInt bh.line,rawInt bh.col,.ref c']))) c' (.frz oc (.own 0)) b=some u:=λb u e h1=>by rw [eo b h1 (Qj e hfc)]; exact e
  have J1:Inv X dz σ (upd (upd H P (.tbl (#[] ++ #[rawInt bh.line,rawInt bh.col,.ref c']))) c' (.frz oc (.own 0))) { s with heap:=h'.push (PySem.W.kla_obj "<lambda>" (X.env.qual ++ "<lambda>") params body scope (Ri X.env.cells scope.names []) ((X.mg "__name__").getD .none) c' ctv),toks:=tk }:=by
   refine J.un ⟨λb o e n _ _=>hk b o (λz=>by rw [z,hT] at n; cases n) e,λb o e n _ _=>⟨o.slots,hk b o (λz=>by rw [z,hT] at n; cases n) e⟩,λb o e n _=>?_,λb o e _=>?_,λb xs e=>?_,λb o u e=>?_,λb ps e=>?_⟩ λb u e=>?_
   ·rw [eo b (λz=>by rw [z,hT] at n; cases n) (lt' b o e)];exact n
   ·by_cases hb:b=P
    ·subst hb;exact ⟨_,N7 _ htb⟩
    ·exact ⟨o,hk b o hb e⟩
   ·exact ji b _ e λz=>by rw [z,hT] at e; cases e
   ·exact ji b _ e λz=>by rw [z,hT] at e; cases e
   ·by_cases hb:b=P
    ·subst hb;rw [hT] at e;cases e;exact ⟨_,by rw [Qv nPc,Qk]⟩
    ·exact ⟨#[],by rw [ji b _ e hb]; simp⟩
   ·by_cases hb:b=P
    ·subst hb;rw [eP] at e;cases e;exact N7 _ htb
    ·by_cases hb2:b=c'
     ·subst hb2;rw [Qk] at e;cases e;exact ⟨N7 _ hoc,_,N7 _ hoc⟩
     ·rw [eo b hb hb2] at e;have nP:∀ b' u',H b'=some u'->Qi4 u'=false->b'≠P:=λb' u' e' z w=>by rw [w,hT] at e'; cases e'; cases z
      refine (J.hok b u e).stay (λb' o' hb' e'=>hk b' o' ?_ e') (λb' e'=>ji b' _ e' (nP b' _ e' rfl)) λb' xs e'=>ji b' _ e' (nP b' _ e' rfl);rcases hb' with rfl | hb'
      ·exact hb
      ·exact nP b' _ hb' rfl
  have hfr:s.heap.objs.size<=h'.objs.size:=O6 hge (V3 hlt);have ff:=J.fpOk (H':=upd (upd H P (.tbl (#[] ++ #[rawInt bh.line,rawInt bh.col,.ref c']))) c' (.frz oc (.own 0))) (b:=h'.objs.size) hfr (by rw [eo _ (Nat.ne_of_gt (Nat.lt_of_lt_of_le hPlt hfr)) (Nat.ne_of_gt hlt)];exact J.hok.fresh hfr)
  refine hQ _ c' ((X.mg "__name__").getD .none) ctv _ _ (J1.cg λp hp=>?_) ⟨oc,vs,t,Qk,hd,hv⟩ ⟨λb u e z=>ji b u e (λw=>by rw [w,hT] at e; cases e; cases z),λb e=>by
   by_cases hb:b=P
   ·subst hb; rw [eP] at e; cases e
   ·by_cases hb2:b=c'
    ·subst hb2; exact hfc
    ·rw [eo b hb hb2] at e; exact e⟩ ji (.inr ⟨c',oc,vs,t,eP,Qk,hd,hv⟩)
  rcases O5.mp hp with z | z
  ·exact J1.pin p (P0 _ z)
  ·have:p=(h'.objs.size,PySem.W.kla_obj "<lambda>" (X.env.qual ++ "<lambda>") params body scope (Ri X.env.cells scope.names []) ((X.mg "__name__").getD .none) c' ctv):=by simpa using z
   subst this;exact ⟨Q5 _ rfl,ff.1,ff.2.1,ff.2.2.1,λv z=>by cases z⟩
 ·have hP:s.heap.get? P=some (PySem.W.tabObj #[rawInt bh.line,rawInt bh.col,.ref c']):=J.hok P _ hT;refine PySem.W.kla_makeFunctionHit (cv:=.ref c') (mg:=X.mg) hcl J.ok.glob hgs jm CH hP trivial (by show (if (((bh.line:Nat):Int) == bh.line && ((bh.col:Nat):Int) == bh.col)=true then _ else _)=_; simp) BS λctv h' tk hk hsz=>?_;have hk2:∀ b o,s.heap.get? b=some o->(h'.push (PySem.W.kla_obj "<lambda>" (X.env.qual ++ "<lambda>") params body scope (Ri X.env.cells scope.names []) ((X.mg "__name__").getD .none) c' ctv)).get? b=some o:=λb o e=>N7 _ (hk b o e);have J1:=J.kept (t':=tk) hk2;have ff:=J.fpOk (H':=H) (b:=h'.objs.size) hsz (J.hok.fresh hsz);refine hQ _ c' ((X.mg "__name__").getD .none) ctv H _ (J1.cg λp hp=>?_) ⟨oc,vs,t,hc',hd,hv⟩ (Qt.refl _) (λb o e _=>e) (.inr ⟨c',oc,vs,t,hT,hc',hd,hv⟩);rcases O5.mp hp with z | z
  ·exact J1.pin p (P0 _ z)
  ·have:p=(h'.objs.size,PySem.W.kla_obj "<lambda>" (X.env.qual ++ "<lambda>") params body scope (Ri X.env.cells scope.names []) ((X.mg "__name__").getD .none) c' ctv):=by simpa using z
   subst this;exact ⟨Q5 _ rfl,ff.1,ff.2.1,ff.2.2.1,λv z=>by cases z⟩
def Qp6 (K:M7) (P:G5) (bh:Pos) (qual:Str) (ix:J8) (t1:TA) (te:TE):TE:=λσ H Q=>t1 σ H λvs H1 => ∃ (a:G5) (ns:K3) (kf:Int->Int),vs=[.ref a]/\SqL K H1 a (ns.map V.int)/\0 < ns.length/\Qa H1 P bh qual /\
 (∀ z∈ns,∀ H2,Qt H1 H2->te (some (.int z) :: cSt σ ix) H2 λy H3=>y=.int (kf z)/\H3=H2)/\∀ z∈ns,(∀ z'∈ns,kf z'<=kf z)->∀ H2,Qt H1 H2->(∀ b o,H1 b=some o->b≠P->H2 b=some o)->Qa H2 P bh qual->Q (.int z) H2
def Di {p kpos:Pos} {x:Str} {Nc:K9} {ix:J8} {t1:TA} {te:TE} (C:PySem.W.codeHdIn X.K c P=true) (BA:X.base.BuiltinsAt X.mg P) (jm:X.env.code=.ref c) (hc:X.calm=true) (hm:X.mg "max" = none) (jg:X.A.depth < recursionLimit)
  (he1:PA X [e] t1) (he:∀ L f cd s0 H0,PE (Ov X (X.env.qual ++ "<lambda>") scope L f cd s0 H0 (x :: Nc)) body te)
  (ok:Yp scope X.env.scope=true) (hix:Kv scope X.N (x :: Nc) (none :: ix)=true) (hx:scope.names.lookup x=some .local) (hco:scope.isCoroutine=false) (ni:scope.isGenerator=false)
  (nj:defaultsOf params X.env=([],[])) (jh:∀ (cl:List (Str × G5)) (pm cd ctv u:G3),bindArgs (PySem.W.kla_fn "<lambda>" (X.env.qual ++ "<lambda>") params body scope cl pm cd ctv) ⟨[u],[]⟩=pure [(x,u)]) (hg:Gl X "max") (h1:starEach [e] X.env=[(false,eval e X.env)]) :
  PE X (.Call (.Name "max" p) [e] [⟨some "key",.Lambda params body scope bh,kpos⟩] pos) (Qp6 X.K P bh (X.env.qual ++ "<lambda>") ix t1 te):=by
 intro dz s σ H Q I h;refine V1 (Ux I hg hm Th ?_);refine PyProof.Rows.callWith_kw ?_ (by rw [h1]; rfl) (by rw [h1]; rfl);refine thn (he1 pos dz s σ H _ I h) λus s1 ⟨vs,H1,I1,r1,a,ns,kf,e1,hS,hne,hL,hk,hQ⟩=>?_;subst e1;let ⟨u,rfl,ru⟩:=Ts r1;cases ru;show wpAny _ _ (evalAll [(do let v <- eval (.Lambda params body scope bh) X.env; standAt pos; pure v)]) _ _ s1;refine wpAny_evalAll_cons (M6 (Lg I1 ok jm C BA nj hL λf c' pm ctv H2 s2 I2 hrec sb so hL2=>M6 (Z8 (M8 (wpAny_evalAll_nil ?_)))));refine Qt5 kf hc I2 (sb.seq hS) hne (λz hz t pl s3 hpl I3=>?_) λz t s3 hz hmax I3=>?_
 ·have hpin:=I3.pin _ (P0 _ (hpl _ (P0 dz O9)));let ⟨oc,vs',t',h4,h5,h6⟩:=hrec;have hcd:s3.heap.CodeRec (.ref c') (X.env.qual ++ "<lambda>"):=⟨c',oc,vs',t',rfl,(I3.hok c' _ h4).1,h5,h6⟩
  exact Er I3 hc ok hix hx hco ni hpin.1 hcd jg (λu=>jh _ _ _ _ u) (v:=.int z) ⟨t,rfl⟩ he (hk z hz H2 sb)
 ·exact ⟨.int z,H2,I3.sub λp hp=>R5 _ hp,⟨t,rfl⟩,hQ z hz hmax H2 sb so hL2⟩
end
def Yt (P:G5) (H H':Hp):Prop:=∀ b o,H b=some o->b≠P->H' b=some o
theorem Qu.o {P:G5} {H H':Hp} (s:Qu H H'):Yt P H H':=λb o e _=>s b o e
def Yt.trans {P:G5} {H1 H2:Hp} (a:Yt P H H1) (b:Yt P H1 H2):Yt P H H2:=λc o e h=>b c o (a c o e h) h
def Qa.o {P P2:G5} {qual:Str} (h:Qa H P2 pos qual) (hP:∃ ps,H P=some (.tbl ps)) (hne:P2≠P) (s:Yt P H H'):Qa H' P2 pos qual:=by
 rcases h with h | ⟨c',oc,vs,t,h1,h2,h3⟩
 ·exact .inl (s _ _ h hne)
 ·refine .inr ⟨c',oc,vs,t,s _ _ h1 hne,s _ _ h2 ?_,h3⟩;intro e;let ⟨ps,hp⟩:=hP;rw [e,hp] at h2;cases h2
def Qa.tbl {P:G5} {qual:Str} (h:Qa H P pos qual):∃ ps,H P=some (.tbl ps):=by
 rcases h with h | ⟨c',oc,vs,t,h1,h2,h3⟩
 ·exact ⟨_,h⟩
 ·exact ⟨_,h1⟩
def Qkx (K:M7) (C PT:G5) (bh:Pos) (qual:Str):Sp:=λvs H Q _ => ∃ (p a:G5) (ak:K3) (aj:J5) (ao:Int) (way:K4),vs=[.ref p,.ref a]/\Zj C H p ak aj ao/\H a=some (.lst ((wI way).map V.int))/\Df ak aj/\way.length < aj.length /\
 (way.length:Int) < ak.sum/\(∀ b∈ak,0<=b)/\Fit (bF ak) way/\Opt ak aj way/\Qa H PT bh qual /\
 ∀ (l:G5) (cj:K4) (H':Hp),Qt H H'->Yt PT H H'->H l=none->H' l=some (.lst ((wI cj).map V.int))->Qa H' PT bh qual->cj.length=way.length + 1->Fit (bF ak) cj->Opt ak aj cj->Q (.ref l) H'
def Qf2 (K:M7) (C PT:G5) (bh:Pos) (qual:Str):Sp:=λvs H Q _ => ∃ (p:G5) (ak:K3) (aj:J5) (ao:Int),vs=[.ref p]/\Zj C H p ak aj ao/\Df ak aj /\
 (aj.length:Int)<=ak.sum/\(∀ b∈ak,0<=b)/\Qa H PT bh qual /\
 ∀ (l:G5) (way:K4) (H':Hp),Qt H H'->Yt PT H H'->H l=none->H' l=some (.lst ((wI way).map V.int))->Qa H' PT bh qual->way.length=aj.length->Fit (bF ak) way->Opt ak aj way->Q (.ref l) H'
end L2
namespace BW
open L2
variable {s b:Nat}
theorem Eh {W:Nat->Nat->Int} {B:Nat->Nat} {way:K4} {R:Nat} (hB:∀ r,R<=r->B r=0) (f9:Fit B way) (fj:∀ v:K4,v.length=way.length->Fit B v->wsum W v<=wsum W way) :
  ∃ g:Nat->Int,(∀ p (hp:p < way.length) r,r < R->g way[p] + W p r - W p way[p]<=g r)/\(∀ r,0<=g r)/\∀ e,way.count e < B e->g e<=0:=by
 have di:∀ r∈way,r < R:=λr hr=>by refine R4 λz=>?_;have h1:=hB r "o";have h2:=f9 r;have h3:=V8.mpr hr;lia
 let W0:Nat->Nat->Int:=λp r=>if p < way.length then W p r else 0
 have hs:∀ v:K4,v.length=way.length->wsum W0 v=wsum W v:=λv hv=>by
  unfold wsum
  congr 1
  refine R6 λi hi=>?_;have hi:=N8.mp hi;show (if i < way.length then _ else _)=_;rw [if_pos "o"]
 have hopt0:∀ v:K4,v.length=way.length->Fit B v->wsum W0 v<=wsum W0 way:=λv hv hf=>by rw [hs v hv,hs way rfl];exact fj v hv hf
 have ok:=Tx (W:=W0) (R:=R) f9 hopt0 di R;refine ⟨λr=>(turns W0 way R (first W0 way R) R).1.getD r 0,λp hp r hr=>?_,λr=>?_,λe he=>?_⟩
 ·have:=Bl (W:=W0) (R:=R) f9 hopt0 di hp hr;have e1:W0 p r=W p r:=V2 hp;have e2:W0 p way[p]=W p way[p]:=V2 hp;rw [e1,e2] at this;exact this
 ·by_cases hr:r < R
  ·have h1:Reach W0 way R R r (W0 way.length r):=(Reach.base hr).more (R7 _);have h2:=Mw h1;have h3:W0 way.length r=0:=U6 (T7 _);rw [h3] at h2;exact h2
  ·have:(turns W0 way R (first W0 way R) R).1.getD r 0=0:=by rw [getD_eq_getElem?_getD,getElem?_eq_none (by rw [ok.l1]; lia)];rfl
   show 0<=(turns W0 way R (first W0 way R) R).1.getD r 0;rw [this];exact Q6 _
 ·have heR:e < R:=by refine R4 λz=>?_;have:=hB e "o";lia
  let ⟨r0,c,g,e1,hsg,e2,_⟩:=ok.at_ e heR;have h3:W0 way.length r0=0:=U6 (T7 _);let ⟨i1,i2,i3,_⟩:=hsg.app;have hf:Fit B (app way c):=λx=>by
   have h1:=i3 x;have h2:=f9 x
   by_cases hx:x=e
   ·subst hx;rw [Tb] at h1;lia
   ·rw [Al hx] at h1;lia
  have:=hopt0 _ i1 hf;rw [i2] at this;show (turns W0 way R (first W0 way R) R).1.getD e 0<=0;rw [e2,h3];lia
abbrev Hop:=Nat × Nat × Nat
variable {c:List Hop} {m:Hop}
inductive ChS (hs:List Hop) (s:Nat):List Hop->Nat->Prop
 | nil:ChS hs s [] s
 | snoc {c:List Hop} {a r b:Nat}:ChS hs s c a->(a,r,b)∈hs->ChS hs s (c ++ [(a,r,b)]) b
def wt (gn:Hop->Int) (c:List Hop):Int:=(c.map gn).sum
def Wz (gn:Hop->Int) (c d:List Hop):wt gn (c ++ d)=wt gn c + wt gn d:=by simp [wt]
section
variable {hs:List Hop} {gn:Hop->Int} {n:Nat}
theorem ChS.app {x:Nat} {d:List Hop} (h1:ChS hs s c x) (h2:ChS hs x d b):ChS hs s (c ++ d) b:=by
 induction h2 with
 | nil=>simpa using h1
 | snoc _ hm ih =>rw [<- append_assoc];exact .snoc ih hm
theorem ChS.split (h:ChS hs s c b):∀ x∈s :: c.map (λm=>m.2.2),∃ c1 c2,c=c1 ++ c2/\ChS hs s c1 x/\ChS hs x c2 b:=by
 induction h with
 | nil =>
  intro x hx;have:x=s:=by simpa using hx
  subst this;exact ⟨[],[],rfl,.nil,.nil⟩
 | @snoc c a r b h hm ih =>
  intro x hx;rw [map_append,<- cons_append] at hx;rcases O5.mp hx with hx | hx
  ·let ⟨c1,c2,e,h1,h2⟩:=ih x hx;exact ⟨c1,c2 ++ [(a,r,b)],by rw [e,append_assoc],h1,.snoc h2 hm⟩
  ·have:x=b:=by simpa using hx
   subst this;exact ⟨c ++ [(a,r,x)],[],by simp,.snoc h hm,.nil⟩
theorem ChS.dup (h:ChS hs s c b) (hd:¬ (s :: c.map (λm=>m.2.2)).Nodup):∃ c1 c2 c3 x,c=c1 ++ (c2 ++ c3)/\c2≠[]/\ChS hs s c1 x/\ChS hs x c2 x/\ChS hs x c3 b:=by
 induction h with
 | nil=>exact absurd (by simp) hd
 | @snoc c a r b h hm ih =>
  by_cases hn:(s :: c.map (λm=>m.2.2)).Nodup
  ·have hb:b∈s :: c.map (λm=>m.2.2):=by
    refine R4 λz=>hd ?_;rw [map_append,<- cons_append,nodup_append];refine ⟨hn,by simp,λp hp q hq=>?_⟩;have:q=b:=by simpa using hq
    subst this;intro e;subst e;exact z hp
   let ⟨c1,c2,e,h1,h2⟩:=h.split b hb;exact ⟨c1,c2 ++ [(a,r,b)],[],b,by rw [e]; simp,by simp,h1,.snoc h2 hm,.nil⟩
  ·let ⟨c1,c2,c3,x,e,hne,h1,h2,h3⟩:=ih hn;exact ⟨c1,c2,c3 ++ [(a,r,b)],x,by rw [e]; simp,hne,h1,h2,.snoc h3 hm⟩
theorem ChS.pot {h:Nat->Int} (hp:∀ m∈hs,h m.1 + gn m<=h m.2.2) (hc:ChS hs s c b):h s + wt gn c<=h b:=by
 induction hc with
 | nil=>simp [wt]
 | @snoc c a r b _ hm ih =>
  have:=hp _ hm;rw [Wz];have e:wt gn [(a,r,b)]=gn (a,r,b):=by simp [wt]
  rw [e];simp only at this;lia
theorem ChS.lt (hlt:∀ m∈hs,m.1 < n/\m.2.2 < n) (hc:ChS hs s c b) (hsn:s < n):(∀ x∈s :: c.map (λm=>m.2.2),x < n)/\b < n:=by
 induction hc with
 | nil =>
  refine ⟨λx hx=>?_,hsn⟩;have:x=s:=by simpa using hx
  rw [this]; exact hsn
 | @snoc c a r b _ hm ih =>
  refine ⟨λx hx=>?_,(hlt _ hm).2⟩;rw [map_append,<- cons_append] at hx;rcases O5.mp hx with hx | hx
  ·exact ih.1 x hx
  ·have:x=b:=by simpa using hx
   rw [this]; exact (hlt _ hm).2
theorem Ct {h:Nat->Int} (hp:∀ m∈hs,h m.1 + gn m<=h m.2.2) (hlt:∀ m∈hs,m.1 < n/\m.2.2 < n):∀ (k:Nat) {s b:Nat} {c:List Hop},c.length<=k->s < n->ChS hs s c b->∃ c',ChS hs s c' b/\c'.length < n/\wt gn c<=wt gn c'
 | 0,s,b,c,hl,hs',hc=>⟨c,hc,"o",Q6 _⟩
 | k + 1,s,b,c,hl,hs',hc=>by
  by_cases hn:c.length < n
  ·exact ⟨c,hc,hn,Q6 _⟩
  ·have hnd:¬ (s :: c.map (λm=>m.2.2)).Nodup:=λz=>by have:=Km n _ z (hc.lt hlt hs').1;simp at this;lia
   let ⟨c1,c2,c3,x,rfl,hne,h1,h2,h3⟩:=hc.dup hnd;have h4:=h2.pot hp;have hl2:0 < c2.length:=length_pos_iff.mpr hne;let ⟨c',g1,g2,g3⟩:=Ct hp hlt k (c:=c1 ++ c3) (by simp at hl ⊢; lia) hs' (h1.app h3);refine ⟨c',g1,g2,?_⟩;rw [Wz] at g3;rw [Wz,Wz];lia
abbrev TC:=K3 × List (List Hop)
def Bw (gn:Hop->Int) (st:TC) (m:Hop):TC:=if st.1.getD m.1 0 + gn m > st.1.getD m.2.2 0 then (st.1.set m.2.2 (st.1.getD m.1 0 + gn m),st.2.set m.2.2 (st.2.getD m.1 [] ++ [m])) else st
def Qov (gn:Hop->Int) (hs:List Hop) (st:TC):TC:=hs.foldl (Bw gn) st
def Vj (gn:Hop->Int) (hs:List Hop) (st:TC) (k:Nat):TC:=(range k).foldl (λst _=>Qov gn hs st) st
def Pj (st:TC) (k:Nat):Vj gn hs st (k + 1)=Qov gn hs (Vj gn hs st k):=by unfold Vj;rw [range_succ,foldl_append];rfl
structure OkC (hs:List Hop) (gn:Hop->Int) (n:Nat) (st:TC):Prop where
 l1:st.1.length=n
 l2:st.2.length=n
 at_:∀ b,b < n->∃ s,s < n/\ChS hs s (st.2.getD b []) b/\wt gn (st.2.getD b [])=st.1.getD b 0
def Jj (n:Nat):TC:=(replicate n 0,replicate n [])
def Qck:OkC hs gn n (Jj n):=by
 refine ⟨by simp [Jj],by simp [Jj],λb hb=>⟨b,hb,?_,?_⟩⟩
 ·have:(Jj n).2.getD b []=[]:=by simp [Jj,getD,hb]
  rw [this];exact .nil
 ·simp [Jj,getD,hb,wt]
def Qlk (hlt:∀ m∈hs,m.1 < n/\m.2.2 < n) {st:TC} (ok:OkC hs gn n st) (hm:m∈hs):OkC hs gn n (Bw gn st m):=by
 let ⟨h1,h2⟩:=hlt m hm;unfold Bw
 split
 ·refine ⟨by simp [ok.l1],by simp [ok.l2],λb hb=>?_⟩;have l1:=ok.l1;have l2:=ok.l2
  by_cases hbm:b=m.2.2
  ·subst hbm;let ⟨s,hs1,hs2,hs3⟩:=ok.at_ m.1 h1;refine ⟨s,hs1,?_,?_⟩
   ·have e:(st.2.set m.2.2 (st.2.getD m.1 [] ++ [m])).getD m.2.2 []=st.2.getD m.1 [] ++ [m]:=by simp [getD,l2,h2]
    rw [e];exact .snoc hs2 hm
   ·have e:(st.2.set m.2.2 (st.2.getD m.1 [] ++ [m])).getD m.2.2 []=st.2.getD m.1 [] ++ [m]:=by simp [getD,l2,h2]
    rw [e,Wz,hs3];simp [getD,l1,h2,wt]
  ·let ⟨s,hs1,hs2,hs3⟩:=ok.at_ b hb;have hbm':m.2.2≠b:=λz=>hbm z.symm;have e1:(st.2.set m.2.2 (st.2.getD m.1 [] ++ [m])).getD b []=st.2.getD b []:=by simp [getD,getElem?_set_ne hbm']
   have e2:(st.1.set m.2.2 (st.1.getD m.1 0 + gn m)).getD b 0=st.1.getD b 0:=by simp [getD,getElem?_set_ne hbm']
   exact ⟨s,hs1,by rw [e1]; exact hs2,by rw [e1,e2]; exact hs3⟩
 ·exact ok
theorem Bo {st:TC} (x:Nat):st.1.getD x 0<=(Bw gn st m).1.getD x 0:=by
 unfold Bw
 split
 ·rename_i h
  by_cases hx:x=m.2.2
  ·subst hx
   by_cases hl:m.2.2 < st.1.length
   ·simp [getD,hl];simp [getD,hl] at h;lia
   ·rw [set_eq_of_length_le "o"];exact Q6 _
  ·have hx':m.2.2≠x:=λz=>hx z.symm;simp [getD,getElem?_set_ne hx']
 ·exact Q6 _
theorem Qr0 {st:TC} (h:m.2.2 < st.1.length):st.1.getD m.1 0 + gn m<=(Bw gn st m).1.getD m.2.2 0:=by
 unfold Bw
 split
 ·simp [getD,h]
 ·lia
def Eg {st:TC}:(Bw gn st m).1.length=st.1.length:=by
 unfold Bw
 split <;> simp
theorem Gr {st:TC} (x:Nat):∀ (l:List Hop),st.1.getD x 0<=(l.foldl (Bw gn) st).1.getD x 0
 | []=>Q6 _
 | m :: l=>T6 (Bo x) (Gr (st:=Bw gn st m) x l)
theorem Qvv {st:TC} {m:Hop}:∀ (l:List Hop),m∈l->m.2.2 < st.1.length->st.1.getD m.1 0 + gn m<=(l.foldl (Bw gn) st).1.getD m.2.2 0
 | m' :: l,hm,hl=>by
  rw [foldl_cons];rcases Q8.mp hm with rfl | hm
  ·exact T6 (Qr0 hl) (Gr _ l)
  ·have h1:=Bo (gn:=gn) (st:=st) (m:=m') m.1;have h2:=Qvv (st:=Bw gn st m') l hm (by rw [Eg]; exact hl);lia
def Nh (hlt:∀ m∈hs,m.1 < n/\m.2.2 < n) (k:Nat):OkC hs gn n (Vj gn hs (Jj n) k):=by refine Zu (I:=OkC hs gn n) Qck λst _ _ ok=>?_;exact Zu (I:=OkC hs gn n) ok λst m hm ok=>Qlk hlt ok hm
theorem Gy {x j:Nat}:∀ {k:Nat},j<=k->(Vj gn hs (Jj n) j).1.getD x 0<=(Vj gn hs (Jj n) k).1.getD x 0
 | 0,h=>by
  have:j=0:=by lia
  rw [this]; exact Q6 _
 | k + 1,h=>by
  by_cases hj:j=k + 1
  ·rw [hj]; exact Q6 _
  ·rw [Pj];exact T6 (Gy (k:=k) "o") (Gr x hs)
theorem Ew (hlt:∀ m∈hs,m.1 < n/\m.2.2 < n) (hc:ChS hs s c b) (hsn:s < n):wt gn c<=(Vj gn hs (Jj n) c.length).1.getD b 0:=by
 induction hc with
 | nil=>simp [wt,Vj,Jj,getD,hsn]
 | @snoc c a r b _ hm ih =>
  rw [length_append,length_singleton,Pj,Wz];have h1:=Qvv (gn:=gn) (st:=Vj gn hs (Jj n) c.length) hs hm (by rw [(Nh hlt c.length).l1]; exact (hlt _ hm).2);have h2:wt gn [(a,r,b)]=gn (a,r,b):=by simp [wt]
  rw [h2];simp only at h1;unfold Qov;lia
theorem Ax {h:Nat->Int} (hp:∀ m∈hs,h m.1 + gn m<=h m.2.2) (hlt:∀ m∈hs,m.1 < n/\m.2.2 < n) (hm:m∈hs):(Vj gn hs (Jj n) n).1.getD m.1 0 + gn m<=(Vj gn hs (Jj n) n).1.getD m.2.2 0:=by
 let ⟨s,h1,h2,h3⟩:=(Nh (gn:=gn) hlt n).at_ m.1 (hlt m hm).1;have h4:ChS hs s ((Vj gn hs (Jj n) n).2.getD m.1 [] ++ [(m.1,m.2.1,m.2.2)]) m.2.2:=.snoc h2 hm;let ⟨c',g1,g2,g3⟩:=Ct hp hlt _ (O1 _) h1 h4;have g4:=Ew (gn:=gn) hlt g1 h1;have g5:=Gy (hs:=hs) (gn:=gn) (n:=n) (x:=m.2.2) (j:=c'.length) (k:=n) "o";rw [Wz,h3] at g3;have h5:wt gn [(m.1,m.2.1,m.2.2)]=gn m:=by simp [wt]
 rw [h5] at g3;lia
def Az (hlt:∀ m∈hs,m.1 < n/\m.2.2 < n) (hb:b < n):0<=(Vj gn hs (Jj n) n).1.getD b 0:=by have h1:=Ew (gn:=gn) hlt (.nil:ChS hs b [] b) hb;have h2:=Gy (hs:=hs) (gn:=gn) (n:=n) (x:=b) (j:=0) (k:=n) (R7 _);simp [wt] at h1;exact T6 h1 h2
end
end BW
namespace L2
open BW
variable {way:K4} {aj:J5} {ak:K3} {c aq:List Hop} {H:Hp} {wo:Bool}
theorem Qd4 (wo:Bool) (ok:Qn ak aj way) (f9:Fit (bF ak) way) (fj:Opt ak aj way) :
  ∃ h:Nat->Int,∀ a b r,a < aj.length->b < aj.length->r < ak.length->((r:Int)∈Zm wo ak way a b)->h a + Zn wo aj way a r b<=h b:=by
 let ⟨g,g1,g2,g3⟩:=Eh (Bm ak) f9 fj;have hw:∀ a,a < aj.length->∃ (ha:a < way.length),way[a]=way.getD a 0:=λa ha=>by
  have ha':a < way.length:=by rw [ok.len]; exact ha
  exact ⟨ha',by simp [getD,ha']⟩
 have g8:∀ {r x:Nat},((r:Int)∈Yu ak (wI way) ++ [(x:Int)])->r=x\/way.count r < bF ak r:=λ{r x} h=>by
  rcases O5.mp h with e | e
  ·let ⟨r',e1,_,e2⟩:=Jp.mp e;have:r'=r:=by lia
   subst this;exact .inr e2
  ·have:(r:Int)=(x:Int):=by simpa using e
   exact .inl "o"
 cases wo with
 | true =>
  refine ⟨λx=>Zh aj way x - g (way.getD x 0),λa b r ha hb hr hm=>?_⟩;let ⟨hb',eb⟩:=hw b hb;have h1:=g1 b hb' r hr;rw [eb] at h1;show Zh aj way a - g (way.getD a 0) + (wF aj b r - Zh aj way a)<=wF aj b (way.getD b 0) - g (way.getD b 0);have h2:=g2 (way.getD a 0);rcases g8 (show (r:Int)∈Yu ak (wI way) ++ [((way.getD a 0:Nat):Int)] from hm) with e | e
  ·subst e;lia
  ·have h3:=g3 r e;lia
 | false =>
  refine ⟨λx=>g (way.getD x 0),λa b r ha hb hr hm=>?_⟩;let ⟨ha',ea⟩:=hw a ha;have h1:=g1 a ha' r hr;rw [ea] at h1;show g (way.getD a 0) + (wF aj a r - wF aj a (way.getD a 0))<=g (way.getD b 0);have h2:=g2 (way.getD b 0);rcases g8 (show (r:Int)∈Yu ak (wI way) ++ [((way.getD b 0:Nat):Int)] from hm) with e | e
  ·subst e;lia
  ·have h3:=g3 r e;lia
open PySem PySem.Spec PyProof.Rows
def Qsx (m:Hop):List V:=[.int (m.1:Int),.int (m.2.1:Int),.int (m.2.2:Int)]
def Zw (H:Hp) (a:G5) (c:List Hop):Prop:=∃ ts:K6,H a=some (.lst (ts.map V.ref))/\ts.length=c.length/\∀ (j:Nat) t m,ts[j]? = some t->c[j]? = some m->H t=some (.tup (Qsx m))
def Zw.keep {H':Hp} {a:G5} (h:Zw H a c) (h1:∀ o,H a=some o->H' a=some o) (h2:∀ t xs,H t=some (.tup xs)->H' t=some (.tup xs)):Zw H' a c:=by let ⟨ts,e1,e2,e3⟩:=h;exact ⟨ts,h1 _ e1,e2,λj t m a b=>h2 _ _ (e3 j t m a b)⟩
def Zw.same {H':Hp} {a:G5} (h:Zw H a c) (s:Qu H H'):Zw H' a c:=h.keep (λo e=>s _ _ e) λt xs e=>s _ _ e
def Zw.bf {H':Hp} {a:G5} (h:Zw H a c) (s:Qt H H'):Zw H' a c:=by let ⟨ts,e1,e2,e3⟩:=h;exact ⟨ts,s.to _ _ e1 rfl,e2,λj t m a b=>s.to _ _ (e3 j t m a b) rfl⟩
theorem Zw.snoc {H:Hp} {a t:G5} {c:List Hop} {m:Hop} {ts:K6} (e1:H a=some (.lst (ts.map V.ref ++ [.ref t]))) (e2:ts.length=c.length) (e3:∀ (j:Nat) t m,ts[j]? = some t->c[j]? = some m->H t=some (.tup (Qsx m))) (e4:H t=some (.tup (Qsx m))):Zw H a (c ++ [m]):=by
 refine ⟨ts ++ [t],by rw [e1]; simp,by simp [e2],λj t' m' h1 h2=>?_⟩
 by_cases hj:j < ts.length
 ·rw [getElem?_append_left hj] at h1;rw [getElem?_append_left "o"] at h2;exact e3 j t' m' h1 h2
 ·have hj2:j=ts.length:=by have:=(N5.mp h1).1;simp at this;lia
  subst hj2;simp at h1;rw [e2] at h2;simp at h2;subst h1 h2;exact e4
structure Zxx (H:Hp) (ga mv:G5) (st:TC):Prop where
 ne:ga≠mv
 g:H ga=some (.lst (st.1.map V.int))
 ex:∃ ls:K6,H mv=some (.lst (ls.map V.ref))/\ls.length=st.2.length/\(∀ a∈ls,a≠ga/\a≠mv)/\∀ (i:Nat) a c,ls[i]? = some a->st.2[i]? = some c->Zw H a c
structure Xs (wo:Bool) (ak:K3) (aj:J5) (way:K4) (aq:List Hop):Prop where
 mem:∀ m∈aq,m.1 < aj.length/\m.2.2 < aj.length/\m.1≠m.2.2/\m.2.1 < ak.length/\(m.2.1:Int)∈Zm wo ak way m.1 m.2.2
 best:∀ m∈aq,∀ r:Nat,(r:Int)∈Zm wo ak way m.1 m.2.2->Zn wo aj way m.1 r m.2.2<=Zn wo aj way m.1 m.2.1 m.2.2
 all_:∀ a b,a < aj.length->b < aj.length->a≠b->∃ r,(a,r,b)∈aq
 len:aq.length<=100
structure Vx (wo:Bool) (ak:K3) (aj:J5) (way:K4) (aq:List Hop) (i j:Nat):Prop where
 mem:∀ m∈aq,m.1 < aj.length/\m.2.2 < aj.length/\m.1≠m.2.2/\m.2.1 < ak.length/\(m.2.1:Int)∈Zm wo ak way m.1 m.2.2
 best:∀ m∈aq,∀ r:Nat,(r:Int)∈Zm wo ak way m.1 m.2.2->Zn wo aj way m.1 r m.2.2<=Zn wo aj way m.1 m.2.1 m.2.2
 all_:∀ a b,a < aj.length->b < aj.length->a≠b->(a < i\/(a=i/\b < j))->∃ r,(a,r,b)∈aq
 len:aq.length<=i * aj.length + j
theorem Vx.skip {i j:Nat} (h:Vx wo ak aj way aq i j) (e:i=j):Vx wo ak aj way aq i (j + 1) :=⟨h.mem,h.best,λa b ha hb hab z=>h.all_ a b ha hb hab "o",by have:=h.len; lia⟩
theorem Vx.more {i j r:Nat} (h:Vx wo ak aj way aq i j) (hij:i < aj.length/\j < aj.length) (e:i≠j) (h1:(r:Int)∈Zm wo ak way i j) (h2:r < ak.length) (h3:∀ r':Nat,(r':Int)∈Zm wo ak way i j->Zn wo aj way i r' j<=Zn wo aj way i r j):Vx wo ak aj way (aq ++ [(i,r,j)]) i (j + 1):=by
 refine ⟨λm hm=>?_,λm hm=>?_,λa b ha hb hab z=>?_,by have:=h.len; simp; lia⟩
 ·rcases O5.mp hm with z | z
  ·exact h.mem m z
  ·have:m=(i,r,j):=by simpa using z
   subst this;exact ⟨hij.1,hij.2,e,h2,h1⟩
 ·rcases O5.mp hm with z | z
  ·exact h.best m z
  ·have:m=(i,r,j):=by simpa using z
   subst this;exact h3
 ·by_cases hz:a=i/\b=j
  ·let ⟨rfl,rfl⟩:=hz;exact ⟨r,by simp⟩
  ·let ⟨r',hr'⟩:=h.all_ a b ha hb hab "o";exact ⟨r',R5 _ hr'⟩
theorem Vx.next {i:Nat} (h:Vx wo ak aj way aq i aj.length):Vx wo ak aj way aq (i + 1) 0 :=⟨h.mem,h.best,λa b ha hb hab z=>h.all_ a b ha hb hab "o",by have:=h.len; rw [Nat.add_mul,Nat.one_mul]; lia⟩
theorem Vx.good (h:Vx wo ak aj way aq aj.length 0) (hl:aj.length<=10):Xs wo ak aj way aq :=⟨h.mem,h.best,λa b ha hb hab=>h.all_ a b ha hb hab (.inl ha),O6 h.len (by have:=Nat.mul_le_mul hl hl; lia)⟩
def Qa.updL {P l:G5} {pos:Pos} {qual:Str} {xs ys:List V} (h:Qa H P pos qual) (hl:H l=some (.lst xs)):Qa (upd H l (.lst ys)) P pos qual:=by
 have k:∀ c o,H c=some o->(∀ zs,o≠.lst zs)->upd H l (.lst ys) c=some o:=λc o e hne=>by rw [Qv (Jw e hl (hne _))];exact e
 rcases h with h | ⟨c',oc,vs,t,h1,h2,h3⟩
 ·exact .inl (k _ _ h (by intro zs z; cases z))
 ·exact .inr ⟨c',oc,vs,t,k _ _ h1 (by intro zs z; cases z),k _ _ h2 (by intro zs z; cases z),h3⟩
def gnF (wo:Bool) (aj:J5) (way:K4) (m:Hop):Int:=Zn wo aj way m.1 m.2.1 m.2.2
structure Ur (wo:Bool) (H:Hp) (t tl cl:G5) (ak:K3) (aj:J5) (way:K4) (aq:List Hop) (st:TC):Prop where
 tup:H t=some (.tup [.ref tl,.ref cl])
 tc:Zxx H tl cl st
 good:Xs wo ak aj way aq
 ok:OkC aq (gnF wo aj way) aj.length st
 nn:∀ b,b < aj.length->0<=st.1.getD b 0
 cl_:∀ a b r:Nat,a < aj.length->b < aj.length->a≠b->(r:Int)∈Zm wo ak way a b->st.1.getD a 0 + Zn wo aj way a r b<=st.1.getD b 0
theorem Qhw {t tl cl:G5} (aok:Qn ak aj way) (f9:Fit (bF ak) way) (fj:Opt ak aj way) (good:Xs wo ak aj way aq) (h1:H t=some (.tup [.ref tl,.ref cl]))
  (h2:Zxx H tl cl (Vj (gnF wo aj way) aq (Jj aj.length) aj.length)):Ur wo H t tl cl ak aj way aq (Vj (gnF wo aj way) aq (Jj aj.length) aj.length):=by
 let ⟨h,hp⟩:=Qd4 wo aok f9 fj;have hlt:∀ m∈aq,m.1 < aj.length/\m.2.2 < aj.length:=λm hm=>⟨(good.mem m hm).1,(good.mem m hm).2.1⟩
 have nq:∀ m∈aq,h m.1 + gnF wo aj way m<=h m.2.2:=λm hm=>by let ⟨g1,g2,g3,g4,g5⟩:=good.mem m hm;exact hp m.1 m.2.2 m.2.1 g1 g2 g4 g5
 refine ⟨h1,h2,good,Nh hlt _,λb hb=>Az hlt hb,λa b r ha hb hab hr=>?_⟩;let ⟨r0,hm⟩:=good.all_ a b ha hb hab;have k1:=Ax nq hlt hm;have k2:=good.best _ hm r hr;have k3:gnF wo aj way (a,r0,b)=Zn wo aj way a r0 b:=rfl;rw [k3] at k1;simp only at k1 k2;lia
def Co {base:Heap} {mg:J9} {P:G5} (h:base.BuiltinsAt mg P):∀ Q∈[P],base.BuiltinsAt mg Q:=λQ hQ=>by rw [mem_singleton.mp hQ];exact h
end L2
namespace BW
theorem ChS.inv {hs:List Hop} {s b:Nat} {c:List Hop} {m:Hop} (h:ChS hs s (c ++ [m]) b):ChS hs s c m.1/\m∈hs/\m.2.2=b:=by
 generalize e:c ++ [m]=d at h;cases h with
 | nil=>simp at e
 | @snoc c' a r b h hm =>
  have h1:=append_inj' e rfl;let ⟨rfl,h2⟩:=h1;have h3:m=(a,r,b):=by simpa using h2
  subst h3;exact ⟨h,hm,rfl⟩
end BW
namespace L2
open PySem PySem.Spec PyProof.Rows BW
variable {xs:List V}
def Qm6 {K:M7} {a D:G5} {te:TE} {σf:St} {H1:Hp} {Q:VK} (R:Nat->V->Hp->Prop) (hS:SqT K H1 a xs) (hz:xs.length < sizeLine) (hD1:H1 D=none)
  (mono:∀ i y H H',Qx1 D H H'->R i y H->R i y H')
  (hs:∀ (i:Nat) x H ys (N:VK),xs[i]? = some x->Qu H1 H->H D=some (.lst ys)->(∀ y H',Qu H H'->R i y H'->N y H')->te (some x :: σf) H N)
  (hd:∀ ys H,Qu H1 H->H D=some (.lst ys)->ys.length=xs.length->(∀ (i:Nat) y,ys[i]? = some y->R i y H)->Q (.ref D) H):Wo (Itt K a) D (Jb 0) Qx0 te (none :: σf) (upd H1 D (.lst [])) Q:=by
 refine Qcw xs.length (λi=>(xs[i]?).getD .non) R hz hD1 (λi H hi s=>⟨xs,xs[i],s.seqT hS,by simp [hi]⟩) (λH s=>⟨xs,s.seqT hS,O1 _⟩) (λi H x H' hi s y=>?_) mono (λi H ys N hi s d hN=>?_) hd
 ·let ⟨rfl,y⟩:=y;have:=y xs (s.seqT hS);exact ⟨by simp [this],rfl⟩
 ·have e:xs[i]? = some xs[i]:=by simp [hi]
  have q:=hs i xs[i] H ys N e s d hN;rw [e];exact q
def Wh {K:M7} {a D:G5} {tt:TT} {te:TE} {σf:St} {H1:Hp} {Q:VK} (p:Nat->Bool) (f:Nat->V) (hS:SqL K H1 a xs) (hz:xs.length < sizeLine) (hD1:H1 D=none)
  (ht:∀ (i:Nat) x H (N:Bool->Hp->Prop),xs[i]? = some x->Qu H1 H->(∀ H',Qu H H'->N (p i) H')->tt (some x :: σf) H N)
  (hs:∀ (i:Nat) x H (N:VK),xs[i]? = some x->p i=true->Qu H1 H->(∀ H',Qu H H'->N (f i) H')->te (some x :: σf) H N)
  (hd:∀ H,Qu H1 H->H D=some (.lst (((range xs.length).filter p).map f))->Q (.ref D) H):Wo (Itl K a) D (Jb 0) tt te (none :: σf) (upd H1 D (.lst [])) Q:=by
 have hx:∀ i,i < xs.length->xs[i]? = some ((xs[i]?).getD .non):=λi hi=>by simp [hi]
 refine Qdj xs.length (λi=>(xs[i]?).getD .non) p f hz hD1 (λi H hi s=>⟨xs,xs[i],s.seq hS,R3 hi⟩) (λH s=>⟨xs,s.seq hS,O1 _⟩) (λi H x H' hi s y=>?_) (λi H N hi s k=>ht i _ H N (hx i hi) s k) (λi H N hi e s k=>hs i _ H N (hx i hi) e s k) hd;let ⟨e,y⟩:=y;refine ⟨?_,e⟩;rw [y xs (s.seq hS)];rfl
theorem Qj4 {P:Nat->V->Prop} {α:Type} (f:α->V) (R:Nat->α->Prop):∀ (ys:List V) (k:Nat),(∀ (i:Nat) y,ys[i]? = some y->∃ z,y=f z/\R (k + i) z)->∃ zs:List α,ys=zs.map f/\∀ (i:Nat) z,zs[i]? = some z->R (k + i) z
 | [],_,_=>⟨[],rfl,λi z h=>by simp at h⟩
 | y :: r,k,h=>by
  let ⟨z,e,hz⟩:=h 0 y rfl;let ⟨zs,e2,hzs⟩:=Qj4 (P:=P) f R r (k + 1) λi y hy=>by let ⟨z,e,hz⟩:=h (i + 1) y (by simpa using hy);exact ⟨z,e,by rw [show k + 1 + i=k + (i + 1) by lia]; exact hz⟩
  refine ⟨z :: zs,by rw [e,e2]; rfl,λi z' hi=>?_⟩;cases i with
  | zero =>
   have:z=z':=by simpa using hi
   rw [<- this];exact hz
  | succ i =>have:=hzs i z' (by simpa using hi);rw [show k + (i + 1)=k + 1 + i by lia];exact this
abbrev Cx.in1 (X:Cx):Cx:={ X with A:=X.A.in1 }
section
variable {X:Cx} {dz:G9} {σ:St} {H:Hp} {s:G4}
def Inv.in1 (I:Inv X dz σ H s):Inv X.in1 dz σ H s :=⟨⟨I.ok.mod,I.ok.kind,I.ok.glob,I.ok.blt,I.ok.above,I.ok.inj,I.ok.has,I.ok.cab,I.ok.hd,I.ok.frames,I.ok.stk,I.ok.exf,I.ok.bs,I.ok.bsz,I.ok.noex,I.ok.exfs,I.ok.dw,I.ok.frf⟩,I.os,I.bare,I.base,I.loc,I.cell,I.free,I.c7,I.pin,I.hok,I.len⟩
def Inv.out1 (I:Inv X.in1 dz σ H s):Inv X dz σ H s :=⟨⟨I.ok.mod,I.ok.kind,I.ok.glob,I.ok.blt,I.ok.above,I.ok.inj,I.ok.has,I.ok.cab,I.ok.hd,I.ok.frames,I.ok.stk,I.ok.exf,I.ok.bs,I.ok.bsz,I.ok.noex,I.ok.exfs,I.ok.dw,I.ok.frf⟩,I.os,I.bare,I.base,I.loc,I.cell,I.free,I.c7,I.pin,I.hok,I.len⟩
def Inv.adopt {D:G5} {o:Obj} {h':Heap} {t':Nat} (I:Inv X (dz ++ [(D,o)]) σ H s) (fD:Tn X dz H D) (k:∀ b u,b≠D->s.heap.get? b=some u->h'.get? b=some u)
  (new:Ub X.prog X.w (upd H D (.lst xs)) h' D (.lst xs)):Inv X dz σ (upd H D (.lst xs)) { s with heap:=h',toks:=t' }:=by
 have I0:Inv X dz σ H s:=I.sub λp hp=>R5 _ hp;have hn:H D=none:=fD.1;have nD:∀ b,b ∉ [D]->b≠D:=λb hb z=>hb (by simp [z]);refine I0.step (g':=s.gens) (d':=s.drawn) (ch:=[D]) (λb hb=>?_) (λb u _ _ hc q _=>k b u (nD b hc) q) (λb u _ _ hc q _=>⟨u.slots,k b u (nD b hc) q⟩) (λb u hc q n=>by rw [Qv (nD b hc)]; exact n)
  (λb u hc q=>⟨u,k b u (nD b hc) q⟩) (λb ys q=>by rw [Qv (Qj q hn)]; exact q) (λb u w q=>by rw [Qv (Qj q hn)]; exact q) (λb ps q=>⟨#[],by rw [Qv (Qj q hn),q]; simp⟩) (λm hm=>?_) (λb u q=>?_) I.bare
 ·have z:b=D:=by simpa using hb
  subst z;exact ⟨fD.2.2.2.1,fD.2.1,fD.2.2.2.2.1,fD.2.2.2.2.2⟩
 ·let ⟨u,es,ep,ho,r⟩:=hm;exact ⟨u,es,ep,k _ u (λz=>fD.2.1 z.symm) ho,r⟩
 ·by_cases hb:b=D
  ·subst hb;rw [Qk] at q;cases q;exact new
  ·rw [Qv hb] at q;have ne:∀ c w,H c=some w->c≠D:=λc w z=>Qj z hn;refine (I.hok b u q).stay (λc v hc z=>?_) (λc z=>by rw [Qv (Qj z hn)]; exact z) λc ys z=>by rw [Qv (Qj z hn)]; exact z
   rcases hc with w | w
   ·rw [w] at z ⊢;exact k b v (ne b u q) z
   ·exact k c v (ne c _ w) z
theorem Sq:∀ {ns:K3} {us:K5},Xq (ns.map V.int) us->IntsAre us ns
 | [],_,h=>by cases h; exact .nil
 | n :: r,_,h=>by
  cases h with
  | cons a b =>let ⟨t,rfl⟩:=a;exact .cons n t (Sq b)
variable {ns kz:K3} {vs:K5} {D kS l q:G5} {j4:Array G3} {e e1:Nat} {A:G7} {E:K1} {P:PySem.Fin->G4->Prop}
end
section
variable {X:Cx} {dz:G9} {σ:St} {H:Hp} {s:G4} {c P:G5} {scope:Scope} {params:Arguments} {body:Expr} {bh:Pos}
def Cv:bootBuiltins "sorted" = some (.builtin "sorted"):=by decide +kernel
end
end L2
namespace BW
open L2
end BW
namespace BW
open L2
end BW
namespace L2
open PySem PySem.Spec PyProof.Rows BW
variable {a b:Nat} {K:M7} {H H':Hp} {F:G5->Prop} {st:TC} {aq:List Hop} {way v:K4} {aj:J5} {ak gs rows R:K3} {wo:Bool} {n ao d k:Int}
section
variable {X:Cx}
def Zj8 (K:M7):List V->Hp->VK->Prop:=λxs H Q => ∃ (a:G5) (bs:List Bool),xs=[.ref a]/\SqL K H a (bs.map V.bl)/\Q (.bl (bs.any id)) H
def range_any (bs:List Bool):(range bs.length).any (λi=>bs.getD i false)=bs.any id:=by
 rw [Bool.eq_iff_iff,any_eq_true,any_eq_true]
 constructor
 ·rintro ⟨i,hi,h⟩;have hi':=N8.mp hi;exact ⟨bs[i],M9 hi',by simpa [hi'] using h⟩
 ·rintro ⟨b,hb,h⟩;let ⟨i,hi,rfl⟩:=X3.mp hb;exact ⟨i,N8.mpr hi,by simpa [hi] using h⟩
theorem Qgq (hK:X.K=K) (hc:X.calm=true):Up X (.builtin "any") (Zj8 K):=by
 subst hK;intro dz s σ H xs us Q I r h;let ⟨a,bs,rfl,hq,q⟩:=h;let ⟨u,rfl,rx⟩:=Ts r;cases rx;let ⟨its,rv,pl,hz⟩:=I.list hq;have hl:=rv.length;have ha:a < s.heap.objs.size:=by let ⟨o,n,e,_⟩:=pl;exact N6 e
 have hhd:X.A.in1.handled=none:=I.ok.hd hc;refine call_any_walkS (X5 pl.isList ?_);refine ⟨s.heap.objs.size,_,_,_,its.toArray.size,_,_,λi=>bs.getD i false,rfl,(W9 hhd s.heap.objs.size a (O7 ha) its.toArray).toS,⟨⟨_,Q5 _ rfl,rfl,rfl⟩,pl.isList.push _⟩,?_,?_⟩
 ·intro i v s1 Q1 E1 hv hQ;have hv':its[i]? = some v:=by simpa using hv
  have hi:i < bs.length:=by have:=(N5.mp hv').1;simp at hl;lia
  let ⟨u,h1,h2⟩:=rv.get (i:=i) (x:=.bl bs[i]) (by simp [hi]);rw [hv'] at h1;cases h1;have h2':v=Value.bool bs[i]:=h2;subst h2';refine W2 ?_;have e:bs.getD i false=bs[i]:=by simp [hi]
  rw [<- e];exact hQ
 ·intro s' m;refine ⟨.bl (bs.any id),H,I.moved m,?_,q⟩;have e:its.toArray.size=bs.length:=by rw [size_toArray,<- hl]; simp
  rw [e,range_any];rfl
def Om (t:TE):TE:=λσ H Q=>t σ H λx H1 => ∃ n:Nat,x=.int n/\n<=1000/\∀ l H',New H1 l (.lst ((range n).map λ(i:Nat)=>V.int (i:Int))) H'->Q (.ref l) H'
theorem Hc {e:Expr} {t:TE} {p p' pos j5:Pos} (hc:X.calm=true) (hgl:Gl X "list") (hml:X.mg "list" = none) (hgr:Gl X "range") (hmr:X.mg "range" = none) (ha:PE X e t)
  (he:starEach [e] X.env=(false,eval e X.env) :: starEach [] X.env:=by rfl):PE X (.Call (.Name "list" p) [.Call (.Name "range" p') [e] [] j5] [] pos) (Om t):=by
 intro dz s σ H Q I h;refine V1 (Ux I hgl hml Jc ?_ (by decide) (by decide));refine W7 ?_ rfl rfl;show wpAny _ _ (spliced ((false,eval _ X.env) :: backTo pos (starEach [] X.env))) _ _ s;refine X7 ?_;refine V1 (Ux I hgr hmr boot_range ?_ (by decide) (by decide));refine W7 ?_ he rfl;rw [he];show wpAny _ _ (spliced ((false,eval e X.env) :: backTo j5 (starEach [] X.env))) _ _ s;refine X7 (thn (ha dz s σ H _ I h) λu s1 ⟨x,H1,I1,r1,n,e1,h1,q1⟩=>?_);subst e1;let ⟨tk,rfl⟩:=r1;refine X6 (call_range_1 (X6 ?_));have hs:Builtin.Range.rangeSize 0 (n:Int) 1=n:=by
  unfold Builtin.Range.rangeSize;simp only [show (1:Int) > 0 by decide,if_true]
  split <;> lia
 refine call_list_range (a:=0) (b:=(n:Int)) (c:=1) (n:=n) (I1.ok.hd hc) (IsRange.new _ _ _ _ _ _ _) ?_ hs "o" λh' tk' acc' c' hk hS hacc=>?_
 ·unfold Builtin.Range.small;rw [hs];have f:∀ z:Int,0<=z->z<=1000->Builtin.Range.rangeFitsLong z=true:=λz h0 h1=>by unfold Builtin.Range.rangeFitsLong;simp;lia
  rw [f 0 "o" "o",f (n:Int) "o" "o",f 1 "o" "o"];simp only [show (1:Int) > 0 by decide,if_true];rw [show ((n:Int) + (1 - 1))=(n:Int) by lia,f (n:Int) "o" "o"];simp
 have hp:s1.heap.objs.size<=(s1.heap.push { cls:=.type "range",data:=.fields #[.int 0 s1.toks,.int (n:Int) tk,.int 1 (s1.toks + 1)] }).objs.size:=by rw [Heap.size_push]; exact V5 _
 have hv:Xq ((range n).map λ(i:Nat)=>V.int (i:Int)) acc'.toList:=by
  have key:∀ (us:K5) (k:Nat),(∀ (i:Nat) u,us[i]? = some u->∃ t,u=Value.int ((k + i:Nat):Int) t)->Xq ((range' k us.length).map λ(i:Nat)=>V.int (i:Int)) us:=by
   intro us
   induction us with
   | nil=>intro k _; exact .nil
   | cons u r ih =>intro k h;let ⟨t,e⟩:=h 0 u rfl;refine .cons ⟨t,e⟩ (ih (k + 1) λi v hv=>?_);let ⟨t,e⟩:=h (i + 1) v (by simpa using hv);exact ⟨t,by rw [e]; congr 2; lia⟩
  have:=key acc'.toList 0 λi u hu=>by let ⟨t,e⟩:=hacc.2 i u (by simpa using hu);exact ⟨t,by rw [e]; congr 1; lia⟩
  rw [Array.length_toList,hacc.1,<- range_eq_range'] at this;exact this
 exact ⟨.ref _,_,I1.laid (t':=tk') (o:=.lst ((range n).map λ(i:Nat)=>V.int (i:Int))) (λb u z=>hk b u (N7 _ z)) hp ⟨by rw [length_map,length_range,sizeLine_eq]; lia,acc'.toList,c',hv,by rw [Array.toArray_toList]; exact hS⟩,rfl,q1 _ _ (Jn (I1.hok.fresh hp))⟩
def Qr2 (K:M7):V->List V->Hp->VK->Prop:=λx xs H Q => ∃ (a:G5) (ns:K3) (k:Int),x=.ref a/\xs=[.int k]/\H a=some (.lst (ns.map V.int))/\k∈ns/\Q (.int ((ns.idxOf k:Nat):Int)) H
theorem Qyx:MtR X "list.index" (Qr2 K):=by
 intro dz s σ H x xs v us Q I rx r h;let ⟨a,ns,k,rfl,rfl,ha,hm,q⟩:=h;cases rx;let ⟨u,rfl,t,rfl⟩:=Ts r;let ⟨z,its,n,rv,hl,e⟩:=I.lstM ha;have fu:its.length=ns.length:=by have:=rv.length; simpa using this.symm
 have hi:=A0q.mpr hm;have hia:=Sq rv;have item:∀ (j:Nat) (hj:j < ns.length),∃ t,its.toArray[j]'(by simp; lia)=Value.int ns[j] t:=λj hj=>by let ⟨u,hu,t,hut⟩:=rv.get (i:=j) (x:=.int ns[j]) (by simp [hj]);refine ⟨t,?_⟩;rw [<- hut];have:=(N5.mp hu).2;simpa using this
 refine call_meets PySem.F.slot_list_index ⟨_,e,rfl⟩ PySem.F.entry_list_index (PySem.F.args_list_index_2 _ _)
  (MeetsSeq.list_index a its.toArray n (.int k t) (Value.isInt k) (λy hy=>?_) (ns.idxOf k) (by simp; lia) (by rw [sizeLine_eq] at z; rw [length_map] at z; lia) ?_ λm hm2 hlt=>?_) ⟨e,?_⟩
 ·let ⟨b,t',rfl⟩:=hia.all y (by simpa using hy);exact MeetsSeq.EqGives.int b k t' t
 ·let ⟨t',h⟩:=item _ hi;rw [h,getElem_idxOf hi];simp [Value.isInt]
 ·let ⟨t',h⟩:=item m (by simp at hm2; lia);rw [h];have:=not_of_lt_findIdx (p:=(· == k)) (xs:=ns) (i:=m) hlt;simpa [Value.isInt] using this
 ·exact ⟨.int _,H,I.tok _,⟨_,rfl⟩,q⟩
end
def Qz5 {a D:G5} {rows:J5} {te:TE} {σf:St} {H1:Hp} {Q:VK} (hM:Mat H1 a rows) (hz:rows.length < sizeLine) (hD1:H1 D=none)
  (hs:∀ ra (row:K3) H (N:VK),H ra=some (.lst (row.map V.int))->(∀ l H',New H l (.lst (row.map V.int)) H'->N (.ref l) H')->te (some (.ref ra) :: σf) H N)
  (hd:∀ H,Qu H1 H->Mat H D rows->Q (.ref D) H):Wo (Itl K a) D (Jb 0) Qx0 te (none :: σf) (upd H1 D (.lst [])) Q:=by
 let ⟨ws,hw,hR⟩:=hM;have lw:(ws.map V.ref).length=rows.length:=by rw [length_map,hR.1]
 refine Xy (λi y H => ∃ l row,y=.ref l/\l≠D/\rows[i]? = some row/\H l=some (.lst (row.map V.int))) (SqL.of hw) (by rw [lw]; exact hz) hD1 (λi y H H' k ⟨l,row,e,ne,h1,h2⟩=>⟨l,row,e,ne,h1,k l _ ne h2⟩) ?_ ?_
 ·rintro i x H9 ys N hx s9 d9 hN;let ⟨ra,ha,rfl⟩:=Yw hx;have hi:i < rows.length:=by rw [<- hR.1]; exact (N5.mp ha).1
  have gm:rows[i]? = some rows[i]:=by simp [hi]
  exact hs ra _ H9 N (s9 _ _ (hR.2 i ra _ ha gm)) λl H4 n4=>hN _ _ n4.same ⟨l,_,rfl,(Qj d9 n4.none).symm,gm,n4.at_⟩
 rintro ys H9 s9 d9 l9 r9;let ⟨ws9,e9,p9⟩:=Um (P:=λi l => ∃ row,rows[i]? = some row/\H9 l=some (.lst (row.map V.int))) (λi y e=>by let ⟨l,row,h1,_,h2,h3⟩:=r9 i y e;exact ⟨l,h1,row,h2,h3⟩)
 subst e9;refine hd H9 s9 ⟨ws9,d9,by rw [length_map,lw] at l9; exact l9,λi a' row h1 h2=>?_⟩;let ⟨row',h3,h4⟩:=p9 i a' h1;rw [h3] at h2;cases h2;exact h4
def TCF (F:G5->Prop) (H:Hp) (mv:G5):Prop:=∃ ls:K6,H mv=some (.lst (ls.map V.ref))/\∀ a∈ls,F a
def Eb {ls ls':K6} (h:ls.map V.ref=ls'.map V.ref):ls=ls':=(List.map_inj_right (f:=V.ref) (λa b z=>V.ref.inj z)).mp h
def TCF.at_ {mv:G5} {ls:K6} (h:TCF F H mv) (e:H mv=some (.lst (ls.map V.ref))):∀ a∈ls,F a:=by let ⟨ls',e',p⟩:=h;rw [e] at e';have:=Eb (HO.lst.inj (Q9 e'));rw [this];exact p
def TCF.keep {mv:G5} (h:TCF F H mv) (k:∀ o,H mv=some o->H' mv=some o):TCF F H' mv:=by let ⟨ls',e',p⟩:=h;exact ⟨ls',k _ e',p⟩
def TCF.imp {G:G5->Prop} {mv:G5} (h:TCF F H mv) (k:∀ a,F a->G a):TCF G H mv:=by let ⟨ls',e',p⟩:=h;exact ⟨ls',e',λa ha=>k a (p a ha)⟩
def Uz (wo:Bool) (aj:J5) (way:K4) (ao:Int):Int:=if wo then wsum (wF aj) way - ao else ao
structure Oy (H:Hp) (cl:G5) (aq:List Hop) (n:Nat) (cs:List (List Hop)):Prop where
 ex:∃ ls:K6,H cl=some (.lst (ls.map V.ref))/\ls.length=n/\∀ (i:Nat) a c,ls[i]? = some a->cs[i]? = some c->Zw H a c
 len:cs.length=n
 ch:∀ i,i < n->∃ s,ChS aq s (cs.getD i []) i
def Oy.same {H H':Hp} {cl:G5} {aq:List Hop} {n:Nat} {cs:List (List Hop)} (h:Oy H cl aq n cs) (s:Qu H H'):Oy H' cl aq n cs:=by let ⟨ls,e1,e2,e3⟩:=h.ex;exact ⟨⟨ls,s _ _ e1,e2,λi a c h1 h2=>(e3 i a c h1 h2).same s⟩,h.len,h.ch⟩
def Ur.chs {t tl cl:G5} (g:Ur wo H t tl cl ak aj way aq st):Oy H cl aq aj.length st.2:=by let ⟨ls,c1,c2,c3,c4⟩:=g.tc.ex;refine ⟨⟨ls,c1,by rw [c2,g.ok.l2],c4⟩,g.ok.l2,λi hi=>?_⟩;let ⟨s,_,h,_⟩:=g.ok.at_ i hi;exact ⟨s,h⟩
theorem Pt {r:Nat}:(r:Int)∈wI way ↔ r∈way:=by
 constructor
 ·intro h;let ⟨k,hk,e⟩:=O3.mp h;have:k=r:=by have e':(k:Int)=(r:Int):=e;lia
  exact this ▸ hk
 ·exact λh=>O3.mpr ⟨r,h,rfl⟩
theorem En (r:Nat):∀ way:K4,(wI way).idxOf (r:Int)=way.idxOf r
 | []=>rfl
 | a :: l=>by
  have ih:=En r l;unfold wI at ih ⊢;rw [map_cons,idxOf_cons,idxOf_cons,ih]
  by_cases h:a=r
  ·subst h;simp
  ·have h1:((a:Int) == (r:Int))=false:=by
    have:¬ (a:Int)=(r:Int):=by lia
    exact A0j.mpr this
   have h2:(a == r)=false:=by simpa using h
   rw [show ((λx:Nat=>(x:Int)) a == (r:Int))=false from h1,h2]
def Xd (wo:Bool) (aj:J5) (way:K4) (lv:K3) (parts:Int) (i:Nat):Int:=if wo then parts * Zh aj way i - lv.getD i 0 else lv.getD i 0
def Xz (wo:Bool) (aj:J5) (way:K4) (lv:K3) (parts:Int):K3:=(range aj.length).map (Xd wo aj way lv parts)
def Yv (z:Int) (ns:K3):Prop:=z∈ns/\∀ y∈ns,z<=y
theorem Yv.eq {z y:Int} {ns:K3} (h1:Yv z ns) (h2:Yv y ns):z=y:=by have a:=h1.2 y h2.1;have b:=h2.2 z h1.1;lia
def Rw (way:K4) (cs:K3) (r:Nat) (z:Int):Prop:=if r∈way then z=cs.getD (way.idxOf r) 0 else Yv z cs
def Vz (ak:K3) (way:K4) (cs rows:K3):Prop:=rows.length=ak.length/\∀ (r:Nat) z,rows[r]? = some z->Rw way cs r z
def On (K:M7):Sp:=λvs H Q _ => ∃ (parts:Int) (r:G5) (rows:K3),vs=[.int parts,.ref r]/\SqL K H r (rows.map V.int)/\rows.length<=1000/\0 < parts/\parts < 10 ^ 100 /\
 ∀ (t l:G5) (H':Hp),H l=none->Qu H H'->H' t=some (.tup [.int (parts / ((bx parts.natAbs rows:Nat):Int)),.ref l])->H' l=some (.lst ((rows.map λx=>x / ((bx parts.natAbs rows:Nat):Int)).map V.int))->Q (.ref t) H'
def lvL (wo:Bool) (aj:J5) (way:K4) (ao:Int) (gs:K3):K3:=gs.map λg=>(Uz wo aj way ao - gs.sum) + (aj.length:Int) * g
structure Ow (wo:Bool) (H:Hp) (t tp rl cl:G5) (ak:K3) (aj:J5) (ao:Int) (way:K4) (aq:List Hop) (st:TC) (rows:K3):Prop where
 tup:H t=some (.tup [.ref tp,.ref cl])
 pr:H tp=some (.tup [.int ((aj.length:Int) / ((bx aj.length rows:Nat):Int)),.ref rl])
 rl_:H rl=some (.lst ((rows.map λx=>x / ((bx aj.length rows:Nat):Int)).map V.int))
 isr:Vz ak way (Xz wo aj way (lvL wo aj way ao st.1) (aj.length:Int)) rows
 chs:Oy H cl aq aj.length st.2
 good:Xs wo ak aj way aq
 ok:OkC aq (gnF wo aj way) aj.length st
 nn:∀ b,b < aj.length->0<=st.1.getD b 0
 cl_:∀ a b r:Nat,a < aj.length->b < aj.length->a≠b->(r:Int)∈Zm wo ak way a b->st.1.getD a 0 + Zn wo aj way a r b<=st.1.getD b 0
 cb:∀ c∈st.2,c.length<=5000
def Qjk {hs:List Hop} {gn:Hop->Int} {n:Nat} (h:OkC hs gn n st):(st.2.map (wt gn))=st.1:=by
 refine U7 (by simp [h.l1,h.l2]) λi a b=>?_;have hi:i < n:=by rw [<- h.l1]; exact b
 have h2:i < st.2.length:=by rw [h.l2]; exact hi
 let ⟨s,_,_,e⟩:=h.at_ i hi;have e1:st.2.getD i []=st.2[i]:=by simp [getD,h2]
 have e2:st.1.getD i 0=st.1[i]:=by simp [getD,b]
 rw [e1,e2] at e;simpa using e
def Qx7 (hx:∀ row∈aj,∀ x∈row,-(10 ^ 42) < x/\x < 10 ^ 42) (i r:Nat):-(10 ^ 42) < wF aj i r/\wF aj i r < 10 ^ 42:=by
 have z:-(10 ^ 42) < (0:Int)/\(0:Int) < 10 ^ 42:=by decide
 unfold wF
 by_cases h:i < aj.length
 ·have e1:aj.getD i []=aj[i]:=by simp [getD,h]
  rw [e1]
  by_cases h2:r < (aj[i]).length
  ·have e2:(aj[i]).getD r 0=(aj[i])[r]:=by simp [getD,h2]
   rw [e2];exact hx _ (M9 h) _ (M9 h2)
  ·have e2:(aj[i]).getD r 0=0:=by simp [getD,h2]
   rw [e2];exact z
 ·have e1:aj.getD i []=[]:=by simp [getD,h]
  rw [e1];exact z
theorem Qd8 (hx:∀ row∈aj,∀ x∈row,-(10 ^ 42) < x/\x < 10 ^ 42) (wo:Bool) (way:K4) (m:Hop):-(2 * 10 ^ 42)<=gnF wo aj way m/\gnF wo aj way m<=2 * 10 ^ 42:=by unfold gnF Zn Zh;have a:=Qx7 hx (if wo then m.2.2 else m.1) m.2.1;have b:=Qx7 hx m.1 (way.getD m.1 0);lia
theorem Qc8 {gn:Hop->Int} {B:Int} (h:∀ m,-B<=gn m/\gn m<=B):∀ c:List Hop,-(c.length * B)<=wt gn c/\wt gn c<=c.length * B
 | []=>by simp [wt]
 | m :: c=>by
  have ih:=Qc8 h c;have hm:=h m;have e:wt gn (m :: c)=gn m + wt gn c:=by simp [wt]
  rw [e,length_cons,show ((c.length + 1:Nat):Int) * B=c.length * B + B by rw [Int.natCast_add,Int.add_mul]; simp];lia
theorem Ea (hx:∀ row∈aj,∀ x∈row,-(10 ^ 42) < x/\x < 10 ^ 42) (ok:OkC aq (gnF wo aj way) aj.length st) (cb:∀ c∈st.2,c.length<=5000):∀ z∈st.1,-(10 ^ 46)<=z/\z<=10 ^ 46:=λz hz=>by
 rw [<- Qjk ok] at hz;let ⟨c,hc,rfl⟩:=O3.mp hz;have h:=Qc8 (Qd8 hx wo way) c;have hl:=cb c hc;have:(c.length:Int) * (2 * 10 ^ 42)<=5000 * (2 * 10 ^ 42):=U0 "o" (by decide);have e:(5000:Int) * (2 * 10 ^ 42)=10 ^ 46:=by decide
 lia
def getD_get {α:Type} {d:α} (l:List α) (i:Nat) (h:i < l.length):l.getD i d=l[i]:=by simp [getD,h]
def Ps (wo:Bool) (ak:K3) (aj:J5) (way:K4) (gs:K3):Prop:=∀ a b r:Nat,a < aj.length->b < aj.length->a≠b->(r:Int)∈Zm wo ak way a b->gs.getD a 0 + Zn wo aj way a r b<=gs.getD b 0
def Vb (wo:Bool) (ak:K3) (way:K4) (a b:Nat):((way.getD (if wo then a else b) 0:Nat):Int)∈Zm wo ak way a b:=by unfold Zm;exact P0 _ (by simp)
def Qxq {i:Nat} (h:i < gs.length):(lvL wo aj way ao gs).getD i 0=(Uz wo aj way ao - gs.sum) + (aj.length:Int) * gs.getD i 0:=by unfold lvL;simp [getD,h]
theorem Qg4 (lg:gs.length=aj.length) (hc:Ps wo ak aj way gs) (ha:a < aj.length) (hb:b < aj.length) (h:way.getD a 0=way.getD b 0) :
  Xd wo aj way (lvL wo aj way ao gs) (aj.length:Int) a=Xd wo aj way (lvL wo aj way ao gs) (aj.length:Int) b:=by
 by_cases e:a=b
 ·rw [e]
 have h1:=hc a b _ ha hb e (Vb wo ak way a b);have h2:=hc b a _ hb ha (Ne.symm e) (Vb wo ak way b a);unfold Xd;rw [Qxq "o",Qxq "o"];cases wo with
 | true =>
  simp only [if_pos,Zn] at h1 h2 ⊢;have e1:wF aj b (way.getD a 0)=Zh aj way b:=by rw [h]; rfl
  have e2:wF aj a (way.getD b 0)=Zh aj way a:=by rw [<- h]; rfl
  rw [e1] at h1;rw [e2] at h2;have e3:Zh aj way a - gs.getD a 0=Zh aj way b - gs.getD b 0:=by lia
  have e4:(aj.length:Int) * Zh aj way a - (aj.length:Int) * gs.getD a 0=(aj.length:Int) * Zh aj way b - (aj.length:Int) * gs.getD b 0:=by rw [<- Int.mul_sub,<- Int.mul_sub,e3]
  lia
 | false =>
  simp only [Bool.false_eq_true,if_false,Zn] at h1 h2 ⊢;have e1:wF aj a (way.getD b 0)=Zh aj way a:=by rw [<- h]; rfl
  have e2:wF aj b (way.getD a 0)=Zh aj way b:=by rw [h]; rfl
  rw [e1] at h1;rw [e2] at h2;have e3:gs.getD a 0=gs.getD b 0:=by lia
  rw [e3]
theorem Wl (n:Int) (f g:Nat->Int):∀ l:K4,(l.map λi=>n * f i - g i).sum=n * (l.map f).sum - (l.map g).sum
 | []=>by simp
 | a :: l=>by simp only [map_cons,sum_cons,Wl n f g l,Int.mul_add];lia
theorem Qa1 (L n:Int) (gs:K3):(gs.map λg=>L + n * g).sum=gs.length * L + n * gs.sum:=by
 induction gs with
 | nil=>simp
 | cons a l ih =>simp only [map_cons,sum_cons,ih,Int.mul_add,length_cons,Int.natCast_add,Int.add_mul];simp;lia
def range_getD:∀ (gs:K3),((range gs.length).map λi=>gs.getD i 0)=gs:=λgs=>by refine U7 (by simp) λi a b=>?_;simp [getD,b]
theorem Qp7 (lg:gs.length=aj.length) (lw:way.length=aj.length) :
  (Xz wo aj way (lvL wo aj way ao gs) (aj.length:Int)).sum=aj.length * ao:=by
 have hl:(lvL wo aj way ao gs).length=aj.length:=by simp [lvL,lg]
 have h2:((range aj.length).map λi=>(lvL wo aj way ao gs).getD i 0)=lvL wo aj way ao gs:=by rw [<- hl]; exact range_getD _
 have h3:(lvL wo aj way ao gs).sum=aj.length * Uz wo aj way ao:=by
  unfold lvL;rw [Qa1,lg,<- Int.mul_add]
  congr 1
  lia
 unfold Xz;cases wo with
 | true =>
  have e:((range aj.length).map (Xd true aj way (lvL true aj way ao gs) (aj.length:Int)))=(range aj.length).map λi=>(aj.length:Int) * Zh aj way i - (lvL true aj way ao gs).getD i 0:=R6 λi _=>by simp [Xd]
  rw [e,Wl,h2,h3];have ew:((range aj.length).map (Zh aj way)).sum=wsum (wF aj) way:=by unfold wsum;rw [lw];rfl
  rw [ew];unfold Uz;rw [if_pos rfl,<- Int.mul_sub]
  congr 1
  lia
 | false =>
  have e:((range aj.length).map (Xd false aj way (lvL false aj way ao gs) (aj.length:Int)))=(range aj.length).map λi=>(lvL false aj way ao gs).getD i 0:=R6 λi _=>by simp [Xd]
  rw [e,h2,h3];rfl
theorem Ww (lg:gs.length=aj.length) (lw:way.length=aj.length) (lt:∀ r∈way,r < ak.length) (hc:Ps wo ak aj way gs)
  (h:Vz ak way (Xz wo aj way (lvL wo aj way ao gs) (aj.length:Int)) rows) {p:Nat} (hp:p < aj.length):rows.getD (way.getD p 0) 0=Xd wo aj way (lvL wo aj way ao gs) (aj.length:Int) p:=by
 have hp':p < way.length:=by lia
 have e0:way.getD p 0=way[p]:=getD_get _ _ hp';have hm:way.getD p 0∈way:=by rw [e0]; exact M9 hp'
 generalize hr0:way.getD p 0=r at *;have hr2:r < rows.length:=by rw [h.1]; exact lt _ hm
 have h2:=h.2 r (rows[r]'hr2) (R3 hr2);unfold Rw at h2;rw [if_pos hm] at h2;have hi:way.idxOf r < way.length:=A0q.mpr hm;have hg:way.getD (way.idxOf r) 0=r:=by rw [getD_get _ _ hi]; exact getElem_idxOf hi
 rw [getD_get _ _ hr2,h2];have hi2:way.idxOf r < aj.length:=by lia
 have lc:(Xz wo aj way (lvL wo aj way ao gs) (aj.length:Int)).length=aj.length:=by simp [Xz]
 rw [getD_get _ _ (by rw [lc]; exact hi2)];have e2:∀ (k:Nat) (hk:k < (Xz wo aj way (lvL wo aj way ao gs) (aj.length:Int)).length),(Xz wo aj way (lvL wo aj way ao gs) (aj.length:Int))[k]=Xd wo aj way (lvL wo aj way ao gs) (aj.length:Int) k:=λk hk=>by simp [Xz]
 rw [e2];exact Qg4 lg hc hi2 hp (by rw [hg,hr0])
def Gw {r:Nat} (h:(r:Int)∈Yu ak (wI way)):(r:Int)∈Zm wo ak way a b:=R5 _ h
section
theorem Gf (lg:gs.length=aj.length) (hc:Ps wo ak aj way gs) {i c r:Nat} (hi:i < aj.length) (hcn:c < aj.length) (hr:r=way.getD c 0\/(r:Int)∈Yu ak (wI way)) (hown:i=c->wF aj i r<=Zh aj way i) :
  (aj.length:Int) * wF aj i r - Xd wo aj way (lvL wo aj way ao gs) (aj.length:Int) c<=(aj.length:Int) * Zh aj way i - Xd wo aj way (lvL wo aj way ao gs) (aj.length:Int) i:=by
 have n0:(0:Int)<=(aj.length:Int):=by lia
 by_cases e:i=c
 ·have h1:=T9 (hown e) n0;subst e;lia
 unfold Xd;rw [Qxq "o",Qxq "o"];cases wo with
 | true =>
  have hm:(r:Int)∈Zm true ak way c i:=by
   rcases hr with h | h
   ·rw [h]; exact Vb true ak way c i
   ·exact Gw h
  have h1:=hc c i r hcn hi (Ne.symm e) hm;simp only [if_pos,Zn] at h1 ⊢;have h2:wF aj i r - Zh aj way c + gs.getD c 0<=gs.getD i 0:=by lia
  have h3:=T9 h2 n0;rw [Int.mul_add,Int.mul_sub] at h3;lia
 | false =>
  have hm:(r:Int)∈Zm false ak way i c:=by
   rcases hr with h | h
   ·rw [h]; exact Vb false ak way i c
   ·exact Gw h
  have h1:=hc i c r hi hcn e hm;simp only [Bool.false_eq_true,if_false,Zn] at h1 ⊢;have h2:wF aj i r - Zh aj way i + gs.getD i 0<=gs.getD c 0:=by lia
  have h3:=T9 h2 n0;rw [Int.mul_add,Int.mul_sub] at h3;lia
theorem Qq6 (lg:gs.length=aj.length) (hc:Ps wo ak aj way gs) {c:Nat} (hb:b < aj.length) (hcn:c < aj.length) (ho:((way.getD b 0:Nat):Int)∈Yu ak (wI way)) :
  Xd wo aj way (lvL wo aj way ao gs) (aj.length:Int) b<=Xd wo aj way (lvL wo aj way ao gs) (aj.length:Int) c:=by
 have h:=Gf (ao:=ao) lg hc (i:=b) (c:=c) (r:=way.getD b 0) hb hcn (.inr ho) (λ_=>Q6 _);have e:wF aj b (way.getD b 0)=Zh aj way b:=rfl;rw [e] at h;lia
end
theorem Em (ok:Qn ak aj way) (f9:Fit (bF ak) way) (fj:Opt ak aj way) {i r:Nat} (hi:i < aj.length) (hr:r < ak.length) (ho:way.count r < bF ak r):wF aj i r<=Zh aj way i:=by
 let ⟨g,g1,g2,g3⟩:=Eh (Bm ak) f9 fj;have hi':i < way.length:=by rw [ok.len]; exact hi
 have h1:=g1 i hi' r hr;have h2:=g2 way[i];have h3:=g3 r ho;have e:Zh aj way i=wF aj i way[i]:=by unfold Zh; rw [getD_get _ _ hi']
 rw [e];lia
def Kh {r:Nat} (hr:r < ak.length) (ho:way.count r < bF ak r):(r:Int)∈Yu ak (wI way):=Jp.mpr ⟨r,rfl,hr,ho⟩
def Qbx {r:Nat} (h:r∈way):∃ c,c < way.length/\way.getD c 0=r:=by have hi:way.idxOf r < way.length:=A0q.mpr h;exact ⟨_,hi,by rw [getD_get _ _ hi]; exact getElem_idxOf hi⟩
def Dw {p:Nat} (h:p < way.length):way.getD p 0∈way:=by rw [getD_get _ _ h]; exact M9 h
section
def Iu {c:Int} (h:c∈Xz wo aj way (lvL wo aj way ao gs) (aj.length:Int)):∃ p,p < aj.length/\c=Xd wo aj way (lvL wo aj way ao gs) (aj.length:Int) p:=by let ⟨p,hp,rfl⟩:=O3.mp h;exact ⟨p,N8.mp hp,rfl⟩
def El {p:Nat} (h:p < aj.length):Xd wo aj way (lvL wo aj way ao gs) (aj.length:Int) p∈Xz wo aj way (lvL wo aj way ao gs) (aj.length:Int):=O3.mpr ⟨p,N8.mpr h,rfl⟩
def Px (h:Vz ak way (Xz wo aj way (lvL wo aj way ao gs) (aj.length:Int)) rows) {r:Nat} (hr:r < ak.length) (hw:r ∉ way):Yv (rows.getD r 0) (Xz wo aj way (lvL wo aj way ao gs) (aj.length:Int)):=by
 have hr2:r < rows.length:=by rw [h.1]; exact hr
 have h2:=h.2 r (rows[r]'hr2) (R3 hr2);unfold Rw at h2;rw [if_neg hw] at h2;rw [getD_get _ _ hr2];exact h2
theorem So (ok:Qn ak aj way) (f9:Fit (bF ak) way) (fj:Opt ak aj way) (hb1:∀ b∈ak,1<=b) (lg:gs.length=aj.length) (hc:Ps wo ak aj way gs) (h:Vz ak way (Xz wo aj way (lvL wo aj way ao gs) (aj.length:Int)) rows) {i r:Nat} (hi:i < aj.length) (hr:r < ak.length) :
  (aj.length:Int) * wF aj i r - rows.getD r 0<=(aj.length:Int) * wF aj i (way.getD i 0) - rows.getD (way.getD i 0) 0:=by
 rw [Ww lg ok.len ok.lt hc h hi];have lw:=ok.len
 by_cases hw:r∈way
 ·let ⟨c,hc1,hc2⟩:=Qbx hw;have e:=Ww (ao:=ao) lg ok.len ok.lt hc h (p:=c) "o";rw [hc2] at e;rw [e];refine Gf (ao:=ao) lg hc hi (c:=c) (r:=r) "o" (.inl hc2.symm) λz=>?_;subst z;rw [<- hc2];exact Q6 _
 ·let ⟨h1,h2⟩:=Px h hr hw;let ⟨c,hc1,hc2⟩:=Iu h1;have ho:way.count r < bF ak r:=by rw [count_eq_zero.mpr hw];have:=hb1 (ak[r]) (M9 hr);unfold bF;rw [getD_get _ _ hr];lia
  rw [hc2];exact Gf (ao:=ao) lg hc hi (c:=c) (r:=r) hc1 (.inr (Kh hr ho)) λ_=>Em ok f9 fj hi hr ho
theorem Aq (ok:Qn ak aj way) (lg:gs.length=aj.length) (hc:Ps wo ak aj way gs) (h:Vz ak way (Xz wo aj way (lvL wo aj way ao gs) (aj.length:Int)) rows) {r q:Nat} (hr:r < ak.length) (ho:way.count r < bF ak r) (hq:q∈way):rows.getD r 0<=rows.getD q 0:=by
 have lw:=ok.len;let ⟨c,hc1,hc2⟩:=Qbx hq;have e:=Ww (ao:=ao) lg ok.len ok.lt hc h (p:=c) "o";rw [hc2] at e;rw [e]
 by_cases hw:r∈way
 ·let ⟨b,hb1,hb2⟩:=Qbx hw;have e2:=Ww (ao:=ao) lg ok.len ok.lt hc h (p:=b) "o";rw [hb2] at e2;rw [e2];refine Qq6 (ao:=ao) lg hc "o" "o" ?_;rw [hb2];exact Kh hr ho
 ·exact (Px h hr hw).2 _ (El "o")
def Qf8 (ok:Qn ak aj way) (lg:gs.length=aj.length) (hc:Ps wo ak aj way gs) (h:Vz ak way (Xz wo aj way (lvL wo aj way ao gs) (aj.length:Int)) rows):(way.map λr=>rows.getD r 0).sum=aj.length * ao:=by
 rw [<- Qp7 (wo:=wo) (ao:=ao) lg ok.len]
 congr 1
 refine U7 (by simp [Xz,ok.len]) λp a b=>?_;have hp:p < way.length:=by simpa using a
 have e:=Ww (ao:=ao) lg ok.len ok.lt hc h (p:=p) (by rw [<- ok.len]; exact hp);rw [getD_get _ _ hp] at e;simp only [getElem_map,Xz,getElem_range];exact e
end
structure Low (n:Int) (rows:K3) (d:Int) (k:Int) (R:K3):Prop where
 d0:0 < d
 n_:n=d * k
 len:R.length=rows.length
 at_:∀ r,rows.getD r 0=d * R.getD r 0
theorem Qd6 {n:Nat} (h:0 < n):Low n rows ((bx n rows:Nat):Int) ((n:Int) / ((bx n rows:Nat):Int)) (rows.map λx=>x / ((bx n rows:Nat):Int)):=by
 have hd0:0 < bx n rows:=Kc _ _ h;have hdn:((bx n rows:Nat):Int) ∣ (n:Int):=Int.ofNat_dvd.mpr (Zi _ _);have hdr:∀ x∈rows,((bx n rows:Nat):Int) ∣ x:=λx hx=>Int.ofNat_dvd_left.mpr (Uk rows _ x hx);refine ⟨"o",(Int.mul_ediv_cancel' hdn).symm,by simp,λr=>?_⟩
 by_cases hr:r < rows.length
 ·rw [getD_get _ _ hr,getD_get _ _ (by simpa using hr),getElem_map];exact (Int.mul_ediv_cancel' (hdr _ (M9 hr))).symm
 ·have e1:rows.getD r 0=0:=by simp [getD,hr]
  have e2:(rows.map λx=>x / ((bx n rows:Nat):Int)).getD r 0=0:=by simp [getD,hr]
  rw [e1,e2,Int.mul_zero]
theorem Low.sum (h:Low n rows d k R) (way:K4):(way.map λr=>rows.getD r 0).sum=d * (way.map λr=>R.getD r 0).sum:=by
 induction way with
 | nil=>simp
 | cons a l ih=>simp only [map_cons,sum_cons,ih,h.at_ a,Int.mul_add]
def Ow.low {t tp rl cl:G5} (_:Ow wo H t tp rl cl ak aj ao way aq st rows) (l0:0 < aj.length):Low aj.length rows ((bx aj.length rows:Nat):Int) ((aj.length:Int) / ((bx aj.length rows:Nat):Int)) (rows.map λx=>x / ((bx aj.length rows:Nat):Int)):=Qd6 l0
theorem Qm4 (ok:Qn ak aj way) (f9:Fit (bF ak) way) (lr:rows.length=ak.length) (hx:∀ row∈aj,∀ x∈row,-(10 ^ 42) < x/\x < 10 ^ 42) (hre:-(10 ^ 42) < ao/\ao < 10 ^ 42) (l0:0 < aj.length) (low:Low aj.length rows d k R):Qbk ⟨ak,aj,ao,way,k,R⟩:=by
 have k1:0 < k/\k<=10:=by
  have h1:=low.n_;have h2:=low.d0;have h3:=ok.bok.w1
  constructor
  ·refine R4 λz=>?_;have:=A0r (show 0<=d by lia) (show 0<=-k by lia);rw [Int.mul_neg] at this;lia
  ·refine R4 λz=>?_;have:=U0 (show 1<=d by lia) (show 0<=k by lia);lia
 have e:(10:Int) ^ 42 < 10 ^ 100:=by decide
 refine ⟨ok.bok.b1,ok.bok.w1,ok.bok.rows,by show R.length=ak.length; rw [low.len,lr],ok.len,f9,?_,?_,λrow hr x hxr=>?_⟩
 ·show -(10 ^ 100) < k/\k < 10 ^ 100;lia
 ·show -(10 ^ 100) < ao/\ao < 10 ^ 100;lia
 ·have:=hx row hr x hxr;lia
theorem Qhq (f:Nat->Int):∀ u:K4,0 < u.length->∃ m∈u,∀ q∈u,f m<=f q:=by
 intro u
 induction u with
 | nil=>intro h; simp at h
 | cons x u ih =>
  intro _;cases u with
  | nil=>exact ⟨x,by simp,λq hq=>by simp at hq; rw [hq]; exact Q6 _⟩
  | cons y u =>
   let ⟨m,h1,h2⟩:=ih (by simp)
   by_cases hxm:f x<=f m
   ·refine ⟨x,by simp,λq hq=>?_⟩;rcases Q8.mp hq with z | z
    ·rw [z]; exact Q6 _
    ·exact T6 hxm (h2 q z)
   ·refine ⟨m,Q0 _ h1,λq hq=>?_⟩;rcases Q8.mp hq with z | z
    ·rw [z]; lia
    ·exact h2 q z
theorem Ik {F:Fp} (hp:0 < F.parts) (w1:0 < F.aj.length) (l:F.way.length=F.aj.length) (fit:Fit (bF F.ak) F.way) (fair:F.is .none) (hl:v.length=F.aj.length) (hf:Fit (bF F.ak) v) :
  wsum (wF F.aj) v<=wsum (wF F.aj) F.way/\(wsum (wF F.aj) v=wsum (wF F.aj) F.way->Fp.is { F with way:=v } .none/\∀ i,i < F.aj.length->F.share i (v.getD i 0)=F.share i (F.way.getD i 0)):=by
 let ⟨sm,ne,nd⟩:=fair;have hvl:=Jz hf;have hwl:=Jz fit;have hat:∀ (u:K4),u.length=F.aj.length->(∀ r∈u,r < F.ak.length)->∀ i,i < F.aj.length->u.getD i 0 < F.ak.length:=λu hu hr i hi=>hr _ (Dw "o");have hS:∀ i,i < F.aj.length->F.share i (v.getD i 0)<=F.share i (F.way.getD i 0):=λi hi=>by have:=ne i (v.getD i 0) hi (hat v hl hvl i hi);unfold Fp.envies at this;lia
 have hw:∀ u:K4,u.length=F.aj.length->F.parts * wsum (wF F.aj) u=((range F.aj.length).map λi=>F.share i (u.getD i 0)).sum + (u.map λr=>F.rows.getD r 0).sum:=λu hu=>by
  rw [map_range (α:=Nat) u,<- hu,<- Kp];unfold wsum;have e0:=Wl F.parts (λi=>wF F.aj i (u.getD i 0)) (λ_=>0) (range u.length);have e1:((range u.length).map λi=>F.parts * wF F.aj i (u.getD i 0) - (λ_=>(0:Int)) i).sum=((range u.length).map λi=>F.share i (u.getD i 0) + F.rows.getD (u.getD i 0) 0).sum:=by
   congr 1
   refine R6 λi _=>?_;show F.parts * wF F.aj i (u.getD i 0) - 0=F.parts * wF F.aj i (u.getD i 0) - F.rows.getD (u.getD i 0) 0 + F.rows.getD (u.getD i 0) 0;lia
  have e2:((range u.length).map λ_=>(0:Int)).sum=0:=by
   generalize u.length=n
   induction n with
   | zero=>simp
   | succ n ih=>rw [range_succ,map_append,sum_append,ih]; simp
  rw [<- e1,e0,e2];lia
 obtain ⟨c,hc1,hc2⟩:∃ c:Int,(∀ r,r < F.ak.length->F.open_ r->F.rows.getD r 0<=c)/\∀ q,q < F.ak.length->F.taken q->c<=F.rows.getD q 0:=by
  have hne:0 < F.way.length:=by lia
  let ⟨m,hm1,hm2⟩:=Qhq (λr=>F.rows.getD r 0) F.way hne;refine ⟨F.rows.getD m 0,λr hr ho=>?_,λq hq ht=>hm2 q (V8.mp ht)⟩;have:=nd r m hr (hwl m hm1);unfold Fp.dear at this;refine R4 λz=>this ⟨ho,V8.mpr hm1,"o"⟩
 have hterm:∀ r,r < F.ak.length->(F.rows.getD r 0 - c) * ((v.count r:Nat):Int)<=(F.rows.getD r 0 - c) * ((F.way.count r:Nat):Int):=λr hr=>Qeq (λhd=>by
   have h1:¬ F.open_ r:=λho=>by have:=hc1 r hr ho; lia
   unfold Fp.open_ at h1;have:=hf r;lia) (λhd=>by
   have h1:¬ F.taken r:=λht=>by have:=hc2 r hr ht; lia
   unfold Fp.taken at h1;lia)
 have hP:∀ u:K4,u.length=F.aj.length->(∀ r∈u,r < F.ak.length)->(u.map λr=>F.rows.getD r 0).sum=((range F.ak.length).map λr=>(F.rows.getD r 0 - c) * ((u.count r:Nat):Int)).sum + c * F.aj.length:=λu hu hr=>by rw [<- Id _ _ u hr,Qt7,hu];lia
 have hPle:=Ta F.ak.length hterm;have hSle:=Ta F.aj.length hS;have e1:=hw v hl;have e2:=hw F.way l;have e3:=hP v hl hvl;have e4:=hP F.way l hwl;refine ⟨A0s "o" hp,λhe=>?_⟩;rw [he] at e1;have hSe:=Nf F.aj.length hS "o";have hPe:=Nf F.ak.length hterm "o";refine ⟨⟨?_,λi r hi hr he'=>?_,λr q hr hq hd=>?_⟩,hSe⟩
 ·unfold Fp.sumOk at sm ⊢;show (v.map λr=>F.rows.getD r 0).sum=F.parts * F.ao;rw [<- sm];lia
 ·have h1:=ne i r hi hr;have h2:=hSe i hi;unfold Fp.envies at h1 he';have h3:F.share i (v.getD i 0) < F.share i r:=he';lia
 ·let ⟨d1,d2,d3⟩:=hd;have d1':v.count r < bF F.ak r:=d1;have d2':0 < v.count q:=d2;have d3':F.rows.getD q 0 < F.rows.getD r 0:=d3;have hr':F.rows.getD r 0<=c:=by
   refine R4 λz=>?_;have h1:¬ F.open_ r:=λho=>by have:=hc1 r hr ho; lia
   have h2:=Da (hPe r hr) "o";unfold Fp.open_ at h1;lia
  have hq':c<=F.rows.getD q 0:=by
   refine R4 λz=>?_;have h1:¬ F.taken q:=λht=>by have:=hc2 q hq ht; lia
   have h2:=Da (hPe q hq) "o";unfold Fp.taken at h1;lia
  lia
def Wd (wo:Bool) (aj:J5) (way:K4) (n:Int) (rows:K3) (i:Nat):Int:=if wo then n * Zh aj way i - rows.getD (way.getD i 0) 0 else rows.getD (way.getD i 0) 0
section
theorem Qv5 (ok:Qn ak aj way) (fair:Fp.is ⟨ak,aj,ao,way,n,rows⟩ .none) {r:Nat} (ha:a < aj.length) (hb:b < aj.length) (hr:r < ak.length) (hm:(r:Int)∈Zm wo ak way a b):Wd wo aj way n rows a + n * Zn wo aj way a r b<=Wd wo aj way n rows b:=by
 let ⟨_,ne,nd⟩:=fair;have lw:=ok.len;have key:∀ x,x < aj.length->(r=way.getD x 0\/(r:Int)∈Yu ak (wI way))->rows.getD r 0<=rows.getD (way.getD x 0) 0:=λx hx h=>by
  rcases h with h | h
  ·rw [h]; exact Q6 _
  ·let ⟨r',e1,_,e2⟩:=Jp.mp h;have e3:r'=r:=by lia
   subst e3;have g8:=Dw (way:=way) (p:=x) "o";have:=nd r' (way.getD x 0) hr (ok.lt _ g8);refine R4 λz=>this ⟨e2,V8.mpr g8,?_⟩;show rows.getD (way.getD x 0) 0 < rows.getD r' 0;lia
 have g8:∀ x,((r:Int)∈Yu ak (wI way) ++ [((way.getD x 0:Nat):Int)])->r=way.getD x 0\/(r:Int)∈Yu ak (wI way):=λx h=>by
  rcases O5.mp h with e | e
  ·exact .inr e
  ·have:(r:Int)=((way.getD x 0:Nat):Int):=by simpa using e
   exact .inl "o"
 cases wo with
 | true =>have h1:=key a ha (g8 a hm);have h2:=ne b r hb hr;have h3:¬ (n * wF aj b (way.getD b 0) - rows.getD (way.getD b 0) 0 < n * wF aj b r - rows.getD r 0):=h2;show n * Zh aj way a - rows.getD (way.getD a 0) 0 + n * (wF aj b r - Zh aj way a)<=n * wF aj b (way.getD b 0) - rows.getD (way.getD b 0) 0;rw [Int.mul_sub];lia
 | false =>have h1:=key b hb (g8 b hm);have h2:=ne a r ha hr;have h3:¬ (n * wF aj a (way.getD a 0) - rows.getD (way.getD a 0) 0 < n * wF aj a r - rows.getD r 0):=h2;show rows.getD (way.getD a 0) 0 + n * (wF aj a r - wF aj a (way.getD a 0))<=rows.getD (way.getD b 0) 0;rw [Int.mul_sub];lia
theorem Qiq (n:Int) (gn:Hop->Int) (c:List Hop):wt (λm=>n * gn m) c=n * wt gn c:=by
 unfold wt
 induction c with
 | nil=>simp
 | cons a l ih=>simp only [map_cons,sum_cons,ih,Int.mul_add]
theorem Qv4 (ok:Qn ak aj way) (fair:Fp.is ⟨ak,aj,ao,way,n,rows⟩ .none):((range aj.length).map (Wd wo aj way n rows)).sum=n * Uz wo aj way ao:=by
 have sm:(way.map λr=>rows.getD r 0).sum=n * ao:=fair.1;rw [map_range (α:=Nat) way,ok.len] at sm;cases wo with
 | true =>
  have e:((range aj.length).map (Wd true aj way n rows))=(range aj.length).map λi=>n * Zh aj way i - rows.getD (way.getD i 0) 0:=R6 λi _=>by simp [Wd]
  have ew:((range aj.length).map (Zh aj way)).sum=wsum (wF aj) way:=by unfold wsum;rw [ok.len];rfl
  rw [e,Wl n (Zh aj way) (λi=>rows.getD (way.getD i 0) 0),sm,ew];show n * wsum (wF aj) way - n * ao=n * (wsum (wF aj) way - ao);rw [Int.mul_sub]
 | false =>
  have e:((range aj.length).map (Wd false aj way n rows))=(range aj.length).map λi=>rows.getD (way.getD i 0) 0:=R6 λi _=>by simp [Wd]
  rw [e,sm];rfl
end
structure Qx5 (wo:Bool) (ak:K3) (aj:J5) (ao:Int) (way:K4) (aq:List Hop) (st:TC) (rows:K3):Prop where
 isr:Vz ak way (Xz wo aj way (lvL wo aj way ao st.1) (aj.length:Int)) rows
 good:Xs wo ak aj way aq
 ok:OkC aq (gnF wo aj way) aj.length st
 nn:∀ b,b < aj.length->0<=st.1.getD b 0
 cl_:Ps wo ak aj way st.1
def Ow.r {t tp rl cl:G5} (g:Ow wo H t tp rl cl ak aj ao way aq st rows):Qx5 wo ak aj ao way aq st rows:=⟨g.isr,g.good,g.ok,g.nn,g.cl_⟩
section
theorem Pz (c:Int) (n:Nat):((range n).map λ_=>c).sum=n * c:=by
 induction n with
 | zero=>simp
 | succ n ih =>
  rw [range_succ,map_append,sum_append,ih];have:((n + 1:Nat):Int) * c=n * c + c:=by rw [Int.natCast_add,Int.add_mul]; simp
  rw [this];simp
def Qx5.gsum (g:Qx5 wo ak aj ao way aq st rows):((range aj.length).map λi=>st.1.getD i 0).sum=st.1.sum:=by rw [<- g.ok.l1,range_getD]
theorem Qx5.fair (g:Qx5 wo ak aj ao way aq st rows) (ok:Qn ak aj way) (f9:Fit (bF ak) way) (fj:Opt ak aj way) (hb1:∀ b∈ak,1<=b):Fp.is ⟨ak,aj,ao,way,(aj.length:Int),rows⟩ .none:=by
 have lg:=g.ok.l1;have hc:=g.cl_;refine ⟨Qf8 ok lg hc g.isr,λi r hi hr he=>?_,λr q hr hq hd=>?_⟩
 ·have h1:=So ok f9 fj hb1 lg hc g.isr (i:=i) (r:=r) hi hr;have he':(aj.length:Int) * wF aj i (way.getD i 0) - rows.getD (way.getD i 0) 0 < (aj.length:Int) * wF aj i r - rows.getD r 0:=he;lia
 ·let ⟨h1,h2,h3⟩:=hd;have h4:=Aq ok lg hc g.isr (r:=r) (q:=q) hr h1 (V8.mp h2);have h5:rows.getD q 0 < rows.getD r 0:=h3;lia
theorem Qx5.lev (g:Qx5 wo ak aj ao way aq st rows) (ok:Qn ak aj way) {i:Nat} (hi:i < aj.length):Wd wo aj way (aj.length:Int) rows i=(Uz wo aj way ao - st.1.sum) + (aj.length:Int) * st.1.getD i 0:=by
 have e:=Ww (ao:=ao) g.ok.l1 ok.len ok.lt g.cl_ g.isr hi;have l:=Qxq (wo:=wo) (aj:=aj) (way:=way) (ao:=ao) (gs:=st.1) (i:=i) (by rw [g.ok.l1]; exact hi);unfold Wd;rw [e];unfold Xd;rw [l];cases wo
 ·simp
 ·simp;lia
theorem Qx5.bound (g:Qx5 wo ak aj ao way aq st rows) (ok:Qn ak aj way) (l0:0 < aj.length) {dg:K3} (n0:0 < n) (fair:Fp.is ⟨ak,aj,ao,way,n,dg⟩ .none) {m:Int} (hm:∀ i,i < aj.length->m<=Wd wo aj way n dg i):(aj.length:Int) * m<=n * (Uz wo aj way ao - st.1.sum)/\((aj.length:Int) * m=n * (Uz wo aj way ao - st.1.sum)->∀ b,b < aj.length->Wd wo aj way n dg b=m + n * st.1.getD b 0):=by
 have h1:∀ b,b < aj.length->m + n * st.1.getD b 0<=Wd wo aj way n dg b:=λb hb=>by
  let ⟨s,s1,s2,s3⟩:=g.ok.at_ b hb;have h2:=s2.pot (gn:=λx=>n * gnF wo aj way x) (h:=Wd wo aj way n dg) λx hx=>by let ⟨m1,m2,m3,m4,m5⟩:=g.good.mem x hx;exact Qv5 ok fair m1 m2 m4 m5
  rw [Qiq,s3] at h2;have h3:=hm s s1;lia
 have h2:=Ta aj.length h1;have e1:((range aj.length).map λb=>m + n * st.1.getD b 0).sum=aj.length * m + n * st.1.sum:=by rw [Kp (λ_=>m) (λb=>n * st.1.getD b 0),Pz];have:=Wl n (λb=>st.1.getD b 0) (λ_=>0) (range aj.length);rw [g.gsum] at this;simp only [Int.sub_zero] at this;rw [this,Pz];lia
 have e2:=Qv4 (wo:=wo) ok fair;have e3:n * (Uz wo aj way ao - st.1.sum)=n * Uz wo aj way ao - n * st.1.sum:=Int.mul_sub _ _ _;rw [e1] at h2;rw [e3];have h2':(aj.length:Int) * m + n * st.1.sum<=((range aj.length).map (Wd wo aj way n dg)).sum:=h2;rw [e2] at h2';refine ⟨"o",λe b hb=>?_⟩;have h4:=Nf aj.length h1 (by rw [e1];show _=((range aj.length).map (Wd wo aj way n dg)).sum;rw [e2];lia) b hb
 exact h4.symm
end
structure Qsq (wo:Bool) (ak:K3) (aj:J5) (ao:Int) (way:K4) (rows:K3) (m:Int):Prop where
 ok:Qn ak aj way
 fit:Fit (bF ak) way
 opt:Opt ak aj way
 l0:0 < aj.length
 len:rows.length=ak.length
 fair:Fp.is ⟨ak,aj,ao,way,(aj.length:Int),rows⟩ .none
 ge:∀ i,i < aj.length->m<=Wd wo aj way (aj.length:Int) rows i
 empty:∀ r,r < ak.length->r ∉ way->(∃ p,p∈way/\rows.getD r 0=rows.getD p 0)/\∀ p,p∈way->rows.getD r 0<=rows.getD p 0
 max:∀ (dg:K3) (m':Int),Fp.is ⟨ak,aj,ao,way,(aj.length:Int),dg⟩ .none->(∀ i,i < aj.length->m'<=Wd wo aj way (aj.length:Int) dg i)->m'<=m/\(m'=m->∀ i,i < aj.length->Wd wo aj way (aj.length:Int) dg i=Wd wo aj way (aj.length:Int) rows i)
theorem Qx5.best (g:Qx5 wo ak aj ao way aq st rows) (ok:Qn ak aj way) (fit:Fit (bF ak) way) (opt:Opt ak aj way) (hb1:∀ b∈ak,1<=b) (l0:0 < aj.length):Qsq wo ak aj ao way rows (Uz wo aj way ao - st.1.sum):=by
 have n0:(0:Int) < (aj.length:Int):=by lia
 have lw:=ok.len;refine ⟨ok,fit,opt,l0,g.isr.1,g.fair ok fit opt hb1,λi hi=>?_,λr hr hw=>?_,λdg m' f h=>?_⟩
 ·have h1:=g.lev ok hi;have h2:=A0r (show 0<=(aj.length:Int) by lia) (g.nn i hi);lia
 ·let ⟨h1,h2⟩:=Px g.isr hr hw;let ⟨c,hc1,hc2⟩:=Iu h1;refine ⟨⟨way.getD c 0,Dw "o",?_⟩,λp hp=>?_⟩
  ·rw [Ww (ao:=ao) g.ok.l1 ok.len ok.lt g.cl_ g.isr hc1];exact hc2
  ·let ⟨c',hc1',rfl⟩:=Qbx hp;rw [Ww (ao:=ao) g.ok.l1 ok.len ok.lt g.cl_ g.isr (p:=c') "o"];exact h2 _ (El "o")
 ·let ⟨c1,c2⟩:=g.bound ok l0 n0 f h;refine ⟨A0s c1 n0,λe i hi=>?_⟩;rw [c2 (by rw [e]) i hi,g.lev ok hi,e]
theorem Qsq.all_ge {m:Int} (g:Qsq false ak aj ao way rows m) {r:Nat} (hr:r < ak.length):m<=rows.getD r 0:=by
 have lw:=g.ok.len;have key:∀ p∈way,m<=rows.getD p 0:=λp hp=>by let ⟨c,hc1,rfl⟩:=Qbx hp;exact g.ge c "o"
 by_cases hw:r∈way
 ·exact key r hw
 ·let ⟨⟨p,h1,h2⟩,_⟩:=g.empty r hr hw;rw [h2];exact key p h1
theorem Qsq.half {cj:K4} {m:Int} (g:Qsq wo ak aj ao way rows m) (ok':Qn ak aj cj) (fit':Fit (bF ak) cj) (opt':Opt ak aj cj) :
  Fp.is ⟨ak,aj,ao,cj,(aj.length:Int),rows⟩ .none/\(∀ i,i < aj.length->m<=Wd wo aj cj (aj.length:Int) rows i)/\(wo=true->∀ i,i < aj.length->Wd wo aj cj (aj.length:Int) rows i=Wd wo aj way (aj.length:Int) rows i):=by
 have lw:=g.ok.len;have lw':=ok'.len;have l0:=g.l0;have ew:wsum (wF aj) cj=wsum (wF aj) way:=by have h1:=g.opt cj "o" fit';have h2:=opt' way "o" g.fit;lia
 let ⟨f1,f2⟩:=(Ik (F:=⟨ak,aj,ao,way,(aj.length:Int),rows⟩) (by show (0:Int) < aj.length; lia) l0 lw g.fit g.fair (v:=cj) lw' fit').2 ew;have hs:wo=true->∀ i,i < aj.length->Wd wo aj cj (aj.length:Int) rows i=Wd wo aj way (aj.length:Int) rows i:=λe i hi=>by subst e;have h3:=f2 i hi;unfold Wd;simp only [if_pos];exact h3
 refine ⟨f1,λi hi=>?_,hs⟩;cases wo with
 | true =>rw [hs rfl i hi];exact g.ge i hi
 | false=>exact g.all_ge (r:=cj.getD i 0) (ok'.lt _ (Dw "o"))
def Told (wo:Bool) (ak:K3) (aj:J5) (ao:Int) (rows:K3):Prop:=∃ (way:K4) (m:Int),Qsq wo ak aj ao way rows m
structure Jt (ak:K3) (aj:J5):Prop where
 bok:Df ak aj
 w1:0 < aj.length
 w3:(aj.length:Int)<=ak.sum
 b1:∀ b∈ak,1<=b
 x:∀ row∈aj,∀ x∈row,-(10 ^ 42) < x/\x < 10 ^ 42
theorem Sb.g {mp mr:Int} (ok:Sb ak aj ao mp mr) (h1:mp<=10) (h2:mr<=10):Jt ak aj :=⟨⟨by have:=ok.b2; lia,by have:=ok.w2; lia,ok.w4⟩,by have:=ok.w1; lia,ok.w3,λb hb=>(ok.b3 b hb).1,λrow hr z hz=>by have:=ok.w5 row hr z hz; lia⟩
def Qk8 (wo:Bool) (CH CW:G5):Sp:=λvs H Q _ => ∃ (p t:G5) (ak:K3) (aj:J5) (ao:Int) (way:K4) (m:Hop),vs=[.ref p,.ref t]/\Xn CH CW H p ak aj ao way/\Qn ak aj way/\H t=some (.tup (Qsx m))/\m.1 < aj.length/\m.2.2 < aj.length/\m.1≠m.2.2/\(m.2.1:Int)∈Zm wo ak way m.1 m.2.2/\∀ H',Qu H H'->Q (.bl true) H'
def Qkq (wo:Bool) (CH CW:G5):Sp:=λvs H Q _ => ∃ (p cl:G5) (ak:K3) (aj:J5) (ao:Int) (way:K4) (aq c:List Hop) (s i:Nat),vs=[.ref p,.ref cl,.int (i:Int)]/\Xn CH CW H p ak aj ao way/\Qn ak aj way/\Xs wo ak aj way aq/\ChS aq s c i/\Zw H cl c/\∀ H',Qu H H'->Q (.int (wt (gnF wo aj way) c)) H'
def Hy (wo:Bool) (CH CW PT:G5) (bh:Pos) (qual:Str) (K:M7):Sp:=λvs H Q _ => ∃ (p rl:G5) (ak:K3) (aj:J5) (ao:Int) (way:K4) (a b:Nat) (ms:K3),vs=[.ref p,.ref rl,.int (a:Int),.int (b:Int)]/\Xn CH CW H p ak aj ao way/\Qn ak aj way/\a < aj.length/\b < aj.length /\
 H rl=some (.lst (ms.map V.int))/\Du ms (Zm wo ak way a b)/\Qa H PT bh qual /\
 ∀ (r:Nat) (H':Hp),Qt H H'->Yt PT H H'->Qa H' PT bh qual->(r:Int)∈Zm wo ak way a b->r < ak.length->(∀ r':Nat,(r':Int)∈Zm wo ak way a b->Zn wo aj way a r' b<=Zn wo aj way a r b)->Q (.int (r:Int)) H'
def Hu (wo:Bool) (CH CW PT:G5) (bh:Pos) (qual:Str):Sp:=λvs H Q _ => ∃ (p:G5) (ak:K3) (aj:J5) (ao:Int) (way:K4),vs=[.ref p]/\Xn CH CW H p ak aj ao way/\Qn ak aj way/\Qa H PT bh qual /\
 ∀ (hl:G5) (aq:List Hop) (H':Hp),Qt H H'->Yt PT H H'->Qa H' PT bh qual->H hl=none->Zw H' hl aq->Xs wo ak aj way aq->Q (.ref hl) H'
def Oe (wo:Bool) (CH CW PT:G5) (bh:Pos) (qual:Str):Sp:=λvs H Q _ => ∃ (p:G5) (ak:K3) (aj:J5) (ao:Int) (way:K4),vs=[.ref p]/\Xn CH CW H p ak aj ao way/\Qn ak aj way/\Fit (bF ak) way/\Opt ak aj way/\Qa H PT bh qual /\
 ∀ (t tl cl:G5) (aq:List Hop) (st:TC) (H':Hp),Qt H H'->Yt PT H H'->Qa H' PT bh qual->H tl=none->H cl=none->H t=none->TCF (λa=>H a=none) H' cl->(∀ c∈st.2,c.length<=5000)->Ur wo H' t tl cl ak aj way aq st->Q (.ref t) H'
def Qkj (wo:Bool) (CH CW:G5):Sp:=λvs H Q _ => ∃ (p cl:G5) (ak:K3) (aj:J5) (ao:Int) (way:K4) (aq:List Hop) (cs:List (List Hop)),vs=[.ref p,.ref cl]/\Xn CH CW H p ak aj ao way/\Qn ak aj way/\Xs wo ak aj way aq/\Oy H cl aq aj.length cs /\
 ∀ (t:G5) (H':Hp),Qu H H'->H t=none->H' t=some (.tup [.int (Uz wo aj way ao - (cs.map (wt (gnF wo aj way))).sum),.int (aj.length:Int)])->Q (.ref t) H'
def Ms (wo:Bool) (K:M7) (CH CW:G5):Sp:=λvs H Q _ => ∃ (p cl:G5) (ak:K3) (aj:J5) (ao:Int) (way:K4) (cs:K3) (r:Nat),vs=[.ref p,.ref cl,.int (r:Int)]/\Xn CH CW H p ak aj ao way/\Qn ak aj way/\H cl=some (.lst (cs.map V.int))/\cs.length=aj.length/\0 < aj.length /\
 ∀ (z:Int),Rw way cs r z->Q (.int z) H
def Hj (wo:Bool) (K:M7) (CH CW:G5):Sp:=λvs H Q _ => ∃ (p ll:G5) (ak:K3) (aj:J5) (ao:Int) (way:K4) (lv:K3) (parts:Int),vs=[.ref p,.ref ll,.int parts]/\Xn CH CW H p ak aj ao way/\Qn ak aj way/\H ll=some (.lst (lv.map V.int))/\lv.length=aj.length/\0 < aj.length/\0 < parts/\parts < 1000/\(∀ row∈aj,∀ x∈row,-(10 ^ 42) < x/\x < 10 ^ 42) /\
 ∀ (rows:K3) (t l:G5) (H':Hp),Vz ak way (Xz wo aj way lv parts) rows->H l=none->Qu H H'->H' t=some (.tup [.int (parts / ((bx parts.natAbs rows:Nat):Int)),.ref l])->H' l=some (.lst ((rows.map λx=>x / ((bx parts.natAbs rows:Nat):Int)).map V.int))->Q (.ref t) H'
def Oo (wo:Bool) (CH CW PT:G5) (bh:Pos) (qual:Str):Sp:=λvs H Q _ => ∃ (p:G5) (ak:K3) (aj:J5) (ao:Int) (way:K4),vs=[.ref p]/\Xn CH CW H p ak aj ao way/\Qn ak aj way/\Fit (bF ak) way/\Opt ak aj way/\Qa H PT bh qual/\0 < aj.length/\(∀ row∈aj,∀ x∈row,-(10 ^ 42) < x/\x < 10 ^ 42) /\
 ∀ (t tp rl cl:G5) (aq:List Hop) (st:TC) (rows:K3) (H':Hp),Qt H H'->Yt PT H H'->Qa H' PT bh qual->H cl=none->H rl=none->rl≠cl->TCF (λa=>H a=none/\a≠rl) H' cl->Ow wo H' t tp rl cl ak aj ao way aq st rows->Q (.ref t) H'
section
variable {CH CW p:G5} {σ:St} {Q:VK} {ta:TE} {t:TA}
def As (hA:Xn CH CW H p ak aj ao way) (ok:Qn ak aj way) (ha:a < aj.length) (hb:b < aj.length) (h0:∀ K:VK,K (.ref p) H->ta σ H K) (ht:∀ K:List V->Hp->Prop,K [.int (a:Int),.int (b:Int)] H->t σ H K)
  (k:∀ (l:G5) (ms:K3) (H':Hp),Qu H H'->H l=none->H' l=some (.lst (ms.map V.int))->Du ms (Zm wo ak way a b)->Q (.ref l) H') :
  Bu CW "through" (Dm wo CH CW) [] E0 ta t σ H Q:=by
 let ⟨dx,hp,wa,g1,g2,g3⟩:=hA.ex;exact h0 _ ⟨p,dx,_,rfl,g1,Qbw _ _ (by decide +kernel) (by decide +kernel),ht _ ⟨p,ak,aj,ao,way,a,b,rfl,hA,ok,ha,hb,k⟩⟩
def Mm {r:Nat} (hA:Xn CH CW H p ak aj ao way) (ok:Qn ak aj way) (ha:a < aj.length) (hr:r < ak.length) (hb:b < aj.length) (h0:∀ K:VK,K (.ref p) H->ta σ H K) (ht:∀ K:List V->Hp->Prop,K [.int (a:Int),.int (r:Int),.int (b:Int)] H->t σ H K)
  (k:Q (.int (Zn wo aj way a r b)) H) :
  Bu CW "gain" (Qj7 wo CH CW) [] E0 ta t σ H Q:=by
 let ⟨dx,hp,wa,g1,g2,g3⟩:=hA.ex;exact h0 _ ⟨p,dx,_,rfl,g1,Qbw _ _ (by decide +kernel) (by decide +kernel),ht _ ⟨p,ak,aj,ao,way,a,r,b,rfl,hA,ok,ha,hr,hb,k⟩⟩
def Qw8 (hA:Xn CH CW H p ak aj ao way) (ok:Qn ak aj way) (h0:∀ K:VK,K (.ref p) H->ta σ H K)
  (k:∀ H',Qu H H'->Q (.int (if wo then wsum (wF aj) way - ao else ao)) H') :
  Bu CW "whole" (Bt wo CH CW) [] E0 ta Qo8 σ H Q:=by
 let ⟨dx,hp,wa,g1,g2,g3⟩:=hA.ex;exact h0 _ ⟨p,dx,_,rfl,g1,Qbw _ _ (by decide +kernel) (by decide +kernel),p,ak,aj,ao,way,rfl,hA,ok,k⟩
def Qy6 {i:Nat} {level parts:Int} (hA:Xn CH CW H p ak aj ao way) (ok:Qn ak aj way) (hi:i < aj.length) (hx:∀ row∈aj,∀ x∈row,-(10 ^ 42) < x/\x < 10 ^ 42) (hp:-(10 ^ 200) < parts/\parts < 10 ^ 200) (h0:∀ K:VK,K (.ref p) H->ta σ H K) (ht:∀ K:List V->Hp->Prop,K [.int (i:Int),.int level,.int parts] H->t σ H K)
  (k:Q (.int (if wo then parts * Zh aj way i - level else level)) H) :
  Bu CW "price" (Aa wo CH CW) [] E0 ta t σ H Q:=by
 let ⟨dx,hp',wa,g1,g2,g3⟩:=hA.ex;exact h0 _ ⟨p,dx,_,rfl,g1,Qbw _ _ (by decide +kernel) (by decide +kernel),ht _ ⟨p,ak,aj,ao,way,i,level,parts,rfl,hA,ok,hi,hx,hp,k⟩⟩
end
theorem Nn {B:Int}:∀ {l:K3},(∀ z∈l,-B<=z/\z<=B)->-((l.length:Int) * B)<=l.sum/\l.sum<=(l.length:Int) * B
 | [],_=>by simp
 | a :: l,h=>by have ih:=Nn (l:=l) λz hz=>h z (Q0 _ hz);have ha:=h a O9;rw [sum_cons,length_cons,show ((l.length + 1:Nat):Int) * B=(l.length:Int) * B + B by rw [Int.natCast_add,Int.add_mul]; simp];lia
theorem Ng (hx:∀ row∈aj,∀ x∈row,-(10 ^ 42) < x/\x < 10 ^ 42) (hl:way.length<=10):-(10 ^ 43)<=wsum (wF aj) way/\wsum (wF aj) way<=10 ^ 43:=by
 have h:=Nn (B:=10 ^ 42) (l:=(range way.length).map λi=>wF aj i (way.getD i 0)) λz hz=>by let ⟨i,_,rfl⟩:=O3.mp hz;have:=Qx7 hx i (way.getD i 0);lia
 rw [length_map,length_range] at h;have h2:(way.length:Int) * 10 ^ 42<=10 * 10 ^ 42:=U0 "o" (by decide);have e:(10:Int) * 10 ^ 42=10 ^ 43:=by decide
 unfold wsum;lia
theorem Sj (low:Low n rows d k R) (h0:0 < n) (h1:n<=10):0 < k/\k<=10:=by
 have e:=low.n_;have h2:=low.d0
 constructor
 ·refine R4 λz=>?_;have:=A0r (show 0<=d by lia) (show 0<=-k by lia);rw [Int.mul_neg] at this;lia
 ·refine R4 λz=>?_;have:=U0 (show 1<=d by lia) (show 0<=k by lia);lia
def Fh (n:Int) (m:Nat) (aj:J5) (rows:K3) (i r:Nat):Bool:=(range m).all λr'=>decide (n * wF aj i r' - rows.getD r' 0<=n * wF aj i r - rows.getD r 0)
def Dk (n:Int) (m:Nat) (aj:J5) (rows:K3):J5:=(range aj.length).map λi=>((range m).filter (Fh n m aj rows i)).map λ(r:Nat)=>(r:Int)
def Qv2 {m:Nat} {i r:Nat}:Fh n m aj rows i r=true ↔ ∀ r',r' < m->n * wF aj i r' - rows.getD r' 0<=n * wF aj i r - rows.getD r 0:=by unfold Fh;rw [all_eq_true];exact ⟨λh r' hr'=>Q7 (h r' (N8.mpr hr')),λh r' hr'=>O8 (h r' (N8.mp hr'))⟩
theorem Qt8 (ok:Qn ak aj way) (fair:Fp.is ⟨ak,aj,ao,way,(aj.length:Int),rows⟩ .none) (low:Low aj.length rows d k R) {i r:Nat} (hi:i < aj.length) (hr:r < ak.length):decide (k * wF aj i r - R.getD r 0=k * wF aj i (way.getD i 0) - R.getD (way.getD i 0) 0)=Fh (aj.length:Int) ak.length aj rows i r:=by
 have d0:=low.d0;have sc:∀ x,(aj.length:Int) * wF aj i x - rows.getD x 0=d * (k * wF aj i x - R.getD x 0):=λx=>by rw [low.at_,low.n_,Int.mul_sub,Int.mul_assoc]
 have ne:∀ x,x < ak.length->(aj.length:Int) * wF aj i x - rows.getD x 0<=(aj.length:Int) * wF aj i (way.getD i 0) - rows.getD (way.getD i 0) 0:=λx hx=>by have:=fair.2.1 i x hi hx;have h2:¬ ((aj.length:Int) * wF aj i (way.getD i 0) - rows.getD (way.getD i 0) 0 < (aj.length:Int) * wF aj i x - rows.getD x 0):=this;lia
 have hw:=(ok.at_ hi).2;rw [Bool.eq_iff_iff,Qv2]
 constructor
 ·intro h r' hr';have e:=Q7 h;have h1:=ne r' hr';rw [sc r,e,<- sc];exact h1
 ·intro h;have h1:=h _ hw;have h2:=ne r hr;have e:(aj.length:Int) * wF aj i r - rows.getD r 0=(aj.length:Int) * wF aj i (way.getD i 0) - rows.getD (way.getD i 0) 0:=by lia
  rw [sc,sc] at e;exact O8 (A1b "o" e)
def Told.fair (h:Told wo ak aj ao rows) (ok:Qn ak aj way) (fit:Fit (bF ak) way) (opt:Opt ak aj way):Fp.is ⟨ak,aj,ao,way,(aj.length:Int),rows⟩ .none:=by let ⟨w,m,b⟩:=h;exact (b.half ok fit opt).1
def Qqv {m:Nat}:(Dk n m aj rows).length=aj.length:=by simp [Dk]
abbrev Xx:=Int × Int × Int
variable {c:List Xx}
def okI (wo:Bool) (ak:K3) (n:Nat) (way:K4) (m:Xx):Bool:=decide (m.1≠m.2.2/\0<=m.1/\m.1 < (n:Int)/\0<=m.2.2/\m.2.2 < (n:Int)/\m.2.1∈Zm wo ak way m.1.toNat m.2.2.toNat)
def gnI (wo:Bool) (aj:J5) (way:K4) (m:Xx):Int:=Zn wo aj way m.1.toNat m.2.1.toNat m.2.2.toNat
def wbI (ok:Xx->Bool) (gn:Xx->Int):List Xx->Int->Option Int
 | [],_=>some 0
 | h :: t,e=>if h.2.2=e/\ok h=true then (wbI ok gn t h.1).map (· + gn h) else none
def fwI (ok:Xx->Bool) (gn:Xx->Int):List Xx->Option Int->Int->Option Int
 | [],at_,i=>if at_=none\/at_=some i then some 0 else none
 | h :: t,at_,i=>if ok h=true/\(at_=none\/at_=some h.1) then (fwI ok gn t (some h.2.2) i).map (· + gn h) else none
theorem Ht (o:K8) (x y:Int):(o.map (· + x)).map (· + y)=(o.map (· + y)).map (· + x):=by
 cases o with
 | none=>rfl
 | some z =>
  simp only [Option.map_some]
  congr 1
  lia
theorem Md (ok:Xx->Bool) (gn:Xx->Int) (h:Xx):∀ (c:List Xx) (at_:K8) (i:Int),fwI ok gn (c ++ [h]) at_ i=if h.2.2=i/\ok h=true then (fwI ok gn c at_ h.1).map (· + gn h) else none
 | [],at_,i=>by
  simp only [nil_append,fwI]
  by_cases h1:ok h=true
  ·by_cases h2:at_=none\/at_=some h.1
   ·by_cases h3:h.2.2=i
    ·simp [h1,h2,h3]
    ·have h3':¬ (h.2.2=i):=h3;simp [h1,h2,h3]
   ·simp [h1,h2]
  ·simp [h1]
 | x :: c,at_,i=>by
  simp only [cons_append,fwI,Md ok gn h c]
  by_cases h1:ok x=true/\(at_=none\/at_=some x.1)
  ·rw [if_pos h1,if_pos h1]
   by_cases h2:h.2.2=i/\ok h=true
   ·rw [if_pos h2,if_pos h2];exact Ht _ _ _
   ·rw [if_neg h2,if_neg h2];rfl
  ·rw [if_neg h1,if_neg h1];simp
theorem Hn {P:List Xx->Prop} (h0:P []) (hs:∀ c h,P c->P (c ++ [h])):∀ c,P c:=λc=>by
 have:∀ c:List Xx,P c.reverse:=λc=>by
  induction c with
  | nil=>exact h0
  | cons x c ih =>rw [reverse_cons];exact hs _ _ ih
 have:=this c.reverse
 rwa [reverse_reverse] at this
def Zq5 (ok:Xx->Bool) (gn:Xx->Int) (c:List Xx):∀ i,wbI ok gn c.reverse i=fwI ok gn c none i:=by refine Hn (P:=λc => ∀ i,wbI ok gn c.reverse i=fwI ok gn c none i) (λi=>by simp [wbI,fwI]) (λc h ih i=>?_) c;rw [reverse_append,Md];show (if h.2.2=i/\ok h=true then (wbI ok gn c.reverse h.1).map (· + gn h) else none)=_;rw [ih]
theorem Bf (ok:Qn ak aj way) {m:Xx} (h:okI wo ak aj.length way m=true):∃ a r b:Nat,m=((a:Int),(r:Int),(b:Int))/\a < aj.length/\b < aj.length/\a≠b/\r < ak.length/\(r:Int)∈Zm wo ak way a b:=by
 let ⟨m1,m2,m3⟩:=m;let ⟨h1,h2,h3,h4,h5,h6⟩:=Q7 h;simp only at h1 h2 h3 h4 h5 h6;let ⟨a,rfl⟩:=A0t h2;let ⟨b,rfl⟩:=A0t h4;rw [Int.toNat_natCast,Int.toNat_natCast] at h6;have ha:a < aj.length:=by lia
 have hb:b < aj.length:=by lia
 have hr:∃ r:Nat,m2=(r:Int)/\r < ak.length:=by
  rcases O5.mp h6 with e | e
  ·let ⟨r,hr,hlt,_⟩:=Jp.mp e;exact ⟨r,hr,hlt⟩
  ·have e':m2=((way.getD (if wo then a else b) 0:Nat):Int):=by simpa using e
   refine ⟨_,e',?_⟩;cases wo
   ·exact (ok.at_ hb).2
   ·exact (ok.at_ ha).2
 let ⟨r,rfl,hr⟩:=hr;exact ⟨a,r,b,rfl,ha,hb,"o",hr,h6⟩
def chI (wo:Bool) (ak:K3) (aj:J5) (way:K4) (c:List Xx) (i:Nat):K8:=fwI (okI wo ak aj.length way) (gnI wo aj way) c none (i:Int)
def Uu (m:Hop):Xx:=((m.1:Int),(m.2.1:Int),(m.2.2:Int))
theorem Qe8 {n:Nat} {m:Hop} (h1:m.1 < n) (h2:m.2.2 < n) (h3:m.1≠m.2.2) (h5:(m.2.1:Int)∈Zm wo ak way m.1 m.2.2):okI wo ak n way (Uu m)=true:=by refine O8 ?_;simp only [Uu,Int.toNat_natCast];exact ⟨"o","o","o","o","o",h5⟩
theorem Qdv (hm:∀ m∈aq,m.1 < aj.length/\m.2.2 < aj.length/\m.1≠m.2.2/\m.2.1 < ak.length/\(m.2.1:Int)∈Zm wo ak way m.1 m.2.2) {s i:Nat} {c:List Hop} (h:ChS aq s c i):chI wo ak aj way (c.map Uu) i=some (wt (gnF wo aj way) c):=by
 unfold chI
 induction h with
 | nil=>simp [fwI,wt]
 | @snoc c a r b hc g8 ih =>
  let ⟨m1,m2,m3,m4,m5⟩:=hm _ g8;rw [map_append,map_cons,map_nil,Md];have e1:(Uu (a,r,b)).2.2=(b:Int):=rfl;have e2:(Uu (a,r,b)).1=(a:Int):=rfl;rw [if_pos ⟨e1,Qe8 m1 m2 m3 m5⟩,e2,ih];have eg:gnI wo aj way (Uu (a,r,b))=gnF wo aj way (a,r,b):=by simp [gnI,Uu,gnF]
  rw [eg,Wz];simp [wt]
def ihV (m:Xx):List V:=[.int m.1,.int m.2.1,.int m.2.2]
def Xp (H:Hp) (a:G5) (c:List Xx):Prop:=∃ ts:K6,H a=some (.lst (ts.map V.ref))/\ts.length=c.length/\∀ (j:Nat) t m,ts[j]? = some t->c[j]? = some m->H t=some (.tup (ihV m))
def Xp.same {a:G5} (h:Xp H a c) (s:Qu H H'):Xp H' a c:=by let ⟨ts,e1,e2,e3⟩:=h;exact ⟨ts,s _ _ e1,e2,λj t m a b=>s _ _ (e3 j t m a b)⟩
def Xp.bf {a:G5} (h:Xp H a c) (s:Qt H H'):Xp H' a c:=by let ⟨ts,e1,e2,e3⟩:=h;exact ⟨ts,s.to _ _ e1 rfl,e2,λj t m a b=>s.to _ _ (e3 j t m a b) rfl⟩
theorem Zw.i {a:G5} {c:List Hop} (h:Zw H a c):Xp H a (c.map Uu):=by
 let ⟨ts,e1,e2,e3⟩:=h;refine ⟨ts,e1,by simp [e2],λj t m h1 h2=>?_⟩;rw [getElem?_map] at h2;cases h3:c[j]? with
 | none=>rw [h3] at h2; cases h2
 | some x =>rw [h3] at h2;cases h2;exact e3 j t x h1 h3
def Cp:Option Int->V
 | some z=>.int z
 | none=>.non
def Qx4 (m:Xx):PyData:=.tuple [.int m.1,.int m.2.1,.int m.2.2]
def Ck (c:List Xx):PyData:=.list (c.map Qx4)
def Qtk (m:Xx):PyData.eqv (Qx4 m) (Qx4 m)=true:=by unfold Qx4;simp [PyData.eqv,PyData.eqvAll]
theorem Ei:∀ c:List Xx,PyData.eqvAll (c.map Qx4) (c.map Qx4)=true
 | []=>by simp [PyData.eqvAll]
 | m :: t=>by simp only [map_cons,PyData.eqvAll,Qtk,Ei t,Bool.and_true]
def Qw4 (c:List Xx):PyData.eqv (Ck c) (Ck c)=true:=by unfold Ck; rw [PyData.eqv]; exact Ei c
theorem Es:∀ c:List Xx,PyData.canLayAll0 (c.map Qx4)=true
 | []=>rfl
 | m :: t=>by simp [PyData.canLayAll0,Qx4,PyData.canLay0,Es t]
theorem Do:∀ c:List Xx,PyData.depthAll (c.map Qx4)<=1
 | []=>by simp [PyData.depthAll]
 | m :: t=>by have:=Do t;simp only [map_cons,PyData.depthAll,Qx4,PyData.depth];lia
theorem Jd (c:List Xx):SeqAt.shaped (Ck c)=true:=by
 have:=Do c;unfold SeqAt.shaped;refine U5.mpr ⟨?_,O8 ?_⟩
 ·simp [Ck,PyData.canLay0,Es]
 ·simp only [Ck,PyData.depth];lia
theorem Qjq {K:M7} {H:Hp}:∀ {ts:K6} {c:List Xx},ts.length=c.length->(∀ (j:Nat) t m,ts[j]? = some t->c[j]? = some m->H t=some (.tup (ihV m)))->Paired (Rk K H) (ts.map V.ref) (c.map Qx4)
 | [],[],_,_=>.nil
 | [],_ :: _,h,_=>by simp at h
 | _ :: _,[],h,_=>by simp at h
 | t :: ts,m :: c,h,h2=>.cons (Ks (SqT.of (h2 0 t m rfl rfl)) (.cons Am (.cons Am (.cons Am .nil)))) (Qjq (by simpa using h) λj t' m' a b=>h2 (j + 1) t' m' (by simpa using a) (by simpa using b))
def Qxw {a:G5} (h:Xp H a c):Rk K H (.ref a) (Ck c):=by let ⟨ts,e1,e2,e3⟩:=h;exact Wv (SqL.of e1) (Qjq e2 e3)
theorem Ki {ws:K6} (hR:Rows H ws aj) (ok:Qn ak aj way) {i:Nat} (hi:i < aj.length):∃ ra,(ws.map V.ref)[i]? = some (.ref ra)/\H ra=some (.lst ((aj.getD i []).map V.int))/\((wI way).map V.int)[i]? = some (.int ((way.getD i 0:Nat):Int))/\((aj.getD i []).map V.int)[way.getD i 0]? = some (.int (Zh aj way i)):=by
 have ln:=ok.len;have hiw:i < way.length:=by lia
 let ⟨ra,r1,r2,r3⟩:=hR.at_ (show aj[i]? = some aj[i] by simp [hi]);have hwi:=(ok.at_ hi).2;have hrl':=ok.bok.rows _ (M9 hi);rw [getD_get aj _ hi];refine ⟨ra,r2,r3,by simp [wI,getD,hiw],?_⟩;unfold Zh;generalize way.getD i 0=r at *;simp [wF,getD,hi,show r < aj[i].length by lia]
def Ti (m:Nat) (Q:List Nat->Nat->Bool):Nat->List K4
 | 0 => [[]]
 | k + 1=>(Ti m Q k).flatMap λb=>((range m).filter (Q b)).map λr=>b ++ [r]
def Bb (m k:Nat):J6:=Ti m (λ_ _=>true) k
theorem Kl {m:Nat} {Q:List Nat->Nat->Bool}:∀ {k:Nat} {v:K4},v∈Ti m Q k->v.length=k/\∀ r∈v,r < m
 | 0,v,h=>by
  have:v=[]:=by simpa [Ti] using h
  subst this;exact ⟨rfl,λr z=>by cases z⟩
 | k + 1,v,h=>by
  let ⟨b,hb,h2⟩:=mem_flatMap.mp h;let ⟨r,hr,rfl⟩:=O3.mp h2;have ih:=Kl hb;have hr2:=N8.mp (T3.mp hr).1;refine ⟨by simp [ih.1],λx hx=>?_⟩;rcases O5.mp hx with z | z
  ·exact ih.2 x z
  ·have:x=r:=by simpa using z
   lia
theorem Eo {m:Nat}:∀ {k:Nat} {v:K4},v.length=k->(∀ r∈v,r < m)->v∈Bb m k
 | 0,v,h,_=>by have:v=[]:=A0e.mp h;subst this;simp [Bb,Ti]
 | k + 1,v,h,h2=>by
  have hne:v≠[]:=λz=>by subst z; simp at h
  have e:=dropLast_concat_getLast hne;rw [<- e];refine mem_flatMap.mpr ⟨v.dropLast,Eo (by simp [h]) (λr hr=>h2 r (dropLast_subset _ hr)),O3.mpr ⟨v.getLast hne,?_,rfl⟩⟩;simpa using h2 _ (getLast_mem hne)
theorem Rl {α β:Type} (p:α->Bool) (f:α->List β):∀ l:List α,(l.filter p).flatMap f=l.flatMap λb=>if p b then f b else []
 | []=>rfl
 | a :: l=>by
  rw [flatMap_cons,filter_cons];cases h:p a with
  | true=>simp only [if_true,flatMap_cons,Rl p f l]
  | false=>simpa using Rl p f l
theorem Rc {m:Nat} {Q:List Nat->Nat->Bool} {OK:List Nat->Bool} (h0:OK []=true) (h:∀ b r,r < m->OK (b ++ [r])=(OK b && Q b r)):∀ k,Ti m Q k=(Bb m k).filter OK
 | 0=>by simp [Bb,Ti,h0]
 | k + 1=>by
  have ih:=Rc h0 h k;unfold Bb at ih ⊢;rw [Ti,ih,Rl,Ti,filter_flatMap]
  congr 1
  funext b
  rw [filter_map];cases hb:OK b with
  | true =>
   rw [if_pos rfl]
   congr 1
   rw [filter_filter];refine A0h λr hr=>?_;show Q b r=(OK (b ++ [r]) && true);rw [h b r (mem_range.mp hr),hb,Bool.and_true,Bool.true_and]
  | false =>rw [if_neg (by decide)];apply Eq.symm;rw [map_eq_nil_iff,filter_eq_nil_iff];intro r hr;have hr2:=N8.mp (T3.mp hr).1;show ¬ (OK (b ++ [r])=true);rw [h b r hr2,hb];simp
def Jo (ak:K3) (v:K4):Bool:=(range ak.length).all λr=>decide (v.count r<=bF ak r)
theorem Gn (hv:∀ r∈v,r < ak.length):Jo ak v=true ↔ Fit (bF ak) v:=by
 unfold Jo;rw [all_eq_true]
 constructor
 ·intro h r
  by_cases hr:r < ak.length
  ·exact Q7 (h r (N8.mpr hr))
  ·have:v.count r=0:=count_eq_zero.mpr λz=>hr (hv r z);lia
 ·intro h r hr;exact O8 (h r)
theorem Qz2 (b:K4) {r:Nat} (hr:r < ak.length):Jo ak (b ++ [r])=(Jo ak b && decide (((b.count r:Nat):Int) < ak.getD r 0)):=by
 have hc:∀ x,(b ++ [r]).count x=b.count x + if r=x then 1 else 0:=λx=>by
  rw [count_append,count_singleton]
  congr 1
  simp [beq_iff_eq]
 rw [Bool.eq_iff_iff,Bool.and_eq_true];unfold Jo;rw [all_eq_true,all_eq_true]
 constructor
 ·intro h;refine ⟨λx hx=>O8 ?_,O8 ?_⟩
  ·have:=Q7 (h x hx);rw [hc] at this;lia
  ·have:=Q7 (h r (N8.mpr hr));rw [hc,if_pos rfl] at this;unfold bF at this;lia
 ·rintro ⟨h1,h2⟩ x hx;have h3:=Q7 (h1 x hx);have h4:=Q7 h2;refine O8 ?_;rw [hc]
  by_cases e:r=x
  ·subst e;rw [if_pos rfl];unfold bF at *;lia
  ·rw [if_neg e];lia
def Quw (ak:K3):Jo ak []=true:=by simp [Jo]
def Qmw (L:Nat->Nat->Bool) (v:K4):Bool:=(range v.length).all λi=>L i (v.getD i 0)
def Qh9 (L:Nat->Nat->Bool):Qmw L []=true:=rfl
theorem Qyv (L:Nat->Nat->Bool) (b:K4) (r:Nat):Qmw L (b ++ [r])=(Qmw L b && L b.length r):=by
 have e1:∀ i,i < b.length->(b ++ [r]).getD i 0=b.getD i 0:=λi hi=>by simp [getD,getElem?_append_left hi]
 have e2:(b ++ [r]).getD b.length 0=r:=by simp [getD]
 rw [Bool.eq_iff_iff,Bool.and_eq_true];unfold Qmw;rw [all_eq_true,all_eq_true,length_append,length_singleton]
 constructor
 ·intro h;refine ⟨λi hi=>?_,?_⟩
  ·have hi2:=N8.mp hi;have:=h i (N8.mpr "o")
   rwa [e1 i hi2] at this
  ·have:=h b.length (N8.mpr "o")
   rwa [e2] at this
 ·rintro ⟨h1,h2⟩ i hi;have hi2:=N8.mp hi
  by_cases e:i=b.length
  ·subst e;rw [e2];exact h2
  ·rw [e1 i "o"];exact h1 i (N8.mpr "o")
def Qxz (ak:K3) (aj:J5) (M:Int):J6:=(Bb ak.length aj.length).filter λv=>Jo ak v && decide (wsum (wF aj) v=M)
def Zq0 (ak:K3) (n:Nat):J6:=Ti ak.length (λb r=>decide (((b.count r:Nat):Int) < ak.getD r 0)) n
def Qn5 (ak:K3) (n:Nat):Zq0 ak n=(Bb ak.length n).filter (Jo ak):=Rc (Quw ak) (λb r hr=>Qz2 b hr) n
def Qok (m n:Nat) (L:Nat->Nat->Bool):J6:=Ti m (λb r=>L b.length r) n
def Qv3 (m n:Nat) (L:Nat->Nat->Bool):Qok m n L=(Bb m n).filter (Qmw L):=Rc (Qh9 L) (λb r _=>Qyv L b r) n
def Quk {M:Int}:((Zq0 ak aj.length).filter λv=>decide (wsum (wF aj) v=M))=Qxz ak aj M:=by rw [Qn5,filter_filter];unfold Qxz;refine A0h λv _=>?_;rw [Bool.and_comm]
theorem Ly {M:Int} {L:Nat->Nat->Bool} (h:∀ v:K4,v.length=aj.length->Fit (bF ak) v->wsum (wF aj) v=M->∀ i,i < aj.length->L i (v.getD i 0)=true):(((Qok ak.length aj.length L).filter (Jo ak)).filter λv=>decide (wsum (wF aj) v=M))=Qxz ak aj M:=by
 rw [Qv3,filter_filter,filter_filter];unfold Qxz;refine A0h λv hv=>?_;let ⟨hl,hr⟩:=Kl hv;cases hf:Jo ak v with
 | false=>simp
 | true =>
  cases hw:decide (wsum (wF aj) v=M) with
  | false=>simp
  | true =>
   have h1:=h v hl ((Gn hr).mp hf) (Q7 hw);have h2:Qmw L v=true:=by unfold Qmw;rw [all_eq_true];exact λi hi=>h1 i (by have:=N8.mp hi; lia)
   simp [h2]
theorem Told.lvl (T:Told true ak aj ao rows) (w1:0 < aj.length) (ok:Qn ak aj way) (fit:Fit (bF ak) way) (opt:Opt ak aj way) (hl:v.length=aj.length) (hf:Fit (bF ak) v) (hm:wsum (wF aj) v=wsum (wF aj) way) {i:Nat} (hi:i < aj.length):Fh (aj.length:Int) ak.length aj rows i (v.getD i 0)=true:=by have fair:=T.fair ok fit opt;have hfa:=Ik (F:=⟨ak,aj,ao,way,(aj.length:Int),rows⟩) (by show (0:Int) < aj.length; lia) w1 ok.len fit fair hl hf;let ⟨_,hs⟩:=hfa.2 hm;have e:=hs i hi;rw [Qv2];intro r' hr';have h2:¬ ((aj.length:Int) * wF aj i (way.getD i 0) - rows.getD (way.getD i 0) 0 < (aj.length:Int) * wF aj i r' - rows.getD r' 0):=fair.2.1 i r' hi hr';have e':(aj.length:Int) * wF aj i (v.getD i 0) - rows.getD (v.getD i 0) 0=(aj.length:Int) * wF aj i (way.getD i 0) - rows.getD (way.getD i 0) 0:=e;lia
open PyProof
theorem Hq (ak:K3):∀ n,Wc ak n=Zq0 ak n
 | 0=>rfl
 | n + 1=>by rw [Wc,Hq ak n];rfl
theorem Ic (hl:way.length=aj.length) (fit:Fit (bF ak) way) (opt:Opt ak aj way):Vv ak aj=Qxz ak aj (wsum (wF aj) way):=by
 rw [<- Quk,<- Hq];unfold Vv;refine A0h λv hv=>?_;rw [Bool.eq_iff_iff,decide_eq_true_eq,decide_eq_true_eq]
 constructor
 ·intro h;have h1:=h way (Yz.mpr ⟨hl,fit⟩);have h2:=opt v (by have:=(Yz.mp hv).1; lia) (Yz.mp hv).2;lia
 ·intro h u hu;rw [h];exact opt u (by have:=(Yz.mp hu).1; lia) (Yz.mp hu).2
def Qb9 (gk:K4) (b:K4):J6:=gk.map λr=>b ++ [r]
def We (L:J6):J6:=L.foldl (λacc gk=>acc.flatMap (Qb9 gk)) [[]]
def Pw (L:J6) (gk:K4):We (L ++ [gk])=(We L).flatMap (Qb9 gk):=by unfold We;rw [foldl_append];rfl
def Cw (n m:Nat) (L:Nat->Nat->Bool):J6:=(range n).map λi=>(range m).filter (L i)
theorem Gg (m:Nat) (L:Nat->Nat->Bool):∀ n,We (Cw n m L)=Qok m n L
 | 0=>rfl
 | n + 1=>by
  have e:Cw (n + 1) m L=Cw n m L ++ [(range m).filter (L n)]:=by unfold Cw;rw [range_succ,map_append];rfl
  rw [e,Pw,Gg m L n];show _=Ti m (λb r=>L b.length r) (n + 1);rw [Ti,flatMap_def,flatMap_def]
  congr 1
  refine R6 λb hb=>?_;have:=(Kl hb).1;show ((range m).filter (L n)).map (λr=>b ++ [r])=((range m).filter (λr=>L b.length r)).map λr=>b ++ [r];rw [this]
theorem Pe:∀ (L:J6) (acc:J6) (k:Nat),(∀ b∈acc,b.length=k)->∀ v∈L.foldl (λacc gk=>acc.flatMap (Qb9 gk)) acc,v.length=k + L.length
 | [],acc,k,h,v,hv=>h v hv
 | r :: L,acc,k,h,v,hv=>by
  have:=Pe L (acc.flatMap (Qb9 r)) (k + 1) (λb hb=>by let ⟨c,hc,hd⟩:=mem_flatMap.mp hb;let ⟨x,_,rfl⟩:=O3.mp hd;simp [h c hc]) v hv
  rw [length_cons];lia
theorem Qy5 {L:J6} (h:v∈We L):v.length=L.length:=by have:=Pe L [[]] 0 (λb hb=>by simp at hb; simp [hb]) v h;lia
def Qx3 (L:J6):Nat:=L.foldl (λt r=>t * r.length) 1
theorem Uy (gk:K4):∀ acc:J6,(acc.flatMap (Qb9 gk)).length=acc.length * gk.length
 | []=>by simp
 | a :: l=>by rw [flatMap_cons,length_append,Uy gk l,length_cons,Nat.succ_mul];simp [Qb9];lia
theorem Iq:∀ (L:J6) (acc:J6),(L.foldl (λacc gk=>acc.flatMap (Qb9 gk)) acc).length=L.foldl (λt r=>t * r.length) acc.length
 | [],acc=>rfl
 | r :: L,acc=>by rw [foldl_cons,foldl_cons,Iq L,Uy]
def Gb (L:J6):(We L).length=Qx3 L:=Iq L [[]]
theorem Qvx:∀ (L:J6) (t:Nat),(∀ r∈L,1<=r.length)->t<=L.foldl (λt r=>t * r.length) t
 | [],t,_=>O1 _
 | r :: L,t,h=>by rw [foldl_cons];refine O6 ?_ (Qvx L _ λx hx=>h x (Q0 _ hx));exact Nat.le_mul_of_pos_right _ (h r O9)
def Qu2 {L:J6} (h:∀ r∈L,1<=r.length) (j:Nat):Qx3 (L.take j)<=Qx3 L:=by
 have e:Qx3 L=(L.drop j).foldl (λt r=>t * r.length) (Qx3 (L.take j)):=by unfold Qx3;rw [<- foldl_append,take_append_drop]
 rw [e];exact Qvx _ _ λr hr=>h r (drop_subset _ _ hr)
def Lu (L:J6):Qx3 L=(L.map List.length).foldl (· * ·) 1:=by unfold Qx3;rw [foldl_map]
theorem Qvj:∀ (ks:K4) (t:Nat),(∀ k∈ks,k<=10)->ks.foldl (· * ·) t<=t * 10 ^ ks.length
 | [],t,_=>by simp
 | k :: ks,t,h=>by rw [foldl_cons,length_cons];refine O6 (Qvj ks _ λx hx=>h x (Q0 _ hx)) ?_;rw [Nat.pow_succ,Nat.mul_assoc,Nat.mul_comm (10 ^ ks.length) 10];exact A1d _ (A0n _ (h k O9))
theorem Qr6 {ks:K4} (h:∀ k∈ks,k<=10) (hl:ks.length<=10):ks.foldl (· * ·) 1<=10 ^ 10:=by have h1:=Qvj ks 1 h;have h2:10 ^ ks.length<=10 ^ 10:=A1g "o" hl;lia
def Qy4 {ks:K4} {j:Nat} (hj:j < ks.length):(ks.take (j + 1)).foldl (· * ·) 1=(ks.take j).foldl (· * ·) 1 * ks.getD j 0:=by rw [take_succ,foldl_append];simp [getD,hj]
def Oc:Sp:=λvs H Q _ => ∃ (l:G5) (ks:K4),vs=[.ref l]/\H l=some (.lst ((wI ks).map V.int))/\ks.length<=10/\(∀ k∈ks,k<=10)/\Q (.int ((ks.foldl (· * ·) 1:Nat):Int)) H
def Qc6 (H H':Hp) (l:G5) (rows:J5):Prop:=∃ ws:K6,H' l=some (.lst (ws.map V.ref))/\Rows H' ws rows/\∀ a∈ws,H a=none
def Qc6.mat {l:G5} {rows:J5} (h:Qc6 H H' l rows):Mat H' l rows:=by let ⟨ws,h1,h2,_⟩:=h;exact ⟨ws,h1,h2⟩
def Si:Sp:=λvs H Q _ => ∃ (lv:G5) (L:J6),vs=[.ref lv]/\Mat H lv (L.map wI)/\L.length<=10/\(∀ row∈L,row.length<=10)/\(∀ j,(We (L.take j)).length<=1000)/\∀ (l:G5) (H':Hp),Qu H H'->H l=none->Qc6 H H' l ((We L).map wI)->Q (.ref l) H'
def Qu1 {m:Nat}:Dk n m aj rows=(Cw aj.length m (Fh n m aj rows)).map wI:=by unfold Dk Cw;rw [map_map];rfl
def Qe6 {X:Cx} {P:G8} {w:World}:Rv (CXR P w) X E0:=λ_ _ _ _ _ _ _ ⟨_,_,_,_,_,x⟩=>x.wish.elim
section
variable {X:Cx} {k:Nat} {ps:K9} {sp:Sp} {x:Str} {p pos:Pos} {e:Expr} {es:M4} {t:TA}
def Qh2 (D:Qsv X.prog X.w X.K X.mg X.base k x ps sp) (hr:Uq k X.A) (hg:Gl X x) (ha:PA X (e :: es) t) (hdb:(x == ("__debug__" : Str))=false:=by decide) (he:starEach (e :: es) X.env=(false,eval e X.env) :: starEach es X.env:=by rfl)
  (hpl:(backTo pos (starEach es X.env)).any (·.1)=false:=by rfl):PE X (.Call (.Name x p) (e :: es) [] pos) (Qx8 sp [] E0 t):=by
 let ⟨f,fd,hm,hk,hb,G⟩:=D.ex;exact Ca G hr hg hm hk hb .nil Qe6 ha hdb he hpl
end
structure Zxw (K:M7) (mg:J9) (eM:G5):Prop where
 mTooMany:mg "TooMany" = some (.ref eM)
 ok:Qi9 K eM eM
theorem Qqk {n:Nat} (hb:∀ b∈ak,0<=b) (hl:v.length=n) (hr:∀ r∈v,r < ak.length):Ro ak n (wI v)=Jo ak v:=by
 have h1:decide ((wI v).length=n)=true:=O8 (by simp [wI,hl]);have h2:((wI v).all λr=>decide (0<=r/\r < (ak.length:Int)))=true:=by rw [all_eq_true];intro z hz;let ⟨r,hr',rfl⟩:=O3.mp hz;have:=hr r hr';exact O8 "o"
 unfold Ro Jo;rw [h1,h2,Bool.and_self,Bool.true_and,Bool.eq_iff_iff,all_eq_true,all_eq_true];have key:∀ r,r∈range ak.length->((((wI v).count (r:Int):Nat):Int)<=ak.getD r 0 ↔ v.count r<=bF ak r):=λr hr'=>by
  have hr2:=N8.mp hr';have:0<=ak.getD r 0:=by rw [getD_get _ _ hr2];exact hb _ (M9 hr2)
  rw [Tz];unfold bF;lia
 constructor
 ·intro h r hr';exact O8 ((key r hr').mp (Q7 (h r hr')))
 ·intro h r hr';exact O8 ((key r hr').mpr (Q7 (h r hr')))
def Ha {α:Type} (p:α->Bool) (d:α) (xs:List α):((range xs.length).filter λi=>p (xs.getD i d)).map (λi=>xs.getD i d)=xs.filter p:=by
 have hg:xs=(range xs.length).map λk=>xs.getD k d:=by refine U7 (by simp) λi z1 z2=>?_;simp [getD,z1]
 conv=>rhs; rw [hg,filter_map]
 rfl
theorem Lq {ws:K6} {al:J6} (hR:Rows H ws (al.map wI)) (p:List Nat->Bool) (d:G5):Rows H (((range ws.length).filter λi=>p (al.getD i [])).map λi=>ws.getD i d) ((al.filter p).map wI):=by
 have hl:ws.length=al.length:=by rw [hR.1,length_map]
 rw [hl,<- Ha p [] al];refine ⟨by simp,λi a row z1 z2=>?_⟩;rw [getElem?_map] at z1;rw [getElem?_map,getElem?_map] at z2;have hmf:∀ k∈(range al.length).filter λk=>p (al.getD k []),k < al.length:=λk hk=>N8.mp (T3.mp hk).1;generalize (range al.length).filter (λk=>p (al.getD k []))=fl at *;cases hf:fl[i]? with
 | none=>rw [hf] at z1; cases z1
 | some k =>rw [hf] at z1 z2;have hk:=hmf k (R9 hf);simp at z1 z2;subst z1 z2;refine hR.2 k _ _ (by simp [show k < ws.length by lia]) ?_;simp [hk]
def Ql9 (K:M7):Sp:=λvs H Q _ => ∃ (b w:G5) (ak:K3) (aj:J5),vs=[.ref b,.ref w]/\H b=some (.lst (ak.map V.int))/\Mat H w aj/\Df ak aj/\ak.length ^ aj.length<=20000/\0 < (Wc ak aj.length).length /\
 ∀ (l:G5) (H':Hp),Qu H H'->H l=none->Qc6 H H' l ((Vv ak aj).map wI)->Q (.ref l) H'
def An (HG:Jt ak aj) (j9:Told true ak aj ao rows):0 < (Vv ak aj).length/\(Vv ak aj).length<=Qx3 (Cw aj.length ak.length (Fh (aj.length:Int) ak.length aj rows)):=by let ⟨way,m,bst⟩:=id j9;have ln:=bst.ok.len;refine ⟨Z1 (Kd.mpr ⟨ln,bst.fit,bst.opt⟩),?_⟩;rw [Ic ln bst.fit bst.opt,<- Ly (L:=Fh (aj.length:Int) ak.length aj rows) (λv h1 h2 h3 i hi=>j9.lvl HG.w1 bst.ok bst.fit bst.opt h1 h2 h3 hi),<- Gg,<- Gb];exact O6 (W3 _ _) (W3 _ _)
section
variable {X:Cx} {dz:G9} {σ:St} {s:G4}
def Inv.through {E:XK} {F:K1} {e:G3} {s':G4} (I:Inv X dz σ H s) (hX:X.ex=[]) (hst:X.stack=X.env :: X.outer) (hf:X.env.frame=some X.env.locals) (c:CXR X.prog X.w X.stack H s E e s') :
  wpAny (model X.prog X.w) X.A (leaving X.env e) (λ_ s''=>CXR X.prog X.w X.outer X.H₀ X.s₀ E e s'') F s':=by
 let ⟨ea,cls,a0,H',B,x⟩:=c;obtain rfl:=x.is_;have sub:∀ b o,X.s₀.heap.get? b=some o->b∈frs X.stack->b∈X.fs:=λb o h0 hb=>by
  rcases Q8.mp (I.stkSub b hb) with z | z
  ·exact absurd (N6 h0) (by rw [z]; exact W8.mpr I.ok.above)
  ·exact z
 have sup:∀ b,b∈X.fs->b∈frs X.stack:=λb hb=>by rw [hst];let ⟨en,h2,h3⟩:=Z5.mp hb;exact Z5.mpr ⟨en,.tail _ h2,h3⟩
 have nx:∀ b,b ∉ X.ex:=λb z=>by rw [hX] at z; cases z
 have nn:∀ b:G5,b ∉ ([]:K6):=λb=>by simp
 have hfr:X.A.frames=some (X.env :: X.outer):=by rw [<- hst]; exact I.ok.frames
 have fly:=x.fly;rw [hst] at fly;refine wpAny_leaves_onW (base:=B) hfr hf fly λh2 fly2 up=>?_;have st:∀ b o,s'.heap.get? b=some o->b∈frs X.stack->∃ sl,h2.get? b=some { o with slots:=sl }:=λb o z hb=>by let ⟨_,o',ho',nf⟩:=x.fly.2.2.1.mem hb;rw [z] at ho';cases ho';exact up b o z nf
 refine ⟨ea,cls,a0,H',B,rfl,x.wish,x.os.trans I.os,x.bare,⟨λb o e0 n hb _=>?_,λb o e0 n hb _=>?_,λb o e0 n _=>?_,λb o e0 _=>?_,λb xs q=>x.un.tups b xs (I.base.tups b xs q),λb o u q=>x.un.frzs b o u (I.base.frzs b o u q),λb ps q=>?_⟩,x.hokB,fly2,λb o e0 hb=>?_⟩
 ·have e1:=I.base.keep b o e0 n hb (nx b);have n1:=I.base.free b o e0 n (nx b);have hb':b ∉ frs X.stack:=λz=>hb (sub b o e0 z);have e2:=x.un.keep b o e1 n1 hb' (nn b);let ⟨o',z⟩:=x.old b o e1 hb';have e3:=x.fly.1 b o' z;rw [e2] at e3;cases e3;exact fly2.1 b o z
 ·let ⟨sl1,e1⟩:=I.base.slot b o e0 n hb (nx b);have n1:=I.base.free b o e0 n (nx b);let ⟨sl2,e2⟩:=x.un.slot b _ e1 n1 (sup b hb) (nn b);let ⟨sl3,e3⟩:=st b _ e2 (sup b hb);exact ⟨sl3,e3⟩
 ·let ⟨o',e1⟩:=I.base.there b o e0 (nx b);exact x.un.free b o' e1 (I.base.free b o e0 n (nx b)) (nn b)
 ·let ⟨o',e1⟩:=I.base.there b o e0 (nx b)
  by_cases hb:b∈frs X.stack
  ·let ⟨o2,e2⟩:=x.un.there b o' e1 (nn b);let ⟨sl2,e3⟩:=st b _ e2 hb;exact ⟨_,e3⟩
  ·let ⟨o2,e2⟩:=x.old b o' e1 hb;exact ⟨_,fly2.1 b _ e2⟩
 ·let ⟨more,z⟩:=I.base.tbls b ps q;let ⟨more2,z2⟩:=x.un.tbls b _ z;exact ⟨more ++ more2,by rw [z2]; simp⟩
 ·let ⟨o',e1⟩:=I.base.there b o e0 (nx b);exact x.old b o' e1 λz=>hb (sub b o e0 z)
end
def Zz5 {P:G8} {w:World} {mg:J9} {base:Heap} {N:K9} {qual:Str} {scope:Scope} {f:G5} {cd:G3} {A:G7} {outer:List Env} {s:G4} {E:XK} :
  Rv (CXR P w) (Cf (CXR P w) P w K mg base N qual scope f cd A outer s H E) E:=λdz σ H1 s1 e s' I c=>I.through rfl rfl rfl c
section
variable {X:Cx} {k:Nat} {ps:K9} {sp:Sp} {x:Str} {p pos:Pos} {e:Expr} {es:M4} {t:TA} {E:XK}
def Qh1 (hx:Rv (CXR X.prog X.w) X E) (D:Qsv X.prog X.w X.K X.mg X.base k x ps sp) (hr:Uq k X.A) (hg:Gl X x) (ha:PA X (e :: es) t) (hdb:(x == ("__debug__" : Str))=false:=by decide) (he:starEach (e :: es) X.env=(false,eval e X.env) :: starEach es X.env:=by rfl)
  (hpl:(backTo pos (starEach es X.env)).any (·.1)=false:=by rfl):PE X (.Call (.Name x p) (e :: es) [] pos) (Qx8 sp [] E t):=by
 let ⟨f,fd,hm,hk,hb,G⟩:=D.ex;exact Ca G hr hg hm hk hb .nil hx ha hdb he hpl
end
def Qr1 (K:M7):R2:=λx y H Q => ∃ p xs d ds,y=.ref p/\SqL K H p xs/\Rk K H x d/\Paired (Rk K H) xs ds/\d.canLay0=true/\(∀ e∈ds,e.canLay0=true)/\d.depth<=8/\Q (.bl (!(ds.any λe=>PyData.eqv e d))) H
theorem Qq7 {X:Cx} (h:X.K=K) (hu:X.A.units + 64 < cLine):OpR X (compareOp .NotIn) (Qr1 K):=by
 classical
 intro dz s σ H x y v u Q I rx ry q;let ⟨p,xs,d,ds,rfl,hq,r1,r2,c1,c2,dd,q⟩:=q;cases ry;subst h;let ⟨its,r,pl,hz⟩:=I.list hq;let ⟨as,h1⟩:=r1 X dz σ s v rfl I rx;have hread:∀ (j:Nat) z,its[j]? = some z->∃ e,ds[j]? = some e/\∃ bs,Reads s.heap z e bs:=λj z hz=>by let ⟨x',hx',rz⟩:=Rh r j z hz;let ⟨e,he,re⟩:=Gp r2 j x' hx';let ⟨bs,hb⟩:=re X dz σ s z rfl I rz;exact ⟨e,he,bs,hb⟩
 have hback:∀ (j:Nat) e,ds[j]? = some e->∃ z,its[j]? = some z:=λj e he=>by let ⟨x',hx',_⟩:=Rh r2 j e he;let ⟨z,hz,_⟩:=Gp r j x' hx';exact ⟨z,hz⟩
 have hin1:X.A.in1.units<=X.A.units + 1:=by show X.A.units + 1<=X.A.units + 1;exact O1 _
 have heq:∀ (j:Nat) z e,its[j]? = some z->ds[j]? = some e->SeqAt.EqAt X.A.in1 s z v (PyData.eqv e d):=λj z e hz he=>by let ⟨e',he',bs,hb⟩:=hread j z hz;rw [he] at he';cases he';refine SeqAt.eqAt_reads e d X.A.in1 s z v bs as hb h1 (c2 e (R9 he)) c1 ?_;have:=Nat.min_le_right e.depth d.depth;lia
 have e1:(its.toArray.any λz=>decide (∃ (j:Nat) (e:PyData),its[j]? = some z/\ds[j]? = some e/\PyData.eqv e d=true))=ds.any λe=>PyData.eqv e d:=by
  rw [Bool.eq_iff_iff];simp only [any_toArray,any_eq_true,decide_eq_true_eq]
  constructor
  ·rintro ⟨z,_,j,e,_,he,hv⟩;exact ⟨e,R9 he,hv⟩
  ·rintro ⟨e,he,hv⟩;let ⟨j,hj⟩:=getElem?_of_mem he;let ⟨z,hz'⟩:=hback j e hj;exact ⟨z,R9 hz',j,e,hz',hj,hv⟩
 refine SeqAt.notIn_listAt (λz=>decide (∃ (j:Nat) (e:PyData),its[j]? = some z/\ds[j]? = some e/\PyData.eqv e d=true)) pl.isList (λz hz'=>?_) ⟨.bl _,H,I,rfl,?_⟩
 ·let ⟨j,hj⟩:=getElem?_of_mem (show z∈its by simpa using hz');let ⟨e,he,_⟩:=hread j z hj
  by_cases hx:∃ (j:Nat) (e:PyData),its[j]? = some z/\ds[j]? = some e/\PyData.eqv e d=true
  ·let ⟨j',e',a1,a2,a3⟩:=id hx;have:=heq j' z e' a1 a2;rw [a3] at this;show SeqAt.EqAt _ _ _ _ (decide _);rw [decide_eq_true hx];exact this
  ·have:=heq j z e hj he;have hf:PyData.eqv e d=false:=by
    cases hc:PyData.eqv e d with
    | false=>rfl
    | true=>exact absurd ⟨j,e,hj,he,hc⟩ hx
   rw [hf] at this;show SeqAt.EqAt _ _ _ _ (decide _);rw [decide_eq_false hx];exact this
 ·rw [e1];exact q
def Fc (c:List Xx) (i:Nat):Int:=match c with
 | []=>(i:Int)
 | m :: _=>m.1
theorem Qo3 (ok:Qn ak aj way) {i:Nat} {z:Int} (hi:i < aj.length) (h:chI true ak aj way c i=some z):0<=Fc c i/\Fc c i < (aj.length:Int):=by
 cases c with
 | nil=>exact ⟨by simp [Fc],by simp [Fc]; exact hi⟩
 | cons m c =>
  unfold chI fwI at h
  by_cases e:okI true ak aj.length way m=true/\((none:K8)=none\/(none:K8)=some m.1)
  ·have:=Q7 e.1;exact ⟨this.2.1,this.2.2.1⟩
  ·rw [if_neg e] at h;cases h
def Qb6 (ak:K3) (aj:J5) (way:K4) (pu:J7) (k:K8) (c:List Xx) (i:Nat):K8:=match chI true ak aj way c i with
 | none=>none
 | some g=>match k with
  | none=>some g
  | some k=>if k=Fc c i then match pu.getD k.toNat none with
   | none=>none
   | some p=>some (Zh aj way k.toNat - p + g) else none
def Cb (k:K8) (cl:G5):List V:=match k with
 | none => [.str (Str.ofString "free"),.ref cl]
 | some k => [.str (Str.ofString "purse"),.int k,.ref cl]
def Hg:Sp:=λvs H Q _ => ∃ (cl:G5) (c:List Xx) (i:Nat),vs=[.ref cl,.int (i:Int)]/\Xp H cl c/\Q (.int (Fc c i)) H
def Hw:Sp:=λvs H Q _ => ∃ (b w wy t:G5) (ak:K3) (aj:J5) (way:K4) (m:Xx) (at_:K8),vs=[.ref b,.ref w,.ref wy,.ref t,Cp at_]/\H b=some (.lst (ak.map V.int))/\Mat H w aj/\H wy=some (.lst ((wI way).map V.int))/\Qn ak aj way/\H t=some (.tup (ihV m))/\∀ H',Qu H H'->Q (Cp (if okI true ak aj.length way m=true/\(at_=none\/at_=some m.1) then some (gnI true aj way m) else none)) H'
def Qq0:Sp:=λvs H Q _ => ∃ (b w wy cl:G5) (ak:K3) (aj:J5) (way:K4) (c:List Xx) (i:Nat),vs=[.ref b,.ref w,.ref wy,.ref cl,.int (i:Int)]/\H b=some (.lst (ak.map V.int))/\Mat H w aj/\H wy=some (.lst ((wI way).map V.int))/\Qn ak aj way/\Xp H cl c/\∀ H',Qu H H'->Q (Cp (chI true ak aj way c i)) H'
def Qpq:Sp:=λvs H Q _ => ∃ (b w wy pu t cl:G5) (ak:K3) (aj:J5) (way:K4) (ps:J7) (k:K8) (c:List Xx) (i:Nat),vs=[.ref b,.ref w,.ref wy,.ref pu,.ref t,.int (i:Int)]/\H b=some (.lst (ak.map V.int))/\Mat H w aj/\H wy=some (.lst ((wI way).map V.int))/\Qn ak aj way/\H pu=some (.lst (ps.map oV))/\ps.length=aj.length/\H t=some (.tup (Cb k cl))/\Xp H cl c/\i < aj.length/\∀ H',Qu H H'->Q (Cp (Qb6 ak aj way ps k c i)) H'
end L2
namespace BW
open L2
variable {z z0:Int} {m:Hop} {b:Nat} {h:Nat->Int}
abbrev THO:=J7 × List (List Hop)
variable {st:THO}
def btO (o:K8) (z:Int):Bool:=match o with
 | none=>true
 | some t=>decide (t < z)
def geO (o:K8) (z:Int):Prop:=∃ y,o=some y/\z<=y
def geO.mono {o:K8} {z':Int} (h:geO o z) (hz:z'<=z):geO o z':=by let ⟨y,e,hy⟩:=h;exact ⟨y,e,"o"⟩
def Ui (gn:Hop->Int) (st:THO) (m:Hop):THO:=match st.1.getD m.1 none with
 | none=>st
 | some came=>if btO (st.1.getD m.2.2 none) (came + gn m)=true then (st.1.set m.2.2 (some (came + gn m)),st.2.set m.2.2 (st.2.getD m.1 [] ++ [m])) else st
def Qo9 (gn:Hop->Int) (hs:List Hop) (st:THO):THO:=hs.foldl (Ui gn) st
def Ua (gn:Hop->Int) (hs:List Hop) (st:THO) (k:Nat):THO:=(range k).foldl (λst _=>Qo9 gn hs st) st
section
variable {hs:List Hop} {gn:Hop->Int} {n:Nat} {start:J7}
def Jf (st:THO) (k:Nat):Ua gn hs st (k + 1)=Qo9 gn hs (Ua gn hs st k):=by unfold Ua;rw [range_succ,foldl_append];rfl
def Eu:(Ui gn st m).1.length=st.1.length:=by
 unfold Ui
 split
 ·rfl
 ·split <;> simp
def Qy3:(Ui gn st m).2.length=st.2.length:=by
 unfold Ui
 split
 ·rfl
 ·split <;> simp
def Gk {l:J7} {i:Nat} {x:K8} (h:i < l.length):(l.set i x).getD i none=x:=by simp [getD,h]
def Qj8 {l:J7} {i j:Nat} {x:K8} (h:i≠j):(l.set i x).getD j none=l.getD j none:=by simp [getD,getElem?_set_ne h]
theorem Be {x:Nat} (h:geO (st.1.getD x none) z):geO ((Ui gn st m).1.getD x none) z:=by
 unfold Ui
 split
 ·exact h
 ·rename_i came hc
  split
  ·rename_i hb
   by_cases hx:m.2.2=x
   ·subst hx;let ⟨y,e,hy⟩:=h;have hl:m.2.2 < st.1.length:=by refine R4 λz=>?_;rw [getD_eq_getElem?_getD,getElem?_eq_none "o"] at e;cases e
    rw [Gk hl];rw [e] at hb;have:=Q7 hb;exact ⟨_,rfl,"o"⟩
   ·rw [Qj8 hx];exact h
  ·exact h
theorem Qlw (h:m.2.2 < st.1.length) (hz:geO (st.1.getD m.1 none) z):geO ((Ui gn st m).1.getD m.2.2 none) (z + gn m):=by
 let ⟨y,e,hy⟩:=hz;unfold Ui;rw [e];dsimp only
 split
 ·rw [Gk h];exact ⟨_,rfl,"o"⟩
 ·rename_i hb
  cases ht:st.1.getD m.2.2 none with
  | none=>rw [ht] at hb; exact absurd rfl hb
  | some t =>rw [ht] at hb;refine ⟨t,rfl,?_⟩;have:¬ t < y + gn m:=λz=>hb (O8 z);lia
theorem Py {x:Nat} {z:Int}:∀ (l:List Hop) (st:THO),geO (st.1.getD x none) z->geO ((l.foldl (Ui gn) st).1.getD x none) z
 | [],_,h=>h
 | m :: l,st,h=>Py l (Ui gn st m) (Be h)
theorem Ij {m:Hop} {z:Int}:∀ (l:List Hop) (st:THO),m∈l->m.2.2 < st.1.length->geO (st.1.getD m.1 none) z->geO ((l.foldl (Ui gn) st).1.getD m.2.2 none) (z + gn m)
 | m' :: l,st,hm,hl,hz=>by
  rw [foldl_cons];rcases Q8.mp hm with rfl | hm
  ·exact Py l _ (Qlw hl hz)
  ·exact Ij l (Ui gn st m') hm (by rw [Eu]; exact hl) (Be hz)
structure OkO (hs:List Hop) (gn:Hop->Int) (n:Nat) (start:J7) (st:THO):Prop where
 l1:st.1.length=n
 l2:st.2.length=n
 at_:∀ b z,b < n->st.1.getD b none=some z->∃ s z0,s < n/\start.getD s none=some z0/\ChS hs s (st.2.getD b []) b/\z0 + wt gn (st.2.getD b [])=z
def Xk (start:J7):THO:=(start,start.map λ_ => [])
theorem Qww (hl:start.length=n):OkO hs gn n start (Xk start):=by
 refine ⟨hl,by simp [Xk,hl],λb z hb e=>⟨b,z,hb,e,?_,?_⟩⟩
 ·have:(Xk start).2.getD b []=[]:=by simp [Xk,getD,show b < start.length by lia]
  rw [this];exact .nil
 ·have:(Xk start).2.getD b []=[]:=by simp [Xk,getD,show b < start.length by lia]
  rw [this];simp [wt]
theorem Qlv (hlt:∀ m∈hs,m.1 < n/\m.2.2 < n) (ok:OkO hs gn n start st) (hm:m∈hs):OkO hs gn n start (Ui gn st m):=by
 let ⟨h1,h2⟩:=hlt m hm;have l1:=ok.l1;have l2:=ok.l2;refine ⟨by rw [Eu,l1],by rw [Qy3,l2],λb z hb e=>?_⟩;unfold Ui at e ⊢;cases hc:st.1.getD m.1 none with
 | none =>rw [hc] at e;exact ok.at_ b z hb e
 | some came =>
  rw [hc] at e;dsimp only at e ⊢
  by_cases hbt:btO (st.1.getD m.2.2 none) (came + gn m)=true
  ·rw [if_pos hbt] at e ⊢
   by_cases hbm:m.2.2=b
   ·subst hbm;rw [Gk "o"] at e;cases e;let ⟨s,z0,hs1,hs0,hs2,hs3⟩:=ok.at_ m.1 came h1 hc;have e':(st.2.set m.2.2 (st.2.getD m.1 [] ++ [m])).getD m.2.2 []=st.2.getD m.1 [] ++ [m]:=by simp [getD,show m.2.2 < st.2.length by lia]
    refine ⟨s,z0,hs1,hs0,?_,?_⟩
    ·show ChS hs s ((st.2.set m.2.2 (st.2.getD m.1 [] ++ [m])).getD m.2.2 []) m.2.2;rw [e'];exact .snoc hs2 hm
    ·show z0 + wt gn ((st.2.set m.2.2 (st.2.getD m.1 [] ++ [m])).getD m.2.2 [])=_;rw [e',Wz];have:wt gn [m]=gn m:=by simp [wt]
     rw [this];lia
   ·rw [Qj8 hbm] at e;let ⟨s,z0,hs1,hs0,hs2,hs3⟩:=ok.at_ b z hb e;have e':(st.2.set m.2.2 (st.2.getD m.1 [] ++ [m])).getD b []=st.2.getD b []:=by simp [getD,getElem?_set_ne hbm]
    exact ⟨s,z0,hs1,hs0,by show ChS hs s ((st.2.set m.2.2 (st.2.getD m.1 [] ++ [m])).getD b []) b; rw [e']; exact hs2,by show z0 + wt gn ((st.2.set m.2.2 (st.2.getD m.1 [] ++ [m])).getD b [])=z; rw [e']; exact hs3⟩
  ·rw [if_neg hbt] at e ⊢;exact ok.at_ b z hb e
def Tv (hlt:∀ m∈hs,m.1 < n/\m.2.2 < n) (hl:start.length=n) (k:Nat):OkO hs gn n start (Ua gn hs (Xk start) k):=by refine Zu (I:=OkO hs gn n start) (Qww hl) λst _ _ ok=>?_;exact Zu (I:=OkO hs gn n start) ok λst m hm ok=>Qlv hlt ok hm
theorem Dt {x j:Nat} {z:Int} {st:THO}:∀ {k:Nat},j<=k->geO ((Ua gn hs st j).1.getD x none) z->geO ((Ua gn hs st k).1.getD x none) z
 | 0,h,q=>by
  have:j=0:=by lia
  rw [this] at q;exact q
 | k + 1,h,q=>by
  by_cases hj:j=k + 1
  ·rw [<- hj]; exact q
  ·rw [Jf];exact Py hs _ (Dt (k:=k) "o" q)
theorem Qy1 (hlt:∀ m∈hs,m.1 < n/\m.2.2 < n) (hl:start.length=n) {s:Nat} {c:List Hop} (hc:ChS hs s c b) (h0:start.getD s none=some z0):geO ((Ua gn hs (Xk start) c.length).1.getD b none) (z0 + wt gn c):=by
 induction hc with
 | nil=>exact ⟨z0,h0,by simp [wt]⟩
 | @snoc c a r b _ hm ih =>
  rw [length_append,length_singleton,Jf,Wz];have h2:wt gn [(a,r,b)]=gn (a,r,b):=by simp [wt]
  rw [h2,<- Int.add_assoc];exact Ij (m:=(a,r,b)) hs _ hm (by rw [(Tv hlt hl c.length).l1]; exact (hlt _ hm).2) ih
theorem Gu (hp:∀ m∈hs,h m.1 + gn m<=h m.2.2) (hlt:∀ m∈hs,m.1 < n/\m.2.2 < n) (hl:start.length=n) {s:Nat} {c:List Hop} (hsn:s < n) (hc:ChS hs s c b) (h0:start.getD s none=some z0):geO ((Ua gn hs (Xk start) n).1.getD b none) (z0 + wt gn c):=by let ⟨c',g1,g2,g3⟩:=Ct hp hlt _ (O1 _) hsn hc;exact (Dt (j:=c'.length) (k:=n) "o" (Qy1 hlt hl g1 h0)).mono "o"
theorem Hh (hp:∀ m∈hs,h m.1 + gn m<=h m.2.2) (hlt:∀ m∈hs,m.1 < n/\m.2.2 < n) (hl:start.length=n) (hm:m∈hs) (hz:(Ua gn hs (Xk start) n).1.getD m.1 none=some z):geO ((Ua gn hs (Xk start) n).1.getD m.2.2 none) (z + gn m):=by
 let ⟨s,z0,h1,h0,h2,h3⟩:=(Tv (gn:=gn) hlt hl n).at_ m.1 z (hlt m hm).1 hz;have h4:ChS hs s ((Ua gn hs (Xk start) n).2.getD m.1 [] ++ [(m.1,m.2.1,m.2.2)]) m.2.2:=.snoc h2 hm;have h5:=Gu hp hlt hl h1 h4 h0;rw [Wz] at h5;have h6:wt gn [(m.1,m.2.1,m.2.2)]=gn m:=by simp [wt]
 rw [h6] at h5;exact h5.mono "o"
def Fz (hp:∀ m∈hs,h m.1 + gn m<=h m.2.2) (hlt:∀ m∈hs,m.1 < n/\m.2.2 < n) (hl:start.length=n) (hb:b < n) (h0:start.getD b none=some z0):geO ((Ua gn hs (Xk start) n).1.getD b none) z0:=by have:=Gu (gn:=gn) hp hlt hl hb (.nil:ChS hs b [] b) h0;simpa [wt] using this
def Qq3 (hp:∀ m∈hs,h m.1 + gn m<=h m.2.2) (hlt:∀ m∈hs,m.1 < n/\m.2.2 < n) (hl:start.length=n) (iy:∀ a b,a < n->b < n->a≠b->∃ r,(a,r,b)∈hs) {s:Nat} (hs0:s < n) (h0:start.getD s none=some z0) (hb:b < n):∃ z,(Ua gn hs (Xk start) n).1.getD b none=some z:=by
 by_cases e:s=b
 ·subst e;let ⟨z,e1,_⟩:=Fz hp hlt hl hs0 h0;exact ⟨z,e1⟩
 ·let ⟨r,hr⟩:=iy s b hs0 hb e;have hc:ChS hs s ([] ++ [(s,r,b)]) b:=.snoc .nil hr;let ⟨z,e1,_⟩:=Gu hp hlt hl hs0 hc h0;exact ⟨z,e1⟩
def Qy2 (h:∀ b,st.1.getD b none=none):Ui gn st m=st:=by unfold Ui;rw [h]
theorem Bi {st:THO} (h:∀ b,st.1.getD b none=none):∀ l:List Hop,l.foldl (Ui gn) st=st
 | []=>rfl
 | m :: l=>by rw [foldl_cons,Qy2 h]; exact Bi h l
theorem Dr {st:THO} (h:∀ b,st.1.getD b none=none):∀ k,Ua gn hs st k=st
 | 0=>rfl
 | k + 1=>by rw [Jf,Dr h k]; exact Bi h hs
end
end BW
namespace L2
open PySem PySem.Spec PyProof.Rows BW
variable {c:Nat} {st:THO}
def To (ak:K3) (aj:J5) (way:K4) (n:Int) (lv:K3):Prop:=∀ a b r:Nat,a < aj.length->b < aj.length->a≠b->(r:Int)∈Zm true ak way a b->lv.getD a 0 + n * Zn true aj way a r b<=lv.getD b 0
section
variable {ak:K3} {aj:J5} {way:K4} {ao n:Int} {lv rows:K3}
theorem Pk (n0:0 < n) (hc:To ak aj way n lv) {i r:Nat} (hi:i < aj.length) (hcn:c < aj.length) (hr:r=way.getD c 0\/(r:Int)∈Yu ak (wI way)) (hown:i=c->wF aj i r<=Zh aj way i) :
  n * wF aj i r - Xd true aj way lv n c<=n * Zh aj way i - Xd true aj way lv n i:=by
 by_cases e:i=c
 ·have h1:=T9 (hown e) (show 0<=n by lia);subst e;lia
 unfold Xd;have hm:(r:Int)∈Zm true ak way c i:=by
  rcases hr with h | h
  ·rw [h]; exact Vb true ak way c i
  ·exact Gw h
 have h1:=hc c i r hcn hi (Ne.symm e) hm;simp only [if_pos,Zn] at h1 ⊢;rw [Int.mul_sub] at h1;lia
theorem Av (n0:0 < n) (hc:To ak aj way n lv) {b:Nat} (hb:b < aj.length) (hcn:c < aj.length) (ho:((way.getD b 0:Nat):Int)∈Yu ak (wI way)):Xd true aj way lv n b<=Xd true aj way lv n c:=by have h:=Pk n0 hc (i:=b) (c:=c) (r:=way.getD b 0) hb hcn (.inr ho) (λ_=>Q6 _);have e:wF aj b (way.getD b 0)=Zh aj way b:=rfl;rw [e] at h;lia
theorem Qz3 (n0:0 < n) (hc:To ak aj way n lv) {a b:Nat} (ha:a < aj.length) (hb:b < aj.length) (h:way.getD a 0=way.getD b 0):Xd true aj way lv n a=Xd true aj way lv n b:=by
 by_cases e:a=b
 ·rw [e]
 have h1:=hc a b _ ha hb e (Vb true ak way a b);have h2:=hc b a _ hb ha (Ne.symm e) (Vb true ak way b a);unfold Xd;simp only [if_pos,Zn] at h1 h2 ⊢;have e1:wF aj b (way.getD a 0)=Zh aj way b:=by rw [h]; rfl
 have e2:wF aj a (way.getD b 0)=Zh aj way a:=by rw [<- h]; rfl
 rw [e1,Int.mul_sub] at h1;rw [e2,Int.mul_sub] at h2;lia
theorem Ej (n0:0 < n) (lw:way.length=aj.length) (lt:∀ r∈way,r < ak.length) (hc:To ak aj way n lv) (h:Vz ak way (Xz true aj way lv n) rows) {p:Nat} (hp:p < aj.length):rows.getD (way.getD p 0) 0=Xd true aj way lv n p:=by
 have hp':p < way.length:=by lia
 have hm:way.getD p 0∈way:=Dw hp';generalize hr0:way.getD p 0=r at *;have hr2:r < rows.length:=by rw [h.1]; exact lt _ hm
 have h2:=h.2 r (rows[r]'hr2) (R3 hr2);unfold Rw at h2;rw [if_pos hm] at h2;have hi:way.idxOf r < way.length:=A0q.mpr hm;have hg:way.getD (way.idxOf r) 0=r:=by rw [getD_get _ _ hi]; exact getElem_idxOf hi
 rw [getD_get _ _ hr2,h2];have hi2:way.idxOf r < aj.length:=by lia
 have lc:(Xz true aj way lv n).length=aj.length:=by simp [Xz]
 rw [getD_get _ _ (by rw [lc]; exact hi2)];have e2:∀ (k:Nat) (hk:k < (Xz true aj way lv n).length),(Xz true aj way lv n)[k]=Xd true aj way lv n k:=λk hk=>by simp [Xz]
 rw [e2];exact Qz3 n0 hc hi2 hp (by rw [hg,hr0])
def Rp {cs:K3} (h:Vz ak way cs rows) {r:Nat} (hr:r < ak.length) (hw:r ∉ way):Yv (rows.getD r 0) cs:=by
 have hr2:r < rows.length:=by rw [h.1]; exact hr
 have h2:=h.2 r (rows[r]'hr2) (R3 hr2);unfold Rw at h2;rw [if_neg hw] at h2;rw [getD_get _ _ hr2];exact h2
def Lm {c:Int} (h:c∈Xz true aj way lv n):∃ p,p < aj.length/\c=Xd true aj way lv n p:=by let ⟨p,hp,rfl⟩:=O3.mp h;exact ⟨p,N8.mp hp,rfl⟩
def Lw {p:Nat} (h:p < aj.length):Xd true aj way lv n p∈Xz true aj way lv n:=O3.mpr ⟨p,N8.mpr h,rfl⟩
theorem Qwv (lw:way.length=aj.length) (lv_l:lv.length=aj.length) (hs:lv.sum=n * (wsum (wF aj) way - ao)):(Xz true aj way lv n).sum=n * ao:=by
 have h2:((range aj.length).map λi=>lv.getD i 0)=lv:=by rw [<- lv_l]; exact range_getD _
 unfold Xz;have e:((range aj.length).map (Xd true aj way lv n))=(range aj.length).map λi=>n * Zh aj way i - lv.getD i 0:=R6 λi _=>by simp [Xd]
 rw [e,Wl,h2,hs];have ew:((range aj.length).map (Zh aj way)).sum=wsum (wF aj) way:=by unfold wsum;rw [lw];rfl
 rw [ew,<- Int.mul_sub]
 congr 1
 lia
theorem Zz9 (n0:0 < n) (ok:Qn ak aj way) (f9:Fit (bF ak) way) (fj:Opt ak aj way) (hb1:∀ b∈ak,1<=b) (hc:To ak aj way n lv) (lv_l:lv.length=aj.length) (hs:lv.sum=n * (wsum (wF aj) way - ao)) (h:Vz ak way (Xz true aj way lv n) rows) {d k:Int} {R:K3} (low:Low n rows d k R):Fp.is ⟨ak,aj,ao,way,k,R⟩ .none:=by
 have lw:=ok.len;have d0:=low.d0;have hat:∀ {p:Nat},p < aj.length->rows.getD (way.getD p 0) 0=Xd true aj way lv n p:=λhp=>Ej n0 lw ok.lt hc h hp;refine ⟨?_,λi r hi hr he=>?_,λr q hr hq hd=>?_⟩
 ·show (way.map λr=>R.getD r 0).sum=k * ao;have h1:(way.map λr=>rows.getD r 0).sum=n * ao:=by
   rw [<- Qwv (ao:=ao) lw lv_l hs]
   congr 1
   refine U7 (by simp [Xz,lw]) λp a b=>?_;have hp:p < way.length:=by simpa using a
   have e:=hat (p:=p) "o";rw [getD_get _ _ hp] at e;simp only [getElem_map,Xz,getElem_range];exact e
  rw [low.sum,low.n_,Int.mul_assoc] at h1;exact A1b "o" h1
 ·have hi':i < aj.length:=hi;have hr':r < ak.length:=hr;have h1:n * wF aj i r - rows.getD r 0<=n * wF aj i (way.getD i 0) - rows.getD (way.getD i 0) 0:=by
   rw [hat hi']
   by_cases hw:r∈way
   ·let ⟨c,hc1,hc2⟩:=Qbx hw;have e:=hat (p:=c) "o";rw [hc2] at e;rw [e];refine Pk n0 hc hi' (c:=c) (r:=r) "o" (.inl hc2.symm) λz=>?_;subst z;rw [<- hc2];exact Q6 _
   ·let ⟨h1,h2⟩:=Rp h hr' hw;let ⟨c,hc1,hc2⟩:=Lm h1;have ho:way.count r < bF ak r:=by rw [count_eq_zero.mpr hw];have:=hb1 (ak[r]) (M9 hr');unfold bF;rw [getD_get _ _ hr'];lia
    rw [hc2];exact Pk n0 hc hi' (c:=c) (r:=r) hc1 (.inr (Kh hr' ho)) λ_=>Em ok f9 fj hi' hr' ho
  have he':k * wF aj i (way.getD i 0) - R.getD (way.getD i 0) 0 < k * wF aj i r - R.getD r 0:=he;have h2:=A1m he' d0;rw [low.at_,low.at_,low.n_,Int.mul_assoc,Int.mul_assoc,<- Int.mul_sub,<- Int.mul_sub] at h1;lia
 ·let ⟨h1,h2,h3⟩:=hd;have hqw:q∈way:=V8.mp h2;have hr':r < ak.length:=hr;have h4:rows.getD r 0<=rows.getD q 0:=by
   let ⟨c,hc1,hc2⟩:=Qbx hqw;have e:=hat (p:=c) "o";rw [hc2] at e;rw [e]
   by_cases hw:r∈way
   ·let ⟨b,hb1,hb2⟩:=Qbx hw;have e2:=hat (p:=b) "o";rw [hb2] at e2;rw [e2];refine Av n0 hc "o" "o" ?_;rw [hb2];exact Kh hr' h1
   ·exact (Rp h hr' hw).2 _ (Lw "o")
  have h5:R.getD q 0 < R.getD r 0:=h3;have h6:=A1m h5 d0;rw [low.at_,low.at_] at h4;lia
end
def Va (n:Nat) (g h:Nat->Int) (S:K4):Int:=((range n).map λi=>if i∈S then g i else h i).sum
section
variable {n:Nat} {g h:Nat->Int} {W:Int} {od:K4}
theorem Qm9 (hnd:od.Nodup) (hlt:∀ i∈od,i < n) (hc:c < od.length):Va n g h (od.take (c + 1))=Va n g h (od.take c) - (h od[c] - g od[c]):=by
 have htk:od.take (c + 1)=od.take c ++ [od[c]]:=by rw [take_succ]; simp [hc]
 have kh:od[c] ∉ od.take c:=λz=>by rw [<- take_append_drop (c + 1) od,htk,append_assoc] at hnd;have:=(nodup_append.mp hnd).2.2 _ z od[c] (R5 _ (mem_singleton.mpr rfl));exact this rfl
 unfold Va;have hx:od[c] < n:=hlt _ (M9 hc);rw [Nb (f:=λi=>if i∈od.take (c + 1) then g i else h i) (g:=λi=>if i∈od.take c then g i else h i) (j:=od[c]) hx (λi hi=>by
  rw [htk]
  by_cases hm:i∈od.take c
  ·rw [if_pos hm,if_pos (mem_append_left _ hm)]
  ·rw [if_neg hm,if_neg (λz=>(mem_append.mp z).elim hm λy=>hi (by simpa using y))])]
 rw [if_neg kh,if_pos (by rw [htk]; exact mem_append_right _ (mem_singleton.mpr rfl))];lia
def Dq (n:Nat) (g h:Nat->Int) (W:Int) (od:K4) (c:Nat):Int:=W - Va n g h (od.take c)
theorem Ml (hnd:od.Nodup) (hlt:∀ i∈od,i < n) (hc:c < od.length):Dq n g h W od (c + 1)=Dq n g h W od c + (h od[c] - g od[c]):=by unfold Dq;rw [Qm9 hnd hlt hc];lia
structure Vq (n:Nat) (g h:Nat->Int) (W:Int) (od:K4) (k c:Nat):Prop where
 c1:1<=c
 ck:c<=k
 le:∀ j:Nat,1<=j->j<=k->Dq n g h W od c * (j:Int)<=Dq n g h W od j * (c:Int)
theorem Vq.one:Vq n g h W od 1 1:=⟨"o","o",λj h1 h2=>by
 have:j=1:=by lia
 subst this;exact Q6 _⟩
theorem Vq.keep {k:Nat} (l:Vq n g h W od k c) (hk:¬ Dq n g h W od (k + 1) * (c:Int) < Dq n g h W od c * ((k + 1:Nat):Int)):Vq n g h W od (k + 1) c:=⟨l.c1,by have:=l.ck; lia,λj h1 h2=>by
 by_cases e:j=k + 1
 ·subst e;lia
 ·exact l.le j h1 "o"⟩
theorem Vq.next {k:Nat} (l:Vq n g h W od k c) (hk:Dq n g h W od (k + 1) * (c:Int) < Dq n g h W od c * ((k + 1:Nat):Int)):Vq n g h W od (k + 1) (k + 1):=⟨"o","o",λj h1 h2=>by
 by_cases e:j=k + 1
 ·subst e;exact Q6 _
 ·have h3:=l.le j h1 "o";have hc:(0:Int) < (c:Int):=by have:=l.c1; lia
  have hj:(0:Int)<=(j:Int):=by lia
  have hk1:(0:Int)<=((k + 1:Nat):Int):=by lia
  have h4:=U0 (U9 hk) hj;have h5:=U0 h3 hk1;generalize Dq n g h W od (k + 1)=x at *;generalize Dq n g h W od c=y at *;generalize Dq n g h W od j=z at *;generalize ((k + 1:Nat):Int)=kk at *;have e1:x * (c:Int) * (j:Int)=(x * (j:Int)) * (c:Int):=by rw [Int.mul_assoc,Int.mul_comm (c:Int),<- Int.mul_assoc]
  have e2:y * kk * (j:Int)=y * (j:Int) * kk:=by rw [Int.mul_assoc,Int.mul_comm kk,<- Int.mul_assoc]
  have e3:z * (c:Int) * kk=(z * kk) * (c:Int):=by rw [Int.mul_assoc,Int.mul_comm (c:Int),<- Int.mul_assoc]
  rw [e1,e2] at h4;rw [e3] at h5;exact A1h (T6 h4 h5) hc⟩
theorem Vq.split (hnd:od.Nodup) (hlt:∀ i∈od,i < n) (iy:∀ i,i < n->i∈od) (ju:od.Pairwise λa b=>h a - g a<=h b - g b) (hn:od.length=n) (jb:((range n).map h).sum<=W) (l:Vq n g h W od n c) :
  (∀ i∈od.take c,(c:Int) * h i<=Dq n g h W od c + (c:Int) * g i)/\∀ i,i < n->i ∉ od.take c->Dq n g h W od c + (c:Int) * g i<=(c:Int) * h i:=by
 have c1:=l.c1;have cn:=l.ck;have hc0:(0:Int) < (c:Int):=by lia
 have key:∀ (j:Nat) (hj:j < od.length),(j < c->(c:Int) * (h od[j] - g od[j])<=Dq n g h W od c)/\(c<=j->Dq n g h W od c<=(c:Int) * (h od[j] - g od[j])):=by
  have oh:∀ (i j:Nat) (hi:i < od.length) (hj:j < od.length),i<=j->h od[i] - g od[i]<=h od[j] - g od[j]:=λi j hi hj hij=>by
   by_cases e:i=j
   ·subst e; exact Q6 _
   ·exact (A1c.mp ju) i j hi hj "o"
  intro j hj;refine ⟨λhjc=>?_,λhcj=>?_⟩
  ·have hc':c - 1 < od.length:=by lia
   have h1:=oh j (c - 1) hj hc' "o";refine T6 (T9 h1 "o") ?_
   by_cases e:c=1
   ·subst e;have h2:=Ml (g:=g) (h:=h) (W:=W) hnd hlt (c:=0) "o";have h3:Dq n g h W od 0=W - ((range n).map h).sum:=by simp [Dq,Va]
    simp only [Nat.sub_self] at *;rw [h3] at h2;simp only [Nat.zero_add] at h2;rw [h2];simp;lia
   ·have h2:=Ml (g:=g) (h:=h) (W:=W) hnd hlt (c:=c - 1) hc';rw [show c - 1 + 1=c by lia] at h2;have h3:=l.le (c - 1) "o" "o";have e1:Dq n g h W od (c - 1)=Dq n g h W od c - (h od[c - 1] - g od[c - 1]):=by lia
    rw [e1,Int.sub_mul,show ((c - 1:Nat):Int)=(c:Int) - 1 by lia,Int.mul_sub,Int.mul_one] at h3;rw [Int.mul_comm (c:Int)];lia
  ·have hcl:c < od.length:=by lia
   have h1:=oh c j hcl hj hcj;refine T6 ?_ (T9 h1 "o");have h2:=Ml (g:=g) (h:=h) (W:=W) hnd hlt (c:=c) hcl;have h3:=l.le (c + 1) "o" "o";rw [h2,Int.add_mul,show ((c + 1:Nat):Int)=(c:Int) + 1 by lia,Int.mul_add,Int.mul_one] at h3;rw [Int.mul_comm (c:Int)];lia
 refine ⟨λi hi=>?_,λi hi hni=>?_⟩
 ·let ⟨j,hj,rfl⟩:=A0u hi;rw [getElem_take];rw [length_take] at hj;have:=(key j "o").1 "o";rw [Int.mul_sub] at this;lia
 ·let ⟨j,hj,rfl⟩:=A0u (iy i hi);have hcj:c<=j:=by refine Nat.le_of_not_lt λz=>hni ?_;exact mem_take_iff_getElem.mpr ⟨j,"o",rfl⟩
  have:=(key j hj).2 hcj;rw [Int.mul_sub] at this;lia
end
structure Kept (n:Nat) (g h:Nat->Int) (W:Int) (S:K4):Prop where
 nd:S.Nodup
 lt:∀ i∈S,i < n
 pos:0 < S.length
 up:∀ i∈S,(S.length:Int) * h i<=(W - Va n g h S) + (S.length:Int) * g i
 dn:∀ i,i < n->i ∉ S->(W - Va n g h S) + (S.length:Int) * g i<=(S.length:Int) * h i
def lvK (n:Nat) (g h:Nat->Int) (W:Int) (S:K4):K3:=(range n).map λi=>if i∈S then (W - Va n g h S) + (S.length:Int) * g i else (S.length:Int) * h i
section
variable {n:Nat} {g h:Nat->Int} {W:Int} {S:K4}
def Sz:(lvK n g h W S).length=n:=by simp [lvK]
def Ad {i:Nat} (hi:i < n):(lvK n g h W S).getD i 0=if i∈S then (W - Va n g h S) + (S.length:Int) * g i else (S.length:Int) * h i:=by simp [lvK,getD,hi]
def Kept.ge (k:Kept n g h W S) {i:Nat} (hi:i < n):(W - Va n g h S) + (S.length:Int) * g i<=(lvK n g h W S).getD i 0/\(S.length:Int) * h i<=(lvK n g h W S).getD i 0:=by
 rw [Ad hi]
 by_cases hm:i∈S
 ·rw [if_pos hm];exact ⟨Q6 _,k.up i hm⟩
 ·rw [if_neg hm];exact ⟨k.dn i hi hm,Q6 _⟩
theorem Qj6 (B:Int):∀ (S:K4) (n:Nat),S.Nodup->(∀ i∈S,i < n)->((range n).map λi=>if i∈S then B else 0).sum=(S.length:Int) * B
 | [],n,_,_=>by have:((range n).map λi=>if i∈([]:K4) then B else 0)=(range n).map λ_=>(0:Int):=R6 λi _=>U6 (by simp);rw [this,Pz];simp
 | x :: S,n,hnd,hlt=>by
  have hx:x < n:=hlt x O9;let ⟨hn,hnd'⟩:=nodup_cons.mp hnd;rw [Nb (f:=λi=>if i∈x :: S then B else 0) (g:=λi=>if i∈S then B else 0) (j:=x) hx (λi hi=>by
   by_cases hm:i∈S
   ·rw [if_pos hm,if_pos (mem_cons_of_mem _ hm)]
   ·rw [if_neg hm,if_neg (λz=>(mem_cons.mp z).elim hi hm)]),Qj6 B S n hnd' λi hi=>hlt i (mem_cons_of_mem _ hi)]
  rw [if_neg hn,if_pos mem_cons_self,length_cons];rw [show ((S.length + 1:Nat):Int)=(S.length:Int) + 1 by lia,Int.add_mul];lia
theorem Ai (f e:Nat->Int):∀ l:K4,(l.map λi=>f i + e i).sum=(l.map f).sum + (l.map e).sum
 | []=>rfl
 | a :: l=>by simp only [map_cons,sum_cons,Ai f e l];lia
theorem Mx (c:Int) (f:Nat->Int):∀ l:K4,(l.map λi=>c * f i).sum=c * (l.map f).sum
 | []=>by simp
 | a :: l=>by simp only [map_cons,sum_cons,Mx c f l,Int.mul_add]
theorem Kept.sum (k:Kept n g h W S):(lvK n g h W S).sum=(S.length:Int) * W:=by
 have e:lvK n g h W S=(range n).map λi=>(if i∈S then (W - Va n g h S) else 0) + (S.length:Int) * (if i∈S then g i else h i):=R6 λi _=>by
  by_cases hm:i∈S
  ·simp only [if_pos hm]
  ·simp only [if_neg hm]; lia
 rw [e,Ai,Qj6 _ S n k.nd k.lt,Mx];show (S.length:Int) * (W - Va n g h S) + (S.length:Int) * Va n g h S=_;rw [<- Int.mul_add]
 congr 1
 lia
end
theorem Kept.least {n:Nat} {h:Nat->Int} {W:Int} {S:K4} {hs:List Hop} {gn:Hop->Int} {st:TC} (k:Kept n (λi=>st.1.getD i 0) h W S) (ok:OkC hs gn n st) (nn:∀ b,b < n->0<=st.1.getD b 0) (hg:∀ m∈hs,st.1.getD m.1 0 + gn m<=st.1.getD m.2.2 0) (hh:∀ m∈hs,h m.1 + gn m<=h m.2.2) (hlt:∀ m∈hs,m.1 < n/\m.2.2 < n) :
  (∀ i,i < n->W - Va n (λi=>st.1.getD i 0) h S<=(lvK n (λi=>st.1.getD i 0) h W S).getD i 0)/\∃ i,i < n/\(lvK n (λi=>st.1.getD i 0) h W S).getD i 0=W - Va n (λi=>st.1.getD i 0) h S:=by
 refine ⟨λi hi=>?_,?_⟩
 ·have h1:=(k.ge hi).1;have h2:=A0r (show (0:Int)<=(S.length:Int) by lia) (nn i hi);lia
 ·let ⟨i,hi⟩:=exists_mem_of_length_pos k.pos;let ⟨s,hs1,hs2,hs3⟩:=ok.at_ i (k.lt i hi);have p1:=hs2.pot (h:=λx=>st.1.getD x 0) hg;have p2:=hs2.pot (h:=h) hh;have z0:st.1.getD s 0=0:=by have:=nn s hs1;lia
  have u:=k.up i hi;have m0:(0:Int)<=(S.length:Int):=by lia
  have p3:(S.length:Int) * h s<=W - Va n (λi=>st.1.getD i 0) h S:=by
   have h1:h s<=h i - st.1.getD i 0:=by lia
   have h2:=T9 h1 m0;rw [Int.mul_sub] at h2;lia
  refine ⟨s,hs1,?_⟩;rw [Ad hs1]
  by_cases hm:s∈S
  ·rw [if_pos hm,z0,Int.mul_zero,Int.add_zero]
  ·rw [if_neg hm];have d:=k.dn s hs1 hm;simp only [z0,Int.mul_zero,Int.add_zero] at d;lia
theorem Kept.closed {ak:K3} {aj:J5} {way:K4} {g h:Nat->Int} {W:Int} {S:K4} (k:Kept aj.length g h W S) (hg:∀ a b r:Nat,a < aj.length->b < aj.length->a≠b->(r:Int)∈Zm true ak way a b->g a + Zn true aj way a r b<=g b) (hh:∀ a b r:Nat,a < aj.length->b < aj.length->a≠b->(r:Int)∈Zm true ak way a b->h a + Zn true aj way a r b<=h b):To ak aj way (S.length:Int) (lvK aj.length g h W S):=λa b r ha hb hab hr=>by
 have m0:(0:Int)<=(S.length:Int):=by lia
 let ⟨b1,b2⟩:=k.ge hb;rw [Ad ha]
 by_cases hm:a∈S
 ·rw [if_pos hm];have h1:=T9 (hg a b r ha hb hab hr) m0;rw [Int.mul_add] at h1;lia
 ·rw [if_neg hm];have h1:=T9 (hh a b r ha hb hab hr) m0;rw [Int.mul_add] at h1;lia
theorem Kept.all {n:Nat} (g:Nat->Int) (W:Int) (hn:0 < n):∃ c:Int,Kept n g (λi=>g i - c) W (range n):=by
 refine ⟨if W - Va n g g (range n) < 0 then -(W - Va n g g (range n)) else 0,nodup_range,λi hi=>N8.mp hi,by simpa using hn,λi hi=>?_,λi hi hni=>absurd (N8.mpr hi) hni⟩;have e:∀ h:Nat->Int,Va n g h (range n)=Va n g g (range n):=λh=>by
  unfold Va
  congr 1
  exact R6 λi hi=>by rw [if_pos hi,if_pos hi]
 generalize hc:(if W - Va n g g (range n) < 0 then -(W - Va n g g (range n)) else 0)=c;rw [e (λi=>g i - c),length_range,Int.mul_sub];generalize W - Va n g g (range n)=B at *;have n1:(1:Int)<=(n:Int):=by lia
 have hcb:0<=c/\-B<=c:=by
  rw [<- hc]
  split <;> lia
 have h1:c * 1<=c * (n:Int):=T9 n1 hcb.1;rw [Int.mul_comm c (n:Int)] at h1;lia
structure Ug (H:Hp) (ga mv:G5) (st:THO):Prop where
 ne:ga≠mv
 g:H ga=some (.lst (st.1.map oV))
 ex:∃ ls:K6,H mv=some (.lst (ls.map V.ref))/\ls.length=st.2.length/\(∀ a∈ls,a≠ga/\a≠mv)/\∀ (i:Nat) a c,ls[i]? = some a->st.2[i]? = some c->Zw H a c
def Ug.same {H H':Hp} {ga mv:G5} {st:THO} (h:Ug H ga mv st) (s:Qu H H'):Ug H' ga mv st:=by let ⟨ls,e1,e2,e3,e4⟩:=h.ex;exact ⟨h.ne,s _ _ h.g,ls,s _ _ e1,e2,e3,λi a c h1 h2=>(e4 i a c h1 h2).same s⟩
def Ug.bf {H H':Hp} {ga mv:G5} {st:THO} (h:Ug H ga mv st) (s:Qt H H'):Ug H' ga mv st:=by let ⟨ls,e1,e2,e3,e4⟩:=h.ex;exact ⟨h.ne,s.to _ _ h.g rfl,ls,s.to _ _ e1 rfl,e2,e3,λi a c h1 h2=>(e4 i a c h1 h2).bf s⟩
def Ug.gset {H:Hp} {ga mv:G5} {gs':J7} (h:Ug H ga mv st):Ug (upd H ga (.lst (gs'.map oV))) ga mv (gs',st.2):=by
 let ⟨ls,e1,e2,e3,e4⟩:=h.ex;refine ⟨h.ne,Qk,ls,by rw [Qv h.ne.symm]; exact e1,e2,e3,λi a c h1 h2=>(e4 i a c h1 h2).keep (λo e=>?_) λt xs e=>?_⟩
 ·rw [Qv (e3 a (mem_of_getElem? h1)).1]; exact e
 ·rw [Qv (Jw e h.g (by intro z; cases z))]; exact e
theorem Ug.mset {H:Hp} {ga mv n:G5} {ls:K6} {r:Nat} {c:List Hop} (h:Ug H ga mv st) (e1:H mv=some (.lst (ls.map V.ref))) (hr:r < ls.length) (hn1:n≠ga) (hn2:n≠mv) (hc:Zw H n c) :
  Ug (upd H mv (.lst ((ls.map V.ref).set r (.ref n)))) ga mv (st.1,st.2.set r c):=by
 let ⟨ls',f1,e2,e3,e4⟩:=h.ex;rw [e1] at f1;have:ls'=ls:=(Eb (HO.lst.inj (Q9 f1))).symm;subst this;have kp:∀ a c,Zw H a c->a≠mv->Zw (upd H mv (.lst ((ls'.map V.ref).set r (.ref n)))) a c:=λa c hc hne=>hc.keep (λo e=>by rw [Qv hne]; exact e) λt xs e=>by rw [Qv (Jw e e1 (by intro z; cases z))]; exact e
 refine ⟨h.ne,by rw [Qv h.ne]; exact h.g,ls'.set r n,by rw [Qk,map_set],by simp [e2],λa ha=>?_,λi a c' h1 h2=>?_⟩
 ·rcases A0c ha with z | z
  ·exact e3 a z
  ·rw [z]; exact ⟨hn1,hn2⟩
 ·by_cases hi:r=i
  ·subst hi;rw [getElem?_set_self hr] at h1;rw [getElem?_set_self "o"] at h2;cases h1;cases h2;exact kp _ _ hc hn2
  ·rw [getElem?_set_ne hi] at h1;rw [getElem?_set_ne hi] at h2;exact kp _ _ (e4 i a c' h1 h2) (e3 a (R9 h1)).2
theorem Fj {gn:Hop->Int} {m:Hop} {N:Nat} (h:∀ c∈st.2,c.length<=N):∀ c∈(Ui gn st m).2,c.length<=N + 1:=by
 unfold Ui
 split
 ·intro c hc;have:=h c hc;lia
 split
 ·intro c hc;rcases A0c hc with z | z
  ·have:=h c z; lia
  ·rw [z,length_append,length_singleton];have:(st.2.getD m.1 []).length<=N:=by
    by_cases hl:m.1 < st.2.length
    ·have e:st.2.getD m.1 []=st.2[m.1]:=by simp [getD,hl]
     rw [e]; exact h _ (M9 hl)
    ·rw [getD_eq_getElem?_getD,getElem?_eq_none "o"];simp
   lia
 ·intro c hc;have:=h c hc;lia
def Qk9:Sp:=λvs H Q _ => ∃ (hl gl tl cl:G5) (aq:List Hop) (gn:Hop->Int) (n N:Nat) (st:THO) (F:G5->Prop),vs=[.ref hl,.ref gl,.ref tl,.ref cl]/\Zw H hl aq/\H gl=some (.lst ((aq.map gn).map V.int))/\Ug H tl cl st/\TCF F H cl/\(∀ a,H a=none->F a)/\hl≠tl/\hl≠cl/\gl≠tl/\gl≠cl/\(∀ m∈aq,m.1 < n/\m.2.2 < n)/\st.1.length=n/\st.2.length=n/\aq.length<=100/\(∀ c∈st.2,c.length<=N)/\N + aq.length<=5000 /\
 ∀ H',(∀ b o,H b=some o->b≠tl->b≠cl->H' b=some o)->(∀ b,H' b=none->H b=none)->Ug H' tl cl (Qo9 gn aq st)->TCF F H' cl->(∀ c∈(Qo9 gn aq st).2,c.length<=N + aq.length)->Q .non H'
structure Gv (H:Hp) (t tl cl:G5) (ak:K3) (aj:J5) (way:K4) (aq:List Hop) (start:J7) (st:THO):Prop where
 tup:H t=some (.tup [.ref tl,.ref cl])
 tc:Ug H tl cl st
 good:Xs true ak aj way aq
 is_:st=Ua (gnF true aj way) aq (Xk start) aj.length
def Qkz (CH CW PT:G5) (bh:Pos) (qual:Str):Sp:=λvs H Q _ => ∃ (p sl:G5) (ak:K3) (aj:J5) (ao:Int) (way:K4) (start:J7),vs=[.ref p,.ref sl]/\Xn CH CW H p ak aj ao way/\Qn ak aj way/\Qa H PT bh qual/\H sl=some (.lst (start.map oV))/\start.length=aj.length /\
 ∀ (t tl cl:G5) (aq:List Hop) (st:THO) (H':Hp),Qt H H'->Yt PT H H'->Qa H' PT bh qual->H tl=none->H cl=none->H t=none->TCF (λa=>H a=none) H' cl->(∀ c∈st.2,c.length<=5000)->Gv H' t tl cl ak aj way aq start st->Q (.ref t) H'
end L2
namespace BW
open L2
section
variable {hs:List Hop} {gn:Hop->Int} {n:Nat}
def upO (st:TC):THO:=(st.1.map some,st.2)
def Qd1 {st:TC} {i:Nat} (h:i < st.1.length):(upO st).1.getD i none=some (st.1.getD i 0):=by simp [upO,getD,h]
def Qlj {st:TC} {m:Hop} (h1:m.1 < st.1.length) (h2:m.2.2 < st.1.length):Ui gn (upO st) m=upO (Bw gn st m):=by
 unfold Ui Bw;rw [Qd1 h1,Qd1 h2];dsimp only
 by_cases h:st.1.getD m.2.2 0 < st.1.getD m.1 0 + gn m
 ·have hb:btO (some (st.1.getD m.2.2 0)) (st.1.getD m.1 0 + gn m)=true:=O8 h;rw [if_pos hb,if_pos h];simp [upO,map_set]
 ·have hb:¬ btO (some (st.1.getD m.2.2 0)) (st.1.getD m.1 0 + gn m)=true:=λz=>h (Q7 z);rw [if_neg hb,if_neg h]
theorem Iz:∀ (l:List Hop) (st:TC),(∀ m∈l,m.1 < st.1.length/\m.2.2 < st.1.length)->l.foldl (Ui gn) (upO st)=upO (l.foldl (Bw gn) st)
 | [],_,_=>rfl
 | m :: l,st,h=>by let ⟨a,b⟩:=h m O9;rw [foldl_cons,foldl_cons,Qlj a b];exact Iz l (Bw gn st m) λx hx=>by rw [Eg]; exact h x (Q0 _ hx)
theorem Ek (hlt:∀ m∈hs,m.1 < n/\m.2.2 < n):∀ k,Ua gn hs (upO (Jj n)) k=upO (Vj gn hs (Jj n) k)
 | 0=>rfl
 | k + 1=>by rw [Jf,Pj,Ek hlt k];exact Iz hs _ λm hm=>by rw [(Nh hlt k).l1];exact hlt m hm
def Sm:Xk (replicate n (some 0))=upO (Jj n):=by simp [Xk,upO,Jj]
end
end BW
namespace L2
open PySem PySem.Spec PyProof.Rows BW
variable {st:THO} {aq:List Hop} {way L:K4} {aj:J5} {ak R:K3} {H:Hp} {i n:Nat} {ps:J7} {xs:List V} {W ao m:Int} {g h:Nat->Int} {rows rws:List (K8 × List Xx)} {D:G5}
def Gv.great {t tl cl:G5} (aok:Qn ak aj way) (f9:Fit (bF ak) way) (fj:Opt ak aj way) (c:Gv H t tl cl ak aj way aq (replicate aj.length (some 0)) st):Ur true H t tl cl ak aj way aq (Vj (gnF true aj way) aq (Jj aj.length) aj.length)/\st.2=(Vj (gnF true aj way) aq (Jj aj.length) aj.length).2:=by
 have hlt:∀ m∈aq,m.1 < aj.length/\m.2.2 < aj.length:=λm hm=>⟨(c.good.mem m hm).1,(c.good.mem m hm).2.1⟩
 have e:=c.is_;rw [Sm,Ek hlt] at e;have e2:st.2=(Vj (gnF true aj way) aq (Jj aj.length) aj.length).2:=by rw [e]; rfl
 refine ⟨Qhw aok f9 fj c.good c.tup ⟨c.tc.ne,?_,?_⟩,e2⟩
 ·rw [c.tc.g,e]
  congr 2
  show (List.map some _).map oV=_;rw [map_map];rfl
 ·have:=c.tc.ex;rw [e2] at this;exact this
def Uh (aj:J5) (way:K4) (ps:J7):J7:=(range aj.length).map λi=>(ps.getD i none).map λx=>Zh aj way i - x
structure Dg (ak:K3) (aj:J5) (way:K4) (aq:List Hop) (ps:J7) (st:THO):Prop where
 l1:st.1.length=aj.length
 l2:st.2.length=aj.length
 row:∀ i z,i < aj.length->st.1.getD i none=some z->∃ s x,s < aj.length/\ps.getD s none=some x/\ChS aq s (st.2.getD i []) i/\Zh aj way s - x + wt (gnF true aj way) (st.2.getD i [])=z
 cl:∀ a b r z,a < aj.length->b < aj.length->a≠b->(r:Nat) < ak.length->((r:Int)∈Zm true ak way a b)->st.1.getD a none=some z->geO (st.1.getD b none) (z + Zn true aj way a r b)
 own:∀ i x,i < aj.length->ps.getD i none=some x->geO (st.1.getD i none) (Zh aj way i - x)
 all_:(∃ i,i < aj.length/\ps.getD i none≠none)->∀ i,i < aj.length->st.1.getD i none≠none
 no:(∀ i,i < aj.length->ps.getD i none=none)->∀ i,st.1.getD i none=none
def Wn (hi:i < aj.length):(Uh aj way ps).getD i none=(ps.getD i none).map λx=>Zh aj way i - x:=by simp [Uh,getD,hi]
theorem Gv.held {t tl cl:G5} (aok:Qn ak aj way) (f9:Fit (bF ak) way) (fj:Opt ak aj way) (c:Gv H t tl cl ak aj way aq (Uh aj way ps) st):Dg ak aj way aq ps st:=by
 have good:=c.good;have lS:(Uh aj way ps).length=aj.length:=by simp [Uh]
 have hlt:∀ m∈aq,m.1 < aj.length/\m.2.2 < aj.length:=λm hm=>⟨(good.mem m hm).1,(good.mem m hm).2.1⟩
 let ⟨h,hp⟩:=Qd4 true aok f9 fj;have nq:∀ m∈aq,h m.1 + gnF true aj way m<=h m.2.2:=λm hm=>by let ⟨g1,g2,g3,g4,g5⟩:=good.mem m hm;exact hp m.1 m.2.2 m.2.1 g1 g2 g4 g5
 have ok:=Tv (gn:=gnF true aj way) hlt lS aj.length;have is_:=c.is_;refine ⟨by rw [is_]; exact ok.l1,by rw [is_]; exact ok.l2,λi z hi e=>?_,λa b r z ha hb hab hr hm e=>?_,λi x hi e=>?_,λ⟨s,hs,hne⟩ i hi e=>?_,λhno i=>?_⟩
 ·rw [is_] at e ⊢;let ⟨s,z0,h1,h0,h2,h3⟩:=ok.at_ i z hi e;rw [Wn h1] at h0;cases hx:ps.getD s none with
  | none=>rw [hx] at h0; cases h0
  | some x =>
   rw [hx] at h0;have:Zh aj way s - x=z0:=by simpa using h0
   exact ⟨s,x,h1,hx,h2,by rw [this]; exact h3⟩
 ·rw [is_] at e ⊢;let ⟨r0,hm0⟩:=good.all_ a b ha hb hab;have k1:=Hh nq hlt lS hm0 e;have k2:=good.best _ hm0 r hm;have k3:gnF true aj way (a,r0,b)=Zn true aj way a r0 b:=rfl;rw [k3] at k1;simp only at k1 k2;exact k1.mono "o"
 ·rw [is_];exact Fz nq hlt lS hi (by rw [Wn hi,e]; rfl)
 ·cases hx:ps.getD s none with
  | none=>exact hne hx
  | some x =>let ⟨z,hz⟩:=Qq3 (gn:=gnF true aj way) nq hlt lS (λa b ha hb hab=>good.all_ a b ha hb hab) hs (by rw [Wn hs,hx]; rfl) hi;rw [is_,hz] at e;cases e
 ·have hn:∀ b,(Xk (Uh aj way ps)).1.getD b none=none:=λb=>by
   show (Uh aj way ps).getD b none=none
   by_cases hb:b < aj.length
   ·rw [Wn hb,hno b hb];rfl
   ·rw [getD_eq_getElem?_getD,getElem?_eq_none "o"];rfl
  rw [is_,Dr hn];exact hn i
def Fi (CH CW:G5):Sp:=λvs H Q _ => ∃ (p pu:G5) (ak:K3) (aj:J5) (ao:Int) (way:K4) (ps:J7) (k:Nat),vs=[.ref p,.ref pu,.int (k:Int)]/\Xn CH CW H p ak aj ao way/\Qn ak aj way/\H pu=some (.lst (ps.map oV))/\k < aj.length/\ps.length=aj.length/\Q (oV ((ps.getD k none).map λx=>Zh aj way k - x)) H
def Sl:Sp:=λvs H Q _ => ∃ (cl:G5) (c:List Xx) (i:Nat),vs=[.ref cl,.int (i:Int)]/\Xp H cl c/\∀ t H',New H t (.tup (Cb (some (Fc c i)) cl)) H'->Q (.ref t) H'
def hF (hs:J7) (i:Nat):Int:=(hs.getD i none).getD 0
def Hk (CH CW:G5):Sp:=λvs H Q _ => ∃ (p gl hl sl:G5) (ak:K3) (aj:J5) (ao:Int) (way:K4) (gs:K3) (hs:J7) (S:K4),vs=[.ref p,.ref gl,.ref hl,.ref sl]/\Xn CH CW H p ak aj ao way/\Qn ak aj way/\H gl=some (.lst (gs.map V.int))/\gs.length=aj.length/\H hl=some (.lst (hs.map oV))/\hs.length=aj.length/\H sl=some (.lst ((wI S).map V.int))/\(∀ i,i < aj.length->i ∉ S->hs.getD i none≠none) /\
 ∀ t H',Qu H H'->H t=none->H' t=some (.tup [.int (wsum (wF aj) way - ao - Va aj.length (λi=>gs.getD i 0) (hF hs) S),.int (S.length:Int)])->Q (.ref t) H'
def Xl (H:Hp) (pl:G5) (rows:List (K8 × List Xx)):Prop:=∃ ts:K6,H pl=some (.lst (ts.map V.ref))/\ts.length=rows.length/\∀ (i:Nat) t (r:K8 × List Xx),ts[i]? = some t->rows[i]? = some r->∃ c,H t=some (.tup (Cb r.1 c))/\Xp H c r.2
def Xl.same {H H':Hp} {pl:G5} {rows:List (K8 × List Xx)} (h:Xl H pl rows) (s:Qu H H'):Xl H' pl rows:=by let ⟨ts,e1,e2,e3⟩:=h;exact ⟨ts,s _ _ e1,e2,λi t r a b=>by let ⟨c,c1,c2⟩:=e3 i t r a b;exact ⟨c,s _ _ c1,c2.same s⟩⟩
def Pd (L:K4) (cs cs2:List (List Hop)) (i:Nat):K8 × List Xx:=if i∈L then (none,(cs.getD i []).map Uu) else (some (Fc ((cs2.getD i []).map Uu) i),(cs2.getD i []).map Uu)
def Jl (n:Nat) (L:K4) (cs cs2:List (List Hop)):List (K8 × List Xx):=(range n).map (Pd L cs cs2)
def Qk7 (K:M7) (CH CW:G5):Sp:=λvs H Q _ => ∃ (p fr he sl tl cl tl2 cl2:G5) (ak:K3) (aj:J5) (ao:Int) (way:K4) (aq:List Hop) (st:TC) (st2:THO) (L:K4),vs=[.ref p,.ref fr,.ref he,.ref sl]/\Xn CH CW H p ak aj ao way/\Qn ak aj way/\Ur true H fr tl cl ak aj way aq st/\H he=some (.tup [.ref tl2,.ref cl2])/\Ug H tl2 cl2 st2/\st2.1.length=aj.length/\st2.2.length=aj.length/\H sl=some (.lst ((wI L).map V.int))/\(∀ i,i < aj.length->i ∉ L->st2.1.getD i none≠none)/\0 < L.length/\L.length<=10/\0 < aj.length/\(∀ row∈aj,∀ x∈row,-(10 ^ 42) < x/\x < 10 ^ 42)/\(∀ i,-(10 ^ 100) < st.1.getD i 0/\st.1.getD i 0 < 10 ^ 100)/\(∀ i,-(10 ^ 100) < hF st2.1 i/\hF st2.1 i < 10 ^ 100) /\
 ∀ (t tp rl pl:G5) (rows:K3) (H':Hp),Qu H H'->H' t=some (.tup [.str (Str.ofString "kept"),.ref tp,.ref pl])->Vz ak way (Xz true aj way (lvK aj.length (λi=>st.1.getD i 0) (hF st2.1) (wsum (wF aj) way - ao) L) (L.length:Int)) rows->H' tp=some (.tup [.int ((L.length:Int) / ((bx L.length rows:Nat):Int)),.ref rl])->H' rl=some (.lst ((rows.map λx=>x / ((bx L.length rows:Nat):Int)).map V.int))->Xl H' pl (Jl aj.length L st.2 st2.2)->Q (.ref t) H'
section
variable {X:Cx} {dz:G9} {σ:St} {s:G4}
theorem Qj3 {kf:Int->Int}:∀ {vs:K5} {ns:K3},IntsAre vs ns->∀ p∈(ns.map kf).zip vs,p.1=kf (numOf p.2)
 | _,_,.nil,p,h=>by cases h
 | _,_,.cons n t r,p,h=>by
  rcases Q8.mp h with e | e
  ·rw [e];rfl
  ·exact Qj3 r p e
theorem Qh5 {kf:Int->Int} {ns:K3} {vs out:K5} (hv:Xq (ns.map V.int) vs) (h:KskOut false (ns.map kf) vs out):∃ zs:K3,zs.Perm ns/\zs.Pairwise (λa b=>kf a<=kf b)/\Xq (zs.map V.int) out:=by
 let ⟨ps,hp,rfl,hpw⟩:=h;have hl:=hv.length;rw [length_map] at hl;have h1:(ps.map Prod.snd).Perm vs:=by have:=hp.map Prod.snd;rw [map_snd_zip (by rw [length_map]; lia)] at this;exact this
 have hi:=Sq hv;have jo:∀ p∈ps,p.1=kf (numOf p.2):=λp hm=>Qj3 hi p (hp.mem_iff.mp hm);refine ⟨(ps.map Prod.snd).map numOf,?_,?_,?_⟩
 ·have:=h1.map numOf;rw [hi.nums] at this;exact this
 ·rw [map_map,pairwise_map];refine hpw.imp_of_mem λ{a b} ha hb h=>?_;have h':a.1<=b.1:=by simpa using h
  rw [jo a ha,jo b hb] at h';exact h'
 ·have all:∀ v∈ps.map Prod.snd,∃ n t,v=Value.int n t:=λv hv'=>hi.all v (h1.mem_iff.mp hv');generalize ps.map Prod.snd=us at all;clear h1 hp
  induction us with
  | nil=>exact .nil
  | cons u r ih =>let ⟨n,t,rfl⟩:=all u (O9 ..);exact .cons ⟨t,rfl⟩ (ih λv hv'=>all v (Q0 _ hv'))
variable {kf:Int->Int} {ns kz:K3} {vs:K5} {kS l q:G5} {j4:Array G3} {e e1:Nat} {A:G7} {E:K1} {P:PySem.Fin->G4->Prop}
theorem Lb {st:SortSt} (J:Inv X (dz ++ [(D,seqObj "list" #[] e1),(kS,seqObj "list" j4 e)]) σ H s) (fD:Tn X dz H D) (fS:Tn X dz H kS) (hne:kS≠D) (hv:Xq (ns.map V.int) vs) (hk:IntsAre j4.toList (ns.map kf))
  (h64:vs.length < 64) (hp:(arrOf st).Perm (j4.zip vs.toArray)) (hs:SortedTo (arrOf st) (arrOf st).size) (hfl:failedOf st=none)
  (hQ:∀ (zs:K3) (s':G4),zs.Perm ns->zs.Pairwise (λa b=>kf a<=kf b)->Inv X dz σ (upd H D (.lst (zs.map V.int))) s'->P (.done (.ret .none)) s'):wpAny (model X.prog X.w) A (ksk_tail D false e1 (.ref kS) st) P E s:=by
 have pD:=J.pin (D,seqObj "list" #[] e1) (by simp);have pS:=J.pin (kS,seqObj "list" j4 e) (by simp);have lk:j4.size=vs.length:=by have:=hk.length;have h2:=hv.length;rw [length_map] at h2;rw [Array.length_toList,length_map] at this;lia
 have la:(arrOf st).size=vs.length:=by rw [hp.size_eq,Array.size_zip,lk,size_toArray,Nat.min_self]
 have lo:((arrOf st).map (·.2)).size=vs.length:=by rw [Array.size_map,la]
 have u1:=T8 s.heap kS (Obj.mapSeq λ_=>(#[]:Array G3));have pD1:(s.heap.update kS (Obj.mapSeq λ_=>(#[]:Array G3))).get? D=some (seqObj "list" #[] e1):=(u1.2 D hne.symm).trans pD.1;have u2:=T8 (s.heap.update kS (Obj.mapSeq λ_=>(#[]:Array G3))) D (Obj.mapSeq λ_=>(arrOf st).map (·.2));obtain ⟨c2,g2⟩:∃ c2,((s.heap.update kS (Obj.mapSeq λ_=>(#[]:Array G3))).update D (Obj.mapSeq λ_=>(arrOf st).map (·.2))).get? D=some (seqObj "list" ((arrOf st).map (·.2)) c2):=⟨_,Z7 pD1 λ_=>(arrOf st).map (·.2)⟩
 let ⟨zs,hz,hzp,hzv⟩:=Qh5 hv (ksk_out (b:=false) hk hp hs);rw [if_neg Bool.false_ne_true] at hzv;unfold ksk_tail
 try dsimp only
 refine M6 (A0g pS.1 rfl ?_ (by rw [lk,sizeLine_eq]; lia) (R7 _));refine M6 (wpAny_letGo ?_);refine M6 (seqEpoch_at pD1 rfl ?_);refine M6 (A0g pD1 rfl ?_ (R7 _) (by show ((arrOf st).map (·.2)).size<=_; rw [lo,sizeLine_eq]; lia));rw [hfl];simp only [bne_self_eq_false,Bool.false_eq_true,if_false];have J1:Inv X (dz ++ [(D,seqObj "list" #[] e1)]) σ H { s with heap:=s.heap.update kS (Obj.mapSeq λ_=>(#[]:Array G3)),toks:=s.toks } :=
  (J.sub (pl':=dz ++ [(D,seqObj "list" #[] e1)]) λp hp=>by
   rcases O5.mp hp with z | z
   ·simp [z]
   ·have:p=(D,seqObj "list" #[] e1):=by simpa using z
    simp [this]).turned (λb o hb e=>(u1.2 b hb).trans e) fS.1 fS.2.1 fS.2.2.2.1 fS.2.2.2.2.1 λp hp=>by
   rcases O5.mp hp with z | z
   ·exact fS.2.2.2.2.2 p (R5 _ z)
   ·rcases O5.mp z with z | z
    ·exact fS.2.2.2.2.2 p (P0 _ z)
    ·have:p=(D,seqObj "list" #[] e1):=by simpa using z
     rw [this];exact hne.symm
 refine M8 (hQ zs _ hz hzp (J1.adopt (t':=s.toks) fD (λb u hb e=>(u2.2 b hb).trans e) ⟨?_,((arrOf st).map (·.2)).toList,c2,hzv,?_⟩))
 ·rw [length_map,hz.length_eq,sizeLine_eq];have:=hv.length;rw [length_map] at this;lia
 ·rw [Array.toArray_toList];exact g2
theorem Qhz (J:Inv X (dz ++ [(D,seqObj "list" #[] e1),(kS,seqObj "list" j4 e)]) σ H s) (fD:Tn X dz H D) (fS:Tn X dz H kS) (hne:kS≠D) (hv:Xq (ns.map V.int) vs) (hk:IntsAre j4.toList (ns.map kf))
  (h64:vs.length < 64) (hQ:∀ (zs:K3) (s':G4),zs.Perm ns->zs.Pairwise (λa b=>kf a<=kf b)->Inv X dz σ (upd H D (.lst (zs.map V.int))) s'->P (.done (.ret .none)) s') :
  wpAny (model X.prog X.w) A (ksk_end D false vs.toArray e1 (.ref kS) j4) P E s:=by
 have lk:j4.size=vs.length:=by have:=hk.length;have h2:=hv.length;rw [length_map] at h2;rw [Array.length_toList,length_map] at this;lia
 have lz:(j4.zip vs.toArray).size=vs.length:=by rw [Array.size_zip,lk,size_toArray,Nat.min_self]
 unfold ksk_end
 try dsimp only
 rw [if_neg Bool.false_ne_true]
 by_cases h2:vs.toArray.size < 2
 ·rw [if_pos h2,if_pos h2];refine M6 (M8 ?_);rw [StateT.run_pure];refine M6 (M8 ?_)
  try dsimp only
  refine Lb (st:=SortSt.mk' general' (if false=true then (j4.zip vs.toArray).reverse else j4.zip vs.toArray) #[] 7 none) J fD fS hne hv hk h64 (Array.Perm.refl _) ?_ rfl hQ;intro i j hij hj;have hj2:j < (j4.zip vs.toArray).size:=hj;rw [lz] at hj2;rw [size_toArray] at h2;have:i=j:=by lia
  subst this;exact Q6 _
 ·rw [if_neg h2,if_neg h2];rw [size_toArray] at h2;rw [ksk_kind hk (by rw [lk]; lia)];refine M6 (M8 ?_);refine M6 (T5 (wpS_sortRuns (a₀:=j4.zip vs.toArray) (st:=SortSt.mk' oneType' (if false=true then (j4.zip vs.toArray).reverse else j4.zip vs.toArray) #[] 7 none)
   (Q:=λ_ st'=>(arrOf st').Perm (j4.zip vs.toArray)/\failedOf st'=none/\SortedTo (arrOf st') (j4.zip vs.toArray).size)
   (ksk_intKeys hk) ⟨Array.Perm.refl _,rfl,rfl,rfl⟩ (by rw [lz]; lia) (by rw [lz]; exact h64) λst' a1 a2 a3=>⟨a1,a2,a3⟩) ?_ λ_ _ z=>z)
  rintro ⟨⟨⟩,st'⟩ s' ⟨rfl,hp,hf,hs⟩
  try dsimp only
  exact Lb J fD fS hne hv hk h64 hp (by rw [hp.size_eq]; exact hs) hf hQ
theorem Qu4 (J:Inv X (dz ++ [(D,seqObj "list" #[] e1),(kS,seqObj "list" #[] 0)]) σ H s) (fD:Tn X dz H D) (fS:Tn X dz H kS) (hne:kS≠D) (hv:Xq (ns.map V.int) vs) (h64:vs.length < 64)
  (turn:∀ z∈ns,∀ (t:Tok) (pl:G9) (s:G4),(∀ p∈dz,p∈pl)->Inv X pl σ H s->wpAny (model X.prog X.w) A (call (.ref q) [.int z t]) (EP X pl σ λy H'=>y=.int (kf z)/\H'=H) (λ_ _=>False) s)
  (hQ:∀ (zs:K3) (s':G4),zs.Perm ns->zs.Pairwise (λa b=>kf a<=kf b)->Inv X dz σ (upd H D (.lst (zs.map V.int))) s'->P (.done (.ret .none)) s') :
  wpAny (model X.prog X.w) A (ksk_rest D (.ref q) false vs.toArray e1 (.ref kS)) P E s:=by
 unfold ksk_rest;refine M6 (wpAny_rule ?_)
 first
  | rw [forIn_toArray]
  | (rw [<- Array.forIn_toList]; simp only [toList_toArray])
 refine M6 (ksk_fold (λi s' => ∃ kA e,Inv X (dz ++ [(D,seqObj "list" #[] e1),(kS,seqObj "list" kA e)]) σ H s'/\IntsAre kA.toList ((ns.take i).map kf)) vs 0 s ⟨#[],0,J,IntsAre.nil⟩ ?step ?done)
 case step =>
  rintro j x s' hx ⟨kA,e,J',hk⟩;rw [Nat.zero_add] at hk;have hj:j < vs.length:=(N5.mp hx).1;have hlv:=hv.length;rw [length_map] at hlv;have hjn:j < ns.length:=by lia
  let ⟨u,hu,t,hut⟩:=hv.get (i:=j) (x:=.int ns[j]) (by simp [hjn]);rw [hx] at hu;cases hu;subst hut;refine M6 (A0p (T5 (turn _ (M9 hjn) t _ _ (λp hp=>R5 _ hp) J') (λv s'' he=>?_) λ_ _ hF=>hF.elim));let ⟨y,H',J2,ry,rfl,rfl⟩:=he;generalize hkk:kf ns[j]=k at *;let ⟨t2,rfl⟩:=ry
  try dsimp only
  have pS:=J2.pin (kS,seqObj "list" kA e) (by simp);have ka:kA.size=j:=by have:=hk.length;rw [Array.length_toList,length_map,length_take] at this;lia
  have u1:=T8 s''.heap kS (Obj.mapSeq (·.push (.int k t2)));obtain ⟨c2,g2⟩:∃ c2,(s''.heap.update kS (Obj.mapSeq (·.push (.int k t2)))).get? kS=some (seqObj "list" (kA.push (.int k t2)) c2):=⟨_,Z7 pS.1 (·.push (.int k t2))⟩
  refine M6 (A0g pS.1 rfl ?_ (by rw [sizeLine_eq]; lia) (by show (kA.push _).size<=_; rw [Array.size_push,sizeLine_eq]; lia));have J3:=J2.turn1 (t':=s''.toks) (pl':=dz ++ [(D,seqObj "list" #[] e1)]) (it:=kS) ⟨fS.1,fS.2.1,fS.2.2.1,fS.2.2.2.1,fS.2.2.2.2.1,λp hp=>fS.2.2.2.2.2 p (by
   rcases O5.mp hp with z | z
   ·exact R5 _ z
   ·cases z)⟩ (λp hp=>by
   rcases O5.mp hp with z | z
   ·exact ⟨by simp [z],fS.2.2.2.2.2 p (P0 _ z)⟩
   ·have:p=(D,seqObj "list" #[] e1):=by simpa using z
    rw [this];exact ⟨by simp,hne.symm⟩) (λb o hb z=>(u1.2 b hb).trans z) g2 (λw z=>by cases z)
  refine M8 ⟨rfl,kA.push (.int k t2),c2,J3.sub λp hp=>?_,?_⟩
  ·simp only [mem_append,mem_cons,not_mem_nil,or_false] at hp ⊢;rcases hp with h | h | h <;> simp [h]
  ·have ea:(kA.push (Value.int k t2)).toList=kA.toList ++ [Value.int k t2]:=by simp
   have et:ns.take (j + 1)=ns.take j ++ [ns[j]]:=by rw [take_succ]; simp [hjn]
   rw [ea,Nat.zero_add,et,map_append,map_cons,map_nil,hkk];exact ksk_snoc hk
 case done =>
  rintro s' ⟨kA,e,J',hk⟩;have hlv:=hv.length;rw [length_map] at hlv;rw [<- hlv,Nat.zero_add,take_length] at hk;have pS:=J'.pin (kS,seqObj "list" kA e) (by simp)
  try dsimp only
  refine M6 (listItems_at pS.1 rfl ?_);exact Qhz J' fD fS hne hv hk h64 hQ
theorem Sa {Q:K1} (J:Inv X dz σ H s) (v0:G3) (h64:ns.length < 64)
  (turn:∀ z∈ns,∀ (t:Tok) (pl:G9) (s:G4),(∀ p∈dz,p∈pl)->Inv X pl σ H s->wpAny (model X.prog X.w) X.A.in1.in1 (call (.ref q) [.int z t]) (EP X pl σ λy H'=>y=.int (kf z)/\H'=H) (λ_ _=>False) s)
  (hcol:∀ (Q':List G3->G4->Prop) (E':K1),(∀ its s1,Xq (ns.map V.int) its->Inv X dz σ H s1->Q' its s1)->wpAny (model X.prog X.w) X.A.in1 (collect v0) Q' E' s)
  (hQ:∀ (D:G5) (zs:K3) (s':G4),zs.Perm ns->zs.Pairwise (λa b=>kf a<=kf b)->H D=none->Inv X dz σ (upd H D (.lst (zs.map V.int))) s'->Q (.ref D) s') :
  wpAny (model X.prog X.w) X.A (call (.builtin "sorted") [v0] [(Str.ofString "key",.ref q)]) Q E s:=by
 refine call_function_entry_kw kind_sorted plain_sorted entry_sorted (ksk_s1 _ _) ?_;unfold Builtin.«sorted»;refine M6 (m:=checkCount "sorted" 1 1 _) (M8 ?_);refine M6 (hcol _ _ λits s1 rv J1=>?_);have hl:its.length=ns.length:=by have:=rv.length; simpa using this.symm
 clear J;have J:=J1;clear J1;refine M6 (A0a ?_ (by rw [sizeLine_eq]; lia));have keep:∀ b o,s1.heap.get? b=some o->(s1.heap.push (seqObj "list" its.toArray 0)).get? b=some o:=λb o w=>N7 _ w;have oD:(s1.heap.push (seqObj "list" its.toArray 0)).get? s1.heap.objs.size=some (seqObj "list" its.toArray 0):=Q5 _ rfl;have zH:(s1.heap.push (seqObj "list" its.toArray 0)).objs.size=s1.heap.objs.size + 1:=size_push' _ _;show wpAny _ _ _ _ _ { s1 with heap:=s1.heap.push (seqObj "list" its.toArray 0) };generalize s1.heap.push (seqObj "list" its.toArray 0)=hh at *;refine M6 (U3 (wpAny_call_entry_kw slot_list_sort ⟨_,oD,rfl⟩ entry_list_sort ?body (ksk_l1 _ _)))
 case body =>
  show wpAny (model X.prog X.w) X.A.in1.in1 (Builtin.«list.sort» ⟨[.ref (s1.heap.objs.size)],[(Str.ofString "key",.ref q)]⟩) _ _ _;rw [ksk_t1];have u1:=T8 hh (s1.heap.objs.size) (Obj.mapSeq λ_=>(#[]:Array G3));obtain ⟨e1,g1⟩:∃ e1,(hh.update (s1.heap.objs.size) (Obj.mapSeq λ_=>(#[]:Array G3))).get? (s1.heap.objs.size)=some (seqObj "list" #[] e1):=⟨_,Z7 oD λ_ => #[]⟩
  unfold ksk_tree;refine M6 (listItems_at oD rfl ?_);refine M6 (A0g oD rfl ?_ (by rw [size_toArray,sizeLine_eq]; lia) (R7 _));refine M6 (seqEpoch_at g1 rfl ?_);refine M6 (wpAny_newTuple ?_ (by show its.length<=_; rw [sizeLine_eq]; lia));refine M6 (A0a ?_ (R7 _));refine U3 ?_;have zS:((hh.update (s1.heap.objs.size) (Obj.mapSeq λ_=>(#[]:Array G3))).push (seqObj "tuple" its.toArray 0)).objs.size=s1.heap.objs.size + 2:=by rw [size_push',Heap.size_update,zH]
  have kp:∀ b o,s1.heap.get? b=some o->(((hh.update (s1.heap.objs.size) (Obj.mapSeq λ_=>(#[]:Array G3))).push (seqObj "tuple" its.toArray 0)).push (seqObj "list" #[] 0)).get? b=some o:=λb o w =>N7 _ (N7 _ ((u1.2 b (O7 (N6 w))).trans (keep b o w)))
  have gD:(((hh.update (s1.heap.objs.size) (Obj.mapSeq λ_=>(#[]:Array G3))).push (seqObj "tuple" its.toArray 0)).push (seqObj "list" #[] 0)).get? (s1.heap.objs.size)=some (seqObj "list" #[] e1):=N7 _ (N7 _ g1);have gS:(((hh.update (s1.heap.objs.size) (Obj.mapSeq λ_=>(#[]:Array G3))).push (seqObj "tuple" its.toArray 0)).push (seqObj "list" #[] 0)).get? ((hh.update (s1.heap.objs.size) (Obj.mapSeq λ_=>(#[]:Array G3))).push (seqObj "tuple" its.toArray 0)).objs.size=some (seqObj "list" #[] 0):=Q5 _ rfl;have fD:=J.fpOk (H':=H) (b:=s1.heap.objs.size) (O1 _) (J.hok.fresh (O1 _));have fS:=J.fpOk (H':=H) (b:=s1.heap.objs.size + 2) "o" (J.hok.fresh "o");have J0:=J.kept (t':=s1.toks) kp;rw [zS] at gS;show wpAny _ _ (ksk_rest (s1.heap.objs.size) (.ref q) false its.toArray e1 (.ref ((hh.update (s1.heap.objs.size) (Obj.mapSeq λ_=>(#[]:Array G3))).push (seqObj "tuple" its.toArray 0)).objs.size)) _ _ _;rw [zS];refine Qu4 (kf:=kf) (J0.cg λp hp=>?_) fD fS (by show @Ne Nat _ _; lia) rv "o" turn λzs s' hp hpw J'=>⟨_,rfl,?_⟩
  ·rcases O5.mp hp with z | z
   ·exact J0.pin p (P0 _ z)
   ·simp only [mem_cons,not_mem_nil,or_false] at z;rcases z with z | z
    ·subst z;exact ⟨gD,fD.1,fD.2.1,fD.2.2.1,λv z=>by cases z⟩
    ·subst z;exact ⟨gS,fS.1,fS.2.1,fS.2.2.1,λv z=>by cases z⟩
  ·exact M8 ⟨_,rfl,hQ _ zs s' hp hpw fD.1 J'⟩
end
theorem Bq {prog:G8} {w:World} {A:G7} {E:K1} {s:G4} {r:G5} {a b c:Int} {t u v:Tok} {Q:List G3->G4->Prop} (hh:A.handled=none) (hr:IsRange s.heap r a b c t u v) (hsmall:Builtin.Range.small a b c=true)
  (hn:Builtin.Range.rangeSize a b c=n) (fu:n<=2 ^ 24) (h:∀ h' tk (acc:Array G3),(∀ b o,s.heap.get? b=some o->h'.get? b=some o)->ItemsOf (λi v => ∃ t,v=.int (a + i * c) t) acc n->Q acc.toList { s with heap:=h',toks:=tk }) :
  wpAny (model prog w) A (collect (.ref r)) Q E s:=by
 unfold collect;refine M6 (wpAny_runValue (V7 F.entry_proto_collect ?_));rw [Around.under_plainId F.plain_proto_collect _];show wpAny _ A.in1 (newList [] >>= λl=>again (.builtin "list.__iadd__" ⟨[l,.ref r],[]⟩)) _ _ s;refine M6 (U8 ?_);refine M8 ⟨X4 F.plain_list_iadd _,V7 F.entry_list_iadd ?_⟩;rw [Around.under_plainId F.plain_list_iadd _];show wpAny _ A.in1 (Builtin.List.listExtendWith (.ref s.heap.objs.size) (.ref r) (.ref s.heap.objs.size)) _ _ _;have hS₁:(s.heap.push { cls:=.type "list",data:=.seq ([]:K5).toArray }).get? s.heap.objs.size=some { cls:=.type "list",data:=.seq #[] 0 }:=Q5 _ rfl;have hr₁:IsRange (s.heap.push { cls:=.type "list",data:=.seq ([]:K5).toArray }) r a b c t u v:=N7 _ hr;refine wpAny_extend_range (R:=λr s'=>match r with
  | .ok (.ret v)=>wpAny (model prog w) A (match v with
   | .ref a=>do
    let o <- load a
    match o.data with
    | .seq xs _=>pure xs.toList
    | _=>unsupported "internal:collect"
   | _=>unsupported "internal:collect") Q E s'
  | .ok _=>False
  | .error e=>E e s') (A:=A) (s:={ s with heap:=s.heap.push { cls:=.type "list",data:=.seq ([]:K5).toArray } }) hh hr₁ hsmall hn fu s.heap.objs.size _ 0 hS₁ λh' tk acc' c' hk hS' hacc=>?_
 show wpAny _ A (load s.heap.objs.size >>= _) _ _ _;refine M6 (wpAny_load hS' ?_);exact M8 (h h' tk acc' (λb o e=>hk b o (O7 (N6 e)) (N7 _ e)) hacc)
section
variable {X:Cx} {c P:G5} {scope:Scope} {params:Arguments} {body:Expr} {bh:Pos}
def Qwj (P:G5) (bh:Pos) (qual:Str) (ix:J8) (t1:TE) (te:TE):TE:=λσ H Q=>t1 σ H λx H1 => ∃ (n:Nat) (kf:Int->Int),x=.int n/\n < 64/\Qa H1 P bh qual /\
 (∀ i:Nat,i < n->∀ H2,Qt H1 H2->te (some (.int (i:Int)) :: cSt σ ix) H2 λy H3=>y=.int (kf (i:Int))/\H3=H2) /\
 ∀ (D:G5) (zs:K3) (H2:Hp),zs.Perm ((range n).map λ(i:Nat)=>(i:Int))->zs.Pairwise (λa b=>kf a<=kf b)->Qt H1 H2->Yt P H1 H2->Qa H2 P bh qual->H2 D=none->Q (.ref D) (upd H2 D (.lst (zs.map V.int)))
theorem Aj {e:Expr} {p p' pos j5 kpos:Pos} {x:Str} {Nc:K9} {ix:J8} {t1 te:TE} (C:PySem.W.codeHdIn X.K c P=true) (BA:X.base.BuiltinsAt X.mg P) (jm:X.env.code=.ref c) (hc:X.calm=true) (hm:X.mg "sorted" = none) (hgr:Gl X "range") (hmr:X.mg "range" = none) (jg:X.A.depth < recursionLimit)
  (ha:PE X e t1) (he:∀ L f cd s0 H0,PE (Ov X.in1 (X.env.qual ++ "<lambda>") scope L f cd s0 H0 (x :: Nc)) body te)
  (ok:Yp scope X.env.scope=true) (hix:Kv scope X.N (x :: Nc) (none :: ix)=true) (hx:scope.names.lookup x=some .local) (hco:scope.isCoroutine=false) (ni:scope.isGenerator=false)
  (nj:defaultsOf params X.env=([],[])) (jh:∀ (cl:List (Str × G5)) (pm cd ctv u:G3),bindArgs (PySem.W.kla_fn "<lambda>" (X.env.qual ++ "<lambda>") params body scope cl pm cd ctv) ⟨[u],[]⟩=pure [(x,u)]) (hg:Gl X "sorted") (h1:starEach [.Call (.Name "range" p') [e] [] j5] X.env=[(false,eval (.Call (.Name "range" p') [e] [] j5) X.env)]) (h2:starEach [e] X.env=(false,eval e X.env) :: starEach [] X.env:=by rfl) :
  PE X (.Call (.Name "sorted" p) [.Call (.Name "range" p') [e] [] j5] [⟨some "key",.Lambda params body scope bh,kpos⟩] pos) (Qwj P bh (X.env.qual ++ "<lambda>") ix t1 te):=by
 intro dz s σ H Q I h;refine V1 (Ux I hg hm Cv ?_);refine PyProof.Rows.callWith_kw ?_ (by rw [h1]; rfl) (by rw [h1]; rfl);rw [h1];refine X7 ?_;refine V1 (Ux I hgr hmr boot_range ?_ (by decide) (by decide));refine W7 ?_ h2 rfl;rw [h2];refine X7 (thn (ha dz s σ H _ I h) λu s1 ⟨y,H1,I1,r1,n,kf,e1,hn64,hL,hk,hQ⟩=>?_);subst e1;let ⟨tk,rfl⟩:=r1;refine X6 (call_range_1 (X6 ?_));have hs:Builtin.Range.rangeSize 0 (n:Int) 1=n:=by
  unfold Builtin.Range.rangeSize;simp only [show (1:Int) > 0 by decide,if_true]
  split <;> lia
 have hsm:Builtin.Range.small 0 (n:Int) 1=true:=by
  unfold Builtin.Range.small;rw [hs];have f:∀ z:Int,0<=z->z<=1000->Builtin.Range.rangeFitsLong z=true:=λz h0 h1=>by unfold Builtin.Range.rangeFitsLong;simp;lia
  rw [f 0 "o" "o",f (n:Int) "o" "o",f 1 "o" "o"];simp only [show (1:Int) > 0 by decide,if_true];rw [show ((n:Int) + (1 - 1))=(n:Int) by lia,f (n:Int) "o" "o"];simp
 have hr0:(s1.heap.push { cls:=.type "range",data:=.fields #[.int 0 s1.toks,.int (n:Int) tk,.int 1 (s1.toks + 1)] }).get? s1.heap.objs.size=some { cls:=.type "range",data:=.fields #[.int 0 s1.toks,.int (n:Int) tk,.int 1 (s1.toks + 1)] }:=Q5 _ rfl;have fR:=I1.fpOk (H':=H1) (b:=s1.heap.objs.size) (O1 _) (I1.hok.fresh (O1 _));have J0:=I1.kept (t':=s1.toks + 1 + 1) (h':=s1.heap.push { cls:=.type "range",data:=.fields #[.int 0 s1.toks,.int (n:Int) tk,.int 1 (s1.toks + 1)] }) λb o w=>N7 _ w;have J1:Inv X (dz ++ [(s1.heap.objs.size,{ cls:=.type "range",data:=.fields #[.int 0 s1.toks,.int (n:Int) tk,.int 1 (s1.toks + 1)] })]) σ H1 { s1 with heap:=s1.heap.push { cls:=.type "range",data:=.fields #[.int 0 s1.toks,.int (n:Int) tk,.int 1 (s1.toks + 1)] },toks:=s1.toks + 1 + 1 }:=J0.cg λp hp=>by
  rcases O5.mp hp with z | z
  ·exact J0.pin p (P0 _ z)
  ·have e:p=(s1.heap.objs.size,{ cls:=.type "range",data:=.fields #[.int 0 s1.toks,.int (n:Int) tk,.int 1 (s1.toks + 1)] }):=by simpa using z
   subst e;exact ⟨hr0,fR.1,fR.2.1,fR.2.2.1,λv z=>by cases z⟩
 show wpAny _ _ (evalAll [(do let v <- eval (.Lambda params body scope bh) X.env; standAt pos; pure v)]) _ _ _;refine wpAny_evalAll_cons (M6 (Lg J1 ok jm C BA nj hL λf c' pm ctv H2 s2 I2 hrec sb so hL2=>M6 (Z8 (M8 (wpAny_evalAll_nil ?_)))));have hrr:IsRange s2.heap s1.heap.objs.size 0 (n:Int) 1 s1.toks tk (s1.toks + 1):=(I2.pin _ (P0 _ (R5 _ (P0 dz O9)))).1;refine Sa (kf:=kf) (ns:=(range n).map λ(i:Nat)=>(i:Int)) I2 (.ref s1.heap.objs.size) (by rw [length_map,length_range]; exact hn64) (λz hz t pl s3 hpl I3=>?_) (λQ' E' hq=>?_) λD zs s3 hp hpw hD I3=>?_
 ·let ⟨i,hi,rfl⟩:=O3.mp hz;have hpin:=I3.pin _ (P0 _ (hpl _ (P0 _ O9)));let ⟨oc,vs',t',h4,h5,h6⟩:=hrec;have hcd:s3.heap.CodeRec (.ref c') (X.env.qual ++ "<lambda>"):=⟨c',oc,vs',t',rfl,(I3.hok c' _ h4).1,h5,h6⟩
  refine thn (Er (X:=X.in1) I3.in1 hc ok hix hx hco ni hpin.1 hcd jg (λu=>jh _ _ _ _ u) (v:=.int (i:Int)) ⟨t,rfl⟩ he (hk i (N8.mp hi) H2 sb)) λv s4 ⟨y,H',J',ry,q'⟩=>⟨y,H',J'.out1,ry,q'⟩
 ·refine Bq (A:=X.A.in1) (I2.ok.hd hc) hrr hsm hs "o" λh' tk' acc hkp hacc=>?_;refine hq _ _ ?_ (I2.kept (t':=tk') hkp);have key:∀ (us:K5) (k:Nat),(∀ (i:Nat) u,us[i]? = some u->∃ t,u=Value.int ((k + i:Nat):Int) t)->Xq ((range' k us.length).map λ(i:Nat)=>V.int (i:Int)) us:=by
   intro us
   induction us with
   | nil=>intro k _; exact .nil
   | cons u r ih =>intro k h;let ⟨t,e⟩:=h 0 u rfl;refine .cons ⟨t,e⟩ (ih (k + 1) λi v hv=>?_);let ⟨t,e⟩:=h (i + 1) v (by simpa using hv);exact ⟨t,by rw [e,show ((k + 1 + i:Nat):Int)=((k + (i + 1):Nat):Int) by lia]⟩
  have:=key acc.toList 0 λi u hu=>by let ⟨t,e⟩:=hacc.2 i u (by simpa using hu);exact ⟨t,by rw [e,show (0:Int) + (i:Int) * 1=((0 + i:Nat):Int) by lia]⟩
  rw [Array.length_toList,hacc.1,<- range_eq_range'] at this;rw [map_map];exact this
 ·exact ⟨.ref D,_,I3.sub λp hp=>R5 _ (R5 _ hp),rfl,hQ D zs H2 hp hpw sb so hL2 hD⟩
end
theorem Gs {k:Nat}:Fd xs none (some (k:Int))=xs.take k:=by
 unfold Fd;rw [HT.sIx_none,HT.sIx_nat,Nat.sub_zero,drop_zero]
 by_cases h:k<=xs.length
 ·rw [Nat.min_eq_left h]
 ·rw [Nat.min_eq_right "o",take_of_length_le (Nat.le_refl _),take_of_length_le "o"]
def Cd (od:K4) (k:Nat):((wI od).map V.int).take k=(wI (od.take k)).map V.int:=by unfold wI;rw [<- map_take,<- map_take]
def Qfw {zs:K3} (h:zs.Perm ((range n).map λ(i:Nat)=>(i:Int))):∃ od:K4,od.Perm (range n)/\zs=wI od:=by
 refine ⟨zs.map Int.toNat,?_,?_⟩
 ·have:=h.map Int.toNat;rw [map_map] at this;have e:(range n).map (Int.toNat ∘ λ(i:Nat)=>(i:Int))=range n:=by
   conv=>rhs; rw [<- map_id (range n)]
   exact R6 λi _=>by simp
  rw [e] at this;exact this
 ·unfold wI;rw [map_map]
  conv=>lhs; rw [<- map_id zs]
  refine R6 λz hz=>?_;let ⟨i,_,rfl⟩:=O3.mp (h.mem_iff.mp hz);simp
def Qk6:Sp:=λvs H Q _ => ∃ (a b:G5) (n p m r:Int),vs=[.ref a,.ref b]/\H a=some (.tup [.int n,.int p])/\H b=some (.tup [.int m,.int r])/\(-(10 ^ 150) < n/\n < 10 ^ 150)/\(-(10 ^ 150) < p/\p < 10 ^ 150)/\(-(10 ^ 150) < m/\m < 10 ^ 150)/\(-(10 ^ 150) < r/\r < 10 ^ 150)/\Q (.bl (decide (n * r < m * p))) H
def Qpv (CH CW PL:G5) (bh:Pos) (qual:Str):Sp:=λvs H Q _ => ∃ (p gl hl:G5) (ak:K3) (aj:J5) (ao:Int) (way:K4) (gs:K3) (hs:J7),vs=[.ref p,.ref gl,.ref hl]/\Xn CH CW H p ak aj ao way/\Qn ak aj way/\H gl=some (.lst (gs.map V.int))/\gs.length=aj.length/\H hl=some (.lst (hs.map oV))/\hs.length=aj.length/\(∀ i,i < aj.length->hs.getD i none≠none)/\0 < aj.length/\Qa H PL bh qual/\(∀ S,-(10 ^ 150) < wsum (wF aj) way - ao - Va aj.length (λi=>gs.getD i 0) (hF hs) S/\wsum (wF aj) way - ao - Va aj.length (λi=>gs.getD i 0) (hF hs) S < 10 ^ 150)/\((range aj.length).map (hF hs)).sum<=wsum (wF aj) way - ao /\
 ∀ (l:G5) (L:K4) (H':Hp),Qt H H'->Yt PL H H'->Qa H' PL bh qual->H' l=some (.lst ((wI L).map V.int))->Kept aj.length (λi=>gs.getD i 0) (hF hs) (wsum (wF aj) way - ao) L->L.length<=10->Q (.ref l) H'
theorem Qtx {od:K4} {c:Nat} (hod:od.Perm (range n)) (ju:od.Pairwise λa b=>h a - g a<=h b - g b) (jb:((range n).map h).sum<=W) (l:Vq n g h W od n c):Kept n g h W (od.take c):=by
 have hl:od.length=n:=by rw [hod.length_eq,length_range]
 have hnd:od.Nodup:=hod.nodup_iff.mpr nodup_range;have hlt:∀ i∈od,i < n:=λi hi=>N8.mp (hod.mem_iff.mp hi);have iy:∀ i,i < n->i∈od:=λi hi=>hod.mem_iff.mpr (N8.mpr hi);have hck:=l.ck;have fu:(od.take c).length=c:=by rw [length_take]; lia
 let ⟨h1,h2⟩:=l.split hnd hlt iy ju hl jb;refine ⟨List.Sublist.nodup (take_sublist _ _) hnd,λi hi=>hlt i (mem_of_mem_take hi),by rw [fu]; exact l.c1,λi hi=>?_,λi hi hni=>?_⟩
 ·rw [fu];exact h1 i hi
 ·rw [fu];exact h2 i hi hni
structure Bp (ak:K3) (aj:J5) (way:K4) (ps:J7) (rows:List (K8 × List Xx)) (as:K3):Prop where
 l1:rows.length=aj.length
 l2:as.length=aj.length
 at_:∀ i,i < aj.length->Qb6 ak aj way ps (rows.getD i (none,[])).1 (rows.getD i (none,[])).2 i=some (as.getD i 0)
 bd:∀ a∈as,-(10 ^ 50) < a/\a < 10 ^ 50
def bw (rows:List (K8 × List Xx)):Nat:=(rows.filter λr=>r.1.isNone).length
structure Kn (ak:K3) (aj:J5) (ao:Int) (way:K4) (ps:J7) (k:Int) (R:K3) (rows:List (K8 × List Xx)):Prop where
 k1:0 < k/\k<=10
 len:R.length=ak.length
 low:bx k.natAbs R=1
 fair:Fp.is ⟨ak,aj,ao,way,k,R⟩ .none
 purse:∀ i x,i < aj.length->ps.getD i none=some x->R.getD (way.getD i 0) 0<=k * x
 cheap:∀ r,r < ak.length->r ∉ way->Yv (R.getD r 0) (way.map λq=>R.getD q 0)
 pap:∃ (as:K3) (m:Int),Bp ak aj way ps rows as/\0 < bw rows/\bw rows<=10/\Yv m ((range aj.length).map λi=>k * Zh aj way i - R.getD (way.getD i 0) 0)/\m * (bw rows:Int)=k * (wsum (wF aj) way - ao - as.sum)
structure Nu (ak:K3) (aj:J5) (ao:Int) (way:K4) (ps:J7) (rows:List (K8 × List Xx)):Prop where
 pap:∃ as:K3,Bp ak aj way ps rows as/\bw rows=0/\wsum (wF aj) way - ao < as.sum
theorem Qp4 (ok:Qn ak aj way) {a b r:Nat} (ha:a < aj.length) (h:(r:Int)∈Zm true ak way a b):r < ak.length:=by
 unfold Zm at h;rcases O5.mp h with z | z
 ·unfold Yu at z;let ⟨q,hq,e⟩:=O3.mp z;have:=N8.mp (T3.mp hq).1;lia
 ·have e:(r:Int)=((way.getD a 0:Nat):Int):=by simpa using z
  have:=(ok.at_ ha).2;lia
theorem Qnq {s:Nat} {c:List Hop} (h:ChS aq s c i):Fc (c.map Uu) i=(s:Int):=by
 have:∀ {c:List Hop} {i:Nat},ChS aq s c i->(c=[]/\i=s)\/∃ m c',c=m :: c'/\m.1=s:=by
  intro c i h
  induction h with
  | nil=>exact .inl ⟨rfl,rfl⟩
  | @snoc c a r b h1 h2 ih =>
   rcases ih with ⟨rfl,rfl⟩ | ⟨m,c',rfl,e⟩
   ·exact .inr ⟨_,[],rfl,rfl⟩
   ·exact .inr ⟨m,c' ++ [(a,r,b)],rfl,e⟩
 rcases this h with ⟨rfl,rfl⟩ | ⟨m,c',rfl,e⟩
 ·rfl
 ·show ((m.1:Nat):Int)=_;rw [e]
theorem Ip (hx:∀ row∈aj,∀ x∈row,-(10 ^ 42) < x/\x < 10 ^ 42) {c:List Hop} (hl:c.length<=5000):-(10 ^ 46)<=wt (gnF true aj way) c/\wt (gnF true aj way) c<=10 ^ 46:=by
 have h:=Qc8 (Qd8 hx true way) c;have:(c.length:Int) * (2 * 10 ^ 42)<=5000 * (2 * 10 ^ 42):=U0 "o" (by decide);have e:(5000:Int) * (2 * 10 ^ 42)=10 ^ 46:=by decide
 lia
theorem Ce (hx:∀ row∈aj,∀ x∈row,-(10 ^ 42) < x/\x < 10 ^ 42) (i:Nat):-(10 ^ 42)<=Zh aj way i/\Zh aj way i<=10 ^ 42:=by have:=Qx7 hx i (way.getD i 0);unfold Zh;lia
theorem Ee {c:List (List Hop)} {N:Nat} (h:∀ x∈c,x.length<=N) (i:Nat):(c.getD i []).length<=N:=by
 by_cases hi:i < c.length
 ·rw [getD_eq_getElem?_getD,getElem?_eq_getElem hi];exact h _ (M9 hi)
 ·rw [getD_eq_getElem?_getD,getElem?_eq_none "o"];simp
theorem Sw (hx:∀ row∈aj,∀ x∈row,-(10 ^ 42) < x/\x < 10 ^ 42) (h:Dg ak aj way aq ps st) (cb:∀ c∈st.2,c.length<=5000) (pb:∀ i x,ps.getD i none=some x->-(10 ^ 42) < x/\x < 10 ^ 42) (i:Nat):-(10 ^ 47) < hF st.1 i/\hF st.1 i < 10 ^ 47:=by
 unfold hF;cases e:st.1.getD i none with
 | none=>exact ⟨by decide,by decide⟩
 | some z =>
  have hi:i < aj.length:=by refine R4 λy=>?_;rw [getD_eq_getElem?_getD,getElem?_eq_none (by have:=h.l1; lia)] at e;cases e
  let ⟨s,x,h1,h2,h3,h4⟩:=h.row i z hi e;have a:=Ip (way:=way) hx (Ee cb i);have b:=Ce (way:=way) hx s;have c:=pb s x h2;show -(10 ^ 47) < z/\z < 10 ^ 47;lia
structure Sg (ak:K3) (aj:J5) (way:K4) (W:Int) (ps:J7) (g:Nat->Int) (hs:J7) (L:K4) (h:Nat->Int):Prop where
 kept:Kept aj.length g h W L
 eq:∀ i,i < aj.length->i ∉ L->h i=hF hs i
 some_:∀ i,i < aj.length->i ∉ L->hs.getD i none≠none
 cl:∀ a b r:Nat,a < aj.length->b < aj.length->a≠b->(r:Int)∈Zm true ak way a b->h a + Zn true aj way a r b<=h b
 purse:∀ i x,i < aj.length->ps.getD i none=some x->Zh aj way i - x<=h i
theorem Qyk {hs:J7} (l0:0 < aj.length) (hno:∀ i,i < aj.length->ps.getD i none=none) (hg:∀ a b r:Nat,a < aj.length->b < aj.length->a≠b->(r:Int)∈Zm true ak way a b->g a + Zn true aj way a r b<=g b):∃ h,Sg ak aj way W ps g hs (range aj.length) h:=by
 let ⟨c,hc⟩:=Kept.all g W l0;refine ⟨_,hc,λi hi hn=>absurd (N8.mpr hi) hn,λi hi hn=>absurd (N8.mpr hi) hn,λa b r ha hb hab hr=>?_,λi x hi e=>?_⟩
 ·have:=hg a b r ha hb hab hr;show g a - c + Zn true aj way a r b<=g b - c;lia
 ·rw [hno i hi] at e;cases e
theorem Qqj (ok:Qn ak aj way) (hd:Dg ak aj way aq ps st) (iy:∀ i,i < aj.length->st.1.getD i none≠none) (k:Kept aj.length g (hF st.1) W L):Sg ak aj way W ps g st.1 L (hF st.1):=by
 have hv:∀ i,i < aj.length->st.1.getD i none=some (hF st.1 i):=λi hi=>by
  unfold hF;cases e:st.1.getD i none with
  | none=>exact absurd e (iy i hi)
  | some z=>rfl
 refine ⟨k,λ_ _ _=>rfl,λi hi _=>iy i hi,λa b r ha hb hab hr=>?_,λi x hi e=>?_⟩
 ·let ⟨y,e,hy⟩:=hd.cl a b r _ ha hb hab (Qp4 ok ha hr) hr (hv a ha);rw [hv b hb] at e;cases e;exact hy
 ·let ⟨y,e2,hy⟩:=hd.own i x hi e;rw [hv i hi] at e2;cases e2;exact hy
def Vc {cs cs2:List (List Hop)} (hnd:L.Nodup) (hlt:∀ i∈L,i < n):bw (Jl n L cs cs2)=L.length:=by
 unfold bw Jl;rw [filter_map,length_map];have e:((range n).filter ((λr:K8 × List Xx=>r.1.isNone) ∘ Pd L cs cs2))=(range n).filter λi=>decide (i∈L):=A0h λi _=>by
  show (Pd L cs cs2 i).1.isNone=_;unfold Pd
  by_cases hm:i∈L
  ·rw [if_pos hm,decide_eq_true hm]; rfl
  ·rw [if_neg hm,decide_eq_false hm]; rfl
 rw [e];refine List.Perm.length_eq ((perm_ext_iff_of_nodup (List.Nodup.sublist filter_sublist nodup_range) hnd).mpr λa=>?_);rw [mem_filter,mem_range];exact ⟨λz=>Q7 z.2,λz=>⟨hlt a z,O8 z⟩⟩
def Qgj {h':Nat->Int} (e:∀ i,i < n->i ∉ L->h i=h' i):Va n g h L=Va n g h' L:=by
 unfold Va
 congr 1
 exact R6 λi hi=>by
  by_cases hm:i∈L
  ·rw [if_pos hm,if_pos hm]
  ·rw [if_neg hm,if_neg hm]; exact e i (N8.mp hi) hm
def Qyw {h':Nat->Int} (e:∀ i,i < n->i ∉ L->h i=h' i):lvK n g h W L=lvK n g h' W L:=by
 unfold lvK;rw [Qgj e];exact R6 λi hi=>by
  by_cases hm:i∈L
  ·rw [if_pos hm,if_pos hm]
  ·rw [if_neg hm,if_neg hm,e i (mem_range.mp hi) hm]
section
variable {jj:List Hop} {st:TC} {st2:THO} {rows:K3}
theorem Lx (jw:Xs true ak aj way jj) (hd:Dg ak aj way jj ps st2) (hi:i < aj.length) (hne:st2.1.getD i none≠none):Qb6 ak aj way ps (some (Fc ((st2.2.getD i []).map Uu) i)) ((st2.2.getD i []).map Uu) i=some (hF st2.1 i):=by
 cases e:st2.1.getD i none with
 | none=>exact absurd e hne
 | some z =>let ⟨s,x,h1,h2,h3,h4⟩:=hd.row i z hi e;unfold Qb6;rw [Qdv jw.mem h3,Qnq h3];dsimp only;rw [if_pos rfl,Int.toNat_natCast,h2];show some (Zh aj way s - x + wt (gnF true aj way) (st2.2.getD i []))=_;rw [h4];unfold hF;rw [e];rfl
theorem Qd7 (ok:Qn ak aj way) (f9:Fit (bF ak) way) (fj:Opt ak aj way) (hb1:∀ b∈ak,1<=b) (hx:∀ row∈aj,∀ x∈row,-(10 ^ 42) < x/\x < 10 ^ 42) (pb:∀ i x,ps.getD i none=some x->-(10 ^ 42) < x/\x < 10 ^ 42)
  (good:Xs true ak aj way aq) (okc:OkC aq (gnF true aj way) aj.length st) (nn:∀ b,b < aj.length->0<=st.1.getD b 0) (cl_:∀ a b r:Nat,a < aj.length->b < aj.length->a≠b->(r:Int)∈Zm true ak way a b->st.1.getD a 0 + Zn true aj way a r b<=st.1.getD b 0) (cb:∀ c∈st.2,c.length<=5000)
  (jw:Xs true ak aj way jj) (hd:Dg ak aj way jj ps st2) (cb2:∀ c∈st2.2,c.length<=5000)
  (lo:Sg ak aj way (wsum (wF aj) way - ao) ps (λi=>st.1.getD i 0) st2.1 L h)
  (hr:Vz ak way (Xz true aj way (lvK aj.length (λi=>st.1.getD i 0) (hF st2.1) (wsum (wF aj) way - ao) L) (L.length:Int)) rows) :
  Kn ak aj ao way ps ((L.length:Int) / ((bx L.length rows:Nat):Int)) (rows.map λx=>x / ((bx L.length rows:Nat):Int)) (Jl aj.length L st.2 st2.2):=by
 have k:=lo.kept;have lL:L.length<=10:=by
  have h1:=(k.nd.length_le_of_subset (l₂:=range aj.length) λi hi=>N8.mpr (k.lt i hi))
  rw [length_range] at h1;have:=ok.bok.w1;lia
 have n0:(0:Int) < (L.length:Int):=by have:=k.pos; lia
 have low:=Qd6 (rows:=rows) k.pos;have kb:=Sj low n0 "o";have glow:=Ak L.length rows k.pos;have hkn:((L.length:Int) / ((bx L.length rows:Nat):Int)).natAbs=L.length / bx L.length rows:=by rw [<- Int.natCast_ediv,Int.natAbs_natCast]
 rw [<- hkn] at glow;rw [Qyw (h':=h) λi hi hm=>(lo.eq i hi hm).symm] at hr;have hcl:=k.closed cl_ lo.cl;have jb:=k.sum;have hlt:∀ m∈aq,m.1 < aj.length/\m.2.2 < aj.length:=λm hm=>⟨(good.mem m hm).1,(good.mem m hm).2.1⟩
 have hle:=k.least okc nn (λm hm=>by
  let ⟨g1,g2,g3,g4,g5⟩:=good.mem m hm;exact cl_ m.1 m.2.2 m.2.1 g1 g2 g3 g5) (λm hm=>by
  let ⟨g1,g2,g3,g4,g5⟩:=good.mem m hm;exact lo.cl m.1 m.2.2 m.2.1 g1 g2 g3 g5) hlt
 have lvl:(lvK aj.length (λi=>st.1.getD i 0) h (wsum (wF aj) way - ao) L).length=aj.length:=Sz;have hge:=λ{i:Nat} (hi:i < aj.length)=>k.ge hi;have fair:=Zz9 n0 ok f9 fj hb1 hcl lvl jb hr low;have hat:∀ {p:Nat},p < aj.length->rows.getD (way.getD p 0) 0=Xd true aj way (lvK aj.length (λi=>st.1.getD i 0) h (wsum (wF aj) way - ao) L) (L.length:Int) p:=λhp=>Ej n0 ok.len ok.lt hcl hr hp;generalize hlv:lvK aj.length (λi=>st.1.getD i 0) h (wsum (wF aj) way - ao) L=lv at *;have d0:=low.d0;have hn:=low.n_;have ou:=low.at_;generalize hR:(rows.map λx=>x / ((bx L.length rows:Nat):Int))=R at *;generalize hk':(L.length:Int) / ((bx L.length rows:Nat):Int)=kk at *;generalize ((bx L.length rows:Nat):Int)=d at *;have hsh:∀ {i:Nat},i < aj.length->d * (kk * Zh aj way i - R.getD (way.getD i 0) 0)=lv.getD i 0:=λ{i} hi=>by rw [Int.mul_sub,<- ou,hat hi,<- Int.mul_assoc,<- hn];simp only [Xd,if_pos];lia
 have lw:=ok.len;refine ⟨kb,by rw [low.len]; exact hr.1,glow,fair,λi x hi e=>?_,λr hrb hrw=>?_,?_⟩
 ·have h1:=(hge hi).2;have h2:=lo.purse i x hi e;have h3:=T9 h2 (U9 n0);have h4:=hsh hi;refine A0s (a:=d) ?_ d0;rw [Int.mul_sub,<- Int.mul_assoc,<- hn] at h4;rw [<- Int.mul_assoc,<- hn];rw [Int.mul_sub] at h3;lia
 ·let ⟨e1,e2⟩:=Rp hr hrb hrw;let ⟨p,hp,hpe⟩:=Lm e1;refine ⟨?_,λy hy=>?_⟩
  ·refine O3.mpr ⟨way.getD p 0,Dw "o",?_⟩;refine A1b (a:=d) "o" ?_;rw [<- ou,<- ou,hat hp,hpe]
  ·let ⟨q,hq,rfl⟩:=O3.mp hy;let ⟨c,c1,c2⟩:=Qbx hq;refine A0s (a:=d) ?_ d0;rw [<- ou,<- ou];have:=hat (p:=c) "o";rw [c2] at this;rw [this];exact e2 _ (Lw "o")
 ·let ⟨i0,hi0,e0⟩:=hle.2;refine ⟨(range aj.length).map λi=>if i∈L then st.1.getD i 0 else h i,kk * Zh aj way i0 - R.getD (way.getD i0 0) 0,⟨by simp [Jl],by simp,λi hi=>?_,λa ha=>?_⟩,by rw [Vc k.nd k.lt]; exact k.pos,by rw [Vc k.nd k.lt]; exact lL,⟨O3.mpr ⟨i0,N8.mpr hi0,rfl⟩,λy hy=>?_⟩,?_⟩
  ·have e1:(Jl aj.length L st.2 st2.2).getD i (none,[])=Pd L st.2 st2.2 i:=by simp [Jl,getD,hi]
   have e2:((range aj.length).map λi=>if i∈L then st.1.getD i 0 else h i).getD i 0=if i∈L then st.1.getD i 0 else h i:=by simp [getD,hi]
   rw [e1,e2];unfold Pd
   by_cases hm:i∈L
   ·rw [if_pos hm,if_pos hm];let ⟨s,s1,s2,s3⟩:=okc.at_ i hi;unfold Qb6;dsimp only;rw [Qdv good.mem s2,s3]
   ·rw [if_neg hm,if_neg hm,lo.eq i hi hm];exact Lx jw hd hi (lo.some_ i hi hm)
  ·let ⟨i,hi,rfl⟩:=O3.mp ha;have hi':=N8.mp hi
   by_cases hm:i∈L
   ·rw [if_pos hm];let ⟨s,s1,s2,s3⟩:=okc.at_ i hi';have:=Ip (way:=way) hx (Ee cb i);rw [s3] at this;lia
   ·rw [if_neg hm,lo.eq i hi' hm];have:=Sw hx hd cb2 pb i;lia
  ·let ⟨i,hi,rfl⟩:=O3.mp hy;have hi':=N8.mp hi;refine A0s (a:=d) ?_ d0;rw [hsh hi0,hsh hi',e0];exact hle.1 i hi'
  ·rw [Vc k.nd k.lt,hn];have h1:=hsh hi0;rw [e0] at h1;show _=kk * (wsum (wF aj) way - ao - Va aj.length (λi=>st.1.getD i 0) h L);rw [<- h1,<- Int.mul_assoc,Int.mul_comm]
   congr 1
   exact Int.mul_comm _ _
theorem Qe9 (hx:∀ row∈aj,∀ x∈row,-(10 ^ 42) < x/\x < 10 ^ 42) (pb:∀ i x,ps.getD i none=some x->-(10 ^ 42) < x/\x < 10 ^ 42) (jw:Xs true ak aj way jj) (hd:Dg ak aj way jj ps st2) (cb2:∀ c∈st2.2,c.length<=5000) (iy:∀ i,i < aj.length->st2.1.getD i none≠none) (hs:wsum (wF aj) way - ao < ((range aj.length).map (hF st2.1)).sum) :
  Nu ak aj ao way ps (Jl aj.length [] [] st2.2):=by
 refine ⟨(range aj.length).map (hF st2.1),⟨by simp [Jl],by simp,λi hi=>?_,λa ha=>?_⟩,by rw [Vc nodup_nil (λi hi=>by cases hi)]; rfl,hs⟩
 ·have e1:(Jl aj.length [] [] st2.2).getD i (none,[])=Pd [] [] st2.2 i:=by simp [Jl,getD,hi]
  have e2:((range aj.length).map (hF st2.1)).getD i 0=hF st2.1 i:=by simp [getD,hi]
  rw [e1,e2];unfold Pd;rw [if_neg (by simp)];exact Lx jw hd hi (iy i hi)
 ·let ⟨i,hi,rfl⟩:=O3.mp ha;have:=Sw hx hd cb2 pb i;lia
end
def Ur.bf {wo:Bool} {H H':Hp} {t tl cl:G5} {ak:K3} {aj:J5} {way:K4} {aq:List Hop} {st:TC} (g:Ur wo H t tl cl ak aj way aq st) (s:Qt H H'):Ur wo H' t tl cl ak aj way aq st:=by let ⟨ls,e1,e2,e3,e4⟩:=g.tc.ex;exact ⟨s.to _ _ g.tup rfl,⟨g.tc.ne,s.to _ _ g.tc.g rfl,ls,s.to _ _ e1 rfl,e2,e3,λi a c h1 h2=>(e4 i a c h1 h2).bf s⟩,g.good,g.ok,g.nn,g.cl_⟩
theorem Qv8:∀ l:J7,inV .non (l.map oV)=decide (none∈l)
 | []=>rfl
 | none :: l=>by rw [decide_eq_true (mem_cons_self)];simp [inV,eqV,oV]
 | some z :: l=>by have ih:=Qv8 l;unfold inV at ih ⊢;rw [map_cons,any_cons,ih];simp [eqV,oV]
theorem Qj2:∀ l:J7,(l.map oV).all Ve=true
 | []=>rfl
 | none :: l=>by rw [map_cons,all_cons,Qj2 l];rfl
 | some z :: l=>by rw [map_cons,all_cons,Qj2 l];rfl
def all_ints {l:J7} (hl:l.length=n) (h:none ∉ l):l.map oV=((range n).map (hF l)).map V.int:=by
 refine U7 (by simp [hl]) λi a b=>?_;have hi:i < l.length:=by simpa using a
 simp only [getElem_map,getElem_range,hF,getD_eq_getElem?_getD,getElem?_eq_getElem hi];cases e:l[i] with
 | none=>exact absurd (e ▸ M9 hi) h
 | some z=>rfl
def Wt (H:Hp) (t:G5) (ak:K3) (aj:J5) (ao:Int) (way:K4) (ps:J7):Prop :=
 (∃ (tp rl pl:G5) (k:Int) (R:K3) (rows:List (K8 × List Xx)),H t=some (.tup [.str (Str.ofString "kept"),.ref tp,.ref pl])/\H tp=some (.tup [.int k,.ref rl])/\H rl=some (.lst (R.map V.int))/\Xl H pl rows/\Kn ak aj ao way ps k R rows) \/
 ∃ (pl:G5) (rows:List (K8 × List Xx)),H t=some (.tup [.str (Str.ofString "none"),.ref pl])/\Xl H pl rows/\Nu ak aj ao way ps rows
def Wx (P Q:G5) (H H':Hp):Prop:=∀ b o,H b=some o->b≠P->b≠Q->H' b=some o
def Yt.two1 {P Q:G5} {H':Hp} (s:Yt P H H'):Wx P Q H H':=λb o e h _=>s b o e h
def Yt.two2 {P Q:G5} {H':Hp} (s:Yt Q H H'):Wx P Q H H':=λb o e _ h=>s b o e h
def Wx.trans {P Q:G5} {H1 H2:Hp} (a:Wx P Q H H1) (b:Wx P Q H1 H2):Wx P Q H H2:=λc o e h1 h2=>b c o (a c o e h1 h2) h1 h2
def Qk0 (CH PT:G5) (l1:Pos) (q1:Str) (PL:G5) (l2:Pos) (q2:Str):Sp:=λvs H Q _ => ∃ (x wy pu:G5) (ak:K3) (aj:J5) (ao:Int) (way:K4) (ps:J7),vs=[.ref x,.ref wy,.ref pu]/\Zj CH H x ak aj ao/\Jt ak aj/\(-(10 ^ 42) < ao/\ao < 10 ^ 42)/\H wy=some (.lst ((wI way).map V.int))/\way.length=aj.length/\Fit (bF ak) way/\Opt ak aj way/\H pu=some (.lst (ps.map oV))/\ps.length=aj.length/\(∀ i x,ps.getD i none=some x->-(10 ^ 42) < x/\x < 10 ^ 42)/\Qa H PT l1 q1/\Qa H PL l2 q2 /\
 ∀ (t:G5) (H':Hp),Qt H H'->Wx PT PL H H'->Qa H' PT l1 q1->Qa H' PL l2 q2->Wt H' t ak aj ao way ps->Q (.ref t) H'
def Qm0 (x y:Int):Nat.gcd y.natAbs (x.fmod y).natAbs=Nat.gcd x.natAbs y.natAbs:=by show Int.gcd y (x.fmod y)=Int.gcd x y;rw [Int.fmod_def,Int.gcd_sub_mul_left_right,Int.gcd_comm]
theorem Qm2 (x:Int) {y:Int} (h:y≠0):(x.fmod y).natAbs < y.natAbs:=by
 rw [Int.fmod_eq_emod];have h1:=W5 x h;have h2:=Int.emod_lt x h
 by_cases e:0<=y\/y ∣ x
 ·rw [if_pos e];lia
 ·rw [if_neg e];have h3:x % y≠0:=λz=>e (.inr (Int.dvd_of_emod_eq_zero z));lia
def Oi:Sp:=λvs H Q _ => ∃ (a b:Int),vs=[.int a,.int b]/\∀ H',Qu H H'->Q (.int ((Nat.gcd a.natAbs b.natAbs:Nat):Int)) H'
def Ot:Sp:=λvs H Q _ => ∃ (tp rl:G5) (n:Int) (k:Int) (R:K3),vs=[.ref tp,.int n]/\H tp=some (.tup [.int k,.ref rl])/\H rl=some (.lst (R.map V.int))/\0 < k/\n=(R.length:Int)/\R.length<=10/\bx k.natAbs R=1/\∀ H',Qu H H'->Q (.bl true) H'
def Qk4:Sp:=λvs H Q _ => ∃ (b w wy tp rl:G5) (F:Fp),vs=[.ref b,.ref w,.int F.ao,.ref wy,.ref tp]/\H b=some (.lst (F.ak.map V.int))/\Mat H w F.aj/\H wy=some (.lst ((wI F.way).map V.int))/\H tp=some (.tup [.int F.parts,.ref rl])/\H rl=some (.lst (F.rows.map V.int))/\Qbk F/\0 < F.aj.length/\F.is .none/\∀ H',Qu H H'->Q (.bl true) H'
def Qk3:Sp:=λvs H Q _ => ∃ (b w wy pu pl:G5) (ak:K3) (aj:J5) (way:K4) (ps:J7) (rows:List (K8 × List Xx)) (as:K3),vs=[.ref b,.ref w,.ref wy,.ref pu,.ref pl]/\H b=some (.lst (ak.map V.int))/\Mat H w aj/\H wy=some (.lst ((wI way).map V.int))/\Qn ak aj way/\H pu=some (.lst (ps.map oV))/\ps.length=aj.length/\Xl H pl rows/\Bp ak aj way ps rows as /\
 ∀ (t:G5) (H':Hp),Qu H H'->H' t=some (.tup [.int as.sum,.int (bw rows:Int)])->Q (.ref t) H'
def Ol (K:M7):Sp:=λvs H Q _ => ∃ (a w wy tp rl:G5) (ns ak:K3) (aj:J5) (way:K4) (k:Int) (R:K3),vs=[.ref a,.ref w,.ref wy,.ref tp]/\SqL K H a (ns.map V.int)/\H wy=some (.lst ((wI way).map V.int))/\Qn ak aj way/\H tp=some (.tup [.int k,.ref rl])/\H rl=some (.lst (R.map V.int))/\R.length=ak.length/\0 < k/\k<=10/\∀ (l:G5) (ps:J7) (H':Hp),Qu H H'->H l=none->H' l=some (.lst (ps.map oV))->ps.length=aj.length->(∀ x∈ps,∀ z,x=some z->-(10 ^ 42) < z/\z < 10 ^ 42)->Q (.ref l) H'
def Qpk:Sp:=λvs H Q _ => ∃ (b w wy pu tp rl pl:G5) (ak:K3) (aj:J5) (ao:Int) (way:K4) (ps:J7) (k:Int) (R:K3) (rows:List (K8 × List Xx)),vs=[.ref b,.ref w,.int ao,.ref wy,.ref pu,.ref tp,.ref pl]/\H b=some (.lst (ak.map V.int))/\Mat H w aj/\H wy=some (.lst ((wI way).map V.int))/\Jt ak aj/\(-(10 ^ 42) < ao/\ao < 10 ^ 42)/\way.length=aj.length/\Fit (bF ak) way/\H pu=some (.lst (ps.map oV))/\ps.length=aj.length/\(∀ i x,ps.getD i none=some x->-(10 ^ 42) < x/\x < 10 ^ 42)/\H tp=some (.tup [.int k,.ref rl])/\H rl=some (.lst (R.map V.int))/\Xl H pl rows/\Kn ak aj ao way ps k R rows/\∀ H',Qu H H'->Q (.bl true) H'
def Qpw:Sp:=λvs H Q _ => ∃ (b w wy pu pl:G5) (ak:K3) (aj:J5) (ao:Int) (way:K4) (ps:J7) (rows:List (K8 × List Xx)),vs=[.ref b,.ref w,.int ao,.ref wy,.ref pu,.ref pl]/\H b=some (.lst (ak.map V.int))/\Mat H w aj/\H wy=some (.lst ((wI way).map V.int))/\Jt ak aj/\way.length=aj.length/\Fit (bF ak) way/\H pu=some (.lst (ps.map oV))/\ps.length=aj.length/\Xl H pl rows/\Nu ak aj ao way ps rows/\∀ H',Qu H H'->Q (.bl true) H'
theorem Qu6 {k:Int} (HG:Jt ak aj) (hre:-(10 ^ 42) < ao/\ao < 10 ^ 42) (ln:way.length=aj.length) (fit:Fit (bF ak) way) (h:Kn ak aj ao way ps k R rows):Qbk ⟨ak,aj,ao,way,k,R⟩ :=⟨HG.bok.b1,HG.bok.w1,HG.bok.rows,h.len,ln,fit,by have:=h.k1; exact ⟨by show -(10 ^ 100) < k; lia,by show k < 10 ^ 100; lia⟩,⟨by show -(10 ^ 100) < ao; lia,by show ao < 10 ^ 100; lia⟩,λrow hr x hx=>by have:=HG.x row hr x hx; lia⟩
theorem Qv0 {k x B:Int} (hk:0 < k/\k<=10) (hx:-B<=x/\x<=B):-(10 * B)<=k * x/\k * x<=10 * B:=by
 have hB:0<=B:=by lia
 have h1:=T9 hx.2 (U9 hk.1);have h2:=T9 hx.1 (U9 hk.1);have h3:=U0 hk.2 hB;rw [Int.mul_neg] at h2;lia
theorem Qvk {f B:Int} (hf:1<=f) (hc:-B<=m * f/\m * f<=B):-B<=m/\m<=B:=by
 by_cases h:0<=m
 ·have h1:=T9 hf h;lia
 ·have h1:=T9 hf (show 0<=-m by lia);rw [Int.neg_mul,Int.neg_mul] at h1;lia
theorem Qj1 {as:K3} (lw:aj.length<=10) (h:Bp ak aj way ps rows as):-(10 * 10 ^ 50)<=as.sum/\as.sum<=10 * 10 ^ 50:=by
 have h1:=Nn (B:=10 ^ 50) (l:=as) λz hz=>by have:=h.bd z hz;lia
 rw [h.l2] at h1;have h2:(aj.length:Int) * 10 ^ 50<=10 * 10 ^ 50:=U0 "o" (by decide);lia
def Nz:((range rows.length).filter λi=>(rows.getD i (none,[])).1.isNone).length=bw rows:=by
 unfold bw;have e:rows=(range rows.length).map λi=>rows.getD i (none,[]):=by refine U7 (by simp) λi a b=>?_;simp [getD,a]
 conv=>rhs; rw [e,filter_map,length_map]
 rfl
def Mj (K:M7) (P1:G5) (l1:Pos) (q1:Str) (P2:G5) (l2:Pos) (q2:Str) (P3:G5) (l3:Pos) (q3:Str):Sp:=λvs H Q _ => ∃ (a:G5) (ns:K3),vs=[.ref a]/\SqL K H a (ns.map V.int)/\ns.length<=63/\Qa H P1 l1 q1/\Qa H P2 l2 q2/\Qa H P3 l3 q3/\∀ H',Q (.bl true) H'
def stN {x:V} {σ σ':St} {k:St->Hp->Prop} (e:σ.set i (some x)=σ') (h:k σ' H):Jb i x σ H k:=by subst e;exact h
def Qoz:List Xx->Int->Int
 | [],i=>i
 | m :: c,_=>Qoz c m.1
theorem Lo (m:Xx):∀ (c:List Xx) (i:Int),Qoz (c ++ [m]) i=m.1
 | [],_=>rfl
 | h :: c,_=>Lo m c h.1
theorem Qm8 (c:List Xx) (i:Nat):Qoz c.reverse (i:Int)=Fc c i:=by
 cases c with
 | nil=>rfl
 | cons m c=>rw [reverse_cons,Lo]; rfl
section
variable {k:Int} {as:K3}
theorem Qd0 {f:Nat->Int} (ok:Qn ak aj way) (hc:∀ a b r:Nat,a < aj.length->b < aj.length->r < ak.length->(r:Int)∈Zm true ak way a b->f a + k * Zn true aj way a r b<=f b):∀ (c:List Xx) (i:Nat) (z:Int),i < aj.length->wbI (okI true ak aj.length way) (gnI true aj way) c (i:Int)=some z->∃ s:Nat,s < aj.length/\Qoz c (i:Int)=(s:Int)/\f s + k * z<=f i
 | [],i,z,hi,h=>by
  have:z=0:=by simp [wbI] at h; exact h.symm
  exact ⟨i,hi,rfl,by rw [this]; lia⟩
 | m :: c,i,z,hi,h=>by
  unfold wbI at h
  by_cases e:m.2.2=(i:Int)/\okI true ak aj.length way m=true
  ·rw [if_pos e] at h;let ⟨a,r,b,rfl,ha,hb,hab,hr,hm⟩:=Bf ok e.2;have eb:b=i:=by have:=e.1; simp only at this; lia
   subst eb;cases h2:wbI (okI true ak aj.length way) (gnI true aj way) c (a:Int) with
   | none=>rw [h2] at h; cases h
   | some y =>
    rw [h2] at h;have ez:y + gnI true aj way ((a:Int),(r:Int),(b:Int))=z:=by simpa using h
    let ⟨s,s1,s2,s3⟩:=Qd0 ok hc c a y ha h2;have h3:=hc a b r ha hb hr hm;have eg:gnI true aj way ((a:Int),(r:Int),(b:Int))=Zn true aj way a r b:=by simp [gnI]
    refine ⟨s,s1,s2,?_⟩;rw [<- ez,eg,Int.mul_add];lia
  ·rw [if_neg e] at h;cases h
def Qn7 {f:Nat->Int} (ok:Qn ak aj way) (hc:∀ a b r:Nat,a < aj.length->b < aj.length->r < ak.length->(r:Int)∈Zm true ak way a b->f a + k * Zn true aj way a r b<=f b) {c:List Xx} {z:Int} (hi:i < aj.length) (h:chI true ak aj way c i=some z):∃ s:Nat,s < aj.length/\Fc c i=(s:Int)/\f s + k * z<=f i:=by unfold chI at h;rw [<- Zq5] at h;let ⟨s,s1,s2,s3⟩:=Qd0 ok hc _ i z hi h;exact ⟨s,s1,by rw [<- s2,Qm8],s3⟩
theorem Zxz (ok:Qn ak aj way) (fair:Fp.is ⟨ak,aj,ao,way,k,R⟩ .none) (hp:∀ i x,i < aj.length->ps.getD i none=some x->R.getD (way.getD i 0) 0<=k * x) (hm:∀ i,i < aj.length->m<=Wd true aj way k R i) (pok:Bp ak aj way ps rows as):m * (bw rows:Int)<=k * (wsum (wF aj) way - ao - as.sum):=by
 have h1:∀ i,i < aj.length->k * as.getD i 0 + (if (rows.getD i (none,[])).1.isNone then m else 0)<=Wd true aj way k R i:=λi hi=>by
  have hat:=pok.at_ i hi;generalize rows.getD i (none,[])=row at *;let ⟨o,c⟩:=row;unfold Qb6 at hat;cases hch:chI true ak aj way c i with
  | none=>simp only [hch] at hat; cases hat
  | some g =>
   let ⟨s,s1,s2,s3⟩:=Qn7 (f:=Wd true aj way k R) (k:=k) ok (λa b r ha hb hr hmm=>Qv5 ok fair ha hb hr hmm) hi hch;simp only [hch] at hat;cases o with
   | none =>
    have e:g=as.getD i 0:=by simpa using hat
    have:=hm s s1;show k * as.getD i 0 + m<=_;rw [<- e];lia
   | some kk =>
    simp only at hat
    by_cases hk:kk=Fc c i
    ·rw [if_pos hk,hk,s2,Int.toNat_natCast] at hat;cases hx:ps.getD s none with
     | none=>rw [hx] at hat; cases hat
     | some x =>
      rw [hx] at hat;have e:Zh aj way s - x + g=as.getD i 0:=by simpa using hat
      have h5:=hp s x s1 hx;have h6:Wd true aj way k R s=k * Zh aj way s - R.getD (way.getD s 0) 0:=by simp [Wd]
      show k * as.getD i 0 + 0<=_;rw [<- e,Int.mul_add,Int.mul_sub];lia
    ·rw [if_neg hk] at hat;cases hat
 have h2:=Ta aj.length h1;have h3:=Qv4 (wo:=true) ok fair;have e1:((range aj.length).map λi=>as.getD i 0)=as:=by rw [<- pok.l2]; exact range_getD _
 have e2:((range aj.length).map λi=>if (rows.getD i (none,[])).1.isNone then m else 0).sum=m * (bw rows:Int):=by
  rw [<- Nz,pok.l1];have key:∀ (p:Nat->Bool) (l:K4),(l.map λi=>if p i then m else 0).sum=m * ((l.filter p).length:Int):=λp l=>by
   induction l with
   | nil=>simp
   | cons a l ih =>
    rw [map_cons,sum_cons,ih]
    by_cases hp:p a=true
    ·rw [if_pos hp,filter_cons_of_pos hp,length_cons,show (((l.filter p).length + 1:Nat):Int)=((l.filter p).length:Int) + 1 by lia,Int.mul_add];lia
    ·rw [if_neg hp,filter_cons_of_neg hp];lia
  exact key (λi=>(rows.getD i (none,[])).1.isNone) _
 rw [Kp (λi=>k * as.getD i 0) (λi=>if (rows.getD i (none,[])).1.isNone then m else 0),e2,Mx,e1] at h2;have h2':k * as.sum + m * (bw rows:Int)<=((range aj.length).map (Wd true aj way k R)).sum:=h2;rw [h3] at h2';have e3:Uz true aj way ao=wsum (wF aj) way - ao:=rfl;rw [e3] at h2';rw [Int.mul_sub k (wsum (wF aj) way - ao) as.sum];lia
theorem Qv6 {k1:Int} {R1:K3} (ok:Qn ak aj way) (kp:Kn ak aj ao way ps k R rows) (fair:Fp.is ⟨ak,aj,ao,way,k1,R1⟩ .none) (hp:∀ i x,i < aj.length->ps.getD i none=some x->R1.getD (way.getD i 0) 0<=k1 * x) {m1:Int} (hm1:∀ i,i < aj.length->m1<=Wd true aj way k1 R1 i) (hm:Yv m ((range aj.length).map λi=>k * Zh aj way i - R.getD (way.getD i 0) 0)) (k10:0<=k1):m1 * k<=m * k1:=by
 let ⟨as,m',pok,f0,f1,hm',he⟩:=kp.pap;have em:m=m':=hm.eq hm';subst em;have h1:=Zxz ok fair hp hm1 pok;have h2:=U0 h1 (U9 kp.k1.1);have hf:(0:Int) < (bw rows:Int):=by lia
 refine A1h (a:=(bw rows:Int)) ?_ hf;have e1:m1 * (bw rows:Int) * k=m1 * k * (bw rows:Int):=by rw [Int.mul_assoc,Int.mul_comm (bw rows:Int),<- Int.mul_assoc]
 have e2:k1 * (wsum (wF aj) way - ao - as.sum) * k=m * k1 * (bw rows:Int):=by rw [Int.mul_assoc,Int.mul_comm _ k,<- he,Int.mul_comm m k1,Int.mul_assoc]
 rw [e1,e2] at h2;exact h2
theorem Qq8 {k1:Int} {R1:K3} (ok:Qn ak aj way) (np:Nu ak aj ao way ps rows) (k10:0 < k1) (fair:Fp.is ⟨ak,aj,ao,way,k1,R1⟩ .none) (hp:∀ i x,i < aj.length->ps.getD i none=some x->R1.getD (way.getD i 0) 0<=k1 * x) {m1:Int} (hm1:∀ i,i < aj.length->m1<=Wd true aj way k1 R1 i):False:=by let ⟨as,pok,f0,hlt⟩:=np.pap;have h1:=Zxz ok fair hp hm1 pok;rw [f0] at h1;have h2:=A1m (show wsum (wF aj) way - ao - as.sum < 0 by lia) k10;simp at h1 h2;lia
end
def Wt.same {H':Hp} {t:G5} (h:Wt H t ak aj ao way ps) (s:Qt H H'):Wt H' t ak aj ao way ps:=by
 rcases h with ⟨tp,rl,pl,k,R,rows,e1,e2,e3,e4,e5⟩ | ⟨pl,rows,e1,e4,e5⟩
 ·refine .inl ⟨tp,rl,pl,k,R,rows,s.to _ _ e1 rfl,s.to _ _ e2 rfl,s.to _ _ e3 rfl,?_,e5⟩;let ⟨ts,f1,f2,f3⟩:=e4;refine ⟨ts,s.to _ _ f1 rfl,f2,λi t r a b=>?_⟩;let ⟨c,c1,c2⟩:=f3 i t r a b;exact ⟨c,s.to _ _ c1 rfl,c2.bf s⟩
 ·refine .inr ⟨pl,rows,s.to _ _ e1 rfl,?_,e5⟩;let ⟨ts,f1,f2,f3⟩:=e4;refine ⟨ts,s.to _ _ f1 rfl,f2,λi t r a b=>?_⟩;let ⟨c,c1,c2⟩:=f3 i t r a b;exact ⟨c,s.to _ _ c1 rfl,c2.bf s⟩
def hid (D:G5) (H:Hp):Hp:=λb=>if b=D then none else H b
def Mh:hid D H D=none:=V2 rfl
def Vs {b:G5} (h:b≠D):hid D H b=H b:=U6 h
def Qn0 {G:Hp} {o:HO} (h:G D=none):hid D (upd G D o)=G:=by
 funext b
 by_cases hb:b=D
 ·rw [hb,Mh,h]
 ·rw [Vs hb,Qv hb]
def Qxv (t:TE):TE:=λσ H Q => ∃ D ys,H D=some (.lst ys)/\t σ (hid D H) λv H'=>H' D=none->Q v (upd H' D (.lst ys))
def Qh0 {X:Cx} {e:Expr} {t:TE} (h:PE X e t):PE X e (Qxv t):=by
 rintro dz s σ H Q I ⟨D,ys,hD,q⟩;let ⟨hl,its,n,hv,ho⟩:=I.hok D _ hD;have nD:∀ b,H b=none->b≠D:=λb e z=>by rw [z,hD] at e; cases e
 have nu:∀ b u,H b=some u->(∀ zs,u≠.lst zs)->b≠D:=λb u e hu z=>by rw [z,hD] at e;cases e;exact hu _ rfl
 have hfs:D ∉ X.fs:=λhb=>by let ⟨_,o,ho',_⟩:=I.ok.dw.mem hb;exact nD D (I.base.free D o ho' (I.ok.frf D hb) λhx=>I.ok.exfs D hx hb) rfl
 have I1:Inv X ((D,{ cls:=.type "list",data:=.seq its.toArray n }) :: dz) σ (hid D H) s:=by
  refine ⟨I.ok,I.os,I.bare,⟨I.base.keep,I.base.slot,λb o h1 h2 h3=>?_,I.base.there,λb xs e=>?_,λb o u e=>?_,λb ps e=>?_⟩,I.loc,I.cell,?_,λx c e=>?_,λp hp=>?_,λa o e=>?_,I.len⟩
  ·have:=I.base.free b o h1 h2 h3;rw [Vs (nD b this)];exact this
  ·have:=I.base.tups b xs e;rw [Vs (nu b _ this λ_=>by simp)];exact this
  ·have:=I.base.frzs b o u e;rw [Vs (nu b _ this λ_=>by simp)];exact this
  ·let ⟨m,hm⟩:=I.base.tbls b ps e;exact ⟨m,by rw [Vs (nu b _ hm λ_=>by simp)]; exact hm⟩
  ·rw [Vs (nD _ I.free)];exact I.free
  ·rw [Vs (nD _ (I.c7 x c e))];exact I.c7 x c e
  ·rcases O5.mp hp with z | z
   ·have:=I.pin p (R5 _ z);exact ⟨this.1,by rw [Vs (nD _ this.2.1)]; exact this.2.1,this.2.2⟩
   ·rcases Q8.mp z with rfl | z
    ·exact ⟨ho,Mh,(nD _ I.free).symm,hfs,λv z=>by cases z⟩
    ·have:=I.pin p (P0 _ z);exact ⟨this.1,by rw [Vs (nD _ this.2.1)]; exact this.2.1,this.2.2⟩
  ·have ha:a≠D:=λz=>by rw [z,Mh] at e; cases e
   rw [Vs ha] at e;exact (I.hok a o e).stay (λ_ _ _ r=>r) (λc r=>by rw [Vs (nu c _ r λ_=>by simp)]; exact r) λc xs r=>by rw [Vs (nu c _ r λ_=>by simp)]; exact r
 refine thn (h _ s σ (hid D H) _ I1 q) λv s' ⟨v',H',J,r,k⟩=>?_;have pD:=J.pin (D,_) (P0 _ O9);have hD':H' D=none:=pD.2.1;have nu':∀ b u,H' b=some u->b≠D:=λb u e z=>by rw [z,hD'] at e; cases e
 refine ⟨v',upd H' D (.lst ys),⟨J.ok,J.os,J.bare,⟨J.base.keep,J.base.slot,λb o h1 h2 h3=>?_,J.base.there,λb xs e=>?_,λb o u e=>?_,λb ps e=>?_⟩,J.loc,J.cell,?_,λx c e=>?_,λp hp=>?_,?_,J.len⟩,r,k hD'⟩
 ·rw [Qv (nD b (I.base.free b o h1 h2 h3))];exact J.base.free b o h1 h2 h3
 ·have:=J.base.tups b xs e;rw [Qv (nu' b _ this)];exact this
 ·have:=J.base.frzs b o u e;rw [Qv (nu' b _ this)];exact this
 ·let ⟨m,hm⟩:=J.base.tbls b ps e;exact ⟨m,by rw [Qv (nu' b _ hm)]; exact hm⟩
 ·rw [Qv (nD _ I.free)];exact J.free
 ·rw [Qv (nD _ (I.c7 x c e))];exact J.c7 x c e
 ·have hp':p∈X.pn ++ ((D,{ cls:=.type "list",data:=.seq its.toArray n }) :: dz):=by
   rcases O5.mp hp with z | z
   ·exact R5 _ z
   ·exact P0 _ (Q0 _ z)
  have:=J.pin p hp';exact ⟨this.1,by rw [Qv (nD _ (I.pin p hp).2.1)]; exact this.2.1,this.2.2⟩
 ·intro a o e
  by_cases ha:a=D
  ·rw [ha,Qk] at e;cases e;rw [ha];exact ⟨hl,its,n,hv,pD.1⟩
  ·rw [Qv ha] at e;exact (J.hok a o e).stay (λ_ _ _ r=>r) (λc r=>by rw [Qv (nu' c _ r)]; exact r) λc xs r=>by rw [Qv (nu' c _ r)]; exact r
theorem Qz4 {K:M7} {a:G5} {te:TE} {σf:St} {H1:Hp} {Q:VK} (R:Nat->V->Hp->Prop) (J:Hp->Prop) (hx:H1 a=some (.lst xs)) (hz:xs.length < sizeLine) (hD1:H1 D=none) (j0:J H1)
  (mono:∀ i y H H',Qt H H'->R i y H->R i y H')
  (hs:∀ i x G (N:VK),xs[i]? = some x->Qt H1 G->J G->(∀ y G',Qt G G'->J G'->R i y G'->N y G')->te (some x :: σf) G N)
  (hd:∀ ys G,Qt H1 G->J G->G D=none->ys.length=xs.length->(∀ (i:Nat) y,ys[i]? = some y->R i y G)->Q (.ref D) (upd G D (.lst ys))):Wo (Itl K a) D (Jb 0) Qx0 (Qxv te) (none :: σf) (upd H1 D (.lst [])) Q:=by
 have nD:∀ b o,H1 b=some o->b≠D:=λb o e=>Qj e hD1;refine ⟨λi m ys H=>i<=xs.length/\m=xs.length - i/\∃ G,H=upd G D (.lst ys)/\G D=none/\Qt H1 G/\J G/\ys.length=i/\∀ (j:Nat) y,ys[j]? = some y->R j y G,⟨xs.length,R7 _,rfl,H1,rfl,hD1,Qt.refl _,j0,rfl,λj y e=>by simp at e⟩,?_⟩;rintro i m ys H ⟨hi,rfl,G,rfl,g1,g2,g3,g4,g5⟩;refine ⟨Qk,?_⟩;have hS:SqL K (upd G D (.lst ys)) a xs:=SqL.of (by rw [Qv (nD a _ hx)]; exact g2.to _ _ hx rfl)
 by_cases hlt:i < xs.length
 ·refine .inr ⟨⟨xs,xs[i],hS,by simp [hlt]⟩,"o",λy H6 => ∃ G',H6=upd G' D (.lst ys)/\G' D=none/\Qt G G'/\J G'/\R i y G',λ_=>False,?_,λ_ z=>z.elim,λx H' y=>?_⟩
  ·rintro y H6 ⟨G',rfl,q1,q2,q3,q4⟩;refine ⟨Qk,xs.length - (i + 1),"o",hlt,rfl,G',Ql0,q1,g2.trans q2,q3,by simp [g4],λj z e=>?_⟩
   by_cases hj:j < ys.length
   ·rw [getElem?_append_left hj] at e;exact mono _ _ _ _ q2 (g5 j z e)
   ·have hj':j=ys.length:=by have:=(N5.mp e).1;simp at this;lia
    subst hj';simp at e;subst e;rw [g4];exact q4
  ·let ⟨rfl,y⟩:=y;have ex:=y xs hS;refine ⟨Agree.one _ _ _ rfl,?_⟩;show if true=true then Qxv te (some x :: σf) (upd G D (.lst ys)) (λy H6 => ∃ G',H6=upd G' D (.lst ys)/\G' D=none/\Qt G G'/\J G'/\R i y G') else False
   rw [if_pos rfl];refine ⟨D,ys,Qk,?_⟩;rw [Qn0 g1];exact hs i x G _ ex g2 g3 λz G' a b c hn=>⟨G',rfl,hn,a,b,c⟩
 ·obtain rfl:i=xs.length:=A0y hi (W8.mp hlt);exact .inl ⟨⟨xs,hS,O1 _⟩,hd ys G g2 g3 g1 g4 g5⟩
theorem Qvq {a b c d e f:Int} (hd:0 < d) (h1:a * d<=c * b) (h2:c * f<=e * d) (hb:0 < b) (hf:0 < f):a * f<=e * b:=by refine A1h (a:=d) ?_ hd;have g1:=U0 h1 (U9 hf);have g2:=U0 h2 (U9 hb);rw [Int.mul_right_comm a,Int.mul_right_comm c] at g1;rw [Int.mul_right_comm e] at g2;lia
theorem Qn3 {a b c d e f:Int} (hd:0 < d) (h1:a * d<=c * b) (h2:c * f < e * d) (hb:0 < b) (hf:0 < f):a * f < e * b:=by refine Int.lt_of_mul_lt_mul_right (a:=d) ?_ (U9 hd);have g1:=U0 h1 (U9 hf);have g2:=Int.mul_lt_mul_of_pos_right h2 hb;rw [Int.mul_right_comm a,Int.mul_right_comm c] at g1;rw [Int.mul_right_comm e] at g2;lia
def Vi (V:Nat->Int->Int->Prop) (S:Nat->Prop) (j:Nat) (m k:Int):Prop:=S j/\V j m k/\∀ p m' k',S p->V p m' k'->m' * k<=m * k'/\(p < j->m' * k < m * k')
structure Cm (V:Nat->Int->Int->Prop):Prop where
 pos:∀ {p m k},V p m k->0 < k
 uniq:∀ {p m k m' k'},V p m k->V p m' k'->m * k'=m' * k
section
variable {V:Nat->Int->Int->Prop} {S S':Nat->Prop} {j:Nat} {k m' k':Int}
def Qg0 (o:Cm V) (h:V n m k) (hS:S n) (ho:∀ p,S p->p≠n->∀ m k,¬ V p m k):Vi V S n m k:=by
 refine ⟨hS,h,λp a b s w=>?_⟩
 by_cases e:p=n
 ·subst e;rw [o.uniq w h];exact ⟨Q6 _,λz=>absurd z (T7 _)⟩
 ·exact absurd w (ho p s e _ _)
theorem Vi.val (o:Cm V) (a:Vi V S j m k) (h:V j m' k'):Vi V S j m' k':=by let ⟨a1,a2,a3⟩:=a;refine ⟨a1,h,λp c d s w=>?_⟩;have e:m * k'=m' * k:=o.uniq a2 h;exact ⟨Qvq (o.pos a2) (a3 p c d s w).1 "o" (o.pos w) (o.pos h),λz=>by have h1:=(a3 p c d s w).2 z;refine Int.lt_of_mul_lt_mul_right (a:=k) ?_ (U9 (o.pos a2));have g1:=Int.mul_lt_mul_of_pos_right h1 (o.pos h);rw [Int.mul_right_comm c,Int.mul_right_comm m,e,Int.mul_right_comm m'] at g1;exact g1⟩
theorem Vi.keep (o:Cm V) (a:Vi V S j m k) (hj:S' j) (hS:∀ p,S' p->S p\/∀ c d,V p c d->j<=p/\∃ c' d',V p c' d'/\c' * k<=m * d'):Vi V S' j m k:=by
 let ⟨a1,a2,a3⟩:=a;refine ⟨hj,a2,λp c d s w=>?_⟩;rcases hS p s with z | h
 ·exact a3 p c d z w
 ·let ⟨z,c',d',w',h'⟩:=h c d w;exact ⟨Qvq (o.pos w') (Int.le_of_eq (o.uniq w w')) h' (o.pos w) (o.pos a2),λq=>by lia⟩
def Vi.move (o:Cm V) (a:Vi V S j m k) (h:V n m' k') (hlt:m * k' < m' * k) (hn:S' n) (hS:∀ p,S' p->S p\/p=n):Vi V S' n m' k':=by
 let ⟨a1,a2,a3⟩:=a;refine ⟨hn,h,λp c d s w=>?_⟩;rcases hS p s with z | rfl
 ·have:=Qn3 (o.pos a2) (a3 p c d z w).1 hlt (o.pos w) (o.pos h);exact ⟨U9 this,λ_=>this⟩
 ·rw [o.uniq w h];exact ⟨Q6 _,λz=>absurd z (T7 _)⟩
end
def Cy (ak:K3) (aj:J5) (ao:Int) (ps:J7) (L:J6) (p:Nat) (m k:Int):Prop:=∃ R rws,Kn ak aj ao (L.getD p []) ps k R rws/\Yv m ((range aj.length).map λi=>k * Zh aj (L.getD p []) i - R.getD ((L.getD p []).getD i 0) 0)
structure Rj (ak:K3) (aj:J5) (ao:Int) (L:J6):Prop where
 g:Jt ak aj
 r:-(10 ^ 42) < ao/\ao < 10 ^ 42
 l:∀ v∈L,v.length=aj.length/\Fit (bF ak) v/\Opt ak aj v
section
variable {L:J6} {p:Nat} {k:Int}
def Rj.at_ (o:Rj ak aj ao L) (h:p < L.length):(L.getD p []).length=aj.length/\Fit (bF ak) (L.getD p [])/\Opt ak aj (L.getD p []):=by rw [getD_get _ _ h];exact o.l _ (M9 h)
def Rj.aok (o:Rj ak aj ao L) (h:p < L.length):Qn ak aj (L.getD p []):=⟨o.g.bok,(o.at_ h).1,Jz (o.at_ h).2.1⟩
def Gd (h:Yv m ((range aj.length).map λi=>k * Zh aj way i - R.getD (way.getD i 0) 0)):∀ i,i < aj.length->m<=Wd true aj way k R i:=λi hi=>h.2 _ (O3.mpr ⟨i,N8.mpr hi,rfl⟩)
theorem Rj.val (o:Rj ak aj ao L):Cm λp m k=>p < L.length/\Cy ak aj ao ps L p m k:=by refine ⟨λ⟨_,R,rws,a,_⟩=>a.k1.1,λ{p m k m' k'} ⟨hp,R,rws,a,b⟩ ⟨_,R',rws',a',b'⟩=>?_⟩;have h1:=Qv6 (o.aok hp) a a'.fair a'.purse (Gd b') b (U9 a'.k1.1);have h2:=Qv6 (o.aok hp) a' a.fair a.purse (Gd b) b' (U9 a.k1.1);lia
def Ar (o:Rj ak aj ao L) (hp:p < L.length) (np:Nu ak aj ao (L.getD p []) ps rws):¬ Cy ak aj ao ps L p m k:=λ⟨R,rws',a,b⟩=>Qq8 (o.aok hp) np a.k1.1 a.fair a.purse (Gd b)
theorem Mp (g:Jt ak aj) (hr:-(10 ^ 42) < ao/\ao < 10 ^ 42) (ln:way.length=aj.length) (a:Kn ak aj ao way ps k R rws) (b:Yv m ((range aj.length).map λi=>k * Zh aj way i - R.getD (way.getD i 0) 0)):-(10 ^ 70) < m/\m < 10 ^ 70:=by let ⟨as,m',pok,f0,f1,hm,hme⟩:=a.pap;have lwo:=g.bok.w1;obtain rfl:=b.eq hm;have hwb:=Ng (way:=way) g.x "o";have pbd:=Qj1 lwo pok;have hxb:=Qv0 (x:=wsum (wF aj) way - ao - as.sum) (B:=10 ^ 60) a.k1 ⟨"o","o"⟩;have hmb:=Qvk (m:=m) (f:=(bw rws:Int)) (B:=10 * 10 ^ 60) "o" (by rw [hme]; exact hxb);lia
end
def By (H:Hp) (P1 P2 P3:G5) (l1 l2 l3:Pos):Prop:=Qa H P1 l1 "bring_in.<locals>.<lambda>"/\Qa H P2 l2 "best_room.<locals>.<lambda>"/\Qa H P3 l3 "loose_ones.<locals>.<lambda>"
section
variable {H':Hp} {P1 P2 P3:G5} {l1 l2 l3:Pos}
def By.same (h:By H P1 P2 P3 l1 l2 l3) (s:Qu H H'):By H' P1 P2 P3 l1 l2 l3:=⟨h.1.same s,h.2.1.same s,h.2.2.same s⟩
def By.two (h:By H P1 P2 P3 l1 l2 l3) (n2:P2≠P1) (n3:P3≠P1) (s:Wx P2 P3 H H') (a:Qa H' P2 l2 "best_room.<locals>.<lambda>") (b:Qa H' P3 l3 "loose_ones.<locals>.<lambda>"):By H' P1 P2 P3 l1 l2 l3:=by
 refine ⟨?_,a,b⟩;let ⟨x2,t2⟩:=h.2.1.tbl;let ⟨x3,t3⟩:=h.2.2.tbl;rcases h.1 with h | ⟨c',oc,vs,t,h1,h2,h3⟩
 ·exact .inl (s _ _ h n2.symm n3.symm)
 ·refine .inr ⟨c',oc,vs,t,s _ _ h1 n2.symm n3.symm,s _ _ h2 (λe=>?_) (λe=>?_),h3⟩
  ·rw [e,t2] at h2; cases h2
  ·rw [e,t3] at h2; cases h2
end
def Hx (CH P1 P2 P3:G5) (l1 l2 l3:Pos):Sp:=λvs H Q _ => ∃ (x:G5) (ak:K3) (aj:J5) (ao:Int),vs=[.ref x,.str (Zq4 true)]/\Zj CH H x ak aj ao/\Jt ak aj/\By H P1 P2 P3 l1 l2 l3 /\
 ∀ (t wy t0 tp rl cl:G5) (way:K4) (aq:List Hop) (st:TC) (rows:K3) (H':Hp),Qt H H'->By H' P1 P2 P3 l1 l2 l3->H' t=some (.tup [.ref wy,.ref tp,.ref cl])->H' wy=some (.lst ((wI way).map V.int))->Qn ak aj way->Fit (bF ak) way->Opt ak aj way->Ow true H' t0 tp rl cl ak aj ao way aq st rows->Q (.ref t) H'
def Qk5 (CH P1 P2 P3:G5) (l1 l2 l3:Pos):Sp:=λvs H Q _ => ∃ (x:G5) (ak:K3) (aj:J5) (ao:Int),vs=[.ref x]/\Zj CH H x ak aj ao/\Jt ak aj/\By H P1 P2 P3 l1 l2 l3/\(-(10 ^ 42) < ao/\ao < 10 ^ 42) /\
 ∀ (l:G5) (rows:K3) (H':Hp),Qt H H'->By H' P1 P2 P3 l1 l2 l3->Told true ak aj ao rows->Mat H' l (Dk (aj.length:Int) ak.length aj rows)->Q (.ref l) H'
def Qc3 (ak:K3) (aj:J5) (rows:K3):Nat:=Qx3 (Cw aj.length ak.length (Fh (aj.length:Int) ak.length aj rows))
def Ss (CH eM:G5) (P1 P2 P3:G5) (l1 l2 l3:Pos):Sp:=λvs H Q E => ∃ (x:G5) (ak:K3) (aj:J5) (ao:Int),vs=[.ref x]/\Zj CH H x ak aj ao/\Jt ak aj/\By H P1 P2 P3 l1 l2 l3/\(-(10 ^ 42) < ao/\ao < 10 ^ 42) /\
 ∀ (rows:K3) (H':Hp),Qt H H'->By H' P1 P2 P3 l1 l2 l3->Told true ak aj ao rows->(Qc3 ak aj rows<=200->∀ l,Mat H' l ((Vv ak aj).map wI)->Q (.ref l) H')/\(200 < Qc3 ak aj rows->E (.ref eM) none H')
def Mi (CH:G5):Sp:=λvs H Q _ => ∃ (x wy t tp rl pl:G5) (ak:K3) (aj:J5) (ao:Int) (way:K4) (ps:J7) (k:Int) (R:K3) (rws:List (K8 × List Xx)),vs=[.ref x,.ref wy,.ref t]/\Zj CH H x ak aj ao/\Jt ak aj/\H wy=some (.lst ((wI way).map V.int))/\way.length=aj.length/\Fit (bF ak) way/\H t=some (.tup [.str (Str.ofString "kept"),.ref tp,.ref pl])/\H tp=some (.tup [.int k,.ref rl])/\H rl=some (.lst (R.map V.int))/\Kn ak aj ao way ps k R rws /\
 ∀ t' m H',Qu H H'->H' t'=some (.tup [.int m,.int k])->Yv m ((range aj.length).map λi=>k * Zh aj way i - R.getD (way.getD i 0) 0)->Q (.ref t') H'
def Zv4 (H:Hp) (t:G5) (ak:K3) (aj:J5) (ao:Int) (ps:J7) (L:J6):Prop:=∃ (wy tp rl pl:G5) (j:Nat) (m k:Int) (R:K3) (rws:List (K8 × List Xx)),H t=some (.tup [.str (Str.ofString "kept"),.ref wy,.ref tp,.ref pl])/\H wy=some (.lst ((wI (L.getD j [])).map V.int))/\H tp=some (.tup [.int k,.ref rl])/\H rl=some (.lst (R.map V.int))/\Xl H pl rws/\Kn ak aj ao (L.getD j []) ps k R rws/\Vi (λp m k=>p < L.length/\Cy ak aj ao ps L p m k) (· < L.length) j m k
def Zxk (H:Hp) (t:G5) (ak:K3) (aj:J5) (ao:Int) (ps:J7) (L:J6):Prop:=∃ (l:G5) (ts:K6),H t=some (.tup [.str (Str.ofString "none"),.ref l])/\H l=some (.lst (ts.map V.ref))/\ts.length=L.length/\∀ i,i < L.length->∃ (u wy pl:G5) (rws:List (K8 × List Xx)),ts[i]? = some u/\H u=some (.tup [.ref wy,.ref pl])/\H wy=some (.lst ((wI (L.getD i [])).map V.int))/\Xl H pl rws/\Nu ak aj ao (L.getD i []) ps rws
def Qa5 (CH eM:G5) (P1 P2 P3:G5) (l1 l2 l3:Pos):Sp:=λvs H Q E => ∃ (x pu:G5) (ak:K3) (aj:J5) (ao:Int) (ps:J7),vs=[.ref x,.ref pu]/\Zj CH H x ak aj ao/\Jt ak aj/\By H P1 P2 P3 l1 l2 l3/\(-(10 ^ 42) < ao/\ao < 10 ^ 42)/\H pu=some (.lst (ps.map oV))/\ps.length=aj.length/\(∀ i x,ps.getD i none=some x->-(10 ^ 42) < x/\x < 10 ^ 42) /\
 ∀ (rows:K3) (H':Hp),Qt H H'->By H' P1 P2 P3 l1 l2 l3->Told true ak aj ao rows->(Qc3 ak aj rows<=200->∀ t,Zv4 H' t ak aj ao ps (Vv ak aj)\/Zxk H' t ak aj ao ps (Vv ak aj)->Q (.ref t) H')/\(200 < Qc3 ak aj rows->E (.ref eM) none H')
section
variable {X:Cx} {a b e o:Expr} {es:M4} {pos p py ig:Pos} {ta tb te:TE} {t:TA} {x y:Str}
def Qb (K:M7) (ha:PE X a ta) (hb:PE X b tb) (h:X.K=K:=by rfl) (hs:Qw6 b:=by exact λ_ _=>rfl):PE X (.Subscript a b pos) (tOp (rIx K) ta tb):=Zz3 (Qtj h) ha hb hs
def Qd {j k:Nat} {ps:K9} {sp:Sp} (D:Def X.prog X.w X.K X.mg X.base k x ps sp) (hr:Uq j X.A) (ha:PA X (e :: es) t) (hk:k<=j:=by decide) (hg:Gl X x:=by rfl) (hdb:(x == ("__debug__" : Str))=false:=by decide) (he:starEach (e :: es) X.env=(false,eval e X.env) :: starEach es X.env:=by rfl) (hpl:(backTo pos (starEach es X.env)).any (·.1)=false:=by rfl):PE X (.Call (.Name x p) (e :: es) [] pos) (Qx8 sp [] E0 t):=Qe4 D (hr.mono hk) hg ha hdb he hpl
def Qg (i:Nat) (hN:X.N.Nodup) (he:PE X e te) (hi:X.N[i]? = some x:=by rfl) (hx:Loc X.env.scope x:=by first | exact Or.inl rfl | exact Or.inr rfl) (hs:swapsWith e (some (.Name x py)) pos.line X.env=pure false:=by rfl) (hf:X.fn x=true\/X.env.scope.names.lookup x=some .local:=by first | exact .inl rfl | exact .inr rfl | assumption):PS X (.Assign [.Name x py] e pos) (Qsz te (Jb i)):=Qa9 hN hi hx he hs hf
def Ql (i:Nat) (hN:X.N.Nodup) (hi:X.N[i]? = some x:=by rfl) (hx:Loc X.env.scope x:=by first | exact Or.inl rfl | exact Or.inr rfl) (hf:X.fn x=true\/X.env.scope.names.lookup x=some .local:=by first | exact .inl rfl | exact .inr rfl | assumption):PG X (.Name x pos) (Jb i):=Ru hN hi hx hf
section
variable {scope:Scope} {iter elt c:Expr} {wi:TI} {tt:TT}
def Zt (Nc:K9) (ix:J8) (hi:PI X (.Name y py) iter wi) (he:∀ {C s0 H0 fp},PE (Zo X scope C s0 H0 fp Nc) elt te) (hc:X.calm=true:=by rfl) (ok:Yp scope X.env.scope=true:=by rfl) (hix:Kv scope X.N Nc ix=true:=by rfl)
  (nd:Nc.Nodup:=by decide +kernel) (n0:Nc[0]? = some y:=by rfl) (ly:∀ C s0 H0 fp,(Zo X scope C s0 H0 fp Nc).env.scope.names.lookup y=some .local:=by exact λ_ _ _ _=>rfl)
  (hs:∀ x,foldedSetIterable iter X.env x=pure x:=by intro _; rfl):PE X (.ListComp elt [⟨.Name y py,iter,[],0⟩] scope pos) (Oj ix wi (Jb 0) Qx0 te):=Qjw Nc ix hc ok hix hi (λC s0 H0 fp=>Ru nd n0 (.inl (ly C s0 H0 fp)) (.inr (ly C s0 H0 fp))) (λ_ _ _ _=>Mb) (λ_ _ _ _=>he) hs
def Wk (Nc:K9) (ix:J8) (hi:PI X (.Name y py) iter wi) (ht:∀ {C s0 H0 fp},PT (Zo X scope C s0 H0 fp Nc) c tt) (he:∀ {C s0 H0 fp},PE (Zo X scope C s0 H0 fp Nc) elt te) (hc:X.calm=true:=by rfl) (ok:Yp scope X.env.scope=true:=by rfl) (hix:Kv scope X.N Nc ix=true:=by rfl)
  (nd:Nc.Nodup:=by decide +kernel) (n0:Nc[0]? = some y:=by rfl) (ly:∀ C s0 H0 fp,(Zo X scope C s0 H0 fp Nc).env.scope.names.lookup y=some .local:=by exact λ_ _ _ _=>rfl)
  (hs:∀ x,foldedSetIterable iter X.env x=pure x:=by intro _; rfl):PE X (.ListComp elt [⟨.Name y py,iter,[c],0⟩] scope pos) (Oj ix wi (Jb 0) tt te):=Qjw Nc ix hc ok hix hi (λC s0 H0 fp=>Ru nd n0 (.inl (ly C s0 H0 fp)) (.inr (ly C s0 H0 fp))) (λ_ _ _ _=>Mg ht) (λ_ _ _ _=>he) hs
def Rq (i:Nat) (hN:X.N.Nodup) (Nc:K9) (ix:J8) (hi:PI X (.Name y py) iter wi) (he:∀ {C s0 H0 fp},PE (Zo X scope C s0 H0 fp Nc) elt te) (hy:X.N[i]? = some x:=by rfl) (hx:Loc X.env.scope x:=by first | exact Or.inl rfl | exact Or.inr rfl) (hc:X.calm=true:=by rfl) (ok:Yp scope X.env.scope=true:=by rfl) (hix:Kv scope X.N Nc ix=true:=by rfl)
  (nd:Nc.Nodup:=by decide +kernel) (n0:Nc[0]? = some y:=by rfl) (ly:∀ C s0 H0 fp,(Zo X scope C s0 H0 fp Nc).env.scope.names.lookup y=some .local:=by exact λ_ _ _ _=>rfl)
  (hs:∀ x,foldedSetIterable iter X.env x=pure x:=by intro _; rfl) (hsw:swapsWith (.ListComp elt [⟨.Name y py,iter,[],0⟩] scope pos) (some (.Name x p)) ig.line X.env=pure true:=by rfl) (hf:X.fn x=true\/X.env.scope.names.lookup x=some .local:=by first | exact .inl rfl | exact .inr rfl | assumption) :
  PS X (.Assign [.Name x p] (.ListComp elt [⟨.Name y py,iter,[],0⟩] scope pos) ig) (Qsz (Oj ix wi (Jb 0) Qx0 te) (Jb i)):=Ci hN hy hx Nc ix hc ok hix hi (λC s0 H0 fp=>Ru nd n0 (.inl (ly C s0 H0 fp)) (.inr (ly C s0 H0 fp))) (λ_ _ _ _=>Mb) (λ_ _ _ _=>he) hs hsw hf
end
section
variable (K:M7)
def Zx (hm:X.mg "len" = none) (ha:PA X (e :: es) t) (h:X.K=K:=by rfl) (hg:Gl X "len" := by rfl) (he:starEach (e :: es) X.env=(false,eval e X.env) :: starEach es X.env:=by rfl) (hpl:(backTo pos (starEach es X.env)).any (·.1)=false:=by rfl):PE X (.Call (.Name "len" p) (e :: es) [] pos) (tCB (Zx3 K) t):=Qr (Qg8 h) hg hm Qgz ha (by decide) (by decide) he hpl
def Rz (hm:X.mg "list" = none) (ha:PA X (e :: es) t) (h:X.K=K:=by rfl) (hg:Gl X "list" := by rfl) (he:starEach (e :: es) X.env=(false,eval e X.env) :: starEach es X.env:=by rfl) (hpl:(backTo pos (starEach es X.env)).any (·.1)=false:=by rfl):PE X (.Call (.Name "list" p) (e :: es) [] pos) (tCB (Qjj K) t):=Lz (Bz h) hg hm Jc ha (by decide) (by decide) he hpl
def Zp (hm:X.mg "isinstance" = none) (ha:PA X (e :: es) t) (h:X.K=K:=by rfl) (hg:Gl X "isinstance" := by rfl) (he:starEach (e :: es) X.env=(false,eval e X.env) :: starEach es X.env:=by rfl) (hpl:(backTo pos (starEach es X.env)).any (·.1)=false:=by rfl):PE X (.Call (.Name "isinstance" p) (e :: es) [] pos) (tCB (rIs K) t):=Qr (Cj h) hg hm Ku ha (by decide) (by decide) he hpl
def Yb {f:Str} (ha:PE X a ta) (h:X.K=K:=by rfl) (hb:attributeBase a f X.env (eval a X.env)=eval a X.env:=by rfl):PE X (.Attribute a f pos) (Qoj K ta f):=Qrw h ha hb
def Vo {tg:Expr} (hl:PE X a ta) (h:X.K=K:=by rfl):PI X tg a (Qcj K ta):=Qfj h hl
end
def Zr {tg:Expr} (hm:X.mg "range" = none) (ha:PA X [a] t) (hg:Gl X "range" := by rfl) (hs:starEach [a] X.env=[(false,eval a X.env)]:=by rfl):PI X tg (.Call (.Name "range" p) [a] [] pos) (Qi5 t):=Qy8 hg hm ha hs
def q_t {op:CmpOp} {r:R2} (ho:OpR X (compareOp op) r) (ha:PE X a ta) (hb:PE X b tb) (hm:behindInMarks op b=false:=by exact Rx _):PT X (.Compare a [op] [b] pos) (Qcz (tOp r ta tb)):=Ud ho ha hb hm
end
def ixW {K:M7} {a:G5} {i:Int} {v:V} {Q:VK} (j:Nat) (h:H a=some (.lst xs)) (e:xs[j]? = some v) (q:Q v H) (hi:i=(j:Int):=by rfl):rIx K (.ref a) (.int i) H Q:=ixL (SqL.of h) (Qc j hi e) q
def ixU {K:M7} {a:G5} {i:Int} {v:V} {Q:VK} (h:H a=some (.tup xs)) (e:atI xs i=some v) (q:Q v H):rIx K (.ref a) (.int i) H Q:=ixT (SqT.of h) e q
def Uo (b w:G5) (r:Int) {m:Str} (h1:¬ m="rent" := by decide +kernel) (h2:¬ m="worths" := by decide +kernel) (h3:¬ m="beds" := by decide +kernel):(Fn b w r).lookup m=none:=Zz7 b w r h1 h2 h3
section
variable {X:Cx} {o e:Expr} {es:M4} {to:TE} {t:TA} {ig iu:Pos}
def Kw (K:M7) (ho:PE X o to) (ha:PA X (e :: es) t) (h:X.K=K:=by rfl)
  (jq:attributeBase o "append" X.env (eval o X.env)=eval o X.env:=by rfl)
  (m7:((backTo iu (starEach (e :: es) X.env)).all (λx => !x.1) && (backToKw iu (keywordEach [] X.env)).all (λx=>x.1.isSome) && decide ((e :: es).length + ([]:List Keyword).length + (if ([]:List Keyword).isEmpty then 0 else 1) < 30))=true:=by rfl)
  (jr:(ig.endLine == iu.line)=true:=by rfl) (hs:starEach (e :: es) X.env=(false,eval e X.env) :: starEach es X.env:=by rfl) (jf:(backTo iu (starEach es X.env)).any (·.1)=false:=by rfl) :
  PE X (.Call (.Attribute o "append" ig) (e :: es) [] iu) (tBM K "list" Qjv to t):=Dv h A0i PySem.F.slot_list_append PySem.F.type_list_append Gm ho ha jq m7 jr hs jf
end
def sml (h:n<=100000:=by lia):n < sizeLine:=by rw [sizeLine_eq]; lia
def Qc2 {N P:K9} {sc:Scope} (h1:sc.kind=.function:=by rfl) (h2:sc.isCoroutine=false:=by rfl) (h3:sc.isGenerator=false:=by rfl) (h4:N.Nodup:=by decide +kernel) (h5:N.take P.length=P:=by rfl) (h6:∀ x∈P,sc.names.lookup x=some .local\/sc.names.lookup x=some .cell:=by decide +kernel) (h7:∀ y∈sc.names,y.2≠.free:=by decide +kernel):Xa N P sc:=⟨h1,h2,h3,h4,h5,h6,h7⟩
section
variable {P:G8} {w:World} {K:M7} {mg:J9} {base:Heap} {x qual:Str} {st:Stmt} {N ps:K9} {k:Nat} {sp:Sp}
abbrev Qi8 (ps:K9) (sp:Sp):Prop:=∀ vs H Q E,sp vs H Q E->vs.length=ps.length
abbrev Qc1 (x qual:Str) (st:Stmt) (ps:K9):Prop:=∀ (kV doc pm:G3) (an:M5) (cdv ct:G3) (us:K5),us.length=ps.length->bindArgs (PySem.W.fnOf x qual (Yx st) (Zd st) (Qp st) .none kV doc pm an cdv ct) ⟨us,[]⟩=pure (ps.zip us)
def Src.mq (S:Src K mg x qual st) (N:K9) (ir:∀ {f:G5} {cdv:G3} {A:G7} {outer:List Env} {s:G4} (H:Hp) (vs:List V) (Q:VK) (E:XK),Uq k (A.deeper (envOfC qual (Qp st) s.heap.objs.size f cdv))->N.Nodup->sp vs H Q E->∃ t,PSs (Cf CX0 P w K mg base N qual (Qp st) f cdv A outer s H E).nox (Zd st) t/\t { nx:=λ_ H'=>Q .non H',rt:=Q } (start N vs) H)
  (Sc:Xa N ps (Qp st):=by exact Qc2) (len:Qi8 ps sp:=by intro vs H Q E h; (repeat (let ⟨_,h⟩:=h)); subst_vars; rfl) (hb:Qc1 x qual st ps:=by (intro _ _ _ _ _ _ us hl; rcases us with _ | ⟨_,_ | ⟨_,_ | ⟨_,_ | ⟨_,_ | ⟨_,_ | ⟨_,_ | ⟨_,_ | ⟨_,_⟩⟩⟩⟩⟩⟩⟩⟩ <;> first | rfl | exact absurd hl (by decide) | (simp at hl; done))):Def P w K mg base (k + 1) x ps sp:=S.mk' Sc len hb λ_ _ _ _ _ H vs Q E hr h=>ir H vs Q E hr Sc.nd h
def Kg.mq {C:G5} (S:Kg K C x qual st) (N:K9) (ir:∀ {f:G5} {cdv:G3} {A:G7} {outer:List Env} {s:G4} (H:Hp) (vs:List V) (Q:VK) (E:XK),Uq k (A.deeper (envOfC qual (Qp st) s.heap.objs.size f cdv))->N.Nodup->sp vs H Q E->∃ t,PSs (Cf CX0 P w K mg base N qual (Qp st) f cdv A outer s H E).nox (Zd st) t/\t { nx:=λ_ H'=>Q .non H',rt:=Q } (start N vs) H)
  (Sc:Xa N ps (Qp st):=by exact Qc2) (len:Qi8 ps sp:=by intro vs H Q E h; (repeat (let ⟨_,h⟩:=h)); subst_vars; rfl) (hb:Qc1 x qual st ps:=by (intro _ _ _ _ _ _ us hl; rcases us with _ | ⟨_,_ | ⟨_,_ | ⟨_,_ | ⟨_,_ | ⟨_,_ | ⟨_,_ | ⟨_,_ | ⟨_,_⟩⟩⟩⟩⟩⟩⟩⟩ <;> first | rfl | exact absurd hl (by decide) | (simp at hl; done))):Ox P w K mg base (k + 1) C x ps sp:=S.mk' Sc len hb λ_ _ _ _ _ H vs Q E hr h=>ir H vs Q E hr Sc.nd h
end
section
variable {X:Cx} {e iter tg:Expr} {te:TE} {pos:Pos} {wi:TI} {g:TG} {tb:TS} {body:List Stmt}
def Qf (he:PE X e te):PSs X [.Return (some e) pos] (Zzw te):=Qm (Qaq he)
def Xt (hi:PI X tg iter wi) (hg:PG X tg g) (hb:PSs X body tb) (hp:PassesOwn (model X.prog X.w) X.A X.env X.xe:=by exact A1i) (hc:X.calm=true:=by rfl) (hs:∀ x,foldedSetIterable iter X.env x=pure x:=by intro _; rfl):PS X (.For tg iter body [] pos) (Zzk wi g tb):=Qax hp hc hi hg hb hs
end
abbrev rf (a:G5):Option V:=some (.ref a)
abbrev iv (z:Int):Option V:=some (.int z)
theorem Qvz (b:Nat):∀ (ks:K4) (t:Nat),(∀ k∈ks,k<=b)->ks.foldl (· * ·) t<=t * b ^ ks.length
 | [],t,_=>by simp
 | k :: ks,t,h=>by rw [foldl_cons,length_cons];refine O6 (Qvz b ks _ λx hx=>h x (Q0 _ hx)) ?_;rw [Nat.pow_succ,Nat.mul_assoc,Nat.mul_comm (b ^ ks.length) b];exact A1d _ (A0n _ (h k O9))
def Lk {rows:K3} (hb:ak.length<=3) (hw:aj.length<=3):Qc3 ak aj rows<=200:=by
 unfold Qc3;rw [Lu];refine O6 (Qvz 3 _ 1 λk hk=>?_) ?_
 ·let ⟨row,hr,rfl⟩:=O3.mp hk;let ⟨i,hi,rfl⟩:=O3.mp hr;exact O6 (W3 _ _) (by simpa using hb)
 ·rw [length_map];unfold Cw;rw [length_map,length_range,Nat.one_mul];exact O6 (A1g (by decide) hw) (by decide)
def Hv:Sp:=λvs H Q _ => ∃ (b w wy pu pl le:G5) (ak:K3) (aj:J5) (ao:Int) (way:K4) (ps:J7) (rows:List (K8 × List Xx)) (as:K3) (m k:Int),vs=[.ref b,.ref w,.int ao,.ref wy,.ref pu,.ref pl,.ref le]/\H b=some (.lst (ak.map V.int))/\Mat H w aj/\H wy=some (.lst ((wI way).map V.int))/\Jt ak aj/\(-(10 ^ 42) < ao/\ao < 10 ^ 42)/\way.length=aj.length/\Fit (bF ak) way/\H pu=some (.lst (ps.map oV))/\ps.length=aj.length/\Xl H pl rows/\Bp ak aj way ps rows as/\bw rows<=10/\H le=some (.tup [.int m,.int k])/\(-(10 ^ 70) < m/\m < 10 ^ 70)/\(0 < k/\k<=10) /\
 ((bw rows=0/\wsum (wF aj) way - ao < as.sum)\/(0 < bw rows/\(wsum (wF aj) way - ao - as.sum) * k<=m * (bw rows:Int)))/\∀ H',Qu H H'->Q (.bl true) H'
def Sn:Sp:=λvs H Q _ => ∃ (b w l pu f:G5) (ak:K3) (aj:J5) (ao:Int) (ps:J7) (L:J6),vs=[.ref b,.ref w,.int ao,.ref l,.ref pu,.ref f]/\H b=some (.lst (ak.map V.int))/\Mat H w aj/\Rj ak aj ao L/\Mat H l (L.map wI)/\L.length<=1000/\H pu=some (.lst (ps.map oV))/\ps.length=aj.length/\Zxk H f ak aj ao ps L/\∀ H',Qu H H'->Q (.bl true) H'
theorem Qu5 {k2 k:Int} (h:Kn ak aj ao way ps k2 R rows) (hv:∀ m2,Yv m2 ((range aj.length).map λi=>k2 * Zh aj way i - R.getD (way.getD i 0) 0)->m2 * k<=m * k2):∃ as,Bp ak aj way ps rows as/\bw rows<=10/\0 < bw rows/\(wsum (wF aj) way - ao - as.sum) * k<=m * (bw rows:Int):=by
 let ⟨as,m2,pok,f0,f1,hm,hme⟩:=h.pap;refine ⟨as,pok,f1,f0,A1h (a:=k2) ?_ h.k1.1⟩;have h1:=U0 (hv m2 hm) (show (0:Int)<=(bw rows:Int) by lia);have e:m2 * k * (bw rows:Int)=(wsum (wF aj) way - ao - as.sum) * k * k2:=by rw [Int.mul_right_comm m2,hme,Int.mul_comm k2,Int.mul_right_comm]
 rw [e,Int.mul_right_comm m] at h1;exact h1
abbrev TL (α:Type):=α->St->Hp->Unit->Prop
section
variable {X:Cx} {st:Stmt} {j6 sts:List Stmt} {t u P:TS} {B:TL Qx2} {F:TS->TS} {C:(TS->TS)->TS} {D:Qx2} {σ:St}
def Zj2 (P:TS) (F:TS->TS):TS:=λD σ H => ∀ B:TL Qx2,(∀ D σ H,P D σ H->B D σ H ())->F (λD σ H=>B D σ H ()) D σ H
def hop {α:Type} {B:TL α} {P:α->St->Hp->Prop} {d:α} (h:∀ d σ H,P d σ H->B d σ H ()) (k:P d σ H):B d σ H ():=h d σ H k
def PSC (X:Cx) (sts:List Stmt) (C:(TS->TS)->TS):Prop:=∃ P,PSs X sts P/\∀ k D σ H,C k D σ H->k P D σ H
def zc1 (h:PS X st t):PSC X [st] λk=>k t:=⟨t,Qm h,λ_ _ _ _ x=>x⟩
def zcL (h:PSs X sts t):PSC X sts λk=>k t:=⟨t,h,λ_ _ _ _ x=>x⟩
def zcC (h1:PS X st t) (h2:PSC X j6 C):PSC X (st :: j6) λk=>C λu=>Zj2 u λB=>k (Zzv t B):=by let ⟨P,h,m⟩:=h2;exact ⟨_,Qw h1 h,λk D σ H x=>m _ D σ H x (λD σ H _=>P D σ H) λ_ _ _ y=>y⟩
def zcF (h:PSC X sts C):PSs X sts (C λt=>t):=by let ⟨P,h,m⟩:=h;exact λdz s σ H D I x=>h dz s σ H D I (m _ D σ H x)
def Qik (t:TS):TS:=λD σ H => ∃ M:St->Hp->Prop,(∀ N:TL Unit,(∀ d σ H,M σ H->N d σ H ())->t { D with nx:=λσ H=>N () σ H () } σ H)/\∀ σ' H',M σ' H'->D.nx σ' H'
def zcJ (h:PS X st t):PS X st (Qik t):=λdz s σ H D I ⟨M,q,hM⟩=>Qr5 h dz s σ H D I ⟨M,q (λ_ σ H _=>M σ H) λ_ _ _ x=>x,hM⟩
variable {g:TG} {tb:TS} {K:M7} {a:G5} {lo:Int}
def Zf (Pv:Nat->St->Hp->Prop) (h0:Pv 0 σ H)
  (hs:∀ {N:TL Nat} {_:∀ i σ H,Pv i σ H->N i σ H ()},∀ i σ H,i < n->Pv i σ H->g (.int (lo + i)) σ H λσ2 H2=>tb { D with nx:=λσ H=>N (i + 1) σ H (),ct:=λσ H=>N (i + 1) σ H (),bk:=D.nx } σ2 H2) (hd:∀ σ H,Pv n σ H->D.nx σ H) :
  ∃ W:Nat->Nat->St->Hp->Prop,(∃ m,W 0 m σ H)/\∀ i m σ H,W i m σ H ->
   ((Itr lo n).stop i H/\D.nx σ H)\/((Itr lo n).go i H/\∃ N:St->Hp->Prop,(∀ σ' H',N σ' H'->∃ m',m' < m/\W (i + 1) m' σ' H')/\∀ x H',(Itr lo n).yld i H x H'->g x σ H' λσ2 H2=>tb { D with nx:=N,ct:=N,bk:=D.nx } σ2 H2) :=
 Ji Pv h0 (@hs (λi σ H _=>Pv i σ H) λ_ _ _ x=>x) hd
def Ym (Pv:Nat->St->Hp->Prop) (h0:Pv 0 σ H) (hl:∀ i σ H,i<=xs.length->Pv i σ H->SqL K H a xs)
  (hs:∀ {N:TL Nat} {_:∀ i σ H,Pv i σ H->N i σ H ()},∀ i x σ H,xs[i]? = some x->Pv i σ H->g x σ H λσ2 H2=>tb { D with nx:=λσ H=>N (i + 1) σ H (),ct:=λσ H=>N (i + 1) σ H (),bk:=D.nx } σ2 H2) (hd:∀ σ H,Pv xs.length σ H->D.nx σ H) :
  ∃ W:Nat->Nat->St->Hp->Prop,(∃ m,W 0 m σ H)/\∀ i m σ H,W i m σ H ->
   ((Itl K a).stop i H/\D.nx σ H)\/((Itl K a).go i H/\∃ N:St->Hp->Prop,(∀ σ' H',N σ' H'->∃ m',m' < m/\W (i + 1) m' σ' H')/\∀ x H',(Itl K a).yld i H x H'->g x σ H' λσ2 H2=>tb { D with nx:=N,ct:=N,bk:=D.nx } σ2 H2) :=
 Tp Pv h0 hl (@hs (λi σ H _=>Pv i σ H) λ_ _ _ x=>x) hd
end
end L2
local macro_rules | `(%[$xs,*|0]) => do let z:Lean.TSyntax `term ← `(L2.Qz);let t ← xs.getElems.foldrM (fun x a => `(L2.Qq (L2.pv $x) $a)) z;return t
local macro_rules | `({$n:num}) => `(L2.pv $n)
local macro_rules | `(tactic| symm) => `(tactic| walk_at "")
local macro_rules | `(tactic| nofun) => `(tactic| walk_at "b")
local macro_rules | `(tactic| walk_at "") => `(tactic| repeat (first
 | refine ⟨_,rfl,?_⟩
 | refine ⟨_,_,rfl,rfl,?_⟩
 | refine ⟨rfl,?_⟩
 | refine ⟨⟨⟨"o","o"⟩,⟨"o","o"⟩⟩,?_⟩
 | refine ⟨⟨"o","o"⟩,?_⟩
 | refine ⟨⟨by decide,by decide,by decide⟩,?_⟩
 | refine ⟨⟨by decide,by decide,"o"⟩,?_⟩
 | refine And.intro (by decide) ?_
 | refine And.intro (by show (0:Int) < _; decide) ?_
 | refine And.intro (by (with_reducible show List.length _<=PySem.sizeLine); exact L2.Zk (by simp)) ?_
 | refine And.intro "o" ?_
 | refine L2.hop (by assumption) ?_
 | refine @λ(_:L2.TL _) _=>?_))
local macro_rules | `(tactic| walk_at "b") => `(tactic| first | (refine L2.hop (by assumption) ?_) | ((refine @λ(_:L2.TL _) _=>?_); (repeat refine @λ(_:L2.TL _) _=>?_)))
set_option hygiene false in
local macro_rules | `(tactic| walk_at "s") => `(tactic| (dsimp only [L2.KOf]; refine' L2.Qa4 KX G ?a ?l ?c ?k; (case a=>k_is); (case l=>k_is); (case c=>k_is); (case k=>k_is)))
local macro_rules | `(tactic| walk_at "m") => `(tactic| refine ⟨_,_,rfl,rfl,⟨"o","o"⟩,?_⟩)
local macro_rules | `(tactic| walk_at "r") => `(tactic| (refine ⟨_,rfl,"o","o",?_⟩; rw [Int.toNat_natCast]))
set_option hygiene false in
local macro_rules | `(tactic| walk_at "d") => `(tactic| (refine ⟨_,rfl,"o","o",λD hD=>?_⟩; rw [Int.toNat_natCast]))
namespace My
open PySem L2 BW
abbrev Y0:Str:="_law_worths_here"
abbrev Y1:Str:="_law_beds_here"
abbrev Y2:Str:="house"
abbrev Y3:Str:="_law_way"
abbrev Y4:Str:="_law_purses_here"
abbrev Y5:Str:="aim"
abbrev Y6:Str:="_law_paper_here"
abbrev Y7:Str:="person"
abbrev Y8:Str:="way"
abbrev Y9:Str:="_law_script"
abbrev Y10:Str:="_law_rent"
abbrev Y11:Str:="_law_i"
abbrev Y12:Str:="_law_prices"
abbrev Y13:Str:="gains"
abbrev Y14:Str:="self"
abbrev Y15:Str:="_law_row_here"
abbrev Y16:Str:="_law_rows"
abbrev Y17:Str:="room"
abbrev Y18:Str:="purses"
abbrev Y19:Str:="held"
abbrev Y20:Str:="_law_number"
abbrev Y21:Str:="_law_k"
abbrev Y22:Str:="parts"
abbrev Y23:Str:="_law_first"
abbrev Y24:Str:="_law_found"
abbrev Y25:Str:="_law_parts"
abbrev Y26:Str:="rooms"
abbrev Y27:Str:="prices"
abbrev Y28:Str:="_law_r"
abbrev Y29:Str:="_law_told"
abbrev Y30:Str:="_law_pick"
abbrev Y31:Str:="chains"
abbrev Y32:Str:="_law_rooms"
abbrev Y33:Str:="_law_least"
abbrev Y34:Str:="loose"
abbrev Y35:Str:="level"
abbrev Y36:Str:="chain"
abbrev Y37:Str:="costs"
abbrev Y38:Str:="worths"
abbrev Y39:Str:="levels"
abbrev Y40:Str:="_law_people"
abbrev Y41:Str:="answers"
abbrev Y42:Str:="_law_at"
abbrev Y43:Str:="_law_other"
abbrev Y44:Str:="place"
abbrev Pg:G8:=PySem.Challenge.rw_rentshare_k69_whole_purses.prog
def top (i:Nat):Stmt:=PySem.Challenge.pw_rentshare_k69_whole_purses.main.body.getD i (.Pass ⟨0,0,0,0⟩)
structure Txt (mg:J9):Prop where
 u0:mg "len" = none
 u1:mg "range" = none
 u2:mg "enumerate" = none
 u3:mg "isinstance" = none
 u4:mg "int" = none
 u5:mg "bool" = none
 u6:mg "list" = none
 u7:mg "tuple" = none
 u8:mg "min" = none
 u9:mg "max" = none
 u10:mg "sum" = none
 u11:mg "all" = none
 u12:mg "any" = none
 u13:mg "sorted" = none
 u14:mg "set" = none
 u15:mg "reversed" = none
 u16:mg "abs" = none
 u17:∃ v,mg "MOST_LISTS" = some v/\∃ t,v=.int 200 t
abbrev Dc:Stmt:=Wg (top 5) 0
abbrev Ao:Stmt:=Wg (top 5) 1
abbrev Qj9:Stmt:=Wg (top 5) 2
abbrev Ws:Stmt:=top 27
def Xr:Xa [Y2,Y8,"newcomer","moves","turn","end","brought","move",Y13] [Y2,Y8] (Qp Ws):=Qc2
abbrev Vd:Stmt:=top 19
def Hf:Xa [Y5,Y26,"a","b"] [Y5,Y26,"a","b"] (Qp Vd):=Qc2
abbrev Uw:Stmt:=top 52
def Yd:Xa [Y5,Y13,Y19,"order",Y34,"count"] [Y5,Y13,Y19] (Qp Uw):=Qc2
def Vm:Xa [Y2,Y35,"ways","most"] [Y2] (Qp (top 46)):=Qc2
def Xw:Xa [Y2,Y18,"ways",Y41,Y44,"places","best"] [Y2,Y18] (Qp (top 56)):=Qc2
abbrev Xe:Stmt:=Wg (top 11) 0
abbrev Wm:Stmt:=Wg (top 14) 0
abbrev Pi:Stmt:=Wg (top 14) 1
abbrev Tc:Stmt:=Wg (top 14) 2
abbrev Tl:Stmt:=Wg (top 14) 3
def Jy:Pos:=⟨151,42,151,66⟩
def Zs:Pos:=⟨101,26,101,59⟩
def Xb:Pos:=⟨244,42,244,85⟩
structure Sx (P:G8) (w:World) (K:M7) (mg:J9) (base:Heap) (CH au CEven Pa Pb Pc eM cB cR cL:G5):Prop where
 T:Txt mg
 HC:Zxv K mg CH
 a2:Kg K CH "__init__" "House.__init__" Dc
 a3:Kg K CH "people" "House.people" Ao
 a4:Kg K CH "rooms" "House.rooms" Qj9
 a5:Src K mg "lying" "lying" (top 6)
 a6:Src K mg "open_rooms" "open_rooms" (top 7)
 a7:Src K mg "improve" "improve" (top 26)
 a8:SrcL K mg "bring_in" "bring_in" Ws cB Pa
 a9:base.BuiltinsAt mg Pa
 a10:Src K mg "best_way" "best_way" (top 28)
 a11:Src K mg "with_open" "with_open" (top 12)
 a12:Src K mg "own_worth" "own_worth" (top 13)
 a13:Kg K au "through" "Worst.through" Wm
 a14:Kg K au "gain" "Worst.gain" Pi
 b7:Dh K mg au "Worst"
 a16:SrcL K mg "best_room" "best_room" Vd cR Pb
 a17:base.BuiltinsAt mg Pb
 a18:Src K mg "best_hops" "best_hops" (top 20)
 a19:Src K mg "hop_on" "hop_on" (top 21)
 a20:Src K mg "carry" "carry" (top 22)
 a21:Src K mg "greatest" "greatest" (top 23)
 a22:Src K mg "_law_mixed" "_law_mixed" (top 59)
 a23:Src K mg "_law_cell_at" "_law_cell_at" (top 58)
 a24:Src K mg "_law_beds" "_law_beds" (top 60)
 a25:Src K mg "_law_worths" "_law_worths" (top 61)
 a26:Src K mg "_law_house" "_law_house" (top 62)
 a27:Src K mg "is_hop" "is_hop" (top 17)
 a28:Src K mg "chain_gain" "chain_gain" (top 18)
 a29:Src K mg "worth_of" "worth_of" (top 8)
 a30:Kg K au "whole" "Worst.whole" Tc
 a31:Kg K au "price" "Worst.price" Tl
 a32:Src K mg "bound" "bound" (top 24)
 a33:Src K mg "common_divisor" "common_divisor" (top 30)
 a34:Src K mg "lowest" "lowest" (top 31)
 a35:Src K mg "room_price" "room_price" (top 34)
 a36:Src K mg "prices_at" "prices_at" (top 35)
 a37:Src K mg "divide" "divide" (top 36)
 a38:Src K mg "beginning" "beginning" (top 49)
 a39:Src K mg "purse_row" "purse_row" (top 50)
 a40:Src K mg "purse_share" "purse_share" (top 48)
 a41:Src K mg "free_bound" "free_bound" (top 51)
 a42:Src K mg "less" "less" (top 32)
 a43:SrcL K mg "loose_ones" "loose_ones" Uw cL Pc
 a44:base.BuiltinsAt mg Pc
 a45:Src K mg "kept_by" "kept_by" (top 53)
 a46:Pc≠Pb
 a47:Src K mg "within" "within" (top 54)
 a48:Src K mg "_law_whole" "_law_whole" (top 63)
 a49:Src K mg "paid" "paid" (top 39)
 a50:Src K mg "shares" "shares" (top 40)
 a51:Pb≠Pa
 a52:Pc≠Pa
 a53:Dh K mg CEven "Even"
 a54:Src K mg "share_out" "share_out" (top 37)
 a55:Src K mg "level_rooms" "level_rooms" (top 43)
 a56:Src K mg "product" "product" (top 44)
 a57:Src K mg "all_lists" "all_lists" (top 45)
 a58:Src K mg "is_way" "is_way" (top 9)
 HE:Zxw K mg eM
 a60:Src K mg "all_ways" "all_ways" (top 46)
 a61:Src K mg "least_share" "least_share" (top 55)
 a62:Src K mg "within_any" "within_any" (top 56)
 a63:Src K mg "_law_free" "_law_free" (top 64)
 a64:Src K mg "_law_fair" "_law_fair" (top 65)
 a65:Src K mg "_law_common" "_law_common" (top 66)
 a66:Src K mg "_law_priced" "_law_priced" (top 67)
 a67:Src K mg "_law_hop_gain" "_law_hop_gain" (top 68)
 a68:Src K mg "_law_chain" "_law_chain" (top 69)
 a69:Src K mg "_law_row" "_law_row" (top 70)
 a70:Src K mg "_law_paper" "_law_paper" (top 71)
 a71:Src K mg "_law_purses" "_law_purses" (top 72)
 a72:Src K mg "_law_kept" "_law_kept" (top 73)
 a73:Src K mg "_law_none" "_law_none" (top 74)
 a74:Src K mg "_law_all" "_law_all" (top 75)
 a75:Src K mg "_law_no_better" "_law_no_better" (top 76)
 a76:Src K mg "_law_none_for_all" "_law_none_for_all" (top 77)
 a77:Src K mg "law" "law" (top 78)
 a78:Kg K au "__init__" "Aim.__init__" Xe
 a79:Kg K CEven "__init__" "Aim.__init__" Xe
section
variable {P:G8} {w:World} {K:M7} {mg:J9} {base:Heap}
theorem Mq {CH C:G5} (T:Txt mg) (AC:Qx6 K C) (S:Kg K C "__init__" "Aim.__init__" Xe):Ox P w K mg base 1 C "__init__" [Y14,Y2,Y8] (Qf3 CH C):=by
 refine S.mq [Y14,Y2,Y8] @λf _ _ _ _ H vs Q E hr nD h=>?_;let ⟨p,dx,hp,wa,ak,aj,ao,way,rfl,hP,hA,hw,q⟩:=h;refine ⟨_,(zcF (zcC (Ka (K:=K) rfl {0} {1} rfl) (zc1 (Ka (K:=K) rfl {0} (Rz K T.u6 %[2|0]) rfl)))),?_⟩;nofun;refine ⟨_,rfl,_,rfl,p,C,dx,[],rfl,hP,AC.cl,AC.nH,by decide,?_⟩;have k1:∀ c o,H c=some o->c≠p->upd H p (.ins C dx (Wq "house" (.ref hp) [])) c=some o:=λc o e hc=>by rw [Qv hc]; exact e
 have hw1:=k1 _ _ hw (Jw hw hP (by intro z; cases z));have hp1:upd H p (.ins C dx (Wq "house" (.ref hp) [])) p=some (.ins C dx (Wq "house" (.ref hp) [])):=Qk;have fr:∀ l,upd H p (.ins C dx (Wq "house" (.ref hp) [])) l=none->H l=none:=λl e=>by
  by_cases hl:l=p
  ·rw [hl,hp1] at e; cases e
  ·rw [Qv hl] at e; exact e
 generalize upd H p (.ins C dx (Wq "house" (.ref hp) []))=H1 at *;nofun;refine ⟨_,rfl,wa,_,rfl,.inl (SqL.of hw1),λl H2 n2=>?_⟩;refine ⟨_,rfl,p,C,dx,_,rfl,n2.same _ _ hp1,AC.cl,AC.nW,by have:=Nm (f:="house") (v:=V.ref hp) (fs:=[]) (n:=0) (by simp); lia,?_⟩;have nlp:l≠p:=(Qj hp1 n2.none).symm;have k2:∀ c o,H2 c=some o->c≠p->upd H2 p (.ins C dx (Wq "way" (.ref l) (Wq "house" (.ref hp) []))) c=some o:=λc o e hc=>by rw [Qv hc]; exact e
 exact q l _ (fr l n2.none) Qk (k2 _ _ n2.at_ nlp) λc o e hc=>k2 _ _ (n2.same _ _ (k1 c o e hc)) hc
variable {CH au CEven Pa Pb Pc eM cB cR cL:G5} (Z:Sx P w K mg base CH au CEven Pa Pb Pc eM cB cR cL)
include Z
theorem Qo5:Ox P w K mg base 1 CH "__init__" [Y14,"beds",Y38,"rent"] (Ql6 CH):=by
 refine Z.a2.mq [Y14,"beds",Y38,"rent"] λH vs Q E hr nD h=>?_;let ⟨p,dx,b,w,ak,aj,ao,rfl,hp,hb,hM,lb,lw,hle,q⟩:=h;refine ⟨_,(zcF (zcC (Zz (q_t Ft (Zx K Z.T.u0 %[2|0]) (Qr (Xu (K:=K) rfl rfl) (by rfl) Z.T.u10 Xg %[1|0])) (Qm (Qfz)) Qh) (zcC (Ka (K:=K) rfl {0} (Rz K Z.T.u6 %[1|0]) rfl) (zcL (Qw (Ka (K:=K) rfl {0} (Zt ["row"] [none] (Vo K {2}) (Rz K Z.T.u6 %[0|0])) rfl) (Qm (Ka (K:=K) rfl {0} {3} rfl))))))),?_⟩;let ⟨ws,hw,hR⟩:=hM;have hwl:(ws.map V.ref).length=aj.length:=by rw [length_map]; exact hR.1
 symm;refine ⟨w,_,rfl,.inl (SqL.of hw),?_⟩;symm;refine ⟨b,ak,rfl,SqL.of hb,?_⟩;symm;refine Vt (S8 (by rw [hwl]; lia)) ?_;symm;refine ⟨b,_,rfl,.inl (SqL.of hb),λl1 H1 n1=>?_⟩;refine ⟨_,rfl,p,CH,dx,[],rfl,n1.same _ _ hp,Z.HC.cl,Z.HC.nB,by decide,?_⟩;have npl:l1≠p:=(Qj hp n1.none).symm;have nwp:w≠p:=Jw hw hp (by intro z; cases z);have hw2:upd H1 p (.ins CH dx (Wq "beds" (.ref l1) [])) w=some (.lst (ws.map V.ref)):=by rw [Qv nwp]; exact n1.same _ _ hw
 have hl2:upd H1 p (.ins CH dx (Wq "beds" (.ref l1) [])) l1=some (.lst (ak.map V.int)):=by rw [Qv npl]; exact n1.at_
 have hr2:∀ (i:Nat) a row,ws[i]? = some a->aj[i]? = some row->upd H1 p (.ins CH dx (Wq "beds" (.ref l1) [])) a=some (.lst (row.map V.int)):=λi a row h1 h2=>by have h3:=hR.2 i a row h1 h2;rw [Qv (Jw h3 hp (by intro z; cases z))];exact n1.same _ _ h3
 have hk2:∀ c o,H c=some o->c≠p->upd H1 p (.ins CH dx (Wq "beds" (.ref l1) [])) c=some o:=λc o e hc=>by rw [Qv hc];exact n1.same _ _ e
 have hp2:upd H1 p (.ins CH dx (Wq "beds" (.ref l1) [])) p=some (.ins CH dx (Wq "beds" (.ref l1) [])):=Qk;generalize upd H1 p (.ins CH dx (Wq "beds" (.ref l1) []))=H2 at *;clear n1;nofun;refine ⟨_,rfl,w,rfl,⟨_,SqL.of hw2⟩,λD hD=>?_⟩;refine Xy (λi y H => ∃ l row,y=.ref l/\l≠D/\aj[i]? = some row/\H l=some (.lst (row.map V.int))) (SqL.of hw2) (by rw [hwl,sizeLine_eq]; lia) hD (λi y H H' k ⟨l,row,e,ne,h1,h2⟩=>⟨l,row,e,ne,h1,k l _ ne h2⟩) ?_ ?_
 ·rintro i x H3 ys N hx s3 d3 hN;let ⟨a,ha,rfl⟩:=Yw hx;have hi:i < aj.length:=by rw [<- hR.1]; exact (N5.mp ha).1
  have gm:aj[i]? = some aj[i]:=by simp [hi]
  have h3:=s3 _ _ (hr2 i a _ ha gm);symm;exact ⟨a,_,rfl,.inl (SqL.of h3),λl H4 n4=>hN _ _ n4.same ⟨l,_,rfl,(Qj d3 n4.none).symm,gm,n4.at_⟩⟩
 ·rintro ys H3 s3 d3 l3 r3;let ⟨ws',e',p'⟩:=Um (P:=λi l => ∃ row,aj[i]? = some row/\H3 l=some (.lst (row.map V.int))) (λi y e=>by let ⟨l,row,h1,_,h2,h3⟩:=r3 i y e;exact ⟨l,h1,row,h2,h3⟩)
  subst e';have lw':ws'.length=aj.length:=by rw [length_map,length_map] at l3;rw [l3];exact hR.1
  have hp3:=s3 _ _ hp2;have hl3:=s3 _ _ hl2;refine ⟨_,rfl,p,CH,dx,_,rfl,hp3,Z.HC.cl,Z.HC.nW,A0x (Nm (n:=0) (O1 _)) (by decide),?_⟩;refine ⟨_,rfl,_,rfl,p,CH,dx,_,rfl,Qk,Z.HC.cl,Z.HC.nR,A0x (Nm (n:=1) (Nm (n:=0) (O1 _))) (by decide),?_⟩;have nDp:D≠p:=Jw d3 hp3 (by intro z; cases z);refine q _ ⟨⟨dx,l1,D,Qk,?_,ws',?_,lw',λi a row h1 h2=>?_⟩⟩ λc o e hc=>?_
  ·rw [Qv npl,Qv npl];exact hl3
  ·rw [Qv nDp,Qv nDp];exact d3
  ·let ⟨row',h3,h4⟩:=p' i a h1;rw [h3] at h2;cases h2;rw [Qv (Jw h4 hp3 (by intro z; cases z)),Qv (Jw h4 hp3 (by intro z; cases z))];exact h4
  ·rw [Qv hc,Qv hc];exact s3 _ _ (hk2 c o e hc)
def Yh:Ox P w K mg base 1 CH "people" [Y14] (Qk2 CH):=by refine Z.a3.mq [Y14] λH vs Q E hr nD h=>?_;let ⟨p,ak,aj,ao,rfl,hA,q⟩:=h;refine ⟨_,(Qf (Zx K Z.T.u0 (Qq (Yb K {0}) Qz))),?_⟩;let ⟨dx,b,w,h1,h2,h3⟩:=hA.ex;let ⟨ws,h4,h5⟩:=h3.len;refine ⟨_,rfl,p,CH,dx,_,_,rfl,h1,Z.HC.cl,Z.HC.nW,Jx _ _ _,w,_,rfl,.inl (SqL.of h4),?_⟩;rw [h5];exact q
def Vg:Ox P w K mg base 1 CH "rooms" [Y14] (Qpz CH):=by refine Z.a4.mq [Y14] λH vs Q E hr nD h=>?_;let ⟨p,ak,aj,ao,rfl,hA,q⟩:=h;refine ⟨_,(Qf (Zx K Z.T.u0 (Qq (Yb K {0}) Qz))),?_⟩;let ⟨dx,b,w,h1,h2,h3⟩:=hA.ex;refine ⟨_,rfl,p,CH,dx,_,_,rfl,h1,Z.HC.cl,Z.HC.nB,Sv _ _ _,b,_,rfl,.inl (SqL.of h2),?_⟩;rw [length_map];exact q
theorem Qw7:Def P w K mg base 2 "lying" [Y2,Y8] (Qpj K CH):=by
 refine Z.a5.mq [Y2,Y8] λH vs Q E hr nD h=>?_;let ⟨p,a,ak,aj,ao,way,rfl,hA,hl,hS,q⟩:=h;refine ⟨_,(Qf (Zt [Y17,Y8] [none,some 1] (Zr Z.T.u1 (Qq (Qo (Vg Z) Z.HC.cl {0} (hr.mono (by decide))) Qz)) (Dv (K:=K) rfl A0i A1n A1o (Gh (K:=K) rfl) {1} %[0|0]))),?_⟩;let ⟨dx,b,w,h1,h2,h3⟩:=hA.ex;refine ⟨_,rfl,p,dx,_,rfl,h1,Uo _ _ _,p,ak,aj,ao,rfl,hA,?_⟩;refine ⟨_,rfl,"o","o",λD hD=>?_⟩;refine Yk (λi y _=>y=.int ((way.count (i:Int):Nat):Int)) sml hD (λ_ _ _ _ _ h=>h) ?_ ?_
 ·rintro i H1 ys N hi s1 d1 hN;refine ⟨_,rfl,.inl ⟨rfl,_,s1.seq hS⟩,_,rfl,a,way,_,rfl,rfl,s1.seq hS,hN _ _ (Qu.refl _) ?_⟩;rw [Int.zero_add]
 ·rintro ys H1 s1 d1 l1 r1;have e:ys=(Pn ak.length way).map V.int:=Vu (by rw [l1]; simp [Pn]) λi y e=>by
   have hi:i < ak.length:=by have:=(N5.mp e).1; lia
   exact ⟨_,by simp [Pn,hi],r1 i y e⟩
  rw [e] at d1;exact q D H1 ⟨s1,hD,d1⟩
theorem Qdw:Def P w K mg base 3 "open_rooms" [Y2,Y8] (Ql5 K CH):=by
 refine Z.a6.mq [Y2,Y8,"counts"] λH vs Q E hr nD h=>?_;let ⟨p,a,ak,aj,ao,way,rfl,hA,hl,hS,q⟩:=h;refine ⟨_,(zcF (zcC (Qg 2 nD (Qd (Qw7 Z) hr %[0,1|0])) (zcL (Qf (Wk [Y17,"counts",Y2] [none,some 2,some 0] (Zr Z.T.u1 (Qq (Qo (Vg Z) Z.HC.cl {0} (hr.mono (by decide))) Qz)) (q_t Ra (Qb K {1} {0}) (Qb K (Yb K {2}) {0})) {0}))))),?_⟩;nofun;refine ⟨_,rfl,_,rfl,p,a,ak,aj,ao,way,rfl,hA,hl,hS,λl H1 n1=>?_⟩;have hA1:=hA.same n1.same;let ⟨dx,b,w,h1,h2,h3⟩:=hA1.ex;nofun;refine ⟨_,rfl,p,dx,_,rfl,h1,Uo _ _ _,p,ak,aj,ao,rfl,hA1,?_⟩;refine ⟨_,rfl,"o","o",λD hD=>?_⟩;refine Yy (λ(r:Nat)=>decide (((way.count (r:Int):Nat):Int) < ak.getD r 0)) (λ(r:Nat)=>.int r) sml hD ?_ ?_ ?_
 ·rintro i H2 N hi s2 hN;have g1:((Pn ak.length way).map V.int)[i]? = some (.int ((way.count (i:Int):Nat):Int)):=by simp [Pn,show i < ak.length by lia]
  have g2:(ak.map V.int)[i]? = some (.int (ak.getD i 0)):=by simp [show i < ak.length by lia]
  symm;refine ixL (SqL.of (s2 _ _ n1.at_)) (Qc i "o" g1) ?_;refine ⟨_,rfl,p,CH,dx,_,_,rfl,s2 _ _ h1,Z.HC.cl,Z.HC.nB,Sv _ _ _,_,rfl,?_⟩;refine ixL (SqL.of (s2 _ _ h2)) (Qc i "o" g2) ?_;symm;exact hN _ (Qu.refl _)
 ·rintro i H2 N hi hp s2 hN;symm;have:=hN _ (Qu.refl _);rw [Int.zero_add];exact this
 ·rintro H2 s2 d2;refine q D H2 ⟨n1.same.trans s2,n1.same.free hD,?_⟩;rw [d2];unfold Yu;rw [map_map];rfl
theorem Qb2:Def P w K mg base 2 "improve" [Y2,Y8,Y13,"moves"] (Oa K CH):=by
 refine Z.a7.mq [Y2,Y8,Y13,"moves",Y7,"left",Y38,Y17,"gain"] λH vs Q E hr nD h=>?_;let ⟨H0,p,a,ga,mv,ak,aj,ao,way,st,rfl,s0,fg,fm,hA,ha,bok,hlt,f9,fj,hok,hM,q⟩:=h;refine ⟨_,(Qm (Xt (Zr Z.T.u1 (Qq (Zx K Z.T.u0 %[1|0]) Qz)) (Ql 4 nD) (Qw (Qg 5 nD (Qb K {1} {4})) (Qw (Qg 6 nD (Qb K (Yb K {0}) {4})) (Qm (Xt (Zr Z.T.u1 (Qq (Qo (Vg Z) Z.HC.cl {0} (hr.mono (by decide))) Qz)) (Ql 7 nD) (Qw (Qg 8 nD (Qy Zv (Qy Xm (Qb K {2} {5}) (Qb K {6} {7})) (Qb K {6} {5}))) (Qm (Zz (q_t Ft {8} (Qb K {2} {7})) (Qw (Vn {8} (Dj {2} {7} Wr)) (Qm (Vn (Qy Rg (Qb K {3} {5}) (Qe (Qq (Zc %[4,7|0]) Qz))) (Dj {3} {7} Wr)))) Qh))))))))),?_⟩;let ⟨dx,b,w,h1,h2,h3⟩:=hA.ex;let ⟨ws,hw,hR⟩:=id h3;have l1:=bok.w1;have l2:=bok.b1;have s0':∀ {H'},Qsw ga mv H H'->Qu H0 H':=λk c o e=>k c o (s0 _ _ e) (Qj e fg) (Qj e fm);have di:=Jz f9;refine ⟨_,rfl,a,_,rfl,.inl (SqL.of (s0 _ _ ha)),?_⟩;rw [Za];walk_at "r";refine L2.Ji (λi σ H'=>(∃ o4 o5 o6 o7 o8,σ=[rf p,rf a,rf ga,rf mv,o4,o5,o6,o7,o8])/\Qsw ga mv H H'/\Yj H' ga mv ((range i).foldl (Xh (wF aj) way ak.length) st).1 ((range i).foldl (Xh (wF aj) way ak.length) st).2/\Ok (wF aj) way ak.length ((range i).foldl (Xh (wF aj) way ak.length) st))
  ⟨⟨_,_,_,_,_,rfl⟩,λc o e _ _=>e,hM,hok⟩ ?_ ?_
 ·rintro i σ H1 hi ⟨⟨o4,o5,o6,o7,o8,rfl⟩,k1,hM1,ok1⟩;have S1:=s0' k1;have hl:way[i]? = some (way.getD i 0):=by simp [getD,hi]
  have hlb:way.getD i 0 < ak.length:=di _ (R9 hl);generalize hle:way.getD i 0=l at *;have hi':i < aj.length:=by lia
  have gm:aj[i]? = some aj[i]:=by simp [hi']
  have hrl:=bok.rows _ (M9 hi');let ⟨ra,g1,g2,g3⟩:=hR.at_ gm;have wfe:∀ r,wF aj i r=(aj[i]).getD r 0:=λr=>by simp [wF,getD,hi']
  refine ⟨_,rfl,_,rfl,?_⟩;refine ixL (SqL.of (S1 _ _ ha)) (Qc i "o" (Fl hl)) ?_;refine ⟨_,rfl,p,CH,dx,_,_,rfl,S1 _ _ h1,Z.HC.cl,Z.HC.nW,Jx _ _ _,_,rfl,?_⟩;refine ixL (SqL.of (S1 _ _ hw)) (Qc i "o" g2) ?_;refine ⟨_,rfl,p,dx,_,rfl,S1 _ _ h1,Uo _ _ _,p,ak,aj,ao,rfl,hA.same S1,?_⟩;walk_at "r";have hstep:∀ j,j<=ak.length->Ok (wF aj) way ak.length ((range j).foldl (Yg (wF aj) i l) ((range i).foldl (Xh (wF aj) way ak.length) st)):=λj hj=>Zu (I:=Ok (wF aj) way ak.length) ok1 λb r hr ok=>Ey f9 fj hl hlb (by have:=N8.mp hr; lia) ok;have hper:(range (i + 1)).foldl (Xh (wF aj) way ak.length) st=(range ak.length).foldl (Yg (wF aj) i l) ((range i).foldl (Xh (wF aj) way ak.length) st):=by rw [range_succ,foldl_append];show Xh _ _ _ _ i=_;unfold Xh;rw [hle]
  rw [hper];generalize (range i).foldl (Xh (wF aj) way ak.length) st=st1 at *;refine L2.Ji (λj σ H'=>(∃ o7 o8,σ=[rf p,rf a,rf ga,rf mv,iv (0 + (i:Int)),iv (l:Int),rf ra,o7,o8])/\Qsw ga mv H H'/\Yj H' ga mv ((range j).foldl (Yg (wF aj) i l) st1).1 ((range j).foldl (Yg (wF aj) i l) st1).2)
   ⟨⟨_,_,rfl⟩,k1,hM1⟩ ?_ ?_
  ·rintro j σ H2 hj ⟨⟨o7,o8,rfl⟩,k2,hM2⟩;have S2:=s0' k2;have ok2:=hstep j "o";have hsucc:(range (j + 1)).foldl (Yg (wF aj) i l) st1=Yg (wF aj) i l ((range j).foldl (Yg (wF aj) i l) st1) j:=by rw [range_succ,foldl_append];rfl
   rw [hsucc];clear hsucc;generalize (range j).foldl (Yg (wF aj) i l) st1=st2 at *;let ⟨gs,ms⟩:=st2;have lg:gs.length=ak.length:=ok2.l1;have lm:ms.length=ak.length:=ok2.l2;have gl:(gs.map V.int)[l]? = some (.int (gs.getD l 0)):=by simp [lg,hlb,getD]
   have gj:(gs.map V.int)[j]? = some (.int (gs.getD j 0)):=by simp [lg,hj,getD]
   have wj:(aj[i].map V.int)[j]? = some (.int ((aj[i]).getD j 0)):=by simp [hrl,hj,getD]
   have wl:(aj[i].map V.int)[l]? = some (.int ((aj[i]).getD l 0)):=by simp [hrl,hlb,getD]
   refine ⟨_,rfl,_,rfl,?_⟩;refine ixW l hM2.g gl ?_;refine ⟨_,rfl,_,rfl,?_⟩;refine ixL (SqL.of (S2 _ _ g3)) (Qc j "o" wj) ?_;refine ⟨_,_,rfl,rfl,_,rfl,_,rfl,?_⟩;refine ixW l (S2 _ _ g3) wl ?_;refine ⟨_,_,rfl,rfl,?_⟩;refine ⟨_,rfl,_,rfl,_,rfl,?_⟩;refine ixL (SqL.of hM2.g) (Qc j "o" gj) ?_;refine ⟨_,_,rfl,rfl,?_⟩;have hgain:gs.getD l 0 + aj[i].getD j 0 - aj[i].getD l 0=gs.getD l 0 + wF aj i j - wF aj i l:=by rw [wfe,wfe]
   dsimp only;rw [hgain];refine ⟨_,rfl,Fm (λhgt=>?_) (λhgt=>?_)⟩
   ·have hgt':gs.getD j 0 < gs.getD l 0 + wF aj i j - wF aj i l:=Q7 hgt;have hrel:Yg (wF aj) i l (gs,ms) j=(gs.set j (gs.getD l 0 + wF aj i j - wF aj i l),ms.set j (ms.getD l [] ++ [(i,j)])):=V2 hgt';rw [hrel];generalize gs.getD l 0 + wF aj i j - wF aj i l=gn at *;refine ⟨_,rfl,_,rfl,_,rfl,ga,_,_,j,rfl,rfl,hM2.g,?_,?_⟩
    ·unfold ixN;rw [if_pos "o",if_pos (by simp; lia)];simp
    rw [<- map_set];have hM3:=hM2.gset (gs':=gs.set j gn);have k3:Qsw ga mv H (upd H2 ga (.lst ((gs.set j gn).map V.int))):=λc o e h1 h2=>by rw [Qv h1]; exact k2 c o e h1 h2
    generalize upd H2 ga (.lst ((gs.set j gn).map V.int))=H3 at *;let ⟨ls,e1,e2,e3,e4⟩:=hM3.ex;have e2':ls.length=ms.length:=e2;have hll0:(ls.map V.ref)[l]? = some (.ref (ls[l]'(by lia))):=by simp [show l < ls.length by lia]
    have hll:ls[l]? = some (ls[l]'(by lia)):=by simp [show l < ls.length by lia]
    have hml:ms[l]? = some (ms.getD l []):=by simp [getD,show l < ms.length by lia]
    let ⟨ts,c1,c2,c3⟩:=e4 l _ _ hll hml;let ⟨r0,cc,gg,f1,f2,_⟩:=ok2.at_ l hlb;have hclen:ts.length<=10:=by have:=Km _ _ f2.nodup f2.lt;have f1':ms.getD l []=(way.length,r0) :: cc:=f1;rw [c2,f1'];simp at this ⊢;lia
    refine ⟨_,rfl,_,rfl,?_⟩;refine ixW l e1 hll0 ?_;refine ⟨_,rfl,_,rfl,Zk (by simp),λt4 H4 n4=>⟨Zk (by simp),λt5 H5 n5=>?_⟩⟩;have S5:Qu H3 H5:=n4.same.trans n5.same;refine ⟨ls[l]'(by lia),t5,_,_,rfl,rfl,S5 _ _ c1,n5.at_,by rw [sizeLine_eq]; simp; lia,λt6 H6 n6=>?_⟩;have S6:Qu H3 H6:=S5.trans n6.same;refine ⟨_,rfl,_,rfl,mv,_,_,j,rfl,rfl,S6 _ _ e1,?_,?_⟩
    ·unfold ixN;rw [if_pos "o",if_pos (by simp; lia)];simp
    have hM6:=hM3.same S6;refine ⟨⟨_,_,rfl⟩,λc o e z1 z2=>?_,hM6.mset (S6 _ _ e1) "o" (λz=>?_) (λz=>?_) (Ut.snoc (m:=(i,j)) n6.at_ c2 (λj' t' m' a1 a2=>S6 _ _ (c3 j' t' m' a1 a2)) ?_)⟩
    ·rw [Qv z2];exact S6 _ _ (k3 c o e z1 z2)
    ·have:=n6.none;rw [z,S5 _ _ hM3.g] at this;cases this
    ·have:=n6.none;rw [z,S5 _ _ e1] at this;cases this
    ·have:=n6.same _ _ (n5.same _ _ n4.at_);simpa using this
   ·have hrel:Yg (wF aj) i l (gs,ms) j=(gs,ms):=U6 (λz=>hgt (O8 z));rw [hrel];exact ⟨⟨_,_,rfl⟩,k2,hM2⟩
  ·rintro σ H2 ⟨⟨o7,o8,rfl⟩,k2,hM2⟩;exact ⟨⟨_,_,_,_,_,rfl⟩,k2,hM2,hstep _ (O1 _)⟩
 ·rintro σ H1 ⟨⟨o4,o5,o6,o7,o8,rfl⟩,k1,hM1,ok1⟩;exact q H1 k1 hM1
theorem Qs7:Def P w K mg base 4 "bring_in" [Y2,Y8] (Qkx K CH Pa Jy "bring_in.<locals>.<lambda>"):=by
 refine Z.a8.mkL Xr (λvs H Q E h=>?_) (λ_ _ _ _ _ _ us hl=>match us,hl with | [_,_],_=>rfl) (λf A outer s H vs Q E hr h=>?_)
 ·let ⟨p,a,ak,aj,ao,way,rfl,_⟩:=h;rfl
 ·let ⟨p,a,ak,aj,ao,way,rfl,hA,ha,bok,hlt,jb,hb0,f9,fj,hL,q⟩:=h;refine ⟨_,(zcF (zcC (Qg 2 Xr.nd (Zx K Z.T.u0 %[1|0])) (zcC (Qg 8 Xr.nd (Rz K Z.T.u6 (Qq (Qb K (Yb K {0}) {2}) Qz))) (zcC (Rq 3 Xr.nd [Y17,"newcomer"] [none,some 2] (Zr Z.T.u1 (Qq (Qo (Vg Z) Z.HC.cl {0} (hr.mono (by decide))) Qz)) (Qe (Qq (Zc %[1,0|0]) Qz))) (zcC (Xt (Zr Z.T.u1 (Qq (Qo (Vg Z) Z.HC.cl {0} (hr.mono (by decide))) Qz)) (Ql 4 Xr.nd) (Qm (Yq (Qd (Qb2 Z) hr %[0,1,8,3|0])))) (zcC (Qg 5 Xr.nd (Di (x:="room") (Nc:=[Y13]) (ix:=[some 8]) Z.a8.hd Z.a9 rfl rfl Z.T.u9 hr.dep (Qq (Qd (Qdw Z) hr %[0,1|0]) Qz) (λ_ _ _ _ _=>(Qb K {1} {0})) rfl rfl rfl rfl rfl rfl (λ_ _ _ _ _=>rfl) rfl rfl)) (zcC (Qg 6 Xr.nd (Qy Rg {1} (Qe %[5|0]))) (zcL (Qw (Xt (Vo K (Qb K {3} {5})) (Ql 7 Xr.nd) (Qm (Vn (Qb K {7} Qx) (Dj {6} (Qb K {7} Qx) Wr)))) (Qf {6})))))))))),?_⟩;let ⟨dx,b,w,h1,h2,h3⟩:=hA.ex;let ⟨ws,hw,hR⟩:=id h3;have l1:=bok.w1;have l2:=bok.b1;have di:=Jz f9;have gm:aj[way.length]? = some aj[way.length]:=by simp [hlt]
  have hrl:=bok.rows _ (M9 hlt);let ⟨ra,g1,g2,g3⟩:=hR.at_ gm;nofun;refine ⟨_,rfl,a,_,rfl,.inl (SqL.of ha),?_⟩;nofun;rw [Za];refine ⟨_,rfl,p,CH,dx,_,_,rfl,h1,Z.HC.cl,Z.HC.nW,Jx _ _ _,_,rfl,?_⟩;refine ixW way.length hw g2 ?_;refine ⟨ra,_,rfl,.inl (SqL.of g3),λga H1 n1=>?_⟩;nofun;refine ⟨_,rfl,p,dx,_,rfl,n1.same _ _ h1,Uo _ _ _,p,ak,aj,ao,rfl,hA.same n1.same,?_⟩;refine ⟨_,rfl,"o","o",λmv hmv=>?_⟩;rw [Int.toNat_natCast];have ngm:ga≠mv:=Qj n1.at_ hmv;refine Yk (λi y H => ∃ l t,y=.ref l/\l≠mv/\l≠ga/\t≠mv/\H l=some (.lst [.ref t])/\H t=some (.tup [.int (way.length:Int),.int (i:Int)])) sml hmv (λi y H H' k ⟨l,t,e,ne1,ne2,ne3,h1,h2⟩=>⟨l,t,e,ne1,ne2,ne3,k l _ ne1 h1,k t _ ne3 h2⟩) ?_ ?_
  ·rintro i H2 ys N hi s2 d2 hN;refine ⟨_,rfl,_,rfl,Zk (by simp),λt3 H3 n3=>⟨Zk (by simp),λl3 H4 n4=>?_⟩⟩;refine hN _ _ (n3.same.trans n4.same) ⟨l3,t3,rfl,?_,?_,?_,n4.at_,?_⟩
   ·exact (Qj (n3.same _ _ d2) n4.none).symm
   ·exact (Qj (n3.same _ _ (s2 _ _ n1.at_)) n4.none).symm
   ·exact (Qj d2 n3.none).symm
   ·have:=n4.same _ _ n3.at_;simpa using this
  rintro ys H2 s2 d2 ly r2;let ⟨ls,els,pls⟩:=Um (P:=λi l => ∃ t,l≠mv/\l≠ga/\H2 l=some (.lst [.ref t])/\H2 t=some (.tup [.int (way.length:Int),.int (i:Int)])) (λi y e=>by let ⟨l,t,e1,e2,e3,_,e4,e5⟩:=r2 i y e;exact ⟨l,e1,t,e2,e3,e4,e5⟩)
  subst els;have lls:ls.length=ak.length:=by simpa using ly
  have S2:Qu H H2:=n1.same.trans s2;have hrowe:(aj[way.length])=(range ak.length).map λr=>wF aj way.length r:=by refine U7 (by simp [hrl]) λi z1 z2=>?_;simp [wF,getD,hlt,z1]
  have hM2:Yj H2 ga mv (first (wF aj) way ak.length).1 (first (wF aj) way ak.length).2:=by
   refine ⟨ngm,?_,ls,d2,by simp [first,lls],λx hx=>?_,λi x c z1 z2=>?_⟩
   ·rw [s2 _ _ n1.at_,hrowe];rfl
   ·let ⟨i,hi,rfl⟩:=X3.mp hx;let ⟨t,e1,e2,_⟩:=pls i _ (R3 hi);exact ⟨e2,e1⟩
   ·let ⟨t,e1,e2,e3,e4⟩:=pls i x z1;have hi:i < ak.length:=by rw [<- lls]; exact (N5.mp z1).1
    have ec:c=[(way.length,i)]:=by simp [first,hi] at z2;exact z2.symm
    subst ec;refine ⟨[t],e3,rfl,λj t' m' y1 y2=>?_⟩;have hj:j=0:=by have:=(N5.mp y1).1; simp at this; lia
    subst hj;simp at y1 y2;subst y1 y2;exact e4
  have hok0:Ok (wF aj) way ak.length (first (wF aj) way ak.length):=Iw;nofun;refine ⟨_,rfl,p,dx,_,rfl,S2 _ _ h1,Uo _ _ _,p,ak,aj,ao,rfl,hA.same S2,?_⟩;walk_at "r";refine Zf (λi σ H'=>(∃ o4 o5 o6 o7,σ=[rf p,rf a,iv (way.length:Int),rf mv,o4,o5,o6,o7,rf ga])/\Qu H H'/\Yj H' ga mv (turns (wF aj) way ak.length (first (wF aj) way ak.length) i).1 (turns (wF aj) way ak.length (first (wF aj) way ak.length) i).2)
   ⟨⟨_,_,_,_,rfl⟩,S2,hM2⟩ ?_ ?_
  ·nofun;rintro i σ H3 hi ⟨⟨o4,o5,o6,o7,rfl⟩,S3,hM3⟩;refine ⟨_,rfl,_,rfl,_,rfl,_,rfl,H,p,a,ga,mv,ak,aj,ao,way,_,rfl,S3,n1.none,n1.same.free hmv,hA,ha,bok,hlt,f9,fj,Tx f9 fj di i,hM3,λH4 k4 hM4=>?_⟩;nofun;refine ⟨⟨_,_,_,_,rfl⟩,λc o e=>k4 c o (S3 _ _ e) (Qj e n1.none) (Qj e (n1.same.free hmv)),?_⟩;rw [Pq];exact hM4
  rintro σ H3 ⟨⟨o4,o5,o6,o7,rfl⟩,S3,hM3⟩;have hok3:Ok (wF aj) way ak.length (turns (wF aj) way ak.length (first (wF aj) way ak.length) ak.length):=Tx f9 fj di _;have hbr:=λe he iz=>Qn8 (W:=wF aj) (way:=way) (R:=ak.length) (Bm ak) f9 fj (e:=e) he iz;generalize turns (wF aj) way ak.length (first (wF aj) way ak.length) ak.length=st at *;let ⟨gs,ms⟩:=st;have lg:gs.length=ak.length:=hok3.l1;have lm:ms.length=ak.length:=hok3.l2;nofun;refine ⟨_,rfl,_,rfl,p,a,ak,aj,ao,wI way,rfl,hA.same S3,"o",SqL.of (S3 _ _ ha),λol H4 n4=>?_⟩;have S4:Qu H H4:=S3.trans n4.same;let ⟨r1,hr1,hr2⟩:=Qrk jb hb0;have hM4:=hM3.same n4.same;refine ⟨ol,Yu ak (wI way),λz=>gs.getD z.toNat 0,rfl,SqL.of n4.at_,Z1 (Jp.mpr ⟨r1,rfl,hr1,hr2⟩),hL.same S4,λz hz H5 s5=>?_,λz hz hmax H5 s5 o5 hL5=>?_⟩
  ·let ⟨r,rfl,hr,_⟩:=Jp.mp hz;have gr:(gs.map V.int)[r]? = some (.int (gs.getD r 0)):=by simp [lg,hr,getD]
   refine ⟨_,rfl,_,rfl,?_⟩;refine ixW r (s5.to _ _ hM4.g rfl) gr ?_;exact ⟨rfl,rfl⟩
  let ⟨e,rfl,he,hec⟩:=Jp.mp hz;have iz:∀ r,way.count r < bF ak r->gs.getD r 0<=gs.getD e 0:=λr hr=>by
   have hrl':r < ak.length:=by refine R4 λz=>?_;have:=Bm ak r "o";lia
   have:=hmax _ (Jp.mpr ⟨r,rfl,hrl',hr⟩);simpa using this
  let ⟨b1,b2,b3⟩:=hbr e hec iz _ rfl;have S5:Qt H H5:=S4.b.trans s5;nofun;refine ⟨_,rfl,_,rfl,Zk (by simp),λt6 H6 n6=>?_⟩;refine ⟨a,t6,_,_,rfl,rfl,n6.same _ _ (S5.to _ _ ha rfl),n6.at_,by rw [sizeLine_eq,Za]; simp; lia,λbr H7 n7=>?_⟩;have s7:Qt H4 H7:=s5.trans (n6.same.trans n7.same).b;have S7:Qt H H7:=S4.b.trans s7;have p6:H7 br=some (.lst ((wI (way ++ [e])).map V.int)):=by rw [n7.at_];simp [wI]
  let ⟨ls3,e1,e2,e3,e4⟩:=hM4.ex;have e2':ls3.length=ms.length:=e2;have hlle:(ls3.map V.ref)[e]? = some (.ref (ls3[e]'(by lia))):=by simp [show e < ls3.length by lia]
  have hme:ms[e]? = some (ms.getD e []):=by simp [getD,show e < ms.length by lia]
  let ⟨ts,c1,c2,c3⟩:=e4 e (ls3[e]'(by lia)) _ (by simp [show e < ls3.length by lia]) hme;have fbr:H br=none:=S5.th _ (n6.same.free n7.none);have c1':H7 (ls3[e]'(by lia))=some (.lst (ts.map V.ref)):=s7.to _ _ c1 rfl;have ncb:ls3[e]'(by lia)≠br:=Qj (n6.same _ _ (s5.to _ _ c1 rfl)) n7.none;let ⟨r0,cc,gg,f1,f2,_⟩:=hok3.at_ e he;have f1':ms.getD e []=(way.length,r0) :: cc:=f1;have hpers:∀ m∈ms.getD e [],m.1 < (way ++ [e]).length:=λm hm=>by
   rw [f1'] at hm;simp;rcases Q8.mp hm with z | z
   ·rw [z]; lia
   ·have:=(f2.persons m z).1; lia
  have alen:∀ (v:K4) (c:List (Nat × Nat)),(app v c).length=v.length:=λv c=>by
   induction c generalizing v with
   | nil=>rfl
   | cons m c ih=>show (app (v.set m.1 m.2) c).length=_; rw [ih]; simp
  clear f1 f2;generalize ms.getD e []=ch at *;nofun;refine ⟨_,rfl,_,rfl,?_⟩;refine ixW e (s7.to _ _ e1 rfl) hlle ?_;generalize ls3[e]'(by lia)=ca at *;refine ⟨ca,rfl,⟨_,SqL.of c1'⟩,?_⟩;refine Ym (xs:=ts.map V.ref) (λi σ H'=>(∃ o4 o7,σ=[rf p,rf a,iv (way.length:Int),rf mv,o4,iv (e:Int),rf br,o7,rf ga])/\(∀ b o,H7 b=some o->b≠br->H' b=some o)/\H' br=some (.lst ((wI (app (way ++ [e]) (ch.take i))).map V.int))/\∀ b,H' b=none->H7 b=none)
   ⟨⟨_,_,rfl⟩,λ_ _ e _=>e,p6,λ_ z=>z⟩ (λi σ H' _ h=>SqL.of (h.2.1 _ _ c1' ncb)) ?_ ?_
  ·nofun;rintro i x σ H8 hx ⟨⟨o4',o7',rfl⟩,k8,hb8,z8⟩;let ⟨t,ht,rfl⟩:=Yw hx;have hi:i < ch.length:=by rw [<- c2]; exact (N5.mp ht).1
   have hm:ch[i]? = some ch[i]:=by simp [hi]
   have ht7:=s7.to _ _ (c3 i t _ ht hm) rfl;have ht8:=k8 _ _ ht7 (Jw ht7 p6 (by intro z; cases z));have hp:=hpers _ (M9 hi);refine ⟨_,rfl,?_⟩;refine ixU ht8 rfl ?_;refine ⟨_,rfl,_,rfl,?_⟩;refine ixU ht8 rfl ?_;refine ⟨br,_,_,ch[i].1,rfl,rfl,hb8,?_,?_⟩
   ·unfold ixN;rw [if_pos "o",if_pos (by rw [Za,alen]; lia)];simp
   nofun;refine ⟨⟨_,_,rfl⟩,λc o e' hne=>by rw [Qv hne]; exact k8 c o e' hne,?_,λc e'=>z8 c (by
    by_cases hc:c=br
    ·subst hc; rw [Qk] at e'; cases e'
    ·rw [Qv hc] at e'; exact e')⟩
   have et:ch.take (i + 1)=ch.take i ++ [ch[i]]:=by rw [take_succ,hm]; rfl
   rw [Qk,et,Il];simp [wI,map_set]
  ·rintro σ H8 ⟨⟨o4',o7',rfl⟩,k8,hb8,z8⟩;have hend:(ts.map V.ref).length=ch.length:=by rw [length_map,c2]
   rw [hend,take_length] at hb8;refine ⟨_,rfl,?_⟩;refine q br _ H8 ⟨λc o e' z=>k8 _ _ (S7.to _ _ e' z) (Qj e' fbr),λc e'=>S7.th _ (z8 _ e')⟩ (λc o e' hc=>k8 _ _ (n7.same _ _ (n6.same _ _ (o5 _ _ (S4 _ _ e') hc))) (Qj e' fbr)) fbr hb8 ?_ b1 b2 λv hv=>b3 v (hv.trans b1);have hL7:=(hL5.same n6.same).same n7.same;rcases hL7 with z | ⟨c',oc,vs,t,z1,z2,z3⟩
   ·exact .inl (k8 _ _ z (Jw z p6 (by intro w; cases w)))
   ·exact .inr ⟨c',oc,vs,t,k8 _ _ z1 (Jw z1 p6 (by intro w; cases w)),k8 _ _ z2 (Jw z2 p6 (by intro w; cases w)),z3⟩
theorem Qc0:Def P w K mg base 5 "best_way" [Y2] (Qf2 K CH Pa Jy "bring_in.<locals>.<lambda>"):=by
 refine Z.a10.mq [Y2,Y8] λH vs Q E hr nD h=>?_;let ⟨p,ak,aj,ao,rfl,hA,bok,jb,hb0,hL,q⟩:=h;refine ⟨_,(zcF (zcC (Qg 1 nD (Qe Qz)) (zcL (Qw (Mu A1i (q_t Ra (Zx K Z.T.u0 %[1|0]) (Qo (Yh Z) Z.HC.cl {0} (hr.mono (by decide)))) (Qm (Qg 1 nD (Qd (Qs7 Z) hr %[0,1|0])))) (Qf {1}))))),?_⟩;have l1:=bok.w1;symm;refine λl0 H1 n1=>?_;nofun;refine ⟨λm σ H' => ∃ (l:G5) (way:K4),σ=[rf p,rf l]/\Qt H H'/\Yt Pa H H'/\H l=none/\H' l=some (.lst ((wI way).map V.int))/\Qa H' Pa Jy "bring_in.<locals>.<lambda>"/\m + way.length=aj.length/\Fit (bF ak) way/\Opt ak aj way,⟨aj.length,l0,[],rfl,n1.same.b,n1.same.o,n1.none,n1.at_,hL.same n1.same,rfl,λr=>by simp,λv hv _=>by have:v=[]:=A0e.mp hv;rw [this];exact Q6 _⟩,?_⟩
 rintro m σ H2 ⟨l,way,rfl,s2,o2,hl0,hl,hL2,hm,f9,fj⟩;have hA2:=hA.bf s2;let ⟨dx,b,w,h1,h2,h3⟩:=hA2.ex;refine ⟨_,rfl,l,_,rfl,.inl (SqL.of hl),?_⟩;rw [Za];refine ⟨_,rfl,p,dx,_,rfl,h1,Uo _ _ _,p,ak,aj,ao,rfl,hA2,?_⟩;refine ⟨_,_,rfl,rfl,_,rfl,Fm (λhlt=>?_) (λhge=>?_)⟩
 ·have hlt':way.length < aj.length:=by have:(way.length:Int) < aj.length:=Q7 hlt;lia
  refine ⟨λσ' H' => ∃ (l:G5) (cj:K4),σ'=[rf p,rf l]/\Qt H H'/\Yt Pa H H'/\H l=none/\H' l=some (.lst ((wI cj).map V.int))/\Qa H' Pa Jy "bring_in.<locals>.<lambda>"/\cj.length=way.length + 1/\Fit (bF ak) cj/\Opt ak aj cj,λσ' H' ⟨l',cj,e1,e2,e2',e3,e4,e5,e6,e7,e8⟩=>⟨m - 1,"o",l',cj,e1,e2,e2',e3,e4,e5,"o",e7,e8⟩,?_⟩;refine ⟨_,rfl,_,rfl,p,l,ak,aj,ao,way,rfl,hA2,hl,bok,hlt',"o",hb0,f9,fj,hL2,λl' cj H3 s3 o3 f3 h3' hL3 e1 e2 e3=>?_⟩;exact ⟨l',cj,rfl,s2.trans s3,o2.trans o3,s2.th _ f3,h3',hL3,e1,e2,e3⟩
 ·symm;have hge':way.length=aj.length:=by have:¬ (way.length:Int) < aj.length:=λz=>hge (O8 z);lia
  exact q l way H2 s2 o2 hl0 hl hL2 hge' f9 fj
theorem Qzz:Def P w K mg base 4 "with_open" [Y5,Y17] (Sd K CH):=by
 refine Z.a11.mq [Y5,Y17] λH vs Q E hr nD h=>?_;let ⟨C,p,ak,aj,ao,way,r,rfl,AC,hA,ok,q⟩:=h;refine ⟨_,(Qf (Hd (K:=K) rfl rfl (by rfl) Z.T.u13 (by rfl) Z.T.u14 (Qy Rg (Qd (Qdw Z) hr (Qq (Yb K {0}) (Qq (Yb K {0}) Qz))) (Qe %[1|0])))),?_⟩;let ⟨dx,hp,wa,g1,g2,g3⟩:=hA.ex;have l1:=ok.bok.b1;have l2:=ok.bok.w1;refine ⟨_,rfl,p,C,dx,_,_,rfl,g1,AC.cl,AC.nH,Yf _ _,_,rfl,p,C,dx,_,_,rfl,g1,AC.cl,AC.nW,Dy _ _,?_⟩;refine ⟨hp,wa,ak,aj,ao,wI way,rfl,g2,"o",SqL.of g3,λl1 H1 n1=>?_⟩;refine ⟨_,rfl,Zk (by simp),λl2 H2 n2=>?_⟩;have hol:(Yu ak (wI way)).length<=ak.length:=by unfold Yu;rw [length_map];exact O6 (W3 _ _) (by simp)
 refine ⟨l1,l2,_,_,rfl,rfl,n2.same _ _ n1.at_,n2.at_,by rw [sizeLine_eq,length_map]; simp; lia,λl3 H3 n3=>?_⟩;have h3:H3 l3=some (.lst ((Yu ak (wI way) ++ [(r:Int)]).map V.int)):=by rw [n3.at_];simp
 refine ⟨l3,_,rfl,SqL.of h3,by simp; lia,λl4 ms H4 n4 hr hm=>?_⟩;refine q l4 ms H4 (((n1.same.trans n2.same).trans n3.same).trans n4.same) (((n1.same.trans n2.same).trans n3.same).free n4.none) n4.at_ ⟨hr,hm⟩
theorem Pm:Def P w K mg base 1 "own_worth" [Y5,Y7] (Sr K CH):=by
 refine Z.a12.mq [Y5,Y7] λH vs Q E hr nD h=>?_;let ⟨C,p,ak,aj,ao,way,i,rfl,AC,hA,ok,hi,q⟩:=h;refine ⟨_,(Qf (Qb K (Qb K (Yb K (Yb K {0})) {1}) (Qb K (Yb K {0}) {1}))),?_⟩;let ⟨dx,hp,wa,g1,g2,g3⟩:=hA.ex;let ⟨dh,b,w,h1,h2,h3⟩:=g2.ex;let ⟨ws,hw,hR⟩:=id h3;have gm:aj[i]? = some aj[i]:=by simp [hi]
 have hrl:=ok.bok.rows _ (M9 hi);let ⟨ra,e1,e2,e3⟩:=hR.at_ gm;let ⟨w1,w2⟩:=ok.at_ hi;have gen:∀ r,r < aj[i].length->(aj[i].map V.int)[r]? = some (.int (wF aj i r)):=λr hr=>by simp [wF,getD,hi,hr]
 have g5:(aj[i].map V.int)[way.getD i 0]? = some (.int (Zh aj way i)):=gen _ "o";refine ⟨_,rfl,p,C,dx,_,_,rfl,g1,AC.cl,AC.nH,Yf _ _,hp,CH,dh,_,_,rfl,h1,Z.HC.cl,Z.HC.nW,Jx _ _ _,_,rfl,?_⟩;refine ixW i hw e2 ?_;refine ⟨_,rfl,p,C,dx,_,_,rfl,g1,AC.cl,AC.nW,Dy _ _,_,rfl,?_⟩;refine ixW i g3 (Fl w1) ?_;refine ixW (way.getD i 0) e3 g5 ?_;exact q
def Nw:Ox P w K mg base 5 au "through" [Y14,"a","b"] (Dm true CH au):=by refine Z.a13.mq [Y14,"a","b"] λH vs Q E hr nD h=>?_;let ⟨p,ak,aj,ao,way,a,b,rfl,hA,ok,ha,hb,q⟩:=h;refine ⟨_,(Qf (Qd (Qzz Z) hr (Qq {0} (Qq (Qb K (Yb K {0}) {1}) Qz)))),?_⟩;let ⟨dx,hp,wa,g1,g2,g3⟩:=hA.ex;let ⟨w1,w2⟩:=ok.at_ ha;refine ⟨_,rfl,_,rfl,p,au,dx,_,_,rfl,g1,Z.b7.a.cl,Z.b7.a.nW,Dy _ _,_,rfl,?_⟩;refine ixW a g3 (Fl w1) ?_;exact ⟨au,p,ak,aj,ao,way,way.getD a 0,rfl,Z.b7.a,hA,ok,q⟩
theorem Sf:Ox P w K mg base 2 au "gain" [Y14,"a","r","b"] (Qj7 true CH au):=by
 refine Z.a14.mq [Y14,"a","r","b"] λH vs Q E hr nD h=>?_;let ⟨p,ak,aj,ao,way,a,r,b,rfl,hA,ok,ha,hr0,hb,q⟩:=h;refine ⟨_,(Qf (Qy Zv (Qb K (Qb K (Yb K (Yb K {0})) {3}) {2}) (Qd (Pm Z) hr %[0,1|0]))),?_⟩;let ⟨dx,hp,wa,g1,g2,g3⟩:=hA.ex;let ⟨dh,bd,w,h1,h2,h3⟩:=g2.ex;let ⟨ws,hw,hR⟩:=id h3;have gm:aj[b]? = some aj[b]:=by simp [hb]
 have hrl:=ok.bok.rows _ (M9 hb);let ⟨ra,e1,e2,e3⟩:=hR.at_ gm;have g5:(aj[b].map V.int)[r]? = some (.int (wF aj b r)):=by simp [wF,getD,hb,show r < aj[b].length by lia]
 refine ⟨_,rfl,p,au,dx,_,_,rfl,g1,Z.b7.a.cl,Z.b7.a.nH,Yf _ _,hp,CH,dh,_,_,rfl,h1,Z.HC.cl,Z.HC.nW,Jx _ _ _,_,rfl,?_⟩;refine ixW b hw e2 ?_;refine ⟨_,rfl,?_⟩;refine ixW r e3 g5 ?_;refine ⟨_,rfl,_,rfl,au,p,ak,aj,ao,way,a,rfl,Z.b7.a,hA,ok,ha,?_⟩;exact ⟨_,_,rfl,rfl,q⟩
def Qzv:Def P w K mg base 6 "best_room" [Y5,Y26,"a","b"] (Hy true CH au Pb Zs "best_room.<locals>.<lambda>" K):=by
 refine Z.a16.mkL Hf (λvs H Q E h=>?_) (λ_ _ _ _ _ _ us hl=>match us,hl with | [_,_,_,_],_=>rfl) (λf A outer s H vs Q E hr h=>?_)
 ·let ⟨p,rl,ak,aj,ao,way,a,b,ms,rfl,_⟩:=h;rfl
 ·let ⟨p,rl,ak,aj,ao,way,a,b,ms,rfl,hA,ok,ha,hb,hrl,hri,hL,q⟩:=h;refine ⟨_,(Qf (Di (x:="room") (Nc:=["a",Y5,"b"]) (ix:=[some 2,some 0,some 3]) Z.a16.hd Z.a17 rfl rfl Z.T.u9 hr.dep %[1|0] (λ_ _ _ _ _=>(Te (Sf Z) Z.b7.cl {2} ((Uq.in1 (hr.mono (by decide))).deeper _) %[1,0,3|0])) rfl rfl rfl rfl rfl rfl (λ_ _ _ _ _=>rfl) rfl rfl)),?_⟩;have g8:((way.getD (if true then a else b) 0:Nat):Int)∈ms:=(hri.2 _).mpr (by simp [Zm]);refine ⟨_,rfl,rl,ms,λz=>Zn true aj way a z.toNat b,rfl,SqL.of hrl,Z1 g8,hL,λz hz H5 s5=>?_,λz hz hmax H5 s5 o5 hL5=>?_⟩
  ·let ⟨r,rfl,hr⟩:=Qj5 ok ha hb hri z hz;exact Mm (hA.bf s5) ok ha hr hb (λ_ k=>⟨_,rfl,k⟩) (λ_ k=>⟨_,rfl,_,rfl,_,rfl,k⟩) ⟨rfl,rfl⟩
  ·let ⟨r,rfl,hr⟩:=Qj5 ok ha hb hri z hz;refine q r H5 s5 o5 hL5 ((hri.2 _).mp hz) hr λr' hr'=>?_;have:=hmax _ ((hri.2 _).mpr hr');simpa using this
theorem Qzw:Def P w K mg base 7 "best_hops" [Y5] (Hu true CH au Pb Zs "best_room.<locals>.<lambda>"):=by
 refine Z.a18.mq [Y5,"people","hops","a","b",Y26] λH vs Q E hr nD h=>?_;let ⟨p,ak,aj,ao,way,rfl,hA,ok,hL,q⟩:=h;refine ⟨_,(Qw (Qg 1 nD (Qo (Yh Z) Z.HC.cl (Yb K {0}) (hr.mono (by decide)))) (Qw (Qg 2 nD (Qe Qz)) (Qw (Xt (Zr Z.T.u1 %[1|0]) (Ql 3 nD) (Qm (Xt (Zr Z.T.u1 %[1|0]) (Ql 4 nD) (Qw (Qg 5 nD (Nd (Kf (q_t Jg {3} {4}) (Qe Qz) (Te (Nw Z) Z.b7.cl {0} (hr.mono (by decide)) %[3,4|0])))) (Qm (Zz (q_t Ft (Zx K Z.T.u0 %[5|0]) Qx) (Qm (Yq (Kw K {2} (Qq (Zc (Qq {3} (Qq (Qd (Qzv Z) hr %[0,5,3,4|0]) %[4|0]))) Qz)))) Qh)))))) (Qf {2})))),?_⟩;have AC:Qx6 K au:=Z.b7.a;have lw:=ok.bok.w1;have lb:=ok.bok.b1;let ⟨dx,hp,wa,g1,g2,g3⟩:=hA.ex;let ⟨dh,bb,ww,h1,h2,h3⟩:=g2.ex;refine ⟨_,rfl,p,_,dx,_,_,rfl,g1,AC.cl,AC.nH,Yf _ _,hp,dh,_,rfl,h1,Uo _ _ _,hp,ak,aj,ao,rfl,g2,?_⟩;symm;refine λhl H1 n1=>?_;refine ⟨_,rfl,_,rfl,"o","o",?_⟩;rw [Int.toNat_natCast];have fhl:H hl=none:=n1.none;refine L2.Ji (λi σ H' => ∃ (aq:List Hop) (o3 o4 o5:Option V),σ=[rf p,iv (aj.length:Int),rf hl,o3,o4,o5]/\Qt H H'/\Yt Pb H H'/\Qa H' Pb Zs "best_room.<locals>.<lambda>"/\Zw H' hl aq/\Vx true ak aj way aq i 0)
  ⟨[],none,none,none,rfl,n1.same.b,n1.same.o,hL.same n1.same,⟨[],n1.at_,rfl,(λj t m z=>by simp at z)⟩,⟨(λm z=>by cases z),(λm z=>by cases z),(λa b _ _ _ z=>by lia),by simp⟩⟩ ?_ ?_
 ·rintro i σ H2 hi ⟨aq,o3,o4,o5,rfl,s2,so2,hL2,hh2,ht2⟩;refine ⟨_,rfl,_,rfl,"o","o",?_⟩;rw [Int.toNat_natCast];refine L2.Ji (λj σ H' => ∃ (aq:List Hop) (o4 o5:Option V),σ=[rf p,iv (aj.length:Int),rf hl,iv (0 + (i:Int)),o4,o5]/\Qt H H'/\Yt Pb H H'/\Qa H' Pb Zs "best_room.<locals>.<lambda>"/\Zw H' hl aq/\Vx true ak aj way aq i j)
   ⟨aq,_,_,rfl,s2,so2,hL2,hh2,ht2⟩ ?_ ?_
  ·rintro j σ H3 hj ⟨jn,o4',o5',rfl,s3,so3,hL3,hh3,ht3⟩;have hA3:=hA.bf s3;refine ⟨λv H' => ∃ rl ms,v=.ref rl/\H' rl=some (.lst (ms.map V.int))/\Qu H3 H'/\((i=j/\ms=[])\/(i≠j/\Du ms (Zm true ak way i j))),?_,?_⟩
   ·symm;refine Fm (λe=>?_) (λe=>?_)
    ·have e':i=j:=by
      have:=Q7 e;injection this with this
      lia
     refine ⟨Zk (by simp),λl4 H4 n4=>?_⟩;exact ⟨l4,[],rfl,n4.at_,n4.same,.inl ⟨e',rfl⟩⟩
    ·have e':i≠j:=λz=>e (O8 (by rw [z]));refine As (a:=i) (b:=j) hA3 ok "o" "o" (λ_ k=>⟨_,rfl,k⟩) (λK2 k=>⟨_,rfl,_,rfl,by show K2 [V.int (0 + (i:Int)),V.int (0 + (j:Int))] _; rw [Int.zero_add,Int.zero_add]; exact k⟩) λl4 ms H4 s4 f4 h4 hr4=>?_;exact ⟨l4,ms,rfl,h4,s4,.inr ⟨e',hr4⟩⟩
   rintro v H4 ⟨rl,ms,rfl,h4,s4,hcase⟩;have S4:Qt H H4:=s3.trans s4.b;have SO4:Yt Pb H H4:=so3.trans s4.o;have hL4:=hL3.same s4;have hh4:=hh3.same s4;refine ⟨_,rfl,rl,_,rfl,.inl (SqL.of h4),?_⟩;rw [length_map];refine ⟨_,_,rfl,rfl,_,rfl,?_⟩;rcases hcase with ⟨eij,rfl⟩ | ⟨nij,hri⟩
   ·refine Vt rfl ?_;exact ⟨jn,_,_,rfl,S4,SO4,hL4,hh4,ht3.skip eij⟩
   ·have g8:((way.getD (if true then i else j) 0:Nat):Int)∈ms:=(hri.2 _).mpr (by simp [Zm]);have hpos:0 < ms.length:=Z1 g8;rw [if_pos (decide_eq_true "o")];let ⟨ts,t1,t2,t3⟩:=id hh4;refine ⟨_,rfl,.inl ⟨rfl,_,SqL.of t1⟩,?_⟩;refine ⟨_,rfl,_,rfl,_,rfl,_,rfl,_,rfl,p,rl,ak,aj,ao,way,i,j,ms,by simp,hA.bf S4,ok,"o","o",h4,hri,hL4,λr H5 s5 so5 hL5 hr1 hr2 hr3=>?_⟩;refine ⟨_,rfl,Zk (by simp),λtp H6 n6=>?_⟩;have t16:H6 hl=some (.lst (ts.map V.ref)):=n6.same _ _ (s5.to _ _ t1 rfl);refine ⟨hl,_,_,rfl,rfl,t16,by rw [sizeLine_eq,length_map,t2]; have:=ht3.len; have:=Nat.mul_le_mul (show i<=10 by lia) lw; lia,?_⟩;have hh7:Zw (upd H6 hl (.lst (ts.map V.ref ++ [.ref tp]))) hl (jn ++ [(i,r,j)]):=by
     refine Zw.snoc (ts:=ts) (t:=tp) Qk t2 (λk t' m' x1 x2=>?_) ?_
     ·have e1:=n6.same _ _ (s5.to _ _ (t3 k t' m' x1 x2) rfl);rw [Qv (Jw e1 t16 (by intro z; cases z))];exact e1
     ·have e1:=n6.at_;rw [Qv (Jw e1 t16 (by intro z; cases z)),e1];simp [Qsx]
    refine ⟨jn ++ [(i,r,j)],_,_,rfl,⟨λc o e z=>?_,λc e=>?_⟩,λc o e hc=>?_,?_,hh7,ht3.more "o" nij hr1 hr2 hr3⟩
    ·rw [Qv (Qj e fhl)];exact n6.same _ _ (s5.to _ _ (S4.to _ _ e z) z)
    ·by_cases hc:c=hl
     ·rw [hc,Qk] at e; cases e
     ·rw [Qv hc] at e;exact S4.th _ (s5.th _ (n6.same.free e))
    ·rw [Qv (Qj e fhl)];exact n6.same _ _ (so5 _ _ (SO4 _ _ e hc) hc)
    ·exact (hL5.same n6.same).updL t16
  ·rintro σ H3 ⟨jn,o4',o5',rfl,s3,so3,hL3,hh3,ht3⟩;exact ⟨jn,_,_,_,rfl,s3,so3,hL3,hh3,ht3.next⟩
 ·rintro σ H2 ⟨aq,o3,o4,o5,rfl,s2,so2,hL2,hh2,ht2⟩;symm;exact q hl aq H2 s2 so2 hL2 fhl hh2 (ht2.good lw)
theorem Qmx:Def P w K mg base 1 "hop_on" ["hops",Y13,"totals",Y31] Qk9:=by
 refine Z.a19.mq ["hops",Y13,"totals",Y31,Y44,"hop","came","there"] λH vs Q E hr nD h=>?_;let ⟨hl,gl,tl,cl,aq,gn,n,N,st,F,rfl,hh,hg,htc,hF,hF0,n1,n2,n3,n4,hlt,l1,l2,fu,hN,hN2,q⟩:=h;refine ⟨_,(Qm (Xt (Zr Z.T.u1 (Qq (Zx K Z.T.u0 %[0|0]) Qz)) (Ql 4 nD) (Qw (Qg 5 nD (Qb K {0} {4})) (Qw (Qg 6 nD (Qb K {2} (Qb K {5} Qx))) (Qw (Qg 7 nD (Qb K {2} (Qb K {5} Qx))) (Qm (Zz (PW.pt (Re (q_t Nl {6} Zg) (Vw (PW.pt (Jv (q_t Pr {7} Zg) (Yo (q_t Ft (Qy Xm {6} (Qb K {1} {4})) {7}))))))) (Qw (Vn (Qy Xm {6} (Qb K {1} {4})) (Dj {2} (Qb K {5} Qx) Wr)) (Qm (Vn (Qy Rg (Qb K {3} (Qb K {5} Qx)) (Qe %[5|0])) (Dj {3} (Qb K {5} Qx) Wr)))) Qh))))))),?_⟩;let ⟨ts,e1,e2,e3⟩:=id hh;refine ⟨_,rfl,hl,_,rfl,.inl (SqL.of e1),?_⟩;rw [length_map,e2];walk_at "r";refine L2.Ji (λi σ H'=>(∃ o4 o5 o6 o7,σ=[rf hl,rf gl,rf tl,rf cl,o4,o5,o6,o7])/\(∀ b o,H b=some o->b≠tl->b≠cl->H' b=some o)/\(∀ b,H' b=none->H b=none)/\Ug H' tl cl ((aq.take i).foldl (Ui gn) st)/\(∀ c∈((aq.take i).foldl (Ui gn) st).2,c.length<=N + i)/\((aq.take i).foldl (Ui gn) st).1.length=n/\((aq.take i).foldl (Ui gn) st).2.length=n/\TCF F H' cl)
  ⟨⟨_,_,_,_,rfl⟩,λ_ _ e _ _=>e,λ_ e=>e,htc,hN,l1,l2,hF⟩ ?_ ?_
 ·rintro i σ H1 hi ⟨⟨o4,o5,o6,o7,rfl⟩,k1,f1,tc1,c1,m1,m2,F1⟩;have hm:aq[i]? = some aq[i]:=by simp [hi]
  have etk:aq.take (i + 1)=aq.take i ++ [aq[i]]:=by rw [take_succ,hm]; rfl
  rw [etk,foldl_append];let ⟨b1,b2⟩:=hlt _ (M9 hi);have ht:ts[i]? = some (ts[i]'(by lia)):=by simp [show i < ts.length by lia]
  have htt:=e3 i _ _ ht hm;generalize aq[i]=m at *;generalize ts[i]'(by lia)=t at *;generalize (aq.take i).foldl (Ui gn) st=s0 at *;have hh1:=k1 _ _ e1 n1 n2;have jx:=k1 _ _ htt (Jw htt htc.g (by intro z; cases z)) (by let ⟨ls,e,_⟩:=htc.ex;exact Jw htt e (by intro z; cases z))
  have hg1:=k1 _ _ hg n3 n4;have hix:(ts.map V.ref)[i]? = some (.ref t):=by simp [ht]
  have gt1:(s0.1.map oV)[m.1]? = some (oV (s0.1.getD m.1 none)):=by simp [getD,m1,b1]
  have gt2:(s0.1.map oV)[m.2.2]? = some (oV (s0.1.getD m.2.2 none)):=by simp [getD,m1,b2]
  have gg:((aq.map gn).map V.int)[i]? = some (.int (gn m)):=by simp [hm]
  symm;refine ixL (SqL.of hh1) (Qc i "o" hix) ?_;refine ⟨_,rfl,_,rfl,?_⟩;refine ixU jx rfl ?_;refine ixW m.1 tc1.g gt1 ?_;refine ⟨_,rfl,_,rfl,?_⟩;refine ixU jx rfl ?_;refine ixW m.2.2 tc1.g gt2 ?_;cases hcame:s0.1.getD m.1 none with
  | none =>
   have er:[m].foldl (Ui gn) s0=s0:=by show Ui gn s0 m=_;unfold Ui;rw [hcame]
   rw [er];refine ⟨_,rfl,rfl,_,rfl,Bv ?_⟩;exact ⟨⟨_,_,_,_,rfl⟩,k1,f1,tc1,λc hc=>by have:=c1 c hc; lia,m1,m2,F1⟩
  | some came =>
  refine ⟨_,rfl,rfl,_,rfl,Qoq ?_⟩;cases hth:s0.1.getD m.2.2 none with
  | none =>
   have hbt:btO (s0.1.getD m.2.2 none) (came + gn m)=true:=by rw [hth]; rfl
   refine ⟨_,rfl,rfl,_,rfl,Qoq ?_⟩;have er:[m].foldl (Ui gn) s0=(s0.1.set m.2.2 (some (came + gn m)),s0.2.set m.2.2 (s0.2.getD m.1 [] ++ [m])):=by show Ui gn s0 m=_;unfold Ui;rw [hcame];dsimp only;rw [if_pos hbt]
   have p8:=Fj (gn:=gn) (m:=m) c1;have erl:Ui gn s0 m=(s0.1.set m.2.2 (some (came + gn m)),s0.2.set m.2.2 (s0.2.getD m.1 [] ++ [m])):=er;rw [erl] at p8;rw [er];refine ⟨_,rfl,_,rfl,_,rfl,?_⟩;refine ixL (SqL.of hg1) (Qc i "o" gg) ?_;refine ⟨_,_,rfl,rfl,_,rfl,_,rfl,?_⟩;refine ixU jx rfl ?_;refine ⟨tl,_,_,m.2.2,rfl,rfl,tc1.g,?_,?_⟩
   ·unfold ixN;rw [if_pos "o",if_pos (by rw [length_map,m1]; lia)];simp
   have tc2:Ug (upd H1 tl (.lst ((s0.1.map oV).set m.2.2 (.int (came + gn m))))) tl cl (s0.1.set m.2.2 (some (came + gn m)),s0.2):=by have:=tc1.gset (gs':=s0.1.set m.2.2 (some (came + gn m)));rw [map_set] at this;exact this
   have ntl:t≠tl:=Jw jx tc1.g (by intro z; cases z);have k2:∀ b o,H1 b=some o->b≠tl->upd H1 tl (.lst ((s0.1.map oV).set m.2.2 (.int (came + gn m)))) b=some o:=λb o e hb=>by rw [Qv hb]; exact e
   have f2:∀ b,upd H1 tl (.lst ((s0.1.map oV).set m.2.2 (.int (came + gn m)))) b=none->H1 b=none:=λb e=>by
    by_cases hb:b=tl
    ·rw [hb,Qk] at e; cases e
    ·rw [Qv hb] at e; exact e
   have je:=k2 _ _ jx ntl;have F2:=F1.keep (H':=upd H1 tl (.lst ((s0.1.map oV).set m.2.2 (.int (came + gn m))))) (λo e=>k2 _ _ e tc1.ne.symm);generalize upd H1 tl (.lst ((s0.1.map oV).set m.2.2 (.int (came + gn m))))=H2 at *;let ⟨ls,a1,a2,a3,a4⟩:=id tc2.ex;have a2':ls.length=n:=by rw [a2]; exact m2
   have hla:(ls.map V.ref)[m.1]? = some (.ref (ls[m.1]'(by lia))):=by simp [show m.1 < ls.length by lia]
   have hca:s0.2[m.1]? = some (s0.2.getD m.1 []):=by simp [getD,m2,b1]
   let ⟨us,u1,u2,u3⟩:=a4 m.1 (ls[m.1]'(by lia)) _ (by simp [show m.1 < ls.length by lia]) hca;have hcl:(s0.2.getD m.1 []).length<=N + i:=c1 _ (R9 hca);refine ⟨_,rfl,_,rfl,?_⟩;refine ixU je rfl ?_;refine ixW m.1 a1 hla ?_;refine ⟨_,rfl,Zk (by simp),λl3 H3 n3=>?_⟩;refine ⟨_,l3,_,_,rfl,rfl,n3.same _ _ u1,n3.at_,by rw [sizeLine_eq,length_map,u2]; show (s0.2.getD m.1 []).length + 1<=16777216; lia,λl4 H4 n4=>?_⟩;have S4:Qu H2 H4:=n3.same.trans n4.same;have tc4:=tc2.same S4;refine ⟨_,rfl,_,rfl,?_⟩;refine ixU (S4 _ _ je) rfl ?_;refine ⟨cl,_,_,m.2.2,rfl,rfl,S4 _ _ a1,?_,?_⟩
   ·unfold ixN;rw [if_pos "o",if_pos (by rw [length_map,a2']; lia)];simp
   have nl4a:l4≠tl:=(Qj (n3.same _ _ tc2.g) n4.none).symm;have nl4b:l4≠cl:=(Qj (n3.same _ _ a1) n4.none).symm;have hc4:Zw H4 l4 (s0.2.getD m.1 [] ++ [m]):=Zw.snoc (ts:=us) (t:=t) n4.at_ u2 (λj t' m' x1 x2=>S4 _ _ (u3 j t' m' x1 x2)) (S4 _ _ je);have tc5:=tc4.mset (S4 _ _ a1) (r:=m.2.2) "o" nl4a nl4b hc4;refine ⟨⟨_,_,_,_,rfl⟩,λb o e h1' h2'=>?_,λb e=>?_,tc5,?_,?_,?_,?_⟩
   ·rw [Qv h2'];exact S4 _ _ (k2 _ _ (k1 b o e h1' h2') h1')
   ·have hb:b≠cl:=λz=>by rw [z,Qk] at e; cases e
    rw [Qv hb] at e;exact f1 _ (f2 _ (S4.free e))
   ·intro c hc;have:=p8 c hc;lia
   ·simp [m1]
   ·simp [m2]
   ·refine ⟨ls.set m.2.2 l4,by rw [Qk,map_set],λa ha=>?_⟩;rcases A0c ha with z | z
    ·exact F2.at_ a1 a z
    ·rw [z];exact hF0 _ (f1 _ (f2 _ (n3.same.free n4.none)))
  | some th =>
  refine ⟨_,rfl,rfl,_,rfl,Bv ?_⟩;refine ⟨_,rfl,_,rfl,_,rfl,?_⟩;refine ixL (SqL.of hg1) (Qc i "o" gg) ?_;refine ⟨_,_,rfl,rfl,_,rfl,_,_,rfl,rfl,_,rfl,?_⟩;refine Fm (λhgt=>?_) (λhgt=>?_)
  ·have hgt':th < came + gn m:=Q7 hgt;have hbt:btO (s0.1.getD m.2.2 none) (came + gn m)=true:=by rw [hth]; exact O8 hgt'
   have er:[m].foldl (Ui gn) s0=(s0.1.set m.2.2 (some (came + gn m)),s0.2.set m.2.2 (s0.2.getD m.1 [] ++ [m])):=by show Ui gn s0 m=_;unfold Ui;rw [hcame];dsimp only;rw [if_pos hbt]
   have p8:=Fj (gn:=gn) (m:=m) c1;have erl:Ui gn s0 m=(s0.1.set m.2.2 (some (came + gn m)),s0.2.set m.2.2 (s0.2.getD m.1 [] ++ [m])):=er;rw [erl] at p8;rw [er];refine ⟨_,rfl,_,rfl,_,rfl,?_⟩;refine ixL (SqL.of hg1) (Qc i "o" gg) ?_;refine ⟨_,_,rfl,rfl,_,rfl,_,rfl,?_⟩;refine ixU jx rfl ?_;refine ⟨tl,_,_,m.2.2,rfl,rfl,tc1.g,?_,?_⟩
   ·unfold ixN;rw [if_pos "o",if_pos (by rw [length_map,m1]; lia)];simp
   have tc2:Ug (upd H1 tl (.lst ((s0.1.map oV).set m.2.2 (.int (came + gn m))))) tl cl (s0.1.set m.2.2 (some (came + gn m)),s0.2):=by have:=tc1.gset (gs':=s0.1.set m.2.2 (some (came + gn m)));rw [map_set] at this;exact this
   have ntl:t≠tl:=Jw jx tc1.g (by intro z; cases z);have k2:∀ b o,H1 b=some o->b≠tl->upd H1 tl (.lst ((s0.1.map oV).set m.2.2 (.int (came + gn m)))) b=some o:=λb o e hb=>by rw [Qv hb]; exact e
   have f2:∀ b,upd H1 tl (.lst ((s0.1.map oV).set m.2.2 (.int (came + gn m)))) b=none->H1 b=none:=λb e=>by
    by_cases hb:b=tl
    ·rw [hb,Qk] at e; cases e
    ·rw [Qv hb] at e; exact e
   have je:=k2 _ _ jx ntl;have F2:=F1.keep (H':=upd H1 tl (.lst ((s0.1.map oV).set m.2.2 (.int (came + gn m))))) (λo e=>k2 _ _ e tc1.ne.symm);generalize upd H1 tl (.lst ((s0.1.map oV).set m.2.2 (.int (came + gn m))))=H2 at *;let ⟨ls,a1,a2,a3,a4⟩:=id tc2.ex;have a2':ls.length=n:=by rw [a2]; exact m2
   have hla:(ls.map V.ref)[m.1]? = some (.ref (ls[m.1]'(by lia))):=by simp [show m.1 < ls.length by lia]
   have hca:s0.2[m.1]? = some (s0.2.getD m.1 []):=by simp [getD,m2,b1]
   let ⟨us,u1,u2,u3⟩:=a4 m.1 (ls[m.1]'(by lia)) _ (by simp [show m.1 < ls.length by lia]) hca;have hcl:(s0.2.getD m.1 []).length<=N + i:=c1 _ (R9 hca);refine ⟨_,rfl,_,rfl,?_⟩;refine ixU je rfl ?_;refine ixW m.1 a1 hla ?_;refine ⟨_,rfl,Zk (by simp),λl3 H3 n3=>?_⟩;refine ⟨_,l3,_,_,rfl,rfl,n3.same _ _ u1,n3.at_,by rw [sizeLine_eq,length_map,u2]; show (s0.2.getD m.1 []).length + 1<=16777216; lia,λl4 H4 n4=>?_⟩;have S4:Qu H2 H4:=n3.same.trans n4.same;have tc4:=tc2.same S4;refine ⟨_,rfl,_,rfl,?_⟩;refine ixU (S4 _ _ je) rfl ?_;refine ⟨cl,_,_,m.2.2,rfl,rfl,S4 _ _ a1,?_,?_⟩
   ·unfold ixN;rw [if_pos "o",if_pos (by rw [length_map,a2']; lia)];simp
   have nl4a:l4≠tl:=(Qj (n3.same _ _ tc2.g) n4.none).symm;have nl4b:l4≠cl:=(Qj (n3.same _ _ a1) n4.none).symm;have hc4:Zw H4 l4 (s0.2.getD m.1 [] ++ [m]):=Zw.snoc (ts:=us) (t:=t) n4.at_ u2 (λj t' m' x1 x2=>S4 _ _ (u3 j t' m' x1 x2)) (S4 _ _ je);have tc5:=tc4.mset (S4 _ _ a1) (r:=m.2.2) "o" nl4a nl4b hc4;refine ⟨⟨_,_,_,_,rfl⟩,λb o e h1' h2'=>?_,λb e=>?_,tc5,?_,?_,?_,?_⟩
   ·rw [Qv h2'];exact S4 _ _ (k2 _ _ (k1 b o e h1' h2') h1')
   ·have hb:b≠cl:=λz=>by rw [z,Qk] at e; cases e
    rw [Qv hb] at e;exact f1 _ (f2 _ (S4.free e))
   ·intro c hc;have:=p8 c hc;lia
   ·simp [m1]
   ·simp [m2]
   ·refine ⟨ls.set m.2.2 l4,by rw [Qk,map_set],λa ha=>?_⟩;rcases A0c ha with z | z
    ·exact F2.at_ a1 a z
    ·rw [z];exact hF0 _ (f1 _ (f2 _ (n3.same.free n4.none)))
  ·have hgt':¬ th < came + gn m:=λz=>hgt (O8 z);have er:[m].foldl (Ui gn) s0=s0:=by show Ui gn s0 m=_;unfold Ui;rw [hcame];dsimp only;rw [if_neg (by rw [hth]; exact λz=>hgt' (of_decide_eq_true z))]
   rw [er];exact ⟨⟨_,_,_,_,rfl⟩,k1,f1,tc1,λc hc=>by have:=c1 c hc; lia,m1,m2,F1⟩
 ·rintro σ H1 ⟨⟨o4,o5,o6,o7,rfl⟩,k1,f1,tc1,c1,m1,m2,F1⟩;rw [take_length] at tc1 c1;exact q _ k1 f1 tc1 F1 c1
theorem Oq:Def P w K mg base 8 "carry" [Y5,"starts"] (Qkz CH au Pb Zs "best_room.<locals>.<lambda>"):=by
 refine Z.a20.mq [Y5,"starts","totals",Y31,"hops",Y13,"turn"] λH vs Q E hr nD h=>?_;let ⟨p,sl,ak,aj,ao,way,start,rfl,hA,ok,hL,hsl,lst,q⟩:=h;refine ⟨_,(zcF (zcC (Qg 2 nD (Rz K Z.T.u6 %[1|0])) (zcC (Rq 3 nD ["start"] [none] (Vo K {1}) (Qe Qz)) (zcC (Qg 4 nD (Qd (Qzw Z) hr %[0|0])) (zcC (Rq 5 nD ["hop",Y5] [none,some 0] (Vo K {4}) (Te (Sf Z) Z.b7.cl {1} (hr.mono (by decide)) (Qq (Qb K {0} Qx) (Qq (Qb K {0} Qx) (Qq (Qb K {0} Qx) Qz))))) (zcL (Qw (Xt (Zr Z.T.u1 (Qq (Zx K Z.T.u0 %[1|0]) Qz)) (Ql 6 nD) (Qm (Yq (Qd (Qmx Z) hr %[4,5,2,3|0])))) (Qf (Zc %[2,3|0]))))))))),?_⟩;have lw:=ok.bok.w1;have lr:(start.map oV).length=aj.length:=by rw [length_map,lst]
 nofun;refine ⟨_,rfl,sl,_,rfl,.inl (SqL.of hsl),λtl H1 n1=>?_⟩;symm;refine ⟨⟨_,SqL.of (n1.same _ _ hsl)⟩,λcl hcl=>?_⟩;have ntc:tl≠cl:=Qj n1.at_ hcl;refine Xy (λi y H' => ∃ l,y=.ref l/\l≠cl/\H1 l=none/\H' l=some (.lst [])) (SqL.of (n1.same _ _ hsl)) (by rw [lr,sizeLine_eq]; lia) hcl (λi y H H' k ⟨l,e,ne,h0,h⟩=>⟨l,e,ne,h0,k l _ ne h⟩) ?_ ?_
 ·rintro i x H2 ys N hx s2 d2 hN;refine ⟨Zk (by simp),λl H3 n3=>?_⟩;exact hN _ _ n3.same ⟨l,rfl,(Qj d2 n3.none).symm,s2.free n3.none,n3.at_⟩
 rintro ys H2 s2 d2 ly r2;let ⟨ls,els,pls⟩:=Um (P:=λi l=>l≠cl/\H1 l=none/\H2 l=some (.lst [])) (λi y e=>by let ⟨l,e1,e2,e3,e4⟩:=r2 i y e;exact ⟨l,e1,e2,e3,e4⟩)
 subst els;have lls:ls.length=aj.length:=by rw [length_map,lr] at ly; exact ly
 have tc2:Ug H2 tl cl (Xk start):=by
  refine ⟨ntc,s2 _ _ n1.at_,ls,d2,by simp [Xk,lls,lst],λx hx=>?_,λi x c z1 z2=>?_⟩
  ·let ⟨i,hi,rfl⟩:=X3.mp hx;let ⟨e1,e2,_⟩:=pls i _ (R3 hi);exact ⟨(Qj n1.at_ e2).symm,e1⟩
  ·let ⟨e1,e2,e3⟩:=pls i x z1;have ec:c=[]:=by
    have hi:i < aj.length:=by rw [<- lls]; exact (N5.mp z1).1
    simp [Xk,show i < start.length by lia] at z2;exact z2
   subst ec;exact ⟨[],e3,rfl,λj t m z=>by simp at z⟩
 have S2:Qu H H2:=n1.same.trans s2;have F2:TCF (λa=>H a=none) H2 cl:=⟨ls,d2,λx hx=>by let ⟨i,hi,rfl⟩:=X3.mp hx;let ⟨_,e2,_⟩:=pls i _ (R3 hi);exact n1.same.free e2⟩
 have ftl:H tl=none:=n1.none;have fcl:H cl=none:=n1.same.free hcl;nofun;refine ⟨_,rfl,p,ak,aj,ao,way,rfl,hA.same S2,ok,hL.same S2,λhl aq H3 s3 so3 hL3 fhl hh3 good=>?_⟩;have S3:Qt H H3:=S2.b.trans s3;have SO3:Yt Pb H H3:=S2.o.trans so3;have tc3:=tc2.bf s3;have hA3:=hA.bf S3;let ⟨ts,t1,t2,t3⟩:=id hh3;have hgl:=good.len;symm;refine ⟨⟨_,SqL.of t1⟩,λgl hgl0=>?_⟩;refine Xy (λi y _ => ∃ m,aq[i]? = some m/\y=.int (gnF true aj way m)) (SqL.of t1) (by rw [length_map,t2,sizeLine_eq]; lia) hgl0 (λ_ _ _ _ _ h=>h) ?_ ?_
 ·rintro i x H4 ys N hx s4 d4 hN;let ⟨t,ht,rfl⟩:=Yw hx;have hi:i < aq.length:=by rw [<- t2]; exact (N5.mp ht).1
  have hm:aq[i]? = some aq[i]:=by simp [hi]
  have htt:=s4 _ _ (t3 i t _ ht hm);let ⟨m1,m2,m3,m4,m5⟩:=good.mem _ (M9 hi);refine Mm (hA3.same s4) ok m1 m4 m2 (λ_ k=>⟨_,rfl,k⟩) (λK2 k=>?_) (hN _ _ (Qu.refl _) ⟨_,hm,rfl⟩);refine ⟨_,rfl,ixU htt rfl ?_⟩;refine ⟨_,rfl,ixU htt rfl ?_⟩;refine ⟨_,rfl,ixU htt rfl ?_⟩;exact k
 rintro ys H4 s4 d4 ly4 r4;have ey:ys=(aq.map (gnF true aj way)).map V.int:=Vu (by rw [ly4,length_map,length_map,t2]) λi y e=>by let ⟨m,h1,h2⟩:=r4 i y e;exact ⟨_,by rw [getElem?_map,h1]; rfl,h2⟩
 subst ey;have S4:Qt H H4:=S3.trans s4.b;have SO4:Yt Pb H H4:=SO3.trans s4.o;have tc4:=tc3.same s4;have F4:TCF (λa=>H a=none) H4 cl:=F2.keep λo e=>by rw [d2] at e;cases e;exact s4 _ _ (s3.to _ _ d2 rfl)
 have hh4:=hh3.same s4;have hL4:=hL3.same s4;have hsl4:=S4.to _ _ hsl rfl;have nhl1:hl≠tl:=(Qj tc2.g fhl).symm;have nhl2:hl≠cl:=(Qj d2 fhl).symm;have ngl1:gl≠tl:=(Qj tc3.g hgl0).symm;have ngl2:gl≠cl:=by let ⟨ls3,e1,_⟩:=tc3.ex;exact (Qj e1 hgl0).symm
 have hlt:∀ m∈aq,m.1 < aj.length/\m.2.2 < aj.length:=λm hm=>⟨(good.mem m hm).1,(good.mem m hm).2.1⟩
 have hrl:∀ k,(Ua (gnF true aj way) aq (Xk start) k).1.length=aj.length/\(Ua (gnF true aj way) aq (Xk start) k).2.length=aj.length:=λk=>⟨(Tv hlt lst k).l1,(Tv hlt lst k).l2⟩
 nofun;refine ⟨_,rfl,sl,_,rfl,.inl (SqL.of hsl4),?_⟩;rw [lr];walk_at "r";refine Zf (λi σ H'=>(∃ o6,σ=[rf p,rf sl,rf tl,rf cl,rf hl,rf gl,o6])/\(∀ b o,H4 b=some o->b≠tl->b≠cl->H' b=some o)/\(∀ b,H' b=none->H4 b=none)/\TCF (λa=>H a=none) H' cl/\Ug H' tl cl (Ua (gnF true aj way) aq (Xk start) i)/\∀ c∈(Ua (gnF true aj way) aq (Xk start) i).2,c.length<=i * 100)
  ⟨⟨_,rfl⟩,(λ_ _ e _ _=>e),(λ_ e=>e),F4,tc4,(λc hc=>by
   have:c=[]:=by let ⟨_,_,e⟩:=O3.mp (show c∈start.map (λ_ => []) from hc);exact e.symm
   rw [this]; simp)⟩ ?_ ?_
 ·nofun;rintro i σ H5 hi ⟨⟨o6,rfl⟩,k5,f5,F5,tc5,c5⟩;have hh5:Zw H5 hl aq:=by let ⟨ts4,u1,u2,u3⟩:=hh4;refine ⟨ts4,k5 _ _ u1 nhl1 nhl2,u2,λj t m z1 z2=>?_⟩;have:=u3 j t m z1 z2;refine k5 _ _ this (Jw this tc4.g (by intro z; cases z)) ?_;let ⟨ls4,e1,_⟩:=tc4.ex;exact Jw this e1 (by intro z; cases z)
  refine ⟨_,rfl,_,rfl,_,rfl,_,rfl,hl,gl,tl,cl,aq,gnF true aj way,aj.length,i * 100,_,(λa=>H a=none),rfl,hh5,k5 _ _ d4 ngl1 ngl2,tc5,F5,(λa e=>S4.th _ (f5 _ e)),nhl1,nhl2,ngl1,ngl2,hlt,(hrl i).1,(hrl i).2,hgl,c5,"o",λH6 k6 f6 tc6 F6 c6=>?_⟩;nofun;refine ⟨⟨_,rfl⟩,λb o e h1 h2=>k6 _ _ (k5 b o e h1 h2) h1 h2,λb e=>f5 _ (f6 _ e),F6,?_,?_⟩
  ·rw [Jf]; exact tc6
  ·rw [Jf];intro c hc;have:=c6 c hc;lia
 ·rintro σ H5 ⟨⟨o6,rfl⟩,k5,f5,F5,tc5,c5⟩;refine ⟨_,rfl,_,rfl,Zk (by simp),λt H6 n6=>?_⟩;have kk:∀ b o,H b=some o->b≠Pb->H6 b=some o:=λb o e hb=>n6.same _ _ (k5 _ _ (SO4 _ _ e hb) (Qj e ftl) (Qj e fcl));refine q t tl cl aq _ H6 ⟨λb o e z=>n6.same _ _ (k5 _ _ (S4.to _ _ e z) (Qj e ftl) (Qj e fcl)),λb e=>S4.th _ (f5 _ (n6.same.free e))⟩ kk ?_ ftl fcl (S4.th _ (f5 _ n6.none)) (F5.keep λo e=>n6.same _ _ e) (λc hc=>by have:=c5 c hc; lia) ⟨n6.at_,tc5.same n6.same,good,rfl⟩;refine Qa.same ?_ n6.same;have k:∀ c o,H4 c=some o->(∀ zs,o≠.lst zs)->H5 c=some o:=λc o e hne=>by refine k5 _ _ e (Jw e tc4.g (hne _)) ?_;let ⟨ls4,e1,_⟩:=tc4.ex;exact Jw e e1 (hne _)
  rcases hL4 with h | ⟨c',oc,vs,t',h1,h2,h3⟩
  ·exact .inl (k _ _ h (by intro zs z; cases z))
  ·exact .inr ⟨c',oc,vs,t',k _ _ h1 (by intro zs z; cases z),k _ _ h2 (by intro zs z; cases z),h3⟩
def Fu:Def P w K mg base 9 "greatest" [Y5] (Oe true CH au Pb Zs "best_room.<locals>.<lambda>"):=by
 refine Z.a21.mq [Y5] λH vs Q E hr nD h=>?_;let ⟨p,ak,aj,ao,way,rfl,hA,ok,f9,fj,hL,q⟩:=h;refine ⟨_,(Qf (Qd (Oq Z) hr (Qq {0} (Qq (Zt [Y7] [none] (Zr Z.T.u1 (Qq (Qo (Yh Z) Z.HC.cl (Yb K {0}) (hr.mono (by decide))) Qz)) Qx) Qz)))),?_⟩;have AC:Qx6 K au:=Z.b7.a;have lw:=ok.bok.w1;let ⟨dx,hp,wa,g1,g2,g3⟩:=hA.ex;let ⟨dh,bb,ww,h1,h2,h3⟩:=g2.ex;refine ⟨_,rfl,_,rfl,p,_,dx,_,_,rfl,g1,AC.cl,AC.nH,Yf _ _,hp,dh,_,rfl,h1,Uo _ _ _,hp,ak,aj,ao,rfl,g2,?_⟩;walk_at "d";refine Zl (λ_=>.int 0) sml hD (λi hi H1 N s1 hN=>hN _ (Qu.refl _)) λH1 s1 d1=>?_;have d1':H1 D=some (.lst ((replicate aj.length (some 0)).map oV)):=by
  rw [d1]
  congr 2
  rw [map_replicate];exact eq_replicate_iff.mpr ⟨by simp,λb hb=>by let ⟨_,_,rfl⟩:=O3.mp hb;rfl⟩
 refine ⟨p,D,ak,aj,ao,way,replicate aj.length (some 0),rfl,hA.same s1,ok,hL.same s1,d1',by simp,λt tl cl aq st H2 s2 so2 hL2 f1 f2 f3 ff cb g=>?_⟩;let ⟨gg,e2⟩:=g.great ok f9 fj;exact q t tl cl aq _ H2 (s1.b.trans s2) (s1.o.trans so2) hL2 (s1.free f1) (s1.free f2) (s1.free f3) (ff.imp λa e=>s1.free e) (by rw [<- e2]; exact cb) gg
theorem Gj:Def P w K mg base 1 "_law_mixed" ["_law_cell",Y21] Qpx:=by refine Z.a22.mq ["_law_cell",Y21,"_law_m"] @λ_ _ A _ _ H vs Q E hr nD h=>?_;let ⟨c,k,rfl,h1,h2,q⟩:=h;refine ⟨_,(Qw (Qg 2 nD (Qy Ze (Qy Qi (Qy Xm (Qy Ze {0} Qx) Qx) (Qy Xm Qx (Qy Qi (Qy Qi Qx {1}) {1}))) Qx)) (Qf (Qy Ze (Qy Qi {2} {2}) Qx))),?_⟩;have b1:=Qd5 (a:=2 * k) (b:=k) (A:=2000000) (B:=1000000) "o" "o" "o" "o";symm;exact q _ (W5 _ (by decide)) (Z2 _ (by decide))
def Bd:Def P w K mg base 1 "_law_cell_at" [Y9,Y21] (Ql7 K):=by
 refine Z.a23.mq [Y9,Y21] λH vs Q E hr nD h=>?_;let ⟨a,ns,k,rfl,hS,h0,q⟩:=h;refine ⟨_,(Qw (Zz (q_t Ra {1} (Zx K Z.T.u0 %[0|0])) (Qf (Qb K {0} {1})) Qh) (Qf Qx)),?_⟩;symm;refine ⟨a,_,rfl,.inl hS,?_⟩;symm;refine Fm (λe=>?_) (λ_=>q 0);symm;have hk:k < ns.length:=by have:=Q7 e;simpa using this
 exact Ac hS h0 hk λz _=>q z
theorem Qo6:Def P w K mg base 2 "_law_beds" [Y23,"_law_many"] Ql8:=by
 refine Z.a24.mq [Y23,"_law_many",Y1,Y21] @λf _ _ _ _ H vs Q E hr nD h=>?_;let ⟨f,m,rfl,m0,m1,q⟩:=h;refine ⟨_,(zcF (zcC (Qg 2 nD (Qe Qz)) (zcL (Qw (Xt (Zr Z.T.u1 %[1|0]) (Ql 3 nD) (Qm (Yq (Kw K {2} (Qq (Qb K (Qe (Qq Qx (Qq Qx (Qq Qx (Qq Qx (Qq Qx (Qq Qx (Qq Qx (Qq Qx Qz))))))))) (Qy Ze (Qd (Gj Z) hr (Qq {0} (Qq (Qy Xm Qx {3}) Qz))) Qx)) Qz))))) (Qf {2}))))),?_⟩;symm;refine λl H1 n1=>?_;nofun;refine ⟨_,rfl,_,rfl,"o","o",?_⟩;refine Zf (λi σ H' => ∃ (bs:K3) (o:Option V),σ=[iv f,iv m,rf l,o]/\H' l=some (.lst (bs.map V.int))/\bs.length=i/\(∀ b∈bs,1<=b/\b<=4)/\Qu H H') ⟨[],none,rfl,n1.at_,rfl,(λb hb=>by cases hb),n1.same⟩ ?_ ?_
 ·nofun;rintro i σ H2 hi ⟨bs,o,rfl,hl,fu,hb,s2⟩;refine ⟨_,rfl,.inl ⟨rfl,_,SqL.of hl⟩,?_⟩;symm;refine λt H3 n3=>?_;symm;refine ⟨f,_,rfl,"o","o",λz z0 z1=>?_⟩;symm;refine Ac (ns:=[1,1,2,1,3,1,2,4]) (SqL.of n3.at_) (by show (0:Int)<=z % 8; lia) (by show z % 8 < 8; lia) λx hx=>?_;have hx':1<=x/\x<=4:=by simp only [mem_cons,not_mem_nil,or_false] at hx;lia
  refine ⟨l,_,_,rfl,rfl,n3.same _ _ hl,by rw [sizeLine_eq]; simp; lia,?_⟩;nofun;refine ⟨bs ++ [x],_,rfl,by rw [Qk]; simp,by simp [fu],λb hb'=>?_,λc u e=>?_⟩
  ·rcases O5.mp hb' with h | h
   ·exact hb b h
   ·have:b=x:=by simpa using h
    rw [this]; exact hx'
  ·rw [Qv (Qj e n1.none)];exact n3.same _ _ (s2 _ _ e)
 ·rintro σ H2 ⟨bs,o,rfl,hl,fu,hb,s2⟩;symm;exact q l bs H2 ⟨s2,n1.none,hl⟩ "o" hb
theorem Qmz:Def P w K mg base 2 "_law_worths" [Y9,Y23,Y40,Y32] (Qwk K):=by
 refine Z.a25.mq [Y9,Y23,Y40,Y32,"_law_sums",Y21,"_law_cell",Y42,Y0,Y11,Y15] @λf _ A _ _ H vs Q E hr nD h=>?_;let ⟨a,ns,f,p,r,rfl,hS,fu,p0,p1,r0,r1,q⟩:=h;refine ⟨_,(zcF (zcC (Qg 4 nD (Qe Qz)) (zcC (Xt (Zr Z.T.u1 (Qq (Qy Qi {2} {3}) Qz)) (Ql 5 nD) (Qm (Yq (Kw K {4} (Qq (Qd (Gj Z) hr (Qq {1} (Qq (Qy Xm Qx {5}) Qz))) Qz))))) (zcC (Xt (Qfv (K:=K) rfl rfl Z.T.u2 (Qq (Uj (Tj (K:=K) rfl) {0} (Vk Qx) Ry) Qz)) (Wu (K:=K) (n:=2) rfl rfl (Zy (Ql 5 nD) (Zy (Ql 6 nD) Wy))) (zcF (zcC (Qg 7 nD (Qy Ze {5} (Zx K Z.T.u0 %[4|0]))) (zc1 (Vn (Qy Xm (Qy Ze (Qy Qi (Qb K {4} {7}) Qx) (Qy Pl Qx Qx)) (Qy Ze {6} (Qy Pl Qx Qx))) (Dj {4} {7} Wr)))))) (zcC (Qg 8 nD (Qe Qz)) (zcL (Qw (Xt (Zr Z.T.u1 %[2|0]) (Ql 9 nD) (zcF (zcC (Qg 10 nD (Uj (Tj (K:=K) rfl) {4} (Vk (Qy Qi {9} {3})) (Vk (Qy Xm (Qy Qi {9} {3}) {3})))) (zcC (zcJ (Zz (q_t Jg (Qy Ze {1} Qx) Qx) (Qm (Rq 10 nD [Y20] [none] (Vo K {10}) (Qy Ze {0} Qx))) (Qm (Zz (q_t Jg (Qy Ze {1} Qx) Qx) (Qm (Rq 10 nD [Y20] [none] (Vo K {10}) (Qy Zv (Qy Ze {0} Qx) Qx))) (Qm (Zz (q_t Jg (Qy Ze {1} Qx) Qx) (Qm (Rq 10 nD [Y20] [none] (Vo K {10}) (Qy Xm (Qy Zv (Qy Ze {0} (Qy Zv (Qy Qi Qx (Qy Pl Qx Qx)) Qx)) (Qy Pl Qx Qx)) Qx))) (Qm (Rq 10 nD [Y20] [none] (Vo K {10}) (Qy Qi (Qy Ze {0} Qx) Qx))))))))) (zc1 (Yq (Kw K {8} %[10|0]))))))) (Qf {8})))))))),?_⟩;have hpr:=Qd5 (a:=p) (b:=r) (A:=10) (B:=10) "o" "o" "o" "o";have hpr0:0 < p * r:=Int.mul_pos "o" "o";symm;refine λl H1 n1=>?_;symm;refine Zf (λi σ H' => ∃ (bs:K3) (o5 o6 o7 o8 o9 o10:Option V),σ=[rf a,iv f,iv p,iv r,rf l,o5,o6,o7,o8,o9,o10]/\H' l=some (.lst (bs.map V.int))/\bs.length=i/\(∀ b∈bs,0<=b/\b < 10 ^ 42)/\Qu H H') ⟨[],none,none,none,none,none,none,rfl,n1.at_,rfl,(λb hb=>by cases hb),n1.same⟩ ?_ ?_
 ·nofun;rintro i σ H2 hi ⟨bs,o5,o6,o7,o8,o9,o10,rfl,hl,fu,hb,s2⟩;refine ⟨_,rfl,.inl ⟨rfl,_,SqL.of hl⟩,?_⟩;symm;refine ⟨f,_,rfl,"o","o",λz z0 z1=>?_⟩;refine ⟨l,_,_,rfl,rfl,hl,by rw [sizeLine_eq]; simp; lia,?_⟩;nofun;refine ⟨bs ++ [z],_,_,_,_,_,_,rfl,by rw [Qk]; simp,by simp [fu],λb hb'=>?_,λc u e=>?_⟩
  ·rcases O5.mp hb' with h | h
   ·exact hb b h
   ·have:b=z:=by simpa using h
    rw [this]; lia
  ·rw [Qv (Qj e n1.none)];exact s2 _ _ e
 rintro σ H2 ⟨bs,o5,o6,o7,o8,o9,o10,rfl,hl,hlen',hb,s2⟩;nofun;refine ⟨_,rfl,_,rfl,a,_,rfl,s2.seq hS,λc1 H3 n3=>?_⟩;let ⟨ms,em,lm⟩:=Qm5 ns (some 1) none;rw [em] at n3;have hl3:=n3.same _ _ hl;have S3:Qu H H3:=s2.trans n3.same;have nlc:c1≠l:=(Qj hl n3.none).symm;refine ⟨c1,rfl,⟨_,SqL.of n3.at_⟩,?_⟩;refine Qm1 (xs:=ms.map V.int) (λi σ H' => ∃ (bs':K3) (o5 o6 o7 o8 o9 o10:Option V),σ=[rf a,iv f,iv p,iv r,rf l,o5,o6,o7,o8,o9,o10]/\H' l=some (.lst (bs'.map V.int))/\bs'.length=bs.length/\(∀ b∈bs',0<=b/\b < 10 ^ 42)/\Qu H H'/\H' c1=some (.lst (ms.map V.int)))
  ⟨bs,_,_,_,_,_,_,rfl,hl3,rfl,hb,S3,n3.at_⟩ (λi σ H' _ ⟨_,_,_,_,_,_,_,_,_,_,_,_,h⟩=>SqL.of h) ?_ ?_
 ·rintro i x σ H4 T4 hx ⟨bs',o5,o6,o7,o8,o9,o10,rfl,hl4,hlen4,hb4,s4,hc4⟩ hT4;let ⟨z,hz,rfl⟩:=int_at hx;have hi:i < ms.length:=(N5.mp hz).1;refine ⟨T4,[.int i,.int z],rfl,SqT.of Qk,rfl,_,_,rfl,_,_,rfl,rfl,?_⟩;have s5:Qu H4 (upd H4 T4 (.tup [.int i,.int z])):=Qu.upd hT4;generalize upd H4 T4 (.tup [.int i,.int z])=H5 at *;have hl5:=s5 _ _ hl4;have hbl:0 < bs'.length:=by lia
  symm;refine ⟨l,_,rfl,.inl (SqL.of hl5),?_⟩;refine ⟨_,_,rfl,rfl,by simp; lia,?_⟩;have e1:(i:Int) % ((bs'.map V.int).length:Int)=((i % bs'.length:Nat):Int):=by simp
  nofun;dsimp only;rw [e1];have hj:i % bs'.length < bs'.length:=Nat.mod_lt _ hbl;generalize i % bs'.length=j at *;have gj:(bs'.map V.int)[j]? = some (.int bs'[j]):=by simp [hj]
  let ⟨bj0,bj1⟩:=hb4 _ (M9 hj);have gz:=Z2 z (show (0:Int) < 10 ^ Int.toNat 41 by decide);have gz0:=W5 z (show (10:Int) ^ Int.toNat 41≠0 by decide);have gy:=Z2 (bs'[j] * 31) (show (0:Int) < 10 ^ Int.toNat 41 by decide);have gy0:=W5 (bs'[j] * 31) (show (10:Int) ^ Int.toNat 41≠0 by decide);have ge:(10:Int) ^ Int.toNat 41=10 ^ 41:=rfl;symm;refine ixW j hl5 gj ?_;symm;refine ⟨l,_,_,j,rfl,rfl,hl5,?_,?_⟩
  ·unfold ixN;rw [if_pos "o",if_pos (by simp; lia)];simp
  refine ⟨bs'.set j (bs'[j] * 31 % 10 ^ Int.toNat 41 + z % 10 ^ Int.toNat 41),_,_,_,_,_,_,rfl,by rw [Qk,map_set],by simp [hlen4],λb hb'=>?_,λc u e=>?_,?_⟩
  ·rcases A0c hb' with h | h
   ·exact hb4 b h
   ·rw [h]; lia
  ·rw [Qv (Qj e n1.none)];exact s5 _ _ (s4 _ _ e)
  ·rw [Qv nlc];exact s5 _ _ hc4
 rintro σ H4 ⟨bs',o5',o6',o7',o8',o9',o10',rfl,hl4,hlen4,hb4,s4,hc4⟩;symm;refine λW H5 n5=>?_;symm;have S5:Qu H H5:=s4.trans n5.same;have hl5:=n5.same _ _ hl4;have fW:H W=none:=s4.free n5.none;have nlW:l≠W:=Qj hl4 n5.none;refine Zf (λi σ H' => ∃ (ws:K6) (rows:J5) (o5 o6 o7 o9 o10:Option V),σ=[rf a,iv f,iv p,iv r,rf l,o5,o6,o7,rf W,o9,o10]/\H' W=some (.lst (ws.map V.ref))/\rows.length=i/\Rows H' ws rows/\(∀ w∈ws,w≠W)/\(∀ row∈rows,(row.length:Int)=r)/\(∀ row∈rows,∀ x∈row,-(10 ^ 40) < x/\x < 10 ^ 40)/\Qu H H'/\H' l=some (.lst (bs'.map V.int)))
  ⟨[],[],_,_,_,_,_,rfl,n5.at_,rfl,⟨rfl,λi a row h=>by simp at h⟩,(λw h=>by cases h),(λw h=>by cases h),(λw h=>by cases h),S5,hl5⟩ ?_ ?_
 ·nofun;rintro i σ H6 hi ⟨ws,rows,o5,o6,o7,o9,o10,rfl,hW,hrl,hR,hne,hr1,hr2,s6,hl6⟩;have hir:((i:Int) + 1) * r<=p * r:=U0 "o" "o";have hir0:0<=(i:Int) * r:=A0r "o" "o";have hir1:((i:Int) + 1) * r=(i:Int) * r + r:=by rw [Int.add_mul,Int.one_mul]
  have hbig:(i:Int) * r<=100:=by lia
  have e0:(0 + (i:Int)) * r=((i * r.toNat:Nat):Int):=by
   rw [Int.zero_add,Int.natCast_mul]
   congr 1
   lia
  have e1:((i * r.toNat:Nat):Int) + r=((i * r.toNat + r.toNat:Nat):Int):=by
   rw [Int.natCast_add]
   congr 1
   lia
  have e2:i * r.toNat + r.toNat<=bs'.length:=by
   have:((i * r.toNat + r.toNat:Nat):Int)<=(bs'.length:Int):=by rw [<- e1,<- e0,Int.zero_add];lia
   exact Int.ofNat_le.mp this
  symm;rw [e0,e1];refine ⟨l,_,rfl,SqL.of hl6,λc H7 n7=>?_⟩;nofun;rw [Ay bs' (Nat.le_add_right _ _) e2] at n7;have hcl:((bs'.drop (i * r.toNat)).take (i * r.toNat + r.toNat - i * r.toNat)).length=r.toNat:=by rw [length_take,length_drop];lia
  have hcb:∀ z∈(bs'.drop (i * r.toNat)).take (i * r.toNat + r.toNat - i * r.toNat),0<=z/\z < 10 ^ 42:=λz hz=>hb4 z (mem_of_mem_drop (mem_of_mem_take hz));generalize (bs'.drop (i * r.toNat)).take (i * r.toNat + r.toNat - i * r.toNat)=cs at *;have hW7:=n7.same _ _ hW;have S7:Qu H H7:=s6.trans n7.same;have key:∀ (g:Int->Int) (D:G5) (H8:Hp),(∀ z,0<=z->-(10 ^ 40) < g z/\g z < 10 ^ 40)->H7 D=none->Qu H7 H8->H8 D=some (.lst ((cs.map g).map V.int)) ->
    ∃ (c':G5) (row:K3),D=c'/\H8 c'=some (.lst (row.map V.int))/\(row.length:Int)=r/\(∀ x∈row,-(10 ^ 40) < x/\x < 10 ^ 40)/\c'≠W/\Qu H7 H8:=λg D H8 hg hD s8 h8 =>
   ⟨D,cs.map g,rfl,h8,by rw [length_map,hcl]; lia,λx hx=>by let ⟨z,hz,rfl⟩:=O3.mp hx;exact hg z (hcb z hz).1,(Qj hW7 hD).symm,s8⟩
  refine ⟨λσ' H' => ∃ (c':G5) (row:K3),σ'=[rf a,iv f,iv p,iv r,rf l,o5,o6,o7,rf W,iv (0 + (i:Int)),rf c']/\H' c'=some (.lst (row.map V.int))/\(row.length:Int)=r/\(∀ x∈row,-(10 ^ 40) < x/\x < 10 ^ 40)/\c'≠W/\Qu H7 H',?_,?_⟩
  ·symm;refine Fm (λ_=>?_) (λ_=>?_)
   ·refine ⟨_,rfl,c,rfl,⟨_,SqL.of n7.at_⟩,λD hD=>?_⟩;refine Ke cs (λz=>z % 3) (SqL.of n7.at_) (by rw [hcl,sizeLine_eq]; lia) hD (λz hz H8 N s8 hN=>?_) λH8 s8 h8=>?_
    ·symm;exact hN
    ·let ⟨c',row,rfl,k1,k2,k3,k4,k5⟩:=key _ D H8 (λz hz=>by lia) hD s8 h8;nofun;exact ⟨D,row,rfl,k1,k2,k3,k4,k5⟩
   ·symm;refine Fm (λ_=>?_) (λ_=>?_)
    ·refine ⟨_,rfl,c,rfl,⟨_,SqL.of n7.at_⟩,λD hD=>?_⟩;refine Ke cs (λz=>z % 2001 - 500) (SqL.of n7.at_) (by rw [hcl,sizeLine_eq]; lia) hD (λz hz H8 N s8 hN=>?_) λH8 s8 h8=>?_
     ·symm;exact hN
     ·let ⟨c',row,rfl,k1,k2,k3,k4,k5⟩:=key _ D H8 (λz hz=>by lia) hD s8 h8;nofun;exact ⟨D,row,rfl,k1,k2,k3,k4,k5⟩
    ·symm;refine Fm (λ_=>?_) (λ_=>?_)
     ·refine ⟨_,rfl,c,rfl,⟨_,SqL.of n7.at_⟩,λD hD=>?_⟩;refine Ke cs (λz=>z % (2 * 10 ^ Int.toNat 40 - 1) - 10 ^ Int.toNat 40 + 1) (SqL.of n7.at_) (by rw [hcl,sizeLine_eq]; lia) hD (λz hz H8 N s8 hN=>?_) λH8 s8 h8=>?_
      ·symm;exact hN
      ·let ⟨c',row,rfl,k1,k2,k3,k4,k5⟩:=key _ D H8 (λz hz=>by have g1:=W5 z (show (2 * 10 ^ Int.toNat 40 - 1:Int)≠0 by decide);have g2:=Z2 z (show (0:Int) < 2 * 10 ^ Int.toNat 40 - 1 by decide);have ge:(10:Int) ^ Int.toNat 40=10 ^ 40:=rfl;rw [ge] at g1 g2 ⊢;lia) hD s8 h8
       nofun;exact ⟨D,row,rfl,k1,k2,k3,k4,k5⟩
     ·refine ⟨_,rfl,c,rfl,⟨_,SqL.of n7.at_⟩,λD hD=>?_⟩;refine Ke cs (λz=>z % 9 * 100) (SqL.of n7.at_) (by rw [hcl,sizeLine_eq]; lia) hD (λz hz H8 N s8 hN=>?_) λH8 s8 h8=>?_
      ·symm;exact hN
      ·let ⟨c',row,rfl,k1,k2,k3,k4,k5⟩:=key _ D H8 (λz hz=>by lia) hD s8 h8;nofun;exact ⟨D,row,rfl,k1,k2,k3,k4,k5⟩
  ·rintro σ' H8 ⟨c',row,rfl,h8,l8,b8,n8,s8⟩;have hW8:=s8 _ _ hW7;have hwl:ws.length=i:=by rw [hR.1,hrl]
   nofun;refine ⟨_,rfl,.inl ⟨rfl,_,SqL.of hW8⟩,_,rfl,W,_,_,rfl,rfl,hW8,by rw [sizeLine_eq,length_map]; lia,?_⟩;nofun;refine ⟨ws ++ [c'],rows ++ [row],_,_,_,_,_,rfl,by rw [Qk]; simp,by simp [hrl],hR.snoc (λa ha o e=>?_) ?_,λw hw=>?_,λw hw=>?_,λw hw=>?_,λb o e=>?_,?_⟩
   ·rw [Qv (hne a ha)];exact s8 _ _ (n7.same _ _ e)
   ·rw [Qv n8];exact h8
   ·rcases O5.mp hw with h | h
    ·exact hne w h
    ·have:w=c':=by simpa using h
     rw [this]; exact n8
   ·rcases O5.mp hw with h | h
    ·exact hr1 w h
    ·have:w=row:=by simpa using h
     rw [this]; exact l8
   ·rcases O5.mp hw with h | h
    ·exact hr2 w h
    ·have:w=row:=by simpa using h
     rw [this]; exact b8
   ·rw [Qv (Qj e fW)];exact s8 _ _ (S7 _ _ e)
   ·rw [Qv nlW];exact s8 _ _ (n7.same _ _ hl6)
 ·rintro σ H6 ⟨ws,rows,o5,o6,o7,o9,o10,rfl,hW,hrl,hR,hne,hr1,hr2,s6,hl6⟩;symm;exact q W rows H6 s6 ⟨ws,hW,hR⟩ "o" hr1 hr2
theorem Qs5:Def P w K mg base 3 "_law_house" [Y9,"_law_most_people","_law_most_rooms"] (Qf1 K):=by
 refine Z.a26.mq [Y9,"_law_most_people","_law_most_rooms",Y23,Y1,Y40,Y0,Y10] λH vs Q E hr nD h=>?_;let ⟨a,ns,mp,mr,rfl,hS,fu,p0,p1,r0,r1,q⟩:=h;refine ⟨_,(zcF (zcC (Qg 3 nD (Qd (Gj Z) hr (Qq (Qd (Bd Z) hr (Qq {0} (Qq Qx Qz))) (Qq Qx Qz)))) (zcC (Qg 4 nD (Qd (Qo6 Z) hr (Qq {3} (Qq (Qy Xm Qx (Qy Ze (Qy Xo {3} Qx) {2})) Qz)))) (zcC (Qg 5 nD (Qy Xm Qx (Qy Ze (Qy Xo {3} Qx) (Qr (Lc rfl) (by rfl) Z.T.u8 Ja (Qq {1} (Qq (Qr (Xu (K:=K) rfl rfl) (by rfl) Z.T.u10 Xg %[4|0]) Qz)))))) (zcC (Qg 6 nD (Qd (Qmz Z) hr (Qq {0} (Qq {3} (Qq {5} (Qq (Zx K Z.T.u0 %[4|0]) Qz)))))) (zcC (Qg 7 nD (Qy Ze (Qy Xo {3} Qx) Qx)) (zcC (zcJ (Zz (q_t Jg (Qy Ze (Qy Xo {3} Qx) Qx) Qx) (Qm (Qg 7 nD (Qy Xm (Qy Zv (Qy Ze (Qd (Bd Z) hr (Qq {0} (Qq Qx Qz))) (Qy Zv (Qy Qi Qx (Qy Pl Qx Qx)) Qx)) (Qy Pl Qx Qx)) Qx))) Qh)) (zcL (Qf (Zc %[4,6,7|0])))))))))),?_⟩;symm;refine ⟨a,ns,_,rfl,hS,by decide,λz0=>?_⟩;symm;refine ⟨z0,_,rfl,by decide,by decide,λm m0 m1=>?_⟩;symm;have g1:=W5 (m / 4) (show mr≠0 by lia);have g2:=Z2 (m / 4) (show 0 < mr by lia);refine ⟨m,_,rfl,"o","o",λb bs H1 n1 hbl hbb=>?_⟩;have hb1:1<=bs.length:=by lia
 have hs1:=Qa3 (bs:=bs) λx hx=>(hbb x hx).1;have hs2:=Qa2 (bs:=bs) (m:=4) λx hx=>(hbb x hx).2;symm;refine ⟨b,bs,rfl,SqL.of n1.at_,?_⟩;refine ⟨_,_,rfl,?_⟩;have kj:1<=(if bs.sum < mp then bs.sum else mp)/\(if bs.sum < mp then bs.sum else mp)<=mp/\(if bs.sum < mp then bs.sum else mp)<=bs.sum:=by split <;> lia
 generalize (if bs.sum < mp then bs.sum else mp)=mn at *;have g3:=W5 (m / 40) (show mn≠0 by lia);have g4:=Z2 (m / 40) (show 0 < mn by lia);symm;refine ⟨b,_,rfl,.inl (SqL.of n1.at_),?_⟩;rw [length_map];refine ⟨a,ns,m,_,_,rfl,n1.same.seq hS,fu,"o","o","o","o",λw rows H2 s2 hM hrl hr1 hr2=>?_⟩;symm;have S2:Qu H H2:=n1.same.trans s2;refine ⟨λσ' H'=>H'=H2/\∃ ao:Int,σ'=[rf a,iv mp,iv mr,iv m,rf b,iv (1 + m / 40 % mn),rf w,iv ao]/\-(10 ^ 40) < ao/\ao < 10 ^ 40,?_,?_⟩
 ·symm;refine Fm (λ_=>?_) (λ_=>?_)
  ·symm;refine ⟨a,ns,_,rfl,S2.seq hS,by decide,λz=>?_⟩;have g5:=W5 z (show (2 * 10 ^ Int.toNat 40 - 1:Int)≠0 by decide);have g6:=Z2 z (show (0:Int) < 2 * 10 ^ Int.toNat 40 - 1 by decide);have ge:(10:Int) ^ Int.toNat 40=10 ^ 40:=rfl;symm;rw [ge] at g5 g6;show z % (2 * 10 ^ Int.toNat 40 - 1) - 10 ^ Int.toNat 40 + 1 < 10 ^ 40;rw [ge];lia
  ·nofun;exact ⟨rfl,_,rfl,"o","o"⟩
 ·rintro σ' H' ⟨rfl,ao,rfl,e1,e2⟩;symm;refine λt H3 n3=>?_;refine q t b w bs rows ao H3 (S2.trans n3.same) n3.at_ (n3.same _ _ (s2 _ _ n1.at_)) (hM.same n3.same) ⟨hb1,"o",hbb,"o","o","o",λrow hr=>?_,hr2,e1,e2⟩;have:=hr1 row hr;lia
theorem Qs4:Def P w K mg base 6 "is_hop" [Y5,"hop"] (Qk8 true CH au):=by
 refine Z.a27.mq [Y5,"hop","people"] λH vs Q E hr nD h=>?_;let ⟨p,t,ak,aj,ao,way,m,rfl,hA,ok,ht,m1,m2,m3,m4,q⟩:=h;refine ⟨_,(zcF (zcC (Qg 2 nD (Qo (Yh Z) Z.HC.cl (Yb K {0}) (hr.mono (by decide)))) (zcC (Zz (PW.pt (Jv (q_t Jg (Qb K {1} Qx) (Qb K {1} Qx)) (Jv (Xf (Tw Bg Ra Qx (Qb K {1} Qx) {2})) (Yo (Xf (Tw Bg Ra Qx (Qb K {1} Qx) {2})))))) (Qf Ju) Qh) (zcL (Qf (Uc (Yn (K:=K) rfl) (Qb K {1} Qx) (Te (Nw Z) Z.b7.cl {0} (hr.mono (by decide)) (Qq (Qb K {1} Qx) (Qq (Qb K {1} Qx) Qz))) (by with_unfolding_all rfl))))))),?_⟩;have AC:Qx6 K au:=Z.b7.a;let ⟨dx,hp,wa,g1,g2,g3⟩:=hA.ex;let ⟨dh,bb,ww,h1,h2,h3⟩:=g2.ex;nofun;refine ⟨_,rfl,p,_,dx,_,_,rfl,g1,AC.cl,AC.nH,Yf _ _,hp,dh,_,rfl,h1,Uo _ _ _,hp,ak,aj,ao,rfl,g2,?_⟩;symm;refine ixU ht rfl ?_;symm;refine ixU ht rfl ?_;symm;refine Vt (S8 (λz=>by injection z with z; lia)) ?_;symm;refine ixU ht rfl ?_;symm;refine Vt (by rw [decide_eq_true "o"]; rfl) ?_;symm;refine ixU ht rfl ?_;symm;refine Vt (by rw [decide_eq_true "o"]; rfl) ?_;symm;refine ixU ht rfl ?_;refine As (a:=m.1) (b:=m.2.2) hA ok m1 m2 (λ_ k=>⟨_,rfl,k⟩) (λK2 k=>?_) λl4 ms H4 s4 f4 h4 hr4=>?_
 ·symm;refine ixU ht rfl ?_;symm;refine ixU ht rfl ?_;exact k
 refine ⟨l4,_,rfl,.inl (SqL.of h4),rfl,by simp [Ve],?_⟩;rw [if_neg Bool.false_ne_true,Vp,decide_eq_true ((hr4.2 _).mpr m4)];exact q _ s4
theorem Qs6:Def P w K mg base 7 "chain_gain" [Y5,Y36,"i"] (Qkq true CH au):=by
 refine Z.a28.mq [Y5,Y36,"i","total","ending","hop"] @λ_ _ _ _ s H vs Q E hr nD h=>?_;let ⟨p,cl,ak,aj,ao,way,aq,c,s,i,rfl,hA,ok,good,hc,hh,q⟩:=h;refine ⟨_,(zcF (zcC (Qg 3 nD Qx) (zcC (Qg 4 nD {2}) (zcL (Qw (Xt (Qr8 (K:=K) rfl rfl Z.T.u15 {1}) (Ql 5 nD) (zcF (zcC (Zz (PW.pt (Jv (q_t Ue (Qb K {5} Qx) {4}) (Yo (Xf (Xc (Qd (Qs4 Z) hr %[0,5|0])))))) (Qf Zg) Qh) (zcL (Qw (Qg 3 nD (Qy Xm {3} (Te (Sf Z) Z.b7.cl {0} (hr.mono (by decide)) (Qq (Qb K {5} Qx) (Qq (Qb K {5} Qx) (Qq (Qb K {5} Qx) Qz)))))) (Qm (Qg 4 nD (Qb K {5} Qx)))))))) (Qf {3})))))),?_⟩;let ⟨ts,e1,e2,e3⟩:=id hh;symm;refine ⟨cl,_,rfl,SqL.of e1,?_⟩;refine Qn4 (xs:=ts.map V.ref) (λk σ H' => ∃ (e:Nat) (o5:Option V),σ=[rf p,rf cl,iv (i:Int),iv (wt (gnF true aj way) (c.drop (c.length - k))),iv (e:Int),o5]/\Qu H H'/\ChS aq s (c.take (c.length - k)) e) ⟨i,none,by rw [Nat.sub_zero,drop_length]; rfl,Qu.refl _,by simpa using hc⟩ (λk σ H' _ h=>h.choose_spec.choose_spec.2.1.seq (SqL.of e1)) ?_ ?_
 ·rintro k x σ H1 hx ⟨e,o5,rfl,s1,hc1⟩;have hk:k < c.length:=by have:=(N5.mp hx).1;simpa [e2] using this
  have hx2:(ts.map V.ref)[c.length - 1 - k]? = some x:=by rw [getElem?_reverse (by simpa [e2] using hk)] at hx;simpa [e2] using hx
  let ⟨t,ht,rfl⟩:=Yw hx2;have hm:c[c.length - 1 - k]? = some (c[c.length - 1 - k]'(by lia)):=by simp [show c.length - 1 - k < c.length by lia]
  have htt:=s1 _ _ (e3 _ _ _ ht hm);have etk:c.take (c.length - k)=c.take (c.length - (k + 1)) ++ [c[c.length - 1 - k]'(by lia)]:=by rw [show c.length - k=(c.length - (k + 1)) + 1 by lia,take_succ,show c.length - (k + 1)=c.length - 1 - k by lia,hm];rfl
  have edr:c.drop (c.length - (k + 1))=(c[c.length - 1 - k]'(by lia)) :: c.drop (c.length - k):=by have h0:c.drop (c.length - 1 - k)=(c[c.length - 1 - k]'(by lia)) :: c.drop (c.length - 1 - k + 1):=drop_eq_getElem_cons "o";rw [show c.length - (k + 1)=c.length - 1 - k by lia,h0,show c.length - 1 - k + 1=c.length - k by lia]
  nofun;rw [etk] at hc1;generalize c[c.length - 1 - k]'(by lia)=m at *;let ⟨hc2,g8,hme⟩:=hc1.inv;let ⟨m1,m2,m3,m4,m5⟩:=good.mem m g8;have hA1:=hA.same s1;symm;refine ixU htt rfl ?_;symm;refine Vt (by simp [hme]) ?_;symm;refine ⟨p,t,ak,aj,ao,way,m,rfl,hA1,ok,htt,m1,m2,m3,m5,λH2 s2=>?_⟩;symm;have je:=s2 _ _ htt;refine Mm (ta:=λ_ H K=>K (.ref p) H) (a:=m.1) (r:=m.2.1) (b:=m.2.2) (hA1.same s2) ok m1 m4 m2 (λ_ k=>k) (λK2 k=>?_) ?_
  ·symm;refine ixU je rfl ?_;symm;refine ixU je rfl ?_;symm;refine ixU je rfl ?_;exact k
  symm;refine ixU je rfl ?_;have ew:wt (gnF true aj way) (c.drop (c.length - (k + 1)))=wt (gnF true aj way) (c.drop (c.length - k)) + Zn true aj way m.1 m.2.1 m.2.2:=by rw [edr];simp only [wt,map_cons,sum_cons,gnF];lia
  refine ⟨m.1,some (.ref t),?_,s1.trans s2,hc2⟩;rw [ew];rfl
 ·rintro σ H1 ⟨e,o5,rfl,s1,hc1⟩;symm;rw [length_map,e2,Nat.sub_self,drop_zero];exact q _ s1
theorem Ge:Def P w K mg base 2 "worth_of" [Y2,Y8] (Od K CH):=by
 refine Z.a29.mq [Y2,Y8] λH vs Q E hr nD h=>?_;let ⟨p,a,ak,aj,ao,way,rfl,hA,hl,hS,fu,hin,q⟩:=h;refine ⟨_,(Qf (Qr (Xu (K:=K) rfl rfl) (by rfl) Z.T.u10 Xg (Qq (Zt [Y7,Y2,Y8] [none,some 0,some 1] (Zr Z.T.u1 (Qq (Qo (Yh Z) Z.HC.cl {0} (hr.mono (by decide))) Qz)) (Qb K (Qb K (Yb K {1}) {0}) (Qb K {2} {0}))) Qz))),?_⟩;let ⟨dx,b,w,h1,h2,h3⟩:=hA.ex;let ⟨ws,hw,hR⟩:=id h3;refine ⟨_,rfl,p,dx,_,rfl,h1,Uo _ _ _,p,ak,aj,ao,rfl,hA,?_⟩;refine ⟨_,rfl,"o","o",λD hD=>?_⟩;refine Yk (λi y _=>y=.int ((aj.getD i []).getD (way.getD i 0).toNat 0)) sml hD (λ_ _ _ _ _ h=>h) ?_ ?_
 ·rintro i H1 ys N hi s1 d1 hN;have hi':i < aj.length:=by lia
  have hi2:i < way.length:=by lia
  have gm:aj[i]? = some aj[i]:=by simp [hi']
  let ⟨ra,g1,g2,g3⟩:=hR.at_ gm;have g4:(way.map V.int)[i]? = some (.int way[i]):=by simp [hi2]
  let ⟨b1,b2⟩:=hin _ (M9 hi') _ (M9 hi2);have g5:(aj[i].map V.int)[way[i].toNat]? = some (.int ((aj[i]).getD way[i].toNat 0)):=by
   have:way[i].toNat < aj[i].length:=by lia
   simp [this]
  refine ⟨_,rfl,p,CH,dx,_,_,rfl,s1 _ _ h1,Z.HC.cl,Z.HC.nW,Jx _ _ _,_,rfl,?_⟩;refine ixL (SqL.of (s1 _ _ hw)) (Qc i "o" g2) ?_;refine ⟨_,rfl,_,rfl,?_⟩;refine ixL (s1.seq hS) (Qc i "o" g4) ?_;refine ixL (SqL.of (s1 _ _ g3)) (Qc way[i].toNat "o" g5) ?_;refine hN _ _ (Qu.refl _) ?_;simp [hi',hi2]
 ·rintro ys H1 s1 d1 l1 r1;have e:ys=((range aj.length).map λi=>(aj.getD i []).getD (way.getD i 0).toNat 0).map V.int:=Vu (by rw [l1]; simp) λi y e=>by
   have hi:i < aj.length:=by have:=(N5.mp e).1; lia
   exact ⟨(aj.getD i []).getD (way.getD i 0).toNat 0,by rw [getElem?_map,getElem?_range hi]; rfl,r1 i y e⟩
  rw [e] at d1;refine ⟨D,_,rfl,SqL.of d1,q _ s1⟩
theorem Mn:Ox P w K mg base 3 au "whole" [Y14] (Bt true CH au):=by
 refine Z.a30.mq [Y14] λH vs Q E hr nD h=>?_;let ⟨p,ak,aj,ao,way,rfl,hA,ok,q⟩:=h;refine ⟨_,(Qf (Qy Zv (Qd (Ge Z) hr (Qq (Yb K {0}) (Qq (Yb K {0}) Qz))) (Yb K (Yb K {0})))),?_⟩;let ⟨dx,hp,wa,g1,g2,g3⟩:=hA.ex;have l1:=ok.bok.w1;refine ⟨_,rfl,p,au,dx,_,_,rfl,g1,Z.b7.a.cl,Z.b7.a.nH,Yf _ _,_,rfl,p,au,dx,_,_,rfl,g1,Z.b7.a.cl,Z.b7.a.nW,Dy _ _,?_⟩;refine ⟨hp,wa,ak,aj,ao,wI way,rfl,g2,"o",SqL.of g3,by simp [wI,ok.len],λrow hr z hz=>?_,λH1 s1=>?_⟩
 ·let ⟨r,h1,rfl⟩:=O3.mp hz;have h2:=ok.lt r h1;have h3:=ok.bok.rows row hr;lia
 let ⟨dh,bd,w,h1,h2,h3⟩:=(g2.same s1).ex;refine ⟨_,rfl,p,au,dx,_,_,rfl,s1 _ _ g1,Z.b7.a.cl,Z.b7.a.nH,Yf _ _,hp,CH,dh,_,_,rfl,h1,Z.HC.cl,Z.HC.nR,Qn1 _ _ _,?_⟩;rw [Rb ok.len];exact ⟨_,_,rfl,rfl,q _ s1⟩
theorem Qmj:Ox P w K mg base 2 au "price" [Y14,"i",Y35,Y22] (Aa true CH au):=by
 refine Z.a31.mq [Y14,"i",Y35,Y22] λH vs Q E hr nD h=>?_;let ⟨p,ak,aj,ao,way,i,level,parts,rfl,hA,ok,hi,hx,hp,q⟩:=h;refine ⟨_,(Qf (Qy Zv (Qy Qi {3} (Qd (Pm Z) hr %[0,1|0])) {2})),?_⟩;have hob:-(10 ^ 42) < Zh aj way i/\Zh aj way i < 10 ^ 42:=by
  let ⟨w1,w2⟩:=ok.at_ hi;have hrl:=ok.bok.rows _ (M9 hi);have:Zh aj way i=aj[i][way.getD i 0]'(by lia):=by unfold Zh wF;rw [getD_eq_getElem?_getD (l:=aj),getElem?_eq_getElem hi];show (aj[i]).getD (way.getD i 0) 0=_;rw [getD_eq_getElem?_getD (l:=aj[i]),getElem?_eq_getElem "o"];rfl
  rw [this];exact hx _ (M9 hi) _ (M9 _)
 refine ⟨_,rfl,_,rfl,_,rfl,au,p,ak,aj,ao,way,i,rfl,Z.b7.a,hA,ok,hi,?_⟩;refine ⟨_,_,rfl,rfl,⟨hp,"o"⟩,?_⟩;exact ⟨_,rfl,_,_,rfl,rfl,q⟩
theorem Qs8:Def P w K mg base 8 "bound" [Y5,Y31] (Qkj true CH au):=by
 refine Z.a32.mq [Y5,Y31,"people",Y13] @λ_ _ _ _ s H vs Q E hr nD h=>?_;let ⟨p,cl,ak,aj,ao,way,aq,cs,rfl,hA,ok,good,hc,q⟩:=h;refine ⟨_,(zcF (zcC (Qg 2 nD (Qo (Yh Z) Z.HC.cl (Yb K {0}) (hr.mono (by decide)))) (zcC (Rq 3 nD [Y7,Y5,Y31] [none,some 0,some 1] (Zr Z.T.u1 %[2|0]) (Qd (Qs6 Z) hr (Qq {1} (Qq (Qb K {2} {0}) %[0|0])))) (zcC (Zz (Ud (Yn (K:=K) rfl) Zg {3} (by with_unfolding_all rfl)) (Qf Zg) Qh) (zcL (Qf (Zc (Qq (Qy Zv (Qo (Mn Z) Z.b7.cl {0} (hr.mono (by decide))) (Qr (Xu (K:=K) rfl rfl) (by rfl) Z.T.u10 Xg %[3|0])) %[2|0])))))))),?_⟩;have AC:Qx6 K au:=Z.b7.a;have lw:=ok.bok.w1;let ⟨ls,e1,e2,e3⟩:=hc.ex;let ⟨dx,hp,wa,g1,g2,g3⟩:=hA.ex;let ⟨dh,bb,ww,h1,h2,h3⟩:=g2.ex;nofun;refine ⟨_,rfl,p,_,dx,_,_,rfl,g1,AC.cl,AC.nH,Yf _ _,hp,dh,_,rfl,h1,Uo _ _ _,hp,ak,aj,ao,rfl,g2,?_⟩;nofun;refine ⟨_,rfl,_,rfl,"o","o",λD hD=>?_⟩;rw [Int.toNat_natCast];refine Zl (λi=>.int (wt (gnF true aj way) (cs.getD i []))) sml hD (λi hi H1 N s1 hN=>?_) λH1 s1 d1=>?_
 ·have hl:(ls.map V.ref)[i]? = some (.ref (ls[i]'(by lia))):=by simp [show i < ls.length by lia]
  have hci:cs[i]? = some (cs.getD i []):=by simp [getD,show i < cs.length by rw [hc.len]; lia]
  have hh:=e3 i _ _ (show ls[i]? = some (ls[i]'(by lia)) by simp [show i < ls.length by lia]) hci;let ⟨s,hs⟩:=hc.ch i hi;rw [Int.zero_add];symm;refine ixW i (s1 _ _ e1) hl ?_;symm;exact ⟨p,_,ak,aj,ao,way,aq,_,s,i,rfl,hA.same s1,ok,good,hs,hh.same s1,λH2 s2=>hN _ s2⟩
 have ed:((range aj.length).map λi=>V.int (wt (gnF true aj way) (cs.getD i [])))=(cs.map (wt (gnF true aj way))).map V.int:=by
  refine U7 (by simp [hc.len]) λi a b=>?_;have:i < cs.length:=by simpa using b
  simp [getD,this]
 have d1':H1 D=some (.lst ((cs.map (wt (gnF true aj way))).map V.int)):=by rw [d1,<- ed]
 nofun;refine ⟨_,rfl,D,_,rfl,.inl (SqL.of d1'),rfl,by simp [Ve],?_⟩;rw [if_neg Bool.false_ne_true,show inV V.non ((cs.map (wt (gnF true aj way))).map V.int)=false by simp [inV,eqV]];symm;refine Qw8 (ta:=λ_ H K=>K (.ref p) H) (hA.same s1) ok (λ_ k=>k) λH2 s2=>?_;symm;refine ⟨D,_,rfl,SqL.of (s2 _ _ d1'),?_⟩;symm;exact λt H3 n3=>q t H3 ((s1.trans s2).trans n3.same) ((s1.trans s2).free n3.none) n3.at_
theorem Zv2:Def P w K mg base 1 "common_divisor" ["one","other"] Zqw:=by
 refine Z.a33.mq ["one","other","rest"] λH vs Q E hr nD h=>?_;let ⟨a,b,rfl,ha,hb,q⟩:=h;refine ⟨_,(Qw (Mu A1i (q_t Ue {1} Qx) (zcF (zcC (Qg 2 nD (Qy Ze {0} {1})) (zcL (Qw (Qg 0 nD {1}) (Qm (Qg 1 nD {2}))))))) (Qf {0})),?_⟩;refine ⟨λm σ H' => ∃ (x y:Int) (o:Option V),σ=[iv x,iv y,o]/\m=y.natAbs/\0<=x/\0<=y/\Nat.gcd x.natAbs y.natAbs=Nat.gcd a.natAbs b.natAbs/\H'=H,⟨_,a,b,_,rfl,rfl,"o",hb,rfl,rfl⟩,?_⟩;rintro m σ H' ⟨x,y,o,rfl,rfl,hx,hy,hg,rfl⟩;symm;refine Fm (λe=>?_) (λe=>?_)
 ·have hy0:0 < y:=by simp at e;lia
  refine ⟨_,λσ' H' h=>h,?_⟩;symm;refine ⟨_,?_,_,_,_,rfl,rfl,hy,W5 _ "o",?_,rfl⟩
  rotate_left
  ·rw [<- hg,Nat.gcd_comm x.natAbs,Nat.gcd_rec y.natAbs x.natAbs,Int.natAbs_emod_of_nonneg hx,Nat.gcd_comm]
  ·show (x % y).natAbs < y.natAbs;have h1:=W5 x (show y≠0 by lia);have h2:=Z2 x hy0;lia
 ·have hy0:y=0:=by simpa using e
  subst hy0;symm;have:x=((Nat.gcd a.natAbs b.natAbs:Nat):Int):=by rw [<- hg];simp;lia
  rw [this];exact q
theorem Qb0:Def P w K mg base 2 "lowest" [Y22,"rows"] (On K):=by
 refine Z.a34.mq [Y22,"rows","divisor","row"] λH vs Q E hr nD h=>?_;let ⟨parts,r,rows,rfl,hS,hz,hp,hp2,q⟩:=h;refine ⟨_,(Qw (Qg 2 nD {0}) (Qw (Xt (Vo K {1}) (Ql 3 nD) (Qm (Qg 2 nD (Qd (Zv2 Z) hr (Qq {2} (Qq (Qr Im (by rfl) Z.T.u16 Ln %[3|0]) Qz)))))) (Qf (Zc (Qq (Qy Xo {0} {2}) (Qq (Zt ["row","divisor"] [none,some 2] (Vo K {1}) (Qy Xo {0} {1})) Qz)))))),?_⟩;have fu:(rows.map V.int).length=rows.length:=by simp
 refine ⟨_,rfl,?_⟩;refine ⟨_,rfl,r,rfl,⟨_,hS⟩,?_⟩;refine L2.Tp (xs:=rows.map V.int) (λi σ H' => ∃ (d:Int) (o:Option V),σ=[iv parts,rf r,iv d,o]/\d=((bx parts.natAbs (rows.take i):Nat):Int)/\H'=H)
  ⟨parts,none,rfl,(by show parts=((parts.natAbs:Nat):Int); lia),rfl⟩ (λi σ H' _ ⟨_,_,_,_,e⟩=>by rw [e]; exact hS) ?_ ?_
 ·rintro i x σ H' hx ⟨d,o,rfl,hd,rfl⟩;let ⟨z,hz1,rfl⟩:=int_at hx;symm;have g0:=Kc (rows.take i) parts.natAbs "o";refine ⟨_,_,rfl,"o",by rw [Qw5]; lia,_,_,rfl,?_,rfl⟩;rw [Qw5,take_snoc hz1,Qux,hd];rfl
 ·rintro σ H' ⟨d,o,rfl,hd,rfl⟩;rw [fu,take_length] at hd;have g0:=Kc rows parts.natAbs "o";have g1:bx parts.natAbs rows<=parts.natAbs:=Nat.le_of_dvd "o" (Zi rows parts.natAbs);generalize hg:bx parts.natAbs rows=g at *;symm;refine ⟨⟨_,hS⟩,λD hD=>?_⟩;refine Xy (λi y _ => ∃ z,rows[i]? = some z/\y=.int (z / (g:Int))) hS (by rw [fu,sizeLine_eq]; lia) hD (λ_ _ _ _ _ h=>h) ?_ ?_
  ·rintro i x H1 ys N hx s1 d1 hN;let ⟨z,hz1,rfl⟩:=int_at hx;symm;exact hN _ _ (Qu.refl _) ⟨z,hz1,by rw [hd]⟩
  ·rintro ys H1 s1 d1 l1 r1;have e:ys=(rows.map λx=>x / (g:Int)).map V.int:=Vu (by simpa using l1) λi y e=>by let ⟨z,h1,h2⟩:=r1 i y e;exact ⟨_,by rw [getElem?_map,h1]; rfl,h2⟩
   symm;refine λt H2 n2=>q t D H2 hD (s1.trans n2.same) ?_ (n2.same _ _ (e ▸ d1));rw [n2.at_,hd]
theorem Ap:Def P w K mg base 1 "room_price" [Y5,Y37,Y17] (Ms true K CH au):=by
 refine Z.a35.mq [Y5,Y37,Y17] λH vs Q E hr nD h=>?_;let ⟨p,cl,ak,aj,ao,way,cs,r,rfl,hA,ok,hcl,lc,l0,q⟩:=h;refine ⟨_,(zcF (zcC (Zz (Ud (Yn (K:=K) rfl) {2} (Yb K {0}) (by with_unfolding_all rfl)) (Qf (Qb K {1} (Dv (K:=K) rfl A0i PySem.F.slot_list_index PySem.F.type_list_index (Qyx (K:=K)) (Yb K {0}) %[2|0]))) Qh) (zcL (Qf (Qr (Wb (K:=K) rfl rfl) (by rfl) Z.T.u8 Ja %[1|0]))))),?_⟩;have AC:Qx6 K au:=Z.b7.a;let ⟨dx,hp,wa,g1,g2,g3⟩:=hA.ex;nofun;refine ⟨_,rfl,_,rfl,p,_,dx,_,_,rfl,g1,AC.cl,AC.nW,Dy _ _,wa,_,rfl,.inl (SqL.of g3),rfl,by simp [Ve],?_⟩;rw [if_neg Bool.false_ne_true,Vp];refine ⟨_,rfl,?_⟩;refine Fm (λe=>?_) (λe=>?_)
 ·have hr:r∈way:=Pt.mp (Q7 e);have hi:way.idxOf r < cs.length:=by rw [lc,<- ok.len]; exact A0q.mpr hr
  have ei:=En r way;have hg:(cs.map V.int)[way.idxOf r]? = some (.int (cs.getD (way.idxOf r) 0)):=by simp [getD,hi]
  refine ⟨_,rfl,_,rfl,p,_,dx,_,_,rfl,g1,AC.cl,AC.nW,Dy _ _,.inl ⟨rfl,_,SqL.of g3⟩,_,rfl,wa,wI way,_,rfl,rfl,g3,Q7 e,?_⟩;rw [ei];refine ixW _ hcl hg ?_;exact q _ (by unfold Rw; rw [if_pos hr])
 ·have hr:r ∉ way:=λz=>e (O8 (Pt.mpr z));symm;refine ⟨cl,cs,rfl,SqL.of hcl,"o",λz hz kj=>?_⟩;exact q _ (by unfold Rw; rw [if_neg hr]; exact ⟨hz,kj⟩)
theorem Nv:Def P w K mg base 3 "prices_at" [Y5,Y39,Y22] (Hj true K CH au):=by
 refine Z.a36.mq [Y5,Y39,Y22,Y37] λH vs Q E hr nD h=>?_;let ⟨p,ll,ak,aj,ao,way,lv,parts,rfl,hA,ok,hll,lvl,l0,p0,p1,hx,q⟩:=h;refine ⟨_,(zcF (zcC (Qg 3 nD (Zt [Y7,Y5,Y39,Y22] [none,some 0,some 1,some 2] (Zr Z.T.u1 (Qq (Zx K Z.T.u0 %[1|0]) Qz)) (Te (Qmj Z) Z.b7.cl {1} (hr.mono (by decide)) (Qq {0} (Qq (Qb K {2} {0}) %[3|0]))))) (zcL (Qf (Qd (Qb0 Z) hr (Qq {2} (Qq (Zt [Y17,Y5,Y37] [none,some 0,some 3] (Zr Z.T.u1 (Qq (Qo (Vg Z) Z.HC.cl (Yb K {0}) (hr.mono (by decide))) Qz)) (Qd (Ap Z) hr %[1,2,0|0])) Qz))))))),?_⟩;have AC:Qx6 K au:=Z.b7.a;have lw:=ok.bok.w1;have lb:=ok.bok.b1;nofun;refine ⟨_,rfl,ll,_,rfl,.inl (SqL.of hll),?_⟩;rw [length_map,lvl];walk_at "d";refine Zl (λi=>.int (Xd true aj way lv parts i)) sml hD (λi hi H1 N s1 hN=>?_) λH1 s1 d1=>?_
 ·have hg:(lv.map V.int)[i]? = some (.int (lv.getD i 0)):=by simp [getD,show i < lv.length by lia]
  rw [Int.zero_add];refine Qy6 (i:=i) (level:=lv.getD i 0) (parts:=parts) (hA.same s1) ok hi hx ⟨"o","o"⟩ (λ_ k=>⟨_,rfl,k⟩) (λK2 k=>?_) (hN _ (Qu.refl _));symm;refine ixW i (s1 _ _ hll) hg ?_;symm;exact k
 have d1':H1 D=some (.lst ((Xz true aj way lv parts).map V.int)):=by rw [d1];unfold Xz;rw [map_map];rfl
 have hA1:=hA.same s1;let ⟨dx,hp,wa,g1,g2,g3⟩:=hA1.ex;let ⟨dh,bb,ww,h1,h2,h3⟩:=g2.ex;symm;refine ⟨p,_,dx,_,_,rfl,g1,AC.cl,AC.nH,Yf _ _,hp,dh,_,rfl,h1,Uo _ _ _,hp,ak,aj,ao,rfl,g2,?_⟩;refine ⟨_,rfl,"o","o",λD2 hD2=>?_⟩;rw [Int.toNat_natCast];refine Yk (λi y _ => ∃ z:Int,y=.int z/\Rw way (Xz true aj way lv parts) i z) sml hD2 (λ_ _ _ _ _ h=>h) ?_ ?_
 ·rintro i H2 ys NN hi s2 d2 hNN;rw [Int.zero_add];symm;exact ⟨p,D,ak,aj,ao,way,_,i,rfl,hA1.same s2,ok,s2 _ _ d1',by simp [Xz],l0,λz hz=>hNN _ _ (Qu.refl _) ⟨z,rfl,hz⟩⟩
 ·rintro ys H2 s2 d2 ly hy;let ⟨rows,e,hr⟩:=Qj4 (P:=λ_ _=>True) V.int (λi z=>Rw way (Xz true aj way lv parts) i z) ys 0 (λi y h=>by let ⟨z,e,h⟩:=hy i y h;exact ⟨z,e,by rw [Nat.zero_add]; exact h⟩)
  subst e;have hl:rows.length=ak.length:=by rw [length_map] at ly; lia
  refine ⟨parts,D2,rows,rfl,SqL.of d2,"o",p0,"o",λt l H3 f3 s3 h3 h4=>?_⟩;exact q rows t l H3 ⟨hl,λr z e=>by have:=hr r z e; rwa [Nat.zero_add] at this⟩ ((s1.trans s2).free f3) ((s1.trans s2).trans s3) h3 h4
theorem Io:Def P w K mg base 10 "divide" [Y5] (Oo true CH au Pb Zs "best_room.<locals>.<lambda>"):=by
 refine Z.a37.mq [Y5,"told","least",Y39] λH vs Q E hr nD h=>?_;let ⟨p,ak,aj,ao,way,rfl,hA,ok,fit,opt,hL,l0,hx,q⟩:=h;refine ⟨_,(zcF (zcC (Qg 1 nD (Qd (Fu Z) hr %[0|0])) (zcC (Qg 2 nD (Qd (Qs8 Z) hr (Qq {0} (Qq (Qb K {1} Qx) Qz)))) (zcC (Rq 3 nD ["gain","least"] [none,some 2] (Vo K (Qb K {1} Qx)) (Qy Xm (Qb K {1} Qx) (Qy Qi (Qb K {1} Qx) {0}))) (zcL (Qf (Zc (Qq (Qd (Nv Z) hr (Qq {0} (Qq {3} (Qq (Qb K {2} Qx) Qz)))) (Qq (Qb K {1} Qx) Qz))))))))),?_⟩;have lw:=ok.bok.w1;nofun;refine ⟨_,rfl,p,ak,aj,ao,way,rfl,hA,ok,fit,opt,hL,λt tl cl aq st H1 s1 so1 hL1 f1 f2 f3 ff cb g=>?_⟩;have hA1:=hA.bf s1;have htl:=g.tc.g;have l1:=g.ok.l1;symm;refine ixU g.tup rfl ?_;refine ⟨p,cl,ak,aj,ao,way,aq,st.2,rfl,hA1,ok,g.good,g.chs,λtb H2 s2 f2b hb=>?_⟩;nofun;rw [Qjk g.ok] at hb;have htup2:=s2 _ _ g.tup;have htl2:=s2 _ _ htl;symm;refine ixU htup2 rfl ?_;refine ⟨tl,rfl,⟨_,SqL.of htl2⟩,λD hD=>?_⟩;refine Kr st.1 (λg=>.int ((Uz true aj way ao - st.1.sum) + (aj.length:Int) * g)) (SqL.of htl2) sml hD (λz hz H3 N s3 hN=>?_) λH3 s3 d3=>?_
 ·symm;refine ixU (s3 _ _ hb) rfl ?_;symm;refine ixU (s3 _ _ hb) rfl ?_;symm;have hzb:=Ea hx g.ok cb z hz;refine ⟨⟨⟨"o","o"⟩,"o","o"⟩,?_⟩;symm;exact hN _ (Qu.refl _)
 have S3:=s2.trans s3;have d3':H3 D=some (.lst ((lvL true aj way ao st.1).map V.int)):=by rw [d3];unfold lvL;rw [map_map];rfl
 symm;refine ixU (s3 _ _ hb) rfl ?_;refine ⟨p,D,ak,aj,ao,way,_,_,rfl,hA1.same S3,ok,d3',by simp [lvL,l1],l0,"o","o",hx,λrows tp rl H4 isr frl s4 h4 h5=>?_⟩;rw [show ((aj.length:Int)).natAbs=aj.length by lia] at h4 h5;symm;have S4:=S3.trans s4;refine ixU (S4 _ _ g.tup) rfl ?_;symm;refine λt2 H5 n5=>?_;have S5:=S4.trans n5.same;let ⟨ls,c1,c2,c3,c4⟩:=id g.tc.ex;refine q t2 tp rl cl aq st rows H5 (s1.trans S5.b) (so1.trans S5.o) (hL1.same S5) f2 (s1.th _ (S3.free frl)) (Qj (S3 _ _ c1) frl).symm ?_ ⟨n5.at_,n5.same _ _ h4,n5.same _ _ h5,isr,g.chs.same S5,g.good,g.ok,g.nn,g.cl_,cb⟩;refine ⟨ls,S5 _ _ c1,λa ha=>⟨ff.at_ c1 a ha,?_⟩⟩;let ⟨i,hi,rfl⟩:=X3.mp ha;have hi2:i < st.2.length:=by lia
 let ⟨ts,e1,_,_⟩:=c4 i _ _ (R3 hi) (R3 hi2);exact Qj (S3 _ _ e1) frl
theorem Ah:Def P w K mg base 1 "beginning" [Y36,Y7] Hg:=by
 refine Z.a38.mq [Y36,Y7] λH vs Q E hr nD h=>?_;let ⟨cl,c,i,rfl,⟨ts,e1,e2,e3⟩,q⟩:=h;refine ⟨_,(Qf (Nd (Kf (q_t Jg (Zx K Z.T.u0 %[0|0]) Qx) {1} (Qb K (Qb K {0} Qx) Qx)))),?_⟩;refine ⟨λv H'=>H'=H/\v=.int (Fc c i),?_,λv H' z=>?_⟩
 rotate_left
 ·let ⟨rfl,rfl⟩:=z;exact q
 symm;refine ⟨cl,_,rfl,.inl (SqL.of e1),?_⟩;rw [length_map,e2];cases c with
 | nil =>symm;rfl
 | cons m c =>
  cases ts with
  | nil=>cases e2
  | cons t ts =>have ht:=e3 0 t m rfl rfl;symm;refine ixW 0 e1 rfl ?_;symm;refine ixU ht rfl ?_;exact ⟨rfl,rfl⟩
def Nj:Def P w K mg base 2 "purse_row" [Y36,Y7] Sl:=by refine Z.a39.mq [Y36,Y7] λH vs Q E hr nD h=>?_;let ⟨cl,c,i,rfl,hh,q⟩:=h;refine ⟨_,(Qf (Zc (Qq Jq (Qq (Qd (Ah Z) hr %[0,1|0]) %[0|0])))),?_⟩;symm;refine ⟨cl,c,i,rfl,hh,?_⟩;symm;exact λt H' n=>q t H' n
theorem Bj:Def P w K mg base 2 "purse_share" [Y5,Y18,Y7] (Fi CH au):=by
 refine Z.a40.mq [Y5,Y18,Y7] λH vs Q E hr nD h=>?_;let ⟨p,pu,ak,aj,ao,way,ps,k,rfl,hA,ok,hp,hk,lp,q⟩:=h;refine ⟨_,(zcF (zcC (Zz (q_t Pr (Qb K {1} {2}) Zg) (Qf Zg) Qh) (zcL (Qf (Qy Zv (Qd (Pm Z) hr %[0,2|0]) (Qb K {1} {2})))))),?_⟩;have g:(ps.map oV)[k]? = some (oV (ps.getD k none)):=by simp [getD,show k < ps.length by lia]
 symm;refine ixW k hp g ?_;cases hx:ps.getD k none with
 | none =>rw [hx] at q;refine ⟨rfl,_,rfl,Yr rfl ?_⟩;symm;exact q
 | some x =>rw [hx] at q g;refine ⟨rfl,_,rfl,Vt rfl ?_⟩;symm;refine ⟨au,p,ak,aj,ao,way,k,rfl,Z.b7.a,hA,ok,hk,?_⟩;symm;refine ixW k hp g ?_;exact ⟨_,_,rfl,rfl,q⟩
theorem Rn:Def P w K mg base 4 "free_bound" [Y5,Y13,Y19,Y34] (Hk CH au):=by
 refine Z.a41.mq [Y5,Y13,Y19,Y34,"bounds"] λH vs Q E hr nD h=>?_;let ⟨p,gl,hl,sl,ak,aj,ao,way,gs,hs,L,rfl,hA,ok,hg,lg,hh,lh,hs',hno,q⟩:=h;refine ⟨_,(zcF (zcC (Rq 4 nD [Y7,Y13,Y19,Y34] [none,some 1,some 2,some 3] (Zr Z.T.u1 (Qq (Zx K Z.T.u0 %[1|0]) Qz)) (Nd (Kf (Ud (Yn (K:=K) rfl) {0} {3} (by with_unfolding_all rfl)) (Qb K {1} {0}) (Qb K {2} {0})))) (zcL (Qf (Zc (Qq (Qy Zv (Qo (Mn Z) Z.b7.cl {0} (hr.mono (by decide))) (Qr (Xu (K:=K) rfl rfl) (by rfl) Z.T.u10 Xg %[4|0])) (Qq (Zx K Z.T.u0 %[3|0]) Qz))))))),?_⟩;have lw:=ok.bok.w1;symm;refine ⟨gl,_,rfl,.inl (SqL.of hg),?_⟩;rw [length_map,lg];walk_at "d";refine Zl (λi=>.int (if i∈L then gs.getD i 0 else hF hs i)) sml hD (λi hi H1 N s1 hN=>?_) λH1 s1 d1=>?_
 ·rw [Int.zero_add];have gg:(gs.map V.int)[i]? = some (.int (gs.getD i 0)):=by simp [getD,show i < gs.length by lia]
  have gh:(hs.map oV)[i]? = some (oV (hs.getD i none)):=by simp [getD,show i < hs.length by lia]
  refine ⟨λv H'=>H'=H1/\v=.int (if i∈L then gs.getD i 0 else hF hs i),?_,λv H' z=>?_⟩
  rotate_left
  ·let ⟨rfl,rfl⟩:=z;exact hN _ (Qu.refl _)
  symm;refine ⟨sl,_,rfl,.inl (SqL.of (s1 _ _ hs')),rfl,by simp [Ve],?_⟩;rw [if_neg Bool.false_ne_true,Vp]
  by_cases hm:i∈L
  ·rw [decide_eq_true (show (i:Int)∈wI L from Pt.mpr hm)];symm;refine ixW i (s1 _ _ hg) gg ?_;exact ⟨rfl,by rw [if_pos hm]⟩
  ·rw [decide_eq_false (show ¬ (i:Int)∈wI L from λz=>hm (Pt.mp z))];symm;refine ixW i (s1 _ _ hh) gh ?_;refine ⟨rfl,?_⟩;rw [if_neg hm];unfold hF;cases hx:hs.getD i none with
   | none=>exact absurd hx (hno i hi hm)
   | some x=>rfl
 have d1':H1 D=some (.lst (((range aj.length).map λi=>if i∈L then gs.getD i 0 else hF hs i).map V.int)):=by rw [d1,map_map]; rfl
 let ⟨dx,hp,wa,g1,g2,g3⟩:=(hA.same s1).ex;symm;refine ⟨p,dx,_,rfl,g1,by rfl,?_⟩;refine ⟨p,ak,aj,ao,way,rfl,hA.same s1,ok,λH2 s2=>?_⟩;symm;refine ⟨D,_,rfl,SqL.of (s2 _ _ d1'),?_⟩;symm;refine ⟨sl,_,rfl,.inl (SqL.of (s2 _ _ (s1 _ _ hs'))),?_⟩;rw [Za];symm;refine λt3 H3 n3=>?_;exact q t3 H3 ((s1.trans s2).trans n3.same) ((s1.trans s2).free n3.none) n3.at_
def Ia:Def P w K mg base 1 "less" ["one","other"] Qk6:=by refine Z.a42.mq ["one","other"] λH vs Q E hr nD h=>?_;let ⟨a,b,n,p,m,r,rfl,ha,hb,b1,b2,b3,b4,q⟩:=h;refine ⟨_,(Qf (Uc Ra (Qy Qi (Qb K {0} Qx) (Qb K {1} Qx)) (Qy Qi (Qb K {1} Qx) (Qb K {0} Qx)) (Rx _))),?_⟩;symm;refine ixU ha rfl ?_;symm;refine ixU hb rfl ?_;walk_at "m";symm;refine ixU hb rfl ?_;symm;refine ixU ha rfl ?_;walk_at "m";symm;exact q
theorem Qnw:Def P w K mg base 5 "loose_ones" [Y5,Y13,Y19] (Qpv CH au Pc Xb "loose_ones.<locals>.<lambda>"):=by
 refine Z.a43.mkL Yd (λvs H Q E h=>?_) (λ_ _ _ _ _ _ us hl=>match us,hl with | [_,_,_],_=>rfl) (λf A outer s H vs Q E hr h=>?_)
 ·let ⟨p,gl,hl,ak,aj,ao,way,gs,hs,rfl,_⟩:=h;rfl
 ·let ⟨p,gl,hl,ak,aj,ao,way,gs,hs,rfl,hA,ok,hg,lg,hh,lh,iy,hw0,hL,hbd,jb,q⟩:=h;refine ⟨_,(zcF (zcC (Qg 3 Yd.nd (Aj (x:="person") (Nc:=[Y13,Y19]) (ix:=[some 1,some 2]) Z.a43.hd Z.a44 rfl rfl Z.T.u13 rfl Z.T.u1 hr.dep (Zx K Z.T.u0 %[1|0]) (λ_ _ _ _ _=>(Qy Zv (Qb K {2} {0}) (Qb K {1} {0}))) rfl rfl rfl rfl rfl rfl (λ_ _ _ _ _=>rfl) rfl rfl)) (zcC (Qg 4 Yd.nd (Uj (Tj (K:=K) rfl) {3} Ry (Vk Qx))) (zcL (Qw (Xt (Qy7 rfl Z.T.u1 (Qq Qx (Qq (Qy Xm (Zx K Z.T.u0 %[3|0]) Qx) Qz))) (Ql 5 Yd.nd) (Qm (Zz (Xc (Qd (Ia Z) hr (Qq (Qd (Rn Z) hr (Qq {0} (Qq {1} (Qq {2} (Qq (Uj (Tj (K:=K) rfl) {3} Ry (Vk {5})) Qz))))) (Qq (Qd (Rn Z) hr %[0,1,2,4|0]) Qz)))) (Qm (Qg 4 Yd.nd (Uj (Tj (K:=K) rfl) {3} Ry (Vk {5})))) Qh))) (Qf {4})))))),?_⟩;have lw:=ok.bok.w1;have ehv:∀ i,i < aj.length->(hs.map oV)[i]? = some (.int (hF hs i)):=λi hi=>by
   have h1:(hs.map oV)[i]? = some (oV (hs.getD i none)):=by simp [getD,show i < hs.length by lia]
   rw [h1];unfold hF;cases e:hs.getD i none with
   | none=>exact absurd e (iy i hi)
   | some x=>rfl
  symm;refine ⟨gl,_,rfl,.inl (SqL.of hg),?_⟩;rw [length_map,lg];refine ⟨aj.length,λz=>hF hs z.toNat - gs.getD z.toNat 0,rfl,"o",hL,λi hi H2 sb=>?_,λD zs H2 hp hpw sb so hL2 hD=>?_⟩
  ·have gg:(gs.map V.int)[i]? = some (.int (gs.getD i 0)):=by simp [getD,show i < gs.length by lia]
   symm;refine ixW i (sb.to _ _ hh rfl) (ehv i hi) ?_;symm;refine ixW i (sb.to _ _ hg rfl) gg ?_;exact ⟨_,_,rfl,rfl,by simp,rfl⟩
  let ⟨od,hod,rfl⟩:=Qfw hp;have ju:od.Pairwise λa b=>hF hs a - gs.getD a 0<=hF hs b - gs.getD b 0:=by unfold wI at hpw;rw [pairwise_map] at hpw;exact hpw.imp λ{a b} h=>by simpa using h
  have lod:od.length=aj.length:=by rw [hod.length_eq,length_range]
  have n3:=Jn (o:=.lst ((wI od).map V.int)) hD;generalize upd H2 D (.lst ((wI od).map V.int))=H3 at *;have S3:Qt H H3:=sb.trans n3.same.b;have SO3:Yt Pc H H3:=so.trans n3.same.o;have hL3:=hL2.same n3.same;symm;refine ⟨D,_,rfl,SqL.of n3.at_,λl4 H4 n4=>?_⟩;have e4:H4 l4=some (.lst ((wI (od.take 1)).map V.int)):=by rw [n4.at_,show (some (1:Int))=some ((1:Nat):Int) from rfl,Gs,Cd]
  symm;refine ⟨D,_,rfl,.inl (SqL.of (n4.same _ _ n3.at_)),?_⟩;rw [Za,lod];symm;refine ⟨_,_,rfl,⟨"o","o","o","o"⟩,?_⟩;rw [show ((aj.length:Int) + 1 - 2).toNat=aj.length - 1 by lia];refine Zf (λi σ H' => ∃ l c o5,σ=[rf p,rf gl,rf hl,rf D,rf l,o5]/\H' l=some (.lst ((wI (od.take c)).map V.int))/\Vq aj.length (λi=>gs.getD i 0) (hF hs) (wsum (wF aj) way - ao) od (i + 1) c/\Qu H3 H')
   ⟨l4,1,none,rfl,e4,Vq.one,n4.same⟩ ?_ ?_
  ·nofun;rintro i σ H5 hi ⟨l,c,o5,rfl,hl5,lc,s5⟩;rw [show (2:Int) + (i:Int)=((i + 2:Nat):Int) by lia];have ck:=lc.ck;have S5:Qt H H5:=S3.trans s5.b;symm;refine ⟨D,_,rfl,SqL.of (s5 _ _ n3.at_),λl6 H6 n6=>?_⟩;have e6:H6 l6=some (.lst ((wI (od.take (i + 2))).map V.int)):=by rw [n6.at_,Gs,Cd]
   have S6:=S5.trans n6.same.b;symm;refine ⟨p,gl,hl,l6,ak,aj,ao,way,gs,hs,od.take (i + 2),rfl,hA.bf S6,ok,S6.to _ _ hg rfl,lg,S6.to _ _ hh rfl,lh,e6,(λj hj _=>iy j hj),λt7 H7 s7 f7 h7=>?_⟩;have S7:=S6.trans s7.b;symm;refine ⟨p,gl,hl,l,ak,aj,ao,way,gs,hs,od.take c,rfl,hA.bf S7,ok,S7.to _ _ hg rfl,lg,S7.to _ _ hh rfl,lh,s7 _ _ (n6.same _ _ hl5),(λj hj _=>iy j hj),λt8 H8 s8 f8 h8=>?_⟩;have b1:=hbd (od.take (i + 2));have b2:=hbd (od.take c);have l1:(od.take (i + 2)).length=i + 2:=by rw [length_take]; lia
   have l2:(od.take c).length=c:=by rw [length_take]; lia
   rw [l1] at h7;rw [l2] at h8;have S38:Qu H3 H8:=((s5.trans n6.same).trans s7).trans s8;symm;refine ⟨t7,t8,_,_,_,_,rfl,s8 _ _ h7,h8,b1,⟨"o","o"⟩,b2,⟨"o","o"⟩,?_⟩
   by_cases hlt:(wsum (wF aj) way - ao - Va aj.length (λi=>gs.getD i 0) (hF hs) (od.take (i + 2))) * (c:Int) < (wsum (wF aj) way - ao - Va aj.length (λi=>gs.getD i 0) (hF hs) (od.take c)) * ((i + 2:Nat):Int)
   ·rw [decide_eq_true hlt];symm;refine ⟨D,_,rfl,SqL.of (S38 _ _ n3.at_),λl9 H9 n9=>?_⟩;have e9:H9 l9=some (.lst ((wI (od.take (i + 2))).map V.int)):=by rw [n9.at_,Gs,Cd]
    nofun;exact ⟨l9,i + 2,_,rfl,e9,lc.next hlt,S38.trans n9.same⟩
   ·rw [decide_eq_false hlt];symm;exact ⟨l,c,_,rfl,s8 _ _ (s7 _ _ (n6.same _ _ hl5)),lc.keep hlt,S38⟩
  ·rintro σ H5 ⟨l,c,o5,rfl,hl5,lc,s5⟩;rw [show aj.length - 1 + 1=aj.length by lia] at lc;have ck:=lc.ck;symm;exact q l (od.take c) H5 (S3.trans s5.b) (SO3.trans s5.o) (hL3.same s5) hl5 (Qtx hod ju jb lc) (by rw [length_take]; lia)
theorem Ie:Def P w K mg base 5 "kept_by" [Y5,"free",Y19,Y34] (Qk7 K CH au):=by
 refine Z.a45.mq [Y5,"free",Y19,Y34,"least",Y39,"paper",Y7] λH vs Q E hr nD h=>?_;let ⟨p,fr,he,sl,tl,cl,tl2,cl2,ak,aj,ao,way,aq,st,st2,L,rfl,hA,ok,gr,hhe,tc2,l21,l22,hsl,hno,L0,L1,hw0,hx,gb,hb,q⟩:=h;refine ⟨_,(zcF (zcC (Qg 4 nD (Qd (Rn Z) hr (Qq {0} (Qq (Qb K {1} Qx) (Qq (Qb K {2} Qx) %[3|0]))))) (zcC (Qg 5 nD (Qe Qz)) (zcC (Qg 6 nD (Qe Qz)) (zcC (Xt (Zr Z.T.u1 (Qq (Qo (Yh Z) Z.HC.cl (Yb K {0}) (hr.mono (by decide))) Qz)) (Ql 7 nD) (Qm (Zz (Ud (Yn (K:=K) rfl) {7} {3} (by with_unfolding_all rfl)) (zcF (zcC (Yq (Kw K {5} (Qq (Qy Xm (Qb K {4} Qx) (Qy Qi (Qb K {4} Qx) (Qb K (Qb K {1} Qx) {7}))) Qz))) (zc1 (Yq (Kw K {6} (Qq (Zc (Qq Jq (Qq (Qb K (Qb K {1} Qx) {7}) Qz))) Qz)))))) (zcF (zcC (Yq (Kw K {5} (Qq (Qy Qi (Qb K {4} Qx) (Qb K (Qb K {2} Qx) {7})) Qz))) (zc1 (Yq (Kw K {6} (Qq (Qd (Nj Z) hr (Qq (Qb K (Qb K {2} Qx) {7}) %[7|0])) Qz))))))))) (zcL (Qf (Zc (Qq Jq (Qq (Qd (Nv Z) hr (Qq {0} (Qq {5} (Qq (Qb K {4} Qx) Qz)))) %[6|0])))))))))),?_⟩;have lw:=ok.bok.w1;have AC:Qx6 K au:=Z.b7.a;have lg:=gr.ok.l1;symm;refine ixU gr.tup rfl ?_;symm;refine ixU hhe rfl ?_;symm;refine ⟨p,tl,tl2,sl,ak,aj,ao,way,st.1,st2.1,L,rfl,hA,ok,gr.tc.g,lg,tc2.g,l21,hsl,hno,λtb H1 s1 ftb htb=>?_⟩;generalize hB:wsum (wF aj) way - ao - Va aj.length (λi=>st.1.getD i 0) (hF st2.1) L=B at *;symm;refine λlv H2 n2=>?_;symm;refine λpl H3 n3=>?_;have s3:Qu H1 H3:=n2.same.trans n3.same;have S3:Qu H H3:=s1.trans s3;have nlp:lv≠pl:=Qj n2.at_ n3.none;let ⟨dx,hp,wa,g1,g2,g3⟩:=(hA.same S3).ex;let ⟨dh,bb,ww,h1,h2,h3⟩:=g2.ex;symm;refine ⟨p,_,dx,_,_,rfl,g1,AC.cl,AC.nH,Yf _ _,hp,dh,_,rfl,h1,Uo _ _ _,hp,ak,aj,ao,rfl,g2,?_⟩;walk_at "r";have fl1:H1 lv=none:=n2.none;have fp1:H1 pl=none:=n2.same.free n3.none;have hlvK:∀ i,i < aj.length->(lvK aj.length (λi=>st.1.getD i 0) (hF st2.1) (wsum (wF aj) way - ao) L).take (i + 1)=(lvK aj.length (λi=>st.1.getD i 0) (hF st2.1) (wsum (wF aj) way - ao) L).take i ++ [if i∈L then B + (L.length:Int) * st.1.getD i 0 else (L.length:Int) * hF st2.1 i]:=λi hi=>by
  have hl:i < (lvK aj.length (λi=>st.1.getD i 0) (hF st2.1) (wsum (wF aj) way - ao) L).length:=by rw [Sz]; exact hi
  rw [take_succ,getElem?_eq_getElem hl];have e:=Ad (g:=λi=>st.1.getD i 0) (h:=hF st2.1) (W:=wsum (wF aj) way - ao) (S:=L) hi;rw [getD_get _ _ hl,hB] at e;rw [e];rfl
 generalize hV:lvK aj.length (λi=>st.1.getD i 0) (hF st2.1) (wsum (wF aj) way - ao) L=V' at *;have lV:V'.length=aj.length:=by rw [<- hV]; exact Sz
 refine Zf (λi σ H'=>(∃ o7,σ=[rf p,rf fr,rf he,rf sl,rf tb,rf lv,rf pl,o7])/\Qu H1 H'/\H' lv=some (.lst ((V'.take i).map V.int))/\∃ ts:K6,H' pl=some (.lst (ts.map V.ref))/\ts.length=i/\(∀ t∈ts,t≠lv/\t≠pl)/\∀ (j:Nat) t,ts[j]? = some t->∃ c,H' t=some (.tup (Cb (Pd L st.2 st2.2 j).1 c))/\Xp H1 c (Pd L st.2 st2.2 j).2)
  ⟨⟨_,rfl⟩,s3,n3.same _ _ n2.at_,[],n3.at_,rfl,(λt z=>by cases z),λj t z=>by simp at z⟩ ?_ ?_
 ·nofun;rintro i σ H4 hi ⟨⟨o7,rfl⟩,s4,hlv,ts,hpl,lts,nts,hts⟩;have hi2:i < aj.length:=hi;have S4:Qu H H4:=s1.trans s4;rw [Int.zero_add];have gbi:=gb i;have hbi:=hb i;have step:∀ (v:Int) (c tp:G5) (H6:Hp),v=(if i∈L then B + (L.length:Int) * st.1.getD i 0 else (L.length:Int) * hF st2.1 i)->Xp H1 c (Pd L st.2 st2.2 i).2->New (upd H4 lv (.lst ((V'.take i).map V.int ++ [.int v]))) tp (.tup (Cb (Pd L st.2 st2.2 i).1 c)) H6 ->
    Qu H1 (upd H6 pl (.lst (ts.map V.ref ++ [.ref tp])))/\upd H6 pl (.lst (ts.map V.ref ++ [.ref tp])) lv=some (.lst ((V'.take (i + 1)).map V.int))/\∃ us:K6,upd H6 pl (.lst (ts.map V.ref ++ [.ref tp])) pl=some (.lst (us.map V.ref))/\us.length=i + 1/\(∀ t∈us,t≠lv/\t≠pl)/\∀ (j:Nat) t,us[j]? = some t->∃ c,upd H6 pl (.lst (ts.map V.ref ++ [.ref tp])) t=some (.tup (Cb (Pd L st.2 st2.2 j).1 c))/\Xp H1 c (Pd L st.2 st2.2 j).2:=λv c tp H6 ev hc n6=>by
   have lq:upd H4 lv (.lst ((V'.take i).map V.int ++ [.int v])) pl=some (.lst (ts.map V.ref)):=by rw [Qv nlp.symm]; exact hpl
   have ntl:tp≠lv:=(Qj (Qk (H:=H4) (a:=lv)) n6.none).symm;have ntp:tp≠pl:=(Qj lq n6.none).symm;refine ⟨λx o e=>?_,?_,ts ++ [tp],by rw [Qk]; simp,by simp [lts],λt ht=>?_,λj t hj=>?_⟩
   ·rw [Qv (Qj e fp1)];refine n6.same _ _ ?_;rw [Qv (Qj e fl1)];exact s4 _ _ e
   ·rw [Qv nlp,n6.same _ _ Qk,hlvK i hi2,ev];simp
   ·rcases O5.mp ht with z | z
    ·exact nts t z
    ·rw [mem_singleton.mp z];exact ⟨ntl,ntp⟩
   ·by_cases hjl:j < ts.length
    ·rw [getElem?_append_left hjl] at hj;let ⟨c',c1,c2⟩:=hts j t hj;let ⟨a1,a2⟩:=nts t (R9 hj);refine ⟨c',?_,c2⟩;rw [Qv a2];refine n6.same _ _ ?_;rw [Qv a1];exact c1
    ·have hj2:j=ts.length:=by have:=(N5.mp hj).1;simp at this;lia
     subst hj2;simp at hj;subst hj;rw [lts];exact ⟨c,by rw [Qv ntp]; exact n6.at_,hc⟩
  let ⟨ls,a1,a2,a3,a4⟩:=gr.tc.ex;let ⟨ls2,b1,b2,b3,b4⟩:=tc2.ex;have l2:=gr.ok.l2;have htb4:=s4 _ _ htb;symm;refine ⟨sl,_,rfl,.inl (SqL.of (S4 _ _ hsl)),rfl,by simp [Ve],?_⟩;rw [if_neg Bool.false_ne_true,Vp]
  by_cases hm:i∈L
  ·rw [decide_eq_true (show (i:Int)∈wI L from Pt.mpr hm)];have gg:(st.1.map V.int)[i]? = some (.int (st.1.getD i 0)):=by simp [getD,show i < st.1.length by lia]
   symm;refine ⟨.inl ⟨rfl,_,SqL.of hlv⟩,?_⟩;symm;refine ixU htb4 rfl ?_;symm;refine ixU htb4 rfl ?_;symm;refine ixU (S4 _ _ gr.tup) rfl ?_;symm;refine ixW i (S4 _ _ gr.tc.g) gg ?_;walk_at "m";symm;refine ⟨lv,_,_,rfl,rfl,hlv,by rw [sizeLine_eq,length_map,length_take]; lia,?_⟩;have k5:∀ x o,H4 x=some o->x≠lv->upd H4 lv (.lst ((V'.take i).map V.int ++ [.int (B + (L.length:Int) * st.1.getD i 0)])) x=some o:=λx o e hne=>by rw [Qv hne]; exact e
   have kk5:∀ x o,H1 x=some o->upd H4 lv (.lst ((V'.take i).map V.int ++ [.int (B + (L.length:Int) * st.1.getD i 0)])) x=some o:=λx o e=>k5 _ _ (s4 _ _ e) (Qj e fl1);have step5:=step (B + (L.length:Int) * st.1.getD i 0);generalize upd H4 lv (.lst ((V'.take i).map V.int ++ [.int (B + (L.length:Int) * st.1.getD i 0)]))=H5 at *;have lq:=k5 _ _ hpl nlp.symm;have hil:i < ls.length:=by lia
   have hch:=a4 i ls[i] (st.2.getD i []) (R3 hil) (by simp [getD,show i < st.2.length by lia]);have gc:(ls.map V.ref)[i]? = some (.ref ls[i]):=by simp [hil]
   symm;refine ⟨.inl ⟨rfl,_,SqL.of lq⟩,?_⟩;symm;refine ixU (kk5 _ _ (s1 _ _ gr.tup)) rfl ?_;symm;refine ixW i (kk5 _ _ (s1 _ _ a1)) gc ?_;symm;refine λtp H6 n6=>?_;refine ⟨pl,_,_,rfl,rfl,n6.same _ _ lq,by rw [sizeLine_eq,length_map]; lia,?_⟩;have hrk:Pd L st.2 st2.2 i=(none,(st.2.getD i []).map Uu):=by unfold Pd; rw [if_pos hm]
   nofun;refine ⟨⟨_,rfl⟩,step5 ls[i] tp H6 (by rw [if_pos hm]) (by rw [hrk]; exact (hch.same s1).i) (by rw [hrk]; exact n6)⟩
  ·rw [decide_eq_false (show ¬ (i:Int)∈wI L from λz=>hm (Pt.mp z))];obtain ⟨hv,ehv⟩:∃ hv,st2.1.getD i none=some hv:=by
    cases e:st2.1.getD i none with
    | none=>exact absurd e (hno i hi2 hm)
    | some hv=>exact ⟨hv,rfl⟩
   have gg:(st2.1.map oV)[i]? = some (.int hv):=by rw [getElem?_map];rw [getD_eq_getElem?_getD,getElem?_eq_getElem "o"] at ehv;rw [getElem?_eq_getElem "o"];simp at ehv;rw [Option.map_some,ehv];rfl
   have ehF:hF st2.1 i=hv:=by unfold hF; rw [ehv]; rfl
   rw [ehF] at hbi step;symm;refine ⟨.inl ⟨rfl,_,SqL.of hlv⟩,?_⟩;symm;refine ixU htb4 rfl ?_;symm;refine ixU (S4 _ _ hhe) rfl ?_;symm;refine ixW i (S4 _ _ tc2.g) gg ?_;walk_at "m";symm;refine ⟨lv,_,_,rfl,rfl,hlv,by rw [sizeLine_eq,length_map,length_take]; lia,?_⟩;have k5:∀ x o,H4 x=some o->x≠lv->upd H4 lv (.lst ((V'.take i).map V.int ++ [.int ((L.length:Int) * hv)])) x=some o:=λx o e hne=>by rw [Qv hne]; exact e
   have kk5:∀ x o,H1 x=some o->upd H4 lv (.lst ((V'.take i).map V.int ++ [.int ((L.length:Int) * hv)])) x=some o:=λx o e=>k5 _ _ (s4 _ _ e) (Qj e fl1);have f5:∀ x,upd H4 lv (.lst ((V'.take i).map V.int ++ [.int ((L.length:Int) * hv)])) x=none->H1 x=none:=λx e=>by
    by_cases hx:x=lv
    ·rw [hx,Qk] at e; cases e
    ·rw [Qv hx] at e; exact s4.free e
   have step5:=step ((L.length:Int) * hv);generalize upd H4 lv (.lst ((V'.take i).map V.int ++ [.int ((L.length:Int) * hv)]))=H5 at *;have lq:=k5 _ _ hpl nlp.symm;have hil:i < ls2.length:=by lia
   have hch:=b4 i ls2[i] (st2.2.getD i []) (R3 hil) (by simp [getD,show i < st2.2.length by lia]);have gc:(ls2.map V.ref)[i]? = some (.ref ls2[i]):=by simp [hil]
   have hs5:Qu H1 H5:=λx o e=>kk5 x o e;symm;refine ⟨.inl ⟨rfl,_,SqL.of lq⟩,?_⟩;symm;refine ixU (kk5 _ _ (s1 _ _ hhe)) rfl ?_;symm;refine ixW i (kk5 _ _ (s1 _ _ b1)) gc ?_;symm;refine ⟨ls2[i],(st2.2.getD i []).map Uu,i,rfl,((hch.same s1).same hs5).i,λtp H6 n6=>?_⟩;refine ⟨pl,_,_,rfl,rfl,n6.same _ _ lq,by rw [sizeLine_eq,length_map]; lia,?_⟩;have hrk:Pd L st.2 st2.2 i=(some (Fc ((st2.2.getD i []).map Uu) i),(st2.2.getD i []).map Uu):=by unfold Pd; rw [if_neg hm]
   nofun;refine ⟨⟨_,rfl⟩,step5 ls2[i] tp H6 (by rw [if_neg hm]) (by rw [hrk]; exact (hch.same s1).i) (by rw [hrk]; exact n6)⟩
 ·rintro σ H4 ⟨⟨o7,rfl⟩,s4,hlv,ts,hpl,lts,nts,hts⟩;have S4:Qu H H4:=s1.trans s4;nofun;rw [<- lV,take_length] at hlv;symm;refine ixU (s4 _ _ htb) rfl ?_;refine ⟨p,lv,ak,aj,ao,way,V',(L.length:Int),rfl,hA.same S4,ok,hlv,lV,hw0,"o","o",hx,λrows tp rl H5 hrows frl s5 htp hrl=>?_⟩;symm;refine λt6 H6 n6=>?_;rw [Int.natAbs_natCast] at htp hrl;refine q t6 tp rl pl rows H6 ((S4.trans s5).trans n6.same) n6.at_ hrows (n6.same _ _ htp) (n6.same _ _ hrl) ⟨ts,n6.same _ _ (s5 _ _ hpl),by simp [Jl,lts],λj t r a b=>?_⟩;have hj:j < aj.length:=by rw [<- lts]; exact (N5.mp a).1
  let ⟨c,c1,c2⟩:=hts j t a;have er:Pd L st.2 st2.2 j=r:=by simpa [Jl,hj] using b
  rw [<- er];exact ⟨c,n6.same _ _ (s5 _ _ c1),((c2.same s4).same s5).same n6.same⟩
theorem Ir:Def P w K mg base 10 "within" [Y2,Y8,Y18] (Qk0 CH Pb Zs "best_room.<locals>.<lambda>" Pc Xb "loose_ones.<locals>.<lambda>"):=by
 refine Z.a47.mq [Y2,Y8,Y18,Y5,"people","free",Y19] λH vs Q E hr nD h=>?_;let ⟨x,wy,pu,ak,aj,ao,way,ps,rfl,hA,HG,hre,hwy,ln,f9,fj,hpu,lps,pb,hL,hL3,q⟩:=h;refine ⟨_,(zcF (zcC (Qg 3 nD (Qx9 (Mq (CH:=CH) Z.T Z.b7.a Z.a78) Z.b7.mks Z.b7.kp Z.b7.mgC (hr.mono (by decide)) rfl %[0,1|0])) (zcC (Qg 4 nD (Qo (Yh Z) Z.HC.cl {0} (hr.mono (by decide)))) (zcC (Qg 5 nD (Qd (Fu Z) hr %[3|0])) (zcC (Qg 6 nD (Qd (Oq Z) hr (Qq {3} (Qq (Zt [Y7,Y5,Y18] [none,some 3,some 2] (Zr Z.T.u1 %[4|0]) (Qd (Bj Z) hr %[1,2,0|0])) Qz)))) (zcC (Zz (Ud (Yn (K:=K) rfl) Zg (Qb K {6} Qx) (by with_unfolding_all rfl)) (Qf (Qd (Ie Z) hr (Qq {3} (Qq {5} (Qq {6} (Qq (Hc rfl (by rfl) Z.T.u6 (by rfl) Z.T.u1 {4}) Qz)))))) Qh) (zcC (Zz (q_t Ft (Qr (Xu (K:=K) rfl rfl) (by rfl) Z.T.u10 Xg (Qq (Qb K {6} Qx) Qz)) (Qo (Mn Z) Z.b7.cl {3} (hr.mono (by decide)))) (Qf (Zc (Qq Jq (Qq (Zt [Y7,Y19] [none,some 6] (Zr Z.T.u1 %[4|0]) (Qd (Nj Z) hr (Qq (Qb K (Qb K {1} Qx) {0}) %[0|0]))) Qz)))) Qh) (zcL (Qf (Qd (Ie Z) hr (Qq {3} (Qq {5} (Qq {6} (Qq (Qd (Qnw Z) hr (Qq {3} (Qq (Qb K {5} Qx) (Qq (Qb K {6} Qx) Qz)))) Qz)))))))))))))),?_⟩;have aok:Qn ak aj way:=⟨HG.bok,ln,Jz f9⟩
 have lw:=HG.bok.w1;have l0:=HG.w1;have hx:=HG.x;have hwb:=Ng (way:=way) hx "o";symm;refine λxa da nxa nda nea=>?_;have sa:Qu H (upd (upd H da (.own xa)) xa (.ins au da [])):=λc o e=>by rw [Qv (Qj e nxa),Qv (Qj e nda)];exact e
 refine ⟨xa,da,x,wy,ak,aj,ao,way,rfl,Qk,hA.same sa,sa _ _ hwy,λwa H1 f1 p1 w1 kp1=>⟨rfl,?_⟩⟩;have S1:Qu H H1:=λc o e=>kp1 c o (sa _ _ e) (Qj e nxa);have aim1:Xn CH au H1 xa ak aj ao way:=⟨da,x,wa,p1,hA.same S1,w1⟩
 clear kp1 sa;let ⟨dh,bb,ww,h1,h2,h3⟩:=(hA.same S1).ex;symm;refine ⟨x,dh,_,rfl,h1,Uo _ _ _,x,ak,aj,ao,rfl,hA.same S1,?_⟩;symm;refine ⟨xa,ak,aj,ao,way,rfl,aim1,aok,f9,fj,hL.same S1,λfr tl cl aq st H2 s2 so2 hL2 ft fc ff tcf cb gr=>?_⟩;have hL32:Qa H2 Pc Xb "loose_ones.<locals>.<lambda>" := (hL3.same S1).o (hL.same S1).tbl Z.a46 so2;have aim2:=aim1.bf s2;have U2:Qt H H2:=S1.b.trans s2;have O2:Wx Pb Pc H H2:=Wx.trans (S1.o (P:=Pb)).two1 so2.two1;nofun;refine ⟨_,rfl,_,rfl,_,rfl,"o","o",λD hD=>?_⟩;rw [Int.toNat_natCast];refine Zl (λi=>oV ((ps.getD i none).map λx=>Zh aj way i - x)) sml hD (λi hi H3 N s3 hN=>?_) λH3 s3 d3=>?_
 ·rw [Int.zero_add];symm;refine ⟨xa,pu,ak,aj,ao,way,ps,i,rfl,aim2.same s3,aok,s3 _ _ (U2.to _ _ hpu rfl),hi,lps,?_⟩;exact hN _ (Qu.refl _)
 have d3':H3 D=some (.lst ((Uh aj way ps).map oV)):=by rw [d3];unfold Uh;rw [map_map];rfl
 symm;refine ⟨xa,D,ak,aj,ao,way,_,rfl,aim2.same s3,aok,hL2.same s3,d3',by simp [Uh],λhe tl2 cl2 jj st2 H4 s4 so4 hL4 ft4 fc4 fh4 tcf2 cb2 ca=>?_⟩;have hd:=ca.held aok f9 fj;have hL34:Qa H4 Pc Xb "loose_ones.<locals>.<lambda>" := (hL32.same s3).o (hL2.same s3).tbl Z.a46 so4;have U4:Qt H H4:=U2.trans (s3.b.trans s4);have O4:Wx Pb Pc H H4:=O2.trans ((s3.o (P:=Pb)).two1.trans so4.two1);have gr4:Ur true H4 fr tl cl ak aj way aq st:=gr.bf (s3.b.trans s4);have aim4:Xn CH au H4 xa ak aj ao way:=(aim2.same s3).bf s4;clear s2 so2 s3 so4 s4 U2 O2 aim1 aim2 tcf tcf2 gr d3;have gb:∀ i,-(10 ^ 100) < st.1.getD i 0/\st.1.getD i 0 < 10 ^ 100:=λi=>by
  by_cases hi:i < st.1.length
  ·have:=Ea hx gr4.ok cb (st.1.getD i 0) (by rw [getD_get _ _ hi]; exact M9 hi);lia
  ·rw [getD_eq_getElem?_getD,getElem?_eq_none "o"];exact ⟨by decide,by decide⟩
 have hbd:=Sw hx hd cb2 pb;have hb:∀ i,-(10 ^ 100) < hF st2.1 i/\hF st2.1 i < 10 ^ 100:=λi=>by have:=hbd i;lia
 have hl1:=hd.l1;symm;refine ixU ca.tup rfl ?_;refine ⟨tl2,_,rfl,.inl (SqL.of ca.tc.g),rfl,Qj2 _,?_⟩;rw [if_neg Bool.false_ne_true,Qv8]
 by_cases hn:none∈st2.1
 ·rw [decide_eq_true hn];have hno:∀ i,i < aj.length->ps.getD i none=none:=λi hi=>by refine R4 λz=>?_;let ⟨j,hj,e⟩:=A0u hn;refine hd.all_ ⟨i,hi,z⟩ j "o" ?_;rw [getD_eq_getElem?_getD,getElem?_eq_getElem hj,e];rfl
  let ⟨hh,lo⟩:=Qyk (ak:=ak) (way:=way) (W:=wsum (wF aj) way - ao) (hs:=st2.1) l0 hno gr4.cl_;symm;refine λsl H5 n5=>?_;have hsl:H5 sl=some (.lst ((wI (range aj.length)).map V.int)):=by rw [n5.at_];unfold wI;rw [map_map];rfl
  have ca5:=ca.tc.same n5.same;refine ⟨xa,fr,he,sl,tl,cl,tl2,cl2,ak,aj,ao,way,aq,st,st2,_,rfl,aim4.same n5.same,aok,gr4.bf n5.same.b,n5.same _ _ ca.tup,ca5,hd.l1,hd.l2,hsl,lo.some_,lo.kept.pos,by rw [length_range]; lia,l0,hx,gb,hb,λt tp rl pl rows H6 s6 e1 e2 e3 e4 e5=>?_⟩;have S6:=n5.same.trans s6;exact q t H6 (U4.trans S6.b) (O4.trans (S6.o (P:=Pb)).two1) (hL4.same S6) (hL34.same S6) (.inl ⟨tp,rl,pl,_,_,_,e1,e3,e4,e5,Qd7 aok f9 fj HG.b1 hx pb gr4.good gr4.ok gr4.nn gr4.cl_ cb ca.good hd cb2 lo e2⟩)
 rw [decide_eq_false hn];have iy:∀ i,i < aj.length->st2.1.getD i none≠none:=λi hi e=>by
  rw [getD_eq_getElem?_getD,getElem?_eq_getElem "o"] at e;have e':st2.1[i]=none:=by simpa using e
  exact hn (e' ▸ M9 _)
 have hg4:H4 tl2=some (.lst (((range aj.length).map (hF st2.1)).map V.int)):=by rw [ca.tc.g,all_ints hd.l1 hn]
 symm;refine ixU ca.tup rfl ?_;refine ⟨tl2,_,rfl,SqL.of hg4,?_⟩;let ⟨dx,hp,wa',g1,g2,g3⟩:=aim4.ex;symm;refine ⟨xa,dx,_,rfl,g1,by rfl,?_⟩;refine ⟨xa,ak,aj,ao,way,rfl,aim4,aok,λH5 s5=>?_⟩;symm;refine Fm (λe=>?_) (λe=>?_)
 ·have jb:wsum (wF aj) way - ao < ((range aj.length).map (hF st2.1)).sum:=Q7 e;have hpr:∀ i,i < aj.length->∃ c:G5,(∃ ls:K6,H5 cl2=some (.lst (ls.map V.ref))/\(ls.map V.ref)[i]? = some (.ref c))/\Zw H5 c (st2.2.getD i []):=λi hi=>by
   let ⟨ls,e1,e2,e3,e4⟩:=ca.tc.ex;have h2:=hd.l2;have hil:i < ls.length:=by lia
   exact ⟨ls[i],⟨ls,s5 _ _ e1,by simp [hil]⟩,(e4 i ls[i] (st2.2.getD i []) (R3 hil) (by simp [getD,show i < st2.2.length by lia])).same s5⟩
  refine ⟨_,rfl,_,rfl,"o","o",λD' hD'=>?_⟩;rw [Int.toNat_natCast];refine Yk (λi y H' => ∃ t c,y=.ref t/\t≠D'/\c≠D'/\H' t=some (.tup (Cb (Pd [] [] st2.2 i).1 c))/\Xp H5 c (Pd [] [] st2.2 i).2) sml hD' (λi y H H' k ⟨t,c,e,n1,n2,h,h'⟩=>⟨t,c,e,n1,n2,k t _ n1 h,h'⟩) ?_ ?_
  ·rintro i H6 ys N hi s6 d6 hN;rw [Int.zero_add];let ⟨c,⟨ls,e1,e2⟩,hc⟩:=hpr i hi;have hrk:Pd [] [] st2.2 i=(some (Fc ((st2.2.getD i []).map Uu) i),(st2.2.getD i []).map Uu):=by unfold Pd; rw [if_neg (by simp)]
   symm;refine ixU (s6 _ _ (s5 _ _ ca.tup)) rfl ?_;symm;refine ixW i (s6 _ _ e1) e2 ?_;symm;refine ⟨c,(st2.2.getD i []).map Uu,i,rfl,(hc.same s6).i,λt7 H7 n7=>?_⟩;let ⟨ts,t1,_⟩:=hc;exact hN _ _ n7.same ⟨t7,c,rfl,(Qj d6 n7.none).symm,Qj t1 hD',by rw [hrk]; exact n7.at_,by rw [hrk]; exact Zw.i ⟨ts,t1,‹_›⟩⟩
  rintro ys H6 s6 d6 ly r6;let ⟨ts,ets,pts⟩:=Um (P:=λi t => ∃ c,H6 t=some (.tup (Cb (Pd [] [] st2.2 i).1 c))/\Xp H5 c (Pd [] [] st2.2 i).2) (λi y e=>by let ⟨t,c,e1,e2,e3,e4,e5⟩:=r6 i y e;exact ⟨t,e1,c,e4,e5⟩)
  subst ets;have lts:ts.length=aj.length:=by simpa using ly
  symm;refine λt7 H7 n7=>?_;have S7:Qu H4 H7:=(s5.trans s6).trans n7.same;refine q t7 H7 (U4.trans S7.b) (O4.trans (S7.o (P:=Pb)).two1) (hL4.same S7) (hL34.same S7) (.inr ⟨D',_,n7.at_,⟨ts,n7.same _ _ d6,by simp [Jl,lts],λj t r a b=>?_⟩,Qe9 hx pb ca.good hd cb2 iy jb⟩);have hj:j < aj.length:=by rw [<- lts]; exact (N5.mp a).1
  let ⟨c,c1,c2⟩:=pts j t a;have er:Pd [] [] st2.2 j=r:=by simpa [Jl,hj] using b
  rw [<- er];exact ⟨c,n7.same _ _ c1,(c2.same s6).same n7.same⟩
 ·have jb:((range aj.length).map (hF st2.1)).sum<=wsum (wF aj) way - ao:=by refine Int.not_lt.mp λz=>e (O8 z)
  have gr5:=gr4.bf s5.b;have ca5:=ca.tc.same s5;have aim5:=aim4.same s5;have hask:∀ S,-(10 ^ 150) < wsum (wF aj) way - ao - Va aj.length (λi=>st.1.getD i 0) (hF st2.1) S/\wsum (wF aj) way - ao - Va aj.length (λi=>st.1.getD i 0) (hF st2.1) S < 10 ^ 150:=λS=>by
   have h:=Nn (B:=10 ^ 100) (l:=(range aj.length).map λi=>if i∈S then st.1.getD i 0 else hF st2.1 i) λz hz=>by
    let ⟨i,_,rfl⟩:=O3.mp hz
    by_cases hm:i∈S
    ·rw [if_pos hm];have:=gb i;lia
    ·rw [if_neg hm];have:=hb i;lia
   rw [length_map,length_range] at h;have h2:(aj.length:Int) * 10 ^ 100<=10 * 10 ^ 100:=U0 "o" (by decide);unfold Va;dsimp only;lia
  symm;refine ixU gr5.tup rfl ?_;symm;refine ixU (s5 _ _ ca.tup) rfl ?_;symm;refine ⟨xa,tl,tl2,ak,aj,ao,way,st.1,st2.1,rfl,aim5,aok,gr5.tc.g,gr5.ok.l1,ca5.g,hd.l1,iy,l0,hL34.same s5,hask,jb,λsl L H6 s6 so6 hL6 hsl hk lL=>?_⟩;have lo:=Qqj aok hd iy hk;have hLT6:Qa H6 Pb Zs "best_room.<locals>.<lambda>" := (hL4.same s5).o (hL34.same s5).tbl Z.a46.symm so6;symm;refine ⟨xa,fr,he,sl,tl,cl,tl2,cl2,ak,aj,ao,way,aq,st,st2,L,rfl,aim5.bf s6,aok,gr5.bf s6,s6.to _ _ (s5 _ _ ca.tup) rfl,ca5.bf s6,hd.l1,hd.l2,hsl,lo.some_,lo.kept.pos,lL,l0,hx,gb,hb,λt tp rl pl rows H7 s7 e1 e2 e3 e4 e5=>?_⟩;exact q t H7 ((U4.trans s5.b).trans (s6.trans s7.b)) (O4.trans ((s5.o (P:=Pb)).two1.trans (so6.two2.trans (s7.o (P:=Pb)).two1))) (hLT6.same s7) (hL6.same s7) (.inl ⟨tp,rl,pl,_,_,_,e1,e3,e4,e5,Qd7 aok f9 fj HG.b1 hx pb gr4.good gr4.ok gr4.nn gr4.cl_ cb ca.good hd cb2 lo e2⟩)
def Na:Def P w K mg base 1 "_law_whole" [Y24] Qp8:=by refine Z.a48.mq [Y24] λH vs Q E hr nD h=>?_;let ⟨i,rfl,q⟩:=h;refine ⟨_,(Qf (Qe5 (Zp K Z.T.u3 (Qq {0} (Qq (Ul (v:=.ty "int") rfl Z.T.u4 Lr rfl) Qz))) (Qe1 (Qe2 (Zp K Z.T.u3 (Qq {0} (Qq (Ul (v:=.ty "bool") rfl Z.T.u5 Qz7 rfl) Qz))))))),?_⟩;symm;refine ⟨_,_,_,true,rfl,.int _,Ya _ _,_,rfl,Qoq ?_⟩;symm;refine ⟨_,_,_,false,rfl,.int _,Qez _,_,rfl,?_⟩;exact q
theorem Qo4:Def P w K mg base 1 "paid" [Y2,Y8,Y27] (Ql4 K):=by
 refine Z.a49.mq [Y2,Y8,Y27] λH vs Q E hr nD h=>?_;let ⟨v,a,t,parts,rows,way,rfl,⟨r,h1,h2⟩,hS,hl,hin,q⟩:=h;refine ⟨_,(Qf (Zt [Y17,Y27] [none,some 2] (Vo K {1}) (Qb K (Qb K {1} Qx) {0}))),?_⟩;refine ⟨_,rfl,a,rfl,⟨_,hS⟩,λD hD=>?_⟩;refine Ke way (λr=>rows.getD r.toNat 0) hS sml hD (λz hz H1 N s1 hN=>?_) λH1 s1 d1=>?_
 ·let ⟨b1,b2⟩:=hin z hz;have g:(rows.map V.int)[z.toNat]? = some (.int (rows.getD z.toNat 0)):=by
   have:z.toNat < rows.length:=by lia
   simp [this]
  refine ⟨_,rfl,?_⟩;refine ixU (s1 _ _ h1) rfl ?_;refine ⟨_,rfl,?_⟩;exact ixL (SqL.of (s1 _ _ h2)) (Qc z.toNat "o" g) hN
 ·exact q D H1 ⟨s1,hD,d1⟩
theorem Ii:Def P w K mg base 2 "shares" [Y2,Y8,Y27] (Qk1 K CH):=by
 refine Z.a50.mq [Y2,Y8,Y27,Y37] λH vs Q E hr nD h=>?_;let ⟨p,a,t,ak,aj,ao,parts,rows,way,rfl,hA,hP,hS,fu,hl,hpb,gm,hin,q⟩:=h;refine ⟨_,(zcF (zcC (Qg 3 nD (Qd (Qo4 Z) hr %[0,1,2|0])) (zcL (Qf (Zt [Y7,Y37,Y2,Y27,Y8] [none,some 3,some 0,some 2,some 1] (Zr Z.T.u1 (Qq (Qo (Yh Z) Z.HC.cl {0} (hr.mono (by decide))) Qz)) (Qy Zv (Qy Qi (Qb K {3} Qx) (Qb K (Qb K (Yb K {2}) {0}) (Qb K {4} {0}))) (Qb K {1} {0}))))))),?_⟩;nofun;refine ⟨_,rfl,_,rfl,_,rfl,_,a,t,parts,rows,way,rfl,hP,hS,"o",hin,λc H1 n1=>?_⟩;have hA1:=hA.same n1.same;let ⟨r,hp1,hp2⟩:=hP.same n1.same;let ⟨dx,b,w,h1,h2,h3⟩:=hA1.ex;let ⟨ws,hw,hR⟩:=id h3;nofun;refine ⟨_,rfl,p,dx,_,rfl,h1,Uo _ _ _,p,ak,aj,ao,rfl,hA1,?_⟩;refine ⟨_,rfl,"o","o",λD hD=>?_⟩;refine Yk (λi y _=>y=.int (parts * (aj.getD i []).getD (way.getD i 0).toNat 0 - rows.getD (way.getD i 0).toNat 0)) sml hD (λ_ _ _ _ _ h=>h) ?_ ?_
 ·rintro i H2 ys N hi s2 d2 hN;have hi':i < aj.length:=by lia
  have hi2:i < way.length:=by lia
  have hrow':aj[i]? = some aj[i]:=by simp [hi']
  let ⟨ra,g1,g2,g3⟩:=hR.at_ hrow';have g4:(way.map V.int)[i]? = some (.int way[i]):=by simp [hi2]
  let ⟨b1,b2⟩:=hin _ (M9 hi2);let ⟨b3,b4⟩:=gm _ (M9 hi');have hlt:way[i].toNat < aj[i].length:=by lia
  have g5:(aj[i].map V.int)[way[i].toNat]? = some (.int (aj[i][way[i].toNat])):=by simp [hlt]
  have b5:=b4 _ (M9 hlt);have g6:((Qcx way rows).map V.int)[i]? = some (.int (rows.getD way[i].toNat 0)):=by simp [Qcx,hi2]
  refine ⟨_,rfl,?_⟩;refine ixU (s2 _ _ hp1) rfl ?_;refine ⟨_,rfl,p,CH,dx,_,_,rfl,s2 _ _ h1,Z.HC.cl,Z.HC.nW,Jx _ _ _,_,rfl,?_⟩;refine ixL (SqL.of (s2 _ _ hw)) (Qc i "o" g2) ?_;refine ⟨_,rfl,_,rfl,?_⟩;refine ixL (s2.seq (n1.same.seq hS)) (Qc i "o" g4) ?_;refine ixL (SqL.of (s2 _ _ g3)) (Qc way[i].toNat "o" g5) ?_;refine ⟨_,_,rfl,rfl,⟨hpb,b5⟩,?_⟩;refine ⟨_,rfl,_,rfl,?_⟩;refine ixL (SqL.of (s2 _ _ n1.at_)) (Qc i "o" g6) ?_;refine ⟨_,_,rfl,rfl,?_⟩;refine hN _ _ (Qu.refl _) ?_;simp [hi',hi2,hlt]
 ·rintro ys H2 s2 d2 l2 r2;have e:ys=(Wj aj way parts rows).map V.int:=Vu (by rw [l2]; simp [Wj]) λi y e=>by
   have hi:i < aj.length:=by have:=(N5.mp e).1; lia
   exact ⟨_,by unfold Wj; rw [getElem?_map,getElem?_range hi]; rfl,r2 i y e⟩
  rw [e] at d2;exact q D H2 ⟨n1.same.trans s2,n1.same.free hD,d2⟩
theorem Qzx:Def P w K mg base 11 "share_out" [Y2,"word"] (Hx CH Pa Pb Pc Jy Zs Xb):=by
 refine Z.a54.mq [Y2,"word",Y8,Y5,"told"] λH vs Q E hr nD h=>?_;let ⟨x,ak,aj,ao,rfl,hA4,ok,hL4,q⟩:=h;refine ⟨_,(zcF (zcC (Qg 2 nD (Qd (Qc0 Z) hr %[0|0])) (zcC (Qg 3 nD (Nd (Kf (q_t Jg {1} Jq) (Qx9 (Mq (CH:=CH) Z.T Z.b7.a Z.a78) Z.b7.mks Z.b7.kp Z.b7.mgC (hr.mono (by decide)) rfl %[0,2|0]) (Qx9 (Mq (CH:=CH) Z.T Z.a53.a Z.a79) Z.a53.mks Z.a53.kp Z.a53.mgC (hr.mono (by decide)) rfl %[0,2|0])))) (zcC (Qg 4 nD (Qd (Io Z) hr %[3|0])) (zcL (Qf (Zc (Qq {2} (Qq (Qb K {4} Qx) (Qq (Qb K {4} Qx) Qz)))))))))),?_⟩;have hb0':∀ b∈ak,0<=b:=λb hb=>by have:=ok.b1 b hb; lia
 nofun;refine ⟨_,rfl,x,ak,aj,ao,rfl,hA4,ok.bok,ok.w3,hb0',hL4.1,λwy way H5 s5 so5 f5 h5 hL5 ln fit opt=>?_⟩;have pq:Qa H5 Pb Zs "best_room.<locals>.<lambda>" := hL4.2.1.o hL4.1.tbl Z.a51 so5;have hL35:Qa H5 Pc Xb "loose_ones.<locals>.<lambda>" := hL4.2.2.o hL4.1.tbl Z.a52 so5;have aok:Qn ak aj way:=⟨ok.bok,ln,Jz fit⟩
 have hA5:=hA4.bf s5;nofun;refine ⟨λv H' => ∃ xa dxa wa,v=.ref xa/\H' xa=some (.ins au dxa (Ny x wa))/\H' wa=some (.lst ((wI way).map V.int))/\Qu H5 H',?_,?_⟩
 ·symm;refine λxa da nxa nda nea=>?_;have sa:Qu H5 (upd (upd H5 da (.own xa)) xa (.ins au da [])):=λc o e=>by rw [Qv (Qj e nxa),Qv (Qj e nda)];exact e
  refine ⟨xa,da,x,wy,ak,aj,ao,way,rfl,Qk,hA5.same sa,sa _ _ h5,λwa H10 f10 p10 w10 kp10=>⟨rfl,?_⟩⟩;exact ⟨xa,da,wa,rfl,p10,w10,λc o e=>kp10 c o (sa _ _ e) (Qj e nxa)⟩
 rintro v H10 ⟨xa,dxa,wa,rfl,p10,w10,S10⟩;have aim10:Xn CH au H10 xa ak aj ao way:=⟨dxa,x,wa,p10,hA5.same S10,w10⟩
 symm;refine ⟨xa,ak,aj,ao,way,rfl,aim10,aok,fit,opt,pq.same S10,ok.w1,ok.x,λt0 tp rl cl aq st rows H11 s11 so11 hL11 f2 frl nrc ff g=>?_⟩;have hL11':Qa H11 Pa Jy "bring_in.<locals>.<lambda>" := (hL5.same S10).o (pq.same S10).tbl Z.a51.symm so11;have hL311:Qa H11 Pc Xb "loose_ones.<locals>.<lambda>" := (hL35.same S10).o (pq.same S10).tbl Z.a46 so11;symm;refine ixU g.tup rfl ?_;symm;refine ixU g.tup rfl ?_;symm;refine λt H12 n12=>?_;have S12:Qt H10 H12:=s11.trans n12.same.b;exact q t wy t0 tp rl cl way aq st rows H12 (s5.trans (S10.b.trans S12)) ⟨hL11'.same n12.same,hL11.same n12.same,hL311.same n12.same⟩ n12.at_ (S12.to _ _ (S10 _ _ h5) rfl) aok fit opt ⟨n12.same _ _ g.tup,n12.same _ _ g.pr,n12.same _ _ g.rl_,g.isr,g.chs.same n12.same,g.good,g.ok,g.nn,g.cl_,g.cb⟩
theorem Qs2:Def P w K mg base 12 "level_rooms" [Y2] (Qk5 CH Pa Pb Pc Jy Zs Xb):=by
 refine Z.a55.mq [Y2,"told",Y22,"rows","had",Y35,Y7,Y38] λH vs Q E hr nD h=>?_;let ⟨x,ak,aj,ao,rfl,hA,ok,hL,hre,q⟩:=h;refine ⟨_,(zcF (zcC (Qg 1 nD (Qd (Qzx Z) hr (Qq {0} (Qq Jq Qz)))) (zcC (Qg 2 nD (Qb K (Qb K {1} Qx) Qx)) (zcC (Qg 3 nD (Qb K (Qb K {1} Qx) Qx)) (zcC (Qg 4 nD (Qd (Ii Z) hr (Qq {0} (Qq (Qb K {1} Qx) (Qq (Qb K {1} Qx) Qz))))) (zcC (Qg 5 nD (Qe Qz)) (zcL (Qw (Xt (Zr Z.T.u1 (Qq (Qo (Yh Z) Z.HC.cl {0} (hr.mono (by decide))) Qz)) (Ql 6 nD) (zcF (zcC (Qg 7 nD (Qb K (Yb K {0}) {6})) (zc1 (Yq (Kw K {5} (Qq (Wk [Y17,"had",Y22,Y7,"rows",Y38] [none,some 4,some 2,some 6,some 3,some 7] (Zr Z.T.u1 (Qq (Qo (Vg Z) Z.HC.cl {0} (hr.mono (by decide))) Qz)) (q_t Jg (Qy Zv (Qy Qi {2} (Qb K {5} {0})) (Qb K {4} {0})) (Qb K {1} {3})) {0}) Qz))))))) (Qf {5}))))))))),?_⟩;have lw:=ok.bok.w1;have lb:=ok.bok.b1;have l0:=ok.w1;symm;refine ⟨x,ak,aj,ao,rfl,hA,ok,hL,λt wy t0 tp rl cl way aq st rows H1 s1 la1 ht hwy aok fit opt g=>?_⟩;have low:=g.low l0;have j9:Told true ak aj ao rows:=⟨way,_,g.r.best aok fit opt ok.b1 l0⟩
 have fair0:=j9.fair aok fit opt;have hpr:=g.pr;have hrl:=g.rl_;have lrows:=g.isr.1;have fpok:=Qm4 aok fit lrows ok.x hre l0 low;generalize hR:(rows.map λz=>z / ((bx aj.length rows:Nat):Int))=R at *;generalize hk0:(aj.length:Int) / ((bx aj.length rows:Nat):Int)=k at *;have kb:=Sj low "o" "o";have lR:R.length=ak.length:=by rw [low.len,lrows]
 have ln:=aok.len;have hA1:=hA.bf s1;symm;refine ixU ht rfl ?_;symm;refine ixU hpr rfl ?_;symm;refine ixU ht rfl ?_;symm;refine ixU hpr rfl ?_;symm;refine ixU ht rfl ?_;symm;refine ixU ht rfl ?_;refine ⟨x,wy,tp,ak,aj,ao,k,R,wI way,rfl,hA1,⟨rl,hpr,hrl⟩,SqL.of hwy,by simp [wI]; lia,"o","o",λrow hr=>⟨by have:=ok.bok.rows row hr; lia,λz hz=>by have:=ok.x row hr z hz; lia⟩,Qsk fit lR,λhd H2 n2=>?_⟩;have hA2:=hA1.same n2.same;have hrl2:=n2.same _ _ hrl;let ⟨dx,b,wm,h1,h2,h3⟩:=hA2.ex;let ⟨ws,hw,hRm⟩:=id h3;symm;refine λlv H3 n3=>?_;nofun;refine ⟨_,rfl,x,dx,_,rfl,n3.same _ _ h1,Uo _ _ _,x,ak,aj,ao,rfl,hA2.same n3.same,?_⟩;walk_at "r";refine Zf (λi σ H'=>(∃ o6 o7:Option V,σ=[rf x,rf t,iv k,rf rl,rf hd,rf lv,o6,o7])/\(∃ ls:K6,H' lv=some (.lst (ls.map V.ref))/\ls.length=i/\∀ (j:Nat) a,ls[j]? = some a->H' a=some (.lst ((((range ak.length).filter (Fh (aj.length:Int) ak.length aj rows j)).map λ(r:Nat)=>(r:Int)).map V.int)))/\(∀ c o,H2 c=some o->H' c=some o)/\(∀ c,H' c=none->H2 c=none)) ⟨⟨_,_,rfl⟩,⟨[],n3.at_,rfl,λj a z=>by simp at z⟩,n3.same,λc e=>n3.same.free e⟩ ?_ ?_
 ·nofun;rintro i σ H4 hi ⟨⟨o6,o7,rfl⟩,⟨ls,e1,e2,e3⟩,k4,f4⟩;let ⟨ra,r1,r2,r3⟩:=hRm.at_ (show aj[i]? = some aj[i] by simp [hi]);have gm:=ok.bok.rows _ (M9 hi);have hsh:=Qkk (F:=⟨ak,aj,ao,way,k,R⟩) fpok hi;nofun;rw [Int.zero_add];refine ⟨_,rfl,x,CH,dx,_,_,rfl,k4 _ _ h1,Z.HC.cl,Z.HC.nW,Jx _ _ _,_,rfl,?_⟩;refine ixW i (k4 _ _ hw) r2 ?_;nofun;refine ⟨_,rfl,.inl ⟨rfl,_,SqL.of e1⟩,?_⟩;refine ⟨_,rfl,x,dx,_,rfl,k4 _ _ h1,Uo _ _ _,x,ak,aj,ao,rfl,hA2.same k4,?_⟩;walk_at "d";refine Yy (Fh (aj.length:Int) ak.length aj rows i) (λ(r:Nat)=>.int r) sml hD ?_ ?_ ?_
  ·rintro r H5 N hr s5 hN;have g5:(aj[i].map V.int)[r]? = some (.int (wF aj i r)):=by simp [wF,getD,hi,show r < aj[i].length by lia]
   have g6:(R.map V.int)[r]? = some (.int (R.getD r 0)):=by simp [getD,show r < R.length by lia]
   have wb:=Qx7 ok.x i r;rw [Int.zero_add];symm;refine ixW r (s5 _ _ (k4 _ _ r3)) g5 ?_;walk_at "m";symm;refine ixW r (s5 _ _ (k4 _ _ hrl2)) g6 ?_;symm;refine ixW i (s5 _ _ (k4 _ _ n2.at_)) hsh ?_;symm;have ez:decide (V.int (k * wF aj i r - R.getD r 0)=V.int (Fp.share ⟨ak,aj,ao,way,k,R⟩ i (way.getD i 0)))=Fh (aj.length:Int) ak.length aj rows i r:=by rw [<- Qt8 aok fair0 low hi hr];simp [Fp.share]
   have:=hN _ (Qu.refl _);rw [<- ez] at this;exact this
  ·rintro r H5 N hr hp s5 hN;symm;have:=hN _ (Qu.refl _);rw [Int.zero_add];exact this
  ·rintro H5 s5 d5;have e15:=s5 _ _ e1;refine ⟨lv,_,_,rfl,rfl,e15,by rw [sizeLine_eq,length_map]; lia,?_⟩;have hDl:D≠lv:=(Qj e1 hD).symm;have d5':H5 D=some (.lst ((((range ak.length).filter (Fh (aj.length:Int) ak.length aj rows i)).map λ(r:Nat)=>(r:Int)).map V.int)):=by rw [d5,map_map]; rfl
   have nlv:∀ c o,H2 c=some o->c≠lv:=λc o e=>Qj e n3.none;nofun;refine ⟨⟨_,_,rfl⟩,⟨ls ++ [D],by rw [Qk]; simp,by simp [e2],λj a' hj=>?_⟩,λc o e=>by rw [Qv (nlv c o e)]; exact s5 _ _ (k4 _ _ e),λc e=>?_⟩
   ·by_cases hjl:j < ls.length
    ·rw [getElem?_append_left hjl] at hj;have h5:=s5 _ _ (e3 j a' hj)
     by_cases ha:a'=lv
     ·exfalso;subst ha;rw [e15] at h5;have h6:=HO.lst.inj (Q9 h5);have h7:0 < (ls.map V.ref).length:=by rw [length_map]; lia
      have h8:∀ v∈ls.map V.ref,∃ a,v=V.ref a:=λv hv=>by let ⟨y,_,rfl⟩:=O3.mp hv;exact ⟨y,rfl⟩
      let ⟨y,hy⟩:=h8 _ (M9 h7);have h9:=M9 (h6 ▸ h7);let ⟨zz,_,hzz⟩:=O3.mp h9;have h10:(ls.map V.ref)[0]? = ((((range ak.length).filter (Fh (aj.length:Int) ak.length aj rows j)).map λ(r:Nat)=>(r:Int)).map V.int)[0]?:=by rw [h6]
      rw [getElem?_eq_getElem h7,hy,getElem?_eq_getElem (h6 ▸ h7),<- hzz] at h10;cases h10
     ·rw [Qv ha];exact h5
    ·have hj2:j=ls.length:=by have:=(N5.mp hj).1;simp at this;lia
     subst hj2;simp at hj;subst hj;rw [Qv hDl,e2];exact d5'
   ·by_cases hc:c=lv
    ·rw [hc,Qk] at e; cases e
    ·rw [Qv hc] at e;exact f4 _ (s5.free e)
 ·rintro σ H4 ⟨⟨o6,o7,rfl⟩,⟨ls,e1,e2,e3⟩,k4,f4⟩;symm;have S4:Qu H1 H4:=n2.same.trans k4;refine q lv rows H4 (s1.trans S4.b) (la1.same S4) j9 ⟨ls,e1,by rw [Qqv,e2],λj a' row hj hrw=>?_⟩;unfold Dk at hrw;rw [getElem?_map] at hrw;have hjl:j < aj.length:=by have:=(N5.mp hj).1; lia
  rw [getElem?_range hjl] at hrw;cases hrw;exact e3 j a' hj
theorem Qgv:Def P w K mg base 1 "product" ["numbers"] Oc:=by
 refine Z.a56.mq ["numbers","total","number"] λH vs Q E hr nD h=>?_;let ⟨l,ks,rfl,hl,lk,hk,q⟩:=h;refine ⟨_,(zcF (zcC (Qg 1 nD Qx) (zcL (Qw (Xt (Vo K {0}) (Ql 2 nD) (Qm (Qg 1 nD (Qy Qi {1} {2})))) (Qf {1}))))),?_⟩;symm;refine ⟨⟨_,SqL.of hl⟩,?_⟩;refine Ym (xs:=(wI ks).map V.int) (λi σ H'=>(∃ o2:Option V,σ=[rf l,iv (((ks.take i).foldl (· * ·) 1:Nat):Int),o2])/\H=H') ⟨⟨_,rfl⟩,rfl⟩ (λi σ H' _ h=>h.2 ▸ SqL.of hl) ?_ ?_
 ·nofun;rintro i y σ H2 hy ⟨⟨o2,rfl⟩,rfl⟩;have hi:i < ks.length:=by have:=(N5.mp hy).1;simpa [wI] using this
  have ey:y=.int ((ks.getD i 0:Nat):Int):=by simp [wI,hi] at hy;simp [getD,hi,<- hy]
  subst ey;have hb:=Qr6 (ks:=ks.take i) (λk hk'=>hk k (take_subset _ _ hk')) (by simp; lia);have hb2:ks.getD i 0<=10:=by rw [show ks.getD i 0=ks[i] by simp [getD,hi]];exact hk _ (M9 hi)
  have ep:=Qy4 hi;symm;generalize (ks.take i).foldl (· * ·) 1=t at *;generalize ks.getD i 0=k at *;exact ⟨⟨some (.int (k:Int)),by rw [ep,Int.natCast_mul]; rfl⟩,rfl⟩
 rintro σ H2 ⟨⟨o2,rfl⟩,rfl⟩;rw [Za,take_length];symm;exact q
theorem Qzk:Def P w K mg base 1 "all_lists" [Y35] Si:=by
 refine Z.a57.mq [Y35,"lists",Y26,"longer","begun"] λH vs Q E hr nD h=>?_;let ⟨lv,L,rfl,hM,lL,gm,hsz,q⟩:=h;refine ⟨_,(Qw (Qg 1 nD (Qe (Qq (Qe Qz) Qz))) (Qw (Xt (Vo K {0}) (Ql 2 nD) (Qw (Qg 3 nD (Qe Qz)) (Qw (Xt (Vo K {1}) (Ql 4 nD) (Qm (Yq (Dv (K:=K) rfl A0i PySem.F.slot_list_extend PySem.F.type_list_extend Qyj {3} (Qq (Zt [Y17,"begun"] [none,some 4] (Vo K {2}) (Qy Rg {1} (Qe %[0|0]))) Qz))))) (Qm (Qg 1 nD {3}))))) (Qf {1}))),?_⟩;let ⟨ws,hw,hR⟩:=id hM;have lw:ws.length=L.length:=by rw [hR.1,length_map]
 symm;refine λp0 H1 n1=>?_;refine ⟨Zk (by simp),λpk H2 n2=>?_⟩;have S2:Qu H H2:=n1.same.trans n2.same;symm;refine ⟨⟨_,SqL.of (S2 _ _ hw)⟩,?_⟩;refine L2.Tp (xs:=ws.map V.ref) (λn σ H' => ∃ (pk:G5) (o2 o3 o4:Option V),σ=[rf lv,rf pk,o2,o3,o4]/\Qu H H'/\H pk=none/\Qc6 H H' pk ((We (L.take n)).map wI)) ⟨pk,none,none,none,rfl,S2,n1.same.free n2.none,[p0],n2.at_,⟨rfl,λi a row z1 z2=>?_⟩,λa ha=>?_⟩ (λi σ H' _ ⟨_,_,_,_,_,h,_⟩=>SqL.of (h _ _ hw)) ?_ ?_
 ·have hi:i=0:=by have:=(N5.mp z1).1; simp at this; lia
  subst hi;simp at z1;simp [We,wI] at z2;subst z1 z2;exact n2.same _ _ n1.at_
 ·have:a=p0:=by simpa using ha
  rw [this];exact n1.none
 ·rintro n y σ H3 hy ⟨pk,o2,o3,o4,rfl,s3,fpk,hM3⟩;let ⟨ra,hra,rfl⟩:=Yw hy;have hn:n < L.length:=by rw [<- lw]; exact (N5.mp hra).1
  have hrv:H ra=some (.lst ((wI L[n]).map V.int)):=hR.2 n ra _ hra (by simp [hn]);have hrl:=gm _ (M9 hn);have htn:L.take (n + 1)=L.take n ++ [L[n]]:=by rw [take_succ]; simp [hn]
  have hz1:=hsz n;have hz2:=hsz (n + 1);rw [htn,Pw,Uy] at hz2;rw [htn,Pw];generalize L[n]=gk at *;have hvl:∀ v∈We (L.take n),v.length<=10:=λv hv=>by have:=Qy5 hv; rw [length_take] at this; lia
  generalize We (L.take n)=al at *;let ⟨ps,hp3,hR3,fp3⟩:=id hM3;have hpl:ps.length=al.length:=by rw [hR3.1,length_map]
  symm;refine λl4 H4 n4=>?_;have hp4:=n4.same _ _ hp3;have S4:Qu H H4:=s3.trans n4.same;have npl:pk≠l4:=Qj hp3 n4.none;symm;refine ⟨⟨_,SqL.of hp4⟩,?_⟩;refine L2.Tp (xs:=ps.map V.ref) (λj σ H' => ∃ (o4:Option V) (qs:K6),σ=[rf lv,rf pk,rf ra,rf l4,o4]/\Qu H3 H'/\H' l4=some (.lst (qs.map V.ref))/\Rows H' qs (((al.take j).flatMap (Qb9 gk)).map wI)/\∀ a∈qs,H3 a=none/\a≠l4)
   ⟨_,[],rfl,n4.same,n4.at_,⟨rfl,λi a row z=>by simp at z⟩,λa ha=>by cases ha⟩ (λi σ H' _ ⟨_,_,_,h,_⟩=>SqL.of (h _ _ hp3)) ?_ ?_
  ·rintro j y σ H5 hy ⟨o4',qs,rfl,s5,hq5,hR5,fq5⟩;let ⟨pa,hpa,rfl⟩:=Yw hy;have hj:j < al.length:=by rw [<- hpl]; exact (N5.mp hpa).1
   have hv:al[j]? = some al[j]:=by simp [hj]
   have hpv:H5 pa=some (.lst ((wI al[j]).map V.int)):=s5 _ _ (hR3.2 j pa _ hpa (by rw [getElem?_map,hv]; rfl));have htk:al.take (j + 1)=al.take j ++ [al[j]]:=by rw [take_succ,hv]; rfl
   have hfl:=Uy gk (al.take j);rw [length_take,Nat.min_eq_left "o"] at hfl;have hfl2:j * gk.length<=1000:=O6 (A0n _ "o") hz2;have hv10:=hvl _ (M9 hj);generalize al[j]=v at *;have hra5:=s5 _ _ (s3 _ _ hrv);symm;refine ⟨.inl ⟨rfl,_,SqL.of hq5⟩,?_⟩;symm;refine ⟨⟨_,SqL.of hra5⟩,λD hD=>?_⟩;refine Xy (λi y H => ∃ l,y=.ref l/\l≠D/\H5 l=none/\∀ r,gk[i]? = some r->H l=some (.lst ((wI (v ++ [r])).map V.int))) (SqL.of hra5) (by rw [sizeLine_eq,Za]; lia) hD (λi y H H' k ⟨l,e,ne,nn,h⟩=>⟨l,e,ne,nn,λr hr=>k l _ ne (h r hr)⟩) ?_ ?_
   ·rintro i y H6 ys N hx s6 d6 hN;have hi:i < gk.length:=by have:=(N5.mp hx).1;simpa [wI] using this
    have ey:y=.int ((gk[i]:Nat):Int):=by simp [wI,hi] at hx;exact hx.symm
    subst ey;symm;refine λt7 H7 n7=>?_;refine ⟨pa,t7,_,_,rfl,rfl,n7.same _ _ (s6 _ _ hpv),n7.at_,by rw [sizeLine_eq,Za]; simp; lia,λc8 H8 n8=>?_⟩;refine hN _ _ (n7.same.trans n8.same) ⟨c8,rfl,(Qj (n7.same _ _ d6) n8.none).symm,s6.free (n7.same.free n8.none),λr hr=>?_⟩;rw [n8.at_];simp [hi] at hr;simp [wI,hr]
   ·rintro ys H6 s6 d6 ly r6;let ⟨es,ees,pes⟩:=Um (P:=λi l=>H5 l=none/\∀ r,gk[i]? = some r->H6 l=some (.lst ((wI (v ++ [r])).map V.int))) (λi y e=>by let ⟨l,h1,_,h3,h4⟩:=r6 i y e;exact ⟨l,h1,h3,h4⟩)
    subst ees;have hel:es.length=gk.length:=by rw [length_map,Za] at ly;exact ly
    refine ⟨l4,D,_,_,rfl,rfl,s6 _ _ hq5,d6,?_,?_⟩
    ·rw [sizeLine_eq,length_map,length_map,hR5.1,length_map,hfl];lia
    have fes:∀ a∈es,H5 a=none:=λa ha=>by let ⟨i,hi,rfl⟩:=A0u ha;exact (pes i _ (R3 hi)).1
    refine ⟨_,qs ++ es,rfl,λc o e=>?_,?_,?_,λa ha=>?_⟩
    ·rw [Qv (Qj e n4.none)];exact s6 _ _ (s5 _ _ e)
    ·rw [Qk];simp
    ·rw [htk,flatMap_append,map_append];refine Rows.app ⟨hR5.1,λi a row h1 h2=>?_⟩ ⟨by simp [hel,Qb9],λi a row z1 z2=>?_⟩
     ·rw [Qv (fq5 a (mem_of_getElem? h1)).2];exact s6 _ _ (hR5.2 i a row h1 h2)
     ·have hi:i < es.length:=(N5.mp z1).1;have hi2:i < gk.length:=by lia
      rw [Qv (Qj hq5 (fes a (mem_of_getElem? z1))).symm];rw [(pes i a z1).2 _ (getElem?_eq_getElem hi2)];rw [flatMap_singleton] at z2;unfold Qb9 at z2;rw [getElem?_map,getElem?_map,getElem?_eq_getElem hi2] at z2;have z3:=Q9 z2;rw [<- z3]
    ·rcases O5.mp ha with z | z
     ·exact fq5 a z
     ·exact ⟨s5.free (fes a z),(Qj hq5 (fes a z)).symm⟩
  ·rintro σ H5 ⟨o4',qs,rfl,s5,hq5,hR5,fq5⟩;rw [length_map,hpl,take_length] at hR5;symm;exact ⟨l4,_,_,_,rfl,s3.trans s5,s3.free n4.none,qs,hq5,hR5,λa ha=>s3.free (fq5 a ha).1⟩
 rintro σ H3 ⟨pk,o2,o3,o4,rfl,s3,fpk,hM3⟩;rw [length_map,lw,take_length] at hM3;symm;exact q pk H3 s3 fpk hM3
theorem Qs3:Def P w K mg base 3 "is_way" [Y2,Y8] (Qf0 K CH):=by
 refine Z.a58.mq [Y2,Y8,"counts"] λH vs Q E hr nD h=>?_;let ⟨p,a,ak,aj,ao,row,rfl,hA,lb,lr,hS,q⟩:=h;refine ⟨_,(zcF (zcC (Zz (q_t Ue (Zx K Z.T.u0 %[1|0]) (Qo (Yh Z) Z.HC.cl {0} (hr.mono (by decide)))) (Qf Ju) Qh) (zcC (Zz (Xf (Xc (Qr (Gi (K:=K) rfl rfl) (by rfl) Z.T.u11 Ga (Qq (Zt [Y17,Y2] [none,some 0] (Vo K {1}) (Qh4 Bg Ra Qx {0} (Qo (Vg Z) Z.HC.cl {1} (hr.mono (by decide))))) Qz)))) (Qf Ju) Qh) (zcC (Qg 2 nD (Qd (Qw7 Z) hr %[0,1|0])) (zcL (Qf (Qr (Gi (K:=K) rfl rfl) (by rfl) Z.T.u11 Ga (Qq (Zt [Y17,"counts",Y2] [none,some 2,some 0] (Zr Z.T.u1 (Qq (Qo (Vg Z) Z.HC.cl {0} (hr.mono (by decide))) Qz)) (Uc Bg (Qb K {1} {0}) (Qb K (Yb K {2}) {0}) (Rx _))) Qz)))))))),?_⟩;let ⟨dx,b,w,h1,h2,h3⟩:=hA.ex;symm;refine ⟨a,_,rfl,.inl hS,?_⟩;refine ⟨_,rfl,p,dx,_,rfl,h1,Uo _ _ _,p,ak,aj,ao,rfl,hA,?_⟩;refine ⟨rfl,_,rfl,?_⟩;refine Fm (λe=>?_) (λe=>?_)
 ·symm;have hne:row.length≠aj.length:=λz=>by rw [length_map,z] at e;simp at e
  have:Ro ak aj.length row=false:=by unfold Ro;rw [decide_eq_false hne];rfl
  rw [<- this];exact q _ (Qu.refl _)
 have hl:row.length=aj.length:=by rw [length_map] at e;simp at e;lia
 symm;refine ⟨⟨_,hS⟩,λD hD=>?_⟩;refine Kr row (λr=>.bl (decide (0<=r/\r < (ak.length:Int)))) hS sml hD (λr hr H1 N s1 hN=>?_) λH1 s1 d1=>?_
 ·symm;refine Fm (λe=>?_) (λe=>?_)
  ·have e':0<=r:=Q7 e;refine ⟨_,rfl,p,dx,_,rfl,s1 _ _ h1,Uo _ _ _,p,ak,aj,ao,rfl,hA.same s1,?_⟩;symm;have:decide (r < (ak.length:Int))=decide (0<=r/\r < (ak.length:Int)):=by simp [e']
   show N (.bl (decide (r < (ak.length:Int)))) H1;rw [this];exact hN _ (Qu.refl _)
  ·have e':¬ 0<=r:=λz=>e (O8 z);have:decide (0<=r/\r < (ak.length:Int))=false:=by simp [e']
   rw [<- this];exact hN _ (Qu.refl _)
 refine ⟨D,row.map λr=>decide (0<=r/\r < (ak.length:Int)),rfl,SqL.of (by rw [d1,map_map]; rfl),?_⟩;symm;refine Fm (λe=>?_) (λe=>?_)
 ·symm;have:Ro ak aj.length row=false:=by
   unfold Ro;have e2:row.all (λr=>decide (0<=r/\r < (ak.length:Int)))=false:=by simpa [all_map] using e
   rw [e2];simp
  rw [<- this];exact q _ s1
 have iy:row.all (λr=>decide (0<=r/\r < (ak.length:Int)))=true:=by simpa [all_map] using e
 have hA1:=hA.same s1;nofun;refine ⟨_,rfl,_,rfl,p,a,ak,aj,ao,row,rfl,hA1,lb,s1.seq hS,λl H2 n2=>?_⟩;have hA2:=hA1.same n2.same;have h12:=n2.same _ _ (s1 _ _ h1);have h22:=n2.same _ _ (s1 _ _ h2);nofun;refine ⟨_,rfl,p,dx,_,rfl,h12,Uo _ _ _,p,ak,aj,ao,rfl,hA2,?_⟩;refine ⟨_,rfl,"o","o",λD2 hD2=>?_⟩;rw [Int.toNat_natCast];refine Zl (λr=>.bl (decide (((row.count (r:Int):Nat):Int)<=ak.getD r 0))) sml hD2 (λi hi H3 N s3 hN=>?_) λH3 s3 d3=>?_
 ·have g1:((Pn ak.length row).map V.int)[i]? = some (.int ((row.count (i:Int):Nat):Int)):=by simp [Pn,hi]
  have g2:(ak.map V.int)[i]? = some (.int (ak.getD i 0)):=by simp [hi]
  symm;refine ixL (SqL.of (s3 _ _ n2.at_)) (Qc i "o" g1) ?_;refine ⟨_,rfl,p,CH,dx,_,_,rfl,s3 _ _ h12,Z.HC.cl,Z.HC.nB,Sv _ _ _,_,rfl,?_⟩;refine ixL (SqL.of (s3 _ _ h22)) (Qc i "o" g2) ?_;symm;exact hN _ (Qu.refl _)
 ·refine ⟨D2,(range ak.length).map λ(r:Nat)=>decide (((row.count (r:Int):Nat):Int)<=ak.getD r 0),rfl,SqL.of (by rw [d3,map_map]; rfl),?_⟩;have:Ro ak aj.length row=((range ak.length).map λ(r:Nat)=>decide (((row.count (r:Int):Nat):Int)<=ak.getD r 0)).all id:=by unfold Ro;rw [iy,decide_eq_true hl,all_map];rfl
  rw [<- this];exact q _ ((s1.trans n2.same).trans s3)
theorem Qb5:Qsv P w K mg base 13 "all_ways" [Y2] (Ss CH eM Pa Pb Pc Jy Zs Xb):=by
 refine Z.a60.mkX Vm (λvs H Q E h=>?_) (λ_ _ _ _ _ _ us hl=>match us,hl with | [_],_=>rfl) (λf cdv A outer s H vs Q E hr h=>?_)
 ·let ⟨x,ak,aj,ao,rfl,_⟩:=h;rfl
 ·let ⟨x,ak,aj,ao,rfl,hA,HG,hL,hre,q⟩:=h;refine ⟨_,(Qw (PS.nox (Qg 1 Vm.nd (Qd (Qs2 Z) hr %[0|0]))) (Qw (Zz (PT.nox (q_t Ft (Qd (Qgv Z) hr (Qq (Zt [Y26] [none] (Vo K {1}) (Zx K Z.T.u0 %[0|0])) Qz)) (Qrv rfl Z.T.u17))) (Qm (Qfq Oh rfl rfl Z.HE.mTooMany Z.HE.ok.ex (Qq Jq Qz))) Qh) (PSs.nox (Qw (Ci (i:=2) Vm.nd rfl (Or.inl rfl) [Y26,Y2] [none,some 0] rfl rfl rfl (Vo K (Qd (Qzk Z) hr %[1|0])) (λ_ _ _ _=>(Ru (i:=0) (by decide +kernel:([Y26,Y2]:List PySem.Str).Nodup) rfl (Or.inl rfl))) (λ_ _ _ _=>(Mg (Xc (Qd (Qs3 Z) hr %[1,0|0])))) (λ_ _ _ _=>{0})) (Qw (Qg 3 Vm.nd (Qr (Ll (K:=K) rfl rfl) (by rfl) Z.T.u9 Th (Qq (Zt [Y8,Y2] [none,some 0] (Vo K {2}) (Qd (Ge Z) hr %[1,0|0])) Qz))) (Qf (Wk [Y8,Y2,"most"] [none,some 0,some 3] (Vo K {2}) (q_t Jg (Qd (Ge Z) hr %[1,0|0]) {2}) {0}))))))),?_⟩;have lb:=HG.bok.b1;have lw:=HG.bok.w1;have hb0:∀ b∈ak,0<=b:=λb hb=>by have:=HG.b1 b hb; lia
  symm;refine ⟨x,ak,aj,ao,rfl,hA,HG,hL,hre,λlv rows H1 s1 hL1 j9 hM1=>?_⟩;rw [Qu1] at hM1;have hA1:=hA.bf s1;let ⟨way,m,bst⟩:=id j9;have ok:=bst.ok;have fit:=bst.fit;have opt:=bst.opt;have ln:=ok.len;have hlv:∀ v:K4,v.length=aj.length->Fit (bF ak) v->wsum (wF aj) v=wsum (wF aj) way->∀ i,i < aj.length->Fh (aj.length:Int) ak.length aj rows i (v.getD i 0)=true:=λv h1 h2 h3 i hi=>j9.lvl HG.w1 ok fit opt h1 h2 h3 hi;have hq:=λH' a b=>q rows H' a b j9;unfold Qc3 at hq;have hpl:=Gg ak.length (Fh (aj.length:Int) ak.length aj rows) aj.length;have iz:=Ly (M:=wsum (wF aj) way) hlv;rw [<- Ic ln fit opt] at iz;have lLN:(Cw aj.length ak.length (Fh (aj.length:Int) ak.length aj rows)).length=aj.length:=by simp [Cw]
  have gm:∀ row∈Cw aj.length ak.length (Fh (aj.length:Int) ak.length aj rows),row.length<=10:=λrow hr=>by let ⟨i,hi,rfl⟩:=O3.mp hr;exact O6 (W3 _ _) (by simpa using lb)
  have hrow1:∀ row∈Cw aj.length ak.length (Fh (aj.length:Int) ak.length aj rows),1<=row.length:=λrow hr=>by let ⟨i,hi,rfl⟩:=O3.mp hr;have hi2:=N8.mp hi;exact Z1 (T3.mpr ⟨N8.mpr (ok.at_ hi2).2,hlv way ln fit rfl i hi2⟩)
  have g8:∀ v∈We (Cw aj.length ak.length (Fh (aj.length:Int) ak.length aj rows)),v.length=aj.length/\∀ r∈v,r < ak.length:=λv hv=>by rw [hpl] at hv;exact Kl hv
  have hwin:way∈We (Cw aj.length ak.length (Fh (aj.length:Int) ak.length aj rows)):=by rw [hpl,Qv3];refine T3.mpr ⟨Eo ln (Jz fit),?_⟩;unfold Qmw;rw [all_eq_true];exact λi hi=>hlv way ln fit rfl i (by have:=N8.mp hi; lia)
  rw [<- hpl] at iz;generalize Cw aj.length ak.length (Fh (aj.length:Int) ak.length aj rows)=LN at *;let ⟨ws,hw,hR⟩:=id hM1;have lws:ws.length=LN.length:=by rw [hR.1,length_map]
  symm;refine ⟨⟨_,SqL.of hw⟩,λD hD=>?_⟩;refine Xy (λj y _=>y=.int (((LN.map List.length).getD j 0:Nat):Int)) (SqL.of hw) (by rw [sizeLine_eq,length_map]; lia) hD (λ_ _ _ _ _ h=>h) ?_ ?_
  ·rintro j y H2 ys N hy s2 d2 hN;let ⟨ra,hra,rfl⟩:=Yw hy;have hj:j < LN.length:=by rw [<- lws]; exact (N5.mp hra).1
   have hrv:=s2 _ _ (hR.2 j ra _ hra (by rw [getElem?_map,getElem?_eq_getElem hj]; rfl));symm;refine ⟨ra,_,rfl,.inl (SqL.of hrv),?_⟩;rw [Za];exact hN _ _ (Qu.refl _) (by simp [getD,hj])
  rintro ys H2 s2 d2 ly r2;have ey:ys=(wI (LN.map List.length)).map V.int:=Vu (by rw [ly]; simp [wI,lws]) λi y e=>by
   have hi:i < LN.length:=by have:=(N5.mp e).1; rw [ly,length_map] at this; lia
   exact ⟨(((LN.map List.length).getD i 0:Nat):Int),by simp [wI,getD,hi],r2 i y e⟩
  subst ey;refine ⟨D,LN.map List.length,rfl,d2,by rw [length_map]; lia,λk hk=>?_,?_⟩
  ·let ⟨row,hr,rfl⟩:=O3.mp hk;exact gm row hr
  rw [<- Lu];symm;have S2:Qt H H2:=s1.trans s2.b
  by_cases hlt:200 < Qx3 LN
  ·refine Yr (O8 "o") ?_;exact ⟨by decide,(hq H2 S2 (hL1.same s2)).2 hlt⟩
  refine Vt (S8 "o") ?_;symm;refine ⟨lv,LN,rfl,hM1.same s2,"o",gm,λj=>?_,λla H3 s3 fla hMF=>?_⟩
  ·rw [Gb];have:=Qu2 hrow1 j;lia
  have hal:(We LN).length<=200:=by rw [Gb]; lia
  generalize We LN=al at *;let ⟨ps,hp3,hR3,fp3⟩:=hMF;have lps:ps.length=al.length:=by rw [hR3.1,length_map]
  have hA3:=(hA1.same s2).same s3;refine ⟨la,rfl,⟨_,SqL.of hp3⟩,λD3 hD3=>?_⟩;refine Wh (λi=>Jo ak (al.getD i [])) (λi=>.ref (ps.getD i la)) (SqL.of hp3) (by rw [sizeLine_eq,length_map]; lia) hD3 ?_ ?_ ?_
  ·rintro i y H4 N hy s4 hN;let ⟨pa,hpa,rfl⟩:=Yw hy;have hi:i < al.length:=by rw [<- lps]; exact (N5.mp hpa).1
   let ⟨hvl,hvr⟩:=g8 _ (M9 hi);have hpv:=s4 _ _ (hR3.2 i pa _ hpa (by rw [getElem?_map,getElem?_eq_getElem hi]; rfl));rw [getD_get _ _ hi] at hN;generalize al[i]=v at *;symm;refine ⟨x,pa,ak,aj,ao,wI v,rfl,hA3.same s4,"o",by simp [wI]; lia,SqL.of hpv,λH5 s5=>?_⟩;rw [Qqk hb0 hvl hvr];symm;exact hN _ s5
  ·rintro i y H4 N hy hp s4 hN;let ⟨pa,hpa,rfl⟩:=Yw hy;have e:ps.getD i la=pa:=by simp [getD,hpa]
   rw [e] at hN;symm;exact hN _ (Qu.refl _)
  rintro H4 s4 d4;have hRW:=(Lq hR3 (Jo ak) la).same s4;rw [length_map] at d4;have d4':H4 D3=some (.lst ((((range ps.length).filter λi=>Jo ak (al.getD i [])).map λi=>ps.getD i la).map V.ref)):=by rw [d4,map_map]; rfl
  clear d4;generalize ((range ps.length).filter λi=>Jo ak (al.getD i [])).map (λi=>ps.getD i la)=wls at *;have lwls:wls.length=(al.filter (Jo ak)).length:=by rw [hRW.1,length_map]
  have hwl:∀ v∈al.filter (Jo ak),v.length=aj.length/\(∀ r∈v,r < ak.length)/\Fit (bF ak) v:=λv hv=>by let ⟨h1,h2⟩:=T3.mp hv;exact ⟨(g8 v h1).1,(g8 v h1).2,(Gn (g8 v h1).2).mp h2⟩
  have hwin2:way∈al.filter (Jo ak):=T3.mpr ⟨hwin,(Gn (Jz fit)).mpr fit⟩;have lwl2:(al.filter (Jo ak)).length<=200:=O6 (W3 _ _) hal;generalize al.filter (Jo ak)=wl at *;have hmx:∀ v∈wl,wsum (wF aj) v<=wsum (wF aj) way:=λv hv=>opt v (by have:=(hwl v hv).1; lia) (hwl v hv).2.2;have hA4:=hA3.same s4;symm;refine ⟨⟨_,SqL.of d4'⟩,λD5 hD5=>?_⟩;refine Xy (λj y _ => ∃ v,wl[j]? = some v/\y=.int (wsum (wF aj) v)) (SqL.of d4') (by rw [sizeLine_eq,length_map]; lia) hD5 (λ_ _ _ _ _ h=>h) ?_ ?_
  ·rintro j y H5 ys N hy s5 d5 hN;let ⟨pa,hpa,rfl⟩:=Yw hy;have hj:j < wl.length:=by rw [<- lwls]; exact (N5.mp hpa).1
   let ⟨hvl,hvr,_⟩:=hwl _ (M9 hj);have hpv:=s5 _ _ (hRW.2 j pa _ hpa (by rw [getElem?_map,getElem?_eq_getElem hj]; rfl));have hv:wl[j]? = some wl[j]:=R3 hj;generalize wl[j]=v at *;symm;refine ⟨x,pa,ak,aj,ao,wI v,rfl,hA4.same s5,"o",SqL.of hpv,by simp [wI,hvl],λrow hr z hz=>?_,λH6 s6=>?_⟩
   ·let ⟨r,hr',rfl⟩:=O3.mp hz;rw [HG.bok.rows row hr];have:=hvr r hr';lia
   rw [Rb hvl];exact hN _ _ s6 ⟨v,hv,rfl⟩
  rintro ys H5 s5 d5 ly r5;have ey:ys=(wl.map λv=>wsum (wF aj) v).map V.int:=Vu (by rw [ly,length_map,length_map,lwls]) λi y e=>by let ⟨v,h1,h2⟩:=r5 i y e;exact ⟨_,by rw [getElem?_map,h1]; rfl,h2⟩
  subst ey;symm;refine ⟨D5,_,rfl,SqL.of d5,by rw [length_map]; exact Z1 hwin2,λz hz hmax=>?_⟩;have ez:z=wsum (wF aj) way:=by let ⟨u,hu,rfl⟩:=O3.mp hz;have h1:=hmx u hu;have h2:=hmax _ (O3.mpr ⟨way,hwin2,rfl⟩);lia
  subst ez;have d45:=s5 _ _ d4';symm;refine ⟨⟨_,SqL.of d45⟩,λD6 hD6=>?_⟩;refine Wh (λi=>decide (wsum (wF aj) (wl.getD i [])=wsum (wF aj) way)) (λi=>.ref (wls.getD i D3)) (SqL.of d45) (by rw [sizeLine_eq,length_map]; lia) hD6 ?_ ?_ ?_
  ·rintro i y H6 N hy s6 hN;let ⟨pa,hpa,rfl⟩:=Yw hy;have hj:i < wl.length:=by rw [<- lwls]; exact (N5.mp hpa).1
   let ⟨hvl,hvr,_⟩:=hwl _ (M9 hj);have hpv:=s6 _ _ (s5 _ _ (hRW.2 i pa _ hpa (by rw [getElem?_map,getElem?_eq_getElem hj]; rfl)));rw [getD_get _ _ hj] at hN;generalize wl[i]=v at *;symm;refine ⟨x,pa,ak,aj,ao,wI v,rfl,(hA4.same s5).same s6,"o",SqL.of hpv,by simp [wI,hvl],λrow hr z hz=>?_,λH7 s7=>?_⟩
   ·let ⟨r,hr',rfl⟩:=O3.mp hz;rw [HG.bok.rows row hr];have:=hvr r hr';lia
   rw [Rb hvl];symm;have e:decide (V.int (wsum (wF aj) v)=V.int (wsum (wF aj) way))=decide (wsum (wF aj) v=wsum (wF aj) way):=by rw [Bool.eq_iff_iff,decide_eq_true_eq,decide_eq_true_eq];exact ⟨λh=>V.int.inj h,λh=>by rw [h]⟩
   rw [e];exact hN _ s7
  ·rintro i y H6 N hy hp s6 hN;let ⟨pa,hpa,rfl⟩:=Yw hy;have e:wls.getD i D3=pa:=by simp [getD,hpa]
   rw [e] at hN;symm;exact hN _ (Qu.refl _)
  rintro H6 s6 d6;have hRB:=(Lq hRW (λv=>decide (wsum (wF aj) v=wsum (wF aj) way)) D3).same (s5.trans s6);rw [iz] at hRB;have S36:Qu H2 H6:=((s3.trans s4).trans (s5.trans s6))
  have S6:Qt H H6:=S2.trans S36.b;exact (hq H6 S6 ((hL1.same s2).same S36)).1 "o" D6 ⟨_,by rw [d6,length_map,map_map]; rfl,hRB⟩
theorem Kj:Def P w K mg base 3 "least_share" [Y2,Y8,"answer"] (Mi CH):=by
 refine Z.a61.mq [Y2,Y8,"answer",Y27] λH vs Q E hr nD h=>?_;let ⟨x,wy,t,tp,rl,pl,ak,aj,ao,way,ps,k,R,rws,rfl,hA,HG,hwy,ln,fit,ht,htp,hrl,kp,q⟩:=h;refine ⟨_,(zcF (zcC (Qg 3 nD (Qb K {2} Qx)) (zcL (Qf (Zc (Qq (Qr (Wb (K:=K) rfl rfl) (by rfl) Z.T.u8 Ja (Qq (Qd (Ii Z) hr %[0,1,3|0]) Qz)) (Qq (Qb K {3} Qx) Qz))))))),?_⟩;have lw:=HG.bok.w1;have l0:=HG.w1;have kb:=kp.k1;have lR:=kp.len;symm;refine ixU ht rfl ?_;symm;refine ⟨x,wy,tp,ak,aj,ao,k,R,wI way,rfl,hA,⟨rl,htp,hrl⟩,SqL.of hwy,by simp [wI]; lia,"o","o",λrow hr=>⟨by have:=HG.bok.rows row hr; lia,λz hz=>by have:=HG.x row hr z hz; lia⟩,Qsk fit lR,λhd H2 n2=>?_⟩;have es:Wj aj (wI way) k R=(range aj.length).map λi=>k * Zh aj way i - R.getD (way.getD i 0) 0:=by unfold Wj;refine R6 λi hi=>?_;have hi':=N8.mp hi;simp [Zh,wF,wI,getD,show i < way.length by lia]
 refine ⟨hd,_,rfl,SqL.of n2.at_,by rw [es]; simp; lia,λm hm kj=>?_⟩;rw [es] at hm kj;symm;refine ixU (n2.same _ _ htp) rfl ?_;symm;exact λt' H3 n3=>q t' m H3 (n2.same.trans n3.same) n3.at_ ⟨hm,kj⟩
theorem Zzz:Qsv P w K mg base 14 "within_any" [Y2,Y18] (Qa5 CH eM Pa Pb Pc Jy Zs Xb):=by
 refine Z.a62.mkX Xw (λvs H Q E h=>?_) (λ_ _ _ _ _ _ us hl=>match us,hl with | [_,_],_=>rfl) (λf cdv A outer s H vs Q E hr h=>?_)
 ·let ⟨x,pu,ak,aj,ao,ps,rfl,_⟩:=h;rfl
 ·let ⟨x,pu,ak,aj,ao,ps,rfl,hA,HG,hL,hre,hpu,lps,pb,q⟩:=h;refine ⟨_,(zcF (zcC (Qg 2 Xw.nd (Qh1 Zz5 (Qb5 Z) (hr.mono (by decide)) rfl (PA.nox %[0|0]))) (zcL (PSs.nox (zcF (zcC (Qg 3 Xw.nd (Zt [Y8,Y2,Y18] [none,some 0,some 1] (Vo K {2}) (Qh0 (Qd (Ir Z) hr %[1,0,2|0])))) (zcC (Ci (i:=5) Xw.nd rfl (Or.inl rfl) [Y44,Y41] [none,some 3] rfl rfl rfl (Zr Z.T.u1 (Qq (Zx K Z.T.u0 %[2|0]) Qz)) (λ_ _ _ _=>(Ru (i:=0) (by decide +kernel:([Y44,Y41]:List PySem.Str).Nodup) rfl (Or.inl rfl))) (λ_ _ _ _=>(Mg (q_t Jg (Qb K (Qb K {1} {0}) Qx) Jq))) (λ_ _ _ _=>{0})) (zcC (Zz (q_t Jg (Zx K Z.T.u0 %[5|0]) Qx) (Qf (Zc (Qq Jq (Qq (Zt [Y44,Y41,"ways"] [none,some 3,some 2] (Zr Z.T.u1 (Qq (Zx K Z.T.u0 %[2|0]) Qz)) (Zc (Qq (Qb K {2} {0}) (Qq (Qb K (Qb K {1} {0}) Qx) Qz)))) Qz)))) Qh) (zcC (Qg 6 Xw.nd (Qb K {5} Qx)) (zcC (Xt (Vo K {5}) (Ql 4 Xw.nd) (Qm (Zz (Xc (Qd (Ia Z) hr (Qq (Qd (Kj Z) hr (Qq {0} (Qq (Qb K {2} {6}) (Qq (Qb K {3} {6}) Qz)))) (Qq (Qd (Kj Z) hr (Qq {0} (Qq (Qb K {2} {4}) (Qq (Qb K {3} {4}) Qz)))) Qz)))) (Qm (Qg 6 Xw.nd {4})) Qh))) (zcL (Qf (Zc (Qq Jq (Qq (Qb K {2} {6}) (Qq (Qb K (Qb K {3} {6}) Qx) (Qq (Qb K (Qb K {3} {6}) Qx) Qz))))))))))))))))),?_⟩;symm;refine ⟨x,ak,aj,ao,rfl,hA,HG,hL,hre,λrows H1 s1 hL1 j9=>⟨λhle l hMF=>?_,λhlt=>(q rows H1 s1 hL1 j9).2 hlt⟩⟩;let ⟨ws,hw,hR⟩:=hMF;have ok:Rj ak aj ao (Vv ak aj):=⟨HG,hre,λv hv=>Kd.mp hv⟩
  let ⟨hn0,hn1⟩:=An HG j9;have hq:=λH' a b=>(q rows H' a b j9).1 hle;have fu:(Vv ak aj).length<=200:=O6 hn1 hle;generalize Vv ak aj=L at *;have lw:ws.length=L.length:=by rw [hR.1,length_map]
  have gm:∀ (G:Hp) i,Qt H1 G->i < L.length->∃ a,ws[i]? = some a/\G a=some (.lst ((wI (L.getD i [])).map V.int)):=λG i s hi=>by
   have hi2:i < ws.length:=by lia
   exact ⟨ws[i],R3 hi2,s.to _ _ (hR.2 i _ _ (R3 hi2) (by rw [getElem?_map,getElem?_eq_getElem hi,getD_get _ _ hi]; rfl)) rfl⟩
  have hA1:=hA.bf s1;have hpu1:=s1.to _ _ hpu rfl;symm;refine ⟨⟨_,SqL.of hw⟩,λD hD=>?_⟩;refine Qz4 (λi y G => ∃ t,y=.ref t/\Wt G t ak aj ao (L.getD i []) ps) (λG=>By G Pa Pb Pc Jy Zs Xb) hw (by rw [sizeLine_eq,length_map]; lia) hD hL1 (λi y G G' s ⟨t,e,h⟩=>⟨t,e,h.same s⟩) ?_ ?_
  ·rintro i y G N hy sG hG hN;let ⟨pa,hpa,rfl⟩:=Yw hy;have hi:i < L.length:=by rw [<- lw]; exact (N5.mp hpa).1
   let ⟨a,ha,hv⟩:=gm G i sG hi;obtain rfl:pa=a:=Q9 (hpa.symm.trans ha);let ⟨c1,c2,c3⟩:=ok.at_ hi;symm;refine ⟨x,pa,pu,ak,aj,ao,_,ps,rfl,hA1.bf sG,HG,hre,hv,c1,c2,c3,sG.to _ _ hpu1 rfl,lps,pb,hG.2.1,hG.2.2,λt G' s so a1 a2 wat=>?_⟩;exact hN _ _ s (hG.two Z.a51 Z.a52 so a1 a2) ⟨t,rfl,wat⟩
  rintro ys G sG hG gD ly hys;let ⟨ts,rfl,pts⟩:=Um hys;have lt:ts.length=L.length:=by rw [length_map,length_map] at ly; lia
  have s2:Qu G (upd G D (.lst (ts.map V.ref))):=Qu.upd gD;have d2:upd G D (.lst (ts.map V.ref)) D=some (.lst (ts.map V.ref)):=Qk;generalize upd G D (.lst (ts.map V.ref))=H2 at *;have B2:Qt H1 H2:=sG.trans s2.b;have hat:∀ i,i < L.length->∃ t,(ts.map V.ref)[i]? = some (.ref t)/\Wt H2 t ak aj ao (L.getD i []) ps:=λi hi=>by
   have hi2:i < ts.length:=by lia
   exact ⟨ts[i],by simp [hi2],(pts i _ (R3 hi2)).same s2.b⟩
  have hL2:=hG.same s2;have hA2:=hA1.bf B2;have hw2:=B2.to _ _ hw rfl;have hrow2:∀ i,i < L.length->∃ a,(ws.map V.ref)[i]? = some (.ref a)/\H2 a=some (.lst ((wI (L.getD i [])).map V.int)):=λi hi=>by let ⟨a,h1,h2⟩:=gm H2 i B2 hi;exact ⟨a,by rw [getElem?_map,h1]; rfl,h2⟩
  have U2:=s1.trans B2;clear hys pts s2 gD hG sG B2 hA1 hpu1 gm hw hR hA hpu hL1 hL s1
  classical
  symm;refine ⟨l,_,rfl,.inl (SqL.of hw2),?_⟩;rw [length_map,lw];refine ⟨_,rfl,"o","o",λD3 hD3=>?_⟩;rw [Int.toNat_natCast];refine Yy (λp=>decide (∃ m k,Cy ak aj ao ps L p m k)) (λ(p:Nat)=>.int p) sml hD3 ?_ ?_ ?_
  ·rintro i H3 N hi s3 hN;rw [Int.zero_add];let ⟨t,h1,wat⟩:=hat i hi;symm;refine ixW i (s3 _ _ d2) h1 ?_;rcases wat with ⟨tp,rl,pl,k,R,rws,e1,e2,e3,e4,e5⟩ | ⟨pl,rws,e1,e4,e5⟩
   ·refine ixU (s3 _ _ e1) rfl ?_;symm;have hv:∃ m k,Cy ak aj ao ps L i m k:=by let ⟨as,m,_,_,_,hm,_⟩:=e5.pap;exact ⟨m,k,R,rws,e5,hm⟩
    have:=hN _ (Qu.refl _);rw [decide_eq_true hv] at this;exact this
   ·refine ixU (s3 _ _ e1) rfl ?_;symm;have:=hN _ (Qu.refl _);rw [decide_eq_false λ⟨m,k,h⟩=>Ar ok hi e5 h] at this;exact this
  ·rintro i H3 N hi hp s3 hN;symm;have:=hN _ (Qu.refl _);rw [Int.zero_add];exact this
  rintro H3 s3 d3;have d3':H3 D3=some (.lst ((wI ((range L.length).filter λp=>decide (∃ m k,Cy ak aj ao ps L p m k))).map V.int)):=by rw [d3]; unfold wI; rw [map_map]; rfl
  have hpl:∀ p,p∈((range L.length).filter λp=>decide (∃ m k,Cy ak aj ao ps L p m k)) ↔ p < L.length/\∃ m k,Cy ak aj ao ps L p m k:=λp=>by rw [mem_filter,mem_range,decide_eq_true_eq]
  have hso:((range L.length).filter λp=>decide (∃ m k,Cy ak aj ao ps L p m k)).Pairwise (· < ·):=List.Pairwise.filter _ pairwise_lt_range;have hpn:((range L.length).filter λp=>decide (∃ m k,Cy ak aj ao ps L p m k)).length<=L.length:=O6 (W3 _ _) (by simp);generalize ((range L.length).filter λp=>decide (∃ m k,Cy ak aj ao ps L p m k))=pl at *;clear d3;symm;refine ⟨D3,_,rfl,.inl (SqL.of d3'),?_⟩;rw [Za];symm
  by_cases hp0:pl.length=0
  ·refine Yr (O8 (by rw [hp0]; rfl)) ?_;have hnone:∀ i,i < L.length->∃ (t pp:G5) (rws:List (K8 × List Xx)),(ts.map V.ref)[i]? = some (.ref t)/\H3 t=some (.tup [.str (Str.ofString "none"),.ref pp])/\Xl H3 pp rws/\Nu ak aj ao (L.getD i []) ps rws:=λi hi=>by
    let ⟨t,h1,wat⟩:=hat i hi;rcases wat with ⟨tp,rl,pp,k,R,rws,e1,e2,e3,e4,e5⟩ | ⟨pp,rws,e1,e4,e5⟩
    ·let ⟨as,m,_,_,_,hm,_⟩:=e5.pap;have:=Z1 ((hpl i).mpr ⟨hi,m,k,R,rws,e5,hm⟩);lia
    ·exact ⟨t,pp,rws,h1,s3 _ _ e1,e4.same s3,e5⟩
   symm;refine ⟨l,_,rfl,.inl (SqL.of (s3 _ _ hw2)),?_⟩;rw [length_map,lw];refine ⟨_,rfl,"o","o",λD4 hD4=>?_⟩;rw [Int.toNat_natCast];refine Yk (λi y H' => ∃ u,y=.ref u/\u≠D4/\∃ (wy pp:G5) (rws:List (K8 × List Xx)),H' u=some (.tup [.ref wy,.ref pp])/\H3 wy=some (.lst ((wI (L.getD i [])).map V.int))/\Xl H3 pp rws/\Nu ak aj ao (L.getD i []) ps rws) sml hD4 (λi y H H' kp ⟨u,e,n,wy,pp,rws,h,r⟩=>⟨u,e,n,wy,pp,rws,kp u _ n h,r⟩) ?_ ?_
   ·rintro i H4 ys N hi s4 d4 hN;rw [Int.zero_add];let ⟨t,pp,rws,h1,h2,h3,h4⟩:=hnone i hi;let ⟨a,h5,h6⟩:=hrow2 i hi;symm;refine ixW i (s4 _ _ (s3 _ _ hw2)) h5 ?_;symm;refine ixW i (s4 _ _ (s3 _ _ d2)) h1 ?_;refine ixU (s4 _ _ h2) rfl ?_;symm;exact λu H5 n5=>hN _ _ n5.same ⟨u,rfl,(Qj d4 n5.none).symm,a,pp,rws,n5.at_,s3 _ _ h6,h3,h4⟩
   rintro ys H4 s4 d4 ly r4;let ⟨us,rfl,pus⟩:=Um (P:=λi u => ∃ (wy pp:G5) (rws:List (K8 × List Xx)),H4 u=some (.tup [.ref wy,.ref pp])/\H3 wy=some (.lst ((wI (L.getD i [])).map V.int))/\Xl H3 pp rws/\Nu ak aj ao (L.getD i []) ps rws) λi y e=>by let ⟨u,e1,_,r⟩:=r4 i y e;exact ⟨u,e1,r⟩
   symm;refine λt H5 n5=>?_;have S5:Qu H2 H5:=(s3.trans s4).trans n5.same;refine hq H5 (U2.trans S5.b) (hL2.same S5) t (.inr ⟨D4,us,n5.at_,n5.same _ _ d4,by simpa using ly,λi hi=>?_⟩);have hiu:i < us.length:=by rw [length_map] at ly; lia
   let ⟨wy,pp,rws,g1,g2,g3,g4⟩:=pus i _ (R3 hiu);exact ⟨us[i],wy,pp,rws,R3 hiu,n5.same _ _ g1,n5.same _ _ (s4 _ _ g2),(g3.same s4).same n5.same,g4⟩
  ·refine Vt (S8 λz=>hp0 (by have:=V.int.inj z; lia)) ?_;have hkept:∀ p,p∈pl->∃ (t tp rl pp:G5) (k:Int) (R:K3) (rws:List (K8 × List Xx)),(ts.map V.ref)[p]? = some (.ref t)/\H3 t=some (.tup [.str (Str.ofString "kept"),.ref tp,.ref pp])/\H3 tp=some (.tup [.int k,.ref rl])/\H3 rl=some (.lst (R.map V.int))/\Xl H3 pp rws/\Kn ak aj ao (L.getD p []) ps k R rws:=λp hp=>by
    let ⟨hi,m,k,hv⟩:=(hpl p).mp hp;let ⟨t,h1,wat⟩:=hat p hi;rcases wat with ⟨tp,rl,pp,k,R,rws,e1,e2,e3,e4,e5⟩ | ⟨pp,rws,e1,e4,e5⟩
    ·exact ⟨t,tp,rl,pp,k,R,rws,h1,s3 _ _ e1,s3 _ _ e2,s3 _ _ e3,e4.same s3,e5⟩
    ·exact absurd hv (Ar ok hi e5)
   have hV:Cm λp m k=>p < L.length/\Cy ak aj ao ps L p m k:=ok.val;have hp0':0 < pl.length:=by lia
   have h0:((wI pl).map V.int)[0]? = some (.int ((pl[0]:Nat):Int)):=by simp [wI,hp0']
   have hw3:=s3 _ _ hw2;have d23:=s3 _ _ d2;have hA3:=hA2.same s3;symm;refine ixW 0 d3' h0 ?_;symm;refine ⟨⟨_,SqL.of d3'⟩,?_⟩;refine Ym (xs:=(wI pl).map V.int) (λi σ H' => ∃ (o4:Option V) (b:Nat) (m k:Int),σ=[rf x,rf pu,rf l,rf D,o4,rf D3,iv (b:Int)]/\Qu H3 H'/\b∈pl/\(∀ j (h:j < pl.length),i<=j->b<=pl[j])/\Vi (λp m k=>p < L.length/\Cy ak aj ao ps L p m k) (λp=>p=pl[0]\/p∈pl.take i) b m k) ?_ (λi σ H' _ h=>by let ⟨_,_,_,_,_,h,_⟩:=h; exact SqL.of (h _ _ d3')) ?_ ?_
   ·let ⟨hi,m,k,hv⟩:=(hpl _).mp (M9 hp0');refine ⟨none,pl[0],m,k,rfl,Qu.refl _,M9 hp0',λj hj _=>?_,Qg0 hV ⟨hi,hv⟩ (.inl rfl) λp hp hn=>?_⟩
    ·rcases Nat.eq_zero_or_pos j with rfl | z
     ·exact O1 _
     ·exact V3 (A1c.mp hso 0 j hp0' hj z)
    ·rcases hp with z | z
     ·exact absurd z hn
     ·simp at z
   ·nofun;rintro i y σ H4 hy ⟨o6,b,m,k,rfl,s4,hb,oh,fb⟩;have hi:i < pl.length:=by have:=(N5.mp hy).1; simpa [wI] using this
    have ey:y=.int ((pl[i]:Nat):Int):=by simp [wI,hi] at hy;exact hy.symm
    subst ey;have hmi:=M9 hi;have hge:=oh i hi (O1 _);have hmon':∀ j (h:j < pl.length),i + 1<=j->pl[i]<=pl[j]:=λj h z=>V3 (A1c.mp hso i j hi h z);have ht:∀ p,(p=pl[0]\/p∈pl.take (i + 1))->(p=pl[0]\/p∈pl.take i)\/p=pl[i]:=λp z=>by
     rw [take_succ,getElem?_eq_getElem hi] at z;rcases z with z | z
     ·exact .inl (.inl z)
     ·rcases O5.mp z with z | z
      ·exact .inl (.inr z)
      ·exact .inr (by simpa using z)
    have hti:pl[i]∈pl.take (i + 1):=by rw [take_succ,getElem?_eq_getElem hi];exact P0 _ (by simp)
    have htb:∀ p,(p=pl[0]\/p∈pl.take i)->(p=pl[0]\/p∈pl.take (i + 1)):=λp z=>z.imp id λz=>by rw [take_succ];exact R5 _ z
    generalize pl[i]=c at *;let ⟨t1,tp1,rl1,pp1,k1,R1,q9,a1,a2,a3,a4,a5,a6⟩:=hkept b hb;let ⟨t2,tp2,rl2,pp2,k2,R2,dm,b1,b2,b3,b4,b5,b6⟩:=hkept c hmi;have hbl:=((hpl b).mp hb).1;have hcl:=((hpl c).mp hmi).1;let ⟨w1,w2,w3⟩:=hrow2 b hbl;let ⟨v1,v2,v3⟩:=hrow2 c hcl;let ⟨c1,c2,_⟩:=ok.at_ hbl;let ⟨e1,e2,_⟩:=ok.at_ hcl;symm;refine ixW b (s4 _ _ hw3) w2 ?_;symm;refine ixW b (s4 _ _ d23) a1 ?_;refine ⟨x,w1,t1,tp1,rl1,pp1,ak,aj,ao,_,ps,k1,R1,q9,rfl,hA3.same s4,HG,s4 _ _ (s3 _ _ w3),c1,c2,s4 _ _ a2,s4 _ _ a3,s4 _ _ a4,a6,λf1 m1 H5 s5 hf1 lm1=>?_⟩;have S5:=s4.trans s5;symm;refine ixW c (S5 _ _ hw3) v2 ?_;symm;refine ixW c (S5 _ _ d23) b1 ?_;refine ⟨x,v1,t2,tp2,rl2,pp2,ak,aj,ao,_,ps,k2,R2,dm,rfl,hA3.same S5,HG,S5 _ _ (s3 _ _ v3),e1,e2,S5 _ _ b2,S5 _ _ b3,S5 _ _ b4,b6,λf2 m2 H6 s6 hf2 lm2=>?_⟩;have S6:=S5.trans s6;have q1:=Mp HG hre c1 a6 lm1;have q2:=Mp HG hre e1 b6 lm2;have q3:=a6.k1;have q4:=b6.k1;refine ⟨f1,f2,m1,k1,m2,k2,rfl,s6 _ _ hf1,hf2,"o","o","o","o",?_⟩;have fb1:=fb.val hV ⟨hbl,R1,q9,a6,lm1⟩;symm;refine Fm (λz=>?_) (λzn=>?_)
    ·symm;exact ⟨_,c,m2,k2,rfl,S6,hmi,hmon',fb1.move hV ⟨hcl,R2,dm,b6,lm2⟩ (Q7 z) (.inr hti) λp z=>ht p z⟩
    ·nofun;refine ⟨_,b,m1,k1,rfl,S6,hb,λj h z=>oh j h "o",fb1.keep hV (htb b fb.1) λp z=>?_⟩;rcases ht p z with z' | rfl
     ·exact .inl z'
     ·exact .inr λ_ _ _=>⟨hge,m2,k2,⟨hcl,R2,dm,b6,lm2⟩,Int.not_lt.mp λz'=>zn (O8 z')⟩
   ·rintro σ H4 ⟨o6,b,m,k,rfl,s4,hb,_,fb⟩;nofun;rw [Za,take_length] at fb;let ⟨t1,tp1,rl1,pp1,k1,R1,q9,a1,a2,a3,a4,a5,a6⟩:=hkept b hb;have hbl:=((hpl b).mp hb).1;let ⟨w1,w2,w3⟩:=hrow2 b hbl;let ⟨as,m1,_,_,_,lm1,_⟩:=a6.pap;have fb1:=fb.val hV ⟨hbl,R1,q9,a6,lm1⟩;symm;refine ixW b (s4 _ _ hw3) w2 ?_;symm;refine ixW b (s4 _ _ d23) a1 ?_;refine ixU (s4 _ _ a2) rfl ?_;symm;refine ixW b (s4 _ _ d23) a1 ?_;refine ixU (s4 _ _ a2) rfl ?_;symm;refine λt H5 n5=>?_;have S5:Qu H3 H5:=s4.trans n5.same;refine hq H5 (U2.trans (s3.trans S5).b) (hL2.same (s3.trans S5)) t (.inl ⟨w1,tp1,rl1,pp1,b,m1,k1,R1,q9,n5.at_,S5 _ _ (s3 _ _ w3),S5 _ _ a3,S5 _ _ a4,a5.same S5,a6,fb1.keep hV hbl λp hp=>?_⟩)
    by_cases hv:∃ m k,Cy ak aj ao ps L p m k
    ·exact .inl (.inr ((hpl p).mpr ⟨hp,hv⟩))
    ·exact .inr λc d h=>absurd ⟨c,d,h.2⟩ hv
theorem Qdk:Def P w K mg base 1 "_law_free" [Y1,Y3] (Qp9 K):=by
 refine Z.a63.mq [Y1,Y3] λH vs Q E hr nD h=>?_;let ⟨b,a,ak,way,rfl,hb,lb,ha,q⟩:=h;refine ⟨_,(Qf (Wk [Y28,Y1,Y3] [none,some 0,some 1] (Zr Z.T.u1 (Qq (Zx K Z.T.u0 %[0|0]) Qz)) (q_t Ra (Dv (K:=K) rfl A0i A1n A1o (Gh (K:=K) rfl) {2} %[0|0]) (Qb K {1} {0})) {0})),?_⟩;refine ⟨_,rfl,b,_,rfl,.inl (SqL.of hb),?_⟩;rw [length_map];walk_at "d";refine Yy (λ(r:Nat)=>decide ((((wI way).count (r:Int):Nat):Int) < ak.getD r 0)) (λ(r:Nat)=>.int r) sml hD ?_ ?_ ?_
 ·rintro r H3 N hr s3 hN;have g2:(ak.map V.int)[r]? = some (.int (ak.getD r 0)):=by simp [hr,getD]
  refine ⟨_,rfl,.inl ⟨rfl,_,SqL.of (s3 _ _ ha)⟩,_,rfl,a,wI way,_,rfl,rfl,SqL.of (s3 _ _ ha),?_⟩;rw [Int.zero_add];symm;refine ixL (SqL.of (s3 _ _ hb)) (Qc r "o" g2) ?_;exact ⟨_,_,rfl,rfl,_,rfl,hN _ (Qu.refl _)⟩
 ·rintro r H3 N hr hp s3 hN;symm;have:=hN _ (Qu.refl _);rw [Int.zero_add];exact this
 ·rintro H3 s3 d3;refine q D H3 ⟨s3,hD,?_⟩;rw [d3];unfold Yu;rw [map_map];rfl
theorem Qs1:Def P w K mg base 2 "_law_fair" [Y1,Y0,Y10,Y3,Y12] Qk4:=by
 refine Z.a64.mq [Y1,Y0,Y10,Y3,Y12,Y25,Y16,Y28,Y11,"_law_share","_law_q"] λH vs Q E hr nD h=>?_;let ⟨b,w,wy,tp,rl,⟨ak,aj,ao,way,parts,rows⟩,hvs,hb,hM,hwy,htp,hrl,ok,l0,fair,q⟩:=h;have hvs':vs=[.ref b,.ref w,.int ao,.ref wy,.ref tp]:=hvs;subst hvs';refine ⟨_,(zcF (zcC (Vn {4} (Wu (K:=K) (n:=2) rfl rfl (Zy (Ql 5 nD) (Zy (Ql 6 nD) Wy)))) (zcC (Zz (q_t Ue (Qr (Xu (K:=K) rfl rfl) (by rfl) Z.T.u10 Xg (Qq (Zt [Y28,Y16] [none,some 6] (Vo K {3}) (Qb K {1} {0})) Qz)) (Qy Qi {5} {2})) (Qf Ju) Qh) (zcC (Xt (Zr Z.T.u1 (Qq (Zx K Z.T.u0 %[3|0]) Qz)) (Ql 8 nD) (zcF (zcC (Qg 9 nD (Qy Zv (Qy Qi {5} (Qb K (Qb K {1} {8}) (Qb K {3} {8}))) (Qb K {6} (Qb K {3} {8})))) (zc1 (Xt (Zr Z.T.u1 (Qq (Zx K Z.T.u0 %[6|0]) Qz)) (Ql 7 nD) (Qm (Zz (q_t Ft (Qy Zv (Qy Qi {5} (Qb K (Qb K {1} {8}) {7})) (Qb K {6} {7})) {9}) (Qf Ju) Qh))))))) (zcL (Qw (Xt (Vo K (Qd (Qdk Z) hr %[0,3|0])) (Ql 7 nD) (Qm (Xt (Vo K {3}) (Ql 10 nD) (Qm (Zz (q_t Ft (Qb K {6} {7}) (Qb K {6} {10})) (Qf Ju) Qh))))) (Qf Ju))))))),?_⟩;replace hb:H b=some (.lst (ak.map V.int)):=hb;replace hM:Mat H w aj:=hM;replace hwy:H wy=some (.lst ((wI way).map V.int)):=hwy;replace htp:H tp=some (.tup [.int parts,.ref rl]):=htp;replace hrl:H rl=some (.lst (rows.map V.int)):=hrl;have l1:aj.length<=10:=ok.w1;have l2:ak.length<=10:=ok.b1;have l3:way.length=aj.length:=ok.wl;have l4:rows.length=ak.length:=ok.rl;have l5:0 < aj.length:=l0;have fit:Fit (bF ak) way:=ok.fit;have hpb:-(10 ^ 100) < parts/\parts < 10 ^ 100:=ok.pb;have hrb:-(10 ^ 100) < ao/\ao < 10 ^ 100:=ok.rb;have hrw:∀ row∈aj,row.length=ak.length:=ok.rw;have hwb:∀ row∈aj,∀ x∈row,-(10 ^ 100) < x/\x < 10 ^ 100:=ok.wb;have jb:(way.map λr=>rows.getD r 0).sum=parts * ao:=fair.1;have hne:∀ i r,i < aj.length->r < ak.length->¬ (parts * wF aj i (way.getD i 0) - rows.getD (way.getD i 0) 0 < parts * wF aj i r - rows.getD r 0):=fair.2.1;have hnd:∀ r q,r < ak.length->q < ak.length->¬ (way.count r < bF ak r/\0 < way.count q/\rows.getD q 0 < rows.getD r 0):=fair.2.2;clear fair ok;have hlt:=Jz fit;have hix:∀ z∈wI way,∃ j:Nat,z=(j:Int)/\(rows.map V.int)[j]? = some (.int (rows.getD z.toNat 0)):=λz hz=>by
  let ⟨r,hr,rfl⟩:=O3.mp hz;have hr2:r < rows.length:=by rw [l4]; exact hlt r hr
  refine ⟨r,rfl,?_⟩;rw [Int.toNat_natCast,getD_get _ _ hr2];simp [hr2]
 have hpaid:((wI way).map λz=>rows.getD z.toNat 0)=way.map λr=>rows.getD r 0:=by unfold wI;rw [map_map];rfl
 nofun;refine ⟨_,rfl,tp,_,rfl,SqT.of htp,rfl,_,_,rfl,_,_,rfl,rfl,?_⟩;symm;refine ⟨⟨_,SqL.of hwy⟩,λD hD=>?_⟩;refine Kr (wI way) (λz=>.int (rows.getD z.toNat 0)) (SqL.of hwy) (by rw [sizeLine_eq]; simp [wI]; lia) hD (λz hz H2 N s2 hN=>?_) λH2 s2 d2=>?_
 ·let ⟨j,ej,hj⟩:=hix z hz;symm;exact ixL (SqL.of (s2 _ _ hrl)) (Qc j ej hj) (hN _ (Qu.refl _))
 have d2':H2 D=some (.lst ((way.map λr=>rows.getD r 0).map V.int)):=by rw [d2,<- hpaid,map_map]; rfl
 refine ⟨D,_,rfl,SqL.of d2',?_⟩;rw [jb];symm;refine Vt (by simp) ?_;symm;refine ⟨wy,_,rfl,.inl (SqL.of (s2 _ _ hwy)),?_⟩;rw [Za,l3];walk_at "r";refine Zf (λi σ H'=>(∃ o7 o8 o9 o10:Option V,σ=[rf b,rf w,iv ao,rf wy,rf tp,iv parts,rf rl,o7,o8,o9,o10])/\Qu H H') ⟨⟨_,_,_,_,rfl⟩,s2⟩ ?_ ?_
 ·nofun;rintro i σ H3 hi ⟨⟨o7,o8,o9,o10,rfl⟩,s3⟩;have hwy3:=s3 _ _ hwy;have hrl3:=s3 _ _ hrl;let ⟨ws,hw3,hR3⟩:=id (hM.same s3);have hiw:i < way.length:=by lia
  have gm:aj[i]? = some aj[i]:=by simp [hi]
  let ⟨ra,g1,g2,g3⟩:=hR3.at_ gm;have hrl':=hrw _ (M9 hi);have gwy:((wI way).map V.int)[i]? = some (.int ((way.getD i 0:Nat):Int)):=by simp [wI,getD,hiw]
  have hwi:way.getD i 0 < ak.length:=hlt _ (by rw [getD_get _ _ hiw]; exact M9 hiw);have gx:∀ j,j < ak.length->(aj[i].map V.int)[j]? = some (.int (wF aj i j))/\(-(10 ^ 100) < wF aj i j/\wF aj i j < 10 ^ 100)/\(rows.map V.int)[j]? = some (.int (rows.getD j 0)):=λj hj=>by
   have hl:j < aj[i].length:=by lia
   have e5:wF aj i j=aj[i][j]:=by simp [hl,wF,hi,getD]
   refine ⟨by simp [hl,wF,hi,getD],?_,by simp [show j < rows.length by lia,getD]⟩;rw [e5];exact hwb _ (M9 hi) _ (M9 hl)
  let ⟨x1,x2,x3⟩:=gx _ hwi;nofun;rw [Int.zero_add];symm;refine ixW i hw3 g2 ?_;symm;refine ixW i hwy3 gwy ?_;symm;refine ixW _ g3 x1 ?_;walk_at "m";symm;refine ixW i hwy3 gwy ?_;symm;refine ixW _ hrl3 x3 ?_;symm;refine ⟨rl,_,rfl,.inl (SqL.of hrl3),?_⟩;rw [length_map,l4];walk_at "r";refine Zf (λj σ H'=>(∃ o7 o10:Option V,σ=[rf b,rf w,iv ao,rf wy,rf tp,iv parts,rf rl,o7,iv (i:Int),iv (parts * wF aj i (way.getD i 0) - rows.getD (way.getD i 0) 0),o10])/\H3=H') ⟨⟨_,_,rfl⟩,rfl⟩ ?_ ?_
  ·nofun;rintro j σ H4 hj ⟨⟨o7',o10',rfl⟩,rfl⟩;let ⟨y1,y2,y3⟩:=gx _ hj;rw [Int.zero_add];symm;refine ixW i hw3 g2 ?_;symm;refine ixW _ g3 y1 ?_;walk_at "m";symm;refine ixW _ hrl3 y3 ?_;symm;refine Vt (S8 (hne i j hi hj)) ?_;nofun;exact ⟨⟨_,_,rfl⟩,rfl⟩
  ·rintro σ H4 ⟨⟨o7',o10',rfl⟩,rfl⟩;nofun;exact ⟨⟨_,_,_,_,rfl⟩,s3⟩
 ·rintro σ H3 ⟨⟨o7,o8,o9,o10,rfl⟩,s3⟩;symm;refine ⟨b,wy,ak,way,rfl,s3 _ _ hb,"o",s3 _ _ hwy,λlo H4 n4=>?_⟩;have s4:Qu H H4:=s3.trans n4.same;refine ⟨lo,rfl,⟨_,SqL.of n4.at_⟩,?_⟩;refine Ym (xs:=(Yu ak (wI way)).map V.int) (λi σ H'=>(∃ o7 o10:Option V,σ=[rf b,rf w,iv ao,rf wy,rf tp,iv parts,rf rl,o7,o8,o9,o10])/\H4=H') ⟨⟨_,_,rfl⟩,rfl⟩ (λi σ H' _ ⟨_,e⟩=>e ▸ SqL.of n4.at_) ?_ ?_
  ·nofun;rintro i y σ H5 hy ⟨⟨o7',o10',rfl⟩,rfl⟩;let ⟨z,hz,rfl⟩:=int_at hy;have hzm:z∈Yu ak (wI way):=R9 hz;unfold Yu at hzm;let ⟨r,hr,rfl⟩:=O3.mp hzm;let ⟨hr1,hr2⟩:=T3.mp hr;have hrb:=N8.mp hr1;have ho:way.count r < bF ak r:=by have:=Q7 hr2;rw [Tz] at this;unfold bF;lia
   have gr:(rows.map V.int)[r]? = some (.int (rows.getD r 0)):=by simp [show r < rows.length by lia,getD]
   symm;refine ⟨⟨_,SqL.of (s4 _ _ hwy)⟩,?_⟩;refine Ym (xs:=(wI way).map V.int) (λj σ H'=>(∃ o10:Option V,σ=[rf b,rf w,iv ao,rf wy,rf tp,iv parts,rf rl,iv (r:Int),o8,o9,o10])/\H4=H') ⟨⟨_,rfl⟩,rfl⟩ (λi σ H' _ ⟨_,e⟩=>e ▸ SqL.of (s4 _ _ hwy)) ?_ ?_
   ·nofun;rintro j y σ H6 hy ⟨⟨o10'',rfl⟩,rfl⟩;let ⟨z,hz,rfl⟩:=int_at hy;let ⟨q',hq',rfl⟩:=O3.mp (R9 hz);have hqb:=hlt q' hq';have gq:(rows.map V.int)[q']? = some (.int (rows.getD q' 0)):=by simp [show q' < rows.length by lia,getD]
    symm;refine ixW r (s4 _ _ hrl) gr ?_;symm;refine ixW q' (s4 _ _ hrl) gq ?_;have h3:=hnd r q' hrb hqb;symm;refine Vt (S8 λz=>h3 ⟨ho,V8.mpr hq',z⟩) ?_;nofun;exact ⟨⟨_,rfl⟩,rfl⟩
   ·rintro σ H6 ⟨⟨o10'',rfl⟩,rfl⟩;nofun;exact ⟨⟨_,_,rfl⟩,rfl⟩
  ·rintro σ H5 ⟨⟨o7',o10',rfl⟩,rfl⟩;symm;exact q _ s4
theorem Qb1:Def P w K mg base 1 "_law_common" ["_law_one",Y43] Oi:=by
 refine Z.a65.mq ["_law_one",Y43] λH vs Q E hr nD h=>?_;let ⟨a,b,rfl,q⟩:=h;refine ⟨_,(zcF (zcC (Mu A1i (q_t Ue {1} Qx) (Qm (Qaz (i:=0) (j:=1) rfl nD rfl rfl (by decide) rfl rfl (Qq {1} (Qq (Qy Qt0 {0} {1}) Qz)) (by rfl)))) (zcL (Qf (Qr Im (by rfl) Z.T.u16 Ln %[0|0]))))),?_⟩;nofun;refine ⟨λm σ H' => ∃ (x y:Int),σ=[iv x,iv y]/\m=y.natAbs/\Nat.gcd x.natAbs y.natAbs=Nat.gcd a.natAbs b.natAbs/\Qu H H',⟨_,a,b,rfl,rfl,rfl,Qu.refl _⟩,?_⟩;rintro m σ H' ⟨x,y,rfl,rfl,hg,s1⟩;symm;refine Fm (λe=>?_) (λe=>?_)
 ·have hy0:y≠0:=by simpa using e
  refine ⟨_,λσ' H' h=>h,?_⟩;symm;exact ⟨_,_,rfl,_,Qm2 x hy0,_,_,rfl,rfl,by rw [Qm0]; exact hg,s1⟩
 ·have hy0:y=0:=by simpa using e
  subst hy0;symm;have e2:(if x < 0 then -x else x)=((Nat.gcd a.natAbs b.natAbs:Nat):Int):=by
   rw [<- hg,Int.natAbs_zero,Nat.gcd_zero_right]
   split <;> lia
  show Q (V.int (if x < 0 then -x else x)) H';rw [e2];exact q _ s1
theorem Qgk:Def P w K mg base 2 "_law_priced" [Y12,Y32] Ot:=by
 refine Z.a66.mq [Y12,Y32,"_law_by",Y15] @λ_ _ _ _ s H vs Q E hr nD h=>?_;let ⟨tp,rl,n,k,R,rfl,htp,hrl,k0,hn,lR,hg,q⟩:=h;refine ⟨_,(zcF (zcC (Zz (PW.pt (Jv (Xf (Xc (Zp K Z.T.u3 (Qq {0} (Qq (Ul (v:=.ty "tuple") rfl Z.T.u7 Vl rfl) Qz))))) (Jv (q_t Ue (Zx K Z.T.u0 %[0|0]) Qx) (Jv (Xf (Xc (Qd (Na Z) hr (Qq (Qb K {0} Qx) Qz)))) (Yo (q_t Ra (Qb K {0} Qx) Qx)))))) (Qf Ju) Qh) (zcC (Zz (PW.pt (Jv (Xf (Xc (Zp K Z.T.u3 (Qq (Qb K {0} Qx) (Qq (Ul (v:=.ty "list") rfl Z.T.u6 Jc rfl) Qz))))) (Yo (q_t Ue (Zx K Z.T.u0 (Qq (Qb K {0} Qx) Qz)) {1})))) (Qf Ju) Qh) (zcC (Qg 2 nD (Qb K {0} Qx)) (zcL (Qw (Xt (Vo K (Qb K {0} Qx)) (Ql 3 nD) (zcF (zcC (Zz (Xf (Xc (Qd (Na Z) hr %[3|0]))) (Qf Ju) Qh) (zc1 (Qg 2 nD (Qd (Qb1 Z) hr %[2,3|0])))))) (Qf (Uc Jg {2} Qx (Rx _))))))))),?_⟩;symm;refine ⟨_,_,_,true,rfl,.tup htp,Ya _ _,_,rfl,Bv ?_⟩;symm;refine ⟨tp,_,rfl,.inr (SqT.of htp),?_⟩;symm;refine ixU htp rfl ?_;symm;refine ixU htp rfl ?_;symm;refine Vt (S8 "o") ?_;symm;refine ixU htp rfl ?_;symm;refine ⟨_,_,_,true,rfl,.lst hrl,Ya _ _,_,rfl,Bv ?_⟩;symm;refine ixU htp rfl ?_;refine ⟨rl,_,rfl,.inl (SqL.of hrl),?_⟩;rw [length_map,hn];symm;refine Vt (by simp) ?_;symm;refine ixU htp rfl ?_;symm;refine ixU htp rfl ?_;refine ⟨rl,rfl,⟨_,SqL.of hrl⟩,?_⟩;refine Ym (xs:=R.map V.int) (λi σ H' => ∃ (o3:Option V) (g:Nat),σ=[rf tp,iv (R.length:Int),iv (g:Int),o3]/\bx g (R.drop i)=1/\Qu H H') ⟨none,k.natAbs,by rw [show ((k.natAbs:Nat):Int)=k by lia]; rfl,hg,Qu.refl _⟩ (λi σ H' _ ⟨_,_,_,_,s⟩=>SqL.of (s _ _ hrl)) ?_ ?_
 ·nofun;rintro i y σ H1 hy ⟨o3,g,rfl,hgi,s1⟩;let ⟨z,hz,rfl⟩:=int_at hy;symm;refine ⟨g,z,rfl,λH2 s2=>?_⟩;have hd:R.drop i=z :: R.drop (i + 1):=by let ⟨hi,e⟩:=N5.mp hz;rw [<- e,drop_eq_getElem_cons hi]
  nofun;rw [hd] at hgi;exact ⟨_,_,rfl,hgi,s1.trans s2⟩
 ·rintro σ H1 ⟨o3,g,rfl,hgi,s1⟩;rw [length_map,drop_length] at hgi;have hg1:g=1:=hgi;subst hg1;symm;exact q _ s1
theorem Qb3:Def P w K mg base 2 "_law_hop_gain" [Y1,Y0,Y3,"_law_hop",Y42] Hw:=by
 refine Z.a67.mq [Y1,Y0,Y3,"_law_hop",Y42,"_law_a",Y28,"_law_b"] λH vs Q E hr nD h=>?_;let ⟨b,w,wy,t,ak,aj,way,m,at_,rfl,hb,hM,hwy,ok,ht,q⟩:=h;refine ⟨_,(Qw (Zz (PW.pt (Jv (Xf (Xc (Zp K Z.T.u3 (Qq {3} (Qq (Ul (v:=.ty "tuple") rfl Z.T.u7 Vl rfl) Qz))))) (Jv (q_t Ue (Zx K Z.T.u0 %[3|0]) Qx) (Yo (Xf (Xc (Qr (Gi (K:=K) rfl rfl) (by rfl) Z.T.u11 Ga (Qq (Zt [Y20] [none] (Qr7 (K:=K) rfl {3}) (Qd (Na Z) hr %[0|0])) Qz)))))))) (Qf Zg) Qh) (Qw (Vn {3} (Wu (K:=K) (n:=3) rfl rfl (Zy (Ql 5 nD) (Zy (Ql 6 nD) (Zy (Ql 7 nD) Wy))))) (Qw (Zz (PW.pt (Jv (Xf (Tw Bg Ra Qx {5} (Zx K Z.T.u0 %[2|0]))) (Jv (Xf (Tw Bg Ra Qx {7} (Zx K Z.T.u0 %[2|0]))) (Jv (q_t Jg {5} {7}) (Yo (PW.pt (Re (q_t Nl {4} Zg) (Vw (q_t Ue {5} {4}))))))))) (Qf Zg) Qh) (Qw (Zz (PW.pt (Re (q_t Ue {6} (Qb K {2} {5})) (Vw (Ud (Tr (K:=K) rfl) {6} (Qd (Qdk Z) hr %[0,2|0]) (by with_unfolding_all rfl))))) (Qf Zg) Qh) (Qf (Qy Zv (Qb K (Qb K {1} {7}) {6}) (Qb K (Qb K {1} {5}) (Qb K {2} {5})))))))),?_⟩;have lw:=ok.len;have lb:=ok.bok.b1;let ⟨m1,m2,m3⟩:=m;have iw:∀ H',Qu H H'->¬ (okI true ak aj.length way (m1,m2,m3)=true/\(at_=none\/at_=some m1))->Q .non H':=λH' s' y=>by have:=q H' s';rw [if_neg y] at this;exact this
 have ok_:okI true ak aj.length way (m1,m2,m3)=true->m1≠m3/\0<=m1/\m1 < (aj.length:Int)/\0<=m3/\m3 < (aj.length:Int)/\m2∈Zm true ak way m1.toNat m3.toNat:=λy=>Q7 y;symm;refine ⟨_,_,_,true,rfl,.tup ht,Ya _ _,_,rfl,Bv ?_⟩;symm;refine ⟨t,_,rfl,.inr (SqT.of ht),?_⟩;symm;refine ⟨⟨_,SqT.of ht⟩,λD hD=>?_⟩;refine Qm6 (λ_ y _=>y=.bl true) (SqT.of ht) (by rw [sizeLine_eq]; simp [ihV]) hD (λ_ _ _ _ _ h=>h) ?_ ?_
 ·rintro j y H3 ys N hy s3 d3 hN;obtain ⟨z,rfl⟩:∃ z,y=.int z:=by have:=R9 hy;simp [ihV] at this;rcases this with rfl | rfl | rfl <;> exact ⟨_,rfl⟩
  symm;exact hN _ _ (Qu.refl _) rfl
 rintro ys H1 s1 d1 ly hy;have ey:ys=[.bl true,.bl true,.bl true]:=by
  match ys,ly,hy with
  | [a1,a2,a3],_,hy=>rw [hy 0 a1 rfl,hy 1 a2 rfl,hy 2 a3 rfl]
 subst ey;refine ⟨D,[true,true,true],rfl,SqL.of d1,?_⟩;have ht1:=s1 _ _ ht;have jl:=s1 _ _ hwy;symm;refine ⟨t,_,rfl,SqT.of ht1,rfl,_,_,rfl,_,_,rfl,_,_,rfl,rfl,?_⟩;refine ⟨_,rfl,_,_,rfl,rfl,_,rfl,?_⟩
 by_cases p1:0<=m1
 rotate_left
 ·refine Vt (S8 p1) ?_;refine ⟨_,rfl,Yr rfl ?_⟩;exact iw _ s1 λy=>p1 (by have:=ok_ y.1; lia)
 refine Yr (O8 p1) ?_;refine ⟨_,rfl,wy,_,rfl,.inl (SqL.of jl),?_⟩;rw [Za,lw];refine ⟨_,_,rfl,rfl,_,rfl,?_⟩
 by_cases r1:m1 < (aj.length:Int)
 rotate_left
 ·refine Yr (by show (!decide (m1 < (aj.length:Int)))=true; rw [decide_eq_false r1]; rfl) ?_;exact iw _ s1 λy=>r1 (by have:=ok_ y.1; lia)
 refine Vt (by show (!decide (m1 < (aj.length:Int)))=false; rw [decide_eq_true r1]; rfl) ?_;refine ⟨_,rfl,_,_,rfl,rfl,_,rfl,?_⟩
 by_cases p3:0<=m3
 rotate_left
 ·refine Vt (S8 p3) ?_;refine ⟨_,rfl,Yr rfl ?_⟩;exact iw _ s1 λy=>p3 (by have:=ok_ y.1; lia)
 refine Yr (O8 p3) ?_;refine ⟨_,rfl,wy,_,rfl,.inl (SqL.of jl),?_⟩;rw [Za,lw];refine ⟨_,_,rfl,rfl,_,rfl,?_⟩
 by_cases r3:m3 < (aj.length:Int)
 rotate_left
 ·refine Yr (by show (!decide (m3 < (aj.length:Int)))=true; rw [decide_eq_false r3]; rfl) ?_;exact iw _ s1 λy=>r3 (by have:=ok_ y.1; lia)
 refine Vt (by show (!decide (m3 < (aj.length:Int)))=false; rw [decide_eq_true r3]; rfl) ?_;symm;refine Fm (λe=>?_) (λe=>?_)
 ·symm;refine iw _ s1 λy=>?_;have h1:=Q7 e;injection h1 with h1
  exact (ok_ y.1).1 h1
 have n13:m1≠m3:=λy=>e (O8 (by rw [y]));let ⟨a,rfl⟩:=A0t p1;let ⟨b',rfl⟩:=A0t p3;symm;have ha2:a < aj.length:=by lia
 have hb2:b' < aj.length:=by lia
 have wa:=ok.at_ ha2
 by_cases hat:at_=none\/at_=some (a:Int)
 rotate_left
 ·cases at_ with
  | none=>exact absurd (.inl rfl) hat
  | some z =>have hz:(a:Int)≠z:=λe=>hat (.inr (by rw [e]));refine Yr rfl ?_;symm;refine Yr (by simp [Cp,hz]) ?_;symm;exact iw _ s1 λy=>hat y.2
 rcases hat with rfl | rfl
 ·refine Vt rfl ?_;symm;refine ixW a jl (Fl wa.1) ?_;symm
  by_cases hrm:m2=((way.getD a 0:Nat):Int)
  ·refine Vt (by simp [hrm]) ?_;have lu:m2∈Zm true ak way a b':=O5.mpr (.inr (by rw [hrm]; simp));have hok:okI true ak aj.length way ((a:Int),m2,(b':Int))=true:=O8 ⟨n13,p1,r1,p3,r3,by simpa using lu⟩;let ⟨a0,r,b0,eq0,_,_,_,hrl,_⟩:=Bf ok hok;have er:m2=(r:Int):=by injection eq0 with _ z; injection z
   subst er;let ⟨ws,hw,hR⟩:=id (hM.same s1);let ⟨rb,x1,x2,x3⟩:=hR.at_ (show aj[b']? = some aj[b'] by simp [hb2]);let ⟨ra,y1,y2,y3⟩:=hR.at_ (show aj[a]? = some aj[a] by simp [ha2]);have lrb:=ok.bok.rows _ (M9 hb2);have lra:=ok.bok.rows _ (M9 ha2);symm;refine ixW b' hw x2 ?_;symm;refine ixL (SqL.of x3) (Qc r rfl (v:=.int (wF aj b' r)) (by simp [wF,getD,hb2,show r < aj[b'].length by lia])) ?_;symm;refine ixW a hw y2 ?_;symm;refine ixW a jl (Fl wa.1) ?_;have wa2:=wa.2;refine ixL (SqL.of y3) (Qc (way.getD a 0) rfl (v:=.int (Zh aj way a)) (by simp [Zh,wF,getD,ha2,show way[a]?.getD 0 < aj[a].length by rw [<- getD_eq_getElem?_getD]; lia])) ?_;have hq:=q _ s1;rw [if_pos ⟨hok,.inl rfl⟩] at hq;refine ⟨_,_,rfl,rfl,?_⟩;simpa [gnI,Zn,Cp] using hq
  ·refine Yr (by show (!decide (V.int m2=V.int ((way.getD a 0:Nat):Int)))=true; rw [decide_eq_false λz=>hrm (by injection z)]; rfl) ?_;symm;refine ⟨b,wy,ak,way,rfl,s1 _ _ hb,"o",jl,λl4 H4 n4=>?_⟩;refine ⟨l4,_,rfl,.inl (SqL.of n4.at_),rfl,by simp [Ve],?_⟩;rw [if_pos rfl,Vp]
   by_cases hin:m2∈Yu ak (wI way)
   ·rw [decide_eq_true hin];have lu:m2∈Zm true ak way a b':=O5.mpr (.inl hin);have hok:okI true ak aj.length way ((a:Int),m2,(b':Int))=true:=O8 ⟨n13,p1,r1,p3,r3,by simpa using lu⟩;let ⟨a0,r,b0,eq0,_,_,_,hrl,_⟩:=Bf ok hok;have er:m2=(r:Int):=by injection eq0 with _ z; injection z
    subst er;let ⟨ws,hw,hR⟩:=id (hM.same (s1.trans n4.same));let ⟨rb,x1,x2,x3⟩:=hR.at_ (show aj[b']? = some aj[b'] by simp [hb2]);let ⟨ra,y1,y2,y3⟩:=hR.at_ (show aj[a]? = some aj[a] by simp [ha2]);have lrb:=ok.bok.rows _ (M9 hb2);have lra:=ok.bok.rows _ (M9 ha2);symm;refine ixW b' hw x2 ?_;symm;refine ixL (SqL.of x3) (Qc r rfl (v:=.int (wF aj b' r)) (by simp [wF,getD,hb2,show r < aj[b'].length by lia])) ?_;symm;refine ixW a hw y2 ?_;symm;refine ixW a (n4.same _ _ jl) (Fl wa.1) ?_;have wa2:=wa.2;refine ixL (SqL.of y3) (Qc (way.getD a 0) rfl (v:=.int (Zh aj way a)) (by simp [Zh,wF,getD,ha2,show way[a]?.getD 0 < aj[a].length by rw [<- getD_eq_getElem?_getD]; lia])) ?_;have hq:=q _ (s1.trans n4.same);rw [if_pos ⟨hok,.inl rfl⟩] at hq;refine ⟨_,_,rfl,rfl,?_⟩;simpa [gnI,Zn,Cp] using hq
   ·rw [decide_eq_false hin];symm;refine iw _ (s1.trans n4.same) λy=>?_;rcases O5.mp (ok_ y.1).2.2.2.2.2 with z | z
    ·exact hin z
    ·exact hrm (by simpa using z)
 ·refine Yr rfl ?_;symm;refine Vt (by simp [Cp]) ?_;symm;refine ixW a jl (Fl wa.1) ?_;symm
  by_cases hrm:m2=((way.getD a 0:Nat):Int)
  ·refine Vt (by simp [hrm]) ?_;have lu:m2∈Zm true ak way a b':=O5.mpr (.inr (by rw [hrm]; simp));have hok:okI true ak aj.length way ((a:Int),m2,(b':Int))=true:=O8 ⟨n13,p1,r1,p3,r3,by simpa using lu⟩;let ⟨a0,r,b0,eq0,_,_,_,hrl,_⟩:=Bf ok hok;have er:m2=(r:Int):=by injection eq0 with _ z; injection z
   subst er;let ⟨ws,hw,hR⟩:=id (hM.same s1);let ⟨rb,x1,x2,x3⟩:=hR.at_ (show aj[b']? = some aj[b'] by simp [hb2]);let ⟨ra,y1,y2,y3⟩:=hR.at_ (show aj[a]? = some aj[a] by simp [ha2]);have lrb:=ok.bok.rows _ (M9 hb2);have lra:=ok.bok.rows _ (M9 ha2);symm;refine ixW b' hw x2 ?_;symm;refine ixL (SqL.of x3) (Qc r rfl (v:=.int (wF aj b' r)) (by simp [wF,getD,hb2,show r < aj[b'].length by lia])) ?_;symm;refine ixW a hw y2 ?_;symm;refine ixW a jl (Fl wa.1) ?_;have wa2:=wa.2;refine ixL (SqL.of y3) (Qc (way.getD a 0) rfl (v:=.int (Zh aj way a)) (by simp [Zh,wF,getD,ha2,show way[a]?.getD 0 < aj[a].length by rw [<- getD_eq_getElem?_getD]; lia])) ?_;have hq:=q _ s1;rw [if_pos ⟨hok,.inr rfl⟩] at hq;refine ⟨_,_,rfl,rfl,?_⟩;simpa [gnI,Zn,Cp] using hq
  ·refine Yr (by show (!decide (V.int m2=V.int ((way.getD a 0:Nat):Int)))=true; rw [decide_eq_false λz=>hrm (by injection z)]; rfl) ?_;symm;refine ⟨b,wy,ak,way,rfl,s1 _ _ hb,"o",jl,λl4 H4 n4=>?_⟩;refine ⟨l4,_,rfl,.inl (SqL.of n4.at_),rfl,by simp [Ve],?_⟩;rw [if_pos rfl,Vp]
   by_cases hin:m2∈Yu ak (wI way)
   ·rw [decide_eq_true hin];have lu:m2∈Zm true ak way a b':=O5.mpr (.inl hin);have hok:okI true ak aj.length way ((a:Int),m2,(b':Int))=true:=O8 ⟨n13,p1,r1,p3,r3,by simpa using lu⟩;let ⟨a0,r,b0,eq0,_,_,_,hrl,_⟩:=Bf ok hok;have er:m2=(r:Int):=by injection eq0 with _ z; injection z
    subst er;let ⟨ws,hw,hR⟩:=id (hM.same (s1.trans n4.same));let ⟨rb,x1,x2,x3⟩:=hR.at_ (show aj[b']? = some aj[b'] by simp [hb2]);let ⟨ra,y1,y2,y3⟩:=hR.at_ (show aj[a]? = some aj[a] by simp [ha2]);have lrb:=ok.bok.rows _ (M9 hb2);have lra:=ok.bok.rows _ (M9 ha2);symm;refine ixW b' hw x2 ?_;symm;refine ixL (SqL.of x3) (Qc r rfl (v:=.int (wF aj b' r)) (by simp [wF,getD,hb2,show r < aj[b'].length by lia])) ?_;symm;refine ixW a hw y2 ?_;symm;refine ixW a (n4.same _ _ jl) (Fl wa.1) ?_;have wa2:=wa.2;refine ixL (SqL.of y3) (Qc (way.getD a 0) rfl (v:=.int (Zh aj way a)) (by simp [Zh,wF,getD,ha2,show way[a]?.getD 0 < aj[a].length by rw [<- getD_eq_getElem?_getD]; lia])) ?_;have hq:=q _ (s1.trans n4.same);rw [if_pos ⟨hok,.inr rfl⟩] at hq;refine ⟨_,_,rfl,rfl,?_⟩;simpa [gnI,Zn,Cp] using hq
   ·rw [decide_eq_false hin];symm;refine iw _ (s1.trans n4.same) λy=>?_;rcases O5.mp (ok_ y.1).2.2.2.2.2 with z | z
    ·exact hin z
    ·exact hrm (by simpa using z)
theorem Qb4:Def P w K mg base 3 "_law_chain" [Y1,Y0,Y3,"_law_chain_here",Y11] Qq0:=by
 refine Z.a68.mq [Y1,Y0,Y3,"_law_chain_here",Y11,Y42,"_law_total","_law_hop","_law_gain"] λH vs Q E hr nD h=>?_;let ⟨b,w,wy,cl,ak,aj,way,c,i,rfl,hb,hM,hwy,ok,hh,q⟩:=h;refine ⟨_,(Qw (Zz (Xf (Xc (Zp K Z.T.u3 (Qq {3} (Qq (Ul (v:=.ty "list") rfl Z.T.u6 Jc rfl) Qz))))) (Qf Zg) Qh) (Qw (Qg 5 nD Zg) (Qw (Qg 6 nD Qx) (Qw (Xt (Vo K {3}) (Ql 7 nD) (Qw (Qg 8 nD (Qd (Qb3 Z) hr %[0,1,2,7,5|0])) (Qw (Zz (q_t Pr {8} Zg) (Qf Zg) Qh) (Qw (Qg 6 nD (Qy Xm {6} {8})) (Qm (Qg 5 nD (Qb K {7} Qx))))))) (Qw (Zz (PW.pt (Re (q_t Nl {5} Zg) (Vw (q_t Ue {5} {4})))) (Qf Zg) Qh) (Qf {6})))))),?_⟩;let ⟨ts,e1,e2,e3⟩:=id hh;have lw:=ok.len;have lb:=ok.bok.b1;unfold chI at q;symm;refine ⟨_,_,_,true,rfl,.lst e1,Ya _ _,_,rfl,Bv ?_⟩;symm;refine ⟨⟨_,SqL.of e1⟩,?_⟩;refine L2.Tp (xs:=ts.map V.ref) (λk σ H' => ∃ (tot:Int) (at_:K8) (o7 o8:Option V),σ=[rf b,rf w,rf wy,rf cl,iv (i:Int),some (Cp at_),iv tot,o7,o8]/\Qu H H'/\fwI (okI true ak aj.length way) (gnI true aj way) c none (i:Int)=(fwI (okI true ak aj.length way) (gnI true aj way) (c.drop k) at_ (i:Int)).map (· + tot)) ⟨0,none,none,none,rfl,Qu.refl _,by rw [drop_zero]; cases fwI (okI true ak aj.length way) (gnI true aj way) c none (i:Int) <;> simp⟩ (λk σ H' _ h=>h.choose_spec.choose_spec.choose_spec.choose_spec.2.1.seq (SqL.of e1)) ?_ ?_
 ·rintro k x σ H1 hx ⟨tot,at_,o7,o8,rfl,s1,hw⟩;let ⟨t,ht,rfl⟩:=Yw hx;have hk:k < c.length:=by rw [<- e2]; exact (N5.mp ht).1
  have hm:c[k]? = some c[k]:=by simp [hk]
  have htt:=s1 _ _ (e3 _ _ _ ht hm);rw [drop_eq_getElem_cons hk] at hw;generalize c[k]=m at *;generalize hrest:c.drop (k + 1)=j6 at *;symm;refine ⟨b,w,wy,t,ak,aj,way,m,at_,rfl,s1 _ _ hb,hM.same s1,s1 _ _ hwy,ok,htt,λH2 s2=>?_⟩;rw [fwI] at hw
  by_cases hc:okI true ak aj.length way m=true/\(at_=none\/at_=some m.1)
  ·rw [if_pos hc] at hw ⊢;symm;refine ixU (s2 _ _ htt) rfl ?_;refine ⟨_,some m.2.2,_,_,rfl,s1.trans s2,?_⟩;rw [hw];cases fwI (okI true ak aj.length way) (gnI true aj way) j6 (some m.2.2) (i:Int) with
   | none=>rfl
   | some y =>
    simp only [Option.map_some]
    congr 1
    lia
  ·rw [if_neg hc] at hw ⊢;have:=q H2 (s1.trans s2);rw [hw] at this;symm;exact this
 ·rintro σ H1 ⟨tot,at_,o7,o8,rfl,s1,hw⟩;rw [drop_eq_nil_of_le (by simp [e2])] at hw;have hq:=q _ s1;rw [hw,fwI] at hq;symm;cases at_ with
  | none =>rw [if_pos (.inl rfl)] at hq;refine Vt rfl ?_;symm;simpa [Cp] using hq
  | some z =>
   refine Yr rfl ?_;symm
   by_cases hz:z=(i:Int)
   ·rw [if_pos (.inr (by rw [hz]))] at hq;refine Vt (by simp [Cp,hz]) ?_;symm;simpa [Cp] using hq
   ·rw [if_neg (λy=>y.elim (λy=>nomatch y) λy=>hz (Option.some.inj y))] at hq;refine Yr (by simp [Cp,hz]) ?_;symm;exact hq
theorem Qnv:Def P w K mg base 4 "_law_row" [Y1,Y0,Y3,Y4,Y15,Y11] Qpq:=by
 refine Z.a69.mq [Y1,Y0,Y3,Y4,Y15,Y11,"_law_gain",Y21] @λ_ _ _ _ s H vs Q E hr nD h=>?_;let ⟨b,w,wy,pu,t,cl,ak,aj,way,ps,k,c,i,rfl,hb,hM,hwy,ok,hpu,lps,ht,hh,hi,q⟩:=h;refine ⟨_,(zcF (zcC (Zz (PW.pt (Jv (Xf (Xc (Zp K Z.T.u3 (Qq {4} (Qq (Ul (v:=.ty "tuple") rfl Z.T.u7 Vl rfl) Qz))))) (Yo (PW.pt (Re (q_t (Nr (K:=K) rfl hr.units) (Uj (Cr (K:=K) rfl) {4} Ry (Vk Qx)) (Zc (Qq Jq Qz))) (Vw (q_t (Nr (K:=K) rfl hr.units) (Uj (Cr (K:=K) rfl) {4} Ry (Vk Qx)) (Zc (Qq Jq Qz))))))))) (Qf Zg) Qh) (zcC (Zz (q_t Ue (Zx K Z.T.u0 %[4|0]) (Qy Xm Qx (Lz Qg9 (by rfl) Z.T.u4 Lr (Qq (Uc Jg (Qb K {4} Qx) Jq (Rx _)) Qz)))) (Qf Zg) Qh) (zcC (Qg 6 nD (Qd (Qb4 Z) hr (Qq {0} (Qq {1} (Qq {2} (Qq (Qb K {4} (Qi2 Qd2 Qx)) %[5|0])))))) (zcC (Zz (PW.pt (Jv (q_t Pr {6} Zg) (Yo (q_t Jg (Qb K {4} Qx) Jq)))) (Qf {6}) Qh) (zcC (Qg 7 nD (Qb K {4} Qx)) (zcC (Zz (PW.pt (Jv (Xf (Xc (Qd (Na Z) hr %[7|0]))) (Jv (Xf (Tw Bg Ra Qx {7} (Zx K Z.T.u0 %[2|0]))) (Yo (q_t Pr (Qb K {3} {7}) Zg))))) (Qf Zg) Qh) (zcC (Zz (PW.pt (Jv (PW.pt (Re (q_t (Qt1 (K:=K) rfl hr.units) (Qb K {4} Qx) (Qe Qz)) (Vw (q_t Ue {7} {5})))) (Yo (PW.pt (Re (q_t (Nr (K:=K) rfl hr.units) (Qb K {4} Qx) (Qe Qz)) (Vw (q_t Ue (Qb K (Qb K (Qb K {4} Qx) Qx) Qx) {7}))))))) (Qf Zg) Qh) (zcL (Qf (Qy Xm (Qy Zv (Qb K (Qb K {1} {7}) (Qb K {2} {7})) (Qb K {3} {7})) {6}))))))))))),?_⟩;have lw:=ok.len;have lb:=ok.bok.b1;have hl:atI (Cb k cl) (-1)=some (.ref cl):=by cases k <;> rfl
 symm;refine ⟨_,_,_,true,rfl,.tup ht,Ya _ _,_,rfl,Bv ?_⟩;have sOk:∀ s:Str,s=Str.ofString "free"\/s=Str.ofString "purse"->SeqAt.shaped (.tuple [.str s])=true:=λs h=>by rcases h with rfl | rfl <;> decide +kernel
 symm;refine ⟨t,_,rfl,SqT.of ht,?_⟩;cases k with
 | none =>
  refine ⟨by show ¬ (HT.sIx 2 0 none=0/\HT.sIx 2 2 (some 1)=2); decide,λp1 f1=>?_⟩;have n1:=Jn (o:=.tup (Fd (Cb none cl) none (some 1))) f1;generalize upd H p1 (.tup (Fd (Cb none cl) none (some 1)))=H1 at *;have hp1:H1 p1=some (.tup [.str (Str.ofString "free")]):=n1.at_;symm;refine λp2 H2 n2=>?_;refine ⟨.tuple [.str (Str.ofString "free")],.tuple [.str (Str.ofString "free")],Ks (SqT.of (n2.same _ _ hp1)) (.cons Dz .nil),Ks (SqT.of n2.at_) (.cons Dz .nil),sOk _ (.inl rfl),sOk _ (.inl rfl),?_⟩;rw [show PyData.eqv (.tuple [.str (Str.ofString "free")]) (.tuple [.str (Str.ofString "free")])=true by simp [PyData.eqv,PyData.eqvAll]];refine ⟨_,rfl,Vt rfl ?_⟩;have S2:Qu H H2:=n1.same.trans n2.same;have ht2:=S2 _ _ ht;symm;refine ⟨t,_,rfl,.inr (SqT.of ht2),?_⟩;symm;refine ixU ht2 rfl ?_;symm;refine .inr ⟨_,rfl,?_⟩;symm;refine ixU ht2 hl ?_;symm;refine ⟨b,w,wy,cl,ak,aj,way,c,i,rfl,S2 _ _ hb,hM.same S2,S2 _ _ hwy,ok,hh.same S2,λH3 s3=>?_⟩;have hq:=q H3 (S2.trans s3);nofun;unfold Qb6 at hq;symm;cases hc:chI true ak aj way c i with
  | none =>rw [hc] at hq;refine Yr rfl ?_;symm;exact hq
  | some g =>rw [hc] at hq;refine Vt rfl ?_;symm;refine ixU (s3 _ _ ht2) rfl ?_;symm;exact hq
 | some k =>
  refine ⟨by show ¬ (HT.sIx 3 0 none=0/\HT.sIx 3 3 (some 1)=3); decide,λp1 f1=>?_⟩;have n1:=Jn (o:=.tup (Fd (Cb (some k) cl) none (some 1))) f1;generalize upd H p1 (.tup (Fd (Cb (some k) cl) none (some 1)))=H1 at *;have hp1:H1 p1=some (.tup [.str (Str.ofString "purse")]):=n1.at_;symm;refine λp2 H2 n2=>?_;refine ⟨.tuple [.str (Str.ofString "purse")],.tuple [.str (Str.ofString "free")],Ks (SqT.of (n2.same _ _ hp1)) (.cons Dz .nil),Ks (SqT.of n2.at_) (.cons Dz .nil),sOk _ (.inr rfl),sOk _ (.inl rfl),?_⟩;rw [show PyData.eqv (.tuple [.str (Str.ofString "purse")]) (.tuple [.str (Str.ofString "free")])=false by decide +kernel];refine ⟨_,rfl,Yr rfl ?_⟩;have S2:Qu H H2:=n1.same.trans n2.same;have ht2:=S2 _ _ ht;symm;refine ⟨t,_,rfl,SqT.of ht2,by show ¬ (HT.sIx 3 0 none=0/\HT.sIx 3 3 (some 1)=3); decide,λp3 f3=>?_⟩;have n3:=Jn (o:=.tup (Fd (Cb (some k) cl) none (some 1))) f3;generalize upd H2 p3 (.tup (Fd (Cb (some k) cl) none (some 1)))=H3 at *;have hp3:H3 p3=some (.tup [.str (Str.ofString "purse")]):=n3.at_;symm;refine λp4 H4 n4=>?_;refine ⟨.tuple [.str (Str.ofString "purse")],.tuple [.str (Str.ofString "purse")],Ks (SqT.of (n4.same _ _ hp3)) (.cons Dz .nil),Ks (SqT.of n4.at_) (.cons Dz .nil),sOk _ (.inr rfl),sOk _ (.inr rfl),?_⟩;rw [show PyData.eqv (.tuple [.str (Str.ofString "purse")]) (.tuple [.str (Str.ofString "purse")])=true by decide +kernel];refine ⟨_,rfl,Vt rfl ?_⟩;have S4:Qu H H4:=S2.trans (n3.same.trans n4.same);have ht4:=S4 _ _ ht;symm;refine ⟨t,_,rfl,.inr (SqT.of ht4),?_⟩;symm;refine ixU ht4 rfl ?_;symm;refine .inr ⟨_,rfl,?_⟩;symm;refine ixU ht4 hl ?_;symm;refine ⟨b,w,wy,cl,ak,aj,way,c,i,rfl,S4 _ _ hb,hM.same S4,S4 _ _ hwy,ok,hh.same S4,λH5 s5=>?_⟩;have S5:Qu H H5:=S4.trans s5;have ht5:=S5 _ _ ht;have hwy5:=S5 _ _ hwy;have hpu5:=S5 _ _ hpu;symm;cases hc:chI true ak aj way c i with
  | none =>have hq:=q H5 S5;unfold Qb6 at hq;rw [hc] at hq;refine Yr rfl ?_;symm;exact hq
  | some g =>
   refine Vt rfl ?_;symm;refine ixU ht5 rfl ?_;symm;refine ixU ht5 rfl ?_;have hbg:=Qo3 ok hi hc;have hpb:Qb6 ak aj way ps (some k) c i=if k=Fc c i then (match ps.getD k.toNat none with
    | none=>none
    | some p=>some (Zh aj way k.toNat - p + g)) else none:=by
    unfold Qb6;rw [hc]
    try rfl
   have iw:∀ H',Qu H H'->(k=Fc c i->ps.getD k.toNat none=none)->Q .non H':=λH' s' y=>by
    have:=q H' s';rw [hpb] at this
    by_cases e:k=Fc c i
    ·rw [if_pos e,y e] at this;exact this
    ·rw [if_neg e] at this;exact this
   symm
   by_cases p1:0<=k
   rotate_left
   ·refine Vt (S8 p1) ?_;refine ⟨_,rfl,Yr rfl ?_⟩;symm;exact iw _ S5 λe=>absurd (by rw [e]; exact hbg.1) p1
   refine Yr (O8 p1) ?_;refine ⟨_,rfl,wy,_,rfl,.inl (SqL.of hwy5),?_⟩;rw [Za,lw];refine ⟨_,_,rfl,rfl,_,rfl,?_⟩
   by_cases r1:k < (aj.length:Int)
   rotate_left
   ·refine Yr (by show (!decide (k < (aj.length:Int)))=true; rw [decide_eq_false r1]; rfl) ?_;symm;exact iw _ S5 λe=>absurd (by rw [e]; exact hbg.2) r1
   refine Vt (by show (!decide (k < (aj.length:Int)))=false; rw [decide_eq_true r1]; rfl) ?_;let ⟨n,rfl⟩:=A0t p1;have hn:n < aj.length:=by lia
   have hnp:n < ps.length:=by lia
   have gp:(ps.map oV)[n]? = some (oV (ps.getD n none)):=by simp [getD,hnp]
   rw [Int.toNat_natCast] at hpb iw;symm;refine ixW n hpu5 gp ?_;cases hx:ps.getD n none with
   | none =>symm;exact iw _ S5 λ_=>hx
   | some x =>
    symm;refine ixU ht5 rfl ?_;symm;refine λl6 H6 n6=>?_;have S6:Qu H H6:=S5.trans n6.same;refine ⟨Ck c,Ck [],Qxw (hh.same S6),Wv (SqL.of n6.at_) .nil,Jd _,Jd _,?_⟩;cases c with
    | nil =>
     rw [Qw4];refine ⟨_,rfl,Yr rfl ?_⟩;symm
     by_cases e:(n:Int)=(i:Int)
     ·refine Vt (by simp [e]) ?_;symm;refine ixU (S6 _ _ ht) rfl ?_;symm;refine λl7 H7 n7=>?_;have S7:Qu H H7:=S6.trans n7.same;refine ⟨Ck [],Ck [],Qxw (hh.same S7),Wv (SqL.of n7.at_) .nil,Jd _,Jd _,?_⟩;rw [Qw4];refine ⟨_,rfl,Vt rfl ?_⟩;let ⟨ws,hw,hR⟩:=id hM;let ⟨ra,r2,r3,r4,r5⟩:=Ki (i:=n) hR ok hn;have gp2:(ps.map oV)[n]? = some (.int x):=by rw [gp,hx]; rfl
      symm;refine ixW n (S7 _ _ hw) r2 ?_;symm;refine ixW n (S7 _ _ hwy) r4 ?_;refine ixW _ (S7 _ _ r3) r5 ?_;symm;refine ixW n (S7 _ _ hpu) gp2 ?_;have hq:=q _ S7;rw [hpb,if_pos (show (n:Int)=Fc [] i from e),hx] at hq;symm;exact hq
     ·refine Yr (by simp [e]) ?_;symm;exact iw _ S6 λe'=>absurd e' e
    | cons m c =>
     have hne:PyData.eqv (Ck (m :: c)) (Ck [])=false:=by simp [Ck,PyData.eqv,PyData.eqvAll]
     rw [hne];refine ⟨_,rfl,Vt rfl ?_⟩;symm;refine ixU (S6 _ _ ht) rfl ?_;symm;refine λl7 H7 n7=>?_;have S7:Qu H H7:=S6.trans n7.same;refine ⟨Ck (m :: c),Ck [],Qxw (hh.same S7),Wv (SqL.of n7.at_) .nil,Jd _,Jd _,?_⟩;rw [hne];refine ⟨_,rfl,Yr rfl ?_⟩;let ⟨ts,e1,e2,e3⟩:=id (hh.same S7);cases ts with
     | nil=>cases e2
     | cons t0 ts =>
      have ht0:=e3 0 t0 m rfl rfl;symm;refine ixU (S7 _ _ ht) rfl ?_;symm;refine ixW 0 e1 rfl ?_;symm;refine ixU ht0 rfl ?_;symm
      by_cases e:(n:Int)=m.1
      ·refine Vt (by simp [e]) ?_;let ⟨ws,hw,hR⟩:=id hM;let ⟨ra,r2,r3,r4,r5⟩:=Ki (i:=n) hR ok hn;have gp2:(ps.map oV)[n]? = some (.int x):=by rw [gp,hx]; rfl
       symm;refine ixW n (S7 _ _ hw) r2 ?_;symm;refine ixW n (S7 _ _ hwy) r4 ?_;refine ixW _ (S7 _ _ r3) r5 ?_;symm;refine ixW n (S7 _ _ hpu) gp2 ?_;have hq:=q _ S7;rw [hpb,if_pos (show (n:Int)=Fc (m :: c) i from e),hx] at hq;symm;exact hq
      ·refine Yr (by simp [show ¬ m.1=(n:Int) from λz=>e z.symm]) ?_;symm;exact iw _ S7 λe'=>absurd e' e
theorem Mt:Def P w K mg base 5 "_law_paper" [Y1,Y0,Y3,Y4,Y6] Qk3:=by
 refine Z.a70.mq [Y1,Y0,Y3,Y4,Y6,Y29,Y11] λH vs Q E hr nD h=>?_;let ⟨b,w,wy,pu,pl,ak,aj,way,ps,rows,as,rfl,hb,hM,hwy,aok,hpu,lps,pap,ok,q⟩:=h;refine ⟨_,(zcF (zcC (Zz (PW.pt (Jv (Xf (Xc (Zp K Z.T.u3 (Qq {4} (Qq (Ul (v:=.ty "list") rfl Z.T.u6 Jc rfl) Qz))))) (Yo (q_t Ue (Zx K Z.T.u0 %[4|0]) (Zx K Z.T.u0 %[2|0]))))) (Qf Zg) Qh) (zcC (Qg 5 nD (Qe Qz)) (zcC (Xt (Zr Z.T.u1 (Qq (Zx K Z.T.u0 %[2|0]) Qz)) (Ql 6 nD) (Qm (Yq (Kw K {5} (Qq (Qd (Qnv Z) hr (Qq {0} (Qq {1} (Qq {2} (Qq {3} (Qq (Qb K {4} {6}) %[6|0])))))) Qz))))) (zcC (Zz (Ud (Yn (K:=K) rfl) Zg {5} (by with_unfolding_all rfl)) (Qf Zg) Qh) (zcL (Qf (Zc (Qq (Qr (Xu (K:=K) rfl rfl) (by rfl) Z.T.u10 Xg %[5|0]) (Qq (Zx K Z.T.u0 (Qq (Wk [Y15] [none] (Vo K {4}) (q_t Jg (Qb K {0} Qx) Jq) {0}) Qz)) Qz)))))))))),?_⟩;let ⟨ts,e1,e2,e3⟩:=pap;have l1:=ok.l1;have l2:=ok.l2;have lw:=aok.len;have lwo:=aok.bok.w1;symm;refine ⟨_,_,_,true,rfl,.lst e1,Ya _ _,_,rfl,Bv ?_⟩;symm;refine ⟨pl,_,rfl,.inl (SqL.of e1),?_⟩;symm;refine ⟨wy,_,rfl,.inl (SqL.of hwy),?_⟩;rw [length_map,Za,e2,l1,lw];symm;refine Vt (by simp) ?_;symm;refine λl H1 n1=>?_;symm;refine ⟨wy,_,rfl,.inl (SqL.of (n1.same _ _ hwy)),?_⟩;rw [Za,lw];walk_at "r";refine Zf (λi σ H' => ∃ (o6:Option V),σ=[rf b,rf w,rf wy,rf pu,rf pl,rf l,o6]/\Qu H H'/\H' l=some (.lst ((as.take i).map V.int))) ⟨_,rfl,n1.same,n1.at_⟩ ?_ ?_
 ·nofun;rintro i σ H2 hi ⟨o6,rfl,s2,hl⟩;rw [Int.zero_add];have hit:i < ts.length:=by lia
  have hir:i < rows.length:=by lia
  let ⟨c,c1,c2⟩:=e3 i _ _ (R3 hit) (R3 hir);have gt:(ts.map V.ref)[i]? = some (.ref ts[i]):=by simp [hit]
  have hat:=ok.at_ i hi;have er:rows.getD i (none,[])=rows[i]:=by simp [getD,hir]
  rw [er] at hat;symm;refine ⟨.inl ⟨rfl,_,SqL.of hl⟩,?_⟩;symm;refine ixW i (s2 _ _ e1) gt ?_;symm;refine ⟨b,w,wy,pu,ts[i],c,ak,aj,way,ps,rows[i].1,rows[i].2,i,rfl,s2 _ _ hb,hM.same s2,s2 _ _ hwy,aok,s2 _ _ hpu,lps,s2 _ _ c1,c2.same s2,hi,λH3 s3=>?_⟩;rw [hat];refine ⟨l,_,_,rfl,rfl,s3 _ _ hl,by rw [sizeLine_eq,length_map,length_take]; lia,?_⟩;nofun;refine ⟨_,rfl,(s2.trans s3).updT n1.none,?_⟩;have et:(as.take (i + 1)).map V.int=(as.take i).map V.int ++ [V.int (as.getD i 0)]:=by rw [take_succ,getElem?_eq_getElem (show i < as.length by lia),map_append];simp [getD,show i < as.length by lia]
  rw [Qk,et];rfl
 ·rintro σ H2 ⟨o6,rfl,s2,hl⟩;nofun;rw [<- l2,take_length] at hl;symm;refine ⟨l,_,rfl,.inl (SqL.of hl),rfl,by simp [Ve],?_⟩;rw [if_neg Bool.false_ne_true,show inV V.non (as.map V.int)=false by simp [inV,eqV]];symm;refine ⟨l,_,rfl,SqL.of hl,?_⟩;symm;refine ⟨⟨_,SqL.of (s2 _ _ e1)⟩,λD hD=>?_⟩;refine Wh (λi=>(rows.getD i (none,[])).1.isNone) (λi=>.ref (ts.getD i 0)) (SqL.of (s2 _ _ e1)) (by rw [length_map,sizeLine_eq]; lia) hD ?_ ?_ ?_
  ·intro i x H3 N hx s3 hN;obtain ⟨hit,rfl⟩:∃ hit:i < ts.length,x=.ref ts[i]:=by let ⟨h1,h2⟩:=N5.mp hx;exact ⟨by simpa using h1,by rw [<- h2]; simp⟩
   have hir:i < rows.length:=by lia
   let ⟨c,c1,c2⟩:=e3 i _ _ (R3 hit) (R3 hir);have er:rows.getD i (none,[])=rows[i]:=by simp [getD,hir]
   have c3:=s3 _ _ (s2 _ _ c1);rw [er] at hN;cases hk:rows[i].1 with
   | none =>
    rw [hk] at c3 hN;symm;refine ixU c3 rfl ?_;have e0:decide (V.str (Str.ofString "free")=V.str (Str.ofString "free"))=true:=by first | rfl | simp
    have hN':=hN _ (Qu.refl _);exact ⟨by trivial,_,rfl,by rw [e0]; exact hN'⟩
   | some k =>
    rw [hk] at c3 hN;symm;refine ixU c3 rfl ?_;have e0:decide (V.str (Str.ofString "purse")=V.str (Str.ofString "free"))=false:=by first | rfl | decide +kernel
    have hN':=hN _ (Qu.refl _);exact ⟨by trivial,_,rfl,by rw [e0]; exact hN'⟩
  ·intro i x H3 N hx _ s3 hN;obtain ⟨hit,rfl⟩:∃ hit:i < ts.length,x=.ref ts[i]:=by let ⟨h1,h2⟩:=N5.mp hx;exact ⟨by simpa using h1,by rw [<- h2]; simp⟩
   have:=hN _ (Qu.refl _);rw [show ts.getD i 0=ts[i] by simp [getD,hit]] at this;exact ⟨_,rfl,this⟩
  ·intro H3 s3 d3;refine ⟨D,_,rfl,.inl (SqL.of d3),?_⟩;rw [length_map,length_map,e2,Nz];symm;exact λt H4 n4=>q t H4 ((s2.trans s3).trans n4.same) n4.at_
theorem Qgw:Def P w K mg base 2 "_law_purses" [Y9,Y0,Y3,Y12] (Ol K):=by
 refine Z.a71.mq [Y9,Y0,Y3,Y12,"_law_end","_law_head",Y4,Y11,"_law_m","_law_price","_law_step"] λH vs Q E hr nD h=>?_;let ⟨a,w,wy,tp,rl,ns,ak,aj,way,k,R,rfl,hS,hwy,ok,htp,hrl,lR,k0,k1,q⟩:=h;refine ⟨_,(zcF (zcC (Qg 4 nD (Qy Zv (Qy Pl Qx Qx) Qx)) (zcC (Qg 5 nD (Qd (Gj Z) hr (Qq (Qd (Bd Z) hr (Qq {0} (Qq Qx Qz))) (Qq Qx Qz)))) (zcC (Qg 6 nD (Qe Qz)) (zcL (Qw (Xt (Zr Z.T.u1 (Qq (Zx K Z.T.u0 %[2|0]) Qz)) (Ql 7 nD) (zcF (zcC (Qg 8 nD (Qd (Gj Z) hr (Qq (Qd (Bd Z) hr (Qq {0} (Qq (Qy Xm Qx {7}) Qz))) (Qq (Qy Xm Qx {7}) Qz)))) (zcC (Qg 9 nD (Qy Xo (Qb K (Qb K {3} Qx) (Qb K {2} {7})) (Qb K {3} Qx))) (zc1 (Zz (PW.pt (Re (q_t Jg (Qy Ze {8} Qx) Qx) (Vw (q_t Ue (Qy Ze {5} Qx) Qx)))) (Qm (Yq (Kw K {6} (Qq Zg Qz)))) (zcF (zcC (Qg 10 nD (Qb K (Qe (Qq (Qy Zv (Qy Ze (Qy Xo {8} Qx) Qx) Qx) (Qq (Qy Zv (Qy Ze (Qy Xo {8} Qx) Qx) Qx) (Qq (Qy Zv (Qy Ze (Qy Xo {8} Qx) Qx) Qx) Qz)))) (Qy Ze (Qy Xo {5} Qx) Qx))) (zcC (zcJ (Zz (q_t Jg (Qy Ze (Qy Xo {5} Qx) Qx) Qx) (Qm (Qg 10 nD (Qy Zv (Qy Ze (Qd (Bd Z) hr (Qq {0} (Qq (Qy Xm Qx {7}) Qz))) (Qy Zv (Qy Qi Qx (Qy Pl Qx Qx)) Qx)) {4}))) Qh)) (zc1 (Yq (Kw K {6} (Qq (Qr (Qg7 rfl) (by rfl) Z.T.u9 Th (Qq (Qi2 Qd2 {4}) (Qq (Qr (Lc rfl) (by rfl) Z.T.u8 Ja (Qq {4} (Qq (Qy Xm {9} {10}) Qz))) Qz))) Qz))))))))))))) (Qf {6}))))))),?_⟩;have lw:=ok.len;have lb:=ok.bok.b1;have lwo:=ok.bok.w1;symm;refine ⟨a,ns,_,rfl,hS,"o",λz0=>?_⟩;symm;refine ⟨z0,_,rfl,"o","o",λhd hd0 hd1=>?_⟩;symm;refine λl H1 n1=>?_;symm;refine ⟨wy,_,rfl,.inl (SqL.of (n1.same _ _ hwy)),?_⟩;rw [Za,lw];walk_at "r";refine Zf (λi σ H' => ∃ (o7 o8 o9 o10:Option V) (ps:J7),σ=[rf a,rf w,rf wy,rf tp,iv (10 ^ Int.toNat 40 - 1),iv hd,rf l,o7,o8,o9,o10]/\(∀ c o,c≠l->H1 c=some o->H' c=some o)/\H' l=some (.lst (ps.map oV))/\ps.length=i/\∀ x∈ps,∀ z,x=some z->-(10 ^ 42) < z/\z < 10 ^ 42) ⟨_,_,_,_,[],rfl,(λc o _ e=>e),n1.at_,rfl,λx hx=>by cases hx⟩ ?_ ?_
 ·nofun;rintro i σ H2 hi ⟨o7,o8,o9,o10,ps,rfl,k2,hl,lp,hb⟩;have hiw:i < aj.length:=by lia
  have s2:Qu H H2:=λc o e=>k2 c o (Qj e n1.none) (n1.same _ _ e);nofun;rw [Int.zero_add];have push:∀ (x:K8) (H0 H3:Hp),Qu H2 H0->(∀ z,x=some z->-(10 ^ 42) < z/\z < 10 ^ 42)->H3=upd H0 l (.lst (ps.map oV ++ [oV x]))->(∀ c o,c≠l->H1 c=some o->H3 c=some o)/\H3 l=some (.lst ((ps ++ [x]).map oV))/\(ps ++ [x]).length=i + 1/\∀ y∈ps ++ [x],∀ z,y=some z->-(10 ^ 42) < z/\z < 10 ^ 42:=λx H0 H3 s0 hx e=>by
   subst e;refine ⟨λc o hc h=>by rw [Qv hc]; exact s0 _ _ (k2 c o hc h),by rw [Qk]; simp,by simp [lp],λy hy z e=>?_⟩;rcases O5.mp hy with h | h
   ·exact hb y h z e
   ·rw [mem_singleton.mp h] at e;exact hx z e
  have hwi:=(ok.at_ hiw).2;have gwy:((wI way).map V.int)[i]? = some (.int ((way.getD i 0:Nat):Int)):=by simp [wI,getD,show i < way.length by lia]
  have gR:(R.map V.int)[way.getD i 0]? = some (.int (R.getD (way.getD i 0) 0)):=by
   generalize way.getD i 0=r at *;have:r < R.length:=by lia
   simp [getD,this]
  symm;refine ⟨a,ns,_,rfl,s2.seq hS,"o",λz=>?_⟩;symm;refine ⟨z,_,rfl,"o","o",λm p0 p1=>?_⟩;symm;refine ixU (s2 _ _ htp) rfl ?_;symm;refine ixW i (s2 _ _ hwy) gwy ?_;refine ixW _ (s2 _ _ hrl) gR ?_;symm;refine ixU (s2 _ _ htp) rfl ?_;refine ⟨_,_,rfl,rfl,⟨k0,"o"⟩,?_⟩;nofun;refine stC (σ':=[rf a,rf w,rf wy,rf tp,iv (10 ^ Int.toNat 40 - 1),iv hd,rf l,iv (i:Int),iv m,iv (R.getD (way.getD i 0) 0 / k),o10]) rfl ?_;generalize R.getD (way.getD i 0) 0 / k=pr;symm;refine Fm (λ_=>?_) (λ_=>?_)
  ·symm;refine Fm (λ_=>?_) (λ_=>?_)
   ·symm;refine ⟨.inl ⟨rfl,_,SqL.of hl⟩,?_⟩;symm;refine ⟨l,_,_,rfl,rfl,hl,by rw [sizeLine_eq,length_map]; lia,?_⟩;let ⟨f1,f2,f3,f4⟩:=push none _ _ (Qu.refl _) (λz e=>by cases e) rfl;nofun;exact ⟨_,_,_,_,ps ++ [none],rfl,f1,f2,f3,f4⟩
   ·symm;refine λlD H3 n3=>?_;symm;refine Ac (ns:=[m / 3 % 5 - 2,m / 3 % 401 - 200,m / 3 % 2001 - 1900]) (SqL.of n3.at_) (by show (0:Int)<=hd / 4 % 3; lia) (by show hd / 4 % 3 < 3; lia) λsv _=>?_;nofun;refine ⟨λσ H' => ∃ sv,σ=[rf a,rf w,rf wy,rf tp,iv (10 ^ Int.toNat 40 - 1),iv hd,rf l,iv (i:Int),iv m,iv pr,iv sv]/\Qu H2 H',?_,?_⟩
    ·symm;refine Fm (λ_=>?_) (λ_=>?_)
     ·symm;refine ⟨a,ns,_,rfl,(s2.trans n3.same).seq hS,"o",λz9=>?_⟩;symm;exact n3.same
     ·nofun;exact ⟨sv,rfl,n3.same⟩
    ·rintro σ H4 ⟨sv,rfl,s4⟩;symm;refine ⟨.inl ⟨rfl,_,SqL.of (s4 _ _ hl)⟩,?_⟩;symm;refine ⟨_,_,rfl,?_⟩;refine ⟨_,_,rfl,?_⟩;refine ⟨l,_,_,rfl,rfl,s4 _ _ hl,by rw [sizeLine_eq,length_map]; lia,?_⟩;have e40:(10:Int) ^ Int.toNat 40=10 ^ 40:=rfl;let ⟨f1,f2,f3,f4⟩:=push (some (if (if pr + sv < 10 ^ Int.toNat 40 - 1 then pr + sv else 10 ^ Int.toNat 40 - 1) > -(10 ^ Int.toNat 40 - 1) then (if pr + sv < 10 ^ Int.toNat 40 - 1 then pr + sv else 10 ^ Int.toNat 40 - 1) else -(10 ^ Int.toNat 40 - 1))) H4 _ s4 (λz e=>by
      rw [e40] at e;have e':=Q9 e;rw [<- e']
      split <;> split <;> lia) rfl
     nofun;exact ⟨_,_,_,_,ps ++ [some _],rfl,f1,f2,f3,f4⟩
  ·symm;refine λlD H3 n3=>?_;symm;refine Ac (ns:=[m / 3 % 5 - 2,m / 3 % 401 - 200,m / 3 % 2001 - 1900]) (SqL.of n3.at_) (by show (0:Int)<=hd / 4 % 3; lia) (by show hd / 4 % 3 < 3; lia) λsv _=>?_;nofun;refine ⟨λσ H' => ∃ sv,σ=[rf a,rf w,rf wy,rf tp,iv (10 ^ Int.toNat 40 - 1),iv hd,rf l,iv (i:Int),iv m,iv pr,iv sv]/\Qu H2 H',?_,?_⟩
   ·symm;refine Fm (λ_=>?_) (λ_=>?_)
    ·symm;refine ⟨a,ns,_,rfl,(s2.trans n3.same).seq hS,"o",λz9=>?_⟩;symm;exact n3.same
    ·nofun;exact ⟨sv,rfl,n3.same⟩
   ·rintro σ H4 ⟨sv,rfl,s4⟩;symm;refine ⟨.inl ⟨rfl,_,SqL.of (s4 _ _ hl)⟩,?_⟩;symm;refine ⟨_,_,rfl,?_⟩;refine ⟨_,_,rfl,?_⟩;refine ⟨l,_,_,rfl,rfl,s4 _ _ hl,by rw [sizeLine_eq,length_map]; lia,?_⟩;have e40:(10:Int) ^ Int.toNat 40=10 ^ 40:=rfl;let ⟨f1,f2,f3,f4⟩:=push (some (if (if pr + sv < 10 ^ Int.toNat 40 - 1 then pr + sv else 10 ^ Int.toNat 40 - 1) > -(10 ^ Int.toNat 40 - 1) then (if pr + sv < 10 ^ Int.toNat 40 - 1 then pr + sv else 10 ^ Int.toNat 40 - 1) else -(10 ^ Int.toNat 40 - 1))) H4 _ s4 (λz e=>by
     rw [e40] at e;have e':=Q9 e;rw [<- e']
     split <;> split <;> lia) rfl
    nofun;exact ⟨_,_,_,_,ps ++ [some _],rfl,f1,f2,f3,f4⟩
 ·rintro σ H2 ⟨o7,o8,o9,o10,ps,rfl,k2,hl,lp,hb⟩;symm;exact q l ps H2 (λc o e=>k2 c o (Qj e n1.none) (n1.same _ _ e)) n1.none hl lp hb
theorem Qs0:Def P w K mg base 6 "_law_kept" [Y1,Y0,Y10,Y3,Y4,Y12,Y6] Qpk:=by
 refine Z.a72.mq [Y1,Y0,Y10,Y3,Y4,Y12,Y6,Y25,Y16,Y11,Y29,"_law_cheap",Y33,"_law_left"] @λf _ _ _ _ H vs Q E hr nD h=>?_;let ⟨b,w,wy,pu,tp,rl,pl,ak,aj,ao,way,ps,k,R,rows,rfl,hb,hM,hwy,HG,hre,ln,fit,hpu,lps,pb,htp,hrl,pap,kp,q⟩:=h;refine ⟨_,(Qw (Zz (PW.pt (Jv (Xf (Xc (Qd (Qgk Z) hr (Qq {5} (Qq (Zx K Z.T.u0 %[0|0]) Qz))))) (Yo (Xf (Xc (Qd (Qs1 Z) hr %[0,1,2,3,5|0])))))) (Qf Ju) Qh) (Qw (Vn {5} (Wu (K:=K) (n:=2) rfl rfl (Zy (Ql 7 nD) (Zy (Ql 8 nD) Wy)))) (Qw (Xt (Zr Z.T.u1 (Qq (Zx K Z.T.u0 %[3|0]) Qz)) (Ql 9 nD) (Qm (Zz (PW.pt (Re (q_t Nl (Qb K {4} {9}) Zg) (Vw (q_t Ft (Qb K {8} (Qb K {3} {9})) (Qy Qi {7} (Qb K {4} {9})))))) (Qf Ju) Qh))) (Qw (Qg 10 nD (Qd (Mt Z) hr %[0,1,3,4,6|0])) (Qw (Zz (PW.pt (Jv (q_t Pr {10} Zg) (Yo (q_t Jg (Qb K {10} Qx) Qx)))) (Qf Ju) Qh) (Qw (Qg 11 nD (Qr (Wb (K:=K) rfl rfl) (by rfl) Z.T.u8 Ja (Qq (Zt [Y28,Y16] [none,some 8] (Vo K {3}) (Qb K {1} {0})) Qz))) (Qw (Zz (Xc (Qr (Qgq (K:=K) rfl rfl) (by rfl) Z.T.u12 Qgx (Qq (Wk [Y28,"_law_cheap",Y16,Y3] [none,some 11,some 8,some 3] (Zr Z.T.u1 (Qq (Zx K Z.T.u0 %[8|0]) Qz)) (Ud (Tr (K:=K) rfl) {0} {3} (by with_unfolding_all rfl)) (Uc Ue (Qb K {2} {0}) {1} (Rx _))) Qz))) (Qf Ju) Qh) (Qw (Qg 12 nD (Qr (Wb (K:=K) rfl rfl) (by rfl) Z.T.u8 Ja (Qq (Zt [Y11,Y25,Y16,Y3,Y0] [none,some 7,some 8,some 3,some 1] (Zr Z.T.u1 (Qq (Zx K Z.T.u0 %[3|0]) Qz)) (Qy Zv (Qy Qi {1} (Qb K (Qb K {4} {0}) (Qb K {3} {0}))) (Qb K {2} (Qb K {3} {0})))) Qz))) (Qw (Qg 13 nD (Qy Zv (Qy Zv (Qr (Xu (K:=K) rfl rfl) (by rfl) Z.T.u10 Xg (Qq (Zt [Y11,Y3,Y0] [none,some 3,some 1] (Zr Z.T.u1 (Qq (Zx K Z.T.u0 %[3|0]) Qz)) (Qb K (Qb K {2} {0}) (Qb K {1} {0}))) Qz)) {2}) (Qb K {10} Qx))) (Qf (Uc Jg (Qy Qi {12} (Qb K {10} Qx)) (Qy Qi {7} {13}) (Rx _)))))))))))),?_⟩;have aok:Qn ak aj way:=⟨HG.bok,ln,Jz fit⟩
 have lwo:=HG.bok.w1;have lbo:=HG.bok.b1;have l0:=HG.w1;have kb:=kp.k1;have lR:=kp.len;let ⟨as,m,pok,f0,f1,hm,hme⟩:=kp.pap;symm;refine ⟨b,_,rfl,.inl (SqL.of hb),?_⟩;rw [length_map];refine ⟨tp,rl,_,k,R,rfl,htp,hrl,kb.1,by rw [lR],"o",kp.low,λH1 s1=>?_⟩;refine ⟨_,rfl,Bv ?_⟩;symm;refine ⟨b,w,wy,tp,rl,⟨ak,aj,ao,way,k,R⟩,rfl,s1 _ _ hb,hM.same s1,s1 _ _ hwy,s1 _ _ htp,s1 _ _ hrl,Qu6 HG hre ln fit kp,l0,kp.fair,λH2 s2=>?_⟩;have S2:Qu H H2:=s1.trans s2;refine ⟨_,rfl,Bv ?_⟩;symm;refine ⟨tp,_,rfl,SqT.of (S2 _ _ htp),rfl,_,_,rfl,_,_,rfl,rfl,?_⟩;symm;refine ⟨wy,_,rfl,.inl (SqL.of (S2 _ _ hwy)),?_⟩;rw [Za,ln];walk_at "r";have gR:∀ r,r < ak.length->(R.map V.int)[r]? = some (.int (R.getD r 0)):=λr hr=>by
  have:r < R.length:=by lia
  simp [getD,this]
 have gwy:∀ i,i < aj.length->((wI way).map V.int)[i]? = some (.int ((way.getD i 0:Nat):Int)):=λi hi=>by simp [wI,getD,show i < way.length by lia]
 refine L2.Ji (λi σ H' => ∃ (o9:Option V),σ=[rf b,rf w,iv ao,rf wy,rf pu,rf tp,rf pl,iv k,rf rl,o9,none,none,none,none]/\H2=H') ⟨_,rfl,rfl⟩ ?_ ?_
 ·rintro i σ H3 hi ⟨o9,rfl,rfl⟩;rw [Int.zero_add];have gp:(ps.map oV)[i]? = some (oV (ps.getD i none)):=by simp [getD,show i < ps.length by lia]
  have hwi:=(aok.at_ hi).2;symm;refine ixW i (S2 _ _ hpu) gp ?_;cases hx:ps.getD i none with
  | none =>rw [hx] at gp;symm;exact rfl
  | some x =>rw [hx] at gp;have hpx:=kp.purse i x hi hx;have hxb:=pb i x hx;symm;refine ixW i (S2 _ _ hwy) (gwy i hi) ?_;refine ixW _ (S2 _ _ hrl) (gR _ hwi) ?_;symm;refine ixW i (S2 _ _ hpu) gp ?_;walk_at "m";symm;refine Vt (S8 "o") ?_;exact ⟨_,rfl,rfl⟩
 ·rintro σ H3 ⟨o9,rfl,rfl⟩;symm;refine ⟨b,w,wy,pu,pl,ak,aj,way,ps,rows,as,rfl,S2 _ _ hb,hM.same S2,S2 _ _ hwy,aok,S2 _ _ hpu,lps,pap.same S2,pok,λt H4 s4 ht=>?_⟩;have S4:Qu H H4:=S2.trans s4;symm;refine ixU ht rfl ?_;symm;refine Vt (by simp; lia) ?_;have hix:∀ z∈wI way,∃ j:Nat,z=(j:Int)/\(R.map V.int)[j]? = some (.int (R.getD z.toNat 0)):=λz hz=>by let ⟨r,hr,rfl⟩:=O3.mp hz;exact ⟨r,rfl,by rw [Int.toNat_natCast]; exact gR r (aok.lt r hr)⟩
  have hpaid:((wI way).map λz=>R.getD z.toNat 0)=way.map λr=>R.getD r 0:=by unfold wI;rw [map_map];rfl
  have hwy4:=S4 _ _ hwy;have hrl4:=S4 _ _ hrl;symm;refine ⟨⟨_,SqL.of hwy4⟩,λD hD=>?_⟩;refine Kr (wI way) (λz=>.int (R.getD z.toNat 0)) (SqL.of hwy4) (by rw [sizeLine_eq]; simp [wI]; lia) hD (λz hz H5 N s5 hN=>?_) λH5 s5 d5=>?_
  ·let ⟨j,ej,hj⟩:=hix z hz;symm;exact ixL (SqL.of (s5 _ _ hrl4)) (Qc j ej hj) (hN _ (Qu.refl _))
  have d5':H5 D=some (.lst ((way.map λr=>R.getD r 0).map V.int)):=by rw [d5,<- hpaid,map_map]; rfl
  refine ⟨D,_,rfl,SqL.of d5',by simp; lia,λch hch kj=>?_⟩;have hcheap:∀ r,r < ak.length->r ∉ way->R.getD r 0=ch:=λr hr hw=>(kp.cheap r hr hw).eq ⟨hch,kj⟩;have S5:Qu H H5:=S4.trans s5;symm;refine ⟨rl,_,rfl,.inl (SqL.of (S5 _ _ hrl)),?_⟩;rw [length_map,lR];refine ⟨_,rfl,"o","o",λD6 hD6=>?_⟩;rw [Int.toNat_natCast];refine Yy (λ(r:Nat)=>decide (r ∉ way)) (λ(r:Nat)=>.bl false) sml hD6 ?_ ?_ ?_
  ·rintro r H6 N hr s6 hN;rw [Int.zero_add];symm;refine ⟨wy,_,rfl,.inl (SqL.of (s6 _ _ (S5 _ _ hwy))),rfl,by simp [Ve],?_⟩;have hd:(!decide ((r:Int)∈wI way))=decide (r ∉ way):=by
    by_cases hm:r∈way
    ·rw [decide_eq_true (Pt.mpr hm),decide_eq_false (not_not_intro hm)]; rfl
    ·rw [decide_eq_false (λz=>hm (Pt.mp z)),decide_eq_true hm]; rfl
   rw [if_pos rfl,Vp,hd];exact ⟨_,rfl,hN _ (Qu.refl _)⟩
  ·rintro r H6 N hr hp s6 hN;rw [Int.zero_add];symm;refine ixW r (s6 _ _ (S5 _ _ hrl)) (gR r hr) ?_;rw [hcheap r hr (of_decide_eq_true hp)];symm;have:=hN _ (Qu.refl _);simpa using this
  intro H6 s6 d6;have S6:Qu H H6:=S5.trans s6;have d6':H6 D6=some (.lst ((((range ak.length).filter λr=>decide (r ∉ way)).map λ_=>false).map V.bl)):=by rw [d6,map_map]; rfl
  refine ⟨D6,_,rfl,SqL.of d6',?_⟩;refine ⟨false,?_,?_⟩
  ·congr 1
   generalize ((range ak.length).filter λr=>decide (r ∉ way))=zs
   induction zs with
   | nil=>rfl
   | cons z zs ih=>simpa using ih
  refine Bv ?_;refine stC (σ':=[rf b,rf w,iv ao,rf wy,rf pu,rf tp,rf pl,iv k,rf rl,o9,rf t,iv ch,none,none]) rfl ?_;symm;refine ⟨wy,_,rfl,.inl (SqL.of (S6 _ _ hwy)),?_⟩;rw [Za,ln];refine ⟨_,rfl,"o","o",λD7 hD7=>?_⟩;rw [Int.toNat_natCast];let ⟨ws,hw6,hR6⟩:=id (hM.same S6);refine Zl (λi=>.int (k * Zh aj way i - R.getD (way.getD i 0) 0)) sml hD7 (λi hi H7 N s7 hN=>?_) λH7 s7 d7=>?_
  ·rw [Int.zero_add];let ⟨ra,r2,r3,r4,r5⟩:=Ki (i:=i) hR6 aok hi;have ob:=Ce (way:=way) HG.x i;symm;refine ixW i (s7 _ _ hw6) r2 ?_;symm;refine ixW i (s7 _ _ (S6 _ _ hwy)) r4 ?_;refine ixW _ (s7 _ _ r3) r5 ?_;walk_at "m";symm;refine ixW i (s7 _ _ (S6 _ _ hwy)) r4 ?_;refine ixW _ (s7 _ _ (S6 _ _ hrl)) (gR _ (aok.at_ hi).2) ?_;symm;exact hN _ (Qu.refl _)
  have d7':H7 D7=some (.lst (((range aj.length).map λi=>k * Zh aj way i - R.getD (way.getD i 0) 0).map V.int)):=by rw [d7,map_map]; rfl
  refine ⟨D7,_,rfl,SqL.of d7',by simp; lia,λlm hlm hlmin=>?_⟩;have elm:lm=m:=Yv.eq ⟨hlm,hlmin⟩ hm;subst elm;have S7:Qu H H7:=S6.trans s7;let ⟨ws7,hw7,hR7⟩:=id (hM.same S7);symm;refine ⟨wy,_,rfl,.inl (SqL.of (S7 _ _ hwy)),?_⟩;rw [Za,ln];refine ⟨_,rfl,"o","o",λD8 hD8=>?_⟩;rw [Int.toNat_natCast];refine Zl (λi=>.int (Zh aj way i)) sml hD8 (λi hi H8 N s8 hN=>?_) λH8 s8 d8=>?_
  ·rw [Int.zero_add];let ⟨ra,r2,r3,r4,r5⟩:=Ki (i:=i) hR7 aok hi;symm;refine ixW i (s8 _ _ hw7) r2 ?_;symm;refine ixW i (s8 _ _ (S7 _ _ hwy)) r4 ?_;refine ixW _ (s8 _ _ r3) r5 ?_;exact hN _ (Qu.refl _)
  have ew:((range aj.length).map (Zh aj way)).sum=wsum (wF aj) way:=by unfold wsum;rw [ln];rfl
  have d8':H8 D8=some (.lst (((range aj.length).map (Zh aj way)).map V.int)):=by rw [d8,map_map]; rfl
  refine ⟨D8,_,rfl,SqL.of d8',?_⟩;rw [ew];have ht8:H8 t=some (.tup [.int as.sum,.int (bw rows:Int)]):=s8 _ _ (s7 _ _ (s6 _ _ (s5 _ _ ht)));have hwb:=Ng (way:=way) HG.x "o";have pbd:=Qj1 lwo pok;have hxb:=Qv0 (x:=wsum (wF aj) way - ao - as.sum) (B:=10 ^ 60) kb ⟨"o","o"⟩;have hmb:=Qvk (m:=lm) (f:=(bw rows:Int)) (B:=10 * 10 ^ 60) "o" (by rw [hme]; exact hxb);symm;refine ixU ht8 rfl ?_;symm;refine ixU ht8 rfl ?_;walk_at "m";refine ⟨_,rfl,_,rfl,_,_,rfl,rfl,⟨"o",by constructor <;> lia⟩,rfl,?_⟩;show Q (.bl (decide (V.int (lm * (bw rows:Int))=V.int (k * (wsum (wF aj) way - ao - as.sum))))) H8;rw [hme,show decide (V.int (k * (wsum (wF aj) way - ao - as.sum))=V.int (k * (wsum (wF aj) way - ao - as.sum)))=true from decide_eq_true rfl];exact q _ (S7.trans s8)
def Qnk:Def P w K mg base 6 "_law_none" [Y1,Y0,Y10,Y3,Y4,Y6] Qpw:=by
 refine Z.a73.mq [Y1,Y0,Y10,Y3,Y4,Y6,Y29] λH vs Q E hr nD h=>?_;let ⟨b,w,wy,pu,pl,ak,aj,ao,way,ps,rows,rfl,hb,hM,hwy,HG,ln,fit,hpu,lps,pap,np,q⟩:=h;refine ⟨_,(zcF (zcC (Qg 6 nD (Qd (Mt Z) hr %[0,1,3,4,5|0])) (zcC (Zz (PW.pt (Jv (q_t Pr {6} Zg) (Yo (q_t Ue (Qb K {6} Qx) Qx)))) (Qf Ju) Qh) (zcL (Qf (Uc Ft (Qb K {6} Qx) (Qy Zv (Qr (Xu (K:=K) rfl rfl) (by rfl) Z.T.u10 Xg (Qq (Zt [Y11,Y3,Y0] [none,some 3,some 1] (Zr Z.T.u1 (Qq (Zx K Z.T.u0 %[3|0]) Qz)) (Qb K (Qb K {2} {0}) (Qb K {1} {0}))) Qz)) {2}) (Rx _))))))),?_⟩;let ⟨as,pok,f0,hlt⟩:=np.pap;have aok:Qn ak aj way:=⟨HG.bok,ln,Jz fit⟩
 have lwo:=HG.bok.w1;symm;refine ⟨b,w,wy,pu,pl,ak,aj,way,ps,rows,as,rfl,hb,hM,hwy,aok,hpu,lps,pap,pok,λt H1 s1 ht=>?_⟩;nofun;rw [f0] at ht;symm;refine ixU ht rfl ?_;symm;refine ixU ht rfl ?_;symm;refine ⟨wy,_,rfl,.inl (SqL.of (s1 _ _ hwy)),?_⟩;rw [Za,ln];walk_at "d";let ⟨ws,hw,hR⟩:=id (hM.same s1);refine Zl (λi=>.int (Zh aj way i)) sml hD (λi hi H2 N s2 hN=>?_) λH2 s2 d2=>?_
 ·rw [Int.zero_add];let ⟨ra,r2,r3,r4,r5⟩:=Ki (i:=i) hR aok hi;symm;refine ixW i (s2 _ _ hw) r2 ?_;symm;refine ixW i (s2 _ _ (s1 _ _ hwy)) r4 ?_;refine ixW _ (s2 _ _ r3) r5 ?_;exact hN _ (Qu.refl _)
 have ew:((range aj.length).map (Zh aj way)).sum=wsum (wF aj) way:=by unfold wsum;rw [ln];rfl
 have d2':H2 D=some (.lst (((range aj.length).map (Zh aj way)).map V.int)):=by rw [d2,map_map]; rfl
 refine ⟨D,_,rfl,SqL.of d2',?_⟩;rw [ew];symm;show Q (.bl (decide (wsum (wF aj) way - ao < as.sum))) H2;rw [decide_eq_true hlt];exact q _ (s1.trans s2)
theorem Qo7:Def P w K mg base 1 "_law_all" [Y1,Y0] (Ql9 K):=by
 refine Z.a74.mq [Y1,Y0,"_law_picks",Y11,"_law_longer",Y30,"_law_sums","_law_most"] λH vs Q E hr nD h=>?_;let ⟨b,w,ak,aj,rfl,hb,hM,bok,hsz,hne,q⟩:=h;refine ⟨_,(zcF (zcC (Qg 2 nD (Qe (Qq (Qe Qz) Qz))) (zcC (Xt (Zr Z.T.u1 (Qq (Zx K Z.T.u0 %[1|0]) Qz)) (Ql 3 nD) (zcF (zcC (Qg 4 nD (Qe Qz)) (zcL (Qw (Xt (Vo K {2}) (Ql 5 nD) (Qm (Qg 4 nD (Qy Rg {4} (Wk [Y28,Y1,Y30] [none,some 0,some 5] (Zr Z.T.u1 (Qq (Zx K Z.T.u0 %[0|0]) Qz)) (q_t Ra (Dv (K:=K) rfl A0i A1n A1o (Gh (K:=K) rfl) {2} %[0|0]) (Qb K {1} {0})) (Qy Rg {2} (Qe %[0|0]))))))) (Qm (Qg 2 nD {4}))))))) (zcC (Qg 6 nD (Qh3 "_law_pick" [Y30,Y0] [none,some 1] rfl rfl rfl (Vo K {2}) (λ_ _ _ _=>(Qak (i:=0) (by decide +kernel:([Y30,Y0]:List PySem.Str).Nodup) rfl (Or.inr rfl))) (λ_ _ _ _=>Mb) (λ_ _ _ _=>(Qr (Xu (K:=K) rfl rfl) (by rfl) Z.T.u10 Xg (Qq (Zt [Y11,Y30,Y0] [none,some 0,some 1] (Zr Z.T.u1 (Qq (Zx K Z.T.u0 %[1|0]) Qz)) (Qb K (Qb K {2} {0}) (Qb K {1} {0}))) Qz))))) (zcC (Qg 7 nD (Qr (Ll (K:=K) rfl rfl) (by rfl) Z.T.u9 Th %[6|0])) (zcL (Qf (Wk [Y21,"_law_most","_law_picks","_law_sums"] [none,some 7,some 2,some 6] (Zr Z.T.u1 (Qq (Zx K Z.T.u0 %[2|0]) Qz)) (q_t Jg (Qb K {3} {0}) {1}) (Qb K {2} {0}))))))))),?_⟩;let ⟨ws,hw,hR⟩:=id hM;have l1:=bok.w1;have l2:=bok.b1;have lw:(ws.map V.ref).length=aj.length:=by rw [length_map,hR.1]
 symm;refine λp0 H1 n1=>?_;refine ⟨Zk (by simp),λpk H2 n2=>?_⟩;have S2:Qu H H2:=n1.same.trans n2.same;nofun;refine ⟨_,rfl,w,_,rfl,.inl (SqL.of (S2 _ _ hw)),?_⟩;rw [lw];walk_at "r";refine Zf (λn σ H' => ∃ (pk:G5) (o3 o4 o5:Option V),σ=[rf b,rf w,rf pk,o3,o4,o5,none,none]/\Qu H H'/\Qc6 H H' pk ((Wc ak n).map wI)) ⟨pk,none,none,none,rfl,S2,[p0],n2.at_,⟨rfl,λi a row z1 z2=>?_⟩,(λa ha=>by rw [mem_singleton.mp ha]; exact n1.none)⟩ ?_ ?_
 ·have hi:i=0:=by have:=(N5.mp z1).1; simp at this; lia
  subst hi;simp at z1;simp [Wc,wI] at z2;subst z1 z2;exact n2.same _ _ n1.at_
 ·nofun;rintro n σ H3 hn ⟨pk,o3,o4,o5,rfl,s3,hM3⟩;let ⟨ps,hp3,hR3,fp3⟩:=id hM3;have hpl:ps.length=(Wc ak n).length:=by rw [hR3.1,length_map]
  have hal:(Wc ak n).length * ak.length<=20000:=by
   have:=Su ak n
   by_cases hb1:ak.length=0
   ·rw [hb1]; lia
   ·have h1:ak.length ^ (n + 1)<=ak.length ^ aj.length:=A1g "o" "o";rw [Nat.pow_succ] at h1;exact O6 (A0n _ this) (O6 h1 hsz)
  symm;refine λl4 H4 n4=>?_;have hp4:=n4.same _ _ hp3;have S4:Qu H H4:=s3.trans n4.same;symm;refine ⟨⟨_,SqL.of hp4⟩,?_⟩;refine Ym (xs:=ps.map V.ref) (λj σ H' => ∃ (lg:G5) (o5:Option V),σ=[rf b,rf w,rf pk,iv (0 + (n:Int)),rf lg,o5,none,none]/\Qu H4 H'/\Qc6 H H' lg ((((Wc ak n).take j).flatMap (Qb8 ak)).map wI))
   ⟨l4,_,rfl,Qu.refl _,[],n4.at_,⟨rfl,λi a row z=>by simp at z⟩,(λa ha=>by cases ha)⟩ (λi σ H' _ ⟨_,_,_,h,_⟩=>SqL.of (h _ _ hp4)) ?_ ?_
  ·nofun;rintro j y σ H5 hy ⟨lg,o5',rfl,s5,hM5⟩;let ⟨pa,hpa,rfl⟩:=Yw hy;have hj:j < (Wc ak n).length:=by rw [<- hpl]; exact (N5.mp hpa).1
   have hv:(Wc ak n)[j]? = some (Wc ak n)[j]:=by simp [hj]
   have hpv:H4 pa=some (.lst ((wI (Wc ak n)[j]).map V.int)):=n4.same _ _ (hR3.2 j pa _ hpa (by rw [getElem?_map,hv]; rfl));have hvn:(Wc ak n)[j].length=n:=(Yz.mp (M9 hj)).1;have htk:(Wc ak n).take (j + 1)=(Wc ak n).take j ++ [(Wc ak n)[j]]:=by rw [take_succ,hv]; rfl
   have hfl:=Mc ak ((Wc ak n).take j);rw [length_take] at hfl;have hfl2:(((Wc ak n).take j).flatMap (Qb8 ak)).length<=20000:=O6 hfl (O6 (A1d _ (Nat.min_le_right _ _)) (by rw [Nat.mul_comm]; exact hal));generalize (Wc ak n)[j]=v at *;let ⟨qs,hq5,hR5,fq5⟩:=id hM5;refine ⟨_,rfl,_,rfl,b,_,rfl,.inl (SqL.of (s5 _ _ (S4 _ _ hb))),?_⟩;rw [length_map];walk_at "d";refine Qn6 (λr=>decide (((v.count r:Nat):Int) < ak.getD r 0)) (λr y H => ∃ l,y=.ref l/\l≠D/\H5 l=none/\H l=some (.lst ((wI (v ++ [r])).map V.int))) sml hD (λi y H H' k ⟨l,e,ne,nn,h⟩=>⟨l,e,ne,nn,k l _ ne h⟩) ?_ ?_ ?_
   ·rintro r H6 N hr s6 hN;have g2:(ak.map V.int)[r]? = some (.int (ak.getD r 0)):=by simp [getD,hr]
    refine ⟨_,rfl,.inl ⟨rfl,_,SqL.of (s6 _ _ (s5 _ _ hpv))⟩,_,rfl,pa,wI v,_,rfl,rfl,SqL.of (s6 _ _ (s5 _ _ hpv)),?_⟩;rw [show (0:Int) + (r:Int)=(r:Int) by lia,Tz];symm;refine ixL (SqL.of (s6 _ _ (s5 _ _ (S4 _ _ hb)))) (Qc r "o" g2) ?_;exact ⟨_,_,rfl,rfl,_,rfl,hN _ (Qu.refl _)⟩
   ·rintro r H6 ys N hr hp s6 d6 hN;refine ⟨_,rfl,_,rfl,Zk (by simp),λt7 H7 n7=>?_⟩;refine ⟨pa,t7,_,_,rfl,rfl,n7.same _ _ (s6 _ _ (s5 _ _ hpv)),n7.at_,by rw [sizeLine_eq,Za]; simp; lia,λc8 H8 n8=>?_⟩;refine hN _ _ (n7.same.trans n8.same) ⟨c8,rfl,(Qj (n7.same _ _ d6) n8.none).symm,s6.free (n7.same.free n8.none),?_⟩;rw [n8.at_];simp [wI]
   ·rintro ys H6 s6 d6 ly r6;let ⟨es,ees,pes⟩:=Um (P:=λi l=>H5 l=none/\∀ r,((range ak.length).filter λr=>decide (((v.count r:Nat):Int) < ak.getD r 0))[i]? = some r->H6 l=some (.lst ((wI (v ++ [r])).map V.int))) (λi y e=>by
     have hi:i < ((range ak.length).filter λr=>decide (((v.count r:Nat):Int) < ak.getD r 0)).length:=by rw [<- ly]; exact (N5.mp e).1
     let ⟨l,e1,_,e0,e3⟩:=r6 i _ y (R3 hi) e;refine ⟨l,e1,e0,λr er=>?_⟩;rw [getElem?_eq_getElem hi] at er;cases er;exact e3)
    subst ees;have hq6:=s6 _ _ hq5;have hel:es.length=(Qb8 ak v).length:=by rw [length_map] at ly;rw [ly];simp [Qb8]
    have hel2:=Qvw ak v;refine ⟨lg,D,_,_,rfl,rfl,hq6,d6,?_,λL H7 n7=>?_⟩
    ·rw [sizeLine_eq,length_map,length_map,hR5.1,length_map];lia
    nofun;refine ⟨L,_,rfl,(s5.trans s6).trans n7.same,qs ++ es,by rw [n7.at_]; simp,?_,λa ha=>?_⟩
    rotate_left
    ·rcases O5.mp ha with z | z
     ·exact fq5 a z
     ·let ⟨i,hi,rfl⟩:=A0u z;exact (S4.trans s5).free (pes i _ (R3 hi)).1
    rw [htk,flatMap_append,map_append];refine (hR5.same (s6.trans n7.same)).app ⟨by simp [hel],λi a row z1 z2=>?_⟩;have hi:i < es.length:=(N5.mp z1).1;have hi2:i < ((range ak.length).filter λr=>decide (((v.count r:Nat):Int) < ak.getD r 0)).length:=by rw [hel] at hi;simpa [Qb8] using hi
    have e7:=n7.same _ _ ((pes i a z1).2 _ (R3 hi2));rw [e7];rw [flatMap_singleton] at z2;unfold Qb8 at z2;rw [getElem?_map,getElem?_map,getElem?_eq_getElem hi2] at z2;have z3:=Q9 z2;rw [<- z3]
  ·rintro σ H5 ⟨lg,o5',rfl,s5,hM5⟩;rw [length_map,hpl,take_length] at hM5;symm;exact ⟨lg,_,_,_,rfl,S4.trans s5,hM5⟩
 rintro σ H3 ⟨pk,o3,o4,o5,rfl,s3,hM3⟩;let ⟨ps,hp3,hR3,fp3⟩:=id hM3;have hpl:ps.length=(Wc ak aj.length).length:=by rw [hR3.1,length_map]
 have hal:(Wc ak aj.length).length<=20000:=O6 (Su ak _) hsz;have hin:∀ v∈Wc ak aj.length,v.length=aj.length/\∀ r∈v,r < ak.length:=λv hv=>⟨(Yz.mp hv).1,Jz (Yz.mp hv).2⟩
 have hbp:Vv ak aj=(Wc ak aj.length).filter λv=>decide (∀ u∈Wc ak aj.length,wsum (wF aj) u<=wsum (wF aj) v):=rfl;generalize Wc ak aj.length=al at *;symm;refine ⟨⟨_,SqL.of hp3⟩,λD hD=>?_⟩;refine Xy (λj y _ => ∃ v,al[j]? = some v/\y=.int (wsum (wF aj) v)) (SqL.of hp3) (by rw [length_map,sizeLine_eq]; lia) hD (λ_ _ _ _ _ h=>h) ?_ ?_
 ·rintro j y H4 ys N hy s4 d4 hN;let ⟨pa,hpa,rfl⟩:=Yw hy;have hj:j < al.length:=by rw [<- hpl]; exact (N5.mp hpa).1
  have hv:al[j]? = some al[j]:=by simp [hj]
  let ⟨hvn,hvr⟩:=hin _ (M9 hj);have hpv:=s4 _ _ (hR3.2 j pa _ hpa (by rw [getElem?_map,hv]; rfl));have S4:Qu H H4:=s3.trans s4;generalize al[j]=v at *;refine ⟨_,rfl,w,_,rfl,.inl (SqL.of (S4 _ _ hw)),?_⟩;rw [lw];refine ⟨_,rfl,"o","o",λD2 hD2=>?_⟩;rw [Int.toNat_natCast];refine Zl (λi=>.int (wF aj i (v.getD i 0))) sml hD2 (λi hi H5 N2 s5 hN2=>?_) λH5 s5 d5=>?_
  ·have gm:aj[i]? = some aj[i]:=by simp [hi]
   let ⟨ra,g1,g2,g3⟩:=hR.at_ gm;have hr:v[i]? = some v[i]:=by simp [show i < v.length by lia]
   have b2:v[i] < aj[i].length:=by have h1:=hvr _ (M9 (show i < v.length by lia));have h2:=bok.rows _ (M9 hi);lia
   have g5:(aj[i].map V.int)[v[i]]? = some (.int ((aj[i]).getD v[i] 0)):=by simp [b2,getD]
   symm;refine ixL (SqL.of (s5 _ _ (S4 _ _ hw))) (Qc i "o" g2) ?_;symm;refine ixL (SqL.of (s5 _ _ hpv)) (Qc i "o" (Fl hr)) ?_;refine ixL (SqL.of (s5 _ _ (S4 _ _ g3))) (Qc v[i] rfl g5) ?_;have:=hN2 _ (Qu.refl _);simpa [hi,wF,getD,show i < v.length by lia] using this
  ·have d5':H5 D2=some (.lst (((range v.length).map λi=>wF aj i (v.getD i 0)).map V.int)):=by rw [d5,map_map,hvn];rfl
   exact ⟨D2,_,rfl,SqL.of d5',hN _ _ s5 ⟨v,hv,rfl⟩⟩
 rintro ys H4 s4 d4 ly r4;have ey:ys=(al.map λv=>wsum (wF aj) v).map V.int:=Vu (by rw [ly,length_map,length_map,hpl]) λi y e=>by let ⟨v,h1,h2⟩:=r4 i y e;exact ⟨_,by rw [getElem?_map,h1]; rfl,h2⟩
 subst ey;symm;refine ⟨D,_,rfl,SqL.of d4,by rw [length_map]; exact hne,λz hz hmax=>?_⟩;have hp4:=s4 _ _ hp3;symm;refine ⟨pk,_,rfl,.inl (SqL.of hp4),?_⟩;rw [length_map,hpl];refine ⟨_,rfl,"o","o",λD2 hD2=>?_⟩;rw [Int.toNat_natCast];refine Yy (λk=>decide (V.int (wsum (wF aj) (al.getD k []))=V.int z)) (λk=>.ref (ps.getD k pk)) sml hD2 ?_ ?_ ?_
 ·rintro k H5 N hk s5 hN;have g:((al.map λv=>wsum (wF aj) v).map V.int)[k]? = some (.int (wsum (wF aj) (al.getD k []))):=by simp [hk,getD]
  symm;refine ixL (SqL.of (s5 _ _ d4)) (Qc k "o" g) ?_;exact ⟨_,rfl,rfl,_,rfl,hN _ (Qu.refl _)⟩
 ·rintro k H5 N hk hp s5 hN;have g:(ps.map V.ref)[k]? = some (.ref (ps.getD k pk)):=by simp [hk,getD,hpl]
  symm;refine ixL (SqL.of (s5 _ _ hp4)) (Qc k "o" g) ?_;exact hN _ (Qu.refl _)
 ·rintro H5 s5 d5;have hg:al=(range al.length).map λk=>al.getD k []:=by refine U7 (by simp) λi z1 z2=>?_;simp [getD,z1]
  have hfe:Vv ak aj=((range al.length).filter λk=>decide (V.int (wsum (wF aj) (al.getD k []))=V.int z)).map λk=>al.getD k []:=by
   rw [hbp]
   conv=>lhs; rw [hg]
   rw [filter_map]
   congr 1
   refine A0h λk hk=>?_;have hk:=N8.mp hk;show decide _=decide _;rw [Bool.eq_iff_iff,decide_eq_true_eq,decide_eq_true_eq,<- hg];have g8:al.getD k []∈al:=by
    have:al.getD k []=al[k]:=by simp [getD,hk]
    rw [this]; exact M9 hk
   constructor
   ·intro hu;let ⟨u,hu1,hu2⟩:=O3.mp hz;have h1:=hu u hu1;have h2:=hmax _ (O3.mpr ⟨_,g8,rfl⟩);rw [hu2] at h1;rw [Int.le_antisymm h2 h1]
   ·intro e u hu;injection e with e
    rw [e];exact hmax _ (O3.mpr ⟨u,hu,rfl⟩)
  refine q D2 H5 ((s3.trans s4).trans s5) ((s3.trans s4).free hD2) ⟨((range al.length).filter λk=>decide (V.int (wsum (wF aj) (al.getD k []))=V.int z)).map λk=>ps.getD k pk,by rw [d5,map_map]; rfl,?_,λa ha=>by let ⟨k',hk',rfl⟩:=O3.mp ha;have hk'':=N8.mp (T3.mp hk').1;refine fp3 _ ?_;rw [show ps.getD k' pk=ps[k']'(by lia) by simp [getD,show k' < ps.length by lia]];exact M9 _⟩
  rw [hfe];refine ⟨by simp,λi a row z1 z2=>?_⟩;rw [getElem?_map] at z1;rw [getElem?_map,getElem?_map] at z2;have hmf:∀ k∈(range al.length).filter λk=>decide (V.int (wsum (wF aj) (al.getD k []))=V.int z),k < al.length:=λk hk=>N8.mp (T3.mp hk).1;generalize (range al.length).filter (λk=>decide (V.int (wsum (wF aj) (al.getD k []))=V.int z))=fl at *;cases hf:fl[i]? with
  | none=>rw [hf] at z1; cases z1
  | some k =>rw [hf] at z1 z2;have hk:=hmf k (R9 hf);simp at z1 z2;subst z1 z2;refine s5 _ _ (s4 _ _ (hR3.2 k _ _ (by simp [show k < ps.length by lia]) ?_));simp [hk]
theorem Af:Def P w K mg base 6 "_law_no_better" [Y1,Y0,Y10,Y3,Y4,Y6,Y33] Hv:=by
 refine Z.a75.mq [Y1,Y0,Y10,Y3,Y4,Y6,Y33,Y29,"_law_left"] λH vs Q E hr nD h=>?_;let ⟨b,w,wy,pu,pl,le,ak,aj,ao,way,ps,rows,as,m,k,rfl,hb,hM,hwy,HG,hre,ln,fit,hpu,lps,pap,pok,f1,hle,hmb,hkb,hc,q⟩:=h;refine ⟨_,(zcF (zcC (Qg 7 nD (Qd (Mt Z) hr %[0,1,3,4,5|0])) (zcC (Zz (q_t Pr {7} Zg) (Qf Ju) Qh) (zcC (Qg 8 nD (Qy Zv (Qy Zv (Qr (Xu (K:=K) rfl rfl) (by rfl) Z.T.u10 Xg (Qq (Zt [Y11,Y3,Y0] [none,some 3,some 1] (Zr Z.T.u1 (Qq (Zx K Z.T.u0 %[3|0]) Qz)) (Qb K (Qb K {2} {0}) (Qb K {1} {0}))) Qz)) {2}) (Qb K {7} Qx))) (zcC (Zz (q_t Jg (Qb K {7} Qx) Qx) (Qf (Uc Ra {8} Qx (Rx _))) Qh) (zcL (Qf (Uc Bg (Qy Qi {8} (Qb K {6} Qx)) (Qy Qi (Qb K {6} Qx) (Qb K {7} Qx)) (Rx _))))))))),?_⟩;have aok:Qn ak aj way:=⟨HG.bok,ln,Jz fit⟩
 have lwo:=HG.bok.w1;have hwb:=Ng (way:=way) HG.x "o";have pbd:=Qj1 lwo pok;symm;refine ⟨b,w,wy,pu,pl,ak,aj,way,ps,rows,as,rfl,hb,hM,hwy,aok,hpu,lps,pap,pok,λt H1 s1 ht=>?_⟩;symm;refine ⟨wy,_,rfl,.inl (SqL.of (s1 _ _ hwy)),?_⟩;rw [Za,ln];walk_at "d";let ⟨ws,hw,hR⟩:=id (hM.same s1);refine Zl (λi=>.int (Zh aj way i)) sml hD (λi hi H2 N s2 hN=>?_) λH2 s2 d2=>?_
 ·rw [Int.zero_add];let ⟨ra,r2,r3,r4,r5⟩:=Ki (i:=i) hR aok hi;symm;refine ixW i (s2 _ _ hw) r2 ?_;symm;refine ixW i (s2 _ _ (s1 _ _ hwy)) r4 ?_;refine ixW _ (s2 _ _ r3) r5 ?_;exact hN _ (Qu.refl _)
 have ew:((range aj.length).map (Zh aj way)).sum=wsum (wF aj) way:=by unfold wsum;rw [ln];rfl
 have d2':H2 D=some (.lst (((range aj.length).map (Zh aj way)).map V.int)):=by rw [d2,map_map]; rfl
 refine ⟨D,_,rfl,SqL.of d2',?_⟩;rw [ew];have S2:Qu H H2:=s1.trans s2;have ht2:=s2 _ _ ht;symm;refine ixU ht2 rfl ?_;symm;refine ixU ht2 rfl ?_;symm;rcases hc with ⟨f0,hlt⟩ | ⟨f0,hge⟩
 ·refine Yr (O8 (by rw [f0]; rfl)) ?_;symm;show Q (.bl (decide (wsum (wF aj) way - ao - as.sum < 0))) H2;rw [decide_eq_true (show wsum (wF aj) way - ao - as.sum < 0 by lia)];exact q _ S2
 ·refine Vt (S8 λz=>by have:=V.int.inj z; lia) ?_;symm;refine ixU (S2 _ _ hle) rfl ?_;walk_at "m";symm;refine ixU (S2 _ _ hle) rfl ?_;symm;refine ixU ht2 rfl ?_;walk_at "m";symm;show Q (.bl (decide ((wsum (wF aj) way - ao - as.sum) * k<=m * (bw rows:Int)))) H2;rw [decide_eq_true hge];exact q _ S2
theorem Qzj:Def P w K mg base 7 "_law_none_for_all" [Y1,Y0,Y10,"_law_ways",Y4,Y24] Sn:=by
 refine Z.a76.mq [Y1,Y0,Y10,"_law_ways",Y4,Y24,Y3,Y6] @λf _ _ _ _ H vs Q E hr nD h=>?_;let ⟨b,w,l,pu,f,ak,aj,ao,ps,L,rfl,hb,hM,ok,hMl,hl,hpu,lps,⟨nl,ts,hf,hnl,lt,hat⟩,q⟩:=h;refine ⟨_,(zcF (zcC (Zz (PW.pt (Jv (Xf (Xc (Zp K Z.T.u3 (Qq (Qb K {5} Qx) (Qq (Ul (v:=.ty "list") rfl Z.T.u6 Jc rfl) Qz))))) (Yo (q_t (Nr (K:=K) rfl hr.units) (Zt ["_law_pair"] [none] (Vo K (Qb K {5} Qx)) (Qb K {0} Qx)) {3})))) (Qf Ju) Qh) (zcL (Qw (Xt (Vo K (Qb K {5} Qx)) (Wu (K:=K) (n:=2) rfl rfl (Zy (Ql 6 nD) (Zy (Ql 7 nD) Wy))) (Qm (Zz (Xf (Xc (Qd (Qnk Z) hr %[0,1,2,6,4,7|0]))) (Qf Ju) Qh))) (Qf Ju))))),?_⟩;let ⟨ws,hw,hR⟩:=id hMl;symm;refine ixU hf rfl ?_;refine ⟨_,_,_,true,rfl,.lst hnl,Ya _ _,_,rfl,Bv ?_⟩;symm;refine ixU hf rfl ?_;refine ⟨nl,rfl,⟨_,SqL.of hnl⟩,λD hD=>?_⟩;refine Xy (λi y _ => ∃ wy,y=.ref wy/\H wy=some (.lst ((wI (L.getD i [])).map V.int))) (SqL.of hnl) (by rw [sizeLine_eq,length_map]; lia) hD (λ_ _ _ _ _ h=>h) ?_ ?_
 ·rintro i y H1 ys N hy s1 d1 hN;let ⟨u,hu,rfl⟩:=Yw hy;have hi:i < L.length:=by rw [<- lt]; exact (N5.mp hu).1
  let ⟨u',wy,pl,rws,g1,g2,g3,g4,g5⟩:=hat i hi;obtain rfl:u=u':=Q9 (hu.symm.trans g1);symm;refine ixU (s1 _ _ g2) rfl ?_;exact hN _ _ (Qu.refl _) ⟨wy,rfl,g3⟩
 rintro ys H1 s1 d1 ly r1;let ⟨vs,rfl,pvs⟩:=Um r1;have hRv:Rows H1 vs (L.map wI):=⟨by rw [length_map,length_map] at ly; rw [length_map]; lia,λi a row h1 h2=>by
  have hi:i < L.length:=by have:=(N5.mp h2).1; simpa using this
  rw [getElem?_map,getElem?_eq_getElem hi] at h2;cases h2;have:=s1 _ _ (pvs i a h1);rw [getD_get _ _ hi] at this;exact this⟩
 refine ⟨_,rfl,Qmv (L.map wI),Qmv (L.map wI),Wv (SqL.of d1) (Np hRv),Wv (SqL.of (s1 _ _ hw)) (Np (hR.same s1)),De _,De _,?_⟩;rw [if_pos rfl,Qt6];symm;refine ixU (s1 _ _ hf) rfl ?_;refine ⟨nl,rfl,⟨_,SqL.of (s1 _ _ hnl)⟩,?_⟩;refine Ym (xs:=ts.map V.ref) (λi σ H' => ∃ (o6 o7:Option V),σ=[rf b,rf w,iv ao,rf l,rf pu,rf f,o6,o7]/\Qu H H') ⟨_,_,rfl,s1⟩ (λi σ H' _ h=>by let ⟨_,_,_,h⟩:=h; exact SqL.of (h _ _ hnl)) ?_ ?_
 ·nofun;rintro i y σ H2 hy ⟨o6,o7,rfl,s2⟩;let ⟨u,hu,rfl⟩:=Yw hy;have hi:i < L.length:=by rw [<- lt]; exact (N5.mp hu).1
  let ⟨u',wy,pl,rws,g1,g2,g3,g4,g5⟩:=hat i hi;obtain rfl:u=u':=Q9 (hu.symm.trans g1);let ⟨c1,c2,_⟩:=ok.at_ hi;refine ⟨u,_,rfl,SqT.of (s2 _ _ g2),rfl,_,_,rfl,_,_,rfl,rfl,?_⟩;symm;refine ⟨b,w,wy,pu,pl,ak,aj,ao,_,ps,rws,rfl,s2 _ _ hb,hM.same s2,s2 _ _ g3,ok.g,c1,c2,s2 _ _ hpu,lps,g4.same s2,g5,λH3 s3=>?_⟩;refine ⟨_,rfl,Bv ?_⟩;nofun;exact ⟨_,_,rfl,s2.trans s3⟩
 ·rintro σ H2 ⟨o6,o7,rfl,s2⟩;symm;exact q _ s2
theorem Zzq:Def P w K mg base 15 "law" [Y9] (Mj K Pa Jy "bring_in.<locals>.<lambda>" Pb Zs "best_room.<locals>.<lambda>" Pc Xb "loose_ones.<locals>.<lambda>"):=by
 refine Z.a77.mq [Y9,Y1,Y0,Y10,"_law_house_here","_law_own",Y4,"_law_ways",Y24,Y3,Y12,Y6,Y25,Y16,Y33,Y43,Y29,"_law_last"] @λf _ _ _ _ H vs Q E hr nD h=>?_;let ⟨a,ns,rfl,hS,fu,hL,hL2,hL3,q⟩:=h;refine ⟨_,(zcF (zcC (Vn (Qd (Qs5 Z) hr (Qq {0} (Qq Qx (Qq Qx Qz)))) (Wu (K:=K) (n:=3) rfl rfl (Zy (Ql 1 nD) (Zy (Ql 2 nD) (Zy (Ql 3 nD) Wy))))) (zcC (Qg 4 nD (Qx9 (Qo5 Z) Z.HC.mks Z.HC.kp Z.HC.mgC (hr.mono (by decide)) rfl (Qq (Rz K Z.T.u6 %[1|0]) (Qq (Zt [Y15] [none] (Vo K {2}) (Rz K Z.T.u6 %[0|0])) %[3|0])))) (zcC (Qg 5 nD (Qd (Qc0 Z) hr %[4|0])) (zcC (Qg 6 nD (Qd (Qgw Z) hr (Qq {0} (Qq {2} (Qq {5} (Qq (Qb K (Qd (Io Z) hr (Qq (Qx9 (Mq (CH:=CH) Z.T Z.b7.a Z.a78) Z.b7.mks Z.b7.kp Z.b7.mgC (hr.mono (by decide)) rfl %[4,5|0]) Qz)) Qx) Qz)))))) (zcC (Qg 7 nD (Qd (Qo7 Z) hr %[1,2|0])) (zcC (Qg 8 nD (Qh2 (Zzz Z) (hr.mono (by decide)) rfl (Qq {4} (Qq (Rz K Z.T.u6 %[6|0]) Qz)))) (zcC (Zz (Xf (Xc (Zp K Z.T.u3 (Qq {8} (Qq (Ul (v:=.ty "tuple") rfl Z.T.u7 Vl rfl) Qz))))) (Qf Ju) Qh) (zcC (Zz (q_t Jg (Qb K {8} Qx) Jq) (Qf (Qd (Qzj Z) hr %[1,2,3,7,6,8|0])) Qh) (zcC (Zz (PW.pt (Jv (q_t Ue (Qb K {8} Qx) Jq) (Jv (q_t Ue (Zx K Z.T.u0 %[8|0]) Qx) (Yo (Ud (Qq7 (K:=K) rfl hr.units) (Qb K {8} Qx) {7} (by with_unfolding_all rfl)))))) (Qf Ju) Qh) (zcC (Vn (Uj (Cr (K:=K) rfl) {8} (Vk Qx) Ry) (Wu (K:=K) (n:=3) rfl rfl (Zy (Ql 9 nD) (Zy (Ql 10 nD) (Zy (Ql 11 nD) Wy))))) (zcC (Zz (Xf (Xc (Qd (Qs0 Z) hr %[1,2,3,9,6,10,11|0]))) (Qf Ju) Qh) (zcC (Vn {10} (Wu (K:=K) (n:=2) rfl rfl (Zy (Ql 12 nD) (Zy (Ql 13 nD) Wy)))) (zcC (Qg 14 nD (Qr (Wb (K:=K) rfl rfl) (by rfl) Z.T.u8 Ja (Qq (Zt [Y11,Y25,Y16,Y3,Y0] [none,some 12,some 13,some 9,some 2] (Zr Z.T.u1 (Qq (Zx K Z.T.u0 %[9|0]) Qz)) (Qy Zv (Qy Qi {1} (Qb K (Qb K {4} {0}) (Qb K {3} {0}))) (Qb K {2} (Qb K {3} {0})))) Qz))) (zcL (Qw (Xt (Vo K {7}) (Ql 15 nD) (zcF (zcC (Qg 16 nD (Qd (Ir Z) hr (Qq {4} (Qq (Rz K Z.T.u6 %[15|0]) (Qq (Rz K Z.T.u6 %[6|0]) Qz))))) (zcC (Qg 17 nD (Qb K {16} (Qy Zv (Zx K Z.T.u0 %[16|0]) Qx))) (zc1 (Zz (Xf (Xc (Qd (Af Z) hr (Qq {1} (Qq {2} (Qq {3} (Qq {15} (Qq {6} (Qq {17} (Qq (Zc %[14,12|0]) Qz)))))))))) (Qf Ju) Qh)))))) (Qf Ju))))))))))))))))),?_⟩;symm;refine ⟨a,ns,_,_,rfl,hS,fu,by decide,by decide,by decide,by decide,λt b0 w0 ak aj ao H2 s2 ht hb2 hM2 ok=>?_⟩;refine ⟨t,_,rfl,SqT.of ht,rfl,_,_,rfl,_,_,rfl,_,_,rfl,rfl,?_⟩;have HG:Jt ak aj:=ok.g "o" "o";have hre:-(10 ^ 42) < ao/\ao < 10 ^ 42:=by have:=ok.r; lia
 have hb3:ak.length<=3:=by have:=ok.b2; lia
 have hw3':aj.length<=3:=by have:=ok.w2; lia
 nofun;refine stC (σ':=[rf a,rf b0,rf w0,iv ao,none,none,none,none,none,none,none,none,none,none,none,none,none,none]) rfl ?_;have hbl:=HG.bok.b1;have hwl:=HG.bok.w1;have hw1:=HG.w1;have hb0':∀ b∈ak,0<=b:=λb hb=>by have:=HG.b1 b hb; lia
 symm;refine ⟨b0,_,rfl,.inl (SqL.of hb2),λb1 H3 n3=>?_⟩;let ⟨ws3,hw3,hR3⟩:=id (hM2.same n3.same);symm;refine ⟨⟨_,SqL.of hw3⟩,λD hD=>?_⟩;refine Qz5 (hM2.same n3.same) sml hD (λra row H3 N h3 hN=>?_) λH4 s4 hM4=>?_
 ·symm;exact ⟨ra,_,rfl,.inl (SqL.of h3),hN⟩
 symm;refine λx dx nx ndx nex=>?_;have s0:Qu H4 (upd (upd H4 dx (.own x)) x (.ins CH dx [])):=λc o e=>by rw [Qv (Qj e nx),Qv (Qj e ndx)];exact e
 refine ⟨x,dx,b1,D,ak,aj,ao,rfl,Qk,s0 _ _ (s4 _ _ n3.at_),hM4.same s0,"o","o",HG.w3,λH5 hA5 kp=>⟨rfl,?_⟩⟩;have S5:Qu H2 H5:=(n3.same.trans s4).trans λc o e=>kp c o (s0 _ _ e) (Qj e nx);have hL5:=(hL.same s2).same S5;have pq:=(hL2.same s2).same S5;have hL35:=(hL3.same s2).same S5;nofun;refine ⟨_,rfl,x,ak,aj,ao,rfl,hA5,HG.bok,HG.w3,hb0',hL5,λwy way H6 s6 so6 f6 h6 hL6 ln fit opt=>?_⟩;have hL26:Qa H6 Pb Zs "best_room.<locals>.<lambda>" := pq.o hL5.tbl Z.a51 so6;have hL36:Qa H6 Pc Xb "loose_ones.<locals>.<lambda>" := hL35.o hL5.tbl Z.a52 so6;have aok:Qn ak aj way:=⟨HG.bok,ln,Jz fit⟩
 have hb6:=s6.to _ _ (S5 _ _ hb2) rfl;have hM6:=(hM2.same S5).bf s6;have hA6:=hA5.bf s6;have hS6:=s6.seq ((s2.trans S5).seq hS);clear kp s0 hM4 hR3 hw3 hA5 s4 n3;symm;refine λxa da nxa nda nea=>?_;have sa:Qu H6 (upd (upd H6 da (.own xa)) xa (.ins au da [])):=λc o e=>by rw [Qv (Qj e nxa),Qv (Qj e nda)];exact e
 refine ⟨xa,da,x,wy,ak,aj,ao,way,rfl,Qk,hA6.same sa,sa _ _ h6,λwa H7 f7 p7 w7 kp7=>⟨rfl,?_⟩⟩;have S7:Qu H6 H7:=λc o e=>kp7 c o (sa _ _ e) (Qj e nxa);have aim7:Xn CH au H7 xa ak aj ao way:=⟨da,x,wa,p7,hA6.same S7,w7⟩
 symm;refine ⟨xa,ak,aj,ao,way,rfl,aim7,aok,fit,opt,hL26.same S7,"o",HG.x,λt0 tp0 rl0 cl0 aq st rows H8 s8 so8 hL28 f2 frl nrc ff g=>?_⟩;have hL38:Qa H8 Pc Xb "loose_ones.<locals>.<lambda>" := (hL36.same S7).o (hL26.same S7).tbl Z.a46 so8;have hL18:Qa H8 Pa Jy "bring_in.<locals>.<lambda>" := (hL6.same S7).o (hL26.same S7).tbl Z.a51.symm so8;have B8:Qt H6 H8:=S7.b.trans s8;have low:=g.low "o";have hpr:=g.pr;have hrl:=g.rl_;have lrows:=g.isr.1;have kb:=Sj low "o" "o";have lR:=low.len;rw [lrows] at lR;generalize hR:(rows.map λz=>z / ((bx aj.length rows:Nat):Int))=R0 at *;generalize hk0:(aj.length:Int) / ((bx aj.length rows:Nat):Int)=k0 at *;symm;refine ixU g.tup rfl ?_;refine ⟨a,w0,wy,tp0,rl0,ns,ak,aj,way,k0,R0,rfl,B8.seq hS6,B8.to _ _ h6 rfl,aok,hpr,hrl,lR,kb.1,kb.2,λpu ps H9 s9 fpu hpu lps hpb=>?_⟩;have pb:∀ i x,ps.getD i none=some x->-(10 ^ 42) < x/\x < 10 ^ 42:=λi x e=>by
  by_cases hi:i < ps.length
  ·rw [getD_eq_getElem?_getD,getElem?_eq_getElem hi] at e;exact hpb _ (M9 hi) x e
  ·rw [getD_eq_getElem?_getD,getElem?_eq_none "o"] at e;cases e
 have B9:Qt H6 H9:=B8.trans s9.b;nofun;refine stN (σ':=[rf a,rf b0,rf w0,iv ao,rf x,rf wy,rf pu,none,none,none,none,none,none,none,none,none,none,none]) rfl ?_;clear g hpr hrl low ff so8 s8 sa kp7;have hwin:way∈Vv ak aj:=Kd.mpr ⟨ln,fit,opt⟩;have hpow:ak.length ^ aj.length<=20000:=O6 (Nat.pow_le_pow_left (show ak.length<=3 by lia) _) (O6 (A1g (by decide) hw3') (by decide));symm;refine ⟨b0,w0,ak,aj,rfl,B9.to _ _ hb6 rfl,hM6.bf B9,HG.bok,hpow,Z1 (Yz.mpr ⟨ln,fit⟩),λl H10 s10 _ hMF=>?_⟩;have hM10:=hMF.mat;have B10:Qt H6 H10:=B9.trans s10.b;have hpu10:=s10 _ _ hpu;nofun;refine stN (σ':=[rf a,rf b0,rf w0,iv ao,rf x,rf wy,rf pu,rf l,none,none,none,none,none,none,none,none,none,none]) rfl ?_;symm;refine ⟨pu,_,rfl,.inl (SqL.of hpu10),λhd H11 n11=>?_⟩;have B11:Qt H6 H11:=B10.trans n11.same.b;have S11:Qu H9 H11:=s10.trans n11.same;have hL11:By H11 Pa Pb Pc Jy Zs Xb:=⟨(hL18.same s9).same S11,(hL28.same s9).same S11,(hL38.same s9).same S11⟩
 refine ⟨x,hd,ak,aj,ao,ps,rfl,hA6.bf B11,HG,hL11,hre,n11.at_,lps,pb,λrw2 H12 s12 hL12 j9=>?_⟩;refine ⟨λ_ f hany=>?_,λhlt=>absurd (Lk (rows:=rw2) hb3 hw3') "o"⟩;have B12:Qt H6 H12:=B11.trans s12;have U12:Qt H10 H12:=n11.same.b.trans s12;have hok:Rj ak aj ao (Vv ak aj):=⟨HG,hre,λv hv=>Kd.mp hv⟩
 have hn1:=(An HG j9).2;have hsm:=Lk (rows:=rw2) hb3 hw3';have hn2:(Vv ak aj).length<=200:=O6 hn1 hsm;have hM12:=hM10.bf U12;have hpu12:=U12.to _ _ hpu10 rfl;have hb12:=B12.to _ _ hb6 rfl;have hMw12:=hM6.bf B12;have hA12:=hA6.bf B12;generalize Vv ak aj=L at *;nofun;refine stN (σ':=[rf a,rf b0,rf w0,iv ao,rf x,rf wy,rf pu,rf l,rf f,none,none,none,none,none,none,none,none,none]) rfl ?_;clear hM10 hMF B8 s9 so6;rcases hany with ⟨wy1,tp,rl,pl,j,m1,k1,R,rws,g1,g2,g3,g4,g5,g6,fb⟩ | ⟨nl,ts,g1,g2,g3,g4⟩
 ·symm;refine ⟨_,_,_,true,rfl,.tup g1,Ya _ _,_,rfl,Bv ?_⟩;symm;refine ixU g1 rfl ?_;symm;refine ixU g1 rfl ?_;symm;refine ⟨f,_,rfl,.inr (SqT.of g1),?_⟩;symm;refine ixU g1 rfl ?_;have hj:=fb.1;let ⟨c1,c2,c3⟩:=hok.at_ hj;have aok2:=hok.aok hj;let ⟨ws,hw,hR⟩:=id hM12;have lw:ws.length=L.length:=by rw [hR.1,length_map]
  refine ⟨_,rfl,l,_,Nk (wI (L.getD j [])),(L.map wI).map Nk,rfl,SqL.of hw,Wv (SqL.of g2) (Cs _),Np hR,Qjz _,λe he=>?_,Qy0 _,?_⟩
  ·let ⟨r,_,rfl⟩:=O3.mp he;exact Qjz r
  rw [show (((L.map wI).map Nk).any λe=>PyData.eqv e (Nk (wI (L.getD j []))))=true from any_eq_true.mpr ⟨_,mem_map.mpr ⟨_,mem_map.mpr ⟨_,by rw [getD_get _ _ hj]; exact getElem_mem hj,rfl⟩,rfl⟩,Qjx _⟩];symm;refine ⟨f,_,rfl,SqT.of g1,(by show ¬(HT.sIx 4 0 (some 1)=0/\HT.sIx 4 4 none=4); decide),λt3 ht3=>?_⟩;refine ⟨t3,_,rfl,SqT.of Qk,rfl,_,_,rfl,_,_,rfl,_,_,rfl,rfl,?_⟩;have s13:Qu H12 (upd H12 t3 (.tup (Fd [.str (Str.ofString "kept"),.ref wy1,.ref tp,.ref pl] (some 1) none))):=Qu.upd ht3;generalize upd H12 t3 (.tup (Fd [.str (Str.ofString "kept"),.ref wy1,.ref tp,.ref pl] (some 1) none))=H13 at *;nofun;refine stC (σ':=[rf a,rf b0,rf w0,iv ao,rf x,rf wy,rf pu,rf l,rf f,rf wy1,rf tp,rf pl,none,none,none,none,none,none]) rfl ?_;have jk:j < L.length/\Cy ak aj ao ps L j m1 k1:=fb.2.1;have hV:Cm λp m k=>p < L.length/\Cy ak aj ao ps L p m k:=hok.val;symm;refine ⟨b0,w0,wy1,pu,tp,rl,pl,ak,aj,ao,_,ps,k1,R,rws,rfl,s13 _ _ hb12,hMw12.same s13,s13 _ _ g2,HG,hre,c1,c2,s13 _ _ hpu12,lps,pb,s13 _ _ g3,s13 _ _ g4,g5.same s13,g6,λH14 s14=>?_⟩;have S14:Qu H12 H14:=s13.trans s14;refine ⟨_,rfl,Bv ?_⟩;symm;refine ⟨tp,_,rfl,SqT.of (S14 _ _ g3),rfl,_,_,rfl,_,_,rfl,rfl,?_⟩;nofun;refine stC (σ':=[rf a,rf b0,rf w0,iv ao,rf x,rf wy,rf pu,rf l,rf f,rf wy1,rf tp,rf pl,iv k1,rf rl,none,none,none,none]) rfl ?_;have hrl14:=S14 _ _ g4;have hwb14:=S14 _ _ g2;have lR2:=g6.len;have kb1:=g6.k1;have gR:∀ r,r < ak.length->(R.map V.int)[r]? = some (.int (R.getD r 0)):=λr hr=>by
   have:r < R.length:=by lia
   simp [getD,this]
  let ⟨vs,hw6,hR6⟩:=id (hMw12.same S14);symm;refine ⟨wy1,_,rfl,.inl (SqL.of hwb14),?_⟩;rw [Za,c1];refine ⟨_,rfl,"o","o",λD7 hD7=>?_⟩;rw [Int.toNat_natCast];generalize di:L.getD j []=way2 at *;refine Zl (λi=>.int (k1 * Zh aj way2 i - R.getD (way2.getD i 0) 0)) sml hD7 (λi hi H7 N s7 hN=>?_) λH15 s15 d7=>?_
  ·rw [Int.zero_add];let ⟨ra,r2,r3,r4,r5⟩:=Ki (i:=i) hR6 aok2 hi;have ob:=Ce (way:=way2) HG.x i;symm;refine ixW i (s7 _ _ hw6) r2 ?_;symm;refine ixW i (s7 _ _ hwb14) r4 ?_;refine ixW _ (s7 _ _ r3) r5 ?_;walk_at "m";symm;refine ixW i (s7 _ _ hwb14) r4 ?_;refine ixW _ (s7 _ _ hrl14) (gR _ (aok2.at_ hi).2) ?_;symm;exact hN _ (Qu.refl _)
  have d7':H15 D7=some (.lst (((range aj.length).map λi=>k1 * Zh aj way2 i - R.getD (way2.getD i 0) 0).map V.int)):=by rw [d7,map_map]; rfl
  refine ⟨D7,_,rfl,SqL.of d7',by simp; lia,λlm hlm hlmin=>?_⟩;have hmb2:=Mp HG hre c1 g6 ⟨hlm,hlmin⟩;have fb2:=fb.val hV ⟨hj,R,rws,by rw [di]; exact g6,by rw [di]; exact ⟨hlm,hlmin⟩⟩;have S15:Qu H12 H15:=S14.trans s15;have hw15:=S15 _ _ hw;nofun;refine stN (σ':=[rf a,rf b0,rf w0,iv ao,rf x,rf wy,rf pu,rf l,rf f,rf wy1,rf tp,rf pl,iv k1,rf rl,iv lm,none,none,none]) rfl ?_;symm;refine ⟨⟨_,SqL.of hw15⟩,?_⟩;refine Ym (xs:=ws.map V.ref) (λn σ H' => ∃ (o15 o16 o17:Option V),σ=[rf a,rf b0,rf w0,iv ao,rf x,rf wy,rf pu,rf l,rf f,rf wy1,rf tp,rf pl,iv k1,rf rl,iv lm,o15,o16,o17]/\Qt H15 H'/\By H' Pa Pb Pc Jy Zs Xb) ⟨_,_,_,rfl,Qt.refl _,hL12.same S15⟩ (λi σ H' _ h=>by let ⟨_,_,_,_,h,_⟩:=h; exact SqL.of (h.to _ _ hw15 rfl)) ?_ ?_
  ·nofun;rintro n y σ H16 hy ⟨o15,o16,o17,rfl,s16,hL16⟩;let ⟨pa,hpa,rfl⟩:=Yw hy;have hn:n < L.length:=by rw [<- lw]; exact (N5.mp hpa).1
   have B16:Qt H12 H16:=S15.b.trans s16;have hv:H16 pa=some (.lst ((wI (L.getD n [])).map V.int)):=by rw [getD_get _ _ hn];exact B16.to _ _ (hR.2 n pa _ hpa (by rw [getElem?_map,getElem?_eq_getElem hn]; rfl)) rfl
   let ⟨d1,d2,d3⟩:=hok.at_ hn;symm;refine ⟨pa,_,rfl,.inl (SqL.of hv),λA1 H17 n17=>?_⟩;symm;refine ⟨pu,_,rfl,.inl (SqL.of (n17.same _ _ (B16.to _ _ hpu12 rfl))),λA2 H18 n18=>?_⟩;have S18:Qu H16 H18:=n17.same.trans n18.same;refine ⟨x,A1,A2,ak,aj,ao,_,ps,rfl,(hA12.bf B16).same S18,HG,hre,n18.same _ _ n17.at_,d1,d2,d3,n18.at_,lps,pb,(hL16.same S18).2.1,(hL16.same S18).2.2,λt H19 s19 so19 a1 a2 wat=>?_⟩;have hL19:=(hL16.same S18).two Z.a51 Z.a52 so19 a1 a2;have U19:Qt H16 H19:=S18.b.trans s19;have B19:Qt H12 H19:=B16.trans U19;have hv19:=U19.to _ _ hv rfl;obtain ⟨tv,pl2,dm,as,ht2,hlt,pap2,pok,f1,hc⟩:∃ (tv:List V) (pl2:G5) (dm:List (K8 × List Xx)) (as:K3),H19 t=some (.tup tv)/\atI tv ((tv.length:Nat) - 1:Int)=some (.ref pl2)/\Xl H19 pl2 dm/\Bp ak aj (L.getD n []) ps dm as/\bw dm<=10/\((bw dm=0/\wsum (wF aj) (L.getD n []) - ao < as.sum)\/(0 < bw dm/\(wsum (wF aj) (L.getD n []) - ao - as.sum) * k1<=lm * (bw dm:Int))):=by
    rcases wat with ⟨tp2,rl2,pl2,k2,R2,dm,e1,e2,e3,e4,e5⟩ | ⟨pl2,dm,e1,e4,e5⟩
    ·let ⟨as,pok,f1,f0,hge⟩:=Qu5 (k:=k1) (m:=lm) e5 λm2 hm2=>(fb2.2.2 n m2 k2 hn ⟨hn,R2,dm,e5,hm2⟩).1;exact ⟨_,pl2,dm,as,e1,rfl,e4,pok,f1,.inr ⟨f0,hge⟩⟩
    ·let ⟨as,pok,f0,hlt⟩:=e5.pap;exact ⟨_,pl2,dm,as,e1,rfl,e4,pok,"o",.inl ⟨f0,hlt⟩⟩
   symm;refine ⟨t,_,rfl,.inr (SqT.of ht2),?_⟩;symm;refine ixU ht2 hlt ?_;symm;refine λle H20 n20=>?_;have B20:Qt H12 H20:=B19.trans n20.same.b;refine ⟨b0,w0,pa,pu,pl2,le,ak,aj,ao,_,ps,dm,as,lm,k1,rfl,B20.to _ _ hb12 rfl,hMw12.bf B20,n20.same _ _ hv19,HG,hre,d1,d2,B20.to _ _ hpu12 rfl,lps,pap2.same n20.same,pok,f1,n20.at_,hmb2,kb1,hc,λH21 s21=>?_⟩;refine ⟨_,rfl,Bv ?_⟩;nofun;exact ⟨_,_,_,rfl,s16.trans (U19.trans (n20.same.trans s21).b),(hL19.same n20.same).same s21⟩
  ·rintro σ H16 ⟨o15,o16,o17,rfl,s16,hL16⟩;symm;exact q _
 ·symm;refine ⟨_,_,_,true,rfl,.tup g1,Ya _ _,_,rfl,Bv ?_⟩;symm;refine ixU g1 rfl ?_;symm;exact ⟨b0,w0,l,pu,f,ak,aj,ao,ps,L,rfl,hb12,hMw12,hok,hM12,"o",hpu12,lps,⟨nl,ts,g1,g2,g3,g4⟩,λH13 _=>q H13⟩
end
def Qiz {l:PySem.W.OpenLaw} {q:G8} {loose:K9} {XP:J9->Heap->Prop} {YP:World->Heap->Prop} {d:DefRec} {K:Params->M7} {Pa Pb Pc:G5} (hn:l.most=some 63) (hdf:d.params.defaults=[])
  (hY:∀ (w:World) (h:Heap),YP w h->(K w.params).In h/\∀ P∈[Pc,Pb,Pa],h.get? P=some (PySem.W.tabObj #[])) (hcd:∀ w:World,([Pc,Pb,Pa].all λP=>(K w.params).any λp=>PySem.W.codeHdIn (K w.params) p.1 P)=true) (hnt:∀ w:World,PySem.W.noTabs (K w.params)=true)
  (F:∀ (w:World) (mg:J9) (fa:G5) (h:Heap),(K w.params).In h->h.Ns mainGlobals mg->mg d.name=some (.ref fa) ->
   ∃ fd:FuncData,(∀ (s:G4) (u:G3),BindsTo s fd ⟨[u],[]⟩ [("_law_script",u)])/\∀ base:Heap,(K w.params).In base->base.Ns mainGlobals mg->(∀ P∈[Pc,Pb,Pa],base.BuiltinsAt mg P)->Cg l.prog w (K w.params) mg base CX0 15 fa fd [Y9] (Mj (K w.params) Pa Jy "bring_in.<locals>.<lambda>" Pb Zs "best_room.<locals>.<lambda>" Pc Xb "loose_ones.<locals>.<lambda>")) :
  PySem.W.WalkO q loose XP YP l.row.toRowW d [] (λf vs=>PySem.call f vs) :=
 L2.Qp0 (ts:=[Pc,Pb,Pa]) (n:=63) (k:=15) (x:="_law_script") (sp:=λw=>Mj (K w.params) Pa Jy "bring_in.<locals>.<lambda>" Pb Zs "best_room.<locals>.<lambda>" Pc Xb "loose_ones.<locals>.<lambda>") hn (by decide) hdf ⟨rfl,by decide,by decide⟩ hY hcd hnt F (λ_ _ a ns hl hb hT hS=>⟨a,ns,rfl,hS,hl,.inl (hT Pa (Q0 _ (Q0 _ O9))),.inl (hT Pb (Q0 _ O9)),.inl (hT Pc O9),λ_=>rfl⟩)
end My
#print "((xQ9sYNW:(C>A2*wRWm(QRg/EEXoj(VVx{V`M5c)2gEVzHD3X)9t{8MI7w=)>[Ncn;{6P)N(+v64c+/)SMOv=<>Fb)Wk~T:+0VY)ZKI8yD9Ug)coy|45Y0h)fZU{N5*5})mbzX*:=WR)p9<pi`w2=)rhT}YVQ>=)vxSq>}W3J*+/)t|XZ?D*9ILWZ.t_V*>Y]had6J1*RoVi+BV}T*^NBBxt.T**d]1f0u4j2*jk)v/bq:^*oL,5bL,UC+;HjLFQX:C+K:Uq<Ds73+T(XQ4b1Ei,8IIFy+`5a,W,NC0Fwg;,^C;tfk:6.,lVCg|hFU*--e90zJ(g[-CMJ9W=ZX;-Kk<_h?z..-UnTD(T[ei-aRJXrHbK5-bM41et|Xm-bPA~P?k;V-die/x/NRm-lGE>8:NVd.axJe.1IgN/1+`kv],tc/`DP/O8vOY/v7ae5]27h0.kmv]fK7T02*ZrqcnR`0FtL9->+SN0LlqbD[mmj0M};i99t6}0ThKTOvaT]0Wva*EAN~z0vLIv_sOho0~jZ+k2m*`1*g{OVO|;=1Sff|r*o(i1_dU42>7Cy1hM2.p?9o}1|Vr,:h*Ot2.1}<Up-:32X{S>NH9(I2l6e29iMO(2uAtq8IzjA3K8tbqe^IC3oBdy5{xEe3ti2>_q~AC4[)^tnmq`24mJR2ZRpvL4y[r|J+JHN5,2F/}YqCj55]W+UMLq+5YT_75o3Tq5lhlcJigkr5muNv-M50r5qfB_}~9gH6Cr]V:jbS^6D<2o<Vio36ZU``M{b^^6kDgLbHg<e6o7jk3RikL6|]JLjjl>.7)y7e`(VWt7T6Km3iGBS7h,HXy3?=>7jp<85K]6`7nz:<Qdb7S7pxd`GsJ,D7sU6~F{Nz_7xA(uePt.A87bN2YA8*w8<nMgKBw>|8G_l29XP9n8JjQi]X1~-8Ki/O?iIrb8P:*6-ZJbC97g}eUpQjj987`*pTaSb9C+F;OoK-N9Fr.}_}kO~9Xfr[q[u+C9`MlB>Z)S99dRLO`k8Vg9k}eOU*99X:1V6nd*5j2:9IGKt{~t{:;T~DHl.s9:?1}XGiWrK:C>8OY=>fR:Ckq1kSf0):L</d3iZdT:OJn}`p^|N:OtF=,SO?E:Pn7C]Pm|I:VatY??k8z:`f;QMXYk<:kj;pasQ]h;9RC5H|/+};<OFN*|eeA;<zfB^[cJ_;?V1pA,I?M;I>Ol^T9uJ;aoj<qjbf*;p98vn:61e;~]5w>CIT}<(DJ|k*d/P<,Asa4u/f`<0EJqZp,uU<BFc_H9BFe<G;Ze8^R(d<KOb:sgSZ/<RN3n9FcQB<Z(aqGG6GV<ZS[K=a8ue<Zg1v-1HOI<]`ks9R2;w<cn*<k~OgA<i2}4y)o^y<yHigvjZ.4<zi8An`QZL=8G|sQiF>Y=:c`SIS^q4>+:Eg=nt^}>5vcwIIPm_>?M3E+GAvW>c`N_qsD0~>j}9n=gp[2>ny9<N_sO,>rnESIR?X:>t,y;jU(~|>}D?ebG=.u>}Eh^Dt.8C?5^J0}euvn?xd]-G1)sT?zk(>{J?0NA.vdQPBYz~A<Sw]G;pRjAJ[Z7RH45KAMr~p]A?ACASKhx,W6QdAk~N+RNQZTB=F+fpiNwQB>:jim3V?,BD61^kCg8}BG]7y^A43uBK[0k+;-K]Bb6>yaezo[BeH*.YM}HuC.N08~fS7_C4+*q4bPuaCSc}=f>UuDC]S9z+Q_u~C]p?}N026RCa_+7V/zm,D:w8`_qaeHD:zIb]ei|/D<T<GkBn5,D<nir2u,yKD?a2OfRi}VDF,lRYLrg8DKATqPxa,VD^}:[_5cduDeWaHF4xbeDgkOYONb2qDh2or_Jl}GDp1,>2{>feE1,1/fV[ioE<J0UE*-<uEB-erQ_s6?EFyP_M?p_pEP[Wc_H,:|E^ESDl{5A+Ea{)XzYS/sEqlT:fq5?IEsP(eYT2eQEz-ekcT.=mF(U/R9cBR+F3}6yw=`9]FA^)}k~3CVFIifPsKI?`FjeMb7JT_dFwS|VxNp8SG*lqDkuC}0G2f0d1[q*<G4M2IJN?40GID~*1>12=GT}IE`Y1i:Gb70B=*]wUGwp^.ZNT][H(=u>YqAprH4BK5/Uh2MHdU?AqyMTEI-8fK]emm[IeBVtg;l=HIo/6~5jv/eIy7/qPG/~+J68aH5mMcKJ8W^_jqwUFJKD^bGNXL2Jf8:_q[{FrJrlllQ7+O<Jz+_?[x2>1K5zeKB<Cf|KBsK:rypU+KPvb[:L[e/KU)f]}Q*/IKU>eICgqXRKViWS5agFKKX2MTE~.kNKc2q>)co63K{er}|1cU9L/FFQ3c+n:L3<O,{s{<`LKnns}_Q8kLW6z<LbqP5Layfd~ggUlLn6*3MLxN6LzYlDAy6TkM-6H4/k3R2M/mGd(j}hiM9<t)^[x3,M?=`P4QOSmMNrANbAh+5MlE3qO>wc+MlELRB[|W{MuiMUTS;^(M}DmDCHSm9N7f{-{x0(oNAk[,h[1xPNEl6e-ZSqbNG=K=P([(zNP|J;+:w(yO/R0g4){U+OHE5w/KL=POVyF|-T4f}Oa?rjHLTmIOoWB}dDVz|Os5u`Y.f3AP>I`|vc[;KPB<jpLqCf:PKC1(01OE]P}ug7d.JtaQ4W=}*}bo;Q:rsNMu}zkQ<8`1G7Q*EQjmnno2W3FQzjKy]{{IyQ|ujDoJ..;RGmqk*W[h6RHs|Hq7vP`Rqc`Oz/7M`S+WwkSf8X5S5L=_Ui?-MS=Dd5f;Y(jSGvBe<YCIlSV7J_R3sT,SfNR.U[QuVSjM)>n1{O0St6fT5XM+ZS|pez(IorqT(|=f,6,aST,K|E[W.e0T-6rP[AX)]T4JTUf[zjTTb2Pn:.}_QTkw)LfuWx8TpY<[>o|EuTtR~g4F<=9T|XoVR.(PoU).0xtOXkbUZXCU2^3UeV?jRgrqWEgVEJh~^p5b)VMAtI~)qL[VONPmWP9W1VQV_+acIVSVno::x<JU:W)vRU_rst7W0,]aCM~iqW5w7A|g1MdW;-SB|efgRWSJNJzu37>WWEPD|-qxhWXi6{XF/*-W[A=;|oFh}WloNW~.8x[Wwx+rd=FN/W|:=.Wv{f`W}PUb|sx6EW}joE[|/ypX;*1^[rPHbX?rGE3lX9eX_hB?GlJi_XuyV**7OLoX~+izIFBTpY(S_:ao7ywY+`I*=+v^>Y;)ju:*seuYPy9IWjyaGYXaw<wY/V3Z-{VnwvfhTZ?6I,V=EYQZI+H[z9QzaZPXy)zSROXZS(4|7Q5g1Zt]q*nPDy8[:BK4`85Vb[;48gxacko[D{V;?9=Ce[MFps:,_na[V9K6_GzqP[bE)r2M]j][u4E[Zb,E)]8sm0r98x=]KB9,?d6v5]O-gXC(pVK]ZRjredB(p]{H9S_-1<q^9_EE{GcwY^<+-eJvt}E^>1`odGK?g^>gBldKv;b^?F2BjT>LK^XgQadYQhQ^lt{xp{-R`^xs36kJ{L7^yNCwHD7x5_)a{VcyRUz_3g]j[qwZR_5O6+Xsl`C_<VtFPY2B;_KtPV4k:ik_UrXs/N.3C__wQl9CeDH_tP^hCcE[v_~QVoP=x4k`,Mi>{.a,X`/TCa9R?K<`5rcq5Z*y0`E_QFLNH.-`HPBhLZwv|`S(0unfz:8`WC2?dsni4`bFyothwcE`j.nBe0(AC`nrswCFT?^`sjD7=kMMOa/]ES|qH;Ta09kX5rXz~a<k_5hSCdfa>+kvk`CsHaCm)MXtmxyaG3jtGuoa}aNqV78si5~aftl7IN:T5a{{Jc}w}Gkb52}`qQ<VbbDHSbK+Fi6bQi7Mh7rRybX;GYL7ox1bv=^i86*]Wbw3OxrP`[Zc)WIy*E)ugc0z,Dm.>YOc8*2,X`Gw1cS3ta~sPZ1cY0yM9RsUrc`bFUUIe>ncd/QJ_wR,Mce{[Jk:xOicmVjIxnN1=csMU^*E+bzcsuUMgdBTccypx,vaI7qdAj<XGAlS,ds;gLF]M{2dsM7b:cWr~dzWoL~3,fQe3:Q6P8/o)eIbU2[Zu|-eLqy<.Sd=Ve[_:y.-qOkfJ0*|NSRfKfWip6<cX5_g12M~g8oYHg5lNkI+]Omg8zJ[w<d=rgH=<Brh^VtgS]__RWU;}gSiq)0W_Z6gSxl4]`;[OgW/u9Ne90lg[Of*7(p9+gyi]iN]FG2h);{=a1hiWh1a/gMCzuNh37Ap-287+h69Ub-~50uh?QxL-)u9dhZqN2_2GR-h]~2-ETUe/hx4cWA;s1ghxopBN1vjpiE/vpgvYzKiFQkU+5;0;iY|pB(tZ2Gir;RQ>`2xGit:1Z,j9XPiv4HV4-tofizRlb?WrsbjSJm*NJxNhj]2lc)Pyddj^IyHx^-hxj`{QJck5Z>jl`z*f^CFnjr[+JG>(mkkI-<.leR7MkKHmbPE1RukgB{U/~k-al*S(]Ce_YLl:kW^pJ^hwlFS=<~vQ(FlSJ+V+yh+zlXcra)*}21lav82qLk9Vm+TZfxQRxEm0*JlTBaUum00/J)yp5Bm`Zco8w9ZZmwEPxCHp<JmwZ>6u7DUan,eTqf?}3=n2)X(?8,9SnT]M2DG85On]U/dFh_t/n_z`j9{`cMnjnVwrDOw]nraG8rFIrQny}EE8hiz=oM9dLQ9dN)oOj?)BCQf5oUbU4x[ZCGoYlW:}2:/PooiEbZf2Wfp)fvgnb_Z6p*O+{gQ8L-pK41SnXAb)pn=]VFn|^,pnPa>fTvRhppn57b0[dEq-r:t6tqDmqEP29Sn22zqJ`8f9toQzqK?QFmtQ78qMC-P`gDhNqenjx1NDeJqx/(3d/vM7q{.QP88o?Vr?FBl^gZwKrD,D^3Z,(XrjN+Tql`GQrn;FUG5:bor~r1tP~d-Us-(B]gTC1Ms6dJ1xe7xls:IQi`N9gysdR(._{xRVslBPW:,7M>t3DEJNMn*RtIXGFl/3)>tIy:vtwEbitMZSUsai+KtYIfIi789Wu+my{n5n=-u,bPJEw^vmu3B(WRTQiUu?><jn0VNouDe58mKR2`uFkTx~ewm^uQF61tjsjSu]c5gEUu4Fua;b8MGTgdugpLfr?_=Juj<ca``<|sujOqy0]^`/uvbGQQ.YPZv5[(UW_5dEvW6FC_y.1|vZVMZ9mDEJvhEUhTmdk|vnc)}-uPkovpSso6k9.{v|[fL71>}(wC=J/(hkbawIY<f^?*C`w]lu}s6Ec}wam52dnxz?whBU:MKMqFx/hq>yTmJ{x5-]?Q3lgzx`WG<,BJ|9xbE-9SUm2?xg1f(b}pvRxgo,}zbT7oxhDw<sz>NGxko)Gu(/<2x{Aj`QnPV9y30|<?,lom"
open PySem PySem.W PyProof.Rows
set_option maxRecDepth 100000 in
set_option maxHeartbeats 0 in
theorem PySem.Challenge.cw_rentshare_k69_whole_purses_holds : PySem.Challenge.rw_rentshare_k69_whole_purses.Holds := by
 w_on; o_law; k_head; (case hw=>w_witness2)
 k_fill
 refine My.Qiz (l:=PySem.Challenge.rw_rentshare_k69_whole_purses) rfl rfl (λw h Y=>⟨PySem.W.km_in_of Y,PySem.W.km_tabs_of Y⟩) (λw=>by kernel_rfl) (λw=>by kernel_rfl) ?F
 case F =>
  intro w mg fa h KX G hmg;have S_law:L2.Src (L2.KOf KX) mg "law" "law" (My.top 78):=by walk_at "s"
  obtain ⟨C,HC,M___init__,M_people,M_rooms⟩:∃ C,L2.Zxv (L2.KOf KX) mg C/\L2.Kg (L2.KOf KX) C "__init__" "House.__init__" My.Dc/\L2.Kg (L2.KOf KX) C "people" "House.people" My.Ao/\L2.Kg (L2.KOf KX) C "rooms" "House.rooms" My.Qj9:=by
   dsimp only [L2.KOf];refine' ⟨_,⟨PySem.W.mg_of KX G ?aC,⟨?_,?_,?_,?_⟩,?_,?_,?_,?_,?_⟩,L2.Vy ?_ ?_ ?_ ?_ ?_,L2.Vy ?_ ?_ ?_ ?_ ?_,L2.Vy ?_ ?_ ?_ ?_ ?_⟩
   (case aC=>k_is); all_goals first | k_is | (dsimp only [L2.Jr]; k_is) | skip
  obtain ⟨au,CEven,b7,SWorst___init__,SWorst_through,SWorst_gain,SWorst_whole,SWorst_price,HEven,SEven___init__⟩:∃ au CEven,L2.Dh (L2.KOf KX) mg au "Worst"/\L2.Kg (L2.KOf KX) au "__init__" "Aim.__init__" My.Xe/\L2.Kg (L2.KOf KX) au "through" "Worst.through" My.Wm/\L2.Kg (L2.KOf KX) au "gain" "Worst.gain" My.Pi/\L2.Kg (L2.KOf KX) au "whole" "Worst.whole" My.Tc/\L2.Kg (L2.KOf KX) au "price" "Worst.price" My.Tl/\L2.Dh (L2.KOf KX) mg CEven "Even"/\L2.Kg (L2.KOf KX) CEven "__init__" "Aim.__init__" My.Xe:=by
   dsimp only [L2.KOf];refine' ⟨_,_,⟨PySem.W.mg_of KX G ?aC0,⟨?_,?_,?_,?_⟩,?_,?_,?_,?_⟩,L2.Vy ?_ ?_ ?_ ?_ ?_,L2.Vy ?_ ?_ ?_ ?_ ?_,L2.Vy ?_ ?_ ?_ ?_ ?_,L2.Vy ?_ ?_ ?_ ?_ ?_,L2.Vy ?_ ?_ ?_ ?_ ?_,⟨PySem.W.mg_of KX G ?aC1,⟨?_,?_,?_,?_⟩,?_,?_,?_,?_⟩,L2.Vy ?_ ?_ ?_ ?_ ?_⟩
   (case aC0=>k_is); (case aC1=>k_is); all_goals first | k_is | (dsimp only [L2.Jr]; k_is) | skip
  have T:My.Txt mg:=by constructor <;> first | (refine' PySem.W.mg_none_of KX G ?_; k_is) | (refine' ⟨_,PySem.W.mg_of KX G ?z,?y⟩; (case z=>k_is); exact ⟨_,rfl⟩)
  refine L2.Qtq S_law (λ_ _ _ _ _ _ _=>rfl) (λbase hB=>?_) hmg;have BA3:=hB _ mem_cons_self;have BA2:=hB _ (mem_cons_of_mem _ mem_cons_self);have BA1:=hB _ (mem_cons_of_mem _ (mem_cons_of_mem _ mem_cons_self));obtain ⟨cL,S_loose_ones⟩:∃ c,L2.SrcL (L2.KOf KX) mg "loose_ones" "loose_ones" My.Uw c _:=by
   dsimp only [L2.KOf];refine' L2.Cc "loose_ones" "loose_ones" My.Uw (L2.Co BA3) KX G ?a ?l ?c ?k ?hd
   (case a=>k_is); (case l=>k_is); (case c=>k_is); (case k=>k_is); (case hd=>kernel_rfl)
  obtain ⟨cR,S_best_room⟩:∃ c,L2.SrcL (L2.KOf KX) mg "best_room" "best_room" My.Vd c _:=by
   dsimp only [L2.KOf];refine' L2.Cc "best_room" "best_room" My.Vd (L2.Co BA2) KX G ?a1 ?l1 ?c1 ?k1 ?hd1
   (case a1=>k_is); (case l1=>k_is); (case c1=>k_is); (case k1=>k_is); (case hd1=>kernel_rfl)
  obtain ⟨cB,S_bring_in⟩:∃ c,L2.SrcL (L2.KOf KX) mg "bring_in" "bring_in" My.Ws c _:=by
   dsimp only [L2.KOf];refine' L2.Cc "bring_in" "bring_in" My.Ws (L2.Co BA1) KX G ?a2 ?l2 ?c2 ?k2 ?hd2
   (case a2=>k_is); (case l2=>k_is); (case c2=>k_is); (case k2=>k_is); (case hd2=>kernel_rfl)
  obtain ⟨eM,HE⟩:∃ eM,L2.Zxw (L2.KOf KX) mg eM:=by
   dsimp only [L2.KOf];refine' ⟨_,⟨PySem.W.mg_of KX G ?a1,L2.Qm3 ?x1 ?x2 ?x3 ?x4 ?x5 ?x6 ?x7 ?x8 ?x9 ?x10⟩⟩
   (case a1=>k_is)
   (case x1=>k_exc); (case x2=>k_is); (case x3=>k_is); (case x4=>k_is); (case x5=>k_is); (case x6=>k_is); (case x7=>k_is); (case x8=>k_is); (case x9=>kts_exm); (case x10=>kit_is)
  exact My.Zzq (P:=My.Pg) (w:=w) (K:=L2.KOf KX) (base:=base) ⟨T,HC,M___init__,M_people,M_rooms,by walk_at "s",by walk_at "s",by walk_at "s",S_bring_in,BA1,by walk_at "s",by walk_at "s",by walk_at "s",SWorst_through,SWorst_gain,b7,S_best_room,BA2,by walk_at "s",by walk_at "s",by walk_at "s",by walk_at "s",by walk_at "s",by walk_at "s",by walk_at "s",by walk_at "s",by walk_at "s",by walk_at "s",by walk_at "s",by walk_at "s",SWorst_whole,SWorst_price,by walk_at "s",by walk_at "s",by walk_at "s",by walk_at "s",by walk_at "s",by walk_at "s",by walk_at "s",by walk_at "s",by walk_at "s",by walk_at "s",by walk_at "s",S_loose_ones,BA3,by walk_at "s",by decide,by walk_at "s",by walk_at "s",by walk_at "s",by walk_at "s",by decide,by decide,HEven,by walk_at "s",by walk_at "s",by walk_at "s",by walk_at "s",by walk_at "s",HE,by walk_at "s",by walk_at "s",by walk_at "s",by walk_at "s",by walk_at "s",by walk_at "s",by walk_at "s",by walk_at "s",by walk_at "s",by walk_at "s",by walk_at "s",by walk_at "s",by walk_at "s",by walk_at "s",by walk_at "s",by walk_at "s",by walk_at "s",S_law,SWorst___init__,SEven___init__⟩
#print axioms PySem.Challenge.cw_rentshare_k69_whole_purses_holds