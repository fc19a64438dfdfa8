import PyProof.Rows.All
import Wide.All
import OpenK.AllK
import Wide.FinOn
import Lean
import PyProof.EqAt
import PyProof.EqKinds
import PyProof.TupleCall
import PySem.Challenge.RW_rentshare_k68_within_any_way
set_option Elab.async false
set_option linter.all false
set_option maxHeartbeats 4000000
set_option maxRecDepth 100000
set_option compiler.extract_closed false
namespace Zx
open Lean Parser Tactic
section
variable {α β γ δ ε ζ η θ:Sort _}{A B C D E F G H I J K L M:Prop}
theorem i2 {p:α->β->Prop}(a b)(x:p a b):∃ a b,p a b:=⟨a,b,x⟩
theorem e2 {p:α->β->Prop}(x:∃ a b,p a b)(k:∀ a b,p a b->G):G:=x.elim λa x=>x.elim λb x=>k a b x
theorem i3 {p:α->β->γ->Prop}(a b c)(x:p a b c):∃ a b c,p a b c:=⟨a,b,c,x⟩
theorem e3 {p:α->β->γ->Prop}(x:∃ a b c,p a b c)(k:∀ a b c,p a b c->G):G:=x.elim λa x=>x.elim λb x=>x.elim λc x=>k a b c x
theorem i4 {p:α->β->γ->δ->Prop}(a b c d)(x:p a b c d):∃ a b c d,p a b c d:=⟨a,b,c,d,x⟩
theorem e4 {p:α->β->γ->δ->Prop}(x:∃ a b c d,p a b c d)(k:∀ a b c d,p a b c d->G):G:=x.elim λa x=>x.elim λb x=>x.elim λc x=>x.elim λd x=>k a b c d x
theorem i5 {p:α->β->γ->δ->ε->Prop}(a b c d e)(x:p a b c d e):∃ a b c d e,p a b c d e:=⟨a,b,c,d,e,x⟩
theorem e5 {p:α->β->γ->δ->ε->Prop}(x:∃ a b c d e,p a b c d e)(k:∀ a b c d e,p a b c d e->G):G:=x.elim λa x=>x.elim λb x=>x.elim λc x=>x.elim λd x=>x.elim λe x=>k a b c d e x
theorem i6 {p:α->β->γ->δ->ε->ζ->Prop}(a b c d e f)(x:p a b c d e f):∃ a b c d e f,p a b c d e f:=⟨a,b,c,d,e,f,x⟩
theorem e6 {p:α->β->γ->δ->ε->ζ->Prop}(x:∃ a b c d e f,p a b c d e f)(k:∀ a b c d e f,p a b c d e f->G):G:=x.elim λa x=>x.elim λb x=>x.elim λc x=>x.elim λd x=>x.elim λe x=>x.elim λf x=>k a b c d e f x
theorem i7 {p:α->β->γ->δ->ε->ζ->η->Prop}(a b c d e f g)(x:p a b c d e f g):∃ a b c d e f g,p a b c d e f g:=⟨a,b,c,d,e,f,g,x⟩
theorem e7 {p:α->β->γ->δ->ε->ζ->η->Prop}(x:∃ a b c d e f g,p a b c d e f g)(k:∀ a b c d e f g,p a b c d e f g->G):G:=x.elim λa x=>x.elim λb x=>x.elim λc x=>x.elim λd x=>x.elim λe x=>x.elim λf x=>x.elim λg x=>k a b c d e f g x
theorem i8 {p:α->β->γ->δ->ε->ζ->η->θ->Prop}(a b c d e f g h)(x:p a b c d e f g h):∃ a b c d e f g h,p a b c d e f g h:=⟨a,b,c,d,e,f,g,h,x⟩
theorem e8 {p:α->β->γ->δ->ε->ζ->η->θ->Prop}(x:∃ a b c d e f g h,p a b c d e f g h)(k:∀ a b c d e f g h,p a b c d e f g h->G):G:=x.elim λa x=>x.elim λb x=>x.elim λc x=>x.elim λd x=>x.elim λe x=>x.elim λf x=>x.elim λg x=>x.elim λh x=>k a b c d e f g h x
theorem a2 (x:A∧B)(k:A->B->G):G:=k x.1 x.2
theorem a3 (x:A∧B∧C)(k:A->B->C->G):G:=k x.1 x.2.1 x.2.2
theorem a4 (x:A∧B∧C∧D)(k:A->B->C->D->G):G:=k x.1 x.2.1 x.2.2.1 x.2.2.2
theorem a5 (x:A∧B∧C∧D∧E)(k:A->B->C->D->E->G):G:=k x.1 x.2.1 x.2.2.1 x.2.2.2.1 x.2.2.2.2
theorem a6 (x:A∧B∧C∧D∧E∧F)(k:A->B->C->D->E->F->G):G:=k x.1 x.2.1 x.2.2.1 x.2.2.2.1 x.2.2.2.2.1 x.2.2.2.2.2
theorem a7 (x:A∧B∧C∧D∧E∧F∧H)(k:A->B->C->D->E->F->H->G):G:=k x.1 x.2.1 x.2.2.1 x.2.2.2.1 x.2.2.2.2.1 x.2.2.2.2.2.1 x.2.2.2.2.2.2
theorem a8 (x:A∧B∧C∧D∧E∧F∧H∧I)(k:A->B->C->D->E->F->H->I->G):G:=k x.1 x.2.1 x.2.2.1 x.2.2.2.1 x.2.2.2.2.1 x.2.2.2.2.2.1 x.2.2.2.2.2.2.1 x.2.2.2.2.2.2.2
theorem a9 (x:A∧B∧C∧D∧E∧F∧H∧I∧J)(k:A->B->C->D->E->F->H->I->J->G):G:=k x.1 x.2.1 x.2.2.1 x.2.2.2.1 x.2.2.2.2.1 x.2.2.2.2.2.1 x.2.2.2.2.2.2.1 x.2.2.2.2.2.2.2.1 x.2.2.2.2.2.2.2.2
theorem a10 (x:A∧B∧C∧D∧E∧F∧H∧I∧J∧K)(k:A->B->C->D->E->F->H->I->J->K->G):G:=k x.1 x.2.1 x.2.2.1 x.2.2.2.1 x.2.2.2.2.1 x.2.2.2.2.2.1 x.2.2.2.2.2.2.1 x.2.2.2.2.2.2.2.1 x.2.2.2.2.2.2.2.2.1 x.2.2.2.2.2.2.2.2.2
theorem a11 (x:A∧B∧C∧D∧E∧F∧H∧I∧J∧K∧L)(k:A->B->C->D->E->F->H->I->J->K->L->G):G:=k x.1 x.2.1 x.2.2.1 x.2.2.2.1 x.2.2.2.2.1 x.2.2.2.2.2.1 x.2.2.2.2.2.2.1 x.2.2.2.2.2.2.2.1 x.2.2.2.2.2.2.2.2.1 x.2.2.2.2.2.2.2.2.2.1 x.2.2.2.2.2.2.2.2.2.2
theorem a12 (x:A∧B∧C∧D∧E∧F∧H∧I∧J∧K∧L∧M)(k:A->B->C->D->E->F->H->I->J->K->L->M->G):G:=k x.1 x.2.1 x.2.2.1 x.2.2.2.1 x.2.2.2.2.1 x.2.2.2.2.2.1 x.2.2.2.2.2.2.1 x.2.2.2.2.2.2.2.1 x.2.2.2.2.2.2.2.2.1 x.2.2.2.2.2.2.2.2.2.1 x.2.2.2.2.2.2.2.2.2.2.1 x.2.2.2.2.2.2.2.2.2.2.2
end
abbrev S:=Syntax
abbrev L:=List S
abbrev T:=TSyntax `tactic
abbrev M:=MacroM T
def seq (a b:T):M:=`(tactic| ($a:tactic;$b:tactic))
def fst (a b:T):M:=`(tactic| first|($a:tactic)|($b:tactic))
def thn (a b:T):M:=`(tactic| $a<;>$b)
def rf (f:String) (e:S) (xs:L):M :=
 let xs:Array (TSyntax `term):=⟨xs.map (⟨·⟩)⟩
 `(tactic| refine $(mkIdent (.mkStr `Zx f)) $(⟨e⟩) λ$xs*=>?_)
def clr (e:S):M:=if e.isIdent then `(tactic| try clear $(⟨e⟩):ident) else `(tactic| skip)
def rc (e p:S):M:=`(tactic| rcases $(⟨e⟩):term with $(⟨p⟩):rcasesPatLo)
def z (j:Nat):S:=mkIdent (.mkSimple s!"z'{j}")
def tup (a:L):S:=mkNode ``rcasesPatLo #[mkNode ``rcasesPatMed #[mkNullNode #[mkNode ``rcasesPat.tuple #[mkAtom "⟨",Syntax.mkSep ⟨a⟩ (mkAtom ","),mkAtom "⟩"]]],mkNullNode]
def nm (p:S):Option S :=
 let s:=p[0][0][0]
 if p[0][0].getNumArgs !=1 then none
 else if s.isOfKind ``rcasesPat.one&&s[0].getId !=`rfl then some s[0]
 else if s.isOfKind ``rcasesPat.ignore then some (mkHole s) else none
def fin:Nat->L->T->M
|_,[],t=>pure t
|j,p::ps,t=>if (nm p).isSome then fin (j + 1) ps t else do fin (j + 1) ps (← thn t (← rc (z j) p))
def nms:Nat->L->L
|_,[]=>[]
|j,p::ps=>(nm p).getD (z j)::nms (j + 1) ps
def cut:Nat->L->L
|0,ps=>if ps.length > 1 then [tup ps] else ps
|_,[]=>[]
|n + 1,p::ps=>p::cut n ps
def ands (x:S) (r:L):M:=do
 let h:=cut 11 r
 let t ← seq (← rf s!"a{h.length}" x (nms 0 h)) (← clr x)
 fst (← fin 0 h t) (← rc x (tup r))
def mor (e:S) (ps:L):M:=do
 let a ← ands e ps
 let f (a:T) (k:Nat):M:=do
  let t ← seq (← rf s!"e{k}" e (nms 0 (ps.take k)++[z 95])) (← clr e)
  fst (← seq t (← ands (z 95) (ps.drop k))) a
 f (← f (← f (← f (← f a 2) 3) 4) 5) 6
def ex (e:S) (ps:L):Nat->M
|0|1=>ands e ps
|k + 1=>do
  let r:=ps.drop (k + 1)
  let y:=match r with|[p]=>(nm p).getD (z 99)|_=>z 99
  let t ← seq (← rf s!"e{k + 1}" e (nms 0 (ps.take (k + 1))++[y])) (← clr e)
  let t ← match r with|[p]=>if (nm p).isSome then pure t else seq t (← rc y p)|_=>seq t (← if k==7 then mor y r else ands y r)
  fst t (← ex e ps k)
def obt (e:S) (ps:L):M:=do
 let m:=min 8 (min (ps.length - 1) (ps.takeWhile λp=>(nm p).isSome).length)
 if e.isIdent&&ps.any λp=>p[0][0][0][0].getId==e.getId then
  seq (← `(tactic| have $(⟨z 98⟩):ident:=$(⟨e⟩))) (← seq (← clr e) (← ex (z 98) ps m))
 else ex e ps m
def ob (s:S):M:=do
 let p:=s[1][0][0]
 if s[2].getNumArgs !=0||s[3].getNumArgs !=2||p.getNumArgs !=1||!p[0].isOfKind ``rcasesPat.tuple||p[0][1].getNumArgs < 5 then Macro.throwUnsupported
 obt s[3][1][0] p[0][1].getSepArgs.toList
def par (s:S) (r:L):MacroM S:=do
 match r with
|[x]=>pure x
|r=>do pure (← `(($(⟨s[1].setArg 1 (Syntax.mkSep ⟨r⟩ (mkAtom ","))⟩)))).raw
def nat (s:S) (r:L):M:=do return ⟨s.setArg 1 (← par s r)⟩
def st (x:S):M:=`(tactic| refine (⟨$(⟨x⟩),?_⟩))
def wit (ws:L):M:=do
 let i:=mkIdent (.mkStr `Zx s!"i{ws.length}")
 let a:Array (TSyntax `term):=⟨ws.map (⟨·⟩)⟩
 if ws.any (·.isOfKind ``Term.hole) then `(tactic| apply ($i $a*)) else `(tactic| refine $i $a* ?_)
def isr (x:S):Bool:=x.isIdent&&x.getId==`rfl
def run (s:S):Nat->L->M
|0,es=>nat s es
|_,[]=>Macro.throwUnsupported
|L + 1,e::es =>
  if L==0 then nat s (e::es) else do
   let a ← seq (← wit (e::es.take L)) (← nat s (es.drop L))
   fst a (← seq (← st e) (← run s L es))
def sec (s:S) (es:L):M :=
 let L:=(es.takeWhile (!isr ·)).length
 if L==es.length||L > 8 then nat s es else run s L es
def cts (s:S) (es:L):Nat->M
|0|1=>nat s es
|k + 1=>do fst (← seq (← wit (es.take (k + 1))) (← nat s (es.drop (k + 1)))) (← cts s es k)
def top (s:S):Nat->L->M
|0,es=>nat s es
|n + 1,es=>do
  let k:=(es.takeWhile (!isr ·)).length
  let c ← cts s es (min 8 (es.length - 1))
  if k + 1 < es.length then
   if k==0 then fst (← seq (← st es.head!) (← sec s es.tail)) c
   else if k==1 then fst (← seq (← `(tactic| refine (⟨$(⟨es.head!⟩),rfl,?_⟩))) (← top s n (es.drop 2))) c
   else if k > 8 then fst (← seq (← wit (es.take 8)) (← top s n (es.drop 8))) c
   else if k ≤ 8 then fst (← seq (← wit (es.take k)) (← seq (← st es[k]!) (← sec s (es.drop (k + 1))))) c
   else return c
  else return c
def ct (s:S):M:=do
 if !s[1].isOfKind ``Term.anonymousCtor||s[1][1].getNumArgs < 7 then Macro.throwUnsupported
 let es:=s[1][1].getSepArgs.toList
 if es.dropLast.any λx=>x.isOfKind ``Term.syntheticHole then Macro.throwUnsupported
 top s 4 es
def big (p:S):Bool:=p.isOfKind ``rcasesPat.tuple&&p[1].getNumArgs > 4
def ri (s:S):L->T->M
|[],t=>pure t
|p::ps,t=>do
  let u ← if big p[0] then seq (← `(tactic| intro $(⟨z 97⟩):ident)) (← obt (z 97) p[0][1].getSepArgs.toList) else pure ⟨s.setArg 1 (mkNullNode #[p])⟩
  ri s ps (← thn t u)
def alt (c:T) (x:S):M:=do
 if big x then seq c (← obt (z 96) x[1].getSepArgs.toList)
 else if x.isOfKind ``rcasesPat.one&&x[0].getId !=`rfl then pure c
 else seq c (← `(tactic| rcases $(⟨z 96⟩):term with $(⟨x⟩):rcasesPat))
def rcs (s:S):M:=do
 let a:=s[2][1][0][0].getSepArgs
 if s[2].getNumArgs !=2||s[1].getNumArgs !=1||a.size !=2||!a.any big then Macro.throwUnsupported
 let e:=s[1][0][1]
 let n (x:S):S:=if x.isOfKind ``rcasesPat.one&&x[0].getId !=`rfl then x[0] else z 96
 if e.isIdent&&a.any λx=>x[0].getId==e.getId then Macro.throwUnsupported
 let c ← clr e
 `(tactic| (refine Or.elim $(⟨e⟩) (λ$(⟨n a[0]!⟩)=>?_) (λ$(⟨n a[1]!⟩)=>?_);rotate_left;$(← alt c a[1]!):tactic;rotate_right;$(← alt c a[0]!):tactic))
def dec (c:Char):Nat:=let n:=c.toNat;if n<64 then n-40 else if n<92 then n-41 else n-42
def tw:List Char->Nat->Nat->Array S->MacroM (Array S)
|[],_,_,a=>pure a
|c::cs,9,n,a=>do tw cs 0 0 (a.push (← `(command| theorem $(mkIdent (.mkStr `PySem.W.Fast s!"tw{n*85 + dec c}")) :True:=⟨⟩)))
|c::cs,j,n,a=>tw cs (j + 1) (n*85 + dec c) a
end Zx
local macro_rules (kind:=Lean.Parser.Tactic.obtain) | s => Zx.ob s
local macro_rules (kind:=Lean.Parser.Tactic.refine) | s => Zx.ct s
local macro_rules (kind:=Lean.Parser.Tactic.exact) | s => Zx.ct s
local macro_rules (kind:=Lean.Parser.Tactic.rintro) | s => do
  if s[1].getArgs.any fun p => Zx.big p[0] then Zx.ri s s[1].getArgs.toList (← `(tactic| skip)) else Lean.Macro.throwUnsupported
local macro_rules (kind:=Lean.Parser.Tactic.rcases) | s => Zx.rcs s
local macro_rules (kind:=Lean.Parser.Command.print) | s => match s[1].isStrLit? with | some t => return Lean.mkNullNode (← Zx.tw t.toList 0 0 #[]) | none => Lean.Macro.throwUnsupported
local macro_rules | `(tactic| lia) => `(tactic| first | (law_clear;law_purse 4000=>lia -verbose) | omega)
abbrev G3:=PySem.Value
abbrev G4:=PySem.Shared
abbrev G5:=PySem.Addr
abbrev G6:=PySem.SetTable
abbrev G7:=PySem.Around
abbrev G8:=PySem.Program
abbrev G9:=List (G5 × PySem.Obj)
abbrev J7:=List (List Int)
abbrev J8:=List (List Nat)
abbrev K1:=List (Option Int)
abbrev K3:=List (Option Nat)
abbrev K4:=PySem.Str->Option G3
abbrev K5:=G3->G4->Prop
abbrev K6:=List Int
abbrev K7:=List Nat
abbrev K8:=List G3
abbrev K9:=List G5
abbrev M4:=Option G3
abbrev M5:=Option Int
abbrev M6:=List PySem.Str
abbrev M7:=List PySem.Expr
abbrev M8:=Option G5
def M9:=@PySem.wpAny_bind
abbrev N5:=PySem.W.Frag
def N6:=@PySem.wpAny_pure
def N7:=@List.getElem_mem
def N8:=@List.getElem?_eq_some_iff
def O1:=@List.mem_range
def O3:=@PySem.Heap.get?_push_of_some
def O5:=@PySem.Heap.lt_size
def O6:=@List.mem_append
def O7:=@Nat.le_refl
def O8:=@List.mem_map
def O9:=@Nat.ne_of_lt
def P0:=@decide_eq_true
def Q0:=@Int.le_refl
def Q5:=@PySem.Heap.get?_push_size
def Q6:=@of_decide_eq_true
def Q7:=@List.mem_cons_self
def Q8:=@List.mem_cons_of_mem
def Q9:=@List.mem_append_right
def R3:=@List.mem_cons
def R4:=@Nat.le_trans
def R5:=@Option.some.inj
def R6:=@Classical.byContradiction
def R7:=@List.getElem?_eq_getElem
def R8:=@List.mem_append_left
def R9:=@List.map_congr_left
def S8:=@Bool.false_ne_true
def S9:=@PySem.wpAny_mono
def T3:=@Nat.zero_le
def T5:=@decide_eq_false
def T6:=@Nat.lt_of_lt_of_le
def T7:=@Int.le_trans
def T8:=@List.mem_of_getElem?
def T9:=@PySem.Heap.SameBut.update
def U0:=@Int.mul_le_mul_of_nonneg_left
def U3:=@List.mem_filter
def U5:=@PySem.wpAny_holding
def U6:=@if_neg
def U7:=@List.ext_getElem
def U8:=@Int.mul_le_mul_of_nonneg_right
def U9:=@Nat.lt_succ_self
def V0:=@Int.emod_nonneg
def V1:=@Nat.lt_irrefl
def V2:=@PySem.wpAny_newObj_type
def V3:=@PySem.wpAny_Call_Name_kw
def V4:=@Int.le_of_lt
def V5:=@Nat.le_of_lt
def V6:=@Nat.lt_succ_of_lt
def V7:=@if_pos
def V8:=@Int.emod_lt_of_pos
def V9:=@PySem.W.kia_one
def W2:=@PySem.codeAny_builtin
def W3:=@List.count_pos_iff
def W4:=@PySem.wpAny_setState_of
def W5:=@PySem.wpAny_truthy_bool
def W6:=@Bool.and_eq_true_iff
def W7:=@PySem.wpAny_of_eq
def W8:=@congrArg
def W9:=@PyProof.Rows.callWith_type1
def X3:=@PySem.Walks.list
def X4:=@List.mem_iff_getElem
def X5:=@PySem.plainId_quiet
def X6:=@PySem.wpAny_pyIter_list
def X7:=@PySem.Calls.spliced_nil
def X8:=@PySem.Calls.spliced_cons
def Z0:=@PySem.wpAny_call_entry
def Z1:=@PySem.Obj.data_mapFields
def Z2:=@PySem.wpAny_passesOwn
def Z3:=@List.mem_filterMap
def Z4:=@PySem.codeAny_mono
def Z5:=@Nat.le_succ
def Z6:=@List.length_filter_le
def Z7:=@PyProof.Rows.get?_update_seq
def Z8:=@List.length_pos_of_mem
def Z9:=@PySem.wpAny_execs_nil
def A0a:=@PySem.wpAny_standAt
def A0b:=@Nat.ne_of_gt
def A0c:=@List.all_eq_true
def A0d:=@Nat.not_lt
def A0e:=@PySem.wpAny_tryCatch
def A0f:=@List.mem_or_eq_of_mem_set
def A0g:=@PySem.wpAny_askSetting
def A0h:=@List.length_eq_zero_iff
def A0i:=@PySem.wpAny_setField
def A0j:=@PyProof.Rows.listUpdate_at
def A0k:=@beq_eq_false_iff_ne
def A0l:=@Option.isSome_iff_exists
def A0m:=@PySem.mem_of_lookup
def A0n:=@PySem.wpAny_callSpecial?_slot
def A0o:=@PySem.wpAny_newList
def A0p:=@PySem.wpAny_seqItems
def A0q:=@PySem.wpAny_attempt
def A0r:=@List.idxOf_lt_length_iff
def A0s:=@Int.mul_nonneg
def A0t:=@Int.le_of_mul_le_mul_left
def A0u:=@Int.eq_ofNat_of_zero_le
def A0v:=@List.filter_congr
def A0w:=@PySem.F.plainAttrs_list
def A0x:=@PySem.W.hideAll_get
def A0y:=@PySem.W.callWith_K
def A0z:=@Nat.lt_of_le_of_lt
def A1a:=@PySem.F.plain_max_loop
def A1b:=@Nat.not_lt_zero
def A1c:=@Int.eq_of_mul_eq_mul_left
def A1d:=@List.pairwise_iff_getElem
def A1e:=@PySem.Heap.get?_update_self
def A1f:=@PySem.Obj.isFreed_of_fields
def A1g:=@PySem.PassesOwn.never
def A1h:=@List.getElem?_eq_none_iff
def A1i:=@PySem.F.entry_max_loop
def A1j:=@Int.mul_lt_mul_of_pos_left
def A1k:=@Int.le_of_mul_le_mul_right
open List
namespace L2
open PySem PySem.Spec PyProof.Rows
variable {o:Obj} {a b C:G5} {h base:Heap} {w:World} {P:G8} {t' i k:Nat} {x:Str} {Q:Unit->G4->Prop} {u:G3} {E:K5} {A:G7} {M:Model} {e c tg:Expr} {s:G4} {pos:Pos} {dz:G9} {K:N5} {body:List Stmt} {f:G3->G3->Sem G3} {op:CmpOp} {us:K8} {pl:Sem Bool} {kw:List (Str × G3)}
abbrev Key:=Sum Int Str
def Qs7:Key->G3->Bool
 | .inl k,v=>Value.isInt k v
 | .inr x,v=>Value.isStrOf x v
def Zxj (w:World):Key->Int
 | .inl k=>hashInt k
 | .inr x=>hashStr w x
theorem Xw:∀ {k:Key} {v:G3},Qs7 k v=true->(∃ i t,k=Sum.inl i/\v=Value.int i t)\/(∃ x t,k=Sum.inr x/\v=Value.str x t)
 | .inl i,v,h=>by obtain ⟨t,e⟩:=Value.isInt_shape (k:=i) (v:=v) h;exact .inl ⟨i,t,rfl,e⟩
 | .inr x,v,h=>by obtain ⟨t,e⟩:=Value.isStrOf_shape (x:=x) (v:=v) h;exact .inr ⟨x,t,rfl,e⟩
def Qe2 (a b:Int):decide ((Sum.inl a:Key)=Sum.inl b)=(a == b):=by
 by_cases e:a=b
 ·subst e; simp
 ·have h:¬ (Sum.inl a:Key)=Sum.inl b:=λq=>e (Sum.inl.inj q);rw [decide_eq_false h];exact (A0k.mpr e).symm
def Qak (a b:Str):decide ((Sum.inr a:Key)=Sum.inr b)=decide (a=b):=by
 by_cases e:a=b
 ·subst e; simp
 ·have h:¬ (Sum.inr a:Key)=Sum.inr b:=λq=>e (Sum.inr.inj q);rw [decide_eq_false h,decide_eq_false e]
def Qe1 (a:Int) (b:Str):decide ((Sum.inl a:Key)=Sum.inr b)=false:=T5 (λq=>nomatch q)
def Qe0 (a:Str) (b:Int):decide ((Sum.inr a:Key)=Sum.inl b)=false:=T5 (λq=>nomatch q)
def Qj0 (prog:G8) (w:World):PySem.KeyKind prog w Key where
 is:=Qs7
 hash:=Zxj w
 inj:=λv a b ha hb=>by
  rcases Xw ha with ⟨i,t,rfl,rfl⟩ | ⟨x,t,rfl,rfl⟩
  ·rcases Xw hb with ⟨j,u,rfl,e⟩ | ⟨y,u,rfl,e⟩
   ·injection e with e1 _; rw [e1]
   ·exact nomatch e
  ·rcases Xw hb with ⟨j,u,rfl,e⟩ | ⟨y,u,rfl,e⟩
   ·exact nomatch e
   ·injection e with e1 _; rw [e1]
 byValue:=λk v h=>by rcases Xw h with ⟨i,t,rfl,rfl⟩ | ⟨x,t,rfl,rfl⟩ <;> rfl
 pyHash:=λhv h=>by
  rcases Xw hv with ⟨i,t,rfl,rfl⟩ | ⟨x,t,rfl,rfl⟩
  ·exact wpAny_pyHash_int h
  ·exact wpAny_pyHash_str h
 eqBool:=λhu hv h=>by
  rcases Xw hu with ⟨i,t,rfl,rfl⟩ | ⟨x,t,rfl,rfl⟩
  ·rcases Xw hv with ⟨j,u,rfl,rfl⟩ | ⟨y,u,rfl,rfl⟩
   ·rw [Qe2] at h; exact wpAny_eqBool_int h
   ·rw [Qe1] at h; exact SeqAt.EqAt.int_str i t y u _ _ _ _ h
  ·rcases Xw hv with ⟨j,u,rfl,rfl⟩ | ⟨y,u,rfl,rfl⟩
   ·rw [Qe0] at h; exact SeqAt.EqAt.str_int x t j u _ _ _ _ h
   ·rw [Qak] at h; exact wpAny_eqBool_str h
 «strs» := λk x t v h=>by
  rcases Xw h with ⟨i,u,rfl,e⟩ | ⟨y,u,rfl,e⟩
  ·exact nomatch e
  ·injection e with e1 _
   subst e1;cases v <;> rfl
inductive V where
 | non | bl (b:Bool) | int (i:Int) | str (x:Str) | byt (b:Array UInt8) | flt (b:UInt64) | ref (a:G5) | ty (n:String)
 deriving DecidableEq
variable {v:V} {vs:List V}
def Ys:V->G3->Prop
 | .non,u=>u=Value.none
 | .bl b,u=>u=Value.bool b
 | .int i,u => ∃ t,u=Value.int i t
 | .str x,u => ∃ t,u=Value.str x t
 | .byt b,u => ∃ t,u=Value.bytes b t
 | .flt b,u => ∃ t,u=Value.float b t
 | .ref a,u=>u=Value.ref a
 | .ty n,u=>u=Value.type n
abbrev Xq:List V->List G3->Prop:=Paired Ys
def Xq.length {xs:List V} {us:K8} (r:Xq xs us):xs.length=us.length:=Paired.length r
theorem Xq.get:∀ {xs:List V} {us:K8} {i:Nat} {x:V},Xq xs us->xs[i]? = some x->∃ u,us[i]? = some u/\Ys x u
 | _,_,_,_,.nil,e=>by simp at e
 | _,_,0,_,.cons r _,e=>by simp at e; subst e; exact ⟨_,rfl,r⟩
 | _,_,i + 1,x,.cons _ t,e=>by obtain ⟨u,h1,h2⟩:=Xq.get (i:=i) (x:=x) t (by simpa using e);exact ⟨u,by simpa using h1,h2⟩
theorem Xq.set {x:V} {u:G3} (r:Ys x u):∀ {xs:List V} {us:K8} (i:Nat),Xq xs us->Xq (xs.set i x) (us.set i u)
 | _,_,_,.nil=>.nil
 | _,_,0,.cons _ t=>.cons r t
 | _,_,i + 1,.cons q t=>.cons q (Xq.set r i t)
theorem Xq.append:∀ {xs ys:List V} {us ws:K8},Xq xs us->Xq ys ws->Xq (xs ++ ys) (us ++ ws)
 | _,_,_,_,.nil,s=>s
 | _,_,_,_,.cons r t,s=>.cons r (Xq.append t s)
theorem Xq.take:∀ {xs:List V} {us:K8} (n:Nat),Xq xs us->Xq (xs.take n) (us.take n)
 | _,_,0,_=>.nil
 | _,_,_ + 1,.nil=>.nil
 | _,_,n + 1,.cons r t=>.cons r (Xq.take n t)
theorem Xq.drop:∀ {xs:List V} {us:K8} (n:Nat),Xq xs us->Xq (xs.drop n) (us.drop n)
 | _,_,0,r=>r
 | _,_,_ + 1,.nil=>.nil
 | _,_,n + 1,.cons _ t=>Xq.drop n t
def Qg6:Option V->Option G3->Prop
 | some v,some u=>Ys v u
 | none,none=>True
 | _,_=>False
def KV {κ:Type}:List (κ × V)->List (κ × G3)->Prop:=Paired λ(p:κ × V) (q:κ × G3)=>p.1=q.1/\Ys p.2 q.2
def kV:Key->V
 | .inl i=>.int i
 | .inr x=>.str x
inductive HO where
 | lst (xs:List V)
 | tup (xs:List V)
 | dK (kvs:List (Key × V)) | dT (kvs:List (List Key × V))
 | set (S:Int->Bool) (n:Nat)
 | ins (C dx:G5) (fs:List (Str × V))
 | own (x:G5)
 | xd (fs:List (Str × V))
 | met (f x:G5)
 | rng (lo hi:Int)
 | frz (o:Obj) (u:HO)
 | tbl (ps:Array G3)
 | ext (φ:Heap->Prop)
abbrev Hp:=G5->Option HO
variable {H:Hp}
def upd (H:Hp) (a:G5) (o:HO):Hp:=λb=>if b=a then some o else H b
def Qy {o:HO}:upd H a o a=some o:=by unfold upd; rw [if_pos rfl]
def Qv {o:HO} (h:b≠a):upd H a o b=H b:=by unfold upd; rw [if_neg h]
def Qdk {o u:HO}:upd (upd H a o) a u=upd H a u:=by funext b; unfold upd; split <;> rfl
def Jv {o u:HO} (h:H a=some o) (h':H b=some u) (d:o≠u):a≠b:=by intro e; subst e; rw [h] at h'; exact d (R5 h')
def Qj {o:HO} (h:H a=some o) (h':H b=none):a≠b:=by intro e; subst e; rw [h] at h'; cases h'
section
variable (P:G8) (w:World)
def Jp (H:Hp) (h:Heap) (a:G5):HO->Prop
 | .lst xs=>xs.length<=sizeLine/\∃ (its:K8) (n:Nat),Xq xs its/\h.get? a=some { cls:=.type "list",data:=.seq its.toArray n }
 | .tup xs=>xs.length<=sizeLine/\∃ its:K8,Xq xs its/\IsTup h a its.toArray
 | .dK kvs=>kvs.length<=sizeLine/\(a == sysModules)=false/\∃ vs,KV kvs vs/\h.DictOf (Qj0 P w) a vs
 | .dT kvs=>kvs.length<=sizeLine/\(a == sysModules)=false/\∃ xs:List (List Key × G5 × G3),
   Paired (λ(p:List Key × V) (q:List Key × G5 × G3)=>p.1=q.1/\H q.2.1=some (.tup (p.1.map kV))/\Ys p.2 q.2.2) kvs xs /\
   ∃ o es ep,h.get? a=some o/\o.ExactDict/\o.data=.dict es ep/\es.toList=xs.map (entryOfKey (tupleKind (Qj0 P w)))/\(xs.map (·.1)).Nodup
 | .set S n=>h.SetOf (intKind P w) a S n
 | .ins C dx fs=>H dx=some (.own a)/\fs.length<=1000/\dx≠a/\h.get? a=some (PySem.W.instObj C dx) /\
   ∃ mA,h.Ns1 dx mA/\(∀ f,Qg6 (fs.lookup f) (mA f))/\PySem.Within mA (fs.map (·.1))
 | .own _ => ∃ o,h.get? a=some o
 | .xd fs => ∃ mA,h.Ns1 a mA/\∀ f,Qg6 (fs.lookup f) (mA f)
 | .rng lo hi => ∃ t u v,h.get? a=some { cls:=.type "range",data:=.fields #[.int lo t,.int hi u,.int 1 v] }
 | .frz o u=>h.get? a=some o/\Jp H h a u
 | .tbl ps=>h.get? a=some { cls:=.none,data:=.fields ps }
 | .met f x=>h.get? a=some (PySem.W.methodObj (.ref f) (.ref x))
 | .ext φ=>φ h/\(∃ o,h.get? a=some o)/\∀ h1 h2:Heap,φ h1->(∀ o,h1.get? a=some o->h2.get? a=some o)->φ h2
def HOk (H:Hp) (h:Heap):Prop:=∀ a o,H a=some o->Jp P w H h a o
end
section
variable {H':Hp} {h':Heap} {o:HO}
theorem Jp.lt (x:Jp P w H h a o):a < h.objs.size:=by
 cases o with
 | lst xs=>obtain ⟨_,_,_,_,e⟩:=x; exact O5 e
 | tup xs=>obtain ⟨_,_,_,p⟩:=x; exact p.lt
 | dK kvs=>obtain ⟨_,_,_,_,o,_,_,e,_⟩:=x; exact O5 e
 | dT kvs=>obtain ⟨_,_,_,_,o,_,_,e,_⟩:=x; exact O5 e
 | set S n=>obtain ⟨o,_,_,_,e,_⟩:=x; exact O5 e
 | ins C dx fs=>obtain ⟨_,_,_,e,_⟩:=x; exact O5 e
 | own y=>obtain ⟨_,e⟩:=x; exact O5 e
 | xd fs=>obtain ⟨_,⟨_,_,_,e,_⟩,_⟩:=x; exact O5 e
 | rng lo hi=>obtain ⟨_,_,_,e⟩:=x; exact O5 e
 | frz ob u=>obtain ⟨e,_⟩:=x; exact O5 e
 | tbl ps=>exact O5 (show h.get? a=some _ from x)
 | met f y=>exact O5 (show h.get? a=some _ from x)
 | ext φ=>obtain ⟨_,⟨_,e⟩,_⟩:=x; exact O5 e
theorem Paired.mapP {α β:Type} {F G:α->β->Prop}:∀ {l₁:List α} {l₂:List β},Paired F l₁ l₂->(∀ a b,F a b->G a b)->Paired G l₁ l₂
 | _,_,.nil,_=>.nil
 | _,_,.cons r t,f=>.cons (f _ _ r) (Paired.mapP t f)
theorem Jp.stay (x:Jp P w H h a o) (k:∀ b u,(b=a\/H b=some (.own a))->h.get? b=some u->h'.get? b=some u)
  (ho:∀ b,H b=some (.own a)->H' b=some (.own a)) (ht:∀ b xs,H b=some (.tup xs)->H' b=some (.tup xs)):Jp P w H' h' a o:=by
 induction o with
 | lst xs=>obtain ⟨z,its,n,r,e⟩:=x; exact ⟨z,its,n,r,k _ _ (.inl rfl) e⟩
 | tup xs=>obtain ⟨z,its,r,ob,e,c⟩:=x; exact ⟨z,its,r,ob,k _ _ (.inl rfl) e,c⟩
 | dK kvs=>obtain ⟨z,y,vs,r,ob,es,ep,e,c⟩:=x; exact ⟨z,y,vs,r,ob,es,ep,k _ _ (.inl rfl) e,c⟩
 | dT kvs =>obtain ⟨z,y,xs,r,ob,es,ep,e,c⟩:=x;exact ⟨z,y,xs,Paired.mapP r λp q z=>⟨z.1,ht _ _ z.2.1,z.2.2⟩,ob,es,ep,k _ _ (.inl rfl) e,c⟩
 | set S n=>obtain ⟨ob,es,ep,t,e,c⟩:=x; exact ⟨ob,es,ep,t,k _ _ (.inl rfl) e,c⟩
 | ins C dx fs =>obtain ⟨d,z,ne,e,mA,⟨od,es,ep,e2,c⟩,r⟩:=x;exact ⟨ho _ d,z,ne,k _ _ (.inl rfl) e,mA,⟨od,es,ep,k _ _ (.inr d) e2,c⟩,r⟩
 | own y=>obtain ⟨ob,e⟩:=x; exact ⟨ob,k _ _ (.inl rfl) e⟩
 | xd fs=>obtain ⟨mA,⟨od,es,ep,e,c⟩,r⟩:=x; exact ⟨mA,⟨od,es,ep,k _ _ (.inl rfl) e,c⟩,r⟩
 | rng lo hi=>obtain ⟨t,u,v,e⟩:=x; exact ⟨t,u,v,k _ _ (.inl rfl) e⟩
 | frz ob u ih=>obtain ⟨e,q⟩:=x; exact ⟨k _ _ (.inl rfl) e,ih q⟩
 | tbl ps =>have e:h.get? a=some { cls:=.none,data:=.fields ps }:=x;show h'.get? a=some { cls:=.none,data:=.fields ps };exact k a _ (.inl rfl) e
 | met f y =>have e:h.get? a=some (PySem.W.methodObj (.ref f) (.ref y)):=x;show h'.get? a=some (PySem.W.methodObj (.ref f) (.ref y));exact k a _ (.inl rfl) e
 | ext φ=>obtain ⟨p,⟨o,e⟩,st⟩:=x; exact ⟨st _ _ p λo q=>k _ _ (.inl rfl) q,⟨o,k _ _ (.inl rfl) e⟩,st⟩
def HOk.lt (x:HOk P w H h) (e:H a=some o):a < h.objs.size:=(x a o e).lt
theorem HOk.fresh (x:HOk P w H h) (e:h.objs.size<=a):H a=none:=by
 cases q:H a with
 | none=>rfl
 | some u=>exact absurd (T6 (x.lt q) e) (V1 _)
def HOk.kept (x:HOk P w H h) (k:∀ b u,h.get? b=some u->h'.get? b=some u):HOk P w H h':=λa o e =>(x a o e).stay (λb u _ q=>k b u q) (λ_ q=>q) λ_ _ q=>q
def HOk.laid (x:HOk P w H h) (k:∀ b u,h.get? b=some u->h'.get? b=some u) (hp:h.objs.size<=a) (new:Jp P w (upd H a o) h' a o):HOk P w (upd H a o) h':=λb u e=>by
 have hn:=x.fresh hp
 by_cases hb:b=a
 ·subst hb; rw [Qy] at e; cases e; exact new
 ·rw [Qv hb] at e;exact (x b u e).stay (λc v _ q=>k c v q) (λc q=>by rw [Qv (Qj q hn)]; exact q) λc xs q=>by rw [Qv (Qj q hn)]; exact q
end
def Rd (H:Hp) (a:G5) (u:HO):Prop:=H a=some u\/∃ o,H a=some (.frz o u)
def Rd.ok {u:HO} (r:Rd H a u) (x:HOk P w H h):Jp P w H h a u:=by
 rcases r with r | ⟨o,r⟩
 ·exact x a u r
 ·obtain ⟨_,q⟩:=x a _ r;exact q
def Mut:Option HO->Prop
 | some (.lst _)=>True
 | some (.dK _)=>True
 | some (.dT _)=>True
 | some (.set _ _)=>True
 | some (.ins _ _ _)=>True
 | some (.ext _)=>True
 | _=>False
section
variable {h':Heap} {x e:G5} {o':HO}
def HOk.write (ok:HOk P w H h) (mu:Mut (H x)) (he:e=x\/H e=some (.own x)) (k:∀ b u,b≠e->h.get? b=some u->h'.get? b=some u) (heo:∃ u,h'.get? e=some u)
  (new:Jp P w (upd H x o') h' x o'):HOk P w (upd H x o') h':=λb u q=>by
 have nown:∀ c y,H c=some (.own y)->c≠x:=λc y r z=>by subst z; rw [r] at mu; exact mu
 have ntup:∀ c xs,H c=some (.tup xs)->c≠x:=λc xs r z=>by subst z; rw [r] at mu; exact mu
 by_cases hb:b=x
 ·subst hb; rw [Qy] at q; cases q; exact new
 ·rw [Qv hb] at q
  by_cases hbe:b=e
  ·have q':H b=some (.own x):=by
    rcases he with z | z
    ·exact absurd (hbe.trans z) hb
    ·rw [hbe]; exact z
   rw [q] at q'; cases q';obtain ⟨v,hv⟩:=heo;exact ⟨v,by rw [hbe]; exact hv⟩
  ·refine (ok b u q).stay (λc v hc r=>k c v ?_ r) (λc r=>by rw [Qv (nown c b r)]; exact r) λc xs r=>by rw [Qv (ntup c xs r)]; exact r
   rcases hc with rfl | hc
   ·exact hbe
   ·rintro rfl;rcases he with z | z
    ·exact nown c b hc z
    ·rw [hc] at z; cases z; exact hb rfl
end
structure Un (fs ex:K9) (H H':Hp) (h h':Heap):Prop where
 keep:∀ b o,h.get? b=some o->H b=none->b ∉ fs->b ∉ ex->h'.get? b=some o
 slot:∀ b o,h.get? b=some o->H b=none->b∈fs->b ∉ ex->∃ sl,h'.get? b=some { o with slots:=sl }
 free:∀ b o,h.get? b=some o->H b=none->b ∉ ex->H' b=none
 there:∀ b o,h.get? b=some o->b ∉ ex->∃ o',h'.get? b=some o'
 tups:∀ b xs,H b=some (.tup xs)->H' b=some (.tup xs)
 dw:∀ b o u,H b=some (.frz o u)->H' b=some (.frz o u)
 dm:∀ b ps,H b=some (.tbl ps)->∃ more,H' b=some (.tbl (ps ++ more))
section
variable {fs fs' ex ex':K9} {H1 H2:Hp} {h1 h2 h':Heap} {x e:G5} {o:HO}
def Un.any (u:Un fs ex H H1 h h1) {ob:Obj} (q:h.get? b=some ob) (n:H b=none) (hx:b ∉ ex):∃ sl,h1.get? b=some { ob with slots:=sl }:=by
 by_cases hb:b∈fs
 ·exact u.slot b ob q n hb hx
 ·exact ⟨ob.slots,u.keep b ob q n hb hx⟩
def Un.kept (k:∀ b u,h.get? b=some u->h'.get? b=some u):Un fs ex H H h h' :=⟨λb ob q _ _ _=>k b ob q,λb ob q _ _ _=>⟨ob.slots,k b ob q⟩,λ_ _ _ n _=>n,λb ob q _=>⟨ob,k b ob q⟩,λ_ _ q=>q,λ_ _ _ q=>q,λ_ ps q=>⟨#[],by rw [q]; simp⟩⟩
def Un.refl:Un fs ex H H h h:=Un.kept λ_ _ q=>q
def Un.laid (k:∀ b u,h.get? b=some u->h'.get? b=some u) (hp:h.objs.size<=a) (hn:H a=none):Un fs ex H (upd H a o) h h' where
 keep:=λb u q _ _ _=>k b u q
 slot:=λb u q _ _ _=>⟨u.slots,k b u q⟩
 free:=λb u q n _=>by rw [Qv (Nat.ne_of_lt (Nat.lt_of_lt_of_le (Heap.lt_size q) hp))]; exact n
 there:=λb u q _=>⟨u,k b u q⟩
 tups:=λb xs q=>by rw [Qv (Qj q hn)]; exact q
 dw:=λb u xs q=>by rw [Qv (Qj q hn)]; exact q
 dm:=λb ps q=>⟨#[],by rw [Qv (Qj q hn),q]; simp⟩
def Un.write (mu:Mut (H x)) (he:e=x\/H e=some (.own x)) (k:∀ b u,b≠e->h.get? b=some u->h'.get? b=some u) (heo:∃ u,h'.get? e=some u):Un fs ex H (upd H x o) h h':=by
 have hx:∀ b,H b=none->b≠x:=λb n z=>by subst z; rw [n] at mu; exact mu
 have hb:∀ b,H b=none->b≠e:=λb n z=>by
  subst z;rcases he with r | r
  ·exact hx b n r
  ·rw [n] at r; cases r
 have hm:∀ b u,H b=some u->¬ Mut (some u)->b≠x:=λb u q nm z=>by subst z; rw [q] at mu; exact nm mu
 refine ⟨λb u q n _ _=>k b u (hb b n) q,λb u q n _ _=>⟨u.slots,k b u (hb b n) q⟩,λb u q n _=>by rw [Qv (hx b n)]; exact n,λb u q _=>?_,
  λb xs q=>by rw [Qv (hm b _ q λz=>z)]; exact q,λb u xs q=>by rw [Qv (hm b _ q λz=>z)]; exact q,λb ps q=>⟨#[],by rw [Qv (hm b _ q λz=>z),q]; simp⟩⟩
 by_cases hbe:b=e
 ·subst hbe; exact heo
 ·exact ⟨u,k b u hbe q⟩
end
def trk (h:Heap) (H:Hp):K9:=(range h.objs.size).filter λa=>(H a).isSome
def Qg3 (h:Heap) (H:Hp):Heap:=PySem.W.hideAll h (trk h H)
def Qy9 (h:Heap) (H:Hp):(Qg3 h H).objs.size=h.objs.size:=PySem.W.hideAll_size _ _
def Qfq (e:h.get? b=some o) (n:H b=none):(Qg3 h H).get? b=some o :=A0x _ e λhm=>by have q:(H b).isSome=true:=(U3.mp hm).2;rw [n] at q; simp at q
theorem Qr3 (e:(Qg3 h H).get? b=some o):h.get? b=some o/\H b=none:=by
 have e':h.get? b=some o:=PySem.W.of_hideAll (trk h H) e;refine ⟨e',?_⟩;cases q:H b with
 | none=>rfl
 | some x =>have hm:b∈trk h H:=U3.mpr ⟨O1.mpr (O5 e'),by simp [q]⟩;have z:(Qg3 h H).get? b=none:=PySem.W.hideAll_none (trk h H) hm;rw [z] at e; cases e
structure Mod (K:N5) (mg:K4) (base:Heap):Prop where
 kin:K.In base
 glob:base.Ns mainGlobals mg
 blt:∃ mb,base.Ns builtinsNs mb/\∀ x:Str,x≠"__name__"->mb x=bootBuiltins x
 nolimit:base.NoLimit
structure Cx where
 prog:G8
 w:World
 K:N5
 mg:K4
 base:Heap
 A:G7
 N:M6
 s₀:G4
 H₀:Hp
 env:Env
 outer:List Env
 stack:List Env
 ex:K9
 fn:Str->Bool
 calm:Bool
 pn:G9
 xe:K5
variable {X:Cx}
def frs (l:List Env):K9:=l.filterMap (·.frame)
abbrev Cx.fs (X:Cx):K9:=frs X.outer
def Vis (sc:Scope) (x:Str):Prop:=sc.names.lookup x=some .local\/sc.names.lookup x=some .cell\/sc.names.lookup x=some .free
def Loc (sc:Scope) (x:Str):Prop:=sc.names.lookup x=some .local\/sc.names.lookup x=some .cell
def Zj4 (env:Env) (h:Heap) (m:K4) (x:Str) (u:G3):Prop :=(env.kindOf x=some .local/\m x=some u)\/((env.kindOf x=some .cell\/env.kindOf x=some .free)/\∃ c,env.cells.lookup x=some c/\h.IsCell c (some u))
structure Cx.Ok (X:Cx):Prop where
 mod:Mod X.K X.mg X.base
 kind:X.env.scope.kind=.function
 glob:X.env.globals=mainGlobals
 blt:X.env.builtins=builtinsNs
 above:X.s₀.heap.objs.size<=X.env.locals
 inj:∀ x y c,X.env.cells.lookup x=some c->X.env.cells.lookup y=some c->x=y
 has:∀ x,(X.env.kindOf x=some .cell\/X.env.kindOf x=some .free)->∃ c,X.env.cells.lookup x=some c
 cab:∀ x c,X.fn x=true->X.env.cells.lookup x=some c->X.s₀.heap.objs.size<=c
 hd:X.calm=true->X.A.handled=none
 frames:X.A.frames=some X.stack
 stk:X.stack=X.outer\/(X.stack=X.env :: X.outer/\X.env.frame=some X.env.locals)
 exf:∀ b∈X.ex,b≠X.env.locals/\∀ x c,X.env.cells.lookup x=some c->c≠b
 bs:∀ b o,X.base.get? b=some o->X.s₀.heap.get? b=some o/\X.H₀ b=none
 bsz:X.base.objs.size<=X.s₀.heap.objs.size
 noex:∀ b o,X.base.get? b=some o->b ∉ X.ex
 exfs:∀ b∈X.ex,b ∉ X.fs
 dj:X.s₀.heap.FunFrames X.base X.outer
 frf:∀ b∈X.fs,X.H₀ b=none
structure Inv (X:Cx) (dz:G9) (σ:List (Option V)) (H:Hp) (s:G4):Prop where
 ok:X.Ok
 os:s.os=X.s₀.os
 bare:AllBare s.gens
 base:Un X.fs X.ex X.H₀ H X.s₀.heap s.heap
 loc:∃ m,s.heap.Ns X.env.locals m/\∀ (i:Nat) (x:Str) (v:V),X.N[i]? = some x->σ[i]? = some (some v)->Vis X.env.scope x->∃ u,Ys v u/\Zj4 X.env s.heap m x u
 cell:∀ x c,X.env.cells.lookup x=some c->∃ v,s.heap.IsCell c v
 free:H X.env.locals=none
 cg:∀ x c,X.env.cells.lookup x=some c->H c=none
 pin:∀ p∈X.pn ++ dz,s.heap.get? p.1=some p.2/\H p.1=none/\p.1≠X.env.locals/\p.1 ∉ X.fs/\∀ v,p.2.data≠.cell v
 hok:HOk X.prog X.w H s.heap
 len:σ.length=X.N.length
section
variable {σ:List (Option V)} {H':Hp} {h':Heap}
def Cx.Ok.nofr (ok:X.Ok) (e:X.base.get? b=some o):b ∉ X.fs:=λhb=>by have:=(ok.dj.mem hb).1;rw [e] at this; cases this
def Inv.bs (I:Inv X dz σ H s):∀ b o,X.base.get? b=some o->s.heap.get? b=some o/\H b=none:=λb o e =>⟨I.base.keep b o (I.ok.bs b o e).1 (I.ok.bs b o e).2 (I.ok.nofr e) (I.ok.noex b o e),I.base.free b o (I.ok.bs b o e).1 (I.ok.bs b o e).2 (I.ok.noex b o e)⟩
def Inv.bk (I:Inv X dz σ H s):∀ b o,X.base.get? b=some o->s.heap.get? b=some o:=λb o e=>(I.bs b o e).1
def Inv.mod (I:Inv X dz σ H s):Mod X.K X.mg X.base:=I.ok.mod
def Inv.kIn (I:Inv X dz σ H s):X.K.In s.heap:=I.ok.mod.kin.keeps I.bk
def Inv.nolimit (I:Inv X dz σ H s):s.heap.NoLimit:=I.ok.mod.nolimit.keeps I.bk
def Inv.lt (I:Inv X dz σ H s):X.env.locals < s.heap.objs.size:=let ⟨_,hn,_⟩:=I.loc; hn.lt
def Inv.sz (I:Inv X dz σ H s):X.s₀.heap.objs.size<=s.heap.objs.size:=R4 I.ok.above (V5 I.lt)
def Inv.nofs (I:Inv X dz σ H s) (h:s.heap.objs.size<=a):a ∉ X.fs:=λhb=>by obtain ⟨_,o,ho,_⟩:=I.ok.dj.mem hb;exact absurd (T6 (O5 ho) (R4 I.sz h)) (V1 _)
def Inv.cne (I:Inv X dz σ H s):∀ x c,X.env.cells.lookup x=some c->c≠X.env.locals:=λx c e z=>by obtain ⟨v,o,ho,hd⟩:=I.cell x c e;obtain ⟨m,⟨o',es,ep,ho',hd',_⟩,_⟩:=I.loc;rw [z,ho'] at ho; cases ho; rw [hd'] at hd; cases hd
theorem Inv.dj (I:Inv X dz σ H s):s.heap.FunFrames X.base X.outer:=by
 have all:∀ (l:List Env),(∀ b∈frs l,b∈X.fs)->X.s₀.heap.FunFrames X.base l->s.heap.FunFrames X.base l:=by
  intro l
  induction l with
  | nil=>intro _ _; trivial
  | cons env r ih =>intro hs hl;obtain ⟨hk,⟨L,o,hf,hn,ho,hd⟩,hr⟩:=hl;have hL:L∈X.fs:=hs L (by unfold frs; rw [filterMap_cons,hf]; exact Q7);obtain ⟨sl,e⟩:=I.base.slot L o ho (I.ok.frf L hL) hL λz=>I.ok.exfs L z hL;exact ⟨hk,⟨L,_,hf,hn,e,hd⟩,ih (λb hb=>hs b (by unfold frs; rw [filterMap_cons,hf]; exact Q8 _ hb)) hr⟩
 exact all X.outer (λ_ hb=>hb) I.ok.dj
def Inv.stack (I:Inv X dz σ H s):s.heap.FunFrames X.base X.stack:=by
 rcases I.ok.stk with e | ⟨e,hf⟩
 ·rw [e]; exact I.dj
 ·rw [e];obtain ⟨m,hn,_⟩:=I.loc;refine .cons (by rw [I.ok.kind]; decide) hf hn ?_ I.dj;exact Heap.get?_none_of_le (R4 I.ok.bsz I.ok.above)
def Inv.stkSub (I:Inv X dz σ H s):∀ b∈frs X.stack,b∈X.env.locals :: X.fs:=λb hb=>by
 rcases I.ok.stk with e | ⟨e,hf⟩
 ·rw [e] at hb; exact Q8 _ hb
 ·rw [e] at hb;unfold frs at hb;rw [filterMap_cons,hf] at hb;exact hb
def Inv.stkFree (I:Inv X dz σ H s):∀ b∈frs X.stack,H b=none:=λb hb=>by
 rcases R3.mp (I.stkSub b hb) with e | hb
 ·rw [e]; exact I.free
 ·obtain ⟨_,o,ho,_⟩:=I.ok.dj.mem hb;exact I.base.free b o ho (I.ok.frf b hb) λz=>I.ok.exfs b z hb
def Inv.step {g':Array GenState} {t':Nat} {d':Drawn} {ch:K9} (I:Inv X dz σ H s)
  (hch:∀ b∈ch,(b∈X.ex\/X.s₀.heap.objs.size<=b)/\b≠X.env.locals/\(∀ x c,X.env.cells.lookup x=some c->c≠b)/\∀ p∈X.pn ++ dz,p.1≠b)
  (keep:∀ b o,b≠X.env.locals->b ∉ X.fs->b ∉ ch->s.heap.get? b=some o->H b=none->h'.get? b=some o)
  (slot:∀ b o,b≠X.env.locals->b∈X.fs->b ∉ ch->s.heap.get? b=some o->H b=none->∃ sl,h'.get? b=some { o with slots:=sl }) (free:∀ b o,b ∉ ch->s.heap.get? b=some o->H b=none->H' b=none)
  (there:∀ b o,b ∉ ch->s.heap.get? b=some o->∃ o',h'.get? b=some o')
  (tups:∀ b xs,H b=some (.tup xs)->H' b=some (.tup xs)) (dw:∀ b o u,H b=some (.frz o u)->H' b=some (.frz o u)) (dm:∀ b ps,H b=some (.tbl ps)->∃ more,H' b=some (.tbl (ps ++ more)))
  (ns:∀ m,s.heap.Ns X.env.locals m->h'.Ns X.env.locals m) (hok:HOk X.prog X.w H' h') (hg:AllBare g') :
  Inv X dz σ H' { s with heap:=h',gens:=g',drawn:=d',toks:=t' }:=by
 have neL:∀ b o,X.s₀.heap.get? b=some o->b≠X.env.locals:=λb o e=>O9 (T6 (O5 e) I.ok.above);have neC:∀ b o,X.s₀.heap.get? b=some o->b ∉ X.ex->b ∉ ch:=λb o e hx hb=>by
  rcases (hch b hb).1 with z | z
  ·exact hx z
  ·exact absurd (T6 (O5 e) z) (V1 _)
 have cellK:∀ x c,X.env.cells.lookup x=some c->∀ v,s.heap.IsCell c v->h'.IsCell c v:=λx c e v ⟨o,ho,hd⟩=>by
  have nch:c ∉ ch:=λz=>(hch c z).2.2.1 x c e rfl
  by_cases hc:c∈X.fs
  ·obtain ⟨sl,q⟩:=slot c o (I.cne x c e) hc nch ho (I.cg x c e);exact ⟨_,q,hd⟩
  ·exact ⟨o,keep c o (I.cne x c e) hc nch ho (I.cg x c e),hd⟩
 refine ⟨I.ok,I.os,hg,⟨λb o e n hb hx=>?_,λb o e n hb hx=>?_,λb o e n hx=>?_,λb o e hx=>?_,λb xs e=>tups b xs (I.base.tups b xs e),λb o xs e=>dw b o xs (I.base.dw b o xs e),λb ps e=>?_⟩,?_,λx c e=>?_,?_,λx c e=>?_,λp hp=>?_,hok,I.len⟩
 ·exact keep b o (neL b o e) hb (neC b o e hx) (I.base.keep b o e n hb hx) (I.base.free b o e n hx)
 ·obtain ⟨sl,e1⟩:=I.base.slot b o e n hb hx;obtain ⟨sl',e2⟩:=slot b _ (neL b o e) hb (neC b o e hx) e1 (I.base.free b o e n hx);exact ⟨sl',e2⟩
 ·obtain ⟨o',e1⟩:=I.base.there b o e hx;exact free b o' (neC b o e hx) e1 (I.base.free b o e n hx)
 ·obtain ⟨o',e1⟩:=I.base.there b o e hx;exact there b o' (neC b o e hx) e1
 ·obtain ⟨m1,e1⟩:=I.base.dm b ps e;obtain ⟨m2,e2⟩:=dm b _ e1;exact ⟨m1 ++ m2,by rw [e2,Array.append_assoc]⟩
 ·obtain ⟨m,hn,hl⟩:=I.loc;refine ⟨m,ns m hn,λi x v e1 e2 e3=>?_⟩;obtain ⟨u,r,l⟩:=hl i x v e1 e2 e3;refine ⟨u,r,?_⟩;rcases l with l | ⟨k,c,e,z⟩
  ·exact .inl l
  ·exact .inr ⟨k,c,e,cellK x c e _ z⟩
 ·obtain ⟨v,z⟩:=I.cell x c e;exact ⟨v,cellK x c e v z⟩
 ·obtain ⟨m,⟨o,_,_,ho,_⟩,_⟩:=I.loc;exact free _ o (λz=>(hch _ z).2.1 rfl) ho I.free
 ·obtain ⟨v,o,ho,hd⟩:=I.cell x c e;exact free c o (λz=>(hch c z).2.2.1 x c e rfl) ho (I.cg x c e)
 ·obtain ⟨e,n,ne,nf,d⟩:=I.pin p hp;have nch:p.1 ∉ ch:=λz=>(hch p.1 z).2.2.2 p hp rfl;exact ⟨keep p.1 p.2 ne nf nch e n,free p.1 p.2 nch e n,ne,nf,d⟩
def Inv.un (I:Inv X dz σ H s) (u:Un X.fs [] H H' s.heap h') (hok:HOk X.prog X.w H' h'):Inv X dz σ H' { s with heap:=h',toks:=t' }:=by obtain ⟨m,⟨o,es,ep,ho,r⟩,_⟩:=id I.loc;obtain ⟨sl,hL⟩:=u.any ho I.free (by simp);exact I.step (g':=s.gens) (d':=s.drawn) (ch:=[]) (λ_ z=>nomatch z) (λb o _ hb _ e n=>u.keep b o e n hb (by simp)) (λb o _ hb _ e n=>u.slot b o e n hb (by simp)) (λb o _ e n=>u.free b o e n (by simp)) (λb o _ e=>u.there b o e (by simp)) u.tups u.dw u.dm (λm' hm=>by obtain ⟨o',es',ep',ho',r'⟩:=hm;rw [ho] at ho'; cases ho';exact ⟨_,es',ep',hL,r'⟩) hok I.bare
def Inv.call {g':Array GenState} {d':Drawn} {ch:K9} (I:Inv X dz σ H s) (u:Un (frs X.stack) ch H H' s.heap h') (hok:HOk X.prog X.w H' h') (hg:AllBare g')
  (hch:∀ b∈ch,(b∈X.ex\/X.s₀.heap.objs.size<=b)/\b≠X.env.locals/\(∀ x c,X.env.cells.lookup x=some c->c≠b)/\∀ p∈X.pn ++ dz,p.1≠b) :
  Inv X dz σ H' { s with heap:=h',gens:=g',drawn:=d',toks:=t' }:=by
 obtain ⟨m,⟨o,es,ep,ho,r⟩,_⟩:=id I.loc;obtain ⟨sl,hL⟩:=u.any ho I.free λz=>(hch _ z).2.1 rfl;exact I.step (ch:=ch) hch (λb o hL hb hc e n=>u.keep b o e n (λz=>(R3.mp (I.stkSub b z)).elim hL hb) hc) (λb o _ _ hc e n=>u.any e n hc) (λb o hc e n=>u.free b o e n hc) (λb o hc e=>u.there b o e hc) u.tups u.dw u.dm (λm' hm=>by obtain ⟨o',es',ep',ho',r'⟩:=hm;rw [ho] at ho'; cases ho';exact ⟨_,es',ep',hL,r'⟩) hok hg
def Inv.turned {it:G5} (I:Inv X dz σ H s) (k:∀ b o,b≠it->s.heap.get? b=some o->h'.get? b=some o) (hn:H it=none) (hL:it≠X.env.locals)
  (h1:it∈X.ex\/X.s₀.heap.objs.size<=it) (h2:∀ x c,X.env.cells.lookup x=some c->c≠it) (h3:∀ p∈X.pn ++ dz,p.1≠it):Inv X dz σ H { s with heap:=h',toks:=t' }:=by
 have nit:∀ b u,H b=some u->b≠it:=λb u e z=>by rw [z,hn] at e; cases e
 refine I.step (g':=s.gens) (d':=s.drawn) (ch:=[it]) (λb hb=>?_) (λb o _ _ hc e _=>k b o (λz=>hc (by simp [z])) e) (λb o _ _ hc e _=>⟨o.slots,k b o (λz=>hc (by simp [z])) e⟩) (λ_ _ _ _ n=>n)
  (λb o hc e=>⟨o,k b o (λz=>hc (by simp [z])) e⟩) (λ_ _ e=>e) (λ_ _ _ e=>e) (λb ps e=>⟨#[],by rw [e]; simp⟩) (λm hm=>?_) (λb u e=>?_) I.bare
 ·have e:b=it:=by simpa using hb
  subst e;exact ⟨h1,hL,h2,h3⟩
 ·obtain ⟨o,es,ep,ho,r⟩:=hm;exact ⟨o,es,ep,k _ o (Ne.symm hL) ho,r⟩
 ·refine (I.hok b u e).stay (λc v hc q=>k c v ?_ q) (λ_ q=>q) λ_ _ q=>q;rcases hc with z | z
  ·rw [z]; exact nit b u e
  ·exact nit c _ z
def Inv.tok (I:Inv X dz σ H s) (t:Nat):Inv X dz σ H { s with toks:=t }:=I.un (h':=s.heap) (t':=t) Un.refl I.hok
def Inv.kept {t':Nat} (I:Inv X dz σ H s) (k:∀ b u,s.heap.get? b=some u->h'.get? b=some u):Inv X dz σ H { s with heap:=h',toks:=t' }:=I.un (Un.kept k) (I.hok.kept k)
def Inv.laid {a:G5} {o:HO} {t':Nat} (I:Inv X dz σ H s) (k:∀ b u,s.heap.get? b=some u->h'.get? b=some u) (hp:s.heap.objs.size<=a) (new:Jp X.prog X.w (upd H a o) h' a o) :
  Inv X dz σ (upd H a o) { s with heap:=h',toks:=t' }:=I.un (Un.laid k hp (I.hok.fresh hp)) (I.hok.laid k hp new)
def Inv.write {x e:G5} {o:HO} {t':Nat} (I:Inv X dz σ H s) (mu:Mut (H x)) (he:e=x\/H e=some (.own x)) (k:∀ b u,b≠e->s.heap.get? b=some u->h'.get? b=some u) (heo:∃ u,h'.get? e=some u)
  (new:Jp X.prog X.w (upd H x o) h' x o):Inv X dz σ (upd H x o) { s with heap:=h',toks:=t' }:=I.un (Un.write mu he k heo) (I.hok.write mu he k heo new)
def Inv.weak {σ':List (Option V)} (I:Inv X dz σ H s) (hl:σ'.length=σ.length) (w:∀ (i:Nat) v,σ'[i]? = some (some v)->σ[i]? = some (some v)):Inv X dz σ' H s :=⟨I.ok,I.os,I.bare,I.base,let ⟨m,hn,hl'⟩:=I.loc; ⟨m,hn,λi x v e1 e2 e3=>hl' i x v e1 (w i v e2) e3⟩,I.cell,I.free,I.cg,I.pin,I.hok,hl.trans I.len⟩
def Inv.dg {pins':G9} (I:Inv X dz σ H s) (h:∀ p∈pins',s.heap.get? p.1=some p.2/\H p.1=none/\p.1≠X.env.locals/\p.1 ∉ X.fs/\∀ v,p.2.data≠.cell v):Inv X pins' σ H s :=⟨I.ok,I.os,I.bare,I.base,I.loc,I.cell,I.free,I.cg,λp hp=>(O6.mp hp).elim (λz=>I.pin p (R8 _ z)) (h p),I.hok,I.len⟩
def Al {N:M6} (hN:N.Nodup) {j:Nat} (a:N[i]? = some x) (b:N[j]? = some x):i=j:=by obtain ⟨h1,e1⟩:=N8.mp a;obtain ⟨h2,e2⟩:=N8.mp b;exact (getElem_inj hN).mp (e1.trans e2.symm)
def By (I:Inv X dz σ H s) (hN:X.N.Nodup) (hi:X.N[i]? = some x) (hx:Loc X.env.scope x) (r:Ys v u)
  (h:∀ s',Inv X dz (σ.set i (some v)) H s'->(∃ a,Heap.SameBut a s.heap s'.heap/\(a=X.env.locals\/X.env.cells.lookup x=some a))->Q () s') (hf:X.fn x=true\/X.env.scope.names.lookup x=some .local:=by first | exact .inl rfl | exact .inr rfl | assumption):wpAny M A (storeName X.env x u) Q E s:=by
 obtain ⟨m,hn,hl⟩:=id I.loc;have hcls:(X.env.scope.kind == .class || (X.env.scope.kind == .module && X.env.locals != X.env.globals))=false:=by rw [I.ok.kind]; rfl
 have hiσ:i < σ.length:=by rw [I.len]; exact (N8.mp hi).1
 have cne:=I.cne;have tracked:∀ {a:G5} {h':Heap},(∃ o,s.heap.get? a=some o/\H a=none)->Heap.SameBut a s.heap h'->HOk X.prog X.w H h':=λ{a h'} ha hs b ob e=>by
  obtain ⟨_,_,hfree⟩:=ha;refine (I.hok b ob e).stay (λc w' hc q=>(hs.2 c ?_).trans q) (λ_ q=>q) λ_ _ q=>q;rintro rfl;rcases hc with rfl | hc
  ·rw [hfree] at e; cases e
  ·rw [hfree] at hc; cases hc
 rcases hx with hk | hk
 ·refine wpAny_storeName_local hk hn (λh' hn' hs=>?_) hcls;obtain ⟨oL,_,_,hoL,_⟩:=id hn;refine h _ ⟨I.ok,I.os,I.bare,⟨λb o e n hb hx=>?_,λb o e n hb hx=>?_,I.base.free,λb o e hx=>?_,I.base.tups,I.base.dw,I.base.dm⟩,⟨_,hn',λj y v' e1 e2 e3=>?_⟩,λy c e=>?_,I.free,I.cg,λp hp=>?_,tracked ⟨oL,hoL,I.free⟩ hs,by simpa using I.len⟩ ⟨_,hs,.inl rfl⟩
  ·exact (hs.2 b (O9 (T6 (O5 e) I.ok.above))).trans (I.base.keep b o e n hb hx)
  ·obtain ⟨sl,e1⟩:=I.base.slot b o e n hb hx;exact ⟨sl,(hs.2 b (O9 (T6 (O5 e) I.ok.above))).trans e1⟩
  ·obtain ⟨o',e1⟩:=I.base.there b o e hx;exact ⟨o',(hs.2 b (O9 (T6 (O5 e) I.ok.above))).trans e1⟩
  ·by_cases hj:j=i
   ·subst hj;rw [hi] at e1; cases e1;rw [getElem?_set_self hiσ] at e2;cases e2;exact ⟨u,r,.inl ⟨hk,by simp⟩⟩
   ·rw [getElem?_set_ne (Ne.symm hj)] at e2;obtain ⟨u',r',q⟩:=hl j y v' e1 e2 e3;refine ⟨u',r',?_⟩;rcases q with ⟨k,e⟩ | ⟨k,c,e,z⟩
    ·refine .inl ⟨k,?_⟩;have:y≠x:=λe=>hj (Al hN e1 (e ▸ hi));simp [this,e]
    ·exact .inr ⟨k,c,e,z.sameBut hs (cne y c e)⟩
  ·obtain ⟨w',z⟩:=I.cell y c e;exact ⟨w',z.sameBut hs (cne y c e)⟩
  ·obtain ⟨e,n,ne,nf,d⟩:=I.pin p hp;exact ⟨(hs.2 p.1 ne).trans e,n,ne,nf,d⟩
 ·have hfn:X.fn x=true:=by
   rcases hf with z | z
   ·exact z
   ·rw [z] at hk; cases hk
  obtain ⟨c,hc⟩:=I.ok.has x (.inl hk);obtain ⟨w',z⟩:=I.cell x c hc;refine wpAny_storeName_cell I.ok.kind hk hc z (λh' hc' hs=>?_);obtain ⟨oc,hoc,hocd⟩:=id z;refine h { s with heap:=h' } ⟨I.ok,I.os,I.bare,⟨λb o e n hb hx=>?_,λb o e n hb hx=>?_,I.base.free,λb o e hx=>?_,I.base.tups,I.base.dw,I.base.dm⟩,⟨m,hn.sameBut hs (Ne.symm (cne x c hc)),λj y v' e1 e2 e3=>?_⟩,λy c' e=>?_,I.free,I.cg,λp hp=>?_,tracked ⟨oc,hoc,I.cg x c hc⟩ hs,by simpa using I.len⟩ ⟨c,hs,.inr hc⟩
  ·exact (hs.2 b (O9 (T6 (O5 e) (I.ok.cab x c hfn hc)))).trans (I.base.keep b o e n hb hx)
  ·obtain ⟨sl,e1⟩:=I.base.slot b o e n hb hx;exact ⟨sl,(hs.2 b (O9 (T6 (O5 e) (I.ok.cab x c hfn hc)))).trans e1⟩
  ·obtain ⟨o',e1⟩:=I.base.there b o e hx;exact ⟨o',(hs.2 b (O9 (T6 (O5 e) (I.ok.cab x c hfn hc)))).trans e1⟩
  ·by_cases hj:j=i
   ·subst hj;rw [hi] at e1; cases e1;rw [getElem?_set_self hiσ] at e2;cases e2;exact ⟨u,r,.inr ⟨.inl hk,c,hc,hc'⟩⟩
   ·rw [getElem?_set_ne (Ne.symm hj)] at e2;obtain ⟨u',r',q⟩:=hl j y v' e1 e2 e3;refine ⟨u',r',?_⟩;rcases q with q | ⟨k,c',e,z'⟩
    ·exact .inl q
    ·refine .inr ⟨k,c',e,z'.sameBut hs ?_⟩;rintro rfl;exact hj (Al hN e1 (I.ok.inj _ _ _ e hc ▸ hi))
  ·by_cases hcc:c'=c
   ·subst hcc; exact ⟨_,hc'⟩
   ·obtain ⟨w2,z2⟩:=I.cell y c' e;exact ⟨w2,z2.sameBut hs hcc⟩
  ·obtain ⟨e,n,ne,nf,d⟩:=I.pin p hp;refine ⟨(hs.2 p.1 ?_).trans e,n,ne,nf,d⟩;intro q;rw [q,hoc] at e;have q':oc=p.2:=R5 e;exact d w' (by rw [<- q']; exact hocd)
def Rr (I:Inv X dz σ H s) (hN:X.N.Nodup) (hi:X.N[i]? = some x) (hx:Loc X.env.scope x) (r:Ys v u)
  (h:∀ s',Inv X dz (σ.set i (some v)) H s'->Q () s') (hf:X.fn x=true\/X.env.scope.names.lookup x=some .local:=by first | exact .inl rfl | exact .inr rfl | assumption):wpAny M A (storeName X.env x u) Q E s :=
 By I hN hi hx r (λs' I' _=>h s' I') hf
def Inv.call' {s':G4} {ch:K9} (I:Inv X dz σ H s) (ho:s'.os=s.os) (u:Un (frs X.stack) ch H H' s.heap s'.heap) (hok:HOk X.prog X.w H' s'.heap) (hg:AllBare s'.gens)
  (hch:∀ b∈ch,(b∈X.ex\/X.s₀.heap.objs.size<=b)/\b≠X.env.locals/\(∀ x c,X.env.cells.lookup x=some c->c≠b)/\∀ p∈X.pn ++ dz,p.1≠b):Inv X dz σ H' s':=by
 obtain ⟨h',g',d',t',o'⟩:=s';have e:o'=s.os:=ho;subst e;exact I.call (g':=g') (t':=t') (d':=d') u hok hg hch
end
abbrev XK:=G3->Option G5->Hp->Prop
abbrev St:=List (Option V)
variable {σ:St}
abbrev VK:=V->Hp->Prop
abbrev TE:=St->Hp->VK->Prop
abbrev TT:=St->Hp->(Bool->Hp->Prop)->Prop
abbrev TA:=St->Hp->(List V->Hp->Prop)->Prop
structure Iw where
 nx:St->Hp->Prop
 rt:VK
 bk:St->Hp->Prop:=λ_ _=>False
 ct:St->Hp->Prop:=λ_ _=>False
abbrev TS:=Iw->St->Hp->Prop
variable {tb:TS}
def EP (X:Cx) (dz:G9) (σ:St) (Q:VK) (u:G3) (s':G4):Prop:=∃ v H',Inv X dz σ H' s'/\Ys v u/\Q v H'
def TP (X:Cx) (dz:G9) (σ:St) (Q:Bool->Hp->Prop) (b:Bool) (s':G4):Prop:=∃ H',Inv X dz σ H' s'/\Q b H'
def AP (X:Cx) (dz:G9) (σ:St) (Q:List V->Hp->Prop) (us:K8) (s':G4):Prop:=∃ vs H',Inv X dz σ H' s'/\Xq vs us/\Q vs H'
def SP (X:Cx) (dz:G9) (D:Iw) (f:Flow) (s':G4):Prop :=
 match f with
 | .next => ∃ σ' H',Inv X dz σ' H' s'/\D.nx σ' H'
 | .brk => ∃ σ' H',Inv X dz σ' H' s'/\D.bk σ' H'
 | .cont => ∃ σ' H',Inv X dz σ' H' s'/\D.ct σ' H'
 | .ret u => ∃ v σ' H',Inv X dz σ' H' s'/\Ys v u/\D.rt v H'
def PE (X:Cx) (e:Expr) (t:TE):Prop :=∀ (dz:G9) (s:G4) (σ:St) (H:Hp) (Q:VK),Inv X dz σ H s->t σ H Q->wpAny (model X.prog X.w) X.A (eval e X.env) (EP X dz σ Q) X.xe s
def PT (X:Cx) (e:Expr) (t:TT):Prop :=∀ (dz:G9) (s:G4) (σ:St) (H:Hp) (Q:Bool->Hp->Prop),Inv X dz σ H s->t σ H Q->wpAny (model X.prog X.w) X.A (isTrue e X.env (eval e X.env)) (TP X dz σ Q) X.xe s
def PW (X:Cx) (e:Expr) (t:TT):Prop :=∀ (whole:Sem G3) (dz:G9) (s:G4) (σ:St) (H:Hp) (Q:Bool->Hp->Prop),Inv X dz σ H s->t σ H Q->wpAny (model X.prog X.w) X.A (isTrue e X.env whole) (TP X dz σ Q) X.xe s
def PW.pt {t:TT} (h:PW X e t):PT X e t:=h _
def PA (X:Cx) (es:M7) (t:TA):Prop :=∀ (pos:Pos) (dz:G9) (s:G4) (σ:St) (H:Hp) (Q:List V->Hp->Prop),Inv X dz σ H s->t σ H Q->wpAny (model X.prog X.w) X.A (spliced (backTo pos (starEach es X.env))) (AP X dz σ Q) X.xe s
def PS (X:Cx) (st:Stmt) (t:TS):Prop :=∀ (dz:G9) (s:G4) (σ:St) (H:Hp) (D:Iw),Inv X dz σ H s->t D σ H->wpAny (model X.prog X.w) X.A (exec st X.env) (SP X dz D) X.xe s
def PSs (X:Cx) (st:List Stmt) (t:TS):Prop :=∀ (dz:G9) (s:G4) (σ:St) (H:Hp) (D:Iw),Inv X dz σ H s->t D σ H->wpAny (model X.prog X.w) X.A (execs st X.env) (SP X dz D) X.xe s
def thn {α:Type} {t:Sem α} {Q Q':α->G4->Prop} (h:wpAny M A t Q E s) (hQ:∀ a s,Q a s->Q' a s):wpAny M A t Q' E s:=S9 h hQ λ_ _ x=>x
section
inductive Zj2 (i:Nat) (σ:St) (H:Hp) (Q:VK):Prop
 | mk (v:V) (e:σ[i]? = some (some v)) (q:Q v H)
def Zqk (i:Nat):TE:=Zj2 i
def tC (v:V):TE:=λ_ H Q=>Q v H
def Qa5 (hN:X.N[i]? = some x) (hv:Vis X.env.scope x) (hd:(x == ("__debug__" : Str))=false:=by decide) (hcd:(x == ("__classdict__" : Str))=false:=by decide):PE X (.Name x pos) (Zqk i):=by
 intro dz s σ H Q I h;obtain ⟨v,e,h⟩:=h;obtain ⟨m,hn,hl⟩:=I.loc;obtain ⟨u,r,l⟩:=hl i x v hN e hv;have fin:EP X dz σ Q u s:=⟨v,H,I,r,h⟩
 rcases l with ⟨hk,hm⟩ | ⟨hk,c,hc,hcell⟩
 ·exact wpAny_Name (wpAny_loadName_local I.ok.kind hk hn hm fin) hd
 ·rcases hk with hk | hk
  ·exact wpAny_Name (wpAny_loadName_cell I.ok.kind hk hc hcell fin) hd
  ·exact wpAny_Name (wpAny_loadName_free I.ok.kind hk hc hcell fin hcd) hd
def Qx {i j pos}:PE X (.Constant (.int i) j pos) (tC (.int i)):=λ_ _ _ H _ I h=>wpAny_Constant_int ⟨.int i,H,I.tok _,⟨_,rfl⟩,h⟩
def Yc {b j pos}:PE X (.Constant (.bool b) j pos) (tC (.bl b)):=λ_ _ _ H _ I h=>Constant_bool ⟨.bl b,H,I,rfl,h⟩
def Qo {j pos}:PE X (.Constant .none j pos) (tC .non):=λ_ _ _ H _ I h=>Constant_none ⟨.non,H,I,rfl,h⟩
def Yd {x j pos}:PE X (.Constant (.str x) j pos) (tC (.str x)):=λ_ _ _ H _ I h=>Calls.Constant_str ⟨.str x,H,I.tok _,⟨_,rfl⟩,h⟩
def Gl (X:Cx) (x:Str):Prop:=X.env.kindOf x=some .globalImplicit
def Ta {Q:K5} (I:Inv X dz σ H s) (hg:Gl X x) (hm:X.mg x=some u) (h:Q u s)
  (hd:(x == ("__debug__" : Str))=false:=by decide):wpAny (model X.prog X.w) X.A (eval (.Name x pos) X.env) Q E s :=
 Calls.Name_function_global I.ok.kind hg (Calls.loadGlobal_global (by rw [I.ok.glob]; exact I.mod.glob.keeps I.bk) hm h) hd
def Uw {Q:K5} (I:Inv X dz σ H s) (hg:Gl X x) (hm:X.mg x=none) (hv:bootBuiltins x=some u) (h:Q u s)
  (hn:x≠"__name__" := by decide) (hd:(x == ("__debug__" : Str))=false:=by decide):wpAny (model X.prog X.w) X.A (eval (.Name x pos) X.env) Q E s:=by
 obtain ⟨mb,h1,h2⟩:=I.mod.blt;exact Calls.Name_function_global I.ok.kind hg (Calls.loadGlobal_builtin (by rw [I.ok.glob]; exact I.mod.glob.keeps I.bk) hm (by rw [I.ok.blt]; exact h1.keeps I.bk) ((h2 x hn).trans hv) h) hd
def Qlx (hg:Gl X x) (hm:X.mg x=some u) (r:Ys v u) (hd:(x == ("__debug__" : Str))=false:=by decide):PE X (.Name x pos) (tC v) :=λ_ _ _ H _ I h=>Ta I hg hm ⟨v,H,I,r,h⟩ hd
def Jk (hg:Gl X x) (hm:X.mg x=none) (hv:bootBuiltins x=some u) (r:Ys v u) (hn:x≠"__name__" := by decide) (hd:(x == ("__debug__" : Str))=false:=by decide):PE X (.Name x pos) (tC v) :=λ_ _ _ H _ I h=>Uw I hg hm hv ⟨v,H,I,r,h⟩ hn hd
variable {a b:Expr} {ta tb:TE}
def tB (t:TE):TT:=λσ H Q=>t σ H λx H1 => ∃ c,x=.bl c/\Q c H1
def Xg {t:TE} (h:PE X e t) (he:∀ whole,isTrue e X.env whole=(do let v <- whole; standAt e.pos; holding [v] (truthy v)):=by intro _; rfl):PT X e (tB t):=by intro dz s σ H Q I hw;refine isTrue_plain (thn (h dz s σ H _ I hw) λv s1 ⟨x,H1,I1,r1,q1⟩=>?_) (he _);obtain ⟨d,rfl,q⟩:=q1;cases r1;exact W5 ⟨H1,I1,q⟩
variable {tA tB':TT} {j7:M7}
def Zx7 (t u:TT):TT:=λσ H Q=>t σ H λc H1=>if c=true then u σ H1 Q else Q false H1
def tOr (t u:TT):TT:=λσ H Q=>t σ H λc H1=>if c=true then Q true H1 else u σ H1 Q
def Zx4 (t:TT):TT:=λσ H Q=>t σ H λc H1=>Q (!c) H1
theorem Um (ha:PT X a tA):PW X (.BoolOp .And [a] pos) tA:=by
 intro wh dz s σ H Q I h;refine isTrue_and (thn (ha dz s σ H Q I h) λc s1 e=>?_);cases c with
 | true=>exact isTrue_and_nil e
 | false=>exact e
theorem Xi (ha:PT X a tA):PW X (.BoolOp .Or [a] pos) tA:=by
 intro wh dz s σ H Q I h;refine isTrue_or (thn (ha dz s σ H Q I h) λc s1 e=>?_);cases c with
 | false=>exact isTrue_or_nil e
 | true=>exact e
theorem Wa (ha:PT X a tA) (hb:PW X (.BoolOp .And (b :: j7) pos) tB'):PW X (.BoolOp .And (a :: b :: j7) pos) (Zx7 tA tB'):=by
 intro wh dz s σ H Q I h;refine isTrue_and (thn (ha dz s σ H _ I h) λc s1 ⟨H1,I1,q1⟩=>?_);cases c with
 | true=>exact hb wh dz s1 σ H1 Q I1 q1
 | false=>exact ⟨H1,I1,q1⟩
theorem Xs (ha:PT X a tA) (hb:PW X (.BoolOp .Or (b :: j7) pos) tB'):PW X (.BoolOp .Or (a :: b :: j7) pos) (tOr tA tB'):=by
 intro wh dz s σ H Q I h;refine isTrue_or (thn (ha dz s σ H _ I h) λc s1 ⟨H1,I1,q1⟩=>?_);cases c with
 | true=>exact ⟨H1,I1,q1⟩
 | false=>exact hb wh dz s1 σ H1 Q I1 q1
def Xb (ha:PT X a tA):PT X (.UnaryOp .Not a pos) (Zx4 tA):=by intro dz s σ H Q I h;exact isTrue_not (ha dz s σ H (λc H1=>Q (!c) H1) I h)
def Zq0 (ta tb:TE):TE:=λσ H Q=>ta σ H λx H1 => ∃ c,x=.bl c/\if c=true then tb σ H1 Q else Q (.bl false) H1
def Qoz (ta:TE):TE:=λσ H Q=>ta σ H λx H1 => ∃ c,x=.bl c/\Q (.bl (!c)) H1
def Qa6 {op} {t:TE} (h:PE X a t):PE X (.BoolOp op [a] pos) t:=λdz s σ H Q I hw=>BoolOp_one (h dz s σ H Q I hw)
theorem Qaq (ha:PE X a ta) (hb:PE X (.BoolOp .And (b :: j7) pos) tb):PE X (.BoolOp .And (a :: b :: j7) pos) (Zq0 ta tb):=by
 intro dz s σ H Q I h;refine BoolOp_and (thn (ha dz s σ H _ I h) λv s1 ⟨x,H1,I1,r1,q1⟩=>?_);obtain ⟨c,rfl,q1⟩:=q1;cases r1;refine W5 ?_;cases c with
 | true=>exact hb dz s1 σ H1 Q I1 q1
 | false=>exact ⟨.bl false,H1,I1,rfl,q1⟩
def Qa7 (ha:PE X a ta):PE X (.UnaryOp .Not a pos) (Qoz ta):=by intro dz s σ H Q I h;refine UnaryOp_ (thn (ha dz s σ H _ I h) λv s1 ⟨x,H1,I1,r1,q1⟩=>?_);obtain ⟨c,rfl,q1⟩:=q1;cases r1;exact not_of (W5 ⟨.bl (!c),H1,I1,rfl,q1⟩)
def tIf (t:TT) (ta tb:TE):TE:=λσ H Q=>t σ H λc H1=>if c=true then ta σ H1 Q else tb σ H1 Q
theorem Kf (hc:PT X c tA) (ha:PE X a ta) (hb:PE X b tb):PE X (.IfExp c a b pos) (tIf tA ta tb):=by
 intro dz s σ H Q I h;refine wpAny_IfExp (thn (hc dz s σ H _ I h) λd s1 ⟨H1,I1,q1⟩=>?_);cases d with
 | true=>exact ha dz s1 σ H1 Q I1 q1
 | false=>exact hb dz s1 σ H1 Q I1 q1
end
def SqL (K:N5) (H:Hp) (a:G5) (xs:List V):Prop :=
 Rd H a (.lst xs) \/
  ∃ (o:Obj) (its:Array G3) (n:Nat),K.lookup a=some o/\o.cls=.type "list"/\o.dict=none/\o.data=.seq its n/\its.size<=sizeLine/\Xq xs its.toList
def SqT (K:N5) (H:Hp) (a:G5) (xs:List V):Prop :=
 Rd H a (.tup xs) \/
  ∃ (o:Obj) (its:Array G3) (n:Nat),K.lookup a=some o/\o.cls=.type "tuple"/\o.data=.seq its n/\its.size<=sizeLine/\Xq xs its.toList
def Zj1:G3->Option V
 | .none=>some .non
 | .bool b=>some (.bl b)
 | .int i _=>some (.int i)
 | .str x _=>some (.str x)
 | .bytes b _=>some (.byt b)
 | .float b _=>some (.flt b)
 | .ref a=>some (.ref a)
 | .type n=>some (.ty n)
 | _=>none
theorem Ys.abs {x:V} (r:Ys x u):Zj1 u=some x:=by
 cases x with
 | non=>cases r; rfl
 | bl _=>cases r; rfl
 | int _=>obtain ⟨t,rfl⟩:=r; rfl
 | str _=>obtain ⟨t,rfl⟩:=r; rfl
 | byt _=>obtain ⟨t,rfl⟩:=r; rfl
 | flt _=>obtain ⟨t,rfl⟩:=r; rfl
 | ref _=>cases r; rfl
 | ty _=>cases r; rfl
def Ys.inj {x y:V} {u:G3} (r:Ys x u) (q:Ys y u):x=y:=R5 (r.abs.symm.trans q.abs)
theorem Xq.inj:∀ {xs ys:List V} {us:K8},Xq xs us->Xq ys us->xs=ys
 | _,_,_,.nil,.nil=>rfl
 | _,_,_,.cons r t,.cons r' t'=>by rw [r.inj r',Xq.inj t t']
section
variable {xs ys:List V}
def SqL.of (h:H a=some (.lst xs)):SqL K H a xs:=.inl (.inl h)
def SqT.of (h:H a=some (.tup xs)):SqT K H a xs:=.inl (.inl h)
theorem Inv.list (I:Inv X dz σ H s) (h:SqL X.K H a xs):∃ its:K8,Xq xs its/\PlainL s.heap a its.toArray/\xs.length<=sizeLine:=by
 rcases h with h | ⟨o,its,n,hk,hc,hd,hs,hz,r⟩
 ·obtain ⟨z,its,n,r,e⟩:=h.ok I.hok;exact ⟨its,r,⟨_,n,e,rfl,rfl,rfl⟩,z⟩
 ·refine ⟨its.toList,r,⟨o,n,I.kIn a o hk,hc,hd,by simpa using hs⟩,?_⟩;have e:=r.length;simp only [Array.length_toList] at e;lia
theorem Inv.tuple (I:Inv X dz σ H s) (h:SqT X.K H a xs):∃ its:K8,Xq xs its/\IsTup s.heap a its.toArray/\xs.length<=sizeLine:=by
 rcases h with h | ⟨o,its,n,hk,hc,hs,hz,r⟩
 ·obtain ⟨z,its,r,p⟩:=h.ok I.hok;exact ⟨its,r,p,z⟩
 ·refine ⟨its.toList,r,⟨o,I.kIn a o hk,hc,n,by simpa using hs⟩,?_⟩;have e:=r.length;simp only [Array.length_toList] at e;lia
def Inv.list_inj (I:Inv X dz σ H s) (h:SqL X.K H a xs) (h':SqL X.K H a ys):xs=ys:=by
 obtain ⟨its,r,⟨o,n,e,_,_,d⟩,_⟩:=I.list h;obtain ⟨its',r',⟨o',n',e',_,_,d'⟩,_⟩:=I.list h';rw [e] at e'; cases e';rw [d] at d';injection d' with d1 _
 have:its=its':=by simpa using W8 Array.toList d1
 subst this;exact r.inj r'
def Inv.tuple_inj (I:Inv X dz σ H s) (h:SqT X.K H a xs) (h':SqT X.K H a ys):xs=ys:=by
 obtain ⟨its,r,⟨o,e,_,n,d⟩,_⟩:=I.tuple h;obtain ⟨its',r',⟨o',e',_,n',d'⟩,_⟩:=I.tuple h';rw [e] at e'; cases e';rw [d] at d';injection d' with d1 _
 have:its=its':=by simpa using W8 Array.toList d1
 subst this;exact r.inj r'
end
abbrev Cx.wish (X:Cx) (E:K5):Cx:={ X with xe:=E }
abbrev Cx.nox (X:Cx):Cx:=X.wish λ_ _=>False
def Cx.Ok.wish (ok:X.Ok) (E:K5):(X.wish E).Ok :=⟨ok.mod,ok.kind,ok.glob,ok.blt,ok.above,ok.inj,ok.has,ok.cab,ok.hd,ok.frames,ok.stk,ok.exf,ok.bs,ok.bsz,ok.noex,ok.exfs,ok.dj,ok.frf⟩
def Cx.Ok.cu (ok:(X.wish E).Ok):X.Ok :=⟨ok.mod,ok.kind,ok.glob,ok.blt,ok.above,ok.inj,ok.has,ok.cab,ok.hd,ok.frames,ok.stk,ok.exf,ok.bs,ok.bsz,ok.noex,ok.exfs,ok.dj,ok.frf⟩
section
def Inv.wish (I:Inv X dz σ H s) (E:K5):Inv (X.wish E) dz σ H s:=⟨I.ok.wish E,I.os,I.bare,I.base,I.loc,I.cell,I.free,I.cg,I.pin,I.hok,I.len⟩
def Inv.cu (I:Inv (X.wish E) dz σ H s):Inv X dz σ H s:=⟨I.ok.cu,I.os,I.bare,I.base,I.loc,I.cell,I.free,I.cg,I.pin,I.hok,I.len⟩
theorem SP.cu {D:Iw} {f:Flow} {s':G4} (h:SP (X.wish E) dz D f s'):SP X dz D f s':=by
 cases f with
 | next=>obtain ⟨σ',H',I,q⟩:=h; exact ⟨σ',H',I.cu,q⟩
 | brk=>obtain ⟨σ',H',I,q⟩:=h; exact ⟨σ',H',I.cu,q⟩
 | cont=>obtain ⟨σ',H',I,q⟩:=h; exact ⟨σ',H',I.cu,q⟩
 | ret u=>obtain ⟨v,σ',H',I,r,q⟩:=h; exact ⟨v,σ',H',I.cu,r,q⟩
def PT.nox {t:TT} (h:PT X.nox e t):PT X e t:=λdz s σ H Q I hw =>S9 (h dz s σ H Q (I.wish _) hw) (λ_ _ ⟨H',I',q⟩=>⟨H',I'.cu,q⟩) λ_ _ z=>False.elim z
def PSs.nox {st:List Stmt} {t:TS} (h:PSs X.nox st t):PSs X st t:=λdz s σ H D I hw =>S9 (h dz s σ H D (I.wish _) hw) (λ_ _ q=>q.cu) λ_ _ z=>False.elim z
end
section
variable {st:Stmt} {j7:List Stmt} {t u:TS} {te:TE}
def Qox:TS:=λD σ H=>D.nx σ H
def Zz0 (t u:TS):TS:=λD σ H=>t { D with nx:=u D } σ H
def Qp:PSs X [] Qox:=λ_ _ σ H _ I h=>Z9 ⟨σ,H,I,h⟩
theorem Qw (h1:PS X st t) (h2:PSs X j7 u):PSs X (st :: j7) (Zz0 t u):=by
 intro dz s σ H D I h;refine wpAny_execs_cons (thn (h1 dz s σ H { D with nx:=u D } I h) λf s1 q=>?_);cases f with
 | next =>obtain ⟨σ',H',I',q⟩:=q;exact h2 dz s1 σ' H' D I' q
 | ret v=>exact q
 | brk=>exact q
 | cont=>exact q
theorem Qm (h1:PS X st t):PSs X [st] t:=by
 intro dz s σ H D I h;refine wpAny_execs_cons (thn (h1 dz s σ H D I h) λf s1 q=>?_);cases f with
 | next=>exact Z9 q
 | ret v=>exact q
 | brk=>exact q
 | cont=>exact q
def Inv.quiet (I:Inv X dz σ H s):interactive X.env=false:=by simp [interactive,I.ok.kind]
def Qow (te:TE):TS:=λD σ H=>te σ H λ_ H1=>D.nx σ H1
def Xt (he:PE X e te) (hs:swapsWith e none pos.line X.env=pure false:=by rfl):PS X (.Expr e pos) (Qow te):=by intro dz s σ H D I h;exact wpAny_Expr_any (thn (he dz s σ H _ I h) λv s1 ⟨x,H1,I1,r1,q1⟩=>⟨σ,H1,I1,q1⟩) I.quiet hs
def Zz1 (te:TE):TS:=λD σ H=>te σ H D.rt
def Qik (he:PE X e te):PS X (.Return (some e) pos) (Zz1 te):=by intro dz s σ H D I h;exact wpAny_Return_some (thn (he dz s σ H _ I h) λv s1 ⟨x,H1,I1,r1,q1⟩=>⟨x,σ,H1,I1,r1,q1⟩)
def Zx6 (c:TT) (t u:TS):TS:=λD σ H=>c σ H λb H1=>if b=true then t D σ H1 else u D σ H1
theorem Qa {a b:List Stmt} {tc:TT} (hc:PT X c tc) (ha:PSs X a t) (hb:PSs X b u):PS X (.If c a b pos) (Zx6 tc t u):=by
 intro dz s σ H D I h;refine wpAny_If (thn (hc dz s σ H _ I h) λd s1 ⟨H1,I1,q1⟩=>?_);cases d with
 | true=>exact ha dz s1 σ H1 D I1 q1
 | false=>exact hb dz s1 σ H1 D I1 q1
def Qi3:TS:=λ_ _ _=>False
def Qp9:PS X st Qi3:=λ_ _ _ _ _ _ h=>h.elim
end
abbrev TG:=V->St->Hp->(St->Hp->Prop)->Prop
variable {g:TG}
abbrev TGs:=List V->St->Hp->(St->Hp->Prop)->Prop
def PG (X:Cx) (jc:Expr) (t:TG):Prop :=
 ∀ (dz:G9) (s:G4) (σ:St) (H:Hp) (v:V) (u:G3) (Q:St->Hp->Prop),Inv X dz σ H s->Ys v u->t v σ H Q ->
  wpAny (model X.prog X.w) X.A (assign jc X.env u) (λ_ s' => ∃ σ' H',Inv X dz σ' H' s'/\Q σ' H') X.xe s
def PGs (X:Cx) (ts:M7) (t:TGs):Prop :=
 ∀ (dz:G9) (s:G4) (σ:St) (H:Hp) (vs:List V) (us:K8) (Q:St->Hp->Prop),Inv X dz σ H s->Xq vs us->t vs σ H Q ->
  wpAny (model X.prog X.w) X.A (assignInOrder ((assignEach ts X.env).map (·.2)) us) (λ_ s' => ∃ σ' H',Inv X dz σ' H' s'/\Q σ' H') X.xe s
abbrev Qo5:=V->V->V->Hp->(Hp->Prop)->Prop
def Zzk (X:Cx) (t:Qo5):Prop :=
 ∀ (dz:G9) (s:G4) (σ:St) (H:Hp) (o i v:V) (ov iv u:G3) (Q:Hp->Prop),Inv X dz σ H s->Ys o ov->Ys i iv->Ys v u->t o i v H Q ->
  wpAny (model X.prog X.w) X.A (setItem ov iv u) (λ_ s' => ∃ H',Inv X dz σ H' s'/\Q H') X.xe s
section
def Jl (i:Nat):TG:=λv σ H Q=>Q (σ.set i (some v)) H
def Ts (hN:X.N.Nodup) (hi:X.N[i]? = some x) (hx:Loc X.env.scope x) (hf:X.fn x=true\/X.env.scope.names.lookup x=some .local:=by first | exact .inl rfl | exact .inr rfl | assumption):PG X (.Name x pos) (Jl i):=by intro dz s σ H v u Q I r h;exact wpAny_assign_Name (Rr I hN hi hx r (λs' I'=>⟨_,H,I',h⟩) hf)
def Zxk:TGs:=λvs σ H Q=>vs=[]/\Q σ H
inductive GCo (t:TG) (u:TGs) (vs:List V) (σ:St) (H:Hp) (Q:St->Hp->Prop):Prop
 | mk (v:V) (r:List V) (e:vs=v :: r) (q:t v σ H λσ' H'=>u r σ' H' Q)
def Zqz (t:TG) (u:TGs):TGs:=GCo t u
def Vj:PGs X [] Zxk:=by intro dz s σ H vs us Q I r h;obtain ⟨e,h⟩:=h;subst e;cases r;exact assignInOrder_nil ⟨σ,H,I,h⟩
theorem Zw {es:M7} {t:TG} {u:TGs} (h1:PG X e t) (h2:PGs X es u)
  (hs:(assignEach (e :: es) X.env).map (·.2)=assign e X.env :: (assignEach es X.env).map (·.2):=by rfl):PGs X (e :: es) (Zqz t u):=by
 intro dz s σ H vs us Q I r h;obtain ⟨v,vr,e1,h⟩:=h;subst e1;cases r with
 | cons r rr =>rw [hs];refine assignInOrder_cons (thn (h1 dz s σ H _ _ _ I r h) λ_ s1 ⟨σ1,H1,I1,q1⟩=>?_);exact h2 dz s1 σ1 H1 _ _ Q I1 rr q1
inductive GTu (K:N5) (n:Nat) (t:TGs) (v:V) (σ:St) (H:Hp) (Q:St->Hp->Prop):Prop
 | mk (a:G5) (xs:List V) (e:v=.ref a) (q:SqT K H a xs/\xs.length=n/\t xs σ H Q)
def Zzj (K:N5) (n:Nat) (t:TGs):TG:=GTu K n t
def Qa4 {es:M7} {t:TGs} {n:Nat} (hc:X.calm=true) (h:PGs X es t)
  (hn:(assignEach es X.env).length=n:=by rfl) (hst:(assignEach es X.env).findIdx? (·.1)=none:=by rfl):PG X (.Tuple es k pos) (Zzj X.K n t):=by
 intro dz s σ H v u Q I r hw;obtain ⟨a,xs,e1,hq,hl,hw⟩:=hw;subst e1;cases r;obtain ⟨its,rv,ht,hz⟩:=I.tuple hq;refine assign_Tuple_tuple (I.ok.hd hc) ht (by simp [hn,<- hl,rv.length]) hst λh' hx=>?_;have I1:Inv X dz σ H { s with heap:=h' }:=I.kept (t':=s.toks) λb o e=>hx b o (O9 (O5 e)) e;exact h dz _ σ H xs _ Q I1 (by simpa using rv) hw
def Zxw (to ti:TE) (t:Qo5):TG:=λv σ H Q=>to σ H λo H1=>ti σ H1 λi H2=>t o i v H2 λH3=>Q σ H3
def Fa {o i:Expr} {to ti:TE} {t:Qo5} (ho:PE X o to) (hi:PE X i ti) (hs:Zzk X t)
  (ha:∀ v,assign (.Subscript o i pos) X.env v=(do
   let ov <- holding [v] (eval o X.env)
   let iv <- holding [v,ov] (eval i X.env)
   standAt pos
   holding [v,ov,iv] (setItem ov iv v)
   release [v,ov,iv] []):=by intro _; rfl):PG X (.Subscript o i pos) (Zxw to ti t):=by
 intro dz s σ H v u Q I r h;rw [ha];refine M9 (U5 (thn (ho dz s σ H _ I h) λov s1 ⟨x,H1,I1,r1,q1⟩=>?_));refine M9 (U5 (thn (hi dz s1 σ H1 _ I1 q1) λiv s2 ⟨y,H2,I2,r2,q2⟩=>?_));refine M9 (A0a (M9 (U5 (thn (hs dz s2 σ H2 x y v ov iv u _ I2 r1 r2 r q2) λ_ s3 ⟨H3,I3,q3⟩=>?_))));exact wpAny_release ⟨σ,H3,I3,q3⟩
def Qn9 (te:TE) (g:TG):TS:=λD σ H=>te σ H λx H1=>g x σ H1 D.nx
def Uv {te:TE} (he:PE X e te) (hg:PG X tg g) (hs:swapsWithSole [tg] e pos.line X.env=pure false:=by rfl) (hw:swappedStores [tg] e X.env=pure none:=by rfl)
  (h1:(assignEach [tg] X.env).map (·.2)=[assign tg X.env]:=by rfl):PS X (.Assign [tg] e pos) (Qn9 te g):=by
 intro dz s σ H D I h;refine wpAny_Assign_stores (thn (he dz s σ H _ I h) λv s1 ⟨x,H1,I1,r1,q1⟩=>?_) hs hw;rw [h1];exact thn (hg dz s1 σ H1 x v _ I1 r1 q1) λ_ s2 q=>q
def Qiw {te:TE} {j5:Pos} (hN:X.N.Nodup) (hi:X.N[i]? = some x) (hx:Loc X.env.scope x) (he:PE X e te) (hs:swapsWith e (some (.Name x j5)) pos.line X.env=pure false:=by rfl) (hf:X.fn x=true\/X.env.scope.names.lookup x=some .local:=by first | exact .inl rfl | exact .inr rfl | assumption) :
  PS X (.Assign [.Name x j5] e pos) (Qn9 te (Jl i)):=by
 intro dz s σ H D I h;refine wpAny_Assign_Name (thn (he dz s σ H _ I h) λv s1 ⟨y,H1,I1,r1,q1⟩=>?_) hs;exact Rr I1 hN hi hx r1 (λs2 I2=>⟨_,H1,I2,q1⟩) hf
def Zx3 (i j:Nat) (ta:TA):TS:=λD σ H=>ta σ H λvs H1 => ∃ v w,vs=[v,w]/\D.nx ((σ.set i (some v)).set j (some w)) H1
theorem Qa0 {i j:Nat} {x y:Str} {a b:Expr} {ta:TA} {px py pt:Pos} {kt k2 pt2} (hc:X.calm=true) (hN:X.N.Nodup) (hi:X.N[i]? = some x) (hj:X.N[j]? = some y) (hij:i≠j)
  (hx:X.env.scope.names.lookup x=some .local) (hy:X.env.scope.names.lookup y=some .local) (ha:PA X [a,b] ta)
  (hw:swappedStores [.Tuple [.Name x px,.Name y py] kt pt] (.Tuple [a,b] k2 pt2) X.env=pure (some [x,y]))
  (hs:swapsWithSole [.Tuple [.Name x px,.Name y py] kt pt] (.Tuple [a,b] k2 pt2) pos.line X.env=pure false:=by rfl) :
  PS X (.Assign [.Tuple [.Name x px,.Name y py] kt pt] (.Tuple [a,b] k2 pt2) pos) (Zx3 i j ta):=by
 intro dz s σ H D I h;rw [exec_Assign_arm];refine M9 (A0a ?_);rw [hs];refine M9 (N6 ?_);rw [if_neg (by decide)];refine M9 (Tuple_ (thn (ha _ dz s σ H _ I h) λus s1 ⟨vs,H1,I1,r1,q1⟩=>?_));obtain ⟨v,w,e1,q1⟩:=q1;subst e1;obtain ⟨u1,u2,rfl,rv,rw'⟩:∃ u1 u2,us=[u1,u2]/\Ys v u1/\Ys w u2:=by
  cases r1 with
  | cons p q =>
   cases q with
   | cons p' q' =>cases q';exact ⟨_,_,rfl,p,p'⟩
 refine V2 ?_ (by show 2<=sizeLine; decide);have I2:Inv X dz σ H1 { s1 with heap:=s1.heap.push { cls:=.type "tuple",data:=.seq [u1,u2].toArray } }:=I1.kept (t':=s1.toks) λb o e=>O3 _ e;rw [hw];refine M9 (N6 ?_);show wpAny (model X.prog X.w) X.A (do rule "assign.swapped-stores"; let items <- unpackItems (.ref s1.heap.objs.size) 2 none; assignInOrder [λv=>bindName X.env y v,λv=>bindName X.env x v] items.reverse; pure Flow.next) _ _ _;refine M9 (wpAny_rule (M9 (unpackItems_tuple (items:=#[u1,u2]) (I.ok.hd hc) (IsTup.new s1.heap _) λh' hx'=>?_)));have I3:=I2.kept (h':=h') (t':=s1.toks) λb o e=>hx' b o (O9 (O5 e)) e;show wpAny _ _ (assignInOrder [λv=>bindName X.env y v,λv=>bindName X.env x v] [u2,u1] >>= λ_=>pure Flow.next) _ _ _;refine M9 (assignInOrder_cons (wpAny_bindName (Rr I3 hN hj (.inl hy) rw' (λs2 I4=>?_) (.inr hy))));refine assignInOrder_cons (wpAny_bindName (Rr I4 hN hi (.inl hx) rv (λs3 I5=>assignInOrder_nil (N6 ?_)) (.inr hx)));rw [set_comm _ _ (Ne.symm hij)] at I5;exact ⟨_,H1,I5,q1⟩
end
section
def Qi1 (c:TT) (tb:TS):TS:=λD σ H => ∃ W:Nat->St->Hp->Prop,(∃ m,W m σ H)/\∀ m σ H,W m σ H ->
 c σ H λb H1=>if b=true then ∃ N:St->Hp->Prop,(∀ σ' H',N σ' H'->∃ m',m' < m/\W m' σ' H')/\tb { D with nx:=N,ct:=N,bk:=D.nx } σ H1 else D.nx σ H1
theorem Nr {tc:TT} (hp:PassesOwn (model X.prog X.w) X.A X.env X.xe) (hc:PT X c tc) (hb:PSs X body tb):PS X (.While c body [] pos) (Qi1 tc tb):=by
 intro dz s σ H D I h;obtain ⟨W,⟨m0,w0⟩,turn⟩:=h;refine wpAny_While (codeAny_whileLoop (λn s' => ∃ σ' H',Inv X dz σ' H' s'/\W n σ' H') ?_ m0 ⟨σ,H,I,w0⟩);rintro n s1 ⟨σ1,H1,I1,w1⟩;refine Z2 hp (thn (hc dz s1 σ1 H1 _ I1 (turn n σ1 H1 w1)) λb s2 ⟨H2,I2,q2⟩=>?_);cases b with
 | true =>
  obtain ⟨N,hN,q2⟩:=q2;rw [if_pos rfl];refine Z2 hp (thn (hb dz s2 σ1 H2 _ I2 q2) λf s3 q3=>?_);cases f with
  | next =>obtain ⟨σ3,H3,I3,n3⟩:=q3;obtain ⟨m',hm,w3⟩:=hN σ3 H3 n3;exact ⟨m',hm,σ3,H3,I3,w3⟩
  | cont =>obtain ⟨σ3,H3,I3,n3⟩:=q3;obtain ⟨m',hm,w3⟩:=hN σ3 H3 n3;exact ⟨m',hm,σ3,H3,I3,w3⟩
  | brk=>exact q3
  | ret v=>exact q3
 | false =>rw [if_neg Bool.false_ne_true];exact Z9 ⟨σ1,H2,I2,q2⟩
end
structure It where
 go:Nat->Hp->Prop
 yld:Nat->Hp->V->Hp->Prop
 stop:Nat->Hp->Prop
def Ku (X:Cx) (dz:G9) (H:Hp) (b:G5):Prop :=H b=none/\b≠X.env.locals/\b ∉ X.fs/\(b∈X.ex\/X.s₀.heap.objs.size<=b)/\(∀ x c,X.env.cells.lookup x=some c->c≠b)/\∀ p∈X.pn ++ dz,p.1≠b
def Inv.fpOk {H':Hp} (I:Inv X dz σ H s) (hb:s.heap.objs.size<=b) (hn:H' b=none):Ku X dz H' b:=by
 refine ⟨hn,A0b (T6 I.lt hb),I.nofs hb,.inr (R4 I.sz hb),λx c e z=>?_,λp hp z=>?_⟩
 ·obtain ⟨v,q⟩:=I.cell x c e;exact absurd (T6 q.lt (by rw [z]; exact hb)) (V1 _)
 ·exact absurd (T6 (O5 (I.pin p hp).1) (by rw [z]; exact hb)) (V1 _)
structure Qd3 (P:G8) (w:World) (K:N5) (tg:Expr) (J:It) (fp:K9) (it:G5) (tn:Nat->Heap->Prop):Prop where
 mem:it∈fp
 obj:∀ i h,tn i h->∀ b∈fp,∃ o,h.get? b=some o/\∀ v,o.data≠.cell v
 keep:∀ i h h',tn i h->(∀ b∈fp,∀ o,h.get? b=some o->h'.get? b=some o)->tn i h'
 item:∀ (X:Cx),X.prog=P->X.w=w->X.K=K->X.calm=true->∀ (i:Nat) (dz:G9) (s:G4) (σ:St) (H:Hp) (E:K5),Inv X dz σ H s->(∀ b∈fp,Ku X dz H b)->tn i s.heap->J.go i H ->
  wpAny (model P w) X.A (pyNext (.ref it)) (λr s1 => ∃ u,r=some u /\
   wpAny (model P w) X.A (letOwnedTupleGo tg (.ref it) u) (λ_ s2 => ∃ x H',Inv X dz σ H' s2/\Ys x u/\J.yld i H x H'/\tn (i + 1) s2.heap/\∀ b∈fp,H' b=none) E s1) E s
 done:∀ (X:Cx),X.prog=P->X.w=w->X.K=K->X.calm=true->∀ (i:Nat) (dz:G9) (s:G4) (σ:St) (H:Hp) (E:K5),Inv X dz σ H s->(∀ b∈fp,Ku X dz H b)->tn i s.heap->J.stop i H ->
  wpAny (model P w) X.A (pyNext (.ref it)) (λr s1=>r=none/\Inv X dz σ H s1) E s
 self:∀ (A:G7) (i:Nat) (s:G4) (Q:K5) (E:K5),tn i s.heap->Q (.ref it) s->wpAny (model P w) A (pyIter (.ref it)) Q E s
abbrev TI:=St->Hp->(It->Hp->Prop)->Prop
def PIE (X:Cx) (dz:G9) (σ:St) (tg:Expr) (R:It->Hp->Prop) (itv:G3) (s2:G4):Prop :=∃ (it:G5) (fp:K9) (tn:Nat->Heap->Prop) (J:It) (H':Hp),itv=.ref it/\Inv X dz σ H' s2/\Qd3 X.prog X.w X.K tg J fp it tn/\tn 0 s2.heap/\(∀ b∈fp,Ku X dz H' b)/\R J H'
def PI (X:Cx) (tg iter:Expr) (wi:TI):Prop :=
 ∀ (dz:G9) (s:G4) (σ:St) (H:Hp) (R:It->Hp->Prop),Inv X dz σ H s->wi σ H R ->
  wpAny (model X.prog X.w) X.A (eval iter X.env) (λv s1=>wpAny (model X.prog X.w) X.A (pyIter v) (PIE X dz σ tg R) X.xe s1) X.xe s
theorem Qgq {it:G5} {n:String} {vs:Array G3} (ho:s.heap.get? it=some o) (hc:o.cls=.type n) (hd:o.data=.fields vs)
  (hn:["enumerate","zip","dict_itemiterator","dict_reverseitemiterator","odict_iterator","itertools.zip_longest","itertools.pairwise"].contains n=false) (hQ:Q () s):wpAny M A (letOwnedTupleGo tg (.ref it) u) Q E s:=by
 unfold letOwnedTupleGo;cases tg <;> first
  | exact N6 hQ
  | (cases u <;> first
    | exact N6 hQ
    | (refine M9 (wpAny_load ho ?_)
       rw [hc,hd];show wpAny M A (if (["enumerate","zip","dict_itemiterator","dict_reverseitemiterator","odict_iterator","itertools.zip_longest","itertools.pairwise"].contains n && vs[0]? == some (rawInt _))=true then _ else _) Q E s;rw [if_neg (by intro h; rw [hn,Bool.false_and] at h; cases h)];exact N6 hQ))
def Itl (K:N5) (a:G5):It :=⟨λi H => ∃ xs x,SqL K H a xs/\xs[i]? = some x,λi H x H'=>H'=H/\∀ xs,SqL K H a xs->xs[i]? = some x,λi H => ∃ xs,SqL K H a xs/\xs.length<=i⟩
def Itt (K:N5) (a:G5):It :=⟨λi H => ∃ xs x,SqT K H a xs/\xs[i]? = some x,λi H x H'=>H'=H/\∀ xs,SqT K H a xs->xs[i]? = some x,λi H => ∃ xs,SqT K H a xs/\xs.length<=i⟩
def Itr (lo:Int) (n:Nat):It:=⟨λi _=>i < n,λi H x H'=>H'=H/\x=.int (lo + i),λi _=>n<=i⟩
theorem Qv9 (a it:G5):Qd3 P w K tg (Itl K a) [it] it (λi h=>h.IsListIter it a i) where
 mem:=by simp
 obj:=λi h st b hb=>by
  have e:b=it:=by simpa using hb
  subst e;obtain ⟨o,e,c,d⟩:=st;exact ⟨o,e,λv z=>by rw [d] at z; cases z⟩
 keep:=λi h h' st k=>st.at λo e=>k it (by simp) o e
 item:=by intro X hP hw hK hc i dz s σ H E I hf st hg;subst hP hw hK;obtain ⟨xs,x,hq,hx⟩:=hg;obtain ⟨its,rv,p,hz⟩:=I.list hq;obtain ⟨u,hu,ru⟩:=rv.get hx;obtain ⟨f0,f1,f2,f3,f4,f5⟩:=hf it (by simp);refine wpAny_pyNext_list_item st p.isList (x:=u) (by simpa using hu) λh' st' sb=>?_;have I1:Inv X dz σ H { s with heap:=h' }:=I.turned (t':=s.toks) (λb o hb e=>(sb.2 b hb).trans e) f0 f1 f3 f4 f5;obtain ⟨o,e,c,d⟩:=id st';exact ⟨u,rfl,Qgq (s:={ s with heap:=h' }) e c d (by decide) ⟨x,H,I1,ru,⟨rfl,λys hy=>by rw [I.list_inj hy hq]; exact hx⟩,st',λb hb=>(hf b hb).1⟩⟩
 done:=by intro X hP hw hK hc i dz s σ H E I hf st hg;subst hP hw hK;obtain ⟨xs,hq,hx⟩:=hg;obtain ⟨its,rv,p,hz⟩:=I.list hq;obtain ⟨f0,f1,f2,f3,f4,f5⟩:=hf it (by simp);have hl:=rv.length;exact wpAny_pyNext_list_end (I.ok.hd hc) st p.isList (by simp; lia) λh' eb=>⟨rfl,I.turned (t':=s.toks) (λb o hb e=>eb b o hb e) f0 f1 f3 f4 f5⟩
 self:=λ_ _ _ _ _ st h=>wpAny_pyIter_listiter st h
theorem Ip (a it:G5):Qd3 P w K tg (Itt K a) [it] it (λi h=>h.IsTupleIter it a i) where
 mem:=by simp
 obj:=λi h st b hb=>by
  have e:b=it:=by simpa using hb
  subst e;obtain ⟨o,e,c,d⟩:=st;exact ⟨o,e,λv z=>by rw [d] at z; cases z⟩
 keep:=λi h h' st k=>st.at λo e=>k it (by simp) o e
 item:=by intro X hP hw hK hc i dz s σ H E I hf st hg;subst hP hw hK;obtain ⟨xs,x,hq,hx⟩:=hg;obtain ⟨its,rv,p,hz⟩:=I.tuple hq;obtain ⟨u,hu,ru⟩:=rv.get hx;obtain ⟨f0,f1,f2,f3,f4,f5⟩:=hf it (by simp);refine wpAny_pyNext_tuple_item st (show s.heap.IsTuple a its.toArray from p) (x:=u) (by simpa using hu) λh' st' sb=>?_;have I1:Inv X dz σ H { s with heap:=h' }:=I.turned (t':=s.toks) (λb o hb e=>(sb.2 b hb).trans e) f0 f1 f3 f4 f5;obtain ⟨o,e,c,d⟩:=id st';exact ⟨u,rfl,Qgq (s:={ s with heap:=h' }) e c d (by decide) ⟨x,H,I1,ru,⟨rfl,λys hy=>by rw [I.tuple_inj hy hq]; exact hx⟩,st',λb hb=>(hf b hb).1⟩⟩
 done:=by intro X hP hw hK hc i dz s σ H E I hf st hg;subst hP hw hK;obtain ⟨xs,hq,hx⟩:=hg;obtain ⟨its,rv,p,hz⟩:=I.tuple hq;obtain ⟨f0,f1,f2,f3,f4,f5⟩:=hf it (by simp);have hl:=rv.length;exact wpAny_pyNext_tuple_end (I.ok.hd hc) st (show s.heap.IsTuple a its.toArray from p) (by simp; lia) λh' eb=>⟨rfl,I.turned (t':=s.toks) (λb o hb e=>eb b o hb e) f0 f1 f3 f4 f5⟩
 self:=λ_ _ _ _ _ st h=>wpAny_pyIter_tupleiter st h
theorem Ih (it:G5) (lo:Int) (n:Nat):Qd3 P w K tg (Itr lo n) [it] it (λi h=>IsRangeIter h it (lo + (i:Nat) * 1) ((n:Int) - (i:Nat)) 1) where
 mem:=by simp
 obj:=λi h st b hb=>by
  have e:b=it:=by simpa using hb
  subst e;exact ⟨_,st,λv z=>by have z':Data.fields _=Data.cell v:=z;cases z'⟩
 keep:=λi h h' st k=>k it (by simp) _ st
 item:=by intro X hP hw hK hc i dz s σ H E I hf st hg;subst hP hw hK;obtain ⟨f0,f1,f2,f3,f4,f5⟩:=hf it (by simp);have W:=Walks.range (prog:=X.prog) (w:=X.w) (I.ok.hd hc) it lo 1 n;refine W.item i s _ _ hg st λv h' tk hv st' kk=>?_;obtain ⟨t,rfl⟩:=hv;have I1:Inv X dz σ H { s with heap:=h',toks:=tk }:=I.turned (λb o hb e=>kk b o (by simpa using hb) e) f0 f1 f3 f4 f5;refine ⟨_,rfl,Qgq (s:={ s with heap:=h',toks:=tk }) (n:="range_iterator") st' rfl rfl (by decide) ⟨.int (lo + i),H,I1,⟨t,?_⟩,⟨rfl,rfl⟩,st',λb hb=>(hf b hb).1⟩⟩;rw [Int.mul_one]
 done:=by intro X hP hw hK hc i dz s σ H E I hf st hg;subst hP hw hK;obtain ⟨f0,f1,f2,f3,f4,f5⟩:=hf it (by simp);exact wpAny_pyNext_range_end (I.ok.hd hc) st (by have:n<=i:=hg; lia) λh' eb=>⟨rfl,I.turned (t':=s.toks) (λb o hb e=>eb b o hb e) f0 f1 f3 f4 f5⟩
 self:=λ_ _ _ _ _ st h=>wpAny_pyIter_rangeiter st h
section
def Qdx (K:N5) (tl:TE):TI:=λσ H R=>tl σ H λx H1 => ∃ a,x=.ref a/\(∃ xs,SqL K H1 a xs)/\R (Itl K a) H1
def Zzx (K:N5) (tl:TE):TI:=λσ H R=>tl σ H λx H1 => ∃ a,x=.ref a/\(∃ xs,SqT K H1 a xs)/\R (Itt K a) H1
def Ql8 {l:Expr} {tl:TE} (hl:PE X l tl):PI X tg l (Qdx X.K tl):=by
 intro dz s σ H R I h;refine thn (hl dz s σ H _ I h) λv s1 ⟨x,H1,I1,r1,q1⟩=>?_;obtain ⟨a,e,⟨xs,hq⟩,q⟩:=q1;subst e;cases r1;obtain ⟨its,rv,p,hz⟩:=I1.list hq;refine X6 p.isList ?_;refine ⟨s1.heap.objs.size,[s1.heap.objs.size],_,_,H1,rfl,I1.kept (t':=s1.toks) λb o e=>O3 _ e,Qv9 a _,⟨_,Q5 _ rfl,rfl,rfl⟩,λb hb=>?_,q⟩;have e:b=s1.heap.objs.size:=by simpa using hb
 subst e;exact I1.fpOk (O7 _) (I1.hok.fresh (O7 _))
def Qa3 {l:Expr} {tl:TE} (hl:PE X l tl):PI X tg l (Zzx X.K tl):=by
 intro dz s σ H R I h;refine thn (hl dz s σ H _ I h) λv s1 ⟨x,H1,I1,r1,q1⟩=>?_;obtain ⟨a,e,⟨xs,hq⟩,q⟩:=q1;subst e;cases r1;obtain ⟨its,rv,p,hz⟩:=I1.tuple hq;refine wpAny_pyIter_tuple (show s1.heap.IsTuple a its.toArray from p) ?_;refine ⟨s1.heap.objs.size,[s1.heap.objs.size],_,_,H1,rfl,I1.kept (t':=s1.toks) λb o e=>O3 _ e,Ip a _,⟨_,Q5 _ rfl,rfl,rfl⟩,λb hb=>?_,q⟩;have e:b=s1.heap.objs.size:=by simpa using hb
 subst e;exact I1.fpOk (O7 _) (I1.hok.fresh (O7 _))
theorem Ab {R:It->Hp->Prop} {lo hi:Int} {t u v:Tok} {tk:Nat} (I:Inv X dz σ H s) (h1:-(2 ^ 62)<=lo) (h2:lo < 2 ^ 62) (h3:-(2 ^ 62)<=hi) (h4:hi < 2 ^ 62)
  (q:R (Itr lo (hi - lo).toNat) H):wpAny (model X.prog X.w) X.A (pyIter (.ref s.heap.objs.size)) (PIE X dz σ tg R) E { s with heap:=s.heap.push { cls:=.type "range",data:=.fields #[.int lo t,.int hi u,.int 1 v] },toks:=tk }:=by
 refine wpAny_pyIter_range (IsRange.new ..) (small_one h1 h2 h3 h4) ?_;have I1:Inv X dz σ H { s with heap:=s.heap.push { cls:=.type "range",data:=.fields #[.int lo t,.int hi u,.int 1 v] },toks:=tk }:=I.kept λb o e=>O3 _ e;refine ⟨(s.heap.push { cls:=.type "range",data:=.fields #[.int lo t,.int hi u,.int 1 v] }).objs.size,[(s.heap.push { cls:=.type "range",data:=.fields #[.int lo t,.int hi u,.int 1 v] }).objs.size],_,_,H,rfl,
  I1.kept (t':=tk) λb o e=>O3 _ e,Ih _ lo (hi - lo).toNat,?_,λb hb=>?_,q⟩
 ·have e1:lo + ((0:Nat):Int) * 1=lo:=by simp
  have e2:(((hi - lo).toNat:Nat):Int) - ((0:Nat):Int)=Builtin.Range.rangeSize lo hi 1:=by rw [rangeSize_one]; split <;> lia
  show IsRangeIter _ _ (lo + ((0:Nat):Int) * 1) ((((hi - lo).toNat:Nat):Int) - ((0:Nat):Int)) 1;rw [e1,e2];exact Q5 _ rfl
 ·have e:b=(s.heap.push { cls:=.type "range",data:=.fields #[.int lo t,.int hi u,.int 1 v] }).objs.size:=by simpa using hb
  subst e;exact I1.fpOk (O7 _) (I1.hok.fresh (O7 _))
def Qs9 (ta:TA):TI:=λσ H R=>ta σ H λvs H1 => ∃ j:Int,vs=[.int j]/\-(2 ^ 62)<=j/\j < 2 ^ 62/\R (Itr 0 j.toNat) H1
def Zq9 (ta:TA):TI:=λσ H R=>ta σ H λvs H1 => ∃ i j:Int,vs=[.int i,.int j]/\(-(2 ^ 62)<=i/\i < 2 ^ 62/\-(2 ^ 62)<=j/\j < 2 ^ 62)/\R (Itr i (j - i).toNat) H1
theorem Qk7 {a:Expr} {ta:TA} {p:Pos} (hg:Gl X "range") (hm:X.mg "range" = none) (ha:PA X [a] ta) (hs:starEach [a] X.env=[(false,eval a X.env)]:=by rfl):PI X tg (.Call (.Name "range" p) [a] [] pos) (Qs9 ta):=by
 intro dz s σ H R I h;refine Call_ (Uw I hg hm boot_range (W9 (thn (ha pos dz s σ H _ I h) λus s1 ⟨vs,H1,I1,r1,q1⟩=>?_) hs rfl));obtain ⟨j,e,q1,q2,q⟩:=q1;subst e;cases r1 with
 | cons r rr =>cases rr;obtain ⟨t,rfl⟩:=r;exact call_range_1 (Ab I1 (by lia) (by lia) q1 q2 (by simpa using q))
theorem Qk6 {a b:Expr} {ta:TA} {p:Pos} (hg:Gl X "range") (hm:X.mg "range" = none) (ha:PA X [a,b] ta) (hs:starEach [a,b] X.env=[(false,eval a X.env),(false,eval b X.env)]:=by rfl) (hs2:starEach [b] X.env=[(false,eval b X.env)]:=by rfl) :
  PI X tg (.Call (.Name "range" p) [a,b] [] pos) (Zq9 ta):=by
 intro dz s σ H R I h;refine Call_ (Uw I hg hm boot_range (W9 (thn (ha pos dz s σ H _ I h) λus s1 ⟨vs,H1,I1,r1,q1⟩=>?_) (by rw [hs,hs2]) (by rw [hs2]; rfl)));obtain ⟨i,j,e,⟨q1,q2,q3,q4⟩,q⟩:=q1;subst e;cases r1 with
 | cons r rr =>
  cases rr with
  | cons r' rr =>cases rr;obtain ⟨t,rfl⟩:=r;obtain ⟨t',rfl⟩:=r';exact call_range_2 (Ab I1 q1 q2 q3 q4 q)
def Zz2 (wi:TI) (g:TG) (tb:TS):TS:=λD σ H=>wi σ H λJ H1 => ∃ W:Nat->Nat->St->Hp->Prop,(∃ m,W 0 m σ H1)/\∀ i m σ H,W i m σ H ->
 (J.stop i H/\D.nx σ H)\/(J.go i H/\∃ N:St->Hp->Prop,(∀ σ' H',N σ' H'->∃ m',m' < m/\W (i + 1) m' σ' H')/\∀ x H',J.yld i H x H'->g x σ H' λσ2 H2=>tb { D with nx:=N,ct:=N,bk:=D.nx } σ2 H2)
def Me (fp:K9) (h:Heap):G9:=fp.filterMap λb=>(h.get? b).map λo=>(b,o)
def Wl {fp:K9} (hb:b∈fp) (e:h.get? b=some o):(b,o)∈Me fp h:=Z3.mpr ⟨b,hb,by rw [e]; rfl⟩
theorem Qkq {fp:K9} {p:G5 × Obj} (hp:p∈Me fp h):p.1∈fp/\h.get? p.1=some p.2:=by
 obtain ⟨b,hb,e⟩:=Z3.mp hp;cases q:h.get? b with
 | none=>rw [q] at e; cases e
 | some o =>rw [q] at e;have e':(b,o)=p:=R5 e;subst e';exact ⟨hb,q⟩
def Inv.pinned {fp:K9} (I:Inv X dz σ H s) (hf:∀ b∈fp,Ku X dz H b) (ho:∀ b∈fp,∃ o,s.heap.get? b=some o/\∀ v,o.data≠.cell v):Inv X (dz ++ Me fp s.heap) σ H s :=I.dg λp hp=>(O6.mp hp).elim (λz=>I.pin p (Q9 _ z)) λz=>by obtain ⟨hb,e⟩:=Qkq z;obtain ⟨f0,f1,f2,_⟩:=hf p.1 hb;obtain ⟨o,e',d⟩:=ho p.1 hb;rw [e] at e'; cases e';exact ⟨e,f0,f1,f2,d⟩
def Inv.unpinned {pl:G9} (I:Inv X (dz ++ pl) σ H s):Inv X dz σ H s:=I.dg λp hp=>I.pin p (Q9 _ (R8 _ hp))
theorem Qa1 {iter:Expr} {wi:TI} (hp:PassesOwn (model X.prog X.w) X.A X.env X.xe) (hc:X.calm=true) (hi:PI X tg iter wi) (hg:PG X tg g) (hb:PSs X body tb)
  (hs:∀ x,foldedSetIterable iter X.env x=pure x:=by intro _; rfl):PS X (.For tg iter body [] pos) (Zz2 wi g tb):=by
 intro dz s σ H D I h;refine wpAny_For (thn (hi dz s σ H _ I h) λv s1 h1=>thn h1 λitv s2 h2=>?_) hs;obtain ⟨it,fp,tn,J,H2,e,I2,T,st2,f2,W,⟨m0,w0⟩,turn⟩:=h2;subst e;have stat:∀ {H':Hp},(∀ b∈fp,H' b=none)->∀ b∈fp,Ku X dz H' b:=λhn b hb=>⟨hn b hb,(f2 b hb).2⟩
 refine codeAny_forLoop_any (λn s' => ∃ i σ' H',Inv X dz σ' H' s'/\tn i s'.heap/\(∀ b∈fp,H' b=none)/\W i n σ' H') ?_ m0 ⟨0,σ,H2,I2,st2,λb hb=>(f2 b hb).1,w0⟩;rintro n s3 ⟨i,σ3,H3,I3,st3,fr3,w3⟩;rcases turn i n σ3 H3 w3 with ⟨stop,qn⟩ | ⟨go,N,hN,step⟩
 ·refine Z2 hp (thn (T.done X rfl rfl rfl hc i dz s3 σ3 H3 X.xe I3 (stat fr3) st3 stop) λr s4 ⟨hr,I4⟩=>?_);subst hr;exact Z9 ⟨σ3,H3,I4,qn⟩
 ·refine Z2 hp (thn (T.item X rfl rfl rfl hc i dz s3 σ3 H3 X.xe I3 (stat fr3) st3 go) λr s4 ⟨u,hr,h4⟩=>?_);subst hr;refine Z2 hp (thn h4 λ_ s5 ⟨x,H5,I5,r5,y5,st5,fr5⟩=>?_);have I5':=I5.pinned (stat fr5) (T.obj _ _ st5);refine Z2 hp (thn (hg _ s5 σ3 H5 x u _ I5' r5 (step x H5 y5)) λ_ s6 ⟨σ6,H6,I6,q6⟩=>?_);refine Z2 hp (thn (hb _ s6 σ6 H6 _ I6 q6) λf s7 q7=>?_);have again:∀ {σ7:St} {H7:Hp},Inv X (dz ++ Me fp s5.heap) σ7 H7 s7->N σ7 H7->∃ m,m < n/\∃ i σ' H',Inv X dz σ' H' s7/\tn i s7.heap/\(∀ b∈fp,H' b=none)/\W i m σ' H':=λ{σ7 H7} I7 n7=>by obtain ⟨m',hm,w7⟩:=hN σ7 H7 n7;refine ⟨m',hm,i + 1,σ7,H7,I7.unpinned,T.keep _ _ _ st5 λb hb o e=>(I7.pin (b,o) (Q9 _ (Q9 _ (Wl hb e)))).1,λb hb=>?_,w7⟩;obtain ⟨o,e,d⟩:=T.obj _ _ st5 b hb;exact (I7.pin (b,o) (Q9 _ (Q9 _ (Wl hb e)))).2.1
  cases f with
  | next=>obtain ⟨σ7,H7,I7,n7⟩:=q7; exact again I7 n7
  | cont=>obtain ⟨σ7,H7,I7,n7⟩:=q7; exact again I7 n7
  | brk=>obtain ⟨σ7,H7,I7,q7⟩:=q7; exact ⟨σ7,H7,I7.unpinned,q7⟩
  | ret v=>obtain ⟨x7,σ7,H7,I7,r7,q7⟩:=q7; exact ⟨x7,σ7,H7,I7.unpinned,r7,q7⟩
end
theorem Tq {xs:List V} {D:Iw} (Pv:Nat->St->Hp->Prop) (h0:Pv 0 σ H) (hl:∀ i σ H,i<=xs.length->Pv i σ H->SqL K H a xs)
  (hs:∀ i x σ H,xs[i]? = some x->Pv i σ H->g x σ H λσ2 H2=>tb { D with nx:=Pv (i + 1),ct:=Pv (i + 1),bk:=D.nx } σ2 H2) (hd:∀ σ H,Pv xs.length σ H->D.nx σ H) :
  ∃ W:Nat->Nat->St->Hp->Prop,(∃ m,W 0 m σ H)/\∀ i m σ H,W i m σ H ->
   ((Itl K a).stop i H/\D.nx σ H)\/((Itl K a).go i H/\∃ N:St->Hp->Prop,(∀ σ' H',N σ' H'->∃ m',m' < m/\W (i + 1) m' σ' H')/\∀ x H',(Itl K a).yld i H x H'->g x σ H' λσ2 H2=>tb { D with nx:=N,ct:=N,bk:=D.nx } σ2 H2):=by
 refine ⟨λi m σ H=>m=xs.length - i/\i<=xs.length/\Pv i σ H,⟨xs.length,by simp,T3 _,h0⟩,?_⟩;rintro i m σ H ⟨rfl,hi,p⟩;have q:=hl i σ H hi p
 by_cases hlt:i < xs.length
 ·refine .inr ⟨⟨xs,xs[i],q,by simp [hlt]⟩,Pv (i + 1),λσ' H' p'=>⟨xs.length - (i + 1),by lia,rfl,hlt,p'⟩,λx H' y=>?_⟩;obtain ⟨e,y⟩:=y;subst e;exact hs i x σ _ (y xs q) p
 ·have e:i=xs.length:=by lia
  subst e;exact .inl ⟨⟨xs,q,O7 _⟩,hd σ H p⟩
theorem Ja {lo:Int} {n:Nat} {D:Iw} (Pv:Nat->St->Hp->Prop) (h0:Pv 0 σ H)
  (hs:∀ i σ H,i < n->Pv i σ H->g (.int (lo + i)) σ H λσ2 H2=>tb { D with nx:=Pv (i + 1),ct:=Pv (i + 1),bk:=D.nx } σ2 H2) (hd:∀ σ H,Pv n σ H->D.nx σ H) :
  ∃ W:Nat->Nat->St->Hp->Prop,(∃ m,W 0 m σ H)/\∀ i m σ H,W i m σ H ->
   ((Itr lo n).stop i H/\D.nx σ H)\/((Itr lo n).go i H/\∃ N:St->Hp->Prop,(∀ σ' H',N σ' H'->∃ m',m' < m/\W (i + 1) m' σ' H')/\∀ x H',(Itr lo n).yld i H x H'->g x σ H' λσ2 H2=>tb { D with nx:=N,ct:=N,bk:=D.nx } σ2 H2):=by
 refine ⟨λi m σ H=>m=n - i/\i<=n/\Pv i σ H,⟨n,by simp,T3 _,h0⟩,?_⟩;rintro i m σ H ⟨rfl,hi,p⟩
 by_cases hlt:i < n
 ·refine .inr ⟨hlt,Pv (i + 1),λσ' H' p'=>⟨n - (i + 1),by lia,rfl,hlt,p'⟩,λx H' y=>?_⟩;obtain ⟨e,y⟩:=y;subst e y;exact hs i σ _ hlt p
 ·have e:i=n:=by lia
  subst e;exact .inl ⟨O7 _,hd σ H p⟩
abbrev R2:=V->V->Hp->VK->Prop
variable {r:R2}
def OpR (X:Cx) (f:G3->G3->Sem G3) (r:R2):Prop :=
 ∀ (dz:G9) (s:G4) (σ:St) (H:Hp) (x y:V) (v u:G3) (Q:VK),Inv X dz σ H s->Ys x v->Ys y u->r x y H Q ->
  wpAny (model X.prog X.w) X.A (f v u) (EP X dz σ Q) X.xe s
def UnR (X:Cx) (f:G3->Sem G3) (r:V->Hp->VK->Prop):Prop :=
 ∀ (dz:G9) (s:G4) (σ:St) (H:Hp) (x:V) (v:G3) (Q:VK),Inv X dz σ H s->Ys x v->r x H Q ->
  wpAny (model X.prog X.w) X.A (f v) (EP X dz σ Q) X.xe s
def Up (X:Cx) (f:G3) (r:List V->Hp->VK->Prop):Prop :=
 ∀ (dz:G9) (s:G4) (σ:St) (H:Hp) (xs:List V) (us:K8) (Q:VK),Inv X dz σ H s->Xq xs us->r xs H Q ->
  wpAny (model X.prog X.w) X.A (call f us) (EP X dz σ Q) X.xe s
def tOp (r:R2) (ta tb:TE):TE:=λσ H Q=>ta σ H λx H1=>tb σ H1 λy H2=>r x y H2 Q
def tUn (r:V->Hp->VK->Prop) (ta:TE):TE:=λσ H Q=>ta σ H λx H1=>r x H1 Q
inductive RI (C:Int->Int->Prop) (g:Int->Int->V) (x y:V) (H:Hp) (Q:VK):Prop
 | mk (i j:Int) (a:x=.int i) (b:y=.int j) (q:C i j/\Q (g i j) H)
def rI (C:Int->Int->Prop) (g:Int->Int->V):R2:=RI C g
inductive RI0 (g:Int->Int->V) (x y:V) (H:Hp) (Q:VK):Prop
 | mk (i j:Int) (a:x=.int i) (b:y=.int j) (q:Q (g i j) H)
def rI0 (g:Int->Int->V):R2:=RI0 g
def rU (g:Int->V):V->Hp->VK->Prop:=λx H Q => ∃ i,x=.int i/\Q (g i) H
section
variable {a b:Expr} {ta tb tc:TE}
def Qo4 (ha:PE X a ta) (hb:PE X b tb) {R:V->V->Hp->Prop} (I:Inv X dz σ H s)
  (h:ta σ H λx H1=>tb σ H1 λy H2=>R x y H2) {Q:K5}
  (hf:∀ v u s2 x y H2,Inv X dz σ H2 s2->Ys x v->Ys y u->R x y H2->wpAny (model X.prog X.w) X.A (f v u) Q X.xe s2) :
  wpAny (model X.prog X.w) X.A (eval a X.env) (λv s₁=>wpAny (model X.prog X.w) X.A (eval b X.env) (λu s₂=>wpAny (model X.prog X.w) X.A (f v u) Q X.xe s₂) X.xe s₁) X.xe s:=by
 refine thn (ha dz s σ H _ I h) λv s1 ⟨x,H1,I1,r1,q1⟩=>?_;refine thn (hb dz s1 σ H1 _ I1 q1) λu s2 ⟨y,H2,I2,r2,q2⟩=>?_;exact hf v u s2 x y H2 I2 r1 r2 q2
def Qk {op:Operator} (ho:OpR X (binaryOp op) r) (ha:PE X a ta) (hb:PE X b tb):PE X (.BinOp a op b pos) (tOp r ta tb):=by intro dz s σ H Q I h;exact wpAny_BinOp (Qo4 ha hb I h λv u s2 x y H2 I2 rx ry q=>ho dz s2 σ H2 x y v u Q I2 rx ry q)
def Qs6 {op:UnaryOp} {r:V->Hp->VK->Prop} (ho:UnR X (unaryOp op) r) (ha:PE X a ta):PE X (.UnaryOp op a pos) (tUn r ta):=by intro dz s σ H Q I h;exact UnaryOp_ (thn (ha dz s σ H _ I h) λv s1 ⟨x,H1,I1,r1,q1⟩=>ho dz s1 σ H1 x v Q I1 r1 q1)
def opI {C:Int->Int->Prop} {g:Int->Int->Int}
  (rule:∀ (i j:Int) (t u:Tok) (s:G4) (Q:K5) (E:K5),C i j->Q (.int (g i j) s.toks) { s with toks:=s.toks + 1 }->wpAny (model X.prog X.w) X.A (f (.int i t) (.int j u)) Q E s) :
  OpR X f (rI C λi j=>.int (g i j)):=by
 intro dz s σ H x y v u Q I rx ry h;obtain ⟨i,j,rfl,rfl,hc,q⟩:=h;obtain ⟨t,rfl⟩:=rx;obtain ⟨t',rfl⟩:=ry;exact rule i j t t' s _ _ hc ⟨.int (g i j),H,I.tok _,⟨_,rfl⟩,q⟩
def Zzz {g:Int->Int->Int}
  (rule:∀ (i j:Int) (t u:Tok) (s:G4) (Q:K5) (E:K5),Q (.int (g i j) s.toks) { s with toks:=s.toks + 1 }->wpAny (model X.prog X.w) X.A (f (.int i t) (.int j u)) Q E s) :
  OpR X f (rI0 λi j=>.int (g i j)):=by
 intro dz s σ H x y v u Q I rx ry h;obtain ⟨i,j,rfl,rfl,q⟩:=h;obtain ⟨t,rfl⟩:=rx;obtain ⟨t',rfl⟩:=ry;exact rule i j t t' s _ _ ⟨.int (g i j),H,I.tok _,⟨_,rfl⟩,q⟩
def Qo1 {g:Int->Int->Bool}
  (rule:∀ (i j:Int) (t u:Tok) (s:G4) (Q:K5) (E:K5),Q (.bool (g i j)) s->wpAny (model X.prog X.w) X.A (f (.int i t) (.int j u)) Q E s) :
  OpR X f (rI0 λi j=>.bl (g i j)):=by
 intro dz s σ H x y v u Q I rx ry h;obtain ⟨i,j,rfl,rfl,q⟩:=h;obtain ⟨t,rfl⟩:=rx;obtain ⟨t',rfl⟩:=ry;exact rule i j t t' s _ _ ⟨.bl (g i j),H,I,rfl,q⟩
def Zj7 (i j:Int):Prop:=0<=j/\j<=1000000/\i.natAbs < 2 ^ 64
def Zt:OpR X (binaryOp .Add) (rI0 λi j=>.int (i + j)):=Zzz λ_ _ _ _ _ _ _ q=>add_int q
def Zh:OpR X (binaryOp .Sub) (rI0 λi j=>.int (i - j)):=Zzz λ_ _ _ _ _ _ _ q=>sub_int q
theorem Zg:OpR X (binaryOp .Mod) (rI (λ_ j=>0 < j) λi j=>.int (i % j)):=opI λi j _ _ _ _ _ hc q=>by have h1:(0:Int) < j:=hc;exact mod_int' (by lia) (by rw [Int.fmod_eq_emod_of_nonneg i (by lia)]; exact q)
def Qr0:OpR X (binaryOp .Mod) (rI (λ_ j=>j≠0) λi j=>.int (i.fmod j)):=opI λ_ _ _ _ _ _ _ hc q=>mod_int' hc q
def Pl:OpR X (binaryOp .Pow) (rI Zj7 λi j=>.int (i ^ j.toNat)):=opI λ_ _ _ _ _ _ _ hc q=>pow_int_small hc.1 hc.2.1 hc.2.2 q
def unI {f:G3->Sem G3} {g:Int->Int}
  (rule:∀ (i:Int) (t:Tok) (s:G4) (Q:K5) (E:K5),Q (.int (g i) s.toks) { s with toks:=s.toks + 1 }->wpAny (model X.prog X.w) X.A (f (.int i t)) Q E s) :
  UnR X f (rU λi=>.int (g i)):=by
 intro dz s σ H x v Q I rx h;obtain ⟨i,rfl,q⟩:=h;obtain ⟨t,rfl⟩:=rx;exact rule i t s _ _ ⟨.int (g i),H,I.tok _,⟨_,rfl⟩,q⟩
def Qm0:UnR X (unaryOp .USub) (rU λi=>.int (-i)):=unI λ_ _ _ _ _ q=>neg_int q
end
def Zz3:V->V->Bool
 | .non,.non=>true | .non,.int _=>true | .int _,.non=>true | .non,.bl _=>true | .bl _,.non=>true | .non,.str _=>true | .str _,.non=>true
 | .int _,.int _=>true | .bl _,.bl _=>true | .str _,.str _=>true | .byt _,.byt _=>true
 | .int _,.str _=>true | .str _,.int _=>true | .bl _,.str _=>true | .str _,.bl _=>true
 | _,_=>false
def rEq:R2:=λx y H Q=>Zz3 x y=true/\Q (.bl (decide (x=y))) H
def rNe:R2:=λx y H Q=>Zz3 x y=true/\Q (.bl (!decide (x=y))) H
def Qjk {i j:Int}:decide (V.int i=V.int j)=(i == j):=by rw [Bool.eq_iff_iff];simp
def Qmx {i j:Bool}:decide (V.bl i=V.bl j)=(i == j):=by rw [Bool.eq_iff_iff];simp
def Qjw {i j:Str}:decide (V.str i=V.str j)=(i == j):=by rw [Bool.eq_iff_iff];simp
def Qv0 {i j:Array UInt8}:decide (V.byt i=V.byt j)=(i.toList == j.toList):=by rw [Bool.eq_iff_iff];cases i;cases j;simp
section
variable {a b:Expr} {ta tb tc:TE}
def Zm {Q:VK} {k k':Bool} (I:Inv X dz σ H s) (q:Q (.bl k) H) (e:k=k'):EP X dz σ Q (.bool k') s:=by subst e;exact ⟨.bl k,H,I,rfl,q⟩
theorem Jb:OpR X (compareOp .Eq) rEq:=by
 intro dz s σ H x y v u Q I rx ry h;obtain ⟨hs,q⟩:=h;cases x with
 | non =>
  cases rx;cases y with
  | non=>cases ry; exact PySem.EqNone.eq_none_none (Zm I q (by simp))
  | bl j=>cases ry; exact PySem.EqNone.eq_none_bool (Zm I q (by simp))
  | int j=>obtain ⟨t',rfl⟩:=ry; exact PySem.EqNone.eq_none_int (Zm I q (by simp))
  | str j=>obtain ⟨t',rfl⟩:=ry; exact PySem.EqNone.eq_none_str (Zm I q (by simp))
  | _=>exact absurd (show false=true from hs) S8
 | bl i =>
  cases rx;cases y with
  | non=>cases ry; exact PySem.EqNone.eq_bool_none (Zm I q (by simp))
  | bl j=>cases ry; exact eq_bool (Zm I q Qmx)
  | str j=>obtain ⟨t',rfl⟩:=ry; exact PySem.EqMixed.eq_bool_str (Zm I q (by simp))
  | _=>exact absurd (show false=true from hs) S8
 | int i =>
  obtain ⟨t,rfl⟩:=rx;cases y with
  | non=>cases ry; exact PySem.EqNone.eq_int_none (Zm I q (by simp))
  | int j=>obtain ⟨t',rfl⟩:=ry; exact eq_int (Zm I q Qjk)
  | str j=>obtain ⟨t',rfl⟩:=ry; exact PySem.EqMixed.eq_int_str (Zm I q (by simp))
  | _=>exact absurd (show false=true from hs) S8
 | str i =>
  obtain ⟨t,rfl⟩:=rx;cases y with
  | non=>cases ry; exact PySem.EqNone.eq_str_none (Zm I q (by simp))
  | bl j=>cases ry; exact PySem.EqMixed.eq_str_bool (Zm I q (by simp))
  | int j=>obtain ⟨t',rfl⟩:=ry; exact PySem.EqMixed.eq_str_int (Zm I q (by simp))
  | str j=>obtain ⟨t',rfl⟩:=ry; exact eq_str (Zm I q Qjw)
  | _=>exact absurd (show false=true from hs) S8
 | byt i =>
  obtain ⟨t,rfl⟩:=rx;cases y with
  | byt j=>obtain ⟨t',rfl⟩:=ry; exact PySem.W.eq_bytes (Zm I q Qv0)
  | _=>exact absurd (show false=true from hs) S8
 | _=>cases y <;> exact absurd (show false=true from hs) S8
theorem Jj:OpR X (compareOp .NotEq) rNe:=by
 intro dz s σ H x y v u Q I rx ry h;obtain ⟨hs,q⟩:=h;cases x with
 | non =>
  cases rx;cases y with
  | non=>cases ry; exact PySem.EqNone.ne_none_none (Zm I q (by simp))
  | bl j=>cases ry; exact PySem.EqNone.ne_none_bool (Zm I q (by simp))
  | int j=>obtain ⟨t',rfl⟩:=ry; exact PySem.EqNone.ne_none_int (Zm I q (by simp))
  | str j=>obtain ⟨t',rfl⟩:=ry; exact PySem.EqNone.ne_none_str (Zm I q (by simp))
  | _=>exact absurd (show false=true from hs) S8
 | bl i =>
  cases rx;cases y with
  | non=>cases ry; exact PySem.EqNone.ne_bool_none (Zm I q (by simp))
  | bl j=>cases ry; exact ne_bool (Zm I q (W8 not Qmx))
  | str j=>obtain ⟨t',rfl⟩:=ry; exact PySem.EqMixed.ne_bool_str (Zm I q (by simp))
  | _=>exact absurd (show false=true from hs) S8
 | int i =>
  obtain ⟨t,rfl⟩:=rx;cases y with
  | non=>cases ry; exact PySem.EqNone.ne_int_none (Zm I q (by simp))
  | int j=>obtain ⟨t',rfl⟩:=ry; exact ne_int (Zm I q (W8 not Qjk))
  | str j=>obtain ⟨t',rfl⟩:=ry; exact PySem.EqMixed.ne_int_str (Zm I q (by simp))
  | _=>exact absurd (show false=true from hs) S8
 | str i =>
  obtain ⟨t,rfl⟩:=rx;cases y with
  | non=>cases ry; exact PySem.EqNone.ne_str_none (Zm I q (by simp))
  | bl j=>cases ry; exact PySem.EqMixed.ne_str_bool (Zm I q (by simp))
  | int j=>obtain ⟨t',rfl⟩:=ry; exact PySem.EqMixed.ne_str_int (Zm I q (by simp))
  | str j=>obtain ⟨t',rfl⟩:=ry; exact ne_str (Zm I q (W8 not Qjw))
  | _=>exact absurd (show false=true from hs) S8
 | byt i =>
  obtain ⟨t,rfl⟩:=rx;cases y with
  | byt j=>obtain ⟨t',rfl⟩:=ry; exact PySem.W.ne_bytes (Zm I q (W8 not Qv0))
  | _=>exact absurd (show false=true from hs) S8
 | _=>cases y <;> exact absurd (show false=true from hs) S8
def Rb:OpR X (compareOp .Lt) (rI0 λi j=>.bl (decide (i < j))):=Qo1 λ_ _ _ _ _ _ _ q=>lt_int q
def Hi:OpR X (compareOp .LtE) (rI0 λi j=>.bl (decide (i<=j))):=Qo1 λ_ _ _ _ _ _ _ q=>le_int q
def Kx:OpR X (compareOp .Gt) (rI0 λi j=>.bl (decide (j < i))):=Qo1 λ_ _ _ _ _ _ _ q=>gt_int q
theorem We:OpR X (compareOp .Is) (λx y H Q=>y=.non/\Q (.bl (decide (x=.non))) H):=by
 intro dz s σ H x y v u Q I rx ry h;obtain ⟨rfl,q⟩:=h;cases ry;refine is_none_gen (Zm I q ?_);cases x <;> first
  | (cases rx; rfl)
  | (obtain ⟨t,rfl⟩:=rx; rfl)
theorem Ka:OpR X (compareOp .IsNot) (λx y H Q=>y=.non/\Q (.bl (!decide (x=.non))) H):=by
 intro dz s σ H x y v u Q I rx ry h;obtain ⟨rfl,q⟩:=h;cases ry;refine isnot_none_gen (Zm I q ?_);cases x <;> first
  | (cases rx; rfl)
  | (obtain ⟨t,rfl⟩:=rx; rfl)
def Vl (b:Expr) (h:op≠.In:=by decide) (h2:op≠.NotIn:=by decide):behindInMarks op b=false:=by
 have e1:(op == CmpOp.In)=false:=by cases op <;> first | rfl | exact absurd rfl h
 have e2:(op == CmpOp.NotIn)=false:=by cases op <;> first | rfl | exact absurd rfl h2
 cases b <;> simp [behindInMarks,e1,e2]
def Jw (ho:OpR X (compareOp op) r) (ha:PE X a ta) (hb:PE X b tb) (hm:behindInMarks op b=false):PE X (.Compare a [op] [b] pos) (tOp r ta tb):=by intro dz s σ H Q I h;exact wpAny_Compare1 (Qo4 ha hb I h λv u s2 x y H2 I2 rx ry q=>ho dz s2 σ H2 x y v u Q I2 rx ry q) hm
inductive Zj3 (Q:Bool->Hp->Prop) (x:V) (H:Hp):Prop
 | mk (k:Bool) (e:x=.bl k) (q:Q k H)
def Qdq (t:TE):TT:=λσ H Q=>t σ H (Zj3 Q)
def Vx (ho:OpR X (compareOp op) r) (ha:PE X a ta) (hb:PE X b tb) (hm:behindInMarks op b=false):PT X (.Compare a [op] [b] pos) (Qdq (tOp r ta tb)):=by
 intro dz s σ H Q I h;refine wpAny_isTrue_Compare1 (thn (ha dz s σ H _ I h) λv s1 ⟨x,H1,I1,r1,q1⟩=>thn (hb dz s1 σ H1 _ I1 q1) λu s2 ⟨y,H2,I2,r2,q2⟩ =>thn (ho dz s2 σ H2 x y v u _ I2 r1 r2 q2) λc s3 ⟨z,H3,I3,r3,k,e,q3⟩=>?_) hm
 subst e;cases r3;exact W5 ⟨H3,I3,q3⟩
def Qm1 (r r':R2) (ta tb tc:TE):TE:=λσ H Q=>ta σ H λx H1=>tb σ H1 λy H2=>r x y H2 λz H3 => ∃ k,z=.bl k /\
 (if k=true then tc σ H3 λw' H4=>r' y w' H4 Q else Q (.bl false) H3)
theorem Qf0 {op':CmpOp} {r':R2} (ho:OpR X (compareOp op) r) (ho':OpR X (compareOp op') r') (ha:PE X a ta) (hb:PE X b tb) (hc:PE X c tc)
  (hm:lastMarks [op,op'] [b,c]=false:=by with_unfolding_all rfl):PE X (.Compare a [op,op'] [b,c] pos) (Qm1 r r' ta tb tc):=by
 intro dz s σ H Q I h;refine Compare_chain (thn (ha dz s σ H _ I h) λv s1 ⟨x,H1,I1,r1,q1⟩=>chain_link (thn (hb dz s1 σ H1 _ I1 q1) λu s2 ⟨y,H2,I2,r2,q2⟩ =>thn (ho dz s2 σ H2 x y v u _ I2 r1 r2 q2) λd s3 ⟨z,H3,I3,r3,k,e,q3⟩=>?_)) hm
 subst e;cases r3;refine W5 ?_;cases k with
 | false=>exact ite_ff ⟨.bl false,H3,I3,rfl,q3⟩
 | true=>exact ite_tt (chain_last (thn (hc dz s3 σ H3 _ I3 q3) λw' s4 ⟨z',H4,I4,r4,q4⟩=>ho' dz s4 σ H4 y z' u w' Q I4 r2 r4 q4))
theorem Ri {op':CmpOp} {r':R2} (ho:OpR X (compareOp op) r) (ho':OpR X (compareOp op') r') (ha:PE X a ta) (hb:PE X b tb) (hc:PE X c tc)
  (hm:lastMarks [op,op'] [b,c]=false:=by with_unfolding_all rfl):PT X (.Compare a [op,op'] [b,c] pos) (Qdq (Qm1 r r' ta tb tc)):=by
 intro dz s σ H Q I h;refine isTrue_chain (thn (ha dz s σ H _ I h) λv s1 ⟨x,H1,I1,r1,q1⟩=>test_link (thn (hb dz s1 σ H1 _ I1 q1) λu s2 ⟨y,H2,I2,r2,q2⟩ =>thn (ho dz s2 σ H2 x y v u _ I2 r1 r2 q2) λd s3 ⟨z,H3,I3,r3,k,e,q3⟩=>?_)) hm
 subst e;cases r3;refine W5 ?_;cases k with
 | false =>obtain ⟨k',e',q'⟩:=q3;cases e';exact ite_ff ⟨H3,I3,q'⟩
 | true =>refine ite_tt (test_last (thn (hc dz s3 σ H3 _ I3 q3) λw' s4 ⟨z',H4,I4,r4,q4⟩=>thn (ho' dz s4 σ H4 y z' u w' _ I4 r2 r4 q4) λd' s5 ⟨z2,H5,I5,r5,k2,e2,q5⟩=>?_));subst e2;cases r5;exact W5 ⟨H5,I5,q5⟩
def Bz:(sizeLine:Nat) < 2 ^ 63:=by rw [sizeLine_eq]; decide
theorem Tp {x:V} (r:Xq [x] us):∃ u,us=[u]/\Ys x u:=by
 cases r with
 | cons r1 r2=>cases r2; exact ⟨_,rfl,r1⟩
theorem Qd9 {x y:V} (r:Xq [x,y] us):∃ u w',us=[u,w']/\Ys x u/\Ys y w':=by
 cases r with
 | cons r1 r2 =>
  cases r2 with
  | cons r3 r4=>cases r4; exact ⟨_,_,rfl,r1,r3⟩
def Ec:Up X (.builtin "abs") (λxs H Q => ∃ i,xs=[.int i]/\Q (.int (if i < 0 then -i else i)) H):=by intro dz s σ H xs us Q I r h;obtain ⟨i,rfl,q⟩:=h;obtain ⟨u,rfl,t,rfl⟩:=Tp r;exact call_abs_int λu tk=>⟨.int (if i < 0 then -i else i),H,I.tok _,⟨_,rfl⟩,q⟩
def Qu5 (hc:X.calm=true):Up X (.builtin "max") (λxs H Q => ∃ i j,xs=[.int i,.int j]/\Q (.int (if j > i then j else i)) H):=by
 intro dz s σ H xs us Q I r h;obtain ⟨i,j,rfl,q⟩:=h;obtain ⟨u,w',rfl,⟨t,rfl⟩,⟨t',rfl⟩⟩:=Qd9 r;refine max_two_ints (I.ok.hd hc) λh' tk k=>⟨_,H,I.kept k,?_,q⟩
 by_cases hj:j > i
 ·rw [if_pos hj,if_pos hj]; exact ⟨_,rfl⟩
 ·rw [if_neg hj,if_neg hj]; exact ⟨_,rfl⟩
def Lv (hc:X.calm=true):Up X (.builtin "min") (λxs H Q => ∃ i j,xs=[.int i,.int j]/\Q (.int (if j < i then j else i)) H):=by
 intro dz s σ H xs us Q I r h;obtain ⟨i,j,rfl,q⟩:=h;obtain ⟨u,w',rfl,⟨t,rfl⟩,⟨t',rfl⟩⟩:=Qd9 r;refine min_two_ints (I.ok.hd hc) λh' tk k=>⟨_,H,I.kept k,?_,q⟩
 by_cases hj:j < i
 ·rw [if_pos hj,if_pos hj]; exact ⟨_,rfl⟩
 ·rw [if_neg hj,if_neg hj]; exact ⟨_,rfl⟩
def Gd:Up X (.type "int") (λxs H Q=>(∃ i,xs=[.int i]/\Q (.int i) H)\/∃ k,xs=[.bl k]/\Q (.int (if k then 1 else 0)) H):=by
 intro dz s σ H xs us Q I r h;rcases h with ⟨i,rfl,q⟩ | ⟨k,rfl,q⟩
 ·obtain ⟨u,rfl,t,rfl⟩:=Tp r;exact call_int_int ⟨.int i,H,I,⟨_,rfl⟩,q⟩
 ·obtain ⟨u,rfl,r1⟩:=Tp r;cases r1;exact call_int_bool ⟨.int (if k then 1 else 0),H,I.tok _,⟨_,rfl⟩,q⟩
end
structure Qd4 (h:Heap) (x dx C:G5) (mA:K4):Prop where
 obj:h.get? x=some (PySem.W.instObj C dx)
 ns:h.Ns1 dx mA
 ne:dx≠x
def Qkk {dx:G5} {mA:K4} (n:h.Ns1 dx mA):∃ od,h.get? dx=some od/\∀ name,PySem.W.lookIn name od=some (mA name):=by
 obtain ⟨o,es,ep,ho,hd,hk,_,hm⟩:=n;refine ⟨o,ho,λname=>?_⟩;have e:=hm name;unfold nsFind findBy at e;rw [<- Array.find?_toList] at e;unfold PySem.W.lookIn;rw [hd];dsimp only
 split
 ·rename_i y q
  rw [q] at e;exact W8 some e
 ·rename_i q
  rw [q] at e;have a:es.toList.any (·.refKey)=false:=by rw [any_eq_false];intro y hy;obtain ⟨z,t,jo⟩:=hk y (Array.mem_toList_iff.mp hy);simp [DictEntry.refKey,jo]
  have a':¬ es.toList.any (·.refKey)=true:=by rw [a]; exact S8
  rw [if_neg a'];exact W8 some e
def Qd4.look {x dx:G5} {mA:K4} (I:Qd4 h x dx C mA):∃ od,PySem.W.InstAt h x (PySem.W.instObj C dx) C (some od)/\∀ name,PySem.W.lookIn name od=some (mA name) :=
 let ⟨od,ho,hl⟩:=Qkk I.ns
 ⟨od,⟨I.obj,rfl,rfl,ho⟩,hl⟩
section
variable {prog:G8} {x dx f:G5} {mA:K4} {name:Str} {v:G3}
def Qt0 {expr:Bool} {Q:K5} (X:K.In s.heap) (I:Qd4 s.heap x dx C mA) (hg:PySem.W.plainGet K C name=true) (hh:PySem.W.hasDictIn K C=true)
  (ha:PySem.W.findIn K (.ref C) name=some none) (hv:mA name=some v) (hv':PySem.W.handedIn v=true) (h:Q v { s with toks:=s.toks + 1 }) :
  wpAny (model prog w) A (getAttr (.ref x) name expr) Q E s:=by
 obtain ⟨od,J,hl⟩:=I.look;exact PySem.W.get_value X J (PySem.W.plainGet_of hg).1 (PySem.W.findObj_own hh ha rfl (by rw [hl,hv])) hv' h
def Qfx {Q:G3 × List G3->G4->Prop} (X:K.In s.heap) (I:Qd4 s.heap x dx C mA) (hg:PySem.W.plainGet K C name=true)
  (hf:PySem.W.findIn K (.ref C) name=some (some (.ref f))) (ht:PySem.W.isFn K (.ref f)=true) (hv:mA name=none) (h:Q (.ref f,[.ref x]) s) :
  wpAny (model prog w) A (getMethod (.ref x) name pl) Q E s:=by
 obtain ⟨od,J,hl⟩:=I.look;exact PySem.W.method_fn X J (PySem.W.plainGet_of hg).1 (PySem.W.plainGet_of hg).2 hf (beq_iff_eq.mp ht) (by show (PySem.W.lookIn name od).map (·.isSome)=some false; rw [hl,hv]; rfl) h
theorem Qc9 {ns:M6} (X:K.In s.heap) (I:Qd4 s.heap x dx C mA)
  (hs:PySem.W.findIn K (.ref C) "__setattr__" = some (some (.builtin "object.__setattr__"))) (hp:PySem.W.plainOver K C=true) (ht:PySem.W.takerIn K C name=some none) (hh:PySem.W.hasDictIn K C=true)
  (hw:PySem.Within mA ns) (hsz:ns.length<=sizeLine)
  (h:∀ h',Qd4 h' x dx C (λy=>if y=name then some v else mA y)->Heap.SameBut dx s.heap h'->Q () { s with heap:=h',toks:=s.toks + 2 }) :
  wpAny (model prog w) A (setAttr (.ref x) name v) Q E s:=by
 obtain ⟨od,J,hl⟩:=I.look;refine PySem.W.set_plain X J hs (PySem.W.osa_open (s:={ s with toks:=s.toks + 1 }) (r:=none) X J hp ht λb=>?_);obtain ⟨cd,hc,hd'⟩:=PySem.W.any_some hh;have hx:s.heap.get? x=some ⟨.ref C,some dx,.plain,#[]⟩:=I.obj;refine M9 (N6 (M9 (M9 (wpAny_loadPart hx (M9 (PySem.W.Looks.here (s:={ s with toks:=s.toks + 1 }) (PySem.W.looks_clsIn X hc) ?_))))));rw [hd'];refine N6 (a:=some dx) (M9 (N6 (M9 ?_)));refine wpAny_nsSet1 (s:={ s with toks:=s.toks + 1 }) I.ns λh' hn2 hs2=>?_;obtain ⟨oD,esD,epD,hoD,hdD,hcD⟩:=hn2.count (PySem.Within.cons name v hw);refine M9 (wpAny_lookBehind hoD (by rw [hdD]; exact pastItsLine_dict (R4 hcD (by rw [length_cons]; lia))) ?_);exact N6 (h _ ⟨(hs2.2 _ (Ne.symm I.ne)).trans I.obj,hn2,I.ne⟩ hs2)
def Qf4 {R:Result->G4->Prop} {vs:K8} (X:K.In s.heap) (hm:PySem.W.makesIn K C=true)
  (hi:PySem.W.findIn K (.ref C) "__init__" = some (some (.ref f))) (hf:PySem.W.typeIn K (.ref f)=some (.type "function"))
  (h:codeAny (model prog w) (A.under (.builtin "type.__call__" ⟨.ref C :: vs,kw⟩)) (.call (.ref f) ⟨.ref (s.heap.objs.size + 1) :: vs,kw⟩) (PySem.W.InitBack (s.heap.objs.size + 1) R)
   { s with heap:=(s.heap.push PySem.W.emptyDict).push (PySem.W.instObj C s.heap.objs.size) }) :
  codeAny (model prog w) A (.call (.ref C) ⟨vs,kw⟩) R s:=by
 obtain ⟨hh,g,d,t,os⟩:=s;exact PySem.W.make_core (PySem.W.makes_of X hm) (PySem.W.looks_findIn X hi) (λself=>PySem.W.bind_fn X self hf) (.inl rfl) h
end
def Vi (f:Str) (v:V):List (Str × V)->List (Str × V)
 | [] => [(f,v)]
 | (g,x) :: r=>if g=f then (g,v) :: r else (g,x) :: Vi f v r
theorem Qi (f g:Str) (v:V):∀ fs:List (Str × V),(Vi f v fs).lookup g=if g=f then some v else fs.lookup g
 | []=>by
  show List.lookup g [(f,v)]=_
  by_cases h:g=f
  ·have hb:(g == f)=true:=beq_iff_eq.mpr h;simp only [List.lookup,hb,if_pos h]
  ·have hb:(g == f)=false:=A0k.mpr h;simp only [List.lookup,hb,if_neg h]
 | (k,x) :: r=>by
  have ih:=Qi f g v r;rw [show Vi f v ((k,x) :: r)=(if k=f then (k,v) :: r else (k,x) :: Vi f v r) from rfl]
  by_cases hk:k=f
  ·rw [if_pos hk]
   by_cases h:g=k
   ·have hb:(g == k)=true:=beq_iff_eq.mpr h;simp only [List.lookup,hb,if_pos (h.trans hk)]
   ·have hb:(g == k)=false:=A0k.mpr h;simp only [List.lookup,hb,if_neg (λe:g=f=>h (e.trans hk.symm))]
  ·rw [if_neg hk]
   by_cases h:g=k
   ·have hb:(g == k)=true:=beq_iff_eq.mpr h;simp only [List.lookup,hb,if_neg (λe:g=f=>hk (h.symm.trans e))]
   ·have hb:(g == k)=false:=A0k.mpr h;simp only [List.lookup,hb];exact ih
theorem Gp (f:Str) (v:V):∀ fs:List (Str × V),f∈(Vi f v fs).map (·.1)/\∀ g,g∈fs.map (·.1)->g∈(Vi f v fs).map (·.1)
 | []=>⟨by simp [Vi],λg h=>by simp at h⟩
 | (k,x) :: r=>by
  obtain ⟨i1,i2⟩:=Gp f v r;rw [show Vi f v ((k,x) :: r)=(if k=f then (k,v) :: r else (k,x) :: Vi f v r) from rfl]
  by_cases hk:k=f
  ·rw [if_pos hk];subst hk;exact ⟨by simp,λg h=>by simpa using h⟩
  ·rw [if_neg hk];refine ⟨?_,λg h=>?_⟩
   ·rw [map_cons];exact Q8 _ i1
   ·rw [map_cons] at h ⊢;rcases R3.mp h with e | e
    ·exact R3.mpr (.inl e)
    ·exact Q8 _ (i2 g e)
theorem Rv (f:Str) (v:V):∀ fs:List (Str × V),(Vi f v fs).length<=fs.length + 1
 | []=>by simp [Vi]
 | (k,x) :: r=>by
  have ih:=Rv f v r;rw [show Vi f v ((k,x) :: r)=(if k=f then (k,v) :: r else (k,x) :: Vi f v r) from rfl]
  by_cases hk:k=f
  ·rw [if_pos hk,length_cons,length_cons]; lia
  ·rw [if_neg hk,length_cons,length_cons]; lia
theorem Qg6.some_of {o:M4} (r:Qg6 (some v) o):∃ u,o=some u/\Ys v u:=by
 cases o with
 | none=>exact (show False from r).elim
 | some u=>exact ⟨u,rfl,r⟩
theorem Qg6.none_of {o:M4} (r:Qg6 none o):o=none:=by
 cases o with
 | none=>rfl
 | some u=>exact (show False from r).elim
theorem Qyq (r:Ys v u):PySem.W.handedIn u=true:=by
 cases v with
 | non=>cases (show u=Value.none from r); rfl
 | bl b=>cases (show u=Value.bool b from r); rfl
 | int i=>obtain ⟨t,e⟩:=(show ∃ t,u=Value.int i t from r); cases e; rfl
 | str x=>obtain ⟨t,e⟩:=(show ∃ t,u=Value.str x t from r); cases e; rfl
 | byt b=>obtain ⟨t,e⟩:=(show ∃ t,u=Value.bytes b t from r); cases e; rfl
 | flt b=>obtain ⟨t,e⟩:=(show ∃ t,u=Value.float b t from r); cases e; rfl
 | ref a=>cases (show u=Value.ref a from r); rfl
 | ty n=>cases (show u=Value.type n from r); rfl
section
variable {H':Hp} {h':Heap} {dx:G5} {fs fs':List (Str × V)}
def Ny (hok:HOk P w H h) (e:H a=some (.ins C dx fs)):∃ mA,Qd4 h a dx C mA/\(∀ f,Qg6 (fs.lookup f) (mA f))/\PySem.Within mA (fs.map (·.1))/\fs.length<=1000/\H dx=some (.own a):=by
 obtain ⟨d,z,ne,ob,mA,n,r,q⟩:=(show Jp P w H h a (.ins C dx fs) from hok a _ e)
 exact ⟨mA,⟨ob,n,ne⟩,r,q,z,d⟩
end
structure Cls (K:N5) (C:G5):Prop where
 pg:PySem.W.plainGet K C Str.empty=true
 hd:PySem.W.hasDictIn K C=true
 po:PySem.W.plainOver K C=true
 sa:PySem.W.findIn K (.ref C) "__setattr__" = some (some (.builtin "object.__setattr__"))
def Cls.get (c:Cls K C) (f:Str):PySem.W.plainGet K C f=true:=c.pg
def Jn (K:N5) (C:G5) (f:Str):Prop:=PySem.W.findIn K (.ref C) f=some none
def Jn.taker {f:Str} (n:Jn K C f):PySem.W.takerIn K C f=some none:=by unfold PySem.W.takerIn;rw [show PySem.W.findIn K (.ref C) f=some none from n];rfl
structure Qnw (K:N5) (C:G5) (m:Str) (f:G5):Prop where
 at_:PySem.W.findIn K (.ref C) m=some (some (.ref f))
 fn:PySem.W.isFn K (.ref f)=true
 kp:PySem.W.keepIn K (.ref f)=true
section
variable {dx:G5} {fs:List (Str × V)} {f:Str}
def Oa {b:Bool} {Q:K5} (I:Inv X dz σ H s) (e:H a=some (.ins C dx fs)) (c:Cls X.K C) (n:Jn X.K C f) (l:fs.lookup f=some v)
  (h:∀ u s',Inv X dz σ H s'->Ys v u->Q u s'):wpAny (model X.prog X.w) A (getAttr (.ref a) f b) Q E s:=by
 obtain ⟨mA,O,r,_,_,_⟩:=Ny I.hok e;obtain ⟨u,hu,ru⟩:=Qg6.some_of (v:=v) (o:=mA f) (by rw [<- l]; exact r f);exact Qt0 I.kIn O (c.get f) c.hd n hu (Qyq ru) (h u _ (I.tok _) ru)
def Dd {m:Str} {g:G5} {Q:G3 × List G3->G4->Prop} (I:Inv X dz σ H s) (e:H a=some (.ins C dx fs)) (c:Cls X.K C) (k:Qnw X.K C m g) (l:fs.lookup m=none)
  (h:Q (.ref g,[.ref a]) s):wpAny (model X.prog X.w) A (getMethod (.ref a) m pl) Q E s:=by
 obtain ⟨mA,O,r,_,_,_⟩:=Ny I.hok e;have hn:mA m=none:=Qg6.none_of (by rw [<- l]; exact r m);exact Qfx I.kIn O (c.get m) k.at_ k.fn hn h
theorem Ov {y:V} (I:Inv X dz σ H s) (e:H a=some (.ins C dx fs)) (c:Cls X.K C) (n:Jn X.K C f) (hl:fs.length < 1000) (ry:Ys y u)
  (h:∀ s',Inv X dz σ (upd H a (.ins C dx (Vi f y fs))) s'->Q () s'):wpAny (model X.prog X.w) A (setAttr (.ref a) f u) Q E s:=by
 obtain ⟨mA,O,r,wi,_,ho⟩:=Ny I.hok e;have hz:(fs.map (·.1)).length<=sizeLine:=by rw [length_map,sizeLine_eq]; lia
 refine Qc9 I.kIn O c.sa c.po n.taker c.hd wi hz λh' O' sb=>h _ ?_;have hd:∃ o,h'.get? dx=some o:=let ⟨o,_,_,e',_⟩:=O'.ns; ⟨o,e'⟩
 refine I.write (x:=a) (e:=dx) (by rw [e]; exact True.intro) (.inr ho) (λb q hb z=>(sb.2 b hb).trans z) hd ?_;refine ⟨by rw [Qv O.ne]; exact ho,?_,O.ne,O'.obj,_,O'.ns,λg=>?_,λg hg=>?_⟩
 ·have:=Rv f y fs; lia
 ·show Qg6 ((Vi f y fs).lookup g) (if g=f then some u else mA g);rw [Qi]
  by_cases q:g=f
  ·rw [if_pos q,if_pos q]; exact ry
  ·rw [if_neg q,if_neg q]; exact r g
 ·by_cases q:g=f
  ·rw [q]; exact (Gp f y fs).1
  ·refine (Gp f y fs).2 g (wi g λz=>hg ?_);show (if g=f then some u else mA g)=none;rw [if_neg q]; exact z
def Inv.made (I:Inv X dz σ H s):Inv X dz σ (upd (upd H s.heap.objs.size (.own (s.heap.objs.size + 1))) (s.heap.objs.size + 1) (.ins C s.heap.objs.size []))
  { s with heap:=(s.heap.push PySem.W.emptyDict).push (PySem.W.instObj C s.heap.objs.size) }:=by
 have e1:(s.heap.push PySem.W.emptyDict).get? s.heap.objs.size=some PySem.W.emptyDict:=Q5 s.heap rfl;have e2:((s.heap.push PySem.W.emptyDict).push (PySem.W.instObj C s.heap.objs.size)).get? (s.heap.objs.size + 1)=some (PySem.W.instObj C s.heap.objs.size):=by
  have:=Q5 (s.heap.push PySem.W.emptyDict) (o:=PySem.W.instObj C s.heap.objs.size) rfl
  rwa [Heap.size_push] at this
 have e3:(s.heap.push PySem.W.emptyDict).Ns s.heap.objs.size (λ_=>none):=⟨PySem.W.emptyDict,#[],_,e1,rfl,(λe he=>absurd he (by simp)),λ_=>rfl⟩
 have I1:=I.laid (a:=s.heap.objs.size) (o:=.own (s.heap.objs.size + 1)) (h':=s.heap.push PySem.W.emptyDict) (t':=s.toks) (λb u q=>O3 _ q) (O7 _) ⟨_,e1⟩;refine I1.laid (a:=s.heap.objs.size + 1) (o:=.ins C s.heap.objs.size []) (t':=s.toks) (λb u q=>O3 _ q) (Nat.le_of_eq (Heap.size_push _ _)) ?_;have ne:s.heap.objs.size≠s.heap.objs.size + 1:=O9 (U9 _);refine ⟨by rw [Qv ne,Qy],T3 _,ne,e2,λ_=>none,(Heap.Ns1.of_empty e3).at λo q=>O3 _ q,λ_=>True.intro,λy hy=>absurd rfl hy⟩
def Qt9 {prog:G8} {env:Env} {Q:K5} (hb:attributeBase e f env (eval e env)=eval e env)
  (h:wpAny (model prog w) A (eval e env) (λo s₁=>wpAny (model prog w) A (getAttr o f true) Q E s₁) E s):wpAny (model prog w) A (eval (.Attribute e f pos) env) Q E s :=
 Attribute_any_ h (by rw [arm_eval_Attribute,hb])
end
def Qek (K:N5) (ta:TE) (f:Str):TE:=λσ H Q=>ta σ H λx H1 => ∃ a C dx fs v,x=.ref a/\H1 a=some (.ins C dx fs)/\Cls K C/\Jn K C f/\fs.lookup f=some v/\Q v H1
def Zz4 (K:N5) (ta tv:TE) (f:Str):TS:=λD σ H=>tv σ H λy H1=>ta σ H1 λx H2 => ∃ a C dx fs,x=.ref a/\H2 a=some (.ins C dx fs)/\Cls K C/\Jn K C f/\fs.length < 1000 /\
 D.nx σ (upd H2 a (.ins C dx (Vi f y fs)))
section
variable {o value:Expr} {f:Str} {j5 tpos:Pos} {ta tv:TE}
def Qa8 (he:PE X e ta) (hb:attributeBase e f X.env (eval e X.env)=eval e X.env):PE X (.Attribute e f pos) (Qek X.K ta f):=by intro dz s σ H Q I h;refine Qt9 hb (thn (he dz s σ H _ I h) λu s1 ⟨x,H1,I1,rx,a,C,dx,fs,v,ex,ea,c,n,l,q⟩=>?_);subst ex;obtain rfl:u=Value.ref a:=rx;exact Oa I1 ea c n l λu' s2 I2 ru=>⟨v,H1,I2,ru,q⟩
def Qa2 (ha:PE X o ta) (hv:PE X value tv) (hs:swapsWith value (some (.Attribute o f j5)) pos.line X.env=pure false):PS X (.Assign [.Attribute o f j5] value pos) (Zz4 X.K ta tv f):=by intro dz s σ H D I h;refine plainObj_wpAny_Assign_Attribute (thn (hv dz s σ H _ I h) λu s1 ⟨y,H1,I1,ry,q⟩=>thn (ha dz s1 σ H1 _ I1 q) λov s2 ⟨x,H2,I2,rx,a,C,dx,fs,ex,ea,c,n,l,q2⟩=>?_) hs;subst ex;obtain rfl:ov=Value.ref a:=rx;exact Ov I2 ea c n l ry λs3 I3=>⟨σ,_,I3,q2⟩
end
section
variable {Q:K5} {c:G3} {b:Bool}
inductive Ij (K:N5) (H:Hp):V->G3->Prop where
 | non:Ij K H .non (.type "NoneType")
 | bl (x:Bool):Ij K H (.bl x) (.type "bool")
 | int (i:Int):Ij K H (.int i) (.type "int")
 | str (x:Str):Ij K H (.str x) (.type "str")
 | flt (x:UInt64):Ij K H (.flt x) (.type "float")
 | lst {a:G5} {xs:List V} (e:H a=some (.lst xs)):Ij K H (.ref a) (.type "list")
 | frz {a:G5} {o:Obj} {xs:List V} (e:H a=some (.frz o (.lst xs))):Ij K H (.ref a) (.type "list")
 | tup {a:G5} {xs:List V} (e:H a=some (.tup xs)):Ij K H (.ref a) (.type "tuple")
 | dK {a:G5} {kvs:List (Key × V)} (e:H a=some (.dK kvs)):Ij K H (.ref a) (.type "dict")
 | dT {a:G5} {kvs:List (List Key × V)} (e:H a=some (.dT kvs)):Ij K H (.ref a) (.type "dict")
 | ins {a C dx:G5} {fs:List (Str × V)} (e:H a=some (.ins C dx fs)) (cl:Cls K C) (ha:PySem.W.findIn K (.ref C) "__class__" = some (some (.builtin "object.__class__")))
   (hn:PySem.W.specialIn K (.builtin "object.__class__") "__get__" = some (some (.builtin "getset_descriptor.__get__"))) (htk:PySem.W.takesIn K (.builtin "object.__class__")=some true)
   (hm:PySem.W.mroIn K C (.type "object")=some true):Ij K H (.ref a) (.ref C)
theorem Qy6 {x:V} {t:G3} (I:Inv X dz σ H s) (rx:Ys x u) (ty:Ij X.K H x t) (e:PySem.W.kitOne X.K t c=some b) (h:∀ tk,Q (.bool b) { s with toks:=tk }) :
  wpAny (model X.prog X.w) A (call (.builtin "isinstance") [u,c]) Q E s:=by
 cases ty with
 | non=>cases (show u=Value.none from rx); exact V9 PySem.W.kitx_none I.kIn True.intro e (λz=>nomatch z) h
 | bl y=>cases (show u=Value.bool y from rx); exact V9 PySem.W.kitx_bool I.kIn True.intro e (λz=>nomatch z) h
 | int i=>obtain ⟨t,q⟩:=(show ∃ t,u=Value.int i t from rx); cases q; exact V9 PySem.W.kitx_int I.kIn True.intro e (λz=>nomatch z) h
 | str y=>obtain ⟨t,q⟩:=(show ∃ t,u=Value.str y t from rx); cases q; exact V9 PySem.W.kitx_str I.kIn True.intro e (λz=>nomatch z) h
 | flt y=>obtain ⟨t,q⟩:=(show ∃ t,u=Value.float y t from rx); cases q; exact V9 PySem.W.kitx_float I.kIn True.intro e (λz=>nomatch z) h
 | @lst a xs ea =>
  cases (show u=Value.ref a from rx);obtain ⟨_,_,n,_,h1⟩:=(show Jp X.prog X.w H s.heap a (.lst xs) from I.hok a _ ea)
  exact V9 PySem.W.kitx_list I.kIn ⟨_,h1,rfl⟩ e (λz=>nomatch z) h
 | @frz a ob xs ea =>
  cases (show u=Value.ref a from rx);obtain ⟨_,_,_,n,_,h1⟩:=(show Jp X.prog X.w H s.heap a (.frz ob (.lst xs)) from I.hok a _ ea)
  exact V9 PySem.W.kitx_list I.kIn ⟨_,h1,rfl⟩ e (λz=>nomatch z) h
 | @tup a xs ea =>
  cases (show u=Value.ref a from rx);obtain ⟨_,_,_,p⟩:=(show Jp X.prog X.w H s.heap a (.tup xs) from I.hok a _ ea)
  obtain ⟨o,h1,h2,_⟩:=p;exact V9 PySem.W.kitx_tuple I.kIn ⟨o,h1,h2⟩ e (λz=>nomatch z) h
 | @dK a kvs ea =>
  cases (show u=Value.ref a from rx);obtain ⟨_,_,vs,_,p⟩:=(show Jp X.prog X.w H s.heap a (.dK kvs) from I.hok a _ ea)
  obtain ⟨o,es,ep,h1,h2,_⟩:=p;exact V9 PySem.W.kitx_dict I.kIn ⟨o,h1,h2.1⟩ e (λz=>nomatch z) h
 | @dT a kvs ea =>
  cases (show u=Value.ref a from rx);obtain ⟨_,_,xs,_,o,es,ep,h1,h2,_⟩:=(show Jp X.prog X.w H s.heap a (.dT kvs) from I.hok a _ ea)
  exact V9 PySem.W.kitx_dict I.kIn ⟨o,h1,h2.1⟩ e (λz=>nomatch z) h
 | @ins a C dx fs ea cl ha hn htk hm =>cases (show u=Value.ref a from rx);obtain ⟨mA,O,_⟩:=Ny I.hok ea;obtain ⟨od,J,_⟩:=O.look;exact V9 (PySem.W.kitx_own (cl.get _) cl.hd ha hn htk hm) I.kIn J e (λz=>nomatch z) h
end
structure Jc (k:Nat) (A:G7):Prop where
 hd:A.handled=none
 dp:A.depth + 3 * k + 5 < recursionLimit
 un:A.units + 16 * k + 200 < cLine
theorem Jc.mono {j:Nat} (r:Jc k A) (h:j<=k):Jc j A:=⟨r.hd,by have:=r.dp; lia,by have:=r.un; lia⟩
theorem Jc.deeper (r:Jc (k + 1) A) (env:Env):Jc k (A.deeper env) :=⟨r.hd,by have:=r.dp; show A.depth + 1 + 3 * k + 5 < _; lia,by have:=r.un; show A.units + 3 + 16 * k + 200 < _; lia⟩
theorem Jc.in1 (r:Jc (k + 1) A):Jc k A.in1 :=⟨r.hd,by have:=r.dp; show A.depth + 3 * k + 5 < _; lia,by have:=r.un; show A.units + 1 + 16 * k + 200 < _; lia⟩
def Od:(A.under (.builtin "type.__call__" ⟨.ref C :: us,kw⟩)).depth=A.depth + 1:=by first | rfl | simp [Around.under,Code.weight,Code.isCreation,Code.isGuard,Code.isCaller,Code.frames,Code.isFrame,guardIds]
def Om:(A.under (.builtin "type.__call__" ⟨.ref C :: us,kw⟩)).units=A.units + 1:=by first | rfl | simp [Around.under,Code.cUnits,Code.frames,Code.isFrame]
theorem Jc.make (r:Jc (k + 1) A) (C:G5) (us:K8) (kw:List (Str × G3)):Jc k (A.under (.builtin "type.__call__" ⟨.ref C :: us,kw⟩)) :=⟨r.hd,by have:=r.dp; rw [Od]; lia,by have:=r.un; rw [Om]; lia⟩
theorem Jc.depth (r:Jc k A):A.depth < recursionLimit:=by have:=r.dp; lia
theorem Jc.units (r:Jc k A):A.units + 64 < cLine:=by have:=r.un; lia
theorem Jc.units0 (r:Jc k A):A.units < cLine:=by have:=r.un; lia
def Qez:TA:=λ_ H Q=>Q [] H
def Qok (ta:TE) (tr:TA):TA:=λσ H Q=>ta σ H λx H1=>tr σ H1 λxs H2=>Q (x :: xs) H2
section
variable {es:M7} {te:TE} {t:TA}
def Qz:PA X [] Qez:=λ_ _ _ _ H Q I h=>X7 ⟨[],H,I,.nil,h⟩
def Qq (ha:PE X e te) (hr:PA X es t) (hs:starEach (e :: es) X.env=(false,eval e X.env) :: starEach es X.env:=by rfl):PA X (e :: es) (Qok te t):=by intro pos dz s σ H Q I h;rw [hs];show wpAny _ _ (spliced ((false,eval e X.env) :: backTo pos (starEach es X.env))) _ _ s;refine X8 (thn (ha dz s σ H _ I h) λu s1 ⟨x,H1,I1,r1,q1⟩=>?_);exact thn (hr pos dz s1 σ H1 _ I1 q1) λus s2 ⟨xs,H2,I2,r2,q2⟩=>⟨x :: xs,H2,I2,.cons r1 r2,q2⟩
end
abbrev Sp:=List V->Hp->VK->XK->Prop
abbrev CXT:=List Env->Hp->G4->XK->G3->G4->Prop
structure Qd5 (P:G8) (w:World) (K:N5) (mg:K4) (base:Heap) (A:G7) (outer:List Env) (s:G4) (H:Hp):Prop where
 frames:A.frames=some outer
 mod:Mod K mg base
 bs:∀ b o,base.get? b=some o->s.heap.get? b=some o/\H b=none
 bsz:base.objs.size<=s.heap.objs.size
 dj:s.heap.FunFrames base outer
 frf:∀ b∈frs outer,H b=none
 hok:HOk P w H s.heap
 bare:AllBare s.gens
def CE (outer:List Env) (P:G8) (w:World) (H:Hp) (s:G4) (Q:VK) (u:G3) (s':G4):Prop :=∃ v H',s'.os=s.os/\AllBare s'.gens/\Un (frs outer) [] H H' s.heap s'.heap/\HOk P w H' s'.heap/\Ys v u/\Q v H'
def CR (CX:CXT) (outer:List Env) (P:G8) (w:World) (H:Hp) (s:G4) (Q:VK) (E:XK) (r:Result) (s':G4):Prop :=
 match r with
 | .ok (.ret u)=>CE outer P w H s Q u s'
 | .ok _=>False
 | .error e=>CX outer H s E e s'
structure Mn (P:G8) (w:World) (K:N5) (mg:K4) (base:Heap) (CX:CXT) (k:Nat) (f:G5) (fd:FuncData) (ps:M6) (sp:Sp):Prop where
 len:∀ vs H Q E,sp vs H Q E->vs.length=ps.length
 run:∀ (A:G7) (outer:List Env) (s:G4) (H:Hp) (args:Args) (us:K8) (vs:List V) (Q:VK) (E:XK),Jc k A->Qd5 P w K mg base A outer s H->BindsTo s fd args (ps.zip us)->Xq vs us->sp vs H Q E ->
  codeAny (model P w) A (.call (.ref f) args) (CR CX outer P w H s Q E) s
def Qd5.make {mg:K4} {outer:List Env} (e:Qd5 P w K mg base A outer s H) (C:G5) (us:K8) (kw:List (Str × G3)) :
  Qd5 P w K mg base (A.under (.builtin "type.__call__" ⟨.ref C :: us,kw⟩)) outer s H:=⟨by first | exact e.frames | (simpa [Around.under,Code.envs,Code.isFrame,pushEnvs] using e.frames),e.mod,e.bs,e.bsz,e.dj,e.frf,e.hok,e.bare⟩
section
variable {s':G4}
def Inv.env0 (I:Inv X dz σ H s):Qd5 X.prog X.w X.K X.mg X.base X.A X.stack s H :=⟨I.ok.frames,I.ok.mod,I.bs,R4 I.ok.bsz I.sz,I.stack,I.stkFree,I.hok,I.bare⟩
def Inv.after {Q:VK} (I:Inv X dz σ H s) (h:CE X.stack X.prog X.w H s Q u s'):EP X dz σ Q u s':=by obtain ⟨v,H',os,bare,un,hok,r,q⟩:=h;obtain ⟨hh,g,d,t,os'⟩:=s';obtain rfl:os'=s.os:=os;exact ⟨v,H',I.call (h':=hh) (g':=g) (d':=d) (t':=t) (ch:=[]) un hok bare (λb z=>absurd z (by simp)),r,q⟩
end
def Qz4 (sp:Sp) (dvs:List V) (E:XK) (t:TA):TE:=λσ H Q=>t σ H λvs H1=>sp (vs ++ dvs) H1 Q E
def Ms (C:G5) (m:Str) (sp:Sp) (dvs:List V) (E:XK) (ta:TE) (t:TA):TE:=λσ H Q=>ta σ H λx H1 => ∃ a dx fs,x=.ref a/\H1 a=some (.ins C dx fs)/\fs.lookup m=none /\
 t σ H1 λvs H2=>sp (x :: (vs ++ dvs)) H2 Q E
def Qs3 (C:G5) (sp:Sp) (dvs:List V) (E:XK) (t:TA):TE:=λσ H Q=>t σ H λvs H1 => ∀ x dx,H1 x=none->H1 dx=none->dx≠x ->
 sp (.ref x :: (vs ++ dvs)) (upd (upd H1 dx (.own x)) x (.ins C dx [])) (λv H2=>v=.non/\Q (.ref x) H2) E
def Tc (K:N5) (fd:FuncData) (ps:M6) (ds:K8):Prop :=∀ (s:G4) (us:K8),K.In s.heap->(us ++ ds).length=ps.length->BindsTo s fd ⟨us,[]⟩ (ps.zip (us ++ ds))
def Tc.all {fd:FuncData} {ps:M6} (h:∀ us:K8,us.length=ps.length->bindArgs fd ⟨us,[]⟩=pure (ps.zip us)):Tc K fd ps []:=λs us _ hl=>by rw [append_nil] at hl ⊢;exact .of_eq (h us hl)
def Rh (CX:CXT) (X:Cx) (E:XK):Prop:=∀ (dz:G9) (σ:St) (H:Hp) (s:G4) (e:G3) (s':G4),Inv X dz σ H s->CX X.stack H s E e s'->X.xe e s'
section
variable {CX:CXT} {f:G5} {fd:FuncData} {ps:M6} {sp:Sp} {dvs:List V} {ds:K8} {E:XK} {m:Str} {p ir:Pos} {o:Expr} {es:M7} {ta:TE} {t:TA}
theorem Qzv {Q:VK} (F:Mn X.prog X.w X.K X.mg X.base CX k f fd ps sp) (hr:Jc k X.A) (hb:Tc X.K fd ps ds) (hd:Xq dvs ds) (hx:Rh CX X E)
  (I:Inv X dz σ H s) (r:Xq vs us) (h:sp (vs ++ dvs) H Q E):wpAny (model X.prog X.w) X.A (call (.ref f) us) (EP X dz σ Q) X.xe s:=by
 have r2:Xq (vs ++ dvs) (us ++ ds):=r.append hd;have hl:(us ++ ds).length=ps.length:=by rw [<- r2.length]; exact F.len _ _ _ _ h
 refine wpAny_call (Z4 (F.run X.A X.stack s H ⟨us,[]⟩ (us ++ ds) (vs ++ dvs) Q E hr I.env0 (hb s us I.kIn hl) r2 h) λr s' hq=>?_);cases r with
 | error e=>exact hx dz σ H s e s' I hq
 | ok fl =>
  cases fl with
  | ret u=>exact I.after hq
  | next=>exact False.elim hq
  | brk=>exact False.elim hq
  | cont=>exact False.elim hq
def Qxj (F:Mn X.prog X.w X.K X.mg X.base CX k f fd ps sp) (hr:Jc k X.A) (hg:Gl X x) (hm:X.mg x=some (.ref f)) (hk:PySem.W.keepIn X.K (.ref f)=true) (hb:Tc X.K fd ps ds) (hd:Xq dvs ds) (hx:Rh CX X E)
  (ha:PA X (e :: es) t) (hdb:(x == ("__debug__" : Str))=false:=by decide) (he:starEach (e :: es) X.env=(false,eval e X.env) :: starEach es X.env:=by rfl) (hpl:(backTo pos (starEach es X.env)).any (·.1)=false:=by rfl) :
  PE X (.Call (.Name x p) (e :: es) [] pos) (Qz4 sp dvs E t):=by
 intro dz s σ H Q I h;refine V3 (Ta I hg hm ?_ hdb);refine A0y (h₀:=X.base) I.ok.mod.kin hk (thn (ha pos dz s σ H _ I h) λus s1 ⟨vs,H1,I1,r,q⟩=>⟨I1.kIn,?_⟩) he hpl;exact Qzv F hr hb hd hx I1 r q
def Qlq (he:PE X o ta) (c:Cls X.K C) (hm:Qnw X.K C m f) (F:Mn X.prog X.w X.K X.mg X.base CX k f fd ps sp) (hr:Jc k X.A) (hb:Tc X.K fd ps ds) (hd:Xq dvs ds) (hx:Rh CX X E) (ha:PA X (e :: es) t)
  (hst:starEach (e :: es) X.env=(false,eval e X.env) :: starEach es X.env:=by rfl) (hpl:(backTo pos (starEach es X.env)).any (·.1)=false:=by rfl)
  (ht:eval (.Call (.Attribute o m ir) (e :: es) [] pos) X.env=(do
   let ov <- eval o X.env
   standAt ir.atName
   let (f,first) <- holding [ov] (getMethod ov m pl)
   callWith pos f first (backTo pos (starEach (e :: es) X.env)) (backToKw pos (keywordEach [] X.env))):=by rfl) :
  PE X (.Call (.Attribute o m ir) (e :: es) [] pos) (Ms C m sp dvs E ta t):=by
 intro dz s σ H Q I h;refine PySem.W.methodCall_KW (pl:=pl) (thn (he dz s σ H _ I h) λu s1 ⟨x,H1,I1,rx,a,dx,fs,ex,ea,l,q⟩=>?_) ht;subst ex;obtain rfl:u=Value.ref a:=rx;refine Dd I1 ea c hm l ?_;refine A0y (first:=[.ref a]) (h₀:=X.base) I.ok.mod.kin hm.kp (thn (ha pos dz s1 σ H1 _ I1 q) λus s2 ⟨vs,H2,I2,r,q2⟩=>⟨I2.kIn,?_⟩) hst hpl;exact Qzv (us:=.ref a :: us) (vs:=.ref a :: vs) F hr hb hd hx I2 (.cons rfl r) q2
def Qpv (he:PE X o ta) (c:Cls X.K C) (hm:Qnw X.K C m f) (F:Mn X.prog X.w X.K X.mg X.base CX k f fd ps sp) (hr:Jc k X.A) (hb:Tc X.K fd ps ds) (hd:Xq dvs ds) (hx:Rh CX X E)
  (ht:eval (.Call (.Attribute o m ir) [] [] pos) X.env=(do
   let ov <- eval o X.env
   standAt ir.atName
   let (f,first) <- holding [ov] (getMethod ov m pl)
   callWith pos f first (backTo pos (starEach [] X.env)) (backToKw pos (keywordEach [] X.env))):=by rfl) :
  PE X (.Call (.Attribute o m ir) [] [] pos) (Ms C m sp dvs E ta Qez):=by
 intro dz s σ H Q I h;refine PySem.W.methodCall_KW (pl:=pl) (thn (he dz s σ H _ I h) λu s1 ⟨x,H1,I1,rx,a,dx,fs,ex,ea,l,q⟩=>?_) ht;subst ex;obtain rfl:u=Value.ref a:=rx;refine Dd I1 ea c hm l ?_;exact PySem.W.callWith_K0 (first:=[.ref a]) I1.kIn hm.kp (Qzv (us:=[.ref a]) (vs:=[.ref a]) F hr hb hd hx I1 (.cons rfl .nil) q)
structure Mk (K:N5) (C f:G5):Prop where
 makes:PySem.W.makesIn K C=true
 init:PySem.W.findIn K (.ref C) "__init__" = some (some (.ref f))
 fn:PySem.W.isFn K (.ref f)=true
 kp:PySem.W.keepIn K (.ref C)=true
theorem Qp5 {Q:VK} (M:Mk X.K C f) (F:Mn X.prog X.w X.K X.mg X.base CX k f fd ps sp) (hr:Jc (k + 1) X.A) (hb:Tc X.K fd ps ds) (hd:Xq dvs ds)
  (hx:Rh CX X E) (I:Inv X dz σ H s) (r:Xq vs us)
  (h:∀ x dx,H x=none->H dx=none->dx≠x->sp (.ref x :: (vs ++ dvs)) (upd (upd H dx (.own x)) x (.ins C dx [])) (λv H2=>v=.non/\Q (.ref x) H2) E) :
  wpAny (model X.prog X.w) X.A (call (.ref C) us) (EP X dz σ Q) X.xe s:=by
 have hq:=h (s.heap.objs.size + 1) s.heap.objs.size (I.hok.fresh (Z5 _)) (I.hok.fresh (O7 _)) (O9 (U9 _));have I2:=Inv.made (C:=C) I;have r2:Xq (V.ref (s.heap.objs.size + 1) :: (vs ++ dvs)) (Value.ref (s.heap.objs.size + 1) :: (us ++ ds)):=.cons rfl (r.append hd);have hl:(Value.ref (s.heap.objs.size + 1) :: us ++ ds).length=ps.length:=by have e:=r2.length;rw [F.len _ _ _ _ hq] at e;exact e.symm
 refine wpAny_call (Qf4 (f:=f) I.kIn M.makes M.init (beq_iff_eq.mp M.fn) (Z4 (F.run _ X.stack _ _ ⟨Value.ref (s.heap.objs.size + 1) :: us,[]⟩ (Value.ref (s.heap.objs.size + 1) :: (us ++ ds)) _ _ E (hr.make C us [])
  (I2.env0.make C us []) (hb _ (Value.ref (s.heap.objs.size + 1) :: us) I2.kIn hl) r2 hq) λr s' hq'=>?_))
 cases r with
 | error e=>exact hx dz σ _ _ e s' I2 hq'
 | ok fl =>
  cases fl with
  | ret u =>obtain ⟨v,H',I3,rv,ev,q3⟩:=I2.after hq';subst ev;exact ⟨rv,⟨V.ref (s.heap.objs.size + 1),H',I3,rfl,q3⟩⟩
  | next=>exact False.elim hq'
  | brk=>exact False.elim hq'
  | cont=>exact False.elim hq'
def Qlz (M:Mk X.K C f) (F:Mn X.prog X.w X.K X.mg X.base CX k f fd ps sp) (hr:Jc (k + 1) X.A) (hg:Gl X x) (hm:X.mg x=some (.ref C)) (hb:Tc X.K fd ps ds) (hd:Xq dvs ds) (hx:Rh CX X E)
  (ha:PA X (e :: es) t) (hdb:(x == ("__debug__" : Str))=false:=by decide) (he:starEach (e :: es) X.env=(false,eval e X.env) :: starEach es X.env:=by rfl) (hpl:(backTo pos (starEach es X.env)).any (·.1)=false:=by rfl) :
  PE X (.Call (.Name x p) (e :: es) [] pos) (Qs3 C sp dvs E t):=by
 intro dz s σ H Q I h;refine V3 (Ta I hg hm ?_ hdb);refine A0y (h₀:=X.base) I.ok.mod.kin M.kp (thn (ha pos dz s σ H _ I h) λus s1 ⟨vs,H1,I1,r,q⟩=>⟨I1.kIn,?_⟩) he hpl;exact Qp5 M F hr hb hd hx I1 r q
end
structure Xn (N P:M6) (sc:Scope):Prop where
 kind:sc.kind=.function
 co:sc.isCoroutine=false
 gen:sc.isGenerator=false
 nd:N.Nodup
 pre:N.take P.length=P
 par:∀ x∈P,sc.names.lookup x=some .local\/sc.names.lookup x=some .cell
 nofree:∀ y∈sc.names,y.2≠.free
theorem Lk {kindOf:Str->Option NameKind} {x:Str}:∀ {binds:List (Str × G3)} {m:K4},(∀ v,(x,v) ∉ binds)->bindL kindOf binds m x=m x
 | [],_,_=>rfl
 | (n,v) :: r,m,h=>by
  unfold bindL;rw [Lk λw hw=>h w (mem_cons_of_mem _ hw)]
  split
  ·have:x≠n:=by rintro rfl; exact h v Q7
   simp [this]
  ·rfl
theorem Lu {kindOf:Str->Option NameKind} {x:Str}:∀ {binds:List (Str × G3)} {m:K4},(∀ v,(x,v) ∉ binds)->bindC kindOf binds m x=m x
 | [],_,_=>rfl
 | (n,v) :: r,m,h=>by
  unfold bindC;rw [Lu λw hw=>h w (mem_cons_of_mem _ hw)]
  split
  ·rfl
  ·have:x≠n:=by rintro rfl; exact h v Q7
   simp [this]
theorem Ly {kindOf:Str->Option NameKind} {x:Str} {v:G3}:∀ {P:M6} {vs:K8} {i:Nat} {m:K4},P.Nodup->P[i]? = some x->vs[i]? = some v->kindOf x=some .local ->
  bindL kindOf (P.zip vs) m x=some v
 | [],_,_,_,_,h,_,_=>by simp at h
 | _ :: _,[],_,_,_,_,h,_=>by simp at h
 | p :: P,w :: vs,0,m,nd,h1,h2,hk=>by simp at h1 h2; subst h1; subst h2;show bindL kindOf ((p,w) :: P.zip vs) m p=_;unfold bindL;rw [Lk λv hv=>(nodup_cons.mp nd).1 (of_mem_zip hv).1,if_pos hk];simp
 | p :: P,w :: vs,i + 1,m,nd,h1,h2,hk=>by show bindL kindOf ((p,w) :: P.zip vs) m x=_;unfold bindL;exact Ly (i:=i) (nodup_cons.mp nd).2 (by simpa using h1) (by simpa using h2) hk
theorem Lg {kindOf:Str->Option NameKind} {x:Str} {v:G3}:∀ {P:M6} {vs:K8} {i:Nat} {m:K4},P.Nodup->P[i]? = some x->vs[i]? = some v->kindOf x≠some .local ->
  bindC kindOf (P.zip vs) m x=some v
 | [],_,_,_,_,h,_,_=>by simp at h
 | _ :: _,[],_,_,_,_,h,_=>by simp at h
 | p :: P,w :: vs,0,m,nd,h1,h2,hk=>by simp at h1 h2; subst h1; subst h2;show bindC kindOf ((p,w) :: P.zip vs) m p=_;unfold bindC;rw [Lu λv hv=>(nodup_cons.mp nd).1 (of_mem_zip hv).1,if_neg hk];simp
 | p :: P,w :: vs,i + 1,m,nd,h1,h2,hk=>by show bindC kindOf ((p,w) :: P.zip vs) m x=_;unfold bindC;exact Lg (i:=i) (nodup_cons.mp nd).2 (by simpa using h1) (by simpa using h2) hk
def start (N:M6) (vs:List V):St:=vs.map some ++ replicate (N.length - vs.length) none
def Hs (CX:CXT) (P:G8) (w:World) (K:N5) (mg:K4) (base:Heap) (N:M6) (qual:Str) (scope:Scope) (f:G5) (cd:G3) (A:G7) (outer:List Env) (s:G4) (H:Hp) (E:XK):Cx where
 prog:=P
 w:=w
 K:=K
 mg:=mg
 base:=base
 A:=A.deeper (envOfC qual scope s.heap.objs.size f cd)
 N:=N
 s₀:=s
 H₀:=H
 env:=envOfC qual scope s.heap.objs.size f cd
 outer:=outer
 stack:=envOfC qual scope s.heap.objs.size f cd :: outer
 ex:=[]
 calm:=true
 fn:=λ_=>true
 pn:=[]
 xe:=λe s'=>wpAny (model P w) (A.deeper (envOfC qual scope s.heap.objs.size f cd)) (leaving (envOfC qual scope s.heap.objs.size f cd) e) (λ_ s''=>CX outer H s E e s'') (λe' s''=>CX outer H s E e' s'') s'
def Ed {sc:Scope} {n:Nat} (h:sc.names.lookup x=some .cell):∃ c,(cellsFrom n sc.names []).lookup x=some c:=by have q:=PySem.W.cellsFrom_some sc.names n [] (.inl h);exact A0l.mp q
theorem Qy7 {CX:CXT} {mg:K4} {N ps:M6} {qual:Str} {scope:Scope} {f:G5} {cd:G3} {outer:List Env} {s1:G4} {E:XK}
  (S:Xn N ps scope) (hd:A.handled=none) (e0:Qd5 P w K mg base A outer s H) (hl:vs.length=ps.length) (r:Xq vs us)
  (x:InCallC s s.heap.objs.size (bindL (envOfC qual scope s.heap.objs.size f cd).kindOf (ps.zip us) λ_=>none) (cellsFrom (s.heap.objs.size + 1) scope.names []) (bindC (envOfC qual scope s.heap.objs.size f cd).kindOf (ps.zip us) λ_=>none) s1) :
  Inv (Hs CX P w K mg base N qual scope f cd A outer s H E) [] (start N vs) H s1:=by
 have hpl:ps.length<=N.length:=by have:=W8 List.length S.pre; rw [length_take] at this; lia
 obtain ⟨h1,tk,rfl,hk⟩:=x.done;have noA:∀ b:G5,b ∉ (Hs CX P w K mg base N qual scope f cd A outer s H E).ex:=λb z=>absurd (show b∈([]:K9) from z) (by simp);refine ⟨⟨e0.mod,S.kind,rfl,rfl,O7 _,λy z c h1 h2=>?_,λy hy=>?_,λy c _ h=>?_,λ_=>hd,Around.frames_deeper e0.frames,.inr ⟨rfl,rfl⟩,λb z=>absurd z (noA b),e0.bs,e0.bsz,λb _ _=>noA b,λb z=>absurd z (noA b),e0.dj,e0.frf⟩,
  rfl,e0.bare,Un.kept hk,⟨_,x.toInCall.ns,λi y v h1 h2 h3=>?_⟩,λy c h=>⟨_,x.cell y c h⟩,e0.hok.fresh (O7 _),λy c h=>?_,λp hp=>absurd (show p∈([]:G9) from hp) (by simp),e0.hok.kept hk,?_⟩
 ·exact name_of_addr x.apart (A0m h1) (A0m h2)
 ·have hy:scope.names.lookup y=some .cell\/scope.names.lookup y=some .free:=hy;rcases hy with hy | hy
  ·exact Ed hy
  ·exact absurd rfl (S.nofree _ (A0m hy))
 ·exact V5 (x.above y c (A0m h))
 ·have hi:i < vs.length:=by
   unfold start at h2
   by_cases hi:i < vs.length
   ·exact hi
   ·rw [getElem?_append_right (by simpa using hi)] at h2;rw [getElem?_replicate] at h2
    split at h2 <;> cases h2
  have ha:vs[i]? = some v:=by
   unfold start at h2;rw [getElem?_append_left (by simpa using hi),getElem?_map] at h2;cases e:vs[i]? with
   | none=>rw [e] at h2; cases h2
   | some a=>rw [e] at h2; cases h2; rfl
  obtain ⟨u,hu,rv⟩:=r.get ha;have hp:ps[i]? = some y:=by rw [<- S.pre,getElem?_take_of_lt (by lia)]; exact h1
  have ndP:ps.Nodup:=by rw [<- S.pre]; exact S.nd.sublist (take_sublist _ _)
  refine ⟨u,rv,?_⟩;rcases S.par y (T8 hp) with k | k
  ·exact .inl ⟨k,Ly ndP hp hu k⟩
  ·obtain ⟨c,e⟩:=Ed (n:=s.heap.objs.size + 1) k;refine .inr ⟨.inl k,c,e,?_⟩;have q:=x.cell y c e;rw [Lg ndP hp hu (by show scope.names.lookup y≠_; rw [k]; decide)] at q;exact q
 ·exact e0.hok.fresh (V5 (x.above y c (A0m h)))
 ·unfold start;show _=N.length;rw [length_append,length_map,length_replicate];lia
theorem Qdj {CX:CXT} {mg:K4} {f:G5} {name qual:Str} {params:Arguments} {scope:Scope} {dV kV doc pm cdv ct oc:G3} {an od:M8}
  {osl:Array M4} {N ps:M6} {sp:Sp} (lk:K.lookup f=some ⟨oc,od,.func (PySem.W.fnOf name qual params body scope dV kV doc pm an cdv ct),osl⟩) (hcd:PySem.W.codeIn K cdv qual=true) (S:Xn N ps scope)
  (len:∀ vs H Q E,sp vs H Q E->vs.length=ps.length)
  (iu:∀ (A:G7) (outer:List Env) (s:G4) (H:Hp) (vs:List V) (Q:VK) (E:XK),Jc k (A.deeper (envOfC qual scope s.heap.objs.size f cdv))->sp vs H Q E ->
   ∃ t,PSs (Hs CX P w K mg base N qual scope f cdv A outer s H E) body t/\t { nx:=λ_ H'=>Q .non H',rt:=Q } (start N vs) H) :
  Mn P w K mg base CX (k + 1) f (PySem.W.fnOf name qual params body scope dV kV doc pm an cdv ct) ps sp:=by
 refine ⟨len,λA outer s H args us vs Q E hr e0 hb r hsp=>?_⟩;have hl:=len _ _ _ _ hsp;have KX:K.In s.heap:=e0.mod.kin.keeps λb o e=>(e0.bs b o e).1;have lim:s.heap.NoLimit:=e0.mod.nolimit.keeps λb o e=>(e0.bs b o e).1;have jf:∀ y∈ps.zip us,scope.names.lookup y.1=some .local\/(scope.names.lookup y.1=some .cell/\((cellsFrom (s.heap.objs.size + 1) scope.names []).lookup y.1).isSome=true):=λ⟨n,v⟩ hy=>by
  rcases S.par n (of_mem_zip hy).1 with q | q
  ·exact .inl q
  ·exact .inr ⟨q,PySem.W.cellsFrom_some _ _ _ (.inl q)⟩
 refine codeAny_call_function hr.depth (KX _ _ lk) rfl S.co S.gen rfl (PySem.W.codeRec_of KX hcd) (hb _ _ _ _ ?_);refine wpAny_newFunctionEnv_cells S.kind jf λenv he s1 x=>?_;subst he;refine ⟨lim.keeps x.toInCall.keep,codeAny_func ?_⟩;obtain ⟨t,ht,hq⟩:=iu A outer s H vs Q E (hr.deeper _) hsp;have I:Inv (Hs CX P w K mg base N qual scope f cdv A outer s H E) [] (start N vs) H s1:=Qy7 S hr.hd e0 hl r x;refine S9 (ht [] s1 (start N vs) H _ I hq) (λfl s' hs=>?_) λe s' hs=>hs;have fin:∀ {σ':St} {H':Hp} {v:V} {u:G3},Inv (Hs CX P w K mg base N qual scope f cdv A outer s H E) [] σ' H' s'->Ys v u->Q v H'->CE outer P w H s Q u s' :=λ{σ' H' v u} J rv q=>⟨v,H',J.os,J.bare,J.base,J.hok,rv,q⟩
 cases fl with
 | ret u =>obtain ⟨v,σ',H',J,rv,q⟩:=hs;exact fin J rv q
 | next =>obtain ⟨σ',H',J,q⟩:=hs;exact fin (v:=V.non) (u:=Value.none) J rfl q
 | brk =>obtain ⟨_,_,_,q⟩:=hs;exact False.elim q
 | cont =>obtain ⟨_,_,_,q⟩:=hs;exact False.elim q
section
variable {p:Pos} {es:M7} {t:TA} {id T:String} {r:List V->Hp->VK->Prop}
def tCB (r:List V->Hp->VK->Prop) (t:TA):TE:=λσ H Q=>t σ H λvs H1=>r vs H1 Q
def Qt (hc:Up X (.builtin id) r) (hg:Gl X x) (hm:X.mg x=none) (hv:bootBuiltins x=some (.builtin id)) (ha:PA X (e :: es) t) (hn:x≠"__name__" := by decide) (hdb:(x == ("__debug__" : Str))=false:=by decide)
  (he:starEach (e :: es) X.env=(false,eval e X.env) :: starEach es X.env:=by rfl) (hpl:(backTo pos (starEach es X.env)).any (·.1)=false:=by rfl):PE X (.Call (.Name x p) (e :: es) [] pos) (tCB r t):=by
 intro dz s σ H Q I h;refine V3 (Uw I hg hm hv ?_ hn hdb);exact PyProof.Rows.callWith_builtin1 (thn (ha pos dz s σ H _ I h) λus s1 ⟨vs,H1,I1,r1,q1⟩=>hc dz s1 σ H1 vs us Q I1 r1 q1) he hpl
def Tx (hc:Up X (.type T) r) (hg:Gl X x) (hm:X.mg x=none) (hv:bootBuiltins x=some (.type T)) (ha:PA X (e :: es) t) (hn:x≠"__name__" := by decide) (hdb:(x == ("__debug__" : Str))=false:=by decide)
  (he:starEach (e :: es) X.env=(false,eval e X.env) :: starEach es X.env:=by rfl) (hpl:(backTo pos (starEach es X.env)).any (·.1)=false:=by rfl):PE X (.Call (.Name x p) (e :: es) [] pos) (tCB r t):=by
 intro dz s σ H Q I h;refine V3 (Uw I hg hm hv ?_ hn hdb);exact W9 (thn (ha pos dz s σ H _ I h) λus s1 ⟨vs,H1,I1,r1,q1⟩=>hc dz s1 σ H1 vs us Q I1 r1 q1) he hpl
end
end L2
namespace HT
open PySem PyProof.Rows
section
variable {prog:G8} {w:World} {A:G7} {E:K5} {s:G4}
def sIx (n d:Nat):Option Int->Nat
 | none=>d
 | some v=>if v < 0 then (v + (n:Int)).toNat else min v.toNat n
def sIx_none (n d:Nat):sIx n d none=d:=rfl
def sIx_nat (n d k:Nat):sIx n d (some (k:Int))=min k n:=by show (if (k:Int) < 0 then ((k:Int) + (n:Int)).toNat else min (k:Int).toNat n)=min k n;rw [if_neg (by lia),Int.toNat_natCast]
theorem Qix (n d:Nat) (hd:d<=n) (o:M5):sIx n d o<=n:=by
 cases o with
 | none=>exact hd
 | some v =>
  show (if v < 0 then (v + (n:Int)).toNat else min v.toNat n)<=n
  by_cases hv:v < 0
  ·rw [if_pos hv]; lia
  ·rw [if_neg hv]; exact Nat.min_le_right _ _
theorem Qv1 (v:Int) (n d:Nat):(if v < 0 then max (v + (n:Int)) 0 else min v (n:Int))=((sIx n d (some v):Nat):Int):=by
 show (if v < 0 then max (v + (n:Int)) 0 else min v (n:Int))=(((if v < 0 then (v + (n:Int)).toNat else min v.toNat n):Nat):Int)
 by_cases hv:v < 0
 ·simp only [if_pos hv]; lia
 ·simp only [if_neg hv]; lia
theorem Qq6 (lo hi:M5) (n:Nat):Builtin.Slice.sliceAdjust lo hi 1 (n:Int)=(((sIx n 0 lo:Nat):Int),((sIx n n hi:Nat):Int)):=by
 have h1:¬ ((1:Int) < 0):=by lia
 unfold Builtin.Slice.sliceAdjust;simp only [h1,if_false];refine Prod.ext ?_ ?_
 ·cases lo with
  | none=>rfl
  | some v=>exact Qv1 v n 0
 ·cases hi with
  | none=>rfl
  | some v=>exact Qv1 v n n
theorem Ou (i j:Nat):Builtin.Slice.slicePlaces (i:Int) (j:Int) 1=j - i:=by
 unfold Builtin.Slice.slicePlaces;have h1:(1:Int) > 0:=by lia
 simp only [h1,if_true,Int.ediv_one]
 split <;> lia
theorem Dw {v:G3} {o:M5} {Q:Option Int->G4->Prop} (p:IsPart v o) (h:Q o s):wpAny (model prog w) A (Builtin.Slice.slicePartIndex v) Q E s:=by
 cases p with
 | none=>exact slicePart_none h
 | int i t=>exact slicePart_int h
def Kj {sl:G5} {vl vu:G3} {lo hi:M5} {n:Nat} {Q:Int × Int × Nat->G4->Prop} (hs:s.heap.IsSliceOf sl vl vu .none) (pl:IsPart vl lo) (pu:IsPart vu hi)
  (h:Q (((sIx n 0 lo:Nat):Int),1,sIx n n hi - sIx n 0 lo) s):wpAny (model prog w) A (Builtin.Slice.sliceApplied (.ref sl) (pure (n:Int))) Q E s:=by
 obtain ⟨os,hos,hcs,hds⟩:=id hs;unfold Builtin.Slice.sliceApplied Builtin.Slice.sliceFields;refine M9 (M9 (wpAny_field hos hds (x:=vl) rfl (M9 (wpAny_field hos hds (x:=vu) rfl (M9 (wpAny_field hos hds (x:=.none) rfl (N6 ?_)))))));refine M9 (slicePart_none ?_);show wpAny _ _ (if ((1:Int) == 0)=true then _ else _) _ _ s;rw [if_neg (by decide)];refine M9 (Dw pl (M9 (Dw pu (M9 (N6 ?_)))));show wpAny _ _ (match Builtin.Slice.sliceAdjust lo hi 1 (n:Int) with | (lo,hi)=>pure (lo,(1:Int),Builtin.Slice.slicePlaces lo hi 1)) _ _ s;rw [Qq6 lo hi n];show wpAny _ _ (pure (((sIx n 0 lo:Nat):Int),(1:Int),Builtin.Slice.slicePlaces ((sIx n 0 lo:Nat):Int) ((sIx n n hi:Nat):Int) 1)) _ _ s;rw [Ou];exact N6 h
theorem Qpq (xs:Array G3) (i k:Nat):((range k).filterMap λ(m:Nat)=>xs[((i:Int) + (m:Int) * 1).toNat]?).toArray=((xs.toList.drop i).take k).toArray:=by
 have e:(λ(m:Nat)=>xs[((i:Int) + (m:Int) * 1).toNat]?)=λm=>xs[i + m]?:=by
  funext m
  have:((i:Int) + (m:Int) * 1).toNat=i + m:=by lia
  rw [this]
 rw [e];have:=pick_run xs i k;rw [filterMap_map] at this;have e2:((λx=>xs[x]?) ∘ λx=>i + x)=λm=>xs[i + m]?:=rfl;rw [e2] at this;rw [this]
def getItem_tuple_cut {t sl:G5} {items:Array G3} {vl vu:G3} {lo hi:M5} {Q:K5} (ht:IsTup s.heap t items) (hs:s.heap.IsSliceOf sl vl vu .none) (pl:IsPart vl lo) (pu:IsPart vu hi)
  (hw:¬ (sIx items.size 0 lo=0/\sIx items.size items.size hi=items.size))
  (h:Q (.ref s.heap.objs.size) { s with heap:=s.heap.push { cls:=.type "tuple",data:=.seq ((items.toList.drop (sIx items.size 0 lo)).take (sIx items.size items.size hi - sIx items.size 0 lo)).toArray } })
  (hsz:items.size<=sizeLine):wpAny (model prog w) A (getItem (.ref t) (.ref sl)) Q E s:=by
 have htake:sizeOk (.seq ((items.toList.drop (sIx items.size 0 lo)).take (sIx items.size items.size hi - sIx items.size 0 lo)).toArray):=by show ((items.toList.drop (sIx items.size 0 lo)).take (sIx items.size items.size hi - sIx items.size 0 lo)).toArray.size<=sizeLine;rw [size_toArray,length_take,length_drop,Array.length_toList];lia
 have hj:sIx items.size items.size hi<=items.size:=Qix _ _ (O7 _) hi;obtain ⟨os,hos,hcs,hds⟩:=id hs;have hTs:s.TypeIs (.ref sl) "slice" := ⟨os,hos,hcs⟩
 unfold getItem
 try with_reducible refine U5 ?_
 first | refine M9 (N6 ?_) | skip
 refine M9 (wpAny_sequenceKey ht.typeIs (by decide) ?_);refine M9 (A0n (name:=Str.ofString "__getitem__") ht.typeIs PyProof.Rows.slot_tuple_getitem
  (Z0 PyProof.Rows.slot_tuple_getitem ht.typeIs entry_tuple_getitem ?_ (args_tuple_getitem _ _)))
 show wpAny _ _ (Builtin.Tuple.tupleItemsOf (.ref t) >>= _) _ _ s;refine M9 (tupleItemsOf_ ht ?_);refine M9 (wpAny_typeOf hTs ?_);rw [if_pos (by decide)];refine M9 (Kj hs pl pu ?_);have hno:¬ ((((sIx items.size 0 lo:Nat):Int) == 0 && (1:Int) == 1 && (sIx items.size items.size hi - sIx items.size 0 lo) == items.size)=true):=by intro q;rw [Bool.and_eq_true,Bool.and_eq_true] at q;have q1:((sIx items.size 0 lo:Nat):Int)=0:=eq_of_beq q.1.1;have q2:sIx items.size items.size hi - sIx items.size 0 lo=items.size:=eq_of_beq q.2;exact hw ⟨by lia,by lia⟩
 show wpAny _ _ (if (((sIx items.size 0 lo:Nat):Int) == 0 && (1:Int) == 1 && (sIx items.size items.size hi - sIx items.size 0 lo) == items.size)=true then _ else _) _ _ s;rw [if_neg hno,Qpq]
 first
  | exact M9 (m:=Builtin.Tuple.tupleExact _) (V2 (N6 ⟨_,rfl,N6 h⟩) htake)
  | exact M9 (m:=Builtin.Tuple.tupleExact _) (V2 (M9 (N6 (N6 ⟨_,rfl,N6 h⟩))) htake)
  | exact M9 (M9 (m:=Builtin.Tuple.tupleExact _) (V2 (N6 (N6 ⟨_,rfl,N6 h⟩)) htake))
  | exact M9 (M9 (m:=Builtin.Tuple.tupleExact _) (V2 (N6 ⟨_,rfl,N6 h⟩) htake))
end
end HT
namespace L2
open PySem PySem.Spec PyProof.Rows
variable {n:Nat} {its:K8}
abbrev TO:=St->Hp->(Option Int->Hp->Prop)->Prop
def PO (X:Cx) (e:Option Expr) (t:TO):Prop :=
 ∀ (dz:G9) (s:G4) (σ:St) (H:Hp) (Q:Option Int->Hp->Prop),Inv X dz σ H s->t σ H Q ->
  wpAny (model X.prog X.w) X.A (evalPart e X.env) (λu s' => ∃ o H',Inv X dz σ H' s'/\IsPart u o/\Q o H') X.xe s
def Qc1:TO:=λ_ H Q=>Q none H
def Qoq (t:TE):TO:=λσ H Q=>t σ H λx H1 => ∃ i,x=.int i/\Q (some i) H1
theorem Oi {ns:K6}:∀ {us:K8},Xq (ns.map V.int) us->IntsAre us ns:=by
 induction ns with
 | nil=>intro us r; rw [map_nil] at r; cases r; exact .nil
 | cons n ns ih =>
  intro us r;rw [map_cons] at r;cases r with
  | cons r1 r2 =>obtain ⟨t,e⟩:=r1;subst e;exact .cons n t (ih r2)
section
variable {X:Cx} {e:Expr} {te:TE} {lo hi:Option Expr} {tl th:TO} {pos p2:Pos}
def Tn:PO X none Qc1:=by intro dz s σ H Q I h;rw [evalPart_none];exact N6 ⟨none,H,I,.none,h⟩
def Wv (h:PE X e te):PO X (some e) (Qoq te):=by intro dz s σ H Q I hw;rw [evalPart_some];refine thn (h dz s σ H _ I hw) λu s1 ⟨x,H1,I1,r1,q1⟩=>?_;obtain ⟨i,rfl,q⟩:=q1;obtain ⟨t,rfl⟩:=r1;exact ⟨some i,H1,I1,.int i t,q⟩
def SlR (X:Cx) (r:V->Option Int->Option Int->Hp->VK->Prop):Prop :=
 ∀ (dz:G9) (s:G4) (σ:St) (H:Hp) (x:V) (v vl vu:G3) (lo hi:M5) (sl:G5) (Q:VK),Inv X dz σ H s->Ys x v->s.heap.IsSliceOf sl vl vu .none->IsPart vl lo->IsPart vu hi->r x lo hi H Q ->
  ∃ T id,typeLookup (.type T) "__getitem__" = pure (some (.builtin id))/\s.TypeIs v T/\wpAny (model X.prog X.w) X.A (getItem v (.ref sl)) (EP X dz σ Q) X.xe s
def tSl (r:V->Option Int->Option Int->Hp->VK->Prop) (te:TE) (tl th:TO):TE:=λσ H Q=>te σ H λx H1=>tl σ H1 λl H2=>th σ H2 λu H3=>r x l u H3 Q
def Vg {r:V->Option Int->Option Int->Hp->VK->Prop} (hr:SlR X r) (he:PE X e te) (hl:PO X lo tl) (hu:PO X hi th):PE X (.Subscript e (.Slice lo hi none p2) pos) (tSl r te tl th):=by intro dz s σ H Q I h;refine Subscript_ (thn (he dz s σ H _ I h) λv s1 ⟨x,H1,I1,r1,q1⟩=>?_);refine wpAny_Slice (thn (hl dz s1 σ H1 _ I1 q1) λvl s2 ⟨l,H2,I2,pl,q2⟩=>thn (hu dz s2 σ H2 _ I2 q2) λvu s3 ⟨u,H3,I3,pu,q3⟩=>?_);rw [evalPart_none];refine N6 ?_;have I4:Inv X dz σ H3 { s3 with heap:=s3.heap.push { cls:=.type "slice",data:=.fields #[vl,vu,.none] } }:=I3.kept (t':=s3.toks) λb ob q=>O3 _ q;obtain ⟨T,id,hT,ht,hg⟩:=hr dz { s3 with heap:=s3.heap.push { cls:=.type "slice",data:=.fields #[vl,vu,.none] } } σ H3 x v vl vu l u s3.heap.objs.size Q I4 r1 (Heap.IsSliceOf.new ..) pl pu q3;show wpAny (model X.prog X.w) X.A (subscriptTail e (.Slice lo hi none p2) v (.ref s3.heap.objs.size)) (EP X dz σ Q) X.xe { s3 with heap:=s3.heap.push { cls:=.type "slice",data:=.fields #[vl,vu,.none] } };exact tail_any (ops:=[.ref s3.heap.objs.size,v]) ht hT hg (by with_unfolding_all rfl)
def Ds (xs:List V) (lo hi:M5):List V:=(xs.drop (HT.sIx xs.length 0 lo)).take (HT.sIx xs.length xs.length hi - HT.sIx xs.length 0 lo)
theorem Fj (xs:List V) (lo hi:M5):(Ds xs lo hi).length<=xs.length:=by unfold Ds;rw [length_take,length_drop];lia
def Zz5 (K:N5):V->Option Int->Option Int->Hp->VK->Prop:=λx lo hi H Q => ∃ a xs,x=.ref a/\SqT K H a xs /\
 ¬ (HT.sIx xs.length 0 lo=0/\HT.sIx xs.length xs.length hi=xs.length)/\∀ p,H p=none->Q (.ref p) (upd H p (.tup (Ds xs lo hi)))
def Qiz:SlR X (Zz5 X.K):=by
 intro dz s σ H x v vl vu lo hi sl Q I rx hs pl pu h;obtain ⟨a,xs,rfl,hx,hw,q⟩:=h;cases rx;obtain ⟨its,r,ht,hz⟩:=I.tuple hx;have fu:its.toArray.size=xs.length:=by rw [size_toArray]; exact r.length.symm
 refine ⟨"tuple",_,PyProof.Rows.slot_tuple_getitem.lookup,ht.typeIs,?_⟩;refine HT.getItem_tuple_cut ht hs pl pu (by rw [fu]; exact hw) ?_ (by rw [fu]; exact hz);rw [fu];refine ⟨.ref s.heap.objs.size,_,I.laid (t':=s.toks) (o:=.tup (Ds xs lo hi)) (λb ob q=>O3 _ q) (O7 _) ?_,rfl,q _ (I.hok.fresh (O7 _))⟩;exact ⟨R4 (Fj xs lo hi) hz,_,(r.drop (HT.sIx xs.length 0 lo)).take (HT.sIx xs.length xs.length hi - HT.sIx xs.length 0 lo),IsTup.new _ _⟩
end
def ixN (n:Nat) (i:Int):Option Nat:=if 0<=i then (if i < n then some i.toNat else none) else if -(n:Int)<=i then some (i + n).toNat else none
def atI {α:Type} (xs:List α) (i:Int):Option α:=(ixN xs.length i).bind λj=>xs[j]?
theorem Qj7 {i:Int} {j:Nat} (h:ixN n i=some j):seqIndex? i n=some j/\j < n/\-(n:Int)<=i/\i < n:=by
 unfold ixN at h
 by_cases h0:0<=i
 ·rw [if_pos h0] at h
  by_cases h1:i < n
  ·rw [if_pos h1] at h;have e:i.toNat=j:=R5 h;exact ⟨by rw [seqIndex_of h0 h1,e],by lia,by lia,h1⟩
  ·rw [if_neg h1] at h; cases h
 ·rw [if_neg h0] at h
  by_cases h1:-(n:Int)<=i
  ·rw [if_pos h1] at h;have e:(i + n).toNat=j:=R5 h;exact ⟨by rw [seqIndex_neg (by lia) h1,e],by lia,h1,by lia⟩
  ·rw [if_neg h1] at h; cases h
theorem Cp {α:Type} {xs:List α} {i:Int} {v:α} (h:atI xs i=some v):∃ j,seqIndex? i xs.length=some j/\xs[j]? = some v/\j < xs.length/\-(xs.length:Int)<=i/\i < xs.length:=by
 unfold atI at h;cases e:ixN xs.length i with
 | none=>rw [e] at h; cases h
 | some j =>rw [e] at h;obtain ⟨h1,h2,h3,h4⟩:=Qj7 e;exact ⟨j,h1,h,h2,h3,h4⟩
theorem Qtq {α:Type} {xs:List α} {j:Nat} {v:α} (h:xs[j]? = some v):atI xs (j:Int)=some v:=by
 have hj:j < xs.length:=(N8.mp h).1;have e:ixN xs.length (j:Int)=some j:=by unfold ixN;rw [if_pos (by lia),if_pos (by lia)]; simp
 unfold atI; rw [e]; exact h
def Qv4 (b:Expr):Prop:=∀ o i,subscripted b false o i=operate [o,i] (getItem o i)
def IxR (X:Cx) (r:R2):Prop :=
 ∀ (value jd:Expr) (dz:G9) (s:G4) (σ:St) (H:Hp) (x y:V) (v u:G3) (Q:VK),Inv X dz σ H s->Ys x v->Ys y u->r x y H Q ->
  subscripted jd false v u=operate [v,u] (getItem v u)->wpAny (model X.prog X.w) X.A (subscriptTail value jd v u) (EP X dz σ Q) X.xe s
def MtR (X:Cx) (id:String) (r:V->List V->Hp->VK->Prop):Prop :=
 ∀ (dz:G9) (s:G4) (σ:St) (H:Hp) (x:V) (xs:List V) (v:G3) (us:K8) (Q:VK),Inv X dz σ H s->Ys x v->Xq xs us->r x xs H Q ->
  wpAny (model X.prog X.w) X.A (call (.builtin id) (v :: us)) (EP X dz σ Q) X.xe s
section
variable {X:Cx} {a b:Expr} {ta tb:TE} {pos:Pos}
def IxR.or {r r':R2} (h:IxR X r) (h':IxR X r'):IxR X (λx y H Q=>r x y H Q\/r' x y H Q):=by
 intro value jd dz s σ H x y v u Q I rx ry q hs;rcases q with q | q
 ·exact h value jd dz s σ H x y v u Q I rx ry q hs
 ·exact h' value jd dz s σ H x y v u Q I rx ry q hs
def Zq6 {r:R2} (hr:IxR X r) (ha:PE X a ta) (hb:PE X b tb) (hs:Qv4 b):PE X (.Subscript a b pos) (tOp r ta tb):=by intro dz s σ H Q I h;exact Subscript_ (Qo4 ha hb I h λv u s2 x y H2 I2 rx ry q=>hr a b dz s2 σ H2 x y v u Q I2 rx ry q (hs _ _))
inductive RxL (K:N5) (x y:V) (H:Hp) (Q:VK):Prop
 | mk (p:G5) (xs:List V) (i:Int) (v:V) (a:x=.ref p) (b:y=.int i) (c:SqL K H p xs) (d:atI xs i=some v) (q:Q v H)
def Zz9 (K:N5):R2:=RxL K
inductive RxT (K:N5) (x y:V) (H:Hp) (Q:VK):Prop
 | mk (p:G5) (xs:List V) (i:Int) (v:V) (a:x=.ref p) (b:y=.int i) (c:SqT K H p xs) (d:atI xs i=some v) (q:Q v H)
def Zz7 (K:N5):R2:=RxT K
def Zz8:R2:=λx y H Q => ∃ z i c,x=.str z/\y=.int i/\z.length<=sizeLine/\atI z.cps.toList i=some c/\Q (.str ⟨#[c]⟩) H
theorem Qrx:IxR X (Zz9 X.K):=by
 intro value jd dz s σ H x y v u Q I rx ry h hs;obtain ⟨p,xs,i,z,rfl,rfl,hq,he,q⟩:=h;cases rx;obtain ⟨t,rfl⟩:=ry;obtain ⟨its,r,pl,hz⟩:=I.list hq;obtain ⟨j,h1,h2,h3,h4,h5⟩:=Cp he;obtain ⟨w,ew,rw'⟩:=r.get h2;have hl:=r.length;have hn:=Bz;have fin:EP X dz σ Q w s:=⟨z,H,I,rw',q⟩
 by_cases h0:0<=i
 ·have hj:i.toNat=j:=by rw [seqIndex_of h0 h5] at h1;exact R5 h1
  exact item_listR pl.isList h0 (by lia) (by rw [hj]; simpa using ew) fin hs
 ·have hj:(i + (its.toArray.size:Int)).toNat=j:=by rw [seqIndex_neg (by lia) h4] at h1;rw [size_toArray,<- hl];exact R5 h1
  exact subscriptTail_builtinR (x:=w) pl.isList.typeIs slot_list_getitem.lookup
   (wpAny_getItem_list_neg (Q:=λr s'=>r=w/\EP X dz σ Q r s') pl.isList (by lia) (by rw [size_toArray] <;> lia) (by lia) (by rw [hj]; simpa using ew) ⟨rfl,fin⟩) hs
theorem Qe3:IxR X (Zz7 X.K):=by
 intro value jd dz s σ H x y v u Q I rx ry h hs;obtain ⟨p,xs,i,z,rfl,rfl,hq,he,q⟩:=h;cases rx;obtain ⟨t,rfl⟩:=ry;obtain ⟨its,r,pl,hz⟩:=I.tuple hq;obtain ⟨j,h1,h2,h3,h4,h5⟩:=Cp he;obtain ⟨w,ew,rw'⟩:=r.get h2;have hl:=r.length;have hn:=Bz;have fin:EP X dz σ Q w s:=⟨z,H,I,rw',q⟩
 exact subscriptTail_builtinR (x:=w) pl.typeIs slot_tuple_getitem.lookup
  (getItem_tuple (j:=j) (Q:=λr s'=>r=w/\EP X dz σ Q r s') pl (by lia) (by lia) (by rw [size_toArray,<- hl]; exact h1) (by simpa using ew) ⟨rfl,fin⟩) hs
theorem Qe4:IxR X Zz8:=by
 intro value jd dz s σ H x y v u Q I rx ry h hs;obtain ⟨z,i,c,rfl,rfl,hz,he,q⟩:=h;obtain ⟨t,rfl⟩:=rx;obtain ⟨t',rfl⟩:=ry;obtain ⟨j,h1,h2,h3,h4,h5⟩:=Cp he;have hl:z.cps.toList.length=z.length:=by simp [Str.length]
 rw [hl] at h1 h4 h5;have hn:=Bz;exact tail_any (typeIs_str s z t) slot_str_getitem.lookup (getItem_str (c:=c) (by have e1:decide (i < -(2 ^ 63:Int))=false:=T5 (by lia);have e2:decide (i>=2 ^ 63)=false:=T5 (by lia);rw [e1,e2,Bool.or_false]) (by rw [h1]; simpa using h2) ⟨.str ⟨#[c]⟩,H,I.tok _,⟨_,rfl⟩,q⟩) hs
def rIx (K:N5):R2:=λx y H Q=>Zz9 K x y H Q\/Zz7 K x y H Q\/Zz8 x y H Q
def Qe5:IxR X (rIx X.K):=Qrx.or (Qe3.or Qe4)
def Oh (its:K8) (n j:Nat) (u:G3):Obj.mapSeq (·.setIfInBounds j u) { cls:=.type "list",data:=.seq its.toArray n }={ cls:=.type "list",data:=.seq (its.set j u).toArray n }:=by simp [Obj.mapSeq]
def Inv.lst {dz:G9} {σ:St} {H:Hp} {s:G4} {p:G5} {xs:List V} (I:Inv X dz σ H s) (h:H p=some (.lst xs)) :
  ∃ (its:K8) (n:Nat),Xq xs its/\s.heap.get? p=some { cls:=.type "list",data:=.seq its.toArray n }/\xs.length<=sizeLine:=by
 obtain ⟨z,its,n,r,e⟩:=I.hok p _ h;exact ⟨its,n,r,e,z⟩
def Inv.lstUpd {dz:G9} {σ:St} {H:Hp} {s:G4} {p:G5} {xs ys:List V} {its':K8} {n':Nat} {f:Obj->Obj} (I:Inv X dz σ H s) (h:H p=some (.lst xs))
  (ho:s.heap.get? p=some { cls:=.type "list",data:=.seq its.toArray n }) (hf:f { cls:=.type "list",data:=.seq its.toArray n }={ cls:=.type "list",data:=.seq its'.toArray n' }) (r:Xq ys its') (hz:ys.length<=sizeLine) (t:Nat) :
  Inv X dz σ (upd H p (.lst ys)) { s with heap:=s.heap.update p f,toks:=t }:=by
 have e:(s.heap.update p f).get? p=some { cls:=.type "list",data:=.seq its'.toArray n' }:=by rw [Heap.get?_update_self f ho (by rw [hf] <;> rfl),hf]
 refine I.write (x:=p) (e:=p) (by rw [h]; trivial) (.inl rfl) (λb u hb q=>(Heap.get?_update_other _ _ (Ne.symm hb)).trans q) ⟨_,e⟩ ?_;exact ⟨hz,its',n',r,e⟩
def Zq2:V->V->V->Hp->(Hp->Prop)->Prop:=λo i v H Q => ∃ p xs k j,o=.ref p/\i=.int k/\H p=some (.lst xs)/\ixN xs.length k=some j/\Q (upd H p (.lst (xs.set j v)))
theorem Wp:Zzk X Zq2:=by
 intro dz s σ H o i v ov iv u Q I ro ri rv h;obtain ⟨p,xs,k,j,rfl,rfl,hp,hj,q⟩:=h;cases ro;obtain ⟨t,rfl⟩:=ri;obtain ⟨its,n,r,ho,hz⟩:=I.lst hp;obtain ⟨h1,h2,h3,h4⟩:=Qj7 hj;have hl:=r.length;have hn:=Bz;have I':Inv X dz σ (upd H p (.lst (xs.set j v))) { s with heap:=s.heap.update p (Obj.mapSeq (·.setIfInBounds j u)) } :=I.lstUpd hp ho (Oh its n j u) (r.set rv j) (by rw [length_set]; exact hz) s.toks
 by_cases h0:0<=k
 ·have hk:k.toNat=j:=by rw [seqIndex_of h0 h4] at h1;exact R5 h1
  exact PySem.W.ki_setAt ho h0 (by lia) (by rw [size_toArray,<- hl]; exact h4) (by rw [hk]; exact ⟨_,I',q⟩)
 ·have hk:(k + (its.toArray.size:Int)).toNat=j:=by rw [seqIndex_neg (by lia) h3] at h1;rw [size_toArray,<- hl];exact R5 h1
  exact PySem.W.ki_setBack ho (by lia) (by rw [size_toArray,<- hl]; exact h3) (by lia) (by rw [hk]; exact ⟨_,I',q⟩)
theorem Li (lo hi:M5) (n:Nat):(sliceBounds lo hi none n).1=((HT.sIx n 0 lo:Nat):Int)/\(sliceBounds lo hi none n).2.1=((HT.sIx n n hi:Nat):Int)/\(sliceBounds lo hi none n).2.2=1:=by
 refine ⟨?_,?_,rfl⟩
 ·cases lo with
  | none=>simp [sliceBounds,HT.sIx]
  | some i =>
   simp only [sliceBounds,HT.sIx,Option.getD_none,show (1:Int) > 0 by decide,if_true]
   by_cases h:i < 0
   ·simp only [h,if_true] <;> lia
   ·simp only [h,if_false] <;> lia
 ·cases hi with
  | none=>simp [sliceBounds,HT.sIx]
  | some i =>
   simp only [sliceBounds,HT.sIx,Option.getD_none,show (1:Int) > 0 by decide,if_true]
   by_cases h:i < 0
   ·simp only [h,if_true] <;> lia
   ·simp only [h,if_false] <;> lia
def Mp (its:K8) (lo hi:M5):slicePick its.toArray lo hi none=((its.drop (HT.sIx its.length 0 lo)).take (HT.sIx its.length its.length hi - HT.sIx its.length 0 lo)).toArray:=by obtain ⟨h1,h2,h3⟩:=Li lo hi its.toArray.size;unfold slicePick;rw [h1,h2,h3];simp only [sliceRange_one,pick_run,size_toArray] <;> rfl
def Zx9 (K:N5):V->Option Int->Option Int->Hp->VK->Prop:=λx lo hi H Q => ∃ a xs,x=.ref a/\SqL K H a xs/\∀ p,H p=none->Q (.ref p) (upd H p (.lst (Ds xs lo hi)))
theorem Qc8:SlR X (Zx9 X.K):=by intro dz s σ H x v vl vu lo hi sl Q I rx hs pl pu h;obtain ⟨a,xs,rfl,hx,q⟩:=h;cases rx;obtain ⟨its,r,ht,hz⟩:=I.list hx;have fu:=r.length;refine ⟨"list",_,slot_list_getitem.lookup,ht.isList.typeIs,?_⟩;refine wpAny_getItem_list_slice ht.isList hs pl pu .none (by simp) ?_ (by rw [size_toArray] <;> lia);rw [Mp,<- fu];refine ⟨.ref s.heap.objs.size,_,I.laid (t':=s.toks) (o:=.lst (Ds xs lo hi)) (λb ob q=>O3 _ q) (O7 _) ?_,rfl,q _ (I.hok.fresh (O7 _))⟩;exact ⟨R4 (Fj xs lo hi) hz,_,0,(r.drop (HT.sIx xs.length 0 lo)).take (HT.sIx xs.length xs.length hi - HT.sIx xs.length 0 lo),Q5 _ rfl⟩
def Vs:V->Bool
 | .non=>true
 | .bl _=>true
 | .int _=>true
 | .str _=>true
 | _=>false
def eqV:V->V->Bool
 | .non,.non=>true
 | .bl a,.bl b=>a == b
 | .bl a,.int b=>(if a then 1 else 0) == b
 | .int a,.bl b=>a == (if b then 1 else 0)
 | .int a,.int b=>a == b
 | .str a,.str b=>a == b
 | _,_=>false
theorem Qmz {A:G7} {s:G4} {y x:V} {u v:G3} (ry:Ys y u) (rx:Ys x v) (fy:Vs y=true) (fx:Vs x=true):SeqAt.EqAt A s u v (eqV y x):=by
 cases y with
 | non =>
  cases ry;cases x with
  | non=>cases rx; exact SeqAt.EqAt.same _
  | bl b=>cases rx; exact SeqAt.EqAt.none_bool b
  | int b=>obtain ⟨t,rfl⟩:=rx; exact SeqAt.EqAt.none_int b t
  | str b=>obtain ⟨t,rfl⟩:=rx; exact SeqAt.EqAt.none_str b t
  | _=>exact absurd (show false=true from fx) S8
 | bl a =>
  cases ry;cases x with
  | non=>cases rx; exact SeqAt.EqAt.bool_none a
  | bl b=>cases rx; exact SeqAt.EqAt.bool_bool a b
  | int b=>obtain ⟨t,rfl⟩:=rx; exact SeqAt.EqAt.bool_int a b t
  | str b=>obtain ⟨t,rfl⟩:=rx; exact SeqAt.EqAt.bool_str a b t
  | _=>exact absurd (show false=true from fx) S8
 | int a =>
  obtain ⟨t',rfl⟩:=ry;cases x with
  | non=>cases rx; exact SeqAt.EqAt.int_none a t'
  | bl b=>cases rx; exact SeqAt.EqAt.int_bool a t' b
  | int b=>obtain ⟨t,rfl⟩:=rx; exact SeqAt.EqAt.int_int a t' b t
  | str b=>obtain ⟨t,rfl⟩:=rx; exact SeqAt.EqAt.int_str a t' b t
  | _=>exact absurd (show false=true from fx) S8
 | str a =>
  obtain ⟨t',rfl⟩:=ry;cases x with
  | non=>cases rx; exact SeqAt.EqAt.str_none a t'
  | bl b=>cases rx; exact SeqAt.EqAt.str_bool a t' b
  | int b=>obtain ⟨t,rfl⟩:=rx; exact SeqAt.EqAt.str_int a t' b t
  | str b=>obtain ⟨t,rfl⟩:=rx; exact SeqAt.EqAt.str_str a t' b t
  | _=>exact absurd (show false=true from fx) S8
 | _=>exact absurd (show false=true from fy) S8
def eqU (x:V) (u:G3):Bool:=match u with
 | .none=>eqV .non x
 | .bool b=>eqV (.bl b) x
 | .int i _=>eqV (.int i) x
 | .str z _=>eqV (.str z) x
 | _=>false
theorem Qmq {x y:V} {u:G3} (r:Ys y u) (f:Vs y=true):eqU x u=eqV y x:=by
 cases y with
 | non=>cases r; rfl
 | bl b=>cases r; rfl
 | int i=>obtain ⟨t,rfl⟩:=r; rfl
 | str z=>obtain ⟨t,rfl⟩:=r; rfl
 | _=>exact absurd (show false=true from f) S8
theorem Gq {x:V}:∀ {xs:List V} {us:K8},Xq xs us->xs.all Vs=true->us.any (eqU x)=xs.any λy=>eqV y x
 | _,_,.nil,_=>rfl
 | y :: xs,u :: us,.cons r t,f=>by rw [all_cons,Bool.and_eq_true] at f;rw [any_cons,any_cons,Qmq r f.1,Gq t f.2]
theorem Ra {A:G7} {s:G4} {x:V} {v:G3} (rx:Ys x v) (fx:Vs x=true):∀ {xs:List V} {us:K8},Xq xs us->xs.all Vs=true->∀ u∈us,SeqAt.EqAt A s u v (eqU x u)
 | _,_,.nil,_=>λu hu=>by cases hu
 | y :: xs,u :: us,.cons r t,f=>λu' hu=>by
  rw [all_cons,Bool.and_eq_true] at f;rcases R3.mp hu with rfl | hu
  ·rw [Qmq r f.1]; exact Qmz r rx f.1 fx
  ·exact Ra rx fx t f.2 u' hu
def inV (x:V) (xs:List V):Bool:=xs.any λy=>eqV y x
def rIn (K:N5) (neg:Bool):R2:=λx y H Q => ∃ p xs,y=.ref p/\(SqL K H p xs\/SqT K H p xs)/\Vs x=true/\xs.all Vs=true/\Q (.bl (if neg then !inV x xs else inV x xs)) H
def Qk9:OpR X (compareOp .In) (rIn X.K false):=by
 intro dz s σ H x y v u Q I rx ry h;obtain ⟨p,xs,rfl,hq,fx,fs,q⟩:=h;cases ry;rcases hq with hq | hq
 ·obtain ⟨its,r,pl,hz⟩:=I.list hq;refine SeqAt.in_listAt (eqU x) pl.isList (λw hw=>Ra rx fx r fs w (by simpa using hw)) ⟨.bl _,H,I,rfl,?_⟩;rw [show its.toArray.any (eqU x)=its.any (eqU x) by simp,Gq r fs];exact q
 ·obtain ⟨its,r,pl,hz⟩:=I.tuple hq;refine SeqAt.in_tupleAt (eqU x) pl (λw hw=>Ra rx fx r fs w (by simpa using hw)) ⟨.bl _,H,I,rfl,?_⟩;rw [show its.toArray.any (eqU x)=its.any (eqU x) by simp,Gq r fs];exact q
def Hx:OpR X (compareOp .NotIn) (rIn X.K true):=by
 intro dz s σ H x y v u Q I rx ry h;obtain ⟨p,xs,rfl,hq,fx,fs,q⟩:=h;cases ry;rcases hq with hq | hq
 ·obtain ⟨its,r,pl,hz⟩:=I.list hq;refine SeqAt.notIn_listAt (eqU x) pl.isList (λw hw=>Ra rx fx r fs w (by simpa using hw)) ⟨.bl _,H,I,rfl,?_⟩;rw [show its.toArray.any (eqU x)=its.any (eqU x) by simp,Gq r fs];exact q
 ·obtain ⟨its,r,pl,hz⟩:=I.tuple hq;refine SeqAt.notIn_tupleAt (eqU x) pl (λw hw=>Ra rx fx r fs w (by simpa using hw)) ⟨.bl _,H,I,rfl,?_⟩;rw [show its.toArray.any (eqU x)=its.any (eqU x) by simp,Gq r fs];exact q
theorem Hh:Up X (.builtin "len") (λxs H Q => ∃ p ys,xs=[.ref p]/\(SqL X.K H p ys\/SqT X.K H p ys)/\Q (.int ys.length) H):=by
 intro dz s σ H xs us Q I r h;obtain ⟨p,ys,rfl,hq,q⟩:=h;obtain ⟨u,rfl,rx⟩:=Tp r;cases rx;have hn:=Bz;rcases hq with hq | hq
 ·obtain ⟨its,r',pl,hz⟩:=I.list hq;have fu:=r'.length;exact Calls.call_len_list pl.isList (by simp only [size_toArray] <;> lia) ⟨.int ys.length,H,I.tok _,⟨s.toks + 1,by rw [size_toArray,fu]⟩,q⟩
 ·obtain ⟨its,r',pl,hz⟩:=I.tuple hq;have fu:=r'.length;exact len_tuple pl (by simp only [size_toArray] <;> lia) ⟨.int ys.length,H,I.tok _,⟨s.toks + 1,by rw [size_toArray,fu]⟩,q⟩
theorem Hf:Up X (.type "list") (λxs H Q => ∃ p ys,xs=[.ref p]/\(SqL X.K H p ys\/SqT X.K H p ys)/\∀ l,H l=none->Q (.ref l) (upd H l (.lst ys))):=by
 intro dz s σ H xs us Q I r h;obtain ⟨p,ys,rfl,hq,q⟩:=h;obtain ⟨u,rfl,rx⟩:=Tp r;cases rx;have fin:∀ (its:K8),Xq ys its->ys.length<=sizeLine->∀ (h':Heap) (c':Nat),(∀ b o',s.heap.get? b=some o'->h'.get? b=some o') ->
   h'.get? s.heap.objs.size=some { cls:=.type "list",dict:=none,data:=.seq its.toArray c',slots:=#[] }->EP X dz σ Q (.ref s.heap.objs.size) { s with heap:=h' }:=λits r' hz h' c' kp e =>
  ⟨.ref s.heap.objs.size,_,I.laid (t':=s.toks) kp (O7 _) (show Jp X.prog X.w _ h' _ (.lst ys) from ⟨hz,its,c',r',e⟩),rfl,q _ (I.hok.fresh (O7 _))⟩
 rcases hq with hq | hq
 ·obtain ⟨its,r',pl,hz⟩:=I.list hq;have fu:=r'.length;obtain ⟨o,ho,hc,n,hd⟩:=pl.isList;exact call_list_seq p (.inl rfl) ho hc hd (λh' c' kp e=>fin its r' hz h' c' kp e) (by simp only [size_toArray] <;> lia)
 ·obtain ⟨its,r',pl,hz⟩:=I.tuple hq;have fu:=r'.length;obtain ⟨o,ho,hc,n,hd⟩:=pl;exact call_list_seq p (.inr rfl) ho hc hd (λh' c' kp e=>fin its r' hz h' c' kp e) (by simp only [size_toArray] <;> lia)
def tyV (K:N5) (T:String) (x:V) (H:Hp):Prop:=match x with
 | .str _=>T="str"
 | .int _=>T="int"
 | .ref p=>(T="list"/\∃ xs,SqL K H p xs)\/(T="tuple"/\∃ o,K.lookup p=some o/\o.cls=.type "tuple"/\o.dict=none) \/
   (T="dict"/\((∃ kvs,H p=some (.dK kvs))\/∃ kvs,H p=some (.dT kvs)))\/(T="set"/\∃ S n,H p=some (.set S n))
 | _=>False
theorem Qi0 {dz:G9} {σ:St} {H:Hp} {s:G4} {T:String} {x:V} {v:G3} (I:Inv X dz σ H s) (r:Ys x v) (ty:tyV X.K T x H) :
  s.TypeIs v T/\∀ a,v=.ref a->∃ ob,s.heap.get? a=some ob/\ob.dict=none:=by
 cases x with
 | str z =>obtain ⟨t,rfl⟩:=r;cases (show T="str" from ty);exact ⟨typeIs_str s z t,λ_ e=>nomatch e⟩
 | int i =>obtain ⟨t,rfl⟩:=r;cases (show T="int" from ty);exact ⟨typeIs_int s i t,λ_ e=>nomatch e⟩
 | ref p =>
  cases r;rcases ty with ⟨rfl,xs,hq⟩ | ⟨rfl,o,hk,hc,hd⟩ | ⟨rfl,hk⟩ | ⟨rfl,S,n,hk⟩
  ·obtain ⟨its,_,pl,_⟩:=I.list hq;refine ⟨pl.isList.typeIs,λa e=>?_⟩;cases e;obtain ⟨o,n,e,c,hd,_⟩:=pl;exact ⟨o,e,hd⟩
  ·refine ⟨⟨o,I.kIn p o hk,hc⟩,λa e=>?_⟩;cases e;exact ⟨o,I.kIn _ o hk,hd⟩
  ·have z:∃ o,s.heap.get? p=some o/\o.ExactDict:=by
    rcases hk with ⟨kvs,hk⟩ | ⟨kvs,hk⟩
    ·obtain ⟨_,_,_,_,o,_,_,e,ex,_⟩:=I.hok p _ hk;exact ⟨o,e,ex⟩
    ·obtain ⟨_,_,_,_,o,_,_,e,ex,_⟩:=I.hok p _ hk;exact ⟨o,e,ex⟩
   obtain ⟨o,e,ex⟩:=z;refine ⟨⟨o,e,ex.1⟩,λa e2=>?_⟩;cases e2;exact ⟨o,e,ex.2.1⟩
  ·obtain ⟨o,_,_,_,e,ex,_⟩:=I.hok p _ hk;refine ⟨⟨o,e,ex.1⟩,λa e2=>?_⟩;cases e2;exact ⟨o,e,ex.2.1⟩
 | _=>exact False.elim ty
def tBM (K:N5) (T:String) (r:V->List V->Hp->VK->Prop) (to:TE) (t:TA):TE:=λσ H Q=>to σ H λx H1=>tyV K T x H1/\t σ H1 λxs H2=>r x xs H2 Q
variable {o e:Expr} {es:M7} {to:TE} {t:TA} {name:Str} {ir iw:Pos} {T id:String} {r:V->List V->Hp->VK->Prop}
def Zq7 (pa:PlainAttrs T) (slot:Slot T name id) (hty:typeOf (.builtin id)=pure (.type "method_descriptor")) (hm:MtR X id r) (ho:PE X o to) (ha:PA X (e :: es) t)
  (jq:attributeBase o name X.env (eval o X.env)=eval o X.env:=by rfl)
  (mz:((backTo iw (starEach (e :: es) X.env)).all (λx => !x.1) && (backToKw iw (keywordEach [] X.env)).all (λx=>x.1.isSome)
   && decide ((e :: es).length + ([]:List Keyword).length + (if ([]:List Keyword).isEmpty then 0 else 1) < 30))=true:=by rfl)
  (jr:(ir.endLine == iw.line)=true:=by rfl) (hs:starEach (e :: es) X.env=(false,eval e X.env) :: starEach es X.env:=by rfl) (jg:(backTo iw (starEach es X.env)).any (·.1)=false:=by rfl) :
  PE X (.Call (.Attribute o name ir) (e :: es) [] iw) (tBM X.K T r to t):=by
 intro dz s σ H Q I h;refine wpAny_Call_method_late jq mz jr rfl (thn (ho dz s σ H _ I h) λv s1 ⟨x,H1,I1,r1,ty,q1⟩=>?_);obtain ⟨h1,h2⟩:=Qi0 I1 r1 ty;refine ⟨T,id,pa,slot,hty,h1,h2,?_⟩;have hA:=ha iw dz s1 σ H1 _ I1 q1;rw [hs] at hA ⊢;refine Calls.callWith_builtin (by show (false || (backTo iw (starEach es X.env)).any (·.1))=false; rw [jg] <;> rfl) (Calls.evalArgs_plain ?_);exact thn hA λus s2 ⟨vs,H2,I2,r2,q2⟩=>hm dz s2 σ H2 x vs v us Q I2 r1 r2 q2
end
def MtM (X:Cx) (id:String) (r:V->List V->Hp->VK->Prop):Prop :=
 ∀ (dz:G9) (s:G4) (σ:St) (H:Hp) (x:V) (xs:List V) (v:G3) (us:K8) (Q:VK),Inv X dz σ H s->Ys x v->Xq xs us->r x xs H Q ->
  wpAny (model X.prog X.w) X.A (call (.builtin id) (v :: us)) (EP X dz σ Q) X.xe s
theorem Xq.one:∀ {x:V} {us:K8},Xq [x] us->∃ u,us=[u]/\Ys x u
 | _,_,.cons r .nil=>⟨_,rfl,r⟩
section
variable {X:Cx} {dz:G9} {σ:St} {H:Hp} {s:G4} {l b:G5} {xs ys zs:List V}
def Inv.lset {its':K8} {f:Array G3->Array G3} {t':Nat} (I:Inv X dz σ H s) (hH:H l=some (.lst xs))
  (e:s.heap.get? l=some { cls:=.type "list",data:=.seq its.toArray n }) (hf:f its.toArray=its'.toArray) (hv:Xq ys its') (hz:ys.length<=sizeLine) :
  Inv X dz σ (upd H l (.lst ys)) { s with heap:=s.heap.update l (Obj.mapSeq f),toks:=t' }:=by
 have q:=PySem.IsL.update e f;rw [hf] at q;refine I.write (x:=l) (e:=l) (by rw [hH]; exact trivial) (.inl rfl) (λb' u hb hu=>(Heap.get?_update_other s.heap (Obj.mapSeq f) (Ne.symm hb)).trans hu) ⟨_,q⟩ ?_;exact ⟨hz,its',_,hv,q⟩
def Inv.lnew {t':Nat} (I:Inv X dz σ H s) (hv:Xq ys its) (hz:ys.length<=sizeLine) :
  Inv X dz σ (upd H s.heap.objs.size (.lst ys)) { s with heap:=s.heap.push { cls:=.type "list",data:=.seq its.toArray },toks:=t' } :=
 I.laid (λ_ _ q=>O3 _ q) (O7 _) ⟨hz,its,0,hv,Q5 _ rfl⟩
def Inv.fresh (I:Inv X dz σ H s):H s.heap.objs.size=none:=I.hok.fresh (O7 _)
def Inv.lstM (I:Inv X dz σ H s) (hH:H l=some (.lst xs)):xs.length<=sizeLine/\∃ (its:K8) (n:Nat),Xq xs its/\xs.length=its.length/\s.heap.get? l=some { cls:=.type "list",data:=.seq its.toArray n }:=by obtain ⟨z,its,n,r,e⟩:=I.hok l _ hH;exact ⟨z,its,n,r,r.length,e⟩
theorem Qf2 (h:n<=sizeLine):Builtin.List.listTooLong n=false:=by unfold Builtin.List.listTooLong;exact T5 (by lia)
end
section
variable {X:Cx}
def Qx9:V->List V->Hp->VK->Prop:=λx vs H Q => ∃ l xs y,x=.ref l/\vs=[y]/\H l=some (.lst xs)/\xs.length < sizeLine/\Q .non (upd H l (.lst (xs ++ [y])))
theorem Bt:MtM X "list.append" Qx9:=by intro dz s σ H x vs v us Q I rx rv h;obtain ⟨l,xs,y,rfl,rfl,hH,hz,q⟩:=h;cases rx;obtain ⟨u,rfl,ru⟩:=rv.one;obtain ⟨z,its,n,r,hl,e⟩:=I.lstM hH;refine call_meets F.slot_list_append ⟨_,e,rfl⟩ F.entry_list_append (F.args_list_append_2 _ _) (PySem.list_append l its.toArray n u (by rw [size_toArray]; lia)) ⟨e,?_⟩;refine ⟨.non,_,I.lset (its':=its ++ [u]) hH e (by simp) (r.append (.cons ru .nil)) ?_,rfl,q⟩;rw [length_append,length_singleton];lia
def Ql1:V->List V->Hp->VK->Prop:=λx vs H Q => ∃ l b xs zs,x=.ref l/\vs=[.ref b]/\H l=some (.lst xs)/\H b=some (.lst zs)/\xs.length + zs.length<=sizeLine/\Q .non (upd H l (.lst (xs ++ zs)))
theorem Qkx:MtM X "list.extend" Ql1:=by
 intro dz s σ H x vs v us Q I rx rv h;obtain ⟨l,b,xs,zs,rfl,rfl,hH,hB,hz,q⟩:=h;cases rx;obtain ⟨u,rfl,ru⟩:=rv.one;cases ru;obtain ⟨z,its,n,r,hl,e⟩:=I.lstM hH;obtain ⟨z2,jz,n2,r2,hl2,e2⟩:=I.lstM hB;have hsz:its.toArray.size + jz.toArray.size<=sizeLine:=by rw [size_toArray,size_toArray]; lia
 have hlong:¬ (!its.toArray.isEmpty && Builtin.List.listTooLong (its.toArray.size + jz.toArray.size))=true:=by rw [Qf2 hsz,Bool.and_false];exact S8
 refine call_meets F.slot_list_extend ⟨_,e,rfl⟩ F.entry_list_extend (F.args_list_extend_2 _ _)
  (AutoSeq1.list_extend_list_list_0 l its.toArray n b jz.toArray n2 hlong (by rw [size_toArray]; lia) (by lia)) ⟨e,e2,?_⟩
 refine ⟨.non,_,I.lset (its':=its ++ jz) hH e (by simp) (r.append r2) ?_,rfl,q⟩;rw [length_append];lia
def Zxq:R2:=λx y H Q => ∃ l b xs zs,x=.ref l/\y=.ref b/\H l=some (.lst xs)/\H b=some (.lst zs)/\xs.length + zs.length<=sizeLine/\∀ p,H p=none->Q (.ref p) (upd H p (.lst (xs ++ zs)))
theorem Qaz:OpR X (binaryOp .Add) Zxq:=by
 intro dz s σ H x y v u Q I rx ry h;obtain ⟨l,b,xs,zs,rfl,rfl,hH,hB,hz,q⟩:=h;cases rx;cases ry;obtain ⟨z,its,n,r,hl,e⟩:=I.lstM hH;obtain ⟨z2,jz,n2,r2,hl2,e2⟩:=I.lstM hB;refine PySem.P.add_list e e2 ?_ (by rw [size_toArray,size_toArray]; lia);have ea:its.toArray ++ jz.toArray=(its ++ jz).toArray:=by simp
 rw [ea];exact ⟨.ref _,_,I.lnew (t':=s.toks) (r.append r2) (by rw [length_append]; lia),rfl,q _ I.fresh⟩
end
end L2
namespace Att
open PySem PySem.W PySem.Calls PyProof.Rows
theorem Fw {P:Params} {h:Heap}:∀ (ns:K6) (vs:K8),WellAll P h vs (ns.map WData.int)->IntsAre vs ns:=by
 intro ns
 induction ns with
 | nil =>intro vs w;rw [map_nil] at w;cases w;exact .nil
 | cons n ns ih =>
  intro vs w;rw [map_cons] at w;cases w with
  | cons a b =>cases a;exact .cons _ _ (ih _ b)
def script_of {l:OpenLaw} {n:Nat} (hn:l.most=some n) {P:Params} {h:Heap} {args:List WData} {vals:K8}
  (hpre:l.row.toRowW.claim.pre args=true) (hwl:WellAll P h vals args) :
  ∃ a vs ns,vals=[Value.ref a]/\args=[WData.list (ns.map WData.int)]/\h.get? a=some { cls:=.type "list",data:=.seq vs.toArray }/\IntsAre vs ns/\ns.length<=n:=by
 have hsh:WShape.hasAll [] args [.list .int]=true:=(pre_splitW hpre).1;have hc:l.pre.holds [] { args:=args }=true:=(pre_splitW hpre).2;obtain ⟨d,r,rfl,h1,h2⟩:=hasAllW_cons hsh;obtain rfl:=hasAllW_nil h2;obtain ⟨xs,rfl,h3⟩:=hasW_list h1;obtain ⟨ns,rfl⟩:=items_int h3;have fu:ns.length<=n:=by
  unfold OpenLaw.pre at hc;have h4:(WTm.not (.lt (.lit (.int (n:Int))) (.len (.arg 0)))).holds [] { args:=[.list (ns.map .int)] }=true:=by have h4:=(holds_andW hc).1;rw [hn] at h4;exact h4
  have h5:=condW_of h4 (w_not (w_lt w_lit (w_len_list (w_arg rfl))));rw [length_map] at h5;refine Nat.le_of_not_lt λq=>?_;have q':(n:Int) < ((ns.length:Nat):Int):=by lia
  first
   | (rw [decide_eq_true q'] at h5; exact absurd h5 (by decide))
   | (simp at h5; lia)
 cases hwl with
 | cons w1 w2 =>
  cases w2;cases w1 with
  | list ho iz=>exact ⟨_,_,ns,rfl,rfl,ho,Fw ns _ iz,fu⟩
def post_true (l:OpenLaw) (args:List WData):l.row.toRowW.claim.post args (.bool true) args=true :=
 postW_of (r:=l.row.toRowW) (X:=(true == true))
  (show WShape.has [] (.bool true) .bool=true by first | rfl | decide | simp [WShape.has,WShape.arms,WShape.armsAll])
  (show (WTm.eq .res (.lit (.bool true))).value [] { args:=args,res:=some (.bool true),after:=args }=some (.bool (true == true)) from w_eq_bool (w_res rfl) w_lit) rfl
end Att
namespace L2
open PySem PySem.Spec PyProof.Rows
variable {X:Cx} {sp:Sp} {k n tk:Nat} {N ps Nc:M6} {fd:FuncData} {f a c C D:G5} {st:Stmt} {x qual:Str} {kV doc pm cdv ct oc:G3} {osl:Array M4} {od an:M8} {pos tp:Pos} {A B:Prop} {H H1 H':Hp} {xs:List V} {K:N5} {scope:Scope} {h1 h:Heap} {ix:K3} {Q:VK} {te:TE} {tt:TT} {g:TG} {i:Int} {o:HO} {σf σ:St} {mg:K4} {s:G4} {w:World} {P:G8} {l e:Expr} {ns:K6} {es:M7} {v:V} {rows:J7} {E:XK}
theorem Bw:∀ {vs:K8} {ns:K6},IntsAre vs ns->Xq (ns.map V.int) vs
 | _,_,.nil=>.nil
 | _,_,.cons n t h=>.cons ⟨t,rfl⟩ (Bw h)
abbrev KOf {K:N5} {h:Heap} (_:K.In h):N5:=K
def Wk (s:Stmt) (j:Nat):Stmt:=match s with
 | .ClassDef _ _ _ body _ _ _ _ _ _ _=>body.getD j (.Pass ⟨0,0,0,0⟩)
 | _=>.Pass ⟨0,0,0,0⟩
def Yx (s:Stmt):Arguments:=match s with
 | .FunctionDef _ a _ _ _ _ _ _ _ _=>a
 | _ => { posonlyargs:=[],args:=[],vararg:=none,kwonlyargs:=[],kw_defaults:=[],kwarg:=none,defaults:=[] }
def Zl (s:Stmt):List Stmt:=match s with
 | .FunctionDef _ _ b _ _ _ _ _ _ _=>b
 | _ => []
def Qf (s:Stmt):Scope:=match s with
 | .FunctionDef _ _ _ _ _ _ sc _ _ _=>sc
 | _ => { kind:=.function,names:=[],isGenerator:=false,isCoroutine:=false }
abbrev CX0:CXT:=λ_ _ _ _ _ _=>False
abbrev E0:XK:=λ_ _ _=>False
def Qg9:Rh CX0 X E0:=λ_ _ _ _ _ _ _ h=>h.elim
structure Fun (K:N5) (x qual:Str) (st:Stmt) (f:G5) (fd:FuncData):Prop where
 ex:∃ (oc:G3) (od:M8) (kV doc pm:G3) (an:M8) (cdv ct:G3) (osl:Array M4),
  fd=PySem.W.fnOf x qual (Yx st) (Zl st) (Qf st) .none kV doc pm an cdv ct/\K.lookup f=some ⟨oc,od,.func fd,osl⟩/\PySem.W.codeIn K cdv qual=true
 kp:PySem.W.keepIn K (.ref f)=true
section
variable {base:Heap}
def Fun.ok (F:Fun K x qual st f fd) (S:Xn N ps (Qf st)) (len:∀ vs H Q E,sp vs H Q E->vs.length=ps.length)
  (iu:∀ (cdv:G3) (A:G7) (outer:List Env) (s:G4) (H:Hp) (vs:List V) (Q:VK) (E:XK),Jc k (A.deeper (envOfC qual (Qf st) s.heap.objs.size f cdv))->sp vs H Q E ->
   ∃ t,PSs (Hs CX0 P w K mg base N qual (Qf st) f cdv A outer s H E).nox (Zl st) t/\t { nx:=λ_ H'=>Q .non H',rt:=Q } (start N vs) H):Mn P w K mg base CX0 (k + 1) f fd ps sp:=by
 obtain ⟨oc,od,kV,doc,pm,an,cdv,ct,osl,rfl,lk,hcd⟩:=F.ex;refine Qdj lk hcd S len λA outer s H vs Q E hr hsp=>?_;obtain ⟨t,h,q⟩:=iu cdv A outer s H vs Q E hr hsp;exact ⟨t,h.nox,q⟩
def Fun.binds (F:Fun K x qual st f fd)
  (h:∀ (kV doc pm:G3) (an:M8) (cdv ct:G3) (us:K8),us.length=ps.length->bindArgs (PySem.W.fnOf x qual (Yx st) (Zl st) (Qf st) .none kV doc pm an cdv ct) ⟨us,[]⟩=pure (ps.zip us)):Tc K fd ps []:=by
 obtain ⟨oc,od,kV,doc,pm,an,cdv,ct,osl,rfl,lk,hcd⟩:=F.ex;exact .all (h kV doc pm an cdv ct)
def Qm9 (l:K.lookup f=some ⟨oc,od,.func (PySem.W.fnOf x qual (Yx st) (Zl st) (Qf st) .none kV doc pm an cdv ct),osl⟩)
  (c:PySem.W.codeIn K cdv qual=true) (k:PySem.W.keepIn K (.ref f)=true):Fun K x qual st f (PySem.W.fnOf x qual (Yx st) (Zl st) (Qf st) .none kV doc pm an cdv ct):=⟨⟨oc,od,kV,doc,pm,an,cdv,ct,osl,rfl,l,c⟩,k⟩
end
def Qwv (h:n<=1000):n < sizeLine:=A0z h (by decide)
section
def pv (i:Nat) (hN:X.N[i]? = some x:=by rfl) (hv:Vis X.env.scope x:=by first | exact Or.inl rfl | exact Or.inr (Or.inl rfl) | exact Or.inr (Or.inr rfl)) (hd:(x == ("__debug__" : Str))=false:=by decide)
  (hcd:(x == ("__classdict__" : Str))=false:=by decide):PE X (.Name x pos) (Zqk i):=Qa5 hN hv hd hcd
end
def Ml (h:B):if false=true then A else B:=by rw [if_neg Bool.false_ne_true];exact h
def Qej (h:A):if true=true then A else B:=by rw [if_pos rfl];exact h
def Kz {c A B:Prop} [Decidable c] (h1:c->A) (h2:¬ c->B):if c then A else B:=by
 by_cases h:c
 ·rw [if_pos h];exact h1 h
 ·rw [if_neg h];exact h2 h
def Qu (H H':Hp):Prop:=∀ b o,H b=some o->H' b=some o
def Qu.refl (H:Hp):Qu H H:=λ_ _ h=>h
def Qu.trans {H2:Hp} (a:Qu H H1) (b:Qu H1 H2):Qu H H2:=λc o h=>b c o (a c o h)
theorem Qu.free (e:Qu H H') {l:G5} (h:H' l=Option.none):H l=Option.none:=by
 cases q:H l with
 | none=>rfl
 | some o =>rw [e l o q] at h;cases h
def Qu.seq (e:Qu H H') (h:SqL K H a xs):SqL K H' a xs:=by
 rcases h with (h | ⟨o,h⟩) | h
 ·exact .inl (.inl (e _ _ h))
 ·exact .inl (.inr ⟨o,e _ _ h⟩)
 ·exact .inr h
section
variable {prog:G8} {A:G7} {E:K5} {R:Result->G4->Prop}
theorem Hg {elt jc iter:Expr} {ifs:M7} {it acc:G3} {env:Env} (I:Nat->G4->Prop)
  (turn:∀ n s,I n s->wpAny (model prog w) A (pyNext it) (λr s1=>match r with
   | none=>R (.ok .next) s1
   | some v=>wpAny (model prog w) A (letOwnedTupleGo jc it v) (λ_ s1'=>wpAny (model prog w) A (assign jc env v) (λ_ s2 =>
     wpAny (model prog w) A (forIn ifs true λc r=>if r=true then do let ok <- isTrue c env (eval c env); pure (ForInStep.yield ok) else pure (ForInStep.yield r)) (λok s3 =>
      if ok=true then wpAny (model prog w) A (eval elt env) (λx s4 =>wpAny (model prog w) A (call (.builtin "list.append") [acc,x]) (λ_ s5 => ∃ m,m < n/\I m s5) (λ_ _=>False) s4) (λ_ _=>False) s3
      else ∃ m,m < n/\I m s3) (λ_ _=>False) s2) (λ_ _=>False) s1') (λ_ _=>False) s1) (λ_ _=>False) s)
  (n:Nat) (h:I n s) :
  codeAny (model prog w) A (.compLoop (.ListComp elt [⟨jc,iter,ifs,0⟩] scope pos) 0 it acc env) R s:=by
 refine codeAny_loop rfl I (λn s hI=>?_) n h;show wpAny _ A ((compTurn (.ListComp elt [⟨jc,iter,ifs,0⟩] scope pos) 0 it acc env).onRaise (λx=>do noteFrame x env; theTreesLotGoes x)) _ _ s;refine wpAny_noted ?_;rw [compTurn_list];refine M9 (A0a (M9 (S9 (turn n s hI) (λr s1 h1=>?_) λ_ _ h'=>h'.elim)));cases r with
 | none=>exact N6 h1
 | some v =>
  refine M9 (S9 h1 (λ_ s1' h1'=>?_) λ_ _ h'=>h'.elim);refine M9 (S9 h1' (λ_ s2 h2=>M9 (S9 h2 (λok s3 h3=>?_) λ_ _ h'=>h'.elim)) λ_ _ h'=>h'.elim);cases ok with
  | false=>exact N6 ⟨rfl,h3⟩
  | true =>exact M9 (M9 (S9 h3 (λx s4 h4=>M9 (S9 h4 (λ_ s5 h5=>N6 (N6 ⟨rfl,h5⟩)) λ_ _ h'=>h'.elim)) λ_ _ h'=>h'.elim))
end
def Kw (cells:List (Str × G5)):List (Str × NameKind)->List (Str × G5)->List (Str × G5)
 | [],acc=>acc
 | (n,k) :: r,acc=>if k == .free then Kw cells r ((n,(cells.lookup n).getD 0) :: acc) else Kw cells r acc
theorem Uq {env:Env} (h:∀ y∈scope.names,y.2=.free->∃ c,env.cells.lookup y.1=some c):closureFor scope env=pure (Kw env.cells scope.names []):=by
 simp only [closureFor];generalize ([]:List (Str × G5))=acc;revert h;generalize scope.names=l;intro h
 induction l generalizing acc with
 | nil=>rfl
 | cons x r ih =>
  obtain ⟨n,k⟩:=x;have hr:=ih (acc:=acc) λy hy=>h y (Q8 _ hy);cases e:(k == NameKind.free) with
  | false =>simp only [forIn_cons,Kw,e,Bool.false_eq_true,if_false];exact hr
  | true =>obtain ⟨c,hc⟩:=h (n,k) Q7 (by simpa using e);have hr':=ih (acc:=(n,c) :: acc) λy hy=>h y (Q8 _ hy);have hc':env.cells.lookup n=some c:=hc;simp only [forIn_cons,Kw,e,if_true,cellOf,hc',Option.getD_some];exact hr'
theorem Mj {cells:List (Str × G5)}:∀ (l:List (Str × NameKind)) (acc:List (Str × G5)) {x:Str} {c:G5},(∀ y∈l,y.2=.free->∃ c,cells.lookup y.1=some c)->(Kw cells l acc).lookup x=some c->acc.lookup x=some c\/cells.lookup x=some c
 | [],acc,x,c,_,h=>.inl h
 | (n,k) :: r,acc,x,c,hy,h=>by
  have hr:∀ y∈r,y.2=.free->∃ c,cells.lookup y.1=some c:=λy m=>hy y (Q8 _ m);unfold Kw at h;cases e:(k == NameKind.free) with
  | false =>rw [e] at h;exact Mj r acc hr h
  | true =>
   rw [e] at h;rcases Mj r _ hr h with q | q
   ·rw [lookup_cons] at q;obtain ⟨c',hc'⟩:=hy (n,k) Q7 (by simpa using e);have hc'':cells.lookup n=some c':=hc';cases en:(x == n) with
    | true =>
     rw [en] at q;have:x=n:=by simpa using en
     subst this;rw [hc''] at q;exact .inr (hc''.trans q)
    | false =>rw [en] at q;exact .inl q
   ·exact .inr q
theorem Wf {cells:List (Str × G5)}:∀ (l:List (Str × NameKind)) (acc:List (Str × G5)) {x:Str},((x,NameKind.free)∈l\/(acc.lookup x).isSome=true)->((Kw cells l acc).lookup x).isSome=true
 | [],acc,x,h=>by
  rcases h with h | h
  ·cases h
  ·exact h
 | (n,k) :: r,acc,x,h=>by
  unfold Kw;cases e:(k == NameKind.free) with
  | false =>
   simp only [Bool.false_eq_true,if_false];refine Wf r acc ?_;rcases h with h | h
   ·rcases R3.mp h with h | h
    ·injection h with h1 h2
     subst h2;simp at e
    ·exact .inl h
   ·exact .inr h
  | true =>
   simp only [if_true];refine Wf r _ ?_;cases en:(x == n) with
   | true=>exact .inr (by rw [lookup_cons,en]; rfl)
   | false =>
    rcases h with h | h
    ·rcases R3.mp h with h | h
     ·injection h with h1 h2
      subst h1;simp at en
     ·exact .inl h
    ·exact .inr (by rw [lookup_cons,en]; exact h)
def mem_of_lookup {β:Type}:∀ {l:List (Str × β)} {x:Str} {b:β},l.lookup x=some b->(x,b)∈l
 | [],_,_,h=>by simp at h
 | (n,k) :: r,x,b,h=>by
  rw [lookup_cons] at h;cases en:(x == n) with
  | true =>
   rw [en] at h;have:x=n:=by simpa using en
   subst this;have h':k=b:=R5 h;subst h';exact Q7
  | false =>rw [en] at h;exact Q8 _ (mem_of_lookup h)
theorem Pi {env:Env}:∀ {names:List (Str × NameKind)} {x:Str},names.lookup x=some .free ->
  (names.map λ(n,k)=>if (k == NameKind.free && env.scope.kind == .function && env.kindOf n == some .cell) then (n,NameKind.cell) else (n,k)).lookup x=some .cell \/
  (names.map λ(n,k)=>if (k == NameKind.free && env.scope.kind == .function && env.kindOf n == some .cell) then (n,NameKind.cell) else (n,k)).lookup x=some .free
 | [],_,h=>by simp at h
 | (n,k) :: r,x,h=>by
  have ih:=@Pi env r x;cases hx:x == n with
  | true =>
   simp only [lookup_cons,hx] at h;cases h
   by_cases hc:(NameKind.free == NameKind.free && env.scope.kind == .function && env.kindOf n == some .cell)=true
   ·left
    show List.lookup x ((if (NameKind.free == NameKind.free && env.scope.kind == .function && env.kindOf n == some .cell)=true then (n,NameKind.cell) else (n,NameKind.free)) :: _)=_;rw [if_pos hc];simp only [lookup_cons,hx]
   ·right
    show List.lookup x ((if (NameKind.free == NameKind.free && env.scope.kind == .function && env.kindOf n == some .cell)=true then (n,NameKind.cell) else (n,NameKind.free)) :: _)=_;rw [if_neg hc];simp only [lookup_cons,hx]
  | false =>
   simp only [lookup_cons,hx] at h;have q:=ih h
   by_cases hc:(k == NameKind.free && env.scope.kind == .function && env.kindOf n == some .cell)=true
   ·show List.lookup x ((if (k == NameKind.free && env.scope.kind == .function && env.kindOf n == some .cell)=true then (n,NameKind.cell) else (n,k)) :: _)=_\/List.lookup x ((if (k == NameKind.free && env.scope.kind == .function && env.kindOf n == some .cell)=true then (n,NameKind.cell) else (n,k)) :: _)=_;rw [if_pos hc]; simp only [lookup_cons,hx]; exact q
   ·show List.lookup x ((if (k == NameKind.free && env.scope.kind == .function && env.kindOf n == some .cell)=true then (n,NameKind.cell) else (n,k)) :: _)=_\/List.lookup x ((if (k == NameKind.free && env.scope.kind == .function && env.kindOf n == some .cell)=true then (n,NameKind.cell) else (n,k)) :: _)=_;rw [if_neg hc]; simp only [lookup_cons,hx]; exact q
theorem Wy {env:Env}:∀ {names:List (Str × NameKind)} {x:Str} {k':NameKind},(∀ y∈names,y.2≠.cell) ->
  (names.map λ(n,k)=>if (k == NameKind.free && env.scope.kind == .function && env.kindOf n == some .cell) then (n,NameKind.cell) else (n,k)).lookup x=some k'->(k'=.cell\/k'=.free)->(x,NameKind.free)∈names
 | [],_,_,_,h,_=>by simp at h
 | (n,k) :: r,x,k',hn,h,hk=>by
  have ih:=@Wy env r x k' (λy hy=>hn y (Q8 _ hy));have hnk:k≠.cell:=hn (n,k) Q7;replace h:List.lookup x ((if (k == NameKind.free && env.scope.kind == .function && env.kindOf n == some .cell)=true then (n,NameKind.cell) else (n,k)) :: (r.map λ(n,k)=>if (k == NameKind.free && env.scope.kind == .function && env.kindOf n == some .cell) then (n,NameKind.cell) else (n,k)))=some k':=h
  by_cases hc:(k == NameKind.free && env.scope.kind == .function && env.kindOf n == some .cell)=true
  ·rw [if_pos hc] at h;have hkf:k=.free:=by have:=(W6.mp (W6.mp hc).1).1;simpa using this
   cases hx:x == n with
   | true =>
    have:x=n:=by simpa using hx
    subst this;rw [hkf];exact Q7
   | false =>simp only [lookup_cons,hx] at h;exact Q8 _ (ih h hk)
  ·rw [if_neg hc] at h;cases hx:x == n with
   | true =>
    have:x=n:=by simpa using hx
    subst this;simp only [lookup_cons,hx] at h;cases h;rcases hk with z | z
    ·exact absurd z hnk
    ·rw [z];exact Q7
   | false =>simp only [lookup_cons,hx] at h;exact Q8 _ (ih h hk)
def Ze (X:Cx) (scope:Scope) (C:G5) (s0:G4) (H0:Hp) (fp:K9) (Nc:M6):Cx where
 prog:=X.prog
 w:=X.w
 K:=X.K
 mg:=X.mg
 base:=X.base
 A:=X.A
 N:=Nc
 s₀:=s0
 H₀:=H0
 env:=compEnvC scope (Kw X.env.cells scope.names []) C X.env
 outer:=X.stack
 stack:=X.stack
 ex:=fp
 fn:=λ_=>false
 calm:=true
 pn:=[]
 xe:=λ_ _=>False
def Yu (sc out:Scope):Bool :=
 (match sc.kind with | .function=>true | _=>false) && sc.names.all λy=>match y.2 with
  | .cell=>false
  | .free=>(match out.names.lookup y.1 with | some .cell=>true | some .free=>true | _=>false)
  | .local=>(match sc.names.lookup y.1 with | some .local=>true | _=>false)
  | _=>true
def Fg (sc:Scope) (N:M6):List Str->List (Option Nat)->Bool
 | [],[]=>true
 | _ :: xs,none :: r=>Fg sc N xs r
 | x :: xs,some i :: r=>(match N[i]? with | some y=>decide (y=x) | none=>false) && (match sc.names.lookup x with | some .free=>true | _=>false) && Fg sc N xs r
 | _,_=>false
def cSt (σ:St):List (Option Nat)->St
 | [] => []
 | none :: r=>none :: cSt σ r
 | some i :: r=>(match σ[i]? with | some v=>v | none=>none) :: cSt σ r
theorem Kd {sc:Scope} {N:M6}:∀ {xs:M6} {ix:K3},Fg sc N xs ix=true->ix.length=xs.length
 | [],[],_=>rfl
 | [],_ :: _,h=>by cases h
 | _ :: _,[],h=>by cases h
 | _ :: xs,none :: r,h=>by have h':Fg sc N xs r=true:=h;simp [Kd h']
 | x :: xs,some i :: r,h=>by have h':((match N[i]? with | some y=>decide (y=x) | none=>false) && (match sc.names.lookup x with | some .free=>true | _=>false) && Fg sc N xs r)=true:=h;simp [Kd (Bool.and_eq_true_iff.mp h').2]
theorem Nu {σ:St}:∀ (ix:K3),(cSt σ ix).length=ix.length
 | []=>rfl
 | none :: r=>by simp [cSt,Nu r]
 | some i :: r=>by simp [cSt,Nu r]
theorem Ng {sc:Scope} {N:M6} {σ:St}:∀ {xs:M6} {ix:K3} {j:Nat} {x:Str} {v:V},Fg sc N xs ix=true->xs[j]? = some x->(cSt σ ix)[j]? = some (some v) ->
  ∃ i:Nat,N[i]? = some x/\σ[i]? = some (some v)/\sc.names.lookup x=some .free
 | [],_,j,x,v,_,h,_=>by simp at h
 | _ :: _,[],j,x,v,h,_,_=>by cases h
 | _ :: xs,none :: r,0,x,v,_,_,e=>by simp [cSt] at e
 | _ :: xs,none :: r,j + 1,x,v,h,h1,e=>by have h':Fg sc N xs r=true:=h;exact Ng (j:=j) h' (by simpa using h1) (by simpa [cSt] using e)
 | y :: xs,some i :: r,0,x,v,h,h1,e=>by
  have h':((match N[i]? with | some z=>decide (z=y) | none=>false) && (match sc.names.lookup y with | some .free=>true | _=>false) && Fg sc N xs r)=true:=h;have h1':y=x:=by simpa using h1
  subst h1';obtain ⟨h2,_⟩:=W6.mp h';obtain ⟨h3,h4⟩:=W6.mp h2;refine ⟨i,?_,?_,?_⟩
  ·cases q:N[i]? with
   | none=>rw [q] at h3; cases h3
   | some z=>rw [q] at h3; simp at h3; rw [h3]
  ·cases q:σ[i]? with
   | none=>simp [cSt,q] at e
   | some z=>simp [cSt,q] at e; rw [e]
  ·cases q:sc.names.lookup y with
   | none=>rw [q] at h4; cases h4
   | some k=>rw [q] at h4; cases k <;> first | rfl | cases h4
 | y :: xs,some i :: r,j + 1,x,v,h,h1,e=>by have h':((match N[i]? with | some z=>decide (z=y) | none=>false) && (match sc.names.lookup y with | some .free=>true | _=>false) && Fg sc N xs r)=true:=h;exact Ng (j:=j) (W6.mp h').2 (by simpa using h1) (by simpa [cSt] using e)
def Qnv (X:Cx) (ifs:M7) (t:TT):Prop :=
 ∀ (dz:G9) (s:G4) (σ:St) (H:Hp) (Q:Bool->Hp->Prop),Inv X dz σ H s->t σ H Q ->
  wpAny (model X.prog X.w) X.A (forIn ifs true λc r=>if r=true then do let ok <- isTrue c X.env (eval c X.env); pure (ForInStep.yield ok) else pure (ForInStep.yield r)) (TP X dz σ Q) X.xe s
def Qqj:TT:=λ_ H Q=>Q true H
def Am:Qnv X [] Qqj:=λ_ _ _ H _ I h=>wpAny_tests_nil ⟨H,I,h⟩
def Nt {c:Expr} {t:TT} (h:PT X c t):Qnv X [c] t:=λdz s σ H Q I q=>wpAny_tests_one (h dz s σ H Q I q)
def Agree (σ σ':St):Prop:=σ'.length=σ.length/\∀ (j:Nat) v,σ[j]? = some (some v)->σ'[j]? = some (some v)
theorem Agree.one (o o':Option V) (σ:St) (h:o=none):Agree (o :: σ) (o' :: σ):=⟨rfl,λj v e=>by
 cases j with
 | zero=>subst h; simp at e
 | succ j=>simpa using e⟩
def Rp (J:It) (D:G5) (g:TG) (tt:TT) (te:TE) (σ0:St) (H0:Hp) (Q:VK):Prop :=
 ∃ W:Nat->Nat->List V->Hp->Prop,(∃ m,W 0 m [] H0)/\∀ i m ys H2,W i m ys H2->H2 D=some (.lst ys) /\
  ((J.stop i H2/\Q (.ref D) H2)\/(J.go i H2/\ys.length < sizeLine/\∃ (N:V->Hp->Prop) (N':Hp->Prop),
   (∀ y H6,N y H6->H6 D=some (.lst ys)/\∃ m',m' < m/\W (i + 1) m' (ys ++ [y]) (upd H6 D (.lst (ys ++ [y]))))/\(∀ H5,N' H5->∃ m',m' < m/\W (i + 1) m' ys H5) /\
   ∀ x H3,J.yld i H2 x H3->g x σ0 H3 λσ4 H4=>Agree σ0 σ4/\tt σ4 H4 λb H5=>if b=true then te σ4 H5 N else N' H5))
def Qz3 (ix:K3) (wi:TI) (g:TG) (tt:TT) (te:TE):TE:=λσ H Q=>wi σ H λJ H1 => ∀ D,H1 D=none->Rp J D g tt te (cSt σ ix) (upd H1 D (.lst [])) Q
section
variable {tg iter elt:Expr} {ifs:M7} {dz:G9}
def Yt (ok:Yu scope X.env.scope=true):scope.kind=.function:=by have h:=(W6.mp ok).1;cases e:scope.kind <;> rw [e] at h <;> first | rfl | cases h
theorem Pf (ok:Yu scope X.env.scope=true):∀ y∈scope.names,(match y.2 with
  | .cell=>false
  | .free=>(match X.env.scope.names.lookup y.1 with | some .cell=>true | some .free=>true | _=>false)
  | .local=>(match scope.names.lookup y.1 with | some .local=>true | _=>false)
  | _=>true)=true:=A0c.mp (W6.mp ok).2
def Jo (ok:Yu scope X.env.scope=true):∀ y∈scope.names,y.2≠.cell:=λy hy e=>by have h:=Pf ok y hy;rw [e] at h;cases h
theorem Po (ok:Yu scope X.env.scope=true):∀ y∈scope.names,y.2=.local->scope.names.lookup y.1=some .local:=λy hy e=>by
 have h:=Pf ok y hy;rw [e] at h;dsimp only at h;cases q:scope.names.lookup y.1 with
 | none=>rw [q] at h; cases h
 | some k=>rw [q] at h; cases k <;> first | rfl | cases h
theorem Ru (ok:Yu scope X.env.scope=true):∀ y∈scope.names,y.2=.free->X.env.kindOf y.1=some .cell\/X.env.kindOf y.1=some .free:=λy hy e=>by
 have h:=Pf ok y hy;rw [e] at h;dsimp only at h;show X.env.scope.names.lookup y.1=_\/X.env.scope.names.lookup y.1=_;cases q:X.env.scope.names.lookup y.1 with
 | none=>rw [q] at h; cases h
 | some k=>rw [q] at h; cases k <;> first | exact .inl rfl | exact .inr rfl | cases h
def Wr (I:Inv X dz σ H s) (ok:Yu scope X.env.scope=true):∀ y∈scope.names,y.2=.free->∃ c,X.env.cells.lookup y.1=some c:=λy hy e=>I.ok.has y.1 (Ru ok y hy e)
def Ji (I:Inv X dz σ H s) (ok:Yu scope X.env.scope=true) (h:(Kw X.env.cells scope.names []).lookup x=some c):X.env.cells.lookup x=some c:=by
 rcases Mj _ _ (Wr I ok) h with q | q
 ·simp at q
 ·exact q
def Qh4 {fp:K9} {m:K4} (I:Inv X dz σ H s) (hc:X.calm=true) (ok:Yu scope X.env.scope=true) (hix:Fg scope X.N Nc ix=true)
  (hfp:∀ b∈fp,Ku X dz H b/\b < s.heap.objs.size) (hC:C=s.heap.objs.size) (hns:h1.Ns C m) (hk:∀ b o,s.heap.get? b=some o->h1.get? b=some o) :
  Inv (Ze X scope C s H fp Nc) [] (cSt σ ix) H { s with heap:=h1,toks:=tk }:=by
 have lt:∀ b o,s.heap.get? b=some o->b≠C:=λb o e=>by rw [hC]; exact O9 (O5 e)
 have nfs:∀ b∈fp,b ∉ frs X.stack:=λb hb z=>by
  obtain ⟨f1,f2,f3,_⟩:=(hfp b hb).1;rcases R3.mp (I.stkSub b z) with q | q
  ·exact f2 q
  ·exact f3 q
 refine ⟨⟨I.ok.mod,(Yt (X:=X) (scope:=scope) ok),I.ok.glob,I.ok.blt,Nat.le_of_eq hC.symm,λx y c e1 e2=>I.ok.inj x y c (Ji I ok e1) (Ji I ok e2),λx hx=>?_,(λ_ _ z=>nomatch z),λ_=>I.ok.hd hc,I.ok.frames,.inl rfl,λb hb=>⟨?_,λx c e=>?_⟩,I.bs,R4 I.ok.bsz I.sz,λb o e hb=>?_,nfs,I.stack,I.stkFree⟩,
  rfl,I.bare,Un.kept hk,⟨m,hns,λi x v e1 e2 e3=>?_⟩,λx c e=>?_,?_,λx c e=>I.cg x c (Ji I ok e),(λp hp=>by cases hp),I.hok.kept hk,?_⟩
 ·-- has
  have g8:(x,NameKind.free)∈scope.names:=by
   rcases hx with hx | hx
   ·exact Wy (env:=X.env) (Jo ok) hx (.inl rfl)
   ·exact Wy (env:=X.env) (Jo ok) hx (.inr rfl)
  have q:=Wf (cells:=X.env.cells) scope.names [] (x:=x) (.inl g8);exact A0l.mp q
 ·rw [show (Ze X scope C s H fp Nc).env.locals=C from rfl,hC];exact O9 (hfp b hb).2
 ·exact (hfp b hb).1.2.2.2.2.1 x c (Ji I ok e)
 ·obtain ⟨_,_,_,f4,_⟩:=(hfp b hb).1;rcases f4 with z | z
  ·exact I.ok.noex b o e z
  ·exact absurd (T6 (O5 e) (R4 I.ok.bsz z)) (V1 _)
 ·obtain ⟨j,n1,n2,n3⟩:=Ng hix e1 e2;have g8:(x,NameKind.free)∈scope.names:=mem_of_lookup n3;have jf:=Ru ok (x,.free) g8 rfl;obtain ⟨mX,_,hl⟩:=I.loc;have hvis:Vis X.env.scope x:=.inr jf;obtain ⟨u,r,l⟩:=hl j x v n1 n2 hvis;refine ⟨u,r,?_⟩;rcases l with ⟨k1,_⟩ | ⟨_,c,e,z⟩
  ·rcases jf with q | q
   ·rw [q] at k1; cases k1
   ·rw [q] at k1; cases k1
  ·refine .inr ⟨Pi n3,c,?_,?_⟩
   ·have q:=Wf (cells:=X.env.cells) scope.names [] (x:=x) (.inl g8);obtain ⟨c',hc'⟩:=A0l.mp q;have:=Ji I ok hc';rw [e] at this;cases this;exact hc'
   ·obtain ⟨o,ho,hd⟩:=z;exact ⟨o,hk c o ho,hd⟩
 ·obtain ⟨v,o,ho,hd⟩:=I.cell x c (Ji I ok e);exact ⟨v,o,hk c o ho,hd⟩
 ·rw [show (Ze X scope C s H fp Nc).env.locals=C from rfl,hC];exact I.hok.fresh (O7 _)
 ·rw [Nu,Kd hix];rfl
theorem Eh {it:G5} {fp:K9} {tn:Nat->Heap->Prop} {J:It} {E:K5} {RR:G3->G5->Result->G4->Prop}
  (I:Inv X dz σ H s) (hc:X.calm=true) (ok:Yu scope X.env.scope=true) (hix:Fg scope X.N Nc ix=true)
  (hg:∀ C s0 H0 fp,PG (Ze X scope C s0 H0 fp Nc) tg g) (ht:∀ C s0 H0 fp,Qnv (Ze X scope C s0 H0 fp Nc) ifs tt) (he:∀ C s0 H0 fp,PE (Ze X scope C s0 H0 fp Nc) elt te)
  (T:Qd3 X.prog X.w X.K tg J fp it tn) (t0:tn 0 s.heap) (f0:∀ b∈fp,Ku X dz H b)
  (h:∀ D,H D=none->Rp J D g tt te (cSt σ ix) (upd H D (.lst [])) Q)
  (hRR:∀ D C s' H' m,Inv X dz σ H' s'->s'.heap.Ns C m->H' C=none->X.s₀.heap.objs.size<=C->C≠X.env.locals->(∀ x c,X.env.cells.lookup x=some c->c≠C)->(∀ p∈X.pn ++ dz,p.1≠C)->Q (.ref D) H'->RR (.ref D) C (.ok .next) s') :
  wpAny (model X.prog X.w) X.A (newList []) (λacc s3=>wpAny (model X.prog X.w) X.A (newFunctionEnv scope X.env.globals (Kw X.env.cells scope.names []) [] X.env.qual none .none (some X.env)) (λcenv s4 =>
   codeAny (model X.prog X.w) X.A (.compStart (.ListComp elt [⟨tg,iter,ifs,0⟩] scope pos) 0 (.ref it) acc { cenv with scope:=relabel scope X.env }) (RR acc cenv.locals) s4) E s3) E s:=by
 have hD:H s.heap.objs.size=none:=I.fresh;obtain ⟨W,⟨m0,w0⟩,turn⟩:=h _ hD;refine A0o ?_;have I0:=I.lnew (its:=[]) (ys:=[]) (t':=s.toks) .nil (T3 _);have hold:∀ b o,s.heap.get? b=some o->(s.heap.push { cls:=.type "list",data:=.seq ([]:K8).toArray }).get? b=some o:=λb o e=>O3 _ e;have f0':∀ b∈fp,Ku X dz (upd H s.heap.objs.size (.lst [])) b/\b < (s.heap.push { cls:=.type "list",data:=.seq ([]:K8).toArray }).objs.size:=λb hb=>by obtain ⟨o,ho,_⟩:=T.obj _ _ t0 b hb;have hlt:=O5 ho;refine ⟨⟨?_,(f0 b hb).2⟩,O5 (hold b o ho)⟩;rw [Qv (Nat.ne_of_lt hlt)];exact (f0 b hb).1
 have t0':tn 0 (s.heap.push { cls:=.type "list",data:=.seq ([]:K8).toArray }):=T.keep _ _ _ t0 λb hb o e=>hold b o e;clear f0 t0 I;generalize hs0:({ s with heap:=s.heap.push { cls:=.type "list",data:=.seq ([]:K8).toArray },toks:=s.toks }:G4)=s0 at I0;have es0:s0.heap=s.heap.push { cls:=.type "list",data:=.seq ([]:K8).toArray }:=by rw [<- hs0]
 rw [<- es0] at f0' t0';generalize s.heap.objs.size=D at *;generalize upd H D (.lst [])=H0 at *;refine wpAny_newFunctionEnv (Jo ok) (by intro y hy; simp at hy) (λh1 hns1 hsb1=>?_) (Yt ok);generalize hCe:s0.heap.objs.size=C at hns1 hsb1;have hk1:∀ b o,s0.heap.get? b=some o->h1.get? b=some o:=λb o e=>hsb1.extBut b o (by rw [<- hCe]; exact O9 (O5 e)) (O3 _ e);have IC:=Qh4 (C:=C) (fp:=fp) (Nc:=Nc) (ix:=ix) (h1:=h1) (tk:=s0.toks + ([]:List (Str × G3)).length) I0 hc ok hix f0' hCe.symm hns1 hk1;have t1:tn 0 h1:=T.keep _ _ _ t0' λb hb o e=>hk1 b o e;have fpx:∀ {H':Hp} {pl:G9},(∀ p∈pl,p.1 ∉ fp)->(∀ b∈fp,H' b=none)->∀ b∈fp,Ku (Ze X scope C s0 H0 fp Nc) pl H' b:=λ{H' pl} hpl hn b hb =>⟨hn b hb,(IC.ok.exf b hb).1,IC.ok.exfs b hb,.inl hb,(IC.ok.exf b hb).2,λp hp e=>hpl p (by simpa [Ze] using hp) (e ▸ hb)⟩
 have loop:∀ s1:G4,s1={ s0 with heap:=h1,toks:=s0.toks + ([]:List (Str × G3)).length } ->
   codeAny (model X.prog X.w) X.A (.compLoop (.ListComp elt [⟨tg,iter,ifs,0⟩] scope pos) 0 (.ref it) (.ref D) (Ze X scope C s0 H0 fp Nc).env) (RR (.ref D) C) s1:=by
  rintro s1 rfl;refine Hg (λn s' => ∃ i ys H',Inv (Ze X scope C s0 H0 fp Nc) [] (cSt σ ix) H' s'/\tn i s'.heap/\(∀ b∈fp,H' b=none)/\W i n ys H') ?_ m0 ⟨0,[],_,IC,t1,λb hb=>(f0' b hb).1.1,w0⟩;rintro n s3 ⟨i,ys,H3,I3,st3,fr3,w3⟩;obtain ⟨hD3,alt⟩:=turn i n ys H3 w3;rcases alt with ⟨stop,qn⟩ | ⟨go,fu,N,N',hN,hN',step⟩
  ·refine thn (T.done (Ze X scope C s0 H0 fp Nc) rfl rfl rfl rfl i [] s3 _ H3 (λ_ _=>False) I3 (fpx (λp hp=>by cases hp) fr3) st3 stop) λr s4 ⟨hr,I4⟩=>?_;subst hr;have J4:Inv X dz σ H3 s4:=I0.call' (s':=s4) (ch:=fp) I4.os I4.base I4.hok I4.bare λb hb=>⟨(f0' b hb).1.2.2.2.1,(f0' b hb).1.2.1,(f0' b hb).1.2.2.2.2.1,(f0' b hb).1.2.2.2.2.2⟩
   obtain ⟨m4,hn4,_⟩:=I4.loc;exact hRR D C s4 H3 m4 J4 hn4 I4.free (by rw [<- hCe]; exact I0.sz) (by rw [<- hCe]; exact (O9 I0.lt).symm)
    (λx c e z=>by obtain ⟨_,o,ho,_⟩:=I0.cell x c e;have:=O5 ho;rw [z,<- hCe] at this;exact V1 _ this)
    (λp hp z=>by have:=O5 (I0.pin p hp).1;rw [z,<- hCe] at this;exact V1 _ this) qn
  ·refine thn (T.item (Ze X scope C s0 H0 fp Nc) rfl rfl rfl rfl i [] s3 _ H3 (λ_ _=>False) I3 (fpx (λp hp=>by cases hp) fr3) st3 go) λr s4 ⟨u,hr,h4⟩=>?_;subst hr;refine thn h4 λ_ s5 ⟨x,H5,I5,r5,y5,st5,fr5⟩=>?_;have I5':=I5.pinned (fpx (λp hp=>by cases hp) fr5) (T.obj _ _ st5);refine thn (hg C s0 H0 fp _ s5 _ H5 x u _ I5' r5 (step x H5 y5)) λ_ s6 ⟨σ6,H6,I6,hag,q6⟩=>?_;refine thn (ht C s0 H0 fp _ s6 σ6 H6 _ I6 q6) λok7 s7 ⟨H7,I7,q7⟩=>?_;have again:∀ {H8:Hp} {s8:G4} {zs:List V} {m':Nat},Inv (Ze X scope C s0 H0 fp Nc) ([] ++ Me fp s5.heap) σ6 H8 s8->m' < n->W (i + 1) m' zs H8 ->
     ∃ m,m < n/\∃ i ys H',Inv (Ze X scope C s0 H0 fp Nc) [] (cSt σ ix) H' s8/\tn i s8.heap/\(∀ b∈fp,H' b=none)/\W i m ys H':=λ{H8 s8 zs m'} I8 hm w8=>by
    refine ⟨m',hm,i + 1,zs,H8,I8.unpinned.weak hag.1.symm hag.2,T.keep _ _ _ st5 λb hb o e=>(I8.pin (b,o) (Q9 _ (Q9 _ (Wl hb e)))).1,λb hb=>?_,w8⟩;obtain ⟨o,e,d⟩:=T.obj _ _ st5 b hb;exact (I8.pin (b,o) (Q9 _ (Q9 _ (Wl hb e)))).2.1
   cases ok7 with
   | false =>rw [if_neg Bool.false_ne_true] at q7 ⊢;obtain ⟨m',hm,w7⟩:=hN' _ q7;exact again I7 hm w7
   | true =>rw [if_pos rfl] at q7 ⊢;refine thn (he C s0 H0 fp _ s7 σ6 H7 _ I7 q7) λy s8 ⟨yv,H8,I8,r8,q8⟩=>?_;obtain ⟨hD8,m',hm,w8⟩:=hN _ _ q8;refine thn (Bt (X:=Ze X scope C s0 H0 fp Nc) _ s8 σ6 H8 (.ref D) [yv] (.ref D) [y] (λv H9=>v=.non/\H9=upd H8 D (.lst (ys ++ [yv]))) I8 rfl (.cons r8 .nil) ⟨D,ys,yv,rfl,rfl,hD8,fu,rfl,rfl⟩) λ_ s9 ⟨v9,H9,I9,_,_,e9⟩=>?_;subst e9;exact again I9 hm w8
 exact codeAny_compStart_list (loop _ rfl) (T.self X.A 0 _ _ _ t1 (loop _ rfl))
def Qxx {wi:TI} (Nc:M6) (ix:K3) (hc:X.calm=true) (ok:Yu scope X.env.scope=true) (hix:Fg scope X.N Nc ix=true)
  (hi:PI X tg iter wi) (hg:∀ C s0 H0 fp,PG (Ze X scope C s0 H0 fp Nc) tg g) (ht:∀ C s0 H0 fp,Qnv (Ze X scope C s0 H0 fp Nc) ifs tt) (he:∀ C s0 H0 fp,PE (Ze X scope C s0 H0 fp Nc) elt te)
  (hs:∀ x,foldedSetIterable iter X.env x=pure x:=by intro _; rfl):PE X (.ListComp elt [⟨tg,iter,ifs,0⟩] scope pos) (Qz3 ix wi g tt te):=by
 intro dz s σ H Q I h;rw [eval_ListComp];refine wpAny_comprehension_free (use:=none) rfl hs (Uq (Wr I ok)) (Yt ok) (Po ok) (thn (hi dz s σ H _ I h) λxv s1 h1=>thn h1 λitv s2 h2=>?_);obtain ⟨it,fp,tn,J,H2,rfl,I2,T,st2,f2,q2⟩:=h2;exact Eh (RR:=λacc C=>compPost (model X.prog X.w) X.A X.xe none (EP X dz σ Q) acc C) I2 hc ok hix hg ht he T st2 f2 q2
  (λD C s' H' m J' hn hC h1 h2 h3 h4 q=>⟨m,hn,λh' hs'=>⟨.ref D,H',J'.turned (t':=s'.toks) (λb o nb e=>hs'.extBut b o nb e) hC h2 (.inr h1) h3 h4,rfl,q⟩⟩)
def Cj {wi:TI} {i:Nat} {y:Str} {py spos:Pos} (hN:X.N.Nodup) (hy:X.N[i]? = some y) (hx:Loc X.env.scope y) (Nc:M6) (ix:K3) (hc:X.calm=true) (ok:Yu scope X.env.scope=true) (hix:Fg scope X.N Nc ix=true)
  (hi:PI X tg iter wi) (hg:∀ C s0 H0 fp,PG (Ze X scope C s0 H0 fp Nc) tg g) (ht:∀ C s0 H0 fp,Qnv (Ze X scope C s0 H0 fp Nc) ifs tt) (he:∀ C s0 H0 fp,PE (Ze X scope C s0 H0 fp Nc) elt te)
  (hs:∀ x,foldedSetIterable iter X.env x=pure x:=by intro _; rfl)
  (hsw:swapsWith (.ListComp elt [⟨tg,iter,ifs,0⟩] scope pos) (some (.Name y py)) spos.line X.env=pure true:=by rfl) (hf:X.fn y=true\/X.env.scope.names.lookup y=some .local:=by first | exact .inl rfl | exact .inr rfl | assumption) :
  PS X (.Assign [.Name y py] (.ListComp elt [⟨tg,iter,ifs,0⟩] scope pos) spos) (Qn9 (Qz3 ix wi g tt te) (Jl i)):=by
 intro dz s σ H Dn I h;rw [exec_Assign_Name_used _ _ _ _ hsw];refine M9 (A0a (M9 ?_));show wpAny _ X.A (do let _ <- comprehension (.ListComp elt [⟨tg,iter,ifs,0⟩] scope pos) scope X.env _ (newList []) false (eval iter X.env) (some (assign (.Name y py) X.env))) _ _ s;refine M9 (S9 (wpAny_comprehension_free (use:=some (assign (.Name y py) X.env)) (Q:=λ_ s'=>SP X dz Dn .next s') rfl hs (Uq (Wr I ok)) (Yt ok) (Po ok)
  (thn (hi dz s σ H _ I h) λxv s1 h1=>thn h1 λitv s2 h2=>?_)) (λ_ s' hq=>N6 (N6 hq)) λ_ _ e=>e)
 obtain ⟨it,fp,tn,J,H2,rfl,I2,T,st2,f2,q2⟩:=h2;refine Eh (RR:=λacc C=>compPost (model X.prog X.w) X.A X.xe (some (assign (.Name y py) X.env)) (λ_ s'=>SP X dz Dn .next s') acc C) I2 hc ok hix hg ht he T st2 f2 q2
  (λD C s' H' m J' hn hC h1 h2 h3 h4 q=>?_)
 show wpAny _ X.A (assign (.Name y py) X.env (.ref D)) _ _ _;refine wpAny_assign_Name (By J' hN hy hx (v:=.ref D) rfl (λs'' J'' ⟨a,hsb,ha⟩=>⟨m,hn.sameBut hsb ?_,λh' hs'=>⟨_,H',J''.turned (t':=s''.toks) (λb o nb e=>hs'.extBut b o nb e) hC h2 (.inr h1) h3 h4,q⟩⟩) hf);rcases ha with ha | ha
 ·rw [ha];exact h2
 ·exact (h3 _ _ ha).symm
end
def Qg7 (D:G5) (H H':Hp):Prop:=∀ b o,b≠D->H b=some o->H' b=some o
def Qu.keep (h:Qu H H') (D:G5):Qg7 D H H':=λb o _ e=>h b o e
theorem Qg7.upd:Qg7 D H (upd H D o):=λb u n e=>by rw [Qv n]; exact e
theorem Qu.upd (h:H D=none):Qu H (upd H D o):=λb u e=>by rw [Qv (Qj e h)]; exact e
def Qu.updT (s:Qu H H') (h:H D=none):Qu H (L2.upd H' D o):=λb u e=>by rw [Qv (Qj e h)]; exact s b u e
def Qu.seqT (e:Qu H H') (h:SqT K H a xs):SqT K H' a xs:=by
 rcases h with (h | ⟨o,h⟩) | h
 ·exact .inl (.inl (e _ _ h))
 ·exact .inl (.inr ⟨o,e _ _ h⟩)
 ·exact .inr h
theorem Qdv {J:It} (n:Nat) (xv:Nat->V) (R:Nat->V->Hp->Prop) (hn:n < sizeLine) (hD1:H1 D=none)
  (hgo:∀ i H,i < n->Qu H1 H->J.go i H) (hst:∀ H,Qu H1 H->J.stop n H) (hy:∀ i H x H',i < n->Qu H1 H->J.yld i H x H'->x=xv i/\H'=H)
  (mono:∀ i y H H',Qg7 D H H'->R i y H->R i y H')
  (hs:∀ i H ys (N:VK),i < n->Qu H1 H->H D=some (.lst ys)->(∀ y H',Qu H H'->R i y H'->N y H')->te (some (xv i) :: σf) H N)
  (hd:∀ ys H,Qu H1 H->H D=some (.lst ys)->ys.length=n->(∀ (i:Nat) y,ys[i]? = some y->R i y H)->Q (.ref D) H):Rp J D (Jl 0) Qqj te (none :: σf) (upd H1 D (.lst [])) Q:=by
 refine ⟨λi m ys H=>i<=n/\m=n - i/\Qu H1 H/\H D=some (.lst ys)/\ys.length=i/\∀ j y,ys[j]? = some y->R j y H,⟨n,T3 _,rfl,Qu.upd hD1,Qy,rfl,λj y e=>by simp at e⟩,?_⟩;rintro i m ys H ⟨hi,rfl,s1,d1,l1,r1⟩;refine ⟨d1,?_⟩
 by_cases hlt:i < n
 ·refine .inr ⟨hgo i H hlt s1,by rw [l1]; exact Nat.lt_trans hlt hn,λy H'=>Qu H H'/\R i y H',λ_=>False,λy H6 q=>?_,λ_ z=>z.elim,λx H' y=>?_⟩
  ·obtain ⟨s6,r6⟩:=q;refine ⟨s6 _ _ d1,n - (i + 1),by lia,hlt,rfl,(s1.trans s6).updT hD1,Qy,by simp [l1],λj z e=>?_⟩
   by_cases hj:j < ys.length
   ·rw [getElem?_append_left hj] at e;exact mono _ _ _ _ Qg7.upd (mono _ _ _ _ (s6.keep D) (r1 j z e))
   ·have hj':j=ys.length:=by have:=(N8.mp e).1;simp at this;lia
    subst hj';simp at e;subst e;rw [l1];exact mono _ _ _ _ Qg7.upd r6
  ·obtain ⟨rfl,rfl⟩:=hy i H x H' hlt s1 y;refine ⟨Agree.one _ _ _ rfl,?_⟩;show if true=true then te (some (xv i) :: σf) H' (λy H''=>Qu H' H''/\R i y H'') else False
   rw [if_pos rfl];exact hs i H' ys _ hlt s1 d1 λy H6 a b=>⟨a,b⟩
 ·obtain rfl:i=n:=Nat.le_antisymm hi (A0d.mp hlt);exact .inl ⟨hst H s1,hd ys H s1 d1 l1 r1⟩
def Xe (R:Nat->V->Hp->Prop) (hS:SqL K H1 a xs) (hz:xs.length < sizeLine) (hD1:H1 D=none)
  (mono:∀ i y H H',Qg7 D H H'->R i y H->R i y H')
  (hs:∀ i x H ys (N:VK),xs[i]? = some x->Qu H1 H->H D=some (.lst ys)->(∀ y H',Qu H H'->R i y H'->N y H')->te (some x :: σf) H N)
  (hd:∀ ys H,Qu H1 H->H D=some (.lst ys)->ys.length=xs.length->(∀ (i:Nat) y,ys[i]? = some y->R i y H)->Q (.ref D) H):Rp (Itl K a) D (Jl 0) Qqj te (none :: σf) (upd H1 D (.lst [])) Q:=by
 refine Qdv xs.length (λi=>(xs[i]?).getD .non) R hz hD1 (λi H hi s=>⟨xs,xs[i],s.seq hS,by simp [hi]⟩) (λH s=>⟨xs,s.seq hS,O7 _⟩) (λi H x H' hi s y=>?_) mono (λi H ys N hi s d hN=>?_) hd
 ·obtain ⟨rfl,y⟩:=y;have:=y xs (s.seq hS);exact ⟨by simp [this],rfl⟩
 ·have e:xs[i]? = some xs[i]:=by simp [hi]
  have q:=hs i xs[i] H ys N e s d hN;rw [e];exact q
def Yv {lo:Int} (R:Nat->V->Hp->Prop) (hz:n < sizeLine) (hD1:H1 D=none)
  (mono:∀ i y H H',Qg7 D H H'->R i y H->R i y H')
  (hs:∀ (i:Nat) H ys (N:VK),i < n->Qu H1 H->H D=some (.lst ys)->(∀ y H',Qu H H'->R i y H'->N y H')->te (some (.int (lo + i)) :: σf) H N)
  (hd:∀ ys H,Qu H1 H->H D=some (.lst ys)->ys.length=n->(∀ (i:Nat) y,ys[i]? = some y->R i y H)->Q (.ref D) H):Rp (Itr lo n) D (Jl 0) Qqj te (none :: σf) (upd H1 D (.lst [])) Q :=
 Qdv n (λi=>.int (lo + i)) R hz hD1 (λi H hi _=>hi) (λH _=>O7 _) (λi H x H' hi s y=>⟨y.2,y.1⟩) mono hs hd
def Qo6 (i j:Int):Prop:=(-(10 ^ 200) < i/\i < 10 ^ 200)/\(-(10 ^ 200) < j/\j < 10 ^ 200)
def Zqw (i j:Int):Prop:=0 < j/\j < 10 ^ 200
def Qt7:(10:Nat) ^ 200<=2 ^ 700:=by decide +kernel
theorem Cb (h:-(10 ^ 200) < i/\i < 10 ^ 200):i.natAbs < 2 ^ 700:=by
 have h1:i.natAbs < 10 ^ 200:=by
  have e:((10 ^ 200:Nat):Int)=(10:Int) ^ 200:=by simp
  have:(i.natAbs:Int) < ((10 ^ 200:Nat):Int):=by rw [e]; lia
  exact Int.ofNat_lt.mp this
 exact T6 h1 Qt7
def Qo6.ok {j:Int} (h:Qo6 i j):IntMulOk i j:=IntMulOk.of_le (m:=700) (n:=700) (intBits_le_iff.mpr (Cb h.1)) (intBits_le_iff.mpr (Cb h.2)) (by decide)
section
def Qr:OpR X (binaryOp .Mult) (rI Qo6 λi j=>.int (i * j)):=opI λ_ _ _ _ _ _ _ hc q=>mul_int q hc.ok
theorem Xc:OpR X (binaryOp .FloorDiv) (rI Zqw λi j=>.int (i / j)):=opI λi j _ _ _ _ _ hc q=>by have h1:(0:Int) < j:=hc.1;have h2:j.natAbs < 2 ^ 700:=Cb ⟨by have:=hc.2; lia,hc.2⟩;refine floordiv_int (by lia) (by rw [Int.fdiv_eq_ediv_of_nonneg i (by lia)]; exact q) (.inl (PyProof.noPylong_of_log2 ?_));have h3:j.natAbs.log2 < 700:=(Nat.log2_lt (by lia)).mpr h2;lia
end
structure Src (K:N5) (mg:K4) (x qual:Str) (st:Stmt):Prop where
 ex:∃ f fd,Fun K x qual st f fd/\mg x=some (.ref f)
def Qi9 (X:K.In h) (G:h.Ns mainGlobals mg)
  (a:PySem.W.nsIn K mainGlobals x=some (some (.ref f))) (l:K.lookup f=some ⟨oc,od,.func (PySem.W.fnOf x qual (Yx st) (Zl st) (Qf st) .none kV doc pm an cdv ct),osl⟩)
  (c:PySem.W.codeIn K cdv qual=true) (k:PySem.W.keepIn K (.ref f)=true):Src K mg x qual st:=⟨f,_,Qm9 l c k,PySem.W.mg_of X G a⟩
structure Def (P:G8) (w:World) (K:N5) (mg:K4) (base:Heap) (k:Nat) (x:Str) (ps:M6) (sp:Sp):Prop where
 ex:∃ f fd,mg x=some (.ref f)/\PySem.W.keepIn K (.ref f)=true/\Tc K fd ps []/\Mn P w K mg base CX0 k f fd ps sp/\∃ oc od osl,K.lookup f=some ⟨oc,od,.func fd,osl⟩
section
variable {base:Heap}
def Src.mk' (S:Src K mg x qual st) (Sc:Xn N ps (Qf st)) (len:∀ vs H Q E,sp vs H Q E->vs.length=ps.length)
  (hb:∀ (kV doc pm:G3) (an:M8) (cdv ct:G3) (us:K8),us.length=ps.length->bindArgs (PySem.W.fnOf x qual (Yx st) (Zl st) (Qf st) .none kV doc pm an cdv ct) ⟨us,[]⟩=pure (ps.zip us))
  (iu:∀ (f:G5) (cdv:G3) (A:G7) (outer:List Env) (s:G4) (H:Hp) (vs:List V) (Q:VK) (E:XK),Jc k (A.deeper (envOfC qual (Qf st) s.heap.objs.size f cdv))->sp vs H Q E ->
   ∃ t,PSs (Hs CX0 P w K mg base N qual (Qf st) f cdv A outer s H E).nox (Zl st) t/\t { nx:=λ_ H'=>Q .non H',rt:=Q } (start N vs) H):Def P w K mg base (k + 1) x ps sp:=by
 obtain ⟨f,fd,F,hm⟩:=S.ex;obtain ⟨oc,od,_,_,_,_,_,_,osl,_,lk,_⟩:=F.ex;exact ⟨f,fd,hm,F.kp,F.binds hb,F.ok Sc len (iu f),oc,od,osl,lk⟩
end
section
variable {p:Pos} {t:TA}
def Qa9 (D:Def X.prog X.w X.K X.mg X.base k x ps sp) (hr:Jc k X.A) (hg:Gl X x) (ha:PA X (e :: es) t) (hdb:(x == ("__debug__" : Str))=false:=by decide) (he:starEach (e :: es) X.env=(false,eval e X.env) :: starEach es X.env:=by rfl)
  (hpl:(backTo pos (starEach es X.env)).any (·.1)=false:=by rfl):PE X (.Call (.Name x p) (e :: es) [] pos) (Qz4 sp [] E0 t):=by
 obtain ⟨f,fd,hm,hk,hb,F,_⟩:=D.ex;exact Qxj F hr hg hm hk hb .nil Qg9 ha hdb he hpl
end
section
def rIs (K:N5):List V->Hp->VK->Prop:=λxs H Q => ∃ x n t b,xs=[x,.ty n]/\Ij K H x t/\PySem.W.kitOne K t (.type n)=some b/\Q (.bl b) H
def Sm:Up X (.builtin "isinstance") (rIs X.K):=by intro dz s σ H xs us Q I r h;obtain ⟨x,n,t,b,rfl,ty,e,q⟩:=h;obtain ⟨u,u2,rfl,ru,r2⟩:=Qd9 r;have e2:u2=Value.type n:=r2;subst e2;exact Qy6 I ru ty e λtk=>⟨.bl b,H,I.tok tk,rfl,q⟩
def Qu8:bootBuiltins "len" = some (.builtin "len"):=by decide +kernel
def Kv:bootBuiltins "isinstance" = some (.builtin "isinstance"):=by decide +kernel
def Yq:bootBuiltins "sum" = some (.builtin "sum"):=by decide +kernel
def Jq:bootBuiltins "min" = some (.builtin "min"):=by decide +kernel
def Gr:bootBuiltins "max" = some (.builtin "max"):=by decide +kernel
def Gn:bootBuiltins "all" = some (.builtin "all"):=by decide +kernel
def Qu9:bootBuiltins "any" = some (.builtin "any"):=by decide +kernel
def Qq3:bootBuiltins "bool" = some (.type "bool"):=by decide +kernel
def Tj:bootBuiltins "int" = some (.type "int"):=by decide +kernel
def Jd:bootBuiltins "list" = some (.type "list"):=by decide +kernel
def Yn:bootBuiltins "tuple" = some (.type "tuple"):=by decide +kernel
def Lw:bootBuiltins "abs" = some (.builtin "abs"):=by decide +kernel
def Fk:bootBuiltins "enumerate" = some (.type "enumerate"):=by decide +kernel
def Yb (K:N5) (n:String):PySem.W.kitOne K (.type n) (.type n)=some true:=by unfold PySem.W.kitOne;rw [if_pos (beq_self_eq_true _)]
end
def Ite (K:N5) (a:G5):It :=⟨λi H => ∃ xs x,SqL K H a xs/\xs[i]? = some x,λi H x H' => ∃ T,H T=none/\x=.ref T/\∀ xs,SqL K H a xs->∃ v,xs[i]? = some v/\H'=upd H T (.tup [.int i,v]),λi H => ∃ xs,SqL K H a xs/\xs.length<=i⟩
def Inv.turnNew {dz:G9} {e it T:G5} {h':Heap} {t':Nat} (I:Inv X dz σ H s) (k:∀ b o,b≠e->b≠it->s.heap.get? b=some o->h'.get? b=some o) (fe:Ku X dz H e) (fi:Ku X dz H it)
  (hT:T=s.heap.objs.size) (new:Jp X.prog X.w (upd H T (.tup xs)) h' T (.tup xs)):Inv X dz σ (upd H T (.tup xs)) { s with heap:=h',toks:=t' }:=by
 have hn:H T=none:=by rw [hT]; exact I.fresh
 have nT:∀ b o,s.heap.get? b=some o->b≠T:=λb o e=>by rw [hT]; exact O9 (O5 e)
 have nch:∀ b,b ∉ [e,it]->b≠e/\b≠it:=λb h=>⟨λz=>h (by simp [z]),λz=>h (by simp [z])⟩
 refine I.step (g':=s.gens) (d':=s.drawn) (ch:=[e,it]) (λb hb=>?_) (λb o _ _ hc q _=>k b o (nch b hc).1 (nch b hc).2 q) (λb o _ _ hc q _=>⟨o.slots,k b o (nch b hc).1 (nch b hc).2 q⟩) (λb o _ q n=>by rw [Qv (nT b o q)]; exact n)
  (λb o hc q=>⟨o,k b o (nch b hc).1 (nch b hc).2 q⟩) (λb ys q=>by rw [Qv (Qj q hn)]; exact q) (λb o u q=>by rw [Qv (Qj q hn)]; exact q) (λb ps q=>⟨#[],by rw [Qv (Qj q hn),q]; simp⟩) (λm hm=>?_) (λb u q=>?_) I.bare
 ·rcases R3.mp hb with z | hb
  ·subst z;exact ⟨fe.2.2.2.1,fe.2.1,fe.2.2.2.2.1,fe.2.2.2.2.2⟩
  ·have z:b=it:=by simpa using hb
   subst z;exact ⟨fi.2.2.2.1,fi.2.1,fi.2.2.2.2.1,fi.2.2.2.2.2⟩
 ·obtain ⟨o,es,ep,ho,r⟩:=hm;exact ⟨o,es,ep,k _ o (Ne.symm fe.2.1) (Ne.symm fi.2.1) ho,r⟩
 ·by_cases hb:b=T
  ·subst hb;rw [Qy] at q;cases q;exact new
  ·rw [Qv hb] at q;have ne:∀ c u,H c=some u->c≠e/\c≠it:=λc u z=>⟨λw=>(by rw [w,fe.1] at z; cases z),λw=>(by rw [w,fi.1] at z; cases z)⟩
   refine (I.hok b u q).stay (λc v hc z=>?_) (λc z=>by rw [Qv (Qj z hn)]; exact z) λc ys z=>by rw [Qv (Qj z hn)]; exact z
   rcases hc with w | w
   ·rw [w] at z ⊢;exact k b v (ne b u q).1 (ne b u q).2 z
   ·exact k c v (ne c _ w).1 (ne c _ w).2 z
theorem Qvq {ni:M7} (a e it:G5) (hne:e≠it) :
  Qd3 P w K (.Tuple ni tk tp) (Ite K a) [e,it] e (λi h=>(∃ old,IsEnum h e it (i:Nat) old)/\h.IsListIter it a i) where
 mem:=by simp
 obj:=λi h st b hb=>by
  obtain ⟨⟨old,he⟩,hit⟩:=st;rcases R3.mp hb with z | hb
  ·subst z;exact ⟨_,he,λv z=>by have z':Data.fields _=Data.cell v:=z;cases z'⟩
  ·have z:b=it:=by simpa using hb
   subst z;obtain ⟨o,e,c,d⟩:=hit;exact ⟨o,e,λv z=>by rw [d] at z; cases z⟩
 keep:=λi h h' st k=>by obtain ⟨⟨old,he⟩,hit⟩:=st;exact ⟨⟨old,k e (by simp) _ he⟩,hit.at λo x=>k it (by simp) o x⟩
 item:=by
  intro X hP hw hK hc i dz s σ H E I hf st hg;subst hP hw hK;obtain ⟨⟨old,he⟩,hit⟩:=st;obtain ⟨xs,x,hq,hx⟩:=hg;obtain ⟨its,rv,p,hz⟩:=I.list hq;obtain ⟨u,hu,ru⟩:=rv.get hx;refine wpAny_pyNext_enum_item he hit p.isList (x:=u) (by simpa using hu) hne λh' heo hit' hT hsz hk=>?_;refine ⟨_,rfl,wpAny_letOwnedTupleGo_enum heo λh2 he2 hs2=>?_⟩;have helt:e < s.heap.objs.size:=O5 he;have hT2:h2.get? s.heap.objs.size=some { cls:=.type "tuple",data:=.seq #[.int i s.toks,u] }:=(hs2.2 _ (A0b helt)).trans hT;have I2:Inv X dz σ (upd H s.heap.objs.size (.tup [.int i,x])) { s with heap:=h2,toks:=s.toks + 1 } :=
   I.turnNew (e:=e) (it:=it) (λb o h1 h3 q=>(hs2.2 b h1).trans (hk b o h1 h3 q)) (hf e (by simp)) (hf it (by simp)) rfl
    ⟨by show 2<=sizeLine; rw [sizeLine_eq]; decide,[.int i s.toks,u],.cons ⟨_,rfl⟩ (.cons ru .nil),⟨_,hT2,rfl,_,rfl⟩⟩
  refine ⟨.ref s.heap.objs.size,_,I2,rfl,⟨_,I.fresh,rfl,λys hy=>⟨x,by rw [I.list_inj hy hq]; exact hx,rfl⟩⟩,⟨⟨u,?_⟩,hit'.at λo q=>(hs2.2 it hne.symm).trans q⟩,λb hb=>?_⟩
  ·have e1:((i + 1:Nat):Int)=(i:Int) + 1:=by simp
   rw [e1];exact he2
  ·obtain ⟨o,ho,_⟩:∃ o,s.heap.get? b=some o/\True:=by
    rcases R3.mp hb with z | hb
    ·subst z;exact ⟨_,he,trivial⟩
    ·have z:b=it:=by simpa using hb
     subst z;obtain ⟨o,q,_⟩:=hit;exact ⟨o,q,trivial⟩
   rw [Qv (Nat.ne_of_lt (Heap.lt_size ho))];exact (hf b hb).1
 done:=by intro X hP hw hK hc i dz s σ H E I hf st hg;subst hP hw hK;obtain ⟨⟨old,he⟩,hit⟩:=st;obtain ⟨xs,hq,hx⟩:=hg;obtain ⟨its,rv,p,hz⟩:=I.list hq;obtain ⟨f0,f1,f2,f3,f4,f5⟩:=hf it (by simp);have hl:=rv.length;exact wpAny_pyNext_enum_end (I.ok.hd hc) he hit p.isList (by simp; lia) λh' eb=>⟨rfl,I.turned (t':=s.toks) (λb o hb e=>eb b o hb e) f0 f1 f3 f4 f5⟩
 self:=λA i s Q E st h=>by obtain ⟨⟨old,he⟩,_⟩:=st;exact wpAny_pyIter_enum he h
section
def Qsq (K:N5) (ta:TA):TI:=λσ H R=>ta σ H λvs H1 => ∃ a,vs=[.ref a]/\(∃ xs,SqL K H1 a xs)/\R (Ite K a) H1
theorem Ql9 {ta:TA} {p:Pos} {ni:M7} (hg:Gl X "enumerate") (hm:X.mg "enumerate" = none) (ha:PA X [l] ta) (hs:starEach [l] X.env=[(false,eval l X.env)]:=by rfl) :
  PI X (.Tuple ni tk tp) (.Call (.Name "enumerate" p) [l] [] pos) (Qsq X.K ta):=by
 intro dz s σ H R I h;refine Call_ (Uw I hg hm Fk (W9 (thn (ha pos dz s σ H _ I h) λus s1 ⟨vs,H1,I1,r1,q1⟩=>?_) hs rfl));obtain ⟨a,e,⟨xs,hq⟩,q⟩:=q1;subst e;cases r1 with
 | cons r rr =>
  cases rr;obtain rfl:=r;obtain ⟨its,rv,pl,hz⟩:=I1.list hq;refine call_enumerate_list pl.isList λh' he hit hsz hk=>?_;refine wpAny_pyIter_enum he ?_;refine ⟨s1.heap.objs.size + 1,[s1.heap.objs.size + 1,s1.heap.objs.size],_,_,H1,rfl,I1.kept (t':=s1.toks) hk,Qvq a _ _ (Nat.succ_ne_self _),⟨⟨_,he⟩,hit⟩,λb hb=>?_,q⟩;have hle:s1.heap.objs.size<=b:=by
   rcases R3.mp hb with z | hb
   ·rw [z]; exact Z5 _
   ·have z:b=s1.heap.objs.size:=by simpa using hb
    rw [z];exact O7 _
  exact I1.fpOk hle (I1.hok.fresh hle)
end
theorem Qfv {tb:TS} {D:Iw} (Pv:Nat->St->Hp->Prop) (h0:Pv 0 σ H) (hl:∀ i σ H,i<=xs.length->Pv i σ H->SqL K H a xs)
  (hs:∀ i x σ H T,xs[i]? = some x->Pv i σ H->H T=none->g (.ref T) σ (upd H T (.tup [.int i,x])) λσ2 H2=>tb { D with nx:=Pv (i + 1),ct:=Pv (i + 1),bk:=D.nx } σ2 H2) (hd:∀ σ H,Pv xs.length σ H->D.nx σ H) :
  ∃ W:Nat->Nat->St->Hp->Prop,(∃ m,W 0 m σ H)/\∀ i m σ H,W i m σ H ->
   ((Ite K a).stop i H/\D.nx σ H)\/((Ite K a).go i H/\∃ N:St->Hp->Prop,(∀ σ' H',N σ' H'->∃ m',m' < m/\W (i + 1) m' σ' H')/\∀ x H',(Ite K a).yld i H x H'->g x σ H' λσ2 H2=>tb { D with nx:=N,ct:=N,bk:=D.nx } σ2 H2):=by
 refine ⟨λi m σ H=>m=xs.length - i/\i<=xs.length/\Pv i σ H,⟨xs.length,by simp,T3 _,h0⟩,?_⟩;rintro i m σ H ⟨rfl,hi,p⟩;have q:=hl i σ H hi p
 by_cases hlt:i < xs.length
 ·refine .inr ⟨⟨xs,xs[i],q,by simp [hlt]⟩,Pv (i + 1),λσ' H' p'=>⟨xs.length - (i + 1),by lia,rfl,hlt,p'⟩,λx H' y=>?_⟩;obtain ⟨T,hT,rfl,y⟩:=y;obtain ⟨v,hv,rfl⟩:=y xs q;exact hs i v σ H T hv p hT
 ·obtain rfl:i=xs.length:=by lia
  exact .inl ⟨⟨xs,q,O7 _⟩,hd σ H p⟩
def Qov (t:TS):TS:=λD σ H => ∃ N:St->Hp->Prop,t { D with nx:=N } σ H/\∀ σ' H',N σ' H'->D.nx σ' H'
theorem Ql4 {t:TS} (h:PS X st t):PS X st (Qov t):=by
 intro dz s σ H D I q;obtain ⟨N,q,hN⟩:=q;refine thn (h dz s σ H _ I q) λf s' z=>?_;cases f with
 | next=>obtain ⟨σ',H',I',n⟩:=z; exact ⟨σ',H',I',hN σ' H' n⟩
 | brk=>exact z
 | cont=>exact z
 | ret v=>exact z
def Zn (h:n<=1000):n<=sizeLine:=V5 (Qwv h)
def Qs {α:Type} {xs:List α} {z:Int} (j:Nat) {v:α} (hz:z=(j:Int)) (h:xs[j]? = some v):atI xs z=some v:=by subst hz;exact Qtq h
structure New (H:Hp) (p:G5) (o:HO) (H':Hp):Prop where
 same:Qu H H'
 none:H p=Option.none
 at_:H' p=some o
def Jy {p:G5} (h:H p=Option.none):New H p o (upd H p o):=⟨Qu.upd h,h,Qy⟩
section
variable {t:TA}
def Qo9 (t:TA):TE:=λσ H Q=>t σ H λxs H1=>xs.length<=sizeLine/\∀ p H',New H1 p (.tup xs) H'->Q (.ref p) H'
def Qoj (t:TA):TE:=λσ H Q=>t σ H λxs H1=>xs.length<=sizeLine/\∀ p H',New H1 p (.lst xs) H'->Q (.ref p) H'
def OpR.imp {f:G3->G3->Sem G3} {r r':R2} (h:OpR X f r) (i:∀ x y H Q,r' x y H Q->r x y H Q):OpR X f r':=λdz s σ H x y v u Q I rx ry q=>h dz s σ H x y v u Q I rx ry (i _ _ _ _ q)
def SlR.imp {r r':V->Option Int->Option Int->Hp->VK->Prop} (h:SlR X r) (i:∀ x l u H Q,r' x l u H Q->r x l u H Q):SlR X r':=λdz s σ H x v vl vu lo hi sl Q I rx hs pl pu q=>h dz s σ H x v vl vu lo hi sl Q I rx hs pl pu (i _ _ _ _ _ q)
def Up.imp {f:G3} {r r':List V->Hp->VK->Prop} (h:Up X f r) (i:∀ xs H Q,r' xs H Q->r xs H Q):Up X f r':=λdz s σ H xs us Q I rv q=>h dz s σ H xs us Q I rv (i _ _ _ q)
def Qs4 (K:N5):V->Option Int->Option Int->Hp->VK->Prop:=λx lo hi H Q => ∃ a xs,x=.ref a/\SqL K H a xs/\∀ p H',New H p (.lst (Ds xs lo hi)) H'->Q (.ref p) H'
def Qp3:SlR X (Qs4 X.K):=Qc8.imp λx l u H Q ⟨a,xs,e,h,q⟩=>⟨a,xs,e,h,λp hp=>q p _ (Jy hp)⟩
def Zq5:R2:=λx y H Q => ∃ l b xs zs,x=.ref l/\y=.ref b/\H l=some (.lst xs)/\H b=some (.lst zs)/\xs.length + zs.length<=sizeLine/\∀ p H',New H p (.lst (xs ++ zs)) H'->Q (.ref p) H'
def Ke:OpR X (binaryOp .Add) Zq5:=Qaz.imp λx y H Q ⟨l,b,xs,zs,e1,e2,h1,h2,hz,q⟩=>⟨l,b,xs,zs,e1,e2,h1,h2,hz,λp hp=>q p _ (Jy hp)⟩
def Md:Up X (.type "list") (λxs H Q => ∃ p ys,xs=[.ref p]/\(SqL X.K H p ys\/SqT X.K H p ys)/\∀ l H',New H l (.lst ys) H'->Q (.ref l) H'):=Hf.imp λxs H Q ⟨p,ys,e,h,q⟩=>⟨p,ys,e,h,λl hl=>q l _ (Jy hl)⟩
def Zp {x1} (h:PA X es t):PE X (.Tuple es x1 pos) (Qo9 t):=by intro dz s σ H Q I hq;refine wpAny_Tuple_spliced (thn (h pos dz s σ H _ I hq) λus s1 ⟨xs,H1,I1,r,z,q⟩=>⟨by rw [<- r.length]; exact z,?_⟩);refine ⟨.ref s1.heap.objs.size,_,I1.laid (t':=s1.toks) (o:=.tup xs) (λb u e=>O3 _ e) (O7 _) ?_,rfl,q _ _ (Jy I1.fresh)⟩;exact ⟨z,us,r,⟨_,Q5 _ rfl,rfl,_,rfl⟩⟩
def Zq (h:PA X es t):PE X (.List es pos) (Qoj t):=by intro dz s σ H Q I hq;refine wpAny_List_spliced (thn (h pos dz s σ H _ I hq) λus s1 ⟨xs,H1,I1,r,z,q⟩=>⟨by rw [<- r.length]; exact z,?_⟩);refine ⟨.ref s1.heap.objs.size,_,I1.laid (t':=s1.toks) (o:=.lst xs) (λb u e=>O3 _ e) (O7 _) ?_,rfl,q _ _ (Jy I1.fresh)⟩;exact ⟨z,us,0,r,Q5 _ rfl⟩
end
def Qaw (K:N5):PySem.W.kitOne K (.type "int") (.type "bool")=some false:=by kernel_rfl
theorem Qe7:∀ (ns ms:K6),ns.length=ms.length->((range ns.length).all λj=>decide (ns[j]? = ms[j]?))=decide (ns=ms):=λns ms hl=>by
 by_cases h:ns=ms
 ·subst h;rw [decide_eq_true rfl];exact A0c.mpr λj _=>P0 rfl
 ·rw [decide_eq_false h];refine Bool.eq_false_iff.mpr λq=>h (ext_getElem? λj=>?_);have q:=A0c.mp q
  by_cases hj:j < ns.length
  ·exact Q6 (q j (O1.mpr hj))
  ·rw [List.getElem?_eq_none_iff.mpr (by lia),List.getElem?_eq_none_iff.mpr (by lia)]
section
def Qy8 {A:G7} {ms:K6} {us ws:K8} (r1:Xq (ns.map V.int) us) (r2:Xq (ms.map V.int) ws) (j:Nat) (h1:j < us.toArray.size) (h2:j < ws.toArray.size) :
  SeqAt.EqAt A s us.toArray[j] ws.toArray[j] (decide (ns[j]? = ms[j]?)):=by
 have l1:=r1.length;have l2:=r2.length;simp at l1 l2 h1 h2;have g1:(ns.map V.int)[j]? = some (.int ns[j]):=by simp [l1,h1]
 have g2:(ms.map V.int)[j]? = some (.int ms[j]):=by simp [l2,h2]
 obtain ⟨u,e1,q1⟩:=r1.get g1;obtain ⟨v,e2,q2⟩:=r2.get g2;have e1':us.toArray[j]=u:=by have:=N8.mp e1;obtain ⟨_,z⟩:=this;simpa using z
 have e2':ws.toArray[j]=v:=by have:=N8.mp e2;obtain ⟨_,z⟩:=this;simpa using z
 rw [e1',e2'];have k:=Qmz (A:=A) (s:=s) q1 q2 rfl rfl;have e3:eqV (V.int ns[j]) (V.int ms[j])=decide (ns[j]? = ms[j]?):=by show (ns[j] == ms[j])=_;simp [getElem?_eq_getElem,l1,l2,h1,h2,Bool.beq_eq_decide_eq]
 rw [e3] at k;exact k
def Qs5 (K:N5) (neg:Bool):R2:=λx y H Q => ∃ (a b:G5) (ns ms:K6),x=.ref a/\y=.ref b/\SqL K H a (ns.map V.int)/\SqL K H b (ms.map V.int)/\Q (.bl (if neg=true then !decide (ns=ms) else decide (ns=ms))) H
theorem Qlk (hu:X.A.units < cLine):OpR X (compareOp .NotEq) (Qs5 X.K true):=by
 intro dz s σ H x y v u Q I rx ry h;obtain ⟨a,b,ns,ms,rfl,rfl,ha,hb,q⟩:=h;cases rx;cases ry;obtain ⟨is,r1,p1,z1⟩:=I.list ha;obtain ⟨js,r2,p2,z2⟩:=I.list hb;have l1:=r1.length;have l2:=r2.length;simp at l1 l2
 by_cases hl:ns.length=ms.length
 ·refine SeqAt.RcNeAt.lists (e:=λj=>decide (ns[j]? = ms[j]?)) p1.isList p2.isList (by simp; lia) hu (λj h1 h2=>Qy8 r1 r2 j h1 h2) _ _ _ _ ?_;have e:((range is.toArray.size).all λj=>decide (ns[j]? = ms[j]?))=decide (ns=ms):=by rw [size_toArray,<- l1];exact Qe7 ns ms hl
  rw [e];exact ⟨.bl (!decide (ns=ms)),H,I,rfl,q⟩
 ·refine SeqAt.RcNeAt.lists_lengths p1.isList p2.isList (by simp; lia) hu _ _ _ _ ?_;have e:decide (ns=ms)=false:=T5 λz=>hl (by rw [z]);rw [e] at q;exact ⟨.bl true,H,I,rfl,q⟩
end
section
def Qrz (h:X.K=K):IxR X (rIx K):=h ▸ Qe5
def Rt (h:X.K=K):SlR X (Qs4 K):=h ▸ Qp3
def Zz6 (K:N5):List V->Hp->VK->Prop:=λxs H Q => ∃ p ys,xs=[.ref p]/\(SqL K H p ys\/SqT K H p ys)/\Q (.int ys.length) H
def Qu6 (h:X.K=K):Up X (.builtin "len") (Zz6 K):=h ▸ Hh
def Hm (h:X.K=K):Up X (.builtin "isinstance") (rIs K):=h ▸ Sm
def Qx8 (K:N5):List V->Hp->VK->Prop:=λxs H Q => ∃ p ys,xs=[.ref p]/\(SqL K H p ys\/SqT K H p ys)/\∀ l H',New H l (.lst ys) H'->Q (.ref l) H'
def Mm (h:X.K=K):Up X (.type "list") (Qx8 K):=h ▸ Md
def Qxv (h:X.K=K) (hu:X.A.units < cLine):OpR X (compareOp .NotEq) (Qs5 K true):=h ▸ Qlk hu
def Yr (h:X.K=K):OpR X (compareOp .In) (rIn K false):=h ▸ Qk9
def Tg (h:X.K=K):OpR X (compareOp .NotIn) (rIn K true):=h ▸ Hx
def Qpz {tg:Expr} {tl:TE} (h:X.K=K) (hl:PE X l tl):PI X tg l (Qdx K tl):=h ▸ Ql8 hl
def Ql6 {tg:Expr} {tl:TE} (h:X.K=K) (hl:PE X l tl):PI X tg l (Zzx K tl):=h ▸ Qa3 hl
def Qpx {ta:TA} {p:Pos} {ni:M7} (h:X.K=K) (hg:Gl X "enumerate") (hm:X.mg "enumerate" = none) (ha:PA X [l] ta) (hs:starEach [l] X.env=[(false,eval l X.env)]:=by rfl) :
  PI X (.Tuple ni tk tp) (.Call (.Name "enumerate" p) [l] [] pos) (Qsq K ta):=h ▸ Ql9 hg hm ha hs
def Vv {t:TGs} (hK:X.K=K) (hc:X.calm=true) (h:PGs X es t)
  (hn:(assignEach es X.env).length=n:=by rfl) (hst:(assignEach es X.env).findIdx? (·.1)=none:=by rfl):PG X (.Tuple es k pos) (Zzj K n t):=hK ▸ Qa4 hc h hn hst
def Qlv {f:Str} {ta:TE} (h:X.K=K) (he:PE X e ta) (hb:attributeBase e f X.env (eval e X.env)=eval e X.env):PE X (.Attribute e f pos) (Qek K ta f):=h ▸ Qa8 he hb
def Ki {o value:Expr} {f:Str} {j5:Pos} {ta tv:TE} (h:X.K=K) (ha:PE X o ta) (hv:PE X value tv) (hs:swapsWith value (some (.Attribute o f j5)) pos.line X.env=pure false):PS X (.Assign [.Attribute o f j5] value pos) (Zz4 K ta tv f):=h ▸ Qa2 ha hv hs
def Mo {o:Expr} {to:TE} {t:TA} {name:Str} {ir iw:Pos} {T id:String} {r:V->List V->Hp->VK->Prop} (h:X.K=K) (pa:PlainAttrs T) (slot:Slot T name id) (hty:typeOf (.builtin id)=pure (.type "method_descriptor")) (hm:MtR X id r) (ho:PE X o to) (ha:PA X (e :: es) t)
  (jq:attributeBase o name X.env (eval o X.env)=eval o X.env:=by rfl)
  (mz:((backTo iw (starEach (e :: es) X.env)).all (λx => !x.1) && (backToKw iw (keywordEach [] X.env)).all (λx=>x.1.isSome) && decide ((e :: es).length + ([]:List Keyword).length + (if ([]:List Keyword).isEmpty then 0 else 1) < 30))=true:=by rfl)
  (jr:(ir.endLine == iw.line)=true:=by rfl) (hs:starEach (e :: es) X.env=(false,eval e X.env) :: starEach es X.env:=by rfl) (jg:(backTo iw (starEach es X.env)).any (·.1)=false:=by rfl) :
  PE X (.Call (.Attribute o name ir) (e :: es) [] iw) (tBM K T r to t):=by
 subst h;exact Zq7 pa slot hty hm ho ha jq mz jr hs jg
end
section
def Qlj (hg:Gl X x) (hm:∃ v,X.mg x=some v/\∃ t,v=.int i t) (hd:(x == ("__debug__" : Str))=false:=by decide):PE X (.Name x pos) (tC (.int i)):=by obtain ⟨v,hm,t,rfl⟩:=hm;exact Qlx hg hm ⟨t,rfl⟩ hd
end
def Qi5 (t:TE):TE:=λσ H Q => ∃ N:VK,t σ H N/\∀ v H',N v H'->Q v H'
def Nj {t:TE} (h:PE X e t):PE X e (Qi5 t):=by intro dz s σ H Q I q;obtain ⟨N,q,hN⟩:=q;refine thn (h dz s σ H _ I q) λu s' ⟨v,H',I',r,n⟩=>⟨v,H',I',r,hN v H' n⟩
def Vq {b:Bool} (e:b=false) (h:B):if b=true then A else B:=by rw [e];exact Ml h
def Ya {b:Bool} (e:b=true) (h:A):if b=true then A else B:=by rw [e];exact Qej h
theorem Qm4 {a b A B:Int} (a1:-A<=a) (a2:a<=A) (b1:-B<=b) (b2:b<=B):-(A * B)<=a * b/\a * b<=A * B:=by
 have hA:0<=A:=by lia
 have hB:0<=B:=by lia
 have h1:(a.natAbs:Int)<=A:=by lia
 have h2:(b.natAbs:Int)<=B:=by lia
 have h3:((a * b).natAbs:Int)<=A * B:=by rw [Int.natAbs_mul,Int.natCast_mul];exact Int.mul_le_mul h1 h2 (Int.natCast_nonneg _) hA
 lia
def ixT (h:SqT K H a xs) (e:atI xs i=some v) (q:Q v H):rIx K (.ref a) (.int i) H Q:=.inr (.inl ⟨a,xs,i,v,rfl,rfl,h,e,q⟩)
def ixL (h:SqL K H a xs) (e:atI xs i=some v) (q:Q v H):rIx K (.ref a) (.int i) H Q:=.inl ⟨a,xs,i,v,rfl,rfl,h,e,q⟩
theorem Bx (h:SqL K H a (ns.map V.int)) (h0:0<=i) (h1:i < ns.length) (q:∀ z∈ns,Q (.int z) H):rIx K (.ref a) (.int i) H Q:=by
 have hi:i.toNat < ns.length:=by lia
 refine ixL h (Qs i.toNat (by lia) (v:=.int ns[i.toNat]) (by simp [hi])) (q _ (N7 hi))
def take_snoc {l:K6} {i:Nat} {r:Int} (h:l[i]? = some r):l.take (i + 1)=l.take i ++ [r]:=by rw [take_add_one,h];rfl
theorem Qv3 (r:Int):(if r < 0 then -r else r)=((r.natAbs:Nat):Int):=by split <;> lia
def int_at {i:Nat} {x:V} (hx:(ns.map V.int)[i]? = some x):∃ z,ns[i]? = some z/\x=.int z:=by
 rw [getElem?_map] at hx;cases e:ns[i]? with
 | none=>rw [e] at hx; cases hx
 | some z=>rw [e] at hx; exact ⟨z,rfl,(R5 hx).symm⟩
theorem Ww {ys:List V} (l:ys.length=ns.length) (h:∀ (i:Nat) y,ys[i]? = some y->∃ z,ns[i]? = some z/\y=.int z):ys=ns.map V.int:=by
 refine ext_getElem? λi=>?_;rw [getElem?_map];cases q:ys[i]? with
 | none =>
  have:ns.length<=i:=by rw [<- l]; exact A1h.mp q
  rw [List.getElem?_eq_none_iff.mpr this];rfl
 | some y =>obtain ⟨z,h1,h2⟩:=h i y q;rw [h1,h2];rfl
theorem Qh2 (ns:K6) (lo hi:M5):∃ ms:K6,Ds (ns.map V.int) lo hi=ms.map V.int/\ms.length<=ns.length:=by
 refine ⟨(ns.drop (HT.sIx ns.length 0 lo)).take (HT.sIx ns.length ns.length hi - HT.sIx ns.length 0 lo),?_,?_⟩
 ·unfold Ds;rw [length_map,map_take,map_drop]
 ·simp;lia
def bw (d:Nat) (rows:K6):Nat:=rows.foldl (λd r=>Nat.gcd d r.natAbs) d
theorem Za:∀ (rows:K6) (d:Nat),bw d rows ∣ d
 | [],d=>Nat.dvd_refl _
 | r :: rs,d=>Nat.dvd_trans (Za rs (Nat.gcd d r.natAbs)) (Nat.gcd_dvd_left _ _)
theorem Uy:∀ (rows:K6) (d:Nat) (r:Int),r∈rows->bw d rows ∣ r.natAbs
 | [],_,_,h=>by cases h
 | x :: rs,d,r,h=>by
  rcases R3.mp h with rfl | h
  ·exact Nat.dvd_trans (Za rs (Nat.gcd d r.natAbs)) (Nat.gcd_dvd_right _ _)
  ·exact Uy rs _ r h
theorem Ep:∀ (rows:K6) (d e:Nat),e ∣ d->(∀ r∈rows,e ∣ r.natAbs)->e ∣ bw d rows
 | [],_,_,h,_=>h
 | x :: rs,d,e,h,hr=>Ep rs _ e (Nat.dvd_gcd h (hr x Q7)) λr m=>hr r (Q8 _ m)
def Kc (rows:K6) (d:Nat) (h:0 < d):0 < bw d rows:=Nat.pos_of_dvd_of_pos (Za rows d) h
theorem Tb {r:Int} {g:Nat} (h:g ∣ r.natAbs) (hg:0 < g):(r / (g:Int)).natAbs * g=r.natAbs:=by
 obtain ⟨k,hk⟩:(g:Int) ∣ r:=by rw [<- Int.natAbs_dvd_natAbs,Int.natAbs_natCast]; exact h
 have hg':(g:Int)≠0:=by lia
 rw [hk,Int.mul_ediv_cancel_left _ hg',Int.natAbs_mul,Int.natAbs_natCast,Nat.mul_comm]
theorem Sb (parts:Nat) (rows:K6) (h:0 < parts):bw (parts / bw parts rows) (rows.map λr=>r / ((bw parts rows:Nat):Int))=1:=by
 have hg:=Kc rows parts h;generalize hG:bw parts rows=g at hg;have h1:g ∣ parts:=hG ▸ Za rows parts;have h2:∀ r∈rows,g ∣ r.natAbs:=λr m=>hG ▸ Uy rows parts r m;generalize hE:bw (parts / g) (rows.map λr=>r / (g:Int))=e;have e1:e ∣ parts / g:=hE ▸ Za _ _;have e2:∀ r∈rows,e ∣ (r / (g:Int)).natAbs:=λr m=>hE ▸ Uy _ _ _ (O8.mpr ⟨r,m,rfl⟩);have k1:e * g ∣ parts:=by
  have:=Nat.mul_dvd_mul_right e1 g
  rwa [Nat.div_mul_cancel h1] at this
 have k2:∀ r∈rows,e * g ∣ r.natAbs:=λr m=>by
  have:=Nat.mul_dvd_mul_right (e2 r m) g
  rwa [Tb (h2 r m) hg] at this
 have k3:e * g ∣ g:=by
  have:=Ep rows parts (e * g) k1 k2
  rwa [hG] at this
 have k4:e * g<=g:=Nat.le_of_dvd hg k3;have k5:0 < e * g:=Nat.pos_of_dvd_of_pos k3 hg;have k6:e<=1:=by
  rcases Nat.lt_or_ge 1 e with q | q
  ·have:=Nat.mul_le_mul_right g q;lia
  ·exact q
 have k7:0 < e:=Nat.pos_of_mul_pos_left k5 |> λ_=>by
  rcases Nat.eq_zero_or_pos e with z | z
  ·rw [z] at k5; simp at k5
  ·exact z
 lia
def Qyx (d:Nat) (l:K6) (r:Int):bw d (l ++ [r])=Nat.gcd (bw d l) r.natAbs:=by unfold bw;rw [foldl_append];rfl
def Qb8:Sp:=λvs H Q _ => ∃ c k:Int,vs=[.int c,.int k]/\0<=k/\k<=1000000/\∀ m:Int,0<=m->m < 2147483629->Q (.int m) H
def Qc6 (K:N5):Sp:=λvs H Q _ => ∃ (a:G5) (ns:K6) (k:Int),vs=[.ref a,.int k]/\SqL K H a (ns.map V.int)/\0<=k/\∀ z:Int,Q (.int z) H
def Qb4:Sp:=λvs H Q _ => ∃ i:Int,vs=[.int i]/\Q (.bl true) H
def Zq1:Sp:=λvs H Q _ => ∃ a b:Int,vs=[.int a,.int b]/\0 < a/\0<=b/\Q (.int ((Nat.gcd a.natAbs b.natAbs:Nat):Int)) H
theorem Fz (ns:K6):∀ k,k<=ns.length->preSum (λi=>ns.getD i 0) k=(ns.take k).sum
 | 0,_=>by simp [preSum]
 | k + 1,h=>by have hk:k < ns.length:=h;rw [preSum,Fz ns k (by lia),take_snoc (r:=ns[k]) (by simp [hk]),sum_append];simp [hk]
section
def Inv.moved {dz:G9} {s':G4} {o:Obj} (I:Inv X dz σ H s) (m:Moved [s.heap.objs.size] (λa b=>b=a) { s with heap:=s.heap.push o } s'):Inv X dz σ H s':=by
 obtain ⟨h',g',d',t',os'⟩:=s';obtain ⟨m1,m2,m3,m4,m5⟩:=m;have e1:g'=s.gens:=m2;have e2:d'=s.drawn:=m3;have e3:os'=s.os:=m4;subst e1 e2 e3;exact I.kept (t':=t') λb u e=>m1 b u (λz=>by
  have:b=s.heap.objs.size:=by simpa using z
  exact absurd (O5 e) (by rw [this]; exact V1 _)) (O3 _ e)
def Zx8 (K:N5):List V->Hp->VK->Prop:=λxs H Q => ∃ (a:G5) (ns:K6),xs=[.ref a]/\SqL K H a (ns.map V.int)/\Q (.int ns.sum) H
theorem Xo (hK:X.K=K) (hc:X.calm=true):Up X (.builtin "sum") (Zx8 K):=by
 subst hK;intro dz s σ H xs us Q I r h;obtain ⟨a,ns,rfl,hq,q⟩:=h;obtain ⟨u,rfl,rx⟩:=Tp r;cases rx;obtain ⟨its,rv,pl,hz⟩:=I.list hq;have hl:=rv.length;have ha:a < s.heap.objs.size:=by obtain ⟨o,n,e,_⟩:=pl;exact O5 e
 have hhd:X.A.in1.handled=none:=I.ok.hd hc;refine call_sum_walkAnyS (X6 pl.isList ?_);refine ⟨s.heap.objs.size,_,_,_,its.toArray.size,_,_,λi=>ns.getD i 0,rfl,(X3 hhd s.heap.objs.size a (O9 ha) its.toArray).toS,⟨⟨_,Q5 _ rfl,rfl,rfl⟩,pl.isList.push _⟩,?_,?_,?_⟩
 ·intro b hb;rw [Heap.size_push];rcases R3.mp hb with z | hb
  ·rw [z]; exact U9 _
  ·have z:b=a:=by simpa using hb
   rw [z]; exact V6 ha
 ·intro i v hv;have hv':its[i]? = some v:=by simpa using hv
  have hi:i < ns.length:=by have:=(N8.mp hv').1;simp at hl;lia
  obtain ⟨u,h1,t,h2⟩:=rv.get (i:=i) (x:=.int ns[i]) (by simp [hi]);rw [hv'] at h1;cases h1;exact ⟨t,by rw [h2]; simp [hi]⟩
 ·intro s' t' m;refine ⟨.int ns.sum,H,I.moved m,⟨t',?_⟩,q⟩;have e:its.toArray.size=ns.length:=by rw [size_toArray,<- hl]; simp
  rw [e,Fz ns _ (Nat.le_refl _),take_length]
def Zxx (K:N5):List V->Hp->VK->Prop:=λxs H Q => ∃ (a:G5) (bs:List Bool),xs=[.ref a]/\SqL K H a (bs.map V.bl)/\Q (.bl (bs.all id)) H
def range_all (bs:List Bool):(range bs.length).all (λi=>bs.getD i false)=bs.all id:=by
 rw [Bool.eq_iff_iff,all_eq_true,all_eq_true]
 constructor
 ·intro h b hb;obtain ⟨i,hi,rfl⟩:=X4.mp hb;have:=h i (O1.mpr hi);simpa [hi] using this
 ·intro h i hi;have hi':=O1.mp hi;have:=h bs[i] (N7 hi');simpa [hi'] using this
theorem Gc (hK:X.K=K) (hc:X.calm=true):Up X (.builtin "all") (Zxx K):=by
 subst hK;intro dz s σ H xs us Q I r h;obtain ⟨a,bs,rfl,hq,q⟩:=h;obtain ⟨u,rfl,rx⟩:=Tp r;cases rx;obtain ⟨its,rv,pl,hz⟩:=I.list hq;have hl:=rv.length;have ha:a < s.heap.objs.size:=by obtain ⟨o,n,e,_⟩:=pl;exact O5 e
 have hhd:X.A.in1.handled=none:=I.ok.hd hc;refine call_all_walkS (X6 pl.isList ?_);refine ⟨s.heap.objs.size,_,_,_,its.toArray.size,_,_,λi=>bs.getD i false,rfl,(X3 hhd s.heap.objs.size a (O9 ha) its.toArray).toS,⟨⟨_,Q5 _ rfl,rfl,rfl⟩,pl.isList.push _⟩,?_,?_⟩
 ·intro i v s1 Q1 E1 hv hQ;have hv':its[i]? = some v:=by simpa using hv
  have hi:i < bs.length:=by have:=(N8.mp hv').1;simp at hl;lia
  obtain ⟨u,h1,h2⟩:=rv.get (i:=i) (x:=.bl bs[i]) (by simp [hi]);rw [hv'] at h1;cases h1;have h2':v=Value.bool bs[i]:=h2;subst h2';refine W5 ?_;have e:bs.getD i false=bs[i]:=by simp [hi]
  rw [<- e];exact hQ
 ·intro s' m;refine ⟨.bl (bs.all id),H,I.moved m,?_,q⟩;have e:its.toArray.size=bs.length:=by rw [size_toArray,<- hl]; simp
  rw [e,range_all];rfl
def Qiv (K:N5):V->List V->Hp->VK->Prop:=λx xs H Q => ∃ (a:G5) (ns:K6) (k:Int),x=.ref a/\xs=[.int k]/\SqL K H a (ns.map V.int)/\Q (.int ((ns.count k:Nat):Int)) H
def Br (hK:X.K=K):MtR X "list.count" (Qiv K):=by subst hK;intro dz s σ H x xs v us Q I rx r h;obtain ⟨a,ns,k,rfl,rfl,hq,q⟩:=h;cases rx;obtain ⟨u,rfl,t,rfl⟩:=Tp r;obtain ⟨its,rv,pl,hz⟩:=I.list hq;exact count_list_ints pl.isList (Oi rv) ⟨.int _,H,I.tok _,⟨_,rfl⟩,q⟩
end
theorem Qmj {J:It} (n:Nat) (xv:Nat->V) (p:Nat->Bool) (f:Nat->V) (hn:n < sizeLine) (hD1:H1 D=none)
  (hgo:∀ i H,i < n->Qu H1 H->J.go i H) (hst:∀ H,Qu H1 H->J.stop n H) (hy:∀ i H x H',i < n->Qu H1 H->J.yld i H x H'->x=xv i/\H'=H)
  (ht:∀ i H (N:Bool->Hp->Prop),i < n->Qu H1 H->(∀ H',Qu H H'->N (p i) H')->tt (some (xv i) :: σf) H N)
  (hs:∀ i H (N:VK),i < n->p i=true->Qu H1 H->(∀ H',Qu H H'->N (f i) H')->te (some (xv i) :: σf) H N)
  (hd:∀ H,Qu H1 H->H D=some (.lst (((range n).filter p).map f))->Q (.ref D) H):Rp J D (Jl 0) tt te (none :: σf) (upd H1 D (.lst [])) Q:=by
 refine ⟨λi m ys H=>i<=n/\m=n - i/\Qu H1 H/\H D=some (.lst ys)/\ys=((range i).filter p).map f,⟨n,T3 _,rfl,Qu.upd hD1,Qy,rfl⟩,?_⟩;rintro i m ys H ⟨hi,rfl,s1,d1,rfl⟩;refine ⟨d1,?_⟩
 by_cases hlt:i < n
 ·have hle:(((range i).filter p).map f).length<=i:=by rw [length_map];exact R4 (Z6 _ _) (by simp)
  refine .inr ⟨hgo i H hlt s1,by lia,λy H'=>Qu H H'/\y=f i/\p i=true,λH'=>Qu H H'/\p i=false,λy H6 q=>?_,λH5 q=>?_,λx H' y=>?_⟩
  ·obtain ⟨s6,rfl,hp⟩:=q;refine ⟨s6 _ _ d1,n - (i + 1),by lia,hlt,rfl,(s1.trans s6).updT hD1,Qy,?_⟩;rw [range_succ,filter_append,map_append];simp [hp]
  ·obtain ⟨s5,hp⟩:=q;refine ⟨n - (i + 1),by lia,hlt,rfl,s1.trans s5,s5 _ _ d1,?_⟩;rw [range_succ,filter_append,map_append];simp [hp]
  ·obtain ⟨rfl,rfl⟩:=hy i H x H' hlt s1 y;refine ⟨Agree.one _ _ _ rfl,?_⟩;refine ht i H' _ hlt s1 λH5 s5=>?_;cases hp:p i with
   | true =>rw [if_pos rfl];exact hs i H5 _ hlt hp (s1.trans s5) λH6 s6=>⟨s5.trans s6,rfl,rfl⟩
   | false =>rw [if_neg Bool.false_ne_true];exact ⟨s5,rfl⟩
 ·obtain rfl:i=n:=Nat.le_antisymm hi (A0d.mp hlt);exact .inl ⟨hst H s1,hd H s1 d1⟩
def Jz (p:Nat->Bool) (f:Nat->V) (hn:n < sizeLine) (hD1:H1 D=none)
  (ht:∀ (i:Nat) H (N:Bool->Hp->Prop),i < n->Qu H1 H->(∀ H',Qu H H'->N (p i) H')->tt (some (.int (0 + (i:Int))) :: σf) H N)
  (hs:∀ (i:Nat) H (N:VK),i < n->p i=true->Qu H1 H->(∀ H',Qu H H'->N (f i) H')->te (some (.int (0 + (i:Int))) :: σf) H N)
  (hd:∀ H,Qu H1 H->H D=some (.lst (((range n).filter p).map f))->Q (.ref D) H):Rp (Itr 0 n) D (Jl 0) tt te (none :: σf) (upd H1 D (.lst [])) Q :=
 Qmj n (λi=>.int (0 + (i:Int))) p f hn hD1 (λi H hi _=>hi) (λH _=>O7 _) (λi H x H' hi s y=>⟨y.2,y.1⟩) ht hs hd
structure Kk (K:N5) (C:G5) (m qual:Str) (st:Stmt):Prop where
 ex:∃ f fd,Fun K m qual st f fd/\Qnw K C m f
def Vw {m:Str}
  (a:PySem.W.findIn K (.ref C) m=some (some (.ref f))) (n:PySem.W.isFn K (.ref f)=true) (l:K.lookup f=some ⟨oc,od,.func (PySem.W.fnOf m qual (Yx st) (Zl st) (Qf st) .none kV doc pm an cdv ct),osl⟩)
  (c:PySem.W.codeIn K cdv qual=true) (k:PySem.W.keepIn K (.ref f)=true):Kk K C m qual st:=⟨f,_,Qm9 l c k,⟨a,n,k⟩⟩
structure Iv (P:G8) (w:World) (K:N5) (mg:K4) (base:Heap) (k:Nat) (C:G5) (m:Str) (ps:M6) (sp:Sp):Prop where
 ex:∃ f fd,Qnw K C m f/\Tc K fd ps []/\Mn P w K mg base CX0 k f fd ps sp
section
variable {base:Heap}
def Kk.mk' (S:Kk K C x qual st) (Sc:Xn N ps (Qf st)) (len:∀ vs H Q E,sp vs H Q E->vs.length=ps.length)
  (hb:∀ (kV doc pm:G3) (an:M8) (cdv ct:G3) (us:K8),us.length=ps.length->bindArgs (PySem.W.fnOf x qual (Yx st) (Zl st) (Qf st) .none kV doc pm an cdv ct) ⟨us,[]⟩=pure (ps.zip us))
  (iu:∀ (f:G5) (cdv:G3) (A:G7) (outer:List Env) (s:G4) (H:Hp) (vs:List V) (Q:VK) (E:XK),Jc k (A.deeper (envOfC qual (Qf st) s.heap.objs.size f cdv))->sp vs H Q E ->
   ∃ t,PSs (Hs CX0 P w K mg base N qual (Qf st) f cdv A outer s H E).nox (Zl st) t/\t { nx:=λ_ H'=>Q .non H',rt:=Q } (start N vs) H):Iv P w K mg base (k + 1) C x ps sp:=by
 obtain ⟨f,fd,F,hm⟩:=S.ex;exact ⟨f,fd,hm,F.binds hb,F.ok Sc len (iu f)⟩
end
section
variable {m:Str} {p ir:Pos} {o:Expr} {ta:TE} {t:TA}
def Ti {pl:Sem Bool} (D:Iv X.prog X.w X.K X.mg X.base k C m ps sp) (c:Cls X.K C) (he:PE X o ta) (hr:Jc k X.A) (ha:PA X (e :: es) t)
  (hst:starEach (e :: es) X.env=(false,eval e X.env) :: starEach es X.env:=by rfl) (hpl:(backTo pos (starEach es X.env)).any (·.1)=false:=by rfl)
  (ht:eval (.Call (.Attribute o m ir) (e :: es) [] pos) X.env=(do
   let ov <- eval o X.env
   standAt ir.atName
   let (f,first) <- holding [ov] (getMethod ov m pl)
   callWith pos f first (backTo pos (starEach (e :: es) X.env)) (backToKw pos (keywordEach [] X.env))):=by rfl) :
  PE X (.Call (.Attribute o m ir) (e :: es) [] pos) (Ms C m sp [] E0 ta t):=by
 obtain ⟨f,fd,hm,hb,F⟩:=D.ex;exact Qlq (pl:=pl) he c hm F hr hb .nil Qg9 ha hst hpl ht
def Zz {pl:Sem Bool} (D:Iv X.prog X.w X.K X.mg X.base k C m ps sp) (c:Cls X.K C) (he:PE X o ta) (hr:Jc k X.A)
  (ht:eval (.Call (.Attribute o m ir) [] [] pos) X.env=(do
   let ov <- eval o X.env
   standAt ir.atName
   let (f,first) <- holding [ov] (getMethod ov m pl)
   callWith pos f first (backTo pos (starEach [] X.env)) (backToKw pos (keywordEach [] X.env))):=by rfl) :
  PE X (.Call (.Attribute o m ir) [] [] pos) (Ms C m sp [] E0 ta Qez):=by
 obtain ⟨f,fd,hm,hb,F⟩:=D.ex;exact Qpv (pl:=pl) he c hm F hr hb .nil Qg9 ht
def Qz5 (D:Iv X.prog X.w X.K X.mg X.base k C "__init__" ps sp) (mk:PySem.W.makesIn X.K C=true) (kp:PySem.W.keepIn X.K (.ref C)=true) (hm:X.mg x=some (.ref C)) (hr:Jc (k + 1) X.A) (hg:Gl X x) (ha:PA X (e :: es) t)
  (hdb:(x == ("__debug__" : Str))=false:=by decide) (he:starEach (e :: es) X.env=(false,eval e X.env) :: starEach es X.env:=by rfl) (hpl:(backTo pos (starEach es X.env)).any (·.1)=false:=by rfl) :
  PE X (.Call (.Name x p) (e :: es) [] pos) (Qs3 C sp [] E0 t):=by
 obtain ⟨f,fd,M,hb,F⟩:=D.ex;exact Qlz ⟨mk,M.at_,M.fn,kp⟩ F hr hg hm hb .nil Qg9 ha hdb he hpl
end
theorem Wj {ys:List V} {P:Nat->G5->Prop} (h:∀ (i:Nat) y,ys[i]? = some y->∃ l,y=.ref l/\P i l):∃ ws:K9,ys=ws.map V.ref/\∀ (i:Nat) a,ws[i]? = some a->P i a:=by
 induction ys generalizing P with
 | nil=>exact ⟨[],rfl,λi a e=>by simp at e⟩
 | cons y r ih =>
  obtain ⟨ws,e,p⟩:=ih (P:=λi l=>P (i + 1) l) λi y' e=>h (i + 1) y' (by simpa using e);obtain ⟨l,e1,p1⟩:=h 0 y rfl;refine ⟨l :: ws,by rw [e1,e]; rfl,λi a e=>?_⟩;cases i with
  | zero=>simp at e; subst e; exact p1
  | succ i=>exact p i a (by simpa using e)
theorem Ju {ws:K9} {i:Nat} {x:V} (hx:(ws.map V.ref)[i]? = some x):∃ a,ws[i]? = some a/\x=.ref a:=by
 rw [getElem?_map] at hx;cases e:ws[i]? with
 | none=>rw [e] at hx; cases hx
 | some z=>rw [e] at hx; exact ⟨z,rfl,(R5 hx).symm⟩
theorem Nx {f:Str} {fs:List (Str × V)} (h:fs.length<=n):(Vi f v fs).length<=n + 1:=by have:=Rv f v fs;lia
def Rows (H:Hp) (ws:K9) (rows:J7):Prop:=ws.length=rows.length/\∀ (i:Nat) a row,ws[i]? = some a->rows[i]? = some row->H a=some (.lst (row.map V.int))
def Mat (H:Hp) (w:G5) (rows:J7):Prop:=∃ ws:K9,H w=some (.lst (ws.map V.ref))/\Rows H ws rows
def Rows.same {ws:K9} (r:Rows H ws rows) (s:Qu H H'):Rows H' ws rows:=⟨r.1,λi a row h1 h2=>s _ _ (r.2 i a row h1 h2)⟩
def Mat.same {H H':Hp} {w:G5} {rows:J7} (m:Mat H w rows) (s:Qu H H'):Mat H' w rows:=by obtain ⟨ws,h,r⟩:=m;exact ⟨ws,s _ _ h,r.same s⟩
def Mat.len {w:G5} (m:Mat H w rows):∃ ws:K9,H w=some (.lst (ws.map V.ref))/\(ws.map V.ref).length=rows.length:=by obtain ⟨ws,h,r⟩:=m;exact ⟨ws,h,by rw [length_map]; exact r.1⟩
def Rows.at_ {ws:K9} (r:Rows H ws rows) {i:Nat} {row:K6} (h:rows[i]? = some row):∃ a,ws[i]? = some a/\(ws.map V.ref)[i]? = some (.ref a)/\H a=some (.lst (row.map V.int)):=by
 have hi:i < ws.length:=by rw [r.1]; exact (N8.mp h).1
 exact ⟨ws[i],by simp [hi],by simp [hi],r.2 i _ row (by simp [hi]) h⟩
def Fh (b w:G5) (r:Int):List (Str × V):=Vi "rent" (.int r) (Vi "worths" (.ref w) (Vi "beds" (.ref b) []))
def hs1:¬ (("beds" : Str)="rent"):=by decide +kernel
def hs2:¬ (("beds" : Str)="worths"):=by decide +kernel
def hs3:¬ (("worths" : Str)="rent"):=by decide +kernel
def Cu (b w:G5) (r:Int):(Fh b w r).lookup ("beds" : Str)=some (.ref b):=by unfold Fh;rw [Qi,if_neg hs1,Qi,if_neg hs2,Qi,if_pos rfl]
def Yo (b w:G5) (r:Int):(Fh b w r).lookup ("worths" : Str)=some (.ref w):=by unfold Fh;rw [Qi,if_neg hs3,Qi,if_pos rfl]
def Qrk (b w:G5) (r:Int):(Fh b w r).lookup ("rent" : Str)=some (.int r):=by unfold Fh;rw [Qi,if_pos rfl]
def Zqq (b w:G5) (r:Int) {m:Str} (h1:¬ m="rent") (h2:¬ m="worths") (h3:¬ m="beds"):(Fh b w r).lookup m=none:=by unfold Fh;rw [Qi,if_neg h1,Qi,if_neg h2,Qi,if_neg h3];rfl
structure Zx1 (K:N5) (mg:K4) (C:G5):Prop where
 mgC:mg "House" = some (.ref C)
 cl:Cls K C
 mks:PySem.W.makesIn K C=true
 kp:PySem.W.keepIn K (.ref C)=true
 nB:Jn K C "beds"
 nW:Jn K C "worths"
 nR:Jn K C "rent"
structure Zv (C:G5) (H:Hp) (p:G5) (ak:K6) (aj:J7) (ao:Int):Prop where
 ex:∃ dx b w,H p=some (.ins C dx (Fh b w ao))/\H b=some (.lst (ak.map V.int))/\Mat H w aj
def Zv.same {C:G5} {H H':Hp} {p:G5} {ak:K6} {aj:J7} {ao:Int} (h:Zv C H p ak aj ao) (s:Qu H H'):Zv C H' p ak aj ao:=by obtain ⟨dx,b,w,h1,h2,h3⟩:=h.ex;exact ⟨dx,b,w,s _ _ h1,s _ _ h2,h3.same s⟩
structure Cm (ak:K6) (aj:J7) (ao:Int) (mp mr:Int):Prop where
 b1:1<=ak.length
 b2:(ak.length:Int)<=mr
 b3:∀ b∈ak,1<=b/\b<=4
 w1:1<=aj.length
 w2:(aj.length:Int)<=mp
 w3:(aj.length:Int)<=ak.sum
 w4:∀ row∈aj,row.length=ak.length
 w5:∀ row∈aj,∀ x∈row,-(10 ^ 40) < x/\x < 10 ^ 40
 r:-(10 ^ 40) < ao/\ao < 10 ^ 40
def Qc5 (C:G5):Sp:=λvs H Q _ => ∃ (p dx b w:G5) (ak:K6) (aj:J7) (ao:Int),vs=[.ref p,.ref b,.ref w,.int ao]/\H p=some (.ins C dx [])/\H b=some (.lst (ak.map V.int))/\Mat H w aj /\
 ak.length<=1000/\aj.length<=1000/\(aj.length:Int)<=ak.sum/\∀ H',Zv C H' p ak aj ao->(∀ c o,H c=some o->c≠p->H' c=some o)->Q .non H'
def Qw0 (C:G5):Sp:=λvs H Q _ => ∃ (p:G5) (ak:K6) (aj:J7) (ao:Int),vs=[.ref p]/\Zv C H p ak aj ao/\Q (.int aj.length) H
def Qb7 (C:G5):Sp:=λvs H Q _ => ∃ (p:G5) (ak:K6) (aj:J7) (ao:Int),vs=[.ref p]/\Zv C H p ak aj ao/\Q (.int ak.length) H
def Qc7:Sp:=λvs H Q _ => ∃ f m:Int,vs=[.int f,.int m]/\0<=m/\m<=10/\∀ (l:G5) (bs:K6) (H':Hp),New H l (.lst (bs.map V.int)) H'->(bs.length:Int)=m->(∀ b∈bs,1<=b/\b<=4)->Q (.ref l) H'
def Qvv (K:N5):Sp:=λvs H Q _ => ∃ (a:G5) (ns:K6) (f p r:Int),vs=[.ref a,.int f,.int p,.int r]/\SqL K H a (ns.map V.int)/\ns.length<=63/\1<=p/\p<=10/\1<=r/\r<=10 /\
 ∀ (w:G5) (rows:J7) (H':Hp),Qu H H'->Mat H' w rows->(rows.length:Int)=p->(∀ row∈rows,(row.length:Int)=r)->(∀ row∈rows,∀ x∈row,-(10 ^ 40) < x/\x < 10 ^ 40)->Q (.ref w) H'
def Qbw (K:N5):Sp:=λvs H Q _ => ∃ (a:G5) (ns:K6) (mp mr:Int),vs=[.ref a,.int mp,.int mr]/\SqL K H a (ns.map V.int)/\ns.length<=63/\1<=mp/\mp<=10/\1<=mr/\mr<=10 /\
 ∀ (t b w:G5) (ak:K6) (aj:J7) (ao:Int) (H':Hp),Qu H H'->H' t=some (.tup [.ref b,.ref w,.int ao])->H' b=some (.lst (ak.map V.int))->Mat H' w aj->Cm ak aj ao mp mr->Q (.ref t) H'
def Pt (n:Nat) (way:K6):K6:=(range n).map λ(r:Nat)=>((way.count (r:Int):Nat):Int)
def Yw (ak way:K6):K6:=((range ak.length).filter λ(r:Nat)=>decide (((way.count (r:Int):Nat):Int) < ak.getD r 0)).map λ(r:Nat)=>(r:Int)
def Qzq (aj:J7) (way:K6):Int:=((range aj.length).map λi=>(aj.getD i []).getD (way.getD i 0).toNat 0).sum
def Qb9 (K:N5) (C:G5):Sp:=λvs H Q _ => ∃ (p a:G5) (ak:K6) (aj:J7) (ao:Int) (way:K6),vs=[.ref p,.ref a]/\Zv C H p ak aj ao/\ak.length<=1000/\SqL K H a (way.map V.int) /\
 ∀ l H',New H l (.lst ((Pt ak.length way).map V.int)) H'->Q (.ref l) H'
def Qc4 (K:N5) (C:G5):Sp:=λvs H Q _ => ∃ (p a:G5) (ak:K6) (aj:J7) (ao:Int) (way:K6),vs=[.ref p,.ref a]/\Zv C H p ak aj ao/\ak.length<=1000/\SqL K H a (way.map V.int) /\
 ∀ l H',New H l (.lst ((Yw ak way).map V.int)) H'->Q (.ref l) H'
def Ic (K:N5) (C:G5):Sp:=λvs H Q _ => ∃ (p a:G5) (ak:K6) (aj:J7) (ao:Int) (way:K6),vs=[.ref p,.ref a]/\Zv C H p ak aj ao/\aj.length<=1000/\SqL K H a (way.map V.int) /\
 way.length=aj.length/\(∀ row∈aj,∀ r∈way,0<=r/\r < (row.length:Int))/\∀ H',Qu H H'->Q (.int (Qzq aj way)) H'
def Sf (ns:K6) {a b:Nat} (h1:a<=b) (h2:b<=ns.length):Ds (ns.map V.int) (some (a:Int)) (some (b:Int))=((ns.drop a).take (b - a)).map V.int:=by unfold Ds;rw [length_map,HT.sIx_nat,HT.sIx_nat,Nat.min_eq_left (Nat.le_trans h1 h2),Nat.min_eq_left h2,map_take,map_drop]
def Ko (ns:K6) (f:Int->Int) (hS:SqL K H1 a (ns.map V.int)) (hz:ns.length < sizeLine) (hD1:H1 D=none)
  (hs:∀ z∈ns,∀ H (N:VK),Qu H1 H->N (.int (f z)) H->te (some (.int z) :: σf) H N) (hd:∀ H,Qu H1 H->H D=some (.lst ((ns.map f).map V.int))->Q (.ref D) H):Rp (Itl K a) D (Jl 0) Qqj te (none :: σf) (upd H1 D (.lst [])) Q:=by
 refine Xe (λi y _ => ∃ z,ns[i]? = some z/\y=.int (f z)) hS (by simpa using hz) hD1 (λ_ _ _ _ _ h=>h) ?_ ?_
 ·rintro i x H ys N hx s d hN;obtain ⟨z,h1,rfl⟩:=int_at hx;exact hs z (T8 h1) H N s (hN _ _ (Qu.refl _) ⟨z,h1,rfl⟩)
 ·rintro ys H s d l r;have e:ys=(ns.map f).map V.int:=Ww (by simpa using l) λi y e=>by obtain ⟨z,h1,h2⟩:=r i y e;exact ⟨_,by rw [getElem?_map,h1]; rfl,h2⟩
  rw [e] at d;exact hd H s d
theorem Rows.snoc {H H':Hp} {ws:K9} {rows:J7} {c:G5} {row:K6} (r:Rows H ws rows) (k:∀ a∈ws,∀ o,H a=some o->H' a=some o) (hc:H' c=some (.lst (row.map V.int))):Rows H' (ws ++ [c]) (rows ++ [row]):=by
 refine ⟨by simp [r.1],λi a rw' h1 h2=>?_⟩
 by_cases hi:i < ws.length
 ·rw [getElem?_append_left hi] at h1;rw [getElem?_append_left (by rw [<- r.1]; exact hi)] at h2;exact k a (T8 h1) _ (r.2 i a rw' h1 h2)
 ·have hi2:i=ws.length:=by have:=(N8.mp h1).1;simp at this;lia
  subst hi2;simp at h1;rw [r.1] at h2;simp at h2;subst h1 h2;exact hc
theorem Qi8 {bs:K6} (h:∀ b∈bs,1<=b):(bs.length:Int)<=bs.sum:=by
 induction bs with
 | nil=>simp
 | cons b r ih =>have h1:=h b Q7;have h2:=ih λx hx=>h x (Q8 _ hx);simp;lia
theorem Qi7 {bs:K6} {m:Int} (h:∀ b∈bs,b<=m):bs.sum<=m * bs.length:=by
 induction bs with
 | nil=>simp
 | cons b r ih =>
  have h1:=h b Q7;have h2:=ih λx hx=>h x (Q8 _ hx);have e:m * (((b :: r).length:Nat):Int)=m * (r.length:Int) + m:=by rw [length_cons,Int.natCast_add,Int.mul_add];simp
  rw [e];simp;lia
theorem Kr (ns:K6) (f:Int->V) (hS:SqL K H1 a (ns.map V.int)) (hz:ns.length < sizeLine) (hD1:H1 D=none)
  (hs:∀ z∈ns,∀ H (N:VK),Qu H1 H->(∀ H',Qu H H'->N (f z) H')->te (some (.int z) :: σf) H N) (hd:∀ H,Qu H1 H->H D=some (.lst (ns.map f))->Q (.ref D) H):Rp (Itl K a) D (Jl 0) Qqj te (none :: σf) (upd H1 D (.lst [])) Q:=by
 refine Xe (λi y _ => ∃ z,ns[i]? = some z/\y=f z) hS (by simpa using hz) hD1 (λ_ _ _ _ _ h=>h) ?_ ?_
 ·rintro i x H ys N hx s d hN;obtain ⟨z,h1,rfl⟩:=int_at hx;exact hs z (T8 h1) H N s λH' s'=>hN _ _ s' ⟨z,h1,rfl⟩
 ·rintro ys H s d l r;have e:ys=ns.map f:=by
   refine ext_getElem? λi=>?_;rw [getElem?_map];cases q:ys[i]? with
   | none =>
    have:ns.length<=i:=by have:=A1h.mp q;simp at l;lia
    rw [List.getElem?_eq_none_iff.mpr this];rfl
   | some y =>obtain ⟨z,h1,h2⟩:=r i y q;rw [h1,h2];rfl
  rw [e] at d;exact hd H s d
theorem Xx (f:Nat->V) (hz:n < sizeLine) (hD1:H1 D=none)
  (hs:∀ (i:Nat),i < n->∀ H (N:VK),Qu H1 H->(∀ H',Qu H H'->N (f i) H')->te (some (.int (0 + (i:Int))) :: σf) H N) (hd:∀ H,Qu H1 H->H D=some (.lst ((range n).map f))->Q (.ref D) H):Rp (Itr 0 n) D (Jl 0) Qqj te (none :: σf) (upd H1 D (.lst [])) Q:=by
 refine Yv (λi y _=>y=f i) hz hD1 (λ_ _ _ _ _ h=>h) ?_ ?_
 ·rintro i H ys N hi s d hN;exact hs i hi H N s λH' s'=>hN _ _ s' rfl
 ·rintro ys H s d l r;have e:ys=(range n).map f:=by
   refine ext_getElem? λi=>?_;rw [getElem?_map];cases q:ys[i]? with
   | none =>have:=A1h.mp q;rw [List.getElem?_eq_none_iff.mpr (by simp; lia)];rfl
   | some y =>have hi:=(N8.mp q).1;rw [r i y q,getElem?_range (by lia)];rfl
  rw [e] at d;exact hd H s d
def Rf (ak:K6) (n:Nat) (row:K6):Bool:=decide (row.length=n) && row.all (λr=>decide (0<=r/\r < (ak.length:Int))) && (range ak.length).all (λr=>decide (((row.count (r:Int):Nat):Int)<=ak.getD r 0))
def Qbv (K:N5) (C:G5):Sp:=λvs H Q _ => ∃ (p a:G5) (ak:K6) (aj:J7) (ao:Int) (row:K6),vs=[.ref p,.ref a]/\Zv C H p ak aj ao/\ak.length<=1000/\row.length<=1000/\SqL K H a (row.map V.int) /\
 ∀ H',Qu H H'->Q (.bl (Rf ak aj.length row)) H'
structure ExcAt (P:G8) (w:World) (outer:List Env) (H:Hp) (s:G4) (E:XK) (e:G3) (s':G4) (ea:G5) (cls a0:G3) (H':Hp) (B:Heap):Prop where
 is_:e=.ref ea
 wish:E cls none H'
 os:s'.os=s.os
 bare:AllBare s'.gens
 un:Un (frs outer) [] H H' s.heap s'.heap
 hokB:HOk P w H' B
 fly:Heap.FlyingW B outer ea cls a0 s'.heap
 old:∀ b o,s.heap.get? b=some o->b ∉ frs outer->∃ o',B.get? b=some o'
def CXR (P:G8) (w:World):CXT:=λouter H s E e s' => ∃ ea cls a0 H' B,ExcAt P w outer H s E e s' ea cls a0 H' B
section
variable {dz:G9}
def Inv.thrown {F:K5} {e:G5} {cls:G3} {args:K8} (I:Inv X dz σ H s) (hX:X.ex=[]) (hst:X.stack=X.env :: X.outer) (hf:X.env.frame=some X.env.locals)
  (m:Heap.MadeExcOf s.heap h1 e cls args) (q:E cls none H) :
  wpAny (model X.prog X.w) X.A (leaving X.env (.ref e)) (λ_ s''=>CXR X.prog X.w X.outer X.H₀ X.s₀ E (.ref e) s'') F { s with heap:=h1 }:=by
 have fr:=I.stack;have sub:∀ b o,X.s₀.heap.get? b=some o->b∈frs X.stack->b∈X.fs:=λb o h0 hb=>by
  rcases R3.mp (I.stkSub b hb) with z | z
  ·exact absurd (O5 h0) (by rw [z]; exact A0d.mpr I.ok.above)
  ·exact z
 have sup:∀ b,b∈X.fs->b∈frs X.stack:=λb hb=>by rw [hst];obtain ⟨en,h2,h3⟩:=Z3.mp hb;exact Z3.mpr ⟨en,.tail _ h2,h3⟩
 have nx:∀ b,b ∉ X.ex:=λb z=>by rw [hX] at z; cases z
 have hfr:X.A.frames=some (X.env :: X.outer):=by rw [<- hst]; exact I.ok.frames
 have frB:s.heap.FunFrames (PySem.W.hideAll s.heap (frs X.stack)) (X.env :: X.outer):=by rw [<- hst];exact PySem.W.funFrames_hide fr λen he a ha=>Z3.mpr ⟨en,he,ha⟩
 refine wpAny_leaves_madeW (base:=PySem.W.hideAll s.heap (frs X.stack)) (h:=s.heap) hfr hf (λb o z=>PySem.W.of_hideAll _ z) frB m λh2 t x1 x2 x3 x4=>?_;have st:∀ b o,s.heap.get? b=some o->b ∉ frs X.stack->h2.get? b=some o:=λb o z n=>x1.1 b o (A0x _ z n);have sl:∀ b o,s.heap.get? b=some o->b∈frs X.stack->∃ sl,h2.get? b=some { o with slots:=sl }:=λb o z hb=>by obtain ⟨_,o',ho',nf⟩:=fr.mem hb;rw [z] at ho';cases ho';exact x4 b o (m.keeps b o z) nf
 refine ⟨e,cls,.ref t,H,PySem.W.hideAll s.heap (frs X.stack),rfl,q,I.os,I.bare,⟨λb o e0 n hb _=>?_,λb o e0 n hb _=>?_,λb o e0 n _=>I.base.free b o e0 n (nx b),λb o e0 _=>?_,I.base.tups,I.base.dw,I.base.dm⟩,λa o ea=>?_,x1,λb o e0 hb=>?_⟩
 ·exact st b o (I.base.keep b o e0 n hb (nx b)) λz=>hb (sub b o e0 z)
 ·obtain ⟨sl1,e1⟩:=I.base.slot b o e0 n hb (nx b);obtain ⟨sl2,e2⟩:=sl b _ e1 (sup b hb);exact ⟨sl2,e2⟩
 ·obtain ⟨o',e1⟩:=I.base.there b o e0 (nx b)
  by_cases hb:b∈frs X.stack
  ·obtain ⟨sl2,e2⟩:=sl b _ e1 hb;exact ⟨_,e2⟩
  ·exact ⟨_,st b _ e1 hb⟩
 ·refine (I.hok a o ea).stay (λb u hc z=>A0x _ z λhb=>?_) (λ_ q=>q) λ_ _ q=>q;have nb:=I.stkFree b hb;rcases hc with hc | hc
  ·rw [hc,ea] at nb; cases nb
  ·rw [hc] at nb; cases nb
 ·obtain ⟨o',e1⟩:=I.base.there b o e0 (nx b);exact ⟨o',A0x _ e1 λz=>hb (sub b o e0 z)⟩
end
def Qd8:K8:=[.type "ValueError",.type "Exception",.type "BaseException",.type "object"]
def Qu0 {bmB:K8} {newId:String} (X:K.In h) (q:PySem.W.excIn K C bmB newId=true) :
  ∃ bm N nm q bs hdct sn sub ab col dd k0 k1 k2 k3 k5 mN,h.get? C=some (excClassObj nm q C N bs bm hdct sn sub ab col dd k0 k1 k2 k3 k5 newId)/\h.Ns N mN/\mN "__init__" = none/\OwnTail h bmB bm:=by
 unfold PySem.W.excIn at q
 split at q
 ·rename_i dd cd sl ho
  split at q
  ·rename_i C' bm k0 k1 k2 k3 n k5 hm hs
   simp only [Bool.and_eq_true,beq_iff_eq,Bool.not_eq_true'] at q;obtain ⟨⟨⟨⟨⟨rfl,rfl⟩,hdel⟩,ht⟩,hok⟩,hni⟩:=q;obtain ⟨nm,bs,mro,ns,qn,hd,sn,sub,ab,col,del⟩:=cd;dsimp only at hm hdel hok hni;subst hm hdel;have hsl:sl=#[k0,k1,k2,k3,some (.builtin n),k5]:=by obtain ⟨l⟩:=sl;simp only at hs;rw [hs]
   subst hsl;exact ⟨bm,ns,nm,qn,bs,hd,sn,sub,ab,col,dd,k0,k1,k2,k3,k5,_,X _ _ ho,.of_isNs (PySem.W.isNs_of_in X hok),PySem.W.nsMap_none_of_in X hok hni,PySem.W.tail_of_in X ht⟩
  ·cases q
 ·cases q
def Throws (X:Cx) (E:XK):Prop:=∀ (dz:G9) (σ:St) (H:Hp) (s:G4) (h':Heap) (e:G5) (cls:G3) (args:K8),Inv X dz σ H s->Heap.MadeExcOf s.heap h' e cls args->E cls none H->X.xe (.ref e) { s with heap:=h' }
def Im {base:Heap} {cd:G3} {A:G7} {outer:List Env} :
  Throws (Hs (CXR P w) P w K mg base N qual scope f cd A outer s H E) E:=λdz σ H1 s1 h' e cls args I m q=>I.thrown rfl rfl rfl m q
def Qi2 (C:G5) (E:XK) (t:TA):TS:=λ_ σ H=>t σ H λvs H1=>vs.length<=sizeLine/\E (.ref C) none H1
def Qp8 {np iw:Pos} {t:TA} (hxe:Throws X E) (hc:X.calm=true) (hg:Gl X x) (hm:X.mg x=some (.ref C)) (q:PySem.W.excIn X.K C Qd8 "ValueError.__new__" = true) (ha:PA X (e :: es) t)
  (hdb:(x == ("__debug__" : Str))=false:=by decide) (he:starEach (e :: es) X.env=(false,eval e X.env) :: starEach es X.env:=by rfl) (hpl:(backTo iw (starEach (e :: es) X.env)).any (·.1)=false:=by rfl) :
  PS X (.Raise (some (.Call (.Name x np) (e :: es) [] iw)) none pos) (Qi2 C E t):=by
 intro dz s σ H D I h;obtain ⟨bm,N,nm,qn,bs,hdct,sn,sub,ab,col,dd,k0,k1,k2,k3,k5,mN,hC,hN,hni,TL⟩:=Qu0 (h:=X.base) I.ok.mod.kin q;refine wpAny_Raise_call_subU (Bn:="ValueError") (C:=C) (nm:=nm) (q:=qn) (N:=N) (bs:=bs) (bm:=bm) (hdct:=hdct) (sn:=sn) (sub:=sub) (ab:=ab) (col:=col) (dd:=dd) (k0:=k0) (k1:=k1) (k2:=k2) (k3:=k3) (k5:=k5) (mN:=mN) PySem.F.excBase_ValueError (by decide) PySem.F.excBase_ValueError (TL.hasType (by decide)) (I.ok.hd hc) hpl hni (Ta I hg hm ⟨rfl,?_⟩ hdb);rw [he];refine Calls.evalArgs_plain ?_;have hh:=ha iw dz s σ H _ I h;rw [he] at hh;refine thn hh λus s2 ⟨vs,H2,I2,r,hl,w2⟩=>⟨rfl,by show us.length<=_; rw [<- r.length]; exact hl,I2.bk _ _ hC,hN.keeps I2.bk,TL.keeps I2.bk,λh' ea mm=>?_⟩
 exact hxe dz σ H2 s2 h' ea _ _ I2 mm w2
def PS.nox {t:TS} (h:PS X.nox st t):PS X st t:=λdz s σ H D I hw =>S9 (h dz s σ H D (I.wish _) hw) (λf s' q=>q.cu) λ_ _ q=>q.elim
def PA.nox {t:TA} (h:PA X.nox es t):PA X es t:=λpos dz s σ H Q I hw =>S9 (h pos dz s σ H Q (I.wish _) hw) (λf s' ⟨vs,H',J,r,q⟩=>⟨vs,H',J.cu,r,q⟩) λ_ _ q=>q.elim
structure Qnk (P:G8) (w:World) (K:N5) (mg:K4) (base:Heap) (k:Nat) (x:Str) (ps:M6) (sp:Sp):Prop where
 ex:∃ f fd,mg x=some (.ref f)/\PySem.W.keepIn K (.ref f)=true/\Tc K fd ps []/\Mn P w K mg base (CXR P w) k f fd ps sp
section
variable {base:Heap}
def Fun.okX (F:Fun K x qual st f fd) (S:Xn N ps (Qf st)) (len:∀ vs H Q E,sp vs H Q E->vs.length=ps.length)
  (iu:∀ (cdv:G3) (A:G7) (outer:List Env) (s:G4) (H:Hp) (vs:List V) (Q:VK) (E:XK),Jc k (A.deeper (envOfC qual (Qf st) s.heap.objs.size f cdv))->sp vs H Q E ->
   ∃ t,PSs (Hs (CXR P w) P w K mg base N qual (Qf st) f cdv A outer s H E) (Zl st) t/\t { nx:=λ_ H'=>Q .non H',rt:=Q } (start N vs) H):Mn P w K mg base (CXR P w) (k + 1) f fd ps sp:=by
 obtain ⟨oc,od,kV,doc,pm,an,cdv,ct,osl,rfl,lk,hcd⟩:=F.ex;exact Qdj lk hcd S len λA outer s H vs Q E hr hsp=>iu cdv A outer s H vs Q E hr hsp
def Src.mkX (S:Src K mg x qual st) (Sc:Xn N ps (Qf st)) (len:∀ vs H Q E,sp vs H Q E->vs.length=ps.length)
  (hb:∀ (kV doc pm:G3) (an:M8) (cdv ct:G3) (us:K8),us.length=ps.length->bindArgs (PySem.W.fnOf x qual (Yx st) (Zl st) (Qf st) .none kV doc pm an cdv ct) ⟨us,[]⟩=pure (ps.zip us))
  (iu:∀ (f:G5) (cdv:G3) (A:G7) (outer:List Env) (s:G4) (H:Hp) (vs:List V) (Q:VK) (E:XK),Jc k (A.deeper (envOfC qual (Qf st) s.heap.objs.size f cdv))->sp vs H Q E ->
   ∃ t,PSs (Hs (CXR P w) P w K mg base N qual (Qf st) f cdv A outer s H E) (Zl st) t/\t { nx:=λ_ H'=>Q .non H',rt:=Q } (start N vs) H):Qnk P w K mg base (k + 1) x ps sp:=by
 obtain ⟨f,fd,F,hm⟩:=S.ex;exact ⟨f,fd,hm,F.kp,F.binds hb,F.okX Sc len (iu f)⟩
end
open PySem.W PySem.Calls Builtin Builtin.ObjectAttr Builtin.Getset_descriptor
structure Zj5 (K:Frag) (D:G5):Prop where
 ga:findIn K (.ref D) "__getattribute__" = some (some (.builtin "BaseException.__getattribute__"))
 gt:findIn K (.ref D) "__getattr__" = some none
 cl:findIn K (.ref D) "__class__" = some (some (.builtin "object.__class__"))
 sg:specialIn K (.builtin "object.__class__") "__get__" = some (some (.builtin "getset_descriptor.__get__"))
 tk:takesIn K (.builtin "object.__class__")=some true
 be:mroIn K D (.type "BaseException")=some true
 ob:mroIn K D (.type "object")=some true
 at_:∃ cd,clsIn K D=some cd
section
variable {prog:G8} {A:G7} {E:K5} {K:Frag} {x:G5} {o:Obj}
def Qfk {M:Model} (hx:h.get? x=some o) (hc:o.cls=.ref D):Looks M h (typeOf (.ref x)) (.ref D):=hc ▸ (Looks.ld hx).andThen .now
def Qsj (x D:G5) (h:Heap):Prop:=∃ o,h.get? x=some o/\o.cls=.ref D
end
def Qnj (ea C:G5):HO:=.ext (Qsj ea C)
def Qt4 {ea:G5} (x:Qsj ea C h):Jp P w H h ea (Qnj ea C):=by obtain ⟨o,ho,hc⟩:=x;exact ⟨⟨o,ho,hc⟩,⟨o,ho⟩,λh1 h2 ⟨o1,e1,c1⟩ k=>⟨o1,k o1 e1,c1⟩⟩
theorem Jp.got (x:Jp P w H h a o):∃ ob,h.get? a=some ob:=by
 cases o with
 | lst xs=>obtain ⟨_,_,_,_,e⟩:=x; exact ⟨_,e⟩
 | tup xs=>obtain ⟨_,_,_,ob,e,_⟩:=x; exact ⟨_,e⟩
 | dK kvs=>obtain ⟨_,_,_,_,o,_,_,e,_⟩:=x; exact ⟨_,e⟩
 | dT kvs=>obtain ⟨_,_,_,_,o,_,_,e,_⟩:=x; exact ⟨_,e⟩
 | set S n=>obtain ⟨o,_,_,_,e,_⟩:=x; exact ⟨_,e⟩
 | ins C dx fs=>obtain ⟨_,_,_,e,_⟩:=x; exact ⟨_,e⟩
 | own y=>obtain ⟨_,e⟩:=x; exact ⟨_,e⟩
 | xd fs=>obtain ⟨_,⟨_,_,_,e,_⟩,_⟩:=x; exact ⟨_,e⟩
 | rng lo hi=>obtain ⟨_,_,_,e⟩:=x; exact ⟨_,e⟩
 | frz ob u=>obtain ⟨e,_⟩:=x; exact ⟨_,e⟩
 | tbl ps=>exact ⟨_,(show h.get? a=some _ from x)⟩
 | met f y=>exact ⟨_,(show h.get? a=some _ from x)⟩
 | ext φ=>obtain ⟨_,⟨_,e⟩,_⟩:=x; exact ⟨_,e⟩
abbrev Cx.hot (X:Cx) (v:G3):Cx:={ X with A:=X.A.mark (some v),calm:=false,xe:=λ_ _=>False }
section
variable {dz:G9} {v:G3}
def Cx.Ok.hot (ok:X.Ok) (v:G3):(X.hot v).Ok :=⟨ok.mod,ok.kind,ok.glob,ok.blt,ok.above,ok.inj,ok.has,ok.cab,λq=>(nomatch q),ok.frames,ok.stk,ok.exf,ok.bs,ok.bsz,ok.noex,ok.exfs,ok.dj,ok.frf⟩
def Inv.hot (I:Inv X dz σ H s) (v:G3):Inv (X.hot v) dz σ H s:=⟨I.ok.hot v,I.os,I.bare,I.base,I.loc,I.cell,I.free,I.cg,I.pin,I.hok,I.len⟩
def Inv.cool (I:Inv (X.hot v) dz σ H s) (ok:X.Ok):Inv X dz σ H s:=⟨ok,I.os,I.bare,I.base,I.loc,I.cell,I.free,I.cg,I.pin,I.hok,I.len⟩
theorem Inv.caught {e:G3} {s':G4} {ea:G5} {a0:G3} {B h6:Heap} (I:Inv X dz σ H s) (x:ExcAt X.prog X.w X.stack H s E e s' ea (.ref C) a0 H' B)
  (m8:Heap.FlyingW B X.stack ea (.ref C) a0 h6) (sm:s'.heap.UpToSlots h6):New H' ea (Qnj ea C) (upd H' ea (Qnj ea C))/\Inv X dz σ (upd H' ea (Qnj ea C)) { s' with heap:=h6 }:=by
 have hea:H' ea=none:=by
  cases q:H' ea with
  | none=>rfl
  | some o =>obtain ⟨ob,z⟩:=(x.hokB ea o q).got;rw [x.fly.2.1] at z; cases z
 obtain ⟨oe,ws,T,oT,ts,t1,⟨t2,t3⟩,t4,t5⟩:=x.fly.2.2.2;have nofr:ea ∉ frs X.stack:=λhb=>by obtain ⟨_,o,ho,nf⟩:=x.fly.2.2.1.mem hb;rw [t1] at ho; cases ho;exact nf _ t4
 have new:∀ b o,s.heap.get? b=some o->b≠ea:=λb o q z=>by subst z;obtain ⟨o',z'⟩:=x.old b o q nofr;rw [x.fly.2.1] at z'; cases z'
 have nU:∀ b u,H' b=some u->b≠ea:=λb u q z=>by rw [z,hea] at q; cases q
 refine ⟨Jy hea,I.call' (ch:=[]) x.os ⟨λb o q n hb _=>?_,λb o q n hb _=>?_,λb o q n _=>?_,λb o q _=>?_,λb xs q=>?_,λb o u q=>?_,λb ps q=>?_⟩ (λb u q=>?_) x.bare λb z=>nomatch z⟩
 ·have e1:=x.un.keep b o q n hb (by simp);obtain ⟨o',z⟩:=x.old b o q hb;have e2:=x.fly.1 b o' z;rw [e1] at e2; cases e2;exact m8.1 b o z
 ·obtain ⟨sl,e1⟩:=x.un.slot b o q n hb (by simp);obtain ⟨_,o',ho',nf⟩:=x.fly.2.2.1.mem hb;obtain ⟨sl',e2⟩:=sm b o' ho' nf;rw [e1] at ho'; cases ho';exact ⟨sl',e2⟩
 ·rw [Qv (new b o q)];exact x.un.free b o q n (by simp)
 ·by_cases hb:b∈frs X.stack
  ·obtain ⟨_,o',ho',nf⟩:=x.fly.2.2.1.mem hb;obtain ⟨sl',e2⟩:=sm b o' ho' nf;exact ⟨_,e2⟩
  ·obtain ⟨o',z⟩:=x.old b o q hb;exact ⟨o',m8.1 b o' z⟩
 ·have z:=x.un.tups b xs q;rw [Qv (nU b _ z)]; exact z
 ·have z:=x.un.dw b o u q;rw [Qv (nU b _ z)]; exact z
 ·obtain ⟨more,z⟩:=x.un.dm b ps q;exact ⟨more,by rw [Qv (nU b _ z)]; exact z⟩
 ·by_cases hb:b=ea
  ·subst hb;rw [Qy] at q; cases q;obtain ⟨oe,ws,_,_,_,t1,⟨t2,_⟩,_⟩:=m8.2.2.2;exact Qt4 ⟨oe,t1,t2⟩
  ·rw [Qv hb] at q;exact (x.hokB b u q).stay (λc o' _ z=>m8.1 c o' z) (λc z=>by rw [Qv (nU c _ z)]; exact z) (λc xs z=>by rw [Qv (nU c _ z)]; exact z)
end
def Goes (X:Cx) (dz:G9) (σ:St) (E:XK) (F:K5):Prop:=∀ (H2:Hp) (s2:G4) (e:G3) (s':G4),Inv X dz σ H2 s2->CXR X.prog X.w X.stack H2 s2 E e s'->F e s'
def PEx (X:Cx) (e:Expr) (t:XK->TE):Prop:=∀ (dz:G9) (s:G4) (σ:St) (H:Hp) (Q:VK) (E:XK) (F:K5),Inv X dz σ H s->t E σ H Q->Goes X dz σ E F->wpAny (model X.prog X.w) X.A (eval e X.env) (EP X dz σ Q) F s
def PSx (X:Cx) (st:Stmt) (t:XK->TS):Prop:=∀ (dz:G9) (s:G4) (σ:St) (H:Hp) (D:Iw) (E:XK) (F:K5),Inv X dz σ H s->t E D σ H->Goes X dz σ E F->wpAny (model X.prog X.w) X.A (exec st X.env) (SP X dz D) F s
section
variable {m:Str} {p:Pos} {t:TA}
theorem Qcz {CX:CXT} {F:K5} {dz:G9} {us:K8} {vs:List V} (G:Mn X.prog X.w X.K X.mg X.base CX k f fd ps sp) (hr:Jc k X.A) (hb:Tc X.K fd ps [])
  (hx:∀ e s',CX X.stack H s E e s'->F e s') (I:Inv X dz σ H s) (r:Xq vs us) (h:sp vs H Q E):wpAny (model X.prog X.w) X.A (call (.ref f) us) (EP X dz σ Q) F s:=by
 have hl:us.length=ps.length:=by rw [<- r.length]; exact G.len _ _ _ _ h
 have hb':=hb s us I.kIn (by rw [append_nil]; exact hl);rw [append_nil] at hb';refine wpAny_call (Z4 (G.run X.A X.stack s H ⟨us,[]⟩ us vs Q E hr I.env0 hb' r h) λr s' hq=>?_);cases r with
 | error e=>exact hx e s' hq
 | ok fl =>
  cases fl with
  | ret u=>exact I.after hq
  | next=>exact False.elim hq
  | brk=>exact False.elim hq
  | cont=>exact False.elim hq
def Qxz (D:Qnk X.prog X.w X.K X.mg X.base k x ps sp) (hr:Jc k X.A) (hg:Gl X x) (ha:PA X.nox (e :: es) t) (hdb:(x == ("__debug__" : Str))=false:=by decide) (he:starEach (e :: es) X.env=(false,eval e X.env) :: starEach es X.env:=by rfl)
  (hpl:(backTo pos (starEach es X.env)).any (·.1)=false:=by rfl):PEx X (.Call (.Name x p) (e :: es) [] pos) (λE=>Qz4 sp [] E t):=by
 intro dz s σ H Q E F I h hx;obtain ⟨f,fd,hm,hk,hb,G⟩:=D.ex;refine V3 (Ta I hg hm ?_ hdb);refine A0y (h₀:=X.base) I.ok.mod.kin hk (S9 (ha pos dz s σ H _ (I.wish _) h) (λus s1 ⟨vs,H1,I1,r,q⟩=>⟨I1.cu.kIn,?_⟩) λ_ _ z=>z.elim) he hpl;simp only [append_nil] at q;exact Qcz G hr hb (λe s' z=>hx H1 s1 e s' I1.cu z) I1.cu r q
def Qxq {i:Nat} {te:XK->TE} {j5:Pos} (hN:X.N.Nodup) (hi:X.N[i]? = some x) (hx:Loc X.env.scope x) (he:PEx X e te) (hs:swapsWith e (some (.Name x j5)) pos.line X.env=pure false:=by rfl) (hf:X.fn x=true\/X.env.scope.names.lookup x=some .local:=by first | exact .inl rfl | exact .inr rfl | assumption) :
  PSx X (.Assign [.Name x j5] e pos) (λE=>Qn9 (te E) (Jl i)):=by
 intro dz s σ H D E F I h hg;refine wpAny_Assign_Name (thn (he dz s σ H _ E F I h hg) λv s1 ⟨y,H1,I1,r1,q1⟩=>?_) hs;exact Rr I1 hN hi hx r1 (λs2 I2=>⟨_,H1,I2,q1⟩) hf
end
structure Qsv (K:N5) (R D:G5):Prop where
 ex:PySem.W.excIn K D Qd8 "ValueError.__new__" = true
 ck:Zj5 K D
 cat:PySem.W.exmOne K (.ref D) (.ref R)=some true
 ve:PySem.W.kitOne K (.ref D) (.type "ValueError")=some true
def Qq2 {bm:K8} {n:String} (q:PySem.W.excIn K D bm n=true):∃ cd,PySem.W.clsIn K D=some cd:=by
 unfold PySem.W.excIn at q
 split at q
 ·rename_i dd cd sl ho
  exact ⟨cd,by unfold PySem.W.clsIn; rw [ho]⟩
 ·cases q
def Qh0 {R:G5} (ex:PySem.W.excIn K D Qd8 "ValueError.__new__" = true) (ga:PySem.W.findIn K (.ref D) "__getattribute__" = some (some (.builtin "BaseException.__getattribute__")))
  (gt:PySem.W.findIn K (.ref D) "__getattr__" = some none) (cl:PySem.W.findIn K (.ref D) "__class__" = some (some (.builtin "object.__class__")))
  (sg:PySem.W.specialIn K (.builtin "object.__class__") "__get__" = some (some (.builtin "getset_descriptor.__get__"))) (tk:PySem.W.takesIn K (.builtin "object.__class__")=some true)
  (be:PySem.W.mroIn K D (.type "BaseException")=some true) (ob:PySem.W.mroIn K D (.type "object")=some true) (cat:PySem.W.exmOne K (.ref D) (.ref R)=some true) (ve:PySem.W.kitOne K (.ref D) (.type "ValueError")=some true):Qsv K R D :=
 ⟨ex,⟨ga,gt,cl,sg,tk,be,ob,Qq2 ex⟩,cat,ve⟩
def Td (K:N5) (H:Hp) (v:V) (d:PyData):Prop:=∀ (X:Cx) (dz:G9) (σ:St) (s:G4) (u:G3),X.K=K->Inv X dz σ H s->Ys v u->∃ as,Reads s.heap u d as
def Sn:Td K H (.int i) (.int i):=λX dz σ s u _ _ r=>by obtain ⟨t,rfl⟩:=r;exact ⟨[],.int i t⟩
def Qij:Td K H .non .none:=λX dz σ s u _ _ r=>by obtain rfl:u=Value.none:=r;exact ⟨[],.none⟩
theorem Qzj {K:N5} {H:Hp} {X:Cx} {dz:G9} {σ:St} {s:G4} (e:X.K=K) (I:Inv X dz σ H s):∀ {xs:List V} {ds:List PyData} {us:K8},Paired (Td K H) xs ds->Xq xs us->∃ as,ReadsAll s.heap us ds as
 | _,_,_,.nil,.nil=>⟨[],.nil⟩
 | _,_,_,.cons a b,.cons r t=>by obtain ⟨as,h1⟩:=a X dz σ s _ e I r;obtain ⟨bs,h2⟩:=Qzj e I b t;exact ⟨as ++ bs,.cons h1 h2⟩
def Wz {ds:List PyData} (h:SqL K H a xs) (p:Paired (Td K H) xs ds):Td K H (.ref a) (.list ds):=λX dz σ s u e I r=>by obtain rfl:u=Value.ref a:=r;subst e;obtain ⟨its,rv,pl,_⟩:=I.list h;obtain ⟨as,ha⟩:=Qzj rfl I p rv;obtain ⟨o,h1,h2,n,h3⟩:=pl.isList;exact ⟨_,.list h1 h2 h3 (by simpa using ha)⟩
def Kn {ds:List PyData} (h:SqT K H a xs) (p:Paired (Td K H) xs ds):Td K H (.ref a) (.tuple ds):=λX dz σ s u e I r=>by obtain rfl:u=Value.ref a:=r;subst e;obtain ⟨its,rv,pl,_⟩:=I.tuple h;obtain ⟨as,ha⟩:=Qzj rfl I p rv;obtain ⟨o,h1,h2,n,h3⟩:=pl;exact ⟨_,.tuple h1 h2 h3 (by simpa using ha)⟩
def Zzq (K:N5) (neg:Bool):R2:=λx y H Q => ∃ d e,Td K H x d/\Td K H y e/\SeqAt.shaped d=true/\SeqAt.shaped e=true/\Q (.bl (if neg=true then !PyData.eqv d e else PyData.eqv d e)) H
section
def Qr1 (h:X.K=K) (hu:X.A.units + 64 < cLine):OpR X (compareOp .Eq) (Zzq K false):=by intro dz s σ H x y v u Q I rx ry q;obtain ⟨d,e,r1,r2,s1,s2,q⟩:=q;obtain ⟨as,h1⟩:=r1 X dz σ s v h I rx;obtain ⟨bs,h2⟩:=r2 X dz σ s u h I ry;exact eq_dataH h1 h2 s1 s2 hu ⟨.bl _,H,I,rfl,q⟩
def Nw (h:X.K=K) (hu:X.A.units + 64 < cLine):OpR X (compareOp .NotEq) (Zzq K true):=by intro dz s σ H x y v u Q I rx ry q;obtain ⟨d,e,r1,r2,s1,s2,q⟩:=q;obtain ⟨as,h1⟩:=r1 X dz σ s v h I rx;obtain ⟨bs,h2⟩:=r2 X dz σ s u h I ry;exact ne_dataH h1 h2 s1 s2 hu ⟨.bl _,H,I,rfl,q⟩
end
theorem Gi:∀ {ns:K6} {n:Int},n∈ns->Builtin.Int.intBits n<=PySem.W.WData.weightAll (ns.map PySem.W.WData.int)
 | [],_,h=>by cases h
 | m :: r,n,h=>by
  rw [map_cons,PySem.W.WData.weightAll,PySem.W.WData.weight];rcases R3.mp h with z | z
  ·subst z;show (if (n == 0)=true then 0 else n.natAbs.log2 + 1)<=_;lia
  ·have:=Gi z;lia
def Sd (h:PySem.W.WData.layableAll [PySem.W.WData.list (ns.map PySem.W.WData.int)]=true):∀ n∈ns,Builtin.Int.intBits n<=1048576:=λn hn=>by have h1:=A0c.mp h _ Q7;have h2:=Q6 (W6.mp h1).2;rw [PySem.W.WData.weight] at h2;exact R4 (Gi hn) h2
def Gz (H:Hp) (t:G5) (parts:Int) (rows:K6):Prop:=∃ r,H t=some (.tup [.int parts,.ref r])/\H r=some (.lst (rows.map V.int))
def Gz.same {t:G5} {parts:Int} {rows:K6} (h:Gz H t parts rows) (s:Qu H H'):Gz H' t parts rows:=by obtain ⟨r,h1,h2⟩:=h;exact ⟨r,s _ _ h1,s _ _ h2⟩
def Qdz (way rows:K6):K6:=way.map λr=>rows.getD r.toNat 0
def Wq (aj:J7) (way:K6) (parts:Int) (rows:K6):K6:=(range aj.length).map λi=>parts * (aj.getD i []).getD (way.getD i 0).toNat 0 - rows.getD (way.getD i 0).toNat 0
def Qc3 (K:N5):Sp:=λvs H Q _ => ∃ (v:V) (a t:G5) (parts:Int) (rows way:K6),vs=[v,.ref a,.ref t]/\Gz H t parts rows/\SqL K H a (way.map V.int)/\way.length<=1000/\(∀ r∈way,0<=r/\r < (rows.length:Int)) /\
 ∀ l H',New H l (.lst ((Qdz way rows).map V.int)) H'->Q (.ref l) H'
def Qvk (K:N5) (C:G5):Sp:=λvs H Q _ => ∃ (p a t:G5) (ak:K6) (aj:J7) (ao:Int) (parts:Int) (rows way:K6),vs=[.ref p,.ref a,.ref t]/\Zv C H p ak aj ao/\Gz H t parts rows/\SqL K H a (way.map V.int)/\way.length=aj.length/\aj.length<=1000 /\
 (-(10 ^ 200) < parts/\parts < 10 ^ 200)/\(∀ row∈aj,row.length=rows.length/\∀ x∈row,-(10 ^ 200) < x/\x < 10 ^ 200)/\(∀ r∈way,0<=r/\r < (rows.length:Int)) /\
 ∀ l H',New H l (.lst ((Wq aj way parts rows).map V.int)) H'->Q (.ref l) H'
def Ik (X:Cx) (qual:Str) (scope:Scope) (L f:G5) (cd:G3) (s0:G4) (H0:Hp) (Nc:M6):Cx where
 prog:=X.prog
 w:=X.w
 K:=X.K
 mg:=X.mg
 base:=X.base
 A:=X.A.in1.deeper (PySem.W.envX qual scope L f cd (Kw X.env.cells scope.names []))
 N:=Nc
 s₀:=s0
 H₀:=H0
 env:=PySem.W.envX qual scope L f cd (Kw X.env.cells scope.names [])
 outer:=X.stack
 stack:=PySem.W.envX qual scope L f cd (Kw X.env.cells scope.names []) :: X.stack
 ex:=[]
 fn:=λ_=>false
 calm:=true
 pn:=[]
 xe:=λ_ _=>False
section
variable {dz:G9}
theorem Qr9 {L:G5} {cd:G3} {u:G3} (I:Inv X dz σ H s) (hc:X.calm=true) (ok:Yu scope X.env.scope=true) (hix:Fg scope X.N (x :: Nc) (none :: ix)=true)
  (hx:scope.names.lookup x=some .local) (hL:L=s.heap.objs.size) (rv:Ys v u) (hns:h1.Ns L (λy=>([(x,u)]:List (Str × G3)).reverse.lookup y)) (hk:∀ b o,s.heap.get? b=some o->h1.get? b=some o) :
  Inv (Ik X qual scope L f cd s H (x :: Nc)) [] (some v :: cSt σ ix) H { s with heap:=h1,toks:=tk }:=by
 refine ⟨⟨I.ok.mod,(Yt (X:=X) (scope:=scope) ok),rfl,rfl,Nat.le_of_eq hL.symm,λy z c e1 e2=>I.ok.inj y z c (Ji I ok e1) (Ji I ok e2),λy hy=>?_,(λ_ _ z=>nomatch z),λ_=>I.ok.hd hc,Around.frames_deeper (A:=X.A.in1) I.ok.frames,.inr ⟨rfl,rfl⟩,(λb hb=>by cases hb),I.bs,R4 I.ok.bsz I.sz,(λb o e hb=>by cases hb),(λb hb=>by cases hb),I.stack,I.stkFree⟩,
  rfl,I.bare,Un.kept hk,⟨_,hns,λi y v' e1 e2 e3=>?_⟩,λy c e=>?_,?_,λy c e=>I.cg y c (Ji I ok e),(λp hp=>by cases hp),I.hok.kept hk,?_⟩
 ·have g8:(y,NameKind.free)∈scope.names:=by
   rcases hy with hy | hy
   ·exact absurd rfl (Jo ok _ (mem_of_lookup (show scope.names.lookup y=some .cell from hy)))
   ·exact mem_of_lookup (show scope.names.lookup y=some .free from hy)
  exact A0l.mp (Wf (cells:=X.env.cells) scope.names [] (x:=y) (.inl g8))
 ·cases i with
  | zero =>
   have e1':x=y:=by simpa [Ik] using e1
   have e2':v=v':=by simpa using e2
   subst e1' e2';exact ⟨u,rv,.inl ⟨hx,by simp⟩⟩
  | succ i =>
   have hix':Fg scope X.N Nc ix=true:=hix;have e1':Nc[i]? = some y:=by simpa [Ik] using e1
   have e2':(cSt σ ix)[i]? = some (some v'):=by simpa using e2
   obtain ⟨j,n1,n2,n3⟩:=Ng hix' e1' e2';have g8:(y,NameKind.free)∈scope.names:=mem_of_lookup n3;have jf:=Ru ok (y,.free) g8 rfl;obtain ⟨mX,_,hl⟩:=I.loc;have hvis:Vis X.env.scope y:=.inr jf;obtain ⟨u',r,l⟩:=hl j y v' n1 n2 hvis;refine ⟨u',r,?_⟩;rcases l with ⟨k1,_⟩ | ⟨_,c,e,z⟩
   ·rcases jf with q | q
    ·rw [q] at k1; cases k1
    ·rw [q] at k1; cases k1
   ·refine .inr ⟨.inr n3,c,?_,?_⟩
    ·obtain ⟨c',hc'⟩:=A0l.mp (Wf (cells:=X.env.cells) scope.names [] (x:=y) (.inl g8));have:=Ji I ok hc';rw [e] at this;cases this;exact hc'
    ·obtain ⟨o,ho,hd⟩:=z;exact ⟨o,hk c o ho,hd⟩
 ·obtain ⟨v',o,ho,hd⟩:=I.cell y c (Ji I ok e);exact ⟨v',o,hk c o ho,hd⟩
 ·show H L=none;rw [hL];exact I.hok.fresh (O7 _)
 ·have hix':Fg scope X.N Nc ix=true:=hix;show (cSt σ ix).length + 1=Nc.length + 1;rw [Nu,Kd hix']
def As {name:Str} {params:Arguments} {body:Expr} {ctv:G3} {c':G5} {u:G3} (I:Inv X dz σ H s) (hc:X.calm=true) (ok:Yu scope X.env.scope=true)
  (hix:Fg scope X.N (x :: Nc) (none :: ix)=true) (hx:scope.names.lookup x=some .local) (hco:scope.isCoroutine=false) (nj:scope.isGenerator=false)
  (ho:s.heap.get? f=some (PySem.W.kla_obj name qual params body scope (Kw X.env.cells scope.names []) pm c' ctv)) (hcd:s.heap.CodeRec (.ref c') qual) (jh:X.A.depth < recursionLimit)
  (ji:∀ u:G3,bindArgs (PySem.W.kla_fn name qual params body scope (Kw X.env.cells scope.names []) pm (.ref c') ctv) ⟨[u],[]⟩=pure [(x,u)]) (rv:Ys v u)
  (he:∀ L f cd s0 H0,PE (Ik X qual scope L f cd s0 H0 (x :: Nc)) body te) (q:te (some v :: cSt σ ix) H Q):wpAny (model X.prog X.w) X.A.in1 (call (.ref f) [u]) (EP X dz σ Q) (λ_ _=>False) s:=by
 refine wpAny_call (PySem.W.kla_callFunE jh ho rfl hco nj rfl hcd ?_);rw [ji];refine N6 (wpAny_newFunctionEnv (Jo ok) (λy hy=>?_) (λh₁ hns hsb=>⟨I.nolimit.fresh _ hsb,?_⟩) (Yt (X:=X) ok))
 ·have:y=(x,u):=by simpa using hy
  rw [this];exact hx
 have hk₁:∀ b o,s.heap.get? b=some o->h₁.get? b=some o:=λb o e=>hsb.extBut b o (O9 (O5 e)) (O3 _ e);have J:=Qr9 (qual:=qual) (f:=f) (cd:=.ref c') (tk:=s.toks + 1) I hc ok hix hx rfl rv hns hk₁;refine PySem.W.kla_codeExpr (S9 (he _ _ _ _ _ [] _ _ _ _ J q) (λv' s' h'=>?_) λ_ _ z=>z.elim);obtain ⟨y,H',J',ry,q'⟩:=h';exact I.after ⟨y,H',J'.os,J'.bare,J'.base,J'.hok,ry,q'⟩
end
section
variable {dz:G9}
def Inv.turn1 {pl pl':G9} {it:G5} {o':Obj} {h':Heap} {t':Nat} (J:Inv X pl σ H s) (hf:Ku X [] H it) (kh:∀ p∈pl',p∈pl/\p.1≠it) (k:∀ b o,b≠it->s.heap.get? b=some o->h'.get? b=some o) (ho':h'.get? it=some o') (hnc:∀ v,o'.data≠.cell v) :
  Inv X (pl' ++ [(it,o')]) σ H { s with heap:=h',toks:=t' }:=by
 obtain ⟨f0,f1,f2,f3,f4,f5⟩:=hf;have J1:Inv X pl' σ H s:=J.dg λp hp=>J.pin p (Q9 _ (kh p hp).1);have J2:Inv X pl' σ H { s with heap:=h',toks:=t' }:=J1.turned k f0 f1 f3 f4 λp hp=>by
  rcases O6.mp hp with z | z
  ·exact f5 p (R8 _ z)
  ·exact (kh p z).2
 refine J2.dg λp hp=>?_;rcases O6.mp hp with z | z
 ·exact J2.pin p (Q9 _ z)
 ·have:p=(it,o'):=by simpa using z
  subst this;exact ⟨ho',f0,f1,f2,hnc⟩
def Inv.sub {pl pl':G9} (J:Inv X pl σ H s) (h:∀ p∈pl',p∈pl):Inv X pl' σ H s:=J.dg λp hp=>J.pin p (Q9 _ (h p hp))
def Hj (a v:G3):argsOk "max" ⟨[a],[(Str.ofString "key",v)]⟩:=by unfold argsOk; kernel_rfl
variable {l q it S:G5} {R:Result->G4->Prop}
theorem Qf3 (kf:Int->Int) (hc:X.calm=true) (hq:SqL X.K H l (ns.map V.int)) (fI:Ku X [] H it) (fS:Ku X [] H S) (hSI:S≠it) (hlI:l≠it) (nI:∀ p∈dz,p.1≠it) (nS:∀ p∈dz,p.1≠S)
  (turn:∀ z∈ns,∀ (t:Tok) (pl:G9) (s:G4),(∀ p∈dz,p∈pl)->Inv X pl σ H s->wpAny (model X.prog X.w) X.A.in1 (call (.ref q) [.int z t]) (EP X pl σ λy H'=>y=.int (kf z)/\H'=H) (λ_ _=>False) s)
  (hR:∀ z t s',z∈ns->(∀ z'∈ns,kf z'<=kf z)->Inv X dz σ H s'->R (.ok (.ret (.int z t))) s') :
  ∀ (r j:Nat) (s:G4) (zb:Int) (tb kt:Tok) (c:Nat) (oI:Obj),ns.length - (j + 1)=r->j + 1<=ns.length->Inv X (dz ++ [(S,seqObj "list" #[.int zb tb,.int (kf zb) kt] c),(it,oI)]) σ H s->s.heap.IsListIter it l (j + 1)->zb∈ns->(∀ i z,i<=j->ns[i]? = some z->kf z<=kf zb) ->
   codeAny (model X.prog X.w) X.A (.builtin "max.loop" ⟨[.ref it,.ref q,.ref S],[]⟩) R s:=by
 have jt:(toString "max" ++ toString ".loop" : String)="max.loop" := by decide
 intro r
 induction r with
 | zero =>
  intro j s zb tb kt c oI hr hj J hit hzb j4;have hin:j + 1=ns.length:=by lia
  obtain ⟨its,rv,pl,hz⟩:=J.list hq;have hl:its.length=ns.length:=by have:=rv.length; simpa using this.symm
  have W:=X3 (prog:=X.prog) (w:=X.w) (A:=X.A.in1) (J.ok.hd hc) it l hlI its.toArray;have pS:=J.pin (S,seqObj "list" #[.int zb tb,.int (kf zb) kt] c) (by simp);refine W2 A1i ?_;rw [Around.under_plainId PySem.F.plain_max_loop _];show wpAny _ X.A.in1 (seqItems? (.ref S) >>= _) _ _ _;refine M9 (A0p pS.1 rfl ?_);show wpAny _ X.A.in1 (tryCatch (pyNext (.ref it)) _ >>= _) _ _ _;refine M9 (A0e (W.done _ _ _ ⟨by rw [size_toArray,hl,<- hin]; exact hit,pl.isList⟩ λh' tk' hk'=>?_));have J1:Inv X (dz ++ [(S,seqObj "list" #[.int zb tb,.int (kf zb) kt] c)]) σ H { s with heap:=h',toks:=tk' }:=(J.sub (pl':=dz ++ [(S,seqObj "list" #[.int zb tb,.int (kf zb) kt] c)]) (λp hp=>by
   rcases O6.mp hp with z | z
   ·simp [z]
   ·have:p=(S,seqObj "list" #[.int zb tb,.int (kf zb) kt] c):=by simpa using z
    simp [this])).turned (λb o hb e=>hk' b o (by simpa using hb) e) fI.1 fI.2.1 fI.2.2.2.1 fI.2.2.2.2.1 λp hp=>by
   rcases O6.mp hp with z | z
   ·exact fI.2.2.2.2.2 p (R8 _ z)
   ·rcases O6.mp z with z | z
    ·exact nI p z
    ·have:p=(S,seqObj "list" #[.int zb tb,.int (kf zb) kt] c):=by simpa using z
     rw [this]; exact hSI
  have pS1:=J1.pin (S,seqObj "list" #[.int zb tb,.int (kf zb) kt] c) (by simp);show wpAny _ X.A.in1 (updateSeq S (λ_ => #[]) >>= _) _ _ _;refine M9 ?_;refine wpAny_updateSeq pS1.1 rfl (M9 (wpAny_letGo (N6 ?_)));have s1:=T9 h' S (Obj.mapSeq λ_=>(#[]:Array G3));refine hR zb tb _ hzb (λz' hz'=>?_) ((J1.sub λp hp=>R8 _ hp).turned (t':=tk') (λb o hb e=>(s1.2 b hb).trans e) fS.1 fS.2.1 fS.2.2.2.1 fS.2.2.2.2.1 λp hp=>?_)
  ·obtain ⟨i,hi,rfl⟩:=X4.mp hz';exact j4 i _ (by lia) (by simp [hi])
  ·rcases O6.mp hp with z | z
   ·exact fS.2.2.2.2.2 p (R8 _ z)
   ·exact nS p z
 | succ r ih =>
  intro j s zb tb kt c oI hr hj J hit hzb j4;have hlt:j + 1 < ns.length:=by lia
  obtain ⟨its,rv,pl,hz⟩:=J.list hq;have hl:its.length=ns.length:=by have:=rv.length; simpa using this.symm
  have W:=X3 (prog:=X.prog) (w:=X.w) (A:=X.A.in1) (J.ok.hd hc) it l hlI its.toArray;have pS:=J.pin (S,seqObj "list" #[.int zb tb,.int (kf zb) kt] c) (by simp);refine W2 A1i ?_;rw [Around.under_plainId PySem.F.plain_max_loop _];show wpAny _ X.A.in1 (seqItems? (.ref S) >>= _) _ _ _;refine M9 (A0p pS.1 rfl ?_);show wpAny _ X.A.in1 (tryCatch (pyNext (.ref it)) _ >>= _) _ _ _;refine M9 (A0e (W.item (j + 1) _ _ _ (by rw [size_toArray,hl]; exact hlt) ⟨hit,pl.isList⟩ λv h' tk' hP hst' hk'=>?_));have hv:its[j + 1]? = some v:=by simpa using hP
  obtain ⟨u,hu,t,hut⟩:=rv.get (i:=j + 1) (x:=.int ns[j + 1]) (by simp [hlt]);rw [hv] at hu;cases hu;subst hut;obtain ⟨oI',hoI',hoc,hod⟩:=id hst'.1;have J1:Inv X (dz ++ [(S,seqObj "list" #[.int zb tb,.int (kf zb) kt] c)] ++ [(it,oI')]) σ H { s with heap:=h',toks:=tk' }:=J.turn1 fI (λp hp=>by
   rcases O6.mp hp with z | z
   ·exact ⟨by simp [z],nI p z⟩
   ·have:p=(S,seqObj "list" #[.int zb tb,.int (kf zb) kt] c):=by simpa using z
    rw [this];exact ⟨by simp,hSI⟩) (λb o hb e=>hk' b o (by simpa using hb) e) hoI' (λw z=>by rw [hod] at z; cases z)
  have hzj:ns[j + 1]∈ns:=N7 hlt;show wpAny _ X.A.in1 (tryCatch (holding [Value.int ns[j + 1] t] (call (.ref q) [Value.int ns[j + 1] t])) _ >>= _) _ _ _;refine M9 (A0e (U5 (S9 (turn _ hzj t _ _ (λp hp=>by simp [hp]) J1) (λx s'' he=>?_) λ_ _ hF=>hF.elim)));obtain ⟨y,H',J2,ry,rfl,rfl⟩:=he;obtain ⟨t2,rfl⟩:=ry;have pS2:=J2.pin (S,seqObj "list" #[.int zb tb,.int (kf zb) kt] c) (by simp);have pI2:=J2.pin (it,oI') (by simp);have hit2:s''.heap.IsListIter it l (j + 1 + 1):=⟨oI',pI2.1,hoc,hod⟩
  show wpAny _ X.A.in1 (tryCatch (holding [Value.int ns[j + 1] t,.int (kf ns[j + 1]) t2] (richCompare .Gt (.int (kf ns[j + 1]) t2) (.int (kf zb) kt) >>= _)) _ >>= _) _ _ _;refine M9 (A0e (U5 (M9 (CmpOf.ints_gt (prog:=X.prog) (w:=X.w) (A:=X.A.in1) (P:=λi v => ∃ t,v=.int (if i=0 then kf ns[j + 1] else kf zb) t) (λi=>if i=0 then kf ns[j + 1] else kf zb) (λi v h=>h) 0 1 _ _ _ _ _ ⟨t2,rfl⟩ ⟨kt,rfl⟩ ?_))));refine M9 (U5 (W5 ?_));refine M9 (wpAny_letGo (N6 ?_));show wpAny _ X.A.in1 (if decide (kf ns[j + 1] > kf zb)=true then _ else _) _ _ _
  by_cases hb':kf ns[j + 1] > kf zb
  ·have s1:=T9 s''.heap S (Obj.mapSeq λ_ => #[.int ns[j + 1] t,.int (kf ns[j + 1]) t2]);obtain ⟨c2,hc2⟩:∃ c2,(s''.heap.update S (Obj.mapSeq λ_ => #[.int ns[j + 1] t,.int (kf ns[j + 1]) t2])).get? S=some (seqObj "list" #[.int ns[j + 1] t,.int (kf ns[j + 1]) t2] c2):=⟨_,Z7 pS2.1 λ_ => #[.int ns[j + 1] t,.int (kf ns[j + 1]) t2]⟩
   rw [decide_eq_true hb',if_pos rfl];refine M9 ?_;refine wpAny_updateSeq pS2.1 rfl (M9 (wpAny_letGo ?_));rw [jt];have J3:=J2.turn1 (t':=s''.toks) (pl':=dz ++ [(it,oI')]) fS (λp hp=>by
    rcases O6.mp hp with z | z
    ·exact ⟨by simp [z],nS p z⟩
    ·have:p=(it,oI'):=by simpa using z
     rw [this];exact ⟨by simp,hSI.symm⟩) (λb o hb e=>(s1.2 b hb).trans e) hc2 (λw z=>by cases z)
   refine N6 ⟨X5 A1a _,ih (j + 1) _ _ t t2 c2 oI' (by lia) hlt (J3.sub λp hp=>by simp only [mem_append,mem_cons,not_mem_nil,or_false] at hp ⊢;rcases hp with h | h | h <;> simp [h]) ⟨oI',(s1.2 it hSI.symm).trans pI2.1,hoc,hod⟩ hzj λi z hi hz=>?_⟩
   by_cases e:i=j + 1
   ·subst e;have:z=ns[j + 1]:=by simpa [hlt] using hz.symm
    rw [this];exact Q0 _
   ·have:=j4 i z (by lia) hz;lia
  ·rw [decide_eq_false hb',if_neg Bool.false_ne_true];refine M9 (wpAny_letGo ?_);rw [jt];refine N6 ⟨X5 A1a _,ih (j + 1) _ zb tb kt c oI' (by lia) hlt (J2.sub λp hp=>by simp only [mem_append,mem_cons,not_mem_nil,or_false] at hp ⊢;rcases hp with h | h | h <;> simp [h]) hit2 hzb λi z hi hz=>?_⟩
   by_cases e:i=j + 1
   ·subst e;have:z=ns[j + 1]:=by simpa [hlt] using hz.symm
    rw [this];lia
   ·exact j4 i z (by lia) hz
theorem Qr4 {Q:K5} {E:K5} (kf:Int->Int) (hc:X.calm=true) (J:Inv X dz σ H s) (hq:SqL X.K H l (ns.map V.int)) (hne:0 < ns.length)
  (turn:∀ z∈ns,∀ (t:Tok) (pl:G9) (s:G4),(∀ p∈dz,p∈pl)->Inv X pl σ H s->wpAny (model X.prog X.w) X.A.in1 (call (.ref q) [.int z t]) (EP X pl σ λy H'=>y=.int (kf z)/\H'=H) (λ_ _=>False) s)
  (hQ:∀ z t s',z∈ns->(∀ z'∈ns,kf z'<=kf z)->Inv X dz σ H s'->Q (.int z t) s') :
  wpAny (model X.prog X.w) X.A (call (.builtin "max") [.ref l] [(Str.ofString "key",.ref q)]) Q E s:=by
 have jt:(toString "max" ++ toString ".loop" : String)="max.loop" := by decide
 obtain ⟨its,rv,pl,hz⟩:=J.list hq;have hl:its.length=ns.length:=by have:=rv.length; simpa using this.symm
 have hll:l < s.heap.objs.size:=by obtain ⟨o,n,e,_⟩:=pl;exact O5 e
 refine kmk_tree PySem.F.kind_max PySem.F.plain_max PySem.F.entry_max (Hj _ _) ?_;show wpAny _ X.A.in1 (Builtin.Builtins.bindParams "max" ["key","default"] 0 ⟨[],[(Str.ofString "key",.ref q)]⟩ >>= _) _ _ s;refine M9 (W7 (show Builtin.Builtins.bindParams "max" ["key","default"] 0 ⟨[],[(Str.ofString "key",.ref q)]⟩=pure [some (.ref q),none] from rfl) ?_);refine M9 (N6 ?_);refine M9 (X6 pl.isList ?_);refine M9 (A0o ?_ (T3 _));rw [jt];have hS:(s.heap.push { cls:=.type "list_iterator",data:=.fields #[.ref l,.int 0 0] }).objs.size=s.heap.objs.size + 1:=size_push' ..;have hlI:l≠s.heap.objs.size:=O9 hll;have gI:((s.heap.push { cls:=.type "list_iterator",data:=.fields #[.ref l,.int 0 0] }).push (seqObj "list" #[] 0)).get? s.heap.objs.size=some { cls:=.type "list_iterator",data:=.fields #[.ref l,.int 0 0] } :=O3 _ (Q5 _ rfl)
 have gS:((s.heap.push { cls:=.type "list_iterator",data:=.fields #[.ref l,.int 0 0] }).push (seqObj "list" #[] 0)).get? (s.heap.push { cls:=.type "list_iterator",data:=.fields #[.ref l,.int 0 0] }).objs.size=some (seqObj "list" #[] 0):=Q5 _ rfl;have J0:Inv X dz σ H { s with heap:=(s.heap.push { cls:=.type "list_iterator",data:=.fields #[.ref l,.int 0 0] }).push (seqObj "list" #[] 0),toks:=s.toks }:=J.kept λb o e=>O3 _ (O3 _ e);have hk0:∀ b o,s.heap.get? b=some o->((s.heap.push { cls:=.type "list_iterator",data:=.fields #[.ref l,.int 0 0] }).push (seqObj "list" #[] 0)).get? b=some o:=λb o e=>O3 _ (O3 _ e);have fI:=J.fpOk (H':=H) (b:=s.heap.objs.size) (O7 _) J.fresh;have fS:=J.fpOk (H':=H) (b:=s.heap.objs.size + 1) (Z5 _) (J.hok.fresh (Z5 _));rw [hS] at gS ⊢;have fI':Ku X [] H s.heap.objs.size:=⟨fI.1,fI.2.1,fI.2.2.1,fI.2.2.2.1,fI.2.2.2.2.1,λp hp=>fI.2.2.2.2.2 p (by rcases O6.mp hp with z | z <;> first | exact R8 _ z | cases z)⟩
 have fS':Ku X [] H (s.heap.objs.size + 1):=⟨fS.1,fS.2.1,fS.2.2.1,fS.2.2.2.1,fS.2.2.2.2.1,λp hp=>fS.2.2.2.2.2 p (by rcases O6.mp hp with z | z <;> first | exact R8 _ z | cases z)⟩
 have nI:∀ p∈dz,p.1≠s.heap.objs.size:=λp hp=>fI.2.2.2.2.2 p (Q9 _ hp);have nS:∀ p∈dz,p.1≠s.heap.objs.size + 1:=λp hp=>fS.2.2.2.2.2 p (Q9 _ hp);have hSI:s.heap.objs.size + 1≠s.heap.objs.size:=Nat.succ_ne_self _;generalize (s.heap.push { cls:=.type "list_iterator",data:=.fields #[.ref l,.int 0 0] }).push (seqObj "list" #[] 0)=h0 at *;generalize s.heap.objs.size=it at *;generalize it + 1=S at *;refine N6 ⟨X5 A1a _,?_⟩;have pl0:h0.IsList l its.toArray:=pl.isList.at λo e=>hk0 _ _ e;have W:=X3 (prog:=X.prog) (w:=X.w) (A:=X.A.in1) (J.ok.hd hc) it l hlI its.toArray;refine W2 A1i ?_;rw [Around.under_plainId PySem.F.plain_max_loop _];show wpAny _ X.A.in1 (seqItems? (.ref _) >>= _) _ _ _;refine M9 (A0p gS rfl ?_);show wpAny _ X.A.in1 (tryCatch (pyNext (.ref it)) _ >>= _) _ _ _;refine M9 (A0e (W.item 0 _ _ _ (by rw [size_toArray,hl]; exact hne) ⟨⟨_,gI,rfl,rfl⟩,pl0⟩ λv h' tk' hP hst' hk'=>?_));have hv:its[0]? = some v:=by simpa using hP
 obtain ⟨u,hu,t,hut⟩:=rv.get (i:=0) (x:=.int ns[0]) (by simp [hne]);rw [hv] at hu;cases hu;subst hut;have hz0:ns[0]∈ns:=N7 hne;obtain ⟨oI',hoI',hoc,hod⟩:=id hst'.1;have J1:Inv X (dz ++ [(it,oI')]) σ H { s with heap:=h',toks:=tk' }:=J0.turn1 fI' (λp hp=>⟨hp,nI p hp⟩) (λb o hb e=>hk' b o (by simpa using hb) e) hoI' (λw z=>by rw [hod] at z; cases z);have J1':Inv X (dz ++ [(S,seqObj "list" #[] 0),(it,oI')]) σ H { s with heap:=h',toks:=tk' }:=J1.dg λp hp=>by
  simp only [mem_append,mem_cons,not_mem_nil,or_false] at hp;rcases hp with z | z | z
  ·exact J1.pin p (by simp [z])
  ·subst z;exact ⟨hk' _ _ (by simpa using hSI) gS,fS'.1,fS'.2.1,fS'.2.2.1,λv z=>by cases z⟩
  ·exact J1.pin p (by simp [z])
 show wpAny _ X.A.in1 (tryCatch (holding [Value.int ns[0] t] (call (.ref q) [Value.int ns[0] t])) _ >>= _) _ _ _;refine M9 (A0e (U5 (S9 (turn _ hz0 t _ _ (λp hp=>by simp [hp]) J1') (λx s'' he=>?_) λ_ _ hF=>hF.elim)));obtain ⟨y,H',J2,ry,rfl,rfl⟩:=he;obtain ⟨t2,rfl⟩:=ry;have pS2:=J2.pin (S,seqObj "list" #[] 0) (by simp);have pI2:=J2.pin (it,oI') (by simp);have s1:=T9 s''.heap S (Obj.mapSeq λ_ => #[.int ns[0] t,.int (kf ns[0]) t2]);obtain ⟨c2,hc2⟩:∃ c2,(s''.heap.update S (Obj.mapSeq λ_ => #[.int ns[0] t,.int (kf ns[0]) t2])).get? S=some (seqObj "list" #[.int ns[0] t,.int (kf ns[0]) t2] c2):=⟨_,Z7 pS2.1 λ_ => #[.int ns[0] t,.int (kf ns[0]) t2]⟩
 show wpAny _ X.A.in1 (updateSeq S (λ_ => #[.int ns[0] t,.int (kf ns[0]) t2]) >>= _) _ _ _;refine M9 ?_;refine wpAny_updateSeq pS2.1 rfl ?_;rw [jt];have J3:=J2.turn1 (t':=s''.toks) (pl':=dz ++ [(it,oI')]) fS' (λp hp=>by
  rcases O6.mp hp with z | z
  ·exact ⟨by simp [z],nS p z⟩
  ·have:p=(it,oI'):=by simpa using z
   rw [this];exact ⟨by simp,hSI.symm⟩) (λb o hb e=>(s1.2 b hb).trans e) hc2 (λw z=>by cases z)
 refine N6 ⟨X5 A1a _,Qf3 kf hc hq fI' fS' hSI hlI nI nS turn hQ _ 0 _ _ t t2 c2 oI' rfl hne (J3.sub λp hp=>by simp only [mem_append,mem_cons,not_mem_nil,or_false] at hp ⊢;rcases hp with h | h | h <;> simp [h]) ⟨oI',(s1.2 it hSI.symm).trans pI2.1,hoc,hod⟩ hz0 λi z hi hz=>?_⟩
 have:i=0:=by lia
 subst this;have:z=ns[0]:=by simpa [hne] using hz.symm
 rw [this];exact Q0 _
end
def Qs8:HO->Bool
 | .tbl _=>true
 | _=>false
structure Qc (H H':Hp):Prop where
 to:∀ b o,H b=some o->Qs8 o=false->H' b=some o
 th:∀ b,H' b=none->H b=none
def Qc.refl (H:Hp):Qc H H:=⟨λ_ _ h _=>h,λ_ h=>h⟩
def Qc.trans {H2:Hp} (a:Qc H H1) (b:Qc H1 H2):Qc H H2:=⟨λc o h z=>b.to c o (a.to c o h z) z,λc h=>a.th c (b.th c h)⟩
def Qu.b (a:Qu H H'):Qc H H':=⟨λc o h _=>a c o h,λc h=>a.free h⟩
def Qe (H:Hp) (P:G5) (pos:Pos) (qual:Str):Prop :=H P=some (.tbl #[])\/∃ c' oc vs t,H P=some (.tbl #[rawInt pos.line,rawInt pos.col,.ref c'])/\H c'=some (.frz oc (.own 0))/\oc.data=.fields vs/\vs[1]? = some (.str qual t)
def Qe.same {P:G5} (h:Qe H P pos qual) (s:Qu H H'):Qe H' P pos qual:=by
 rcases h with h | ⟨c',oc,vs,t,h1,h2,h3⟩
 ·exact .inl (s _ _ h)
 ·exact .inr ⟨c',oc,vs,t,s _ _ h1,s _ _ h2,h3⟩
section
variable {dz:G9} {P:G5} {params:Arguments} {body:Expr} {bh:Pos}
def Qc.seq (e:Qc H H') (h:SqL K H a xs):SqL K H' a xs:=by
 rcases h with (h | ⟨o,h⟩) | h
 ·exact .inl (.inl (e.to _ _ h rfl))
 ·exact .inl (.inr ⟨o,e.to _ _ h rfl⟩)
 ·exact .inr h
end
structure SrcL (K:N5) (mg:K4) (x qual:Str) (st:Stmt) (c P:G5):Prop where
 ex:∃ (f:G5) (oc:G3) (od:M8) (kV doc pm:G3) (an:M8) (ct:G3) (osl:Array M4),K.lookup f=some ⟨oc,od,.func (PySem.W.fnOf x qual (Yx st) (Zl st) (Qf st) .none kV doc pm an (.ref c) ct),osl⟩/\PySem.W.codeIn K (.ref c) qual=true/\PySem.W.keepIn K (.ref f)=true/\mg x=some (.ref f)
 hd:PySem.W.codeHdIn K c P=true
def Qc2 {P:G5} (X:K.In h) (G:h.Ns mainGlobals mg)
  (a:PySem.W.nsIn K mainGlobals x=some (some (.ref f))) (l:K.lookup f=some ⟨oc,od,.func (PySem.W.fnOf x qual (Yx st) (Zl st) (Qf st) .none kV doc pm an (.ref c) ct),osl⟩)
  (hc:PySem.W.codeIn K (.ref c) qual=true) (k:PySem.W.keepIn K (.ref f)=true) (hd:PySem.W.codeHdIn K c P=true):SrcL K mg x qual st c P:=⟨⟨f,oc,od,kV,doc,pm,an,ct,osl,l,hc,k,PySem.W.mg_of X G a⟩,hd⟩
section
variable {base:Heap}
def SrcL.mkL {PT:G5} (S:SrcL K mg x qual st c PT) (Sc:Xn N ps (Qf st)) (len:∀ vs H Q E,sp vs H Q E->vs.length=ps.length)
  (hb:∀ (kV doc pm:G3) (an:M8) (cdv ct:G3) (us:K8),us.length=ps.length->bindArgs (PySem.W.fnOf x qual (Yx st) (Zl st) (Qf st) .none kV doc pm an cdv ct) ⟨us,[]⟩=pure (ps.zip us))
  (iu:∀ (f:G5) (A:G7) (outer:List Env) (s:G4) (H:Hp) (vs:List V) (Q:VK) (E:XK),Jc k (A.deeper (envOfC qual (Qf st) s.heap.objs.size f (.ref c)))->sp vs H Q E ->
   ∃ t,PSs (Hs CX0 P w K mg base N qual (Qf st) f (.ref c) A outer s H E).nox (Zl st) t/\t { nx:=λ_ H'=>Q .non H',rt:=Q } (start N vs) H):Def P w K mg base (k + 1) x ps sp:=by
 obtain ⟨f,oc,od,kV,doc,pm,an,ct,osl,lk,hcd,kp,hm⟩:=S.ex;refine ⟨f,_,hm,kp,.all (hb kV doc pm an (.ref c) ct),Qdj lk hcd Sc len λA outer s H vs Q E hr hsp=>?_,oc,od,osl,lk⟩;obtain ⟨t,h,q⟩:=iu f A outer s H vs Q E hr hsp;exact ⟨t,h.nox,q⟩
def Qr8 {p:Str} {fa:G5} {ts:K9} (S:Src K mg x x st)
  (hb:∀ (kV doc pm:G3) (an:M8) (cdv ct:G3) (u:G3),bindArgs (PySem.W.fnOf x x (Yx st) (Zl st) (Qf st) .none kV doc pm an cdv ct) ⟨[u],[]⟩=pure [(p,u)])
  (h:∀ base:Heap,(∀ PT∈ts,base.BuiltinsAt mg PT)->Def P w K mg base k x [p] sp) (hfa:mg x=some (.ref fa)) :
  ∃ fd:FuncData,(∀ (s:G4) (u:G3),BindsTo s fd ⟨[u],[]⟩ [(p,u)])/\∀ base:Heap,K.In base->base.Ns mainGlobals mg->(∀ PT∈ts,base.BuiltinsAt mg PT)->Mn P w K mg base CX0 k fa fd [p] sp:=by
 obtain ⟨f,fd,F,hm⟩:=S.ex;rw [hm] at hfa;cases hfa;obtain ⟨oc,od,kV,doc,pm,an,cdv,ct,osl,e,lk,hcd⟩:=F.ex;refine ⟨fd,λs u=>by subst e; exact .of_eq (hb kV doc pm an cdv ct u),λbase _ _ hB=>?_⟩;obtain ⟨f',fd',hm',_,_,G,oc',od',osl',lk'⟩:=(h base hB).ex;rw [hm] at hm';cases hm';rw [lk] at lk';cases lk';exact G
end
theorem Qy3 {mb:K4} {fa:G5} {s₁:G4} {vs:K8} {ts:K9}
  (KX:K.In s₁.heap) (hns:s₁.heap.Ns mainGlobals mg) (hb:s₁.heap.Ns builtinsNs mb) (hbb:∀ x:Str,x≠"__name__"->mb x=bootBuiltins x) (hlim:s₁.heap.NoLimit) (hg:s₁.gens=#[])
  (ht:∀ PT∈ts,s₁.heap.get? PT=some (PySem.W.tabObj #[])) (hcd:∀ PT∈ts,∃ c,PySem.W.codeHdIn K c PT=true) (hnt:PySem.W.noTabs K=true) (hbm:∃ bm ob,mg "__builtins__" = some (.ref bm)/\bm≠builtinsNs/\s₁.heap.get? bm=some ob/\ob.cls=.type "module"/\ob.dict=some builtinsNs/\ob.data=.plain)
  (ha:s₁.heap.get? a=some { cls:=.type "list",data:=.seq vs.toArray }) (hi:IntsAre vs ns) (hl:ns.length<=sizeLine) (hr:Jc k callerA)
  (F:∀ base:Heap,K.In base->base.Ns mainGlobals mg->(∀ PT∈ts,base.BuiltinsAt mg PT)->Mn P w K mg base CX0 k fa fd [x] sp) (ji:∀ (s:G4) (u:G3),BindsTo s fd ⟨[u],[]⟩ [(x,u)])
  (hsp:∀ H:Hp,(∀ PT∈ts,H PT=some (.tbl #[]))->SqL K H a (ns.map V.int)->sp [.ref a] H (λv _=>v=.bl true) λ_ _ _=>False) :
  codeAny (model P w) callerA (.call (.ref fa) ⟨[.ref a],[]⟩) (λr s'=>r=.ok (.ret (.bool true))/\OldK s₁.heap s'.heap/\s'.os=s₁.os/\AllBare s'.gens) s₁:=by
 have rv:=Bw hi;have lenV:=hi.length;have naT:a ∉ ts:=λz=>by have:=ht a z;rw [ha] at this;cases this
 have nKT:∀ PT∈ts,K.lookup PT=none:=λPT hP=>by
  cases q:K.lookup PT with
  | none=>rfl
  | some o =>have e:=KX PT o q;rw [ht PT hP] at e;cases e;have h2:=A0c.mp hnt (PT,_) (PySem.W.mem_of_lookupK q);exact absurd (show false=true from h2) S8
 have core:∀ H:Hp,(∀ b,H b=none\/(b∈ts/\H b=some (.tbl #[]))\/∃ o xs,H b=some (.frz o (.lst xs)))->(∀ PT∈ts,H PT=some (.tbl #[]))->SqL K H a (ns.map V.int)->HOk P w H s₁.heap->(∀ b,H b≠none->b=a\/b∈ts)->(H a≠none->K.lookup a=none) ->
   codeAny (model P w) callerA (.call (.ref fa) ⟨[.ref a],[]⟩) (λr s'=>r=.ok (.ret (.bool true))/\OldK s₁.heap s'.heap/\s'.os=s₁.os/\AllBare s'.gens) s₁:=by
  intro H hO hTs hS hok hA hK;have base_of:∀ {b:G5} {o:Obj},s₁.heap.get? b=some o->H b=none->(Qg3 s₁.heap H).get? b=some o:=λe n=>Qfq e n;have noA:∀ {b:G5} {o:Obj},s₁.heap.get? b=some o->o≠{ cls:=.type "list",data:=.seq vs.toArray }->o≠PySem.W.tabObj #[]->H b=none:=λ{b o} e d1 d2=>by
   cases q:H b with
   | none=>rfl
   | some u =>
    rcases hA b (by rw [q]; simp) with z | z
    ·subst z;rw [ha] at e; cases e;exact absurd rfl d1
    ·rw [ht b z] at e; cases e;exact absurd rfl d2
  have nsK:∀ {b:G5} {m:K4},s₁.heap.Ns b m->(Qg3 s₁.heap H).Ns b m:=λ{b m} ⟨o,es,ep,e,d,r⟩=>⟨o,es,ep,base_of e (noA e (λz=>by rw [z] at d; cases d) λz=>by rw [z] at d; cases d),d,r⟩
  have hKb:K.In (Qg3 s₁.heap H):=λb o e=>base_of (KX b o e) (by
   cases q:H b with
   | none=>rfl
   | some u =>
    rcases hA b (by rw [q]; simp) with z | z
    ·subst z;rw [hK (by rw [q]; simp)] at e; cases e
    ·rw [nKT b z] at e; cases e)
  have hM:Mod K mg (Qg3 s₁.heap H):=⟨hKb,nsK hns,⟨mb,nsK hb,hbb⟩,let ⟨mc,h1,h2⟩:=hlim; ⟨mc,nsK h1,h2⟩⟩
  have hBA:∀ PT∈ts,(Qg3 s₁.heap H).BuiltinsAt mg PT:=λPT hP=>by
   obtain ⟨bm,ob,b1,b2,b3,b4,b5,b6⟩:=hbm;refine ⟨bm,ob,b1,b2,λz=>?_,λz=>?_,base_of b3 (noA b3 (λz=>by rw [z] at b6; cases b6) λz=>by rw [z] at b4; cases b4),b4,b5,b6⟩
   ·obtain ⟨o,es,ep,e,d,_⟩:=hns;rw [<- z,b3] at e;cases e;rw [b6] at d;cases d
   ·rw [z,ht PT hP] at b3;cases b3;cases b4
  have e0:Qd5 P w K mg (Qg3 s₁.heap H) callerA [] s₁ H:=⟨rfl,hM,λb o e=>Qr3 e,Nat.le_of_eq (Qy9 _ _),trivial,λb hb=>absurd (show b∈([]:K9) from hb) (by simp),hok,.of_eq hg⟩
  refine Z4 ((F _ hKb (nsK hns) hBA).run callerA [] s₁ H ⟨[.ref a],[]⟩ [.ref a] [.ref a] _ _ hr e0 (ji s₁ (.ref a)) (.cons rfl .nil) (hsp H hTs hS)) λr s' h=>?_;cases r with
  | error e=>exact h.elim
  | ok fl =>
   cases fl with
   | next=>exact False.elim h
   | brk=>exact False.elim h
   | cont=>exact False.elim h
   | ret u =>
    obtain ⟨v,H',os,bare,un,hok',r',q⟩:=h;have q':v=.bl true:=q;subst q';obtain rfl:u=Value.bool true:=r';refine ⟨rfl,⟨λb o e=>?_,λb o e=>?_⟩,os,bare⟩
    ·rcases hO b with z | ⟨zt,z⟩ | ⟨ob,xs,z⟩
     ·exact .inl (un.keep b o e z (by intro z; exact absurd (show b∈([]:K9) from z) (by simp)) (by simp))
     ·obtain ⟨more,z2⟩:=un.dm b _ z;have e2:=hok' b _ z2;rw [ht b zt] at e;cases e;obtain ⟨c,hc⟩:=hcd b zt;exact .inr (.inl ⟨((PySem.W.codeHd_of_K KX hc).tab (ht b zt)).isCodeTable,rfl,#[],more,rfl,e2⟩)
     ·have z2:=un.dw b ob _ z;obtain ⟨e1,_⟩:=hok b _ z;obtain ⟨e2,_⟩:=hok' b _ z2;rw [e] at e1; cases e1;exact .inl e2
    ·exact un.there b o e (by simp)
 cases hk:K.lookup a with
 | some o =>
  have e:=KX a o hk;rw [ha] at e;cases e;refine core (λb=>if b∈ts then some (.tbl #[]) else none) (λb=>?_) (λPT hP=>V7 hP) (.inr ⟨_,vs.toArray,_,hk,rfl,rfl,rfl,by rw [size_toArray,lenV]; exact hl,by simpa using rv⟩) (λb u z=>?_) (λb z=>?_) λz=>absurd (U6 naT) z
  ·by_cases hb':b∈ts
   ·exact .inr (.inl ⟨hb',V7 hb'⟩)
   ·exact .inl (U6 hb')
  ·by_cases hb':b∈ts
   ·have z':=(V7 hb').symm.trans z;cases z';exact ht b hb'
   ·have z':=(U6 hb').symm.trans z;cases z'
  ·by_cases hb':b∈ts
   ·exact .inr hb'
   ·exact absurd (U6 hb') z
 | none =>
  refine core (λb=>if b=a then some (.frz { cls:=.type "list",data:=.seq vs.toArray } (.lst (ns.map V.int))) else if b∈ts then some (.tbl #[]) else none) (λb=>?_) (λPT hP=>?_) (.inl (.inr ⟨{ cls:=.type "list",data:=.seq vs.toArray },V7 rfl⟩)) (λb u z=>?_) (λb z=>?_) λ_=>hk
  ·by_cases hb':b=a
   ·exact .inr (.inr ⟨_,_,V7 hb'⟩)
   ·by_cases hb2:b∈ts
    ·exact .inr (.inl ⟨hb2,by rw [if_neg hb',if_pos hb2]⟩)
    ·exact .inl (by rw [if_neg hb',if_neg hb2])
  ·have hne:PT≠a:=λz=>naT (by rw [<- z]; exact hP);rw [if_neg hne,if_pos hP]
  ·by_cases hb':b=a
   ·have z':=(V7 hb').symm.trans z;cases z';subst hb';exact ⟨ha,by rw [length_map]; exact hl,vs,_,rv,ha⟩
   ·by_cases hb2:b∈ts
    ·have z':=((U6 hb').trans (V7 hb2)).symm.trans z;cases z';exact ht b hb2
    ·have z':=((U6 hb').trans (U6 hb2)).symm.trans z;cases z'
  ·by_cases hb':b=a
   ·exact .inl hb'
   ·by_cases hb2:b∈ts
    ·exact .inr hb2
    ·exact absurd ((U6 hb').trans (U6 hb2)) z
def Qgj {l:PySem.W.OpenLaw} {q:G8} {loose:M6} {XP:K4->Heap->Prop} {YP:World->Heap->Prop} {d:DefRec} {K:Params->N5} {sp:World->Sp} {ts:K9}
  (hn:l.most=some n) (hn2:n<=sizeLine) (hdf:d.params.defaults=[]) (hr:Jc k callerA)
  (hY:∀ (w:World) (h:Heap),YP w h->(K w.params).In h/\∀ PT∈ts,h.get? PT=some (PySem.W.tabObj #[])) (hcd:∀ w:World,(ts.all λPT=>(K w.params).any λp=>PySem.W.codeHdIn (K w.params) p.1 PT)=true) (hnt:∀ w:World,PySem.W.noTabs (K w.params)=true)
  (F:∀ (w:World) (mg:K4) (fa:G5) (h:Heap),(K w.params).In h->h.Ns mainGlobals mg->mg d.name=some (.ref fa) ->
   ∃ fd:FuncData,(∀ (s:G4) (u:G3),BindsTo s fd ⟨[u],[]⟩ [(x,u)]) /\
    ∀ base:Heap,(K w.params).In base->base.Ns mainGlobals mg->(∀ PT∈ts,base.BuiltinsAt mg PT)->Mn l.prog w (K w.params) mg base CX0 k fa fd [x] (sp w))
  (hsp:∀ (w:World) (H:Hp) (a:G5) (ns:K6),ns.length<=n->(∀ z∈ns,Builtin.Int.intBits z<=1048576)->(∀ PT∈ts,H PT=some (.tbl #[]))->SqL (K w.params) H a (ns.map V.int)->sp w [.ref a] H (λv _=>v=.bl true) λ_ _ _=>False) :
  PySem.W.WalkO q loose XP YP l.row.toRowW d [] (λf vs=>PySem.call f vs):=by
 intro w s₀ s₁ mg mb G Y fa o pm cd doc dV kV ho hd hcd' hD hmg hg args vals as hpre hlay hrd hwl hlo;obtain rfl:dV=.none:=PySem.W.Dflts.none hD hdf;obtain rfl:kV=.none:=PySem.W.Dflts.noKw hD;obtain ⟨a,vs,ns,rfl,rfl,hobj,hints,fu⟩:=Att.script_of hn hpre hwl;have hbits:=Sd hlay;obtain ⟨KX,hts⟩:=hY w _ Y;obtain ⟨fd,hb,hF⟩:=F w mg fa _ KX G.T.g hmg;refine PySem.W.enter_call (Z4 (Qy3 (ts:=ts) KX G.T.g G.T.b G.T.builtins G.T.nolimit hg hts (λPT hP=>by obtain ⟨p,_,h⟩:=any_eq_true.mp (A0c.mp (hcd w) PT hP);exact ⟨_,h⟩) (hnt w) G.T.bmain hobj hints (R4 fu hn2) hr hF hb (λH hT hS=>hsp w H a ns fu hbits hT hS)) λr s' hq=>?_)
 obtain ⟨rfl,h2,h3,h4⟩:=hq;exact ⟨.inl ⟨.bool true,.bool true,[],rfl,λ_=>rfl,.bool true,Att.post_true l _,λ_=>⟨List.Pairwise.nil,λ_ hm=>(nomatch hm)⟩⟩,h2,h3,h4⟩
def Cq {base:Heap} {PT:G5} (x qual:Str) (st:Stmt) (_hB:∀ P∈[PT],base.BuiltinsAt mg P) (X:K.In h) (G:h.Ns mainGlobals mg)
  (a:PySem.W.nsIn K mainGlobals x=some (some (.ref f))) (l:K.lookup f=some ⟨oc,od,.func (PySem.W.fnOf x qual (Yx st) (Zl st) (Qf st) .none kV doc pm an (.ref c) ct),osl⟩)
  (hc:PySem.W.codeIn K (.ref c) qual=true) (k:PySem.W.keepIn K (.ref f)=true) (hd:PySem.W.codeHdIn K c PT=true):∃ c,SrcL K mg x qual st c PT:=⟨c,Qc2 X G a l hc k hd⟩
end L2
namespace BW
variable {r l p:Nat} {B:Nat->Nat} {g:Int} {c:List (Nat × Nat)}
def wsum (W:Nat->Nat->Int) (v:K7):Int:=((range v.length).map λi=>W i (v.getD i 0)).sum
def Fit (B:Nat->Nat) (v:K7):Prop:=∀ r,v.count r<=B r
def ind (a b:Nat):Nat:=if a=b then 1 else 0
def Ro (a:Nat):ind a a=1:=V7 rfl
def Si {a b:Nat} (h:a≠b):ind a b=0:=U6 h
def wsum_snoc (W:Nat->Nat->Int) (v:K7) (r:Nat):wsum W (v ++ [r])=wsum W v + W v.length r:=by
 unfold wsum;rw [length_append,length_singleton,range_succ,map_append,sum_append]
 congr 1
 ·congr 1
  refine R9 λi hi=>?_;have hi:=O1.mp hi;simp [getD,getElem?_append_left hi]
 ·simp [getD]
theorem Do {f g:Nat->Int} {j:Nat}:∀ {n:Nat},j < n->(∀ i,i≠j->f i=g i)->((range n).map f).sum=((range n).map g).sum - g j + f j
 | 0,h,_=>absurd h (A1b _)
 | n + 1,h,e=>by
  rw [range_succ,map_append,map_append,sum_append,sum_append]
  by_cases hj:j=n
  ·subst hj;have:(range j).map f=(range j).map g:=R9 λi hi=>e i (O9 (O1.mp hi));rw [this];simp
  ·have:=Do (f:=f) (g:=g) (n:=n) (by lia) e;rw [this];have e2:=e n (λz=>hj z.symm);simp [e2];lia
def Nf (W:Nat->Nat->Int) (v:K7) {j:Nat} (h:j < v.length):wsum W (v.set j r)=wsum W v - W j v[j] + W j r:=by
 unfold wsum;rw [length_set];have:=Do (f:=λi=>W i ((v.set j r).getD i 0)) (g:=λi=>W i (v.getD i 0)) h (λi hi=>by simp [getD,getElem?_set_ne (λz=>hi z.symm)])
 rw [this];simp [getD,h]
theorem Pp {v:K7} {j x:Nat} (h:j < v.length):(v.set j r).count x + ind x v[j]=v.count x + ind x r:=by
 rw [count_set h];unfold ind;have kj:v[j]=x->0 < v.count x:=λe=>W3.mpr (e ▸ N7 h)
 by_cases h1:v[j]=x <;> by_cases h2:r=x
 ·have:=kj h1;simp [h1,h2]; lia
 ·have:=kj h1;have h2':x≠r:=λz=>h2 z.symm;simp [h1,h2,h2']; lia
 ·have h1':x≠v[j]:=λz=>h1 z.symm;simp [h1,h2,h1']
 ·have h1':x≠v[j]:=λz=>h1 z.symm;have h2':x≠r:=λz=>h2 z.symm;simp [h1,h2,h1',h2']
theorem Ry:∀ {a b:K7} {r:Nat},a.length=b.length->(∀ p:Nat,a[p]? = some r->b[p]? = some r)->a.count r<=b.count r
 | [],_,_,_,_=>by simp
 | x :: a,[],r,h,_=>by simp at h
 | x :: a,y :: b,r,h,e=>by
  have ih:=Ry (a:=a) (b:=b) (r:=r) (by simpa using h) λp hp=>by have:=e (p + 1) (by simpa using hp);simpa using this
  rw [count_cons,count_cons];have e0:=e 0
  by_cases hx:x=r
  ·subst hx;have:y=x:=by simpa using e0 rfl
   subst this;lia
  ·simp [hx];lia
theorem Qu2 {l:K7} {p q:Nat->Bool}:∀ (_:∀ x∈l,q x=true->p x=true) (_:∃ x∈l,p x=true/\q x=false),l.countP q < l.countP p:=by
 induction l with
 | nil=>rintro _ ⟨x,hx,_⟩; cases hx
 | cons a l ih =>
  rintro h ⟨x,hx,h1,h2⟩;rw [countP_cons,countP_cons];have hm:l.countP q<=l.countP p:=countP_mono_left λy hy=>h y (Q8 _ hy);rcases R3.mp hx with z | z
  ·subst z;simp [h1,h2];lia
  ·have:=ih (λy hy=>h y (Q8 _ hy)) ⟨x,z,h1,h2⟩;have ha:=h a Q7
   by_cases hq:q a=true
   ·simp [hq,ha hq]; lia
   ·simp [hq]; split <;> lia
def core {W:Nat->Nat->Int} {way:K7} {g:Nat->Int} {G:Int} {R:Nat} (hB:∀ r,R<=r->B r=0) (fj:∀ v:K7,v.length=way.length->Fit B v->wsum W v<=wsum W way)
  (hfix:∀ p (hp:p < way.length) r,r < R->g way[p] + W p r - W p way[p]<=g r) (hG:∀ r,way.count r < B r->g r<=G) :
  ∀ (d:Nat) (v:K7) (r:Nat),v.length=way.length->(range way.length).countP (λi=>decide (v[i]?≠way[i]?))<=d->(∀ s,v.count s + ind s r<=B s)->wsum W v + g r<=wsum W way + G:=by
 intro d
 induction d with
 | zero =>
  intro v r hl hd hf
  by_cases ho:way.count r < B r
  ·have h1:=fj v hl λs=>by have:=hf s; lia
   have h2:=hG r ho;lia
  ·exfalso;have hr:=hf r;rw [Ro] at hr;have:way.count r<=v.count r:=Ry hl.symm λp hp=>by
    have h0:=Nat.le_zero.mp hd;have hpl:p < way.length:=(N8.mp hp).1;have:=countP_eq_zero.mp h0 p (O1.mpr hpl);have e:v[p]? = way[p]?:=by simpa using this
    rw [e]; exact hp
   lia
 | succ d ih =>
  intro v r hl hd hf
  by_cases ho:way.count r < B r
  ·have h1:=fj v hl λs=>by have:=hf s; lia
   have h2:=hG r ho;lia
  ·have hr:=hf r;rw [Ro] at hr;have hex:∃ p:Nat,way[p]? = some r/\v[p]?≠some r:=by
    refine R6 λhn=>?_;have:way.count r<=v.count r:=Ry hl.symm λp hp=>by refine R6 λz=>hn ⟨p,hp,z⟩
    lia
   obtain ⟨p,hp,hv⟩:=hex;obtain ⟨hpl,hpe⟩:=N8.mp hp;have hpv:p < v.length:=by lia
   have hv':v[p]≠r:=λz=>hv (by simp [hpv,z]);have hrB:r < R:=by refine R6 λz=>?_;have:=hB r (by lia);lia
   have hvR:v[p] < R:=by refine R6 λz=>?_;have h1:=hB v[p] (by lia);have h2:=hf v[p];have h3:0 < v.count v[p]:=W3.mpr (N7 hpv);lia
   have h1:=ih (v.set p r) v[p] (by simpa using hl) (by
    have:(range way.length).countP (λi=>decide ((v.set p r)[i]?≠way[i]?)) < (range way.length).countP (λi=>decide (v[i]?≠way[i]?)):=Qu2 (λx hx hq=>by
     have hq':(v.set p r)[x]?≠way[x]?:=Q6 hq;refine P0 λz=>hq' ?_
     by_cases hxp:x=p
     ·subst hxp;rw [getElem?_set_self hpv,hp]
     ·rw [getElem?_set_ne (λz=>hxp z.symm)];exact z) ⟨p,O1.mpr hpl,P0 (by rw [hp]; exact hv),T5 (by rw [getElem?_set_self hpv,hp]; simp)⟩
    lia) λs=>by have h2:=Pp (v:=v) (j:=p) (r:=r) (x:=s) hpv;have h3:=hf s;have h4:ind s v[p]=ind s v[p]:=rfl;lia
   have h2:=Nf W v (j:=p) (r:=r) hpv;have h3:=hfix p hpl v[p] hvR;rw [hpe] at h3;lia
inductive Seg (W:Nat->Nat->Int) (way:K7) (R:Nat) (s:Nat):List (Nat × Nat)->Nat->Int->Prop
 | nil:s < R->Seg W way R s [] s 0
 | snoc {c:List (Nat × Nat)} {l:Nat} {g:Int} {p r:Nat}:Seg W way R s c l g->way[p]? = some l->r < R->r ∉ s :: c.map (·.2)->Seg W way R s (c ++ [(p,r)]) r (g + W p r - W p l)
section
variable {W:Nat->Nat->Int} {way:K7} {R s:Nat}
def endOf (s:Nat) (c:List (Nat × Nat)):Nat:=(c.getLast?.map (·.2)).getD s
def Qm8 (W:Nat->Nat->Int) (way:K7) (c:List (Nat × Nat)):Int:=(c.map λm=>W m.1 m.2 - W m.1 (way.getD m.1 0)).sum
theorem Seg.end_ (h:Seg W way R s c l g):l=endOf s c/\g=Qm8 W way c:=by
 induction h with
 | nil _=>exact ⟨rfl,rfl⟩
 | snoc h hp _ _ ih =>refine ⟨by simp [endOf],?_⟩;rw [ih.2];simp [Qm8,getD,hp];lia
theorem Seg.mem (h:Seg W way R s c l g):l∈s :: c.map (·.2):=by
 cases h with
 | nil _=>simp
 | snoc h _ _ _=>simp
theorem Seg.lt (h:Seg W way R s c l g):∀ x∈s :: c.map (·.2),x < R:=by
 induction h with
 | nil h=>intro x hx; simp at hx; rw [hx]; exact h
 | snoc h _ hr _ ih =>
  intro x hx;rw [map_append] at hx;rcases O6.mp (show x∈(s :: _) ++ _ from hx) with z | z
  ·exact ih x z
  ·simp at z; rw [z]; exact hr
theorem Seg.nodup (h:Seg W way R s c l g):(s :: c.map (·.2)).Nodup:=by
 induction h with
 | nil _=>simp
 | @snoc c _ _ p r h _ _ hn ih =>
  rw [map_append];show ((s :: c.map (·.2)) ++ [r]).Nodup;refine nodup_append.mpr ⟨ih,by simp,λa ha b hb=>?_⟩;have:b=r:=by simpa using hb
  rw [this];exact λz=>hn (z ▸ ha)
theorem Seg.split (h:Seg W way R s c l g):∀ x∈s :: c.map (·.2),∃ c1 c2 g1 g2,c=c1 ++ c2/\Seg W way R s c1 x g1/\Seg W way R x c2 l g2/\g=g1 + g2:=by
 induction h with
 | nil h =>
  intro x hx;have:x=s:=by simpa using hx
  subst this;exact ⟨[],[],0,0,rfl,.nil h,.nil h,rfl⟩
 | @snoc c l g p r h hp hr hn ih =>
  intro x hx;rw [map_append] at hx;rcases O6.mp (show x∈(s :: c.map (·.2)) ++ [r] from hx) with z | z
  ·obtain ⟨c1,c2,g1,g2,rfl,a,b,e⟩:=ih x z;refine ⟨c1,c2 ++ [(p,r)],g1,g2 + W p r - W p l,by simp,a,.snoc b hp hr λq=>?_,by lia⟩;rcases R3.mp q with q | q
   ·exact hn (q ▸ z)
   ·exact hn (Q8 _ (by simp only [map_append]; exact Q9 _ q))
  ·have:x=r:=by simpa using z
   subst this;exact ⟨c ++ [(p,x)],[],_,0,by simp,.snoc h hp hr hn,.nil hr,by lia⟩
def app (v:K7) (c:List (Nat × Nat)):K7:=c.foldl (λv m=>v.set m.1 m.2) v
def Et (v:K7) (c:List (Nat × Nat)) (m:Nat × Nat):app v (c ++ [m])=(app v c).set m.1 m.2:=by simp [app]
theorem Seg.app {c:List (Nat × Nat)} {l:Nat} {g:Int} (h:Seg W way R s c l g) :
  (app way c).length=way.length/\wsum W (app way c)=wsum W way + g/\(∀ x,(app way c).count x + ind x s=way.count x + ind x l)/\∀ q r:Nat,way[q]? = some r->(r ∉ s :: c.map (·.2)\/r=l)->(BW.app way c)[q]? = some r:=by
 induction h with
 | nil _=>exact ⟨rfl,by simp [BW.app],λx=>rfl,λq r h _=>h⟩
 | @snoc c l g p r h hp hr hn ih =>
  obtain ⟨i1,i2,i3,i4⟩:=ih;obtain ⟨hpl,hpe⟩:=N8.mp hp;have hpa:p < (BW.app way c).length:=by lia
  have hv:=i4 p l hp (.inr rfl);have hv':(BW.app way c)[p]=l:=by rw [getElem?_eq_getElem hpa] at hv;exact R5 hv
  rw [Et];dsimp only;refine ⟨by simpa using i1,?_,λx=>?_,λq r' hq hc=>?_⟩
  ·rw [Nf W _ hpa,i2,hv'];lia
  ·have h1:=Pp (v:=BW.app way c) (j:=p) (r:=r) (x:=x) hpa;have h2:=i3 x;rw [hv'] at h1;lia
  ·have lq:r' ∉ s :: c.map (·.2):=by
    rcases hc with z | z
    ·intro w;refine z ?_;rw [map_append];exact R8 [r] w
    ·rw [z]; exact hn
   have hqp:q≠p:=λz=>by rw [z,hp] at hq;have:l=r':=R5 hq;exact lq (this ▸ h.mem)
   rw [getElem?_set_ne (λz=>hqp z.symm)];exact i4 q r' hq (.inl lq)
theorem Seg.persons (h:Seg W way R s c l g):∀ m∈c,m.1 < way.length/\m.2 < R:=by
 induction h with
 | nil _=>intro m hm; cases hm
 | @snoc c l g p r h hp hr _ ih =>
  intro m hm;rcases O6.mp hm with z | z
  ·exact ih m z
  ·have:m=(p,r):=by simpa using z
   rw [this];exact ⟨(N8.mp hp).1,hr⟩
theorem Seg.round (f9:Fit B way) (fj:∀ v:K7,v.length=way.length->Fit B v->wsum W v<=wsum W way) (h:Seg W way R s c l g) (hp:way[p]? = some l):g + W p s - W p l<=0:=by
 obtain ⟨i1,i2,i3,i4⟩:=h.app;obtain ⟨hpl,hpe⟩:=N8.mp hp;have hpa:p < (BW.app way c).length:=by lia
 have hv:=i4 p l hp (.inr rfl);have hv':(BW.app way c)[p]=l:=by rw [getElem?_eq_getElem hpa] at hv;exact R5 hv
 have h1:=fj ((BW.app way c).set p s) (by simpa using i1) λx=>by have h1:=Pp (v:=BW.app way c) (j:=p) (r:=s) (x:=x) hpa;have h2:=i3 x;have h3:=f9 x;rw [hv'] at h1;lia
 rw [Nf W _ hpa,i2,hv'] at h1;lia
end
theorem Km:∀ (R:Nat) (l:K7),l.Nodup->(∀ x∈l,x < R)->l.length<=R
 | 0,l,_,h=>by
  cases l with
  | nil=>simp
  | cons a r=>exact absurd (h a Q7) (A1b _)
 | R + 1,l,hn,h=>by
  have h1:=Km R (l.erase R) (hn.erase _) λx hx=>by have hx':=(hn.mem_erase_iff).mp hx;have:=h x hx'.2;have:=hx'.1;lia
  have h2:=length_erase (a:=R) (l:=l)
  split at h2 <;> lia
abbrev GM:=K6 × List (List (Nat × Nat))
variable {st:GM}
def Yk (W:Nat->Nat->Int) (p l:Nat) (st:GM) (r:Nat):GM :=if st.1.getD r 0 < st.1.getD l 0 + W p r - W p l then (st.1.set r (st.1.getD l 0 + W p r - W p l),st.2.set r (st.2.getD l [] ++ [(p,r)])) else st
def Xf (W:Nat->Nat->Int) (way:K7) (R:Nat) (st:GM) (p:Nat):GM:=(range R).foldl (Yk W p (way.getD p 0)) st
def turn (W:Nat->Nat->Int) (way:K7) (R:Nat) (st:GM):GM:=(range way.length).foldl (Xf W way R) st
def turns (W:Nat->Nat->Int) (way:K7) (R:Nat) (st:GM) (k:Nat):GM:=(range k).foldl (λst _=>turn W way R st) st
def first (W:Nat->Nat->Int) (way:K7) (R:Nat):GM:=((range R).map λr=>W way.length r,(range R).map λr => [(way.length,r)])
def To (W:Nat->Nat->Int) (way:K7) (R:Nat) (st:GM) (k:Nat):turns W way R st (k + 1)=turn W way R (turns W way R st k):=by unfold turns;rw [range_succ,foldl_append];rfl
section
variable {W:Nat->Nat->Int} {way:K7} {R:Nat}
structure Ok (W:Nat->Nat->Int) (way:K7) (R:Nat) (st:GM):Prop where
 l1:st.1.length=R
 l2:st.2.length=R
 at_:∀ r,r < R->∃ r0 c g,st.2.getD r []=(way.length,r0) :: c/\Seg W way R r0 c r g/\st.1.getD r 0=W way.length r0 + g/\∀ c1 c2 x g1,c=c1 ++ c2->Seg W way R r0 c1 x g1->W way.length r0 + g1<=st.1.getD x 0
def Eg:Ok W way R (first W way R):=by
 refine ⟨by simp [first],by simp [first],λr hr=>⟨r,[],0,?_,.nil hr,?_,λc1 c2 x g1 e h=>?_⟩⟩
 ·simp [first,getD,hr]
 ·simp [first,getD,hr]
 ·have e1:c1=[]:=(append_eq_nil_iff.mp e.symm).1;subst e1;obtain ⟨h1,h2⟩:=h.end_;have h1':x=r:=h1;have h2':g1=0:=h2;subst h1' h2';simp [first,getD,hr]
def Vp {α:Type} {l:List α} {i j:Nat} {x d:α}:(l.set i x).getD j d=if i=j/\j < l.length then x else l.getD j d:=by
 simp only [getD]
 by_cases h:i=j
 ·subst h
  by_cases hl:i < l.length
  ·simp [getElem?_set_self hl,hl]
  ·simp [hl]
 ·rw [getElem?_set_ne h];simp [h]
theorem Wc (x:Nat):st.1.getD x 0<=(Yk W p l st r).1.getD x 0:=by
 unfold Yk
 split
 ·rename_i h
  show _<=(st.1.set r _).getD x 0;rw [Vp]
  split
  ·rename_i hx
   rw [<- hx.1];lia
  ·exact Q0 _
 ·exact Q0 _
theorem Qp7 (hr:r < st.1.length):st.1.getD l 0 + W p r - W p l<=(Yk W p l st r).1.getD r 0:=by
 unfold Yk
 split
 ·show _<=(st.1.set r _).getD r 0;rw [Vp,if_pos ⟨rfl,hr⟩];exact Q0 _
 ·rename_i h
  lia
theorem Ak (f9:Fit B way) (fj:∀ v:K7,v.length=way.length->Fit B v->wsum W v<=wsum W way) (hp:way[p]? = some l) (hl:l < R) (hr:r < R) (ok:Ok W way R st):Ok W way R (Yk W p l st r):=by
 have mono:=λx=>Wc (W:=W) (p:=p) (l:=l) (r:=r) (st:=st) x;unfold Yk at mono ⊢
 split
 ·rename_i hlt
  rw [if_pos hlt] at mono;obtain ⟨r0,c,g,e1,hs,e2,hd⟩:=ok.at_ l hl;have lq:r ∉ r0 :: c.map (·.2):=λz=>by obtain ⟨c1,c2,g1,g2,ec,s1,s2,eg⟩:=hs.split r z;have h1:=hd c1 c2 r g1 ec s1;have h2:=s2.round f9 fj hp;rw [e2] at hlt;lia
  refine ⟨by simpa using ok.l1,by simpa using ok.l2,λx hx=>?_⟩
  by_cases hxr:r=x
  ·subst hxr;refine ⟨r0,c ++ [(p,r)],g + W p r - W p l,?_,hs.snoc hp hr lq,?_,λc1 c2 y g1 ec s1=>?_⟩
   ·show (st.2.set r _).getD r []=_;rw [Vp,if_pos ⟨rfl,by rw [ok.l2]; exact hr⟩,e1];rfl
   ·show (st.1.set r _).getD r 0=_;rw [Vp,if_pos ⟨rfl,by rw [ok.l1]; exact hr⟩,e2];lia
   ·rcases eq_nil_or_concat c2 with z | ⟨c2',m,z⟩
    ·subst z;rw [append_nil] at ec;subst ec;obtain ⟨a1,a2⟩:=s1.end_;obtain ⟨b1,b2⟩:=(hs.snoc hp hr lq).end_;have:y=r:=a1.trans b1.symm;subst this;show _<=(st.1.set y _).getD y 0;rw [Vp,if_pos ⟨rfl,by rw [ok.l1]; exact hr⟩,e2];have:g1=g + W p y - W p l:=a2.trans b2.symm;lia
    ·subst z;rw [concat_eq_append,<- append_assoc] at ec;have ec':=append_inj_left' ec rfl;have:=hd c1 c2' y g1 ec' s1;exact T7 this (mono y)
  ·obtain ⟨r0',c',g',f1,f2,f3,f4⟩:=ok.at_ x hx;refine ⟨r0',c',g',?_,f2,?_,λc1 c2 y g1 ec s1=>T7 (f4 c1 c2 y g1 ec s1) (mono y)⟩
   ·show (st.2.set r _).getD x []=_;rw [Vp,if_neg (λz=>hxr z.1)];exact f1
   ·show (st.1.set r _).getD x 0=_;rw [Vp,if_neg (λz=>hxr z.1)];exact f3
 ·exact ok
theorem Zf {α β:Type} {f:β->α->β} {I:β->Prop} {l:List α}:∀ {b:β},I b->(∀ b,∀ a∈l,I b->I (f b a))->I (l.foldl f b):=by
 induction l with
 | nil=>intro b h _; exact h
 | cons a l ih=>intro b h hs; exact ih (hs b a Q7 h) λb' a' ha=>hs b' a' (Q8 _ ha)
def Rx (x:Nat):st.1.getD x 0<=(Xf W way R st p).1.getD x 0 :=Zf (I:=λst':GM=>st.1.getD x 0<=st'.1.getD x 0) (Q0 _) λb a _ h=>T7 h (Wc x)
def Qv8 (x:Nat):st.1.getD x 0<=(turn W way R st).1.getD x 0 :=Zf (I:=λst':GM=>st.1.getD x 0<=st'.1.getD x 0) (Q0 _) λb a _ h=>T7 h (Rx x)
def Bp (h:st.1.length=R):(Yk W p l st r).1.length=R:=by
 unfold Yk
 split
 ·simpa using h
 ·exact h
def Dg (h:st.1.length=R):(Xf W way R st p).1.length=R:=Zf (I:=λst':GM=>st'.1.length=R) h λb a _ h=>Bp h
theorem Qk8 (hp:way[p]? = some l) (hl:st.1.length=R) (hr:r < R):st.1.getD l 0 + W p r - W p l<=(Xf W way R st p).1.getD r 0:=by
 have e:way.getD p 0=l:=by simp [getD,hp]
 unfold Xf;rw [e];obtain ⟨a,b,hab⟩:=append_of_mem (O1.mpr hr);rw [hab,foldl_append,foldl_cons];have h1:st.1.getD l 0<=(a.foldl (Yk W p l) st).1.getD l 0:=Zf (I:=λst':GM=>st.1.getD l 0<=st'.1.getD l 0) (Q0 _) λb a _ h=>T7 h (Wc l);have h2:(a.foldl (Yk W p l) st).1.length=R:=Zf (I:=λst':GM=>st'.1.length=R) hl λb a _ h=>Bp h;have h3:=Qp7 (W:=W) (p:=p) (l:=l) (r:=r) (st:=a.foldl (Yk W p l) st) (by rw [h2]; exact hr);have h4:(Yk W p l (a.foldl (Yk W p l) st) r).1.getD r 0<=(b.foldl (Yk W p l) (Yk W p l (a.foldl (Yk W p l) st) r)).1.getD r 0:=Zf (I:=λst':GM=>(Yk W p l (a.foldl (Yk W p l) st) r).1.getD r 0<=st'.1.getD r 0) (Q0 _) λb a _ h=>T7 h (Wc r);lia
theorem Qc0 (hp:way[p]? = some l) (hl:st.1.length=R) (hr:r < R):st.1.getD l 0 + W p r - W p l<=(turn W way R st).1.getD r 0:=by unfold turn;obtain ⟨a,b,hab⟩:=append_of_mem (O1.mpr (N8.mp hp).1);rw [hab,foldl_append,foldl_cons];have h1:st.1.getD l 0<=(a.foldl (Xf W way R) st).1.getD l 0:=Zf (I:=λst':GM=>st.1.getD l 0<=st'.1.getD l 0) (Q0 _) λb a _ h=>T7 h (Rx l);have h2:(a.foldl (Xf W way R) st).1.length=R:=Zf (I:=λst':GM=>st'.1.length=R) hl λb a _ h=>Dg h;have h3:=Qk8 (W:=W) (way:=way) (R:=R) (st:=a.foldl (Xf W way R) st) hp h2 hr;have h4:(Xf W way R (a.foldl (Xf W way R) st) p).1.getD r 0<=(b.foldl (Xf W way R) (Xf W way R (a.foldl (Xf W way R) st) p)).1.getD r 0:=Zf (I:=λst':GM=>(Xf W way R (a.foldl (Xf W way R) st) p).1.getD r 0<=st'.1.getD r 0) (Q0 _) λb a _ h=>T7 h (Rx r);lia
def Rl (f9:Fit B way) (fj:∀ v:K7,v.length=way.length->Fit B v->wsum W v<=wsum W way) (di:∀ r∈way,r < R) (k:Nat):Ok W way R (turns W way R (first W way R) k):=by
 refine Zf (I:=Ok W way R) Eg λst _ _ ok=>?_;refine Zf (I:=Ok W way R) ok λst p hp ok=>?_;have hpl:=O1.mp hp;have e:way[p]? = some (way.getD p 0):=by simp [getD,hpl]
 exact Zf (I:=Ok W way R) ok λst r hr ok=>Ak f9 fj e (di _ (T8 e)) (O1.mp hr) ok
inductive Reach (W:Nat->Nat->Int) (way:K7) (R:Nat):Nat->Nat->Int->Prop
 | base {r:Nat}:r < R->Reach W way R 0 r (W way.length r)
 | keep {k r:Nat} {x:Int}:Reach W way R k r x->Reach W way R (k + 1) r x
 | step {k l p r:Nat} {x:Int}:Reach W way R k l x->way[p]? = some l->r < R->Reach W way R (k + 1) r (x + W p r - W p l)
theorem Reach.more {k:Nat} {x:Int} (h:Reach W way R k r x):∀ {j:Nat},k<=j->Reach W way R j r x:=by
 intro j hj
 induction j with
 | zero =>
  have:k=0:=by lia
  subst this;exact h
 | succ j ih =>
  by_cases hk:k=j + 1
  ·subst hk; exact h
  ·exact .keep (ih (by lia))
theorem Seg.reach {r0:Nat} (h:Seg W way R r0 c l g):Reach W way R c.length l (W way.length r0 + g):=by
 induction h with
 | nil h =>have:=Reach.base (W:=W) (way:=way) h;simpa using this
 | @snoc c l g p r h hp hr _ ih =>
  have:=Reach.step ih hp hr;rw [length_append];have e:W way.length r0 + g + W p r - W p l=W way.length r0 + (g + W p r - W p l):=by lia
  rw [e] at this;exact this
theorem Nl {k:Nat} {x:Int} (h:Reach W way R k r x):x<=(turns W way R (first W way R) k).1.getD r 0:=by
 have fu:∀ k,(turns W way R (first W way R) k).1.length=R:=λk=>Zf (I:=λst':GM=>st'.1.length=R) (by simp [first]) λb a _ h=>Zf (I:=λst':GM=>st'.1.length=R) h λb a _ h=>Dg h
 induction h with
 | base hr=>simp [turns,first,getD,hr]
 | keep _ ih=>rw [To]; exact T7 ih (Qv8 _)
 | @step k l p r x _ hp hr ih =>rw [To];have:=Qc0 (W:=W) (way:=way) (R:=R) (st:=turns W way R (first W way R) k) hp (fu k) hr;lia
theorem Bk (f9:Fit B way) (fj:∀ v:K7,v.length=way.length->Fit B v->wsum W v<=wsum W way) (di:∀ r∈way,r < R) (hp:p < way.length) (hr:r < R) :
  (turns W way R (first W way R) R).1.getD way[p] 0 + W p r - W p way[p]<=(turns W way R (first W way R) R).1.getD r 0:=by
 have ok:=Rl (W:=W) (R:=R) f9 fj di R;have hl:way[p] < R:=di _ (N7 hp);obtain ⟨r0,c,g,_,hs,e2,_⟩:=ok.at_ _ hl;have h1:=Km R _ hs.nodup hs.lt;have h2:c.length + 1<=R:=by simpa using h1
 have h3:=hs.reach.more (j:=R - 1) (by lia);have h4:=Reach.step h3 (show way[p]? = some way[p] by simp [hp]) hr;have h5:=Nl h4;rw [show R - 1 + 1=R by lia] at h5;rw [e2];exact h5
theorem Qh7 {v:K7} {x:Nat}:∀ {c:List (Nat × Nat)},(∀ m∈c,m.1 < v.length)->app (v ++ [x]) c=app v c ++ [x]:=by
 intro c
 induction c generalizing v with
 | nil=>intro _; rfl
 | cons m c ih =>intro h;have hm:=h m Q7;show app ((v ++ [x]).set m.1 m.2) c=app (v.set m.1 m.2) c ++ [x];rw [set_append_left _ _ hm];exact ih λm' hm'=>by rw [length_set]; exact h m' (Q8 _ hm')
theorem Qt6 (hB:∀ r,R<=r->B r=0) (f9:Fit B way) (fj:∀ v:K7,v.length=way.length->Fit B v->wsum W v<=wsum W way) {e:Nat} (he:way.count e < B e)
  (j4:∀ r,way.count r < B r->(turns W way R (first W way R) R).1.getD r 0<=(turns W way R (first W way R) R).1.getD e 0) :
  ∀ b,b=app (way ++ [e]) ((turns W way R (first W way R) R).2.getD e [])->b.length=way.length + 1/\Fit B b/\∀ v:K7,v.length=way.length + 1->Fit B v->wsum W v<=wsum W b:=by
 have di:∀ r∈way,r < R:=λr hr=>by refine R6 λz=>?_;have h1:=hB r (by lia);have h2:=f9 r;have h3:=W3.mpr hr;lia
 have ok:=Rl (W:=W) (R:=R) f9 fj di R;have heR:e < R:=by refine R6 λz=>?_;have:=hB e (by lia);lia
 obtain ⟨r0,c,g,e1,hs,e2,_⟩:=ok.at_ e heR;rintro b rfl;rw [e1];have ea:app (way ++ [e]) ((way.length,r0) :: c)=app way c ++ [r0]:=by show app ((way ++ [e]).set way.length r0) c=_;rw [set_append_right _ _ (Nat.le_refl _)];simp only [Nat.sub_self,set_cons_zero];exact Qh7 λm hm=>(hs.persons m hm).1
 rw [ea];obtain ⟨i1,i2,i3,_⟩:=hs.app;refine ⟨by simp [i1],λx=>?_,λv hv hf=>?_⟩
 ·rw [count_append];have h1:=i3 x;have h2:=f9 x;have h3:count x [r0]=ind x r0:=by
   unfold ind
   by_cases h:x=r0
   ·subst h; simp
   ·have h':r0≠x:=λz=>h z.symm;simp [h,h']
  rw [h3]
  by_cases hx:x=e
  ·subst hx;rw [Ro] at h1;lia
  ·rw [Si hx] at h1;lia
 ·rw [wsum_snoc,i2,i1];rcases eq_nil_or_concat v with z | ⟨v',r,z⟩
  ·subst z; simp at hv
  ·subst z;rw [concat_eq_append] at hf ⊢;have hv':v'.length=way.length:=by simpa using hv
   rw [wsum_snoc,hv'];have hf':∀ s,v'.count s + ind s r<=B s:=λs=>by
    have:=hf s;rw [count_append] at this;have h3:count s [r]=ind s r:=by
     unfold ind
     by_cases h:s=r
     ·subst h; simp
     ·have h':r≠s:=λz=>h z.symm;simp [h,h']
    lia
   have hrR:r < R:=by refine R6 λz=>?_;have h1:=hB r (by lia);have h2:=hf' r;rw [Ro] at h2;lia
   have h1:=core (W:=W) (B:=B) (way:=way) (g:=λr=>(turns W way R (first W way R) R).1.getD r 0) (R:=R) hB fj (λp hp r hr=>Bk f9 fj di hp hr) j4 _ v' r hv' (O7 _) hf';have h2:W way.length r<=(turns W way R (first W way R) R).1.getD r 0:=Nl ((Reach.base hrR).more (T3 _));have h3:(turns W way R (first W way R) R).1.getD e 0=W way.length r0 + g:=e2;rw [h3] at h1;lia
end
end BW
namespace L2
open PySem PySem.Spec PyProof.Rows BW
variable {i r n slot ep c:Nat} {way:K7} {H H':Hp} {ms:List (List (Nat × Nat))} {ak:K6} {aj:J7} {K:N5} {X:Cx} {xs:Array Nat} {t:G6} {led:Bool} {es:Array (Int × G3)} {x first:G3} {Q:Option G3->G4->Prop} {pos:Pos} {e:Expr} {S it:G5} {ot:Obj}
theorem Jc.dep {k:Nat} {A:G7} (r:Jc k A):A.depth < recursionLimit:=by have:=r.dp; lia
def wI (way:K7):K6:=way.map λ(r:Nat)=>(r:Int)
def Xv (way:K7):((wI way).map V.int).length=way.length:=by simp [wI]
def Di (h:way[i]? = some r):((wI way).map V.int)[i]? = some (.int (r:Int)):=by simp [wI,h]
theorem Kg (way:K7) (r:Nat):(wI way).count (r:Int)=way.count r:=by
 induction way with
 | nil=>rfl
 | cons x l ih =>
  show count (r:Int) (((x:Nat):Int) :: wI l)=_;rw [count_cons,count_cons,ih]
  by_cases h:x=r
  ·subst h; simp
  ·have:¬ (((x:Nat):Int)=(r:Int)):=by lia
   simp [h,this]
def wF (aj:J7) (p r:Nat):Int:=(aj.getD p []).getD r 0
def bF (ak:K6) (r:Nat):Nat:=(ak.getD r 0).toNat
def Uc (H:Hp) (a:G5) (c:List (Nat × Nat)):Prop:=∃ ts:K9,H a=some (.lst (ts.map V.ref))/\ts.length=c.length/\∀ (j:Nat) t m,ts[j]? = some t->c[j]? = some m->H t=some (.tup [.int (m.1:Int),.int (m.2:Int)])
def Uc.keep {a:G5} {c:List (Nat × Nat)} (h:Uc H a c) (h1:∀ o,H a=some o->H' a=some o) (h2:∀ t xs,H t=some (.tup xs)->H' t=some (.tup xs)):Uc H' a c:=by obtain ⟨ts,e1,e2,e3⟩:=h;exact ⟨ts,h1 _ e1,e2,λj t m a b=>h2 _ _ (e3 j t m a b)⟩
theorem Uc.snoc {H:Hp} {a t:G5} {c:List (Nat × Nat)} {m:Nat × Nat} {ts:K9} (e1:H a=some (.lst (ts.map V.ref ++ [.ref t]))) (e2:ts.length=c.length) (e3:∀ (j:Nat) t m,ts[j]? = some t->c[j]? = some m->H t=some (.tup [.int (m.1:Int),.int (m.2:Int)])) (e4:H t=some (.tup [.int (m.1:Int),.int (m.2:Int)])):Uc H a (c ++ [m]):=by
 refine ⟨ts ++ [t],by rw [e1]; simp,by simp [e2],λj t' m' h1 h2=>?_⟩
 by_cases hj:j < ts.length
 ·rw [getElem?_append_left hj] at h1;rw [getElem?_append_left (by lia)] at h2;exact e3 j t' m' h1 h2
 ·have hj2:j=ts.length:=by have:=(N8.mp h1).1;simp at this;lia
  subst hj2;simp at h1;rw [e2] at h2;simp at h2;subst h1 h2;exact e4
structure Yj (H:Hp) (ga mv:G5) (gs:K6) (ms:List (List (Nat × Nat))):Prop where
 ne:ga≠mv
 g:H ga=some (.lst (gs.map V.int))
 ex:∃ ls:K9,H mv=some (.lst (ls.map V.ref))/\ls.length=ms.length/\(∀ a∈ls,a≠ga/\a≠mv)/\∀ (i:Nat) a c,ls[i]? = some a->ms[i]? = some c->Uc H a c
def Yj.same {ga mv:G5} {gs:K6} (h:Yj H ga mv gs ms) (s:Qu H H'):Yj H' ga mv gs ms:=by obtain ⟨ls,e1,e2,e3,e4⟩:=h.ex;exact ⟨h.ne,s _ _ h.g,ls,s _ _ e1,e2,e3,λi a c h1 h2=>(e4 i a c h1 h2).keep (λo e=>s _ _ e) λt xs e=>s _ _ e⟩
def Yj.gset {ga mv:G5} {gs gs':K6} (h:Yj H ga mv gs ms):Yj (upd H ga (.lst (gs'.map V.int))) ga mv gs' ms:=by
 obtain ⟨ls,e1,e2,e3,e4⟩:=h.ex;refine ⟨h.ne,Qy,ls,by rw [Qv h.ne.symm]; exact e1,e2,e3,λi a c h1 h2=>(e4 i a c h1 h2).keep (λo e=>?_) λt xs e=>?_⟩
 ·rw [Qv (e3 a (mem_of_getElem? h1)).1]; exact e
 ·rw [Qv (Jv e h.g (by intro z; cases z))]; exact e
theorem Yj.mset {ga mv n:G5} {gs:K6} {ls:K9} {c:List (Nat × Nat)} (h:Yj H ga mv gs ms) (e1:H mv=some (.lst (ls.map V.ref))) (hr:r < ls.length) (hn1:n≠ga) (hn2:n≠mv) (hc:Uc H n c) :
  Yj (upd H mv (.lst ((ls.map V.ref).set r (.ref n)))) ga mv gs (ms.set r c):=by
 obtain ⟨ls',f1,e2,e3,e4⟩:=h.ex;rw [e1] at f1;have:ls'=ls:=by have f2:=HO.lst.inj (R5 f1);have hinj:∀ a b:G5,V.ref a=V.ref b->a=b:=λa b z=>V.ref.inj z;exact (List.map_inj_right (f:=V.ref) (λa b z=>hinj a b z)).mp f2.symm
 subst this;have kp:∀ a c,Uc H a c->a≠mv->Uc (upd H mv (.lst ((ls'.map V.ref).set r (.ref n)))) a c:=λa c hc hne=>hc.keep (λo e=>by rw [Qv hne]; exact e) λt xs e=>by rw [Qv (Jv e e1 (by intro z; cases z))]; exact e
 refine ⟨h.ne,by rw [Qv h.ne]; exact h.g,ls'.set r n,by rw [Qy,map_set],by simp [e2],λa ha=>?_,λi a c' h1 h2=>?_⟩
 ·rcases A0f ha with z | z
  ·exact e3 a z
  ·rw [z]; exact ⟨hn1,hn2⟩
 ·by_cases hi:r=i
  ·subst hi;rw [getElem?_set_self hr] at h1;rw [getElem?_set_self (by lia)] at h2;cases h1;cases h2;exact kp _ _ hc hn2
  ·rw [getElem?_set_ne hi] at h1;rw [getElem?_set_ne hi] at h2;exact kp _ _ (e4 i a c' h1 h2) (e3 a (T8 h1)).2
def Qs0 (ga mv:G5) (H H':Hp):Prop:=∀ b o,H b=some o->b≠ga->b≠mv->H' b=some o
structure Bv (ak:K6) (aj:J7):Prop where
 b1:ak.length<=10
 w1:aj.length<=10
 rows:∀ row∈aj,row.length=ak.length
def Bj (ak:K6):∀ r,ak.length<=r->bF ak r=0:=λr h=>by simp [bF,getD,h]
def Opt (ak:K6) (aj:J7) (way:K7):Prop:=∀ v:K7,v.length=way.length->Fit (bF ak) v->wsum (wF aj) v<=wsum (wF aj) way
theorem Jt (h:Fit (bF ak) way):∀ r∈way,r < ak.length:=λr hr=>by refine R6 λz=>?_;have h1:=Bj ak r (by lia);have h2:=h r;have h3:=W3.mpr hr;lia
def Io (K:N5) (C:G5):Sp:=λvs H Q _ => ∃ (H0:Hp) (p a ga mv:G5) (ak:K6) (aj:J7) (ao:Int) (way:K7) (st:GM),vs=[.ref p,.ref a,.ref ga,.ref mv]/\Qu H0 H/\H0 ga=none/\H0 mv=none /\
 Zv C H0 p ak aj ao/\H0 a=some (.lst ((wI way).map V.int))/\Bv ak aj/\way.length < aj.length/\Fit (bF ak) way/\Opt ak aj way/\Ok (wF aj) way ak.length st/\Yj H ga mv st.1 st.2 /\
 ∀ H',Qs0 ga mv H H'->Yj H' ga mv (turn (wF aj) way ak.length st).1 (turn (wF aj) way ak.length st).2->Q .non H'
def Zv.bf {C:G5} {p:G5} {ao:Int} (h:Zv C H p ak aj ao) (s:Qc H H'):Zv C H' p ak aj ao:=by obtain ⟨dx,b,w,h1,h2,ws,h3,h4,h5⟩:=h.ex;exact ⟨dx,b,w,s.to _ _ h1 rfl,s.to _ _ h2 rfl,ws,s.to _ _ h3 rfl,h4,λi a row e1 e2=>s.to _ _ (h5 i a row e1 e2) rfl⟩
def Mat.bf {w:G5} (h:Mat H w aj) (s:Qc H H'):Mat H' w aj:=by obtain ⟨ws,h3,h4,h5⟩:=h;exact ⟨ws,s.to _ _ h3 rfl,h4,λi a row e1 e2=>s.to _ _ (h5 i a row e1 e2) rfl⟩
theorem Qew:∀ R:Nat,((range R).map λ_=>(0:Nat)).sum=0
 | 0=>rfl
 | R + 1=>by rw [range_succ,map_append,sum_append,Qew R];rfl
theorem Qrj (x:Nat):∀ R:Nat,((range R).map λr=>ind x r).sum<=1:=by
 intro R
 induction R with
 | zero=>simp
 | succ R ih =>
  rw [range_succ,map_append,sum_append]
  by_cases h:x=R
  ·subst h;have:((range x).map λr=>ind x r).sum=0:=by have:(range x).map (λr=>ind x r)=(range x).map λ_=>0:=R9 λr hr=>Si (A0b (O1.mp hr));rw [this];exact Qew x
   rw [this];simp [ind]
  ·simp [Si h];exact ih
theorem Qu1 (way:K7) (R:Nat):((range R).map λr=>way.count r).sum<=way.length:=by
 induction way with
 | nil =>have:=Qew R;simp [this]
 | cons x l ih =>
  have h1:(range R).map (λr=>(x :: l).count r)=(range R).map (λr=>l.count r + ind x r):=R9 λr _=>by
   rw [count_cons];unfold ind
   by_cases h:x=r
   ·subst h; simp
   ·simp [h]
  have h2:∀ R,((range R).map (λr=>l.count r + ind x r)).sum=((range R).map λr=>l.count r).sum + ((range R).map λr=>ind x r).sum:=by
   intro R
   induction R with
   | zero=>rfl
   | succ R ih' =>rw [range_succ,map_append,map_append,map_append,sum_append,sum_append,sum_append,ih'];simp;lia
  rw [h1,h2,length_cons];have:=Qrj x R;lia
def Fd (bs:K6):bs.sum=((range bs.length).map λr=>bs.getD r 0).sum:=by
 congr 1
 refine U7 (by simp) λi h1 h2=>?_;simp [getD,h1]
theorem Qlw (h:(way.length:Int) < ak.sum) (hb:∀ b∈ak,0<=b):∃ r,r < ak.length/\way.count r < bF ak r:=by
 refine R6 λhn=>?_;have h1:∀ r,r < ak.length->ak.getD r 0<=((way.count r:Nat):Int):=λr hr=>by have:¬ way.count r < bF ak r:=λz=>hn ⟨r,hr,z⟩;unfold bF at this;lia
 have h2:∀ R,R<=ak.length->((range R).map λr=>ak.getD r 0).sum<=((((range R).map λr=>way.count r).sum:Nat):Int):=by
  intro R hR
  induction R with
  | zero=>simp
  | succ R ih =>rw [range_succ,map_append,map_append,sum_append,sum_append];have a:=ih (by lia);have b:=h1 R (by lia);simp at a b ⊢;lia
 have h3:=h2 ak.length (O7 _);rw [<- Fd] at h3;have h4:=Qu1 way ak.length;lia
theorem Jf {z:Int}:z∈Yw ak (wI way) ↔ ∃ r:Nat,z=r/\r < ak.length/\way.count r < bF ak r:=by
 unfold Yw;rw [mem_map]
 constructor
 ·rintro ⟨r,h1,rfl⟩;obtain ⟨h2,h3⟩:=U3.mp h1;have h4:=Q6 h3;rw [Kg] at h4;exact ⟨r,rfl,O1.mp h2,by unfold bF; lia⟩
 ·rintro ⟨r,rfl,h1,h2⟩;refine ⟨r,U3.mpr ⟨O1.mpr h1,P0 ?_⟩,rfl⟩;rw [Kg];unfold bF at h2;lia
def Zq4 (K:N5):List V->Hp->VK->Prop:=λxs H Q => ∃ (a:G5) (ns:K6),xs=[.ref a]/\SqL K H a (ns.map V.int)/\0 < ns.length/\∀ z∈ns,(∀ z'∈ns,z'<=z)->Q (.int z) H
theorem Qu4 (hK:X.K=K) (hc:X.calm=true):Up X (.builtin "max") (Zq4 K):=by
 subst hK;intro dz s σ H xs us Q I r h;obtain ⟨a,ns,rfl,hq,hn,q⟩:=h;obtain ⟨u,rfl,rx⟩:=Tp r;cases rx;obtain ⟨its,rv,pl,hz⟩:=I.list hq;have hl:its.length=ns.length:=by have:=rv.length; simpa using this.symm
 have ha:a < s.heap.objs.size:=by obtain ⟨o,n,e,_⟩:=pl;exact O5 e
 have hhd:X.A.in1.handled=none:=I.ok.hd hc;have j8:∀ (i:Nat) v,its.toArray[i]? = some v->∃ t,v=.int (ns.getD i 0) t:=λi v hv=>by
  have hv':its[i]? = some v:=by simpa using hv
  have hi:i < ns.length:=by have:=(N8.mp hv').1;lia
  obtain ⟨u,h1,t,h2⟩:=rv.get (i:=i) (x:=.int ns[i]) (by simp [hi]);rw [hv'] at h1;cases h1;exact ⟨t,by rw [h2]; simp [hi,getD]⟩
 refine call_max_walkS (X6 pl.isList ?_);refine ⟨s.heap.objs.size,_,_,_,its.toArray.size,_,_,_,rfl,(X3 hhd s.heap.objs.size a (O9 ha) its.toArray).toS,⟨⟨_,Q5 _ rfl,rfl,rfl⟩,pl.isList.push _⟩,?_,by rw [size_toArray,hl]; exact hn,CmpOf.ints_gt (λi=>ns.getD i 0) j8,?_⟩
 ·intro b hb;rw [Heap.size_push];rcases R3.mp hb with z | hb
  ·rw [z]; exact U9 _
  ·have z:b=a:=by simpa using hb
   rw [z]; exact V6 ha
 ·intro v s' hP m;obtain ⟨b1,b2⟩:=argBest_gt (λi=>ns.getD i 0) (its.toArray.size - 1);obtain ⟨t,rfl⟩:=j8 _ v hP;have hsz:its.toArray.size=ns.length:=by rw [size_toArray,hl]
  rw [hsz] at b1 b2 ⊢;have hlt:argBest (λi j=>decide (ns.getD i 0 > ns.getD j 0)) (ns.length - 1) < ns.length:=by lia
  refine ⟨.int _,H,I.moved m,⟨t,rfl⟩,q _ ?_ λz' hz'=>?_⟩
  ·have e:ns.getD (argBest (λi j=>decide (ns.getD i 0 > ns.getD j 0)) (ns.length - 1)) 0=ns[argBest (λi j=>decide (ns.getD i 0 > ns.getD j 0)) (ns.length - 1)]:=by rw [getD,getElem?_eq_getElem hlt];rfl
   rw [e];exact N7 hlt
  ·obtain ⟨i,hi,rfl⟩:=X4.mp hz';have:=b2 i (by lia);simpa [getD,hi] using this
structure Fp where
 ak:K6
 aj:J7
 ao:Int
 way:K7
 parts:Int
 rows:K6
def Fp.share (F:Fp) (i r:Nat):Int:=F.parts * wF F.aj i r - F.rows.getD r 0
def Fp.envies (F:Fp) (i r:Nat):Prop:=F.share i (F.way.getD i 0) < F.share i r
def Fp.open_ (F:Fp) (r:Nat):Prop:=F.way.count r < bF F.ak r
def Fp.taken (F:Fp) (r:Nat):Prop:=0 < F.way.count r
def Fp.dear (F:Fp) (r q:Nat):Prop:=F.open_ r/\F.taken q/\F.rows.getD q 0 < F.rows.getD r 0
def Fp.sumOk (F:Fp):Prop:=(F.way.map λr=>F.rows.getD r 0).sum=F.parts * F.ao
inductive BR
 | none
 | sum
 | envy (i r:Nat)
 | opn (r q:Nat)
def Fp.noEnvy (F:Fp):Prop:=∀ i r,i < F.aj.length->r < F.ak.length->¬ F.envies i r
def Fp.noDear (F:Fp):Prop:=∀ r q,r < F.ak.length->q < F.ak.length->¬ F.dear r q
def Fp.firstEnvy (F:Fp) (i r:Nat):Prop:=i < F.aj.length/\r < F.ak.length/\F.envies i r/\(∀ i' r',i' < i->r' < F.ak.length->¬ F.envies i' r')/\∀ r',r' < r->¬ F.envies i r'
def Fp.firstDear (F:Fp) (r q:Nat):Prop:=r < F.ak.length/\q < F.ak.length/\F.dear r q/\(∀ r' q',r' < r->q' < F.ak.length->¬ F.dear r' q')/\∀ q',q' < q->¬ F.dear r q'
def Fp.is (F:Fp):BR->Prop
 | .none=>F.sumOk/\F.noEnvy/\F.noDear
 | .sum => ¬ F.sumOk
 | .envy i r=>F.sumOk/\F.firstEnvy i r
 | .opn r q=>F.sumOk/\F.noEnvy/\F.firstDear r q
structure Qgx (F:Fp):Prop where
 b1:F.ak.length<=10
 w1:F.aj.length<=10
 rw:∀ row∈F.aj,row.length=F.ak.length
 rl:F.rows.length=F.ak.length
 wl:F.way.length=F.aj.length
 fit:Fit (bF F.ak) F.way
 pb:-(10 ^ 100) < F.parts/\F.parts < 10 ^ 100
 rb:-(10 ^ 100) < F.ao/\F.ao < 10 ^ 100
 wb:∀ row∈F.aj,∀ x∈row,-(10 ^ 100) < x/\x < 10 ^ 100
theorem Qwk {F:Fp} (ok:Qgx F) (hi:i < F.aj.length):((Wq F.aj (wI F.way) F.parts F.rows).map V.int)[i]? = some (.int (F.share i (F.way.getD i 0))):=by
 have hw:i < F.way.length:=by have:=ok.wl; lia
 unfold Wq;rw [getElem?_map,getElem?_map,getElem?_range hi];simp [Fp.share,wF,wI,getD,hw]
theorem Qs1 (h:Fit (bF ak) way) (hn:n=ak.length):∀ r∈wI way,0<=r/\r < (n:Int):=λr hr=>by obtain ⟨k,hk,rfl⟩:=O8.mp hr;have:=Jt h k hk;lia
def Zq3 (K:N5):List V->Hp->VK->Prop:=λxs H Q => ∃ (a:G5) (ns:K6),xs=[.ref a]/\SqL K H a (ns.map V.int)/\0 < ns.length/\∀ z∈ns,(∀ z'∈ns,z<=z')->Q (.int z) H
theorem Uo (hK:X.K=K) (hc:X.calm=true):Up X (.builtin "min") (Zq3 K):=by
 subst hK;intro dz s σ H xs us Q I r h;obtain ⟨a,ns,rfl,hq,hn,q⟩:=h;obtain ⟨u,rfl,rx⟩:=Tp r;cases rx;obtain ⟨its,rv,pl,hz⟩:=I.list hq;have hl:its.length=ns.length:=by have:=rv.length; simpa using this.symm
 have ha:a < s.heap.objs.size:=by obtain ⟨o,n,e,_⟩:=pl;exact O5 e
 have hhd:X.A.in1.handled=none:=I.ok.hd hc;have j8:∀ (i:Nat) v,its.toArray[i]? = some v->∃ t,v=.int (ns.getD i 0) t:=λi v hv=>by
  have hv':its[i]? = some v:=by simpa using hv
  have hi:i < ns.length:=by have:=(N8.mp hv').1;lia
  obtain ⟨u,h1,t,h2⟩:=rv.get (i:=i) (x:=.int ns[i]) (by simp [hi]);rw [hv'] at h1;cases h1;exact ⟨t,by rw [h2]; simp [hi,getD]⟩
 refine call_min_walkS (X6 pl.isList ?_);refine ⟨s.heap.objs.size,_,_,_,its.toArray.size,_,_,_,rfl,(X3 hhd s.heap.objs.size a (O9 ha) its.toArray).toS,⟨⟨_,Q5 _ rfl,rfl,rfl⟩,pl.isList.push _⟩,?_,by rw [size_toArray,hl]; exact hn,CmpOf.ints_lt (λi=>ns.getD i 0) j8,?_⟩
 ·intro b hb;rw [Heap.size_push];rcases R3.mp hb with z | hb
  ·rw [z]; exact U9 _
  ·have z:b=a:=by simpa using hb
   rw [z]; exact V6 ha
 ·intro v s' hP m;obtain ⟨b1,b2⟩:=argBest_lt (λi=>ns.getD i 0) (its.toArray.size - 1);obtain ⟨t,rfl⟩:=j8 _ v hP;have hsz:its.toArray.size=ns.length:=by rw [size_toArray,hl]
  rw [hsz] at b1 b2 ⊢;have hlt:argBest (λi j=>decide (ns.getD i 0 < ns.getD j 0)) (ns.length - 1) < ns.length:=by lia
  refine ⟨.int _,H,I.moved m,⟨t,rfl⟩,q _ ?_ λz' hz'=>?_⟩
  ·have e:ns.getD (argBest (λi j=>decide (ns.getD i 0 < ns.getD j 0)) (ns.length - 1)) 0=ns[argBest (λi j=>decide (ns.getD i 0 < ns.getD j 0)) (ns.length - 1)]:=by rw [getD,getElem?_eq_getElem hlt];rfl
   rw [e];exact N7 hlt
  ·obtain ⟨i,hi,rfl⟩:=X4.mp hz';have:=b2 i (by lia);simpa [getD,hi] using this
theorem Tr {f g:Nat->Int}:∀ n:Nat,(∀ i,i < n->f i<=g i)->((range n).map f).sum<=((range n).map g).sum
 | 0,_=>by simp
 | n + 1,h=>by rw [range_succ,map_append,map_append,sum_append,sum_append];have h1:=Tr n λi hi=>h i (by lia);have h2:=h n (by lia);simp;lia
theorem Nq {f g:Nat->Int}:∀ n:Nat,(∀ i,i < n->f i<=g i)->((range n).map f).sum=((range n).map g).sum->∀ i,i < n->f i=g i
 | 0,_,_,i,hi=>absurd hi (A1b _)
 | n + 1,h,e,i,hi=>by
  rw [range_succ,map_append,map_append,sum_append,sum_append] at e;have h1:=Tr n λi hi=>h i (by lia);have h2:=h n (by lia);simp at e
  by_cases hin:i=n
  ·subst hin; lia
  ·exact Nq n (λi hi=>h i (by lia)) (by lia) i (by lia)
theorem Kp (f g:Nat->Int) (n:Nat):((range n).map λi=>f i + g i).sum=((range n).map f).sum + ((range n).map g).sum:=by
 induction n with
 | zero=>simp
 | succ n ih =>rw [range_succ,map_append,map_append,map_append,sum_append,sum_append,sum_append,ih];simp;lia
theorem Qr2 (d:Nat->Int) (x:Nat):∀ R:Nat,((range R).map λr=>d r * (ind x r:Int)).sum=if x < R then d x else 0:=by
 intro R
 induction R with
 | zero=>simp
 | succ R ih =>
  rw [range_succ,map_append,sum_append,ih]
  by_cases h:x=R
  ·subst h;simp [ind]
  ·have h2:(x < R + 1)=(x < R):=by simp;lia
   simp [ind,h,h2]
theorem El (d:Nat->Int) (R:Nat):∀ v:K7,(∀ r∈v,r < R)->(v.map d).sum=((range R).map λr=>d r * ((v.count r:Nat):Int)).sum
 | [],_=>by
  have:((range R).map λr=>d r * ((([]:K7).count r:Nat):Int))=(range R).map λ_=>0:=R9 λr _=>by simp
  rw [this];clear this
  induction R with
  | zero=>simp
  | succ R ih =>rw [range_succ,map_append,sum_append,<- ih (λr hr=>by cases hr)];simp
 | x :: v,h=>by
  have ih:=El d R v λr hr=>h r (Q8 _ hr);have e:((range R).map λr=>d r * (((x :: v).count r:Nat):Int))=(range R).map λr=>d r * ((v.count r:Nat):Int) + d r * (ind x r:Int):=R9 λr _=>by
   rw [count_cons];unfold ind
   by_cases hx:x=r
   ·subst hx; simp [Int.mul_add]
   ·simp [hx]
  rw [e,Kp,<- ih,Qr2,if_pos (h x mem_cons_self),map_cons,sum_cons];lia
theorem Qav {d:Int} {a b:Nat} (h1:0 < d->a<=b) (h2:d < 0->b<=a):d * (a:Int)<=d * (b:Int):=by
 rcases Int.lt_trichotomy d 0 with z | z | z
 ·have:=h2 z;exact Int.mul_le_mul_of_nonpos_left (by lia) (by lia)
 ·rw [z]; simp
 ·exact U0 (by have:=h1 z; lia) (by lia)
def map_range {α:Type} (v:K7) (f:Nat->Int):(v.map f).sum=((range v.length).map λi=>f (v.getD i 0)).sum:=by
 congr 1
 refine U7 (by simp) λi h1 h2=>?_;simp at h1;simp [getD,h1]
theorem Qr5 (v:K7) (f:Nat->Int) (c:Int):(v.map λr=>f r - c).sum=(v.map f).sum - c * v.length:=by
 induction v with
 | nil=>simp
 | cons x v ih =>
  rw [map_cons,sum_cons,ih,map_cons,sum_cons,length_cons];have:c * ((v.length + 1:Nat):Int)=c * (v.length:Int) + c:=by rw [Int.natCast_add,Int.mul_add]; simp
  lia
theorem Dh {d:Int} {a b:Nat} (h:d * (a:Int)=d * (b:Int)) (hd:d≠0):a=b:=by have:=A1c hd h;lia
def Fi {x:Str}:Td K H (.str x) (.str x):=λX dz σ s u _ _ r=>by obtain ⟨t,rfl⟩:=r;exact ⟨[],.str x t⟩
def Qx4 (h:X.K=K):SlR X (Zz5 K):=h ▸ Qiz
def Vb (z:Int) (ns:K6):inV (.int z) (ns.map V.int)=decide (z∈ns):=by
 unfold inV;rw [Bool.eq_iff_iff,any_eq_true,decide_eq_true_iff]
 constructor
 ·rintro ⟨y,hy,e⟩;obtain ⟨n,hn,rfl⟩:=O8.mp hy;have:n=z:=by simpa [eqV] using e
  rw [<- this];exact hn
 ·intro h;exact ⟨.int z,O8.mpr ⟨z,h,rfl⟩,by simp [eqV]⟩
def stC {t:St->Hp->Prop} {σ σ':St} (e:σ=σ') (h:t σ' H):t σ H:=e ▸ h
theorem Qgw {xs ys:List V} {us vs:K8} (a:Xq xs us) (b:Xq ys vs):Xq (xs ++ ys) (us ++ vs):=by
 induction a with
 | nil=>exact b
 | cons h _ ih=>exact .cons h ih
theorem Qgv {xs:List V} {us:K8} (a:Xq xs us):Xq xs.reverse us.reverse:=by
 induction a with
 | nil=>exact .nil
 | cons h _ ih =>rw [reverse_cons,reverse_cons];exact Qgw ih (.cons h .nil)
def Qg5 (xs:Array Nat):Prop:=∀ i k,i < k->k < xs.size->xs.getD i 0 < xs.getD k 0
def getD_in {d:Nat} (h:i < xs.size):xs.getD i d=xs.getD i 0:=by simp [Array.getD,h]
theorem Mw {xs:Array Nat} {j:Nat} (hr:Qg5 xs):∀ (j9 lo hi:Nat),lo<=hi->hi<=xs.size->hi - lo<=j9->(∀ i,i < lo->xs.getD i 0 < j)->(∀ i,hi<=i->i < xs.size->j<=xs.getD i 0) ->
  SetTable.below.go xs j j9 lo hi<=xs.size/\(∀ i,i < SetTable.below.go xs j j9 lo hi->xs.getD i 0 < j)/\∀ i,SetTable.below.go xs j j9 lo hi<=i->i < xs.size->j<=xs.getD i 0
 | 0,lo,hi,h1,h2,h3,h4,h5=>by unfold SetTable.below.go;exact ⟨by lia,h4,λi hi'=>h5 i (by lia)⟩
 | j9 + 1,lo,hi,h1,h2,h3,h4,h5=>by
  unfold SetTable.below.go
  by_cases hlt:lo < hi
  ·rw [if_pos hlt];have hm:(lo + hi) / 2 < xs.size:=by lia
   dsimp only;rw [getD_in hm]
   by_cases hx:xs.getD ((lo + hi) / 2) 0 < j
   ·rw [if_pos hx];refine Mw hr j9 _ _ (by lia) h2 (by lia) (λi hi'=>?_) h5
    by_cases e:i=(lo + hi) / 2
    ·rw [e]; exact hx
    ·have:=hr i ((lo + hi) / 2) (by lia) hm;lia
   ·rw [if_neg hx];refine Mw hr j9 _ _ (by lia) (by lia) (by lia) h4 λi hi' hs=>?_
    by_cases e:i=(lo + hi) / 2
    ·rw [e]; lia
    ·have:=hr ((lo + hi) / 2) i (by lia) hs;lia
  ·rw [if_neg hlt];exact ⟨by lia,h4,λi hi'=>h5 i (by lia)⟩
theorem Ph {j:Nat} (hr:Qg5 xs):SetTable.below xs j<=xs.size/\(∀ i,i < SetTable.below xs j->xs.getD i 0 < j)/\∀ i,SetTable.below xs j<=i->i < xs.size->j<=xs.getD i 0:=by unfold SetTable.below;exact Mw hr _ _ _ (T3 _) (O7 _) (by lia) (λi h=>absurd h (A1b _)) λi h1 h2=>by lia
theorem Qq5 (hr:Qg5 xs) {k:Nat} (h:k < xs.size):SetTable.below xs (xs.getD k 0 + 1)=k + 1:=by
 obtain ⟨b1,b2,b3⟩:=Ph (j:=xs.getD k 0 + 1) hr;rcases Nat.lt_trichotomy (SetTable.below xs (xs.getD k 0 + 1)) (k + 1) with z | z | z
 ·have:=b3 k (by lia) h;lia
 ·exact z
 ·have h1:=b2 (k + 1) z;have h2:=hr k (k + 1) (by lia) (by lia);lia
theorem Qq4 (hr:Qg5 xs):SetTable.below xs 0=0:=by obtain ⟨b1,b2,b3⟩:=Ph (j:=0) hr;refine R6 λz=>?_;have:=b2 0 (by lia);lia
structure Mt (led:Bool) (t:G6):Prop where
 rise:Qg5 t.place
 dum:t.dummies=#[]
 led_:t.led=led
theorem Oy (n:Nat):Qg5 (Array.range n):=λi k h1 h2=>by
 have h2':k < n:=by simpa using h2
 simp [Array.getD,h2',show i < n by lia];exact h1
def Vf (h:t.led=led) (n:Nat):Mt led (t.standIn n):=⟨Oy n,rfl,h⟩
def Mf (h:Mt led t) (n:Nat):Mt led (t.orStandIn n):=by
 unfold SetTable.orStandIn
 split
 ·exact h
 ·exact Vf h.led_ n
theorem Sg {j:Nat} (hr:Qg5 xs) (hn:xs[SetTable.below xs j]?≠some j):Qg5 (SetTable.insertAt xs (SetTable.below xs j) j):=by
 obtain ⟨b1,b2,b3⟩:=Ph (j:=j) hr;generalize SetTable.below xs j=p at *;have hs:(SetTable.insertAt xs p j).size=xs.size + 1:=by unfold SetTable.insertAt;simp;lia
 have g:∀ i,i < xs.size + 1->(SetTable.insertAt xs p j).getD i 0=if i < p then xs.getD i 0 else if i=p then j else xs.getD (i - 1) 0:=λi hi=>by
  unfold SetTable.insertAt;rw [Array.getD_eq_getD_getElem?,Array.getElem?_append]
  by_cases h1:i < p
  ·rw [if_pos h1,if_pos (by simp; lia),Array.getElem?_push];simp [Array.getElem?_extract,Nat.min_eq_left b1,h1,Nat.ne_of_lt h1,show i < xs.size by lia]
  ·rw [if_neg h1]
   by_cases h2:i=p
   ·subst h2;rw [if_pos rfl,if_pos (by simp [Nat.min_eq_left b1]),Array.getElem?_push];simp [Nat.min_eq_left b1]
   ·rw [if_neg h2,if_neg (by simp [Nat.min_eq_left b1]; lia)];simp [Array.getElem?_extract,Nat.min_eq_left b1];have e:p + (i - (p + 1))=i - 1:=by lia
    rw [e];have:i - (p + 1) < xs.size - p:=by lia
    simp [this]
 intro i k h1 h2;rw [hs] at h2;rw [g i (by lia),g k h2];have hp:∀ m,p<=m->m < xs.size->j < xs.getD m 0:=λm hm1 hm2=>by
  have h3:=b3 m hm1 hm2
  by_cases e:m=p
  ·subst e;refine Nat.lt_of_le_of_ne h3 λz=>hn ?_;rw [Array.getElem?_eq_getElem hm2];have:xs.getD m 0=xs[m]:=by simp [Array.getD,hm2]
   rw [<- this,<- z]
  ·have h4:=hr p m (by lia) hm2;have h5:=b3 p (O7 _) (by lia);lia
 by_cases c1:k < p
 ·rw [if_pos c1,if_pos (by lia)];exact hr i k h1 (by lia)
 ·rw [if_neg c1]
  by_cases c2:k=p
  ·rw [if_pos c2,if_pos (by lia)];exact b2 i (by lia)
  ·rw [if_neg c2]
   by_cases c3:i < p
   ·rw [if_pos c3]
    by_cases c4:i < k - 1
    ·exact hr i (k - 1) c4 (by lia)
    ·lia
   ·rw [if_neg c3]
    by_cases c5:i=p
    ·rw [if_pos c5];exact hp (k - 1) (by lia) (by lia)
    ·rw [if_neg c5];exact hr (i - 1) (k - 1) (by lia) (by lia)
def Qj9 (j:Nat):SetTable.has #[] j=false:=by unfold SetTable.has;simp
def Qp2 (h:t.dummies=#[]) (j:Nat):t.slot j=.empty/\t.place[SetTable.below t.place j]?≠some j\/∃ i,t.slot j=.live i:=by
 unfold SetTable.slot;dsimp only
 by_cases c:t.place[SetTable.below t.place j]? = some j
 ·right
  rw [if_pos (by rw [c]; simp)];exact ⟨_,rfl⟩
 ·left
  rw [if_neg (by simpa using c),h,Qj9];exact ⟨rfl,c⟩
theorem Af {t:G6} (h:t.dummies=#[]) (x:Int):∀ (j9:Nat) (p:SetTable.Probe),p.dummy=none->∀ j d,SetTable.probe.go t (λ_=>x + 1) x j9 p=some (.empty j d)->d=none/\t.place[SetTable.below t.place j]?≠some j
 | 0,p,_,j,d,e=>by simp [SetTable.probe.go] at e
 | j9 + 1,p,hp,j,d,e=>by
  unfold SetTable.probe.go at e;rcases Qp2 h p.j with ⟨c,c'⟩ | ⟨i,c⟩
  ·rw [c] at e;cases e;exact ⟨hp,c'⟩
  ·rw [c] at e;dsimp only at e;rw [if_neg (by simp; lia)] at e;refine Af h x j9 _ ?_ j d e;unfold SetTable.advance
   split
   ·exact hp
   ·exact hp
def Hk (h:t.dummies=#[]) {x:Int} {wd:Bool} (e:t.freeSlot x=some (slot,wd)):wd=false/\t.place[SetTable.below t.place slot]?≠some slot:=by
 unfold SetTable.freeSlot at e
 split at e
 ·rename_i j d he
  unfold SetTable.probe at he;obtain ⟨rfl,h2⟩:=Af h x _ _ rfl j d he;cases e;exact ⟨rfl,h2⟩
 ·cases e
def Ql2 (h:Mt led t) {j:Nat} (hn:t.place[SetTable.below t.place j]?≠some j):Mt led (t.put j).1:=by unfold SetTable.put;refine ⟨Sg h.rise hn,?_,h.led_⟩;show (if SetTable.has t.dummies j=true then _ else t.dummies)=#[];rw [h.dum,Qj9];rfl
def Ot (h:Mt led t) (es:Array (Int × G3)) (x:Int) (v:G3):Mt led (layNew t es x v).2.1:=by
 unfold layNew
 split
 ·rename_i slot wd he
  exact Mf (Ql2 h (Hk h.dum he).2) _
 ·exact Vf h.led_ _
theorem Fl {m:Nat} {f:Nat->Option Nat}:Qg5 (((range m).filterMap λj=>(f j).map λk=>(j,k)).map Prod.fst).toArray:=by
 have hp:(((range m).filterMap λj=>(f j).map λk=>(j,k)).map Prod.fst).Pairwise (· < ·):=by
  rw [pairwise_map,pairwise_filterMap];refine List.Pairwise.imp ?_ (pairwise_lt_range (n:=m));intro a b hab x hx y hy;cases ha:f a with
  | none=>rw [ha] at hx; cases hx
  | some k =>
   cases hb:f b with
   | none=>rw [hb] at hy; cases hy
   | some k' =>rw [ha] at hx;rw [hb] at hy;cases hx;cases hy;exact hab
 intro i k h1 h2;have h2':k < (((range m).filterMap λj=>(f j).map λk=>(j,k)).map Prod.fst).length:=by simpa using h2
 have:=A1d.mp hp i k (by lia) h2' h1;simp only [Array.getD_eq_getD_getElem?,getElem?_toArray,getElem?_eq_getElem h2',getElem?_eq_getElem (show i < _ from Nat.lt_trans h1 h2'),Option.getD_some];exact this
theorem Lo (h:Mt led t) (es:Array (Int × G3)) (n:Nat):Mt led (relayAll t es n).2.1:=by
 unfold relayAll
 split
 ·rename_i t' order he
  dsimp only
  split
  ·unfold SetTable.relaid SetTable.laid at he;cases ho:SetTable.layClean (SetTable.sizeAbove n - 1) (es.map (·.1)) with
   | none=>rw [ho] at he; cases he
   | some owner =>rw [ho] at he;cases he;exact ⟨Fl,rfl,h.led_⟩
  ·exact Vf h.led_ _
 ·exact Vf h.led_ _
section
variable {prog:G8} {w:World} {K:Type} [DecidableEq K] {knd:KeyKind prog w K} {A:G7} {E:K5} {s:G4}
def Qz9 (led:Bool) (h:Heap) (a:G5):Prop:=∃ o es ep t,h.get? a=some o/\o.data=.set es ep t/\Mt led t
theorem Mt.plain (h:Mt led t) (b:Bool):Mt led { t with plain:=b }:=⟨h.rise,h.dum,h.led_⟩
def Qr7 {g:Bool->Sem Unit} (hg:∀ (b:Bool) (s₁:G4) (Q':Unit->G4->Prop),Q' () s₁->wpAny (model prog w) A (g b) Q' E s₁)
  {a:G5} {o:Obj} (ho:s.heap.get? a=some o) (hex:o.ExactSet) (hd:o.data=.set es ep t)
  {es1:Array (Int × G3)} {t2:G6} {S':K->Bool} (hel1:ElemsOf knd es1.toList) (hmem1:∀ k',S' k'=true ↔ ∃ e∈es1.toList,knd.is k' e.2=true)
  (hb1:es1.size < scanBound) (hf2:t2.fits es1.size=true) (hi:Mt led t2) {wd:Bool} {R:Option Bool->G4->Prop}
  (h:∀ h',Heap.SameBut a s.heap h'->h'.SetOf knd a S' es1.size->Qz9 led h' a->R (some true) { s with heap:=h' }) :
  wpAny (model prog w) A (do
    storeSet a es1 t2
    if (!wd && t2.tooFull)=true then do
      g (relayAll t2 es1 (SetTable.grown es1.size)).2.2
      storeSet a (relayAll t2 es1 (SetTable.grown es1.size)).1 (relayAll t2 es1 (SetTable.grown es1.size)).2.1
      pure (some true)
     else pure (some true)) R E s:=by
 obtain ⟨ho1,hS1⟩:=SetOf_store (knd:=knd) ho hex hd hel1 hmem1 hb1 hf2;refine M9 (wpAny_storeSet_of ho hd ?_ (fits_of_scanBound hb1))
 split
 ·have hp:=relayAll_perm t2 es1 (SetTable.grown es1.size);have hm:∀ k',S' k'=true ↔ ∃ e∈(relayAll t2 es1 (SetTable.grown es1.size)).1.toList,knd.is k' e.2=true:=λk'=>by
   rw [hmem1 k']
   constructor
   ·rintro ⟨e,he,q⟩;exact ⟨e,hp.mem_iff.mpr he,q⟩
   ·rintro ⟨e,he,q⟩;exact ⟨e,hp.mem_iff.mp he,q⟩
  have hz:(relayAll t2 es1 (SetTable.grown es1.size)).1.size=es1.size:=by rw [<- Array.length_toList,hp.length_eq,Array.length_toList]
  obtain ⟨ho2,hS2⟩:=SetOf_store (knd:=knd) ho1 hex rfl (hel1.perm hp) hm (by rw [hz]; exact hb1) (relayAll_fits t2 es1 (SetTable.grown es1.size));rw [hz] at hS2;refine M9 (hg _ _ _ (M9 (wpAny_storeSet_of ho1 rfl ?_ (fits_of_scanBound (by rw [hz]; exact hb1)))));exact N6 (h _ ((T9 s.heap a _).trans (T9 _ a _)) hS2 ⟨_,_,_,_,ho2,rfl,Lo hi _ _⟩)
 ·exact N6 (h _ (T9 s.heap a _) hS1 ⟨_,_,_,_,ho1,rfl,hi⟩)
theorem Qtz {a:G5} {S:K->Bool} {k:K} {Q:Bool->G4->Prop} (jo:knd.is k x=true) (hsc:x.scannable=true) (hS:s.heap.SetOf knd a S n) (hL:Qz9 led s.heap a)
  (jh:n + 1 < scanBound)
  (h:∀ h',Heap.SameBut a s.heap h'->h'.SetOf knd a (λk'=>S k' || decide (k'=k)) (if S k then n else n + 1)->Qz9 led h' a->Q (!S k) { s with heap:=h' }) :
  wpAny (model prog w) A (setAddHashed a x (knd.hash k)) Q E s:=by
 obtain ⟨o,es,ep,t,ho,hex,hd,hel,g8,hb,hf,hn⟩:=id hS;have hi:Mt led t:=by obtain ⟨o',es',ep',t',ho',hd',hi'⟩:=hL;rw [ho] at ho';cases ho';rw [hd] at hd';cases hd';exact hi'
 unfold setAddHashed setAddHashedIn;refine U5 (M9 (W4 ho hd hf ?_));dsimp only;rw [byScan_of hsc hb hel];simp only [↓reduceIte];unfold setAddByScan;refine M9 (M9 (wpAny_rule (M9 (wpAny_setScan_of jo ho hd hf hel ?_))));have hfound:S k=true ↔ (findIdx? (λe=>knd.is k e.2) es.toList).isSome=true:=by rw [g8 k,findIdx?_isSome,any_eq_true]
 cases hr:findIdx? (λe=>knd.is k e.2) es.toList with
 | some j =>
  have hSk:S k=true:=hfound.mpr (by rw [hr]; rfl);have hst:=h s.heap (Heap.SameBut.refl a s.heap) (by
   rw [if_pos hSk];refine ⟨o,es,ep,t,ho,hex,hd,hel,λk'=>?_,hb,hf,hn⟩;rw [<- g8 k']
   by_cases e:k'=k
   ·subst e; simp [hSk]
   ·simp [e]) hL
  rw [hSk] at hst;exact N6 (N6 hst)
 | none =>
  have hSk:S k=false:=by
   cases c:S k with
   | false=>rfl
   | true=>have:=hfound.mp c; rw [hr] at this; cases this
  dsimp only;have hp:=layNew_perm t es (knd.hash k) x;have hlf:=layNew_fits t es (knd.hash k) x;have hli:=Ot hi es (knd.hash k) x;generalize layNew t es (knd.hash k) x=L at hp hlf hli ⊢;obtain ⟨es1,t1,wd,gave⟩:=L;dsimp only at hp hlf hli ⊢;rw [Array.toList_push] at hp;have hz:es1.size=n + 1:=by rw [<- Array.length_toList,hp.length_eq,length_append,Array.length_toList,hn]; rfl
  have fin:∀ h',Heap.SameBut a s.heap h'->h'.SetOf knd a (λk'=>S k' || decide (k'=k)) es1.size->Qz9 led h' a->Q true { s with heap:=h' }:=λh' sb hS' hL'=>by have:=h h' sb;rw [hSk,if_neg (by simp)] at this;rw [hz] at hS';exact this hS' hL'
  have hm:=mem_push_iff jo g8 hp;have he1:ElemsOf knd es1.toList:=(hel.push jo hsc).perm hp;have hb1:es1.size < scanBound:=by rw [hz]; exact jh
  have tail:∀ (t2:G6) {g:Bool->Sem Unit},(∀ (b:Bool) (s₁:G4) (Q':Unit->G4->Prop),Q' () s₁->wpAny (model prog w) A (g b) Q' E s₁)->t2.fits es1.size=true->Mt led t2->∀ {R:Option Bool->G4->Prop},(∀ s',Q true s'->R (some true) s')->wpAny (model prog w) A (do
    storeSet a es1 t2
    if (!wd && t2.tooFull)=true then do
      g (relayAll t2 es1 (SetTable.grown es1.size)).2.2
      storeSet a (relayAll t2 es1 (SetTable.grown es1.size)).1 (relayAll t2 es1 (SetTable.grown es1.size)).2.1
      pure (some true)
     else pure (some true)) R E s:=λt2 g hg f2 i2 R hR=>Qr7 hg ho hex hd he1 hm hb1 f2 i2 λh' sb hS' hL'=>hR _ (fin h' sb hS' hL')
  have gw:∀ {s₁:G4} {Q':Unit->G4->Prop} (b:Bool),Q' () s₁->wpAny (model prog w) A (match b with | true=>rule "set.scan.the-table-gave-way" | false=>pure ()) Q' E s₁:=λb hq=>by
   cases b
   ·exact N6 hq
   ·exact wpAny_rule hq
  refine M9 (gw gave ?_)
  split
  ·rw [hashByValue_scannable 8 hsc];refine M9 (N6 ?_);refine tail _ (λb s₁ Q' hq=>gw b hq) ?_ ?_ λs' hq=>N6 hq
   ·split
    ·exact hlf
    ·exact SetTable.fits_plain_off hlf
   ·split
    ·exact hli
    ·exact hli.plain false
  ·refine M9 (N6 ?_);exact tail _ (λb s₁ Q' hq=>gw b hq) hlf hli λs' hq=>N6 hq
end
def Rm (prog:G8) (w:World) (led:Bool) (h:Heap) (a:G5) (ks:K6):Prop:=h.SetOf (intKind prog w) a (λk'=>ks.any (· == k')) ks.length/\Qz9 led h a
def Rm.at_ {prog:G8} {w:World} {h h':Heap} {a:G5} {ks:K6} (x:Rm prog w led h a ks) (k:∀ o,h.get? a=some o->h'.get? a=some o):Rm prog w led h' a ks:=by obtain ⟨⟨o,es,ep,t,ho,j7⟩,⟨o',es',ep',t',ho',rest'⟩⟩:=x;exact ⟨⟨o,es,ep,t,k _ ho,j7⟩,⟨o',es',ep',t',k _ ho',rest'⟩⟩
section
variable {prog:G8} {w:World} {A:G7} {R:Result->G4->Prop} {I:G5} {fp wr:K9} {G:Array GenState->Array GenState->Prop} {P:Nat->G3->Prop} {St:Nat->G4->Prop}
theorem Ib (W:WalksS prog w A.in1 I fp wr G n P St) (S:G5) (hSf:S ∉ fp) (val:Nat->Int) (j8:∀ i v,P i v->∃ t,v=.int (val i) t) (hb:n + 1 < scanBound) :
  ∀ (k i:Nat) (s:G4),n - i=k->i<=n->St i s->Rm prog w led s.heap S (firstMet val i) ->
   (∀ s',Moved (S :: wr) G s s'->Rm prog w led s'.heap S (firstMet val n)->R (.ok (.ret .none)) s') ->
   codeAny (model prog w) A (.builtin "set.update.loop" ⟨[.ref S,.ref I],[]⟩) R s:=by
 have hSw:S ∉ wr:=λh=>hSf (W.sub _ h);have kh:∀ b∈wr,b∈S :: wr:=λb hb=>Q8 _ hb;intro k
 induction k with
 | zero =>
  intro i s hk hi hst hS hR;obtain rfl:i=n:=by lia
  refine W2 F.entry_set_update_loop ?_;rw [Around.under_plainId F.plain_set_update_loop _];show wpAny _ A.in1 (pyNext (.ref I) >>= _) _ _ s;refine M9 (W.done s _ _ hst λs' hm=>?_);show wpAny _ A.in1 (ret Value.none) _ _ s';exact N6 (hR s' (hm.mono kh) (hS.at_ λo e=>hm.heap S o hSw e))
 | succ k ih =>
  intro i s hk hi hst hS hR;have hlt:i < n:=by lia
  refine W2 F.entry_set_update_loop ?_;rw [Around.under_plainId F.plain_set_update_loop _];show wpAny _ A.in1 (pyNext (.ref I) >>= _) _ _ s;refine M9 (W.item i s _ _ hlt hst λv s' hP hst' hm=>?_);obtain ⟨t,rfl⟩:=j8 i v hP;obtain ⟨hS1,hL1⟩:=hS.at_ λo e=>hm.heap S o hSw e;show wpAny _ A.in1 (holding [Value.int (val i) t] (setAdd S (.int (val i) t)) >>= _) _ _ s';refine M9 (U5 ?_);unfold setAdd;refine U5 ?_;refine M9 ((intKind prog w).pyHash (k:=val i) (intKind_is _ _ _ _) ?_);refine Qtz (knd:=intKind prog w) (s:={ s' with toks:=s'.toks + 1 }) (intKind_is _ _ _ _) rfl hS1 hL1 (by have:=firstMet_length_le val i; lia) λh' hsb hS2 hL2=>?_;have hS3:Rm prog w led h' S (firstMet val (i + 1)):=⟨SetOf_congr hS2 (λk'=>by rw [firstMet_succ,step_any]) (by rw [firstMet_succ,step_length]),hL2⟩
  have oth:∀ b o,b≠S->s'.heap.get? b=some o->h'.get? b=some o:=λb o hb e=>by rw [hsb.2 b hb]; exact e
  refine N6 ⟨X5 F.plain_set_update_loop _,ih (i + 1) _ (by lia) hlt (W.frame _ s' _ _ hst' (Z5 _) λb hb o e=>oth b o (λh=>hSf (h ▸ hb)) e) hS3 λs'' hm'' hS''=>?_⟩;exact hR s'' (Moved.trans W.gtrans ((hm.mono kh).then_heap (Z5 _) λb o hb e=>oth b o (λh=>hb (h ▸ Q7)) e) hm'') hS''
end
section
variable {prog:G8} {w:World} {A:G7} {E:K5} {s:G4}
def Qyj (led:Bool):Mt led (.fresh 0 0 led):=⟨λi k _ h=>by simp [SetTable.fresh] at h,rfl,rfl⟩
def Sz (a:G3) {Q₁:K5}
  (h:Q₁ (.ref s.heap.objs.size) { s with heap:=s.heap.push { cls:=.type "set",dict:=none,data:=.set #[] 0 (.fresh 0 0 (!w.params.followText "set-order")) } }) :
  codeAny (model prog w) A (.call (.builtin "set.__new__") ⟨[.type "set",a],[]⟩) (wants Q₁ E) s:=by
 refine codeAny_of_tree ?_;show wpAny _ A.in1 (do checkBuiltinCall "set.__new__" ⟨[.type "set",a],[]⟩; again (.builtin "set.__new__" ⟨[.type "set",a],[]⟩)) _ _ s;refine M9 (W7 (F.newCall_set_1 a) (N6 ⟨X5 F.plain_set_new _,W2 F.entry_set_new ?_⟩));rw [Around.under_plainId F.plain_set_new _];unfold Builtin.«set.__new__» Builtin.Frozenset.newClass;have kh:=sub_set_self;obtain ⟨hp,g,d,tk,os⟩:=s;dsimp only
 wp_walk
 refine A0g (N6 ?_);dsimp only;simp only [newObj];refine M9 (wpAny_alloc (N6 ?_));exact N6 h
end
section
variable {prog:G8} {w:World} {A:G7} {E:K5} {s:G4}
theorem Hb {l:G5} {items:Array G3} {ns:K6} {Q:K5}
  (hh:A.handled=none) (hl:s.heap.IsList l items) (hi:IntsAre items.toList ns) (hb:items.size + 1 < scanBound)
  (h:∀ (h':Heap) (tk:Nat),Rm prog w (!w.params.followText "set-order") h' s.heap.objs.size (firstMet (λi=>ns.getD i 0) items.size) ->
   (∀ b o,b < s.heap.objs.size->s.heap.get? b=some o->h'.get? b=some o)->Q (.ref s.heap.objs.size) { s with heap:=h',toks:=tk }) :
  wpAny (model prog w) A (call (.type "set") [.ref l]) Q E s:=by
 obtain ⟨c,tl,hmro⟩:=F.called_set.mro;have hmade:=F.called_set.made;have kh:=F.called_set.sub;refine wpAny_call (codeAny_of_tree ?_);show wpAny _ _ (callAny (.type "set") _) _ _ _;refine N6 ⟨Code.quiet_builtin _ (by decide +kernel),W2 F.entry_type_call ?_⟩;rw [Around.under_plain (weight_type_call_type "set" [.ref l] []) rfl];have h1:=F.called_set.notType;have h2:=F.called_set.canCreate;have hct:=F.typeCall_set_1 (.ref l)
 repeat (any_goals (first | assumption | wp_step))
 obtain ⟨O,hO⟩:∃ O:Obj,O={ cls:=.type "set",dict:=none,data:=.set #[] 0 (.fresh 0 0 (!w.params.followText "set-order")) }:=⟨_,rfl⟩
 refine Z4 (Sz (.ref l) (E:=E) (Q₁:=λobj s₁=>obj=.ref s.heap.objs.size/\s₁={ s with heap:=s.heap.push O }) ⟨rfl,by rw [hO]⟩) λr s₁ hr=>?_;cases r with
 | error e=>exact hr
 | ok fl =>
  cases fl with
  | ret obj =>
   obtain ⟨rfl,rfl⟩:=hr;have hS:(s.heap.push O).get? s.heap.objs.size=some O:=Q5 _ (by rw [hO]; rfl);have hT:Shared.TypeIs { s with heap:=s.heap.push O } (.ref s.heap.objs.size) "set" := ⟨_,hS,by rw [hO]⟩
   have hli:=F.called_set.init.lookup;have hbi:=F.called_set.init.bind (.ref s.heap.objs.size)
   repeat (any_goals (first | assumption | wp_step))
   refine Z4 (codeAny_call_builtin (R:=wants (λr s₂=>r=.none/\∃ h' tk,s₂={ s with heap:=h',toks:=tk } /\
     Rm prog w (!w.params.followText "set-order") h' s.heap.objs.size (firstMet (λi=>ns.getD i 0) items.size) /\
     (∀ b o,b < s.heap.objs.size->s.heap.get? b=some o->h'.get? b=some o)) E) F.called_set.init.plain F.entry_set_init (check_set_init_1 hT ?_)) λr₂ s₂ hr₂=>?_
   ·obtain ⟨ol,hol,hcl,nl,hdl⟩:=id hl;obtain ⟨ocls,odict,odata,oslots⟩:=ol;simp only at hcl hdl;subst hcl; subst hdl;have hol':(s.heap.push O).get? l=some { cls:=.type "list",dict:=odict,data:=.seq items nl,slots:=oslots }:=O3 _ hol;have hsls:=F.sub_list_set;have hslf:=F.sub_list_frozenset;have hne:(Value.type "list" == Value.type "dict")=false:=by decide
    have hl1:(s.heap.push O).IsList l items:=⟨_,hol',rfl,nl,rfl⟩
    unfold Builtin.«set.__init__» noKeywords Builtin.Frozenset.updateFrom;generalize hPI:pyIter=PI;rw [hO] at hS hol' hl1 hT ⊢
    wp_walk
    subst hPI;refine X6 hl1 ?_;refine M9 (wpAny_runValue ?_);have hlS:l < s.heap.objs.size:=O5 hol;have hh3:A.in1.in1.in1.handled=none:=by simp [hh]
    rw [<- hO] at hS hl1 ⊢;have hz:(s.heap.push O).objs.size=s.heap.objs.size + 1:=Heap.size_push _ _;have j8:∀ (i:Nat) (v:G3),items[i]? = some v->∃ t,v=.int ((λi=>ns.getD i 0) i) t:=λi v hv=>IntsAre.int_at hi i v (by rw [Array.getElem?_toList]; exact hv);refine Ib (led:=!w.params.followText "set-order") ((X3 hh3 _ l (by rw [hz]; exact O9 (V6 hlS)) items).toS) s.heap.objs.size (by rw [hz]; simp only [mem_cons,not_mem_nil,or_false,not_or]; exact ⟨O9 (U9 _),A0b hlS⟩) (λi=>ns.getD i 0) j8 hb (items.size - 0) 0 _ (by lia) (T3 _)
     ⟨⟨_,Q5 _ rfl,rfl,rfl⟩,(hl1.push _)⟩ ?hS0 ?hR
    case hS0 =>have hget:=O3 { cls:=.type "list_iterator",data:=.fields #[.ref l,.int 0 0] } hS;refine ⟨SetOf_congr ((setObjOf_fresh (knd:=intKind prog w) (!w.params.followText "set-order")).setOf (hO ▸ hget) (by unfold scanBound; lia)) (λ_=>rfl) rfl,⟨O,#[],0,_,hget,by rw [hO],Qyj _⟩⟩
    case hR =>intro s' hm hS';obtain ⟨h',g',d',tk',os'⟩:=s';have eg:g'=s.gens:=hm.gens;have ed:d'=s.drawn:=hm.drawn;have eo:os'=s.os:=hm.os;subst eg; subst ed; subst eo;show wpAny _ _ _ _ _ _;refine N6 ?_;show wpAny _ _ (ret Value.none) _ _ _;refine N6 ⟨rfl,h',tk',rfl,hS',λb o hb e=>?_⟩;refine hm.heap b o ?_ (O3 _ (O3 _ e));rw [hz];simp only [mem_cons,not_mem_nil,or_false,not_or];exact ⟨O9 hb,O9 (V6 hb)⟩
   ·cases r₂ with
    | error e=>exact hr₂
    | ok fl₂ =>
     cases fl₂ with
     | ret r =>
      obtain ⟨rfl,h',tk,rfl,hS',hk'⟩:=hr₂
      repeat (any_goals (first | assumption | wp_step))
      exact h _ _ hS' hk'
     | _=>exact hr₂.elim
  | _=>exact hr.elim
end
def Zx:Slot "set_iterator" "__next__" "set_iterator.__next__" :=
 .of (owner:="set_iterator") (n:="__next__") (by rw [typeLookup_type,builtinLookup_eq_fast]; kernel_rfl) (by decide +kernel) (by decide +kernel) (by decide +kernel)
  (by first | exact .inl (by decide +kernel) | exact .inr (by decide +kernel)) (by rw [isSubtype_type]; kernel_rfl)
def Yi:entryFor table "set_iterator.__next__" = some Builtin.«set_iterator.__next__» := entryFor_of_tree (by kernel_rfl)
def Tv:Slot "set_iterator" "__iter__" "set_iterator.__iter__" :=
 .of (owner:="set_iterator") (n:="__iter__") (by rw [typeLookup_type,builtinLookup_eq_fast]; kernel_rfl) (by decide +kernel) (by decide +kernel) (by decide +kernel)
  (by first | exact .inl (by decide +kernel) | exact .inr (by decide +kernel)) (by rw [isSubtype_type]; kernel_rfl)
def slot_set_iter:Slot "set" "__iter__" "set.__iter__" :=
 .of (owner:="set") (n:="__iter__") (by rw [typeLookup_type,builtinLookup_eq_fast]; kernel_rfl) (by decide +kernel) (by decide +kernel) (by decide +kernel)
  (by first | exact .inl (by decide +kernel) | exact .inr (by decide +kernel)) (by rw [isSubtype_type]; kernel_rfl)
def Fn:entryFor table "set.__iter__" = some Builtin.«frozenset.__iter__» :=entryFor_alias (id':="frozenset.__iter__") (by kernel_rfl) (by first | rfl | decide +kernel | (unfold String.splitOn; simp +decide [String.splitOnAux])) (by decide +kernel) (by kernel_rfl)
section
variable {prog:G8} {w:World} {A:G7} {E:K5} {s:G4}
def Ar {a:G5} {o:Obj} {given e0:Nat} {Q:Option (G3 × Nat)->G4->Prop} (ho:s.heap.get? a=some o) (hd:o.data=.set es ep t) (hf:t.fits es.size=true) (hl:t.led=true) (hw:w.params.followText "set-order" = false) (hp:(!t.plain && decide (es.size > 1))=false)
  (h:Q (match es[SetTable.below t.place slot]?,t.place[SetTable.below t.place slot]? with | some (_,x),some j=>some (x,j + 1) | _,_=>none) s):wpAny (model prog w) A (setNext a slot given e0) Q E s:=by
 unfold setNext;refine M9 (W4 ho hd hf ?_);dsimp only;unfold setsByText;refine M9 (M9 (A0g (N6 ?_)));show wpAny _ A (if w.params.followText "set-order" = true then _ else _) _ _ _;rw [if_neg (by rw [hw]; simp)];show wpAny _ A (if (!t.plain && decide (es.size > 1))=true then _ else _) _ _ _;rw [if_neg (by rw [hp]; simp)];show wpAny _ A ((if (!t.led && !es.isEmpty)=true then unsupported "set:maker-not-led" else pure ()) >>= _) _ _ _;rw [if_neg (by rw [hl]; simp)];refine M9 (N6 ?_);exact N6 h
end
def Bc:Manifest.owners.lookup (String.ofList ['r','o','t','a','r','e','t','i','_','t','e','s'].reverse)=some Manifest.sig_set_iterator:=by kernel_rfl
def Ym (a:G3):argsOk "set_iterator.__next__" ⟨[a],[]⟩:=by unfold argsOk; rw [signature?_of (id:="set_iterator.__next__") (n:=['_','_','t','x','e','n','_','_']) (o:=['r','o','t','a','r','e','t','i','_','t','e','s']) (by kernel_rfl) Bc]; kernel_rfl
section
variable {prog:G8} {w:World} {A:G7} {E:K5} {s:G4}
def Bl {a:G5} {o:Obj} {given:Nat} {Q:Option (G3 × Nat)->G4->Prop} (ho:s.heap.get? a=some o) (hd:o.data=.set es ep t) (hf:t.fits es.size=true) (hw:w.params.followText "set-order" = true)
  (h:Q (((pickOrder (w.params.setOrder a ep) es)[given]?).map λe=>(e.2,slot)) s):wpAny (model prog w) A (setNext a slot given ep) Q E s:=by
 unfold setNext;refine M9 (W4 ho hd hf ?_);dsimp only;unfold setsByText;refine M9 (M9 (A0g (N6 ?_)));show wpAny _ A (if w.params.followText "set-order" = true then _ else _) _ _ _;rw [if_pos hw];rw [if_neg (by simp)];unfold setWalk;refine M9 (M9 (W4 ho hd hf ?_));dsimp only;unfold setsByText;refine M9 (M9 (A0g (N6 ?_)));show wpAny _ A (if w.params.followText "set-order" = true then _ else _) _ _ _;rw [if_pos hw];refine M9 (A0g (N6 ?_));exact N6 h
def Of {a:G5} {o:Obj} {place:Nat} {hx:Int} {Q:K5} (ho:s.heap.get? a=some o) (hd:o.data=.set es ep t) (hf:t.fits es.size=true) (h1:es[place]? = some (hx,x))
  (h:Q x s):wpAny (model prog w) A (setNextDrawn a place ep) Q E s:=by
 unfold setNextDrawn;refine M9 (W4 ho hd hf ?_);dsimp only;rw [if_neg (by simp),h1];exact N6 h
theorem Pu {α:Type}:∀ (l:List α) (i:Nat) (h:i < l.length),(l[i] :: l.eraseIdx i).Perm l
 | y :: ys,0,_=>by simp
 | y :: ys,i + 1,h=>by
  have h':i < ys.length:=by simpa using h
  simp only [getElem_cons_succ,eraseIdx_cons_succ];exact (List.Perm.swap _ _ _).trans ((Pu ys i h').cons y)
theorem Tz {α:Type} (next:Nat->Nat):∀ (j9 k:Nat) (left:List α) (out:Array α),left.length<=j9->(pickOrder.go next j9 k left out).toList.Perm (out.toList ++ left)
 | 0,k,left,out,h=>by have:left=[]:=A0h.mp (by lia);subst this;simp [pickOrder.go]
 | j9 + 1,k,left,out,h=>by
  unfold pickOrder.go;cases hl:left with
  | nil=>simp
  | cons y ys =>
   have hlt:next k % (y :: ys).length < (y :: ys).length:=Nat.mod_lt _ (by simp)
   rw [getElem?_eq_getElem hlt];dsimp only;generalize next k % (y :: ys).length=i at hlt
   refine (Tz next j9 (k + 1) _ _ ?_).trans ?_
   ·rw [length_eraseIdx_of_lt hlt];rw [hl] at h;lia
   ·rw [Array.toList_push,append_assoc];refine List.Perm.append_left _ ?_;exact Pu _ _ hlt
end
def oV:Option Int->V
 | none=>.non
 | some m=>.int m
def oD:Option Int->PyData
 | none=>.none
 | some m=>.int m
theorem Tl {K:N5} {H:Hp}:∀ os:K1,Paired (Td K H) (os.map oV) (os.map oD)
 | []=>.nil
 | none :: r=>.cons Qij (Tl r)
 | some _ :: r=>.cons Sn (Tl r)
def Ff (os:K1):PyData:=.list (os.map oD)
theorem Rj:∀ os:K1,PyData.eqvAll (os.map oD) (os.map oD)=true
 | []=>by simp [PyData.eqvAll]
 | none :: t=>by simp [PyData.eqvAll,oD,PyData.eqv,Rj t]
 | some z :: t=>by simp [PyData.eqvAll,oD,PyData.eqv,Rj t]
def Ad (os:K1):PyData.eqv (Ff os) (Ff os)=true:=by unfold Ff;rw [PyData.eqv];exact Rj os
theorem Nn:∀ os:K1,PyData.canLayAll0 (os.map oD)=true
 | []=>rfl
 | none :: t=>by simp [PyData.canLayAll0,oD,PyData.canLay0,Nn t]
 | some z :: t=>by simp [PyData.canLayAll0,oD,PyData.canLay0,Nn t]
theorem Pw:∀ os:K1,PyData.depthAll (os.map oD)=0
 | []=>by simp [PyData.depthAll]
 | none :: t=>by simp [PyData.depthAll,oD,PyData.depth,Pw t]
 | some z :: t=>by simp [PyData.depthAll,oD,PyData.depth,Pw t]
theorem Vd (os:K1):SeqAt.shaped (Ff os)=true:=by
 unfold SeqAt.shaped;refine W6.mpr ⟨?_,P0 ?_⟩
 ·simp [Ff,PyData.canLay0,Nn]
 ·simp only [Ff,PyData.depth,Pw];lia
def Zj0 (ak:K6) (v:K7):J8:=((range ak.length).filter λr=>decide (((v.count r:Nat):Int) < ak.getD r 0)).map λr=>v ++ [r]
def Qhv (ak:K6):Nat->List K7
 | 0 => [[]]
 | n + 1=>(Qhv ak n).flatMap (Zj0 ak)
theorem Qsz:((c:Int) < ak.getD r 0) ↔ c < bF ak r:=by unfold bF;lia
theorem Eu {v:K7}:Fit (bF ak) (v ++ [r]) ↔ Fit (bF ak) v/\v.count r < bF ak r:=by
 constructor
 ·intro h;refine ⟨λx=>?_,?_⟩
  ·have:=h x;rw [count_append] at this;lia
  ·have:=h r;rw [count_append] at this;simp at this;lia
 ·rintro ⟨h1,h2⟩ x;rw [count_append]
  by_cases hx:r=x
  ·subst hx;simp;lia
  ·have:=h1 x;simp [hx];lia
theorem Js {ak:K6}:∀ {n:Nat} {v:K7},v∈Qhv ak n ↔ v.length=n/\Fit (bF ak) v
 | 0,v=>by
  rw [Qhv,mem_singleton]
  constructor
  ·rintro rfl;exact ⟨rfl,λr=>by simp⟩
  ·rintro ⟨h,_⟩;exact A0h.mp h
 | n + 1,v=>by
  rw [Qhv,mem_flatMap]
  constructor
  ·rintro ⟨u,hu,hv⟩;obtain ⟨h1,h2⟩:=Js.mp hu;obtain ⟨r,hr,rfl⟩:=O8.mp hv;obtain ⟨h3,h4⟩:=U3.mp hr;exact ⟨by simp [h1],Eu.mpr ⟨h2,Qsz.mp (Q6 h4)⟩⟩
  ·rintro ⟨h1,h2⟩;have hne:v≠[]:=λz=>by rw [z] at h1; simp at h1
   have e:=(dropLast_concat_getLast hne).symm;rw [e] at h2;obtain ⟨h3,h4⟩:=Eu.mp h2;refine ⟨v.dropLast,Js.mpr ⟨by simp [h1],h3⟩,?_⟩;refine O8.mpr ⟨v.getLast hne,U3.mpr ⟨?_,P0 (Qsz.mpr h4)⟩,e.symm⟩;rw [mem_range];exact Jt h2 _ (by simp)
def Ux (ak:K6) (aj:J7):J8:=(Qhv ak aj.length).filter λv=>decide (∀ u∈Qhv ak aj.length,wsum (wF aj) u<=wsum (wF aj) v)
theorem Ni {v:K7}:v∈Ux ak aj ↔ v.length=aj.length/\Fit (bF ak) v/\Opt ak aj v:=by
 unfold Ux;rw [mem_filter,Js];simp only [decide_eq_true_eq]
 constructor
 ·rintro ⟨⟨h1,h2⟩,h3⟩;exact ⟨h1,h2,λu hu hf=>h3 u (Js.mpr ⟨by lia,hf⟩)⟩
 ·rintro ⟨h1,h2,h3⟩;exact ⟨⟨h1,h2⟩,λu hu=>h3 u (by have:=(Js.mp hu).1; lia) (Js.mp hu).2⟩
theorem Rows.app {ws1 ws2:K9} {r1 r2:J7} (h1:Rows H ws1 r1) (h2:Rows H ws2 r2):Rows H (ws1 ++ ws2) (r1 ++ r2):=by
 refine ⟨by simp [h1.1,h2.1],λi a row z1 z2=>?_⟩
 by_cases hi:i < ws1.length
 ·rw [getElem?_append_left hi] at z1;rw [getElem?_append_left (by rw [<- h1.1]; exact hi)] at z2;exact h1.2 i a row z1 z2
 ·rw [getElem?_append_right (by lia)] at z1;rw [getElem?_append_right (by rw [<- h1.1]; lia),<- h1.1] at z2;exact h2.2 _ a row z1 z2
def Itv (K:N5) (a:G5) (n:Nat):It :=⟨λi H => ∃ xs x,SqL K H a xs/\xs.length=n/\xs.reverse[i]? = some x,λi H x H'=>H'=H/\∀ xs,SqL K H a xs->xs.reverse[i]? = some x,λi H=>i=n⟩
theorem Qgk {P:G8} {w:World} {tg:Expr} (a it:G5) (n:Nat):Qd3 P w K tg (Itv K a n) [it] it (λi h=>h.IsRevIter it a ((n:Int) - 1 - (i:Int))) where
 mem:=by simp
 obj:=λi h st b hb=>by
  have e:b=it:=by simpa using hb
  subst e;obtain ⟨o,e,c,d⟩:=st;exact ⟨o,e,λv z=>by rw [d] at z; cases z⟩
 keep:=λi h h' st k=>st.at λo e=>k it (by simp) o e
 item:=by
  intro X hP hw hK hc i dz s σ H E I hf st hg;subst hP hw hK;obtain ⟨xs,x,hq,hn,hx⟩:=hg;have hi:i < n:=by have:=(N8.mp hx).1;simp at this;lia
  obtain ⟨its,rv,p,hz⟩:=I.list hq;obtain ⟨u,hu,ru⟩:=(Qgv rv).get hx;obtain ⟨f0,f1,f2,f3,f4,f5⟩:=hf it (by simp);have hl:=rv.length;have e1:(n:Int) - 1 - (i:Int)=((n - 1 - i:Nat):Int):=by lia
  have e2:((n - 1 - i:Nat):Int) - 1=(n:Int) - 1 - ((i + 1:Nat):Int):=by lia
  have hu2:its.toArray[n - 1 - i]? = some u:=by
   rw [getElem?_reverse (by lia)] at hu;have e3:its.length - 1 - i=n - 1 - i:=by lia
   rw [e3] at hu;simpa using hu
  rw [e1] at st;refine wpAny_pyNext_rev_item st p.isList (x:=u) hu2 λh' st' sb=>?_;rw [e2] at st';have I1:Inv X dz σ H { s with heap:=h' }:=I.turned (t':=s.toks) (λb o hb e=>(sb.2 b hb).trans e) f0 f1 f3 f4 f5;obtain ⟨o,e,c,d⟩:=id st';exact ⟨u,rfl,Qgq (s:={ s with heap:=h' }) e c d (by decide) ⟨x,H,I1,ru,⟨rfl,λys hy=>by rw [I.list_inj hy hq]; exact hx⟩,st',λb hb=>(hf b hb).1⟩⟩
 done:=by
  intro X hP hw hK hc i dz s σ H E I hf st hg;subst hP hw hK;have hg':i=n:=hg;subst hg';obtain ⟨f0,f1,f2,f3,f4,f5⟩:=hf it (by simp);have e1:(i:Int) - 1 - (i:Int)=-1:=by lia
  rw [e1] at st;exact wpAny_pyNext_rev_end (I.ok.hd hc) st λh' eb=>⟨rfl,I.turned (t':=s.toks) (λb o hb e=>eb b o hb e) f0 f1 f3 f4 f5⟩
 self:=λ_ _ _ _ _ st h=>wpAny_pyIter_revIter st h
def Zxv (K:N5) (tl:TE):TI:=λσ H R=>tl σ H λx H1 => ∃ a xs,x=.ref a/\SqL K H1 a xs/\R (Itv K a xs.length) H1
def Ql7 {tg:Expr} {t:TE} {p:Pos} (hK:X.K=K) (hg:Gl X "reversed") (hm:X.mg "reversed" = none) (ha:PE X e t)
  (he:starEach [e] X.env=(false,eval e X.env) :: starEach [] X.env:=by rfl):PI X tg (.Call (.Name "reversed" p) [e] [] pos) (Zxv K t):=by
 subst hK;intro dz s σ H R I h;refine V3 (Uw I hg hm (u:=.type "reversed") (by decide +kernel) ?_ (by decide) (by decide));refine W9 ?_ he rfl;rw [he];show wpAny _ _ (spliced ((false,eval e X.env) :: backTo pos (starEach [] X.env))) _ _ s;refine X8 (thn (ha dz s σ H _ I h) λu s1 ⟨x,H1,I1,r1,a,xs,e1,h1,q1⟩=>?_);subst e1;cases r1;refine X7 ?_;obtain ⟨its,rv,pl,hz⟩:=I1.list h1;have hl:=rv.length;refine call_reversed_list pl.isList ?_;have hit:(s1.heap.push (revObj a ((its.toArray.size:Int) - 1))).IsRevIter s1.heap.objs.size a ((xs.length:Int) - 1 - ((0:Nat):Int)):=by
  refine ⟨_,Q5 _ rfl,rfl,?_⟩;have e2:(its.toArray.size:Int) - 1=(xs.length:Int) - 1 - ((0:Nat):Int):=by rw [size_toArray,hl]; simp
  rw [e2];rfl
 refine wpAny_pyIter_revIter hit ?_;refine ⟨s1.heap.objs.size,[s1.heap.objs.size],_,_,H1,rfl,I1.kept (t':=s1.toks) λb o e=>O3 _ e,Qgk a _ xs.length,hit,λb hb=>?_,q1⟩;have e:b=s1.heap.objs.size:=by simpa using hb
 subst e;exact I1.fpOk (O7 _) (I1.hok.fresh (O7 _))
theorem Qt2 {a:G5} {xs:List V} {g:TG} {tb:TS} {D:Iw} {σ:St} (Pv:Nat->St->Hp->Prop) (h0:Pv 0 σ H) (hl:∀ i σ H,i<=xs.length->Pv i σ H->SqL K H a xs)
  (hs:∀ i x σ H,xs.reverse[i]? = some x->Pv i σ H->g x σ H λσ2 H2=>tb { D with nx:=Pv (i + 1),ct:=Pv (i + 1),bk:=D.nx } σ2 H2) (hd:∀ σ H,Pv xs.length σ H->D.nx σ H) :
  ∃ W:Nat->Nat->St->Hp->Prop,(∃ m,W 0 m σ H)/\∀ i m σ H,W i m σ H ->
   ((Itv K a xs.length).stop i H/\D.nx σ H)\/((Itv K a xs.length).go i H/\∃ N:St->Hp->Prop,(∀ σ' H',N σ' H'->∃ m',m' < m/\W (i + 1) m' σ' H')/\∀ x H',(Itv K a xs.length).yld i H x H'->g x σ H' λσ2 H2=>tb { D with nx:=N,ct:=N,bk:=D.nx } σ2 H2):=by
 refine ⟨λi m σ H=>m=xs.length - i/\i<=xs.length/\Pv i σ H,⟨xs.length,by simp,T3 _,h0⟩,?_⟩;rintro i m σ H ⟨rfl,hi,p⟩;have q:=hl i σ H hi p
 by_cases hlt:i < xs.length
 ·refine .inr ⟨⟨xs,xs.reverse[i]'(by simpa using hlt),q,rfl,R7 _⟩,Pv (i + 1),λσ' H' p'=>⟨xs.length - (i + 1),by lia,rfl,hlt,p'⟩,λx H' y=>?_⟩;obtain ⟨e,y⟩:=y;subst e;exact hs i x σ _ (y xs q) p
 ·have e:i=xs.length:=by lia
  subst e;exact .inl ⟨rfl,hd σ H p⟩
section
variable {prog:G8} {w:World} {A:G7} {E:K5} {s:G4}
def Lh {src:Source} {Q:Nat->G4->Prop} (hn:n≠0) (h:∀ i,i < n->Q i { s with drawn:=s.drawn.bump src }):wpAny (model prog w) A (choose src n) Q E s:=λΓ p hΓ=>by show Sem.wp (model prog w) Γ (.choose src n .pure) _ _ p s;rw [Sem.wp_choose];exact ⟨hn,h _ (Nat.mod_lt _ (Nat.pos_of_ne_zero hn))⟩
theorem Lx {α:Type}:∀ (n:Nat) (xs:List α) (s:G4) (Q:List α->G4->Prop),xs.length<=n->(∀ ys d,ys.Perm xs->Q ys { s with drawn:=d })->wpAny (model prog w) A (drawOrder n xs) Q E s
 | 0,xs,s,Q,hl,h=>by have:xs=[]:=A0h.mp (by lia);subst this;exact N6 (h [] s.drawn (List.Perm.refl _))
 | n + 1,[],s,Q,hl,h=>N6 (h [] s.drawn (List.Perm.refl _))
 | n + 1,y :: ys,s,Q,hl,h=>by
  unfold drawOrder;refine M9 (Lh (by simp) λi hi=>?_);rw [getElem?_eq_getElem hi];dsimp only;refine M9 (Lx n _ _ _ ?_ λzs d hp=>?_)
  ·rw [length_eraseIdx_of_lt hi];lia
  ·exact N6 (h _ _ ((hp.cons _).trans (Pu _ _ hi)))
def Qnq (first:G3) (S:G5) (n ep:Nat):Obj:={ cls:=.type "set_iterator",data:=.fields #[first,rawInt 0,.ref S,rawInt n,rawInt ep] }
def args_set_iter_1 (a:G3):argsOk "set.__iter__" ⟨[a],[]⟩:=by unfold argsOk; kernel_rfl
theorem Qf8 {o:Obj} {Q:K5} (ho:s.heap.get? S=some o) (hc:o.cls=.type "set") (hd:o.data=.set es ep t) (hf:t.fits es.size=true)
  (h1:(!w.params.followText "set-order" && (!t.plain && decide (es.size > 1)))=false->Q (.ref s.heap.objs.size) { s with heap:=s.heap.push (Qnq (rawInt 0) S es.size ep) })
  (h2:(!w.params.followText "set-order" && (!t.plain && decide (es.size > 1)))=true->∀ (ys:K7) d,ys.Perm (range es.size) ->
   Q (.ref (s.heap.objs.size + 1)) { s with heap:=(s.heap.push { cls:=.type "tuple",data:=.seq (ys.map λ(i:Nat)=>rawInt i).toArray }).push (Qnq (.ref s.heap.objs.size) S es.size ep),drawn:=d }) (hz:es.size<=sizeLine) :
  wpAny (model prog w) A (pyIter (.ref S)) Q E s:=by
 have hT:s.TypeIs (.ref S) "set" := ⟨o,ho,hc⟩
 refine wpAny_pyIter_slot hT slot_set_iter (Z0 slot_set_iter hT Fn ?_ (args_set_iter_1 _));unfold Builtin.«frozenset.__iter__»;unfold Builtin.Frozenset.slot0;refine M9 (M9 (W7 (a:=(Value.ref S,[])) rfl ?_));dsimp only;refine W7 (a:=S) rfl ?_;unfold Builtin.Frozenset.sizeOf setEntries;refine M9 (M9 (M9 (W4 ho hd hf (N6 (N6 ?_)))));unfold setDrawn;refine M9 (M9 (W4 ho hd hf ?_));dsimp only;unfold setsByText;refine M9 (M9 (A0g (N6 ?_)));refine N6 ?_;show wpAny (model prog w) A.in1 (if (!w.params.followText "set-order" && (!t.plain && decide (es.size > 1)))=true then _ else _) _ _ _;cases hb:(!w.params.followText "set-order" && (!t.plain && decide (es.size > 1))) with
 | false =>rw [if_neg Bool.false_ne_true];refine M9 (N6 (M9 (wpAny_setEpoch_of ho hd hf ?_)));refine M9 (V2 ?_);exact N6 ⟨_,rfl,"set_iterator",_,⟨_,Q5 _ rfl,rfl⟩,Zx.lookup,h1 hb⟩
 | true =>
  rw [if_pos rfl];refine M9 (Lx _ _ _ _ (by simp) λys d hp=>?_);have hyl:ys.length=es.size:=by rw [hp.length_eq]; simp
  refine M9 (wpAny_newTuple ?_ ?_)
  ·refine M9 (wpAny_setEpoch_of (O3 _ ho) hd hf ?_);refine M9 (V2 ?_);have hsz:(s.heap.push { cls:=.type "tuple",data:=.seq (ys.map λ(i:Nat)=>rawInt i).toArray }).objs.size=s.heap.objs.size + 1:=Heap.size_push _ _;have:=h2 hb ys d hp;refine N6 ⟨_,rfl,"set_iterator",_,⟨_,Q5 _ rfl,rfl⟩,Zx.lookup,?_⟩;show Q (.ref (s.heap.push { cls:=.type "tuple",data:=.seq (ys.map λ(i:Nat)=>rawInt i).toArray }).objs.size) _;rw [hsz];exact this
  ·rw [length_map,hyl];exact hz
def Hl (h:Heap) (it S:G5) (first:G3) (i:Int) (n ep:Nat):Prop:=∃ o,h.get? it=some o/\o.cls=.type "set_iterator"/\o.data=.fields #[first,rawInt i,.ref S,rawInt n,rawInt ep]
def Hl.typeIs {i:Int} (x:Hl s.heap it S first i n ep):s.TypeIs (.ref it) "set_iterator" := let ⟨o,ho,hc,_⟩:=x; ⟨o,ho,hc⟩
def Hl.at_ {h h':Heap} {i:Int} (x:Hl h it S first i n ep) (e:∀ o,h.get? it=some o->h'.get? it=some o):Hl h' it S first i n ep:=let ⟨o,ho,r⟩:=x; ⟨o,e _ ho,r⟩
def Bg {a:G5} {o:Obj} (hit:Hl s.heap it a (rawInt (slot:Int)) (i:Int) es.size ep) (ho:s.heap.get? a=some o) (hd:o.data=.set es ep t) (hf:t.fits es.size=true)
  {nx:Nat} (hn:∀ (A:G7) (E:K5) (Q:Option (G3 × Nat)->G4->Prop),Q (some (x,nx)) s->wpAny (model prog w) A (setNext a slot i ep) Q E s)
  (hQ:∀ h',Hl h' it a (rawInt (nx:Int)) ((i + 1:Nat):Int) es.size ep->Heap.SameBut it s.heap h'->Q (some x) { s with heap:=h' }):wpAny (model prog w) A (pyNext (.ref it)) Q E s:=by
 obtain ⟨u,hu,hc,hud⟩:=id hit;unfold pyNext;refine M9 (A0q (A0n (name:=Str.ofString "__next__") hit.typeIs Zx
  (Z0 Zx hit.typeIs Yi ?_ (Ym _))))
 unfold Builtin.«set_iterator.__next__»;refine M9 (W7 (a:=(Value.ref it,[])) rfl ?_);dsimp only;refine M9 (wpAny_fieldsOf hu hud ?_);dsimp only [rawInt];unfold setEntries;refine M9 (M9 (W4 ho hd hf (N6 ?_)));rw [if_neg (by simp)];refine M9 (hn _ _ _ ?_);dsimp only;refine M9 (A0i hu hud (by simp) ?_);have g1:=A1e (Obj.mapFields λvs=>vs.setIfInBounds 0 (rawInt (nx:Int))) hu (A1f (Z1 hud _));have d1:=Z1 hud λvs=>vs.setIfInBounds 0 (rawInt (nx:Int));refine M9 (A0i g1 d1 (by simp) ?_);have g2:=A1e (Obj.mapFields λvs=>vs.setIfInBounds 1 (rawInt ((i:Int) + 1))) g1 (A1f (Z1 d1 _));have d2:=Z1 d1 λvs=>vs.setIfInBounds 1 (rawInt ((i:Int) + 1));refine N6 ⟨x,rfl,N6 (hQ _ ⟨_,g2,?_,?_⟩ ((T9 s.heap it _).trans (T9 _ it _)))⟩
 ·exact (Obj.cls_mapFields ..).trans ((Obj.cls_mapFields ..).trans hc)
 ·rw [d2];simp
def Az {a:G5} {o:Obj} (hh:A.handled=none) (hit:Hl s.heap it a (rawInt (slot:Int)) (i:Int) es.size ep) (ho:s.heap.get? a=some o) (hd:o.data=.set es ep t) (hf:t.fits es.size=true)
  (hn:∀ (A:G7) (E:K5) (Q:Option (G3 × Nat)->G4->Prop),Q none s->wpAny (model prog w) A (setNext a slot i ep) Q E s)
  (hQ:∀ h',Heap.ExtBut it s.heap h'->Q none { s with heap:=h' }):wpAny (model prog w) A (pyNext (.ref it)) Q E s:=by
 obtain ⟨u,hu,hc,hud⟩:=id hit;unfold pyNext;refine M9 (A0q (A0n (name:=Str.ofString "__next__") hit.typeIs Zx
  (Z0 Zx hit.typeIs Yi ?_ (Ym _))))
 unfold Builtin.«set_iterator.__next__»;refine M9 (W7 (a:=(Value.ref it,[])) rfl ?_);dsimp only;refine M9 (wpAny_fieldsOf hu hud ?_);dsimp only [rawInt];unfold setEntries;refine M9 (M9 (W4 ho hd hf (N6 ?_)));rw [if_neg (by simp)];refine M9 (hn _ _ _ ?_);dsimp only;refine M9 (A0i hu hud (by simp) ?_);refine M9 ?_;simp only [newExc,newTuple];refine M9 (V2 ?_ (by size_fits));refine M9 (m:=firstArgMember _ _) (W7 (a:=Value.none) (by first | rfl | (simp only [firstArgMember]; rfl)) ?_);refine V2 ?_ (by size_fits);simp only [raiseNew];refine M9 (wpAny_handled ?_)
 first | rw [show A.in1.handled=none from hh] | rw [hh]
 refine M9 (N6 (wpAny_throw ?_));refine M9 (wpAny_isInstance (T:="StopIteration") (b:=true) ⟨_,Q5 _ rfl,rfl⟩ isSubtype_stop ?_);exact N6 (hQ _ ((((T9 s.heap it _).extBut).push _).push _))
def Qww {a tp:G5} {o:Obj} {place:Nat} {ps:Array G3} {tk:Tok} (hit:Hl s.heap it a (.ref tp) (i:Int) es.size ep) (ho:s.heap.get? a=some o) (hd:o.data=.set es ep t) (hf:t.fits es.size=true)
  (hto:s.heap.get? tp=some ot) (htd:ot.data=.seq ps c) (hp:ps[i]? = some (.int (place:Int) tk)) {hx:Int} (hxx:es[place]? = some (hx,x))
  (hQ:∀ h',Hl h' it a (.ref tp) ((i + 1:Nat):Int) es.size ep->Heap.SameBut it s.heap h'->Q (some x) { s with heap:=h' }):wpAny (model prog w) A (pyNext (.ref it)) Q E s:=by
 obtain ⟨u,hu,hc,hud⟩:=id hit;unfold pyNext;refine M9 (A0q (A0n (name:=Str.ofString "__next__") hit.typeIs Zx
  (Z0 Zx hit.typeIs Yi ?_ (Ym _))))
 unfold Builtin.«set_iterator.__next__»;refine M9 (W7 (a:=(Value.ref it,[])) rfl ?_);dsimp only;refine M9 (wpAny_fieldsOf hu hud ?_);dsimp only [rawInt];unfold setEntries;refine M9 (M9 (W4 ho hd hf (N6 ?_)));rw [if_neg (by simp)];refine M9 (A0p hto htd ?_);dsimp only;rw [show (i:Int).toNat=i from rfl,hp];dsimp only;refine M9 (Of ho hd hf (place:=(place:Int).toNat) hxx ?_);refine M9 (A0i hu hud (by simp) ?_);have g1:=A1e (Obj.mapFields λvs=>vs.setIfInBounds 1 (rawInt ((i:Int) + 1))) hu (A1f (Z1 hud _));have d1:=Z1 hud λvs=>vs.setIfInBounds 1 (rawInt ((i:Int) + 1));refine N6 ⟨x,rfl,N6 (hQ _ ⟨_,g1,?_,?_⟩ (T9 s.heap it _))⟩
 ·exact (Obj.cls_mapFields ..).trans hc
 ·rw [d1];simp
def Qp4 {a tp:G5} {o:Obj} {ps:Array G3} (hh:A.handled=none) (hit:Hl s.heap it a (.ref tp) (i:Int) es.size ep) (ho:s.heap.get? a=some o) (hd:o.data=.set es ep t) (hf:t.fits es.size=true)
  (hto:s.heap.get? tp=some ot) (htd:ot.data=.seq ps c) (hp:ps[i]? = none)
  (hQ:∀ h',Heap.ExtBut it s.heap h'->Q none { s with heap:=h' }):wpAny (model prog w) A (pyNext (.ref it)) Q E s:=by
 obtain ⟨u,hu,hc,hud⟩:=id hit;unfold pyNext;refine M9 (A0q (A0n (name:=Str.ofString "__next__") hit.typeIs Zx
  (Z0 Zx hit.typeIs Yi ?_ (Ym _))))
 unfold Builtin.«set_iterator.__next__»;refine M9 (W7 (a:=(Value.ref it,[])) rfl ?_);dsimp only;refine M9 (wpAny_fieldsOf hu hud ?_);dsimp only [rawInt];unfold setEntries;refine M9 (M9 (W4 ho hd hf (N6 ?_)));rw [if_neg (by simp)];refine M9 (A0p hto htd ?_);dsimp only;rw [show (i:Int).toNat=i from rfl,hp];dsimp only;refine M9 (A0i hu hud (by simp) ?_);have g1:=A1e (Obj.mapFields λvs=>vs.setIfInBounds 0 (rawInt 0)) hu (A1f (Z1 hud _));have d1:=Z1 hud λvs=>vs.setIfInBounds 0 (rawInt 0);refine M9 (A0i g1 d1 (by simp) ?_);refine M9 ?_;simp only [newExc,newTuple];refine M9 (V2 ?_ (by size_fits));refine M9 (m:=firstArgMember _ _) (W7 (a:=Value.none) (by first | rfl | (simp only [firstArgMember]; rfl)) ?_);refine V2 ?_ (by size_fits);simp only [raiseNew];refine M9 (wpAny_handled ?_)
 first | rw [show A.in1.handled=none from hh] | rw [hh]
 refine M9 (N6 (wpAny_throw ?_));refine M9 (wpAny_isInstance (T:="StopIteration") (b:=true) ⟨_,Q5 _ rfl,rfl⟩ isSubtype_stop ?_);exact N6 (hQ _ (((((T9 s.heap it _).trans (T9 _ it _)).extBut).push _).push _))
end
def Fy (a:G3):argsOk "set_iterator.__iter__" ⟨[a],[]⟩:=by unfold argsOk; rw [signature?_of (id:="set_iterator.__iter__") (n:=['_','_','r','e','t','i','_','_']) (o:=['r','o','t','a','r','e','t','i','_','t','e','s']) (by kernel_rfl) Bc]; kernel_rfl
def Ft:entryFor table "set_iterator.__iter__" = some Builtin.«dict_keyiterator.__iter__» :=entryFor_alias (id':="dict_keyiterator.__iter__") (by kernel_rfl) (by first | rfl | decide +kernel | (unfold String.splitOn; simp +decide [String.splitOnAux])) (by decide +kernel) (by kernel_rfl)
section
variable {prog:G8} {w:World} {A:G7} {E:K5} {s:G4}
def Nd {i:Int} {Q:K5} (hit:Hl s.heap it S first i n ep) (h:Q (.ref it) s):wpAny (model prog w) A (pyIter (.ref it)) Q E s:=by refine wpAny_pyIter_slot hit.typeIs Tv (Z0 Tv hit.typeIs Ft ?_ (Fy _));show wpAny _ _ (ret (.ref it)) _ _ s;exact N6 ⟨_,rfl,"set_iterator",_,hit.typeIs,Zx.lookup,h⟩
def Qyv (h:t.fits n=true):t.place.size=n:=by simp only [SetTable.fits,Bool.and_eq_true,beq_iff_eq,decide_eq_true_eq] at h;exact h.1
theorem Qv7 (hh:A.handled=none) (hne:S≠it) {o:Obj} (hd:o.data=.set es ep t) (hf:t.fits es.size=true) (hl:t.led=true) (hw:w.params.followText "set-order" = false) (hp:(!t.plain && decide (es.size > 1))=false) (hr:Qg5 t.place) :
  Walks prog w A it [it,S] [it] es.size (λi v=>(es.toList.map (λe=>e.2))[i]? = some v) (λi h=>(∃ slot:Nat,SetTable.below t.place slot=i/\Hl h it S (rawInt (slot:Int)) (i:Int) es.size ep)/\h.get? S=some o) where
 sub:=λb hb=>by simp at hb; simp [hb]
 frame:=λi h h' x hk=>by obtain ⟨⟨slot,h1,h2⟩,h3⟩:=x;exact ⟨⟨slot,h1,h2.at_ λo e=>hk it (by simp) o e⟩,hk S (by simp) o h3⟩
 item:=λi s Q E hi x hQ=>by
  obtain ⟨⟨slot,h1,h2⟩,h3⟩:=x;have hps:=Qyv hf;have e1:es[i]? = some es[i]:=by simp [hi]
  have e2:t.place[i]? = some (t.place.getD i 0):=by simp [Array.getD,hps,hi]
  refine Bg h2 h3 hd hf (x:=es[i].2) (nx:=t.place.getD i 0 + 1) (λA E Q q=>Ar h3 hd hf hl hw hp (by rw [h1,e1,e2]; exact q)) λh' st' sb=>?_;refine hQ _ h' s.toks ?_ ⟨⟨_,Qq5 hr (by lia),st'⟩,(sb.2 S hne).trans h3⟩ λb o hb e=>sb.extBut b o (λh=>hb (by simp [h])) e;simp [hi]
 done:=λs Q E x hQ=>by obtain ⟨⟨slot,h1,h2⟩,h3⟩:=x;refine Az hh h2 h3 hd hf (λA E Q q=>Ar h3 hd hf hl hw hp (by rw [h1]; simpa using q)) λh' eb=>?_;exact hQ h' s.toks λb o hb e=>eb b o (λh=>hb (by simp [h])) e
 self:=λi s Q E x hQ=>by obtain ⟨⟨slot,h1,h2⟩,h3⟩:=x;exact Nd h2 hQ
theorem Ig (hh:A.handled=none) (hne:S≠it) {o:Obj} (hd:o.data=.set es ep t) (hf:t.fits es.size=true) (hw:w.params.followText "set-order" = true) :
  Walks prog w A it [it,S] [it] es.size (λi v=>((pickOrder (w.params.setOrder S ep) es).toList.map (λe=>e.2))[i]? = some v) (λi h=>Hl h it S (rawInt ((0:Nat):Int)) (i:Int) es.size ep/\h.get? S=some o) where
 sub:=λb hb=>by simp at hb; simp [hb]
 frame:=λi h h' x hk=>⟨x.1.at_ λo e=>hk it (by simp) o e,hk S (by simp) o x.2⟩
 item:=λi s Q E hi x hQ=>by
  obtain ⟨h2,h3⟩:=x;have hpl:(pickOrder (w.params.setOrder S ep) es).size=es.size:=by have:=(Tz (w.params.setOrder S ep) es.size 0 es.toList #[] (by simp)).length_eq;simpa [pickOrder] using this
  have e1:(pickOrder (w.params.setOrder S ep) es)[i]? = some ((pickOrder (w.params.setOrder S ep) es)[i]'(by lia)):=by simp [hpl,hi]
  refine Bg h2 h3 hd hf (x:=((pickOrder (w.params.setOrder S ep) es)[i]'(by lia)).2) (nx:=0) (λA E Q q=>Bl h3 hd hf hw (by rw [e1]; exact q)) λh' st' sb=>?_;refine hQ _ h' s.toks ?_ ⟨st',(sb.2 S hne).trans h3⟩ λb o hb e=>sb.extBut b o (λh=>hb (by simp [h])) e;simp [hi,hpl]
 done:=λs Q E x hQ=>by
  obtain ⟨h2,h3⟩:=x;have hpl:(pickOrder (w.params.setOrder S ep) es).size=es.size:=by have:=(Tz (w.params.setOrder S ep) es.size 0 es.toList #[] (by simp)).length_eq;simpa [pickOrder] using this
  refine Az hh h2 h3 hd hf (λA E Q q=>Bl h3 hd hf hw (by rw [show (pickOrder (w.params.setOrder S ep) es)[es.size]? = none by simp [hpl]]; exact q)) λh' eb=>?_;exact hQ h' s.toks λb o hb e=>eb b o (λh=>hb (by simp [h])) e
 self:=λi s Q E x hQ=>Nd x.1 hQ
theorem Cc (hh:A.handled=none) {tp:G5} (hne:S≠it) (hne2:tp≠it) {o:Obj} (hd:o.data=.set es ep t) (hf:t.fits es.size=true) {ys:K7} (hy:ys.Perm (range es.size)) (htd:ot.data=.seq (ys.map λ(i:Nat)=>rawInt i).toArray c) :
  Walks prog w A it [it,S,tp] [it] es.size (λi v=>(ys.map λj=>(es.getD j (0,.none)).2)[i]? = some v) (λi h=>Hl h it S (.ref tp) (i:Int) es.size ep/\h.get? S=some o/\h.get? tp=some ot) where
 sub:=λb hb=>by simp at hb; simp [hb]
 frame:=λi h h' x hk=>⟨x.1.at_ λo e=>hk it (by simp) o e,hk S (by simp) o x.2.1,hk tp (by simp) ot x.2.2⟩
 item:=λi s Q E hi x hQ=>by
  obtain ⟨h2,h3,h4⟩:=x;have hyl:ys.length=es.size:=by rw [hy.length_eq]; simp
  have hlt:ys[i]'(by lia) < es.size:=O1.mp (hy.mem_iff.mp (N7 _));have e1:(ys.map λ(i:Nat)=>rawInt i).toArray[i]? = some (.int ((ys[i]'(by lia):Nat):Int) 0):=by simp [hyl,hi,rawInt]
  refine Qww h2 h3 hd hf h4 htd e1 (hx:=(es[ys[i]'(by lia)]'hlt).1) (x:=(es[ys[i]'(by lia)]'hlt).2) (by simp [hlt]) λh' st' sb=>?_;refine hQ _ h' s.toks ?_ ⟨st',(sb.2 S hne).trans h3,(sb.2 tp hne2).trans h4⟩ λb o hb e=>sb.extBut b o (λh=>hb (by simp [h])) e;simp [hyl,hi,Array.getD,hlt]
 done:=λs Q E x hQ=>by
  obtain ⟨h2,h3,h4⟩:=x;have hyl:ys.length=es.size:=by rw [hy.length_eq]; simp
  refine Qp4 hh h2 h3 hd hf h4 htd (by simp [hyl]) λh' eb=>?_;exact hQ h' s.toks λb o hb e=>eb b o (λh=>hb (by simp [h])) e
 self:=λi s Q E x hQ=>Nd x.1 hQ
end
def Qcq:typeLookup (.type "set") "__len__" = pure (some (.builtin "set.__len__")):=by rw [typeLookup_type,builtinLookup_eq_fast]; kernel_rfl
section
variable {prog:G8} {w:World} {A:G7} {E:K5} {s:G4}
def Sh {Good:List G3->Prop} {Q:List G3->G4->Prop} (hT:s.TypeIs (.ref S) "set")
  (hit:∀ (s₁:G4) (K:K5) (E:K5),s₁={ s with heap:=s.heap.push { cls:=.type "list",data:=.seq ([]:K8).toArray } } ->
   (∀ (I:G5) (fp wr:K9) (n:Nat) (P:Nat->G3->Prop) (St:Nat->Heap->Prop) (s₂:G4),Walks prog w A.in1 I fp wr n P St->St 0 s₂.heap->s.heap.objs.size ∉ fp->(∀ b∈wr,s.heap.objs.size < b)->(∀ b o,s₁.heap.get? b=some o->s₂.heap.get? b=some o) ->
    s₂.gens=s₁.gens->s₂.os=s₁.os->n<=sizeLine->(∀ acc:Array G3,ItemsOf P acc n->Good acc.toList)->K (.ref I) s₂)->wpAny (model prog w) A.in1 (pyIter (.ref S)) K E s₁)
  (hQ:∀ vs s',Good vs->(∀ b o,s.heap.get? b=some o->s'.heap.get? b=some o)->s.heap.objs.size < s'.heap.objs.size->s'.gens=s.gens->s'.os=s.os->Q vs s'):wpAny (model prog w) A (collect (.ref S)) Q E s:=by
 obtain ⟨o,ho,hc⟩:=id hT;have hSI:s.heap.objs.size≠S:=(O9 (O5 ho)).symm;unfold collect;refine M9 (wpAny_runValue (W2 F.entry_proto_collect ?_));rw [Around.under_plainId F.plain_proto_collect _];show wpAny _ A.in1 (newList [] >>= λl=>again (.builtin "list.__iadd__" ⟨[l,.ref S],[]⟩)) _ _ s;refine M9 (V2 ?_);refine N6 ⟨X5 F.plain_list_iadd _,W2 F.entry_list_iadd ?_⟩;rw [Around.under_plainId F.plain_list_iadd _];have hS₁:(s.heap.push { cls:=.type "list",data:=.seq ([]:K8).toArray }).get? s.heap.objs.size=some { cls:=.type "list",data:=.seq ([]:K8).toArray }:=Q5 _ rfl;have h1:Builtin.List.listSameRef (.ref s.heap.objs.size) (.ref S)=false:=by simp [Builtin.List.listSameRef,hSI]
 show wpAny _ A.in1 (Builtin.List.listExtendWith (.ref s.heap.objs.size) (.ref S) (.ref s.heap.objs.size)) _ _ _;unfold Builtin.List.listExtendWith;refine M9 (wpAny_typeOf (T:="set") ⟨o,O3 _ ho,hc⟩ ?_);rw [if_neg (by rw [h1]; decide)];refine M9 (hit _ _ _ rfl λI fp wr n P St s₂ W hst hSf hwr hk hg hos hn hgood=>?_);have ho₂:s₂.heap.get? S=some o:=hk _ _ (O3 _ ho);have hS₂:=hk _ _ hS₁;have hT₂:s₂.TypeIs (.ref S) "set" := ⟨o,ho₂,hc⟩
 refine M9 (U5 ?_);unfold Builtin.List.listLengthHint;refine M9 (wpAny_specialOf hT₂ Qcq ?_);generalize hid:("set.__len__" : String)=id0
 wp_delta
 rw [show splitId id0=some ("set","__len__") from by subst hid; decide +kernel];subst hid;refine M9 (wpAny_isInstance (b:=true) hT₂ (by rw [isSubtype_type]; kernel_rfl) ?_);rw [if_neg (by decide)];rw [if_pos (by decide +kernel)];refine M9 (wpAny_typeOf (T:="set") hT₂ ?_);refine N6 ?_;dsimp only;rw [if_pos (by decide +kernel)];refine M9 (wpAny_rule ?_);unfold Builtin.List.listTouch;refine M9 (M9 (A0j (xs:=#[]) (n:=0) hS₂ rfl ?_ (by simp) (by simp)));have hS₃:=Z7 (c:="list") (xs:=#[]) (n:=0) hS₂ (·.push .none);refine A0j hS₃ rfl ?_ (by simp [sizeLine_eq]) (by simp);have hS₄:=Z7 (c:="list") hS₃ (·.pop);refine N6 ⟨X5 F.plain_extend_loop _,?_⟩;have oth:∀ b o,b≠s.heap.objs.size->s₂.heap.get? b=some o->((s₂.heap.update s.heap.objs.size (Obj.mapSeq (·.push .none))).update s.heap.objs.size (Obj.mapSeq (·.pop))).get? b=some o:=λb o hb e=>by rw [Heap.get?_update_other _ _ (Ne.symm hb),Heap.get?_update_other _ _ (Ne.symm hb)];exact e
 refine codeAny_extend_loopS W.toS hn _ hSf _ n 0 _ _ _ rfl (T3 _) (W.frame 0 _ _ hst λb hb o e=>oth b o (λz=>hSf (z ▸ hb)) e) hS₄ (ItemsOf.nil P) λs' acc' c' hm hS' hacc=>?_;show wpAny _ A (load s.heap.objs.size >>= _) _ _ s';refine M9 (wpAny_load hS' ?_);refine N6 (hQ _ s' (hgood acc' hacc) (λb o e=>?_) (O5 hS') ?_ ?_)
 ·have hlt:=O5 e;refine hm.heap b o (λz=>?_) (oth b o (O9 hlt) (hk _ _ (O3 _ e)));rcases R3.mp z with z | z
  ·exact absurd z (O9 hlt)
  ·exact absurd (hwr b z) (A0d.mpr (V5 hlt))
 ·exact hm.gens.trans hg
 ·exact hm.os.trans hos
def Na {L:K8} (hl:L.length=n) {acc:Array G3} (h:ItemsOf (λi v=>L[i]? = some v) acc n):acc.toList=L:=by
 refine U7 (by rw [Array.length_toList,h.1,hl]) λi h1 h2=>?_;have h1':i < acc.size:=by simpa using h1
 have h3:L[i]? = some acc[i]:=h.2 i _ (Array.getElem?_eq_getElem h1');rw [Array.getElem_toList];exact (N8.mp h3).2.symm
theorem Ai:∀ {vs:K8},(∀ v∈vs,∃ n t,v=Value.int n t)->∃ ns,IntsAre vs ns
 | [],_=>⟨[],.nil⟩
 | v :: r,h=>by obtain ⟨n,t,rfl⟩:=h v Q7;obtain ⟨ns,hn⟩:=Ai λv hv=>h v (Q8 _ hv);exact ⟨n :: ns,.cons n t hn⟩
def Qf9 {vs:K8} {ns:K6} (h:IntsAre vs ns) {k:Int} {t:Tok} (hm:Value.int k t∈vs):k∈ns:=by obtain ⟨i,hi⟩:=getElem?_of_mem hm;obtain ⟨n,t',e,hn⟩:=h.at i _ hi;cases e;exact T8 hn
theorem Fx:∀ {ks ns:K6},ks.Nodup->(∀ k∈ks,k∈ns)->ns.length=ks.length->ns.Perm ks
 | [],ns,_,_,hl=>by have:ns=[]:=A0h.mp hl;subst this;exact List.Perm.refl _
 | k :: ks,ns,hn,hs,hl=>by
  have hk:=hs k Q7;have hp:=perm_cons_erase hk;obtain ⟨hn1,hn2⟩:=nodup_cons.mp hn;refine hp.trans ((Fx hn2 (λz hz=>?_) ?_).cons k)
  ·exact (mem_erase_of_ne (λ(e:z=k)=>hn1 (by rw [<- e]; exact hz))).mpr (hs z (Q8 _ hz))
  ·rw [length_erase_of_mem hk,hl];simp
def Qyz {ks:K6} (hel:ElemsOf (intKind prog w) es.toList) (g8:∀ k:Int,(ks.any (· == k))=true ↔ ∃ e∈es.toList,(intKind prog w).is k e.2=true) (hn:es.size=ks.length) (hnd:ks.Nodup) {vs:K8} (hp:vs.Perm (es.toList.map λe=>e.2)) :
  ∃ ns,IntsAre vs ns/\ns.Perm ks:=by
 obtain ⟨ns,h1⟩:=Ai (vs:=vs) λv hv=>by obtain ⟨e,he,rfl⟩:=O8.mp (hp.mem_iff.mp hv);obtain ⟨⟨k,hk,_⟩,_⟩:=hel e he;obtain ⟨t,e2⟩:=Value.isInt_shape (k:=k) (v:=e.2) hk;exact ⟨k,t,e2⟩
 refine ⟨ns,h1,Fx hnd (λk hk=>?_) ?_⟩
 ·obtain ⟨e,he,hi⟩:=(g8 k).mp (any_eq_true.mpr ⟨k,hk,by simp⟩);obtain ⟨t,e2⟩:=Value.isInt_shape (k:=k) (v:=e.2) hi;refine Qf9 h1 (k:=k) (t:=t) (hp.mem_iff.mpr ?_);rw [<- e2];exact O8.mpr ⟨e,he,rfl⟩
 ·rw [<- h1.length,hp.length_eq,length_map,Array.length_toList,hn]
theorem Oj {ks:K6} {Q:K5} (hh:A.handled=none) (hI:Rm prog w (!w.params.followText "set-order") s.heap S ks) (hnd:ks.Nodup) (h64:ks.length < 64)
  (h:∀ (s':G4) (L:G5) (out:K8) (ms:K6) (e:Nat),IntsAre out ms->ms.Perm ks->ms.Pairwise (·<=·)->(∀ b o,s.heap.get? b=some o->s'.heap.get? b=some o)->s.heap.objs.size<=L->s'.heap.get? L=some (seqObj "list" out.toArray e)->s'.gens=s.gens->s'.os=s.os->Q (.ref L) s') :
  wpAny (model prog w) A (call (.builtin "sorted") [.ref S]) Q E s:=by
 obtain ⟨⟨o,es,ep,t,ho,hex,hd,hel,g8,hb,hf,hn⟩,o',es',ep',t',ho',hd',hi⟩:=hI;rw [ho] at ho';cases ho';rw [hd] at hd';cases hd';have hSlt:=O5 ho;have hz:es.size<=sizeLine:=by rw [hn,sizeLine_eq]; lia
 have hps:∀ {vs:K8},vs.Perm (es.toList.map λe=>e.2)->∃ ns,IntsAre vs ns/\ns.Perm ks:=λhp=>Qyz hel g8 hn hnd hp;refine Calls.call_function_entry kind_sorted plain_sorted entry_sorted (args_sorted1 _) ?_;unfold Builtin.«sorted»;refine M9 (m:=checkCount "sorted" 1 1 _) (N6 ?_);refine M9 (Sh (Good:=λvs => ∃ ns,IntsAre vs ns/\ns.Perm ks) ⟨o,ho,hex.1⟩ (λs₁ K E e₁ hK=>?_) λvs s' hg hk hsz hgens hos=>?_)
 ·subst e₁;have ho1:(s.heap.push { cls:=.type "list",data:=.seq ([]:K8).toArray }).get? S=some o:=O3 _ ho;have m9:(s.heap.push { cls:=.type "list",data:=.seq ([]:K8).toArray }).objs.size=s.heap.objs.size + 1:=Heap.size_push _ _;refine Qf8 ho1 hex.1 hd hf (λhdr=>?_) (λhdr ys d hy=>?_) hz
  ·have hit:Hl ((s.heap.push { cls:=.type "list",data:=.seq ([]:K8).toArray }).push (Qnq (rawInt 0) S es.size ep)) (s.heap.push { cls:=.type "list",data:=.seq ([]:K8).toArray }).objs.size S (rawInt ((0:Nat):Int)) ((0:Nat):Int) es.size ep:=⟨_,Q5 _ rfl,rfl,rfl⟩
   have hne:S≠(s.heap.push { cls:=.type "list",data:=.seq ([]:K8).toArray }).objs.size:=by rw [m9]; exact O9 (V6 hSlt)
   have c1:s.heap.objs.size ∉ [(s.heap.push { cls:=.type "list",data:=.seq ([]:K8).toArray }).objs.size,S]:=by
    rw [m9];intro z;rcases R3.mp z with z | z
    ·exact absurd z (O9 (U9 _))
    ·exact absurd (mem_singleton.mp z) (A0b hSlt)
   have c2:∀ b∈[(s.heap.push { cls:=.type "list",data:=.seq ([]:K8).toArray }).objs.size],s.heap.objs.size < b:=λb hb=>by rw [mem_singleton.mp hb,m9];exact U9 _
   cases hw:w.params.followText "set-order" with
   | true =>
    refine hK _ _ _ _ _ _ _ (Ig (A:=A.in1.in1) hh hne hd hf hw) ⟨hit,O3 _ ho1⟩ c1 c2 (λb o e=>O3 _ e) rfl rfl hz λacc hacc=>?_;have hpp:=Tz (w.params.setOrder S ep) es.size 0 es.toList #[] (by simp);have hpl:(pickOrder (w.params.setOrder S ep) es).toList.Perm es.toList:=by simpa [pickOrder] using hpp
    rw [Na (by rw [length_map,hpl.length_eq,Array.length_toList]) hacc];exact hps (hpl.map _)
   | false =>
    have hl:t.led=true:=by rw [hi.led_,hw]; rfl
    rw [hw] at hdr;refine hK _ _ _ _ _ _ _ (Qv7 (A:=A.in1.in1) hh hne hd hf hl hw (by simpa using hdr) hi.rise) ⟨⟨0,Qq4 hi.rise,hit⟩,O3 _ ho1⟩ c1 c2 (λb o e=>O3 _ e) rfl rfl hz λacc hacc=>?_;rw [Na (by simp) hacc];exact hps (List.Perm.refl _)
  ·rw [m9];generalize hh1:s.heap.push { cls:=.type "list",data:=.seq ([]:K8).toArray }=h1 at *;have hsz2:(h1.push { cls:=.type "tuple",data:=.seq (ys.map λ(i:Nat)=>rawInt i).toArray }).objs.size=s.heap.objs.size + 1 + 1:=by rw [Heap.size_push,m9]
   have g1:((h1.push { cls:=.type "tuple",data:=.seq (ys.map λ(i:Nat)=>rawInt i).toArray }).push (Qnq (.ref (s.heap.objs.size + 1)) S es.size ep)).get? (s.heap.objs.size + 1 + 1)=some (Qnq (.ref (s.heap.objs.size + 1)) S es.size ep):=by rw [<- hsz2];exact Q5 _ rfl
   have g2:((h1.push { cls:=.type "tuple",data:=.seq (ys.map λ(i:Nat)=>rawInt i).toArray }).push (Qnq (.ref (s.heap.objs.size + 1)) S es.size ep)).get? (s.heap.objs.size + 1)=some { cls:=.type "tuple",data:=.seq (ys.map λ(i:Nat)=>rawInt i).toArray }:=by refine O3 _ ?_;rw [<- m9];exact Q5 _ rfl
   refine hK (s.heap.objs.size + 1 + 1) _ _ _ _ _ _ (Cc (A:=A.in1.in1) (it:=s.heap.objs.size + 1 + 1) (tp:=s.heap.objs.size + 1) hh (O9 (V6 (V6 hSlt))) (O9 (U9 _)) hd hf hy rfl) ⟨⟨_,g1,rfl,rfl⟩,O3 _ (O3 _ ho1),g2⟩ (λz=>by
    rcases R3.mp z with z | z
    ·exact absurd z (O9 (V6 (U9 _)))
    rcases R3.mp z with z | z
    ·exact absurd z (A0b hSlt)
    ·exact absurd (mem_singleton.mp z) (O9 (U9 _))) (λb hb=>by rw [mem_singleton.mp hb]; exact V6 (U9 _)) (λb o e=>O3 _ (O3 _ e)) rfl rfl hz λacc hacc=>?_
   have hyl:ys.length=es.size:=by rw [hy.length_eq]; simp
   rw [Na (by simp [hyl]) hacc];refine hps ((hy.map _).trans ?_);have:(range es.size).map (λj=>(es.getD j (0,.none)).2)=es.toList.map λe=>e.2:=by
    refine U7 (by simp) λi z1 z2=>?_;have hi:i < es.size:=by simpa using z1
    simp [Array.getD,hi]
   rw [this]
 ·obtain ⟨ns,hns,hpm⟩:=hg;have hvl:vs.length < 64:=by rw [hns.length,hpm.length_eq]; exact h64
  refine M9 (A0o ?_);have hoL:(s'.heap.push (seqObj "list" vs.toArray 0)).get? s'.heap.objs.size=some (seqObj "list" vs.toArray 0):=Q5 _ rfl;refine M9 (U5 (Z0 slot_list_sort ⟨_,hoL,rfl⟩ entry_list_sort (list_sort_tree hoL hns hvl λout ms a1 a2 a3=>⟨_,rfl,?_⟩) (args_list_sort _)));obtain ⟨e,he⟩:=sortedHeap_at (out:=out) (vs:=vs) hoL;refine N6 ⟨_,rfl,h _ s'.heap.objs.size out.toList ms e a1 (a2.trans hpm) a3 (λb o eb=>?_) (V5 hsz) (by rw [Array.toArray_toList]; exact he) hgens hos⟩;have eb':=hk b o eb;have hlt:=O5 eb';rw [sortedHeap_old (Nat.ne_of_lt hlt) (by rw [size_push']; exact Nat.lt_succ_of_lt hlt)];exact O3 _ eb'
end
def Inv.like {dz:G9} {σ:St} {s s':G4} (I:Inv X dz σ H s) (h1:s'.heap=s.heap) (h2:s'.gens=s.gens) (h3:s'.os=s.os):Inv X dz σ H s':=by obtain ⟨hp,gs,dr,tk,os⟩:=s';have e1:hp=s.heap:=h1;have e2:gs=s.gens:=h2;have e3:os=s.os:=h3;subst e1 e2 e3;exact ⟨I.ok,I.os,I.bare,I.base,I.loc,I.cell,I.free,I.cg,I.pin,I.hok,I.len⟩
theorem Lq:∀ {ns:K6} {its:K8},Xq (ns.map V.int) its->IntsAre its ns
 | [],_,.nil=>.nil
 | n :: r,_,.cons h t=>by obtain ⟨tk,rfl⟩:=h;exact .cons n tk (Lq t)
theorem Bo:∀ {ns:K6} {its:K8},IntsAre its ns->Xq (ns.map V.int) its
 | _,_,.nil=>.nil
 | _,_,.cons n tk t=>.cons ⟨tk,rfl⟩ (Bo t)
theorem Ul (val:Nat->Int):∀ i,(firstMet val i).Nodup
 | 0=>by rw [firstMet_zero]; exact nodup_nil
 | i + 1=>by
  rw [firstMet_succ];unfold step_dedup;have ih:=Ul val i
  split
  ·exact ih
  ·rename_i hn
   rw [nodup_append];refine ⟨ih,by simp,λa ha b hb=>?_⟩;have hb':b=val i:=by simpa using hb
   subst hb';intro e;subst e;exact hn (any_eq_true.mpr ⟨_,ha,by simp⟩)
def Hy {ns:K6} {k:Int}:k∈firstMet (λi=>ns.getD i 0) ns.length ↔ k∈ns:=by
 have h:=firstMet_any (λi=>ns.getD i 0) ns.length k;have e:(range ns.length).map (λi=>ns.getD i 0)=ns:=by refine U7 (by simp) λi h1 h2=>?_;simp [getD,h2]
 rw [e] at h;have h1:∀ l:K6,(l.any (· == k))=true ↔ k∈l:=λl=>by simp [any_eq_true]
 rw [<- h1,<- h1,h]
theorem Ge:∀ {ms:K6},ms.Pairwise (·<=·)->ms.Nodup->ms.Pairwise (· < ·)
 | [],_,_=>.nil
 | m :: r,h1,h2=>by obtain ⟨a1,a2⟩:=pairwise_cons.mp h1;obtain ⟨b1,b2⟩:=nodup_cons.mp h2;refine pairwise_cons.mpr ⟨λz hz=>?_,Ge a2 b2⟩;have h3:=a1 z hz;have h4:m≠z:=λe=>b1 (e ▸ hz);lia
def Qb1 (K:N5) (t:TE):TE:=λσ H Q=>t σ H λx H1 => ∃ (a:G5) (ns:K6),x=.ref a/\SqL K H1 a (ns.map V.int)/\ns.length < 64/\∀ (l:G5) (ms:K6) (H':Hp),New H1 l (.lst (ms.map V.int)) H'->ms.Pairwise (· < ·)->(∀ z,z∈ms ↔ z∈ns)->Q (.ref l) H'
theorem Hq {t:TE} {p p' j5:Pos} (hK:X.K=K) (hc:X.calm=true) (hgl:Gl X "sorted") (hml:X.mg "sorted" = none) (hgr:Gl X "set") (hmr:X.mg "set" = none) (ha:PE X e t)
  (he:starEach [e] X.env=(false,eval e X.env) :: starEach [] X.env:=by rfl):PE X (.Call (.Name "sorted" p) [.Call (.Name "set" p') [e] [] j5] [] pos) (Qb1 K t):=by
 subst hK;intro dz s σ H Q I h;refine V3 (Uw I hgl hml (u:=.builtin "sorted") (by decide +kernel) ?_ (by decide) (by decide));refine PyProof.Rows.callWith_builtin1 ?_ rfl rfl;show wpAny _ _ (spliced ((false,eval _ X.env) :: backTo pos (starEach [] X.env))) _ _ s;refine X8 ?_;refine V3 (Uw I hgr hmr (u:=.type "set") (by decide +kernel) ?_ (by decide) (by decide));refine W9 ?_ he rfl;rw [he];show wpAny _ _ (spliced ((false,eval e X.env) :: backTo j5 (starEach [] X.env))) _ _ s;refine X8 (thn (ha dz s σ H _ I h) λu s1 ⟨x,H1,I1,r1,a,ns,e1,h1,h64,q1⟩=>?_);subst e1;cases r1;refine X7 ?_;obtain ⟨its,rv,pl,hz⟩:=I1.list h1;have hl:its.length=ns.length:=by rw [<- rv.length,length_map]
 have hsz:its.toArray.size=ns.length:=by rw [size_toArray,hl]
 have hhd:X.A.handled=none:=I1.ok.hd hc;refine Hb (ns:=ns) hhd pl.isList (by simpa using Lq rv) (by rw [hsz]; show _ < 4096; lia) λh' tk hS hk=>?_;rw [hsz] at hS;have hk':∀ b o,s1.heap.get? b=some o->h'.get? b=some o:=λb o e=>hk b o (O5 e) e;have hlt:s1.heap.objs.size < h'.objs.size:=by obtain ⟨⟨o,es,ep,t,ho,_⟩,_⟩:=hS;exact O5 ho
 refine X7 ?_;refine Oj (s:={ s1 with heap:=h',toks:=tk }) hhd hS (Ul _ _) (A0z (firstMet_length_le _ _) h64) λs' L out ms ee hi hp hr hk2 hL hgL hg hos=>?_;have hk3:∀ b o,s1.heap.get? b=some o->s'.heap.get? b=some o:=λb o e=>hk2 b o (hk' b o e);have hml:ms.length<=sizeLine:=by rw [hp.length_eq,sizeLine_eq];have:=firstMet_length_le (λi=>ns.getD i 0) ns.length;lia
 have I2:Inv X dz σ (upd H1 L (.lst (ms.map V.int))) { s1 with heap:=s'.heap,toks:=s'.toks }:=I1.laid (t':=s'.toks) (o:=.lst (ms.map V.int)) hk3 (R4 (V5 hlt) hL) ⟨by rw [length_map]; exact hml,out,ee,Bo hi,hgL⟩;refine ⟨.ref L,_,I2.like rfl hg hos,rfl,q1 L ms _ (Jy (I1.hok.fresh (R4 (V5 hlt) hL))) (Ge hr (hp.nodup_iff.mpr (Ul _ _))) λz=>?_⟩;rw [hp.mem_iff,Hy]
def Dz (ms ns:K6):Prop:=ms.Pairwise (· < ·)/\∀ z,z∈ms ↔ z∈ns
structure Dj (K:N5) (mg:K4) (C:G5) (x:Str):Prop where
 mgC:mg x=some (.ref C)
 cl:Cls K C
 mks:PySem.W.makesIn K C=true
 kp:PySem.W.keepIn K (.ref C)=true
 nH:Jn K C "house"
 nW:Jn K C "way"
structure Qz1 (K:N5) (C:G5):Prop where
 cl:Cls K C
 nH:Jn K C "house"
 nW:Jn K C "way"
def Dj.a {mg:K4} {C:G5} {x:Str} (h:Dj K mg C x):Qz1 K C:=⟨h.cl,h.nH,h.nW⟩
def Da (h w:G5):List (Str × V):=Vi "way" (.ref w) (Vi "house" (.ref h) [])
def as1:¬ (("house" : Str)="way"):=by decide +kernel
def Yp (h w:G5):(Da h w).lookup ("house" : Str)=some (.ref h):=by unfold Da;rw [Qi,if_neg as1,Qi,if_pos rfl]
def Dq (h w:G5):(Da h w).lookup ("way" : Str)=some (.ref w):=by unfold Da;rw [Qi,if_pos rfl]
def Qgz (h w:G5) {m:Str} (h1:¬ m="way") (h2:¬ m="house"):(Da h w).lookup m=none:=by unfold Da;rw [Qi,if_neg h1,Qi,if_neg h2];rfl
structure Xd (CH C:G5) (H:Hp) (p:G5) (ak:K6) (aj:J7) (ao:Int) (way:K7):Prop where
 ex:∃ dx hp wa,H p=some (.ins C dx (Da hp wa))/\Zv CH H hp ak aj ao/\H wa=some (.lst ((wI way).map V.int))
def Xd.same {CH C:G5} {H H':Hp} {p:G5} {ak:K6} {aj:J7} {ao:Int} {way:K7} (h:Xd CH C H p ak aj ao way) (s:Qu H H'):Xd CH C H' p ak aj ao way:=by obtain ⟨dx,hp,wa,h1,h2,h3⟩:=h.ex;exact ⟨dx,hp,wa,s _ _ h1,h2.same s,s _ _ h3⟩
def Xd.bf {CH C:G5} {H H':Hp} {p:G5} {ak:K6} {aj:J7} {ao:Int} {way:K7} (h:Xd CH C H p ak aj ao way) (s:Qc H H'):Xd CH C H' p ak aj ao way:=by obtain ⟨dx,hp,wa,h1,h2,h3⟩:=h.ex;exact ⟨dx,hp,wa,s.to _ _ h1 rfl,h2.bf s,s.to _ _ h3 rfl⟩
structure Qn (ak:K6) (aj:J7) (way:K7):Prop where
 bok:Bv ak aj
 len:way.length=aj.length
 lt:∀ r∈way,r < ak.length
def Qn.at_ (h:Qn ak aj way) (hi:i < aj.length):way[i]? = some (way.getD i 0)/\way.getD i 0 < ak.length:=by
 have hi':i < way.length:=by rw [h.len]; exact hi
 have e:way.getD i 0=way[i]:=by simp [getD,hi']
 rw [e];exact ⟨by simp [hi'],h.lt _ (N7 hi')⟩
def Zr (aj:J7) (way:K7) (i:Nat):Int:=wF aj i (way.getD i 0)
def Zs (wo:Bool) (aj:J7) (way:K7) (a r b:Nat):Int:=wF aj (if wo then b else a) r - Zr aj way a
def Zd (wo:Bool) (ak:K6) (way:K7) (a b:Nat):K6:=Yw ak (wI way) ++ [((way.getD (if wo then a else b) 0:Nat):Int)]
def Qp1 (CH C:G5):Sp:=λvs H Q _ => ∃ (p dx hp wa:G5) (ak:K6) (aj:J7) (ao:Int) (way:K7),vs=[.ref p,.ref hp,.ref wa]/\H p=some (.ins C dx [])/\Zv CH H hp ak aj ao/\H wa=some (.lst ((wI way).map V.int)) /\
 ∀ (l:G5) (H':Hp),H l=none->H' p=some (.ins C dx (Da hp l))->H' l=some (.lst ((wI way).map V.int))->(∀ c o,H c=some o->c≠p->H' c=some o)->Q .non H'
def Ct (K:N5) (CH:G5):Sp:=λvs H Q _ => ∃ (C p:G5) (ak:K6) (aj:J7) (ao:Int) (way:K7) (r:Nat),vs=[.ref p,.int (r:Int)]/\Qz1 K C/\Xd CH C H p ak aj ao way/\Qn ak aj way /\
 ∀ (l:G5) (ms:K6) (H':Hp),Qu H H'->H l=none->H' l=some (.lst (ms.map V.int))->Dz ms (Yw ak (wI way) ++ [(r:Int)])->Q (.ref l) H'
def Ci (K:N5) (CH:G5):Sp:=λvs H Q _ => ∃ (C p:G5) (ak:K6) (aj:J7) (ao:Int) (way:K7) (i:Nat),vs=[.ref p,.int (i:Int)]/\Qz1 K C/\Xd CH C H p ak aj ao way/\Qn ak aj way/\i < aj.length/\Q (.int (Zr aj way i)) H
def Dv (wo:Bool) (CH C:G5):Sp:=λvs H Q _ => ∃ (p:G5) (ak:K6) (aj:J7) (ao:Int) (way:K7) (a b:Nat),vs=[.ref p,.int (a:Int),.int (b:Int)]/\Xd CH C H p ak aj ao way/\Qn ak aj way/\a < aj.length/\b < aj.length /\
 ∀ (l:G5) (ms:K6) (H':Hp),Qu H H'->H l=none->H' l=some (.lst (ms.map V.int))->Dz ms (Zd wo ak way a b)->Q (.ref l) H'
def Qx3 (wo:Bool) (CH C:G5):Sp:=λvs H Q _ => ∃ (p:G5) (ak:K6) (aj:J7) (ao:Int) (way:K7) (a r b:Nat),vs=[.ref p,.int (a:Int),.int (r:Int),.int (b:Int)]/\Xd CH C H p ak aj ao way/\Qn ak aj way/\a < aj.length/\r < ak.length/\b < aj.length/\Q (.int (Zs wo aj way a r b)) H
def Bu (wo:Bool) (CH C:G5):Sp:=λvs H Q _ => ∃ (p:G5) (ak:K6) (aj:J7) (ao:Int) (way:K7),vs=[.ref p]/\Xd CH C H p ak aj ao way/\Qn ak aj way/\∀ H',Qu H H'->Q (.int (if wo then wsum (wF aj) way - ao else ao)) H'
def Aq (wo:Bool) (CH C:G5):Sp:=λvs H Q _ => ∃ (p:G5) (ak:K6) (aj:J7) (ao:Int) (way:K7) (i:Nat) (level parts:Int),vs=[.ref p,.int (i:Int),.int level,.int parts]/\Xd CH C H p ak aj ao way/\Qn ak aj way/\i < aj.length/\(∀ row∈aj,∀ x∈row,-(10 ^ 42) < x/\x < 10 ^ 42)/\(-(10 ^ 200) < parts/\parts < 10 ^ 200) /\
 Q (.int (if wo then parts * Zr aj way i - level else level)) H
def Rq (h:way.length=aj.length):Qzq aj (wI way)=wsum (wF aj) way:=by
 unfold Qzq wsum;rw [h]
 congr 1
 refine R9 λi hi=>?_;have hi:=O1.mp hi;simp [wI,wF,getD,h,hi]
def Qo7 (wo:Bool):Str:=if wo then "worst" else "even"
def Qb5 (K:N5):Sp:=λvs H Q _ => ∃ (b a:G5) (ak:K6) (way:K7),vs=[.ref b,.ref a]/\H b=some (.lst (ak.map V.int))/\ak.length<=1000/\H a=some (.lst ((wI way).map V.int))/\∀ l H',New H l (.lst ((Yw ak (wI way)).map V.int)) H'->Q (.ref l) H'
def Qx1 {wo:Bool} {a b:Nat} (ok:Qn ak aj way) (ha:a < aj.length) (hb:b < aj.length) {ms:K6} (h:Dz ms (Zd wo ak way a b)):∀ z∈ms,∃ r:Nat,z=(r:Int)/\r < ak.length:=λz hz=>by
 rcases O6.mp ((h.2 z).mp hz) with e | e
 ·obtain ⟨r,hr,hlt,_⟩:=Jf.mp e;exact ⟨r,hr,hlt⟩
 ·have e':z=((way.getD (if wo then a else b) 0:Nat):Int):=by simpa using e
  refine ⟨_,e',?_⟩;cases wo
  ·exact (ok.at_ hb).2
  ·exact (ok.at_ ha).2
section
variable {dz:G9} {σ:St} {s:G4} {c P:G5} {scope:Scope} {params:Arguments} {body:Expr} {bh:Pos}
def Ba {Q:K5} {E:K5} (J:Inv X dz σ H s) (ok:Yu scope X.env.scope=true) (jm:X.env.code=.ref c) (C:PySem.W.codeHdIn X.K c P=true) (BA:X.base.BuiltinsAt X.mg P) (nq:defaultsOf params X.env=([],[]))
  (hT:Qe H P bh (X.env.qual ++ "<lambda>"))
  (hQ:∀ f c' pm ctv H' s',Inv X (dz ++ [(f,PySem.W.kla_obj "<lambda>" (X.env.qual ++ "<lambda>") params body scope (Kw X.env.cells scope.names []) pm c' ctv)]) σ H' s'->(∃ oc vs t,H' c'=some (.frz oc (.own 0))/\oc.data=.fields vs/\vs[1]? = some (.str (X.env.qual ++ "<lambda>") t)) ->
   Qc H H'->(∀ b o,H b=some o->b≠P->H' b=some o)->Qe H' P bh (X.env.qual ++ "<lambda>")->Q (.ref f) s') :
  wpAny (model X.prog X.w) X.A (eval (.Lambda params body scope bh) X.env) Q E s:=by
 refine PySem.W.kla_eval nq ?_;have CH:PySem.W.CodeHd s.heap c P:=PySem.W.codeHd_of_K J.kIn C;have hcl:closureFor scope X.env=pure (Kw X.env.cells scope.names []):=Uq (Wr J ok);have hgs:s.heap.Ns mainGlobals X.mg:=J.mod.glob.keeps J.bk;have hgP:mainGlobals≠P:=λz=>by obtain ⟨o,es,ep,e,_⟩:=J.mod.glob;have:=(J.bs _ _ e).2;rw [z] at this;rcases hT with h | ⟨_,_,_,_,h,_⟩ <;> rw [this] at h <;> cases h
 have BS:s.heap.BuiltinsAt X.mg P:=by obtain ⟨bm,o,b1,b2,b3,b4,b5,b6⟩:=BA;exact ⟨bm,o,b1,b2,b3,b4,J.bk _ _ b5,b6⟩
 rcases hT with hT | ⟨c',oc,vs,t,hT,hc',hd,hv⟩
 ·have hP:s.heap.get? P=some (PySem.W.tabObj #[]):=J.hok P _ hT;refine PySem.W.kla_makeFunction (mg:=X.mg) hcl J.ok.glob hgs jm CH hP trivial rfl hgP BS λc' ctv h' tk hx hge hlt hrec htb=>?_;obtain ⟨c2,oc,vs,t,e2,hoc,hd,hv⟩:=hrec;cases e2;have hPlt:P < s.heap.objs.size:=O5 hP;have nPc:P≠c':=O9 (T6 hPlt hge);have lt':∀ b o,s.heap.get? b=some o->b≠c':=λb o e=>O9 (T6 (O5 e) hge);have hfc:H c'=none:=J.hok.fresh hge;have eP:upd (upd H P (.tbl (#[] ++ #[rawInt bh.line,rawInt bh.col,.ref c']))) c' (.frz oc (.own 0)) P=some (.tbl #[rawInt bh.line,rawInt bh.col,.ref c']):=by rw [Qv nPc,Qy]; rfl
  have eo:∀ b,b≠P->b≠c'->upd (upd H P (.tbl (#[] ++ #[rawInt bh.line,rawInt bh.col,.ref c']))) c' (.frz oc (.own 0)) b=H b:=λb h1 h2=>by rw [Qv h2,Qv h1]
  have hk:∀ b o,b≠P->s.heap.get? b=some o->(h'.push (PySem.W.kla_obj "<lambda>" (X.env.qual ++ "<lambda>") params body scope (Kw X.env.cells scope.names []) ((X.mg "__name__").getD .none) c' ctv)).get? b=some o:=λb o hb e=>O3 _ (hx b o hb e);have jj:∀ b u,H b=some u->b≠P->upd (upd H P (.tbl (#[] ++ #[rawInt bh.line,rawInt bh.col,.ref c']))) c' (.frz oc (.own 0)) b=some u:=λb u e h1=>by rw [eo b h1 (Qj e hfc)]; exact e
  have J1:Inv X dz σ (upd (upd H P (.tbl (#[] ++ #[rawInt bh.line,rawInt bh.col,.ref c']))) c' (.frz oc (.own 0))) { s with heap:=h'.push (PySem.W.kla_obj "<lambda>" (X.env.qual ++ "<lambda>") params body scope (Kw X.env.cells scope.names []) ((X.mg "__name__").getD .none) c' ctv),toks:=tk }:=by
   refine J.un ⟨λb o e n _ _=>hk b o (λz=>by rw [z,hT] at n; cases n) e,λb o e n _ _=>⟨o.slots,hk b o (λz=>by rw [z,hT] at n; cases n) e⟩,λb o e n _=>?_,λb o e _=>?_,λb xs e=>?_,λb o u e=>?_,λb ps e=>?_⟩ λb u e=>?_
   ·rw [eo b (λz=>by rw [z,hT] at n; cases n) (lt' b o e)];exact n
   ·by_cases hb:b=P
    ·subst hb;exact ⟨_,O3 _ htb⟩
    ·exact ⟨o,hk b o hb e⟩
   ·exact jj b _ e λz=>by rw [z,hT] at e; cases e
   ·exact jj b _ e λz=>by rw [z,hT] at e; cases e
   ·by_cases hb:b=P
    ·subst hb;rw [hT] at e;cases e;exact ⟨_,by rw [Qv nPc,Qy]⟩
    ·exact ⟨#[],by rw [jj b _ e hb]; simp⟩
   ·by_cases hb:b=P
    ·subst hb;rw [eP] at e;cases e;exact O3 _ htb
    ·by_cases hb2:b=c'
     ·subst hb2;rw [Qy] at e;cases e;exact ⟨O3 _ hoc,_,O3 _ hoc⟩
     ·rw [eo b hb hb2] at e;have nP:∀ b' u',H b'=some u'->Qs8 u'=false->b'≠P:=λb' u' e' z w=>by rw [w,hT] at e'; cases e'; cases z
      refine (J.hok b u e).stay (λb' o' hb' e'=>hk b' o' ?_ e') (λb' e'=>jj b' _ e' (nP b' _ e' rfl)) λb' xs e'=>jj b' _ e' (nP b' _ e' rfl);rcases hb' with rfl | hb'
      ·exact hb
      ·exact nP b' _ hb' rfl
  have hfr:s.heap.objs.size<=h'.objs.size:=R4 hge (V5 hlt);have ff:=J.fpOk (H':=upd (upd H P (.tbl (#[] ++ #[rawInt bh.line,rawInt bh.col,.ref c']))) c' (.frz oc (.own 0))) (b:=h'.objs.size) hfr (by rw [eo _ (Nat.ne_of_gt (Nat.lt_of_lt_of_le hPlt hfr)) (Nat.ne_of_gt hlt)];exact J.hok.fresh hfr)
  refine hQ _ c' ((X.mg "__name__").getD .none) ctv _ _ (J1.dg λp hp=>?_) ⟨oc,vs,t,Qy,hd,hv⟩ ⟨λb u e z=>jj b u e (λw=>by rw [w,hT] at e; cases e; cases z),λb e=>by
   by_cases hb:b=P
   ·subst hb; rw [eP] at e; cases e
   ·by_cases hb2:b=c'
    ·subst hb2; exact hfc
    ·rw [eo b hb hb2] at e; exact e⟩ jj (.inr ⟨c',oc,vs,t,eP,Qy,hd,hv⟩)
  rcases O6.mp hp with z | z
  ·exact J1.pin p (Q9 _ z)
  ·have:p=(h'.objs.size,PySem.W.kla_obj "<lambda>" (X.env.qual ++ "<lambda>") params body scope (Kw X.env.cells scope.names []) ((X.mg "__name__").getD .none) c' ctv):=by simpa using z
   subst this;exact ⟨Q5 _ rfl,ff.1,ff.2.1,ff.2.2.1,λv z=>by cases z⟩
 ·have hP:s.heap.get? P=some (PySem.W.tabObj #[rawInt bh.line,rawInt bh.col,.ref c']):=J.hok P _ hT;refine PySem.W.kla_makeFunctionHit (cv:=.ref c') (mg:=X.mg) hcl J.ok.glob hgs jm CH hP trivial (by show (if (((bh.line:Nat):Int) == bh.line && ((bh.col:Nat):Int) == bh.col)=true then _ else _)=_; simp) BS λctv h' tk hk hsz=>?_;have hk2:∀ b o,s.heap.get? b=some o->(h'.push (PySem.W.kla_obj "<lambda>" (X.env.qual ++ "<lambda>") params body scope (Kw X.env.cells scope.names []) ((X.mg "__name__").getD .none) c' ctv)).get? b=some o:=λb o e=>O3 _ (hk b o e);have J1:=J.kept (t':=tk) hk2;have ff:=J.fpOk (H':=H) (b:=h'.objs.size) hsz (J.hok.fresh hsz);refine hQ _ c' ((X.mg "__name__").getD .none) ctv H _ (J1.dg λp hp=>?_) ⟨oc,vs,t,hc',hd,hv⟩ (Qc.refl _) (λb o e _=>e) (.inr ⟨c',oc,vs,t,hT,hc',hd,hv⟩);rcases O6.mp hp with z | z
  ·exact J1.pin p (Q9 _ z)
  ·have:p=(h'.objs.size,PySem.W.kla_obj "<lambda>" (X.env.qual ++ "<lambda>") params body scope (Kw X.env.cells scope.names []) ((X.mg "__name__").getD .none) c' ctv):=by simpa using z
   subst this;exact ⟨Q5 _ rfl,ff.1,ff.2.1,ff.2.2.1,λv z=>by cases z⟩
def Qb2 (K:N5) (P:G5) (bh:Pos) (qual:Str) (ix:K3) (t1:TA) (te:TE):TE:=λσ H Q=>t1 σ H λvs H1 => ∃ (a:G5) (ns:K6) (kf:Int->Int),vs=[.ref a]/\SqL K H1 a (ns.map V.int)/\0 < ns.length/\Qe H1 P bh qual /\
 (∀ z∈ns,∀ H2,Qc H1 H2->te (some (.int z) :: cSt σ ix) H2 λy H3=>y=.int (kf z)/\H3=H2)/\∀ z∈ns,(∀ z'∈ns,kf z'<=kf z)->∀ H2,Qc H1 H2->(∀ b o,H1 b=some o->b≠P->H2 b=some o)->Qe H2 P bh qual->Q (.int z) H2
def Df {p kpos:Pos} {x:Str} {Nc:M6} {ix:K3} {t1:TA} {te:TE} (C:PySem.W.codeHdIn X.K c P=true) (BA:X.base.BuiltinsAt X.mg P) (jm:X.env.code=.ref c) (hc:X.calm=true) (hm:X.mg "max" = none) (jh:X.A.depth < recursionLimit)
  (he1:PA X [e] t1) (he:∀ L f cd s0 H0,PE (Ik X (X.env.qual ++ "<lambda>") scope L f cd s0 H0 (x :: Nc)) body te)
  (ok:Yu scope X.env.scope=true) (hix:Fg scope X.N (x :: Nc) (none :: ix)=true) (hx:scope.names.lookup x=some .local) (hco:scope.isCoroutine=false) (nj:scope.isGenerator=false)
  (nq:defaultsOf params X.env=([],[])) (ji:∀ (cl:List (Str × G5)) (pm cd ctv u:G3),bindArgs (PySem.W.kla_fn "<lambda>" (X.env.qual ++ "<lambda>") params body scope cl pm cd ctv) ⟨[u],[]⟩=pure [(x,u)]) (hg:Gl X "max") (h1:starEach [e] X.env=[(false,eval e X.env)]) :
  PE X (.Call (.Name "max" p) [e] [⟨some "key",.Lambda params body scope bh,kpos⟩] pos) (Qb2 X.K P bh (X.env.qual ++ "<lambda>") ix t1 te):=by
 intro dz s σ H Q I h;refine V3 (Uw I hg hm Gr ?_);refine PyProof.Rows.callWith_kw ?_ (by rw [h1]; rfl) (by rw [h1]; rfl);refine thn (he1 pos dz s σ H _ I h) λus s1 ⟨vs,H1,I1,r1,a,ns,kf,e1,hS,hne,hL,hk,hQ⟩=>?_;subst e1;obtain ⟨u,rfl,ru⟩:=Tp r1;cases ru;show wpAny _ _ (evalAll [(do let v <- eval (.Lambda params body scope bh) X.env; standAt pos; pure v)]) _ _ s1;refine wpAny_evalAll_cons (M9 (Ba I1 ok jm C BA nq hL λf c' pm ctv H2 s2 I2 hrec sb so hL2=>M9 (A0a (N6 (wpAny_evalAll_nil ?_)))));refine Qr4 kf hc I2 (sb.seq hS) hne (λz hz t pl s3 hpl I3=>?_) λz t s3 hz hmax I3=>?_
 ·have hpin:=I3.pin _ (Q9 _ (hpl _ (Q9 dz Q7)));obtain ⟨oc,vs',t',h4,h5,h6⟩:=hrec;have hcd:s3.heap.CodeRec (.ref c') (X.env.qual ++ "<lambda>"):=⟨c',oc,vs',t',rfl,(I3.hok c' _ h4).1,h5,h6⟩
  exact As I3 hc ok hix hx hco nj hpin.1 hcd jh (λu=>ji _ _ _ _ u) (v:=.int z) ⟨t,rfl⟩ he (hk z hz H2 sb)
 ·exact ⟨.int z,H2,I3.sub λp hp=>R8 _ hp,⟨t,rfl⟩,hQ z hz hmax H2 sb so hL2⟩
end
def Yl (P:G5) (H H':Hp):Prop:=∀ b o,H b=some o->b≠P->H' b=some o
theorem Qu.o {P:G5} {H H':Hp} (s:Qu H H'):Yl P H H':=λb o e _=>s b o e
def Yl.trans {P:G5} {H1 H2:Hp} (a:Yl P H H1) (b:Yl P H1 H2):Yl P H H2:=λc o e h=>b c o (a c o e h) h
def Qe.o {P P2:G5} {qual:Str} (h:Qe H P2 pos qual) (hP:∃ ps,H P=some (.tbl ps)) (hne:P2≠P) (s:Yl P H H'):Qe H' P2 pos qual:=by
 rcases h with h | ⟨c',oc,vs,t,h1,h2,h3⟩
 ·exact .inl (s _ _ h hne)
 ·refine .inr ⟨c',oc,vs,t,s _ _ h1 hne,s _ _ h2 ?_,h3⟩;intro e;obtain ⟨ps,hp⟩:=hP;rw [e,hp] at h2;cases h2
def Qe.tbl {P:G5} {qual:Str} (h:Qe H P pos qual):∃ ps,H P=some (.tbl ps):=by
 rcases h with h | ⟨c',oc,vs,t,h1,h2,h3⟩
 ·exact ⟨_,h⟩
 ·exact ⟨_,h1⟩
def Qwx (K:N5) (C PT:G5) (bh:Pos) (qual:Str):Sp:=λvs H Q _ => ∃ (p a:G5) (ak:K6) (aj:J7) (ao:Int) (way:K7),vs=[.ref p,.ref a]/\Zv C H p ak aj ao/\H a=some (.lst ((wI way).map V.int))/\Bv ak aj/\way.length < aj.length /\
 (way.length:Int) < ak.sum/\(∀ b∈ak,0<=b)/\Fit (bF ak) way/\Opt ak aj way/\Qe H PT bh qual /\
 ∀ (l:G5) (cj:K7) (H':Hp),Qc H H'->Yl PT H H'->H l=none->H' l=some (.lst ((wI cj).map V.int))->Qe H' PT bh qual->cj.length=way.length + 1->Fit (bF ak) cj->Opt ak aj cj->Q (.ref l) H'
def Qp0 (K:N5) (C PT:G5) (bh:Pos) (qual:Str):Sp:=λvs H Q _ => ∃ (p:G5) (ak:K6) (aj:J7) (ao:Int),vs=[.ref p]/\Zv C H p ak aj ao/\Bv ak aj /\
 (aj.length:Int)<=ak.sum/\(∀ b∈ak,0<=b)/\Qe H PT bh qual /\
 ∀ (l:G5) (way:K7) (H':Hp),Qc H H'->Yl PT H H'->H l=none->H' l=some (.lst ((wI way).map V.int))->Qe H' PT bh qual->way.length=aj.length->Fit (bF ak) way->Opt ak aj way->Q (.ref l) H'
end L2
namespace BW
open L2
variable {s b:Nat}
theorem Ah {W:Nat->Nat->Int} {B:Nat->Nat} {way:K7} {R:Nat} (hB:∀ r,R<=r->B r=0) (f9:Fit B way) (fj:∀ v:K7,v.length=way.length->Fit B v->wsum W v<=wsum W way) :
  ∃ g:Nat->Int,(∀ p (hp:p < way.length) r,r < R->g way[p] + W p r - W p way[p]<=g r)/\(∀ r,0<=g r)/\∀ e,way.count e < B e->g e<=0:=by
 have di:∀ r∈way,r < R:=λr hr=>by refine R6 λz=>?_;have h1:=hB r (by lia);have h2:=f9 r;have h3:=W3.mpr hr;lia
 let W0:Nat->Nat->Int:=λp r=>if p < way.length then W p r else 0
 have hs:∀ v:K7,v.length=way.length->wsum W0 v=wsum W v:=λv hv=>by
  unfold wsum
  congr 1
  refine R9 λi hi=>?_;have hi:=O1.mp hi;show (if i < way.length then _ else _)=_;rw [if_pos (by lia)]
 have hopt0:∀ v:K7,v.length=way.length->Fit B v->wsum W0 v<=wsum W0 way:=λv hv hf=>by rw [hs v hv,hs way rfl];exact fj v hv hf
 have ok:=Rl (W:=W0) (R:=R) f9 hopt0 di R;refine ⟨λr=>(turns W0 way R (first W0 way R) R).1.getD r 0,λp hp r hr=>?_,λr=>?_,λe he=>?_⟩
 ·have:=Bk (W:=W0) (R:=R) f9 hopt0 di hp hr;have e1:W0 p r=W p r:=V7 hp;have e2:W0 p way[p]=W p way[p]:=V7 hp;rw [e1,e2] at this;exact this
 ·by_cases hr:r < R
  ·have h1:Reach W0 way R R r (W0 way.length r):=(Reach.base hr).more (T3 _);have h2:=Nl h1;have h3:W0 way.length r=0:=U6 (V1 _);rw [h3] at h2;exact h2
  ·have:(turns W0 way R (first W0 way R) R).1.getD r 0=0:=by rw [getD_eq_getElem?_getD,getElem?_eq_none (by rw [ok.l1]; lia)];rfl
   show 0<=(turns W0 way R (first W0 way R) R).1.getD r 0;rw [this];exact Q0 _
 ·have heR:e < R:=by refine R6 λz=>?_;have:=hB e (by lia);lia
  obtain ⟨r0,c,g,e1,hsg,e2,_⟩:=ok.at_ e heR;have h3:W0 way.length r0=0:=U6 (V1 _);obtain ⟨i1,i2,i3,_⟩:=hsg.app;have hf:Fit B (app way c):=λx=>by
   have h1:=i3 x;have h2:=f9 x
   by_cases hx:x=e
   ·subst hx;rw [Ro] at h1;lia
   ·rw [Si hx] at h1;lia
  have:=hopt0 _ i1 hf;rw [i2] at this;show (turns W0 way R (first W0 way R) R).1.getD e 0<=0;rw [e2,h3];lia
abbrev Hop:=Nat × Nat × Nat
variable {c:List Hop} {m:Hop}
inductive ChS (hs:List Hop) (s:Nat):List Hop->Nat->Prop
 | nil:ChS hs s [] s
 | snoc {c:List Hop} {a r b:Nat}:ChS hs s c a->(a,r,b)∈hs->ChS hs s (c ++ [(a,r,b)]) b
def wt (gn:Hop->Int) (c:List Hop):Int:=(c.map gn).sum
def Va (gn:Hop->Int) (c d:List Hop):wt gn (c ++ d)=wt gn c + wt gn d:=by simp [wt]
section
variable {hs:List Hop} {gn:Hop->Int} {n:Nat}
theorem ChS.app {x:Nat} {d:List Hop} (h1:ChS hs s c x) (h2:ChS hs x d b):ChS hs s (c ++ d) b:=by
 induction h2 with
 | nil=>simpa using h1
 | snoc _ hm ih =>rw [<- append_assoc];exact .snoc ih hm
theorem ChS.split (h:ChS hs s c b):∀ x∈s :: c.map (λm=>m.2.2),∃ c1 c2,c=c1 ++ c2/\ChS hs s c1 x/\ChS hs x c2 b:=by
 induction h with
 | nil =>
  intro x hx;have:x=s:=by simpa using hx
  subst this;exact ⟨[],[],rfl,.nil,.nil⟩
 | @snoc c a r b h hm ih =>
  intro x hx;rw [map_append,<- cons_append] at hx;rcases O6.mp hx with hx | hx
  ·obtain ⟨c1,c2,e,h1,h2⟩:=ih x hx;exact ⟨c1,c2 ++ [(a,r,b)],by rw [e,append_assoc],h1,.snoc h2 hm⟩
  ·have:x=b:=by simpa using hx
   subst this;exact ⟨c ++ [(a,r,x)],[],by simp,.snoc h hm,.nil⟩
theorem ChS.dup (h:ChS hs s c b) (hd:¬ (s :: c.map (λm=>m.2.2)).Nodup):∃ c1 c2 c3 x,c=c1 ++ (c2 ++ c3)/\c2≠[]/\ChS hs s c1 x/\ChS hs x c2 x/\ChS hs x c3 b:=by
 induction h with
 | nil=>exact absurd (by simp) hd
 | @snoc c a r b h hm ih =>
  by_cases hn:(s :: c.map (λm=>m.2.2)).Nodup
  ·have hb:b∈s :: c.map (λm=>m.2.2):=by
    refine R6 λz=>hd ?_;rw [map_append,<- cons_append,nodup_append];refine ⟨hn,by simp,λp hp q hq=>?_⟩;have:q=b:=by simpa using hq
    subst this;intro e;subst e;exact z hp
   obtain ⟨c1,c2,e,h1,h2⟩:=h.split b hb;exact ⟨c1,c2 ++ [(a,r,b)],[],b,by rw [e]; simp,by simp,h1,.snoc h2 hm,.nil⟩
  ·obtain ⟨c1,c2,c3,x,e,hne,h1,h2,h3⟩:=ih hn;exact ⟨c1,c2,c3 ++ [(a,r,b)],x,by rw [e]; simp,hne,h1,h2,.snoc h3 hm⟩
theorem ChS.pot {h:Nat->Int} (hp:∀ m∈hs,h m.1 + gn m<=h m.2.2) (hc:ChS hs s c b):h s + wt gn c<=h b:=by
 induction hc with
 | nil=>simp [wt]
 | @snoc c a r b _ hm ih =>
  have:=hp _ hm;rw [Va];have e:wt gn [(a,r,b)]=gn (a,r,b):=by simp [wt]
  rw [e];simp only at this;lia
theorem ChS.lt (hlt:∀ m∈hs,m.1 < n/\m.2.2 < n) (hc:ChS hs s c b) (hsn:s < n):(∀ x∈s :: c.map (λm=>m.2.2),x < n)/\b < n:=by
 induction hc with
 | nil =>
  refine ⟨λx hx=>?_,hsn⟩;have:x=s:=by simpa using hx
  rw [this]; exact hsn
 | @snoc c a r b _ hm ih =>
  refine ⟨λx hx=>?_,(hlt _ hm).2⟩;rw [map_append,<- cons_append] at hx;rcases O6.mp hx with hx | hx
  ·exact ih.1 x hx
  ·have:x=b:=by simpa using hx
   rw [this]; exact (hlt _ hm).2
theorem Cz {h:Nat->Int} (hp:∀ m∈hs,h m.1 + gn m<=h m.2.2) (hlt:∀ m∈hs,m.1 < n/\m.2.2 < n):∀ (k:Nat) {s b:Nat} {c:List Hop},c.length<=k->s < n->ChS hs s c b->∃ c',ChS hs s c' b/\c'.length < n/\wt gn c<=wt gn c'
 | 0,s,b,c,hl,hs',hc=>⟨c,hc,by lia,Q0 _⟩
 | k + 1,s,b,c,hl,hs',hc=>by
  by_cases hn:c.length < n
  ·exact ⟨c,hc,hn,Q0 _⟩
  ·have hnd:¬ (s :: c.map (λm=>m.2.2)).Nodup:=λz=>by have:=Km n _ z (hc.lt hlt hs').1;simp at this;lia
   obtain ⟨c1,c2,c3,x,rfl,hne,h1,h2,h3⟩:=hc.dup hnd;have h4:=h2.pot hp;have hl2:0 < c2.length:=length_pos_iff.mpr hne;obtain ⟨c',g1,g2,g3⟩:=Cz hp hlt k (c:=c1 ++ c3) (by simp at hl ⊢; lia) hs' (h1.app h3);refine ⟨c',g1,g2,?_⟩;rw [Va] at g3;rw [Va,Va];lia
abbrev TC:=K6 × List (List Hop)
def Mr (gn:Hop->Int) (st:TC) (m:Hop):TC:=if st.1.getD m.1 0 + gn m > st.1.getD m.2.2 0 then (st.1.set m.2.2 (st.1.getD m.1 0 + gn m),st.2.set m.2.2 (st.2.getD m.1 [] ++ [m])) else st
def Qo0 (gn:Hop->Int) (hs:List Hop) (st:TC):TC:=hs.foldl (Mr gn) st
def Vz (gn:Hop->Int) (hs:List Hop) (st:TC) (k:Nat):TC:=(range k).foldl (λst _=>Qo0 gn hs st) st
def Px (st:TC) (k:Nat):Vz gn hs st (k + 1)=Qo0 gn hs (Vz gn hs st k):=by unfold Vz;rw [range_succ,foldl_append];rfl
structure OkC (hs:List Hop) (gn:Hop->Int) (n:Nat) (st:TC):Prop where
 l1:st.1.length=n
 l2:st.2.length=n
 at_:∀ b,b < n->∃ s,s < n/\ChS hs s (st.2.getD b []) b/\wt gn (st.2.getD b [])=st.1.getD b 0
def Jx (n:Nat):TC:=(replicate n 0,replicate n [])
def Qdw:OkC hs gn n (Jx n):=by
 refine ⟨by simp [Jx],by simp [Jx],λb hb=>⟨b,hb,?_,?_⟩⟩
 ·have:(Jx n).2.getD b []=[]:=by simp [Jx,getD,hb]
  rw [this];exact .nil
 ·simp [Jx,getD,hb,wt]
def Qcw (hlt:∀ m∈hs,m.1 < n/\m.2.2 < n) {st:TC} (ok:OkC hs gn n st) (hm:m∈hs):OkC hs gn n (Mr gn st m):=by
 obtain ⟨h1,h2⟩:=hlt m hm;unfold Mr
 split
 ·refine ⟨by simp [ok.l1],by simp [ok.l2],λb hb=>?_⟩;have l1:=ok.l1;have l2:=ok.l2
  by_cases hbm:b=m.2.2
  ·subst hbm;obtain ⟨s,hs1,hs2,hs3⟩:=ok.at_ m.1 h1;refine ⟨s,hs1,?_,?_⟩
   ·have e:(st.2.set m.2.2 (st.2.getD m.1 [] ++ [m])).getD m.2.2 []=st.2.getD m.1 [] ++ [m]:=by simp [getD,l2,h2]
    rw [e];exact .snoc hs2 hm
   ·have e:(st.2.set m.2.2 (st.2.getD m.1 [] ++ [m])).getD m.2.2 []=st.2.getD m.1 [] ++ [m]:=by simp [getD,l2,h2]
    rw [e,Va,hs3];simp [getD,l1,h2,wt]
  ·obtain ⟨s,hs1,hs2,hs3⟩:=ok.at_ b hb;have hbm':m.2.2≠b:=λz=>hbm z.symm;have e1:(st.2.set m.2.2 (st.2.getD m.1 [] ++ [m])).getD b []=st.2.getD b []:=by simp [getD,getElem?_set_ne hbm']
   have e2:(st.1.set m.2.2 (st.1.getD m.1 0 + gn m)).getD b 0=st.1.getD b 0:=by simp [getD,getElem?_set_ne hbm']
   exact ⟨s,hs1,by rw [e1]; exact hs2,by rw [e1,e2]; exact hs3⟩
 ·exact ok
theorem Bh {st:TC} (x:Nat):st.1.getD x 0<=(Mr gn st m).1.getD x 0:=by
 unfold Mr
 split
 ·rename_i h
  by_cases hx:x=m.2.2
  ·subst hx
   by_cases hl:m.2.2 < st.1.length
   ·simp [getD,hl];simp [getD,hl] at h;lia
   ·rw [set_eq_of_length_le (by lia)];exact Q0 _
  ·have hx':m.2.2≠x:=λz=>hx z.symm;simp [getD,getElem?_set_ne hx']
 ·exact Q0 _
theorem Qck {st:TC} (h:m.2.2 < st.1.length):st.1.getD m.1 0 + gn m<=(Mr gn st m).1.getD m.2.2 0:=by
 unfold Mr
 split
 ·simp [getD,h]
 ·lia
def Au {st:TC}:(Mr gn st m).1.length=st.1.length:=by
 unfold Mr
 split <;> simp
theorem Gf {st:TC} (x:Nat):∀ (l:List Hop),st.1.getD x 0<=(l.foldl (Mr gn) st).1.getD x 0
 | []=>Q0 _
 | m :: l=>T7 (Bh x) (Gf (st:=Mr gn st m) x l)
theorem Qjj {st:TC} {m:Hop}:∀ (l:List Hop),m∈l->m.2.2 < st.1.length->st.1.getD m.1 0 + gn m<=(l.foldl (Mr gn) st).1.getD m.2.2 0
 | m' :: l,hm,hl=>by
  rw [foldl_cons];rcases R3.mp hm with rfl | hm
  ·exact T7 (Qck hl) (Gf _ l)
  ·have h1:=Bh (gn:=gn) (st:=st) (m:=m') m.1;have h2:=Qjj (st:=Mr gn st m') l hm (by rw [Au]; exact hl);lia
def Nz (hlt:∀ m∈hs,m.1 < n/\m.2.2 < n) (k:Nat):OkC hs gn n (Vz gn hs (Jx n) k):=by refine Zf (I:=OkC hs gn n) Qdw λst _ _ ok=>?_;exact Zf (I:=OkC hs gn n) ok λst m hm ok=>Qcw hlt ok hm
theorem Gw {x j:Nat}:∀ {k:Nat},j<=k->(Vz gn hs (Jx n) j).1.getD x 0<=(Vz gn hs (Jx n) k).1.getD x 0
 | 0,h=>by
  have:j=0:=by lia
  rw [this]; exact Q0 _
 | k + 1,h=>by
  by_cases hj:j=k + 1
  ·rw [hj]; exact Q0 _
  ·rw [Px];exact T7 (Gw (k:=k) (by lia)) (Gf x hs)
theorem Av (hlt:∀ m∈hs,m.1 < n/\m.2.2 < n) (hc:ChS hs s c b) (hsn:s < n):wt gn c<=(Vz gn hs (Jx n) c.length).1.getD b 0:=by
 induction hc with
 | nil=>simp [wt,Vz,Jx,getD,hsn]
 | @snoc c a r b _ hm ih =>
  rw [length_append,length_singleton,Px,Va];have h1:=Qjj (gn:=gn) (st:=Vz gn hs (Jx n) c.length) hs hm (by rw [(Nz hlt c.length).l1]; exact (hlt _ hm).2);have h2:wt gn [(a,r,b)]=gn (a,r,b):=by simp [wt]
  rw [h2];simp only at h1;unfold Qo0;lia
theorem Sk {h:Nat->Int} (hp:∀ m∈hs,h m.1 + gn m<=h m.2.2) (hlt:∀ m∈hs,m.1 < n/\m.2.2 < n) (hm:m∈hs):(Vz gn hs (Jx n) n).1.getD m.1 0 + gn m<=(Vz gn hs (Jx n) n).1.getD m.2.2 0:=by
 obtain ⟨s,h1,h2,h3⟩:=(Nz (gn:=gn) hlt n).at_ m.1 (hlt m hm).1;have h4:ChS hs s ((Vz gn hs (Jx n) n).2.getD m.1 [] ++ [(m.1,m.2.1,m.2.2)]) m.2.2:=.snoc h2 hm;obtain ⟨c',g1,g2,g3⟩:=Cz hp hlt _ (O7 _) h1 h4;have g4:=Av (gn:=gn) hlt g1 h1;have g5:=Gw (hs:=hs) (gn:=gn) (n:=n) (x:=m.2.2) (j:=c'.length) (k:=n) (by lia);rw [Va,h3] at g3;have h5:wt gn [(m.1,m.2.1,m.2.2)]=gn m:=by simp [wt]
 rw [h5] at g3;lia
def Sw (hlt:∀ m∈hs,m.1 < n/\m.2.2 < n) (hb:b < n):0<=(Vz gn hs (Jx n) n).1.getD b 0:=by have h1:=Av (gn:=gn) hlt (.nil:ChS hs b [] b) hb;have h2:=Gw (hs:=hs) (gn:=gn) (n:=n) (x:=b) (j:=0) (k:=n) (T3 _);simp [wt] at h1;exact T7 h1 h2
end
end BW
namespace L2
open BW
variable {way:K7} {aj:J7} {ak:K6} {c aq:List Hop} {H:Hp} {wo:Bool}
theorem Qm2 (wo:Bool) (ok:Qn ak aj way) (f9:Fit (bF ak) way) (fj:Opt ak aj way) :
  ∃ h:Nat->Int,∀ a b r,a < aj.length->b < aj.length->r < ak.length->((r:Int)∈Zd wo ak way a b)->h a + Zs wo aj way a r b<=h b:=by
 obtain ⟨g,g1,g2,g3⟩:=Ah (Bj ak) f9 fj;have hw:∀ a,a < aj.length->∃ (ha:a < way.length),way[a]=way.getD a 0:=λa ha=>by
  have ha':a < way.length:=by rw [ok.len]; exact ha
  exact ⟨ha',by simp [getD,ha']⟩
 have g8:∀ {r x:Nat},((r:Int)∈Yw ak (wI way) ++ [(x:Int)])->r=x\/way.count r < bF ak r:=λ{r x} h=>by
  rcases O6.mp h with e | e
  ·obtain ⟨r',e1,_,e2⟩:=Jf.mp e;have:r'=r:=by lia
   subst this;exact .inr e2
  ·have:(r:Int)=(x:Int):=by simpa using e
   exact .inl (by lia)
 cases wo with
 | true =>
  refine ⟨λx=>Zr aj way x - g (way.getD x 0),λa b r ha hb hr hm=>?_⟩;obtain ⟨hb',eb⟩:=hw b hb;have h1:=g1 b hb' r hr;rw [eb] at h1;show Zr aj way a - g (way.getD a 0) + (wF aj b r - Zr aj way a)<=wF aj b (way.getD b 0) - g (way.getD b 0);have h2:=g2 (way.getD a 0);rcases g8 (show (r:Int)∈Yw ak (wI way) ++ [((way.getD a 0:Nat):Int)] from hm) with e | e
  ·subst e;lia
  ·have h3:=g3 r e;lia
 | false =>
  refine ⟨λx=>g (way.getD x 0),λa b r ha hb hr hm=>?_⟩;obtain ⟨ha',ea⟩:=hw a ha;have h1:=g1 a ha' r hr;rw [ea] at h1;show g (way.getD a 0) + (wF aj a r - wF aj a (way.getD a 0))<=g (way.getD b 0);have h2:=g2 (way.getD b 0);rcases g8 (show (r:Int)∈Yw ak (wI way) ++ [((way.getD b 0:Nat):Int)] from hm) with e | e
  ·subst e;lia
  ·have h3:=g3 r e;lia
open PySem PySem.Spec PyProof.Rows
def Qnx (m:Hop):List V:=[.int (m.1:Int),.int (m.2.1:Int),.int (m.2.2:Int)]
def Zb (H:Hp) (a:G5) (c:List Hop):Prop:=∃ ts:K9,H a=some (.lst (ts.map V.ref))/\ts.length=c.length/\∀ (j:Nat) t m,ts[j]? = some t->c[j]? = some m->H t=some (.tup (Qnx m))
def Zb.keep {H':Hp} {a:G5} (h:Zb H a c) (h1:∀ o,H a=some o->H' a=some o) (h2:∀ t xs,H t=some (.tup xs)->H' t=some (.tup xs)):Zb H' a c:=by obtain ⟨ts,e1,e2,e3⟩:=h;exact ⟨ts,h1 _ e1,e2,λj t m a b=>h2 _ _ (e3 j t m a b)⟩
def Zb.same {H':Hp} {a:G5} (h:Zb H a c) (s:Qu H H'):Zb H' a c:=h.keep (λo e=>s _ _ e) λt xs e=>s _ _ e
def Zb.bf {H':Hp} {a:G5} (h:Zb H a c) (s:Qc H H'):Zb H' a c:=by obtain ⟨ts,e1,e2,e3⟩:=h;exact ⟨ts,s.to _ _ e1 rfl,e2,λj t m a b=>s.to _ _ (e3 j t m a b) rfl⟩
theorem Zb.snoc {H:Hp} {a t:G5} {c:List Hop} {m:Hop} {ts:K9} (e1:H a=some (.lst (ts.map V.ref ++ [.ref t]))) (e2:ts.length=c.length) (e3:∀ (j:Nat) t m,ts[j]? = some t->c[j]? = some m->H t=some (.tup (Qnx m))) (e4:H t=some (.tup (Qnx m))):Zb H a (c ++ [m]):=by
 refine ⟨ts ++ [t],by rw [e1]; simp,by simp [e2],λj t' m' h1 h2=>?_⟩
 by_cases hj:j < ts.length
 ·rw [getElem?_append_left hj] at h1;rw [getElem?_append_left (by lia)] at h2;exact e3 j t' m' h1 h2
 ·have hj2:j=ts.length:=by have:=(N8.mp h1).1;simp at this;lia
  subst hj2;simp at h1;rw [e2] at h2;simp at h2;subst h1 h2;exact e4
structure Zzw (H:Hp) (ga mv:G5) (st:TC):Prop where
 ne:ga≠mv
 g:H ga=some (.lst (st.1.map V.int))
 ex:∃ ls:K9,H mv=some (.lst (ls.map V.ref))/\ls.length=st.2.length/\(∀ a∈ls,a≠ga/\a≠mv)/\∀ (i:Nat) a c,ls[i]? = some a->st.2[i]? = some c->Zb H a c
structure Xl (wo:Bool) (ak:K6) (aj:J7) (way:K7) (aq:List Hop):Prop where
 mem:∀ m∈aq,m.1 < aj.length/\m.2.2 < aj.length/\m.1≠m.2.2/\m.2.1 < ak.length/\(m.2.1:Int)∈Zd wo ak way m.1 m.2.2
 best:∀ m∈aq,∀ r:Nat,(r:Int)∈Zd wo ak way m.1 m.2.2->Zs wo aj way m.1 r m.2.2<=Zs wo aj way m.1 m.2.1 m.2.2
 all_:∀ a b,a < aj.length->b < aj.length->a≠b->∃ r,(a,r,b)∈aq
 len:aq.length<=100
structure Ue (wo:Bool) (ak:K6) (aj:J7) (way:K7) (aq:List Hop) (i j:Nat):Prop where
 mem:∀ m∈aq,m.1 < aj.length/\m.2.2 < aj.length/\m.1≠m.2.2/\m.2.1 < ak.length/\(m.2.1:Int)∈Zd wo ak way m.1 m.2.2
 best:∀ m∈aq,∀ r:Nat,(r:Int)∈Zd wo ak way m.1 m.2.2->Zs wo aj way m.1 r m.2.2<=Zs wo aj way m.1 m.2.1 m.2.2
 all_:∀ a b,a < aj.length->b < aj.length->a≠b->(a < i\/(a=i/\b < j))->∃ r,(a,r,b)∈aq
 len:aq.length<=i * aj.length + j
theorem Ue.skip {i j:Nat} (h:Ue wo ak aj way aq i j) (e:i=j):Ue wo ak aj way aq i (j + 1) :=⟨h.mem,h.best,λa b ha hb hab z=>h.all_ a b ha hb hab (by lia),by have:=h.len; lia⟩
theorem Ue.more {i j r:Nat} (h:Ue wo ak aj way aq i j) (hij:i < aj.length/\j < aj.length) (e:i≠j) (h1:(r:Int)∈Zd wo ak way i j) (h2:r < ak.length) (h3:∀ r':Nat,(r':Int)∈Zd wo ak way i j->Zs wo aj way i r' j<=Zs wo aj way i r j):Ue wo ak aj way (aq ++ [(i,r,j)]) i (j + 1):=by
 refine ⟨λm hm=>?_,λm hm=>?_,λa b ha hb hab z=>?_,by have:=h.len; simp; lia⟩
 ·rcases O6.mp hm with z | z
  ·exact h.mem m z
  ·have:m=(i,r,j):=by simpa using z
   subst this;exact ⟨hij.1,hij.2,e,h2,h1⟩
 ·rcases O6.mp hm with z | z
  ·exact h.best m z
  ·have:m=(i,r,j):=by simpa using z
   subst this;exact h3
 ·by_cases hz:a=i/\b=j
  ·obtain ⟨rfl,rfl⟩:=hz;exact ⟨r,by simp⟩
  ·obtain ⟨r',hr'⟩:=h.all_ a b ha hb hab (by lia);exact ⟨r',R8 _ hr'⟩
theorem Ue.next {i:Nat} (h:Ue wo ak aj way aq i aj.length):Ue wo ak aj way aq (i + 1) 0 :=⟨h.mem,h.best,λa b ha hb hab z=>h.all_ a b ha hb hab (by lia),by have:=h.len; rw [Nat.add_mul,Nat.one_mul]; lia⟩
theorem Ue.good (h:Ue wo ak aj way aq aj.length 0) (hl:aj.length<=10):Xl wo ak aj way aq :=⟨h.mem,h.best,λa b ha hb hab=>h.all_ a b ha hb hab (.inl ha),R4 h.len (by have:=Nat.mul_le_mul hl hl; lia)⟩
def Qe.updL {P l:G5} {pos:Pos} {qual:Str} {xs ys:List V} (h:Qe H P pos qual) (hl:H l=some (.lst xs)):Qe (upd H l (.lst ys)) P pos qual:=by
 have k:∀ c o,H c=some o->(∀ zs,o≠.lst zs)->upd H l (.lst ys) c=some o:=λc o e hne=>by rw [Qv (Jv e hl (hne _))];exact e
 rcases h with h | ⟨c',oc,vs,t,h1,h2,h3⟩
 ·exact .inl (k _ _ h (by intro zs z; cases z))
 ·exact .inr ⟨c',oc,vs,t,k _ _ h1 (by intro zs z; cases z),k _ _ h2 (by intro zs z; cases z),h3⟩
def gnF (wo:Bool) (aj:J7) (way:K7) (m:Hop):Int:=Zs wo aj way m.1 m.2.1 m.2.2
structure Ud (wo:Bool) (H:Hp) (t tl cl:G5) (ak:K6) (aj:J7) (way:K7) (aq:List Hop) (st:TC):Prop where
 tup:H t=some (.tup [.ref tl,.ref cl])
 tc:Zzw H tl cl st
 good:Xl wo ak aj way aq
 ok:OkC aq (gnF wo aj way) aj.length st
 nn:∀ b,b < aj.length->0<=st.1.getD b 0
 cl_:∀ a b r:Nat,a < aj.length->b < aj.length->a≠b->(r:Int)∈Zd wo ak way a b->st.1.getD a 0 + Zs wo aj way a r b<=st.1.getD b 0
theorem Qfz {t tl cl:G5} (aok:Qn ak aj way) (f9:Fit (bF ak) way) (fj:Opt ak aj way) (good:Xl wo ak aj way aq) (h1:H t=some (.tup [.ref tl,.ref cl]))
  (h2:Zzw H tl cl (Vz (gnF wo aj way) aq (Jx aj.length) aj.length)):Ud wo H t tl cl ak aj way aq (Vz (gnF wo aj way) aq (Jx aj.length) aj.length):=by
 obtain ⟨h,hp⟩:=Qm2 wo aok f9 fj;have hlt:∀ m∈aq,m.1 < aj.length/\m.2.2 < aj.length:=λm hm=>⟨(good.mem m hm).1,(good.mem m hm).2.1⟩
 have oh:∀ m∈aq,h m.1 + gnF wo aj way m<=h m.2.2:=λm hm=>by obtain ⟨g1,g2,g3,g4,g5⟩:=good.mem m hm;exact hp m.1 m.2.2 m.2.1 g1 g2 g4 g5
 refine ⟨h1,h2,good,Nz hlt _,λb hb=>Sw hlt hb,λa b r ha hb hab hr=>?_⟩;obtain ⟨r0,hm⟩:=good.all_ a b ha hb hab;have k1:=Sk oh hlt hm;have k2:=good.best _ hm r hr;have k3:gnF wo aj way (a,r0,b)=Zs wo aj way a r0 b:=rfl;rw [k3] at k1;simp only at k1 k2;lia
def Cv {base:Heap} {mg:K4} {P:G5} (h:base.BuiltinsAt mg P):∀ Q∈[P],base.BuiltinsAt mg Q:=λQ hQ=>by rw [mem_singleton.mp hQ];exact h
end L2
namespace BW
theorem ChS.inv {hs:List Hop} {s b:Nat} {c:List Hop} {m:Hop} (h:ChS hs s (c ++ [m]) b):ChS hs s c m.1/\m∈hs/\m.2.2=b:=by
 generalize e:c ++ [m]=d at h;cases h with
 | nil=>simp at e
 | @snoc c' a r b h hm =>
  have h1:=append_inj' e rfl;obtain ⟨rfl,h2⟩:=h1;have h3:m=(a,r,b):=by simpa using h2
  subst h3;exact ⟨h,hm,rfl⟩
end BW
namespace L2
open PySem PySem.Spec PyProof.Rows BW
variable {xs:List V}
def Qh3 {K:N5} {a D:G5} {te:TE} {σf:St} {H1:Hp} {Q:VK} (R:Nat->V->Hp->Prop) (hS:SqT K H1 a xs) (hz:xs.length < sizeLine) (hD1:H1 D=none)
  (mono:∀ i y H H',Qg7 D H H'->R i y H->R i y H')
  (hs:∀ (i:Nat) x H ys (N:VK),xs[i]? = some x->Qu H1 H->H D=some (.lst ys)->(∀ y H',Qu H H'->R i y H'->N y H')->te (some x :: σf) H N)
  (hd:∀ ys H,Qu H1 H->H D=some (.lst ys)->ys.length=xs.length->(∀ (i:Nat) y,ys[i]? = some y->R i y H)->Q (.ref D) H):Rp (Itt K a) D (Jl 0) Qqj te (none :: σf) (upd H1 D (.lst [])) Q:=by
 refine Qdv xs.length (λi=>(xs[i]?).getD .non) R hz hD1 (λi H hi s=>⟨xs,xs[i],s.seqT hS,by simp [hi]⟩) (λH s=>⟨xs,s.seqT hS,O7 _⟩) (λi H x H' hi s y=>?_) mono (λi H ys N hi s d hN=>?_) hd
 ·obtain ⟨rfl,y⟩:=y;have:=y xs (s.seqT hS);exact ⟨by simp [this],rfl⟩
 ·have e:xs[i]? = some xs[i]:=by simp [hi]
  have q:=hs i xs[i] H ys N e s d hN;rw [e];exact q
def Wu {K:N5} {a D:G5} {tt:TT} {te:TE} {σf:St} {H1:Hp} {Q:VK} (p:Nat->Bool) (f:Nat->V) (hS:SqL K H1 a xs) (hz:xs.length < sizeLine) (hD1:H1 D=none)
  (ht:∀ (i:Nat) x H (N:Bool->Hp->Prop),xs[i]? = some x->Qu H1 H->(∀ H',Qu H H'->N (p i) H')->tt (some x :: σf) H N)
  (hs:∀ (i:Nat) x H (N:VK),xs[i]? = some x->p i=true->Qu H1 H->(∀ H',Qu H H'->N (f i) H')->te (some x :: σf) H N)
  (hd:∀ H,Qu H1 H->H D=some (.lst (((range xs.length).filter p).map f))->Q (.ref D) H):Rp (Itl K a) D (Jl 0) tt te (none :: σf) (upd H1 D (.lst [])) Q:=by
 have hx:∀ i,i < xs.length->xs[i]? = some ((xs[i]?).getD .non):=λi hi=>by simp [hi]
 refine Qmj xs.length (λi=>(xs[i]?).getD .non) p f hz hD1 (λi H hi s=>⟨xs,xs[i],s.seq hS,R7 hi⟩) (λH s=>⟨xs,s.seq hS,O7 _⟩) (λi H x H' hi s y=>?_) (λi H N hi s k=>ht i _ H N (hx i hi) s k) (λi H N hi e s k=>hs i _ H N (hx i hi) e s k) hd;obtain ⟨e,y⟩:=y;refine ⟨?_,e⟩;rw [y xs (s.seq hS)];rfl
theorem Qx0 {P:Nat->V->Prop} {α:Type} (f:α->V) (R:Nat->α->Prop):∀ (ys:List V) (k:Nat),(∀ (i:Nat) y,ys[i]? = some y->∃ z,y=f z/\R (k + i) z)->∃ zs:List α,ys=zs.map f/\∀ (i:Nat) z,zs[i]? = some z->R (k + i) z
 | [],_,_=>⟨[],rfl,λi z h=>by simp at h⟩
 | y :: r,k,h=>by
  obtain ⟨z,e,hz⟩:=h 0 y rfl;obtain ⟨zs,e2,hzs⟩:=Qx0 (P:=P) f R r (k + 1) λi y hy=>by obtain ⟨z,e,hz⟩:=h (i + 1) y (by simpa using hy);exact ⟨z,e,by rw [show k + 1 + i=k + (i + 1) by lia]; exact hz⟩
  refine ⟨z :: zs,by rw [e,e2]; rfl,λi z' hi=>?_⟩;cases i with
  | zero =>
   have:z=z':=by simpa using hi
   rw [<- this];exact hz
  | succ i =>have:=hzs i z' (by simpa using hi);rw [show k + (i + 1)=k + 1 + i by lia];exact this
abbrev Cx.in1 (X:Cx):Cx:={ X with A:=X.A.in1 }
section
variable {X:Cx} {dz:G9} {σ:St} {H:Hp} {s:G4}
def Inv.in1 (I:Inv X dz σ H s):Inv X.in1 dz σ H s :=⟨⟨I.ok.mod,I.ok.kind,I.ok.glob,I.ok.blt,I.ok.above,I.ok.inj,I.ok.has,I.ok.cab,I.ok.hd,I.ok.frames,I.ok.stk,I.ok.exf,I.ok.bs,I.ok.bsz,I.ok.noex,I.ok.exfs,I.ok.dj,I.ok.frf⟩,I.os,I.bare,I.base,I.loc,I.cell,I.free,I.cg,I.pin,I.hok,I.len⟩
def Inv.out1 (I:Inv X.in1 dz σ H s):Inv X dz σ H s :=⟨⟨I.ok.mod,I.ok.kind,I.ok.glob,I.ok.blt,I.ok.above,I.ok.inj,I.ok.has,I.ok.cab,I.ok.hd,I.ok.frames,I.ok.stk,I.ok.exf,I.ok.bs,I.ok.bsz,I.ok.noex,I.ok.exfs,I.ok.dj,I.ok.frf⟩,I.os,I.bare,I.base,I.loc,I.cell,I.free,I.cg,I.pin,I.hok,I.len⟩
def Inv.adopt {D:G5} {o:Obj} {h':Heap} {t':Nat} (I:Inv X (dz ++ [(D,o)]) σ H s) (fD:Ku X dz H D) (k:∀ b u,b≠D->s.heap.get? b=some u->h'.get? b=some u)
  (new:Jp X.prog X.w (upd H D (.lst xs)) h' D (.lst xs)):Inv X dz σ (upd H D (.lst xs)) { s with heap:=h',toks:=t' }:=by
 have I0:Inv X dz σ H s:=I.sub λp hp=>R8 _ hp;have hn:H D=none:=fD.1;have nD:∀ b,b ∉ [D]->b≠D:=λb hb z=>hb (by simp [z]);refine I0.step (g':=s.gens) (d':=s.drawn) (ch:=[D]) (λb hb=>?_) (λb u _ _ hc q _=>k b u (nD b hc) q) (λb u _ _ hc q _=>⟨u.slots,k b u (nD b hc) q⟩) (λb u hc q n=>by rw [Qv (nD b hc)]; exact n)
  (λb u hc q=>⟨u,k b u (nD b hc) q⟩) (λb ys q=>by rw [Qv (Qj q hn)]; exact q) (λb u w q=>by rw [Qv (Qj q hn)]; exact q) (λb ps q=>⟨#[],by rw [Qv (Qj q hn),q]; simp⟩) (λm hm=>?_) (λb u q=>?_) I.bare
 ·have z:b=D:=by simpa using hb
  subst z;exact ⟨fD.2.2.2.1,fD.2.1,fD.2.2.2.2.1,fD.2.2.2.2.2⟩
 ·obtain ⟨u,es,ep,ho,r⟩:=hm;exact ⟨u,es,ep,k _ u (λz=>fD.2.1 z.symm) ho,r⟩
 ·by_cases hb:b=D
  ·subst hb;rw [Qy] at q;cases q;exact new
  ·rw [Qv hb] at q;have ne:∀ c w,H c=some w->c≠D:=λc w z=>Qj z hn;refine (I.hok b u q).stay (λc v hc z=>?_) (λc z=>by rw [Qv (Qj z hn)]; exact z) λc ys z=>by rw [Qv (Qj z hn)]; exact z
   rcases hc with w | w
   ·rw [w] at z ⊢;exact k b v (ne b u q) z
   ·exact k c v (ne c _ w) z
theorem Cw:∀ {ns:K6} {us:K8},Xq (ns.map V.int) us->IntsAre us ns
 | [],_,h=>by cases h; exact .nil
 | n :: r,_,h=>by
  cases h with
  | cons a b =>obtain ⟨t,rfl⟩:=a;exact .cons n t (Cw b)
variable {ns kz:K6} {vs:K8} {D kS l q:G5} {j6:Array G3} {e e1:Nat} {A:G7} {E:K5} {P:PySem.Fin->G4->Prop}
end
section
variable {X:Cx} {dz:G9} {σ:St} {H:Hp} {s:G4} {c P:G5} {scope:Scope} {params:Arguments} {body:Expr} {bh:Pos}
def Hd:bootBuiltins "sorted" = some (.builtin "sorted"):=by decide +kernel
end
end L2
namespace BW
open L2
end BW
namespace BW
open L2
end BW
namespace L2
open PySem PySem.Spec PyProof.Rows BW
variable {pos:Pos} {a b:Nat} {K:N5} {H:Hp} {F:G5->Prop} {st:TC} {aq:List Hop} {way v:K7} {aj:J7} {ak gs rows R bx:K6} {wo:Bool} {n ao d k m:Int}
section
variable {X:Cx}
def Zxz (K:N5):List V->Hp->VK->Prop:=λxs H Q => ∃ (a:G5) (bs:List Bool),xs=[.ref a]/\SqL K H a (bs.map V.bl)/\Q (.bl (bs.any id)) H
def range_any (bs:List Bool):(range bs.length).any (λi=>bs.getD i false)=bs.any id:=by
 rw [Bool.eq_iff_iff,any_eq_true,any_eq_true]
 constructor
 ·rintro ⟨i,hi,h⟩;have hi':=O1.mp hi;exact ⟨bs[i],N7 hi',by simpa [hi'] using h⟩
 ·rintro ⟨b,hb,h⟩;obtain ⟨i,hi,rfl⟩:=X4.mp hb;exact ⟨i,O1.mpr hi,by simpa [hi] using h⟩
theorem Qu7 (hK:X.K=K) (hc:X.calm=true):Up X (.builtin "any") (Zxz K):=by
 subst hK;intro dz s σ H xs us Q I r h;obtain ⟨a,bs,rfl,hq,q⟩:=h;obtain ⟨u,rfl,rx⟩:=Tp r;cases rx;obtain ⟨its,rv,pl,hz⟩:=I.list hq;have hl:=rv.length;have ha:a < s.heap.objs.size:=by obtain ⟨o,n,e,_⟩:=pl;exact O5 e
 have hhd:X.A.in1.handled=none:=I.ok.hd hc;refine call_any_walkS (X6 pl.isList ?_);refine ⟨s.heap.objs.size,_,_,_,its.toArray.size,_,_,λi=>bs.getD i false,rfl,(X3 hhd s.heap.objs.size a (O9 ha) its.toArray).toS,⟨⟨_,Q5 _ rfl,rfl,rfl⟩,pl.isList.push _⟩,?_,?_⟩
 ·intro i v s1 Q1 E1 hv hQ;have hv':its[i]? = some v:=by simpa using hv
  have hi:i < bs.length:=by have:=(N8.mp hv').1;simp at hl;lia
  obtain ⟨u,h1,h2⟩:=rv.get (i:=i) (x:=.bl bs[i]) (by simp [hi]);rw [hv'] at h1;cases h1;have h2':v=Value.bool bs[i]:=h2;subst h2';refine W5 ?_;have e:bs.getD i false=bs[i]:=by simp [hi]
  rw [<- e];exact hQ
 ·intro s' m;refine ⟨.bl (bs.any id),H,I.moved m,?_,q⟩;have e:its.toArray.size=bs.length:=by rw [size_toArray,<- hl]; simp
  rw [e,range_any];rfl
def Id (t:TE):TE:=λσ H Q=>t σ H λx H1 => ∃ n:Nat,x=.int n/\n<=1000/\∀ l H',New H1 l (.lst ((range n).map λ(i:Nat)=>V.int (i:Int))) H'->Q (.ref l) H'
theorem Hz {e:Expr} {t:TE} {p p' j5:Pos} (hc:X.calm=true) (hgl:Gl X "list") (hml:X.mg "list" = none) (hgr:Gl X "range") (hmr:X.mg "range" = none) (ha:PE X e t)
  (he:starEach [e] X.env=(false,eval e X.env) :: starEach [] X.env:=by rfl):PE X (.Call (.Name "list" p) [.Call (.Name "range" p') [e] [] j5] [] pos) (Id t):=by
 intro dz s σ H Q I h;refine V3 (Uw I hgl hml Jd ?_ (by decide) (by decide));refine W9 ?_ rfl rfl;show wpAny _ _ (spliced ((false,eval _ X.env) :: backTo pos (starEach [] X.env))) _ _ s;refine X8 ?_;refine V3 (Uw I hgr hmr boot_range ?_ (by decide) (by decide));refine W9 ?_ he rfl;rw [he];show wpAny _ _ (spliced ((false,eval e X.env) :: backTo j5 (starEach [] X.env))) _ _ s;refine X8 (thn (ha dz s σ H _ I h) λu s1 ⟨x,H1,I1,r1,n,e1,h1,q1⟩=>?_);subst e1;obtain ⟨tk,rfl⟩:=r1;refine X7 (call_range_1 (X7 ?_));have hs:Builtin.Range.rangeSize 0 (n:Int) 1=n:=by
  unfold Builtin.Range.rangeSize;simp only [show (1:Int) > 0 by decide,if_true]
  split <;> lia
 refine call_list_range (a:=0) (b:=(n:Int)) (c:=1) (n:=n) (I1.ok.hd hc) (IsRange.new _ _ _ _ _ _ _) ?_ hs (by lia) λh' tk' acc' c' hk hS hacc=>?_
 ·unfold Builtin.Range.small;rw [hs];have f:∀ z:Int,0<=z->z<=1000->Builtin.Range.rangeFitsLong z=true:=λz h0 h1=>by unfold Builtin.Range.rangeFitsLong;simp;lia
  rw [f 0 (by lia) (by lia),f (n:Int) (by lia) (by lia),f 1 (by lia) (by lia)];simp only [show (1:Int) > 0 by decide,if_true];rw [show ((n:Int) + (1 - 1))=(n:Int) by lia,f (n:Int) (by lia) (by lia)];simp
 have hp:s1.heap.objs.size<=(s1.heap.push { cls:=.type "range",data:=.fields #[.int 0 s1.toks,.int (n:Int) tk,.int 1 (s1.toks + 1)] }).objs.size:=by rw [Heap.size_push]; exact Z5 _
 have hv:Xq ((range n).map λ(i:Nat)=>V.int (i:Int)) acc'.toList:=by
  have key:∀ (us:K8) (k:Nat),(∀ (i:Nat) u,us[i]? = some u->∃ t,u=Value.int ((k + i:Nat):Int) t)->Xq ((range' k us.length).map λ(i:Nat)=>V.int (i:Int)) us:=by
   intro us
   induction us with
   | nil=>intro k _; exact .nil
   | cons u r ih =>intro k h;obtain ⟨t,e⟩:=h 0 u rfl;refine .cons ⟨t,e⟩ (ih (k + 1) λi v hv=>?_);obtain ⟨t,e⟩:=h (i + 1) v (by simpa using hv);exact ⟨t,by rw [e]; congr 2; lia⟩
  have:=key acc'.toList 0 λi u hu=>by obtain ⟨t,e⟩:=hacc.2 i u (by simpa using hu);exact ⟨t,by rw [e]; congr 1; lia⟩
  rw [Array.length_toList,hacc.1,<- range_eq_range'] at this;exact this
 exact ⟨.ref _,_,I1.laid (t':=tk') (o:=.lst ((range n).map λ(i:Nat)=>V.int (i:Int))) (λb u z=>hk b u (O3 _ z)) hp ⟨by rw [length_map,length_range,sizeLine_eq]; lia,acc'.toList,c',hv,by rw [Array.toArray_toList]; exact hS⟩,rfl,q1 _ _ (Jy (I1.hok.fresh hp))⟩
def Ql0 (K:N5):V->List V->Hp->VK->Prop:=λx xs H Q => ∃ (a:G5) (ns:K6) (k:Int),x=.ref a/\xs=[.int k]/\H a=some (.lst (ns.map V.int))/\k∈ns/\Q (.int ((ns.idxOf k:Nat):Int)) H
theorem Qkz:MtR X "list.index" (Ql0 K):=by
 intro dz s σ H x xs v us Q I rx r h;obtain ⟨a,ns,k,rfl,rfl,ha,hm,q⟩:=h;cases rx;obtain ⟨u,rfl,t,rfl⟩:=Tp r;obtain ⟨z,its,n,rv,hl,e⟩:=I.lstM ha;have fu:its.length=ns.length:=by have:=rv.length; simpa using this.symm
 have hi:=A0r.mpr hm;have hia:=Cw rv;have item:∀ (j:Nat) (hj:j < ns.length),∃ t,its.toArray[j]'(by simp; lia)=Value.int ns[j] t:=λj hj=>by obtain ⟨u,hu,t,hut⟩:=rv.get (i:=j) (x:=.int ns[j]) (by simp [hj]);refine ⟨t,?_⟩;rw [<- hut];have:=(N8.mp hu).2;simpa using this
 refine call_meets PySem.F.slot_list_index ⟨_,e,rfl⟩ PySem.F.entry_list_index (PySem.F.args_list_index_2 _ _)
  (MeetsSeq.list_index a its.toArray n (.int k t) (Value.isInt k) (λy hy=>?_) (ns.idxOf k) (by simp; lia) (by rw [sizeLine_eq] at z; rw [length_map] at z; lia) ?_ λm hm2 hlt=>?_) ⟨e,?_⟩
 ·obtain ⟨b,t',rfl⟩:=hia.all y (by simpa using hy);exact MeetsSeq.EqGives.int b k t' t
 ·obtain ⟨t',h⟩:=item _ hi;rw [h,getElem_idxOf hi];simp [Value.isInt]
 ·obtain ⟨t',h⟩:=item m (by simp at hm2; lia);rw [h];have:=not_of_lt_findIdx (p:=(· == k)) (xs:=ns) (i:=m) hlt;simpa [Value.isInt] using this
 ·exact ⟨.int _,H,I.tok _,⟨_,rfl⟩,q⟩
end
def Qq1 {a D:G5} {rows:J7} {te:TE} {σf:St} {H1:Hp} {Q:VK} (hM:Mat H1 a rows) (hz:rows.length < sizeLine) (hD1:H1 D=none)
  (hs:∀ ra (row:K6) H (N:VK),H ra=some (.lst (row.map V.int))->(∀ l H',New H l (.lst (row.map V.int)) H'->N (.ref l) H')->te (some (.ref ra) :: σf) H N)
  (hd:∀ H,Qu H1 H->Mat H D rows->Q (.ref D) H):Rp (Itl K a) D (Jl 0) Qqj te (none :: σf) (upd H1 D (.lst [])) Q:=by
 obtain ⟨ws,hw,hR⟩:=hM;have lw:(ws.map V.ref).length=rows.length:=by rw [length_map,hR.1]
 refine Xe (λi y H => ∃ l row,y=.ref l/\l≠D/\rows[i]? = some row/\H l=some (.lst (row.map V.int))) (SqL.of hw) (by rw [lw]; exact hz) hD1 (λi y H H' k ⟨l,row,e,ne,h1,h2⟩=>⟨l,row,e,ne,h1,k l _ ne h2⟩) ?_ ?_
 ·rintro i x H9 ys N hx s9 d9 hN;obtain ⟨ra,ha,rfl⟩:=Ju hx;have hi:i < rows.length:=by rw [<- hR.1]; exact (N8.mp ha).1
  have gm:rows[i]? = some rows[i]:=by simp [hi]
  exact hs ra _ H9 N (s9 _ _ (hR.2 i ra _ ha gm)) λl H4 n4=>hN _ _ n4.same ⟨l,_,rfl,(Qj d9 n4.none).symm,gm,n4.at_⟩
 rintro ys H9 s9 d9 l9 r9;obtain ⟨ws9,e9,p9⟩:=Wj (P:=λi l => ∃ row,rows[i]? = some row/\H9 l=some (.lst (row.map V.int))) (λi y e=>by obtain ⟨l,row,h1,_,h2,h3⟩:=r9 i y e;exact ⟨l,h1,row,h2,h3⟩)
 subst e9;refine hd H9 s9 ⟨ws9,d9,by rw [length_map,lw] at l9; exact l9,λi a' row h1 h2=>?_⟩;obtain ⟨row',h3,h4⟩:=p9 i a' h1;rw [h3] at h2;cases h2;exact h4
def TCF (F:G5->Prop) (H:Hp) (mv:G5):Prop:=∃ ls:K9,H mv=some (.lst (ls.map V.ref))/\∀ a∈ls,F a
def Ag {ls ls':K9} (h:ls.map V.ref=ls'.map V.ref):ls=ls':=(List.map_inj_right (f:=V.ref) (λa b z=>V.ref.inj z)).mp h
def TCF.at_ {mv:G5} {ls:K9} (h:TCF F H mv) (e:H mv=some (.lst (ls.map V.ref))):∀ a∈ls,F a:=by obtain ⟨ls',e',p⟩:=h;rw [e] at e';have:=Ag (HO.lst.inj (R5 e'));rw [this];exact p
def TCF.keep {H':Hp} {mv:G5} (h:TCF F H mv) (k:∀ o,H mv=some o->H' mv=some o):TCF F H' mv:=by obtain ⟨ls',e',p⟩:=h;exact ⟨ls',k _ e',p⟩
def TCF.imp {G:G5->Prop} {mv:G5} (h:TCF F H mv) (k:∀ a,F a->G a):TCF G H mv:=by obtain ⟨ls',e',p⟩:=h;exact ⟨ls',e',λa ha=>k a (p a ha)⟩
def Uj (wo:Bool) (aj:J7) (way:K7) (ao:Int):Int:=if wo then wsum (wF aj) way - ao else ao
structure Iu (H:Hp) (cl:G5) (aq:List Hop) (n:Nat) (cs:List (List Hop)):Prop where
 ex:∃ ls:K9,H cl=some (.lst (ls.map V.ref))/\ls.length=n/\∀ (i:Nat) a c,ls[i]? = some a->cs[i]? = some c->Zb H a c
 len:cs.length=n
 ch:∀ i,i < n->∃ s,ChS aq s (cs.getD i []) i
def Iu.same {H H':Hp} {cl:G5} {aq:List Hop} {n:Nat} {cs:List (List Hop)} (h:Iu H cl aq n cs) (s:Qu H H'):Iu H' cl aq n cs:=by obtain ⟨ls,e1,e2,e3⟩:=h.ex;exact ⟨⟨ls,s _ _ e1,e2,λi a c h1 h2=>(e3 i a c h1 h2).same s⟩,h.len,h.ch⟩
def Ud.chs {t tl cl:G5} (g:Ud wo H t tl cl ak aj way aq st):Iu H cl aq aj.length st.2:=by obtain ⟨ls,c1,c2,c3,c4⟩:=g.tc.ex;refine ⟨⟨ls,c1,by rw [c2,g.ok.l2],c4⟩,g.ok.l2,λi hi=>?_⟩;obtain ⟨s,_,h,_⟩:=g.ok.at_ i hi;exact ⟨s,h⟩
theorem Pr {r:Nat}:(r:Int)∈wI way ↔ r∈way:=by
 constructor
 ·intro h;obtain ⟨k,hk,e⟩:=O8.mp h;have:k=r:=by have e':(k:Int)=(r:Int):=e;lia
  exact this ▸ hk
 ·exact λh=>O8.mpr ⟨r,h,rfl⟩
theorem Aa (r:Nat):∀ way:K7,(wI way).idxOf (r:Int)=way.idxOf r
 | []=>rfl
 | a :: l=>by
  have ih:=Aa r l;unfold wI at ih ⊢;rw [map_cons,idxOf_cons,idxOf_cons,ih]
  by_cases h:a=r
  ·subst h;simp
  ·have h1:((a:Int) == (r:Int))=false:=by
    have:¬ (a:Int)=(r:Int):=by lia
    exact A0k.mpr this
   have h2:(a == r)=false:=by simpa using h
   rw [show ((λx:Nat=>(x:Int)) a == (r:Int))=false from h1,h2]
def Xh (wo:Bool) (aj:J7) (way:K7) (lv:K6) (parts:Int) (i:Nat):Int:=if wo then parts * Zr aj way i - lv.getD i 0 else lv.getD i 0
def Xj (wo:Bool) (aj:J7) (way:K7) (lv:K6) (parts:Int):K6:=(range aj.length).map (Xh wo aj way lv parts)
def Yg (z:Int) (ns:K6):Prop:=z∈ns/\∀ y∈ns,z<=y
theorem Yg.eq {z y:Int} {ns:K6} (h1:Yg z ns) (h2:Yg y ns):z=y:=by have a:=h1.2 y h2.1;have b:=h2.2 z h1.1;lia
def Wo (way:K7) (cs:K6) (r:Nat) (z:Int):Prop:=if r∈way then z=cs.getD (way.idxOf r) 0 else Yg z cs
def Ua (ak:K6) (way:K7) (cs rows:K6):Prop:=rows.length=ak.length/\∀ (r:Nat) z,rows[r]? = some z->Wo way cs r z
def Ia (K:N5):Sp:=λvs H Q _ => ∃ (parts:Int) (r:G5) (rows:K6),vs=[.int parts,.ref r]/\SqL K H r (rows.map V.int)/\rows.length<=1000/\0 < parts/\parts < 10 ^ 100 /\
 ∀ (t l:G5) (H':Hp),H l=none->Qu H H'->H' t=some (.tup [.int (parts / ((bw parts.natAbs rows:Nat):Int)),.ref l])->H' l=some (.lst ((rows.map λx=>x / ((bw parts.natAbs rows:Nat):Int)).map V.int))->Q (.ref t) H'
def lvL (wo:Bool) (aj:J7) (way:K7) (ao:Int) (gs:K6):K6:=gs.map λg=>(Uj wo aj way ao - gs.sum) + (aj.length:Int) * g
structure Iy (wo:Bool) (H:Hp) (t tp rl cl:G5) (ak:K6) (aj:J7) (ao:Int) (way:K7) (aq:List Hop) (st:TC) (rows:K6):Prop where
 tup:H t=some (.tup [.ref tp,.ref cl])
 pr:H tp=some (.tup [.int ((aj.length:Int) / ((bw aj.length rows:Nat):Int)),.ref rl])
 rl_:H rl=some (.lst ((rows.map λx=>x / ((bw aj.length rows:Nat):Int)).map V.int))
 isr:Ua ak way (Xj wo aj way (lvL wo aj way ao st.1) (aj.length:Int)) rows
 chs:Iu H cl aq aj.length st.2
 good:Xl wo ak aj way aq
 ok:OkC aq (gnF wo aj way) aj.length st
 nn:∀ b,b < aj.length->0<=st.1.getD b 0
 cl_:∀ a b r:Nat,a < aj.length->b < aj.length->a≠b->(r:Int)∈Zd wo ak way a b->st.1.getD a 0 + Zs wo aj way a r b<=st.1.getD b 0
 cb:∀ c∈st.2,c.length<=5000
def Qxw {hs:List Hop} {gn:Hop->Int} {n:Nat} (h:OkC hs gn n st):(st.2.map (wt gn))=st.1:=by
 refine U7 (by simp [h.l1,h.l2]) λi a b=>?_;have hi:i < n:=by rw [<- h.l1]; exact b
 have h2:i < st.2.length:=by rw [h.l2]; exact hi
 obtain ⟨s,_,_,e⟩:=h.at_ i hi;have e1:st.2.getD i []=st.2[i]:=by simp [getD,h2]
 have e2:st.1.getD i 0=st.1[i]:=by simp [getD,b]
 rw [e1,e2] at e;simpa using e
def Qz2 (hx:∀ row∈aj,∀ x∈row,-(10 ^ 42) < x/\x < 10 ^ 42) (i r:Nat):-(10 ^ 42) < wF aj i r/\wF aj i r < 10 ^ 42:=by
 have z:-(10 ^ 42) < (0:Int)/\(0:Int) < 10 ^ 42:=by decide
 unfold wF
 by_cases h:i < aj.length
 ·have e1:aj.getD i []=aj[i]:=by simp [getD,h]
  rw [e1]
  by_cases h2:r < (aj[i]).length
  ·have e2:(aj[i]).getD r 0=(aj[i])[r]:=by simp [getD,h2]
   rw [e2];exact hx _ (N7 h) _ (N7 h2)
  ·have e2:(aj[i]).getD r 0=0:=by simp [getD,h2]
   rw [e2];exact z
 ·have e1:aj.getD i []=[]:=by simp [getD,h]
  rw [e1];exact z
theorem Qm7 (hx:∀ row∈aj,∀ x∈row,-(10 ^ 42) < x/\x < 10 ^ 42) (wo:Bool) (way:K7) (m:Hop):-(2 * 10 ^ 42)<=gnF wo aj way m/\gnF wo aj way m<=2 * 10 ^ 42:=by unfold gnF Zs Zr;have a:=Qz2 hx (if wo then m.2.2 else m.1) m.2.1;have b:=Qz2 hx m.1 (way.getD m.1 0);lia
theorem Qd7 {gn:Hop->Int} {B:Int} (h:∀ m,-B<=gn m/\gn m<=B):∀ c:List Hop,-(c.length * B)<=wt gn c/\wt gn c<=c.length * B
 | []=>by simp [wt]
 | m :: c=>by
  have ih:=Qd7 h c;have hm:=h m;have e:wt gn (m :: c)=gn m + wt gn c:=by simp [wt]
  rw [e,length_cons,show ((c.length + 1:Nat):Int) * B=c.length * B + B by rw [Int.natCast_add,Int.add_mul]; simp];lia
theorem Ez (hx:∀ row∈aj,∀ x∈row,-(10 ^ 42) < x/\x < 10 ^ 42) (ok:OkC aq (gnF wo aj way) aj.length st) (cb:∀ c∈st.2,c.length<=5000):∀ z∈st.1,-(10 ^ 46)<=z/\z<=10 ^ 46:=λz hz=>by
 rw [<- Qxw ok] at hz;obtain ⟨c,hc,rfl⟩:=O8.mp hz;have h:=Qd7 (Qm7 hx wo way) c;have hl:=cb c hc;have:(c.length:Int) * (2 * 10 ^ 42)<=5000 * (2 * 10 ^ 42):=U8 (by lia) (by decide);have e:(5000:Int) * (2 * 10 ^ 42)=10 ^ 46:=by decide
 lia
def getD_get {α:Type} {d:α} (l:List α) (i:Nat) (h:i < l.length):l.getD i d=l[i]:=by simp [getD,h]
def Pn (wo:Bool) (ak:K6) (aj:J7) (way:K7) (gs:K6):Prop:=∀ a b r:Nat,a < aj.length->b < aj.length->a≠b->(r:Int)∈Zd wo ak way a b->gs.getD a 0 + Zs wo aj way a r b<=gs.getD b 0
def Vu (wo:Bool) (ak:K6) (way:K7) (a b:Nat):((way.getD (if wo then a else b) 0:Nat):Int)∈Zd wo ak way a b:=by unfold Zd;exact Q9 _ (by simp)
def Qz6 {i:Nat} (h:i < gs.length):(lvL wo aj way ao gs).getD i 0=(Uj wo aj way ao - gs.sum) + (aj.length:Int) * gs.getD i 0:=by unfold lvL;simp [getD,h]
theorem Qu3 (lg:gs.length=aj.length) (hc:Pn wo ak aj way gs) (ha:a < aj.length) (hb:b < aj.length) (h:way.getD a 0=way.getD b 0) :
  Xh wo aj way (lvL wo aj way ao gs) (aj.length:Int) a=Xh wo aj way (lvL wo aj way ao gs) (aj.length:Int) b:=by
 by_cases e:a=b
 ·rw [e]
 have h1:=hc a b _ ha hb e (Vu wo ak way a b);have h2:=hc b a _ hb ha (Ne.symm e) (Vu wo ak way b a);unfold Xh;rw [Qz6 (by lia),Qz6 (by lia)];cases wo with
 | true =>
  simp only [if_pos,Zs] at h1 h2 ⊢;have e1:wF aj b (way.getD a 0)=Zr aj way b:=by rw [h]; rfl
  have e2:wF aj a (way.getD b 0)=Zr aj way a:=by rw [<- h]; rfl
  rw [e1] at h1;rw [e2] at h2;have e3:Zr aj way a - gs.getD a 0=Zr aj way b - gs.getD b 0:=by lia
  have e4:(aj.length:Int) * Zr aj way a - (aj.length:Int) * gs.getD a 0=(aj.length:Int) * Zr aj way b - (aj.length:Int) * gs.getD b 0:=by rw [<- Int.mul_sub,<- Int.mul_sub,e3]
  lia
 | false =>
  simp only [Bool.false_eq_true,if_false,Zs] at h1 h2 ⊢;have e1:wF aj a (way.getD b 0)=Zr aj way a:=by rw [<- h]; rfl
  have e2:wF aj b (way.getD a 0)=Zr aj way b:=by rw [h]; rfl
  rw [e1] at h1;rw [e2] at h2;have e3:gs.getD a 0=gs.getD b 0:=by lia
  rw [e3]
theorem Wb (n:Int) (f g:Nat->Int):∀ l:K7,(l.map λi=>n * f i - g i).sum=n * (l.map f).sum - (l.map g).sum
 | []=>by simp
 | a :: l=>by simp only [map_cons,sum_cons,Wb n f g l,Int.mul_add];lia
theorem Qi6 (L n:Int) (gs:K6):(gs.map λg=>L + n * g).sum=gs.length * L + n * gs.sum:=by
 induction gs with
 | nil=>simp
 | cons a l ih =>simp only [map_cons,sum_cons,ih,Int.mul_add,length_cons,Int.natCast_add,Int.add_mul];simp;lia
def range_getD:∀ (gs:K6),((range gs.length).map λi=>gs.getD i 0)=gs:=λgs=>by refine U7 (by simp) λi a b=>?_;simp [getD,b]
theorem Qb3 (lg:gs.length=aj.length) (lw:way.length=aj.length) :
  (Xj wo aj way (lvL wo aj way ao gs) (aj.length:Int)).sum=aj.length * ao:=by
 have hl:(lvL wo aj way ao gs).length=aj.length:=by simp [lvL,lg]
 have h2:((range aj.length).map λi=>(lvL wo aj way ao gs).getD i 0)=lvL wo aj way ao gs:=by rw [<- hl]; exact range_getD _
 have h3:(lvL wo aj way ao gs).sum=aj.length * Uj wo aj way ao:=by
  unfold lvL;rw [Qi6,lg,<- Int.mul_add]
  congr 1
  lia
 unfold Xj;cases wo with
 | true =>
  have e:((range aj.length).map (Xh true aj way (lvL true aj way ao gs) (aj.length:Int)))=(range aj.length).map λi=>(aj.length:Int) * Zr aj way i - (lvL true aj way ao gs).getD i 0:=R9 λi _=>by simp [Xh]
  rw [e,Wb,h2,h3];have ew:((range aj.length).map (Zr aj way)).sum=wsum (wF aj) way:=by unfold wsum;rw [lw];rfl
  rw [ew];unfold Uj;rw [if_pos rfl,<- Int.mul_sub]
  congr 1
  lia
 | false =>
  have e:((range aj.length).map (Xh false aj way (lvL false aj way ao gs) (aj.length:Int)))=(range aj.length).map λi=>(lvL false aj way ao gs).getD i 0:=R9 λi _=>by simp [Xh]
  rw [e,h2,h3];rfl
theorem Wx (lg:gs.length=aj.length) (lw:way.length=aj.length) (lt:∀ r∈way,r < ak.length) (hc:Pn wo ak aj way gs)
  (h:Ua ak way (Xj wo aj way (lvL wo aj way ao gs) (aj.length:Int)) rows) {p:Nat} (hp:p < aj.length):rows.getD (way.getD p 0) 0=Xh wo aj way (lvL wo aj way ao gs) (aj.length:Int) p:=by
 have hp':p < way.length:=by lia
 have e0:way.getD p 0=way[p]:=getD_get _ _ hp';have hm:way.getD p 0∈way:=by rw [e0]; exact N7 hp'
 generalize hr0:way.getD p 0=r at *;have hr2:r < rows.length:=by rw [h.1]; exact lt _ hm
 have h2:=h.2 r (rows[r]'hr2) (R7 hr2);unfold Wo at h2;rw [if_pos hm] at h2;have hi:way.idxOf r < way.length:=A0r.mpr hm;have hg:way.getD (way.idxOf r) 0=r:=by rw [getD_get _ _ hi]; exact getElem_idxOf hi
 rw [getD_get _ _ hr2,h2];have hi2:way.idxOf r < aj.length:=by lia
 have lc:(Xj wo aj way (lvL wo aj way ao gs) (aj.length:Int)).length=aj.length:=by simp [Xj]
 rw [getD_get _ _ (by rw [lc]; exact hi2)];have e2:∀ (k:Nat) (hk:k < (Xj wo aj way (lvL wo aj way ao gs) (aj.length:Int)).length),(Xj wo aj way (lvL wo aj way ao gs) (aj.length:Int))[k]=Xh wo aj way (lvL wo aj way ao gs) (aj.length:Int) k:=λk hk=>by simp [Xj]
 rw [e2];exact Qu3 lg hc hi2 hp (by rw [hg,hr0])
def Gj {r:Nat} (h:(r:Int)∈Yw ak (wI way)):(r:Int)∈Zd wo ak way a b:=R8 _ h
section
theorem Gg (lg:gs.length=aj.length) (hc:Pn wo ak aj way gs) {i c r:Nat} (hi:i < aj.length) (hcn:c < aj.length) (hr:r=way.getD c 0\/(r:Int)∈Yw ak (wI way)) (hown:i=c->wF aj i r<=Zr aj way i) :
  (aj.length:Int) * wF aj i r - Xh wo aj way (lvL wo aj way ao gs) (aj.length:Int) c<=(aj.length:Int) * Zr aj way i - Xh wo aj way (lvL wo aj way ao gs) (aj.length:Int) i:=by
 have n0:(0:Int)<=(aj.length:Int):=by lia
 by_cases e:i=c
 ·have h1:=U0 (hown e) n0;subst e;lia
 unfold Xh;rw [Qz6 (by lia),Qz6 (by lia)];cases wo with
 | true =>
  have hm:(r:Int)∈Zd true ak way c i:=by
   rcases hr with h | h
   ·rw [h]; exact Vu true ak way c i
   ·exact Gj h
  have h1:=hc c i r hcn hi (Ne.symm e) hm;simp only [if_pos,Zs] at h1 ⊢;have h2:wF aj i r - Zr aj way c + gs.getD c 0<=gs.getD i 0:=by lia
  have h3:=U0 h2 n0;rw [Int.mul_add,Int.mul_sub] at h3;lia
 | false =>
  have hm:(r:Int)∈Zd false ak way i c:=by
   rcases hr with h | h
   ·rw [h]; exact Vu false ak way i c
   ·exact Gj h
  have h1:=hc i c r hi hcn e hm;simp only [Bool.false_eq_true,if_false,Zs] at h1 ⊢;have h2:wF aj i r - Zr aj way i + gs.getD i 0<=gs.getD c 0:=by lia
  have h3:=U0 h2 n0;rw [Int.mul_add,Int.mul_sub] at h3;lia
theorem Og (lg:gs.length=aj.length) (hc:Pn wo ak aj way gs) {c:Nat} (hb:b < aj.length) (hcn:c < aj.length) (ho:((way.getD b 0:Nat):Int)∈Yw ak (wI way)) :
  Xh wo aj way (lvL wo aj way ao gs) (aj.length:Int) b<=Xh wo aj way (lvL wo aj way ao gs) (aj.length:Int) c:=by
 have h:=Gg (ao:=ao) lg hc (i:=b) (c:=c) (r:=way.getD b 0) hb hcn (.inr ho) (λ_=>Q0 _);have e:wF aj b (way.getD b 0)=Zr aj way b:=rfl;rw [e] at h;lia
end
theorem Ac (ok:Qn ak aj way) (f9:Fit (bF ak) way) (fj:Opt ak aj way) {i r:Nat} (hi:i < aj.length) (hr:r < ak.length) (ho:way.count r < bF ak r):wF aj i r<=Zr aj way i:=by
 obtain ⟨g,g1,g2,g3⟩:=Ah (Bj ak) f9 fj;have hi':i < way.length:=by rw [ok.len]; exact hi
 have h1:=g1 i hi' r hr;have h2:=g2 way[i];have h3:=g3 r ho;have e:Zr aj way i=wF aj i way[i]:=by unfold Zr; rw [getD_get _ _ hi']
 rw [e];lia
def Kh {r:Nat} (hr:r < ak.length) (ho:way.count r < bF ak r):(r:Int)∈Yw ak (wI way):=Jf.mpr ⟨r,rfl,hr,ho⟩
def Qqv {r:Nat} (h:r∈way):∃ c,c < way.length/\way.getD c 0=r:=by have hi:way.idxOf r < way.length:=A0r.mpr h;exact ⟨_,hi,by rw [getD_get _ _ hi]; exact getElem_idxOf hi⟩
def Fe {p:Nat} (h:p < way.length):way.getD p 0∈way:=by rw [getD_get _ _ h]; exact N7 h
section
def Ef {c:Int} (h:c∈Xj wo aj way (lvL wo aj way ao gs) (aj.length:Int)):∃ p,p < aj.length/\c=Xh wo aj way (lvL wo aj way ao gs) (aj.length:Int) p:=by obtain ⟨p,hp,rfl⟩:=O8.mp h;exact ⟨p,O1.mp hp,rfl⟩
def An {p:Nat} (h:p < aj.length):Xh wo aj way (lvL wo aj way ao gs) (aj.length:Int) p∈Xj wo aj way (lvL wo aj way ao gs) (aj.length:Int):=O8.mpr ⟨p,O1.mpr h,rfl⟩
def Pz (h:Ua ak way (Xj wo aj way (lvL wo aj way ao gs) (aj.length:Int)) rows) {r:Nat} (hr:r < ak.length) (hw:r ∉ way):Yg (rows.getD r 0) (Xj wo aj way (lvL wo aj way ao gs) (aj.length:Int)):=by
 have hr2:r < rows.length:=by rw [h.1]; exact hr
 have h2:=h.2 r (rows[r]'hr2) (R7 hr2);unfold Wo at h2;rw [if_neg hw] at h2;rw [getD_get _ _ hr2];exact h2
theorem Sj (ok:Qn ak aj way) (f9:Fit (bF ak) way) (fj:Opt ak aj way) (hb1:∀ b∈ak,1<=b) (lg:gs.length=aj.length) (hc:Pn wo ak aj way gs) (h:Ua ak way (Xj wo aj way (lvL wo aj way ao gs) (aj.length:Int)) rows) {i r:Nat} (hi:i < aj.length) (hr:r < ak.length) :
  (aj.length:Int) * wF aj i r - rows.getD r 0<=(aj.length:Int) * wF aj i (way.getD i 0) - rows.getD (way.getD i 0) 0:=by
 rw [Wx lg ok.len ok.lt hc h hi];have lw:=ok.len
 by_cases hw:r∈way
 ·obtain ⟨c,hc1,hc2⟩:=Qqv hw;have e:=Wx (ao:=ao) lg ok.len ok.lt hc h (p:=c) (by lia);rw [hc2] at e;rw [e];refine Gg (ao:=ao) lg hc hi (c:=c) (r:=r) (by lia) (.inl hc2.symm) λz=>?_;subst z;rw [<- hc2];exact Q0 _
 ·obtain ⟨h1,h2⟩:=Pz h hr hw;obtain ⟨c,hc1,hc2⟩:=Ef h1;have ho:way.count r < bF ak r:=by rw [count_eq_zero.mpr hw];have:=hb1 (ak[r]) (N7 hr);unfold bF;rw [getD_get _ _ hr];lia
  rw [hc2];exact Gg (ao:=ao) lg hc hi (c:=c) (r:=r) hc1 (.inr (Kh hr ho)) λ_=>Ac ok f9 fj hi hr ho
theorem Sv (ok:Qn ak aj way) (lg:gs.length=aj.length) (hc:Pn wo ak aj way gs) (h:Ua ak way (Xj wo aj way (lvL wo aj way ao gs) (aj.length:Int)) rows) {r q:Nat} (hr:r < ak.length) (ho:way.count r < bF ak r) (hq:q∈way):rows.getD r 0<=rows.getD q 0:=by
 have lw:=ok.len;obtain ⟨c,hc1,hc2⟩:=Qqv hq;have e:=Wx (ao:=ao) lg ok.len ok.lt hc h (p:=c) (by lia);rw [hc2] at e;rw [e]
 by_cases hw:r∈way
 ·obtain ⟨b,hb1,hb2⟩:=Qqv hw;have e2:=Wx (ao:=ao) lg ok.len ok.lt hc h (p:=b) (by lia);rw [hb2] at e2;rw [e2];refine Og (ao:=ao) lg hc (by lia) (by lia) ?_;rw [hb2];exact Kh hr ho
 ·exact (Pz h hr hw).2 _ (An (by lia))
def Qp6 (ok:Qn ak aj way) (lg:gs.length=aj.length) (hc:Pn wo ak aj way gs) (h:Ua ak way (Xj wo aj way (lvL wo aj way ao gs) (aj.length:Int)) rows):(way.map λr=>rows.getD r 0).sum=aj.length * ao:=by
 rw [<- Qb3 (wo:=wo) (ao:=ao) lg ok.len]
 congr 1
 refine U7 (by simp [Xj,ok.len]) λp a b=>?_;have hp:p < way.length:=by simpa using a
 have e:=Wx (ao:=ao) lg ok.len ok.lt hc h (p:=p) (by rw [<- ok.len]; exact hp);rw [getD_get _ _ hp] at e;simp only [getElem_map,Xj,getElem_range];exact e
end
structure Low (n:Int) (rows:K6) (d:Int) (k:Int) (R:K6):Prop where
 d0:0 < d
 n_:n=d * k
 len:R.length=rows.length
 at_:∀ r,rows.getD r 0=d * R.getD r 0
theorem Qm5 {n:Nat} (h:0 < n):Low n rows ((bw n rows:Nat):Int) ((n:Int) / ((bw n rows:Nat):Int)) (rows.map λx=>x / ((bw n rows:Nat):Int)):=by
 have hd0:0 < bw n rows:=Kc _ _ h;have hdn:((bw n rows:Nat):Int) ∣ (n:Int):=Int.ofNat_dvd.mpr (Za _ _);have hdr:∀ x∈rows,((bw n rows:Nat):Int) ∣ x:=λx hx=>Int.ofNat_dvd_left.mpr (Uy rows _ x hx);refine ⟨by lia,(Int.mul_ediv_cancel' hdn).symm,by simp,λr=>?_⟩
 by_cases hr:r < rows.length
 ·rw [getD_get _ _ hr,getD_get _ _ (by simpa using hr),getElem_map];exact (Int.mul_ediv_cancel' (hdr _ (N7 hr))).symm
 ·have e1:rows.getD r 0=0:=by simp [getD,hr]
  have e2:(rows.map λx=>x / ((bw n rows:Nat):Int)).getD r 0=0:=by simp [getD,hr]
  rw [e1,e2,Int.mul_zero]
theorem Low.sum (h:Low n rows d k R) (way:K7):(way.map λr=>rows.getD r 0).sum=d * (way.map λr=>R.getD r 0).sum:=by
 induction way with
 | nil=>simp
 | cons a l ih=>simp only [map_cons,sum_cons,ih,h.at_ a,Int.mul_add]
def Iy.low {t tp rl cl:G5} (_:Iy wo H t tp rl cl ak aj ao way aq st rows) (l0:0 < aj.length):Low aj.length rows ((bw aj.length rows:Nat):Int) ((aj.length:Int) / ((bw aj.length rows:Nat):Int)) (rows.map λx=>x / ((bw aj.length rows:Nat):Int)):=Qm5 l0
theorem Qh1 (ok:Qn ak aj way) (f9:Fit (bF ak) way) (lr:rows.length=ak.length) (hx:∀ row∈aj,∀ x∈row,-(10 ^ 42) < x/\x < 10 ^ 42) (hre:-(10 ^ 42) < ao/\ao < 10 ^ 42) (l0:0 < aj.length) (low:Low aj.length rows d k R):Qgx ⟨ak,aj,ao,way,k,R⟩:=by
 have k1:0 < k/\k<=10:=by
  have h1:=low.n_;have h2:=low.d0;have h3:=ok.bok.w1
  constructor
  ·refine R6 λz=>?_;have:=A0s (show 0<=d by lia) (show 0<=-k by lia);rw [Int.mul_neg] at this;lia
  ·refine R6 λz=>?_;have:=U8 (show 1<=d by lia) (show 0<=k by lia);lia
 have e:(10:Int) ^ 42 < 10 ^ 100:=by decide
 refine ⟨ok.bok.b1,ok.bok.w1,ok.bok.rows,by show R.length=ak.length; rw [low.len,lr],ok.len,f9,?_,?_,λrow hr x hxr=>?_⟩
 ·show -(10 ^ 100) < k/\k < 10 ^ 100;lia
 ·show -(10 ^ 100) < ao/\ao < 10 ^ 100;lia
 ·have:=hx row hr x hxr;lia
theorem Qf6 (f:Nat->Int):∀ u:K7,0 < u.length->∃ m∈u,∀ q∈u,f m<=f q:=by
 intro u
 induction u with
 | nil=>intro h; simp at h
 | cons x u ih =>
  intro _;cases u with
  | nil=>exact ⟨x,by simp,λq hq=>by simp at hq; rw [hq]; exact Q0 _⟩
  | cons y u =>
   obtain ⟨m,h1,h2⟩:=ih (by simp)
   by_cases hxm:f x<=f m
   ·refine ⟨x,by simp,λq hq=>?_⟩;rcases R3.mp hq with z | z
    ·rw [z]; exact Q0 _
    ·exact T7 hxm (h2 q z)
   ·refine ⟨m,Q8 _ h1,λq hq=>?_⟩;rcases R3.mp hq with z | z
    ·rw [z]; lia
    ·exact h2 q z
theorem Eb {F:Fp} (hp:0 < F.parts) (w1:0 < F.aj.length) (l:F.way.length=F.aj.length) (fit:Fit (bF F.ak) F.way) (fair:F.is .none) (hl:v.length=F.aj.length) (hf:Fit (bF F.ak) v) :
  wsum (wF F.aj) v<=wsum (wF F.aj) F.way/\(wsum (wF F.aj) v=wsum (wF F.aj) F.way->Fp.is { F with way:=v } .none/\∀ i,i < F.aj.length->F.share i (v.getD i 0)=F.share i (F.way.getD i 0)):=by
 obtain ⟨sm,ne,nd⟩:=fair;have hvl:=Jt hf;have hwl:=Jt fit;have hat:∀ (u:K7),u.length=F.aj.length->(∀ r∈u,r < F.ak.length)->∀ i,i < F.aj.length->u.getD i 0 < F.ak.length:=λu hu hr i hi=>hr _ (Fe (by lia));have hS:∀ i,i < F.aj.length->F.share i (v.getD i 0)<=F.share i (F.way.getD i 0):=λi hi=>by have:=ne i (v.getD i 0) hi (hat v hl hvl i hi);unfold Fp.envies at this;lia
 have hw:∀ u:K7,u.length=F.aj.length->F.parts * wsum (wF F.aj) u=((range F.aj.length).map λi=>F.share i (u.getD i 0)).sum + (u.map λr=>F.rows.getD r 0).sum:=λu hu=>by
  rw [map_range (α:=Nat) u,<- hu,<- Kp];unfold wsum;have e0:=Wb F.parts (λi=>wF F.aj i (u.getD i 0)) (λ_=>0) (range u.length);have e1:((range u.length).map λi=>F.parts * wF F.aj i (u.getD i 0) - (λ_=>(0:Int)) i).sum=((range u.length).map λi=>F.share i (u.getD i 0) + F.rows.getD (u.getD i 0) 0).sum:=by
   congr 1
   refine R9 λi _=>?_;show F.parts * wF F.aj i (u.getD i 0) - 0=F.parts * wF F.aj i (u.getD i 0) - F.rows.getD (u.getD i 0) 0 + F.rows.getD (u.getD i 0) 0;lia
  have e2:((range u.length).map λ_=>(0:Int)).sum=0:=by
   generalize u.length=n
   induction n with
   | zero=>simp
   | succ n ih=>rw [range_succ,map_append,sum_append,ih]; simp
  rw [<- e1,e0,e2];lia
 obtain ⟨c,hc1,hc2⟩:∃ c:Int,(∀ r,r < F.ak.length->F.open_ r->F.rows.getD r 0<=c)/\∀ q,q < F.ak.length->F.taken q->c<=F.rows.getD q 0:=by
  have hne:0 < F.way.length:=by lia
  obtain ⟨m,hm1,hm2⟩:=Qf6 (λr=>F.rows.getD r 0) F.way hne;refine ⟨F.rows.getD m 0,λr hr ho=>?_,λq hq ht=>hm2 q (W3.mp ht)⟩;have:=nd r m hr (hwl m hm1);unfold Fp.dear at this;refine R6 λz=>this ⟨ho,W3.mpr hm1,by lia⟩
 have hterm:∀ r,r < F.ak.length->(F.rows.getD r 0 - c) * ((v.count r:Nat):Int)<=(F.rows.getD r 0 - c) * ((F.way.count r:Nat):Int):=λr hr=>Qav (λhd=>by
   have h1:¬ F.open_ r:=λho=>by have:=hc1 r hr ho; lia
   unfold Fp.open_ at h1;have:=hf r;lia) (λhd=>by
   have h1:¬ F.taken r:=λht=>by have:=hc2 r hr ht; lia
   unfold Fp.taken at h1;lia)
 have hP:∀ u:K7,u.length=F.aj.length->(∀ r∈u,r < F.ak.length)->(u.map λr=>F.rows.getD r 0).sum=((range F.ak.length).map λr=>(F.rows.getD r 0 - c) * ((u.count r:Nat):Int)).sum + c * F.aj.length:=λu hu hr=>by rw [<- El _ _ u hr,Qr5,hu];lia
 have hPle:=Tr F.ak.length hterm;have hSle:=Tr F.aj.length hS;have e1:=hw v hl;have e2:=hw F.way l;have e3:=hP v hl hvl;have e4:=hP F.way l hwl;refine ⟨A0t (by lia) hp,λhe=>?_⟩;rw [he] at e1;have hSe:=Nq F.aj.length hS (by lia);have hPe:=Nq F.ak.length hterm (by lia);refine ⟨⟨?_,λi r hi hr he'=>?_,λr q hr hq hd=>?_⟩,hSe⟩
 ·unfold Fp.sumOk at sm ⊢;show (v.map λr=>F.rows.getD r 0).sum=F.parts * F.ao;rw [<- sm];lia
 ·have h1:=ne i r hi hr;have h2:=hSe i hi;unfold Fp.envies at h1 he';have h3:F.share i (v.getD i 0) < F.share i r:=he';lia
 ·obtain ⟨d1,d2,d3⟩:=hd;have d1':v.count r < bF F.ak r:=d1;have d2':0 < v.count q:=d2;have d3':F.rows.getD q 0 < F.rows.getD r 0:=d3;have hr':F.rows.getD r 0<=c:=by
   refine R6 λz=>?_;have h1:¬ F.open_ r:=λho=>by have:=hc1 r hr ho; lia
   have h2:=Dh (hPe r hr) (by lia);unfold Fp.open_ at h1;lia
  have hq':c<=F.rows.getD q 0:=by
   refine R6 λz=>?_;have h1:¬ F.taken q:=λht=>by have:=hc2 q hq ht; lia
   have h2:=Dh (hPe q hq) (by lia);unfold Fp.taken at h1;lia
  lia
def Vt (wo:Bool) (aj:J7) (way:K7) (n:Int) (rows:K6) (i:Nat):Int:=if wo then n * Zr aj way i - rows.getD (way.getD i 0) 0 else rows.getD (way.getD i 0) 0
section
theorem Qj5 (ok:Qn ak aj way) (fair:Fp.is ⟨ak,aj,ao,way,n,rows⟩ .none) {r:Nat} (ha:a < aj.length) (hb:b < aj.length) (hr:r < ak.length) (hm:(r:Int)∈Zd wo ak way a b):Vt wo aj way n rows a + n * Zs wo aj way a r b<=Vt wo aj way n rows b:=by
 obtain ⟨_,ne,nd⟩:=fair;have lw:=ok.len;have key:∀ x,x < aj.length->(r=way.getD x 0\/(r:Int)∈Yw ak (wI way))->rows.getD r 0<=rows.getD (way.getD x 0) 0:=λx hx h=>by
  rcases h with h | h
  ·rw [h]; exact Q0 _
  ·obtain ⟨r',e1,_,e2⟩:=Jf.mp h;have e3:r'=r:=by lia
   subst e3;have g8:=Fe (way:=way) (p:=x) (by lia);have:=nd r' (way.getD x 0) hr (ok.lt _ g8);refine R6 λz=>this ⟨e2,W3.mpr g8,?_⟩;show rows.getD (way.getD x 0) 0 < rows.getD r' 0;lia
 have g8:∀ x,((r:Int)∈Yw ak (wI way) ++ [((way.getD x 0:Nat):Int)])->r=way.getD x 0\/(r:Int)∈Yw ak (wI way):=λx h=>by
  rcases O6.mp h with e | e
  ·exact .inr e
  ·have:(r:Int)=((way.getD x 0:Nat):Int):=by simpa using e
   exact .inl (by lia)
 cases wo with
 | true =>have h1:=key a ha (g8 a hm);have h2:=ne b r hb hr;have h3:¬ (n * wF aj b (way.getD b 0) - rows.getD (way.getD b 0) 0 < n * wF aj b r - rows.getD r 0):=h2;show n * Zr aj way a - rows.getD (way.getD a 0) 0 + n * (wF aj b r - Zr aj way a)<=n * wF aj b (way.getD b 0) - rows.getD (way.getD b 0) 0;rw [Int.mul_sub];lia
 | false =>have h1:=key b hb (g8 b hm);have h2:=ne a r ha hr;have h3:¬ (n * wF aj a (way.getD a 0) - rows.getD (way.getD a 0) 0 < n * wF aj a r - rows.getD r 0):=h2;show rows.getD (way.getD a 0) 0 + n * (wF aj a r - wF aj a (way.getD a 0))<=rows.getD (way.getD b 0) 0;rw [Int.mul_sub];lia
theorem Qsw (n:Int) (gn:Hop->Int) (c:List Hop):wt (λm=>n * gn m) c=n * wt gn c:=by
 unfold wt
 induction c with
 | nil=>simp
 | cons a l ih=>simp only [map_cons,sum_cons,ih,Int.mul_add]
theorem Qj3 (ok:Qn ak aj way) (fair:Fp.is ⟨ak,aj,ao,way,n,rows⟩ .none):((range aj.length).map (Vt wo aj way n rows)).sum=n * Uj wo aj way ao:=by
 have sm:(way.map λr=>rows.getD r 0).sum=n * ao:=fair.1;rw [map_range (α:=Nat) way,ok.len] at sm;cases wo with
 | true =>
  have e:((range aj.length).map (Vt true aj way n rows))=(range aj.length).map λi=>n * Zr aj way i - rows.getD (way.getD i 0) 0:=R9 λi _=>by simp [Vt]
  have ew:((range aj.length).map (Zr aj way)).sum=wsum (wF aj) way:=by unfold wsum;rw [ok.len];rfl
  rw [e,Wb n (Zr aj way) (λi=>rows.getD (way.getD i 0) 0),sm,ew];show n * wsum (wF aj) way - n * ao=n * (wsum (wF aj) way - ao);rw [Int.mul_sub]
 | false =>
  have e:((range aj.length).map (Vt false aj way n rows))=(range aj.length).map λi=>rows.getD (way.getD i 0) 0:=R9 λi _=>by simp [Vt]
  rw [e,sm];rfl
end
structure Qz0 (wo:Bool) (ak:K6) (aj:J7) (ao:Int) (way:K7) (aq:List Hop) (st:TC) (rows:K6):Prop where
 isr:Ua ak way (Xj wo aj way (lvL wo aj way ao st.1) (aj.length:Int)) rows
 good:Xl wo ak aj way aq
 ok:OkC aq (gnF wo aj way) aj.length st
 nn:∀ b,b < aj.length->0<=st.1.getD b 0
 cl_:Pn wo ak aj way st.1
def Iy.r {t tp rl cl:G5} (g:Iy wo H t tp rl cl ak aj ao way aq st rows):Qz0 wo ak aj ao way aq st rows:=⟨g.isr,g.good,g.ok,g.nn,g.cl_⟩
section
theorem Pq (c:Int) (n:Nat):((range n).map λ_=>c).sum=n * c:=by
 induction n with
 | zero=>simp
 | succ n ih =>
  rw [range_succ,map_append,sum_append,ih];have:((n + 1:Nat):Int) * c=n * c + c:=by rw [Int.natCast_add,Int.add_mul]; simp
  rw [this];simp
def Qz0.gsum (g:Qz0 wo ak aj ao way aq st rows):((range aj.length).map λi=>st.1.getD i 0).sum=st.1.sum:=by rw [<- g.ok.l1,range_getD]
theorem Qz0.fair (g:Qz0 wo ak aj ao way aq st rows) (ok:Qn ak aj way) (f9:Fit (bF ak) way) (fj:Opt ak aj way) (hb1:∀ b∈ak,1<=b):Fp.is ⟨ak,aj,ao,way,(aj.length:Int),rows⟩ .none:=by
 have lg:=g.ok.l1;have hc:=g.cl_;refine ⟨Qp6 ok lg hc g.isr,λi r hi hr he=>?_,λr q hr hq hd=>?_⟩
 ·have h1:=Sj ok f9 fj hb1 lg hc g.isr (i:=i) (r:=r) hi hr;have he':(aj.length:Int) * wF aj i (way.getD i 0) - rows.getD (way.getD i 0) 0 < (aj.length:Int) * wF aj i r - rows.getD r 0:=he;lia
 ·obtain ⟨h1,h2,h3⟩:=hd;have h4:=Sv ok lg hc g.isr (r:=r) (q:=q) hr h1 (W3.mp h2);have h5:rows.getD q 0 < rows.getD r 0:=h3;lia
theorem Qz0.lev (g:Qz0 wo ak aj ao way aq st rows) (ok:Qn ak aj way) {i:Nat} (hi:i < aj.length):Vt wo aj way (aj.length:Int) rows i=(Uj wo aj way ao - st.1.sum) + (aj.length:Int) * st.1.getD i 0:=by
 have e:=Wx (ao:=ao) g.ok.l1 ok.len ok.lt g.cl_ g.isr hi;have l:=Qz6 (wo:=wo) (aj:=aj) (way:=way) (ao:=ao) (gs:=st.1) (i:=i) (by rw [g.ok.l1]; exact hi);unfold Vt;rw [e];unfold Xh;rw [l];cases wo
 ·simp
 ·simp;lia
theorem Qz0.bound (g:Qz0 wo ak aj ao way aq st rows) (ok:Qn ak aj way) (l0:0 < aj.length) (n0:0 < n) (fair:Fp.is ⟨ak,aj,ao,way,n,bx⟩ .none) (hm:∀ i,i < aj.length->m<=Vt wo aj way n bx i):(aj.length:Int) * m<=n * (Uj wo aj way ao - st.1.sum)/\((aj.length:Int) * m=n * (Uj wo aj way ao - st.1.sum)->∀ b,b < aj.length->Vt wo aj way n bx b=m + n * st.1.getD b 0):=by
 have h1:∀ b,b < aj.length->m + n * st.1.getD b 0<=Vt wo aj way n bx b:=λb hb=>by
  obtain ⟨s,s1,s2,s3⟩:=g.ok.at_ b hb;have h2:=s2.pot (gn:=λx=>n * gnF wo aj way x) (h:=Vt wo aj way n bx) λx hx=>by obtain ⟨m1,m2,m3,m4,m5⟩:=g.good.mem x hx;exact Qj5 ok fair m1 m2 m4 m5
  rw [Qsw,s3] at h2;have h3:=hm s s1;lia
 have h2:=Tr aj.length h1;have e1:((range aj.length).map λb=>m + n * st.1.getD b 0).sum=aj.length * m + n * st.1.sum:=by rw [Kp (λ_=>m) (λb=>n * st.1.getD b 0),Pq];have:=Wb n (λb=>st.1.getD b 0) (λ_=>0) (range aj.length);rw [g.gsum] at this;simp only [Int.sub_zero] at this;rw [this,Pq];lia
 have e2:=Qj3 (wo:=wo) ok fair;have e3:n * (Uj wo aj way ao - st.1.sum)=n * Uj wo aj way ao - n * st.1.sum:=Int.mul_sub _ _ _;rw [e1] at h2;rw [e3];have h2':(aj.length:Int) * m + n * st.1.sum<=((range aj.length).map (Vt wo aj way n bx)).sum:=h2;rw [e2] at h2';refine ⟨by lia,λe b hb=>?_⟩;have h4:=Nq aj.length h1 (by rw [e1];show _=((range aj.length).map (Vt wo aj way n bx)).sum;rw [e2];lia) b hb
 exact h4.symm
end
theorem Qj4 {i:Nat} (h:Vt wo aj way n rows i=Vt wo aj way n bx i):rows.getD (way.getD i 0) 0=bx.getD (way.getD i 0) 0:=by
 unfold Vt at h;cases wo with
 | false=>simpa using h
 | true =>simp only [if_pos] at h;lia
structure Qg8 (wo:Bool) (ak:K6) (aj:J7) (ao:Int) (way:K7) (rows:K6) (m:Int):Prop where
 ok:Qn ak aj way
 fit:Fit (bF ak) way
 opt:Opt ak aj way
 l0:0 < aj.length
 len:rows.length=ak.length
 fair:Fp.is ⟨ak,aj,ao,way,(aj.length:Int),rows⟩ .none
 ge:∀ i,i < aj.length->m<=Vt wo aj way (aj.length:Int) rows i
 empty:∀ r,r < ak.length->r ∉ way->(∃ p,p∈way/\rows.getD r 0=rows.getD p 0)/\∀ p,p∈way->rows.getD r 0<=rows.getD p 0
 max:∀ (bx:K6) (m':Int),Fp.is ⟨ak,aj,ao,way,(aj.length:Int),bx⟩ .none->(∀ i,i < aj.length->m'<=Vt wo aj way (aj.length:Int) bx i)->m'<=m/\(m'=m->∀ i,i < aj.length->Vt wo aj way (aj.length:Int) bx i=Vt wo aj way (aj.length:Int) rows i)
theorem Qz0.best (g:Qz0 wo ak aj ao way aq st rows) (ok:Qn ak aj way) (fit:Fit (bF ak) way) (opt:Opt ak aj way) (hb1:∀ b∈ak,1<=b) (l0:0 < aj.length):Qg8 wo ak aj ao way rows (Uj wo aj way ao - st.1.sum):=by
 have n0:(0:Int) < (aj.length:Int):=by lia
 have lw:=ok.len;refine ⟨ok,fit,opt,l0,g.isr.1,g.fair ok fit opt hb1,λi hi=>?_,λr hr hw=>?_,λbx m' f h=>?_⟩
 ·have h1:=g.lev ok hi;have h2:=A0s (show 0<=(aj.length:Int) by lia) (g.nn i hi);lia
 ·obtain ⟨h1,h2⟩:=Pz g.isr hr hw;obtain ⟨c,hc1,hc2⟩:=Ef h1;refine ⟨⟨way.getD c 0,Fe (by lia),?_⟩,λp hp=>?_⟩
  ·rw [Wx (ao:=ao) g.ok.l1 ok.len ok.lt g.cl_ g.isr hc1];exact hc2
  ·obtain ⟨c',hc1',rfl⟩:=Qqv hp;rw [Wx (ao:=ao) g.ok.l1 ok.len ok.lt g.cl_ g.isr (p:=c') (by lia)];exact h2 _ (An (by lia))
 ·obtain ⟨c1,c2⟩:=g.bound ok l0 n0 f h;refine ⟨A0t c1 n0,λe i hi=>?_⟩;rw [c2 (by rw [e]) i hi,g.lev ok hi,e]
theorem Qg8.all_ge (g:Qg8 false ak aj ao way rows m) {r:Nat} (hr:r < ak.length):m<=rows.getD r 0:=by
 have lw:=g.ok.len;have key:∀ p∈way,m<=rows.getD p 0:=λp hp=>by obtain ⟨c,hc1,rfl⟩:=Qqv hp;exact g.ge c (by lia)
 by_cases hw:r∈way
 ·exact key r hw
 ·obtain ⟨⟨p,h1,h2⟩,_⟩:=g.empty r hr hw;rw [h2];exact key p h1
theorem Qg8.half {cj:K7} (g:Qg8 wo ak aj ao way rows m) (ok':Qn ak aj cj) (fit':Fit (bF ak) cj) (opt':Opt ak aj cj) :
  Fp.is ⟨ak,aj,ao,cj,(aj.length:Int),rows⟩ .none/\(∀ i,i < aj.length->m<=Vt wo aj cj (aj.length:Int) rows i)/\(wo=true->∀ i,i < aj.length->Vt wo aj cj (aj.length:Int) rows i=Vt wo aj way (aj.length:Int) rows i):=by
 have lw:=g.ok.len;have lw':=ok'.len;have l0:=g.l0;have ew:wsum (wF aj) cj=wsum (wF aj) way:=by have h1:=g.opt cj (by lia) fit';have h2:=opt' way (by lia) g.fit;lia
 obtain ⟨f1,f2⟩:=(Eb (F:=⟨ak,aj,ao,way,(aj.length:Int),rows⟩) (by show (0:Int) < aj.length; lia) l0 lw g.fit g.fair (v:=cj) lw' fit').2 ew;have hs:wo=true->∀ i,i < aj.length->Vt wo aj cj (aj.length:Int) rows i=Vt wo aj way (aj.length:Int) rows i:=λe i hi=>by subst e;have h3:=f2 i hi;unfold Vt;simp only [if_pos];exact h3
 refine ⟨f1,λi hi=>?_,hs⟩;cases wo with
 | true =>rw [hs rfl i hi];exact g.ge i hi
 | false=>exact g.all_ge (r:=cj.getD i 0) (ok'.lt _ (Fe (by lia)))
theorem Qg8.same {cj:K7} {m':Int} (g:Qg8 wo ak aj ao way rows m) (g':Qg8 wo ak aj ao cj bx m'):rows=bx/\m=m':=by
 obtain ⟨a1,a2,_⟩:=g.half g'.ok g'.fit g'.opt;obtain ⟨b1,b2,_⟩:=g'.half g.ok g.fit g.opt;obtain ⟨c1,c2⟩:=g'.max rows m a1 a2;obtain ⟨d1,d2⟩:=g.max bx m' b1 b2;have em:m=m':=by lia
 have lw:=g.ok.len;have lw':=g'.ok.len;have t1:∀ r,r∈way->rows.getD r 0=bx.getD r 0:=λr hr=>by obtain ⟨c,hc1,rfl⟩:=Qqv hr;exact (Qj4 (d2 em.symm c (by lia))).symm
 have t2:∀ r,r∈cj->rows.getD r 0=bx.getD r 0:=λr hr=>by obtain ⟨c,hc1,rfl⟩:=Qqv hr;exact Qj4 (c2 em c (by lia))
 refine ⟨U7 (by rw [g.len,g'.len]) λr h1 h2=>?_,em⟩;have hr:r < ak.length:=by rw [<- g.len]; exact h1
 rw [<- getD_get (d:=0) _ _ h1,<- getD_get (d:=0) _ _ h2]
 by_cases w1:r∈way
 ·exact t1 r w1
 by_cases w2:r∈cj
 ·exact t2 r w2
 obtain ⟨⟨p,p1,p2⟩,p3⟩:=g.empty r hr w1;obtain ⟨⟨p',q1,q2⟩,q3⟩:=g'.empty r hr w2;have u1:bx.getD r 0<=rows.getD p 0:=by
  by_cases z:p∈cj
  ·rw [t1 p p1]; exact q3 p z
  ·obtain ⟨⟨p2',y1,y2⟩,y3⟩:=g'.empty p (g.ok.lt p p1) z;rw [t1 p p1,y2];exact q3 _ y1
 have u2:rows.getD r 0<=bx.getD p' 0:=by
  by_cases z:p'∈way
  ·rw [<- t2 p' q1]; exact p3 p' z
  ·obtain ⟨⟨p2',y1,y2⟩,y3⟩:=g.empty p' (g'.ok.lt p' q1) z;rw [<- t2 p' q1,y2];exact p3 _ y1
 lia
def Told (wo:Bool) (ak:K6) (aj:J7) (ao:Int) (rows:K6):Prop:=∃ (way:K7) (m:Int),Qg8 wo ak aj ao way rows m
def Told.uniq (h:Told wo ak aj ao rows) (h':Told wo ak aj ao bx):rows=bx:=by obtain ⟨w1,m1,b1⟩:=h;obtain ⟨w2,m2,b2⟩:=h';exact (b1.same b2).1
structure Jg (ak:K6) (aj:J7):Prop where
 bok:Bv ak aj
 w1:0 < aj.length
 w3:(aj.length:Int)<=ak.sum
 b1:∀ b∈ak,1<=b
 x:∀ row∈aj,∀ x∈row,-(10 ^ 42) < x/\x < 10 ^ 42
theorem Cm.g {mp mr:Int} (ok:Cm ak aj ao mp mr) (h1:mp<=10) (h2:mr<=10):Jg ak aj :=⟨⟨by have:=ok.b2; lia,by have:=ok.w2; lia,ok.w4⟩,by have:=ok.w1; lia,ok.w3,λb hb=>(ok.b3 b hb).1,λrow hr z hz=>by have:=ok.w5 row hr z hz; lia⟩
def Qw8 (wo:Bool) (CH CW:G5):Sp:=λvs H Q _ => ∃ (p t:G5) (ak:K6) (aj:J7) (ao:Int) (way:K7) (m:Hop),vs=[.ref p,.ref t]/\Xd CH CW H p ak aj ao way/\Qn ak aj way/\H t=some (.tup (Qnx m))/\m.1 < aj.length/\m.2.2 < aj.length/\m.1≠m.2.2/\(m.2.1:Int)∈Zd wo ak way m.1 m.2.2/\∀ H',Qu H H'->Q (.bl true) H'
def Qwq (wo:Bool) (CH CW:G5):Sp:=λvs H Q _ => ∃ (p cl:G5) (ak:K6) (aj:J7) (ao:Int) (way:K7) (aq c:List Hop) (s i:Nat),vs=[.ref p,.ref cl,.int (i:Int)]/\Xd CH CW H p ak aj ao way/\Qn ak aj way/\Xl wo ak aj way aq/\ChS aq s c i/\Zb H cl c/\∀ H',Qu H H'->Q (.int (wt (gnF wo aj way) c)) H'
def Lr (wo:Bool) (CH CW PT:G5) (bh:Pos) (qual:Str) (K:N5):Sp:=λvs H Q _ => ∃ (p rl:G5) (ak:K6) (aj:J7) (ao:Int) (way:K7) (a b:Nat) (ms:K6),vs=[.ref p,.ref rl,.int (a:Int),.int (b:Int)]/\Xd CH CW H p ak aj ao way/\Qn ak aj way/\a < aj.length/\b < aj.length /\
 H rl=some (.lst (ms.map V.int))/\Dz ms (Zd wo ak way a b)/\Qe H PT bh qual /\
 ∀ (r:Nat) (H':Hp),Qc H H'->Yl PT H H'->Qe H' PT bh qual->(r:Int)∈Zd wo ak way a b->r < ak.length->(∀ r':Nat,(r':Int)∈Zd wo ak way a b->Zs wo aj way a r' b<=Zs wo aj way a r b)->Q (.int (r:Int)) H'
def Ln (wo:Bool) (CH CW PT:G5) (bh:Pos) (qual:Str):Sp:=λvs H Q _ => ∃ (p:G5) (ak:K6) (aj:J7) (ao:Int) (way:K7),vs=[.ref p]/\Xd CH CW H p ak aj ao way/\Qn ak aj way/\Qe H PT bh qual /\
 ∀ (hl:G5) (aq:List Hop) (H':Hp),Qc H H'->Yl PT H H'->Qe H' PT bh qual->H hl=none->Zb H' hl aq->Xl wo ak aj way aq->Q (.ref hl) H'
def Oq (wo:Bool) (CH CW PT:G5) (bh:Pos) (qual:Str):Sp:=λvs H Q _ => ∃ (p:G5) (ak:K6) (aj:J7) (ao:Int) (way:K7),vs=[.ref p]/\Xd CH CW H p ak aj ao way/\Qn ak aj way/\Fit (bF ak) way/\Opt ak aj way/\Qe H PT bh qual /\
 ∀ (t tl cl:G5) (aq:List Hop) (st:TC) (H':Hp),Qc H H'->Yl PT H H'->Qe H' PT bh qual->H tl=none->H cl=none->H t=none->TCF (λa=>H a=none) H' cl->(∀ c∈st.2,c.length<=5000)->Ud wo H' t tl cl ak aj way aq st->Q (.ref t) H'
def Qwj (wo:Bool) (CH CW:G5):Sp:=λvs H Q _ => ∃ (p cl:G5) (ak:K6) (aj:J7) (ao:Int) (way:K7) (aq:List Hop) (cs:List (List Hop)),vs=[.ref p,.ref cl]/\Xd CH CW H p ak aj ao way/\Qn ak aj way/\Xl wo ak aj way aq/\Iu H cl aq aj.length cs /\
 ∀ (t:G5) (H':Hp),Qu H H'->H t=none->H' t=some (.tup [.int (Uj wo aj way ao - (cs.map (wt (gnF wo aj way))).sum),.int (aj.length:Int)])->Q (.ref t) H'
def Mg (wo:Bool) (K:N5) (CH CW:G5):Sp:=λvs H Q _ => ∃ (p cl:G5) (ak:K6) (aj:J7) (ao:Int) (way:K7) (cs:K6) (r:Nat),vs=[.ref p,.ref cl,.int (r:Int)]/\Xd CH CW H p ak aj ao way/\Qn ak aj way/\H cl=some (.lst (cs.map V.int))/\cs.length=aj.length/\0 < aj.length /\
 ∀ (z:Int),Wo way cs r z->Q (.int z) H
def Ld (wo:Bool) (K:N5) (CH CW:G5):Sp:=λvs H Q _ => ∃ (p ll:G5) (ak:K6) (aj:J7) (ao:Int) (way:K7) (lv:K6) (parts:Int),vs=[.ref p,.ref ll,.int parts]/\Xd CH CW H p ak aj ao way/\Qn ak aj way/\H ll=some (.lst (lv.map V.int))/\lv.length=aj.length/\0 < aj.length/\0 < parts/\parts < 1000/\(∀ row∈aj,∀ x∈row,-(10 ^ 42) < x/\x < 10 ^ 42) /\
 ∀ (rows:K6) (t l:G5) (H':Hp),Ua ak way (Xj wo aj way lv parts) rows->H l=none->Qu H H'->H' t=some (.tup [.int (parts / ((bw parts.natAbs rows:Nat):Int)),.ref l])->H' l=some (.lst ((rows.map λx=>x / ((bw parts.natAbs rows:Nat):Int)).map V.int))->Q (.ref t) H'
def Oz (wo:Bool) (CH CW PT:G5) (bh:Pos) (qual:Str):Sp:=λvs H Q _ => ∃ (p:G5) (ak:K6) (aj:J7) (ao:Int) (way:K7),vs=[.ref p]/\Xd CH CW H p ak aj ao way/\Qn ak aj way/\Fit (bF ak) way/\Opt ak aj way/\Qe H PT bh qual/\0 < aj.length/\(∀ row∈aj,∀ x∈row,-(10 ^ 42) < x/\x < 10 ^ 42) /\
 ∀ (t tp rl cl:G5) (aq:List Hop) (st:TC) (rows:K6) (H':Hp),Qc H H'->Yl PT H H'->Qe H' PT bh qual->H cl=none->H rl=none->rl≠cl->TCF (λa=>H a=none/\a≠rl) H' cl->Iy wo H' t tp rl cl ak aj ao way aq st rows->Q (.ref t) H'
section
variable {CH CW p:G5} {σ:St} {Q:VK} {ta:TE} {t:TA}
def Se (hA:Xd CH CW H p ak aj ao way) (ok:Qn ak aj way) (ha:a < aj.length) (hb:b < aj.length) (h0:∀ K:VK,K (.ref p) H->ta σ H K) (ht:∀ K:List V->Hp->Prop,K [.int (a:Int),.int (b:Int)] H->t σ H K)
  (k:∀ (l:G5) (ms:K6) (H':Hp),Qu H H'->H l=none->H' l=some (.lst (ms.map V.int))->Dz ms (Zd wo ak way a b)->Q (.ref l) H') :
  Ms CW "through" (Dv wo CH CW) [] E0 ta t σ H Q:=by
 obtain ⟨dx,hp,wa,g1,g2,g3⟩:=hA.ex;exact h0 _ ⟨p,dx,_,rfl,g1,Qgz _ _ (by decide +kernel) (by decide +kernel),ht _ ⟨p,ak,aj,ao,way,a,b,rfl,hA,ok,ha,hb,k⟩⟩
def Mz {r:Nat} (hA:Xd CH CW H p ak aj ao way) (ok:Qn ak aj way) (ha:a < aj.length) (hr:r < ak.length) (hb:b < aj.length) (h0:∀ K:VK,K (.ref p) H->ta σ H K) (ht:∀ K:List V->Hp->Prop,K [.int (a:Int),.int (r:Int),.int (b:Int)] H->t σ H K)
  (k:Q (.int (Zs wo aj way a r b)) H) :
  Ms CW "gain" (Qx3 wo CH CW) [] E0 ta t σ H Q:=by
 obtain ⟨dx,hp,wa,g1,g2,g3⟩:=hA.ex;exact h0 _ ⟨p,dx,_,rfl,g1,Qgz _ _ (by decide +kernel) (by decide +kernel),ht _ ⟨p,ak,aj,ao,way,a,r,b,rfl,hA,ok,ha,hr,hb,k⟩⟩
def Qv6 (hA:Xd CH CW H p ak aj ao way) (ok:Qn ak aj way) (h0:∀ K:VK,K (.ref p) H->ta σ H K)
  (k:∀ H',Qu H H'->Q (.int (if wo then wsum (wF aj) way - ao else ao)) H') :
  Ms CW "whole" (Bu wo CH CW) [] E0 ta Qez σ H Q:=by
 obtain ⟨dx,hp,wa,g1,g2,g3⟩:=hA.ex;exact h0 _ ⟨p,dx,_,rfl,g1,Qgz _ _ (by decide +kernel) (by decide +kernel),p,ak,aj,ao,way,rfl,hA,ok,k⟩
def Qk5 {i:Nat} {level parts:Int} (hA:Xd CH CW H p ak aj ao way) (ok:Qn ak aj way) (hi:i < aj.length) (hx:∀ row∈aj,∀ x∈row,-(10 ^ 42) < x/\x < 10 ^ 42) (hp:-(10 ^ 200) < parts/\parts < 10 ^ 200) (h0:∀ K:VK,K (.ref p) H->ta σ H K) (ht:∀ K:List V->Hp->Prop,K [.int (i:Int),.int level,.int parts] H->t σ H K)
  (k:Q (.int (if wo then parts * Zr aj way i - level else level)) H) :
  Ms CW "price" (Aq wo CH CW) [] E0 ta t σ H Q:=by
 obtain ⟨dx,hp',wa,g1,g2,g3⟩:=hA.ex;exact h0 _ ⟨p,dx,_,rfl,g1,Qgz _ _ (by decide +kernel) (by decide +kernel),ht _ ⟨p,ak,aj,ao,way,i,level,parts,rfl,hA,ok,hi,hx,hp,k⟩⟩
end
theorem Nk {B:Int}:∀ {l:K6},(∀ z∈l,-B<=z/\z<=B)->-((l.length:Int) * B)<=l.sum/\l.sum<=(l.length:Int) * B
 | [],_=>by simp
 | a :: l,h=>by have ih:=Nk (l:=l) λz hz=>h z (Q8 _ hz);have ha:=h a Q7;rw [sum_cons,length_cons,show ((l.length + 1:Nat):Int) * B=(l.length:Int) * B + B by rw [Int.natCast_add,Int.add_mul]; simp];lia
theorem He (hx:∀ row∈aj,∀ x∈row,-(10 ^ 42) < x/\x < 10 ^ 42) (hl:way.length<=10):-(10 ^ 43)<=wsum (wF aj) way/\wsum (wF aj) way<=10 ^ 43:=by
 have h:=Nk (B:=10 ^ 42) (l:=(range way.length).map λi=>wF aj i (way.getD i 0)) λz hz=>by obtain ⟨i,_,rfl⟩:=O8.mp hz;have:=Qz2 hx i (way.getD i 0);lia
 rw [length_map,length_range] at h;have h2:(way.length:Int) * 10 ^ 42<=10 * 10 ^ 42:=U8 (by lia) (by decide);have e:(10:Int) * 10 ^ 42=10 ^ 43:=by decide
 unfold wsum;lia
theorem Cy (low:Low n rows d k R) (h0:0 < n) (h1:n<=10):0 < k/\k<=10:=by
 have e:=low.n_;have h2:=low.d0
 constructor
 ·refine R6 λz=>?_;have:=A0s (show 0<=d by lia) (show 0<=-k by lia);rw [Int.mul_neg] at this;lia
 ·refine R6 λz=>?_;have:=U8 (show 1<=d by lia) (show 0<=k by lia);lia
def Fu (n:Int) (m:Nat) (aj:J7) (rows:K6) (i r:Nat):Bool:=(range m).all λr'=>decide (n * wF aj i r' - rows.getD r' 0<=n * wF aj i r - rows.getD r 0)
def Fo (n:Int) (m:Nat) (aj:J7) (rows:K6):J7:=(range aj.length).map λi=>((range m).filter (Fu n m aj rows i)).map λ(r:Nat)=>(r:Int)
def Qj1 {m:Nat} {i r:Nat}:Fu n m aj rows i r=true ↔ ∀ r',r' < m->n * wF aj i r' - rows.getD r' 0<=n * wF aj i r - rows.getD r 0:=by unfold Fu;rw [all_eq_true];exact ⟨λh r' hr'=>Q6 (h r' (O1.mpr hr')),λh r' hr'=>P0 (h r' (O1.mp hr'))⟩
theorem Qr6 (ok:Qn ak aj way) (fair:Fp.is ⟨ak,aj,ao,way,(aj.length:Int),rows⟩ .none) (low:Low aj.length rows d k R) {i r:Nat} (hi:i < aj.length) (hr:r < ak.length):decide (k * wF aj i r - R.getD r 0=k * wF aj i (way.getD i 0) - R.getD (way.getD i 0) 0)=Fu (aj.length:Int) ak.length aj rows i r:=by
 have d0:=low.d0;have sc:∀ x,(aj.length:Int) * wF aj i x - rows.getD x 0=d * (k * wF aj i x - R.getD x 0):=λx=>by rw [low.at_,low.n_,Int.mul_sub,Int.mul_assoc]
 have ne:∀ x,x < ak.length->(aj.length:Int) * wF aj i x - rows.getD x 0<=(aj.length:Int) * wF aj i (way.getD i 0) - rows.getD (way.getD i 0) 0:=λx hx=>by have:=fair.2.1 i x hi hx;have h2:¬ ((aj.length:Int) * wF aj i (way.getD i 0) - rows.getD (way.getD i 0) 0 < (aj.length:Int) * wF aj i x - rows.getD x 0):=this;lia
 have hw:=(ok.at_ hi).2;rw [Bool.eq_iff_iff,Qj1]
 constructor
 ·intro h r' hr';have e:=Q6 h;have h1:=ne r' hr';rw [sc r,e,<- sc];exact h1
 ·intro h;have h1:=h _ hw;have h2:=ne r hr;have e:(aj.length:Int) * wF aj i r - rows.getD r 0=(aj.length:Int) * wF aj i (way.getD i 0) - rows.getD (way.getD i 0) 0:=by lia
  rw [sc,sc] at e;exact P0 (A1c (by lia) e)
def Told.fair (h:Told wo ak aj ao rows) (ok:Qn ak aj way) (fit:Fit (bF ak) way) (opt:Opt ak aj way):Fp.is ⟨ak,aj,ao,way,(aj.length:Int),rows⟩ .none:=by obtain ⟨w,m,b⟩:=h;exact (b.half ok fit opt).1
def Ol {m:Nat}:(Fo n m aj rows).length=aj.length:=by simp [Fo]
abbrev Xy:=Int × Int × Int
variable {c:List Xy}
def okI (wo:Bool) (ak:K6) (n:Nat) (way:K7) (m:Xy):Bool:=decide (m.1≠m.2.2/\0<=m.1/\m.1 < (n:Int)/\0<=m.2.2/\m.2.2 < (n:Int)/\m.2.1∈Zd wo ak way m.1.toNat m.2.2.toNat)
def gnI (wo:Bool) (aj:J7) (way:K7) (m:Xy):Int:=Zs wo aj way m.1.toNat m.2.1.toNat m.2.2.toNat
def wbI (ok:Xy->Bool) (gn:Xy->Int):List Xy->Int->Option Int
 | [],_=>some 0
 | h :: t,e=>if h.2.2=e/\ok h=true then (wbI ok gn t h.1).map (· + gn h) else none
def fwI (ok:Xy->Bool) (gn:Xy->Int):List Xy->Option Int->Int->Option Int
 | [],at_,i=>if at_=none\/at_=some i then some 0 else none
 | h :: t,at_,i=>if ok h=true/\(at_=none\/at_=some h.1) then (fwI ok gn t (some h.2.2) i).map (· + gn h) else none
theorem Hv (o:M5) (x y:Int):(o.map (· + x)).map (· + y)=(o.map (· + y)).map (· + x):=by
 cases o with
 | none=>rfl
 | some z =>
  simp only [Option.map_some]
  congr 1
  lia
theorem Mx (ok:Xy->Bool) (gn:Xy->Int) (h:Xy):∀ (c:List Xy) (at_:M5) (i:Int),fwI ok gn (c ++ [h]) at_ i=if h.2.2=i/\ok h=true then (fwI ok gn c at_ h.1).map (· + gn h) else none
 | [],at_,i=>by
  simp only [nil_append,fwI]
  by_cases h1:ok h=true
  ·by_cases h2:at_=none\/at_=some h.1
   ·by_cases h3:h.2.2=i
    ·simp [h1,h2,h3]
    ·have h3':¬ (h.2.2=i):=h3;simp [h1,h2,h3]
   ·simp [h1,h2]
  ·simp [h1]
 | x :: c,at_,i=>by
  simp only [cons_append,fwI,Mx ok gn h c]
  by_cases h1:ok x=true/\(at_=none\/at_=some x.1)
  ·rw [if_pos h1,if_pos h1]
   by_cases h2:h.2.2=i/\ok h=true
   ·rw [if_pos h2,if_pos h2];exact Hv _ _ _
   ·rw [if_neg h2,if_neg h2];rfl
  ·rw [if_neg h1,if_neg h1];simp
theorem Hw {P:List Xy->Prop} (h0:P []) (hs:∀ c h,P c->P (c ++ [h])):∀ c,P c:=λc=>by
 have:∀ c:List Xy,P c.reverse:=λc=>by
  induction c with
  | nil=>exact h0
  | cons x c ih =>rw [reverse_cons];exact hs _ _ ih
 have:=this c.reverse
 rwa [reverse_reverse] at this
def Qo8 (ok:Xy->Bool) (gn:Xy->Int) (c:List Xy):∀ i,wbI ok gn c.reverse i=fwI ok gn c none i:=by refine Hw (P:=λc => ∀ i,wbI ok gn c.reverse i=fwI ok gn c none i) (λi=>by simp [wbI,fwI]) (λc h ih i=>?_) c;rw [reverse_append,Mx];show (if h.2.2=i/\ok h=true then (wbI ok gn c.reverse h.1).map (· + gn h) else none)=_;rw [ih]
theorem Bq (ok:Qn ak aj way) {m:Xy} (h:okI wo ak aj.length way m=true):∃ a r b:Nat,m=((a:Int),(r:Int),(b:Int))/\a < aj.length/\b < aj.length/\a≠b/\r < ak.length/\(r:Int)∈Zd wo ak way a b:=by
 obtain ⟨m1,m2,m3⟩:=m;obtain ⟨h1,h2,h3,h4,h5,h6⟩:=Q6 h;simp only at h1 h2 h3 h4 h5 h6;obtain ⟨a,rfl⟩:=A0u h2;obtain ⟨b,rfl⟩:=A0u h4;rw [Int.toNat_natCast,Int.toNat_natCast] at h6;have ha:a < aj.length:=by lia
 have hb:b < aj.length:=by lia
 have hr:∃ r:Nat,m2=(r:Int)/\r < ak.length:=by
  rcases O6.mp h6 with e | e
  ·obtain ⟨r,hr,hlt,_⟩:=Jf.mp e;exact ⟨r,hr,hlt⟩
  ·have e':m2=((way.getD (if wo then a else b) 0:Nat):Int):=by simpa using e
   refine ⟨_,e',?_⟩;cases wo
   ·exact (ok.at_ hb).2
   ·exact (ok.at_ ha).2
 obtain ⟨r,rfl,hr⟩:=hr;exact ⟨a,r,b,rfl,ha,hb,by lia,hr,h6⟩
def chI (wo:Bool) (ak:K6) (aj:J7) (way:K7) (c:List Xy) (i:Nat):M5:=fwI (okI wo ak aj.length way) (gnI wo aj way) c none (i:Int)
def Ug (m:Hop):Xy:=((m.1:Int),(m.2.1:Int),(m.2.2:Int))
theorem Qax {n:Nat} {m:Hop} (h1:m.1 < n) (h2:m.2.2 < n) (h3:m.1≠m.2.2) (h5:(m.2.1:Int)∈Zd wo ak way m.1 m.2.2):okI wo ak n way (Ug m)=true:=by refine P0 ?_;simp only [Ug,Int.toNat_natCast];exact ⟨by lia,by lia,by lia,by lia,by lia,h5⟩
theorem Qmv (hm:∀ m∈aq,m.1 < aj.length/\m.2.2 < aj.length/\m.1≠m.2.2/\m.2.1 < ak.length/\(m.2.1:Int)∈Zd wo ak way m.1 m.2.2) {s i:Nat} {c:List Hop} (h:ChS aq s c i):chI wo ak aj way (c.map Ug) i=some (wt (gnF wo aj way) c):=by
 unfold chI
 induction h with
 | nil=>simp [fwI,wt]
 | @snoc c a r b hc g8 ih =>
  obtain ⟨m1,m2,m3,m4,m5⟩:=hm _ g8;rw [map_append,map_cons,map_nil,Mx];have e1:(Ug (a,r,b)).2.2=(b:Int):=rfl;have e2:(Ug (a,r,b)).1=(a:Int):=rfl;rw [if_pos ⟨e1,Qax m1 m2 m3 m5⟩,e2,ih];have eg:gnI wo aj way (Ug (a,r,b))=gnF wo aj way (a,r,b):=by simp [gnI,Ug,gnF]
  rw [eg,Va];simp [wt]
def ihV (m:Xy):List V:=[.int m.1,.int m.2.1,.int m.2.2]
def Xp (H:Hp) (a:G5) (c:List Xy):Prop:=∃ ts:K9,H a=some (.lst (ts.map V.ref))/\ts.length=c.length/\∀ (j:Nat) t m,ts[j]? = some t->c[j]? = some m->H t=some (.tup (ihV m))
def Xp.same {H':Hp} {a:G5} (h:Xp H a c) (s:Qu H H'):Xp H' a c:=by obtain ⟨ts,e1,e2,e3⟩:=h;exact ⟨ts,s _ _ e1,e2,λj t m a b=>s _ _ (e3 j t m a b)⟩
def Xp.bf {H':Hp} {a:G5} (h:Xp H a c) (s:Qc H H'):Xp H' a c:=by obtain ⟨ts,e1,e2,e3⟩:=h;exact ⟨ts,s.to _ _ e1 rfl,e2,λj t m a b=>s.to _ _ (e3 j t m a b) rfl⟩
theorem Zb.i {a:G5} {c:List Hop} (h:Zb H a c):Xp H a (c.map Ug):=by
 obtain ⟨ts,e1,e2,e3⟩:=h;refine ⟨ts,e1,by simp [e2],λj t m h1 h2=>?_⟩;rw [getElem?_map] at h2;cases h3:c[j]? with
 | none=>rw [h3] at h2; cases h2
 | some x =>rw [h3] at h2;cases h2;exact e3 j t x h1 h3
def Ht:Option Int->V
 | some z=>.int z
 | none=>.non
def Qqk (m:Xy):PyData:=.tuple [.int m.1,.int m.2.1,.int m.2.2]
def Hc (c:List Xy):PyData:=.list (c.map Qqk)
def Qrv (m:Xy):PyData.eqv (Qqk m) (Qqk m)=true:=by unfold Qqk;simp [PyData.eqv,PyData.eqvAll]
theorem Ao:∀ c:List Xy,PyData.eqvAll (c.map Qqk) (c.map Qqk)=true
 | []=>by simp [PyData.eqvAll]
 | m :: t=>by simp only [map_cons,PyData.eqvAll,Qrv,Ao t,Bool.and_true]
def Qv2 (c:List Xy):PyData.eqv (Hc c) (Hc c)=true:=by unfold Hc; rw [PyData.eqv]; exact Ao c
theorem Ae:∀ c:List Xy,PyData.canLayAll0 (c.map Qqk)=true
 | []=>rfl
 | m :: t=>by simp [PyData.canLayAll0,Qqk,PyData.canLay0,Ae t]
theorem Dm:∀ c:List Xy,PyData.depthAll (c.map Qqk)<=1
 | []=>by simp [PyData.depthAll]
 | m :: t=>by have:=Dm t;simp only [map_cons,PyData.depthAll,Qqk,PyData.depth];lia
theorem Jm (c:List Xy):SeqAt.shaped (Hc c)=true:=by
 have:=Dm c;unfold SeqAt.shaped;refine W6.mpr ⟨?_,P0 ?_⟩
 ·simp [Hc,PyData.canLay0,Ae]
 ·simp only [Hc,PyData.depth];lia
theorem Qx7 {K:N5} {H:Hp}:∀ {ts:K9} {c:List Xy},ts.length=c.length->(∀ (j:Nat) t m,ts[j]? = some t->c[j]? = some m->H t=some (.tup (ihV m)))->Paired (Td K H) (ts.map V.ref) (c.map Qqk)
 | [],[],_,_=>.nil
 | [],_ :: _,h,_=>by simp at h
 | _ :: _,[],h,_=>by simp at h
 | t :: ts,m :: c,h,h2=>.cons (Kn (SqT.of (h2 0 t m rfl rfl)) (.cons Sn (.cons Sn (.cons Sn .nil)))) (Qx7 (by simpa using h) λj t' m' a b=>h2 (j + 1) t' m' (by simpa using a) (by simpa using b))
def Qzx {a:G5} (h:Xp H a c):Td K H (.ref a) (Hc c):=by obtain ⟨ts,e1,e2,e3⟩:=h;exact Wz (SqL.of e1) (Qx7 e2 e3)
theorem Ks {ws:K9} (hR:Rows H ws aj) (ok:Qn ak aj way) {i:Nat} (hi:i < aj.length):∃ ra,(ws.map V.ref)[i]? = some (.ref ra)/\H ra=some (.lst ((aj.getD i []).map V.int))/\((wI way).map V.int)[i]? = some (.int ((way.getD i 0:Nat):Int))/\((aj.getD i []).map V.int)[way.getD i 0]? = some (.int (Zr aj way i)):=by
 have ln:=ok.len;have hiw:i < way.length:=by lia
 obtain ⟨ra,r1,r2,r3⟩:=hR.at_ (show aj[i]? = some aj[i] by simp [hi]);have hwi:=(ok.at_ hi).2;have hrl':=ok.bok.rows _ (N7 hi);rw [getD_get aj _ hi];refine ⟨ra,r2,r3,by simp [wI,getD,hiw],?_⟩;unfold Zr;generalize way.getD i 0=r at *;simp [wF,getD,hi,show r < aj[i].length by lia]
def Th (m:Nat) (Q:List Nat->Nat->Bool):Nat->List K7
 | 0 => [[]]
 | k + 1=>(Th m Q k).flatMap λb=>((range m).filter (Q b)).map λr=>b ++ [r]
def Mi (m k:Nat):J8:=Th m (λ_ _=>true) k
theorem Kl {m:Nat} {Q:List Nat->Nat->Bool}:∀ {k:Nat} {v:K7},v∈Th m Q k->v.length=k/\∀ r∈v,r < m
 | 0,v,h=>by
  have:v=[]:=by simpa [Th] using h
  subst this;exact ⟨rfl,λr z=>by cases z⟩
 | k + 1,v,h=>by
  obtain ⟨b,hb,h2⟩:=mem_flatMap.mp h;obtain ⟨r,hr,rfl⟩:=O8.mp h2;have ih:=Kl hb;have hr2:=O1.mp (U3.mp hr).1;refine ⟨by simp [ih.1],λx hx=>?_⟩;rcases O6.mp hx with z | z
  ·exact ih.2 x z
  ·have:x=r:=by simpa using z
   lia
theorem Ej {m:Nat}:∀ {k:Nat} {v:K7},v.length=k->(∀ r∈v,r < m)->v∈Mi m k
 | 0,v,h,_=>by have:v=[]:=A0h.mp h;subst this;simp [Mi,Th]
 | k + 1,v,h,h2=>by
  have hne:v≠[]:=λz=>by subst z; simp at h
  have e:=dropLast_concat_getLast hne;rw [<- e];refine mem_flatMap.mpr ⟨v.dropLast,Ej (by simp [h]) (λr hr=>h2 r (dropLast_subset _ hr)),O8.mpr ⟨v.getLast hne,?_,rfl⟩⟩;simpa using h2 _ (getLast_mem hne)
theorem Rk {α β:Type} (p:α->Bool) (f:α->List β):∀ l:List α,(l.filter p).flatMap f=l.flatMap λb=>if p b then f b else []
 | []=>rfl
 | a :: l=>by
  rw [flatMap_cons,filter_cons];cases h:p a with
  | true=>simp only [if_true,flatMap_cons,Rk p f l]
  | false=>simpa using Rk p f l
theorem Rw {m:Nat} {Q:List Nat->Nat->Bool} {OK:List Nat->Bool} (h0:OK []=true) (h:∀ b r,r < m->OK (b ++ [r])=(OK b && Q b r)):∀ k,Th m Q k=(Mi m k).filter OK
 | 0=>by simp [Mi,Th,h0]
 | k + 1=>by
  have ih:=Rw h0 h k;unfold Mi at ih ⊢;rw [Th,ih,Rk,Th,filter_flatMap]
  congr 1
  funext b
  rw [filter_map];cases hb:OK b with
  | true =>
   rw [if_pos rfl]
   congr 1
   rw [filter_filter];refine A0v λr hr=>?_;show Q b r=(OK (b ++ [r]) && true);rw [h b r (mem_range.mp hr),hb,Bool.and_true,Bool.true_and]
  | false =>rw [if_neg (by decide)];apply Eq.symm;rw [map_eq_nil_iff,filter_eq_nil_iff];intro r hr;have hr2:=O1.mp (U3.mp hr).1;show ¬ (OK (b ++ [r])=true);rw [h b r hr2,hb];simp
def Uz (ak:K6) (v:K7):Bool:=(range ak.length).all λr=>decide (v.count r<=bF ak r)
theorem Gh (hv:∀ r∈v,r < ak.length):Uz ak v=true ↔ Fit (bF ak) v:=by
 unfold Uz;rw [all_eq_true]
 constructor
 ·intro h r
  by_cases hr:r < ak.length
  ·exact Q6 (h r (O1.mpr hr))
  ·have:v.count r=0:=count_eq_zero.mpr λz=>hr (hv r z);lia
 ·intro h r hr;exact P0 (h r)
theorem Oe (b:K7) {r:Nat} (hr:r < ak.length):Uz ak (b ++ [r])=(Uz ak b && decide (((b.count r:Nat):Int) < ak.getD r 0)):=by
 have hc:∀ x,(b ++ [r]).count x=b.count x + if r=x then 1 else 0:=λx=>by
  rw [count_append,count_singleton]
  congr 1
  simp [beq_iff_eq]
 rw [Bool.eq_iff_iff,Bool.and_eq_true];unfold Uz;rw [all_eq_true,all_eq_true]
 constructor
 ·intro h;refine ⟨λx hx=>P0 ?_,P0 ?_⟩
  ·have:=Q6 (h x hx);rw [hc] at this;lia
  ·have:=Q6 (h r (O1.mpr hr));rw [hc,if_pos rfl] at this;unfold bF at this;lia
 ·rintro ⟨h1,h2⟩ x hx;have h3:=Q6 (h1 x hx);have h4:=Q6 h2;refine P0 ?_;rw [hc]
  by_cases e:r=x
  ·subst e;rw [if_pos rfl];unfold bF at *;lia
  ·rw [if_neg e];lia
def Qyw (ak:K6):Uz ak []=true:=by simp [Uz]
def Qhj (L:Nat->Nat->Bool) (v:K7):Bool:=(range v.length).all λi=>L i (v.getD i 0)
def Qf5 (L:Nat->Nat->Bool):Qhj L []=true:=rfl
theorem Qkj (L:Nat->Nat->Bool) (b:K7) (r:Nat):Qhj L (b ++ [r])=(Qhj L b && L b.length r):=by
 have e1:∀ i,i < b.length->(b ++ [r]).getD i 0=b.getD i 0:=λi hi=>by simp [getD,getElem?_append_left hi]
 have e2:(b ++ [r]).getD b.length 0=r:=by simp [getD]
 rw [Bool.eq_iff_iff,Bool.and_eq_true];unfold Qhj;rw [all_eq_true,all_eq_true,length_append,length_singleton]
 constructor
 ·intro h;refine ⟨λi hi=>?_,?_⟩
  ·have hi2:=O1.mp hi;have:=h i (O1.mpr (by lia))
   rwa [e1 i hi2] at this
  ·have:=h b.length (O1.mpr (by lia))
   rwa [e2] at this
 ·rintro ⟨h1,h2⟩ i hi;have hi2:=O1.mp hi
  by_cases e:i=b.length
  ·subst e;rw [e2];exact h2
  ·rw [e1 i (by lia)];exact h1 i (O1.mpr (by lia))
def Qz7 (ak:K6) (aj:J7) (M:Int):J8:=(Mi ak.length aj.length).filter λv=>Uz ak v && decide (wsum (wF aj) v=M)
def Qo3 (ak:K6) (n:Nat):J8:=Th ak.length (λb r=>decide (((b.count r:Nat):Int) < ak.getD r 0)) n
def Qt3 (ak:K6) (n:Nat):Qo3 ak n=(Mi ak.length n).filter (Uz ak):=Rw (Qyw ak) (λb r hr=>Oe b hr) n
def Qo2 (m n:Nat) (L:Nat->Nat->Bool):J8:=Th m (λb r=>L b.length r) n
def Qj2 (m n:Nat) (L:Nat->Nat->Bool):Qo2 m n L=(Mi m n).filter (Qhj L):=Rw (Qf5 L) (λb r _=>Qkj L b r) n
def Qyk {M:Int}:((Qo3 ak aj.length).filter λv=>decide (wsum (wF aj) v=M))=Qz7 ak aj M:=by rw [Qt3,filter_filter];unfold Qz7;refine A0v λv _=>?_;rw [Bool.and_comm]
theorem Bi {M:Int} {L:Nat->Nat->Bool} (h:∀ v:K7,v.length=aj.length->Fit (bF ak) v->wsum (wF aj) v=M->∀ i,i < aj.length->L i (v.getD i 0)=true):(((Qo2 ak.length aj.length L).filter (Uz ak)).filter λv=>decide (wsum (wF aj) v=M))=Qz7 ak aj M:=by
 rw [Qj2,filter_filter,filter_filter];unfold Qz7;refine A0v λv hv=>?_;obtain ⟨hl,hr⟩:=Kl hv;cases hf:Uz ak v with
 | false=>simp
 | true =>
  cases hw:decide (wsum (wF aj) v=M) with
  | false=>simp
  | true =>
   have h1:=h v hl ((Gh hr).mp hf) (Q6 hw);have h2:Qhj L v=true:=by unfold Qhj;rw [all_eq_true];exact λi hi=>h1 i (by have:=O1.mp hi; lia)
   simp [h2]
theorem Told.lvl (T:Told true ak aj ao rows) (w1:0 < aj.length) (ok:Qn ak aj way) (fit:Fit (bF ak) way) (opt:Opt ak aj way) (hl:v.length=aj.length) (hf:Fit (bF ak) v) (hm:wsum (wF aj) v=wsum (wF aj) way) {i:Nat} (hi:i < aj.length):Fu (aj.length:Int) ak.length aj rows i (v.getD i 0)=true:=by have fair:=T.fair ok fit opt;have hfa:=Eb (F:=⟨ak,aj,ao,way,(aj.length:Int),rows⟩) (by show (0:Int) < aj.length; lia) w1 ok.len fit fair hl hf;obtain ⟨_,hs⟩:=hfa.2 hm;have e:=hs i hi;rw [Qj1];intro r' hr';have h2:¬ ((aj.length:Int) * wF aj i (way.getD i 0) - rows.getD (way.getD i 0) 0 < (aj.length:Int) * wF aj i r' - rows.getD r' 0):=fair.2.1 i r' hi hr';have e':(aj.length:Int) * wF aj i (v.getD i 0) - rows.getD (v.getD i 0) 0=(aj.length:Int) * wF aj i (way.getD i 0) - rows.getD (way.getD i 0) 0:=e;lia
open PyProof
def Qs2 (K:N5) (R:G5) (tb:XK->TS) (th:TS):TS:=λD σ H =>tb (λcls _ H' => ∃ C,cls=.ref C/\PySem.W.exmOne K (.ref C) (.ref R)=some true/\∀ ea H2,New H' ea (Qnj ea C) H2->th D σ H2) D σ H
theorem Ql3 {X:Cx} {st b0:Stmt} {ju:List Stmt} {rx:Str} {R:G5} {np kj:Pos} {tb:XK->TS} {th:TS} (hst:X.stack=X.env :: X.outer) (hf:X.env.frame=some X.env.locals)
  (hg:Gl X rx) (hm:X.mg rx=some (.ref R)) (hb:PSx X st tb) (hs:∀ v,PSs (X.hot v) (b0 :: ju) th) (hdb:(rx == ("__debug__" : Str))=false:=by decide) :
  PS X (.Try [st] [.ExceptHandler (some (.Name rx np)) none (b0 :: ju) kj] [] [] pos) (Qs2 X.K R tb th):=by
 intro dz s σ H D I h;refine wpAny_Try_except (wpAny_execs_cons (thn (hb dz s σ H D _ _ I h ?_) λf s1 q=>?_))
 ·intro H2 s2 e s' I2 ⟨ea,cls,a0,H',B,x⟩;obtain rfl:=x.is_;obtain ⟨C,rfl,hmat,hth⟩:=x.wish;have hfr:X.A.frames=some (X.env :: X.outer):=by rw [<- hst]; exact I2.ok.frames
  have fly:=x.fly;rw [hst] at fly;refine wpAny_looks_onW (base:=B) hfr hf fly λh4 held4 sm4=>?_;refine wpAny_landsW held4 λh5 fly5 sm5=>?_;have J5:=(I2.caught x (by rw [hst]; exact fly5) (sm4.trans sm5)).2;obtain ⟨ob,hob,hobc⟩:=fly5.there;refine wpAny_handleBy_cons (codeAny_handlers_test (Ta (X:=X.hot (.ref ea)) (J5.hot _) hg hm ?_ hdb)) (by intro q; cases q);refine PySem.W.Looks.here (PySem.W.exm_one (J5.kIn) (Qfk hob hobc) hmat) ?_;refine codeAny_handlers_suite ?_;refine lands_againW fly5 λh6 m8 sm6=>?_;obtain ⟨new,J6⟩:=I2.caught x (by rw [hst]; exact m8) ((sm4.trans sm5).trans sm6);refine S9 (hs (.ref ea) dz _ _ _ _ (J6.hot _) (hth ea _ new)) (λf s8 q=>?_) λ_ _ z=>z.elim;cases f with
  | next =>obtain ⟨σ',H9,J9,q9⟩:=q;exact ⟨_,_,J9.cool I.ok,q9⟩
  | brk =>obtain ⟨σ',H9,J9,q9⟩:=q;exact ⟨_,_,J9.cool I.ok,q9⟩
  | cont =>obtain ⟨σ',H9,J9,q9⟩:=q;exact ⟨_,_,J9.cool I.ok,q9⟩
  | ret u =>obtain ⟨v,σ',H9,J9,r9,q9⟩:=q;exact ⟨v,_,_,J9.cool I.ok,r9,q9⟩
 ·cases f with
  | next=>exact Z9 (Z9 q)
  | ret v=>exact q
  | brk=>exact q
  | cont=>exact q
def Ap {X:Cx} {st b0:Stmt} {ju:List Stmt} {rx:Str} {R:G5} {np kj:Pos} {tb:XK->TS} {th:TS} (e:X.K=K) (hst:X.stack=X.env :: X.outer) (hf:X.env.frame=some X.env.locals)
  (hg:Gl X rx) (hm:X.mg rx=some (.ref R)) (hb:PSx X st tb) (hs:∀ v,PSs (X.hot v) (b0 :: ju) th) (hdb:(rx == ("__debug__" : Str))=false:=by decide) :
  PS X (.Try [st] [.ExceptHandler (some (.Name rx np)) none (b0 :: ju) kj] [] [] pos) (Qs2 K R tb th):=by subst e; exact Ql3 hst hf hg hm hb hs hdb
theorem Lp (ak:K6):∀ n,Qhv ak n=Qo3 ak n
 | 0=>rfl
 | n + 1=>by rw [Qhv,Lp ak n];rfl
theorem Er (hl:way.length=aj.length) (fit:Fit (bF ak) way) (opt:Opt ak aj way):Ux ak aj=Qz7 ak aj (wsum (wF aj) way):=by
 rw [<- Qyk,<- Lp];unfold Ux;refine A0v λv hv=>?_;rw [Bool.eq_iff_iff,decide_eq_true_eq,decide_eq_true_eq]
 constructor
 ·intro h;have h1:=h way (Js.mpr ⟨hl,fit⟩);have h2:=opt v (by have:=(Js.mp hv).1; lia) (Js.mp hv).2;lia
 ·intro h u hu;rw [h];exact opt u (by have:=(Js.mp hu).1; lia) (Js.mp hu).2
def Qg4 (gk:K7) (b:K7):J8:=gk.map λr=>b ++ [r]
def Wt (L:J8):J8:=L.foldl (λacc gk=>acc.flatMap (Qg4 gk)) [[]]
def Pj (L:J8) (gk:K7):Wt (L ++ [gk])=(Wt L).flatMap (Qg4 gk):=by unfold Wt;rw [foldl_append];rfl
def Hn (n m:Nat) (L:Nat->Nat->Bool):J8:=(range n).map λi=>(range m).filter (L i)
theorem Gy (m:Nat) (L:Nat->Nat->Bool):∀ n,Wt (Hn n m L)=Qo2 m n L
 | 0=>rfl
 | n + 1=>by
  have e:Hn (n + 1) m L=Hn n m L ++ [(range m).filter (L n)]:=by unfold Hn;rw [range_succ,map_append];rfl
  rw [e,Pj,Gy m L n];show _=Th m (λb r=>L b.length r) (n + 1);rw [Th,flatMap_def,flatMap_def]
  congr 1
  refine R9 λb hb=>?_;have:=(Kl hb).1;show ((range m).filter (L n)).map (λr=>b ++ [r])=((range m).filter (λr=>L b.length r)).map λr=>b ++ [r];rw [this]
theorem Pe:∀ (L:J8) (acc:J8) (k:Nat),(∀ b∈acc,b.length=k)->∀ v∈L.foldl (λacc gk=>acc.flatMap (Qg4 gk)) acc,v.length=k + L.length
 | [],acc,k,h,v,hv=>h v hv
 | r :: L,acc,k,h,v,hv=>by
  have:=Pe L (acc.flatMap (Qg4 r)) (k + 1) (λb hb=>by obtain ⟨c,hc,hd⟩:=mem_flatMap.mp hb;obtain ⟨x,_,rfl⟩:=O8.mp hd;simp [h c hc]) v hv
  rw [length_cons];lia
theorem Qk4 {L:J8} (h:v∈Wt L):v.length=L.length:=by have:=Pe L [[]] 0 (λb hb=>by simp at hb; simp [hb]) v h;lia
def Qqw (L:J8):Nat:=L.foldl (λt r=>t * r.length) 1
theorem Uu (gk:K7):∀ acc:J8,(acc.flatMap (Qg4 gk)).length=acc.length * gk.length
 | []=>by simp
 | a :: l=>by rw [flatMap_cons,length_append,Uu gk l,length_cons,Nat.succ_mul];simp [Qg4];lia
theorem Ew:∀ (L:J8) (acc:J8),(L.foldl (λacc gk=>acc.flatMap (Qg4 gk)) acc).length=L.foldl (λt r=>t * r.length) acc.length
 | [],acc=>rfl
 | r :: L,acc=>by rw [foldl_cons,foldl_cons,Ew L,Uu]
def Gu (L:J8):(Wt L).length=Qqw L:=Ew L [[]]
theorem Qjz:∀ (L:J8) (t:Nat),(∀ r∈L,1<=r.length)->t<=L.foldl (λt r=>t * r.length) t
 | [],t,_=>O7 _
 | r :: L,t,h=>by rw [foldl_cons];refine R4 ?_ (Qjz L _ λx hx=>h x (Q8 _ hx));exact Nat.le_mul_of_pos_right _ (h r Q7)
def Qy1 {L:J8} (h:∀ r∈L,1<=r.length) (j:Nat):Qqw (L.take j)<=Qqw L:=by
 have e:Qqw L=(L.drop j).foldl (λt r=>t * r.length) (Qqw (L.take j)):=by unfold Qqw;rw [<- foldl_append,take_append_drop]
 rw [e];exact Qjz _ _ λr hr=>h r (drop_subset _ _ hr)
def Qy2 (L:J8):Qqw L=(L.map List.length).foldl (· * ·) 1:=by unfold Qqw;rw [foldl_map]
theorem Qjx:∀ (ks:K7) (t:Nat),(∀ k∈ks,k<=10)->ks.foldl (· * ·) t<=t * 10 ^ ks.length
 | [],t,_=>by simp
 | k :: ks,t,h=>by rw [foldl_cons,length_cons];refine R4 (Qjx ks _ λx hx=>h x (Q8 _ hx)) ?_;rw [Nat.pow_succ,Nat.mul_assoc,Nat.mul_comm (10 ^ ks.length) 10];exact Nat.mul_le_mul_left _ (Nat.mul_le_mul_right _ (h k Q7))
theorem Ql5 {ks:K7} (h:∀ k∈ks,k<=10) (hl:ks.length<=10):ks.foldl (· * ·) 1<=10 ^ 10:=by have h1:=Qjx ks 1 h;have h2:10 ^ ks.length<=10 ^ 10:=Nat.pow_le_pow_right (by lia) hl;lia
def Qk3 {ks:K7} {j:Nat} (hj:j < ks.length):(ks.take (j + 1)).foldl (· * ·) 1=(ks.take j).foldl (· * ·) 1 * ks.getD j 0:=by rw [take_succ,foldl_append];simp [getD,hj]
def Il:Sp:=λvs H Q _ => ∃ (l:G5) (ks:K7),vs=[.ref l]/\H l=some (.lst ((wI ks).map V.int))/\ks.length<=10/\(∀ k∈ks,k<=10)/\Q (.int ((ks.foldl (· * ·) 1:Nat):Int)) H
def Zx0 (H H':Hp) (l:G5) (rows:J7):Prop:=∃ ws:K9,H' l=some (.lst (ws.map V.ref))/\Rows H' ws rows/\∀ a∈ws,H a=none
def Co:Sp:=λvs H Q _ => ∃ (lv:G5) (L:J8),vs=[.ref lv]/\Mat H lv (L.map wI)/\L.length<=10/\(∀ row∈L,row.length<=10)/\(∀ j,(Wt (L.take j)).length<=1000)/\∀ (l:G5) (H':Hp),Qu H H'->H l=none->Zx0 H H' l ((Wt L).map wI)->Q (.ref l) H'
def Qy0 {m:Nat}:Fo n m aj rows=(Hn aj.length m (Fu n m aj rows)).map wI:=by unfold Fo Hn;rw [map_map];rfl
structure Zx2 (K:N5) (mg:K4) (eM:G5):Prop where
 mTooMany:mg "TooMany" = some (.ref eM)
 ok:Qsv K eM eM
theorem On {n:Nat} (hb:∀ b∈ak,0<=b) (hl:v.length=n) (hr:∀ r∈v,r < ak.length):Rf ak n (wI v)=Uz ak v:=by
 have h1:decide ((wI v).length=n)=true:=P0 (by simp [wI,hl]);have h2:((wI v).all λr=>decide (0<=r/\r < (ak.length:Int)))=true:=by rw [all_eq_true];intro z hz;obtain ⟨r,hr',rfl⟩:=O8.mp hz;have:=hr r hr';exact P0 (by lia)
 unfold Rf Uz;rw [h1,h2,Bool.and_self,Bool.true_and,Bool.eq_iff_iff,all_eq_true,all_eq_true];have key:∀ r,r∈range ak.length->((((wI v).count (r:Int):Nat):Int)<=ak.getD r 0 ↔ v.count r<=bF ak r):=λr hr'=>by
  have hr2:=O1.mp hr';have:0<=ak.getD r 0:=by rw [getD_get _ _ hr2];exact hb _ (N7 hr2)
  rw [Kg];unfold bF;lia
 constructor
 ·intro h r hr';exact P0 ((key r hr').mp (Q6 (h r hr')))
 ·intro h r hr';exact P0 ((key r hr').mpr (Q6 (h r hr')))
def Hu {α:Type} (p:α->Bool) (d:α) (xs:List α):((range xs.length).filter λi=>p (xs.getD i d)).map (λi=>xs.getD i d)=xs.filter p:=by
 have hg:xs=(range xs.length).map λk=>xs.getD k d:=by refine U7 (by simp) λi z1 z2=>?_;simp [getD,z1]
 conv=>rhs; rw [hg,filter_map]
 rfl
theorem Bm {ws:K9} {al:J8} (hR:Rows H ws (al.map wI)) (p:List Nat->Bool) (d:G5):Rows H (((range ws.length).filter λi=>p (al.getD i [])).map λi=>ws.getD i d) ((al.filter p).map wI):=by
 have hl:ws.length=al.length:=by rw [hR.1,length_map]
 rw [hl,<- Hu p [] al];refine ⟨by simp,λi a row z1 z2=>?_⟩;rw [getElem?_map] at z1;rw [getElem?_map,getElem?_map] at z2;have hmf:∀ k∈(range al.length).filter λk=>p (al.getD k []),k < al.length:=λk hk=>O1.mp (U3.mp hk).1;generalize (range al.length).filter (λk=>p (al.getD k []))=fl at *;cases hf:fl[i]? with
 | none=>rw [hf] at z1; cases z1
 | some k =>rw [hf] at z1 z2;have hk:=hmf k (T8 hf);simp at z1 z2;subst z1 z2;refine hR.2 k _ _ (by simp [show k < ws.length by lia]) ?_;simp [hk]
def Qbk (K:N5):Sp:=λvs H Q _ => ∃ (a:G5) (ns:K6),vs=[.ref a]/\SqL K H a (ns.map V.int) /\
 ∀ (t b w:G5) (aj:J7) (ao:Int) (H':Hp),Qu H H'->H' t=some (.tup [.ref b,.ref w,.int ao])->H' b=some (.lst (([4,4]:K6).map V.int))->Mat H' w aj->5<=aj.length->aj.length<=8->(∀ row∈aj,row.length=2)->(∀ row∈aj,∀ x∈row,-(10 ^ 40) < x/\x < 10 ^ 40)->0<=ao->ao < 3000->Q (.ref t) H'
def Sa (HG:Jg ak aj) (ig:Told true ak aj ao rows):0 < (Ux ak aj).length/\(Ux ak aj).length<=Qqw (Hn aj.length ak.length (Fu (aj.length:Int) ak.length aj rows)):=by obtain ⟨way,m,bst⟩:=id ig;have ln:=bst.ok.len;refine ⟨Z8 (Ni.mpr ⟨ln,bst.fit,bst.opt⟩),?_⟩;rw [Er ln bst.fit bst.opt,<- Bi (L:=Fu (aj.length:Int) ak.length aj rows) (λv h1 h2 h3 i hi=>ig.lvl HG.w1 bst.ok bst.fit bst.opt h1 h2 h3 hi),<- Gy,<- Gu];exact R4 (Z6 _ _) (Z6 _ _)
section
variable {X:Cx} {dz:G9} {σ:St} {s:G4}
def Inv.through {E:XK} {F:K5} {e:G3} {s':G4} (I:Inv X dz σ H s) (hX:X.ex=[]) (hst:X.stack=X.env :: X.outer) (hf:X.env.frame=some X.env.locals) (c:CXR X.prog X.w X.stack H s E e s') :
  wpAny (model X.prog X.w) X.A (leaving X.env e) (λ_ s''=>CXR X.prog X.w X.outer X.H₀ X.s₀ E e s'') F s':=by
 obtain ⟨ea,cls,a0,H',B,x⟩:=c;obtain rfl:=x.is_;have sub:∀ b o,X.s₀.heap.get? b=some o->b∈frs X.stack->b∈X.fs:=λb o h0 hb=>by
  rcases R3.mp (I.stkSub b hb) with z | z
  ·exact absurd (O5 h0) (by rw [z]; exact A0d.mpr I.ok.above)
  ·exact z
 have sup:∀ b,b∈X.fs->b∈frs X.stack:=λb hb=>by rw [hst];obtain ⟨en,h2,h3⟩:=Z3.mp hb;exact Z3.mpr ⟨en,.tail _ h2,h3⟩
 have nx:∀ b,b ∉ X.ex:=λb z=>by rw [hX] at z; cases z
 have nn:∀ b:G5,b ∉ ([]:K9):=λb=>by simp
 have hfr:X.A.frames=some (X.env :: X.outer):=by rw [<- hst]; exact I.ok.frames
 have fly:=x.fly;rw [hst] at fly;refine wpAny_leaves_onW (base:=B) hfr hf fly λh2 fly2 up=>?_;have st:∀ b o,s'.heap.get? b=some o->b∈frs X.stack->∃ sl,h2.get? b=some { o with slots:=sl }:=λb o z hb=>by obtain ⟨_,o',ho',nf⟩:=x.fly.2.2.1.mem hb;rw [z] at ho';cases ho';exact up b o z nf
 refine ⟨ea,cls,a0,H',B,rfl,x.wish,x.os.trans I.os,x.bare,⟨λb o e0 n hb _=>?_,λb o e0 n hb _=>?_,λb o e0 n _=>?_,λb o e0 _=>?_,λb xs q=>x.un.tups b xs (I.base.tups b xs q),λb o u q=>x.un.dw b o u (I.base.dw b o u q),λb ps q=>?_⟩,x.hokB,fly2,λb o e0 hb=>?_⟩
 ·have e1:=I.base.keep b o e0 n hb (nx b);have n1:=I.base.free b o e0 n (nx b);have hb':b ∉ frs X.stack:=λz=>hb (sub b o e0 z);have e2:=x.un.keep b o e1 n1 hb' (nn b);obtain ⟨o',z⟩:=x.old b o e1 hb';have e3:=x.fly.1 b o' z;rw [e2] at e3;cases e3;exact fly2.1 b o z
 ·obtain ⟨sl1,e1⟩:=I.base.slot b o e0 n hb (nx b);have n1:=I.base.free b o e0 n (nx b);obtain ⟨sl2,e2⟩:=x.un.slot b _ e1 n1 (sup b hb) (nn b);obtain ⟨sl3,e3⟩:=st b _ e2 (sup b hb);exact ⟨sl3,e3⟩
 ·obtain ⟨o',e1⟩:=I.base.there b o e0 (nx b);exact x.un.free b o' e1 (I.base.free b o e0 n (nx b)) (nn b)
 ·obtain ⟨o',e1⟩:=I.base.there b o e0 (nx b)
  by_cases hb:b∈frs X.stack
  ·obtain ⟨o2,e2⟩:=x.un.there b o' e1 (nn b);obtain ⟨sl2,e3⟩:=st b _ e2 hb;exact ⟨_,e3⟩
  ·obtain ⟨o2,e2⟩:=x.old b o' e1 hb;exact ⟨_,fly2.1 b _ e2⟩
 ·obtain ⟨more,z⟩:=I.base.dm b ps q;obtain ⟨more2,z2⟩:=x.un.dm b _ z;exact ⟨more ++ more2,by rw [z2]; simp⟩
 ·obtain ⟨o',e1⟩:=I.base.there b o e0 (nx b);exact x.old b o' e1 λz=>hb (sub b o e0 z)
end
def Zq8 {P:G8} {w:World} {mg:K4} {base:Heap} {N:M6} {qual:Str} {scope:Scope} {f:G5} {cd:G3} {A:G7} {outer:List Env} {s:G4} {E:XK} :
  Rh (CXR P w) (Hs (CXR P w) P w K mg base N qual scope f cd A outer s H E) E:=λdz σ H1 s1 e s' I c=>I.through rfl rfl rfl c
section
variable {X:Cx} {k:Nat} {ps:M6} {sp:Sp} {x:Str} {p:Pos} {e:Expr} {es:M7} {t:TA} {E:XK}
def Qpk (hx:Rh (CXR X.prog X.w) X E) (D:Qnk X.prog X.w X.K X.mg X.base k x ps sp) (hr:Jc k X.A) (hg:Gl X x) (ha:PA X (e :: es) t) (hdb:(x == ("__debug__" : Str))=false:=by decide) (he:starEach (e :: es) X.env=(false,eval e X.env) :: starEach es X.env:=by rfl)
  (hpl:(backTo pos (starEach es X.env)).any (·.1)=false:=by rfl):PE X (.Call (.Name x p) (e :: es) [] pos) (Qz4 sp [] E t):=by
 obtain ⟨f,fd,hm,hk,hb,G⟩:=D.ex;exact Qxj G hr hg hm hk hb .nil hx ha hdb he hpl
end
def Fb (c:List Xy) (i:Nat):Int:=match c with
 | []=>(i:Int)
 | m :: _=>m.1
theorem Qe6 (ok:Qn ak aj way) {i:Nat} {z:Int} (hi:i < aj.length) (h:chI true ak aj way c i=some z):0<=Fb c i/\Fb c i < (aj.length:Int):=by
 cases c with
 | nil=>exact ⟨by simp [Fb],by simp [Fb]; exact hi⟩
 | cons m c =>
  unfold chI fwI at h
  by_cases e:okI true ak aj.length way m=true/\((none:M5)=none\/(none:M5)=some m.1)
  ·have:=Q6 e.1;exact ⟨this.2.1,this.2.2.1⟩
  ·rw [if_neg e] at h;cases h
def Qg2 (ak:K6) (aj:J7) (way:K7) (pu:K1) (k:M5) (c:List Xy) (i:Nat):M5:=match chI true ak aj way c i with
 | none=>none
 | some g=>match k with
  | none=>some g
  | some k=>if k=Fb c i then match pu.getD k.toNat none with
   | none=>none
   | some p=>some (Zr aj way k.toNat - p + g) else none
def Hr (k:M5) (cl:G5):List V:=match k with
 | none => [.str (Str.ofString "free"),.ref cl]
 | some k => [.str (Str.ofString "purse"),.int k,.ref cl]
def Ls:Sp:=λvs H Q _ => ∃ (cl:G5) (c:List Xy) (i:Nat),vs=[.ref cl,.int (i:Int)]/\Xp H cl c/\Q (.int (Fb c i)) H
def Lc:Sp:=λvs H Q _ => ∃ (b w wy t:G5) (ak:K6) (aj:J7) (way:K7) (m:Xy) (at_:M5),vs=[.ref b,.ref w,.ref wy,.ref t,Ht at_]/\H b=some (.lst (ak.map V.int))/\Mat H w aj/\H wy=some (.lst ((wI way).map V.int))/\Qn ak aj way/\H t=some (.tup (ihV m))/\∀ H',Qu H H'->Q (Ht (if okI true ak aj.length way m=true/\(at_=none\/at_=some m.1) then some (gnI true aj way m) else none)) H'
def Ox:Sp:=λvs H Q _ => ∃ (b w wy cl:G5) (ak:K6) (aj:J7) (way:K7) (c:List Xy) (i:Nat),vs=[.ref b,.ref w,.ref wy,.ref cl,.int (i:Int)]/\H b=some (.lst (ak.map V.int))/\Mat H w aj/\H wy=some (.lst ((wI way).map V.int))/\Qn ak aj way/\Xp H cl c/\∀ H',Qu H H'->Q (Ht (chI true ak aj way c i)) H'
def Qb6:Sp:=λvs H Q _ => ∃ (b w wy pu t cl:G5) (ak:K6) (aj:J7) (way:K7) (ps:K1) (k:M5) (c:List Xy) (i:Nat),vs=[.ref b,.ref w,.ref wy,.ref pu,.ref t,.int (i:Int)]/\H b=some (.lst (ak.map V.int))/\Mat H w aj/\H wy=some (.lst ((wI way).map V.int))/\Qn ak aj way/\H pu=some (.lst (ps.map oV))/\ps.length=aj.length/\H t=some (.tup (Hr k cl))/\Xp H cl c/\i < aj.length/\∀ H',Qu H H'->Q (Ht (Qg2 ak aj way ps k c i)) H'
end L2
namespace BW
open L2
variable {z z0:Int} {m:Hop} {b:Nat} {h:Nat->Int}
abbrev THO:=K1 × List (List Hop)
variable {st:THO}
def btO (o:M5) (z:Int):Bool:=match o with
 | none=>true
 | some t=>decide (t < z)
def geO (o:M5) (z:Int):Prop:=∃ y,o=some y/\z<=y
def geO.mono {o:M5} {z':Int} (h:geO o z) (hz:z'<=z):geO o z':=by obtain ⟨y,e,hy⟩:=h;exact ⟨y,e,by lia⟩
def Ur (gn:Hop->Int) (st:THO) (m:Hop):THO:=match st.1.getD m.1 none with
 | none=>st
 | some came=>if btO (st.1.getD m.2.2 none) (came + gn m)=true then (st.1.set m.2.2 (some (came + gn m)),st.2.set m.2.2 (st.2.getD m.1 [] ++ [m])) else st
def Qex (gn:Hop->Int) (hs:List Hop) (st:THO):THO:=hs.foldl (Ur gn) st
def Ut (gn:Hop->Int) (hs:List Hop) (st:THO) (k:Nat):THO:=(range k).foldl (λst _=>Qex gn hs st) st
section
variable {hs:List Hop} {gn:Hop->Int} {n:Nat} {start:K1}
def Jh (st:THO) (k:Nat):Ut gn hs st (k + 1)=Qex gn hs (Ut gn hs st k):=by unfold Ut;rw [range_succ,foldl_append];rfl
def Ay:(Ur gn st m).1.length=st.1.length:=by
 unfold Ur
 split
 ·rfl
 ·split <;> simp
def Qk2:(Ur gn st m).2.length=st.2.length:=by
 unfold Ur
 split
 ·rfl
 ·split <;> simp
def Gv {l:K1} {i:Nat} {x:M5} (h:i < l.length):(l.set i x).getD i none=x:=by simp [getD,h]
def Qx5 {l:K1} {i j:Nat} {x:M5} (h:i≠j):(l.set i x).getD j none=l.getD j none:=by simp [getD,getElem?_set_ne h]
theorem Bf {x:Nat} (h:geO (st.1.getD x none) z):geO ((Ur gn st m).1.getD x none) z:=by
 unfold Ur
 split
 ·exact h
 ·rename_i came hc
  split
  ·rename_i hb
   by_cases hx:m.2.2=x
   ·subst hx;obtain ⟨y,e,hy⟩:=h;have hl:m.2.2 < st.1.length:=by refine R6 λz=>?_;rw [getD_eq_getElem?_getD,getElem?_eq_none (by lia)] at e;cases e
    rw [Gv hl];rw [e] at hb;have:=Q6 hb;exact ⟨_,rfl,by lia⟩
   ·rw [Qx5 hx];exact h
  ·exact h
theorem Qcv (h:m.2.2 < st.1.length) (hz:geO (st.1.getD m.1 none) z):geO ((Ur gn st m).1.getD m.2.2 none) (z + gn m):=by
 obtain ⟨y,e,hy⟩:=hz;unfold Ur;rw [e];dsimp only
 split
 ·rw [Gv h];exact ⟨_,rfl,by lia⟩
 ·rename_i hb
  cases ht:st.1.getD m.2.2 none with
  | none=>rw [ht] at hb; exact absurd rfl hb
  | some t =>rw [ht] at hb;refine ⟨t,rfl,?_⟩;have:¬ t < y + gn m:=λz=>hb (P0 z);lia
theorem Py {x:Nat} {z:Int}:∀ (l:List Hop) (st:THO),geO (st.1.getD x none) z->geO ((l.foldl (Ur gn) st).1.getD x none) z
 | [],_,h=>h
 | m :: l,st,h=>Py l (Ur gn st m) (Bf h)
theorem Ey {m:Hop} {z:Int}:∀ (l:List Hop) (st:THO),m∈l->m.2.2 < st.1.length->geO (st.1.getD m.1 none) z->geO ((l.foldl (Ur gn) st).1.getD m.2.2 none) (z + gn m)
 | m' :: l,st,hm,hl,hz=>by
  rw [foldl_cons];rcases R3.mp hm with rfl | hm
  ·exact Py l _ (Qcv hl hz)
  ·exact Ey l (Ur gn st m') hm (by rw [Ay]; exact hl) (Bf hz)
structure OkO (hs:List Hop) (gn:Hop->Int) (n:Nat) (start:K1) (st:THO):Prop where
 l1:st.1.length=n
 l2:st.2.length=n
 at_:∀ b z,b < n->st.1.getD b none=some z->∃ s z0,s < n/\start.getD s none=some z0/\ChS hs s (st.2.getD b []) b/\z0 + wt gn (st.2.getD b [])=z
def Xu (start:K1):THO:=(start,start.map λ_ => [])
theorem Qvj (hl:start.length=n):OkO hs gn n start (Xu start):=by
 refine ⟨hl,by simp [Xu,hl],λb z hb e=>⟨b,z,hb,e,?_,?_⟩⟩
 ·have:(Xu start).2.getD b []=[]:=by simp [Xu,getD,show b < start.length by lia]
  rw [this];exact .nil
 ·have:(Xu start).2.getD b []=[]:=by simp [Xu,getD,show b < start.length by lia]
  rw [this];simp [wt]
theorem Qcj (hlt:∀ m∈hs,m.1 < n/\m.2.2 < n) (ok:OkO hs gn n start st) (hm:m∈hs):OkO hs gn n start (Ur gn st m):=by
 obtain ⟨h1,h2⟩:=hlt m hm;have l1:=ok.l1;have l2:=ok.l2;refine ⟨by rw [Ay,l1],by rw [Qk2,l2],λb z hb e=>?_⟩;unfold Ur at e ⊢;cases hc:st.1.getD m.1 none with
 | none =>rw [hc] at e;exact ok.at_ b z hb e
 | some came =>
  rw [hc] at e;dsimp only at e ⊢
  by_cases hbt:btO (st.1.getD m.2.2 none) (came + gn m)=true
  ·rw [if_pos hbt] at e ⊢
   by_cases hbm:m.2.2=b
   ·subst hbm;rw [Gv (by lia)] at e;cases e;obtain ⟨s,z0,hs1,hs0,hs2,hs3⟩:=ok.at_ m.1 came h1 hc;have e':(st.2.set m.2.2 (st.2.getD m.1 [] ++ [m])).getD m.2.2 []=st.2.getD m.1 [] ++ [m]:=by simp [getD,show m.2.2 < st.2.length by lia]
    refine ⟨s,z0,hs1,hs0,?_,?_⟩
    ·show ChS hs s ((st.2.set m.2.2 (st.2.getD m.1 [] ++ [m])).getD m.2.2 []) m.2.2;rw [e'];exact .snoc hs2 hm
    ·show z0 + wt gn ((st.2.set m.2.2 (st.2.getD m.1 [] ++ [m])).getD m.2.2 [])=_;rw [e',Va];have:wt gn [m]=gn m:=by simp [wt]
     rw [this];lia
   ·rw [Qx5 hbm] at e;obtain ⟨s,z0,hs1,hs0,hs2,hs3⟩:=ok.at_ b z hb e;have e':(st.2.set m.2.2 (st.2.getD m.1 [] ++ [m])).getD b []=st.2.getD b []:=by simp [getD,getElem?_set_ne hbm]
    exact ⟨s,z0,hs1,hs0,by show ChS hs s ((st.2.set m.2.2 (st.2.getD m.1 [] ++ [m])).getD b []) b; rw [e']; exact hs2,by show z0 + wt gn ((st.2.set m.2.2 (st.2.getD m.1 [] ++ [m])).getD b [])=z; rw [e']; exact hs3⟩
  ·rw [if_neg hbt] at e ⊢;exact ok.at_ b z hb e
def Rn (hlt:∀ m∈hs,m.1 < n/\m.2.2 < n) (hl:start.length=n) (k:Nat):OkO hs gn n start (Ut gn hs (Xu start) k):=by refine Zf (I:=OkO hs gn n start) (Qvj hl) λst _ _ ok=>?_;exact Zf (I:=OkO hs gn n start) ok λst m hm ok=>Qcj hlt ok hm
theorem Du {x j:Nat} {z:Int} {st:THO}:∀ {k:Nat},j<=k->geO ((Ut gn hs st j).1.getD x none) z->geO ((Ut gn hs st k).1.getD x none) z
 | 0,h,q=>by
  have:j=0:=by lia
  rw [this] at q;exact q
 | k + 1,h,q=>by
  by_cases hj:j=k + 1
  ·rw [<- hj]; exact q
  ·rw [Jh];exact Py hs _ (Du (k:=k) (by lia) q)
theorem Qk0 (hlt:∀ m∈hs,m.1 < n/\m.2.2 < n) (hl:start.length=n) {s:Nat} {c:List Hop} (hc:ChS hs s c b) (h0:start.getD s none=some z0):geO ((Ut gn hs (Xu start) c.length).1.getD b none) (z0 + wt gn c):=by
 induction hc with
 | nil=>exact ⟨z0,h0,by simp [wt]⟩
 | @snoc c a r b _ hm ih =>
  rw [length_append,length_singleton,Jh,Va];have h2:wt gn [(a,r,b)]=gn (a,r,b):=by simp [wt]
  rw [h2,<- Int.add_assoc];exact Ey (m:=(a,r,b)) hs _ hm (by rw [(Rn hlt hl c.length).l1]; exact (hlt _ hm).2) ih
theorem Gk (hp:∀ m∈hs,h m.1 + gn m<=h m.2.2) (hlt:∀ m∈hs,m.1 < n/\m.2.2 < n) (hl:start.length=n) {s:Nat} {c:List Hop} (hsn:s < n) (hc:ChS hs s c b) (h0:start.getD s none=some z0):geO ((Ut gn hs (Xu start) n).1.getD b none) (z0 + wt gn c):=by obtain ⟨c',g1,g2,g3⟩:=Cz hp hlt _ (O7 _) hsn hc;exact (Du (j:=c'.length) (k:=n) (by lia) (Qk0 hlt hl g1 h0)).mono (by lia)
theorem Le (hp:∀ m∈hs,h m.1 + gn m<=h m.2.2) (hlt:∀ m∈hs,m.1 < n/\m.2.2 < n) (hl:start.length=n) (hm:m∈hs) (hz:(Ut gn hs (Xu start) n).1.getD m.1 none=some z):geO ((Ut gn hs (Xu start) n).1.getD m.2.2 none) (z + gn m):=by
 obtain ⟨s,z0,h1,h0,h2,h3⟩:=(Rn (gn:=gn) hlt hl n).at_ m.1 z (hlt m hm).1 hz;have h4:ChS hs s ((Ut gn hs (Xu start) n).2.getD m.1 [] ++ [(m.1,m.2.1,m.2.2)]) m.2.2:=.snoc h2 hm;have h5:=Gk hp hlt hl h1 h4 h0;rw [Va] at h5;have h6:wt gn [(m.1,m.2.1,m.2.2)]=gn m:=by simp [wt]
 rw [h6] at h5;exact h5.mono (by lia)
def Ga (hp:∀ m∈hs,h m.1 + gn m<=h m.2.2) (hlt:∀ m∈hs,m.1 < n/\m.2.2 < n) (hl:start.length=n) (hb:b < n) (h0:start.getD b none=some z0):geO ((Ut gn hs (Xu start) n).1.getD b none) z0:=by have:=Gk (gn:=gn) hp hlt hl hb (.nil:ChS hs b [] b) h0;simpa [wt] using this
def Ow (hp:∀ m∈hs,h m.1 + gn m<=h m.2.2) (hlt:∀ m∈hs,m.1 < n/\m.2.2 < n) (hl:start.length=n) (iz:∀ a b,a < n->b < n->a≠b->∃ r,(a,r,b)∈hs) {s:Nat} (hs0:s < n) (h0:start.getD s none=some z0) (hb:b < n):∃ z,(Ut gn hs (Xu start) n).1.getD b none=some z:=by
 by_cases e:s=b
 ·subst e;obtain ⟨z,e1,_⟩:=Ga hp hlt hl hs0 h0;exact ⟨z,e1⟩
 ·obtain ⟨r,hr⟩:=iz s b hs0 hb e;have hc:ChS hs s ([] ++ [(s,r,b)]) b:=.snoc .nil hr;obtain ⟨z,e1,_⟩:=Gk hp hlt hl hs0 hc h0;exact ⟨z,e1⟩
def Qk1 (h:∀ b,st.1.getD b none=none):Ur gn st m=st:=by unfold Ur;rw [h]
theorem Bb {st:THO} (h:∀ b,st.1.getD b none=none):∀ l:List Hop,l.foldl (Ur gn) st=st
 | []=>rfl
 | m :: l=>by rw [foldl_cons,Qk1 h]; exact Bb h l
theorem Dy {st:THO} (h:∀ b,st.1.getD b none=none):∀ k,Ut gn hs st k=st
 | 0=>rfl
 | k + 1=>by rw [Jh,Dy h k]; exact Bb h hs
end
end BW
namespace L2
open PySem PySem.Spec PyProof.Rows BW
variable {c:Nat} {st:THO}
def Te (ak:K6) (aj:J7) (way:K7) (n:Int) (lv:K6):Prop:=∀ a b r:Nat,a < aj.length->b < aj.length->a≠b->(r:Int)∈Zd true ak way a b->lv.getD a 0 + n * Zs true aj way a r b<=lv.getD b 0
section
variable {ak:K6} {aj:J7} {way:K7} {ao n:Int} {lv rows:K6}
theorem Pk (n0:0 < n) (hc:Te ak aj way n lv) {i r:Nat} (hi:i < aj.length) (hcn:c < aj.length) (hr:r=way.getD c 0\/(r:Int)∈Yw ak (wI way)) (hown:i=c->wF aj i r<=Zr aj way i) :
  n * wF aj i r - Xh true aj way lv n c<=n * Zr aj way i - Xh true aj way lv n i:=by
 by_cases e:i=c
 ·have h1:=U0 (hown e) (show 0<=n by lia);subst e;lia
 unfold Xh;have hm:(r:Int)∈Zd true ak way c i:=by
  rcases hr with h | h
  ·rw [h]; exact Vu true ak way c i
  ·exact Gj h
 have h1:=hc c i r hcn hi (Ne.symm e) hm;simp only [if_pos,Zs] at h1 ⊢;rw [Int.mul_sub] at h1;lia
theorem Su (n0:0 < n) (hc:Te ak aj way n lv) {b:Nat} (hb:b < aj.length) (hcn:c < aj.length) (ho:((way.getD b 0:Nat):Int)∈Yw ak (wI way)):Xh true aj way lv n b<=Xh true aj way lv n c:=by have h:=Pk n0 hc (i:=b) (c:=c) (r:=way.getD b 0) hb hcn (.inr ho) (λ_=>Q0 _);have e:wF aj b (way.getD b 0)=Zr aj way b:=rfl;rw [e] at h;lia
theorem Oo (n0:0 < n) (hc:Te ak aj way n lv) {a b:Nat} (ha:a < aj.length) (hb:b < aj.length) (h:way.getD a 0=way.getD b 0):Xh true aj way lv n a=Xh true aj way lv n b:=by
 by_cases e:a=b
 ·rw [e]
 have h1:=hc a b _ ha hb e (Vu true ak way a b);have h2:=hc b a _ hb ha (Ne.symm e) (Vu true ak way b a);unfold Xh;simp only [if_pos,Zs] at h1 h2 ⊢;have e1:wF aj b (way.getD a 0)=Zr aj way b:=by rw [h]; rfl
 have e2:wF aj a (way.getD b 0)=Zr aj way a:=by rw [<- h]; rfl
 rw [e1,Int.mul_sub] at h1;rw [e2,Int.mul_sub] at h2;lia
theorem Aj (n0:0 < n) (lw:way.length=aj.length) (lt:∀ r∈way,r < ak.length) (hc:Te ak aj way n lv) (h:Ua ak way (Xj true aj way lv n) rows) {p:Nat} (hp:p < aj.length):rows.getD (way.getD p 0) 0=Xh true aj way lv n p:=by
 have hp':p < way.length:=by lia
 have hm:way.getD p 0∈way:=Fe hp';generalize hr0:way.getD p 0=r at *;have hr2:r < rows.length:=by rw [h.1]; exact lt _ hm
 have h2:=h.2 r (rows[r]'hr2) (R7 hr2);unfold Wo at h2;rw [if_pos hm] at h2;have hi:way.idxOf r < way.length:=A0r.mpr hm;have hg:way.getD (way.idxOf r) 0=r:=by rw [getD_get _ _ hi]; exact getElem_idxOf hi
 rw [getD_get _ _ hr2,h2];have hi2:way.idxOf r < aj.length:=by lia
 have lc:(Xj true aj way lv n).length=aj.length:=by simp [Xj]
 rw [getD_get _ _ (by rw [lc]; exact hi2)];have e2:∀ (k:Nat) (hk:k < (Xj true aj way lv n).length),(Xj true aj way lv n)[k]=Xh true aj way lv n k:=λk hk=>by simp [Xj]
 rw [e2];exact Oo n0 hc hi2 hp (by rw [hg,hr0])
def Rz {cs:K6} (h:Ua ak way cs rows) {r:Nat} (hr:r < ak.length) (hw:r ∉ way):Yg (rows.getD r 0) cs:=by
 have hr2:r < rows.length:=by rw [h.1]; exact hr
 have h2:=h.2 r (rows[r]'hr2) (R7 hr2);unfold Wo at h2;rw [if_neg hw] at h2;rw [getD_get _ _ hr2];exact h2
def Lj {c:Int} (h:c∈Xj true aj way lv n):∃ p,p < aj.length/\c=Xh true aj way lv n p:=by obtain ⟨p,hp,rfl⟩:=O8.mp h;exact ⟨p,O1.mp hp,rfl⟩
def Bs {p:Nat} (h:p < aj.length):Xh true aj way lv n p∈Xj true aj way lv n:=O8.mpr ⟨p,O1.mpr h,rfl⟩
theorem Qvx (lw:way.length=aj.length) (lv_l:lv.length=aj.length) (hs:lv.sum=n * (wsum (wF aj) way - ao)):(Xj true aj way lv n).sum=n * ao:=by
 have h2:((range aj.length).map λi=>lv.getD i 0)=lv:=by rw [<- lv_l]; exact range_getD _
 unfold Xj;have e:((range aj.length).map (Xh true aj way lv n))=(range aj.length).map λi=>n * Zr aj way i - lv.getD i 0:=R9 λi _=>by simp [Xh]
 rw [e,Wb,h2,hs];have ew:((range aj.length).map (Zr aj way)).sum=wsum (wF aj) way:=by unfold wsum;rw [lw];rfl
 rw [ew,<- Int.mul_sub]
 congr 1
 lia
theorem Zqx (n0:0 < n) (ok:Qn ak aj way) (f9:Fit (bF ak) way) (fj:Opt ak aj way) (hb1:∀ b∈ak,1<=b) (hc:Te ak aj way n lv) (lv_l:lv.length=aj.length) (hs:lv.sum=n * (wsum (wF aj) way - ao)) (h:Ua ak way (Xj true aj way lv n) rows) {d k:Int} {R:K6} (low:Low n rows d k R):Fp.is ⟨ak,aj,ao,way,k,R⟩ .none:=by
 have lw:=ok.len;have d0:=low.d0;have hat:∀ {p:Nat},p < aj.length->rows.getD (way.getD p 0) 0=Xh true aj way lv n p:=λhp=>Aj n0 lw ok.lt hc h hp;refine ⟨?_,λi r hi hr he=>?_,λr q hr hq hd=>?_⟩
 ·show (way.map λr=>R.getD r 0).sum=k * ao;have h1:(way.map λr=>rows.getD r 0).sum=n * ao:=by
   rw [<- Qvx (ao:=ao) lw lv_l hs]
   congr 1
   refine U7 (by simp [Xj,lw]) λp a b=>?_;have hp:p < way.length:=by simpa using a
   have e:=hat (p:=p) (by lia);rw [getD_get _ _ hp] at e;simp only [getElem_map,Xj,getElem_range];exact e
  rw [low.sum,low.n_,Int.mul_assoc] at h1;exact A1c (by lia) h1
 ·have hi':i < aj.length:=hi;have hr':r < ak.length:=hr;have h1:n * wF aj i r - rows.getD r 0<=n * wF aj i (way.getD i 0) - rows.getD (way.getD i 0) 0:=by
   rw [hat hi']
   by_cases hw:r∈way
   ·obtain ⟨c,hc1,hc2⟩:=Qqv hw;have e:=hat (p:=c) (by lia);rw [hc2] at e;rw [e];refine Pk n0 hc hi' (c:=c) (r:=r) (by lia) (.inl hc2.symm) λz=>?_;subst z;rw [<- hc2];exact Q0 _
   ·obtain ⟨h1,h2⟩:=Rz h hr' hw;obtain ⟨c,hc1,hc2⟩:=Lj h1;have ho:way.count r < bF ak r:=by rw [count_eq_zero.mpr hw];have:=hb1 (ak[r]) (N7 hr');unfold bF;rw [getD_get _ _ hr'];lia
    rw [hc2];exact Pk n0 hc hi' (c:=c) (r:=r) hc1 (.inr (Kh hr' ho)) λ_=>Ac ok f9 fj hi' hr' ho
  have he':k * wF aj i (way.getD i 0) - R.getD (way.getD i 0) 0 < k * wF aj i r - R.getD r 0:=he;have h2:=A1j he' d0;rw [low.at_,low.at_,low.n_,Int.mul_assoc,Int.mul_assoc,<- Int.mul_sub,<- Int.mul_sub] at h1;lia
 ·obtain ⟨h1,h2,h3⟩:=hd;have hqw:q∈way:=W3.mp h2;have hr':r < ak.length:=hr;have h4:rows.getD r 0<=rows.getD q 0:=by
   obtain ⟨c,hc1,hc2⟩:=Qqv hqw;have e:=hat (p:=c) (by lia);rw [hc2] at e;rw [e]
   by_cases hw:r∈way
   ·obtain ⟨b,hb1,hb2⟩:=Qqv hw;have e2:=hat (p:=b) (by lia);rw [hb2] at e2;rw [e2];refine Su n0 hc (by lia) (by lia) ?_;rw [hb2];exact Kh hr' h1
   ·exact (Rz h hr' hw).2 _ (Bs (by lia))
  have h5:R.getD q 0 < R.getD r 0:=h3;have h6:=A1j h5 d0;rw [low.at_,low.at_] at h4;lia
end
def Vn (n:Nat) (g h:Nat->Int) (S:K7):Int:=((range n).map λi=>if i∈S then g i else h i).sum
section
variable {n:Nat} {g h:Nat->Int} {W:Int} {od:K7}
theorem Qh6 (hnd:od.Nodup) (hlt:∀ i∈od,i < n) (hc:c < od.length):Vn n g h (od.take (c + 1))=Vn n g h (od.take c) - (h od[c] - g od[c]):=by
 have htk:od.take (c + 1)=od.take c ++ [od[c]]:=by rw [take_succ]; simp [hc]
 have lq:od[c] ∉ od.take c:=λz=>by rw [<- take_append_drop (c + 1) od,htk,append_assoc] at hnd;have:=(nodup_append.mp hnd).2.2 _ z od[c] (R8 _ (mem_singleton.mpr rfl));exact this rfl
 unfold Vn;have hx:od[c] < n:=hlt _ (N7 hc);rw [Do (f:=λi=>if i∈od.take (c + 1) then g i else h i) (g:=λi=>if i∈od.take c then g i else h i) (j:=od[c]) hx (λi hi=>by
  rw [htk]
  by_cases hm:i∈od.take c
  ·rw [if_pos hm,if_pos (mem_append_left _ hm)]
  ·rw [if_neg hm,if_neg (λz=>(mem_append.mp z).elim hm λy=>hi (by simpa using y))])]
 rw [if_neg lq,if_pos (by rw [htk]; exact mem_append_right _ (mem_singleton.mpr rfl))];lia
def Fs (n:Nat) (g h:Nat->Int) (W:Int) (od:K7) (c:Nat):Int:=W - Vn n g h (od.take c)
theorem Mv (hnd:od.Nodup) (hlt:∀ i∈od,i < n) (hc:c < od.length):Fs n g h W od (c + 1)=Fs n g h W od c + (h od[c] - g od[c]):=by unfold Fs;rw [Qh6 hnd hlt hc];lia
structure Ui (n:Nat) (g h:Nat->Int) (W:Int) (od:K7) (k c:Nat):Prop where
 c1:1<=c
 ck:c<=k
 le:∀ j:Nat,1<=j->j<=k->Fs n g h W od c * (j:Int)<=Fs n g h W od j * (c:Int)
theorem Ui.one:Ui n g h W od 1 1:=⟨by lia,by lia,λj h1 h2=>by
 have:j=1:=by lia
 subst this;exact Q0 _⟩
theorem Ui.keep {k:Nat} (l:Ui n g h W od k c) (hk:¬ Fs n g h W od (k + 1) * (c:Int) < Fs n g h W od c * ((k + 1:Nat):Int)):Ui n g h W od (k + 1) c:=⟨l.c1,by have:=l.ck; lia,λj h1 h2=>by
 by_cases e:j=k + 1
 ·subst e;lia
 ·exact l.le j h1 (by lia)⟩
theorem Ui.next {k:Nat} (l:Ui n g h W od k c) (hk:Fs n g h W od (k + 1) * (c:Int) < Fs n g h W od c * ((k + 1:Nat):Int)):Ui n g h W od (k + 1) (k + 1):=⟨by lia,by lia,λj h1 h2=>by
 by_cases e:j=k + 1
 ·subst e;exact Q0 _
 ·have h3:=l.le j h1 (by lia);have hc:(0:Int) < (c:Int):=by have:=l.c1; lia
  have hj:(0:Int)<=(j:Int):=by lia
  have hk1:(0:Int)<=((k + 1:Nat):Int):=by lia
  have h4:=U8 (V4 hk) hj;have h5:=U8 h3 hk1;generalize Fs n g h W od (k + 1)=x at *;generalize Fs n g h W od c=y at *;generalize Fs n g h W od j=z at *;generalize ((k + 1:Nat):Int)=kk at *;have e1:x * (c:Int) * (j:Int)=(x * (j:Int)) * (c:Int):=by rw [Int.mul_assoc,Int.mul_comm (c:Int),<- Int.mul_assoc]
  have e2:y * kk * (j:Int)=y * (j:Int) * kk:=by rw [Int.mul_assoc,Int.mul_comm kk,<- Int.mul_assoc]
  have e3:z * (c:Int) * kk=(z * kk) * (c:Int):=by rw [Int.mul_assoc,Int.mul_comm (c:Int),<- Int.mul_assoc]
  rw [e1,e2] at h4;rw [e3] at h5;exact A1k (T7 h4 h5) hc⟩
theorem Ui.split (hnd:od.Nodup) (hlt:∀ i∈od,i < n) (iz:∀ i,i < n->i∈od) (jw:od.Pairwise λa b=>h a - g a<=h b - g b) (hn:od.length=n) (jb:((range n).map h).sum<=W) (l:Ui n g h W od n c) :
  (∀ i∈od.take c,(c:Int) * h i<=Fs n g h W od c + (c:Int) * g i)/\∀ i,i < n->i ∉ od.take c->Fs n g h W od c + (c:Int) * g i<=(c:Int) * h i:=by
 have c1:=l.c1;have cn:=l.ck;have hc0:(0:Int) < (c:Int):=by lia
 have key:∀ (j:Nat) (hj:j < od.length),(j < c->(c:Int) * (h od[j] - g od[j])<=Fs n g h W od c)/\(c<=j->Fs n g h W od c<=(c:Int) * (h od[j] - g od[j])):=by
  have ou:∀ (i j:Nat) (hi:i < od.length) (hj:j < od.length),i<=j->h od[i] - g od[i]<=h od[j] - g od[j]:=λi j hi hj hij=>by
   by_cases e:i=j
   ·subst e; exact Q0 _
   ·exact (A1d.mp jw) i j hi hj (by lia)
  intro j hj;refine ⟨λhjc=>?_,λhcj=>?_⟩
  ·have hc':c - 1 < od.length:=by lia
   have h1:=ou j (c - 1) hj hc' (by lia);refine T7 (U0 h1 (by lia)) ?_
   by_cases e:c=1
   ·subst e;have h2:=Mv (g:=g) (h:=h) (W:=W) hnd hlt (c:=0) (by lia);have h3:Fs n g h W od 0=W - ((range n).map h).sum:=by simp [Fs,Vn]
    simp only [Nat.sub_self] at *;rw [h3] at h2;simp only [Nat.zero_add] at h2;rw [h2];simp;lia
   ·have h2:=Mv (g:=g) (h:=h) (W:=W) hnd hlt (c:=c - 1) hc';rw [show c - 1 + 1=c by lia] at h2;have h3:=l.le (c - 1) (by lia) (by lia);have e1:Fs n g h W od (c - 1)=Fs n g h W od c - (h od[c - 1] - g od[c - 1]):=by lia
    rw [e1,Int.sub_mul,show ((c - 1:Nat):Int)=(c:Int) - 1 by lia,Int.mul_sub,Int.mul_one] at h3;rw [Int.mul_comm (c:Int)];lia
  ·have hcl:c < od.length:=by lia
   have h1:=ou c j hcl hj hcj;refine T7 ?_ (U0 h1 (by lia));have h2:=Mv (g:=g) (h:=h) (W:=W) hnd hlt (c:=c) hcl;have h3:=l.le (c + 1) (by lia) (by lia);rw [h2,Int.add_mul,show ((c + 1:Nat):Int)=(c:Int) + 1 by lia,Int.mul_add,Int.mul_one] at h3;rw [Int.mul_comm (c:Int)];lia
 refine ⟨λi hi=>?_,λi hi hni=>?_⟩
 ·obtain ⟨j,hj,rfl⟩:=getElem_of_mem hi;rw [getElem_take];rw [length_take] at hj;have:=(key j (by lia)).1 (by lia);rw [Int.mul_sub] at this;lia
 ·obtain ⟨j,hj,rfl⟩:=getElem_of_mem (iz i hi);have hcj:c<=j:=by refine Nat.le_of_not_lt λz=>hni ?_;exact mem_take_iff_getElem.mpr ⟨j,by lia,rfl⟩
  have:=(key j hj).2 hcj;rw [Int.mul_sub] at this;lia
end
structure Kept (n:Nat) (g h:Nat->Int) (W:Int) (S:K7):Prop where
 nd:S.Nodup
 lt:∀ i∈S,i < n
 pos:0 < S.length
 up:∀ i∈S,(S.length:Int) * h i<=(W - Vn n g h S) + (S.length:Int) * g i
 dn:∀ i,i < n->i ∉ S->(W - Vn n g h S) + (S.length:Int) * g i<=(S.length:Int) * h i
def lvK (n:Nat) (g h:Nat->Int) (W:Int) (S:K7):K6:=(range n).map λi=>if i∈S then (W - Vn n g h S) + (S.length:Int) * g i else (S.length:Int) * h i
section
variable {n:Nat} {g h:Nat->Int} {W:Int} {S:K7}
def Ck:(lvK n g h W S).length=n:=by simp [lvK]
def Ss {i:Nat} (hi:i < n):(lvK n g h W S).getD i 0=if i∈S then (W - Vn n g h S) + (S.length:Int) * g i else (S.length:Int) * h i:=by simp [lvK,getD,hi]
def Kept.ge (k:Kept n g h W S) {i:Nat} (hi:i < n):(W - Vn n g h S) + (S.length:Int) * g i<=(lvK n g h W S).getD i 0/\(S.length:Int) * h i<=(lvK n g h W S).getD i 0:=by
 rw [Ss hi]
 by_cases hm:i∈S
 ·rw [if_pos hm];exact ⟨Q0 _,k.up i hm⟩
 ·rw [if_neg hm];exact ⟨k.dn i hi hm,Q0 _⟩
theorem Qx2 (B:Int):∀ (S:K7) (n:Nat),S.Nodup->(∀ i∈S,i < n)->((range n).map λi=>if i∈S then B else 0).sum=(S.length:Int) * B
 | [],n,_,_=>by have:((range n).map λi=>if i∈([]:K7) then B else 0)=(range n).map λ_=>(0:Int):=R9 λi _=>U6 (by simp);rw [this,Pq];simp
 | x :: S,n,hnd,hlt=>by
  have hx:x < n:=hlt x Q7;obtain ⟨hn,hnd'⟩:=nodup_cons.mp hnd;rw [Do (f:=λi=>if i∈x :: S then B else 0) (g:=λi=>if i∈S then B else 0) (j:=x) hx (λi hi=>by
   by_cases hm:i∈S
   ·rw [if_pos hm,if_pos (mem_cons_of_mem _ hm)]
   ·rw [if_neg hm,if_neg (λz=>(mem_cons.mp z).elim hi hm)]),Qx2 B S n hnd' λi hi=>hlt i (mem_cons_of_mem _ hi)]
  rw [if_neg hn,if_pos mem_cons_self,length_cons];rw [show ((S.length + 1:Nat):Int)=(S.length:Int) + 1 by lia,Int.add_mul];lia
theorem So (f e:Nat->Int):∀ l:K7,(l.map λi=>f i + e i).sum=(l.map f).sum + (l.map e).sum
 | []=>rfl
 | a :: l=>by simp only [map_cons,sum_cons,So f e l];lia
theorem Nh (c:Int) (f:Nat->Int):∀ l:K7,(l.map λi=>c * f i).sum=c * (l.map f).sum
 | []=>by simp
 | a :: l=>by simp only [map_cons,sum_cons,Nh c f l,Int.mul_add]
theorem Kept.sum (k:Kept n g h W S):(lvK n g h W S).sum=(S.length:Int) * W:=by
 have e:lvK n g h W S=(range n).map λi=>(if i∈S then (W - Vn n g h S) else 0) + (S.length:Int) * (if i∈S then g i else h i):=R9 λi _=>by
  by_cases hm:i∈S
  ·simp only [if_pos hm]
  ·simp only [if_neg hm]; lia
 rw [e,So,Qx2 _ S n k.nd k.lt,Nh];show (S.length:Int) * (W - Vn n g h S) + (S.length:Int) * Vn n g h S=_;rw [<- Int.mul_add]
 congr 1
 lia
end
theorem Kept.least {n:Nat} {h:Nat->Int} {W:Int} {S:K7} {hs:List Hop} {gn:Hop->Int} {st:TC} (k:Kept n (λi=>st.1.getD i 0) h W S) (ok:OkC hs gn n st) (nn:∀ b,b < n->0<=st.1.getD b 0) (hg:∀ m∈hs,st.1.getD m.1 0 + gn m<=st.1.getD m.2.2 0) (hh:∀ m∈hs,h m.1 + gn m<=h m.2.2) (hlt:∀ m∈hs,m.1 < n/\m.2.2 < n) :
  (∀ i,i < n->W - Vn n (λi=>st.1.getD i 0) h S<=(lvK n (λi=>st.1.getD i 0) h W S).getD i 0)/\∃ i,i < n/\(lvK n (λi=>st.1.getD i 0) h W S).getD i 0=W - Vn n (λi=>st.1.getD i 0) h S:=by
 refine ⟨λi hi=>?_,?_⟩
 ·have h1:=(k.ge hi).1;have h2:=A0s (show (0:Int)<=(S.length:Int) by lia) (nn i hi);lia
 ·obtain ⟨i,hi⟩:=exists_mem_of_length_pos k.pos;obtain ⟨s,hs1,hs2,hs3⟩:=ok.at_ i (k.lt i hi);have p1:=hs2.pot (h:=λx=>st.1.getD x 0) hg;have p2:=hs2.pot (h:=h) hh;have z0:st.1.getD s 0=0:=by have:=nn s hs1;lia
  have u:=k.up i hi;have m0:(0:Int)<=(S.length:Int):=by lia
  have p3:(S.length:Int) * h s<=W - Vn n (λi=>st.1.getD i 0) h S:=by
   have h1:h s<=h i - st.1.getD i 0:=by lia
   have h2:=U0 h1 m0;rw [Int.mul_sub] at h2;lia
  refine ⟨s,hs1,?_⟩;rw [Ss hs1]
  by_cases hm:s∈S
  ·rw [if_pos hm,z0,Int.mul_zero,Int.add_zero]
  ·rw [if_neg hm];have d:=k.dn s hs1 hm;simp only [z0,Int.mul_zero,Int.add_zero] at d;lia
theorem Kept.closed {ak:K6} {aj:J7} {way:K7} {g h:Nat->Int} {W:Int} {S:K7} (k:Kept aj.length g h W S) (hg:∀ a b r:Nat,a < aj.length->b < aj.length->a≠b->(r:Int)∈Zd true ak way a b->g a + Zs true aj way a r b<=g b) (hh:∀ a b r:Nat,a < aj.length->b < aj.length->a≠b->(r:Int)∈Zd true ak way a b->h a + Zs true aj way a r b<=h b):Te ak aj way (S.length:Int) (lvK aj.length g h W S):=λa b r ha hb hab hr=>by
 have m0:(0:Int)<=(S.length:Int):=by lia
 obtain ⟨b1,b2⟩:=k.ge hb;rw [Ss ha]
 by_cases hm:a∈S
 ·rw [if_pos hm];have h1:=U0 (hg a b r ha hb hab hr) m0;rw [Int.mul_add] at h1;lia
 ·rw [if_neg hm];have h1:=U0 (hh a b r ha hb hab hr) m0;rw [Int.mul_add] at h1;lia
theorem Kept.all {n:Nat} (g:Nat->Int) (W:Int) (hn:0 < n):∃ c:Int,Kept n g (λi=>g i - c) W (range n):=by
 refine ⟨if W - Vn n g g (range n) < 0 then -(W - Vn n g g (range n)) else 0,nodup_range,λi hi=>O1.mp hi,by simpa using hn,λi hi=>?_,λi hi hni=>absurd (O1.mpr hi) hni⟩;have e:∀ h:Nat->Int,Vn n g h (range n)=Vn n g g (range n):=λh=>by
  unfold Vn
  congr 1
  exact R9 λi hi=>by rw [if_pos hi,if_pos hi]
 generalize hc:(if W - Vn n g g (range n) < 0 then -(W - Vn n g g (range n)) else 0)=c;rw [e (λi=>g i - c),length_range,Int.mul_sub];generalize W - Vn n g g (range n)=B at *;have n1:(1:Int)<=(n:Int):=by lia
 have hcb:0<=c/\-B<=c:=by
  rw [<- hc]
  split <;> lia
 have h1:c * 1<=c * (n:Int):=U0 n1 hcb.1;rw [Int.mul_comm c (n:Int)] at h1;lia
structure Ub (H:Hp) (ga mv:G5) (st:THO):Prop where
 ne:ga≠mv
 g:H ga=some (.lst (st.1.map oV))
 ex:∃ ls:K9,H mv=some (.lst (ls.map V.ref))/\ls.length=st.2.length/\(∀ a∈ls,a≠ga/\a≠mv)/\∀ (i:Nat) a c,ls[i]? = some a->st.2[i]? = some c->Zb H a c
def Ub.same {H H':Hp} {ga mv:G5} {st:THO} (h:Ub H ga mv st) (s:Qu H H'):Ub H' ga mv st:=by obtain ⟨ls,e1,e2,e3,e4⟩:=h.ex;exact ⟨h.ne,s _ _ h.g,ls,s _ _ e1,e2,e3,λi a c h1 h2=>(e4 i a c h1 h2).same s⟩
def Ub.bf {H H':Hp} {ga mv:G5} {st:THO} (h:Ub H ga mv st) (s:Qc H H'):Ub H' ga mv st:=by obtain ⟨ls,e1,e2,e3,e4⟩:=h.ex;exact ⟨h.ne,s.to _ _ h.g rfl,ls,s.to _ _ e1 rfl,e2,e3,λi a c h1 h2=>(e4 i a c h1 h2).bf s⟩
def Ub.gset {H:Hp} {ga mv:G5} {gs':K1} (h:Ub H ga mv st):Ub (upd H ga (.lst (gs'.map oV))) ga mv (gs',st.2):=by
 obtain ⟨ls,e1,e2,e3,e4⟩:=h.ex;refine ⟨h.ne,Qy,ls,by rw [Qv h.ne.symm]; exact e1,e2,e3,λi a c h1 h2=>(e4 i a c h1 h2).keep (λo e=>?_) λt xs e=>?_⟩
 ·rw [Qv (e3 a (mem_of_getElem? h1)).1]; exact e
 ·rw [Qv (Jv e h.g (by intro z; cases z))]; exact e
theorem Ub.mset {H:Hp} {ga mv n:G5} {ls:K9} {r:Nat} {c:List Hop} (h:Ub H ga mv st) (e1:H mv=some (.lst (ls.map V.ref))) (hr:r < ls.length) (hn1:n≠ga) (hn2:n≠mv) (hc:Zb H n c) :
  Ub (upd H mv (.lst ((ls.map V.ref).set r (.ref n)))) ga mv (st.1,st.2.set r c):=by
 obtain ⟨ls',f1,e2,e3,e4⟩:=h.ex;rw [e1] at f1;have:ls'=ls:=(Ag (HO.lst.inj (R5 f1))).symm;subst this;have kp:∀ a c,Zb H a c->a≠mv->Zb (upd H mv (.lst ((ls'.map V.ref).set r (.ref n)))) a c:=λa c hc hne=>hc.keep (λo e=>by rw [Qv hne]; exact e) λt xs e=>by rw [Qv (Jv e e1 (by intro z; cases z))]; exact e
 refine ⟨h.ne,by rw [Qv h.ne]; exact h.g,ls'.set r n,by rw [Qy,map_set],by simp [e2],λa ha=>?_,λi a c' h1 h2=>?_⟩
 ·rcases A0f ha with z | z
  ·exact e3 a z
  ·rw [z]; exact ⟨hn1,hn2⟩
 ·by_cases hi:r=i
  ·subst hi;rw [getElem?_set_self hr] at h1;rw [getElem?_set_self (by lia)] at h2;cases h1;cases h2;exact kp _ _ hc hn2
  ·rw [getElem?_set_ne hi] at h1;rw [getElem?_set_ne hi] at h2;exact kp _ _ (e4 i a c' h1 h2) (e3 a (T8 h1)).2
theorem Fq {gn:Hop->Int} {m:Hop} {N:Nat} (h:∀ c∈st.2,c.length<=N):∀ c∈(Ur gn st m).2,c.length<=N + 1:=by
 unfold Ur
 split
 ·intro c hc;have:=h c hc;lia
 split
 ·intro c hc;rcases A0f hc with z | z
  ·have:=h c z; lia
  ·rw [z,length_append,length_singleton];have:(st.2.getD m.1 []).length<=N:=by
    by_cases hl:m.1 < st.2.length
    ·have e:st.2.getD m.1 []=st.2[m.1]:=by simp [getD,hl]
     rw [e]; exact h _ (N7 hl)
    ·rw [getD_eq_getElem?_getD,getElem?_eq_none (by lia)];simp
   lia
 ·intro c hc;have:=h c hc;lia
def Qw9:Sp:=λvs H Q _ => ∃ (hl gl tl cl:G5) (aq:List Hop) (gn:Hop->Int) (n N:Nat) (st:THO) (F:G5->Prop),vs=[.ref hl,.ref gl,.ref tl,.ref cl]/\Zb H hl aq/\H gl=some (.lst ((aq.map gn).map V.int))/\Ub H tl cl st/\TCF F H cl/\(∀ a,H a=none->F a)/\hl≠tl/\hl≠cl/\gl≠tl/\gl≠cl/\(∀ m∈aq,m.1 < n/\m.2.2 < n)/\st.1.length=n/\st.2.length=n/\aq.length<=100/\(∀ c∈st.2,c.length<=N)/\N + aq.length<=5000 /\
 ∀ H',(∀ b o,H b=some o->b≠tl->b≠cl->H' b=some o)->(∀ b,H' b=none->H b=none)->Ub H' tl cl (Qex gn aq st)->TCF F H' cl->(∀ c∈(Qex gn aq st).2,c.length<=N + aq.length)->Q .non H'
structure Gx (H:Hp) (t tl cl:G5) (ak:K6) (aj:J7) (way:K7) (aq:List Hop) (start:K1) (st:THO):Prop where
 tup:H t=some (.tup [.ref tl,.ref cl])
 tc:Ub H tl cl st
 good:Xl true ak aj way aq
 is_:st=Ut (gnF true aj way) aq (Xu start) aj.length
def Qwz (CH CW PT:G5) (bh:Pos) (qual:Str):Sp:=λvs H Q _ => ∃ (p sl:G5) (ak:K6) (aj:J7) (ao:Int) (way:K7) (start:K1),vs=[.ref p,.ref sl]/\Xd CH CW H p ak aj ao way/\Qn ak aj way/\Qe H PT bh qual/\H sl=some (.lst (start.map oV))/\start.length=aj.length /\
 ∀ (t tl cl:G5) (aq:List Hop) (st:THO) (H':Hp),Qc H H'->Yl PT H H'->Qe H' PT bh qual->H tl=none->H cl=none->H t=none->TCF (λa=>H a=none) H' cl->(∀ c∈st.2,c.length<=5000)->Gx H' t tl cl ak aj way aq start st->Q (.ref t) H'
end L2
namespace BW
open L2
section
variable {hs:List Hop} {gn:Hop->Int} {n:Nat}
def upO (st:TC):THO:=(st.1.map some,st.2)
def Qhk {st:TC} {i:Nat} (h:i < st.1.length):(upO st).1.getD i none=some (st.1.getD i 0):=by simp [upO,getD,h]
def Qcx {st:TC} {m:Hop} (h1:m.1 < st.1.length) (h2:m.2.2 < st.1.length):Ur gn (upO st) m=upO (Mr gn st m):=by
 unfold Ur Mr;rw [Qhk h1,Qhk h2];dsimp only
 by_cases h:st.1.getD m.2.2 0 < st.1.getD m.1 0 + gn m
 ·have hb:btO (some (st.1.getD m.2.2 0)) (st.1.getD m.1 0 + gn m)=true:=P0 h;rw [if_pos hb,if_pos h];simp [upO,map_set]
 ·have hb:¬ btO (some (st.1.getD m.2.2 0)) (st.1.getD m.1 0 + gn m)=true:=λz=>h (Q6 z);rw [if_neg hb,if_neg h]
theorem Ek:∀ (l:List Hop) (st:TC),(∀ m∈l,m.1 < st.1.length/\m.2.2 < st.1.length)->l.foldl (Ur gn) (upO st)=upO (l.foldl (Mr gn) st)
 | [],_,_=>rfl
 | m :: l,st,h=>by obtain ⟨a,b⟩:=h m Q7;rw [foldl_cons,foldl_cons,Qcx a b];exact Ek l (Mr gn st m) λx hx=>by rw [Au]; exact h x (Q8 _ hx)
theorem Aw (hlt:∀ m∈hs,m.1 < n/\m.2.2 < n):∀ k,Ut gn hs (upO (Jx n)) k=upO (Vz gn hs (Jx n) k)
 | 0=>rfl
 | k + 1=>by rw [Jh,Px,Aw hlt k];exact Ek hs _ λm hm=>by rw [(Nz hlt k).l1];exact hlt m hm
def Cr:Xu (replicate n (some 0))=upO (Jx n):=by simp [Xu,upO,Jx]
end
end BW
namespace L2
open PySem PySem.Spec PyProof.Rows BW
variable {st:THO} {aq:List Hop} {way L:K7} {aj:J7} {ak:K6} {t D:G5} {H H':Hp} {i n:Nat} {ps:K1} {xs:List V} {W ao:Int} {g h:Nat->Int} {rows rws:List (M5 × List Xy)}
def Gx.great {tl cl:G5} (aok:Qn ak aj way) (f9:Fit (bF ak) way) (fj:Opt ak aj way) (c:Gx H t tl cl ak aj way aq (replicate aj.length (some 0)) st):Ud true H t tl cl ak aj way aq (Vz (gnF true aj way) aq (Jx aj.length) aj.length)/\st.2=(Vz (gnF true aj way) aq (Jx aj.length) aj.length).2:=by
 have hlt:∀ m∈aq,m.1 < aj.length/\m.2.2 < aj.length:=λm hm=>⟨(c.good.mem m hm).1,(c.good.mem m hm).2.1⟩
 have e:=c.is_;rw [Cr,Aw hlt] at e;have e2:st.2=(Vz (gnF true aj way) aq (Jx aj.length) aj.length).2:=by rw [e]; rfl
 refine ⟨Qfz aok f9 fj c.good c.tup ⟨c.tc.ne,?_,?_⟩,e2⟩
 ·rw [c.tc.g,e]
  congr 2
  show (List.map some _).map oV=_;rw [map_map];rfl
 ·have:=c.tc.ex;rw [e2] at this;exact this
def Uh (aj:J7) (way:K7) (ps:K1):K1:=(range aj.length).map λi=>(ps.getD i none).map λx=>Zr aj way i - x
structure Dx (ak:K6) (aj:J7) (way:K7) (aq:List Hop) (ps:K1) (st:THO):Prop where
 l1:st.1.length=aj.length
 l2:st.2.length=aj.length
 row:∀ i z,i < aj.length->st.1.getD i none=some z->∃ s x,s < aj.length/\ps.getD s none=some x/\ChS aq s (st.2.getD i []) i/\Zr aj way s - x + wt (gnF true aj way) (st.2.getD i [])=z
 cl:∀ a b r z,a < aj.length->b < aj.length->a≠b->(r:Nat) < ak.length->((r:Int)∈Zd true ak way a b)->st.1.getD a none=some z->geO (st.1.getD b none) (z + Zs true aj way a r b)
 own:∀ i x,i < aj.length->ps.getD i none=some x->geO (st.1.getD i none) (Zr aj way i - x)
 all_:(∃ i,i < aj.length/\ps.getD i none≠none)->∀ i,i < aj.length->st.1.getD i none≠none
 no:(∀ i,i < aj.length->ps.getD i none=none)->∀ i,st.1.getD i none=none
def Wm (hi:i < aj.length):(Uh aj way ps).getD i none=(ps.getD i none).map λx=>Zr aj way i - x:=by simp [Uh,getD,hi]
theorem Gx.held {tl cl:G5} (aok:Qn ak aj way) (f9:Fit (bF ak) way) (fj:Opt ak aj way) (c:Gx H t tl cl ak aj way aq (Uh aj way ps) st):Dx ak aj way aq ps st:=by
 have good:=c.good;have lS:(Uh aj way ps).length=aj.length:=by simp [Uh]
 have hlt:∀ m∈aq,m.1 < aj.length/\m.2.2 < aj.length:=λm hm=>⟨(good.mem m hm).1,(good.mem m hm).2.1⟩
 obtain ⟨h,hp⟩:=Qm2 true aok f9 fj;have oh:∀ m∈aq,h m.1 + gnF true aj way m<=h m.2.2:=λm hm=>by obtain ⟨g1,g2,g3,g4,g5⟩:=good.mem m hm;exact hp m.1 m.2.2 m.2.1 g1 g2 g4 g5
 have ok:=Rn (gn:=gnF true aj way) hlt lS aj.length;have is_:=c.is_;refine ⟨by rw [is_]; exact ok.l1,by rw [is_]; exact ok.l2,λi z hi e=>?_,λa b r z ha hb hab hr hm e=>?_,λi x hi e=>?_,λ⟨s,hs,hne⟩ i hi e=>?_,λhno i=>?_⟩
 ·rw [is_] at e ⊢;obtain ⟨s,z0,h1,h0,h2,h3⟩:=ok.at_ i z hi e;rw [Wm h1] at h0;cases hx:ps.getD s none with
  | none=>rw [hx] at h0; cases h0
  | some x =>
   rw [hx] at h0;have:Zr aj way s - x=z0:=by simpa using h0
   exact ⟨s,x,h1,hx,h2,by rw [this]; exact h3⟩
 ·rw [is_] at e ⊢;obtain ⟨r0,hm0⟩:=good.all_ a b ha hb hab;have k1:=Le oh hlt lS hm0 e;have k2:=good.best _ hm0 r hm;have k3:gnF true aj way (a,r0,b)=Zs true aj way a r0 b:=rfl;rw [k3] at k1;simp only at k1 k2;exact k1.mono (by lia)
 ·rw [is_];exact Ga oh hlt lS hi (by rw [Wm hi,e]; rfl)
 ·cases hx:ps.getD s none with
  | none=>exact hne hx
  | some x =>obtain ⟨z,hz⟩:=Ow (gn:=gnF true aj way) oh hlt lS (λa b ha hb hab=>good.all_ a b ha hb hab) hs (by rw [Wm hs,hx]; rfl) hi;rw [is_,hz] at e;cases e
 ·have hn:∀ b,(Xu (Uh aj way ps)).1.getD b none=none:=λb=>by
   show (Uh aj way ps).getD b none=none
   by_cases hb:b < aj.length
   ·rw [Wm hb,hno b hb];rfl
   ·rw [getD_eq_getElem?_getD,getElem?_eq_none (by lia)];rfl
  rw [is_,Dy hn];exact hn i
def Fc (CH CW:G5):Sp:=λvs H Q _ => ∃ (p pu:G5) (ak:K6) (aj:J7) (ao:Int) (way:K7) (ps:K1) (k:Nat),vs=[.ref p,.ref pu,.int (k:Int)]/\Xd CH CW H p ak aj ao way/\Qn ak aj way/\H pu=some (.lst (ps.map oV))/\k < aj.length/\ps.length=aj.length/\Q (oV ((ps.getD k none).map λx=>Zr aj way k - x)) H
def Cs:Sp:=λvs H Q _ => ∃ (cl:G5) (c:List Xy) (i:Nat),vs=[.ref cl,.int (i:Int)]/\Xp H cl c/\∀ t H',New H t (.tup (Hr (some (Fb c i)) cl)) H'->Q (.ref t) H'
def hF (hs:K1) (i:Nat):Int:=(hs.getD i none).getD 0
def Ll (CH CW:G5):Sp:=λvs H Q _ => ∃ (p gl hl sl:G5) (ak:K6) (aj:J7) (ao:Int) (way:K7) (gs:K6) (hs:K1) (S:K7),vs=[.ref p,.ref gl,.ref hl,.ref sl]/\Xd CH CW H p ak aj ao way/\Qn ak aj way/\H gl=some (.lst (gs.map V.int))/\gs.length=aj.length/\H hl=some (.lst (hs.map oV))/\hs.length=aj.length/\H sl=some (.lst ((wI S).map V.int))/\(∀ i,i < aj.length->i ∉ S->hs.getD i none≠none) /\
 ∀ t H',Qu H H'->H t=none->H' t=some (.tup [.int (wsum (wF aj) way - ao - Vn aj.length (λi=>gs.getD i 0) (hF hs) S),.int (S.length:Int)])->Q (.ref t) H'
def Zi (H:Hp) (pl:G5) (rows:List (M5 × List Xy)):Prop:=∃ ts:K9,H pl=some (.lst (ts.map V.ref))/\ts.length=rows.length/\∀ (i:Nat) t (r:M5 × List Xy),ts[i]? = some t->rows[i]? = some r->∃ c,H t=some (.tup (Hr r.1 c))/\Xp H c r.2
def Zi.same {H H':Hp} {pl:G5} {rows:List (M5 × List Xy)} (h:Zi H pl rows) (s:Qu H H'):Zi H' pl rows:=by obtain ⟨ts,e1,e2,e3⟩:=h;exact ⟨ts,s _ _ e1,e2,λi t r a b=>by obtain ⟨c,c1,c2⟩:=e3 i t r a b;exact ⟨c,s _ _ c1,c2.same s⟩⟩
def Pd (L:K7) (cs cs2:List (List Hop)) (i:Nat):M5 × List Xy:=if i∈L then (none,(cs.getD i []).map Ug) else (some (Fb ((cs2.getD i []).map Ug) i),(cs2.getD i []).map Ug)
def Jr (n:Nat) (L:K7) (cs cs2:List (List Hop)):List (M5 × List Xy):=(range n).map (Pd L cs cs2)
def Qw7 (K:N5) (CH CW:G5):Sp:=λvs H Q _ => ∃ (p fr he sl tl cl tl2 cl2:G5) (ak:K6) (aj:J7) (ao:Int) (way:K7) (aq:List Hop) (st:TC) (st2:THO) (L:K7),vs=[.ref p,.ref fr,.ref he,.ref sl]/\Xd CH CW H p ak aj ao way/\Qn ak aj way/\Ud true H fr tl cl ak aj way aq st/\H he=some (.tup [.ref tl2,.ref cl2])/\Ub H tl2 cl2 st2/\st2.1.length=aj.length/\st2.2.length=aj.length/\H sl=some (.lst ((wI L).map V.int))/\(∀ i,i < aj.length->i ∉ L->st2.1.getD i none≠none)/\0 < L.length/\L.length<=10/\0 < aj.length/\(∀ row∈aj,∀ x∈row,-(10 ^ 42) < x/\x < 10 ^ 42)/\(∀ i,-(10 ^ 100) < st.1.getD i 0/\st.1.getD i 0 < 10 ^ 100)/\(∀ i,-(10 ^ 100) < hF st2.1 i/\hF st2.1 i < 10 ^ 100) /\
 ∀ (t tp rl pl:G5) (rows:K6) (H':Hp),Qu H H'->H' t=some (.tup [.str (Str.ofString "kept"),.ref tp,.ref pl])->Ua ak way (Xj true aj way (lvK aj.length (λi=>st.1.getD i 0) (hF st2.1) (wsum (wF aj) way - ao) L) (L.length:Int)) rows->H' tp=some (.tup [.int ((L.length:Int) / ((bw L.length rows:Nat):Int)),.ref rl])->H' rl=some (.lst ((rows.map λx=>x / ((bw L.length rows:Nat):Int)).map V.int))->Zi H' pl (Jr aj.length L st.2 st2.2)->Q (.ref t) H'
section
variable {X:Cx} {dz:G9} {σ:St} {s:G4}
theorem Qzk {kf:Int->Int}:∀ {vs:K8} {ns:K6},IntsAre vs ns->∀ p∈(ns.map kf).zip vs,p.1=kf (numOf p.2)
 | _,_,.nil,p,h=>by cases h
 | _,_,.cons n t r,p,h=>by
  rcases R3.mp h with e | e
  ·rw [e];rfl
  ·exact Qzk r p e
theorem Qf1 {kf:Int->Int} {ns:K6} {vs out:K8} (hv:Xq (ns.map V.int) vs) (h:KskOut false (ns.map kf) vs out):∃ zs:K6,zs.Perm ns/\zs.Pairwise (λa b=>kf a<=kf b)/\Xq (zs.map V.int) out:=by
 obtain ⟨ps,hp,rfl,hpw⟩:=h;have hl:=hv.length;rw [length_map] at hl;have h1:(ps.map Prod.snd).Perm vs:=by have:=hp.map Prod.snd;rw [map_snd_zip (by rw [length_map]; lia)] at this;exact this
 have hi:=Cw hv;have jo:∀ p∈ps,p.1=kf (numOf p.2):=λp hm=>Qzk hi p (hp.mem_iff.mp hm);refine ⟨(ps.map Prod.snd).map numOf,?_,?_,?_⟩
 ·have:=h1.map numOf;rw [hi.nums] at this;exact this
 ·rw [map_map,pairwise_map];refine hpw.imp_of_mem λ{a b} ha hb h=>?_;have h':a.1<=b.1:=by simpa using h
  rw [jo a ha,jo b hb] at h';exact h'
 ·have all:∀ v∈ps.map Prod.snd,∃ n t,v=Value.int n t:=λv hv'=>hi.all v (h1.mem_iff.mp hv');generalize ps.map Prod.snd=us at all;clear h1 hp
  induction us with
  | nil=>exact .nil
  | cons u r ih =>obtain ⟨n,t,rfl⟩:=all u (Q7 ..);exact .cons ⟨t,rfl⟩ (ih λv hv'=>all v (Q8 _ hv'))
variable {kf:Int->Int} {ns kz:K6} {vs:K8} {kS l q:G5} {j6:Array G3} {e e1:Nat} {A:G7} {E:K5} {P:PySem.Fin->G4->Prop}
theorem Be {st:SortSt} (J:Inv X (dz ++ [(D,seqObj "list" #[] e1),(kS,seqObj "list" j6 e)]) σ H s) (fD:Ku X dz H D) (fS:Ku X dz H kS) (hne:kS≠D) (hv:Xq (ns.map V.int) vs) (hk:IntsAre j6.toList (ns.map kf))
  (h64:vs.length < 64) (hp:(arrOf st).Perm (j6.zip vs.toArray)) (hs:SortedTo (arrOf st) (arrOf st).size) (hfl:failedOf st=none)
  (hQ:∀ (zs:K6) (s':G4),zs.Perm ns->zs.Pairwise (λa b=>kf a<=kf b)->Inv X dz σ (upd H D (.lst (zs.map V.int))) s'->P (.done (.ret .none)) s'):wpAny (model X.prog X.w) A (ksk_tail D false e1 (.ref kS) st) P E s:=by
 have pD:=J.pin (D,seqObj "list" #[] e1) (by simp);have pS:=J.pin (kS,seqObj "list" j6 e) (by simp);have lk:j6.size=vs.length:=by have:=hk.length;have h2:=hv.length;rw [length_map] at h2;rw [Array.length_toList,length_map] at this;lia
 have la:(arrOf st).size=vs.length:=by rw [hp.size_eq,Array.size_zip,lk,size_toArray,Nat.min_self]
 have lo:((arrOf st).map (·.2)).size=vs.length:=by rw [Array.size_map,la]
 have u1:=T9 s.heap kS (Obj.mapSeq λ_=>(#[]:Array G3));have pD1:(s.heap.update kS (Obj.mapSeq λ_=>(#[]:Array G3))).get? D=some (seqObj "list" #[] e1):=(u1.2 D hne.symm).trans pD.1;have u2:=T9 (s.heap.update kS (Obj.mapSeq λ_=>(#[]:Array G3))) D (Obj.mapSeq λ_=>(arrOf st).map (·.2));obtain ⟨c2,g2⟩:∃ c2,((s.heap.update kS (Obj.mapSeq λ_=>(#[]:Array G3))).update D (Obj.mapSeq λ_=>(arrOf st).map (·.2))).get? D=some (seqObj "list" ((arrOf st).map (·.2)) c2):=⟨_,Z7 pD1 λ_=>(arrOf st).map (·.2)⟩
 obtain ⟨zs,hz,hzp,hzv⟩:=Qf1 hv (ksk_out (b:=false) hk hp hs);rw [if_neg Bool.false_ne_true] at hzv;unfold ksk_tail
 try dsimp only
 refine M9 (A0j pS.1 rfl ?_ (by rw [lk,sizeLine_eq]; lia) (T3 _));refine M9 (wpAny_letGo ?_);refine M9 (seqEpoch_at pD1 rfl ?_);refine M9 (A0j pD1 rfl ?_ (T3 _) (by show ((arrOf st).map (·.2)).size<=_; rw [lo,sizeLine_eq]; lia));rw [hfl];simp only [bne_self_eq_false,Bool.false_eq_true,if_false];have J1:Inv X (dz ++ [(D,seqObj "list" #[] e1)]) σ H { s with heap:=s.heap.update kS (Obj.mapSeq λ_=>(#[]:Array G3)),toks:=s.toks } :=
  (J.sub (pl':=dz ++ [(D,seqObj "list" #[] e1)]) λp hp=>by
   rcases O6.mp hp with z | z
   ·simp [z]
   ·have:p=(D,seqObj "list" #[] e1):=by simpa using z
    simp [this]).turned (λb o hb e=>(u1.2 b hb).trans e) fS.1 fS.2.1 fS.2.2.2.1 fS.2.2.2.2.1 λp hp=>by
   rcases O6.mp hp with z | z
   ·exact fS.2.2.2.2.2 p (R8 _ z)
   ·rcases O6.mp z with z | z
    ·exact fS.2.2.2.2.2 p (Q9 _ z)
    ·have:p=(D,seqObj "list" #[] e1):=by simpa using z
     rw [this];exact hne.symm
 refine N6 (hQ zs _ hz hzp (J1.adopt (t':=s.toks) fD (λb u hb e=>(u2.2 b hb).trans e) ⟨?_,((arrOf st).map (·.2)).toList,c2,hzv,?_⟩))
 ·rw [length_map,hz.length_eq,sizeLine_eq];have:=hv.length;rw [length_map] at this;lia
 ·rw [Array.toArray_toList];exact g2
theorem Qf7 (J:Inv X (dz ++ [(D,seqObj "list" #[] e1),(kS,seqObj "list" j6 e)]) σ H s) (fD:Ku X dz H D) (fS:Ku X dz H kS) (hne:kS≠D) (hv:Xq (ns.map V.int) vs) (hk:IntsAre j6.toList (ns.map kf))
  (h64:vs.length < 64) (hQ:∀ (zs:K6) (s':G4),zs.Perm ns->zs.Pairwise (λa b=>kf a<=kf b)->Inv X dz σ (upd H D (.lst (zs.map V.int))) s'->P (.done (.ret .none)) s') :
  wpAny (model X.prog X.w) A (ksk_end D false vs.toArray e1 (.ref kS) j6) P E s:=by
 have lk:j6.size=vs.length:=by have:=hk.length;have h2:=hv.length;rw [length_map] at h2;rw [Array.length_toList,length_map] at this;lia
 have lz:(j6.zip vs.toArray).size=vs.length:=by rw [Array.size_zip,lk,size_toArray,Nat.min_self]
 unfold ksk_end
 try dsimp only
 rw [if_neg Bool.false_ne_true]
 by_cases h2:vs.toArray.size < 2
 ·rw [if_pos h2,if_pos h2];refine M9 (N6 ?_);rw [StateT.run_pure];refine M9 (N6 ?_)
  try dsimp only
  refine Be (st:=SortSt.mk' general' (if false=true then (j6.zip vs.toArray).reverse else j6.zip vs.toArray) #[] 7 none) J fD fS hne hv hk h64 (Array.Perm.refl _) ?_ rfl hQ;intro i j hij hj;have hj2:j < (j6.zip vs.toArray).size:=hj;rw [lz] at hj2;rw [size_toArray] at h2;have:i=j:=by lia
  subst this;exact Q0 _
 ·rw [if_neg h2,if_neg h2];rw [size_toArray] at h2;rw [ksk_kind hk (by rw [lk]; lia)];refine M9 (N6 ?_);refine M9 (S9 (wpS_sortRuns (a₀:=j6.zip vs.toArray) (st:=SortSt.mk' oneType' (if false=true then (j6.zip vs.toArray).reverse else j6.zip vs.toArray) #[] 7 none)
   (Q:=λ_ st'=>(arrOf st').Perm (j6.zip vs.toArray)/\failedOf st'=none/\SortedTo (arrOf st') (j6.zip vs.toArray).size)
   (ksk_intKeys hk) ⟨Array.Perm.refl _,rfl,rfl,rfl⟩ (by rw [lz]; lia) (by rw [lz]; exact h64) λst' a1 a2 a3=>⟨a1,a2,a3⟩) ?_ λ_ _ z=>z)
  rintro ⟨⟨⟩,st'⟩ s' ⟨rfl,hp,hf,hs⟩
  try dsimp only
  exact Be J fD fS hne hv hk h64 hp (by rw [hp.size_eq]; exact hs) hf hQ
theorem Qy4 (J:Inv X (dz ++ [(D,seqObj "list" #[] e1),(kS,seqObj "list" #[] 0)]) σ H s) (fD:Ku X dz H D) (fS:Ku X dz H kS) (hne:kS≠D) (hv:Xq (ns.map V.int) vs) (h64:vs.length < 64)
  (turn:∀ z∈ns,∀ (t:Tok) (pl:G9) (s:G4),(∀ p∈dz,p∈pl)->Inv X pl σ H s->wpAny (model X.prog X.w) A (call (.ref q) [.int z t]) (EP X pl σ λy H'=>y=.int (kf z)/\H'=H) (λ_ _=>False) s)
  (hQ:∀ (zs:K6) (s':G4),zs.Perm ns->zs.Pairwise (λa b=>kf a<=kf b)->Inv X dz σ (upd H D (.lst (zs.map V.int))) s'->P (.done (.ret .none)) s') :
  wpAny (model X.prog X.w) A (ksk_rest D (.ref q) false vs.toArray e1 (.ref kS)) P E s:=by
 unfold ksk_rest;refine M9 (wpAny_rule ?_)
 first
  | rw [forIn_toArray]
  | (rw [<- Array.forIn_toList]; simp only [toList_toArray])
 refine M9 (ksk_fold (λi s' => ∃ kA e,Inv X (dz ++ [(D,seqObj "list" #[] e1),(kS,seqObj "list" kA e)]) σ H s'/\IntsAre kA.toList ((ns.take i).map kf)) vs 0 s ⟨#[],0,J,IntsAre.nil⟩ ?step ?done)
 case step =>
  rintro j x s' hx ⟨kA,e,J',hk⟩;rw [Nat.zero_add] at hk;have hj:j < vs.length:=(N8.mp hx).1;have hlv:=hv.length;rw [length_map] at hlv;have hjn:j < ns.length:=by lia
  obtain ⟨u,hu,t,hut⟩:=hv.get (i:=j) (x:=.int ns[j]) (by simp [hjn]);rw [hx] at hu;cases hu;subst hut;refine M9 (A0q (S9 (turn _ (N7 hjn) t _ _ (λp hp=>R8 _ hp) J') (λv s'' he=>?_) λ_ _ hF=>hF.elim));obtain ⟨y,H',J2,ry,rfl,rfl⟩:=he;generalize hkk:kf ns[j]=k at *;obtain ⟨t2,rfl⟩:=ry
  try dsimp only
  have pS:=J2.pin (kS,seqObj "list" kA e) (by simp);have ka:kA.size=j:=by have:=hk.length;rw [Array.length_toList,length_map,length_take] at this;lia
  have u1:=T9 s''.heap kS (Obj.mapSeq (·.push (.int k t2)));obtain ⟨c2,g2⟩:∃ c2,(s''.heap.update kS (Obj.mapSeq (·.push (.int k t2)))).get? kS=some (seqObj "list" (kA.push (.int k t2)) c2):=⟨_,Z7 pS.1 (·.push (.int k t2))⟩
  refine M9 (A0j pS.1 rfl ?_ (by rw [sizeLine_eq]; lia) (by show (kA.push _).size<=_; rw [Array.size_push,sizeLine_eq]; lia));have J3:=J2.turn1 (t':=s''.toks) (pl':=dz ++ [(D,seqObj "list" #[] e1)]) (it:=kS) ⟨fS.1,fS.2.1,fS.2.2.1,fS.2.2.2.1,fS.2.2.2.2.1,λp hp=>fS.2.2.2.2.2 p (by
   rcases O6.mp hp with z | z
   ·exact R8 _ z
   ·cases z)⟩ (λp hp=>by
   rcases O6.mp hp with z | z
   ·exact ⟨by simp [z],fS.2.2.2.2.2 p (Q9 _ z)⟩
   ·have:p=(D,seqObj "list" #[] e1):=by simpa using z
    rw [this];exact ⟨by simp,hne.symm⟩) (λb o hb z=>(u1.2 b hb).trans z) g2 (λw z=>by cases z)
  refine N6 ⟨rfl,kA.push (.int k t2),c2,J3.sub λp hp=>?_,?_⟩
  ·simp only [mem_append,mem_cons,not_mem_nil,or_false] at hp ⊢;rcases hp with h | h | h <;> simp [h]
  ·have ea:(kA.push (Value.int k t2)).toList=kA.toList ++ [Value.int k t2]:=by simp
   have et:ns.take (j + 1)=ns.take j ++ [ns[j]]:=by rw [take_succ]; simp [hjn]
   rw [ea,Nat.zero_add,et,map_append,map_cons,map_nil,hkk];exact ksk_snoc hk
 case done =>
  rintro s' ⟨kA,e,J',hk⟩;have hlv:=hv.length;rw [length_map] at hlv;rw [<- hlv,Nat.zero_add,take_length] at hk;have pS:=J'.pin (kS,seqObj "list" kA e) (by simp)
  try dsimp only
  refine M9 (listItems_at pS.1 rfl ?_);exact Qf7 J' fD fS hne hv hk h64 hQ
theorem Sq {Q:K5} (J:Inv X dz σ H s) (v0:G3) (h64:ns.length < 64)
  (turn:∀ z∈ns,∀ (t:Tok) (pl:G9) (s:G4),(∀ p∈dz,p∈pl)->Inv X pl σ H s->wpAny (model X.prog X.w) X.A.in1.in1 (call (.ref q) [.int z t]) (EP X pl σ λy H'=>y=.int (kf z)/\H'=H) (λ_ _=>False) s)
  (hcol:∀ (Q':List G3->G4->Prop) (E':K5),(∀ its s1,Xq (ns.map V.int) its->Inv X dz σ H s1->Q' its s1)->wpAny (model X.prog X.w) X.A.in1 (collect v0) Q' E' s)
  (hQ:∀ (D:G5) (zs:K6) (s':G4),zs.Perm ns->zs.Pairwise (λa b=>kf a<=kf b)->H D=none->Inv X dz σ (upd H D (.lst (zs.map V.int))) s'->Q (.ref D) s') :
  wpAny (model X.prog X.w) X.A (call (.builtin "sorted") [v0] [(Str.ofString "key",.ref q)]) Q E s:=by
 refine call_function_entry_kw kind_sorted plain_sorted entry_sorted (ksk_s1 _ _) ?_;unfold Builtin.«sorted»;refine M9 (m:=checkCount "sorted" 1 1 _) (N6 ?_);refine M9 (hcol _ _ λits s1 rv J1=>?_);have hl:its.length=ns.length:=by have:=rv.length; simpa using this.symm
 clear J;have J:=J1;clear J1;refine M9 (A0o ?_ (by rw [sizeLine_eq]; lia));have keep:∀ b o,s1.heap.get? b=some o->(s1.heap.push (seqObj "list" its.toArray 0)).get? b=some o:=λb o w=>O3 _ w;have oD:(s1.heap.push (seqObj "list" its.toArray 0)).get? s1.heap.objs.size=some (seqObj "list" its.toArray 0):=Q5 _ rfl;have zH:(s1.heap.push (seqObj "list" its.toArray 0)).objs.size=s1.heap.objs.size + 1:=size_push' _ _;show wpAny _ _ _ _ _ { s1 with heap:=s1.heap.push (seqObj "list" its.toArray 0) };generalize s1.heap.push (seqObj "list" its.toArray 0)=hh at *;refine M9 (U5 (wpAny_call_entry_kw slot_list_sort ⟨_,oD,rfl⟩ entry_list_sort ?body (ksk_l1 _ _)))
 case body =>
  show wpAny (model X.prog X.w) X.A.in1.in1 (Builtin.«list.sort» ⟨[.ref (s1.heap.objs.size)],[(Str.ofString "key",.ref q)]⟩) _ _ _;rw [ksk_t1];have u1:=T9 hh (s1.heap.objs.size) (Obj.mapSeq λ_=>(#[]:Array G3));obtain ⟨e1,g1⟩:∃ e1,(hh.update (s1.heap.objs.size) (Obj.mapSeq λ_=>(#[]:Array G3))).get? (s1.heap.objs.size)=some (seqObj "list" #[] e1):=⟨_,Z7 oD λ_ => #[]⟩
  unfold ksk_tree;refine M9 (listItems_at oD rfl ?_);refine M9 (A0j oD rfl ?_ (by rw [size_toArray,sizeLine_eq]; lia) (T3 _));refine M9 (seqEpoch_at g1 rfl ?_);refine M9 (wpAny_newTuple ?_ (by show its.length<=_; rw [sizeLine_eq]; lia));refine M9 (A0o ?_ (T3 _));refine U5 ?_;have zS:((hh.update (s1.heap.objs.size) (Obj.mapSeq λ_=>(#[]:Array G3))).push (seqObj "tuple" its.toArray 0)).objs.size=s1.heap.objs.size + 2:=by rw [size_push',Heap.size_update,zH]
  have kp:∀ b o,s1.heap.get? b=some o->(((hh.update (s1.heap.objs.size) (Obj.mapSeq λ_=>(#[]:Array G3))).push (seqObj "tuple" its.toArray 0)).push (seqObj "list" #[] 0)).get? b=some o:=λb o w =>O3 _ (O3 _ ((u1.2 b (O9 (O5 w))).trans (keep b o w)))
  have gD:(((hh.update (s1.heap.objs.size) (Obj.mapSeq λ_=>(#[]:Array G3))).push (seqObj "tuple" its.toArray 0)).push (seqObj "list" #[] 0)).get? (s1.heap.objs.size)=some (seqObj "list" #[] e1):=O3 _ (O3 _ g1);have gS:(((hh.update (s1.heap.objs.size) (Obj.mapSeq λ_=>(#[]:Array G3))).push (seqObj "tuple" its.toArray 0)).push (seqObj "list" #[] 0)).get? ((hh.update (s1.heap.objs.size) (Obj.mapSeq λ_=>(#[]:Array G3))).push (seqObj "tuple" its.toArray 0)).objs.size=some (seqObj "list" #[] 0):=Q5 _ rfl;have fD:=J.fpOk (H':=H) (b:=s1.heap.objs.size) (O7 _) (J.hok.fresh (O7 _));have fS:=J.fpOk (H':=H) (b:=s1.heap.objs.size + 2) (by lia) (J.hok.fresh (by lia));have J0:=J.kept (t':=s1.toks) kp;rw [zS] at gS;show wpAny _ _ (ksk_rest (s1.heap.objs.size) (.ref q) false its.toArray e1 (.ref ((hh.update (s1.heap.objs.size) (Obj.mapSeq λ_=>(#[]:Array G3))).push (seqObj "tuple" its.toArray 0)).objs.size)) _ _ _;rw [zS];refine Qy4 (kf:=kf) (J0.dg λp hp=>?_) fD fS (by show @Ne Nat _ _; lia) rv (by lia) turn λzs s' hp hpw J'=>⟨_,rfl,?_⟩
  ·rcases O6.mp hp with z | z
   ·exact J0.pin p (Q9 _ z)
   ·simp only [mem_cons,not_mem_nil,or_false] at z;rcases z with z | z
    ·subst z;exact ⟨gD,fD.1,fD.2.1,fD.2.2.1,λv z=>by cases z⟩
    ·subst z;exact ⟨gS,fS.1,fS.2.1,fS.2.2.1,λv z=>by cases z⟩
  ·exact N6 ⟨_,rfl,hQ _ zs s' hp hpw fD.1 J'⟩
end
theorem Mh {prog:G8} {w:World} {A:G7} {E:K5} {s:G4} {r:G5} {a b c:Int} {t u v:Tok} {Q:List G3->G4->Prop} (hh:A.handled=none) (hr:IsRange s.heap r a b c t u v) (hsmall:Builtin.Range.small a b c=true)
  (hn:Builtin.Range.rangeSize a b c=n) (fu:n<=2 ^ 24) (h:∀ h' tk (acc:Array G3),(∀ b o,s.heap.get? b=some o->h'.get? b=some o)->ItemsOf (λi v => ∃ t,v=.int (a + i * c) t) acc n->Q acc.toList { s with heap:=h',toks:=tk }) :
  wpAny (model prog w) A (collect (.ref r)) Q E s:=by
 unfold collect;refine M9 (wpAny_runValue (W2 F.entry_proto_collect ?_));rw [Around.under_plainId F.plain_proto_collect _];show wpAny _ A.in1 (newList [] >>= λl=>again (.builtin "list.__iadd__" ⟨[l,.ref r],[]⟩)) _ _ s;refine M9 (V2 ?_);refine N6 ⟨X5 F.plain_list_iadd _,W2 F.entry_list_iadd ?_⟩;rw [Around.under_plainId F.plain_list_iadd _];show wpAny _ A.in1 (Builtin.List.listExtendWith (.ref s.heap.objs.size) (.ref r) (.ref s.heap.objs.size)) _ _ _;have hS₁:(s.heap.push { cls:=.type "list",data:=.seq ([]:K8).toArray }).get? s.heap.objs.size=some { cls:=.type "list",data:=.seq #[] 0 }:=Q5 _ rfl;have hr₁:IsRange (s.heap.push { cls:=.type "list",data:=.seq ([]:K8).toArray }) r a b c t u v:=O3 _ hr;refine wpAny_extend_range (R:=λr s'=>match r with
  | .ok (.ret v)=>wpAny (model prog w) A (match v with
   | .ref a=>do
    let o <- load a
    match o.data with
    | .seq xs _=>pure xs.toList
    | _=>unsupported "internal:collect"
   | _=>unsupported "internal:collect") Q E s'
  | .ok _=>False
  | .error e=>E e s') (A:=A) (s:={ s with heap:=s.heap.push { cls:=.type "list",data:=.seq ([]:K8).toArray } }) hh hr₁ hsmall hn fu s.heap.objs.size _ 0 hS₁ λh' tk acc' c' hk hS' hacc=>?_
 show wpAny _ A (load s.heap.objs.size >>= _) _ _ _;refine M9 (wpAny_load hS' ?_);exact N6 (h h' tk acc' (λb o e=>hk b o (O9 (O5 e)) (O3 _ e)) hacc)
section
variable {X:Cx} {c P:G5} {scope:Scope} {params:Arguments} {body:Expr} {bh:Pos}
def Qvz (P:G5) (bh:Pos) (qual:Str) (ix:K3) (t1:TE) (te:TE):TE:=λσ H Q=>t1 σ H λx H1 => ∃ (n:Nat) (kf:Int->Int),x=.int n/\n < 64/\Qe H1 P bh qual /\
 (∀ i:Nat,i < n->∀ H2,Qc H1 H2->te (some (.int (i:Int)) :: cSt σ ix) H2 λy H3=>y=.int (kf (i:Int))/\H3=H2) /\
 ∀ (D:G5) (zs:K6) (H2:Hp),zs.Perm ((range n).map λ(i:Nat)=>(i:Int))->zs.Pairwise (λa b=>kf a<=kf b)->Qc H1 H2->Yl P H1 H2->Qe H2 P bh qual->H2 D=none->Q (.ref D) (upd H2 D (.lst (zs.map V.int)))
theorem Sy {e:Expr} {p p' pos j5 kpos:Pos} {x:Str} {Nc:M6} {ix:K3} {t1 te:TE} (C:PySem.W.codeHdIn X.K c P=true) (BA:X.base.BuiltinsAt X.mg P) (jm:X.env.code=.ref c) (hc:X.calm=true) (hm:X.mg "sorted" = none) (hgr:Gl X "range") (hmr:X.mg "range" = none) (jh:X.A.depth < recursionLimit)
  (ha:PE X e t1) (he:∀ L f cd s0 H0,PE (Ik X.in1 (X.env.qual ++ "<lambda>") scope L f cd s0 H0 (x :: Nc)) body te)
  (ok:Yu scope X.env.scope=true) (hix:Fg scope X.N (x :: Nc) (none :: ix)=true) (hx:scope.names.lookup x=some .local) (hco:scope.isCoroutine=false) (nj:scope.isGenerator=false)
  (nq:defaultsOf params X.env=([],[])) (ji:∀ (cl:List (Str × G5)) (pm cd ctv u:G3),bindArgs (PySem.W.kla_fn "<lambda>" (X.env.qual ++ "<lambda>") params body scope cl pm cd ctv) ⟨[u],[]⟩=pure [(x,u)]) (hg:Gl X "sorted") (h1:starEach [.Call (.Name "range" p') [e] [] j5] X.env=[(false,eval (.Call (.Name "range" p') [e] [] j5) X.env)]) (h2:starEach [e] X.env=(false,eval e X.env) :: starEach [] X.env:=by rfl) :
  PE X (.Call (.Name "sorted" p) [.Call (.Name "range" p') [e] [] j5] [⟨some "key",.Lambda params body scope bh,kpos⟩] pos) (Qvz P bh (X.env.qual ++ "<lambda>") ix t1 te):=by
 intro dz s σ H Q I h;refine V3 (Uw I hg hm Hd ?_);refine PyProof.Rows.callWith_kw ?_ (by rw [h1]; rfl) (by rw [h1]; rfl);rw [h1];refine X8 ?_;refine V3 (Uw I hgr hmr boot_range ?_ (by decide) (by decide));refine W9 ?_ h2 rfl;rw [h2];refine X8 (thn (ha dz s σ H _ I h) λu s1 ⟨y,H1,I1,r1,n,kf,e1,hn64,hL,hk,hQ⟩=>?_);subst e1;obtain ⟨tk,rfl⟩:=r1;refine X7 (call_range_1 (X7 ?_));have hs:Builtin.Range.rangeSize 0 (n:Int) 1=n:=by
  unfold Builtin.Range.rangeSize;simp only [show (1:Int) > 0 by decide,if_true]
  split <;> lia
 have hsm:Builtin.Range.small 0 (n:Int) 1=true:=by
  unfold Builtin.Range.small;rw [hs];have f:∀ z:Int,0<=z->z<=1000->Builtin.Range.rangeFitsLong z=true:=λz h0 h1=>by unfold Builtin.Range.rangeFitsLong;simp;lia
  rw [f 0 (by lia) (by lia),f (n:Int) (by lia) (by lia),f 1 (by lia) (by lia)];simp only [show (1:Int) > 0 by decide,if_true];rw [show ((n:Int) + (1 - 1))=(n:Int) by lia,f (n:Int) (by lia) (by lia)];simp
 have hr0:(s1.heap.push { cls:=.type "range",data:=.fields #[.int 0 s1.toks,.int (n:Int) tk,.int 1 (s1.toks + 1)] }).get? s1.heap.objs.size=some { cls:=.type "range",data:=.fields #[.int 0 s1.toks,.int (n:Int) tk,.int 1 (s1.toks + 1)] }:=Q5 _ rfl;have fR:=I1.fpOk (H':=H1) (b:=s1.heap.objs.size) (O7 _) (I1.hok.fresh (O7 _));have J0:=I1.kept (t':=s1.toks + 1 + 1) (h':=s1.heap.push { cls:=.type "range",data:=.fields #[.int 0 s1.toks,.int (n:Int) tk,.int 1 (s1.toks + 1)] }) λb o w=>O3 _ w;have J1:Inv X (dz ++ [(s1.heap.objs.size,{ cls:=.type "range",data:=.fields #[.int 0 s1.toks,.int (n:Int) tk,.int 1 (s1.toks + 1)] })]) σ H1 { s1 with heap:=s1.heap.push { cls:=.type "range",data:=.fields #[.int 0 s1.toks,.int (n:Int) tk,.int 1 (s1.toks + 1)] },toks:=s1.toks + 1 + 1 }:=J0.dg λp hp=>by
  rcases O6.mp hp with z | z
  ·exact J0.pin p (Q9 _ z)
  ·have e:p=(s1.heap.objs.size,{ cls:=.type "range",data:=.fields #[.int 0 s1.toks,.int (n:Int) tk,.int 1 (s1.toks + 1)] }):=by simpa using z
   subst e;exact ⟨hr0,fR.1,fR.2.1,fR.2.2.1,λv z=>by cases z⟩
 show wpAny _ _ (evalAll [(do let v <- eval (.Lambda params body scope bh) X.env; standAt pos; pure v)]) _ _ _;refine wpAny_evalAll_cons (M9 (Ba J1 ok jm C BA nq hL λf c' pm ctv H2 s2 I2 hrec sb so hL2=>M9 (A0a (N6 (wpAny_evalAll_nil ?_)))));have hrr:IsRange s2.heap s1.heap.objs.size 0 (n:Int) 1 s1.toks tk (s1.toks + 1):=(I2.pin _ (Q9 _ (R8 _ (Q9 dz Q7)))).1;refine Sq (kf:=kf) (ns:=(range n).map λ(i:Nat)=>(i:Int)) I2 (.ref s1.heap.objs.size) (by rw [length_map,length_range]; exact hn64) (λz hz t pl s3 hpl I3=>?_) (λQ' E' hq=>?_) λD zs s3 hp hpw hD I3=>?_
 ·obtain ⟨i,hi,rfl⟩:=O8.mp hz;have hpin:=I3.pin _ (Q9 _ (hpl _ (Q9 _ Q7)));obtain ⟨oc,vs',t',h4,h5,h6⟩:=hrec;have hcd:s3.heap.CodeRec (.ref c') (X.env.qual ++ "<lambda>"):=⟨c',oc,vs',t',rfl,(I3.hok c' _ h4).1,h5,h6⟩
  refine thn (As (X:=X.in1) I3.in1 hc ok hix hx hco nj hpin.1 hcd jh (λu=>ji _ _ _ _ u) (v:=.int (i:Int)) ⟨t,rfl⟩ he (hk i (O1.mp hi) H2 sb)) λv s4 ⟨y,H',J',ry,q'⟩=>⟨y,H',J'.out1,ry,q'⟩
 ·refine Mh (A:=X.A.in1) (I2.ok.hd hc) hrr hsm hs (by lia) λh' tk' acc hkp hacc=>?_;refine hq _ _ ?_ (I2.kept (t':=tk') hkp);have key:∀ (us:K8) (k:Nat),(∀ (i:Nat) u,us[i]? = some u->∃ t,u=Value.int ((k + i:Nat):Int) t)->Xq ((range' k us.length).map λ(i:Nat)=>V.int (i:Int)) us:=by
   intro us
   induction us with
   | nil=>intro k _; exact .nil
   | cons u r ih =>intro k h;obtain ⟨t,e⟩:=h 0 u rfl;refine .cons ⟨t,e⟩ (ih (k + 1) λi v hv=>?_);obtain ⟨t,e⟩:=h (i + 1) v (by simpa using hv);exact ⟨t,by rw [e,show ((k + 1 + i:Nat):Int)=((k + (i + 1):Nat):Int) by lia]⟩
  have:=key acc.toList 0 λi u hu=>by obtain ⟨t,e⟩:=hacc.2 i u (by simpa using hu);exact ⟨t,by rw [e,show (0:Int) + (i:Int) * 1=((0 + i:Nat):Int) by lia]⟩
  rw [Array.length_toList,hacc.1,<- range_eq_range'] at this;rw [map_map];exact this
 ·exact ⟨.ref D,_,I3.sub λp hp=>R8 _ (R8 _ hp),rfl,hQ D zs H2 hp hpw sb so hL2 hD⟩
end
theorem Gm {k:Nat}:Ds xs none (some (k:Int))=xs.take k:=by
 unfold Ds;rw [HT.sIx_none,HT.sIx_nat,Nat.sub_zero,drop_zero]
 by_cases h:k<=xs.length
 ·rw [Nat.min_eq_left h]
 ·rw [Nat.min_eq_right (by lia),take_of_length_le (Nat.le_refl _),take_of_length_le (by lia)]
def Ho (od:K7) (k:Nat):((wI od).map V.int).take k=(wI (od.take k)).map V.int:=by unfold wI;rw [<- map_take,<- map_take]
def Qpj {zs:K6} (h:zs.Perm ((range n).map λ(i:Nat)=>(i:Int))):∃ od:K7,od.Perm (range n)/\zs=wI od:=by
 refine ⟨zs.map Int.toNat,?_,?_⟩
 ·have:=h.map Int.toNat;rw [map_map] at this;have e:(range n).map (Int.toNat ∘ λ(i:Nat)=>(i:Int))=range n:=by
   conv=>rhs; rw [<- map_id (range n)]
   exact R9 λi _=>by simp
  rw [e] at this;exact this
 ·unfold wI;rw [map_map]
  conv=>lhs; rw [<- map_id zs]
  refine R9 λz hz=>?_;obtain ⟨i,_,rfl⟩:=O8.mp (h.mem_iff.mp hz);simp
def Qw5:Sp:=λvs H Q _ => ∃ (a b:G5) (n p m r:Int),vs=[.ref a,.ref b]/\H a=some (.tup [.int n,.int p])/\H b=some (.tup [.int m,.int r])/\(-(10 ^ 150) < n/\n < 10 ^ 150)/\(-(10 ^ 150) < p/\p < 10 ^ 150)/\(-(10 ^ 150) < m/\m < 10 ^ 150)/\(-(10 ^ 150) < r/\r < 10 ^ 150)/\Q (.bl (decide (n * r < m * p))) H
def Qbz (CH CW PL:G5) (bh:Pos) (qual:Str):Sp:=λvs H Q _ => ∃ (p gl hl:G5) (ak:K6) (aj:J7) (ao:Int) (way:K7) (gs:K6) (hs:K1),vs=[.ref p,.ref gl,.ref hl]/\Xd CH CW H p ak aj ao way/\Qn ak aj way/\H gl=some (.lst (gs.map V.int))/\gs.length=aj.length/\H hl=some (.lst (hs.map oV))/\hs.length=aj.length/\(∀ i,i < aj.length->hs.getD i none≠none)/\0 < aj.length/\Qe H PL bh qual/\(∀ S,-(10 ^ 150) < wsum (wF aj) way - ao - Vn aj.length (λi=>gs.getD i 0) (hF hs) S/\wsum (wF aj) way - ao - Vn aj.length (λi=>gs.getD i 0) (hF hs) S < 10 ^ 150)/\((range aj.length).map (hF hs)).sum<=wsum (wF aj) way - ao /\
 ∀ (l:G5) (L:K7) (H':Hp),Qc H H'->Yl PL H H'->Qe H' PL bh qual->H' l=some (.lst ((wI L).map V.int))->Kept aj.length (λi=>gs.getD i 0) (hF hs) (wsum (wF aj) way - ao) L->L.length<=10->Q (.ref l) H'
theorem Qrq {od:K7} {c:Nat} (hod:od.Perm (range n)) (jw:od.Pairwise λa b=>h a - g a<=h b - g b) (jb:((range n).map h).sum<=W) (l:Ui n g h W od n c):Kept n g h W (od.take c):=by
 have hl:od.length=n:=by rw [hod.length_eq,length_range]
 have hnd:od.Nodup:=hod.nodup_iff.mpr nodup_range;have hlt:∀ i∈od,i < n:=λi hi=>O1.mp (hod.mem_iff.mp hi);have iz:∀ i,i < n->i∈od:=λi hi=>hod.mem_iff.mpr (O1.mpr hi);have hck:=l.ck;have fu:(od.take c).length=c:=by rw [length_take]; lia
 obtain ⟨h1,h2⟩:=l.split hnd hlt iz jw hl jb;refine ⟨List.Sublist.nodup (take_sublist _ _) hnd,λi hi=>hlt i (mem_of_mem_take hi),by rw [fu]; exact l.c1,λi hi=>?_,λi hi hni=>?_⟩
 ·rw [fu];exact h1 i hi
 ·rw [fu];exact h2 i hi hni
structure Qz8 (ak:K6) (aj:J7) (way:K7) (ps:K1) (rows:List (M5 × List Xy)) (as:K6):Prop where
 l1:rows.length=aj.length
 l2:as.length=aj.length
 at_:∀ i,i < aj.length->Qg2 ak aj way ps (rows.getD i (none,[])).1 (rows.getD i (none,[])).2 i=some (as.getD i 0)
 bd:∀ a∈as,-(10 ^ 50) < a/\a < 10 ^ 50
def c7 (rows:List (M5 × List Xy)):Nat:=(rows.filter λr=>r.1.isNone).length
structure Fm (ak:K6) (aj:J7) (ao:Int) (way:K7) (ps:K1) (k:Int) (R:K6) (rows:List (M5 × List Xy)):Prop where
 k1:0 < k/\k<=10
 len:R.length=ak.length
 low:bw k.natAbs R=1
 fair:Fp.is ⟨ak,aj,ao,way,k,R⟩ .none
 purse:∀ i x,i < aj.length->ps.getD i none=some x->R.getD (way.getD i 0) 0<=k * x
 cheap:∀ r,r < ak.length->r ∉ way->Yg (R.getD r 0) (way.map λq=>R.getD q 0)
 pap:∃ (as:K6) (m:Int),Qz8 ak aj way ps rows as/\0 < c7 rows/\c7 rows<=10/\Yg m ((range aj.length).map λi=>k * Zr aj way i - R.getD (way.getD i 0) 0)/\m * (c7 rows:Int)=k * (wsum (wF aj) way - ao - as.sum)
structure De (ak:K6) (aj:J7) (ao:Int) (way:K7) (ps:K1) (rows:List (M5 × List Xy)):Prop where
 pap:∃ as:K6,Qz8 ak aj way ps rows as/\c7 rows=0/\wsum (wF aj) way - ao < as.sum
theorem Qb0 (ok:Qn ak aj way) {a b r:Nat} (ha:a < aj.length) (h:(r:Int)∈Zd true ak way a b):r < ak.length:=by
 unfold Zd at h;rcases O6.mp h with z | z
 ·unfold Yw at z;obtain ⟨q,hq,e⟩:=O8.mp z;have:=O1.mp (U3.mp hq).1;lia
 ·have e:(r:Int)=((way.getD a 0:Nat):Int):=by simpa using z
  have:=(ok.at_ ha).2;lia
theorem Qt8 {s:Nat} {c:List Hop} (h:ChS aq s c i):Fb (c.map Ug) i=(s:Int):=by
 have:∀ {c:List Hop} {i:Nat},ChS aq s c i->(c=[]/\i=s)\/∃ m c',c=m :: c'/\m.1=s:=by
  intro c i h
  induction h with
  | nil=>exact .inl ⟨rfl,rfl⟩
  | @snoc c a r b h1 h2 ih =>
   rcases ih with ⟨rfl,rfl⟩ | ⟨m,c',rfl,e⟩
   ·exact .inr ⟨_,[],rfl,rfl⟩
   ·exact .inr ⟨m,c' ++ [(a,r,b)],rfl,e⟩
 rcases this h with ⟨rfl,rfl⟩ | ⟨m,c',rfl,e⟩
 ·rfl
 ·show ((m.1:Nat):Int)=_;rw [e]
theorem Em (hx:∀ row∈aj,∀ x∈row,-(10 ^ 42) < x/\x < 10 ^ 42) {c:List Hop} (hl:c.length<=5000):-(10 ^ 46)<=wt (gnF true aj way) c/\wt (gnF true aj way) c<=10 ^ 46:=by
 have h:=Qd7 (Qm7 hx true way) c;have:(c.length:Int) * (2 * 10 ^ 42)<=5000 * (2 * 10 ^ 42):=U8 (by lia) (by decide);have e:(5000:Int) * (2 * 10 ^ 42)=10 ^ 46:=by decide
 lia
theorem Nv (hx:∀ row∈aj,∀ x∈row,-(10 ^ 42) < x/\x < 10 ^ 42) (i:Nat):-(10 ^ 42)<=Zr aj way i/\Zr aj way i<=10 ^ 42:=by have:=Qz2 hx i (way.getD i 0);unfold Zr;lia
theorem Ex {c:List (List Hop)} {N:Nat} (h:∀ x∈c,x.length<=N) (i:Nat):(c.getD i []).length<=N:=by
 by_cases hi:i < c.length
 ·rw [getD_eq_getElem?_getD,getElem?_eq_getElem hi];exact h _ (N7 hi)
 ·rw [getD_eq_getElem?_getD,getElem?_eq_none (by lia)];simp
theorem Cg (hx:∀ row∈aj,∀ x∈row,-(10 ^ 42) < x/\x < 10 ^ 42) (h:Dx ak aj way aq ps st) (cb:∀ c∈st.2,c.length<=5000) (pb:∀ i x,ps.getD i none=some x->-(10 ^ 42) < x/\x < 10 ^ 42) (i:Nat):-(10 ^ 47) < hF st.1 i/\hF st.1 i < 10 ^ 47:=by
 unfold hF;cases e:st.1.getD i none with
 | none=>exact ⟨by decide,by decide⟩
 | some z =>
  have hi:i < aj.length:=by refine R6 λy=>?_;rw [getD_eq_getElem?_getD,getElem?_eq_none (by have:=h.l1; lia)] at e;cases e
  obtain ⟨s,x,h1,h2,h3,h4⟩:=h.row i z hi e;have a:=Em (way:=way) hx (Ex cb i);have b:=Nv (way:=way) hx s;have c:=pb s x h2;show -(10 ^ 47) < z/\z < 10 ^ 47;lia
structure Cf (ak:K6) (aj:J7) (way:K7) (W:Int) (ps:K1) (g:Nat->Int) (hs:K1) (L:K7) (h:Nat->Int):Prop where
 kept:Kept aj.length g h W L
 eq:∀ i,i < aj.length->i ∉ L->h i=hF hs i
 some_:∀ i,i < aj.length->i ∉ L->hs.getD i none≠none
 cl:∀ a b r:Nat,a < aj.length->b < aj.length->a≠b->(r:Int)∈Zd true ak way a b->h a + Zs true aj way a r b<=h b
 purse:∀ i x,i < aj.length->ps.getD i none=some x->Zr aj way i - x<=h i
theorem Qkw {hs:K1} (l0:0 < aj.length) (hno:∀ i,i < aj.length->ps.getD i none=none) (hg:∀ a b r:Nat,a < aj.length->b < aj.length->a≠b->(r:Int)∈Zd true ak way a b->g a + Zs true aj way a r b<=g b):∃ h,Cf ak aj way W ps g hs (range aj.length) h:=by
 obtain ⟨c,hc⟩:=Kept.all g W l0;refine ⟨_,hc,λi hi hn=>absurd (O1.mpr hi) hn,λi hi hn=>absurd (O1.mpr hi) hn,λa b r ha hb hab hr=>?_,λi x hi e=>?_⟩
 ·have:=hg a b r ha hb hab hr;show g a - c + Zs true aj way a r b<=g b - c;lia
 ·rw [hno i hi] at e;cases e
theorem Oc (ok:Qn ak aj way) (hd:Dx ak aj way aq ps st) (iz:∀ i,i < aj.length->st.1.getD i none≠none) (k:Kept aj.length g (hF st.1) W L):Cf ak aj way W ps g st.1 L (hF st.1):=by
 have hv:∀ i,i < aj.length->st.1.getD i none=some (hF st.1 i):=λi hi=>by
  unfold hF;cases e:st.1.getD i none with
  | none=>exact absurd e (iz i hi)
  | some z=>rfl
 refine ⟨k,λ_ _ _=>rfl,λi hi _=>iz i hi,λa b r ha hb hab hr=>?_,λi x hi e=>?_⟩
 ·obtain ⟨y,e,hy⟩:=hd.cl a b r _ ha hb hab (Qb0 ok ha hr) hr (hv a ha);rw [hv b hb] at e;cases e;exact hy
 ·obtain ⟨y,e2,hy⟩:=hd.own i x hi e;rw [hv i hi] at e2;cases e2;exact hy
def Vc {cs cs2:List (List Hop)} (hnd:L.Nodup) (hlt:∀ i∈L,i < n):c7 (Jr n L cs cs2)=L.length:=by
 unfold c7 Jr;rw [filter_map,length_map];have e:((range n).filter ((λr:M5 × List Xy=>r.1.isNone) ∘ Pd L cs cs2))=(range n).filter λi=>decide (i∈L):=A0v λi _=>by
  show (Pd L cs cs2 i).1.isNone=_;unfold Pd
  by_cases hm:i∈L
  ·rw [if_pos hm,decide_eq_true hm]; rfl
  ·rw [if_neg hm,decide_eq_false hm]; rfl
 rw [e];refine List.Perm.length_eq ((perm_ext_iff_of_nodup (List.Nodup.sublist filter_sublist nodup_range) hnd).mpr λa=>?_);rw [mem_filter,mem_range];exact ⟨λz=>Q6 z.2,λz=>⟨hlt a z,P0 z⟩⟩
def Quq {h':Nat->Int} (e:∀ i,i < n->i ∉ L->h i=h' i):Vn n g h L=Vn n g h' L:=by
 unfold Vn
 congr 1
 exact R9 λi hi=>by
  by_cases hm:i∈L
  ·rw [if_pos hm,if_pos hm]
  ·rw [if_neg hm,if_neg hm]; exact e i (O1.mp hi) hm
def Qkv {h':Nat->Int} (e:∀ i,i < n->i ∉ L->h i=h' i):lvK n g h W L=lvK n g h' W L:=by
 unfold lvK;rw [Quq e];exact R9 λi hi=>by
  by_cases hm:i∈L
  ·rw [if_pos hm,if_pos hm]
  ·rw [if_neg hm,if_neg hm,e i (mem_range.mp hi) hm]
section
variable {jk:List Hop} {st:TC} {st2:THO} {rows:K6}
theorem Bd (jx:Xl true ak aj way jk) (hd:Dx ak aj way jk ps st2) (hi:i < aj.length) (hne:st2.1.getD i none≠none):Qg2 ak aj way ps (some (Fb ((st2.2.getD i []).map Ug) i)) ((st2.2.getD i []).map Ug) i=some (hF st2.1 i):=by
 cases e:st2.1.getD i none with
 | none=>exact absurd e hne
 | some z =>obtain ⟨s,x,h1,h2,h3,h4⟩:=hd.row i z hi e;unfold Qg2;rw [Qmv jx.mem h3,Qt8 h3];dsimp only;rw [if_pos rfl,Int.toNat_natCast,h2];show some (Zr aj way s - x + wt (gnF true aj way) (st2.2.getD i []))=_;rw [h4];unfold hF;rw [e];rfl
theorem Qm6 (ok:Qn ak aj way) (f9:Fit (bF ak) way) (fj:Opt ak aj way) (hb1:∀ b∈ak,1<=b) (hx:∀ row∈aj,∀ x∈row,-(10 ^ 42) < x/\x < 10 ^ 42) (pb:∀ i x,ps.getD i none=some x->-(10 ^ 42) < x/\x < 10 ^ 42)
  (good:Xl true ak aj way aq) (okc:OkC aq (gnF true aj way) aj.length st) (nn:∀ b,b < aj.length->0<=st.1.getD b 0) (cl_:∀ a b r:Nat,a < aj.length->b < aj.length->a≠b->(r:Int)∈Zd true ak way a b->st.1.getD a 0 + Zs true aj way a r b<=st.1.getD b 0) (cb:∀ c∈st.2,c.length<=5000)
  (jx:Xl true ak aj way jk) (hd:Dx ak aj way jk ps st2) (cb2:∀ c∈st2.2,c.length<=5000)
  (lo:Cf ak aj way (wsum (wF aj) way - ao) ps (λi=>st.1.getD i 0) st2.1 L h)
  (hr:Ua ak way (Xj true aj way (lvK aj.length (λi=>st.1.getD i 0) (hF st2.1) (wsum (wF aj) way - ao) L) (L.length:Int)) rows) :
  Fm ak aj ao way ps ((L.length:Int) / ((bw L.length rows:Nat):Int)) (rows.map λx=>x / ((bw L.length rows:Nat):Int)) (Jr aj.length L st.2 st2.2):=by
 have k:=lo.kept;have lL:L.length<=10:=by
  have h1:=(k.nd.length_le_of_subset (l₂:=range aj.length) λi hi=>O1.mpr (k.lt i hi))
  rw [length_range] at h1;have:=ok.bok.w1;lia
 have n0:(0:Int) < (L.length:Int):=by have:=k.pos; lia
 have low:=Qm5 (rows:=rows) k.pos;have kb:=Cy low n0 (by lia);have glow:=Sb L.length rows k.pos;have hkn:((L.length:Int) / ((bw L.length rows:Nat):Int)).natAbs=L.length / bw L.length rows:=by rw [<- Int.natCast_ediv,Int.natAbs_natCast]
 rw [<- hkn] at glow;rw [Qkv (h':=h) λi hi hm=>(lo.eq i hi hm).symm] at hr;have hcl:=k.closed cl_ lo.cl;have jb:=k.sum;have hlt:∀ m∈aq,m.1 < aj.length/\m.2.2 < aj.length:=λm hm=>⟨(good.mem m hm).1,(good.mem m hm).2.1⟩
 have hle:=k.least okc nn (λm hm=>by
  obtain ⟨g1,g2,g3,g4,g5⟩:=good.mem m hm;exact cl_ m.1 m.2.2 m.2.1 g1 g2 g3 g5) (λm hm=>by
  obtain ⟨g1,g2,g3,g4,g5⟩:=good.mem m hm;exact lo.cl m.1 m.2.2 m.2.1 g1 g2 g3 g5) hlt
 have lvl:(lvK aj.length (λi=>st.1.getD i 0) h (wsum (wF aj) way - ao) L).length=aj.length:=Ck;have hge:=λ{i:Nat} (hi:i < aj.length)=>k.ge hi;have fair:=Zqx n0 ok f9 fj hb1 hcl lvl jb hr low;have hat:∀ {p:Nat},p < aj.length->rows.getD (way.getD p 0) 0=Xh true aj way (lvK aj.length (λi=>st.1.getD i 0) h (wsum (wF aj) way - ao) L) (L.length:Int) p:=λhp=>Aj n0 ok.len ok.lt hcl hr hp;generalize hlv:lvK aj.length (λi=>st.1.getD i 0) h (wsum (wF aj) way - ao) L=lv at *;have d0:=low.d0;have hn:=low.n_;have p6:=low.at_;generalize hR:(rows.map λx=>x / ((bw L.length rows:Nat):Int))=R at *;generalize hk':(L.length:Int) / ((bw L.length rows:Nat):Int)=kk at *;generalize ((bw L.length rows:Nat):Int)=d at *;have hsh:∀ {i:Nat},i < aj.length->d * (kk * Zr aj way i - R.getD (way.getD i 0) 0)=lv.getD i 0:=λ{i} hi=>by rw [Int.mul_sub,<- p6,hat hi,<- Int.mul_assoc,<- hn];simp only [Xh,if_pos];lia
 have lw:=ok.len;refine ⟨kb,by rw [low.len]; exact hr.1,glow,fair,λi x hi e=>?_,λr hrb hrw=>?_,?_⟩
 ·have h1:=(hge hi).2;have h2:=lo.purse i x hi e;have h3:=U0 h2 (V4 n0);have h4:=hsh hi;refine A0t (a:=d) ?_ d0;rw [Int.mul_sub,<- Int.mul_assoc,<- hn] at h4;rw [<- Int.mul_assoc,<- hn];rw [Int.mul_sub] at h3;lia
 ·obtain ⟨e1,e2⟩:=Rz hr hrb hrw;obtain ⟨p,hp,hpe⟩:=Lj e1;refine ⟨?_,λy hy=>?_⟩
  ·refine O8.mpr ⟨way.getD p 0,Fe (by lia),?_⟩;refine A1c (a:=d) (by lia) ?_;rw [<- p6,<- p6,hat hp,hpe]
  ·obtain ⟨q,hq,rfl⟩:=O8.mp hy;obtain ⟨c,c1,c2⟩:=Qqv hq;refine A0t (a:=d) ?_ d0;rw [<- p6,<- p6];have:=hat (p:=c) (by lia);rw [c2] at this;rw [this];exact e2 _ (Bs (by lia))
 ·obtain ⟨i0,hi0,e0⟩:=hle.2;refine ⟨(range aj.length).map λi=>if i∈L then st.1.getD i 0 else h i,kk * Zr aj way i0 - R.getD (way.getD i0 0) 0,⟨by simp [Jr],by simp,λi hi=>?_,λa ha=>?_⟩,by rw [Vc k.nd k.lt]; exact k.pos,by rw [Vc k.nd k.lt]; exact lL,⟨O8.mpr ⟨i0,O1.mpr hi0,rfl⟩,λy hy=>?_⟩,?_⟩
  ·have e1:(Jr aj.length L st.2 st2.2).getD i (none,[])=Pd L st.2 st2.2 i:=by simp [Jr,getD,hi]
   have e2:((range aj.length).map λi=>if i∈L then st.1.getD i 0 else h i).getD i 0=if i∈L then st.1.getD i 0 else h i:=by simp [getD,hi]
   rw [e1,e2];unfold Pd
   by_cases hm:i∈L
   ·rw [if_pos hm,if_pos hm];obtain ⟨s,s1,s2,s3⟩:=okc.at_ i hi;unfold Qg2;dsimp only;rw [Qmv good.mem s2,s3]
   ·rw [if_neg hm,if_neg hm,lo.eq i hi hm];exact Bd jx hd hi (lo.some_ i hi hm)
  ·obtain ⟨i,hi,rfl⟩:=O8.mp ha;have hi':=O1.mp hi
   by_cases hm:i∈L
   ·rw [if_pos hm];obtain ⟨s,s1,s2,s3⟩:=okc.at_ i hi';have:=Em (way:=way) hx (Ex cb i);rw [s3] at this;lia
   ·rw [if_neg hm,lo.eq i hi' hm];have:=Cg hx hd cb2 pb i;lia
  ·obtain ⟨i,hi,rfl⟩:=O8.mp hy;have hi':=O1.mp hi;refine A0t (a:=d) ?_ d0;rw [hsh hi0,hsh hi',e0];exact hle.1 i hi'
  ·rw [Vc k.nd k.lt,hn];have h1:=hsh hi0;rw [e0] at h1;show _=kk * (wsum (wF aj) way - ao - Vn aj.length (λi=>st.1.getD i 0) h L);rw [<- h1,<- Int.mul_assoc,Int.mul_comm]
   congr 1
   exact Int.mul_comm _ _
theorem Qaj (hx:∀ row∈aj,∀ x∈row,-(10 ^ 42) < x/\x < 10 ^ 42) (pb:∀ i x,ps.getD i none=some x->-(10 ^ 42) < x/\x < 10 ^ 42) (jx:Xl true ak aj way jk) (hd:Dx ak aj way jk ps st2) (cb2:∀ c∈st2.2,c.length<=5000) (iz:∀ i,i < aj.length->st2.1.getD i none≠none) (hs:wsum (wF aj) way - ao < ((range aj.length).map (hF st2.1)).sum) :
  De ak aj ao way ps (Jr aj.length [] [] st2.2):=by
 refine ⟨(range aj.length).map (hF st2.1),⟨by simp [Jr],by simp,λi hi=>?_,λa ha=>?_⟩,by rw [Vc nodup_nil (λi hi=>by cases hi)]; rfl,hs⟩
 ·have e1:(Jr aj.length [] [] st2.2).getD i (none,[])=Pd [] [] st2.2 i:=by simp [Jr,getD,hi]
  have e2:((range aj.length).map (hF st2.1)).getD i 0=hF st2.1 i:=by simp [getD,hi]
  rw [e1,e2];unfold Pd;rw [if_neg (by simp)];exact Bd jx hd hi (iz i hi)
 ·obtain ⟨i,hi,rfl⟩:=O8.mp ha;have:=Cg hx hd cb2 pb i;lia
end
def Ud.bf {wo:Bool} {H H':Hp} {t tl cl:G5} {ak:K6} {aj:J7} {way:K7} {aq:List Hop} {st:TC} (g:Ud wo H t tl cl ak aj way aq st) (s:Qc H H'):Ud wo H' t tl cl ak aj way aq st:=by obtain ⟨ls,e1,e2,e3,e4⟩:=g.tc.ex;exact ⟨s.to _ _ g.tup rfl,⟨g.tc.ne,s.to _ _ g.tc.g rfl,ls,s.to _ _ e1 rfl,e2,e3,λi a c h1 h2=>(e4 i a c h1 h2).bf s⟩,g.good,g.ok,g.nn,g.cl_⟩
theorem Qj8:∀ l:K1,inV .non (l.map oV)=decide (none∈l)
 | []=>rfl
 | none :: l=>by rw [decide_eq_true (mem_cons_self)];simp [inV,eqV,oV]
 | some z :: l=>by have ih:=Qj8 l;unfold inV at ih ⊢;rw [map_cons,any_cons,ih];simp [eqV,oV]
theorem Qzw:∀ l:K1,(l.map oV).all Vs=true
 | []=>rfl
 | none :: l=>by rw [map_cons,all_cons,Qzw l];rfl
 | some z :: l=>by rw [map_cons,all_cons,Qzw l];rfl
def all_ints {l:K1} (hl:l.length=n) (h:none ∉ l):l.map oV=((range n).map (hF l)).map V.int:=by
 refine U7 (by simp [hl]) λi a b=>?_;have hi:i < l.length:=by simpa using a
 simp only [getElem_map,getElem_range,hF,getD_eq_getElem?_getD,getElem?_eq_getElem hi];cases e:l[i] with
 | none=>exact absurd (e ▸ N7 hi) h
 | some z=>rfl
def Wh (H:Hp) (t:G5) (ak:K6) (aj:J7) (ao:Int) (way:K7) (ps:K1):Prop :=
 (∃ (tp rl pl:G5) (k:Int) (R:K6) (rows:List (M5 × List Xy)),H t=some (.tup [.str (Str.ofString "kept"),.ref tp,.ref pl])/\H tp=some (.tup [.int k,.ref rl])/\H rl=some (.lst (R.map V.int))/\Zi H pl rows/\Fm ak aj ao way ps k R rows) \/
 ∃ (pl:G5) (rows:List (M5 × List Xy)),H t=some (.tup [.str (Str.ofString "none"),.ref pl])/\Zi H pl rows/\De ak aj ao way ps rows
def Vo (P Q:G5) (H H':Hp):Prop:=∀ b o,H b=some o->b≠P->b≠Q->H' b=some o
def Yl.two1 {P Q:G5} (s:Yl P H H'):Vo P Q H H':=λb o e h _=>s b o e h
def Yl.two2 {P Q:G5} (s:Yl Q H H'):Vo P Q H H':=λb o e _ h=>s b o e h
def Vo.trans {P Q:G5} {H1 H2:Hp} (a:Vo P Q H H1) (b:Vo P Q H1 H2):Vo P Q H H2:=λc o e h1 h2=>b c o (a c o e h1 h2) h1 h2
def Qvw (CH PT:G5) (l1:Pos) (q1:Str) (PL:G5) (l2:Pos) (q2:Str):Sp:=λvs H Q _ => ∃ (x wy pu:G5) (ak:K6) (aj:J7) (ao:Int) (way:K7) (ps:K1),vs=[.ref x,.ref wy,.ref pu]/\Zv CH H x ak aj ao/\Jg ak aj/\(-(10 ^ 42) < ao/\ao < 10 ^ 42)/\H wy=some (.lst ((wI way).map V.int))/\way.length=aj.length/\Fit (bF ak) way/\Opt ak aj way/\H pu=some (.lst (ps.map oV))/\ps.length=aj.length/\(∀ i x,ps.getD i none=some x->-(10 ^ 42) < x/\x < 10 ^ 42)/\Qe H PT l1 q1/\Qe H PL l2 q2 /\
 ∀ (t:G5) (H':Hp),Qc H H'->Vo PT PL H H'->Qe H' PT l1 q1->Qe H' PL l2 q2->Wh H' t ak aj ao way ps->Q (.ref t) H'
def Qfj (x y:Int):Nat.gcd y.natAbs (x.fmod y).natAbs=Nat.gcd x.natAbs y.natAbs:=by show Int.gcd y (x.fmod y)=Int.gcd x y;rw [Int.fmod_def,Int.gcd_sub_mul_left_right,Int.gcd_comm]
theorem Qfw (x:Int) {y:Int} (h:y≠0):(x.fmod y).natAbs < y.natAbs:=by
 rw [Int.fmod_eq_emod];have h1:=V0 x h;have h2:=Int.emod_lt x h
 by_cases e:0<=y\/y ∣ x
 ·rw [if_pos e];lia
 ·rw [if_neg e];have h3:x % y≠0:=λz=>e (.inr (Int.dvd_of_emod_eq_zero z));lia
def Ie:Sp:=λvs H Q _ => ∃ (a b:Int),vs=[.int a,.int b]/\∀ H',Qu H H'->Q (.int ((Nat.gcd a.natAbs b.natAbs:Nat):Int)) H'
def Ii:Sp:=λvs H Q _ => ∃ (tp rl:G5) (n:Int) (k:Int) (R:K6),vs=[.ref tp,.int n]/\H tp=some (.tup [.int k,.ref rl])/\H rl=some (.lst (R.map V.int))/\0 < k/\n=(R.length:Int)/\R.length<=10/\bw k.natAbs R=1/\∀ H',Qu H H'->Q (.bl true) H'
def Qw3:Sp:=λvs H Q _ => ∃ (b w wy tp rl:G5) (F:Fp),vs=[.ref b,.ref w,.int F.ao,.ref wy,.ref tp]/\H b=some (.lst (F.ak.map V.int))/\Mat H w F.aj/\H wy=some (.lst ((wI F.way).map V.int))/\H tp=some (.tup [.int F.parts,.ref rl])/\H rl=some (.lst (F.rows.map V.int))/\Qgx F/\0 < F.aj.length/\F.is .none/\∀ H',Qu H H'->Q (.bl true) H'
def Qw1:Sp:=λvs H Q _ => ∃ (b w wy pu pl:G5) (ak:K6) (aj:J7) (way:K7) (ps:K1) (rows:List (M5 × List Xy)) (as:K6),vs=[.ref b,.ref w,.ref wy,.ref pu,.ref pl]/\H b=some (.lst (ak.map V.int))/\Mat H w aj/\H wy=some (.lst ((wI way).map V.int))/\Qn ak aj way/\H pu=some (.lst (ps.map oV))/\ps.length=aj.length/\Zi H pl rows/\Qz8 ak aj way ps rows as /\
 ∀ (t:G5) (H':Hp),Qu H H'->H' t=some (.tup [.int as.sum,.int (c7 rows:Int)])->Q (.ref t) H'
def Ir (K:N5):Sp:=λvs H Q _ => ∃ (a w wy tp rl:G5) (ns ak:K6) (aj:J7) (way:K7) (k:Int) (R:K6),vs=[.ref a,.ref w,.ref wy,.ref tp]/\SqL K H a (ns.map V.int)/\H wy=some (.lst ((wI way).map V.int))/\Qn ak aj way/\H tp=some (.tup [.int k,.ref rl])/\H rl=some (.lst (R.map V.int))/\R.length=ak.length/\0 < k/\k<=10/\∀ (l:G5) (ps:K1) (H':Hp),Qu H H'->H l=none->H' l=some (.lst (ps.map oV))->ps.length=aj.length->(∀ x∈ps,∀ z,x=some z->-(10 ^ 42) < z/\z < 10 ^ 42)->Q (.ref l) H'
def Qbj:Sp:=λvs H Q _ => ∃ (b w wy pu tp rl pl:G5) (ak:K6) (aj:J7) (ao:Int) (way:K7) (ps:K1) (k:Int) (R:K6) (rows:List (M5 × List Xy)),vs=[.ref b,.ref w,.int ao,.ref wy,.ref pu,.ref tp,.ref pl]/\H b=some (.lst (ak.map V.int))/\Mat H w aj/\H wy=some (.lst ((wI way).map V.int))/\Jg ak aj/\(-(10 ^ 42) < ao/\ao < 10 ^ 42)/\way.length=aj.length/\Fit (bF ak) way/\H pu=some (.lst (ps.map oV))/\ps.length=aj.length/\(∀ i x,ps.getD i none=some x->-(10 ^ 42) < x/\x < 10 ^ 42)/\H tp=some (.tup [.int k,.ref rl])/\H rl=some (.lst (R.map V.int))/\Zi H pl rows/\Fm ak aj ao way ps k R rows/\∀ H',Qu H H'->Q (.bl true) H'
def Qbx:Sp:=λvs H Q _ => ∃ (b w wy pu pl:G5) (ak:K6) (aj:J7) (ao:Int) (way:K7) (ps:K1) (rows:List (M5 × List Xy)),vs=[.ref b,.ref w,.int ao,.ref wy,.ref pu,.ref pl]/\H b=some (.lst (ak.map V.int))/\Mat H w aj/\H wy=some (.lst ((wI way).map V.int))/\Jg ak aj/\way.length=aj.length/\Fit (bF ak) way/\H pu=some (.lst (ps.map oV))/\ps.length=aj.length/\Zi H pl rows/\De ak aj ao way ps rows/\∀ H',Qu H H'->Q (.bl true) H'
theorem Qy5 {k:Int} {R:K6} (HG:Jg ak aj) (hre:-(10 ^ 42) < ao/\ao < 10 ^ 42) (ln:way.length=aj.length) (fit:Fit (bF ak) way) (h:Fm ak aj ao way ps k R rows):Qgx ⟨ak,aj,ao,way,k,R⟩ :=⟨HG.bok.b1,HG.bok.w1,HG.bok.rows,h.len,ln,fit,by have:=h.k1; exact ⟨by show -(10 ^ 100) < k; lia,by show k < 10 ^ 100; lia⟩,⟨by show -(10 ^ 100) < ao; lia,by show ao < 10 ^ 100; lia⟩,λrow hr x hx=>by have:=HG.x row hr x hx; lia⟩
theorem Qxk {k x B:Int} (hk:0 < k/\k<=10) (hx:-B<=x/\x<=B):-(10 * B)<=k * x/\k * x<=10 * B:=by
 have hB:0<=B:=by lia
 have h1:=U0 hx.2 (V4 hk.1);have h2:=U0 hx.1 (V4 hk.1);have h3:=U8 hk.2 hB;rw [Int.mul_neg] at h2;lia
theorem Qjv {m f B:Int} (hf:1<=f) (hc:-B<=m * f/\m * f<=B):-B<=m/\m<=B:=by
 by_cases h:0<=m
 ·have h1:=U0 hf h;lia
 ·have h1:=U0 hf (show 0<=-m by lia);rw [Int.neg_mul,Int.neg_mul] at h1;lia
theorem Qm3 {as:K6} (lw:aj.length<=10) (h:Qz8 ak aj way ps rows as):-(10 * 10 ^ 50)<=as.sum/\as.sum<=10 * 10 ^ 50:=by
 have h1:=Nk (B:=10 ^ 50) (l:=as) λz hz=>by have:=h.bd z hz;lia
 rw [h.l2] at h1;have h2:(aj.length:Int) * 10 ^ 50<=10 * 10 ^ 50:=U8 (by lia) (by decide);lia
def Dc:((range rows.length).filter λi=>(rows.getD i (none,[])).1.isNone).length=c7 rows:=by
 unfold c7;have e:rows=(range rows.length).map λi=>rows.getD i (none,[]):=by refine U7 (by simp) λi a b=>?_;simp [getD,a]
 conv=>rhs; rw [e,filter_map,length_map]
 rfl
def Nm (K:N5) (P1:G5) (l1:Pos) (q1:Str) (P2:G5) (l2:Pos) (q2:Str) (P3:G5) (l3:Pos) (q3:Str):Sp:=λvs H Q _ => ∃ (a:G5) (ns:K6),vs=[.ref a]/\SqL K H a (ns.map V.int)/\ns.length<=63/\Qe H P1 l1 q1/\Qe H P2 l2 q2/\Qe H P3 l3 q3/\∀ H',Q (.bl true) H'
def stN {x:V} {σ σ':St} {k:St->Hp->Prop} (e:σ.set i (some x)=σ') (h:k σ' H):Jl i x σ H k:=by subst e;exact h
def Qev:List Xy->Int->Int
 | [],i=>i
 | m :: c,_=>Qev c m.1
theorem Lb (m:Xy):∀ (c:List Xy) (i:Int),Qev (c ++ [m]) i=m.1
 | [],_=>rfl
 | h :: c,_=>Lb m c h.1
theorem Qh5 (c:List Xy) (i:Nat):Qev c.reverse (i:Int)=Fb c i:=by
 cases c with
 | nil=>rfl
 | cons m c=>rw [reverse_cons,Lb]; rfl
section
variable {k:Int} {R:K6} {as:K6}
theorem Qhw {f:Nat->Int} (ok:Qn ak aj way) (hc:∀ a b r:Nat,a < aj.length->b < aj.length->r < ak.length->(r:Int)∈Zd true ak way a b->f a + k * Zs true aj way a r b<=f b):∀ (c:List Xy) (i:Nat) (z:Int),i < aj.length->wbI (okI true ak aj.length way) (gnI true aj way) c (i:Int)=some z->∃ s:Nat,s < aj.length/\Qev c (i:Int)=(s:Int)/\f s + k * z<=f i
 | [],i,z,hi,h=>by
  have:z=0:=by simp [wbI] at h; exact h.symm
  exact ⟨i,hi,rfl,by rw [this]; lia⟩
 | m :: c,i,z,hi,h=>by
  unfold wbI at h
  by_cases e:m.2.2=(i:Int)/\okI true ak aj.length way m=true
  ·rw [if_pos e] at h;obtain ⟨a,r,b,rfl,ha,hb,hab,hr,hm⟩:=Bq ok e.2;have eb:b=i:=by have:=e.1; simp only at this; lia
   subst eb;cases h2:wbI (okI true ak aj.length way) (gnI true aj way) c (a:Int) with
   | none=>rw [h2] at h; cases h
   | some y =>
    rw [h2] at h;have ez:y + gnI true aj way ((a:Int),(r:Int),(b:Int))=z:=by simpa using h
    obtain ⟨s,s1,s2,s3⟩:=Qhw ok hc c a y ha h2;have h3:=hc a b r ha hb hr hm;have eg:gnI true aj way ((a:Int),(r:Int),(b:Int))=Zs true aj way a r b:=by simp [gnI]
    refine ⟨s,s1,s2,?_⟩;rw [<- ez,eg,Int.mul_add];lia
  ·rw [if_neg e] at h;cases h
def Qt5 {f:Nat->Int} (ok:Qn ak aj way) (hc:∀ a b r:Nat,a < aj.length->b < aj.length->r < ak.length->(r:Int)∈Zd true ak way a b->f a + k * Zs true aj way a r b<=f b) {c:List Xy} {z:Int} (hi:i < aj.length) (h:chI true ak aj way c i=some z):∃ s:Nat,s < aj.length/\Fb c i=(s:Int)/\f s + k * z<=f i:=by unfold chI at h;rw [<- Qo8] at h;obtain ⟨s,s1,s2,s3⟩:=Qhw ok hc _ i z hi h;exact ⟨s,s1,by rw [<- s2,Qh5],s3⟩
theorem Zzv (ok:Qn ak aj way) (fair:Fp.is ⟨ak,aj,ao,way,k,R⟩ .none) (hp:∀ i x,i < aj.length->ps.getD i none=some x->R.getD (way.getD i 0) 0<=k * x) {m:Int} (hm:∀ i,i < aj.length->m<=Vt true aj way k R i) (pok:Qz8 ak aj way ps rows as):m * (c7 rows:Int)<=k * (wsum (wF aj) way - ao - as.sum):=by
 have h1:∀ i,i < aj.length->k * as.getD i 0 + (if (rows.getD i (none,[])).1.isNone then m else 0)<=Vt true aj way k R i:=λi hi=>by
  have hat:=pok.at_ i hi;generalize rows.getD i (none,[])=row at *;obtain ⟨o,c⟩:=row;unfold Qg2 at hat;cases hch:chI true ak aj way c i with
  | none=>simp only [hch] at hat; cases hat
  | some g =>
   obtain ⟨s,s1,s2,s3⟩:=Qt5 (f:=Vt true aj way k R) (k:=k) ok (λa b r ha hb hr hmm=>Qj5 ok fair ha hb hr hmm) hi hch;simp only [hch] at hat;cases o with
   | none =>
    have e:g=as.getD i 0:=by simpa using hat
    have:=hm s s1;show k * as.getD i 0 + m<=_;rw [<- e];lia
   | some kk =>
    simp only at hat
    by_cases hk:kk=Fb c i
    ·rw [if_pos hk,hk,s2,Int.toNat_natCast] at hat;cases hx:ps.getD s none with
     | none=>rw [hx] at hat; cases hat
     | some x =>
      rw [hx] at hat;have e:Zr aj way s - x + g=as.getD i 0:=by simpa using hat
      have h5:=hp s x s1 hx;have h6:Vt true aj way k R s=k * Zr aj way s - R.getD (way.getD s 0) 0:=by simp [Vt]
      show k * as.getD i 0 + 0<=_;rw [<- e,Int.mul_add,Int.mul_sub];lia
    ·rw [if_neg hk] at hat;cases hat
 have h2:=Tr aj.length h1;have h3:=Qj3 (wo:=true) ok fair;have e1:((range aj.length).map λi=>as.getD i 0)=as:=by rw [<- pok.l2]; exact range_getD _
 have e2:((range aj.length).map λi=>if (rows.getD i (none,[])).1.isNone then m else 0).sum=m * (c7 rows:Int):=by
  rw [<- Dc,pok.l1];have key:∀ (p:Nat->Bool) (l:K7),(l.map λi=>if p i then m else 0).sum=m * ((l.filter p).length:Int):=λp l=>by
   induction l with
   | nil=>simp
   | cons a l ih =>
    rw [map_cons,sum_cons,ih]
    by_cases hp:p a=true
    ·rw [if_pos hp,filter_cons_of_pos hp,length_cons,show (((l.filter p).length + 1:Nat):Int)=((l.filter p).length:Int) + 1 by lia,Int.mul_add];lia
    ·rw [if_neg hp,filter_cons_of_neg hp];lia
  exact key (λi=>(rows.getD i (none,[])).1.isNone) _
 rw [Kp (λi=>k * as.getD i 0) (λi=>if (rows.getD i (none,[])).1.isNone then m else 0),e2,Nh,e1] at h2;have h2':k * as.sum + m * (c7 rows:Int)<=((range aj.length).map (Vt true aj way k R)).sum:=h2;rw [h3] at h2';have e3:Uj true aj way ao=wsum (wF aj) way - ao:=rfl;rw [e3] at h2';rw [Int.mul_sub k (wsum (wF aj) way - ao) as.sum];lia
theorem Qj6 {k1:Int} {R1:K6} (ok:Qn ak aj way) (kp:Fm ak aj ao way ps k R rows) (fair:Fp.is ⟨ak,aj,ao,way,k1,R1⟩ .none) (hp:∀ i x,i < aj.length->ps.getD i none=some x->R1.getD (way.getD i 0) 0<=k1 * x) {m m1:Int} (hm1:∀ i,i < aj.length->m1<=Vt true aj way k1 R1 i) (hm:Yg m ((range aj.length).map λi=>k * Zr aj way i - R.getD (way.getD i 0) 0)) (k10:0<=k1):m1 * k<=m * k1:=by
 obtain ⟨as,m',pok,f0,f1,hm',he⟩:=kp.pap;have em:m=m':=hm.eq hm';subst em;have h1:=Zzv ok fair hp hm1 pok;have h2:=U8 h1 (V4 kp.k1.1);have hf:(0:Int) < (c7 rows:Int):=by lia
 refine A1k (a:=(c7 rows:Int)) ?_ hf;have e1:m1 * (c7 rows:Int) * k=m1 * k * (c7 rows:Int):=by rw [Int.mul_assoc,Int.mul_comm (c7 rows:Int),<- Int.mul_assoc]
 have e2:k1 * (wsum (wF aj) way - ao - as.sum) * k=m * k1 * (c7 rows:Int):=by rw [Int.mul_assoc,Int.mul_comm _ k,<- he,Int.mul_comm m k1,Int.mul_assoc]
 rw [e1,e2] at h2;exact h2
theorem Ob {k1:Int} {R1:K6} (ok:Qn ak aj way) (np:De ak aj ao way ps rows) (k10:0 < k1) (fair:Fp.is ⟨ak,aj,ao,way,k1,R1⟩ .none) (hp:∀ i x,i < aj.length->ps.getD i none=some x->R1.getD (way.getD i 0) 0<=k1 * x) {m1:Int} (hm1:∀ i,i < aj.length->m1<=Vt true aj way k1 R1 i):False:=by obtain ⟨as,pok,f0,hlt⟩:=np.pap;have h1:=Zzv ok fair hp hm1 pok;rw [f0] at h1;have h2:=A1j (show wsum (wF aj) way - ao - as.sum < 0 by lia) k10;simp at h1 h2;lia
end
def Wh.same (h:Wh H t ak aj ao way ps) (s:Qc H H'):Wh H' t ak aj ao way ps:=by
 rcases h with ⟨tp,rl,pl,k,R,rows,e1,e2,e3,e4,e5⟩ | ⟨pl,rows,e1,e4,e5⟩
 ·refine .inl ⟨tp,rl,pl,k,R,rows,s.to _ _ e1 rfl,s.to _ _ e2 rfl,s.to _ _ e3 rfl,?_,e5⟩;obtain ⟨ts,f1,f2,f3⟩:=e4;refine ⟨ts,s.to _ _ f1 rfl,f2,λi t r a b=>?_⟩;obtain ⟨c,c1,c2⟩:=f3 i t r a b;exact ⟨c,s.to _ _ c1 rfl,c2.bf s⟩
 ·refine .inr ⟨pl,rows,s.to _ _ e1 rfl,?_,e5⟩;obtain ⟨ts,f1,f2,f3⟩:=e4;refine ⟨ts,s.to _ _ f1 rfl,f2,λi t r a b=>?_⟩;obtain ⟨c,c1,c2⟩:=f3 i t r a b;exact ⟨c,s.to _ _ c1 rfl,c2.bf s⟩
def hid (D:G5) (H:Hp):Hp:=λb=>if b=D then none else H b
def Mq:hid D H D=none:=V7 rfl
def Vr {b:G5} (h:b≠D):hid D H b=H b:=U6 h
def Qrw {G:Hp} {o:HO} (h:G D=none):hid D (upd G D o)=G:=by
 funext b
 by_cases hb:b=D
 ·rw [hb,Mq,h]
 ·rw [Vr hb,Qv hb]
def Qzz (t:TE):TE:=λσ H Q => ∃ D ys,H D=some (.lst ys)/\t σ (hid D H) λv H'=>H' D=none->Q v (upd H' D (.lst ys))
def Qpw {X:Cx} {e:Expr} {t:TE} (h:PE X e t):PE X e (Qzz t):=by
 rintro dz s σ H Q I ⟨D,ys,hD,q⟩;obtain ⟨hl,its,n,hv,ho⟩:=I.hok D _ hD;have nD:∀ b,H b=none->b≠D:=λb e z=>by rw [z,hD] at e; cases e
 have nu:∀ b u,H b=some u->(∀ zs,u≠.lst zs)->b≠D:=λb u e hu z=>by rw [z,hD] at e;cases e;exact hu _ rfl
 have hfs:D ∉ X.fs:=λhb=>by obtain ⟨_,o,ho',_⟩:=I.ok.dj.mem hb;exact nD D (I.base.free D o ho' (I.ok.frf D hb) λhx=>I.ok.exfs D hx hb) rfl
 have I1:Inv X ((D,{ cls:=.type "list",data:=.seq its.toArray n }) :: dz) σ (hid D H) s:=by
  refine ⟨I.ok,I.os,I.bare,⟨I.base.keep,I.base.slot,λb o h1 h2 h3=>?_,I.base.there,λb xs e=>?_,λb o u e=>?_,λb ps e=>?_⟩,I.loc,I.cell,?_,λx c e=>?_,λp hp=>?_,λa o e=>?_,I.len⟩
  ·have:=I.base.free b o h1 h2 h3;rw [Vr (nD b this)];exact this
  ·have:=I.base.tups b xs e;rw [Vr (nu b _ this λ_=>by simp)];exact this
  ·have:=I.base.dw b o u e;rw [Vr (nu b _ this λ_=>by simp)];exact this
  ·obtain ⟨m,hm⟩:=I.base.dm b ps e;exact ⟨m,by rw [Vr (nu b _ hm λ_=>by simp)]; exact hm⟩
  ·rw [Vr (nD _ I.free)];exact I.free
  ·rw [Vr (nD _ (I.cg x c e))];exact I.cg x c e
  ·rcases O6.mp hp with z | z
   ·have:=I.pin p (R8 _ z);exact ⟨this.1,by rw [Vr (nD _ this.2.1)]; exact this.2.1,this.2.2⟩
   ·rcases R3.mp z with rfl | z
    ·exact ⟨ho,Mq,(nD _ I.free).symm,hfs,λv z=>by cases z⟩
    ·have:=I.pin p (Q9 _ z);exact ⟨this.1,by rw [Vr (nD _ this.2.1)]; exact this.2.1,this.2.2⟩
  ·have ha:a≠D:=λz=>by rw [z,Mq] at e; cases e
   rw [Vr ha] at e;exact (I.hok a o e).stay (λ_ _ _ r=>r) (λc r=>by rw [Vr (nu c _ r λ_=>by simp)]; exact r) λc xs r=>by rw [Vr (nu c _ r λ_=>by simp)]; exact r
 refine thn (h _ s σ (hid D H) _ I1 q) λv s' ⟨v',H',J,r,k⟩=>?_;have pD:=J.pin (D,_) (Q9 _ Q7);have hD':H' D=none:=pD.2.1;have nu':∀ b u,H' b=some u->b≠D:=λb u e z=>by rw [z,hD'] at e; cases e
 refine ⟨v',upd H' D (.lst ys),⟨J.ok,J.os,J.bare,⟨J.base.keep,J.base.slot,λb o h1 h2 h3=>?_,J.base.there,λb xs e=>?_,λb o u e=>?_,λb ps e=>?_⟩,J.loc,J.cell,?_,λx c e=>?_,λp hp=>?_,?_,J.len⟩,r,k hD'⟩
 ·rw [Qv (nD b (I.base.free b o h1 h2 h3))];exact J.base.free b o h1 h2 h3
 ·have:=J.base.tups b xs e;rw [Qv (nu' b _ this)];exact this
 ·have:=J.base.dw b o u e;rw [Qv (nu' b _ this)];exact this
 ·obtain ⟨m,hm⟩:=J.base.dm b ps e;exact ⟨m,by rw [Qv (nu' b _ hm)]; exact hm⟩
 ·rw [Qv (nD _ I.free)];exact J.free
 ·rw [Qv (nD _ (I.cg x c e))];exact J.cg x c e
 ·have hp':p∈X.pn ++ ((D,{ cls:=.type "list",data:=.seq its.toArray n }) :: dz):=by
   rcases O6.mp hp with z | z
   ·exact R8 _ z
   ·exact Q9 _ (Q8 _ z)
  have:=J.pin p hp';exact ⟨this.1,by rw [Qv (nD _ (I.pin p hp).2.1)]; exact this.2.1,this.2.2⟩
 ·intro a o e
  by_cases ha:a=D
  ·rw [ha,Qy] at e;cases e;rw [ha];exact ⟨hl,its,n,hv,pD.1⟩
  ·rw [Qv ha] at e;exact (J.hok a o e).stay (λ_ _ _ r=>r) (λc r=>by rw [Qv (nu' c _ r)]; exact r) λc xs r=>by rw [Qv (nu' c _ r)]; exact r
theorem Qq0 {K:N5} {a:G5} {te:TE} {σf:St} {H1:Hp} {Q:VK} (R:Nat->V->Hp->Prop) (J:Hp->Prop) (hx:H1 a=some (.lst xs)) (hz:xs.length < sizeLine) (hD1:H1 D=none) (j0:J H1)
  (mono:∀ i y H H',Qc H H'->R i y H->R i y H')
  (hs:∀ i x G (N:VK),xs[i]? = some x->Qc H1 G->J G->(∀ y G',Qc G G'->J G'->R i y G'->N y G')->te (some x :: σf) G N)
  (hd:∀ ys G,Qc H1 G->J G->G D=none->ys.length=xs.length->(∀ (i:Nat) y,ys[i]? = some y->R i y G)->Q (.ref D) (upd G D (.lst ys))):Rp (Itl K a) D (Jl 0) Qqj (Qzz te) (none :: σf) (upd H1 D (.lst [])) Q:=by
 have nD:∀ b o,H1 b=some o->b≠D:=λb o e=>Qj e hD1;refine ⟨λi m ys H=>i<=xs.length/\m=xs.length - i/\∃ G,H=upd G D (.lst ys)/\G D=none/\Qc H1 G/\J G/\ys.length=i/\∀ (j:Nat) y,ys[j]? = some y->R j y G,⟨xs.length,T3 _,rfl,H1,rfl,hD1,Qc.refl _,j0,rfl,λj y e=>by simp at e⟩,?_⟩;rintro i m ys H ⟨hi,rfl,G,rfl,g1,g2,g3,g4,g5⟩;refine ⟨Qy,?_⟩;have hS:SqL K (upd G D (.lst ys)) a xs:=SqL.of (by rw [Qv (nD a _ hx)]; exact g2.to _ _ hx rfl)
 by_cases hlt:i < xs.length
 ·refine .inr ⟨⟨xs,xs[i],hS,by simp [hlt]⟩,by lia,λy H6 => ∃ G',H6=upd G' D (.lst ys)/\G' D=none/\Qc G G'/\J G'/\R i y G',λ_=>False,?_,λ_ z=>z.elim,λx H' y=>?_⟩
  ·rintro y H6 ⟨G',rfl,q1,q2,q3,q4⟩;refine ⟨Qy,xs.length - (i + 1),by lia,hlt,rfl,G',Qdk,q1,g2.trans q2,q3,by simp [g4],λj z e=>?_⟩
   by_cases hj:j < ys.length
   ·rw [getElem?_append_left hj] at e;exact mono _ _ _ _ q2 (g5 j z e)
   ·have hj':j=ys.length:=by have:=(N8.mp e).1;simp at this;lia
    subst hj';simp at e;subst e;rw [g4];exact q4
  ·obtain ⟨rfl,y⟩:=y;have ex:=y xs hS;refine ⟨Agree.one _ _ _ rfl,?_⟩;show if true=true then Qzz te (some x :: σf) (upd G D (.lst ys)) (λy H6 => ∃ G',H6=upd G' D (.lst ys)/\G' D=none/\Qc G G'/\J G'/\R i y G') else False
   rw [if_pos rfl];refine ⟨D,ys,Qy,?_⟩;rw [Qrw g1];exact hs i x G _ ex g2 g3 λz G' a b c hn=>⟨G',rfl,hn,a,b,c⟩
 ·obtain rfl:i=xs.length:=Nat.le_antisymm hi (A0d.mp hlt);exact .inl ⟨⟨xs,hS,O7 _⟩,hd ys G g2 g3 g1 g4 g5⟩
theorem Qjq {a b c d e f:Int} (hd:0 < d) (h1:a * d<=c * b) (h2:c * f<=e * d) (hb:0 < b) (hf:0 < f):a * f<=e * b:=by refine A1k (a:=d) ?_ hd;have g1:=U8 h1 (V4 hf);have g2:=U8 h2 (V4 hb);rw [Int.mul_right_comm a,Int.mul_right_comm c] at g1;rw [Int.mul_right_comm e] at g2;lia
theorem Qt1 {a b c d e f:Int} (hd:0 < d) (h1:a * d<=c * b) (h2:c * f < e * d) (hb:0 < b) (hf:0 < f):a * f < e * b:=by refine Int.lt_of_mul_lt_mul_right (a:=d) ?_ (V4 hd);have g1:=U8 h1 (V4 hf);have g2:=Int.mul_lt_mul_of_pos_right h2 hb;rw [Int.mul_right_comm a,Int.mul_right_comm c] at g1;rw [Int.mul_right_comm e] at g2;lia
def Ye (V:Nat->Int->Int->Prop) (S:Nat->Prop) (j:Nat) (m k:Int):Prop:=S j/\V j m k/\∀ p m' k',S p->V p m' k'->m' * k<=m * k'/\(p < j->m' * k < m * k')
structure Ma (V:Nat->Int->Int->Prop):Prop where
 pos:∀ {p m k},V p m k->0 < k
 uniq:∀ {p m k m' k'},V p m k->V p m' k'->m * k'=m' * k
section
variable {V:Nat->Int->Int->Prop} {S S':Nat->Prop} {j:Nat} {m k m' k':Int}
theorem Ye.eq (a:Ye V S i m k) (b:Ye V S j m' k'):i=j:=by
 obtain ⟨a1,a2,a3⟩:=a;obtain ⟨b1,b2,b3⟩:=b;have h1:=a3 _ _ _ b1 b2;have h2:=b3 _ _ _ a1 a2;refine R6 λz=>?_;rcases Nat.lt_or_gt_of_ne z with z | z
 ·have:=h2.2 z;lia
 ·have:=h1.2 z;lia
def Lz (o:Ma V) (h:V n m k) (hS:S n) (ho:∀ p,S p->p≠n->∀ m k,¬ V p m k):Ye V S n m k:=by
 refine ⟨hS,h,λp a b s w=>?_⟩
 by_cases e:p=n
 ·subst e;rw [o.uniq w h];exact ⟨Q0 _,λz=>absurd z (V1 _)⟩
 ·exact absurd w (ho p s e _ _)
theorem Ye.val (o:Ma V) (a:Ye V S j m k) (h:V j m' k'):Ye V S j m' k':=by obtain ⟨a1,a2,a3⟩:=a;refine ⟨a1,h,λp c d s w=>?_⟩;have e:m * k'=m' * k:=o.uniq a2 h;exact ⟨Qjq (o.pos a2) (a3 p c d s w).1 (by lia) (o.pos w) (o.pos h),λz=>by have h1:=(a3 p c d s w).2 z;refine Int.lt_of_mul_lt_mul_right (a:=k) ?_ (V4 (o.pos a2));have g1:=Int.mul_lt_mul_of_pos_right h1 (o.pos h);rw [Int.mul_right_comm c,Int.mul_right_comm m,e,Int.mul_right_comm m'] at g1;exact g1⟩
theorem Ye.keep (o:Ma V) (a:Ye V S j m k) (hj:S' j) (hS:∀ p,S' p->S p\/∀ c d,V p c d->j<=p/\∃ c' d',V p c' d'/\c' * k<=m * d'):Ye V S' j m k:=by
 obtain ⟨a1,a2,a3⟩:=a;refine ⟨hj,a2,λp c d s w=>?_⟩;rcases hS p s with z | h
 ·exact a3 p c d z w
 ·obtain ⟨z,c',d',w',h'⟩:=h c d w;exact ⟨Qjq (o.pos w') (Int.le_of_eq (o.uniq w w')) h' (o.pos w) (o.pos a2),λq=>by lia⟩
def Ye.move (o:Ma V) (a:Ye V S j m k) (h:V n m' k') (hlt:m * k' < m' * k) (hn:S' n) (hS:∀ p,S' p->S p\/p=n):Ye V S' n m' k':=by
 obtain ⟨a1,a2,a3⟩:=a;refine ⟨hn,h,λp c d s w=>?_⟩;rcases hS p s with z | rfl
 ·have:=Qt1 (o.pos a2) (a3 p c d z w).1 hlt (o.pos w) (o.pos h);exact ⟨V4 this,λ_=>this⟩
 ·rw [o.uniq w h];exact ⟨Q0 _,λz=>absurd z (V1 _)⟩
end
def Kt (ak:K6) (aj:J7) (ao:Int) (ps:K1) (L:J8) (p:Nat) (m k:Int):Prop:=∃ R rws,Fm ak aj ao (L.getD p []) ps k R rws/\Yg m ((range aj.length).map λi=>k * Zr aj (L.getD p []) i - R.getD ((L.getD p []).getD i 0) 0)
structure Ve (ak:K6) (aj:J7) (ao:Int) (L:J8):Prop where
 g:Jg ak aj
 r:-(10 ^ 42) < ao/\ao < 10 ^ 42
 l:∀ v∈L,v.length=aj.length/\Fit (bF ak) v/\Opt ak aj v
section
variable {L:J8} {p:Nat} {m k:Int}
def Ve.at_ (o:Ve ak aj ao L) (h:p < L.length):(L.getD p []).length=aj.length/\Fit (bF ak) (L.getD p [])/\Opt ak aj (L.getD p []):=by rw [getD_get _ _ h];exact o.l _ (N7 h)
def Ve.aok (o:Ve ak aj ao L) (h:p < L.length):Qn ak aj (L.getD p []):=⟨o.g.bok,(o.at_ h).1,Jt (o.at_ h).2.1⟩
def Gb {R:K6} (h:Yg m ((range aj.length).map λi=>k * Zr aj way i - R.getD (way.getD i 0) 0)):∀ i,i < aj.length->m<=Vt true aj way k R i:=λi hi=>h.2 _ (O8.mpr ⟨i,O1.mpr hi,rfl⟩)
theorem Ve.val (o:Ve ak aj ao L):Ma λp m k=>p < L.length/\Kt ak aj ao ps L p m k:=by refine ⟨λ⟨_,R,rws,a,_⟩=>a.k1.1,λ{p m k m' k'} ⟨hp,R,rws,a,b⟩ ⟨_,R',rws',a',b'⟩=>?_⟩;have h1:=Qj6 (o.aok hp) a a'.fair a'.purse (Gb b') b (V4 a'.k1.1);have h2:=Qj6 (o.aok hp) a' a.fair a.purse (Gb b) b' (V4 a.k1.1);lia
def Kb (o:Ve ak aj ao L) (hp:p < L.length) (np:De ak aj ao (L.getD p []) ps rws):¬ Kt ak aj ao ps L p m k:=λ⟨R,rws',a,b⟩=>Ob (o.aok hp) np a.k1.1 a.fair a.purse (Gb b)
theorem Re {R:K6} (g:Jg ak aj) (hr:-(10 ^ 42) < ao/\ao < 10 ^ 42) (ln:way.length=aj.length) (a:Fm ak aj ao way ps k R rws) (b:Yg m ((range aj.length).map λi=>k * Zr aj way i - R.getD (way.getD i 0) 0)):-(10 ^ 70) < m/\m < 10 ^ 70:=by obtain ⟨as,m',pok,f0,f1,hm,hme⟩:=a.pap;have lwo:=g.bok.w1;obtain rfl:=b.eq hm;have hwb:=He (way:=way) g.x (by lia);have pbd:=Qm3 lwo pok;have hxb:=Qxk (x:=wsum (wF aj) way - ao - as.sum) (B:=10 ^ 60) a.k1 ⟨by lia,by lia⟩;have hmb:=Qjv (m:=m) (f:=(c7 rws:Int)) (B:=10 * 10 ^ 60) (by lia) (by rw [hme]; exact hxb);lia
end
def Ky (H:Hp) (P1 P2 P3:G5) (l1 l2 l3:Pos):Prop:=Qe H P1 l1 "bring_in.<locals>.<lambda>"/\Qe H P2 l2 "best_room.<locals>.<lambda>"/\Qe H P3 l3 "loose_ones.<locals>.<lambda>"
section
variable {P1 P2 P3:G5} {l1 l2 l3:Pos}
def Ky.same (h:Ky H P1 P2 P3 l1 l2 l3) (s:Qu H H'):Ky H' P1 P2 P3 l1 l2 l3:=⟨h.1.same s,h.2.1.same s,h.2.2.same s⟩
def Ky.two (h:Ky H P1 P2 P3 l1 l2 l3) (n2:P2≠P1) (n3:P3≠P1) (s:Vo P2 P3 H H') (a:Qe H' P2 l2 "best_room.<locals>.<lambda>") (b:Qe H' P3 l3 "loose_ones.<locals>.<lambda>"):Ky H' P1 P2 P3 l1 l2 l3:=by
 refine ⟨?_,a,b⟩;obtain ⟨x2,t2⟩:=h.2.1.tbl;obtain ⟨x3,t3⟩:=h.2.2.tbl;rcases h.1 with h | ⟨c',oc,vs,t,h1,h2,h3⟩
 ·exact .inl (s _ _ h n2.symm n3.symm)
 ·refine .inr ⟨c',oc,vs,t,s _ _ h1 n2.symm n3.symm,s _ _ h2 (λe=>?_) (λe=>?_),h3⟩
  ·rw [e,t2] at h2; cases h2
  ·rw [e,t3] at h2; cases h2
end
def Lm (CH P1 P2 P3:G5) (l1 l2 l3:Pos):Sp:=λvs H Q _ => ∃ (x:G5) (ak:K6) (aj:J7) (ao:Int),vs=[.ref x,.str (Qo7 true)]/\Zv CH H x ak aj ao/\Jg ak aj/\Ky H P1 P2 P3 l1 l2 l3 /\
 ∀ (t wy t0 tp rl cl:G5) (way:K7) (aq:List Hop) (st:TC) (rows:K6) (H':Hp),Qc H H'->Ky H' P1 P2 P3 l1 l2 l3->H' t=some (.tup [.ref wy,.ref tp,.ref cl])->H' wy=some (.lst ((wI way).map V.int))->Qn ak aj way->Fit (bF ak) way->Opt ak aj way->Iy true H' t0 tp rl cl ak aj ao way aq st rows->Q (.ref t) H'
def Qw4 (CH P1 P2 P3:G5) (l1 l2 l3:Pos):Sp:=λvs H Q _ => ∃ (x:G5) (ak:K6) (aj:J7) (ao:Int),vs=[.ref x]/\Zv CH H x ak aj ao/\Jg ak aj/\Ky H P1 P2 P3 l1 l2 l3/\(-(10 ^ 42) < ao/\ao < 10 ^ 42) /\
 ∀ (l:G5) (rows:K6) (H':Hp),Qc H H'->Ky H' P1 P2 P3 l1 l2 l3->Told true ak aj ao rows->Mat H' l (Fo (aj.length:Int) ak.length aj rows)->Q (.ref l) H'
def Iz (ak:K6) (aj:J7) (rows:K6):Nat:=Qqw (Hn aj.length ak.length (Fu (aj.length:Int) ak.length aj rows))
def Ce (CH eM:G5) (P1 P2 P3:G5) (l1 l2 l3:Pos):Sp:=λvs H Q E => ∃ (x:G5) (ak:K6) (aj:J7) (ao:Int),vs=[.ref x]/\Zv CH H x ak aj ao/\Jg ak aj/\Ky H P1 P2 P3 l1 l2 l3/\(-(10 ^ 42) < ao/\ao < 10 ^ 42) /\
 ∀ (rows:K6) (H':Hp),Qc H H'->Ky H' P1 P2 P3 l1 l2 l3->Told true ak aj ao rows->(Iz ak aj rows<=200->∀ l,Mat H' l ((Ux ak aj).map wI)->Q (.ref l) H')/\(200 < Iz ak aj rows->E (.ref eM) none H')
def Qbq (CH:G5) (P1 P2 P3:G5) (l1 l2 l3:Pos):Sp:=λvs H Q _ => ∃ (x:G5) (ak:K6) (aj:J7) (ao:Int),vs=[.ref x]/\Zv CH H x ak aj ao/\Jg ak aj/\Ky H P1 P2 P3 l1 l2 l3/\(-(10 ^ 42) < ao/\ao < 10 ^ 42) /\
 ∀ (rows:K6) (H':Hp),Qc H H'->Ky H' P1 P2 P3 l1 l2 l3->Told true ak aj ao rows->(Iz ak aj rows<=200->∀ l,Mat H' l ((Ux ak aj).map wI)->Q (.ref l) H')/\(200 < Iz ak aj rows->Q .non H')
def Mb (CH:G5):Sp:=λvs H Q _ => ∃ (x wy t tp rl pl:G5) (ak:K6) (aj:J7) (ao:Int) (way:K7) (ps:K1) (k:Int) (R:K6) (rws:List (M5 × List Xy)),vs=[.ref x,.ref wy,.ref t]/\Zv CH H x ak aj ao/\Jg ak aj/\H wy=some (.lst ((wI way).map V.int))/\way.length=aj.length/\Fit (bF ak) way/\H t=some (.tup [.str (Str.ofString "kept"),.ref tp,.ref pl])/\H tp=some (.tup [.int k,.ref rl])/\H rl=some (.lst (R.map V.int))/\Fm ak aj ao way ps k R rws /\
 ∀ t' m H',Qu H H'->H' t'=some (.tup [.int m,.int k])->Yg m ((range aj.length).map λi=>k * Zr aj way i - R.getD (way.getD i 0) 0)->Q (.ref t') H'
def Qnz (H:Hp) (t:G5) (ak:K6) (aj:J7) (ao:Int) (ps:K1) (L:J8):Prop:=∃ (wy tp rl pl:G5) (j:Nat) (m k:Int) (R:K6) (rws:List (M5 × List Xy)),H t=some (.tup [.str (Str.ofString "kept"),.ref wy,.ref tp,.ref pl])/\H wy=some (.lst ((wI (L.getD j [])).map V.int))/\H tp=some (.tup [.int k,.ref rl])/\H rl=some (.lst (R.map V.int))/\Zi H pl rws/\Fm ak aj ao (L.getD j []) ps k R rws/\Ye (λp m k=>p < L.length/\Kt ak aj ao ps L p m k) (· < L.length) j m k
def Qd6 (H:Hp) (t:G5) (ak:K6) (aj:J7) (ao:Int) (ps:K1) (L:J8):Prop:=∃ (l:G5) (ts:K9),H t=some (.tup [.str (Str.ofString "none"),.ref l])/\H l=some (.lst (ts.map V.ref))/\ts.length=L.length/\∀ i,i < L.length->∃ (u wy pl:G5) (rws:List (M5 × List Xy)),ts[i]? = some u/\H u=some (.tup [.ref wy,.ref pl])/\H wy=some (.lst ((wI (L.getD i [])).map V.int))/\Zi H pl rws/\De ak aj ao (L.getD i []) ps rws
def Zi.bf {H H':Hp} {pl:G5} {rows:List (M5 × List Xy)} (h:Zi H pl rows) (s:Qc H H'):Zi H' pl rows:=by obtain ⟨ts,f1,f2,f3⟩:=h;refine ⟨ts,s.to _ _ f1 rfl,f2,λi t r a b=>?_⟩;obtain ⟨c,c1,c2⟩:=f3 i t r a b;exact ⟨c,s.to _ _ c1 rfl,c2.bf s⟩
def Qnz.same {L:J8} (h:Qnz H t ak aj ao ps L) (s:Qc H H'):Qnz H' t ak aj ao ps L:=by obtain ⟨wy,tp,rl,pl,j,m,k,R,rws,h1,h2,h3,h4,h5,h6⟩:=h;exact ⟨wy,tp,rl,pl,j,m,k,R,rws,s.to _ _ h1 rfl,s.to _ _ h2 rfl,s.to _ _ h3 rfl,s.to _ _ h4 rfl,Zi.bf h5 s,h6⟩
def Qd6.same {L:J8} (h:Qd6 H t ak aj ao ps L) (s:Qc H H'):Qd6 H' t ak aj ao ps L:=by obtain ⟨l,ts,h1,h2,h3,h4⟩:=h;refine ⟨l,ts,s.to _ _ h1 rfl,s.to _ _ h2 rfl,h3,λi hi=>?_⟩;obtain ⟨u,wy,pl,rws,g1,g2,g3,g4,g5⟩:=h4 i hi;exact ⟨u,wy,pl,rws,g1,s.to _ _ g2 rfl,s.to _ _ g3 rfl,Zi.bf g4 s,g5⟩
def Qiq (CH eM:G5) (P1 P2 P3:G5) (l1 l2 l3:Pos):Sp:=λvs H Q E => ∃ (x pu:G5) (ak:K6) (aj:J7) (ao:Int) (ps:K1),vs=[.ref x,.ref pu]/\Zv CH H x ak aj ao/\Jg ak aj/\Ky H P1 P2 P3 l1 l2 l3/\(-(10 ^ 42) < ao/\ao < 10 ^ 42)/\H pu=some (.lst (ps.map oV))/\ps.length=aj.length/\(∀ i x,ps.getD i none=some x->-(10 ^ 42) < x/\x < 10 ^ 42) /\
 ∀ (rows:K6) (H':Hp),Qc H H'->Ky H' P1 P2 P3 l1 l2 l3->Told true ak aj ao rows->(Iz ak aj rows<=200->∀ t,Qnz H' t ak aj ao ps (Ux ak aj)\/Qd6 H' t ak aj ao ps (Ux ak aj)->Q (.ref t) H')/\(200 < Iz ak aj rows->E (.ref eM) none H')
def Qw6 (CH:G5) (P1 P2 P3:G5) (l1 l2 l3:Pos):Sp:=λvs H Q _ => ∃ (x pu:G5) (ak:K6) (aj:J7) (ao:Int) (ps:K1),vs=[.ref x,.ref pu]/\Zv CH H x ak aj ao/\Jg ak aj/\Ky H P1 P2 P3 l1 l2 l3/\(-(10 ^ 42) < ao/\ao < 10 ^ 42)/\H pu=some (.lst (ps.map oV))/\ps.length=aj.length/\(∀ i x,ps.getD i none=some x->-(10 ^ 42) < x/\x < 10 ^ 42) /\
 ∀ (rows:K6) (H':Hp),Qc H H'->Ky H' P1 P2 P3 l1 l2 l3->Told true ak aj ao rows->(Iz ak aj rows<=200->∀ t f,H' t=some (.tup [.ref f,.bl false])->Qnz H' f ak aj ao ps (Ux ak aj)\/Qd6 H' f ak aj ao ps (Ux ak aj)->Q (.ref t) H')/\(200 < Iz ak aj rows->∀ t,H' t=some (.tup [.non,.bl true])->Q (.ref t) H')
def Qw2 (CH:G5) (P1 P2 P3:G5) (l1 l2 l3:Pos):Sp:=λvs H Q _ => ∃ (x w l pu:G5) (ak:K6) (aj:J7) (ao:Int) (ps:K1) (L:J8),vs=[.ref x,.ref w,.ref l,.ref pu]/\Zv CH H x ak aj ao/\Ve ak aj ao L/\Mat H w aj/\Mat H l (L.map wI)/\Ky H P1 P2 P3 l1 l2 l3/\H pu=some (.lst (ps.map oV))/\ps.length=aj.length/\(∀ i x,ps.getD i none=some x->-(10 ^ 42) < x/\x < 10 ^ 42) /\
 ∀ H',Qc H H'->((∀ p,p < L.length->∀ m k,¬ Kt ak aj ao ps L p m k)->Q .non H')/\∀ t wy j m k,H' t=some (.tup [.int m,.int k,.ref wy])->H' wy=some (.lst ((wI (L.getD j [])).map V.int))->Ye (λp m k=>p < L.length/\Kt ak aj ao ps L p m k) (· < L.length) j m k->Q (.ref t) H'
def Ca:Sp:=λvs H Q _ => ∃ (b w l pu f:G5) (ak:K6) (aj:J7) (ao:Int) (ps:K1) (L:J8),vs=[.ref b,.ref w,.int ao,.ref l,.ref pu,.ref f]/\H b=some (.lst (ak.map V.int))/\Mat H w aj/\Ve ak aj ao L/\Mat H l (L.map wI)/\L.length<=1000/\H pu=some (.lst (ps.map oV))/\ps.length=aj.length/\Qd6 H f ak aj ao ps L/\∀ H',Qu H H'->Q (.bl true) H'
section
variable {X:Cx} {a b e o:Expr} {es:M7} {pos p py ir:Pos} {ta tb te:TE} {t:TA} {x y:Str}
def Qb (K:N5) (ha:PE X a ta) (hb:PE X b tb) (h:X.K=K:=by rfl) (hs:Qv4 b:=by exact λ_ _=>rfl):PE X (.Subscript a b pos) (tOp (rIx K) ta tb):=Zq6 (Qrz h) ha hb hs
def Qd {j k:Nat} {ps:M6} {sp:Sp} (D:Def X.prog X.w X.K X.mg X.base k x ps sp) (hr:Jc j X.A) (ha:PA X (e :: es) t) (hk:k<=j:=by decide) (hg:Gl X x:=by rfl) (hdb:(x == ("__debug__" : Str))=false:=by decide) (he:starEach (e :: es) X.env=(false,eval e X.env) :: starEach es X.env:=by rfl) (hpl:(backTo pos (starEach es X.env)).any (·.1)=false:=by rfl):PE X (.Call (.Name x p) (e :: es) [] pos) (Qz4 sp [] E0 t):=Qa9 D (hr.mono hk) hg ha hdb he hpl
def Qg (i:Nat) (hN:X.N.Nodup) (he:PE X e te) (hi:X.N[i]? = some x:=by rfl) (hx:Loc X.env.scope x:=by first | exact Or.inl rfl | exact Or.inr rfl) (hs:swapsWith e (some (.Name x py)) pos.line X.env=pure false:=by rfl) (hf:X.fn x=true\/X.env.scope.names.lookup x=some .local:=by first | exact .inl rfl | exact .inr rfl | assumption):PS X (.Assign [.Name x py] e pos) (Qn9 te (Jl i)):=Qiw hN hi hx he hs hf
def Ql (i:Nat) (hN:X.N.Nodup) (hi:X.N[i]? = some x:=by rfl) (hx:Loc X.env.scope x:=by first | exact Or.inl rfl | exact Or.inr rfl) (hf:X.fn x=true\/X.env.scope.names.lookup x=some .local:=by first | exact .inl rfl | exact .inr rfl | assumption):PG X (.Name x pos) (Jl i):=Ts hN hi hx hf
section
variable {scope:Scope} {iter elt c:Expr} {wi:TI} {tt:TT}
def Xz (Nc:M6) (ix:K3) (hi:PI X (.Name y py) iter wi) (he:∀ {C s0 H0 fp},PE (Ze X scope C s0 H0 fp Nc) elt te) (hc:X.calm=true:=by rfl) (ok:Yu scope X.env.scope=true:=by rfl) (hix:Fg scope X.N Nc ix=true:=by rfl)
  (nd:Nc.Nodup:=by decide +kernel) (n0:Nc[0]? = some y:=by rfl) (ly:∀ C s0 H0 fp,(Ze X scope C s0 H0 fp Nc).env.scope.names.lookup y=some .local:=by exact λ_ _ _ _=>rfl)
  (hs:∀ x,foldedSetIterable iter X.env x=pure x:=by intro _; rfl):PE X (.ListComp elt [⟨.Name y py,iter,[],0⟩] scope pos) (Qz3 ix wi (Jl 0) Qqj te):=Qxx Nc ix hc ok hix hi (λC s0 H0 fp=>Ts nd n0 (.inl (ly C s0 H0 fp)) (.inr (ly C s0 H0 fp))) (λ_ _ _ _=>Am) (λ_ _ _ _=>he) hs
def Tt (Nc:M6) (ix:K3) (hi:PI X (.Name y py) iter wi) (ht:∀ {C s0 H0 fp},PT (Ze X scope C s0 H0 fp Nc) c tt) (he:∀ {C s0 H0 fp},PE (Ze X scope C s0 H0 fp Nc) elt te) (hc:X.calm=true:=by rfl) (ok:Yu scope X.env.scope=true:=by rfl) (hix:Fg scope X.N Nc ix=true:=by rfl)
  (nd:Nc.Nodup:=by decide +kernel) (n0:Nc[0]? = some y:=by rfl) (ly:∀ C s0 H0 fp,(Ze X scope C s0 H0 fp Nc).env.scope.names.lookup y=some .local:=by exact λ_ _ _ _=>rfl)
  (hs:∀ x,foldedSetIterable iter X.env x=pure x:=by intro _; rfl):PE X (.ListComp elt [⟨.Name y py,iter,[c],0⟩] scope pos) (Qz3 ix wi (Jl 0) tt te):=Qxx Nc ix hc ok hix hi (λC s0 H0 fp=>Ts nd n0 (.inl (ly C s0 H0 fp)) (.inr (ly C s0 H0 fp))) (λ_ _ _ _=>Nt ht) (λ_ _ _ _=>he) hs
def Ws (i:Nat) (hN:X.N.Nodup) (Nc:M6) (ix:K3) (hi:PI X (.Name y py) iter wi) (he:∀ {C s0 H0 fp},PE (Ze X scope C s0 H0 fp Nc) elt te) (hy:X.N[i]? = some x:=by rfl) (hx:Loc X.env.scope x:=by first | exact Or.inl rfl | exact Or.inr rfl) (hc:X.calm=true:=by rfl) (ok:Yu scope X.env.scope=true:=by rfl) (hix:Fg scope X.N Nc ix=true:=by rfl)
  (nd:Nc.Nodup:=by decide +kernel) (n0:Nc[0]? = some y:=by rfl) (ly:∀ C s0 H0 fp,(Ze X scope C s0 H0 fp Nc).env.scope.names.lookup y=some .local:=by exact λ_ _ _ _=>rfl)
  (hs:∀ x,foldedSetIterable iter X.env x=pure x:=by intro _; rfl) (hsw:swapsWith (.ListComp elt [⟨.Name y py,iter,[],0⟩] scope pos) (some (.Name x p)) ir.line X.env=pure true:=by rfl) (hf:X.fn x=true\/X.env.scope.names.lookup x=some .local:=by first | exact .inl rfl | exact .inr rfl | assumption) :
  PS X (.Assign [.Name x p] (.ListComp elt [⟨.Name y py,iter,[],0⟩] scope pos) ir) (Qn9 (Qz3 ix wi (Jl 0) Qqj te) (Jl i)):=Cj hN hy hx Nc ix hc ok hix hi (λC s0 H0 fp=>Ts nd n0 (.inl (ly C s0 H0 fp)) (.inr (ly C s0 H0 fp))) (λ_ _ _ _=>Am) (λ_ _ _ _=>he) hs hsw hf
end
section
variable (K:N5)
def Zk (hm:X.mg "len" = none) (ha:PA X (e :: es) t) (h:X.K=K:=by rfl) (hg:Gl X "len" := by rfl) (he:starEach (e :: es) X.env=(false,eval e X.env) :: starEach es X.env:=by rfl) (hpl:(backTo pos (starEach es X.env)).any (·.1)=false:=by rfl):PE X (.Call (.Name "len" p) (e :: es) [] pos) (tCB (Zz6 K) t):=Qt (Qu6 h) hg hm Qu8 ha (by decide) (by decide) he hpl
def Wi (hm:X.mg "list" = none) (ha:PA X (e :: es) t) (h:X.K=K:=by rfl) (hg:Gl X "list" := by rfl) (he:starEach (e :: es) X.env=(false,eval e X.env) :: starEach es X.env:=by rfl) (hpl:(backTo pos (starEach es X.env)).any (·.1)=false:=by rfl):PE X (.Call (.Name "list" p) (e :: es) [] pos) (tCB (Qx8 K) t):=Tx (Mm h) hg hm Jd ha (by decide) (by decide) he hpl
def Zj (hm:X.mg "isinstance" = none) (ha:PA X (e :: es) t) (h:X.K=K:=by rfl) (hg:Gl X "isinstance" := by rfl) (he:starEach (e :: es) X.env=(false,eval e X.env) :: starEach es X.env:=by rfl) (hpl:(backTo pos (starEach es X.env)).any (·.1)=false:=by rfl):PE X (.Call (.Name "isinstance" p) (e :: es) [] pos) (tCB (rIs K) t):=Qt (Hm h) hg hm Kv ha (by decide) (by decide) he hpl
def Yy {f:Str} (ha:PE X a ta) (h:X.K=K:=by rfl) (hb:attributeBase a f X.env (eval a X.env)=eval a X.env:=by rfl):PE X (.Attribute a f pos) (Qek K ta f):=Qlv h ha hb
def Wn {tg:Expr} (hl:PE X a ta) (h:X.K=K:=by rfl):PI X tg a (Qdx K ta):=Qpz h hl
end
def Zo {tg:Expr} (hm:X.mg "range" = none) (ha:PA X [a] t) (hg:Gl X "range" := by rfl) (hs:starEach [a] X.env=[(false,eval a X.env)]:=by rfl):PI X tg (.Call (.Name "range" p) [a] [] pos) (Qs9 t):=Qk7 hg hm ha hs
def q_t {op:CmpOp} {r:R2} (ho:OpR X (compareOp op) r) (ha:PE X a ta) (hb:PE X b tb) (hm:behindInMarks op b=false:=by exact Vl _):PT X (.Compare a [op] [b] pos) (Qdq (tOp r ta tb)):=Vx ho ha hb hm
end
def ixW {K:N5} {a:G5} {i:Int} {v:V} {Q:VK} (j:Nat) (h:H a=some (.lst xs)) (e:xs[j]? = some v) (q:Q v H) (hi:i=(j:Int):=by rfl):rIx K (.ref a) (.int i) H Q:=ixL (SqL.of h) (Qs j hi e) q
def ixU {K:N5} {a:G5} {i:Int} {v:V} {Q:VK} (h:H a=some (.tup xs)) (e:atI xs i=some v) (q:Q v H):rIx K (.ref a) (.int i) H Q:=ixT (SqT.of h) e q
def Us (b w:G5) (r:Int) {m:Str} (h1:¬ m="rent" := by decide +kernel) (h2:¬ m="worths" := by decide +kernel) (h3:¬ m="beds" := by decide +kernel):(Fh b w r).lookup m=none:=Zqq b w r h1 h2 h3
section
variable {X:Cx} {o e:Expr} {es:M7} {to:TE} {t:TA} {ir iw:Pos}
def Tf (K:N5) (ho:PE X o to) (ha:PA X (e :: es) t) (h:X.K=K:=by rfl)
  (jq:attributeBase o "append" X.env (eval o X.env)=eval o X.env:=by rfl)
  (mz:((backTo iw (starEach (e :: es) X.env)).all (λx => !x.1) && (backToKw iw (keywordEach [] X.env)).all (λx=>x.1.isSome) && decide ((e :: es).length + ([]:List Keyword).length + (if ([]:List Keyword).isEmpty then 0 else 1) < 30))=true:=by rfl)
  (jr:(ir.endLine == iw.line)=true:=by rfl) (hs:starEach (e :: es) X.env=(false,eval e X.env) :: starEach es X.env:=by rfl) (jg:(backTo iw (starEach es X.env)).any (·.1)=false:=by rfl) :
  PE X (.Call (.Attribute o "append" ir) (e :: es) [] iw) (tBM K "list" Qx9 to t):=Mo h A0w PySem.F.slot_list_append PySem.F.type_list_append Bt ho ha jq mz jr hs jg
end
def sml (h:n<=100000:=by lia):n < sizeLine:=by rw [sizeLine_eq]; lia
def Qd2 {N P:M6} {sc:Scope} (h1:sc.kind=.function:=by rfl) (h2:sc.isCoroutine=false:=by rfl) (h3:sc.isGenerator=false:=by rfl) (h4:N.Nodup:=by decide +kernel) (h5:N.take P.length=P:=by rfl) (h6:∀ x∈P,sc.names.lookup x=some .local\/sc.names.lookup x=some .cell:=by decide +kernel) (h7:∀ y∈sc.names,y.2≠.free:=by decide +kernel):Xn N P sc:=⟨h1,h2,h3,h4,h5,h6,h7⟩
section
variable {P:G8} {w:World} {K:N5} {mg:K4} {base:Heap} {x qual:Str} {st:Stmt} {N ps:M6} {k:Nat} {sp:Sp}
abbrev Qsx (ps:M6) (sp:Sp):Prop:=∀ vs H Q E,sp vs H Q E->vs.length=ps.length
abbrev Qd1 (x qual:Str) (st:Stmt) (ps:M6):Prop:=∀ (kV doc pm:G3) (an:M8) (cdv ct:G3) (us:K8),us.length=ps.length->bindArgs (PySem.W.fnOf x qual (Yx st) (Zl st) (Qf st) .none kV doc pm an cdv ct) ⟨us,[]⟩=pure (ps.zip us)
def Src.mq (S:Src K mg x qual st) (N:M6) (iu:∀ {f:G5} {cdv:G3} {A:G7} {outer:List Env} {s:G4} (H:Hp) (vs:List V) (Q:VK) (E:XK),Jc k (A.deeper (envOfC qual (Qf st) s.heap.objs.size f cdv))->N.Nodup->sp vs H Q E->∃ t,PSs (Hs CX0 P w K mg base N qual (Qf st) f cdv A outer s H E).nox (Zl st) t/\t { nx:=λ_ H'=>Q .non H',rt:=Q } (start N vs) H)
  (Sc:Xn N ps (Qf st):=by exact Qd2) (len:Qsx ps sp:=by intro vs H Q E h; (repeat (obtain ⟨_,h⟩:=h)); subst_vars; rfl) (hb:Qd1 x qual st ps:=by (intro _ _ _ _ _ _ us hl; rcases us with _ | ⟨_,_ | ⟨_,_ | ⟨_,_ | ⟨_,_ | ⟨_,_ | ⟨_,_ | ⟨_,_ | ⟨_,_⟩⟩⟩⟩⟩⟩⟩⟩ <;> first | rfl | exact absurd hl (by decide) | (simp at hl; done))):Def P w K mg base (k + 1) x ps sp:=S.mk' Sc len hb λ_ _ _ _ _ H vs Q E hr h=>iu H vs Q E hr Sc.nd h
def Kk.mq {C:G5} (S:Kk K C x qual st) (N:M6) (iu:∀ {f:G5} {cdv:G3} {A:G7} {outer:List Env} {s:G4} (H:Hp) (vs:List V) (Q:VK) (E:XK),Jc k (A.deeper (envOfC qual (Qf st) s.heap.objs.size f cdv))->N.Nodup->sp vs H Q E->∃ t,PSs (Hs CX0 P w K mg base N qual (Qf st) f cdv A outer s H E).nox (Zl st) t/\t { nx:=λ_ H'=>Q .non H',rt:=Q } (start N vs) H)
  (Sc:Xn N ps (Qf st):=by exact Qd2) (len:Qsx ps sp:=by intro vs H Q E h; (repeat (obtain ⟨_,h⟩:=h)); subst_vars; rfl) (hb:Qd1 x qual st ps:=by (intro _ _ _ _ _ _ us hl; rcases us with _ | ⟨_,_ | ⟨_,_ | ⟨_,_ | ⟨_,_ | ⟨_,_ | ⟨_,_ | ⟨_,_ | ⟨_,_⟩⟩⟩⟩⟩⟩⟩⟩ <;> first | rfl | exact absurd hl (by decide) | (simp at hl; done))):Iv P w K mg base (k + 1) C x ps sp:=S.mk' Sc len hb λ_ _ _ _ _ H vs Q E hr h=>iu H vs Q E hr Sc.nd h
end
section
variable {X:Cx} {e iter tg:Expr} {te:TE} {pos:Pos} {wi:TI} {g:TG} {tb:TS} {body:List Stmt}
def Qh (he:PE X e te):PSs X [.Return (some e) pos] (Zz1 te):=Qm (Qik he)
def Xr (hi:PI X tg iter wi) (hg:PG X tg g) (hb:PSs X body tb) (hp:PassesOwn (model X.prog X.w) X.A X.env X.xe:=by exact A1g) (hc:X.calm=true:=by rfl) (hs:∀ x,foldedSetIterable iter X.env x=pure x:=by intro _; rfl):PS X (.For tg iter body [] pos) (Zz2 wi g tb):=Qa1 hp hc hi hg hb hs
end
abbrev rf (a:G5):Option V:=some (.ref a)
abbrev iv (z:Int):Option V:=some (.int z)
abbrev TL (α:Type):=α->St->Hp->Unit->Prop
section
variable {X:Cx} {st:Stmt} {j7 sts:List Stmt} {t u P:TS} {B:TL Iw} {F:TS->TS} {C:(TS->TS)->TS} {D:Iw} {σ:St}
def Zx5 (P:TS) (F:TS->TS):TS:=λD σ H => ∀ B:TL Iw,(∀ D σ H,P D σ H->B D σ H ())->F (λD σ H=>B D σ H ()) D σ H
def hop {α:Type} {B:TL α} {P:α->St->Hp->Prop} {d:α} (h:∀ d σ H,P d σ H->B d σ H ()) (k:P d σ H):B d σ H ():=h d σ H k
def PSC (X:Cx) (sts:List Stmt) (C:(TS->TS)->TS):Prop:=∃ P,PSs X sts P/\∀ k D σ H,C k D σ H->k P D σ H
def zc1 (h:PS X st t):PSC X [st] λk=>k t:=⟨t,Qm h,λ_ _ _ _ x=>x⟩
def zcL (h:PSs X sts t):PSC X sts λk=>k t:=⟨t,h,λ_ _ _ _ x=>x⟩
def zcC (h1:PS X st t) (h2:PSC X j7 C):PSC X (st :: j7) λk=>C λu=>Zx5 u λB=>k (Zz0 t B):=by obtain ⟨P,h,m⟩:=h2;exact ⟨_,Qw h1 h,λk D σ H x=>m _ D σ H x (λD σ H _=>P D σ H) λ_ _ _ y=>y⟩
def zcF (h:PSC X sts C):PSs X sts (C λt=>t):=by obtain ⟨P,h,m⟩:=h;exact λdz s σ H D I x=>h dz s σ H D I (m _ D σ H x)
def Qi4 (t:TS):TS:=λD σ H => ∃ M:St->Hp->Prop,(∀ N:TL Unit,(∀ d σ H,M σ H->N d σ H ())->t { D with nx:=λσ H=>N () σ H () } σ H)/\∀ σ' H',M σ' H'->D.nx σ' H'
def zcJ (h:PS X st t):PS X st (Qi4 t):=λdz s σ H D I ⟨M,q,hM⟩=>Ql4 h dz s σ H D I ⟨M,q (λ_ σ H _=>M σ H) λ_ _ _ x=>x,hM⟩
variable {g:TG} {tb:TS} {K:N5} {a:G5} {lo:Int}
def Zu (Pv:Nat->St->Hp->Prop) (h0:Pv 0 σ H)
  (hs:∀ {N:TL Nat} {_:∀ i σ H,Pv i σ H->N i σ H ()},∀ i σ H,i < n->Pv i σ H->g (.int (lo + i)) σ H λσ2 H2=>tb { D with nx:=λσ H=>N (i + 1) σ H (),ct:=λσ H=>N (i + 1) σ H (),bk:=D.nx } σ2 H2) (hd:∀ σ H,Pv n σ H->D.nx σ H) :
  ∃ W:Nat->Nat->St->Hp->Prop,(∃ m,W 0 m σ H)/\∀ i m σ H,W i m σ H ->
   ((Itr lo n).stop i H/\D.nx σ H)\/((Itr lo n).go i H/\∃ N:St->Hp->Prop,(∀ σ' H',N σ' H'->∃ m',m' < m/\W (i + 1) m' σ' H')/\∀ x H',(Itr lo n).yld i H x H'->g x σ H' λσ2 H2=>tb { D with nx:=N,ct:=N,bk:=D.nx } σ2 H2) :=
 Ja Pv h0 (@hs (λi σ H _=>Pv i σ H) λ_ _ _ x=>x) hd
def Je (Pv:Nat->St->Hp->Prop) (h0:Pv 0 σ H) (hl:∀ i σ H,i<=xs.length->Pv i σ H->SqL K H a xs)
  (hs:∀ {N:TL Nat} {_:∀ i σ H,Pv i σ H->N i σ H ()},∀ i x σ H,xs[i]? = some x->Pv i σ H->g x σ H λσ2 H2=>tb { D with nx:=λσ H=>N (i + 1) σ H (),ct:=λσ H=>N (i + 1) σ H (),bk:=D.nx } σ2 H2) (hd:∀ σ H,Pv xs.length σ H->D.nx σ H) :
  ∃ W:Nat->Nat->St->Hp->Prop,(∃ m,W 0 m σ H)/\∀ i m σ H,W i m σ H ->
   ((Itl K a).stop i H/\D.nx σ H)\/((Itl K a).go i H/\∃ N:St->Hp->Prop,(∀ σ' H',N σ' H'->∃ m',m' < m/\W (i + 1) m' σ' H')/\∀ x H',(Itl K a).yld i H x H'->g x σ H' λσ2 H2=>tb { D with nx:=N,ct:=N,bk:=D.nx } σ2 H2) :=
 Tq Pv h0 hl (@hs (λi σ H _=>Pv i σ H) λ_ _ _ x=>x) hd
end
end L2
local macro_rules | `(tactic| symm) => `(tactic| walk_at "")
local macro_rules | `(tactic| nofun) => `(tactic| walk_at "b")
local macro_rules | `(tactic| walk_at "") => `(tactic| repeat (first
 | refine ⟨_,rfl,?_⟩
 | refine ⟨_,_,rfl,rfl,?_⟩
 | refine ⟨rfl,?_⟩
 | refine ⟨⟨⟨by lia,by lia⟩,⟨by lia,by lia⟩⟩,?_⟩
 | refine ⟨⟨by lia,by lia⟩,?_⟩
 | refine ⟨⟨by decide,by decide,by decide⟩,?_⟩
 | refine ⟨⟨by decide,by decide,by lia⟩,?_⟩
 | refine And.intro (by decide) ?_
 | refine And.intro (by show (0:Int) < _; decide) ?_
 | refine And.intro (by (with_reducible show List.length _<=PySem.sizeLine); exact L2.Zn (by simp)) ?_
 | refine And.intro (by lia) ?_
 | refine L2.hop (by assumption) ?_
 | refine @λ(_:L2.TL _) _=>?_))
local macro_rules | `(tactic| walk_at "b") => `(tactic| first | (refine L2.hop (by assumption) ?_) | ((refine @λ(_:L2.TL _) _=>?_); (repeat refine @λ(_:L2.TL _) _=>?_)))
set_option hygiene false in
local macro_rules | `(tactic| walk_at "s") => `(tactic| (dsimp only [L2.KOf]; refine' L2.Qi9 KX G ?a ?l ?c ?k; (case a=>k_is); (case l=>k_is); (case c=>k_is); (case k=>k_is)))
local macro_rules | `(tactic| walk_at "m") => `(tactic| refine ⟨_,_,rfl,rfl,⟨by lia,by lia⟩,?_⟩)
local macro_rules | `(tactic| walk_at "r") => `(tactic| (refine ⟨_,rfl,by lia,by lia,?_⟩; rw [Int.toNat_natCast]))
set_option hygiene false in
local macro_rules | `(tactic| walk_at "d") => `(tactic| (refine ⟨_,rfl,by lia,by lia,λD hD=>?_⟩; rw [Int.toNat_natCast]))
namespace My
open PySem L2 BW
abbrev Y0:Str:="_law_worths_here"
abbrev Y1:Str:="_law_beds_here"
abbrev Y2:Str:="house"
abbrev Y3:Str:="_law_purses_here"
abbrev Y4:Str:="_law_way"
abbrev Y5:Str:="aim"
abbrev Y6:Str:="_law_script"
abbrev Y7:Str:="person"
abbrev Y8:Str:="way"
abbrev Y9:Str:="_law_i"
abbrev Y10:Str:="_law_house_here"
abbrev Y11:Str:="_law_rent"
abbrev Y12:Str:="_law_rows"
abbrev Y13:Str:="gains"
abbrev Y14:Str:="_law_prices"
abbrev Y15:Str:="_law_paper_here"
abbrev Y16:Str:="self"
abbrev Y17:Str:="_law_ways_here"
abbrev Y18:Str:="_law_row_here"
abbrev Y19:Str:="_law_first_here"
abbrev Y20:Str:="room"
abbrev Y21:Str:="_law_parts"
abbrev Y22:Str:="purses"
abbrev Y23:Str:="_law_found"
abbrev Y24:Str:="held"
abbrev Y25:Str:="_law_number"
abbrev Y26:Str:="_law_k"
abbrev Y27:Str:="parts"
abbrev Y28:Str:="rooms"
abbrev Y29:Str:="prices"
abbrev Y30:Str:="chains"
abbrev Y31:Str:="_law_rooms"
abbrev Y32:Str:="_law_r"
abbrev Y33:Str:="_law_told"
abbrev Y34:Str:="loose"
abbrev Y35:Str:="level"
abbrev Y36:Str:="chain"
abbrev Y37:Str:="costs"
abbrev Y38:Str:="worths"
abbrev Y39:Str:="levels"
abbrev Y40:Str:="_law_people"
abbrev Y41:Str:="answers"
abbrev Y42:Str:="_law_at"
abbrev Y43:Str:="_law_least"
abbrev Y44:Str:="place"
abbrev Pg:G8:=PySem.Challenge.rw_rentshare_k68_within_any_way.prog
def top (i:Nat):Stmt:=PySem.Challenge.pw_rentshare_k68_within_any_way.main.body.getD i (.Pass ⟨0,0,0,0⟩)
structure Txt (mg:K4):Prop where
 u0:mg "len" = none
 u1:mg "range" = none
 u2:mg "enumerate" = none
 u3:mg "isinstance" = none
 u4:mg "int" = none
 u5:mg "bool" = none
 u6:mg "list" = none
 u7:mg "tuple" = none
 u8:mg "min" = none
 u9:mg "max" = none
 u10:mg "sum" = none
 u11:mg "all" = none
 u12:mg "any" = none
 u13:mg "sorted" = none
 u14:mg "set" = none
 u15:mg "reversed" = none
 u16:mg "abs" = none
 u17:∃ v,mg "MOST_LISTS" = some v/\∃ t,v=.int 200 t
abbrev Dk:Stmt:=Wk (top 5) 0
abbrev Ax:Stmt:=Wk (top 5) 1
abbrev Qx6:Stmt:=Wk (top 5) 2
abbrev Wd:Stmt:=top 27
def Xm:Xn [Y2,Y8,"newcomer","moves","turn","end","brought","move",Y13] [Y2,Y8] (Qf Wd):=Qd2
abbrev Vm:Stmt:=top 19
def La:Xn [Y5,Y28,"a","b"] [Y5,Y28,"a","b"] (Qf Vm):=Qd2
abbrev Uk:Stmt:=top 52
def Yh:Xn [Y5,Y13,Y24,"order",Y34,"count"] [Y5,Y13,Y24] (Qf Uk):=Qd2
def Vh:Xn [Y2,Y35,"ways","most"] [Y2] (Qf (top 46)):=Qd2
def Xk:Xn [Y2,Y22,"ways",Y41,Y44,"places","best"] [Y2,Y22] (Qf (top 56)):=Qd2
abbrev Yz:Stmt:=Wk (top 11) 0
abbrev Wg:Stmt:=Wk (top 14) 0
abbrev Ps:Stmt:=Wk (top 14) 1
abbrev Tw:Stmt:=Wk (top 14) 2
abbrev Tu:Stmt:=Wk (top 14) 3
def Xa:Pos:=⟨151,42,151,66⟩
def Zy:Pos:=⟨101,26,101,59⟩
def Zc:Pos:=⟨244,42,244,85⟩
structure Sx (P:G8) (w:World) (K:N5) (mg:K4) (base:Heap) (CH au CEven Pa Pb Pc eM cB cR cL:G5):Prop where
 T:Txt mg
 HC:Zx1 K mg CH
 a2:Kk K CH "__init__" "House.__init__" Dk
 a3:Kk K CH "people" "House.people" Ax
 a4:Kk K CH "rooms" "House.rooms" Qx6
 a5:Src K mg "lying" "lying" (top 6)
 a6:Src K mg "open_rooms" "open_rooms" (top 7)
 a7:Src K mg "improve" "improve" (top 26)
 a8:SrcL K mg "bring_in" "bring_in" Wd cB Pa
 a9:base.BuiltinsAt mg Pa
 a10:Src K mg "best_way" "best_way" (top 28)
 a11:Src K mg "with_open" "with_open" (top 12)
 a12:Src K mg "own_worth" "own_worth" (top 13)
 a13:Kk K au "through" "Worst.through" Wg
 a14:Kk K au "gain" "Worst.gain" Ps
 b7:Dj K mg au "Worst"
 a16:SrcL K mg "best_room" "best_room" Vm cR Pb
 a17:base.BuiltinsAt mg Pb
 a18:Src K mg "best_hops" "best_hops" (top 20)
 a19:Src K mg "hop_on" "hop_on" (top 21)
 a20:Src K mg "carry" "carry" (top 22)
 a21:Src K mg "greatest" "greatest" (top 23)
 a22:Src K mg "_law_mixed" "_law_mixed" (top 59)
 a23:Src K mg "_law_cell_at" "_law_cell_at" (top 58)
 a24:Src K mg "_law_beds" "_law_beds" (top 60)
 a25:Src K mg "_law_worths" "_law_worths" (top 61)
 a26:Src K mg "_law_house" "_law_house" (top 62)
 a27:Src K mg "is_hop" "is_hop" (top 17)
 a28:Src K mg "chain_gain" "chain_gain" (top 18)
 a29:Src K mg "worth_of" "worth_of" (top 8)
 a30:Kk K au "whole" "Worst.whole" Tw
 a31:Kk K au "price" "Worst.price" Tu
 a32:Src K mg "bound" "bound" (top 24)
 a33:Src K mg "common_divisor" "common_divisor" (top 30)
 a34:Src K mg "lowest" "lowest" (top 31)
 a35:Src K mg "room_price" "room_price" (top 34)
 a36:Src K mg "prices_at" "prices_at" (top 35)
 a37:Src K mg "divide" "divide" (top 36)
 a38:Src K mg "beginning" "beginning" (top 49)
 a39:Src K mg "purse_row" "purse_row" (top 50)
 a40:Src K mg "purse_share" "purse_share" (top 48)
 a41:Src K mg "free_bound" "free_bound" (top 51)
 a42:Src K mg "less" "less" (top 32)
 a43:SrcL K mg "loose_ones" "loose_ones" Uk cL Pc
 a44:base.BuiltinsAt mg Pc
 a45:Src K mg "kept_by" "kept_by" (top 53)
 a46:Pc≠Pb
 a47:Src K mg "within" "within" (top 54)
 a48:Src K mg "_law_whole" "_law_whole" (top 64)
 a49:Src K mg "paid" "paid" (top 39)
 a50:Src K mg "shares" "shares" (top 40)
 a51:Pb≠Pa
 a52:Pc≠Pa
 a53:Dj K mg CEven "Even"
 a54:Src K mg "share_out" "share_out" (top 37)
 a55:Src K mg "level_rooms" "level_rooms" (top 43)
 a56:Src K mg "product" "product" (top 44)
 a57:Src K mg "all_lists" "all_lists" (top 45)
 a58:Src K mg "is_way" "is_way" (top 9)
 HE:Zx2 K mg eM
 a60:Src K mg "all_ways" "all_ways" (top 46)
 a61:Src K mg "least_share" "least_share" (top 55)
 a62:Src K mg "within_any" "within_any" (top 56)
 a63:Src K mg "_law_free" "_law_free" (top 65)
 a64:Src K mg "_law_fair" "_law_fair" (top 66)
 a65:Src K mg "_law_common" "_law_common" (top 67)
 a66:Src K mg "_law_priced" "_law_priced" (top 68)
 a67:Src K mg "_law_hop_gain" "_law_hop_gain" (top 69)
 a68:Src K mg "_law_chain" "_law_chain" (top 70)
 a69:Src K mg "_law_row" "_law_row" (top 71)
 a70:Src K mg "_law_paper" "_law_paper" (top 72)
 a71:Src K mg "_law_purses" "_law_purses" (top 73)
 a72:Src K mg "_law_kept" "_law_kept" (top 74)
 a73:Src K mg "_law_none" "_law_none" (top 75)
 a74:Src K mg "_law_broad" "_law_broad" (top 63)
 a75:Src K mg "_law_ways" "_law_ways" (top 76)
 a76:Src K mg "_law_asked" "_law_asked" (top 77)
 a77:Src K mg "_law_first" "_law_first" (top 78)
 a78:Src K mg "_law_all_none" "_law_all_none" (top 79)
 a79:Src K mg "law" "law" (top 80)
 a80:Kk K au "__init__" "Aim.__init__" Yz
 a81:Kk K CEven "__init__" "Aim.__init__" Yz
section
variable {P:G8} {w:World} {K:N5} {mg:K4} {base:Heap}
theorem Np {CH C:G5} (T:Txt mg) (AC:Qz1 K C) (S:Kk K C "__init__" "Aim.__init__" Yz):Iv P w K mg base 1 C "__init__" [Y16,Y2,Y8] (Qp1 CH C):=by
 refine S.mq [Y16,Y2,Y8] @λf _ _ _ _ H vs Q E hr nD h=>?_;obtain ⟨p,dx,hp,wa,ak,aj,ao,way,rfl,hP,hA,hw,q⟩:=h;refine ⟨_,(zcF (zcC (Ki (K:=K) rfl (pv 0) (pv 1) rfl) (zc1 (Ki (K:=K) rfl (pv 0) (Wi K T.u6 (Qq (pv 2) Qz)) rfl)))),?_⟩;nofun;refine ⟨_,rfl,_,rfl,p,C,dx,[],rfl,hP,AC.cl,AC.nH,by decide,?_⟩;have k1:∀ c o,H c=some o->c≠p->upd H p (.ins C dx (Vi "house" (.ref hp) [])) c=some o:=λc o e hc=>by rw [Qv hc]; exact e
 have hw1:=k1 _ _ hw (Jv hw hP (by intro z; cases z));have hp1:upd H p (.ins C dx (Vi "house" (.ref hp) [])) p=some (.ins C dx (Vi "house" (.ref hp) [])):=Qy;have fr:∀ l,upd H p (.ins C dx (Vi "house" (.ref hp) [])) l=none->H l=none:=λl e=>by
  by_cases hl:l=p
  ·rw [hl,hp1] at e; cases e
  ·rw [Qv hl] at e; exact e
 generalize upd H p (.ins C dx (Vi "house" (.ref hp) []))=H1 at *;nofun;refine ⟨_,rfl,wa,_,rfl,.inl (SqL.of hw1),λl H2 n2=>?_⟩;refine ⟨_,rfl,p,C,dx,_,rfl,n2.same _ _ hp1,AC.cl,AC.nW,by have:=Nx (f:="house") (v:=V.ref hp) (fs:=[]) (n:=0) (by simp); lia,?_⟩;have nlp:l≠p:=(Qj hp1 n2.none).symm;have k2:∀ c o,H2 c=some o->c≠p->upd H2 p (.ins C dx (Vi "way" (.ref l) (Vi "house" (.ref hp) []))) c=some o:=λc o e hc=>by rw [Qv hc]; exact e
 exact q l _ (fr l n2.none) Qy (k2 _ _ n2.at_ nlp) λc o e hc=>k2 _ _ (n2.same _ _ (k1 c o e hc)) hc
variable {CH au CEven Pa Pb Pc eM cB cR cL:G5} (Z:Sx P w K mg base CH au CEven Pa Pb Pc eM cB cR cL)
include Z
theorem Qe9:Iv P w K mg base 1 CH "__init__" [Y16,"beds",Y38,"rent"] (Qc5 CH):=by
 refine Z.a2.mq [Y16,"beds",Y38,"rent"] λH vs Q E hr nD h=>?_;obtain ⟨p,dx,b,w,ak,aj,ao,rfl,hp,hb,hM,lb,lw,hle,q⟩:=h;refine ⟨_,(zcF (zcC (Qa (q_t Kx (Zk K Z.T.u0 (Qq (pv 2) Qz)) (Qt (Xo (K:=K) rfl rfl) (by rfl) Z.T.u10 Yq (Qq (pv 1) Qz))) (Qm (Qp9)) Qp) (zcC (Ki (K:=K) rfl (pv 0) (Wi K Z.T.u6 (Qq (pv 1) Qz)) rfl) (zcL (Qw (Ki (K:=K) rfl (pv 0) (Xz ["row"] [none] (Wn K (pv 2)) (Wi K Z.T.u6 (Qq (pv 0) Qz))) rfl) (Qm (Ki (K:=K) rfl (pv 0) (pv 3) rfl))))))),?_⟩;obtain ⟨ws,hw,hR⟩:=hM;have hwl:(ws.map V.ref).length=aj.length:=by rw [length_map]; exact hR.1
 symm;refine ⟨w,_,rfl,.inl (SqL.of hw),?_⟩;symm;refine ⟨b,ak,rfl,SqL.of hb,?_⟩;symm;refine Vq (T5 (by rw [hwl]; lia)) ?_;symm;refine ⟨b,_,rfl,.inl (SqL.of hb),λl1 H1 n1=>?_⟩;refine ⟨_,rfl,p,CH,dx,[],rfl,n1.same _ _ hp,Z.HC.cl,Z.HC.nB,by decide,?_⟩;have npl:l1≠p:=(Qj hp n1.none).symm;have nwp:w≠p:=Jv hw hp (by intro z; cases z);have hw2:upd H1 p (.ins CH dx (Vi "beds" (.ref l1) [])) w=some (.lst (ws.map V.ref)):=by rw [Qv nwp]; exact n1.same _ _ hw
 have hl2:upd H1 p (.ins CH dx (Vi "beds" (.ref l1) [])) l1=some (.lst (ak.map V.int)):=by rw [Qv npl]; exact n1.at_
 have hr2:∀ (i:Nat) a row,ws[i]? = some a->aj[i]? = some row->upd H1 p (.ins CH dx (Vi "beds" (.ref l1) [])) a=some (.lst (row.map V.int)):=λi a row h1 h2=>by have h3:=hR.2 i a row h1 h2;rw [Qv (Jv h3 hp (by intro z; cases z))];exact n1.same _ _ h3
 have hk2:∀ c o,H c=some o->c≠p->upd H1 p (.ins CH dx (Vi "beds" (.ref l1) [])) c=some o:=λc o e hc=>by rw [Qv hc];exact n1.same _ _ e
 have hp2:upd H1 p (.ins CH dx (Vi "beds" (.ref l1) [])) p=some (.ins CH dx (Vi "beds" (.ref l1) [])):=Qy;generalize upd H1 p (.ins CH dx (Vi "beds" (.ref l1) []))=H2 at *;clear n1;nofun;refine ⟨_,rfl,w,rfl,⟨_,SqL.of hw2⟩,λD hD=>?_⟩;refine Xe (λi y H => ∃ l row,y=.ref l/\l≠D/\aj[i]? = some row/\H l=some (.lst (row.map V.int))) (SqL.of hw2) (by rw [hwl,sizeLine_eq]; lia) hD (λi y H H' k ⟨l,row,e,ne,h1,h2⟩=>⟨l,row,e,ne,h1,k l _ ne h2⟩) ?_ ?_
 ·rintro i x H3 ys N hx s3 d3 hN;obtain ⟨a,ha,rfl⟩:=Ju hx;have hi:i < aj.length:=by rw [<- hR.1]; exact (N8.mp ha).1
  have gm:aj[i]? = some aj[i]:=by simp [hi]
  have h3:=s3 _ _ (hr2 i a _ ha gm);symm;exact ⟨a,_,rfl,.inl (SqL.of h3),λl H4 n4=>hN _ _ n4.same ⟨l,_,rfl,(Qj d3 n4.none).symm,gm,n4.at_⟩⟩
 ·rintro ys H3 s3 d3 l3 r3;obtain ⟨ws',e',p'⟩:=Wj (P:=λi l => ∃ row,aj[i]? = some row/\H3 l=some (.lst (row.map V.int))) (λi y e=>by obtain ⟨l,row,h1,_,h2,h3⟩:=r3 i y e;exact ⟨l,h1,row,h2,h3⟩)
  subst e';have lw':ws'.length=aj.length:=by rw [length_map,length_map] at l3;rw [l3];exact hR.1
  have hp3:=s3 _ _ hp2;have hl3:=s3 _ _ hl2;refine ⟨_,rfl,p,CH,dx,_,rfl,hp3,Z.HC.cl,Z.HC.nW,A0z (Nx (n:=0) (O7 _)) (by decide),?_⟩;refine ⟨_,rfl,_,rfl,p,CH,dx,_,rfl,Qy,Z.HC.cl,Z.HC.nR,A0z (Nx (n:=1) (Nx (n:=0) (O7 _))) (by decide),?_⟩;have nDp:D≠p:=Jv d3 hp3 (by intro z; cases z);refine q _ ⟨⟨dx,l1,D,Qy,?_,ws',?_,lw',λi a row h1 h2=>?_⟩⟩ λc o e hc=>?_
  ·rw [Qv npl,Qv npl];exact hl3
  ·rw [Qv nDp,Qv nDp];exact d3
  ·obtain ⟨row',h3,h4⟩:=p' i a h1;rw [h3] at h2;cases h2;rw [Qv (Jv h4 hp3 (by intro z; cases z)),Qv (Jv h4 hp3 (by intro z; cases z))];exact h4
  ·rw [Qv hc,Qv hc];exact s3 _ _ (hk2 c o e hc)
def Yf:Iv P w K mg base 1 CH "people" [Y16] (Qw0 CH):=by refine Z.a3.mq [Y16] λH vs Q E hr nD h=>?_;obtain ⟨p,ak,aj,ao,rfl,hA,q⟩:=h;refine ⟨_,(Qh (Zk K Z.T.u0 (Qq (Yy K (pv 0)) Qz))),?_⟩;obtain ⟨dx,b,w,h1,h2,h3⟩:=hA.ex;obtain ⟨ws,h4,h5⟩:=h3.len;refine ⟨_,rfl,p,CH,dx,_,_,rfl,h1,Z.HC.cl,Z.HC.nW,Yo _ _ _,w,_,rfl,.inl (SqL.of h4),?_⟩;rw [h5];exact q
def Vk:Iv P w K mg base 1 CH "rooms" [Y16] (Qb7 CH):=by refine Z.a4.mq [Y16] λH vs Q E hr nD h=>?_;obtain ⟨p,ak,aj,ao,rfl,hA,q⟩:=h;refine ⟨_,(Qh (Zk K Z.T.u0 (Qq (Yy K (pv 0)) Qz))),?_⟩;obtain ⟨dx,b,w,h1,h2,h3⟩:=hA.ex;refine ⟨_,rfl,p,CH,dx,_,_,rfl,h1,Z.HC.cl,Z.HC.nB,Cu _ _ _,b,_,rfl,.inl (SqL.of h2),?_⟩;rw [length_map];exact q
theorem Qv5:Def P w K mg base 2 "lying" [Y2,Y8] (Qb9 K CH):=by
 refine Z.a5.mq [Y2,Y8] λH vs Q E hr nD h=>?_;obtain ⟨p,a,ak,aj,ao,way,rfl,hA,hl,hS,q⟩:=h;refine ⟨_,(Qh (Xz [Y20,Y8] [none,some 1] (Zo Z.T.u1 (Qq (Zz (Vk Z) Z.HC.cl (pv 0) (hr.mono (by decide))) Qz)) (Mo (K:=K) rfl A0w PySem.F.slot_list_count PySem.F.type_list_count (Br (K:=K) rfl) (pv 1) (Qq (pv 0) Qz)))),?_⟩;obtain ⟨dx,b,w,h1,h2,h3⟩:=hA.ex;refine ⟨_,rfl,p,dx,_,rfl,h1,Us _ _ _,p,ak,aj,ao,rfl,hA,?_⟩;refine ⟨_,rfl,by lia,by lia,λD hD=>?_⟩;refine Yv (λi y _=>y=.int ((way.count (i:Int):Nat):Int)) sml hD (λ_ _ _ _ _ h=>h) ?_ ?_
 ·rintro i H1 ys N hi s1 d1 hN;refine ⟨_,rfl,.inl ⟨rfl,_,s1.seq hS⟩,_,rfl,a,way,_,rfl,rfl,s1.seq hS,hN _ _ (Qu.refl _) ?_⟩;rw [Int.zero_add]
 ·rintro ys H1 s1 d1 l1 r1;have e:ys=(Pt ak.length way).map V.int:=Ww (by rw [l1]; simp [Pt]) λi y e=>by
   have hi:i < ak.length:=by have:=(N8.mp e).1; lia
   exact ⟨_,by simp [Pt,hi],r1 i y e⟩
  rw [e] at d1;exact q D H1 ⟨s1,hD,d1⟩
theorem Qmw:Def P w K mg base 3 "open_rooms" [Y2,Y8] (Qc4 K CH):=by
 refine Z.a6.mq [Y2,Y8,"counts"] λH vs Q E hr nD h=>?_;obtain ⟨p,a,ak,aj,ao,way,rfl,hA,hl,hS,q⟩:=h;refine ⟨_,(zcF (zcC (Qg 2 nD (Qd (Qv5 Z) hr (Qq (pv 0) (Qq (pv 1) Qz)))) (zcL (Qh (Tt [Y20,"counts",Y2] [none,some 2,some 0] (Zo Z.T.u1 (Qq (Zz (Vk Z) Z.HC.cl (pv 0) (hr.mono (by decide))) Qz)) (q_t Rb (Qb K (pv 1) (pv 0)) (Qb K (Yy K (pv 2)) (pv 0))) (pv 0)))))),?_⟩;nofun;refine ⟨_,rfl,_,rfl,p,a,ak,aj,ao,way,rfl,hA,hl,hS,λl H1 n1=>?_⟩;have hA1:=hA.same n1.same;obtain ⟨dx,b,w,h1,h2,h3⟩:=hA1.ex;nofun;refine ⟨_,rfl,p,dx,_,rfl,h1,Us _ _ _,p,ak,aj,ao,rfl,hA1,?_⟩;refine ⟨_,rfl,by lia,by lia,λD hD=>?_⟩;refine Jz (λ(r:Nat)=>decide (((way.count (r:Int):Nat):Int) < ak.getD r 0)) (λ(r:Nat)=>.int r) sml hD ?_ ?_ ?_
 ·rintro i H2 N hi s2 hN;have g1:((Pt ak.length way).map V.int)[i]? = some (.int ((way.count (i:Int):Nat):Int)):=by simp [Pt,show i < ak.length by lia]
  have g2:(ak.map V.int)[i]? = some (.int (ak.getD i 0)):=by simp [show i < ak.length by lia]
  symm;refine ixL (SqL.of (s2 _ _ n1.at_)) (Qs i (by lia) g1) ?_;refine ⟨_,rfl,p,CH,dx,_,_,rfl,s2 _ _ h1,Z.HC.cl,Z.HC.nB,Cu _ _ _,_,rfl,?_⟩;refine ixL (SqL.of (s2 _ _ h2)) (Qs i (by lia) g2) ?_;symm;exact hN _ (Qu.refl _)
 ·rintro i H2 N hi hp s2 hN;symm;have:=hN _ (Qu.refl _);rw [Int.zero_add];exact this
 ·rintro H2 s2 d2;refine q D H2 ⟨n1.same.trans s2,n1.same.free hD,?_⟩;rw [d2];unfold Yw;rw [map_map];rfl
theorem Quk:Def P w K mg base 2 "improve" [Y2,Y8,Y13,"moves"] (Io K CH):=by
 refine Z.a7.mq [Y2,Y8,Y13,"moves",Y7,"left",Y38,Y20,"gain"] λH vs Q E hr nD h=>?_;obtain ⟨H0,p,a,ga,mv,ak,aj,ao,way,st,rfl,s0,fg,fm,hA,ha,bok,hlt,f9,fj,hok,hM,q⟩:=h;refine ⟨_,(Qm (Xr (Zo Z.T.u1 (Qq (Zk K Z.T.u0 (Qq (pv 1) Qz)) Qz)) (Ql 4 nD) (Qw (Qg 5 nD (Qb K (pv 1) (pv 4))) (Qw (Qg 6 nD (Qb K (Yy K (pv 0)) (pv 4))) (Qm (Xr (Zo Z.T.u1 (Qq (Zz (Vk Z) Z.HC.cl (pv 0) (hr.mono (by decide))) Qz)) (Ql 7 nD) (Qw (Qg 8 nD (Qk Zh (Qk Zt (Qb K (pv 2) (pv 5)) (Qb K (pv 6) (pv 7))) (Qb K (pv 6) (pv 5)))) (Qm (Qa (q_t Kx (pv 8) (Qb K (pv 2) (pv 7))) (Qw (Uv (pv 8) (Fa (pv 2) (pv 7) Wp)) (Qm (Uv (Qk Ke (Qb K (pv 3) (pv 5)) (Zq (Qq (Zp (Qq (pv 4) (Qq (pv 7) Qz))) Qz))) (Fa (pv 3) (pv 7) Wp)))) Qp))))))))),?_⟩;obtain ⟨dx,b,w,h1,h2,h3⟩:=hA.ex;obtain ⟨ws,hw,hR⟩:=id h3;have l1:=bok.w1;have l2:=bok.b1;have s0':∀ {H'},Qs0 ga mv H H'->Qu H0 H':=λk c o e=>k c o (s0 _ _ e) (Qj e fg) (Qj e fm);have di:=Jt f9;refine ⟨_,rfl,a,_,rfl,.inl (SqL.of (s0 _ _ ha)),?_⟩;rw [Xv];walk_at "r";refine L2.Ja (λi σ H'=>(∃ o4 o5 o6 o7 o8,σ=[rf p,rf a,rf ga,rf mv,o4,o5,o6,o7,o8])/\Qs0 ga mv H H'/\Yj H' ga mv ((range i).foldl (Xf (wF aj) way ak.length) st).1 ((range i).foldl (Xf (wF aj) way ak.length) st).2/\Ok (wF aj) way ak.length ((range i).foldl (Xf (wF aj) way ak.length) st))
  ⟨⟨_,_,_,_,_,rfl⟩,λc o e _ _=>e,hM,hok⟩ ?_ ?_
 ·intro i σ H1 hi q9; obtain ⟨⟨o4,o5,o6,o7,o8,rfl⟩,k1,hM1,ok1⟩:=q9;have S1:=s0' k1;have hl:way[i]? = some (way.getD i 0):=by simp [getD,hi]
  have hlb:way.getD i 0 < ak.length:=di _ (T8 hl);generalize hle:way.getD i 0=l at *;have hi':i < aj.length:=by lia
  have gm:aj[i]? = some aj[i]:=by simp [hi']
  have hrl:=bok.rows _ (N7 hi');obtain ⟨ra,g1,g2,g3⟩:=hR.at_ gm;have wfe:∀ r,wF aj i r=(aj[i]).getD r 0:=λr=>by simp [wF,getD,hi']
  refine ⟨_,rfl,_,rfl,?_⟩;refine ixL (SqL.of (S1 _ _ ha)) (Qs i (by lia) (Di hl)) ?_;refine ⟨_,rfl,p,CH,dx,_,_,rfl,S1 _ _ h1,Z.HC.cl,Z.HC.nW,Yo _ _ _,_,rfl,?_⟩;refine ixL (SqL.of (S1 _ _ hw)) (Qs i (by lia) g2) ?_;refine ⟨_,rfl,p,dx,_,rfl,S1 _ _ h1,Us _ _ _,p,ak,aj,ao,rfl,hA.same S1,?_⟩;walk_at "r";have hstep:∀ j,j<=ak.length->Ok (wF aj) way ak.length ((range j).foldl (Yk (wF aj) i l) ((range i).foldl (Xf (wF aj) way ak.length) st)):=λj hj=>Zf (I:=Ok (wF aj) way ak.length) ok1 λb r hr ok=>Ak f9 fj hl hlb (by have:=O1.mp hr; lia) ok;have hper:(range (i + 1)).foldl (Xf (wF aj) way ak.length) st=(range ak.length).foldl (Yk (wF aj) i l) ((range i).foldl (Xf (wF aj) way ak.length) st):=by rw [range_succ,foldl_append];show Xf _ _ _ _ i=_;unfold Xf;rw [hle]
  rw [hper];generalize (range i).foldl (Xf (wF aj) way ak.length) st=st1 at *;refine L2.Ja (λj σ H'=>(∃ o7 o8,σ=[rf p,rf a,rf ga,rf mv,iv (0 + (i:Int)),iv (l:Int),rf ra,o7,o8])/\Qs0 ga mv H H'/\Yj H' ga mv ((range j).foldl (Yk (wF aj) i l) st1).1 ((range j).foldl (Yk (wF aj) i l) st1).2)
   ⟨⟨_,_,rfl⟩,k1,hM1⟩ ?_ ?_
  ·intro j σ H2 hj q9; obtain ⟨⟨o7,o8,rfl⟩,k2,hM2⟩:=q9;have S2:=s0' k2;have ok2:=hstep j (by lia);have hsucc:(range (j + 1)).foldl (Yk (wF aj) i l) st1=Yk (wF aj) i l ((range j).foldl (Yk (wF aj) i l) st1) j:=by rw [range_succ,foldl_append];rfl
   rw [hsucc];clear hsucc;generalize (range j).foldl (Yk (wF aj) i l) st1=st2 at *;obtain ⟨gs,ms⟩:=st2;have lg:gs.length=ak.length:=ok2.l1;have lm:ms.length=ak.length:=ok2.l2;have gl:(gs.map V.int)[l]? = some (.int (gs.getD l 0)):=by simp [lg,hlb,getD]
   have gj:(gs.map V.int)[j]? = some (.int (gs.getD j 0)):=by simp [lg,hj,getD]
   have wj:(aj[i].map V.int)[j]? = some (.int ((aj[i]).getD j 0)):=by simp [hrl,hj,getD]
   have wl:(aj[i].map V.int)[l]? = some (.int ((aj[i]).getD l 0)):=by simp [hrl,hlb,getD]
   refine ⟨_,rfl,_,rfl,?_⟩;refine ixW l hM2.g gl ?_;refine ⟨_,rfl,_,rfl,?_⟩;refine ixL (SqL.of (S2 _ _ g3)) (Qs j (by lia) wj) ?_;refine ⟨_,_,rfl,rfl,_,rfl,_,rfl,?_⟩;refine ixW l (S2 _ _ g3) wl ?_;refine ⟨_,_,rfl,rfl,?_⟩;refine ⟨_,rfl,_,rfl,_,rfl,?_⟩;refine ixL (SqL.of hM2.g) (Qs j (by lia) gj) ?_;refine ⟨_,_,rfl,rfl,?_⟩;have hgain:gs.getD l 0 + aj[i].getD j 0 - aj[i].getD l 0=gs.getD l 0 + wF aj i j - wF aj i l:=by rw [wfe,wfe]
   dsimp only;rw [hgain];refine ⟨_,rfl,Kz (λhgt=>?_) (λhgt=>?_)⟩
   ·have hgt':gs.getD j 0 < gs.getD l 0 + wF aj i j - wF aj i l:=Q6 hgt;have hrel:Yk (wF aj) i l (gs,ms) j=(gs.set j (gs.getD l 0 + wF aj i j - wF aj i l),ms.set j (ms.getD l [] ++ [(i,j)])):=V7 hgt';rw [hrel];generalize gs.getD l 0 + wF aj i j - wF aj i l=gn at *;refine ⟨_,rfl,_,rfl,_,rfl,ga,_,_,j,rfl,rfl,hM2.g,?_,?_⟩
    ·unfold ixN;rw [if_pos (by lia),if_pos (by simp; lia)];simp
    rw [<- map_set];have hM3:=hM2.gset (gs':=gs.set j gn);have k3:Qs0 ga mv H (upd H2 ga (.lst ((gs.set j gn).map V.int))):=λc o e h1 h2=>by rw [Qv h1]; exact k2 c o e h1 h2
    generalize upd H2 ga (.lst ((gs.set j gn).map V.int))=H3 at *;obtain ⟨ls,e1,e2,e3,e4⟩:=hM3.ex;have e2':ls.length=ms.length:=e2;have hll0:(ls.map V.ref)[l]? = some (.ref (ls[l]'(by lia))):=by simp [show l < ls.length by lia]
    have hll:ls[l]? = some (ls[l]'(by lia)):=by simp [show l < ls.length by lia]
    have hml:ms[l]? = some (ms.getD l []):=by simp [getD,show l < ms.length by lia]
    obtain ⟨ts,c1,c2,c3⟩:=e4 l _ _ hll hml;obtain ⟨r0,cc,gg,f1,f2,_⟩:=ok2.at_ l hlb;have hclen:ts.length<=10:=by have:=Km _ _ f2.nodup f2.lt;have f1':ms.getD l []=(way.length,r0) :: cc:=f1;rw [c2,f1'];simp at this ⊢;lia
    refine ⟨_,rfl,_,rfl,?_⟩;refine ixW l e1 hll0 ?_;refine ⟨_,rfl,_,rfl,Zn (by simp),λt4 H4 n4=>⟨Zn (by simp),λt5 H5 n5=>?_⟩⟩;have S5:Qu H3 H5:=n4.same.trans n5.same;refine ⟨ls[l]'(by lia),t5,_,_,rfl,rfl,S5 _ _ c1,n5.at_,by rw [sizeLine_eq]; simp; lia,λt6 H6 n6=>?_⟩;have S6:Qu H3 H6:=S5.trans n6.same;refine ⟨_,rfl,_,rfl,mv,_,_,j,rfl,rfl,S6 _ _ e1,?_,?_⟩
    ·unfold ixN;rw [if_pos (by lia),if_pos (by simp; lia)];simp
    have hM6:=hM3.same S6;refine ⟨⟨_,_,rfl⟩,λc o e z1 z2=>?_,hM6.mset (S6 _ _ e1) (by lia) (λz=>?_) (λz=>?_) (Uc.snoc (m:=(i,j)) n6.at_ c2 (λj' t' m' a1 a2=>S6 _ _ (c3 j' t' m' a1 a2)) ?_)⟩
    ·rw [Qv z2];exact S6 _ _ (k3 c o e z1 z2)
    ·have:=n6.none;rw [z,S5 _ _ hM3.g] at this;cases this
    ·have:=n6.none;rw [z,S5 _ _ e1] at this;cases this
    ·have:=n6.same _ _ (n5.same _ _ n4.at_);simpa using this
   ·have hrel:Yk (wF aj) i l (gs,ms) j=(gs,ms):=U6 (λz=>hgt (P0 z));rw [hrel];exact ⟨⟨_,_,rfl⟩,k2,hM2⟩
  ·intro σ H2 q9; obtain ⟨⟨o7,o8,rfl⟩,k2,hM2⟩:=q9;exact ⟨⟨_,_,_,_,_,rfl⟩,k2,hM2,hstep _ (O7 _)⟩
 ·intro σ H1 q9; obtain ⟨⟨o4,o5,o6,o7,o8,rfl⟩,k1,hM1,ok1⟩:=q9;exact q H1 k1 hM1
theorem Qn7:Def P w K mg base 4 "bring_in" [Y2,Y8] (Qwx K CH Pa Xa "bring_in.<locals>.<lambda>"):=by
 refine Z.a8.mkL Xm (λvs H Q E h=>?_) (λ_ _ _ _ _ _ us hl=>match us,hl with | [_,_],_=>rfl) (λf A outer s H vs Q E hr h=>?_)
 ·obtain ⟨p,a,ak,aj,ao,way,rfl,_⟩:=h;rfl
 ·obtain ⟨p,a,ak,aj,ao,way,rfl,hA,ha,bok,hlt,jb,hb0,f9,fj,hL,q⟩:=h;refine ⟨_,(zcF (zcC (Qg 2 Xm.nd (Zk K Z.T.u0 (Qq (pv 1) Qz))) (zcC (Qg 8 Xm.nd (Wi K Z.T.u6 (Qq (Qb K (Yy K (pv 0)) (pv 2)) Qz))) (zcC (Ws 3 Xm.nd [Y20,"newcomer"] [none,some 2] (Zo Z.T.u1 (Qq (Zz (Vk Z) Z.HC.cl (pv 0) (hr.mono (by decide))) Qz)) (Zq (Qq (Zp (Qq (pv 1) (Qq (pv 0) Qz))) Qz))) (zcC (Xr (Zo Z.T.u1 (Qq (Zz (Vk Z) Z.HC.cl (pv 0) (hr.mono (by decide))) Qz)) (Ql 4 Xm.nd) (Qm (Xt (Qd (Quk Z) hr (Qq (pv 0) (Qq (pv 1) (Qq (pv 8) (Qq (pv 3) Qz)))))))) (zcC (Qg 5 Xm.nd (Df (x:="room") (Nc:=[Y13]) (ix:=[some 8]) Z.a8.hd Z.a9 rfl rfl Z.T.u9 hr.dep (Qq (Qd (Qmw Z) hr (Qq (pv 0) (Qq (pv 1) Qz))) Qz) (λ_ _ _ _ _=>(Qb K (pv 1) (pv 0))) rfl rfl rfl rfl rfl rfl (λ_ _ _ _ _=>rfl) rfl rfl)) (zcC (Qg 6 Xm.nd (Qk Ke (pv 1) (Zq (Qq (pv 5) Qz)))) (zcL (Qw (Xr (Wn K (Qb K (pv 3) (pv 5))) (Ql 7 Xm.nd) (Qm (Uv (Qb K (pv 7) Qx) (Fa (pv 6) (Qb K (pv 7) Qx) Wp)))) (Qh (pv 6))))))))))),?_⟩;obtain ⟨dx,b,w,h1,h2,h3⟩:=hA.ex;obtain ⟨ws,hw,hR⟩:=id h3;have l1:=bok.w1;have l2:=bok.b1;have di:=Jt f9;have gm:aj[way.length]? = some aj[way.length]:=by simp [hlt]
  have hrl:=bok.rows _ (N7 hlt);obtain ⟨ra,g1,g2,g3⟩:=hR.at_ gm;nofun;refine ⟨_,rfl,a,_,rfl,.inl (SqL.of ha),?_⟩;nofun;rw [Xv];refine ⟨_,rfl,p,CH,dx,_,_,rfl,h1,Z.HC.cl,Z.HC.nW,Yo _ _ _,_,rfl,?_⟩;refine ixW way.length hw g2 ?_;refine ⟨ra,_,rfl,.inl (SqL.of g3),λga H1 n1=>?_⟩;nofun;refine ⟨_,rfl,p,dx,_,rfl,n1.same _ _ h1,Us _ _ _,p,ak,aj,ao,rfl,hA.same n1.same,?_⟩;refine ⟨_,rfl,by lia,by lia,λmv hmv=>?_⟩;rw [Int.toNat_natCast];have ngm:ga≠mv:=Qj n1.at_ hmv;refine Yv (λi y H => ∃ l t,y=.ref l/\l≠mv/\l≠ga/\t≠mv/\H l=some (.lst [.ref t])/\H t=some (.tup [.int (way.length:Int),.int (i:Int)])) sml hmv (λi y H H' k ⟨l,t,e,ne1,ne2,ne3,h1,h2⟩=>⟨l,t,e,ne1,ne2,ne3,k l _ ne1 h1,k t _ ne3 h2⟩) ?_ ?_
  ·rintro i H2 ys N hi s2 d2 hN;refine ⟨_,rfl,_,rfl,Zn (by simp),λt3 H3 n3=>⟨Zn (by simp),λl3 H4 n4=>?_⟩⟩;refine hN _ _ (n3.same.trans n4.same) ⟨l3,t3,rfl,?_,?_,?_,n4.at_,?_⟩
   ·exact (Qj (n3.same _ _ d2) n4.none).symm
   ·exact (Qj (n3.same _ _ (s2 _ _ n1.at_)) n4.none).symm
   ·exact (Qj d2 n3.none).symm
   ·have:=n4.same _ _ n3.at_;simpa using this
  rintro ys H2 s2 d2 ly r2;obtain ⟨ls,els,pls⟩:=Wj (P:=λi l => ∃ t,l≠mv/\l≠ga/\H2 l=some (.lst [.ref t])/\H2 t=some (.tup [.int (way.length:Int),.int (i:Int)])) (λi y e=>by obtain ⟨l,t,e1,e2,e3,_,e4,e5⟩:=r2 i y e;exact ⟨l,e1,t,e2,e3,e4,e5⟩)
  subst els;have lls:ls.length=ak.length:=by simpa using ly
  have S2:Qu H H2:=n1.same.trans s2;have hrowe:(aj[way.length])=(range ak.length).map λr=>wF aj way.length r:=by refine U7 (by simp [hrl]) λi z1 z2=>?_;simp [wF,getD,hlt,z1]
  have hM2:Yj H2 ga mv (first (wF aj) way ak.length).1 (first (wF aj) way ak.length).2:=by
   refine ⟨ngm,?_,ls,d2,by simp [first,lls],λx hx=>?_,λi x c z1 z2=>?_⟩
   ·rw [s2 _ _ n1.at_,hrowe];rfl
   ·obtain ⟨i,hi,rfl⟩:=X4.mp hx;obtain ⟨t,e1,e2,_⟩:=pls i _ (R7 hi);exact ⟨e2,e1⟩
   ·obtain ⟨t,e1,e2,e3,e4⟩:=pls i x z1;have hi:i < ak.length:=by rw [<- lls]; exact (N8.mp z1).1
    have ec:c=[(way.length,i)]:=by simp [first,hi] at z2;exact z2.symm
    subst ec;refine ⟨[t],e3,rfl,λj t' m' y1 y2=>?_⟩;have hj:j=0:=by have:=(N8.mp y1).1; simp at this; lia
    subst hj;simp at y1 y2;subst y1 y2;exact e4
  have hok0:Ok (wF aj) way ak.length (first (wF aj) way ak.length):=Eg;nofun;refine ⟨_,rfl,p,dx,_,rfl,S2 _ _ h1,Us _ _ _,p,ak,aj,ao,rfl,hA.same S2,?_⟩;walk_at "r";refine Zu (λi σ H'=>(∃ o4 o5 o6 o7,σ=[rf p,rf a,iv (way.length:Int),rf mv,o4,o5,o6,o7,rf ga])/\Qu H H'/\Yj H' ga mv (turns (wF aj) way ak.length (first (wF aj) way ak.length) i).1 (turns (wF aj) way ak.length (first (wF aj) way ak.length) i).2)
   ⟨⟨_,_,_,_,rfl⟩,S2,hM2⟩ ?_ ?_
  ·nofun;intro i σ H3 hi q9; obtain ⟨⟨o4,o5,o6,o7,rfl⟩,S3,hM3⟩:=q9;refine ⟨_,rfl,_,rfl,_,rfl,_,rfl,H,p,a,ga,mv,ak,aj,ao,way,_,rfl,S3,n1.none,n1.same.free hmv,hA,ha,bok,hlt,f9,fj,Rl f9 fj di i,hM3,λH4 k4 hM4=>?_⟩;nofun;refine ⟨⟨_,_,_,_,rfl⟩,λc o e=>k4 c o (S3 _ _ e) (Qj e n1.none) (Qj e (n1.same.free hmv)),?_⟩;rw [To];exact hM4
  intro σ H3 q9; obtain ⟨⟨o4,o5,o6,o7,rfl⟩,S3,hM3⟩:=q9;have hok3:Ok (wF aj) way ak.length (turns (wF aj) way ak.length (first (wF aj) way ak.length) ak.length):=Rl f9 fj di _;have hbr:=λe he j4=>Qt6 (W:=wF aj) (way:=way) (R:=ak.length) (Bj ak) f9 fj (e:=e) he j4;generalize turns (wF aj) way ak.length (first (wF aj) way ak.length) ak.length=st at *;obtain ⟨gs,ms⟩:=st;have lg:gs.length=ak.length:=hok3.l1;have lm:ms.length=ak.length:=hok3.l2;nofun;refine ⟨_,rfl,_,rfl,p,a,ak,aj,ao,wI way,rfl,hA.same S3,by lia,SqL.of (S3 _ _ ha),λol H4 n4=>?_⟩;have S4:Qu H H4:=S3.trans n4.same;obtain ⟨r1,hr1,hr2⟩:=Qlw jb hb0;have hM4:=hM3.same n4.same;refine ⟨ol,Yw ak (wI way),λz=>gs.getD z.toNat 0,rfl,SqL.of n4.at_,Z8 (Jf.mpr ⟨r1,rfl,hr1,hr2⟩),hL.same S4,λz hz H5 s5=>?_,λz hz hmax H5 s5 o5 hL5=>?_⟩
  ·obtain ⟨r,rfl,hr,_⟩:=Jf.mp hz;have gr:(gs.map V.int)[r]? = some (.int (gs.getD r 0)):=by simp [lg,hr,getD]
   refine ⟨_,rfl,_,rfl,?_⟩;refine ixW r (s5.to _ _ hM4.g rfl) gr ?_;exact ⟨rfl,rfl⟩
  obtain ⟨e,rfl,he,hec⟩:=Jf.mp hz;have j4:∀ r,way.count r < bF ak r->gs.getD r 0<=gs.getD e 0:=λr hr=>by
   have hrl':r < ak.length:=by refine R6 λz=>?_;have:=Bj ak r (by lia);lia
   have:=hmax _ (Jf.mpr ⟨r,rfl,hrl',hr⟩);simpa using this
  obtain ⟨b1,b2,b3⟩:=hbr e hec j4 _ rfl;have S5:Qc H H5:=S4.b.trans s5;nofun;refine ⟨_,rfl,_,rfl,Zn (by simp),λt6 H6 n6=>?_⟩;refine ⟨a,t6,_,_,rfl,rfl,n6.same _ _ (S5.to _ _ ha rfl),n6.at_,by rw [sizeLine_eq,Xv]; simp; lia,λbr H7 n7=>?_⟩;have s7:Qc H4 H7:=s5.trans (n6.same.trans n7.same).b;have S7:Qc H H7:=S4.b.trans s7;have p8:H7 br=some (.lst ((wI (way ++ [e])).map V.int)):=by rw [n7.at_];simp [wI]
  obtain ⟨ls3,e1,e2,e3,e4⟩:=hM4.ex;have e2':ls3.length=ms.length:=e2;have hlle:(ls3.map V.ref)[e]? = some (.ref (ls3[e]'(by lia))):=by simp [show e < ls3.length by lia]
  have hme:ms[e]? = some (ms.getD e []):=by simp [getD,show e < ms.length by lia]
  obtain ⟨ts,c1,c2,c3⟩:=e4 e (ls3[e]'(by lia)) _ (by simp [show e < ls3.length by lia]) hme;have fbr:H br=none:=S5.th _ (n6.same.free n7.none);have c1':H7 (ls3[e]'(by lia))=some (.lst (ts.map V.ref)):=s7.to _ _ c1 rfl;have ncb:ls3[e]'(by lia)≠br:=Qj (n6.same _ _ (s5.to _ _ c1 rfl)) n7.none;obtain ⟨r0,cc,gg,f1,f2,_⟩:=hok3.at_ e he;have f1':ms.getD e []=(way.length,r0) :: cc:=f1;have hpers:∀ m∈ms.getD e [],m.1 < (way ++ [e]).length:=λm hm=>by
   rw [f1'] at hm;simp;rcases R3.mp hm with z | z
   ·rw [z]; lia
   ·have:=(f2.persons m z).1; lia
  have alen:∀ (v:K7) (c:List (Nat × Nat)),(app v c).length=v.length:=λv c=>by
   induction c generalizing v with
   | nil=>rfl
   | cons m c ih=>show (app (v.set m.1 m.2) c).length=_; rw [ih]; simp
  clear f1 f2;generalize ms.getD e []=ch at *;nofun;refine ⟨_,rfl,_,rfl,?_⟩;refine ixW e (s7.to _ _ e1 rfl) hlle ?_;generalize ls3[e]'(by lia)=ca at *;refine ⟨ca,rfl,⟨_,SqL.of c1'⟩,?_⟩;refine Je (xs:=ts.map V.ref) (λi σ H'=>(∃ o4 o7,σ=[rf p,rf a,iv (way.length:Int),rf mv,o4,iv (e:Int),rf br,o7,rf ga])/\(∀ b o,H7 b=some o->b≠br->H' b=some o)/\H' br=some (.lst ((wI (app (way ++ [e]) (ch.take i))).map V.int))/\∀ b,H' b=none->H7 b=none)
   ⟨⟨_,_,rfl⟩,λ_ _ e _=>e,p8,λ_ z=>z⟩ (λi σ H' _ h=>SqL.of (h.2.1 _ _ c1' ncb)) ?_ ?_
  ·nofun;intro i x σ H8 hx q9; obtain ⟨⟨o4',o7',rfl⟩,k8,hb8,z8⟩:=q9;obtain ⟨t,ht,rfl⟩:=Ju hx;have hi:i < ch.length:=by rw [<- c2]; exact (N8.mp ht).1
   have hm:ch[i]? = some ch[i]:=by simp [hi]
   have ht7:=s7.to _ _ (c3 i t _ ht hm) rfl;have ht8:=k8 _ _ ht7 (Jv ht7 p8 (by intro z; cases z));have hp:=hpers _ (N7 hi);refine ⟨_,rfl,?_⟩;refine ixU ht8 rfl ?_;refine ⟨_,rfl,_,rfl,?_⟩;refine ixU ht8 rfl ?_;refine ⟨br,_,_,ch[i].1,rfl,rfl,hb8,?_,?_⟩
   ·unfold ixN;rw [if_pos (by lia),if_pos (by rw [Xv,alen]; lia)];simp
   nofun;refine ⟨⟨_,_,rfl⟩,λc o e' hne=>by rw [Qv hne]; exact k8 c o e' hne,?_,λc e'=>z8 c (by
    by_cases hc:c=br
    ·subst hc; rw [Qy] at e'; cases e'
    ·rw [Qv hc] at e'; exact e')⟩
   have et:ch.take (i + 1)=ch.take i ++ [ch[i]]:=by rw [take_succ,hm]; rfl
   rw [Qy,et,Et];simp [wI,map_set]
  ·intro σ H8 q9; obtain ⟨⟨o4',o7',rfl⟩,k8,hb8,z8⟩:=q9;have hend:(ts.map V.ref).length=ch.length:=by rw [length_map,c2]
   rw [hend,take_length] at hb8;refine ⟨_,rfl,?_⟩;refine q br _ H8 ⟨λc o e' z=>k8 _ _ (S7.to _ _ e' z) (Qj e' fbr),λc e'=>S7.th _ (z8 _ e')⟩ (λc o e' hc=>k8 _ _ (n7.same _ _ (n6.same _ _ (o5 _ _ (S4 _ _ e') hc))) (Qj e' fbr)) fbr hb8 ?_ b1 b2 λv hv=>b3 v (hv.trans b1);have hL7:=(hL5.same n6.same).same n7.same;rcases hL7 with z | ⟨c',oc,vs,t,z1,z2,z3⟩
   ·exact .inl (k8 _ _ z (Jv z p8 (by intro w; cases w)))
   ·exact .inr ⟨c',oc,vs,t,k8 _ _ z1 (Jv z1 p8 (by intro w; cases w)),k8 _ _ z2 (Jv z2 p8 (by intro w; cases w)),z3⟩
theorem Qd0:Def P w K mg base 5 "best_way" [Y2] (Qp0 K CH Pa Xa "bring_in.<locals>.<lambda>"):=by
 refine Z.a10.mq [Y2,Y8] λH vs Q E hr nD h=>?_;obtain ⟨p,ak,aj,ao,rfl,hA,bok,jb,hb0,hL,q⟩:=h;refine ⟨_,(zcF (zcC (Qg 1 nD (Zq Qz)) (zcL (Qw (Nr A1g (q_t Rb (Zk K Z.T.u0 (Qq (pv 1) Qz)) (Zz (Yf Z) Z.HC.cl (pv 0) (hr.mono (by decide)))) (Qm (Qg 1 nD (Qd (Qn7 Z) hr (Qq (pv 0) (Qq (pv 1) Qz)))))) (Qh (pv 1)))))),?_⟩;have l1:=bok.w1;symm;refine λl0 H1 n1=>?_;nofun;refine ⟨λm σ H' => ∃ (l:G5) (way:K7),σ=[rf p,rf l]/\Qc H H'/\Yl Pa H H'/\H l=none/\H' l=some (.lst ((wI way).map V.int))/\Qe H' Pa Xa "bring_in.<locals>.<lambda>"/\m + way.length=aj.length/\Fit (bF ak) way/\Opt ak aj way,⟨aj.length,l0,[],rfl,n1.same.b,n1.same.o,n1.none,n1.at_,hL.same n1.same,rfl,λr=>by simp,λv hv _=>by have:v=[]:=A0h.mp hv;rw [this];exact Q0 _⟩,?_⟩
 intro m σ H2 q9; obtain ⟨l,way,rfl,s2,o2,hl0,hl,hL2,hm,f9,fj⟩:=q9;have hA2:=hA.bf s2;obtain ⟨dx,b,w,h1,h2,h3⟩:=hA2.ex;refine ⟨_,rfl,l,_,rfl,.inl (SqL.of hl),?_⟩;rw [Xv];refine ⟨_,rfl,p,dx,_,rfl,h1,Us _ _ _,p,ak,aj,ao,rfl,hA2,?_⟩;refine ⟨_,_,rfl,rfl,_,rfl,Kz (λhlt=>?_) (λhge=>?_)⟩
 ·have hlt':way.length < aj.length:=by have:(way.length:Int) < aj.length:=Q6 hlt;lia
  refine ⟨λσ' H' => ∃ (l:G5) (cj:K7),σ'=[rf p,rf l]/\Qc H H'/\Yl Pa H H'/\H l=none/\H' l=some (.lst ((wI cj).map V.int))/\Qe H' Pa Xa "bring_in.<locals>.<lambda>"/\cj.length=way.length + 1/\Fit (bF ak) cj/\Opt ak aj cj,λσ' H' ⟨l',cj,e1,e2,e2',e3,e4,e5,e6,e7,e8⟩=>⟨m - 1,by lia,l',cj,e1,e2,e2',e3,e4,e5,by lia,e7,e8⟩,?_⟩;refine ⟨_,rfl,_,rfl,p,l,ak,aj,ao,way,rfl,hA2,hl,bok,hlt',by lia,hb0,f9,fj,hL2,λl' cj H3 s3 o3 f3 h3' hL3 e1 e2 e3=>?_⟩;exact ⟨l',cj,rfl,s2.trans s3,o2.trans o3,s2.th _ f3,h3',hL3,e1,e2,e3⟩
 ·symm;have hge':way.length=aj.length:=by have:¬ (way.length:Int) < aj.length:=λz=>hge (P0 z);lia
  exact q l way H2 s2 o2 hl0 hl hL2 hge' f9 fj
theorem Qq7:Def P w K mg base 4 "with_open" [Y5,Y20] (Ct K CH):=by
 refine Z.a11.mq [Y5,Y20] λH vs Q E hr nD h=>?_;obtain ⟨C,p,ak,aj,ao,way,r,rfl,AC,hA,ok,q⟩:=h;refine ⟨_,(Qh (Hq (K:=K) rfl rfl (by rfl) Z.T.u13 (by rfl) Z.T.u14 (Qk Ke (Qd (Qmw Z) hr (Qq (Yy K (pv 0)) (Qq (Yy K (pv 0)) Qz))) (Zq (Qq (pv 1) Qz))))),?_⟩;obtain ⟨dx,hp,wa,g1,g2,g3⟩:=hA.ex;have l1:=ok.bok.b1;have l2:=ok.bok.w1;refine ⟨_,rfl,p,C,dx,_,_,rfl,g1,AC.cl,AC.nH,Yp _ _,_,rfl,p,C,dx,_,_,rfl,g1,AC.cl,AC.nW,Dq _ _,?_⟩;refine ⟨hp,wa,ak,aj,ao,wI way,rfl,g2,by lia,SqL.of g3,λl1 H1 n1=>?_⟩;refine ⟨_,rfl,Zn (by simp),λl2 H2 n2=>?_⟩;have hol:(Yw ak (wI way)).length<=ak.length:=by unfold Yw;rw [length_map];exact R4 (Z6 _ _) (by simp)
 refine ⟨l1,l2,_,_,rfl,rfl,n2.same _ _ n1.at_,n2.at_,by rw [sizeLine_eq,length_map]; simp; lia,λl3 H3 n3=>?_⟩;have h3:H3 l3=some (.lst ((Yw ak (wI way) ++ [(r:Int)]).map V.int)):=by rw [n3.at_];simp
 refine ⟨l3,_,rfl,SqL.of h3,by simp; lia,λl4 ms H4 n4 hr hm=>?_⟩;refine q l4 ms H4 (((n1.same.trans n2.same).trans n3.same).trans n4.same) (((n1.same.trans n2.same).trans n3.same).free n4.none) n4.at_ ⟨hr,hm⟩
theorem Pm:Def P w K mg base 1 "own_worth" [Y5,Y7] (Ci K CH):=by
 refine Z.a12.mq [Y5,Y7] λH vs Q E hr nD h=>?_;obtain ⟨C,p,ak,aj,ao,way,i,rfl,AC,hA,ok,hi,q⟩:=h;refine ⟨_,(Qh (Qb K (Qb K (Yy K (Yy K (pv 0))) (pv 1)) (Qb K (Yy K (pv 0)) (pv 1)))),?_⟩;obtain ⟨dx,hp,wa,g1,g2,g3⟩:=hA.ex;obtain ⟨dh,b,w,h1,h2,h3⟩:=g2.ex;obtain ⟨ws,hw,hR⟩:=id h3;have gm:aj[i]? = some aj[i]:=by simp [hi]
 have hrl:=ok.bok.rows _ (N7 hi);obtain ⟨ra,e1,e2,e3⟩:=hR.at_ gm;obtain ⟨w1,w2⟩:=ok.at_ hi;have gen:∀ r,r < aj[i].length->(aj[i].map V.int)[r]? = some (.int (wF aj i r)):=λr hr=>by simp [wF,getD,hi,hr]
 have g5:(aj[i].map V.int)[way.getD i 0]? = some (.int (Zr aj way i)):=gen _ (by lia);refine ⟨_,rfl,p,C,dx,_,_,rfl,g1,AC.cl,AC.nH,Yp _ _,hp,CH,dh,_,_,rfl,h1,Z.HC.cl,Z.HC.nW,Yo _ _ _,_,rfl,?_⟩;refine ixW i hw e2 ?_;refine ⟨_,rfl,p,C,dx,_,_,rfl,g1,AC.cl,AC.nW,Dq _ _,_,rfl,?_⟩;refine ixW i g3 (Di w1) ?_;refine ixW (way.getD i 0) e3 g5 ?_;exact q
def Dt:Iv P w K mg base 5 au "through" [Y16,"a","b"] (Dv true CH au):=by refine Z.a13.mq [Y16,"a","b"] λH vs Q E hr nD h=>?_;obtain ⟨p,ak,aj,ao,way,a,b,rfl,hA,ok,ha,hb,q⟩:=h;refine ⟨_,(Qh (Qd (Qq7 Z) hr (Qq (pv 0) (Qq (Qb K (Yy K (pv 0)) (pv 1)) Qz)))),?_⟩;obtain ⟨dx,hp,wa,g1,g2,g3⟩:=hA.ex;obtain ⟨w1,w2⟩:=ok.at_ ha;refine ⟨_,rfl,_,rfl,p,au,dx,_,_,rfl,g1,Z.b7.a.cl,Z.b7.a.nW,Dq _ _,_,rfl,?_⟩;refine ixW a g3 (Di w1) ?_;exact ⟨au,p,ak,aj,ao,way,way.getD a 0,rfl,Z.b7.a,hA,ok,q⟩
theorem Cd:Iv P w K mg base 2 au "gain" [Y16,"a","r","b"] (Qx3 true CH au):=by
 refine Z.a14.mq [Y16,"a","r","b"] λH vs Q E hr nD h=>?_;obtain ⟨p,ak,aj,ao,way,a,r,b,rfl,hA,ok,ha,hr0,hb,q⟩:=h;refine ⟨_,(Qh (Qk Zh (Qb K (Qb K (Yy K (Yy K (pv 0))) (pv 3)) (pv 2)) (Qd (Pm Z) hr (Qq (pv 0) (Qq (pv 1) Qz))))),?_⟩;obtain ⟨dx,hp,wa,g1,g2,g3⟩:=hA.ex;obtain ⟨dh,bd,w,h1,h2,h3⟩:=g2.ex;obtain ⟨ws,hw,hR⟩:=id h3;have gm:aj[b]? = some aj[b]:=by simp [hb]
 have hrl:=ok.bok.rows _ (N7 hb);obtain ⟨ra,e1,e2,e3⟩:=hR.at_ gm;have g5:(aj[b].map V.int)[r]? = some (.int (wF aj b r)):=by simp [wF,getD,hb,show r < aj[b].length by lia]
 refine ⟨_,rfl,p,au,dx,_,_,rfl,g1,Z.b7.a.cl,Z.b7.a.nH,Yp _ _,hp,CH,dh,_,_,rfl,h1,Z.HC.cl,Z.HC.nW,Yo _ _ _,_,rfl,?_⟩;refine ixW b hw e2 ?_;refine ⟨_,rfl,?_⟩;refine ixW r e3 g5 ?_;refine ⟨_,rfl,_,rfl,au,p,ak,aj,ao,way,a,rfl,Z.b7.a,hA,ok,ha,?_⟩;exact ⟨_,_,rfl,rfl,q⟩
def Qqq:Def P w K mg base 6 "best_room" [Y5,Y28,"a","b"] (Lr true CH au Pb Zy "best_room.<locals>.<lambda>" K):=by
 refine Z.a16.mkL La (λvs H Q E h=>?_) (λ_ _ _ _ _ _ us hl=>match us,hl with | [_,_,_,_],_=>rfl) (λf A outer s H vs Q E hr h=>?_)
 ·obtain ⟨p,rl,ak,aj,ao,way,a,b,ms,rfl,_⟩:=h;rfl
 ·obtain ⟨p,rl,ak,aj,ao,way,a,b,ms,rfl,hA,ok,ha,hb,hrl,hri,hL,q⟩:=h;refine ⟨_,(Qh (Df (x:="room") (Nc:=["a",Y5,"b"]) (ix:=[some 2,some 0,some 3]) Z.a16.hd Z.a17 rfl rfl Z.T.u9 hr.dep (Qq (pv 1) Qz) (λ_ _ _ _ _=>(Ti (Cd Z) Z.b7.cl (pv 2) ((Jc.in1 (hr.mono (by decide))).deeper _) (Qq (pv 1) (Qq (pv 0) (Qq (pv 3) Qz))))) rfl rfl rfl rfl rfl rfl (λ_ _ _ _ _=>rfl) rfl rfl)),?_⟩;have g8:((way.getD (if true then a else b) 0:Nat):Int)∈ms:=(hri.2 _).mpr (by simp [Zd]);refine ⟨_,rfl,rl,ms,λz=>Zs true aj way a z.toNat b,rfl,SqL.of hrl,Z8 g8,hL,λz hz H5 s5=>?_,λz hz hmax H5 s5 o5 hL5=>?_⟩
  ·obtain ⟨r,rfl,hr⟩:=Qx1 ok ha hb hri z hz;exact Mz (hA.bf s5) ok ha hr hb (λ_ k=>⟨_,rfl,k⟩) (λ_ k=>⟨_,rfl,_,rfl,_,rfl,k⟩) ⟨rfl,rfl⟩
  ·obtain ⟨r,rfl,hr⟩:=Qx1 ok ha hb hri z hz;refine q r H5 s5 o5 hL5 ((hri.2 _).mp hz) hr λr' hr'=>?_;have:=hmax _ ((hri.2 _).mpr hr');simpa using this
theorem Qqz:Def P w K mg base 7 "best_hops" [Y5] (Ln true CH au Pb Zy "best_room.<locals>.<lambda>"):=by
 refine Z.a18.mq [Y5,"people","hops","a","b",Y28] λH vs Q E hr nD h=>?_;obtain ⟨p,ak,aj,ao,way,rfl,hA,ok,hL,q⟩:=h;refine ⟨_,(Qw (Qg 1 nD (Zz (Yf Z) Z.HC.cl (Yy K (pv 0)) (hr.mono (by decide)))) (Qw (Qg 2 nD (Zq Qz)) (Qw (Xr (Zo Z.T.u1 (Qq (pv 1) Qz)) (Ql 3 nD) (Qm (Xr (Zo Z.T.u1 (Qq (pv 1) Qz)) (Ql 4 nD) (Qw (Qg 5 nD (Nj (Kf (q_t Jb (pv 3) (pv 4)) (Zq Qz) (Ti (Dt Z) Z.b7.cl (pv 0) (hr.mono (by decide)) (Qq (pv 3) (Qq (pv 4) Qz)))))) (Qm (Qa (q_t Kx (Zk K Z.T.u0 (Qq (pv 5) Qz)) Qx) (Qm (Xt (Tf K (pv 2) (Qq (Zp (Qq (pv 3) (Qq (Qd (Qqq Z) hr (Qq (pv 0) (Qq (pv 5) (Qq (pv 3) (Qq (pv 4) Qz))))) (Qq (pv 4) Qz)))) Qz)))) Qp)))))) (Qh (pv 2))))),?_⟩;have AC:Qz1 K au:=Z.b7.a;have lw:=ok.bok.w1;have lb:=ok.bok.b1;obtain ⟨dx,hp,wa,g1,g2,g3⟩:=hA.ex;obtain ⟨dh,bb,ww,h1,h2,h3⟩:=g2.ex;refine ⟨_,rfl,p,_,dx,_,_,rfl,g1,AC.cl,AC.nH,Yp _ _,hp,dh,_,rfl,h1,Us _ _ _,hp,ak,aj,ao,rfl,g2,?_⟩;symm;refine λhl H1 n1=>?_;refine ⟨_,rfl,_,rfl,by lia,by lia,?_⟩;rw [Int.toNat_natCast];have fhl:H hl=none:=n1.none;refine L2.Ja (λi σ H' => ∃ (aq:List Hop) (o3 o4 o5:Option V),σ=[rf p,iv (aj.length:Int),rf hl,o3,o4,o5]/\Qc H H'/\Yl Pb H H'/\Qe H' Pb Zy "best_room.<locals>.<lambda>"/\Zb H' hl aq/\Ue true ak aj way aq i 0)
  ⟨[],none,none,none,rfl,n1.same.b,n1.same.o,hL.same n1.same,⟨[],n1.at_,rfl,(λj t m z=>by simp at z)⟩,⟨(λm z=>by cases z),(λm z=>by cases z),(λa b _ _ _ z=>by lia),by simp⟩⟩ ?_ ?_
 ·intro i σ H2 hi q9; obtain ⟨aq,o3,o4,o5,rfl,s2,so2,hL2,hh2,ht2⟩:=q9;refine ⟨_,rfl,_,rfl,by lia,by lia,?_⟩;rw [Int.toNat_natCast];refine L2.Ja (λj σ H' => ∃ (aq:List Hop) (o4 o5:Option V),σ=[rf p,iv (aj.length:Int),rf hl,iv (0 + (i:Int)),o4,o5]/\Qc H H'/\Yl Pb H H'/\Qe H' Pb Zy "best_room.<locals>.<lambda>"/\Zb H' hl aq/\Ue true ak aj way aq i j)
   ⟨aq,_,_,rfl,s2,so2,hL2,hh2,ht2⟩ ?_ ?_
  ·intro j σ H3 hj q9; obtain ⟨jn,o4',o5',rfl,s3,so3,hL3,hh3,ht3⟩:=q9;have hA3:=hA.bf s3;refine ⟨λv H' => ∃ rl ms,v=.ref rl/\H' rl=some (.lst (ms.map V.int))/\Qu H3 H'/\((i=j/\ms=[])\/(i≠j/\Dz ms (Zd true ak way i j))),?_,?_⟩
   ·symm;refine Kz (λe=>?_) (λe=>?_)
    ·have e':i=j:=by
      have:=Q6 e;injection this with this
      lia
     refine ⟨Zn (by simp),λl4 H4 n4=>?_⟩;exact ⟨l4,[],rfl,n4.at_,n4.same,.inl ⟨e',rfl⟩⟩
    ·have e':i≠j:=λz=>e (P0 (by rw [z]));refine Se (a:=i) (b:=j) hA3 ok (by lia) (by lia) (λ_ k=>⟨_,rfl,k⟩) (λK2 k=>⟨_,rfl,_,rfl,by show K2 [V.int (0 + (i:Int)),V.int (0 + (j:Int))] _; rw [Int.zero_add,Int.zero_add]; exact k⟩) λl4 ms H4 s4 f4 h4 hr4=>?_;exact ⟨l4,ms,rfl,h4,s4,.inr ⟨e',hr4⟩⟩
   intro v H4 q9; obtain ⟨rl,ms,rfl,h4,s4,hcase⟩:=q9;have S4:Qc H H4:=s3.trans s4.b;have SO4:Yl Pb H H4:=so3.trans s4.o;have hL4:=hL3.same s4;have hh4:=hh3.same s4;refine ⟨_,rfl,rl,_,rfl,.inl (SqL.of h4),?_⟩;rw [length_map];refine ⟨_,_,rfl,rfl,_,rfl,?_⟩;rcases hcase with ⟨eij,rfl⟩ | ⟨nij,hri⟩
   ·refine Vq rfl ?_;exact ⟨jn,_,_,rfl,S4,SO4,hL4,hh4,ht3.skip eij⟩
   ·have g8:((way.getD (if true then i else j) 0:Nat):Int)∈ms:=(hri.2 _).mpr (by simp [Zd]);have kj:0 < ms.length:=Z8 g8;rw [if_pos (decide_eq_true (by lia))];obtain ⟨ts,t1,t2,t3⟩:=id hh4;refine ⟨_,rfl,.inl ⟨rfl,_,SqL.of t1⟩,?_⟩;refine ⟨_,rfl,_,rfl,_,rfl,_,rfl,_,rfl,p,rl,ak,aj,ao,way,i,j,ms,by simp,hA.bf S4,ok,by lia,by lia,h4,hri,hL4,λr H5 s5 so5 hL5 hr1 hr2 hr3=>?_⟩;refine ⟨_,rfl,Zn (by simp),λtp H6 n6=>?_⟩;have t16:H6 hl=some (.lst (ts.map V.ref)):=n6.same _ _ (s5.to _ _ t1 rfl);refine ⟨hl,_,_,rfl,rfl,t16,by rw [sizeLine_eq,length_map,t2]; have:=ht3.len; have:=Nat.mul_le_mul (show i<=10 by lia) lw; lia,?_⟩;have hh7:Zb (upd H6 hl (.lst (ts.map V.ref ++ [.ref tp]))) hl (jn ++ [(i,r,j)]):=by
     refine Zb.snoc (ts:=ts) (t:=tp) Qy t2 (λk t' m' x1 x2=>?_) ?_
     ·have e1:=n6.same _ _ (s5.to _ _ (t3 k t' m' x1 x2) rfl);rw [Qv (Jv e1 t16 (by intro z; cases z))];exact e1
     ·have e1:=n6.at_;rw [Qv (Jv e1 t16 (by intro z; cases z)),e1];simp [Qnx]
    refine ⟨jn ++ [(i,r,j)],_,_,rfl,⟨λc o e z=>?_,λc e=>?_⟩,λc o e hc=>?_,?_,hh7,ht3.more (by lia) nij hr1 hr2 hr3⟩
    ·rw [Qv (Qj e fhl)];exact n6.same _ _ (s5.to _ _ (S4.to _ _ e z) z)
    ·by_cases hc:c=hl
     ·rw [hc,Qy] at e; cases e
     ·rw [Qv hc] at e;exact S4.th _ (s5.th _ (n6.same.free e))
    ·rw [Qv (Qj e fhl)];exact n6.same _ _ (so5 _ _ (SO4 _ _ e hc) hc)
    ·exact (hL5.same n6.same).updL t16
  ·intro σ H3 q9; obtain ⟨jn,o4',o5',rfl,s3,so3,hL3,hh3,ht3⟩:=q9;exact ⟨jn,_,_,_,rfl,s3,so3,hL3,hh3,ht3.next⟩
 ·intro σ H2 q9; obtain ⟨aq,o3,o4,o5,rfl,s2,so2,hL2,hh2,ht2⟩:=q9;symm;exact q hl aq H2 s2 so2 hL2 fhl hh2 (ht2.good lw)
theorem Qhz:Def P w K mg base 1 "hop_on" ["hops",Y13,"totals",Y30] Qw9:=by
 refine Z.a19.mq ["hops",Y13,"totals",Y30,Y44,"hop","came","there"] λH vs Q E hr nD h=>?_;obtain ⟨hl,gl,tl,cl,aq,gn,n,N,st,F,rfl,hh,hg,htc,hF,hF0,n1,n2,n3,n4,hlt,l1,l2,fu,hN,hN2,q⟩:=h;refine ⟨_,(Qm (Xr (Zo Z.T.u1 (Qq (Zk K Z.T.u0 (Qq (pv 0) Qz)) Qz)) (Ql 4 nD) (Qw (Qg 5 nD (Qb K (pv 0) (pv 4))) (Qw (Qg 6 nD (Qb K (pv 2) (Qb K (pv 5) Qx))) (Qw (Qg 7 nD (Qb K (pv 2) (Qb K (pv 5) Qx))) (Qm (Qa (PW.pt (Wa (q_t Ka (pv 6) Qo) (Um (PW.pt (Xs (q_t We (pv 7) Qo) (Xi (q_t Kx (Qk Zt (pv 6) (Qb K (pv 1) (pv 4))) (pv 7)))))))) (Qw (Uv (Qk Zt (pv 6) (Qb K (pv 1) (pv 4))) (Fa (pv 2) (Qb K (pv 5) Qx) Wp)) (Qm (Uv (Qk Ke (Qb K (pv 3) (Qb K (pv 5) Qx)) (Zq (Qq (pv 5) Qz))) (Fa (pv 3) (Qb K (pv 5) Qx) Wp)))) Qp))))))),?_⟩;obtain ⟨ts,e1,e2,e3⟩:=id hh;refine ⟨_,rfl,hl,_,rfl,.inl (SqL.of e1),?_⟩;rw [length_map,e2];walk_at "r";refine L2.Ja (λi σ H'=>(∃ o4 o5 o6 o7,σ=[rf hl,rf gl,rf tl,rf cl,o4,o5,o6,o7])/\(∀ b o,H b=some o->b≠tl->b≠cl->H' b=some o)/\(∀ b,H' b=none->H b=none)/\Ub H' tl cl ((aq.take i).foldl (Ur gn) st)/\(∀ c∈((aq.take i).foldl (Ur gn) st).2,c.length<=N + i)/\((aq.take i).foldl (Ur gn) st).1.length=n/\((aq.take i).foldl (Ur gn) st).2.length=n/\TCF F H' cl)
  ⟨⟨_,_,_,_,rfl⟩,λ_ _ e _ _=>e,λ_ e=>e,htc,hN,l1,l2,hF⟩ ?_ ?_
 ·intro i σ H1 hi q9; obtain ⟨⟨o4,o5,o6,o7,rfl⟩,k1,f1,tc1,c1,m1,m2,F1⟩:=q9;have hm:aq[i]? = some aq[i]:=by simp [hi]
  have etk:aq.take (i + 1)=aq.take i ++ [aq[i]]:=by rw [take_succ,hm]; rfl
  rw [etk,foldl_append];obtain ⟨b1,b2⟩:=hlt _ (N7 hi);have ht:ts[i]? = some (ts[i]'(by lia)):=by simp [show i < ts.length by lia]
  have htt:=e3 i _ _ ht hm;generalize aq[i]=m at *;generalize ts[i]'(by lia)=t at *;generalize (aq.take i).foldl (Ur gn) st=s0 at *;have hh1:=k1 _ _ e1 n1 n2;have jy:=k1 _ _ htt (Jv htt htc.g (by intro z; cases z)) (by obtain ⟨ls,e,_⟩:=htc.ex;exact Jv htt e (by intro z; cases z))
  have hg1:=k1 _ _ hg n3 n4;have hix:(ts.map V.ref)[i]? = some (.ref t):=by simp [ht]
  have gt1:(s0.1.map oV)[m.1]? = some (oV (s0.1.getD m.1 none)):=by simp [getD,m1,b1]
  have gt2:(s0.1.map oV)[m.2.2]? = some (oV (s0.1.getD m.2.2 none)):=by simp [getD,m1,b2]
  have gg:((aq.map gn).map V.int)[i]? = some (.int (gn m)):=by simp [hm]
  symm;refine ixL (SqL.of hh1) (Qs i (by lia) hix) ?_;refine ⟨_,rfl,_,rfl,?_⟩;refine ixU jy rfl ?_;refine ixW m.1 tc1.g gt1 ?_;refine ⟨_,rfl,_,rfl,?_⟩;refine ixU jy rfl ?_;refine ixW m.2.2 tc1.g gt2 ?_;cases hcame:s0.1.getD m.1 none with
  | none =>
   have er:[m].foldl (Ur gn) s0=s0:=by show Ur gn s0 m=_;unfold Ur;rw [hcame]
   rw [er];refine ⟨_,rfl,rfl,_,rfl,Ml ?_⟩;exact ⟨⟨_,_,_,_,rfl⟩,k1,f1,tc1,λc hc=>by have:=c1 c hc; lia,m1,m2,F1⟩
  | some came =>
  refine ⟨_,rfl,rfl,_,rfl,Qej ?_⟩;cases hth:s0.1.getD m.2.2 none with
  | none =>
   have hbt:btO (s0.1.getD m.2.2 none) (came + gn m)=true:=by rw [hth]; rfl
   refine ⟨_,rfl,rfl,_,rfl,Qej ?_⟩;have er:[m].foldl (Ur gn) s0=(s0.1.set m.2.2 (some (came + gn m)),s0.2.set m.2.2 (s0.2.getD m.1 [] ++ [m])):=by show Ur gn s0 m=_;unfold Ur;rw [hcame];dsimp only;rw [if_pos hbt]
   have pq:=Fq (gn:=gn) (m:=m) c1;have erl:Ur gn s0 m=(s0.1.set m.2.2 (some (came + gn m)),s0.2.set m.2.2 (s0.2.getD m.1 [] ++ [m])):=er;rw [erl] at pq;rw [er];refine ⟨_,rfl,_,rfl,_,rfl,?_⟩;refine ixL (SqL.of hg1) (Qs i (by lia) gg) ?_;refine ⟨_,_,rfl,rfl,_,rfl,_,rfl,?_⟩;refine ixU jy rfl ?_;refine ⟨tl,_,_,m.2.2,rfl,rfl,tc1.g,?_,?_⟩
   ·unfold ixN;rw [if_pos (by lia),if_pos (by rw [length_map,m1]; lia)];simp
   have tc2:Ub (upd H1 tl (.lst ((s0.1.map oV).set m.2.2 (.int (came + gn m))))) tl cl (s0.1.set m.2.2 (some (came + gn m)),s0.2):=by have:=tc1.gset (gs':=s0.1.set m.2.2 (some (came + gn m)));rw [map_set] at this;exact this
   have ntl:t≠tl:=Jv jy tc1.g (by intro z; cases z);have k2:∀ b o,H1 b=some o->b≠tl->upd H1 tl (.lst ((s0.1.map oV).set m.2.2 (.int (came + gn m)))) b=some o:=λb o e hb=>by rw [Qv hb]; exact e
   have f2:∀ b,upd H1 tl (.lst ((s0.1.map oV).set m.2.2 (.int (came + gn m)))) b=none->H1 b=none:=λb e=>by
    by_cases hb:b=tl
    ·rw [hb,Qy] at e; cases e
    ·rw [Qv hb] at e; exact e
   have je:=k2 _ _ jy ntl;have F2:=F1.keep (H':=upd H1 tl (.lst ((s0.1.map oV).set m.2.2 (.int (came + gn m))))) (λo e=>k2 _ _ e tc1.ne.symm);generalize upd H1 tl (.lst ((s0.1.map oV).set m.2.2 (.int (came + gn m))))=H2 at *;obtain ⟨ls,a1,a2,a3,a4⟩:=id tc2.ex;have a2':ls.length=n:=by rw [a2]; exact m2
   have hla:(ls.map V.ref)[m.1]? = some (.ref (ls[m.1]'(by lia))):=by simp [show m.1 < ls.length by lia]
   have hca:s0.2[m.1]? = some (s0.2.getD m.1 []):=by simp [getD,m2,b1]
   obtain ⟨us,u1,u2,u3⟩:=a4 m.1 (ls[m.1]'(by lia)) _ (by simp [show m.1 < ls.length by lia]) hca;have hcl:(s0.2.getD m.1 []).length<=N + i:=c1 _ (T8 hca);refine ⟨_,rfl,_,rfl,?_⟩;refine ixU je rfl ?_;refine ixW m.1 a1 hla ?_;refine ⟨_,rfl,Zn (by simp),λl3 H3 n3=>?_⟩;refine ⟨_,l3,_,_,rfl,rfl,n3.same _ _ u1,n3.at_,by rw [sizeLine_eq,length_map,u2]; show (s0.2.getD m.1 []).length + 1<=16777216; lia,λl4 H4 n4=>?_⟩;have S4:Qu H2 H4:=n3.same.trans n4.same;have tc4:=tc2.same S4;refine ⟨_,rfl,_,rfl,?_⟩;refine ixU (S4 _ _ je) rfl ?_;refine ⟨cl,_,_,m.2.2,rfl,rfl,S4 _ _ a1,?_,?_⟩
   ·unfold ixN;rw [if_pos (by lia),if_pos (by rw [length_map,a2']; lia)];simp
   have nl4a:l4≠tl:=(Qj (n3.same _ _ tc2.g) n4.none).symm;have nl4b:l4≠cl:=(Qj (n3.same _ _ a1) n4.none).symm;have hc4:Zb H4 l4 (s0.2.getD m.1 [] ++ [m]):=Zb.snoc (ts:=us) (t:=t) n4.at_ u2 (λj t' m' x1 x2=>S4 _ _ (u3 j t' m' x1 x2)) (S4 _ _ je);have tc5:=tc4.mset (S4 _ _ a1) (r:=m.2.2) (by lia) nl4a nl4b hc4;refine ⟨⟨_,_,_,_,rfl⟩,λb o e h1' h2'=>?_,λb e=>?_,tc5,?_,?_,?_,?_⟩
   ·rw [Qv h2'];exact S4 _ _ (k2 _ _ (k1 b o e h1' h2') h1')
   ·have hb:b≠cl:=λz=>by rw [z,Qy] at e; cases e
    rw [Qv hb] at e;exact f1 _ (f2 _ (S4.free e))
   ·intro c hc;have:=pq c hc;lia
   ·simp [m1]
   ·simp [m2]
   ·refine ⟨ls.set m.2.2 l4,by rw [Qy,map_set],λa ha=>?_⟩;rcases A0f ha with z | z
    ·exact F2.at_ a1 a z
    ·rw [z];exact hF0 _ (f1 _ (f2 _ (n3.same.free n4.none)))
  | some th =>
  refine ⟨_,rfl,rfl,_,rfl,Ml ?_⟩;refine ⟨_,rfl,_,rfl,_,rfl,?_⟩;refine ixL (SqL.of hg1) (Qs i (by lia) gg) ?_;refine ⟨_,_,rfl,rfl,_,rfl,_,_,rfl,rfl,_,rfl,?_⟩;refine Kz (λhgt=>?_) (λhgt=>?_)
  ·have hgt':th < came + gn m:=Q6 hgt;have hbt:btO (s0.1.getD m.2.2 none) (came + gn m)=true:=by rw [hth]; exact P0 hgt'
   have er:[m].foldl (Ur gn) s0=(s0.1.set m.2.2 (some (came + gn m)),s0.2.set m.2.2 (s0.2.getD m.1 [] ++ [m])):=by show Ur gn s0 m=_;unfold Ur;rw [hcame];dsimp only;rw [if_pos hbt]
   have pq:=Fq (gn:=gn) (m:=m) c1;have erl:Ur gn s0 m=(s0.1.set m.2.2 (some (came + gn m)),s0.2.set m.2.2 (s0.2.getD m.1 [] ++ [m])):=er;rw [erl] at pq;rw [er];refine ⟨_,rfl,_,rfl,_,rfl,?_⟩;refine ixL (SqL.of hg1) (Qs i (by lia) gg) ?_;refine ⟨_,_,rfl,rfl,_,rfl,_,rfl,?_⟩;refine ixU jy rfl ?_;refine ⟨tl,_,_,m.2.2,rfl,rfl,tc1.g,?_,?_⟩
   ·unfold ixN;rw [if_pos (by lia),if_pos (by rw [length_map,m1]; lia)];simp
   have tc2:Ub (upd H1 tl (.lst ((s0.1.map oV).set m.2.2 (.int (came + gn m))))) tl cl (s0.1.set m.2.2 (some (came + gn m)),s0.2):=by have:=tc1.gset (gs':=s0.1.set m.2.2 (some (came + gn m)));rw [map_set] at this;exact this
   have ntl:t≠tl:=Jv jy tc1.g (by intro z; cases z);have k2:∀ b o,H1 b=some o->b≠tl->upd H1 tl (.lst ((s0.1.map oV).set m.2.2 (.int (came + gn m)))) b=some o:=λb o e hb=>by rw [Qv hb]; exact e
   have f2:∀ b,upd H1 tl (.lst ((s0.1.map oV).set m.2.2 (.int (came + gn m)))) b=none->H1 b=none:=λb e=>by
    by_cases hb:b=tl
    ·rw [hb,Qy] at e; cases e
    ·rw [Qv hb] at e; exact e
   have je:=k2 _ _ jy ntl;have F2:=F1.keep (H':=upd H1 tl (.lst ((s0.1.map oV).set m.2.2 (.int (came + gn m))))) (λo e=>k2 _ _ e tc1.ne.symm);generalize upd H1 tl (.lst ((s0.1.map oV).set m.2.2 (.int (came + gn m))))=H2 at *;obtain ⟨ls,a1,a2,a3,a4⟩:=id tc2.ex;have a2':ls.length=n:=by rw [a2]; exact m2
   have hla:(ls.map V.ref)[m.1]? = some (.ref (ls[m.1]'(by lia))):=by simp [show m.1 < ls.length by lia]
   have hca:s0.2[m.1]? = some (s0.2.getD m.1 []):=by simp [getD,m2,b1]
   obtain ⟨us,u1,u2,u3⟩:=a4 m.1 (ls[m.1]'(by lia)) _ (by simp [show m.1 < ls.length by lia]) hca;have hcl:(s0.2.getD m.1 []).length<=N + i:=c1 _ (T8 hca);refine ⟨_,rfl,_,rfl,?_⟩;refine ixU je rfl ?_;refine ixW m.1 a1 hla ?_;refine ⟨_,rfl,Zn (by simp),λl3 H3 n3=>?_⟩;refine ⟨_,l3,_,_,rfl,rfl,n3.same _ _ u1,n3.at_,by rw [sizeLine_eq,length_map,u2]; show (s0.2.getD m.1 []).length + 1<=16777216; lia,λl4 H4 n4=>?_⟩;have S4:Qu H2 H4:=n3.same.trans n4.same;have tc4:=tc2.same S4;refine ⟨_,rfl,_,rfl,?_⟩;refine ixU (S4 _ _ je) rfl ?_;refine ⟨cl,_,_,m.2.2,rfl,rfl,S4 _ _ a1,?_,?_⟩
   ·unfold ixN;rw [if_pos (by lia),if_pos (by rw [length_map,a2']; lia)];simp
   have nl4a:l4≠tl:=(Qj (n3.same _ _ tc2.g) n4.none).symm;have nl4b:l4≠cl:=(Qj (n3.same _ _ a1) n4.none).symm;have hc4:Zb H4 l4 (s0.2.getD m.1 [] ++ [m]):=Zb.snoc (ts:=us) (t:=t) n4.at_ u2 (λj t' m' x1 x2=>S4 _ _ (u3 j t' m' x1 x2)) (S4 _ _ je);have tc5:=tc4.mset (S4 _ _ a1) (r:=m.2.2) (by lia) nl4a nl4b hc4;refine ⟨⟨_,_,_,_,rfl⟩,λb o e h1' h2'=>?_,λb e=>?_,tc5,?_,?_,?_,?_⟩
   ·rw [Qv h2'];exact S4 _ _ (k2 _ _ (k1 b o e h1' h2') h1')
   ·have hb:b≠cl:=λz=>by rw [z,Qy] at e; cases e
    rw [Qv hb] at e;exact f1 _ (f2 _ (S4.free e))
   ·intro c hc;have:=pq c hc;lia
   ·simp [m1]
   ·simp [m2]
   ·refine ⟨ls.set m.2.2 l4,by rw [Qy,map_set],λa ha=>?_⟩;rcases A0f ha with z | z
    ·exact F2.at_ a1 a z
    ·rw [z];exact hF0 _ (f1 _ (f2 _ (n3.same.free n4.none)))
  ·have hgt':¬ th < came + gn m:=λz=>hgt (P0 z);have er:[m].foldl (Ur gn) s0=s0:=by show Ur gn s0 m=_;unfold Ur;rw [hcame];dsimp only;rw [if_neg (by rw [hth]; exact λz=>hgt' (of_decide_eq_true z))]
   rw [er];exact ⟨⟨_,_,_,_,rfl⟩,k1,f1,tc1,λc hc=>by have:=c1 c hc; lia,m1,m2,F1⟩
 ·intro σ H1 q9; obtain ⟨⟨o4,o5,o6,o7,rfl⟩,k1,f1,tc1,c1,m1,m2,F1⟩:=q9;rw [take_length] at tc1 c1;exact q _ k1 f1 tc1 F1 c1
theorem Iq:Def P w K mg base 8 "carry" [Y5,"starts"] (Qwz CH au Pb Zy "best_room.<locals>.<lambda>"):=by
 refine Z.a20.mq [Y5,"starts","totals",Y30,"hops",Y13,"turn"] λH vs Q E hr nD h=>?_;obtain ⟨p,sl,ak,aj,ao,way,start,rfl,hA,ok,hL,hsl,lst,q⟩:=h;refine ⟨_,(zcF (zcC (Qg 2 nD (Wi K Z.T.u6 (Qq (pv 1) Qz))) (zcC (Ws 3 nD ["start"] [none] (Wn K (pv 1)) (Zq Qz)) (zcC (Qg 4 nD (Qd (Qqz Z) hr (Qq (pv 0) Qz))) (zcC (Ws 5 nD ["hop",Y5] [none,some 0] (Wn K (pv 4)) (Ti (Cd Z) Z.b7.cl (pv 1) (hr.mono (by decide)) (Qq (Qb K (pv 0) Qx) (Qq (Qb K (pv 0) Qx) (Qq (Qb K (pv 0) Qx) Qz))))) (zcL (Qw (Xr (Zo Z.T.u1 (Qq (Zk K Z.T.u0 (Qq (pv 1) Qz)) Qz)) (Ql 6 nD) (Qm (Xt (Qd (Qhz Z) hr (Qq (pv 4) (Qq (pv 5) (Qq (pv 2) (Qq (pv 3) Qz)))))))) (Qh (Zp (Qq (pv 2) (Qq (pv 3) Qz))))))))))),?_⟩;have lw:=ok.bok.w1;have lr:(start.map oV).length=aj.length:=by rw [length_map,lst]
 nofun;refine ⟨_,rfl,sl,_,rfl,.inl (SqL.of hsl),λtl H1 n1=>?_⟩;symm;refine ⟨⟨_,SqL.of (n1.same _ _ hsl)⟩,λcl hcl=>?_⟩;have ntc:tl≠cl:=Qj n1.at_ hcl;refine Xe (λi y H' => ∃ l,y=.ref l/\l≠cl/\H1 l=none/\H' l=some (.lst [])) (SqL.of (n1.same _ _ hsl)) (by rw [lr,sizeLine_eq]; lia) hcl (λi y H H' k ⟨l,e,ne,h0,h⟩=>⟨l,e,ne,h0,k l _ ne h⟩) ?_ ?_
 ·rintro i x H2 ys N hx s2 d2 hN;refine ⟨Zn (by simp),λl H3 n3=>?_⟩;exact hN _ _ n3.same ⟨l,rfl,(Qj d2 n3.none).symm,s2.free n3.none,n3.at_⟩
 rintro ys H2 s2 d2 ly r2;obtain ⟨ls,els,pls⟩:=Wj (P:=λi l=>l≠cl/\H1 l=none/\H2 l=some (.lst [])) (λi y e=>by obtain ⟨l,e1,e2,e3,e4⟩:=r2 i y e;exact ⟨l,e1,e2,e3,e4⟩)
 subst els;have lls:ls.length=aj.length:=by rw [length_map,lr] at ly; exact ly
 have tc2:Ub H2 tl cl (Xu start):=by
  refine ⟨ntc,s2 _ _ n1.at_,ls,d2,by simp [Xu,lls,lst],λx hx=>?_,λi x c z1 z2=>?_⟩
  ·obtain ⟨i,hi,rfl⟩:=X4.mp hx;obtain ⟨e1,e2,_⟩:=pls i _ (R7 hi);exact ⟨(Qj n1.at_ e2).symm,e1⟩
  ·obtain ⟨e1,e2,e3⟩:=pls i x z1;have ec:c=[]:=by
    have hi:i < aj.length:=by rw [<- lls]; exact (N8.mp z1).1
    simp [Xu,show i < start.length by lia] at z2;exact z2
   subst ec;exact ⟨[],e3,rfl,λj t m z=>by simp at z⟩
 have S2:Qu H H2:=n1.same.trans s2;have F2:TCF (λa=>H a=none) H2 cl:=⟨ls,d2,λx hx=>by obtain ⟨i,hi,rfl⟩:=X4.mp hx;obtain ⟨_,e2,_⟩:=pls i _ (R7 hi);exact n1.same.free e2⟩
 have ftl:H tl=none:=n1.none;have fcl:H cl=none:=n1.same.free hcl;nofun;refine ⟨_,rfl,p,ak,aj,ao,way,rfl,hA.same S2,ok,hL.same S2,λhl aq H3 s3 so3 hL3 fhl hh3 good=>?_⟩;have S3:Qc H H3:=S2.b.trans s3;have SO3:Yl Pb H H3:=S2.o.trans so3;have tc3:=tc2.bf s3;have hA3:=hA.bf S3;obtain ⟨ts,t1,t2,t3⟩:=id hh3;have hgl:=good.len;symm;refine ⟨⟨_,SqL.of t1⟩,λgl hgl0=>?_⟩;refine Xe (λi y _ => ∃ m,aq[i]? = some m/\y=.int (gnF true aj way m)) (SqL.of t1) (by rw [length_map,t2,sizeLine_eq]; lia) hgl0 (λ_ _ _ _ _ h=>h) ?_ ?_
 ·rintro i x H4 ys N hx s4 d4 hN;obtain ⟨t,ht,rfl⟩:=Ju hx;have hi:i < aq.length:=by rw [<- t2]; exact (N8.mp ht).1
  have hm:aq[i]? = some aq[i]:=by simp [hi]
  have htt:=s4 _ _ (t3 i t _ ht hm);obtain ⟨m1,m2,m3,m4,m5⟩:=good.mem _ (N7 hi);refine Mz (hA3.same s4) ok m1 m4 m2 (λ_ k=>⟨_,rfl,k⟩) (λK2 k=>?_) (hN _ _ (Qu.refl _) ⟨_,hm,rfl⟩);refine ⟨_,rfl,ixU htt rfl ?_⟩;refine ⟨_,rfl,ixU htt rfl ?_⟩;refine ⟨_,rfl,ixU htt rfl ?_⟩;exact k
 rintro ys H4 s4 d4 ly4 r4;have ey:ys=(aq.map (gnF true aj way)).map V.int:=Ww (by rw [ly4,length_map,length_map,t2]) λi y e=>by obtain ⟨m,h1,h2⟩:=r4 i y e;exact ⟨_,by rw [getElem?_map,h1]; rfl,h2⟩
 subst ey;have S4:Qc H H4:=S3.trans s4.b;have SO4:Yl Pb H H4:=SO3.trans s4.o;have tc4:=tc3.same s4;have F4:TCF (λa=>H a=none) H4 cl:=F2.keep λo e=>by rw [d2] at e;cases e;exact s4 _ _ (s3.to _ _ d2 rfl)
 have hh4:=hh3.same s4;have hL4:=hL3.same s4;have hsl4:=S4.to _ _ hsl rfl;have nhl1:hl≠tl:=(Qj tc2.g fhl).symm;have nhl2:hl≠cl:=(Qj d2 fhl).symm;have ngl1:gl≠tl:=(Qj tc3.g hgl0).symm;have ngl2:gl≠cl:=by obtain ⟨ls3,e1,_⟩:=tc3.ex;exact (Qj e1 hgl0).symm
 have hlt:∀ m∈aq,m.1 < aj.length/\m.2.2 < aj.length:=λm hm=>⟨(good.mem m hm).1,(good.mem m hm).2.1⟩
 have hrl:∀ k,(Ut (gnF true aj way) aq (Xu start) k).1.length=aj.length/\(Ut (gnF true aj way) aq (Xu start) k).2.length=aj.length:=λk=>⟨(Rn hlt lst k).l1,(Rn hlt lst k).l2⟩
 nofun;refine ⟨_,rfl,sl,_,rfl,.inl (SqL.of hsl4),?_⟩;rw [lr];walk_at "r";refine Zu (λi σ H'=>(∃ o6,σ=[rf p,rf sl,rf tl,rf cl,rf hl,rf gl,o6])/\(∀ b o,H4 b=some o->b≠tl->b≠cl->H' b=some o)/\(∀ b,H' b=none->H4 b=none)/\TCF (λa=>H a=none) H' cl/\Ub H' tl cl (Ut (gnF true aj way) aq (Xu start) i)/\∀ c∈(Ut (gnF true aj way) aq (Xu start) i).2,c.length<=i * 100)
  ⟨⟨_,rfl⟩,(λ_ _ e _ _=>e),(λ_ e=>e),F4,tc4,(λc hc=>by
   have:c=[]:=by obtain ⟨_,_,e⟩:=O8.mp (show c∈start.map (λ_ => []) from hc);exact e.symm
   rw [this]; simp)⟩ ?_ ?_
 ·nofun;intro i σ H5 hi q9; obtain ⟨⟨o6,rfl⟩,k5,f5,F5,tc5,c5⟩:=q9;have hh5:Zb H5 hl aq:=by obtain ⟨ts4,u1,u2,u3⟩:=hh4;refine ⟨ts4,k5 _ _ u1 nhl1 nhl2,u2,λj t m z1 z2=>?_⟩;have:=u3 j t m z1 z2;refine k5 _ _ this (Jv this tc4.g (by intro z; cases z)) ?_;obtain ⟨ls4,e1,_⟩:=tc4.ex;exact Jv this e1 (by intro z; cases z)
  refine ⟨_,rfl,_,rfl,_,rfl,_,rfl,hl,gl,tl,cl,aq,gnF true aj way,aj.length,i * 100,_,(λa=>H a=none),rfl,hh5,k5 _ _ d4 ngl1 ngl2,tc5,F5,(λa e=>S4.th _ (f5 _ e)),nhl1,nhl2,ngl1,ngl2,hlt,(hrl i).1,(hrl i).2,hgl,c5,by lia,λH6 k6 f6 tc6 F6 c6=>?_⟩;nofun;refine ⟨⟨_,rfl⟩,λb o e h1 h2=>k6 _ _ (k5 b o e h1 h2) h1 h2,λb e=>f5 _ (f6 _ e),F6,?_,?_⟩
  ·rw [Jh]; exact tc6
  ·rw [Jh];intro c hc;have:=c6 c hc;lia
 ·intro σ H5 q9; obtain ⟨⟨o6,rfl⟩,k5,f5,F5,tc5,c5⟩:=q9;refine ⟨_,rfl,_,rfl,Zn (by simp),λt H6 n6=>?_⟩;have kk:∀ b o,H b=some o->b≠Pb->H6 b=some o:=λb o e hb=>n6.same _ _ (k5 _ _ (SO4 _ _ e hb) (Qj e ftl) (Qj e fcl));refine q t tl cl aq _ H6 ⟨λb o e z=>n6.same _ _ (k5 _ _ (S4.to _ _ e z) (Qj e ftl) (Qj e fcl)),λb e=>S4.th _ (f5 _ (n6.same.free e))⟩ kk ?_ ftl fcl (S4.th _ (f5 _ n6.none)) (F5.keep λo e=>n6.same _ _ e) (λc hc=>by have:=c5 c hc; lia) ⟨n6.at_,tc5.same n6.same,good,rfl⟩;refine Qe.same ?_ n6.same;have k:∀ c o,H4 c=some o->(∀ zs,o≠.lst zs)->H5 c=some o:=λc o e hne=>by refine k5 _ _ e (Jv e tc4.g (hne _)) ?_;obtain ⟨ls4,e1,_⟩:=tc4.ex;exact Jv e e1 (hne _)
  rcases hL4 with h | ⟨c',oc,vs,t',h1,h2,h3⟩
  ·exact .inl (k _ _ h (by intro zs z; cases z))
  ·exact .inr ⟨c',oc,vs,t',k _ _ h1 (by intro zs z; cases z),k _ _ h2 (by intro zs z; cases z),h3⟩
def Fv:Def P w K mg base 9 "greatest" [Y5] (Oq true CH au Pb Zy "best_room.<locals>.<lambda>"):=by
 refine Z.a21.mq [Y5] λH vs Q E hr nD h=>?_;obtain ⟨p,ak,aj,ao,way,rfl,hA,ok,f9,fj,hL,q⟩:=h;refine ⟨_,(Qh (Qd (Iq Z) hr (Qq (pv 0) (Qq (Xz [Y7] [none] (Zo Z.T.u1 (Qq (Zz (Yf Z) Z.HC.cl (Yy K (pv 0)) (hr.mono (by decide))) Qz)) Qx) Qz)))),?_⟩;have AC:Qz1 K au:=Z.b7.a;have lw:=ok.bok.w1;obtain ⟨dx,hp,wa,g1,g2,g3⟩:=hA.ex;obtain ⟨dh,bb,ww,h1,h2,h3⟩:=g2.ex;refine ⟨_,rfl,_,rfl,p,_,dx,_,_,rfl,g1,AC.cl,AC.nH,Yp _ _,hp,dh,_,rfl,h1,Us _ _ _,hp,ak,aj,ao,rfl,g2,?_⟩;walk_at "d";refine Xx (λ_=>.int 0) sml hD (λi hi H1 N s1 hN=>hN _ (Qu.refl _)) λH1 s1 d1=>?_;have d1':H1 D=some (.lst ((replicate aj.length (some 0)).map oV)):=by
  rw [d1]
  congr 2
  rw [map_replicate];exact eq_replicate_iff.mpr ⟨by simp,λb hb=>by obtain ⟨_,_,rfl⟩:=O8.mp hb;rfl⟩
 refine ⟨p,D,ak,aj,ao,way,replicate aj.length (some 0),rfl,hA.same s1,ok,hL.same s1,d1',by simp,λt tl cl aq st H2 s2 so2 hL2 f1 f2 f3 ff cb g=>?_⟩;obtain ⟨gg,e2⟩:=g.great ok f9 fj;exact q t tl cl aq _ H2 (s1.b.trans s2) (s1.o.trans so2) hL2 (s1.free f1) (s1.free f2) (s1.free f3) (ff.imp λa e=>s1.free e) (by rw [<- e2]; exact cb) gg
theorem Vy:Def P w K mg base 1 "_law_mixed" ["_law_cell",Y26] Qb8:=by refine Z.a22.mq ["_law_cell",Y26,"_law_m"] @λ_ _ A _ _ H vs Q E hr nD h=>?_;obtain ⟨c,k,rfl,h1,h2,q⟩:=h;refine ⟨_,(Qw (Qg 2 nD (Qk Zg (Qk Qr (Qk Zt (Qk Zg (pv 0) Qx) Qx) (Qk Zt Qx (Qk Qr (Qk Qr Qx (pv 1)) (pv 1)))) Qx)) (Qh (Qk Zg (Qk Qr (pv 2) (pv 2)) Qx))),?_⟩;have b1:=Qm4 (a:=2 * k) (b:=k) (A:=2000000) (B:=1000000) (by lia) (by lia) (by lia) (by lia);symm;exact q _ (V0 _ (by decide)) (V8 _ (by decide))
def Rc:Def P w K mg base 1 "_law_cell_at" [Y6,Y26] (Qc6 K):=by
 refine Z.a23.mq [Y6,Y26] λH vs Q E hr nD h=>?_;obtain ⟨a,ns,k,rfl,hS,h0,q⟩:=h;refine ⟨_,(Qw (Qa (q_t Rb (pv 1) (Zk K Z.T.u0 (Qq (pv 0) Qz))) (Qh (Qb K (pv 0) (pv 1))) Qp) (Qh Qx)),?_⟩;symm;refine ⟨a,_,rfl,.inl hS,?_⟩;symm;refine Kz (λe=>?_) (λ_=>q 0);symm;have hk:k < ns.length:=by have:=Q6 e;simpa using this
 exact Bx hS h0 hk λz _=>q z
theorem Qeq:Def P w K mg base 2 "_law_beds" [Y19,"_law_many"] Qc7:=by
 refine Z.a24.mq [Y19,"_law_many",Y1,Y26] @λf _ _ _ _ H vs Q E hr nD h=>?_;obtain ⟨f,m,rfl,m0,m1,q⟩:=h;refine ⟨_,(zcF (zcC (Qg 2 nD (Zq Qz)) (zcL (Qw (Xr (Zo Z.T.u1 (Qq (pv 1) Qz)) (Ql 3 nD) (Qm (Xt (Tf K (pv 2) (Qq (Qb K (Zq (Qq Qx (Qq Qx (Qq Qx (Qq Qx (Qq Qx (Qq Qx (Qq Qx (Qq Qx Qz))))))))) (Qk Zg (Qd (Vy Z) hr (Qq (pv 0) (Qq (Qk Zt Qx (pv 3)) Qz))) Qx)) Qz))))) (Qh (pv 2)))))),?_⟩;symm;refine λl H1 n1=>?_;nofun;refine ⟨_,rfl,_,rfl,by lia,by lia,?_⟩;refine Zu (λi σ H' => ∃ (bs:K6) (o:Option V),σ=[iv f,iv m,rf l,o]/\H' l=some (.lst (bs.map V.int))/\bs.length=i/\(∀ b∈bs,1<=b/\b<=4)/\Qu H H') ⟨[],none,rfl,n1.at_,rfl,(λb hb=>by cases hb),n1.same⟩ ?_ ?_
 ·nofun;intro i σ H2 hi q9; obtain ⟨bs,o,rfl,hl,fu,hb,s2⟩:=q9;refine ⟨_,rfl,.inl ⟨rfl,_,SqL.of hl⟩,?_⟩;symm;refine λt H3 n3=>?_;symm;refine ⟨f,_,rfl,by lia,by lia,λz z0 z1=>?_⟩;symm;refine Bx (ns:=[1,1,2,1,3,1,2,4]) (SqL.of n3.at_) (by show (0:Int)<=z % 8; lia) (by show z % 8 < 8; lia) λx hx=>?_;have hx':1<=x/\x<=4:=by simp only [mem_cons,not_mem_nil,or_false] at hx;lia
  refine ⟨l,_,_,rfl,rfl,n3.same _ _ hl,by rw [sizeLine_eq]; simp; lia,?_⟩;nofun;refine ⟨bs ++ [x],_,rfl,by rw [Qy]; simp,by simp [fu],λb hb'=>?_,λc u e=>?_⟩
  ·rcases O6.mp hb' with h | h
   ·exact hb b h
   ·have:b=x:=by simpa using h
    rw [this]; exact hx'
  ·rw [Qv (Qj e n1.none)];exact n3.same _ _ (s2 _ _ e)
 ·intro σ H2 q9; obtain ⟨bs,o,rfl,hl,fu,hb,s2⟩:=q9;symm;exact q l bs H2 ⟨s2,n1.none,hl⟩ (by lia) hb
theorem Qh8:Def P w K mg base 2 "_law_worths" [Y6,Y19,Y40,Y31] (Qvv K):=by
 refine Z.a25.mq [Y6,Y19,Y40,Y31,"_law_sums",Y26,"_law_cell",Y42,Y0,Y9,Y18] @λf _ A _ _ H vs Q E hr nD h=>?_;obtain ⟨a,ns,f,p,r,rfl,hS,fu,p0,p1,r0,r1,q⟩:=h;refine ⟨_,(zcF (zcC (Qg 4 nD (Zq Qz)) (zcC (Xr (Zo Z.T.u1 (Qq (Qk Qr (pv 2) (pv 3)) Qz)) (Ql 5 nD) (Qm (Xt (Tf K (pv 4) (Qq (Qd (Vy Z) hr (Qq (pv 1) (Qq (Qk Zt Qx (pv 5)) Qz))) Qz))))) (zcC (Xr (Qpx (K:=K) rfl rfl Z.T.u2 (Qq (Vg (Rt (K:=K) rfl) (pv 0) (Wv Qx) Tn) Qz)) (Vv (K:=K) (n:=2) rfl rfl (Zw (Ql 5 nD) (Zw (Ql 6 nD) Vj))) (zcF (zcC (Qg 7 nD (Qk Zg (pv 5) (Zk K Z.T.u0 (Qq (pv 4) Qz)))) (zc1 (Uv (Qk Zt (Qk Zg (Qk Qr (Qb K (pv 4) (pv 7)) Qx) (Qk Pl Qx Qx)) (Qk Zg (pv 6) (Qk Pl Qx Qx))) (Fa (pv 4) (pv 7) Wp)))))) (zcC (Qg 8 nD (Zq Qz)) (zcL (Qw (Xr (Zo Z.T.u1 (Qq (pv 2) Qz)) (Ql 9 nD) (zcF (zcC (Qg 10 nD (Vg (Rt (K:=K) rfl) (pv 4) (Wv (Qk Qr (pv 9) (pv 3))) (Wv (Qk Zt (Qk Qr (pv 9) (pv 3)) (pv 3))))) (zcC (zcJ (Qa (q_t Jb (Qk Zg (pv 1) Qx) Qx) (Qm (Ws 10 nD [Y25] [none] (Wn K (pv 10)) (Qk Zg (pv 0) Qx))) (Qm (Qa (q_t Jb (Qk Zg (pv 1) Qx) Qx) (Qm (Ws 10 nD [Y25] [none] (Wn K (pv 10)) (Qk Zh (Qk Zg (pv 0) Qx) Qx))) (Qm (Qa (q_t Jb (Qk Zg (pv 1) Qx) Qx) (Qm (Ws 10 nD [Y25] [none] (Wn K (pv 10)) (Qk Zt (Qk Zh (Qk Zg (pv 0) (Qk Zh (Qk Qr Qx (Qk Pl Qx Qx)) Qx)) (Qk Pl Qx Qx)) Qx))) (Qm (Ws 10 nD [Y25] [none] (Wn K (pv 10)) (Qk Qr (Qk Zg (pv 0) Qx) Qx))))))))) (zc1 (Xt (Tf K (pv 8) (Qq (pv 10) Qz)))))))) (Qh (pv 8))))))))),?_⟩;have hpr:=Qm4 (a:=p) (b:=r) (A:=10) (B:=10) (by lia) (by lia) (by lia) (by lia);have hpr0:0 < p * r:=Int.mul_pos (by lia) (by lia);symm;refine λl H1 n1=>?_;symm;refine Zu (λi σ H' => ∃ (bs:K6) (o5 o6 o7 o8 o9 o10:Option V),σ=[rf a,iv f,iv p,iv r,rf l,o5,o6,o7,o8,o9,o10]/\H' l=some (.lst (bs.map V.int))/\bs.length=i/\(∀ b∈bs,0<=b/\b < 10 ^ 42)/\Qu H H') ⟨[],none,none,none,none,none,none,rfl,n1.at_,rfl,(λb hb=>by cases hb),n1.same⟩ ?_ ?_
 ·nofun;intro i σ H2 hi q9; obtain ⟨bs,o5,o6,o7,o8,o9,o10,rfl,hl,fu,hb,s2⟩:=q9;refine ⟨_,rfl,.inl ⟨rfl,_,SqL.of hl⟩,?_⟩;symm;refine ⟨f,_,rfl,by lia,by lia,λz z0 z1=>?_⟩;refine ⟨l,_,_,rfl,rfl,hl,by rw [sizeLine_eq]; simp; lia,?_⟩;nofun;refine ⟨bs ++ [z],_,_,_,_,_,_,rfl,by rw [Qy]; simp,by simp [fu],λb hb'=>?_,λc u e=>?_⟩
  ·rcases O6.mp hb' with h | h
   ·exact hb b h
   ·have:b=z:=by simpa using h
    rw [this]; lia
  ·rw [Qv (Qj e n1.none)];exact s2 _ _ e
 intro σ H2 q9; obtain ⟨bs,o5,o6,o7,o8,o9,o10,rfl,hl,hlen',hb,s2⟩:=q9;nofun;refine ⟨_,rfl,_,rfl,a,_,rfl,s2.seq hS,λc1 H3 n3=>?_⟩;obtain ⟨ms,em,lm⟩:=Qh2 ns (some 1) none;rw [em] at n3;have hl3:=n3.same _ _ hl;have S3:Qu H H3:=s2.trans n3.same;have nlc:c1≠l:=(Qj hl n3.none).symm;refine ⟨c1,rfl,⟨_,SqL.of n3.at_⟩,?_⟩;refine Qfv (xs:=ms.map V.int) (λi σ H' => ∃ (bs':K6) (o5 o6 o7 o8 o9 o10:Option V),σ=[rf a,iv f,iv p,iv r,rf l,o5,o6,o7,o8,o9,o10]/\H' l=some (.lst (bs'.map V.int))/\bs'.length=bs.length/\(∀ b∈bs',0<=b/\b < 10 ^ 42)/\Qu H H'/\H' c1=some (.lst (ms.map V.int)))
  ⟨bs,_,_,_,_,_,_,rfl,hl3,rfl,hb,S3,n3.at_⟩ (λi σ H' _ ⟨_,_,_,_,_,_,_,_,_,_,_,_,h⟩=>SqL.of h) ?_ ?_
 ·rintro i x σ H4 T4 hx ⟨bs',o5,o6,o7,o8,o9,o10,rfl,hl4,hlen4,hb4,s4,hc4⟩ hT4;obtain ⟨z,hz,rfl⟩:=int_at hx;have hi:i < ms.length:=(N8.mp hz).1;refine ⟨T4,[.int i,.int z],rfl,SqT.of Qy,rfl,_,_,rfl,_,_,rfl,rfl,?_⟩;have s5:Qu H4 (upd H4 T4 (.tup [.int i,.int z])):=Qu.upd hT4;generalize upd H4 T4 (.tup [.int i,.int z])=H5 at *;have hl5:=s5 _ _ hl4;have hbl:0 < bs'.length:=by lia
  symm;refine ⟨l,_,rfl,.inl (SqL.of hl5),?_⟩;refine ⟨_,_,rfl,rfl,by simp; lia,?_⟩;have e1:(i:Int) % ((bs'.map V.int).length:Int)=((i % bs'.length:Nat):Int):=by simp
  nofun;dsimp only;rw [e1];have hj:i % bs'.length < bs'.length:=Nat.mod_lt _ hbl;generalize i % bs'.length=j at *;have gj:(bs'.map V.int)[j]? = some (.int bs'[j]):=by simp [hj]
  obtain ⟨bj0,bj1⟩:=hb4 _ (N7 hj);have gz:=V8 z (show (0:Int) < 10 ^ Int.toNat 41 by decide);have gz0:=V0 z (show (10:Int) ^ Int.toNat 41≠0 by decide);have gy:=V8 (bs'[j] * 31) (show (0:Int) < 10 ^ Int.toNat 41 by decide);have gy0:=V0 (bs'[j] * 31) (show (10:Int) ^ Int.toNat 41≠0 by decide);have ge:(10:Int) ^ Int.toNat 41=10 ^ 41:=rfl;symm;refine ixW j hl5 gj ?_;symm;refine ⟨l,_,_,j,rfl,rfl,hl5,?_,?_⟩
  ·unfold ixN;rw [if_pos (by lia),if_pos (by simp; lia)];simp
  refine ⟨bs'.set j (bs'[j] * 31 % 10 ^ Int.toNat 41 + z % 10 ^ Int.toNat 41),_,_,_,_,_,_,rfl,by rw [Qy,map_set],by simp [hlen4],λb hb'=>?_,λc u e=>?_,?_⟩
  ·rcases A0f hb' with h | h
   ·exact hb4 b h
   ·rw [h]; lia
  ·rw [Qv (Qj e n1.none)];exact s5 _ _ (s4 _ _ e)
  ·rw [Qv nlc];exact s5 _ _ hc4
 intro σ H4 q9; obtain ⟨bs',o5',o6',o7',o8',o9',o10',rfl,hl4,hlen4,hb4,s4,hc4⟩:=q9;symm;refine λW H5 n5=>?_;symm;have S5:Qu H H5:=s4.trans n5.same;have hl5:=n5.same _ _ hl4;have fW:H W=none:=s4.free n5.none;have nlW:l≠W:=Qj hl4 n5.none;refine Zu (λi σ H' => ∃ (ws:K9) (rows:J7) (o5 o6 o7 o9 o10:Option V),σ=[rf a,iv f,iv p,iv r,rf l,o5,o6,o7,rf W,o9,o10]/\H' W=some (.lst (ws.map V.ref))/\rows.length=i/\Rows H' ws rows/\(∀ w∈ws,w≠W)/\(∀ row∈rows,(row.length:Int)=r)/\(∀ row∈rows,∀ x∈row,-(10 ^ 40) < x/\x < 10 ^ 40)/\Qu H H'/\H' l=some (.lst (bs'.map V.int)))
  ⟨[],[],_,_,_,_,_,rfl,n5.at_,rfl,⟨rfl,λi a row h=>by simp at h⟩,(λw h=>by cases h),(λw h=>by cases h),(λw h=>by cases h),S5,hl5⟩ ?_ ?_
 ·nofun;intro i σ H6 hi q9; obtain ⟨ws,rows,o5,o6,o7,o9,o10,rfl,hW,hrl,hR,hne,hr1,hr2,s6,hl6⟩:=q9;have hir:((i:Int) + 1) * r<=p * r:=U8 (by lia) (by lia);have hir0:0<=(i:Int) * r:=A0s (by lia) (by lia);have hir1:((i:Int) + 1) * r=(i:Int) * r + r:=by rw [Int.add_mul,Int.one_mul]
  have hbig:(i:Int) * r<=100:=by lia
  have e0:(0 + (i:Int)) * r=((i * r.toNat:Nat):Int):=by
   rw [Int.zero_add,Int.natCast_mul]
   congr 1
   lia
  have e1:((i * r.toNat:Nat):Int) + r=((i * r.toNat + r.toNat:Nat):Int):=by
   rw [Int.natCast_add]
   congr 1
   lia
  have e2:i * r.toNat + r.toNat<=bs'.length:=by
   have:((i * r.toNat + r.toNat:Nat):Int)<=(bs'.length:Int):=by rw [<- e1,<- e0,Int.zero_add];lia
   exact Int.ofNat_le.mp this
  symm;rw [e0,e1];refine ⟨l,_,rfl,SqL.of hl6,λc H7 n7=>?_⟩;nofun;rw [Sf bs' (Nat.le_add_right _ _) e2] at n7;have hcl:((bs'.drop (i * r.toNat)).take (i * r.toNat + r.toNat - i * r.toNat)).length=r.toNat:=by rw [length_take,length_drop];lia
  have hcb:∀ z∈(bs'.drop (i * r.toNat)).take (i * r.toNat + r.toNat - i * r.toNat),0<=z/\z < 10 ^ 42:=λz hz=>hb4 z (mem_of_mem_drop (mem_of_mem_take hz));generalize (bs'.drop (i * r.toNat)).take (i * r.toNat + r.toNat - i * r.toNat)=cs at *;have hW7:=n7.same _ _ hW;have S7:Qu H H7:=s6.trans n7.same;have key:∀ (g:Int->Int) (D:G5) (H8:Hp),(∀ z,0<=z->-(10 ^ 40) < g z/\g z < 10 ^ 40)->H7 D=none->Qu H7 H8->H8 D=some (.lst ((cs.map g).map V.int)) ->
    ∃ (c':G5) (row:K6),D=c'/\H8 c'=some (.lst (row.map V.int))/\(row.length:Int)=r/\(∀ x∈row,-(10 ^ 40) < x/\x < 10 ^ 40)/\c'≠W/\Qu H7 H8:=λg D H8 hg hD s8 h8 =>
   ⟨D,cs.map g,rfl,h8,by rw [length_map,hcl]; lia,λx hx=>by obtain ⟨z,hz,rfl⟩:=O8.mp hx;exact hg z (hcb z hz).1,(Qj hW7 hD).symm,s8⟩
  refine ⟨λσ' H' => ∃ (c':G5) (row:K6),σ'=[rf a,iv f,iv p,iv r,rf l,o5,o6,o7,rf W,iv (0 + (i:Int)),rf c']/\H' c'=some (.lst (row.map V.int))/\(row.length:Int)=r/\(∀ x∈row,-(10 ^ 40) < x/\x < 10 ^ 40)/\c'≠W/\Qu H7 H',?_,?_⟩
  ·symm;refine Kz (λ_=>?_) (λ_=>?_)
   ·refine ⟨_,rfl,c,rfl,⟨_,SqL.of n7.at_⟩,λD hD=>?_⟩;refine Ko cs (λz=>z % 3) (SqL.of n7.at_) (by rw [hcl,sizeLine_eq]; lia) hD (λz hz H8 N s8 hN=>?_) λH8 s8 h8=>?_
    ·symm;exact hN
    ·obtain ⟨c',row,rfl,k1,k2,k3,k4,k5⟩:=key _ D H8 (λz hz=>by lia) hD s8 h8;nofun;exact ⟨D,row,rfl,k1,k2,k3,k4,k5⟩
   ·symm;refine Kz (λ_=>?_) (λ_=>?_)
    ·refine ⟨_,rfl,c,rfl,⟨_,SqL.of n7.at_⟩,λD hD=>?_⟩;refine Ko cs (λz=>z % 2001 - 500) (SqL.of n7.at_) (by rw [hcl,sizeLine_eq]; lia) hD (λz hz H8 N s8 hN=>?_) λH8 s8 h8=>?_
     ·symm;exact hN
     ·obtain ⟨c',row,rfl,k1,k2,k3,k4,k5⟩:=key _ D H8 (λz hz=>by lia) hD s8 h8;nofun;exact ⟨D,row,rfl,k1,k2,k3,k4,k5⟩
    ·symm;refine Kz (λ_=>?_) (λ_=>?_)
     ·refine ⟨_,rfl,c,rfl,⟨_,SqL.of n7.at_⟩,λD hD=>?_⟩;refine Ko cs (λz=>z % (2 * 10 ^ Int.toNat 40 - 1) - 10 ^ Int.toNat 40 + 1) (SqL.of n7.at_) (by rw [hcl,sizeLine_eq]; lia) hD (λz hz H8 N s8 hN=>?_) λH8 s8 h8=>?_
      ·symm;exact hN
      ·obtain ⟨c',row,rfl,k1,k2,k3,k4,k5⟩:=key _ D H8 (λz hz=>by have g1:=V0 z (show (2 * 10 ^ Int.toNat 40 - 1:Int)≠0 by decide);have g2:=V8 z (show (0:Int) < 2 * 10 ^ Int.toNat 40 - 1 by decide);have ge:(10:Int) ^ Int.toNat 40=10 ^ 40:=rfl;rw [ge] at g1 g2 ⊢;lia) hD s8 h8
       nofun;exact ⟨D,row,rfl,k1,k2,k3,k4,k5⟩
     ·refine ⟨_,rfl,c,rfl,⟨_,SqL.of n7.at_⟩,λD hD=>?_⟩;refine Ko cs (λz=>z % 9 * 100) (SqL.of n7.at_) (by rw [hcl,sizeLine_eq]; lia) hD (λz hz H8 N s8 hN=>?_) λH8 s8 h8=>?_
      ·symm;exact hN
      ·obtain ⟨c',row,rfl,k1,k2,k3,k4,k5⟩:=key _ D H8 (λz hz=>by lia) hD s8 h8;nofun;exact ⟨D,row,rfl,k1,k2,k3,k4,k5⟩
  ·intro σ' H8 q9; obtain ⟨c',row,rfl,h8,l8,b8,n8,s8⟩:=q9;have hW8:=s8 _ _ hW7;have hwl:ws.length=i:=by rw [hR.1,hrl]
   nofun;refine ⟨_,rfl,.inl ⟨rfl,_,SqL.of hW8⟩,_,rfl,W,_,_,rfl,rfl,hW8,by rw [sizeLine_eq,length_map]; lia,?_⟩;nofun;refine ⟨ws ++ [c'],rows ++ [row],_,_,_,_,_,rfl,by rw [Qy]; simp,by simp [hrl],hR.snoc (λa ha o e=>?_) ?_,λw hw=>?_,λw hw=>?_,λw hw=>?_,λb o e=>?_,?_⟩
   ·rw [Qv (hne a ha)];exact s8 _ _ (n7.same _ _ e)
   ·rw [Qv n8];exact h8
   ·rcases O6.mp hw with h | h
    ·exact hne w h
    ·have:w=c':=by simpa using h
     rw [this]; exact n8
   ·rcases O6.mp hw with h | h
    ·exact hr1 w h
    ·have:w=row:=by simpa using h
     rw [this]; exact l8
   ·rcases O6.mp hw with h | h
    ·exact hr2 w h
    ·have:w=row:=by simpa using h
     rw [this]; exact b8
   ·rw [Qv (Qj e fW)];exact s8 _ _ (S7 _ _ e)
   ·rw [Qv nlW];exact s8 _ _ (n7.same _ _ hl6)
 ·intro σ H6 q9; obtain ⟨ws,rows,o5,o6,o7,o9,o10,rfl,hW,hrl,hR,hne,hr1,hr2,s6,hl6⟩:=q9;symm;exact q W rows H6 s6 ⟨ws,hW,hR⟩ (by lia) hr1 hr2
theorem Qn4:Def P w K mg base 3 "_law_house" [Y6,"_law_most_people","_law_most_rooms"] (Qbw K):=by
 refine Z.a26.mq [Y6,"_law_most_people","_law_most_rooms",Y19,Y1,Y40,Y0,Y11] λH vs Q E hr nD h=>?_;obtain ⟨a,ns,mp,mr,rfl,hS,fu,p0,p1,r0,r1,q⟩:=h;refine ⟨_,(zcF (zcC (Qg 3 nD (Qd (Vy Z) hr (Qq (Qd (Rc Z) hr (Qq (pv 0) (Qq Qx Qz))) (Qq Qx Qz)))) (zcC (Qg 4 nD (Qd (Qeq Z) hr (Qq (pv 3) (Qq (Qk Zt Qx (Qk Zg (Qk Xc (pv 3) Qx) (pv 2))) Qz)))) (zcC (Qg 5 nD (Qk Zt Qx (Qk Zg (Qk Xc (pv 3) Qx) (Qt (Lv rfl) (by rfl) Z.T.u8 Jq (Qq (pv 1) (Qq (Qt (Xo (K:=K) rfl rfl) (by rfl) Z.T.u10 Yq (Qq (pv 4) Qz)) Qz)))))) (zcC (Qg 6 nD (Qd (Qh8 Z) hr (Qq (pv 0) (Qq (pv 3) (Qq (pv 5) (Qq (Zk K Z.T.u0 (Qq (pv 4) Qz)) Qz)))))) (zcC (Qg 7 nD (Qk Zg (Qk Xc (pv 3) Qx) Qx)) (zcC (zcJ (Qa (q_t Jb (Qk Zg (Qk Xc (pv 3) Qx) Qx) Qx) (Qm (Qg 7 nD (Qk Zt (Qk Zh (Qk Zg (Qd (Rc Z) hr (Qq (pv 0) (Qq Qx Qz))) (Qk Zh (Qk Qr Qx (Qk Pl Qx Qx)) Qx)) (Qk Pl Qx Qx)) Qx))) Qp)) (zcL (Qh (Zp (Qq (pv 4) (Qq (pv 6) (Qq (pv 7) Qz))))))))))))),?_⟩;symm;refine ⟨a,ns,_,rfl,hS,by decide,λz0=>?_⟩;symm;refine ⟨z0,_,rfl,by decide,by decide,λm m0 m1=>?_⟩;symm;have g1:=V0 (m / 4) (show mr≠0 by lia);have g2:=V8 (m / 4) (show 0 < mr by lia);refine ⟨m,_,rfl,by lia,by lia,λb bs H1 n1 hbl hbb=>?_⟩;have hb1:1<=bs.length:=by lia
 have hs1:=Qi8 (bs:=bs) λx hx=>(hbb x hx).1;have hs2:=Qi7 (bs:=bs) (m:=4) λx hx=>(hbb x hx).2;symm;refine ⟨b,bs,rfl,SqL.of n1.at_,?_⟩;refine ⟨_,_,rfl,?_⟩;have lu:1<=(if bs.sum < mp then bs.sum else mp)/\(if bs.sum < mp then bs.sum else mp)<=mp/\(if bs.sum < mp then bs.sum else mp)<=bs.sum:=by split <;> lia
 generalize (if bs.sum < mp then bs.sum else mp)=mn at *;have g3:=V0 (m / 40) (show mn≠0 by lia);have g4:=V8 (m / 40) (show 0 < mn by lia);symm;refine ⟨b,_,rfl,.inl (SqL.of n1.at_),?_⟩;rw [length_map];refine ⟨a,ns,m,_,_,rfl,n1.same.seq hS,fu,by lia,by lia,by lia,by lia,λw rows H2 s2 hM hrl hr1 hr2=>?_⟩;symm;have S2:Qu H H2:=n1.same.trans s2;refine ⟨λσ' H'=>H'=H2/\∃ ao:Int,σ'=[rf a,iv mp,iv mr,iv m,rf b,iv (1 + m / 40 % mn),rf w,iv ao]/\-(10 ^ 40) < ao/\ao < 10 ^ 40,?_,?_⟩
 ·symm;refine Kz (λ_=>?_) (λ_=>?_)
  ·symm;refine ⟨a,ns,_,rfl,S2.seq hS,by decide,λz=>?_⟩;have g5:=V0 z (show (2 * 10 ^ Int.toNat 40 - 1:Int)≠0 by decide);have g6:=V8 z (show (0:Int) < 2 * 10 ^ Int.toNat 40 - 1 by decide);have ge:(10:Int) ^ Int.toNat 40=10 ^ 40:=rfl;symm;rw [ge] at g5 g6;show z % (2 * 10 ^ Int.toNat 40 - 1) - 10 ^ Int.toNat 40 + 1 < 10 ^ 40;rw [ge];lia
  ·nofun;exact ⟨rfl,_,rfl,by lia,by lia⟩
 ·intro σ' H' q9; obtain ⟨rfl,ao,rfl,e1,e2⟩:=q9;symm;refine λt H3 n3=>?_;refine q t b w bs rows ao H3 (S2.trans n3.same) n3.at_ (n3.same _ _ (s2 _ _ n1.at_)) (hM.same n3.same) ⟨hb1,by lia,hbb,by lia,by lia,by lia,λrow hr=>?_,hr2,e1,e2⟩;have:=hr1 row hr;lia
theorem Qn3:Def P w K mg base 6 "is_hop" [Y5,"hop"] (Qw8 true CH au):=by
 refine Z.a27.mq [Y5,"hop","people"] λH vs Q E hr nD h=>?_;obtain ⟨p,t,ak,aj,ao,way,m,rfl,hA,ok,ht,m1,m2,m3,m4,q⟩:=h;refine ⟨_,(zcF (zcC (Qg 2 nD (Zz (Yf Z) Z.HC.cl (Yy K (pv 0)) (hr.mono (by decide)))) (zcC (Qa (PW.pt (Xs (q_t Jb (Qb K (pv 1) Qx) (Qb K (pv 1) Qx)) (Xs (Xb (Ri Hi Rb Qx (Qb K (pv 1) Qx) (pv 2))) (Xi (Xb (Ri Hi Rb Qx (Qb K (pv 1) Qx) (pv 2))))))) (Qh Yc) Qp) (zcL (Qh (Jw (Yr (K:=K) rfl) (Qb K (pv 1) Qx) (Ti (Dt Z) Z.b7.cl (pv 0) (hr.mono (by decide)) (Qq (Qb K (pv 1) Qx) (Qq (Qb K (pv 1) Qx) Qz))) (by with_unfolding_all rfl))))))),?_⟩;have AC:Qz1 K au:=Z.b7.a;obtain ⟨dx,hp,wa,g1,g2,g3⟩:=hA.ex;obtain ⟨dh,bb,ww,h1,h2,h3⟩:=g2.ex;nofun;refine ⟨_,rfl,p,_,dx,_,_,rfl,g1,AC.cl,AC.nH,Yp _ _,hp,dh,_,rfl,h1,Us _ _ _,hp,ak,aj,ao,rfl,g2,?_⟩;symm;refine ixU ht rfl ?_;symm;refine ixU ht rfl ?_;symm;refine Vq (T5 (λz=>by injection z with z; lia)) ?_;symm;refine ixU ht rfl ?_;symm;refine Vq (by rw [decide_eq_true (by lia)]; rfl) ?_;symm;refine ixU ht rfl ?_;symm;refine Vq (by rw [decide_eq_true (by lia)]; rfl) ?_;symm;refine ixU ht rfl ?_;refine Se (a:=m.1) (b:=m.2.2) hA ok m1 m2 (λ_ k=>⟨_,rfl,k⟩) (λK2 k=>?_) λl4 ms H4 s4 f4 h4 hr4=>?_
 ·symm;refine ixU ht rfl ?_;symm;refine ixU ht rfl ?_;exact k
 refine ⟨l4,_,rfl,.inl (SqL.of h4),rfl,by simp [Vs],?_⟩;rw [if_neg Bool.false_ne_true,Vb,decide_eq_true ((hr4.2 _).mpr m4)];exact q _ s4
theorem Qn5:Def P w K mg base 7 "chain_gain" [Y5,Y36,"i"] (Qwq true CH au):=by
 refine Z.a28.mq [Y5,Y36,"i","total","ending","hop"] @λ_ _ _ _ s H vs Q E hr nD h=>?_;obtain ⟨p,cl,ak,aj,ao,way,aq,c,s,i,rfl,hA,ok,good,hc,hh,q⟩:=h;refine ⟨_,(zcF (zcC (Qg 3 nD Qx) (zcC (Qg 4 nD (pv 2)) (zcL (Qw (Xr (Ql7 (K:=K) rfl rfl Z.T.u15 (pv 1)) (Ql 5 nD) (zcF (zcC (Qa (PW.pt (Xs (q_t Jj (Qb K (pv 5) Qx) (pv 4)) (Xi (Xb (Xg (Qd (Qn3 Z) hr (Qq (pv 0) (Qq (pv 5) Qz)))))))) (Qh Qo) Qp) (zcL (Qw (Qg 3 nD (Qk Zt (pv 3) (Ti (Cd Z) Z.b7.cl (pv 0) (hr.mono (by decide)) (Qq (Qb K (pv 5) Qx) (Qq (Qb K (pv 5) Qx) (Qq (Qb K (pv 5) Qx) Qz)))))) (Qm (Qg 4 nD (Qb K (pv 5) Qx)))))))) (Qh (pv 3))))))),?_⟩;obtain ⟨ts,e1,e2,e3⟩:=id hh;symm;refine ⟨cl,_,rfl,SqL.of e1,?_⟩;refine Qt2 (xs:=ts.map V.ref) (λk σ H' => ∃ (e:Nat) (o5:Option V),σ=[rf p,rf cl,iv (i:Int),iv (wt (gnF true aj way) (c.drop (c.length - k))),iv (e:Int),o5]/\Qu H H'/\ChS aq s (c.take (c.length - k)) e) ⟨i,none,by rw [Nat.sub_zero,drop_length]; rfl,Qu.refl _,by simpa using hc⟩ (λk σ H' _ h=>h.choose_spec.choose_spec.2.1.seq (SqL.of e1)) ?_ ?_
 ·intro k x σ H1 hx q9; obtain ⟨e,o5,rfl,s1,hc1⟩:=q9;have hk:k < c.length:=by have:=(N8.mp hx).1;simpa [e2] using this
  have hx2:(ts.map V.ref)[c.length - 1 - k]? = some x:=by rw [getElem?_reverse (by simpa [e2] using hk)] at hx;simpa [e2] using hx
  obtain ⟨t,ht,rfl⟩:=Ju hx2;have hm:c[c.length - 1 - k]? = some (c[c.length - 1 - k]'(by lia)):=by simp [show c.length - 1 - k < c.length by lia]
  have htt:=s1 _ _ (e3 _ _ _ ht hm);have etk:c.take (c.length - k)=c.take (c.length - (k + 1)) ++ [c[c.length - 1 - k]'(by lia)]:=by rw [show c.length - k=(c.length - (k + 1)) + 1 by lia,take_succ,show c.length - (k + 1)=c.length - 1 - k by lia,hm];rfl
  have edr:c.drop (c.length - (k + 1))=(c[c.length - 1 - k]'(by lia)) :: c.drop (c.length - k):=by have h0:c.drop (c.length - 1 - k)=(c[c.length - 1 - k]'(by lia)) :: c.drop (c.length - 1 - k + 1):=drop_eq_getElem_cons (by lia);rw [show c.length - (k + 1)=c.length - 1 - k by lia,h0,show c.length - 1 - k + 1=c.length - k by lia]
  nofun;rw [etk] at hc1;generalize c[c.length - 1 - k]'(by lia)=m at *;obtain ⟨hc2,g8,hme⟩:=hc1.inv;obtain ⟨m1,m2,m3,m4,m5⟩:=good.mem m g8;have hA1:=hA.same s1;symm;refine ixU htt rfl ?_;symm;refine Vq (by simp [hme]) ?_;symm;refine ⟨p,t,ak,aj,ao,way,m,rfl,hA1,ok,htt,m1,m2,m3,m5,λH2 s2=>?_⟩;symm;have je:=s2 _ _ htt;refine Mz (ta:=λ_ H K=>K (.ref p) H) (a:=m.1) (r:=m.2.1) (b:=m.2.2) (hA1.same s2) ok m1 m4 m2 (λ_ k=>k) (λK2 k=>?_) ?_
  ·symm;refine ixU je rfl ?_;symm;refine ixU je rfl ?_;symm;refine ixU je rfl ?_;exact k
  symm;refine ixU je rfl ?_;have ew:wt (gnF true aj way) (c.drop (c.length - (k + 1)))=wt (gnF true aj way) (c.drop (c.length - k)) + Zs true aj way m.1 m.2.1 m.2.2:=by rw [edr];simp only [wt,map_cons,sum_cons,gnF];lia
  refine ⟨m.1,some (.ref t),?_,s1.trans s2,hc2⟩;rw [ew];rfl
 ·intro σ H1 q9; obtain ⟨e,o5,rfl,s1,hc1⟩:=q9;symm;rw [length_map,e2,Nat.sub_self,drop_zero];exact q _ s1
theorem Gs:Def P w K mg base 2 "worth_of" [Y2,Y8] (Ic K CH):=by
 refine Z.a29.mq [Y2,Y8] λH vs Q E hr nD h=>?_;obtain ⟨p,a,ak,aj,ao,way,rfl,hA,hl,hS,fu,hin,q⟩:=h;refine ⟨_,(Qh (Qt (Xo (K:=K) rfl rfl) (by rfl) Z.T.u10 Yq (Qq (Xz [Y7,Y2,Y8] [none,some 0,some 1] (Zo Z.T.u1 (Qq (Zz (Yf Z) Z.HC.cl (pv 0) (hr.mono (by decide))) Qz)) (Qb K (Qb K (Yy K (pv 1)) (pv 0)) (Qb K (pv 2) (pv 0)))) Qz))),?_⟩;obtain ⟨dx,b,w,h1,h2,h3⟩:=hA.ex;obtain ⟨ws,hw,hR⟩:=id h3;refine ⟨_,rfl,p,dx,_,rfl,h1,Us _ _ _,p,ak,aj,ao,rfl,hA,?_⟩;refine ⟨_,rfl,by lia,by lia,λD hD=>?_⟩;refine Yv (λi y _=>y=.int ((aj.getD i []).getD (way.getD i 0).toNat 0)) sml hD (λ_ _ _ _ _ h=>h) ?_ ?_
 ·rintro i H1 ys N hi s1 d1 hN;have hi':i < aj.length:=by lia
  have hi2:i < way.length:=by lia
  have gm:aj[i]? = some aj[i]:=by simp [hi']
  obtain ⟨ra,g1,g2,g3⟩:=hR.at_ gm;have g4:(way.map V.int)[i]? = some (.int way[i]):=by simp [hi2]
  obtain ⟨b1,b2⟩:=hin _ (N7 hi') _ (N7 hi2);have g5:(aj[i].map V.int)[way[i].toNat]? = some (.int ((aj[i]).getD way[i].toNat 0)):=by
   have:way[i].toNat < aj[i].length:=by lia
   simp [this]
  refine ⟨_,rfl,p,CH,dx,_,_,rfl,s1 _ _ h1,Z.HC.cl,Z.HC.nW,Yo _ _ _,_,rfl,?_⟩;refine ixL (SqL.of (s1 _ _ hw)) (Qs i (by lia) g2) ?_;refine ⟨_,rfl,_,rfl,?_⟩;refine ixL (s1.seq hS) (Qs i (by lia) g4) ?_;refine ixL (SqL.of (s1 _ _ g3)) (Qs way[i].toNat (by lia) g5) ?_;refine hN _ _ (Qu.refl _) ?_;simp [hi',hi2]
 ·rintro ys H1 s1 d1 l1 r1;have e:ys=((range aj.length).map λi=>(aj.getD i []).getD (way.getD i 0).toNat 0).map V.int:=Ww (by rw [l1]; simp) λi y e=>by
   have hi:i < aj.length:=by have:=(N8.mp e).1; lia
   exact ⟨(aj.getD i []).getD (way.getD i 0).toNat 0,by rw [getElem?_map,getElem?_range hi]; rfl,r1 i y e⟩
  rw [e] at d1;refine ⟨D,_,rfl,SqL.of d1,q _ s1⟩
theorem Mu:Iv P w K mg base 3 au "whole" [Y16] (Bu true CH au):=by
 refine Z.a30.mq [Y16] λH vs Q E hr nD h=>?_;obtain ⟨p,ak,aj,ao,way,rfl,hA,ok,q⟩:=h;refine ⟨_,(Qh (Qk Zh (Qd (Gs Z) hr (Qq (Yy K (pv 0)) (Qq (Yy K (pv 0)) Qz))) (Yy K (Yy K (pv 0))))),?_⟩;obtain ⟨dx,hp,wa,g1,g2,g3⟩:=hA.ex;have l1:=ok.bok.w1;refine ⟨_,rfl,p,au,dx,_,_,rfl,g1,Z.b7.a.cl,Z.b7.a.nH,Yp _ _,_,rfl,p,au,dx,_,_,rfl,g1,Z.b7.a.cl,Z.b7.a.nW,Dq _ _,?_⟩;refine ⟨hp,wa,ak,aj,ao,wI way,rfl,g2,by lia,SqL.of g3,by simp [wI,ok.len],λrow hr z hz=>?_,λH1 s1=>?_⟩
 ·obtain ⟨r,h1,rfl⟩:=O8.mp hz;have h2:=ok.lt r h1;have h3:=ok.bok.rows row hr;lia
 obtain ⟨dh,bd,w,h1,h2,h3⟩:=(g2.same s1).ex;refine ⟨_,rfl,p,au,dx,_,_,rfl,s1 _ _ g1,Z.b7.a.cl,Z.b7.a.nH,Yp _ _,hp,CH,dh,_,_,rfl,h1,Z.HC.cl,Z.HC.nR,Qrk _ _ _,?_⟩;rw [Rq ok.len];exact ⟨_,_,rfl,rfl,q _ s1⟩
theorem Qhx:Iv P w K mg base 2 au "price" [Y16,"i",Y35,Y27] (Aq true CH au):=by
 refine Z.a31.mq [Y16,"i",Y35,Y27] λH vs Q E hr nD h=>?_;obtain ⟨p,ak,aj,ao,way,i,level,parts,rfl,hA,ok,hi,hx,hp,q⟩:=h;refine ⟨_,(Qh (Qk Zh (Qk Qr (pv 3) (Qd (Pm Z) hr (Qq (pv 0) (Qq (pv 1) Qz)))) (pv 2))),?_⟩;have hob:-(10 ^ 42) < Zr aj way i/\Zr aj way i < 10 ^ 42:=by
  obtain ⟨w1,w2⟩:=ok.at_ hi;have hrl:=ok.bok.rows _ (N7 hi);have:Zr aj way i=aj[i][way.getD i 0]'(by lia):=by unfold Zr wF;rw [getD_eq_getElem?_getD (l:=aj),getElem?_eq_getElem hi];show (aj[i]).getD (way.getD i 0) 0=_;rw [getD_eq_getElem?_getD (l:=aj[i]),getElem?_eq_getElem (by lia)];rfl
  rw [this];exact hx _ (N7 hi) _ (N7 _)
 refine ⟨_,rfl,_,rfl,_,rfl,au,p,ak,aj,ao,way,i,rfl,Z.b7.a,hA,ok,hi,?_⟩;refine ⟨_,_,rfl,rfl,⟨hp,by lia⟩,?_⟩;exact ⟨_,rfl,_,_,rfl,rfl,q⟩
theorem Qn8:Def P w K mg base 8 "bound" [Y5,Y30] (Qwj true CH au):=by
 refine Z.a32.mq [Y5,Y30,"people",Y13] @λ_ _ _ _ s H vs Q E hr nD h=>?_;obtain ⟨p,cl,ak,aj,ao,way,aq,cs,rfl,hA,ok,good,hc,q⟩:=h;refine ⟨_,(zcF (zcC (Qg 2 nD (Zz (Yf Z) Z.HC.cl (Yy K (pv 0)) (hr.mono (by decide)))) (zcC (Ws 3 nD [Y7,Y5,Y30] [none,some 0,some 1] (Zo Z.T.u1 (Qq (pv 2) Qz)) (Qd (Qn5 Z) hr (Qq (pv 1) (Qq (Qb K (pv 2) (pv 0)) (Qq (pv 0) Qz))))) (zcC (Qa (Vx (Yr (K:=K) rfl) Qo (pv 3) (by with_unfolding_all rfl)) (Qh Qo) Qp) (zcL (Qh (Zp (Qq (Qk Zh (Zz (Mu Z) Z.b7.cl (pv 0) (hr.mono (by decide))) (Qt (Xo (K:=K) rfl rfl) (by rfl) Z.T.u10 Yq (Qq (pv 3) Qz))) (Qq (pv 2) Qz))))))))),?_⟩;have AC:Qz1 K au:=Z.b7.a;have lw:=ok.bok.w1;obtain ⟨ls,e1,e2,e3⟩:=hc.ex;obtain ⟨dx,hp,wa,g1,g2,g3⟩:=hA.ex;obtain ⟨dh,bb,ww,h1,h2,h3⟩:=g2.ex;nofun;refine ⟨_,rfl,p,_,dx,_,_,rfl,g1,AC.cl,AC.nH,Yp _ _,hp,dh,_,rfl,h1,Us _ _ _,hp,ak,aj,ao,rfl,g2,?_⟩;nofun;refine ⟨_,rfl,_,rfl,by lia,by lia,λD hD=>?_⟩;rw [Int.toNat_natCast];refine Xx (λi=>.int (wt (gnF true aj way) (cs.getD i []))) sml hD (λi hi H1 N s1 hN=>?_) λH1 s1 d1=>?_
 ·have hl:(ls.map V.ref)[i]? = some (.ref (ls[i]'(by lia))):=by simp [show i < ls.length by lia]
  have hci:cs[i]? = some (cs.getD i []):=by simp [getD,show i < cs.length by rw [hc.len]; lia]
  have hh:=e3 i _ _ (show ls[i]? = some (ls[i]'(by lia)) by simp [show i < ls.length by lia]) hci;obtain ⟨s,hs⟩:=hc.ch i hi;rw [Int.zero_add];symm;refine ixW i (s1 _ _ e1) hl ?_;symm;exact ⟨p,_,ak,aj,ao,way,aq,_,s,i,rfl,hA.same s1,ok,good,hs,hh.same s1,λH2 s2=>hN _ s2⟩
 have ed:((range aj.length).map λi=>V.int (wt (gnF true aj way) (cs.getD i [])))=(cs.map (wt (gnF true aj way))).map V.int:=by
  refine U7 (by simp [hc.len]) λi a b=>?_;have:i < cs.length:=by simpa using b
  simp [getD,this]
 have d1':H1 D=some (.lst ((cs.map (wt (gnF true aj way))).map V.int)):=by rw [d1,<- ed]
 nofun;refine ⟨_,rfl,D,_,rfl,.inl (SqL.of d1'),rfl,by simp [Vs],?_⟩;rw [if_neg Bool.false_ne_true,show inV V.non ((cs.map (wt (gnF true aj way))).map V.int)=false by simp [inV,eqV]];symm;refine Qv6 (ta:=λ_ H K=>K (.ref p) H) (hA.same s1) ok (λ_ k=>k) λH2 s2=>?_;symm;refine ⟨D,_,rfl,SqL.of (s2 _ _ d1'),?_⟩;symm;exact λt H3 n3=>q t H3 ((s1.trans s2).trans n3.same) ((s1.trans s2).free n3.none) n3.at_
theorem Zj6:Def P w K mg base 1 "common_divisor" ["one","other"] Zq1:=by
 refine Z.a33.mq ["one","other","rest"] λH vs Q E hr nD h=>?_;obtain ⟨a,b,rfl,ha,hb,q⟩:=h;refine ⟨_,(Qw (Nr A1g (q_t Jj (pv 1) Qx) (zcF (zcC (Qg 2 nD (Qk Zg (pv 0) (pv 1))) (zcL (Qw (Qg 0 nD (pv 1)) (Qm (Qg 1 nD (pv 2)))))))) (Qh (pv 0))),?_⟩;refine ⟨λm σ H' => ∃ (x y:Int) (o:Option V),σ=[iv x,iv y,o]/\m=y.natAbs/\0<=x/\0<=y/\Nat.gcd x.natAbs y.natAbs=Nat.gcd a.natAbs b.natAbs/\H'=H,⟨_,a,b,_,rfl,rfl,by lia,hb,rfl,rfl⟩,?_⟩;intro m σ H' q9; obtain ⟨x,y,o,rfl,rfl,hx,hy,hg,rfl⟩:=q9;symm;refine Kz (λe=>?_) (λe=>?_)
 ·have hy0:0 < y:=by simp at e;lia
  refine ⟨_,λσ' H' h=>h,?_⟩;symm;refine ⟨_,?_,_,_,_,rfl,rfl,hy,V0 _ (by lia),?_,rfl⟩
  rotate_left
  ·rw [<- hg,Nat.gcd_comm x.natAbs,Nat.gcd_rec y.natAbs x.natAbs,Int.natAbs_emod_of_nonneg hx,Nat.gcd_comm]
  ·show (x % y).natAbs < y.natAbs;have h1:=V0 x (show y≠0 by lia);have h2:=V8 x hy0;lia
 ·have hy0:y=0:=by simpa using e
  subst hy0;symm;have:x=((Nat.gcd a.natAbs b.natAbs:Nat):Int):=by rw [<- hg];simp;lia
  rw [this];exact q
theorem Quv:Def P w K mg base 2 "lowest" [Y27,"rows"] (Ia K):=by
 refine Z.a34.mq [Y27,"rows","divisor","row"] λH vs Q E hr nD h=>?_;obtain ⟨parts,r,rows,rfl,hS,hz,hp,hp2,q⟩:=h;refine ⟨_,(Qw (Qg 2 nD (pv 0)) (Qw (Xr (Wn K (pv 1)) (Ql 3 nD) (Qm (Qg 2 nD (Qd (Zj6 Z) hr (Qq (pv 2) (Qq (Qt Ec (by rfl) Z.T.u16 Lw (Qq (pv 3) Qz)) Qz)))))) (Qh (Zp (Qq (Qk Xc (pv 0) (pv 2)) (Qq (Xz ["row","divisor"] [none,some 2] (Wn K (pv 1)) (Qk Xc (pv 0) (pv 1))) Qz)))))),?_⟩;have fu:(rows.map V.int).length=rows.length:=by simp
 refine ⟨_,rfl,?_⟩;refine ⟨_,rfl,r,rfl,⟨_,hS⟩,?_⟩;refine L2.Tq (xs:=rows.map V.int) (λi σ H' => ∃ (d:Int) (o:Option V),σ=[iv parts,rf r,iv d,o]/\d=((bw parts.natAbs (rows.take i):Nat):Int)/\H'=H)
  ⟨parts,none,rfl,(by show parts=((parts.natAbs:Nat):Int); lia),rfl⟩ (λi σ H' _ ⟨_,_,_,_,e⟩=>by rw [e]; exact hS) ?_ ?_
 ·intro i x σ H' hx q9; obtain ⟨d,o,rfl,hd,rfl⟩:=q9;obtain ⟨z,hz1,rfl⟩:=int_at hx;symm;have g0:=Kc (rows.take i) parts.natAbs (by lia);refine ⟨_,_,rfl,by lia,by rw [Qv3]; lia,_,_,rfl,?_,rfl⟩;rw [Qv3,take_snoc hz1,Qyx,hd];rfl
 ·intro σ H' q9; obtain ⟨d,o,rfl,hd,rfl⟩:=q9;rw [fu,take_length] at hd;have g0:=Kc rows parts.natAbs (by lia);have g1:bw parts.natAbs rows<=parts.natAbs:=Nat.le_of_dvd (by lia) (Za rows parts.natAbs);generalize hg:bw parts.natAbs rows=g at *;symm;refine ⟨⟨_,hS⟩,λD hD=>?_⟩;refine Xe (λi y _ => ∃ z,rows[i]? = some z/\y=.int (z / (g:Int))) hS (by rw [fu,sizeLine_eq]; lia) hD (λ_ _ _ _ _ h=>h) ?_ ?_
  ·rintro i x H1 ys N hx s1 d1 hN;obtain ⟨z,hz1,rfl⟩:=int_at hx;symm;exact hN _ _ (Qu.refl _) ⟨z,hz1,by rw [hd]⟩
  ·rintro ys H1 s1 d1 l1 r1;have e:ys=(rows.map λx=>x / (g:Int)).map V.int:=Ww (by simpa using l1) λi y e=>by obtain ⟨z,h1,h2⟩:=r1 i y e;exact ⟨_,by rw [getElem?_map,h1]; rfl,h2⟩
   symm;refine λt H2 n2=>q t D H2 hD (s1.trans n2.same) ?_ (n2.same _ _ (e ▸ d1));rw [n2.at_,hd]
theorem Sl:Def P w K mg base 1 "room_price" [Y5,Y37,Y20] (Mg true K CH au):=by
 refine Z.a35.mq [Y5,Y37,Y20] λH vs Q E hr nD h=>?_;obtain ⟨p,cl,ak,aj,ao,way,cs,r,rfl,hA,ok,hcl,lc,l0,q⟩:=h;refine ⟨_,(zcF (zcC (Qa (Vx (Yr (K:=K) rfl) (pv 2) (Yy K (pv 0)) (by with_unfolding_all rfl)) (Qh (Qb K (pv 1) (Mo (K:=K) rfl A0w PySem.F.slot_list_index PySem.F.type_list_index (Qkz (K:=K)) (Yy K (pv 0)) (Qq (pv 2) Qz)))) Qp) (zcL (Qh (Qt (Uo (K:=K) rfl rfl) (by rfl) Z.T.u8 Jq (Qq (pv 1) Qz)))))),?_⟩;have AC:Qz1 K au:=Z.b7.a;obtain ⟨dx,hp,wa,g1,g2,g3⟩:=hA.ex;nofun;refine ⟨_,rfl,_,rfl,p,_,dx,_,_,rfl,g1,AC.cl,AC.nW,Dq _ _,wa,_,rfl,.inl (SqL.of g3),rfl,by simp [Vs],?_⟩;rw [if_neg Bool.false_ne_true,Vb];refine ⟨_,rfl,?_⟩;refine Kz (λe=>?_) (λe=>?_)
 ·have hr:r∈way:=Pr.mp (Q6 e);have hi:way.idxOf r < cs.length:=by rw [lc,<- ok.len]; exact A0r.mpr hr
  have ei:=Aa r way;have hg:(cs.map V.int)[way.idxOf r]? = some (.int (cs.getD (way.idxOf r) 0)):=by simp [getD,hi]
  refine ⟨_,rfl,_,rfl,p,_,dx,_,_,rfl,g1,AC.cl,AC.nW,Dq _ _,.inl ⟨rfl,_,SqL.of g3⟩,_,rfl,wa,wI way,_,rfl,rfl,g3,Q6 e,?_⟩;rw [ei];refine ixW _ hcl hg ?_;exact q _ (by unfold Wo; rw [if_pos hr])
 ·have hr:r ∉ way:=λz=>e (P0 (Pr.mpr z));symm;refine ⟨cl,cs,rfl,SqL.of hcl,by lia,λz hz lu=>?_⟩;exact q _ (by unfold Wo; rw [if_neg hr]; exact ⟨hz,lu⟩)
theorem Dr:Def P w K mg base 3 "prices_at" [Y5,Y39,Y27] (Ld true K CH au):=by
 refine Z.a36.mq [Y5,Y39,Y27,Y37] λH vs Q E hr nD h=>?_;obtain ⟨p,ll,ak,aj,ao,way,lv,parts,rfl,hA,ok,hll,lvl,l0,p0,p1,hx,q⟩:=h;refine ⟨_,(zcF (zcC (Qg 3 nD (Xz [Y7,Y5,Y39,Y27] [none,some 0,some 1,some 2] (Zo Z.T.u1 (Qq (Zk K Z.T.u0 (Qq (pv 1) Qz)) Qz)) (Ti (Qhx Z) Z.b7.cl (pv 1) (hr.mono (by decide)) (Qq (pv 0) (Qq (Qb K (pv 2) (pv 0)) (Qq (pv 3) Qz)))))) (zcL (Qh (Qd (Quv Z) hr (Qq (pv 2) (Qq (Xz [Y20,Y5,Y37] [none,some 0,some 3] (Zo Z.T.u1 (Qq (Zz (Vk Z) Z.HC.cl (Yy K (pv 0)) (hr.mono (by decide))) Qz)) (Qd (Sl Z) hr (Qq (pv 1) (Qq (pv 2) (Qq (pv 0) Qz))))) Qz))))))),?_⟩;have AC:Qz1 K au:=Z.b7.a;have lw:=ok.bok.w1;have lb:=ok.bok.b1;nofun;refine ⟨_,rfl,ll,_,rfl,.inl (SqL.of hll),?_⟩;rw [length_map,lvl];walk_at "d";refine Xx (λi=>.int (Xh true aj way lv parts i)) sml hD (λi hi H1 N s1 hN=>?_) λH1 s1 d1=>?_
 ·have hg:(lv.map V.int)[i]? = some (.int (lv.getD i 0)):=by simp [getD,show i < lv.length by lia]
  rw [Int.zero_add];refine Qk5 (i:=i) (level:=lv.getD i 0) (parts:=parts) (hA.same s1) ok hi hx ⟨by lia,by lia⟩ (λ_ k=>⟨_,rfl,k⟩) (λK2 k=>?_) (hN _ (Qu.refl _));symm;refine ixW i (s1 _ _ hll) hg ?_;symm;exact k
 have d1':H1 D=some (.lst ((Xj true aj way lv parts).map V.int)):=by rw [d1];unfold Xj;rw [map_map];rfl
 have hA1:=hA.same s1;obtain ⟨dx,hp,wa,g1,g2,g3⟩:=hA1.ex;obtain ⟨dh,bb,ww,h1,h2,h3⟩:=g2.ex;symm;refine ⟨p,_,dx,_,_,rfl,g1,AC.cl,AC.nH,Yp _ _,hp,dh,_,rfl,h1,Us _ _ _,hp,ak,aj,ao,rfl,g2,?_⟩;refine ⟨_,rfl,by lia,by lia,λD2 hD2=>?_⟩;rw [Int.toNat_natCast];refine Yv (λi y _ => ∃ z:Int,y=.int z/\Wo way (Xj true aj way lv parts) i z) sml hD2 (λ_ _ _ _ _ h=>h) ?_ ?_
 ·rintro i H2 ys NN hi s2 d2 hNN;rw [Int.zero_add];symm;exact ⟨p,D,ak,aj,ao,way,_,i,rfl,hA1.same s2,ok,s2 _ _ d1',by simp [Xj],l0,λz hz=>hNN _ _ (Qu.refl _) ⟨z,rfl,hz⟩⟩
 ·rintro ys H2 s2 d2 ly hy;obtain ⟨rows,e,hr⟩:=Qx0 (P:=λ_ _=>True) V.int (λi z=>Wo way (Xj true aj way lv parts) i z) ys 0 (λi y h=>by obtain ⟨z,e,h⟩:=hy i y h;exact ⟨z,e,by rw [Nat.zero_add]; exact h⟩)
  subst e;have hl:rows.length=ak.length:=by rw [length_map] at ly; lia
  refine ⟨parts,D2,rows,rfl,SqL.of d2,by lia,p0,by lia,λt l H3 f3 s3 h3 h4=>?_⟩;exact q rows t l H3 ⟨hl,λr z e=>by have:=hr r z e; rwa [Nat.zero_add] at this⟩ ((s1.trans s2).free f3) ((s1.trans s2).trans s3) h3 h4
theorem Eo:Def P w K mg base 10 "divide" [Y5] (Oz true CH au Pb Zy "best_room.<locals>.<lambda>"):=by
 refine Z.a37.mq [Y5,"told","least",Y39] λH vs Q E hr nD h=>?_;obtain ⟨p,ak,aj,ao,way,rfl,hA,ok,fit,opt,hL,l0,hx,q⟩:=h;refine ⟨_,(zcF (zcC (Qg 1 nD (Qd (Fv Z) hr (Qq (pv 0) Qz))) (zcC (Qg 2 nD (Qd (Qn8 Z) hr (Qq (pv 0) (Qq (Qb K (pv 1) Qx) Qz)))) (zcC (Ws 3 nD ["gain","least"] [none,some 2] (Wn K (Qb K (pv 1) Qx)) (Qk Zt (Qb K (pv 1) Qx) (Qk Qr (Qb K (pv 1) Qx) (pv 0)))) (zcL (Qh (Zp (Qq (Qd (Dr Z) hr (Qq (pv 0) (Qq (pv 3) (Qq (Qb K (pv 2) Qx) Qz)))) (Qq (Qb K (pv 1) Qx) Qz))))))))),?_⟩;have lw:=ok.bok.w1;nofun;refine ⟨_,rfl,p,ak,aj,ao,way,rfl,hA,ok,fit,opt,hL,λt tl cl aq st H1 s1 so1 hL1 f1 f2 f3 ff cb g=>?_⟩;have hA1:=hA.bf s1;have htl:=g.tc.g;have l1:=g.ok.l1;symm;refine ixU g.tup rfl ?_;refine ⟨p,cl,ak,aj,ao,way,aq,st.2,rfl,hA1,ok,g.good,g.chs,λtb H2 s2 f2b hb=>?_⟩;nofun;rw [Qxw g.ok] at hb;have htup2:=s2 _ _ g.tup;have htl2:=s2 _ _ htl;symm;refine ixU htup2 rfl ?_;refine ⟨tl,rfl,⟨_,SqL.of htl2⟩,λD hD=>?_⟩;refine Kr st.1 (λg=>.int ((Uj true aj way ao - st.1.sum) + (aj.length:Int) * g)) (SqL.of htl2) sml hD (λz hz H3 N s3 hN=>?_) λH3 s3 d3=>?_
 ·symm;refine ixU (s3 _ _ hb) rfl ?_;symm;refine ixU (s3 _ _ hb) rfl ?_;symm;have hzb:=Ez hx g.ok cb z hz;refine ⟨⟨⟨by lia,by lia⟩,by lia,by lia⟩,?_⟩;symm;exact hN _ (Qu.refl _)
 have S3:=s2.trans s3;have d3':H3 D=some (.lst ((lvL true aj way ao st.1).map V.int)):=by rw [d3];unfold lvL;rw [map_map];rfl
 symm;refine ixU (s3 _ _ hb) rfl ?_;refine ⟨p,D,ak,aj,ao,way,_,_,rfl,hA1.same S3,ok,d3',by simp [lvL,l1],l0,by lia,by lia,hx,λrows tp rl H4 isr frl s4 h4 h5=>?_⟩;rw [show ((aj.length:Int)).natAbs=aj.length by lia] at h4 h5;symm;have S4:=S3.trans s4;refine ixU (S4 _ _ g.tup) rfl ?_;symm;refine λt2 H5 n5=>?_;have S5:=S4.trans n5.same;obtain ⟨ls,c1,c2,c3,c4⟩:=id g.tc.ex;refine q t2 tp rl cl aq st rows H5 (s1.trans S5.b) (so1.trans S5.o) (hL1.same S5) f2 (s1.th _ (S3.free frl)) (Qj (S3 _ _ c1) frl).symm ?_ ⟨n5.at_,n5.same _ _ h4,n5.same _ _ h5,isr,g.chs.same S5,g.good,g.ok,g.nn,g.cl_,cb⟩;refine ⟨ls,S5 _ _ c1,λa ha=>⟨ff.at_ c1 a ha,?_⟩⟩;obtain ⟨i,hi,rfl⟩:=X4.mp ha;have hi2:i < st.2.length:=by lia
 obtain ⟨ts,e1,_,_⟩:=c4 i _ _ (R7 hi) (R7 hi2);exact Qj (S3 _ _ e1) frl
theorem Sr:Def P w K mg base 1 "beginning" [Y36,Y7] Ls:=by
 refine Z.a38.mq [Y36,Y7] λH vs Q E hr nD h=>?_;obtain ⟨cl,c,i,rfl,⟨ts,e1,e2,e3⟩,q⟩:=h;refine ⟨_,(Qh (Nj (Kf (q_t Jb (Zk K Z.T.u0 (Qq (pv 0) Qz)) Qx) (pv 1) (Qb K (Qb K (pv 0) Qx) Qx)))),?_⟩;refine ⟨λv H'=>H'=H/\v=.int (Fb c i),?_,λv H' z=>?_⟩
 rotate_left
 ·obtain ⟨rfl,rfl⟩:=z;exact q
 symm;refine ⟨cl,_,rfl,.inl (SqL.of e1),?_⟩;rw [length_map,e2];cases c with
 | nil =>symm;rfl
 | cons m c =>
  cases ts with
  | nil=>cases e2
  | cons t ts =>have ht:=e3 0 t m rfl rfl;symm;refine ixW 0 e1 rfl ?_;symm;refine ixU ht rfl ?_;exact ⟨rfl,rfl⟩
def Dl:Def P w K mg base 2 "purse_row" [Y36,Y7] Cs:=by refine Z.a39.mq [Y36,Y7] λH vs Q E hr nD h=>?_;obtain ⟨cl,c,i,rfl,hh,q⟩:=h;refine ⟨_,(Qh (Zp (Qq Yd (Qq (Qd (Sr Z) hr (Qq (pv 0) (Qq (pv 1) Qz))) (Qq (pv 0) Qz))))),?_⟩;symm;refine ⟨cl,c,i,rfl,hh,?_⟩;symm;exact λt H' n=>q t H' n
theorem Mc:Def P w K mg base 2 "purse_share" [Y5,Y22,Y7] (Fc CH au):=by
 refine Z.a40.mq [Y5,Y22,Y7] λH vs Q E hr nD h=>?_;obtain ⟨p,pu,ak,aj,ao,way,ps,k,rfl,hA,ok,hp,hk,lp,q⟩:=h;refine ⟨_,(zcF (zcC (Qa (q_t We (Qb K (pv 1) (pv 2)) Qo) (Qh Qo) Qp) (zcL (Qh (Qk Zh (Qd (Pm Z) hr (Qq (pv 0) (Qq (pv 2) Qz))) (Qb K (pv 1) (pv 2))))))),?_⟩;have g:(ps.map oV)[k]? = some (oV (ps.getD k none)):=by simp [getD,show k < ps.length by lia]
 symm;refine ixW k hp g ?_;cases hx:ps.getD k none with
 | none =>rw [hx] at q;refine ⟨rfl,_,rfl,Ya rfl ?_⟩;symm;exact q
 | some x =>rw [hx] at q g;refine ⟨rfl,_,rfl,Vq rfl ?_⟩;symm;refine ⟨au,p,ak,aj,ao,way,k,rfl,Z.b7.a,hA,ok,hk,?_⟩;symm;refine ixW k hp g ?_;exact ⟨_,_,rfl,rfl,q⟩
theorem Rg:Def P w K mg base 4 "free_bound" [Y5,Y13,Y24,Y34] (Ll CH au):=by
 refine Z.a41.mq [Y5,Y13,Y24,Y34,"bounds"] λH vs Q E hr nD h=>?_;obtain ⟨p,gl,hl,sl,ak,aj,ao,way,gs,hs,L,rfl,hA,ok,hg,lg,hh,lh,hs',hno,q⟩:=h;refine ⟨_,(zcF (zcC (Ws 4 nD [Y7,Y13,Y24,Y34] [none,some 1,some 2,some 3] (Zo Z.T.u1 (Qq (Zk K Z.T.u0 (Qq (pv 1) Qz)) Qz)) (Nj (Kf (Vx (Yr (K:=K) rfl) (pv 0) (pv 3) (by with_unfolding_all rfl)) (Qb K (pv 1) (pv 0)) (Qb K (pv 2) (pv 0))))) (zcL (Qh (Zp (Qq (Qk Zh (Zz (Mu Z) Z.b7.cl (pv 0) (hr.mono (by decide))) (Qt (Xo (K:=K) rfl rfl) (by rfl) Z.T.u10 Yq (Qq (pv 4) Qz))) (Qq (Zk K Z.T.u0 (Qq (pv 3) Qz)) Qz))))))),?_⟩;have lw:=ok.bok.w1;symm;refine ⟨gl,_,rfl,.inl (SqL.of hg),?_⟩;rw [length_map,lg];walk_at "d";refine Xx (λi=>.int (if i∈L then gs.getD i 0 else hF hs i)) sml hD (λi hi H1 N s1 hN=>?_) λH1 s1 d1=>?_
 ·rw [Int.zero_add];have gg:(gs.map V.int)[i]? = some (.int (gs.getD i 0)):=by simp [getD,show i < gs.length by lia]
  have gh:(hs.map oV)[i]? = some (oV (hs.getD i none)):=by simp [getD,show i < hs.length by lia]
  refine ⟨λv H'=>H'=H1/\v=.int (if i∈L then gs.getD i 0 else hF hs i),?_,λv H' z=>?_⟩
  rotate_left
  ·obtain ⟨rfl,rfl⟩:=z;exact hN _ (Qu.refl _)
  symm;refine ⟨sl,_,rfl,.inl (SqL.of (s1 _ _ hs')),rfl,by simp [Vs],?_⟩;rw [if_neg Bool.false_ne_true,Vb]
  by_cases hm:i∈L
  ·rw [decide_eq_true (show (i:Int)∈wI L from Pr.mpr hm)];symm;refine ixW i (s1 _ _ hg) gg ?_;exact ⟨rfl,by rw [if_pos hm]⟩
  ·rw [decide_eq_false (show ¬ (i:Int)∈wI L from λz=>hm (Pr.mp z))];symm;refine ixW i (s1 _ _ hh) gh ?_;refine ⟨rfl,?_⟩;rw [if_neg hm];unfold hF;cases hx:hs.getD i none with
   | none=>exact absurd hx (hno i hi hm)
   | some x=>rfl
 have d1':H1 D=some (.lst (((range aj.length).map λi=>if i∈L then gs.getD i 0 else hF hs i).map V.int)):=by rw [d1,map_map]; rfl
 obtain ⟨dx,hp,wa,g1,g2,g3⟩:=(hA.same s1).ex;symm;refine ⟨p,dx,_,rfl,g1,by rfl,?_⟩;refine ⟨p,ak,aj,ao,way,rfl,hA.same s1,ok,λH2 s2=>?_⟩;symm;refine ⟨D,_,rfl,SqL.of (s2 _ _ d1'),?_⟩;symm;refine ⟨sl,_,rfl,.inl (SqL.of (s2 _ _ (s1 _ _ hs'))),?_⟩;rw [Xv];symm;refine λt3 H3 n3=>?_;exact q t3 H3 ((s1.trans s2).trans n3.same) ((s1.trans s2).free n3.none) n3.at_
def Ea:Def P w K mg base 1 "less" ["one","other"] Qw5:=by refine Z.a42.mq ["one","other"] λH vs Q E hr nD h=>?_;obtain ⟨a,b,n,p,m,r,rfl,ha,hb,b1,b2,b3,b4,q⟩:=h;refine ⟨_,(Qh (Jw Rb (Qk Qr (Qb K (pv 0) Qx) (Qb K (pv 1) Qx)) (Qk Qr (Qb K (pv 1) Qx) (Qb K (pv 0) Qx)) (Vl _))),?_⟩;symm;refine ixU ha rfl ?_;symm;refine ixU hb rfl ?_;walk_at "m";symm;refine ixU hb rfl ?_;symm;refine ixU ha rfl ?_;walk_at "m";symm;exact q
theorem Qtv:Def P w K mg base 5 "loose_ones" [Y5,Y13,Y24] (Qbz CH au Pc Zc "loose_ones.<locals>.<lambda>"):=by
 refine Z.a43.mkL Yh (λvs H Q E h=>?_) (λ_ _ _ _ _ _ us hl=>match us,hl with | [_,_,_],_=>rfl) (λf A outer s H vs Q E hr h=>?_)
 ·obtain ⟨p,gl,hl,ak,aj,ao,way,gs,hs,rfl,_⟩:=h;rfl
 ·obtain ⟨p,gl,hl,ak,aj,ao,way,gs,hs,rfl,hA,ok,hg,lg,hh,lh,iz,hw0,hL,hbd,jb,q⟩:=h;refine ⟨_,(zcF (zcC (Qg 3 Yh.nd (Sy (x:="person") (Nc:=[Y13,Y24]) (ix:=[some 1,some 2]) Z.a43.hd Z.a44 rfl rfl Z.T.u13 rfl Z.T.u1 hr.dep (Zk K Z.T.u0 (Qq (pv 1) Qz)) (λ_ _ _ _ _=>(Qk Zh (Qb K (pv 2) (pv 0)) (Qb K (pv 1) (pv 0)))) rfl rfl rfl rfl rfl rfl (λ_ _ _ _ _=>rfl) rfl rfl)) (zcC (Qg 4 Yh.nd (Vg (Rt (K:=K) rfl) (pv 3) Tn (Wv Qx))) (zcL (Qw (Xr (Qk6 rfl Z.T.u1 (Qq Qx (Qq (Qk Zt (Zk K Z.T.u0 (Qq (pv 3) Qz)) Qx) Qz))) (Ql 5 Yh.nd) (Qm (Qa (Xg (Qd (Ea Z) hr (Qq (Qd (Rg Z) hr (Qq (pv 0) (Qq (pv 1) (Qq (pv 2) (Qq (Vg (Rt (K:=K) rfl) (pv 3) Tn (Wv (pv 5))) Qz))))) (Qq (Qd (Rg Z) hr (Qq (pv 0) (Qq (pv 1) (Qq (pv 2) (Qq (pv 4) Qz))))) Qz)))) (Qm (Qg 4 Yh.nd (Vg (Rt (K:=K) rfl) (pv 3) Tn (Wv (pv 5))))) Qp))) (Qh (pv 4))))))),?_⟩;have lw:=ok.bok.w1;have ehv:∀ i,i < aj.length->(hs.map oV)[i]? = some (.int (hF hs i)):=λi hi=>by
   have h1:(hs.map oV)[i]? = some (oV (hs.getD i none)):=by simp [getD,show i < hs.length by lia]
   rw [h1];unfold hF;cases e:hs.getD i none with
   | none=>exact absurd e (iz i hi)
   | some x=>rfl
  symm;refine ⟨gl,_,rfl,.inl (SqL.of hg),?_⟩;rw [length_map,lg];refine ⟨aj.length,λz=>hF hs z.toNat - gs.getD z.toNat 0,rfl,by lia,hL,λi hi H2 sb=>?_,λD zs H2 hp hpw sb so hL2 hD=>?_⟩
  ·have gg:(gs.map V.int)[i]? = some (.int (gs.getD i 0)):=by simp [getD,show i < gs.length by lia]
   symm;refine ixW i (sb.to _ _ hh rfl) (ehv i hi) ?_;symm;refine ixW i (sb.to _ _ hg rfl) gg ?_;exact ⟨_,_,rfl,rfl,by simp,rfl⟩
  obtain ⟨od,hod,rfl⟩:=Qpj hp;have jw:od.Pairwise λa b=>hF hs a - gs.getD a 0<=hF hs b - gs.getD b 0:=by unfold wI at hpw;rw [pairwise_map] at hpw;exact hpw.imp λ{a b} h=>by simpa using h
  have lod:od.length=aj.length:=by rw [hod.length_eq,length_range]
  have n3:=Jy (o:=.lst ((wI od).map V.int)) hD;generalize upd H2 D (.lst ((wI od).map V.int))=H3 at *;have S3:Qc H H3:=sb.trans n3.same.b;have SO3:Yl Pc H H3:=so.trans n3.same.o;have hL3:=hL2.same n3.same;symm;refine ⟨D,_,rfl,SqL.of n3.at_,λl4 H4 n4=>?_⟩;have e4:H4 l4=some (.lst ((wI (od.take 1)).map V.int)):=by rw [n4.at_,show (some (1:Int))=some ((1:Nat):Int) from rfl,Gm,Ho]
  symm;refine ⟨D,_,rfl,.inl (SqL.of (n4.same _ _ n3.at_)),?_⟩;rw [Xv,lod];symm;refine ⟨_,_,rfl,⟨by lia,by lia,by lia,by lia⟩,?_⟩;rw [show ((aj.length:Int) + 1 - 2).toNat=aj.length - 1 by lia];refine Zu (λi σ H' => ∃ l c o5,σ=[rf p,rf gl,rf hl,rf D,rf l,o5]/\H' l=some (.lst ((wI (od.take c)).map V.int))/\Ui aj.length (λi=>gs.getD i 0) (hF hs) (wsum (wF aj) way - ao) od (i + 1) c/\Qu H3 H')
   ⟨l4,1,none,rfl,e4,Ui.one,n4.same⟩ ?_ ?_
  ·nofun;intro i σ H5 hi q9; obtain ⟨l,c,o5,rfl,hl5,lc,s5⟩:=q9;rw [show (2:Int) + (i:Int)=((i + 2:Nat):Int) by lia];have ck:=lc.ck;have S5:Qc H H5:=S3.trans s5.b;symm;refine ⟨D,_,rfl,SqL.of (s5 _ _ n3.at_),λl6 H6 n6=>?_⟩;have e6:H6 l6=some (.lst ((wI (od.take (i + 2))).map V.int)):=by rw [n6.at_,Gm,Ho]
   have S6:=S5.trans n6.same.b;symm;refine ⟨p,gl,hl,l6,ak,aj,ao,way,gs,hs,od.take (i + 2),rfl,hA.bf S6,ok,S6.to _ _ hg rfl,lg,S6.to _ _ hh rfl,lh,e6,(λj hj _=>iz j hj),λt7 H7 s7 f7 h7=>?_⟩;have S7:=S6.trans s7.b;symm;refine ⟨p,gl,hl,l,ak,aj,ao,way,gs,hs,od.take c,rfl,hA.bf S7,ok,S7.to _ _ hg rfl,lg,S7.to _ _ hh rfl,lh,s7 _ _ (n6.same _ _ hl5),(λj hj _=>iz j hj),λt8 H8 s8 f8 h8=>?_⟩;have b1:=hbd (od.take (i + 2));have b2:=hbd (od.take c);have l1:(od.take (i + 2)).length=i + 2:=by rw [length_take]; lia
   have l2:(od.take c).length=c:=by rw [length_take]; lia
   rw [l1] at h7;rw [l2] at h8;have S38:Qu H3 H8:=((s5.trans n6.same).trans s7).trans s8;symm;refine ⟨t7,t8,_,_,_,_,rfl,s8 _ _ h7,h8,b1,⟨by lia,by lia⟩,b2,⟨by lia,by lia⟩,?_⟩
   by_cases hlt:(wsum (wF aj) way - ao - Vn aj.length (λi=>gs.getD i 0) (hF hs) (od.take (i + 2))) * (c:Int) < (wsum (wF aj) way - ao - Vn aj.length (λi=>gs.getD i 0) (hF hs) (od.take c)) * ((i + 2:Nat):Int)
   ·rw [decide_eq_true hlt];symm;refine ⟨D,_,rfl,SqL.of (S38 _ _ n3.at_),λl9 H9 n9=>?_⟩;have e9:H9 l9=some (.lst ((wI (od.take (i + 2))).map V.int)):=by rw [n9.at_,Gm,Ho]
    nofun;exact ⟨l9,i + 2,_,rfl,e9,lc.next hlt,S38.trans n9.same⟩
   ·rw [decide_eq_false hlt];symm;exact ⟨l,c,_,rfl,s8 _ _ (s7 _ _ (n6.same _ _ hl5)),lc.keep hlt,S38⟩
  ·intro σ H5 q9; obtain ⟨l,c,o5,rfl,hl5,lc,s5⟩:=q9;rw [show aj.length - 1 + 1=aj.length by lia] at lc;have ck:=lc.ck;symm;exact q l (od.take c) H5 (S3.trans s5.b) (SO3.trans s5.o) (hL3.same s5) hl5 (Qrq hod jw jb lc) (by rw [length_take]; lia)
theorem Ee:Def P w K mg base 5 "kept_by" [Y5,"free",Y24,Y34] (Qw7 K CH au):=by
 refine Z.a45.mq [Y5,"free",Y24,Y34,"least",Y39,"paper",Y7] λH vs Q E hr nD h=>?_;obtain ⟨p,fr,he,sl,tl,cl,tl2,cl2,ak,aj,ao,way,aq,st,st2,L,rfl,hA,ok,gr,hhe,tc2,l21,l22,hsl,hno,L0,L1,hw0,hx,gb,hb,q⟩:=h;refine ⟨_,(zcF (zcC (Qg 4 nD (Qd (Rg Z) hr (Qq (pv 0) (Qq (Qb K (pv 1) Qx) (Qq (Qb K (pv 2) Qx) (Qq (pv 3) Qz)))))) (zcC (Qg 5 nD (Zq Qz)) (zcC (Qg 6 nD (Zq Qz)) (zcC (Xr (Zo Z.T.u1 (Qq (Zz (Yf Z) Z.HC.cl (Yy K (pv 0)) (hr.mono (by decide))) Qz)) (Ql 7 nD) (Qm (Qa (Vx (Yr (K:=K) rfl) (pv 7) (pv 3) (by with_unfolding_all rfl)) (zcF (zcC (Xt (Tf K (pv 5) (Qq (Qk Zt (Qb K (pv 4) Qx) (Qk Qr (Qb K (pv 4) Qx) (Qb K (Qb K (pv 1) Qx) (pv 7)))) Qz))) (zc1 (Xt (Tf K (pv 6) (Qq (Zp (Qq Yd (Qq (Qb K (Qb K (pv 1) Qx) (pv 7)) Qz))) Qz)))))) (zcF (zcC (Xt (Tf K (pv 5) (Qq (Qk Qr (Qb K (pv 4) Qx) (Qb K (Qb K (pv 2) Qx) (pv 7))) Qz))) (zc1 (Xt (Tf K (pv 6) (Qq (Qd (Dl Z) hr (Qq (Qb K (Qb K (pv 2) Qx) (pv 7)) (Qq (pv 7) Qz))) Qz))))))))) (zcL (Qh (Zp (Qq Yd (Qq (Qd (Dr Z) hr (Qq (pv 0) (Qq (pv 5) (Qq (Qb K (pv 4) Qx) Qz)))) (Qq (pv 6) Qz))))))))))),?_⟩;have lw:=ok.bok.w1;have AC:Qz1 K au:=Z.b7.a;have lg:=gr.ok.l1;symm;refine ixU gr.tup rfl ?_;symm;refine ixU hhe rfl ?_;symm;refine ⟨p,tl,tl2,sl,ak,aj,ao,way,st.1,st2.1,L,rfl,hA,ok,gr.tc.g,lg,tc2.g,l21,hsl,hno,λtb H1 s1 ftb htb=>?_⟩;generalize hB:wsum (wF aj) way - ao - Vn aj.length (λi=>st.1.getD i 0) (hF st2.1) L=B at *;symm;refine λlv H2 n2=>?_;symm;refine λpl H3 n3=>?_;have s3:Qu H1 H3:=n2.same.trans n3.same;have S3:Qu H H3:=s1.trans s3;have nlp:lv≠pl:=Qj n2.at_ n3.none;obtain ⟨dx,hp,wa,g1,g2,g3⟩:=(hA.same S3).ex;obtain ⟨dh,bb,ww,h1,h2,h3⟩:=g2.ex;symm;refine ⟨p,_,dx,_,_,rfl,g1,AC.cl,AC.nH,Yp _ _,hp,dh,_,rfl,h1,Us _ _ _,hp,ak,aj,ao,rfl,g2,?_⟩;walk_at "r";have fl1:H1 lv=none:=n2.none;have fp1:H1 pl=none:=n2.same.free n3.none;have hlvK:∀ i,i < aj.length->(lvK aj.length (λi=>st.1.getD i 0) (hF st2.1) (wsum (wF aj) way - ao) L).take (i + 1)=(lvK aj.length (λi=>st.1.getD i 0) (hF st2.1) (wsum (wF aj) way - ao) L).take i ++ [if i∈L then B + (L.length:Int) * st.1.getD i 0 else (L.length:Int) * hF st2.1 i]:=λi hi=>by
  have hl:i < (lvK aj.length (λi=>st.1.getD i 0) (hF st2.1) (wsum (wF aj) way - ao) L).length:=by rw [Ck]; exact hi
  rw [take_succ,getElem?_eq_getElem hl];have e:=Ss (g:=λi=>st.1.getD i 0) (h:=hF st2.1) (W:=wsum (wF aj) way - ao) (S:=L) hi;rw [getD_get _ _ hl,hB] at e;rw [e];rfl
 generalize hV:lvK aj.length (λi=>st.1.getD i 0) (hF st2.1) (wsum (wF aj) way - ao) L=V' at *;have lV:V'.length=aj.length:=by rw [<- hV]; exact Ck
 refine Zu (λi σ H'=>(∃ o7,σ=[rf p,rf fr,rf he,rf sl,rf tb,rf lv,rf pl,o7])/\Qu H1 H'/\H' lv=some (.lst ((V'.take i).map V.int))/\∃ ts:K9,H' pl=some (.lst (ts.map V.ref))/\ts.length=i/\(∀ t∈ts,t≠lv/\t≠pl)/\∀ (j:Nat) t,ts[j]? = some t->∃ c,H' t=some (.tup (Hr (Pd L st.2 st2.2 j).1 c))/\Xp H1 c (Pd L st.2 st2.2 j).2)
  ⟨⟨_,rfl⟩,s3,n3.same _ _ n2.at_,[],n3.at_,rfl,(λt z=>by cases z),λj t z=>by simp at z⟩ ?_ ?_
 ·nofun;intro i σ H4 hi q9; obtain ⟨⟨o7,rfl⟩,s4,hlv,ts,hpl,lts,nts,hts⟩:=q9;have hi2:i < aj.length:=hi;have S4:Qu H H4:=s1.trans s4;rw [Int.zero_add];have gbi:=gb i;have hbi:=hb i;have step:∀ (v:Int) (c tp:G5) (H6:Hp),v=(if i∈L then B + (L.length:Int) * st.1.getD i 0 else (L.length:Int) * hF st2.1 i)->Xp H1 c (Pd L st.2 st2.2 i).2->New (upd H4 lv (.lst ((V'.take i).map V.int ++ [.int v]))) tp (.tup (Hr (Pd L st.2 st2.2 i).1 c)) H6 ->
    Qu H1 (upd H6 pl (.lst (ts.map V.ref ++ [.ref tp])))/\upd H6 pl (.lst (ts.map V.ref ++ [.ref tp])) lv=some (.lst ((V'.take (i + 1)).map V.int))/\∃ us:K9,upd H6 pl (.lst (ts.map V.ref ++ [.ref tp])) pl=some (.lst (us.map V.ref))/\us.length=i + 1/\(∀ t∈us,t≠lv/\t≠pl)/\∀ (j:Nat) t,us[j]? = some t->∃ c,upd H6 pl (.lst (ts.map V.ref ++ [.ref tp])) t=some (.tup (Hr (Pd L st.2 st2.2 j).1 c))/\Xp H1 c (Pd L st.2 st2.2 j).2:=λv c tp H6 ev hc n6=>by
   have m6:upd H4 lv (.lst ((V'.take i).map V.int ++ [.int v])) pl=some (.lst (ts.map V.ref)):=by rw [Qv nlp.symm]; exact hpl
   have ntl:tp≠lv:=(Qj (Qy (H:=H4) (a:=lv)) n6.none).symm;have ntp:tp≠pl:=(Qj m6 n6.none).symm;refine ⟨λx o e=>?_,?_,ts ++ [tp],by rw [Qy]; simp,by simp [lts],λt ht=>?_,λj t hj=>?_⟩
   ·rw [Qv (Qj e fp1)];refine n6.same _ _ ?_;rw [Qv (Qj e fl1)];exact s4 _ _ e
   ·rw [Qv nlp,n6.same _ _ Qy,hlvK i hi2,ev];simp
   ·rcases O6.mp ht with z | z
    ·exact nts t z
    ·rw [mem_singleton.mp z];exact ⟨ntl,ntp⟩
   ·by_cases hjl:j < ts.length
    ·rw [getElem?_append_left hjl] at hj;obtain ⟨c',c1,c2⟩:=hts j t hj;obtain ⟨a1,a2⟩:=nts t (T8 hj);refine ⟨c',?_,c2⟩;rw [Qv a2];refine n6.same _ _ ?_;rw [Qv a1];exact c1
    ·have hj2:j=ts.length:=by have:=(N8.mp hj).1;simp at this;lia
     subst hj2;simp at hj;subst hj;rw [lts];exact ⟨c,by rw [Qv ntp]; exact n6.at_,hc⟩
  obtain ⟨ls,a1,a2,a3,a4⟩:=gr.tc.ex;obtain ⟨ls2,b1,b2,b3,b4⟩:=tc2.ex;have l2:=gr.ok.l2;have htb4:=s4 _ _ htb;symm;refine ⟨sl,_,rfl,.inl (SqL.of (S4 _ _ hsl)),rfl,by simp [Vs],?_⟩;rw [if_neg Bool.false_ne_true,Vb]
  by_cases hm:i∈L
  ·rw [decide_eq_true (show (i:Int)∈wI L from Pr.mpr hm)];have gg:(st.1.map V.int)[i]? = some (.int (st.1.getD i 0)):=by simp [getD,show i < st.1.length by lia]
   symm;refine ⟨.inl ⟨rfl,_,SqL.of hlv⟩,?_⟩;symm;refine ixU htb4 rfl ?_;symm;refine ixU htb4 rfl ?_;symm;refine ixU (S4 _ _ gr.tup) rfl ?_;symm;refine ixW i (S4 _ _ gr.tc.g) gg ?_;walk_at "m";symm;refine ⟨lv,_,_,rfl,rfl,hlv,by rw [sizeLine_eq,length_map,length_take]; lia,?_⟩;have k5:∀ x o,H4 x=some o->x≠lv->upd H4 lv (.lst ((V'.take i).map V.int ++ [.int (B + (L.length:Int) * st.1.getD i 0)])) x=some o:=λx o e hne=>by rw [Qv hne]; exact e
   have kk5:∀ x o,H1 x=some o->upd H4 lv (.lst ((V'.take i).map V.int ++ [.int (B + (L.length:Int) * st.1.getD i 0)])) x=some o:=λx o e=>k5 _ _ (s4 _ _ e) (Qj e fl1);have step5:=step (B + (L.length:Int) * st.1.getD i 0);generalize upd H4 lv (.lst ((V'.take i).map V.int ++ [.int (B + (L.length:Int) * st.1.getD i 0)]))=H5 at *;have m6:=k5 _ _ hpl nlp.symm;have hil:i < ls.length:=by lia
   have hch:=a4 i ls[i] (st.2.getD i []) (R7 hil) (by simp [getD,show i < st.2.length by lia]);have gc:(ls.map V.ref)[i]? = some (.ref ls[i]):=by simp [hil]
   symm;refine ⟨.inl ⟨rfl,_,SqL.of m6⟩,?_⟩;symm;refine ixU (kk5 _ _ (s1 _ _ gr.tup)) rfl ?_;symm;refine ixW i (kk5 _ _ (s1 _ _ a1)) gc ?_;symm;refine λtp H6 n6=>?_;refine ⟨pl,_,_,rfl,rfl,n6.same _ _ m6,by rw [sizeLine_eq,length_map]; lia,?_⟩;have hrk:Pd L st.2 st2.2 i=(none,(st.2.getD i []).map Ug):=by unfold Pd; rw [if_pos hm]
   nofun;refine ⟨⟨_,rfl⟩,step5 ls[i] tp H6 (by rw [if_pos hm]) (by rw [hrk]; exact (hch.same s1).i) (by rw [hrk]; exact n6)⟩
  ·rw [decide_eq_false (show ¬ (i:Int)∈wI L from λz=>hm (Pr.mp z))];obtain ⟨hv,ehv⟩:∃ hv,st2.1.getD i none=some hv:=by
    cases e:st2.1.getD i none with
    | none=>exact absurd e (hno i hi2 hm)
    | some hv=>exact ⟨hv,rfl⟩
   have gg:(st2.1.map oV)[i]? = some (.int hv):=by rw [getElem?_map];rw [getD_eq_getElem?_getD,getElem?_eq_getElem (by lia)] at ehv;rw [getElem?_eq_getElem (by lia)];simp at ehv;rw [Option.map_some,ehv];rfl
   have ehF:hF st2.1 i=hv:=by unfold hF; rw [ehv]; rfl
   rw [ehF] at hbi step;symm;refine ⟨.inl ⟨rfl,_,SqL.of hlv⟩,?_⟩;symm;refine ixU htb4 rfl ?_;symm;refine ixU (S4 _ _ hhe) rfl ?_;symm;refine ixW i (S4 _ _ tc2.g) gg ?_;walk_at "m";symm;refine ⟨lv,_,_,rfl,rfl,hlv,by rw [sizeLine_eq,length_map,length_take]; lia,?_⟩;have k5:∀ x o,H4 x=some o->x≠lv->upd H4 lv (.lst ((V'.take i).map V.int ++ [.int ((L.length:Int) * hv)])) x=some o:=λx o e hne=>by rw [Qv hne]; exact e
   have kk5:∀ x o,H1 x=some o->upd H4 lv (.lst ((V'.take i).map V.int ++ [.int ((L.length:Int) * hv)])) x=some o:=λx o e=>k5 _ _ (s4 _ _ e) (Qj e fl1);have f5:∀ x,upd H4 lv (.lst ((V'.take i).map V.int ++ [.int ((L.length:Int) * hv)])) x=none->H1 x=none:=λx e=>by
    by_cases hx:x=lv
    ·rw [hx,Qy] at e; cases e
    ·rw [Qv hx] at e; exact s4.free e
   have step5:=step ((L.length:Int) * hv);generalize upd H4 lv (.lst ((V'.take i).map V.int ++ [.int ((L.length:Int) * hv)]))=H5 at *;have m6:=k5 _ _ hpl nlp.symm;have hil:i < ls2.length:=by lia
   have hch:=b4 i ls2[i] (st2.2.getD i []) (R7 hil) (by simp [getD,show i < st2.2.length by lia]);have gc:(ls2.map V.ref)[i]? = some (.ref ls2[i]):=by simp [hil]
   have hs5:Qu H1 H5:=λx o e=>kk5 x o e;symm;refine ⟨.inl ⟨rfl,_,SqL.of m6⟩,?_⟩;symm;refine ixU (kk5 _ _ (s1 _ _ hhe)) rfl ?_;symm;refine ixW i (kk5 _ _ (s1 _ _ b1)) gc ?_;symm;refine ⟨ls2[i],(st2.2.getD i []).map Ug,i,rfl,((hch.same s1).same hs5).i,λtp H6 n6=>?_⟩;refine ⟨pl,_,_,rfl,rfl,n6.same _ _ m6,by rw [sizeLine_eq,length_map]; lia,?_⟩;have hrk:Pd L st.2 st2.2 i=(some (Fb ((st2.2.getD i []).map Ug) i),(st2.2.getD i []).map Ug):=by unfold Pd; rw [if_neg hm]
   nofun;refine ⟨⟨_,rfl⟩,step5 ls2[i] tp H6 (by rw [if_neg hm]) (by rw [hrk]; exact (hch.same s1).i) (by rw [hrk]; exact n6)⟩
 ·intro σ H4 q9; obtain ⟨⟨o7,rfl⟩,s4,hlv,ts,hpl,lts,nts,hts⟩:=q9;have S4:Qu H H4:=s1.trans s4;nofun;rw [<- lV,take_length] at hlv;symm;refine ixU (s4 _ _ htb) rfl ?_;refine ⟨p,lv,ak,aj,ao,way,V',(L.length:Int),rfl,hA.same S4,ok,hlv,lV,hw0,by lia,by lia,hx,λrows tp rl H5 hrows frl s5 htp hrl=>?_⟩;symm;refine λt6 H6 n6=>?_;rw [Int.natAbs_natCast] at htp hrl;refine q t6 tp rl pl rows H6 ((S4.trans s5).trans n6.same) n6.at_ hrows (n6.same _ _ htp) (n6.same _ _ hrl) ⟨ts,n6.same _ _ (s5 _ _ hpl),by simp [Jr,lts],λj t r a b=>?_⟩;have hj:j < aj.length:=by rw [<- lts]; exact (N8.mp a).1
  obtain ⟨c,c1,c2⟩:=hts j t a;have er:Pd L st.2 st2.2 j=r:=by simpa [Jr,hj] using b
  rw [<- er];exact ⟨c,n6.same _ _ (s5 _ _ c1),((c2.same s4).same s5).same n6.same⟩
theorem En:Def P w K mg base 10 "within" [Y2,Y8,Y22] (Qvw CH Pb Zy "best_room.<locals>.<lambda>" Pc Zc "loose_ones.<locals>.<lambda>"):=by
 refine Z.a47.mq [Y2,Y8,Y22,Y5,"people","free",Y24] λH vs Q E hr nD h=>?_;obtain ⟨x,wy,pu,ak,aj,ao,way,ps,rfl,hA,HG,hre,hwy,ln,f9,fj,hpu,lps,pb,hL,hL3,q⟩:=h;refine ⟨_,(zcF (zcC (Qg 3 nD (Qz5 (Np (CH:=CH) Z.T Z.b7.a Z.a80) Z.b7.mks Z.b7.kp Z.b7.mgC (hr.mono (by decide)) rfl (Qq (pv 0) (Qq (pv 1) Qz)))) (zcC (Qg 4 nD (Zz (Yf Z) Z.HC.cl (pv 0) (hr.mono (by decide)))) (zcC (Qg 5 nD (Qd (Fv Z) hr (Qq (pv 3) Qz))) (zcC (Qg 6 nD (Qd (Iq Z) hr (Qq (pv 3) (Qq (Xz [Y7,Y5,Y22] [none,some 3,some 2] (Zo Z.T.u1 (Qq (pv 4) Qz)) (Qd (Mc Z) hr (Qq (pv 1) (Qq (pv 2) (Qq (pv 0) Qz))))) Qz)))) (zcC (Qa (Vx (Yr (K:=K) rfl) Qo (Qb K (pv 6) Qx) (by with_unfolding_all rfl)) (Qh (Qd (Ee Z) hr (Qq (pv 3) (Qq (pv 5) (Qq (pv 6) (Qq (Hz rfl (by rfl) Z.T.u6 (by rfl) Z.T.u1 (pv 4)) Qz)))))) Qp) (zcC (Qa (q_t Kx (Qt (Xo (K:=K) rfl rfl) (by rfl) Z.T.u10 Yq (Qq (Qb K (pv 6) Qx) Qz)) (Zz (Mu Z) Z.b7.cl (pv 3) (hr.mono (by decide)))) (Qh (Zp (Qq Yd (Qq (Xz [Y7,Y24] [none,some 6] (Zo Z.T.u1 (Qq (pv 4) Qz)) (Qd (Dl Z) hr (Qq (Qb K (Qb K (pv 1) Qx) (pv 0)) (Qq (pv 0) Qz)))) Qz)))) Qp) (zcL (Qh (Qd (Ee Z) hr (Qq (pv 3) (Qq (pv 5) (Qq (pv 6) (Qq (Qd (Qtv Z) hr (Qq (pv 3) (Qq (Qb K (pv 5) Qx) (Qq (Qb K (pv 6) Qx) Qz)))) Qz)))))))))))))),?_⟩;have aok:Qn ak aj way:=⟨HG.bok,ln,Jt f9⟩
 have lw:=HG.bok.w1;have l0:=HG.w1;have hx:=HG.x;have hwb:=He (way:=way) hx (by lia);symm;refine λxa da nxa nda nea=>?_;have sa:Qu H (upd (upd H da (.own xa)) xa (.ins au da [])):=λc o e=>by rw [Qv (Qj e nxa),Qv (Qj e nda)];exact e
 refine ⟨xa,da,x,wy,ak,aj,ao,way,rfl,Qy,hA.same sa,sa _ _ hwy,λwa H1 f1 p1 w1 kp1=>⟨rfl,?_⟩⟩;have S1:Qu H H1:=λc o e=>kp1 c o (sa _ _ e) (Qj e nxa);have aim1:Xd CH au H1 xa ak aj ao way:=⟨da,x,wa,p1,hA.same S1,w1⟩
 clear kp1 sa;obtain ⟨dh,bb,ww,h1,h2,h3⟩:=(hA.same S1).ex;symm;refine ⟨x,dh,_,rfl,h1,Us _ _ _,x,ak,aj,ao,rfl,hA.same S1,?_⟩;symm;refine ⟨xa,ak,aj,ao,way,rfl,aim1,aok,f9,fj,hL.same S1,λfr tl cl aq st H2 s2 so2 hL2 ft fc ff tcf cb gr=>?_⟩;have hL32:Qe H2 Pc Zc "loose_ones.<locals>.<lambda>" := (hL3.same S1).o (hL.same S1).tbl Z.a46 so2;have aim2:=aim1.bf s2;have U2:Qc H H2:=S1.b.trans s2;have O2:Vo Pb Pc H H2:=Vo.trans (S1.o (P:=Pb)).two1 so2.two1;nofun;refine ⟨_,rfl,_,rfl,_,rfl,by lia,by lia,λD hD=>?_⟩;rw [Int.toNat_natCast];refine Xx (λi=>oV ((ps.getD i none).map λx=>Zr aj way i - x)) sml hD (λi hi H3 N s3 hN=>?_) λH3 s3 d3=>?_
 ·rw [Int.zero_add];symm;refine ⟨xa,pu,ak,aj,ao,way,ps,i,rfl,aim2.same s3,aok,s3 _ _ (U2.to _ _ hpu rfl),hi,lps,?_⟩;exact hN _ (Qu.refl _)
 have d3':H3 D=some (.lst ((Uh aj way ps).map oV)):=by rw [d3];unfold Uh;rw [map_map];rfl
 symm;refine ⟨xa,D,ak,aj,ao,way,_,rfl,aim2.same s3,aok,hL2.same s3,d3',by simp [Uh],λhe tl2 cl2 jk st2 H4 s4 so4 hL4 ft4 fc4 fh4 tcf2 cb2 ca=>?_⟩;have hd:=ca.held aok f9 fj;have hL34:Qe H4 Pc Zc "loose_ones.<locals>.<lambda>" := (hL32.same s3).o (hL2.same s3).tbl Z.a46 so4;have U4:Qc H H4:=U2.trans (s3.b.trans s4);have O4:Vo Pb Pc H H4:=O2.trans ((s3.o (P:=Pb)).two1.trans so4.two1);have gr4:Ud true H4 fr tl cl ak aj way aq st:=gr.bf (s3.b.trans s4);have aim4:Xd CH au H4 xa ak aj ao way:=(aim2.same s3).bf s4;clear s2 so2 s3 so4 s4 U2 O2 aim1 aim2 tcf tcf2 gr d3;have gb:∀ i,-(10 ^ 100) < st.1.getD i 0/\st.1.getD i 0 < 10 ^ 100:=λi=>by
  by_cases hi:i < st.1.length
  ·have:=Ez hx gr4.ok cb (st.1.getD i 0) (by rw [getD_get _ _ hi]; exact N7 hi);lia
  ·rw [getD_eq_getElem?_getD,getElem?_eq_none (by lia)];exact ⟨by decide,by decide⟩
 have hbd:=Cg hx hd cb2 pb;have hb:∀ i,-(10 ^ 100) < hF st2.1 i/\hF st2.1 i < 10 ^ 100:=λi=>by have:=hbd i;lia
 have hl1:=hd.l1;symm;refine ixU ca.tup rfl ?_;refine ⟨tl2,_,rfl,.inl (SqL.of ca.tc.g),rfl,Qzw _,?_⟩;rw [if_neg Bool.false_ne_true,Qj8]
 by_cases hn:none∈st2.1
 ·rw [decide_eq_true hn];have hno:∀ i,i < aj.length->ps.getD i none=none:=λi hi=>by refine R6 λz=>?_;obtain ⟨j,hj,e⟩:=getElem_of_mem hn;refine hd.all_ ⟨i,hi,z⟩ j (by lia) ?_;rw [getD_eq_getElem?_getD,getElem?_eq_getElem hj,e];rfl
  obtain ⟨hh,lo⟩:=Qkw (ak:=ak) (way:=way) (W:=wsum (wF aj) way - ao) (hs:=st2.1) l0 hno gr4.cl_;symm;refine λsl H5 n5=>?_;have hsl:H5 sl=some (.lst ((wI (range aj.length)).map V.int)):=by rw [n5.at_];unfold wI;rw [map_map];rfl
  have ca5:=ca.tc.same n5.same;refine ⟨xa,fr,he,sl,tl,cl,tl2,cl2,ak,aj,ao,way,aq,st,st2,_,rfl,aim4.same n5.same,aok,gr4.bf n5.same.b,n5.same _ _ ca.tup,ca5,hd.l1,hd.l2,hsl,lo.some_,lo.kept.pos,by rw [length_range]; lia,l0,hx,gb,hb,λt tp rl pl rows H6 s6 e1 e2 e3 e4 e5=>?_⟩;have S6:=n5.same.trans s6;exact q t H6 (U4.trans S6.b) (O4.trans (S6.o (P:=Pb)).two1) (hL4.same S6) (hL34.same S6) (.inl ⟨tp,rl,pl,_,_,_,e1,e3,e4,e5,Qm6 aok f9 fj HG.b1 hx pb gr4.good gr4.ok gr4.nn gr4.cl_ cb ca.good hd cb2 lo e2⟩)
 rw [decide_eq_false hn];have iz:∀ i,i < aj.length->st2.1.getD i none≠none:=λi hi e=>by
  rw [getD_eq_getElem?_getD,getElem?_eq_getElem (by lia)] at e;have e':st2.1[i]=none:=by simpa using e
  exact hn (e' ▸ N7 _)
 have hg4:H4 tl2=some (.lst (((range aj.length).map (hF st2.1)).map V.int)):=by rw [ca.tc.g,all_ints hd.l1 hn]
 symm;refine ixU ca.tup rfl ?_;refine ⟨tl2,_,rfl,SqL.of hg4,?_⟩;obtain ⟨dx,hp,wa',g1,g2,g3⟩:=aim4.ex;symm;refine ⟨xa,dx,_,rfl,g1,by rfl,?_⟩;refine ⟨xa,ak,aj,ao,way,rfl,aim4,aok,λH5 s5=>?_⟩;symm;refine Kz (λe=>?_) (λe=>?_)
 ·have jb:wsum (wF aj) way - ao < ((range aj.length).map (hF st2.1)).sum:=Q6 e;have hpr:∀ i,i < aj.length->∃ c:G5,(∃ ls:K9,H5 cl2=some (.lst (ls.map V.ref))/\(ls.map V.ref)[i]? = some (.ref c))/\Zb H5 c (st2.2.getD i []):=λi hi=>by
   obtain ⟨ls,e1,e2,e3,e4⟩:=ca.tc.ex;have h2:=hd.l2;have hil:i < ls.length:=by lia
   exact ⟨ls[i],⟨ls,s5 _ _ e1,by simp [hil]⟩,(e4 i ls[i] (st2.2.getD i []) (R7 hil) (by simp [getD,show i < st2.2.length by lia])).same s5⟩
  refine ⟨_,rfl,_,rfl,by lia,by lia,λD' hD'=>?_⟩;rw [Int.toNat_natCast];refine Yv (λi y H' => ∃ t c,y=.ref t/\t≠D'/\c≠D'/\H' t=some (.tup (Hr (Pd [] [] st2.2 i).1 c))/\Xp H5 c (Pd [] [] st2.2 i).2) sml hD' (λi y H H' k ⟨t,c,e,n1,n2,h,h'⟩=>⟨t,c,e,n1,n2,k t _ n1 h,h'⟩) ?_ ?_
  ·rintro i H6 ys N hi s6 d6 hN;rw [Int.zero_add];obtain ⟨c,⟨ls,e1,e2⟩,hc⟩:=hpr i hi;have hrk:Pd [] [] st2.2 i=(some (Fb ((st2.2.getD i []).map Ug) i),(st2.2.getD i []).map Ug):=by unfold Pd; rw [if_neg (by simp)]
   symm;refine ixU (s6 _ _ (s5 _ _ ca.tup)) rfl ?_;symm;refine ixW i (s6 _ _ e1) e2 ?_;symm;refine ⟨c,(st2.2.getD i []).map Ug,i,rfl,(hc.same s6).i,λt7 H7 n7=>?_⟩;obtain ⟨ts,t1,_⟩:=hc;exact hN _ _ n7.same ⟨t7,c,rfl,(Qj d6 n7.none).symm,Qj t1 hD',by rw [hrk]; exact n7.at_,by rw [hrk]; exact Zb.i ⟨ts,t1,‹_›⟩⟩
  rintro ys H6 s6 d6 ly r6;obtain ⟨ts,ets,pts⟩:=Wj (P:=λi t => ∃ c,H6 t=some (.tup (Hr (Pd [] [] st2.2 i).1 c))/\Xp H5 c (Pd [] [] st2.2 i).2) (λi y e=>by obtain ⟨t,c,e1,e2,e3,e4,e5⟩:=r6 i y e;exact ⟨t,e1,c,e4,e5⟩)
  subst ets;have lts:ts.length=aj.length:=by simpa using ly
  symm;refine λt7 H7 n7=>?_;have S7:Qu H4 H7:=(s5.trans s6).trans n7.same;refine q t7 H7 (U4.trans S7.b) (O4.trans (S7.o (P:=Pb)).two1) (hL4.same S7) (hL34.same S7) (.inr ⟨D',_,n7.at_,⟨ts,n7.same _ _ d6,by simp [Jr,lts],λj t r a b=>?_⟩,Qaj hx pb ca.good hd cb2 iz jb⟩);have hj:j < aj.length:=by rw [<- lts]; exact (N8.mp a).1
  obtain ⟨c,c1,c2⟩:=pts j t a;have er:Pd [] [] st2.2 j=r:=by simpa [Jr,hj] using b
  rw [<- er];exact ⟨c,n7.same _ _ c1,(c2.same s6).same n7.same⟩
 ·have jb:((range aj.length).map (hF st2.1)).sum<=wsum (wF aj) way - ao:=by refine Int.not_lt.mp λz=>e (P0 z)
  have gr5:=gr4.bf s5.b;have ca5:=ca.tc.same s5;have aim5:=aim4.same s5;have hask:∀ S,-(10 ^ 150) < wsum (wF aj) way - ao - Vn aj.length (λi=>st.1.getD i 0) (hF st2.1) S/\wsum (wF aj) way - ao - Vn aj.length (λi=>st.1.getD i 0) (hF st2.1) S < 10 ^ 150:=λS=>by
   have h:=Nk (B:=10 ^ 100) (l:=(range aj.length).map λi=>if i∈S then st.1.getD i 0 else hF st2.1 i) λz hz=>by
    obtain ⟨i,_,rfl⟩:=O8.mp hz
    by_cases hm:i∈S
    ·rw [if_pos hm];have:=gb i;lia
    ·rw [if_neg hm];have:=hb i;lia
   rw [length_map,length_range] at h;have h2:(aj.length:Int) * 10 ^ 100<=10 * 10 ^ 100:=U8 (by lia) (by decide);unfold Vn;dsimp only;lia
  symm;refine ixU gr5.tup rfl ?_;symm;refine ixU (s5 _ _ ca.tup) rfl ?_;symm;refine ⟨xa,tl,tl2,ak,aj,ao,way,st.1,st2.1,rfl,aim5,aok,gr5.tc.g,gr5.ok.l1,ca5.g,hd.l1,iz,l0,hL34.same s5,hask,jb,λsl L H6 s6 so6 hL6 hsl hk lL=>?_⟩;have lo:=Oc aok hd iz hk;have hLT6:Qe H6 Pb Zy "best_room.<locals>.<lambda>" := (hL4.same s5).o (hL34.same s5).tbl Z.a46.symm so6;symm;refine ⟨xa,fr,he,sl,tl,cl,tl2,cl2,ak,aj,ao,way,aq,st,st2,L,rfl,aim5.bf s6,aok,gr5.bf s6,s6.to _ _ (s5 _ _ ca.tup) rfl,ca5.bf s6,hd.l1,hd.l2,hsl,lo.some_,lo.kept.pos,lL,l0,hx,gb,hb,λt tp rl pl rows H7 s7 e1 e2 e3 e4 e5=>?_⟩;exact q t H7 ((U4.trans s5.b).trans (s6.trans s7.b)) (O4.trans ((s5.o (P:=Pb)).two1.trans (so6.two2.trans (s7.o (P:=Pb)).two1))) (hLT6.same s7) (hL6.same s7) (.inl ⟨tp,rl,pl,_,_,_,e1,e3,e4,e5,Qm6 aok f9 fj HG.b1 hx pb gr4.good gr4.ok gr4.nn gr4.cl_ cb ca.good hd cb2 lo e2⟩)
def Nb:Def P w K mg base 1 "_law_whole" [Y23] Qb4:=by refine Z.a48.mq [Y23] λH vs Q E hr nD h=>?_;obtain ⟨i,rfl,q⟩:=h;refine ⟨_,(Qh (Qaq (Zj K Z.T.u3 (Qq (pv 0) (Qq (Jk (v:=.ty "int") rfl Z.T.u4 Tj rfl) Qz))) (Qa6 (Qa7 (Zj K Z.T.u3 (Qq (pv 0) (Qq (Jk (v:=.ty "bool") rfl Z.T.u5 Qq3 rfl) Qz))))))),?_⟩;symm;refine ⟨_,_,_,true,rfl,.int _,Yb _ _,_,rfl,Qej ?_⟩;symm;refine ⟨_,_,_,false,rfl,.int _,Qaw _,_,rfl,?_⟩;exact q
theorem Qe8:Def P w K mg base 1 "paid" [Y2,Y8,Y29] (Qc3 K):=by
 refine Z.a49.mq [Y2,Y8,Y29] λH vs Q E hr nD h=>?_;obtain ⟨v,a,t,parts,rows,way,rfl,⟨r,h1,h2⟩,hS,hl,hin,q⟩:=h;refine ⟨_,(Qh (Xz [Y20,Y29] [none,some 2] (Wn K (pv 1)) (Qb K (Qb K (pv 1) Qx) (pv 0)))),?_⟩;refine ⟨_,rfl,a,rfl,⟨_,hS⟩,λD hD=>?_⟩;refine Ko way (λr=>rows.getD r.toNat 0) hS sml hD (λz hz H1 N s1 hN=>?_) λH1 s1 d1=>?_
 ·obtain ⟨b1,b2⟩:=hin z hz;have g:(rows.map V.int)[z.toNat]? = some (.int (rows.getD z.toNat 0)):=by
   have:z.toNat < rows.length:=by lia
   simp [this]
  refine ⟨_,rfl,?_⟩;refine ixU (s1 _ _ h1) rfl ?_;refine ⟨_,rfl,?_⟩;exact ixL (SqL.of (s1 _ _ h2)) (Qs z.toNat (by lia) g) hN
 ·exact q D H1 ⟨s1,hD,d1⟩
theorem Es:Def P w K mg base 2 "shares" [Y2,Y8,Y29] (Qvk K CH):=by
 refine Z.a50.mq [Y2,Y8,Y29,Y37] λH vs Q E hr nD h=>?_;obtain ⟨p,a,t,ak,aj,ao,parts,rows,way,rfl,hA,hP,hS,fu,hl,hpb,gm,hin,q⟩:=h;refine ⟨_,(zcF (zcC (Qg 3 nD (Qd (Qe8 Z) hr (Qq (pv 0) (Qq (pv 1) (Qq (pv 2) Qz))))) (zcL (Qh (Xz [Y7,Y37,Y2,Y29,Y8] [none,some 3,some 0,some 2,some 1] (Zo Z.T.u1 (Qq (Zz (Yf Z) Z.HC.cl (pv 0) (hr.mono (by decide))) Qz)) (Qk Zh (Qk Qr (Qb K (pv 3) Qx) (Qb K (Qb K (Yy K (pv 2)) (pv 0)) (Qb K (pv 4) (pv 0)))) (Qb K (pv 1) (pv 0)))))))),?_⟩;nofun;refine ⟨_,rfl,_,rfl,_,rfl,_,a,t,parts,rows,way,rfl,hP,hS,by lia,hin,λc H1 n1=>?_⟩;have hA1:=hA.same n1.same;obtain ⟨r,hp1,hp2⟩:=hP.same n1.same;obtain ⟨dx,b,w,h1,h2,h3⟩:=hA1.ex;obtain ⟨ws,hw,hR⟩:=id h3;nofun;refine ⟨_,rfl,p,dx,_,rfl,h1,Us _ _ _,p,ak,aj,ao,rfl,hA1,?_⟩;refine ⟨_,rfl,by lia,by lia,λD hD=>?_⟩;refine Yv (λi y _=>y=.int (parts * (aj.getD i []).getD (way.getD i 0).toNat 0 - rows.getD (way.getD i 0).toNat 0)) sml hD (λ_ _ _ _ _ h=>h) ?_ ?_
 ·rintro i H2 ys N hi s2 d2 hN;have hi':i < aj.length:=by lia
  have hi2:i < way.length:=by lia
  have hrow':aj[i]? = some aj[i]:=by simp [hi']
  obtain ⟨ra,g1,g2,g3⟩:=hR.at_ hrow';have g4:(way.map V.int)[i]? = some (.int way[i]):=by simp [hi2]
  obtain ⟨b1,b2⟩:=hin _ (N7 hi2);obtain ⟨b3,b4⟩:=gm _ (N7 hi');have hlt:way[i].toNat < aj[i].length:=by lia
  have g5:(aj[i].map V.int)[way[i].toNat]? = some (.int (aj[i][way[i].toNat])):=by simp [hlt]
  have b5:=b4 _ (N7 hlt);have g6:((Qdz way rows).map V.int)[i]? = some (.int (rows.getD way[i].toNat 0)):=by simp [Qdz,hi2]
  refine ⟨_,rfl,?_⟩;refine ixU (s2 _ _ hp1) rfl ?_;refine ⟨_,rfl,p,CH,dx,_,_,rfl,s2 _ _ h1,Z.HC.cl,Z.HC.nW,Yo _ _ _,_,rfl,?_⟩;refine ixL (SqL.of (s2 _ _ hw)) (Qs i (by lia) g2) ?_;refine ⟨_,rfl,_,rfl,?_⟩;refine ixL (s2.seq (n1.same.seq hS)) (Qs i (by lia) g4) ?_;refine ixL (SqL.of (s2 _ _ g3)) (Qs way[i].toNat (by lia) g5) ?_;refine ⟨_,_,rfl,rfl,⟨hpb,b5⟩,?_⟩;refine ⟨_,rfl,_,rfl,?_⟩;refine ixL (SqL.of (s2 _ _ n1.at_)) (Qs i (by lia) g6) ?_;refine ⟨_,_,rfl,rfl,?_⟩;refine hN _ _ (Qu.refl _) ?_;simp [hi',hi2,hlt]
 ·rintro ys H2 s2 d2 l2 r2;have e:ys=(Wq aj way parts rows).map V.int:=Ww (by rw [l2]; simp [Wq]) λi y e=>by
   have hi:i < aj.length:=by have:=(N8.mp e).1; lia
   exact ⟨_,by unfold Wq; rw [getElem?_map,getElem?_range hi]; rfl,r2 i y e⟩
  rw [e] at d2;exact q D H2 ⟨n1.same.trans s2,n1.same.free hD,d2⟩
theorem Qq8:Def P w K mg base 11 "share_out" [Y2,"word"] (Lm CH Pa Pb Pc Xa Zy Zc):=by
 refine Z.a54.mq [Y2,"word",Y8,Y5,"told"] λH vs Q E hr nD h=>?_;obtain ⟨x,ak,aj,ao,rfl,hA4,ok,hL4,q⟩:=h;refine ⟨_,(zcF (zcC (Qg 2 nD (Qd (Qd0 Z) hr (Qq (pv 0) Qz))) (zcC (Qg 3 nD (Nj (Kf (q_t Jb (pv 1) Yd) (Qz5 (Np (CH:=CH) Z.T Z.b7.a Z.a80) Z.b7.mks Z.b7.kp Z.b7.mgC (hr.mono (by decide)) rfl (Qq (pv 0) (Qq (pv 2) Qz))) (Qz5 (Np (CH:=CH) Z.T Z.a53.a Z.a81) Z.a53.mks Z.a53.kp Z.a53.mgC (hr.mono (by decide)) rfl (Qq (pv 0) (Qq (pv 2) Qz)))))) (zcC (Qg 4 nD (Qd (Eo Z) hr (Qq (pv 3) Qz))) (zcL (Qh (Zp (Qq (pv 2) (Qq (Qb K (pv 4) Qx) (Qq (Qb K (pv 4) Qx) Qz)))))))))),?_⟩;have hb0':∀ b∈ak,0<=b:=λb hb=>by have:=ok.b1 b hb; lia
 nofun;refine ⟨_,rfl,x,ak,aj,ao,rfl,hA4,ok.bok,ok.w3,hb0',hL4.1,λwy way H5 s5 so5 f5 h5 hL5 ln fit opt=>?_⟩;have qb:Qe H5 Pb Zy "best_room.<locals>.<lambda>" := hL4.2.1.o hL4.1.tbl Z.a51 so5;have hL35:Qe H5 Pc Zc "loose_ones.<locals>.<lambda>" := hL4.2.2.o hL4.1.tbl Z.a52 so5;have aok:Qn ak aj way:=⟨ok.bok,ln,Jt fit⟩
 have hA5:=hA4.bf s5;nofun;refine ⟨λv H' => ∃ xa dxa wa,v=.ref xa/\H' xa=some (.ins au dxa (Da x wa))/\H' wa=some (.lst ((wI way).map V.int))/\Qu H5 H',?_,?_⟩
 ·symm;refine λxa da nxa nda nea=>?_;have sa:Qu H5 (upd (upd H5 da (.own xa)) xa (.ins au da [])):=λc o e=>by rw [Qv (Qj e nxa),Qv (Qj e nda)];exact e
  refine ⟨xa,da,x,wy,ak,aj,ao,way,rfl,Qy,hA5.same sa,sa _ _ h5,λwa H10 f10 p10 w10 kp10=>⟨rfl,?_⟩⟩;exact ⟨xa,da,wa,rfl,p10,w10,λc o e=>kp10 c o (sa _ _ e) (Qj e nxa)⟩
 intro v H10 q9; obtain ⟨xa,dxa,wa,rfl,p10,w10,S10⟩:=q9;have aim10:Xd CH au H10 xa ak aj ao way:=⟨dxa,x,wa,p10,hA5.same S10,w10⟩
 symm;refine ⟨xa,ak,aj,ao,way,rfl,aim10,aok,fit,opt,qb.same S10,ok.w1,ok.x,λt0 tp rl cl aq st rows H11 s11 so11 hL11 f2 frl nrc ff g=>?_⟩;have hL11':Qe H11 Pa Xa "bring_in.<locals>.<lambda>" := (hL5.same S10).o (qb.same S10).tbl Z.a51.symm so11;have hL311:Qe H11 Pc Zc "loose_ones.<locals>.<lambda>" := (hL35.same S10).o (qb.same S10).tbl Z.a46 so11;symm;refine ixU g.tup rfl ?_;symm;refine ixU g.tup rfl ?_;symm;refine λt H12 n12=>?_;have S12:Qc H10 H12:=s11.trans n12.same.b;exact q t wy t0 tp rl cl way aq st rows H12 (s5.trans (S10.b.trans S12)) ⟨hL11'.same n12.same,hL11.same n12.same,hL311.same n12.same⟩ n12.at_ (S12.to _ _ (S10 _ _ h5) rfl) aok fit opt ⟨n12.same _ _ g.tup,n12.same _ _ g.pr,n12.same _ _ g.rl_,g.isr,g.chs.same n12.same,g.good,g.ok,g.nn,g.cl_,g.cb⟩
theorem Qn1:Def P w K mg base 12 "level_rooms" [Y2] (Qw4 CH Pa Pb Pc Xa Zy Zc):=by
 refine Z.a55.mq [Y2,"told",Y27,"rows","had",Y35,Y7,Y38] λH vs Q E hr nD h=>?_;obtain ⟨x,ak,aj,ao,rfl,hA,ok,hL,hre,q⟩:=h;refine ⟨_,(zcF (zcC (Qg 1 nD (Qd (Qq8 Z) hr (Qq (pv 0) (Qq Yd Qz)))) (zcC (Qg 2 nD (Qb K (Qb K (pv 1) Qx) Qx)) (zcC (Qg 3 nD (Qb K (Qb K (pv 1) Qx) Qx)) (zcC (Qg 4 nD (Qd (Es Z) hr (Qq (pv 0) (Qq (Qb K (pv 1) Qx) (Qq (Qb K (pv 1) Qx) Qz))))) (zcC (Qg 5 nD (Zq Qz)) (zcL (Qw (Xr (Zo Z.T.u1 (Qq (Zz (Yf Z) Z.HC.cl (pv 0) (hr.mono (by decide))) Qz)) (Ql 6 nD) (zcF (zcC (Qg 7 nD (Qb K (Yy K (pv 0)) (pv 6))) (zc1 (Xt (Tf K (pv 5) (Qq (Tt [Y20,"had",Y27,Y7,"rows",Y38] [none,some 4,some 2,some 6,some 3,some 7] (Zo Z.T.u1 (Qq (Zz (Vk Z) Z.HC.cl (pv 0) (hr.mono (by decide))) Qz)) (q_t Jb (Qk Zh (Qk Qr (pv 2) (Qb K (pv 5) (pv 0))) (Qb K (pv 4) (pv 0))) (Qb K (pv 1) (pv 3))) (pv 0)) Qz))))))) (Qh (pv 5)))))))))),?_⟩;have lw:=ok.bok.w1;have lb:=ok.bok.b1;have l0:=ok.w1;symm;refine ⟨x,ak,aj,ao,rfl,hA,ok,hL,λt wy t0 tp rl cl way aq st rows H1 s1 la1 ht hwy aok fit opt g=>?_⟩;have low:=g.low l0;have ig:Told true ak aj ao rows:=⟨way,_,g.r.best aok fit opt ok.b1 l0⟩
 have fair0:=ig.fair aok fit opt;have hpr:=g.pr;have hrl:=g.rl_;have lrows:=g.isr.1;have fpok:=Qh1 aok fit lrows ok.x hre l0 low;generalize hR:(rows.map λz=>z / ((bw aj.length rows:Nat):Int))=R at *;generalize hk0:(aj.length:Int) / ((bw aj.length rows:Nat):Int)=k at *;have kb:=Cy low (by lia) (by lia);have lR:R.length=ak.length:=by rw [low.len,lrows]
 have ln:=aok.len;have hA1:=hA.bf s1;symm;refine ixU ht rfl ?_;symm;refine ixU hpr rfl ?_;symm;refine ixU ht rfl ?_;symm;refine ixU hpr rfl ?_;symm;refine ixU ht rfl ?_;symm;refine ixU ht rfl ?_;refine ⟨x,wy,tp,ak,aj,ao,k,R,wI way,rfl,hA1,⟨rl,hpr,hrl⟩,SqL.of hwy,by simp [wI]; lia,by lia,by lia,λrow hr=>⟨by have:=ok.bok.rows row hr; lia,λz hz=>by have:=ok.x row hr z hz; lia⟩,Qs1 fit lR,λhd H2 n2=>?_⟩;have hA2:=hA1.same n2.same;have hrl2:=n2.same _ _ hrl;obtain ⟨dx,b,wm,h1,h2,h3⟩:=hA2.ex;obtain ⟨ws,hw,hRm⟩:=id h3;symm;refine λlv H3 n3=>?_;nofun;refine ⟨_,rfl,x,dx,_,rfl,n3.same _ _ h1,Us _ _ _,x,ak,aj,ao,rfl,hA2.same n3.same,?_⟩;walk_at "r";refine Zu (λi σ H'=>(∃ o6 o7:Option V,σ=[rf x,rf t,iv k,rf rl,rf hd,rf lv,o6,o7])/\(∃ ls:K9,H' lv=some (.lst (ls.map V.ref))/\ls.length=i/\∀ (j:Nat) a,ls[j]? = some a->H' a=some (.lst ((((range ak.length).filter (Fu (aj.length:Int) ak.length aj rows j)).map λ(r:Nat)=>(r:Int)).map V.int)))/\(∀ c o,H2 c=some o->H' c=some o)/\(∀ c,H' c=none->H2 c=none)) ⟨⟨_,_,rfl⟩,⟨[],n3.at_,rfl,λj a z=>by simp at z⟩,n3.same,λc e=>n3.same.free e⟩ ?_ ?_
 ·nofun;intro i σ H4 hi q9; obtain ⟨⟨o6,o7,rfl⟩,⟨ls,e1,e2,e3⟩,k4,f4⟩:=q9;obtain ⟨ra,r1,r2,r3⟩:=hRm.at_ (show aj[i]? = some aj[i] by simp [hi]);have gm:=ok.bok.rows _ (N7 hi);have hsh:=Qwk (F:=⟨ak,aj,ao,way,k,R⟩) fpok hi;nofun;rw [Int.zero_add];refine ⟨_,rfl,x,CH,dx,_,_,rfl,k4 _ _ h1,Z.HC.cl,Z.HC.nW,Yo _ _ _,_,rfl,?_⟩;refine ixW i (k4 _ _ hw) r2 ?_;nofun;refine ⟨_,rfl,.inl ⟨rfl,_,SqL.of e1⟩,?_⟩;refine ⟨_,rfl,x,dx,_,rfl,k4 _ _ h1,Us _ _ _,x,ak,aj,ao,rfl,hA2.same k4,?_⟩;walk_at "d";refine Jz (Fu (aj.length:Int) ak.length aj rows i) (λ(r:Nat)=>.int r) sml hD ?_ ?_ ?_
  ·rintro r H5 N hr s5 hN;have g5:(aj[i].map V.int)[r]? = some (.int (wF aj i r)):=by simp [wF,getD,hi,show r < aj[i].length by lia]
   have g6:(R.map V.int)[r]? = some (.int (R.getD r 0)):=by simp [getD,show r < R.length by lia]
   have wb:=Qz2 ok.x i r;rw [Int.zero_add];symm;refine ixW r (s5 _ _ (k4 _ _ r3)) g5 ?_;walk_at "m";symm;refine ixW r (s5 _ _ (k4 _ _ hrl2)) g6 ?_;symm;refine ixW i (s5 _ _ (k4 _ _ n2.at_)) hsh ?_;symm;have ez:decide (V.int (k * wF aj i r - R.getD r 0)=V.int (Fp.share ⟨ak,aj,ao,way,k,R⟩ i (way.getD i 0)))=Fu (aj.length:Int) ak.length aj rows i r:=by rw [<- Qr6 aok fair0 low hi hr];simp [Fp.share]
   have:=hN _ (Qu.refl _);rw [<- ez] at this;exact this
  ·rintro r H5 N hr hp s5 hN;symm;have:=hN _ (Qu.refl _);rw [Int.zero_add];exact this
  ·rintro H5 s5 d5;have e15:=s5 _ _ e1;refine ⟨lv,_,_,rfl,rfl,e15,by rw [sizeLine_eq,length_map]; lia,?_⟩;have hDl:D≠lv:=(Qj e1 hD).symm;have d5':H5 D=some (.lst ((((range ak.length).filter (Fu (aj.length:Int) ak.length aj rows i)).map λ(r:Nat)=>(r:Int)).map V.int)):=by rw [d5,map_map]; rfl
   have nlv:∀ c o,H2 c=some o->c≠lv:=λc o e=>Qj e n3.none;nofun;refine ⟨⟨_,_,rfl⟩,⟨ls ++ [D],by rw [Qy]; simp,by simp [e2],λj a' hj=>?_⟩,λc o e=>by rw [Qv (nlv c o e)]; exact s5 _ _ (k4 _ _ e),λc e=>?_⟩
   ·by_cases hjl:j < ls.length
    ·rw [getElem?_append_left hjl] at hj;have h5:=s5 _ _ (e3 j a' hj)
     by_cases ha:a'=lv
     ·exfalso;subst ha;rw [e15] at h5;have h6:=HO.lst.inj (R5 h5);have h7:0 < (ls.map V.ref).length:=by rw [length_map]; lia
      have h8:∀ v∈ls.map V.ref,∃ a,v=V.ref a:=λv hv=>by obtain ⟨y,_,rfl⟩:=O8.mp hv;exact ⟨y,rfl⟩
      obtain ⟨y,hy⟩:=h8 _ (N7 h7);have h9:=N7 (h6 ▸ h7);obtain ⟨zz,_,hzz⟩:=O8.mp h9;have h10:(ls.map V.ref)[0]? = ((((range ak.length).filter (Fu (aj.length:Int) ak.length aj rows j)).map λ(r:Nat)=>(r:Int)).map V.int)[0]?:=by rw [h6]
      rw [getElem?_eq_getElem h7,hy,getElem?_eq_getElem (h6 ▸ h7),<- hzz] at h10;cases h10
     ·rw [Qv ha];exact h5
    ·have hj2:j=ls.length:=by have:=(N8.mp hj).1;simp at this;lia
     subst hj2;simp at hj;subst hj;rw [Qv hDl,e2];exact d5'
   ·by_cases hc:c=lv
    ·rw [hc,Qy] at e; cases e
    ·rw [Qv hc] at e;exact f4 _ (s5.free e)
 ·intro σ H4 q9; obtain ⟨⟨o6,o7,rfl⟩,⟨ls,e1,e2,e3⟩,k4,f4⟩:=q9;symm;have S4:Qu H1 H4:=n2.same.trans k4;refine q lv rows H4 (s1.trans S4.b) (la1.same S4) ig ⟨ls,e1,by rw [Ol,e2],λj a' row hj hrw=>?_⟩;unfold Fo at hrw;rw [getElem?_map] at hrw;have hjl:j < aj.length:=by have:=(N8.mp hj).1; lia
  rw [getElem?_range hjl] at hrw;cases hrw;exact e3 j a' hj
theorem Quz:Def P w K mg base 1 "product" ["numbers"] Il:=by
 refine Z.a56.mq ["numbers","total","number"] λH vs Q E hr nD h=>?_;obtain ⟨l,ks,rfl,hl,lk,hk,q⟩:=h;refine ⟨_,(zcF (zcC (Qg 1 nD Qx) (zcL (Qw (Xr (Wn K (pv 0)) (Ql 2 nD) (Qm (Qg 1 nD (Qk Qr (pv 1) (pv 2))))) (Qh (pv 1)))))),?_⟩;symm;refine ⟨⟨_,SqL.of hl⟩,?_⟩;refine Je (xs:=(wI ks).map V.int) (λi σ H'=>(∃ o2:Option V,σ=[rf l,iv (((ks.take i).foldl (· * ·) 1:Nat):Int),o2])/\H=H') ⟨⟨_,rfl⟩,rfl⟩ (λi σ H' _ h=>h.2 ▸ SqL.of hl) ?_ ?_
 ·nofun;intro i y σ H2 hy q9; obtain ⟨⟨o2,rfl⟩,rfl⟩:=q9;have hi:i < ks.length:=by have:=(N8.mp hy).1;simpa [wI] using this
  have ey:y=.int ((ks.getD i 0:Nat):Int):=by simp [wI,hi] at hy;simp [getD,hi,<- hy]
  subst ey;have hb:=Ql5 (ks:=ks.take i) (λk hk'=>hk k (take_subset _ _ hk')) (by simp; lia);have hb2:ks.getD i 0<=10:=by rw [show ks.getD i 0=ks[i] by simp [getD,hi]];exact hk _ (N7 hi)
  have ep:=Qk3 hi;symm;generalize (ks.take i).foldl (· * ·) 1=t at *;generalize ks.getD i 0=k at *;exact ⟨⟨some (.int (k:Int)),by rw [ep,Int.natCast_mul]; rfl⟩,rfl⟩
 intro σ H2 q9; obtain ⟨⟨o2,rfl⟩,rfl⟩:=q9;rw [Xv,take_length];symm;exact q
theorem Qqx:Def P w K mg base 1 "all_lists" [Y35] Co:=by
 refine Z.a57.mq [Y35,"lists",Y28,"longer","begun"] λH vs Q E hr nD h=>?_;obtain ⟨lv,L,rfl,hM,lL,gm,hsz,q⟩:=h;refine ⟨_,(Qw (Qg 1 nD (Zq (Qq (Zq Qz) Qz))) (Qw (Xr (Wn K (pv 0)) (Ql 2 nD) (Qw (Qg 3 nD (Zq Qz)) (Qw (Xr (Wn K (pv 1)) (Ql 4 nD) (Qm (Xt (Mo (K:=K) rfl A0w PySem.F.slot_list_extend PySem.F.type_list_extend Qkx (pv 3) (Qq (Xz [Y20,"begun"] [none,some 4] (Wn K (pv 2)) (Qk Ke (pv 1) (Zq (Qq (pv 0) Qz)))) Qz))))) (Qm (Qg 1 nD (pv 3)))))) (Qh (pv 1)))),?_⟩;obtain ⟨ws,hw,hR⟩:=id hM;have lw:ws.length=L.length:=by rw [hR.1,length_map]
 symm;refine λp0 H1 n1=>?_;refine ⟨Zn (by simp),λpk H2 n2=>?_⟩;have S2:Qu H H2:=n1.same.trans n2.same;symm;refine ⟨⟨_,SqL.of (S2 _ _ hw)⟩,?_⟩;refine L2.Tq (xs:=ws.map V.ref) (λn σ H' => ∃ (pk:G5) (o2 o3 o4:Option V),σ=[rf lv,rf pk,o2,o3,o4]/\Qu H H'/\H pk=none/\Zx0 H H' pk ((Wt (L.take n)).map wI)) ⟨pk,none,none,none,rfl,S2,n1.same.free n2.none,[p0],n2.at_,⟨rfl,λi a row z1 z2=>?_⟩,λa ha=>?_⟩ (λi σ H' _ ⟨_,_,_,_,_,h,_⟩=>SqL.of (h _ _ hw)) ?_ ?_
 ·have hi:i=0:=by have:=(N8.mp z1).1; simp at this; lia
  subst hi;simp at z1;simp [Wt,wI] at z2;subst z1 z2;exact n2.same _ _ n1.at_
 ·have:a=p0:=by simpa using ha
  rw [this];exact n1.none
 ·intro n y σ H3 hy q9; obtain ⟨pk,o2,o3,o4,rfl,s3,fpk,hM3⟩:=q9;obtain ⟨ra,hra,rfl⟩:=Ju hy;have hn:n < L.length:=by rw [<- lw]; exact (N8.mp hra).1
  have hrv:H ra=some (.lst ((wI L[n]).map V.int)):=hR.2 n ra _ hra (by simp [hn]);have hrl:=gm _ (N7 hn);have htn:L.take (n + 1)=L.take n ++ [L[n]]:=by rw [take_succ]; simp [hn]
  have hz1:=hsz n;have hz2:=hsz (n + 1);rw [htn,Pj,Uu] at hz2;rw [htn,Pj];generalize L[n]=gk at *;have hvl:∀ v∈Wt (L.take n),v.length<=10:=λv hv=>by have:=Qk4 hv; rw [length_take] at this; lia
  generalize Wt (L.take n)=al at *;obtain ⟨ps,hp3,hR3,fp3⟩:=id hM3;have hpl:ps.length=al.length:=by rw [hR3.1,length_map]
  symm;refine λl4 H4 n4=>?_;have hp4:=n4.same _ _ hp3;have S4:Qu H H4:=s3.trans n4.same;have npl:pk≠l4:=Qj hp3 n4.none;symm;refine ⟨⟨_,SqL.of hp4⟩,?_⟩;refine L2.Tq (xs:=ps.map V.ref) (λj σ H' => ∃ (o4:Option V) (qs:K9),σ=[rf lv,rf pk,rf ra,rf l4,o4]/\Qu H3 H'/\H' l4=some (.lst (qs.map V.ref))/\Rows H' qs (((al.take j).flatMap (Qg4 gk)).map wI)/\∀ a∈qs,H3 a=none/\a≠l4)
   ⟨_,[],rfl,n4.same,n4.at_,⟨rfl,λi a row z=>by simp at z⟩,λa ha=>by cases ha⟩ (λi σ H' _ ⟨_,_,_,h,_⟩=>SqL.of (h _ _ hp3)) ?_ ?_
  ·intro j y σ H5 hy q9; obtain ⟨o4',qs,rfl,s5,hq5,hR5,fq5⟩:=q9;obtain ⟨pa,hpa,rfl⟩:=Ju hy;have hj:j < al.length:=by rw [<- hpl]; exact (N8.mp hpa).1
   have hv:al[j]? = some al[j]:=by simp [hj]
   have hpv:H5 pa=some (.lst ((wI al[j]).map V.int)):=s5 _ _ (hR3.2 j pa _ hpa (by rw [getElem?_map,hv]; rfl));have htk:al.take (j + 1)=al.take j ++ [al[j]]:=by rw [take_succ,hv]; rfl
   have hfl:=Uu gk (al.take j);rw [length_take,Nat.min_eq_left (by lia)] at hfl;have hfl2:j * gk.length<=1000:=R4 (Nat.mul_le_mul_right _ (by lia)) hz2;have hv10:=hvl _ (N7 hj);generalize al[j]=v at *;have hra5:=s5 _ _ (s3 _ _ hrv);symm;refine ⟨.inl ⟨rfl,_,SqL.of hq5⟩,?_⟩;symm;refine ⟨⟨_,SqL.of hra5⟩,λD hD=>?_⟩;refine Xe (λi y H => ∃ l,y=.ref l/\l≠D/\H5 l=none/\∀ r,gk[i]? = some r->H l=some (.lst ((wI (v ++ [r])).map V.int))) (SqL.of hra5) (by rw [sizeLine_eq,Xv]; lia) hD (λi y H H' k ⟨l,e,ne,nn,h⟩=>⟨l,e,ne,nn,λr hr=>k l _ ne (h r hr)⟩) ?_ ?_
   ·rintro i y H6 ys N hx s6 d6 hN;have hi:i < gk.length:=by have:=(N8.mp hx).1;simpa [wI] using this
    have ey:y=.int ((gk[i]:Nat):Int):=by simp [wI,hi] at hx;exact hx.symm
    subst ey;symm;refine λt7 H7 n7=>?_;refine ⟨pa,t7,_,_,rfl,rfl,n7.same _ _ (s6 _ _ hpv),n7.at_,by rw [sizeLine_eq,Xv]; simp; lia,λc8 H8 n8=>?_⟩;refine hN _ _ (n7.same.trans n8.same) ⟨c8,rfl,(Qj (n7.same _ _ d6) n8.none).symm,s6.free (n7.same.free n8.none),λr hr=>?_⟩;rw [n8.at_];simp [hi] at hr;simp [wI,hr]
   ·rintro ys H6 s6 d6 ly r6;obtain ⟨es,ees,pes⟩:=Wj (P:=λi l=>H5 l=none/\∀ r,gk[i]? = some r->H6 l=some (.lst ((wI (v ++ [r])).map V.int))) (λi y e=>by obtain ⟨l,h1,_,h3,h4⟩:=r6 i y e;exact ⟨l,h1,h3,h4⟩)
    subst ees;have hel:es.length=gk.length:=by rw [length_map,Xv] at ly;exact ly
    refine ⟨l4,D,_,_,rfl,rfl,s6 _ _ hq5,d6,?_,?_⟩
    ·rw [sizeLine_eq,length_map,length_map,hR5.1,length_map,hfl];lia
    have fes:∀ a∈es,H5 a=none:=λa ha=>by obtain ⟨i,hi,rfl⟩:=getElem_of_mem ha;exact (pes i _ (R7 hi)).1
    refine ⟨_,qs ++ es,rfl,λc o e=>?_,?_,?_,λa ha=>?_⟩
    ·rw [Qv (Qj e n4.none)];exact s6 _ _ (s5 _ _ e)
    ·rw [Qy];simp
    ·rw [htk,flatMap_append,map_append];refine Rows.app ⟨hR5.1,λi a row h1 h2=>?_⟩ ⟨by simp [hel,Qg4],λi a row z1 z2=>?_⟩
     ·rw [Qv (fq5 a (mem_of_getElem? h1)).2];exact s6 _ _ (hR5.2 i a row h1 h2)
     ·have hi:i < es.length:=(N8.mp z1).1;have hi2:i < gk.length:=by lia
      rw [Qv (Qj hq5 (fes a (mem_of_getElem? z1))).symm];rw [(pes i a z1).2 _ (getElem?_eq_getElem hi2)];rw [flatMap_singleton] at z2;unfold Qg4 at z2;rw [getElem?_map,getElem?_map,getElem?_eq_getElem hi2] at z2;have z3:=R5 z2;rw [<- z3]
    ·rcases O6.mp ha with z | z
     ·exact fq5 a z
     ·exact ⟨s5.free (fes a z),(Qj hq5 (fes a z)).symm⟩
  ·intro σ H5 q9; obtain ⟨o4',qs,rfl,s5,hq5,hR5,fq5⟩:=q9;rw [length_map,hpl,take_length] at hR5;symm;exact ⟨l4,_,_,_,rfl,s3.trans s5,s3.free n4.none,qs,hq5,hR5,λa ha=>s3.free (fq5 a ha).1⟩
 intro σ H3 q9; obtain ⟨pk,o2,o3,o4,rfl,s3,fpk,hM3⟩:=q9;rw [length_map,lw,take_length] at hM3;symm;exact q pk H3 s3 fpk hM3
theorem Qn2:Def P w K mg base 3 "is_way" [Y2,Y8] (Qbv K CH):=by
 refine Z.a58.mq [Y2,Y8,"counts"] λH vs Q E hr nD h=>?_;obtain ⟨p,a,ak,aj,ao,row,rfl,hA,lb,lr,hS,q⟩:=h;refine ⟨_,(zcF (zcC (Qa (q_t Jj (Zk K Z.T.u0 (Qq (pv 1) Qz)) (Zz (Yf Z) Z.HC.cl (pv 0) (hr.mono (by decide)))) (Qh Yc) Qp) (zcC (Qa (Xb (Xg (Qt (Gc (K:=K) rfl rfl) (by rfl) Z.T.u11 Gn (Qq (Xz [Y20,Y2] [none,some 0] (Wn K (pv 1)) (Qf0 Hi Rb Qx (pv 0) (Zz (Vk Z) Z.HC.cl (pv 1) (hr.mono (by decide))))) Qz)))) (Qh Yc) Qp) (zcC (Qg 2 nD (Qd (Qv5 Z) hr (Qq (pv 0) (Qq (pv 1) Qz)))) (zcL (Qh (Qt (Gc (K:=K) rfl rfl) (by rfl) Z.T.u11 Gn (Qq (Xz [Y20,"counts",Y2] [none,some 2,some 0] (Zo Z.T.u1 (Qq (Zz (Vk Z) Z.HC.cl (pv 0) (hr.mono (by decide))) Qz)) (Jw Hi (Qb K (pv 1) (pv 0)) (Qb K (Yy K (pv 2)) (pv 0)) (Vl _))) Qz)))))))),?_⟩;obtain ⟨dx,b,w,h1,h2,h3⟩:=hA.ex;symm;refine ⟨a,_,rfl,.inl hS,?_⟩;refine ⟨_,rfl,p,dx,_,rfl,h1,Us _ _ _,p,ak,aj,ao,rfl,hA,?_⟩;refine ⟨rfl,_,rfl,?_⟩;refine Kz (λe=>?_) (λe=>?_)
 ·symm;have hne:row.length≠aj.length:=λz=>by rw [length_map,z] at e;simp at e
  have:Rf ak aj.length row=false:=by unfold Rf;rw [decide_eq_false hne];rfl
  rw [<- this];exact q _ (Qu.refl _)
 have hl:row.length=aj.length:=by rw [length_map] at e;simp at e;lia
 symm;refine ⟨⟨_,hS⟩,λD hD=>?_⟩;refine Kr row (λr=>.bl (decide (0<=r/\r < (ak.length:Int)))) hS sml hD (λr hr H1 N s1 hN=>?_) λH1 s1 d1=>?_
 ·symm;refine Kz (λe=>?_) (λe=>?_)
  ·have e':0<=r:=Q6 e;refine ⟨_,rfl,p,dx,_,rfl,s1 _ _ h1,Us _ _ _,p,ak,aj,ao,rfl,hA.same s1,?_⟩;symm;have:decide (r < (ak.length:Int))=decide (0<=r/\r < (ak.length:Int)):=by simp [e']
   show N (.bl (decide (r < (ak.length:Int)))) H1;rw [this];exact hN _ (Qu.refl _)
  ·have e':¬ 0<=r:=λz=>e (P0 z);have:decide (0<=r/\r < (ak.length:Int))=false:=by simp [e']
   rw [<- this];exact hN _ (Qu.refl _)
 refine ⟨D,row.map λr=>decide (0<=r/\r < (ak.length:Int)),rfl,SqL.of (by rw [d1,map_map]; rfl),?_⟩;symm;refine Kz (λe=>?_) (λe=>?_)
 ·symm;have:Rf ak aj.length row=false:=by
   unfold Rf;have e2:row.all (λr=>decide (0<=r/\r < (ak.length:Int)))=false:=by simpa [all_map] using e
   rw [e2];simp
  rw [<- this];exact q _ s1
 have iz:row.all (λr=>decide (0<=r/\r < (ak.length:Int)))=true:=by simpa [all_map] using e
 have hA1:=hA.same s1;nofun;refine ⟨_,rfl,_,rfl,p,a,ak,aj,ao,row,rfl,hA1,lb,s1.seq hS,λl H2 n2=>?_⟩;have hA2:=hA1.same n2.same;have h12:=n2.same _ _ (s1 _ _ h1);have h22:=n2.same _ _ (s1 _ _ h2);nofun;refine ⟨_,rfl,p,dx,_,rfl,h12,Us _ _ _,p,ak,aj,ao,rfl,hA2,?_⟩;refine ⟨_,rfl,by lia,by lia,λD2 hD2=>?_⟩;rw [Int.toNat_natCast];refine Xx (λr=>.bl (decide (((row.count (r:Int):Nat):Int)<=ak.getD r 0))) sml hD2 (λi hi H3 N s3 hN=>?_) λH3 s3 d3=>?_
 ·have g1:((Pt ak.length row).map V.int)[i]? = some (.int ((row.count (i:Int):Nat):Int)):=by simp [Pt,hi]
  have g2:(ak.map V.int)[i]? = some (.int (ak.getD i 0)):=by simp [hi]
  symm;refine ixL (SqL.of (s3 _ _ n2.at_)) (Qs i (by lia) g1) ?_;refine ⟨_,rfl,p,CH,dx,_,_,rfl,s3 _ _ h12,Z.HC.cl,Z.HC.nB,Cu _ _ _,_,rfl,?_⟩;refine ixL (SqL.of (s3 _ _ h22)) (Qs i (by lia) g2) ?_;symm;exact hN _ (Qu.refl _)
 ·refine ⟨D2,(range ak.length).map λ(r:Nat)=>decide (((row.count (r:Int):Nat):Int)<=ak.getD r 0),rfl,SqL.of (by rw [d3,map_map]; rfl),?_⟩;have:Rf ak aj.length row=((range ak.length).map λ(r:Nat)=>decide (((row.count (r:Int):Nat):Int)<=ak.getD r 0)).all id:=by unfold Rf;rw [iz,decide_eq_true hl,all_map];rfl
  rw [<- this];exact q _ ((s1.trans n2.same).trans s3)
theorem Lf:Qnk P w K mg base 13 "all_ways" [Y2] (Ce CH eM Pa Pb Pc Xa Zy Zc):=by
 refine Z.a60.mkX Vh (λvs H Q E h=>?_) (λ_ _ _ _ _ _ us hl=>match us,hl with | [_],_=>rfl) (λf cdv A outer s H vs Q E hr h=>?_)
 ·obtain ⟨x,ak,aj,ao,rfl,_⟩:=h;rfl
 ·obtain ⟨x,ak,aj,ao,rfl,hA,HG,hL,hre,q⟩:=h;refine ⟨_,(Qw (PS.nox (Qg 1 Vh.nd (Qd (Qn1 Z) hr (Qq (pv 0) Qz)))) (Qw (Qa (PT.nox (q_t Kx (Qd (Quz Z) hr (Qq (Xz [Y28] [none] (Wn K (pv 1)) (Zk K Z.T.u0 (Qq (pv 0) Qz))) Qz)) (Qlj rfl Z.T.u17))) (Qm (Qp8 Im rfl rfl Z.HE.mTooMany Z.HE.ok.ex (Qq Yd Qz))) Qp) (PSs.nox (Qw (Cj (i:=2) Vh.nd rfl (Or.inl rfl) [Y28,Y2] [none,some 0] rfl rfl rfl (Wn K (Qd (Qqx Z) hr (Qq (pv 1) Qz))) (λ_ _ _ _=>(Ts (i:=0) (by decide +kernel:([Y28,Y2]:List PySem.Str).Nodup) rfl (Or.inl rfl))) (λ_ _ _ _=>(Nt (Xg (Qd (Qn2 Z) hr (Qq (pv 1) (Qq (pv 0) Qz)))))) (λ_ _ _ _=>(pv 0))) (Qw (Qg 3 Vh.nd (Qt (Qu4 (K:=K) rfl rfl) (by rfl) Z.T.u9 Gr (Qq (Xz [Y8,Y2] [none,some 0] (Wn K (pv 2)) (Qd (Gs Z) hr (Qq (pv 1) (Qq (pv 0) Qz)))) Qz))) (Qh (Tt [Y8,Y2,"most"] [none,some 0,some 3] (Wn K (pv 2)) (q_t Jb (Qd (Gs Z) hr (Qq (pv 1) (Qq (pv 0) Qz))) (pv 2)) (pv 0)))))))),?_⟩;have lb:=HG.bok.b1;have lw:=HG.bok.w1;have hb0:∀ b∈ak,0<=b:=λb hb=>by have:=HG.b1 b hb; lia
  symm;refine ⟨x,ak,aj,ao,rfl,hA,HG,hL,hre,λlv rows H1 s1 hL1 ig hM1=>?_⟩;rw [Qy0] at hM1;have hA1:=hA.bf s1;obtain ⟨way,m,bst⟩:=id ig;have ok:=bst.ok;have fit:=bst.fit;have opt:=bst.opt;have ln:=ok.len;have hlv:∀ v:K7,v.length=aj.length->Fit (bF ak) v->wsum (wF aj) v=wsum (wF aj) way->∀ i,i < aj.length->Fu (aj.length:Int) ak.length aj rows i (v.getD i 0)=true:=λv h1 h2 h3 i hi=>ig.lvl HG.w1 ok fit opt h1 h2 h3 hi;have hq:=λH' a b=>q rows H' a b ig;unfold Iz at hq;have hpl:=Gy ak.length (Fu (aj.length:Int) ak.length aj rows) aj.length;have j4:=Bi (M:=wsum (wF aj) way) hlv;rw [<- Er ln fit opt] at j4;have lLN:(Hn aj.length ak.length (Fu (aj.length:Int) ak.length aj rows)).length=aj.length:=by simp [Hn]
  have gm:∀ row∈Hn aj.length ak.length (Fu (aj.length:Int) ak.length aj rows),row.length<=10:=λrow hr=>by obtain ⟨i,hi,rfl⟩:=O8.mp hr;exact R4 (Z6 _ _) (by simpa using lb)
  have hrow1:∀ row∈Hn aj.length ak.length (Fu (aj.length:Int) ak.length aj rows),1<=row.length:=λrow hr=>by obtain ⟨i,hi,rfl⟩:=O8.mp hr;have hi2:=O1.mp hi;exact Z8 (U3.mpr ⟨O1.mpr (ok.at_ hi2).2,hlv way ln fit rfl i hi2⟩)
  have g8:∀ v∈Wt (Hn aj.length ak.length (Fu (aj.length:Int) ak.length aj rows)),v.length=aj.length/\∀ r∈v,r < ak.length:=λv hv=>by rw [hpl] at hv;exact Kl hv
  have hwin:way∈Wt (Hn aj.length ak.length (Fu (aj.length:Int) ak.length aj rows)):=by rw [hpl,Qj2];refine U3.mpr ⟨Ej ln (Jt fit),?_⟩;unfold Qhj;rw [all_eq_true];exact λi hi=>hlv way ln fit rfl i (by have:=O1.mp hi; lia)
  rw [<- hpl] at j4;generalize Hn aj.length ak.length (Fu (aj.length:Int) ak.length aj rows)=LN at *;obtain ⟨ws,hw,hR⟩:=id hM1;have lws:ws.length=LN.length:=by rw [hR.1,length_map]
  symm;refine ⟨⟨_,SqL.of hw⟩,λD hD=>?_⟩;refine Xe (λj y _=>y=.int (((LN.map List.length).getD j 0:Nat):Int)) (SqL.of hw) (by rw [sizeLine_eq,length_map]; lia) hD (λ_ _ _ _ _ h=>h) ?_ ?_
  ·rintro j y H2 ys N hy s2 d2 hN;obtain ⟨ra,hra,rfl⟩:=Ju hy;have hj:j < LN.length:=by rw [<- lws]; exact (N8.mp hra).1
   have hrv:=s2 _ _ (hR.2 j ra _ hra (by rw [getElem?_map,getElem?_eq_getElem hj]; rfl));symm;refine ⟨ra,_,rfl,.inl (SqL.of hrv),?_⟩;rw [Xv];exact hN _ _ (Qu.refl _) (by simp [getD,hj])
  rintro ys H2 s2 d2 ly r2;have ey:ys=(wI (LN.map List.length)).map V.int:=Ww (by rw [ly]; simp [wI,lws]) λi y e=>by
   have hi:i < LN.length:=by have:=(N8.mp e).1; rw [ly,length_map] at this; lia
   exact ⟨(((LN.map List.length).getD i 0:Nat):Int),by simp [wI,getD,hi],r2 i y e⟩
  subst ey;refine ⟨D,LN.map List.length,rfl,d2,by rw [length_map]; lia,λk hk=>?_,?_⟩
  ·obtain ⟨row,hr,rfl⟩:=O8.mp hk;exact gm row hr
  rw [<- Qy2];symm;have S2:Qc H H2:=s1.trans s2.b
  by_cases hlt:200 < Qqw LN
  ·refine Ya (P0 (by lia)) ?_;exact ⟨by decide,(hq H2 S2 (hL1.same s2)).2 hlt⟩
  refine Vq (T5 (by lia)) ?_;symm;refine ⟨lv,LN,rfl,hM1.same s2,by lia,gm,λj=>?_,λla H3 s3 fla hMF=>?_⟩
  ·rw [Gu];have:=Qy1 hrow1 j;lia
  have hal:(Wt LN).length<=200:=by rw [Gu]; lia
  generalize Wt LN=al at *;obtain ⟨ps,hp3,hR3,fp3⟩:=hMF;have lps:ps.length=al.length:=by rw [hR3.1,length_map]
  have hA3:=(hA1.same s2).same s3;refine ⟨la,rfl,⟨_,SqL.of hp3⟩,λD3 hD3=>?_⟩;refine Wu (λi=>Uz ak (al.getD i [])) (λi=>.ref (ps.getD i la)) (SqL.of hp3) (by rw [sizeLine_eq,length_map]; lia) hD3 ?_ ?_ ?_
  ·rintro i y H4 N hy s4 hN;obtain ⟨pa,hpa,rfl⟩:=Ju hy;have hi:i < al.length:=by rw [<- lps]; exact (N8.mp hpa).1
   obtain ⟨hvl,hvr⟩:=g8 _ (N7 hi);have hpv:=s4 _ _ (hR3.2 i pa _ hpa (by rw [getElem?_map,getElem?_eq_getElem hi]; rfl));rw [getD_get _ _ hi] at hN;generalize al[i]=v at *;symm;refine ⟨x,pa,ak,aj,ao,wI v,rfl,hA3.same s4,by lia,by simp [wI]; lia,SqL.of hpv,λH5 s5=>?_⟩;rw [On hb0 hvl hvr];symm;exact hN _ s5
  ·rintro i y H4 N hy hp s4 hN;obtain ⟨pa,hpa,rfl⟩:=Ju hy;have e:ps.getD i la=pa:=by simp [getD,hpa]
   rw [e] at hN;symm;exact hN _ (Qu.refl _)
  rintro H4 s4 d4;have hRW:=(Bm hR3 (Uz ak) la).same s4;rw [length_map] at d4;have d4':H4 D3=some (.lst ((((range ps.length).filter λi=>Uz ak (al.getD i [])).map λi=>ps.getD i la).map V.ref)):=by rw [d4,map_map]; rfl
  clear d4;generalize ((range ps.length).filter λi=>Uz ak (al.getD i [])).map (λi=>ps.getD i la)=wls at *;have lwls:wls.length=(al.filter (Uz ak)).length:=by rw [hRW.1,length_map]
  have hwl:∀ v∈al.filter (Uz ak),v.length=aj.length/\(∀ r∈v,r < ak.length)/\Fit (bF ak) v:=λv hv=>by obtain ⟨h1,h2⟩:=U3.mp hv;exact ⟨(g8 v h1).1,(g8 v h1).2,(Gh (g8 v h1).2).mp h2⟩
  have hwin2:way∈al.filter (Uz ak):=U3.mpr ⟨hwin,(Gh (Jt fit)).mpr fit⟩;have lwl2:(al.filter (Uz ak)).length<=200:=R4 (Z6 _ _) hal;generalize al.filter (Uz ak)=wl at *;have hmx:∀ v∈wl,wsum (wF aj) v<=wsum (wF aj) way:=λv hv=>opt v (by have:=(hwl v hv).1; lia) (hwl v hv).2.2;have hA4:=hA3.same s4;symm;refine ⟨⟨_,SqL.of d4'⟩,λD5 hD5=>?_⟩;refine Xe (λj y _ => ∃ v,wl[j]? = some v/\y=.int (wsum (wF aj) v)) (SqL.of d4') (by rw [sizeLine_eq,length_map]; lia) hD5 (λ_ _ _ _ _ h=>h) ?_ ?_
  ·rintro j y H5 ys N hy s5 d5 hN;obtain ⟨pa,hpa,rfl⟩:=Ju hy;have hj:j < wl.length:=by rw [<- lwls]; exact (N8.mp hpa).1
   obtain ⟨hvl,hvr,_⟩:=hwl _ (N7 hj);have hpv:=s5 _ _ (hRW.2 j pa _ hpa (by rw [getElem?_map,getElem?_eq_getElem hj]; rfl));have hv:wl[j]? = some wl[j]:=R7 hj;generalize wl[j]=v at *;symm;refine ⟨x,pa,ak,aj,ao,wI v,rfl,hA4.same s5,by lia,SqL.of hpv,by simp [wI,hvl],λrow hr z hz=>?_,λH6 s6=>?_⟩
   ·obtain ⟨r,hr',rfl⟩:=O8.mp hz;rw [HG.bok.rows row hr];have:=hvr r hr';lia
   rw [Rq hvl];exact hN _ _ s6 ⟨v,hv,rfl⟩
  rintro ys H5 s5 d5 ly r5;have ey:ys=(wl.map λv=>wsum (wF aj) v).map V.int:=Ww (by rw [ly,length_map,length_map,lwls]) λi y e=>by obtain ⟨v,h1,h2⟩:=r5 i y e;exact ⟨_,by rw [getElem?_map,h1]; rfl,h2⟩
  subst ey;symm;refine ⟨D5,_,rfl,SqL.of d5,by rw [length_map]; exact Z8 hwin2,λz hz hmax=>?_⟩;have ez:z=wsum (wF aj) way:=by obtain ⟨u,hu,rfl⟩:=O8.mp hz;have h1:=hmx u hu;have h2:=hmax _ (O8.mpr ⟨way,hwin2,rfl⟩);lia
  subst ez;have d45:=s5 _ _ d4';symm;refine ⟨⟨_,SqL.of d45⟩,λD6 hD6=>?_⟩;refine Wu (λi=>decide (wsum (wF aj) (wl.getD i [])=wsum (wF aj) way)) (λi=>.ref (wls.getD i D3)) (SqL.of d45) (by rw [sizeLine_eq,length_map]; lia) hD6 ?_ ?_ ?_
  ·rintro i y H6 N hy s6 hN;obtain ⟨pa,hpa,rfl⟩:=Ju hy;have hj:i < wl.length:=by rw [<- lwls]; exact (N8.mp hpa).1
   obtain ⟨hvl,hvr,_⟩:=hwl _ (N7 hj);have hpv:=s6 _ _ (s5 _ _ (hRW.2 i pa _ hpa (by rw [getElem?_map,getElem?_eq_getElem hj]; rfl)));rw [getD_get _ _ hj] at hN;generalize wl[i]=v at *;symm;refine ⟨x,pa,ak,aj,ao,wI v,rfl,(hA4.same s5).same s6,by lia,SqL.of hpv,by simp [wI,hvl],λrow hr z hz=>?_,λH7 s7=>?_⟩
   ·obtain ⟨r,hr',rfl⟩:=O8.mp hz;rw [HG.bok.rows row hr];have:=hvr r hr';lia
   rw [Rq hvl];symm;have e:decide (V.int (wsum (wF aj) v)=V.int (wsum (wF aj) way))=decide (wsum (wF aj) v=wsum (wF aj) way):=by rw [Bool.eq_iff_iff,decide_eq_true_eq,decide_eq_true_eq];exact ⟨λh=>V.int.inj h,λh=>by rw [h]⟩
   rw [e];exact hN _ s7
  ·rintro i y H6 N hy hp s6 hN;obtain ⟨pa,hpa,rfl⟩:=Ju hy;have e:wls.getD i D3=pa:=by simp [getD,hpa]
   rw [e] at hN;symm;exact hN _ (Qu.refl _)
  rintro H6 s6 d6;have hRB:=(Bm hRW (λv=>decide (wsum (wF aj) v=wsum (wF aj) way)) D3).same (s5.trans s6);rw [j4] at hRB;have S36:Qu H2 H6:=((s3.trans s4).trans (s5.trans s6))
  have S6:Qc H H6:=S2.trans S36.b;exact (hq H6 S6 ((hL1.same s2).same S36)).1 (by lia) D6 ⟨_,by rw [d6,length_map,map_map]; rfl,hRB⟩
theorem Kq:Def P w K mg base 3 "least_share" [Y2,Y8,"answer"] (Mb CH):=by
 refine Z.a61.mq [Y2,Y8,"answer",Y29] λH vs Q E hr nD h=>?_;obtain ⟨x,wy,t,tp,rl,pl,ak,aj,ao,way,ps,k,R,rws,rfl,hA,HG,hwy,ln,fit,ht,htp,hrl,kp,q⟩:=h;refine ⟨_,(zcF (zcC (Qg 3 nD (Qb K (pv 2) Qx)) (zcL (Qh (Zp (Qq (Qt (Uo (K:=K) rfl rfl) (by rfl) Z.T.u8 Jq (Qq (Qd (Es Z) hr (Qq (pv 0) (Qq (pv 1) (Qq (pv 3) Qz)))) Qz)) (Qq (Qb K (pv 3) Qx) Qz))))))),?_⟩;have lw:=HG.bok.w1;have l0:=HG.w1;have kb:=kp.k1;have lR:=kp.len;symm;refine ixU ht rfl ?_;symm;refine ⟨x,wy,tp,ak,aj,ao,k,R,wI way,rfl,hA,⟨rl,htp,hrl⟩,SqL.of hwy,by simp [wI]; lia,by lia,by lia,λrow hr=>⟨by have:=HG.bok.rows row hr; lia,λz hz=>by have:=HG.x row hr z hz; lia⟩,Qs1 fit lR,λhd H2 n2=>?_⟩;have es:Wq aj (wI way) k R=(range aj.length).map λi=>k * Zr aj way i - R.getD (way.getD i 0) 0:=by unfold Wq;refine R9 λi hi=>?_;have hi':=O1.mp hi;simp [Zr,wF,wI,getD,show i < way.length by lia]
 refine ⟨hd,_,rfl,SqL.of n2.at_,by rw [es]; simp; lia,λm hm lu=>?_⟩;rw [es] at hm lu;symm;refine ixU (n2.same _ _ htp) rfl ?_;symm;exact λt' H3 n3=>q t' m H3 (n2.same.trans n3.same) n3.at_ ⟨hm,lu⟩
theorem Zqv:Qnk P w K mg base 14 "within_any" [Y2,Y22] (Qiq CH eM Pa Pb Pc Xa Zy Zc):=by
 refine Z.a62.mkX Xk (λvs H Q E h=>?_) (λ_ _ _ _ _ _ us hl=>match us,hl with | [_,_],_=>rfl) (λf cdv A outer s H vs Q E hr h=>?_)
 ·obtain ⟨x,pu,ak,aj,ao,ps,rfl,_⟩:=h;rfl
 ·obtain ⟨x,pu,ak,aj,ao,ps,rfl,hA,HG,hL,hre,hpu,lps,pb,q⟩:=h;refine ⟨_,(zcF (zcC (Qg 2 Xk.nd (Qpk Zq8 (Lf Z) (hr.mono (by decide)) rfl (PA.nox (Qq (pv 0) Qz)))) (zcL (PSs.nox (zcF (zcC (Qg 3 Xk.nd (Xz [Y8,Y2,Y22] [none,some 0,some 1] (Wn K (pv 2)) (Qpw (Qd (En Z) hr (Qq (pv 1) (Qq (pv 0) (Qq (pv 2) Qz))))))) (zcC (Cj (i:=5) Xk.nd rfl (Or.inl rfl) [Y44,Y41] [none,some 3] rfl rfl rfl (Zo Z.T.u1 (Qq (Zk K Z.T.u0 (Qq (pv 2) Qz)) Qz)) (λ_ _ _ _=>(Ts (i:=0) (by decide +kernel:([Y44,Y41]:List PySem.Str).Nodup) rfl (Or.inl rfl))) (λ_ _ _ _=>(Nt (q_t Jb (Qb K (Qb K (pv 1) (pv 0)) Qx) Yd))) (λ_ _ _ _=>(pv 0))) (zcC (Qa (q_t Jb (Zk K Z.T.u0 (Qq (pv 5) Qz)) Qx) (Qh (Zp (Qq Yd (Qq (Xz [Y44,Y41,"ways"] [none,some 3,some 2] (Zo Z.T.u1 (Qq (Zk K Z.T.u0 (Qq (pv 2) Qz)) Qz)) (Zp (Qq (Qb K (pv 2) (pv 0)) (Qq (Qb K (Qb K (pv 1) (pv 0)) Qx) Qz)))) Qz)))) Qp) (zcC (Qg 6 Xk.nd (Qb K (pv 5) Qx)) (zcC (Xr (Wn K (pv 5)) (Ql 4 Xk.nd) (Qm (Qa (Xg (Qd (Ea Z) hr (Qq (Qd (Kq Z) hr (Qq (pv 0) (Qq (Qb K (pv 2) (pv 6)) (Qq (Qb K (pv 3) (pv 6)) Qz)))) (Qq (Qd (Kq Z) hr (Qq (pv 0) (Qq (Qb K (pv 2) (pv 4)) (Qq (Qb K (pv 3) (pv 4)) Qz)))) Qz)))) (Qm (Qg 6 Xk.nd (pv 4))) Qp))) (zcL (Qh (Zp (Qq Yd (Qq (Qb K (pv 2) (pv 6)) (Qq (Qb K (Qb K (pv 3) (pv 6)) Qx) (Qq (Qb K (Qb K (pv 3) (pv 6)) Qx) Qz))))))))))))))))),?_⟩;symm;refine ⟨x,ak,aj,ao,rfl,hA,HG,hL,hre,λrows H1 s1 hL1 ig=>⟨λhle l hMF=>?_,λhlt=>(q rows H1 s1 hL1 ig).2 hlt⟩⟩;obtain ⟨ws,hw,hR⟩:=hMF;have ok:Ve ak aj ao (Ux ak aj):=⟨HG,hre,λv hv=>Ni.mp hv⟩
  obtain ⟨hn0,hn1⟩:=Sa HG ig;have hq:=λH' a b=>(q rows H' a b ig).1 hle;have fu:(Ux ak aj).length<=200:=R4 hn1 hle;generalize Ux ak aj=L at *;have lw:ws.length=L.length:=by rw [hR.1,length_map]
  have gm:∀ (G:Hp) i,Qc H1 G->i < L.length->∃ a,ws[i]? = some a/\G a=some (.lst ((wI (L.getD i [])).map V.int)):=λG i s hi=>by
   have hi2:i < ws.length:=by lia
   exact ⟨ws[i],R7 hi2,s.to _ _ (hR.2 i _ _ (R7 hi2) (by rw [getElem?_map,getElem?_eq_getElem hi,getD_get _ _ hi]; rfl)) rfl⟩
  have hA1:=hA.bf s1;have hpu1:=s1.to _ _ hpu rfl;symm;refine ⟨⟨_,SqL.of hw⟩,λD hD=>?_⟩;refine Qq0 (λi y G => ∃ t,y=.ref t/\Wh G t ak aj ao (L.getD i []) ps) (λG=>Ky G Pa Pb Pc Xa Zy Zc) hw (by rw [sizeLine_eq,length_map]; lia) hD hL1 (λi y G G' s ⟨t,e,h⟩=>⟨t,e,h.same s⟩) ?_ ?_
  ·rintro i y G N hy sG hG hN;obtain ⟨pa,hpa,rfl⟩:=Ju hy;have hi:i < L.length:=by rw [<- lw]; exact (N8.mp hpa).1
   obtain ⟨a,ha,hv⟩:=gm G i sG hi;obtain rfl:pa=a:=R5 (hpa.symm.trans ha);obtain ⟨c1,c2,c3⟩:=ok.at_ hi;symm;refine ⟨x,pa,pu,ak,aj,ao,_,ps,rfl,hA1.bf sG,HG,hre,hv,c1,c2,c3,sG.to _ _ hpu1 rfl,lps,pb,hG.2.1,hG.2.2,λt G' s so a1 a2 wat=>?_⟩;exact hN _ _ s (hG.two Z.a51 Z.a52 so a1 a2) ⟨t,rfl,wat⟩
  rintro ys G sG hG gD ly hys;obtain ⟨ts,rfl,pts⟩:=Wj hys;have lt:ts.length=L.length:=by rw [length_map,length_map] at ly; lia
  have s2:Qu G (upd G D (.lst (ts.map V.ref))):=Qu.upd gD;have d2:upd G D (.lst (ts.map V.ref)) D=some (.lst (ts.map V.ref)):=Qy;generalize upd G D (.lst (ts.map V.ref))=H2 at *;have B2:Qc H1 H2:=sG.trans s2.b;have hat:∀ i,i < L.length->∃ t,(ts.map V.ref)[i]? = some (.ref t)/\Wh H2 t ak aj ao (L.getD i []) ps:=λi hi=>by
   have hi2:i < ts.length:=by lia
   exact ⟨ts[i],by simp [hi2],(pts i _ (R7 hi2)).same s2.b⟩
  have hL2:=hG.same s2;have hA2:=hA1.bf B2;have hw2:=B2.to _ _ hw rfl;have hrow2:∀ i,i < L.length->∃ a,(ws.map V.ref)[i]? = some (.ref a)/\H2 a=some (.lst ((wI (L.getD i [])).map V.int)):=λi hi=>by obtain ⟨a,h1,h2⟩:=gm H2 i B2 hi;exact ⟨a,by rw [getElem?_map,h1]; rfl,h2⟩
  have U2:=s1.trans B2;clear hys pts s2 gD hG sG B2 hA1 hpu1 gm hw hR hA hpu hL1 hL s1
  classical
  symm;refine ⟨l,_,rfl,.inl (SqL.of hw2),?_⟩;rw [length_map,lw];refine ⟨_,rfl,by lia,by lia,λD3 hD3=>?_⟩;rw [Int.toNat_natCast];refine Jz (λp=>decide (∃ m k,Kt ak aj ao ps L p m k)) (λ(p:Nat)=>.int p) sml hD3 ?_ ?_ ?_
  ·rintro i H3 N hi s3 hN;rw [Int.zero_add];obtain ⟨t,h1,wat⟩:=hat i hi;symm;refine ixW i (s3 _ _ d2) h1 ?_;rcases wat with ⟨tp,rl,pl,k,R,rws,e1,e2,e3,e4,e5⟩ | ⟨pl,rws,e1,e4,e5⟩
   ·refine ixU (s3 _ _ e1) rfl ?_;symm;have hv:∃ m k,Kt ak aj ao ps L i m k:=by obtain ⟨as,m,_,_,_,hm,_⟩:=e5.pap;exact ⟨m,k,R,rws,e5,hm⟩
    have:=hN _ (Qu.refl _);rw [decide_eq_true hv] at this;exact this
   ·refine ixU (s3 _ _ e1) rfl ?_;symm;have:=hN _ (Qu.refl _);rw [decide_eq_false λ⟨m,k,h⟩=>Kb ok hi e5 h] at this;exact this
  ·rintro i H3 N hi hp s3 hN;symm;have:=hN _ (Qu.refl _);rw [Int.zero_add];exact this
  rintro H3 s3 d3;have d3':H3 D3=some (.lst ((wI ((range L.length).filter λp=>decide (∃ m k,Kt ak aj ao ps L p m k))).map V.int)):=by rw [d3]; unfold wI; rw [map_map]; rfl
  have hpl:∀ p,p∈((range L.length).filter λp=>decide (∃ m k,Kt ak aj ao ps L p m k)) ↔ p < L.length/\∃ m k,Kt ak aj ao ps L p m k:=λp=>by rw [mem_filter,mem_range,decide_eq_true_eq]
  have hso:((range L.length).filter λp=>decide (∃ m k,Kt ak aj ao ps L p m k)).Pairwise (· < ·):=List.Pairwise.filter _ pairwise_lt_range;have hpn:((range L.length).filter λp=>decide (∃ m k,Kt ak aj ao ps L p m k)).length<=L.length:=R4 (Z6 _ _) (by simp);generalize ((range L.length).filter λp=>decide (∃ m k,Kt ak aj ao ps L p m k))=pl at *;clear d3;symm;refine ⟨D3,_,rfl,.inl (SqL.of d3'),?_⟩;rw [Xv];symm
  by_cases hp0:pl.length=0
  ·refine Ya (P0 (by rw [hp0]; rfl)) ?_;have hnone:∀ i,i < L.length->∃ (t pp:G5) (rws:List (M5 × List Xy)),(ts.map V.ref)[i]? = some (.ref t)/\H3 t=some (.tup [.str (Str.ofString "none"),.ref pp])/\Zi H3 pp rws/\De ak aj ao (L.getD i []) ps rws:=λi hi=>by
    obtain ⟨t,h1,wat⟩:=hat i hi;rcases wat with ⟨tp,rl,pp,k,R,rws,e1,e2,e3,e4,e5⟩ | ⟨pp,rws,e1,e4,e5⟩
    ·obtain ⟨as,m,_,_,_,hm,_⟩:=e5.pap;have:=Z8 ((hpl i).mpr ⟨hi,m,k,R,rws,e5,hm⟩);lia
    ·exact ⟨t,pp,rws,h1,s3 _ _ e1,e4.same s3,e5⟩
   symm;refine ⟨l,_,rfl,.inl (SqL.of (s3 _ _ hw2)),?_⟩;rw [length_map,lw];refine ⟨_,rfl,by lia,by lia,λD4 hD4=>?_⟩;rw [Int.toNat_natCast];refine Yv (λi y H' => ∃ u,y=.ref u/\u≠D4/\∃ (wy pp:G5) (rws:List (M5 × List Xy)),H' u=some (.tup [.ref wy,.ref pp])/\H3 wy=some (.lst ((wI (L.getD i [])).map V.int))/\Zi H3 pp rws/\De ak aj ao (L.getD i []) ps rws) sml hD4 (λi y H H' kp ⟨u,e,n,wy,pp,rws,h,r⟩=>⟨u,e,n,wy,pp,rws,kp u _ n h,r⟩) ?_ ?_
   ·rintro i H4 ys N hi s4 d4 hN;rw [Int.zero_add];obtain ⟨t,pp,rws,h1,h2,h3,h4⟩:=hnone i hi;obtain ⟨a,h5,h6⟩:=hrow2 i hi;symm;refine ixW i (s4 _ _ (s3 _ _ hw2)) h5 ?_;symm;refine ixW i (s4 _ _ (s3 _ _ d2)) h1 ?_;refine ixU (s4 _ _ h2) rfl ?_;symm;exact λu H5 n5=>hN _ _ n5.same ⟨u,rfl,(Qj d4 n5.none).symm,a,pp,rws,n5.at_,s3 _ _ h6,h3,h4⟩
   rintro ys H4 s4 d4 ly r4;obtain ⟨us,rfl,pus⟩:=Wj (P:=λi u => ∃ (wy pp:G5) (rws:List (M5 × List Xy)),H4 u=some (.tup [.ref wy,.ref pp])/\H3 wy=some (.lst ((wI (L.getD i [])).map V.int))/\Zi H3 pp rws/\De ak aj ao (L.getD i []) ps rws) λi y e=>by obtain ⟨u,e1,_,r⟩:=r4 i y e;exact ⟨u,e1,r⟩
   symm;refine λt H5 n5=>?_;have S5:Qu H2 H5:=(s3.trans s4).trans n5.same;refine hq H5 (U2.trans S5.b) (hL2.same S5) t (.inr ⟨D4,us,n5.at_,n5.same _ _ d4,by simpa using ly,λi hi=>?_⟩);have hiu:i < us.length:=by rw [length_map] at ly; lia
   obtain ⟨wy,pp,rws,g1,g2,g3,g4⟩:=pus i _ (R7 hiu);exact ⟨us[i],wy,pp,rws,R7 hiu,n5.same _ _ g1,n5.same _ _ (s4 _ _ g2),(g3.same s4).same n5.same,g4⟩
  ·refine Vq (T5 λz=>hp0 (by have:=V.int.inj z; lia)) ?_;have hkept:∀ p,p∈pl->∃ (t tp rl pp:G5) (k:Int) (R:K6) (rws:List (M5 × List Xy)),(ts.map V.ref)[p]? = some (.ref t)/\H3 t=some (.tup [.str (Str.ofString "kept"),.ref tp,.ref pp])/\H3 tp=some (.tup [.int k,.ref rl])/\H3 rl=some (.lst (R.map V.int))/\Zi H3 pp rws/\Fm ak aj ao (L.getD p []) ps k R rws:=λp hp=>by
    obtain ⟨hi,m,k,hv⟩:=(hpl p).mp hp;obtain ⟨t,h1,wat⟩:=hat p hi;rcases wat with ⟨tp,rl,pp,k,R,rws,e1,e2,e3,e4,e5⟩ | ⟨pp,rws,e1,e4,e5⟩
    ·exact ⟨t,tp,rl,pp,k,R,rws,h1,s3 _ _ e1,s3 _ _ e2,s3 _ _ e3,e4.same s3,e5⟩
    ·exact absurd hv (Kb ok hi e5)
   have hV:Ma λp m k=>p < L.length/\Kt ak aj ao ps L p m k:=ok.val;have hp0':0 < pl.length:=by lia
   have h0:((wI pl).map V.int)[0]? = some (.int ((pl[0]:Nat):Int)):=by simp [wI,hp0']
   have hw3:=s3 _ _ hw2;have d23:=s3 _ _ d2;have hA3:=hA2.same s3;symm;refine ixW 0 d3' h0 ?_;symm;refine ⟨⟨_,SqL.of d3'⟩,?_⟩;refine Je (xs:=(wI pl).map V.int) (λi σ H' => ∃ (o4:Option V) (b:Nat) (m k:Int),σ=[rf x,rf pu,rf l,rf D,o4,rf D3,iv (b:Int)]/\Qu H3 H'/\b∈pl/\(∀ j (h:j < pl.length),i<=j->b<=pl[j])/\Ye (λp m k=>p < L.length/\Kt ak aj ao ps L p m k) (λp=>p=pl[0]\/p∈pl.take i) b m k) ?_ (λi σ H' _ h=>by obtain ⟨_,_,_,_,_,h,_⟩:=h; exact SqL.of (h _ _ d3')) ?_ ?_
   ·obtain ⟨hi,m,k,hv⟩:=(hpl _).mp (N7 hp0');refine ⟨none,pl[0],m,k,rfl,Qu.refl _,N7 hp0',λj hj _=>?_,Lz hV ⟨hi,hv⟩ (.inl rfl) λp hp hn=>?_⟩
    ·rcases Nat.eq_zero_or_pos j with rfl | z
     ·exact O7 _
     ·exact V5 (A1d.mp hso 0 j hp0' hj z)
    ·rcases hp with z | z
     ·exact absurd z hn
     ·simp at z
   ·nofun;intro i y σ H4 hy q9; obtain ⟨o6,b,m,k,rfl,s4,hb,ou,fb⟩:=q9;have hi:i < pl.length:=by have:=(N8.mp hy).1; simpa [wI] using this
    have ey:y=.int ((pl[i]:Nat):Int):=by simp [wI,hi] at hy;exact hy.symm
    subst ey;have hmi:=N7 hi;have hge:=ou i hi (O7 _);have hmon':∀ j (h:j < pl.length),i + 1<=j->pl[i]<=pl[j]:=λj h z=>V5 (A1d.mp hso i j hi h z);have ht:∀ p,(p=pl[0]\/p∈pl.take (i + 1))->(p=pl[0]\/p∈pl.take i)\/p=pl[i]:=λp z=>by
     rw [take_succ,getElem?_eq_getElem hi] at z;rcases z with z | z
     ·exact .inl (.inl z)
     ·rcases O6.mp z with z | z
      ·exact .inl (.inr z)
      ·exact .inr (by simpa using z)
    have hti:pl[i]∈pl.take (i + 1):=by rw [take_succ,getElem?_eq_getElem hi];exact Q9 _ (by simp)
    have htb:∀ p,(p=pl[0]\/p∈pl.take i)->(p=pl[0]\/p∈pl.take (i + 1)):=λp z=>z.imp id λz=>by rw [take_succ];exact R8 _ z
    generalize pl[i]=c at *;obtain ⟨t1,tp1,rl1,pp1,k1,R1,qd,a1,a2,a3,a4,a5,a6⟩:=hkept b hb;obtain ⟨t2,tp2,rl2,pp2,k2,R2,rws2,b1,b2,b3,b4,b5,b6⟩:=hkept c hmi;have hbl:=((hpl b).mp hb).1;have hcl:=((hpl c).mp hmi).1;obtain ⟨w1,w2,w3⟩:=hrow2 b hbl;obtain ⟨v1,v2,v3⟩:=hrow2 c hcl;obtain ⟨c1,c2,_⟩:=ok.at_ hbl;obtain ⟨e1,e2,_⟩:=ok.at_ hcl;symm;refine ixW b (s4 _ _ hw3) w2 ?_;symm;refine ixW b (s4 _ _ d23) a1 ?_;refine ⟨x,w1,t1,tp1,rl1,pp1,ak,aj,ao,_,ps,k1,R1,qd,rfl,hA3.same s4,HG,s4 _ _ (s3 _ _ w3),c1,c2,s4 _ _ a2,s4 _ _ a3,s4 _ _ a4,a6,λf1 m1 H5 s5 hf1 lm1=>?_⟩;have S5:=s4.trans s5;symm;refine ixW c (S5 _ _ hw3) v2 ?_;symm;refine ixW c (S5 _ _ d23) b1 ?_;refine ⟨x,v1,t2,tp2,rl2,pp2,ak,aj,ao,_,ps,k2,R2,rws2,rfl,hA3.same S5,HG,S5 _ _ (s3 _ _ v3),e1,e2,S5 _ _ b2,S5 _ _ b3,S5 _ _ b4,b6,λf2 m2 H6 s6 hf2 lm2=>?_⟩;have S6:=S5.trans s6;have q1:=Re HG hre c1 a6 lm1;have q2:=Re HG hre e1 b6 lm2;have q3:=a6.k1;have q4:=b6.k1;refine ⟨f1,f2,m1,k1,m2,k2,rfl,s6 _ _ hf1,hf2,by lia,by lia,by lia,by lia,?_⟩;have fb1:=fb.val hV ⟨hbl,R1,qd,a6,lm1⟩;symm;refine Kz (λz=>?_) (λzn=>?_)
    ·symm;exact ⟨_,c,m2,k2,rfl,S6,hmi,hmon',fb1.move hV ⟨hcl,R2,rws2,b6,lm2⟩ (Q6 z) (.inr hti) λp z=>ht p z⟩
    ·nofun;refine ⟨_,b,m1,k1,rfl,S6,hb,λj h z=>ou j h (by lia),fb1.keep hV (htb b fb.1) λp z=>?_⟩;rcases ht p z with z' | rfl
     ·exact .inl z'
     ·exact .inr λ_ _ _=>⟨hge,m2,k2,⟨hcl,R2,rws2,b6,lm2⟩,Int.not_lt.mp λz'=>zn (P0 z')⟩
   ·intro σ H4 q9; obtain ⟨o6,b,m,k,rfl,s4,hb,_,fb⟩:=q9;nofun;rw [Xv,take_length] at fb;obtain ⟨t1,tp1,rl1,pp1,k1,R1,qd,a1,a2,a3,a4,a5,a6⟩:=hkept b hb;have hbl:=((hpl b).mp hb).1;obtain ⟨w1,w2,w3⟩:=hrow2 b hbl;obtain ⟨as,m1,_,_,_,lm1,_⟩:=a6.pap;have fb1:=fb.val hV ⟨hbl,R1,qd,a6,lm1⟩;symm;refine ixW b (s4 _ _ hw3) w2 ?_;symm;refine ixW b (s4 _ _ d23) a1 ?_;refine ixU (s4 _ _ a2) rfl ?_;symm;refine ixW b (s4 _ _ d23) a1 ?_;refine ixU (s4 _ _ a2) rfl ?_;symm;refine λt H5 n5=>?_;have S5:Qu H3 H5:=s4.trans n5.same;refine hq H5 (U2.trans (s3.trans S5).b) (hL2.same (s3.trans S5)) t (.inl ⟨w1,tp1,rl1,pp1,b,m1,k1,R1,qd,n5.at_,S5 _ _ (s3 _ _ w3),S5 _ _ a3,S5 _ _ a4,a5.same S5,a6,fb1.keep hV hbl λp hp=>?_⟩)
    by_cases hv:∃ m k,Kt ak aj ao ps L p m k
    ·exact .inl (.inr ((hpl p).mpr ⟨hp,hv⟩))
    ·exact .inr λc d h=>absurd ⟨c,d,h.2⟩ hv
theorem Qmk:Def P w K mg base 1 "_law_free" [Y1,Y4] (Qb5 K):=by
 refine Z.a63.mq [Y1,Y4] λH vs Q E hr nD h=>?_;obtain ⟨b,a,ak,way,rfl,hb,lb,ha,q⟩:=h;refine ⟨_,(Qh (Tt [Y32,Y1,Y4] [none,some 0,some 1] (Zo Z.T.u1 (Qq (Zk K Z.T.u0 (Qq (pv 0) Qz)) Qz)) (q_t Rb (Mo (K:=K) rfl A0w PySem.F.slot_list_count PySem.F.type_list_count (Br (K:=K) rfl) (pv 2) (Qq (pv 0) Qz)) (Qb K (pv 1) (pv 0))) (pv 0))),?_⟩;refine ⟨_,rfl,b,_,rfl,.inl (SqL.of hb),?_⟩;rw [length_map];walk_at "d";refine Jz (λ(r:Nat)=>decide ((((wI way).count (r:Int):Nat):Int) < ak.getD r 0)) (λ(r:Nat)=>.int r) sml hD ?_ ?_ ?_
 ·rintro r H3 N hr s3 hN;have g2:(ak.map V.int)[r]? = some (.int (ak.getD r 0)):=by simp [hr,getD]
  refine ⟨_,rfl,.inl ⟨rfl,_,SqL.of (s3 _ _ ha)⟩,_,rfl,a,wI way,_,rfl,rfl,SqL.of (s3 _ _ ha),?_⟩;rw [Int.zero_add];symm;refine ixL (SqL.of (s3 _ _ hb)) (Qs r (by lia) g2) ?_;exact ⟨_,_,rfl,rfl,_,rfl,hN _ (Qu.refl _)⟩
 ·rintro r H3 N hr hp s3 hN;symm;have:=hN _ (Qu.refl _);rw [Int.zero_add];exact this
 ·rintro H3 s3 d3;refine q D H3 ⟨s3,hD,?_⟩;rw [d3];unfold Yw;rw [map_map];rfl
theorem Qn0:Def P w K mg base 2 "_law_fair" [Y1,Y0,Y11,Y4,Y14] Qw3:=by
 refine Z.a64.mq [Y1,Y0,Y11,Y4,Y14,Y21,Y12,Y32,Y9,"_law_share","_law_q"] λH vs Q E hr nD h=>?_;obtain ⟨b,w,wy,tp,rl,⟨ak,aj,ao,way,parts,rows⟩,hvs,hb,hM,hwy,htp,hrl,ok,l0,fair,q⟩:=h;have hvs':vs=[.ref b,.ref w,.int ao,.ref wy,.ref tp]:=hvs;subst hvs';refine ⟨_,(zcF (zcC (Uv (pv 4) (Vv (K:=K) (n:=2) rfl rfl (Zw (Ql 5 nD) (Zw (Ql 6 nD) Vj)))) (zcC (Qa (q_t Jj (Qt (Xo (K:=K) rfl rfl) (by rfl) Z.T.u10 Yq (Qq (Xz [Y32,Y12] [none,some 6] (Wn K (pv 3)) (Qb K (pv 1) (pv 0))) Qz)) (Qk Qr (pv 5) (pv 2))) (Qh Yc) Qp) (zcC (Xr (Zo Z.T.u1 (Qq (Zk K Z.T.u0 (Qq (pv 3) Qz)) Qz)) (Ql 8 nD) (zcF (zcC (Qg 9 nD (Qk Zh (Qk Qr (pv 5) (Qb K (Qb K (pv 1) (pv 8)) (Qb K (pv 3) (pv 8)))) (Qb K (pv 6) (Qb K (pv 3) (pv 8))))) (zc1 (Xr (Zo Z.T.u1 (Qq (Zk K Z.T.u0 (Qq (pv 6) Qz)) Qz)) (Ql 7 nD) (Qm (Qa (q_t Kx (Qk Zh (Qk Qr (pv 5) (Qb K (Qb K (pv 1) (pv 8)) (pv 7))) (Qb K (pv 6) (pv 7))) (pv 9)) (Qh Yc) Qp))))))) (zcL (Qw (Xr (Wn K (Qd (Qmk Z) hr (Qq (pv 0) (Qq (pv 3) Qz)))) (Ql 7 nD) (Qm (Xr (Wn K (pv 3)) (Ql 10 nD) (Qm (Qa (q_t Kx (Qb K (pv 6) (pv 7)) (Qb K (pv 6) (pv 10))) (Qh Yc) Qp))))) (Qh Yc))))))),?_⟩;replace hb:H b=some (.lst (ak.map V.int)):=hb;replace hM:Mat H w aj:=hM;replace hwy:H wy=some (.lst ((wI way).map V.int)):=hwy;replace htp:H tp=some (.tup [.int parts,.ref rl]):=htp;replace hrl:H rl=some (.lst (rows.map V.int)):=hrl;have l1:aj.length<=10:=ok.w1;have l2:ak.length<=10:=ok.b1;have l3:way.length=aj.length:=ok.wl;have l4:rows.length=ak.length:=ok.rl;have l5:0 < aj.length:=l0;have fit:Fit (bF ak) way:=ok.fit;have hpb:-(10 ^ 100) < parts/\parts < 10 ^ 100:=ok.pb;have hrb:-(10 ^ 100) < ao/\ao < 10 ^ 100:=ok.rb;have hrw:∀ row∈aj,row.length=ak.length:=ok.rw;have hwb:∀ row∈aj,∀ x∈row,-(10 ^ 100) < x/\x < 10 ^ 100:=ok.wb;have jb:(way.map λr=>rows.getD r 0).sum=parts * ao:=fair.1;have hne:∀ i r,i < aj.length->r < ak.length->¬ (parts * wF aj i (way.getD i 0) - rows.getD (way.getD i 0) 0 < parts * wF aj i r - rows.getD r 0):=fair.2.1;have hnd:∀ r q,r < ak.length->q < ak.length->¬ (way.count r < bF ak r/\0 < way.count q/\rows.getD q 0 < rows.getD r 0):=fair.2.2;clear fair ok;have hlt:=Jt fit;have hix:∀ z∈wI way,∃ j:Nat,z=(j:Int)/\(rows.map V.int)[j]? = some (.int (rows.getD z.toNat 0)):=λz hz=>by
  obtain ⟨r,hr,rfl⟩:=O8.mp hz;have hr2:r < rows.length:=by rw [l4]; exact hlt r hr
  refine ⟨r,rfl,?_⟩;rw [Int.toNat_natCast,getD_get _ _ hr2];simp [hr2]
 have hpaid:((wI way).map λz=>rows.getD z.toNat 0)=way.map λr=>rows.getD r 0:=by unfold wI;rw [map_map];rfl
 nofun;refine ⟨_,rfl,tp,_,rfl,SqT.of htp,rfl,_,_,rfl,_,_,rfl,rfl,?_⟩;symm;refine ⟨⟨_,SqL.of hwy⟩,λD hD=>?_⟩;refine Kr (wI way) (λz=>.int (rows.getD z.toNat 0)) (SqL.of hwy) (by rw [sizeLine_eq]; simp [wI]; lia) hD (λz hz H2 N s2 hN=>?_) λH2 s2 d2=>?_
 ·obtain ⟨j,ej,hj⟩:=hix z hz;symm;exact ixL (SqL.of (s2 _ _ hrl)) (Qs j ej hj) (hN _ (Qu.refl _))
 have d2':H2 D=some (.lst ((way.map λr=>rows.getD r 0).map V.int)):=by rw [d2,<- hpaid,map_map]; rfl
 refine ⟨D,_,rfl,SqL.of d2',?_⟩;rw [jb];symm;refine Vq (by simp) ?_;symm;refine ⟨wy,_,rfl,.inl (SqL.of (s2 _ _ hwy)),?_⟩;rw [Xv,l3];walk_at "r";refine Zu (λi σ H'=>(∃ o7 o8 o9 o10:Option V,σ=[rf b,rf w,iv ao,rf wy,rf tp,iv parts,rf rl,o7,o8,o9,o10])/\Qu H H') ⟨⟨_,_,_,_,rfl⟩,s2⟩ ?_ ?_
 ·nofun;intro i σ H3 hi q9; obtain ⟨⟨o7,o8,o9,o10,rfl⟩,s3⟩:=q9;have hwy3:=s3 _ _ hwy;have hrl3:=s3 _ _ hrl;obtain ⟨ws,hw3,hR3⟩:=id (hM.same s3);have hiw:i < way.length:=by lia
  have gm:aj[i]? = some aj[i]:=by simp [hi]
  obtain ⟨ra,g1,g2,g3⟩:=hR3.at_ gm;have hrl':=hrw _ (N7 hi);have gwy:((wI way).map V.int)[i]? = some (.int ((way.getD i 0:Nat):Int)):=by simp [wI,getD,hiw]
  have hwi:way.getD i 0 < ak.length:=hlt _ (by rw [getD_get _ _ hiw]; exact N7 hiw);have gx:∀ j,j < ak.length->(aj[i].map V.int)[j]? = some (.int (wF aj i j))/\(-(10 ^ 100) < wF aj i j/\wF aj i j < 10 ^ 100)/\(rows.map V.int)[j]? = some (.int (rows.getD j 0)):=λj hj=>by
   have hl:j < aj[i].length:=by lia
   have e5:wF aj i j=aj[i][j]:=by simp [hl,wF,hi,getD]
   refine ⟨by simp [hl,wF,hi,getD],?_,by simp [show j < rows.length by lia,getD]⟩;rw [e5];exact hwb _ (N7 hi) _ (N7 hl)
  obtain ⟨x1,x2,x3⟩:=gx _ hwi;nofun;rw [Int.zero_add];symm;refine ixW i hw3 g2 ?_;symm;refine ixW i hwy3 gwy ?_;symm;refine ixW _ g3 x1 ?_;walk_at "m";symm;refine ixW i hwy3 gwy ?_;symm;refine ixW _ hrl3 x3 ?_;symm;refine ⟨rl,_,rfl,.inl (SqL.of hrl3),?_⟩;rw [length_map,l4];walk_at "r";refine Zu (λj σ H'=>(∃ o7 o10:Option V,σ=[rf b,rf w,iv ao,rf wy,rf tp,iv parts,rf rl,o7,iv (i:Int),iv (parts * wF aj i (way.getD i 0) - rows.getD (way.getD i 0) 0),o10])/\H3=H') ⟨⟨_,_,rfl⟩,rfl⟩ ?_ ?_
  ·nofun;intro j σ H4 hj q9; obtain ⟨⟨o7',o10',rfl⟩,rfl⟩:=q9;obtain ⟨y1,y2,y3⟩:=gx _ hj;rw [Int.zero_add];symm;refine ixW i hw3 g2 ?_;symm;refine ixW _ g3 y1 ?_;walk_at "m";symm;refine ixW _ hrl3 y3 ?_;symm;refine Vq (T5 (hne i j hi hj)) ?_;nofun;exact ⟨⟨_,_,rfl⟩,rfl⟩
  ·intro σ H4 q9; obtain ⟨⟨o7',o10',rfl⟩,rfl⟩:=q9;nofun;exact ⟨⟨_,_,_,_,rfl⟩,s3⟩
 ·intro σ H3 q9; obtain ⟨⟨o7,o8,o9,o10,rfl⟩,s3⟩:=q9;symm;refine ⟨b,wy,ak,way,rfl,s3 _ _ hb,by lia,s3 _ _ hwy,λlo H4 n4=>?_⟩;have s4:Qu H H4:=s3.trans n4.same;refine ⟨lo,rfl,⟨_,SqL.of n4.at_⟩,?_⟩;refine Je (xs:=(Yw ak (wI way)).map V.int) (λi σ H'=>(∃ o7 o10:Option V,σ=[rf b,rf w,iv ao,rf wy,rf tp,iv parts,rf rl,o7,o8,o9,o10])/\H4=H') ⟨⟨_,_,rfl⟩,rfl⟩ (λi σ H' _ ⟨_,e⟩=>e ▸ SqL.of n4.at_) ?_ ?_
  ·nofun;intro i y σ H5 hy q9; obtain ⟨⟨o7',o10',rfl⟩,rfl⟩:=q9;obtain ⟨z,hz,rfl⟩:=int_at hy;have hzm:z∈Yw ak (wI way):=T8 hz;unfold Yw at hzm;obtain ⟨r,hr,rfl⟩:=O8.mp hzm;obtain ⟨hr1,hr2⟩:=U3.mp hr;have hrb:=O1.mp hr1;have ho:way.count r < bF ak r:=by have:=Q6 hr2;rw [Kg] at this;unfold bF;lia
   have gr:(rows.map V.int)[r]? = some (.int (rows.getD r 0)):=by simp [show r < rows.length by lia,getD]
   symm;refine ⟨⟨_,SqL.of (s4 _ _ hwy)⟩,?_⟩;refine Je (xs:=(wI way).map V.int) (λj σ H'=>(∃ o10:Option V,σ=[rf b,rf w,iv ao,rf wy,rf tp,iv parts,rf rl,iv (r:Int),o8,o9,o10])/\H4=H') ⟨⟨_,rfl⟩,rfl⟩ (λi σ H' _ ⟨_,e⟩=>e ▸ SqL.of (s4 _ _ hwy)) ?_ ?_
   ·nofun;intro j y σ H6 hy q9; obtain ⟨⟨o10'',rfl⟩,rfl⟩:=q9;obtain ⟨z,hz,rfl⟩:=int_at hy;obtain ⟨q',hq',rfl⟩:=O8.mp (T8 hz);have hqb:=hlt q' hq';have gq:(rows.map V.int)[q']? = some (.int (rows.getD q' 0)):=by simp [show q' < rows.length by lia,getD]
    symm;refine ixW r (s4 _ _ hrl) gr ?_;symm;refine ixW q' (s4 _ _ hrl) gq ?_;have h3:=hnd r q' hrb hqb;symm;refine Vq (T5 λz=>h3 ⟨ho,W3.mpr hq',z⟩) ?_;nofun;exact ⟨⟨_,rfl⟩,rfl⟩
   ·intro σ H6 q9; obtain ⟨⟨o10'',rfl⟩,rfl⟩:=q9;nofun;exact ⟨⟨_,_,rfl⟩,rfl⟩
  ·intro σ H5 q9; obtain ⟨⟨o7',o10',rfl⟩,rfl⟩:=q9;symm;exact q _ s4
theorem Quw:Def P w K mg base 1 "_law_common" ["_law_one","_law_other"] Ie:=by
 refine Z.a65.mq ["_law_one","_law_other"] λH vs Q E hr nD h=>?_;obtain ⟨a,b,rfl,q⟩:=h;refine ⟨_,(zcF (zcC (Nr A1g (q_t Jj (pv 1) Qx) (Qm (Qa0 (i:=0) (j:=1) rfl nD rfl rfl (by decide) rfl rfl (Qq (pv 1) (Qq (Qk Qr0 (pv 0) (pv 1)) Qz)) (by rfl)))) (zcL (Qh (Qt Ec (by rfl) Z.T.u16 Lw (Qq (pv 0) Qz)))))),?_⟩;nofun;refine ⟨λm σ H' => ∃ (x y:Int),σ=[iv x,iv y]/\m=y.natAbs/\Nat.gcd x.natAbs y.natAbs=Nat.gcd a.natAbs b.natAbs/\Qu H H',⟨_,a,b,rfl,rfl,rfl,Qu.refl _⟩,?_⟩;intro m σ H' q9; obtain ⟨x,y,rfl,rfl,hg,s1⟩:=q9;symm;refine Kz (λe=>?_) (λe=>?_)
 ·have hy0:y≠0:=by simpa using e
  refine ⟨_,λσ' H' h=>h,?_⟩;symm;exact ⟨_,_,rfl,_,Qfw x hy0,_,_,rfl,rfl,by rw [Qfj]; exact hg,s1⟩
 ·have hy0:y=0:=by simpa using e
  subst hy0;symm;have e2:(if x < 0 then -x else x)=((Nat.gcd a.natAbs b.natAbs:Nat):Int):=by
   rw [<- hg,Int.natAbs_zero,Nat.gcd_zero_right]
   split <;> lia
  show Q (V.int (if x < 0 then -x else x)) H';rw [e2];exact q _ s1
theorem Quj:Def P w K mg base 2 "_law_priced" [Y14,Y31] Ii:=by
 refine Z.a66.mq [Y14,Y31,"_law_by",Y18] @λ_ _ _ _ s H vs Q E hr nD h=>?_;obtain ⟨tp,rl,n,k,R,rfl,htp,hrl,k0,hn,lR,hg,q⟩:=h;refine ⟨_,(zcF (zcC (Qa (PW.pt (Xs (Xb (Xg (Zj K Z.T.u3 (Qq (pv 0) (Qq (Jk (v:=.ty "tuple") rfl Z.T.u7 Yn rfl) Qz))))) (Xs (q_t Jj (Zk K Z.T.u0 (Qq (pv 0) Qz)) Qx) (Xs (Xb (Xg (Qd (Nb Z) hr (Qq (Qb K (pv 0) Qx) Qz)))) (Xi (q_t Rb (Qb K (pv 0) Qx) Qx)))))) (Qh Yc) Qp) (zcC (Qa (PW.pt (Xs (Xb (Xg (Zj K Z.T.u3 (Qq (Qb K (pv 0) Qx) (Qq (Jk (v:=.ty "list") rfl Z.T.u6 Jd rfl) Qz))))) (Xi (q_t Jj (Zk K Z.T.u0 (Qq (Qb K (pv 0) Qx) Qz)) (pv 1))))) (Qh Yc) Qp) (zcC (Qg 2 nD (Qb K (pv 0) Qx)) (zcL (Qw (Xr (Wn K (Qb K (pv 0) Qx)) (Ql 3 nD) (zcF (zcC (Qa (Xb (Xg (Qd (Nb Z) hr (Qq (pv 3) Qz)))) (Qh Yc) Qp) (zc1 (Qg 2 nD (Qd (Quw Z) hr (Qq (pv 2) (Qq (pv 3) Qz)))))))) (Qh (Jw Jb (pv 2) Qx (Vl _))))))))),?_⟩;symm;refine ⟨_,_,_,true,rfl,.tup htp,Yb _ _,_,rfl,Ml ?_⟩;symm;refine ⟨tp,_,rfl,.inr (SqT.of htp),?_⟩;symm;refine ixU htp rfl ?_;symm;refine ixU htp rfl ?_;symm;refine Vq (T5 (by lia)) ?_;symm;refine ixU htp rfl ?_;symm;refine ⟨_,_,_,true,rfl,.lst hrl,Yb _ _,_,rfl,Ml ?_⟩;symm;refine ixU htp rfl ?_;refine ⟨rl,_,rfl,.inl (SqL.of hrl),?_⟩;rw [length_map,hn];symm;refine Vq (by simp) ?_;symm;refine ixU htp rfl ?_;symm;refine ixU htp rfl ?_;refine ⟨rl,rfl,⟨_,SqL.of hrl⟩,?_⟩;refine Je (xs:=R.map V.int) (λi σ H' => ∃ (o3:Option V) (g:Nat),σ=[rf tp,iv (R.length:Int),iv (g:Int),o3]/\bw g (R.drop i)=1/\Qu H H') ⟨none,k.natAbs,by rw [show ((k.natAbs:Nat):Int)=k by lia]; rfl,hg,Qu.refl _⟩ (λi σ H' _ ⟨_,_,_,_,s⟩=>SqL.of (s _ _ hrl)) ?_ ?_
 ·nofun;intro i y σ H1 hy q9; obtain ⟨o3,g,rfl,hgi,s1⟩:=q9;obtain ⟨z,hz,rfl⟩:=int_at hy;symm;refine ⟨g,z,rfl,λH2 s2=>?_⟩;have hd:R.drop i=z :: R.drop (i + 1):=by obtain ⟨hi,e⟩:=N8.mp hz;rw [<- e,drop_eq_getElem_cons hi]
  nofun;rw [hd] at hgi;exact ⟨_,_,rfl,hgi,s1.trans s2⟩
 ·intro σ H1 q9; obtain ⟨o3,g,rfl,hgi,s1⟩:=q9;rw [length_map,drop_length] at hgi;have hg1:g=1:=hgi;subst hg1;symm;exact q _ s1
theorem Qg0:Def P w K mg base 2 "_law_hop_gain" [Y1,Y0,Y4,"_law_hop",Y42] Lc:=by
 refine Z.a67.mq [Y1,Y0,Y4,"_law_hop",Y42,"_law_a",Y32,"_law_b"] λH vs Q E hr nD h=>?_;obtain ⟨b,w,wy,t,ak,aj,way,m,at_,rfl,hb,hM,hwy,ok,ht,q⟩:=h;refine ⟨_,(Qw (Qa (PW.pt (Xs (Xb (Xg (Zj K Z.T.u3 (Qq (pv 3) (Qq (Jk (v:=.ty "tuple") rfl Z.T.u7 Yn rfl) Qz))))) (Xs (q_t Jj (Zk K Z.T.u0 (Qq (pv 3) Qz)) Qx) (Xi (Xb (Xg (Qt (Gc (K:=K) rfl rfl) (by rfl) Z.T.u11 Gn (Qq (Xz [Y25] [none] (Ql6 (K:=K) rfl (pv 3)) (Qd (Nb Z) hr (Qq (pv 0) Qz))) Qz)))))))) (Qh Qo) Qp) (Qw (Uv (pv 3) (Vv (K:=K) (n:=3) rfl rfl (Zw (Ql 5 nD) (Zw (Ql 6 nD) (Zw (Ql 7 nD) Vj))))) (Qw (Qa (PW.pt (Xs (Xb (Ri Hi Rb Qx (pv 5) (Zk K Z.T.u0 (Qq (pv 2) Qz)))) (Xs (Xb (Ri Hi Rb Qx (pv 7) (Zk K Z.T.u0 (Qq (pv 2) Qz)))) (Xs (q_t Jb (pv 5) (pv 7)) (Xi (PW.pt (Wa (q_t Ka (pv 4) Qo) (Um (q_t Jj (pv 5) (pv 4)))))))))) (Qh Qo) Qp) (Qw (Qa (PW.pt (Wa (q_t Jj (pv 6) (Qb K (pv 2) (pv 5))) (Um (Vx (Tg (K:=K) rfl) (pv 6) (Qd (Qmk Z) hr (Qq (pv 0) (Qq (pv 2) Qz))) (by with_unfolding_all rfl))))) (Qh Qo) Qp) (Qh (Qk Zh (Qb K (Qb K (pv 1) (pv 7)) (pv 6)) (Qb K (Qb K (pv 1) (pv 5)) (Qb K (pv 2) (pv 5))))))))),?_⟩;have lw:=ok.len;have lb:=ok.bok.b1;obtain ⟨m1,m2,m3⟩:=m;have iy:∀ H',Qu H H'->¬ (okI true ak aj.length way (m1,m2,m3)=true/\(at_=none\/at_=some m1))->Q .non H':=λH' s' y=>by have:=q H' s';rw [if_neg y] at this;exact this
 have ok_:okI true ak aj.length way (m1,m2,m3)=true->m1≠m3/\0<=m1/\m1 < (aj.length:Int)/\0<=m3/\m3 < (aj.length:Int)/\m2∈Zd true ak way m1.toNat m3.toNat:=λy=>Q6 y;symm;refine ⟨_,_,_,true,rfl,.tup ht,Yb _ _,_,rfl,Ml ?_⟩;symm;refine ⟨t,_,rfl,.inr (SqT.of ht),?_⟩;symm;refine ⟨⟨_,SqT.of ht⟩,λD hD=>?_⟩;refine Qh3 (λ_ y _=>y=.bl true) (SqT.of ht) (by rw [sizeLine_eq]; simp [ihV]) hD (λ_ _ _ _ _ h=>h) ?_ ?_
 ·rintro j y H3 ys N hy s3 d3 hN;obtain ⟨z,rfl⟩:∃ z,y=.int z:=by have:=T8 hy;simp [ihV] at this;rcases this with rfl | rfl | rfl <;> exact ⟨_,rfl⟩
  symm;exact hN _ _ (Qu.refl _) rfl
 rintro ys H1 s1 d1 ly hy;have ey:ys=[.bl true,.bl true,.bl true]:=by
  match ys,ly,hy with
  | [a1,a2,a3],_,hy=>rw [hy 0 a1 rfl,hy 1 a2 rfl,hy 2 a3 rfl]
 subst ey;refine ⟨D,[true,true,true],rfl,SqL.of d1,?_⟩;have ht1:=s1 _ _ ht;have jl:=s1 _ _ hwy;symm;refine ⟨t,_,rfl,SqT.of ht1,rfl,_,_,rfl,_,_,rfl,_,_,rfl,rfl,?_⟩;refine ⟨_,rfl,_,_,rfl,rfl,_,rfl,?_⟩
 by_cases p1:0<=m1
 rotate_left
 ·refine Vq (T5 p1) ?_;refine ⟨_,rfl,Ya rfl ?_⟩;exact iy _ s1 λy=>p1 (by have:=ok_ y.1; lia)
 refine Ya (P0 p1) ?_;refine ⟨_,rfl,wy,_,rfl,.inl (SqL.of jl),?_⟩;rw [Xv,lw];refine ⟨_,_,rfl,rfl,_,rfl,?_⟩
 by_cases r1:m1 < (aj.length:Int)
 rotate_left
 ·refine Ya (by show (!decide (m1 < (aj.length:Int)))=true; rw [decide_eq_false r1]; rfl) ?_;exact iy _ s1 λy=>r1 (by have:=ok_ y.1; lia)
 refine Vq (by show (!decide (m1 < (aj.length:Int)))=false; rw [decide_eq_true r1]; rfl) ?_;refine ⟨_,rfl,_,_,rfl,rfl,_,rfl,?_⟩
 by_cases p3:0<=m3
 rotate_left
 ·refine Vq (T5 p3) ?_;refine ⟨_,rfl,Ya rfl ?_⟩;exact iy _ s1 λy=>p3 (by have:=ok_ y.1; lia)
 refine Ya (P0 p3) ?_;refine ⟨_,rfl,wy,_,rfl,.inl (SqL.of jl),?_⟩;rw [Xv,lw];refine ⟨_,_,rfl,rfl,_,rfl,?_⟩
 by_cases r3:m3 < (aj.length:Int)
 rotate_left
 ·refine Ya (by show (!decide (m3 < (aj.length:Int)))=true; rw [decide_eq_false r3]; rfl) ?_;exact iy _ s1 λy=>r3 (by have:=ok_ y.1; lia)
 refine Vq (by show (!decide (m3 < (aj.length:Int)))=false; rw [decide_eq_true r3]; rfl) ?_;symm;refine Kz (λe=>?_) (λe=>?_)
 ·symm;refine iy _ s1 λy=>?_;have h1:=Q6 e;injection h1 with h1
  exact (ok_ y.1).1 h1
 have n13:m1≠m3:=λy=>e (P0 (by rw [y]));obtain ⟨a,rfl⟩:=A0u p1;obtain ⟨b',rfl⟩:=A0u p3;symm;have ha2:a < aj.length:=by lia
 have hb2:b' < aj.length:=by lia
 have wa:=ok.at_ ha2
 by_cases hat:at_=none\/at_=some (a:Int)
 rotate_left
 ·cases at_ with
  | none=>exact absurd (.inl rfl) hat
  | some z =>have hz:(a:Int)≠z:=λe=>hat (.inr (by rw [e]));refine Ya rfl ?_;symm;refine Ya (by simp [Ht,hz]) ?_;symm;exact iy _ s1 λy=>hat y.2
 rcases hat with rfl | rfl
 ·refine Vq rfl ?_;symm;refine ixW a jl (Di wa.1) ?_;symm
  by_cases hrm:m2=((way.getD a 0:Nat):Int)
  ·refine Vq (by simp [hrm]) ?_;have m7:m2∈Zd true ak way a b':=O6.mpr (.inr (by rw [hrm]; simp));have hok:okI true ak aj.length way ((a:Int),m2,(b':Int))=true:=P0 ⟨n13,p1,r1,p3,r3,by simpa using m7⟩;obtain ⟨a0,r,b0,eq0,_,_,_,hrl,_⟩:=Bq ok hok;have er:m2=(r:Int):=by injection eq0 with _ z; injection z
   subst er;obtain ⟨ws,hw,hR⟩:=id (hM.same s1);obtain ⟨rb,x1,x2,x3⟩:=hR.at_ (show aj[b']? = some aj[b'] by simp [hb2]);obtain ⟨ra,y1,y2,y3⟩:=hR.at_ (show aj[a]? = some aj[a] by simp [ha2]);have lrb:=ok.bok.rows _ (N7 hb2);have lra:=ok.bok.rows _ (N7 ha2);symm;refine ixW b' hw x2 ?_;symm;refine ixL (SqL.of x3) (Qs r rfl (v:=.int (wF aj b' r)) (by simp [wF,getD,hb2,show r < aj[b'].length by lia])) ?_;symm;refine ixW a hw y2 ?_;symm;refine ixW a jl (Di wa.1) ?_;have wa2:=wa.2;refine ixL (SqL.of y3) (Qs (way.getD a 0) rfl (v:=.int (Zr aj way a)) (by simp [Zr,wF,getD,ha2,show way[a]?.getD 0 < aj[a].length by rw [<- getD_eq_getElem?_getD]; lia])) ?_;have hq:=q _ s1;rw [if_pos ⟨hok,.inl rfl⟩] at hq;refine ⟨_,_,rfl,rfl,?_⟩;simpa [gnI,Zs,Ht] using hq
  ·refine Ya (by show (!decide (V.int m2=V.int ((way.getD a 0:Nat):Int)))=true; rw [decide_eq_false λz=>hrm (by injection z)]; rfl) ?_;symm;refine ⟨b,wy,ak,way,rfl,s1 _ _ hb,by lia,jl,λl4 H4 n4=>?_⟩;refine ⟨l4,_,rfl,.inl (SqL.of n4.at_),rfl,by simp [Vs],?_⟩;rw [if_pos rfl,Vb]
   by_cases hin:m2∈Yw ak (wI way)
   ·rw [decide_eq_true hin];have m7:m2∈Zd true ak way a b':=O6.mpr (.inl hin);have hok:okI true ak aj.length way ((a:Int),m2,(b':Int))=true:=P0 ⟨n13,p1,r1,p3,r3,by simpa using m7⟩;obtain ⟨a0,r,b0,eq0,_,_,_,hrl,_⟩:=Bq ok hok;have er:m2=(r:Int):=by injection eq0 with _ z; injection z
    subst er;obtain ⟨ws,hw,hR⟩:=id (hM.same (s1.trans n4.same));obtain ⟨rb,x1,x2,x3⟩:=hR.at_ (show aj[b']? = some aj[b'] by simp [hb2]);obtain ⟨ra,y1,y2,y3⟩:=hR.at_ (show aj[a]? = some aj[a] by simp [ha2]);have lrb:=ok.bok.rows _ (N7 hb2);have lra:=ok.bok.rows _ (N7 ha2);symm;refine ixW b' hw x2 ?_;symm;refine ixL (SqL.of x3) (Qs r rfl (v:=.int (wF aj b' r)) (by simp [wF,getD,hb2,show r < aj[b'].length by lia])) ?_;symm;refine ixW a hw y2 ?_;symm;refine ixW a (n4.same _ _ jl) (Di wa.1) ?_;have wa2:=wa.2;refine ixL (SqL.of y3) (Qs (way.getD a 0) rfl (v:=.int (Zr aj way a)) (by simp [Zr,wF,getD,ha2,show way[a]?.getD 0 < aj[a].length by rw [<- getD_eq_getElem?_getD]; lia])) ?_;have hq:=q _ (s1.trans n4.same);rw [if_pos ⟨hok,.inl rfl⟩] at hq;refine ⟨_,_,rfl,rfl,?_⟩;simpa [gnI,Zs,Ht] using hq
   ·rw [decide_eq_false hin];symm;refine iy _ (s1.trans n4.same) λy=>?_;rcases O6.mp (ok_ y.1).2.2.2.2.2 with z | z
    ·exact hin z
    ·exact hrm (by simpa using z)
 ·refine Ya rfl ?_;symm;refine Vq (by simp [Ht]) ?_;symm;refine ixW a jl (Di wa.1) ?_;symm
  by_cases hrm:m2=((way.getD a 0:Nat):Int)
  ·refine Vq (by simp [hrm]) ?_;have m7:m2∈Zd true ak way a b':=O6.mpr (.inr (by rw [hrm]; simp));have hok:okI true ak aj.length way ((a:Int),m2,(b':Int))=true:=P0 ⟨n13,p1,r1,p3,r3,by simpa using m7⟩;obtain ⟨a0,r,b0,eq0,_,_,_,hrl,_⟩:=Bq ok hok;have er:m2=(r:Int):=by injection eq0 with _ z; injection z
   subst er;obtain ⟨ws,hw,hR⟩:=id (hM.same s1);obtain ⟨rb,x1,x2,x3⟩:=hR.at_ (show aj[b']? = some aj[b'] by simp [hb2]);obtain ⟨ra,y1,y2,y3⟩:=hR.at_ (show aj[a]? = some aj[a] by simp [ha2]);have lrb:=ok.bok.rows _ (N7 hb2);have lra:=ok.bok.rows _ (N7 ha2);symm;refine ixW b' hw x2 ?_;symm;refine ixL (SqL.of x3) (Qs r rfl (v:=.int (wF aj b' r)) (by simp [wF,getD,hb2,show r < aj[b'].length by lia])) ?_;symm;refine ixW a hw y2 ?_;symm;refine ixW a jl (Di wa.1) ?_;have wa2:=wa.2;refine ixL (SqL.of y3) (Qs (way.getD a 0) rfl (v:=.int (Zr aj way a)) (by simp [Zr,wF,getD,ha2,show way[a]?.getD 0 < aj[a].length by rw [<- getD_eq_getElem?_getD]; lia])) ?_;have hq:=q _ s1;rw [if_pos ⟨hok,.inr rfl⟩] at hq;refine ⟨_,_,rfl,rfl,?_⟩;simpa [gnI,Zs,Ht] using hq
  ·refine Ya (by show (!decide (V.int m2=V.int ((way.getD a 0:Nat):Int)))=true; rw [decide_eq_false λz=>hrm (by injection z)]; rfl) ?_;symm;refine ⟨b,wy,ak,way,rfl,s1 _ _ hb,by lia,jl,λl4 H4 n4=>?_⟩;refine ⟨l4,_,rfl,.inl (SqL.of n4.at_),rfl,by simp [Vs],?_⟩;rw [if_pos rfl,Vb]
   by_cases hin:m2∈Yw ak (wI way)
   ·rw [decide_eq_true hin];have m7:m2∈Zd true ak way a b':=O6.mpr (.inl hin);have hok:okI true ak aj.length way ((a:Int),m2,(b':Int))=true:=P0 ⟨n13,p1,r1,p3,r3,by simpa using m7⟩;obtain ⟨a0,r,b0,eq0,_,_,_,hrl,_⟩:=Bq ok hok;have er:m2=(r:Int):=by injection eq0 with _ z; injection z
    subst er;obtain ⟨ws,hw,hR⟩:=id (hM.same (s1.trans n4.same));obtain ⟨rb,x1,x2,x3⟩:=hR.at_ (show aj[b']? = some aj[b'] by simp [hb2]);obtain ⟨ra,y1,y2,y3⟩:=hR.at_ (show aj[a]? = some aj[a] by simp [ha2]);have lrb:=ok.bok.rows _ (N7 hb2);have lra:=ok.bok.rows _ (N7 ha2);symm;refine ixW b' hw x2 ?_;symm;refine ixL (SqL.of x3) (Qs r rfl (v:=.int (wF aj b' r)) (by simp [wF,getD,hb2,show r < aj[b'].length by lia])) ?_;symm;refine ixW a hw y2 ?_;symm;refine ixW a (n4.same _ _ jl) (Di wa.1) ?_;have wa2:=wa.2;refine ixL (SqL.of y3) (Qs (way.getD a 0) rfl (v:=.int (Zr aj way a)) (by simp [Zr,wF,getD,ha2,show way[a]?.getD 0 < aj[a].length by rw [<- getD_eq_getElem?_getD]; lia])) ?_;have hq:=q _ (s1.trans n4.same);rw [if_pos ⟨hok,.inr rfl⟩] at hq;refine ⟨_,_,rfl,rfl,?_⟩;simpa [gnI,Zs,Ht] using hq
   ·rw [decide_eq_false hin];symm;refine iy _ (s1.trans n4.same) λy=>?_;rcases O6.mp (ok_ y.1).2.2.2.2.2 with z | z
    ·exact hin z
    ·exact hrm (by simpa using z)
theorem Qg1:Def P w K mg base 3 "_law_chain" [Y1,Y0,Y4,"_law_chain_here",Y9] Ox:=by
 refine Z.a68.mq [Y1,Y0,Y4,"_law_chain_here",Y9,Y42,"_law_total","_law_hop","_law_gain"] λH vs Q E hr nD h=>?_;obtain ⟨b,w,wy,cl,ak,aj,way,c,i,rfl,hb,hM,hwy,ok,hh,q⟩:=h;refine ⟨_,(Qw (Qa (Xb (Xg (Zj K Z.T.u3 (Qq (pv 3) (Qq (Jk (v:=.ty "list") rfl Z.T.u6 Jd rfl) Qz))))) (Qh Qo) Qp) (Qw (Qg 5 nD Qo) (Qw (Qg 6 nD Qx) (Qw (Xr (Wn K (pv 3)) (Ql 7 nD) (Qw (Qg 8 nD (Qd (Qg0 Z) hr (Qq (pv 0) (Qq (pv 1) (Qq (pv 2) (Qq (pv 7) (Qq (pv 5) Qz))))))) (Qw (Qa (q_t We (pv 8) Qo) (Qh Qo) Qp) (Qw (Qg 6 nD (Qk Zt (pv 6) (pv 8))) (Qm (Qg 5 nD (Qb K (pv 7) Qx))))))) (Qw (Qa (PW.pt (Wa (q_t Ka (pv 5) Qo) (Um (q_t Jj (pv 5) (pv 4))))) (Qh Qo) Qp) (Qh (pv 6))))))),?_⟩;obtain ⟨ts,e1,e2,e3⟩:=id hh;have lw:=ok.len;have lb:=ok.bok.b1;unfold chI at q;symm;refine ⟨_,_,_,true,rfl,.lst e1,Yb _ _,_,rfl,Ml ?_⟩;symm;refine ⟨⟨_,SqL.of e1⟩,?_⟩;refine L2.Tq (xs:=ts.map V.ref) (λk σ H' => ∃ (tot:Int) (at_:M5) (o7 o8:Option V),σ=[rf b,rf w,rf wy,rf cl,iv (i:Int),some (Ht at_),iv tot,o7,o8]/\Qu H H'/\fwI (okI true ak aj.length way) (gnI true aj way) c none (i:Int)=(fwI (okI true ak aj.length way) (gnI true aj way) (c.drop k) at_ (i:Int)).map (· + tot)) ⟨0,none,none,none,rfl,Qu.refl _,by rw [drop_zero]; cases fwI (okI true ak aj.length way) (gnI true aj way) c none (i:Int) <;> simp⟩ (λk σ H' _ h=>h.choose_spec.choose_spec.choose_spec.choose_spec.2.1.seq (SqL.of e1)) ?_ ?_
 ·intro k x σ H1 hx q9; obtain ⟨tot,at_,o7,o8,rfl,s1,hw⟩:=q9;obtain ⟨t,ht,rfl⟩:=Ju hx;have hk:k < c.length:=by rw [<- e2]; exact (N8.mp ht).1
  have hm:c[k]? = some c[k]:=by simp [hk]
  have htt:=s1 _ _ (e3 _ _ _ ht hm);rw [drop_eq_getElem_cons hk] at hw;generalize c[k]=m at *;generalize hrest:c.drop (k + 1)=j7 at *;symm;refine ⟨b,w,wy,t,ak,aj,way,m,at_,rfl,s1 _ _ hb,hM.same s1,s1 _ _ hwy,ok,htt,λH2 s2=>?_⟩;rw [fwI] at hw
  by_cases hc:okI true ak aj.length way m=true/\(at_=none\/at_=some m.1)
  ·rw [if_pos hc] at hw ⊢;symm;refine ixU (s2 _ _ htt) rfl ?_;refine ⟨_,some m.2.2,_,_,rfl,s1.trans s2,?_⟩;rw [hw];cases fwI (okI true ak aj.length way) (gnI true aj way) j7 (some m.2.2) (i:Int) with
   | none=>rfl
   | some y =>
    simp only [Option.map_some]
    congr 1
    lia
  ·rw [if_neg hc] at hw ⊢;have:=q H2 (s1.trans s2);rw [hw] at this;symm;exact this
 ·intro σ H1 q9; obtain ⟨tot,at_,o7,o8,rfl,s1,hw⟩:=q9;rw [drop_eq_nil_of_le (by simp [e2])] at hw;have hq:=q _ s1;rw [hw,fwI] at hq;symm;cases at_ with
  | none =>rw [if_pos (.inl rfl)] at hq;refine Vq rfl ?_;symm;simpa [Ht] using hq
  | some z =>
   refine Ya rfl ?_;symm
   by_cases hz:z=(i:Int)
   ·rw [if_pos (.inr (by rw [hz]))] at hq;refine Vq (by simp [Ht,hz]) ?_;symm;simpa [Ht] using hq
   ·rw [if_neg (λy=>y.elim (λy=>nomatch y) λy=>hz (Option.some.inj y))] at hq;refine Ya (by simp [Ht,hz]) ?_;symm;exact hq
theorem Qtx:Def P w K mg base 4 "_law_row" [Y1,Y0,Y4,Y3,Y18,Y9] Qb6:=by
 refine Z.a69.mq [Y1,Y0,Y4,Y3,Y18,Y9,"_law_gain",Y26] @λ_ _ _ _ s H vs Q E hr nD h=>?_;obtain ⟨b,w,wy,pu,t,cl,ak,aj,way,ps,k,c,i,rfl,hb,hM,hwy,ok,hpu,lps,ht,hh,hi,q⟩:=h;refine ⟨_,(zcF (zcC (Qa (PW.pt (Xs (Xb (Xg (Zj K Z.T.u3 (Qq (pv 4) (Qq (Jk (v:=.ty "tuple") rfl Z.T.u7 Yn rfl) Qz))))) (Xi (PW.pt (Wa (q_t (Nw (K:=K) rfl hr.units) (Vg (Qx4 (K:=K) rfl) (pv 4) Tn (Wv Qx)) (Zp (Qq Yd Qz))) (Um (q_t (Nw (K:=K) rfl hr.units) (Vg (Qx4 (K:=K) rfl) (pv 4) Tn (Wv Qx)) (Zp (Qq Yd Qz))))))))) (Qh Qo) Qp) (zcC (Qa (q_t Jj (Zk K Z.T.u0 (Qq (pv 4) Qz)) (Qk Zt Qx (Tx Gd (by rfl) Z.T.u4 Tj (Qq (Jw Jb (Qb K (pv 4) Qx) Yd (Vl _)) Qz)))) (Qh Qo) Qp) (zcC (Qg 6 nD (Qd (Qg1 Z) hr (Qq (pv 0) (Qq (pv 1) (Qq (pv 2) (Qq (Qb K (pv 4) (Qs6 Qm0 Qx)) (Qq (pv 5) Qz))))))) (zcC (Qa (PW.pt (Xs (q_t We (pv 6) Qo) (Xi (q_t Jb (Qb K (pv 4) Qx) Yd)))) (Qh (pv 6)) Qp) (zcC (Qg 7 nD (Qb K (pv 4) Qx)) (zcC (Qa (PW.pt (Xs (Xb (Xg (Qd (Nb Z) hr (Qq (pv 7) Qz)))) (Xs (Xb (Ri Hi Rb Qx (pv 7) (Zk K Z.T.u0 (Qq (pv 2) Qz)))) (Xi (q_t We (Qb K (pv 3) (pv 7)) Qo))))) (Qh Qo) Qp) (zcC (Qa (PW.pt (Xs (PW.pt (Wa (q_t (Qr1 (K:=K) rfl hr.units) (Qb K (pv 4) Qx) (Zq Qz)) (Um (q_t Jj (pv 7) (pv 5))))) (Xi (PW.pt (Wa (q_t (Nw (K:=K) rfl hr.units) (Qb K (pv 4) Qx) (Zq Qz)) (Um (q_t Jj (Qb K (Qb K (Qb K (pv 4) Qx) Qx) Qx) (pv 7)))))))) (Qh Qo) Qp) (zcL (Qh (Qk Zt (Qk Zh (Qb K (Qb K (pv 1) (pv 7)) (Qb K (pv 2) (pv 7))) (Qb K (pv 3) (pv 7))) (pv 6)))))))))))),?_⟩;have lw:=ok.len;have lb:=ok.bok.b1;have hl:atI (Hr k cl) (-1)=some (.ref cl):=by cases k <;> rfl
 symm;refine ⟨_,_,_,true,rfl,.tup ht,Yb _ _,_,rfl,Ml ?_⟩;have sOk:∀ s:Str,s=Str.ofString "free"\/s=Str.ofString "purse"->SeqAt.shaped (.tuple [.str s])=true:=λs h=>by rcases h with rfl | rfl <;> decide +kernel
 symm;refine ⟨t,_,rfl,SqT.of ht,?_⟩;cases k with
 | none =>
  refine ⟨by show ¬ (HT.sIx 2 0 none=0/\HT.sIx 2 2 (some 1)=2); decide,λp1 f1=>?_⟩;have n1:=Jy (o:=.tup (Ds (Hr none cl) none (some 1))) f1;generalize upd H p1 (.tup (Ds (Hr none cl) none (some 1)))=H1 at *;have hp1:H1 p1=some (.tup [.str (Str.ofString "free")]):=n1.at_;symm;refine λp2 H2 n2=>?_;refine ⟨.tuple [.str (Str.ofString "free")],.tuple [.str (Str.ofString "free")],Kn (SqT.of (n2.same _ _ hp1)) (.cons Fi .nil),Kn (SqT.of n2.at_) (.cons Fi .nil),sOk _ (.inl rfl),sOk _ (.inl rfl),?_⟩;rw [show PyData.eqv (.tuple [.str (Str.ofString "free")]) (.tuple [.str (Str.ofString "free")])=true by simp [PyData.eqv,PyData.eqvAll]];refine ⟨_,rfl,Vq rfl ?_⟩;have S2:Qu H H2:=n1.same.trans n2.same;have ht2:=S2 _ _ ht;symm;refine ⟨t,_,rfl,.inr (SqT.of ht2),?_⟩;symm;refine ixU ht2 rfl ?_;symm;refine .inr ⟨_,rfl,?_⟩;symm;refine ixU ht2 hl ?_;symm;refine ⟨b,w,wy,cl,ak,aj,way,c,i,rfl,S2 _ _ hb,hM.same S2,S2 _ _ hwy,ok,hh.same S2,λH3 s3=>?_⟩;have hq:=q H3 (S2.trans s3);nofun;unfold Qg2 at hq;symm;cases hc:chI true ak aj way c i with
  | none =>rw [hc] at hq;refine Ya rfl ?_;symm;exact hq
  | some g =>rw [hc] at hq;refine Vq rfl ?_;symm;refine ixU (s3 _ _ ht2) rfl ?_;symm;exact hq
 | some k =>
  refine ⟨by show ¬ (HT.sIx 3 0 none=0/\HT.sIx 3 3 (some 1)=3); decide,λp1 f1=>?_⟩;have n1:=Jy (o:=.tup (Ds (Hr (some k) cl) none (some 1))) f1;generalize upd H p1 (.tup (Ds (Hr (some k) cl) none (some 1)))=H1 at *;have hp1:H1 p1=some (.tup [.str (Str.ofString "purse")]):=n1.at_;symm;refine λp2 H2 n2=>?_;refine ⟨.tuple [.str (Str.ofString "purse")],.tuple [.str (Str.ofString "free")],Kn (SqT.of (n2.same _ _ hp1)) (.cons Fi .nil),Kn (SqT.of n2.at_) (.cons Fi .nil),sOk _ (.inr rfl),sOk _ (.inl rfl),?_⟩;rw [show PyData.eqv (.tuple [.str (Str.ofString "purse")]) (.tuple [.str (Str.ofString "free")])=false by decide +kernel];refine ⟨_,rfl,Ya rfl ?_⟩;have S2:Qu H H2:=n1.same.trans n2.same;have ht2:=S2 _ _ ht;symm;refine ⟨t,_,rfl,SqT.of ht2,by show ¬ (HT.sIx 3 0 none=0/\HT.sIx 3 3 (some 1)=3); decide,λp3 f3=>?_⟩;have n3:=Jy (o:=.tup (Ds (Hr (some k) cl) none (some 1))) f3;generalize upd H2 p3 (.tup (Ds (Hr (some k) cl) none (some 1)))=H3 at *;have hp3:H3 p3=some (.tup [.str (Str.ofString "purse")]):=n3.at_;symm;refine λp4 H4 n4=>?_;refine ⟨.tuple [.str (Str.ofString "purse")],.tuple [.str (Str.ofString "purse")],Kn (SqT.of (n4.same _ _ hp3)) (.cons Fi .nil),Kn (SqT.of n4.at_) (.cons Fi .nil),sOk _ (.inr rfl),sOk _ (.inr rfl),?_⟩;rw [show PyData.eqv (.tuple [.str (Str.ofString "purse")]) (.tuple [.str (Str.ofString "purse")])=true by decide +kernel];refine ⟨_,rfl,Vq rfl ?_⟩;have S4:Qu H H4:=S2.trans (n3.same.trans n4.same);have ht4:=S4 _ _ ht;symm;refine ⟨t,_,rfl,.inr (SqT.of ht4),?_⟩;symm;refine ixU ht4 rfl ?_;symm;refine .inr ⟨_,rfl,?_⟩;symm;refine ixU ht4 hl ?_;symm;refine ⟨b,w,wy,cl,ak,aj,way,c,i,rfl,S4 _ _ hb,hM.same S4,S4 _ _ hwy,ok,hh.same S4,λH5 s5=>?_⟩;have S5:Qu H H5:=S4.trans s5;have ht5:=S5 _ _ ht;have hwy5:=S5 _ _ hwy;have hpu5:=S5 _ _ hpu;symm;cases hc:chI true ak aj way c i with
  | none =>have hq:=q H5 S5;unfold Qg2 at hq;rw [hc] at hq;refine Ya rfl ?_;symm;exact hq
  | some g =>
   refine Vq rfl ?_;symm;refine ixU ht5 rfl ?_;symm;refine ixU ht5 rfl ?_;have hbg:=Qe6 ok hi hc;have hpb:Qg2 ak aj way ps (some k) c i=if k=Fb c i then (match ps.getD k.toNat none with
    | none=>none
    | some p=>some (Zr aj way k.toNat - p + g)) else none:=by
    unfold Qg2;rw [hc]
    try rfl
   have iy:∀ H',Qu H H'->(k=Fb c i->ps.getD k.toNat none=none)->Q .non H':=λH' s' y=>by
    have:=q H' s';rw [hpb] at this
    by_cases e:k=Fb c i
    ·rw [if_pos e,y e] at this;exact this
    ·rw [if_neg e] at this;exact this
   symm
   by_cases p1:0<=k
   rotate_left
   ·refine Vq (T5 p1) ?_;refine ⟨_,rfl,Ya rfl ?_⟩;symm;exact iy _ S5 λe=>absurd (by rw [e]; exact hbg.1) p1
   refine Ya (P0 p1) ?_;refine ⟨_,rfl,wy,_,rfl,.inl (SqL.of hwy5),?_⟩;rw [Xv,lw];refine ⟨_,_,rfl,rfl,_,rfl,?_⟩
   by_cases r1:k < (aj.length:Int)
   rotate_left
   ·refine Ya (by show (!decide (k < (aj.length:Int)))=true; rw [decide_eq_false r1]; rfl) ?_;symm;exact iy _ S5 λe=>absurd (by rw [e]; exact hbg.2) r1
   refine Vq (by show (!decide (k < (aj.length:Int)))=false; rw [decide_eq_true r1]; rfl) ?_;obtain ⟨n,rfl⟩:=A0u p1;have hn:n < aj.length:=by lia
   have hnp:n < ps.length:=by lia
   have gp:(ps.map oV)[n]? = some (oV (ps.getD n none)):=by simp [getD,hnp]
   rw [Int.toNat_natCast] at hpb iy;symm;refine ixW n hpu5 gp ?_;cases hx:ps.getD n none with
   | none =>symm;exact iy _ S5 λ_=>hx
   | some x =>
    symm;refine ixU ht5 rfl ?_;symm;refine λl6 H6 n6=>?_;have S6:Qu H H6:=S5.trans n6.same;refine ⟨Hc c,Hc [],Qzx (hh.same S6),Wz (SqL.of n6.at_) .nil,Jm _,Jm _,?_⟩;cases c with
    | nil =>
     rw [Qv2];refine ⟨_,rfl,Ya rfl ?_⟩;symm
     by_cases e:(n:Int)=(i:Int)
     ·refine Vq (by simp [e]) ?_;symm;refine ixU (S6 _ _ ht) rfl ?_;symm;refine λl7 H7 n7=>?_;have S7:Qu H H7:=S6.trans n7.same;refine ⟨Hc [],Hc [],Qzx (hh.same S7),Wz (SqL.of n7.at_) .nil,Jm _,Jm _,?_⟩;rw [Qv2];refine ⟨_,rfl,Vq rfl ?_⟩;obtain ⟨ws,hw,hR⟩:=id hM;obtain ⟨ra,r2,r3,r4,r5⟩:=Ks (i:=n) hR ok hn;have gp2:(ps.map oV)[n]? = some (.int x):=by rw [gp,hx]; rfl
      symm;refine ixW n (S7 _ _ hw) r2 ?_;symm;refine ixW n (S7 _ _ hwy) r4 ?_;refine ixW _ (S7 _ _ r3) r5 ?_;symm;refine ixW n (S7 _ _ hpu) gp2 ?_;have hq:=q _ S7;rw [hpb,if_pos (show (n:Int)=Fb [] i from e),hx] at hq;symm;exact hq
     ·refine Ya (by simp [e]) ?_;symm;exact iy _ S6 λe'=>absurd e' e
    | cons m c =>
     have hne:PyData.eqv (Hc (m :: c)) (Hc [])=false:=by simp [Hc,PyData.eqv,PyData.eqvAll]
     rw [hne];refine ⟨_,rfl,Vq rfl ?_⟩;symm;refine ixU (S6 _ _ ht) rfl ?_;symm;refine λl7 H7 n7=>?_;have S7:Qu H H7:=S6.trans n7.same;refine ⟨Hc (m :: c),Hc [],Qzx (hh.same S7),Wz (SqL.of n7.at_) .nil,Jm _,Jm _,?_⟩;rw [hne];refine ⟨_,rfl,Ya rfl ?_⟩;obtain ⟨ts,e1,e2,e3⟩:=id (hh.same S7);cases ts with
     | nil=>cases e2
     | cons t0 ts =>
      have ht0:=e3 0 t0 m rfl rfl;symm;refine ixU (S7 _ _ ht) rfl ?_;symm;refine ixW 0 e1 rfl ?_;symm;refine ixU ht0 rfl ?_;symm
      by_cases e:(n:Int)=m.1
      ·refine Vq (by simp [e]) ?_;obtain ⟨ws,hw,hR⟩:=id hM;obtain ⟨ra,r2,r3,r4,r5⟩:=Ks (i:=n) hR ok hn;have gp2:(ps.map oV)[n]? = some (.int x):=by rw [gp,hx]; rfl
       symm;refine ixW n (S7 _ _ hw) r2 ?_;symm;refine ixW n (S7 _ _ hwy) r4 ?_;refine ixW _ (S7 _ _ r3) r5 ?_;symm;refine ixW n (S7 _ _ hpu) gp2 ?_;have hq:=q _ S7;rw [hpb,if_pos (show (n:Int)=Fb (m :: c) i from e),hx] at hq;symm;exact hq
      ·refine Ya (by simp [show ¬ m.1=(n:Int) from λz=>e z.symm]) ?_;symm;exact iy _ S7 λe'=>absurd e' e
theorem Ei:Def P w K mg base 5 "_law_paper" [Y1,Y0,Y4,Y3,Y15] Qw1:=by
 refine Z.a70.mq [Y1,Y0,Y4,Y3,Y15,Y33,Y9] λH vs Q E hr nD h=>?_;obtain ⟨b,w,wy,pu,pl,ak,aj,way,ps,rows,as,rfl,hb,hM,hwy,aok,hpu,lps,pap,ok,q⟩:=h;refine ⟨_,(zcF (zcC (Qa (PW.pt (Xs (Xb (Xg (Zj K Z.T.u3 (Qq (pv 4) (Qq (Jk (v:=.ty "list") rfl Z.T.u6 Jd rfl) Qz))))) (Xi (q_t Jj (Zk K Z.T.u0 (Qq (pv 4) Qz)) (Zk K Z.T.u0 (Qq (pv 2) Qz)))))) (Qh Qo) Qp) (zcC (Qg 5 nD (Zq Qz)) (zcC (Xr (Zo Z.T.u1 (Qq (Zk K Z.T.u0 (Qq (pv 2) Qz)) Qz)) (Ql 6 nD) (Qm (Xt (Tf K (pv 5) (Qq (Qd (Qtx Z) hr (Qq (pv 0) (Qq (pv 1) (Qq (pv 2) (Qq (pv 3) (Qq (Qb K (pv 4) (pv 6)) (Qq (pv 6) Qz))))))) Qz))))) (zcC (Qa (Vx (Yr (K:=K) rfl) Qo (pv 5) (by with_unfolding_all rfl)) (Qh Qo) Qp) (zcL (Qh (Zp (Qq (Qt (Xo (K:=K) rfl rfl) (by rfl) Z.T.u10 Yq (Qq (pv 5) Qz)) (Qq (Zk K Z.T.u0 (Qq (Tt [Y18] [none] (Wn K (pv 4)) (q_t Jb (Qb K (pv 0) Qx) Yd) (pv 0)) Qz)) Qz)))))))))),?_⟩;obtain ⟨ts,e1,e2,e3⟩:=pap;have l1:=ok.l1;have l2:=ok.l2;have lw:=aok.len;have lwo:=aok.bok.w1;symm;refine ⟨_,_,_,true,rfl,.lst e1,Yb _ _,_,rfl,Ml ?_⟩;symm;refine ⟨pl,_,rfl,.inl (SqL.of e1),?_⟩;symm;refine ⟨wy,_,rfl,.inl (SqL.of hwy),?_⟩;rw [length_map,Xv,e2,l1,lw];symm;refine Vq (by simp) ?_;symm;refine λl H1 n1=>?_;symm;refine ⟨wy,_,rfl,.inl (SqL.of (n1.same _ _ hwy)),?_⟩;rw [Xv,lw];walk_at "r";refine Zu (λi σ H' => ∃ (o6:Option V),σ=[rf b,rf w,rf wy,rf pu,rf pl,rf l,o6]/\Qu H H'/\H' l=some (.lst ((as.take i).map V.int))) ⟨_,rfl,n1.same,n1.at_⟩ ?_ ?_
 ·nofun;intro i σ H2 hi q9; obtain ⟨o6,rfl,s2,hl⟩:=q9;rw [Int.zero_add];have hit:i < ts.length:=by lia
  have hir:i < rows.length:=by lia
  obtain ⟨c,c1,c2⟩:=e3 i _ _ (R7 hit) (R7 hir);have gt:(ts.map V.ref)[i]? = some (.ref ts[i]):=by simp [hit]
  have hat:=ok.at_ i hi;have er:rows.getD i (none,[])=rows[i]:=by simp [getD,hir]
  rw [er] at hat;symm;refine ⟨.inl ⟨rfl,_,SqL.of hl⟩,?_⟩;symm;refine ixW i (s2 _ _ e1) gt ?_;symm;refine ⟨b,w,wy,pu,ts[i],c,ak,aj,way,ps,rows[i].1,rows[i].2,i,rfl,s2 _ _ hb,hM.same s2,s2 _ _ hwy,aok,s2 _ _ hpu,lps,s2 _ _ c1,c2.same s2,hi,λH3 s3=>?_⟩;rw [hat];refine ⟨l,_,_,rfl,rfl,s3 _ _ hl,by rw [sizeLine_eq,length_map,length_take]; lia,?_⟩;nofun;refine ⟨_,rfl,(s2.trans s3).updT n1.none,?_⟩;have et:(as.take (i + 1)).map V.int=(as.take i).map V.int ++ [V.int (as.getD i 0)]:=by rw [take_succ,getElem?_eq_getElem (show i < as.length by lia),map_append];simp [getD,show i < as.length by lia]
  rw [Qy,et];rfl
 ·intro σ H2 q9; obtain ⟨o6,rfl,s2,hl⟩:=q9;nofun;rw [<- l2,take_length] at hl;symm;refine ⟨l,_,rfl,.inl (SqL.of hl),rfl,by simp [Vs],?_⟩;rw [if_neg Bool.false_ne_true,show inV V.non (as.map V.int)=false by simp [inV,eqV]];symm;refine ⟨l,_,rfl,SqL.of hl,?_⟩;symm;refine ⟨⟨_,SqL.of (s2 _ _ e1)⟩,λD hD=>?_⟩;refine Wu (λi=>(rows.getD i (none,[])).1.isNone) (λi=>.ref (ts.getD i 0)) (SqL.of (s2 _ _ e1)) (by rw [length_map,sizeLine_eq]; lia) hD ?_ ?_ ?_
  ·intro i x H3 N hx s3 hN;obtain ⟨hit,rfl⟩:∃ hit:i < ts.length,x=.ref ts[i]:=by obtain ⟨h1,h2⟩:=N8.mp hx;exact ⟨by simpa using h1,by rw [<- h2]; simp⟩
   have hir:i < rows.length:=by lia
   obtain ⟨c,c1,c2⟩:=e3 i _ _ (R7 hit) (R7 hir);have er:rows.getD i (none,[])=rows[i]:=by simp [getD,hir]
   have c3:=s3 _ _ (s2 _ _ c1);rw [er] at hN;cases hk:rows[i].1 with
   | none =>
    rw [hk] at c3 hN;symm;refine ixU c3 rfl ?_;have e0:decide (V.str (Str.ofString "free")=V.str (Str.ofString "free"))=true:=by first | rfl | simp
    have hN':=hN _ (Qu.refl _);exact ⟨by trivial,_,rfl,by rw [e0]; exact hN'⟩
   | some k =>
    rw [hk] at c3 hN;symm;refine ixU c3 rfl ?_;have e0:decide (V.str (Str.ofString "purse")=V.str (Str.ofString "free"))=false:=by first | rfl | decide +kernel
    have hN':=hN _ (Qu.refl _);exact ⟨by trivial,_,rfl,by rw [e0]; exact hN'⟩
  ·intro i x H3 N hx _ s3 hN;obtain ⟨hit,rfl⟩:∃ hit:i < ts.length,x=.ref ts[i]:=by obtain ⟨h1,h2⟩:=N8.mp hx;exact ⟨by simpa using h1,by rw [<- h2]; simp⟩
   have:=hN _ (Qu.refl _);rw [show ts.getD i 0=ts[i] by simp [getD,hit]] at this;exact ⟨_,rfl,this⟩
  ·intro H3 s3 d3;refine ⟨D,_,rfl,.inl (SqL.of d3),?_⟩;rw [length_map,length_map,e2,Dc];symm;exact λt H4 n4=>q t H4 ((s2.trans s3).trans n4.same) n4.at_
theorem Qux:Def P w K mg base 2 "_law_purses" [Y6,Y0,Y4,Y14] (Ir K):=by
 refine Z.a71.mq [Y6,Y0,Y4,Y14,"_law_end","_law_head",Y3,Y9,"_law_m","_law_price","_law_step"] λH vs Q E hr nD h=>?_;obtain ⟨a,w,wy,tp,rl,ns,ak,aj,way,k,R,rfl,hS,hwy,ok,htp,hrl,lR,k0,k1,q⟩:=h;refine ⟨_,(zcF (zcC (Qg 4 nD (Qk Zh (Qk Pl Qx Qx) Qx)) (zcC (Qg 5 nD (Qd (Vy Z) hr (Qq (Qd (Rc Z) hr (Qq (pv 0) (Qq Qx Qz))) (Qq Qx Qz)))) (zcC (Qg 6 nD (Zq Qz)) (zcL (Qw (Xr (Zo Z.T.u1 (Qq (Zk K Z.T.u0 (Qq (pv 2) Qz)) Qz)) (Ql 7 nD) (zcF (zcC (Qg 8 nD (Qd (Vy Z) hr (Qq (Qd (Rc Z) hr (Qq (pv 0) (Qq (Qk Zt Qx (pv 7)) Qz))) (Qq (Qk Zt Qx (pv 7)) Qz)))) (zcC (Qg 9 nD (Qk Xc (Qb K (Qb K (pv 3) Qx) (Qb K (pv 2) (pv 7))) (Qb K (pv 3) Qx))) (zc1 (Qa (PW.pt (Wa (q_t Jb (Qk Zg (pv 8) Qx) Qx) (Um (q_t Jj (Qk Zg (pv 5) Qx) Qx)))) (Qm (Xt (Tf K (pv 6) (Qq Qo Qz)))) (zcF (zcC (Qg 10 nD (Qb K (Zq (Qq (Qk Zh (Qk Zg (Qk Xc (pv 8) Qx) Qx) Qx) (Qq (Qk Zh (Qk Zg (Qk Xc (pv 8) Qx) Qx) Qx) (Qq (Qk Zh (Qk Zg (Qk Xc (pv 8) Qx) Qx) Qx) Qz)))) (Qk Zg (Qk Xc (pv 5) Qx) Qx))) (zcC (zcJ (Qa (q_t Jb (Qk Zg (Qk Xc (pv 5) Qx) Qx) Qx) (Qm (Qg 10 nD (Qk Zh (Qk Zg (Qd (Rc Z) hr (Qq (pv 0) (Qq (Qk Zt Qx (pv 7)) Qz))) (Qk Zh (Qk Qr Qx (Qk Pl Qx Qx)) Qx)) (pv 4)))) Qp)) (zc1 (Xt (Tf K (pv 6) (Qq (Qt (Qu5 rfl) (by rfl) Z.T.u9 Gr (Qq (Qs6 Qm0 (pv 4)) (Qq (Qt (Lv rfl) (by rfl) Z.T.u8 Jq (Qq (pv 4) (Qq (Qk Zt (pv 9) (pv 10)) Qz))) Qz))) Qz))))))))))))) (Qh (pv 6)))))))),?_⟩;have lw:=ok.len;have lb:=ok.bok.b1;have lwo:=ok.bok.w1;symm;refine ⟨a,ns,_,rfl,hS,by lia,λz0=>?_⟩;symm;refine ⟨z0,_,rfl,by lia,by lia,λhd hd0 hd1=>?_⟩;symm;refine λl H1 n1=>?_;symm;refine ⟨wy,_,rfl,.inl (SqL.of (n1.same _ _ hwy)),?_⟩;rw [Xv,lw];walk_at "r";refine Zu (λi σ H' => ∃ (o7 o8 o9 o10:Option V) (ps:K1),σ=[rf a,rf w,rf wy,rf tp,iv (10 ^ Int.toNat 40 - 1),iv hd,rf l,o7,o8,o9,o10]/\(∀ c o,c≠l->H1 c=some o->H' c=some o)/\H' l=some (.lst (ps.map oV))/\ps.length=i/\∀ x∈ps,∀ z,x=some z->-(10 ^ 42) < z/\z < 10 ^ 42) ⟨_,_,_,_,[],rfl,(λc o _ e=>e),n1.at_,rfl,λx hx=>by cases hx⟩ ?_ ?_
 ·nofun;intro i σ H2 hi q9; obtain ⟨o7,o8,o9,o10,ps,rfl,k2,hl,lp,hb⟩:=q9;have hiw:i < aj.length:=by lia
  have s2:Qu H H2:=λc o e=>k2 c o (Qj e n1.none) (n1.same _ _ e);nofun;rw [Int.zero_add];have push:∀ (x:M5) (H0 H3:Hp),Qu H2 H0->(∀ z,x=some z->-(10 ^ 42) < z/\z < 10 ^ 42)->H3=upd H0 l (.lst (ps.map oV ++ [oV x]))->(∀ c o,c≠l->H1 c=some o->H3 c=some o)/\H3 l=some (.lst ((ps ++ [x]).map oV))/\(ps ++ [x]).length=i + 1/\∀ y∈ps ++ [x],∀ z,y=some z->-(10 ^ 42) < z/\z < 10 ^ 42:=λx H0 H3 s0 hx e=>by
   subst e;refine ⟨λc o hc h=>by rw [Qv hc]; exact s0 _ _ (k2 c o hc h),by rw [Qy]; simp,by simp [lp],λy hy z e=>?_⟩;rcases O6.mp hy with h | h
   ·exact hb y h z e
   ·rw [mem_singleton.mp h] at e;exact hx z e
  have hwi:=(ok.at_ hiw).2;have gwy:((wI way).map V.int)[i]? = some (.int ((way.getD i 0:Nat):Int)):=by simp [wI,getD,show i < way.length by lia]
  have gR:(R.map V.int)[way.getD i 0]? = some (.int (R.getD (way.getD i 0) 0)):=by
   generalize way.getD i 0=r at *;have:r < R.length:=by lia
   simp [getD,this]
  symm;refine ⟨a,ns,_,rfl,s2.seq hS,by lia,λz=>?_⟩;symm;refine ⟨z,_,rfl,by lia,by lia,λm p0 p1=>?_⟩;symm;refine ixU (s2 _ _ htp) rfl ?_;symm;refine ixW i (s2 _ _ hwy) gwy ?_;refine ixW _ (s2 _ _ hrl) gR ?_;symm;refine ixU (s2 _ _ htp) rfl ?_;refine ⟨_,_,rfl,rfl,⟨k0,by lia⟩,?_⟩;nofun;refine stC (σ':=[rf a,rf w,rf wy,rf tp,iv (10 ^ Int.toNat 40 - 1),iv hd,rf l,iv (i:Int),iv m,iv (R.getD (way.getD i 0) 0 / k),o10]) rfl ?_;generalize R.getD (way.getD i 0) 0 / k=pr;symm;refine Kz (λ_=>?_) (λ_=>?_)
  ·symm;refine Kz (λ_=>?_) (λ_=>?_)
   ·symm;refine ⟨.inl ⟨rfl,_,SqL.of hl⟩,?_⟩;symm;refine ⟨l,_,_,rfl,rfl,hl,by rw [sizeLine_eq,length_map]; lia,?_⟩;obtain ⟨f1,f2,f3,f4⟩:=push none _ _ (Qu.refl _) (λz e=>by cases e) rfl;nofun;exact ⟨_,_,_,_,ps ++ [none],rfl,f1,f2,f3,f4⟩
   ·symm;refine λlD H3 n3=>?_;symm;refine Bx (ns:=[m / 3 % 5 - 2,m / 3 % 401 - 200,m / 3 % 2001 - 1900]) (SqL.of n3.at_) (by show (0:Int)<=hd / 4 % 3; lia) (by show hd / 4 % 3 < 3; lia) λsv _=>?_;nofun;refine ⟨λσ H' => ∃ sv,σ=[rf a,rf w,rf wy,rf tp,iv (10 ^ Int.toNat 40 - 1),iv hd,rf l,iv (i:Int),iv m,iv pr,iv sv]/\Qu H2 H',?_,?_⟩
    ·symm;refine Kz (λ_=>?_) (λ_=>?_)
     ·symm;refine ⟨a,ns,_,rfl,(s2.trans n3.same).seq hS,by lia,λz9=>?_⟩;symm;exact n3.same
     ·nofun;exact ⟨sv,rfl,n3.same⟩
    ·intro σ H4 q9; obtain ⟨sv,rfl,s4⟩:=q9;symm;refine ⟨.inl ⟨rfl,_,SqL.of (s4 _ _ hl)⟩,?_⟩;symm;refine ⟨_,_,rfl,?_⟩;refine ⟨_,_,rfl,?_⟩;refine ⟨l,_,_,rfl,rfl,s4 _ _ hl,by rw [sizeLine_eq,length_map]; lia,?_⟩;have e40:(10:Int) ^ Int.toNat 40=10 ^ 40:=rfl;obtain ⟨f1,f2,f3,f4⟩:=push (some (if (if pr + sv < 10 ^ Int.toNat 40 - 1 then pr + sv else 10 ^ Int.toNat 40 - 1) > -(10 ^ Int.toNat 40 - 1) then (if pr + sv < 10 ^ Int.toNat 40 - 1 then pr + sv else 10 ^ Int.toNat 40 - 1) else -(10 ^ Int.toNat 40 - 1))) H4 _ s4 (λz e=>by
      rw [e40] at e;have e':=R5 e;rw [<- e']
      split <;> split <;> lia) rfl
     nofun;exact ⟨_,_,_,_,ps ++ [some _],rfl,f1,f2,f3,f4⟩
  ·symm;refine λlD H3 n3=>?_;symm;refine Bx (ns:=[m / 3 % 5 - 2,m / 3 % 401 - 200,m / 3 % 2001 - 1900]) (SqL.of n3.at_) (by show (0:Int)<=hd / 4 % 3; lia) (by show hd / 4 % 3 < 3; lia) λsv _=>?_;nofun;refine ⟨λσ H' => ∃ sv,σ=[rf a,rf w,rf wy,rf tp,iv (10 ^ Int.toNat 40 - 1),iv hd,rf l,iv (i:Int),iv m,iv pr,iv sv]/\Qu H2 H',?_,?_⟩
   ·symm;refine Kz (λ_=>?_) (λ_=>?_)
    ·symm;refine ⟨a,ns,_,rfl,(s2.trans n3.same).seq hS,by lia,λz9=>?_⟩;symm;exact n3.same
    ·nofun;exact ⟨sv,rfl,n3.same⟩
   ·intro σ H4 q9; obtain ⟨sv,rfl,s4⟩:=q9;symm;refine ⟨.inl ⟨rfl,_,SqL.of (s4 _ _ hl)⟩,?_⟩;symm;refine ⟨_,_,rfl,?_⟩;refine ⟨_,_,rfl,?_⟩;refine ⟨l,_,_,rfl,rfl,s4 _ _ hl,by rw [sizeLine_eq,length_map]; lia,?_⟩;have e40:(10:Int) ^ Int.toNat 40=10 ^ 40:=rfl;obtain ⟨f1,f2,f3,f4⟩:=push (some (if (if pr + sv < 10 ^ Int.toNat 40 - 1 then pr + sv else 10 ^ Int.toNat 40 - 1) > -(10 ^ Int.toNat 40 - 1) then (if pr + sv < 10 ^ Int.toNat 40 - 1 then pr + sv else 10 ^ Int.toNat 40 - 1) else -(10 ^ Int.toNat 40 - 1))) H4 _ s4 (λz e=>by
     rw [e40] at e;have e':=R5 e;rw [<- e']
     split <;> split <;> lia) rfl
    nofun;exact ⟨_,_,_,_,ps ++ [some _],rfl,f1,f2,f3,f4⟩
 ·intro σ H2 q9; obtain ⟨o7,o8,o9,o10,ps,rfl,k2,hl,lp,hb⟩:=q9;symm;exact q l ps H2 (λc o e=>k2 c o (Qj e n1.none) (n1.same _ _ e)) n1.none hl lp hb
theorem Qtk:Def P w K mg base 6 "_law_kept" [Y1,Y0,Y11,Y4,Y3,Y14,Y15] Qbj:=by
 refine Z.a72.mq [Y1,Y0,Y11,Y4,Y3,Y14,Y15,Y21,Y12,Y9,Y33,"_law_cheap",Y43,"_law_left"] @λf _ _ _ _ H vs Q E hr nD h=>?_;obtain ⟨b,w,wy,pu,tp,rl,pl,ak,aj,ao,way,ps,k,R,rows,rfl,hb,hM,hwy,HG,hre,ln,fit,hpu,lps,pb,htp,hrl,pap,kp,q⟩:=h;refine ⟨_,(Qw (Qa (PW.pt (Xs (Xb (Xg (Qd (Quj Z) hr (Qq (pv 5) (Qq (Zk K Z.T.u0 (Qq (pv 0) Qz)) Qz))))) (Xi (Xb (Xg (Qd (Qn0 Z) hr (Qq (pv 0) (Qq (pv 1) (Qq (pv 2) (Qq (pv 3) (Qq (pv 5) Qz))))))))))) (Qh Yc) Qp) (Qw (Uv (pv 5) (Vv (K:=K) (n:=2) rfl rfl (Zw (Ql 7 nD) (Zw (Ql 8 nD) Vj)))) (Qw (Xr (Zo Z.T.u1 (Qq (Zk K Z.T.u0 (Qq (pv 3) Qz)) Qz)) (Ql 9 nD) (Qm (Qa (PW.pt (Wa (q_t Ka (Qb K (pv 4) (pv 9)) Qo) (Um (q_t Kx (Qb K (pv 8) (Qb K (pv 3) (pv 9))) (Qk Qr (pv 7) (Qb K (pv 4) (pv 9))))))) (Qh Yc) Qp))) (Qw (Qg 10 nD (Qd (Ei Z) hr (Qq (pv 0) (Qq (pv 1) (Qq (pv 3) (Qq (pv 4) (Qq (pv 6) Qz))))))) (Qw (Qa (PW.pt (Xs (q_t We (pv 10) Qo) (Xi (q_t Jb (Qb K (pv 10) Qx) Qx)))) (Qh Yc) Qp) (Qw (Qg 11 nD (Qt (Uo (K:=K) rfl rfl) (by rfl) Z.T.u8 Jq (Qq (Xz [Y32,Y12] [none,some 8] (Wn K (pv 3)) (Qb K (pv 1) (pv 0))) Qz))) (Qw (Qa (Xg (Qt (Qu7 (K:=K) rfl rfl) (by rfl) Z.T.u12 Qu9 (Qq (Tt [Y32,"_law_cheap",Y12,Y4] [none,some 11,some 8,some 3] (Zo Z.T.u1 (Qq (Zk K Z.T.u0 (Qq (pv 8) Qz)) Qz)) (Vx (Tg (K:=K) rfl) (pv 0) (pv 3) (by with_unfolding_all rfl)) (Jw Jj (Qb K (pv 2) (pv 0)) (pv 1) (Vl _))) Qz))) (Qh Yc) Qp) (Qw (Qg 12 nD (Qt (Uo (K:=K) rfl rfl) (by rfl) Z.T.u8 Jq (Qq (Xz [Y9,Y21,Y12,Y4,Y0] [none,some 7,some 8,some 3,some 1] (Zo Z.T.u1 (Qq (Zk K Z.T.u0 (Qq (pv 3) Qz)) Qz)) (Qk Zh (Qk Qr (pv 1) (Qb K (Qb K (pv 4) (pv 0)) (Qb K (pv 3) (pv 0)))) (Qb K (pv 2) (Qb K (pv 3) (pv 0))))) Qz))) (Qw (Qg 13 nD (Qk Zh (Qk Zh (Qt (Xo (K:=K) rfl rfl) (by rfl) Z.T.u10 Yq (Qq (Xz [Y9,Y4,Y0] [none,some 3,some 1] (Zo Z.T.u1 (Qq (Zk K Z.T.u0 (Qq (pv 3) Qz)) Qz)) (Qb K (Qb K (pv 2) (pv 0)) (Qb K (pv 1) (pv 0)))) Qz)) (pv 2)) (Qb K (pv 10) Qx))) (Qh (Jw Jb (Qk Qr (pv 12) (Qb K (pv 10) Qx)) (Qk Qr (pv 7) (pv 13)) (Vl _)))))))))))),?_⟩;have aok:Qn ak aj way:=⟨HG.bok,ln,Jt fit⟩
 have lwo:=HG.bok.w1;have lbo:=HG.bok.b1;have l0:=HG.w1;have kb:=kp.k1;have lR:=kp.len;obtain ⟨as,m,pok,f0,f1,hm,hme⟩:=kp.pap;symm;refine ⟨b,_,rfl,.inl (SqL.of hb),?_⟩;rw [length_map];refine ⟨tp,rl,_,k,R,rfl,htp,hrl,kb.1,by rw [lR],by lia,kp.low,λH1 s1=>?_⟩;refine ⟨_,rfl,Ml ?_⟩;symm;refine ⟨b,w,wy,tp,rl,⟨ak,aj,ao,way,k,R⟩,rfl,s1 _ _ hb,hM.same s1,s1 _ _ hwy,s1 _ _ htp,s1 _ _ hrl,Qy5 HG hre ln fit kp,l0,kp.fair,λH2 s2=>?_⟩;have S2:Qu H H2:=s1.trans s2;refine ⟨_,rfl,Ml ?_⟩;symm;refine ⟨tp,_,rfl,SqT.of (S2 _ _ htp),rfl,_,_,rfl,_,_,rfl,rfl,?_⟩;symm;refine ⟨wy,_,rfl,.inl (SqL.of (S2 _ _ hwy)),?_⟩;rw [Xv,ln];walk_at "r";have gR:∀ r,r < ak.length->(R.map V.int)[r]? = some (.int (R.getD r 0)):=λr hr=>by
  have:r < R.length:=by lia
  simp [getD,this]
 have gwy:∀ i,i < aj.length->((wI way).map V.int)[i]? = some (.int ((way.getD i 0:Nat):Int)):=λi hi=>by simp [wI,getD,show i < way.length by lia]
 refine L2.Ja (λi σ H' => ∃ (o9:Option V),σ=[rf b,rf w,iv ao,rf wy,rf pu,rf tp,rf pl,iv k,rf rl,o9,none,none,none,none]/\H2=H') ⟨_,rfl,rfl⟩ ?_ ?_
 ·intro i σ H3 hi q9; obtain ⟨o9,rfl,rfl⟩:=q9;rw [Int.zero_add];have gp:(ps.map oV)[i]? = some (oV (ps.getD i none)):=by simp [getD,show i < ps.length by lia]
  have hwi:=(aok.at_ hi).2;symm;refine ixW i (S2 _ _ hpu) gp ?_;cases hx:ps.getD i none with
  | none =>rw [hx] at gp;symm;exact rfl
  | some x =>rw [hx] at gp;have hpx:=kp.purse i x hi hx;have hxb:=pb i x hx;symm;refine ixW i (S2 _ _ hwy) (gwy i hi) ?_;refine ixW _ (S2 _ _ hrl) (gR _ hwi) ?_;symm;refine ixW i (S2 _ _ hpu) gp ?_;walk_at "m";symm;refine Vq (T5 (by lia)) ?_;exact ⟨_,rfl,rfl⟩
 ·intro σ H3 q9; obtain ⟨o9,rfl,rfl⟩:=q9;symm;refine ⟨b,w,wy,pu,pl,ak,aj,way,ps,rows,as,rfl,S2 _ _ hb,hM.same S2,S2 _ _ hwy,aok,S2 _ _ hpu,lps,pap.same S2,pok,λt H4 s4 ht=>?_⟩;have S4:Qu H H4:=S2.trans s4;symm;refine ixU ht rfl ?_;symm;refine Vq (by simp; lia) ?_;have hix:∀ z∈wI way,∃ j:Nat,z=(j:Int)/\(R.map V.int)[j]? = some (.int (R.getD z.toNat 0)):=λz hz=>by obtain ⟨r,hr,rfl⟩:=O8.mp hz;exact ⟨r,rfl,by rw [Int.toNat_natCast]; exact gR r (aok.lt r hr)⟩
  have hpaid:((wI way).map λz=>R.getD z.toNat 0)=way.map λr=>R.getD r 0:=by unfold wI;rw [map_map];rfl
  have mj:=S4 _ _ hwy;have hrl4:=S4 _ _ hrl;symm;refine ⟨⟨_,SqL.of mj⟩,λD hD=>?_⟩;refine Kr (wI way) (λz=>.int (R.getD z.toNat 0)) (SqL.of mj) (by rw [sizeLine_eq]; simp [wI]; lia) hD (λz hz H5 N s5 hN=>?_) λH5 s5 d5=>?_
  ·obtain ⟨j,ej,hj⟩:=hix z hz;symm;exact ixL (SqL.of (s5 _ _ hrl4)) (Qs j ej hj) (hN _ (Qu.refl _))
  have d5':H5 D=some (.lst ((way.map λr=>R.getD r 0).map V.int)):=by rw [d5,<- hpaid,map_map]; rfl
  refine ⟨D,_,rfl,SqL.of d5',by simp; lia,λch hch lu=>?_⟩;have hcheap:∀ r,r < ak.length->r ∉ way->R.getD r 0=ch:=λr hr hw=>(kp.cheap r hr hw).eq ⟨hch,lu⟩;have S5:Qu H H5:=S4.trans s5;symm;refine ⟨rl,_,rfl,.inl (SqL.of (S5 _ _ hrl)),?_⟩;rw [length_map,lR];refine ⟨_,rfl,by lia,by lia,λD6 hD6=>?_⟩;rw [Int.toNat_natCast];refine Jz (λ(r:Nat)=>decide (r ∉ way)) (λ(r:Nat)=>.bl false) sml hD6 ?_ ?_ ?_
  ·rintro r H6 N hr s6 hN;rw [Int.zero_add];symm;refine ⟨wy,_,rfl,.inl (SqL.of (s6 _ _ (S5 _ _ hwy))),rfl,by simp [Vs],?_⟩;have hd:(!decide ((r:Int)∈wI way))=decide (r ∉ way):=by
    by_cases hm:r∈way
    ·rw [decide_eq_true (Pr.mpr hm),decide_eq_false (not_not_intro hm)]; rfl
    ·rw [decide_eq_false (λz=>hm (Pr.mp z)),decide_eq_true hm]; rfl
   rw [if_pos rfl,Vb,hd];exact ⟨_,rfl,hN _ (Qu.refl _)⟩
  ·rintro r H6 N hr hp s6 hN;rw [Int.zero_add];symm;refine ixW r (s6 _ _ (S5 _ _ hrl)) (gR r hr) ?_;rw [hcheap r hr (of_decide_eq_true hp)];symm;have:=hN _ (Qu.refl _);simpa using this
  intro H6 s6 d6;have S6:Qu H H6:=S5.trans s6;have d6':H6 D6=some (.lst ((((range ak.length).filter λr=>decide (r ∉ way)).map λ_=>false).map V.bl)):=by rw [d6,map_map]; rfl
  refine ⟨D6,_,rfl,SqL.of d6',?_⟩;refine ⟨false,?_,?_⟩
  ·congr 1
   generalize ((range ak.length).filter λr=>decide (r ∉ way))=zs
   induction zs with
   | nil=>rfl
   | cons z zs ih=>simpa using ih
  refine Ml ?_;refine stC (σ':=[rf b,rf w,iv ao,rf wy,rf pu,rf tp,rf pl,iv k,rf rl,o9,rf t,iv ch,none,none]) rfl ?_;symm;refine ⟨wy,_,rfl,.inl (SqL.of (S6 _ _ hwy)),?_⟩;rw [Xv,ln];refine ⟨_,rfl,by lia,by lia,λD7 hD7=>?_⟩;rw [Int.toNat_natCast];obtain ⟨ws,hw6,hR6⟩:=id (hM.same S6);refine Xx (λi=>.int (k * Zr aj way i - R.getD (way.getD i 0) 0)) sml hD7 (λi hi H7 N s7 hN=>?_) λH7 s7 d7=>?_
  ·rw [Int.zero_add];obtain ⟨ra,r2,r3,r4,r5⟩:=Ks (i:=i) hR6 aok hi;have ob:=Nv (way:=way) HG.x i;symm;refine ixW i (s7 _ _ hw6) r2 ?_;symm;refine ixW i (s7 _ _ (S6 _ _ hwy)) r4 ?_;refine ixW _ (s7 _ _ r3) r5 ?_;walk_at "m";symm;refine ixW i (s7 _ _ (S6 _ _ hwy)) r4 ?_;refine ixW _ (s7 _ _ (S6 _ _ hrl)) (gR _ (aok.at_ hi).2) ?_;symm;exact hN _ (Qu.refl _)
  have d7':H7 D7=some (.lst (((range aj.length).map λi=>k * Zr aj way i - R.getD (way.getD i 0) 0).map V.int)):=by rw [d7,map_map]; rfl
  refine ⟨D7,_,rfl,SqL.of d7',by simp; lia,λlm hlm hlmin=>?_⟩;have elm:lm=m:=Yg.eq ⟨hlm,hlmin⟩ hm;subst elm;have S7:Qu H H7:=S6.trans s7;obtain ⟨ws7,hw7,hR7⟩:=id (hM.same S7);symm;refine ⟨wy,_,rfl,.inl (SqL.of (S7 _ _ hwy)),?_⟩;rw [Xv,ln];refine ⟨_,rfl,by lia,by lia,λD8 hD8=>?_⟩;rw [Int.toNat_natCast];refine Xx (λi=>.int (Zr aj way i)) sml hD8 (λi hi H8 N s8 hN=>?_) λH8 s8 d8=>?_
  ·rw [Int.zero_add];obtain ⟨ra,r2,r3,r4,r5⟩:=Ks (i:=i) hR7 aok hi;symm;refine ixW i (s8 _ _ hw7) r2 ?_;symm;refine ixW i (s8 _ _ (S7 _ _ hwy)) r4 ?_;refine ixW _ (s8 _ _ r3) r5 ?_;exact hN _ (Qu.refl _)
  have ew:((range aj.length).map (Zr aj way)).sum=wsum (wF aj) way:=by unfold wsum;rw [ln];rfl
  have d8':H8 D8=some (.lst (((range aj.length).map (Zr aj way)).map V.int)):=by rw [d8,map_map]; rfl
  refine ⟨D8,_,rfl,SqL.of d8',?_⟩;rw [ew];have ht8:H8 t=some (.tup [.int as.sum,.int (c7 rows:Int)]):=s8 _ _ (s7 _ _ (s6 _ _ (s5 _ _ ht)));have hwb:=He (way:=way) HG.x (by lia);have pbd:=Qm3 lwo pok;have hxb:=Qxk (x:=wsum (wF aj) way - ao - as.sum) (B:=10 ^ 60) kb ⟨by lia,by lia⟩;have hmb:=Qjv (m:=lm) (f:=(c7 rows:Int)) (B:=10 * 10 ^ 60) (by lia) (by rw [hme]; exact hxb);symm;refine ixU ht8 rfl ?_;symm;refine ixU ht8 rfl ?_;walk_at "m";refine ⟨_,rfl,_,rfl,_,_,rfl,rfl,⟨by lia,by constructor <;> lia⟩,rfl,?_⟩;show Q (.bl (decide (V.int (lm * (c7 rows:Int))=V.int (k * (wsum (wF aj) way - ao - as.sum))))) H8;rw [hme,show decide (V.int (k * (wsum (wF aj) way - ao - as.sum))=V.int (k * (wsum (wF aj) way - ao - as.sum)))=true from decide_eq_true rfl];exact q _ (S7.trans s8)
def Qtw:Def P w K mg base 6 "_law_none" [Y1,Y0,Y11,Y4,Y3,Y15] Qbx:=by
 refine Z.a73.mq [Y1,Y0,Y11,Y4,Y3,Y15,Y33] λH vs Q E hr nD h=>?_;obtain ⟨b,w,wy,pu,pl,ak,aj,ao,way,ps,rows,rfl,hb,hM,hwy,HG,ln,fit,hpu,lps,pap,np,q⟩:=h;refine ⟨_,(zcF (zcC (Qg 6 nD (Qd (Ei Z) hr (Qq (pv 0) (Qq (pv 1) (Qq (pv 3) (Qq (pv 4) (Qq (pv 5) Qz))))))) (zcC (Qa (PW.pt (Xs (q_t We (pv 6) Qo) (Xi (q_t Jj (Qb K (pv 6) Qx) Qx)))) (Qh Yc) Qp) (zcL (Qh (Jw Kx (Qb K (pv 6) Qx) (Qk Zh (Qt (Xo (K:=K) rfl rfl) (by rfl) Z.T.u10 Yq (Qq (Xz [Y9,Y4,Y0] [none,some 3,some 1] (Zo Z.T.u1 (Qq (Zk K Z.T.u0 (Qq (pv 3) Qz)) Qz)) (Qb K (Qb K (pv 2) (pv 0)) (Qb K (pv 1) (pv 0)))) Qz)) (pv 2)) (Vl _))))))),?_⟩;obtain ⟨as,pok,f0,hlt⟩:=np.pap;have aok:Qn ak aj way:=⟨HG.bok,ln,Jt fit⟩
 have lwo:=HG.bok.w1;symm;refine ⟨b,w,wy,pu,pl,ak,aj,way,ps,rows,as,rfl,hb,hM,hwy,aok,hpu,lps,pap,pok,λt H1 s1 ht=>?_⟩;nofun;rw [f0] at ht;symm;refine ixU ht rfl ?_;symm;refine ixU ht rfl ?_;symm;refine ⟨wy,_,rfl,.inl (SqL.of (s1 _ _ hwy)),?_⟩;rw [Xv,ln];walk_at "d";obtain ⟨ws,hw,hR⟩:=id (hM.same s1);refine Xx (λi=>.int (Zr aj way i)) sml hD (λi hi H2 N s2 hN=>?_) λH2 s2 d2=>?_
 ·rw [Int.zero_add];obtain ⟨ra,r2,r3,r4,r5⟩:=Ks (i:=i) hR aok hi;symm;refine ixW i (s2 _ _ hw) r2 ?_;symm;refine ixW i (s2 _ _ (s1 _ _ hwy)) r4 ?_;refine ixW _ (s2 _ _ r3) r5 ?_;exact hN _ (Qu.refl _)
 have ew:((range aj.length).map (Zr aj way)).sum=wsum (wF aj) way:=by unfold wsum;rw [ln];rfl
 have d2':H2 D=some (.lst (((range aj.length).map (Zr aj way)).map V.int)):=by rw [d2,map_map]; rfl
 refine ⟨D,_,rfl,SqL.of d2',?_⟩;rw [ew];symm;show Q (.bl (decide (wsum (wF aj) way - ao < as.sum))) H2;rw [decide_eq_true hlt];exact q _ (s1.trans s2)
theorem Qn6:Def P w K mg base 2 "_law_broad" [Y6] (Qbk K):=by
 refine Z.a74.mq [Y6,Y0,Y9,"_law_m","_law_worth"] λH vs Q E hr nD h=>?_;obtain ⟨a,ns,rfl,hS,q⟩:=h;refine ⟨_,(zcF (zcC (Qg 1 nD (Zq Qz)) (zcC (Xr (Zo Z.T.u1 (Qq (Qk Zt Qx (Qk Zg (Qd (Vy Z) hr (Qq (Qd (Rc Z) hr (Qq (pv 0) (Qq Qx Qz))) (Qq Qx Qz))) Qx)) Qz)) (Ql 2 nD) (zcF (zcC (Qg 3 nD (Qd (Vy Z) hr (Qq (Qd (Rc Z) hr (Qq (pv 0) (Qq (Qk Zt Qx (pv 2)) Qz))) (Qq (Qk Zt Qx (pv 2)) Qz)))) (zcC (Qg 4 nD (Qk Zh (Qk Zg (Qk Xc (pv 3) Qx) Qx) Qx)) (zc1 (Xt (Tf K (pv 1) (Qq (Zq (Qq (Qk Zt (pv 4) (Qk Qr (Qk Qr Qx (pv 2)) (Tx Gd (by rfl) Z.T.u4 Tj (Qq (Jw Kx (pv 2) Qx (Vl _)) Qz)))) (Qq (Qk Zt (pv 4) (Qk Qr (Qb K (Zq (Qq Qx (Qq Qx (Qq Qx (Qq Qx Qz))))) (Qk Zg (pv 3) Qx)) (Tx Gd (by rfl) Z.T.u4 Tj (Qq (Jw Rb (pv 2) Qx (Vl _)) Qz)))) Qz))) Qz)))))))) (zcL (Qh (Zp (Qq (Zq (Qq Qx (Qq Qx Qz))) (Qq (pv 1) (Qq (Qk Zg (Qd (Vy Z) hr (Qq (Qd (Rc Z) hr (Qq (pv 0) (Qq Qx Qz))) (Qq Qx Qz))) Qx) Qz))))))))),?_⟩;symm;refine λl H1 n1=>?_;symm;refine ⟨a,ns,_,rfl,n1.same.seq hS,by decide,λz0=>?_⟩;symm;refine ⟨z0,_,rfl,by decide,by decide,λm m0 m1=>?_⟩;have e1:=V0 m (show (4:Int)≠0 by decide);have e2:=V8 m (show (0:Int) < 4 by decide);refine ⟨_,_,rfl,rfl,by show (0:Int) < 4; decide,_,_,rfl,rfl,_,rfl,by lia,by lia,?_⟩;refine Zu (λi σ H' => ∃ (o2 o3 o4:Option V) (ws:K9) (rows:J7),σ=[rf a,rf l,o2,o3,o4]/\Qu H H'/\H' l=some (.lst (ws.map V.ref))/\Rows H' ws rows/\rows.length=i/\(∀ a∈ws,a≠l)/\(∀ row∈rows,row.length=2/\∀ x∈row,-(10 ^ 40) < x/\x < 10 ^ 40)) ⟨_,_,_,[],[],rfl,n1.same,n1.at_,⟨rfl,λi a row z=>by simp at z⟩,rfl,(λa ha=>by cases ha),(λrow hr=>by cases hr)⟩ ?_ ?_
 ·nofun;intro i σ H2 hi q9; obtain ⟨o2,o3,o4,ws,rows,rfl,s2,hl,hR,lr,nw,hb⟩:=q9;have hi2:i < 8:=by lia
  nofun;rw [Int.zero_add];symm;refine ⟨a,ns,_,rfl,s2.seq hS,by lia,λz1=>?_⟩;symm;refine ⟨z1,_,rfl,by lia,by lia,λm2 p0 p1=>?_⟩;have g1:=V0 (m2 / 4) (show (2001:Int)≠0 by decide);have g2:=V8 (m2 / 4) (show (0:Int) < 2001 by decide);symm;refine ⟨.inl ⟨rfl,_,SqL.of hl⟩,?_⟩;symm;refine .inr ⟨_,rfl,?_⟩;dsimp only;generalize hc:(if decide (5 < (i:Int))=true then (1:Int) else 0)=cc at *;have hc2:0<=cc/\cc<=1:=by rw [<- hc]; split <;> lia
  have hcm:0<=100 * (i:Int) * cc/\100 * (i:Int) * cc<=800:=by
   have e:cc=0\/cc=1:=by lia
   rcases e with rfl | rfl <;> lia
  walk_at "m";(try dsimp only);generalize 100 * (i:Int) * cc=cm at *;symm;have g3:=V0 m2 (show (4:Int)≠0 by decide);have g4:=V8 m2 (show (0:Int) < 4 by decide);refine λla Ha na=>?_;symm;refine Bx (ns:=[0,0,1,200]) (SqL.of na.at_) (by show (0:Int)<=m2 % 4; lia) (by show m2 % 4 < 4; lia) λz hz=>?_;have hz':0<=z/\z<=200:=by simp only [mem_cons,not_mem_nil,or_false] at hz;lia
  symm;refine .inr ⟨_,rfl,?_⟩;dsimp only;generalize hd:(if decide ((i:Int) < 6)=true then (1:Int) else 0)=dd at *;have hd2:dd=0\/dd=1:=by rw [<- hd]; split <;> lia
  have hdm:0<=z * dd/\z * dd<=200:=by rcases hd2 with rfl | rfl <;> lia
  walk_at "m";(try dsimp only);generalize z * dd=zd at *;symm;refine λt H3 n3=>?_;have S3:Qu H2 H3:=na.same.trans n3.same;have ntl:t≠l:=(Qj (na.same _ _ hl) n3.none).symm;obtain ⟨x1,x2,ht3,bx1,bx2⟩:∃ x1 x2:Int,H3 t=some (.lst ([x1,x2].map V.int))/\(-(10 ^ 40) < x1/\x1 < 10 ^ 40)/\(-(10 ^ 40) < x2/\x2 < 10 ^ 40):=⟨_,_,n3.at_,by lia,by lia⟩
  refine ⟨l,_,_,rfl,rfl,S3 _ _ hl,by rw [sizeLine_eq,length_map,hR.1]; lia,?_⟩;nofun;refine ⟨_,_,_,ws ++ [t],rows ++ [[x1,x2]],rfl,λc o e=>?_,by rw [Qy]; simp,?_,by simp [lr],λb hb'=>?_,λrow hr=>?_⟩
  ·rw [Qv (Qj e n1.none)];exact S3 _ _ (s2 _ _ e)
  ·refine Rows.app ⟨hR.1,λj a' row h1 h2=>?_⟩ ⟨rfl,λj a' row z1 z2=>?_⟩
   ·rw [Qv (nw a' (mem_of_getElem? h1))];exact S3 _ _ (hR.2 j a' row h1 h2)
   ·have hj:j=0:=by have:=(N8.mp z1).1; simp at this; lia
    subst hj;have e1:t=a':=R5 z1;have e2:=R5 z2;rw [<- e1,<- e2,Qv ntl];exact ht3
  ·rcases O6.mp hb' with z | z
   ·exact nw b z
   ·have:b=t:=by simpa using z
    rw [this];exact ntl
  ·rcases O6.mp hr with z | z
   ·exact hb row z
   ·rw [mem_singleton.mp z];refine ⟨rfl,λx hx=>?_⟩;simp at hx;lia
 ·intro σ H2 q9; obtain ⟨o2,o3,o4,ws,rows,rfl,s2,hl,hR,lr,nw,hb⟩:=q9;symm;refine λb5 H5 n5=>?_;symm;refine ⟨a,ns,_,rfl,(s2.trans n5.same).seq hS,by decide,λz3=>?_⟩;symm;refine ⟨z3,_,rfl,by decide,by decide,λm3 p0 p1=>?_⟩;have g1:=V0 m3 (show (3000:Int)≠0 by decide);have g2:=V8 m3 (show (0:Int) < 3000 by decide);symm;refine λt6 H6 n6=>?_;exact q t6 b5 l rows _ H6 ((s2.trans n5.same).trans n6.same) n6.at_ (n6.same _ _ n5.at_) ⟨ws,n6.same _ _ (n5.same _ _ hl),(hR.same n5.same).same n6.same⟩ (by lia) (by lia) (λrow hr=>(hb row hr).1) (λrow hr=>(hb row hr).2) g1 g2
def Qtj:Def P w K mg base 14 "_law_ways" [Y10] (Qbq CH Pa Pb Pc Xa Zy Zc):=by
 refine Z.a75.mq [Y10,Y17] λH vs Q E hr nD h=>?_;obtain ⟨x,ak,aj,ao,rfl,hA,HG,hL,hre,q⟩:=h;refine ⟨_,(zcF (zcC (Qg 1 nD Qo) (zcL (Qw (zcJ (Ap (K:=K) rfl rfl rfl rfl Z.HE.mTooMany (Qxq (i:=1) nD rfl (Or.inl rfl) (Qxz (Lf Z) (hr.mono (by decide)) rfl (Qq (pv 0) Qz))) (λ_=>(Qm (Qg 1 nD Qo))))) (Qh (pv 1)))))),?_⟩;symm;refine ⟨λσ' H' => ∃ (v:V) (rows:K6),σ'=[rf x,some v]/\Qc H H'/\Ky H' Pa Pb Pc Xa Zy Zc/\Told true ak aj ao rows/\((v=.non/\200 < Iz ak aj rows)\/Iz ak aj rows<=200/\∃ l,v=.ref l/\Mat H' l ((Ux ak aj).map wI)),?_,?_⟩
 ·nofun;refine ⟨_,rfl,x,ak,aj,ao,rfl,hA,HG,hL,hre,λrows H1 s1 hL1 ig=>⟨λhle l hM=>?_,λhlt=>?_⟩⟩
  ·nofun;exact ⟨_,rows,rfl,s1,hL1,ig,.inr ⟨hle,l,rfl,hM⟩⟩
  ·refine ⟨eM,rfl,Z.HE.ok.cat,λea H2 n2=>?_⟩;symm;exact ⟨_,rows,rfl,s1.trans n2.same.b,hL1.same n2.same,ig,.inl ⟨rfl,hlt⟩⟩
 intro σ' H1 q9; obtain ⟨v,rows,rfl,s1,hL1,ig,h⟩:=q9;symm;rcases h with ⟨rfl,hlt⟩ | ⟨hle,l,rfl,hM⟩
 ·exact (q rows H1 s1 hL1 ig).2 hlt
 ·exact (q rows H1 s1 hL1 ig).1 hle l hM
def Qhq:Def P w K mg base 15 "_law_asked" [Y10,Y3] (Qw6 CH Pa Pb Pc Xa Zy Zc):=by
 refine Z.a76.mq [Y10,Y3,Y23,"_law_refused"] @λf _ _ _ _ H vs Q E hr nD h=>?_;obtain ⟨x,pu,ak,aj,ao,ps,rfl,hA,HG,hL,hre,hpu,lps,pb,q⟩:=h;refine ⟨_,(zcF (zcC (Qg 2 nD Qo) (zcC (Qg 3 nD Yc) (zcL (Qw (zcJ (Ap (K:=K) rfl rfl rfl rfl Z.HE.mTooMany (Qxq (i:=2) nD rfl (Or.inl rfl) (Qxz (Zqv Z) (hr.mono (by decide)) rfl (Qq (pv 0) (Qq (pv 1) Qz)))) (λ_=>(Qm (Qg 3 nD Yc))))) (Qh (Zp (Qq (pv 2) (Qq (pv 3) Qz))))))))),?_⟩;symm;refine ⟨λσ' H' => ∃ (v:V) (b:Bool) (rows:K6),σ'=[rf x,rf pu,some v,some (.bl b)]/\Qc H H'/\Ky H' Pa Pb Pc Xa Zy Zc/\Told true ak aj ao rows/\((v=.non/\b=true/\200 < Iz ak aj rows)\/Iz ak aj rows<=200/\∃ t,v=.ref t/\b=false/\(Qnz H' t ak aj ao ps (Ux ak aj)\/Qd6 H' t ak aj ao ps (Ux ak aj))),?_,?_⟩
 ·nofun;refine ⟨_,rfl,_,rfl,x,pu,ak,aj,ao,ps,rfl,hA,HG,hL,hre,hpu,lps,pb,λrows H1 s1 hL1 ig=>⟨λhle t ha=>?_,λhlt=>?_⟩⟩
  ·nofun;exact ⟨_,_,rows,rfl,s1,hL1,ig,.inr ⟨hle,t,rfl,rfl,ha⟩⟩
  ·refine ⟨eM,rfl,Z.HE.ok.cat,λea H2 n2=>?_⟩;symm;exact ⟨_,_,rows,rfl,s1.trans n2.same.b,hL1.same n2.same,ig,.inl ⟨rfl,rfl,hlt⟩⟩
 intro σ' H1 q9; obtain ⟨v,b,rows,rfl,s1,hL1,ig,h⟩:=q9;symm;refine λt H2 n2=>?_;have hq:=q rows H2 (s1.trans n2.same.b) (hL1.same n2.same) ig;rcases h with ⟨rfl,rfl,hlt⟩ | ⟨hle,f,rfl,rfl,ha⟩
 ·exact hq.2 hlt t n2.at_
 ·exact hq.1 hle t f n2.at_ (ha.imp (·.same n2.same.b) (·.same n2.same.b))
theorem Qh9:Def P w K mg base 11 "_law_first" [Y10,Y0,Y17,Y3] (Qw2 CH Pa Pb Pc Xa Zy Zc):=by
 refine Z.a77.mq [Y10,Y0,Y17,Y3,"_law_best",Y4,Y33,Y21,Y12,Y43] λH vs Q E hr nD h=>?_;obtain ⟨x,w,l,pu,ak,aj,ao,ps,L,rfl,hA,ok,hM,hMl,hL,hpu,lps,pb,q⟩:=h;refine ⟨_,(zcF (zcC (Qg 4 nD Qo) (zcL (Qw (Xr (Wn K (pv 2)) (Ql 5 nD) (zcF (zcC (Qg 6 nD (Qd (En Z) hr (Qq (pv 0) (Qq (Wi K Z.T.u6 (Qq (pv 5) Qz)) (Qq (Wi K Z.T.u6 (Qq (pv 3) Qz)) Qz))))) (zc1 (Qa (q_t Jb (Qb K (pv 6) Qx) Yd) (zcF (zcC (Uv (Qb K (pv 6) Qx) (Vv (K:=K) (n:=2) rfl rfl (Zw (Ql 7 nD) (Zw (Ql 8 nD) Vj)))) (zcC (Qg 9 nD (Qt (Uo (K:=K) rfl rfl) (by rfl) Z.T.u8 Jq (Qq (Xz [Y9,Y21,Y12,Y4,Y0] [none,some 7,some 8,some 5,some 1] (Zo Z.T.u1 (Qq (Zk K Z.T.u0 (Qq (pv 5) Qz)) Qz)) (Qk Zh (Qk Qr (pv 1) (Qb K (Qb K (pv 4) (pv 0)) (Qb K (pv 3) (pv 0)))) (Qb K (pv 2) (Qb K (pv 3) (pv 0))))) Qz))) (zc1 (Qa (PW.pt (Xs (q_t We (pv 4) Qo) (Xi (q_t Rb (Qk Qr (Qb K (pv 4) Qx) (pv 7)) (Qk Qr (pv 9) (Qb K (pv 4) Qx)))))) (Qm (Qg 4 nD (Zp (Qq (pv 9) (Qq (pv 7) (Qq (pv 5) Qz)))))) Qp))))) Qp))))) (Qh (pv 4)))))),?_⟩;obtain ⟨ws,hw,hR⟩:=id hMl;have HG:=ok.g;have lwo:=HG.bok.w1;have l0:=HG.w1;have lw:ws.length=L.length:=by rw [hR.1,length_map]
 have hV:Ma λp m k=>p < L.length/\Kt ak aj ao ps L p m k:=ok.val;have gm:∀ i a,ws[i]? = some a->i < L.length/\H a=some (.lst ((wI (L.getD i [])).map V.int)):=λi a e=>by
  have hi:i < L.length:=by rw [<- lw]; exact (N8.mp e).1
  exact ⟨hi,hR.2 i _ _ e (by rw [getElem?_map,getElem?_eq_getElem hi,getD_get _ _ hi]; rfl)⟩
 symm;refine ⟨⟨_,SqL.of hw⟩,?_⟩;refine Je (xs:=ws.map V.ref) (λn σ H' => ∃ (o5 o6 o7 o8 o9:Option V) (v:V),σ=[rf x,rf w,rf l,rf pu,some v,o5,o6,o7,o8,o9]/\Qc H H'/\Ky H' Pa Pb Pc Xa Zy Zc/\((v=.non/\∀ p,p < n->∀ m k,¬ Kt ak aj ao ps L p m k)\/∃ t wy j m k,v=.ref t/\H' t=some (.tup [.int m,.int k,.ref wy])/\H wy=some (.lst ((wI (L.getD j [])).map V.int))/\(-(10 ^ 70) < m/\m < 10 ^ 70)/\(0 < k/\k<=10)/\Ye (λp m k=>p < L.length/\Kt ak aj ao ps L p m k) (· < n) j m k)) ⟨_,_,_,_,_,_,rfl,Qc.refl _,hL,.inl ⟨rfl,λp hp=>by lia⟩⟩ (λi σ H' _ h=>by obtain ⟨_,_,_,_,_,_,_,h,_⟩:=h; exact SqL.of (h.to _ _ hw rfl)) ?_ ?_
 ·nofun;intro n y σ H1 hy q9; obtain ⟨o5,o6,o7,o8,o9,v,rfl,s1,hL1,hc⟩:=q9;obtain ⟨pa,hpa,rfl⟩:=Ju hy;obtain ⟨hn,hv⟩:=gm n pa hpa;obtain ⟨c1,c2,c3⟩:=ok.at_ hn;have aok:=ok.aok hn;symm;refine ⟨pa,_,rfl,.inl (SqL.of (s1.to _ _ hv rfl)),λA1 H2 n2=>?_⟩;symm;refine ⟨pu,_,rfl,.inl (SqL.of (n2.same _ _ (s1.to _ _ hpu rfl))),λA2 H3 n3=>?_⟩;have S3:Qu H1 H3:=n2.same.trans n3.same;refine ⟨x,A1,A2,ak,aj,ao,_,ps,rfl,(hA.bf s1).same S3,HG,ok.r,n3.same _ _ n2.at_,c1,c2,c3,n3.at_,lps,pb,(hL1.same S3).2.1,(hL1.same S3).2.2,λt H4 s4 so4 a1 a2 wat=>?_⟩;have hL4:=(hL1.same S3).two Z.a51 Z.a52 so4 a1 a2;have U4:Qc H1 H4:=S3.b.trans s4;have B4:Qc H H4:=s1.trans U4;symm;rcases wat with ⟨tp,rl,pl,k,R,rws,e1,e2,e3,e4,e5⟩ | ⟨pl,rws,e1,e4,e5⟩
  ·refine ixU e1 rfl ?_;symm;refine ixU e1 rfl ?_;refine ⟨tp,_,rfl,SqT.of e2,rfl,_,_,rfl,_,_,rfl,rfl,?_⟩;have mj:=B4.to _ _ hv rfl;have kb:=e5.k1;have lR:=e5.len;have gR:∀ r,r < ak.length->(R.map V.int)[r]? = some (.int (R.getD r 0)):=λr hr=>by
    have:r < R.length:=by lia
    simp [getD,this]
   symm;refine ⟨pa,_,rfl,.inl (SqL.of mj),?_⟩;rw [Xv,c1];refine ⟨_,rfl,by lia,by lia,λD7 hD7=>?_⟩;rw [Int.toNat_natCast];obtain ⟨vs,hw6,hR6⟩:=id (hM.bf B4);generalize di:L.getD n []=way at *;refine Xx (λi=>.int (k * Zr aj way i - R.getD (way.getD i 0) 0)) sml hD7 (λi hi H7 N s7 hN=>?_) λH7 s7 d7=>?_
   ·rw [Int.zero_add];obtain ⟨ra,r2,r3,r4,r5⟩:=Ks (i:=i) hR6 aok hi;have ob:=Nv (way:=way) HG.x i;symm;refine ixW i (s7 _ _ hw6) r2 ?_;symm;refine ixW i (s7 _ _ mj) r4 ?_;refine ixW _ (s7 _ _ r3) r5 ?_;walk_at "m";symm;refine ixW i (s7 _ _ mj) r4 ?_;refine ixW _ (s7 _ _ e3) (gR _ (aok.at_ hi).2) ?_;symm;exact hN _ (Qu.refl _)
   have d7':H7 D7=some (.lst (((range aj.length).map λi=>k * Zr aj way i - R.getD (way.getD i 0) 0).map V.int)):=by rw [d7,map_map]; rfl
   refine ⟨D7,_,rfl,SqL.of d7',by simp; lia,λlm hlm hlmin=>?_⟩;have hmb:=Re HG ok.r c1 e5 ⟨hlm,hlmin⟩;have j8:n < L.length/\Kt ak aj ao ps L n lm k:=⟨hn,R,rws,by rw [di]; exact e5,by rw [di]; exact ⟨hlm,hlmin⟩⟩
   have B7:Qc H H7:=B4.trans s7.b;have hL7:=hL4.same s7;subst di;rcases hc with ⟨rfl,hno⟩ | ⟨t0,wy0,j,m0,k0,rfl,h1,h2,h3,h4,h5⟩
   ·symm;refine λt8 H8 n8=>?_;nofun;exact ⟨_,_,_,_,_,_,rfl,B7.trans n8.same.b,hL7.same n8.same,.inr ⟨t8,pa,n,lm,k,rfl,n8.at_,hv,hmb,kb,Lz hV j8 (U9 n) λp hp hne m' k' z=>hno p (by lia) m' k' z.2⟩⟩
   ·have h17:=(U4.trans s7.b).to _ _ h1 rfl;symm;refine ixU h17 rfl ?_;refine ⟨_,rfl,_,_,rfl,rfl,⟨by lia,by lia⟩,?_⟩;symm;refine ixU h17 rfl ?_;walk_at "m";symm;refine Kz (λz=>?_) (λz=>?_)
    ·symm;refine λt8 H8 n8=>?_;nofun;exact ⟨_,_,_,_,_,_,rfl,B7.trans n8.same.b,hL7.same n8.same,.inr ⟨t8,pa,n,lm,k,rfl,n8.at_,hv,hmb,kb,h5.move hV j8 (Q6 z) (U9 n) λp hp=>by lia⟩⟩
    ·nofun;exact ⟨_,_,_,_,_,_,rfl,B7,hL7,.inr ⟨t0,wy0,j,m0,k0,rfl,h17,h2,h3,h4,h5.keep hV (V6 h5.1) λp hp=>by
      rcases Nat.lt_or_ge p n with z' | z'
      ·exact .inl z'
      ·obtain rfl:p=n:=by lia
       exact .inr λ_ _ _=>⟨V5 h5.1,lm,k,j8,Int.not_lt.mp λz'=>z (P0 z')⟩⟩⟩
  ·refine ixU e1 rfl ?_;symm;refine ⟨_,_,_,_,_,_,rfl,B4,hL4,?_⟩;have hnv:∀ m k,¬ Kt ak aj ao ps L n m k:=λm k=>Kb ok hn e5;rcases hc with ⟨rfl,hno⟩ | ⟨t0,wy0,j,m0,k0,rfl,h1,h2,h3,h4,h5⟩
   ·refine .inl ⟨rfl,λp hp=>?_⟩;rcases Nat.lt_or_ge p n with z' | z'
    ·exact hno p z'
    ·obtain rfl:p=n:=by lia
     exact hnv
   ·refine .inr ⟨t0,wy0,j,m0,k0,rfl,U4.to _ _ h1 rfl,h2,h3,h4,h5.keep hV (V6 h5.1) λp hp=>?_⟩;rcases Nat.lt_or_ge p n with z' | z'
    ·exact .inl z'
    ·obtain rfl:p=n:=by lia
     exact .inr λc d z=>absurd z.2 (hnv c d)
 ·intro σ H1 q9; obtain ⟨o5,o6,o7,o8,o9,v,rfl,s1,hL1,hc⟩:=q9;rw [length_map,lw] at hc;symm;rcases hc with ⟨rfl,hno⟩ | ⟨t0,wy0,j,m0,k0,rfl,h1,h2,h3,h4,h5⟩
  ·exact (q H1 s1).1 hno
  ·exact (q H1 s1).2 t0 wy0 j m0 k0 h1 (s1.to _ _ h2 rfl) h5
theorem Qq9:Def P w K mg base 7 "_law_all_none" [Y1,Y0,Y11,Y17,Y3,Y23] Ca:=by
 refine Z.a78.mq [Y1,Y0,Y11,Y17,Y3,Y23,Y26,"_law_pair"] @λf _ _ _ _ H vs Q E hr nD h=>?_;obtain ⟨b,w,l,pu,f,ak,aj,ao,ps,L,rfl,hb,hM,ok,hMl,hl,hpu,lps,⟨nl,ts,hf,hnl,lt,hat⟩,q⟩:=h;refine ⟨_,(zcF (zcC (Qa (PW.pt (Xs (Xb (Xg (Zj K Z.T.u3 (Qq (pv 5) (Qq (Jk (v:=.ty "tuple") rfl Z.T.u7 Yn rfl) Qz))))) (Xs (q_t Jj (Qb K (pv 5) Qx) Yd) (Xi (q_t Jj (Zk K Z.T.u0 (Qq (pv 5) Qz)) Qx))))) (Qh Yc) Qp) (zcC (Qa (PW.pt (Xs (Xb (Xg (Zj K Z.T.u3 (Qq (Qb K (pv 5) Qx) (Qq (Jk (v:=.ty "list") rfl Z.T.u6 Jd rfl) Qz))))) (Xi (q_t Jj (Zk K Z.T.u0 (Qq (Qb K (pv 5) Qx) Qz)) (Zk K Z.T.u0 (Qq (pv 3) Qz)))))) (Qh Yc) Qp) (zcL (Qw (Xr (Zo Z.T.u1 (Qq (Zk K Z.T.u0 (Qq (pv 3) Qz)) Qz)) (Ql 6 nD) (zcF (zcC (Qg 7 nD (Qb K (Qb K (pv 5) Qx) (pv 6))) (zcC (Qa (PW.pt (Xs (Xb (Xg (Zj K Z.T.u3 (Qq (pv 7) (Qq (Jk (v:=.ty "tuple") rfl Z.T.u7 Yn rfl) Qz))))) (Xs (q_t Jj (Zk K Z.T.u0 (Qq (pv 7) Qz)) Qx) (Xi (q_t (Qxv (K:=K) rfl hr.units0) (Qb K (pv 7) Qx) (Qb K (pv 3) (pv 6))))))) (Qh Yc) Qp) (zc1 (Qa (Xb (Xg (Qd (Qtw Z) hr (Qq (pv 0) (Qq (pv 1) (Qq (pv 2) (Qq (Qb K (pv 3) (pv 6)) (Qq (pv 4) (Qq (Qb K (pv 7) Qx) Qz))))))))) (Qh Yc) Qp)))))) (Qh Yc)))))),?_⟩;obtain ⟨ws,hw,hR⟩:=id hMl;have lw:ws.length=L.length:=by rw [hR.1,length_map]
 symm;refine ⟨_,_,_,true,rfl,.tup hf,Yb _ _,_,rfl,Ml ?_⟩;symm;refine ixU hf rfl ?_;symm;refine ⟨f,_,rfl,.inr (SqT.of hf),?_⟩;symm;refine ixU hf rfl ?_;refine ⟨_,_,_,true,rfl,.lst hnl,Yb _ _,_,rfl,Ml ?_⟩;symm;refine ixU hf rfl ?_;refine ⟨nl,_,rfl,.inl (SqL.of hnl),?_⟩;symm;refine ⟨l,_,rfl,.inl (SqL.of hw),?_⟩;rw [length_map,length_map,lt,lw];symm;refine Vq (by simp) ?_;symm;refine ⟨l,_,rfl,.inl (SqL.of hw),?_⟩;rw [length_map,lw];walk_at "r";refine Zu (λi σ H' => ∃ (o6 o7:Option V),σ=[rf b,rf w,iv ao,rf l,rf pu,rf f,o6,o7]/\Qu H H') ⟨_,_,rfl,Qu.refl _⟩ ?_ ?_
 ·nofun;intro i σ H1 hi q9; obtain ⟨o6,o7,rfl,s1⟩:=q9;nofun;rw [Int.zero_add];obtain ⟨u,wy,pl,rws,g1,g2,g3,g4,g5⟩:=hat i hi;have hiw:i < ws.length:=by lia
  have r1:(ws.map V.ref)[i]? = some (.ref ws[i]):=by simp [hiw]
  have r2:=hR.2 i _ _ (R7 hiw) (show (L.map wI)[i]? = some (wI (L.getD i [])) by rw [getElem?_map,getElem?_eq_getElem hi,getD_get _ _ hi]; rfl);have t1:(ts.map V.ref)[i]? = some (.ref u):=by rw [getElem?_map,g1]; rfl
  obtain ⟨c1,c2,_⟩:=ok.at_ hi;symm;refine ixU (s1 _ _ hf) rfl ?_;symm;refine ixW i (s1 _ _ hnl) t1 ?_;symm;refine ⟨_,_,_,true,rfl,.tup (s1 _ _ g2),Yb _ _,_,rfl,Ml ?_⟩;symm;refine ⟨u,_,rfl,.inr (SqT.of (s1 _ _ g2)),?_⟩;symm;refine ixU (s1 _ _ g2) rfl ?_;symm;refine ixW i (s1 _ _ hw) r1 ?_;refine ⟨wy,ws[i],_,_,rfl,rfl,SqL.of (s1 _ _ g3),SqL.of (s1 _ _ r2),?_⟩;refine ⟨_,rfl,Vq (by simp) ?_⟩;symm;refine ixW i (s1 _ _ hw) r1 ?_;symm;refine ixU (s1 _ _ g2) rfl ?_;refine ⟨b,w,ws[i],pu,pl,ak,aj,ao,_,ps,rws,rfl,s1 _ _ hb,hM.same s1,s1 _ _ r2,ok.g,c1,c2,s1 _ _ hpu,lps,g4.same s1,g5,λH2 s2=>?_⟩;refine ⟨_,rfl,Ml ?_⟩;nofun;exact ⟨_,_,rfl,s1.trans s2⟩
 ·intro σ H1 q9; obtain ⟨o6,o7,rfl,s1⟩:=q9;symm;exact q _ s1
theorem Zqj:Def P w K mg base 16 "law" [Y6] (Nm K Pa Xa "bring_in.<locals>.<lambda>" Pb Zy "best_room.<locals>.<lambda>" Pc Zc "loose_ones.<locals>.<lambda>"):=by
 refine Z.a79.mq [Y6,Y1,Y0,Y11,Y10,"_law_own",Y3,"_law_handed",Y17,Y23,"_law_refused","_law_best",Y21,Y12,Y43] @λf _ _ _ _ H vs Q E hr nD h=>?_;obtain ⟨a,ns,rfl,hS,fu,hL,hL2,hL3,q⟩:=h;refine ⟨_,(zcF (zcC (Uv (Qd (Qn4 Z) hr (Qq (pv 0) (Qq Qx (Qq Qx Qz)))) (Vv (K:=K) (n:=3) rfl rfl (Zw (Ql 1 nD) (Zw (Ql 2 nD) (Zw (Ql 3 nD) Vj))))) (zcC (zcJ (Qa (q_t Jb (Qk Zg (Qd (Vy Z) hr (Qq (Qd (Rc Z) hr (Qq (pv 0) (Qq Qx Qz))) (Qq Qx Qz))) Qx) Qx) (Qm (Uv (Qd (Qn6 Z) hr (Qq (pv 0) Qz)) (Vv (K:=K) (n:=3) rfl rfl (Zw (Ql 1 nD) (Zw (Ql 2 nD) (Zw (Ql 3 nD) Vj)))))) Qp)) (zcC (Qg 4 nD (Qz5 (Qe9 Z) Z.HC.mks Z.HC.kp Z.HC.mgC (hr.mono (by decide)) rfl (Qq (Wi K Z.T.u6 (Qq (pv 1) Qz)) (Qq (Xz [Y18] [none] (Wn K (pv 2)) (Wi K Z.T.u6 (Qq (pv 0) Qz))) (Qq (pv 3) Qz))))) (zcC (Qg 5 nD (Qd (Qd0 Z) hr (Qq (pv 4) Qz))) (zcC (Qg 6 nD (Qd (Qux Z) hr (Qq (pv 0) (Qq (pv 2) (Qq (pv 5) (Qq (Qb K (Qd (Eo Z) hr (Qq (Qz5 (Np (CH:=CH) Z.T Z.b7.a Z.a80) Z.b7.mks Z.b7.kp Z.b7.mgC (hr.mono (by decide)) rfl (Qq (pv 4) (Qq (pv 5) Qz))) Qz)) Qx) Qz)))))) (zcC (Qg 7 nD (Wi K Z.T.u6 (Qq (pv 6) Qz))) (zcC (Qg 8 nD (Qd (Qtj Z) hr (Qq (pv 4) Qz))) (zcC (Qa (PW.pt (Wa (q_t Ka (pv 8) Qo) (Um (q_t Kx (Zk K Z.T.u0 (Qq (pv 8) Qz)) Qx)))) (Qh Yc) Qp) (zcC (Uv (Qd (Qhq Z) hr (Qq (pv 4) (Qq (pv 7) Qz))) (Vv (K:=K) (n:=2) rfl rfl (Zw (Ql 9 nD) (Zw (Ql 10 nD) Vj)))) (zcC (Qa (PW.pt (Xs (q_t (Nw (K:=K) rfl hr.units) (pv 7) (pv 6)) (Xi (q_t Jj (pv 10) (Jw We (pv 8) Qo (Vl _)))))) (Qh Yc) Qp) (zcC (Qa (Xg (pv 10)) (Qh Yc) Qp) (zcC (Qg 11 nD (Qd (Qh9 Z) hr (Qq (pv 4) (Qq (pv 2) (Qq (pv 8) (Qq (pv 6) Qz)))))) (zcC (Qa (q_t We (pv 11) Qo) (Qh (Qd (Qq9 Z) hr (Qq (pv 1) (Qq (pv 2) (Qq (pv 3) (Qq (pv 8) (Qq (pv 6) (Qq (pv 9) Qz)))))))) Qp) (zcC (Qa (PW.pt (Xs (Xb (Xg (Zj K Z.T.u3 (Qq (pv 9) (Qq (Jk (v:=.ty "tuple") rfl Z.T.u7 Yn rfl) Qz))))) (Xs (q_t Jj (Qb K (pv 9) Qx) Yd) (Xs (q_t Jj (Zk K Z.T.u0 (Qq (pv 9) Qz)) Qx) (Xi (q_t (Qxv (K:=K) rfl hr.units0) (Qb K (pv 9) Qx) (Qb K (pv 11) Qx))))))) (Qh Yc) Qp) (zcC (Qa (Xb (Xg (Qd (Qtk Z) hr (Qq (pv 1) (Qq (pv 2) (Qq (pv 3) (Qq (Qb K (pv 11) Qx) (Qq (pv 6) (Qq (Qb K (pv 9) Qx) (Qq (Qb K (pv 9) Qx) Qz)))))))))) (Qh Yc) Qp) (zcC (Uv (Qb K (pv 9) Qx) (Vv (K:=K) (n:=2) rfl rfl (Zw (Ql 12 nD) (Zw (Ql 13 nD) Vj)))) (zcC (Qg 14 nD (Qt (Uo (K:=K) rfl rfl) (by rfl) Z.T.u8 Jq (Qq (Xz [Y9,"_law_best",Y21,Y12,Y0] [none,some 11,some 12,some 13,some 2] (Zo Z.T.u1 (Qq (Zk K Z.T.u0 (Qq (pv 2) Qz)) Qz)) (Qk Zh (Qk Qr (pv 2) (Qb K (Qb K (pv 4) (pv 0)) (Qb K (Qb K (pv 1) Qx) (pv 0)))) (Qb K (pv 3) (Qb K (Qb K (pv 1) Qx) (pv 0))))) Qz))) (zcL (Qh (Jw Jb (Qk Qr (pv 14) (Qb K (pv 11) Qx)) (Qk Qr (Qb K (pv 11) Qx) (pv 12)) (Vl _)))))))))))))))))))))),?_⟩;symm;refine ⟨a,ns,_,_,rfl,hS,fu,by decide,by decide,by decide,by decide,λt b0 w0 ak aj ao H1 s1 ht hb0 hM0 ok=>?_⟩;refine ⟨t,_,rfl,SqT.of ht,rfl,_,_,rfl,_,_,rfl,_,_,rfl,rfl,?_⟩;nofun;refine ⟨λσ' H' => ∃ (b0 w0:G5) (ak:K6) (aj:J7) (ao:Int),σ'=[rf a,rf b0,rf w0,iv ao,none,none,none,none,none,none,none,none,none,none,none]/\Qu H H'/\H' b0=some (.lst (ak.map V.int))/\Mat H' w0 aj/\Jg ak aj/\(-(10 ^ 42) < ao/\ao < 10 ^ 42),?_,?_⟩
 ·symm;refine ⟨a,ns,_,rfl,s1.seq hS,by decide,λz1=>?_⟩;symm;refine ⟨z1,_,rfl,by decide,by decide,λm2 p0 p1=>?_⟩;symm;refine Kz (λ_=>?_) (λ_=>?_)
  ·symm;refine ⟨a,ns,rfl,s1.seq hS,λt2 b2 w2 worths2 rent2 H2 s2 h1 h2 h3 h4 h5 h6 h7 h8 h9=>?_⟩;refine ⟨t2,_,rfl,SqT.of h1,rfl,_,_,rfl,_,_,rfl,_,_,rfl,rfl,?_⟩;nofun;exact ⟨b2,w2,[4,4],worths2,rent2,rfl,s1.trans s2,h2,h3,⟨⟨by decide,by lia,λrow hr=>h6 row hr⟩,by lia,by simp; lia,by decide,λrow hr x hx=>by have:=h7 row hr x hx; lia⟩,by lia⟩
  ·nofun;exact ⟨b0,w0,ak,aj,ao,rfl,s1,hb0,hM0,ok.g (by lia) (by lia),by have:=ok.r; lia⟩
 intro σ' H2 q9; obtain ⟨b0,w0,ak,aj,ao,rfl,s2,hb2,hM2,HG,hre⟩:=q9;have hbl:=HG.bok.b1;have hwl:=HG.bok.w1;have hw1:=HG.w1;have hb0':∀ b∈ak,0<=b:=λb hb=>by have:=HG.b1 b hb; lia
 symm;refine ⟨b0,_,rfl,.inl (SqL.of hb2),λb1 H3 n3=>?_⟩;obtain ⟨ws3,hw3,hR3⟩:=id (hM2.same n3.same);symm;refine ⟨⟨_,SqL.of hw3⟩,λD hD=>?_⟩;refine Qq1 (hM2.same n3.same) sml hD (λra row H3 N h3 hN=>?_) λH4 s4 hM4=>?_
 ·symm;exact ⟨ra,_,rfl,.inl (SqL.of h3),hN⟩
 symm;refine λx dx nx ndx nex=>?_;have s0:Qu H4 (upd (upd H4 dx (.own x)) x (.ins CH dx [])):=λc o e=>by rw [Qv (Qj e nx),Qv (Qj e ndx)];exact e
 refine ⟨x,dx,b1,D,ak,aj,ao,rfl,Qy,s0 _ _ (s4 _ _ n3.at_),hM4.same s0,by lia,by lia,HG.w3,λH5 hA5 kp=>⟨rfl,?_⟩⟩;have S5:Qu H2 H5:=(n3.same.trans s4).trans λc o e=>kp c o (s0 _ _ e) (Qj e nx);have hL5:=(hL.same s2).same S5;have qb:=(hL2.same s2).same S5;have hL35:=(hL3.same s2).same S5;nofun;refine ⟨_,rfl,x,ak,aj,ao,rfl,hA5,HG.bok,HG.w3,hb0',hL5,λwy way H6 s6 so6 f6 h6 hL6 ln fit opt=>?_⟩;have hL26:Qe H6 Pb Zy "best_room.<locals>.<lambda>" := qb.o hL5.tbl Z.a51 so6;have hL36:Qe H6 Pc Zc "loose_ones.<locals>.<lambda>" := hL35.o hL5.tbl Z.a52 so6;have aok:Qn ak aj way:=⟨HG.bok,ln,Jt fit⟩
 have hb6:=s6.to _ _ (S5 _ _ hb2) rfl;have hM6:=(hM2.same S5).bf s6;have hA6:=hA5.bf s6;have hS6:=s6.seq ((s2.trans S5).seq hS);clear kp s0 hM4 hR3 hw3 hA5 s4 n3;symm;refine λxa da nxa nda nea=>?_;have sa:Qu H6 (upd (upd H6 da (.own xa)) xa (.ins au da [])):=λc o e=>by rw [Qv (Qj e nxa),Qv (Qj e nda)];exact e
 refine ⟨xa,da,x,wy,ak,aj,ao,way,rfl,Qy,hA6.same sa,sa _ _ h6,λwa H7 f7 p7 w7 kp7=>⟨rfl,?_⟩⟩;have S7:Qu H6 H7:=λc o e=>kp7 c o (sa _ _ e) (Qj e nxa);have aim7:Xd CH au H7 xa ak aj ao way:=⟨da,x,wa,p7,hA6.same S7,w7⟩
 symm;refine ⟨xa,ak,aj,ao,way,rfl,aim7,aok,fit,opt,hL26.same S7,by lia,HG.x,λt0 tp0 rl0 cl0 aq st rows H8 s8 so8 hL28 f2 frl nrc ff g=>?_⟩;have hL38:Qe H8 Pc Zc "loose_ones.<locals>.<lambda>" := (hL36.same S7).o (hL26.same S7).tbl Z.a46 so8;have hL18:Qe H8 Pa Xa "bring_in.<locals>.<lambda>" := (hL6.same S7).o (hL26.same S7).tbl Z.a51.symm so8;have B8:Qc H6 H8:=S7.b.trans s8;have low:=g.low (by lia);have hpr:=g.pr;have hrl:=g.rl_;have lrows:=g.isr.1;have kb:=Cy low (by lia) (by lia);have lR:=low.len;rw [lrows] at lR;generalize hR:(rows.map λz=>z / ((bw aj.length rows:Nat):Int))=R0 at *;generalize hk0:(aj.length:Int) / ((bw aj.length rows:Nat):Int)=k0 at *;symm;refine ixU g.tup rfl ?_;refine ⟨a,w0,wy,tp0,rl0,ns,ak,aj,way,k0,R0,rfl,B8.seq hS6,B8.to _ _ h6 rfl,aok,hpr,hrl,lR,kb.1,kb.2,λpu ps H9 s9 fpu hpu lps hpb=>?_⟩;have pb:∀ i x,ps.getD i none=some x->-(10 ^ 42) < x/\x < 10 ^ 42:=λi x e=>by
  by_cases hi:i < ps.length
  ·rw [getD_eq_getElem?_getD,getElem?_eq_getElem hi] at e;exact hpb _ (N7 hi) x e
  ·rw [getD_eq_getElem?_getD,getElem?_eq_none (by lia)] at e;cases e
 have B9:Qc H6 H9:=B8.trans s9.b;nofun;refine stN (σ':=[rf a,rf b0,rf w0,iv ao,rf x,rf wy,rf pu,none,none,none,none,none,none,none,none]) rfl ?_;clear g hpr hrl low ff so8 s8 sa kp7;symm;refine ⟨pu,_,rfl,.inl (SqL.of hpu),λhd H10 n10=>?_⟩;have B10:Qc H6 H10:=B9.trans n10.same.b;have hL10:Ky H10 Pa Pb Pc Xa Zy Zc:=⟨(hL18.same s9).same n10.same,(hL28.same s9).same n10.same,(hL38.same s9).same n10.same⟩
 have hpu10:=n10.same _ _ hpu;have hhd10:=n10.at_;nofun;refine stN (σ':=[rf a,rf b0,rf w0,iv ao,rf x,rf wy,rf pu,rf hd,none,none,none,none,none,none,none]) rfl ?_;symm;refine ⟨x,ak,aj,ao,rfl,hA6.bf B10,HG,hL10,hre,λrw1 H11 s11 hL11 ig=>?_⟩;have B11:Qc H6 H11:=B10.trans s11;refine ⟨λhle l hM=>?_,λhlt=>?_⟩
 ·obtain ⟨ws,hw,hRw⟩:=id hM;have hn1:=(Sa HG ig).2;have hn2:(Ux ak aj).length<=200:=R4 hn1 hle;have lw:ws.length=(Ux ak aj).length:=by rw [hRw.1,length_map]
  nofun;refine stN (σ':=[rf a,rf b0,rf w0,iv ao,rf x,rf wy,rf pu,rf hd,rf l,none,none,none,none,none,none]) rfl ?_;symm;refine ⟨l,_,rfl,.inl (SqL.of hw),?_⟩;symm;refine Kz (λ_=>?_) (λhsm=>?_)
  ·symm;exact q _
  symm;refine ⟨x,hd,ak,aj,ao,ps,rfl,hA6.bf B11,HG,hL11,hre,s11.to _ _ hhd10 rfl,lps,pb,λrw2 H12 s12 hL12 told2=>?_⟩;have er:=ig.uniq told2;subst er;have B12:Qc H6 H12:=B11.trans s12;have U12:Qc H10 H12:=s11.trans s12;refine ⟨λ_ t f htf hany=>?_,λhlt=>absurd hlt (by lia)⟩;refine ⟨t,_,rfl,SqT.of htf,rfl,_,_,rfl,_,_,rfl,rfl,?_⟩;nofun;refine stC (σ':=[rf a,rf b0,rf w0,iv ao,rf x,rf wy,rf pu,rf hd,rf l,rf f,some (.bl false),none,none,none,none]) rfl ?_;symm;refine ⟨Ff ps,Ff ps,Wz (SqL.of (U12.to _ _ hhd10 rfl)) (Tl _),Wz (SqL.of (U12.to _ _ hpu10 rfl)) (Tl _),Vd _,Vd _,?_⟩;rw [if_pos rfl,Ad];symm;have hok:Ve ak aj ao (Ux ak aj):=⟨HG,hre,λv hv=>Ni.mp hv⟩
  have hM12:=hM.bf s12;have hpu12:=U12.to _ _ hpu10 rfl;have hb12:=B12.to _ _ hb6 rfl;have hMw12:=hM6.bf B12;generalize Ux ak aj=L at *;refine ⟨x,w0,l,pu,ak,aj,ao,ps,L,rfl,hA6.bf B12,hok,hMw12,hM12,hL12,hpu12,lps,pb,λH13 s13=>⟨λhno=>?_,λtb wb j m k h1 h2 h3=>?_⟩⟩
  ·rcases hany with ⟨_,_,_,_,j,m,k,R,rws,_,_,_,_,_,_,fb⟩ | han
   ·nofun;exact absurd fb.2.1.2 (hno j fb.1 m k)
   nofun;refine stN (σ':=[rf a,rf b0,rf w0,iv ao,rf x,rf wy,rf pu,rf hd,rf l,rf f,some (.bl false),some .non,none,none,none]) rfl ?_;symm;exact ⟨b0,w0,l,pu,f,ak,aj,ao,ps,L,rfl,s13.to _ _ hb12 rfl,hMw12.bf s13,hok,hM12.bf s13,by lia,s13.to _ _ hpu12 rfl,lps,han.same s13,λH14 _=>q H14⟩
  ·rcases hany with ⟨wy1,tp,rl,pl,n0,m1,k1,R,rws,g1,g2,g3,g4,g5,g6,fb⟩ | ⟨nl,ts,g1,g2,g3,g4⟩
   ·obtain rfl:=fb.eq h3;have hj:=h3.1;obtain ⟨c1,c2,_⟩:=hok.at_ hj;have aok2:=hok.aok hj;have e1:=s13.to _ _ g1 rfl;have e2:=s13.to _ _ g2 rfl;have e3:=s13.to _ _ g3 rfl;have hM13:=hMw12.bf s13;have j8:=h3.2.1;have hmb:(-(10 ^ 70) < m/\m < 10 ^ 70)/\(0 < k/\k<=10):=by obtain ⟨_,R',rws',a1,a2⟩:=j8;exact ⟨Re HG hre c1 a1 a2,a1.k1⟩
    have hV:Ma λp m k=>p < L.length/\Kt ak aj ao ps L p m k:=hok.val;clear fb h3;nofun;refine stN (σ':=[rf a,rf b0,rf w0,iv ao,rf x,rf wy,rf pu,rf hd,rf l,rf f,some (.bl false),rf tb,none,none,none]) rfl ?_;symm;refine ⟨_,_,_,true,rfl,.tup e1,Yb _ _,_,rfl,Ml ?_⟩;symm;refine ixU e1 rfl ?_;symm;refine ⟨f,_,rfl,.inr (SqT.of e1),?_⟩;symm;refine ixU e1 rfl ?_;symm;refine ixU h1 rfl ?_;refine ⟨wy1,wb,_,_,rfl,rfl,SqL.of e2,SqL.of h2,?_⟩;refine ⟨_,rfl,Vq (by simp) ?_⟩;symm;refine ixU h1 rfl ?_;symm;refine ixU e1 rfl ?_;symm;refine ixU e1 rfl ?_;refine ⟨b0,w0,wb,pu,tp,rl,pl,ak,aj,ao,_,ps,k1,R,rws,rfl,s13.to _ _ hb12 rfl,hM13,h2,HG,hre,c1,c2,s13.to _ _ hpu12 rfl,lps,pb,e3,s13.to _ _ g4 rfl,Zi.bf g5 s13,g6,λH14 s14=>?_⟩;refine ⟨_,rfl,Ml ?_⟩;symm;refine ixU (s14 _ _ e1) rfl ?_;refine ⟨tp,_,rfl,SqT.of (s14 _ _ e3),rfl,_,_,rfl,_,_,rfl,rfl,?_⟩;nofun;refine stC (σ':=[rf a,rf b0,rf w0,iv ao,rf x,rf wy,rf pu,rf hd,rf l,rf f,some (.bl false),rf tb,iv k1,rf rl,none]) rfl ?_;have hrl14:=s14 _ _ (s13.to _ _ g4 rfl);have hwb14:=s14 _ _ h2;have h114:=s14 _ _ h1;have lR2:=g6.len;have kb1:=g6.k1;have gR:∀ r,r < ak.length->(R.map V.int)[r]? = some (.int (R.getD r 0)):=λr hr=>by
     have:r < R.length:=by lia
     simp [getD,this]
    obtain ⟨vs,hw6,hR6⟩:=id (hM13.same s14);have lvs:vs.length=aj.length:=hR6.1;symm;refine ⟨w0,_,rfl,.inl (SqL.of hw6),?_⟩;rw [length_map,lvs];refine ⟨_,rfl,by lia,by lia,λD7 hD7=>?_⟩;rw [Int.toNat_natCast];have hvl:n0 < L.length/\Kt ak aj ao ps L n0 m k:=j8;generalize di:L.getD n0 []=way2 at *;refine Xx (λi=>.int (k1 * Zr aj way2 i - R.getD (way2.getD i 0) 0)) sml hD7 (λi hi H7 N s7 hN=>?_) λH7 s7 d7=>?_
    ·rw [Int.zero_add];obtain ⟨ra,r2,r3,r4,r5⟩:=Ks (i:=i) hR6 aok2 hi;have ob:=Nv (way:=way2) HG.x i;symm;refine ixW i (s7 _ _ hw6) r2 ?_;symm;refine ixU (s7 _ _ h114) rfl ?_;symm;refine ixW i (s7 _ _ hwb14) r4 ?_;refine ixW _ (s7 _ _ r3) r5 ?_;walk_at "m";symm;refine ixU (s7 _ _ h114) rfl ?_;symm;refine ixW i (s7 _ _ hwb14) r4 ?_;refine ixW _ (s7 _ _ hrl14) (gR _ (aok2.at_ hi).2) ?_;symm;exact hN _ (Qu.refl _)
    have d7':H7 D7=some (.lst (((range aj.length).map λi=>k1 * Zr aj way2 i - R.getD (way2.getD i 0) 0).map V.int)):=by rw [d7,map_map]; rfl
    refine ⟨D7,_,rfl,SqL.of d7',by simp; lia,λlm hlm hlmin=>?_⟩;have hmb2:=Re HG hre c1 g6 ⟨hlm,hlmin⟩;have heq:=hV.uniq (p:=n0) ⟨hvl.1,R,rws,by rw [di]; exact g6,by rw [di]; exact ⟨hlm,hlmin⟩⟩ hvl;have h17:=s7 _ _ h114;symm;refine ixU h17 rfl ?_;walk_at "m";symm;refine ixU h17 rfl ?_;refine ⟨_,rfl,_,_,rfl,rfl,⟨by lia,by lia⟩,rfl,?_⟩;show Q (.bl (decide (V.int (lm * k)=V.int (m * k1)))) H7;rw [heq,show decide (V.int (m * k1)=V.int (m * k1))=true from decide_eq_true rfl];exact q _
   ·obtain ⟨u,wy1,pl,rws,_,_,_,_,np⟩:=g4 j h3.1;nofun;exact absurd h3.2.1.2 (Kb hok h3.1 np)
 ·nofun;refine stN (σ':=[rf a,rf b0,rf w0,iv ao,rf x,rf wy,rf pu,rf hd,some .non,none,none,none,none,none,none]) rfl ?_;symm;refine ⟨x,hd,ak,aj,ao,ps,rfl,hA6.bf B11,HG,hL11,hre,s11.to _ _ hhd10 rfl,lps,pb,λrw2 H12 s12 hL12 told2=>?_⟩;have er:=ig.uniq told2;subst er;have U12:Qc H10 H12:=s11.trans s12;refine ⟨λhle=>absurd hlt (by lia),λ_ t htf=>?_⟩;refine ⟨t,_,rfl,SqT.of htf,rfl,_,_,rfl,_,_,rfl,rfl,?_⟩;nofun;refine stC (σ':=[rf a,rf b0,rf w0,iv ao,rf x,rf wy,rf pu,rf hd,some .non,some .non,some (.bl true),none,none,none,none]) rfl ?_;symm;refine ⟨Ff ps,Ff ps,Wz (SqL.of (U12.to _ _ hhd10 rfl)) (Tl _),Wz (SqL.of (U12.to _ _ hpu10 rfl)) (Tl _),Vd _,Vd _,?_⟩;rw [if_pos rfl,Ad];symm;exact q _
end
def Qsk {l:PySem.W.OpenLaw} {q:G8} {loose:M6} {XP:K4->Heap->Prop} {YP:World->Heap->Prop} {d:DefRec} {K:Params->N5} {Pa Pb Pc:G5} (hn:l.most=some 63) (hdf:d.params.defaults=[])
  (hY:∀ (w:World) (h:Heap),YP w h->(K w.params).In h/\∀ P∈[Pc,Pb,Pa],h.get? P=some (PySem.W.tabObj #[])) (hcd:∀ w:World,([Pc,Pb,Pa].all λP=>(K w.params).any λp=>PySem.W.codeHdIn (K w.params) p.1 P)=true) (hnt:∀ w:World,PySem.W.noTabs (K w.params)=true)
  (F:∀ (w:World) (mg:K4) (fa:G5) (h:Heap),(K w.params).In h->h.Ns mainGlobals mg->mg d.name=some (.ref fa) ->
   ∃ fd:FuncData,(∀ (s:G4) (u:G3),BindsTo s fd ⟨[u],[]⟩ [("_law_script",u)])/\∀ base:Heap,(K w.params).In base->base.Ns mainGlobals mg->(∀ P∈[Pc,Pb,Pa],base.BuiltinsAt mg P)->Mn l.prog w (K w.params) mg base CX0 16 fa fd [Y6] (Nm (K w.params) Pa Xa "bring_in.<locals>.<lambda>" Pb Zy "best_room.<locals>.<lambda>" Pc Zc "loose_ones.<locals>.<lambda>")) :
  PySem.W.WalkO q loose XP YP l.row.toRowW d [] (λf vs=>PySem.call f vs) :=
 L2.Qgj (ts:=[Pc,Pb,Pa]) (n:=63) (k:=16) (x:="_law_script") (sp:=λw=>Nm (K w.params) Pa Xa "bring_in.<locals>.<lambda>" Pb Zy "best_room.<locals>.<lambda>" Pc Zc "loose_ones.<locals>.<lambda>") hn (by decide) hdf ⟨rfl,by decide,by decide⟩ hY hcd hnt F (λ_ _ a ns hl hb hT hS=>⟨a,ns,rfl,hS,hl,.inl (hT Pa (Q8 _ (Q8 _ Q7))),.inl (hT Pb (Q8 _ Q7)),.inl (hT Pc Q7),λ_=>rfl⟩)
end My
#print "(<93AXnyAL(ZiMtlyk>C(dUeNv,HR[(ogC}uZ<ei(rt(zaT}12(y>{H_[^MR)-=O/~0,d.)Kg-NG6hcJ)N6HIt0JJk)XELk*nf7M)Y9=,11`}8)c9*L4)|/O)fF)V^e*=E)o)[.bH-i+*,ykvOT4h;*?}QRR1UL_*H*n|_73S>*L]ns/d?m^*VZRi~FX7z*Yrf7DiokI*dq3Oci8NF*t)I5t)z3A*|-YU+f)F2+);w~mn+PK+*j9*P_}L2+/WGD`iN;H+/fkZTYvdU+<I}m-<FhO+IQ2RNBB=^+k(=]EoARv+kE7C<dJps+r_=_[qCeg+tS{pVN4cz,2WGYBRvjT,Nz27d8<,m,dfq?C9MNk,u4Ob;<[1v-AOfcz.k0f-O~UIKKb0--Ums_,[L4}-gucqsz`Fq-|y;T/[kc].7`2Zh6Ae}.AS=W<3E>4.J)8N]:4{U.Q[;DFuCbS.[KL?S?;UP.]Y`iM=5>s.^[QH?MuRD.ifJ,yY|+c.skYF:QJx^.w|`Z*oay:/<*hM0bre2/KhK5g/5M*/XB/u`7:S;/YJOceBF6P/jk^xBWZj5/jnmYl[/<./maUPN:hfY/{q1S_FuWg0.`5{T/~=305U},<8CZ00<t?ICpFYh0A{zjGg.5w0C_XszN[lF0Fbev}>KP}0V:vC4{jBD0i/=.|CkHN1,Cz0x(ICW1,`2FP:^Rg10I=lHsP,~1BM{`Vmg}f1C?(YEMne11DeU~9VkK;1M?gKiG;_C1W+)7.X)Vr1cQ5Z^6;?H1drcudz^5M1rBPx5J4N91rOT.8,BJr1t|pPI*{.C1zY)O:-a0Z2)<9BTacFs2-5{gPiILP2C7}Jdkfx=2Da1t[-GjP2J*KeR1Lfg2VS+^:J2<S2]U6ya.>cZ2]l=gWs)yr2f8;Vkp8TX2i3k9Sa|_u2|I+k])a}Q33X|0rOa2=3>q|PS2h.(3P`_{h)9^/3wTfM1whZJ3w|}1[EgWT4e.Tjrv+=94nHM8ns}Bp5,g<VsVur150rb>9y*c[5290RnazKW5451p*DBU15;;8GduT<Z5=}uR<,<uc6Ba-Tr5-yC6L)^)+sJ]g6TG+BA94?q6xST/SnJIq6}g,/=g|9H6}sfV4D]Ps7*Xv[050z77/Mz1F{]s973sI{gPR*:7IkhxjAN6b7J?SDV=h|R7`2cUSsfZT7d}N|FJA_h8-WwUB,x~-8.V^psK3:;8MF-Mf7-YV8NkQV]D|s}8P.p[^E^]U8bw4/r_fxJ8ch3>EyAoV9+c:o`pft49,z>JXz2_s90C(W8M.zR9>e|HCfn_R9d;x_F_IWV9w.9a9G,3m9~;;XJ<{qE:(IzS<ZJwq:3>N~Q>55y:GKIMdOW(0:Q(MwfVRaB:[H*VIp1O*:imoeeak3.:z(sAW4`DA:{]]7DJEMG;CjFFG>L=s;FeD<xWwqB;I)`m9iHu~;X6+)/+F6S;Z_b+tdf4);jTn{QDu2,;|_LjfJG=W<+>^9I`^Gs<5EQ*XgxG1<7qUa?Jru{<=Uf2/{)BI<n:aBV[ilu<zG==o8B{q=)^5*_NC8?=,?`/sy]Ti=,Bqs/-~OJ=9WKJuKW(q=XZ}9wfT(l=_`]/lo.VG=osfxzR+jT=}GLtSyb3o>(H-(pbR1U>-V,QE6tXL>6IPK}D]NV>=]G{PzNgg>Dwz/_+i2Q>Vqi-uZF55>ZGE(h4HM`>i8AbJm]6:?Rxx*mE<oT?`g2l_djmm?eW^4HMdX_?yu_JR410>A:9=A9{PdBA=-(/qc5}QA?s|3j;5>XAJx+2]?DB~AQr86/6ea]AZrhX}c9-lA^6uzBcJ=nAa0OHs:|i4AjW_SQ[f7RAxF>129*S`B,V[Qo>NTXB/LY`opa/+B0-PQ/uhoFB>X2K}-vKoB[1FW]kTQ5Bwg)KKWOFZBy6C.y~_uGC5Vl-I+9HWC?|prBY5><CD8Kc{E8/;CY[RlP3m:qCcU|xsl{m~CioUd^+GAbCj~JJZ-R9YCt[XSonu2/CwUfC,~[4~D0=NI7DV(xD3k]eD3;oADYlazIXs0NDtW,<,hWmGDt[C?KHrAcD|xDoAxX*oD~;ZnZmqn.E+P~:|g<hYE2Y2|:A79LECQNjbeM~^Eno`qo:VBIEw2*jTHqFGE{EAp<;j<cE}NxN*dh,QF4pz)Mpo{vF6QMS(,<GzF=ATUViF13FAu)f9Ixc(FEw]w}){RUF^<_x`7K*oFfJsEZGC{FFm.31~.J^FG))a)E^RjiG>QFF6I(f)G]uLoEv4QfGd?,v0Y0V8H5rehe8E.:HDR.?N:u=TH[aTREH]L8HgI*CH1xsxI+S.i?C/b6I.s8XLCx02I9dR:EU6IuIAJzf33SJtIbiY22<?LVIp]g6wQ{`/Irdnty7eGdJ.J3I4N`+.J.da+l,)tWJ?68D5P4L4JRo]LqE+L6JYE`TbHOOuJ^61BG/<6kJg/H`Oa]9GJp]fZGXQkTK4u/k9,SwuK6L5FcZk,?K7JFKrSQ:EK8mJav>?Z_KUb.-gR.O*L*w>c3:1NIL9yj,utySwLKU(nsyj7dL^pc_Y+<N/L__=1.rI1WLa7xEJt6(YLjuf1a^2^9LqCGqaV3S_Lsz3r?:ur4L|3EtE20+dL|rI~Y3][vL~6:oI.9(=M?0];>)`IGMJ~Oh]qqaFMN8,U~g>W{MQtx{7K4~ZMTJfcbE+/cM{6d81Ze>bNKj]oXP]9bNWj/AtrY1[NlG{<OE-(2NqF^s2l.>mOUk3+(^HptOa))2Z=)k0P*uC5/AuSJP0*uGglw[hP<n:k.xO6UPM?u:bzA}|PXvW);g*ZAP[4zzdhF-QP[:+pNbun]Pwb*(zY[.=QJoU>H^>r:QNSpJNfpMtQUm5Mtm<WHQi1AS3mOKGRAgg^6z<MYRT>~hsy;~?SERdW8;bQCSGn<aj}m5qSHLc]I<=EuSJ(1>SyYJxSM><.;:jYISN[,9teaugSWrG2Q>tWUSf*~Ki5u,ySl9RfWg6[qSlyF~y(V-JT(CyxSK^?/TBm2zQwgybTkK4b7ojIdTm3zZgssC.Tw1.rw,PKVT{GPkfsyHtUBms>7G`;EUHcS*[GYvmUW{E}M81oDUXSe/wq3KsUpSS4hB5frUwkPJmOq|1U~:Jd}xqb6U~WEryu^;)V0INv+Yei-V6CbY||E/^V:BT7?NIfzV<<dv5-gVkVAL^xQZpS^VDC,TqRw00VSF[y[U3G0VWzg/i3D.6VcT*loDK4`W))(z6kJ}}W+e]w~7.2xW2)0vD]EC~W;|)oR-UocW>m.h]q4^sWDRGPSAHfMWI,hrdn,5rWQ9M/L<*YOWgcHhdUV`7Wu[s)YzCVJX)hYC?|FoyXVdIcqti+3Xu]>MMB0~UXy=vn^cAGnY7zOo?,b}eY96yx(O(*vYJkH7n/z>TYQ;}dMsdJ?Y^H~]>p3P}Ylr]tQ/IMVYu94V=+sv>Z4Xj3)/Kz9ZE[1->?bcwZXkOx6W>s3Zn(=Y8U*JgZqQ8RsE3^GZqia{ihQt][,Dz;ufptU[DYg8e6N<s[O]IrH0Phh[[K+7AgIXH[r]5XuKo6A[sqgRiO86K[u3lh21**;[v6hfQ>W|Y]Gn|C|pSuh]Ndyr],97`]`X+.oh0[V]yR*uCq/{_]{/+=AEJET]|v4T3k3*X^AN}Dei<,r^O((+:Dh}y^kV(|`g[zR^q5R?5S?_0^u+^[(_(83^w2_Bo8=Ia^{D)Fe6J5s_A.dq`]kID_SZ?9:sYd._Ww;85Do3N_m?o4Dv1mO_v,S3yQ]ed_v;D-Mxm,g`QZjQRL]F|`_RRFMJ6S(``6E+b0ZoA`m1szoGXoxa(7cc>eQe=a)prczcbv|a10Qa^9/Qoa=,9F5D1qgaAGyGPK:~yaE]-0o3{a[aEco9J/SMtaIvcQRK>,2aTC,8he+CJaXUai?g*xna~nG6hTygub0Y3fo]RUnb1`2yEEjm-b>Py{y*eyhbAyy8:psHLbSUHg4]RU;bf}c5[9/|Hbh.;Hp88,zc0j7`bHX98c<B9mgESLvc?=w+p(v.{cH/.wDU|C2c`0/{{3ZV*c`b4^*sAZpcj}fVwQ(FGcoJ`y7ookIcodpQ{B*zocz5ydGZi0Pd/P>;e(ebpd/k+sM6w_QdYEhq07NBAddpYg>(A->dpeIbsAG>Ae6RuVlUuP/e>wMFrynu_eET<3eS/v9eTIKD,nBg;eq7_]0g71/euRLB7=trpf:~-X90TCIfB_GV=itDFfU=Mr[SFk>fYhq-vgmnDfZ+`K2[?k+fd]KP1BlG>fo^ApLx]mhg(GE|/a^9Xg4TplcCQ9AgP;6vYRZ6.g[08vnCXdfge.(3Ky<iMgx)YK9L>ubh=K99}bcw7hPhOH=<G3Nhf^0v3Fg_Chu>t+vv0nOhuXr_x,H=khx-TD2tZ^.i)7Ujyhq7Ki7H+bb3VG`imWF4p5?Txin27Bb*TihiuB~Yijit<j(LF(awO{xj(SD{s4o?OjBy_lRpnL_jJ9^2QuuW4jSc1AHO4,TjYp3axw[[xj`kdL2Ef48jj)zBcr6;Mjl}p<5,_,Gk/J<p~ERD.k2ee/B7+4sk4lj6x+WEFk>*HzRunPvkd_Z>C]EV1kiohhp**H,llyEZv12J=lub6yCs2LTl{h0F-Z1}hm^,M;K:7]3m`bYwu+/p:mi.{dO[8K-mktC4g1f:~mpA>li9JS4mwdRvqdfG;n/=W9IAmIDn5X|Fs080en;Q*q[9wHqnjF9Cz=`zYnptoB,DbA~o6c2>Yc_N?oBG(pK^,|NoN4B..>O;Fo_*<_SWU9qobl~8bfNpVol=?aUXt<{ovBYQ(_8yQozX2y{(VstpG00BR5b;jpW;qh,Nl^Fp_U>3_]T?<ps-.gjyIw9pymYx.pj*^q+W=4qU=5jq3z?KMFnz>q6`~fh*q|{q7L|X;1FP,q7kKT2c:.{qJEAyQw6W8qX^p.ul>v/qXs6mcV7n7q}r5ldx99_r8k+YLZJd:r;jYLOLBPpr=usKY5g/8r>OS+mXsD9rEI=^y^^TQrM(?9=Kdy<re*1KQmx+>rh4QHj:8[HsH1xjHh=O:sK,h(Cw/LRsso=PbQ|H-svwWOI,>)hsyW~D.S1Jvs}PAwqEdbZt)GASo`iVit5Tz+G5jg_t=75U,;QnDt=?+->C-_6tO],2dC}YItSrGyJ<MlCtpJi3,e{PFu(pH05O?(*uT*Krph_g}uU/[Yp7Xk?uXCp+0,A(JuZa?-<owhcuoUj(Jw;hNuw7olhEUmLu}Luc?QN9Av.}+qj7P5fv2GjQo4r5uv2Y4hBt~[[vD)jLegpU-vGo5KLaMU[vhJ{>o;]WjvwS9wG(.ZMw-O?)pZ(YpwG9iq1g]E)wYbysQ7dkwwqO+>bc^9Dx.jy[4Id8|x:;pxAlv{hxBY.WR3J{.xdsQzZA{1BxfXSKBYy8ixi=,+6>NmYx}Vi+ftlh9y3HfqNJG5gy5GN24?<HiyFjz1f2*/?"
open PySem PySem.W PyProof.Rows
set_option maxRecDepth 100000 in
set_option maxHeartbeats 0 in
theorem PySem.Challenge.cw_rentshare_k68_within_any_way_holds : PySem.Challenge.rw_rentshare_k68_within_any_way.Holds := by
 w_on; o_law; k_head; (case hw=>w_witness2)
 k_fill
 refine My.Qsk (l:=PySem.Challenge.rw_rentshare_k68_within_any_way) rfl rfl (λw h Y=>⟨PySem.W.km_in_of Y,PySem.W.km_tabs_of Y⟩) (λw=>by kernel_rfl) (λw=>by kernel_rfl) ?F
 case F =>
  intro w mg fa h KX G hmg;have S_law:L2.Src (L2.KOf KX) mg "law" "law" (My.top 80):=by walk_at "s"
  obtain ⟨C,HC,M___init__,M_people,M_rooms⟩:∃ C,L2.Zx1 (L2.KOf KX) mg C/\L2.Kk (L2.KOf KX) C "__init__" "House.__init__" My.Dk/\L2.Kk (L2.KOf KX) C "people" "House.people" My.Ax/\L2.Kk (L2.KOf KX) C "rooms" "House.rooms" My.Qx6:=by
   dsimp only [L2.KOf];refine' ⟨_,⟨PySem.W.mg_of KX G ?aC,⟨?_,?_,?_,?_⟩,?_,?_,?_,?_,?_⟩,L2.Vw ?_ ?_ ?_ ?_ ?_,L2.Vw ?_ ?_ ?_ ?_ ?_,L2.Vw ?_ ?_ ?_ ?_ ?_⟩
   (case aC=>k_is); all_goals first | k_is | (dsimp only [L2.Jn]; k_is) | skip
  obtain ⟨au,CEven,b7,SWorst___init__,SWorst_through,SWorst_gain,SWorst_whole,SWorst_price,HEven,SEven___init__⟩:∃ au CEven,L2.Dj (L2.KOf KX) mg au "Worst"/\L2.Kk (L2.KOf KX) au "__init__" "Aim.__init__" My.Yz/\L2.Kk (L2.KOf KX) au "through" "Worst.through" My.Wg/\L2.Kk (L2.KOf KX) au "gain" "Worst.gain" My.Ps/\L2.Kk (L2.KOf KX) au "whole" "Worst.whole" My.Tw/\L2.Kk (L2.KOf KX) au "price" "Worst.price" My.Tu/\L2.Dj (L2.KOf KX) mg CEven "Even"/\L2.Kk (L2.KOf KX) CEven "__init__" "Aim.__init__" My.Yz:=by
   dsimp only [L2.KOf];refine' ⟨_,_,⟨PySem.W.mg_of KX G ?aC0,⟨?_,?_,?_,?_⟩,?_,?_,?_,?_⟩,L2.Vw ?_ ?_ ?_ ?_ ?_,L2.Vw ?_ ?_ ?_ ?_ ?_,L2.Vw ?_ ?_ ?_ ?_ ?_,L2.Vw ?_ ?_ ?_ ?_ ?_,L2.Vw ?_ ?_ ?_ ?_ ?_,⟨PySem.W.mg_of KX G ?aC1,⟨?_,?_,?_,?_⟩,?_,?_,?_,?_⟩,L2.Vw ?_ ?_ ?_ ?_ ?_⟩
   (case aC0=>k_is); (case aC1=>k_is); all_goals first | k_is | (dsimp only [L2.Jn]; k_is) | skip
  have T:My.Txt mg:=by constructor <;> first | (refine' PySem.W.mg_none_of KX G ?_; k_is) | (refine' ⟨_,PySem.W.mg_of KX G ?z,?y⟩; (case z=>k_is); exact ⟨_,rfl⟩)
  refine L2.Qr8 S_law (λ_ _ _ _ _ _ _=>rfl) (λbase hB=>?_) hmg;have BA3:=hB _ mem_cons_self;have BA2:=hB _ (mem_cons_of_mem _ mem_cons_self);have BA1:=hB _ (mem_cons_of_mem _ (mem_cons_of_mem _ mem_cons_self));obtain ⟨cL,S_loose_ones⟩:∃ c,L2.SrcL (L2.KOf KX) mg "loose_ones" "loose_ones" My.Uk c _:=by
   dsimp only [L2.KOf];refine' L2.Cq "loose_ones" "loose_ones" My.Uk (L2.Cv BA3) KX G ?a ?l ?c ?k ?hd
   (case a=>k_is); (case l=>k_is); (case c=>k_is); (case k=>k_is); (case hd=>kernel_rfl)
  obtain ⟨cR,S_best_room⟩:∃ c,L2.SrcL (L2.KOf KX) mg "best_room" "best_room" My.Vm c _:=by
   dsimp only [L2.KOf];refine' L2.Cq "best_room" "best_room" My.Vm (L2.Cv BA2) KX G ?a1 ?l1 ?c1 ?k1 ?hd1
   (case a1=>k_is); (case l1=>k_is); (case c1=>k_is); (case k1=>k_is); (case hd1=>kernel_rfl)
  obtain ⟨cB,S_bring_in⟩:∃ c,L2.SrcL (L2.KOf KX) mg "bring_in" "bring_in" My.Wd c _:=by
   dsimp only [L2.KOf];refine' L2.Cq "bring_in" "bring_in" My.Wd (L2.Cv BA1) KX G ?a2 ?l2 ?c2 ?k2 ?hd2
   (case a2=>k_is); (case l2=>k_is); (case c2=>k_is); (case k2=>k_is); (case hd2=>kernel_rfl)
  obtain ⟨eM,HE⟩:∃ eM,L2.Zx2 (L2.KOf KX) mg eM:=by
   dsimp only [L2.KOf];refine' ⟨_,⟨PySem.W.mg_of KX G ?a1,L2.Qh0 ?x1 ?x2 ?x3 ?x4 ?x5 ?x6 ?x7 ?x8 ?x9 ?x10⟩⟩
   (case a1=>k_is)
   (case x1=>k_exc); (case x2=>k_is); (case x3=>k_is); (case x4=>k_is); (case x5=>k_is); (case x6=>k_is); (case x7=>k_is); (case x8=>k_is); (case x9=>kts_exm); (case x10=>kit_is)
  exact My.Zqj (P:=My.Pg) (w:=w) (K:=L2.KOf KX) (base:=base) ⟨T,HC,M___init__,M_people,M_rooms,by walk_at "s",by walk_at "s",by walk_at "s",S_bring_in,BA1,by walk_at "s",by walk_at "s",by walk_at "s",SWorst_through,SWorst_gain,b7,S_best_room,BA2,by walk_at "s",by walk_at "s",by walk_at "s",by walk_at "s",by walk_at "s",by walk_at "s",by walk_at "s",by walk_at "s",by walk_at "s",by walk_at "s",by walk_at "s",by walk_at "s",SWorst_whole,SWorst_price,by walk_at "s",by walk_at "s",by walk_at "s",by walk_at "s",by walk_at "s",by walk_at "s",by walk_at "s",by walk_at "s",by walk_at "s",by walk_at "s",by walk_at "s",S_loose_ones,BA3,by walk_at "s",by decide,by walk_at "s",by walk_at "s",by walk_at "s",by walk_at "s",by decide,by decide,HEven,by walk_at "s",by walk_at "s",by walk_at "s",by walk_at "s",by walk_at "s",HE,by walk_at "s",by walk_at "s",by walk_at "s",by walk_at "s",by walk_at "s",by walk_at "s",by walk_at "s",by walk_at "s",by walk_at "s",by walk_at "s",by walk_at "s",by walk_at "s",by walk_at "s",by walk_at "s",by walk_at "s",by walk_at "s",by walk_at "s",by walk_at "s",by walk_at "s",S_law,SWorst___init__,SEven___init__⟩
#print axioms PySem.Challenge.cw_rentshare_k68_within_any_way_holds