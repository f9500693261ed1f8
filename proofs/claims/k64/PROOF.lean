import PyProof.Rows.All
import Wide.All
import KE.KDictOf
import KE.KFromBytes
import KE.KIntText
import KE.KNestM
import Wide.FinOn
import Lean
import PyProof.EqAt
import PyProof.EqKinds
import PyProof.TupleCall
import PyProof.NeData
import PyProof.ZipIter
import PyProof.WalksEnum
import PyProof.Rows.SetFrom
import PyProof.StrLawsTight
import PyProof.StrLawsChain
import PyProof.StrCalls2
import PyProof.ListStr
import PyProof.Rows.StrOrd
import KE.KRevIter
import PyProof.ExcInit
import PyProof.InstStoreFacts
import PyProof.ExcArgs
import PyProof.ExcAttrAll.ValueError
import PyProof.NsDelKeeps
import PyProof.RulesAs
import OpenK.KCls
import PyProof.Rows.TupAssign
import PyProof.StrLawsIn
import KE.KDictSum
import PyProof.DictWalks
import PyProof.Rows.CountFlat
import KE.KTryMore
import KE.KxWritten
import KE.KStrOpen
import KE.KSortTup
import KE.KNest
import PyProof.FString5
import KE.KDictList
import PySem.Challenge.RW_turnleaf_k64_a_still_list_turned
open PySem renaming Addr->δ,Value->ε,Shared->μ,wpAny_bind->ν,wpAny->π,Stmt->Ϧ,model->ϧ,Expr->ϩ,Heap->ϫ,World->ϭ,Program->Ϯ,sizeLine_eq->ϯ,sizeLine->ϰ,wpAny_pure->ϱ,Around->ϴ,starEach->abr,wpAny_mono->ac7,compareOp->adF,wpAny_holding->afM,wpAny_truthy_bool->ag8,wpAny_field->ahc,Scope->ahx,FuncData->aik,wpAny_newObj_type->ai1,codeAny_mono->ajk,wpAny_Call_Name_kw->ajT,PassesOwn->akR,wpAny_passesOwn->ak3,wpAny_pyIter_list->alB,SetTable->amb,wpAny_setField_rec->amw,wpAny_standAt->am0,ExceptHandler->am3,wpAny_loadPart_at->anF,call_meets->aoD,PyData->aoL,codeAny_call_builtin->aoR,wpAny_seqItems->aoX,swapsWith->apg,Builtin->apn,codeAny_builtin->apU,wpAny_call->aqn,wpAny_callSpecial?_slot->aqt,NameKind->aqL,wpAny_nextOf_list_item->aqQ
open PySem.W renaming Frag->Ϩ,findIn->aeL,specialIn->ail,mg_of->ajC,emptyDict->amj,hasDictIn->anO,mroIn->apo,keepIn->apF,kia_one->aqx,instObj->ark,typeIn->ar0,plainGet->ar7,takerIn->asd,methodCall_KW->ash,looks_findIn->asp,readsIn->asu,findCls->asv,methodObj->asA,plainOver->asB,codeIn->asC,takesIn->asK,callWith_K->asM,exmOne->asV,fnOf->as3,plainGet_of->ata,isFn->atb,looks_clsIn->atc,kitOne->atd,cellsFrom_some->atw,lookIn->atO,InstAt->atP,makesIn->atQ,handedIn->at6,nsIn->at7,findObj_own->at9,Looks->aua,clsIn->aub,looks_mroIn->auc,subIn->aud,notCls->aus
open PySem.Str renaming ofString->Ϫ,join->ad2,empty->ase,length->asr
open Nat renaming le_refl->Ϭ,lt_of_lt_of_le->acp,ne_of_lt->acu,le_trans->ad7,lt_of_le_of_lt->aet,zero_le->aeG,add_le_add_left->agC,lt_irrefl->aiF,min_eq_left->aiU,le_add_right->akD,zero_add->alw,ne_of_gt->anM,le_of_eq->anR,min_le_right->apG,le_succ->ap1,lt_succ_of_lt->aq0,le_of_ble_eq_true->arf,le_of_lt->arn,sub_zero->arB,sub_self->arE,toDigits_ne_nil->asi,mod_lt->asz,min_eq_right->asG,mul_le_mul_right->asY,add_zero->atr,lt_succ_self->atv,min_le_left->atR,succ_mul->auk,mul_comm->aul,toDigits->aum
open PySem.Heap renaming get?_push_of_some->ϲ,get?_push_size->abj,lt_size->abA,get?_update_other->acR,get?_update_self->aeY,get?_none_of_le->ajf,size_push->ajp,SameBut->ak7,get?_update_ne->aqi,size_after_update->asH,MadeExcOf->as4,get?_push_at->atn,get?_push_ne->atp,size_update->atJ,IsList->atV
open List renaming getElem?_eq_getElem->ϳ,getElem?_eq_some_iff->aav,length_map->aaw,mem_cons->aaB,mem_of_getElem?->aa0,size_toArray->abd,length_append->abp,mem_map->abt,getElem?_map->abD,mem_cons_of_mem->abF,getD_eq_getElem?_getD->ach,mem_singleton->ack,length_cons->acD,all_eq_true->acL,range->acV,map_cons->acY,length_take->adn,length_drop->adu,mem_append_right->adv,mem_append->adH,length_singleton->adS,mem_cons_self->ad8,find?_cons->aek,mem_of_mem_drop->aey,mem_of_mem_take->aeA,toArray->afj,map_map->afm,drop_eq_getElem_cons->afy,getElem_mem->afz,lookup_cons->af7,not_mem_nil->agq,mem_append_left->agF,take_of_length_le->agJ,replicate->ahh,take_length->ahs,length_range->ahu,length_filter_le->ahD,lookup->ahE,getElem?_append_left->aiJ,nodup_cons->aiP,foldl_cons->aiR,mem_range->ajm,mem_filter->ajs,getElem?_append_right->akd,mem_filterMap->alq,drop_zero->alI,ne_nil_of_length_eq_add_one->alP,append_nil->alR,nodup_append->alW,take_add_one->al1,getElem_inj->amx,filter_cons->amF,drop_length->amX,getElem?_set_self->am9,dropLast_concat_getLast->anf,pairwise_cons->anC,forIn_cons->anT,getElem?_concat_length->anV,getElem?_eq_none->an8,any_cons->ao2,sum_cons->ao4,pairwise_map->ao9,pairwise_iff_getElem->apw,any_eq_true->apH,length->apW,getElem_of_mem->ap7,replicate_succ->aqg,map_congr_left->aqj,length_nil->aqy,length_eq_zero_iff->aqG,map_append->aqK,drop_eq_nil_of_le->aqU,forIn_nil->aq6,length_replicate->arq,countP_le_length->arH,nodup_range->arI,take_append_of_le_length->arS,getElem?_set_ne->arT,filterMap_cons->asb,length_pos_iff->asj,exists_cons_of_ne_nil->asl,filter_append->aso,drop_drop->asq,foldl_append->ass,eq_of_mem_replicate->asw,mapM_toArray->asx,append_assoc->asy,all_cons->asD,map_id->asF,drop_of_length_le->asI,range_succ_eq_map->asJ,of_mem_zip->asL,nil_append->asQ,range_succ->asR,pairwise_reverse->asS,getElem?_reverse->asT,take_append_drop->asU,forall_mem_cons->asW,pairwise_append->asZ,length_reverse->as5,filter_sublist->as6,getElem?_range->as7,mem_map_of_mem->as8,contains_cons->ate,getElem?_drop->ath,zip_cons_cons->atj,countP_append->atk,reverse_cons->atl,reverse_perm->ato,getElem_take->atq,all_map->atu,mem_reverse->atz,zipIdx_cons->atD,cons_append->atF,ext_getElem->atG,map_reverse->atH,all_toArray->atL,countP_cons->atM,getElem_map->atN,zipIdx_nil->atU,not_lt->atX,filter_nil->atY,countP_nil->atZ,lt_irrefl->at3,take_zero->at5,map->aue,lt_trans->auf,map_nil->auj,countP->aup,Nodup->aut
open Bool renaming false_ne_true->aaD,and_eq_true->aaO,eq_iff_iff->ags,eq_false_iff->al4,true_and->amk,false_and->apq,false_eq_true->aqA,or_eq_true->aqC,or_false->ar3,false_or->atg,not_eq_true->atA,decide_or->at4,and_true->auh
open Int renaming eq_ofNat_of_zero_le->abz,emod_lt_of_pos->agT,emod_nonneg->ah8,emod_eq_of_lt->ape,toNat_of_nonneg->aqm,toNat_natCast->aqZ,zero_add->asn,add_emod->asN,mul_emod->asO,emod_emod->atf,mul_zero->aun,add_zero->auo,one_mul->auq,le_refl->aur
open Array renaming getElem?_setIfInBounds_ne->aix,length_toList->ajA,getElem?_eq_none->ajV,getElem?_eq_some_iff->akh,getElem?_toList->arD,toList_append->asf,perm_iff_toList_perm->asm,find?_toList->as9,forIn_toList->ati,size_append->atm,toList_inj->atE,getD->at8,toList->aui
open Option renaming map_eq_some_iff->aj7,isSome_iff_exists->aqo,getD_none->atx,getD_some->aty,bind_some->atB
set_option maxHeartbeats 4000000
set_option Elab.async false
set_option linter.all false
set_option compiler.extract_closed false
set_option autoImplicit true
set_option maxRecDepth 100000
local macro_rules | `(tactic| walk_at "sc") => `(tactic| exact ⟨rfl, rfl, rfl, by decide +kernel, rfl, by decide +kernel, by decide +kernel⟩)
local macro_rules | `(tactic| omega) => `(tactic| lia)
open Lean in
set_option hygiene false in
local macro_rules(kind:=Lean.Parser.Command.declaration)|s=>do
 let d:=s[1]
 let k:=d[0]
 unless k.isAtom&&k.getPos?.isSome&&s[0][1].getArgs.isEmpty&&s[0][3].getArgs.isEmpty do Macro.throwUnsupported
 let a:=k.getAtomVal
 let g(s:Syntax):MacroM Syntax:=do
  let s:=s.rewriteBottomUp λx=>if x.isOfKind ``Parser.Term.basicFun then x.setArg 0 (mkNullNode (x[0].getArgs.map λy=>if y.isOfKind ``Parser.Term.hole then mkIdent `_x else y)) else x
  if (s.find? (·.isOfKind ``Parser.Tactic.renameI)).isSome then `(set_option tactic.hygienic true in $(⟨s⟩):command) else return s
 let z:=d.setArg 0 (mkAtom a)
 let t:=d[2][1]
 if a=="theorem" then return<-g (s.setArg 1 z)
 if a=="def"&&d[3][1].isOfKind ``Parser.Term.byTactic then
  let mut b:=d[2][0]
  let mut t:=t[0]
  if let`($f:ident $x*):=(⟨t[1]⟩:Term) then if (f.getId==`Def&&x.size==4)||(f.getId==`FD&&x.size==6) then
   b:=mkNullNode (#[(<-`(bracketedBinder|(T:Txt K mg))).raw]++b.getArgs)
   t:=t.setArg 1 (<-`($f P w K mg base true $x*))
  return<-g (s.setArg 1 (mkNode ``Parser.Command.theorem #[mkAtom "theorem",d[1],mkNode ``Parser.Command.declSig #[b,t],d[3]]))
 if a=="def"||a=="abbrev" then return(s.setArg 1 z).setArg 0 (s[0].setArg 4 (mkNullNode #[mkNode ``Parser.Command.noncomputable #[mkAtom "noncomputable"]]))
 if a=="inductive"&&t[0][1].getId==`Sp then
  let b:=d[2][0].getArgs
  let mut e:=#[]
  for x in b do if x.isOfKind ``Parser.Term.explicitBinder then e:=e++x[1].getArgs
  let q<-`($(Syntax.mkApp ⟨d[1][0]⟩ (e.map λx=>⟨x⟩)) vs H Q E)
  let rec g:Nat->Syntax->MacroM Syntax
   |0,x=>return x
   |n+1,x=>do if x.isOfKind ``Parser.Term.arrow then return x.setArg 2 (<-g n x[2]) else `($(⟨x⟩)->$q)
  let c:=d[4][0]
  let o:=c[4]
  let y<-g 99 o[1][0][1]
  let p<-`(bracketedBinder|(vs:List V))
  let h<-`(bracketedBinder|(H:Hp))
  let u<-`(bracketedBinder|(Q:VK))
  let w<-`(bracketedBinder|(E:XK))
  let o:=o.setArg 1 (o[1].setArg 0 (o[1][0].setArg 1 y))
  return s.setArg 1 (((z.setArg 2 (d[2].setArg 0 (mkNullNode (b++#[p.raw,h,u,w])) |>.setArg 1 (t.setArg 0 (t[0].setArg 1 (<-`(Prop)))))).setArg 4 (d[4].setArg 0 (c.setArg 4 o))))
 Macro.throwUnsupported
set_option hygiene false in
open Lean in
local macro_rules|`(tactic|exists $es,*)=>do
 let e:=es.getElems
 let S:=e[0]!
 let q:=Syntax.mkApp (mkIdent (if e[1]! matches `(_) then `bF else `Γ)) #[]
 let a:=if S.raw.isIdent then mkIdent `S else mkIdent `N
 let mut r:=#[<-(if e[1]! matches `(_) then `(tactic|refine $q ($a:ident:=$S) (λ_ _ A _ s H vs Q E $(e[2]!) h=>?_)) else `(tactic|refine $q ($a:ident:=$S) $(mkIdent (`T++e[1]!.raw.getId)) (λ_ _ A _ s H vs Q E $(e[2]!) h=>?_))),<-`(tactic|intro X _),<-`(tactic|let $(e[3]!):term:=h)]
 for x in e[4:] do
  r:=r.push (<-match x with
   |`(1)=>`(tactic|have hsz:=ϯ)
   |`(2)=>`(tactic|have nd:=$(mkIdent (S.raw.getId++`nd)))
   |`($y:ident $z:ident)=>`(tactic|have $y:ident:= @$z P w K mg base T)
   |_=>let n:=x.raw.getId;`(tactic|have $(mkIdent n.getRoot):ident:=$(mkIdent (`T++n.replacePrefix n.getRoot .anonymous))))
 `(tactic|($r;*))
theorem _Z.e02{p q:Prop}(h:p/\q)(k:p->q->g):(g:Prop):=k h.1 h.2
theorem _Z.e03{p q r:Prop}(h:p/\q/\r)(k:p->q->r->g):(g:Prop):=_Z.e02 h.2 (k h.1)
theorem _Z.e04{p q r s:Prop}(h:p/\q/\r/\s)(k:p->q->r->s->g):(g:Prop):=_Z.e03 h.2 (k h.1)
theorem _Z.e05{p q r s t:Prop}(h:p/\q/\r/\s/\t)(k:p->q->r->s->t->g):(g:Prop):=_Z.e04 h.2 (k h.1)
theorem _Z.e06{p q r s t i:Prop}(h:p/\q/\r/\s/\t/\i)(k:p->q->r->s->t->i->g):(g:Prop):=_Z.e05 h.2 (k h.1)
theorem _Z.e11{p:α->Prop}(h:∃x,p x)(k:∀x,p x->g):(g:Prop):=h.elim k
theorem _Z.e12{p q:α->Prop}(h:∃x,p x/\q x)(k:∀x,p x->q x->g):(g:Prop):=h.elim λx h=>_Z.e02 h (k x)
theorem _Z.e13{p q r:α->Prop}(h:∃x,p x/\q x/\r x)(k:∀x,p x->q x->r x->g):(g:Prop):=h.elim λx h=>_Z.e03 h (k x)
theorem _Z.e14{p q r s:α->Prop}(h:∃x,p x/\q x/\r x/\s x)(k:∀x,p x->q x->r x->s x->g):(g:Prop):=h.elim λx h=>_Z.e04 h (k x)
theorem _Z.e15{p q r s t:α->Prop}(h:∃x,p x/\q x/\r x/\s x/\t x)(k:∀x,p x->q x->r x->s x->t x->g):(g:Prop):=h.elim λx h=>_Z.e05 h (k x)
theorem _Z.e21{p:α->β->Prop}(h:∃x y,p x y)(k:∀x y,p x y->g):(g:Prop):=h.elim λx h=>_Z.e11 h (k x)
theorem _Z.e22{p q:α->β->Prop}(h:∃x y,p x y/\q x y)(k:∀x y,p x y->q x y->g):(g:Prop):=h.elim λx h=>_Z.e12 h (k x)
theorem _Z.e23{p q r:α->β->Prop}(h:∃x y,p x y/\q x y/\r x y)(k:∀x y,p x y->q x y->r x y->g):(g:Prop):=h.elim λx h=>_Z.e13 h (k x)
theorem _Z.e24{p q r s:α->β->Prop}(h:∃x y,p x y/\q x y/\r x y/\s x y)(k:∀x y,p x y->q x y->r x y->s x y->g):(g:Prop):=h.elim λx h=>_Z.e14 h (k x)
theorem _Z.e25{p q r s t:α->β->Prop}(h:∃x y,p x y/\q x y/\r x y/\s x y/\t x y)(k:∀x y,p x y->q x y->r x y->s x y->t x y->g):(g:Prop):=h.elim λx h=>_Z.e15 h (k x)
theorem _Z.e31{p:α->β->γ->Prop}(h:∃x y z,p x y z)(k:∀x y z,p x y z->g):(g:Prop):=h.elim λx h=>_Z.e21 h (k x)
theorem _Z.e32{p q:α->β->γ->Prop}(h:∃x y z,p x y z/\q x y z)(k:∀x y z,p x y z->q x y z->g):(g:Prop):=h.elim λx h=>_Z.e22 h (k x)
theorem _Z.e33{p q r:α->β->γ->Prop}(h:∃x y z,p x y z/\q x y z/\r x y z)(k:∀x y z,p x y z->q x y z->r x y z->g):(g:Prop):=h.elim λx h=>_Z.e23 h (k x)
theorem _Z.e34{p q r s:α->β->γ->Prop}(h:∃x y z,p x y z/\q x y z/\r x y z/\s x y z)(k:∀x y z,p x y z->q x y z->r x y z->s x y z->g):(g:Prop):=h.elim λx h=>_Z.e24 h (k x)
set_option hygiene false in
open Lean Parser.Tactic in
local macro_rules(kind:=Lean.Parser.Tactic.tacticLet__)|s=>do
 match s with
 |`(tactic|let $p:term:=$e)=>do
  if let`($f:ident $_ $o):=e then if let`(#[$s:ident,$a:ident,$h,$j,$g:ident]):=p then if f.getId==`Ο then return<-`(tactic|(let #[$s,$a]:=$e;generalize upd $h $j $o=$g at $s:ident $a:ident ⊢))
  let`(#[$x,*]):=p|Macro.throwUnsupported
  let d:=e.raw.isIdent
  let mut i:Array Term:=#[]
  let mut q:=#[]
  let mut r:=#[]
  for y in x.getElems do
   let mut z:=y
   unless y matches `(_)||y.raw.isIdent&&y.raw.getId !=`rfl do
    z:=mkIdent (.mkSimple s!"_{if d then e.raw.getId.toString else ""}{i.size}")
    r:=r.push (<-if y.raw.isIdent then `(tactic|subst $z) else `(tactic|let $y:term:=$z))
   i:=i.push z
   q:=q.push (<-if z.raw.isIdent then `(rcasesPatLo|$(⟨z⟩):ident) else `(rcasesPatLo|_))
  let n:=i.size
  let c<-if d then `(tactic|try clear $e) else `(tactic|skip)
  let f(n:Nat)(i:Array Term):MacroM (TSyntax `tactic):=do
   let mut a:=#[]
   for m in if n<5 then [1,2,0,3] else [2,3,0,1] do if m<n then a:=a.push (<-`(tacticSeq|refine $(mkIdent (.mkStr `_Z s!"e{m}{n-m}")) $e ?_))
   `(tactic|((first $[|$a]*);$c;intro $i*))
  let b:=i.extract 3 n
  let k:=mkIdent `_c
  let j<-if n<5 then `(tactic|fail) else `(tactic|($(<-f 4 ((i.extract 0 3).push k));let #[$b,*]:=$k))
  let t:=#[<-if n<3 then `(tactic|obtain ⟨$q,*⟩:=$e) else `(tactic|first|$(<-f n i):tactic|$j:tactic|obtain ⟨$q,*⟩:=$e)]++r
  `(tactic|($t;*))
 |`(tactic|let $x:ident:=!$f:ident)=>`(tactic|have $x:ident:= @$f P w K mg base T)
 |_=>return(s.setKind ``tacticHave__).setArg 0 (mkAtom "have")
local macro_rules|`(#[$x,*])=>`(⟨$x,*⟩)
local macro_rules|`(#v[$x,*])=>`(List.toArray [$x,*])
local macro_rules|`(tactic|show $e)=>`(tactic|refine $e)
local macro_rules|`(tactic|lk)=>`(tactic|walk_at "ex")
local macro_rules|`(tactic|cbv)=>`(tactic|walk_at "go")
local macro_rules|`(tactic|f_are)=>`(tactic|walk_at "e")
local macro_rules|`(tactic|f_tup)=>`(tactic|walk_at "s")
local macro_rules|`(tactic|k_go)=>`(tactic|walk_at "A")
local macro_rules|`(tactic|room)=>`(tactic|walk_at "sc")
local macro_rules|`(tactic|w_up)=>`(tactic|walk_at "c")
local macro_rules|`(tactic|f_len)=>`(tactic|walk_at "n")
local macro_rules|`(())=>`(by omega)
local macro_rules|`(tactic|fin2)=>`(tactic|decide+kernel)
local macro_rules|`(↑$e)=>`(some $e)
local macro_rules|`(↥$e)=>`(($e).length)
local macro_rules|`($a<|>$b)=>`(($a).trans $b)
local macro_rules|`($a<*$b)=>`($a _ _ $b)
local macro_rules|`(tactic|show $a*>$b)=>`(tactic|(show $a;show $b))
local macro_rules|`(tactic|show $a>>=$b)=>`(tactic|(show $a;lk;show $b))
set_option tactic.hygienic false
local macro_rules|`(⇑$e)=>`(($e).heap.objs.size)
local macro_rules|`(~~~$e)=>`(by simpa using $e)
set_option hygiene false in
local macro_rules|`(tactic|symm)=>`(tactic|(f_len;show ψ ?_))
set_option hygiene false in
local macro_rules|`(∅)=>`(ϧ X.prog X.w)
abbrev MG:=PySem.Str->Option PySem.Value
namespace _L
open PySem PySem.Spec PyProof.Rows
abbrev Key:=Sum Int Str
def tG:Key->ε->Bool
 |.inl k,v=>Value.isInt k v
 |.inr x,v=>Value.isStrOf x v
def aow(w:ϭ):Key->Int
 |.inl k=>hashInt k
 |.inr x=>hashStr w x
theorem jc:∀{k:Key}{v:ε},tG k v=true->(∃i t,k=Sum.inl i/\v=Value.int i t)\/(∃x t,k=Sum.inr x/\v=Value.str x t)
 |.inl i,v,h=>by
   let#[t,e]:=Value.isInt_shape (k:=i) (v:=v) h;show .inl #[i,t,rfl,e]
 |.inr x,v,h=>by
   let#[t,e]:=Value.isStrOf_shape (x:=x) (v:=v) h;show .inr #[x,t,rfl,e]
def agB(a b:Int):decide ((Sum.inl a:Key)=Sum.inl b)=(a==b):=by
 by_cases e:a=b
 .subst e;simp
 .let h:¬(Sum.inl a:Key)=Sum.inl b:=λq=>e (Sum.inl.inj q)
  rw[decide_eq_false h];show(beq_eq_false_iff_ne.mpr e).symm
def ajW(a b:Str):decide ((Sum.inr a:Key)=Sum.inr b)=decide (a=b):=by
 by_cases e:a=b
 .subst e;simp
 .let h:¬(Sum.inr a:Key)=Sum.inr b:=λq=>e (Sum.inr.inj q)
  rw[decide_eq_false h,decide_eq_false e]
theorem aia(a:Int)(b:Str):decide ((Sum.inl a:Key)=Sum.inr b)=false:=decide_eq_false (λq=>nomatch q)
theorem ahF(a:Str)(b:Int):decide ((Sum.inr a:Key)=Sum.inl b)=false:=decide_eq_false (λq=>nomatch q)
def gH(prog:Ϯ)(w:ϭ):PySem.KeyKind prog w Key where
 is:=tG
 hash:=aow w
 inj:=λv a b ha f=>by
  obtain⟨i,t,rfl,rfl⟩|⟨x,t,rfl,rfl⟩:=jc ha
  .obtain⟨j,u,rfl,e⟩|⟨y,u,rfl,e⟩:=jc f
   .injection e with e1 _;rw[e1]
   .show nomatch e
  .obtain⟨j,u,rfl,e⟩|⟨y,u,rfl,e⟩:=jc f
   .show nomatch e
   .injection e with e1 _;rw[e1]
 byValue:=λk v h=>by
  obtain⟨i,t,rfl,rfl⟩|⟨x,t,rfl,rfl⟩:=jc h<;>rfl
 pyHash:=λc h=>by
  obtain⟨i,t,rfl,rfl⟩|⟨x,t,rfl,rfl⟩:=jc c
  .show wpAny_pyHash_int h
  .show wpAny_pyHash_str h
 eqBool:=λg c h=>by
  obtain⟨i,t,rfl,rfl⟩|⟨x,t,rfl,rfl⟩:=jc g
  .obtain⟨j,u,rfl,rfl⟩|⟨y,u,rfl,rfl⟩:=jc c
   .rw[agB]at h;show wpAny_eqBool_int h
   .rw[aia]at h;show SeqAt.EqAt.int_str i t y u _ _ _ _ h
  .obtain⟨j,u,rfl,rfl⟩|⟨y,u,rfl,rfl⟩:=jc c
   .rw[ahF]at h;show SeqAt.EqAt.str_int x t j u _ _ _ _ h
   .rw[ajW]at h;show wpAny_eqBool_str h
 «strs» :=λk x t v h=>by
  obtain⟨i,u,rfl,e⟩|⟨y,u,rfl,e⟩:=jc h
  .show nomatch e
  .injection e with e1 _
   subst e1;cases v<;>rfl
inductive V where
 |non|bl (b:Bool)|int (i:Int)|str (x:Str)|byt (b:Array UInt8)|flt (b:UInt64)|ref (a:δ)|ty (n:String)
 deriving DecidableEq
def RelV:V->ε->Prop
 |.non,u=>u=Value.none
 |.bl b,u=>u=Value.bool b
 |.int i,u=>∃t,u=Value.int i t
 |.str x,u=>∃t,u=Value.str x t
 |.byt b,u=>∃t,u=Value.bytes b t
 |.flt b,u=>∃t,u=Value.float b t
 |.ref a,u=>u=Value.ref a
 |.ty n,u=>u=Value.type n
abbrev Vals:List V->List ε->Prop:=Paired RelV
def dj:Option V->Option ε->Prop
 |some v,↑u=>RelV v u
 |none,none=>True
 |_,_=>False
def KV{κ:Type}:List (κ×V)->List (κ×ε)->Prop:=Paired λ(p:κ×V)(q:κ×ε)=>p.1=q.1/\RelV p.2 q.2
inductive HO where
 |lst (xs:List V)
 |tup (xs:List V)
 |dK (Ϸ:List (Key×V))
 |ins (C dx:δ) (fs:List (Str×V))
 |own (x:δ)
 |xd (fs:List (Str×V))
 |met (f x:δ)
 |rng (lo hi:Int)
 |frz (o:Obj) (u:HO)
 |tbl (ps:Array ε)
 |ext (φ:ϫ->Prop)
abbrev Hp:=δ->Option HO
section
variable(P:Ϯ)(w:ϭ)
def ώ(H:Hp)(h:ϫ)(a:δ):HO->Prop
 |.lst xs=>↥xs<=ϰ/\∃(e:List ε)(n:Nat),Vals xs e/\h.get? a=some {cls:=.type "list",data:=.seq e.toArray n}
 |.tup xs=>↥xs<=ϰ/\∃e:List ε,Vals xs e/\IsTup h a e.toArray
 |.dK Ϸ=>↥Ϸ<=ϰ/\(a==sysModules)=false/\∃vs,KV Ϸ vs/\h.DictOf (gH P w) a vs
 |.ins C dx fs=>H dx=↑(.own a)/\↥fs<=1000/\dx≠a/\h.get? a=↑(ark C dx)/\
   ∃mA,h.Ns1 dx mA/\(∀f,dj (fs.lookup f) (mA f))/\PySem.Within mA (fs.map (·.1))
 |.own _=>∃o,h.get? a=↑o
 |.xd fs=>∃mA,h.Ns1 a mA/\∀f,dj (fs.lookup f) (mA f)
 |.rng lo hi=>∃t u v,h.get? a=some {cls:=.type "range",data:=.fields #v[.int lo t,.int hi u,.int 1 v]}
 |.frz o u=>h.get? a=↑o/\ώ H h a u
 |.tbl ps=>∃g:Array ε,h.get? a=some {cls:=.none,data:=.fields g}/\TriplesOk g.toList/\∀(p:Pos)(i:ε),codeAmong p g.toList=↑i->∃c oc u q t vs t',i=.ref c/\codeAmong p ps.toList=↑(.str q t)/\H c=↑(.frz oc u)/\oc.data=.fields vs/\vs[1]?=↑(.str q t')
 |.met f x=>h.get? a=↑(asA (.ref f) (.ref x))
 |.ext φ=>φ h/\(∃o,h.get? a=↑o)/\∀h1 h2:ϫ,φ h1->(∀o,h1.get? a=↑o->h2.get? a=↑o)->φ h2
def aG(H:Hp)(h:ϫ):=∀a o,H a=↑o->ώ P w H h a o
end
def Rd(H:Hp)(a:δ)(u:HO):Prop:=H a=↑u\/∃o,H a=↑(.frz o u)
structure Un(fs ex:List δ)(H H':Hp)(h h':ϫ):Prop where
 keep:∀b o,h.get? b=↑o->H b=none->b∉fs->b∉ex->h'.get? b=↑o
 slot:∀b o,h.get? b=↑o->H b=none->b∈fs->b∉ex->∃sl,h'.get? b=some {o with slots:=sl}
 free:∀b o,h.get? b=↑o->H b=none->b∉ex->H' b=none
 there:∀b o,h.get? b=↑o->b∉ex->∃o',h'.get? b=↑o'
 tups:∀b xs,H b=↑(.tup xs)->H' b=↑(.tup xs)
 frzs:∀b o u,H b=↑(.frz o u)->H' b=↑(.frz o u)
 tbls:∀b ps,H b=↑(.tbl ps)->∃more,H' b=↑(.tbl (ps++more))
def lg(h:ϫ)(H:Hp):List δ:=(acV h.objs.size).filter λa=>(H a).isSome
def jV(h:ϫ)(H:Hp):ϫ:=W.hideAll h (lg h H)
theorem afJ(h:ϫ)(H:Hp):(jV h H).objs.size=h.objs.size:=W.hideAll_size _ _
theorem ah4(e:h.get? b=↑o)(n:H b=none):(jV h H).get? b=↑o:=
 W.hideAll_get _ e λa=>by
  let q:(H b).isSome=true:=(ajs.mp a).2;rw[n]at q;simp at q
def ah0(e:(jV h H).get? b=↑o):h.get? b=↑o/\H b=none:=by
 let a:h.get? b=↑o:=W.of_hideAll (lg h H) e;show#[a,?_];cases q:H b with
 |none=>rfl
 |some x=>
  let c:b∈lg h H:=ajs.mpr #[ajm.mpr (abA a),by simp[q]];let z:(jV h H).get? b=none:=W.hideAll_none (lg h H) c;rw[z]at e;cases e
structure Mod(K:Ϩ)(mg:MG)(base:ϫ):Prop where
 kin:K.In base
 glob:base.Ns mainGlobals mg
 blt:∃mb,base.Ns builtinsNs mb/\∀x:Str,x≠"__name__"->mb x=bootBuiltins x
 nolimit:base.NoLimit
def dJ(l:List Env):List δ:=l.filterMap (·.frame)
abbrev XK:=ε->Option δ×Bool->Hp->Prop
abbrev VK:=V->Hp->Prop
def η(K:Ϩ)(H:Hp)(a:δ)(xs:List V):Prop:=
 Rd H a (.lst xs)\/
  ∃(o:Obj)(c:Array ε)(n:Nat),K.lookup a=↑o/\o.cls=.type "list"/\o.dict=none/\o.data=.seq c n/\c.size<=ϰ/\Vals xs c.toList
structure Ϣ(K:Ϩ)(C:δ):Prop where
 pg:ar7 K C ase=true
 hd:anO K C=true
 po:asB K C=true
 sa:aeL K (.ref C) "__setattr__"=some ↑(.builtin "object.__setattr__")
def Ϗ(K:Ϩ)(C:δ)(f:Str):Prop:=aeL K (.ref C) f=↑none
structure Meth(K:Ϩ)(C:δ)(m:Str)(f:δ):Prop where
 at_:aeL K (.ref C) m=some ↑(.ref f)
 fn:atb K (.ref f)=true
 kp:apF K (.ref f)=true
section
variable{X:Cx}{ϵ:List (δ×Obj)}{σ:St}{H:Hp}{s:μ}{A:ϴ}{E:ε->μ->Prop}{Q:ε->μ->Prop}{c:ε}{b:Bool}
inductive d9 (K:Ϩ) (H:Hp):V->ε->Prop where
 |non:d9 K H .non (.type "NoneType")
 |bl (x:Bool):d9 K H (.bl x) (.type "bool")
 |int (i:Int):d9 K H (.int i) (.type "int")
 |str (x:Str):d9 K H (.str x) (.type "str")
 |flt (x:UInt64):d9 K H (.flt x) (.type "float")
 |lst {a:δ} {xs:List V} (e:H a=↑(.lst xs)):d9 K H (.ref a) (.type "list")
 |frz {a:δ} {o:Obj} {xs:List V} (e:H a=↑(.frz o (.lst xs))):d9 K H (.ref a) (.type "list")
 |tup {a:δ} {xs:List V} (e:H a=↑(.tup xs)):d9 K H (.ref a) (.type "tuple")
 |dK {a:δ} {Ϸ:List (Key×V)} (e:H a=↑(.dK Ϸ)):d9 K H (.ref a) (.type "dict")
 |ins {a C dx:δ} {fs:List (Str×V)} (e:H a=↑(.ins C dx fs)) (cl:Ϣ K C) (ha:aeL K (.ref C) "__class__"=some ↑(.builtin "object.__class__"))
  (hn:ail K (.builtin "object.__class__") "__get__"=some ↑(.builtin "getset_descriptor.__get__")) (htk:asK K (.builtin "object.__class__")=↑true)
  (hm:apo K C (.type "object")=↑true):d9 K H (.ref a) (.ref C)
end
structure ϗ(cc:Bool)(k:Nat)(A:ϴ):Prop where
 hd:cc=true->A.handled=none
 dp:A.depth+3*k+5<recursionLimit
 un:A.units+16*k+200<cLine
abbrev Sp:=List V->Hp->VK->XK->Prop
abbrev gO:=List Env->Hp->μ->XK->ε->μ->Prop
structure nO(P:Ϯ)(w:ϭ)(K:Ϩ)(mg:MG)(base:ϫ)(A:ϴ)(outer:List Env)(s:μ)(H:Hp):Prop where
 frames:A.frames=↑outer
 mod:Mod K mg base
 bs:∀b o,base.get? b=↑o->s.heap.get? b=↑o/\H b=none
 bsz:base.objs.size<=⇑s
 funs:s.heap.FunFrames base outer
 frf:∀b∈dJ outer,H b=none
 hok:aG P w H s.heap
 bare:AllBare s.gens
def CE(outer:List Env)(P:Ϯ)(w:ϭ)(H:Hp)(s:μ)(Q:VK)(u:ε)(s':μ):Prop:=
 ∃v H',s'.os=s.os/\AllBare s'.gens/\Un (dJ outer) [] H H' s.heap s'.heap/\aG P w H' s'.heap/\RelV v u/\Q v H'
def CR(CX:gO)(outer:List Env)(P:Ϯ)(w:ϭ)(H:Hp)(s:μ)(Q:VK)(E:XK)(r:Result)(s':μ):Prop:=
 match r with
 |.ok (.ret u)=>CE outer P w H s Q u s'
 |.ok _=>False
 |.error e=>CX outer H s E e s'
structure dF(P:Ϯ)(w:ϭ)(K:Ϩ)(mg:MG)(base:ϫ)(CX:gO)(cc:Bool)(k:Nat)(f:δ)(fd:aik)(ps:List Str)(sp:Sp):Prop where
 len:∀vs H Q E,sp vs H Q E->↥vs=↥ps
 run:∀(A:ϴ)(outer:List Env)(s:μ)(H:Hp)(args:Args)(us:List ε)(vs:List V)(Q:VK)(E:XK),ϗ cc k A->nO P w K mg base A outer s H->BindsTo s fd args (ps.zip us)->Vals vs us->sp vs H Q E->
  codeAny (ϧ P w) A (.call (.ref f) args) (CR CX outer P w H s Q E) s
structure Mk(K:Ϩ)(C f:δ):Prop where
 makes:atQ K C=true
 init:aeL K (.ref C) "__init__"=some ↑(.ref f)
 fn:atb K (.ref f)=true
 kp:apF K (.ref C)=true
end _L
namespace _A
open PySem PySem.W PySem.Calls PyProof.Rows
def afF:∀(ns:List Int)(vs:List ε),WellAll P h vs (ns.map WData.int)->IntsAre vs ns:=by
 intro ns;induction ns with
 |nil=>
  intro vs w;rw[auj]at w;cases w;show .nil
 |cons n ns c=>
  intro vs w;rw[acY]at w;cases w with
  |cons a b=>
   cases a;show .cons _ _ (c _ b)
def aln{l:OpenLaw}{n:Nat}(hn:l.most=↑n){P:Params}{h:ϫ}(c:l.row.toRowW.claim.pre args=true)(j:WellAll P h vals args):∃a vs ns,vals=[Value.ref a]/\args=[WData.list (ns.map WData.int)]/\h.get? a=some {cls:=.type "list",data:=.seq vs.toArray}/\IntsAre vs ns/\↥ns<=n:=by
 let m:WShape.hasAll [] args [.list .int]=true:=(pre_splitW c).1;let p:l.pre.holds [] {args:=args}=true:=(pre_splitW c).2;let#[d,r,rfl,h1,h2]:=hasAllW_cons m;obtain rfl:=hasAllW_nil h2;let#[xs,rfl,s]:=hasW_list h1;let#[ns,rfl]:=items_int s;let e:↥ns<=n:=by
  unfold OpenLaw.pre at p;let g:(WTm.not (.lt (.lit (.int (n:Int))) (.len (.arg 0)))).holds [] {args:=[.list (ns.map .int)]}=true:=by
   let g:=(holds_andW p).1;rw[hn]at g;show g
  let i:=condW_of g (w_not (w_lt w_lit (w_len_list (w_arg rfl))));rw[aaw]at i;show Nat.le_of_not_lt λq=>?_
  let u:(n:Int)<((↥ns:Nat):Int):=()
  first
   |(rw[decide_eq_true u]at i;show absurd i (by decide))
   |(simp at i;omega)
 cases j with
 |cons v x=>
  cases x;cases v with
  |list y f=>show#[_,_,ns,rfl,rfl,y,afF ns _ f,e]
theorem ahL(l:OpenLaw)(args:List WData):l.row.toRowW.claim.post args (.bool true) args=true:=
 postW_of (r:=l.row.toRowW) (X:=(true==true))
  (show WShape.has [] (.bool true) .bool=true by first|rfl|decide|simp[WShape.has,WShape.arms,WShape.armsAll])
  (show(WTm.eq .res (.lit (.bool true))).value [] {args:=args,res:=↑(.bool true),after:=args}=↑(.bool (true==true))from w_eq_bool (w_res rfl) w_lit) rfl
def ai0{l:OpenLaw}{n:Nat}{q:Ϯ}{z:(Str->Option ε)->ϫ->Prop}{B:ϭ->ϫ->Prop}{d:DefRec}(hn:l.most=↑n)(u:d.params.defaults=[])(call:∀(w:ϭ)(s₀ c:μ)(mg mb:MG)(j:δ)(o:Obj)(pm cd g:ε)(a:δ)(vs:List ε)(ns:List Int),
   Ground q e [] z w s₀ mg mb c.heap->B w c.heap->
   c.heap.get? j=↑o->o.data=.func (docDef d.name d.params d.body d.scope pm cd g)->c.heap.CodeRec cd d.name->mg d.name=↑(.ref j)->
   c.heap.get? a=some {cls:=.type "list",data:=.seq vs.toArray}->IntsAre vs ns->↥ns<=n->c.gens= #v[]->
   codeAny (ϧ l.prog w) callerA (.call (.ref j) #[[.ref a],[]]) (λr s'=>r=.ok (.ret (.bool true))/\OldK c.heap s'.heap/\s'.os=c.os/\AllBare s'.gens) c):WalkO q e z B l.row.toRowW d [] (λf vs=>PySem.call f vs):=by
 intro w s₀ c mg mb G Y j o pm cd g dV kV H hd v D x I E vals as m F J y L;obtain rfl:dV=.none:=Dflts.none D u;obtain rfl:kV=.none:=Dflts.noKw D;let#[a,vs,ns,rfl,rfl,p,i,s]:=aln hn m y;show enter_call (ajk (call w s₀ c mg mb j o pm cd g a vs ns G Y H (fd_plain hd) v x p i s I) λr s' M=>?_);let#[rfl,h2,O,P]:=M;show#[.inl #[.bool true,.bool true,[],rfl,λ_=>rfl,.bool true,ahL l _,λ_=>#[List.Pairwise.nil,λ_ Q=>(nomatch Q)]],h2,O,P]
end _A
namespace _L
open PySem PySem.Spec PyProof.Rows
theorem abk:∀{vs:List ε}{ns:List Int},IntsAre vs ns->Vals (ns.map V.int) vs
 |_,_,.nil=>.nil
 |_,_,.cons n t h=>.cons #[t,rfl] (abk h)
abbrev QS{K:Ϩ}{h:ϫ}(_:K.In h):Ϩ:=K
def inClass(s:Ϧ)(j:Nat):Ϧ:=match s with
 |.ClassDef _ _ _ body _ _ _ _ _ _ _=>body.getD j (.Pass #[0,0,0,0])
 |_=>.Pass #[0,0,0,0]
def kW(s:Ϧ):Arguments:=match s with
 |.FunctionDef _ a _ _ _ _ _ _ _ _=>a
 |_=>{posonlyargs:=[],args:=[],vararg:=none,kwonlyargs:=[],kw_defaults:=[],kwarg:=none,defaults:=[]}
def ϓ(s:Ϧ):List Ϧ:=match s with
 |.FunctionDef _ _ b _ _ _ _ _ _ _=>b
 |_=>[]
def υ(s:Ϧ):ahx:=match s with
 |.FunctionDef _ _ _ _ _ _ sc _ _ _=>sc
 |_=>{kind:=.function,names:=[],isGenerator:=false,isCoroutine:=false}
structure dm(K:Ϩ)(x qual:Str)(st:Ϧ)(f:δ)(fd:aik):Prop where
 ex:∃(oc:ε)(od:Option δ)(kV doc pm:ε)(an:Option δ)(Ϻ ct:ε)(osl:Array (Option ε)),
  fd=as3 x qual (kW st) (ϓ st) (υ st) .none kV doc pm an Ϻ ct/\K.lookup f=some #[oc,od,.func fd,osl]/\asC K Ϻ qual=true
 kp:apF K (.ref f)=true
section
variable{P:Ϯ}{w:ϭ}{K:Ϩ}{mg:MG}{base:ϫ}
theorem vq{st:Ϧ}{f:δ}{oc:ε}{od an:Option δ}{e:Array (Option ε)}{kV a pm g ct:ε}(l:K.lookup f=some #[oc,od,.func (as3 x qual (kW st) (ϓ st) (υ st) .none kV a pm an g ct),e])(c:asC K g qual=true)(k:apF K (.ref f)=true):dm K x qual st f (as3 x qual (kW st) (ϓ st) (υ st) .none kV a pm an g ct):=#[#[oc,od,kV,a,pm,an,g,ct,e,rfl,l,c],k]
end
def rm(h:ϫ):Option ε->List δ->Prop
 |c,[]=>c=↑.none
 |c,a::r=>c=↑(.ref a)/\∃o vs,h.get? a=↑o/\o.data=.fields vs/\rm h vs[2]? r
def Ctx(h:ϫ)(e:δ)(b:Bool)(c:Option ε):Prop:=(b=true->c=↑.none)/\∃l,rm h c l/\e∉l/\l.Nodup
def bU(h:ϫ)(e:δ)(cls:ε)(d:Option δ×Bool)(tb:Option δ)(f:ε):Prop:=
 ∃a vs,h.get? e=↑a/\a.cls=cls/\a.dict=d.1/\a.data=.fields vs/\vs[1]?=↑(tb.elim Value.none Value.ref)/\2<vs.size/\Ctx h e d.2 vs[2]? /\
  ∀T,tb=↑T->T≠e/\∃c ws,h.get? T=↑c/\c.data=.fields ws/\ws[3]?=↑f
def cJ(P:Ϯ)(w:ϭ):gO:=λouter H s E x s'=>∃e tb cls d H',x=.ref e/\s'.os=s.os/\AllBare s'.gens/\Un (dJ outer) [] H H' s.heap s'.heap/\aG P w H' s'.heap/\bU s'.heap e cls d tb .none/\
 (∀b∈e::tb.toList,H' b=none/\s.heap.get? b=none)/\E cls d H'
def cJ.never(h:cJ P w outer H s (λ_ _ _=>False) e s'):False:=by
 let#[_,_,_,_,_,_,_,_,_,_,_,_,z]:=h;show z
section
variable{X:Cx}{a b c e:ϩ}{es:List ϩ}{σ:St}{H:Hp}{Q:VK}{QT:Bool->Hp->Prop}{QA:List V->Hp->Prop}{D:Ends}{pos p apos:Pos}{x:Str}{v:V}
def Gc(mg:MG)(x:Str)(v:V):=∃u,mg x=↑u/\RelV v u
end
abbrev gA:List ε:=[.type "ValueError",.type "Exception",.type "BaseException",.type "object"]
def ο(mg:MG)(x:Str):δ:=match mg x with
 |some (.ref C)=>C
 |_=>0
def di(h:mg x=↑(.ref C)):ο mg x=C:=by unfold ο;rw[h]
structure Tu(K:Ϩ)(mg:MG)(x:Str):Prop where
 at_:mg x=↑(.ref (ο mg x))
 ex:W.excIn K (ο mg x) gA "ValueError.__new__"=true
def afc{K:Ϩ}{x:Str}{C:δ}(h:mg x=↑(.ref C))(e:W.excIn K C gA "ValueError.__new__"=true):Tu K mg x:=by
 let z:ο mg x=C:=by unfold ο;rw[h]
 show#[by rw[z];show h,by rw[z];show e]
def Kl(K:Ϩ)(C:δ)(i:Option ε):Bool:=match K.lookup C with
 |some o=>(match o.data with
  |.cls d=>o.cls==.type "type"&&o.slots.toList.length==6&&o.slots.toList[4]?==↑(some (.builtin "ValueError.__new__"))&&d.mro.head?==↑(.ref C)&& !d.hasDel&&W.tailIn K gA d.mro.tail&&W.nsOkIn K d.ns&&at7 K d.ns "__init__"==↑i
  |_=>false)
 |none=>false
def lO(K:Ϩ)(C L:δ):Bool:=(aub K C).any λcd=>cd.hasDict&&cd.mro==.ref C:: .ref L::gA
abbrev p6(K:Ϩ)(C f:δ):Bool:=Kl K C ↑(.ref f)
structure XBase(K:Ϩ)(mg:MG)(x:Str):Prop where
 at_:mg x=↑(.ref (ο mg x))
 reads:asu K (ο mg x) (.type "type")=true
 ini:asv K (.ref (ο mg x)) (.type "type") "__init__"=↑(.val (.builtin "ValueError.__init__"))
 ga:ail K (.ref (ο mg x)) "__getattribute__"=some ↑(.builtin "type.__getattribute__")
structure wD(K:Ϩ)(mg:MG)(Lx x qual fld:Str)(st:Ϧ):Prop where
 at_:mg x=↑(.ref (ο mg x))
 ex:∃f fd,dm K "__init__" qual st f fd/\p6 K (ο mg x) f=true/\atb K (.ref f)=true
 sa:aeL K (.ref (ο mg x)) "__setattr__"=some ↑(.builtin "object.__setattr__")
 tk:asd K (ο mg x) fld=↑none
 xc:lO K (ο mg x) (ο mg Lx)=true
structure Ek(K:Ϩ)(C:δ):Prop where
 hd:anO K C=true
 ga:aeL K (.ref C) "__getattribute__"=some ↑(.builtin "BaseException.__getattribute__")
 gt:aeL K (.ref C) "__getattr__"=↑none
 cl:aeL K (.ref C) "__class__"=some ↑(.builtin "object.__class__")
 cg:ail K (.builtin "object.__class__") "__get__"=some ↑(.builtin "getset_descriptor.__get__")
 ct:asK K (.builtin "object.__class__")=↑true
 mo:apo K C (.type "object")=↑true
 mb:apo K C (.type "BaseException")=↑true
structure HS(K:Ϩ)(mg:MG)(x:Str):Prop extends XBase K mg x where
 ty:ar0 K (.ref (ο mg x))=↑(.type "type")
 mb:apo K (ο mg x) (.type "BaseException")=↑true
structure XC(K:Ϩ)(mg:MG)(Lx x:Str):Prop where
 at_:mg x=↑(.ref (ο mg x))
 xc:lO K (ο mg x) (ο mg Lx)=true
 ty:ar0 K (.ref (ο mg x))=↑(.type "type")
 attr:Ek K (ο mg x)
section
variable{K:Ϩ}{mg:MG}{Lx x qual fld:Str}{C L f:δ}{st:Ϧ}{fd:aik}
def aen(h:mg x=↑(.ref C))(a:asu K C (.type "type")=true)(c:asv K (.ref C) (.type "type") "__init__"=↑(.val (.builtin "ValueError.__init__")))(f:ail K (.ref C) "__getattribute__"=some ↑(.builtin "type.__getattribute__"))(g:ar0 K (.ref C)=↑(.type "type"))(i:apo K C (.type "BaseException")=↑true):HS K mg x:=by
 let e:=di h;show{at_:=by rw[e];show h,reads:=by rw[e];show a,ini:=by rw[e];show c,ga:=by rw[e];show f,ty:=by rw[e];show g,mb:=by rw[e];show i}
def aj2(h:mg x=↑(.ref C))(c:mg Lx=↑(.ref L))(f:lO K C L=true)(g:ar0 K (.ref C)=↑(.type "type"))(i:anO K C=true)(j:aeL K (.ref C) "__getattribute__"=some ↑(.builtin "BaseException.__getattribute__"))(l:aeL K (.ref C) "__getattr__"=↑none)(m:aeL K (.ref C) "__class__"=some ↑(.builtin "object.__class__"))(n:ail K (.builtin "object.__class__") "__get__"=some ↑(.builtin "getset_descriptor.__get__"))(p:asK K (.builtin "object.__class__")=↑true)(q:apo K C (.type "object")=↑true)(a:apo K C (.type "BaseException")=↑true):XC K mg Lx x:=by
 let e:=di h;let s:=di c;show#[by rw[e];show h,by rw[e,s];show f,by rw[e];show g,by rw[e];show#[i,j,l,m,n,p,q,a]]
def ahQ(h:mg x=↑(.ref C))(a:mg Lx=↑(.ref L))(F:dm K "__init__" qual st f fd)(c:p6 K C f=true)(g:atb K (.ref f)=true)(i:aeL K (.ref C) "__setattr__"=some ↑(.builtin "object.__setattr__"))(j:asd K C fld=↑none)(l:lO K C L=true):wD K mg Lx x qual fld st:=by
 let e:=di h;let m:=di a;show#[by rw[e];show h,#[f,fd,F,by rw[e];show c,g],by rw[e];show i,by rw[e];show j,by rw[e,m];show l]
end
structure OM(K:Ϩ)(C:δ)(m qual:Str)(st:Ϧ):Prop where
 ex:∃f fd,dm K m qual st f fd/\Meth K C m f
structure OI(K:Ϩ)(C:δ)(qual:Str)(st:Ϧ):Prop where
 ex:∃f fd,dm K "__init__" qual st f fd/\Mk K C f
structure OB(K:Ϩ)(C:δ)(m qual:Str)(st:Ϧ):Prop where
 rd:asu K C (.type "type")=true
 ga:ail K (.ref C) "__getattribute__"=some ↑(.builtin "type.__getattribute__")
 ex:∃f fd,dm K m qual st f fd/\asv K (.ref C) (.type "type") m=↑(.val (.ref f))
section
variable{P:Ϯ}{w:ϭ}{K:Ϩ}{mg:MG}{base:ϫ}{cc:Bool}{k:Nat}{x m qual:Str}{C:δ}{st:Ϧ}{ps N:List Str}{sp:Sp}
def afA(h:mg x=↑(.ref C))(F:dm K m qual st f fd)(a:aeL K (.ref C) m=some ↑(.ref f))(b:atb K (.ref f)=true):OM K (ο mg x) m qual st:=by
 rw[di h];show#[f,fd,F,a,b,F.kp]
def agf(h:mg x=↑(.ref C))(F:dm K "__init__" qual st f fd)(a:aeL K (.ref C) "__init__"=some ↑(.ref f))(b:atb K (.ref f)=true)(c:atQ K C=true)(d:apF K (.ref C)=true):OI K (ο mg x) qual st:=by
 rw[di h];show#[f,fd,F,c,a,b,d]
def alm(h:mg x=↑(.ref C))(F:dm K m qual st f fd)(a:asv K (.ref C) (.type "type") m=↑(.val (.ref f)))(b:asu K C (.type "type")=true)(c:ail K (.ref C) "__getattribute__"=some ↑(.builtin "type.__getattribute__")):OB K (ο mg x) m qual st:=by
 rw[di h];show#[b,c,f,fd,F,a]
def aaJ(h:mg x=↑(.ref C))(a:ar7 K C ase=true)(b:anO K C=true)(c:asB K C=true)(d:aeL K (.ref C) "__setattr__"=some ↑(.builtin "object.__setattr__")):Ϣ K (ο mg x):=by
 rw[di h];show#[a,b,c,d]
end
structure OT(K:Ϩ)(C:δ):Prop where
 ty:∀(H:Hp)(a dx:δ)(fs:List (Str×V)),H a=↑(.ins C dx fs)->d9 K H (.ref a) (.ref C)
def ajR{K:Ϩ}{x:Str}{C:δ}(h:mg x=↑(.ref C))(c:Ϣ K (ο mg x))(f:aeL K (.ref C) "__class__"=some ↑(.builtin "object.__class__"))(g:ail K (.builtin "object.__class__") "__get__"=some ↑(.builtin "getset_descriptor.__get__"))(i:asK K (.builtin "object.__class__")=↑true)(j:apo K C (.type "object")=↑true):OT K (ο mg x):=by
 rw[di h]at c⊢;show#[λH a dx fs e=>.ins e c f g i j]
open PySem PySem.Spec PyProof.Rows PySem.W
def BM(mg:MG)(base:ϫ):=∃bm a,mg "__builtins__"=↑(.ref bm)/\bm≠builtinsNs/\base.get? bm=↑a/\a.cls=.type "module"/\a.dict=↑builtinsNs/\a.data=.plain
def iT(K:Ϩ)(x:Str):δ:=((tabIn K x).getD (0,0)).1
def dh(K:Ϩ)(x:Str):δ:=((tabIn K x).getD (0,0)).2
def JD(p:Pos)(q:Str):Array ε:= #v[rawInt p.line,rawInt p.col,.str q 0]
def FW(K:Ϩ)(x:Str):Bool:=match tabIn K x with
 |some a=>(K.lookup a.2).isNone
 |none=>false
def aks{K:Ϩ}(h:FW K x=true):tabIn K x=↑(iT K x,dh K x)/\K.lookup (dh K x)=none:=by
 unfold FW at h;unfold iT dh;cases e:tabIn K x with
 |none=>rw[e]at h;cases h
 |some a=>
  rw[e]at h;show#[rfl,~~~h]
structure fO(K:Ϩ)(mg:MG)(base:ϫ)(x:Str):Prop where
 tab:tabIn K x=↑(iT K x,dh K x)
 code:CodeHd base (iT K x) (dh K x)
 bm:BM mg base
 kin:K.In base
 glob:base.Ns mainGlobals mg
def ajb{P:Ϯ}{w:ϭ}{K:Ϩ}{mg mb:MG}{CX:gO}{k:Nat}{T a:δ}{fd:aik}{x xn:Str}{sp:Sp}{s₁:μ}{ps:Array ε}(KX:K.In s₁.heap)(G:s₁.heap.Ns mainGlobals mg)(f:s₁.heap.Ns builtinsNs mb)(U:∀x:Str,x≠"__name__"->mb x=bootBuiltins x)(M:s₁.heap.NoLimit)(hg:s₁.gens= #v[])(ha:s₁.heap.get? a=some {cls:=.type "list",data:=.seq vs.toArray})(hi:IntsAre vs ns)(hl:↥ns<=ϰ)(hr:ϗ cc k callerA)(hT:tabIn K xn=↑(iT K xn,dh K xn))(W:CodeHd s₁.heap (iT K xn) (dh K xn))(l:s₁.heap.get? (dh K xn)=↑(tabObj #v[]))(X:K.lookup (dh K xn)=none)(hB:BM mg s₁.heap)(F:∀base:ϫ,K.In base->base.Ns mainGlobals mg->fO K mg base xn->dF P w K mg base CX cc k T fd [x] sp)(I:∀(s:μ)(u:ε),BindsTo s fd #[[u],[]] [(x,u)])(O:∀H:Hp,η K H a (ns.map V.int)->H (dh K xn)=↑(.tbl ps)->sp [.ref a] H (λv _=>v=.bl true) λ_ _ _=>False)(Y:∀H e s',CX [] H s₁ (λ_ _ _=>False) e s'->False):codeAny (ϧ P w) callerA (.call (.ref T) #[[.ref a],[]]) (λr s'=>r=.ok (.ret (.bool true))/\OldK s₁.heap s'.heap/\s'.os=s₁.os/\AllBare s'.gens) s₁:=by
 let rv:=abk hi;let Q:=↥hi;generalize Z:dh K xn=pt at W l X O;let J:pt≠a:=λz=>by rw[z,ha]at l;cases l
 let y:∀H:Hp,η K H a (ns.map V.int)->H pt=↑(.tbl ps)->aG P w H s₁.heap->(∀b,H b=none\/b=a\/b=pt)->(∀b,H b=none\/K.lookup b=none)->(∀u,H a=↑u->∃o v,u=.frz o v)->
   codeAny (ϧ P w) callerA (.call (.ref T) #[[.ref a],[]]) (λr s'=>r=.ok (.ret (.bool true))/\OldK s₁.heap s'.heap/\s'.os=s₁.os/\AllBare s'.gens) s₁:=by
  intro H hS hH hok hA hK aa;let c:∀{b:δ}{o:Obj},s₁.heap.get? b=↑o->H b=none->(jV s₁.heap H).get? b=↑o:=λe n=>ah4 e n
  let free:∀{b:δ}{o:Obj},s₁.heap.get? b=↑o->o.cls≠.type "list"->o.cls≠.none->H b=none:=λ{b o} e n1 n2=>by
   obtain z|z|z:=hA b
   .show z
   .rw[z,ha]at e;cases e;show absurd rfl n1
   .rw[z,l]at e;cases e;show absurd rfl n2
  let ab:∀{b:δ}{o:Obj}{es:Array DictEntry}{ep:Nat},s₁.heap.get? b=↑o->o.data=.dict es ep->H b=none:=λ{b o es ep} e d=>by
   obtain z|z|z:=hA b
   .show z
   .rw[z,ha]at e;cases e;let d':Data.seq vs.toArray _=Data.dict es ep:=d;cases d'
   .rw[z,l]at e;cases e;let d':Data.fields #v[]=Data.dict es ep:=d;cases d'
  let i:∀{b:δ}{m:MG},s₁.heap.Ns b m->(jV s₁.heap H).Ns b m:=λ{b m} ⟨o,es,ep,e,d,r⟩=>#[o,es,ep,c e (ab e d),d,r];let L:K.In (jV s₁.heap H):=λb o e=>c (KX b o e) (by
   obtain z|z:=hK b
   .show z
   .rw[z]at e;cases e)
  let hM:Mod K mg (jV s₁.heap H):=#[L,i G,#[mb,i f,U],let⟨mc,h1,h2⟩:=M;#[mc,i h1,h2]];let hN:fO K mg (jV s₁.heap H) xn:=by
   show#[hT,?_,?_,L,i G]
   .rw[Z];let#[o,vs,B,tf,j,tg,inF,D,tt,e1,r1,r]:=W;show#[o,vs,B,tf,j,tg,inF,D,tt,c e1 (free e1 (by rw[r1];decide) (by rw[r1];decide)),r1,r]
   .let#[bm,R,b1,b2,b3,b4,r]:=hB;show#[bm,R,b1,b2,c b3 (free b3 (by rw[b4];decide) (by rw[b4];decide)),b4,r]
  let e0:nO P w K mg (jV s₁.heap H) callerA [] s₁ H:=#[rfl,hM,λb o e=>ah0 e,anR (afJ _ _),trivial,λb f=>absurd (show b∈([]:List δ)from f) (by simp),hok,.of_eq hg];show ajk ((F _ L (i G) hN).run callerA [] s₁ H #[[.ref a],[]] [.ref a] [.ref a] _ _ hr e0 (I s₁ (.ref a)) (.cons rfl .nil) (O H hS hH)) λr s' h=>?_
  cases r with
  |error e=>show(Y H e s' h).elim
  |ok fl=>
   cases fl with
   |next=>show False.elim h
   |brk=>show False.elim h
   |cont=>show False.elim h
   |ret u=>
    let#[v,H',os,bare,un,E,r',q]:=h;let q':v=.bl true:=q;subst q';obtain rfl:u=Value.bool true:=r';let#[S,hm]:=un.tbls pt ps hH;let#[qs,eq,_]:=(E pt _ hm:ώ P w H' s'.heap pt (.tbl (ps++S)));let all:∀b o,s₁.heap.get? b=↑o->asItWas s₁.heap s'.heap b o:=λb o e=>by
     obtain z|z|z:=hA b
     .show .inl (un.keep b o e z (by intro z;show absurd (show b∈([]:List δ)from z) (by simp)) (by simp))
     .cases e3:H b with
      |none=>show .inl (un.keep b o e e3 (by intro z;show absurd (show b∈([]:List δ)from z) (by simp)) (by simp))
      |some u=>
       let#[R,v,rfl]:=aa u (by rw[<-z];show e3);let z2:=un.frzs b R _ e3;let#[e1,_]:=(hok b _ e3:ώ P w H s₁.heap b (.frz R v));let#[e2,_]:=(E b _ z2:ώ P w H' s'.heap b (.frz R v));rw[e]at e1;cases e1;show .inl e2
     .subst z;rw[l]at e;cases e;let#[o,vs,B,tf,j,tg,inF,D,tt,e1,r1,r2,r3,_]:=W;show .inr (.inl #[#[_,o,vs,e1,r1,r2,r3],rfl, #v[],qs,rfl,?_]);rw[eq];simp
    show#[rfl,#[all,λb o e=>?_],os,bare]*>un.there b o e (by simp)
 cases hk:K.lookup a with
 |some o=>
  let e:=KX a o hk;rw[ha]at e;cases e;show y (λb=>if b=pt then some (.tbl ps)else none) (.inr #[_,vs.toArray,_,hk,rfl,rfl,rfl,by rw[abd,Q];show hl,~~~rv]) (if_pos rfl) (λb u z=>?_) (λb=>?_) (λb=>?_) λu z=>?_
  .by_cases f:b=pt
   .let z':=(if_pos f).symm.trans z;cases z';subst f;show#[#v[],l,trivial,λp cv h=>by simp[codeAmong]at h]
   .let z':=(if_neg f).symm.trans z;cases z'
  .by_cases f:b=pt
   .show .inr (.inr f)
   .show .inl (if_neg f)
  .by_cases f:b=pt
   .show .inr (by rw[f];show X)
   .show .inl (if_neg f)
  .let z':=(if_neg (Ne.symm J)).symm.trans z;cases z'
 |none=>
  show y (λb=>if b=pt then some (.tbl ps)else if b=a then some (.frz {cls:=.type "list",data:=.seq vs.toArray} (.lst (ns.map V.int)))else none) (.inl (.inr #[{cls:=.type "list",data:=.seq vs.toArray},(if_neg (Ne.symm J))<|>(if_pos rfl)])) (if_pos rfl) (λb u z=>?_) (λb=>?_) (λb=>?_) λu z=>?_
  .by_cases f:b=pt
   .let z':=(if_pos f).symm.trans z;cases z';subst f;show#[#v[],l,trivial,λp cv h=>by simp[codeAmong]at h]
   .let z':=(if_neg f).symm.trans z;by_cases g:b=a
    .let z2:=(if_pos g).symm.trans z';cases z2;subst g;show#[ha,by rw[aaw];show hl,vs,_,rv,ha]
    .let z2:=(if_neg g).symm.trans z';cases z2
  .by_cases f:b=pt
   .show .inr (.inr f)
   .by_cases g:b=a
    .show .inr (.inl g)
    .show .inl (by rw[if_neg f,if_neg g])
  .by_cases f:b=pt
   .show .inr (by rw[f];show X)
   .by_cases g:b=a
    .show .inr (by rw[g];show hk)
    .show .inl (by rw[if_neg f,if_neg g])
  .let z':=(if_neg (Ne.symm J)).symm.trans z;let z2:=(if_pos rfl).symm.trans z';cases z2;show#[_,_,rfl]
def ai7{l:W.OpenLaw}{n k:Nat}{q:Ϯ}{Q:(Str->Option ε)->ϫ->Prop}{O:ϭ->ϫ->Prop}{d:DefRec}{K:Params->Ϩ}{CX:ϭ->gO}{sp:ϭ->Sp}{x xn:Str}{ps:Array ε}(hn:l.most=↑n)(B:n<=ϰ)(D:d.params.defaults=[])(R:ϗ cc k callerA)(S:∀(w:ϭ)(h:ϫ),O w h->(K w.params).In h)(j:((recsOf q).find? (λe=>e.name==xn)).isSome=true)(m:∀w:ϭ,FW (K w.params) xn=true)(F:∀(w:ϭ)(mg:MG)(z:δ)(h:ϫ),(K w.params).In h->h.Ns mainGlobals mg->mg d.name=↑(.ref z)->
   ∃fd:aik,(∀(s:μ)(u:ε),BindsTo s fd #[[u],[]] [(x,u)])/\
    ∀base:ϫ,(K w.params).In base->base.Ns mainGlobals mg->fO (K w.params) mg base xn->dF l.prog w (K w.params) mg base (CX w) cc k z fd [x] (sp w))(E:∀(w:ϭ)(H:Hp)(a:δ)(ns:List Int),↥ns<=n->η (K w.params) H a (ns.map V.int)->H (dh (K w.params) xn)=↑(.tbl ps)->sp w [.ref a] H (λv _=>v=.bl true) λ_ _ _=>False)(I:∀(w:ϭ)(H:Hp)(s:μ)(e:ε)(s':μ),CX w [] H s (λ_ _ _=>False) e s'->False):W.WalkO q g Q O l.row.toRowW d [] (λf vs=>PySem.call f vs):=by
 show _A.ai0 hn D λw s₀ p mg mb z o pm cd T a vs ns G Y ho hd U J y i c X=>?_
 let L:=S w _ Y;let#[fd,Z,hF]:=F w mg z _ L G.T.g J;let#[P,t2]:=aks (m w);let#[d',M]:=aqo.mp j;let#[hC,hP]:=tab_of G.T L M P;show ajb L G.T.g G.T.b G.T.builtins G.T.nolimit X y i (ad7 c B) R P hC hP t2 G.T.bmain hF Z (λH hS hH=>E w H a ns c hS hH) λH e s'=>I w H p e s'
def Dj(K:Ϩ)(x:Str)(ps:Array ε):Sp:=λvs H Q _=>∃(a:δ)(ns:List Int),vs=[.ref a]/\η K H a (ns.map V.int)/\↥ns<=63/\H (dh K x)=↑(.tbl ps)/\∀H',Q (.bl true) H'
abbrev DX(K:Ϩ)(mg:MG)(x:Str)(st:Ϧ):Prop:=∃f fd,dm K x x st f fd/\mg x=↑(.ref f)
section
variable{K:Ϩ}{h:ϫ}{mg:MG}(X:K.In h)(G:h.Ns mainGlobals mg){x y m qual fld:Str}{st:Ϧ}{f C D:δ}{od an:Option δ}{sl:Array (Option ε)}{oc kV dc pm cd ct:ε}{t:Tok}
abbrev cI(K:Ϩ)(x:Str)(C:δ):Prop:=at7 K mainGlobals x=some ↑(.ref C)
abbrev tK(K:Ϩ)(m qual:Str)(st:Ϧ)(f:δ)(od an:Option δ)(sl:Array (Option ε))(oc kV dc pm cd ct:ε):Prop:=K.lookup f=some #[oc,od,.func (as3 m qual (kW st) (ϓ st) (υ st) .none kV dc pm an cd ct),sl]
include X G
theorem ahd(a:cI K x f)(l:tK K x x st f od an sl oc kV dc pm cd ct)(c:asC K cd x=true)(k:apF K (.ref f)=true):DX K mg x st:=#[_,_,vq (st:=st) l c k,ajC X G a]
theorem ado(g:at7 K mainGlobals x=some ↑(.str z t)):Gc mg x (.str z):=#[_,ajC X G g,_,rfl]
theorem agb(g:at7 K mainGlobals x=some ↑(.int z t)):Gc mg x (.int z):=#[_,ajC X G g,_,rfl]
theorem agS(z:at7 K mainGlobals x=↑none):mg x=none:=W.mg_none_of X G z
def aoH(q:cI K x C):mg x=↑(.ref (ο mg x)):=by let e:=ajC X G q;rw[di e];show e
theorem adZ(q:cI K x C)(y:W.excIn K C gA "ValueError.__new__"=true):Tu K mg x:=afc (ajC X G q) y
def al6(q:cI K x C)(r:cI K y D)(v:asV K (.ref C) (.ref D)=↑b):asV K (.ref (ο mg x)) (.ref (ο mg y))=↑b:=by
 rw[di (ajC X G q),di (ajC X G r)];show v
theorem ahK(q:cI K x C)(a:asu K C (.type "type")=true)(c:asv K (.ref C) (.type "type") "__init__"=↑(.val (.builtin "ValueError.__init__")))(e:ail K (.ref C) "__getattribute__"=some ↑(.builtin "type.__getattribute__"))(f:ar0 K (.ref C)=↑(.type "type"))(g:apo K C (.type "BaseException")=↑true):HS K mg x:=aen (ajC X G q) a c e f g
theorem ab9(q:cI K x C)(r:cI K y D)(c:lO K C D=true)(e:ar0 K (.ref C)=↑(.type "type"))(f:anO K C=true)(g:aeL K (.ref C) "__getattribute__"=some ↑(.builtin "BaseException.__getattribute__"))(i:aeL K (.ref C) "__getattr__"=↑none)(j:aeL K (.ref C) "__class__"=some ↑(.builtin "object.__class__"))(l:ail K (.builtin "object.__class__") "__get__"=some ↑(.builtin "getset_descriptor.__get__"))(m:asK K (.builtin "object.__class__")=↑true)(n:apo K C (.type "object")=↑true)(a:apo K C (.type "BaseException")=↑true):XC K mg y x:=aj2 (ajC X G q) (ajC X G r) c e f g i j l m n a
theorem afU(q:cI K x C)(r:cI K y D)(a:aeL K (.ref C) "__init__"=some ↑(.ref f))(l:tK K "__init__" qual st f od an sl oc kV dc pm cd ct)(c:asC K cd qual=true)(k:apF K (.ref f)=true)(e:p6 K C f=true)(g:atb K (.ref f)=true)(i:aeL K (.ref C) "__setattr__"=some ↑(.builtin "object.__setattr__"))(j:asd K C fld=↑none)(m:lO K C D=true):wD K mg y x qual fld st:=ahQ (ajC X G q) (ajC X G r) (vq (st:=st) l c k) e g i j m
def alU(q:cI K x C)(a:aeL K (.ref C) fld=↑none):aeL K (.ref (ο mg x)) fld=↑none:=by rw[di (ajC X G q)];show a
def aj9(q:cI K x C)(a:aeL K (.ref C) fld=↑none):Ϗ K (ο mg x) fld:=by rw[di (ajC X G q)];show a
theorem t_k(q:cI K x C)(a:ar7 K C ase=true)(b:anO K C=true)(c:asB K C=true)(d:aeL K (.ref C) "__setattr__"=some ↑(.builtin "object.__setattr__")):Ϣ K (ο mg x):=aaJ (ajC X G q) a b c d
theorem agw(q:cI K x C)(a:aeL K (.ref C) "__init__"=some ↑(.ref f))(l:tK K "__init__" qual st f od an sl oc kV dc pm cd ct)(c:asC K cd qual=true)(k:apF K (.ref f)=true)(b:atb K (.ref f)=true)(d:atQ K C=true)(e:apF K (.ref C)=true):OI K (ο mg x) qual st:=agf (ajC X G q) (vq (st:=st) l c k) a b d e
theorem akN(q:cI K x C)(a:aeL K (.ref C) m=some ↑(.ref f))(l:tK K m qual st f od an sl oc kV dc pm cd ct)(c:asC K cd qual=true)(k:apF K (.ref f)=true)(b:atb K (.ref f)=true):OM K (ο mg x) m qual st:=afA (ajC X G q) (vq (st:=st) l c k) a b
theorem aeZ(q:cI K x C)(a:asv K (.ref C) (.type "type") m=↑(.val (.ref f)))(l:tK K m qual st f od an sl oc kV dc pm cd ct)(c:asC K cd qual=true)(k:apF K (.ref f)=true)(b:asu K C (.type "type")=true)(d:ail K (.ref C) "__getattribute__"=some ↑(.builtin "type.__getattribute__")):OB K (ο mg x) m qual st:=alm (ajC X G q) (vq (st:=st) l c k) a b d
def aea(q:cI K x C)(r:cI K y D)(a:ar7 K C ase=true)(b:anO K C=true)(c:asB K C=true)(d:aeL K (.ref C) "__setattr__"=some ↑(.builtin "object.__setattr__"))(e:aeL K (.ref C) "__class__"=some ↑(.builtin "object.__class__"))(f:ail K (.builtin "object.__class__") "__get__"=some ↑(.builtin "getset_descriptor.__get__"))(g:asK K (.builtin "object.__class__")=↑true)(i:apo K C (.type "object")=↑true)(u:atd K (.ref C) (.ref D)=↑true):OT K (ο mg x)/\atd K (.ref (ο mg x)) (.ref (ο mg y))=↑true:=by
 show#[ajR (ajC X G q) (aaJ (ajC X G q) a b c d) e f g i,?_];rw[di (ajC X G q),di (ajC X G r)];show u
omit X G
inductive jY (mg:MG):List δ->List δ->Prop
 |nil:jY mg [] []
 |cons {x:Str} {C:δ} {l m:List δ} (h:mg x=↑(.ref C)) (t:jY mg l m):jY mg (ο mg x::l) (C::m)
def jY.eq{l m:List δ}(h:jY mg l m):l=m:=by
 induction h with
 |nil=>rfl
 |cons h _ a=>rw[di h,a]
include X G
theorem gR{l m:List δ}(q:cI K x C)(t:jY mg l m):jY mg (ο mg x::l) (C::m):=.cons (ajC X G q) t
omit X G
def af8{l m:List δ}(t:jY mg l m)(d:m.Nodup):l.Nodup:=by rw[t.eq];show d
end
end _L
namespace _K
open PySem _L PyProof.Rows
def top(i:Nat):Ϧ:=PySem.Challenge.pw_turnleaf_k64_a_still_list_turned.main.body.getD i (.Pass #[0,0,0,0])
abbrev Uc:Ϧ:=top 26
abbrev Hc:Ϧ:=top 33
abbrev Rb:Ϧ:=top 34
abbrev Qn:Ϧ:=top 35
abbrev Q5:Ϧ:=top 37
abbrev DW:Ϧ:=top 43
abbrev NP:Ϧ:=top 44
abbrev QK:Ϧ:=top 45
abbrev Jk:Ϧ:=top 47
abbrev abB:Ϧ:=top 52
abbrev yj:Ϧ:=top 53
abbrev Vg:Ϧ:=top 54
abbrev O6:Ϧ:=top 55
abbrev Ot:Ϧ:=top 56
abbrev yu:Ϧ:=top 64
abbrev Nm:Ϧ:=top 65
abbrev yG:Ϧ:=top 66
abbrev Xm:Ϧ:=top 68
abbrev YK:Ϧ:=top 72
abbrev Ti:Ϧ:=top 73
abbrev vI:Ϧ:=top 74
abbrev N7:Ϧ:=top 75
abbrev aa3:Ϧ:=top 76
abbrev Zb:Ϧ:=top 81
abbrev ZR:Ϧ:=top 110
abbrev SN:Ϧ:=top 111
abbrev RB:Ϧ:=top 112
abbrev X4:Ϧ:=top 113
abbrev ZV:Ϧ:=top 114
abbrev T4:Ϧ:=top 115
abbrev Vk:Ϧ:=top 116
abbrev Ly:Ϧ:=top 126
abbrev Ux:Ϧ:=top 127
abbrev Yb:Ϧ:=top 128
abbrev S8:Ϧ:=top 129
abbrev J4:Ϧ:=top 131
abbrev QM:Ϧ:=top 132
abbrev Yk:Ϧ:=top 133
abbrev NZ:Ϧ:=top 135
abbrev yH:Ϧ:=top 138
abbrev VG:Ϧ:=top 141
abbrev aap:Ϧ:=top 145
abbrev O9:Ϧ:=top 149
abbrev Al:Ϧ:=top 150
abbrev rE:Ϧ:=top 151
abbrev K6:Ϧ:=top 152
abbrev VP:Ϧ:=top 153
abbrev W3:Ϧ:=top 154
abbrev Ut:Ϧ:=top 155
abbrev Eg:Ϧ:=top 156
abbrev uC:Ϧ:=top 158
abbrev wA:Ϧ:=top 159
abbrev yJ:Ϧ:=top 160
abbrev Ur:Ϧ:=top 161
abbrev W7:Ϧ:=top 162
abbrev KN:Ϧ:=top 163
abbrev tV:Ϧ:=top 164
abbrev J8:Ϧ:=top 165
abbrev ue:Ϧ:=top 166
abbrev Ge:Ϧ:=top 167
abbrev xf:Ϧ:=top 168
abbrev Zn:Ϧ:=top 169
abbrev RZ:Ϧ:=top 170
abbrev Mx:Ϧ:=top 171
abbrev aaf:Ϧ:=top 172
abbrev Og:Ϧ:=top 173
abbrev iH:Ϧ:=top 174
abbrev QH:Ϧ:=inClass (top 13) 0
abbrev ZG:Ϧ:=inClass (top 12) 0
abbrev Mj:Ϧ:=inClass (top 84) 0
abbrev YD:Ϧ:=inClass (top 84) 1
abbrev pK:Ϧ:=inClass (top 84) 2
abbrev aab:Ϧ:=inClass (top 86) 0
abbrev RP:Ϧ:=inClass (top 86) 1
abbrev zR:Ϧ:=inClass (top 87) 0
abbrev vQ:Ϧ:=inClass (top 87) 1
abbrev Yt:Ϧ:=inClass (top 87) 2
abbrev Qj:Ϧ:=inClass (top 89) 0
abbrev Uq:Ϧ:=inClass (top 90) 0
abbrev Y5:Ϧ:=inClass (top 92) 0
abbrev Qk:Ϧ:=inClass (top 92) 1
abbrev aac:Ϧ:=inClass (top 147) 0
abbrev aaa:Ϧ:=inClass (top 147) 1
abbrev X3:Ϧ:=inClass (top 147) 2
abbrev abh:Ϧ:=inClass (top 147) 3
abbrev zy:Ϧ:=inClass (top 147) 4
abbrev WN:Ϧ:=inClass (top 147) 5
abbrev Oa:Ϧ:=inClass (top 147) 6
abbrev Qy:Ϧ:=inClass (top 147) 7
abbrev Wn:Ϧ:=inClass (top 147) 8
abbrev Qz:Ϧ:=inClass (top 147) 14
abbrev R3:Ϧ:=inClass (top 147) 15
abbrev Ii:Ϧ:=inClass (top 147) 16
structure Txt(K:Ϩ)(mg:MG):Prop where
 vU:DX K mg "is_whole" (top 25)
 xg:DX K mg "made_of" Uc
 J9:DX K mg "is_number_value" (top 27)
 Ay:DX K mg "is_text_value" (top 28)
 HF:DX K mg "is_value" (top 29)
 uZ:DX K mg "value_before" (top 30)
 Hm:DX K mg "value_word" (top 31)
 Jx:DX K mg "are_figures" (top 32)
 Ac:DX K mg "read_figures" Hc
 Df:DX K mg "read_number_word" Rb
 J0:DX K mg "read_text_word" Qn
 yo:DX K mg "read_value" (top 36)
 JW:DX K mg "read_values" Q5
 Jh:DX K mg "is_name" (top 42)
 Ir:DX K mg "ask_columns" DW
 nQ:DX K mg "place_of" NP
 KJ:DX K mg "row_words" QK
 HR:DX K mg "is_row_number" (top 46)
 GD:DX K mg "is_row" Jk
 Ex:DX K mg "read_order_word" abB
 zH:DX K mg "read_order" yj
 Ke:DX K mg "order_text" Vg
 xZ:DX K mg "key_of" O6
 Ef:DX K mg "key_ahead" Ot
 Kf:DX K mg "number_of" (top 62)
 HY:DX K mg "rank_of" (top 63)
 Hq:DX K mg "sorted_by" yu
 K9:DX K mg "let_through" Nm
 Jy:DX K mg "line_of" yG
 Jt:DX K mg "lies_ahead" (top 67)
 zq:DX K mg "cut_place" Xm
 zE:DX K mg "ask_size" (top 71)
 Dv:DX K mg "copy_of_cut" YK
 Hz:DX K mg "cut_beside" Ti
 Bp:DX K mg "leaf_between" vI
 DK:DX K mg "leaf_forth" N7
 Ip:DX K mg "leaf_back" aa3
 Li:DX K mg "check_of" Zb
 Cr:DX K mg "check_word" (top 82)
 qT:DX K mg "word_at" (top 108)
 wg:DX K mg "text_between" (top 109)
 BJ:DX K mg "read_column" ZR
 Hl:DX K mg "read_word" SN
 Hh:DX K mg "read_none" RB
 JB:DX K mg "read_of_value" X4
 amH:DX K mg "read_of_sieves" ZV
 abe:DX K mg "read_part" T4
 akZ:DX K mg "read_sieve" Vk
 HD:DX K mg "cut_text" Ly
 Fp:DX K mg "mark_text" Ux
 En:DX K mg "read_make" Yb
 xR:DX K mg "read_whole" S8
 Hn:DX K mg "read_side" (top 130)
 DP:DX K mg "read_cut" J4
 Hr:DX K mg "read_body" QM
 Ed:DX K mg "read_mark" Yk
 Jc:DX K mg "rows_of_list" NZ
 Km:DX K mg "is_untouched" (top 136)
 Ja:DX K mg "mark_at" (top 137)
 uI:DX K mg "leaf_from" yH
 Ib:DX K mg "begin_of" (top 139)
 DN:DX K mg "first_leaf" (top 140)
 xQ:DX K mg "read_good_mark" VG
 Kc:DX K mg "turn_forth" (top 142)
 Ej:DX K mg "turn_back" (top 143)
 Ep:DX K mg "told_rows" aap
 JR:DX K mg "put_back" (top 146)
 iC:DX K mg "_law_draw" O9
 Hf:DX K mg "_law_names" Al
 J5:DX K mg "_law_columns" rE
 yZ:DX K mg "_law_value" K6
 uY:DX K mg "_law_values" VP
 DQ:DX K mg "_law_order" W3
 ye:DX K mg "_law_order_text" Ut
 Lp:DX K mg "_law_sieve" Eg
 Bv:DX K mg "_law_word" (top 157)
 xr:DX K mg "_law_sieve_text" uC
 Ai:DX K mg "_law_lets" wA
 v5:DX K mg "_law_key" yJ
 BK:DX K mg "_law_is_ahead" Ur
 yF:DX K mg "_law_line" W7
 Bh:DX K mg "_law_mark" KN
 yQ:DX K mg "_law_deed" tV
 Hs:DX K mg "_law_begun" J8
 xT:DX K mg "_law_leaf" ue
 Dr:DX K mg "_law_place" Ge
 Kw:DX K mg "_law_turned" xf
 Kz:DX K mg "_law_asked" Zn
 Fo:DX K mg "_law_first" RZ
 Fd:DX K mg "_law_frozen" Mx
 Hj:DX K mg "_law_let_go" aaf
 Eb:DX K mg "_law_some_size" Og
 ahz:DX K mg "law" iH
 Dm:Gc mg "NUMBER" (.str "number")
 aaA:Gc mg "TEXT" (.str "text")
 aku:Gc mg "FIGURES" (.str "0123456789")
 aic:Gc mg "LETTERS" (.str "abcdefghijklmnopqrstuvwxyz")
 agz:Gc mg "TEXT_SIGNS" (.str "abcdefghijklmnopqrstuvwxyz0123456789-")
 Xq:Gc mg "LARGEST" (.int 1000000000000000000)
 aeo:Gc mg "LONGEST" (.int 20)
 Yw:Gc mg "NONE_WORD" (.str "?")
 Ui:Gc mg "TEXT_AHEAD" (.str "'")
 aeO:Gc mg "BELOW_AHEAD" (.str "-")
 aoK:Gc mg "MOST_COLUMNS" (.int 6)
 als:Gc mg "LONGEST_NAME" (.int 8)
 aam:Gc mg "LARGEST_ROW" (.int 1000000000)
 afv:Gc mg "MOST_IN_ORDER" (.int 4)
 Y4:Gc mg "UP_AHEAD" (.str "+")
 R0:Gc mg "DOWN_AHEAD" (.str "-")
 aan:Gc mg "START" (.str "start")
 af5:Gc mg "END" (.str "end")
 uX:Gc mg "AHEAD" (.str "ahead")
 Fz:Gc mg "BEHIND" (.str "behind")
 aki:Gc mg "LARGEST_SIZE" (.int 100)
 ahN:Gc mg "BASE" (.int 137)
 acN:Gc mg "REST_BY" (.int 9973)
 ajY:Gc mg "FIGURES_OF_CHECK" (.int 4)
 akv:Gc mg "MOST_WORDS" (.int 60)
 aew:Gc mg "MOST_WITHIN" (.int 20)
 aag:Gc mg "ALL" (.str "all")
 abo:Gc mg "NONE" (.str "none")
 K8:Gc mg "IS" (.str "is")
 Kq:Gc mg "UNDER" (.str "under")
 KR:Gc mg "OVER" (.str "over")
 IW:Gc mg "HOLDS" (.str "holds")
 N5:Gc mg "NOT" (.str "not")
 Z3:Gc mg "BOTH" (.str "both")
 acZ:Gc mg "EITHER" (.str "either")
 Kv:Gc mg "LIVING" (.str "living")
 Nj:Gc mg "STILL" (.str "still")
 ai3:Gc mg "LATEST" (.int 5000)
 amY:Gc mg "PARTS" (.int 5)
 Xz:Gc mg "PARTING" (.str "/")
 RC:Gc mg "STOP" (.str ".")
 VD:Gc mg "AHEAD_SIGN" (.str "<")
 N8:Gc mg "BEHIND_SIGN" (.str ">")
 VB:mg "all"=none
 ajz:mg "bool"=none
 akm:mg "dict"=none
 ace:mg "enumerate"=none
 zu:mg "int"=none
 zU:mg "isinstance"=none
 bz:mg "len"=none
 jT:mg "list"=none
 Bs:mg "max"=none
 BZ:mg "min"=none
 Rg:mg "ord"=none
 qj:mg "range"=none
 aaQ:mg "reversed"=none
 Zh:mg "set"=none
 JG:mg "sorted"=none
 mH:mg "str"=none
 Wu:mg "tuple"=none
 JF:mg "zip"=none
 amC:mg "Gone"=↑(.ref (ο mg "Gone"))
 Gh:mg "Sieve"=↑(.ref (ο mg "Sieve"))
 abO:mg "AllSieve"=↑(.ref (ο mg "AllSieve"))
 ac6:mg "NoneSieve"=↑(.ref (ο mg "NoneSieve"))
 aoa:mg "IsSieve"=↑(.ref (ο mg "IsSieve"))
 afO:mg "UnderSieve"=↑(.ref (ο mg "UnderSieve"))
 ac2:mg "OverSieve"=↑(.ref (ο mg "OverSieve"))
 anY:mg "NotSieve"=↑(.ref (ο mg "NotSieve"))
 ajh:mg "Book"=↑(.ref (ο mg "Book"))
 Xa:HS K mg "LeafError"
 Ht:XC K mg "LeafError" "Gone"
 Cm:wD K mg "LeafError" "Later" "Later.__init__" "now" QH
 Ad:wD K mg "LeafError" "Gone" "Gone.__init__" "known" ZG
 ak4:aeL K (.ref (ο mg "Gone")) "known"=↑none
 yd:Ϣ K (ο mg "AllSieve")
 acq:OI K (ο mg "AllSieve") "Sieve.__init__" Mj
 ab7:OM K (ο mg "AllSieve") "lets" "Sieve.lets" YD
 afH:OM K (ο mg "AllSieve") "shown" "Sieve.shown" pK
 ZP:Ϗ K (ο mg "AllSieve") "text"
 wy:Ϣ K (ο mg "NoneSieve")
 aie:OI K (ο mg "NoneSieve") "NoneSieve.__init__" aab
 ahj:OM K (ο mg "NoneSieve") "lets" "NoneSieve.lets" RP
 agy:OM K (ο mg "NoneSieve") "shown" "Sieve.shown" pK
 aba:Ϗ K (ο mg "NoneSieve") "text"
 Qs:Ϗ K (ο mg "NoneSieve") "place"
 sJ:Ϣ K (ο mg "IsSieve")
 agK:OI K (ο mg "IsSieve") "ValueSieve.__init__" zR
 alO:OM K (ο mg "IsSieve") "fits" "ValueSieve.fits" Yt
 aiZ:OM K (ο mg "IsSieve") "lets" "ValueSieve.lets" vQ
 akG:OM K (ο mg "IsSieve") "shown" "Sieve.shown" pK
 Xg:Ϗ K (ο mg "IsSieve") "text"
 Oz:Ϗ K (ο mg "IsSieve") "place"
 XX:Ϗ K (ο mg "IsSieve") "value"
 uo:Ϣ K (ο mg "UnderSieve")
 ak0:OI K (ο mg "UnderSieve") "ValueSieve.__init__" zR
 ae4:OM K (ο mg "UnderSieve") "fits" "UnderSieve.fits" Qj
 aiE:OM K (ο mg "UnderSieve") "lets" "ValueSieve.lets" vQ
 ant:OM K (ο mg "UnderSieve") "shown" "Sieve.shown" pK
 TV:Ϗ K (ο mg "UnderSieve") "text"
 aaN:Ϗ K (ο mg "UnderSieve") "place"
 VH:Ϗ K (ο mg "UnderSieve") "value"
 rJ:Ϣ K (ο mg "OverSieve")
 agh:OI K (ο mg "OverSieve") "ValueSieve.__init__" zR
 akj:OM K (ο mg "OverSieve") "fits" "OverSieve.fits" Uq
 acT:OM K (ο mg "OverSieve") "lets" "ValueSieve.lets" vQ
 amB:OM K (ο mg "OverSieve") "shown" "Sieve.shown" pK
 RT:Ϗ K (ο mg "OverSieve") "text"
 V0:Ϗ K (ο mg "OverSieve") "place"
 Om:Ϗ K (ο mg "OverSieve") "value"
 uG:Ϣ K (ο mg "NotSieve")
 aiS:OI K (ο mg "NotSieve") "NotSieve.__init__" Y5
 akA:OM K (ο mg "NotSieve") "lets" "NotSieve.lets" Qk
 aja:OM K (ο mg "NotSieve") "shown" "Sieve.shown" pK
 Vv:Ϗ K (ο mg "NotSieve") "text"
 Xl:Ϗ K (ο mg "NotSieve") "one"
 aF:Ϣ K (ο mg "Book")
 aos:OI K (ο mg "Book") "Book.__init__" aac
 MN:OM K (ο mg "Book") "ask_row" "Book.ask_row" X3
 Pr:OM K (ο mg "Book") "ask_there" "Book.ask_there" abh
 adt:OM K (ο mg "Book") "change" "Book.change" Oa
 K4:OM K (ο mg "Book") "columns" "Book.columns" aaa
 Gi:OM K (ο mg "Book") "do" "Book.do" zy
 Yr:OM K (ο mg "Book") "done_behind" "Book.done_behind" R3
 aky:OM K (ο mg "Book") "let_go" "Book.let_go" Qz
 Zr:OM K (ο mg "Book") "moment" "Book.moment" Wn
 WX:OM K (ο mg "Book") "put" "Book.put" WN
 aj5:OM K (ο mg "Book") "rows_at" "Book.rows_at" Ii
 alx:OM K (ο mg "Book") "take" "Book.take" Qy
 GC:Ϗ K (ο mg "Book") "heads"
 wG:Ϗ K (ο mg "Book") "rows"
 Wr:Ϗ K (ο mg "Book") "touched"
 CN:Ϗ K (ο mg "Book") "done"
 JT:Ϗ K (ο mg "Book") "known"
 Aw:Ϗ K (ο mg "Book") "now"
 JC:OB K (ο mg "Sieve") "__init__" "Sieve.__init__" Mj
def jZ:Array ε:=JD #[182,4,183,38] "sorted_by.<locals>.rank"
section
variable{P:Ϯ}{w:ϭ}{K:Ϩ}{mg:MG}{base:ϫ}
abbrev ak8:Prop:=∀{P:Ϯ}{w:ϭ}{K:Ϩ}{mg:MG}{base:ϫ}(T:Txt K mg)(hN:fO K mg base "sorted_by"){f:δ}{fd:aik}(F:dm K "law" "law" iH f fd),dF P w K mg base (cJ P w) true 60 f fd ["_law_script"] (Dj K "sorted_by" jZ)
end
end _K
section
open PySem PySem.W PyProof.Rows
open Lean in
local macro_rules(kind:=Lean.Parser.Command.universe)|s=>do
 let mut r:Array Syntax:=.empty
 for x in s[1].getArgs do
  let n:=x.getId
  let l:=n.toString.toList
  let k:=match l.head! with|'o'=>"o_"|'t'=>"tree_"|'h'=>"heap_"|'s'=>"sts_"|_=>"view_"
  let p:=if n.isAtomic then (String.ofList l.tail!).splitOn "x" |>.map (·.toNat!) else [0]
  for i in [p.head!:p.getLast!+1] do
   let m:=if n.isAtomic then Name.mkStr `PySem.Challenge.t0 s!"{k}{i}" else n
   r:=r.push (<-`(theorem $(mkIdent (`PySem.W.Fast++.mkSimple s!"tw{m.hash}")):ident:True:=⟨⟩))
 return mkNullNode r
universe o43x46 o49x1243 o1247x1420 h1421 t1420 t1399 h39 t1322 t1158 t1243 t1016 t974 t892 v39 t827 t798 PySem.Challenge.pw_turnleaf_k64_a_still_list_turned t776 t754 t725 t703 t681 t659 t644 t608 t579 t564 t513 t433 t366 s1323 t282 s1247 s893 t248 t226 s828 s367 s434 t204 s1017 s1400 t182 s283 t160 t145 t130 s975 s249 t115 s799 s514 t100 t85 s609 s726 s580 t70 s755 s227 s161 s183 s777 s205 s660 s682 s49 s704 s71 s86 h46 s146 s131 s101 s116 s645 s565 PySem.Challenge.rw_turnleaf_k64_a_still_list_turned t47
theorem PySem.Challenge.PySem.W.holds_open{r:OpenRow}{q:PySem.Program}{loose:List PySem.Str}{Xt:PySem.Shared→Bool}{XP:(PySem.Str→Option PySem.Value)→PySem.Heap→Prop}{α:Type}{Yf:PySem.Shared→α}{Ya:PySem.World→α}{YP:PySem.World→PySem.Heap→Prop}{d:DefRec}{kwd:List (PySem.Str×PySem.Expr)}{N:Nat}(a:LeftO r.prog q loose Xt Yf Ya N)(b:∀w s,Yf s=Ya w→YP w s.heap)(c:∀w h h',YP w h→(∀b o,h.get? b=some o→h'.get? b=some o)→YP w h')(e:∀s,Xt s=true→XP (s.heap.nsMap mainGlobals) s.heap)(f:∀mg h h',XP mg h→(∀b o,h.get? b=some o→h'.get? b=some o)→XP mg h')(g:defOf q r.name=some (d,kwd))(i:r.prog.theDef r.name=some (d.params,d.body,d.scope))(j:kwWritten? d.params.kwonlyargs d.params.kw_defaults=some kwd)(k:∀s,Xt s=true→RecFacts r.records s.heap)(l:(!r.writes || r.records.isEmpty)=true)(m:_K.ak8∧r.wellSaid=true)(n:(chainsOk q && opensWell r.prog && (frees r.toRowW && r.within.isEmpty))=true)(o:r.prog.bare)(p:r.toRowW.promised)(u:_K.ak8→WalkO q loose XP YP r.toRowW d kwd λf v=>PySem.call f v):r.Holds:=_root_.PySem.W.holds_open a b c e f g i j k l m.2 n o p (u m.1)
set_option maxRecDepth 100000 in
set_option maxHeartbeats 0 in
set_option tactic.hygienic true in
theorem PySem.Challenge.t0(g : _K.ak8):PySem.Challenge.rw_turnleaf_k64_a_still_list_turned.Holds := by
 w_on;o_law;have gs:_K.ak8∧PySem.Challenge.rw_turnleaf_k64_a_still_list_turned.row.wellSaid=true:=⟨g,by assumption⟩;k_head;(case hw=>w_witness2)
 intro g;k_fill
 show _L.ai7 (l:=PySem.Challenge.rw_turnleaf_k64_a_still_list_turned) (n:=63) (k:=60) (x:="_law_script") (xn:="sorted_by") (ps:=_K.jZ) (CX:=λw=>_L.cJ PySem.Challenge.rw_turnleaf_k64_a_still_list_turned.prog w) (cc:=true) (sp:=λw=>_L.Dj _ "sorted_by" _K.jZ) rfl (by decide) rfl #[λ_=>rfl,by decide,by decide] (λw h Y=>PySem.W.km_in_of Y) ?R ?B ?F (λ_ _ a ns hl i j=>#[a,ns,rfl,i,hl,j,λ_=>rfl]) (λ_ _ _ _ _ z=>_L.cJ.never z)
 case R=>kernel_rfl
 case B=>intro w;kernel_rfl
 case F=>
  intro w mg E h c G e;let T:_K.Txt (_L.QS c) mg:=by
   clear g;dsimp only[_L.QS];constructor
   all_goals first|refine' _L.ahd c G ..|refine' _L.ado c G ..|refine' _L.agb c G ..|refine' _L.agS c G ..|refine' _L.aoH c G ..|refine' _L.adZ c G ..|refine' _L.ab9 c G ..|refine' _L.afU c G ..|refine' _L.t_k c G ..|refine' _L.akN c G ..|refine' _L.aj9 c G ..|refine' _L.agw c G ..|refine' _L.alU c G ..|refine' _L.al6 c G ..|refine' _L.ahK c G ..|refine' _L.aea c G ..|refine' _L.aeZ c G ..|refine' _L.af8 (mg:=mg) (_L.gR c G ?_ (_L.gR c G ?_ (_L.gR c G ?_ (_L.gR c G ?_ (_L.gR c G ?_ (_L.gR c G ?_ (_L.gR c G ?_ (_L.gR c G ?_ (_L.gR c G ?_ (_L.gR c G ?_ (_L.gR c G ?_ (_L.gR c G ?_ _L.jY.nil)))))))))))) ?_
   any_goals try delta _L.cI
   any_goals try delta _L.tK
   any_goals first|k_is|k_exc|kernel_rfl|decide
  let#[f,fd,F,m]:=T.ahz;let p:=e.symm<|>m;cases p;let#[oc,od,kV,q,pm,an,H,ct,v,rfl,lk,y]:=id F.ex;show#[_,λs u=>.of_eq rfl,λbase I J D=>g T D F]
end
namespace _L
open PySem PySem.Spec PyProof.Rows
def aeP(i:Int)(t:Tok):tG (.inl i) (.int i t)=true:=by simp[tG,Value.isInt]
def afk(x:Str)(t:Tok):tG (.inr x) (.str x t)=true:=by simp[tG,Value.isStrOf]
theorem af0(prog:Ϯ)(w:ϭ)(i:Int)(t:Tok):(gH prog w).is (.inl i) (.int i t)=true:=aeP i t
theorem aeT(prog:Ϯ)(w:ϭ)(x:Str)(t:Tok):(gH prog w).is (.inr x) (.str x t)=true:=afk x t
theorem Vals.length(r:Vals xs us):↥xs=↥us:=Paired.length r
theorem Vals.get:∀{xs:List V}{us:List ε}{i:Nat}{x:V},Vals xs us->xs[i]?=↑x->∃u,us[i]?=↑u/\RelV x u
 |_,_,_,_,.nil,e=>by simp at e
 |_,_,0,_,.cons r _,e=>by simp at e;subst e;show#[_,rfl,r]
 |_,_,i+1,x,.cons _ t,e=>by
  let#[u,h1,h2]:=Vals.get (i:=i) (x:=x) t (~~~e);show#[u,~~~h1,h2]
theorem Vals.append:∀{xs ys:List V}{us ws:List ε},Vals xs us->Vals ys ws->Vals (xs++ys) (us++ws)
 |_,_,_,_,.nil,s=>s
 |_,_,_,_,.cons r t,s=>.cons r (Vals.append t s)
theorem Vals.take:∀{xs:List V}{us:List ε}(n:Nat),Vals xs us->Vals (xs.take n) (us.take n)
 |_,_,0,_=>.nil
 |_,_,_+1,.nil=>.nil
 |_,_,n+1,.cons r t=>.cons r (Vals.take n t)
theorem Vals.drop:∀{xs:List V}{us:List ε}(n:Nat),Vals xs us->Vals (xs.drop n) (us.drop n)
 |_,_,0,r=>r
 |_,_,_+1,.nil=>.nil
 |_,_,n+1,.cons _ t=>Vals.drop n t
def kV:Key->V
 |.inl i=>.int i
 |.inr x=>.str x
theorem Ε(h:n.ble 1000=true:=by rfl):n<=ϰ:=ad7 (arf h) (by rw[ϯ];decide)
def upd(H:Hp)(a:δ)(o:HO):Hp:=λb=>if b=a then some o else H b
def ς:upd H a o a=↑o:=by unfold upd;rw[if_pos rfl]
def θ(h:b≠a):upd H a o b=H b:=by unfold upd;rw[if_neg h]
def ό{H:Hp}{o:HO}(h:H a=↑o)(h':H b=none):a≠b:=by
 intro e;subst e;rw[h]at h';cases h'
section
variable{P:Ϯ}{w:ϭ}{H H':Hp}{h h':ϫ}{a:δ}{o:HO}
def ώ.there(x:ώ P w H h a o):∃ob,h.get? a=↑ob:=by
 cases o with
 |lst xs=>let#[_,_,_,_,e]:=x;show#[_,e]
 |tup xs=>let#[_,_,_,ob,e,_]:=x;show#[_,e]
 |dK Ϸ=>let#[_,_,_,_,o,_,_,e,_]:=x;show#[_,e]
 |ins C dx fs=>let#[_,_,_,e,_]:=x;show#[_,e]
 |own y=>let#[_,e]:=x;show#[_,e]
 |xd fs=>let#[_,#[_,_,_,e,_],_]:=x;show#[_,e]
 |rng lo hi=>let#[_,_,_,e]:=x;show#[_,e]
 |frz ob u=>let#[e,_]:=x;show#[_,e]
 |tbl ps=>let#[_,e,_]:=x;show#[_,e]
 |met f y=>show#[_,(show h.get? a=↑_ from x)]
 |ext φ=>let#[_,#[_,e],_]:=x;show#[_,e]
def ώ.lt(x:ώ P w H h a o):a<h.objs.size:=by
 let#[_,e]:=x.there;show abA e
def ώ.stay(x:ώ P w H h a o)(k:∀b u,(b=a\/H b=↑(.own a))->h.get? b=↑u->h'.get? b=↑u)(l:∀b,H b=↑(.own a)->H' b=↑(.own a))(I:∀b xs,H b=↑(.tup xs)->H' b=↑(.tup xs))(m:∀b g u,H b=↑(.frz g u)->H' b=↑(.frz g u):=by show λ_ _ _ q=>q):ώ P w H' h' a o:=by
 induction o with
 |lst xs=>let#[z,i,n,r,e]:=x;show#[z,i,n,r,k _ _ (.inl rfl) e]
 |tup xs=>let#[z,i,r,g,e,c]:=x;show#[z,i,r,g,k _ _ (.inl rfl) e,c]
 |dK Ϸ=>let#[z,y,vs,r,g,es,ep,e,c]:=x;show#[z,y,vs,r,g,es,ep,k _ _ (.inl rfl) e,c]
 |ins C dx fs=>
  let#[d,z,ne,e,mA,#[od,es,ep,j,c],r]:=x;show#[l _ d,z,ne,k _ _ (.inl rfl) e,mA,#[od,es,ep,k _ _ (.inr d) j,c],r]
 |own y=>let#[g,e]:=x;show#[g,k _ _ (.inl rfl) e]
 |xd fs=>let#[mA,#[od,es,ep,e,c],r]:=x;show#[mA,#[od,es,ep,k _ _ (.inl rfl) e,c],r]
 |rng lo hi=>let#[t,u,v,e]:=x;show#[t,u,v,k _ _ (.inl rfl) e]
 |frz g u s=>let#[e,q]:=x;show#[k _ _ (.inl rfl) e,s q]
 |tbl ps=>
  let#[B,e,tr,z]:=x;show#[B,k _ _ (.inl rfl) e,tr,λp D E=>?_];let#[c,oc,u,q,t,vs,t',e1,j,F,G]:=z p D E;show#[c,oc,u,q,t,vs,t',e1,j,m _ _ _ F,G]
 |met f y=>
  let e:h.get? a=↑(asA (.ref f) (.ref y)):=x;show h'.get? a=↑(asA (.ref f) (.ref y));show k a _ (.inl rfl) e
 |ext φ=>let#[p,#[o,e],st]:=x;show#[st _ _ p λo q=>k _ _ (.inl rfl) q,#[o,k _ _ (.inl rfl) e],st]
theorem aG.lt(x:aG P w H h)(e:H a=↑o):a<h.objs.size:=(x a o e).lt
def aG.fresh(x:aG P w H h)(e:h.objs.size<=a):H a=none:=by
 cases q:H a with
 |none=>rfl
 |some u=>show absurd (acp (x.lt q) e) (aiF _)
theorem aG.kept(x:aG P w H h)(k:∀b u,h.get? b=↑u->h'.get? b=↑u):aG P w H h':=λa o e=>
 (x a o e).stay (λb u _ q=>k b u q) (λ_ q=>q) λ_ _ q=>q
theorem aG.laid(x:aG P w H h)(k:∀b u,h.get? b=↑u->h'.get? b=↑u)(g:h.objs.size<=a)(new:ώ P w (upd H a o) h' a o):aG P w (upd H a o) h':=λb u e=>by
 let hn:=x.fresh g;by_cases f:b=a
 .subst f;rw[ς]at e;cases e;show new
 .rw[θ f]at e;show(x b u e).stay (λc v _ q=>k c v q) (λc q=>by rw[θ (ό q hn)];show q) (λc xs q=>by rw[θ (ό q hn)];show q) λc i v q=>by rw[θ (ό q hn)];show q
end
def Rd.ok(r:Rd H a u)(x:aG P w H h):ώ P w H h a u:=by
 obtain r|⟨o,r⟩:=r
 .show x a u r
 .let#[_,q]:=x a _ r;show q
def vO:Option HO->Prop
 |some (.lst _)=>True
 |some (.dK _)=>True
 |some (.ins _ _ _)=>True
 |some (.ext _)=>True
 |_=>False
theorem aG.write(ok:aG P w H h)(g:vO (H x))(m:e=x\/H e=↑(.own x))(k:∀b u,b≠e->h.get? b=↑u->h'.get? b=↑u)(l:∃u,h'.get? e=↑u)(new:ώ P w (upd H x o') h' x o'):aG P w (upd H x o') h':=λb u q=>by
 let f:∀c y,H c=↑(.own y)->c≠x:=λc y r z=>by subst z;rw[r]at g;show g
 let i:∀c xs,H c=↑(.tup xs)->c≠x:=λc xs r z=>by subst z;rw[r]at g;show g
 by_cases j:b=x
 .subst j;rw[ς]at q;cases q;show new
 .rw[θ j]at q;by_cases a:b=e
  .let n:H b=↑(.own x):=by
    obtain z|z:=m
    .show absurd (a<|>z) j
    .rw[a];show z
   rw[q]at n;cases n;let#[v,p]:=l;show#[v,by rw[a];show p]
  .show(ok b u q).stay (λc v hc r=>k c v ?_ r) (λc r=>by rw[θ (f c b r)];show r) (λc xs r=>by rw[θ (i c xs r)];show r) λc s v r=>by rw[θ (λz=>by subst z;rw[r]at g;show g)];show r
   obtain rfl|hc:=hc
   .show a
   .rintro rfl
    obtain z|z:=m
    .show f c b hc z
    .rw[hc]at z;cases z;show j rfl
section
variable{fs fs' ex ex':List δ}{H H1 H2:Hp}{h h1 h2 h':ϫ}{a x e:δ}{o:HO}
def Un.any(u:Un fs ex H H1 h h1){a:Obj}(q:h.get? b=↑a)(n:H b=none)(c:b∉ex):∃sl,h1.get? b=some {a with slots:=sl}:=by
 by_cases e:b∈fs
 .show u.slot b a q n e c
 .show#[a.slots,u.keep b a q n e c]
theorem Un.kept(k:∀b u,h.get? b=↑u->h'.get? b=↑u):Un fs ex H H h h':=
 #[λb a q _ _ _=>k b a q,λb a q _ _ _=>#[a.slots,k b a q],λ_ _ _ n _=>n,λb a q _=>#[a,k b a q],λ_ _ q=>q,λ_ _ _ q=>q,λ_ ps q=>#[#v[],by rw[q];simp]]
theorem Un.refl:Un fs ex H H h h:=Un.kept λ_ _ q=>q
theorem Un.laid(k:∀b u,h.get? b=↑u->h'.get? b=↑u)(c:h.objs.size<=a)(hn:H a=none):Un fs ex H (upd H a o) h h' where
 keep:=λb u q _ _ _=>k b u q
 slot:=λb u q _ _ _=>#[u.slots,k b u q]
 free:=λb u q n _=>by rw[θ (acu (acp (abA q) c))];show n
 there:=λb u q _=>#[u,k b u q]
 tups:=λb xs q=>by rw[θ (ό q hn)];show q
 frzs:=λb u xs q=>by rw[θ (ό q hn)];show q
 tbls:=λb ps q=>#[#v[],by rw[θ (ό q hn),q];simp]
def Un.write(c:vO (H x))(l:e=x\/H e=↑(.own x))(k:∀b u,b≠e->h.get? b=↑u->h'.get? b=↑u)(f:∃u,h'.get? e=↑u):Un fs ex H (upd H x o) h h':=by
 let i:∀b,H b=none->b≠x:=λb n z=>by subst z;rw[n]at c;show c
 let j:∀b,H b=none->b≠e:=λb n z=>by
  subst z;obtain r|r:=l
  .show i b n r
  .rw[n]at r;cases r
 let g:∀b u,H b=↑u->¬vO ↑u->b≠x:=λb u q nm z=>by subst z;rw[q]at c;show nm c
 show#[λb u q n _ _=>k b u (j b n) q,λb u q n _ _=>#[u.slots,k b u (j b n) q],λb u q n _=>by rw[θ (i b n)];show n,λb u q _=>?_,
  λb xs q=>by rw[θ (g b _ q λz=>z)];show q,λb u xs q=>by rw[θ (g b _ q λz=>z)];show q,λb ps q=>#[#v[],by rw[θ (g b _ q λz=>z),q];simp]]
 by_cases a:b=e
 .subst a;show f
 .show#[u,k b u a q]
end
def afN(g h:ϫ)(L:δ):List (δ×Obj):=(acV h.objs.size).filterMap λa=>if a=L\/(g.get? a).isSome=true then none else(h.get? a).map λo=>(a,o)
def rest(g h:ϫ)(L d:δ):List (δ×Obj):=(afN g h L).filter λp=>decide (p.1≠d)
structure Cx where
 prog:Ϯ
 w:ϭ
 K:Ϩ
 mg:Str->Option ε
 base:ϫ
 A:ϴ
 N:List Str
 s₀:μ
 H₀:Hp
 env:Env
 outer:List Env
 stack:List Env
 ex:List δ
 fn:Str->Bool
 calm:Bool
 pn:List (δ×Obj)
 xe:ε->μ->Prop
abbrev Cx.fs(X:Cx):List δ:=dJ X.outer
def rH(sc:ahx)(x:Str):Prop:=sc.names.lookup x=↑.local\/sc.names.lookup x=↑.cell\/sc.names.lookup x=↑.free
def Loc(sc:ahx)(x:Str):Prop:=sc.names.lookup x=↑.local\/sc.names.lookup x=↑.cell
def Look(env:Env)(h:ϫ)(m:MG)(x:Str)(u:ε):Prop:=
 (env.kindOf x=↑.local/\m x=↑u)\/((env.kindOf x=↑.cell\/env.kindOf x=↑.free)/\∃c,env.cells.lookup x=↑c/\h.IsCell c ↑u)
structure Cx.Ok(X:Cx):Prop where
 mod:Mod X.K X.mg X.base
 kind:X.env.scope.kind=.function
 glob:X.env.globals=mainGlobals
 blt:X.env.builtins=builtinsNs
 above:X.s₀.heap.objs.size<=X.env.locals
 inj:∀x y c,X.env.cells.lookup x=↑c->X.env.cells.lookup y=↑c->x=y
 has:∀x,(X.env.kindOf x=↑.cell\/X.env.kindOf x=↑.free)->∃c,X.env.cells.lookup x=↑c
 cab:∀x c,X.fn x=true->X.env.cells.lookup x=↑c->X.s₀.heap.objs.size<=c
 hd:X.calm=true->X.A.handled=none
 frames:X.A.frames=↑X.stack
 stk:X.stack=X.outer\/(X.stack=X.env::X.outer/\X.env.frame=↑X.env.locals)
 exf:∀b∈X.ex,b≠X.env.locals/\∀x c,X.env.cells.lookup x=↑c->c≠b
 bs:∀b o,X.base.get? b=↑o->X.s₀.heap.get? b=↑o/\X.H₀ b=none
 bsz:X.base.objs.size<=X.s₀.heap.objs.size
 noex:∀b o,X.base.get? b=↑o->b∉X.ex
 exfs:∀b∈X.ex,b∉X.fs
 funs:X.s₀.heap.FunFrames X.base X.outer
 frf:∀b∈X.fs,X.H₀ b=none
structure Inv(X:Cx)(ϵ:List (δ×Obj))(σ:List (Option V))(H:Hp)(s:μ):Prop where
 ok:X.Ok
 os:s.os=X.s₀.os
 bare:AllBare s.gens
 base:Un X.fs X.ex X.H₀ H X.s₀.heap s.heap
 loc:∃m,s.heap.Ns X.env.locals m/\∀(i:Nat)(x:Str)(v:V),X.N[i]?=↑x->σ[i]?=some ↑v->rH X.env.scope x->∃u,RelV v u/\Look X.env s.heap m x u
 cell:∀x c,X.env.cells.lookup x=↑c->∃v,s.heap.IsCell c v
 free:H X.env.locals=none
 freeC:∀x c,X.env.cells.lookup x=↑c->H c=none
 pin:∀p∈X.pn++ϵ,s.heap.get? p.1=↑p.2/\H p.1=none/\p.1≠X.env.locals/\p.1∉X.fs/\∀v,p.2.data≠.cell v
 hok:aG X.prog X.w H s.heap
 len:↥σ=↥X.N
section
variable{X:Cx}{ϵ:List (δ×Obj)}{σ:List (Option V)}{H H':Hp}{s:μ}{h':ϫ}
theorem Cx.Ok.nofr(ok:X.Ok)(e:X.base.get? b=↑o):b∉X.fs:=λa=>by
 have:=(ok.funs.mem a).1;rw[e]at this;cases this
theorem Inv.bs(I:Inv X ϵ σ H s):∀b o,X.base.get? b=↑o->s.heap.get? b=↑o/\H b=none:=λb o e=>
 #[I.base.keep b o (I.ok.bs b o e).1 (I.ok.bs b o e).2 (I.ok.nofr e) (I.ok.noex b o e),I.base.free b o (I.ok.bs b o e).1 (I.ok.bs b o e).2 (I.ok.noex b o e)]
theorem Inv.bk(I:Inv X ϵ σ H s):∀b o,X.base.get? b=↑o->s.heap.get? b=↑o:=λb o e=>(I.bs b o e).1
theorem Inv.mod(I:Inv X ϵ σ H s):Mod X.K X.mg X.base:=I.ok.mod
theorem Inv.kIn(I:Inv X ϵ σ H s):X.K.In s.heap:=I.ok.mod.kin.keeps I.bk
theorem Inv.nolimit(I:Inv X ϵ σ H s):s.heap.NoLimit:=I.ok.mod.nolimit.keeps I.bk
theorem Inv.lt(I:Inv X ϵ σ H s):X.env.locals<⇑s:=let⟨_,hn,_⟩:=I.loc;hn.lt
theorem Inv.sz(I:Inv X ϵ σ H s):X.s₀.heap.objs.size<=⇑s:=ad7 I.ok.above (arn I.lt)
theorem Inv.nofs(I:Inv X ϵ σ H s){a:δ}(h:⇑s<=a):a∉X.fs:=λc=>by
 let#[_,o,e,_]:=I.ok.funs.mem c;show absurd (acp (abA e) (ad7 I.sz h)) (aiF _)
theorem Inv.cne(I:Inv X ϵ σ H s):∀x c,X.env.cells.lookup x=↑c->c≠X.env.locals:=λx c e z=>by
 let#[v,o,g,hd]:=I.cell x c e;let#[m,#[o',es,ep,a,f,_],_]:=I.loc;rw[z,a]at g;cases g;rw[f]at hd;cases hd
def Inv.funs(I:Inv X ϵ σ H s):s.heap.FunFrames X.base X.outer:=by
 let all:∀(l:List Env),(∀b∈dJ l,b∈X.fs)->X.s₀.heap.FunFrames X.base l->s.heap.FunFrames X.base l:=by
  intro l;induction l with
  |nil=>intro _ _;trivial
  |cons env r g=>
   intro hs hl;let#[i,#[L,o,a,hn,j,hd],m]:=hl;let c:L∈X.fs:=hs L (by unfold dJ;rw[asb,a];show ad8);let#[sl,e]:=I.base.slot L o j (I.ok.frf L c) c λz=>I.ok.exfs L z c
   show#[i,#[L,_,a,hn,e,hd],g (λb f=>hs b (by unfold dJ;rw[asb,a];show abF _ f)) m]
 show all X.outer (λ_ f=>f) I.ok.funs
def Inv.stack(I:Inv X ϵ σ H s):s.heap.FunFrames X.base X.stack:=by
 obtain e|⟨e,a⟩:=I.ok.stk
 .rw[e];show I.funs
 .rw[e];let#[m,hn,_]:=I.loc;show .cons (by rw[I.ok.kind];decide) a hn ?_ I.funs*>ajf (ad7 I.ok.bsz I.ok.above)
theorem Inv.stkSub(I:Inv X ϵ σ H s):∀b∈dJ X.stack,b∈X.env.locals::X.fs:=λb a=>by
 obtain e|⟨e,c⟩:=I.ok.stk
 .rw[e]at a;show abF _ a
 .rw[e]at a;unfold dJ at a;rw[asb,c]at a;show a
theorem Inv.stkFree(I:Inv X ϵ σ H s):∀b∈dJ X.stack,H b=none:=λb hb=>by
 rcases aaB.mp (I.stkSub b hb)with e|hb
 .rw[e];show I.free
 .let#[_,o,a,_]:=I.ok.funs.mem hb;show I.base.free b o a (I.ok.frf b hb) λz=>I.ok.exfs b z hb
def Inv.step{t':Nat}{d':Drawn}{ch:List δ}(I:Inv X ϵ σ H s)(f:∀b∈ch,(b∈X.ex\/X.s₀.heap.get? b=none)/\b≠X.env.locals/\(∀x c,X.env.cells.lookup x=↑c->c≠b)/\∀p∈X.pn++ϵ,p.1≠b)(keep:∀b o,b≠X.env.locals->b∉X.fs->b∉ch->s.heap.get? b=↑o->H b=none->h'.get? b=↑o)(slot:∀b o,b≠X.env.locals->b∈X.fs->b∉ch->s.heap.get? b=↑o->H b=none->∃sl,h'.get? b=some {o with slots:=sl})(free:∀b o,b∉ch->s.heap.get? b=↑o->H b=none->H' b=none)(there:∀b o,b∉ch->s.heap.get? b=↑o->∃o',h'.get? b=↑o')(tups:∀b xs,H b=↑(.tup xs)->H' b=↑(.tup xs))(frzs:∀b o u,H b=↑(.frz o u)->H' b=↑(.frz o u))(tbls:∀b ps,H b=↑(.tbl ps)->∃E,H' b=↑(.tbl (ps++E)))(ns:∀m,s.heap.Ns X.env.locals m->h'.Ns X.env.locals m)(hok:aG X.prog X.w H' h')(P:AllBare g'):Inv X ϵ σ H' {s with heap:=h',gens:=g',drawn:=d',toks:=t'}:=by
 let F:∀b o,X.s₀.heap.get? b=↑o->b≠X.env.locals:=λb o e=>acu (acp (abA e) I.ok.above)
 let y:∀b o,X.s₀.heap.get? b=↑o->b∉X.ex->b∉ch:=λb o e a B=>by
  rcases(f b B).1 with z|z
  .show a z
  .rw[e]at z;cases z
 let g:∀x c,X.env.cells.lookup x=↑c->∀v,s.heap.IsCell c v->h'.IsCell c v:=λx c e v ⟨o,D,hd⟩=>by
  let j:c∉ch:=λz=>(f c z).2.2.1 x c e rfl
  by_cases L:c∈X.fs
  .let#[sl,q]:=slot c o (I.cne x c e) L j D (I.freeC x c e);show#[_,q,hd]
  .show#[o,keep c o (I.cne x c e) L j D (I.freeC x c e),hd]
 show#[I.ok,I.os,P,#[λb o e n B a=>?_,λb o e n B a=>?_,λb o e n a=>?_,λb o e a=>?_,λb xs e=>tups b xs (I.base.tups b xs e),λb o xs e=>frzs b o xs (I.base.frzs b o xs e),λb ps e=>?_],?_,λx c e=>?_,?_,λx c e=>?_,λp M=>?_,hok,I.len]
 .show keep b o (F b o e) B (y b o e a) (I.base.keep b o e n B a) (I.base.free b o e n a)
 .let#[sl,e1]:=I.base.slot b o e n B a;let#[J,G]:=slot b _ (F b o e) B (y b o e a) e1 (I.base.free b o e n a);show#[J,G]
 .let#[o',e1]:=I.base.there b o e a;show free b o' (y b o e a) e1 (I.base.free b o e n a)
 .let#[o',e1]:=I.base.there b o e a;show there b o' (y b o e a) e1
 .let#[m1,e1]:=I.base.tbls b ps e;let#[m2,G]:=tbls b _ e1;show#[m1++m2,by rw[G,Array.append_assoc]]
 .let#[m,hn,hl]:=I.loc;show#[m,ns m hn,λi x v e1 G Q=>?_];let#[u,r,l]:=hl i x v e1 G Q;show#[u,r,?_];obtain l|⟨k,c,e,z⟩:=l
  .show .inl l
  .show .inr #[k,c,e,g x c e _ z]
 .let#[v,z]:=I.cell x c e;show#[v,g x c e v z]
 .let#[m,#[o,_,_,D,_],_]:=I.loc;show free _ o (λz=>(f _ z).2.1 rfl) D I.free
 .let#[v,o,D,hd]:=I.cell x c e;show free c o (λz=>(f c z).2.2.1 x c e rfl) D (I.freeC x c e)
 .let#[e,n,ne,O,d]:=I.pin p M;let j:p.1∉ch:=λz=>(f p.1 z).2.2.2 p M rfl
  show#[keep p.1 p.2 ne O j e n,free p.1 p.2 j e n,ne,O,d]
def Inv.un(I:Inv X ϵ σ H s)(u:Un X.fs [] H H' s.heap h')(hok:aG X.prog X.w H' h'):Inv X ϵ σ H' {s with heap:=h',toks:=t'}:=by
 let#[m,#[o,es,ep,i,r],_]:=id I.loc;let#[sl,j]:=u.any i I.free (by simp);show I.step (g':=s.gens) (d':=s.drawn) (ch:=[]) (λ_ z=>nomatch z) (λb o _ c _ e n=>u.keep b o e n c (by simp)) (λb o _ c _ e n=>u.slot b o e n c (by simp)) (λb o _ e n=>u.free b o e n (by simp)) (λb o _ e=>u.there b o e (by simp)) u.tups u.frzs u.tbls (λm' l=>by
  let#[o',f,g,a,p]:=l;rw[i]at a;cases a;show#[_,f,g,j,p]) hok I.bare
def Inv.call(I:Inv X ϵ σ H s)(u:Un (dJ X.stack) ch H H' s.heap h')(hok:aG X.prog X.w H' h')(v:AllBare g')(f:∀b∈ch,(b∈X.ex\/X.s₀.heap.get? b=none)/\b≠X.env.locals/\(∀x c,X.env.cells.lookup x=↑c->c≠b)/\∀p∈X.pn++ϵ,p.1≠b):Inv X ϵ σ H' {s with heap:=h',gens:=g',drawn:=d',toks:=t'}:=by
 let#[m,#[o,es,ep,q,r],_]:=id I.loc;let#[sl,i]:=u.any q I.free λz=>(f _ z).2.1 rfl
 show I.step (ch:=ch) f (λb o i y a e n=>u.keep b o e n (λz=>(aaB.mp (I.stkSub b z)).elim i y) a) (λb o _ _ a e n=>u.any e n a) (λb o a e n=>u.free b o e n a) (λb o a e=>u.there b o e a) u.tups u.frzs u.tbls (λm' B=>by
  let#[o',j,l,g,D]:=B;rw[q]at g;cases g;show#[_,j,l,i,D]) hok v
def Inv.turned(I:Inv X ϵ σ H s)(k:∀b o,b≠it->s.heap.get? b=↑o->h'.get? b=↑o)(hn:H it=none)(g:it≠X.env.locals)(h1:it∈X.ex\/X.s₀.heap.get? it=none)(h2:∀x c,X.env.cells.lookup x=↑c->c≠it)(i:∀p∈X.pn++ϵ,p.1≠it):Inv X ϵ σ H {s with heap:=h',toks:=t'}:=by
 let f:∀b u,H b=↑u->b≠it:=λb u e z=>by rw[z,hn]at e;cases e
 show I.step (g':=s.gens) (d':=s.drawn) (ch:=[it]) (λb j=>?_) (λb o _ _ a e _=>k b o (λz=>a (by simp[z])) e) (λb o _ _ a e _=>#[o.slots,k b o (λz=>a (by simp[z])) e]) (λ_ _ _ _ n=>n)
  (λb o a e=>#[o,k b o (λz=>a (by simp[z])) e]) (λ_ _ e=>e) (λ_ _ _ e=>e) (λb ps e=>#[#v[],by rw[e];simp]) (λm l=>?_) (λb u e=>?_) I.bare
 .let e:b=it:= ~~~j
  subst e;show#[h1,g,h2,i]
 .let#[o,es,ep,y,r]:=l;show#[o,es,ep,k _ o (Ne.symm g) y,r]
 .show(I.hok b u e).stay (λc v a q=>k c v ?_ q) (λ_ q=>q) λ_ _ q=>q
  obtain z|z:=a
  .rw[z];show f b u e
  .show f c _ z
theorem Inv.tok(I:Inv X ϵ σ H s)(t:Nat):Inv X ϵ σ H {s with toks:=t}:=I.un (h':=s.heap) (t':=t) Un.refl I.hok
theorem Inv.kept(I:Inv X ϵ σ H s)(k:∀b u,s.heap.get? b=↑u->h'.get? b=↑u):Inv X ϵ σ H {s with heap:=h',toks:=t'}:=I.un (Un.kept k) (I.hok.kept k)
theorem Inv.laid{a:δ}{t':Nat}(I:Inv X ϵ σ H s)(k:∀b u,s.heap.get? b=↑u->h'.get? b=↑u)(c:⇑s<=a)(new:ώ X.prog X.w (upd H a o) h' a o):Inv X ϵ σ (upd H a o) {s with heap:=h',toks:=t'}:=I.un (Un.laid k c (I.hok.fresh c)) (I.hok.laid k c new)
theorem Inv.write(I:Inv X ϵ σ H s)(c:vO (H x))(f:e=x\/H e=↑(.own x))(k:∀b u,b≠e->s.heap.get? b=↑u->h'.get? b=↑u)(a:∃u,h'.get? e=↑u)(new:ώ X.prog X.w (upd H x o) h' x o):Inv X ϵ σ (upd H x o) {s with heap:=h',toks:=t'}:=I.un (Un.write c f k a) (I.hok.write c f k a new)
theorem Inv.weak(I:Inv X ϵ σ H s)(hl:↥σ'=↥σ)(w:∀(i:Nat) v,σ'[i]?=some ↑v->σ[i]?=some ↑v):Inv X ϵ σ' H s:=
 #[I.ok,I.os,I.bare,I.base,let⟨m,hn,hl'⟩:=I.loc;#[m,hn,λi x v e1 a c=>hl' i x v e1 (w i v a) c],I.cell,I.free,I.freeC,I.pin,I.hok,hl<|>I.len]
theorem Inv.pins_of(I:Inv X ϵ σ H s)(h:∀p∈pins',s.heap.get? p.1=↑p.2/\H p.1=none/\p.1≠X.env.locals/\p.1∉X.fs/\∀v,p.2.data≠.cell v):Inv X pins' σ H s:=
 #[I.ok,I.os,I.bare,I.base,I.loc,I.cell,I.free,I.freeC,λp a=>(adH.mp a).elim (λz=>I.pin p (agF _ z)) (h p),I.hok,I.len]
def Iu{N:List Str}(c:N.Nodup){i j:Nat}(a:N[i]?=↑x)(b:N[j]?=↑x):i=j:=by
 let#[h1,e1]:=aav.mp a;let#[h2,e]:=aav.mp b;show(amx c).mp (e1<|>e.symm)
def ug(I:Inv X ϵ σ H s)(hN:X.N.Nodup)(hi:X.N[i]?=↑x)(g:Loc X.env.scope x)(r:RelV v u)(h:∀s',Inv X ϵ (σ.set i ↑v) H s'->(∃a,ak7 a s.heap s'.heap/\(a=X.env.locals\/X.env.cells.lookup x=↑a))->Q PUnit.unit s')(hf:X.fn x=true\/X.env.scope.names.lookup x=↑.local:=by first|show .inl rfl|show .inr rfl|assumption):π M A (storeName X.env x u) Q E s:=by
 let#[m,hn,hl]:=id I.loc;let L:(X.env.scope.kind==.class||(X.env.scope.kind==.module&&X.env.locals !=X.env.globals))=false:=by rw[I.ok.kind];rfl
 let D:i<↥σ:=by rw[I.len];show(aav.mp hi).1
 let cne:=I.cne;let f:∀{a:δ}{h':ϫ},(∃o,s.heap.get? a=↑o/\H a=none)->ak7 a s.heap h'->aG X.prog X.w H h':=λ{a h'} ha hs b ob e=>by
  let#[_,_,l]:=ha;show(I.hok b ob e).stay (λc T hc q=>(hs.2 c ?_).trans q) (λ_ q=>q) λ_ _ q=>q
  rintro rfl
  obtain rfl|hc:=hc
  .rw[l]at e;cases e
  .rw[l]at hc;cases hc
 obtain hk|hk:=g
 .show wpAny_storeName_local hk hn (λh' W hs=>?_) L;let#[oL,_,_,Y,_]:=id hn;show h _ #[I.ok,I.os,I.bare,#[λb o e n F g=>?_,λb o e n F g=>?_,I.base.free,λb o e g=>?_,I.base.tups,I.base.frzs,I.base.tbls],#[_,W,λj y Z e1 B e3=>?_],λy c e=>?_,I.free,I.freeC,λp hp=>?_,f #[oL,Y,I.free] hs,~~~I.len] #[_,hs,.inl rfl]
  .show(hs.2 b (acu (acp (abA e) I.ok.above))).trans (I.base.keep b o e n F g)
  .let#[sl,e1]:=I.base.slot b o e n F g;show#[sl,(hs.2 b (acu (acp (abA e) I.ok.above)))<|>e1]
  .let#[o',e1]:=I.base.there b o e g;show#[o',(hs.2 b (acu (acp (abA e) I.ok.above)))<|>e1]
  .by_cases G:j=i
   .subst G;rw[hi]at e1;cases e1;rw[am9 D]at B;cases B;show#[u,r,.inl #[hk,by simp]]
   .rw[arT (Ne.symm G)]at B;let#[u',r',q]:=hl j y Z e1 B e3;show#[u',r',?_];obtain⟨k,e⟩|⟨k,c,e,z⟩:=q
    .show .inl #[k,?_];have:y≠x:=λe=>G (Iu hN e1 (e▸hi))
     simp[this,e]
    .show .inr #[k,c,e,z.sameBut hs (cne y c e)]
  .let#[T,z]:=I.cell y c e;show#[T,z.sameBut hs (cne y c e)]
  .let#[e,n,ne,nf,d]:=I.pin p hp;show#[(hs.2 p.1 ne)<|>e,n,ne,nf,d]
 .let J:X.fn x=true:=by
   obtain z|z:=hf
   .show z
   .rw[z]at hk;cases hk
  let#[c,hc]:=I.ok.has x (.inl hk);let#[T,z]:=I.cell x c hc;show wpAny_storeName_cell I.ok.kind hk hc z (λh' O hs=>?_);let#[oc,P,R]:=id z;show h {s with heap:=h'} #[I.ok,I.os,I.bare,#[λb o e n F g=>?_,λb o e n F g=>?_,I.base.free,λb o e g=>?_,I.base.tups,I.base.frzs,I.base.tbls],#[m,hn.sameBut hs (Ne.symm (cne x c hc)),λj y Z e1 B e3=>?_],λy U e=>?_,I.free,I.freeC,λp hp=>?_,f #[oc,P,I.freeC x c hc] hs,~~~I.len] #[c,hs,.inr hc]
  .show(hs.2 b (acu (acp (abA e) (I.ok.cab x c J hc)))).trans (I.base.keep b o e n F g)
  .let#[sl,e1]:=I.base.slot b o e n F g;show#[sl,(hs.2 b (acu (acp (abA e) (I.ok.cab x c J hc))))<|>e1]
  .let#[o',e1]:=I.base.there b o e g;show#[o',(hs.2 b (acu (acp (abA e) (I.ok.cab x c J hc))))<|>e1]
  .by_cases G:j=i
   .subst G;rw[hi]at e1;cases e1;rw[am9 D]at B;cases B;show#[u,r,.inr #[.inl hk,c,hc,O]]
   .rw[arT (Ne.symm G)]at B;let#[u',r',q]:=hl j y Z e1 B e3;show#[u',r',?_];obtain q|⟨k,U,e,z'⟩:=q
    .show .inl q
    .show .inr #[k,U,e,z'.sameBut hs ?_]
     rintro rfl
     show G (Iu hN e1 (I.ok.inj _ _ _ e hc▸hi))
  .by_cases S:U=c
   .subst S;show#[_,O]
   .let#[w2,z2]:=I.cell y U e;show#[w2,z2.sameBut hs S]
  .let#[e,n,ne,nf,d]:=I.pin p hp;show#[(hs.2 p.1 ?_)<|>e,n,ne,nf,d];intro q;rw[q,P]at e;let q':oc=p.2:=Option.some.inj e;show d T (by rw[<-q'];show R)
theorem Z0(I:Inv X ϵ σ H s)(a:X.N.Nodup)(hi:X.N[i]?=↑x)(c:Loc X.env.scope x)(r:RelV v u)(h:∀s',Inv X ϵ (σ.set i ↑v) H s'->Q PUnit.unit s')(e:X.fn x=true\/X.env.scope.names.lookup x=↑.local:=by first|show .inl rfl|show .inr rfl|assumption):π M A (storeName X.env x u) Q E s:=
 ug I a hi c r (λs' f _=>h s' f) e
def Inv.call'(I:Inv X ϵ σ H s)(f:s'.os=s.os)(u:Un (dJ X.stack) ch H H' s.heap s'.heap)(hok:aG X.prog X.w H' s'.heap)(g:AllBare s'.gens)(a:∀b∈ch,(b∈X.ex\/X.s₀.heap.get? b=none)/\b≠X.env.locals/\(∀x c,X.env.cells.lookup x=↑c->c≠b)/\∀p∈X.pn++ϵ,p.1≠b):Inv X ϵ σ H' s':=by
 let#[h',g',d',t',o']:=s';let e:o'=s.os:=f;subst e;show I.call (g':=g') (t':=t') (d':=d') u hok g a
end
abbrev St:=List (Option V)
abbrev TE:=St->Hp->VK->Prop
abbrev TT:=St->Hp->(Bool->Hp->Prop)->Prop
abbrev TA:=St->Hp->(List V->Hp->Prop)->Prop
structure Ends where
 nx:St->Hp->Prop
 rt:VK
 bk:St->Hp->Prop:=λ_ _=>False
 ct:St->Hp->Prop:=λ_ _=>False
abbrev TS:=Ends->St->Hp->Prop
def EP(X:Cx)(ϵ:List (δ×Obj))(σ:St)(Q:VK)(u:ε)(s':μ):=∃v H',Inv X ϵ σ H' s'/\RelV v u/\Q v H'
def TP(X:Cx)(ϵ:List (δ×Obj))(σ:St)(Q:Bool->Hp->Prop)(b:Bool)(s':μ):=∃H',Inv X ϵ σ H' s'/\Q b H'
def AP(X:Cx)(ϵ:List (δ×Obj))(σ:St)(Q:List V->Hp->Prop)(us:List ε)(s':μ):=∃vs H',Inv X ϵ σ H' s'/\Vals vs us/\Q vs H'
def SP(X:Cx)(ϵ:List (δ×Obj))(D:Ends)(f:Flow)(s':μ):Prop:=
 match f with
 |.next=>∃σ' H',Inv X ϵ σ' H' s'/\D.nx σ' H'
 |.brk=>∃σ' H',Inv X ϵ σ' H' s'/\D.bk σ' H'
 |.cont=>∃σ' H',Inv X ϵ σ' H' s'/\D.ct σ' H'
 |.ret u=>∃v σ' H',Inv X ϵ σ' H' s'/\RelV v u/\D.rt v H'
def PE(X:Cx)(e:ϩ)(t:TE):Prop:=
 ∀(ϵ:List (δ×Obj))(s:μ)(σ:St)(H:Hp)(Q:VK),Inv X ϵ σ H s->t σ H Q->π ∅ X.A (eval e X.env) (EP X ϵ σ Q) X.xe s
def PT(X:Cx)(e:ϩ)(t:TT):Prop:=
 ∀(ϵ:List (δ×Obj))(s:μ)(σ:St)(H:Hp)(Q:Bool->Hp->Prop),Inv X ϵ σ H s->t σ H Q->π ∅ X.A (isTrue e X.env (eval e X.env)) (TP X ϵ σ Q) X.xe s
def PW(X:Cx)(e:ϩ)(t:TT):Prop:=
 ∀(a:Sem ε)(ϵ:List (δ×Obj))(s:μ)(σ:St)(H:Hp)(Q:Bool->Hp->Prop),Inv X ϵ σ H s->t σ H Q->π ∅ X.A (isTrue e X.env a) (TP X ϵ σ Q) X.xe s
theorem PW.pt(h:PW X e t):PT X e t:=h _
def PS(X:Cx)(st:Ϧ)(t:TS):Prop:=
 ∀(ϵ:List (δ×Obj))(s:μ)(σ:St)(H:Hp)(D:Ends),Inv X ϵ σ H s->t D σ H->π ∅ X.A (exec st X.env) (SP X ϵ D) X.xe s
def Iw(X:Cx)(st:List Ϧ)(t:TS):Prop:=
 ∀(ϵ:List (δ×Obj))(s:μ)(σ:St)(H:Hp)(D:Ends),Inv X ϵ σ H s->t D σ H->π ∅ X.A (execs st X.env) (SP X ϵ D) X.xe s
theorem χ{α:Type}{t:Sem α}{Q c:α->μ->Prop}{A:ϴ}{E:ε->μ->Prop}{s:μ}(h:π M A t Q E s)(e:∀a s,Q a s->c a s):π M A t c E s:=ac7 h e λ_ _ x=>x
section
variable{X:Cx}
def ajF(i:Nat):TE:=λσ H Q=>∃v,σ[i]?=some ↑v/\Q v H
def tC(v:V):TE:=λ_ H Q=>Q v H
def ake{x:Str}{pos:Pos}(j:X.N[i]?=↑x)(n:rH X.env.scope x)(hd:(x==("__debug__":Str))=false:=by decide)(f:(x==("__classdict__":Str))=false:=by decide):PE X (.Name x pos) (ajF i):=by
 intro ϵ s σ H Q I h;let#[v,e,h]:=h;let#[m,hn,hl]:=I.loc;let#[u,r,l]:=hl i x v j e n;let fin:EP X ϵ σ Q u s:=#[v,H,I,r,h];obtain⟨hk,p⟩|⟨hk,c,g,a⟩:=l
 .show wpAny_Name (wpAny_loadName_local I.ok.kind hk hn p fin) hd
 .obtain hk|hk:=hk
  .show wpAny_Name (wpAny_loadName_cell I.ok.kind hk g a fin) hd
  .show wpAny_Name (wpAny_loadName_free I.ok.kind hk g a fin f) hd
def Gl(X:Cx)(x:Str):Prop:=X.env.kindOf x=↑.globalImplicit
theorem oY{E:ε->μ->Prop}{s:μ}{σ:St}{H:Hp}{x:Str}{u:ε}{pos:Pos}{Q:ε->μ->Prop}(I:Inv X ϵ σ H s)(a:Gl X x)(c:X.mg x=↑u)(h:Q u s)(hd:(x==("__debug__":Str))=false:=by decide):π ∅ X.A (eval (.Name x pos) X.env) Q E s:=
 Calls.Name_function_global I.ok.kind a (Calls.loadGlobal_global (by rw[I.ok.glob];show I.mod.glob.keeps I.bk) c h) hd
def jQ{E:ε->μ->Prop}{s:μ}{σ:St}{H:Hp}{x:Str}{u:ε}{pos:Pos}{Q:ε->μ->Prop}(I:Inv X ϵ σ H s)(a:Gl X x)(c:X.mg x=none)(e:bootBuiltins x=↑u)(h:Q u s)(hn:x≠"__name__":=by decide)(hd:(x==("__debug__":Str))=false:=by decide):π ∅ X.A (eval (.Name x pos) X.env) Q E s:=by
 let#[mb,h1,h2]:=I.mod.blt;show Calls.Name_function_global I.ok.kind a (Calls.loadGlobal_builtin (by rw[I.ok.glob];show I.mod.glob.keeps I.bk) c (by rw[I.ok.blt];show h1.keeps I.bk) ((h2 x hn)<|>e) h) hd
theorem Vm(a:Gl X x)(c:X.mg x=↑u)(r:RelV v u)(hd:(x==("__debug__":Str))=false:=by decide):PE X (.Name x pos) (tC v):=
 λ_ _ _ H _ I h=>oY I a c #[v,H,I,r,h] hd
end
def ξ(K:Ϩ)(H:Hp)(a:δ)(xs:List V):Prop:=
 Rd H a (.tup xs)\/
  ∃(o:Obj)(c:Array ε)(n:Nat),K.lookup a=↑o/\o.cls=.type "tuple"/\o.data=.seq c n/\c.size<=ϰ/\Vals xs c.toList
def aci:ε->Option V
 |.none=>↑.non
 |.bool b=>↑(.bl b)
 |.int i _=>↑(.int i)
 |.str x _=>↑(.str x)
 |.bytes b _=>↑(.byt b)
 |.float b _=>↑(.flt b)
 |.ref a=>↑(.ref a)
 |.type n=>↑(.ty n)
 |_=>none
def RelV.abs(r:RelV x u):aci u=↑x:=by
 cases x with
 |non=>cases r;rfl
 |bl _=>cases r;rfl
 |int _=>let#[t,rfl]:=r;rfl
 |str _=>let#[t,rfl]:=r;rfl
 |byt _=>let#[t,rfl]:=r;rfl
 |flt _=>let#[t,rfl]:=r;rfl
 |ref _=>cases r;rfl
 |ty _=>cases r;rfl
theorem RelV.inj(r:RelV x u)(q:RelV y u):x=y:=Option.some.inj (r.abs.symm<|>q.abs)
def Vals.inj(h:Vals xs us)(g:Vals ys us):xs=ys:=by
 induction h generalizing ys with
 |nil=>cases g;rfl
 |cons r t a=>cases g with|cons c t'=>rw[r.inj c,a t']
section
variable{X:Cx}{ϵ:List (δ×Obj)}{σ:St}{H:Hp}{s:μ}{a:δ}{xs ys:List V}
theorem η.of{K:Ϩ}(h:H a=↑(.lst xs)):η K H a xs:=.inl (.inl h)
theorem ξ.of{K:Ϩ}(h:H a=↑(.tup xs)):ξ K H a xs:=.inl (.inl h)
def Inv.list(I:Inv X ϵ σ H s)(h:η X.K H a xs):∃c:List ε,Vals xs c/\PlainL s.heap a c.toArray/\↥xs<=ϰ:=by
 obtain h|⟨o,c,n,f,g,hd,hs,i,r⟩:=h
 .let#[z,c,n,r,e]:=h.ok I.hok;show#[c,r,#[_,n,e,rfl,rfl,rfl],z]
 .show#[c.toList,r,#[o,n,I.kIn a o f,g,hd,~~~hs],?_];let e:=↥r;simp only[ajA]at e;omega
def Inv.tuple(I:Inv X ϵ σ H s)(h:ξ X.K H a xs):∃c:List ε,Vals xs c/\IsTup s.heap a c.toArray/\↥xs<=ϰ:=by
 obtain h|⟨o,c,n,f,g,hs,i,r⟩:=h
 .let#[z,c,r,p]:=h.ok I.hok;show#[c,r,p,z]
 .show#[c.toList,r,#[o,I.kIn a o f,g,n,~~~hs],?_];let e:=↥r;simp only[ajA]at e;omega
def Inv.list_inj(I:Inv X ϵ σ H s)(h:η X.K H a xs)(h':η X.K H a ys):xs=ys:=by
 let#[f,r,#[o,n,e,_,_,d],_]:=I.list h;let#[its',g,#[o',i,c,_,_,d'],_]:=I.list h';rw[e]at c;cases c;rw[d]at d';injection d' with d1 _
 have:f=its':= ~~~congrArg aui d1
 subst this;show r.inj g
def Inv.tuple_inj(I:Inv X ϵ σ H s)(h:ξ X.K H a xs)(h':ξ X.K H a ys):xs=ys:=by
 let#[f,r,#[o,e,_,n,d],_]:=I.tuple h;let#[its',g,#[o',c,_,i,d'],_]:=I.tuple h';rw[e]at c;cases c;rw[d]at d';injection d' with d1 _
 have:f=its':= ~~~congrArg aui d1
 subst this;show r.inj g
end
def Inv.quiet{σ:St}{H:Hp}{s:μ}(I:Inv X ϵ σ H s):interactive X.env=false:=by simp[interactive,I.ok.kind]
abbrev TG:=V->St->Hp->(St->Hp->Prop)->Prop
def aha(c:TT)(tb:TS):TS:=λD σ H=>∃W:Nat->St->Hp->Prop,(∃m,W m σ H)/\∀m σ H,W m σ H->
 c σ H λb H1=>if b=true then ∃N:St->Hp->Prop,(∀σ' H',N σ' H'->∃m',m'<m/\W m' σ' H')/\tb {D with nx:=N,ct:=N,bk:=D.nx} σ H1 else D.nx σ H1
def akz(u:akR ∅ X.A X.env X.xe)(z:PT X c tc)(B:Iw X body tb):PS X (.While c body [] pos) (aha tc tb):=by
 intro ϵ s σ H D I h;let#[W,#[E,F],turn]:=h;show wpAny_While (codeAny_whileLoop (λn s'=>∃σ' H',Inv X ϵ σ' H' s'/\W n σ' H') ?_ E #[σ,H,I,F])
 rintro n G ⟨e,H1,J,L⟩
 show ak3 u (χ (z ϵ G e H1 _ J (turn n e H1 L)) λb M O=>?_);let#[H2,x,i]:=O;cases b with
 |true=>
  let#[N,y,i]:=i;rw[if_pos rfl];show ak3 u (χ (B ϵ M e H2 _ x i) λf P j=>?_);cases f with
  |next=>
   let#[a,g,l,m]:=j;let#[m',p,q]:=y a g m;show#[m',p,a,g,l,q]
  |cont=>
   let#[a,g,l,m]:=j;let#[m',p,q]:=y a g m;show#[m',p,a,g,l,q]
  |brk=>show j
  |ret v=>show j
 |false=>
  rw[if_neg aaD];show wpAny_execs_nil #[e,H2,x,i]
structure It where
 go:Nat->Hp->Prop
 yld:Nat->Hp->V->Hp->Prop
 stop:Nat->Hp->Prop
def bW(X:Cx)(ϵ:List (δ×Obj))(H:Hp)(b:δ):Prop:=
 H b=none/\b≠X.env.locals/\b∉X.fs/\(b∈X.ex\/X.s₀.heap.get? b=none)/\(∀x c,X.env.cells.lookup x=↑c->c≠b)/\∀p∈X.pn++ϵ,p.1≠b
def Inv.fpOk{X:Cx}{σ:St}{H H':Hp}{s:μ}{b:δ}(I:Inv X ϵ σ H s)(a:⇑s<=b)(hn:H' b=none):bW X ϵ H' b:=by
 show#[hn,anM (acp I.lt a),I.nofs a,.inr (ajf (ad7 I.sz a)),λx c e z=>?_,λp f z=>?_]
 .let#[v,q]:=I.cell x c e;show absurd (acp q.lt (by rw[z];show a)) (aiF _)
 .show absurd (acp (abA (I.pin p f).1) (by rw[z];show a)) (aiF _)
structure Turn(P:Ϯ)(w:ϭ)(K:Ϩ)(tg:ϩ)(J:It)(fp:List δ)(it:δ)(tn:Nat->ϫ->Prop):Prop where
 mem:it∈fp
 obj:∀i h,tn i h->∀b∈fp,∃o,h.get? b=↑o/\∀v,o.data≠.cell v
 keep:∀i h h',tn i h->(∀b∈fp,∀o,h.get? b=↑o->h'.get? b=↑o)->tn i h'
 item:∀(X:Cx),X.prog=P->X.w=w->X.K=K->X.calm=true->∀(i:Nat)(ϵ:List (δ×Obj))(s:μ)(σ:St)(H:Hp)(E:ε->μ->Prop),Inv X ϵ σ H s->(∀b∈fp,bW X ϵ H b)->tn i s.heap->J.go i H->
  π (ϧ P w) X.A (pyNext (.ref it)) (λr s1=>∃u,r=↑u/\
   π (ϧ P w) X.A (letOwnedTupleGo tg (.ref it) u) (λ_ s2=>∃x H',Inv X ϵ σ H' s2/\RelV x u/\J.yld i H x H'/\tn (i+1) s2.heap/\∀b∈fp,H' b=none) E s1) E s
 done:∀(X:Cx),X.prog=P->X.w=w->X.K=K->X.calm=true->∀(i:Nat)(ϵ:List (δ×Obj))(s:μ)(σ:St)(H:Hp)(E:ε->μ->Prop),Inv X ϵ σ H s->(∀b∈fp,bW X ϵ H b)->tn i s.heap->J.stop i H->
  π (ϧ P w) X.A (pyNext (.ref it)) (λr s1=>r=none/\Inv X ϵ σ H s1) E s
 self:∀(A:ϴ)(i:Nat)(s:μ)(Q:ε->μ->Prop)(E:ε->μ->Prop),tn i s.heap->Q (.ref it) s->π (ϧ P w) A (pyIter (.ref it)) Q E s
abbrev TI:=St->Hp->(It->Hp->Prop)->Prop
def Ca(X:Cx)(ϵ:List (δ×Obj))(σ:St)(tg:ϩ)(R:It->Hp->Prop)(a:ε)(c:μ):Prop:=
 ∃(it:δ)(fp:List δ)(e:Nat->ϫ->Prop)(J:It)(H':Hp),a=.ref it/\Inv X ϵ σ H' c/\Turn X.prog X.w X.K tg J fp it e/\e 0 c.heap/\(∀b∈fp,bW X ϵ H' b)/\R J H'
def PI(X:Cx)(tg iter:ϩ)(a:TI):Prop:=
 ∀(ϵ:List (δ×Obj))(s:μ)(σ:St)(H:Hp)(R:It->Hp->Prop),Inv X ϵ σ H s->a σ H R->
  π ∅ X.A (eval iter X.env) (λv c=>π ∅ X.A (pyIter v) (Ca X ϵ σ tg R) X.xe c) X.xe s
def rB(c:s.heap.get? it=↑o)(e:o.cls=.type n)(hd:o.data=.fields vs)(hn:["enumerate","zip","dict_itemiterator","dict_reverseitemiterator","odict_iterator","itertools.zip_longest","itertools.pairwise"].contains n=false)(a:Q PUnit.unit s):π M A (letOwnedTupleGo tg (.ref it) u) Q E s:=by
 unfold letOwnedTupleGo;cases tg<;>first
  |show ϱ a
  |(cases u<;>first
   |show ϱ a
   |(show ν (wpAny_load c ?_)
     rw[e,hd];show π M A (if(["enumerate","zip","dict_itemiterator","dict_reverseitemiterator","odict_iterator","itertools.zip_longest","itertools.pairwise"].contains n&&vs[0]?==↑(rawInt _))=true then _ else _) Q E s;rw[if_neg (by intro h;rw[hn,apq]at h;cases h)];show ϱ a))
def lH(K:Ϩ)(a:δ):It:=
 #[λi H=>∃xs x,η K H a xs/\xs[i]?=↑x,λi H x H'=>H'=H/\∀xs,η K H a xs->xs[i]?=↑x,λi H=>∃xs,η K H a xs/\↥xs<=i]
def sZ(K:Ϩ)(a:δ):It:=
 #[λi H=>∃xs x,ξ K H a xs/\xs[i]?=↑x,λi H x H'=>H'=H/\∀xs,ξ K H a xs->xs[i]?=↑x,λi H=>∃xs,ξ K H a xs/\↥xs<=i]
def nj(lo:Int)(n:Nat):It:=#[λi _=>i<n,λi H x H'=>H'=H/\x=.int (lo+i),λi _=>n<=i]
theorem aid{P:Ϯ}{w:ϭ}{K:Ϩ}{tg:ϩ}(a it:δ):Turn P w K tg (lH K a) [it] it (λi h=>h.IsListIter it a i)where
 mem:=by simp
 obj:=λi h st b f=>by
  let e:b=it:= ~~~f
  subst e;let#[o,e,c,d]:=st;show#[o,e,λv z=>by rw[d]at z;cases z]
 keep:=λi h h' st k=>st.at λo e=>k it (by simp) o e
 item:=by
  intro X m n q O i ϵ s σ H E I j st y;subst m n q;let#[xs,x,l,B]:=y;let#[Q,D,p,R]:=I.list l;let#[u,S,T]:=D.get B;let#[F,G,U,J,L,M]:=j it (by simp);show wpAny_pyNext_list_item st p.isList (x:=u) (~~~S) λh' g W=>?_
  let Y:Inv X ϵ σ H {s with heap:=h'}:=I.turned (t':=s.toks) (λb o f e=>(W.2 b f).trans e) F G J L M;let#[o,e,c,d]:=id g;show#[u,rfl,rB (s:={s with heap:=h'}) e c d (by decide) #[x,H,Y,T,#[rfl,λys Z=>by rw[I.list_inj Z l];show B],g,λb f=>(j b f).1]]
 done:=by
  intro X m n q O i ϵ s σ H E I j st y;subst m n q;let#[xs,l,B]:=y;let#[Q,D,p,R]:=I.list l;let#[F,G,U,J,L,M]:=j it (by simp);let hl:=↥D;show wpAny_pyNext_list_end (I.ok.hd O) st p.isList (by simp;omega) λh' eb=>#[rfl,I.turned (t':=s.toks) (λb o f e=>eb b o f e) F G J L M]
 self:=λ_ _ _ _ _ st h=>wpAny_pyIter_listiter st h
theorem acE{P:Ϯ}{w:ϭ}{K:Ϩ}{tg:ϩ}(a it:δ):Turn P w K tg (sZ K a) [it] it (λi h=>h.IsTupleIter it a i)where
 mem:=by simp
 obj:=λi h st b f=>by
  let e:b=it:= ~~~f
  subst e;let#[o,e,c,d]:=st;show#[o,e,λv z=>by rw[d]at z;cases z]
 keep:=λi h h' st k=>st.at λo e=>k it (by simp) o e
 item:=by
  intro X m n q Q i ϵ s σ H E I j st y;subst m n q;let#[xs,x,l,B]:=y;let#[D,F,p,R]:=I.tuple l;let#[u,S,T]:=F.get B;let#[G,J,U,L,M,O]:=j it (by simp);show wpAny_pyNext_tuple_item st (show s.heap.IsTuple a D.toArray from p) (x:=u) (~~~S) λh' g W=>?_
  let Y:Inv X ϵ σ H {s with heap:=h'}:=I.turned (t':=s.toks) (λb o f e=>(W.2 b f).trans e) G J L M O;let#[o,e,c,d]:=id g;show#[u,rfl,rB (s:={s with heap:=h'}) e c d (by decide) #[x,H,Y,T,#[rfl,λys Z=>by rw[I.tuple_inj Z l];show B],g,λb f=>(j b f).1]]
 done:=by
  intro X m n q Q i ϵ s σ H E I j st y;subst m n q;let#[xs,l,B]:=y;let#[D,F,p,R]:=I.tuple l;let#[G,J,U,L,M,O]:=j it (by simp);let hl:=↥F;show wpAny_pyNext_tuple_end (I.ok.hd Q) st (show s.heap.IsTuple a D.toArray from p) (by simp;omega) λh' eb=>#[rfl,I.turned (t':=s.toks) (λb o f e=>eb b o f e) G J L M O]
 self:=λ_ _ _ _ _ st h=>wpAny_pyIter_tupleiter st h
theorem aoG{P:Ϯ}{w:ϭ}{K:PySem.W.Frag}{tg:ϩ}(it:δ)(lo:Int)(n:Nat):Turn P w K tg (nj lo n) [it] it (λi h=>IsRangeIter h it (lo+(i:Nat)*1) ((n:Int)-(i:Nat)) 1)where
 mem:=by simp
 obj:=λi h st b a=>by
  let e:b=it:= ~~~a
  subst e;show#[_,st,λv z=>by
   let z':Data.fields _=Data.cell v:=z;cases z']
 keep:=λi h h' st k=>k it (by simp) _ st
 item:=by
  intro X g j l m i ϵ s σ H E I f st p;subst g j l;let#[q,u,D,x,y,B]:=f it (by simp);let W:=Walks.range (prog:=X.prog) (w:=X.w) (I.ok.hd m) it lo 1 n;show W.item i s _ _ p st λv h' tk F c kk=>?_
  let#[t,rfl]:=F;let G:Inv X ϵ σ H {s with heap:=h',toks:=tk}:=I.turned (λb o a e=>kk b o (~~~a) e) q u x y B;show#[_,rfl,rB (s:={s with heap:=h',toks:=tk}) (n:="range_iterator") c rfl rfl (by decide) #[.int (lo+i),H,G,#[t,?_],#[rfl,rfl],c,λb a=>(f b a).1]];rw[Int.mul_one]
 done:=by
  intro X g j l m i ϵ s σ H E I f st p;subst g j l;let#[q,u,D,x,y,B]:=f it (by simp);show wpAny_pyNext_range_end (I.ok.hd m) st (by have:n<=i:=p;omega) λh' J=>#[rfl,I.turned (t':=s.toks) (λb o a e=>J b o a e) q u x y B]
 self:=λ_ _ _ _ _ st h=>wpAny_pyIter_rangeiter st h
def adV{σ:St}{H:Hp}{s:μ}{R:It->Hp->Prop}{E:ε->μ->Prop}{lo hi:Int}{t u v:Tok}{tk:Nat}(I:Inv X ϵ σ H s)(h1: -(2^62)<=lo)(h2:lo<2^62)(c: -(2^62)<=hi)(f:hi<2^62)(q:R (nj lo (hi-lo).toNat) H):π ∅ X.A (pyIter (.ref ⇑s)) (Ca X ϵ σ tg R) E {s with heap:=s.heap.push {cls:=.type "range",data:=.fields #v[.int lo t,.int hi u,.int 1 v]},toks:=tk}:=by
 show wpAny_pyIter_range (IsRange.new ..) (small_one h1 h2 c f) ?_;let a:Inv X ϵ σ H {s with heap:=s.heap.push {cls:=.type "range",data:=.fields #v[.int lo t,.int hi u,.int 1 v]},toks:=tk}:=I.kept λb o e=>ϲ _ e
 show#[(s.heap.push {cls:=.type "range",data:=.fields #v[.int lo t,.int hi u,.int 1 v]}).objs.size,[(s.heap.push {cls:=.type "range",data:=.fields #v[.int lo t,.int hi u,.int 1 v]}).objs.size],_,_,H,rfl,
  a.kept (t':=tk) λb o e=>ϲ _ e,aoG _ lo (hi-lo).toNat,?_,λb g=>?_,q]
 .let e1:lo+((0:Nat):Int)*1=lo:=by simp
  let i:(((hi-lo).toNat:Nat):Int)-((0:Nat):Int)=Builtin.Range.rangeSize lo hi 1:=by rw[rangeSize_one];split <;>omega
  show IsRangeIter _ _ (lo+((0:Nat):Int)*1) ((((hi-lo).toNat:Nat):Int)-((0:Nat):Int)) 1;rw[e1,i];show abj _ rfl
 .let e:b=(s.heap.push {cls:=.type "range",data:=.fields #v[.int lo t,.int hi u,.int 1 v]}).objs.size:= ~~~g
  subst e;show a.fpOk (Ϭ _) (a.hok.fresh (Ϭ _))
def gZ(fp:List δ)(h:ϫ):List (δ×Obj):=fp.filterMap λb=>(h.get? b).map λo=>(b,o)
theorem Cj(a:b∈fp)(e:h.get? b=↑o):(b,o)∈gZ fp h:=alq.mpr #[b,a,by rw[e];rfl]
def ajE(a:p∈gZ fp h):p.1∈fp/\h.get? p.1=↑p.2:=by
 let#[b,c,e]:=alq.mp a;cases q:h.get? b with
 |none=>rw[q]at e;cases e
 |some o=>
  rw[q]at e;let f:(b,o)=p:=Option.some.inj e;subst f;show#[c,q]
theorem Inv.pinned{σ:St}{H:Hp}{s:μ}(I:Inv X ϵ σ H s)(f:∀b∈fp,bW X ϵ H b)(g:∀b∈fp,∃o,s.heap.get? b=↑o/\∀v,o.data≠.cell v):Inv X (ϵ++gZ fp s.heap) σ H s:=
 I.pins_of λp i=>(adH.mp i).elim (λz=>I.pin p (adv _ z)) λz=>by
  let#[a,e]:=ajE z;let#[j,l,m,_]:=f p.1 a;let#[o,c,d]:=g p.1 a;rw[e]at c;cases c;show#[e,j,l,m,d]
theorem Inv.unpinned{σ:St}{H:Hp}{s:μ}(I:Inv X (ϵ++pl) σ H s):Inv X ϵ σ H s:=I.pins_of λp a=>I.pin p (adv _ (agF _ a))
def akO{K:PySem.W.Frag}{a:δ}{g:TG}{tb:TS}{D:Ends}{σ:St}{H:Hp}(c:Nat->St->Hp->Prop)(l:c 0 σ H)(hl:∀i σ H,i<=↥xs->c i σ H->η K H a xs)(hs:∀i x σ H,xs[i]?=↑x->c i σ H->g x σ H λf H2=>tb {D with nx:=c (i+1),ct:=c (i+1),bk:=D.nx} f H2)(hd:∀σ H,c ↥xs σ H->D.nx σ H):∃W:Nat->Nat->St->Hp->Prop,(∃m,W 0 m σ H)/\∀i m σ H,W i m σ H->
   ((lH K a).stop i H/\D.nx σ H)\/((lH K a).go i H/\∃N:St->Hp->Prop,(∀σ' H',N σ' H'->∃m',m'<m/\W (i+1) m' σ' H')/\∀x H',(lH K a).yld i H x H'->g x σ H' λf H2=>tb {D with nx:=N,ct:=N,bk:=D.nx} f H2):=by
 show#[λi m σ H=>m=↥xs-i/\i<=↥xs/\c i σ H,#[↥xs,by simp,aeG _,l],?_]
 rintro i m σ H ⟨rfl,hi,p⟩
 let q:=hl i σ H hi p;by_cases j:i<↥xs
 .show .inr #[#[xs,xs[i],q,by simp[j]],c (i+1),λσ' H' p'=>#[↥xs-(i+1),(),rfl,j,p'],λx H' y=>?_];let#[e,y]:=y;subst e;show hs i x σ _ (y xs q) p
 .let e:i=↥xs:=()
  subst e;show .inl #[#[xs,q,Ϭ _],hd σ H p]
def aoI{K:PySem.W.Frag}{a:δ}{g:TG}{tb:TS}{D:Ends}{σ:St}{H:Hp}(c:Nat->St->Hp->Prop)(l:c 0 σ H)(hl:∀i σ H,i<=↥xs->c i σ H->ξ K H a xs)(hs:∀i x σ H,xs[i]?=↑x->c i σ H->g x σ H λf H2=>tb {D with nx:=c (i+1),ct:=c (i+1),bk:=D.nx} f H2)(hd:∀σ H,c ↥xs σ H->D.nx σ H):∃W:Nat->Nat->St->Hp->Prop,(∃m,W 0 m σ H)/\∀i m σ H,W i m σ H->
   ((sZ K a).stop i H/\D.nx σ H)\/((sZ K a).go i H/\∃N:St->Hp->Prop,(∀σ' H',N σ' H'->∃m',m'<m/\W (i+1) m' σ' H')/\∀x H',(sZ K a).yld i H x H'->g x σ H' λf H2=>tb {D with nx:=N,ct:=N,bk:=D.nx} f H2):=by
 show#[λi m σ H=>m=↥xs-i/\i<=↥xs/\c i σ H,#[↥xs,by simp,aeG _,l],?_]
 rintro i m σ H ⟨rfl,hi,p⟩
 let q:=hl i σ H hi p;by_cases j:i<↥xs
 .show .inr #[#[xs,xs[i],q,by simp[j]],c (i+1),λσ' H' p'=>#[↥xs-(i+1),(),rfl,j,p'],λx H' y=>?_];let#[e,y]:=y;subst e;show hs i x σ _ (y xs q) p
 .let e:i=↥xs:=()
  subst e;show .inl #[#[xs,q,Ϭ _],hd σ H p]
def afn{lo:Int}{g:TG}{tb:TS}{D:Ends}{σ:St}{H:Hp}(a:Nat->St->Hp->Prop)(j:a 0 σ H)(hs:∀i σ H,i<n->a i σ H->g (.int (lo+i)) σ H λc H2=>tb {D with nx:=a (i+1),ct:=a (i+1),bk:=D.nx} c H2)(hd:∀σ H,a n σ H->D.nx σ H):∃W:Nat->Nat->St->Hp->Prop,(∃m,W 0 m σ H)/\∀i m σ H,W i m σ H->
   ((nj lo n).stop i H/\D.nx σ H)\/((nj lo n).go i H/\∃N:St->Hp->Prop,(∀σ' H',N σ' H'->∃m',m'<m/\W (i+1) m' σ' H')/\∀x H',(nj lo n).yld i H x H'->g x σ H' λc H2=>tb {D with nx:=N,ct:=N,bk:=D.nx} c H2):=by
 show#[λi m σ H=>m=n-i/\i<=n/\a i σ H,#[n,by simp,aeG _,j],?_]
 rintro i m σ H ⟨rfl,hi,p⟩
 by_cases f:i<n
 .show .inr #[f,a (i+1),λσ' H' p'=>#[n-(i+1),(),rfl,f,p'],λx H' y=>?_];let#[e,y]:=y;subst e y;show hs i σ _ f p
 .let e:i=n:=()
  subst e;show .inl #[Ϭ _,hd σ H p]
abbrev R2:=V->V->Hp->VK->Prop
def bu(X:Cx)(f:ε->ε->Sem ε)(r:R2):Prop:=
 ∀(ϵ:List (δ×Obj))(s:μ)(σ:St)(H:Hp)(x y:V)(v u:ε)(Q:VK),Inv X ϵ σ H s->RelV x v->RelV y u->r x y H Q->
  π ∅ X.A (f v u) (EP X ϵ σ Q) X.xe s
def zA(X:Cx)(f:ε->Sem ε)(r:V->Hp->VK->Prop):Prop:=
 ∀(ϵ:List (δ×Obj))(s:μ)(σ:St)(H:Hp)(x:V)(v:ε)(Q:VK),Inv X ϵ σ H s->RelV x v->r x H Q->
  π ∅ X.A (f v) (EP X ϵ σ Q) X.xe s
def jk(X:Cx)(f:ε)(r:List V->Hp->VK->Prop):Prop:=
 ∀(ϵ:List (δ×Obj))(s:μ)(σ:St)(H:Hp)(xs:List V)(us:List ε)(Q:VK),Inv X ϵ σ H s->Vals xs us->r xs H Q->
  π ∅ X.A (call f us) (EP X ϵ σ Q) X.xe s
def aei(X:Cx)(r:V->Hp->(Bool->Hp->Prop)->Prop):Prop:=
 ∀(ϵ:List (δ×Obj))(s:μ)(σ:St)(H:Hp)(x:V)(v:ε)(Q:Bool->Hp->Prop),Inv X ϵ σ H s->RelV x v->r x H Q->
  π ∅ X.A (truthy v) (TP X ϵ σ Q) X.xe s
def rI(C:Int->Int->Prop)(g:Int->Int->V):R2:=λx y H Q=>∃i j,x=.int i/\y=.int j/\C i j/\Q (g i j) H
def nu(g:Int->Int->V):R2:=λx y H Q=>∃i j,x=.int i/\y=.int j/\Q (g i j) H
def rU(g:Int->V):V->Hp->VK->Prop:=λx H Q=>∃i,x=.int i/\Q (g i) H
def J1(ha:PE X a ta)(j:PE X b tb){s:μ}{σ:St}{H:Hp}{R:V->V->Hp->Prop}(I:Inv X ϵ σ H s)(h:ta σ H λx H1=>tb σ H1 λy H2=>R x y H2){Q:ε->μ->Prop}{f:ε->ε->Sem ε}(l:∀v u g x y H2,Inv X ϵ σ H2 g->RelV x v->RelV y u->R x y H2->π ∅ X.A (f v u) Q X.xe g):π ∅ X.A (eval a X.env) (λv c=>π ∅ X.A (eval b X.env) (λu e=>π ∅ X.A (f v u) Q X.xe e) X.xe c) X.xe s:=by
 show χ (ha ϵ s σ H _ I h) λv m i=>?_
 let#[x,H1,n,r1,p]:=i;show χ (j ϵ m σ H1 _ n p) λu g i=>?_
 let#[y,H2,q,z,B]:=i;show l v u g x y H2 q r1 z B
def yI{C:Int->Int->Prop}{g:Int->Int->Int}(rule:∀(i j:Int)(t u:Tok)(s:μ)(Q:ε->μ->Prop)(E:ε->μ->Prop),C i j->Q (.int (g i j) s.toks) {s with toks:=s.toks+1}->π ∅ X.A (f (.int i t) (.int j u)) Q E s):bu X f (rI C λi j=>.int (g i j)):=by
 intro ϵ s σ H x y v u Q I rx ry h;let#[i,j,rfl,rfl,a,q]:=h;let#[t,rfl]:=rx;let#[t',rfl]:=ry;show rule i j t t' s _ _ a #[.int (g i j),H,I.tok _,#[_,rfl],q]
def V6{g:Int->Int->Int}(rule:∀(i j:Int)(t u:Tok)(s:μ)(Q:ε->μ->Prop)(E:ε->μ->Prop),Q (.int (g i j) s.toks) {s with toks:=s.toks+1}->π ∅ X.A (f (.int i t) (.int j u)) Q E s):bu X f (nu λi j=>.int (g i j)):=by
 intro ϵ s σ H x y v u Q I rx ry h;let#[i,j,rfl,rfl,q]:=h;let#[t,rfl]:=rx;let#[t',rfl]:=ry;show rule i j t t' s _ _ #[.int (g i j),H,I.tok _,#[_,rfl],q]
def Cv{g:Int->Int->Bool}(rule:∀(i j:Int)(t u:Tok)(s:μ)(Q:ε->μ->Prop)(E:ε->μ->Prop),Q (.bool (g i j)) s->π ∅ X.A (f (.int i t) (.int j u)) Q E s):bu X f (nu λi j=>.bl (g i j)):=by
 intro ϵ s σ H x y v u Q I rx ry h;let#[i,j,rfl,rfl,q]:=h;let#[t,rfl]:=rx;let#[t',rfl]:=ry;show rule i j t t' s _ _ #[.bl (g i j),H,I,rfl,q]
def Vi(i j:Int):Prop:=0<j/\j<1073741824
def W5(i j:Int):Prop:=0<=j/\j<=1000000/\i.natAbs<2^64
def z9(i j:Int):Prop:=(-(2^64)<i/\i<2^64)\/(-(2^64)<j/\j<2^64)
def z9.ok(h:z9 i j):IntMulOk i j:=by
 obtain⟨h1,h2⟩|⟨h1,h2⟩:=h
 .show .of_left (intBits_le_64 h1 h2)
 .show .of_right (intBits_le_64 h1 h2)
theorem afs:bu X (binaryOp .Add) (nu λi j=>.int (i+j)):=V6 λ_ _ _ _ _ _ _ q=>add_int q
theorem anA:bu X (binaryOp .Sub) (nu λi j=>.int (i-j)):=V6 λ_ _ _ _ _ _ _ q=>sub_int q
theorem amZ:bu X (binaryOp .Mult) (rI z9 λi j=>.int (i*j)):=yI λ_ _ _ _ _ _ _ a q=>mul_int q a.ok
theorem agg:bu X (binaryOp .FloorDiv) (rI Vi λi j=>.int (i / j)):=yI λi j _ _ _ _ _ a q=>by
 let h1:(0:Int)<j:=a.1;let h2:j<1073741824:=a.2;show floordiv_int () (by rw[Int.fdiv_eq_ediv_of_nonneg i ()];show q) (.inl (PyProof.noPylong_small ()))
theorem aoC:bu X (binaryOp .Mod) (rI (λ_ j=>0<j) λi j=>.int (i % j)):=yI λi j _ _ _ _ _ a q=>by
 let h1:(0:Int)<j:=a;show mod_int' () (by rw[Int.fmod_eq_emod_of_nonneg i ()];show q)
theorem ali:bu X (binaryOp .Pow) (rI W5 λi j=>.int (i^j.toNat)):=yI λ_ _ _ _ _ _ _ a q=>pow_int_small a.1 a.2.1 a.2.2 q
def unI{g:Int->Int}(rule:∀(i:Int)(t:Tok)(s:μ)(Q:ε->μ->Prop)(E:ε->μ->Prop),Q (.int (g i) s.toks) {s with toks:=s.toks+1}->π ∅ X.A (f (.int i t)) Q E s):zA X f (rU λi=>.int (g i)):=by
 intro ϵ s σ H x v Q I rx h;let#[i,rfl,q]:=h;let#[t,rfl]:=rx;show rule i t s _ _ #[.int (g i),H,I.tok _,#[_,rfl],q]
theorem alA:zA X (unaryOp .USub) (rU λi=>.int (-i)):=unI λ_ _ _ _ _ q=>neg_int q
def uW:V->V->Bool
 |.non,.non=>true|.non,.int _=>true|.int _,.non=>true|.non,.bl _=>true|.bl _,.non=>true|.non,.str _=>true|.str _,.non=>true
 |.int _,.int _=>true|.bl _,.bl _=>true|.str _,.str _=>true|.byt _,.byt _=>true
 |.int _,.str _=>true|.str _,.int _=>true|.bl _,.str _=>true|.str _,.bl _=>true
 |_,_=>false
def rEq:R2:=λx y H Q=>uW x y=true/\Q (.bl (decide (x=y))) H
def rNe:R2:=λx y H Q=>uW x y=true/\Q (.bl (!decide (x=y))) H
def Th:decide (V.int i=V.int j)=(i==j):=by
 rw[ags];simp
def Pu:decide (V.bl i=V.bl j)=(i==j):=by
 rw[ags];simp
def WK:decide (V.str i=V.str j)=(i==j):=by
 rw[ags];simp
def Vx:decide (V.byt i=V.byt j)=(i.toList==j.toList):=by
 rw[ags];cases i;cases j;simp
def ϥ{σ:St}{H:Hp}{s:μ}{Q:VK}{k k':Bool}(I:Inv X ϵ σ H s)(q:Q (.bl k) H)(e:k=k'):EP X ϵ σ Q (.bool k') s:=by
 subst e;show#[.bl k,H,I,rfl,q]
def am6:bu X (adF .Eq) rEq:=by
 intro ϵ s σ H x y v u Q I rx ry h;let#[hs,q]:=h;cases x with
 |non=>
  cases rx;cases y with
  |non=>cases ry;show PySem.EqNone.eq_none_none (ϥ I q (by simp))
  |bl j=>cases ry;show PySem.EqNone.eq_none_bool (ϥ I q (by simp))
  |int j=>let#[t',rfl]:=ry;show PySem.EqNone.eq_none_int (ϥ I q (by simp))
  |str j=>let#[t',rfl]:=ry;show PySem.EqNone.eq_none_str (ϥ I q (by simp))
  |_=>show absurd (show false=true from hs) aaD
 |bl i=>
  cases rx;cases y with
  |non=>cases ry;show PySem.EqNone.eq_bool_none (ϥ I q (by simp))
  |bl j=>cases ry;show eq_bool (ϥ I q Pu)
  |str j=>let#[t',rfl]:=ry;show PySem.EqMixed.eq_bool_str (ϥ I q (by simp))
  |_=>show absurd (show false=true from hs) aaD
 |int i=>
  let#[t,rfl]:=rx;cases y with
  |non=>cases ry;show PySem.EqNone.eq_int_none (ϥ I q (by simp))
  |int j=>let#[t',rfl]:=ry;show eq_int (ϥ I q Th)
  |str j=>let#[t',rfl]:=ry;show PySem.EqMixed.eq_int_str (ϥ I q (by simp))
  |_=>show absurd (show false=true from hs) aaD
 |str i=>
  let#[t,rfl]:=rx;cases y with
  |non=>cases ry;show PySem.EqNone.eq_str_none (ϥ I q (by simp))
  |bl j=>cases ry;show PySem.EqMixed.eq_str_bool (ϥ I q (by simp))
  |int j=>let#[t',rfl]:=ry;show PySem.EqMixed.eq_str_int (ϥ I q (by simp))
  |str j=>let#[t',rfl]:=ry;show eq_str (ϥ I q WK)
  |_=>show absurd (show false=true from hs) aaD
 |byt i=>
  let#[t,rfl]:=rx;cases y with
  |byt j=>let#[t',rfl]:=ry;show W.eq_bytes (ϥ I q Vx)
  |_=>show absurd (show false=true from hs) aaD
 |_=>cases y<;>show absurd (show false=true from hs) aaD
def ajQ:bu X (adF .NotEq) rNe:=by
 intro ϵ s σ H x y v u Q I rx ry h;let#[hs,q]:=h;cases x with
 |non=>
  cases rx;cases y with
  |non=>cases ry;show PySem.EqNone.ne_none_none (ϥ I q (by simp))
  |bl j=>cases ry;show PySem.EqNone.ne_none_bool (ϥ I q (by simp))
  |int j=>let#[t',rfl]:=ry;show PySem.EqNone.ne_none_int (ϥ I q (by simp))
  |str j=>let#[t',rfl]:=ry;show PySem.EqNone.ne_none_str (ϥ I q (by simp))
  |_=>show absurd (show false=true from hs) aaD
 |bl i=>
  cases rx;cases y with
  |non=>cases ry;show PySem.EqNone.ne_bool_none (ϥ I q (by simp))
  |bl j=>cases ry;show ne_bool (ϥ I q (congrArg not Pu))
  |str j=>let#[t',rfl]:=ry;show PySem.EqMixed.ne_bool_str (ϥ I q (by simp))
  |_=>show absurd (show false=true from hs) aaD
 |int i=>
  let#[t,rfl]:=rx;cases y with
  |non=>cases ry;show PySem.EqNone.ne_int_none (ϥ I q (by simp))
  |int j=>let#[t',rfl]:=ry;show ne_int (ϥ I q (congrArg not Th))
  |str j=>let#[t',rfl]:=ry;show PySem.EqMixed.ne_int_str (ϥ I q (by simp))
  |_=>show absurd (show false=true from hs) aaD
 |str i=>
  let#[t,rfl]:=rx;cases y with
  |non=>cases ry;show PySem.EqNone.ne_str_none (ϥ I q (by simp))
  |bl j=>cases ry;show PySem.EqMixed.ne_str_bool (ϥ I q (by simp))
  |int j=>let#[t',rfl]:=ry;show PySem.EqMixed.ne_str_int (ϥ I q (by simp))
  |str j=>let#[t',rfl]:=ry;show ne_str (ϥ I q (congrArg not WK))
  |_=>show absurd (show false=true from hs) aaD
 |byt i=>
  let#[t,rfl]:=rx;cases y with
  |byt j=>let#[t',rfl]:=ry;show W.ne_bytes (ϥ I q (congrArg not Vx))
  |_=>show absurd (show false=true from hs) aaD
 |_=>cases y<;>show absurd (show false=true from hs) aaD
theorem afu:bu X (adF .Lt) (nu λi j=>.bl (decide (i<j))):=Cv λ_ _ _ _ _ _ _ q=>lt_int q
theorem aoe:bu X (adF .LtE) (nu λi j=>.bl (decide (i<=j))):=Cv λ_ _ _ _ _ _ _ q=>le_int q
theorem akW:bu X (adF .Gt) (nu λi j=>.bl (decide (j<i))):=Cv λ_ _ _ _ _ _ _ q=>gt_int q
theorem al5:bu X (adF .GtE) (nu λi j=>.bl (decide (j<=i))):=Cv λ_ _ _ _ _ _ _ q=>ge_int q
def aeE:bu X (adF .Lt) (λx y H Q=>∃i j,x=.str i/\y=.str j/\Q (.bl (decide (i.cps.toList<j.cps.toList))) H):=by
 intro ϵ s σ H x y v u Q I rx ry h;let#[i,j,rfl,rfl,q]:=h;let#[t,rfl]:=rx;let#[t',rfl]:=ry;show lt_str (ϥ I q rfl)
def amO:bu X (adF .In) (λx y H Q=>∃i j,x=.str i/\y=.str j/\Q (.bl (!(Builtin.Str.occurrences j i 0 ↥j 1).isEmpty)) H):=by
 intro ϵ s σ H x y v u Q I rx ry h;let#[i,j,rfl,rfl,q]:=h;let#[t,rfl]:=rx;let#[t',rfl]:=ry;show in_str (ϥ I q rfl)
def ahS:bu X (adF .Is) (λx y H Q=>y=.non/\Q (.bl (decide (x=.non))) H):=by
 intro ϵ s σ H x y v u Q I rx ry h;let#[rfl,q]:=h;cases ry;show is_none_gen (ϥ I q ?_);cases x<;>first
  |(cases rx;rfl)
  |(let#[t,rfl]:=rx;rfl)
def agG:bu X (adF .IsNot) (λx y H Q=>y=.non/\Q (.bl (!decide (x=.non))) H):=by
 intro ϵ s σ H x y v u Q I rx ry h;let#[rfl,q]:=h;cases ry;show isnot_none_gen (ϥ I q ?_);cases x<;>first
  |(cases rx;rfl)
  |(let#[t,rfl]:=rx;rfl)
def PX(b:ϩ)(h:op≠ .In:=by decide)(h2:op≠ .NotIn:=by decide):behindInMarks op b=false:=by
 let e1:(op==CmpOp.In)=false:=by cases op<;>first|rfl|show absurd rfl h
 let a:(op==CmpOp.NotIn)=false:=by cases op<;>first|rfl|show absurd rfl h2
 cases b<;>simp[behindInMarks,e1,a]
def Fq(K:Ϩ)(x:V)(H:Hp)(k:Bool):Prop:=
 match x with
 |.non=>k=false
 |.bl b=>k=b
 |.int i=>k=(i !=0)
 |.str y=>↥y<=ϰ/\k=((↥y:Int) !=0)
 |.byt y=>y.size<=ϰ/\k=((y.size:Int) !=0)
 |.ref p=>(∃xs,η K H p xs/\k= !xs.isEmpty)\/(∃xs,ξ K H p xs/\k= !xs.isEmpty)\/∃Ϸ,H p=↑(.dK Ϸ)/\k= !Ϸ.isEmpty
 |_=>False
def amD{κ:Type}{Ϸ:List (κ×V)}{vs:List (κ×ε)}(r:KV Ϸ vs):(!vs.isEmpty)= !Ϸ.isEmpty:=by
 cases r<;>rfl
def Su{a:List ε}(r:Vals xs a):(!a.toArray.isEmpty)= !xs.isEmpty:=by
 cases r<;>simp
def tO:(ϰ:Nat)<2^63:=by rw[ϯ];decide
def aiu:aei X (λx H Q=>∃k,Fq X.K x H k/\Q k H):=by
 intro ϵ s σ H x v Q I rx h;let#[k,e,q]:=h;let hl:=tO;let hs:ϰ=16777216:=ϯ;cases x with
 |non=>
  cases rx;let a:k=false:=e;subst a;show truthy_none #[H,I,q]
 |bl b=>
  cases rx;let a:k=b:=e;subst a;show ag8 #[H,I,q]
 |int i=>
  let#[t,rfl]:=rx;let a:k=(i !=0):=e;subst a;show PySem.P.truthy_int #[H,I,q]
 |str y=>
  let#[t,rfl]:=rx;obtain⟨j,a⟩:↥y<=ϰ/\k=((↥y:Int) !=0):=e;subst a;show PySem.P.truthy_str () #[H,I.tok _,q]
 |byt y=>
  let#[t,rfl]:=rx;obtain⟨j,a⟩:y.size<=ϰ/\k=((y.size:Int) !=0):=e;subst a;show W.truthy_bytes () #[H,I.tok _,q]
 |ref p=>
  cases rx;let a:(∃xs,η X.K H p xs/\k= !xs.isEmpty)\/(∃xs,ξ X.K H p xs/\k= !xs.isEmpty)\/∃Ϸ,H p=↑(.dK Ϸ)/\k= !Ϸ.isEmpty:=e;obtain⟨xs,f,a⟩|⟨xs,f,a⟩|⟨Ϸ,f,a⟩:=a
  .subst a;let#[l,r,pl,g]:=I.list f;let c:=↥r;show wpAny_truthy_list pl.isList (by simp only[abd];omega) #[H,I.tok _,by rw[Su r];show q]
  .subst a;let#[l,r,pl,g]:=I.tuple f;let c:=↥r;show truthy_tuple pl (by simp only[abd];omega) #[H,I.tok _,by rw[Su r];show q]
  .subst a;obtain⟨g,n,vs,r,m⟩:↥Ϸ<=ϰ/\(p==sysModules)=false/\∃vs,KV Ϸ vs/\s.heap.DictOf (gH X.prog X.w) p vs:=I.hok p _ f;let c:↥Ϸ=↥vs:=Paired.length r;show wpAny_truthy_dict n m () #[H,I.tok _,by rw[amD r];show q]
 |_=>show(show False from e).elim
def aov:bu X (binaryOp .Add) (λx y H Q=>∃i j,x=.str i/\y=.str j/\↥i+↥j<=ϰ/\Q (.str (i++j)) H):=by
 intro ϵ s σ H x y v u Q I rx ry h;let#[i,j,rfl,rfl,a,q]:=h;let#[t,rfl]:=rx;let#[t',rfl]:=ry;show add_str (λt' tk=>#[.str (i++j),H,I.tok _,#[_,rfl],q]) a
def vals1(r:Vals [x] us):∃u,us=[u]/\RelV x u:=by
 cases r with
 |cons r1 a=>cases a;show#[_,rfl,r1]
def vals2(r:Vals [x,y] us):∃u w',us=[u,w']/\RelV x u/\RelV y w':=by
 cases r with
 |cons r1 a=>
  cases a with
  |cons c e=>cases e;show#[_,_,rfl,r1,c]
def amP(c:X.calm=true):jk X (.builtin "max") (λxs H Q=>∃i j,xs=[.int i,.int j]/\Q (.int (if j>i then j else i)) H):=by
 intro ϵ s σ H xs us Q I r h;let#[i,j,rfl,q]:=h;let#[u,e,rfl,#[t,rfl],#[t',rfl]]:=vals2 r;show max_two_ints (I.ok.hd c) λh' tk k=>#[_,H,I.kept k,?_,q]
 by_cases a:j>i
 .rw[if_pos a,if_pos a];show#[_,rfl]
 .rw[if_neg a,if_neg a];show#[_,rfl]
def ae9(c:X.calm=true):jk X (.builtin "min") (λxs H Q=>∃i j,xs=[.int i,.int j]/\Q (.int (if j<i then j else i)) H):=by
 intro ϵ s σ H xs us Q I r h;let#[i,j,rfl,q]:=h;let#[u,e,rfl,#[t,rfl],#[t',rfl]]:=vals2 r;show min_two_ints (I.ok.hd c) λh' tk k=>#[_,H,I.kept k,?_,q]
 by_cases a:j<i
 .rw[if_pos a,if_pos a];show#[_,rfl]
 .rw[if_neg a,if_neg a];show#[_,rfl]
def alF:jk X (.type "int") (λxs H Q=>(∃i,xs=[.int i]/\Q (.int i) H)\/∃k,xs=[.bl k]/\Q (.int (if k then 1 else 0)) H):=by
 intro ϵ s σ H xs us Q I r h;obtain⟨i,rfl,q⟩|⟨k,rfl,q⟩:=h
 .let#[u,rfl,t,rfl]:=vals1 r;show call_int_int #[.int i,H,I,#[_,rfl],q]
 .let#[u,rfl,r1]:=vals1 r;cases r1;show call_int_bool #[.int (if k then 1 else 0),H,I.tok _,#[_,rfl],q]
def ajL:jk X (.type "str") (λxs H Q=>∃i,xs=[.int i]/\i.natAbs.log2<1920/\Q (.str (toString i)) H):=by
 intro ϵ s σ H xs us Q I r h;let#[i,rfl,a,q]:=h;let#[u,rfl,t,rfl]:=vals1 r;show PySem.P.str_of_int a #[.str _,H,I.tok _,#[_,rfl],q]
structure pY(h:ϫ)(x dx C:δ)(mA:MG):Prop where
 obj:h.get? x=↑(ark C dx)
 ns:h.Ns1 dx mA
 ne:dx≠x
def Rh{h:ϫ}{mA:MG}(n:h.Ns1 dx mA):∃od,h.get? dx=↑od/\∀name,atO name od=↑(mA name):=by
 let#[o,es,ep,f,hd,g,_,i]:=n;show#[o,f,λname=>?_];let e:=i name;unfold nsFind findBy at e;rw[<-as9]at e;unfold atO;rw[hd];dsimp only;split
 .rename_i y q;rw[q]at e;show congrArg some e
 .rename_i q;rw[q]at e;let a:es.toList.any (·.refKey)=false:=by
   rw[List.any_eq_false];intro y j;let#[z,t,c]:=g y (Array.mem_toList_iff.mp j);simp[DictEntry.refKey,c]
  let l:¬es.toList.any (·.refKey)=true:=by rw[a];show aaD
  rw[if_neg l];show congrArg some e
theorem pY.look(I:pY h x dx C mA):∃od,atP h x (ark C dx) C ↑od/\∀name,atO name od=↑(mA name):=
 let⟨od,ho,hl⟩:=Rh I.ns
 #[od,#[I.obj,rfl,rfl,ho],hl]
section
variable{prog:Ϯ}{w:ϭ}{A:ϴ}{E:ε->μ->Prop}{s:μ}{K:Ϩ}{x dx C f:δ}{mA:MG}{name:Str}{v:ε}
def get_map(X:K.In s.heap)(I:pY s.heap x dx C mA)(e:ar7 K C name=true)(hh:anO K C=true)(ha:aeL K (.ref C) name=↑none)(f:mA name=↑v)(c:at6 v=true)(h:Q v {s with toks:=s.toks+1}):π (ϧ prog w) A (getAttr (.ref x) name a) Q E s:=by
 let#[od,J,hl]:=I.look;show W.get_value X J (ata e).1 (at9 hh ha rfl (by rw[hl,f])) c h
def alX(X:K.In s.heap)(I:pY s.heap x dx C mA)(a:ar7 K C name=true)(c:aeL K (.ref C) name=some ↑(.ref f))(e:atb K (.ref f)=true)(g:mA name=none)(h:Q (.ref f,[.ref x]) s):π (ϧ prog w) A (getMethod (.ref x) name pl) Q E s:=by
 let#[od,J,hl]:=I.look;show W.method_fn X J (ata a).1 (ata a).2 c (beq_iff_eq.mp e) (by show(atO name od).map (·.isSome)=↑false;rw[hl,g];rfl) h
def ahW(X:K.In s.heap)(I:pY s.heap x dx C mA)(hs:aeL K (.ref C) "__setattr__"=some ↑(.builtin "object.__setattr__"))(l:asB K C=true)(m:asd K C name=↑none)(hh:anO K C=true)(n:PySem.Within mA ns)(hsz:↥ns<=ϰ)(h:∀h',pY h' x dx C (λy=>if y=name then some v else mA y)->ak7 dx s.heap h'->Q PUnit.unit {s with heap:=h',toks:=s.toks+2}):π (ϧ prog w) A (setAttr (.ref x) name v) Q E s:=by
 let#[od,J,hl]:=I.look;show W.set_plain X J hs (W.osa_open (s:={s with toks:=s.toks+1}) (r:=none) X J l m λb=>?_);let#[cd,p,f]:=W.any_some hh;let q:s.heap.get? x=some #[.ref C,↑dx,.plain, #v[]]:=I.obj;show ν (ϱ (ν (ν (wpAny_loadPart q (ν (W.Looks.here (s:={s with toks:=s.toks+1}) (atc X p) ?_))))));rw[f];show ϱ (a:=↑dx) (ν (ϱ (ν ?_)))*>wpAny_nsSet1 (s:={s with toks:=s.toks+1}) I.ns λh' c e=>?_
 let#[B,u,z,g,i,j]:=c.count (PySem.Within.cons name v n);show ν (wpAny_lookBehind g (by rw[i];show pastItsLine_dict (ad7 j (by rw[acD];omega))) ?_)*>ϱ (h _ #[(e.2 _ (Ne.symm I.ne))<|>I.obj,c,I.ne] e)
def af3(X:K.In s.heap)(a:atQ K C=true)(hi:aeL K (.ref C) "__init__"=some ↑(.ref f))(c:ar0 K (.ref f)=↑(.type "function"))(h:codeAny (ϧ prog w) (A.under (.builtin "type.__call__" #[.ref C::vs,kw])) (.call (.ref f) #[.ref (⇑s+1)::vs,kw]) (W.InitBack (⇑s+1) R)
   {s with heap:=(s.heap.push amj).push (ark C ⇑s)}):codeAny (ϧ prog w) A (.call (.ref C) #[vs,kw]) R s:=by
 let#[hh,g,d,t,os]:=s;show W.make_core (W.makes_of X a) (asp X hi) (λself=>W.bind_fn X self c) (.inl rfl) h
end
def az(f:Str)(v:V):List (Str×V)->List (Str×V)
 |[]=>[(f,v)]
 |(g,x)::r=>if g=f then(g,v)::r else(g,x)::az f v r
theorem Oo(f g:Str)(v:V):∀fs:List (Str×V),(az f v fs).lookup g=if g=f then some v else fs.lookup g
 |[]=>by
  show ahE g [(f,v)]=_;by_cases h:g=f
  .let a:(g==f)=true:=beq_iff_eq.mpr h;simp only[ahE,a,if_pos h]
  .let a:(g==f)=false:=beq_eq_false_iff_ne.mpr h;simp only[ahE,a,if_neg h]
 |(k,x)::r=>by
  let i:=Oo f g v r;rw[show az f v ((k,x)::r)=(if k=f then(k,v)::r else(k,x)::az f v r)from rfl];by_cases c:k=f
  .rw[if_pos c];by_cases h:g=k
   .let a:(g==k)=true:=beq_iff_eq.mpr h;simp only[ahE,a,if_pos (h<|>c)]
   .let a:(g==k)=false:=beq_eq_false_iff_ne.mpr h;simp only[ahE,a,if_neg (λe:g=f=>h (e<|>c.symm))]
  .rw[if_neg c];by_cases h:g=k
   .let a:(g==k)=true:=beq_iff_eq.mpr h;simp only[ahE,a,if_neg (λe:g=f=>c (h.symm<|>e))]
   .let a:(g==k)=false:=beq_eq_false_iff_ne.mpr h;simp only[ahE,a];show i
theorem Ft(f:Str)(v:V):∀fs:List (Str×V),f∈(az f v fs).map (·.1)/\∀g,g∈fs.map (·.1)->g∈(az f v fs).map (·.1)
 |[]=>#[by simp[az],λg h=>by simp at h]
 |(k,x)::r=>by
  let#[c,i]:=Ft f v r;rw[show az f v ((k,x)::r)=(if k=f then(k,v)::r else(k,x)::az f v r)from rfl];by_cases a:k=f
  .rw[if_pos a];subst a;show#[by simp,λg h=>~~~h]
  .rw[if_neg a];show#[?_,λg h=>?_]
   .rw[acY];show abF _ c
   .rw[acY]at h⊢;obtain e|e:=aaB.mp h
    .show aaB.mpr (.inl e)
    .show abF _ (i g e)
theorem uh(f:Str)(v:V):∀fs:List (Str×V),↥(az f v fs)<=↥fs+1
 |[]=>by simp[az]
 |(k,x)::r=>by
  let c:=uh f v r;rw[show az f v ((k,x)::r)=(if k=f then(k,v)::r else(k,x)::az f v r)from rfl];by_cases a:k=f
  .rw[if_pos a,acD,acD];omega
  .rw[if_neg a,acD,acD];omega
def dj.some_of(r:dj ↑v o):∃u,o=↑u/\RelV v u:=by
 cases o with
 |none=>show(show False from r).elim
 |some u=>show#[u,rfl,r]
def dj.none_of(r:dj none o):o=none:=by
 cases o with
 |none=>rfl
 |some u=>show(show False from r).elim
def aji(r:RelV v u):at6 u=true:=by
 cases v with
 |non=>cases(show u=Value.none from r);rfl
 |bl b=>cases(show u=Value.bool b from r);rfl
 |int i=>let#[t,e]:=(show ∃t,u=Value.int i t from r);cases e;rfl
 |str x=>let#[t,e]:=(show ∃t,u=Value.str x t from r);cases e;rfl
 |byt b=>let#[t,e]:=(show ∃t,u=Value.bytes b t from r);cases e;rfl
 |flt b=>let#[t,e]:=(show ∃t,u=Value.float b t from r);cases e;rfl
 |ref a=>cases(show u=Value.ref a from r);rfl
 |ty n=>cases(show u=Value.type n from r);rfl
def zV(hok:aG P w H h)(e:H a=↑(.ins C dx fs)):∃mA,pY h a dx C mA/\(∀f,dj (fs.lookup f) (mA f))/\PySem.Within mA (fs.map (·.1))/\↥fs<=1000/\H dx=↑(.own a):=by
 let#[d,z,ne,c,mA,n,r,q]:=(show ώ P w H h a (.ins C dx fs)from hok a _ e);show#[mA,#[c,n,ne],r,q,z,d]
theorem Ϣ.get{K:Ϩ}(c:Ϣ K C)(f:Str):ar7 K C f=true:=c.pg
def Ϗ.taker{K:Ϩ}{f:Str}(n:Ϗ K C f):asd K C f=↑none:=by
 unfold asd;rw[show aeL K (.ref C) f=↑none from n];rfl
section
variable{X:Cx}{ϵ:List (δ×Obj)}{σ:St}{H:Hp}{s:μ}{a C dx:δ}{fs:List (Str×V)}{f:Str}{v:V}{A:ϴ}{E:ε->μ->Prop}
def Tv(I:Inv X ϵ σ H s)(e:H a=↑(.ins C dx fs))(c:Ϣ X.K C)(n:Ϗ X.K C f)(l:fs.lookup f=↑v)(h:∀u s',Inv X ϵ σ H s'->RelV v u->Q u s'):π ∅ A (getAttr (.ref a) f b) Q E s:=by
 let#[mA,O,r,_,_,_]:=zV I.hok e;let#[u,i,g]:=dj.some_of (v:=v) (o:=mA f) (by rw[<-l];show r f);show get_map I.kIn O (c.get f) c.hd n i (aji g) (h u _ (I.tok _) g)
def Q9(I:Inv X ϵ σ H s)(e:H a=↑(.ins C dx fs))(c:Ϣ X.K C)(k:Meth X.K C m g)(l:fs.lookup m=none)(h:Q (.ref g,[.ref a]) s):π ∅ A (getMethod (.ref a) m pl) Q E s:=by
 let#[mA,O,r,_,_,_]:=zV I.hok e;let hn:mA m=none:=dj.none_of (by rw[<-l];show r m);show alX I.kIn O (c.get m) k.at_ k.fn hn h
def aa1(I:Inv X ϵ σ H s)(e:H a=↑(.ins C dx fs))(c:Ϣ X.K C)(n:Ϗ X.K C f)(hl:↥fs<1000)(ry:RelV y u)(h:∀s',Inv X ϵ σ (upd H a (.ins C dx (az f y fs))) s'->Q PUnit.unit s'):π ∅ A (setAttr (.ref a) f u) Q E s:=by
 let#[mA,O,r,j,_,l]:=zV I.hok e;let m:(fs.map (·.1)).length<=ϰ:=by rw[aaw,ϯ];omega
 show ahW I.kIn O c.sa c.po n.taker c.hd j m λh' i p=>h _ ?_
 let hd:∃o,h'.get? dx=↑o:=let⟨o,_,_,e',_⟩:=i.ns;#[o,e'];show I.write (x:=a) (e:=dx) (by rw[e];show True.intro) (.inr l) (λb q v z=>(p.2 b v).trans z) hd ?_*>#[by rw[θ O.ne];show l,?_,O.ne,i.obj,_,i.ns,λg=>?_,λg B=>?_]
 .have :=uh f y fs;omega
 .show dj ((az f y fs).lookup g) (if g=f then some u else mA g);rw[Oo];by_cases q:g=f
  .rw[if_pos q,if_pos q];show ry
  .rw[if_neg q,if_neg q];show r g
 .by_cases q:g=f
  .rw[q];show(Ft f y fs).1
  .show(Ft f y fs).2 g (j g λz=>B ?_);show(if g=f then some u else mA g)=none;rw[if_neg q];show z
def Inv.made(I:Inv X ϵ σ H s):Inv X ϵ σ (upd (upd H ⇑s (.own (⇑s+1))) (⇑s+1) (.ins C ⇑s []))
  {s with heap:=(s.heap.push amj).push (ark C ⇑s)}:=by
 let e1:(s.heap.push amj).get? ⇑s=↑amj:=abj s.heap rfl;let c:((s.heap.push amj).push (ark C ⇑s)).get? (⇑s+1)=↑(ark C ⇑s):=by
  have:=abj (s.heap.push amj) (o:=ark C ⇑s) rfl
  rwa [ajp]at this
 let f:(s.heap.push amj).Ns ⇑s (λ_=>none):=#[amj, #v[],_,e1,rfl,(λe g=>absurd g (by simp)),λ_=>rfl];let i:=I.laid (a:=⇑s) (o:=.own (⇑s+1)) (h':=s.heap.push amj) (t':=s.toks) (λb u q=>ϲ _ q) (Ϭ _) #[_,e1];show i.laid (a:=⇑s+1) (o:=.ins C ⇑s []) (t':=s.toks) (λb u q=>ϲ _ q) (anR (ajp _ _)) ?_;let ne:⇑s≠⇑s+1:=acu (atv _);show#[by rw[θ ne,ς],aeG _,ne,c,λ_=>none,(Heap.Ns1.of_empty f).at λo q=>ϲ _ q,λ_=>True.intro,λy j=>absurd rfl j]
theorem Rp(c:attributeBase e f env (eval e env)=eval e env)(h:π (ϧ prog w) A (eval e env) (λo a=>π (ϧ prog w) A (getAttr o f true) Q E a) E s):π (ϧ prog w) A (eval (.Attribute e f pos) env) Q E s:=
 Attribute_any_ h (by rw[arm_eval_Attribute,c])
end
def ahv(K:Ϩ)(ta tv:TE)(f:Str):TS:=λD σ H=>tv σ H λy H1=>ta σ H1 λx H2=>∃a C dx fs,x=.ref a/\H2 a=↑(.ins C dx fs)/\Ϣ K C/\Ϗ K C f/\↥fs<1000/\
 D.nx σ (upd H2 a (.ins C dx (az f y fs)))
def Nh(X:Cx)(op:Operator)(rd:V->V->Hp->VK->Prop):Prop:=
 ∀(ϵ:List (δ×Obj))(s:μ)(σ:St)(H:Hp)(x y:V)(u v:ε)(Q:VK),Inv X ϵ σ H s->RelV x u->RelV y v->rd x y H Q->π ∅ X.A (inplaceOp op u v) (EP X ϵ σ Q) X.xe s
def anx(K:Ϩ)(ta tv:TE)(rd:V->V->Hp->VK->Prop)(f:Str):TS:=λD σ H=>ta σ H λx H1=>∃a C dx fs v,x=.ref a/\H1 a=↑(.ins C dx fs)/\Ϣ K C/\Ϗ K C f/\fs.lookup f=↑v/\
 tv σ H1 λy H2=>rd v y H2 λz e=>∃c fs',e a=↑(.ins C c fs')/\↥fs'<1000/\D.nx σ (upd e a (.ins C c (az f z fs')))
def af6(ha:PE X o ta)(e:PE X value tv)(hs:apg value ↑(.Attribute o f pos') pos.line X.env=pure false):PS X (.Assign [.Attribute o f pos'] value pos) (ahv X.K ta tv f):=by
 intro ϵ s σ H D I h;show plainObj_wpAny_Assign_Attribute (χ (e ϵ s σ H _ I h) λu g _u=>_Z.e23 _u λy H1 i ry q=>χ (ha ϵ g σ H1 _ i q) λj E m=>?_) hs;let#[x,H2,p,rx,a,C,dx,fs,ex,v,c,n,l,z]:=m;subst ex;obtain rfl:j=Value.ref a:=rx;show aa1 p v c n l ry λF B=>#[σ,_,B,z]
def alY(ha:PE X o ta)(j:PE X value tv)(e:Nh X op rd):PS X (.AugAssign (.Attribute o f tpos) op value pos) (anx X.K ta tv rd f):=by
 intro ϵ s σ H D I h;show wpAny_AugAssign_AttributeAny (χ (ha ϵ s σ H _ I h) λm U g=>?_);let#[x,H1,p,rx,a,C,dx,fs,v,ex,B,c,n,l,q]:=g;subst ex;obtain rfl:m=Value.ref a:=rx;show Tv p B c n l λu E F G=>χ (j ϵ E σ H1 _ F q) λJ L _u=>_Z.e23 _u λy H2 M ry O=>χ (e ϵ L σ H2 v y u J _ M G ry O) λW Y g=>?_
 let#[z,Z,P,Q,R,fs',i,l',S]:=g;show aa1 P i c n l' Q λs5 T=>#[σ,_,T,S]
def Zv:V->V->Hp->VK->Prop:=λx y H Q=>∃i j,x=.int i/\y=.int j/\Q (.int (i+j)) H
def amA:Nh X .Add Zv:=by
 rintro ϵ s σ H x y u v Q I rx ry ⟨i,j,rfl,rfl,q⟩
 let#[t,rfl]:=(show ∃t,u=Value.int i t from rx);let#[t',rfl]:=(show ∃t',v=Value.int j t' from ry);show PyProof.Rows.iadd_int #[.int (i+j),H,I.tok _,#[_,rfl],q]
section
variable{X:Cx}{ϵ:List (δ×Obj)}{σ:St}{H:Hp}{s:μ}{A:ϴ}{E:ε->μ->Prop}{Q:ε->μ->Prop}{c:ε}{b:Bool}
def alg(I:Inv X ϵ σ H s)(rx:RelV x u)(ty:d9 X.K H x t)(e:atd X.K t c=↑b)(h:∀tk,Q (.bool b) {s with toks:=tk}):π ∅ A (call (.builtin "isinstance") [u,c]) Q E s:=by
 cases ty with
 |non=>cases(show u=Value.none from rx);show aqx W.kitx_none I.kIn True.intro e (λz=>nomatch z) h
 |bl y=>cases(show u=Value.bool y from rx);show aqx W.kitx_bool I.kIn True.intro e (λz=>nomatch z) h
 |int i=>let#[t,q]:=(show ∃t,u=Value.int i t from rx);cases q;show aqx W.kitx_int I.kIn True.intro e (λz=>nomatch z) h
 |str y=>let#[t,q]:=(show ∃t,u=Value.str y t from rx);cases q;show aqx W.kitx_str I.kIn True.intro e (λz=>nomatch z) h
 |flt y=>let#[t,q]:=(show ∃t,u=Value.float y t from rx);cases q;show aqx W.kitx_float I.kIn True.intro e (λz=>nomatch z) h
 | @lst a xs f=>
   cases(show u=Value.ref a from rx);let#[_,_,n,_,h1]:=(show ώ X.prog X.w H s.heap a (.lst xs)from I.hok a _ f);show aqx W.kitx_list I.kIn #[_,h1,rfl] e (λz=>nomatch z) h
 | @frz a j xs f=>
   cases(show u=Value.ref a from rx);let#[_,_,_,n,_,h1]:=(show ώ X.prog X.w H s.heap a (.frz j (.lst xs))from I.hok a _ f);show aqx W.kitx_list I.kIn #[_,h1,rfl] e (λz=>nomatch z) h
 | @tup a xs f=>
   cases(show u=Value.ref a from rx);let#[_,_,_,p]:=(show ώ X.prog X.w H s.heap a (.tup xs)from I.hok a _ f);let#[o,h1,h2,_]:=p;show aqx W.kitx_tuple I.kIn #[o,h1,h2] e (λz=>nomatch z) h
 | @dK a Ϸ f=>
   cases(show u=Value.ref a from rx);let#[_,_,vs,_,p]:=(show ώ X.prog X.w H s.heap a (.dK Ϸ)from I.hok a _ f);let#[o,es,ep,h1,h2,_]:=p;show aqx W.kitx_dict I.kIn #[o,h1,h2.1] e (λz=>nomatch z) h
 | @ins a C dx fs f cl ha hn g l=>
   cases(show u=Value.ref a from rx);let#[mA,O,_]:=zV I.hok f;let#[od,J,_]:=O.look;show aqx (W.kitx_own (cl.get _) cl.hd ha hn g l) I.kIn J e (λz=>nomatch z) h
end
theorem ϗ.mono(r:ϗ cc k A)(h:j<=k):ϗ cc j A:=#[r.hd,by have:=r.dp;omega,by have:=r.un;omega]
theorem ϗ.deeper(r:ϗ cc (k+1) A)(env:Env):ϗ cc k (A.deeper env):=
 #[r.hd,by have:=r.dp;show A.depth+1+3*k+5<_;omega,by have:=r.un;show A.units+3+16*k+200<_;omega]
theorem ϗ.in1(r:ϗ cc (k+1) A):ϗ cc k A.in1:=
 #[r.hd,by have:=r.dp;show A.depth+3*k+5<_;omega,by have:=r.un;show A.units+1+16*k+200<_;omega]
def acM{A:ϴ}{C:δ}:(A.under (.builtin "type.__call__" #[.ref C::us,kw])).depth=A.depth+1:=by
 first|rfl|simp[Around.under,Code.weight,Code.isCreation,Code.isGuard,Code.isCaller,Code.frames,Code.isFrame,guardIds]
def ajg{A:ϴ}{C:δ}:(A.under (.builtin "type.__call__" #[.ref C::us,kw])).units=A.units+1:=by
 first|rfl|simp[Around.under,Code.cUnits,Code.frames,Code.isFrame]
theorem ϗ.make(r:ϗ cc (k+1) A)(C:δ)(us:List ε)(kw:List (Str×ε)):ϗ cc k (A.under (.builtin "type.__call__" #[.ref C::us,kw])):=
 #[r.hd,by have:=r.dp;rw[acM];omega,by have:=r.un;rw[ajg];omega]
def ϗ.depth(r:ϗ cc k A):A.depth<recursionLimit:=by have:=r.dp;omega
def ϗ.units(r:ϗ cc k A):A.units+64<cLine:=by have:=r.un;omega
def ϗ.units0(r:ϗ cc k A):A.units<cLine:=by have:=r.un;omega
theorem dF.mono{P:Ϯ}{w:ϭ}{K:Ϩ}{mg:MG}{base:ϫ}{CX:gO}{j k:Nat}{f:δ}{fd:aik}{sp:Sp}(F:dF P w K mg base CX cc j f fd ps sp)(h:j<=k):dF P w K mg base CX cc k f fd ps sp:=#[F.len,λA outer s H a us vs Q E c=>F.run A outer s H a us vs Q E (c.mono h)]
theorem nO.make{P:Ϯ}{w:ϭ}{K:Ϩ}{mg:MG}{base:ϫ}{A:ϴ}{s:μ}{H:Hp}(e:nO P w K mg base A outer s H)(C:δ)(us:List ε)(kw:List (Str×ε)):nO P w K mg base (A.under (.builtin "type.__call__" #[.ref C::us,kw])) outer s H:=#[by first|show e.frames|(simpa [Around.under,Code.envs,Code.isFrame,pushEnvs]using e.frames),e.mod,e.bs,e.bsz,e.funs,e.frf,e.hok,e.bare]
section
variable{X:Cx}{ϵ:List (δ×Obj)}{σ:St}{H:Hp}{s s':μ}
theorem Inv.env0(I:Inv X ϵ σ H s):nO X.prog X.w X.K X.mg X.base X.A X.stack s H:=
 #[I.ok.frames,I.ok.mod,I.bs,ad7 I.ok.bsz I.sz,I.stack,I.stkFree,I.hok,I.bare]
def Inv.after(I:Inv X ϵ σ H s)(h:CE X.stack X.prog X.w H s Q u s'):EP X ϵ σ Q u s':=by
 let#[v,H',os,bare,un,hok,r,q]:=h;let#[hh,g,d,t,a]:=s';obtain rfl:a=s.os:=os;show#[v,H',I.call (h':=hh) (g':=g) (d':=d) (t':=t) (ch:=[]) un hok bare (λb z=>absurd z (by simp)),r,q]
end
def Binds(K:Ϩ)(fd:aik)(ps:List Str)(ds:List ε):Prop:=
 ∀(s:μ)(us:List ε),K.In s.heap->↥(us++ds)=↥ps->BindsTo s fd #[us,[]] (ps.zip (us++ds))
theorem Binds.all{K:Ϩ}{fd:aik}(h:∀us:List ε,↥us=↥ps->bindArgs fd #[us,[]]=pure (ps.zip us)):Binds K fd ps []:=λs us _ hl=>by
 rw[alR]at hl⊢;show .of_eq (h us hl)
structure Ξ(N P:List Str)(sc:ahx):Prop where
 kind:sc.kind=.function
 co:sc.isCoroutine=false
 gen:sc.isGenerator=false
 nd:N.Nodup
 pre:N.take ↥P=P
 par:∀x∈P,sc.names.lookup x=↑.local\/sc.names.lookup x=↑.cell
 nofree:∀y∈sc.names,y.2≠.free
theorem aad{kindOf:Str->Option aqL}:∀{binds:List (Str×ε)}{m:MG},(∀v,(x,v)∉binds)->bindL kindOf binds m x=m x
 |[],_,_=>rfl
 |(n,v)::r,m,h=>by
  unfold bindL;rw[aad λw a=>h w (abF _ a)];split
  .have :x≠n:=by rintro rfl;show h v ad8
   simp[this]
  .rfl
theorem RG{kindOf:Str->Option aqL}:∀{binds:List (Str×ε)}{m:MG},(∀v,(x,v)∉binds)->bindC kindOf binds m x=m x
 |[],_,_=>rfl
 |(n,v)::r,m,h=>by
  unfold bindC;rw[RG λw a=>h w (abF _ a)];split
  .rfl
  .have :x≠n:=by rintro rfl;show h v ad8
   simp[this]
theorem abC{kindOf:Str->Option aqL}:∀{P:List Str}{vs:List ε}{i:Nat}{m:MG},P.Nodup->P[i]?=↑x->vs[i]?=↑v->kindOf x=↑.local->
  bindL kindOf (P.zip vs) m x=↑v
 |[],_,_,_,_,h,_,_=>by simp at h
 |_::_,[],_,_,_,_,h,_=>by simp at h
 |p::P,w::vs,0,m,nd,h1,h2,a=>by
  simp at h1 h2;subst h1;subst h2;show bindL kindOf ((p,w)::P.zip vs) m p=_;unfold bindL;rw[aad λv c=>(aiP.mp nd).1 (asL c).1,if_pos a];simp
 |p::P,w::vs,i+1,m,nd,h1,h2,a=>by
  show bindL kindOf ((p,w)::P.zip vs) m x=_;unfold bindL;show abC (i:=i) (aiP.mp nd).2 (~~~h1) (~~~h2) a
theorem Zf{kindOf:Str->Option aqL}:∀{P:List Str}{vs:List ε}{i:Nat}{m:MG},P.Nodup->P[i]?=↑x->vs[i]?=↑v->kindOf x≠↑.local->
  bindC kindOf (P.zip vs) m x=↑v
 |[],_,_,_,_,h,_,_=>by simp at h
 |_::_,[],_,_,_,_,h,_=>by simp at h
 |p::P,w::vs,0,m,nd,h1,h2,a=>by
  simp at h1 h2;subst h1;subst h2;show bindC kindOf ((p,w)::P.zip vs) m p=_;unfold bindC;rw[RG λv c=>(aiP.mp nd).1 (asL c).1,if_neg a];simp
 |p::P,w::vs,i+1,m,nd,h1,h2,a=>by
  show bindC kindOf ((p,w)::P.zip vs) m x=_;unfold bindC;show Zf (i:=i) (aiP.mp nd).2 (~~~h1) (~~~h2) a
def start(N:List Str)(vs:List V):St:=vs.map some++ahh (↥N-↥vs) none
def mR(cc:Bool)(CX:gO)(P:Ϯ)(w:ϭ)(K:Ϩ)(mg:MG)(base:ϫ)(N:List Str)(qual:Str)(scope:ahx)(f:δ)(cd:ε)(A:ϴ)(outer:List Env)(s:μ)(H:Hp)(E:XK):Cx where
 prog:=P
 w:=w
 K:=K
 mg:=mg
 base:=base
 A:=A.deeper (envOfC qual scope ⇑s f cd)
 N:=N
 s₀:=s
 H₀:=H
 env:=envOfC qual scope ⇑s f cd
 outer:=outer
 stack:=envOfC qual scope ⇑s f cd::outer
 ex:=[]
 calm:=cc
 fn:=λ_=>true
 pn:=[]
 xe:=λe s'=>π (ϧ P w) (A.deeper (envOfC qual scope ⇑s f cd)) (leaving (envOfC qual scope ⇑s f cd) e) (λ_ a=>CX outer H s E e a) (λc a=>CX outer H s E c a) s'
def Zm{sc:ahx}{x:Str}(h:sc.names.lookup x=↑.cell):∃c,(cellsFrom n sc.names []).lookup x=↑c:=by
 let q:=atw sc.names n [] (.inl h);show aqo.mp q
def amn{CX:gO}{P:Ϯ}{w:ϭ}{K:Ϩ}{mg:MG}{base:ϫ}{qual:Str}{scope:ahx}{f:δ}{cd:ε}{A:ϴ}{s s1:μ}{H:Hp}{E:XK}(S:Ξ N ps scope)(hd:cc=true->A.handled=none)(g:nO P w K mg base A outer s H)(hl:↥vs=↥ps)(r:Vals vs us)(x:InCallC s ⇑s (bindL (envOfC qual scope ⇑s f cd).kindOf (ps.zip us) λ_=>none) (cellsFrom (⇑s+1) scope.names []) (bindC (envOfC qual scope ⇑s f cd).kindOf (ps.zip us) λ_=>none) s1):Inv (mR cc CX P w K mg base N qual scope f cd A outer s H E) [] (start N vs) H s1:=by
 let F:↥ps<=↥N:=by have:=congrArg apW S.pre;rw[adn]at this;omega
 let#[h1,tk,rfl,B]:=x.done;let j:∀b:δ,b∉(mR cc CX P w K mg base N qual scope f cd A outer s H E).ex:=λb z=>absurd (show b∈([]:List δ)from z) (by simp)
 show#[#[g.mod,S.kind,rfl,rfl,Ϭ _,λy z c h1 h2=>?_,λy hy=>?_,λy c _ h=>?_,hd,Around.frames_deeper g.frames,.inr #[rfl,rfl],λb z=>absurd z (j b),g.bs,g.bsz,λb _ _=>j b,λb z=>absurd z (j b),g.funs,g.frf],
  rfl,g.bare,Un.kept B,#[_,x.toInCall.ns,λi y v h1 h2 I=>?_],λy c h=>#[_,x.cell y c h],g.hok.fresh (Ϭ _),λy c h=>?_,λp l=>absurd (show p∈([]:List (δ×Obj))from l) (by simp),g.hok.kept B,?_]
 .show name_of_addr x.apart (PySem.mem_of_lookup h1) (PySem.mem_of_lookup h2)
 .let hy:scope.names.lookup y=↑.cell\/scope.names.lookup y=↑.free:=hy;obtain hy|hy:=hy
  .show Zm hy
  .show absurd rfl (S.nofree _ (PySem.mem_of_lookup hy))
 .show arn (x.above y c (PySem.mem_of_lookup h))
 .let hi:i<↥vs:=by
   unfold start at h2;by_cases hi:i<↥vs
   .show hi
   .rw[akd (~~~hi)]at h2;rw[List.getElem?_replicate]at h2;split at h2<;>cases h2
  let ha:vs[i]?=↑v:=by
   unfold start at h2;rw[aiJ (~~~hi),abD]at h2;cases e:vs[i]? with
   |none=>rw[e]at h2;cases h2
   |some a=>rw[e]at h2;cases h2;rfl
  let#[u,D,G]:=r.get ha;let l:ps[i]?=↑y:=by
   rw[<-S.pre,List.getElem?_take_of_lt ()];show h1
  let m:ps.Nodup:=by rw[<-S.pre];show S.nd.sublist (List.take_sublist _ _)
  show#[u,G,?_];rcases S.par y (aa0 l)with k|k
  .show .inl #[k,abC m l D k]
  .let#[c,e]:=Zm (n:=⇑s+1) k;show .inr #[.inl k,c,e,?_];let q:=x.cell y c e;rw[Zf m l D (by show scope.names.lookup y≠_;rw[k];decide)]at q;show q
 .show g.hok.fresh (arn (x.above y c (PySem.mem_of_lookup h)))
 .unfold start;show _=↥N;rw[abp,aaw,arq];omega
def aaL{CX:gO}{P:Ϯ}{w:ϭ}{K:Ϩ}{mg:MG}{base:ϫ}{k:Nat}{f:δ}{name qual:Str}{a:Arguments}{scope:ahx}{dV kV j pm c ct oc:ε}{an od:Option δ}{p:Array (Option ε)}{sp:Sp}(lk:K.lookup f=some #[oc,od,.func (as3 name qual a body scope dV kV j pm an c ct),p])(z:asC K c qual=true)(S:Ξ N ps scope)(len:∀vs H Q E,sp vs H Q E->↥vs=↥ps)(g:∀(A:ϴ)(outer:List Env)(s:μ)(H:Hp)(vs:List V)(Q:VK)(E:XK),ϗ cc k (A.deeper (envOfC qual scope ⇑s f c))->sp vs H Q E->
   ∃t,Iw (mR cc CX P w K mg base N qual scope f c A outer s H E) body t/\t {nx:=λ_ H'=>Q .non H',rt:=Q} (start N vs) H):dF P w K mg base CX cc (k+1) f (as3 name qual a body scope dV kV j pm an c ct) ps sp:=by
 show#[len,λA outer s H G us vs Q E B l M r m=>?_];let hl:=len _ _ _ _ m;let L:K.In s.heap:=l.mod.kin.keeps λb o e=>(l.bs b o e).1
 let D:s.heap.NoLimit:=l.mod.nolimit.keeps λb o e=>(l.bs b o e).1
 let i:∀y∈ps.zip us,scope.names.lookup y.1=↑.local\/(scope.names.lookup y.1=↑.cell/\((cellsFrom (⇑s+1) scope.names []).lookup y.1).isSome=true):=λ⟨n,v⟩ O=>by
  obtain q|q:=S.par n (asL O).1
  .show .inl q
  .show .inr #[q,atw _ _ _ (.inl q)]
 show codeAny_call_function B.depth (L<*lk) rfl S.co S.gen rfl (W.codeRec_of L z) (M _ _ _ _ ?_)*>wpAny_newFunctionEnv_cells S.kind i λenv R s1 x=>?_
 subst R;show#[D.keeps x.toInCall.keep,codeAny_func ?_];let#[t,T,U]:=g A outer s H vs Q E (B.deeper _) m;let I:Inv (mR cc CX P w K mg base N qual scope f c A outer s H E) [] (start N vs) H s1:=amn S B.hd l hl r x;show ac7 (T [] s1 (start N vs) H _ I U) (λX s' hs=>?_) λe s' hs=>hs
 let fin:∀{σ':St}{H':Hp}{v:V}{u:ε},Inv (mR cc CX P w K mg base N qual scope f c A outer s H E) [] σ' H' s'->RelV v u->Q v H'->CE outer P w H s Q u s':=
  λ{σ' H' v u} J F q=>#[v,H',J.os,J.bare,J.base,J.hok,F,q]
 cases X with
 |ret u=>
  let#[v,σ',H',J,F,q]:=hs;show fin J F q
 |next=>
  let#[σ',H',J,q]:=hs;show fin (v:=V.non) (u:=Value.none) J rfl q
 |brk=>
  let#[_,_,_,q]:=hs;show False.elim q
 |cont=>
  let#[_,_,_,q]:=hs;show False.elim q
end _L
namespace _H
open PySem PyProof.Rows
def anh(u:IsTup s.heap t vs.toArray)(v:IsTup s.heap b ws.toArray)(m:vs≠[])(h1:ws=[]->Q (.ref t) s)(h2:ws≠[]->Q (.ref ⇑s) {s with heap:=s.heap.push {cls:=.type "tuple",data:=.seq (vs++ws).toArray}})(hsz:↥vs+↥ws<=ϰ):π (ϧ prog w) A (binaryOp .Add (.ref t) (.ref b)) Q E s:=by
 let#[#[cls,dd,data,sl],j,p,n,hd]:=id u;let#[#[q,c,data2,f],a,g,n2,i]:=id v;simp only at p hd g i;subst p hd g i;let e:vs.toArray++ws.toArray=(vs++ws).toArray:=by simp
 by_cases l:ws=[]
 .show concat_meets #[_,j,rfl] #[_,a,rfl] noFill_tuple_add seq_tuple_add PySem.F.slot_tuple_add PySem.F.entry_tuple_add (PySem.F.args_tuple_add_2 _ _)
   (tuple_addW1 t b vs.toArray ws.toArray n n2 dd c sl f (~~~m) (by simp[l])) #[j,a,h1 l]
 .show concat_meets #[_,j,rfl] #[_,a,rfl] noFill_tuple_add seq_tuple_add PySem.F.slot_tuple_add PySem.F.entry_tuple_add (PySem.F.args_tuple_add_2 _ _)
   (tuple_addW2 t b vs.toArray ws.toArray n n2 dd c sl f (~~~m) (~~~l) (by rw[abd,abd];show hsz)) #[j,a,?_]
  rw[e];show h2 l
def Ζ(n d:Nat):Option Int->Nat
 |none=>d
 |some v=>if v<0 then(v+(n:Int)).toNat else min v.toNat n
theorem sS(n d:Nat):Ζ n d none=d:=rfl
def mL(n d k:Nat):Ζ n d ↑(k:Int)=min k n:=by
 show(if(k:Int)<0 then((k:Int)+(n:Int)).toNat else min (k:Int).toNat n)=min k n;rw[if_neg (),aqZ]
def Fv(n d:Nat)(hd:d<=n)(o:Option Int):Ζ n d o<=n:=by
 cases o with
 |none=>show hd
 |some v=>
  show(if v<0 then(v+(n:Int)).toNat else min v.toNat n)<=n;by_cases a:v<0
  .rw[if_pos a];omega
  .rw[if_neg a];show apG _ _
def JQ(v:Int)(n d:Nat):(if v<0 then max (v+(n:Int)) 0 else min v (n:Int))=((Ζ n d ↑v:Nat):Int):=by
 show(if v<0 then max (v+(n:Int)) 0 else min v (n:Int))=(((if v<0 then(v+(n:Int)).toNat else min v.toNat n):Nat):Int);by_cases a:v<0
 .simp only[if_pos a];omega
 .simp only[if_neg a];omega
def af4(lo hi:Option Int)(n:Nat):Builtin.Slice.sliceAdjust lo hi 1 (n:Int)=(((Ζ n 0 lo:Nat):Int),((Ζ n n hi:Nat):Int)):=by
 let h1:¬((1:Int)<0):=()
 unfold Builtin.Slice.sliceAdjust;simp only[h1,if_false];show Prod.ext ?_ ?_
 .cases lo with
  |none=>rfl
  |some v=>show JQ v n 0
 .cases hi with
  |none=>rfl
  |some v=>show JQ v n n
def abP(i j:Nat):Builtin.Slice.slicePlaces (i:Int) (j:Int) 1=j-i:=by
 unfold Builtin.Slice.slicePlaces;let h1:(1:Int)>0:=()
 simp only[h1,if_true,Int.ediv_one];split <;>omega
def Sv(p:IsPart v o)(h:Q o s):π (ϧ prog w) A (Builtin.Slice.slicePartIndex v) Q E s:=by
 cases p with
 |none=>show slicePart_none h
 |int i t=>show slicePart_int h
def amh{e f:ε}{lo hi:Option Int}{n:Nat}{Q:Int×Int×Nat->μ->Prop}(hs:s.heap.IsSliceOf sl e f .none)(pl:IsPart e lo)(g:IsPart f hi)(h:Q (((Ζ n 0 lo:Nat):Int),1,Ζ n n hi- Ζ n 0 lo) s):π (ϧ prog w) A (Builtin.Slice.sliceApplied (.ref sl) (pure (n:Int))) Q E s:=by
 let#[os,a,i,c]:=id hs;unfold Builtin.Slice.sliceApplied Builtin.Slice.sliceFields;show ν (ν (ahc a c (x:=e) rfl (ν (ahc a c (x:=f) rfl (ν (ahc a c (x:=.none) rfl (ϱ ?_)))))))*>ν (slicePart_none ?_)*>π _ _ (if((1:Int)==0)=true then _ else _) _ _ s;rw[if_neg (by decide)];show ν (Sv pl (ν (Sv g (ν (ϱ ?_)))))*>π _ _ (match Builtin.Slice.sliceAdjust lo hi 1 (n:Int)with|(lo,hi)=>pure (lo,(1:Int),Builtin.Slice.slicePlaces lo hi 1)) _ _ s;rw[af4 lo hi n];show π _ _ (pure (((Ζ n 0 lo:Nat):Int),(1:Int),Builtin.Slice.slicePlaces ((Ζ n 0 lo:Nat):Int) ((Ζ n n hi:Nat):Int) 1)) _ _ s;rw[abP];show ϱ h
def aon(xs:Array ε)(i k:Nat):((acV k).filterMap λ(m:Nat)=>xs[((i:Int)+(m:Int)*1).toNat]?).toArray=((xs.toList.drop i).take k).toArray:=by
 let e:(λ(m:Nat)=>xs[((i:Int)+(m:Int)*1).toNat]?)=λm=>xs[i+m]? :=by
  funext m;have:((i:Int)+(m:Int)*1).toNat=i+m:=()
  rw[this]
 rw[e];have:=pick_run xs i k;rw[List.filterMap_map]at this;let a:((λx=>xs[x]?)∘λx=>i+x)=λm=>xs[i+m]? :=rfl
 rw[a]at this;rw[this]
def aoq{a:Array ε}{l n:ε}{lo hi:Option Int}{Q:ε->μ->Prop}(e:IsTup s.heap t a)(hs:s.heap.IsSliceOf sl l n .none)(pl:IsPart l lo)(p:IsPart n hi)(u:¬(Ζ a.size 0 lo=0/\ Ζ a.size a.size hi=a.size))(h:Q (.ref ⇑s) {s with heap:=s.heap.push {cls:=.type "tuple",data:=.seq ((a.toList.drop (Ζ a.size 0 lo)).take (Ζ a.size a.size hi- Ζ a.size 0 lo)).toArray}})(hsz:a.size<=ϰ):π (ϧ prog w) A (getItem (.ref t) (.ref sl)) Q E s:=by
 let c:sizeOk (.seq ((a.toList.drop (Ζ a.size 0 lo)).take (Ζ a.size a.size hi- Ζ a.size 0 lo)).toArray):=by
  show((a.toList.drop (Ζ a.size 0 lo)).take (Ζ a.size a.size hi- Ζ a.size 0 lo)).toArray.size<=ϰ;rw[abd,adn,adu,ajA];omega
 let x:Ζ a.size a.size hi<=a.size:=Fv _ _ (Ϭ _) hi;let#[os,f,g,v]:=id hs;let i:s.TypeIs (.ref sl) "slice":=#[os,f,g];unfold getItem
 try with_reducible show afM ?_
 first|show ν (ϱ ?_)|skip
 show ν (wpAny_sequenceKey e.typeIs (by decide) ?_);show ν (aqt (name:=Ϫ "__getitem__") e.typeIs PyProof.Rows.slot_tuple_getitem
  (wpAny_call_entry PyProof.Rows.slot_tuple_getitem e.typeIs entry_tuple_getitem ?_ (args_tuple_getitem _ _)))
 show π _ _ (Builtin.Tuple.tupleItemsOf (.ref t)>>=_) _ _ s*>ν (tupleItemsOf_ e ?_)*>ν (wpAny_typeOf i ?_);rw[if_pos (by decide)];show ν (amh hs pl p ?_);let j:¬((((Ζ a.size 0 lo:Nat):Int)==0&&(1:Int)==1&&(Ζ a.size a.size hi- Ζ a.size 0 lo)==a.size)=true):=by
  intro q;rw[aaO,aaO]at q;let y:((Ζ a.size 0 lo:Nat):Int)=0:=eq_of_beq q.1.1;let z:Ζ a.size a.size hi- Ζ a.size 0 lo=a.size:=eq_of_beq q.2;show u #[(),()]
 show π _ _ (if(((Ζ a.size 0 lo:Nat):Int)==0&&(1:Int)==1&&(Ζ a.size a.size hi- Ζ a.size 0 lo)==a.size)=true then _ else _) _ _ s;rw[if_neg j,aon]
 first
  |show ν (m:=Builtin.Tuple.tupleExact _) (ai1 (ϱ #[_,rfl,ϱ h]) c)
  |show ν (m:=Builtin.Tuple.tupleExact _) (ai1 (ν (ϱ (ϱ #[_,rfl,ϱ h]))) c)
  |show ν (ν (m:=Builtin.Tuple.tupleExact _) (ai1 (ϱ (ϱ #[_,rfl,ϱ h])) c))
  |show ν (ν (m:=Builtin.Tuple.tupleExact _) (ai1 (ϱ #[_,rfl,ϱ h]) c))
end _H
namespace _L
open PySem PySem.Spec PyProof.Rows
abbrev TO:=St->Hp->(Option Int->Hp->Prop)->Prop
def PO(X:Cx)(e:Option ϩ)(t:TO):Prop:=
 ∀(ϵ:List (δ×Obj))(s:μ)(σ:St)(H:Hp)(Q:Option Int->Hp->Prop),Inv X ϵ σ H s->t σ H Q->
  π ∅ X.A (evalPart e X.env) (λu s'=>∃o H',Inv X ϵ σ H' s'/\IsPart u o/\Q o H') X.xe s
def aol:TO:=λ_ H Q=>Q none H
def aob(t:TE):TO:=λσ H Q=>t σ H λx H1=>∃i,x=.int i/\Q ↑i H1
def abL:PO X none aol:=by
 intro ϵ s σ H Q I h;rw[evalPart_none];show ϱ #[none,H,I,.none,h]
def ag7(h:PE X e te):PO X ↑e (aob te):=by
 intro ϵ s σ H Q I a;rw[evalPart_some];show χ (h ϵ s σ H _ I a) λu j c=>?_
 let#[x,H1,f,r1,g]:=c;let#[i,rfl,q]:=g;let#[t,rfl]:=r1;show#[↑i,H1,f,.int i t,q]
def u5(X:Cx)(r:V->Option Int->Option Int->Hp->VK->Prop):Prop:=
 ∀(ϵ:List (δ×Obj))(s:μ)(σ:St)(H:Hp)(x:V)(v a c:ε)(lo hi:Option Int)(sl:δ)(Q:VK),Inv X ϵ σ H s->RelV x v->s.heap.IsSliceOf sl a c .none->IsPart a lo->IsPart c hi->r x lo hi H Q->
  ∃T id,typeLookup (.type T) "__getitem__"=pure ↑(.builtin id)/\s.TypeIs v T/\π ∅ X.A (getItem v (.ref sl)) (EP X ϵ σ Q) X.xe s
def cG(xs:List V)(lo hi:Option Int):List V:=(xs.drop (_H.Ζ ↥xs 0 lo)).take (_H.Ζ ↥xs ↥xs hi-_H.Ζ ↥xs 0 lo)
def QC(xs:List V)(lo hi:Option Int):↥(cG xs lo hi)<=↥xs:=by
 unfold cG;rw[adn,adu];omega
def ac3(K:Ϩ):V->Option Int->Option Int->Hp->VK->Prop:=λx lo hi H Q=>∃a xs,x=.ref a/\ξ K H a xs/\
 ¬(_H.Ζ ↥xs 0 lo=0/\_H.Ζ ↥xs ↥xs hi=↥xs)/\∀p,H p=none->Q (.ref p) (upd H p (.tup (cG xs lo hi)))
def ag6:u5 X (ac3 X.K):=by
 intro ϵ s σ H x v m n lo hi sl Q I rx hs pl g h;let#[a,xs,rfl,i,j,q]:=h;cases rx;let#[l,r,e,f]:=I.tuple i;let c:l.toArray.size=↥xs:=by rw[abd];show r.length.symm
 show#["tuple",_,PyProof.Rows.slot_tuple_getitem.lookup,e.typeIs,?_]*>_H.aoq e hs pl g (by rw[c];show j) ?_ (by rw[c];show f);rw[c];show#[.ref ⇑s,_,I.laid (t':=s.toks) (o:=.tup (cG xs lo hi)) (λb p q=>ϲ _ q) (Ϭ _) ?_,rfl,q _ (I.hok.fresh (Ϭ _))]*>#[ad7 (QC xs lo hi) f,_,(r.drop (_H.Ζ ↥xs 0 lo)).take (_H.Ζ ↥xs ↥xs hi-_H.Ζ ↥xs 0 lo),IsTup.new _ _]
def acG(K:Ϩ):R2:=λx y H Q=>∃a b xs ys,x=.ref a/\y=.ref b/\ξ K H a xs/\ξ K H b ys/\xs≠[]/\↥xs+↥ys<=ϰ/\
 (ys=[]->Q (.ref a) H)/\(ys≠[]->∀p,H p=none->Q (.ref p) (upd H p (.tup (xs++ys))))
def Vals.nil_iff(r:Vals xs us):us=[]↔xs=[]:=by
 cases r with
 |nil=>simp
 |cons _ _=>simp
def anm:bu X (binaryOp .Add) (acG X.K):=by
 intro ϵ s σ H x y v u Q I rx ry h;let#[a,b,xs,ys,rfl,rfl,ha,g,i,e,j,l]:=h;cases rx;cases ry;let#[m,r1,p1,_]:=I.tuple ha;let#[f,c,p2,_]:=I.tuple g;show _H.anh p1 p2 (λz=>i (r1.nil_iff.mp z)) (λz=>#[.ref a,H,I,rfl,j (c.nil_iff.mp z)]) (λz=>?_) (by rw[<-↥r1, <-↥c];show e)*>#[.ref ⇑s,_,I.laid (t':=s.toks) (o:=.tup (xs++ys)) (λb n q=>ϲ _ q) (Ϭ _) ?_,rfl,l (λw=>z (c.nil_iff.mpr w)) _ (I.hok.fresh (Ϭ _))]*>#[by rw[abp];show e,_,r1.append c,IsTup.new _ _]
def pQ(n:Nat)(i:Int):Option Nat:=if 0<=i then(if i<n then some i.toNat else none)else if -(n:Int)<=i then some (i+n).toNat else none
def Θ{α:Type}(xs:List α)(i:Int):Option α:=(pQ ↥xs i).bind λj=>xs[j]?
def adO(h:pQ n i=↑j):seqIndex? i n=↑j/\j<n/\ -(n:Int)<=i/\i<n:=by
 unfold pQ at h;by_cases a:0<=i
 .rw[if_pos a]at h;by_cases h1:i<n
  .rw[if_pos h1]at h;let e:i.toNat=j:=Option.some.inj h;show#[by rw[seqIndex_of a h1,e],(),(),h1]
  .rw[if_neg h1]at h;cases h
 .rw[if_neg a]at h;by_cases h1: -(n:Int)<=i
  .rw[if_pos h1]at h;let e:(i+n).toNat=j:=Option.some.inj h;show#[by rw[seqIndex_neg () h1,e],(),h1,()]
  .rw[if_neg h1]at h;cases h
def De{α:Type}{xs:List α}{v:α}(h:Θ xs i=↑v):∃j,seqIndex? i ↥xs=↑j/\xs[j]?=↑v/\j<↥xs/\ -(↥xs:Int)<=i/\i<↥xs:=by
 unfold Θ at h;cases e:pQ ↥xs i with
 |none=>rw[e]at h;cases h
 |some j=>
  rw[e]at h;let#[h1,h2,a,c]:=adO e;show#[j,h1,h,h2,a,c]
def ϔ{α:Type}{xs:List α}{j:Nat}{v:α}(h:xs[j]?=↑v):Θ xs (j:Int)=↑v:=by
 let a:j<↥xs:=(aav.mp h).1;let e:pQ ↥xs (j:Int)=↑j:=by
  unfold pQ;rw[if_pos (),if_pos ()];simp
 unfold Θ;rw[e];show h
def ag1(b:ϩ):=∀o i,subscripted b false o i=operate [o,i] (getItem o i)
def tZ(X:Cx)(r:R2):Prop:=
 ∀(value a:ϩ)(ϵ:List (δ×Obj))(s:μ)(σ:St)(H:Hp)(x y:V)(v u:ε)(Q:VK),Inv X ϵ σ H s->RelV x v->RelV y u->r x y H Q->
  subscripted a false v u=operate [v,u] (getItem v u)->π ∅ X.A (subscriptTail value a v u) (EP X ϵ σ Q) X.xe s
def Ks(X:Cx)(id:String)(r:V->List V->Hp->VK->Prop):Prop:=
 ∀(ϵ:List (δ×Obj))(s:μ)(σ:St)(H:Hp)(x:V)(xs:List V)(v:ε)(us:List ε)(Q:VK),Inv X ϵ σ H s->RelV x v->Vals xs us->r x xs H Q->
  π ∅ X.A (call (.builtin id) (v::us)) (EP X ϵ σ Q) X.xe s
def abm(K:Ϩ):R2:=λx y H Q=>∃p xs i v,x=.ref p/\y=.int i/\η K H p xs/\ Θ xs i=↑v/\Q v H
def Tj(K:Ϩ):R2:=λx y H Q=>∃p xs i v,x=.ref p/\y=.int i/\ξ K H p xs/\ Θ xs i=↑v/\Q v H
def aaY:R2:=λx y H Q=>∃z i c,x=.str z/\y=.int i/\↥z<=ϰ/\ Θ z.cps.toList i=↑c/\Q (.str #[#v[c]]) H
def adq:tZ X (abm X.K):=by
 intro value a ϵ s σ H x y v u Q I rx ry h hs;let#[p,xs,i,z,rfl,rfl,l,m,q]:=h;cases rx;let#[t,rfl]:=ry;let#[n,r,pl,E]:=I.list l;let#[j,h1,h2,F,B,D]:=De m;let#[w,f,c]:=r.get h2;let hl:=↥r;let hn:=tO;let fin:EP X ϵ σ Q w s:=#[z,H,I,c,q];by_cases g:0<=i
 .let e:i.toNat=j:=by
   rw[seqIndex_of g D]at h1;show Option.some.inj h1
  show item_listR pl.isList g () (by rw[e];simpa using f) fin hs
 .let e:(i+(n.toArray.size:Int)).toNat=j:=by
   rw[seqIndex_neg () B]at h1;rw[abd, <-hl];show Option.some.inj h1
  show subscriptTail_builtinR (x:=w) pl.isList.typeIs slot_list_getitem.lookup
   (wpAny_getItem_list_neg (Q:=λr s'=>r=w/\EP X ϵ σ Q r s') pl.isList () (by rw[abd]<;>omega) () (by rw[e];simpa using f) #[rfl,fin]) hs
def anQ:tZ X (Tj X.K):=by
 intro value a ϵ s σ H x y v u Q I rx ry h hs;let#[p,xs,i,z,rfl,rfl,e,f,q]:=h;cases rx;let#[t,rfl]:=ry;let#[l,r,pl,m]:=I.tuple e;let#[j,h1,h2,n,B,D]:=De f;let#[w,g,c]:=r.get h2;let hl:=↥r;let hn:=tO;let fin:EP X ϵ σ Q w s:=#[z,H,I,c,q];show subscriptTail_builtinR (x:=w) pl.typeIs slot_tuple_getitem.lookup
  (getItem_tuple (j:=j) (Q:=λr s'=>r=w/\EP X ϵ σ Q r s') pl () () (by rw[abd, <-hl];show h1) (~~~g) #[rfl,fin]) hs
def aoQ:tZ X aaY:=by
 intro value a ϵ s σ H x y v u Q I rx ry h hs;let#[z,i,c,rfl,rfl,m,e,q]:=h;let#[t,rfl]:=rx;let#[t',rfl]:=ry;let#[j,h1,h2,n,f,g]:=De e;let hl:↥z.cps.toList=↥z:=by simp[asr]
 rw[hl]at h1 f g;let hn:=tO;show tail_any (typeIs_str s z t) slot_str_getitem.lookup (getItem_str (c:=c) (by
  let e1:decide (i< -(2^63:Int))=false:=decide_eq_false ();let l:decide (i≥2^63)=false:=decide_eq_false ();rw[e1,l,ar3]) (by rw[h1];simpa using h2) #[.str #[#v[c]],H,I.tok _,#[_,rfl],q]) hs
def akg(lo hi:Option Int)(n:Nat):(sliceBounds lo hi none n).1=((_H.Ζ n 0 lo:Nat):Int)/\(sliceBounds lo hi none n).2.1=((_H.Ζ n n hi:Nat):Int)/\(sliceBounds lo hi none n).2.2=1:=by
 show#[?_,?_,rfl]
 .cases lo with
  |none=>simp[sliceBounds,_H.Ζ]
  |some i=>
   simp only[sliceBounds,_H.Ζ,atx,show(1:Int)>0 by decide,if_true];by_cases h:i<0
   .simp only[h,if_true]<;>omega
   .simp only[h,if_false]<;>omega
 .cases hi with
  |none=>simp[sliceBounds,_H.Ζ]
  |some i=>
   simp only[sliceBounds,_H.Ζ,atx,show(1:Int)>0 by decide,if_true];by_cases h:i<0
   .simp only[h,if_true]<;>omega
   .simp only[h,if_false]<;>omega
def anE(a:List ε)(lo hi:Option Int):slicePick a.toArray lo hi none=((a.drop (_H.Ζ ↥a 0 lo)).take (_H.Ζ ↥a ↥a hi-_H.Ζ ↥a 0 lo)).toArray:=by
 let#[h1,h2,c]:=akg lo hi a.toArray.size;unfold slicePick;rw[h1,h2,c];simp only[sliceRange_one,pick_run,abd]<;>rfl
def ako(K:Ϩ):V->Option Int->Option Int->Hp->VK->Prop:=λx lo hi H Q=>∃a xs,x=.ref a/\η K H a xs/\∀p,H p=none->Q (.ref p) (upd H p (.lst (cG xs lo hi)))
def amt:u5 X (ako X.K):=by
 intro ϵ s σ H x v j l lo hi sl Q I rx hs pl f h;let#[a,xs,rfl,g,q]:=h;cases rx;let#[m,r,e,i]:=I.list g;let c:=↥r;show#["list",_,slot_list_getitem.lookup,e.isList.typeIs,?_]*>wpAny_getItem_list_slice e.isList hs pl f .none (by simp) ?_ (by rw[abd]<;>omega);rw[anE, <-c];show#[.ref ⇑s,_,I.laid (t':=s.toks) (o:=.lst (cG xs lo hi)) (λb n q=>ϲ _ q) (Ϭ _) ?_,rfl,q _ (I.hok.fresh (Ϭ _))]*>#[ad7 (QC xs lo hi) i,_,0,(r.drop (_H.Ζ ↥xs 0 lo)).take (_H.Ζ ↥xs ↥xs hi-_H.Ζ ↥xs 0 lo),abj _ rfl]
def iJ:V->Bool
 |.non=>true
 |.bl _=>true
 |.int _=>true
 |.str _=>true
 |_=>false
def fW:V->V->Bool
 |.non,.non=>true
 |.bl a,.bl b=>a==b
 |.bl a,.int b=>(if a then 1 else 0)==b
 |.int a,.bl b=>a==(if b then 1 else 0)
 |.int a,.int b=>a==b
 |.str a,.str b=>a==b
 |_,_=>false
def aim(ry:RelV y u)(rx:RelV x v)(e:iJ y=true)(c:iJ x=true):SeqAt.EqAt A s u v (fW y x):=by
 cases y with
 |non=>
  cases ry;cases x with
  |non=>cases rx;show SeqAt.EqAt.same _
  |bl b=>cases rx;show SeqAt.EqAt.none_bool b
  |int b=>let#[t,rfl]:=rx;show SeqAt.EqAt.none_int b t
  |str b=>let#[t,rfl]:=rx;show SeqAt.EqAt.none_str b t
  |_=>show absurd (show false=true from c) aaD
 |bl a=>
  cases ry;cases x with
  |non=>cases rx;show SeqAt.EqAt.bool_none a
  |bl b=>cases rx;show SeqAt.EqAt.bool_bool a b
  |int b=>let#[t,rfl]:=rx;show SeqAt.EqAt.bool_int a b t
  |str b=>let#[t,rfl]:=rx;show SeqAt.EqAt.bool_str a b t
  |_=>show absurd (show false=true from c) aaD
 |int a=>
  let#[t',rfl]:=ry;cases x with
  |non=>cases rx;show SeqAt.EqAt.int_none a t'
  |bl b=>cases rx;show SeqAt.EqAt.int_bool a t' b
  |int b=>let#[t,rfl]:=rx;show SeqAt.EqAt.int_int a t' b t
  |str b=>let#[t,rfl]:=rx;show SeqAt.EqAt.int_str a t' b t
  |_=>show absurd (show false=true from c) aaD
 |str a=>
  let#[t',rfl]:=ry;cases x with
  |non=>cases rx;show SeqAt.EqAt.str_none a t'
  |bl b=>cases rx;show SeqAt.EqAt.str_bool a t' b
  |int b=>let#[t,rfl]:=rx;show SeqAt.EqAt.str_int a t' b t
  |str b=>let#[t,rfl]:=rx;show SeqAt.EqAt.str_str a t' b t
  |_=>show absurd (show false=true from c) aaD
 |_=>show absurd (show false=true from e) aaD
def eO(x:V)(u:ε):Bool:=match u with
 |.none=>fW .non x
 |.bool b=>fW (.bl b) x
 |.int i _=>fW (.int i) x
 |.str z _=>fW (.str z) x
 |_=>false
def Ys(r:RelV y u)(f:iJ y=true):eO x u=fW y x:=by
 cases y with
 |non=>cases r;rfl
 |bl b=>cases r;rfl
 |int i=>let#[t,rfl]:=r;rfl
 |str z=>let#[t,rfl]:=r;rfl
 |_=>show absurd (show false=true from f) aaD
theorem uy:∀{xs:List V}{us:List ε},Vals xs us->xs.all iJ=true->us.any (eO x)=xs.any λy=>fW y x
 |_,_,.nil,_=>rfl
 |y::xs,u::us,.cons r t,f=>by
  rw[asD,aaO]at f;rw[ao2,ao2,Ys r f.1,uy t f.2]
theorem v9(rx:RelV x v)(a:iJ x=true):∀{xs:List V}{us:List ε},Vals xs us->xs.all iJ=true->∀u∈us,SeqAt.EqAt A s u v (eO x u)
 |_,_,.nil,_=>λu hu=>by cases hu
 |y::xs,u::us,.cons r t,f=>λc hu=>by
  rw[asD,aaO]at f;obtain rfl|hu:=aaB.mp hu
  .rw[Ys r f.1];show aim r rx f.1 a
  .show v9 rx a t f.2 c hu
def jg(x:V)(xs:List V):Bool:=xs.any λy=>fW y x
def Xf(K:Ϩ)(a:Bool):R2:=λx y H Q=>∃p xs,y=.ref p/\(η K H p xs\/ξ K H p xs)/\iJ x=true/\xs.all iJ=true/\Q (.bl (if a then !jg x xs else jg x xs)) H
def akE:bu X (adF .In) (Xf X.K false):=by
 intro ϵ s σ H x y v u Q I rx ry h;let#[p,xs,rfl,hq,e,fs,q]:=h;cases ry;obtain hq|hq:=hq
 .let#[a,r,pl,f]:=I.list hq;show SeqAt.in_listAt (eO x) pl.isList (λw c=>v9 rx e r fs w (~~~c)) #[.bl _,H,I,rfl,?_];rw[show a.toArray.any (eO x)=a.any (eO x)by simp,uy r fs];show q
 .let#[a,r,pl,f]:=I.tuple hq;show SeqAt.in_tupleAt (eO x) pl (λw c=>v9 rx e r fs w (~~~c)) #[.bl _,H,I,rfl,?_];rw[show a.toArray.any (eO x)=a.any (eO x)by simp,uy r fs];show q
def aoA:bu X (adF .NotIn) (Xf X.K true):=by
 intro ϵ s σ H x y v u Q I rx ry h;let#[p,xs,rfl,hq,e,fs,q]:=h;cases ry;obtain hq|hq:=hq
 .let#[a,r,pl,f]:=I.list hq;show SeqAt.notIn_listAt (eO x) pl.isList (λw c=>v9 rx e r fs w (~~~c)) #[.bl _,H,I,rfl,?_];rw[show a.toArray.any (eO x)=a.any (eO x)by simp,uy r fs];show q
 .let#[a,r,pl,f]:=I.tuple hq;show SeqAt.notIn_tupleAt (eO x) pl (λw c=>v9 rx e r fs w (~~~c)) #[.bl _,H,I,rfl,?_];rw[show a.toArray.any (eO x)=a.any (eO x)by simp,uy r fs];show q
def akC:jk X (.builtin "len") (λxs H Q=>∃p ys,xs=[.ref p]/\(η X.K H p ys\/ξ X.K H p ys)/\Q (.int ↥ys) H):=by
 intro ϵ s σ H xs us Q I r h;let#[p,ys,rfl,hq,q]:=h;let#[u,rfl,rx]:=vals1 r;cases rx;let hn:=tO;obtain hq|hq:=hq
 .let#[e,c,pl,f]:=I.list hq;let a:=↥c;show Calls.call_len_list pl.isList (by simp only[abd]<;>omega) #[.int ↥ys,H,I.tok _,#[s.toks+1,by rw[abd,a]],q]
 .let#[e,c,pl,f]:=I.tuple hq;let a:=↥c;show len_tuple pl (by simp only[abd]<;>omega) #[.int ↥ys,H,I.tok _,#[s.toks+1,by rw[abd,a]],q]
def aml:jk X (.builtin "len") (λxs H Q=>∃z,xs=[.str z]/\↥z<=ϰ/\Q (.int ↥z) H):=by
 intro ϵ s σ H xs us Q I r h;let#[z,rfl,a,q]:=h;let#[u,rfl,t,rfl]:=vals1 r;let hn:=tO;show len_str () #[.int ↥z,H,I.tok _,#[_,rfl],q]
def agu:jk X (.type "list") (λxs H Q=>∃p ys,xs=[.ref p]/\(η X.K H p ys\/ξ X.K H p ys)/\∀l,H l=none->Q (.ref l) (upd H l (.lst ys))):=by
 intro ϵ s σ H xs us Q I r h;let#[p,ys,rfl,hq,q]:=h;let#[u,rfl,rx]:=vals1 r;cases rx
 let fin:∀(a:List ε),Vals ys a->↥ys<=ϰ->∀(h':ϫ)(c:Nat),(∀b o',s.heap.get? b=↑o'->h'.get? b=↑o')->
   h'.get? ⇑s=some {cls:=.type "list",dict:=none,data:=.seq a.toArray c,slots:= #v[]}->EP X ϵ σ Q (.ref ⇑s) {s with heap:=h'}:=λa f g h' c kp e=>
  #[.ref ⇑s,_,I.laid (t':=s.toks) kp (Ϭ _) (show ώ X.prog X.w _ h' _ (.lst ys)from#[g,a,c,f,e]),rfl,q _ (I.hok.fresh (Ϭ _))]
 obtain hq|hq:=hq
 .let#[a,f,pl,g]:=I.list hq;let i:=↥f;let#[o,j,m,n,hd]:=pl.isList;show call_list_seq p (.inl rfl) j m hd (λh' c kp e=>fin a f g h' c kp e) (by simp only[abd]<;>omega)
 .let#[a,f,pl,g]:=I.tuple hq;let i:=↥f;let#[o,j,m,n,hd]:=pl;show call_list_seq p (.inr rfl) j m hd (λh' c kp e=>fin a f g h' c kp e) (by simp only[abd]<;>omega)
def aiY:jk X (.type "tuple") (λxs H Q=>∃p ys,xs=[.ref p]/\((η X.K H p ys/\∀l,H l=none->Q (.ref l) (upd H l (.tup ys)))\/(ξ X.K H p ys/\Q (.ref p) H))):=by
 intro ϵ s σ H xs us Q I r h;let#[p,ys,rfl,h]:=h;let#[u,rfl,rx]:=vals1 r;cases rx;obtain⟨a,q⟩|⟨a,q⟩:=h
 .let#[c,f,pl,g]:=I.list a;let i:=↥f;show call_tuple_list pl.isList (λh' kp=>?_) (by simp only[abd]<;>omega);let j:Inv X ϵ σ H {s with heap:=h'}:=I.kept (t':=s.toks) kp;let m:Inv X ϵ σ (upd H h'.objs.size (.tup ys)) {s with heap:=h'.push {cls:=.type "tuple",data:=.seq c.toArray}}:=
   j.laid (t':=s.toks) (λb o e=>ϲ _ e) (Ϭ _) (show ώ X.prog X.w _ _ _ (.tup ys)from#[g,c,f,IsTup.new _ _])
  show#[.ref h'.objs.size,_,m,rfl,q _ (j.hok.fresh (Ϭ _))]
 .let#[c,f,pl,g]:=I.tuple a;show call_tuple_same pl #[.ref p,H,I,rfl,q]
def um(K:Ϩ)(T:String)(x:V)(H:Hp):Prop:=match x with
 |.str _=>T="str"
 |.int _=>T="int"
 |.ref p=>(T="list"/\∃xs,η K H p xs)\/(T="tuple"/\∃o,K.lookup p=↑o/\o.cls=.type "tuple"/\o.dict=none)\/
   (T="dict"/\((∃Ϸ,H p=↑(.dK Ϸ))\/False))\/(T="set"/\False)
 |_=>False
def T3{σ:St}{H:Hp}{s:μ}{T:String}{x:V}{v:ε}(I:Inv X ϵ σ H s)(r:RelV x v)(ty:um X.K T x H):s.TypeIs v T/\∀a,v=.ref a->∃f,s.heap.get? a=↑f/\f.dict=none:=by
 cases x with
 |str z=>
  let#[t,rfl]:=r;cases(show T="str" from ty);show#[typeIs_str s z t,λ_ e=>nomatch e]
 |int i=>
  let#[t,rfl]:=r;cases(show T="int" from ty);show#[typeIs_int s i t,λ_ e=>nomatch e]
 |ref p=>
  cases r;obtain⟨rfl,xs,g⟩|⟨rfl,o,hk,j,hd⟩|⟨rfl,hk⟩|⟨_,hk⟩:=ty
  .let#[m,_,pl,_]:=I.list g;show#[pl.isList.typeIs,λa e=>?_];cases e;let#[o,n,e,c,hd,_]:=pl;show#[o,e,hd]
  .show#[#[o,I.kIn p o hk,j],λa e=>?_];cases e;show#[o,I.kIn _ o hk,hd]
  .let z:∃o,s.heap.get? p=↑o/\o.ExactDict:=by
    obtain⟨Ϸ,hk⟩|hk:=hk
    .let#[_,_,_,_,o,_,_,e,ex,_]:=I.hok p _ hk;show#[o,e,ex]
    .show hk.elim
   let#[o,e,ex]:=z;show#[#[o,e,ex.1],λa l=>?_];cases l;show#[o,e,ex.2.1]
  .show hk.elim
 |_=>show False.elim ty
def Dy(X:Cx)(id:String)(r:V->List V->Hp->VK->Prop):Prop:=
 ∀(ϵ:List (δ×Obj))(s:μ)(σ:St)(H:Hp)(x:V)(xs:List V)(v:ε)(us:List ε)(Q:VK),Inv X ϵ σ H s->RelV x v->Vals xs us->r x xs H Q->
  π ∅ X.A (call (.builtin id) (v::us)) (EP X ϵ σ Q) X.xe s
theorem Vals.one(h:Vals [x] us):∃u,us=[u]/\RelV x u:=vals1 h
theorem Vals.two(h:Vals [x,y] us):∃u v,us=[u,v]/\RelV x u/\RelV y v:=vals2 h
theorem Vals.zero:∀{us:List ε},Vals [] us->us=[]
 |_,.nil=>rfl
def Vals.reverse(h:Vals xs us):Vals xs.reverse us.reverse:=by
 induction h with
 |nil=>show .nil
 |cons r t a=>rw[atl,atl];show Vals.append a (.cons r .nil)
section
variable{X:Cx}{ϵ:List (δ×Obj)}{σ:St}{H:Hp}{s:μ}{l b:δ}{xs ys zs:List V}
def Inv.lset{a its':List ε}{f:Array ε->Array ε}{t':Nat}(I:Inv X ϵ σ H s)(c:H l=↑(.lst xs))(e:s.heap.get? l=some {cls:=.type "list",data:=.seq a.toArray n})(g:f a.toArray=its'.toArray)(i:Vals ys its')(j:↥ys<=ϰ):Inv X ϵ σ (upd H l (.lst ys)) {s with heap:=s.heap.update l (Obj.mapSeq f),toks:=t'}:=by
 let q:=PySem.IsL.update e f;rw[g]at q;show I.write (x:=l) (e:=l) (by rw[c];show trivial) (.inl rfl) (λv u m p=>(acR s.heap (Obj.mapSeq f) (Ne.symm m)).trans p) #[_,q] ?_*>#[j,its',_,i,q]
theorem Inv.lnew(I:Inv X ϵ σ H s)(c:Vals ys a)(e:↥ys<=ϰ):Inv X ϵ σ (upd H ⇑s (.lst ys)) {s with heap:=s.heap.push {cls:=.type "list",data:=.seq a.toArray},toks:=t'}:=
 I.laid (λ_ _ q=>ϲ _ q) (Ϭ _) #[e,a,0,c,abj _ rfl]
theorem Inv.fresh(I:Inv X ϵ σ H s):H ⇑s=none:=I.hok.fresh (Ϭ _)
def Inv.lstM(I:Inv X ϵ σ H s)(c:H l=↑(.lst xs)):↥xs<=ϰ/\∃(a:List ε)(n:Nat),Vals xs a/\↥xs=↥a/\s.heap.get? l=some {cls:=.type "list",data:=.seq a.toArray n}:=by
 let#[z,a,n,r,e]:=I.hok l _ c;show#[z,a,n,r,↥r,e]
end
def adA:V->List V->Hp->VK->Prop:=λx vs H Q=>∃l xs y,x=.ref l/\vs=[y]/\H l=↑(.lst xs)/\↥xs<ϰ/\Q .non (upd H l (.lst (xs++[y])))
def jz:Dy X "list.append" adA:=by
 intro ϵ s σ H x vs v us Q I rx f h;let#[l,xs,y,rfl,rfl,a,i,q]:=h;cases rx;let#[u,rfl,g]:=f.one;let#[z,c,n,r,hl,e]:=I.lstM a;show aoD F.slot_list_append #[_,e,rfl] F.entry_list_append (F.args_list_append_2 _ _) (PySem.list_append l c.toArray n u (by rw[abd];omega)) #[e,?_]*>#[.non,_,I.lset (its':=c++[u]) a e (by simp) (r.append (.cons g .nil)) ?_,rfl,q];rw[abp,adS];omega
def agH:V->List V->Hp->VK->Prop:=λx vs H Q=>∃l xs,x=.ref l/\vs=[]/\H l=↑(.lst xs)/\Q .non (upd H l (.lst xs.reverse))
def ajl:Dy X "list.reverse" agH:=by
 intro ϵ s σ H x vs v us Q I rx g h;let#[l,xs,rfl,rfl,c,q]:=h;cases rx;let a:=g.zero;subst a;let#[z,f,n,r,hl,e]:=I.lstM c;show aoD F.slot_list_reverse #[_,e,rfl] F.entry_list_reverse (F.args_list_reverse_1 _) (AutoSeq1.list_reverse_list_0 l f.toArray n (by rw[abd];omega)) #[e,?_]*>#[.non,_,I.lset (its':=f.reverse) c e (by simp) r.reverse ?_,rfl,q];rw[as5];omega
def ahG:R2:=λx y H Q=>∃l b xs zs,x=.ref l/\y=.ref b/\H l=↑(.lst xs)/\H b=↑(.lst zs)/\↥xs+↥zs<=ϰ/\∀p,H p=none->Q (.ref p) (upd H p (.lst (xs++zs)))
def amy:bu X (binaryOp .Add) ahG:=by
 intro ϵ s σ H x y v u Q I rx ry h;let#[l,b,xs,zs,rfl,rfl,f,g,p,q]:=h;cases rx;cases ry;let#[z,c,n,r,hl,e]:=I.lstM f;let#[B,a,n2,i,D,j]:=I.lstM g;show PySem.P.add_list e j ?_ (by rw[abd,abd];omega);let m:c.toArray++a.toArray=(c++a).toArray:=by simp
 rw[m];show#[.ref _,_,I.lnew (t':=s.toks) (r.append i) (by rw[abp];omega),rfl,q _ I.fresh]
section
variable{κ:Type} [DecidableEq κ]
def aA(Ϸ:List (κ×V))(k:κ):Option V:=(Ϸ.find? λa=>decide (a.1=k)).map (·.2)
def putK(Ϸ:List (κ×V))(k:κ)(v:V):List (κ×V):=
 if(Ϸ.any λa=>decide (a.1=k))=true then Ϸ.map (λa=>if a.1=k then(a.1,v)else a)else Ϸ++[(k,v)]
def gf(Ϸ:List (κ×V))(k:κ):List (κ×V):=Ϸ.filter λa=>decide (a.1≠k)
def xG{p:κ×V}{k:κ}(e:p.1=k):aA (p::r) k=↑p.2:=by simp[aA,aek,e]
def vg{p:κ×V}{k:κ}(e:¬p.1=k):aA (p::r) k=aA r k:=by simp[aA,aek,e]
def Oh(Ϸ:List (κ×V))(k:κ)(v:V):↥(putK Ϸ k v)<=↥Ϸ+1:=by
 unfold putK;split
 .rw[aaw];omega
 .rw[abp,acD,aqy];omega
def dj.isSome_eq(r:dj o u):o.isSome=u.isSome:=by
 cases o with
 |none=>cases u with
  |none=>rfl
  |some _=>show(show False from r).elim
 |some _=>cases u with
  |none=>show(show False from r).elim
  |some _=>rfl
def dj.getD(r:dj o u)(rd:RelV d d'):RelV (o.getD d) (u.getD d'):=by
 cases o with
 |none=>cases u with
  |none=>show rd
  |some _=>show(show False from r).elim
 |some _=>cases u with
  |none=>show(show False from r).elim
  |some _=>show r
def KV.val(r:KV Ϸ vs)(k:κ):dj (aA Ϸ k) (valueAt vs k):=by
 unfold KV at r;induction r with
 |nil=>show True.intro
 | @cons p q ps a h t f=>
   let#[h1,h2]:=h;by_cases e:p.1=k
   .let c:q.1=k:=h1.symm<|>e;let b:valueAt (q::a) k=↑q.2:=by simp[valueAt,aek,c]
    rw[xG e,b];show h2
   .let c:¬q.1=k:=λz=>e (h1<|>z)
    let b:valueAt (q::a) k=valueAt a k:=by simp[valueAt,aek,c]
    rw[vg e,b];show f
def KV.any(r:KV Ϸ vs)(k:κ):(Ϸ.any λa=>decide (a.1=k))=vs.any λa=>decide (a.1=k):=by
 unfold KV at r;induction r with
 |nil=>rfl
 |cons h t c=>rw[ao2,ao2,c,h.1]
def KV.repl(r:KV Ϸ vs)(k:κ)(ry:RelV y u):KV (Ϸ.map λa=>if a.1=k then(a.1,y)else a) (vs.map λa=>if a.1=k then(a.1,u)else a):=by
 unfold KV at r⊢;induction r with
 |nil=>show .nil
 | @cons p q ps f h t c=>
   rw[acY,acY];show .cons ?_ c;let#[h1,h2]:=h;by_cases e:p.1=k
   .rw[if_pos e,if_pos (h1.symm<|>e)];show#[h1,ry]
   .rw[if_neg e,if_neg (λz=>e (h1<|>z))];show#[h1,h2]
def KV.put(r:KV Ϸ vs)(k:κ)(ry:RelV y u):KV (putK Ϸ k y) (stored vs k u):=by
 unfold putK stored;rw[r.any k];by_cases e:(vs.any λa=>decide (a.1=k))=true
 .rw[if_pos e,if_pos e];show r.repl k ry
 .rw[if_neg e,if_neg e];show Paired.snoc r #[rfl,ry]
def KV.drop(r:KV Ϸ vs)(k:κ):KV (gf Ϸ k) (without vs k):=by
 unfold KV at r⊢;unfold gf without;induction r with
 |nil=>show .nil
 | @cons p q ps g h t c=>
   let#[h1,h2]:=h;rw[amF,amF];by_cases e:p.1=k
   .let a:¬decide (p.1≠k)=true:=by simp[e]
    let b:¬decide (q.1≠k)=true:=by simp[h1.symm<|>e]
    rw[if_neg a,if_neg b];show c
   .let f:¬q.1=k:=λz=>e (h1<|>z)
    let a:decide (p.1≠k)=true:=by simp[e]
    let b:decide (q.1≠k)=true:=by simp[f]
    rw[if_pos a,if_pos b];show .cons #[h1,h2] c
def KV.keys{vs:List (κ×ε)}(r:KV Ϸ vs):Ϸ.map (·.1)=vs.map (·.1):=by
 unfold KV at r;induction r with
 |nil=>rfl
 |cons h t a=>rw[acY,acY,a,h.1]
theorem KV.length{vs:List (κ×ε)}(r:KV Ϸ vs):↥Ϸ=↥vs:=Paired.length r
theorem adM(Ϸ:List (κ×V))(k:κ):↥(gf Ϸ k)<=↥Ϸ:=ahD _ _
end
def pG(r:RelV (kV k) u):(gH P w).is k u=true:=by
 cases k with
 |inl i=>let#[t,e]:=(show ∃t,u=Value.int i t from r);subst e;show af0 P w i t
 |inr x=>let#[t,e]:=(show ∃t,u=Value.str x t from r);subst e;show aeT P w x t
theorem abT(ok:aG P w H h)(e:Rd H a u):ώ P w H h a u:=e.ok ok
theorem lJ(ok:aG P w H h)(e:Rd H a (.dK Ϸ)):↥Ϸ<=ϰ/\(a==sysModules)=false/\∃vs,KV Ϸ vs/\h.DictOf (gH P w) a vs:=
 show ώ P w H h a (.dK Ϸ)from abT ok e
theorem uH(ok:aG P w H h)(e:H a=↑(.dK Ϸ)):↥Ϸ<=ϰ/\(a==sysModules)=false/\∃vs,KV Ϸ vs/\h.DictOf (gH P w) a vs:=lJ ok (.inl e)
def aq(H:Hp)(a:δ)(y:V)(r:Option V):Prop:=
 (∃Ϸ k,Rd H a (.dK Ϸ)/\y=kV k/\r=aA Ϸ k)\/False
def dW(H:Hp)(a:δ)(y v:V)(H':Hp):Prop:=
 (∃Ϸ k,H a=↑(.dK Ϸ)/\y=kV k/\↥Ϸ<ϰ/\H'=upd H a (.dK (putK Ϸ k v)))\/False
theorem aq.k{H:Hp}{a:δ}{k:Key}(e:H a=↑(.dK Ϸ)):aq H a (kV k) (aA Ϸ k):=.inl #[Ϸ,k,.inl e,rfl,rfl]
theorem dW.k{H:Hp}{a:δ}{k:Key}{v:V}(e:H a=↑(.dK Ϸ))(hl:↥Ϸ<ϰ):dW H a (kV k) v (upd H a (.dK (putK Ϸ k v))):=.inl #[Ϸ,k,e,rfl,hl,rfl]
section
variable{X:Cx}{ϵ:List (δ×Obj)}{σ:St}{H:Hp}{s:μ}{a:δ}{y v:V}{u r:ε}{o:Option V}{A:ϴ}{E:ε->μ->Prop}
def Inv.big(I:Inv X ϵ σ H s):sysModules<⇑s:=by
 let h:mainGlobals<⇑s:=(I.mod.glob.keeps I.bk).lt;show Nat.lt_trans (by decide) h
def alS(n:A.units+1<cLine)(I:Inv X ϵ σ H s)(g:aq H a y ↑v)(ry:RelV y u)(h:∀c s',Inv X ϵ σ H s'->RelV v c->Q c s'):π ∅ A (getItem (.ref a) u) Q E s:=by
 obtain⟨Ϸ,k,e,j,l⟩|hF:=g
 .subst j;let#[z,hd,vs,f,dd]:=lJ I.hok e;let#[c,m,i]:=dj.some_of (v:=v) (o:=valueAt vs k) (by rw[l];show f.val k);show wpAny_getItem_of (pG ry) dd.mapOf m (h c _ (I.tok _) i)
 .show hF.elim
def anp(i:A.units+1<cLine)(I:Inv X ϵ σ H s)(g:aq H a y o)(ry:RelV y u)(h:∀s',Inv X ϵ σ H s'->Q (.bool o.isSome) s'):π ∅ A (adF .In u (.ref a)) Q E s:=by
 obtain⟨Ϸ,k,e,f,l⟩|hF:=g
 .subst f;let#[z,hd,vs,c,dd]:=lJ I.hok e;show wpAny_in_of (pG ry) hd dd.mapOf ?_;rw[<-(c.val k).isSome_eq, <-l];show h _ (I.tok _)
 .show hF.elim
def afR(i:A.units+1<cLine)(I:Inv X ϵ σ H s)(g:aq H a y o)(ry:RelV y u)(h:∀s',Inv X ϵ σ H s'->Q (.bool (!o.isSome)) s'):π ∅ A (adF .NotIn u (.ref a)) Q E s:=by
 obtain⟨Ϸ,k,e,f,l⟩|hF:=g
 .subst f;let#[z,hd,vs,c,dd]:=lJ I.hok e;show wpAny_notIn_of (pG ry) hd dd.mapOf ?_;rw[<-(c.val k).isSome_eq, <-l];show h _ (I.tok _)
 .show hF.elim
theorem IK(I:Inv X ϵ σ H s)(f:vO (H a))(hs:ak7 a s.heap h')(g:∃q,h'.get? a=↑q)(new:ώ X.prog X.w (upd H a c) h' a c):Inv X ϵ σ (upd H a c) {s with heap:=h',toks:=t'}:=
 I.write (x:=a) (e:=a) f (.inl rfl) (λb q i z=>(hs.2 b i).trans z) g new
theorem xW(z:↥Ϸ<=ϰ)(hd:(a==sysModules)=false)(c:KV Ϸ vs)(dd:h'.DictOf (gH P w) a vs):ώ P w H' h' a (.dK Ϸ):=#[z,hd,vs,c,dd]
def acH(x:A.units+1<cLine)(I:Inv X ϵ σ H s)(g:dW H a y v H')(ry:RelV y u)(i:RelV v r)(h:∀s',Inv X ϵ σ H' s'->Q PUnit.unit s'):π ∅ A (setItem (.ref a) u r) Q E s:=by
 obtain⟨Ϸ,k,e,j,l,m⟩|hF:=g
 .subst j m;let#[z,hd,vs,c,dd]:=uH I.hok e;let n:↥vs<=ϰ:=by rw[<-↥c];show z
  let hl:↥(putK Ϸ k v)<=ϰ:=by have:=Oh Ϸ k v;omega
  show wpAny_setItem_pairs (hsz:=n) (pG ry) dd λh' f hs=>h _ ?_
  let p:∃q,h'.get? a=↑q:=let⟨q,_,_,hq,_⟩:=f;#[q,hq];show IK I (by rw[e];show True.intro) hs p (xW hl hd (c.put k i) f)
 .show hF.elim
end
section
variable{X:Cx}{ϵ:List (δ×Obj)}{σ:St}{H:Hp}{s:μ}{a:δ}{Ϸ:List (Key×V)}{k:Key}{u:ε}{A:ϴ}{E:ε->μ->Prop}
def agp(I:Inv X ϵ σ H s)(e:H a=↑(.dK Ϸ))(ry:RelV (kV k) u)(l:aA Ϸ k=↑v)(n:c=[]\/∃x,c=[x])(h:∀g s',Inv X ϵ σ (upd H a (.dK (gf Ϸ k))) s'->RelV v g->Q g s'):π ∅ A (call (.builtin "dict.pop") (.ref a::u::c)) Q E s:=by
 let#[z,hd,vs,f,dd]:=uH I.hok e;let#[g,p,m]:=dj.some_of (v:=v) (o:=valueAt vs k) (by rw[<-l];show f.val k);let y:(keyPart u).isSome=true:=by
  cases k with
  |inl i=>let#[t,q]:=(show ∃t,u=Value.int i t from ry);subst q;rfl
  |inr x=>let#[t,q]:=(show ∃t,u=Value.str x t from ry);subst q;rfl
 let ha:argsOk "dict.pop" #[.ref a::u::c,[]]:=by
  obtain q|⟨x,q⟩:=n
  .subst q;show F.args_dict_pop_2 _ _
  .subst q;show F.args_dict_pop_3<*_
 show call_meetsIn F.slot_dict_pop dd.typeIs F.entry_dict_pop ha (meets_dict_pop_there (gH X.prog X.w) a (pG ry) c n y)
  #[vs,g,dd,by rw[<-↥f];show z,p,λh' j hs=>h g _ ?_ m]
 let B:∃q,h'.get? a=↑q:=let⟨q,_,_,hq,_⟩:=j;#[q,hq];show IK I (by rw[e];show True.intro) hs B (xW (ad7 (adM Ϸ k) z) hd (f.drop k) j)
end
def aio{X:Cx}{σ:St}{H:Hp}{s:μ}{a:δ}{y:V}{o:Option V}(I:Inv X ϵ σ H s)(g:aq H a y o):s.TypeIs (.ref a) "dict":=by
 obtain⟨Ϸ,k,e,_,_⟩|hF:=g
 .let#[_,_,vs,_,dd]:=lJ I.hok e;show dd.typeIs
 .show hF.elim
theorem Qo(h:ϫ)(a:sysModules<h.objs.size):ώ P w H (h.push {cls:=.type "dict",data:=.dict #v[]}) h.objs.size (.dK []):=
 #[aeG _,beq_eq_false_iff_ne.mpr (Ne.symm (acu a)),[],.nil,Heap.DictOf.new h]
def aeD:TE:=λ_ H Q=>∀p,H p=none->Q (.ref p) (upd H p (.dK []))
theorem aev:PE X (.Dict [] [] pos) aeD:=λϵ s σ H Q I h=>
 wpAny_Dict_empty #[.ref ⇑s,_,I.laid (a:=⇑s) (o:=.dK []) (t':=s.toks) (λ_ _ q=>ϲ _ q) (Ϭ _) (Qo s.heap I.big),rfl,h _ (I.hok.fresh (Ϭ _))]
def Jp:List (TE×TE)->St->Hp->(List (V×V)->Hp->Prop)->Prop
 |[],_,H,Q=>Q [] H
 |(tk,tv)::r,σ,H,Q=>tk σ H λx H1=>tv σ H1 λy H2=>Jp r σ H2 λps a=>Q ((x,y)::ps) a
abbrev VV:List (V×V)->List (ε×ε)->Prop:=Paired λp q=>RelV p.1 q.1/\RelV p.2 q.2
def xN(X:Cx)(pos:Pos)(keys:List (Option ϩ))(a:List ϩ)(c:List (TE×TE)):Prop:=
 ∀(ϵ:List (δ×Obj))(s:μ)(σ:St)(H:Hp)(Q:List (V×V)->Hp->Prop),Inv X ϵ σ H s->Jp c σ H Q->
  π ∅ X.A (evalPairs (pairTrees keys a X.env pos)) (λvs s'=>∃ps H',Inv X ϵ σ H' s'/\VV ps vs/\Q ps H') X.xe s
theorem ala:xN X pos [] [] []:=λϵ s σ H Q I h=>pairTrees_nil_walk #[[],H,I,.nil,h]
theorem La(e:PE X k tk)(f:PE X v tv)(g:xN X pos ks vs a):xN X pos (↑k::ks) (v::vs) ((tk,tv)::a):=λϵ s σ H Q I h=>
 pairTrees_cons_walk (χ (e ϵ s σ H _ I h) λu i _u=>_Z.e23 _u λx H1 j rx l=>χ (f ϵ i σ H1 _ j l) λD m _u=>_Z.e23 _u λy H2 n ry p=>
  χ (g ϵ m σ H2 _ n p) λws E z1=>by let#[ps,q,z,c,B]:=z1;show #[(x,y)::ps,q,z,.cons #[rx,ry] c,B])
def mQ(Ϸ a:List (Key×V)):List (Key×V):=a.foldl (λc e=>putK c e.1 e.2) Ϸ
def KV.merge:∀{a:List (Key×V)}{rs:List (Key×ε)}{Ϸ:List (Key×V)}{vs:List (Key×ε)},KV a rs->KV Ϸ vs->KV (mQ Ϸ a) (merged vs rs):=by
 intro a rs Ϸ vs r;unfold KV at r;induction r generalizing Ϸ vs with
 |nil=>intro q;show q
 | @cons p q ps g h t c=>
   intro f;let e:KV (putK Ϸ p.1 p.2) (stored vs q.1 q.2):=by
    have:=f.put p.1 h.2;rw[<-h.1];show this
   show c e
theorem Yu:∀(a Ϸ:List (Key×V)),↥(mQ Ϸ a)<=↥Ϸ+↥a
 |[],Ϸ=>by show ↥Ϸ<=↥Ϸ+0;omega
 |p::r,Ϸ=>by
  let h1:=Yu r (putK Ϸ p.1 p.2);let h2:=Oh Ϸ p.1 p.2;show(mQ (putK Ϸ p.1 p.2) r).length<=_;rw[acD];omega
theorem Oq:∀{Ϸ:List (Key×V)}{ws:List (ε×ε)},VV (Ϸ.map λe=>(kV e.1,e.2)) ws->∃rs,Carries (gH P w) ws rs/\KV Ϸ rs
 |[],_,r=>by rw[auj]at r;cases r;show#[[],True.intro,.nil]
 |p::Ϸ,_,r=>by
  rw[acY]at r;cases r with
  | @cons a b as bs h t=>
    let#[rs,c,q]:=Oq (P:=P) (w:=w) t;let#[g,f]:=b;show#[(p.1,f)::rs,#[pG h.1,rfl,c],.cons #[rfl,h.2] q]
def aeS(a:List (TE×TE)):TE:=λσ H Q=>∀p,H p=none->Jp a σ (upd H p (.dK [])) λps H2=>H2 p=↑(.dK [])/\∃Ϸ:List (Key×V),ps=Ϸ.map (λc=>(kV c.1,c.2))/\↥Ϸ<=15/\Q (.ref p) (upd H2 p (.dK (mQ [] Ϸ)))
def aca(h:xN X pos keys f g)(i:keys.all (·.isSome)=true)(hl:↥keys=↥f)(p:keys≠[])(l:↥keys<=15):PE X (.Dict keys f pos) (aeS g):=by
 intro ϵ s σ H Q I q;let hn:=I.hok.fresh (Ϭ ⇑s);let u:=I.laid (a:=⇑s) (o:=.dK []) (h':=s.heap.push {cls:=.type "dict",data:=.dict #v[]}) (t':=s.toks) (λ_ _ q=>ϲ _ q) (Ϭ _) (Qo s.heap I.big);show wpAny_Dict_walk (knd:=gH X.prog X.w) i hl p l (χ (h ϵ _ σ _ _ u (q _ hn)) λws F v=>?_);let#[ps,H2,n,m,e,Ϸ,ep,lk,x]:=v;subst ep;let#[rs,c,rk]:=Oq (P:=X.prog) (w:=X.w) m;let#[z,hd,y,B,dd]:=uH n.hok e;cases B;show#[rs,c,dd,λh' j hs=>#[.ref ⇑s,_,?_,rfl,x]];let D:↥(mQ [] Ϸ)<=ϰ:=by
  let h1:=Yu Ϸ [];rw[aqy]at h1;rw[ϯ];omega
 let E:∃q,h'.get? ⇑s=↑q:=let⟨q,_,_,hq,_⟩:=j;#[q,hq];show IK n (by rw[e];show True.intro) hs E (xW D hd (rk.merge .nil) j)
structure M1(X:Cx)(o:ϩ)(m:Str)(apos:Pos)(e:ϩ)(cpos:Pos):Prop where
 base:attributeBase o m X.env (eval o X.env)=eval o X.env
 few:((backTo cpos (abr [e] X.env)).all (λx=> !x.1)&&(backToKw cpos (keywordEach [] X.env)).all (λx=>x.1.isSome)
  &&decide (↥([e]:List ϩ)+↥([]:List Keyword)+(if([]:List Keyword).isEmpty then 0 else 1)<30))=true
 line:(apos.endLine==cpos.line)=true
 trees:backTo cpos (abr [e] X.env)=[(false,eval e X.env)]
structure M2(X:Cx)(o:ϩ)(m:Str)(apos:Pos)(e f:ϩ)(cpos:Pos):Prop where
 base:attributeBase o m X.env (eval o X.env)=eval o X.env
 few:((backTo cpos (abr [e,f] X.env)).all (λx=> !x.1)&&(backToKw cpos (keywordEach [] X.env)).all (λx=>x.1.isSome)
  &&decide (↥([e,f]:List ϩ)+↥([]:List Keyword)+(if([]:List Keyword).isEmpty then 0 else 1)<30))=true
 line:(apos.endLine==cpos.line)=true
 trees:backTo cpos (abr [e,f] X.env)=[(false,eval e X.env),(false,eval f X.env)]
def pH(H:Hp)(a:δ):Prop:=(∃Ϸ,Rd H a (.dK Ϸ))\/False
def MJ{X:Cx}{σ:St}{H:Hp}{s:μ}{a:δ}(I:Inv X ϵ σ H s)(d:pH H a):s.TypeIs (.ref a) "dict"/\(∀b,Value.ref a=.ref b->∃c,s.heap.get? b=↑c/\c.dict=none)/\(a==sysModules)=false:=by
 obtain⟨Ϸ,e⟩|hF:=d
 .let#[_,hd,vs,_,dd]:=lJ I.hok e;show#[dd.typeIs,λb q=>?_,hd];cases q;let#[c,_,_,h1,h2,_]:=dd;show#[c,h1,h2.2.1]
 .show hF.elim
section
variable{X:Cx}{ϵ:List (δ×Obj)}{σ:St}{H:Hp}{s:μ}{a:δ}{y d:V}{u r:ε}{o:Option V}{A:ϴ}{E:ε->μ->Prop}
def aoh(j:A.units+1<cLine)(I:Inv X ϵ σ H s)(g:aq H a y o)(ry:RelV y u)(h:∀f s',Inv X ϵ σ H s'->RelV (o.getD .non) f->Q f s'):π ∅ A (call (.builtin "dict.get") [.ref a,u]) Q E s:=by
 obtain⟨Ϸ,k,e,i,l⟩|hF:=g
 .subst i;let#[z,hd,vs,c,dd]:=lJ I.hok e;show call_meetsIn F.slot_dict_get dd.typeIs F.entry_dict_get (F.args_dict_get_2 _ _) (meets_dict_get (gH X.prog X.w) a (pG ry) hd) #[_,dd.mapOf,h _ _ (I.tok _) ?_];rw[l];show(c.val k).getD rfl
 .show hF.elim
end
section
variable{X:Cx}{ϵ:List (δ×Obj)}{σ:St}{H:Hp}{s:μ}{a:δ}{Ϸ:List (Key×V)}{A:ϴ}{E:ε->μ->Prop}
def aeW(I:Inv X ϵ σ H s)(e:Rd H a (.dK Ϸ))(h:∀p s',H p=none->Inv X ϵ σ (upd H p (.dK Ϸ)) s'->Q (.ref p) s'):π ∅ A (call (.type "dict") [.ref a]) Q E s:=by
 let#[z,hd,vs,c,dd]:=lJ I.hok e;show kt_call_dict hd dd (by rw[<-↥c];show z) λh' f hs=>?_
 show h _ _ (I.hok.fresh (Ϭ _)) (I.laid (a:=⇑s) (o:=.dK Ϸ) (t':=s.toks) (λb q g=>?_) (Ϭ _) (xW z (beq_eq_false_iff_ne.mpr (Ne.symm (acu I.big))) c f))*>(hs.2 b (acu (abA g))).trans (ϲ _ g)
end
end _L
namespace _L
open PySem PySem.Spec PyProof.Rows
section
variable{P:Ϯ}{w:ϭ}{K:Ϩ}{mg:MG}{base:ϫ}
def dm.binds{x qual:Str}{st:Ϧ}{f:δ}{fd:aik}(F:dm K x qual st f fd)(h:∀(kV a pm:ε)(an:Option δ)(c ct:ε)(us:List ε),↥us=↥ps->bindArgs (as3 x qual (kW st) (ϓ st) (υ st) .none kV a pm an c ct) #[us,[]]=pure (ps.zip us)):Binds K fd ps []:=by
 let#[oc,od,kV,a,pm,an,c,ct,e,rfl,lk,g]:=F.ex;show .all (h kV a pm an c ct)
end
def ady{A B:Prop}(h:B):if false=true then A else B:=by
 rw[if_neg aaD];show h
def afD{A B:Prop}(h:A):if true=true then A else B:=by
 rw[if_pos rfl];show h
def ζ(H H':Hp):=∀b o,H b=↑o->H' b=↑o
theorem ζ.refl(H:Hp):ζ H H:=λ_ _ h=>h
theorem ζ.trans(a:ζ H H1)(b:ζ H1 H2):ζ H H2:=λc o h=>b c o (a c o h)
def ζ.free(e:ζ H H')(h:H' l=Option.none):H l=Option.none:=by
 cases q:H l with
 |none=>rfl
 |some o=>
  rw[e l o q]at h;cases h
def ζ.seq{K:Ϩ}{H H':Hp}{a:δ}(e:ζ H H')(h:η K H a xs):η K H' a xs:=by
 rcases h with(h|⟨o,h⟩)|h
 .show .inl (.inl (e<*h))
 .show .inl (.inr #[o,e<*h])
 .show .inr h
theorem rm.stay(k:∀v o ws,v≠e->h.get? v=↑o->o.data=.fields ws->∃o' f,h'.get? v=↑o'/\o'.data=.fields f/\f[2]?=ws[2]?):∀{l:List δ}{c:Option ε},rm h c l->e∉l->rm h' c l
 |[],_,q,_=>q
 |a::r,c,⟨g,o,vs,i,j,m⟩,n=>by
  let#[o',f,k1,k2,k3]:=k a o vs (λz=>n (by simp[z])) i j;show#[g,o',f,k1,k2,?_];rw[k3];show rm.stay k m λz=>n (by simp[z])
theorem Ctx.yes(q:c=↑.none):Ctx h e true c:=#[λ_=>q,[],q,by simp,.nil]
def Ctx.stay(q:Ctx h e b c)(k:∀v o ws,v≠e->h.get? v=↑o->o.data=.fields ws->∃o' a,h'.get? v=↑o'/\o'.data=.fields a/\a[2]?=ws[2]?):Ctx h' e b c:=by
 let#[g,l,i,f,j]:=q;show#[g,l,i.stay k f,f,j]
def aG.free(x:aG P w H h)(e:h.get? a=none):H a=none:=by
 cases q:H a with
 |none=>rfl
 |some u=>
  let#[c,z]:=(x a u q).there;rw[e]at z;cases z
section
variable{M:Model}{A:ϴ}{E:ε->μ->Prop}{s:μ}
def Mz(i:A.frames=↑(env::outer))(hl:s.heap.FunFrames base (env::outer))(y:env.frame=↑L)(p:s.heap.get? e=↑oe)(hd:oe.data=.fields vs)(hsz:1<vs.size)(k:∀(h':ϫ)(T:δ)(u:Obj)(ws:Array ε),⇑s<=h'.objs.size->(∀b o,s.heap.get? b=↑o->b≠e->b∉dJ (env::outer)->h'.get? b=↑o)->
   (∀b o,s.heap.get? b=↑o->b≠e->∃sl,h'.get? b=some {o with slots:=sl})->⇑s<=T->h'.get? e=↑(oe.mapFields (·.setIfInBounds 1 (.ref T)))->
   h'.get? T=↑u->u.data=.fields ws->ws[3]?=↑(rawInt L)->Q PUnit.unit {s with heap:=h'}):π M A (do
   let a<-frameOf env;let pl<-entryPlaceOf L c;let b<-EntryCells.newEntry head a .none (rawInt L) .none pl
   setField (.ref e) 1 b) Q E s:=by
 let z:e∉(env::outer).filterMap (·.frame):=λm=>by
  let#[_,o,v,B]:=hl.mem m;rw[p]at v;cases v;show B vs hd
 show ν (wpAny_frameOf_fun i hl y λh1 g=>ν (wpAny_entryPlaceOf λpl x=>?_));unfold EntryCells.newEntry newFields;show ν (ai1 ?_ (x.sizeOk5 _ _ _ _ _));let e1:h1.get? e=↑oe:=(g.2.1 e z)<|>p;let j:e≠h1.objs.size:=acu (abA e1);show wpAny_setField (ϲ _ e1) hd hsz (k _ h1.objs.size {cls:=.type "traceback",dict:=none,data:=.fields (([head,.ref L,.none,rawInt L,.none]:List ε)++(if pl.isEmpty then ahh 6 Value.none else pl)).toArray} (([head,.ref L,.none,rawInt L,.none]:List ε)++(if pl.isEmpty then ahh 6 Value.none else pl)).toArray ?_ (λb o l f n=>?_) (λb o l f=>?_) (anR g.1.symm) ?_ ?_ ?_ ?_)
 .rw[asH,ajp,g.1];show ap1 _
 .rw[acR<*(Ne.symm f)];show ϲ _ ((g.2.1 b n)<|>l)
 .let#[sl,q]:=g.2.2 b o l;show#[sl,by rw[acR<*(Ne.symm f)];show ϲ _ q]
 .show aeY _ (ϲ _ e1) (Obj.isFreed_of_fields (Obj.data_mapFields hd _))
 .rw[acR<*j];show abj h1 rfl
 .show rfl
 .first
   |(simp;done)
   |(obtain rfl|⟨_,_,_,_,_,_,_,rfl⟩:=x<;>simp)
structure uR(h h':ϫ)(ch fs:List δ):Prop where
 keep:∀b o,h.get? b=↑o->b∉fs->b∉ch->h'.get? b=↑o
 slot:∀b o,h.get? b=↑o->b∉ch->∃sl,h'.get? b=some {o with slots:=sl}
 there:∀b o,h.get? b=↑o->∃o',h'.get? b=↑o'
def aaX(p:A.frames=↑(env::outer))(hl:s.heap.FunFrames base (env::outer))(J:env.frame=↑L)(F:bU s.heap e cls d tb fl)(O:(fl==rawInt L)=false)(k:∀(h':ϫ)(T:δ),uR s.heap h' (e::tb.toList) (dJ (env::outer))->⇑s<=T->bU h' e cls d ↑T (rawInt L)->Q PUnit.unit {s with heap:=h'}):π M A (noteFrame (.ref e) env) Q E s:=by
 let#[P,vs,m,hc,R,hd,h1,hz,h2,ht]:=F
 let fin:∀{S:ϫ}{h':ϫ}{T:δ}{n:Obj}{ws:Array ε},(∀v o ws,v≠e->s.heap.get? v=↑o->o.data=.fields ws->∃o' u,h'.get? v=↑o'/\o'.data=.fields u/\u[2]?=ws[2]?)->S.get? e=↑P->S.objs.size<=T->h'.get? e=↑(P.mapFields (·.setIfInBounds 1 (.ref T)))->h'.get? T=↑n->n.data=.fields ws->
   ws[3]?=↑(rawInt L)->bU h' e cls d ↑T (rawInt L):=λ{S h' T n ws} kk e0 hT a g f q4=>by
  let U:=Obj.data_mapFields hd (·.setIfInBounds 1 (Value.ref T));show#[_,_,a,(Obj.cls_mapFields _ _)<|>hc,?_,U,?_,~~~hz,?_,λT' eT=>?_]
  .let#[c0,d0,dt,sl]:=P;cases hd;show R
  .have :1<vs.size:=()
   simp[this]
  .rw[aix (by decide)];show h2.stay kk
  .cases eT;show#[λz=>aiF _ (acp (abA e0) (z▸hT)),n,ws,g,f,q4]
 unfold noteFrame;simp only[J];cases tb with
 |none=>
  let l:vs[1]?=↑Value.none:=h1;show ν (ahc m hd l ?_);rw[if_neg (by decide)];show Mz p hl J m hd () λh' T n ws a1 W j x y X Y Z=>k h' T #[λb o a g f=>W b o a (λz=>f (by simp[z])) g,λb o a f=>j b o a λz=>f (by simp[z]),λb o a=>?_] x (fin (λv o ws H a g=>by let#[sl,q]:=j v o a H;show#[_,ws,q,g,rfl]) m x y X Y Z)
  by_cases z:b=e
  .subst z;show#[_,y]
  .let#[sl,q]:=j b o a z;show#[_,q]
 |some i=>
  let#[Ϲ,oT0,aa,B,I,t3]:=ht i rfl;let l:vs[1]?=↑(Value.ref i):=h1;show ν (ahc m hd l ?_);rw[if_pos (show(Value.ref i !=Value.none)=true from by simp)];show ν (ahc B I t3 ?_);rw[if_neg (by rw[O];show aaD)];show ν (wpAny_setField B I (akh.mp t3).1 ?_);let c:∀b,b≠i->(s.heap.update i (Obj.mapFields (·.setIfInBounds 3 Value.none))).get? b=s.heap.get? b:=λb D=>acR _ _ (Ne.symm D)
  let QD:=aeY (Obj.mapFields (·.setIfInBounds 3 Value.none)) B (Obj.isFreed_of_fields (Obj.data_mapFields I _));let hsz:(s.heap.update i (Obj.mapFields (·.setIfInBounds 3 Value.none))).objs.size=⇑s:=asH ..;let ab:(s.heap.update i (Obj.mapFields (·.setIfInBounds 3 Value.none))).FunFrames base (env::outer):=hl.of_keeps λb o D nf=>#[o,(c b λz=>by
   subst z;rw[B]at D;cases D;show nf aa I).trans D,rfl]
  show Mz (s:={s with heap:=s.heap.update i (Obj.mapFields (·.setIfInBounds 3 Value.none))}) p ab J ((c e (Ne.symm Ϲ))<|>m) hd () λh' T n ws a1 W j x y X Y Z=>
   k h' T #[λb o a g f=>W b o ((c b λz=>f (by simp[z]))<|>a) (λz=>f (by simp[z])) g,λb o a f=>j b o ((c b λz=>f (by simp[z]))<|>a) λz=>f (by simp[z]),λb o a=>?_] (hsz▸x) (fin (λv o ws H a g=>by
     by_cases G:v=i
     .subst G;let#[sl,q]:=j v _ QD H;rw[B]at a;cases a;show#[_,_,q,Obj.data_mapFields g _,by rw[aix (by decide)]]
     .let#[sl,q]:=j v o ((c v G)<|>a) H;show#[_,ws,q,g,rfl]) ((c e (Ne.symm Ϲ))<|>m) x y X Y Z)
  by_cases z:b=e
  .subst z;show#[_,y]
  .by_cases G:b=i
   .subst G;let#[sl,q]:=j b _ QD z;show#[_,q]
   .let#[sl,q]:=j b o ((c b G)<|>a) z;show#[_,q]
theorem aka(a:A.frames=↑(env::outer))(hl:s.heap.FunFrames base (env::outer))(c:env.frame=↑L)(F:bU s.heap e cls d tb .none)(k:∀(h':ϫ)(T:δ),uR s.heap h' (e::tb.toList) (dJ (env::outer))->⇑s<=T->bU h' e cls d ↑T (rawInt L)->Q PUnit.unit {s with heap:=h'}):π M A (noteFrame (.ref e) env) Q E s:=
 aaX a hl c F (by simp[rawInt]) k
def af1{L e:δ}{cls:ε}{d:Option δ×Bool}{tb:Option δ}{Q:Unit->μ->Prop}(a:env.frame=↑L)(F:bU s.heap e cls d tb (rawInt L))(c:tb.isSome=true)(k:Q PUnit.unit s):π M A (noteFrame (.ref e) env) Q E s:=by
 let#[n,vs,f,p,g,hd,h1,q,h2,i]:=F;cases tb with
 |none=>cases c
 |some T=>
  let#[_,u,ws,j,l,m]:=i T rfl;show wpAny_noteFrame_inFlight a f hd h1 j l m k
def acF(F:bU s.heap e cls d ↑T p)(k:∀h',uR s.heap h' [T] []->bU h' e cls d ↑T .none->Q PUnit.unit {s with heap:=h'}):π M A (setFlight (.ref e) none) Q E s:=by
 let#[u,vs,i,x,f,hd,h1,y,h2,B]:=F;let#[j,H,ws,a,c,D]:=B T rfl;let l:3<ws.size:=(akh.mp D).1;show wpAny_setFlight_none i hd h1 a c l (k _ #[λb o q _ n=>?_,λb o q n=>#[o.slots,?_],λb o q=>?_] ?_)
 .rw[acR<*(λz=>n (by simp[z]))];show q
 .rw[acR<*(λz=>n (by simp[z]))];show q
 .by_cases z:b=T
  .subst z;show#[_,aeY _ a (Obj.isFreed_of_fields (Obj.data_mapFields c _))]
  .show#[o,by rw[acR<*(Ne.symm z)];show q]
 .show#[u,vs,?_,x,f,hd,h1,y,h2.stay λv o ws I g m=>?_,λJ G=>?_]
  .rw[acR<*j];show i
  .by_cases z:v=T
   .subst z;rw[a]at g;cases g;show#[_,_,aeY _ a (Obj.isFreed_of_fields (Obj.data_mapFields c _)),Obj.data_mapFields m _,by rw[aix (by decide)]]
   .show#[o,ws,by rw[acR<*(Ne.symm z)];show g,m,rfl]
  .cases G;show#[j,_,_,aeY _ a (Obj.isFreed_of_fields (Obj.data_mapFields c _)),Obj.data_mapFields c _,by simp[l]]
end
section
variable{X:Cx}{ϵ:List (δ×Obj)}{σ:St}{H H':Hp}{s s':μ}
def Ch(X:Cx)(ϵ:List (δ×Obj))(b:δ):Prop:=(b∈X.ex\/X.s₀.heap.get? b=none)/\b≠X.env.locals/\(∀x c,X.env.cells.lookup x=↑c->c≠b)/\∀p∈X.pn++ϵ,p.1≠b
def Inv.ch(I:Inv X ϵ σ H s)(h:s.heap.get? b=none):Ch X ϵ b:=by
 show#[?_,λz=>?_,λx c q z=>?_,λp g z=>?_]
 .by_cases e:b∈X.ex
  .show .inl e
  .show .inr ?_;cases q:X.s₀.heap.get? b with
   |none=>rfl
   |some o=>
    let#[o',f]:=I.base.there b o q e;rw[h]at f;cases f
 .let#[_,#[o,_,_,a,_],_]:=I.loc;rw[<-z,h]at a;cases a
 .let#[_,o,a,_]:=I.cell x c q;rw[z,h]at a;cases a
 .have :=(I.pin p g).1;rw[z,h]at this;cases this
def Inv.noted{ch:List δ}(I:Inv X ϵ σ H s)(N:uR s.heap h' ch (dJ X.stack))(i:∀b∈ch,H b=none/\Ch X ϵ b):Inv X ϵ σ H {s with heap:=h'}:=by
 let lg:∀b u,H b=↑u->b∉dJ X.stack/\b∉ch:=λb u e=>#[(λz=>by rw[I.stkFree b z]at e;cases e),(λz=>by rw[(i b z).1]at e;cases e)]
 show I.call (g':=s.gens) (d':=s.drawn) (t':=s.toks) (ch:=ch) (h':=h') #[λb o e _ a f=>N.keep b o e a f,λb o e _ _ f=>N.slot b o e f,λ_ _ _ n _=>n,λb o e _=>N.there b o e,λ_ _ e=>e,λ_ _ _ e=>e,λb ps e=>#[#v[],by rw[e];simp]] ?_ I.bare λb a=>(i b a).2
 intro b u e;show(I.hok b u e).stay (λc v g q=>?_) (λ_ q=>q) λ_ _ q=>q
 obtain z|z:=g
 .subst z;show N.keep c v q (lg c u e).1 (lg c u e).2
 .show N.keep c v q (lg c _ z).1 (lg c _ z).2
def u6(X:Cx)(ϵ:List (δ×Obj))(σ:St)(H:Hp)(s:μ)(e:δ)(cls:ε)(d:Option δ×Bool):Prop:=
 Inv X ϵ σ H s/\∃tb a,bU s.heap e cls d tb a/\(a=.none\/(a=rawInt X.env.locals/\tb.isSome=true))/\∀b∈e::tb.toList,H b=none/\Ch X ϵ b
def cQ(X:Cx)(Kx:St->XK):=∀(ϵ:List (δ×Obj))(σ:St)(H:Hp)(s:μ)(e:δ)(cls:ε)(d:Option δ×Bool),u6 X ϵ σ H s e cls d->Kx σ cls d H->X.xe (.ref e) s
def Inv.flown(I:Inv X ϵ σ H s)(c:cJ X.prog X.w X.stack H s E x s'):∃e cls d H',x=.ref e/\u6 X ϵ σ H' s' e cls d/\E cls d H':=by
 let#[e,tb,cls,d,H',rfl,os,bare,un,hok,F,ch,q]:=c;let f:Inv X ϵ σ H' s':=I.call' (ch:=[]) os un hok bare λb z=>absurd z (by simp)
 show#[e,cls,d,H',rfl,#[f,tb,.none,F,.inl rfl,λb a=>#[(ch b a).1,I.ch (ch b a).2]],q]
theorem XR(h:X.xe=λ_ _=>False):cQ X (λ_ _ _ _=>False):=λ_ _ _ _ _ _ _ _ z=>z.elim
def u6.note(x:u6 X ϵ σ H s e cls d)(a:X.stack=X.env::X.outer)(f:X.env.frame=↑X.env.locals)(k:∀s' T,Inv X ϵ σ H s'->bU s'.heap e cls d ↑T (rawInt X.env.locals)->(∀b∈[e,T],H b=none/\Ch X ϵ b)->Q PUnit.unit s'):π M X.A (noteFrame (.ref e) X.env) Q E s:=by
 let#[I,tb,l,F,c,ch]:=x;obtain z|⟨z,i⟩:=c
 .subst z;let hl:=I.stack;rw[a]at hl;show aka (base:=X.base) (I.ok.frames<|>(by rw[a])) hl f F λh' T N g F'=>k _ T (I.noted (by rw[a];show N) ch) F' λb j=>?_
  obtain z|z:=aaB.mp j
  .subst z;show ch _ ad8
  .let z':b=T:= ~~~z
   subst z';show#[I.hok.fresh g,I.ch (ajf g)]
 .subst z;cases tb with
  |none=>cases i
  |some T=>show af1 f F rfl (k s T I F ch)
def Inv.off(I:Inv X ϵ σ H s)(F:bU s.heap e cls d ↑T a)(c:∀b∈[e,T],H b=none/\Ch X ϵ b)(k:∀s',Inv X ϵ σ H s'->bU s'.heap e cls d ↑T .none->Q PUnit.unit s'):π M A (setFlight (.ref e) none) Q E s:=by
 show acF F λh' N F'=>k _ (I.noted (ch:=[T]) #[λb o q _ n=>N.keep b o q (by simp) n,N.slot,N.there] λb f=>?_) F'
 let z:b=T:= ~~~f
 subst z;show c b (by simp)
end
def Ϝ{cc:Bool}{P:Ϯ}{w:ϭ}{K:Ϩ}{mg:MG}{base:ϫ}{qual:Str}{scope:ahx}{f:δ}{cd:ε}{A:ϴ}{s₀:μ}{H₀:Hp}{E:XK}:cQ (mR cc (cJ P w) P w K mg base N qual scope f cd A outer s₀ H₀ E) (λ_=>E):=by
 intro ϵ σ H s e cls d x q;show π _ _ (leaving _ _) _ _ s;unfold leaving;show ν (x.note rfl rfl λl T c g c1=>?_)*>c.off g c1 λm a i=>?_
 show#[e,↑T,cls,d,H,rfl,a.os,a.bare,a.base,a.hok,i,λb j=>?_,q];let z:=c1 b (~~~j);show#[z.1,?_];obtain y|y:=z.2.1
 .show absurd (show b∈([]:List δ)from y) (by simp)
 .show y
theorem acb{cc:Bool}{P:Ϯ}{w:ϭ}{K:Ϩ}{mg:MG}{base:ϫ}{qual:Str}{scope:ahx}{f:δ}{cd:ε}{A:ϴ}{s₀:μ}{H₀:Hp}{E:XK}:akR (ϧ P w) (A.deeper (envOfC qual scope ⇑s₀ f cd)) (envOfC qual scope ⇑s₀ f cd) (mR cc (cJ P w) P w K mg base N qual scope f cd A outer s₀ H₀ E).xe:=PassesOwn.leaving
section
variable{X:Cx}{Kx:St->XK}{cc:Bool}{k k':Nat}{f C:δ}{fd:aik}{ps:List Str}{sp:Sp}{x m:Str}{p pos apos:Pos}{e o:ϩ}{es:List ϩ}{σ:St}{H:Hp}{Q:VK}
def uM(F:dF X.prog X.w X.K X.mg X.base (cJ X.prog X.w) cc k f fd ps sp)(i:ϗ cc k X.A)(j:Binds X.K fd ps [])(l:cQ X Kx)(I:Inv X ϵ σ H s)(r:Vals vs us)(h:sp vs H Q (Kx σ)):π ∅ X.A (call (.ref f) us) (EP X ϵ σ Q) X.xe s:=by
 let hl:↥us=↥ps:=by rw[<-↥r];show F.len _ _ _ _ h
 let c:=j s us I.kIn (~~~hl);rw[alR]at c;show aqn (ajk (F.run X.A X.stack s H #[us,[]] us vs Q (Kx σ) i I.env0 c r h) λr s' g=>?_);cases r with
 |error e=>
  let#[a,cls,d,H',rfl,m,q]:=I.flown g;show l ϵ σ H' s' a cls d m q
 |ok n=>
  cases n with
  |ret u=>show I.after g
  |next=>show False.elim g
  |brk=>show False.elim g
  |cont=>show False.elim g
end
def EV(X:Cx)(e:ϩ)(σ:St)(H:Hp)(Q:VK):Prop:=
 ∀(ϵ:List (δ×Obj))(s:μ),Inv X ϵ σ H s->π ∅ X.A (eval e X.env) (EP X ϵ σ Q) X.xe s
def ET(X:Cx)(e:ϩ)(σ:St)(H:Hp)(Q:Bool->Hp->Prop):Prop:=
 ∀(ϵ:List (δ×Obj))(s:μ),Inv X ϵ σ H s->π ∅ X.A (isTrue e X.env (eval e X.env)) (TP X ϵ σ Q) X.xe s
def EW(X:Cx)(e:ϩ)(σ:St)(H:Hp)(Q:Bool->Hp->Prop):Prop:=
 ∀(a:Sem ε)(ϵ:List (δ×Obj))(s:μ),Inv X ϵ σ H s->π ∅ X.A (isTrue e X.env a) (TP X ϵ σ Q) X.xe s
def EA(X:Cx)(es:List ϩ)(σ:St)(H:Hp)(Q:List V->Hp->Prop):Prop:=
 ∀(pos:Pos)(ϵ:List (δ×Obj))(s:μ),Inv X ϵ σ H s->π ∅ X.A (spliced (backTo pos (abr es X.env))) (AP X ϵ σ Q) X.xe s
def EO(X:Cx)(e:Option ϩ)(σ:St)(H:Hp)(Q:Option Int->Hp->Prop):=∃t,PO X e t/\t σ H Q
def SX(X:Cx)(st:Ϧ)(D:Ends)(σ:St)(H:Hp):Prop:=
 ∀(ϵ:List (δ×Obj))(s:μ),Inv X ϵ σ H s->π ∅ X.A (exec st X.env) (SP X ϵ D) X.xe s
def Η(X:Cx)(st:List Ϧ)(D:Ends)(σ:St)(H:Hp):Prop:=
 ∀(ϵ:List (δ×Obj))(s:μ),Inv X ϵ σ H s->π ∅ X.A (execs st X.env) (SP X ϵ D) X.xe s
def EG(X:Cx)(tg:ϩ)(v:V)(σ:St)(H:Hp)(Q:St->Hp->Prop):Prop:=
 ∀(ϵ:List (δ×Obj))(s:μ)(u:ε),Inv X ϵ σ H s->RelV v u->π ∅ X.A (assign tg X.env u) (λ_ s'=>∃σ' H',Inv X ϵ σ' H' s'/\Q σ' H') X.xe s
def wX(X:Cx)(a:List ϩ)(vs:List V)(σ:St)(H:Hp)(Q:St->Hp->Prop):Prop:=
 ∀(ϵ:List (δ×Obj))(s:μ)(us:List ε),Inv X ϵ σ H s->Vals vs us->π ∅ X.A (assignInOrder ((assignEach a X.env).map (·.2)) us) (λ_ s'=>∃σ' H',Inv X ϵ σ' H' s'/\Q σ' H') X.xe s
def EI(X:Cx)(tg iter:ϩ)(σ:St)(H:Hp)(R:It->Hp->Prop):Prop:=
 ∀(ϵ:List (δ×Obj))(s:μ),Inv X ϵ σ H s->
  π ∅ X.A (eval iter X.env) (λv a=>π ∅ X.A (pyIter v) (Ca X ϵ σ tg R) X.xe a) X.xe s
def OP(X:Cx)(f:ε->ε->Sem ε)(x y:V)(H:Hp)(Q:VK):=∃r,bu X f r/\r x y H Q
def UN(X:Cx)(f:ε->Sem ε)(x:V)(H:Hp)(Q:VK):=∃r,zA X f r/\r x H Q
def CL(X:Cx)(f:ε)(xs:List V)(H:Hp)(Q:VK):=∃r,jk X f r/\r xs H Q
def IX(X:Cx)(x y:V)(H:Hp)(Q:VK):=∃r,tZ X r/\r x y H Q
def SL(X:Cx)(x:V)(lo hi:Option Int)(H:Hp)(Q:VK):=∃r,u5 X r/\r x lo hi H Q
def MT(X:Cx)(id:String)(x:V)(xs:List V)(H:Hp)(Q:VK):=∃r,Ks X id r/\r x xs H Q
section
variable{X:Cx}{a b c e:ϩ}{es:List ϩ}{σ:St}{H:Hp}{Q:VK}{QT:Bool->Hp->Prop}{QA:List V->Hp->Prop}{D:Ends}{pos p apos:Pos}{x:Str}{v:V}
theorem dq:PE X e (EV X e):=λϵ s _ _ _ I h=>h ϵ s I
theorem ahH:PT X e (ET X e):=λϵ s _ _ _ I h=>h ϵ s I
theorem agI:PW X e (EW X e):=λa ϵ s _ _ _ I h=>h a ϵ s I
theorem aaE:PO X o (EO X o):=λϵ s σ H Q I z=>by let#[_,h,q]:=z;show h ϵ s σ H Q I q
theorem GQ{st:List Ϧ}:Iw X st (Η X st):=λϵ s _ _ _ I h=>h ϵ s I
theorem qm:bu X f (OP X f):=λϵ s σ H x y v u Q I rx ry z=>by let#[_,h,q]:=z;show h ϵ s σ H x y v u Q I rx ry q
theorem anU:zA X f (UN X f):=λϵ s σ H x v Q I rx z=>by let#[_,h,q]:=z;show h ϵ s σ H x v Q I rx q
theorem X7:jk X f (CL X f):=λϵ s σ H xs us Q I rx z=>by let#[_,h,q]:=z;show h ϵ s σ H xs us Q I rx q
theorem akx:tZ X (IX X):=λa sl ϵ s σ H x y v u Q I rx ry z hs=>by let#[_,h,q]:=z;show h a sl ϵ s σ H x y v u Q I rx ry q hs
theorem ajq:u5 X (SL X):=λϵ s σ H x v a c lo hi sl Q I rx hs pl e z=>by let#[_,h,q]:=z;show h ϵ s σ H x v a c lo hi sl Q I rx hs pl e q
theorem Xh{id:String}:Ks X id (MT X id):=λϵ s σ H x xs v us Q I rx rs z=>by let#[_,h,q]:=z;show h ϵ s σ H x xs v us Q I rx rs q
theorem vN(h:PE X e t)(q:t σ H Q):EV X e σ H Q:=λϵ s I=>h ϵ s σ H Q I q
theorem amg(h:PT X e t)(q:t σ H QT):ET X e σ H QT:=λϵ s I=>h ϵ s σ H QT I q
def fZ:List Str->St->Str->Option V
 |n::N,o::σ,x=>if n=x then o else fZ N σ x
 |_,_,_=>none
theorem LK:∀{N:List Str}{σ:St}{x:Str}{v:V},fZ N σ x=↑v->∃i:Nat,N[i]?=↑x/\σ[i]?=some ↑v
 |n::N,o::σ,x,v,h=>by
  unfold fZ at h;split at h
  .rename_i e;show#[0,by simp[e],by simp[h]]
  .let#[i,h1,h2]:=LK h;show#[i+1,~~~h1,~~~h2]
 |[],_,_,_,h=>by simp[fZ]at h
 |_::_,[],_,_,h=>by simp[fZ]at h
def nameAt:List Str->Str->Option Nat
 |n::N,x=>if n=x then some 0 else(nameAt N x).map (· +1)
 |[],_=>none
theorem mq:∀{N:List Str}{x:Str}{i:Nat},nameAt N x=↑i->N[i]?=↑x
 |n::N,x,i,h=>by
  unfold nameAt at h;split at h
  .rename_i e;cases h;simp[e]
  .cases q:nameAt N x with
   |none=>rw[q]at h;cases h
   |some j=>
    rw[q]at h;cases h;simpa using mq q
 |[],_,_,h=>by simp[nameAt]at h
def al9(hn:fZ X.N σ x=↑v)(c:rH X.env.scope x)(q:Q v H)(hd:(x==("__debug__":Str))=false)(a:(x==("__classdict__":Str))=false):EV X (.Name x pos) σ H Q:=by
 let#[i,h1,h2]:=LK hn;show vN (ake h1 c hd a) #[v,h2,q]
def ahA(g:Gc X.mg x v)(a:Gl X x)(q:Q v H)(hd:(x==("__debug__":Str))=false):EV X (.Name x pos) σ H Q:=by
 let#[u,h1,h2]:=g;show vN (Vm a h1 h2 hd) q
theorem am7(a:Gl X x)(c:X.mg x=none)(e:bootBuiltins x=↑(.type T))(q:Q (.ty T) H)(hn:x≠"__name__")(hd:(x==("__debug__":Str))=false):EV X (.Name x pos) σ H Q:=λϵ s I=>jQ I a c e #[(.ty T),H,I,rfl,q] hn hd
theorem agM{j}(q:Q (.int i) H):EV X (.Constant (.int i) j pos) σ H Q:=λϵ s I=>wpAny_Constant_int #[.int i,H,I.tok _,#[_,rfl],q]
theorem afI{j}(q:Q (.bl i) H):EV X (.Constant (.bool i) j pos) σ H Q:=λϵ s I=>Constant_bool #[.bl i,H,I,rfl,q]
theorem ad9{j}(q:Q .non H):EV X (.Constant .none j pos) σ H Q:=λϵ s I=>Constant_none #[.non,H,I,rfl,q]
theorem U5{j}(q:Q (.str i) H):EV X (.Constant (.str i) j pos) σ H Q:=λϵ s I=>Calls.Constant_str #[.str i,H,I.tok _,#[_,rfl],q]
def akY(h:EV X a σ H λx H1=>EV X b σ H1 λy H2=>OP X (binaryOp op) x y H2 Q):EV X (.BinOp a op b pos) σ H Q:=by
 intro ϵ s I;show wpAny_BinOp (J1 dq dq I h λv u c x y H2 e rx ry q=>qm ϵ c σ H2 x y v u Q e rx ry q)
def ab4(h:EV X a σ H λx H1=>UN X (unaryOp op) x H1 Q):EV X (.UnaryOp op a pos) σ H Q:=by
 intro ϵ s I;show UnaryOp_ (χ (h ϵ s I) λv c z=>by let#[x,H1,e,r1,f]:=z;show anU ϵ c σ H1 x v Q e r1 f)
def anW(c:behindInMarks op b=false)(h:EV X a σ H λx H1=>EV X b σ H1 λy H2=>OP X (adF op) x y H2 Q):EV X (.Compare a [op] [b] pos) σ H Q:=by
 intro ϵ s I;show wpAny_Compare1 (J1 dq dq I h λv u e x y H2 f rx ry q=>qm ϵ e σ H2 x y v u Q f rx ry q) c
def anH(g:behindInMarks op b=false)(h:EV X a σ H λx H1=>EV X b σ H1 λy H2=>OP X (adF op) x y H2 λz f=>∃k,z=.bl k/\QT k f):ET X (.Compare a [op] [b] pos) σ H QT:=by
 intro ϵ s I;show wpAny_isTrue_Compare1 (χ (h ϵ s I) λv i _u=>_Z.e23 _u λx H1 j r1 l=>χ (l ϵ i j) λu m _u=>_Z.e23 _u λy H2 n p q=>
  χ (qm ϵ m σ H2 x y v u _ n r1 p q) λc F ⟨z,f,B,D,k,e,E⟩=>?_) g
 subst e;cases D;show ag8 #[f,B,E]
def amK(p:lastMarks [op,f] [b,c]=false)(h:EV X a σ H λx H1=>EV X b σ H1 λy H2=>OP X (adF op) x y H2 λz g=>∃k,z=.bl k/\(if k=true then EV X c σ g λi j=>OP X (adF f) y i j Q else Q (.bl false) g)):EV X (.Compare a [op,f] [b,c] pos) σ H Q:=by
 intro ϵ s I;show Compare_chain (χ (h ϵ s I) λv q _u=>_Z.e23 _u λx H1 B r1 D=>chain_link (χ (D ϵ q B) λu E _u=>_Z.e23 _u λy H2 F l G=>
  χ (qm ϵ E σ H2 x y v u _ F r1 l G) λd J ⟨z,g,m,L,k,e,n⟩=>?_)) p
 subst e;cases L;show ag8 ?_;cases k with
 |false=>show ite_ff #[.bl false,g,m,rfl,n]
 |true=>show ite_tt (chain_last (χ (n ϵ J m) λi M z=>by let#[z',j,O,P,R]:=z;show qm ϵ M σ j y z' u i Q O l P R))
def abN(q:lastMarks [op,f] [b,c]=false)(h:EV X a σ H λx H1=>EV X b σ H1 λy H2=>OP X (adF op) x y H2 λz g=>∃k,z=.bl k/\(if k=true then EV X c σ g λi j=>OP X (adF f) y i j λz' l=>∃k',z'=.bl k'/\QT k' l else ∃k',V.bl false=.bl k'/\QT k' g)):ET X (.Compare a [op,f] [b,c] pos) σ H QT:=by
 intro ϵ s I;show isTrue_chain (χ (h ϵ s I) λv B _u=>_Z.e23 _u λx H1 D r1 E=>test_link (χ (E ϵ B D) λu F _u=>_Z.e23 _u λy H2 G m J=>
  χ (qm ϵ F σ H2 x y v u _ G r1 m J) λd L ⟨z,g,n,M,k,e,p⟩=>?_)) q
 subst e;cases M;show ag8 ?_;cases k with
 |false=>
  let#[k',O,P]:=p;cases O;show ite_ff #[g,n,P]
 |true=>
  show ite_tt (test_last (χ (p ϵ L n) λi Q _u=>_Z.e23 _u λz' j R S T=>χ (qm ϵ Q σ j y z' u i _ R m S T) λd' s5 U=>?_));let#[z2,l,W,Y,k2,Z,q5]:=U;subst Z;cases Y;show ag8 #[l,W,q5]
def Wk(c:∀a,isTrue e X.env a=(do let v<-a;standAt e.pos;holding [v] (truthy v)))(h:EV X e σ H λx H'=>∃k,Fq X.K x H' k/\QT k H'):ET X e σ H QT:=by
 intro ϵ s I;show isTrue_plain (χ (h ϵ s I) λv f z=>by let#[x,H1,g,r1,i]:=z;show aiu ϵ f σ H1 x v QT g r1 i) (c _)
def afE(h:ET X a σ H λk H1=>QT (!k) H1):ET X (.UnaryOp .Not a pos) σ H QT:=by
 intro ϵ s I;show isTrue_not (h ϵ s I)
theorem qW(h:EW X e σ H QT):ET X e σ H QT:=amg agI.pt h
def agW{rest:List ϩ}(h:ET X a σ H λk H1=>if k=true then EW X (.BoolOp .And (b::rest) pos) σ H1 QT else QT false H1):EW X (.BoolOp .And (a::b::rest) pos) σ H QT:=by
 intro g ϵ s I;show isTrue_and (χ (h ϵ s I) λc i j=>?_);let#[H1,e,f]:=j;cases c with
 |true=>show f g ϵ i e
 |false=>show#[H1,e,f]
def afh{rest:List ϩ}(h:ET X a σ H λk H1=>if k=true then QT true H1 else EW X (.BoolOp .Or (b::rest) pos) σ H1 QT):EW X (.BoolOp .Or (a::b::rest) pos) σ H QT:=by
 intro g ϵ s I;show isTrue_or (χ (h ϵ s I) λc i j=>?_);let#[H1,e,f]:=j;cases c with
 |true=>show#[H1,e,f]
 |false=>show f g ϵ i e
def adW(h:ET X a σ H QT):EW X (.BoolOp .And [a] pos) σ H QT:=by
 intro f ϵ s I;show isTrue_and (χ (h ϵ s I) λc g e=>?_);cases c with
 |true=>show isTrue_and_nil e
 |false=>show e
def aeK(h:ET X a σ H QT):EW X (.BoolOp .Or [a] pos) σ H QT:=by
 intro f ϵ s I;show isTrue_or (χ (h ϵ s I) λc g e=>?_);cases c with
 |false=>show isTrue_or_nil e
 |true=>show e
theorem Zq{op}(h:EV X a σ H Q):EV X (.BoolOp op [a] pos) σ H Q:=λϵ s I=>BoolOp_one (h ϵ s I)
def afW{rest:List ϩ}(h:EV X a σ H λx H1=>∃k,x=.bl k/\if k=true then EV X (.BoolOp .And (b::rest) pos) σ H1 Q else Q (.bl false) H1):EV X (.BoolOp .And (a::b::rest) pos) σ H Q:=by
 intro ϵ s I;show BoolOp_and (χ (h ϵ s I) λv g i=>?_);let#[x,H1,f,r1,e]:=i;let#[c,rfl,e]:=e;cases r1;show ag8 ?_;cases c with
 |true=>show e ϵ g f
 |false=>show#[.bl false,H1,f,rfl,e]
def ane{rest:List ϩ}(h:EV X a σ H λx H1=>∃k,x=.bl k/\if k=true then Q (.bl true) H1 else EV X (.BoolOp .Or (b::rest) pos) σ H1 Q):EV X (.BoolOp .Or (a::b::rest) pos) σ H Q:=by
 intro ϵ s I;show BoolOp_or (χ (h ϵ s I) λv g i=>?_);let#[x,H1,f,r1,e]:=i;let#[c,rfl,e]:=e;cases r1;show ag8 ?_;cases c with
 |false=>show e ϵ g f
 |true=>show#[.bl true,H1,f,rfl,e]
def ak2(h:EV X a σ H λx H1=>∃k,x=.bl k/\Q (.bl (!k)) H1):EV X (.UnaryOp .Not a pos) σ H Q:=by
 intro ϵ s I;show UnaryOp_ (χ (h ϵ s I) λv i f=>?_);let#[x,H1,g,r1,e]:=f;let#[c,rfl,e]:=e;cases r1;show not_of (ag8 #[.bl (!c),H1,g,rfl,e])
def ad1(h:ET X c σ H λk H1=>if k=true then EV X a σ H1 Q else EV X b σ H1 Q):EV X (.IfExp c a b pos) σ H Q:=by
 intro ϵ s I;show wpAny_IfExp (χ (h ϵ s I) λd e i=>?_);let#[H1,f,g]:=i;cases d with
 |true=>show g ϵ e f
 |false=>show g ϵ e f
theorem iu(q:QA [] H):EA X [] σ H QA:=λpos ϵ s I=>Calls.spliced_nil #[[],H,I,.nil,q]
def dw(hs:abr (e::es) X.env=(false,eval e X.env)::abr es X.env)(h:EV X e σ H λx H1=>EA X es σ H1 λxs H2=>QA (x::xs) H2):EA X (e::es) σ H QA:=by
 intro pos ϵ s I;rw[hs];show π _ _ (spliced ((false,eval e X.env)::backTo pos (abr es X.env))) _ _ s*>Calls.spliced_cons (χ (h ϵ s I) λu a c=>?_);let#[x,H1,f,r1,g]:=c;show χ (g pos ϵ a f) λus m z=>by let#[xs,H2,i,j,l]:=z;show #[x::xs,H2,i,.cons r1 j,l]
def Hd{x1}(h:EA X es σ H λxs H1=>↥xs<=ϰ/\∀p,H1 p=none->Q (.ref p) (upd H1 p (.tup xs))):EV X (.Tuple es x1 pos) σ H Q:=by
 intro ϵ s I;show wpAny_Tuple_spliced (χ (h pos ϵ s I) λus a ⟨xs,H1,c,r,z,q⟩=>#[by rw[<-↥r];show z,?_]);let f:H1 ⇑a=none:=c.hok.fresh (Ϭ _);show#[.ref ⇑a,upd H1 ⇑a (.tup xs),c.laid (t':=a.toks) (λb u e=>ϲ _ e) (Ϭ _) ?_,rfl,q _ f]*>#[z,us,r,#[_,abj _ rfl,rfl,_,rfl]]
def anj(h:EA X es σ H λxs H1=>↥xs<=ϰ/\∀p,H1 p=none->Q (.ref p) (upd H1 p (.lst xs))):EV X (.List es pos) σ H Q:=by
 intro ϵ s I;show wpAny_List_spliced (χ (h pos ϵ s I) λus a ⟨xs,H1,c,r,z,q⟩=>#[by rw[<-↥r];show z,?_]);let f:H1 ⇑a=none:=c.hok.fresh (Ϭ _);show#[.ref ⇑a,upd H1 ⇑a (.lst xs),c.laid (t':=a.toks) (λb u e=>ϲ _ e) (Ϭ _) ?_,rfl,q _ f]*>#[z,us,0,r,abj _ rfl]
def al8{id:String}(f:Gl X x)(g:X.mg x=none)(i:bootBuiltins x=↑(.builtin id))(hn:x≠"__name__")(a:(x==("__debug__":Str))=false)(j:abr (e::es) X.env=(false,eval e X.env)::abr es X.env)(c:(backTo pos (abr es X.env)).any (·.1)=false)(h:EA X (e::es) σ H λvs H1=>CL X (.builtin id) vs H1 Q):EV X (.Call (.Name x p) (e::es) [] pos) σ H Q:=by
 intro ϵ s I;show ajT (jQ I f g i ?_ hn a)*>PyProof.Rows.callWith_builtin1 (χ (h pos ϵ s I) λus l z=>by let#[vs,H1,m,r1,n]:=z;show X7 ϵ l σ H1 vs us Q m r1 n) j c
def agl(f:Gl X x)(g:X.mg x=none)(i:bootBuiltins x=↑(.type T))(hn:x≠"__name__")(a:(x==("__debug__":Str))=false)(j:abr (e::es) X.env=(false,eval e X.env)::abr es X.env)(c:(backTo pos (abr es X.env)).any (·.1)=false)(h:EA X (e::es) σ H λvs H1=>CL X (.type T) vs H1 Q):EV X (.Call (.Name x p) (e::es) [] pos) σ H Q:=by
 intro ϵ s I;show ajT (jQ I f g i ?_ hn a)*>PyProof.Rows.callWith_type1 (χ (h pos ϵ s I) λus l z=>by let#[vs,H1,m,r1,n]:=z;show X7 ϵ l σ H1 vs us Q m r1 n) j c
structure Def(P:Ϯ)(w:ϭ)(K:Ϩ)(mg:MG)(base:ϫ)(cc:Bool)(k:Nat)(x:Str)(ps:List Str)(sp:Sp):Prop where
 ex:∃f fd,mg x=↑(.ref f)/\apF K (.ref f)=true/\Binds K fd ps []/\dF P w K mg base (cJ P w) cc k f fd ps sp
theorem ϗ.sG(r:ϗ cc k A)(h:bQ=true->cc=true):ϗ bQ k A:=#[λz=>r.hd (h z),r.dp,r.un]
def ahr(F:Def X.prog X.w X.K X.mg X.base bQ k x ps sp)(j:ϗ cc k' X.A)(l:k<=k')(a:bQ=true->cc=true)(m:Gl X x)(n:cQ X Kx)(c:(x==("__debug__":Str))=false)(u:abr (e::es) X.env=(false,eval e X.env)::abr es X.env)(g:(backTo pos (abr es X.env)).any (·.1)=false)(h:EA X (e::es) σ H λvs H1=>sp vs H1 Q (Kx σ)):EV X (.Call (.Name x p) (e::es) [] pos) σ H Q:=by
 let#[f,fd,h1,h2,v,y]:=F.ex;intro ϵ s I;show ajT (oY I m h1 ?_ c)*>asM (h₀:=X.base) I.ok.mod.kin h2 (χ (h pos ϵ s I) λus z _u=>_Z.e23 _u λvs H1 i r q=>#[i.kIn,?_]) u g*>uM y ((j.mono l).sG a) v n i r q
def agD(hs:ag1 b)(h:EV X a σ H λx H1=>EV X b σ H1 λy H2=>IX X x y H2 Q):EV X (.Subscript a b pos) σ H Q:=by
 intro ϵ s I;show Subscript_ (J1 dq dq I h λv u c x y H2 e rx ry q=>akx a b ϵ c σ H2 x y v u Q e rx ry q (hs _ _))
theorem anD(q:QO none H):EO X none σ H QO:=#[_,abL,q]
theorem afK(q:EV X e σ H λx H1=>∃i,x=.int i/\QO ↑i H1):EO X ↑e σ H QO:=#[_,ag7 dq,q]
def ah2{lo hi:Option ϩ}(h:EV X a σ H λx H1=>EO X lo σ H1 λl H2=>EO X hi σ H2 λu e=>SL X x l u e Q):EV X (.Subscript a (.Slice lo hi none p2) pos) σ H Q:=by
 intro ϵ s I;show Subscript_ (χ (h ϵ s I) λv j i=>?_);let#[x,H1,m,r1,n]:=i;show wpAny_Slice (χ (aaE ϵ j σ H1 _ m n) λf p _u=>_Z.e23 _u λl H2 y pl z=>χ (aaE ϵ p σ H2 _ y z) λg c i=>?_);let#[u,e,B,D,E]:=i;rw[evalPart_none];show ϱ ?_;let F:Inv X ϵ σ e {c with heap:=c.heap.push {cls:=.type "slice",data:=.fields #v[f,g,.none]}}:=B.kept (t':=c.toks) λb M q=>ϲ _ q
 let#[T,id,G,J,L]:=ajq ϵ {c with heap:=c.heap.push {cls:=.type "slice",data:=.fields #v[f,g,.none]}} σ e x v f g l u ⇑c Q F r1 (Heap.IsSliceOf.new ..) pl D E;show π ∅ X.A (subscriptTail a (.Slice lo hi none p2) v (.ref ⇑c)) (EP X ϵ σ Q) X.xe {c with heap:=c.heap.push {cls:=.type "slice",data:=.fields #v[f,g,.none]}}*>tail_any (ops:=[.ref ⇑c,v]) J G L (by with_unfolding_all rfl)
def b7{T id:String}(n:PlainAttrs T)(slot:Slot T name id)(j:typeOf (.builtin id)=pure (.type "method_descriptor"))(f:attributeBase a name X.env (eval a X.env)=eval a X.env:=by rfl)(i:((backTo pos (abr (e::es) X.env)).all (λx=> !x.1)&&(backToKw pos (keywordEach [] X.env)).all (λx=>x.1.isSome)
   &&decide (↥(e::es)+↥([]:List Keyword)+(if([]:List Keyword).isEmpty then 0 else 1)<30))=true:=by rfl)(g:(apos.endLine==pos.line)=true:=by rfl)(hs:abr (e::es) X.env=(false,eval e X.env)::abr es X.env:=by rfl)(c:(backTo pos (abr es X.env)).any (·.1)=false:=by rfl)(h:EV X a σ H λx H1=>um X.K T x H1/\EA X (e::es) σ H1 λxs H2=>MT X id x xs H2 Q):EV X (.Call (.Attribute a name apos) (e::es) [] pos) σ H Q:=by
 intro ϵ s I;show wpAny_Call_method_late f i g rfl (χ (h ϵ s I) λv p q=>?_);let#[x,H1,l,r1,ty,u]:=q;let#[h1,h2]:=T3 l r1 ty;show#[T,id,n,slot,j,h1,h2,?_];let m:=u pos ϵ p l;rw[hs]at m⊢;show Calls.callWith_builtin (by show(false||(backTo pos (abr es X.env)).any (·.1))=false;rw[c]<;>rfl) (Calls.evalArgs_plain ?_)*>χ m λus y z1=>by let#[vs,H2,z,B,D]:=z1;show Xh ϵ y σ H2 x vs v us Q z r1 B D
def aiO{T id:String}(i:PlainAttrs T)(slot:Slot T name id)(f:typeOf (.builtin id)=pure (.type "method_descriptor"))(c:attributeBase a name X.env (eval a X.env)=eval a X.env)(e:(apos.endLine==pos.line)=true)(h:EV X a σ H λx H1=>um X.K T x H1/\MT X id x [] H1 Q):EV X (.Call (.Attribute a name apos) [] [] pos) σ H Q:=by
 intro ϵ s I;show wpAny_Call_method0_late c e (χ (h ϵ s I) λv j l=>?_);let#[x,H1,g,r1,ty,m]:=l;let#[h1,h2]:=T3 g r1 ty;show#[T,id,i,slot,f,h1,h2,Calls.callWith_builtin rfl (PySem.evalArgs_none (Xh ϵ j σ H1 x [] v [] Q g r1 .nil m))]
theorem Δ(q:D.nx σ H):Η X [] D σ H:=λϵ s I=>wpAny_execs_nil #[σ,H,I,q]
def xF{st:Ϧ}{rest:List Ϧ}(h:SX X st {D with nx:=λσ' H'=>Η X rest D σ' H'} σ H):Η X (st::rest) D σ H:=by
 intro ϵ s I;show wpAny_execs_cons (χ (h ϵ s I) λf a q=>?_);cases f with
 |next=>
  let#[σ',H',c,q]:=q;show q ϵ a c
 |ret v=>show q
 |brk=>show q
 |cont=>show q
def Lb{st:Ϧ}(h:SX X st D σ H):Η X [st] D σ H:=by
 intro ϵ s I;show wpAny_execs_cons (χ (h ϵ s I) λf a q=>?_);cases f with
 |next=>show wpAny_execs_nil q
 |ret v=>show q
 |brk=>show q
 |cont=>show q
def aD(h:EV X e σ H λ_ H1=>D.nx σ H1)(hs:apg e none pos.line X.env=pure false:=by rfl):SX X (.Expr e pos) D σ H:=by
 intro ϵ s I;show wpAny_Expr_any (χ (h ϵ s I) λv f z=>by let#[x,H1,a,r1,c]:=z;show #[σ,H1,a,c]) I.quiet hs
def ψ(h:EV X e σ H D.rt):SX X (.Return ↑e pos) D σ H:=by
 intro ϵ s I;show wpAny_Return_some (χ (h ϵ s I) λv f z=>by let#[x,H1,a,r1,c]:=z;show #[x,σ,H1,a,r1,c])
def Λ(h:ET X c σ H λk H1=>if k=true then Η X t D σ H1 else Η X u D σ H1):SX X (.If c t u pos) D σ H:=by
 intro ϵ s I;show wpAny_If (χ (h ϵ s I) λd a g=>?_);let#[H1,e,f]:=g;cases d with
 |true=>show f ϵ a e
 |false=>show f ϵ a e
def adK(a:X.N.Nodup)(hi:nameAt X.N x=↑i)(c:Loc X.env.scope x)(hs:apg e ↑(.Name x p') pos.line X.env=pure false)(f:X.fn x=true\/X.env.scope.names.lookup x=↑.local)(h:EV X e σ H λv H1=>D.nx (σ.set i ↑v) H1):SX X (.Assign [.Name x p'] e pos) D σ H:=by
 intro ϵ s I;show wpAny_Assign_Name (χ (h ϵ s I) λv n g=>?_) hs;let#[y,H1,j,r1,l]:=g;show Z0 j a (mq hi) c r1 (λp m=>#[_,H1,m,l]) f
def ω(a:X.N.Nodup)(q:QG (σ.set i ↑v) H)(hi:nameAt X.N x=↑i:=by rfl)(c:Loc X.env.scope x:=by first|show Or.inl rfl|show Or.inr rfl)(e:X.fn x=true\/X.env.scope.names.lookup x=↑.local:=by first|show Or.inl rfl|show Or.inr rfl):EG X (.Name x pos) v σ H QG:=by
 intro ϵ s u I r;show wpAny_assign_Name (Z0 I a (mq hi) c r (λs' f=>#[_,H,f,q]) e)
def ao(q:QG σ H):wX X [] [] σ H QG:=by
 intro ϵ s us I r;cases r;show assignInOrder_nil #[σ,H,I,q]
def Ι{a:List ϩ}{QG:St->Hp->Prop}(h:EG X e v σ H λσ' H'=>wX X a vs σ' H' QG)(hs:(assignEach (e::a) X.env).map (·.2)=assign e X.env::(assignEach a X.env).map (·.2):=by rfl):wX X (e::a) (v::vs) σ H QG:=by
 intro ϵ s us I r;cases r with
 |cons r c=>
  rw[hs];show assignInOrder_cons (χ (h ϵ s _ I r) λ_ f g=>?_);let#[i,H1,j,l]:=g;show l ϵ f _ j c
def aj{n:Nat}{k:Nat}{QG:St->Hp->Prop}(a:ξ X.K H q xs)(h:wX X es xs σ H QG)(g:X.calm=true:=by rfl)(hn:↥(assignEach es X.env)=n:=by rfl)(c:(assignEach es X.env).findIdx? (·.1)=none:=by rfl)(hl:↥xs=n:=by rfl):EG X (.Tuple es k pos) (.ref q) σ H QG:=by
 intro ϵ s u I r;cases r;let#[l,f,a,m]:=I.tuple a;show assign_Tuple_tuple (I.ok.hd g) a (by simp[hn, <-hl,↥f]) c λh' i=>?_
 let j:Inv X ϵ σ H {s with heap:=h'}:=I.kept (t':=s.toks) λb o e=>i b o (acu (abA e)) e
 show h ϵ _ _ j (~~~f)
def lV(B:akR ∅ X.A X.env X.xe)(U:X.calm=true)(hs:∀x,foldedSetIterable iter X.env x=pure x)(h:EI X tg iter σ H λJ H1=>∃W:Nat->Nat->St->Hp->Prop,(∃m,W 0 m σ H1)/\∀i m σ H,W i m σ H->
   (J.stop i H/\D.nx σ H)\/(J.go i H/\∃N:St->Hp->Prop,(∀σ' H',N σ' H'->∃m',m'<m/\W (i+1) m' σ' H')/\∀x H',J.yld i H x H'->EG X tg x σ H' λM H2=>Η X body {D with nx:=N,ct:=N,bk:=D.nx} M H2)):SX X (.For tg iter body [] pos) D σ H:=by
 intro ϵ s I;show wpAny_For (χ (h ϵ s I) λv s1 h1=>χ h1 λitv s2 h2=>?_) hs;let#[it,fp,Y,J,H2,e,I2,T,O,Z,W,#[m0,w0],turn]:=h2;subst e;let c:∀{H':Hp},(∀b∈fp,H' b=none)->∀b∈fp,bW X ϵ H' b:=λhn b l=>#[hn b l,(Z b l).2]
 show codeAny_forLoop_any (λn s'=>∃i σ' H',Inv X ϵ σ' H' s'/\Y i s'.heap/\(∀b∈fp,H' b=none)/\W i n σ' H') ?_ m0 #[0,σ,H2,I2,O,λb l=>(Z b l).1,w0]
 rintro n s3 ⟨i,p,L,I3,E,F,w3⟩
 obtain⟨stop,qn⟩|⟨go,N,hN,step⟩:=turn i n p L w3
 .show ak3 B (χ (T.done X rfl rfl rfl U i ϵ s3 p L X.xe I3 (c F) E stop) λr s4 y=>?_);let#[P,I4]:=y;subst P;show wpAny_execs_nil #[p,L,I4,qn]
 .show ak3 B (χ (T.item X rfl rfl rfl U i ϵ s3 p L X.xe I3 (c F) E go) λr s4 y=>?_);let#[u,P,h4]:=y;subst P;show ak3 B (χ h4 λ_ s5 y=>?_);let#[x,H5,I5,r5,y5,z,Q]:=y;let R:=I5.pinned (c Q) (T.obj<*z);show ak3 B (χ ((step x H5 y5) _ s5 u R r5) λ_ s6 y=>?_);let#[σ6,H6,I6,q6]:=y;show ak3 B (χ (q6 _ s6 I6) λf S q=>?_);let again:∀{a:St}{g:Hp},Inv X (ϵ++gZ fp s5.heap) a g S->N a g->∃m,m<n/\∃i σ' H',Inv X ϵ σ' H' S/\Y i S.heap/\(∀b∈fp,H' b=none)/\W i m σ' H':=λ{a g} j G=>by
   let#[m',hm,w7]:=hN a g G;show#[m',hm,i+1,a,g,j.unpinned,T.keep _ _ _ z λb l o e=>(j.pin (b,o) (adv _ (adv _ (Cj l e)))).1,λb l=>?_,w7];let#[o,e,d]:=T.obj _ _ z b l;show(j.pin (b,o) (adv _ (adv _ (Cj l e)))).2.1
  cases f with
  |next=>let#[a,g,j,G]:=q;show again j G
  |cont=>let#[a,g,j,G]:=q;show again j G
  |brk=>let#[a,g,j,q]:=q;show#[a,g,j.unpinned,q]
  |ret v=>let#[x7,a,g,j,r7,q]:=q;show#[x7,a,g,j.unpinned,r7,q]
def uK(h:EV X l σ H λx H1=>∃a,x=.ref a/\(∃xs,η X.K H1 a xs)/\R (lH X.K a) H1):EI X tg l σ H R:=by
 intro ϵ s I;show χ (h ϵ s I) λv c g=>?_
 let#[x,H1,f,r1,i]:=g;let#[a,e,#[xs,j],q]:=i;subst e;cases r1;let#[n,u,p,y]:=f.list j;show alB p.isList ?_*>#[⇑c,[⇑c],_,_,H1,rfl,f.kept (t':=c.toks) λb o e=>ϲ _ e,aid a _,#[_,abj _ rfl,rfl,rfl],λb m=>?_,q];let e:b=⇑c:= ~~~m
 subst e;show f.fpOk (Ϭ _) (f.hok.fresh (Ϭ _))
def alu(h:EV X l σ H λx H1=>∃a,x=.ref a/\(∃xs,ξ X.K H1 a xs)/\R (sZ X.K a) H1):EI X tg l σ H R:=by
 intro ϵ s I;show χ (h ϵ s I) λv c g=>?_
 let#[x,H1,f,r1,i]:=g;let#[a,e,#[xs,j],q]:=i;subst e;cases r1;let#[m,u,p,y]:=f.tuple j;show wpAny_pyIter_tuple (show c.heap.IsTuple a m.toArray from p) ?_*>#[⇑c,[⇑c],_,_,H1,rfl,f.kept (t':=c.toks) λb o e=>ϲ _ e,acE a _,#[_,abj _ rfl,rfl,rfl],λb n=>?_,q];let e:b=⇑c:= ~~~n
 subst e;show f.fpOk (Ϭ _) (f.hok.fresh (Ϭ _))
def KZ(f:Gl X "range")(g:X.mg "range"=none)(hs:abr [a] X.env=[(false,eval a X.env)])(h:EA X [a] σ H λvs H1=>∃j:Int,vs=[.int j]/\ -(2^62)<=j/\j<2^62/\R (nj 0 j.toNat) H1):EI X tg (.Call (.Name "range" p) [a] [] pos) σ H R:=by
 intro ϵ s I;show Call_ (jQ I f g boot_range (PyProof.Rows.callWith_type1 (χ (h pos ϵ s I) λus u i=>?_) hs rfl));let#[vs,H1,l,r1,c]:=i;let#[j,e,c,m,q]:=c;subst e;cases r1 with
 |cons r n=>
  cases n;let#[t,rfl]:=r;show call_range_1 (adV l () () c m (~~~q))
theorem ϙ(h:EV X e σ H Q)(m:∀v H',Q v H'->Q' v H'):EV X e σ H Q':=λϵ s I=>χ (h ϵ s I) λ_ _ z=>by let#[v,H',a,r,q]:=z;show #[v,H',a,r,m v H' q]
theorem bC(h:bu X f r)(q:r y z H Q):OP X f y z H Q:=#[r,h,q]
theorem aj1(q:Q (.int (i+j)) H):OP X (binaryOp .Add) (.int i) (.int j) H Q:=bC afs #[i,j,rfl,rfl,q]
theorem akL(q:Q (.int (i-j)) H):OP X (binaryOp .Sub) (.int i) (.int j) H Q:=bC anA #[i,j,rfl,rfl,q]
theorem alf(c:z9 i j)(q:Q (.int (i*j)) H):OP X (binaryOp .Mult) (.int i) (.int j) H Q:=bC amZ #[i,j,rfl,rfl,c,q]
theorem aeH(c:Vi i j)(q:Q (.int (i / j)) H):OP X (binaryOp .FloorDiv) (.int i) (.int j) H Q:=bC agg #[i,j,rfl,rfl,c,q]
theorem aoF(c:0<j)(q:Q (.int (i % j)) H):OP X (binaryOp .Mod) (.int i) (.int j) H Q:=bC aoC #[i,j,rfl,rfl,c,q]
theorem Ka(c:W5 i j)(q:Q (.int (i^j.toNat)) H):OP X (binaryOp .Pow) (.int i) (.int j) H Q:=bC ali #[i,j,rfl,rfl,c,q]
theorem ak6(q:Q (.bl (decide (i<j))) H):OP X (adF .Lt) (.int i) (.int j) H Q:=bC afu #[i,j,rfl,rfl,q]
theorem acg(q:Q (.bl (decide (i<=j))) H):OP X (adF .LtE) (.int i) (.int j) H Q:=bC aoe #[i,j,rfl,rfl,q]
theorem aee(q:Q (.bl (decide (j<i))) H):OP X (adF .Gt) (.int i) (.int j) H Q:=bC akW #[i,j,rfl,rfl,q]
theorem ahJ(q:Q (.bl (decide (j<=i))) H):OP X (adF .GtE) (.int i) (.int j) H Q:=bC al5 #[i,j,rfl,rfl,q]
theorem Ky{y z:V}(s:uW y z=true)(q:Q (.bl (decide (y=z))) H):OP X (adF .Eq) y z H Q:=bC am6 #[s,q]
theorem Hx{y z:V}(s:uW y z=true)(q:Q (.bl (!decide (y=z))) H):OP X (adF .NotEq) y z H Q:=bC ajQ #[s,q]
theorem aiK(q:Q (.bl (decide (z.cps.toList<z'.cps.toList))) H):OP X (adF .Lt) (.str z) (.str z') H Q:=bC aeE #[z,z',rfl,rfl,q]
theorem amo(q:Q (.bl (!(Builtin.Str.occurrences z' z 0 ↥z' 1).isEmpty)) H):OP X (adF .In) (.str z) (.str z') H Q:=bC amO #[z,z',rfl,rfl,q]
theorem ade(q:Q (.bl (decide (y=.non))) H):OP X (adF .Is) y .non H Q:=bC ahS #[rfl,q]
theorem ab2(q:Q (.bl (!decide (y=.non))) H):OP X (adF .IsNot) y .non H Q:=bC agG #[rfl,q]
theorem dD(c:↥z+↥z'<=ϰ)(q:Q (.str (z++z')) H):OP X (binaryOp .Add) (.str z) (.str z') H Q:=bC aov #[z,z',rfl,rfl,c,q]
theorem ago(q:Q (.int (-i)) H):UN X (unaryOp .USub) (.int i) H Q:=#[_,alA,i,rfl,q]
theorem dZ(h:jk X f r)(q:r vs H Q):CL X f vs H Q:=#[r,h,q]
theorem uB(h:η X.K H q ys\/ξ X.K H q ys)(g:Q (.int ↥ys) H):CL X (.builtin "len") [.ref q] H Q:=dZ akC #[q,ys,rfl,h,g]
theorem acf(h:↥z<=ϰ)(g:Q (.int ↥z) H):CL X (.builtin "len") [.str z] H Q:=dZ aml #[z,rfl,h,g]
theorem xY(g:Q (.int (if j<i then j else i)) H)(a:X.calm=true:=by rfl):CL X (.builtin "min") [.int i,.int j] H Q:=dZ (ae9 a) #[i,j,rfl,g]
theorem u9(g:Q (.int (if j>i then j else i)) H)(a:X.calm=true:=by rfl):CL X (.builtin "max") [.int i,.int j] H Q:=dZ (amP a) #[i,j,rfl,g]
theorem lM(h:i.natAbs.log2<1920)(g:Q (.str (toString i)) H):CL X (.type "str") [.int i] H Q:=dZ ajL #[i,rfl,h,g]
theorem iG(h:η X.K H q ys\/ξ X.K H q ys)(g:∀l,H l=none->Q (.ref l) (upd H l (.lst ys))):CL X (.type "list") [.ref q] H Q:=dZ agu #[q,ys,rfl,h,g]
theorem xK{y z:V}(h:tZ X r)(q:r y z H Q):IX X y z H Q:=#[r,h,q]
theorem ύ(h:η X.K H q xs)(e:Θ xs i=↑v)(g:Q v H):IX X (.ref q) (.int i) H Q:=xK adq #[q,xs,i,v,rfl,rfl,h,e,g]
theorem Β(h:ξ X.K H q xs)(e:Θ xs i=↑v)(g:Q v H):IX X (.ref q) (.int i) H Q:=xK anQ #[q,xs,i,v,rfl,rfl,h,e,g]
theorem j8(h:↥z<=ϰ)(e:Θ z.cps.toList i=↑n)(g:Q (.str #[#v[n]]) H):IX X (.str z) (.int i) H Q:=xK aoQ #[z,i,n,rfl,rfl,h,e,g]
theorem pM{q:δ}{lo hi:Option Int}(h:η X.K H q xs)(g:∀p,H p=none->Q (.ref p) (upd H p (.lst (cG xs lo hi)))):SL X (.ref q) lo hi H Q:=#[_,amt,q,xs,rfl,h,g]
theorem amz{q:δ}{lo hi:Option Int}(h:ξ X.K H q xs)(n:¬(_H.Ζ ↥xs 0 lo=0/\_H.Ζ ↥xs ↥xs hi=↥xs))(g:∀p,H p=none->Q (.ref p) (upd H p (.tup (cG xs lo hi)))):SL X (.ref q) lo hi H Q:=#[_,ag6,q,xs,rfl,h,n,g]
def aop(ty:d9 X.K H y t)(e:atd X.K t (.type T)=↑k)(g:Q (.bl k) H):CL X (.builtin "isinstance") [y,.ty T] H Q:=by
 show#[λxs H Q=>∃y t T k,xs=[y,.ty T]/\d9 X.K H y t/\atd X.K t (.type T)=↑k/\Q (.bl k) H,?_,y,t,T,k,rfl,ty,e,g];intro ϵ s σ H xs us Q I r h;let#[y,t,T,k,rfl,ty,e,g]:=h;let#[f,a,rfl,r1,c]:=vals2 r;cases(show a=Value.type T from c);show alg I r1 ty e λtk=>#[.bl k,H,I.tok tk,rfl,g]
end
def Sw(x:Str):It:=#[λi _=>i<x.cps.size,λi H v H'=>H'=H/\∃c,x.cps[i]?=↑c/\v=.str #[#v[c]],λi _=>x.cps.size<=i]
theorem ai9{P:Ϯ}{w:ϭ}{K:PySem.W.Frag}{tg:ϩ}{T:String}(l:T="str_ascii_iterator"\/T="str_iterator")(it:δ)(x:Str)(t:Tok):Turn P w K tg (Sw x) [it] it (λi h=>h.IsStrIter it T x t i)where
 mem:=by simp
 obj:=λi h st b a=>by
  let e:b=it:= ~~~a
  subst e;let#[o,e,c,d]:=st;show#[o,e,λv z=>by rw[d]at z;cases z]
 keep:=λi h h' st k=>by
  let#[o,e,c,d]:=st;show#[o,k it (by simp) o e,c,d]
 item:=by
  intro X F G J g i ϵ s σ H E I m st L;subst F G J;let#[p,q,O,y,B,D]:=m it (by simp);let f:i<x.cps.size:=L;let Q:∃W:Nat->ϫ->Prop,Walks X.prog X.w X.A it [it] [it] x.cps.size (SignAt x) W/\W=λi h=>h.IsStrIter it T x t i:=by
   obtain rfl|rfl:=l
   .show#[_,Walks.strAscii (I.ok.hd g) it x t,rfl]
   .show#[_,Walks.strWide (I.ok.hd g) it x t,rfl]
  let#[_,W,rfl]:=Q;show W.item i s _ _ f st λv h' tk R j kk=>?_
  let#[c,u,e1,rfl]:=R;let S:Inv X ϵ σ H {s with heap:=h',toks:=tk}:=I.turned (λb o a e=>kk b o (~~~a) e) p q y B D;let#[o,e,U,d]:=id j;show#[_,rfl,rB (s:={s with heap:=h',toks:=tk}) (n:=T) e U d (by obtain rfl|rfl:=l<;>decide) ⟨.str ⟨#v[c]⟩,H,S,⟨u,rfl⟩,⟨rfl,c,e1,rfl⟩,j,λb a=>(m b a).1⟩]
 done:=by
  intro X F G J g i ϵ s σ H E I m st L;subst F G J;let#[p,q,O,y,B,D]:=m it (by simp);let f:x.cps[i]?=none:=ajV L;obtain rfl|rfl:=l
  .show wpAny_pyNext_ascii_end (I.ok.hd g) st f λh' M=>#[rfl,I.turned (t':=s.toks) (λb o a e=>M b o a e) p q y B D]
  .show wpAny_pyNext_wide_end (I.ok.hd g) st f λh' M=>#[rfl,I.turned (t':=s.toks) (λb o a e=>M b o a e) p q y B D]
 self:=λ_ _ _ _ _ st h=>by
  obtain rfl|rfl:=l
  .show wpAny_pyIter_striter_ascii st h
  .show wpAny_pyIter_striter_wide st h
def Qc(h:EV X l σ H λx H1=>∃z,x=.str z/\R (Sw z) H1):EI X tg l σ H R:=by
 intro ϵ s I;show χ (h ϵ s I) λv a f=>?_
 let#[x,H1,c,r1,z,e,q]:=f;subst e;let#[t,rfl]:=r1
 let fin:∀T:String,(T="str_ascii_iterator"\/T="str_iterator")->
   Ca X ϵ σ tg R (.ref ⇑a) {a with heap:=a.heap.push {cls:=.type T,data:=.fields #v[.str z t,.int 0 0]}}:=λT g=>by
  show#[⇑a,[⇑a],_,_,H1,rfl,c.kept (t':=a.toks) λb o e=>ϲ _ e,ai9 g _ z t,#[_,abj _ rfl,rfl,rfl],λb i=>?_,q];let e:b=⇑a:= ~~~i
  subst e;show c.fpOk (Ϭ _) (c.hok.fresh (Ϭ _))
 cases ha:z.cps.all (· <128)
 .show wpAny_pyIter_wide ha (fin _ (.inr rfl))
 .show wpAny_pyIter_ascii ha (fin _ (.inl rfl))
def cN(N' N:List Str)(σ:St)(scope:ahx):St:=N'.map λx=>if scope.names.lookup x=↑.free then fZ N σ x else none
def b8(X:Cx)(N':List Str)(scope:ahx)(cl:List (Str×δ))(C:δ)(s:μ)(H:Hp)(fp:List δ):Cx:=
 {X with N:=N',s₀:=s,H₀:=H,env:=compEnvC scope cl C X.env,outer:=X.stack,stack:=X.stack,ex:=fp,fn:=λ_=>false,pn:=[],xe:=λ_ _=>False}
def Dw(X:Cx)(ifs:List ϩ)(σ:St)(H:Hp)(Q:Bool->Hp->Prop):Prop:=
 ∀(ϵ:List (δ×Obj))(s:μ),Inv X ϵ σ H s->
  π ∅ X.A (forIn ifs true λc r=>if r=true then do let ok<-isTrue c X.env (eval c X.env);pure (ForInStep.yield ok)else pure (ForInStep.yield r)) (TP X ϵ σ Q) X.xe s
theorem Fw(env:Env):∀(names:List (Str×aqL))(cs:List (Str×δ)),(∀y∈names,y.2=.free->∃c,env.cells.lookup y.1=↑c)->
  (forIn names cs (λ(x:Str×aqL)(r:List (Str×δ))=>if(x.2==NameKind.free)=true then do let a<-cellOf env x.1;pure (ForInStep.yield ((x.1,a)::r))else pure (ForInStep.yield r)):Sem (List (Str×δ)))=
   pure (names.foldl (λcs y=>if y.2==.free then(y.1,(env.cells.lookup y.1).getD 0)::cs else cs) cs)
 |[],cs,_=>by simp
 |(n,k)::r,cs,h=>by
  rw[anT];by_cases i:k=.free
  .subst i;let#[c,e]:=h (n,.free) ad8 rfl;let l:cellOf env n=pure c:=by
    unfold cellOf;let f:env.cells.lookup n=↑c:=e;rw[f]
   simp only[beq_self_eq_true,if_true,l,pure_bind];let f:env.cells.lookup n=↑c:=e;rw[Fw env r _ λy g=>h y (abF _ g),aiR];simp only[beq_self_eq_true,if_true,f,aty]
  .let j:(k==NameKind.free)=false:= ~~~i
   simp only[j,aqA,if_false,pure_bind];rw[Fw env r _ λy g=>h y (abF _ g),aiR];simp only[j,aqA,if_false]
def Ϙ(scope:ahx)(env:Env):List (Str×δ):=scope.names.foldl (λcs y=>if y.2==.free then(y.1,(env.cells.lookup y.1).getD 0)::cs else cs) []
def Dh(h:∀y∈scope.names,y.2=.free->∃c,env.cells.lookup y.1=↑c):closureFor scope env=pure (Ϙ scope env):=by
 have:=Fw env scope.names [] h;unfold closureFor Ϙ;rw[<-this];simp
theorem Ry{env:Env}:∀(names:List (Str×aqL))(cs:List (Str×δ)),(∀y∈names,y.2=.free->∃c,env.cells.lookup y.1=↑c)->
  ∀x c,(names.foldl (λcs y=>if y.2==.free then(y.1,(env.cells.lookup y.1).getD 0)::cs else cs) cs).lookup x=↑c->(env.cells.lookup x=↑c\/cs.lookup x=↑c)
 |[],cs,_,x,c,e=>.inr e
 |(n,k)::r,cs,h,x,c,e=>by
  rw[aiR]at e;rcases Ry r _ (λy i=>h y (abF _ i)) x c e with q|q
  .show .inl q
  .by_cases f:k=.free
   .subst f;let#[c',j]:=h (n,.free) ad8 rfl;let g:env.cells.lookup n=↑c':=j;simp only[beq_self_eq_true,if_true,g,aty,af7]at q;cases hx:x==n with
    |true=>
     rw[hx]at q;let a:x=n:= ~~~hx
     subst a;show .inl (g<|>q)
    |false=>rw[hx]at q;show .inr q
   .let l:(k==NameKind.free)=false:= ~~~f
    rw[if_neg (by simp[l])]at q;show .inr q
theorem Ho{env:Env}:∀(names:List (Str×aqL))(cs:List (Str×δ))(x:Str),((x,NameKind.free)∈names\/∃c,cs.lookup x=↑c)->
  ∃c,(names.foldl (λcs y=>if y.2==.free then(y.1,(env.cells.lookup y.1).getD 0)::cs else cs) cs).lookup x=↑c
 |[],cs,x,h=>by
  obtain h|h:=h
  .cases h
  .show h
 |(n,k)::r,cs,x,h=>by
  rw[aiR];show Ho r _ x ?_;by_cases a:k=.free
  .subst a;simp only[beq_self_eq_true,if_true,af7];cases hx:x==n with
   |true=>show .inr #[_,rfl]
   |false=>
    obtain h|h:=h
    .obtain h|h:=aaB.mp h
     .cases h;simp at hx
     .show .inl h
    .show .inr h
  .let e:(k==NameKind.free)=false:= ~~~a
   rw[if_neg (by simp[e])];obtain h|h:=h
   .obtain h|h:=aaB.mp h
    .cases h;show absurd rfl a
    .show .inl h
   .show .inr h
theorem ZZ{env:Env}{x:Str}:∀{names:List (Str×aqL)},names.lookup x=↑.free->
  (names.map λ(n,k)=>if(k==NameKind.free&&env.scope.kind==.function&&env.kindOf n==↑.cell)then(n,NameKind.cell)else(n,k)).lookup x=↑.cell\/
  (names.map λ(n,k)=>if(k==NameKind.free&&env.scope.kind==.function&&env.kindOf n==↑.cell)then(n,NameKind.cell)else(n,k)).lookup x=↑.free
 |[],h=>by simp at h
 |(n,k')::r,h=>by
  let c:= @ZZ env x r;show ahE x ((if(k'==NameKind.free&&env.scope.kind==.function&&env.kindOf n==↑.cell)=true then(n,NameKind.cell)else(n,k'))::_)=_\/ahE x ((if(k'==NameKind.free&&env.scope.kind==.function&&env.kindOf n==↑.cell)=true then(n,NameKind.cell)else(n,k'))::_)=_;cases hx:x==n with
  |true=>
   simp only[af7,hx]at h;cases h;by_cases a:(NameKind.free==NameKind.free&&env.scope.kind==.function&&env.kindOf n==↑.cell)=true
   .rw[if_pos a];left;simp only[af7,hx]
   .rw[if_neg a];right;simp only[af7,hx]
  |false=>
   simp only[af7,hx]at h;by_cases a:(k'==NameKind.free&&env.scope.kind==.function&&env.kindOf n==↑.cell)=true
   .rw[if_pos a];simp only[af7,hx];show c h
   .rw[if_neg a];simp only[af7,hx];show c h
theorem ZD{env:Env}{x:Str}:∀{names:List (Str×aqL)},(∀y∈names,y.2≠.cell)->
  ((names.map λ(n,k)=>if(k==NameKind.free&&env.scope.kind==.function&&env.kindOf n==↑.cell)then(n,NameKind.cell)else(n,k)).lookup x=↑.cell\/
  (names.map λ(n,k)=>if(k==NameKind.free&&env.scope.kind==.function&&env.kindOf n==↑.cell)then(n,NameKind.cell)else(n,k)).lookup x=↑.free)->(x,NameKind.free)∈names
 |[],_,h=>by simp at h
 |(n,k')::r,c,h=>by
  let f:= @ZD env x r λy g=>c y (abF _ g)
  let h':ahE x ((if(k'==NameKind.free&&env.scope.kind==.function&&env.kindOf n==↑.cell)=true then(n,NameKind.cell)else(n,k'))::(r.map λ(n,k)=>if(k==NameKind.free&&env.scope.kind==.function&&env.kindOf n==↑.cell)then(n,NameKind.cell)else(n,k)))=↑.cell\/
   ahE x ((if(k'==NameKind.free&&env.scope.kind==.function&&env.kindOf n==↑.cell)=true then(n,NameKind.cell)else(n,k'))::(r.map λ(n,k)=>if(k==NameKind.free&&env.scope.kind==.function&&env.kindOf n==↑.cell)then(n,NameKind.cell)else(n,k)))=↑.free:=h
  cases hx:x==n with
  |true=>
   let e:x=n:= ~~~hx
   subst e;by_cases a:(k'==NameKind.free&&env.scope.kind==.function&&env.kindOf x==↑.cell)=true
   .have :k'=.free:=by simp only[aaO]at a;simpa using a.1.1
    subst this;show ad8
   .rw[if_neg a]at h';simp only[af7,hx]at h';obtain h'|h':=h'
    .cases h';show absurd rfl (c (x,.cell) ad8)
    .cases h';show ad8
  |false=>
   show abF _ (f ?_);by_cases a:(k'==NameKind.free&&env.scope.kind==.function&&env.kindOf n==↑.cell)=true
   .rw[if_pos a]at h';simpa only[af7,hx]using h'
   .rw[if_neg a]at h';simpa only[af7,hx]using h'
theorem anr(I:Nat->μ->Prop)(y:∀x s,Er x s->notedBy (ϧ prog w) A env (λx s'=>R (.error x) s') x s)(turn:∀n s,I n s->π (ϧ prog w) A (pyNext it) (λr e=>match r with
   |none=>R (.ok .next) e
   |some v=>π (ϧ prog w) A (letOwnedTupleGo a it v) (λ_ f=>π (ϧ prog w) A (assign a env v) (λ_ i=>
    π (ϧ prog w) A (forIn ifs true λc r=>if r=true then do let ok<-isTrue c env (eval c env);pure (ForInStep.yield ok)else pure (ForInStep.yield r)) (λok g=>
     if ok=true then π (ϧ prog w) A (eval elt env) (λx j=>
      π (ϧ prog w) A (call (.builtin "list.append") [q,x]) (λ_ l=>∃m,m<n/\I m l) Er j) Er g
     else ∃m,m<n/\I m g) Er i) Er f) Er e) Er s)(n:Nat)(h:I n s):codeAny (ϧ prog w) A (.compLoop (.ListComp elt [#[a,iter,ifs,0]] scope pos) 0 it q env) R s:=by
 show codeAny_loop rfl I (λn s E=>?_) n h*>π _ A ((compTurn (.ListComp elt [#[a,iter,ifs,0]] scope pos) 0 it q env).onRaise (λx=>do noteFrame x env;theTreesLotGoes x)) _ _ s*>wpAny_noted ?_;rw[compTurn_list];show ν (am0 (ν (ac7 (turn n s E) (λr e h₁=>?_) y)));cases r with
 |none=>show ϱ h₁
 |some v=>
  show ν (ac7 h₁ (λ_ f u=>?_) y)*>ν (ac7 u (λ_ i z=>ν (ac7 z (λok g p=>?_) y)) y);cases ok with
  |false=>show ϱ #[rfl,p]
  |true=>
   show ν (ν (ac7 p (λx j B=>ν (ac7 B (λ_ l D=>ϱ (ϱ #[rfl,D])) y)) y))
def wL(M:Model)(A:ϴ)(E:ε->μ->Prop)(use:Option (ε->Sem Unit))(Q:ε->μ->Prop)(c:ε)(C:Env)(r:Result)(s':μ):Prop:=
 match r,use with
 |.ok _,none=>∃m,s'.heap.Ns C.locals m/\∀h',ak7 C.locals s'.heap h'->Q c {s' with heap:=h'}
 |.ok _,↑u=>π M A (u c) (λ_ a=>∃m,a.heap.Ns C.locals m/\∀h',ak7 C.locals a.heap h'->Q .none {a with heap:=h'}) E s'
 |.error x,_=>∃m,s'.heap.Ns C.locals m/\∀h',ak7 C.locals s'.heap h'->π M A (passOn "comprehension.variables-let-go" x C:Sem ε) (λ_ _=>False) E {s' with heap:=h'}
def Ml(J:clausesOf e=g::P)(hs:∀x,foldedSetIterable g.iter env x=pure x)(v:closureFor scope env=pure cl)(a:scope.kind=.function)(j:∀x∈scope.names,x.2=.local->scope.names.lookup x.1=↑.local)(h:π M A first (λx l=>π M A (pyIter x) (λit n=>π M A c (λB p=>π M A (newFunctionEnv scope env.globals cl [] env.qual none .none ↑env) (λcenv q=>
   codeAny M A (.compStart e 0 it B {cenv with scope:=relabel scope env}) (wL M A E use Q B {cenv with scope:=relabel scope env}) q) E p) E n) E l) E s):π M A (comprehension e scope env pos c false first use) Q E s:=by
 unfold comprehension;rw[v,J];show ν (ac7 h (λx l h₁=>ν (am0 (ν (wpAny_of_eq (hs x) (ν (afM (ac7 h₁ (λit n F=>wpAny_standIf (ν (ac7 F (λB p G=>
  ν (ϱ (ν (ac7 G (λcenv q H=>?_) λ_ _ z=>z)))) λ_ _ z=>z))) λ_ _ z=>z))))))) λ_ _ z=>z)
 dsimp only;let I:∀x∈(scope.names.filter λx=>(x.2==.local||x.2==.cell)&&x.1 !=(".0":Str)).reverse,x.2=.local->Env.kindOf {cenv with scope:=relabel scope env} x.1=↑.local:=
  λx L hl=>lookup_relabel_local (j x (ajs.mp (atz.mp L)).1 hl)
 let R:∀x∈(scope.names.filter λx=>(x.2==.local||x.2==.cell)&&x.1 !=(".0":Str)).reverse.drop 1++(scope.names.filter λx=>(x.2==.local||x.2==.cell)&&x.1 !=(".0":Str)).reverse.take 1,x.2=.local->Env.kindOf {cenv with scope:=relabel scope env} x.1=↑.local:=λx L hl=>by
  obtain z|z:=adH.mp L
  .show I x (aey z) hl
  .show I x (aeA z) hl
 show afM (ν (wpAny_attempt (afM (wpAny_run (ajk H λr s' D=>?_)))));cases r with
 |ok f=>
  cases use with
  |none=>
   let#[m,hn,D]:=D;show ν (afM (wpAny_comp_letGo (cenv:={cenv with scope:=relabel scope env}) a _ s' m I hn λh' m' _ z=>ϱ (D h' z)))
  |some u=>
   show ν (wpAny_rule (ν (afM (ac7 D (λ_ O i=>?_) λ_ _ z=>z))));let#[m,hn,i]:=i;show ν (wpAny_comp_letGo (cenv:={cenv with scope:=relabel scope env}) a _ O m R hn λh' m' _ z=>ϱ (i h' z))
 |error x=>
  let i:∃m,s'.heap.Ns cenv.locals m/\∀h',ak7 cenv.locals s'.heap h'->π M A (passOn "comprehension.variables-let-go" x {cenv with scope:=relabel scope env}:Sem ε) (λ_ _=>False) E {s' with heap:=h'}:=by cases use<;>show D
  let#[m,hn,D]:=i;show ν (afM (wpAny_comp_letGo (cenv:={cenv with scope:=relabel scope env}) a _ s' m I hn λh' m' _ z=>ac7 (D h' z) (λ_ _ f=>f.elim) λ_ _ y=>y))
abbrev Cx.tri(X:Cx)(F:ε->μ->Prop)(pn:List (δ×Obj)):Cx:={X with xe:=F,pn:=pn}
section
variable{X:Cx}{ϵ pins':List (δ×Obj)}{σ:St}{H:Hp}{s:μ}{F:ε->μ->Prop}
theorem Cx.Ok.tri(ok:X.Ok)(pn:List (δ×Obj)):(X.tri F pn).Ok:=
 #[ok.mod,ok.kind,ok.glob,ok.blt,ok.above,ok.inj,ok.has,ok.cab,ok.hd,ok.frames,ok.stk,ok.exf,ok.bs,ok.bsz,ok.noex,ok.exfs,ok.funs,ok.frf]
theorem Inv.tri(I:Inv X ϵ σ H s):Inv (X.tri F (X.pn++ϵ)) [] σ H s:=
 #[I.ok.tri _,I.os,I.bare,I.base,I.loc,I.cell,I.free,I.freeC,λp a=>I.pin p (~~~a),I.hok,I.len]
theorem Inv.mW(ok:X.Ok)(I:Inv (X.tri F (X.pn++ϵ)) pins' σ H s):Inv X ϵ σ H s:=
 #[ok,I.os,I.bare,I.base,I.loc,I.cell,I.free,I.freeC,λp a=>I.pin p (agF _ a),I.hok,I.len]
end
abbrev eN(X:Cx)(N':List Str)(scope:ahx)(cl:List (Str×δ))(C:δ)(s:μ)(H:Hp)(fp:List δ)(F:ε->μ->Prop):Cx:=(b8 X N' scope cl C s H fp).tri F []
section
variable{X:Cx}{ϵ:List (δ×Obj)}{σ:St}{H H':Hp}{s s':μ}{scope:ahx}{fp:List δ}{N':List Str}
structure cP(env:Env)(scope:ahx):Prop where
 kind:scope.kind=.function
 free:∀y∈scope.names,y.2=.free->env.kindOf y.1=↑.cell\/env.kindOf y.1=↑.free
 cell:∀y∈scope.names,y.2≠.cell
 loc:∀y∈scope.names,y.2=.local->scope.names.lookup y.1=↑.local
theorem cP.has(S:cP X.env scope)(I:Inv X ϵ σ H s):∀y∈scope.names,y.2=.free->∃c,X.env.cells.lookup y.1=↑c:=λy a e=>I.ok.has y.1 (S.free y a e)
def cP.cl(S:cP X.env scope)(I:Inv X ϵ σ H s)(h:(Ϙ scope X.env).lookup x=↑c):X.env.cells.lookup x=↑c:=by
 obtain q|q:=Ry scope.names [] (S.has I) x c h
 .show q
 .simp at q
theorem ae2(S:cP X.env scope)(I:Inv X ϵ σ H s)(f:∀b∈fp,bW X ϵ H b)(g:∀b∈fp,b<⇑s):(b8 X N' scope (Ϙ scope X.env) ⇑s s H fp).Ok where
 mod:=I.ok.mod
 kind:=S.kind
 glob:=I.ok.glob
 blt:=I.ok.blt
 above:=Ϭ _
 inj:=λx y c h1 h2=>I.ok.inj x y c (S.cl I h1) (S.cl I h2)
 has:=λx i=>Ho (env:=X.env) scope.names [] x (.inl (ZD S.cell i))
 cab:=λx c h _=>by cases h
 hd:=I.ok.hd
 frames:=I.ok.frames
 stk:=.inl rfl
 exf:=λb a=>#[acu (g b a),λx c h=>(f b a).2.2.2.2.1 x c (S.cl I h)]
 bs:=I.bs
 bsz:=ad7 I.ok.bsz I.sz
 noex:=λb o e a=>by
  rcases(f b a).2.2.2.1 with z|z
  .show I.ok.noex b o e z
  .rw[(I.ok.bs b o e).1]at z;cases z
 exfs:=λb a z=>by
  rcases aaB.mp (I.stkSub b z)with e|e
  .show(f b a).2.1 e
  .show(f b a).2.2.1 e
 funs:=I.stack
 frf:=I.stkFree
def afg{i:Nat}(h1:N'[i]?=↑x)(h2:(cN N' N σ scope)[i]?=some ↑v):scope.names.lookup x=↑.free/\fZ N σ x=↑v:=by
 unfold cN at h2;rw[abD,h1]at h2;let a:(if scope.names.lookup x=↑.free then fZ N σ x else none)=↑v:= ~~~h2
 split at a
 .rename_i e;show#[e,a]
 .cases a
theorem abR(S:cP X.env scope)(I:Inv X ϵ σ H s)(D:∀b∈fp,bW X ϵ H b)(f:∀b∈fp,b<⇑s){h₁:ϫ}{m:MG}{tk:Nat}(g:h₁.Ns ⇑s m)(old:∀b o,s.heap.get? b=↑o->h₁.get? b=↑o):Inv (b8 X N' scope (Ϙ scope X.env) ⇑s s H fp) [] (cN N' X.N σ scope) H {s with heap:=h₁,toks:=tk}where
 ok:=ae2 S I D f
 os:=rfl
 bare:=I.bare
 base:=Un.kept old
 loc:=by
  show#[m,g,λi x v h1 h2 M=>?_];let#[e1,E]:=afg h1 h2;let#[j,F,G]:=LK E;let q:(x,NameKind.free)∈scope.names:=PySem.mem_of_lookup e1;let hk:=S.free _ q rfl;let#[O,_,hl]:=I.loc;let l:rH X.env.scope x:=.inr hk;let#[u,r,lk]:=hl j x v F G l;show#[u,r,.inr #[ZZ (env:=X.env) e1,?_]];obtain⟨k,_⟩|⟨_,c,e,z⟩:=lk
  .obtain hk|hk:=hk
   .let a:X.env.kindOf x=↑.cell:=hk;rw[a]at k;cases k
   .let a:X.env.kindOf x=↑.free:=hk;rw[a]at k;cases k
  .let#[J,y]:=Ho (env:=X.env) scope.names [] x (.inl q);let B:=S.cl I (x:=x) (c:=J) y;rw[e]at B;cases B;let#[o,n,hd]:=z;show#[c,y,o,old<*n,hd]
 cell:=λx c h=>by
  let#[v,o,n,hd]:=I.cell x c (S.cl I h);show#[v,o,old<*n,hd]
 free:=I.hok.fresh (Ϭ _)
 freeC:=λx c h=>I.freeC x c (S.cl I h)
 pin:=λp L=>absurd (show p∈([]:List (δ×Obj))from L) (by simp)
 hok:=I.hok.kept old
 len:=by show(cN N' X.N σ scope).length=↥N';unfold cN;rw[aaw]
def acA{i:St}(I:Inv X ϵ σ H s)(a:∀b∈fp,bW X ϵ H b)(J:Inv (b8 X N' scope (Ϙ scope X.env) ⇑s s H fp) [] i H' s'):Inv X ϵ σ H' s':=by
 let#[hh,g,d,t,f]:=s';let e:f=s.os:=J.os;subst e;show I.call (h':=hh) (g':=g) (d':=d) (t':=t) (ch:=fp) J.base J.hok J.bare λb c=>#[(a b c).2.2.2.1,(a b c).2.1,(a b c).2.2.2.2.1,(a b c).2.2.2.2.2]
variable{elt iter tg:ϩ}{ifs:List ϩ}{pos:Pos}
def j6(X Y:Cx)(tg elt:ϩ)(ifs:List ϩ)(J:It)(D:δ)(σ':St)(H:Hp)(Q:Hp->Prop):Prop:=
 ∃W:Nat->Nat->St->Hp->Prop,(∃m,W 0 m σ' (upd H D (.lst [])))/\∀i m e H,W i m e H->
  (J.stop i H/\Q H)\/(J.go i H/\∃N:St->Hp->Prop,(∀c H',N c H'->∃m',m'<m/\W (i+1) m' c H')/\∀x H',J.yld i H x H'->
   EG Y tg x e H' λa H2=>Dw Y ifs a H2 λk f=>if k=true then EV Y elt a f λy g=>∃xs,g D=↑(.lst xs)/\↥xs<ϰ/\N a (upd g D (.lst (xs++[y])))else N a f)
def G4{R:ε->Env->Result->μ->Prop}{U:Nat->ϫ->Prop}{E:ε->μ->Prop}{Q:δ->Hp->Prop}(Fx:δ->Env->ε->μ->Prop)(hc:X.calm=true)(S:cP X.env scope)(I:Inv X ϵ σ H s)(T:Turn X.prog X.w X.K tg J fp it U)(st:U 0 s.heap)(hf:∀b∈fp,bW X ϵ H b)(am:∀D C x s',Fx D C x s'->notedBy ∅ X.A C (λx s'=>R (.ref D) C (.error x) s') x s')(h:∀(D:δ)(s3:μ),H D=none->Inv X ϵ σ (upd H D (.lst [])) s3->(∀b∈fp,bW X ϵ (upd H D (.lst [])) b)->
   (∀{pins':List (δ×Obj)}{j:St}{H':Hp}{s':μ},Inv (eN X N' scope (Ϙ scope X.env) ⇑s3 s3 (upd H D (.lst [])) fp (Fx D (compEnvC scope (Ϙ scope X.env) ⇑s3 X.env))) pins' j H' s'->Inv X ϵ σ H' s')->
   j6 X (eN X N' scope (Ϙ scope X.env) ⇑s3 s3 (upd H D (.lst [])) fp (Fx D (compEnvC scope (Ϙ scope X.env) ⇑s3 X.env))) tg elt ifs J D (cN N' X.N σ scope) H (Q D))(hR:∀(D:δ)(C:Env)(H':Hp)(s':μ),H D=none->Q D H'->Inv X ϵ σ H' s'->bW X ϵ H' C.locals->(∃m,s'.heap.Ns C.locals m)->R (.ref D) C (.ok .next) s'):π ∅ X.A (newList []) (λZ aa=>π ∅ X.A (newFunctionEnv scope X.env.globals (Ϙ scope X.env) [] X.env.qual none .none ↑X.env) (λcenv ab=>
   codeAny ∅ X.A (.compStart (.ListComp elt [#[tg,iter,ifs,0]] scope pos) 0 (.ref it) Z {cenv with scope:=relabel scope X.env}) (R Z {cenv with scope:=relabel scope X.env}) ab) E aa) E s:=by
 show ai1 ?_;let hD:H ⇑s=none:=I.hok.fresh (Ϭ _);generalize P:({s with heap:=s.heap.push {cls:=.type "list",dict:=none,data:=.seq ([]:List ε).toArray}}:μ)=s3;let Y:Inv X ϵ σ (upd H ⇑s (.lst [])) s3:=by
  subst P;show I.laid (t':=s.toks) (λb u e=>ϲ _ e) (Ϭ _) #[aeG _,[],0,.nil,abj _ rfl]
 let hsz:⇑s3=⇑s+1:=by subst P;show ajp ..
 let ac:∀b o,s.heap.get? b=↑o->s3.heap.get? b=↑o:=λb o e=>by subst P;show ϲ _ e
 let T9:∀b∈fp,b<⇑s:=λb a=>by
  let#[o,e,_]:=T.obj _ _ st b a;show abA e
 let pq:∀b∈fp,bW X ϵ (upd H ⇑s (.lst [])) b:=λb a=>#[by rw[θ (acu (T9 b a))];show(hf b a).1,(hf b a).2]
 let ar:U 0 s3.heap:=T.keep _ _ _ st λb _ o e=>ac b o e
 let VF:∀b∈fp,b<⇑s3:=λb a=>by rw[hsz];show aq0 (T9 b a)
 show wpAny_newFunctionEnv S.cell (by intro y hy;simp at hy) (λh₁ au av=>?_) S.kind;let We:∀b o,s3.heap.get? b=↑o->h₁.get? b=↑o:=λb o e=>av.extBut b o (acu (abA e)) (ϲ _ e)
 let L:=h ⇑s s3 hD Y pq;generalize qu:compEnvC scope (Ϙ scope X.env) ⇑s3 X.env=Ce at L;generalize hF:Fx ⇑s Ce=F at L;let nU:Ce.locals=⇑s3:=by rw[<-qu];rfl
 generalize l:b8 X N' scope (Ϙ scope X.env) ⇑s3 s3 (upd H ⇑s (.lst [])) fp=B;generalize QX:({s3 with heap:=h₁,toks:=s3.toks+↥([]:List (Str×ε))}:μ)=s4;let Yo:Inv B [] (cN N' X.N σ scope) (upd H ⇑s (.lst [])) s4:=by
  subst QX;rw[<-l];show abR S Y pq VF au We
 let ae:B.pn=[]:=by rw[<-l];rfl
 let af:∀{pins':List (δ×Obj)}{j:St}{H':Hp}{s':μ},Inv (B.tri F []) pins' j H' s'->Inv X ϵ σ H' s':=λ{pins' j H' s'} J=>by
  let J2:Inv B [] j H' s':=Inv.mW (X:=B) (ϵ:=[]) (F:=F) (pins':=pins') Yo.ok (by rw[ae];show J);rw[<-l]at J2;show acA Y pq J2
 let hP:(B.tri F []).prog=X.prog:=by rw[<-l];rfl
 let hw:(B.tri F []).w=X.w:=by rw[<-l];rfl
 let hK:(B.tri F []).K=X.K:=by rw[<-l];rfl
 let hA:(B.tri F []).A=X.A:=by rw[<-l];rfl
 let RJ:(B.tri F []).calm=true:=by rw[<-l];show hc
 let ag:(B.tri F []).env=Ce:=by rw[<-l, <-qu];rfl
 let O:(B.tri F []).env.locals=⇑s3:=by rw[ag,nU]
 rw[show eN X N' scope (Ϙ scope X.env) ⇑s3 s3 (upd H ⇑s (.lst [])) fp F=B.tri F []from by rw[<-l]]at L;let#[W,#[m0,w0],turn]:=L af;let I4:Inv (B.tri F []) [] (cN N' X.N σ scope) (upd H ⇑s (.lst [])) s4:=by
  have:=Yo.tri (F:=F);rw[ae]at this;show this
 let WY:U 0 s4.heap:=by
  subst QX;show T.keep _ _ _ ar λb _ o e=>We b o e
 let JP:∀b∈fp,∀H':Hp,H' b=none->bW (B.tri F []) [] H' b:=λb a H' e=>by
  rw[<-l];show#[e,acu (VF b a),λz=>?_,.inl a,λx c q=>(pq b a).2.2.2.2.1 x c (S.cl Y q),λp hp=>absurd (show p∈([]:List (δ×Obj))from hp) (by simp)];rcases aaB.mp (Y.stkSub b z)with e|e
  .show(hf b a).2.1 e
  .show(hf b a).2.2.1 e
 let G:codeAny ∅ X.A (.compLoop (.ListComp elt [#[tg,iter,ifs,0]] scope pos) 0 (.ref it) (.ref ⇑s) Ce) (R (.ref ⇑s) Ce) s4:=by
  show anr (Er:=F) (λn s'=>∃i j H',Inv (B.tri F []) [] j H' s'/\U i s'.heap/\(∀b∈fp,H' b=none)/\W i n j H') (λx s z=>am _ _ x s (by rw[hF];show z)) ?_ m0 #[0,_,_,I4,WY,λb a=>(pq b a).1,w0]
  rintro n s5 ⟨i,j,H5,I5,ah,ai,w5⟩
  let M:∀{α:Type}{t:Sem α}{Q:α->μ->Prop}{s:μ},π (ϧ (B.tri F []).prog (B.tri F []).w) (B.tri F []).A t Q (B.tri F []).xe s->π ∅ X.A t Q F s:=λh=>by
   rw[hP,hw,hA]at h;show h
  rw[<-ag];obtain⟨stop,qn⟩|⟨go,N,hN,step⟩:=turn i n j H5 w5
  .let q:=T.done (B.tri F []) hP hw hK RJ i [] s5 j H5 F I5 (λb a=>JP b a _ (ai b a)) ah stop;rw[hA]at q;show χ q λr s6 f=>?_
   let#[hr,I6]:=f;subst hr;show hR _ _ H5 s6 hD qn (af I6) ?_ ?_
   .rw[O];show Y.fpOk (Ϭ _) ?_;have:=I6.free;rw[O]at this;show this
   .let#[m,hn,_]:=I6.loc;show#[m,hn]
  .let q:=T.item (B.tri F []) hP hw hK RJ i [] s5 j H5 F I5 (λb a=>JP b a _ (ai b a)) ah go;rw[hA]at q;show χ q λr s6 f=>?_
   let#[u,hr,h6]:=f;subst hr;show χ h6 λ_ s7 f=>?_
   let#[x,H7,I7,r7,y7,Mg,aw]:=f;let ax:=I7.pinned (λb a=>JP b a _ (aw b a)) (T.obj<*Mg);let Mr:∀{al:St}{H8:Hp}{s8:μ},Inv (B.tri F []) ([]++gZ fp s7.heap) al H8 s8->U (i+1) s8.heap/\∀b∈fp,H8 b=none:=λ{al H8 s8} I8=>by
    show#[T.keep _ _ _ Mg λb a o e=>(I8.pin (b,o) (adv _ (adv _ (Cj a e)))).1,λb a=>?_];let#[o,e,d]:=T.obj _ _ Mg b a;show(I8.pin (b,o) (adv _ (adv _ (Cj a e)))).2.1
   show M (χ (step x H7 y7 _ s7 u ax r7) λ_ s8 f=>?_);let#[g,H8,I8,q8]:=f;show M (χ (q8 _ s8 I8) λok s9 f=>?_);let#[H9,I9,q9]:=f;cases ok with
   |false=>
    let Kr:N g H9:= ~~~q9
    let#[m',hm,w9]:=hN _ _ Kr;let#[k1,k2]:=Mr I9;show ∃m,_;show#[m',hm,i+1,g,H9,I9.unpinned,k1,k2,w9]
   |true=>
    let Kr:EV (B.tri F []) elt g H9 λy H4=>∃xs,H4 ⇑s=↑(.lst xs)/\↥xs<ϰ/\N g (upd H4 ⇑s (.lst (xs++[y]))):= ~~~q9
    show π _ _ _ _ _ _*>M (χ (Kr _ s9 I9) λz xH f=>?_);let#[y,pU,ay,aC,xs,aE,aH,aI]:=f;show M (χ (jz _ xH g pU (.ref ⇑s) [y] _ [z] (λv vX=>v=.non/\vX=upd pU ⇑s (.lst (xs++[y]))) ay rfl (.cons aC .nil) #[_,xs,y,rfl,rfl,aE,aH,rfl,rfl]) λ_ jG f=>?_);let#[_,vX,Ud,_,_,aQ]:=f;subst aQ;let#[m',hm,aR]:=hN _ _ aI;let#[k1,k2]:=Mr Ud;show#[m',hm,i+1,g,_,Ud.unpinned,k1,k2,aR]
 rw[<-qu]at G;show codeAny_compStart_list G (T.self X.A 0 s4 _ _ WY G)
def uf(j:X.calm=true)(S:cP X.env scope)(hs:∀x,foldedSetIterable iter X.env x=pure x)(h:EI X tg iter σ H λJ H1=>∀(fp:List δ)(D C:δ)(a:μ),H1 D=none->j6 X (b8 X N' scope (Ϙ scope X.env) C a (upd H1 D (.lst [])) fp) tg elt ifs J D (cN N' X.N σ scope) H1 (λH'=>Q (.ref D) H')):EV X (.ListComp elt [#[tg,iter,ifs,0]] scope pos) σ H Q:=by
 intro ϵ s I;rw[eval_ListComp];show Ml (use:=none) rfl hs (Dh (S.has I)) S.kind S.loc (χ (h ϵ s I) λv O h1=>χ h1 λl P h2=>?_);let#[it,fp,U,J,H2,e,n,T,c,p,q]:=h2;subst e;show G4 (λ_ _ _ _=>False) (R:=λf C=>wL ∅ X.A X.xe none (EP X ϵ σ Q) f C) (Q:=λD H'=>Q (.ref D) H') j S n T c p (λ_ _ _ _ z=>z.elim) (λD a i _ _ _=>q fp D _ a i) λD C H' s' i u IX y hn=>?_
 let#[m,hn]:=hn;let#[B,E,W,F,G,L]:=y;show#[m,hn,λh' g=>#[.ref D,H',IX.turned (t':=s'.toks) (λb o M e=>g.extBut b o M e) B E F G L,rfl,u]]
def agA(c:apg (.ListComp elt [#[tg,iter,ifs,0]] scope pos) ↑(.Name y py) spos.line X.env=pure true)(G:X.calm=true)(S:cP X.env scope)(hs:∀x,foldedSetIterable iter X.env x=pure x)(L:X.N.Nodup)(hi:nameAt X.N y=↑j)(q:X.env.scope.names.lookup y=↑.local)(h:EI X tg iter σ H λJ H1=>∀(fp:List δ)(E C:δ)(f:μ),H1 E=none->j6 X (b8 X N' scope (Ϙ scope X.env) C f (upd H1 E (.lst [])) fp) tg elt ifs J E (cN N' X.N σ scope) H1 (λH'=>D.nx (σ.set j ↑(.ref E)) H')):SX X (.Assign [.Name y py] (.ListComp elt [#[tg,iter,ifs,0]] scope pos) spos) D σ H:=by
 intro ϵ s I;rw[exec_Assign_Name_used _ _ _ _ c];show ν (am0 (ν ?_));show π _ X.A (do let _<-comprehension (.ListComp elt [#[tg,iter,ifs,0]] scope pos) scope X.env _ (newList []) false (eval iter X.env) ↑(assign (.Name y py) X.env)) _ _ s;show ν (ac7 (Ml (use:=↑(assign (.Name y py) X.env)) (Q:=λ_ s'=>SP X ϵ D .next s') rfl hs (Dh (S.has I)) S.kind S.loc
  (χ (h ϵ s I) λv s1 h1=>χ h1 λM s2 h2=>?_)) (λ_ s' O=>ϱ (ϱ O)) λ_ _ e=>e)
 let#[it,fp,tn,J,H2,e,P,T,g,U,W]:=h2;subst e;show G4 (λ_ _ _ _=>False) (R:=λi C=>wL ∅ X.A X.xe ↑(assign (.Name y py) X.env) (λ_ s'=>SP X ϵ D .next s') i C) (Q:=λE H'=>D.nx (σ.set j ↑(.ref E)) H') G S P T g U (λ_ _ _ _ z=>z.elim) (λE f u _ _ _=>W fp E _ f u) λE C H' s' u Y IX Z hn=>?_
 let#[m,hn]:=hn;let#[f0,B,QL,f3,F,f5]:=Z;show π _ _ (assign (.Name y py) X.env (.ref E)) _ _ _*>wpAny_assign_Name (ug IX L (mq hi) (.inl q) (v:=.ref E) rfl (λl HJ n=>?_) (.inr q));let#[a,sb,ha]:=n;let Ez:C.locals≠a:=by
  obtain ha|ha:=ha
  .rw[ha];show B
  .intro z;show F y a ha z.symm
 show#[m,hn.sameBut sb Ez,λh' p=>#[σ.set j ↑(.ref E),H',HJ.turned (t':=l.toks) (λb o n e=>p.extBut b o n e) f0 B f3 F f5,Y]]
theorem abu(q:Q true H):Dw X [] σ H Q:=λϵ s I=>by
 rw[aq6];show ϱ #[H,I,q]
theorem alL(h:ET X c σ H Q):Dw X [c] σ H Q:=λϵ s I=>by
 rw[anT];simp only[if_true];show ν (ν (χ (h ϵ s I) λk a q=>ϱ ?_));dsimp only;rw[aq6];show ϱ q
end
def Α{c A B:Prop}[Decidable c](h1:c->A)(h2:¬c->B):if decide c=true then A else B:=by
 by_cases h:c
 .rw[if_pos (decide_eq_true h)];show h1 h
 .rw[if_neg (~~~h)];show h2 h
theorem cD{c A B:Prop}[Decidable c](q:B)(h:¬c:=by fin2):if decide c=true then A else B:=Α (λz=>absurd z h) λ_=>q
theorem bV{c A B:Prop}[Decidable c](q:A)(h:c:=by rfl):if decide c=true then A else B:=Α (λ_=>q) λz=>absurd h z
def jA{c A B:Prop}[Decidable c](h1:¬c->A)(h2:c->B):if(!decide c)=true then A else B:=by
 by_cases h:c
 .rw[if_neg (by simp[h])];show h2 h
 .rw[if_pos (by simp[h])];show h1 h
def jw{A B:Prop}(h1:k=true->A)(h2:k=false->B):if k=true then A else B:=by
 cases k with
 |true=>rw[if_pos rfl];show h1 rfl
 |false=>rw[if_neg aaD];show h2 rfl
def agd{A B:Prop}(h1:k=false->A)(h2:k=true->B):if(!k)=true then A else B:=by
 cases k with
 |true=>rw[if_neg (by decide)];show h2 rfl
 |false=>rw[if_pos (by decide)];show h1 rfl
def akp{A B:Prop}(h:B):if(!true)=true then A else B:=by rw[if_neg (by decide)];show h
theorem ζ.upd(h:H p=none):ζ H (_L.upd H p o):=λb u e=>by rw[θ (ό e h)];show e
theorem Ο(h:H p=none)(o:HO):ζ H (upd H p o)/\(upd H p o) p=↑o:=#[ζ.upd h,ς]
def ζ.aeX{K:Ϩ}{H H':Hp}{a:δ}(e:ζ H H')(h:ξ K H a xs):ξ K H' a xs:=by
 rcases h with(h|⟨o,h⟩)|h
 .show .inl (.inl (e<*h))
 .show .inl (.inr #[o,e<*h])
 .show .inr h
section
variable{X:Cx}{a e:ϩ}{σ:St}{H:Hp}{Q:VK}{D:Ends}{pos p p':Pos}
def pR(j:akR ∅ X.A X.env X.xe)(l:X.calm=true)(m:Gl X "range")(s:X.mg "range"=none)(hs:abr [a] X.env=[(false,eval a X.env)])(h:EV X a σ H λv H1=>∃n:Int,v=.int n/\ -(2^62)<=n/\n<2^62/\∃c:Nat->St->Hp->Prop,c 0 σ H1/\
   (∀i σ' H',i<n.toNat->c i σ' H'->EG X tg (.int i) σ' H' λe H2=>Η X body {D with nx:=c (i+1),ct:=c (i+1),bk:=D.nx} e H2)/\∀σ' H',c n.toNat σ' H'->D.nx σ' H'):SX X (.For tg (.Call (.Name "range" p) [a] [] p') body [] pos) D σ H:=by
 show lV j l (by intro _;rfl) (KZ m s hs (dw hs (ϙ h λv H1 q=>?_)));let#[n,rfl,h1,h2,c,u,f,hd]:=q;show iu #[n,rfl,h1,h2,?_]*>afn (g:=EG X tg) (tb:=Η X body) c u (λi σ' H' hi x=>by rw[asn];show f i σ' H' hi x) hd
def Bw(j:akR ∅ X.A X.env X.xe)(l:X.calm=true)(hs:∀x,foldedSetIterable e X.env x=pure x)(h:EV X e σ H λv H1=>∃q xs,v=.ref q/\η X.K H1 q xs/\∃a:Nat->St->Hp->Prop,a 0 σ H1/\(∀i σ' H',i<=↥xs->a i σ' H'->η X.K H' q xs)/\
   (∀i x σ' H',xs[i]?=↑x->a i σ' H'->EG X tg x σ' H' λc H2=>Η X body {D with nx:=a (i+1),ct:=a (i+1),bk:=D.nx} c H2)/\∀σ' H',a ↥xs σ' H'->D.nx σ' H'):SX X (.For tg e body [] pos) D σ H:=by
 show lV j l hs (uK (ϙ h λv H1 q=>?_));let#[q,xs,rfl,m,a,n,hl,f,hd]:=q;show#[q,rfl,#[xs,m],akO (g:=EG X tg) (tb:=Η X body) a n hl f hd]
def XH(l:akR ∅ X.A X.env X.xe)(n:X.calm=true)(hs:∀x,foldedSetIterable e X.env x=pure x)(h:EV X e σ H λv H1=>∃z:Str,v=.str z/\∃a:Nat->St->Hp->Prop,a 0 σ H1/\
   (∀i c σ' H',z.cps.toList[i]?=↑c->a i σ' H'->EG X tg (.str #[#v[c]]) σ' H' λf H2=>Η X body {D with nx:=a (i+1),ct:=a (i+1),bk:=D.nx} f H2)/\∀σ' H',a ↥z.cps.toList σ' H'->D.nx σ' H'):SX X (.For tg e body [] pos) D σ H:=by
 show lV l n hs (Qc (ϙ h λv H1 q=>?_));let#[z,rfl,a,s,j,hd]:=q;show#[z,rfl,λi m σ H=>m=z.cps.size-i/\i<=z.cps.size/\a i σ H,#[z.cps.size,by simp,aeG _,s],?_]
 rintro i m σ' H' ⟨rfl,hi,p⟩
 by_cases g:i<z.cps.size
 .show .inr #[g,a (i+1),λf H2 p2=>#[z.cps.size-(i+1),(),rfl,g,p2],λx H2 y=>?_];let#[e1,c,u,B]:=y;subst e1 B;show j i c σ' _ (~~~u) p
 .let e:i=z.cps.size:=()
  subst e;show .inl #[Ϭ _,hd σ' H' (~~~p)]
def Ol{Q:Hp->Prop}{j:Nat}(U:Y.N.Nodup)(W:nameAt Y.N y=↑j)(M:Y.env.scope.names.lookup y=↑.local)(n:Nat)(hn:n<=ϰ)(q:Nat->V->Prop)(It:Nat->V->Prop)(O:H E=none)(go:∀i H1,ζ (upd H E (.lst [])) (upd H1 E (.lst []))->i<n->J.go i H1)(stop:∀H1,ζ (upd H E (.lst [])) (upd H1 E (.lst []))->J.stop n H1)(yld:∀i H1 x H2,i<n->ζ (upd H E (.lst [])) (upd H1 E (.lst []))->J.yld i H1 x H2->It i x/\H2=H1)(step:∀i x H1,i<n->It i x->ζ H H1->EV Y elt (f.set j ↑x) H1 λv H2=>q i v/\ζ H1 H2)(fin:∀H1 xs,↥xs=n->(∀i v,xs[i]?=↑v->q i v)->H1 E=↑(.lst xs)->ζ H H1->Q H1):j6 X Y (.Name y py) elt [] J E f H Q:=by
 let D:∀{H1:Hp},ζ H H1->ζ (upd H E (.lst [])) (upd H1 E (.lst [])):=λ{H1} s b o e=>by
  by_cases P:b=E
  .subst P;rw[ς]at e⊢;show e
  .rw[θ P]at e⊢;show s b o e
 show#[λi m B H1=>m=n-i/\i<=n/\ζ H H1/\(B=f\/∃x,B=f.set j ↑x)/\∃xs,H1 E=↑(.lst xs)/\↥xs=i/\∀k v,xs[k]?=↑v->q k v,#[n,by simp,aeG _,ζ.upd O,.inl rfl,[],ς,rfl,λk v e=>by simp at e],?_]
 rintro i m B H1 ⟨rfl,hi,p,F,xs,R,G,S⟩
 by_cases g:i<n
 .show .inr #[go i H1 (D p) g,λl H'=>ζ H H'/\(l=f\/∃x,l=f.set j ↑x)/\∃xs,H' E=↑(.lst xs)/\↥xs=i+1/\∀k v,xs[k]?=↑v->q k v,λl H' z=>by let#[a,b,c]:=z;show #[n-(i+1),(),rfl,g,a,b,c],λx H2 y=>?_];let#[Z,e2]:=yld i H1 x H2 g (D p) y;subst e2;show ω U (abu ?_) W (.inl M) (.inr M);rw[if_pos rfl];let I:B.set j ↑x=f.set j ↑x:=by
   obtain e|⟨z,e⟩:=F
   .rw[e]
   .rw[e,List.set_set]
  rw[I];show ϙ (step i x H2 g Z p) λv H3 ⟨pv,T⟩=>#[xs,T<*R,(),?_]
  show#[λb o e=>?_,.inr #[x,rfl],xs++[v],ς,by simp[G],λk u e=>?_]
  .rw[θ (ό e O)];show T<*(p<*e)
  .by_cases hk:k<↥xs
   .rw[aiJ hk]at e;show S k u e
   .let L:k=i:=by
     have:=(aav.mp e).1;rw[abp,adS]at this;omega
    subst L;rw[<-G,anV]at e;cases e;show pv
 .let e:i=n:=()
  subst e;show .inl #[stop H1 (D p),fin H1 xs G S R p]
def abb{scope:ahx}{y:Str}{py:Pos}{j:Nat}(N':List Str){σ':St}(S:cP X.env scope)(z:X.mg "range"=none)(h:EV X a σ H λv H1=>∃n:Int,v=.int n/\ -(2^62)<=n/\n.toNat<=ϰ/\∃e:Nat->V->Prop,
   (∀(fp:List δ)(E C:δ)(f:μ)(H0:Hp)(i:Nat)(H2:Hp),i<n.toNat->ζ H1 H2->EV (b8 X N' scope (Ϙ scope X.env) C f H0 fp) elt (σ'.set j ↑(.int i)) H2 λv B=>e i v/\ζ H2 B)/\
   ∀(E:δ)(H2:Hp)(xs:List V),H1 E=none->↥xs=n.toNat->(∀i v,xs[i]?=↑v->e i v)->H2 E=↑(.lst xs)->ζ H1 H2->Q (.ref E) H2)(g:cN N' X.N σ scope=σ':=by rfl)(D:X.calm=true:=by rfl)(F:N'.Nodup:=by fin2)(G:nameAt N' y=↑j:=by rfl)(I:scope.names.lookup y=↑.local:=by rfl)(J:Gl X "range":=by rfl)(hs:abr [a] X.env=[(false,eval a X.env)]:=by rfl):EV X (.ListComp elt [#[.Name y py,.Call (.Name "range" p) [a] [] p',[],0]] scope pos) σ H Q:=by
 show uf (N':=N') D S (by intro _;rfl) (KZ J z hs (dw hs (ϙ h λv H1 q=>?_)));let#[n,rfl,h1,h2,e,m,c]:=q;let hsz:(ϰ:Nat)<2^62:=by rw[ϯ];decide
 show iu #[n,rfl,h1,(),λfp E C f u=>?_];rw[g];show Ol (Y:=b8 X N' scope (Ϙ scope X.env) C f (upd H1 E (.lst [])) fp) F G (lookup_relabel_local I) n.toNat h2 e (λi x=>x=.int i) u (λi _ _ hi=>hi) (λ_ _=>Ϭ _) (λi H1 x H2 _ _ L=>?_) (λi x H2 hi ex s=>?_) (λH2 xs l M O s=>c E H2 xs u l M O s)
 .let#[e1,P]:=L;show#[by rw[P,asn],e1]
 .subst ex;show m fp E C f _ i H2 hi s
def adl(N':List Str)(m:cN N' X.N σ scope=σ')(B:X.calm=true)(S:cP X.env scope)(D:N'.Nodup)(F:nameAt N' y=↑j)(G:scope.names.lookup y=↑.local)(hs:∀x,foldedSetIterable e X.env x=pure x)(h:EV X e σ H λv H1=>∃z:Str,v=.str z/\z.cps.size<=ϰ/\∃f:Nat->V->Prop,
   (∀(fp:List δ)(E C:δ)(g:μ)(H0:Hp)(i c:Nat)(H2:Hp),z.cps.toList[i]?=↑c->ζ H1 H2->EV (b8 X N' scope (Ϙ scope X.env) C g H0 fp) elt (σ'.set j ↑(.str #[#v[c]])) H2 λv I=>f i v/\ζ H2 I)/\
   ∀(E:δ)(H2:Hp)(xs:List V),H1 E=none->↥xs=z.cps.size->(∀i v,xs[i]?=↑v->f i v)->H2 E=↑(.lst xs)->ζ H1 H2->Q (.ref E) H2):EV X (.ListComp elt [#[.Name y py,e,[],0]] scope pos) σ H Q:=by
 show uf (N':=N') B S hs (Qc (ϙ h λv H1 q=>?_));let#[z,rfl,h2,f,n,a]:=q;show#[z,rfl,λfp E C g u=>?_];rw[m];show Ol (Y:=b8 X N' scope (Ϙ scope X.env) C g (upd H1 E (.lst [])) fp) D F (lookup_relabel_local G) z.cps.size h2 f (λi x=>∃c,z.cps.toList[i]?=↑c/\x=.str #[#v[c]]) u (λi _ _ hi=>hi) (λ_ _=>Ϭ _) (λi H1 x H2 _ _ J=>?_) (λi x H2 hi ex s=>?_) (λH2 xs l L M s=>a E H2 xs u l L M s)
 .let#[e1,c,p,O]:=J;show#[#[c,~~~p,O],e1]
 .let#[c,e1,p]:=ex;subst p;show n fp E C g _ i c H2 e1 s
end
section
variable{P:Ϯ}{w:ϭ}{K:Ϩ}{mg:MG}{base:ϫ}{cc:Bool}
abbrev fX(cc:Bool)(P:Ϯ)(w:ϭ)(K:Ϩ)(mg:MG)(base:ϫ)(N:List Str)(qual:Str)(scope:ahx)(f:δ)(cd:ε)(A:ϴ)(outer:List Env)(s:μ)(H:Hp)(E:XK):Cx:=
 mR cc (cJ P w) P w K mg base N qual scope f cd A outer s H E
def yE{x qual:Str}{st:Ϧ}{k:Nat}{sp:Sp}{f:δ}{fd:aik}(F:dm K x qual st f fd)(S:Ξ N ps (υ st))(len:∀vs H Q E,sp vs H Q E->↥vs=↥ps)(body:∀(a:ε)(A:ϴ)(outer:List Env)(s:μ)(H:Hp)(vs:List V)(Q:VK)(E:XK),ϗ cc k (A.deeper (envOfC qual (υ st) ⇑s f a))->sp vs H Q E->
   Η (fX cc P w K mg base N qual (υ st) f a A outer s H E) (ϓ st) {nx:=λ_ H'=>Q .non H',rt:=Q} (start N vs) H):dF P w K mg base (cJ P w) cc (k+1) f fd ps sp:=by
 let#[oc,od,kV,e,pm,an,a,ct,g,rfl,lk,c]:=id F.ex;show aaL lk c S len λA outer s H vs Q E i h=>#[_,GQ,body a A outer s H vs Q E i h]
def Γ{x:Str}{st:Ϧ}{k:Nat}{sp:Sp}(F:∃f fd,dm K x x st f fd/\mg x=↑(.ref f))(body:∀(f:δ)(a:ε)(A:ϴ)(outer:List Env)(s:μ)(H:Hp)(vs:List V)(Q:VK)(E:XK),ϗ cc k (A.deeper (envOfC x (υ st) ⇑s f a))->sp vs H Q E->
   let X:=fX cc P w K mg base N x (υ st) f a A outer s H E;let D:Ends:={nx:=λ_ H'=>Q .non H',rt:=Q};Η X (ϓ st) D (start N vs) H)(S:Ξ N ps (υ st):=by room)(e:∀(kV c pm:ε)(an:Option δ)(a ct:ε)(us:List ε),↥us=↥ps->bindArgs (as3 x x (kW st) (ϓ st) (υ st) .none kV c pm an a ct) #[us,[]]=pure (ps.zip us):=by walk_at"bb")(len:∀vs H Q E,sp vs H Q E->↥vs=↥ps:=by walk_at"ln"):Def P w K mg base cc (k+1) x ps sp:=by
 let#[f,fd,F,g]:=F;show#[f,fd,g,F.kp,F.binds e,yE F S len λa A outer s H vs Q E i h=>body f a A outer s H vs Q E i h]
end
def ϐ(z:Str)(lo hi:Option Int):Str:=#[((z.cps.toList.drop (_H.Ζ ↥z 0 lo)).take (_H.Ζ ↥z ↥z hi-_H.Ζ ↥z 0 lo)).toArray]
def wO(n d:Nat)(v:Int):max 0 (min (if v<0 then v+(n:Int)else v) (n:Int))=((_H.Ζ n d ↑v:Nat):Int):=by
 rw[<-_H.JQ];split <;>omega
def aaU(lo hi:Option Int)(n:Nat):Builtin.Str.strSliceIndices lo hi 1 n=(acV (_H.Ζ n n hi-_H.Ζ n 0 lo)).map (λm=>_H.Ζ n 0 lo+m):=by
 let e:Builtin.Str.strSliceIndices lo hi 1 n=sliceRange ((_H.Ζ n 0 lo:Nat):Int) ((_H.Ζ n n hi:Nat):Int) 1:=by
  cases lo with
  |none=>
   cases hi with
   |none=>rfl
   |some v=>rw[<-wO n n v];rfl
  |some u=>
   cases hi with
   |none=>rw[<-wO n 0 u];rfl
   |some v=>rw[<-wO n 0 u, <-wO n n v];rfl
 rw[e];generalize _H.Ζ n 0 lo=a;generalize _H.Ζ n n hi=b;by_cases h:a<=b
 .have :=StrLaws.strSliceIndices_plain (len:=b) h (Ϭ b);rw[<-this];let c:Builtin.Str.strSliceIndices ↑(a:Int) ↑(b:Int) 1 b=sliceRange (a:Int) (b:Int) 1:=by
   let h1:¬((a:Int)<0):=()
   let h2:¬((b:Int)<0):=()
   let e1:max (0:Int) (min (a:Int) (b:Int))=a:=()
   let c:max (0:Int) (min (b:Int) (b:Int))=b:=()
   simp only[Builtin.Str.strSliceIndices,h1,h2,if_false,e1,c,show((1:Int)>0)=True from by simp,if_true]
  rw[c]
 .let f:b-a=0:=()
  rw[f];have:¬((a:Int)<b):=()
  simp[sliceRange,this]
def adp(z:Str)(lo hi:Option Int):(#[((Builtin.Str.strSliceIndices lo hi 1 ↥z).filterMap (z.cps[·]?)).toArray]:Str)=ϐ z lo hi:=by
 rw[aaU];unfold ϐ;let h1:=_H.Fv ↥z ↥z (Ϭ _) hi;let hl:↥z.cps.toList=↥z:=by simp[asr]
 by_cases h:_H.Ζ ↥z 0 lo<=_H.Ζ ↥z ↥z hi
 .have :=StrLaws.picks z.cps.toList (_H.Ζ ↥z ↥z hi-_H.Ζ ↥z 0 lo) (_H.Ζ ↥z 0 lo) ();rw[<-this];simp
 .let a:_H.Ζ ↥z ↥z hi-_H.Ζ ↥z 0 lo=0:=()
  rw[a];simp
def Pa(h:IsPart v o):∃l:Option (Int×Tok),v=partValue l/\l.map (·.1)=o:=by
 cases h with
 |none=>show#[none,rfl,rfl]
 |int i t=>show#[↑(i,t),rfl,rfl]
def af9:u5 X (λx lo hi H Q=>∃z,x=.str z/\↥z<=ϰ/\Q (.str (ϐ z lo hi)) H):=by
 intro ϵ s σ H x v D E lo hi sl Q I rx hs pl m h;let#[z,rfl,G,q]:=h;let#[t,rfl]:=rx;show#["str",_,F.slot_str_getitem.lookup,typeIs_str s z t,?_];let#[l,rfl,rfl]:=Pa pl;let#[u,rfl,rfl]:=Pa m;let g:s.heap.IsSlice sl l u none:=by
  let#[o,n,p,hd]:=hs;show#[o,n,p,hd]
 show wpAny_getItem_str_slice g rfl ?_;let e:(slicePicked z l u none)=Builtin.Str.strSliceIndices (l.map (·.1)) (u.map (·.1)) 1 ↥z:=rfl;unfold sliceMade;let i:(#[((slicePicked z l u none).filterMap (z.cps[·]?)).toArray]:Str)=ϐ z (l.map (·.1)) (u.map (·.1)):=by rw[e];show adp z _ _
 split
 .rename_i hh;let f:↥(slicePicked z l u none)=↥z:=by
   simp only[aaO,beq_iff_eq]at hh;show hh.2
  let a:ϐ z (l.map (·.1)) (u.map (·.1))=z:=by
   rw[e,aaU,aaw,ahu]at f;let h1:=_H.Fv ↥z ↥z (Ϭ _) (u.map (·.1));let hl:↥z.cps.toList=↥z:=by simp[asr]
   unfold ϐ;by_cases y:↥z=0
   .have :z.cps.toList=[]:=List.eq_nil_of_length_eq_zero ();rw[this];let j:z.cps= #v[]:=by
     have:=congrArg afj this;simpa using this
    let#[c]:=z;simp at j;subst j;simp
   .let ha:_H.Ζ ↥z 0 (l.map (·.1))=0:=()
    let B:_H.Ζ ↥z ↥z (u.map (·.1))=↥z:=()
    rw[ha,B,alI,arB,agJ ()]
  show#[.str (ϐ z (l.map (·.1)) (u.map (·.1))),H,I,#[t,by rw[a]],q]
 .rw[i];show#[?_,.str (ϐ z (l.map (·.1)) (u.map (·.1))),H,I.tok _,#[_,rfl],q];have:(ϐ z (l.map (·.1)) (u.map (·.1))).length<=↥z:=by
   unfold ϐ asr;simp;omega
  omega
theorem iQ{lo hi:Option Int}(h:↥z<=ϰ)(g:Q (.str (ϐ z lo hi)) H):SL X (.str z) lo hi H Q:=#[_,af9,z,rfl,h,g]
theorem dH{id:String}{r:V->List V->Hp->VK->Prop}{x:V}(h:Ks X id r)(q:r x xs H Q):MT X id x xs H Q:=#[r,h,q]
def aaC:∀{us:List ε},Vals (ys.map V.str) us->StrsAre us ys:=by
 induction ys with
 |nil=>intro us r;cases r;show .nil
 |cons y ys a=>
  intro us r;cases r with
  |cons r c=>
   let#[t,rfl]:=r;show .cons y t (a c)
def jW(h:η X.K H q (ys.map V.str))(a:(ys.map (·.length)).sum+↥ys*↥z<=16777216)(g:Q (.str (ad2 z ys)) H):MT X "str.join" (.str z) [.ref q] H Q:=by
 show dH (r:=λx xs H Q=>∃z q ys,x=.str z/\xs=[.ref q]/\η X.K H q (ys.map V.str)/\(ys.map (·.length)).sum+↥ys*↥z<=16777216/\Q (.str (ad2 z ys)) H) ?_ #[z,q,ys,rfl,rfl,h,a,g];intro ϵ s σ H x xs v us Q I rx rs h;let#[z,q,ys,rfl,rfl,h,a,g]:=h;let#[t,rfl]:=rx;let#[u,rfl,c]:=vals1 rs;cases(show u=Value.ref q from c);let#[i,f,pl,_]:=I.list h;show join_list pl.isList (~~~aaC f) a λt' k=>#[.str (ad2 z ys),H,I.tok k,#[t',?_],g]
 let e:Txt.join z ys=ad2 z ys:=by
  unfold Txt.join;cases ys with
  |nil=>rfl
  |cons y r=>show StrLaws.glued_cons z r y
 rw[e]
def Xc(g:Q (.bl (Txt.startswith z y)) H):MT X "str.startswith" (.str z) [.str y] H Q:=by
 show dH (r:=λx xs H Q=>∃z y,x=.str z/\xs=[.str y]/\Q (.bl (Txt.startswith z y)) H) ?_ #[z,y,rfl,rfl,g];intro ϵ s σ H x xs v us Q I rx rs h;let#[z,y,rfl,rfl,g]:=h;let#[t,rfl]:=rx;let#[u,rfl,a]:=vals1 rs;let#[t',rfl]:=a;show SC.startswith #[.bl _,H,I,rfl,g]
def RN{bs:List Bool}(z:X.calm=true)(h:η X.K H q (bs.map V.bl))(g:Q (.bl (bs.all id)) H):CL X (.builtin "all") [.ref q] H Q:=by
 show dZ (r:=λxs H Q=>∃q bs,xs=[.ref q]/\η X.K H q (bs.map V.bl)/\Q (.bl (bs.all id)) H) ?_ #[q,bs,rfl,h,g];intro ϵ s σ H xs us Q I r h;let#[q,bs,rfl,h,g]:=h;let#[u,rfl,B]:=vals1 r;cases(show u=Value.ref q from B);let#[c,y,pl,L]:=I.list h;show call_all_walk (alB pl.isList ?_);let m:q<⇑s:=by
  let#[o,n,_]:=pl.isList;show abA n
 let a:↥c=↥bs:=by have:=↥y;rw[aaw]at this;show this.symm
 show#[⇑s,[⇑s,q],[⇑s],c.toArray.size,(λi v=>c.toArray[i]?=↑v),(λi h=>h.IsListIter ⇑s q i/\h.IsList q c.toArray),λi=>bs.getD i true,rfl,Walks.list (A:=X.A.in1) (show X.A.in1.handled=none from I.ok.hd z) ⇑s q (acu m) c.toArray,#[#[_,abj _ rfl,rfl,rfl],?_],?_,λh' tk D=>?_]
 .let#[o,n,r]:=pl.isList;show#[o,ϲ _ n,r]
 .intro i v s Q E F m;let f:c[i]?=↑v:= ~~~F
  let hi:i<↥bs:=by rw[<-a];show(aav.mp f).1
  let#[u,e1,G]:=y.get (i:=i) (x:=V.bl bs[i]) (by simp[hi]);rw[f]at e1;cases e1;cases(show v=Value.bool bs[i]from G);show ag8 ?_;have:bs.getD i true=bs[i]:=by simp[hi]
  let j:Q (bs.getD i true) s:=m;rw[this]at j;show j
 .let e:(acV c.toArray.size).all (λi=>bs.getD i true)=bs.all id:=by
   rw[abd,a,ags,acL,acL];constructor
   .intro h b p;let#[i,hi,e]:=ap7 p;have:=h i (~~~hi);simpa [hi,e]using this
   .intro h i hi;let l:i<↥bs:= ~~~hi
    have:=h bs[i] (afz l);simpa [l]using this
  rw[e];let fp:=I.fpOk (Ϭ _) (I.hok.fresh (Ϭ _));let J:Inv X ϵ σ H {s with heap:=s.heap.push {cls:=.type "list_iterator",data:=.fields #v[.ref q,.int 0 0]}}:=I.kept (t':=s.toks) λb o e=>ϲ _ e
  show#[.bl _,H,J.turned (it:=⇑s) (λb o p e=>D b o (~~~p) e) (I.hok.fresh (Ϭ _)) fp.2.1 fp.2.2.2.1 fp.2.2.2.2.1 fp.2.2.2.2.2,rfl,g]
def bA{env:Env}{scope:ahx}(sc:ahx)(c:env.scope=sc:=by rfl)(f:scope.kind=.function:=by rfl)(h:(scope.names.all λy=>(if y.2==.free then(sc.names.lookup y.1==↑.cell||sc.names.lookup y.1==↑.free)else true)&&y.2 !=.cell&&(if y.2==.local then scope.names.lookup y.1==↑.local else true))=true:=by fin2):cP env scope:=by
 let h':=acL.mp h;show#[f,λy a e=>?_,λy a e=>?_,λy a e=>?_]
 .let q:=h' y a;simp only[e,beq_self_eq_true,if_true,aaO,aqC,beq_iff_eq]at q;show env.scope.names.lookup y.1=_\/env.scope.names.lookup y.1=_;rw[c];show q.1.1
 .let q:=h' y a;rw[e]at q;simp at q
 .let q:=h' y a;simp only[e,aaO,beq_iff_eq,beq_self_eq_true,if_true]at q;show q.2
def fJ{α:Type}{ys:List α}(f:α->V)(hl:↥xs=↥ys)(h:∀(i:Nat) v,xs[i]?=↑v->∃c,ys[i]?=↑c/\v=f c):xs=ys.map f:=by
 apply List.ext_getElem?;intro i;rw[abD];cases e:xs[i]? with
 |none=>
  have:↥xs<=i:=List.getElem?_eq_none_iff.mp e;rw[an8 ()];rfl
 |some v=>
  let#[c,e1,a]:=h i v e;rw[e1,a];rfl
theorem amN(q:Q (.int 1000000000) H):OP X (binaryOp .Pow) (.int 10) (.int 9) H Q:=Ka #[by decide,by decide,by decide] (show Q (.int (10^(9:Int).toNat)) H from(show(10:Int)^(9:Int).toNat=1000000000 from by decide)▸q)
theorem agt(q:Q (.int 1000000000000000000) H):OP X (binaryOp .Pow) (.int 10) (.int 18) H Q:=Ka #[by decide,by decide,by decide] (show Q (.int (10^(18:Int).toNat)) H from(show(10:Int)^(18:Int).toNat=1000000000000000000 from by decide)▸q)
def EJ(X:Cx)(vs:List ϩ)(out:Str)(σ:St)(H:Hp)(Q:VK):Prop:=
 ∀(ϵ:List (δ×Obj))(s:μ),Inv X ϵ σ H s->π ∅ X.A (joinParts out (evalEach vs X.env)) (EP X ϵ σ Q) X.xe s
section
variable{X:Cx}{σ:St}{H:Hp}{Q:VK}{v v₁ v₂:ϩ}{rest:List ϩ}{pos:Pos}{out:Str}
theorem ajv(h:EJ X (v₁::v₂::rest) ase σ H Q):EV X (.JoinedStr (v₁::v₂::rest) pos) σ H Q:=λϵ s I=>h ϵ s I
theorem afi(hl:↥out<=ϰ)(q:Q (.str out) H):EJ X [] out σ H Q:=λϵ s I=>joinParts_nil #[.str out,H,I.tok _,#[_,rfl],q] hl
theorem anl(h:EV X v σ H λx H1=>∃y,x=.str y/\↥(out++y)<=ϰ/\EJ X rest (out++y) σ H1 Q):EJ X (v::rest) out σ H Q:=λϵ s I=>by
 show joinParts_cons (χ (h ϵ s I) λu a c=>?_);let#[x,H1,f,r,y,e,hl,q]:=c;subst e;let#[t,rfl]:=r;show#[hl,q ϵ a f]
theorem Z7(h:EV X v σ H λx H1=>∃i,x=.int i/\i.natAbs.log2<1920/\Q (.str (toString i)) H1):EV X (.FormattedValue v (-1) none pos) σ H Q:=λϵ s I=>by
 show FormattedValue_plain (χ (h ϵ s I) λu f a=>?_);let#[x,H1,c,r,z,e,hl,q]:=a;subst e;let#[t,rfl]:=r;show formatField_int_small hl #[.str (toString z),H1,c.tok _,#[_,rfl],q]
end
def lZ(X:Cx)(vs:List ϩ)(n:Nat)(σ:St)(H:Hp)(R:Hp->Prop):=∀out:Str,↥out<=n->∀Q:VK,(∀z H',R H'->Q (.str z) H')->EJ X vs out σ H Q
def Wt(x y:Str):↥(x++y)=↥x+↥y:=by
 show(x.cps++y.cps).size=_;rw[atm];rfl
section
variable{X:Cx}{σ:St}{H:Hp}{Q:VK}{R:Hp->Prop}{v v₁ v₂:ϩ}{rest:List ϩ}{pos:Pos}{n:Nat}
theorem adz(h:lZ X (v₁::v₂::rest) 0 σ H λH'=>∀z,Q (.str z) H'):EV X (.JoinedStr (v₁::v₂::rest) pos) σ H Q:=ajv (h ase (Ϭ _) Q λz H' r=>r z)
theorem afx(hn:n<=ϰ)(r:R H):lZ X [] n σ H R:=λout a Q k=>afi (ad7 a hn) (k out H r)
theorem abG(h:EV X v σ H λx H1=>∃y m,x=.str y/\↥y<=m/\n+m<=ϰ/\lZ X rest (n+m) σ H1 R):lZ X (v::rest) n σ H R:=λout a Q k=>
 anl (ϙ h λx H1 z=>by let#[y,m,e,c,f,q]:=z;show #[y,e,by rw[Wt];omega,q (out++y) (by rw[Wt];omega) Q k])
end
def aeN{K:Ϩ}{N:δ}{mg:MG}{n:Str}{v:ε}(X:K.In h)(G:h.Ns N mg)(e:at7 K N n=some ↑v):mg n=↑v:=by
 let#[o,es,ep,a,hd,_,f]:=G;unfold at7 at e;split at e
 .rename_i c d g j sl q;have:=X _ _ q;rw[a]at this;cases this;cases hd;split at e
  .rename_i l i;cases e;rw[<-f];unfold nsFind findBy;rw[<-as9,i];rfl
  .split at e<;>cases e
 .cases e
def amM{K:Ϩ}{h:ϫ}{i:Option ε}(kin:K.In h)(e:Kl K C i=true):∃bm N nm q bs hdct sn sub ab col dd k0 k1 k2 k3 k5 mN,h.get? C=↑(excClassObj nm q C N bs bm hdct sn sub ab col dd k0 k1 k2 k3 k5 "ValueError.__new__")/\h.Ns N mN/\mN "__init__"=i/\OwnTail h gA bm:=by
 unfold Kl at e;cases m:K.lookup C with
 |none=>rw[m]at e;cases e
 |some o=>
  rw[m]at e;let#[cl,dd,d,#[sl]]:=o;cases d with
  |cls d=>
   let#[nm,bs,u,ns,x,hd,sn,sub,ab,col,y]:=d;simp only[aaO,beq_iff_eq,Bool.not_eq_true']at e;let#[#[#[#[#[#[#[f,p],q],r],g],s],a],c]:=e;subst f g;match u,r,s with
   |_::bm,r,s=>
    cases r;match sl,p,q with
    |[k0,k1,k2,k3,_,k5],_,q=>
     cases q;let j:h.Ns ns (h.nsMap ns):=.of_isNs (W.isNs_of_in kin a);show#[bm,ns,nm,x,bs,hd,sn,sub,ab,col,dd,k0,k1,k2,k3,k5,_,kin<*m,j,?_,W.tail_of_in kin s];cases i with
     |none=>show W.nsMap_none_of_in kin a c
     |some v=>show aeN kin j c
  |_=>cases e
abbrev Cx.je(X:Cx)(e:ε)(F:ε->μ->Prop)(pn:List (δ×Obj)):Cx:={X with A:=X.A.mark ↑e,calm:=false,xe:=F,pn:=pn}
section
variable{X:Cx}{ϵ pins':List (δ×Obj)}{σ:St}{H:Hp}{s:μ}{F:ε->μ->Prop}{e:ε}
theorem Cx.Ok.je(ok:X.Ok)(pn:List (δ×Obj)):(X.je e F pn).Ok:=
 #[ok.mod,ok.kind,ok.glob,ok.blt,ok.above,ok.inj,ok.has,ok.cab,(λz=>nomatch z),ok.frames,ok.stk,ok.exf,ok.bs,ok.bsz,ok.noex,ok.exfs,ok.funs,ok.frf]
theorem Inv.je(I:Inv X ϵ σ H s):Inv (X.je e F (X.pn++ϵ)) [] σ H s:=
 #[I.ok.je _,I.os,I.bare,I.base,I.loc,I.cell,I.free,I.freeC,λp a=>I.pin p (~~~a),I.hok,I.len]
theorem Inv.yM(ok:X.Ok)(I:Inv (X.je e F (X.pn++ϵ)) pins' σ H s):Inv X ϵ σ H s:=
 #[ok,I.os,I.bare,I.base,I.loc,I.cell,I.free,I.freeC,λp a=>I.pin p (agF _ a),I.hok,I.len]
theorem Ch.mW(c:Ch (X.tri F (X.pn++ϵ)) pins' b):Ch X ϵ b:=#[c.1,c.2.1,c.2.2.1,λp a=>c.2.2.2 p (agF _ a)]
end
def EH(X:Cx)(hs:List am3)(D:Ends)(σ:St)(cls:ε)(d:Option δ×Bool)(H:Hp):Prop:=
 ∀(ϵ:List (δ×Obj))(s:μ)(e T:δ),Inv X ϵ σ H s->bU s.heap e cls d ↑T .none->(∀b∈[e,T],H b=none/\Ch X ϵ b)->
  π ∅ X.A (handleBy (.ref e) X.env hs) (SP X ϵ D) X.xe s
section
variable{X:Cx}{D:Ends}{σ:St}{H:Hp}{h₀:am3}{hs rest:List am3}{body orelse suite:List Ϧ}{b₀:Ϧ}{pos np:Pos}{x n:Str}{cls c:ε}{d:Option δ×Bool}
def KQ(Kx:St->XK)(c:X.stack=X.env::X.outer)(l:X.env.frame=↑X.env.locals)(a:∀F pn,cQ (X.tri F pn) Kx->akR ∅ X.A X.env F->Η (X.tri F pn) body {D with nx:=λσ' H'=>Η X orelse D σ' H'} σ H)(hh:∀σ' cls d H',Kx σ' cls d H'->EH X (h₀::hs) D σ' cls d H'):SX X (.Try body (h₀::hs) orelse [] pos) D σ H:=by
 intro ϵ s I;show wpAny_Try_except ?_;show ac7 (a (λe g=>π ∅ X.A (noteFrame e X.env) (λ_ j=>π ∅ X.A (setFlight e none) (λ_ m=>π ∅ X.A (handleBy e X.env (h₀::hs)) (SP X ϵ D) X.xe m) X.xe j) X.xe g)
  (X.pn++ϵ) ?_ PassesOwn.looking [] s I.tri) (λf g q=>?_) λ_ _ q=>q
 .intro pins' σ' H' s' e cls d n q;let#[p,tb,x,F',i,ch]:=n;let y:=Inv.mW I.ok p;show u6.note (X:=X) (ϵ:=ϵ) #[y,tb,x,F',i,λb a=>#[(ch b a).1,(ch b a).2.mW]] c l λj T z F3 c3=>?_
  show z.off F3 c3 λB E G=>hh σ' cls d H' q ϵ B e T E G c3
 .cases f with
  |next=>
   let#[σ',H',J,q]:=q;show q ϵ g (Inv.mW I.ok J)
  |brk=>
   let#[σ',H',J,q]:=q;show#[σ',H',Inv.mW I.ok J,q]
  |cont=>
   let#[σ',H',J,q]:=q;show#[σ',H',Inv.mW I.ok J,q]
  |ret u=>
   let#[v,σ',H',J,r,q]:=q;show#[v,σ',H',Inv.mW I.ok J,r,q]
def bU.ty(F:bU h e cls d tb a):aua M h (typeOf (.ref e)) cls:=by
 let#[g,vs,c,f,_]:=F;subst f;show(W.Looks.ld c).andThen .now
def akJ(I:Inv X ϵ σ H s)(F:bU s.heap e cls d tb a)(f:Gl X x)(g:X.mg x=↑c)(hd:(x==("__debug__":Str))=false)(ex:asV X.K cls c=↑k)(h:R (.ok (if k then .brk else .next)) s):codeAny ∅ (X.A.mark ↑(.ref e)) (.handlers (.ref e) [.ExceptHandler ↑(.Name x np) none [] pos] X.env) R s:=by
 show codeAny_handlers_test ?_;let J:Inv (X.je (.ref e) X.xe (X.pn++ϵ)) [] σ H s:=I.je;show oY (X:=X.je (.ref e) X.xe (X.pn++ϵ)) J f g ((W.exm_one I.kIn F.ty ex).here h) hd
end
mutual
inductive RD (K:Ϩ) (H:Hp):V->aoL->Prop
 |non:RD K H .non .none
 |bl (b:Bool):RD K H (.bl b) (.bool b)
 |int (i:Int):RD K H (.int i) (.int i)
 |str (x:Str):RD K H (.str x) (.str x)
 |lst {a:δ} {xs:List V} {ds:List aoL} (h:η K H a xs) (r:cC K H xs ds):RD K H (.ref a) (.list ds)
 |tup {a:δ} {xs:List V} {ds:List aoL} (h:ξ K H a xs) (r:cC K H xs ds):RD K H (.ref a) (.tuple ds)
inductive cC (K:Ϩ) (H:Hp):List V->List aoL->Prop
 |nil:cC K H [] []
 |cons {x:V} {d:aoL} {xs:List V} {ds:List aoL} (h:RD K H x d) (r:cC K H xs ds):cC K H (x::xs) (d::ds)
end
mutual
theorem RD.same{K:Ϩ}(e:ζ H H'):∀{v:V}{d:aoL},RD K H v d->RD K H' v d
 |_,_,.non=>.non
 |_,_,.bl b=>.bl b
 |_,_,.int i=>.int i
 |_,_,.str x=>.str x
 |_,_,.lst h r=>.lst (e.seq h) (cC.same e r)
 |_,_,.tup h r=>.tup (e.aeX h) (cC.same e r)
theorem cC.same{K:Ϩ}(e:ζ H H'):∀{v:List V}{d:List aoL},cC K H v d->cC K H' v d
 |_,_,.nil=>.nil
 |_,_,.cons h r=>.cons (RD.same e h) (cC.same e r)
end
mutual
theorem RD.reads{X:Cx}{σ:St}{H:Hp}{s:μ}(I:Inv X ϵ σ H s):∀{v:V}{d:aoL}{u:ε},RD X.K H v d->RelV v u->∃as,Reads s.heap u d as
 |_,_,_,.non,e=>by cases(show _=Value.none from e);show#[_,.none]
 |_,_,_,.bl b,e=>by cases(show _=Value.bool b from e);show#[_,.bool b]
 |_,_,_,.int i,e=>by let#[t,rfl]:=e;show#[_,.int i t]
 |_,_,_,.str x,e=>by let#[t,rfl]:=e;show#[_,.str x t]
 |_,_,_,.lst h r,e=>by
  cases(show _=Value.ref _ from e);let#[g,a,pl,_]:=I.list h;let#[as,q]:=cC.reads I r a;let#[o,c,f,n,hd]:=pl.isList;show#[_,.list c f hd (~~~q)]
 |_,_,_,.tup h r,e=>by
  cases(show _=Value.ref _ from e);let#[g,a,tp,_]:=I.tuple h;let#[as,q]:=cC.reads I r a;let#[o,c,f,n,hd]:=tp;show#[_,.tuple c f hd (~~~q)]
theorem cC.reads{X:Cx}{σ:St}{H:Hp}{s:μ}(I:Inv X ϵ σ H s):∀{vs:List V}{ds:List aoL}{us:List ε},cC X.K H vs ds->Vals vs us->∃as,ReadsAll s.heap us ds as
 |_,_,_,.nil,.nil=>#[_,.nil]
 |_,_,_,.cons h r,.cons e t=>by
  let#[as,q]:=RD.reads I h e;let#[bs,a]:=cC.reads I r t;show#[_,.cons q a]
end
def K3(f:X.A.units+64<cLine)(a:RD X.K H x d)(c:RD X.K H y d')(h1:d.canLay0=true)(h2:d'.canLay0=true)(hd:d.depth<=60)(q:Q (.bl (PyData.eqv d d')) H):OP X (adF .Eq) x y H Q:=by
 show#[λx y H Q=>RD X.K H x d/\RD X.K H y d'/\Q (.bl (PyData.eqv d d')) H,?_,a,c,q];intro ϵ s σ H x y v u Q I rx ry ⟨a,c,q⟩;let#[as,r1]:=RD.reads I a rx;let#[bs,e]:=RD.reads I c ry;show SeqAt.rcAt_reads r1 e h1 h2 (by have:=atR d.depth d'.depth;omega) X.prog X.w X.xe _ #[.bl _,H,I,rfl,q]
def ad3(f:X.A.units+64<cLine)(a:RD X.K H x d)(c:RD X.K H y d')(h1:d.canLay0=true)(h2:d'.canLay0=true)(hd:d.depth<=60)(q:Q (.bl (!PyData.eqv d d')) H):OP X (adF .NotEq) x y H Q:=by
 show#[λx y H Q=>RD X.K H x d/\RD X.K H y d'/\Q (.bl (!PyData.eqv d d')) H,?_,a,c,q];intro ϵ s σ H x y v u Q I rx ry ⟨a,c,q⟩;let#[as,r1]:=RD.reads I a rx;let#[bs,e]:=RD.reads I c ry;show SeqAt.rcNeAt_reads r1 e h1 h2 (by have:=atR d.depth d'.depth;omega) X.prog X.w X.xe _ #[.bl _,H,I,rfl,q]
def Zz(l:List Ϧ)(i:Nat):Ϧ:=l.getD i (.Pass #[0,0,0,0])
def aje(s:Ϧ):List Ϧ:=match s with
 |.For _ _ b _ _=>b
 |_=>[]
def agc{A B:Prop}(h:A):if decide (V.non=V.non)=true then A else B:=by rw[if_pos (by decide)];show h
def aiq{A B:Prop}(h:B):if decide (V.int i=V.non)=true then A else B:=by rw[if_neg (by simp)];show h
def afY{A B:Prop}(h:B):if decide (V.str i=V.non)=true then A else B:=by rw[if_neg (by simp)];show h
def adi{A B:Prop}(h:B):if decide (V.ref i=V.non)=true then A else B:=by rw[if_neg (by simp)];show h
def aiG{A B:Prop}(h:B):if(!decide (V.non=V.non))=true then A else B:=by rw[if_neg (by decide)];show h
def aiX{A B:Prop}(h:A):if(!decide (V.int i=V.non))=true then A else B:=by rw[if_pos (by simp)];show h
def aoo{A B:Prop}(h:A):if(!decide (V.str i=V.non))=true then A else B:=by rw[if_pos (by simp)];show h
def amq(hn:intText? z=↑n)(hl:↥z<=640)(q:Q (.int n) H):CL X (.type "int") [.str z] H Q:=by
 show dZ (r:=λxs H Q=>∃z n,xs=[.str z]/\intText? z=↑n/\↥z<=640/\Q (.int n) H) ?_ #[z,n,rfl,hn,hl,q];intro ϵ s σ H xs us Q I r h;let#[z,n,rfl,hn,hl,q]:=h;let#[u,rfl,a]:=vals1 r;let#[t,rfl]:=a;show W.KIN.call_text hn hl #[.int n,H,I.tok _,#[_,rfl],q]
def rR(x:Str)(n:Int):Str:=#[(ahh n.toNat x.cps).foldl (· ++ ·) #v[]]
def am4(h1:2<=n)(h2:n<1000000)(e:0<↥z)(c:↥z*n.toNat<=ϰ)(q:Q (.str (rR z n)) H):OP X (binaryOp .Mult) (.str z) (.int n) H Q:=by
 show bC (r:=λx y H Q=>∃z n,x=.str z/\y=.int n/\2<=n/\n<1000000/\0<↥z/\↥z*n.toNat<=ϰ/\Q (.str (rR z n)) H) ?_ #[z,n,rfl,rfl,h1,h2,e,c,q];intro ϵ s σ H x y v u Q I rx ry h;let#[z,n,rfl,rfl,h1,h2,e,c,q]:=h;let#[t,rfl]:=rx;let#[t',rfl]:=ry;let hsz:=ϯ;let e1:(n==1||↥z==0)=false:=by
  rw[Bool.or_eq_false_iff,beq_eq_false_iff_ne,beq_eq_false_iff_ne];omega
 let f:↥z<=16777216:=by
  have:↥z*1<=↥z*n.toNat:=Nat.mul_le_mul_left _ ();omega
 show PySem.P.mul_str (by rw[decide_eq_false (),decide_eq_false ()];rfl) (λ_ _ j=>?_) (λ_ _=>?_) ?_
 .let l:(2^63-1) / 1000000<=(2^63-1:Int) / n:=by
   apply Int.le_ediv_of_mul_le ();have:(2^63-1:Int) / 1000000*n<=(2^63-1) / 1000000*1000000:=Int.mul_le_mul_of_nonneg_left () (by decide);omega
  omega
 .unfold Builtin.Str.tooLong;rw[decide_eq_false];omega
 .rw[if_neg (),e1];show#[by
   let g:∀(k:Nat)(a:Array Nat),((ahh k z.cps).foldl (· ++ ·) a).size=a.size+k*z.cps.size:=by
    intro k;induction k with
    |zero=>intro a;simp
    |succ k i=>
     intro a;rw[aqg,aiR,i,atm,auk];omega
   show((ahh n.toNat z.cps).foldl (· ++ ·) #v[]).size<=ϰ;rw[g];have:z.cps.size=↥z:=rfl;rw[this,aul];simpa using c,.str (rR z n),H,I.tok _,#[_,rfl],q]
section
variable{X:Cx}{e:ϩ}{es:List ϩ}{σ:St}{H:Hp}{Q:VK}{pos p:Pos}
def EY:List (Str×String):=[("len","len"),("isinstance","isinstance"),("all","all"),("any","any"),("min","min"),("max","max"),("abs","abs"),("sum","sum"),("sorted","sorted"),("ord","ord"),("divmod","divmod")]
def Cd:List (Str×String):=[("str","str"),("list","list"),("tuple","tuple"),("int","int"),("set","set"),("bool","bool"),("dict","dict")]
theorem zB{P:Str×String->Prop}:∀{l:List (Str×String)},l.lookup x=↑i->(∀p∈l,P p)->P (x,i)
 |[],e,_=>by cases e
 |(y,k)::l,e,h=>by
  rw[af7]at e;split at e
  .next q=>cases e;rw[beq_iff_eq.mp q];show h _ (by simp)
  .show zB e λp a=>h p (by simp[a])
def an0:∀p∈EY,bootBuiltins p.1=↑(.builtin p.2)/\p.1≠"__name__"/\(p.1==("__debug__":Str))=false:=by
 simp only[EY,asW];show#[#[PySem.boot_len,by decide,by decide],#[PyProof.Rows.boot_isinstance,by decide,by decide],#[PyProof.Rows.boot_all,by decide,by decide],#[PyProof.Rows.boot_any,by decide,by decide],#[PyProof.Rows.boot_min,by decide,by decide],#[PyProof.Rows.boot_max,by decide,by decide],#[PyProof.Rows.boot_abs,by decide,by decide],#[PyProof.Rows.boot_sum,by decide,by decide],#[PyProof.Rows.boot_sorted,by decide,by decide],#[PyProof.Rows.boot_ord,by decide,by decide],#[PyProof.Rows.boot_divmod,by decide,by decide],(λ_ h=>by cases h)]
def Vn:∀p∈Cd,bootBuiltins p.1=↑(.type p.2)/\p.1≠"__name__"/\(p.1==("__debug__":Str))=false:=by
 simp only[Cd,asW];show#[#[PyProof.Rows.boot_str,by decide,by decide],#[PyProof.Rows.boot_list,by decide,by decide],#[PyProof.Rows.boot_tuple,by decide,by decide],#[PyProof.Rows.boot_int,by decide,by decide],#[PyProof.Rows.boot_set,by decide,by decide],#[PyProof.Rows.boot_bool,by decide,by decide],#[PyProof.Rows.boot_dict,by decide,by decide],(λ_ h=>by cases h)]
variable{x:Str}{i:String}
def ad6(g:EY.lookup x=↑i)(j:Gl X x)(l:X.mg x=none)(m:abr (e::es) X.env=(false,eval e X.env)::abr es X.env)(f:(backTo pos (abr es X.env)).any (·.1)=false)(h:EA X (e::es) σ H λvs H1=>CL X (.builtin i) vs H1 Q):EV X (.Call (.Name x p) (e::es) [] pos) σ H Q:=by
 let#[a,b,c]:=zB g an0;show al8 j l a b c m f h
def afb(g:Cd.lookup x=↑i)(j:Gl X x)(l:X.mg x=none)(m:abr (e::es) X.env=(false,eval e X.env)::abr es X.env)(f:(backTo pos (abr es X.env)).any (·.1)=false)(h:EA X (e::es) σ H λvs H1=>CL X (.type i) vs H1 Q):EV X (.Call (.Name x p) (e::es) [] pos) σ H Q:=by
 let#[a,b,c]:=zB g Vn;show agl j l a b c m f h
def aeI(e:Cd.lookup x=↑i)(f:Gl X x)(g:X.mg x=none)(q:Q (.ty i) H):EV X (.Name x pos) σ H Q:=by
 let#[a,b,c]:=zB e Vn;show am7 f g a q b c
def XM:V->Option ε
 |.non=>↑(.type "NoneType")|.bl _=>↑(.type "bool")|.int _=>↑(.type "int")|.str _=>↑(.type "str")|_=>none
def aor{K:Ϩ}{t:ε}(h:XM y=↑t):d9 K H y t:=by
 cases y<;>cases h
 .show .non
 .show .bl _
 .show .int _
 .show .str _
theorem YJ{t:ε}{T:String}{k:Bool}(q:Q (.bl k) H)(h:XM y=↑t:=by rfl)(e:atd X.K t (.type T)=↑k:=by rfl):CL X (.builtin "isinstance") [y,.ty T] H Q:=aop (aor h) e q
def Te(X:Cx)(x:Str)(σ:St):Option V:=match X.env.scope.names.lookup x with
 |some .local=>if(x==("__debug__":Str))||(x==("__classdict__":Str))then none else fZ X.N σ x
 |some .cell=>if(x==("__debug__":Str))||(x==("__classdict__":Str))then none else fZ X.N σ x
 |some .free=>if(x==("__debug__":Str))||(x==("__classdict__":Str))then none else fZ X.N σ x
 |_=>none
def alD(h:Te X x σ=↑v)(q:Q v H):EV X (.Name x pos) σ H Q:=by
 let a:rH X.env.scope x->(if(x==("__debug__":Str))||(x==("__classdict__":Str))then none else fZ X.N σ x)=↑v->EV X (.Name x pos) σ H Q:=λe h=>by
  split at h
  .cases h
  .next c=>
   rw[aqC,not_or,atA,atA]at c;show al9 h e q c.1 c.2
 unfold Te at h;split at h
 .show a (.inl ‹_›) h
 .show a (.inr (.inl ‹_›)) h
 .show a (.inr (.inr ‹_›)) h
 .cases h
end
section
variable{X:Cx}{ϵ:List (δ×Obj)}{σ:St}{H:Hp}{s:μ}
def Inv.GF{ch:List δ}{T:δ}{us:List ε}{h':ϫ}{tk:Nat}(I:Inv X ϵ σ H s)(g:∀b∈ch,bW X ϵ H b)(l:⇑s<=T)(k:∀b o,b∉ch->s.heap.get? b=↑o->h'.get? b=↑o)(m:↥xs<=ϰ)(p:Vals xs us)(tp:IsTup h' T us.toArray):Inv X ϵ σ (upd H T (.tup xs)) {s with heap:=h',toks:=tk}:=by
 let f:=I.hok.fresh l;let neT:∀b o,s.heap.get? b=↑o->b≠T:=λb o e z=>aiF _ (acp (abA e) (z▸l))
 let i:∀b u,H b=↑u->b∉ch:=λb u e z=>by rw[(g b z).1]at e;cases e
 show I.call (g':=s.gens) (d':=s.drawn) (t':=tk) (ch:=ch) (h':=h') #[λb o e _ _ j=>k b o j e,λb o e _ _ j=>#[o.slots,k b o j e],λb o e n _=>?_,λb o e j=>#[o,k b o j e],λb ys e=>?_,λb o u e=>?_,λb ps e=>#[#v[],?_]] ?_ I.bare
  λb a=>#[(g b a).2.2.2.1,(g b a).2.1,(g b a).2.2.2.2.1,(g b a).2.2.2.2.2]
 .rw[θ (neT b o e)];show n
 .rw[θ (ό e f)];show e
 .rw[θ (ό e f)];show e
 .rw[θ (ό e f),e];simp
 .intro b u e;by_cases a:b=T
  .subst a;rw[ς]at e;cases e;show#[m,us,p,tp]
  .rw[θ a]at e;show(I.hok b u e).stay (λc v x q=>k c v ?_ q) (λc q=>by rw[θ (ό q f)];show q) (λc ys q=>by rw[θ (ό q f)];show q) λc y v q=>by rw[θ (ό q f)];show q
   obtain z|z:=x
   .subst z;show i c u e
   .show i c _ z
end
def Fe(K:Ϩ)(l:δ):It:=
 #[λi H=>∃xs x,η K H l xs/\xs[i]?=↑x,λi H v H'=>∃T x,v=.ref T/\H T=none/\H'=upd H T (.tup [.int i,x])/\∀xs,η K H l xs->xs[i]?=↑x,λi H=>∃xs,η K H l xs/\↥xs<=i]
theorem aoO{P:Ϯ}{w:ϭ}{K:PySem.W.Frag}{elts:List ϩ}{k:Nat}{pos:Pos}(l e it:δ)(G:e≠it)(J:l≠e)(L:l≠it):Turn P w K (.Tuple elts k pos) (Fe K l) [e,it] e (λi h=>(∃old,IsEnum h e it i old)/\h.IsListIter it l i)where
 mem:=by simp
 obj:=λi h st b c=>by
  let#[#[old,a],o,f,_,hd]:=st;obtain z|z:=aaB.mp c
  .subst z;show#[_,a,λv z=>by cases z]
  .let z':b=it:= ~~~z
   subst z';show#[o,f,λv z=>by rw[hd]at z;cases z]
 keep:=λi h h' st kk=>by
  let#[#[old,a],o,f,r]:=st;show#[#[old,kk e (by simp) _ a],o,kk it (by simp) _ f,r]
 item:=by
  intro X M O R S i ϵ s σ H E I B st U;subst M O R;let#[#[old,a],g]:=st;let#[xs,x,D,j]:=U;let#[m,F,pl,hz]:=I.list D;let W:=WalksT.enumerate (prog:=X.prog) (w:=X.w) (A:=X.A) (I.ok.hd S) e it l G J L m.toArray;let hi:i<m.toArray.size:=by
   rw[abd, <-↥F];show(aav.mp j).1
  let#[u,hu,ru]:=F.get j;show W.item i s _ _ hi #[#[old,a],g,pl.isList] λT vals h1 tk hp Y tup n keep=>#[.ref T,rfl,?_]
  let#[t,y,ey,rfl]:=hp;let Z:y=u:=by
   have:m[i]?=↑y:= ~~~ey
   rw[hu]at this;show(Option.some.inj this).symm
  subst Z;show W.go elts k pos i T {s with heap:=h1,toks:=tk} _ _ n λh2 aa oG=>?_
  let#[#[ab,ac],p,_]:=aa;let vM:IsTup h2 T [Value.int i t,y].toArray:=by
   let#[o,f,r]:=tup;show#[o,oG T o (W.apart i T h1 n) f,r]
  show#[.ref T,upd H T (.tup [.int i,x]),I.GF (ch:=[e,it]) (tk:=tk) B Y (λb o c q=>oG b o c (keep b o c q)) Ε (.cons #[t,rfl] (.cons ru .nil)) vM,rfl,?_,?_,λb c=>?_]
  .show#[T,x,rfl,I.hok.fresh Y,rfl,λys hy=>?_];rw[<-I.list_inj D hy];show j
  .show#[#[ab,~~~ac],p]
  .have :b≠T:=λz=>by
    obtain⟨o,f,_⟩:∃o,s.heap.get? b=↑o/\True:=by
     obtain z|z:=aaB.mp c
     .subst z;show#[_,a,trivial]
     .let z':b=it:= ~~~z
      subst z';let#[o,f,_]:=g;show#[o,f,trivial]
    show aiF _ (acp (abA f) (z▸Y))
   rw[θ this];show(B b c).1
 done:=by
  intro X M O R S i ϵ s σ H E I B st U;subst M O R;let#[#[old,a],g]:=st;let#[xs,D,j]:=U;let#[m,F,pl,hz]:=I.list D;let hn:m.toArray[i]?=none:=ajV (by rw[abd, <-↥F];show j);show wpAny_pyNext_enum_end (I.ok.hd S) a g pl.isList hn λh' hk=>#[rfl,?_]
  let#[f0,f1,f2,f3,f4,f5]:=B it (by simp);show I.turned (t':=s.toks) (it:=it) (λb o c q=>hk b o c q) f0 f1 f3 f4 f5
 self:=λA i s Q E st h=>by
  let#[#[old,a],_]:=st;show wpAny_pyIter_enum a h
def aeu(y:Gl X "enumerate")(B:X.mg "enumerate"=none)(hs:abr [a] X.env=[(false,eval a X.env)])(h:EV X a σ H λv H1=>∃l xs,v=.ref l/\H1 l=↑(.lst xs)/\R (Fe X.K l) H1):EI X (.Tuple elts k tp) (.Call (.Name "enumerate" p) [a] [] pos) σ H R:=by
 intro ϵ s I;show Call_ (jQ I y B boot_enumerate (PyProof.Rows.callWith_type1 (χ (dw (es:=[]) (QA:=λvs H1=>∃l xs,vs=[.ref l]/\H1 l=↑(.lst xs)/\R (Fe X.K l) H1) hs (ϙ h λv H1 z=>by let#[l,xs,e,D,E]:=z;show iu #[l,xs,by rw[e],D,E]) pos ϵ s I) λus c F=>?_) hs rfl));let#[vs,H1,f,r1,l,xs,e,hl,q]:=F;subst e;let#[u,rfl,G]:=vals1 r1;cases(show u=Value.ref l from G);let#[M,O,n,P,m]:=f.hok l _ hl;show call_enumerate_1 m λh' x i hsz J=>?_
 show wpAny_pyIter_enum x ?_;let g:l<⇑c:=abA m;show#[⇑c+1,[⇑c+1,⇑c],_,_,H1,rfl,f.kept (t':=c.toks) J,aoO l _ _ (Nat.succ_ne_self _) (acu (aq0 g)) (acu g),#[#[_,x],i],λb L=>?_,q];let j:b=⇑c+1\/b=⇑c:= ~~~L
 obtain z|z:=j<;>subst z
 .show f.fpOk (ap1 _) (f.hok.fresh (ap1 _))
 .show f.fpOk (Ϭ _) (f.hok.fresh (Ϭ _))
section
variable{X:Cx}{ϵ:List (δ×Obj)}{σ:St}{H:Hp}{s:μ}
def Inv.abi{ch:List δ}{tk:Nat}(I:Inv X ϵ σ H s)(a:∀b∈ch,bW X ϵ H b)(k:∀b o,b∉ch->s.heap.get? b=↑o->h'.get? b=↑o):Inv X ϵ σ H {s with heap:=h',toks:=tk}:=by
 let f:∀b u,H b=↑u->b∉ch:=λb u e z=>by rw[(a b z).1]at e;cases e
 show I.call (g':=s.gens) (d':=s.drawn) (t':=tk) (ch:=ch) (h':=h') #[λb o e _ _ g=>k b o g e,λb o e _ _ g=>#[o.slots,k b o g e],λb o e n _=>n,λb o e g=>#[o,k b o g e],λb ys e=>e,λb o u e=>e,λb ps e=>#[#v[],?_]] ?_ I.bare
  λb i=>#[(a b i).2.2.2.1,(a b i).2.1,(a b i).2.2.2.2.1,(a b i).2.2.2.2.2]
 .rw[e];simp
 .intro b u e;show(I.hok b u e).stay (λc v j q=>k c v ?_ q) (λc q=>q) λc ys q=>q
  obtain z|z:=j
  .subst z;show f c u e
  .show f c _ z
end
def Ew(K:Ϩ)(l m:δ):It:=
 #[λi H=>∃xs ys x y,η K H l xs/\η K H m ys/\xs[i]?=↑x/\ys[i]?=↑y,
  λi H v H'=>∃T x y,v=.ref T/\H T=none/\H'=upd H T (.tup [x,y])/\(∀xs,η K H l xs->xs[i]?=↑x)/\∀ys,η K H m ys->ys[i]?=↑y,
  λi H=>∃xs ys,η K H l xs/\η K H m ys/\min ↥xs ↥ys<=i]
theorem aoB{P:Ϯ}{w:ϭ}{K:PySem.W.Frag}{elts:List ϩ}{k:Nat}{pos:Pos}(z TI TO j n l m:δ)(D:ZipApart z TI TO j n l m):Turn P w K (.Tuple elts k pos) (Ew K l m) [z,TI,TO,j,n] z (λi h=>IsZip h z TI TO .none/\IsPair h TI (.ref j) (.ref n)/\(∃a b,IsPair h TO a b)/\h.IsListIter j l i/\h.IsListIter n m i)where
 mem:=by simp
 obj:=λi h st b g=>by
  let#[F,f,#[a,a',c],#[o1,h1,_,d1],#[o2,h2,_,d2]]:=st;simp only[aaB,agq,or_false]at g;obtain e|e|e|e|e:=g<;>subst e
  .show#[_,F,λv z=>by cases z]
  .show#[_,f,λv z=>by cases z]
  .show#[_,c,λv z=>by cases z]
  .show#[_,h1,λv z=>by rw[d1]at z;cases z]
  .show#[_,h2,λv z=>by rw[d2]at z;cases z]
 keep:=λi h h' st kk=>by
  let#[F,f,#[a,a',c],#[o1,h1,r1],#[o2,h2,r2]]:=st;show#[kk z (by simp) _ F,kk TI (by simp) _ f,#[a,a',kk TO (by simp) _ c],#[o1,kk j (by simp) _ h1,r1],#[o2,kk n (by simp) _ h2,r2]]
 item:=by
  intro X hP hw hK hc i ϵ s σ H E I S st hg;subst hP hw hK;let#[F,f,c,h1,h2]:=st;let#[xs,ys,x,y,U,p,Y,hy]:=hg;let#[G,Z,pl,hsz]:=I.list U;let#[its',B,Hi,J]:=I.list p;let W:=WalksT.zip2 (prog:=X.prog) (w:=X.w) (A:=X.A) (I.ok.hd hc) z TI TO j n l m D G.toArray its'.toArray;let hi:i<min G.toArray.size its'.toArray.size:=by
   rw[abd, <-↥Z,abd, <-↥B];show Nat.lt_min.mpr #[(aav.mp Y).1,(aav.mp hy).1]
  let#[u,hu,ru]:=Z.get Y;let#[u',aa,Ku]:=B.get hy;show W.item i s _ _ hi #[F,f,c,h1,h2,pl.isList,Hi.isList] λT vals hh tk hp hT tup L keep=>#[.ref T,rfl,?_]
  let#[v,v',ev,ab,rfl]:=hp;let e1:v=u:=by
   have:G[i]?=↑v:= ~~~ev
   rw[hu]at this;show(Option.some.inj this).symm
  let e2:v'=u':=by
   have:its'[i]?=↑v':= ~~~ab
   rw[aa]at this;show(Option.some.inj this).symm
  subst e1 e2;show W.go elts k pos i T {s with heap:=hh,toks:=tk} _ _ L λh3 ac oG=>?_
  let#[gz,ae,af,g1,g2,_]:=ac;let M:∀b,b∉[z,TI,TO,j,n]->b∉[z,TO,j,n]:=λb g O=>g (by simp at O⊢;obtain e|e|e|e:=O<;>simp[e])
  let vM:IsTup h3 T [v,v'].toArray:=by
   let#[o,ho,r]:=tup;show#[o,oG T o (W.apart i T hh L) ho,r]
  show#[.ref T,upd H T (.tup [x,y]),I.GF (ch:=[z,TI,TO,j,n]) (tk:=tk) S hT (λb o g q=>oG b o (M b g) (keep b o (M b g) q)) Ε (.cons ru (.cons Ku .nil)) vM,rfl,?_,#[gz,ae,af,g1,g2],λb g=>?_]
  .show#[T,x,y,rfl,I.hok.fresh hT,rfl,λa ha=>?_,λa ha=>?_]
   .rw[<-I.list_inj U ha];show Y
   .rw[<-I.list_inj p ha];show hy
  .have :b≠T:=λq=>by
    obtain⟨o,ho⟩:∃o,s.heap.get? b=↑o:=by
     let#[a,a',c]:=c;let#[o1,h1,_]:=h1;let#[o2,h2,_]:=h2;simp only[aaB,agq,or_false]at g;obtain e|e|e|e|e:=g<;>subst e
     .show#[_,F]
     .show#[_,f]
     .show#[_,c]
     .show#[_,h1]
     .show#[_,h2]
    show aiF _ (acp (abA ho) (q▸hT))
   rw[θ this];show(S b g).1
 done:=by
  intro X hP hw hK hc i ϵ s σ H E I S st hg;subst hP hw hK;let#[F,f,#[a,b,c],h1,h2]:=st;let#[xs,ys,U,p,Y]:=hg;let#[G,Z,pl,hsz]:=I.list U;let#[its',B,Hi,J]:=I.list p;let R:G.toArray[i]?=none\/its'.toArray[i]?=none:=by
   by_cases q:↥xs<=i
   .show .inl (ajV (by rw[abd, <-↥Z];show q))
   .show .inr (ajV (by rw[abd, <-↥B];omega))
  show wpAny_pyNext_zip_end (I.ok.hd hc) D F f c h1 h2 pl.isList Hi.isList R λh' hk=>#[rfl,?_]
  show I.abi (tk:=s.toks) S λb o g q=>hk b o (λe=>g (by simp[e])) (λe=>g (by simp[e])) (λe=>g (by simp[e])) (λe=>g (by simp[e])) q
 self:=λA i s Q E st h=>wpAny_pyIter_zip st.1 h
def al3(n l m:Nat)(h1:l<n)(h2:m<n):ZipApart (n+4) (n+2) (n+3) n (n+1) l m:=by
 constructor<;>(intro e;let a:(_:Nat)=_:=e;omega)
def aiw(D:Gl X "zip")(E:X.mg "zip"=none)(hs:abr [a,b] X.env=[(false,eval a X.env),(false,eval b X.env)])(c:abr [b] X.env=[(false,eval b X.env)])(h:EV X a σ H λv H1=>EV X b σ H1 λy H2=>∃l m xs ys,v=.ref l/\y=.ref m/\H2 l=↑(.lst xs)/\H2 m=↑(.lst ys)/\R (Ew X.K l m) H2):EI X (.Tuple elts k tp) (.Call (.Name "zip" p) [a,b] [] pos) σ H R:=by
 intro ϵ s I;show Call_ (jQ I D E boot_zip (PyProof.Rows.callWith_type1 (χ (dw (es:=[b]) (QA:=λvs H1=>∃l m xs ys,vs=[.ref l,.ref m]/\H1 l=↑(.lst xs)/\H1 m=↑(.lst ys)/\R (Ew X.K l m) H1) (by rw[hs,c]) (ϙ h λv H1 q=>dw (es:=[]) c (ϙ q λy H2 z=>by let#[l,m,xs,ys,e,F,G,J,L]:=z;show iu #[l,m,xs,ys,by rw[e,F],G,J,L])) pos ϵ s I) λus f M=>?_) (by rw[hs,c]) (by rw[c];rfl)));let#[vs,H1,g,r1,l,m,xs,ys,e,hl,x,q]:=M;subst e;let#[u,O,rfl,P,Q]:=vals2 r1;cases(show u=Value.ref l from P);cases(show O=Value.ref m from Q);let#[hz,S,n,rv,z]:=g.hok l _ hl;let#[T,its',n',U,i]:=g.hok m _ x;show call_zip_2 (xs:=S.toArray) (ys:=its'.toArray) #[_,z,rfl,_,rfl] #[_,i,rfl,_,rfl] λh' h1 h2 W Y Z hsz hk=>?_
 show wpAny_pyIter_zip h1 ?_*>#[⇑f+4,[⇑f+4,⇑f+2,⇑f+3,⇑f,⇑f+1],_,_,H1,rfl,g.kept (t':=f.toks) hk,aoB _ _ _ _ _ l m (al3 _ _ _ (abA z) (abA i)),#[h1,h2,#[_,_,W],Y,Z],λb B=>?_,q];let j:⇑f<=b:=by
  simp only[aaB,agq,or_false]at B;obtain e|e|e|e|e:=B<;>subst e
  .show akD _ _
  .show akD _ _
  .show akD _ _
  .show Ϭ _
  .show akD _ _
 show g.fpOk j (g.hok.fresh j)
section
variable{X:Cx}{a e:ϩ}{σ:St}{H:Hp}{Q:VK}{D:Ends}{pos p p':Pos}
def QW{Q:Hp->Prop}(n:Nat)(hn:n<=ϰ)(B:St->Prop)(Z:B z)(f:Nat->V->Hp->Prop)(W:H E=none)(mono:∀i v H1 H2 ys,H1 E=↑(.lst ys)->(∀b o,b≠E->H1 b=↑o->H2 b=↑o)->f i v H1->f i v H2)(go:∀i H1,ζ H H1->i<n->J.go i H1)(stop:∀H1,ζ H H1->J.stop n H1)(step:∀i l x H1 H2,i<n->B l->ζ H H1->(∃ys,H1 E=↑(.lst ys)/\↥ys=i/\∀k v,ys[k]?=↑v->f k v H1)->J.yld i H1 x H2->EG Y tg x l H2 λg P=>EV Y elt g P λv p=>B g/\f i v p/\ζ H1 p)(fin:∀H1 xs,↥xs=n->(∀i v,xs[i]?=↑v->f i v H1)->H1 E=↑(.lst xs)->ζ H H1->Q H1):j6 X Y tg elt [] J E z H Q:=by
 show#[λi m l H1=>m=n-i/\i<=n/\ζ H H1/\B l/\∃xs,H1 E=↑(.lst xs)/\↥xs=i/\∀k v,xs[k]?=↑v->f k v H1,#[n,by simp,aeG _,ζ.upd W,Z,[],ς,rfl,λk v e=>by simp at e],?_]
 rintro i m l H1 ⟨rfl,hi,D,R,xs,F,L,S⟩
 by_cases j:i<n
 .show .inr #[go i H1 D j,λG H'=>ζ H H'/\B G/\∃xs,H' E=↑(.lst xs)/\↥xs=i+1/\∀k v,xs[k]?=↑v->f k v H',λG H' z=>by let#[a,b,c]:=z;show #[n-(i+1),(),rfl,j,a,b,c],λx H2 y=>?_];intro ϵ s u I r;show χ (step i l x H1 H2 j R D #[xs,F,L,S] y ϵ s u I r) λ_ s' ⟨g,P,I3,q3⟩=>#[g,P,I3,abu ?_]
  rw[if_pos rfl];show ϙ q3 λv p ⟨t2,pv,M⟩=>#[xs,M<*F,(),?_]
  let mm:∀k O,f k O p->f k O (upd p E (.lst (xs++[v]))):=λk O q=>mono k O p _ xs (M<*F) (λb o T e=>by rw[θ T];show e) q
  show#[λb o e=>?_,t2,xs++[v],ς,by simp[L],λk u e=>?_]
  .rw[θ (ό e W)];show M<*(D<*e)
  .by_cases hk:k<↥xs
   .rw[aiJ hk]at e;show mono k u H1 _ xs F (λb o T e=>?_) (S k u e);rw[θ T];show M<*e
   .let U:k=i:=by
     have:=(aav.mp e).1;rw[abp,adS]at this;omega
    subst U;rw[<-L,anV]at e;cases e;show mm<*pv
 .let e:i=n:=()
  subst e;show .inl #[stop H1 D,fin H1 xs L S F D]
variable{tg elt iter:ϩ}{scope:ahx}{σ':St}
def vK(X:Cx)(N':List Str)(scope:ahx)(tg elt:ϩ)(σ':St)(H1:Hp)(Q:VK)(n:Nat)(G:Nat->Hp->V->Hp->Prop):Prop:=
 ∃(f:St->Prop)(e:δ->Nat->V->Hp->Prop),f σ'/\
  (∀E i v H2 a ys,H2 E=↑(.lst ys)->(∀b o,b≠E->H2 b=↑o->a b=↑o)->e E i v H2->e E i v a)/\
  (∀(fp:List δ)(E C:δ)(g:μ)(H0:Hp)(i:Nat)(j:St)(x:V)(H2 a:Hp),H1 E=none->i<n->f j->ζ H1 H2->(∃ys,H2 E=↑(.lst ys))->G i H2 x a->
   EG (b8 X N' scope (Ϙ scope X.env) C g H0 fp) tg x j a λc m=>EV (b8 X N' scope (Ϙ scope X.env) C g H0 fp) elt c m λv l=>f c/\e E i v l/\ζ H2 l)/\
  ∀(E:δ)(H2:Hp)(xs:List V),H1 E=none->↥xs=n->(∀i v,xs[i]?=↑v->e E i v H2)->H2 E=↑(.lst xs)->ζ H1 H2->Q (.ref E) H2
def Bb(hn:n<=ϰ)(go:∀i H2,ζ H H2->i<n->J.go i H2)(stop:∀H2,ζ H H2->J.stop n H2)(f:∀i H2 x e,i<n->ζ H H2->J.yld i H2 x e->G i H2 x e)(h:vK X N' scope tg elt σ' H Q n G):∀(fp:List δ)(D C:δ)(a:μ),H D=none->j6 X (b8 X N' scope (Ϙ scope X.env) C a (upd H D (.lst [])) fp) tg elt [] J D σ' H (λH'=>Q (.ref D) H'):=by
 intro fp E C a c;let#[g,j,t0,mono,step,fin]:=h;show QW n hn g t0 (j E) c (λi v H1 H2 ys=>mono E i v H1 H2 ys) go stop (λi m x H1 H2 hi p hs q y=>step fp E C a _ i m x H1 H2 c hi p hs (q.imp λ_ z=>z.1) (f i H1 x H2 hi hs y)) λH1 xs l u B s=>fin E H1 xs c l u B s
def jd(N':List Str)(S:cP X.env scope)(h:EV X e σ H λv H1=>∃l xs,v=.ref l/\η X.K H1 l xs/\↥xs<=ϰ/\vK X N' scope tg elt σ' H1 Q ↥xs λi H2 x c=>xs[i]?=↑x/\H2=c)(a:cN N' X.N σ scope=σ':=by rfl)(f:X.calm=true:=by rfl)(hs:∀x,foldedSetIterable e X.env x=pure x:=by intro _;rfl):EV X (.ListComp elt [#[tg,e,[],0]] scope pos) σ H Q:=by
 show uf (N':=N') f S hs (uK (ϙ h λv H1 q=>?_));let#[l,xs,rfl,hl,g,j]:=q;show#[l,rfl,#[xs,hl],?_];rw[a];show Bb g (λi H2 s hi=>#[xs,xs[i],ζ.seq s hl,ϳ hi]) (λH2 s=>#[xs,ζ.seq s hl,Ϭ _]) (λi H2 x c hi s y=>#[y.2 xs (ζ.seq s hl),y.1.symm]) j
def RW(N':List Str)(S:cP X.env scope)(f:X.mg "range"=none)(h:EV X a σ H λv H1=>∃n:Int,v=.int n/\ -(2^62)<=n/\n.toNat<=ϰ/\vK X N' scope tg elt σ' H1 Q n.toNat λi H2 x e=>x=.int i/\H2=e)(c:cN N' X.N σ scope=σ':=by rfl)(g:X.calm=true:=by rfl)(j:Gl X "range":=by rfl)(hs:abr [a] X.env=[(false,eval a X.env)]:=by rfl):EV X (.ListComp elt [#[tg,.Call (.Name "range" p) [a] [] p',[],0]] scope pos) σ H Q:=by
 show uf (N':=N') g S (by intro _;rfl) (KZ j f hs (dw hs (ϙ h λv H1 q=>?_)));let#[n,rfl,h1,h2,l]:=q;let hsz:(ϰ:Nat)<2^62:=by rw[ϯ];decide
 show iu #[n,rfl,h1,(),?_];rw[c];show Bb h2 (λi H2 s hi=>hi) (λH2 s=>Ϭ _) (λi H2 x e hi s y=>#[by rw[y.2,asn],y.1.symm]) l
def NQ(N':List Str)(S:cP X.env scope)(E:X.mg "zip"=none)(h:EV X a σ H λv H1=>EV X b σ H1 λB H2=>∃l m xs ys,v=.ref l/\B=.ref m/\H2 l=↑(.lst xs)/\H2 m=↑(.lst ys)/\min ↥xs ↥ys<=ϰ/\
   vK X N' scope (.Tuple elts k tp) elt σ' H2 Q (min ↥xs ↥ys) λi c x D=>∃T y z,x=.ref T/\c T=none/\D=upd c T (.tup [y,z])/\xs[i]?=↑y/\ys[i]?=↑z)(f:cN N' X.N σ scope=σ':=by rfl)(F:X.calm=true:=by rfl)(G:Gl X "zip":=by rfl)(hs:abr [a,b] X.env=[(false,eval a X.env),(false,eval b X.env)]:=by rfl)(g:abr [b] X.env=[(false,eval b X.env)]:=by rfl):EV X (.ListComp elt [#[.Tuple elts k tp,.Call (.Name "zip" p) [a,b] [] p',[],0]] scope pos) σ H Q:=by
 show uf (N':=N') F S (by intro _;rfl) (aiw G E hs g (ϙ h λv H1 q=>ϙ q λB H2 q=>?_));let#[l,m,xs,ys,e1,I,hl,e,h2,J]:=q;show#[l,m,xs,ys,e1,I,hl,e,?_];rw[f];let j:η X.K H2 l xs:=.inl (.inl hl);let n:η X.K H2 m ys:=.inl (.inl e);show Bb h2 (λi c s hi=>#[xs,ys,xs[i]'(),ys[i]'(),ζ.seq s j,ζ.seq s n,ϳ _,ϳ _]) (λc s=>#[xs,ys,ζ.seq s j,ζ.seq s n,Ϭ _]) (λi c x D hi s y=>?_) J;let#[T,u,L,M,O,P,R,U]:=y;show#[T,u,L,M,O,P,R xs (ζ.seq s j),U ys (ζ.seq s n)]
def ahV(s:akR ∅ X.A X.env X.xe)(z:X.calm=true)(B:Gl X "enumerate")(E:X.mg "enumerate"=none)(hs:abr [a] X.env=[(false,eval a X.env)])(h:EV X a σ H λv H1=>∃l xs,v=.ref l/\H1 l=↑(.lst xs)/\∃c:Nat->St->Hp->Prop,c 0 σ H1/\(∀i σ' H',i<=↥xs->c i σ' H'->η X.K H' l xs)/\
   (∀i x T σ' H',xs[i]?=↑x->c i σ' H'->H' T=none->EG X (.Tuple elts k tp) (.ref T) σ' (upd H' T (.tup [.int i,x])) λf H2=>Η X body {D with nx:=c (i+1),ct:=c (i+1),bk:=D.nx} f H2)/\∀σ' H',c ↥xs σ' H'->D.nx σ' H'):SX X (.For (.Tuple elts k tp) (.Call (.Name "enumerate" p) [a] [] p') body [] pos) D σ H:=by
 show lV s z (by intro _;rfl) (aeu B E hs (ϙ h λv H1 q=>?_));let#[l,xs,rfl,F,c,G,hl,j,hd]:=q;show#[l,xs,rfl,F,λi m σ H=>m=↥xs-i/\i<=↥xs/\c i σ H,#[↥xs,by simp,aeG _,G],?_]
 rintro i m σ' H' ⟨rfl,hi,p⟩
 let n:=hl i σ' H' hi p;by_cases g:i<↥xs
 .show .inr #[#[xs,xs[i],n,ϳ g],c (i+1),λf H2 p2=>#[↥xs-(i+1),(),rfl,g,p2],λx H2 y=>?_];let#[T,u,e1,I,J,L]:=y;subst e1 J;show j i u T σ' H' (L xs n) p I
 .let e:i=↥xs:=()
  subst e;show .inl #[#[xs,n,Ϭ _],hd σ' H' p]
end
section
variable{Kt:Type} [DecidableEq Kt] [BEq Kt] [LawfulBEq Kt]
def fj(ks:List Kt):List Kt:=ks.foldl (λa k=>if k∈a then a else a++[k]) []
def vV(ks:List Kt)(k:Kt):fj (ks++[k])=if k∈fj ks then fj ks else fj ks++[k]:=by
 unfold fj;rw[ass];rfl
theorem zJ:∀n (ks:List Kt),↥ks=n->↥(fj ks)<=↥ks
 |0,ks,h=>by rw[aqG.mp h];show Ϭ _
 |n+1,ks,h=>by
  obtain⟨l,k,rfl⟩:∃l k,ks=l++[k]:=#[_,_,(anf (alP h)).symm];let hl:↥l=n:= ~~~h
  let a:=zJ n l hl;rw[vV];split <;>simp <;>omega
theorem U6:∀n (ks:List Kt),↥ks=n->∀k,k∈fj ks↔k∈ks
 |0,ks,h=>by rw[aqG.mp h];intro k;show Iff.rfl
 |n+1,ks,h=>by
  obtain⟨l,x,rfl⟩:∃l k,ks=l++[k]:=#[_,_,(anf (alP h)).symm];let hl:↥l=n:= ~~~h
  let a:=U6 n l hl;intro k;rw[vV,adH,ack];split
  .rename_i c;rw[a];constructor
   .show .inl
   .rintro(e|e)
    .show e
    .rw[e];show(a x).mp c
  .rw[adH,ack,a]
theorem JL:∀n (ks:List Kt),↥ks=n->(↥(fj ks)=↥ks↔ks.Nodup)
 |0,ks,h=>by rw[aqG.mp h];simp[fj]
 |n+1,ks,h=>by
  obtain⟨l,x,rfl⟩:∃l k,ks=l++[k]:=#[_,_,(anf (alP h)).symm];let hl:↥l=n:= ~~~h
  let f:=JL n l hl;let le:=zJ n l hl;let g:=U6 n l hl x;rw[vV,alW];split
  .rename_i c;constructor
   .intro e;simp at e;omega
   .intro e;show absurd rfl (e.2.2 x (g.mp c) x (by simp))
  .rename_i c;rw[abp,abp,adS];constructor
   .intro e;show#[f.mp (),by simp,λa ha b i=>?_];rw[ack.mp i];intro j;show c (g.mpr (j▸ha))
   .intro e;rw[f.mpr e.1]
end
def strAt(us:Array ε)(zs:List Str):=∀(i:Nat)(v:ε),us[i]?=↑v->∃t z,v=.str z t/\zs[i]?=↑z
def jX(prog:Ϯ)(w:ϭ)(h:ϫ)(S:δ)(zs:List Str):Prop:=h.SetOf (strKind prog w) S (λk=>decide (k∈fj zs)) ↥(fj zs)
def jX.stay(x:jX prog w h S zs)(k:∀o,h.get? S=↑o->h'.get? S=↑o):jX prog w h' S zs:=by
 let#[o,es,ep,t,a,rest]:=x;show#[o,es,ep,t,k _ a,rest]
def amG{R:Result->μ->Prop}{G:Array GenState->Array GenState->Prop}{St:Nat->μ->Prop}(W:WalksS prog w A.in1 it fp wr G us.size (λi v=>us[i]?=↑v) St)(S:δ)(E:S∉fp)(J:strAt us zs)(hl:us.size=↥zs)(a:us.size+1<scanBound)(d:Nat):∀(i:Nat)(s:μ),d+i=us.size->St i s->jX prog w s.heap S (zs.take i)->
   (∀s',Moved (S::wr) G s s'->jX prog w s'.heap S zs->R (.ok (.ret .none)) s')->codeAny (ϧ prog w) A (.builtin "set.update.loop" #[[.ref S,.ref it],[]]) R s:=by
 let c:S∉wr:=λh=>E (W.sub _ h)
 let up:∀b∈wr,b∈S::wr:=λb a=>abF _ a
 induction d with
 |zero=>
  intro i s hi st j n;let e:i=us.size:=()
  subst e;show apU F.entry_set_update_loop ?_;rw[Around.under_plainId F.plain_set_update_loop _];show ν (m:=pyNext (.ref it)) (W.done s _ _ st λs' f=>?_)*>ϱ (n s' (f.mono up) ?_);rw[hl,ahs]at j;show j.stay λo p=>f.heap S o c p
 |succ d L=>
  intro i s hi st j n;show apU F.entry_set_update_loop ?_;rw[Around.under_plainId F.plain_set_update_loop _];show ν (m:=pyNext (.ref it)) (W.item i s _ _ () st λv s' M q f=>?_);let#[t,z,rfl,O]:=J i v M;let u:=j.stay (h':=s'.heap) λo p=>f.heap S o c p
  show π _ A.in1 (holding [Value.str z t] (setAdd S (.str z t))>>=_) _ _ s'*>ν (afM ?_);unfold setAdd;show afM (ν ((strKind prog w).pyHash (k:=z) (strKind_is _ _ _ _) ?_));let H:zs.take (i+1)=zs.take i++[z]:=by rw[al1,O];rfl
  let g:↥(fj (zs.take i))+1<scanBound:=by
   have:=zJ _ (zs.take i) rfl;have:↥(zs.take i)<=↥zs:=by simp;omega
   omega
  show wpAny_setAddHashed_of (knd:=strKind prog w) (s:={s' with toks:=s'.toks+1}) (strKind_is _ _ _ _) rfl u g λh' I x=>?_
  let y:jX prog w h' S (zs.take (i+1)):=by
   show SetOf_congr x (λk=>?_) ?_
   .rw[H,vV];split
    .rename_i l;by_cases e:k=z
     .subst e;simp[l]
     .simp[e]
    .by_cases e:k=z
     .subst e;simp
     .simp[e]
   .rw[H,vV];by_cases l:z∈fj (zs.take i)
    .simp[l]
    .simp[l]
  show ϱ #[plainId_quiet F.plain_set_update_loop _,L (i+1) _ () (W.frame _ s' _ _ q (ap1 _) λb a o e=>?_) y λP B D=>?_]
  .rw[I.2 b (λh:b=S=>E (h▸a))];show e
  .show n P (Moved.trans W.gtrans ((f.mono up).then_heap (ap1 _) λb o a e=>?_) B) D;rw[I.2 b (λh:b=S=>a (h▸ad8))];show e
abbrev newSet(h:ϫ)(led:Bool):ϫ:=h.push {cls:=.type "set",dict:=none,data:=.set #v[] 0 (.fresh 0 0 led)}
set_option maxRecDepth 100000 in
def abZ(hh:A.handled=none)(hl:s.heap.IsList l us)(f:∃a,s.heap.get? S=some {cls:=.type "set",dict:=none,data:=.set #v[] 0 (.fresh 0 0 a)})(x:strAt us zs)(hn:us.size=↥zs)(j:us.size+1<scanBound)(h:∀(h':ϫ)(tk:Nat),jX prog w h' S zs->(∀b o,b≠S->s.heap.get? b=↑o->h'.get? b=↑o)->Q .none {s with heap:=h',toks:=tk}):codeAny (ϧ prog w) A (.call (.builtin "set.__init__") #[[.ref S,.ref l],[]]) (wants Q E) s:=by
 let#[a,f]:=f;let y:s.TypeIs (.ref S) "set":=#[_,f,rfl];show aoR F.called_set.init.plain F.entry_set_init (check_set_init_1 y ?_);let g:=hl;let#[#[oc,od,m,os],c,v,nl,hd]:=hl;simp only at v hd;subst v hd;let L:=F.sub_list_set;let M:=F.sub_list_frozenset;let O:(Value.type "list"==Value.type "dict")=false:=by decide
 unfold apn.«set.__init__» noKeywords Builtin.Frozenset.updateFrom;generalize n:pyIter=PI
 wp_walk
 subst n;show alB g (ν (wpAny_runValue ?_));let z:S<⇑s:=abA f;let B:l<⇑s:=abA c;let D:A.in1.in1.handled=none:=by simp[hh]
 let p:S≠l:=λe=>by subst e;rw[f]at c;simp at c
 show amG (us:=us) ((Walks.list D _ l (acu B) us).toS) S (by simp only[aaB,agq,or_false,not_or];show#[acu z,p]) x hn j us.size 0 {s with heap:=s.heap.push {cls:=.type "list_iterator",data:=.fields #v[.ref l,.int 0 0]}} ()
  #[#[_,abj _ rfl,rfl,rfl],(g.push _)] ?_ ?_
 .let hget:=ϲ {cls:=.type "list_iterator",data:=.fields #v[.ref l,.int 0 0]} f;show SetOf_congr ((setObjOf_fresh (knd:=strKind prog w) a).setOf hget (by unfold scanBound;omega)) (λ_=>rfl) rfl
 .intro s' i G;let#[h',g',d',q,u]:=s';let H:g'=s.gens:=i.gens;let I:d'=s.drawn:=i.drawn;let J:u=s.os:=i.os;subst H I J;show ϱ ?_*>π _ _ (ret Value.none) _ _ _*>ϱ (h h' q G λb o j e=>?_)*>i.heap b o ?_ (ϲ _ e);simp only[aaB,agq,or_false,not_or];show#[j,acu (abA e)]
set_option maxRecDepth 100000 in
def adE(hh:A.handled=none)(hl:s.heap.IsList l us)(x:strAt us zs)(hn:us.size=↥zs)(y:us.size+1<scanBound)(h:∀(h':ϫ)(tk:Nat),jX prog w h' ⇑s zs->(∀b o,s.heap.get? b=↑o->h'.get? b=↑o)->Q (.ref ⇑s) {s with heap:=h',toks:=tk}):π (ϧ prog w) A (call (.type "set") [.ref l]) Q E s:=by
 let#[c,tl,q]:=F.called_set.mro;let m:=F.called_set.made;let u:=F.called_set.sub;let h1:=F.called_set.notType;let h2:=F.called_set.canCreate;let z:=F.typeCall_set_1 (.ref l);show aqn (codeAny_of_tree ?_)*>π _ _ (callAny (.type "set") _) _ _ _*>ϱ #[Code.quiet_builtin _ (by fin2),apU F.entry_type_call ?_];rw[Around.under_plain (weight_type_call_type "set" [.ref l] []) rfl]
 repeat (any_goals (first|with_reducible assumption|wp_step))
 show ajk (code_set_new_1 (.ref l) (E:=E) (Q₁:=λobj g=>∃a:Bool,obj=.ref ⇑s/\g={s with heap:=newSet s.heap a}) λa=>#[a,rfl,rfl]) λr g n=>?_
 rcases r with e|(_|_|_|obj)
 all_goals first|show n|show n.elim|skip
 let#[a,rfl,rfl]:=n;let v:(newSet s.heap a).get? ⇑s=some {cls:=.type "set",dict:=none,data:=.set #v[] 0 (.fresh 0 0 a)}:=abj _ rfl;let G:Shared.TypeIs {s with heap:=newSet s.heap a} (.ref ⇑s) "set":=#[_,v,rfl];let B:=F.called_set.init.lookup;let D:=F.called_set.init.bind (.ref ⇑s)
 repeat (any_goals (first|with_reducible assumption|wp_step))
 show ajk (abZ (E:=E) (s:={s with heap:=newSet s.heap a}) (Q:=λr i=>r=.none/\∃h' tk,i={s with heap:=h',toks:=tk}/\jX prog w h' ⇑s zs/\∀b o,s.heap.get? b=↑o->h'.get? b=↑o) (by simp[hh]) (hl.push _) #[a,v] x hn y λh' tk p k=>#[rfl,h',tk,rfl,p,λb o e=>k b o (acu (abA e)) (ϲ _ e)]) λj i f=>?_
 rcases j with e|(_|_|_|r)
 all_goals first|show f|show f.elim|skip
 let#[rfl,h',tk,rfl,p,k]:=f
 repeat (any_goals (first|with_reducible assumption|wp_step))
 show h _ _ p k
section
variable{X:Cx}{H:Hp}{Q:VK}{v:V}
def pA(X:Cx)(S:δ)(zs:List Str):HO:=.ext λh=>jX X.prog X.w h S zs
def O1(n:X.calm=true)(h:η X.K H q (zs.map V.str))(j:↥zs<=4000)(g:∀S,H S=none->Q (.ref S) (upd H S (pA X S zs))):CL X (.type "set") [.ref q] H Q:=by
 show dZ (r:=λxs H Q=>∃q zs,xs=[.ref q]/\η X.K H q (zs.map V.str)/\↥zs<=4000/\∀S,H S=none->Q (.ref S) (upd H S (pA X S zs))) ?_ #[q,zs,rfl,h,j,g];intro ϵ s σ H xs us Q I r h;let#[q,zs,rfl,h,j,g]:=h;let#[u,rfl,p]:=vals1 r;cases(show u=Value.ref q from p);let#[c,l,pl,_]:=I.list h;let hl:↥c=↥zs:=by have:=↥l;rw[aaw]at this;show this.symm
 let f:strAt c.toArray zs:=λi v e=>by
  let m:c[i]?=↑v:= ~~~e
  let hi:i<↥zs:=by rw[<-hl];show(aav.mp m).1
  let#[u,e1,y]:=l.get (i:=i) (x:=V.str zs[i]) (by simp[hi]);rw[m]at e1;cases e1;let#[t,rfl]:=y;show#[t,zs[i],rfl,ϳ hi]
 show adE (I.ok.hd n) pl.isList f (~~~hl) (by show _<4096;simp;omega) λh' tk a k=>?_
 show#[.ref ⇑s,_,I.laid (t':=tk) (o:=pA X ⇑s zs) k (Ϭ _) #[a,?_,λh1 h2 a z=>a.stay z],rfl,g _ (I.hok.fresh (Ϭ _))];let#[o,es,ep,t,B,_]:=a;show#[o,B]
def aa8(h:H S=↑(pA X S zs))(c:↥zs<=4000)(g:Q (.int ↥(fj zs)) H):CL X (.builtin "len") [.ref S] H Q:=by
 show dZ (r:=λxs H Q=>∃S zs,xs=[.ref S]/\H S=↑(pA X S zs)/\↥zs<=4000/\Q (.int ↥(fj zs)) H) ?_ #[S,zs,rfl,h,c,g];intro ϵ s σ H xs us Q I r h;let#[S,zs,rfl,h,c,g]:=h;let#[u,rfl,e]:=vals1 r;cases(show u=Value.ref S from e);let#[#[o,es,ep,t,f,a,hd,i,l,m,j,hn],_]:=I.hok S _ h;let le:=zJ _ zs rfl;show call_len_set f a hd j () #[.int es.size,H,I.tok _,#[_,rfl],?_];rw[hn];show g
theorem aa4(h:ξ X.K H p xs)(q:Q (.bl (!jg x xs)) H)(f:iJ x=true:=by rfl)(fs:xs.all iJ=true:=by rfl):OP X (adF .NotIn) x (.ref p) H Q:=bC aoA #[p,xs,rfl,.inr h,f,fs,q]
theorem sI(h:ξ X.K H p xs)(q:Q (.bl (jg x xs)) H)(f:iJ x=true:=by rfl)(fs:xs.all iJ=true:=by rfl):OP X (adF .In) x (.ref p) H Q:=bC akE #[p,xs,rfl,.inr h,f,fs,q]
theorem zr(h1:H l=↑(.lst xs))(h2:H b=↑(.lst zs))(a:↥xs+↥zs<=ϰ)(q:∀p,H p=none->Q (.ref p) (upd H p (.lst (xs++zs)))):OP X (binaryOp .Add) (.ref l) (.ref b) H Q:=bC amy #[l,b,xs,zs,rfl,rfl,h1,h2,a,q]
end
section
variable{X:Cx}{H:Hp}{D:Ends}{σ σ':St}{e a elt tg:ϩ}{scope:ahx}{pos spos py p p':Pos}{y:Str}{j:Nat}
def wM(N':List Str)(S:cP X.env scope)(g:X.N.Nodup)(h:EV X e σ H λv H1=>∃l xs,v=.ref l/\η X.K H1 l xs/\↥xs<=ϰ/\vK X N' scope tg elt σ' H1 (λv H'=>D.nx (σ.set j ↑v) H') ↥xs λi H2 x f=>xs[i]?=↑x/\H2=f)(a:cN N' X.N σ scope=σ':=by rfl)(c:apg (.ListComp elt [#[tg,e,[],0]] scope pos) ↑(.Name y py) spos.line X.env=pure true:=by rfl)(m:X.calm=true:=by rfl)(hs:∀x,foldedSetIterable e X.env x=pure x:=by intro _;rfl)(hi:nameAt X.N y=↑j:=by rfl)(n:X.env.scope.names.lookup y=↑.local:=by rfl):SX X (.Assign [.Name y py] (.ListComp elt [#[tg,e,[],0]] scope pos) spos) D σ H:=by
 show agA (N':=N') c m S hs g hi n (uK (ϙ h λv H1 q=>?_));let#[l,xs,rfl,hl,p,u]:=q;show#[l,rfl,#[xs,hl],?_];rw[a];show Bb (J:=lH X.K l) p (λi H2 s hi=>#[xs,xs[i],ζ.seq s hl,ϳ hi]) (λH2 s=>#[xs,ζ.seq s hl,Ϭ _]) (λi H2 x f hi s y=>#[y.2 xs (ζ.seq s hl),y.1.symm]) u
end
def cutAt(c:Nat):List Nat->List (List Nat)
 |[]=>[[]]
 |x::r=>if x=c then[]::cutAt c r else match cutAt c r with
  |[]=>[[x]]
  |h::t=>(x::h)::t
def gq(c:Nat):List (List Nat)->List Nat
 |[]=>[]
 |[p]=>p
 |p::q::r=>p++c::gq c (q::r)
theorem Pj(c:Nat):∀l,cutAt c l≠[]
 |[]=>by simp[cutAt]
 |x::r=>by
  unfold cutAt;split
  .simp
  .split <;>simp
theorem U0:∀{p:List Nat},c∉p->cutAt c p=[p]
 |[],_=>rfl
 |x::r,h=>by
  let a:=U0 (c:=c) (p:=r) λz=>h (by simp[z])
  unfold cutAt;rw[if_neg (λz=>h (by simp[z])),a]
theorem Yg:∀{p:List Nat},c∉p->cutAt c (p++c::l)=p::cutAt c l
 |[],_=>by
  show cutAt c (c::l)=_;rw[cutAt,if_pos rfl]
 |x::r,h=>by
  let a:=Yg (c:=c) (l:=l) (p:=r) λz=>h (by simp[z])
  show cutAt c (x::(r++c::l))=_;rw[cutAt,if_neg (λz=>h (by simp[z])),a]
theorem zx:∀{ps:List (List Nat)},ps≠[]->(∀p∈ps,c∉p)->cutAt c (gq c ps)=ps
 |[],h,_=>absurd rfl h
 |[p],_,h=>U0 (h p (by simp))
 |p::q::r,_,h=>by
  show cutAt c (p++c::gq c (q::r))=_;rw[Yg (h p (by simp)),zx (by simp) λx a=>h x (abF _ a)]
theorem Im(c:Nat):∀l,↥(cutAt c l)<=↥l+1
 |[]=>by simp[cutAt]
 |x::r=>by
  let a:=Im c r;unfold cutAt;split
  .simp;show a
  .split
   .simp
   .rename_i h t e;rw[e]at a;simp at a⊢;omega
theorem VR(c:Nat):∀l,gq c (cutAt c l)=l
 |[]=>rfl
 |x::r=>by
  let a:=VR c r;unfold cutAt;split
  .rename_i h;cases e:cutAt c r with
   |nil=>show absurd e (Pj c r)
   |cons p q=>
    rw[e]at a;show[]++c::gq c (p::q)=_;rw[a,h];rfl
  .cases e:cutAt c r with
   |nil=>show absurd e (Pj c r)
   |cons p q=>
    rw[e]at a;simp only;cases q with
    |nil=>
     show x::p=_;rw[show p=r from a]
    |cons y q=>
     show(x::p)++c::gq c (y::q)=_;rw[<-a];rfl
theorem qU(c:Nat):∀ps:List Str,(ad2 #[#v[c]] ps).cps.toList=gq c (ps.map λp=>p.cps.toList)
 |[]=>rfl
 |[p]=>rfl
 |p::q::r=>by
  let a:=qU c (q::r);let e:ad2 #[#v[c]] (p::q::r)=p++#[#v[c]]++ad2 #[#v[c]] (q::r):=rfl;rw[e];show((p.cps++ #v[c])++(ad2 #[#v[c]] (q::r)).cps).toList=_;simp only[asf];rw[a];simp[gq]
def ak9(x:Str)(c:Nat):Txt.split x #[#v[c]]≠[]:=by
 unfold Txt.split;split
 .simp
 .split
  .simp
  .unfold Builtin.Str.partsBetween;simp
def split_list(x:Str)(c:Nat):(Txt.split x #[#v[c]]).map (λp=>p.cps.toList)=cutAt c x.cps.toList:=by
 let h1:(ad2 #[#v[c]] (Txt.split x #[#v[c]])).cps.toList=x.cps.toList:=by rw[StrLaws.join_split]
 rw[qU]at h1;rw[<-h1];show(zx (~~~ak9 x c) λp a=>?_).symm;let#[q,e,rfl]:=abt.mp a;show StrLaws.split_free x c q e
def ϑ(c:Nat)(x:Str):List Str:=(cutAt c x.cps.toList).map λl=>#[l.toArray]
def zN(x:Str)(c:Nat):Txt.split x #[#v[c]]=ϑ c x:=by
 unfold ϑ;rw[<-split_list,afm];have:((λl:List Nat=>(#[l.toArray]:Str))∘λp:Str=>p.cps.toList)=id:=by
  funext p;rfl
 rw[this,asF]
theorem aaW:∀l:List (Str×Tok),Vals ((l.map (·.1)).map V.str) (strValues l)
 |[]=>.nil
 |p::l=>.cons #[p.2,rfl] (aaW l)
def m_split(g:∀p,H p=none->Q (.ref p) (upd H p (.lst ((ϑ c z).map V.str))))(f:↥z<=100000:=by omega):MT X "str.split" (.str z) [.str #[#v[c]]] H Q:=by
 show dH (r:=λx xs H Q=>∃z c,x=.str z/\xs=[.str #[#v[c]]]/\↥z<=100000/\∀p,H p=none->Q (.ref p) (upd H p (.lst ((ϑ c z).map V.str)))) ?_ #[z,c,rfl,rfl,f,g];intro ϵ s σ H x xs v us Q I rx rs h;let#[z,c,rfl,rfl,f,g]:=h;let#[t,rfl]:=rx;let#[u,rfl,i]:=vals1 rs;let#[t',rfl]:=i;let hl:↥(ϑ c z)<=↥z+1:=by
  let h1:=Im c z.cps.toList;unfold ϑ;rw[aaw];let h2:↥z.cps.toList=↥z:=rfl;omega
 let hsz:=ϯ;let fin:∀(l:List (Str×Tok))(tk:Nat),l.map (·.1)=ϑ c z->EP X ϵ σ Q (.ref ⇑s) {s with toks:=tk,heap:=s.heap.push {cls:=.type "list",data:=.seq (strValues l).toArray}}:=λl tk e=>
  #[.ref ⇑s,_,I.laid (t':=tk) (o:=.lst ((ϑ c z).map V.str)) (λb o q=>ϲ _ q) (Ϭ _) #[by rw[aaw];omega,strValues l,_,by rw[<-e];show aaW l,abj _ rfl],rfl,g _ (I.hok.fresh (Ϭ _))]
 cases h1:(decide (↥z<↥(#[#v[c]]:Str))||decide (Builtin.Str.strKind z<Builtin.Str.strKind #[#v[c]]))
 .cases hf:(Builtin.Str.occurrences z #[#v[c]] 0 ↥z (↥z+1)).isEmpty
  .let e:Txt.split z #[#v[c]]=Builtin.Str.partsBetween z (Builtin.Str.occurrences z #[#v[c]] 0 ↥z (↥z+1)) ↥(#[#v[c]]:Str):=by
    unfold Txt.split;rw[if_neg (by rw[h1];decide),if_neg (by rw[hf];decide)]
   let a:=hl;rw[<-zN,e]at a;show aoD F.slot_str_split (typeIs_str<*_) F.entry_str_split (F.args_str_split_2 _ _) (meets_str_split_sep z #[#v[c]] t t' h1 rfl hf () ()) ?_;have:=fin (numbered s.toks (Txt.split z #[#v[c]])) (s.toks+↥(Builtin.Str.partsBetween z (Builtin.Str.occurrences z #[#v[c]] 0 ↥z (↥z+1)) (#[#v[c]]:Str).length)) (by rw[numbered_texts,zN]);rw[<-strsFrom_eq,e]at this;show this
  .let e:Txt.split z #[#v[c]]=[z]:=by
    unfold Txt.split;rw[if_neg (by rw[h1];decide),if_pos hf]
   show aoD F.slot_str_split (typeIs_str<*_) F.entry_str_split (F.args_str_split_2 _ _) (meets_str_split_not_found z #[#v[c]] t t' h1 rfl hf) (fin [(z,t)] s.toks (by rw[<-zN,e];rfl))
 .let e:Txt.split z #[#v[c]]=[z]:=by
   unfold Txt.split;rw[if_pos h1]
  show aoD F.slot_str_split (typeIs_str<*_) F.entry_str_split (F.args_str_split_2 _ _) (meets_str_split_cannot_occur z #[#v[c]] t t' h1) (fin [(z,t)] s.toks (by rw[<-zN,e];rfl))
def akU{c:Nat}(q:Q (.int c) H):CL X (.builtin "ord") [.str #[#v[c]]] H Q:=by
 show dZ (r:=λxs H Q=>∃c:Nat,xs=[.str #[#v[c]]]/\Q (.int c) H) ?_ #[c,rfl,q];intro ϵ s σ H xs us Q I r h;let#[c,rfl,q]:=h;let#[u,rfl,a]:=vals1 r;let#[t,rfl]:=a;show P.ord_of_char #[.int c,H,I.tok _,#[_,rfl],q]
def agP(hi:0<=i)(a:i<1000)(g:Q (.str (Txt.zfill z i)) H):MT X "str.zfill" (.str z) [.int i] H Q:=by
 show dH (r:=λx xs H Q=>∃z i,x=.str z/\xs=[.int i]/\0<=i/\i<1000/\Q (.str (Txt.zfill z i)) H) ?_ #[z,i,rfl,rfl,hi,a,g];intro ϵ s σ H x xs v us Q I rx rs h;let#[z,i,rfl,rfl,hi,a,g]:=h;let#[t,rfl]:=rx;let#[u,rfl,c]:=vals1 rs;let#[t',rfl]:=c;show SC.zfill ?_ λe k=>#[.str _,H,I.tok k,#[e,rfl],g]
 show padOk_of () ()
def Io(K:Ϩ)(l:δ)(n:Nat):It:=
 #[λi H=>i<n/\∃xs,η K H l xs/\↥xs=n,λi H x H'=>H'=H/\∀xs,η K H l xs->xs[n-1-i]?=↑x,λi _=>i=n]
theorem acJ{P:Ϯ}{w:ϭ}{K:Ϩ}{tg:ϩ}(l it:δ)(n:Nat):Turn P w K tg (Io K l n) [it] it (λi h=>h.IsRevIter it l ((n:Int)-1-(i:Int)))where
 mem:=by simp
 obj:=λi h st b a=>by
  let e:b=it:= ~~~a
  subst e;let#[o,e,c,d]:=st;show#[o,e,λv z=>by rw[d]at z;cases z]
 keep:=λi h h' st k=>st.at λo e=>k it (by simp) o e
 item:=by
  intro X m q y O i ϵ s σ H E I j st B;subst m q y;let#[hi,xs,Q,hx]:=B;let#[ϸ,R,p,hz]:=I.list Q;let f:n-1-i<↥xs:=()
  let#[u,S,T]:=R.get (ϳ f);let#[D,F,U,G,J,L]:=j it (by simp);let W:((n:Int)-1-(i:Int))=((n-1-i:Nat):Int):=()
  rw[W]at st;show wpAny_pyNext_rev_item st p.isList (x:=u) (~~~S) λh' g Y=>?_
  let Z:Inv X ϵ σ H {s with heap:=h'}:=I.turned (t':=s.toks) (λb o a e=>(Y.2 b a).trans e) D F G J L;let#[o,e,c,d]:=id g;show#[u,rfl,rB (s:={s with heap:=h'}) e c d (by decide) #[_,H,Z,T,#[rfl,λys hy=>?_],?_,λb a=>(j b a).1]]
  .rw[I.list_inj hy Q];show ϳ f
  .let M:((n:Int)-1-((i+1:Nat):Int))=((n-1-i:Nat):Int)-1:=()
   rw[M];show g
 done:=by
  intro X m q y O i ϵ s σ H E I j st B;subst m q y;let#[D,F,U,G,J,L]:=j it (by simp);let e:i=n:=B;let M:((n:Int)-1-(i:Int))= -1:=()
  rw[M]at st;show wpAny_pyNext_rev_end (I.ok.hd O) st λh' eb=>#[rfl,I.turned (t':=s.toks) (λb o a e=>eb b o a e) D F G J L]
 self:=λ_ _ _ _ _ st h=>wpAny_pyIter_revIter st h
def anN(m:Gl X "reversed")(n:X.mg "reversed"=none)(hs:abr [a] X.env=[(false,eval a X.env)])(h:EV X a σ H λv H1=>∃l xs,v=.ref l/\η X.K H1 l xs/\R (Io X.K l ↥xs) H1):EI X tg (.Call (.Name "reversed" p) [a] [] pos) σ H R:=by
 intro ϵ s I;show Call_ (jQ I m n boot_reversed (PyProof.Rows.callWith_type1 (χ (dw (es:=[]) (QA:=λvs H1=>∃l xs,vs=[.ref l]/\η X.K H1 l xs/\R (Io X.K l ↥xs) H1) hs (ϙ h λv H1 z=>by let#[l,xs,e,x,y]:=z;show iu #[l,xs,by rw[e],x,y]) pos ϵ s I) λus c z=>?_) hs rfl));let#[vs,H1,g,r1,l,xs,e,hl,q]:=z;subst e;let#[u,rfl,B]:=vals1 r1;cases(show u=Value.ref l from B);let#[i,D,pl,F]:=g.list hl;let j:=↥D;show call_reversed_list pl.isList ?_;let f:(c.heap.push (revObj l ((i.toArray.size:Int)-1))).IsRevIter ⇑c l ((i.toArray.size:Int)-1):=#[_,abj _ rfl,rfl,rfl];show wpAny_pyIter_revIter f ?_*>#[⇑c,[⇑c],_,_,H1,rfl,g.kept (t':=c.toks) λb o e=>ϲ _ e,acJ l _ ↥xs,?_,λb E=>?_,q]
 .let e:((↥xs:Int)-1-((0:Nat):Int))=(i.toArray.size:Int)-1:=by simp;omega
  rw[e];show f
 .let e:b=⇑c:= ~~~E
  subst e;show g.fpOk (Ϭ _) (g.hok.fresh (Ϭ _))
def Xe(l:akR ∅ X.A X.env X.xe)(n:X.calm=true)(s:Gl X "reversed")(u:X.mg "reversed"=none)(hs:abr [a] X.env=[(false,eval a X.env)])(h:EV X a σ H λv H1=>∃q xs,v=.ref q/\η X.K H1 q xs/\∃c:Nat->St->Hp->Prop,c 0 σ H1/\(∀i σ' H',i<=↥xs->c i σ' H'->η X.K H' q xs)/\
   (∀i x σ' H',i<↥xs->xs[↥xs-1-i]?=↑x->c i σ' H'->EG X tg x σ' H' λg H2=>Η X body {D with nx:=c (i+1),ct:=c (i+1),bk:=D.nx} g H2)/\∀σ' H',c ↥xs σ' H'->D.nx σ' H'):SX X (.For tg (.Call (.Name "reversed" p) [a] [] p') body [] pos) D σ H:=by
 show lV l n (by intro _;rfl) (anN s u hs (ϙ h λv H1 q=>?_));let#[q,xs,rfl,z,c,B,hl,j,hd]:=q;show#[q,xs,rfl,z,λi m σ H=>m=↥xs-i/\i<=↥xs/\c i σ H,#[↥xs,by simp,aeG _,B],?_]
 rintro i m σ' H' ⟨rfl,hi,p⟩
 by_cases f:i<↥xs
 .show .inr #[#[f,xs,hl i σ' H' hi p,rfl],c (i+1),λg H2 p2=>#[↥xs-(i+1),(),rfl,f,p2],λx H2 y=>?_];let#[rfl,e]:=y;show j i x σ' _ f (e xs (hl i σ' _ hi p)) p
 .let e:i=↥xs:=()
  show .inl #[e,?_];subst e;show hd σ' H' p
def an9{A:ϴ}{E:ε->μ->Prop}{s:μ}{α:Type}{e T L:δ}{cls:ε}{d:Option δ×Bool}{x:ε}{a:String}{env:Env}{Q:α->μ->Prop}(y:env.frame=↑L)(F:bU s.heap e cls d ↑T x)(k:∀h',uR s.heap h' [T] []->bU h' e cls d ↑T (rawInt L)->E (.ref e) {s with heap:=h'}):π M A (passOn a (.ref e) env) Q E s:=by
 let#[B,vs,i,D,j,hd,h1,G,h2,H]:=F;let#[m,O,ws,c,f,I]:=H T rfl;let p:3<ws.size:=(akh.mp I).1;let g:vs[1]?=↑(Value.ref T):=h1;unfold PySem.passOn;show ν (ahc i hd g ?_);rw[if_neg (show ¬((Value.ref T==Value.none)=true)from by simp)];show ν ?_;unfold setFlight;show ν (ahc i hd g ?_);rw[if_pos (show(Value.ref T !=Value.none)=true from by simp),y];show wpAny_setField c f p (wpAny_throw (k _ #[λb o q _ n=>?_,λb o q n=>#[o.slots,?_],λb o q=>?_] ?_))
 .rw[acR<*(λz=>n (by simp[z]))];show q
 .rw[acR<*(λz=>n (by simp[z]))];show q
 .by_cases z:b=T
  .subst z;show#[_,aeY _ c (Obj.isFreed_of_fields (Obj.data_mapFields f _))]
  .show#[o,by rw[acR<*(Ne.symm z)];show q]
 .show#[B,vs,?_,D,j,hd,h1,G,h2.stay λv o ws P l u=>?_,λR J=>?_]
  .rw[acR<*m];show i
  .by_cases z:v=T
   .subst z;rw[c]at l;cases l;show#[_,_,aeY _ c (Obj.isFreed_of_fields (Obj.data_mapFields f _)),Obj.data_mapFields u _,by rw[aix (by decide)]]
   .show#[o,ws,by rw[acR<*(Ne.symm z)];show l,u,rfl]
  .cases J;show#[m,_,_,aeY _ c (Obj.isFreed_of_fields (Obj.data_mapFields f _)),Obj.data_mapFields f _,by simp[p]]
section
variable{X:Cx}{ϵ:List (δ×Obj)}{σ:St}{H:Hp}{s:μ}{scope:ahx}{N':List Str}{fp:List δ}{elt iter tg:ϩ}{ifs:List ϩ}{pos:Pos}{Kx:St->XK}
def agX(n:compEnvC scope (Ϙ scope X.env) ⇑s X.env=a)(c:X.stack=X.env::X.outer)(i:X.env.frame=↑X.env.locals)(g:Inv X ϵ σ H s)(E:∀b∈fp,bW X ϵ H b)(p:∀{pins':List (δ×Obj)}{B:St}{H':Hp}{s':μ},Inv (eN X N' scope (Ϙ scope X.env) ⇑s s H fp (notedBy ∅ X.A a G)) pins' B H' s'->Inv X ϵ σ H' s')(u:∀(H':Hp)(s':μ)(e t:δ)(cls:ε)(d:Option δ×Bool),a.frame=↑X.env.locals->Inv X ϵ σ H' s'->bW X ϵ H' a.locals->(∃m,s'.heap.Ns a.locals m)->bU s'.heap e cls d ↑t (rawInt X.env.locals)->
   (∀b∈[e,t],(H' b=none/\Ch X ϵ b)/\b≠a.locals)->Kx σ cls d H'->G (.ref e) s'):cQ (eN X N' scope (Ϙ scope X.env) ⇑s s H fp (notedBy ∅ X.A a G)) (λ_=>Kx σ):=by
 let v:a.locals=⇑s:=by rw[<-n];rfl
 intro pins' B H' s' e cls d F q;let#[J,tb,I,L,x,ch]:=F;let IX:=p J;let f:∀b∈e::tb.toList,(H' b=none/\Ch X ϵ b)/\b≠⇑s:=λb j=>by
  let#[M,c1,c2,c3]:=ch b j;show#[#[M,?_],c2];obtain z|z:=c1
  .let#[_,O,_,P,Q,R]:=E b z;show#[P,O,Q,R]
  .show g.ch z
 let l:(I==rawInt X.env.locals)=false:=by
  obtain z|⟨z,_⟩:=x
  .rw[z];simp[rawInt]
  .rw[z,beq_eq_false_iff_ne];intro D;simp only[rawInt]at D;let S:((⇑s:Nat):Int)=((X.env.locals:Nat):Int):=by injection D
   show anM g.lt (Int.ofNat.inj S)
 let hl:=IX.stack;rw[c]at hl;show π _ _ (noteFrame (.ref e) a) _ _ _;rw[show noteFrame (.ref e) a=noteFrame (.ref e) X.env by rw[<-n];rfl];show aaX (base:=X.base) (IX.ok.frames<|>(by rw[c])) hl i L l λh' t N y F'=>?_
 let#[m,hn,_]:=J.loc;show u H' _ e t cls d (by rw[<-n];show i) (IX.noted (by rw[c];show N) λb j=>(f b j).1) (by rw[v];show g.fpOk (Ϭ _) J.free) #[m,?_] F' (λb j=>?_) q
 .rw[v];let#[o,T,U,W,Y]:=hn;show#[o,T,U,N.keep _ _ W (λz=>?_) (λz=>(f _ z).2 rfl),Y];rw[<-c]at z;rcases aaB.mp (g.stkSub _ z)with e|e
  .show aiF _ (e▸g.lt)
  .show g.nofs (Ϭ _) e
 .rw[v];obtain z|z:=aaB.mp j
  .subst z;show f _ ad8
  .let z':b=t:= ~~~z
   subst z';show#[#[IX.hok.fresh y,IX.ch (ajf y)],λz=>aiF _ (acp hn.lt (z▸y))]
def ag9(y:cQ X Kx)(j:C.frame=↑X.env.locals)(I:Inv X ϵ σ H' s')(B:bW X ϵ H' C.locals)(hn:∃m,s'.heap.Ns C.locals m)(F:bU s'.heap e cls d ↑t (rawInt X.env.locals))(ch:∀b∈[e,t],(H' b=none/\Ch X ϵ b)/\b≠C.locals)(q:Kx σ cls d H'):wL ∅ X.A X.xe use Q i C (.error (.ref e)) s':=by
 let#[m,hn]:=hn;let#[D,E,f2,G,H,J]:=B;let c:∃m,s'.heap.Ns C.locals m/\∀h',ak7 C.locals s'.heap h'->π ∅ X.A (passOn "comprehension.variables-let-go" (.ref e) C:Sem ε) (λ_ _=>False) X.xe {s' with heap:=h'}:=by
  show#[m,hn,λh' a=>?_];let L:Inv X ϵ σ H' {s' with heap:=h'}:=I.turned (t':=s'.toks) (λb o f e=>a.extBut b o f e) D E G H J;let M:bU h' e cls d ↑t (rawInt X.env.locals):=by
   let#[O,vs,P,R,l,hd,h1,S,h2,U]:=F;show#[O,vs,a.extBut _ _ (ch e (by simp)).2 P,R,l,hd,h1,S,h2.stay (λv o ws hv p u=>#[o,ws,a.extBut _ _ (λz=>by
    let#[_,_,_,x,g,_]:=hn;rw[<-z,p]at x;cases x;rw[u]at g;cases g) p,u,rfl]),λT W=>?_]
   cases W;let#[Y,Z,ws,t1,t2,t3]:=U t rfl;show#[Y,Z,ws,a.extBut _ _ (ch t (by simp)).2 t1,t2,t3]
  show an9 (s:={s' with heap:=h'}) j M λh2 N F3=>?_
  show y ϵ σ H' _ e cls d #[L.noted (ch:=[t]) #[λb o q _ n=>N.keep b o q (by simp) n,N.slot,N.there] λb f=>?_,↑t,_,F3,.inr #[rfl,rfl],λb f=>(ch b (~~~f)).1] q;let z:b=t:= ~~~f
  subst z;show(ch b (by simp)).1
 cases use<;>show c
def aiQ(f:cQ X Kx)(g:X.stack=X.env::X.outer)(i:X.env.frame=↑X.env.locals)(l:apg (.ListComp elt [#[tg,iter,ifs,0]] scope pos) ↑(.Name y py) spos.line X.env=pure true)(Z:X.calm=true)(S:cP X.env scope)(hs:∀x,foldedSetIterable iter X.env x=pure x)(hN:X.N.Nodup)(hi:nameAt X.N y=↑j)(P:X.env.scope.names.lookup y=↑.local)(h:EI X tg iter σ H λJ H1=>∀(fp:List δ)(E C:δ)(c:μ)(F:ε->μ->Prop),H1 E=none->cQ (eN X N' scope (Ϙ scope X.env) C c (upd H1 E (.lst [])) fp F) (λ_=>Kx σ)->j6 X (eN X N' scope (Ϙ scope X.env) C c (upd H1 E (.lst [])) fp F) tg elt ifs J E (cN N' X.N σ scope) H1 (λH'=>D.nx (σ.set j ↑(.ref E)) H')):SX X (.Assign [.Name y py] (.ListComp elt [#[tg,iter,ifs,0]] scope pos) spos) D σ H:=by
 intro ϵ s I;rw[exec_Assign_Name_used _ _ _ _ l];show ν (am0 (ν ?_));show π _ X.A (do let _<-comprehension (.ListComp elt [#[tg,iter,ifs,0]] scope pos) scope X.env _ (newList []) false (eval iter X.env) ↑(assign (.Name y py) X.env)) _ _ s;show ν (ac7 (Ml (use:=↑(assign (.Name y py) X.env)) (Q:=λ_ s'=>SP X ϵ D .next s') rfl hs (Dh (S.has I)) S.kind S.loc
  (χ (h ϵ s I) λv s1 h1=>χ h1 λitv s2 h2=>?_)) (λ_ s' hq=>ϱ (ϱ hq)) λ_ _ e=>e)
 let#[it,fp,tn,J,H2,e,I2,T,n,f2,q2]:=h2;subst e;show G4 _ (R:=λp C=>wL ∅ X.A X.xe ↑(assign (.Name y py) X.env) (λ_ s'=>SP X ϵ D .next s') p C) (Q:=λE H'=>D.nx (σ.set j ↑(.ref E)) H') Z S I2 T n f2 (λ_ _ _ _ z=>z) (λE c U I3 u tX=>q2 fp E _ c _ U (agX rfl g i I3 u tX λH' s' e t cls d B IX G hn F ch q=>ag9 f B IX G hn F ch q)) λE C H' s' U qD IX G hn=>?_
 let#[m,hn]:=hn;let#[f0,W,QL,u,Y,f5]:=G;show π _ _ (assign (.Name y py) X.env (.ref E)) _ _ _*>wpAny_assign_Name (ug IX hN (mq hi) (.inl P) (v:=.ref E) rfl (λL HJ M=>?_) (.inr P));let#[a,sb,ha]:=M;let Ez:C.locals≠a:=by
  obtain ha|ha:=ha
  .rw[ha];show W
  .intro z;show Y y a ha z.symm
 show#[m,hn.sameBut sb Ez,λh' O=>#[σ.set j ↑(.ref E),H',HJ.turned (t':=L.toks) (λb o M e=>O.extBut b o M e) f0 W u Y f5,qD]]
end
def TJ(X:Cx)(N':List Str)(scope:ahx)(tg elt:ϩ)(σ σ':St)(Kx:St->XK)(H1:Hp)(Q:VK)(n:Nat)(G:Nat->Hp->V->Hp->Prop):Prop:=
 ∃(f:St->Prop)(a:δ->Nat->V->Hp->Prop),f σ'/\
  (∀E i v H2 c ys,H2 E=↑(.lst ys)->(∀b o,b≠E->H2 b=↑o->c b=↑o)->a E i v H2->a E i v c)/\
  (∀(fp:List δ)(E C:δ)(g:μ)(H0:Hp)(F:ε->μ->Prop)(i:Nat)(j:St)(x:V)(H2 c:Hp),cQ (eN X N' scope (Ϙ scope X.env) C g H0 fp F) (λ_=>Kx σ)->H1 E=none->i<n->f j->ζ H1 H2->(∃ys,H2 E=↑(.lst ys)/\↥ys=i/\∀k v,ys[k]?=↑v->a E k v H2)->G i H2 x c->
   EG (eN X N' scope (Ϙ scope X.env) C g H0 fp F) tg x j c λe m=>EV (eN X N' scope (Ϙ scope X.env) C g H0 fp F) elt e m λv l=>f e/\a E i v l/\ζ H2 l)/\
  ∀(E:δ)(H2:Hp)(xs:List V),H1 E=none->↥xs=n->(∀i v,xs[i]?=↑v->a E i v H2)->H2 E=↑(.lst xs)->ζ H1 H2->Q (.ref E) H2
def anB(hn:n<=ϰ)(go:∀i H2,ζ H H2->i<n->J.go i H2)(stop:∀H2,ζ H H2->J.stop n H2)(f:∀i H2 x e,i<n->ζ H H2->J.yld i H2 x e->G i H2 x e)(h:TJ X N' scope tg elt σ σ' Kx H Q n G):∀(fp:List δ)(D C:δ)(a:μ)(F:ε->μ->Prop),H D=none->cQ (eN X N' scope (Ϙ scope X.env) C a (upd H D (.lst [])) fp F) (λ_=>Kx σ)->j6 X (eN X N' scope (Ϙ scope X.env) C a (upd H D (.lst [])) fp F) tg elt [] J D σ' H (λH'=>Q (.ref D) H'):=by
 intro fp E C a F c xo;let#[g,j,t0,mono,step,fin]:=h;show QW n hn g t0 (j E) c (λi v H1 H2 ys=>mono E i v H1 H2 ys) go stop (λi m x H1 H2 hi p hs q y=>step fp E C a _ F i m x H1 H2 xo c hi p hs q (f i H1 x H2 hi hs y)) λH1 xs l u z s=>fin E H1 xs c l u z s
def adY(N':List Str)(a:cN N' X.N σ scope=σ')(c:cQ X Kx)(f:X.stack=X.env::X.outer)(g:X.env.frame=↑X.env.locals)(m:apg (.ListComp elt [#[tg,e,[],0]] scope pos) ↑(.Name y py) spos.line X.env=pure true)(p:X.calm=true)(S:cP X.env scope)(hs:∀x,foldedSetIterable e X.env x=pure x)(u:X.N.Nodup)(hi:nameAt X.N y=↑j)(z:X.env.scope.names.lookup y=↑.local)(h:EV X e σ H λv H1=>∃l xs,v=.ref l/\η X.K H1 l xs/\↥xs<=ϰ/\TJ X N' scope tg elt σ σ' Kx H1 (λv H'=>D.nx (σ.set j ↑v) H') ↥xs λi H2 x n=>xs[i]?=↑x/\H2=n):SX X (.Assign [.Name y py] (.ListComp elt [#[tg,e,[],0]] scope pos) spos) D σ H:=by
 show aiQ (N':=N') c f g m p S hs u hi z (uK (ϙ h λv H1 q=>?_));let#[l,xs,rfl,hl,B,E]:=q;show#[l,rfl,#[xs,hl],?_];rw[a];show anB (J:=lH X.K l) (Q:=λv H'=>D.nx (σ.set j ↑v) H') B (λi H2 s hi=>#[xs,xs[i],ζ.seq s hl,ϳ hi]) (λH2 s=>#[xs,ζ.seq s hl,Ϭ _]) (λi H2 x n hi s y=>#[y.2 xs (ζ.seq s hl),y.1.symm]) E
def DY{K:Ϩ}(h:lO K C L=true):∃cd,aub K C=↑cd/\cd.hasDict=true/\cd.mro=.ref C:: .ref L::gA:=by
 let#[cd,h1,h2]:=W.any_some h;rw[aaO,beq_iff_eq]at h2;show#[cd,h1,h2.1,h2.2]
section
variable{prog:Ϯ}{w:ϭ}{A:ϴ}{E:ε->μ->Prop}{s:μ}{K:Ϩ}{x C L:δ}{ox:Obj}{vs:Array ε}{name:Str}{v:ε}
def ajr(X:K.In s.heap)(n:s.heap.get? x=↑ox)(q:ox.cls=.ref C)(u:ox.data=.fields vs)(hd:ox.dict=none)(hs:aeL K (.ref C) "__setattr__"=some ↑(.builtin "object.__setattr__"))(R:lO K C L=true)(S:asd K C name=↑none)(h:∀h' tk,h'.get? x=some {ox with dict:=↑⇑s}->h'.Ns1 ⇑s (λy=>if y=name then some v else none)->(∀b o,b≠x->s.heap.get? b=↑o->h'.get? b=↑o)->Q PUnit.unit {s with heap:=h',toks:=tk}):π (ϧ prog w) A (setAttr (.ref x) name v) Q E s:=by
 let#[cd,g,z,f]:=DY R;let I:atP s.heap x ox C none:=#[n,q,by unfold aus;rw[u],by rw[hd];trivial];show W.set_plain X I hs ?_;let i:=F.store_object;let sub:aua (ϧ prog w) s.heap (isInstance (.ref x) (.type "object")) true:=I.type.andThen (auc X (by unfold apo;rw[g,atB,f];rfl));show aoR i.slot.plain i.entry (@W.check_slot (ϧ prog w) _ _ {s with toks:=s.toks+1} "object.__setattr__" "object" "__setattr__" (.ref x) [.str name s.toks,v] [] _ i.kind i.split sub (i.args (.ref x) (.str name s.toks) v) ?_);let#[attr,ha,T]:=Option.bind_eq_some_iff.mp S;let B:aua (ϧ prog w) s.heap (mroOf (.ref C)) cd.mro:=(atc X g).andThen .now;let U:aua (ϧ prog w) s.heap (Builtin.ObjectAttr.storeTaker? attr) none:=by
  cases attr with
  |none=>show .now
  |some a=>
   let#[b,p,e]:=aj7.mp T;show(W.looks_takesIn X p).andThen ?_;cases b
   .show .now
   .cases e
 rw[W.osa_eq,refuse_eq];show ν (ν (W.Looks.here (s:={s with toks:=s.toks+1}) I.type (ν (W.Looks.here (s:={s with toks:=s.toks+1}) B ?_))));rw[f,refuseLoop_ref,refuseLoop_ref,F.store_ValueError.passes];show ϱ (ν (W.Looks.here (s:={s with toks:=s.toks+1}) I.type (ν (W.Looks.here (s:={s with toks:=s.toks+1}) (asp X ha) (ν (W.Looks.here (s:={s with toks:=s.toks+1}) U ?_))))));let#[oc,od,Y,D]:=ox;dsimp only at q u hd;subst q u hd;show ν (ϱ (ν (ν (wpAny_loadPart (s:={s with toks:=s.toks+1}) n (ν (W.Looks.here (s:={s with toks:=s.toks+1}) (atc X g) ?_))))));rw[z];rw[if_neg (by decide)];show π _ _ (if(!true|| !typeHasDict (Value.ref C))=true then pure none else(alloc {cls:=.type "dict",data:=.dict #v[]}>>=λd=>update x (λo=>{o with dict:=↑d})>>=λ_=>dictMade (Value.ref C) x d)) _ _ _;rw[if_neg (by simp[typeHasDict])];let c:(s.heap.push {cls:=.type "dict",data:=.dict #v[]}).get? x=some {cls:=.ref C,data:=.fields vs,slots:=D}:=ϲ _ n;let j:x≠⇑s:=acu (abA n);show ν (wpAny_alloc (s:={s with toks:=s.toks+1}) ?_)*>ν (wpAny_update (s:={s with heap:=s.heap.push {cls:=.type "dict",data:=.dict #v[]},toks:=s.toks+1}) c ?_)*>ϱ ?_;let G:((s.heap.push {cls:=.type "dict",data:=.dict #v[]}).update x λo=>{o with dict:=↑⇑s}).get? ⇑s=some {cls:=.type "dict",data:=.dict #v[]}:=
  (aqi _ _ _ _ j.symm).trans (atn rfl rfl)
 let H:((s.heap.push {cls:=.type "dict",data:=.dict #v[]}).update x λo=>{o with dict:=↑⇑s}).Ns ⇑s (λ_=>none):=
  #[_, #v[],_,G,rfl,λe Z=>absurd Z (by simp),λ_=>rfl]
 show π _ _ (Builtin.ObjectAttr.storeInDict ⇑s (.str name s.toks) name v) _ _ _;unfold Builtin.ObjectAttr.storeInDict Builtin.ObjectAttr.newKeyGuard;show ν (ϱ (ν (wpAny_nsSet1 (s:={s with heap:=(s.heap.push {cls:=.type "dict",data:=.dict #v[]}).update x λo=>{o with dict:=↑⇑s},toks:=s.toks+1}) (Heap.Ns1.of_empty H) λh' l m=>?_)));let#[oD,esD,epD,J,M,O]:=l.count (Within.cons name v Within.nil);show ν (wpAny_lookBehind J (by rw[M];show pastItsLine_dict (ad7 O (by rw[acD,aqy,ϯ];omega))) ?_)*>ϱ (h h' _ ?_ l λb ob P p=>?_)
 .show(m.2 x j).trans (aeY _ c rfl)
 .show(m.2 b (acu (abA p))).trans ((aqi _ _ _ _ P)<|>(ϲ _ p))
end
theorem PQ{K:Ϩ}{h:ϫ}(kin:K.In h)(e:p6 K C f=true):∃bm N nm q bs hdct sn sub ab col dd k0 k1 k2 k3 k5 mN,h.get? C=↑(excClassObj nm q C N bs bm hdct sn sub ab col dd k0 k1 k2 k3 k5 "ValueError.__new__")/\h.Ns N mN/\mN "__init__"=↑(.ref f)/\OwnTail h gA bm:=amM kin e
section
variable{prog:Ϯ}{w:ϭ}{A:ϴ}{E:ε->μ->Prop}{h:ϫ}{g:Array GenState}{d:Drawn}{t:Nat}{os:OsState}
variable{nm q:Str}{C N x:δ}{bs bm:List ε}{hdct:Bool}{sn:List Str}{sub:List ε}{ab:Bool}{col:Option Bool}{dd:Option δ}{k0 k1 k2 k3 k5:Option ε}{ox:Obj}{vs:Array ε}{v:ε}
def anv(T:OwnTail h gA bm)(e:h.get? C=↑(excClassObj nm q C N bs bm hdct sn sub ab col dd k0 k1 k2 k3 k5 "ValueError.__new__"))(c:h.get? x=some {cls:=.ref C,data:=.fields #v[.ref t0,.none,.none,.none,.bool false,.none]})(f:∀h' i,h'.get? x=some {cls:=.ref C,data:=.fields #v[.ref i,.none,.none,.none,.bool false,.none]}->(∀b o,b≠x->h.get? b=↑o->h'.get? b=↑o)->Q .none #[h',g,d,t,os]):π (ϧ prog w) A (call (.builtin "ValueError.__init__") [.ref x,v]) Q E #[h,g,d,t,os]:=by
 let a:=F.excBase_ValueError;show aqn (aoR a.init.plain a.initEntry (wpAny_check_init_subT a T e c rfl ?_))
 wp_walk
 show f _ h.objs.size ?_ λb o j q=>?_
 .rw[aeY _ (ϲ _ c) rfl];rfl
 .rw[acR<*(Ne.symm j)];show ϲ _ q
def amI{rest:List ε}{fI:δ}{oI:Obj}{Q:Fin->μ->Prop}(T:OwnTail h gA bm)(m:h.get? C=↑(excClassObj nm q C N bs bm hdct sn sub ab col dd k0 k1 k2 k3 k5 "ValueError.__new__"))(hn:h.Ns N mN)(hi:mN "__init__"=↑(.ref fI))(s:h.get? fI=↑oI)(u:oI.cls=.type "function")(y:∀h' e,as4 h h' e (.ref C) rest->π (ϧ prog w) A (call (.ref fI) (.ref e::rest)) (λr s'=>r=.none/\Q (.done (.ret (.ref e))) s') E #[h',g,d,t,os])(i:↥rest<=ϰ):π (ϧ prog w) A (apn.«type.__call__» #[.ref C::rest,[]]) Q E #[h,g,d,t,os]:=by
 let n:=F.excBase_ValueError
 repeat (first|with_reducible show anF m ?_|with_reducible show wpAny_madeBy_exc m ?_|wp_step)
 show codeAny_call_builtin_code (Code.quiet_builtin _ n.quiet) (wpAny_check_new_subT n T m ?_)*>codeAny_exc_new_subT n T m ?_ i*>π _ _ _ _ _ _;generalize j:(h.push {cls:=.type "tuple",data:=.seq rest.toArray}).push {cls:=.ref C,data:=.fields #v[.ref h.objs.size,.none,.none,.none,.bool false,.none]}=h1;let a:∀b o,h.get? b=↑o->h1.get? b=↑o:=λb o e=>by rw[<-j];show ϲ _ (ϲ _ e)
 let c:=a _ _ m;let l:h1.Ns N mN:=let⟨o,es,ep,e,r⟩:=hn;#[o,es,ep,a<*e,r];let f:h1.get? (h.objs.size+1)=some {cls:=.ref C,data:=.fields #v[.ref h.objs.size,.none,.none,.none,.bool false,.none]}:=by rw[<-j];heap_get
 let v:(Value.ref C::bm).contains (.ref C)=true:=by simp
 let p:=T.keeps a;unfold isInstance
 repeat (first|with_reducible show anF f ?_|(with_reducible show wpAny_isSubtype_exc c ?_;rw[v])|wp_step)
 show π _ _ (typeLookup (.ref C) _) _ _ _*>wpAny_typeLookup_tail c l p n.mroIs n.init.lookup ?_;rw[hi];show afM (ν ?_);unfold bindSpecial;show ν (wpAny_typeOf (T:="function") #[_,a<*s,u] ?_);rw[if_pos (by decide)];show ϱ (ν (ac7 (y h1 (h.objs.size+1) #[a,ajf (ap1 _),h.objs.size,f,ajf (Ϭ _),?_]) (λr s' z=>?_) λ_ _ x=>x))
 .rw[<-j];show ϲ _ (atn rfl rfl)
 .let#[rfl,B]:=z
  wp_walk
  show B
def anw{rest:List ε}{fI:δ}{oI:Obj}{Q:ε->μ->Prop}(T:OwnTail h gA bm)(c:h.get? C=↑(excClassObj nm q C N bs bm hdct sn sub ab col dd k0 k1 k2 k3 k5 "ValueError.__new__"))(hn:h.Ns N mN)(hi:mN "__init__"=↑(.ref fI))(f:h.get? fI=↑oI)(i:oI.cls=.type "function")(j:∀h' e,as4 h h' e (.ref C) rest->π (ϧ prog w) (A.under (.builtin "type.__call__" #[.ref C::rest,[]])) (call (.ref fI) (.ref e::rest)) (λr s'=>r=.none/\Q (.ref e) s') E #[h',g,d,t,os])(a:↥rest<=ϰ):π (ϧ prog w) A (call (.ref C) rest) Q E #[h,g,d,t,os]:=by
 let l:=tc_lookup;let m:=tc_bind (.ref C);let n:(#[h,g,d,t,os]:μ).TypeIs (.ref C) "type":=#[_,c,rfl];show aqn (codeAny_of_tree ?_)*>π _ _ (callAny (.ref C) _) _ _ _
 repeat (any_goals (first|assumption|with_reducible show anF c ?_|wp_step))
 show#[rfl,?_]*>codeAny_call_builtin_at (Code.quiet_builtin _ (by fin2)) entry_typeCall (wpAny_check_type_call_sub c (amI T c hn hi f i j a))
end
def aiz(c:bm.contains (.type "BaseException")=true)(hh:A.handled=none)(h:π M A x (λv a=>∃e t D,v=.ref e/\a.heap.get? C=↑(excClassObj nm q C N bs bm hdct sn sub ab col dd k0 k1 k2 k3 k5 "ValueError.__new__")/\
   a.heap.get? e=some {cls:=.ref C,dict:=D,data:=.fields #v[.ref t,.none,.none,.none,.bool false,.none]}/\E (.ref e) a) E s):π M A (raiseStmt env ↑x none) Q E s:=by
 let f:(Value.ref C::bm).contains (.type "BaseException")=true:=by rw[ate,c,Bool.or_true]
 unfold raiseStmt;show ν (ac7 h (λv a h₁=>?_) λ_ _ x=>x);let#[e,t,D,rfl,i,j,l]:=h₁;let#[m,g,d,tk,os]:=a
 repeat (first|with_reducible show anF j ?_|with_reducible show anF i ?_|(with_reducible show wpAny_isSubtype_exc i ?_;rw[f])|wp_step)
 show wpAny_raiseNew_none hh l
def xo(e C:δ)(D:Option δ):HO:=.ext λh=>∃t,h.get? e=some {cls:=.ref C,dict:=D,data:=.fields #v[.ref t,.none,.none,.none,.bool false,.none]}
def jH(H:Hp)(e:δ):Hp:=λb=>if b=e then none else H b
def jL(h:b≠e):jH H e b=H b:=by unfold jH;rw[if_neg h]
def Q0:jH H e e=none:=by unfold jH;rw[if_pos rfl]
theorem Fy(q:h.get? e=some {cls:=.ref C,dict:=D,data:=.fields #v[.ref t,.none,.none,.none,.bool false,.none]}):ώ P w H h e (xo e C D):=
 #[#[t,q],#[_,q],λh1 h2 z k=>by let#[t,q]:=z;show #[t,k _ q]]
section
variable{X:Cx}{ϵ:List (δ×Obj)}{σ:St}{H:Hp}{s:μ}{e:δ}{φ:ϫ->Prop}
def Inv.adopt(I:Inv X ϵ σ H s)(hn:H e=none)(c:Ch X ϵ e)(ok:ώ X.prog X.w (upd H e (.ext φ)) s.heap e (.ext φ)):Inv X ϵ σ (upd H e (.ext φ)) s:=by
 let ne:∀b u,H b=↑u->b≠e:=λb u q=>ό q hn
 have:=I.step (h':=s.heap) (H':=upd H e (.ext φ)) (g':=s.gens) (d':=s.drawn) (t':=s.toks) (ch:=[e]) (λb a=>?_) (λb o _ _ _ q _=>q) (λb o _ _ _ q _=>#[o.slots,q]) (λb o f _ n=>?_) (λb o _ q=>#[o,q]) (λb xs q=>?_) (λb o u q=>?_) (λb ps q=>?_) (λm q=>q) (λb u q=>?_) I.bare
 .show this
 .let z:b=e:= ~~~a
  subst z;show c
 .rw[θ (λz=>f (by simp[z]))];show n
 .rw[θ (ne<*q)];show q
 .rw[θ (ne<*q)];show q
 .show#[#v[],by rw[θ (ne<*q),q];simp]
 .by_cases z:b=e
  .subst z;rw[ς]at q;cases q;show ok
  .rw[θ z]at q;show(I.hok b u q).stay (λ_ _ _ r=>r) (λc r=>by rw[θ (ne<*r)];show r) (λc xs r=>by rw[θ (ne<*r)];show r) λc g v r=>by rw[θ (ne<*r)];show r
def Inv.forget(I:Inv X ϵ σ H s)(hn:H e=↑(.ext φ))(c:Ch X ϵ e):Inv X ϵ σ (jH H e) s:=by
 have:=I.step (h':=s.heap) (H':=jH H e) (g':=s.gens) (d':=s.drawn) (t':=s.toks) (ch:=[e]) (λb a=>?_) (λb o _ _ _ q _=>q) (λb o _ _ _ q _=>#[o.slots,q]) (λb o f _ n=>?_) (λb o _ q=>#[o,q]) (λb xs q=>?_) (λb o u q=>?_) (λb ps q=>?_) (λm q=>q) (λb u q=>?_) I.bare
 .show this
 .let z:b=e:= ~~~a
  subst z;show c
 .rw[jL (λz=>f (by simp[z]))];show n
 .rw[jL (λz=>by rw[z,hn]at q;cases q)];show q
 .rw[jL (λz=>by rw[z,hn]at q;cases q)];show q
 .show#[#v[],by rw[jL (λz=>by rw[z,hn]at q;cases q),q];simp]
 .by_cases z:b=e
  .subst z;rw[Q0]at q;cases q
  .rw[jL z]at q;show(I.hok b u q).stay (λ_ _ _ r=>r) (λc r=>by rw[jL (λz=>by rw[z,hn]at r;cases r)];show r) (λc xs r=>by rw[jL (λz=>by rw[z,hn]at r;cases r)];show r) λc g v r=>by rw[jL (λz=>by rw[z,hn]at r;cases r)];show r
end
def JV(C:δ)(fld:Str):Sp:=λvs H Q _=>∃e n,vs=[.ref e,.int n]/\n.natAbs<10^60/\H e=↑(xo e C none)/\
 ∀D H',D≠e->H D=none->(∀b o,b≠e->H b=↑o->H' b=↑o)->H' e=↑(xo e C ↑D)->H' D=↑(.xd [(fld,.int n)])->Q .non H'
section
variable{X:Cx}{σ:St}{H:Hp}{Q:VK}{D:Ends}{Lx x f fld:Str}{np apos pos pos' cpos:Pos}{a o value:ϩ}{es:List ϩ}{Kx:St->XK}
def Qx{pl:Sem Bool}(B:XBase X.K X.mg Lx)(h:EA X (a::es) σ H λvs H1=>CL X (.builtin "ValueError.__init__") vs H1 Q)(j:Gl X Lx:=by rfl)(hd:(Lx==("__debug__":Str))=false:=by decide)(e:abr (a::es) X.env=(false,eval a X.env)::abr es X.env:=by rfl)(g:(backTo pos (abr es X.env)).any (·.1)=false:=by rfl)(l:eval (.Call (.Attribute (.Name Lx np) "__init__" apos) (a::es) [] pos) X.env=(do
   let i<-eval (.Name Lx np) X.env
   standAt apos.atName
   let(f,first)<-holding [i] (getMethod i "__init__" pl)
   callWith pos f first (backTo pos (abr (a::es) X.env)) (backToKw pos (keywordEach [] X.env))):=by rfl):EV X (.Call (.Attribute (.Name Lx np) "__init__" apos) (a::es) [] pos) σ H Q:=by
 intro ϵ s I;show ash (pl:=pl) (oY I j B.at_ ?_ hd) l*>W.method_cls I.kIn B.ga (W.cls_value I.kIn B.reads B.ini (by fin2) ?_);let m:=I.tok (s.toks+1);let h':=h pos ϵ _ m;rw[e]at h'⊢;show Calls.callWith_builtin (by show(false||(backTo pos (abr es X.env)).any (·.1))=false;rw[g];rfl) (Calls.evalArgs_plain ?_)*>χ h' λus n p=>?_
 let#[vs,H2,q,u,c,h1,v]:=p;show h1 ϵ n σ H2 vs us Q q u v
def Mq(hi:p6 X.K C i=true)(a:H e=↑(xo e C none))(q:Q .non H):CL X (.builtin "ValueError.__init__") [.ref e,v] H Q:=by
 show dZ (r:=λxs H Q=>∃e v,xs=[.ref e,v]/\H e=↑(xo e C none)/\Q .non H) ?_ #[e,v,rfl,a,q];intro ϵ s σ H xs us Q I r h;let#[e,v,rfl,a,q]:=h;let#[j,y,rfl,r1,B]:=vals2 r;cases(show j=Value.ref e from r1);let#[bm,N,nm,D,bs,hdct,sn,sub,ab,col,dd,k0,k1,k2,k3,k5,mN,l,E,m,T]:=PQ I.kIn hi;let#[#[t,p],_,_]:=I.hok e _ a;let#[F,g,d,tk,os]:=s;show anv T l p λh' G h1 k=>?_
 let f:=I.write (x:=e) (e:=e) (o:=xo e C none) (h':=h') (t':=tk) (by rw[a];trivial) (.inl rfl) (λb u n q=>k b u n q) #[_,h1] (Fy h1);let c:upd H e (xo e C none)=H:=by
  funext b;unfold upd;split
  .rename_i z;rw[z,a]
  .rfl
 rw[c]at f;show#[.non,H,f,rfl,q]
def Rn(hs:aeL X.K (.ref C) "__setattr__"=some ↑(.builtin "object.__setattr__"))(O:lO X.K C L=true)(P:asd X.K C f=↑none)(B:apg value ↑(.Attribute o f pos') pos.line X.env=pure false)(h:EV X value σ H λy H1=>EV X o σ H1 λx H2=>∃e,x=.ref e/\H2 e=↑(xo e C none)/\∀E',H2 E'=none->E'≠e->D.nx σ (upd (upd H2 E' (.xd [(f,y)])) e (xo e C ↑E'))):SX X (.Assign [.Attribute o f pos'] value pos) D σ H:=by
 intro ϵ s I;show plainObj_wpAny_Assign_Attribute (χ (h ϵ s I) λu Q _u=>_Z.e23 _u λy H1 R ry q=>χ (q ϵ Q R) λS g T=>?_) B;let#[x,H2,i,rx,e,ex,a,U]:=T;subst ex;obtain rfl:S=Value.ref e:=rx;let#[#[t,E],_,_]:=i.hok e _ a;show ajr i.kIn E rfl rfl rfl hs O P λh' tk J W l=>?_
 let p:H2 ⇑g=none:=i.hok.fresh (Ϭ _);let Y:⇑g≠e:=λz=>by rw[z]at p;rw[p]at a;cases a
 let ne:∀b u,H2 b=↑u->u≠xo e C none->b≠e:=λb u q n z=>by rw[z,a]at q;cases q;show n rfl
 let j:∀b u,H2 b=↑u->b≠⇑g:=λb u q=>ό q p
 show#[σ,_,?_,U ⇑g p Y]*>i.step (h':=h') (g':=g.gens) (d':=g.drawn) (t':=tk) (ch:=[]) (λb Z=>absurd Z (by simp)) (λb o _ _ _ q n=>l b o (λz=>by rw[z,a]at n;cases n) q) (λb o _ _ _ q n=>#[o.slots,l b o (λz=>by rw[z,a]at n;cases n) q]) (λb o _ q n=>?_) (λb o _ q=>?_) (λb xs q=>?_) (λb o u q=>?_) (λb ps q=>?_) (λm F=>?_) (λb u q=>?_) i.bare
 .rw[θ (λz=>by rw[z,a]at n;cases n),θ (acu (abA q))];show n
 .by_cases z:b=e
  .subst z;show#[_,J]
  .show#[o,l b o z q]
 .rw[θ (ne _ _ q (λz=>nomatch z)),θ (j<*q)];show q
 .rw[θ (ne _ _ q (λz=>nomatch z)),θ (j<*q)];show q
 .show#[#v[],by rw[θ (ne _ _ q (λz=>nomatch z)),θ (j<*q),q];simp]
 .let#[o,es,ep,ho,r]:=F;show#[o,es,ep,l _ _ (λz=>by have:=i.free;rw[z,a]at this;cases this) ho,r]
 .by_cases z:b=e
  .subst z;rw[ς]at q;cases q;show Fy J
  .rw[θ z]at q;by_cases M:b=⇑g
   .subst M;rw[ς]at q;cases q;show#[_,W,λn=>?_];by_cases G:n=f
    .subst G;simp only[if_true,af7,beq_self_eq_true];show ry
    .rw[if_neg G,af7,beq_eq_false_iff_ne.mpr G];trivial
   .rw[θ M]at q;show(i.hok b u q).stay (λc v hc r=>l c v ?_ r) (λc r=>?_) (λc xs r=>?_) λc ob v r=>?_
    .obtain y|y:=hc
     .rw[y];show z
     .show ne _ _ y (λz=>nomatch z)
    .rw[θ (ne _ _ r (λz=>nomatch z)),θ (j<*r)];show r
    .rw[θ (ne _ _ r (λz=>nomatch z)),θ (j<*r)];show r
    .rw[θ (ne _ _ r (λz=>nomatch z)),θ (j<*r)];show r
end
structure Cz(P:Ϯ)(w:ϭ)(K:Ϩ)(mg:MG)(base:ϫ)(cc:Bool)(k:Nat)(x fld:Str):Prop where
 at_:mg x=↑(.ref (ο mg x))
 ex:∃f fd ps oc od osl,dF P w K mg base (cJ P w) cc k f fd ps (JV (ο mg x) fld)/\Binds K fd ps []/\p6 K (ο mg x) f=true/\K.lookup f=some #[oc,od,.func fd,osl]/\oc=.type "function"
def akk(n:bm.contains (.type "BaseException")=true)(hh:A.handled=none)(l:(backTo cpos (abr i env)).any (·.1)=false)(hi:mN "__init__"=↑(.ref fI))(y:oI.cls=.type "function")(h:π (ϧ prog w) A (eval (.Name x np) env) (λf m=>f=.ref C/\π (ϧ prog w) A (evalArgs (.ref C) true (backTo cpos (abr i env)) [])
   (λa c=>a.kw=[]/\↥a.pos<=ϰ/\c.heap.get? C=↑(excClassObj nm q C N bs bm hdct sn sub ab col dd k0 k1 k2 k3 k5 "ValueError.__new__")/\c.heap.Ns N mN/\OwnTail c.heap gA bm/\c.heap.get? fI=↑oI/\
    ∀h' e,as4 c.heap h' e (.ref C) a.pos->π (ϧ prog w) (A.under (.builtin "type.__call__" #[.ref C::a.pos,[]])) (call (.ref fI) (.ref e::a.pos))
     (λr s'=>r=.none/\∃t D,s'.heap.get? C=↑(excClassObj nm q C N bs bm hdct sn sub ab col dd k0 k1 k2 k3 k5 "ValueError.__new__")/\
      s'.heap.get? e=some {cls:=.ref C,dict:=D,data:=.fields #v[.ref t,.none,.none,.none,.bool false,.none]}/\E (.ref e) s') E {c with heap:=h'}) E m) E s):π (ϧ prog w) A (exec (.Raise ↑(.Call (.Name x np) i [] cpos) none pos) env) Q E s:=by
 rw[arm_exec_Raise];show ν (am0 (aiz (C:=C) (nm:=nm) (q:=q) (N:=N) (bs:=bs) (bm:=bm) (hdct:=hdct) (sn:=sn) (sub:=sub) (ab:=ab) (col:=col) (dd:=dd) (k0:=k0) (k1:=k1) (k2:=k2) (k3:=k3) (k5:=k5) n hh ?_))*>ν (ac7 (wpAny_Call_ofName (ac7 h (λf m h₁=>?_) λ_ _ x=>x)) (λv H p=>ν (am0 (ϱ p))) λ_ _ x=>x);let#[rfl,h₁]:=h₁;unfold callWith;show ν (afM (ac7 h₁ (λa c j=>ν (am0 ?_)) λ_ _ x=>x));let#[apos,B]:=a;let#[F,u,I,hn,T,G,j]:=j;obtain rfl:B=[]:=F;let#[R,g,d,tk,os]:=c;simp only[l];show ν (wpAny_keeperOf_exc I ?_)*>ν (anw T I hn hi G y (λh' e L=>?_) u)*>ac7 (j h' e L) (λr s' J=>#[J.1,?_]) λ_ _ z=>z
 let#[t,D,M,O,P]:=J.2;show ν (afM (wpAny_point (ϱ #[e,t,D,rfl,M,O,P])))
section
variable{X:Cx}{Kx:St->XK}{D:Ends}{σ:St}{H:Hp}{x fld:Str}{np cpos pos:Pos}{e:ϩ}{es:List ϩ}{cc bQ:Bool}{k k':Nat}
def Yv(O:Cz X.prog X.w X.K X.mg X.base bQ k x fld)(hr:ϗ cc k' X.A)(G:bQ=true->cc=true)(hx:cQ X Kx)(h:EA X (e::es) σ H λvs H1=>∃n,vs=[.int n]/\n.natAbs<10^60/\∀E' H',ζ H1 H'->H' E'=↑(.xd [(fld,.int n)])->Kx σ (.ref (ο X.mg x)) (↑E',true) H')(hk:k+1<=k':=by decide)(hc:X.calm=true:=by rfl)(hg:Gl X x:=by rfl)(hd:(x==("__debug__":Str))=false:=by decide)(he:abr (e::es) X.env=(false,eval e X.env)::abr es X.env:=by rfl)(J:(backTo cpos (abr es X.env)).any (·.1)=false:=by rfl):SX X (.Raise ↑(.Call (.Name x np) (e::es) [] cpos) none pos) D σ H:=by
 intro ϵ s I;let#[f,fd,ps,oc,od,L,Fn,j,hi,P,Q]:=O.ex;let#[bm,N,nm,q,bs,hdct,sn,sub,ab,col,dd,k0,k1,k2,k3,k5,mN,hC,hN,R,T]:=PQ I.ok.mod.kin hi;let S:ϗ bQ (k+1) X.A:=(hr.mono hk).sG G;show akk (C:=ο X.mg x) (nm:=nm) (q:=q) (N:=N) (bs:=bs) (bm:=bm) (hdct:=hdct) (sn:=sn) (sub:=sub) (ab:=ab) (col:=col) (dd:=dd) (k0:=k0) (k1:=k1) (k2:=k2) (k3:=k3) (k5:=k5) (mN:=mN) (fI:=f) (oI:=#[oc,od,.func fd,L])
  (T.hasType (by fin2)) (I.ok.hd hc) ?_ R Q (oY I hg O.at_ #[rfl,?_] hd)
 .rw[he];show(false||(backTo cpos (abr es X.env)).any (·.1))=false;rw[J];rfl
 .let h':=h cpos ϵ s I;rw[he]at h'⊢;show Calls.evalArgs_plain (χ h' λus l hZ=>?_);let#[vs,H1,g,r,n,U,hn,kq]:=hZ;subst U;let#[u,rfl,ru]:=vals1 r;show#[rfl,Ε,g.bk<*hC,hN.keeps g.bk,T.keeps g.bk,g.kIn<*P,λF a M=>?_];let#[t,m1,m2,m3]:=M.there;let c:H1 a=none:=g.hok.free M.new;let i:Ch X ϵ a:=g.ch M.new;let I3:Inv X ϵ σ H1 {l with heap:=F}:=g.kept (t':=l.toks) M.keeps;let W:Inv X ϵ σ (upd H1 a (xo a (ο X.mg x) none)) {l with heap:=F}:=I3.adopt c i (Fy m1);let rv:Vals [V.ref a,.int n] [Value.ref a,u]:=.cons rfl (.cons ru .nil);let m:JV (ο X.mg x) fld [V.ref a,.int n] (upd H1 a (xo a (ο X.mg x) none)) (λv H'=>v=.non/\∃E',H' a=↑(xo a (ο X.mg x) ↑E')/\H' E'=↑(.xd [(fld,.int n)])/\E'≠a/\∀b o,b≠a->H1 b=↑o->H' b=↑o) (λ_ _ _=>False):=
   #[a,n,rfl,hn,ς,λE' H' h1 h2 Y h4 h5=>#[rfl,E',h4,h5,h1,λb o j q=>Y b o j (by rw[θ j];show q)]]
  let hl:↥([Value.ref a,u]:List ε)=↥ps:=by rw[<-↥rv];show Fn.len _ _ _ _ m
  let p:=j {l with heap:=F} [Value.ref a,u] W.kIn (~~~hl);rw[alR]at p;show aqn (ajk (Fn.run (X.A.under (.builtin "type.__call__" #[.ref (ο X.mg x)::[u],[]])) X.stack {l with heap:=F} _ #[[Value.ref a,u],[]] [Value.ref a,u] [V.ref a,.int n] _ (λ_ _ _=>False) (S.make (ο X.mg x) [u] [])
   (W.env0.make (ο X.mg x) [u] []) p rv m) λr s' y=>?_)
  cases r with
  |error e=>show(cJ.never y).elim
  |ok fl=>
   cases fl with
   |ret v=>
    let#[v',H',Z,rr,U,E',g1,g2,g3,g4]:=W.after y;subst U;let#[#[t',B],_,_]:=Z.hok a _ g1;let I6:=Z.forget g1 i;show#[rr,t',↑E',Z.bk<*hC,B,?_]*>hx ϵ σ _ s' a _ (↑E',true) #[I6,none,.none,#[_,_,B,rfl,rfl,rfl,rfl,by simp,Ctx.yes rfl,λT z=>nomatch z],.inl rfl,λb j=>?_] (kq E' _ (λb o q=>?_) ?_)
    .let z:b=a:= ~~~j
     subst z;show#[Q0,i]
    .let E:b≠a:=ό q c;rw[jL E];show g4 b o E q
    .rw[jL g3];show g2
   |next=>show False.elim y
   |brk=>show False.elim y
   |cont=>show False.elim y
end
section
variable{prog:Ϯ}{w:ϭ}{A:ϴ}{E:ε->μ->Prop}{s:μ}{K:Ϩ}{x C:δ}{ox:Obj}{od:Option Obj}{name:Str}{v:ε}
theorem afC{fill a:Bool}{Q:ε->μ->Prop}(X:K.In s.heap)(I:atP s.heap x ox C od)(c:Ek K C)(h:π (ϧ prog w) A.in1 (apn.«object.__getattribute__» #[[.ref x,.str name tk],[]]) (λfin s'=>match fin with
   |.done (.ret v)=>π (ϧ prog w) A (handedOut v) Q E s'
   |_=>False) (λ_ _=>False) s):π (ϧ prog w) A (getAttrBy (.ref x) (.str name tk) fill a) Q E s:=by
 let FB:=F.attrBase_ValueError;let sub:aua (ϧ prog w) s.heap (isInstance (.ref x) (.type "BaseException")) true:=I.type.andThen (auc X c.mb);unfold getAttrBy;show afM (ν (I.type.here (ν ((asp X c.ga).here ?_))));dsimp only;let e:(Value.builtin "BaseException.__getattribute__"==Value.builtin "object.__getattribute__")=false:=by fin2
 rw[if_neg (by rw[e,Bool.and_false];show aaD)];unfold getAttrByItsOwn hookBefore;rw[if_pos (show onTheHeap (Value.ref C)=true from rfl)];show ν ((asp X c.gt).here ?_)*>ν (wpAny_attempt (afM ?_));unfold callGetattribute;rw[if_neg (by cases a<;>show aaD)];unfold boundAndCalled;rw[FB.ga.bind];show ν (ϱ (aqn (aoR FB.ga.plain F.entry_bexc_ga (@W.check_slot (ϧ prog w) _ _ s "BaseException.__getattribute__" "BaseException" "__getattribute__" (.ref x) [.str name tk] [] _ (by fin2) (by fin2) sub (F.args_bexc_ga _ _) ?_))))*>ac7 h (λfin s' z=>?_) λ_ _ z=>z.elim
 rcases fin with(_|_|_|_)|_<;>first|show z|show z.elim
def aoy(X:K.In s.heap)(I:atP s.heap x ox C od)(a:W.findObj K C od name=↑(.value v))(h:Q (.done (.ret v)) s):π (ϧ prog w) A (apn.«object.__getattribute__» #[[.ref x,.str name tk],[]]) Q E s:=by
 let c:=W.looks_find (M:=ϧ prog w) X I a;unfold apn.«object.__getattribute__»;show ν (ϱ ?_);dsimp only;show ν (ϱ (ν (I.type.here (ν (c.here ?_)))))*>ϱ h
end
def xw(e C:δ)(D:Option δ):HO:=.ext λh=>∃a vs,h.get? e=↑a/\a.cls=.ref C/\a.dict=D/\a.data=.fields vs
theorem ais(q:h.get? e=↑a)(c:a.cls=.ref C)(hd:a.dict=D)(f:a.data=.fields vs):ώ P w H h e (xw e C D):=
 #[#[a,vs,q,c,hd,f],#[_,q],λh1 h2 z k=>by let#[a,vs,q,r]:=z;show #[a,vs,k _ q,r]]
section
variable{X:Cx}{σ:St}{H:Hp}{Q:VK}{e C:δ}{D:Option δ}{k:Bool}
def Inv.inst(I:Inv X ϵ σ H s)(m:H e=↑(xw e C D))(hd:∀E',D=↑E'->∃fs,H E'=↑(.xd fs)):∃ox od,atP s.heap e ox C od/\∀E' fs,D=↑E'->H E'=↑(.xd fs)->∃o,od=↑o/\∃mA:Str->Option ε,(∀f,dj (fs.lookup f) (mA f))/\∀n,atO n o=↑(mA n):=by
 let#[#[g,vs,q,i,a,j],_,_]:=I.hok e _ m;cases D with
 |none=>show#[g,none,#[q,i,by unfold aus;rw[j],by rw[a];trivial],λE' fs z=>nomatch z]
 |some E'=>
  let#[fs,h1]:=hd E' rfl;let#[mA,c,p]:=I.hok E' _ h1;let#[o,u,hl]:=Rh c;show#[g,↑o,#[q,i,by unfold aus;rw[j],by rw[a];show u],λx v z l=>?_];cases z;rw[h1]at l;cases l;show#[o,rfl,mA,p,hl]
def aeU(x:attributeBase o f X.env (eval o X.env)=eval o X.env)(n:Ek X.K C)(hn:aeL X.K (.ref C) f=↑none)(B:∀u,RelV v u->at6 u=true)(h:EV X o σ H λy H1=>y=.ref e/\H1 e=↑(xw e C ↑E')/\H1 E'=↑(.xd fs)/\fs.lookup f=↑v/\Q v H1):EV X (.Attribute o f pos) σ H Q:=by
 intro ϵ s I;show Rp x (χ (h ϵ s I) λu i D=>?_);let#[y,H1,j,ry,E,F,p,hl,q]:=D;subst E;obtain rfl:u=Value.ref e:=ry;let#[ox,od,J,g]:=j.inst F λL z=>#[fs,by cases z;show p]
 let#[o',rfl,mA,G,l]:=g E' fs rfl p;let a:=G f;rw[hl]at a;cases m:mA f with
 |none=>rw[m]at a;cases a
 |some v'=>
  rw[m]at a;let c:RelV v v':=a;unfold getAttr;show ν (wpAny_mkText (afC (s:={i with toks:=i.toks+1}) j.kIn J n (aoy (s:={i with toks:=i.toks+1}) j.kIn J (at9 n.hd hn rfl (by rw[l,m])) ?_)))*>W.handed_on (B v' c) #[v,H1,j.tok _,c,q]
end
section
variable{X:Cx}{ϵ:List (δ×Obj)}{σ:St}{H:Hp}{s:μ}{h':ϫ}
def Inv.abV{i:Nat}{m m':MG}{t':Nat}(I:Inv X ϵ σ H s)(F:X.N.Nodup)(hi:X.N[i]?=↑n)(B:σ[i]?=↑none)(hl:∀(i:Nat)(x:Str)(v:V),X.N[i]?=↑x->σ[i]?=some ↑v->rH X.env.scope x->∃u,RelV v u/\Look X.env s.heap m x u)(hn:h'.Ns X.env.locals m')(G:∀x,x≠n->m' x=m x)(g:∀b o,b≠X.env.locals->s.heap.get? b=↑o->h'.get? b=↑o)(R:∃o,h'.get? X.env.locals=↑o):Inv X ϵ σ H {s with heap:=h',toks:=t'}:=by
 let f:∀b o,X.s₀.heap.get? b=↑o->b≠X.env.locals:=λb o e=>acu (acp (abA e) I.ok.above)
 let a:∀x c,X.env.cells.lookup x=↑c->∀v,s.heap.IsCell c v->h'.IsCell c v:=λx c e v ⟨o,J,hd⟩=>#[o,g c o (I.cne x c e) J,hd]
 show#[I.ok,I.os,I.bare,#[λb o e n D y=>g b o (f b o e) (I.base.keep b o e n D y),λb o e n D y=>?_,I.base.free,λb o e y=>?_,I.base.tups,I.base.frzs,I.base.tbls],#[m',hn,λj x v e1 E L=>?_],λx c e=>?_,I.free,I.freeC,λp M=>?_,λb u e=>?_,I.len]
 .let#[sl,e1]:=I.base.slot b o e n D y;show#[sl,g b _ (f b o e) e1]
 .let#[o',e1]:=I.base.there b o e y;show#[o',g b o' (f b o e) e1]
 .let#[u,r,l]:=hl j x v e1 E L;show#[u,r,?_];let O:x≠n:=λz=>by
   subst z;have:=Iu F e1 hi;subst this;rw[B]at E;cases E
  obtain l|⟨k,c,e,z⟩:=l
  .show .inl #[l.1,by rw[G x O];show l.2]
  .show .inr #[k,c,e,a x c e _ z]
 .let#[v,z]:=I.cell x c e;show#[v,a x c e v z]
 .let#[e,n,ne,P,d]:=I.pin p M;show#[g _ _ ne e,n,ne,P,d]
 .show(I.hok b u e).stay (λc v Q q=>g c v ?_ q) (λ_ q=>q) λ_ _ q=>q
  obtain z|z:=Q
  .rw[z];show ό e I.free
  .show ό z I.free
end
section
variable{K:Ϩ}{mg:MG}{Lx x y:Str}
def Xu(h:XC K mg Lx x)(v:ε):apo K (ο mg x) v=↑((Value.ref (ο mg x):: .ref (ο mg Lx)::gA).contains v):=by
 let#[cd,h1,_,h2]:=DY h.xc;unfold apo;rw[h1,atB,h2];rfl
def XC.cls(h:XC K mg Lx x):(aub K (ο mg x)).isSome=true:=by
 let#[cd,h1,_,h2]:=DY h.xc;rw[h1];rfl
def adJ(t:ε)(h1:(aub K C).isSome=true)(h2:ar0 K (.ref C)=↑(.type "type")):W.kitCls K t (.ref C)=aud K t (.ref C):=by
 show(if((aub K C).isSome&&ar0 K (.ref C)==↑(.type "type"))=true then aud K t (.ref C)else none)=_;rw[if_pos];rw[h1,h2];rfl
def an6(h:XC K mg Lx x):aud K (.ref (ο mg x)) (.ref (ο mg x))=↑true:=by
 show apo K (ο mg x) (.ref (ο mg x))=↑true;rw[Xu h,ate,beq_self_eq_true];rfl
def acn(g:XC K mg Lx y)(v:ε):asV K v (.ref (ο mg y))=aud K v (.ref (ο mg y)):=by
 unfold asV;let e:aud K (.ref (ο mg y)) (.type "BaseException")=↑true:=by
  show apo K (ο mg y) (.type "BaseException")=↑true;rw[Xu g];rfl
 rw[e,if_pos (by decide),adJ _ g.cls g.ty]
def alZ(h:XC K mg Lx x):asV K (.ref (ο mg x)) (.ref (ο mg x))=↑true:=by rw[acn h];show an6 h
end
def M5{P:Ϯ}{w:ϭ}{K:Ϩ}{mg:MG}{base:ϫ}{cc:Bool}{k:Nat}{Lx x qual fld:Str}{st:Ϧ}(O:wD K mg Lx x qual fld st)(S:Ξ N ps (υ st))(l:∀(kV g pm:ε)(an:Option δ)(c ct:ε)(us:List ε),↥us=↥ps->bindArgs (as3 "__init__" qual (kW st) (ϓ st) (υ st) .none kV g pm an c ct) #[us,[]]=pure (ps.zip us))(len:↥ps=2)(body:∀(f:δ)(c:ε)(A:ϴ)(outer:List Env)(s:μ)(H:Hp)(vs:List V)(Q:VK)(E:XK),p6 K (ο mg x) f=true->ϗ cc k (A.deeper (envOfC qual (υ st) ⇑s f c))->JV (ο mg x) fld vs H Q E->
   Η (fX cc P w K mg base N qual (υ st) f c A outer s H E) (ϓ st) {nx:=λ_ H'=>Q .non H',rt:=Q} (start N vs) H):Cz P w K mg base cc (k+1) x fld:=by
 let#[f,fd,F,h1,h2]:=O.ex;let#[oc,od,kV,g,pm,an,c,ct,i,e,lk,m]:=id F.ex;show#[O.at_,f,fd,ps,oc,od,i,yE F S (λvs H Q E h=>by let#[a,n,rfl,_]:=h;show len.symm) λc A outer s H vs Q E p h=>body f c A outer s H vs Q E h1 p h,F.binds l,h1,lk,?_];let q:ar0 K (.ref f)=↑(.type "function"):=beq_iff_eq.mp h2;let j:Option.map (λx:Obj=>x.cls) (ahE f K)=↑(.type "function"):=q;rw[lk]at j;show Option.some.inj j
abbrev dG(h:ϫ)(T:δ)(a b c:ε):Prop:=h.get? T=some {cls:=.type "tuple",data:=.seq #v[a,b,c]}
theorem an{n a b:Nat}(h:a≠b:=by decide):(n+a:δ)≠n+b:=λe=>h (Nat.add_left_cancel e)
theorem ln{n l:Nat}(h:l<n)(k:Nat):(l:δ)≠n+k:=acu (Nat.lt_add_right k h)
def amJ(a b c:ε):checkTypeCall "zip" #[[a,b,c],[]]=pure PUnit.unit:=by kernel_rfl
def aeh(a b c:ε):checkBuiltinCall "zip.__new__" #[[.type "zip",a,b,c],[]]=pure PUnit.unit:=by kernel_rfl
def aiv(a b c d:ε):argsOk "object.__init__" #[[a,b,c,d],[]]:=by
 unfold argsOk;rw[signature?_of (id:="object.__init__") (n:=['_', '_', 't', 'i', 'n', 'i', '_', '_']) (o:=['t', 'c', 'e', 'j', 'b', 'o']) (by kernel_rfl) F.owner_object];kernel_rfl
def Lg(e:dG s.heap T a b c)(h:∀h',h'.get? T=some {cls:=.type "tuple",data:=.seq ((#v[a,b,c]:Array ε).setIfInBounds k x)}->ak7 T s.heap h'->Q PUnit.unit {s with heap:=h'}):π (ϧ prog w) A (updateSeq T (·.setIfInBounds k x)) Q E s:=by
 show wpAny_updateSeq e rfl (h _ ?_ (Heap.SameBut.update ..));rw[aeY _ e rfl];simp[Obj.mapSeq]
def alT{n D F G:Nat}{k:Nat}{Q:ε->μ->Prop}(g1:D<n)(X:F<n)(H:G<n)(I:IsZip s.heap (n+5) (n+3) (n+4) .none)(Y:dG s.heap (n+3) (.ref n) (.ref (n+1)) (.ref (n+2)))(Z:dG s.heap (n+4) a b c)(h1:s.heap.IsListIter n D k)(h2:s.heap.IsListIter (n+1) F k)(h3:s.heap.IsListIter (n+2) G k)(aa:s.heap.IsList D xs)(ϻ:s.heap.IsList F ys)(ab:s.heap.IsList G zs)(hx:xs[k]?=↑x)(hy:ys[k]?=↑y)(hu:zs[k]?=↑u)(hQ:∀h',IsZip h' (n+5) (n+3) (n+4) (rawInt ⇑s)->dG h' (n+4) x y u->h'.IsListIter n D (k+1)->h'.IsListIter (n+1) F (k+1)->h'.IsListIter (n+2) G (k+1)->dG h' ⇑s x y u->
   (∀c o,c≠n+5->c≠n+4->c≠n->c≠n+1->c≠n+2->s.heap.get? c=↑o->h'.get? c=↑o)->Q (.ref ⇑s) {s with heap:=h'}):π (ϧ prog w) A (apn.«zip.__next__» #[[.ref (n+5)],[]]) (λfin s'=>∃v,fin=.done (.ret v)/\Q v s') E s:=by
 let qP:n+5≠n:=an (b:=0);let KD:n+5≠n+1:=an;let Hg:n+5≠n+2:=an;let J:n+5≠n+4:=an;let P:n+4≠n:=an (b:=0);let R:n+4≠n+1:=an;let S:n+4≠n+2:=an;let L:n+1≠n:=an (b:=0);let MF:n+2≠n:=an (b:=0);let M:n+2≠n+1:=an;show π _ _ (field (.ref (n+5)) 2>>=_) _ _ _*>ν (ahc I rfl (x:=.bool false) rfl ?_)*>π _ _ (field (.ref (n+5)) 3>>=_) _ _ _*>ν (ahc I rfl (x:=.ref (n+3)) rfl ?_)*>ν (aoX Y rfl ?_)*>π _ _ (Builtin.SmallTypes.ownedTupleIsFree (.ref (n+5))>>=_) _ _ _*>ν ?_;unfold Builtin.SmallTypes.ownedTupleIsFree;show ν (ahc I rfl (x:=.none) rfl (ϱ ?_));simp only[if_true];show ν (wpAny_rule ?_)*>ν (ahc I rfl (x:=.ref (n+4)) rfl ?_)*>ν (amw I (by simp) λm1 m g=>?_)
 replace m:IsZip m1 (n+5) (n+3) (n+4) .ellipsis:=m
 show ν ?_;simp only[atD,atU,anT,aq6];show ν (ν (wpAny_onRaise ?_))*>π _ _ (Builtin.SmallTypes.nextOf (.ref n)>>=_) _ _ _*>ν (aqQ (h1.extBut g.extBut qP.symm) (aa.extBut g.extBut (ln g1 5)) hx λm2 ac i=>ϱ ?_);let t2:dG m2 (n+4) a b c:=i.extBut _ _ P (g.extBut _ _ J.symm Z);show ν (aoX t2 rfl ?_)*>ν (Lg t2 λm3 t3 j=>?_)
 replace t3:dG m3 (n+4) x b c:=t3
 show ν (wpAny_letGo (ϱ ?_))*>ν (ν (wpAny_onRaise ?_))*>π _ _ (Builtin.SmallTypes.nextOf (.ref (n+1))>>=_) _ _ _*>ν (aqQ (((h2.extBut g.extBut KD.symm).extBut i.extBut L).extBut j.extBut R.symm) (((ϻ.extBut g.extBut (ln X 5)).extBut i.extBut (ln X 0)).extBut j.extBut (ln X 4)) hy λm4 ae p=>ϱ ?_);let t4:dG m4 (n+4) x b c:=p.extBut _ _ R t3;show ν (aoX t4 rfl ?_)*>ν (Lg t4 λm5 t5 q=>?_)
 replace t5:dG m5 (n+4) x y c:=t5
 show ν (wpAny_letGo (ϱ ?_))*>ν (ν (wpAny_onRaise ?_))*>π _ _ (Builtin.SmallTypes.nextOf (.ref (n+2))>>=_) _ _ _*>ν (aqQ (((((h3.extBut g.extBut Hg.symm).extBut i.extBut MF).extBut j.extBut S.symm).extBut p.extBut M).extBut q.extBut S.symm) (((((ab.extBut g.extBut (ln H 5)).extBut i.extBut (ln H 0)).extBut j.extBut (ln H 4)).extBut p.extBut (ln H 1)).extBut q.extBut (ln H 4)) hu λm6 af z=>ϱ ?_);let t6:dG m6 (n+4) x y c:=z.extBut _ _ S t5;show ν (aoX t6 rfl ?_)*>ν (Lg t6 λf T B=>?_)
 replace T:dG f (n+4) x y u:=T
 show ν (wpAny_letGo (ϱ (ϱ ?_)))*>ν (aoX T rfl ?_)*>ν (wpAny_newTuple ?_);let hsz:f.objs.size=⇑s:=by rw[B.1,z.1,q.1,p.1,j.1,i.1,g.1]
 let Qa:IsZip f (n+5) (n+3) (n+4) .ellipsis:=B.extBut _ _ J (z.extBut _ _ Hg (q.extBut _ _ J (p.extBut _ _ KD (j.extBut _ _ J (i.extBut _ _ qP m)))));let ag:∀c o,c≠n+5->c≠n+4->c≠n->c≠n+1->c≠n+2->s.heap.get? c=↑o->f.get? c=↑o:=λc o c1 c2 c3 c4 c5 e=>
  B.extBut _ _ c2 (z.extBut _ _ c5 (q.extBut _ _ c2 (p.extBut _ _ c4 (j.extBut _ _ c2 (i.extBut _ _ c3 (g.extBut _ _ c1 e))))))
 let i1:f.IsListIter n D (k+1):=((((ac.extBut j.extBut P.symm).extBut p.extBut L.symm).extBut q.extBut P.symm).extBut z.extBut MF.symm).extBut B.extBut P.symm;let i2:f.IsListIter (n+1) F (k+1):=((ae.extBut q.extBut R.symm).extBut z.extBut M.symm).extBut B.extBut R.symm;let i3:f.IsListIter (n+2) G (k+1):=af.extBut B.extBut S.symm;let l:n+5<f.objs.size:=abA Qa;show π _ _ (Builtin.SmallTypes.ownedTupleHandOut (.ref (n+5)) (.ref f.objs.size)>>=_) _ _ _*>ν ?_;unfold Builtin.SmallTypes.ownedTupleHandOut;let ah:IsZip (f.push {cls:=.type "tuple",data:=.seq #v[x,y,u]}) (n+5) (n+3) (n+4) .ellipsis:=ϲ _ Qa;show ν (amw ah (by simp) λm8 KH s8=>?_)
 replace KH:IsZip m8 (n+5) (n+3) (n+4) (rawInt f.objs.size):=KH
 show amw KH (by simp) λU W s9=>?_
 replace W:IsZip U (n+5) (n+3) (n+4) (rawInt f.objs.size):=W
 let up:∀c o,c≠n+5->f.get? c=↑o->U.get? c=↑o:=λc o c1 e=>s9.extBut _ _ c1 (s8.extBut _ _ c1 (ϲ _ e))
 let O:dG U f.objs.size x y u:=s9.extBut _ _ (anM l) (s8.extBut _ _ (anM l) (abj _ rfl));rw[hsz]at W O;show ϱ #[_,rfl,?_]*>Q (.ref f.objs.size) _;rw[hsz];show hQ U W (up _ _ J.symm T) (i1.at λo e=>up _ o qP.symm e) (i2.at λo e=>up _ o KD.symm e) (i3.at λo e=>up _ o Hg.symm e) O λc o c1 c2 c3 c4 c5 e=>up c o c1 (ag c o c1 c2 c3 c4 c5 e)
def ajw{n l:Nat}{k:Nat}{Q:Fin->μ->Prop}(hh:A.handled=none)(B:l<n)(g:IsZip s.heap (n+5) (n+3) (n+4) .none)(m:dG s.heap (n+3) (.ref n) b c)(h1:s.heap.IsListIter n l k)(p:s.heap.IsList l xs)(D:xs[k]?=none)(F:∀h' e,(∀c o,c≠n+5->c≠n->s.heap.get? c=↑o->h'.get? c=↑o)->(∃o,h'.get? e=↑o/\o.cls=.type "StopIteration")->E (.ref e) {s with heap:=h'}):π (ϧ prog w) A (apn.«zip.__next__» #[[.ref (n+5)],[]]) Q E s:=by
 let v:n+5≠n:=an (b:=0);show π _ _ (field (.ref (n+5)) 2>>=_) _ _ _*>ν (ahc g rfl (x:=.bool false) rfl ?_)*>π _ _ (field (.ref (n+5)) 3>>=_) _ _ _*>ν (ahc g rfl (x:=.ref (n+3)) rfl ?_)*>ν (aoX m rfl ?_)*>π _ _ (Builtin.SmallTypes.ownedTupleIsFree (.ref (n+5))>>=_) _ _ _*>ν ?_;unfold Builtin.SmallTypes.ownedTupleIsFree;show ν (ahc g rfl (x:=.none) rfl (ϱ ?_));simp only[if_true];show ν (wpAny_rule ?_)*>ν (ahc g rfl (x:=.ref (n+4)) rfl ?_)*>ν (amw g (by simp) λm1 a q=>?_)
 replace a:IsZip m1 (n+5) (n+3) (n+4) .ellipsis:=a
 show ν ?_;simp only[atD,atU,anT,aq6];show ν (ν (wpAny_onRaise ?_))*>π _ _ (Builtin.SmallTypes.nextOf (.ref n)>>=_) _ _ _*>ν (wpAny_nextOf_list_end hh (h1.extBut q.extBut v.symm) (p.extBut q.extBut (ln B 5)) D λm2 e y G=>?_);let#[H,f,i]:=G;let j:IsZip m2 (n+5) (n+3) (n+4) .ellipsis:=y _ _ v a;let u:e≠n+5:=λx=>by subst x;rw[j]at f;cases f;simp at i
 show amw j (by simp) λI _ z=>F I e (λc o c1 c3 x=>z.extBut _ _ c1 (y _ _ c3 (q.extBut _ _ c1 x))) #[H,z.extBut _ _ u f,i]
abbrev Ak(h:ϫ)(l1:δ):ϫ:=h.push {cls:=.type "list_iterator",data:=.fields #v[.ref l1,.int 0 0]}
abbrev zM(h:ϫ)(l1 l2:δ):ϫ:=(Ak h l1).push {cls:=.type "list_iterator",data:=.fields #v[.ref l2,.int 0 0]}
abbrev Ae(h:ϫ)(l1 l2 l3:δ):ϫ:=(zM h l1 l2).push {cls:=.type "list_iterator",data:=.fields #v[.ref l3,.int 0 0]}
abbrev zW(h:ϫ)(l1 l2 l3:δ):ϫ:=(Ae h l1 l2 l3).push {cls:=.type "tuple",data:=.seq #v[.ref h.objs.size,.ref (Ak h l1).objs.size,.ref (zM h l1 l2).objs.size]}
abbrev CP(h:ϫ)(l1 l2 l3:δ):ϫ:=(zW h l1 l2 l3).push {cls:=.type "tuple",data:=.seq #v[.none,.none,.none]}
abbrev oZ(h:ϫ)(l1 l2 l3:δ):ϫ:=(CP h l1 l2 l3).push {cls:=.type "zip",data:=.fields #v[.none,.bool false,.bool false,.ref (Ae h l1 l2 l3).objs.size,.ref (zW h l1 l2 l3).objs.size]}
theorem ajj(a c e:δ)(xs ys zs:Array ε):Meets (apn.«zip.__new__» #[[.type "zip",.ref a,.ref c,.ref e],[]]) (λ_ R s=>s.heap.IsList a xs/\s.heap.IsList c ys/\s.heap.IsList e zs/\R (.ok (.ret (.ref (CP s.heap a c e).objs.size))) {s with heap:=oZ s.heap a c e}):=
 .of_wp λprog w A R s h=>by
  let#[f,g,d,tk,os]:=s;let#[i,p,j,h]:=h;let n:=sub_zip;let l:atV (Shared.heap #[f,g,d,tk,os]) a xs:=i;let m:atV (Shared.heap #[f.push {cls:=.type "list_iterator",data:=.fields #v[.ref a,.int 0 0]},g,d,tk,os]) c ys:=Heap.IsList.push p _;let q:atV (Shared.heap #[(f.push {cls:=.type "list_iterator",data:=.fields #v[.ref a,.int 0 0]}).push {cls:=.type "list_iterator",data:=.fields #v[.ref c,.int 0 0]},g,d,tk,os]) e zs:=Heap.IsList.push (Heap.IsList.push j _) _
  wp_walk using alB l,alB m,alB q
  show#[_,rfl,h]
section
variable{prog:Ϯ}{w:ϭ}{A:ϴ}{E:ε->μ->Prop}{s:μ}
def afa(g:s.heap.IsList a xs)(B:s.heap.IsList e ys)(i:s.heap.IsList f zs)(h:∀h',IsZip h' (⇑s+5) (⇑s+3) (⇑s+4) .none->dG h' (⇑s+3) (.ref ⇑s) (.ref (⇑s+1)) (.ref (⇑s+2))->
   dG h' (⇑s+4) .none .none .none->h'.IsListIter ⇑s a 0->h'.IsListIter (⇑s+1) e 0->h'.IsListIter (⇑s+2) f 0->
   (∀c o,s.heap.get? c=↑o->h'.get? c=↑o)->Q (.ref (⇑s+5)) {s with heap:=h'}):π (ϧ prog w) A (call (.type "zip") [.ref a,.ref e,.ref f]) Q E s:=by
 show callType_new F.called_zip (by decide) (amJ<*_) (aeh<*_) (λobj=>aiv obj _ _ _) F.entry_zip_new (ajj a e f xs ys zs) #[g,B,i,?_];let j:(Ak s.heap a).objs.size=⇑s+1:=ajp ..;let l:(zM s.heap a e).objs.size=⇑s+2:=by rw[ajp,j]
 let m:(Ae s.heap a e f).objs.size=⇑s+3:=by rw[ajp,l]
 let n:(zW s.heap a e f).objs.size=⇑s+4:=by rw[ajp,m]
 let q:(CP s.heap a e f).objs.size=⇑s+5:=by rw[ajp,n]
 let p:(oZ s.heap a e f).get? (CP s.heap a e f).objs.size=↑_:=abj _ rfl;let u:(oZ s.heap a e f).get? (zW s.heap a e f).objs.size=↑_:=ϲ _ (abj _ rfl);let v:(oZ s.heap a e f).get? (Ae s.heap a e f).objs.size=↑_:=ϲ _ (ϲ _ (abj _ rfl));let y:(oZ s.heap a e f).get? (zM s.heap a e).objs.size=↑_:=ϲ _ (ϲ _ (ϲ _ (abj _ rfl)));let z:(oZ s.heap a e f).get? (Ak s.heap a).objs.size=↑_:=ϲ _ (ϲ _ (ϲ _ (ϲ _ (abj _ rfl))));let D:(oZ s.heap a e f).get? ⇑s=↑_:=ϲ _ (ϲ _ (ϲ _ (ϲ _ (ϲ _ (abj _ rfl)))));show _/\_;rw[m,n,q]at p;rw[j,l,m]at v;rw[n]at u;rw[l]at y;rw[j]at z;rw[q];show#[#[_,p,rfl],h _ p v u #[_,D,rfl,rfl] #[_,z,rfl,rfl] #[_,y,rfl,rfl] λc o x=>
  ϲ _ (ϲ _ (ϲ _ (ϲ _ (ϲ _ (ϲ _ x)))))]
end
def Gx(K:Ϩ)(l m q:δ):It:=
 #[λi H=>∃xs ys zs x y z,(η K H l xs/\η K H m ys/\η K H q zs)/\xs[i]?=↑x/\ys[i]?=↑y/\zs[i]?=↑z,
  λi H v H'=>∃T x y z,v=.ref T/\H T=none/\H'=upd H T (.tup [x,y,z])/\(∀xs,η K H l xs->xs[i]?=↑x)/\(∀ys,η K H m ys->ys[i]?=↑y)/\∀zs,η K H q zs->zs[i]?=↑z,
  λi H=>∃xs,η K H l xs/\↥xs<=i]
theorem ajc{P:Ϯ}{w:ϭ}{K:Ϩ}{elts:List ϩ}{k:Nat}{pos:Pos}(n l m q:Nat)(g1:l<n)(g2:m<n)(g3:q<n):Turn P w K (.Tuple elts k pos) (Gx K l m q) [n+5,n+3,n+4,n,n+1,n+2] (n+5) (λi h=>IsZip h (n+5) (n+3) (n+4) .none/\dG h (n+3) (.ref n) (.ref (n+1)) (.ref (n+2))/\(∃a b c,dG h (n+4) a b c)/\h.IsListIter n l i/\h.IsListIter (n+1) m i/\h.IsListIter (n+2) q i)where
 mem:=by simp
 obj:=λi h st b g=>by
  let#[p,f,#[a,a',R,j],#[Y,h1,_,d1],#[Z,h2,_,d2],#[o3,u,_,d3]]:=st;simp only[aaB,agq,or_false]at g;obtain e|e|e|e|e|e:=g<;>subst e
  .show#[_,p,λv z=>by cases z]
  .show#[_,f,λv z=>by cases z]
  .show#[_,j,λv z=>by cases z]
  .show#[_,h1,λv z=>by rw[d1]at z;cases z]
  .show#[_,h2,λv z=>by rw[d2]at z;cases z]
  .show#[_,u,λv z=>by rw[d3]at z;cases z]
 keep:=λi h h' st kk=>by
  let#[p,f,#[a,a',R,j],#[Y,h1,r1],#[Z,h2,r2],#[o3,u,r3]]:=st;show#[kk _ (by simp) _ p,kk _ (by simp) _ f,#[a,a',R,kk _ (by simp) _ j],#[Y,kk _ (by simp) _ h1,r1],#[Z,kk _ (by simp) _ h2,r2],#[o3,kk _ (by simp) _ u,r3]]
 item:=by
  intro X hP hw hK hc i ϵ s σ H E I S st hg;subst hP hw hK;let#[p,f,#[a,b,c,j],h1,h2,u]:=id st;let#[xs,ys,zs,x,y,z,#[B,G,J],U,hy,hu]:=hg;let#[Di,Aj,KC,_]:=I.list B;let#[Wh,Ve,aa,_]:=I.list G;let#[Z6,ab,ac,_]:=I.list J;let#[u1,ae,Kd]:=Aj.get U;let#[u2,af,JZ]:=Ve.get hy;let#[u3,ag,Kh]:=ab.get hu;let L:s.TypeIs (.ref (n+5)) "zip":=#[_,p,rfl];unfold pyNext;show ν (wpAny_attempt (aqt (name:=Ϫ "__next__") L F.slot_zip_next (wpAny_call_entry F.slot_zip_next L F.entry_zip_next
   (alT g1 g2 g3 p f j h1 h2 u KC.isList aa.isList ac.isList (~~~ae) (~~~af) (~~~ag) λh' a1 R a3 a4 a5 a6 W=>ϱ ?_) (F.args_zip_next_1 _))))
  show#[_,rfl,?_]*>wpAny_letOwnedTupleGo_zip (s:={s with heap:=h'}) a1 λM ah D=>?_
  let O:⇑s<=⇑s:=Ϭ _;let ai:⇑s≠n+5:=anM (abA p);let vM:IsTup M ⇑s [u1,u2,u3].toArray:=#[_,D.extBut _ _ ai a6,rfl,_,rfl];let al:∀b o,b∉[n+5,n+3,n+4,n,n+1,n+2]->s.heap.get? b=↑o->M.get? b=↑o:=λb o g q=>by
   simp only[aaB,agq,or_false,not_or]at g;show D.extBut _ _ g.1 (W b o g.1 g.2.2.1 g.2.2.2.1 g.2.2.2.2.1 g.2.2.2.2.2 q)
  show#[.ref ⇑s,upd H ⇑s (.tup [x,y,z]),I.GF (ch:=[n+5,n+3,n+4,n,n+1,n+2]) (tk:=s.toks) S O al Ε (.cons Kd (.cons JZ (.cons Kh .nil))) vM,rfl,?_,?_,λb g=>?_]
  .show#[_,x,y,z,rfl,I.hok.fresh O,rfl,λa ha=>?_,λa ha=>?_,λa ha=>?_]
   .rw[<-I.list_inj B ha];show U
   .rw[<-I.list_inj G ha];show hy
   .rw[<-I.list_inj J ha];show hu
  .show#[ah,D.extBut _ _ an (W _ _ an an (an (b:=0)) an an f),#[_,_,_,D.extBut _ _ an R],a3.extBut D.extBut (an (a:=0)),a4.extBut D.extBut an,a5.extBut D.extBut an]
  .have :b≠⇑s:=λq=>by
    obtain⟨o,ho⟩:∃o,s.heap.get? b=↑o:=by
     let#[Y,h1,_]:=h1;let#[Z,h2,_]:=h2;let#[o3,u,_]:=u;simp only[aaB,agq,or_false]at g;obtain e|e|e|e|e|e:=g<;>subst e
     .show#[_,p]
     .show#[_,f]
     .show#[_,j]
     .show#[_,h1]
     .show#[_,h2]
     .show#[_,u]
    show aiF _ (q▸abA ho)
   rw[θ this];show(S b g).1
 done:=by
  intro X hP hw hK hc i ϵ s σ H E I S st hg;subst hP hw hK;let#[p,f,#[a,b,c,j],h1,h2,u]:=st;let#[xs,B,U]:=hg;let#[Di,Aj,KC,_]:=I.list B;let L:s.TypeIs (.ref (n+5)) "zip":=#[_,p,rfl];unfold pyNext;show ν (wpAny_attempt (aqt (name:=Ϫ "__next__") L F.slot_zip_next
   (wpAny_call_entry F.slot_zip_next L F.entry_zip_next (ajw (I.ok.hd hc) g1 p f h1 KC.isList (ajV (by rw[abd, <-↥Aj];show U)) λh' e W he=>?_) (F.args_zip_next_1 _))))
  let#[o,ho,am]:=he;show ν (wpAny_isInstance (T:="StopIteration") (b:=true) #[o,ho,am] isSubtype_stop ?_)*>ϱ #[rfl,I.abi (tk:=s.toks) S λb o g q=>?_];simp only[aaB,agq,or_false,not_or]at g;show W b o g.1 g.2.2.2.1 q
 self:=λA i s Q E st h=>wpAny_pyIter_zip st.1 h
def vals3(r:Vals [x,y,z] us):∃u v w,us=[u,v,w]/\RelV x u/\RelV y v/\RelV z w:=by
 cases r with
 |cons a r=>
  cases r with
  |cons b r=>
   cases r with
   |cons c r=>
    cases r;show#[_,_,_,rfl,a,b,c]
def anZ(F:Gl X "zip")(G:X.mg "zip"=none)(hs:abr [a,b,c] X.env=(false,eval a X.env)::abr [b,c] X.env)(g:abr [b,c] X.env=(false,eval b X.env)::abr [c] X.env)(i:abr [c] X.env=[(false,eval c X.env)])(h:EV X a σ H λy H1=>EV X b σ H1 λz H2=>EV X c σ H2 λB H3=>∃l m q xs ys zs,(y=.ref l/\z=.ref m/\B=.ref q)/\H3 l=↑(.lst xs)/\H3 m=↑(.lst ys)/\H3 q=↑(.lst zs)/\R (Gx X.K l m q) H3):EI X (.Tuple elts k tp) (.Call (.Name "zip" p) [a,b,c] [] pos) σ H R:=by
 intro ϵ s I;let J:EA X [a,b,c] σ H λvs H3=>∃l m q xs ys zs,vs=[.ref l,.ref m,.ref q]/\H3 l=↑(.lst xs)/\H3 m=↑(.lst ys)/\H3 q=↑(.lst zs)/\R (Gx X.K l m q) H3:=
  dw hs (ϙ h λy H1 h1=>dw g (ϙ h1 λz H2 h2=>dw (es:=[]) (by rw[i];rfl) (ϙ h2 λB H3 ⟨l,m,q,xs,ys,zs,⟨e1,L,M⟩,r⟩=>iu #[l,m,q,xs,ys,zs,by rw[e1,L,M],r])))
 show Call_ (jQ I F G boot_zip (PyProof.Rows.callWith_type1 (χ (J pos ϵ s I) λus v O=>?_) hs (by rw[g,i];rfl)));let#[vs,H1,f,r1,l,m,q,xs,ys,zs,e,hl,x,P,Q]:=O;subst e;let#[S,T,U,rfl,W,Y,Z]:=vals3 r1;cases(show S=Value.ref l from W);cases(show T=Value.ref m from Y);cases(show U=Value.ref q from Z);let#[_,Di,n1,Aj,j]:=f.hok l _ hl;let#[_,Wh,n2,Ve,n]:=f.hok m _ x;let#[_,Z6,n3,rv3,D]:=f.hok q _ P;show afa (xs:=Di.toArray) (ys:=Wh.toArray) (zs:=Z6.toArray) #[_,j,rfl,_,rfl] #[_,n,rfl,_,rfl] #[_,D,rfl,_,rfl] λh' h1 h2 h3 h4 h5 h6 hk=>?_
 show wpAny_pyIter_zip h1 ?_*>#[⇑v+5,_,_,_,H1,rfl,f.kept (t':=v.toks) hk,ajc _ l m q (abA j) (abA n) (abA D),#[h1,h2,#[_,_,_,h3],h4,h5,h6],λb E=>?_,Q];let u:⇑v<=b:=by
  simp only[aaB,agq,or_false]at E;obtain e|e|e|e|e|e:=E<;>subst e<;>first|show akD _ _|show Ϭ _
 show f.fpOk u (f.hok.fresh u)
def akB(M:akR ∅ X.A X.env X.xe)(O:X.calm=true)(P:Gl X "zip")(Q:X.mg "zip"=none)(hs:abr [a,b,c] X.env=(false,eval a X.env)::abr [b,c] X.env)(u:abr [b,c] X.env=(false,eval b X.env)::abr [c] X.env)(B:abr [c] X.env=[(false,eval c X.env)])(h:EV X a σ H λI H1=>EV X b σ H1 λJ H2=>EV X c σ H2 λL j=>∃l m q xs ys zs,(I=.ref l/\J=.ref m/\L=.ref q)/\j l=↑(.lst xs)/\j m=↑(.lst ys)/\j q=↑(.lst zs)/\↥ys=↥xs/\↥zs=↥xs/\
   ∃g:Nat->St->Hp->Prop,g 0 σ j/\(∀i σ' H',g i σ' H'->η X.K H' l xs/\η X.K H' m ys/\η X.K H' q zs)/\
   (∀i x y z T σ' H',xs[i]?=↑x->ys[i]?=↑y->zs[i]?=↑z->g i σ' H'->H' T=none->EG X (.Tuple elts k tp) (.ref T) σ' (upd H' T (.tup [x,y,z])) λn H2=>Η X body {D with nx:=g (i+1),ct:=g (i+1),bk:=D.nx} n H2)/\∀σ' H',g ↥xs σ' H'->D.nx σ' H'):SX X (.For (.Tuple elts k tp) (.Call (.Name "zip" p) [a,b,c] [] p') body [] pos) D σ H:=by
 show lV M O (by intro _;rfl) (anZ P Q hs u B (ϙ h λI H1 h1=>ϙ h1 λJ H2 h2=>ϙ h2 λL j R=>?_));let#[l,m,q,xs,ys,zs,e,hl,E,S,ly,lz,g,U,W,F,hd]:=R;show#[l,m,q,xs,ys,zs,e,hl,E,S,λi m σ H=>m=↥xs-i/\i<=↥xs/\g i σ H,#[↥xs,by simp,aeG _,U],?_]
 rintro i m' σ' H' ⟨rfl,hi,G⟩
 let f:=W i σ' H' G;by_cases s:i<↥xs
 .let Y:ys[i]?=↑ys[i]:=ϳ ();let Z:zs[i]?=↑zs[i]:=ϳ ();show .inr #[#[xs,ys,zs,xs[i],ys[i],zs[i],f,ϳ s,Y,Z],g (i+1),λn H2 p2=>#[↥xs-(i+1),(),rfl,s,p2],λv H2 y=>?_];let#[T,x,y,z,e1,e2,e3,e4,e5,e6]:=y;subst e1 e3;show F i x y z T σ' H' (e4 xs f.1) (e5 ys f.2.1) (e6 zs f.2.2) G e2
 .let e:i=↥xs:=()
  show .inl #[#[xs,f.1,()],?_];subst e;show hd σ' H' G
theorem FN:∀{us:List ε}{ys:List Str}{m:Nat}{u:ε},StrsAre us ys->us[m]?=↑u->∃y t,ys[m]?=↑y/\u=.str y t
 |_,_,_,_,.nil,e=>by simp at e
 |_,_,0,u,.cons y t h,e=>by
  simp at e;show#[y,t,rfl,e.symm]
 |_,_,m+1,u,.cons y t h,e=>by
  let#[a,t',e1,c]:=FN h (~~~e);show#[a,t',~~~e1,c]
def ab0{zs:List Str}{z:Str}{j:Nat}(h:η X.K H a (zs.map V.str))(f:zs[j]?=↑z)(c:∀m y,m<j->zs[m]?=↑y->¬y=z)(g:Q (.int j) H):MT X "list.index" (.ref a) [.str z] H Q:=by
 show dH (r:=λx xs H Q=>∃a zs z j,x=.ref a/\xs=[.str z]/\η X.K H a (zs.map V.str)/\zs[j]?=↑z/\(∀m y,m<j->zs[m]?=↑y->¬y=z)/\Q (.int (j:Nat)) H) ?_ #[a,zs,z,j,rfl,rfl,h,f,c,g];intro ϵ s σ H x xs v us Q I rx rs h;let#[a,zs,z,j,rfl,rfl,h,f,c,g]:=h;cases rx;let#[u,rfl,G]:=vals1 rs;let#[t,rfl]:=G;let#[i,r,#[#[cls,dd,data,sl],n,e,E,hd,hs],J]:=I.list h;simp only at E hd hs;subst E hd hs;let p:=aaC r;let l:↥i=↥zs:=by have:=↥r;rw[aaw]at this;show this.symm
 let q:j<i.toArray.size:=by
  rw[abd,l];show(aav.mp f).1
 rw[aaw]at J;let hsz:=ϯ;let L:j<↥zs:=(aav.mp f).1;show aoD F.slot_list_index #[_,e,rfl] F.entry_list_index (F.args_list_index_2 _ _) (SeqAt.list_indexAt a i.toArray n _ sl (.str z t) (isStrOf z) j q () ?_ ?_) #[e,λy M=>(eq_isStrOf z t p y (~~~M)).at _ _,?_]
 .let#[y,t',e1,B]:=FN (m:=j) (u:=i.toArray[j]) p (by simp);rw[B];rw[f]at e1;cases e1;show(z==z)=true;show beq_self_eq_true z
 .intro m O D;let#[y,t',e1,B]:=FN (m:=m) (u:=i.toArray[m]) p (by simp);rw[B];show(y==z)=false;show beq_eq_false_iff_ne.mpr (c m y D e1)
 .show#[.int j,H,I.tok _,#[_,rfl],g]
def ltV:V->V->Bool
 |.int i,.int j=>decide (i<j)
 |.str x,.str y=>decide (x.cps.toList<y.cps.toList)
 |_,_=>false
structure aK(P:Ϯ)(w:ϭ)(K:Ϩ)(mg:MG)(base:ϫ)(cc:Bool)(k:Nat)(C:δ)(m:Str)(ps:List Str)(sp:Sp):Prop where
 cls:Ϣ K C
 ex:∃f fd,Meth K C m f/\Binds K fd ps []/\dF P w K mg base (cJ P w) cc k f fd ps sp
structure nG(P:Ϯ)(w:ϭ)(K:Ϩ)(mg:MG)(base:ϫ)(cc:Bool)(k:Nat)(x:Str)(C:δ)(ps:List Str)(sp:Sp):Prop where
 at_:mg x=↑(.ref C)
 ex:∃f fd,Mk K C f/\Binds K fd ps []/\dF P w K mg base (cJ P w) cc k f fd ps sp
structure vG(P:Ϯ)(w:ϭ)(K:Ϩ)(mg:MG)(base:ϫ)(cc:Bool)(k:Nat)(x m:Str)(ps:List Str)(sp:Sp):Prop where
 ex:∃C f fd,mg x=↑(.ref C)/\asu K C (.type "type")=true/\asv K (.ref C) (.type "type") m=↑(.val (.ref f))/\
  ail K (.ref C) "__getattribute__"=some ↑(.builtin "type.__getattribute__")/\apF K (.ref f)=true/\Binds K fd ps []/\dF P w K mg base (cJ P w) cc k f fd ps sp
section
variable{X:Cx}{σ:St}{H:Hp}{Q:VK}{D:Ends}{x f m:Str}{p np apos pos pos' tpos:Pos}{a e o value:ϩ}{es:List ϩ}{Kx:St->XK}{cc:Bool}{k':Nat}
def aN(h:EV X e σ H λx H1=>∃a C dx fs v,x=.ref a/\H1 a=↑(.ins C dx fs)/\Ϣ X.K C/\Ϗ X.K C f/\fs.lookup f=↑v/\Q v H1)(g:attributeBase e f X.env (eval e X.env)=eval e X.env:=by rfl):EV X (.Attribute e f pos) σ H Q:=by
 intro ϵ s I;show Rp g (χ (h ϵ s I) λu z i=>?_);let#[x,H1,j,rx,a,C,dx,fs,v,ex,m,c,n,l,q]:=i;subst ex;obtain rfl:u=Value.ref a:=rx;show Tv j m c n l λB D p y=>#[v,H1,p,y,q]
theorem gB(h:EV X value σ H λy H1=>EV X o σ H1 λx H2=>∃a C dx fs,x=.ref a/\H2 a=↑(.ins C dx fs)/\Ϣ X.K C/\Ϗ X.K C f/\↥fs<1000/\D.nx σ (upd H2 a (.ins C dx (az f y fs))))(hs:apg value ↑(.Attribute o f pos') pos.line X.env=pure false:=by rfl):SX X (.Assign [.Attribute o f pos'] value pos) D σ H:=
 λϵ s I=>af6 dq dq hs ϵ s σ H D I h
theorem alM(h:EV X o σ H λx H1=>∃a C dx fs v,x=.ref a/\H1 a=↑(.ins C dx fs)/\Ϣ X.K C/\Ϗ X.K C f/\fs.lookup f=↑v/\
   EV X value σ H1 λy H2=>Zv v y H2 λz e=>∃c fs',e a=↑(.ins C c fs')/\↥fs'<1000/\D.nx σ (upd e a (.ins C c (az f z fs')))):SX X (.AugAssign (.Attribute o f tpos) .Add value pos) D σ H:=
 λϵ s I=>alY dq dq amA ϵ s σ H D I h
def cX{pl:Sem Bool}(v:ϗ cc k' X.A)(y:cQ X Kx)(c:abr (e::es) X.env=(false,eval e X.env)::abr es X.env:=by rfl)(g:(backTo pos (abr es X.env)).any (·.1)=false:=by rfl)(z:eval (.Call (.Attribute o m apos) (e::es) [] pos) X.env=(do
   let j<-eval o X.env
   standAt apos.atName
   let(f,first)<-holding [j] (getMethod j m pl)
   callWith pos f first (backTo pos (abr (e::es) X.env)) (backToKw pos (keywordEach [] X.env))):=by rfl)(h:EV X o σ H λx H1=>∃a C dx fs bQ k ps sp,x=.ref a/\H1 a=↑(.ins C dx fs)/\fs.lookup m=none/\aK X.prog X.w X.K X.mg X.base bQ k C m ps sp/\k<=k'/\(bQ=true->cc=true)/\EA X (e::es) σ H1 λvs H2=>sp (x::vs) H2 Q (Kx σ)):EV X (.Call (.Attribute o m apos) (e::es) [] pos) σ H Q:=by
 intro ϵ s I;show ash (pl:=pl) (χ (h ϵ s I) λu B D=>?_) z;let#[x,H1,l,rx,a,C,dx,fs,bQ,k,ps,sp,ex,E,hl,M,G,i,q]:=D;subst ex;cases(show u=Value.ref a from rx);let#[f,fd,n,J,F]:=M.ex;show Q9 l E M.cls n hl ?_*>asM (first:=[.ref a]) (h₀:=X.base) I.ok.mod.kin n.kp (χ (q pos ϵ B l) λus O _u=>_Z.e23 _u λvs H2 p r L=>#[p.kIn,?_]) c g*>uM (us:=.ref a::us) (vs:=.ref a::vs) F ((v.mono G).sG i) J y p (.cons rfl r) L
def rF{pl:Sem Bool}(j:ϗ cc k' X.A)(l:cQ X Kx)(h:EV X o σ H λx H1=>∃a C dx fs bQ k ps sp,x=.ref a/\H1 a=↑(.ins C dx fs)/\fs.lookup m=none/\aK X.prog X.w X.K X.mg X.base bQ k C m ps sp/\k<=k'/\(bQ=true->cc=true)/\sp [x] H1 Q (Kx σ))(n:eval (.Call (.Attribute o m apos) [] [] pos) X.env=(do
   let g<-eval o X.env
   standAt apos.atName
   let(f,first)<-holding [g] (getMethod g m pl)
   callWith pos f first (backTo pos (abr [] X.env)) (backToKw pos (keywordEach [] X.env))):=by rfl):EV X (.Call (.Attribute o m apos) [] [] pos) σ H Q:=by
 intro ϵ s I;show ash (pl:=pl) (χ (h ϵ s I) λu B p=>?_) n;let#[x,H1,c,rx,a,C,dx,fs,bQ,k,ps,sp,ex,v,hl,M,y,e,q]:=p;subst ex;cases(show u=Value.ref a from rx);let#[f,fd,i,z,F]:=M.ex;show Q9 c v M.cls i hl ?_*>W.callWith_K0 (first:=[.ref a]) c.kIn i.kp (uM (us:=[.ref a]) (vs:=[.ref a]) F ((j.mono y).sG e) z l c (.cons rfl .nil) q)
def Fg{pl:Sem Bool}{bQ:Bool}{k:Nat}{sp:Sp}(B:vG X.prog X.w X.K X.mg X.base bQ k x m ps sp)(q:ϗ cc k' X.A)(a:bQ=true->cc=true)(u:cQ X Kx)(h:EA X (e::es) σ H λvs H1=>sp vs H1 Q (Kx σ))(v:k<=k':=by decide)(y:Gl X x:=by rfl)(hd:(x==("__debug__":Str))=false:=by decide)(c:abr (e::es) X.env=(false,eval e X.env)::abr es X.env:=by rfl)(g:(backTo pos (abr es X.env)).any (·.1)=false:=by rfl)(z:eval (.Call (.Attribute (.Name x np) m apos) (e::es) [] pos) X.env=(do
   let n<-eval (.Name x np) X.env
   standAt apos.atName
   let(f,first)<-holding [n] (getMethod n m pl)
   callWith pos f first (backTo pos (abr (e::es) X.env)) (backToKw pos (keywordEach [] X.env))):=by rfl):EV X (.Call (.Attribute (.Name x np) m apos) (e::es) [] pos) σ H Q:=by
 let#[C,f,fd,D,i,E,j,l,G,F]:=B.ex;intro ϵ s I;show ash (pl:=pl) (oY I y D ?_ hd) z*>W.method_cls I.kIn j (W.cls_value I.kIn i E (by rfl) ?_);let J:=I.tok (s.toks+1);show asM (first:=[]) (h₀:=X.base) I.ok.mod.kin l (χ (h pos ϵ _ J) λus M _u=>_Z.e23 _u λvs H2 p r L=>#[p.kIn,?_]) c g*>uM F ((q.mono v).sG a) G u p r L
def ab3(M:Mk X.K C g)(F:dF X.prog X.w X.K X.mg X.base (cJ X.prog X.w) cc k g fd ps sp)(m:ϗ cc (k+1) X.A)(n:Binds X.K fd ps [])(p:cQ X Kx)(I:Inv X ϵ σ H s)(r:Vals vs us)(h:∀y dx,H y=none->H dx=none->dx≠y->sp (.ref y::vs) (upd (upd H dx (.own y)) y (.ins C dx [])) (λv H2=>v=.non/\Q (.ref y) H2) (Kx σ)):π ∅ X.A (call (.ref C) us) (EP X ϵ σ Q) X.xe s:=by
 let x:H (⇑s+1)=none:=I.hok.fresh (ap1 _);let i:H ⇑s=none:=I.hok.fresh (Ϭ _);let q:=h _ _ x i (acu (atv _));let e:=Inv.made (C:=C) I;let l:Vals (V.ref (⇑s+1)::vs) (Value.ref (⇑s+1)::us):=.cons rfl r;let hl:↥(Value.ref (⇑s+1)::us)=↥ps:=by rw[<-↥l];show F.len _ _ _ _ q
 let c:=n {s with heap:=(s.heap.push amj).push (ark C ⇑s)} (Value.ref (⇑s+1)::us) e.kIn (~~~hl);rw[alR]at c;show aqn (af3 (f:=g) I.kIn M.makes M.init (beq_iff_eq.mp M.fn) (ajk (F.run _ X.stack _ _ #[Value.ref (⇑s+1)::us,[]] _ _ _ (Kx σ) (m.make C us []) (e.env0.make C us []) c l q) λj s' a=>?_))
 match j,a with
 |.error z,a=>
   let#[b,cls,d,H',rfl,B,w]:=e.flown a;show p ϵ σ H' s' b cls d B w
 |.ok (.ret u),a=>
   let#[v,H',D,E,G,J]:=e.after a;subst G;show#[E,#[V.ref (⇑s+1),H',D,rfl,J]]
 |.ok .next,a=>show False.elim a
 |.ok .brk,a=>show False.elim a
 |.ok .cont,a=>show False.elim a
def pB(M:nG X.prog X.w X.K X.mg X.base bQ k x C ps sp)(l:ϗ cc k' X.A)(m:k+1<=k')(a:bQ=true->cc=true)(n:cQ X Kx)(h:EA X (e::es) σ H λvs H1=>∀y dx,H1 y=none->H1 dx=none->dx≠y->sp (.ref y::vs) (upd (upd H1 dx (.own y)) y (.ins C dx [])) (λv H2=>v=.non/\Q (.ref y) H2) (Kx σ))(u:Gl X x:=by rfl)(hd:(x==("__debug__":Str))=false:=by decide)(c:abr (e::es) X.env=(false,eval e X.env)::abr es X.env:=by rfl)(g:(backTo pos (abr es X.env)).any (·.1)=false:=by rfl):EV X (.Call (.Name x p) (e::es) [] pos) σ H Q:=by
 let#[f,fd,i,z,F]:=M.ex;intro ϵ s I;show ajT (oY I u M.at_ ?_ hd)*>asM (h₀:=X.base) I.ok.mod.kin i.kp (χ (h pos ϵ s I) λus B _u=>_Z.e23 _u λvs H1 j r q=>#[j.kIn,?_]) c g*>ab3 i F ((l.mono m).sG a) z n j r q
end
def FD(P:Ϯ)(w:ϭ)(K:Ϩ)(mg:MG)(base:ϫ)(cc:Bool)(k:Nat)(m qual:Str)(st:Ϧ)(ps:List Str)(sp:Sp):Prop:=
 ∀f fd,dm K m qual st f fd->Binds K fd ps []/\dF P w K mg base (cJ P w) cc k f fd ps sp
section
variable{P:Ϯ}{w:ϭ}{K:Ϩ}{mg:MG}{base:ϫ}{cc:Bool}{k:Nat}{x m qual:Str}{C:δ}{st:Ϧ}{ps N:List Str}{sp:Sp}
theorem bF(body:∀(f:δ)(a:ε)(A:ϴ)(outer:List Env)(s:μ)(H:Hp)(vs:List V)(Q:VK)(E:XK),ϗ cc k (A.deeper (envOfC qual (υ st) ⇑s f a))->sp vs H Q E->
   let X:=fX cc P w K mg base N qual (υ st) f a A outer s H E;let D:Ends:={nx:=λ_ H'=>Q .non H',rt:=Q};Η X (ϓ st) D (start N vs) H)(S:Ξ N ps (υ st):=by room)(e:∀(kV c pm:ε)(an:Option δ)(a ct:ε)(us:List ε),↥us=↥ps->bindArgs (as3 m qual (kW st) (ϓ st) (υ st) .none kV c pm an a ct) #[us,[]]=pure (ps.zip us):=by walk_at"bb")(len:∀vs H Q E,sp vs H Q E->↥vs=↥ps:=by walk_at"ln"):FD P w K mg base cc (k+1) m qual st ps sp:=
 λf fd F=>#[F.binds e,yE F S len λa A outer s H vs Q E g h=>body f a A outer s H vs Q E g h]
def FD.meth(F:FD P w K mg base cc k m qual st ps sp)(c:Ϣ K C)(O:OM K C m qual st):aK P w K mg base cc k C m ps sp:=by
 let#[f,fd,h1,h2]:=O.ex;show#[c,f,fd,h2,F f fd h1]
def FD.make(F:FD P w K mg base cc k "__init__" qual st ps sp)(a:mg x=↑(.ref C))(O:OI K C qual st):nG P w K mg base cc k x C ps sp:=by
 let#[f,fd,h1,h2]:=O.ex;show#[a,f,fd,h2,F f fd h1]
def FD.asked(F:FD P w K mg base cc k m qual st ps sp)(a:mg x=↑(.ref C))(O:OB K C m qual st):vG P w K mg base cc k x m ps sp:=by
 let#[f,fd,h1,h2]:=O.ex;let#[c,e]:=F f fd h1;show#[C,f,fd,a,O.rd,h2,O.ga,h1.kp,c,e]
end
def fV{X:Cx}{σ:St}{H:Hp}{D:Ends}{k:Nat}{tp pos:Pos}{value:ϩ}(h:EV X value σ H λv H1=>EG X (.Tuple elts k tp) v σ H1 λσ' H'=>D.nx σ' H')(hs:swapsWithSole [.Tuple elts k tp] value pos.line X.env=pure false:=by rfl)(a:swappedStores [.Tuple elts k tp] value X.env=pure none:=by rfl):SX X (.Assign [.Tuple elts k tp] value pos) D σ H:=by
 intro ϵ s I;show Assign_Tuple (χ (h ϵ s I) λu c e=>?_) hs a;let#[v,H1,f,r1,g]:=e;show χ (g ϵ c u f r1) λ_ l z=>by let#[σ',H',i,j]:=z;show #[σ',H',i,j]
theorem adB(e:akR ∅ X.A X.env X.xe)(W:Nat->St->Hp->Prop)(a:Nat)(f:W a σ H)(turn:∀m σ H,W m σ H->ET X c σ H λk H1=>if k=true then ∃N:St->Hp->Prop,(∀σ' H',N σ' H'->∃m',m'<m/\W m' σ' H')/\ Η X body {D with nx:=N,ct:=N,bk:=D.nx} σ H1 else D.nx σ H1):SX X (.While c body [] pos) D σ H:=
 λϵ s I=>akz (X:=X) e ahH GQ ϵ s σ H D I #[W,#[a,f],turn]
theorem uU(h:∀p,H p=none->Q (.ref p) (upd H p (.dK []))):EV X (.Dict [] [] pos) σ H Q:=vN aev h
def Jv(c:X.A.units+1<cLine)(g:aq H a y r)(q:Q (.bl r.isSome) H):OP X (adF .In) y (.ref a) H Q:=by
 show bC (r:=λx z H Q=>∃a o,z=.ref a/\aq H a x o/\Q (.bl o.isSome) H) ?_ #[a,r,rfl,g,q];intro ϵ s σ H x z v u Q I rx e h;let#[a,o,rfl,g,q]:=h;cases(show u=Value.ref a from e);show anp c I g rx λs' f=>#[.bl o.isSome,H,f,rfl,q]
def aiM(c:X.A.units+1<cLine)(g:aq H a y r)(q:Q (.bl (!r.isSome)) H):OP X (adF .NotIn) y (.ref a) H Q:=by
 show bC (r:=λx z H Q=>∃a o,z=.ref a/\aq H a x o/\Q (.bl (!o.isSome)) H) ?_ #[a,r,rfl,g,q];intro ϵ s σ H x z v u Q I rx e h;let#[a,o,rfl,g,q]:=h;cases(show u=Value.ref a from e);show afR c I g rx λs' f=>#[.bl (!o.isSome),H,f,rfl,q]
def jr(f:X.A.units+1<cLine)(h:EV X value σ H λv H1=>EV X o σ H1 λx H2=>EV X i σ H2 λy e=>∃a c,x=.ref a/\dW e a y v c/\D.nx σ c)(hs:apg value ↑(.Subscript o i pos') pos.line X.env=pure false:=by rfl):SX X (.Assign [.Subscript o i pos'] value pos) D σ H:=by
 intro ϵ s I;show wpAny_Assign_Subscript (χ (h ϵ s I) λr j _u=>_Z.e23 _u λv H1 l m n=>χ (n ϵ j l) λu p _u=>_Z.e23 _u λx H2 q rx z=>χ (z ϵ p q) λJ L B=>?_) hs;let#[y,e,E,ry,a,c,ex,g,F]:=B;subst ex;obtain rfl:u=Value.ref a:=rx;show acH f E g ry m λM G=>#[σ,c,G,F]
def ah5(i:X.A.units+1<cLine)(m:M1 X o "get" apos e cpos)(h:EV X o σ H λx H1=>∃a,x=.ref a/\pH H1 a/\EV X e σ H1 λy H2=>∃o,aq H2 a y o/\Q (o.getD .non) H2):EV X (.Call (.Attribute o "get" apos) [e] [] cpos) σ H Q:=by
 intro ϵ s I;show wpAny_Call_method m.base m.few m.line F.plainAttrs_dict F.slot_dict_get F.type_dict_get (χ (h ϵ s I) λu j l=>?_);let#[x,H1,f,rx,a,ex,d,n]:=l;subst ex;obtain rfl:u=Value.ref a:=rx;let#[p,q,_]:=MJ f d;show#[p,q,?_];rw[m.trees];show Calls.callWith_builtin rfl (Calls.evalArgs_plain (Calls.spliced_cons (χ (n ϵ j f) λD E ⟨y,H2,v,ry,G,g,z⟩=>Calls.spliced_nil ?_)))*>aoh i v g ry λJ L B c=>#[_,H2,B,c,z]
def Av(h:EV X o σ H λx H1=>∃a,x=.ref a/\pH H1 a/\EV X e σ H1 λy H2=>∃Ϸ k v,H2 a=↑(.dK Ϸ)/\y=kV k/\aA Ϸ k=↑v/\Q v (upd H2 a (.dK (gf Ϸ k))))(m:M1 X o "pop" apos e cpos:=by constructor<;>rfl):EV X (.Call (.Attribute o "pop" apos) [e] [] cpos) σ H Q:=by
 intro ϵ s I;show wpAny_Call_method m.base m.few m.line F.plainAttrs_dict F.slot_dict_pop F.type_dict_pop (χ (h ϵ s I) λu g i=>?_);let#[x,H1,f,rx,a,ex,d,j]:=i;subst ex;obtain rfl:u=Value.ref a:=rx;let#[n,p,_]:=MJ f d;show#[n,p,?_];rw[m.trees];show Calls.callWith_builtin rfl (Calls.evalArgs_plain (Calls.spliced_cons (χ (j ϵ g f) λG J ⟨y,H2,q,ry,Ϸ,k,v,z,B,l,D⟩=>Calls.spliced_nil ?_)));subst B;show agp q z ry l (.inl rfl) λL M E c=>#[v,_,E,c,D]
def afZ(e:H a=↑(.dK Ϸ))(q:∀p,H p=none->Q (.ref p) (upd H p (.dK Ϸ))):CL X (.type "dict") [.ref a] H Q:=by
 show dZ (r:=λxs H Q=>∃a Ϸ,xs=[V.ref a]/\H a=↑(.dK Ϸ)/\∀p,H p=none->Q (.ref p) (upd H p (.dK Ϸ))) ?_ #[a,Ϸ,rfl,e,q];intro ϵ s σ H xs us Q I r h;let#[a,Ϸ,rfl,e,q]:=h;let#[u,rfl,c]:=vals1 r;cases(show u=Value.ref a from c);show aeW I (.inl e) λp s' f g=>#[.ref p,_,g,rfl,q p f]
end _L
namespace _M
open PySem
abbrev SGs:Str:=Ϫ "-0123456789abcdefghijklmnopqrstuvwxyz"
abbrev vW:Str:=Ϫ "abcdefghijklmnopqrstuvwxyz0123456789-"
def SG:List Nat:=SGs.cps.toList
def TS:List Nat:=vW.cps.toList
def Gq:∀c∈SG,c∈TS:=by fin2
def tb:List Nat->List Nat->Bool
 |[],[]=>false
 |[],_::_=>true
 |_::_,[]=>false
 |x::xs,y::ys=>if x=y then tb xs ys else decide (SG.idxOf x<SG.idxOf y)
end _M
namespace _L
open PySem PySem.Spec PyProof.Rows
def Zw{α:Type}{xs:List α}{f:α->V}{i:Int}(d:α)(a:0<=i)(h1:i<↥xs):Θ (xs.map f) i=↑(f (xs.getD i.toNat d)):=by
 let e:i=((i.toNat:Nat):Int):=()
 let hl:i.toNat<↥xs:=()
 let h2:(xs.map f)[i.toNat]?=↑(f (xs.getD i.toNat d)):=by
  rw[abD,ϳ hl];simp[hl]
 have:=ϔ h2;rw[<-e]at this;show this
def Yj{α:Type}{xs:List α}{i:Int}(a:0<=i)(h1:i<↥xs):∃v,Θ xs i=↑v/\v∈xs:=by
 let hl:i.toNat<↥xs:=()
 let e:i=((i.toNat:Nat):Int):=()
 have:=ϔ (ϳ hl);rw[<-e]at this;show#[_,this,afz hl]
theorem Tq:∀l:List Nat,((l.map λc=>(#[#v[c]]:Str)).map (·.length)).sum=↥l
 |[]=>rfl
 |c::r=>by
  rw[acY,acY,ao4,Tq r,acD];show 1+↥r=_;omega
theorem O3:∀l:List Nat,ad2 ("":Str) (l.map λc=>#[#v[c]])=#[l.toArray]
 |[]=>rfl
 |[c]=>rfl
 |c::d::r=>by
  let a:=O3 (d::r);show(#[#v[c]]:Str)++Ϫ ""++ad2 ("":Str) ((d::r).map λc=>#[#v[c]])=_;rw[a];let e:("":Str)=#[#v[]]:=by fin2
  rw[e];show(#[(#v[c]++ #v[])++(d::r).toArray]:Str)=#[(c::d::r).toArray];simp
def gM{x y:Str}(h:x.cps.toList=y.cps.toList):x=y:=by
 let#[#[a]]:=x;let#[#[b]]:=y;simp only at h;rw[h]
def bJ(x y:Str):(x++y).cps.toList=x.cps.toList++y.cps.toList:=by
 show(x.cps++y.cps).toList=_;simp
def len_list(z:Str):↥z=↥z.cps.toList:=by simp[asr]
def len_app(x y:Str):↥(x++y)=↥x+↥y:=by rw[len_list,bJ,abp,len_list,len_list]
def v7(z:Str)(lo hi:Option Int):↥(ϐ z lo hi)<=↥z:=by
 unfold ϐ asr;simp;omega
def yR(z:Str)(lo hi:Option Int):(ϐ z lo hi).cps.toList=(z.cps.toList.drop (_H.Ζ ↥z 0 lo)).take (_H.Ζ ↥z ↥z hi-_H.Ζ ↥z 0 lo):=by
 unfold ϐ;simp
def CV(z:Str)(k:Nat):(ϐ z ↑(k:Int) none).cps.toList=z.cps.toList.drop k:=by
 rw[yR,_H.mL,_H.sS];let hl:=len_list z;by_cases h:k<=↥z
 .rw[aiU h,agJ (by rw[adu];omega)]
 .let h':↥z<=k:=()
  rw[asG h',asI (),asI ()];simp
def Be(z:Str)(k:Nat):(ϐ z none ↑(k:Int)).cps.toList=z.cps.toList.take k:=by
 rw[yR,_H.mL,_H.sS,alI,arB];let hl:=len_list z;by_cases h:k<=↥z
 .rw[aiU h]
 .let h':↥z<=k:=()
  rw[asG h',agJ (),agJ ()]
def TX(z:Str)(c:Nat):Txt.startswith z #[#v[c]]=decide (z.cps.toList[0]?=↑c):=by
 rw[ags,decide_eq_true_eq, <-StrLaws.subAt_one];unfold Txt.startswith
 rw[aaO,decide_eq_true_eq]
end _L
namespace _V
open PySem _L PyProof.Rows _M NumText
def scalar:V->Bool
 |.non|.int _|.str _=>true
 |_=>false
def ud:V->Bool
 |.int _=>true
 |_=>false
def isNum:V->Bool
 |.int i=>decide (-1000000000000000000<=i/\i<=1000000000000000000)
 |_=>false
def eV(z g:Str):Bool:=z.cps.toList.all λc=>decide (c∈g.cps.toList)
def jh:V->Bool
 |.str z=>decide (↥z<=20)&&eV z vW
 |_=>false
def isVal(kind:Str):V->Bool
 |.non=>true
 |v=>if kind="number" then isNum v else jh v
def before:V->V->Bool
 |_,.non=>false
 |.non,_=>true
 |.int i,.int j=>decide (i<j)
 |.str x,.str y=>decide (x.cps.toList<y.cps.toList)
 |_,_=>false
def short:V->Prop
 |.str z=>↥z<=4000
 |_=>True
inductive Tg:Sp
 |mk (v):vs=[v]->scalar v=true->Q (.bl (ud v)) H
inductive Vs:Sp
 |mk (z g:Str):vs=[.str z,.str g]->↥z<=4000->(∀H',ζ H H'->Q (.bl (eV z g)) H')
inductive RV:Sp
 |mk (v):vs=[v]->scalar v=true->Q (.bl (isNum v)) H
inductive Rx:Sp
 |mk (v):vs=[v]->scalar v=true->short v->(∀H',ζ H H'->Q (.bl (jh v)) H')
inductive abH:Sp
 |mk (k:Str) (v:V):vs=[.str k,v]->scalar v=true->short v->(∀H',ζ H H'->Q (.bl (isVal k v)) H')
inductive RL:Sp
 |mk (x y:V):vs=[x,y]->(x=.non\/y=.non\/(∃i j,x=.int i/\y=.int j)\/∃i j,x=.str i/\y=.str j)->Q (.bl (before x y)) H
def tU(c:Nat):Bool:=decide (48<=c/\c<=57)
abbrev DR:Str:=Ϫ "0123456789"
def abU:∀c:Nat,c∈DR.cps.toList↔(48<=c/\c<=57):=by
 intro c;let e:DR.cps.toList=List.range' 48 10:=by fin2
 rw[e,List.mem_range'_1];omega
def anI(z:Str):eV z DR=z.cps.toList.all tU:=by
 unfold eV tU
 congr 1
 funext c;rw[decide_eq_decide];show abU c
def dR(l:List Nat):Bool:=decide (l=[48])||(decide (l≠[])&&(decide (l[0]? ≠↑48)&&l.all tU))
def tH(l:List Nat):Bool:=if l[0]?=↑45 then decide (l.drop 1≠[48])&&dR (l.drop 1)else dR l
def oM(l:List Nat):Int:=if l[0]?=↑45 then -((digitsVal (l.drop 1):Nat):Int)else((digitsVal l:Nat):Int)
def T8(h:dR l=true):AllDigits l/\l≠[]:=by
 unfold dR at h;rw[aqC,aaO,aaO,decide_eq_true_eq,decide_eq_true_eq]at h;obtain h|⟨h1,_,h2⟩:=h
 .subst h;show#[λc a=>by simp at a;omega,by simp]
 .show#[λc a=>of_decide_eq_true (acL.mp h2 c a),h1]
def iw(l:List Nat):Option Int:=if tH l=true/\↥l<=20/\ -1000000000000000000<=oM l/\oM l<=1000000000000000000 then some (oM l)else none
def jF(z:Str):Option Str:=if z.cps.toList[0]?=↑39/\jh (.str (ϐ z ↑1 none))=true then some (ϐ z ↑1 none)else none
def vZ:Option Int->Option V
 |some i=>↑(.int i)
 |none=>none
def Bj:Option Str->Option V
 |some i=>↑(.str i)
 |none=>none
def eU(kind word:Str):Option V:=if word="?" then some .non else if kind="number" then vZ (iw word.cps.toList)else Bj (jF word)
def wordOf:V->Str
 |.non=>"?"
 |.str z=>Ϫ "'"++z
 |.int i=>Ϫ (toString i)
 |_=>""
inductive UW:Sp
 |mk (v):vs=[v]->scalar v=true->short v->(∀i,v=.int i->i.natAbs.log2<1920)->Q (.str (wordOf v)) H
inductive aau:Sp
 |mk (z):vs=[.str z]->↥z<=4000->(∀H',ζ H H'->Q (.bl (dR z.cps.toList)) H')
def oF(c:ε)(r:Option V)(H:Hp)(Q:VK)(E:XK):=∀H',ζ H H'->match r with
 |some v=>Q v H'
 |none=>E c (none,true) H'
inductive Bc(c:ε):Sp
 |mk (z):vs=[.str z]->↥z<=4000->oF c (vZ (iw z.cps.toList)) H Q E
inductive Cu(c:ε):Sp
 |mk (z):vs=[.str z]->↥z<=4000->oF c (Bj (jF z)) H Q E
inductive zP(c:ε):Sp
 |mk (k) (z):vs=[.str k,.str z]->↥z<=4000->oF c (eU k z) H Q E
def bD(n:Nat)(z:Str):Prop:=↥z<=n/\∀c∈z.cps.toList,c<1114112
theorem bD.mono(h:bD n z)(a:n<=m):bD m z:=#[ad7 h.1 a,h.2]
theorem bD.app(h:bD n x)(g:bD m y):bD (n+m) (x++y):=#[by rw[len_app];have:=h.1;have:=g.1;omega,λc a=>by
 rw[bJ]at a;obtain z|z:=adH.mp a
 .show h.2 c z
 .show g.2 c z]
def bD.lay(h:bD n z):(PyData.str z).canLay0=true:=by
 show PyData.strOk z=true;unfold PyData.strOk;rw[Array.all_eq_true_iff_forall_mem];intro c a;show decide_eq_true (h.2 c (~~~a))
theorem bD.sg(hl:↥z<=n)(h:∀c∈z.cps.toList,c∈SG):bD n z:=#[hl,λc a=>by
 have:∀c∈SG,c<1114112:=by fin2
 show this c (h c a)]
def dV:V->aoL
 |.bl b=>.bool b
 |.int i=>.int i
 |.str x=>.str x
 |_=>.none
def ie:V->Bool
 |.non|.int _|.str _|.bl _=>true
 |_=>false
def GK{K:PySem.W.Frag}{v:V}(h:ie v=true):RD K H v (dV v):=by
 cases v with
 |non=>show .non
 |bl b=>show .bl b
 |int i=>show .int i
 |str x=>show .str x
 |_=>cases h
theorem Dd{K:PySem.W.Frag}:∀{xs:List V},xs.all ie=true->cC K H xs (xs.map dV)
 |[],_=>.nil
 |x::xs,h=>by
  rw[asD,aaO]at h;show .cons (GK h.1) (Dd h.2)
def iU{i:Int}(h:i.natAbs<10^60):i.natAbs.log2<1920:=by
 by_cases a:i.natAbs=0
 .rw[a];decide
 .rw[Nat.log2_lt a];show acp h ?_;fin2
theorem nJ(m:Nat):(Ϫ (toString ((m:Nat):Int))).cps.toList=(aum 10 m).map Char.toNat:=PySem.W.KIN.signs_num m
def qY(m:Nat):∀c∈(Ϫ (toString ((m:Nat):Int))).cps.toList,48<=c/\c<=57:=by
 rw[nJ];intro c a;let#[d,hd,rfl]:=abt.mp a;have:=Nat.isDigit_of_mem_toDigits (b:=10) (n:=m) (by decide) (by decide) hd;simp only[Char.isDigit,aaO,decide_eq_true_eq]at this;let h1:(48:UInt32).toNat<=d.val.toNat:=this.1;let h2:d.val.toNat<=(57:UInt32).toNat:=this.2;show#[h1,h2]
def j7(a:1<=k)(h:m<10^k):↥(Ϫ (toString ((m:Nat):Int)))<=k:=by
 rw[_L.len_list,nJ,aaw];show PyProof.Rows.digits10_le a h
def Am(m:Nat)(h:0<m):Ϫ (toString (-((m:Nat):Int)))=Ϫ "-"++Ϫ (toString ((m:Nat):Int)):=by
 obtain⟨k,rfl⟩:∃k,m=k+1:=#[m-1,()];let e:(-((k+1:Nat):Int))=Int.negSucc k:=rfl;rw[e];apply gM;rw[bJ];rw[PyProof.Rows.signs_ofString,PyProof.Rows.signs_ofString,PyProof.Rows.signs_ofString];show(("-"++Nat.repr (k+1)).toList.map Char.toNat)="-".toList.map Char.toNat++(Nat.repr (k+1)).toList.map Char.toNat;rw[String.toList_append,aqK]
end _V
namespace _W
open PySem _L PyProof.Rows _M NumText
def Cp(ns:List Int)(k:Int):Int:=if 0<↥ns then ns.getD (k % (↥ns:Int)).toNat 0 else 0
def ϒ(ns:List Int)(k m:Int):Int:=(Cp ns k % 1000003+31*k*k+1)*48271 % 999983*7919 % 524287 % m
theorem aV(ns:List Int)(k:Int)(h:0<m):0<=ϒ ns k m:=ah8 _ ()
theorem bh(ns:List Int)(k:Int)(h:0<m):ϒ ns k m<m:=agT _ h
inductive Wq(K:PySem.W.Frag):Sp
 |mk (a:δ) (ns:List Int) (k m:Int):vs=[.ref a,.int k,.int m]->η K H a (ns.map V.int)->↥ns<=63->0<=k->k<=100000->0<m->Q (.int (ϒ ns k m)) H
end _W
namespace _V
open PySem _L PyProof.Rows _M NumText
inductive ρ {α β:Type} (R:α->β->Prop):List α->List β->Prop
 |nil:ρ R [] []
 |cons {a:α} {b:β} {l:List α} {m:List β}:R a b->ρ R l m->ρ R (a::l) (b::m)
section
variable{α β:Type}{R S:α->β->Prop}{l l':List α}{m m':List β}
def ρ.len(h:ρ R l m):↥l=↥m:=by
 induction h with
 |nil=>rfl
 |cons _ _ a=>rw[acD,acD,a]
def ρ.imp(f:∀a b,R a b->S a b)(h:ρ R l m):ρ S l m:=by
 induction h with
 |nil=>show .nil
 |cons r _ c=>show .cons (f<*r) c
def ρ.get(h:ρ R l m){i:Nat}(e:l[i]?=↑a):∃b,m[i]?=↑b/\R a b:=by
 induction h generalizing i with
 |nil=>cases e
 |cons r _ c=>
  cases i with
  |zero=>cases e;show#[_,rfl,r]
  |succ i=>show c e
def ρ.get'(h:ρ R l m){i:Nat}(e:m[i]?=↑b):∃a,l[i]?=↑a/\R a b:=by
 induction h generalizing i with
 |nil=>cases e
 |cons r _ c=>
  cases i with
  |zero=>cases e;show#[_,rfl,r]
  |succ i=>show c e
def ρ.app(h:ρ R l m)(g:ρ R l' m'):ρ R (l++l') (m++m'):=by
 induction h with
 |nil=>show g
 |cons r _ a=>show .cons r a
def ρ.drop(n:Nat)(h:ρ R l m):ρ R (l.drop n) (m.drop n):=by
 induction h generalizing n with
 |nil=>cases n<;>show .nil
 |cons r t a=>
  cases n with
  |zero=>show .cons r t
  |succ n=>show a n
def ρ.take(n:Nat)(h:ρ R l m):ρ R (l.take n) (m.take n):=by
 induction h generalizing n with
 |nil=>cases n<;>show .nil
 |cons r _ a=>
  cases n with
  |zero=>show .nil
  |succ n=>show .cons r (a n)
end
abbrev ι:=Str×Str
def uD(H:Hp)(v:V)(c:ι):=∃t,v=.ref t/\H t=↑(.tup [.str c.1,.str c.2])
def uD.same(h:uD H v c)(s:ζ H H'):uD H' v c:=by
 let#[t,e,q]:=h;show#[t,e,s<*q]
def Χ(H:Hp)(a:δ)(cs:List ι):=∃vs:List V,H a=↑(.lst vs)/\ρ (uD H) vs cs
def Χ.same(h:Χ H a cs)(s:ζ H H'):Χ H' a cs:=by
 let#[vs,e,q]:=h;show#[vs,s<*e,q.imp λa b r=>r.same s]
abbrev ji:Str:=Ϫ "abcdefghijklmnopqrstuvwxyz"
def isName(z:Str):Bool:=decide (1<=↥z/\↥z<=8)&&eV z ji
def oU(k:Str):Bool:=decide (k="number"\/k="text")
def Ψ(cs:List ι):Bool:=decide (1<=↥cs/\↥cs<=6)&&(cs.all λc=>isName c.1&&oU c.2)&&decide ((cs.map Prod.fst).Nodup)
inductive Ni:Sp
 |mk (z):vs=[.str z]->↥z<=4000->(∀H',ζ H H'->Q (.bl (isName z)) H')
def Lr(cs:List ι):=∀c∈cs,↥c.1<=4000/\↥c.2<=4000
inductive yP(c:ε):Sp
 |mk (a) (cs):vs=[.ref a]->Χ H a cs->↥cs<=4000->Lr cs->(∀H',ζ H H'->if Ψ cs=true then Q .non H' else E c (none,true) H')
def gY:List ι->Str->Nat->V
 |[],_,_=>.non
 |c::r,z,i=>if c.1=z then .int i else gY r z (i+1)
inductive Wg:Sp
 |mk (a) (cs) (z):vs=[.ref a,.str z]->Χ H a cs->(∀H',ζ H H'->Q (gY cs z 0) H')
def W4:V->Bool
 |.int i=>decide (0<=i/\i<=1000000000)
 |_=>false
inductive aa9:Sp
 |mk (v):vs=[v]->scalar v=true->Q (.bl (W4 v)) H
def qx:List ι->List V->Bool
 |c::cs,v::vs=>isVal c.2 v&&qx cs vs
 |_,_=>true
def yU(cs:List ι)(v:V)(xs:List V):Bool:=W4 v&&decide (↥xs=↥cs)&&qx cs xs
inductive YB:Sp
 |mk (a) (cs) (v) (b) (xs):vs=[.ref a,v,.ref b]->Χ H a cs->↥cs<=4000->scalar v=true->H b=↑(.lst xs)->(∀x∈xs,scalar x=true/\short x)->(∀H',ζ H H'->Q (.bl (yU cs v xs)) H')
theorem yW:∀{xs:List V},(∀x∈xs,ie x=true/\∀z,x=.str z->bD 4000 z)->(PyData.list (xs.map dV)).canLay0=true
 |[],_=>rfl
 |x::xs,h=>by
  let a:=yW (xs:=xs) λd hd=>h d (by simp[hd])
  let h1:(dV x).canLay0=true:=by
   let#[hs,c]:=h x (by simp);cases x with
   |str z=>show(c z rfl).lay
   |_=>rfl
  show((dV x).canLay0&&PyData.canLayAll0 (xs.map dV))=true;rw[h1];show a
theorem zQ:∀xs:List V,PyData.depthAll (xs.map dV)<=1
 |[]=>by show(0:Nat)<=1;omega
 |x::xs=>by
  let a:=zQ xs;let h1:(dV x).depth<=1:=by cases x<;>(show(_:Nat)<=1;show arf rfl)
  show max (dV x).depth (PyData.depthAll (xs.map dV))<=1;omega
def afL(xs:List V)(k:Nat):cG xs none ↑(k:Int)=xs.take k:=by
 unfold cG;rw[_H.sS,_H.mL];show((xs.drop 0).take (min k ↥xs-0))=_;rw[alI,arB,List.take_eq_take_iff];omega
def aaP(xs:List V)(k:Nat):cG xs ↑(k:Int) none=xs.drop k:=by
 unfold cG;rw[_H.sS,_H.mL];by_cases h:k<=↥xs
 .rw[show min k ↥xs=k from aiU h];show agJ (by rw[adu];show Ϭ _)
 .rw[show min k ↥xs=↥xs from asG (),aqU (Ϭ _),aqU ()];simp
end _V
namespace _V
open PySem _L PyProof.Rows _M NumText
def aY:List Nat->Int
 |[]=>0
 |c::r=>((c:Int)+137*aY r) % 9973
theorem qy:∀l,0<=aY l/\aY l<9973
 |[]=>by decide
 |c::r=>#[ah8 _ (by decide),agT _ (by decide)]
def air(t p y m:Int):(t+p*(y % m)) % m=(t+p*y) % m:=by
 rw[asN,asO,atf, <-asO, <-asN]
def alp(a b r m:Int):(a % m+b % m*r) % m=(a+b*r) % m:=by
 rw[asN,asO,atf,atf, <-asO, <-asN]
def Z9(h:(t+p*aY (c::r)) % 9973=v):((t+(c:Int)*p) % 9973+p*137 % 9973*aY r) % 9973=v:=by
 rw[alp, <-h];show _=(t+p*(((c:Int)+137*aY r) % 9973)) % 9973;rw[air]
 congr 1
 rw[Int.mul_add,Int.mul_comm (c:Int) p,Int.mul_assoc,Int.add_assoc]
def c7(n:Int):Str:=Txt.zfill (Ϫ (toString n)) 4
def Dz(l:List Nat):Nat:=l.foldl (λa c=>a*10+(c-48)) 0
def yc(n:Nat):Bool:=decide (↥(c7 n)=4)&&((c7 n).cps.toList.all tU&&decide (Dz (c7 n).cps.toList=n))
theorem Y9(l:List Nat):∀k:Nat,Dz (ahh k 48++l)=Dz l
 |0=>rfl
 |k+1=>by
  rw[aqg];show Y9 l k
def Ra{n:Nat}(h:n<10000):(c7 n).cps.toList=ahh (4-↥(Ϫ (toString (n:Int)))) 48++(Ϫ (toString (n:Int))).cps.toList:=by
 let hd:=qY n;let hl:=j7 (m:=n) (k:=4) (by decide) h;let f:(Ϫ (toString (n:Int))).cps.toList≠[]:=by
  rw[nJ];simp[asi]
 unfold c7 Txt.zfill;generalize Ϫ (toString (n:Int))=x at hd hl f⊢;let i:=_L.len_list x;split
 .rename_i j;have:4-↥x=0:=()
  rw[this];rfl
 .unfold zfilled;let#[c,r,e]:=asl f;let g:x.cps[0]?=↑c:=by rw[<-arD,e];rfl
  let l:=hd c (by rw[e];simp);let p:((4:Int).toNat-↥x)=4-↥x:=rfl;rw[g];split
  .rename_i a;cases a;omega
  .rename_i a;cases a;omega
  .unfold Builtin.Str.padded;simp
def Qw(n:Nat)(h:n<9973):yc n=true:=by
 let hd:=qY n;let hl:=j7 (m:=n) (k:=4) (by decide) ();let e:=Ra (n:=n) ();let f:=_L.len_list (Ϫ (toString (n:Int)));unfold yc;rw[_L.len_list,e,Y9,abp,arq,decide_eq_true (),amk,aaO,acL,decide_eq_true_eq];show#[λc a=>?_,?_]
 .obtain z|z:=adH.mp a
  .have :=asw z;subst this;rfl
  .show decide_eq_true (hd c z)
 .rw[nJ];show PySem.W.KIN.val_back n
inductive Xr:Sp
 |mk (z):vs=[.str z]->↥z<=100000->(∀c∈z.cps.toList,c<1114112)->Q (.int (aY z.cps.toList)) H
inductive Vh:Sp
 |mk (z):vs=[.str z]->↥z<=100000->(∀c∈z.cps.toList,c<1114112)->Q (.str (c7 (aY z.cps.toList))) H
theorem YF:∀(r:List Nat)(a:Nat),a*10^↥r<=r.foldl (λe c=>e*10+(c-48)) a
 |[],a=>by simp
 |c::r,a=>by
  let f:=YF r (a*10+(c-48));rw[aiR,acD,Nat.pow_succ];show ad7 ?_ f;let h1:a*(10^↥r*10)=a*10*10^↥r:=by rw[aul (10^↥r) 10,Nat.mul_assoc]
  rw[h1];show asY _ (akD _ _)
def Vb(h:dR l=true)(h1:l≠[48]):10^(↥l-1)<=digitsVal l:=by
 let#[hd,a]:=T8 h;cases l with
 |nil=>show absurd rfl a
 |cons c r=>
  let g:=hd c ad8;let f:c≠48:=by
   intro e;subst e;unfold dR at h;rw[decide_eq_false h1,atg]at h;simp at h
  have:=YF r (0*10+(c-48));let i:1*10^↥r<=(0*10+(c-48))*10^↥r:=asY _ ();unfold digitsVal;rw[aiR];show 10^↥r<=_;omega
def Mf(h:dR l=true)(f:((digitsVal l:Nat):Int)<=m)(g:m<((10^k:Nat):Int))(h1:1<=k):↥l<=k:=by
 by_cases e:l=[48]
 .subst e;show h1
 .let h2:=Vb h e;let c:10^(↥l-1)<10^k:=()
  let i:=(Nat.pow_lt_pow_iff_right (a:=10) (by decide)).mp c;omega
def YM(h:dR l=true):digitsVal l=0↔l=[48]:=by
 constructor
 .intro e;show Classical.byContradiction λn=>?_
  let h2:=Vb h n;let a:0<10^(↥l-1):=Nat.pow_pos (by decide);omega
 .intro e;subst e;rfl
def iz(l:List Nat)(m:Int):Option Int:=if dR l=true/\((digitsVal l:Nat):Int)<=m then some ((digitsVal l:Nat):Int)else none
def Jl:Option Int->V
 |none=>.non
 |some i=>.int i
inductive Wv:Sp
 |mk (z:Str) (m:Int) (k:Nat):vs=[.str z,.int m]->↥z<=4000->0<=m->m.natAbs<10^60->↥(Ϫ (toString m))=k->m<((10^k:Nat):Int)->1<=k->k<=600->(∀H',ζ H H'->Q (Jl (iz z.cps.toList m)) H')
def YL(a:¬l[0]?=↑45):iw l=iz l 1000000000000000000:=by
 unfold iw iz tH oM;rw[if_neg a,if_neg a];by_cases h:dR l=true/\((digitsVal l:Nat):Int)<=1000000000000000000
 .have :=Mf (k:=19) h.1 h.2 (by decide) (by decide);rw[if_pos h,if_pos #[h.1,(),(),h.2]]
 .rw[if_neg h,if_neg λx=>h #[x.1,x.2.2.2]]
theorem ad4{l:List Nat}(a:l[0]?=↑45):iw l=match iz (l.drop 1) 1000000000000000000 with
  |some i=>if i=0 then none else some (-i)
  |none=>none:=by
 unfold iw iz tH oM;rw[if_pos a,if_pos a];let hl:↥l=↥(l.drop 1)+1:=by
  cases l with
  |nil=>simp at a
  |cons c r=>simp
 rw[hl];generalize l.drop 1=r;by_cases h:dR r=true/\((digitsVal r:Nat):Int)<=1000000000000000000
 .let h2:=Mf (k:=19) h.1 h.2 (by decide) (by decide);let g:=YM h.1;rw[if_pos h];show _=if((digitsVal r:Nat):Int)=0 then none else some (-((digitsVal r:Nat):Int));by_cases e:r=[48]
  .let f:((digitsVal r:Nat):Int)=0:=by have:=g.mpr e;omega
   rw[if_pos f];show if_neg λx=>?_
   rw[aaO,decide_eq_true_eq]at x;show x.1.1 e
  .let f:¬((digitsVal r:Nat):Int)=0:=λz=>e (g.mp ())
   rw[if_neg f];show if_pos #[by rw[decide_eq_true e,h.1];rfl,(),(),()]
 .rw[if_neg h];show if_neg λx=>?_
  rw[aaO]at x;show h #[x.1.2,()]
end _V
namespace _V
open PySem _L PyProof.Rows _M NumText
def R1{n:Int}(h:n.natAbs<10^60):↥(Ϫ (toString n))<=70:=by
 by_cases a:0<=n
 .let#[m,rfl]:=abz a;have:=j7 (m:=m) (k:=60) (by decide) (~~~h);omega
 .let e:n= -((n.natAbs:Nat):Int):=()
  rw[e,Am n.natAbs (),len_app];have:=j7 (m:=n.natAbs) (k:=60) (by decide) h;let c:↥("-":Str)=1:=by fin2
  omega
end _V
namespace _V
open PySem _L PyProof.Rows _M NumText
abbrev Ord:=Str×Bool
def xu(H:Hp)(v:V)(o:Ord):=∃t,v=.ref t/\H t=↑(.tup [.str o.1,.bl o.2])
def xu.same(h:xu H v o)(s:ζ H H'):xu H' v o:=by
 let#[t,e,q]:=h;show#[t,e,s<*q]
def aL(H:Hp)(a:δ)(os:List Ord):=∃vs:List V,H a=↑(.lst vs)/\ρ (xu H) vs os
def aL.same{a:δ}{os:List Ord}(h:aL H a os)(s:ζ H H'):aL H' a os:=by
 let#[vs,e,q]:=h;show#[vs,s<*e,q.imp λa b r=>r.same s]
def j9{α β:Type}(f:α->Option β):List α->Option (List β)
 |[]=>some []
 |x::r=>match f x,j9 f r with
  |some y,↑ys=>↑(y::ys)
  |_,_=>none
theorem U7{α β:Type}{f:α->Option β}:∀{l:List α}{x:α},x∈l->f x=none->j9 f l=none
 |y::r,x,h,e=>by
  unfold j9;obtain z|z:=aaB.mp h
  .subst z;rw[e]
  .rw[U7 z e];cases f y<;>rfl
 |[],x,h,_=>by simp at h
theorem Ox{α β:Type}{f:α->Option β}:∀{l:List α}{m:List β},↥l=↥m->(∀(i:Nat) x y,l[i]?=↑x->m[i]?=↑y->f x=↑y)->j9 f l=↑m
 |[],[],_,_=>rfl
 |x::l,y::m,hl,h=>by
  let h1:=h 0 x y rfl rfl;let h2:=Ox (l:=l) (m:=m) (~~~hl) λi x y e1 a=>h (i+1) x y (~~~e1) (~~~a)
  unfold j9;rw[h1,h2]
 |[],_::_,hl,_=>by simp at hl
 |_::_,[],hl,_=>by simp at hl
theorem aaj{α β:Type}{f:α->Option β}{R:V->β->Prop}:∀{ws:List α}{xs:List V},↥xs=↥ws->(∀(i:Nat) v,xs[i]?=↑v->∃z,ws[i]?=↑z/\∃b,f z=↑b/\R v b)->∃bs,j9 f ws=↑bs/\ρ R xs bs
 |[],[],_,_=>#[[],rfl,.nil]
 |w::ws,x::xs,hl,h=>by
  let#[z,e1,b,c,r]:=h 0 x rfl;let a:w=z:= ~~~e1
  subst a;let#[bs,g,t]:=aaj (ws:=ws) (xs:=xs) (~~~hl) λi v e=>~~~h (i+1) v (~~~e)
  show#[b::bs,?_,.cons r t];unfold j9;rw[c,g]
 |[],_::_,hl,_=>by simp at hl
 |_::_,[],hl,_=>by simp at hl
def iW(cs:List ι)(z:Str):Option Ord:=
 if(z.cps.toList[0]?=↑43\/z.cps.toList[0]?=↑45)/\gY cs (ϐ z ↑1 none) 0≠.non then some (ϐ z ↑1 none,decide (z.cps.toList[0]?=↑43))else none
def iY(cs:List ι)(z:Str):Option (List Ord):=
 if z="" then some []else if 4<↥(ϑ 32 z) then none else match j9 (iW cs) (ϑ 32 z)with
  |none=>none
  |some os=>if(os.map Prod.fst).Nodup then some os else none
inductive zL(c:ε):Sp
 |mk (a) (cs) (z):vs=[.ref a,.str z]->Χ H a cs->↥z<=4000->(∀H',ζ H H'->iW cs z=none->E c (none,true) H')->(∀p o H',ζ H H'->iW cs z=↑o->H' p=↑(.tup [.str o.1,.bl o.2])->Q (.ref p) H')
inductive Bx(c:ε):Sp
 |mk (a) (cs) (z):vs=[.ref a,.str z]->Χ H a cs->↥z<=4000->(∀H',ζ H H'->iY cs z=none->E c (none,true) H')->(∀p os H',ζ H H'->iY cs z=↑os->H p=none->aL H' p os->Q (.ref p) H')
def Ϛ(o:Ord):Str:=(if o.2=true then Ϫ "+" else Ϫ "-")++o.1
def bN(os:List Ord):Str:=ad2 " " (os.map Ϛ)
inductive Eo:Sp
 |mk (a) (os):vs=[.ref a]->aL H a os->↥os<=4000->(∀o∈os,↥o.1<=1000)->(∀H',ζ H H'->Q (.str (bN os)) H')
def Zg(c:Nat)(z:Str):↥(ϑ c z)<=↥z+1:=by
 let h1:=Im c z.cps.toList;unfold ϑ;rw[aaw];let h2:↥z.cps.toList=↥z:=rfl;omega
def ahI{c:Nat}{z y:Str}(h:y∈ϑ c z):↥y<=↥z:=by
 let i:∀(l:List Nat) p,p∈cutAt c l->↥p<=↥l:=by
  intro l;induction l with
  |nil=>intro p f;have:p=[]:=by simpa [cutAt]using f
        subst this;simp
  |cons x r g=>
   intro p f;unfold cutAt at f;split at f
   .obtain z|z:=aaB.mp f
    .subst z;simp
    .have :=g p z;simp;omega
   .split at f
    .have :p=[x]:= ~~~f
     subst this;simp
    .rename_i a t e;rw[e]at g;obtain z|z:=aaB.mp f
     .subst z;have:=g a (by simp);simp;omega
     .have :=g p (by simp[z]);simp;omega
 unfold ϑ at h;let#[l,hl,rfl]:=abt.mp h;have:=i _ l hl;let h2:↥z.cps.toList=↥z:=rfl;show l.toArray.size<=_;simp;omega
end _V
namespace _V
open PySem _L PyProof.Rows _M NumText
def ϋ:List ι->Str->Nat
 |[],_=>0
 |c::r,z=>if c.1=z then 0 else ϋ r z+1
theorem tM:∀{cs:List ι}{z:Str},(∃c∈cs,c.1=z)->ϋ cs z<↥cs
 |[],_,h=>by let#[c,a,_]:=h;simp at a
 |d::r,z,h=>by
  unfold ϋ;split
  .simp
  .rename_i hd;have:=tM (cs:=r) (z:=z) (by
    let#[c,a,e]:=h;obtain x|x:=aaB.mp a
    .subst x;show absurd e hd
    .show#[c,x,e])
   simp;omega
theorem vh:∀{cs:List ι}{z:Str}(i:Nat),(∃c∈cs,c.1=z)->gY cs z i=.int ((i+ϋ cs z:Nat):Int)
 |[],_,_,h=>by let#[c,a,_]:=h;simp at a
 |d::r,z,i,h=>by
  unfold gY ϋ;split
  .rfl
  .rename_i hd;rw[vh (i+1) (by
    let#[c,a,e]:=h;obtain x|x:=aaB.mp a
    .subst x;show absurd e hd
    .show#[c,x,e])]
   congr 2
   omega
theorem Hw:∀{cs:List ι}{z:Str},(∃c∈cs,c.1=z)->∃c,cs[ϋ cs z]?=↑c/\c.1=z
 |[],_,h=>by let#[c,a,_]:=h;simp at a
 |d::r,z,h=>by
  unfold ϋ;split
  .rename_i e;show#[d,rfl,e]
  .rename_i hd;let#[c,h1,h2]:=Hw (cs:=r) (z:=z) (by
    let#[c,a,e]:=h;obtain x|x:=aaB.mp a
    .subst x;show absurd e hd
    .show#[c,x,e])
   show#[c,~~~h1,h2]
def bY(cs:List ι)(xs:List V)(z:Str):V:=(xs[ϋ cs z]?).getD .non
def Ν(cs:List ι)(os:List Ord)(xs:List V):List V:=os.map λo=>bY cs xs o.1
theorem agZ(cs:List ι)(os:List Ord)(xs:List V):↥(Ν cs os xs)=↥os:=aaw ..
def cU(cs:List ι)(os:List Ord):=∀o∈os,∃c∈cs,c.1=o.1
inductive Vf:Sp
 |mk (a) (b) (n) (c) (cs) (os) (xs):vs=[.ref a,.ref b,.int n,.ref c]->Χ H a cs->aL H b os->H c=↑(.lst xs)->↥xs=↥cs->↥cs<=4000->↥os<=4000->cU cs os->(∀p l H',ζ H H'->H p=none->H l=none->H' l=↑(.lst (Ν cs os xs))->H' p=↑(.tup [.ref l,.int n])->Q (.ref p) H')
def aJ(x y:V):Prop:=x=.non\/y=.non\/(∃i j,x=.int i/\y=.int j)\/∃i j,x=.str i/\y=.str j
def BL(a:scalar x=true)(c:scalar y=true):uW x y=true:=by
 cases x<;>cases y<;>first|rfl|(show absurd a aaD)|(show absurd c aaD)
def Ϟ:List Ord->List V->List V->Int->Int->Bool
 |o::os,x::xs,y::ys,n,k=>if x=y then Ϟ os xs ys n k else decide (before x y=o.2)
 |_,_,_,n,k=>decide (n<k)
def ju(H:Hp)(p:δ)(xs:List V)(n:Int):=∃l,H p=↑(.tup [.ref l,.int n])/\H l=↑(.lst xs)
def ju.same(h:ju H p xs n)(s:ζ H H'):ju H' p xs n:=by
 let#[l,h1,h2]:=h;show#[l,s<*h1,s<*h2]
inductive abl:Sp
 |mk (b) (p) (q) (os) (xs) (ys) (n) (k):vs=[.ref b,.ref p,.ref q]->aL H b os->ju H p xs n->ju H q ys k->↥xs=↥os->↥ys=↥os->(∀(i:Nat) x y,xs[i]?=↑x->ys[i]?=↑y->scalar x=true/\scalar y=true/\aJ x y)->(∀H',ζ H H'->Q (.bl (Ϟ os xs ys n k)) H')
theorem Ig:∀{i:Nat}{os:List Ord}{xs ys:List V}{n k:Int},↥xs=↥os->↥ys=↥os->i<=↥os->(∀j x y,j<i->xs[j]?=↑x->ys[j]?=↑y->x=y)->Ϟ os xs ys n k=Ϟ (os.drop i) (xs.drop i) (ys.drop i) n k
 |0,_,_,_,_,_,_,_,_,_=>rfl
 |i+1,[],[],[],_,_,_,_,hi,_=>by simp at hi
 |i+1,o::os,x::xs,y::ys,n,k,h1,h2,hi,h=>by
  show(if x=y then Ϟ os xs ys n k else decide (before x y=o.2))=_;rw[if_pos (h 0 x y () rfl rfl)];show Ig (~~~h1) (~~~h2) (~~~hi) λj x y c e1 a=>h (j+1) x y () (~~~e1) (~~~a)
 |i+1,[],_::_,_,_,_,h1,_,_,_=>by simp at h1
 |i+1,[],[],_::_,_,_,_,h2,_,_=>by simp at h2
 |i+1,_::_,[],_,_,_,h1,_,_,_=>by simp at h1
 |i+1,_::_,_::_,[],_,_,_,h2,_,_=>by simp at h2
def Ab{α:Type}{l:List α}{x:α}(h:l[i]?=↑x):l.drop i=x::l.drop (i+1):=by
 let#[hi,e]:=aav.mp h;rw[<-e];show afy hi
def Wb{i:Nat}{os:List Ord}{n k:Int}{o:Ord}{x y:V}(h1:↥xs=↥os)(h2:↥ys=↥os)(a:os[i]?=↑o)(c:xs[i]?=↑x)(e:ys[i]?=↑y)(h:∀j x y,j<i->xs[j]?=↑x->ys[j]?=↑y->x=y)(f:¬x=y):Ϟ os xs ys n k=decide (before x y=o.2):=by
 let hi:=(aav.mp a).1;rw[Ig h1 h2 () h,Ab a,Ab c,Ab e];show(if x=y then _ else _)=_;rw[if_neg f]
def Ov{os:List Ord}{n k:Int}(h1:↥xs=↥os)(h2:↥ys=↥os)(h:∀j x y,j<↥os->xs[j]?=↑x->ys[j]?=↑y->x=y):Ϟ os xs ys n k=decide (n<k):=by
 rw[Ig h1 h2 (Ϭ _) h,amX];rfl
end _V
namespace _V
open PySem _L PyProof.Rows _M NumText
def Lh(m:Nat):dR (Ϫ (toString ((m:Nat):Int))).cps.toList=true/\digitsVal (Ϫ (toString ((m:Nat):Int))).cps.toList=m:=by
 let hd:AllDigits (Ϫ (toString ((m:Nat):Int))).cps.toList:=qY m;let f:digitsVal (Ϫ (toString ((m:Nat):Int))).cps.toList=m:=by rw[nJ];show PySem.W.KIN.val_back m
 show#[?_,f];let i:(Ϫ (toString ((m:Nat):Int))).cps.toList≠[]:=by rw[nJ];simp[asi]
 let a:=toDigits_all _ hd;rw[f]at a;let e:=nJ m;generalize(Ϫ (toString ((m:Nat):Int))).cps.toList=l at *;let hl:↥l=↥(aum 10 m):=by rw[e,aaw]
 unfold dR;rw[aqC,aaO,aaO,decide_eq_true_eq,decide_eq_true_eq,decide_eq_true_eq];cases l with
 |nil=>show absurd rfl i
 |cons c r=>
  by_cases g:c=48
  .subst g;left;rw[List.dropWhile_cons,if_pos (by decide)]at a;cases q:r.dropWhile (· ==48)with
   |nil=>
    rw[q]at a;rw[a]at hl;have:r=[]:=by cases r with
     |nil=>rfl
     |cons _ _=>simp at hl
    rw[this]
   |cons d t=>
    rw[q]at a;rw[a,aaw, <-q]at hl;have:=(List.dropWhile_sublist (p:=λx:Nat=>x==48) (l:=r)).length_le;rw[acD]at hl;omega
  .right;show#[by simp,~~~g,?_];rw[acL];show λx j=>decide_eq_true (hd x j)
def ajG(h1: -1000000000000000000<=i)(h2:i<=1000000000000000000):iw (Ϫ (toString i)).cps.toList=↑i:=by
 by_cases f:0<=i
 .let#[m,rfl]:=abz f;let#[a,b]:=Lh m;let hd:=qY m;let hn:¬(Ϫ (toString ((m:Nat):Int))).cps.toList[0]?=↑45:=λe=>by
   have:=hd 45 (aa0 e);omega
  let e:=YL hn;unfold iz at e;rw[a,b,if_pos #[rfl,()]]at e;show e
 .obtain⟨m,g,rfl⟩:∃m:Nat,0<m/\i= -((m:Nat):Int):=#[i.natAbs,(),()];let#[a,b]:=Lh m;let hl:=j7 (m:=m) (k:=19) (by decide) ();let e:(Ϫ (toString (-((m:Nat):Int)))).cps.toList=45::(Ϫ (toString ((m:Nat):Int))).cps.toList:=by
   rw[Am m g,bJ];have:("-":Str).cps.toList=[45]:=by fin2
   rw[this];rfl
  let c:=YM a;rw[b]at c;rw[_L.len_list]at hl;rw[e];generalize(Ϫ (toString ((m:Nat):Int))).cps.toList=l at a b c hl⊢;let j:l≠[48]:=λq=>by have:=c.mpr q;omega
  let n:tH (45::l)=true:=by
   unfold tH;rw[if_pos (show(45::l)[0]?=↑45 from rfl)];show(decide (l≠[48])&&dR l)=true;rw[a,decide_eq_true j];rfl
  let p:oM (45::l)= -((m:Nat):Int):=by
   unfold oM;rw[if_pos (show(45::l)[0]?=↑45 from rfl)];show -((digitsVal l:Nat):Int)=_;rw[b]
  unfold iw;rw[n,p,if_pos #[rfl,by rw[acD];omega,h1,h2]]
def xX(i:Int):∀c∈(Ϫ (toString i)).cps.toList,c=45\/(48<=c/\c<=57):=by
 intro c a;by_cases e:0<=i
 .let#[m,rfl]:=abz e;show .inr (qY m c a)
 .obtain⟨m,f,rfl⟩:∃m:Nat,0<m/\i= -((m:Nat):Int):=#[i.natAbs,(),()];rw[Am m f,bJ]at a;obtain h|h:=adH.mp a
  .left;have:("-":Str).cps.toList=[45]:=by fin2
   rw[this]at h;simpa using h
  .show .inr (qY m c h)
def CK{i:Int}(h:i.natAbs<10^k)(a:1<=k:=by decide):↥(Ϫ (toString i))<=k+1:=by
 by_cases c:0<=i
 .let#[m,rfl]:=abz c;have:=j7 (m:=m) (k:=k) a (~~~h);omega
 .obtain⟨m,f,rfl⟩:∃m:Nat,0<m/\i= -((m:Nat):Int):=#[i.natAbs,(),()];have:=j7 (m:=m) (k:=k) a (~~~h);let e:↥("-":Str)=1:=by fin2
  rw[Am m f,len_app,e];omega
def ZX:("?":Str).cps.toList=[63]:=by fin2
def Af:("'":Str).cps.toList=[39]:=by fin2
def ank(h1: -1000000000000000000<=i)(h2:i<=1000000000000000000):eU "number" (wordOf (.int i))=↑(.int i):=by
 let hn:¬wordOf (.int i)="?":=λe=>by
  let h:63∈(Ϫ (toString i)).cps.toList:=by
   let a:Ϫ (toString i)=Ϫ "?":=e;rw[a,ZX];simp
  have:=xX i 63 h;omega
 unfold eU;rw[if_neg hn,if_pos rfl];show vZ (iw (Ϫ (toString i)).cps.toList)=_;rw[ajG h1 h2];rfl
def aeF(hl:↥z<=20)(h:∀c∈z.cps.toList,c∈SG):jh (.str z)=true:=by
 show(decide (↥z<=20)&&eV z vW)=true;rw[decide_eq_true hl,amk];unfold eV;rw[acL];show λc a=>decide_eq_true (Gq c (h c a))
def ajI(z:Str):ϐ (Ϫ "'"++z) ↑1 none=z:=by
 apply gM;have:=CV (Ϫ "'"++z) 1;rw[show((1:Nat):Int)=1 from rfl]at this;rw[this,bJ,Af];rfl
def acX:¬(("text":Str)="number"):=by fin2
def af2(hl:↥z<=20)(h:∀c∈z.cps.toList,c∈SG):eU "text" (wordOf (.str z))=↑(.str z):=by
 let e:wordOf (.str z)=Ϫ "'"++z:=rfl;let a:(Ϫ "'"++z).cps.toList[0]?=↑39:=by rw[bJ,Af];rfl
 let hn:¬Ϫ "'"++z="?":=λe=>by
  let f:Ϫ "'"++z=Ϫ "?":=e;rw[f,ZX]at a;simp at a
 rw[e];unfold eU;rw[if_neg hn,if_neg acX];unfold jF;rw[ajI,if_pos #[a,aeF hl h]];rfl
def zX(h:ps≠[])(a:∀p∈ps,32∉p.cps.toList):ϑ 32 (ad2 " " ps)=ps:=by
 unfold ϑ;let e:(ad2 " " ps).cps.toList=gq 32 (ps.map λp=>p.cps.toList):=qU 32 ps;rw[e,zx (~~~h) λp c=>?_,afm]
 .have :((λl:List Nat=>(#[l.toArray]:Str))∘λp:Str=>p.cps.toList)=id:=by
   funext p;rfl
  rw[this,asF]
 .let#[q,f,rfl]:=abt.mp c;show a q f
def al7(z:Str):ad2 " " (ϑ 32 z)=z:=by
 apply gM;let e:(ad2 " " (ϑ 32 z)).cps.toList=gq 32 ((ϑ 32 z).map λp=>p.cps.toList):=qU 32 _;rw[e];unfold ϑ;rw[afm];have:((λp:Str=>p.cps.toList)∘λl:List Nat=>(#[l.toArray]:Str))=id:=by
  funext p;rfl
 rw[this,asF,VR]
theorem VJ(x:Nat):∀(k:Nat)(a:Array Nat),((ahh k #v[x]).foldl (· ++ ·) a).toList=a.toList++ahh k x
 |0,a=>by simp
 |k+1,a=>by
  rw[aqg,aiR,VJ x k,aqg];simp
def ae7(x:Nat)(n:Int)(h:0<=n):(rR (#[#v[x]]:Str) n).cps.toList=ahh n.toNat x:=by
 show((ahh n.toNat #v[x]).foldl (· ++ ·) #v[]).toList=_;rw[VJ];simp
end _V
namespace _L
open PySem PySem.Spec PyProof.Rows PySem.W
section
variable{X:Cx}{σ:St}{H:Hp}{Q:VK}{a:δ}
def iZ{α:Type}(xs:List α)(k:Nat)(y:α):List α:=xs.take k++y::xs.drop k
def alQ:V->List V->Hp->VK->Prop:=λx vs H Q=>∃l xs k y,x=.ref l/\vs=[.int (k:Nat),y]/\H l=↑(.lst xs)/\k<=↥xs/\↥xs<ϰ/\Q .non (upd H l (.lst (iZ xs k y)))
def ajH:Dy X "list.insert" alQ:=by
 intro ϵ s σ H x vs v us Q I rx g h;let#[l,xs,k,y,rfl,rfl,f,B,D,q]:=h;cases rx;let#[E,u,rfl,c,j]:=g.two;let#[t,rfl]:=c;let hsz:=ϯ;let#[z,a,n,r,hl,e]:=I.lstM f;obtain⟨i,hi⟩:∃i:Int,i=(k:Int):=#[_,rfl];rw[<-hi];let m:Builtin.List.listFitsIndex i=true:=fitsIndex_both () ();let p:=PySem.AutoSeq1.list_insert_list_int_val_1 l a.toArray n i t u (by rw[m];decide) (by rw[abd];omega);show aoD F.slot_list_insert #[_,e,rfl] F.entry_list_insert (F.args_list_insert_3 (.ref l) (.int i t) u) p #[e,?_]*>#[.non,_,I.lset (its':=iZ a k u) f e ?_ ((r.take k).append (.cons j (r.drop k))) ?_,rfl,q]
 .show(a.toArray.extract 0 (if i<0 then(i+(a.toArray.size:Int)).toNat else min i.toNat a.toArray.size)).push u++a.toArray.extract (if i<0 then(i+(a.toArray.size:Int)).toNat else min i.toNat a.toArray.size)=(iZ a k u).toArray;rw[if_neg (),hi,aqZ,abd,aiU ()];unfold iZ;apply atE.mp;simp;rw[agJ (by rw[adu];omega)]
 .rw[abp,acD,adn,adu];omega
def aof(a:b≠d)(e:h.get? b=↑o):(sortedHeap h d vs out).get? b=↑o:=by
 unfold sortedHeap;rw[acR<*(Ne.symm a)];show ϲ _ (ϲ _ ((acR<*(Ne.symm a))<|>e))
def amU{d:δ}{us vs:List ε}{out:Array ε}{n:Nat}(e:h.get? d=↑(seqObj "list" us.toArray n)):∃c,(sortedHeap h d vs out).get? d=↑(seqObj "list" out c):=by
 unfold sortedHeap;let h1:=get?_update_seq e (λ_=>(#v[]:Array ε));let h2:=ϲ (seqObj "tuple" vs.toArray 0) h1;let a:=ϲ (seqObj "list" #v[] 0) h2;show#[_,get?_update_seq a (λ_=>out)]
def aeQ(h:IntsAre vs ns):Vals (ns.map V.int) vs:=by
 induction h with
 |nil=>show .nil
 |cons n t _ a=>show .cons #[t,rfl] a
def ai4:∀{vs:List ε},↥vs=↥ks->(∀(j:Nat) v,vs[j]?=↑v->∃i t,ks[j]?=↑i/\v=Value.int i t)->IntsAre vs ks:=by
 induction ks with
 |nil=>intro vs h _;have:vs=[]:= ~~~h
       subst this;show .nil
 |cons k ks a=>
  intro vs h g;cases vs with
  |nil=>simp at h
  |cons v vs=>
   let#[i,t,e,rfl]:=g 0 v rfl;have:k=i:= ~~~e
   subst this;show .cons k t (a (~~~h) λj v e=>~~~g (j+1) v (~~~e))
def aeB(l:KdlSrc prog w ty q d n j Ok)(z:A.handled=none)(x:Ok s.heap)(B:n<=ϰ)(g:∀(h2:ϫ)(k:Nat)(xs:Array ε),⇑s<h2.objs.size->(∀b o,s.heap.get? b=↑o->h2.get? b=↑o)->ItemsOf j xs n->R xs.toList {s with heap:=h2,toks:=k}):π (ϧ prog w) A (collect (.ref q)) R E s:=by
 let#[D,G]:=l.there _ x
 let' N:δ:=⇑s
 let' Rz:Result->μ->Prop:=λr s2=>∃(h2:ϫ)(k:Nat)(xs:Array ε)(c:Nat),r=.ok (.ret (.ref N))/\s2={s with heap:=h2,toks:=k}/\(∀b o,s.heap.get? b=↑o->h2.get? b=↑o)/\h2.get? N=some {cls:=.type "list",dict:=none,data:=.seq xs c,slots:= #v[]}/\ItemsOf j xs n
 let fin:∀s2:μ,Rz (.ok (.ret (.ref N))) s2->π (ϧ prog w) A (do
   let o<-load N
   match o.data with
   |.seq xs _=>pure xs.toList
   |_=>unsupported "internal:collect") R E s2:=by
  rintro s2 ⟨h2,k,xs,c, -,rfl,p,i,u⟩
  show ν (wpAny_load i (ϱ (g h2 k xs (abA i) p u)))
 let hn:(s.heap.push {cls:=.type "list",data:=.seq ([]:List ε).toArray}).get? N=some {cls:=.type "list",data:=.seq #v[]}:=abj _ rfl;let v:Ok (s.heap.push {cls:=.type "list",data:=.seq ([]:List ε).toArray}):=l.keep _ _ x λ_ _ _ e=>ϲ _ e
 let run:=kdl_extend (A:=A) (s:={s with heap:=s.heap.push {cls:=.type "list",data:=.seq ([]:List ε).toArray}}) (R:=Rz) l z v N (anM D) (anM G) (.ref N) 0 hn
  (λh2 k xs c p i u=>#[h2,k,xs,c,rfl,rfl,λb o e=>p b o (acu (abA e)) (ϲ _ e),i,u]) B
 unfold collect;show ν (wpAny_runValue (apU entry_proto_collect' ?_));rw[Around.under_plainId F.plain_proto_collect];show ν (m:=newList []) (ai1 (ϱ #[plainId_quiet F.plain_list_iadd _,apU entry_list_iadd' ?_]));rw[Around.under_plainId F.plain_list_iadd];show ac7 (t:=Builtin.List.listExtendWith (.ref N) (.ref q) (.ref N)) run (λr s2 a=>?_) λe s2 a=>?_
 .cases r with
  |done f=>
   let#[h2,k,xs,c,e,rest]:=id a;cases e;show fin s2 a
  |again c=>
   show#[a.1,ajk a.2 λJ H y=>?_];let#[h2,k,xs,c2,e,rest]:=id y;subst e;show fin H y
 .let#[_,_,_,_,I,_]:=a;cases I
def ab8{ks:List Int}(U:X.calm=true)(e:H a=↑(.dK Ϸ))(G:Ϸ.map (·.1)=ks.map Sum.inl)(D:↥ks<64)(g:∀(p:δ)(ks':List Int),H p=none->ks'.Perm ks->ks'.Pairwise (· <= ·)->Q (.ref p) (upd H p (.lst (ks'.map V.int)))):CL X (.builtin "sorted") [.ref a] H Q:=by
 show dZ (r:=λxs H Q=>∃(a:δ)(Ϸ:List (Key×V))(ks:List Int),xs=[.ref a]/\H a=↑(.dK Ϸ)/\Ϸ.map (·.1)=ks.map Sum.inl/\↥ks<64/\∀(p:δ)(ks':List Int),H p=none->ks'.Perm ks->ks'.Pairwise (· <= ·)->Q (.ref p) (upd H p (.lst (ks'.map V.int)))) ?_ #[a,Ϸ,ks,rfl,e,G,D,g];intro ϵ s σ H xs us Q I r h;let#[a,Ϸ,ks,rfl,e,G,D,g]:=h;let#[u,rfl,W]:=vals1 r;cases W;let hsz:=ϯ;let#[z,lo,vs,R,hd]:=uH I.hok e;let#[ep,Y]:=hd.dictAt;let Z:↥Ϸ=↥ks:=by have:=congrArg apW G;simpa using this
 let hvl:=↥R;let L:vs.map (·.1)=ks.map Sum.inl:=by rw[<-R.keys];show G
 show Calls.call_function_entry kind_sorted plain_sorted entry_sorted (args_sorted1 _) ?_;unfold apn.«sorted»;show ν (m:=checkCount "sorted" 1 1 _) (ϱ ?_)*>ν (aeB (A:=X.A.in1) (kdl_dict lo) (I.ok.hd U) Y () λh' tk f M n l=>?_);let hal:↥f.toList=↥vs:=by rw[ajA];show l.1
 let hI:IntsAre f.toList ks:=by
  show ai4 () λj v ev=>?_
  let#[k,x,e1,e2]:=l.2 j v (by rw[<-arD];show ev);let E:(vs.map (·.1))[j]?=↑k:=by rw[abD,e1];rfl
  rw[L,abD]at E;cases e4:ks[j]? with
  |none=>rw[e4]at E;cases E
  |some i=>
   rw[e4]at E;let J:Sum.inl i=k:= ~~~E
   obtain⟨i',t,O,rfl⟩|⟨y,t,O,_⟩:=jc (k:=k) (v:=v) e2
   .rw[O]at J;cases J;show#[i,t,rfl,rfl]
   .rw[O]at J;cases J
 show ν (wpAny_newList ?_ ());let q:(h'.push (seqObj "list" f.toList.toArray 0)).get? h'.objs.size=↑(seqObj "list" f.toList.toArray 0):=abj _ rfl;let B:⇑s<=h'.objs.size:=arn M;show ν (afM (wpAny_call_entry slot_list_sort #[_,q,rfl] entry_list_sort (list_sort_tree q hI () λout F a1 S a3=>#[_,rfl,?_]) (args_list_sort _)))*>ϱ #[_,rfl,?_];let#[c,P]:=amU (vs:=f.toList) (out:=out) q;show#[.ref h'.objs.size,_,I.laid (t':=tk) (o:=.lst (F.map V.int)) (λb o T=>aof (acu (acp (abA T) B)) (ϲ _ (n<*T))) B #[by rw[aaw,S.length_eq];omega,out.toList,c,aeQ a1,~~~P],rfl,g _ F (I.hok.fresh B) S a3]
def cj(f:X.A.units+1<cLine)(g:aq H a y ↑v)(q:Q v H):IX X (.ref a) y H Q:=by
 show xK (r:=λx y H Q=>∃a v,x=.ref a/\aq H a y ↑v/\Q v H) ?_ #[a,v,rfl,g,q];intro value c ϵ s σ H x y w u Q I rx ry h hs;let#[a,v,rfl,g,q]:=h;obtain rfl:w=Value.ref a:=rx;let ty:=aio I g;let run:π ∅ X.A (subscripted c false (Value.ref a) u) (λr e=>π ∅ X.A (letTemporaryGo value (Value.ref a) r>>=λ_=>pure r) (EP X ϵ σ Q) X.xe e) X.xe s:=by
  rw[hs];show wpAny_operating (alS f I g ry λr e i j=>ν (wpAny_letTemporaryGo (ϱ #[v,H,i,j,q])))
 unfold subscriptTail;show ν ?_;rw[getitemInPython_of_ne ty.not_modules];show ν (wpAny_specialOf ty F.slot_dict_getitem.lookup ?_)
 first
  |show ϱ (ν run)
  |show ν (ϱ (ν run))
  |show ν run
end
end _L
namespace _V
open PySem _L PyProof.Rows _M
section
variable{α β:Type}
def Μ(m:List (Int×α))(i:Int):Option α:=(m.find? λp=>decide (p.1=i)).map (·.2)
def bx(m:List (Int×α))(i:Int)(x:α):List (Int×α):=if(m.any λp=>decide (p.1=i))=true then m.map (λp=>if p.1=i then(p.1,x)else p)else m++[(i,x)]
def dC(m:List (Int×α))(i:Int):List (Int×α):=m.filter λp=>decide (p.1≠i)
abbrev PR(R:V->α->Prop)(kv:Key×V)(p:Int×α):Prop:=kv.1=Sum.inl p.1/\R kv.2 p.2
def DictAt(R:V->α->Prop)(H:Hp)(a:δ)(m:List (Int×α)):=∃Ϸ,H a=↑(.dK Ϸ)/\ρ (PR R) Ϸ m
def Sq(i j:Int):decide ((Sum.inl i:Key)=Sum.inl j)=decide (i=j):=by
 by_cases h:i=j
 .subst h;simp
 .have :¬(Sum.inl i:Key)=Sum.inl j:=λe=>h (Sum.inl.inj e)
  rw[decide_eq_false this,decide_eq_false h]
def ahm{R:V->α->Prop}(h:ρ (PR R) Ϸ m):Ϸ.map (·.1)=(m.map (·.1)).map Sum.inl:=by
 induction h with
 |nil=>rfl
 |cons h _ a=>rw[acY,acY,acY,a,h.1]
def jP{R:V->α->Prop}(h:ρ (PR R) Ϸ m)(i:Int):(aA Ϸ (Sum.inl i)=none/\ Μ m i=none)\/∃v x,aA Ϸ (Sum.inl i)=↑v/\ Μ m i=↑x/\R v x:=by
 induction h with
 |nil=>show .inl #[rfl,rfl]
 | @cons f p l m h _ c=>
   let#[k,v]:=f;let#[j,x]:=p;let#[g,n]:=h;let a:k=Sum.inl j:=g;subst a;unfold aA Μ at c⊢;rw[aek,aek];show((match decide ((Sum.inl j:Key)=Sum.inl i)with|true=>_|false=>_:Option (Key×V)).map _=_/\_)\/_;rw[Sq];by_cases e:j=i
   .rw[decide_eq_true e];show .inr #[v,x,rfl,rfl,n]
   .rw[decide_eq_false e];show c
def aoE{R:V->α->Prop}(h:ρ (PR R) Ϸ m)(i:Int):(Ϸ.any λa=>decide (a.1=Sum.inl i))=m.any λp=>decide (p.1=i):=by
 induction h with
 |nil=>rfl
 | @cons a p l m h _ c=>rw[ao2,ao2,c,h.1,Sq]
def nA{R:V->α->Prop}(h:ρ (PR R) Ϸ m)(i:Int)(r:R v x):ρ (PR R) (putK Ϸ (Sum.inl i) v) (bx m i x):=by
 unfold putK bx;rw[aoE h i];by_cases e:(m.any λp=>decide (p.1=i))=true
 .rw[if_pos e,if_pos e];clear e;induction h with
  |nil=>show .nil
  | @cons c p l m h _ f=>
    show .cons ?_ f;let#[a,g]:=h;show PR R (if c.1=Sum.inl i then(c.1,v)else c) (if p.1=i then(p.1,x)else p);by_cases e:p.1=i
    .rw[if_pos e,if_pos (by rw[a,e])];show#[a,r]
    .rw[if_neg e,if_neg (by rw[a];show λz=>e (Sum.inl.inj z))];show#[a,g]
 .rw[if_neg e,if_neg e];show ρ.app h (.cons #[rfl,r] .nil)
def yf{R:V->α->Prop}(h:ρ (PR R) Ϸ m)(i:Int):ρ (PR R) (gf Ϸ (Sum.inl i)) (dC m i):=by
 unfold gf dC;induction h with
 |nil=>show .nil
 | @cons g p l m h _ c=>
   let#[a,f]:=h;rw[amF,amF];by_cases e:p.1=i
   .rw[if_neg (by rw[a,e];simp),if_neg (by rw[e];simp)];show c
   .rw[if_pos (by rw[a];simp[e]),if_pos (by simp[e])];show .cons #[a,f] c
theorem cH{R S:V->α->Prop}(h:ρ (PR R) Ϸ m)(f:∀v x,R v x->S v x):ρ (PR S) Ϸ m:=ρ.imp (λ_ _ h=>#[h.1,f<*h.2]) h
def vD{i j:Int}{x:α}:Μ (bx m i x) j=if j=i then some x else Μ m j:=by
 unfold Μ bx;induction m with
 |nil=>
  rw[List.any_nil,if_neg (by decide),asQ,aek];by_cases e:j=i
  .subst e;simp
  .let f:¬i=j:=λz=>e z.symm
   simp[e,f]
 |cons p r a=>
  let#[k,y]:=p;rw[ao2];by_cases c:k=i
  .subst c;simp only[decide_true,Bool.true_or,if_true,acY,aek];by_cases e:j=k
   .subst e;simp
   .let f:¬k=j:=λz=>e z.symm
    simp only[e,f,decide_false,if_false];clear a
    congr 1
    induction r with
    |nil=>rfl
    |cons q r g=>
     let#[k2,l]:=q;rw[acY,aek,aek,g];by_cases h2:k2=k
     .subst h2;simp[f]
     .simp[h2]
  .simp only[c,decide_false,atg];by_cases ha:(r.any λp=>decide (p.1=i))=true
   .rw[if_pos ha]at a⊢;rw[acY,if_neg c,aek,aek];by_cases e:k=j
    .subst e;simp[c]
    .simp only[e,decide_false];show a
   .rw[if_neg ha]at a⊢;rw[atF,aek,aek];by_cases e:k=j
    .subst e;simp[c]
    .simp only[e,decide_false];show a
def wY{m:List (Int×α)}:Μ (dC m i) j=if j=i then none else Μ m j:=by
 unfold Μ dC;induction m with
 |nil=>simp
 |cons p r c=>
  let#[k,y]:=p;rw[amF];by_cases a:k=i
  .subst a;simp only[ne_eq,not_true,decide_false,aqA,if_false,aek];rw[c];by_cases e:j=k
   .subst e;simp
   .let f:¬k=j:=λz=>e z.symm
    simp[e,f]
  .simp only[ne_eq,a,not_false_eq_true,decide_true,if_true,aek];by_cases e:k=j
   .subst e;simp[a]
   .simp only[e,decide_false];show c
def Uy{i:Int}{x:α}(h:(m.map (·.1)).Nodup):((bx m i x).map (·.1)).Nodup:=by
 unfold bx;by_cases ha:(m.any λp=>decide (p.1=i))=true
 .rw[if_pos ha];have:(m.map λp=>if p.1=i then(p.1,x)else p).map (·.1)=m.map (·.1):=by
   rw[afm];show aqj λp _=>?_
   show(if p.1=i then(p.1,x)else p).1=p.1;split <;>rfl
  rw[this];show h
 .rw[if_neg ha,aqK];show alW.mpr #[h,by simp,λa h1 b h2 e=>ha ?_];let c:b=i:= ~~~h2
  subst e;subst c;let#[p,f,e]:=abt.mp h1;show apH.mpr #[p,f,decide_eq_true e]
theorem V1{m:List (Int×α)}(h:(m.map (·.1)).Nodup):((dC m i).map (·.1)).Nodup:=h.sublist (List.Sublist.map _ as6)
def akl{i:Int}{x:α}(h:Μ m i=↑x):(i,x)∈m:=by
 unfold Μ at h;cases e:m.find? λp=>decide (p.1=i)with
 |none=>rw[e]at h;cases h
 |some p=>
  rw[e]at h;let h1:=List.find?_some e;let h2:=List.mem_of_find?_eq_some e;let#[k,y]:=p;let e1:k=i:=of_decide_eq_true h1;let a:y=x:= ~~~h
  subst e1;subst a;show h2
def zj{m:List (Int×α)}:Μ m i=none↔i∉m.map (·.1):=by
 unfold Μ;rw[Option.map_eq_none_iff,List.find?_eq_none];constructor
 .intro h c;let#[p,a,e]:=abt.mp c;show h p a (decide_eq_true e)
 .intro h p a e;show h (abt.mpr #[p,a,of_decide_eq_true e])
def Out(S:List δ)(H H':Hp):=∀b o,b∉S->H b=↑o->H' b=↑o
theorem Out.refl(S:List δ)(H:Hp):Out S H H:=λ_ _ _ h=>h
theorem Out.trans(a:Out S H H1)(b:Out S H1 H2):Out S H H2:=λc o e h=>b c o e (a c o e h)
theorem Out.of(h:ζ H H'):Out S H H':=λb o _ e=>h b o e
theorem Out.upd(h:a∈S):Out S H (upd H a o):=λb u c e=>by
 rw[θ (λz=>c (by rw[z];show h))];show e
theorem Out.mono(h:Out S H H')(s:∀x∈S,x∈T):Out T H H':=λb o a e=>h b o (λz=>a (s b z)) e
def TupAt(H:Hp)(v:V)(xs:List V):=∃t,v=.ref t/\H t=↑(.tup xs)
def lY(H:Hp)(v:V):Option (List V)->Prop
 |none=>v=.non
 |some xs=>TupAt H v xs
structure bf where
 at_:Int
 row:Int
 was:Option (List V)
 is:Option (List V)
def lB(H:Hp)(v:V)(d:bf):=∃t w u,v=.ref t/\H t=↑(.tup [.int d.at_,.int d.row,w,u])/\lY H w d.was/\lY H u d.is
structure Bk where
 heads:List ι
 rows:List (Int×List V)
 touched:List (Int×Int)
 done:List bf
 known:Int
 now:Int
structure BA where
 b:δ
 dx:δ
 h:δ
 r:δ
 t:δ
 d:δ
def xO(v:V)(i:Int):Prop:=v=.int i
structure Ρ(C:δ)(H:Hp)(A:BA)(B:Bk):Prop where
 ins:H A.b=↑(.ins C A.dx [("heads",.ref A.h),("rows",.ref A.r),("touched",.ref A.t),("done",.ref A.d),("known",.int B.known),("now",.int B.now)])
 own:H A.dx=↑(.own A.b)
 heads:Χ H A.h B.heads
 rows:DictAt (TupAt H) H A.r B.rows
 touched:DictAt xO H A.t B.touched
 done:∃xs,H A.d=↑(.lst xs)/\ρ (lB H) xs B.done
 rt:A.r≠A.t
 hd:A.h≠A.d
def BA.fp(A:BA):List δ:=[A.b,A.r,A.t,A.d]
def TupAt.stay(h:TupAt H v xs)(s:∀b ys,H b=↑(.tup ys)->H' b=↑(.tup ys)):TupAt H' v xs:=by
 let#[t,e,h]:=h;show#[t,e,s<*h]
def lY.stay(h:lY H v o)(s:∀b ys,H b=↑(.tup ys)->H' b=↑(.tup ys)):lY H' v o:=by
 cases o with
 |none=>show h
 |some xs=>show TupAt.stay h s
def lB.stay(h:lB H v d)(s:∀b ys,H b=↑(.tup ys)->H' b=↑(.tup ys)):lB H' v d:=by
 let#[t,w,u,e,h1,h2,a]:=h;show#[t,w,u,e,s<*h1,h2.stay s,a.stay s]
def Χ.stay(h:Χ H a cs)(h1:∀xs,H a=↑(.lst xs)->H' a=↑(.lst xs))(s:∀b ys,H b=↑(.tup ys)->H' b=↑(.tup ys)):Χ H' a cs:=by
 let#[vs,e,h2]:=h;show#[vs,h1 _ e,ρ.imp (λv c z=>by let#[t,e,h]:=z;show #[t,e,s<*h]) h2]
theorem Ρ.stay{C:δ}{H H':Hp}{A:BA}{B:Bk}(k:Ρ C H A B)(s:∀b ys,H b=↑(.tup ys)->H' b=↑(.tup ys))(f:∀x o,x∈[A.b,A.dx,A.h,A.r,A.t,A.d]->H x=↑o->H' x=↑o):Ρ C H' A B where
 ins:=f _ _ (by simp) k.ins
 own:=f _ _ (by simp) k.own
 heads:=k.heads.stay (λxs e=>f _ _ (by simp) e) s
 rows:=by
  let#[Ϸ,e,h]:=k.rows;show#[Ϸ,f _ _ (by simp) e,cH h λv x h=>h.stay s]
 touched:=by
  let#[Ϸ,e,h]:=k.touched;show#[Ϸ,f _ _ (by simp) e,h]
 done:=by
  let#[xs,e,h]:=k.done;show#[xs,f _ _ (by simp) e,ρ.imp (λv d h=>h.stay s) h]
 rt:=k.rt
 hd:=k.hd
theorem Ρ.same(k:Ρ C H A B)(s:ζ H H'):Ρ C H' A B:=k.stay (λ_ _ e=>s _ _ e) λ_ _ _ e=>s _ _ e
section
variable{C:δ}{H H':Hp}{A:BA}{B:Bk}
def Ρ.Js(k:Ρ C H A B)(c:b∈A.fp):(∃fs,H b=↑(.ins C A.dx fs))\/(∃Ϸ,H b=↑(.dK Ϸ))\/∃xs,H b=↑(.lst xs):=by
 let a:b=A.b\/b=A.r\/b=A.t\/b=A.d:=by simpa [BA.fp]using c
 obtain rfl|rfl|rfl|rfl:=a
 .show .inl #[_,k.ins]
 .let#[Ϸ,e,_]:=k.rows;show .inr (.inl #[_,e])
 .let#[Ϸ,e,_]:=k.touched;show .inr (.inl #[_,e])
 .let#[xs,e,_]:=k.done;show .inr (.inr #[_,e])
theorem Ρ.tup(k:Ρ C H A B)(o:Out A.fp H H'):∀b ys,H b=↑(.tup ys)->H' b=↑(.tup ys):=λb ys e=>o b _ (λa=>by
 obtain⟨fs,z⟩|⟨Ϸ,z⟩|⟨xs,z⟩:=k.Js a<;>rw[e]at z<;>cases z) e
def Ρ.ne(k:Ρ C H A B):A.b≠A.dx/\A.b≠A.h/\A.b≠A.r/\A.b≠A.t/\A.b≠A.d/\A.r≠A.dx/\A.r≠A.h/\A.r≠A.d/\A.t≠A.dx/\A.t≠A.h/\A.t≠A.d/\A.d≠A.dx:=by
 let h1:=k.ins;let h2:=k.own;let#[_,g,_]:=k.heads;let#[_,a,_]:=k.rows;let#[_,c,_]:=k.touched;let#[_,f,_]:=k.done;show#[?_,?_,?_,?_,?_,?_,?_,?_,?_,?_,?_,?_]<;>intro e
 .rw[e,h2]at h1;cases h1
 .rw[e,g]at h1;cases h1
 .rw[e,a]at h1;cases h1
 .rw[e,c]at h1;cases h1
 .rw[e,f]at h1;cases h1
 .rw[e,h2]at a;cases a
 .rw[e,g]at a;cases a
 .rw[e,f]at a;cases a
 .rw[e,h2]at c;cases c
 .rw[e,g]at c;cases c
 .rw[e,f]at c;cases c
 .rw[e,h2]at f;cases f
def Ρ.Dk(k:Ρ C H A B)(kn a:Int):Ρ C (upd H A.b (.ins C A.dx [("heads",.ref A.h),("rows",.ref A.r),("touched",.ref A.t),("done",.ref A.d),("known",.int kn),("now",.int a)])) A {B with known:=kn,now:=a}:=by
 let#[n1,n2,c,f,g,_]:=k.ne;let st:∀b ys,H b=↑(.tup ys)->(upd H A.b (.ins C A.dx [("heads",.ref A.h),("rows",.ref A.r),("touched",.ref A.t),("done",.ref A.d),("known",.int kn),("now",.int a)])) b=↑(.tup ys):=k.tup (Out.upd (by simp[BA.fp]));show#[ς,?_,k.heads.stay (λxs e=>?_) st,?_,?_,?_,k.rt,k.hd]
 .rw[θ (Ne.symm n1)];show k.own
 .rw[θ (Ne.symm n2)];show e
 .let#[Ϸ,e,h]:=k.rows;show#[Ϸ,by rw[θ (Ne.symm c)];show e,cH h λv x h=>h.stay st]
 .let#[Ϸ,e,h]:=k.touched;show#[Ϸ,by rw[θ (Ne.symm f)];show e,h]
 .let#[xs,e,h]:=k.done;show#[xs,by rw[θ (Ne.symm g)];show e,ρ.imp (λv d h=>h.stay st) h]
def Ρ.qZ(k:Ρ C H A B)(h:ρ (PR (TupAt H)) Ϸ m):Ρ C (upd H A.r (.dK Ϸ)) A {B with rows:=m}:=by
 let#[n1,n2,a,i,j,c,f,g,_]:=k.ne;let st:∀b ys,H b=↑(.tup ys)->(upd H A.r (.dK Ϸ)) b=↑(.tup ys):=k.tup (Out.upd (by simp[BA.fp]));show#[?_,?_,k.heads.stay (λxs e=>?_) st,#[Ϸ,ς,cH h λv x h=>h.stay st],?_,?_,k.rt,k.hd]
 .rw[θ a];show k.ins
 .rw[θ (Ne.symm c)];show k.own
 .rw[θ (Ne.symm f)];show e
 .let#[Ϸ,e,h]:=k.touched;show#[Ϸ,by rw[θ (Ne.symm k.rt)];show e,h]
 .let#[xs,e,h]:=k.done;show#[xs,by rw[θ (Ne.symm g)];show e,ρ.imp (λv d h=>h.stay st) h]
def Ρ.ZJ(k:Ρ C H A B)(h:ρ (PR xO) Ϸ m):Ρ C (upd H A.t (.dK Ϸ)) A {B with touched:=m}:=by
 let#[n1,n2,i,c,j,l,n,p,f,a,g,_]:=k.ne;let st:∀b ys,H b=↑(.tup ys)->(upd H A.t (.dK Ϸ)) b=↑(.tup ys):=k.tup (Out.upd (by simp[BA.fp]));show#[?_,?_,k.heads.stay (λxs e=>?_) st,?_,#[Ϸ,ς,h],?_,k.rt,k.hd]
 .rw[θ c];show k.ins
 .rw[θ (Ne.symm f)];show k.own
 .rw[θ (Ne.symm a)];show e
 .let#[Ϸ,e,h]:=k.rows;show#[Ϸ,by rw[θ k.rt];show e,cH h λv x h=>h.stay st]
 .let#[xs,e,h]:=k.done;show#[xs,by rw[θ (Ne.symm g)];show e,ρ.imp (λv d h=>h.stay st) h]
def Ρ.aeC(k:Ρ C H A B)(h:ρ (lB H) xs ds):Ρ C (upd H A.d (.lst xs)) A {B with done:=ds}:=by
 let#[n1,n2,j,l,c,m,n,f,p,g,i,a]:=k.ne;let st:∀b ys,H b=↑(.tup ys)->(upd H A.d (.lst xs)) b=↑(.tup ys):=k.tup (Out.upd (by simp[BA.fp]));show#[?_,?_,k.heads.stay (λxs e=>?_) st,?_,?_,#[xs,ς,ρ.imp (λv d h=>h.stay st) h],k.rt,k.hd]
 .rw[θ c];show k.ins
 .rw[θ (Ne.symm a)];show k.own
 .rw[θ k.hd];show e
 .let#[Ϸ,e,h]:=k.rows;show#[Ϸ,by rw[θ f];show e,cH h λv x h=>h.stay st]
 .let#[Ϸ,e,h]:=k.touched;show#[Ϸ,by rw[θ i];show e,h]
end
end
end _V
namespace _L
open PySem PySem.Spec PyProof.Rows PySem.W
def amv(j:akR ∅ X.A X.env X.xe)(l:X.calm=true)(hs:∀x,foldedSetIterable e X.env x=pure x)(h:EV X e σ H λv H1=>∃q xs,v=.ref q/\ξ X.K H1 q xs/\∃a:Nat->St->Hp->Prop,a 0 σ H1/\(∀i σ' H',i<=↥xs->a i σ' H'->ξ X.K H' q xs)/\
   (∀i x σ' H',xs[i]?=↑x->a i σ' H'->EG X tg x σ' H' λc H2=>Η X body {D with nx:=a (i+1),ct:=a (i+1),bk:=D.nx} c H2)/\∀σ' H',a ↥xs σ' H'->D.nx σ' H'):SX X (.For tg e body [] pos) D σ H:=by
 show lV j l hs (alu (ϙ h λv H1 q=>?_));let#[q,xs,rfl,m,a,n,hl,f,hd]:=q;show#[q,rfl,#[xs,m],aoI (g:=EG X tg) (tb:=Η X body) a n hl f hd]
def agv(h:∀p,H p=none->EV X k1 σ (upd H p (.dK [])) λx1 H1=>EV X m σ H1 λg H2=>EV X k2 σ H2 λx2 u=>EV X n σ u λi v=>EV X k3 σ v λx3 x=>EV X s σ x λj l=>l p=↑(.dK [])/\∃a c f:Key,x1=kV a/\x2=kV c/\x3=kV f/\Q (.ref p) (upd l p (.dK (mQ [] [(a,g),(c,i),(f,j)])))):EV X (.Dict [↑k1,↑k2,↑k3] [m,n,s] pos) σ H Q:=by
 show vN (aca (La dq dq (La dq dq (La dq dq ala))) rfl rfl (by simp) (by simp)) ?_;intro p y;show ϙ (h p y) λx1 H1 q=>ϙ q λg H2 q=>ϙ q λx2 u q=>ϙ q λi v q=>ϙ q λx3 x q=>ϙ q λj l q=>?_
 let#[e,a,c,f,e1,z,B,D]:=q;subst e1 z B;show#[e,[(a,g),(c,i),(f,j)],rfl,by simp,D]
end _L
namespace _L
open PySem PySem.Spec PyProof.Rows PySem.Builtin PySem.Builtin.Str
def Ar(p:Nat->Bool):Nat->Option Nat
 |0=>none
 |n+1=>if p n=true then some n else Ar p n
theorem Vz(p:Nat->Bool):∀n,(acV n).foldl (λa i=>if p i=true then some i else a) none=Ar p n
 |0=>rfl
 |n+1=>by
  rw[asR,ass,Vz p n];rfl
theorem Ul(p:Nat->Prop)[DecidablePred p]:∀(l:List Nat)(b:Option Nat),(forIn (m:=Id) l b λi s=>if p i then pure (ForInStep.yield ↑i)else pure (ForInStep.yield s)).run=l.foldl (λc i=>if p i then some i else c) b
 |[],b=>rfl
 |a::l,b=>by
  rw[anT,aiR, <-Ul p l];by_cases h:p a
  .simp only[if_pos h];rfl
  .simp only[if_neg h];rfl
def akM(x y:Str):lastOccurrence x y 0 ↥x=Ar (λi=>decide (i+↥y<=↥x)&&subAt x y i) (↥x+1):=by
 unfold lastOccurrence;rw[<-Vz];simp[List.range_eq_range'];show Ul (λi=>i+↥y<=↥x/\subAt x y i=true) _ none
theorem W8:∀{n:Nat},k<n->p k=true->(∀i,k<i->i<n->p i=false)->Ar p n=↑k
 |n+1,c,a,h=>by
  show(if p n=true then _ else _)=_;by_cases e:k=n
  .subst e;rw[if_pos a]
  .rw[if_neg (by rw[h n () ()];decide)];show W8 () a λi h1 h2=>h i h1 ()
def aaI(x:Str)(c i:Nat):(decide (i+↥(#[#v[c]]:Str)<=↥x)&&subAt x #[#v[c]] i)=decide (x.cps.toList[i]?=↑c):=by
 rw[ags,aaO,decide_eq_true_iff,decide_eq_true_iff];show StrLaws.subAt_one x c i
def ahy(h:z.cps.toList=b++c::w)(g:c∉w):Txt.rpartition z #[#v[c]]=(#[b.toArray],#[#v[c]],#[w.toArray]):=by
 let a:↥z=↥b+1+↥w:=by
  have:↥z.cps.toList=↥z:=rfl;rw[<-this,h,abp,acD];omega
 let hl:lastOccurrence z #[#v[c]] 0 ↥z=↑↥b:=by
  rw[akM];show W8 () ?_ λi h1 h2=>?_
  .rw[aaI,h,decide_eq_true_iff,akd (Ϭ _),arE];rfl
  .rw[aaI,h,decide_eq_false_iff_not,akd ()];intro e;obtain⟨j,m⟩:∃j,i-↥b=j+1:=#[i-↥b-1,()];rw[m,List.getElem?_cons_succ]at e;show g (aa0 e)
 let f:z=#[(b++c::w).toArray]:=by
  let#[#[l]]:=z;have:l=b++c::w:=h;rw[this]
 let e1:strSub z 0 ↥b=#[b.toArray]:=by
  unfold strSub;rw[f];simp
 let n:strSub z (↥b+↥(#[#v[c]]:Str)) ↥z=#[w.toArray]:=by
  let p:↥(#[#v[c]]:Str)=1:=rfl;rw[p,a];unfold strSub;rw[f];simp[List.extract_eq_take_drop,List.drop_append];rw[aqU (),asQ,ahs]
 let un:Txt.rpartition z #[#v[c]]=(match lastOccurrence z #[#v[c]] 0 ↥z with
  |some i=>(strSub z 0 i,#[#v[c]],strSub z (i+↥(#[#v[c]]:Str)) ↥z)
  |none=>(ase,ase,z)):=rfl
 rw[un,hl];show(strSub z 0 ↥b,_,strSub z (↥b+↥(#[#v[c]]:Str)) ↥z)=_;rw[e1,n]
def aoM(f:↥z<=100000)(g:∀p,H p=none->Q (.ref p) (upd H p (.tup [.str (Txt.rpartition z #[#v[c]]).1,.str (Txt.rpartition z #[#v[c]]).2.1,.str (Txt.rpartition z #[#v[c]]).2.2]))):MT X "str.rpartition" (.str z) [.str #[#v[c]]] H Q:=by
 show dH (r:=λx xs H Q=>∃z c,x=.str z/\xs=[.str #[#v[c]]]/\↥z<=100000/\∀p,H p=none->Q (.ref p) (upd H p (.tup [.str (Txt.rpartition z #[#v[c]]).1,.str (Txt.rpartition z #[#v[c]]).2.1,.str (Txt.rpartition z #[#v[c]]).2.2]))) ?_ #[z,c,rfl,rfl,f,g];intro ϵ s σ H x xs v us Q I rx rs h;let#[z,c,rfl,rfl,f,g]:=h;let#[t,rfl]:=rx;let#[u,rfl,j]:=vals1 rs;let#[t',rfl]:=j;let hsz:=ϯ;let fin:∀(a b e:Str)(ta tb tc:Tok)(tk:Nat),a=(Txt.rpartition z #[#v[c]]).1->b=(Txt.rpartition z #[#v[c]]).2.1->e=(Txt.rpartition z #[#v[c]]).2.2->EP X ϵ σ Q (.ref ⇑s) {s with toks:=tk,heap:=s.heap.push {cls:=.type "tuple",data:=.seq [Value.str a ta,.str b tb,.str e tc].toArray}}:=λa b e ta tb tc tk l m n=>by
  subst l m n;show#[.ref ⇑s,_,I.laid (t':=tk) (o:=.tup [.str (Txt.rpartition z #[#v[c]]).1,.str (Txt.rpartition z #[#v[c]]).2.1,.str (Txt.rpartition z #[#v[c]]).2.2]) (λb o q=>ϲ _ q) (Ϭ _) ?_,rfl,g _ (I.hok.fresh (Ϭ _))]*>#[Ε,_,.cons #[ta,rfl] (.cons #[tb,rfl] (.cons #[tc,rfl] .nil)),IsTup.new _ _]
 show aoD F.slot_str_rpartition (typeIs_str<*_) F.entry_str_rpartition (F.args_str_rpartition_2 _ _) (meets_str_rpartition z #[#v[c]] t t' rfl ()) ?_;let h':=fin;unfold Txt.rpartition at h';revert h';cases lastOccurrence z #[#v[c]] 0 ↥z with
 |none=>intro h';show h' _ _ _ _ _ _ _ rfl rfl rfl
 |some i=>intro h';show h' _ _ _ _ _ _ _ rfl rfl rfl
end _L
namespace _L
open PySem PySem.Spec PyProof.Rows PySem.W
def JX(d:δ)(o:Obj)(Ϸ:List (Key×V))(ks:List Int):It:=#[λi H=>i<↥ks/\H d=↑(.frz o (.dK Ϸ)),λi H x H'=>H'=H/\∃k,ks[i]?=↑k/\x=.int k,λi H=>i=↥ks/\H d=↑(.frz o (.dK Ϸ))]
theorem ahC{P:Ϯ}{w:ϭ}{K:Ϩ}{tg:ϩ}(it d:δ)(o:Obj)(Ϸ:List (Key×V))(ks:List Int)(vs:List (Key×ε))(ep:Nat)(q:vs.map (·.1)=ks.map Sum.inl)(Ϲ:d≠it)(g:∀h:ϫ,h.get? d=↑o->h.DictAt (gH P w) d vs ep):Turn P w K tg (JX d o Ϸ ks) [it] it (λi h=>h.IsKeyIter it d i ↥vs ep)where
 mem:=by simp
 obj:=λi h st b f=>by
  let e:b=it:= ~~~f
  subst e;let#[o,e,c,dd]:=st;show#[o,e,λv z=>by rw[dd]at z;cases z]
 keep:=λi h h' st k=>st.at λo e=>k it (by simp) o e
 item:=by
  intro X u B D U i ϵ s σ H E I p st j;subst u B D;let hi:i<↥ks:=j.1;let F:=g s.heap (show ώ X.prog X.w H s.heap d (.frz o (.dK Ϸ))from I.hok d _ j.2).1;let G:↥vs=↥ks:=by have:=congrArg apW q;simpa using this
  let J:vs[i]?=↑(vs[i]'()):=ϳ _;let W:(vs[i]'()).1=Sum.inl ks[i]:=by
   let e1:(vs.map (·.1))[i]?=↑(vs[i]'()).1:=by rw[abD,J];rfl
   rw[q,abD,ϳ hi]at e1;simpa using e1.symm
  generalize vs[i]'()=Y at J W;let#[k,x]:=Y;let#[L,M,Z,O,Q,R]:=p it (by simp);show wpAny_pyNext_dict_item st F J λS h' l a T=>?_
  let I1:Inv X ϵ σ H {s with heap:=h'}:=I.turned (t':=s.toks) (λb o f e=>(T.2 b f).trans e) L M O Q R;let m:k=Sum.inl ks[i]:=W;obtain⟨i',t,n,rfl⟩|⟨y,t,n,_⟩:=jc (k:=k) (v:=S) l
  .rw[m]at n;cases n;let#[o,e,c,dd]:=id a;show#[_,rfl,rB (s:={s with heap:=h'}) e c dd (by decide) #[.int ks[i],H,I1,#[t,rfl],#[rfl,ks[i],ϳ hi,rfl],a,λb f=>(p b f).1]]
  .rw[m]at n;cases n
 done:=by
  intro X u B D U i ϵ s σ H E I p st j;subst u B D;let e:i=↥ks:=j.1;let F:=g s.heap (show ώ X.prog X.w H s.heap d (.frz o (.dK Ϸ))from I.hok d _ j.2).1;let G:↥vs=↥ks:=by have:=congrArg apW q;simpa using this
  let#[L,M,Z,O,Q,R]:=p it (by simp);let hn:vs[i]?=none:=an8 ();show wpAny_pyNext_dict_end (I.ok.hd U) st F hn λh' eb=>#[rfl,I.turned (t':=s.toks) (λb o f e=>eb b o f e) L M O Q R]
 self:=λ_ _ _ _ _ st h=>wpAny_pyIter_keyiter st h
def agj(h:EV X a σ H λv H1=>∃(d:δ)(o:Obj)(Ϸ:List (Key×V))(ks:List Int),v=.ref d/\H1 d=↑(.frz o (.dK Ϸ))/\Ϸ.map (·.1)=ks.map Sum.inl/\R (JX d o Ϸ ks) H1):EI X tg a σ H R:=by
 intro ϵ s I;show χ (h ϵ s I) λv c m=>?_
 let#[x,H1,f,rx,d,o,Ϸ,ks,ex,hd,n,q]:=m;subst ex;obtain rfl:v=Value.ref d:=rx;let#[z,lo,vs,p,g]:=lJ f.hok (.inr #[o,hd]);let#[ep,i]:=g.dictAt;let u:=(show ώ X.prog X.w H1 c.heap d (.frz o (.dK Ϸ))from f.hok d _ hd).1;show wpAny_pyIter_dict lo i ?_*>#[⇑c,[⇑c],_,JX d o Ϸ ks,H1,rfl,f.kept (t':=c.toks) (λb o e=>ϲ _ e),ahC ⇑c d o Ϸ ks vs ep (by rw[<-p.keys];show n) (acu i.lt_size) (λh e=>i.at' λo' l=>by rw[u]at l;cases l;show e),#[_,abj _ rfl,rfl,rfl],λb y=>?_,q];let j:b=⇑c:= ~~~y
 subst j;show f.fpOk (Ϭ _) (f.hok.fresh (Ϭ _))
def Oi(s:akR ∅ X.A X.env X.xe)(u:X.calm=true)(hs:∀x,foldedSetIterable e X.env x=pure x)(h:EV X e σ H λv H1=>∃(d:δ)(o:Obj)(Ϸ:List (Key×V))(ks:List Int),v=.ref d/\H1 d=↑(.frz o (.dK Ϸ))/\Ϸ.map (·.1)=ks.map Sum.inl/\∃a:Nat->St->Hp->Prop,a 0 σ H1/\(∀i σ' H',a i σ' H'->H' d=↑(.frz o (.dK Ϸ)))/\
   (∀i k σ' H',ks[i]?=↑k->a i σ' H'->EG X tg (.int k) σ' H' λc H2=>Η X body {D with nx:=a (i+1),ct:=a (i+1),bk:=D.nx} c H2)/\∀σ' H',a ↥ks σ' H'->D.nx σ' H'):SX X (.For tg e body [] pos) D σ H:=by
 show lV s u hs (agj (ϙ h λv H1 q=>?_));let#[d,o,Ϸ,ks,rfl,hd,j,a,p0,f,l,n]:=q;show#[d,o,Ϸ,ks,rfl,hd,j,λi m σ H=>m=↥ks-i/\i<=↥ks/\a i σ H,#[↥ks,by simp,aeG _,p0],?_]
 rintro i m σ' H' ⟨rfl,hi,p⟩
 by_cases g:i<↥ks
 .show .inr #[#[g,f i _ _ p],a (i+1),λc H2 p2=>#[↥ks-(i+1),(),rfl,g,p2],λx H2 y=>?_];let#[rfl,k,j,rfl]:=y;show l i k σ' _ j p
 .let e:i=↥ks:=()
  show .inl #[#[e,f i _ _ p],?_];subst e;show n σ' H' p
def pw{α:Type}(lt:Nat->Nat->Bool)(n:Nat):KasT α->(α->Prop)->Prop
 |.ret a,Q=>Q a
 |.ask i j k,Q=>i<n/\j<n/\pw lt n (k (lt i j)) Q
theorem sO{α β:Type}{n:Nat}{f:α->KasT β}{Q:β->Prop}:∀(t:KasT α),pw lt n t (λa=>pw lt n (f a) Q)->pw lt n (t.bind f) Q
 |.ret a,h=>h
 |.ask i j k,h=>#[h.1,h.2.1,sO (k (lt i j)) h.2.2]
theorem jf{α:Type}{n:Nat}{Q c:α->Prop}(e:∀a,Q a->c a):∀(t:KasT α),pw lt n t Q->pw lt n t c
 |.ret a,h=>e a h
 |.ask i j k,h=>#[h.1,h.2.1,jf e (k (lt i j)) h.2.2]
theorem RQ{α:Type}{n:Nat}{c:Nat->Nat->(Bool->μ->Prop)->μ->Prop}{I:μ->Prop}{G:α->μ->Prop}(f:∀i j C s,i<n->j<n->I s->(∀s',I s'->C (lt i j) s')->c i j C s):∀(t:KasT α)(s:μ),I s->pw lt n t (λa=>∀s,I s->G a s)->t.kasWp c G s
 |.ret a,s,hs,h=>h s hs
 |.ask i j k,s,hs,h=>f i j _ s h.1 h.2.1 hs λs' e=>RQ f (k (lt i j)) s' e h.2.2
structure aZ(lt:Nat->Nat->Bool):Prop where
 ir:∀i,lt i i=false
 tr:∀i j k,lt i j=true->lt j k=true->lt i k=true
 nt:∀i j k,lt i k=true->lt i j=true\/lt j k=true
section
variable{lt:Nat->Nat->Bool}{n:Nat}(W:aZ lt)
def aZ.as(W:aZ lt)(h:lt i j=true):lt j i=false:=by
 rw[al4];intro h2;have:=W.tr i j i h h2;rw[W.ir]at this;cases this
def Rk(lt:Nat->Nat->Bool)(i j:Nat):Prop:=lt i j=true\/(lt j i=false/\i<j)
def aZ.sV(W:aZ lt)(h:lt a b=true)(h2:lt c b=false):lt a c=true:=by
 obtain h|h:=W.nt a c b h
 .show h
 .rw[h2]at h;cases h
def aZ.Yq(W:aZ lt)(h:lt b c=true)(h2:lt b a=false):lt a c=true:=by
 obtain h|h:=W.nt b a c h
 .rw[h2]at h;cases h
 .show h
def aZ.rtr(W:aZ lt)(h:Rk lt i j)(h2:Rk lt j k):Rk lt i k:=by
 obtain h|⟨h,h'⟩:=h
 .obtain h2|⟨h2,a⟩:=h2
  .show .inl (W.tr _ _ _ h h2)
  .show .inl (W.sV h h2)
 .obtain h2|⟨h2,a⟩:=h2
  .show .inl (W.Yq h2 h)
  .show .inr #[?_,()];rw[al4];intro c;obtain h4|h4:=W.nt k j i c
   .rw[h2]at h4;cases h4
   .rw[h]at h4;cases h4
abbrev gt(p:Array Nat)(k:Nat):Nat:=p.getD k 0
def Ba(h:p[k]?=↑v):gt p k=v:=by
 let#[a,e]:=akh.mp h;show p.getD k 0=v;simp[at8,a,e]
def w6(h:k<p.size):p[k]?=↑(gt p k):=by
 show p[k]?=↑(p.getD k 0);simp[at8,h]
def iI(a:j<=p.size)(c:k<p.size:=by omega):gt (kas_rev p i j) k=if i<=k/\k<j then gt p (i+j-1-k)else gt p k:=by
 apply Ba;unfold kas_rev;rw[getElem?_mirror_all a];by_cases h:i<=k/\k<j
 .rw[if_pos h,if_pos h];show w6 ()
 .rw[if_neg h,if_neg h];show w6 c
theorem amV:(kas_rev p i j).size=p.size:=mirror_size _ _ _ _
def aju(a:k<p.size)(hd:d<=k)(c:j<p.size):gt (bubble p k d) j=if j=k-d then gt p k else if k-d<j/\j<=k then gt p (j-1)else gt p j:=by
 apply Ba;rw[getElem?_bubble a d hd];by_cases h1:j=k-d
 .rw[if_pos h1,if_pos h1];show w6 a
 .rw[if_neg h1,if_neg h1];by_cases h2:k-d<j/\j<=k
  .rw[if_pos h2,if_pos h2];show w6 ()
  .rw[if_neg h2,if_neg h2];show w6 c
structure Pl(n:Nat)(p:Array Nat)(m:Nat):Prop where
 size:p.size=n
 low:∀i,i<m->gt p i<m
 tail:∀k,m<=k->k<n->gt p k=k
 pm:p.toList.Perm (acV n)
def Pl.all(h:Pl n p m)(a:m<=n)(hi:i<n):gt p i<n:=by
 by_cases h1:i<m
 .have :=h.low i h1;omega
 .rw[h.tail i () hi];show hi
def Pl.up(h:Pl n p m)(a:m<n):Pl n p (m+1):=by
 show#[h.size,λi hi=>?_,λk h1 h2=>h.tail k () h2,h.pm];by_cases h1:i<m
 .have :=h.low i h1;omega
 .let e:i=m:=()
  subst e;rw[h.tail i (Ϭ _) a];omega
def Pl.rev(h:Pl n p m)(c:m<=n)(e:j<=m):Pl n (kas_rev p i j) m:=by
 let hs:=h.size;show#[by rw[amV];show hs,λk a=>?_,λk h1 h2=>?_,(asm.mp (mirror_perm p i j ((j-i) / 2)))<|>h.pm]
 .rw[iI ()];split
  .show h.low _ ()
  .show h.low _ a
 .rw[iI (),if_neg ()];show h.tail k h1 h2
def gK(lt:Nat->Nat->Bool)(p:Array Nat)(m:Nat):=∀i j,i<j->j<m->Rk lt (gt p i) (gt p j)
def jo(lt:Nat->Nat->Bool)(p:Array Nat)(m:Nat):=∀i j,i<j->j<m->Rk lt (gt p j) (gt p i)
def jo.rev(h:jo lt p m)(a:m<=p.size):gK lt (kas_rev p 0 m) m:=by
 intro i j c e;rw[iI a,iI a,if_pos (),if_pos ()];show h _ _ () ()
theorem Il(W:aZ lt):∀(f m:Nat),1<=m->m+f<=n->Pl n p m->gK lt p m->pw lt n (kas_asc p f m) λm'=>m<=m'/\m'<=m+f/\Pl n p m'/\gK lt p m'/\(m'<m+f->lt (gt p m') (gt p (m'-1))=true)
 |0,m,h1,g,a,ha=>#[Ϭ _,Ϭ _,a,ha,λh=>absurd h ()]
 |f+1,m,h1,g,a,ha=>by
  show#[a.all () (),a.all () (),?_];cases e:lt (gt p m) (gt p (m-1))with
  |true=>
   show pw lt n (if true=true then _ else _) _;rw[if_pos rfl];show#[Ϭ _,(),a,ha,λ_=>e]
  |false=>
   show pw lt n (if false=true then _ else _) _;rw[if_neg (by decide)];let hn:Rk lt (gt p (m-1)) (gt p m):=.inr #[e,by rw[a.tail m (Ϭ _) ()];show a.low _ ()];show jf (λm' h=>#[(),(),h.2.2.1,h.2.2.2.1,λh2=>h.2.2.2.2 ()]) _ (Il W f (m+1) () () (a.up ()) λi j c u=>?_);by_cases l:j<m
   .show ha i j c l
   .let q:j=m:=()
    subst q;by_cases s:i=j-1
    .rw[s];show hn
    .show W.rtr (ha i (j-1) () ()) hn
structure Dn(lt:Nat->Nat->Bool)(p:Array Nat)(m q:Nat):Prop where
 few:q+1<=m
 ahead:∀i j,i<j->j<m-(q+1)->Rk lt (gt p j) (gt p i)
 drop:∀i j,i<m-(q+1)->m-(q+1)<=j->j<m->lt (gt p j) (gt p i)=true
 aJ:∀i j,m-(q+1)<=i->i<j->j<m->lt (gt p i) (gt p j)=false/\lt (gt p j) (gt p i)=false/\gt p i<gt p j
def Dn.done(h:Dn lt p m q)(e:m<=p.size):jo lt (if q>0 then kas_rev p (m-(q+1)) m else p) m:=by
 let h1:=h.few;by_cases f:q>0
 .rw[if_pos f];intro i j a g;rw[iI e,iI e];by_cases hi:m-(q+1)<=i
  .rw[if_pos (),if_pos ()];have:=h.aJ (m-(q+1)+m-1-j) (m-(q+1)+m-1-i) () () ();show .inr #[this.2.1,this.2.2]
  .rw[if_neg (show ¬(m-(q+1)<=i/\i<m)by omega)];by_cases c:m-(q+1)<=j
   .rw[if_pos ()];show .inl (h.drop _ _ () () ())
   .rw[if_neg ()];show h.ahead i j a ()
 .rw[if_neg f];intro i j a g;by_cases c:m-(q+1)<=j
  .show .inl (h.drop _ _ () c g)
  .show h.ahead i j a ()
def jo.next(W:aZ lt)(h:jo lt p m)(h1:1<=m)(hl:∀i,i<m->lt (gt p m) (gt p i)=true):Dn lt p (m+1) 0:=by
 show#[(),λi j f g=>h i j f (),λi j hi g l=>?_,λi j a b c=>absurd b ()];let e:j=m:=()
 subst e;show hl i ()
def jo.low(W:aZ lt)(h:jo lt p m)(h1:1<=m)(hl:lt x (gt p (m-1))=true):∀i,i<m->lt x (gt p i)=true:=by
 intro i hi;by_cases e:i=m-1
 .rw[e];show hl
 .rcases h i (m-1) () ()with h2|⟨h2,_⟩
  .show W.tr _ _ _ hl h2
  .show W.sV hl h2
theorem BP(W:aZ lt):∀(f:Nat)(p:Array Nat)(m q:Nat),m+f<=n->Pl n p m->Dn lt p m q->pw lt n (kas_desc f p m q) λr=>m<=r.2.1/\r.2.1<=m+f/\Pl n r.1 r.2.1/\Dn lt r.1 r.2.1 r.2.2
 |0,p,m,q,F,a,hd=>#[Ϭ _,Ϭ _,a,hd]
 |f+1,p,m,q,F,a,hd=>by
  let B:=hd.few;let hsz:=a.size;show#[a.all () (),a.all () (),?_];cases e:lt (gt p m) (gt p (m-1))with
  |true=>
   show pw lt n (if true=true then _ else _) _;rw[if_pos rfl];let l:=hd.done ();by_cases D:q>0
   .rw[if_pos D]at l⊢;let u:=a.rev (i:=m-(q+1)) (j:=m) () (Ϭ _);let em:gt (kas_rev p (m-(q+1)) m) m=gt p m:=by rw[iI (),if_neg ()]
    let G:gt (kas_rev p (m-(q+1)) m) (m-1)=gt p (m-(q+1)):=by
     rw[iI (),if_pos ()]
     congr 1
     omega
    let H:lt (gt p m) (gt p (m-(q+1)))=true:=W.sV e (hd.aJ (m-(q+1)) (m-1) (Ϭ _) () ()).1;show jf (λr h=>#[(),(),h.2.2]) _ (BP W f _ (m+1) 0 () (u.up ()) (l.next W () λi hi=>?_));rw[em];show l.low W () (by rw[G];show H) i hi
   .rw[if_neg D]at l⊢;show jf (λr h=>#[(),(),h.2.2]) _ (BP W f _ (m+1) 0 () (a.up ()) (l.next W () (l.low W () e)))
  |false=>
   show pw lt n (if false=true then _ else _) _;rw[if_neg (by decide)];show#[a.all () (),a.all () (),?_];cases e2:lt (gt p (m-1)) (gt p m)with
   |true=>
    show pw lt n (if true=true then _ else _) _;rw[if_pos rfl];show#[Ϭ m,show m<=m+(f+1)by omega,a,hd]
   |false=>
    show pw lt n (if false=true then _ else _) _;rw[if_neg (by decide)];let v:=a.tail m (Ϭ _) ();show jf (λr h=>#[(),(),h.2.2]) _ (BP W f p (m+1) (q+1) () (a.up ()) #[(),λi j g E=>hd.ahead i j g (),λi j hi E I=>?_,λi j hi g E=>?_])
    .by_cases x:j<m
     .show hd.drop i j () () x
     .let y:j=m:=()
      subst y;show W.Yq (hd.drop i (j-1) () () ()) e2
    .by_cases x:j<m
     .show hd.aJ i j () g x
     .let y:j=m:=()
      subst y;let c:gt p i<gt p j:=by rw[v];show a.low i ()
      by_cases s:i=j-1
      .rw[s];rw[s]at c;show#[e2,e,c]
      .let h3:=hd.aJ i (j-1) () () ();show#[?_,?_,c]
       .rw[al4];intro z;obtain h5|h5:=W.nt _ (gt p (j-1)) _ z
        .rw[h3.1]at h5;cases h5
        .rw[e2]at h5;cases h5
       .rw[al4];intro z;obtain h5|h5:=W.nt _ (gt p (j-1)) _ z
        .rw[e]at h5;cases h5
        .rw[h3.2.1]at h5;cases h5
def Z1(W:aZ lt)(a:Pl n p m)(hd:jo lt p m)(h1:1<=m:=by omega)(c:m<=n:=by omega):pw lt n (kas_tail3 m n p) λr=>1<=r.1/\r.1<=n/\Pl n r.2 r.1/\gK lt r.2 r.1:=by
 let hsz:=a.size;show sO _ (jf (λm' h=>#[by show 1<=m';omega,by show m'<=n;omega,h.2.2.1,h.2.2.2.1]) _ (Il W (n-m) m h1 () (a.rev c (Ϭ _)) (hd.rev ())))
def UJ(W:aZ lt)(h1:1<=m)(f:m<n)(g:Pl n p m)(hd:jo lt p m)(hl:lt (gt p m) (gt p (m-1))=true):pw lt n (kas_descPart m n p) λr=>1<=r.1/\r.1<=n/\Pl n r.2 r.1/\gK lt r.2 r.1:=by
 show sO _ (jf (λr h=>?_) _ (BP W (n-(m+1)) p (m+1) 0 () (g.up f) (hd.next W h1 (hd.low W h1 hl))));let#[j,l,c,i]:=h;let hsz:=c.size;let a:=i.done ();show pw lt n (if r.2.2>0 then _ else _) _;by_cases e:r.2.2>0
 .rw[if_pos e]at a⊢;show Z1 W (c.rev () (Ϭ _)) a
 .rw[if_neg e]at a⊢;show Z1 W c a
def ano:Pl n (afj (acV n)) 1:=by
 let a:∀k,k<n->gt (afj (acV n)) k=k:=λk c=>Ba (by simp[c])
 show#[by simp,λi hi=>?_,λk _ h2=>a k h2,by simp];by_cases h:i<n
 .rw[a i h];show hi
 .show(afj (acV n)).getD i 0<1;simp[at8,h]
def acx(W:aZ lt)(h1:1<=n):pw lt n (kas_count n (afj (acV n))) λr=>1<=r.1/\r.1<=n/\Pl n r.2 r.1/\gK lt r.2 r.1:=by
 show sO _ (jf (λm h=>?_) _ (Il W (n-1) 1 (Ϭ _) () ano λi j a b=>absurd a ()));let#[y,E,c,g,z]:=h;let hsz:=c.size;show pw lt n (if(m==n)=true then _ else _) _;by_cases l:m=n
 .rw[if_pos (by rw[beq_iff_eq];show l)];show#[by show 1<=m;omega,by show m<=n;omega,c,g]
 .rw[if_neg (by rw[beq_iff_eq];show l)];let f:=z ();by_cases q:m>1
  .rw[if_pos q];show#[c.all () (),c.all () (),?_];cases e:lt (gt (afj (acV n)) 0) (gt (afj (acV n)) (m-1))with
   |true=>
    show pw lt n (if true=true then _ else _) _;rw[if_pos rfl];show#[by show 1<=m;omega,by show m<=n;omega,c,g]
   |false=>
    show pw lt n (if false=true then _ else _) _;rw[if_neg (by decide)];generalize afj (acV n)=p at c g f e hsz⊢;let s:∀i,i<m->lt (gt p i) (gt p 0)=false:=λi hi=>by
     by_cases u:i=0
     .rw[u];show W.ir _
     .rcases g 0 i () hi with h|h
      .show W.as h
      .show h.1
    let v:∀j,j<m->lt (gt p (m-1)) (gt p j)=false:=λj x=>by
     by_cases u:j=m-1
     .rw[u];show W.ir _
     .rcases g j (m-1) () ()with h|h
      .show W.as h
      .show h.1
    let aJ:∀i j,i<m->j<m->lt (gt p i) (gt p j)=false:=λi j hi x=>by
     rw[al4];intro h;obtain h2|h2:=W.nt _ (gt p 0) _ h
     .rw[s i hi]at h2;cases h2
     .obtain h3|h3:=W.nt _ (gt p (m-1)) _ h2
      .rw[e]at h3;cases h3
      .rw[v j x]at h3;cases h3
    let B:jo lt (kas_rev p 0 m) m:=λi j D x=>by
     rw[iI (),iI (),if_pos (),if_pos ()];show .inr #[aJ _ _ () (),?_];rcases g (0+m-1-j) (0+m-1-i) () ()with h|h
     .rw[aJ _ _ () ()]at h;cases h
     .show h.2
    show UJ W y () (c.rev () (Ϭ _)) B ?_;rw[iI (),iI (),if_neg (),if_pos ()];show W.sV f (aJ _ _ () ())
  .rw[if_neg q];let em:m=1:=()
   subst em;show UJ W y () c (λi j a b=>absurd a ()) f
theorem Hk(W:aZ lt)(g:k<n)(c:Pl n p k)(ha:gK lt p k):∀(f l r:Nat),r-l<=f->l<=r->r<=k->(∀i,i<l->lt (gt p k) (gt p i)=false)->(∀i,r<=i->i<k->lt (gt p k) (gt p i)=true)->
  pw lt n (kas_place p k f l r) λl'=>l'<=k/\(∀i,i<l'->lt (gt p k) (gt p i)=false)/\∀i,l'<=i->i<k->lt (gt p k) (gt p i)=true
 |0,l,r,u,j,m,h1,h2=>#[(),h1,λi a b=>h2 i () b]
 |f+1,l,r,u,j,m,h1,h2=>by
  show pw lt n (if l≥r then _ else _) _;by_cases h:l≥r
  .rw[if_pos h];show#[(),h1,λi a b=>h2 i () b]
  .rw[if_neg h];let q:(l+r) / 2<r/\l<=(l+r) / 2:=()
   show#[c.all () g,c.all () (),?_];cases e:lt (gt p k) (gt p ((l+r) / 2))with
   |true=>
    show pw lt n (if true=true then _ else _) _;rw[if_pos rfl];show Hk W g c ha f l ((l+r) / 2) () () () h1 λi a b=>?_
    by_cases hi:i=(l+r) / 2
    .rw[hi];show e
    .rcases ha ((l+r) / 2) i () b with h3|h3
     .show W.tr _ _ _ e h3
     .show W.sV e h3.1
   |false=>
    show pw lt n (if false=true then _ else _) _;rw[if_neg (by decide)];show Hk W g c ha f ((l+r) / 2+1) r () () m (λi a=>?_) h2;by_cases hi:i=(l+r) / 2
    .rw[hi];show e
    .rw[al4];intro s;rcases ha i ((l+r) / 2) () ()with h3|h3
     .have :=W.tr _ _ _ s h3;rw[e]at this;cases this
     .have :=W.sV s h3.1;rw[e]at this;cases this
theorem Xb(W:aZ lt):∀(f:Nat)(p:Array Nat)(k:Nat),k+f=n->Pl n p k->gK lt p k->pw lt n (kas_bin f p k) λp'=>Pl n p' n/\gK lt p' n
 |0,p,k,x,c,ha=>by
  let e:k=n:=()
  subst e;show#[c,ha]
 |f+1,p,k,x,c,ha=>by
  let hsz:=c.size;show sO _ (jf (λl h=>?_) _ (Hk W () c ha k 0 k () () (Ϭ _) (λi hi=>absurd hi ()) λi a b=>absurd a ()));let#[hl,h1,h2]:=h;let s:∀j,j<n->gt (bubble p k (k-l)) j=if j=l then gt p k else if l<j/\j<=k then gt p (j-1)else gt p j:=λj y=>by
   rw[aju () () (),show k-(k-l)=l by omega]
  let g:=c.tail k (Ϭ _) ();show Xb W f _ (k+1) () #[by rw[bubble_size];show hsz,λi hi=>?_,λi a b=>?_,(asm.mp (bubble_perm p k (k-l)))<|>c.pm] λi j u y=>?_
  .rw[s i ()];split
   .rw[g];omega
   .split
    .have :=c.low (i-1) ();omega
    .have :=c.low i ();omega
  .rw[s i b,if_neg (),if_neg ()];show c.tail i () b
  .rw[s i (),s j ()];by_cases v:i<l
   .rw[if_neg (),if_neg ()];by_cases m:j=l
    .rw[if_pos m];show .inr #[h1 i v,by rw[g];show c.low i ()]
    .rw[if_neg m];split
     .show ha i (j-1) () ()
     .show ha i j u ()
   .by_cases q:i=l
    .rw[if_pos q,if_neg (),if_pos ()];show .inl (h2 (j-1) () ())
    .rw[if_neg q,if_pos (),if_neg (),if_pos ()];show ha (i-1) (j-1) () ()
def ae3(W:aZ lt)(h1:1<=n):pw lt n (kas_sort n) λp=>Pl n p n/\gK lt p n:=by
 show sO _ (jf (λr h=>?_) _ (acx W h1));let#[f,g,a,c]:=h;show pw lt n (if r.1<n then _ else _) _;by_cases h:r.1<n
 .rw[if_pos h,show max r.1 1=r.1 by omega];show Xb W (n-r.1) r.2 r.1 () a c
 .rw[if_neg h];let e:r.1=n:=()
  rw[e]at a c;show#[a,c]
end
abbrev Cx.ϕ(X:Cx):Cx:={X with A:=X.A.in1.in1}
section
variable{X:Cx}{ϵ:List (δ×Obj)}{σ:St}{H:Hp}{s:μ}
theorem Cx.Ok.ϕ(ok:X.Ok):X.ϕ.Ok:=
 #[ok.mod,ok.kind,ok.glob,ok.blt,ok.above,ok.inj,ok.has,ok.cab,ok.hd,ok.frames,ok.stk,ok.exf,ok.bs,ok.bsz,ok.noex,ok.exfs,ok.funs,ok.frf]
theorem Inv.ϕ(I:Inv X ϵ σ H s):Inv X.ϕ ϵ σ H s:=#[I.ok.ϕ,I.os,I.bare,I.base,I.loc,I.cell,I.free,I.freeC,I.pin,I.hok,I.len]
theorem Inv.un2(ok:X.Ok)(I:Inv X.ϕ ϵ σ H s):Inv X ϵ σ H s:=#[ok,I.os,I.bare,I.base,I.loc,I.cell,I.free,I.freeC,I.pin,I.hok,I.len]
def Inv.aht(I:Inv X ϵ σ H s)(hn:H e=none)(c:Ch X ϵ e)(ok:ώ X.prog X.w (upd H e o) s.heap e o):Inv X ϵ σ (upd H e o) s:=by
 let ne:∀b u,H b=↑u->b≠e:=λb u q=>ό q hn
 have:=I.step (h':=s.heap) (H':=upd H e o) (g':=s.gens) (d':=s.drawn) (t':=s.toks) (ch:=[e]) (λb a=>?_) (λb o _ _ _ q _=>q) (λb o _ _ _ q _=>#[o.slots,q]) (λb o f _ n=>?_) (λb o _ q=>#[o,q]) (λb xs q=>?_) (λb o u q=>?_) (λb ps q=>?_) (λm g=>g) (λb u q=>?_) I.bare
 .show this
 .let z:b=e:= ~~~a
  subst z;show c
 .rw[θ (λz=>f (by simp[z]))];show n
 .rw[θ (ne<*q)];show q
 .rw[θ (ne<*q)];show q
 .show#[#v[],by rw[θ (ne<*q),q];simp]
 .by_cases z:b=e
  .subst z;rw[ς]at q;cases q;show ok
  .rw[θ z]at q;show(I.hok b u q).stay (λ_ _ _ r=>r) (λc r=>by rw[θ (ne<*r)];show r) (λc xs r=>by rw[θ (ne<*r)];show r) λc i v r=>by rw[θ (ne<*r)];show r
theorem bW.ch(f:bW X ϵ H b):Ch X ϵ b:=#[f.2.2.2.1,f.2.1,f.2.2.2.2.1,f.2.2.2.2.2]
def aB(X:Cx)(ϵ:List (δ×Obj))(H:Hp)(s:μ)(b:δ)(vs:List ε)(e:Nat):Prop:=s.heap.get? b=↑(seqObj "list" vs.toArray e)/\bW X ϵ H b
theorem Xw:∀v,(seqObj c xs e).data≠.cell v:=λv h=>by cases h
def aB.set(I:Inv X ϵ σ H s)(h:aB X ϵ H s b vs e)(a:aB X ϵ H s c ws ec)(p:c≠b)(u:g vs.toArray=us.toArray):∃v,Inv X ϵ σ H {s with heap:=s.heap.update b (Obj.mapSeq g)}/\aB X ϵ H {s with heap:=s.heap.update b (Obj.mapSeq g)} b us v/\aB X ϵ H {s with heap:=s.heap.update b (Obj.mapSeq g)} c ws ec:=by
 let#[h1,f,i,y,j,l,m]:=h;let hs:=Heap.SameBut.update s.heap b (Obj.mapSeq g);let n:=get?_update_seq h1 g;rw[u]at n;show#[_,I.turned (t':=s.toks) (it:=b) (λx o z q=>(hs.2 x z).trans q) f i j l m,#[n,f,i,y,j,l,m],#[(hs.2 c p)<|>a.1,a.2]]
theorem aB.pin(I:Inv X ϵ σ H s)(h:aB X ϵ H s kS vs e)(c:aB X ϵ H s D ws f):Inv X (ϵ++gZ [kS,D] s.heap) σ H s:=
 I.pinned (λb a=>by
  obtain z|z:=aaB.mp a
  .rw[z];show h.2
  .let z:b=D:= ~~~z
   rw[z];show c.2) λb a=>by
  obtain z|z:=aaB.mp a
  .rw[z];show#[_,h.1,Xw]
  .let z:b=D:= ~~~z
   rw[z];show#[_,c.1,Xw]
def aB.Vd(h:aB X ϵ H s kS vs e)(a:aB X ϵ H s D ws ec)(I:Inv X (ϵ++gZ [kS,D] s.heap) σ H' s'):Inv X ϵ σ H' s'/\aB X ϵ H' s' kS vs e/\aB X ϵ H' s' D ws ec:=by
 let one:∀(b:δ)(us:List ε)(eb:Nat),b∈[kS,D]->aB X ϵ H s b us eb->aB X ϵ H' s' b us eb:=λb us eb c o=>by
  let f:(b,seqObj "list" us.toArray eb)∈X.pn++(ϵ++gZ [kS,D] s.heap):=by
   show adv _ (adv _ ?_);unfold gZ;show alq.mpr #[b,c,by rw[o.1];rfl]
  let#[p1,p2,p3,g,i]:=I.pin _ f;show#[p1,p2,o.2.2.1,o.2.2.2.1,o.2.2.2.2.1,o.2.2.2.2.2.1,o.2.2.2.2.2.2]
 show#[I.unpinned,one kS vs e (by simp) h,one D ws ec (by simp) a]
structure Az(X:Cx)(σ:St)(f:ε)(vs:List ε)(H₁:Hp)(Kp:Nat->ε->Hp->Prop):Prop where
 mono:∀i k H H',ζ H H'->Kp i k H->Kp i k H'
 call:∀i v ϵ s H,vs[i]?=↑v->ζ H₁ H->Inv X.ϕ ϵ σ H s->π ∅ X.A.in1.in1 (call f [v]) (λk s'=>∃H',Inv X.ϕ ϵ σ H' s'/\ζ H H'/\Kp i k H') (λ_ _=>False) s
def Et(X:Cx)(σ:St)(H:Hp)(ks:List ε)(lt:Nat->Nat->Bool)(κ:SortKind):Prop:=
 ∀i j a c ϵ s,ks[i]?=↑a->ks[j]?=↑c->Inv X.ϕ ϵ σ H s->π ∅ X.A.in1.in1 (keyLt' κ a c) (λr s'=>r=lt i j/\Inv X.ϕ ϵ σ H s') (λ_ _=>False) s
structure qi(X:Cx)(σ:St)(n:Nat)(Kp:Nat->ε->Hp->Prop)(lt:Nat->Nat->Bool):Prop where
 kind:∀ϵ s H ks,Inv X.ϕ ϵ σ H s->↥ks=n->2<=n->(∀(i:Nat) k,ks[i]?=↑k->Kp i k H)->
  π ∅ X.A.in1.in1 (keyKind' (afj ks)) (λκ s'=>Inv X.ϕ ϵ σ H s'/\Et X σ H ks lt κ) (λ_ _=>False) s
def jO(b:Bool)(lt:Nat->Nat->Bool)(i j:Nat):Bool:=if b=true then lt j i else lt i j
def fH(n:Nat)(lt:Nat->Nat->Bool)(q:List Nat):Prop:=q.Perm (acV n)/\q.Pairwise (Rk lt)
theorem Zj(h:p.toList[i]?=↑v):gt p i=v:=Ba (by rw[<-arD];show h)
def aiA(h:Pl n p n)(a:gK lt p n):fH n lt p.toList:=by
 show#[h.pm,?_];let hl:↥p.toList=n:=by rw[ajA];show h.size
 rw[apw];intro i j hi e c;let h1:=Zj (ϳ hi);let h2:=Zj (ϳ e);rw[<-h1, <-h2];show a i j c ()
def ac5(h:fH n (λi j=>lt (n-1-i) (n-1-j)) q):fH n (jO true lt) (q.map (n-1- ·)).reverse:=by
 let#[f,g]:=h;let a:∀x∈q,x<n:=λx c=>ajm.mp (f.subset c)
 show#[?_,?_]
 .show(ato _).trans ((f.map _).trans ?_);let e:(acV n).map (n-1- ·)=(acV n).reverse:=by
   apply atG
   .simp
   .intro i h1 h2;simp at h1;simp
  rw[e];show ato _
 .rw[asS,ao9];show g.imp_of_mem λ{x y} c l r=>?_;let h1:=a x c;let h2:=a y l;obtain r|⟨r,m⟩:=r
  .show .inl r
  .show .inr #[r,()]
end
section
variable{X:Cx}{ϵ:List (δ×Obj)}{σ:St}{H H₁:Hp}{s:μ}{vs:List ε}{f:ε}{b:Bool}{Kp:Nat->ε->Hp->Prop}{lt:Nat->Nat->Bool}{kS D:δ}{e1:Nat}
def agE(X:Cx)(ϵ:List (δ×Obj))(σ:St)(H₁:Hp)(Kp:Nat->ε->Hp->Prop)(kS D:δ)(e1:Nat)(ks:List ε)(s:μ):Prop:=
 ∃H' e,Inv X.ϕ ϵ σ H' s/\ζ H₁ H'/\aB X.ϕ ϵ H' s kS ks e/\aB X.ϕ ϵ H' s D [] e1/\∀(i:Nat) k,ks[i]?=↑k->Kp i k H'
theorem abv{body:ε->PUnit->Sem (ForInStep PUnit)}{E:ε->μ->Prop}{R:List ε->μ->Prop}(e:∀i v ks s,vs[i]?=↑v->↥ks=i->R ks s->π ∅ A (body v #[]) (λr s'=>r=.yield #[]/\∃k,R (ks++[k]) s') E s):∀(r ks:List ε)(s:μ),vs.drop ↥ks=r->R ks s->π ∅ A (forIn r PUnit.unit body) (λ_ s'=>∃ks,↥ks=↥vs/\R ks s') E s\/↥vs<↥ks
 |[],ks,s,a,h=>by
  by_cases hl:↥vs<↥ks
  .show .inr hl
  .left;rw[aq6];have:=List.drop_eq_nil_iff.mp a;show ϱ #[ks,(),h]
 |v::r,ks,s,a,h=>by
  left;let f:vs[↥ks]?=↑v:=by
   have:=congrArg (λl=>l[0]?) a;simp only[ath,atr]at this;simpa using this
  let g:=(aav.mp f).1;rw[anT];show ν (ac7 (e ↥ks v ks s f rfl h) (λq s' j=>?_) λ_ _ x=>x);let#[rfl,k,h2]:=j;show π ∅ A (forIn r PUnit.unit body) _ E s';let c:vs.drop ↥(ks++[k])=r:=by
   rw[abp,adS, <-asq,a];rfl
  obtain h3|h3:=abv e r (ks++[k]) s' c h2
  .show h3
  .rw[abp,adS]at h3;omega
def Xx{st:SortSt}(j:D≠kS)(I:Inv X.ϕ ϵ σ H s)(l:aB X.ϕ ϵ H s kS ks e)(m:aB X.ϕ ϵ H s D [] e1)(c:(arrOf st).map (·.2)=afj out)(z:↥out<64)(n:↥ks<64)(p:failedOf st=none)(h:∀s' q,Inv X.ϕ ϵ σ H s'->aB X.ϕ ϵ H s' D (katRev b out) q->P (.done (.ret .none)) s'):π ∅ X.A.in1.in1 (ksk_tail D b e1 (.ref kS) st) P E s:=by
 let#[B,u,f,a]:=aB.set (us:=[]) (g:=λ_=> #v[]) I l m j rfl;let#[v,x,i,y]:=aB.set (us:=katRev b out) (g:=λ_=>afj (katRev b out)) u a f (Ne.symm j) rfl;let hsz:(afj (katRev b out)).size=↥out:=by rw[abd,kat_len]
 unfold ksk_tail
 try dsimp only
 rw[c,kat_outs];show ν (listUpdate_at l.1 rfl ?_ (by rw[abd,ϯ];omega) (aeG _))*>ν (wpAny_letGo ?_)*>ν (seqEpoch_at a.1 rfl ?_)*>ν (listUpdate_at a.1 rfl ?_ (aeG _) (ad7 (anR hsz) (by rw[ϯ];omega)));rw[p];simp only[bne_self_eq_false,aqA,if_false];show ϱ (h _ v x i)
def jn(vs:List ε)(q:List Nat):List ε:=q.map λi=>vs.getD i Value.none
def aj4(W:aZ lt)(C:qi X σ ↥vs Kp lt)(Ϲ:D≠kS)(g:↥vs<64)(hl:↥ks=↥vs)(I:Inv X.ϕ ϵ σ H s)(M:aB X.ϕ ϵ H s kS ks e)(O:aB X.ϕ ϵ H s D [] e1)(hK:∀(i:Nat) k,ks[i]?=↑k->Kp i k H)(h:∀s' R q,Inv X.ϕ ϵ σ H s'->fH ↥vs (jO b lt) q->aB X.ϕ ϵ H s' D (jn vs q) R->P (.done (.ret .none)) s'):π ∅ X.A.in1.in1 (ksk_end D b vs.toArray e1 (.ref kS) (afj ks)) P E s:=by
 let step:∀t:Sem PySem.Fin,π ∅ X.A.in1.in1 t P E s->π ∅ X.A.in1.in1 (if b=true then(do let _<-rule "list.sort.reverse";t)else t) P E s:=by
  intro t ht;split
  .show ν (wpAny_rule ht)
  .show ht
 let B:↥(katRev b ks)=↥(katRev b vs):=by rw[kat_len,kat_len,hl]
 unfold ksk_end
 try dsimp only
 show step _ ?_;by_cases m:↥vs<2
 .let a:vs.toArray.size<2:=by rw[abd];omega
  rw[if_pos a,if_pos a];show ν (ϱ ?_)*>ν (ϱ ?_)
  try dsimp only
  let u:∀{α:Type}(l:List α),↥l<2->katRev b l=l:=λl hl=>by
   unfold katRev
   match l,hl with
   |[],_=>simp
   |[x],_=>simp
  rw[kat_pairs b hl,u ks (),u vs m];let v:(arrOf (SortSt.mk' general' ((afj ks).zip vs.toArray) #v[] 7 none)).map (·.2)=afj vs:=by
   show((afj ks).zip vs.toArray).map (·.2)=afj vs;apply atE.mp;rw[Array.toList_map,ksk_zip];show(ks.zip vs).map Prod.snd=vs;rw[List.map_snd_zip ()]
  show Xx Ϲ I M O v g () rfl λs' R I' F=>?_
  rw[u vs m]at F;show h s' R (acV ↥vs) I' #[List.Perm.refl _,?_] ?_
  .match ↥vs,m with
   |0,_=>show List.Pairwise.nil
   |1,_=>show List.pairwise_singleton _ _
  .let S:jn vs (acV ↥vs)=vs:=by
    unfold jn;apply atG
    .simp
    .intro i h1 h2;simp[h2]
   rw[S];show F
 .let a:¬vs.toArray.size<2:=by rw[abd];omega
  rw[if_neg a,if_neg a];show ν (ac7 (C.kind _ s H ks (M.pin I O) hl () hK) (λκ s0 T=>?_) λ_ _ x=>x.elim);let#[I0,G]:=T;rw[kat_pairs b hl];let f:∀i,i<↥vs->(katRev b ks).getD i Value.none=ks.getD (if b=true then ↥vs-1-i else i) Value.none:=λi hi=>by
   cases b with
   |false=>rfl
   |true=>
    show ks.reverse.getD i Value.none=ks.getD (↥vs-1-i) Value.none;rw[ach,ach,asT (),hl]
  let W':aZ (λi j=>lt (if b=true then ↥vs-1-i else i) (if b=true then ↥vs-1-j else j)):=#[λi=>W.ir _,λi j k=>W.tr _ _ _,λi j k=>W.nt _ _ _];let J:(kas_sort ↥(katRev b vs)).kasWp (kas_ask X.prog X.w X.A.in1.in1 κ (katRev b ks)) (λp y=>Inv X.ϕ (ϵ++gZ [kS,D] s.heap) σ H y/\Pl ↥vs p ↥vs/\gK (λi j=>lt (if b=true then ↥vs-1-i else i) (if b=true then ↥vs-1-j else j)) p ↥vs) s0:=by
   rw[kat_len];show RQ (lt:=λi j=>lt (if b=true then ↥vs-1-i else i) (if b=true then ↥vs-1-j else j)) (n:=↥vs) (I:=λy=>Inv X.ϕ (ϵ++gZ [kS,D] s.heap) σ H y) (λi j C' s1 hi hj U hC=>?_) _ s0 I0 (jf (λp L s1 U=>#[U,L.1,L.2]) _ (ae3 W' ()));unfold kas_ask;rw[f i hi,f j hj];let Y:(if b=true then ↥vs-1-i else i)<↥ks:=by split <;>omega
   let Z:(if b=true then ↥vs-1-j else j)<↥ks:=by split <;>omega
   let gi:ks[if b=true then ↥vs-1-i else i]?=↑(ks.getD (if b=true then ↥vs-1-i else i) Value.none):=by
    rw[ach,ϳ Y];rfl
   let gj:ks[if b=true then ↥vs-1-j else j]?=↑(ks.getD (if b=true then ↥vs-1-j else j) Value.none):=by
    rw[ach,ϳ Z];rfl
   show ac7 (G _ _ _ _ _ s1 gi gj U) (λr s2 hr=>?_) λ_ _ x=>x
   let#[rfl,I2]:=hr;show hC s2 I2
  show ν (ac7 (kat_run (Q:=λc s'=>∃p:Array Nat,p.size=↥(katRev b vs)/\arrOf c=p.map (kas_item ((afj (katRev b ks)).zip (afj (katRev b vs))))/\failedOf c=none/\
    Inv X.ϕ (ϵ++gZ [kS,D] s.heap) σ H s'/\Pl ↥vs p ↥vs/\gK (λi j=>lt (if b=true then ↥vs-1-i else i) (if b=true then ↥vs-1-j else j)) p ↥vs)
   B (by rw[kat_len];omega) (by rw[kat_len];show g) (λp' c s' a1 a2 a3 a4=>#[p',a1,a2,a3,a4]) J) ?_ λ_ _ x=>x)
  rintro⟨⟨⟩,c⟩ s' ⟨p,L,v,hf,I2,aa,ab⟩
  try dsimp only
  let#[I3,ac,wZ]:=aB.Vd M O I2;show Xx Ϲ I3 ac wZ (kat_snds B v) (by rw[aaw,ajA,L,kat_len];show g) () hf λs4 e4 I4 oJ=>?_
  let z:=aiA aa ab;let ae:∀x∈p.toList,x<↥vs:=λx hx=>ajm.mp (z.1.subset hx)
  cases b with
  |false=>
   show h s4 e4 p.toList I4 z ?_*>oJ
  |true=>
   show h s4 e4 _ I4 (ac5 z) ?_;let S:katRev true (p.toList.map λi=>(katRev true vs).getD i Value.none)=jn vs (p.toList.map (↥vs-1- ·)).reverse:=by
    show(p.toList.map λi=>vs.reverse.getD i Value.none).reverse=_;unfold jn;rw[atH,afm]
    congr 1
    show aqj λi hi=>?_
    show vs.reverse.getD i Value.none=vs.getD (↥vs-1-i) Value.none;rw[ach,ach,asT (ae i hi)]
   rw[S]at oJ;show oJ
def ajx(W:aZ lt)(F:Az X σ f vs H₁ Kp)(C:qi X σ ↥vs Kp lt)(O:D≠kS)(p:↥vs<64)(I:Inv X.ϕ ϵ σ H s)(sm:ζ H₁ H)(U:aB X.ϕ ϵ H s kS [] 0)(Y:aB X.ϕ ϵ H s D [] e1)(h:∀s' H' u q,Inv X.ϕ ϵ σ H' s'->ζ H₁ H'->fH ↥vs (jO b lt) q->aB X.ϕ ϵ H' s' D (jn vs q) u->P (.done (.ret .none)) s'):π ∅ X.A.in1.in1 (ksk_rest D f b vs.toArray e1 (.ref kS)) P E s:=by
 unfold ksk_rest;show ν (wpAny_rule ?_)
 first
  |rw[List.forIn_toArray]
  |(rw[<-ati];simp only[List.toList_toArray])
  |rw[<-ati]
 show ν (ac7 ((abv (X:=X) (vs:=vs) (R:=agE X ϵ σ H₁ Kp kS D e1) (λi v ks s' Q hi Z=>?_) vs [] s (by simp) #[H,0,I,sm,U,Y,λi k e=>by simp at e]).resolve_right (by simp)) (λ_ s' hd=>?_) λ_ _ x=>x)
 .let#[H',e,y,c,a,l,z]:=Z;let hil:=(aav.mp Q).1;show ν (wpAny_attempt (ac7 (F.call i v _ s' H' Q c (a.pin y l)) (λk S hq=>?_) λ_ _ hF=>hF.elim));let#[H2,B,T,G]:=hq;let#[I3,m,wZ]:=aB.Vd a l B;let ea:(afj ks).push k=afj (ks++[k]):=by simp
  let#[u,I4,J,oJ]:=aB.set (us:=ks++[k]) (g:=(·.push k)) I3 m wZ O ea
  try dsimp only
  show ν (listUpdate_at m.1 rfl ?_ (by rw[abd,ϯ];omega) (ad7 (anR (Array.size_push ..)) (by rw[abd,ϯ];omega)))*>ϱ #[rfl,k,H2,u,I4,c<|>T,J,oJ,λj kj n=>?_];by_cases L:j<↥ks
  .rw[aiJ L]at n;show F.mono _ _ _ _ T (z j kj n)
  .let hj2:=(aav.mp n).1;rw[abp,adS]at hj2;let ej:j=↥ks:=()
   subst ej;rw[anV]at n;cases n;rw[hi];show G
 .let#[ks,hl,H',e,y,c,a,l,z]:=hd
  try dsimp only
  show ν (listItems_at a.1 rfl ?_)*>aj4 W C O p hl y a l z λS e2 q B hs M=>h S H' e2 q B c hs M
end
def ac1(W:aZ lt)(F:Az X σ f vs H Kp)(C:qi X σ ↥vs Kp lt)(u:↥vs<64)(I:Inv X ϵ σ H s)(hl:s.heap.IsList l vs.toArray)(v:argsOk "sorted" #[[.ref l],kw])(y:∀x,argsOk "list.sort" #[[.ref x],kw])(G:∀x,apn.«list.sort» #[[.ref x],kw]=ksk_tree x f b)(h:∀D s' H' z q,Inv X ϵ σ H' s'->ζ H H'->fH ↥vs (jO b lt) q->aB X.ϕ ϵ H' s' D (jn vs q) z->Q (.ref D) s'):π ∅ X.A (call (.builtin "sorted") [.ref l] kw) Q E s:=by
 show call_function_entry_kw kind_sorted plain_sorted entry_sorted v ?_;unfold apn.«sorted»;show ν (m:=checkCount "sorted" 1 1 _) (ϱ ?_)*>ν (collect_list hl ?_ (by rw[ϯ];omega))*>ν (wpAny_newList ?_ (by rw[ϯ];omega));let hsz:((s.heap.push (seqObj "list" #v[] 0)).update ⇑s (Obj.mapSeq (· ++vs.toArray))).objs.size=⇑s+1:=by
  rw[atJ,size_push']
 let c:(((s.heap.push (seqObj "list" #v[] 0)).update ⇑s (Obj.mapSeq (· ++vs.toArray))).push (seqObj "list" vs.toArray 0)).get? (⇑s+1)=↑(seqObj "list" vs.toArray 0):=by
  rw[<-hsz];show abj _ rfl
 let keep:∀b o,s.heap.get? b=↑o->(((s.heap.push (seqObj "list" #v[] 0)).update ⇑s (Obj.mapSeq (· ++vs.toArray))).push (seqObj "list" vs.toArray 0)).get? b=↑o:=λb o q=>by
  let e:b<⇑s:=abA q;rw[atp _ _ _ (by rw[hsz];show acu (aq0 e)),aqi _ _ _ _ (acu e),atp _ _ _ (acu e)];show q
 show π _ _ _ _ _ {s with heap:=((s.heap.push (seqObj "list" #v[] 0)).update ⇑s (Obj.mapSeq (· ++vs.toArray))).push (seqObj "list" vs.toArray 0)};rw[hsz];let g:(((s.heap.push (seqObj "list" #v[] 0)).update ⇑s (Obj.mapSeq (· ++vs.toArray))).push (seqObj "list" vs.toArray 0)).objs.size=⇑s+2:=by rw[size_push',hsz]
 generalize((s.heap.push (seqObj "list" #v[] 0)).update ⇑s (Obj.mapSeq (· ++vs.toArray))).push (seqObj "list" vs.toArray 0)=h2 at c keep g⊢;show ν (afM (wpAny_call_entry_kw slot_list_sort #[_,c,rfl] entry_list_sort ?body (y _)))
 case body=>
  show π ∅ X.A.in1.in1 (apn.«list.sort» #[[.ref (⇑s+1)],kw]) _ _ _;rw[G];let i:⇑s<=⇑s+1:=ap1 _;generalize ⇑s+1=a at c i⊢;obtain⟨e1,j⟩:∃e1,(h2.update a (Obj.mapSeq λ_=>(#v[]:Array ε))).get? a=↑(seqObj "list" #v[] e1):=#[_,get?_update_seq c λ_=> #v[]];let n:((h2.update a (Obj.mapSeq λ_=>(#v[]:Array ε))).push (seqObj "tuple" vs.toArray 0)).objs.size=⇑s+3:=by rw[size_push',atJ,g]
  let J:∀b o,s.heap.get? b=↑o->(((h2.update a (Obj.mapSeq λ_=>(#v[]:Array ε))).push (seqObj "tuple" vs.toArray 0)).push (seqObj "list" #v[] 0)).get? b=↑o:=λb o q=>by
   let e:b<⇑s:=abA q;show ϲ _ (ϲ _ ?_);rw[aqi _ _ _ _ (acu (acp e i))];show keep b o q
  let B:((h2.update a (Obj.mapSeq λ_=>(#v[]:Array ε))).push (seqObj "tuple" vs.toArray 0)).objs.size≠a:=by
   have:=abA c;rw[n];rw[g]at this;show anM (aq0 this)
  unfold ksk_tree;show ν (listItems_at c rfl ?_)*>ν (listUpdate_at c rfl ?_ (by rw[abd,ϯ];omega) (aeG _))*>ν (seqEpoch_at j rfl ?_)*>ν (wpAny_newTuple ?_ (by show ↥vs<=_;rw[ϯ];omega))*>ν (wpAny_newList ?_ (aeG _))*>afM ?_;let L:Inv X.ϕ ϵ σ H {s with heap:=((h2.update a (Obj.mapSeq λ_=>(#v[]:Array ε))).push (seqObj "tuple" vs.toArray 0)).push (seqObj "list" #v[] 0)}:=I.ϕ.kept (t':=s.toks) J;let p:⇑s<=((h2.update a (Obj.mapSeq λ_=>(#v[]:Array ε))).push (seqObj "tuple" vs.toArray 0)).objs.size:=by rw[n];show akD _ _
  show ajx (X:=X) (ϵ:=ϵ) (σ:=σ) (H:=H) (H₁:=H) (kS:=((h2.update a (Obj.mapSeq λ_=>(#v[]:Array ε))).push (seqObj "tuple" vs.toArray 0)).objs.size) (D:=a) (e1:=e1) W F C (Ne.symm B) u L (ζ.refl _) #[abj _ rfl,I.ϕ.fpOk p (I.hok.fresh p)] #[ϲ _ (ϲ _ j),I.ϕ.fpOk i (I.hok.fresh i)] λs' H' z q M sm O P=>#[_,rfl,?_]
  show ϱ #[_,rfl,h a s' H' z q (Inv.un2 I.ok M) sm O P]
def dX(xs:List V)(q:List Nat):List V:=q.map λi=>xs.getD i .non
theorem Qv(r:Vals xs vs):∀{q:List Nat},(∀i∈q,i<↥xs)->Vals (dX xs q) (jn vs q)
 |[],_=>.nil
 |i::q,h=>by
  let hil:=h i (by simp);let hi:xs[i]?=↑(xs[i]'hil):=ϳ hil;let#[u,e,a]:=r.get hi;show Vals (xs.getD i .non::dX xs q) (vs.getD i Value.none::jn vs q);rw[ach,ach,hi,e];show .cons a (Qv r λj c=>h j (by simp[c]))
theorem pX(h:fH n lt q)(hi:i∈q):i<n:=ajm.mp (h.1.mem_iff.mp hi)
def afV(h:fH n lt q):↥q=n:=by rw[h.1.length_eq,ahu]
def abI(W:aZ lt)(hs:η X.K H l xs)(y:↥xs<64)(z:∀vs,Vals xs vs->Az X σ f vs H Kp/\qi X σ ↥xs Kp lt)(I:Inv X ϵ σ H s)(m:argsOk "sorted" #[[.ref l],kw])(u:∀x,argsOk "list.sort" #[[.ref x],kw])(B:∀x,apn.«list.sort» #[[.ref x],kw]=ksk_tree x f b)(h:∀p H' q,ζ H H'->H' p=none->fH ↥xs (jO b lt) q->Q (.ref p) (upd H' p (.lst (dX xs q)))):π ∅ X.A (call (.builtin "sorted") [.ref l] kw) (EP X ϵ σ Q) E s:=by
 let#[vs,r,pl,O]:=I.list hs;let a:=↥r;let#[F,v]:=z vs r;rw[a]at v;let#[o,n,e,c,d,G]:=pl;show ac1 (b:=b) W F v () I #[o,e,c,n,G] m u B λD s' H' J q L sm g j=>?_
 rw[<-a]at g;let M:=afV g;show#[.ref D,_,L.aht (e:=D) (o:=.lst (dX xs q)) j.2.1 j.2.ch #[?_,jn vs q,J,Qv r λi hi=>pX g hi,j.1],rfl,h D H' q sm j.2.1 g];show(q.map _).length<=_;rw[aaw];omega
def xj(A:ϴ)(s:μ)(fin:Bool):List ε->List ε->Bool->Prop
 |x::xs,y::ys,r=>∃e,SeqAt.EqAt A s x y e/\(e=true->xj A s fin xs ys r)/\(e=false->∀(prog:Ϯ)(w:ϭ)(E:ε->μ->Prop)(Q:ε->μ->Prop),Q (.bool r) s->π (ϧ prog w) A (richCompare .Lt x y) Q E s)
 |_,_,r=>r=fin
open PySem.AutoSeq1 (wpAny_loadPart') in
theorem UT(l b:δ)(c a:Array ε)(n n2:Nat)(dd u:Option δ)(sl v:Array (Option ε))(r:Bool):Meets (apn.«tuple.__lt__» #[[.ref l,.ref b],[]])
   (λA R s=>s.heap.get? l=some {cls:=.type "tuple",dict:=dd,data:=.seq c n,slots:=sl}/\s.heap.get? b=some {cls:=.type "tuple",dict:=u,data:=.seq a n2,slots:=v}/\
    xj A.in1 s (decide (c.size<a.size)) c.toList a.toList r/\R (.ok (.ret (.bool r))) s):=
 .of_wp λprog w A R s h=>by
  let#[D,g,d,tk,os]:=s;let#[h1,h2,f,E]:=h;let F:=AutoSeq1.sub_tuple_tuple
  wp_walk using wpAny_loadPart' h1,wpAny_loadPart' h2,wpAny_forIn_list _ (λleft m s'=>m.1=none/\s'=#[D,g,d,tk,os]/\∃p q,left=List.zip p q/\xj A.in1 #[D,g,d,tk,os] (decide (c.size<a.size)) p q r) _
  case turn=>
   rintro⟨x,y⟩ left m s' ⟨ha,rfl,p,q,i,f⟩
   match p,q,f with
   |[],_,_=>cases i
   |_::_,[],_=>cases i
   |x'::p,G::q,f=>
    rw[atj]at i;injection i with z j
    injection z with ex H
    subst ex H;let#[e,I,J,L]:=f;show ν (I prog w _ _ ?_);cases e with
    |true=>
     wp_walk
     show#[rfl,rfl,p,q,j,J rfl]
    |false=>
     let B:=L rfl prog w
     wp_walk using B
     show#[_,rfl,~~~E]
  case fin=>
   rintro⟨M,O⟩ s' ⟨ha,rfl,p,q,i,f⟩
   simp only at ha;subst ha;let fin:r=decide (c.size<a.size):=by
    match p,q,f with
    |[],[],f=>show f
    |[],_::_,f=>show f
    |_::_,[],f=>show f
    |x'::p,G::q,f=>rw[atj]at i;cases i
   subst fin
   wp_walk
   show#[_,rfl,by simpa [Builtin.Tuple.tupleCompareSizes]using E]
  case h=>
   show#[rfl,rfl,c.toList,a.toList,rfl,f]
def bj:List V->List V->Bool
 |[],[]=>false
 |[],_::_=>true
 |_::_,[]=>false
 |x::_,y::_=>ltV x y
def jJ(x y:V):Prop:=(∃m n,x=.int m/\y=.int n)\/∃m n,x=.str m/\y=.str n
def qH(r:List V):Prop:=r=[]\/∃x,r=[x]
def LC(x:V):ltV x x=false:=by
 cases x with
 |int i=>show decide_eq_false ()
 |str z=>show decide_eq_false (at3 _)
 |_=>rfl
def T7(h:jJ x y)(c:RelV x u)(f:RelV y v):∃e,SeqAt.EqAt A s u v e/\(e=true↔x=y):=by
 obtain⟨m,n,rfl,rfl⟩|⟨m,n,rfl,rfl⟩:=h
 .let#[t,rfl]:=c;let#[a,rfl]:=f;show#[_,SeqAt.EqAt.int_int m t n a,by simp]
 .let#[t,rfl]:=c;let#[a,rfl]:=f;show#[_,SeqAt.EqAt.str_str m t n a,by simp]
def am1(h:jJ x y)(a:RelV x u)(c:RelV y v)(q:Q (.bool (ltV x y)) s):π (ϧ prog w) A (richCompare .Lt u v) Q E s:=by
 obtain⟨m,n,rfl,rfl⟩|⟨m,n,rfl,rfl⟩:=h
 .let#[t,rfl]:=a;let#[e,rfl]:=c;show lt_int q
 .let#[t,rfl]:=a;let#[e,rfl]:=c;show lt_str q
def alz(h:jJ x y)(a:RelV x u)(c:RelV y v)(q:Q (ltV x y) s):π (ϧ prog w) A (oneLt' true u v) Q E s:=by
 obtain⟨m,n,rfl,rfl⟩|⟨m,n,rfl,rfl⟩:=h
 .let#[t,rfl]:=a;let#[e,rfl]:=c;show oneLt_int q
 .let#[t,rfl]:=a;let#[e,rfl]:=c;show oneLt_str q
def ajD(i:qH rx)(c:qH ry)(j:∀x y,rx=[x]->ry=[y]->jJ x y)(f:Vals rx us)(a:Vals ry ws):xj A s (decide (↥us<↥ws)) us ws (bj rx ry):=by
 obtain rfl|⟨x,rfl⟩:=i
 .cases Vals.zero f;obtain rfl|⟨y,rfl⟩:=c
  .cases Vals.zero a;rfl
  .let#[v,rfl,_]:=Vals.one a;rfl
 .let#[u,rfl,r1]:=Vals.one f;obtain rfl|⟨y,rfl⟩:=c
  .cases Vals.zero a;rfl
  .let#[v,rfl,g]:=Vals.one a;let lk:=j x y rfl rfl;let#[e,l,hi]:=T7 (A:=A) (s:=s) lk r1 g;show#[e,l,λh=>?_,λh prog w E Q q=>am1 lk r1 g q];have:x=y:=hi.mp h;subst this;show ltV x x=decide (1<1);rw[LC];rfl
section
variable{X:Cx}{ϵ:List (δ×Obj)}{σ:St}{H:Hp}{s:μ}{a b:δ}{rx ry:List V}
def HX(I:Inv X ϵ σ H s)(h:H a=↑(.tup rx)):∃(f:List ε)(n:Nat)(dd:Option δ)(sl:Array (Option ε)),Vals rx f/\s.heap.get? a=some {cls:=.type "tuple",dict:=dd,data:=.seq f.toArray n,slots:=sl}:=by
 let#[_,f,r,#[cls,dd,data,sl],e,c,n,d]:=(I.hok a _ h:ώ X.prog X.w H s.heap a (.tup rx));simp only at c d;subst c d;show#[f,n,dd,sl,r,e]
def am5{κ:SortKind}(l:A.units<cLine)(I:Inv X ϵ σ H s)(ha:H a=↑(.tup rx))(M:H b=↑(.tup ry))(m:qH rx)(p:qH ry)(B:∀x y,rx=[x]->ry=[y]->jJ x y)(j:κ=general'\/κ=oneType'\/(κ=tuples' true/\rx≠[]/\ry≠[]))(q:Q (bj rx ry) s):π ∅ A (keyLt' κ (.ref a) (.ref b)) Q E s:=by
 let#[us,n,dd,sl,D,c]:=HX I ha;let#[ws,n2,f,g,G,i]:=HX I M;let hl:xj A.in1 s (decide (us.toArray.size<ws.toArray.size)) us.toArray.toList ws.toArray.toList (bj rx ry):=by
  simpa using ajD m p B D G
 obtain rfl|rfl|⟨rfl,h1,h2⟩:=j
 .show π _ _ (oneLt' false (.ref a) (.ref b)) _ _ _*>kat_one _ _ ?_*>richCompare_meets_room (op:=.Lt) #[_,c,rfl] #[_,i,rfl] F.slot_tuple_lt F.entry_tuple_lt (F.args_tuple_lt_2 _ _) (UT a b us.toArray ws.toArray n n2 dd f sl g (bj rx ry)) #[c,i,hl,(λz=>nomatch z),q] l
 .show π _ _ (oneLt' true (.ref a) (.ref b)) _ _ _;rw[oneLt'_eq];simp only[if_true];show ν (wpAny_cRoomFor l ?_)*>ν (wpAny_callSpecialIfBound?_slot (T:="tuple") #[_,c,rfl] F.slot_tuple_lt ?_)*>aoD F.slot_tuple_lt #[_,c,rfl] F.entry_tuple_lt (F.args_tuple_lt_2 _ _) (UT a b us.toArray ws.toArray n n2 dd f sl g (bj rx ry)) #[c,i,hl,?_]*>ag8 q
 .obtain rfl|⟨x,rfl⟩:=m
  .show absurd rfl h1
  obtain rfl|⟨y,rfl⟩:=p
  .show absurd rfl h2
  let#[u,rfl,r1]:=Vals.one D;let#[v,rfl,J]:=Vals.one G;let lk:=B x y rfl rfl;show kat_lt c rfl i rfl ?_;let#[e,O,hi]:=T7 (A:=A) (s:=s) lk r1 J;show kat_cons (O X.prog X.w _ _ ?_)*>kat_go (λh=>?_) λh=>?_
  .have :x=y:=hi.mp h;subst this;show kat_yes (kat_nil ?_);let L:Q (ltV x x) s:=q;rw[LC]at L;show L
  .show kat_no (alz lk r1 J q)
end
section
variable{M:Model}{A:ϴ}{E:ε->μ->Prop}{s:μ}
def v8(h:ϫ):List ε->List (Option ε)->Prop
 |[],[]=>True
 |v::vs,f::fs=>(∃a o xs n,v=.ref a/\h.get? a=↑o/\o.cls=.type "tuple"/\o.data=.seq xs n/\xs[0]?=f)/\v8 h vs fs
 |_,_=>False
theorem V2:∀(vs:List ε)(fs:List (Option ε)){Q:List (Option ε)->μ->Prop},v8 s.heap vs fs->Q fs s->π M A (vs.mapM firstOfTuple') Q E s
 |[],[],_,_,h=>by rw[List.mapM_nil];show ϱ h
 |[],_::_,_,t,_=>t.elim
 |_::_,[],_,t,_=>t.elim
 |v::vs,f::fs,Q,t,h=>by
  let#[#[a,o,xs,n,rfl,c,e,hd,g],t]:=t;rw[List.mapM_cons];show ν ?_;rw[kas_first_eq];show ν (Looks.here (show Looks M s.heap (typeOf (.ref a)) o.cls from(Looks.ld c).andThen .now) ?_);rw[e,if_neg (by first|decide|simp)];show ν (listItems_at c hd (ϱ ?_));rw[g];show ν (V2 vs fs (Q:=λbs s'=>π M A (pure (f::bs)) Q E s') t (ϱ h))
theorem Ze:∀{vs:List ε}{fs:List (Option ε)},v8 s.heap vs fs->∀v∈vs,Looks M s.heap (typeOf v) (.type "tuple")
 |v::vs,f::fs,t,u,hu=>by
  let#[#[a,o,xs,n,rfl,c,e,hd,g],t]:=t;obtain rfl|hu:=aaB.mp hu
  .rw[<-e];show(Looks.ld c).andThen .now
  .show Ze t u hu
def kind_any{Q:SortKind->μ->Prop}(t:v8 s.heap vs fs)(B:0<↥vs)(D:∀v,↑v∈fs->Looks M s.heap (typeOf v) T)(m:(T==T)=true)(n:(T !=Value.type "tuple")=true)(h1:(∀f∈fs,f.isSome=true)->Q (tuples' true) s)(h2:Q general' s)(H:Q oneType' s):π M A (keyKind' vs.toArray) Q E s:=by
 rw[kat_kind_eq,asx,map_eq_pure_bind];show ν (ν (V2 vs _ t (ϱ ?_)));by_cases i:(fs.toArray.all λx=>x.isSome)=true
 .rw[if_pos i];let a:∀f∈fs,f.isSome=true:= ~~~i
  show ν (wpAny_rule ?_);let p:↥fs=↥vs:=by
   clear D h1 i a B;induction vs generalizing fs with
   |nil=>cases fs with
    |nil=>rfl
    |cons _ _=>show t.elim
   |cons v vs I=>cases fs with
    |nil=>show t.elim
    |cons f fs=>simp[I t.2]
  let q:fs.toArray.filterMap id=(fs.filterMap id).toArray:=by simp
  let F:fs.filterMap id≠[]:=by
   intro z
   match fs,p with
   |[],e=>simp at e;omega
   |f::fs,_=>
    let#[v,rfl]:=aqo.mp (a f (by simp));simp at z
  rw[q,oneTypeOnly'_eq,asx,map_eq_pure_bind];let j:∀v∈fs.filterMap id,Looks M s.heap (typeOf v) T:=λv l=>by
   let#[o,J,e]:=alq.mp l;let L:o=↑v:=e;show D v (L▸J)
  generalize fs.filterMap id=G at F j;show ν (ν (ν (kas_mapM (r:=T) _ (λv l O u=>(j v l).here u) (ϱ ?_))));obtain⟨g,gr,rfl⟩:∃g gr,G=g::gr:=by
   match G,F with
   |[],z=>show absurd rfl z
   |g::gr,_=>show#[g,gr,rfl]
  let c:((aue (λ_=>T) (g::gr)).toArray.all λx=>x==T)=true:=by
   simp only[atL,atu,acL];intro _ _;show m
  let y:(aue (λ_=>T) (g::gr)).toArray[0]?=↑T:=by simp
  rw[y];simp only[c,if_true];show ϱ (ϱ ?_);let e:(↑T).any (λx=>x !=Value.type "tuple")=true:=n;rw[e];show h1 a
 .rw[if_neg i];split
  .show ϱ h2
  .rw[oneTypeOnly'_eq,asx,map_eq_pure_bind];show ν (ν (ν (kas_mapM (r:=Value.type "tuple") _ (λv l O u=>(Ze t v l).here u) (ϱ ?_))));obtain⟨g,gr,rfl⟩:∃g gr,vs=g::gr:=by
    match vs,B with
    |g::gr,_=>show#[g,gr,rfl]
   let c:((aue (λ_=>Value.type "tuple") (g::gr)).toArray.all λx=>x==Value.type "tuple")=true:=by
    simp only[atL,atu,acL];intro _ _;show(Value.type "tuple"==Value.type "tuple")=true;decide
   let y:(aue (λ_=>Value.type "tuple") (g::gr)).toArray[0]?=↑(Value.type "tuple"):=by simp
   rw[y];simp only[c,if_true];show ϱ (ϱ H)
end
structure uO(X:Cx)(σ:St)(f:ε)(xs:List V)(H₁:Hp)(KV:Nat->V->Hp->Prop):Prop where
 mono:∀i v H H',ζ H H'->KV i v H->KV i v H'
 call:∀i x u ϵ s H,xs[i]?=↑x->RelV x u->ζ H₁ H->Inv X.ϕ ϵ σ H s->π ∅ X.A.in1.in1 (call f [u]) (EP X.ϕ ϵ σ λk H'=>ζ H H'/\KV i k H') (λ_ _=>False) s
def CW(KV:Nat->V->Hp->Prop)(i:Nat)(k:ε)(H:Hp):=∃v,RelV v k/\KV i v H
theorem uO.fn{X:Cx}{σ:St}{f:ε}{xs:List V}{vs:List ε}{H₁:Hp}{KV:Nat->V->Hp->Prop}(h:uO X σ f xs H₁ KV)(r:Vals xs vs):Az X σ f vs H₁ (CW KV)where
 mono:=λi k H H' sm ⟨v,a,q⟩=>#[v,a,h.mono i v H H' sm q]
 call:=λi u ϵ s H c sm I=>by
  let hl:=↥r;let hi:=(aav.mp c).1;let g:xs[i]?=↑(xs[i]'()):=ϳ _;let#[p,e,j]:=r.get g;rw[c]at e;cases e;show ac7 (h.call i _ u ϵ s H g j sm I) (λk s' z=>by let#[v,H',l,a,m,n]:=z;show #[H',l,m,v,a,n]) λ_ _ z=>z
def aao(f:Nat->Int)(i:Nat)(v:V)(_:Hp):Prop:=v=.int (f i)
section
variable{X:Cx}{σ:St}{n:Nat}
theorem aai:∀{ks:List ε}{f:Nat->Int},(∀(i:Nat) k,ks[i]?=↑k->∃t,k=.int (f i) t)->IntsAre ks ((acV ↥ks).map f)
 |[],_,_=>.nil
 |k::ks,f,h=>by
  let#[t,rfl]:=h 0 k rfl;have:=aai (ks:=ks) (f:=λi=>f (i+1)) λi k e=>h (i+1) k (~~~e)
  rw[acD,asJ,acY,afm];show .cons _ t this
theorem anS:qi X σ n (CW (aao f)) (λi j=>decide (f i<f j))where
 kind:=λϵ s H ks I hl h2 c=>by
  let a:∀(i:Nat) k,ks[i]?=↑k->∃t,k=.int (f i) t:=λi k e=>by
   let#[v,g,rfl]:=c i k e;let#[t,rfl]:=g;show#[t,rfl]
  rw[ksk_kind (keys:=ks.toArray) (kz:=(acV ↥ks).map f) (~~~aai a) (by rw[abd];omega)];show ϱ #[I,λi j l m ϵ s hi p q=>?_];let#[t,rfl]:=a i l hi;let#[u,rfl]:=a j m p;rw[keyLt'_oneType];show oneLt_int #[rfl,q]
theorem ahb{f:Nat->Int}:aZ λi j=>decide (f i<f j):=#[λi=>decide_eq_false (),λi j k h1 h2=>decide_eq_true (by have:=of_decide_eq_true h1;have:=of_decide_eq_true h2;omega),λi j k h=>by
 have:=of_decide_eq_true h;by_cases h2:f i<f j
 .show .inl (decide_eq_true h2)
 .show .inr (decide_eq_true ())]
def X8(rk:Nat->List V)(i:Nat)(v:V)(H:Hp):=∃a,v=.ref a/\H a=↑(.tup (rk i))
def rQ(rk:Nat->List V):Prop:=(∀i,qH (rk i))/\((∀i x,rk i=[x]->∃m,x=.int m)\/∀i x,rk i=[x]->∃m,x=.str m)
def rQ.lk(h:rQ rk)(a:rk i=[x])(c:rk j=[y]):jJ x y:=by
 obtain h|h:=h.2
 .let#[m,rfl]:=h i x a;let#[n,rfl]:=h j y c;show .inl #[m,n,rfl,rfl]
 .let#[m,rfl]:=h i x a;let#[n,rfl]:=h j y c;show .inr #[m,n,rfl,rfl]
theorem Wa(I:Inv X ϵ σ H s):∀{ks:List ε}{rk:Nat->List V},(∀i,qH (rk i))->(∀(i:Nat) k,ks[i]?=↑k->∃a,k=.ref a/\H a=↑(.tup (rk i)))->
  ∃fs,v8 s.heap ks fs/\(∀f∈fs,(∃i,(f=none/\rk i=[])\/∃x v,f=↑v/\rk i=[x]/\RelV x v))/\∀i,i<↥ks->rk i=[]->none∈fs
 |[],rk,_,_=>#[[],trivial,λf hf=>by simp at hf,λi hi=>by simp at hi]
 |k::ks,rk,j,h=>by
  let#[a,rfl,ha]:=h 0 k rfl;let#[fs,h1,h2,l]:=Wa I (ks:=ks) (rk:=λi=>rk (i+1)) (λi=>j (i+1)) λi k e=>h (i+1) k (~~~e)
  let#[us,n,dd,sl,g,m]:=HX I ha;let p:=j 0;generalize c:rk 0=y at p g;obtain rfl|⟨x,rfl⟩:=p
  .cases Vals.zero g;show#[none::fs,#[#[a,_,_,n,rfl,m,rfl,rfl,rfl],h1],λf hf=>?_,λi hi z=>?_];obtain rfl|hf:=aaB.mp hf
   .show#[0,.inl #[rfl,c]]
   .let#[i,q]:=h2 f hf;show#[i+1,q]
   .cases i with
    |zero=>simp
    |succ i=>show abF _ (l i (~~~hi) z)
  .let#[u,rfl,r1]:=Vals.one g;show#[↑u::fs,#[#[a,_,_,n,rfl,m,rfl,rfl,rfl],h1],λf hf=>?_,λi hi z=>?_];obtain rfl|hf:=aaB.mp hf
   .show#[0,.inr #[x,u,rfl,c,r1]]
   .let#[i,q]:=h2 f hf;show#[i+1,q]
   .cases i with
    |zero=>rw[c]at z;cases z
    |succ i=>show abF _ (l i (~~~hi) z)
theorem Wx(G:X.A.in1.in1.units<cLine)(f:rQ rk):qi X σ n (CW (X8 rk)) (λi j=>bj (rk i) (rk j))where
 kind:=λϵ s H ks I hl h2 J=>by
  let c:∀(i:Nat) k,ks[i]?=↑k->∃a,k=.ref a/\H a=↑(.tup (rk i)):=λi k e=>by
   let#[v,g,a,rfl,ha]:=J i k e;cases g;show#[a,rfl,ha]
  let#[fs,t,B,hn]:=Wa I f.1 c;let any:∀κ,(κ=general'\/κ=oneType'\/(κ=tuples' true/\∀i,i<n->rk i≠[]))->Et X σ H ks (λi j=>bj (rk i) (rk j)) κ:=λκ q i j L M ϵ s hi D E=>by
   let#[a,rfl,ha]:=c i L hi;let#[b,rfl,O]:=c j M D;let P:=(aav.mp hi).1;let Q:=(aav.mp D).1;show am5 (X:=X.ϕ) G E ha O (f.1 i) (f.1 j) (λx y e1 l=>f.lk e1 l) ?_ #[rfl,E];obtain h|h|⟨h,F⟩:=q
   .show .inl h
   .show .inr (.inl h)
   .show .inr (.inr #[h,F i (),F j ()])
  let fin:∀(T:ε),(T==T)=true->(T !=Value.type "tuple")=true->(∀v,↑v∈fs->Looks ∅ s.heap (typeOf v) T)->π ∅ X.A.in1.in1 (keyKind' (afj ks)) (λκ s'=>Inv X.ϕ ϵ σ H s'/\Et X σ H ks (λi j=>bj (rk i) (rk j)) κ) (λ_ _=>False) s:=λT R S U=>
   kind_any t () U R S (λp=>#[I,any _ (.inr (.inr #[rfl,λi hi z=>absurd (p _ (hn i () z)) (by decide)]))]) #[I,any _ (.inl rfl)] #[I,any _ (.inr (.inl rfl))]
  obtain hk|hk:=f.2
  .show fin (.type "int") (by decide) (by decide) λv u=>?_
   obtain⟨i,⟨e,_⟩|⟨x,W,e,l,g⟩⟩:=B _ u
   .cases e
   .cases e;let#[m,rfl]:=hk i x l;let#[t,rfl]:=g;show .now
  .show fin (.type "str") (by decide) (by decide) λv u=>?_
   obtain⟨i,⟨e,_⟩|⟨x,W,e,l,g⟩⟩:=B _ u
   .cases e
   .cases e;let#[m,rfl]:=hk i x l;let#[t,rfl]:=g;show .now
def ajU(h1:jJ x y)(h2:jJ y z)(a:ltV x y=true)(b:ltV y z=true):ltV x z=true:=by
 obtain⟨m,n,rfl,rfl⟩|⟨m,n,rfl,rfl⟩:=h1
 .obtain⟨m2,k,e,rfl⟩|⟨_,_,e,_⟩:=h2
  .cases e;show decide_eq_true (by have:=of_decide_eq_true a;have:=of_decide_eq_true b;omega)
  .cases e
 .obtain⟨_,_,e,_⟩|⟨m2,k,e,rfl⟩:=h2
  .cases e
  .cases e;show decide_eq_true (auf (of_decide_eq_true a) (of_decide_eq_true b))
def ae8(h1:jJ x y)(h2:jJ y z)(a:ltV x z=true):ltV x y=true\/ltV y z=true:=by
 obtain⟨m,n,rfl,rfl⟩|⟨m,n,rfl,rfl⟩:=h1
 .obtain⟨m2,k,e,rfl⟩|⟨_,_,e,_⟩:=h2
  .cases e;have:=of_decide_eq_true a;by_cases h:m<n
   .show .inl (decide_eq_true h)
   .show .inr (decide_eq_true ())
  .cases e
 .obtain⟨_,_,e,_⟩|⟨m2,k,e,rfl⟩:=h2
  .cases e
  .cases e;by_cases h:m.cps.toList<n.cps.toList
   .show .inl (decide_eq_true h)
   .show .inr (decide_eq_true ?_);let c:n.cps.toList<=m.cps.toList:=atX.mp h;show List.lt_of_le_of_lt c (of_decide_eq_true a)
theorem U9{rk:Nat->List V}(a:rQ rk):aZ λi j=>bj (rk i) (rk j)where
 ir:=λi=>by
  show bj (rk i) (rk i)=false;obtain e|⟨x,e⟩:=a.1 i
  .rw[e];rfl
  .rw[e];show LC x
 tr:=λi j k h1 h2=>by
  let h1:bj (rk i) (rk j)=true:=h1;let h2:bj (rk j) (rk k)=true:=h2;show bj (rk i) (rk k)=true;obtain f|⟨x,f⟩:=a.1 i<;>obtain c|⟨y,c⟩:=a.1 j<;>obtain g|⟨z,g⟩:=a.1 k<;>rw[f]at h1⊢ <;>rw[c]at h1 h2<;>rw[g]at h2⊢ <;>first|(cases h1;done)|(cases h2;done)|rfl|show ajU (a.lk f c) (a.lk c g) h1 h2
 nt:=λi j k h=>by
  let h:bj (rk i) (rk k)=true:=h;show bj (rk i) (rk j)=true\/bj (rk j) (rk k)=true;obtain f|⟨x,f⟩:=a.1 i<;>obtain c|⟨y,c⟩:=a.1 j<;>obtain g|⟨z,g⟩:=a.1 k<;>rw[f,g]at h<;>rw[f,c,g]<;>first|(cases h;done)|show .inl rfl|show .inr rfl|show ae8 (a.lk f c) (a.lk c g) h
end
section
variable{X:Cx}{σ:St}{H:Hp}{Q:VK}{e ke re:ϩ}{p pos kp rp:Pos}
def zb(X:Cx)(σ:St)(b:Bool)(v a:V)(H:Hp)(Q:VK):=∃(l f:δ)(xs:List V)(KV:Nat->V->Hp->Prop)(lt:Nat->Nat->Bool),v=.ref l/\a=.ref f/\η X.K H l xs/\↥xs<64/\aZ lt/\uO X σ (.ref f) xs H KV/\qi X σ ↥xs (CW KV) lt/\
 ∀p H' q,ζ H H'->H' p=none->fH ↥xs (jO b lt) q->Q (.ref p) (upd H' p (.lst (dX xs q)))
def Sg(j:X.mg "sorted"=none)(h:EV X e σ H λv H1=>EV X ke σ H1 λa H2=>zb X σ false v a H2 Q)(m:Gl X "sorted":=by rfl)(c:abr [e] X.env=[(false,eval e X.env)]:=by rfl):EV X (.Call (.Name "sorted" p) [e] [#[some "key",ke,kp]] pos) σ H Q:=by
 intro ϵ s I;show ajT (jQ I m j PyProof.Rows.boot_sorted ?_ (by decide) (by decide));let n:EA X [e] σ H (λvs H1=>∃v,vs=[v]/\EV X ke σ H1 λa H2=>zb X σ false v a H2 Q):=dw c (ϙ h λv H1 q=>iu #[v,rfl,q]);show callWith_kw (χ (n pos ϵ s I) λus y z=>?_) (by rw[c];rfl) (by rw[c];rfl);let#[vs,H1,B,r1,v,D,E]:=z;subst D;let#[u,rfl,F]:=Vals.one r1;show kws_cons (χ (E ϵ y B) λP R _u=>_Z.e23 _u λa H2 G J L=>kws_nil ?_);let#[l,f,xs,KV,lt,rfl,rfl,hs,i,W,M,O,g]:=L;cases F;cases J;show abI (kw:=[(Ϫ "key",.ref f)]) W hs i (λvs r=>#[M.fn r,O]) G (ksk_s1 _ _) (λx=>ksk_l1 _ _) (λx=>ksk_t1 f x) g
def akr(y:Gl X "sorted")(z:X.mg "sorted"=none)(j:abr [e] X.env=[(false,eval e X.env)])(h:EV X e σ H λv H1=>EV X ke σ H1 λa H2=>EV X re σ H2 λc i=>c=.bl b/\zb X σ b v a i Q):EV X (.Call (.Name "sorted" p) [e] [#[some "key",ke,kp],#[some "reverse",re,rp]] pos) σ H Q:=by
 intro ϵ s I;show ajT (jQ I y z PyProof.Rows.boot_sorted ?_ (by decide) (by decide));let B:EA X [e] σ H (λvs H1=>∃v,vs=[v]/\EV X ke σ H1 λa H2=>EV X re σ H2 λc i=>c=.bl b/\zb X σ b v a i Q):=dw j (ϙ h λv H1 q=>iu #[v,rfl,q]);show callWith_kw (χ (B pos ϵ s I) λus D E=>?_) (by rw[j];rfl) (by rw[j];rfl);let#[vs,H1,F,r1,v,G,J]:=E;subst G;let#[u,rfl,L]:=Vals.one r1;show kws_cons (χ (J ϵ D F) λu2 M _u=>_Z.e23 _u λa H2 O P R=>kws_cons (χ (R ϵ M O) λu3 s3 ⟨c,i,S,T,m,U⟩=>kws_nil ?_));let#[l,f,xs,KV,lt,rfl,rfl,hs,n,W,Y,Z,g]:=U;subst m;cases L;cases P;cases T;show abI (kw:=[(Ϫ "key",.ref f),(Ϫ "reverse",.bool b)]) W hs n (λvs r=>#[Y.fn r,Z]) S (ksk_s2<*_) (λx=>ksk_l2 _ _ _) (λx=>ksk_t2 f x b) g
abbrev Cx.vR(X:Cx):Cx:={X.ϕ with xe:=λ_ _=>False}
theorem Inv.vR(I:Inv X.ϕ ϵ σ H s):Inv X.vR ϵ σ H s:=
 #[#[I.ok.mod,I.ok.kind,I.ok.glob,I.ok.blt,I.ok.above,I.ok.inj,I.ok.has,I.ok.cab,I.ok.hd,I.ok.frames,I.ok.stk,I.ok.exf,I.ok.bs,I.ok.bsz,I.ok.noex,I.ok.exfs,I.ok.funs,I.ok.frf],I.os,I.bare,I.base,I.loc,I.cell,I.free,I.freeC,I.pin,I.hok,I.len]
theorem Inv.unX(I:Inv X.vR ϵ σ H s):Inv X.ϕ ϵ σ H s:=
 #[#[I.ok.mod,I.ok.kind,I.ok.glob,I.ok.blt,I.ok.above,I.ok.inj,I.ok.has,I.ok.cab,I.ok.hd,I.ok.frames,I.ok.stk,I.ok.exf,I.ok.bs,I.ok.bsz,I.ok.noex,I.ok.exfs,I.ok.funs,I.ok.frf],I.os,I.bare,I.base,I.loc,I.cell,I.free,I.freeC,I.pin,I.hok,I.len]
def aiB{k:Nat}{KV:Nat->V->Hp->Prop}(F:Def X.prog X.w X.K X.mg X.base cc k x ps sp)(c:ϗ cc (k+2) X.A)(a:∀i v H H',ζ H H'->KV i v H->KV i v H')(h:∀(i:Nat) x H',xs[i]?=↑x->ζ H H'->sp [x] H' (λv H2=>ζ H' H2/\KV i v H2) (λ_ _ _=>False)):∃f:δ,X.mg x=↑(.ref f)/\uO X σ (.ref f) xs H KV:=by
 let#[f,fd,h1,h2,e,g]:=F.ex;show#[f,h1,a,λi x u ϵ s H' j l sm I=>?_];have:=uM (X:=X.vR) (us:=[u]) (vs:=[x]) (Kx:=λ_ _ _ _=>False) g c.in1.in1 e (XR rfl) I.vR (.cons l .nil) (h i x H' j sm);show ac7 this (λw s' z=>by let#[v,H2,m,n,q]:=z;show #[v,H2,m.unX,n,q]) λ_ _ z=>z
theorem afo(h:X.mg x=↑(.ref f))(a:Gl X x)(hd:(x==("__debug__":Str))=false)(q:Q (.ref f) H):EV X (.Name x p) σ H Q:=vN (Vm (v:=.ref f) a h rfl hd) q
end
def ac0(h1:p.line=p'.line)(h2:p.col=p'.col)(l:List ε):codeAmong p l=codeAmong p' l:=by
 fun_induction codeAmong p l with
 |case1 a t b u c rest h=>unfold codeAmong;rw[<-h1, <-h2,if_pos h]
 |case2 a t b u c rest h e=> rw[e];conv=>rhs;unfold codeAmong
                             rw[<-h1, <-h2,if_neg h]
 |case3 l h=>unfold codeAmong;split <;>first|rfl|(exfalso;show h _ _ _ _ _ _ rfl)
def aoP{p a:Pos}(l:List ε)(h:TriplesOk l)(e:codeAmong p (l++[rawInt a.line,rawInt a.col,c])=↑f):codeAmong p l=↑f\/(f=c/\a.line=p.line/\a.col=p.col):=by
 fun_induction TriplesOk l with
 |case1=>
  simp only[asQ,rawInt,codeAmong]at e;split at e
  .rename_i hh;cases e;simp only[aaO,beq_iff_eq]at hh;show .inr #[rfl,(),()]
  .cases e
 |case2 x t y u z rest g=>
  simp only[atF,codeAmong]at e⊢;split at e
  .rename_i hh;rw[if_pos hh];show .inl e
  .rename_i hh;rw[if_neg hh];show g h e
 |case3 l h1 h2=>show h.elim
abbrev uT:HO:=.ext λ_=>True
theorem Jq(e:h.get? a=↑o):ώ P w H h a (.frz o uT):=#[e,trivial,#[o,e],λ_ _ _ _=>trivial]
section
variable{X:Cx}{σ:St}{H:Hp}{D:Ends}
def aif(hN:X.N.Nodup)(hj:X.N[j]?=↑name)(T:X.env.scope.names.lookup name=↑.local)(x:X.env.code=.ref c)(C:CodeHd X.base c P)(B:BM X.mg X.base)(G:closureFor scope X.env=pure clos)(J:H P=↑(.tbl ps))(L:codeAmong pos ps.toList=↑(.str qual t))(hq:qualnameIn X.env name name=qual)(Z:g.defaults=[])(aa:g.kw_defaults=[])(ha:annTrees g none X.env=[])(h:∀(f m:δ)(oc:Obj)(i pm l:ε)(vs:Array ε)(t':Tok)(H':Hp),ζ H H'->H f=none->H' f=↑(.frz (fnMade name qual g body scope clos i pm m l) uT)->(∃u,H' m=↑(.frz oc u))->oc.data=.fields vs->vs[1]?=↑(.str qual t')->D.nx (σ.set j ↑(.ref f)) H'):SX X (.FunctionDef name g body [] none [] scope none name pos) D σ H:=by
 intro ϵ s I;show nestDef_K Z aa ha ?_;rw[hq];let#[qs,U,tr,z]:=(I.hok P _ J:ώ X.prog X.w H s.heap P (.tbl ps));let W:s.heap.Ns mainGlobals X.mg:=I.mod.glob.keeps I.bk;let#[bm,ob,b1,b2,b3,b4,b5,b6]:=B;let M:=I.bk _ _ b3;let ab:mainGlobals≠P:=λq=>by
  let#[o,es,ep,e,hd,_]:=W;rw[q,U]at e;cases e;cases hd
 let ac:bm≠P:=λq=>by rw[q,U]at M;cases M;cases b4
 let ae:bm≠mainGlobals:=λq=>by
  let#[o,es,ep,e,hd,_]:=W;rw[q,e]at M;cases M;rw[hd]at b6;cases b6
 let E:s.heap.BuiltinsAt X.mg P:=#[bm,ob,b1,b2,ae,ac,M,b4,b5,b6];let CC:=C.keeps I.bk;cases hf:codeAmong pos qs.toList with
 |some cv=>
  let#[m,oc,u,q,t2,vs,t',rfl,Y,e3,e4,e5]:=z pos cv hf;rw[L]at Y;cases Y;show makeFunction_hit G I.ok.glob W x CC U tr hf E λl i h' tk hk hsz=>?_
  let I1:=I.laid (a:=h'.objs.size) (o:=.frz (fnMade name qual g body scope clos i ((X.mg "__name__").getD .none) m l) uT) (t':=tk) (h':=h'.push (fnMade name qual g body scope clos i ((X.mg "__name__").getD .none) m l)) (λb o e=>ϲ _ (hk b o e)) hsz (Jq (abj _ rfl));let O:=I.hok.fresh hsz;let sm:ζ H (upd H h'.objs.size (.frz (fnMade name qual g body scope clos i ((X.mg "__name__").getD .none) m l) uT)):=ζ.upd O;show ug (v:=.ref h'.objs.size) I1 hN hj (.inl T) rfl (λs' I' _=>?_) (.inr T)*>#[_,_,I',h _ m oc i _ l vs t' _ sm O ς #[u,sm<*e3] e4 e5]
 |none=>
  show makeFunction_K G I.ok.glob W x CC U tr hf ab E λm l i h' tk af y F Q R=>?_
  let#[c₂,oc,vs,t',Y,ag,hd,hv]:=Q;cases Y;let ah:H m=none:=I.hok.fresh y;let S:H h'.objs.size=none:=I.hok.fresh (arn (aet y F));let Ϲ:m≠h'.objs.size:=acu F;let hPlt:=I.hok.lt J;let old:∀b u,H b=↑u->(upd (upd H m (.frz oc uT)) h'.objs.size (.frz (fnMade name qual g body scope clos i ((X.mg "__name__").getD .none) m l) uT)) b=↑u:=λb u e=>by
   rw[θ (ό e S),θ (ό e ah)];show e
  let nP:∀b,H b=none->b≠P:=λb e z=>by rw[z,J]at e;cases e
  let lt':∀b o,s.heap.get? b=↑o->b≠m/\b≠h'.objs.size:=λb o e=>by
   have:=abA e;show#[acu (acp this y),acu (acp this (arn (aet y F)))]
  let kp:∀b o,b≠P->s.heap.get? b=↑o->(h'.push (fnMade name qual g body scope clos i ((X.mg "__name__").getD .none) m l)).get? b=↑o:=λb o E e=>ϲ _ (af b o E e)
  let I1:Inv X ϵ σ (upd (upd H m (.frz oc uT)) h'.objs.size (.frz (fnMade name qual g body scope clos i ((X.mg "__name__").getD .none) m l) uT)) {s with heap:=h'.push (fnMade name qual g body scope clos i ((X.mg "__name__").getD .none) m l),toks:=tk}:=by
   show I.un (t':=tk) #[λb o e n _ _=>kp b o (nP b n) e,λb o e n _ _=>#[o.slots,kp b o (nP b n) e],λb o e n _=>?_,λb o e _=>?_,λb xs q=>old _ _ q,λb o u q=>old _ _ q,λb ps' q=>#[#v[],by rw[old<*q];simp]] λb u e=>?_
   .rw[θ (lt' b o e).2,θ (lt' b o e).1];show n
   .by_cases E:b=P
    .show#[_,by rw[E];show ϲ _ R]
    .show#[_,kp b o E e]
   .by_cases h1:b=h'.objs.size
    .subst h1;rw[ς]at e;cases e;show Jq (abj _ rfl)
    .rw[θ h1]at e;by_cases h2:b=m
     .subst h2;rw[ς]at e;cases e;show Jq (ϲ _ ag)
     .rw[θ h2]at e;by_cases h3:b=P
      .subst h3;rw[J]at e;cases e;show#[_,ϲ _ R,?_,λp cv hc=>?_]
       .rw[asf];show TriplesOk_snoc _ _ _ _ tr
       .rw[asf]at hc;obtain h4|⟨rfl,h5,h6⟩:=aoP _ tr hc
        .let#[c2,ai,u2,q2,t2,al,t3,g1,g2,g3,g4]:=z p cv h4;show#[c2,ai,u2,q2,t2,al,t3,g1,g2,old<*g3,g4]
        .show#[m,oc,uT,qual,t,vs,t',rfl,?_,?_,hd,hv]
         .rw[<-ac0 h5 h6];show L
         .rw[θ Ϲ,ς]
      .show(I.hok b u e).stay (λa v ha q=>kp a v ?_ q) (λa q=>old _ _ q) (λa xs q=>old _ _ q) λa ob v q=>old _ _ q
       obtain rfl|ha:=ha
       .show h3
       .intro z2;rw[z2,J]at ha;cases ha
  let sm:ζ H (upd (upd H m (.frz oc uT)) h'.objs.size (.frz (fnMade name qual g body scope clos i ((X.mg "__name__").getD .none) m l) uT)):=old;show ug (v:=.ref h'.objs.size) I1 hN hj (.inl T) rfl (λs' I' _=>?_) (.inr T)*>#[_,_,I',h _ m oc i _ l vs t' _ sm S ς #[uT,by rw[θ Ϲ,ς]] hd hv]
abbrev yz(X:Cx)(qual:Str)(scope:ahx)(f:δ)(cd:ε)(cl:List (Str×δ))(N:List Str)(s:μ)(H:Hp):Cx where
 prog:=X.prog
 w:=X.w
 K:=X.K
 mg:=X.mg
 base:=X.base
 A:=X.A.deeper (envX qual scope ⇑s f cd cl)
 N:=N
 s₀:=s
 H₀:=H
 env:=envX qual scope ⇑s f cd cl
 outer:=X.stack
 stack:=envX qual scope ⇑s f cd cl::X.stack
 ex:=[]
 fn:=λ_=>false
 calm:=X.calm
 pn:=[]
 xe:=λ_ _=>False
def ai5{s:μ}{f n c:δ}{name qual x y:Str}{g:Arguments}{scope:ahx}{B pm D u:ε}{u0 u1:HO}{oc:Obj}{vs:Array ε}{t':Tok}{v z:V}{j:Nat}{Q:VK}{E:ε->μ->Prop}(I:Inv X ϵ σ H s)(hf:H f=↑(.frz (fnMade name qual g body scope [(y,c)] B pm n D) u0))(aa:H n=↑(.frz oc u1))(ab:oc.data=.fields vs)(G:vs[1]?=↑(.str qual t'))(L:X.A.depth<recursionLimit)(hb:∀B pm n D (u:ε),bindArgs (fnX name qual g body scope [(y,c)] .none .none B pm none (.ref n) D) #[[u],[]]=pure [(x,u)])(hk:scope.kind=.function)(ac:scope.isCoroutine=false)(O:scope.isGenerator=false)(Z:scope.names.lookup x=↑.local)(P:scope.names.lookup y=↑.free)(S:∀a∈scope.names,a.2≠.cell)(ae:∀a,scope.names.lookup a=↑.free->a=y)(hj:X.N[j]?=↑y)(af:σ[j]?=some ↑z)(T:X.env.scope.names.lookup y=↑.cell)(U:X.env.cells.lookup y=↑c)(W:RelV v u)(h:Η (yz X qual scope f (.ref n) [(y,c)] [x,y] s H) body {nx:=λ_ H'=>Q .non H',rt:=Q} [↑v,↑z] H):π ∅ X.A (call (.ref f) [u]) (EP X ϵ σ Q) E s:=by
 let F:=I.env0;let#[ef,_]:=(I.hok f _ hf:ώ X.prog X.w H s.heap f (.frz _ u0));let#[ec,_]:=(I.hok n _ aa:ώ X.prog X.w H s.heap n (.frz oc u1));let ag:s.heap.CodeRec (.ref n) qual:=#[n,oc,vs,t',rfl,ec,ab,G];let hxy:x≠y:=λe=>by rw[e,P]at Z;cases Z
 let#[m,hm,hl]:=id I.loc;let#[uz,rz,lk]:=hl j y z hj af (.inr (.inl T));obtain⟨Y⟩:Nonempty (s.heap.IsCell c ↑uz):=by
  obtain⟨k,_⟩|⟨_,c2,e,q⟩:=lk
  .rw[show X.env.kindOf y=X.env.scope.names.lookup y from rfl,T]at k;cases k
  .rw[U]at e;cases e;show#[q]
 show aqn (ajk (codeAny_call_def (R:=λr s'=>match r with|.ok (.ret u)=>CE X.stack X.prog X.w H s Q u s'|.ok _=>False|.error _=>False) (fd:=fnX name qual g body scope [(y,c)] .none .none B pm none (.ref n) D) (body:=body) (binds:=[(x,u)]) L ef rfl I.nolimit ag rfl (.of_eq (hb B pm n D u)) S (λa ha=>by cases ack.mp ha;show Z) (λh₁ ah l=>?_) ac O hk) λr s' G=>?_)
 .let I1:Inv (yz X qual scope f (.ref n) [(y,c)] [x,y] s H) [] [↑v,↑z] H {s with heap:=h₁,toks:=s.toks+[(x,u)].length}:=by
   let M:∀b:δ,b∉(yz X qual scope f (.ref n) [(y,c)] [x,y] s H).ex:=λb z=>absurd (show b∈([]:List δ)from z) (by simp)
   show#[#[F.mod,hk,rfl,rfl,Ϭ _,λa b d h1 h2=>?_,λa ha=>?_,λa d h1=>(by cases h1),I.ok.hd,Around.frames_deeper F.frames,.inr #[rfl,rfl],λb z=>absurd z (M b),F.bs,F.bsz,λb _ _=>M b,λb z=>absurd z (M b),F.funs,F.frf],
    rfl,F.bare,Un.kept l,#[_,ah,λi a b h1 h2 h3=>?_],λa d h1=>?_,F.hok.fresh (Ϭ _),λa d h1=>?_,λp hp=>absurd (show p∈([]:List (δ×Obj))from hp) (by simp),F.hok.kept l,rfl]
   .let h1:([(y,c)]:List (Str×δ)).lookup a=↑d:=h1;let h2:([(y,c)]:List (Str×δ)).lookup b=↑d:=h2;let e1:=PySem.mem_of_lookup h1;let e2:=PySem.mem_of_lookup h2;rw[ack]at e1 e2;cases e1;cases e2;rfl
   .let ha:scope.names.lookup a=↑.cell\/scope.names.lookup a=↑.free:=ha;obtain ha|ha:=ha
    .show absurd rfl (S _ (PySem.mem_of_lookup ha))
    .cases ae a ha;show#[c,by show([(y,c)]:List (Str×δ)).lookup y=↑c;simp[ahE]]
   .match i,h1,h2 with
    |0,h1,h2=>
     cases h1;cases h2;show#[u,W,.inl #[Z,by simp[ahE]]]
    |1,h1,h2=>
     cases h1;cases h2;show#[uz,rz,.inr #[.inr P,c,by show([(y,c)]:List (Str×δ)).lookup y=↑c;simp[ahE],Y.keeps l]]
    |i+2,h1,h2=>simp at h1
   .let e1:=PySem.mem_of_lookup (show([(y,c)]:List (Str×δ)).lookup a=↑d from h1);rw[ack]at e1;cases e1;show#[_,Y.keeps l]
   .let e1:=PySem.mem_of_lookup (show([(y,c)]:List (Str×δ)).lookup a=↑d from h1);rw[ack]at e1;cases e1;show I.freeC y c U
  show ac7 (h [] _ I1) (λfl s' hs=>?_) λ_ _ z=>z.elim
  let fin:∀{σ':St}{H':Hp}{v:V}{u:ε},Inv (yz X qual scope f (.ref n) [(y,c)] [x,y] s H) [] σ' H' s'->RelV v u->Q v H'->CE X.stack X.prog X.w H s Q u s':=
   λ{σ' H' v u} J W q=>#[v,H',J.os,J.bare,J.base,J.hok,W,q]
  cases fl with
  |ret u=>
   let#[v,σ',H',J,W,q]:=hs;show fin J W q
  |next=>
   let#[σ',H',J,q]:=hs;show fin (v:=V.non) (u:=Value.none) J rfl q
  |brk=>
   let#[_,_,_,q]:=hs;show False.elim q
  |cont=>
   let#[_,_,_,q]:=hs;show False.elim q
 .cases r with
  |error e=>show G.elim
  |ok fl=>
   cases fl with
   |ret u=>show I.after G
   |next=>show False.elim G
   |brk=>show False.elim G
   |cont=>show False.elim G
end
def acv(p:Pos)(q:Str):codeAmong p (JD p q).toList=↑(.str q 0):=by simp[JD,codeAmong,rawInt]
def am8{P:Ϯ}{w:ϭ}{K:Ϩ}{mg:MG}{base:ϫ}{x:Str}{st:Ϧ}{k:Nat}{sp:Sp}(F:∃f fd,dm K x x st f fd/\mg x=↑(.ref f))(i:fO K mg base x)(S:Ξ N ps (υ st))(n:∀(kV a pm:ε)(an:Option δ)(j ct:ε)(us:List ε),↥us=↥ps->bindArgs (as3 x x (kW st) (ϓ st) (υ st) .none kV a pm an j ct) #[us,[]]=pure (ps.zip us))(len:∀vs H Q E,sp vs H Q E->↥vs=↥ps)(body:∀(f:δ)(A:ϴ)(outer:List Env)(s:μ)(H:Hp)(vs:List V)(Q:VK)(E:XK),ϗ cc k (A.deeper (envOfC x (υ st) ⇑s f (.ref (iT K x))))->sp vs H Q E->
   Η (fX cc P w K mg base N x (υ st) f (.ref (iT K x)) A outer s H E) (ϓ st) {nx:=λ_ H'=>Q .non H',rt:=Q} (start N vs) H):Def P w K mg base cc (k+1) x ps sp:=by
 let#[f,fd,F,m]:=F;show#[f,fd,m,F.kp,F.binds n,?_];let#[oc,od,kV,a,pm,an,j,ct,p,rfl,lk,l]:=id F.ex;let e:=i.tab;unfold tabIn at e;split at e
 .rename_i y q;let g:=ajC i.kin i.glob q;rw[m]at g;cases g;simp only[lk]at e;cases j with
  |ref c=>
   let u:c=iT K x:=by
    dsimp only at e;split at e
    .split at e
     .have :=Option.some.inj e;show congrArg Prod.fst this
     .cases e
    .cases e
   subst u;show aaL lk l S len λA outer s H vs Q E v h=>#[_,GQ,body f A outer s H vs Q E v h]
  |_=>cases e
 .cases e
def al2(q:Q (.bl (decide (z'.cps.toList<z.cps.toList))) H):OP X (adF .Gt) (.str z) (.str z') H Q:=by
 show bC (r:=λx y H Q=>∃i j,x=.str i/\y=.str j/\Q (.bl (decide (j.cps.toList<i.cps.toList))) H) ?_ #[z,z',rfl,rfl,q];intro ϵ s σ H x y v u Q I rx ry h;let#[i,j,rfl,rfl,q]:=h;let#[t,rfl]:=rx;let#[t',rfl]:=ry;show P.gt_str (ϥ I q rfl)
def ώ.aes(x:ώ P w H h a o)(m:∀b,H b=↑(.own a)->H' b=↑(.own a))(J:∀b xs,H b=↑(.tup xs)->H' b=↑(.tup xs))(s:∀b g u vs,H b=↑(.frz g u)->g.data=.fields vs->H' b=↑(.frz g u)):ώ P w H' h a o:=by
 induction o with
 |lst xs=>let#[z,i,n,r,e]:=x;show#[z,i,n,r,e]
 |tup xs=>let#[z,i,r,g,e,c]:=x;show#[z,i,r,g,e,c]
 |dK Ϸ=>let#[z,y,vs,r,g,es,ep,e,c]:=x;show#[z,y,vs,r,g,es,ep,e,c]
 |ins C dx fs=>
  let#[d,z,ne,e,mA,#[od,es,ep,j,c],r]:=x;show#[m _ d,z,ne,e,mA,#[od,es,ep,j,c],r]
 |own y=>let#[g,e]:=x;show#[g,e]
 |xd fs=>let#[mA,#[od,es,ep,e,c],r]:=x;show#[mA,#[od,es,ep,e,c],r]
 |rng lo hi=>let#[t,u,v,e]:=x;show#[t,u,v,e]
 |frz g u B=>let#[e,q]:=x;show#[e,B q]
 |tbl ps=>
  let#[D,e,tr,z]:=x;show#[D,e,tr,λp E F=>?_];let#[c,oc,u,q,t,vs,t',e1,j,G,l,I]:=z p E F;show#[c,oc,u,q,t,vs,t',e1,j,s _ _ _ _ G l,l,I]
 |met f y=>
  let e:h.get? a=↑(asA (.ref f) (.ref y)):=x;show h.get? a=↑(asA (.ref f) (.ref y));show e
 |ext φ=>let#[p,#[o,e],st]:=x;show#[p,#[o,e],st]
section
variable{X:Cx}{ϵ:List (δ×Obj)}{σ:St}{H:Hp}{s:μ}{d:δ}
def Inv.ajo(I:Inv X ϵ σ H s)(hn:H d=↑(.dK Ϸ)):∃o,Inv X ϵ σ (upd H d (.frz o (.dK Ϸ))) s:=by
 let#[z,lo,vs,g,a]:=uH I.hok hn;let#[o,es,ep,f,_]:=id a;show#[o,?_];let ne:∀b u,H b=↑u->(∀ks,u≠.dK ks)->b≠d:=λb u e h z=>by rw[z,hn]at e;cases e;show h _ rfl
 let st:∀b u,ώ X.prog X.w H s.heap b u->ώ X.prog X.w (upd H d (.frz o (.dK Ϸ))) s.heap b u:=λb u q=>q.stay (λ_ _ _ r=>r) (λc r=>by rw[θ (ne _ _ r nofun)];show r) (λc xs r=>by rw[θ (ne _ _ r nofun)];show r) λc i v r=>by rw[θ (ne _ _ r nofun)];show r
 have:=I.un (t':=s.toks) (h':=s.heap) (H':=upd H d (.frz o (.dK Ϸ))) #[λb o e _ _ _=>e,λb o e _ _ _=>#[o.slots,e],λb o _ n _=>by rw[θ (λz=>by rw[z,hn]at n;cases n)];show n,λb o e _=>#[o,e],λb xs q=>by rw[θ (ne _ _ q nofun)];show q,λb o u q=>by rw[θ (ne _ _ q nofun)];show q,λb ps q=>#[#v[],by rw[θ (ne _ _ q nofun),q];simp]] λb u q=>?_
 .show this
 .by_cases z:b=d
  .subst z;rw[ς]at q;cases q;show#[f,st<*(I.hok _ _ hn)]
  .rw[θ z]at q;show st b u (I.hok b u q)
def Inv.aj8(I:Inv X ϵ σ H s)(hn:H d=↑(.frz o (.dK Ϸ)))(m:∀o u,¬X.H₀ d=↑(.frz o u)):Inv X ϵ σ (upd H d (.dK Ϸ)) s:=by
 let ne:∀b u,H b=↑u->(∀o v,u≠.frz o v)->b≠d:=λb u e h z=>by rw[z,hn]at e;cases e;show h<*rfl
 let g:∀b,H b=none->b≠d:=λb e z=>by rw[z,hn]at e;cases e
 show#[I.ok,I.os,I.bare,#[I.base.keep,I.base.slot,λb o e n B=>?_,I.base.there,λb xs e=>?_,λb o u e=>?_,λb ps e=>?_],I.loc,I.cell,?_,λx c e=>?_,λp D=>?_,λb u e=>?_,I.len]
 .have :=I.base.free b o e n B;rw[θ (g b this)];show this
 .have :=I.base.tups b xs e;rw[θ (ne _ _ this (λ_ _ z=>by cases z))];show this
 .rw[θ (λz=>m o u (by rw[<-z];show e))];show I.base.frzs b o u e
 .let#[f,q]:=I.base.tbls b ps e;show#[f,by rw[θ (ne _ _ q (λ_ _ z=>by cases z))];show q]
 .rw[θ (g _ I.free)];show I.free
 .rw[θ (g _ (I.freeC x c e))];show I.freeC x c e
 .let#[p1,p2,p3]:=I.pin p D;show#[p1,by rw[θ (g _ p2)];show p2,p3]
 .by_cases z:b=d
  .subst z;rw[ς]at e;cases e;let#[_,q]:=(I.hok b _ hn:ώ X.prog X.w H s.heap b (.frz o (.dK Ϸ)));let#[z,y,vs,r,a,es,ep,e,c]:=q;show#[z,y,vs,r,a,es,ep,e,c]
  .rw[θ z]at e;let k1:∀c,H c=↑(.own b)->(upd H d (.dK Ϸ)) c=↑(.own b):=λc q=>by rw[θ (ne _ _ q (λ_ _ z=>by cases z))];show q
   let k2:∀c xs,H c=↑(.tup xs)->(upd H d (.dK Ϸ)) c=↑(.tup xs):=λc xs q=>by rw[θ (ne _ _ q (λ_ _ z=>by cases z))];show q
   let k3:∀c a v vs,H c=↑(.frz a v)->a.data=.fields vs->(upd H d (.dK Ϸ)) c=↑(.frz a v):=λc a v vs q E=>by
    let i:c≠d:=λi=>by
     rw[i,hn]at q;let#[F,_,_,_,_,j,es,ep,l,_,hd,_]:=(I.hok d _ hn:ώ X.prog X.w H s.heap d (.frz o (.dK Ϸ)));rw[F]at l;let e1:j=o:=(Option.some.inj l).symm;let G:a=o:=by injection q with q;injection q with J L;show J.symm
     rw[e1, <-G,E]at hd;cases hd
    rw[θ i];show q
   show ώ.aes (H':=upd H d (.dK Ϸ)) (I.hok b u e) k1 k2 k3
theorem O5(hn:H d=↑(.dK Ϸ))(h:∀o,Η X body D σ (upd H d (.frz o (.dK Ϸ)))):Η X body D σ H:=λϵ s I=>by
 let#[o,a]:=I.ajo hn;show h o ϵ s a
theorem QR(hn:H d=↑(.frz o (.dK Ϸ)))(a:∀o u,¬X.H₀ d=↑(.frz o u))(h:Η X body D σ (upd H d (.dK Ϸ))):Η X body D σ H:=λϵ s I=>h ϵ s (I.aj8 hn a)
end
def kY(keep:Nat->Bool)(n:Nat):List Nat:=(acV n).filter keep
def ajX(keep:Nat->Bool)(n:Nat):kY keep (n+1)=kY keep n++(if keep n=true then[n]else[]):=by
 unfold kY;rw[asR,aso];by_cases h:keep n=true
 .simp[h]
 .let h':keep n=false:= ~~~h
  simp[h']
def aiy(keep:Nat->Bool)(n:Nat):↥(kY keep n)<=n:=by
 have:=ahD keep (acV n);rw[ahu]at this;show this
def Yz(X:Cx)(N':List Str)(scope:ahx)(tg elt c:ϩ)(σ':St)(H1:Hp)(Q:VK)(xs:List V):Prop:=
 ∃(g:St->Prop)(keep:Nat->Bool)(e:δ->Nat->V->Hp->Prop),g σ'/\
  (∀E i v H2 f ys,H2 E=↑(.lst ys)->(∀b o,b≠E->H2 b=↑o->f b=↑o)->e E i v H2->e E i v f)/\
  (∀(fp:List δ)(E C:δ)(j:μ)(H0:Hp)(i:Nat)(m:St)(x:V)(H2:Hp),H1 E=none->xs[i]?=↑x->g m->ζ H1 H2->(∃ys,H2 E=↑(.lst ys))->
   EG (b8 X N' scope (Ϙ scope X.env) C j H0 fp) tg x m H2 λa f=>ET (b8 X N' scope (Ϙ scope X.env) C j H0 fp) c a f λk l=>k=keep i/\g a/\ζ H2 l/\(k=true->EV (b8 X N' scope (Ϙ scope X.env) C j H0 fp) elt a l λv n=>e E i v n/\ζ l n))/\
  ∀(E:δ)(H2:Hp)(us:List V),H1 E=none->H2 E=↑(.lst us)->_V.ρ (λu i=>e E i u H2) us (kY keep ↥xs)->ζ H1 H2->Q (.ref E) H2
def ah7(hn:↥xs<=ϰ)(hl:η X.K H l xs)(h:Yz X N' scope tg elt c σ' H Q xs):∀(fp:List δ)(E C:δ)(M:μ),H E=none->j6 X (b8 X N' scope (Ϙ scope X.env) C M (upd H E (.lst [])) fp) tg elt [c] (lH X.K l) E σ' H (λH'=>Q (.ref E) H'):=by
 intro fp E C M F;let#[S,keep,T,t0,mono,step,fin]:=h;show#[λi m O H1=>m=↥xs-i/\i<=↥xs/\ζ H H1/\S O/\∃us,H1 E=↑(.lst us)/\_V.ρ (λu i=>T E i u H1) us (kY keep i),#[↥xs,by simp,aeG _,ζ.upd F,t0,[],ς,.nil],?_]
 rintro i m O H1 ⟨rfl,hi,y,P,us,g,G⟩
 by_cases z:i<↥xs
 .show .inr #[#[xs,xs[i],ζ.seq y hl,ϳ z],λB H'=>ζ H H'/\S B/\∃us,H' E=↑(.lst us)/\_V.ρ (λu i=>T E i u H') us (kY keep (i+1)),λB H' z1=>by let#[a,b,d]:=z1;show #[↥xs-(i+1),(),rfl,z,a,b,d],λx H2 U=>?_];let Y:xs[i]?=↑x:=U.2 xs (ζ.seq y hl);let Z:H2=H1:=U.1;subst Z;intro ϵ s u I r;show χ (step fp E C M _ i O x _ F Y P y #[us,g] ϵ s u I r) λ_ s' ⟨R,H3,I3,q3⟩=>#[R,H3,I3,alL ?_]
  show λϵ s I=>χ (q3 ϵ s I) λk s' ⟨H4,I4,hk,W,n,q⟩=>#[H4,I4,?_]
  subst hk;let J:=ajX keep i;let hkl:=aiy keep i;let km:=G.len;by_cases f:keep i=true
  .rw[if_pos f];rw[if_pos f]at J;show ϙ (q f) λv L ⟨pv,D⟩=>#[us,D<*(n _ _ g),(),?_]
   let up:∀b o,b≠E->L b=↑o->(upd L E (.lst (us++[v]))) b=↑o:=λb o hb e=>by rw[θ hb];show e
   show#[λb o e=>?_,W,us++[v],ς,?_]
   .rw[θ (ό e F)];show D<*(n<*(y _ _ e))
   .rw[J];show _V.ρ.app (G.imp λu j p=>?_) (.cons (mono E i v L _ us (D<*(n _ _ g)) up pv) .nil)*>mono E j u L _ us (D<*(n _ _ g)) up (mono E j u H2 _ us g (λb o _ e=>D _ _ (n<*e)) p)
  .rw[if_neg f];rw[if_neg f,alR]at J;show#[y<|>n,W,us,n<*g,?_];rw[J];show G.imp λu j p=>mono E j u H2 _ us g (λb o _ e=>n _ _ e) p
 .let e:i=↥xs:=()
  subst e;show .inl #[#[xs,ζ.seq y hl,Ϭ _],fin E H1 us F g G y]
def ac4(N':List Str)(a:cN N' X.N σ scope=σ')(f:X.calm=true)(S:cP X.env scope)(hs:∀x,foldedSetIterable e X.env x=pure x)(h:EV X e σ H λv H1=>∃l xs,v=.ref l/\η X.K H1 l xs/\↥xs<=ϰ/\Yz X N' scope tg elt c σ' H1 Q xs):EV X (.ListComp elt [#[tg,e,[c],0]] scope pos) σ H Q:=by
 show uf (N':=N') f S hs (uK (ϙ h λv H1 q=>?_));let#[l,xs,rfl,hl,g,i]:=q;show#[l,rfl,#[xs,hl],?_];rw[a];show ah7 g hl i
section
variable{X:Cx}{D:Ends}{σ:St}{H:Hp}{rest:List am3}{suite:List Ϧ}{b₀:Ϧ}{pos np:Pos}{x n:Str}{c:ε}{C:δ}{d:Option δ×Bool}{i:Nat}
abbrev acP(D:Ends)(i:Nat):Ends:=
 {nx:=λσ' H'=>D.nx (σ'.set i none) H',rt:=D.rt,bk:=λσ' H'=>D.bk (σ'.set i none) H',ct:=λσ' H'=>D.ct (σ'.set i none) H'}
def ajd(hN:X.N.Nodup)(hi:nameAt X.N n=↑i)(l:X.env.scope.names.lookup n=↑.local)(hg:Gl X x)(hm:X.mg x=↑c)(hd:(x==("__debug__":Str))=false)(ex:asV X.K (.ref C) c=↑true)(h:∀e pn,H e=none->Η (X.je (.ref e) (λ_ _=>False) pn) (b₀::suite) (acP D i) (σ.set i ↑(.ref e)) (upd H e (xw e C d.1))):EH X (.ExceptHandler ↑(.Name x np) ↑n (b₀::suite) pos::rest) D σ (.ref C) d H:=by
 intro ϵ s e T I F ch;let p:(X.env.scope.kind==.class||(X.env.scope.kind==.module&&X.env.locals !=X.env.globals))=false:=by rw[I.ok.kind];rfl
 let L:i<↥X.N:=(aav.mp (mq hi)).1;let#[M,R]:=ch e (by simp);show wpAny_handleBy_cons (akJ I F hg hm hd ex ?_) (by intro q;cases q)*>codeAny_handlers_suite_as (I.off F ch λs2 I2 F2=>?_)*>ug I2 hN (mq hi) (.inl l) (v:=.ref e) rfl (λs3 I3 S=>?_) (.inr l);let#[a,sb,ha]:=S;let U:e≠a:=by
  obtain z|z:=ha
  .rw[z];show R.2.1
  .show λy=>R.2.2.1 n a z y.symm
 let#[oe,vs,he,W,Y,Z,_]:=F2;let aa:s3.heap.get? e=↑oe:=(sb.2 e U)<|>he;let I4:=I3.adopt M R (φ:=λh=>∃oe vs,h.get? e=↑oe/\oe.cls=.ref C/\oe.dict=d.1/\oe.data=.fields vs) (ais aa W Y Z);show ac7 (h e (X.pn++ϵ) M [] s3 I4.je) (λf s4 q=>?_) λ_ _ q=>q.elim
 let g:∀{σ':St}{H':Hp}{Q:Unit->μ->Prop},Inv X ϵ σ' H' s4->(∀G,Inv X ϵ (σ'.set i none) H' G->Q PUnit.unit G)->π ∅ X.A (do bindName X.env n .none;unbindBehindTheSuite X.env n pos) Q X.xe s4:=λ{σ' H' Q} J k=>by
  let J3:Inv X ϵ (σ'.set i none) H' s4:=J.weak (by simp) λj v P=>by
   by_cases z:j=i
   .subst z;rw[am9 (by rw[J.len];show L)]at P;cases P
   .rw[arT (Ne.symm z)]at P;show P
  let#[m,hn,hl]:=id J3.loc;show wpAny_nameGoes_keeps (show X.env.kindOf n=↑.local from l) hn p λh' v O ab=>k _ ?_
  show J3.abV (m:=m) (m':=λx=>if x=n then v else m x) hN (mq hi) (am9 (by rw[J.len];show L)) hl O (λx hx=>by rw[if_neg hx]) (λb o S q=>(ab.2 b S).trans q) ?_;let#[o,_,_,ho,_]:=O;show#[o,ho]
 cases f with
 |next=>
  let#[σ',H',J,B]:=q;show g (Inv.yM I.ok J) λG E=>#[_,_,E,B]
 |brk=>
  let#[σ',H',J,B]:=q;show g (Inv.yM I.ok J) λG E=>#[_,_,E,B]
 |cont=>
  let#[σ',H',J,B]:=q;show g (Inv.yM I.ok J) λG E=>#[_,_,E,B]
 |ret u=>
  let#[v,σ',H',J,r,B]:=q;show g (Inv.yM I.ok J) λG E=>#[v,_,_,E,r,B]
end
end _L
namespace _L
open PySem PySem.Spec PyProof.Rows
abbrev LN(sp:Sp)(n:Nat):Prop:=∀vs H Q E,sp vs H Q E->↥vs=n
section
variable{K:Ϩ}{h:ϫ}{mg:MG}(X:K.In h)(G:h.Ns mainGlobals mg){x y m qual fld:Str}{st:Ϧ}{f C D:δ}{od an:Option δ}{sl:Array (Option ε)}{oc kV dc pm cd ct:ε}{t:Tok}
include X G
omit X G
include X G
omit X G
end
theorem aaz{st:Ϧ}{rest:List Ϧ}{D:Ends}{σ:St}{H:Hp}(h:let σ':=σ;let a:Ends:={D with nx:=λσ' H'=>Η X rest D σ' H'};SX X st a σ' H):Η X (st::rest) D σ H:=xF h
theorem aaK{st:Ϧ}{D:Ends}{σ:St}{H:Hp}(h:let σ':=σ;SX X st D σ' H):Η X [st] D σ H:=Lb h
end _L
namespace _L
open PySem PySem.Spec PyProof.Rows PySem.W
def ud(k:Int):ε->Bool
 |.int i _=>i==k
 |_=>false
end _L
set_option compiler.extract_closed false
seal _L.EV _L.ET _L.EW _L.EA _L.SX _L.Η _L.EG _L.wX _L.EI _L.OP _L.UN _L.CL _L.IX _L.SL _L.MT _L.EJ _L.lZ _L.EH
section
open Lean
protected def _Z.q:Term:=⟨mkNode ``Parser.Term.hole #v[mkAtom "_"]⟩
protected def _Z.h (k:Name) (n:Nat):Term:=Syntax.mkApp (mkIdent k) (Array.replicate n _Z.q)
protected def _Z.t (l:List (MacroM (TSyntax `tactic))):MacroM (TSyntax `tactic):=do
 let a<-l.toArray.mapM id
 `(tactic|first $[| $a:tactic]*)
protected def _Z.r (l:List Name):MacroM (TSyntax `tactic):=do
 let a<-l.toArray.mapM λn=>`(tactic|refine $(mkIdent n) ?_)
 `(tactic|with_reducible first $[| $a:tactic]*)
protected def _Z.w (s:String):MacroM (TSyntax `tactic):=`(tactic|walk_at $(Syntax.mkStrLit s))
protected def _Z.b (t:MacroM (TSyntax `tactic)):MacroM Term:=do `(by $(← t):tactic)
protected def _Z.x (n:Name) (l:List Char) (f:Char → MacroM Term):MacroM (TSyntax `tactic):=do `(tactic|exact $(mkIdent n) $(← l.toArray.mapM f)*)
protected def _Z.a0:Char → MacroM Term
 |'r'=>_Z.b `(tactic|rfl)
 |'a'=>_Z.b `(tactic|assumption)
 |'d'=>_Z.b `(tactic|decide)
 |'o'=>_Z.b `(tactic|omega)
 |'q'=>`(?_)
 |'R'=>`(rfl)
 |'D'=>`(⟨by decide,by decide⟩)
 |'O'=>`(⟨by omega,by omega⟩)
 |_=>`(_)
protected def _Z.a:Char → MacroM Term
 |'u'=>_Z.b `(tactic|with_unfolding_all rfl)
 |'x'=>_Z.b (_Z.w "xo")
 |'f'=>_Z.b (_Z.t [`(tactic|decide),`(tactic|omega)])
 |'e'=>_Z.b (_Z.t [_Z.x ``Or.inl ['R'] _Z.a0,_Z.x ``Or.inr ['R'] _Z.a0])
 |'n'=>_Z.b (_Z.t [_Z.x `_L.PX ['_','d','d'] _Z.a0,`(tactic|rfl)])
 |'i'=>do `(λ_ _=>$(← _Z.a0 'r'))
 |'j'=>do `(λ_=>$(← _Z.a0 'r'))
 |'l'=>do `(Or.inl $(← _Z.a0 'a'))
 |'m'=>_Z.b (_Z.t [_Z.x ``Or.inr ['D'] _Z.a0,_Z.x ``Or.inl ['D'] _Z.a0,_Z.x ``Or.inl ['O'] _Z.a0,_Z.x ``Or.inr ['O'] _Z.a0])
 |'p'=>`(⟨by decide,by decide,by decide⟩)
 |'s'=>`(_L.U5 ⟨_,200,rfl,by decide +kernel,by omega,?_⟩)
 |c=>_Z.a0 c
protected def _Z.f (n:Name) (s:String):MacroM (TSyntax `tactic):=do
 let a<-s.toList.toArray.mapM _Z.a
 `(tactic|refine $(mkIdent n) $a*)
protected def _Z.c (j:Name) (l:List Term) (n:Nat) (t:MacroM (TSyntax `tactic)):MacroM (TSyntax `tactic):=do
 let c:=Syntax.mkApp (mkIdent j) (#v[_Z.q] ++ l.toArray ++ Array.replicate n _Z.q)
 `(tactic|((with_reducible change $c); $(← t)))
end
section
open Lean
protected def _Z.B (a b:Name):MacroM (TSyntax `tactic):=do
 `(tactic|refine _L.b7 PySem.F.plainAttrs_str $(mkIdent a) $(mkIdent b) (h:=?_))
protected def _Z.E:MacroM (TSyntax `tactic):=do
 let c1<-`((PySem.Expr.Compare _ [_] [_] _))
 let c2<-`((PySem.Expr.Compare _ [_,_] [_,_] _))
 let cl:=_Z.h ``PySem.Expr.Call 4
 let nm:=_Z.h ``PySem.Expr.Name 2
 let sb:=_Z.h ``PySem.Expr.Subscript 3
 let k1<-`(($(_Z.h ``PySem.Expr.Constant 3) :: _))
 let k2<-`(($(_Z.h ``PySem.Expr.FormattedValue 4) :: _))
 _Z.t [
  _Z.c `_L.EV [] 4 (_Z.t [
   _Z.c `_L.EV [nm] 3 (_Z.t [_Z.f `_L.alD "rq",_Z.f `_L.ahA "arqd",_Z.f `_L.aeI "rraq"]),
   _Z.r [`_L.agM,`_L.U5,`_L.akY],
   _Z.c `_L.EV [cl] 3 (_Z.t [
    _Z.c `_L.EV [Syntax.mkApp (mkIdent ``PySem.Expr.Call) #v[nm,_Z.q,_Z.q,_Z.q]] 3 (_Z.t [_Z.f `_L.ad6 "rrarrq",_Z.f `_L.afb "rrarrq",_Z.f `_L.ahr "aafdrxdrrq",_Z.f `_L.apB "aafdrxdq"]),
    _Z.B ``PySem.F.slot_str_join ``PySem.F.type_str_join,_Z.B ``PySem.F.slot_str_index ``PySem.F.type_str_index,_Z.B ``PySem.F.slot_str_startswith ``PySem.F.type_str_startswith]),
   _Z.c `_L.EV [c1] 3 (_Z.f `_L.anW "nq"),
   _Z.c `_L.EV [c2] 3 (_Z.f `_L.amK "uq"),
   _Z.r [`_L.afI,`_L.ad9,`_L.ah2],
   _Z.c `_L.EV [sb] 3 (_Z.f `_L.agD "iq"),
   _Z.r [`_L.Zq,`_L.afW,`_L.ane,`_L.ak2,`_L.ab4,`_L.ad1,`_L.Hd,`_L.anj,`_L.adz]]),
  _Z.c `_L.EA [] 4 (_Z.t [_Z.r [`_L.iu],_Z.f `_L.dw "rq"]),
  _Z.c `_L.ET [] 4 (_Z.t [
   _Z.c `_L.ET [c1] 3 (_Z.f `_L.anH "nq"),
   _Z.c `_L.ET [c2] 3 (_Z.f `_L.abN "uq"),
   _Z.r [`_L.afE],
   _Z.c `_L.ET [_Z.h ``PySem.Expr.BoolOp 3] 3 (_Z.f `_L.qW "q"),
   _Z.c `_L.ET [nm] 3 (_Z.f `_L.Wk "jq"),_Z.c `_L.ET [cl] 3 (_Z.f `_L.Wk "jq"),_Z.c `_L.ET [sb] 3 (_Z.f `_L.Wk "jq"),_Z.c `_L.ET [_Z.h ``PySem.Expr.Constant 3] 3 (_Z.f `_L.Wk "jq")]),
  _Z.c `_L.EW [] 4 (_Z.r [`_L.adW,`_L.aeK,`_L.agW,`_L.afh]),
  _Z.c `_L.EO [] 4 (_Z.r [`_L.anD,`_L.afK]),
  _Z.c `_L.lZ [] 5 (_Z.t [
   _Z.c `_L.lZ [k1] 4 (_Z.f `_L.abG "s"),
   _Z.c `_L.lZ [k2] 4 (_Z.f `_L.abG "q"),
   _Z.f `_L.afx "oq"])]
protected def _Z.O:MacroM (TSyntax `tactic):=_Z.r [`_L.aj1,`_L.akL,`_L.ak6,`_L.acg,`_L.aee,`_L.ahJ,`_L.ade,`_L.ab2,`_L.aiK,`_L.amo,`_L.apM,`_L.ago,`_L.agt,`_L.amN,`_L.aoW,`_L.aqu]
protected def _Z.P:MacroM (TSyntax `tactic):=do
 let i:=_Z.h `_L.V.int 1
 let c (n:Name):Term:=Syntax.mkApp (mkIdent ``PySem.compareOp) #v[mkIdent n]
 let b (n:Name):Term:=Syntax.mkApp (mkIdent ``PySem.binaryOp) #v[mkIdent n]
 let v (s:String):Term:=Syntax.mkApp (mkIdent ``PySem.Value.builtin) #v[Syntax.mkStrLit s]
 let r<-`([_L.V.ref _])
 let z<-`([_L.V.str _])
 _Z.t [
  _Z.c `_L.OP [c ``PySem.CmpOp.Eq] 4 (_Z.f `_L.Ky "rq"),
  _Z.c `_L.OP [c ``PySem.CmpOp.NotEq] 4 (_Z.f `_L.Hx "rq"),
  _Z.c `_L.OP [b ``PySem.Operator.Mod,i,i] 2 (_Z.f `_L.aoF "fq"),
  _Z.c `_L.OP [b ``PySem.Operator.Mult,i,i] 2 (_Z.f `_L.alf "mq"),
  _Z.c `_L.OP [b ``PySem.Operator.Pow,i,i] 2 (_Z.f `_L.Ka "pq"),
  _Z.c `_L.CL [v "len",r] 2 (_Z.f `_L.uB "lq"),
  _Z.c `_L.CL [v "len",z] 2 (_Z.f `_L.acf "oq"),
  _Z.c `_L.CL [v "ord",z] 2 (_Z.f `_L.akU "q"),
  _Z.c `_L.CL [v "isinstance"] 3 (_Z.t [`(tactic|refine _L.YJ (k:=false) ?_),`(tactic|refine _L.YJ (k:=true) ?_)])]
protected def _Z.T:MacroM (TSyntax `tactic):=do
 let f (c:Term):MacroM (TSyntax `tactic):=`(tactic|((with_reducible change $c); refine ⟨_,rfl,?_⟩))
 _Z.t [_Z.r [`_L.afD],_Z.r [`_L.ady],_Z.r [`_L.akp],_Z.r [`_L.aqc],
  _Z.r [`_L.agc,`_L.aiq,`_L.afY,`_L.adi,`_L.aro,`_L.aiG,`_L.aiX,`_L.aoo,`_L.apK,`_L.apy],
  do f (← `(∃ k,_L.V.bl _ = _L.V.bl k ∧ _)),do f (← `(∃ k,_L.Fq _ (_L.V.bl _) _ k ∧ _)),do f (← `(∃ i,_L.V.int _ = _L.V.int i ∧ _)),
  `(tactic|((with_reducible change _L.um _ _ (_L.V.str _) _ ∧ _); refine ⟨by rfl,?_⟩))]
protected def _Z.S:MacroM (TSyntax `tactic):=do
 let a<-`((PySem.Stmt.Assign [PySem.Expr.Name _ _] _ _))
 _Z.t [_Z.r [`_L.Δ],`(tactic|((with_reducible refine _L.aaK ?_); intro _)),`(tactic|((with_reducible refine _L.aaz ?_); intro _ _)),
  _Z.r [`_L.ψ,`_L.ap8,`_L.apR,`_L.Λ],
  _Z.c `_L.SX [a] 3 (_Z.f `_L.adK "arereq"),
  _Z.c `_L.SX [_Z.h ``PySem.Stmt.Expr 2] 3 (_Z.f `_L.aD "q")]
end
local macro_rules|`(tactic|walk_at "xo")=>`(tactic|first|exact _L.Ϝ|assumption|exact _L.XR rfl)
local macro_rules|`(tactic|walk_at "po")=>`(tactic|first|exact _L.acb|assumption|exact PySem.PassesOwn.never)
local macro_rules|`(tactic|walk_at "cb")=>_Z.f `_L.ad6 "rrarrq"
local macro_rules|`(tactic|walk_at "e")=>_Z.E
local macro_rules|`(tactic|walk_at "t")=>_Z.T
local macro_rules|`(tactic|walk_at "c")=>`(tactic|(refine _L.aaz ?_; intro _ _))
local macro_rules|`(tactic|walk_at "n")=>`(tactic|(refine _L.aaK ?_; intro _))
local macro_rules|`(tactic|walk_at "s")=>_Z.S
local macro_rules|`(tactic|walk_at "go")=>do
 let x<-_Z.t [_Z.E,_Z.O,_Z.P,_Z.T,_Z.S]
 `(tactic|repeat' ($x:tactic))
local macro_rules|`(tactic|walk_at "ex")=>do
 let x<-_Z.t [_Z.E,_Z.O,_Z.P,_Z.T]
 `(tactic|repeat' ($x:tactic))
namespace _L
theorem mZ{α:Type}{us:List α}(h:↥us=1):∃a,us=[a]:=match us,h with|[a],_=>#[a,rfl]
theorem jD{α:Type}{us:List α}(h:↥us=2):∃a b,us=[a,b]:=match us,h with|[a,b],_=>#[a,b,rfl]
theorem YW{α:Type}{us:List α}(h:↥us=3):∃a b c,us=[a,b,c]:=match us,h with|[a,b,c],_=>#[a,b,c,rfl]
theorem aiD{α:Type}{us:List α}(h:↥us=4):∃a b c d,us=[a,b,c,d]:=match us,h with|[a,b,c,d],_=>#[a,b,c,d,rfl]
theorem aco{α:Type}{us:List α}(h:↥us=5):∃a b c d e,us=[a,b,c,d,e]:=match us,h with|[a,b,c,d,e],_=>#[a,b,c,d,e,rfl]
theorem alE{α:Type}{us:List α}(h:↥us=6):∃a b c d e f,us=[a,b,c,d,e,f]:=match us,h with|[a,b,c,d,e,f],_=>#[a,b,c,d,e,f,rfl]
theorem ahe{α:Type}{us:List α}(h:↥us=7):∃a b c d e f g,us=[a,b,c,d,e,f,g]:=match us,h with|[a,b,c,d,e,f,g],_=>#[a,b,c,d,e,f,g,rfl]
end _L
open Lean Parser.Tactic in
local macro_rules|`(tactic|walk_at "bb")=>_Z.t ([(1,`_L.mZ),(2,`_L.jD),(3,`_L.YW),(4,`_L.aiD),(5,`_L.aco),(6,`_L.alE),(7,`_L.ahe)].map λ(n,x)=>do
 let p<-`(rcasesPatLo|_)
 let q:=Array.replicate n p
 `(tactic|(intro _ _ _ _ _ _ us hl;obtain ⟨$q,*,e⟩:=$(mkIdent x) hl;subst e;rfl)))
local macro_rules | `(tactic| walk_at "ln") => `(tactic| (intro _ _ _ _ h; cases h; subst_vars; rfl))
local macro_rules | `(tactic| walk_at "A") => `(tactic| (walk_at "c"; walk_at "s"; walk_at "ex"))
namespace _K
open PySem _L PyProof.Rows
abbrev ahg:List Str:=["self","values","value"]
def PJ:Ξ ahg ["self","values"] (υ vQ):=by room
abbrev acw:List Str:=["self","row","values","was"]
def Xp:Ξ acw ["self","row","values"] (υ zy):=by room
abbrev alK:List Str:=["self","moment","rows","deed"]
def OD:Ξ alK ["self","moment"] (υ Ii):=by room
abbrev acj:List Str:=["self","now"]
def ajN:Ξ acj ["self","now"] (υ QH):=by room
abbrev aeM:List Str:=["self","known"]
def aoc:Ξ aeM ["self","known"] (υ ZG):=by room
abbrev afd:List Str:=["word","most","number"]
def W0:Ξ afd ["word","most"] (υ Hc):=by room
abbrev adm:List Str:=["word","below","number"]
def NK:Ξ adm ["word"] (υ Rb):=by room
abbrev alc:List Str:=["word"]
def Vj:Ξ alc ["word"] (υ Qn):=by room
abbrev afq:List Str:=["columns","name","kind","names"]
def P0:Ξ afq ["columns"] (υ DW):=by room
abbrev aeV:List Str:=["columns","name","place","column"]
def XJ:Ξ aeV ["columns","name"] (υ NP):=by room
abbrev aeJ:List Str:=["columns","row","values"]
def Wl:Ξ aeJ ["columns","row","values"] (υ Jk):=by room
abbrev akn:List Str:=["columns","word","sign","name"]
def abf:Ξ akn ["columns","word"] (υ abB):=by room
abbrev acC:List Str:=["columns","text","words","order","names"]
def XQ:Ξ acC ["columns","text"] (υ yj):=by room
abbrev akK:List Str:=["order","one","other","column","value","against"]
def Vw:Ξ akK ["order","one","other"] (υ Ot):=by room
abbrev ZW:List Str:=["rows","place","up","rank"]
def PN:Ξ ZW ["rows","place","up"] (υ yu):=by room
abbrev Zk:List Str:=["columns","order","rows","line","name","up"]
def Sd:Ξ Zk ["columns","order","rows"] (υ yG):=by room
abbrev alv:List Str:=["columns","order","line","cut","low","high","middle","row","values"]
def Ri:Ξ alv ["columns","order","line","cut"] (υ Xm):=by room
abbrev alj:List Str:=["cut","values","row"]
def Tt:Ξ alj ["cut"] (υ YK):=by room
abbrev adx:List Str:=["columns","order","side","rows","cut","row","values"]
def Nk:Ξ adx ["columns","order","side","rows","cut"] (υ Ti):=by room
abbrev amL:List Str:=["columns","order","line","cut","start","stop","here","back","forth"]
def YG:Ξ amL ["columns","order","line","cut","start","stop"] (υ vI):=by room
abbrev aou:List Str:=["columns","order","line","cut","size","start"]
def Nq:Ξ aou ["columns","order","line","cut","size"] (υ N7):=by room
abbrev akq:List Str:=["columns","order","line","cut","size","stop"]
def Wy:Ξ akq ["columns","order","line","cut","size"] (υ aa3):=by room
abbrev aj3:List Str:=["text","total","power","sign"]
def Nz:Ξ aj3 ["text"] (υ Zb):=by room
abbrev aj0:List Str:=["columns","words","place","column"]
def Yc:Ξ aj0 ["columns","words","place"] (υ ZR):=by room
abbrev ada:List Str:=["kind","words","place","word","value"]
def aay:Ξ ada ["kind","words","place"] (υ SN):=by room
abbrev alr:List Str:=["columns","words","start","column"]
def aaF:Ξ alr ["columns","words","start"] (υ RB):=by room
abbrev alH:List Str:=["columns","words","start","word","column","kind","value","text"]
def Zo:Ξ alH ["columns","words","start"] (υ X4):=by room
abbrev agi:List Str:=["columns","words","start","within","word","one","behind","other","text"]
def Wf:Ξ agi ["columns","words","start","within"] (υ ZV):=by room
abbrev adw:List Str:=["columns","words","start","within","word"]
def Bt:Ξ adw ["columns","words","start","within"] (υ T4):=by room
abbrev amc:List Str:=["columns","text","words","sieve","behind"]
def SM:Ξ amc ["columns","text"] (υ Vk):=by room
abbrev ahp:List Str:=["cut","values","row","sign"]
def aa2:Ξ ahp ["cut"] (υ Ly):=by room
abbrev akt:List Str:=["mark","make","moment","order","sieve","cut","body"]
def Uw:Ξ akt ["mark"] (υ Ux):=by room
abbrev ajO:List Str:=["letter","make"]
def Xd:Ξ ajO ["letter"] (υ Yb):=by room
abbrev ale:List Str:=["word","most","number"]
def Mw:Ξ ale ["word","most"] (υ S8):=by room
abbrev ah3:List Str:=["columns","order","text","side","words","row","kinds"]
def aar:Ξ ah3 ["columns","order","text"] (υ J4):=by room
abbrev amE:List Str:=["columns","body","parts","make","moment","order","sieve"]
def abE:Ξ amE ["columns","body"] (υ QM):=by room
abbrev aiH:List Str:=["columns","text","body","stop","check"]
def T5:Ξ aiH ["columns","text"] (υ Yk):=by room
abbrev ab1:List Str:=["book","make","begin","sieve","rows"]
def R4:Ξ ab1 ["book","make","begin","sieve"] (υ NZ):=by room
abbrev aod:List Str:=["book","mark","size","onward","make","begin","order","text","cut","columns","line","here","back","forth","ahead","rows","moment"]
def Pq:Ξ aod ["book","mark","size","onward"] (υ yH):=by room
abbrev abS:List Str:=["book","text","mark"]
def Ql:Ξ abS ["book","text"] (υ VG):=by room
abbrev akb:List Str:=["_law_script","_law_k","_law_many","_law_cell","_law_seed"]
def TY:Ξ akb ["_law_script","_law_k","_law_many"] (υ O9):=by room
abbrev ael:List Str:=["_law_script","_law_many","_law_letters","_law_word_here","_law_size","_law_at","_law_first_here","_law_some","_law_k","_law_name","_law_sign"]
def R6:Ξ ael ["_law_script","_law_many"] (υ Al):=by room
abbrev adG:List Str:=["_law_script","_law_many","_law_names_here","_law_some"]
def RM:Ξ adG ["_law_script"] (υ rE):=by room
abbrev alJ:List Str:=["_law_script","_law_k","_law_kind","_law_way","_law_cell","_law_sign"]
def Xi:Ξ alJ ["_law_script","_law_k","_law_kind"] (υ K6):=by room
abbrev ahX:List Str:=["_law_script","_law_k","_law_columns_here","_law_first_here","_law_order_here","_law_n","_law_name"]
def Yn:Ξ ahX ["_law_script","_law_k","_law_columns_here"] (υ W3):=by room
abbrev anP:List Str:=["_law_script","_law_k","_law_columns_here","_law_way","_law_at","_law_value_here"]
def MP:Ξ anP ["_law_script","_law_k","_law_columns_here"] (υ Eg):=by room
abbrev Wo:List Str:=["_law_sieve_here","_law_columns_here","_law_words"]
def Jo:Ξ Wo ["_law_sieve_here","_law_columns_here"] (υ uC):=by room
abbrev NB:List Str:=["_law_sieve_here","_law_values_here","_law_value_here"]
def Ff:Ξ NB ["_law_sieve_here","_law_values_here"] (υ wA):=by room
abbrev agn:List Str:=["_law_columns_here","_law_order_here","_law_one","_law_names_here"]
def Yd:Ξ agn ["_law_columns_here","_law_order_here","_law_one"] (υ yJ):=by room
abbrev akV:List Str:=["_law_order_here","_law_one","_law_other","_law_k","_law_mine","_law_theirs","_law_less"]
def Ph:Ξ akV ["_law_order_here","_law_one","_law_other"] (υ Ur):=by room
abbrev adU:List Str:=["_law_columns_here","_law_order_here","_law_sieve_here","_law_rows","_law_line_here","_law_row","_law_key_here","_law_at","_law_other"]
def Qi:Ξ adU ["_law_columns_here","_law_order_here","_law_sieve_here","_law_rows"] (υ W7):=by room
abbrev afS:List Str:=["_law_columns_here","_law_make","_law_begin","_law_order_here","_law_sieve_here","_law_sign","_law_one","_law_key_here","_law_words","_law_head","_law_text","_law_total","_law_power","_law_letter"]
def V9:Ξ afS ["_law_columns_here","_law_make","_law_begin","_law_order_here","_law_sieve_here","_law_sign","_law_one"] (υ KN):=by room
abbrev aiW:List Str:=["_law_script","_law_k","_law_columns_here","_law_book","_law_state","_law_row","_law_way","_law_values_here"]
def Nt:Ξ aiW ["_law_script","_law_k","_law_columns_here","_law_book","_law_state"] (υ tV):=by room
abbrev ahB:List Str:=["_law_script","_law_columns_here","_law_book","_law_many","_law_state","_law_k","_law_row","_law_values_here"]
def O4:Ξ ahB ["_law_script","_law_columns_here","_law_book","_law_many"] (υ J8):=by room
abbrev afw:List Str:=["_law_columns_here","_law_head","_law_line_here","_law_state","_law_first_here","_law_after","_law_own","_law_make","_law_begin","_law_order_here","_law_sieve_here","_law_rows","_law_row","_law_values_here","_law_back","_law_forth","_law_moment"]
def S6:Ξ afw ["_law_columns_here","_law_head","_law_line_here","_law_state","_law_first_here","_law_after","_law_own"] (υ ue):=by room
abbrev acU:List Str:=["_law_columns_here","_law_order_here","_law_line_here","_law_sign","_law_one","_law_key_here","_law_many","_law_other","_law_theirs"]
def Q8:Ξ acU ["_law_columns_here","_law_order_here","_law_line_here","_law_sign","_law_one"] (υ Ge):=by room
abbrev ab5:List Str:=["_law_columns_here","_law_head","_law_state","_law_rows","_law_kept","_law_size","_law_forth","_law_make","_law_begin","_law_order_here","_law_sieve_here","_law_line_here","_law_place_here","_law_own","_law_first_here","_law_after","_law_due","_law_more"]
def WT:Ξ ab5 ["_law_columns_here","_law_head","_law_state","_law_rows","_law_kept","_law_size","_law_forth"] (υ xf):=by room
abbrev acz:List Str:=["_law_book","_law_own","_law_size","_law_forth","_law_found","e"]
def Tc:Ξ acz ["_law_book","_law_own","_law_size","_law_forth"] (υ Zn):=by room
abbrev abX:List Str:=["_law_columns_here","_law_head","_law_line_here","_law_state","_law_book","_law_size","_law_due","_law_texts"]
def WM:Ξ abX ["_law_columns_here","_law_head","_law_line_here","_law_state","_law_book","_law_size"] (υ RZ):=by room
abbrev aex:List Str:=["_law_state","_law_rows","_law_row"]
def RK:Ξ aex ["_law_state"] (υ Mx):=by room
abbrev ag0:List Str:=["_law_script","_law_k","_law_book","_law_state","_law_oldest","_law_moment"]
def abg:Ξ ag0 ["_law_script","_law_k","_law_book","_law_state","_law_oldest"] (υ aaf):=by room
abbrev adC:List Str:=["_law_script","_law_k","_law_way"]
def Oe:Ξ adC ["_law_script","_law_k"] (υ Og):=by room
abbrev yw:List Str:=["_law_script","_law_columns_here","_law_book","_law_state","_law_order_here","_law_head","_law_rows","_law_size","_law_line_here","_law_held","_law_marks","_law_oldest","_law_k","_law_n","_law_at","_law_forth","_law_own","_law_due","_law_more","_law_found"]
def O2:Ξ yw ["_law_script"] (υ iH):=by room
section
variable{P:Ϯ}{w:ϭ}{K:Ϩ}{mg:MG}{base:ϫ}{cc:Bool}{k:Nat}{sp:Sp}
def akQ(T:Txt K mg):Cz P w K mg base cc 1 "Later" "now":=by
 show M5 T.Cm ajN (by walk_at"bb") rfl (λf j A outer s H vs Q E hi l h=>?_);let#[e,n,rfl,hn,a,q]:=h;let hsz:=ϯ;show xF (aD ?_)*>Qx (pl:=_) T.Xa.toXBase ?_;cbv;show Z7 ?_;f_are;show#[n,rfl,_V.iU hn,_,70,rfl,_V.R1 hn,(),?_];cbv;intro m;show iu (Mq hi a ?_)*>Lb (Rn T.Cm.sa T.Cm.xc T.Cm.tk (by rfl) ?_);f_are;f_are;show#[e,rfl,a,λD c g=>q D _ g c (λb o i r=>?_) ς ?_]
 .rw[θ i,θ (ό r c)];show r
 .rw[θ g,ς]
def afX(T:Txt K mg):Cz P w K mg base cc 1 "Gone" "known":=by
 show M5 T.Ad aoc (by walk_at"bb") rfl (λf j A outer s H vs Q E hi l h=>?_);let#[e,n,rfl,hn,a,q]:=h;let hsz:=ϯ;show xF (aD ?_)*>Qx (pl:=_) T.Xa.toXBase ?_;cbv;show Z7 ?_;f_are;show#[n,rfl,_V.iU hn,_,70,rfl,_V.R1 hn,(),?_];cbv;intro m;show iu (Mq hi a ?_)*>Lb (Rn T.Ad.sa T.Ad.xc T.Ad.tk (by rfl) ?_);f_are;f_are;show#[e,rfl,a,λD c g=>q D _ g c (λb o i r=>?_) ς ?_]
 .rw[θ i,θ (ό r c)];show r
 .rw[θ g,ς]
end
end _K
namespace _K
open PySem _L PyProof.Rows _M _V _W
section
variable{P:Ϯ}{w:ϭ}{K:Ϩ}{mg:MG}{base:ϫ}
def iC:Def 1 "_law_draw" ["_law_script","_law_k","_law_many"] (Wq K):=by
 exists TY,iC,l,#[a,ns,k,m,rfl,g,hl,i,j,n,q],n1.bz,2;let f:↥(ns.map V.int)=↥ns:=aaw ..;w_up;cbv;rw[f];let fin:∀c:Int,c=Cp ns k->Q (.int ((c % 1000003+31*k*k+1)*48271 % 999983*7919 % 524287 % m)) H:=λc e=>by rw[e];show q
 show Α (λh=>?_) (λh=>?_)
 .cbv;rw[f];cbv;show ύ g (Zw 0 (ah8 _ ()) (agT _ ())) ?_;cbv;show fin _ (by unfold Cp;rw[if_pos ()])
 .cbv;show fin _ (by unfold Cp;rw[if_neg ()])
def Va:ji.cps.toList=List.range' 97 26:=by fin2
def ad5(c:Nat):c∈ji.cps.toList↔97<=c/\c<=122:=by
 rw[Va,List.mem_range'_1];omega
def Vq(h:k<26):ji.cps.toList[k]?=↑(97+k):=by
 rw[Va,List.getElem?_range' h];simp
def akI(h1:1<=↥z)(a:↥z<=8)(h:∀c∈z.cps.toList,97<=c/\c<=122):isName z=true:=by
 unfold isName eV;rw[aaO,decide_eq_true_eq,acL];show#[#[h1,a],λc e=>decide_eq_true ((ad5 c).mpr (h c e))]
def cM(W:Str)(at_ size first:Nat)(b:Bool)(j:Nat):Str:=
 if b=true then ϐ W none ↑(at_:Int)++#[#v[97+(first+7*j) % 26]]++ϐ W ↑((at_+1:Nat):Int) ↑(size:Int) else ϐ W none ↑((j+1:Nat):Int)
def By(a:↥W=8)(ha:at_<size)(hs:size<=8):(cM W at_ size first true j).cps.toList=W.cps.toList.take at_++(97+(first+7*j) % 26)::(W.cps.toList.drop (at_+1)).take (size-(at_+1)):=by
 unfold cM;rw[if_pos rfl,bJ,bJ,Be,yR,_H.mL,_H.mL,a,aiU (),aiU (),asy];rfl
def xU:(cM W at_ size first false j).cps.toList=W.cps.toList.take (j+1):=by
 unfold cM;rw[if_neg (by decide),Be]
def agV(a:↥W=8)(ha:at_<size)(hs:size<=8)(c:j<6):1<=↥(cM W at_ size first b j)/\↥(cM W at_ size first b j)<=8:=by
 let hl:=len_list W;rw[_L.len_list (cM W at_ size first b j)];cases b with
 |true=>
  rw[By a ha hs,abp,acD,adn,adn,adu];omega
 |false=>
  rw[xU,adn];omega
def agm(f:↥W=8)(ha:at_<size)(hs:size<=8)(e:∀c∈W.cps.toList,97<=c/\c<=122):∀c∈(cM W at_ size first b j).cps.toList,97<=c/\c<=122:=by
 intro c a;cases b with
 |true=>
  rw[By f ha hs]at a;obtain h|h:=adH.mp a
  .show e c (aeA h)
  .obtain h|h:=aaB.mp h
   .have :=asz (first+7*j) (show 0<26 by decide);omega
   .show e c (aey (aeA h))
 |false=>
  rw[xU]at a;show e c (aeA a)
def alC(c:↥W=8)(ha:at_<size)(hs:size<=8)(hi:i<6)(f:j<6)(e:cM W at_ size first b i=cM W at_ size first b j):i=j:=by
 let hl:=len_list W;let a:=congrArg (λz:Str=>z.cps.toList) e;cases b with
 |true=>
  rw[By c ha hs,By c ha hs]at a;let h1:=(List.append_inj a rfl).2;injection h1 with h2 _
  omega
 |false=>
  rw[xU,xU]at a;have:=congrArg apW a;rw[adn,adn]at this;omega
inductive Qg(K:Ϩ):Sp
 |mk (a:δ) (ns:List Int) (m:Nat):vs=[.ref a,.int m]->η K H a (ns.map V.int)->↥ns<=63->m<=6->(∀(p:δ)(zs:List Str) H',ζ H H'->H p=none->H' p=↑(.lst (zs.map V.str))->↥zs=m->zs.Nodup->(∀z∈zs,isName z=true)->Q (.ref p) H')
def Hf:Def 2 "_law_names" ["_law_script","_law_many"] (Qg K):=by
 exists R6,Hf,hr,#[a,ns,m,rfl,J,hl,hm,q],2,n1.qj,1,D1 iC;let ao8:↥ji=26:=by fin2
 w_up;cbv;show abb ["_law_k","_law_letters","_law_script"] (σ':=[none,↑(.str ji),↑(.ref a)]) (bA (υ Al)) n1 ?_;f_are;show#[8,rfl,(),(),λi v=>v=.str #[#v[97+(ϒ ns (100+(i:Int)) 26).toNat]],λfp E' C s3 H0 i H2 hi sm=>?_,λE' H1 xs hE ϻ O e2 L =>?_]
 .cbv;show#[a,ns,100+i,26,rfl,sm.seq J,hl,(),(),by decide,?_];let h1:=aV ns (100+i) (m:=26) (by decide);let h2:=bh ns (100+i) (m:=26) (by decide);show j8 () (n:=97+(ϒ ns (100+(i:Int)) 26).toNat) ?_ #[rfl,ζ.refl _];let e:ϒ ns (100+(i:Int)) 26=(((ϒ ns (100+(i:Int)) 26).toNat:Nat):Int):=()
  let h3:=ϔ (Vq (k:=(ϒ ns (100+(i:Int)) 26).toNat) ());rw[<-e]at h3;show h3
 .let ex:=fJ (ys:=acV 8) (λi:Nat=>V.str #[#v[97+(ϒ ns (100+(i:Int)) 26).toNat]]) (by rw[ϻ,ahu];rfl) (λi v e=>#[i,?_,O i v e])
  .let uQ:xs=(((acV 8).map λi:Nat=>97+(ϒ ns (100+(i:Int)) 26).toNat).map λc=>(#[#v[c]]:Str)).map V.str:=by
    rw[ex,afm,afm];rfl
   subst uQ;cbv;show jW (η.of e2) ?_ ?_
   .let e0:↥("":Str)=0:=by fin2
    rw[Tq,aaw,aaw,ahu,e0];omega
   rw[O3];let u:(#[((acV 8).map λi:Nat=>97+(ϒ ns (100+(i:Int)) 26).toNat).toArray]:Str).length=8:=by rw[_L.len_list];simp
   let Qq:∀c∈(#[((acV 8).map λi:Nat=>97+(ϒ ns (100+(i:Int)) 26).toNat).toArray]:Str).cps.toList,97<=c/\c<=122:=λc hc=>by
    let R:c∈(acV 8).map λi:Nat=>97+(ϒ ns (100+(i:Int)) 26).toNat:= ~~~hc
    let#[i,_,rfl]:=abt.mp R;let h1:=aV ns (100+i) (m:=26) (by decide);let h2:=bh ns (100+i) (m:=26) (by decide);omega
   generalize(#[((acV 8).map λi:Nat=>97+(ϒ ns (100+(i:Int)) 26).toNat).toArray]:Str)=W at u Qq⊢;w_up;cbv;show#[a,ns,112,8,rfl,L.seq J,hl,by decide,by decide,by decide,?_];let s0:=aV ns 112 (m:=8) (by decide);let s1:=bh ns 112 (m:=8) (by decide);obtain⟨sz,es⟩:∃sz:Nat,1+ϒ ns 112 8=(sz:Int):=#[(1+ϒ ns 112 8).toNat,()];lk;rw[es];w_up;cbv;show#[a,ns,113,_,rfl,L.seq J,hl,by decide,by decide,(),?_];let a0:=aV ns 113 (m:=(sz:Int)) ();let a1:=bh ns 113 (m:=(sz:Int)) ();let#[at_,ea]:=abz a0;rw[ea]at a1⊢;cbv;show#[a,ns,114,26,rfl,L.seq J,hl,by decide,by decide,by decide,?_];let f0:=aV ns 114 (m:=26) (by decide);let f1:=bh ns 114 (m:=26) (by decide);let#[g,ef]:=abz f0;rw[ef]at f1⊢;cbv;show#[Ε,λp hp=>?_];let pn:H p=none:=L.free hp;let aR:ζ H (upd H1 p (.lst [])):=L<|>(ζ.upd hp);let ep:(upd H1 p (.lst [])) p=↑(.lst []):=ς;generalize upd H1 p (.lst [])=H2 at aR ep⊢;let U:at_<sz:=()
   let Y:sz<=8:=()
   w_up;show pR (by walk_at"po") (by rfl) (by rfl) n1 (by rfl) ?_;cbv;show#[(),(),λi σ H'=>(∃B D l,σ=[↑(.ref a),↑(.int m),↑(.str ji),↑(.str W),↑(.int sz),↑(.int at_),↑(.int g),↑(.ref p),B,D,l])/\ζ H H'/\H' p=some (.lst (((acV i).map (cM W at_ sz g (decide (ϒ ns 110 2=1)))).map V.str)),
    #[#[none,none,none,rfl],aR,ep],λi σ H' hi Z=>?_,λσ H' Z=>?_]
   .let#[#[B,D,l,rfl],sm,f]:=Z;let hi6:i<6:=by
     have:i<m:= ~~~hi
     omega
    show ω nd ?_
    let tail:∀(z:Str)(l:Option V),z=cM W at_ sz g (decide (ϒ ns 110 2=1)) i->∀(bk:_L.St->Hp->Prop),Η X ((aje (Zz (ϓ Al) 6)).drop 2)
      {nx:=λσ H'=>(∃B D l,σ=[↑(.ref a),↑(.int m),↑(.str ji),↑(.str W),↑(.int sz),↑(.int at_),↑(.int g),↑(.ref p),B,D,l])/\ζ H H'/\H' p=some (.lst (((acV (i+1)).map (cM W at_ sz g (decide (ϒ ns 110 2=1)))).map V.str)),rt:=Q,bk:=bk,
       ct:=λσ H'=>(∃B D l,σ=[↑(.ref a),↑(.int m),↑(.str ji),↑(.str W),↑(.int sz),↑(.int at_),↑(.int g),↑(.ref p),B,D,l])/\ζ H H'/\H' p=some (.lst (((acV (i+1)).map (cM W at_ sz g (decide (ϒ ns 110 2=1)))).map V.str))}
      [↑(.ref a),↑(.int m),↑(.str ji),↑(.str W),↑(.int sz),↑(.int at_),↑(.int g),↑(.ref p),↑(.int i),↑(.str z),l] H':=by
     intro z l M bk;f_len;show aD (b7 F.plainAttrs_list F.slot_list_append F.type_list_append (h:=?_));cbv;show#[.inl #[rfl,_,η.of f],?_];cbv;show dH jz #[p,_,_,rfl,rfl,f,by rw[aaw,aaw,ahu];omega,?_]*>#[#[_,_,_,rfl],λb o e=>?_,?_]
     .rw[θ (ό e pn)];show sm<*e
     .rw[ς,asR,aqK,aqK,M];rfl
    w_up;cbv;show iQ () ?_;cbv;show#[a,ns,110,2,rfl,sm.seq J,hl,by decide,by decide,by decide,?_];cbv;show Α (λh=>?_) (λh=>?_)
    .let h':ϒ ns 110 2=1:=by injection h
     let l1:=v7 W none ↑(at_:Int);let l2:=v7 W ↑((at_:Int)+1) ↑(sz:Int);let ls:↥(#[#v[97+(g+7*i) % 26]]:Str)=1:=rfl;let l3:=len_app (ϐ W none ↑(at_:Int)) #[#v[97+(g+7*i) % 26]];w_up;cbv;rw[show((g:Int)+7*(i:Int)) % 26=(((g+7*i) % 26:Nat):Int)by omega];show j8 () (ϔ (Vq (asz _ (by decide)))) ?_;f_len;f_tup;cbv;show iQ () ?_;cbv;show dD () ?_;cbv;show iQ () ?_*>dD () ?_*>tail _ _ ?_ _;unfold cM;rw[decide_eq_true h',if_pos rfl];rfl
    .let h':¬ϒ ns 110 2=1:=λe=>h (by rw[e])
     show Δ (tail _ _ ?_ _);unfold cM;rw[decide_eq_false h',if_neg (by decide)];rfl
   .let#[#[B,D,l,rfl],sm,f]:=Z;rw[aqZ]at f;generalize decide (ϒ ns 110 2=1)=b at f;let G:((acV m).map (cM W at_ sz g b)).Nodup:=by
     unfold aut;rw[ao9];show List.Pairwise.imp_of_mem (λ{x y} O hy aa e=>?_) (arI (n:=m));let hx':=ajm.mp O;let hy':=ajm.mp hy;show aa (alC u U Y () () e)
    let I:∀z∈(acV m).map (cM W at_ sz g b),isName z=true:=λz M=>by
     let#[j,hj,rfl]:=abt.mp M;let hj':=ajm.mp hj;have:=agV (first:=g) (b:=b) u U Y (show j<6 by omega);show akI this.1 this.2 (agm u U Y Qq)
    let fD:↥((acV m).map (cM W at_ sz g b))=m:=by rw[aaw,ahu]
    generalize(acV m).map (cM W at_ sz g b)=zs at f G I fD;w_up;cbv;show#[a,ns,111,2,rfl,sm.seq J,hl,by decide,by decide,by decide,?_];cbv;show Α (λh=>?_) (λh=>?_)
    .f_len;show aD (aiO F.plainAttrs_list F.slot_list_reverse F.type_list_reverse (by rfl) (by rfl) ?_);cbv;show#[.inl #[rfl,_,η.of f],?_]*>dH ajl #[p,_,rfl,rfl,f,?_];cbv;rw[<-atH];show q p zs.reverse _ (λb o e=>by rw[θ (ό e pn)];show sm _ _ e) pn ς (by rw[as5];show fD) (asS.mpr (G.imp λh=>Ne.symm h)) (λz M=>I z (atz.mp M))
    .cbv;show q p zs H' sm pn f fD G I
  .have :i<↥xs:=(aav.mp e).1;rw[as7 (by simp at ϻ;omega)]
def nine:List Str:=[Ϫ "all",Ϫ "none",Ϫ "is",Ϫ "not",Ϫ "over",Ϫ "under",Ϫ "holds",Ϫ "both",Ϫ "either"]
def ahl:∀z∈nine,isName z=true:=by fin2
def alh:nine.Nodup:=by fin2
def Bu(h:i<9):nine[i]?=↑(nine.getD i ""):=by
 let a:i<↥nine:=h;rw[ach,ϳ a];rfl
def ae1(hi:i<9)(a:j<9)(e:nine.getD i ""=nine.getD j ""):i=j:=by
 let e1:=Bu hi;let c:=Bu a;rw[e]at e1;let f:i<↥nine:=hi;let g:j<↥nine:=a;let l:nine[i]=nine.getD j "":=by
  have:=ϳ f;rw[this]at e1;show Option.some.inj e1
 let m:nine[j]=nine.getD j "":=by
  have:=ϳ g;rw[this]at c;show Option.some.inj c
 show(amx alh).mp (l<|>m.symm)
def aec{cs:List ι}(h1:1<=↥cs)(e:↥cs<=6)(hn:(cs.map Prod.fst).Nodup)(h:∀c∈cs,isName c.1=true/\(c.2="number"\/c.2="text")):Ψ cs=true:=by
 unfold Ψ oU;rw[aaO,aaO,decide_eq_true_eq,decide_eq_true_eq,acL];show#[#[#[h1,e],λc a=>by rw[(h c a).1,decide_eq_true (h c a).2];rfl],hn]
inductive WW(K:Ϩ):Sp
 |mk (a:δ) (ns:List Int):vs=[.ref a]->η K H a (ns.map V.int)->↥ns<=63->(∀p cs H',ζ H H'->H p=none->Χ H' p cs->Ψ cs=true->Q (.ref p) H')
def J5:Def 3 "_law_columns" ["_law_script"] (WW K):=by
 exists RM,J5,hr,#[a,ns,rfl,g,hl,q],2,n1.qj,n2.bz,1,D1 iC,D2 Hf;let vo:(["_law_k","_law_names_here","_law_script"]:List Str).Nodup:=by fin2
 let fin:∀(m:Nat)(L:δ)(zs:List Str)(H1:Hp)(o3:Option V),1<=m->m<=6->ζ H H1->H1 L=↑(.lst (zs.map V.str))->↥zs=m->zs.Nodup->(∀z∈zs,isName z=true)->
   Η X ((ϓ rE).drop 4) {nx:=λ_ H'=>Q .non H',rt:=Q} [↑(.ref a),↑(.int m),↑(.ref L),o3] H1:=by
  intro m L zs H1 o3 j G f I W Y Z;let rD:↥(zs.map V.str)=↥zs:=aaw ..;let SL:η K H1 L (zs.map V.str):=η.of I;symm;show RW ["_law_k","_law_names_here","_law_script"] (σ':=[none,↑(.ref L),↑(.ref a)]) (bA (υ rE)) n1 ?_;cbv;rw[rD];show#[(),(),λτ=>∃o1,τ=[o1,↑(.ref L),↑(.ref a)],λE2 i u H'=>∃kk:Str,(kk="number"\/kk="text")/\∃t,u=.ref t/\t≠E2/\H' t=↑(.tup [.str (zs.getD i ""),.str kk]),#[none,rfl],λE2 i u H2 J ys _ y2 y3=>?_,λfp E2 C s3 H0 i τ x H4 J aQ hi aa Τ ab hG=>?_,λL2 H2 ys ac M ae D Υ =>?_]
  .let#[kk,l,t,rfl,O,hq]:=y3;show#[kk,l,t,rfl,O,y2 _ _ O hq]
  .let#[o1,rfl]:=aa;let#[rfl,rfl]:=hG;let af:i<↥zs:= ~~~hi
   let hz:(zs.map V.str)[i]?=↑(V.str (zs.getD i "")):=by
    rw[abD,ach,ϳ af];rfl
   show ω vo ?_;cbv;show ύ (Τ.seq SL) (ϔ hz) ?_;cbv;show#[Ε,λk l=>?_];let#[R,ek,H4,k,H5]:=Ο l (.lst [.str "number",.str "text"]);cbv;show#[a,ns,10+i,2,rfl,((f<|>Τ)<|>R).seq g,hl,(),(),by decide,?_];let k0:=aV ns (10+i) (m:=2) (by decide);let k1:=bh ns (10+i) (m:=2) (by decide);let#[kd,e1,D]:=Yj (xs:=[V.str "number",V.str "text"]) k0 (by show _<(2:Int);omega);show ύ (η.of ek) e1 ?_;cbv;obtain⟨kk,rfl,ag⟩:∃kk:Str,kd=.str kk/\(kk="number"\/kk="text"):=by
    obtain e|e:=aaB.mp D
    .show#[_,e,.inl rfl]
    .show#["text",~~~e,.inr rfl]
   show#[Ε,λtp p=>?_]*>#[#[_,rfl],#[kk,ag,tp,rfl,λe=>?_,ς],R<|>(ζ.upd p)];let#[zs',ah]:=ab;rw[e,R<*ah]at p;cases p
  .let ai:↥ys=↥zs:=by rw[M];simp
   let al:∀(k:Nat)(ys:List V)(zs:List Str),↥ys=↥zs->(∀(i:Nat) u,ys[i]?=↑u->∃kk:Str,(kk="number"\/kk="text")/\∃t,u=.ref t/\H2 t=↑(.tup [.str (zs.getD i ""),.str kk]))->∃cs:List ι,ρ (uD H2) ys cs/\cs.map Prod.fst=zs/\∀c∈cs,c.2="number"\/c.2="text":=by
    intro _ ys;induction ys with
    |nil=>
     intro zs hl _;cases zs with
     |nil=>show#[[],.nil,rfl,λc B=>by simp at B]
     |cons _ _=>simp at hl
    |cons u ys ih=>
     intro zs hl h;cases zs with
     |nil=>simp at hl
     |cons z zs=>
      let#[kk,l,t,rfl,O]:=h 0 u rfl;let#[cs,h1,h2,h3]:=ih zs (~~~hl) λi u e=>by
       have:=h (i+1) u (~~~e);simpa using this
      show#[(z,kk)::cs,.cons #[t,rfl,~~~O] h1,by simp[h2],λc B=>?_];obtain e|e:=aaB.mp B
      .subst e;show l
      .show h3 c e
   let#[cs,h1,h2,h3]:=al 0 ys zs ai λi u e=>by
    let#[kk,l,t,e1,_,e3]:=ae i u e;show#[kk,l,t,e1,e3]
   let hcl:↥cs=↥zs:=by rw[<-h2,aaw]
   show q L2 cs H2 (f<|>Υ) (f.free ac) #[ys,D,h1] (aec () () (by rw[h2];show Y) λc B=>#[Z _ ?_,h3 c B]);rw[<-h2];show as8 B
 let F:∀(m:Nat),1<=m->m<=6->Η X ((ϓ rE).drop 2) {nx:=λ_ H'=>Q .non H',rt:=Q} [↑(.ref a),↑(.int m),none,none] H:=by
  intro m j G;w_up;cbv;show#[a,ns,m,rfl,g,hl,G,λL zs H1 f rK I W Y Z=>?_];let rD:↥(zs.map V.str)=↥zs:=aaw ..;w_up;cbv;show#[a,ns,9,4,rfl,f.seq g,hl,by decide,by decide,by decide,?_];cbv;show Α (λh=>?_) (λh=>?_)
  .w_up;cbv;show#[Ε,λy hy=>?_];let#[U,ey]:=Ο hy (.lst (nine.map V.str));change Η _ _ _ _ (upd H1 y (.lst (nine.map V.str)));generalize upd H1 y (.lst (nine.map V.str))=H2 at U ey⊢;let SL:η K H2 L (zs.map V.str):=η.of (U<*I);f_len;f_tup;show abb ["_law_k","_law_script","_law_some"] (σ':=[none,↑(.ref a),↑(.ref y)]) (bA (υ rE)) n1 ?_;cbv;rw[rD];let d0:=aV ns 8 (m:=9) (by decide);let d1:=bh ns 8 (m:=9) (by decide);let#[d,ed]:=abz d0;let hd:d<9:=()
   show#[(),(),λi v=>v=.str (nine.getD ((d+2*i) % 9) ""),λfp E' C s3 H0 i J hi sm=>?_,λE' J xs hE M hx D sm=>?_]
   .cbv;show#[a,ns,8,9,rfl,((f<|>U)<|>sm).seq g,hl,by decide,by decide,by decide,?_];rw[ed];cbv;rw[show((d:Int)+2*(i:Int)) % 9=(((d+2*i) % 9:Nat):Int)by omega];let hg:(nine.map V.str)[(d+2*i) % 9]?=↑(V.str (nine.getD ((d+2*i) % 9) "")):=by
     rw[abD,Bu (asz _ (by decide))];rfl
    show ύ (η.of (sm<*ey)) (ϔ hg) #[rfl,ζ.refl _]
   .let ex:=fJ (ys:=acV ↥zs) (λi:Nat=>V.str (nine.getD ((d+2*i) % 9) "")) (by rw[M,ahu];simp) (λi v e=>#[i,?_,hx i v e])
    .let uQ:xs=((acV ↥zs).map λi:Nat=>nine.getD ((d+2*i) % 9) "").map V.str:=by
      rw[ex,afm];rfl
     subst uQ;show fin m E' _ J _ j G ((f<|>U)<|>sm) D (by rw[aaw,ahu];show W) ?_ λz hz=>?_
     .unfold aut;rw[ao9];show List.Pairwise.imp_of_mem (λ{x y} hx hy hxy e=>?_) (arI (n:=↥zs));let hx':=ajm.mp hx;let hy':=ajm.mp hy;have:=ae1 (asz _ (by decide)) (asz _ (by decide)) e;omega
     .let#[i,_,rfl]:=abt.mp hz;let h9:(d+2*i) % 9<9:=asz _ (by decide);show ahl _ (aa0 (Bu h9))
    .have :i<↥xs:=(aav.mp e).1;rw[as7 (by simp at M;omega)]
  .show Δ ?_*>fin m L zs H1 _ j G f I W Y Z
 w_up;cbv;show#[a,ns,0,4,rfl,g,hl,by decide,by decide,by decide,?_];let c0:=aV ns 0 (m:=4) (by decide);let c1:=bh ns 0 (m:=4) (by decide);obtain⟨m,em⟩:∃m:Nat,1+ϒ ns 0 4=(m:Int):=#[(1+ϒ ns 0 4).toNat,()];lk;rw[em];w_up;cbv;show#[a,ns,7,8,rfl,g,hl,by decide,by decide,by decide,?_];cbv;show Α (λh=>?_) (λh=>?_)
 .f_len;f_tup;cbv;show#[a,ns,6,2,rfl,g,hl,by decide,by decide,by decide,?_];let c2:=aV ns 6 (m:=2) (by decide);let c3:=bh ns 6 (m:=2) (by decide);obtain⟨m',am⟩:∃m:Nat,5+ϒ ns 6 2=(m:Int):=#[(5+ϒ ns 6 2).toNat,()];lk;rw[am];show F m' () ()
 .show Δ (F m () ())
def ϖ(a:Str)(v:V):Prop:=v=.non\/(a="number"/\∃i,v=.int i/\ -1000000000000000000<=i/\i<=1000000000000000000)\/(¬a="number"/\∃z,v=.str z/\↥z<=20/\∀c∈z.cps.toList,c∈SG)
def ϖ.sc(h:ϖ a v):scalar v=true:=by
 obtain rfl|⟨_,i,rfl,_⟩|⟨_,z,rfl,_⟩:=h<;>rfl
def ϖ.ie(h:ϖ a v):ie v=true/\∀z,v=.str z->bD 4000 z:=by
 obtain rfl|⟨_,i,rfl,_⟩|⟨_,z,rfl,hl,c⟩:=h
 .show#[rfl,λz e=>by cases e]
 .show#[rfl,λz e=>by cases e]
 .show#[rfl,λy e=>by cases e;show bD.sg () c]
def vd:List Str:=[Ϫ "",Ϫ "a",Ϫ "b",Ϫ "ab",Ϫ "a-",Ϫ "0",Ϫ "z9",Ϫ "aa"]
def adT:∀z∈vd,↥z<=20/\∀c∈z.cps.toList,c∈SG:=by fin2
inductive Nr(K:Ϩ):Sp
 |mk (a:δ) (ns:List Int) (k:Int) (kd:Str):vs=[.ref a,.int k,.str kd]->η K H a (ns.map V.int)->↥ns<=63->0<=k->k<=50000->(∀v H',ζ H H'->ϖ kd v->Q v H')
def yZ:Def 2 "_law_value" ["_law_script","_law_k","_law_kind"] (Nr K):=by
 exists Xi,yZ,hr,#[a,ns,k,s,rfl,g,hl,I,J,q],2,n1.bz,1;let B:↥(ns.map V.int)=↥ns:=aaw ..;let D1:=!iC;let tail:∀(i cell:Int),Η X ((ϓ K6).drop 3) {nx:=λ_ H'=>Q .non H',rt:=Q} [↑(.ref a),↑(.int k),↑(.str s),↑(.int i),↑(.int cell),none] H:=by
  intro i cell;w_up;cbv;show Α (λh=>?_) (λh=>?_)
  .let hn:s="number":=by injection h
   cbv;show Α (λh1=>?_) (λh1=>?_)
   .cbv;show#[a,ns,k+1,3,rfl,g,hl,(),(),by decide,?_];let f:=aV ns (k+1) (m:=3) (by decide);let c1:=bh ns (k+1) (m:=3) (by decide);generalize ϒ ns (k+1) 3=d at f c1⊢;cbv;show q _ _ (ζ.refl _) (.inr (.inl #[hn,_,rfl,(),()]))
   .cbv;show Α (λh2=>?_) (λh2=>?_)
    .cbv;let f:=ah8 cell (b:=2*1000000000000000000+1) (by decide);let c1:=agT cell (b:=2*1000000000000000000+1) (by decide);show q _ _ (ζ.refl _) (.inr (.inl #[hn,_,rfl,(),()]))
    .cbv;show#[a,ns,k+1,4,rfl,g,hl,(),(),by decide,?_];let f:=aV ns (k+1) (m:=4) (by decide);let c1:=bh ns (k+1) (m:=4) (by decide);generalize ϒ ns (k+1) 4=d at f c1⊢;cbv;show q _ _ (ζ.refl _) (.inr (.inl #[hn,_,rfl,(),()]))
  .let hn:¬s="number":=λe=>h (by rw[e])
   cbv;show Α (λh1=>?_) (λh1=>?_)
   .let L:∀j,j<3->("z9-":Str).cps.toList[j]?=↑(("z9-":Str).cps.toList.getD j 0):=by fin2
    let M:∀j,j<4->("a0-z":Str).cps.toList[j]?=↑(("a0-z":Str).cps.toList.getD j 0):=by fin2
    let O:∀j,j<3->("z9-":Str).cps.toList.getD j 0∈SG:=by fin2
    let R:∀j,j<4->("a0-z":Str).cps.toList.getD j 0∈SG:=by fin2
    w_up;cbv;show#[a,ns,k+1,3,rfl,g,hl,(),(),by decide,?_];let f:=aV ns (k+1) (m:=3) (by decide);let c1:=bh ns (k+1) (m:=3) (by decide);let#[d,U]:=abz f;rw[U];let hd:d<3:=()
    show j8 (by fin2) (ϔ (L d hd)) ?_;let D:=O d hd;generalize("z9-":Str).cps.toList.getD d 0=x at D⊢;f_len;cbv;show am4 (by decide) (by decide) (by show 0<1;decide) (by show 1*19<=ϰ;omega) ?_;let r1:=ae7 x 19 (by decide);let r2:↥(rR (#[#v[x]]:Str) 19)=19:=by rw[_L.len_list,r1,arq];rfl
    cbv;show#[a,ns,k+2,4,rfl,g,hl,(),(),by decide,?_];let W:=aV ns (k+2) (m:=4) (by decide);let e1:=bh ns (k+2) (m:=4) (by decide);let#[n,Y]:=abz W;rw[Y];let l:n<4:=()
    show j8 (by fin2) (ϔ (M n l)) ?_;let F:=R n l;generalize("a0-z":Str).cps.toList.getD n 0=y at F⊢;let r3:↥(#[#v[y]]:Str)=1:=rfl;let r4:=len_app (rR (#[#v[x]]:Str) 19) #[#v[y]];show dD () ?_*>q _ _ (ζ.refl _) (.inr (.inr #[hn,_,rfl,(),λc G=>?_]));rw[bJ,r1]at G;obtain e|e:=adH.mp G
    .rw[asw e];show D
    .have :c=y:= ~~~e
     rw[this];show F
   .cbv;show#[Ε,λp Z=>?_];let#[u,ep]:=Ο Z (.lst (vd.map V.str));change EV _ _ _ (upd H p (.lst (vd.map V.str))) _;generalize upd H p (.lst (vd.map V.str))=H2 at u ep⊢;cbv;show#[a,ns,k+1,8,rfl,u.seq g,hl,(),(),by decide,?_];let f:=aV ns (k+1) (m:=8) (by decide);let c1:=bh ns (k+1) (m:=8) (by decide);let#[v,e1,e2]:=Yj (xs:=vd.map V.str) f (by show _<(8:Int);omega);show ύ (η.of ep) e1 ?_;let#[z,hz,rfl]:=abt.mp e2;show q _ _ u (.inr (.inr #[hn,z,rfl,adT z hz]))
 w_up;cbv;show#[a,ns,k,8,rfl,g,hl,(),(),by decide,?_];cbv;show Α (λh0=>?_) (λh0=>?_)
 .cbv;show q _ _ (ζ.refl _) (.inl rfl)
 .cbv;rw[B];show Α (λh3=>?_) (λh3=>?_)
  .cbv;rw[B];cbv;show ύ g (Zw 0 (ah8 _ ()) (agT _ ())) ?_*>tail _ _
  .lk;show tail _ _
inductive Mt(K:Ϩ):Sp
 |mk (a:δ) (ns:List Int) (k:Int) (b:δ) (cs:List ι):vs=[.ref a,.int k,.ref b]->η K H a (ns.map V.int)->↥ns<=63->0<=k->k<=40000->Χ H b cs->↥cs<=6->(∀p xs H',ζ H H'->H p=none->H' p=↑(.lst xs)->ρ (λc x=>ϖ c.2 x) cs xs->Q (.ref p) H')
theorem kh{α β:Type}{R:α->β->Prop}:∀{l:List α}{m:List β},↥m=↥l->(∀(i:Nat) b,m[i]?=↑b->∃a,l[i]?=↑a/\R a b)->ρ R l m
 |[],[],_,_=>.nil
 |[],_::_,h,_=>by simp at h
 |_::_,[],h,_=>by simp at h
 |a::l,b::m,h,g=>by
  let#[a',e,r]:=g 0 b rfl;have:a=a':= ~~~e
  subst this;show .cons r (kh (~~~h) λi x e=>~~~g (i+1) x (~~~e))
def uY:Def 3 "_law_values" ["_law_script","_law_k","_law_columns_here"] (Mt K):=by
 exists ["_law_script","_law_k","_law_columns_here"],uY,hr,#[a,ns,k,b,cs,rfl,B,hl,D,F,G,I,q],n1.qj,n2.bz,1,D1 yZ;let J:(["_law_n","_law_columns_here","_law_k","_law_script"]:List Str).Nodup:=by fin2
 let#[vs,M,e]:=id G;let f:=e.len;let O:η K H b vs:=η.of M;symm;show RW ["_law_n","_law_columns_here","_law_k","_law_script"] (σ':=[none,↑(.ref b),↑(.int k),↑(.ref a)]) (bA (υ VP)) n1 ?_;cbv;show#[(),(),λn=>∃s,n=[s,↑(.ref b),↑(.int k),↑(.ref a)],λy i u H'=>∃c,cs[i]?=↑c/\ϖ c.2 u,#[none,rfl],λy i u H2 R ys _ _ p=>p,λfp y C s3 H0 i n x H4 R aQ hi g j S U=>?_,λL H1 ys W Y l e1 Z =>?_]
 .let#[s,rfl]:=g;let#[rfl,rfl]:=U;let m:i<↥vs:= ~~~hi
  let z:vs[i]?=↑vs[i]:=ϳ m;let#[c,hc,t,ev,ht]:=e.get z;show ω J ?_;cbv;show ύ (j.seq O) (ϔ z) ?_;rw[ev];cbv;show Β (ξ.of (j<*ht)) (show Θ [V.str c.1,V.str c.2] 1=↑(V.str c.2)from rfl) ?_;cbv;show#[a,ns,_,c.2,rfl,j.seq B,hl,(),(),λv H5 dB hv=>?_]*>#[#[_,rfl],#[c,hc,hv],dB]
 .show q L ys H1 Z W e1 (kh (by rw[Y, <-f];simp) l)
def oF(c:ε)(r:Option V)(H:Hp)(Q:VK)(E:XK):=∀H',ζ H H'->match r with
 |some v=>Q v H'
 |none=>False
inductive Bc(c:ε):Sp
 |mk (z):vs=[.str z]->↥z<=4000->oF c (vZ (iw z.cps.toList)) H Q E
inductive Cu(c:ε):Sp
 |mk (z):vs=[.str z]->↥z<=4000->oF c (Bj (jF z)) H Q E
inductive zP(c:ε):Sp
 |mk (k) (z):vs=[.str k,.str z]->↥z<=4000->oF c (eU k z) H Q E
inductive yP(c:ε):Sp
 |mk (a) (cs):vs=[.ref a]->Χ H a cs->↥cs<=4000->Lr cs->(∀H',ζ H H'->if Ψ cs=true then Q .non H' else False)
inductive zL(c:ε):Sp
 |mk (a) (cs) (z):vs=[.ref a,.str z]->Χ H a cs->↥z<=4000->(∀H',ζ H H'->iW cs z=none->False)->(∀p o H',ζ H H'->iW cs z=↑o->H' p=↑(.tup [.str o.1,.bl o.2])->Q (.ref p) H')
inductive Bx(c:ε):Sp
 |mk (a) (cs) (z):vs=[.ref a,.str z]->Χ H a cs->↥z<=4000->(∀H',ζ H H'->iY cs z=none->False)->(∀p os H',ζ H H'->iY cs z=↑os->H p=none->aL H' p os->Q (.ref p) H')
inductive aax(K:Ϩ)(mg:MG):Sp
 |mk (a:δ) (ws:List Str) (p:Nat):vs=[.ref a,.int p]->η K H a (ws.map V.str)->↥ws<=4000->p<=100000->(¬(p<↥ws/\p<60)->False)->(∀z,ws[p]?=↑z->p<60->Q (.str z) H)
def qT:Def 3 "word_at" ["words","place"] (aax K mg):=by
 exists ["words","place"],qT,j,#[a,ws,p,rfl,g,hl,l,c,q],n1.bz,m.akv;let i:↥(ws.map V.str)=↥ws:=aaw ..;w_up;cbv;rw[i];show Α (λh=>?_) (λh=>?_)
 .show(c ()).elim
 .cbv;show Α (λh2=>?_) (λh2=>?_)
  .show(c ()).elim
  .cbv;let e:p<↥ws:=()
   let f:ws[p]?=↑ws[p]:=ϳ e;show ύ g (ϔ (by rw[abD,f];rfl)) ?_*>q _ f ()
def cW(ws:List Str)(s b:Nat):Str:=ad2 " " ((ws.drop s).take (b-s))
inductive Uj(K:Ϩ):Sp
 |mk (a:δ) (ws:List Str) (s b:Nat):vs=[.ref a,.int s,.int b]->η K H a (ws.map V.str)->↥ws<=4000->(∀z∈ws,↥z<=1000)->s<=b->b<=↥ws->(∀H',ζ H H'->Q (.str (cW ws s b)) H')
theorem Uv:∀{l:List Str},(∀z∈l,↥z<=1000)->(l.map (·.length)).sum<=↥l*1000
 |[],_=>by simp
 |z::l,h=>by
  let h1:=Uv (l:=l) λy a=>h y (by simp[a])
  let h2:=h z (by simp);simp only[acY,ao4,acD];omega
def wg:Def 1 "text_between" ["words","start","behind"] (Uj K):=by
 exists ["words","start","behind"],wg,v,#[a,ws,i,j,rfl,f,hl,g,m,x,q];let n:↥(" ":Str)=1:=by fin2
 let hsz:=ϯ;symm;cbv;show pM f λp s=>?_
 let e:cG (ws.map V.str) ↑(i:Int) ↑(j:Int)=((ws.drop i).take (j-i)).map V.str:=by
  unfold cG;let c:↥(ws.map V.str)=↥ws:=aaw ..;let e1:_H.Ζ ↥(ws.map V.str) 0 ↑(i:Int)=i:=by
   rw[c];unfold _H.Ζ;split
   .rename_i h;cases h
   .rename_i h;cases h;rw[if_neg ()];omega
  let u:_H.Ζ ↥(ws.map V.str) ↥(ws.map V.str) ↑(j:Int)=j:=by
   rw[c];unfold _H.Ζ;split
   .rename_i h;cases h
   .rename_i h;cases h;rw[if_neg ()];omega
  rw[e1,u, <-List.map_drop, <-List.map_take]
 rw[e];let#[sm,ep,H,p,H2]:=Ο s (.lst (((ws.drop i).take (j-i)).map V.str));cbv;show jW (η.of ep) ?_ (q H2 sm);let h1:=Uv (l:=(ws.drop i).take (j-i)) λz h=>g z (aey (aeA h))
 let h2:↥((ws.drop i).take (j-i))<=4000:=by
  rw[adn,adu];omega
 rw[n];omega
def ana:∀{i:Nat}{c:ι}(j:Nat),cs[i]?=↑c->(∀k c,k<i->cs[k]?=↑c->¬c.1=z)->c.1=z->gY cs z j=.int ((j+i:Nat):Int):=by
 induction cs with
 |nil=>intro i c j e;simp at e
 |cons d r f=>
  intro i c j e h a;unfold gY;cases i with
  |zero=>
   simp at e;subst e;rw[if_pos a];rfl
  |succ i=>
   rw[if_neg (h 0 d () rfl)];rw[f (j+1) (~~~e) (λk c l g=>h (k+1) c () (~~~g)) a]
   congr 2
   omega
def amR:∀(j:Nat),(∀c∈cs,¬c.1=z)->gY cs z j=.non:=by
 induction cs with
 |nil=>intro j h;rfl
 |cons d r a=>
  intro j h;unfold gY;rw[if_neg (h d (by simp)),a (j+1) λc e=>h c (by simp[e])]
def nQ:Def 1 "place_of" ["columns","name"] Wg:=by
 exists XJ,nQ,F,#[a,cs,z,rfl,#[vs,ha,f],q],n1.ace,2;w_up;show ahV (by walk_at"po") (by rfl) (by rfl) n1 (by rfl) ?_;cbv;show#[a,vs,rfl,ha,λi σ H'=>(∃n p,σ=[↑(.ref a),↑(.str z),n,p])/\ζ H H'/\∀k c,k<i->cs[k]?=↑c->¬c.1=z,#[#[none,none,rfl],ζ.refl _,λk c j=>()],λi σ H' hi g=>.inl (.inl (g.2.1<*ha)),λi x s σ H' y g B=>?_,λσ H' g=>?_]
 .let#[#[n,p,rfl],sm,hn]:=g;let#[c,l,t,rfl,D]:=f.get y;let m :=sm<|>(ζ.upd (o:=.tup [.int i,.ref t]) B);let v:(upd H' s (.tup [.int i,.ref t])) s=↑(.tup [.int i,.ref t]):=ς;generalize upd H' s (.tup [.int i,.ref t])=H2 at m v⊢;show aj (ξ.of v) (Ι (ω nd (Ι (ω nd (ao ?_)))));f_len;cbv;show Β (ξ.of (m<*D)) (show Θ [V.str c.1,V.str c.2] 0=↑(V.str c.1)from rfl) ?_;cbv;show Α (λh=>?_) (λh=>?_)
  .let u:c.1=z:=by injection h
   cbv;have:=ana 0 l hn u;rw[alw]at this;rw[<-this];show q H2 m
  .let u:¬c.1=z:=λe=>h (by rw[e])
   cbv;show#[#[_,_,rfl],m,λk d j hd=>?_];by_cases e:k=i
   .subst e;rw[l]at hd;cases hd;show u
   .show hn k d () hd
 .let#[#[n,p,rfl],sm,hn]:=g;f_len;cbv;have:=amR (cs:=cs) (z:=z) 0 λc l=>by
   let#[k,j,e]:=ap7 l;show hn k c (by rw[f.len];show j) (by rw[<-e];show ϳ j)
  rw[<-this];show q H' sm
def gF(cs:List ι)(ws:List Str)(p:Nat):Option Nat:=if p<60 then match ws[p]? with
 |none=>none
 |some z=>if cs.any (λc=>decide (c.1=z))=true then some (ϋ cs z)else none
 else none
inductive Yi(K:Ϩ)(mg:MG):Sp
 |mk (b:δ) (cs:List ι) (a:δ) (ws:List Str) (p:Nat):vs=[.ref b,.ref a,.int p]->Χ H b cs->η K H a (ws.map V.str)->↥ws<=4000->p<=100000->(gF cs ws p=none->False)->(∀i H',ζ H H'->gF cs ws p=↑i->Q (.int (i:Nat)) H')
def BJ:Def 4 "read_column" ["columns","words","place"] (Yi K mg):=by
 exists Yc,BJ,u,#[b,cs,a,ws,p,rfl,m,n,hl,s,g,q],2,v nQ,x qT;w_up;cbv;show#[a,ws,p,rfl,n,hl,s,λy=>g ?_,λz l i=>?_]
 .unfold gF;by_cases i:p<60
  .rw[if_pos i,an8 ()]
  .rw[if_neg i]
 .cbv;show#[b,cs,z,rfl,m,λH2 sm=>?_];by_cases f:∃c∈cs,c.1=z
  .let e:gF cs ws p=↑(ϋ cs z):=by
    unfold gF;rw[if_pos i,l];show if_pos (by rw[apH];let#[c,j,e]:=f;show#[c,j,decide_eq_true e])
   rw[vh 0 f,alw];cbv;show q _ H2 sm e
  .let e:gF cs ws p=none:=by
    unfold gF;rw[if_pos i,l];show if_neg (by rw[apH];rintro⟨c,j,e⟩;show f #[c,j,of_decide_eq_true e])
   show(g e).elim
def uZ:Def 1 "value_before" ["one","other"] RL:=by
 exists ["one","other"],uZ,a,#[x,y,rfl,hs,q];w_up;cbv;show Α (λh=>?_) (λh=>?_)
 .subst h;cbv;let e:before x .non=false:=by cases x<;>rfl
  rw[e]at q;show q
 .cbv;show Α (λh2=>?_) (λh2=>?_)
  .subst h2;cbv;let e:before .non y=true:=by cases y<;>first|rfl|show absurd rfl h
   rw[e]at q;show q
  .obtain e|e|⟨i,j,rfl,rfl⟩|⟨i,j,rfl,rfl⟩:=hs
   .show absurd e h2
   .show absurd e h
   .cbv;show q
   .cbv;show q
inductive rN(K:Ϩ):Sp
 |mk (a C dx:δ) (fs:List (Str×V)) (z:Str):vs=[.ref a,.str z]->H a=↑(.ins C dx fs)->Ϣ K C->Ϗ K C "text"->↥fs<900->Q .non (upd H a (.ins C dx (az "text" (.str z) fs)))
def yx:FD P w K mg base cc 1 "__init__" "Sieve.__init__" Mj ["self","text"] (rN K):=by
 exists ["self","text"],_,e,#[a,C,dx,fs,z,rfl,ha,c,hn,hl,q];f_len;show gB ?_;f_are;f_are;show#[a,C,dx,fs,rfl,ha,c,hn,(),q]
inductive GR(K:Ϩ):Sp
 |mk (a C dx:δ) (fs:List (Str×V)) (z:Str) (p:V):vs=[.ref a,.str z,p]->H a=↑(.ins C dx fs)->Ϣ K C->Ϗ K C "text"->Ϗ K C "place"->↥fs<800->Q .non (upd (upd H a (.ins C dx (az "text" (.str z) fs))) a (.ins C dx (az "place" p (az "text" (.str z) fs))))
def aoN(T:Txt K mg):FD P w K mg base cc 2 "__init__" "NoneSieve.__init__" aab ["self","text","place"] (GR K):=by
 exists ["self","text","place"],_,f,#[a,C,dx,fs,z,p,rfl,ha,e,hn,c,hl,q];let B:vG P w K mg base cc 1 "Sieve" "__init__" ["self","text"] (rN K):=yx.asked T.Gh T.JC;let g:=uh "text" (V.str z) fs;w_up;show aD ?_*>Fg (pl:=_) B f id Ϝ ?_;cbv;show#[a,C,dx,fs,z,rfl,ha,e,hn,(),?_];f_len;show gB ?_;f_are;f_are;show#[a,C,dx,_,rfl,ς,e,c,(),q]
inductive xm(K:Ϩ):Sp
 |mk (a C dx:δ) (fs:List (Str×V)) (z:Str) (p v:V):vs=[.ref a,.str z,p,v]->H a=↑(.ins C dx fs)->Ϣ K C->Ϗ K C "text"->Ϗ K C "place"->Ϗ K C "value"->↥fs<800->(∀H',H' a=some (.ins C dx (az "value" v (az "place" p (az "text" (.str z) fs))))->(∀b o,b≠a->H b=↑o->H' b=↑o)->Q .non H')
def Ec(T:Txt K mg):FD P w K mg base cc 2 "__init__" "ValueSieve.__init__" zR ["self","text","place","value"] (xm K):=by
 exists ["self","text","place","value"],_,j,#[a,C,dx,fs,z,p,v,rfl,ha,c,hn,f,g,hl,q];let B:vG P w K mg base cc 1 "Sieve" "__init__" ["self","text"] (rN K):=yx.asked T.Gh T.JC;let m:=uh "text" (V.str z) fs;let l:=uh "place" p (az "text" (V.str z) fs);w_up;show aD ?_*>Fg (pl:=_) B j id Ϝ ?_;cbv;show#[a,C,dx,fs,z,rfl,ha,c,hn,(),?_];w_up;show gB ?_;f_are;f_are;show#[a,C,dx,_,rfl,ς,c,f,(),?_];f_len;show gB ?_;f_are;f_are;show#[a,C,dx,_,rfl,ς,c,g,(),q _ ς λb o i e=>?_];rw[θ i,θ i,θ i];show e
inductive Lk|is|under|over
def qF:Lk->V->V->Bool
 |.is,x,v=>decide (x=v)
 |.under,x,v=>before x v
 |.over,x,v=>before v x
abbrev F3(z:Str)(p:Nat)(v:V):List (Str×V):=[("text",.str z),("place",.int p),("value",v)]
def Ey:Lk->V->V->Prop
 |_,x,v=>scalar x=true/\scalar v=true/\aJ x v
inductive wH(l:Lk)(C:δ):Sp
 |mk (a dx:δ) (z:Str) (p:Nat) (x v:V):vs=[.ref a,x]->H a=↑(.ins C dx (F3 z p v))->Ey l x v->Q (.bl (qF l x v)) H
def afe(c:Ϣ K C)(n:Ϗ K C "value"):FD P w K mg base cc 2 "fits" "ValueSieve.fits" Yt ["self","value"] (wH .is C):=by
 exists ["self","value"],_,f,#[a,dx,z,p,x,v,rfl,ha,#[e,sv,hl],q];symm;f_are;f_are;show aN ?_;f_are;show#[a,C,dx,_,v,rfl,ha,c,n,rfl,?_]*>Ky (BL e sv) ?_*>q
def aeb(h:aJ x y):aJ y x:=by
 obtain h|h|⟨i,j,a,b⟩|⟨i,j,a,b⟩:=h
 .show .inr (.inl h)
 .show .inl h
 .show .inr (.inr (.inl #[j,i,b,a]))
 .show .inr (.inr (.inr #[j,i,b,a]))
def akP(c:Ϣ K C)(n:Ϗ K C "value"):FD 2 "fits" "UnderSieve.fits" Qj ["self","value"] (wH .under C):=by
 exists ["self","value"],_,e,#[a,dx,z,p,x,v,rfl,ha,#[f,sv,hl],q],g uZ;symm;cbv;show aN ?_;f_are;show#[a,C,dx,_,v,rfl,ha,c,n,rfl,?_];cbv;show#[x,v,rfl,hl,q]
def aeR(c:Ϣ K C)(n:Ϗ K C "value"):FD 2 "fits" "OverSieve.fits" Uq ["self","value"] (wH .over C):=by
 exists ["self","value"],_,e,#[a,dx,z,p,x,v,rfl,ha,#[f,sv,hl],q],g uZ;symm;cbv;show aN ?_;f_are;show#[a,C,dx,_,v,rfl,ha,c,n,rfl,?_];cbv;show#[v,x,rfl,aeb hl,q]
inductive Du(K:Ϩ)(l:Lk)(C:δ):Sp
 |mk (a dx:δ) (z:Str) (p:Nat) (v:V) (b:δ) (xs:List V) (x:V):vs=[.ref a,.ref b]->H a=↑(.ins C dx (F3 z p v))->η K H b xs->xs[p]?=↑x->(x=.non\/Ey l x v)->Q (.bl (!decide (x=.non)&&qF l x v)) H
def KY(M:aK P w K mg base true 2 C "fits" ["self","value"] (wH l C))(n:Ϗ K C "place"):FD P w K mg base true 3 "lets" "ValueSieve.lets" vQ ["self","values"] (Du K l C):=by
 exists PJ,_,e,#[a,dx,z,p,v,b,xs,x,rfl,ha,f,g,hl,q],2;w_up;cbv;show aN ?_;f_are;show#[a,C,dx,_,_,rfl,ha,M.cls,n,rfl,?_]*>ύ f (ϔ g) ?_;cbv;show jw (λh=>?_) (λh=>?_)
 .let c:¬x=.non:= ~~~h
  show Zq ?_*>cX (pl:=_) e Ϝ (h:=?_);f_are;show#[a,C,dx,_,_,_,_,_,rfl,ha,rfl,M,by decide,λ_=>rfl,?_];cbv;show#[a,dx,z,p,x,v,rfl,ha,hl.resolve_left c,?_];rw[h,amk]at q;show q
 .rw[h]at q;show q
def xg:Def 1 "made_of" ["text","signs"] Vs:=by
 exists ["text","signs"],xg,m,#[z,g,rfl,n,q],n1.VB;symm;f_are;f_are;show adl ["sign","signs"] (σ':=[none,↑(.str g)]) (by rfl) (by rfl) (bA (υ Uc)) (by fin2) (by rfl) (by rfl) (by intro _;rfl) ?_;f_are;show#[z,rfl,?_,λi v=>∃c,z.cps.toList[i]?=↑c/\v=.bl (decide (c∈g.cps.toList)),λfp E' C p H0 i c H2 a sm=>?_,λE' H2 xs s hl e f sm=>?_]
 .have :z.cps.size=↥z:=rfl;let h2:ϰ=16777216:=ϯ;omega
 .cbv;show#[#[c,a,by rw[StrLaws.found_one]],ζ.refl _]
 .let ex:=fJ (ys:=z.cps.toList) (λc=>V.bl (decide (c∈g.cps.toList))) (by rw[hl];simp) e;let j:xs=(z.cps.toList.map λc=>decide (c∈g.cps.toList)).map V.bl:=by rw[ex,afm];rfl
  subst j;cbv;show RN (by rfl) (η.of f) ?_;let l:(z.cps.toList.map λc=>decide (c∈g.cps.toList)).all id=eV z g:=by rw[atu];rfl
  rw[l];show q _ sm
def Ay:Def 2 "is_text_value" ["value"] Rx:=by
 exists ["value"],Ay,f,#[v,rfl,hs,c,q],g.aeo,j.agz,n1.zU,n2.mH,l.bz,m xg,1;symm;cases v with
 |int i=>
  cbv;show q H (ζ.refl _)
 |non=>
  cbv;show q H (ζ.refl _)
 |str z=>
  let a:↥z<=4000:=c;cbv;show Α (λh=>?_) (λh=>?_)
  .cbv;show#[z,_,rfl,a,λH' sm=>?_];let e:jh (.str z)=eV z vW:=by
    let h':↥z<=20:=()
    unfold jh;simp[h']
   rw[e]at q;show q H' sm
  .let e:jh (.str z)=false:=by
    let h':¬↥z<=20:=()
    unfold jh;simp[h']
   rw[e]at q;show q H (ζ.refl _)
 |_=>cases hs
def Jx:Def 2 "are_figures" ["word"] aau:=by
 exists ["word"],Jx,s,#[z,rfl,n,q],u.aku,y xg,1;let i:("0":Str).cps.toList=[48]:=by fin2
 let e1:("":Str).cps.toList=[]:=by fin2
 unfold dR at q;symm;cbv;show Α (λh=>?_) (λh=>?_)
 .let h':z.cps.toList=[48]:=by cases h;show i
  rw[h']at q;show q H (ζ.refl _)
 .let h':¬z.cps.toList=[48]:=λh2=>h (by rw[gM (h2<|>i.symm)])
  rw[decide_eq_false h',atg]at q;cbv;show jA (λh2=>?_) (λh2=>?_)
  .let a:z.cps.toList≠[]:=λe=>h2 (by rw[gM (e<|>e1.symm)])
   rw[decide_eq_true a,amk]at q;let#[c,r,p]:=asl a;let g:z.cps.toList[0]?=↑c:=by rw[p];rfl
   cbv;show j8 () (ϔ (j:=0) g) ?_;cbv;rw[g]at q;show jA (λe=>?_) (λe=>?_)
   .let f:↑c≠↑48:=λl=>e (by cases l;show congrArg V.str (gM i.symm))
    rw[decide_eq_true f,amk]at q;cbv;show#[z,_,rfl,n,λH' sm=>?_];rw[anI];show q H' sm
   .let f:¬(↑c≠↑48):=λl=>l (by
     have:=congrArg (λv:V=>match v with|.str x=>x.cps.toList|_=>[]) e;let m:[c]=("0":Str).cps.toList:=this;rw[i]at m;cases m;rfl)
    rw[decide_eq_false f,apq]at q;show q H (ζ.refl _)
  .let a:¬z.cps.toList≠[]:=λe=>e (by cases h2;show e1)
   rw[decide_eq_false a,apq]at q;show q H (ζ.refl _)
def Ac:Def 3 "read_figures" ["word","most"] Wv:=by
 exists W0,Ac,l,#[z,m,k,rfl,g,n,m1,i,c,k1,k2,q],n1.bz,n2.mH,p.zu,2,s Jx,1;let hl:=_L.len_list z;let out:∀(H1:Hp)(o:Option V),ζ H H1->iz z.cps.toList m=none->Η X ((ϓ Hc).drop 1) {nx:=λ_ H'=>Q .non H',rt:=Q} [↑(.str z),↑(.int m),o] H1:=by
  intro H1 o sm e;let q1:=q H1 sm;rw[e]at q1;f_len;cbv;show q1
 w_up;cbv;show#[z,rfl,g,λH1 a =>?_];cbv;show jw (λh1=>?_) (λh1=>?_)
 .cbv;show lM (iU m1) ?_;cbv;rw[i];show Α (λh2=>?_) (λh2=>?_)
  .cbv;let#[hd,j]:=T8 h1;show amq (intText_digits hd j ()) () ?_;cbv;show Α (λf=>?_) (λf=>?_)
   .let q1:=q H1 a;let e:iz z.cps.toList m=↑_:=if_pos #[h1,f];rw[e]at q1;cbv;show q1
   .show Δ (out H1 _ a (if_neg λx=>f x.2))
  .show Δ (out H1 _ a (if_neg λx=>h2 ?_));have:=Mf x.1 x.2 c k1;omega
 .show Δ (out H1 _ a (if_neg λx=>by rw[h1]at x;show aaD x.1))
def Df:Def 4 "read_number_word" ["word"] (Bc (.ref (ο mg "NoValue"))):=by
 exists NK,Df,s,#[z,rfl,u,q],v.aeO,x.Xq,2,y Ac,1;let l:↥(Ϫ (toString (1000000000000000000:Int)))=19:=by fin2
 let f:iw z.cps.toList=none->False:=λhn=>by
  let c:=q H (ζ.refl _);rw[hn]at c;show c
 w_up;cbv;show Xc ?_;rw[show Txt.startswith z "-"=decide (z.cps.toList[0]?=↑45)from TX z 45];generalize m:decide (z.cps.toList[0]?=↑45)=n;cbv;cases n with
 |true=>
  let g:=of_decide_eq_true m;cbv;show iQ () ?_;cbv;let p:=v7 z ↑1 none;show#[_,_,19,rfl,(),by decide,by decide,l,by decide,by decide,by decide,λH1 j =>?_];rw[show(ϐ z ↑1 none).cps.toList=z.cps.toList.drop 1 from CV z 1];let a:=ad4 g;cases e:iz (z.cps.toList.drop 1) 1000000000000000000 with
  |none=>
   rw[e]at a;show(f a).elim
  |some i=>
   rw[e]at a;dsimp only at a;simp only[Jl];cbv;show Α (λh1=>?_) (λh1=>?_)
   .let h2:i=0:=by injection h1
    rw[if_pos h2]at a;show(f a).elim
   .let h2:¬i=0:=λe=>h1 (by rw[e])
    rw[if_neg h2]at a;let c:=q H1 j;rw[a]at c;show Δ ?_;cbv;show c
 |false=>
  let g:=of_decide_eq_false m;cbv;show#[_,_,19,rfl,(),by decide,by decide,l,by decide,by decide,by decide,λH1 j =>?_];let a:=YL g;cases e:iz z.cps.toList 1000000000000000000 with
  |none=>
   rw[e]at a;show(f a).elim
  |some i=>
   rw[e]at a;simp only[Jl];let c:=q H1 j;rw[a]at c;cbv;show c
def J0:Def 3 "read_text_word" ["word"] (Cu (.ref (ο mg "NoValue"))):=by
 exists Vj,J0,i,#[z,rfl,j,q],l.Ui,2,m Ay,1;let e1:Ϫ "'"=#[#v[39]]:=by fin2
 let n:=v7 z ↑1 none;let e:jF z=none->False:=λhn=>by
  let a:=q H (ζ.refl _);rw[hn]at a;show a
 w_up;cbv;show Xc ?_;cbv;rw[e1,TX];show Α (λh1=>?_) (λh1=>?_)
 .cbv;show iQ () ?_;cbv;show#[_,rfl,rfl,(show(ϐ z ↑1 none).length<=4000 by omega),λH1 f =>?_];cbv;show jw (λh2=>?_) (λh2=>?_)
  .cbv;show iQ () ?_;let a:=q H1 f;let g:jF z=↑(ϐ z ↑1 none):=by
    unfold jF;rw[if_pos #[h1,h2]]
   rw[g]at a;show a
  .show(e ?_).elim;unfold jF;rw[if_neg λc=>by rw[h2]at c;show aaD c.2]
 .show(e ?_).elim;unfold jF;rw[if_neg λc=>h1 c.1]
def yo:Def 5 "read_value" ["kind","word"] (zP (.ref (ο mg "NoValue"))):=by
 exists ["kind","word"],yo,j,#[k,z,rfl,g,q],l.Yw,m.Dm,n Df,p J0;w_up;cbv;show Α (λh1=>?_) (λh1=>?_)
 .let h2:z="?":=by cases h1;rfl
  let i:=q H (ζ.refl _);let a:eU k z=↑.non:=by unfold eU;rw[if_pos h2]
  rw[a]at i;cbv;show i
 .let h2:¬z="?":=λe=>h1 (by rw[e])
  let a:eU k z=if k="number" then vZ (iw z.cps.toList)else Bj (jF z):=by unfold eU;rw[if_neg h2]
  rw[a]at q;cbv;show Α (λc=>?_) (λc=>?_)
  .let f:k="number":=by cases c;rfl
   rw[if_pos f]at q;cbv;show#[z,rfl,g,q]
  .let f:¬k="number":=λe=>c (by rw[e])
   rw[if_neg f]at q;cbv;show#[z,rfl,g,q]
inductive Wj(K:Ϩ):Sp
 |mk (kd:Str) (a:δ) (ws:List Str) (p:Nat) (z:Str) (v:V):vs=[.str kd,.ref a,.int p]->η K H a (ws.map V.str)->↥ws<=4000->ws[p]?=↑z->p<60->↥z<=4000->eU kd z=↑v->¬v=.non->(∀H',ζ H H'->Q v H')
def Hl:Def 6 "read_word" ["kind","words","place"] (Wj K):=by
 exists aay,Hl,y,#[i,a,ws,p,z,v,rfl,j,hl,g,l,m,n,s,q],2,B qT,D yo;let f:=(aav.mp g).1;w_up;cbv;show#[a,ws,p,rfl,j,hl,(),λu=>absurd #[f,l] u,λz' e _=>?_];rw[g]at e;cases e;w_up;show KQ (λ_ _ _ _=>False) rfl rfl (λF pn xo po=>?_) (λσ c d H' x=>x.elim);f_len;cbv;show#[i,z,rfl,m,λH' sm=>?_];rw[n];show Δ ?_;w_up;cbv;rw[decide_eq_false s];cbv;show q H' sm
inductive dN|all|none (p:Nat)|look (l:Lk) (p:Nat) (v:V)
def yg(mg:MG):Lk->δ
 |.is=>ο mg "IsSieve"
 |.under=>ο mg "UnderSieve"
 |.over=>ο mg "OverSieve"
def rA(mg:MG)(H:Hp)(a:δ):dN->Str->Prop
 |.all,z=>∃dx,H a=↑(.ins (ο mg "AllSieve") dx [("text",.str z)])
 |.none p,z=>∃dx,H a=↑(.ins (ο mg "NoneSieve") dx [("text",.str z),("place",.int p)])
 |.look l p v,z=>∃dx,H a=↑(.ins (yg mg l) dx (F3 z p v))
def rA.same(h:rA mg H a s z)(e:ζ H H'):rA mg H' a s z:=by
 cases s<;>let#[dx,h]:=h<;>show#[dx,e<*h]
def Ji(mg:MG)(H:Hp)(p:δ)(s:dN)(z:Str)(n:Nat):=∃t,H p=↑(.tup [.ref t,.int n])/\rA mg H t s z
inductive Y7(K:Ϩ)(mg:MG):Sp
 |mk (b:δ) (cs:List ι) (a:δ) (ws:List Str) (s i:Nat):vs=[.ref b,.ref a,.int s]->Χ H b cs->η K H a (ws.map V.str)->↥ws<=4000->(∀z∈ws,↥z<=1000)->s+2<=↥ws->gF cs ws (s+1)=↑i->(∀p H',ζ H H'->Ji mg H' p (.none i) (cW ws s (s+2)) (s+2)->Q (.ref p) H')
def Hh:Def 5 "read_none" ["columns","words","start"] (Y7 K mg):=by
 exists aaF,Hh,B,#[b,cs,a,ws,f,i,rfl,D,n,hl,F,g,hi,q],2,1,L BJ,O wg;let M:nG P w K mg base true 2 "NoneSieve" (ο mg "NoneSieve") ["self","text","place"] (GR K):=(aoN T).make T.ac6 T.aie;w_up;cbv;show#[b,cs,a,ws,f+1,by simp,D,n,hl,(),λe=>(by rw[hi]at e;cases e),λi' H2 s e=>?_];rw[hi]at e;cases e;cbv;show pB M B (by decide) (λ_=>rfl) Ϝ ?_;cbv;show#[a,ws,f,f+2,by simp,s.seq n,hl,F,(),g,λu j=>?_];cbv;intro y dx l m R;show#[y,_,dx,[],cW ws f (f+2),_,rfl,ς,T.wy,T.aba,T.Qs,by simp,rfl,?_];cbv;show#[Ε,λp v=>?_];generalize x:upd (upd (upd (upd u dx (.own y)) y (.ins (ο mg "NoneSieve") dx [])) y _) y _=G at v⊢;let I:ζ u G:=λc o e=>by
  rw[<-x,θ (ό e l),θ (ό e l),θ (ό e l),θ (ό e m)];show e
 let J:G y=↑(.ins (ο mg "NoneSieve") dx [("text",.str (cW ws f (f+2))),("place",.int i)]):=by
  rw[<-x];show ς
 let z:ζ G (upd G p (.tup [.ref y,.int (f+2)])):=ζ.upd v;show q p _ (((s<|>j)<|>I)<|>z) #[y,ς,dx,z<*J]
def aM:Lk->Str
 |.is=>"is"
 |.under=>"under"
 |.over=>"over"
inductive YH(K:Ϩ)(mg:MG):Sp
 |mk (l:Lk) (b:δ) (cs:List ι) (a:δ) (ws:List Str) (s i:Nat) (c:ι) (z:Str) (v:V):vs=[.ref b,.ref a,.int s]->Χ H b cs->η K H a (ws.map V.str)->↥ws<=4000->(∀z∈ws,↥z<=1000)->s+3<=↥ws->s+2<60->ws[s]?=↑(aM l)->gF cs ws (s+1)=↑i->cs[i]?=↑c->ws[s+2]?=↑z->eU c.2 z=↑v->¬v=.non->(∀p H',ζ H H'->Ji mg H' p (.look l i v) (cW ws s (s+3)) (s+3)->Q (.ref p) H')
def JB:Def 7 "read_of_value" ["columns","words","start"] (YH K mg):=by
 exists Zo,JB,J,#[l,b,cs,a,ws,f,i,c,z,v,rfl,W,I,hl,Y,L,tY,hw,hi,hc,Z,hv,Ϲ,q],2,1,g1.IW,g2.aaA,g3.K8,g4.Kq,g5.KR,D1 BJ,D2 wg,D3 Hl;w_up;cbv;show ύ I (ϔ (by rw[abD,hw];rfl)) ?_;cbv;show#[b,cs,a,ws,f+1,by simp,W,I,hl,(),λe=>(by rw[hi]at e;cases e),λi' H2 u e=>?_];rw[hi]at e;cases e;let#[vs,hb,O]:=W.same u;let#[cv,gc,t,rfl,ht]:=O.get' hc;w_up;cbv;show ύ (η.of hb) (ϔ gc) ?_;cbv;show Β (ξ.of ht) (show Θ [V.str c.1,V.str c.2] 1=↑(V.str c.2)from rfl) ?_;w_up;cbv;show Α (λh=>absurd h (by cases l<;>fin2)) (λ_=>?_)*>Δ ?_;w_up;cbv;show#[c.2,a,ws,f+2,z,v,by simp,u.seq I,hl,Z,tY,by have:=Y z (aa0 Z);omega,hv,Ϲ,λH3 j=>?_];cbv;show#[a,ws,f,f+3,by simp,(u<|>j).seq I,hl,Y,(),L,λR U =>?_];cases l with
 |is=>
  let M:nG P w K mg base true 2 "IsSieve" (ο mg "IsSieve") ["self","text","place","value"] (xm K):=(Ec T).make T.aoa T.agK;w_up;cbv;show bV ?_;cbv;show pB M J (by decide) (λ_=>rfl) Ϝ ?_;cbv;intro y dx m g n;show#[y,_,dx,[],cW ws f (f+3),_,v,rfl,ς,T.sJ,T.Xg,T.Oz,T.XX,by simp,λG x B=>#[rfl,?_]];cbv;show#[Ε,λp D=>?_];let F:ζ R G:=λc o e=>B c o (ό e m) (by rw[θ (ό e m),θ (ό e g)];show e)
  let s:ζ G (upd G p (.tup [.ref y,.int (f+3)])):=ζ.upd D;show q p _ ((((u<|>j)<|>U)<|>F)<|>s) #[y,ς,dx,s<*x]
 |under=>
  let M:nG P w K mg base true 2 "UnderSieve" (ο mg "UnderSieve") ["self","text","place","value"] (xm K):=(Ec T).make T.afO T.ak0;w_up;cbv;show cD ?_*>Δ ?_;w_up;cbv;show bV ?_;cbv;show pB M J (by decide) (λ_=>rfl) Ϝ ?_;cbv;intro y dx m g n;show#[y,_,dx,[],cW ws f (f+3),_,v,rfl,ς,T.uo,T.TV,T.aaN,T.VH,by simp,λG x B=>#[rfl,?_]];cbv;show#[Ε,λp D=>?_];let F:ζ R G:=λc o e=>B c o (ό e m) (by rw[θ (ό e m),θ (ό e g)];show e)
  let s:ζ G (upd G p (.tup [.ref y,.int (f+3)])):=ζ.upd D;show q p _ ((((u<|>j)<|>U)<|>F)<|>s) #[y,ς,dx,s<*x]
 |over=>
  let M:nG P w K mg base true 2 "OverSieve" (ο mg "OverSieve") ["self","text","place","value"] (xm K):=(Ec T).make T.ac2 T.agh;w_up;cbv;show cD ?_*>Δ ?_;w_up;cbv;show cD ?_*>Δ ?_;w_up;cbv;show bV ?_;cbv;show pB M J (by decide) (λ_=>rfl) Ϝ ?_;cbv;intro y dx m g n;show#[y,_,dx,[],cW ws f (f+3),_,v,rfl,ς,T.rJ,T.RT,T.V0,T.Om,by simp,λG x B=>#[rfl,?_]];cbv;show#[Ε,λp D=>?_];let F:ζ R G:=λc o e=>B c o (ό e m) (by rw[θ (ό e m),θ (ό e g)];show e)
  let s:ζ G (upd G p (.tup [.ref y,.int (f+3)])):=ζ.upd D;show q p _ ((((u<|>j)<|>U)<|>F)<|>s) #[y,ς,dx,s<*x]
def qO(cs:List ι)(ws:List Str)(s:Nat):dN->Nat->Prop
 |.all,n=>ws[s]?=some "all"/\n=s+1
 |.none i,n=>ws[s]?=some "none"/\s+2<=↥ws/\gF cs ws (s+1)=↑i/\n=s+2
 |.look l i v,n=>s+3<=↥ws/\s+2<60/\ws[s]?=↑(aM l)/\gF cs ws (s+1)=↑i/\(∃c z,cs[i]?=↑c/\ws[s+2]?=↑z/\eU c.2 z=↑v)/\(¬v=.non)/\n=s+3
def ahn(h:ws[s]?=↑z):cW ws s (s+1)=z:=by
 unfold cW;let e:(ws.drop s).take (s+1-s)=[z]:=by
  rw[show s+1-s=1 by omega,Ab h];rfl
 rw[e];show join_one _ z
inductive Vr(K:Ϩ)(mg:MG):Sp
 |mk (b:δ) (cs:List ι) (a:δ) (ws:List Str) (s n:Nat) (k:Int) (sv:dN):vs=[.ref b,.ref a,.int s,.int k]->Χ H b cs->η K H a (ws.map V.str)->↥ws<=4000->(∀z∈ws,↥z<=1000)->s<60->qO cs ws s sv n->(∀p H',ζ H H'->Ji mg H' p sv (cW ws s n) n->Q (.ref p) H')
def adf:Def 8 "read_part" ["columns","words","start","within"] (Vr K mg):=by
 exists Bt,abe,W,#[b,cs,a,ws,m,n,k,sv,rfl,J,B,hl,L,Y,f,q],2,1,g1.IW,g2.aag,g3.K8,g4.Kq,g5.KR,g6.abo,D1 qT,D2 Hh,D3 JB;let M:nG P w K mg base true 1 "AllSieve" (ο mg "AllSieve") ["self","text"] (rN K):=yx.make T.abO T.acq;let g:∃z,ws[m]?=↑z:=by
  cases sv with
  |all=>show#[_,f.1]
  |none i=>show#[_,f.1]
  |look l i v=>show#[_,f.2.2.1]
 let#[z0,g]:=g;let D:=(aav.mp g).1;w_up;cbv;show#[a,ws,m,rfl,B,hl,(),λZ=>absurd #[D,Y] Z,λz' s _=>?_];rw[g]at s;cases s;w_up;cbv;cases sv with
 |all=>
  let#[h1,rfl]:=f;rw[g]at h1;cases h1;show bV ?_;cbv;show pB M W (by decide) (λ_=>rfl) Ϝ ?_;cbv;intro y dx O F Ϲ;show#[y,_,dx,[],_,rfl,ς,T.yd,T.ZP,by simp,rfl,?_];cbv;show#[Ε,λp j=>?_];generalize R:upd (upd (upd H dx (.own y)) y (.ins (ο mg "AllSieve") dx [])) y _=G at j⊢;let gU:ζ H G:=λc o e=>by
   rw[<-R,θ (ό e O),θ (ό e O),θ (ό e F)];show e
  let ey:G y=↑(.ins (ο mg "AllSieve") dx [("text",.str "all")]):=by
   rw[<-R];show ς
  let U:ζ G (upd G p (.tup [.ref y,.int (m+1)])):=ζ.upd j;show q p _ (gU<|>U) #[y,ς,dx,?_];rw[ahn g];show U<*ey
 |none i=>
  let#[h1,h2,u,rfl]:=f;rw[g]at h1;cases h1;show cD ?_*>Δ ?_;w_up;cbv;show bV ?_;cbv;show#[b,cs,a,ws,m,i,rfl,J,B,hl,L,h2,u,λp H' sm j=>q p H' sm j]
 |look l i v=>
  let#[h1,h2,u,h4,#[c,z,h5,h7,h8],h9,rfl]:=f;rw[g]at u;cases u;let e1:¬V.str (aM l)=V.str ("all":Str):=by cases l<;>fin2
  let e2:¬V.str (aM l)=V.str ("none":Str):=by cases l<;>fin2
  let e3:jg (V.str (aM l)) [V.str ("is":Str),V.str ("under":Str),V.str ("over":Str),V.str ("holds":Str)]=true:=by cases l<;>fin2
  show Α (λh=>absurd h e1) (λ_=>?_)*>Δ ?_;w_up;cbv;show Α (λh=>absurd h e2) (λ_=>?_)*>Δ ?_;w_up;cbv;show#[Ε,λtp I=>?_]*>sI (ξ.of ς) ?_;rw[e3];let x:ζ H (upd H tp (.tup [.str "is",.str "under",.str "over",.str "holds"])):=ζ.upd I;generalize upd H tp (.tup [.str "is",.str "under",.str "over",.str "holds"])=H2 at x⊢;cbv;show#[l,b,cs,a,ws,m,i,c,z,v,rfl,J.same x,x.seq B,hl,L,h1,h2,g,h4,h5,h7,h8,h9,λp H' sm j=>q p H' (x<|>sm) j]
inductive VL:Sp
 |mk (x) (y):vs=[x,y]->Q (.bl true) H
def abW:FD P w K mg base cc 1 "lets" "Sieve.lets" YD ["self","values"] VL:=by
 exists ["self","values"],_,a,#[x,y,rfl,q];f_len;cbv;show q
inductive QQ(K:Ϩ):Sp
 |mk (a C dx:δ) (fs:List (Str×V)) (p:Nat) (b:δ) (xs:List V) (x:V):vs=[.ref a,.ref b]->H a=↑(.ins C dx fs)->Ϣ K C->Ϗ K C "place"->fs.lookup ("place":Str)=↑(V.int p)->η K H b xs->xs[p]?=↑x->Q (.bl (decide (x=.non))) H
def ajB:FD P w K mg base cc 1 "lets" "NoneSieve.lets" RP ["self","values"] (QQ K):=by
 exists ["self","values"],_,g,#[a,C,dx,fs,p,b,xs,x,rfl,ha,c,hn,hl,e,f,q];symm;cbv;show aN ?_;f_are;show#[a,C,dx,fs,_,rfl,ha,c,hn,hl,?_]*>ύ e (ϔ f) ?_;cbv;show q
inductive Lj(K:Ϩ):Sp
 |mk (a C dx:δ) (fs:List (Str×V)) (z:Str) (p:V):vs=[.ref a,.str z,p]->H a=↑(.ins C dx fs)->Ϣ K C->Ϗ K C "text"->Ϗ K C "one"->↥fs<800->Q .non (upd (upd H a (.ins C dx (az "text" (.str z) fs))) a (.ins C dx (az "one" p (az "text" (.str z) fs))))
def anL(T:Txt K mg):FD P w K mg base cc 2 "__init__" "NotSieve.__init__" Y5 ["self","text","one"] (Lj K):=by
 exists ["self","text","one"],_,f,#[a,C,dx,fs,z,p,rfl,ha,e,hn,c,hl,q];let B:vG P w K mg base cc 1 "Sieve" "__init__" ["self","text"] (rN K):=yx.asked T.Gh T.JC;let g:=uh "text" (V.str z) fs;w_up;show aD ?_*>Fg (pl:=_) B f id Ϝ ?_;cbv;show#[a,C,dx,fs,z,rfl,ha,e,hn,(),?_];f_len;show gB ?_;f_are;f_are;show#[a,C,dx,_,rfl,ς,e,c,(),q]
inductive Tr
 |one (s:dN)
 |nt (t:Tr)
def Tr.dep:Tr->Nat
 |.one _=>0
 |.nt t=>t.dep+1
def Reads(cs:List ι)(ws:List Str):Tr->Nat->Nat->Prop
 |.one sv,s,e=>s<60/\qO cs ws s sv e
 |.nt t,s,e=>s<60/\ws[s]?=some "not"/\Reads cs ws t (s+1) e
theorem qO.le:∀{sv:dN},qO cs ws s sv e->s<e/\e<=↥ws
 |.all,h=>by
   let#[h1,rfl]:=h;have:=(aav.mp h1).1;omega
 |.none i,h=>by
   let#[_,h2,_,rfl]:=h;omega
 |.look l i v,h=>by
   let#[h1,_,_,_,_,_,rfl]:=h;omega
theorem Reads.le:∀{t:Tr}{s e:Nat},Reads cs ws t s e->s<e/\e<=↥ws
 |.one sv,s,e,h=>qO.le h.2
 |.nt t,s,e,h=>by have:=Reads.le (t:=t) h.2.2;omega
def eF(mg:MG)(H:Hp):Tr->δ->Str->Prop
 |.one s,a,z=>rA mg H a s z
 |.nt t,a,z=>∃dx b y,H a=↑(.ins (ο mg "NotSieve") dx [("text",.str z),("one",.ref b)])/\eF mg H t b y
theorem eF.same(e:ζ H H'):∀{t:Tr}{a:δ}{z:Str},eF mg H t a z->eF mg H' t a z
 |.one s,a,z,h=>rA.same h e
 |.nt t,a,z,h=>by
   let#[dx,b,y,h1,h2]:=h;show#[dx,b,y,e<*h1,eF.same e h2]
def amT(F:Def P w K mg base true k x ps sp)(h:∀vs H Q E,sp' vs H Q E->sp vs H Q E):Def P w K mg base true k x ps sp':=by
 let#[f,fd,h1,h2,e,c]:=F.ex;show#[f,fd,h1,h2,e,#[λvs H Q E z=>c.len vs H Q E (h vs H Q E z),λA outer s H a us vs Q E g i j r z=>c.run A outer s H a us vs Q E g i j r (h vs H Q E z)]]
def Gj(F:aK P w K mg base true k C x ps sp)(e:k<=k')(h:∀vs H Q E,sp' vs H Q E->sp vs H Q E):aK P w K mg base true k' C x ps sp':=by
 let#[f,fd,h1,h2,c]:=F.ex;let c:=c.mono e;show#[F.cls,f,fd,h1,h2,#[λvs H Q E z=>c.len vs H Q E (h vs H Q E z),λA outer s H a us vs Q E g i j r z=>c.run A outer s H a us vs Q E g i j r (h vs H Q E z)]]
inductive vB(K:Ϩ)(mg:MG)(t:Tr):Sp
 |mk (b:δ) (cs:List ι) (a:δ) (ws:List Str) (s e:Nat) (k:Int):vs=[.ref b,.ref a,.int s,.int k]->Χ H b cs->η K H a (ws.map V.str)->↥ws<=4000->(∀z∈ws,↥z<=1000)->0<=k->k+t.dep<=20->Reads cs ws t s e->(∀p v H',ζ H H'->H' p=↑(.tup [.ref v,.int e])->eF mg H' t v (cW ws s e)->Q (.ref p) H')
inductive Fb(K:Ϩ)(mg:MG)(t:Tr):Sp
 |mk (b:δ) (cs:List ι) (a:δ) (ws:List Str) (s e:Nat) (k:Int):vs=[.ref b,.ref a,.int s,.int k]->Χ H b cs->η K H a (ws.map V.str)->↥ws<=4000->(∀z∈ws,↥z<=1000)->1<=k->k+t.dep<=21->k<=20->Reads cs ws t s e->(∀p v H',ζ H H'->H' p=↑(.tup [.ref v,.int e])->eF mg H' t v (cW ws s e)->Q (.ref p) H')
theorem agr(T:Txt K mg)(sv:dN):Def P w K mg base true 8 "read_part" ["columns","words","start","within"] (vB K mg (.one sv)):=amT (adf T) λvs H Q E h=>by
 let#[b,cs,a,ws,s,e,k,rfl,f,g,hl,i,j,m,c,q]:=h;show#[b,cs,a,ws,s,e,k,sv,rfl,f,g,hl,i,c.1,c.2,λp H' sm l=>?_];let#[v,h1,h2]:=l;show q p v H' sm h1 h2
def Ju:Tr->Option Str
 |.one _=>none
 |.nt _=>some "not"
def ahZ(h:Reads cs ws t s e)(a:Ju t=↑z):s<60/\ws[s]?=↑z:=by
 cases t with
 |one _=>cases a
 |nt t=>cases a;show#[h.1,h.2.1]
def zY(a:Ju t=↑z):z="not"\/z="both"\/z="either":=by
 cases t with
 |one _=>cases a
 |nt t=>cases a;show .inl rfl
def ak5(f:Ju t=↑z)(Z:3<=lv)(D:Def P w K mg base true lv "read_of_sieves" ["columns","words","start","within"] (Fb K mg t)):Def (lv+1) "read_part" ["columns","words","start","within"] (vB K mg t):=by
 exists Bt,abe,hr,#[b,cs,a,ws,s,e,k,rfl,F,u,hl,G,I,hk,g,q],2,1,g1.IW,g2.aag,g3.K8,g4.Kq,g5.KR,g6.abo,g7.N5,g8.Z3,g9.acZ,D1 qT;let#[J,i]:=ahZ g f;let l:=(aav.mp i).1;let L:1<=t.dep:=by
  cases t with
  |one _=>cases f
  |nt t=>show 1<=t.dep+1;omega
 let e1:¬V.str z=V.str ("all":Str):=by obtain rfl|rfl|rfl:=zY f<;>fin2
 let M:¬V.str z=V.str ("none":Str):=by obtain rfl|rfl|rfl:=zY f<;>fin2
 let O:jg (V.str z) [V.str ("is":Str),V.str ("under":Str),V.str ("over":Str),V.str ("holds":Str)]=false:=by obtain rfl|rfl|rfl:=zY f<;>fin2
 let R:jg (V.str z) [V.str ("not":Str),V.str ("both":Str),V.str ("either":Str)]=true:=by obtain rfl|rfl|rfl:=zY f<;>fin2
 k_go;show#[a,ws,s,rfl,u,hl,(),λU=>absurd #[l,J] U,λz' j _=>?_];rw[i]at j;cases j;w_up;show Λ ?_>>=Α (λh=>absurd h e1) (λ_=>?_)*>Δ ?_;w_up;show Λ ?_>>=Α (λh=>absurd h M) (λ_=>?_)*>Δ ?_;w_up;show Λ ?_>>=#[Ε,λtp m=>?_]*>sI (ξ.of ς) ?_;rw[O];let x:ζ H (upd H tp (.tup [.str "is",.str "under",.str "over",.str "holds"])):=ζ.upd m;generalize upd H tp (.tup [.str "is",.str "under",.str "over",.str "holds"])=H2 at x⊢;lk;show Δ ?_;w_up;show Λ ?_>>=#[Ε,λy n=>?_]*>sI (ξ.of ς) ?_;rw[R];let B:ζ H2 (upd H2 y (.tup [.str "not",.str "both",.str "either"])):=ζ.upd n;generalize upd H2 y (.tup [.str "not",.str "both",.str "either"])=H3 at B⊢;lk;let c:=x<|>B;symm;lk;show #[b,cs,a,ws,s,e,k+1,rfl,F.same c,c.seq u,hl,G,(),(),(),g,λp v H' sm W Y=>q p v H' (c<|>sm) W Y]
def ag4(D1:Def P w K mg base true x "read_part" ["columns","words","start","within"] (vB K mg t))(h1:x<=lv)(h3:3<=lv):Def (lv+1) "read_of_sieves" ["columns","words","start","within"] (Fb K mg (.nt t)):=by
 exists Wf,amH,R,#[b,cs,a,ws,f,e,k,rfl,U,i,hl,z,W,Y,Z,g,q],2,1,g1.aew,g2.N5,g3.Z3,DB wg;let hle:=g.le;let hd:k+(t.dep+1:Nat)<=21:=Y;let#[tY,j,B]:=g;let apd:=B.le;let sw:η K H a (ws.map V.str):=i;let e1:(f:Int)+1=((f+1:Nat):Int):=()
 w_up;show Λ ?_>>=Α (λh=>absurd h ()) (λ_=>?_)*>Δ ?_;k_go;show ύ sw (v:=.str ("not":Str)) (ϔ (by rw[abD,j];rfl)) ?_;w_up;show fV ?_;lk;rw[e1];show#[b,cs,a,ws,f+1,_,k,rfl,U,i,hl,z,(),(),B,λp1 D H1 F l m=>?_]*>aj (ξ.of l) (Ι (ω nd (Ι (ω nd (ao ?_)))));w_up;show Λ ?_>>=bV ?_;symm;let M:nG P w K mg base true 2 "NotSieve" (ο mg "NotSieve") ["self","text","one"] (Lj K):=(anL T).make T.anY T.aiS;lk;show pB M R () (λ_=>rfl) Ϝ ?_>>=#[a,ws,f,e,rfl,F.seq i,hl,z,(),(),λH2 I =>?_];lk;intro y dx n s Ϲ;show#[y,_,dx,[],_,_,rfl,ς,T.uG,T.Vv,T.Xl,by simp,rfl,?_]>>=#[Ε,λp J=>?_];generalize L:upd (upd (upd (upd H2 dx (.own y)) y (.ins (ο mg "NotSieve") dx [])) y _) y _=G at J⊢;let O:ζ H2 G:=λc o e=>by
  rw[<-L,θ (ό e n),θ (ό e n),θ (ό e n),θ (ό e s)];show e
 let ey:G y=↑(.ins (ο mg "NotSieve") dx [("text",.str (cW ws f e)),("one",.ref D)]):=by
  rw[<-L];show ς
 let u:ζ G (upd G p (.tup [.ref y,.int e])):=ζ.upd J;show q p y _ (((F<|>I)<|>O)<|>u) ς #[dx,D,_,u<*ey,((m.same I).same O).same u]
theorem Q4(T:Txt K mg):∀t:Tr,Def P w K mg base true (8+2*t.dep) "read_part" ["columns","words","start","within"] (vB K mg t)
 |.one sv=>agr T sv
 |.nt t=>by
   let h:=ak5 T (z:="not") (lv:=8+2*t.dep+1) rfl () (ag4 T (lv:=8+2*t.dep) (Q4 T t) (Ϭ _) ());let e:8+2*(Tr.nt t).dep=8+2*t.dep+1+1:=by show 8+2*(t.dep+1)=_;omega
   rw[e];show h
inductive TF(mg:MG)(t:Tr):Sp
 |mk (b:δ) (cs:List ι) (z:Str):vs=[.ref b,.str z]->Χ H b cs->↥z<=3000->(∀y∈ϑ 32 z,↥y<=1000)->t.dep<=20->Reads cs (ϑ 32 z) t 0 ↥(ϑ 32 z)->(∀v H',ζ H H'->eF mg H' t v (cW (ϑ 32 z) 0 ↥(ϑ 32 z))->Q (.ref v) H')
def Tz(t:Tr):Def (9+2*t.dep) "read_sieve" ["columns","text"] (TF mg t):=by
 let j:9+2*t.dep=(8+2*t.dep)+1:=()
 rw[j];exists SM,akZ,D,#[b,cs,z,rfl,l,G,a,m,e,q],2,n1.bz,1;let I:= @Q4 P w K mg base T t;let n:=Zg 32 z;w_up;f_tup;show b7 F.plainAttrs_str F.slot_str_split F.type_str_split (h:=?_);cbv;show m_split (c:=32) λp u=>?_
 let#[f,ep,H,p,H1]:=Ο u (.lst ((ϑ 32 z).map V.str));w_up;show fV ?_>>=#[b,cs,p,ϑ 32 z,0,_,0,rfl,l.same f,η.of ep,(),a,by decide,(),e,λJ v H2 i x g=>?_]*>aj (ξ.of x) (Ι (ω nd (Ι (ω nd (ao ?_)))));let y:η K H2 p ((ϑ 32 z).map V.str):=η.of (i<*ep);let B:↥((ϑ 32 z).map V.str)=↥(ϑ 32 z):=aaw ..;w_up;cbv;rw[B];show Α (λh=>absurd h ()) (λ_=>?_);cbv;show q v H2 (f<|>i) g
def anu(xs:List V):dN->Bool
 |.all=>true
 |.none p=>decide ((xs[p]?).getD .non=.non)
 |.look l p v=> !decide ((xs[p]?).getD .non=.non)&&qF l ((xs[p]?).getD .non) v
def Tn(xs:List V):dN->Prop
 |.all=>True
 |.none p=>p<↥xs
 |.look l p v=>∃x,xs[p]?=↑x/\(x=.non\/Ey l x v)
def bw(xs:List V):Tr->Bool
 |.one s=>anu xs s
 |.nt t=> !bw xs t
def Ci(xs:List V):Tr->Prop
 |.one s=>Tn xs s
 |.nt t=>Ci xs t
def jb(mg:MG):Tr->δ
 |.one .all=>ο mg "AllSieve"
 |.one (.none _)=>ο mg "NoneSieve"
 |.one (.look l _ _)=>yg mg l
 |.nt _=>ο mg "NotSieve"
inductive sE(K:Ϩ)(mg:MG)(t:Tr):Sp
 |mk (a b:δ) (z:Str) (xs:List V):vs=[.ref a,.ref b]->eF mg H t a z->η K H b xs->Ci xs t->Q (.bl (bw xs t)) H
theorem eF.ins:∀{t:Tr}{a:δ}{z:Str},eF mg H t a z->∃dx fs,H a=↑(.ins (jb mg t) dx fs)/\fs.lookup ("lets":Str)=none
 |.one .all,a,z,h=>by let#[dx,h]:=h;show#[dx,_,h,rfl]
 |.one (.none p),a,z,h=>by let#[dx,h]:=h;show#[dx,_,h,rfl]
 |.one (.look l p v),a,z,h=>by let#[dx,h]:=h;show#[dx,_,h,rfl]
 |.nt t,a,z,h=>by let#[dx,b,y,h,_]:=h;show#[dx,_,h,rfl]
def ahk(T:Txt K mg)(l:Lk)(p:Nat)(v:V):aK P w K mg base true 3 (yg mg l) "lets" ["self","values"] (Du K l (yg mg l)):=by
 cases l with
 |is=>show(KY ((afe T.sJ T.XX).meth T.sJ T.alO) T.Oz).meth T.sJ T.aiZ
 |under=>show(KY ((akP T T.uo T.VH).meth T.uo T.ae4) T.aaN).meth T.uo T.aiE
 |over=>show(KY ((aeR T T.rJ T.Om).meth T.rJ T.akj) T.V0).meth T.rJ T.acT
def amd(M:aK P w K mg base true lv (jb mg t) "lets" ["self","values"] (sE K mg t)):FD (lv+1) "lets" "NotSieve.lets" Qk ["self","values"] (sE K mg (.nt t)):=by
 exists ["self","values"],_,f,#[a,b,z,xs,rfl,#[dx,c,y,ha,e],g,i,q];let#[dc,m,j,l]:=e.ins;symm;lk;show cX (pl:=_) f Ϝ (h:=?_)*>aN ?_;f_are;show#[a,_,_,_,_,rfl,ha,T.uG,T.Xl,rfl,?_]*>#[c,jb mg t,dc,_,true,lv,_,sE K mg t,rfl,j,l,M,Ϭ _,id,?_]>>=#[c,b,y,xs,rfl,e,g,i,?_]>>=q
theorem aaM(T:Txt K mg):∀t:Tr,aK P w K mg base true (3+t.dep) (jb mg t) "lets" ["self","values"] (sE K mg t)
 |.one .all=>Gj (abW.meth T.yd T.ab7) (by decide) λvs H Q E h=>by
   let#[a,b,z,xs,rfl,_,_,_,q]:=h;show#[_,_,rfl,q]
 |.one (.none p)=>Gj (ajB.meth T.wy T.ahj) (by show 1<=3+0;decide) λvs H Q E h=>by
   let#[a,b,z,xs,rfl,#[dx,ha],c,f,q]:=h;let i:p<↥xs:=f;let e:xs[p]?=↑xs[p]:=ϳ i;show#[a,_,dx,_,p,b,xs,xs[p],rfl,ha,T.wy,T.Qs,rfl,c,e,?_];let q:Q (.bl (decide ((xs[p]?).getD .non=.non))) H:=q;rw[e]at q;show q
 |.one (.look l p v)=>Gj (ahk T l p v) (by show 3<=3+0;decide) λvs H Q E h=>by
   let#[a,b,z,xs,rfl,#[dx,ha],c,#[x,g,f],q]:=h;show#[a,dx,z,p,v,b,xs,x,rfl,ha,c,g,f,?_];let q:Q (.bl (!decide ((xs[p]?).getD .non=.non)&&qF l ((xs[p]?).getD .non) v)) H:=q;rw[g]at q;show q
 |.nt t=>(amd T (aaM T t)).meth T.uG T.akA
def Ex:Def 2 "read_order_word" ["columns","word"] (zL (.ref (ο mg "NoOrder"))):=by
 exists abf,Ex,F,#[a,cs,z,rfl,l,G,g,q],I.Y4,J.R0,2,L nQ,1;let m:=v7 z ↑1 none;let e1:("+":Str).cps.toList=[43]:=by fin2
 let i:("-":Str).cps.toList=[45]:=by fin2
 let es:(ϐ z none ↑1).cps.toList=z.cps.toList.take 1:=Be z 1;let e:∀c:Nat,z.cps.toList.take 1=[c]↔z.cps.toList[0]?=↑c:=λc=>by
  cases z.cps.toList with
  |nil=>simp
  |cons x r=>simp
 let k1:V.str (ϐ z none ↑1)=V.str "+"↔z.cps.toList[0]?=↑43:=by
  rw[<-e];constructor
  .intro h;let h2:ϐ z none ↑1=Ϫ "+":=by injection h
   rw[<-es,h2,e1]
  .intro h;let h2:ϐ z none ↑1=Ϫ "+":=gM (by rw[es,h,e1]);rw[h2]
 let k2:V.str (ϐ z none ↑1)=V.str "-"↔z.cps.toList[0]?=↑45:=by
  rw[<-e];constructor
  .intro h;let h2:ϐ z none ↑1=Ϫ "-":=by injection h
   rw[<-es,h2,i]
  .intro h;let h2:ϐ z none ↑1=Ϫ "-":=gM (by rw[es,h,i]);rw[h2]
 w_up;cbv;show iQ () ?_;cbv;show iQ () ?_;cbv;show#[Ε,λp n=>?_];let#[f,ep,H,p,H0]:=Ο n (.tup [.str "+",.str "-"]);show aa4 (ξ.of ep) ?_;let s:jg (V.str (ϐ z none ↑1)) [.str "+",.str "-"]=decide (z.cps.toList[0]?=↑43\/z.cps.toList[0]?=↑45):=by
  let j:∀y:Str,fW (V.str y) (V.str (ϐ z none ↑1))=decide (V.str (ϐ z none ↑1)=V.str y):=λy=>by
   rw[ags,decide_eq_true_eq];constructor
   .intro h;have:V.str y=V.str (ϐ z none ↑1):=by simpa [fW]using h
    show this.symm
   .intro h;rw[h];simp[fW]
  rw[ags,decide_eq_true_eq, <-k1, <-k2];show((fW _ _||(fW _ _||false))=true)↔_;rw[j,j,ar3,aqC,decide_eq_true_eq,decide_eq_true_eq]
 rw[s];cbv;show jA (λh=>?_) (λh=>?_)
 .show(g H (ζ.refl _) (if_neg λx=>h x.1)).elim
 .show Δ ?_;cbv;show#[a,cs,_,rfl,l.same f,λH1 u =>?_];let v :=f<|>u;cbv;show Α (λh2=>?_) (λh2=>?_)
  .show(g H (ζ.refl _) (if_neg λx=>x.2 h2)).elim
  .show Δ ?_;cbv;show#[Ε,λt B=>?_]*>q t _ _ (v<|>(ζ.upd B)) (if_pos #[h,h2]) ?_;rw[ς];let D:decide (V.str (ϐ z none ↑1)=V.str ("+":Str))=decide (z.cps.toList[0]?=↑43):=decide_eq_decide.mpr k1;rw[D]
def zH:Def 3 "read_order" ["columns","text"] (Bx (.ref (ο mg "NoOrder"))):=by
 show Γ (S:=XQ) T.zH (λf _ _ _ s H vs Q E hr h=>?_);intro X _;let#[a,cs,z,rfl,hC,hz,j,q]:=h;let g1:=T.afv;let n1:=T.bz;let n2:=T.Zh;let nd:=XQ.nd;let p8:(["word","columns"]:List Str).Nodup:=by fin2
 let aX:(["name","up"]:List Str).Nodup:=by fin2
 let D1:=!Ex;let hsz:=ϯ;unfold iY at j q;w_up;cbv;show Α (λh=>?_) (λh=>?_)
 .let h':z="":=by injection h
  cbv;show#[Ε,λp I=>?_]*>q p [] _ (ζ.upd I) (if_pos h') I #[[],ς,.nil]
 .let h':¬z="":=λe=>h (by rw[e])
  rw[if_neg h']at j q;show Δ ?_;w_up;f_tup;show b7 PySem.F.plainAttrs_str PySem.F.slot_str_split PySem.F.type_str_split (h:=?_);cbv;show m_split (c:=32) λp1 U=>?_
  let W:=Zg 32 z;let n:=λy=> @ahI 32 z y
  generalize ϑ 32 z=ws at j q W n⊢;let#[J,ni,H,p1,H1]:=Ο U (.lst (ws.map V.str));let L:↥(ws.map V.str)=↥ws:=aaw ..;let S1:η K H1 p1 (ws.map V.str):=η.of ni;cbv;rw[L];show Α (λh2=>?_) (λh2=>?_)
  .show(j H (ζ.refl _) (if_pos ())).elim
  .rw[if_neg ()]at j q;show Δ ?_;w_up;show adY ["word","columns"] (σ':=[none,↑(.ref a)]) (by rfl) Ϝ rfl rfl (by rfl) (by rfl) (bA (υ yj)) (by intro _;rfl) nd (by rfl) (by rfl) ?_;cbv;show#[p1,_,rfl,S1,by rw[L];omega,λB=>∃o,B=[o,↑(.ref a)],λE' i v H'=>∃y,ws[i]?=↑y/\∃o,iW cs y=↑o/\∃t,v=.ref t/\t≠E'/\H' t=↑(.tup [.str o.1,.bl o.2]),#[none,rfl],λE' i v H2 Y ys _ hk I=>?_,λfp E' C s3 H0 F i B x H2 Y xo Z hi m Υ D hG=>?_,λE' H2 xs Z hl M e2 Υ =>?_]
   .let#[y,a1,o,a2,t,a3,a4,a5]:=I;show#[y,a1,o,a2,t,a3,a4,hk t _ a4 a5]
   .let#[o,rfl]:=m;let#[M,rfl]:=hG;rw[abD]at M;let#[y,ey,rfl]:=aj7.mp M;let hyl:=n y (aa0 ey);show ω p8 ?_;cbv;let g:=J<|>Υ;show#[a,cs,y,rfl,hC.same g,(),λH' l e=>?_,λt o H' l e et=>?_]
    .show j H' (g<|>l) (by rw[U7 (aa0 ey) e])
    .let#[ys,aa,_]:=D;show#[#[_,rfl],#[y,ey,o,e,t,rfl,λz=>?_,et],l];rw[z,l<*aa]at et;cases et
   .let#[os,eo,ha]:=aaj (f:=iW cs) (R:=xu H2) (ws:=ws) (xs:=xs) (by rw[hl,L]) λi v e=>by
     let#[y,a1,o,a2,t,a3,a4,a5]:=M i v e;show#[y,a1,o,a2,t,a3,a5]
    rw[eo]at j q;let ab:=ha.len;let g:=J<|>Υ;let ac:H E'=none:=by
     cases e:H E' with
     |none=>rfl
     |some u=>rw[J<*e]at Z;cases Z
    w_up;show wM ["name","up"] (σ':=[none,none]) (bA (υ yj)) nd ?_;cbv;show#[E',xs,rfl,η.of e2,by rw[hl,L];omega,λB=>∃o1 o2,B=[o1,o2],λE2 i u H'=>∃c,os[i]?=↑c/\u=.str c.1,#[none,none,rfl],λE2 i u H2 Y ys _ _ p=>p,λfp E2 C s3 H0 i B x H4 Y aQ hi m l D hG=>?_,λE2 H4 ys aQ ϻ ae e4 l =>?_]
    .let#[o1,o2,rfl]:=m;let#[au,rfl]:=hG;let#[c,hc,t,rfl,ht]:=ha.get au;show aj (ξ.of (l<*ht)) (Ι (ω aX (Ι (ω aX (ao ?_)))));cbv;show#[#[_,_,rfl],#[c,hc,rfl],ζ.refl _]
    .let ey:=fJ (ys:=os) (λc=>V.str c.1) (by rw[ϻ,ab]) ae;let gJ:ys=(os.map Prod.fst).map V.str:=by rw[ey,afm];rfl
     subst gJ;let G:↥(os.map Prod.fst)<=4000:=by simp;omega
     w_up;cbv;show O1 (by rfl) (η.of e4) G λS hS=>?_
     cbv;show aa8 ς G ?_;cbv;show uB (.inl (η.of ((ζ.upd hS)<*e4))) ?_;cbv;let O:ζ H2 (upd H4 S (pA X S (os.map Prod.fst))):=l<|>(ζ.upd hS);let Ws:=JL _ (os.map Prod.fst) rfl;generalize upd H4 S (pA X S (os.map Prod.fst))=H5 at O⊢;rw[aaw (f:=V.str)];show jA (λh3=>?_) (λh3=>?_)
     .let h4:¬(os.map Prod.fst).Nodup:=λz=>h3 (by rw[Ws.mpr z])
      show(j H (ζ.refl _) (if_neg h4)).elim
     .let h4:(os.map Prod.fst).Nodup:=Ws.mp (by injection h3 with h5;omega);show Δ ?_;cbv;show q E' os H5 (g<|>O) (if_pos h4) ac #[xs,O<*e2,ha.imp λu c r=>r.same O]
abbrev Row:=Int×List V
def aO(H:Hp)(v:V)(r:Row):=∃t l,v=.ref t/\H t=↑(.tup [.int r.1,.ref l])/\H l=↑(.lst r.2)
def aO.same(h:aO H v r)(s:ζ H H'):aO H' v r:=by
 let#[t,l,e,a,c]:=h;show#[t,l,e,s<*a,s<*c]
def fU(H:Hp)(a:δ)(rs:List Row):=∃vs:List V,H a=↑(.lst vs)/\ρ (aO H) vs rs
def fU.same(h:fU H a rs)(s:ζ H H'):fU H' a rs:=by
 let#[vs,e,q]:=h;show#[vs,s<*e,q.imp λa b r=>r.same s]
def ϛ(cs:List ι)(r:Row):Prop:=ρ (λc x=>ϖ c.2 x) cs r.2
def ϖ.aJ(h:ϖ c x)(g:ϖ c y):aJ x y:=by
 obtain rfl|⟨e,i,rfl,_⟩|⟨e,z,rfl,_⟩:=h
 .show .inl rfl
 .obtain rfl|⟨_,j,rfl,_⟩|⟨a,z,rfl,_⟩:=g
  .show .inr (.inl rfl)
  .show .inr (.inr (.inl #[_,_,rfl,rfl]))
  .show absurd e a
 .obtain rfl|⟨a,j,rfl,_⟩|⟨_,z,rfl,_⟩:=g
  .show .inr (.inl rfl)
  .show absurd a e
  .show .inr (.inr (.inr #[_,_,rfl,rfl]))
def BX(x:V):before x x=false:=by
 cases x with
 |non=>rfl
 |int i=>show decide_eq_false ()
 |str z=>show decide_eq_false (at3 _)
 |_=>rfl
def Xo(g:ϖ f x)(l:ϖ f y)(m:ϖ f z)(h1:before x y=true)(h2:before y z=true):before x z=true:=by
 obtain rfl|⟨e,k,rfl,_⟩|⟨e,z,rfl,_⟩:=m
 .cases y<;>cases h2
 .obtain rfl|⟨_,i,rfl,_⟩|⟨c,z,rfl,_⟩:=g
  .rfl
  .obtain rfl|⟨_,j,rfl,_⟩|⟨c,z,rfl,_⟩:=l
   .cases h1
   .let a:=of_decide_eq_true h1;let b:=of_decide_eq_true h2;show decide_eq_true ()
   .show absurd e c
  .show absurd e c
 .obtain rfl|⟨c,i,rfl,_⟩|⟨_,u,rfl,_⟩:=g
  .rfl
  .show absurd c e
  .obtain rfl|⟨c,j,rfl,_⟩|⟨_,v,rfl,_⟩:=l
   .cases h1
   .show absurd c e
   .show decide_eq_true (auf (of_decide_eq_true h1) (of_decide_eq_true h2))
def wU(h:aJ x y)(l:scalar x=true)(a:scalar y=true)(c:¬x=y):before y x= !before x y:=by
 cases x with
 |non=>
  cases y with
  |non=>show absurd rfl c
  |int j=>rfl
  |str z=>rfl
  |_=>show absurd a aaD
 |int i=>
  cases y with
  |non=>rfl
  |int j=>
   let m:¬i=j:=λe=>c (by rw[e])
   show decide (j<i)= !decide (i<j);by_cases h1:i<j
   .rw[decide_eq_true h1,decide_eq_false ()];rfl
   .rw[decide_eq_false h1,decide_eq_true ()];rfl
  |str z=>obtain z|z|⟨_,_,_,z⟩|⟨_,_,z,_⟩:=h<;>cases z
  |_=>show absurd a aaD
 |str z=>
  cases y with
  |non=>rfl
  |int j=>obtain z|z|⟨_,_,z,_⟩|⟨_,_,_,z⟩:=h<;>cases z
  |str y=>
   let f:¬z.cps.toList=y.cps.toList:=λe=>c (by rw[gM e])
   show decide (y.cps.toList<z.cps.toList)= !decide (z.cps.toList<y.cps.toList);by_cases h1:z.cps.toList<y.cps.toList
   .rw[decide_eq_true h1,decide_eq_false (List.lt_asymm h1)];rfl
   .let h2:y.cps.toList<z.cps.toList:=by
     by_cases g:y.cps.toList<z.cps.toList
     .show g
     .show absurd (List.le_antisymm (atX.mp g) (atX.mp h1)) f
    rw[decide_eq_false h1,decide_eq_true h2];rfl
  |_=>show absurd a aaD
 |_=>show absurd l aaD
def mV(cs:List ι)(z:Str):Str:=match cs[ϋ cs z]? with
 |some c=>c.2
 |none=>Ϫ ""
def bZ(cs:List ι)(os:List Ord)(xs:List V):Prop:=ρ (λ(o:Ord) x=>ϖ (mV cs o.1) x) os xs
theorem vJ:∀{os:List Ord}{xs:List V}{n k:Int},↥xs=↥os->Ϟ os xs xs n k=decide (n<k)
 |[],[],n,k,_=>rfl
 |o::os,x::xs,n,k,h=>by
  show(if x=x then Ϟ os xs xs n k else _)=_;rw[if_pos rfl];show vJ (~~~h)
 |[],_::_,_,_,h=>by simp at h
 |_::_,[],_,_,h=>by simp at h
theorem Ga:∀{os:List Ord}{xs ys:List V},bZ cs os xs->bZ cs os ys->¬xs=ys->Ϟ os ys xs k n= !Ϟ os xs ys n k
 |[],_,_,a,c,h=>by cases a;cases c;show absurd rfl h
 |o::os,_,_,a,c,h=>by
  cases a with| @cons _ x _ xs a tx=>
  cases c with| @cons _ y _ ys c ty=>
  show(if y=x then Ϟ os ys xs k n else decide (before y x=o.2))= !(if x=y then Ϟ os xs ys n k else decide (before x y=o.2));by_cases e:x=y
  .rw[if_pos e,if_pos e.symm];show Ga tx ty λf=>h (by rw[e,f])
  .rw[if_neg e,if_neg (Ne.symm e),wU (a.aJ c) a.sc c.sc e];cases before x y<;>cases o.2<;>rfl
theorem yO:∀{os:List Ord}{xs ys zs:List V},bZ cs os xs->bZ cs os ys->bZ cs os zs->Ϟ os xs ys n k=true->Ϟ os ys zs k m=true->Ϟ os xs zs n m=true
 |[],_,_,_,i,j,l,h1,h2=>by
  cases i;cases j;cases l;let a:=of_decide_eq_true h1;let b:=of_decide_eq_true h2;show decide_eq_true ()
 |o::os,_,_,_,i,j,l,h1,h2=>by
  cases i with| @cons _ x _ xs i tx=>
  cases j with| @cons _ y _ ys j ty=>
  cases l with| @cons _ z _ zs l s=>
  let g:(if x=y then Ϟ os xs ys n k else decide (before x y=o.2))=true:=h1;let f:(if y=z then Ϟ os ys zs k m else decide (before y z=o.2))=true:=h2;show(if x=z then Ϟ os xs zs n m else decide (before x z=o.2))=true;by_cases e1:x=y
  .rw[if_pos e1]at g;subst e1;by_cases p:x=z
   .rw[if_pos p]at f⊢;show yO tx ty s g f
   .rw[if_neg p]at f⊢;show f
  .rw[if_neg e1]at g;by_cases p:y=z
   .subst p;rw[if_neg e1];show g
   .rw[if_neg p]at f;let a:=of_decide_eq_true g;let b:=of_decide_eq_true f;cases ho:o.2 with
    |true=>
     rw[ho]at a b;let c:=Xo i j l a b;let q:¬x=z:=λe=>by rw[e,BX]at c;cases c
     rw[if_neg q];show decide_eq_true c
    |false=>
     rw[ho]at a b;let u:before y x=true:=by rw[wU (i.aJ j) i.sc j.sc e1,a];rfl
     let v:before z y=true:=by rw[wU (j.aJ l) j.sc l.sc p,b];rfl
     let c:=Xo l j i v u;let q:¬x=z:=λe=>by rw[e,BX]at c;cases c
     rw[if_neg q];let d:=wU (i.aJ l) i.sc l.sc q;rw[c]at d;show decide_eq_true ?_;cases hb:before x z with
     |true=>rw[hb]at d;cases d
     |false=>rfl
theorem cV(h:ϛ cs r):∀{os:List Ord},cU cs os->bZ cs os (Ν cs os r.2)
 |[],_=>.nil
 |o::os,a=>by
  show .cons ?_ (cV h λx f=>a x (by simp[f]));let#[c,e,_]:=Hw (a o (by simp));let#[v,g,i]:=h.get e;show ϖ (mV cs o.1) (bY cs r.2 o.1);unfold mV bY;rw[e,g];show i
def bZ.aJ{os:List Ord}{xs ys:List V}(h:bZ cs os xs)(g:bZ cs os ys):↥xs=↥os/\↥ys=↥os/\∀(i:Nat) x y,xs[i]?=↑x->ys[i]?=↑y->scalar x=true/\scalar y=true/\aJ x y:=by
 show#[h.len.symm,g.len.symm,λi x y e1 f=>?_];let#[o,j,c]:=h.get' e1;let#[o',a,e]:=g.get' f;rw[j]at a;cases a;show#[c.sc,e.sc,c.aJ e]
def cT(cs:List ι)(os:List Ord)(r q:Row):Bool:=Ϟ os (Ν cs os r.2) (Ν cs os q.2) r.1 q.1
def Line(cs:List ι)(os:List Ord)(rs:List Row):Prop:=rs.Pairwise λr q=>cT cs os r q=true
theorem Gk{α:Type}{p:α->Bool}:∀{l:List α},l.Pairwise (λa b=>p b=true->p a=true)->(∀x∈l.take (l.countP p),p x=true)/\∀x∈l.drop (l.countP p),p x=false
 |[],_=>by simp
 |a::l,h=>by
  let#[h1,h2]:=anC.mp h;let#[f,g]:=Gk h2;cases ha:p a with
  |true=>
   rw[List.countP_cons_of_pos ha];show#[λx c=>by
    rcases aaB.mp (~~~c)with e|e
    .rw[e];show ha
    .show f x e,λx c=>g x (~~~c)]
  |false=>
   let hn:∀x∈l,p x=false:=λx c=>by
    cases hp:p x with
    |false=>rfl
    |true=>have:=h1 x c hp;rw[ha]at this;cases this
   let i:l.countP p=0:=List.countP_eq_zero.mpr λx c=>by rw[hn x c];show aaD
   rw[List.countP_cons_of_neg (by rw[ha];show aaD),i];show#[by simp,λx c=>?_];rcases aaB.mp (~~~c)with e|e
   .rw[e];show ha
   .show hn x e
inductive Ct
 |start
 |fin
 |at_ (ahead:Bool) (xs:List V) (n:Int)
def xJ(os:List Ord):Ct->List V->Int->Bool
 |.at_ true ys k,xs,n=>Ϟ os xs ys n k
 |.at_ false ys k,xs,n=> !Ϟ os ys xs k n
 |_,_,_=>false
def bH(cs:List ι)(os:List Ord)(c:Ct)(r:Row):Bool:=xJ os c (Ν cs os r.2) r.1
def lN(cs:List ι)(os:List Ord):Ct->Prop
 |.at_ _ xs _=>bZ cs os xs
 |_=>True
def aem{os:List Ord}(a:cU cs os){c:Ct}(f:lN cs os c){r q:Row}(j:ϛ cs r)(l:ϛ cs q)(h:cT cs os r q=true)(hl:bH cs os c q=true):bH cs os c r=true:=by
 let g:=cV j a;let i:=cV l a;cases c with
 |start=>cases hl
 |fin=>cases hl
 |at_ sd xs n=>
  cases sd with
  |true=>show yO g i f h hl
  |false=>
   let e:(!Ϟ os xs (Ν cs os q.2) n q.1)=true:=hl;show(!Ϟ os xs (Ν cs os r.2) n r.1)=true;cases hx:Ϟ os xs (Ν cs os r.2) n r.1 with
   |false=>rfl
   |true=>
    rw[yO f g i hx h]at e;cases e
theorem El{os:List Ord}(e:cU cs os){c:Ct}(i:lN cs os c):∀{rs:List Row},(∀r∈rs,ϛ cs r)->Line cs os rs->rs.Pairwise (λa b=>bH cs os c b=true->bH cs os c a=true)
 |[],_,_=>.nil
 |r::rs,g,h=>by
  let#[h1,h2]:=anC.mp h;show .cons (λq f hl=>aem e i (g r (by simp)) (g q (by simp[f])) (h1 q f) hl) (El e i (λq f=>g q (by simp[f])) h2)
def ahR{os:List Ord}(a:cU cs os){rs:List Row}{r:Row}(j:∀q∈rs,ϛ cs q)(n:ϛ cs r)(h:Line cs os rs)(hn:∀q∈rs,¬q.1=r.1):Line cs os (iZ rs (rs.countP λq=>cT cs os q r) r):=by
 let f:=cV n a;let p:lN cs os (.at_ true (Ν cs os r.2) r.1):=f;let s:=El a p j h;let#[p1,p2]:=Gk s;let u:(λq=>cT cs os q r)=bH cs os (.at_ true (Ν cs os r.2) r.1):=rfl;rw[u];unfold iZ;let g:Line cs os (rs.take (rs.countP (bH cs os (.at_ true (Ν cs os r.2) r.1)))++rs.drop (rs.countP (bH cs os (.at_ true (Ν cs os r.2) r.1)))):=by
  rw[asU];show h
 let#[v,y,z]:=asZ.mp g;show asZ.mpr #[v,anC.mpr #[λq c=>?_,y],λx l q c=>?_]
 .let hf':=j q (aey c);let e:=p2 q c;let B:=cV hf' a;let D:=hn q (aey c);let i:Ϟ os (Ν cs os q.2) (Ν cs os r.2) q.1 r.1=false:=e;show Ϟ os (Ν cs os r.2) (Ν cs os q.2) r.1 q.1=true;by_cases m:Ν cs os q.2=Ν cs os r.2
  .rw[m,vJ (bZ.aJ f f).1]at i⊢;have:=of_decide_eq_false i;show decide_eq_true ()
  .rw[Ga B f m,i];rfl
 .obtain e|e:=aaB.mp c
  .rw[e];show p1 x l
  .show z x l q e
def agx{os:List Ord}{sd:Bool}{xs ys:List V}{n k:Int}(a:bZ cs os xs)(f:bZ cs os ys):xJ os (.at_ sd ys k) xs n=(Ϟ os xs ys n k||(!sd&&decide (xs=ys/\n=k))):=by
 cases sd with
 |true=>
  show Ϟ os xs ys n k=_;rw[show(!true&&decide (xs=ys/\n=k))=false from rfl,ar3]
 |false=>
  show(!Ϟ os ys xs k n)=_;by_cases c:xs=ys
  .subst c;rw[vJ a.len.symm,vJ a.len.symm];by_cases h1:k<n
   .rw[decide_eq_true h1,decide_eq_false (show ¬n<k by omega),decide_eq_false (show ¬(xs=xs/\n=k)from λe=>by have:=e.2;omega)];rfl
   .rw[decide_eq_false h1];by_cases h2:n<k
    .rw[decide_eq_true h2];rfl
    .rw[decide_eq_false h2,decide_eq_true (show xs=xs/\n=k from#[rfl,()])];rfl
  .rw[Ga a f c,decide_eq_false (λe=>c e.1),Bool.not_not];simp
def lC:V->List V
 |.non=>[]
 |x=>[x]
def jt(rs:List Row)(q:List Nat):List Row:=q.map λi=>rs.getD i (0,[])
theorem K1(h:ρ R ws rs):∀{q:List Nat},(∀i∈q,i<↥ws)->ρ R (dX ws q) (jt rs q)
 |[],_=>.nil
 |i::q,a=>by
  let hi:=a i (by simp);let e:ws[i]?=↑(ws[i]'hi):=ϳ hi;let#[r,c,f]:=h.get e;show ρ R (ws.getD i .non::dX ws q) (rs.getD i (0,[])::jt rs q);rw[ach,ach,e,c];show .cons f (K1 h λj g=>a j (by simp[g]))
theorem map_getD{α:Type}(d:α):∀(l:List α),(acV ↥l).map (λi=>l.getD i d)=l
 |[]=>rfl
 |a::l=>by
  rw[acD,asJ,acY,afm];show a::_=_
  congr 1
  show map_getD d l
def Ny(h:fH ↥rs lt q):(jt rs q).Perm rs:=by
 have:=h.1.map λi=>rs.getD i (0,[])
 rw[map_getD]at this;show this
def oR{rs:List Row}(h:i<↥rs):rs.getD i (0,[])=rs[i]:=by
 rw[ach,ϳ h];rfl
def Rj(g:ϖ f x)(a:ϖ f y):bj (lC x) (lC y)=before x y:=by
 obtain rfl|⟨e,i,rfl,_⟩|⟨e,z,rfl,_⟩:=g
 .obtain rfl|⟨_,j,rfl,_⟩|⟨_,z,rfl,_⟩:=a<;>rfl
 .obtain rfl|⟨_,j,rfl,_⟩|⟨c,z,rfl,_⟩:=a
  .rfl
  .rfl
  .show absurd e c
 .obtain rfl|⟨c,j,rfl,_⟩|⟨_,z,rfl,_⟩:=a
  .rfl
  .show absurd c e
  .rfl
def ai2(hn:(rs.map Prod.fst).Nodup)(f:fH ↥rs (jO false λi j=>decide ((rs.getD i (0,[])).1<(rs.getD j (0,[])).1)) q):Line cs [] (jt rs q):=by
 unfold Line jt;rw[ao9];let g:q.Nodup:=(f.1.nodup_iff).mpr arI;show(f.2.and g).imp_of_mem λ{i j} hi l h=>?_;let#[h,m]:=h;let a:=pX f hi;let c:=pX f l;show decide ((rs.getD i (0,[])).1<(rs.getD j (0,[])).1)=true;let hd:¬(rs.getD i (0,[])).1=(rs.getD j (0,[])).1:=λe=>by
  rw[oR a,oR c]at e;let n:(rs.map Prod.fst)[i]'(~~~a)=(rs.map Prod.fst)[j]'(~~~c):= ~~~e
  show m ((amx hn).mp n)
 obtain h|⟨h,_⟩:=h
 .show h
 .let h':decide ((rs.getD j (0,[])).1<(rs.getD i (0,[])).1)=false:=h;have:=of_decide_eq_false h';show decide_eq_true ()
def bK(rs:List Row)(p:Nat)(i:Nat):List V:=lC (((rs.getD i (0,[])).2[p]?).getD .non)
def ajn{os:List Ord}{o:Ord}{rs:List Row}{q:List Nat}(g:cU cs (o::os))(z:∀r∈rs,ϛ cs r)(h:Line cs os rs)(s:fH ↥rs (jO (!o.2) λi j=>bj (bK rs (ϋ cs o.1) i) (bK rs (ϋ cs o.1) j)) q):Line cs (o::os) (jt rs q):=by
 unfold Line jt;rw[ao9];let u:q.Nodup:=(s.1.nodup_iff).mpr arI;show(s.2.and u).imp_of_mem λ{i j} hi D f=>?_;let#[f,G]:=f;let a:=pX s hi;let c:=pX s D;let E:rs.getD i (0,[])∈rs:=by rw[oR a];show afz a
 let F:rs.getD j (0,[])∈rs:=by rw[oR c];show afz c
 let l:ϖ (mV cs o.1) (bY cs (rs.getD i (0,[])).2 o.1):=by
  cases cV (z _ E) g with|cons h _=>show h
 let m:ϖ (mV cs o.1) (bY cs (rs.getD j (0,[])).2 o.1):=by
  cases cV (z _ F) g with|cons h _=>show h
 let n:bj (bK rs (ϋ cs o.1) i) (bK rs (ϋ cs o.1) j)=before (bY cs (rs.getD i (0,[])).2 o.1) (bY cs (rs.getD j (0,[])).2 o.1):=Rj l m;let p:bj (bK rs (ϋ cs o.1) j) (bK rs (ϋ cs o.1) i)=before (bY cs (rs.getD j (0,[])).2 o.1) (bY cs (rs.getD i (0,[])).2 o.1):=Rj m l;let an:=wU (l.aJ m) l.sc m.sc;let old:i<j->cT cs os (rs.getD i (0,[])) (rs.getD j (0,[]))=true:=λv=>by
  rw[oR a,oR c];show apw.mp h i j a c v
 show(if bY cs (rs.getD i (0,[])).2 o.1=bY cs (rs.getD j (0,[])).2 o.1 then cT cs os (rs.getD i (0,[])) (rs.getD j (0,[]))else decide (before (bY cs (rs.getD i (0,[])).2 o.1) (bY cs (rs.getD j (0,[])).2 o.1)=o.2))=true;generalize bY cs (rs.getD i (0,[])).2 o.1=x at l n p an⊢;generalize bY cs (rs.getD j (0,[])).2 o.1=y at m n p an⊢;by_cases e:x=y
 .rw[if_pos e];show old ?_;subst e;obtain h1|⟨_,h1⟩:=f
  .unfold jO at h1;split at h1
   .let h1:bj (bK rs (ϋ cs o.1) j) (bK rs (ϋ cs o.1) i)=true:=h1;rw[p,BX]at h1;cases h1
   .let h1:bj (bK rs (ϋ cs o.1) i) (bK rs (ϋ cs o.1) j)=true:=h1;rw[n,BX]at h1;cases h1
  .show h1
 .rw[if_neg e];let B:=an e;show decide_eq_true ?_;cases hu:o.2 with
  |true=>
   rw[hu]at f;obtain h1|⟨h1,_⟩:=f
   .let h1:bj (bK rs (ϋ cs o.1) i) (bK rs (ϋ cs o.1) j)=true:=h1;rw[n]at h1;show h1
   .let h1:bj (bK rs (ϋ cs o.1) j) (bK rs (ϋ cs o.1) i)=false:=h1;rw[p,B]at h1;simpa using h1
  |false=>
   rw[hu]at f;obtain h1|⟨h1,_⟩:=f
   .let h1:bj (bK rs (ϋ cs o.1) j) (bK rs (ϋ cs o.1) i)=true:=h1;rw[p,B]at h1;simpa using h1
   .let h1:bj (bK rs (ϋ cs o.1) i) (bK rs (ϋ cs o.1) j)=false:=h1;rw[n]at h1;show h1
def ajy{o:Ord}(a:∃c∈cs,c.1=o.1)(l:∀r∈rs,ϛ cs r):rQ (bK rs (ϋ cs o.1)):=by
 let f:∀i,ϖ (mV cs o.1) (((rs.getD i (0,[])).2[ϋ cs o.1]?).getD .non):=λi=>by
  by_cases hi:i<↥rs
  .let m:rs.getD i (0,[])∈rs:=by rw[oR hi];show afz hi
   cases cV (os:=[o]) (l _ m) (λp q=>by cases ack.mp q;show a)with|cons h _=>show h
  .let e:rs.getD i (0,[])=(0,[]):=by rw[ach,an8 ()];rfl
   rw[e];show .inl rfl
 show#[λi=>?_,?_]
 .show qH (lC _);obtain e|⟨_,n,e,_⟩|⟨_,z,e,_⟩:=f i<;>rw[e]
  .show .inl rfl
  .show .inr #[_,rfl]
  .show .inr #[_,rfl]
 .by_cases j:mV cs o.1="number"
  .show .inl λi x h=>?_
   let h:lC (((rs.getD i (0,[])).2[ϋ cs o.1]?).getD .non)=[x]:=h;obtain e|⟨_,n,e,_⟩|⟨g,z,e,_⟩:=f i
   .rw[e]at h;cases h
   .rw[e]at h;cases h;show#[n,rfl]
   .show absurd j g
  .show .inr λi x h=>?_
   let h:lC (((rs.getD i (0,[])).2[ϋ cs o.1]?).getD .non)=[x]:=h;obtain e|⟨g,n,e,_⟩|⟨_,z,e,_⟩:=f i
   .rw[e]at h;cases h
   .show absurd g j
   .rw[e]at h;cases h;show#[z,rfl]
inductive Od(K:Ϩ):Sp
 |mk (t:δ) (n:Int) (x:V):vs=[.ref t]->H t=↑(.tup [.int n,x])->Q (.int n) H
def Kf:Def 1 "number_of" ["told"] (Od K):=by
 exists ["told"],Kf,c,#[t,n,x,rfl,a,q];symm;lk;show Β (ξ.of a) (show Θ [V.int n,x] 0=↑(V.int n)from rfl) ?_*>q
inductive Rq(K:Ϩ):Sp
 |mk (x:V):vs=[x]->(∀p H',ζ H H'->H p=none->H' p=↑(.tup (lC x))->Q (.ref p) H')
def HY:Def 1 "rank_of" ["value"] (Rq K):=by
 exists ["value"],HY,c,#[x,rfl,q],1;symm;lk;show Α (λe=>?_) (λe=>?_)
 .lk;show#[Ε,λp a=>?_];subst e;show q p _ (ζ.upd a) a ς
 .lk;show#[Ε,λp a=>?_];let ex:lC x=[x]:=by
   cases x with
   |non=>show absurd rfl e
   |_=>rfl
  show q p _ (ζ.upd a) a (by rw[ex];show ς)
inductive Dq(K:Ϩ):Sp
 |mk (p:δ) (i:Nat) (up:Bool) (ws:List V) (rs:List Row):vs=[.ref p,.int i,.bl up]->H p=↑(.lst ws)->ρ (aO H) ws rs->↥rs<64->(∀r∈rs,i<↥r.2)->rQ (bK rs i)->H (dh K "sorted_by")=↑(.tbl jZ)->(∀q pl H',ζ H H'->H pl=none->fH ↥rs (jO (!up) λa b=>bj (bK rs i a) (bK rs i b)) q->H' pl=↑(.lst (dX ws q))->Q (.ref pl) H')
def Hq(R:fO K mg base "sorted_by"):Def 6 "sorted_by" ["rows","place","up"] (Dq K):=by
 show am8 T.Hq R PN (λ_ _ _ _ _ _ us hl=>by let#[_,_,_,rfl]:=YW hl;rfl) (λvs H Q E h=>by let#[p,i,up,ws,rs,rfl,_]:=h;rfl) (λf A outer s H vs Q E S h=>?_);let#[p,i,up,ws,rs,rfl,hp,F,h64,G,O,hP,q]:=h;let nd:=PN.nd;let n1:=T.JG;let J:=F.len;let hsz:=ϯ;w_up;show aif (c:=iT K "sorted_by") (P:=dh K "sorted_by") (ps:=jZ) (j:=3) (qual:="sorted_by.<locals>.rank") (clos:=[("place",⇑s+1)]) nd (by rfl) (by rfl) (by rfl) R.code R.bm (by rfl) hP (acv _ _) (by change (Ϫ "sorted_by"++Ϫ ".<locals>.")++Ϫ "rank"=_;fin2) (by rfl) (by rfl) (by rfl) ?_;intro fr c' oc doc pm ctv vs t' H1 m hfr U n Y hq;let#[u1,n]:=n;let hK:∀(X:Cx)(σ:_L.St),X=fX true P w K mg base ZW "sorted_by" (υ yu) f (.ref (iT K "sorted_by")) A outer s H E->σ=[↑(.ref p),↑(.int i),↑(.bl up),↑(.ref fr)]->uO X σ (.ref fr) ws H1 (X8 (bK rs i)):=by
  intro X σ eX Z;subst eX;subst Z;show#[λk v H2 H3 sm h=>?_,λk x u ϵ B H2 hx ru sm I=>?_]
  .let#[a,e,h]:=h;show#[a,e,sm<*h]
  .let#[r,D,t,l,rfl,ht,hl]:=F.get hx;let hkl:=(aav.mp D).1;let L:=G r (aa0 D);let cY:=m<|>sm;show ai5 (j:=1) (v:=.ref t) (z:=.int i) (x:="told") (y:="place") I (sm<*U) (sm<*n) Y hq S.in1.in1.depth (λ_ _ _ _ _=>rfl) (by rfl) (by rfl) (by rfl) (by rfl) (by rfl) (by fin2) (λa ha=>?_) (by rfl) (by rfl) (by rfl) (by rfl) ru ?_
   .let h:=PySem.mem_of_lookup ha;change (a,NameKind.free)∈[(Ϫ "told",NameKind.local),(Ϫ "place",NameKind.free),(Ϫ "rank_of",NameKind.globalImplicit)]at h;obtain e|h:=aaB.mp h
    .cases e
    .obtain e|h:=aaB.mp h
     .show congrArg Prod.fst e
     .cases ack.mp h
   .let D1:= @HY P w K mg base T;let hr':=((S.in1).in1).deeper (W.envX "sorted_by.<locals>.rank" (υ (Zz (ϓ yu) 0)) ⇑B fr (.ref c') [("place",⇑s+1)]);symm;lk;show Β (ξ.of (cY<*ht)) (show Θ [V.int r.1,V.ref l] 1=↑(V.ref l)from rfl) ?_>>=ύ (η.of (cY<*hl)) (ϔ (ϳ L)) ?_>>=#[_,rfl,λa H3 s3 ha h3=>?_]*>#[s3,a,rfl,?_];rw[h3];unfold bK;rw[ach,D];show _=↑(HO.tup (lC ((r.2[i]?).getD .non)));rw[ϳ L];rfl
 let hu:=S.in1.in1.units0;change Η _ _ _ [↑(.ref p),↑(.int i),↑(.bl up),↑(.ref fr)] H1;w_up;show Λ ?_;lk;cases up with
 |true=>
  walk_at"t";symm;show Sg n1 ?_>>=#[p,fr,ws,_,_,rfl,rfl,η.of (m<*hp),(),U9 O,hK _ _ rfl rfl,Wx hu O,λpl H2 qq B g M=>?_];rw[J]at M;show q qq pl _ ((m<|>B)<|>(ζ.upd g)) ((m<|>B).free g) M ς
 |false=>
  walk_at"t";show Δ ?_;symm;show akr (b:=true) (by rfl) n1 (by rfl) ?_>>=#[rfl,p,fr,ws,_,_,rfl,rfl,η.of (m<*hp),(),U9 O,hK _ _ rfl rfl,Wx hu O,λpl H2 qq B g M=>?_];rw[J]at M;show q qq pl _ ((m<|>B)<|>(ζ.upd g)) ((m<|>B).free g) M ς
def gQ(q:δ)(H H':Hp)(v:V)(r:Row):=∃t l,v=.ref t/\H t=none/\H l=none/\l≠q/\H' t=↑(.tup [.int r.1,.ref l])/\H' l=↑(.lst r.2)
def gQ.row(h:gQ q H H' v r):aO H' v r:=by
 let#[t,l,e,_,_,_,h1,h2]:=h;show#[t,l,e,h1,h2]
def gQ.same(h:gQ q H H' v r)(s:ζ H' H2):gQ q H H2 v r:=by
 let#[t,l,e,a,b,c,h1,h2]:=h;show#[t,l,e,a,b,c,s<*h1,s<*h2]
def gQ.turn(h:gQ q H H' v r)(g:H' f=none):gQ f H H' v r:=by
 let#[t,l,e,a,b,c,h1,h2]:=h;show#[t,l,e,a,b,(λz=>by rw[z,g]at h2;cases h2),h1,h2]
inductive Jd(K:Ϩ):Sp
 |mk (c b p:δ) (cs:List ι) (os:List Ord) (rs:List Row):vs=[.ref c,.ref b,.ref p]->Χ H c cs->aL H b os->fU H p rs->↥cs<=6->↥os<=6->cU cs os->↥rs<64->(∀r∈rs,ϛ cs r)->(rs.map Prod.fst).Nodup->H (dh K "sorted_by")=↑(.tbl jZ)->(∀q ws ls H',ζ H H'->H q=none->H' q=↑(.lst ws)->ρ (gQ q H H') ws ls->Line cs os ls->ls.Perm rs->Q (.ref q) H')
def Jy(hN:fO K mg base "sorted_by"):Def 8 "line_of" ["columns","order","rows"] (Jd K):=by
 show Γ (S:=Sd) T.Jy (λf Ϻ A outer s H vs Q E g h=>?_);let#[c,b,p,cs,os,rs,rfl,hC,#[ov,hb,Y],#[ws,hp,Z],hc6,rC,aa,h64,ab,ag,hP,q]:=h;let nd:=Sd.nd;let n1:=T.JG;let n2:=T.aaQ;let n3:=T.jT;let hwl:=Z.len;let ah:=Y.len;let hsz:=ϯ;let aX:(["row","values"]:List Str).Nodup:=by fin2
 let D1:=!Kf;let D2:=!nQ;let D3:Def P w K mg base true 6 "sorted_by" ["rows","place","up"] (Dq K):=Hq T hN;w_up;f_tup;show Sg n1 ?_*>jd ["row","values"] (σ':=[none,none]) (bA (υ yG)) ?_>>=#[p,ws,rfl,η.of hp,(),λτ=>∃o1 o2,τ=[o1,o2],λE2 k u H'=>∃r,rs[k]?=↑r/\gQ E2 H H' u r,#[none,none,rfl],λE2 k u H2 H3 ys hE I p=>?_,λfp E2 C s3 H0 k τ x H4 H5 aQ hi ai Τ M hG=>?_,λq0 H2 us hq0 W al e2 s2=>?_]
 .let#[r,g,t,l,e,h1,h2,h3,h4,h5]:=p;show#[r,g,t,l,e,h1,h2,h3,I _ _ (λz=>by rw[z,hE]at h4;cases h4) h4,I _ _ h3 h5]
 .let#[o1,o2,rfl]:=ai;let#[au,rfl]:=hG;let#[r,g,t,l,rfl,ht,hl]:=Z.get au;let#[ys,M]:=M;show aj (ξ.of (Τ<*ht)) (Ι (ω aX (Ι (ω aX (ao ?_)))))>>=iG (.inl (η.of (Τ<*hl))) λa W=>?_
  let#[D,e5]:=Ο W (.lst r.2);let nl:a≠E2:=λe=>by rw[e,M]at W;cases W
  generalize upd H4 a (.lst r.2)=H5 at D e5⊢;lk;show#[Ε,λt2 cA=>?_];let s6:ζ H5 (upd H5 t2 (.tup [.int r.1,.ref a])):=ζ.upd cA;show#[#[_,_,rfl],#[r,g,t2,a,rfl,(Τ<|>D).free cA,Τ.free W,nl,ς,s6<*e5],D<|>s6]
 let O:ρ (gQ q0 H H2) us rs:=kh () λk r g=>by
  let I:k<↥us:=by have:=(aav.mp g).1;omega
  let#[r',ac,hn]:=al k _ (ϳ I);rw[g]at ac;cases ac;show#[_,ϳ I,hn]
 let km:=O.len;let#[fa,am,qp]:=aiB (σ:=[↑(.ref c),↑(.ref b),↑(.ref p),none,none,none]) (X:=fX true P w K mg base Zk "line_of" (υ yG) f Ϻ A outer s H E) (H:=H2) (xs:=us) (KV:=aao λi=>(rs.getD i (0,[])).1) D1 (g.mono (show 1+2<=7 by decide)) (λi v H H' _ h=>h) (λi x H' hx sm=>by
  let#[r,g,t,l,rfl,_,_,_,ht,hl]:=O.get hx;show#[t,r.1,.ref l,rfl,sm<*ht,ζ.refl _,?_];show V.int r.1=V.int (rs.getD i (0,[])).1;rw[ach,g];rfl)
 show afo am (by rfl) (by decide) ?_*>#[q0,fa,us,_,_,rfl,rfl,η.of e2,(),ahb,qp,anS,λp1 H3 m s3 F J=>?_];rw[km]at J;let j:ρ (gQ p1 H (upd H3 p1 (.lst (dX us m)))) (dX us m) (jt rs m):=(K1 O λi hi=>by rw[km];show pX J hi).imp λu r z=>((z.same s3).turn F).same (ζ.upd F)
 let n:=ai2 (cs:=cs) ag J;let y:=Ny J;let aH:ζ H (upd H3 p1 (.lst (dX us m))):=(s2<|>s3)<|>(ζ.upd F);let ar:H p1=none:=(s2<|>s3).free F;let ni:(upd H3 p1 (.lst (dX us m))) p1=↑(.lst (dX us m)):=ς;generalize upd H3 p1 (.lst (dX us m))=H4 at j aH ni⊢;generalize dX us m=w1 at j ni;generalize jt rs m=l1 at j n y;w_up;show Xe (by walk_at"po") (by rfl) (by rfl) n2 (by rfl) ?_>>=#[b,ov,rfl,η.of (aH<*hb),λi σ H'=>(∃o4 o5 L R a,σ=[↑(.ref c),↑(.ref b),↑(.ref p),↑(.ref L),o4,o5]/\ζ H H'/\H L=none/\H' L=↑(.lst R)/\ρ (gQ L H H') R a/\Line cs (os.drop (↥os-i)) a/\a.Perm rs),?_,λi σ' H' _ B=>?_,λi x σ' H' hi hx B=>?_,λσ' H' B=>?_]
 .show#[none,none,p1,w1,l1,rfl,aH,ar,ni,j,?_,y];rw[arB,amX];show n
 .let#[_,_,_,_,_,_,sm,_]:=B;show η.of (sm<*hb)
 .let#[o4,o5,L,R,a,rfl,sm,ae,Je,hA,hL,Ϥ]:=B;let#[o,ho,t,rfl,ht]:=Y.get hx;let G:=aa o (aa0 ho);let hlt:=tM G;let W:↥a=↥rs:=Ϥ.length_eq;let av:=hA.len;let Em:∀r∈a,ϛ cs r:=λr g=>ab r (Ϥ.mem_iff.mp g)
  show aj (ξ.of (sm<*ht)) (Ι (ω nd (Ι (ω nd (ao ?_)))));f_len;f_tup;lk;show#[c,cs,o.1,rfl,hC.same sm,λH5 D=>?_];rw[vh 0 G,alw];lk;show#[L,ϋ cs o.1,o.2,R,a,rfl,D<*Je,hA.imp λu r z=>(z.same D).row,(),λr g=>by have:=(Em r g).len;omega,ajy G Em,D<*(sm _ _ hP),λm pl H6 s6 af J aw=>?_];let vy:=(sm<|>D)<|>s6;let ax:H pl=none:=(sm<|>D).free af;show#[_,_,pl,dX R m,jt a m,rfl,vy,ax,aw,(K1 hA λi hi=>by rw[av];show pX J hi).imp λu r z=>?_,?_,(Ny J)<|>Ϥ]
  .show((z.same D).turn af).same s6
  .let U:os.drop (↥os-(i+1))=o::os.drop (↥os-i):=by
    let I:↥os-(i+1)<↥os:=()
    rw[show ↥ov-1-i=↥os-(i+1)by omega]at ho;rw[afy I];let e1:=ϳ I;rw[ho]at e1;cases e1;rw[show ↥os-(i+1)+1=↥os-i by omega]
   rw[U];show ajn (λo' ay=>by
    obtain rfl|h:=aaB.mp ay
    .show G
    .show aa _ (aey h)) Em hL J
 .let#[o4,o5,L,R,a,rfl,sm,ae,Je,hA,hL,Ϥ]:=B;symm;lk;rw[ah,arE,alI]at hL;show q L R a H' sm ae Je hA hL Ϥ
def lG(h:Ψ cs=true):1<=↥cs/\↥cs<=6:=by
 unfold Ψ at h;simp only[aaO,decide_eq_true_eq]at h;show h.1.1
inductive Wz(K:Ϩ):Sp
 |mk (a:δ) (ns:List Int) (k:Int) (b:δ) (cs:List ι):vs=[.ref a,.int k,.ref b]->η K H a (ns.map V.int)->↥ns<=63->0<=k->k<=40000->Χ H b cs->Ψ cs=true->(∀p os H',ζ H H'->H p=none->aL H' p os->↥os<=4->cU cs os->(os.map Prod.fst).Nodup->Q (.ref p) H')
def DQ:Def 2 "_law_order" ["_law_script","_law_k","_law_columns_here"] (Wz K):=by
 exists Yn,DQ,hr,#[a,ns,k,b,cs,rfl,Y,hl,hk0,hk1,#[vs,hb,D],hok,q],2,n1.qj,n2.bz,n3.BZ,1,D1 iC;let hvl:=D.len;let#[c1,c6]:=lG hok;let vf:η K H b vs:=η.of hb;k_go;show#[a,ns,k+1,_,rfl,Y,hl,(),(),(),?_];let a0:=aV ns (k+1) (m:=(↥vs:Int)) ();let a1:=bh ns (k+1) (m:=(↥vs:Int)) ();generalize ϒ ns (k+1) (↥vs:Int)=fs at a0 a1⊢;k_go;show#[Ε,λp Z=>?_];let#[R,ep,H,p,H0]:=Ο Z (.lst []);w_up;show pR (by walk_at"po") (by rfl) (by rfl) n1 (by rfl) ?_;let aqd:=R.seq vf;lk;show xY ?_;lk;let ab:∀x:Int,x=(if(↥vs:Int)+1<5 then(↥vs:Int)+1 else 5)->1<=x/\x<=5:=λx e=>by
  rw[e];split <;>omega
 generalize G:(if(↥vs:Int)+1<5 then(↥vs:Int)+1 else 5)=mm;let#[m1,m5]:=ab mm G.symm;show#[a,ns,k,mm,rfl,R.seq Y,hl,(),(),(),?_];let b0:=aV ns k (m:=mm) ();let b1:=bh ns k (m:=mm) ();generalize ϒ ns k mm=m at b0 b1⊢;lk;show#[(),(),λi σ H'=>(∃o1 o2,σ=[↑(.ref a),↑(.int k),↑(.ref b),↑(.int fs),↑(.ref p),o1,o2])/\ζ H H'/\∃os:List Ord,aL H' p os/\↥os=i/\cU cs os/\(os.map Prod.fst).Nodup/\∀o∈os,∃(f q:Nat),f<i/\(fs+(f:Int)) % (↥vs:Int)=(q:Int)/\(cs.map Prod.fst)[q]?=↑o.1,
  #[#[none,none,rfl],R,[],#[[],ep,.nil],rfl,λo ho=>by simp at ho,by simp,λo ho=>by simp at ho],λi σ H' hi hP=>?_,λσ H' hP=>?_]
 .let#[#[o1,o2,rfl],sm,os,#[ws,g,I],l,n,s,J]:=hP;let hwl:=I.len;let hi':(i:Int)<m:=()
  let ac:=sm.seq vf;show ω nd ?_;k_go;let e0:=ah8 (fs+(i:Int)) (show(↥vs:Int)≠0 by omega);let e1:=agT (fs+(i:Int)) (show(0:Int)<(↥vs:Int)by omega);let#[j,ej]:=abz e0;rw[ej]at e1⊢;let hj:j<↥cs:=()
  let v:cs[j]?=↑cs[j]:=ϳ hj;let IV:(cs.map Prod.fst)[j]?=↑cs[j].1:=by rw[abD,v];rfl
  let B:∀o∈os,¬o.1=cs[j].1:=λo ho e=>by
   let#[f,q,h1,h2,z]:=J o ho;rw[e, <-IV]at z;let ae:(cs.map Prod.fst).Nodup:=by
    unfold Ψ at hok;simp only[aaO,decide_eq_true_eq]at hok;show hok.2
   let L:j<↥(cs.map Prod.fst):=by rw[aaw];show hj
   let af:q<↥(cs.map Prod.fst):=by
    rw[ϳ L]at z;show(aav.mp z).1
   rw[ϳ L,ϳ af]at z;let ag:=(amx ae).mp (Option.some.inj z);let h5:(fs+(i:Int)) % (↥vs:Int)=(fs+(f:Int)) % (↥vs:Int):=by rw[ej,h2,ag]
   let h6:=Int.emod_eq_emod_iff_emod_sub_eq_zero.mp h5;rw[show fs+(i:Int)-(fs+(f:Int))=(i:Int)-f by omega,ape () (by
    have:mm<=(↥vs:Int)+1:=by rw[<-G];split <;>omega
    omega)]at h6
   omega
  let M:cs[j]∈cs:=afz hj;let#[cv,gc,t,rfl,ht]:=D.get' v;generalize cs[j]=cc at v M ht IV B;show ύ ac (ϔ gc) ?_>>=Β (ξ.of (sm<*ht)) (show Θ [V.str cc.1,V.str cc.2] 0=↑(V.str cc.1)from rfl) ?_;f_len;show aD (b7 F.plainAttrs_list F.slot_list_append F.type_list_append (h:=?_));f_are;show#[.inl #[rfl,_,η.of g],?_]>>=#[a,ns,_,2,rfl,sm.seq Y,hl,(),(),by decide,?_]>>=#[Ε,λtp O=>?_];generalize decide (V.int (ϒ ns (k+2+(i:Int)) 2)=V.int 0)=up at O⊢;let U:ζ H' (upd H' tp (.tup [.str cc.1,.bl up])):=ζ.upd O;let W:(upd H' tp (.tup [.str cc.1,.bl up])) tp=↑(.tup [.str cc.1,.bl up]):=ς;generalize upd H' tp (.tup [.str cc.1,.bl up])=H5 at U W⊢;lk;let WQ:H5 p=↑(.lst ws):=U _ _ g;show dH jz #[p,ws,_,rfl,rfl,WQ,(),?_]*>#[#[_,_,rfl],λd o e=>?_,os++[(cc.1,up)],#[ws++[.ref tp],ς,ρ.app (I.imp λu c x=>?_) (.cons ?_ .nil)],by simp[l],λo ho=>?_,?_,λo ho=>?_]
  .rw[θ (ό e Z)];show U<*(sm<*e)
  .let#[tq,rfl,hq]:=x;let B:tq≠p:=λe=>by subst e;rw[g]at hq;cases hq
   show#[tq,rfl,by rw[θ B];show U _ _ hq]
  .let B:tp≠p:=λe=>by subst e;rw[WQ]at W;cases W
   show#[tp,rfl,by rw[θ B];show W]
  .obtain ho|ho:=adH.mp ho
   .show n o ho
   .have :o=(cc.1,up):= ~~~ho
    subst this;show#[cc,M,rfl]
  .rw[aqK];show alW.mpr #[s,by simp,λx hx y hy e=>?_];let#[o,ho,rfl]:=abt.mp hx;have:y=cc.1:= ~~~hy
   show B o ho (by rw[e,this])
  .obtain ho|ho:=adH.mp ho
   .let#[f,q,h1,h2,z]:=J o ho;show#[f,q,(),h2,z]
   .have :o=(cc.1,up):= ~~~ho
    subst this;show#[i,j,(),ej,IV]
 .let#[#[o1,o2,rfl],sm,os,hO,l,n,s,_]:=hP;symm;lk;let hol':↥os=m.toNat:= ~~~l
  show q p os H' sm Z hO () n s
theorem Ue:∀{cs:List ι}{z:Str}{m:Nat}{c:ι},m<ϋ cs z->cs[m]?=↑c->¬c.1=z
 |[],_,_,_,h,_=>by simp[ϋ]at h
 |d::r,z,m,c,h,e=>by
  unfold ϋ at h;split at h
  .omega
  .rename_i hd;cases m with
   |zero=>simp at e;subst e;show hd
   |succ m=>show Ue (cs:=r) (m:=m) () (~~~e)
def ai8(h:∃c∈cs,c.1=z):(cs.map Prod.fst)[ϋ cs z]?=↑z:=by
 let#[c,e1,a]:=Hw h;rw[abD,e1, <-a];rfl
def acK(h:m<ϋ cs z)(e:(cs.map Prod.fst)[m]?=↑y):¬y=z:=by
 rw[abD]at e;cases e2:cs[m]? with
 |none=>rw[e2]at e;cases e
 |some c=>
  rw[e2]at e;let a:c.1=y:= ~~~e
  rw[<-a];show Ue h e2
inductive YX(K:Ϩ):Sp
 |mk (a b:δ) (v:V) (cs:List ι) (os:List Ord) (r:Row):vs=[.ref a,.ref b,v]->Χ H a cs->aL H b os->aO H v r->↥r.2=↥cs->↥cs<=1000->↥os<=1000->cU cs os->(∀p k H',ζ H H'->H p=none->H k=none->H' p=↑(.tup [.ref k,.int r.1])->H' k=↑(.lst (Ν cs os r.2))->Q (.ref p) H')
def v5:Def 1 "_law_key" ["_law_columns_here","_law_order_here","_law_one"] (YX K):=by
 exists Yd,v5,hr,#[a,b,v,cs,os,r,rfl,#[vs,ha,j],#[ws,hb,n],#[t,l,rfl,M,hv],cO,hcl,hol,U,q],2,1;let p8:(["_law_column"]:List Str).Nodup:=by fin2
 let wI:(["_law_name","_law_up","_law_names_here","_law_one"]:List Str).Nodup:=by fin2
 let W:=j.len;let Y:=n.len;w_up;f_tup;show jd ["_law_column"] (σ':=[none]) (bA (υ yJ)) ?_;f_are;show#[a,vs,rfl,η.of ha,(),λz=>∃B,z=[B],λG i u H'=>∃c,cs[i]?=↑c/\u=.str c.1,#[none,rfl],λG i u H2 H3 ys _ _ p=>p,λfp G C s3 H0 i z x H4 H3 aQ hi f Τ Z hG=>?_,λL H1 ys hL ϻ aa e1 O =>?_]
 .let#[B,rfl]:=f;let#[I,rfl]:=hG;let#[c,hc,t,rfl,M]:=j.get I;show ω p8 ?_>>=Β (ξ.of (Τ<*M)) (show Θ [V.str c.1,V.str c.2] 0=↑(V.str c.1)from rfl) ?_*>#[#[_,rfl],#[c,hc,rfl],ζ.refl _]
 let ey:=fJ (ys:=cs) (λc=>V.str c.1) (by rw[ϻ,W]) aa;let gJ:ys=(cs.map Prod.fst).map V.str:=by rw[ey,afm];rfl
 subst gJ;symm;show Hd (dw (by rfl) ?_)*>jd ["_law_name","_law_up","_law_names_here","_law_one"] (σ':=[none,none,↑(.ref L),↑(.ref t)]) (bA (υ yJ)) ?_;f_are;show#[b,ws,rfl,η.of (O<*hb),(),λz=>∃B o2,z=[B,o2,↑(.ref L),↑(.ref t)],λG i u H'=>∃o,os[i]?=↑o/\u=bY cs r.2 o.1,#[none,none,rfl],λG i u H2 H3 ys _ _ p=>p,λfp G C s3 H0 i z x H7 H8 aQ hi f R Z hG=>?_,λD H7 ys hD ab I e7 R=>?_]
 .let#[B,o2,rfl]:=f;let#[I,rfl]:=hG;let#[o,ho,tp,rfl,ac]:=n.get I;let J:=U o (aa0 ho);let hlt:=tM J;let g1:r.2[ϋ cs o.1]?=↑(bY cs r.2 o.1):=by
   let e:r.2[ϋ cs o.1]?=↑(r.2[ϋ cs o.1]'()):=ϳ _;unfold bY;rw[e];rfl
  let g:=O<|>R;let PL:=R _ _ e1;show aj (ξ.of (g<*ac)) (Ι (ω wI (Ι (ω wI (ao ?_)))));f_are;f_are;f_are;f_are;show Β (ξ.of (g<*M)) (show Θ [V.int r.1,V.ref l] 1=↑(V.ref l)from rfl) ?_*>b7 F.plainAttrs_list F.slot_list_index F.type_list_index (h:=?_);f_are;show#[.inl #[rfl,_,η.of PL],?_]>>=ab0 (η.of PL) (ai8 J) (λm y h e=>acK h e) ?_*>ύ (η.of (g<*hv)) (ϔ g1) ?_*>#[#[_,_,rfl],#[o,ho,rfl],ζ.refl _]
 let ey:=fJ (ys:=os) (λo=>bY cs r.2 o.1) (by rw[ab,Y]) I;let gJ:ys=Ν cs os r.2:=ey;subst gJ;let g:=O<|>R;lk;show Β (ξ.of (g<*M)) (show Θ [V.int r.1,V.ref l] 0=↑(V.int r.1)from rfl) ?_>>=#[Ε,λp hp=>?_];let s8:ζ H7 (upd H7 p (.tup [.ref D,.int r.1])):=ζ.upd hp;show q p D _ (g<|>s8) (g.free hp) (O.free hD) ς (s8<*e7)
inductive Vy:Sp
 |mk (b) (p) (q) (os) (xs) (ys) (n) (k):vs=[.ref b,.ref p,.ref q]->aL H b os->ju H p xs n->ju H q ys k->↥xs=↥os->↥ys=↥os->↥os<=4->(∀(i:Nat) x y,xs[i]?=↑x->ys[i]?=↑y->scalar x=true/\scalar y=true/\aJ x y)->(∀H',ζ H H'->Q (.bl (Ϟ os xs ys n k)) H')
def BK:Def 1 "_law_is_ahead" ["_law_order_here","_law_one","_law_other"] Vy:=by
 exists Ph,BK,hr,#[b,p,q,os,xs,ys,n,k,rfl,#[ws,hb,B],#[l,hp,hl],#[m,hq,hm],cO,D,hol,Jb,f],2,n1.qj,n2.bz,1;let hwl:=B.len;let u:η K H b ws:=η.of hb;w_up;show pR (by walk_at"po") (by rfl) (by rfl) n1 (by rfl) ?_>>=#[(),(),λi σ H'=>(∃L M O o4,σ=[↑(.ref b),↑(.ref p),↑(.ref q),L,M,O,o4])/\H'=H/\∀j x y,j<i->xs[j]?=↑x->ys[j]?=↑y->x=y,#[#[none,none,none,none,rfl],rfl,λj x y h=>()],λi σ H' hi R=>?_,λσ H' R=>?_]
 .let#[#[L,M,O,o4,rfl],rfl,a']:=R;let U:i<↥os:=()
  let W:os[i]?=↑os[i]:=ϳ U;let F:xs[i]?=↑(xs[i]'()):=ϳ _;let G:ys[i]?=↑(ys[i]'()):=ϳ _;generalize xs[i]'()=x at F;generalize ys[i]'()=y at G;let#[wv,v,t,rfl,g]:=B.get' W;let#[sx,J,I]:=Jb i x y F G;generalize os[i]=o at W g;show ω nd ?_;k_go;show Β (ξ.of hp) (show Θ [V.ref l,V.int n] 0=↑(V.ref l)from rfl) ?_>>=ύ (η.of hl) (ϔ F) ?_;k_go;show Β (ξ.of hq) (show Θ [V.ref m,V.int k] 0=↑(V.ref m)from rfl) ?_>>=ύ (η.of hm) (ϔ G) ?_;f_len;show Λ ?_>>=Hx (BL sx J) ?_>>=jw (λh=>?_) (λh=>?_)
  .let Ϲ:¬x=y:= ~~~h
   let Y:=Wb (n:=n) (k:=k) cO D W F G a' Ϲ;let s:∀c:Bool,c=before x y->decide (V.bl c=V.bl o.2)=Ϟ os xs ys n k:=λc Z=>by
    rw[Y,Z]
    congr 1
    show propext #[λz=>by injection z,λz=>by rw[z]]
   let fin:∀(c:Bool),c=before x y->Q (.bl (decide (V.bl c=V.bl o.2))) H':=λc Z=>by rw[s c Z];show f H' (ζ.refl _)
   cases x with
   |non=>
    cases y with
    |non=>show absurd rfl Ϲ
    |int j=>
     cbv;show ύ u (ϔ v) ?_;cbv;show Β (ξ.of g) (show Θ [V.str o.1,V.bl o.2] 1=↑(V.bl o.2)from rfl) ?_;cbv;show fin _ rfl
    |str z=>
     cbv;show ύ u (ϔ v) ?_;cbv;show Β (ξ.of g) (show Θ [V.str o.1,V.bl o.2] 1=↑(V.bl o.2)from rfl) ?_;cbv;show fin _ rfl
    |_=>show absurd J aaD
   |int i1=>
    cases y with
    |non=>
     cbv;show ύ u (ϔ v) ?_;cbv;show Β (ξ.of g) (show Θ [V.str o.1,V.bl o.2] 1=↑(V.bl o.2)from rfl) ?_;cbv;show fin _ rfl
    |int j=>
     cbv;show ύ u (ϔ v) ?_;cbv;show Β (ξ.of g) (show Θ [V.str o.1,V.bl o.2] 1=↑(V.bl o.2)from rfl) ?_;cbv;show fin _ rfl
    |str z=>obtain z|z|⟨_,_,_,z⟩|⟨_,_,z,_⟩:=I<;>cases z
    |_=>show absurd J aaD
   |str z1=>
    cases y with
    |non=>
     cbv;show ύ u (ϔ v) ?_;cbv;show Β (ξ.of g) (show Θ [V.str o.1,V.bl o.2] 1=↑(V.bl o.2)from rfl) ?_;cbv;show fin _ rfl
    |int j=>obtain z|z|⟨_,_,z,_⟩|⟨_,_,_,z⟩:=I<;>cases z
    |str z=>
     cbv;show ύ u (ϔ v) ?_;cbv;show Β (ξ.of g) (show Θ [V.str o.1,V.bl o.2] 1=↑(V.bl o.2)from rfl) ?_;cbv;show fin _ rfl
    |_=>show absurd J aaD
   |_=>show absurd sx aaD
  .let he:x=y:= ~~~h
   show Δ #[#[_,_,_,_,rfl],rfl,λj x' y' hj e1 s=>?_];by_cases e:j=i
   .subst e;rw[F]at e1;rw[G]at s;cases e1;cases s;show he
   .show a' j x' y' () e1 s
 .let#[#[L,M,O,o4,rfl],rfl,a']:=R;symm;lk;show Β (ξ.of hp) (show Θ [V.ref l,V.int n] 1=↑(V.int n)from rfl) ?_>>=Β (ξ.of hq) (show Θ [V.ref m,V.int k] 1=↑(V.int k)from rfl) ?_;lk;rw[<-Ov (n:=n) (k:=k) cO D λj x y hj e1 s=>a' j x y (by simp;omega) e1 s];show f _ (ζ.refl _)
def aP(B:Bk)(row:Int)(o:Option (List V)):Bk:=
 {B with rows:=(match o with|none=>dC B.rows row|some xs=>bx B.rows row xs),touched:=(match o with|none=>dC B.touched row|some _=>bx B.touched row (B.now+1)),
         done:=B.done++[#[B.now+1,row,Μ B.rows row,o]],now:=B.now+1}
def tu(B:Bk):Prop:=↥B.rows<1000000/\↥B.touched<1000000/\↥B.done<1000000
def nY(B:Bk):=∀i,Μ B.rows i=none↔ Μ B.touched i=none
abbrev cB(mg:MG):δ:=ο mg "Book"
inductive mX(mg:MG):Sp
 |mk (A:BA) (B:Bk) (row:Int) (v:V) (o:Option (List V)):vs=[.ref A.b,.int row,v]->Ρ (cB mg) H A B->lY H v o->(o=none->Μ B.rows row≠none/\ Μ B.touched row≠none)->tu B->(∀H',Out A.fp H H'->Ρ (cB mg) H' A (aP B row o)->Q (.int (B.now+1)) H')
def FQ:FD 1 "do" "Book.do" zy ["self","row","values"] (mX mg):=by
 show bF (S:=Xp) (λf Ϻ A' outer s H vs Q E hr h=>?_);intro X _;let#[A,B,row,v,o,rfl,m,Y,Z,#[z1,z2,z3],q]:=h;let nd:=Xp.nd;let hsz:=ϯ;let g:=T.aF;let a1:=T.wG;let a2:=T.Wr;let a3:=T.CN;let L:=T.Aw;let hu:_+1<cLine:=aet (agC (by decide:1<=64) _) hr.units;let kR:=m.rows;let#[Ϸ,er,hR]:=id kR;let#[tvs,et,hT]:=m.touched;let#[ds,ed,hD]:=m.done;let kI:=m.ins;w_up;f_tup;show ah5 hu (by constructor<;>rfl) ?_*>aN ?_;f_are;show#[A.b,_,_,_,_,rfl,kI,g,a1,rfl,A.r,rfl,.inl #[_,.inl er],?_];f_are;show#[_,aq.k (k:=Sum.inl row) er,?_];let hw:lY H ((aA Ϸ (Sum.inl row)).getD .non) (Μ B.rows row):=by
  obtain⟨e1,i⟩|⟨u,x,e1,i,r⟩:=jP hR row
  .rw[e1,i];rfl
  .rw[e1,i];show r
 generalize(aA Ϸ (Sum.inl row)).getD .non=M at hw⊢;w_up;show alM ?_;f_are;show#[A.b,_,_,_,_,rfl,kI,g,L,rfl,?_];f_are;show#[_,_,rfl,rfl,_,_,kI,by show 6<1000;decide,?_];let k1:=m.Dk B.known (B.now+1);let O:Out A.fp H _:=Out.upd (H:=H) (a:=A.b) (o:=.ins (cB mg) A.dx [("heads",.ref A.h),("rows",.ref A.r),("touched",.ref A.t),("done",.ref A.d),("known",.int B.known),("now",.int (B.now+1))]) (by simp[BA.fp]);change Η _ _ _ _ (upd H A.b (.ins (cB mg) A.dx [("heads",.ref A.h),("rows",.ref A.r),("touched",.ref A.t),("done",.ref A.d),("known",.int B.known),("now",.int (B.now+1))]));generalize upd H A.b _=H1 at k1 O⊢;let my:=k1.ins;let fin:∀(H2:Hp)(n:Bk),Out A.fp H H2->Ρ (cB mg) H2 A n->n={aP B row o with done:=B.done}->Η X ((ϓ zy).drop 3) {nx:=λ_ H'=>Q .non H',rt:=Q} [↑(.ref A.b),↑(.int row),↑v,↑M] H2:=by
  intro H2 n j k2 i;let p:n.now=B.now+1/\n.done=B.done:=by rw[i];show#[rfl,rfl]
  let l:=k2.ins;let#[M4,yN,y]:=k2.done;let st:=m.tup j;let ab:=hw.stay st;let Jr:=Y.stay st;let ϻ:=y.len;rw[p.2]at ϻ y;rw[p.1]at l;w_up;show aD (b7 F.plainAttrs_list F.slot_list_append F.type_list_append (h:=?_))*>aN ?_;f_are;show#[A.b,_,_,_,_,rfl,l,g,a3,rfl,.inl #[rfl,_,η.of yN],?_];cbv;show aN ?_;f_are;show#[A.b,_,_,_,_,rfl,l,g,L,rfl,?_];cbv;show#[Ε,λt ht=>?_];let#[z,D,H2,t,G]:=Ο ht (.tup [.int (B.now+1),.int row,M,v]);let k3:=k2.same z;cbv;show dH jz #[A.d,_,_,rfl,rfl,z<*yN,(),?_];let wZ:ρ (lB G) (M4++[V.ref t]) (B.done++[#[B.now+1,row,Μ B.rows row,o]]):=ρ.app (ρ.imp (λv d h=>h.stay λb ys e=>z _ _ e) y) (.cons #[t,M,v,rfl,D,ab.stay λb ys e=>z _ _ e,Jr.stay λb ys e=>z _ _ e] .nil);let R:=k3.aeC wZ;let o4:Out A.fp H _:=(j<|>(Out.of z))<|>(Out.upd (H:=G) (a:=A.d) (o:=.lst (M4++[V.ref t])) (by simp[BA.fp]));generalize upd G A.d _=H4 at R o4⊢;let ac:=R.ins;symm;show aN ?_;f_are;show#[A.b,_,_,_,_,rfl,ac,g,L,rfl,?_];let e4:{n with done:=B.done++[#[B.now+1,row,Μ B.rows row,o]]}=aP B row o:=by rw[i];rfl
  rw[e4]at R;have:=q H4 o4 R;show Q (.int n.now) H4;rw[p.1];show this
 let#[U,oO,W]:=k1.rows;let#[apD,et1,ae]:=k1.touched;let af:=W.len;let htl:=ae.len;let z1':↥U<1000000:=by rw[af];show z1
 cases o with
 |none=>
  let ag:v=.non:=Y;subst ag;let#[g1,g2]:=Z rfl;w_up;cbv;show Av ?_*>aN ?_;f_are;obtain⟨_,i⟩|⟨u,x,e1,_,_⟩:=jP W row
  .show absurd i g1
  show#[A.b,_,_,_,_,rfl,my,g,a1,rfl,A.r,rfl,.inl #[_,.inl oO],?_];f_are;show#[U,Sum.inl row,u,oO,rfl,e1,?_];let k2:=k1.qZ (yf W row);let j:Out A.fp H _:=O<|>(Out.upd (H:=H1) (a:=A.r) (o:=.dK (gf U (Sum.inl row))) (by simp[BA.fp]));generalize upd H1 A.r _=H2 at k2 j⊢;let l:=k2.ins;let#[I,D,c]:=k2.touched;f_len;show aD (Av ?_)*>aN ?_;f_are;obtain⟨_,i⟩|⟨u2,x2,e3,_,_⟩:=jP c row
  .show absurd i g2
  show#[A.b,_,_,_,_,rfl,l,g,a2,rfl,A.t,rfl,.inl #[_,.inl D],?_];f_are;show#[I,Sum.inl row,u2,D,rfl,e3,?_];let k3:=k2.ZJ (yf c row);let J:Out A.fp H _:=j<|>(Out.upd (H:=H2) (a:=A.t) (o:=.dK (gf I (Sum.inl row))) (by simp[BA.fp]));generalize upd H2 A.t _=G at k3 J⊢;show fin G _ J k3 rfl
 |some xs=>
  let#[t,rfl,ht]:=id Y;w_up;cbv;show jr hu ?_;f_are;show aN ?_;f_are;show#[A.b,_,_,_,_,rfl,my,g,a1,rfl,?_];f_are;show#[A.r,_,rfl,dW.k (k:=Sum.inl row) oO (),?_];let k2:=k1.qZ (nA W row (v:=.ref t) (x:=xs) #[t,rfl,m.tup O _ _ ht]);let j:Out A.fp H _:=O<|>(Out.upd (H:=H1) (a:=A.r) (o:=.dK (putK U (Sum.inl row) (.ref t))) (by simp[BA.fp]));generalize upd H1 A.r _=H2 at k2 j⊢;let l:=k2.ins;let#[I,D,c]:=k2.touched;let z2':↥I<1000000:=by rw[c.len];show z2
  f_len;show jr hu ?_*>aN ?_;f_are;show#[A.b,_,_,_,_,rfl,l,g,L,rfl,?_]*>aN ?_;f_are;show#[A.b,_,_,_,_,rfl,l,g,a2,rfl,?_];f_are;show#[A.t,_,rfl,dW.k (k:=Sum.inl row) D (),?_];let k3:=k2.ZJ (nA c row (v:=.int (B.now+1)) (x:=B.now+1) rfl);let J:Out A.fp H _:=j.trans (Out.upd (H:=H2) (a:=A.t) (o:=.dK (putK I (Sum.inl row) (.int (B.now+1)))) (by simp[BA.fp]));generalize upd H2 A.t _=G at k3 J⊢;show fin G _ J k3 rfl
def vU:Def 1 "is_whole" ["value"] Tg:=by
 exists ["value"],vU,a,#[v,rfl,hs,q],n1.zU,n2.zu,c.ajz;symm;cases v with
 |non=>
  cbv;show q
 |int i=>
  cbv;show q
 |str z=>
  cbv;show q
 |_=>cases hs
def J9:Def 2 "is_number_value" ["value"] RV:=by
 exists ["value"],J9,a,#[v,rfl,hs,q],c.Xq,f vU;symm;cbv;show#[v,rfl,hs,?_];cbv;cases v with
 |int i=>
  show jw (λ_=>?_) (λh=>by cases h);cbv;show Α (λh=>?_) (λh=>?_)
  .cbv;let e:isNum (.int i)=decide (i<=1000000000000000000):=by unfold isNum;simp[h]
   rw[e]at q;show q
  .let e:isNum (.int i)=false:=by unfold isNum;simp[h]
   rw[e]at q;show q
 |non=>show jw (λh=>by cases h) (λ_=>q)
 |str z=>show jw (λh=>by cases h) (λ_=>q)
 |_=>cases hs
def HF:Def 3 "is_value" ["kind","value"] abH:=by
 exists ["kind","value"],HF,g,#[k,v,rfl,hs,f,q],i.Dm,j J9,l Ay;w_up;cbv;show Α (λh=>?_) (λh=>?_)
 .subst h;cbv;show q H (ζ.refl _)
 .cbv;let a:isVal k v=if k="number" then isNum v else jh v:=by cases v<;>first|rfl|show absurd rfl h
  show Α (λh2=>?_) (λh2=>?_)
  .let c:k="number":=by cases h2;rfl
   rw[if_pos c]at a;rw[a]at q;cbv;show#[v,rfl,hs,q H (ζ.refl _)]
  .let c:¬k="number":=λe=>h2 (by rw[e])
   rw[if_neg c]at a;rw[a]at q;cbv;show#[v,rfl,hs,f,q]
def Jh:Def 2 "is_name" ["name"] Ni:=by
 exists ["name"],Jh,c,#[z,rfl,a,q],n1.bz,e.als,f.aic,1,g xg;symm;cbv;unfold isName at q;show Α (λh=>?_) (λh=>?_)
 .cbv;show Α (λh2=>?_) (λh2=>?_)
  .cbv;rw[decide_eq_true (show 1<=↥z/\↥z<=8 by omega)]at q;show#[z,_,rfl,a,q]
  .rw[decide_eq_false (show ¬(1<=↥z/\↥z<=8)by omega)]at q;show q H (ζ.refl _)
 .rw[decide_eq_false (show ¬(1<=↥z/\↥z<=8)by omega)]at q;cbv;show q H (ζ.refl _)
def aip(k a b:Str):jg (.str k) [.str a,.str b]=decide (k=a\/k=b):=by
 let e:∀a:Str,(a==k)=decide (k=a):=λa=>by rw[ags,beq_iff_eq,decide_eq_true_iff];show eq_comm
 show((a==k)||((b==k)||false))=_;rw[e,e,ar3,at4]
def Ir:Def 3 "ask_columns" ["columns"] (yP (.ref (ο mg "NoColumns"))):=by
 exists P0,Ir,hr,#[a,cs,rfl,#[vs,ha,f],Z,D,q],n1.bz,n2.Zh,g1.aoK,g2.Dm,g3.aaA,2,1;let sa:η K H a vs:=.inl (.inl ha);let j5:=f.len;let D1:=!Jh;let O:(["name","kind"]:List Str).Nodup:=by fin2
 let hok:Ψ cs=true:=by
  cases e:Ψ cs with
  |true=>rfl
  |false=>
   have:=q H (ζ.refl _);rw[e]at this;show this.elim
 rw[hok]at q;unfold Ψ at hok;rw[aaO,aaO,decide_eq_true_eq,acL,decide_eq_true_eq]at hok;let#[#[hl6,n],F]:=hok;w_up;cbv;show Α (λh1=>?_) (λh1=>absurd h1 ());cbv;show jA (λh2=>absurd h2 ()) (λh2=>?_)*>Δ ?_;w_up;show Bw (by walk_at"po") (by rfl) (by intro _;rfl) ?_;cbv;show#[a,vs,rfl,sa,λi σ H'=>(∃l m G,σ=[↑(.ref a),l,m,G])/\ζ H H',#[#[none,none,none,rfl],ζ.refl _],λi σ H' hi s=>.inl (.inl (s.2<*ha)),λi x σ H' v s=>?_,λσ H' s=>?_]
 .let#[#[l,m,G,rfl],sm]:=s;let#[c,I,t,rfl,J]:=f.get v;let y:=aa0 I;let L:=D c y;let g:=n c y;rw[aaO]at g;show aj (ξ.of (sm<*J)) (Ι (ω nd (Ι (ω nd (ao ?_)))));w_up;cbv;show#[c.1,rfl,L.1,λH2 z =>?_];rw[g.1];cbv;let j:=sm<|>z;show#[Ε,λp hp=>?_];let Τ :=j<|>(ζ.upd (o:=.tup [.str "number",.str "text"]) hp);show aa4 (ξ.of ς) ?_;rw[show jg (.str c.2) [.str "number",.str "text"]=oU c.2 from aip _ _ _,g.2];cbv;show#[#[_,_,_,rfl],Τ]
 .let#[#[l,m,G,rfl],sm]:=s;w_up;show wM ["name","kind"] (σ':=[none,none]) (bA (υ DW)) nd ?_;cbv;show#[a,vs,rfl,.inl (.inl (sm<*ha)),(),λR=>∃l m,R=[l,m],λE' i u H'=>∃c,cs[i]?=↑c/\u=.str c.1,#[none,none,rfl],λE' i u H2 H3 ys _ _ p=>p,λfp E' C s3 H0 i R x H2 H3 hE hi M z hys hG=>?_,λE' H2 ys hE hl v U z =>?_]
  .let#[l,m,rfl]:=M;let#[v,rfl]:=hG;let#[c,I,t,rfl,J]:=f.get v;show aj (ξ.of (z<*(sm _ _ J))) (Ι (ω O (Ι (ω O (ao ?_)))));cbv;show#[#[_,_,rfl],#[c,I,rfl],ζ.refl _]
  .let ey:=fJ (ys:=cs) (λc=>V.str c.1) (by rw[hl,j5]) v;let gJ:ys=(cs.map Prod.fst).map V.str:=by rw[ey,afm];rfl
   subst gJ;let B:↥(cs.map Prod.fst)<=4000:=by simp;omega
   let j:=sm<|>z;f_len;cbv;show O1 (by rfl) (η.of U) B λS W=>?_
   cbv;show aa8 ς B ?_;cbv;show uB (.inl (η.of ((ζ.upd W)<*U))) ?_;cbv;show jA (λY=>(Y ?_).elim) (λY=>?_)
   .rw[(JL _ (cs.map Prod.fst) rfl).mpr F];simp
   .show Δ (q _ (j<|>(ζ.upd W)))
def HR:Def 2 "is_row_number" ["row"] aa9:=by
 exists ["row"],HR,c,#[v,rfl,a,q],e.aam,f vU;symm;cbv;show#[v,rfl,a,?_];cases v with
 |int i=>
  change Q (.bl (decide (0<=i/\i<=1000000000))) H at q;rw[show ud (V.int i)=true from rfl];cbv;show Α (λh=>?_) (λh=>?_)
  .cbv;rw[show decide (0<=i/\i<=1000000000)=decide (i<=1000000000)from by rw[decide_eq_decide];omega]at q;show q
  .cbv;rw[decide_eq_false (show ¬(0<=i/\i<=1000000000)by omega)]at q;show q
 |non=>
  rw[show ud V.non=false from rfl];cbv;show q
 |str z=>
  rw[show ud (V.str z)=false from rfl];cbv;show q
 |_=>cases a
theorem Pg:∀{cs:List ι}{xs:List V}{bs:List Bool},↥xs=↥cs->↥bs=↥cs->(∀(i:Nat)(b:Bool),bs[i]?=↑b->∃c x,cs[i]?=↑c/\xs[i]?=↑x/\b=isVal c.2 x)->bs.all id=qx cs xs
 |[],[],[],_,_,_=>rfl
 |c::cs,x::xs,b::bs,h1,h2,h=>by
  let#[g,j,e1,a,f]:=h 0 b rfl;cases e1;cases a;rw[asD];unfold qx;rw[Pg (~~~h1) (~~~h2) λi b e=>~~~h (i+1) b (~~~e)];rw[f];rfl
 |[],_::_,_,h1,_,_=>by simp at h1
 |_::_,[],_,h1,_,_=>by simp at h1
 |[],[],_::_,_,h2,_=>by simp at h2
 |_::_,_::_,[],_,h2,_=>by simp at h2
theorem O7:∀{xs:List V},(∀(i:Nat) v,xs[i]?=↑v->∃b,v=.bl b)->∃bs:List Bool,xs=bs.map V.bl
 |[],_=>#[[],rfl]
 |x::xs,h=>by
  let#[b,rfl]:=h 0 x rfl;let#[bs,rfl]:=O7 (xs:=xs) λi v e=>h (i+1) v (~~~e)
  show#[b::bs,rfl]
def GD:Def 4 "is_row" ["columns","row","values"] YB:=by
 exists Wl,GD,hr,#[a,cs,v,b,xs,rfl,#[vs,ha,f],O,R,B,m,q],n1.bz,n2.VB,U.JF,1,2;let sa:η K H a vs:=.inl (.inl ha);let sb:η K H b xs:=.inl (.inl B);let W:=f.len;let D1:=!HR;let D2:=!HF;let D:(["column","value"]:List Str).Nodup:=by fin2
 unfold yU at q;w_up;cbv;show#[v,rfl,R,?_];cbv;show agd (λh1=>?_) (λh1=>?_)
 .rw[h1,apq,apq]at q;cbv;show q H (ζ.refl _)
 .rw[h1,amk]at q;cbv;show jA (λh2=>?_) (λh2=>?_)
  .let j:¬↥xs=↥cs:=λe=>h2 (by rw[W,e])
   rw[decide_eq_false j,apq]at q;cbv;show q H (ζ.refl _)
  .let j:↥xs=↥cs:=by
    have:(↥xs:Int)=↥vs:=by injection h2
    omega
   rw[decide_eq_true j,amk]at q;show Δ ?_;symm;f_are;f_are;show NQ ["column","value"] (σ':=[none,none]) (bA (υ Jk)) U ?_;cbv;show#[a,b,vs,xs,rfl,rfl,ha,B,(),λF=>∃G I,F=[G,I],λE' i u H'=>∃c x,cs[i]?=↑c/\xs[i]?=↑x/\u=.bl (isVal c.2 x),#[none,none,rfl],λE' i u H2 Y ys _ _ p=>p,λfp E' C s3 H0 i F x H2 Y Z hi n sm hys hG=>?_,λE' H2 ys Z hl J s sm=>?_]
   .let#[G,I,rfl]:=n;let#[l,y,u,rfl,hT,rfl,hy,L]:=hG;let#[c,hc,t,rfl,ht]:=f.get hy;let z :ζ H2 (upd H2 l (.tup [.ref t,u])):=ζ.upd hT;let M:(upd H2 l (.tup [.ref t,u])) l=↑(.tup [.ref t,u]):=ς;generalize upd H2 l (.tup [.ref t,u])=H4 at z M⊢;show aj (ξ.of M) (Ι (ω D (Ι (ω D (ao ?_)))));cbv;show Β (ξ.of (z<*(sm _ _ ht))) (show Θ [V.str c.1,V.str c.2] 1=↑(V.str c.2)from rfl) ?_;cbv;let g:=m u (aa0 L);show#[c.2,u,rfl,g.1,g.2,λH5 dB=>#[#[_,_,rfl],#[c,u,hc,L,rfl],z<|>dB]]
   .let#[bs,rfl]:=O7 λi v e=>by
     let#[c,x,_,_,e]:=J i v e;show#[_,e]
    let Xy:↥bs=↥cs:=by rw[aaw]at hl;omega
    let eb:bs.all id=qx cs xs:=Pg j Xy λi b e=>by
     let#[c,x,e1,s,e3]:=J i (.bl b) (by rw[abD,e];rfl);show#[c,x,e1,s,by injection e3]
    cbv;show RN (by rfl) (η.of s) ?_;rw[eb];show q _ sm
def wu(cs:List ι)(row:Int)(xs:List V):Prop:=0<=row/\row<=1000000000/\ρ (λc x=>ϖ c.2 x) cs xs
def Gq:∀c∈SG,c∈vW.cps.toList:=by fin2
def ϖ.is(h:ϖ a v):isVal a v=true/\scalar v=true/\short v:=by
 obtain rfl|⟨h1,i,rfl,h2,e⟩|⟨h1,z,rfl,h2,e⟩:=h
 .show#[rfl,rfl,trivial]
 .show#[?_,rfl,trivial];show(if a="number" then isNum (.int i)else jh (.int i))=true;rw[if_pos h1];show decide_eq_true #[h2,e]
 .show#[?_,rfl,by show ↥z<=4000;omega];show(if a="number" then isNum (.str z)else jh (.str z))=true;rw[if_neg h1];show(decide (↥z<=20)&&eV z _)=true;rw[decide_eq_true h2,amk];show acL.mpr λc f=>decide_eq_true (Gq c (e c f))
def aae(h:ρ (λ(c:ι) x=>ϖ c.2 x) cs xs):qx cs xs=true/\∀x∈xs,scalar x=true/\short x:=by
 induction h with
 |nil=>show#[rfl,λx a=>by simp at a]
 |cons h _ f=>
  show#[?_,λx a=>?_]
  .show(isVal _ _&&qx _ _)=true;rw[h.is.1,f.1];rfl
  .obtain e|e:=aaB.mp a
   .rw[e];show h.is.2
   .show f.2 x e
def wu.ok(h:wu cs row xs):yU cs (.int row) xs=true:=by
 unfold yU;rw[(aae h.2.2).1,decide_eq_true h.2.2.len.symm];show(decide (0<=row/\row<=1000000000)&&true&&true)=true;rw[decide_eq_true #[h.1,h.2.1]];rfl
inductive qR(mg:MG):Sp
 |mk (A:BA) (B:Bk) (row:Int) (b:δ) (xs:List V):vs=[.ref A.b,.int row,.ref b]->Ρ (cB mg) H A B->H b=↑(.lst xs)->↥B.heads<=6->wu B.heads row xs->(∀H',ζ H H'->Q .non H')
def Um:FD 5 "ask_row" "Book.ask_row" X3 ["self","row","values"] (qR mg):=by
 show bF (N:=["self","row","values"]) (λf l A' outer s H vs Q E m h=>?_);intro X _;let#[A,B,row,b,xs,rfl,a,e,n,c,q]:=h;let p:=!GD;let g:=T.aF;let i:=T.GC;let j:=a.ins;f_len;cbv;show aN ?_;f_are;show#[A.b,_,_,_,_,rfl,j,g,i,rfl,?_];cbv;show#[A.h,B.heads,.int row,b,xs,rfl,a.heads,(),rfl,e,(aae c.2.2).2,λH' sm=>?_];rw[c.ok];cbv;show q H' sm
inductive qL(mg:MG):Sp
 |mk (A:BA) (B:Bk) (row:Int):vs=[.ref A.b,.int row]->Ρ (cB mg) H A B->0<=row->row<=1000000000->(Μ B.rows row=none->False)->(Μ B.rows row≠none->Q .non H)
def RX:FD 3 "ask_there" "Book.ask_there" abh ["self","row"] (qL mg):=by
 show bF (N:=["self","row"]) (λf v A' outer s H vs Q E g h=>?_);intro X _;let#[A,B,row,rfl,e,y,r1,a,q]:=h;let i:=T.aF;let j:=T.wG;let l:=e.ins;let m:_+1<cLine:=aet (agC (by decide:1<=64) _) g.units;let#[Ϸ,n,p]:=e.rows;f_len;cbv;show aN ?_;f_are;show#[A.b,_,_,_,_,rfl,l,i,j,rfl,?_]*>aiM m (aq.k (k:=Sum.inl row) n) ?_;obtain⟨e1,c⟩|⟨u,x,e1,c,_⟩:=jP p row
 .rw[show(aA Ϸ (Sum.inl row)).isSome=false by rw[e1];rfl,Bool.not_false];show(a c).elim
 .rw[show(aA Ϸ (Sum.inl row)).isSome=true by rw[e1];rfl,Bool.not_true];cbv;show q (by rw[c];simp)
inductive tW(mg:MG):Sp
 |mk (A:BA) (B:Bk) (row:Int) (b:δ) (xs:List V):vs=[.ref A.b,.int row,.ref b]->Ρ (cB mg) H A B->H b=↑(.lst xs)->↥B.heads<=6->wu B.heads row xs->tu B->(Μ B.rows row≠none->False)->(Μ B.rows row=none->∀H',Out A.fp H H'->Ρ (cB mg) H' A (aP B row ↑xs)->Q (.int (B.now+1)) H')
theorem abn(h:η X.K H p ys)(g:∀l,H l=none->Q (.ref l) (upd H l (.tup ys))):CL X (.type "tuple") [.ref p] H Q:=dZ aiY #[p,ys,rfl,.inl #[h,g]]
def Nv:FD 6 "put" "Book.put" WN ["self","row","values"] (tW mg):=by
 show bF (N:=["self","row","values"]) (λf R A' outer s H vs Q E a h=>?_);intro X _;let#[A,B,row,b,xs,rfl,c,n,y,z,g,i,q]:=h;let M1:aK P w K mg base true 5 (cB mg) "ask_row" ["self","row","values"] (qR mg):=(Um T).meth T.aF T.MN;let M2:aK P w K mg base true 1 (cB mg) "do" ["self","row","values"] (mX mg):=(FQ T).meth T.aF T.Gi;let D:=T.aF;let n1:=T.Wu;let F:=T.wG;let G:_+1<cLine:=aet (agC (by decide:1<=64) _) a.units;w_up;show aD ?_*>cX (pl:=_) a Ϝ (h:=?_);f_are;show#[A.b,cB mg,A.dx,_,true,5,_,qR mg,rfl,c.ins,by rfl,M1,by decide,id,?_];cbv;show#[A,B,row,b,xs,rfl,c,n,y,z,λH1 sm=>?_];let k1:=c.same sm;let p:=k1.ins;let j:=sm _ _ n;let#[Ϸ,I,J]:=k1.rows;w_up;cbv;show aN ?_;f_are;show#[A.b,_,_,_,_,rfl,p,D,F,rfl,?_]*>Jv G (aq.k (k:=Sum.inl row) I) ?_;obtain⟨e1,l⟩|⟨u,x,e1,l,_⟩:=jP J row
 .rw[show(aA Ϸ (Sum.inl row)).isSome=false by rw[e1];rfl];cbv;show cX (pl:=_) a Ϝ (h:=?_);f_are;show#[A.b,cB mg,A.dx,_,true,1,_,mX mg,rfl,p,by rfl,M2,by decide,id,?_];cbv;show abn (η.of j) λt L=>?_
  let#[m,v,H1,t,H2]:=Ο L (.tup xs);cbv;show#[A,B,row,.ref t,↑xs,rfl,k1.same m,#[t,rfl,v],(λe=>by cases e),g,λM O k3=>?_]*>q l M ((Out.of (sm<|>m))<|>O) k3
 .rw[show(aA Ϸ (Sum.inl row)).isSome=true by rw[e1];rfl];show(i (by rw[l];simp)).elim
inductive yD(mg:MG):Sp
 |mk (A:BA) (B:Bk) (row:Int) (b:δ) (xs:List V):vs=[.ref A.b,.int row,.ref b]->Ρ (cB mg) H A B->H b=↑(.lst xs)->↥B.heads<=6->wu B.heads row xs->tu B->(Μ B.rows row=none->False)->(Μ B.rows row≠none->∀H',Out A.fp H H'->Ρ (cB mg) H' A (aP B row ↑xs)->Q (.int (B.now+1)) H')
def aiN:FD 6 "change" "Book.change" Oa ["self","row","values"] (yD mg):=by
 show bF (N:=["self","row","values"]) (λf G A' outer s H vs Q E a h=>?_);intro X _;let#[A,B,row,b,xs,rfl,c,p,x,g,i,j,q]:=h;let M1:aK P w K mg base true 5 (cB mg) "ask_row" ["self","row","values"] (qR mg):=(Um T).meth T.aF T.MN;let M2:aK P w K mg base true 1 (cB mg) "do" ["self","row","values"] (mX mg):=(FQ T).meth T.aF T.Gi;let y:aK P w K mg base true 3 (cB mg) "ask_there" ["self","row"] (qL mg):=(RX T).meth T.aF T.Pr;let I:=T.aF;let n1:=T.Wu;w_up;show aD ?_*>cX (pl:=_) a Ϝ (h:=?_);f_are;show#[A.b,cB mg,A.dx,_,true,5,_,qR mg,rfl,c.ins,by rfl,M1,by decide,id,?_];cbv;show#[A,B,row,b,xs,rfl,c,p,x,g,λH1 sm=>?_];let k1:=c.same sm;let u:=k1.ins;let l:=sm _ _ p;w_up;show aD ?_*>cX (pl:=_) a Ϝ (h:=?_);f_are;show#[A.b,cB mg,A.dx,_,true,3,_,qL mg,rfl,u,by rfl,y,by decide,id,?_];cbv;show#[A,B,row,rfl,k1,g.1,g.2.1,λm=>j m,λm=>?_];symm;show cX (pl:=_) a Ϝ (h:=?_);f_are;show#[A.b,cB mg,A.dx,_,true,1,_,mX mg,rfl,u,by rfl,M2,by decide,id,?_];cbv;show abn (η.of l) λt z=>?_
 let#[n,v,H1,t,H2]:=Ο z (.tup xs);cbv;show#[A,B,row,.ref t,↑xs,rfl,k1.same n,#[t,rfl,v],(λe=>by cases e),i,λD F k3=>?_]*>q m D ((Out.of (sm<|>n))<|>F) k3
inductive CT(mg:MG):Sp
 |mk (A:BA) (B:Bk) (row:Int):vs=[.ref A.b,.int row]->Ρ (cB mg) H A B->0<=row->row<=1000000000->tu B->nY B->(Μ B.rows row=none->False)->(Μ B.rows row≠none->∀H',Out A.fp H H'->Ρ (cB mg) H' A (aP B row none)->Q (.int (B.now+1)) H')
def abQ:FD 4 "take" "Book.take" Qy ["self","row"] (CT mg):=by
 show bF (N:=["self","row"]) (λf n A' outer s H vs Q E j h=>?_);intro X _;let#[A,B,row,rfl,a,l,r1,c,e,g,q]:=h;let M2:aK P w K mg base true 1 (cB mg) "do" ["self","row","values"] (mX mg):=(FQ T).meth T.aF T.Gi;let m:aK P w K mg base true 3 (cB mg) "ask_there" ["self","row"] (qL mg):=(RX T).meth T.aF T.Pr;w_up;show aD ?_*>cX (pl:=_) j Ϝ (h:=?_);f_are;show#[A.b,cB mg,A.dx,_,true,3,_,qL mg,rfl,a.ins,by rfl,m,by decide,id,?_];cbv;show#[A,B,row,rfl,a,l,r1,g,λi=>?_];symm;show cX (pl:=_) j Ϝ (h:=?_);f_are;show#[A.b,cB mg,A.dx,_,true,1,_,mX mg,rfl,a.ins,by rfl,M2,by decide,id,?_];cbv;show#[A,B,row,.non,none,rfl,a,rfl,λ_=>#[i,λz=>i ((e row).mpr z)],c,q i]
inductive uq(mg:MG)(g:Bk->Int):Sp
 |mk (A:BA) (B:Bk):vs=[.ref A.b]->Ρ (cB mg) H A B->Q (.int (g B)) H
def Mv:FD 1 "moment" "Book.moment" Wn ["self"] (uq mg Bk.now):=by
 show bF (N:=["self"]) (λf e A' outer s H vs Q E g h=>?_);intro X _;let#[A,B,rfl,a,q]:=h;let c:=T.aF;f_len;show ψ (aN ?_);f_are;show#[A.b,_,_,_,_,rfl,a.ins,c,T.Aw,rfl,q]
inductive mO(mg:MG):Sp
 |mk (A:BA) (B:Bk):vs=[.ref A.b]->Ρ (cB mg) H A B->(∀p H',ζ H H'->H p=none->Χ H' p B.heads->Q (.ref p) H')
def Eh:FD 1 "columns" "Book.columns" aaa ["self"] (mO mg):=by
 show bF (N:=["self"]) (λf m A' outer s H vs Q E n h=>?_);intro X _;let#[A,B,rfl,a,q]:=h;let i:=T.aF;let n1:=T.jT;let#[vs,j,l]:=a.heads;symm;cbv;show aN ?_;f_are;show#[A.b,_,_,_,_,rfl,a.ins,i,T.GC,rfl,?_];cbv;show iG (.inl (η.of j)) λp g=>?_
 let sm:=ζ.upd (H:=H) (o:=.lst vs) g;show q p _ sm g #[vs,ς,ρ.imp (λv c z=>by let#[t,e,h]:=z;show #[t,e,sm<*h]) l]
def aoz(h:Ψ cs=true):1<=↥cs/\↥cs<=6:=by
 unfold Ψ at h;rw[aaO,aaO,decide_eq_true_eq]at h;show h.1.1
def afT(h:Ψ cs=true):Lr cs:=by
 unfold Ψ oU at h;rw[aaO,aaO,acL]at h;intro c a;let h1:=h.1.2 c a;rw[aaO,decide_eq_true_eq]at h1;let#[h2,f]:=h1;unfold isName at h2;rw[aaO,decide_eq_true_eq]at h2;show#[(),?_];obtain e|e:=f<;>rw[e]
 .show(by fin2:↥("number":Str)<=4000)
 .show(by fin2:↥("text":Str)<=4000)
inductive SJ(mg:MG):Sp
 |mk (y dx a:δ) (cs:List ι):vs=[.ref y,.ref a]->H y=↑(.ins (cB mg) dx [])->H dx=↑(.own y)->Χ H a cs->Ψ cs=true->(∀(H':Hp)(A:BA),A.b=y->A.dx=dx->H A.h=none->H A.r=none->H A.t=none->H A.d=none->Out [y] H H'->Ρ (cB mg) H' A #[cs,[],[],[],0,0]->Q .non H')
def ald:FD 4 "__init__" "Book.__init__" aac ["self","columns"] (SJ mg):=by
 show bF (N:=["self","columns"]) (λf Ϻ A' outer s H vs Q E hr h=>?_);intro X _;let#[y,dx,a,cs,rfl,m,i,hC,hok,q]:=h;let D1:=!Ir;let l:=T.aF;let n1:=T.jT;let hsz:=ϯ;w_up;cbv;show#[a,cs,rfl,hC,by have:=aoz hok;omega,afT hok,λH1 F =>?_];rw[if_pos hok];let#[vs,ha,O]:=hC;let hy1:=F _ _ m;let Ng:dx≠y:=λe=>by rw[e,m]at i;cases i
 w_up;show gB ?_;cbv;show iG (.inl (η.of (F<*ha))) λh hh=>?_
 let R:ζ H (upd H1 h (.lst vs)):=F<|>(ζ.upd hh);let eh:(upd H1 h (.lst vs)) h=↑(.lst vs):=ς;let hn:H h=none:=F.free hh;generalize upd H1 h (.lst vs)=H2 at R eh⊢;f_are;show#[y,_,dx,_,rfl,R<*m,l,T.GC,by show 0<1000;decide,?_];let n:h≠y:=λe=>by rw[e,m]at hn;cases hn
 let o3:Out [y] H (upd H2 y (.ins (cB mg) dx [("heads",.ref h)])):=(Out.of R)<|>(Out.upd (by simp));let Ye:(upd H2 y (.ins (cB mg) dx [("heads",.ref h)])) h=↑(.lst vs):=by rw[θ n];show eh
 let S:(upd H2 y (.ins (cB mg) dx [("heads",.ref h)])) y=↑(.ins (cB mg) dx [("heads",.ref h)]):=ς;change Η _ _ _ _ (upd H2 y (.ins (cB mg) dx [("heads",.ref h)]));generalize upd H2 y (.ins (cB mg) dx [("heads",.ref h)])=G at o3 Ye S⊢;let step:∀(H':Hp)(p:δ)(o o1:HO),H' y=↑o1->Out [y] H H'->H' p=none->(H p=none/\p≠y/\∀fs,Out [y] H (upd (upd H' p o) y fs)/\(upd (upd H' p o) y fs) y=↑fs/\(upd (upd H' p o) y fs) p=↑o/\∀b u,b≠y->H' b=↑u->b≠p/\(upd (upd H' p o) y fs) b=↑u):=by
  intro H' p o o1 ey ho I;let j:p≠y:=λe=>by rw[e,ey]at I;cases I
  let keep:∀fs b u,b≠y->H' b=↑u->b≠p/\(upd (upd H' p o) y fs) b=↑u:=λfs b u g e=>by
   let Zx:b≠p:=λz=>by rw[z,I]at e;cases e
   show#[Zx,?_];rw[θ g,θ Zx];show e
  show#[?_,j,λfs=>#[λb u g e=>?_,ς,by rw[θ j];show ς,keep fs]]
  .cases e1:H p with
   |none=>rfl
   |some u=>
    have:=ho p u (~~~j) e1;rw[I]at this;cases this
  .show(keep fs b u (~~~g) (ho b u g e)).2
 w_up;show gB ?_*>uU λr U=>?_
 f_are;let#[rn,ry,x]:=step G r (.dK []) _ S o3 U;let W:(upd G r (.dK [])) y=↑(.ins (cB mg) dx [("heads",.ref h)]):=by rw[θ (Ne.symm ry)];show S
 show#[y,_,dx,_,rfl,W,l,T.wG,by show 1<1000;decide,?_];let#[o4,Y,TQ,k4]:=x (.ins (cB mg) dx [("heads",.ref h),("rows",.ref r)]);change Η _ _ _ _ (upd (upd G r (.dK [])) y (.ins (cB mg) dx [("heads",.ref h),("rows",.ref r)]));let Sx:=(k4 _ _ n Ye).2;generalize upd (upd G r (.dK [])) y (.ins (cB mg) dx [("heads",.ref h),("rows",.ref r)])=J at o4 Y TQ Sx⊢;w_up;show gB ?_*>uU λt Z=>?_
 f_are;let#[tn,ty,x]:=step J t (.dK []) _ Y o4 Z;let aa:(upd J t (.dK [])) y=↑(.ins (cB mg) dx [("heads",.ref h),("rows",.ref r)]):=by rw[θ (Ne.symm ty)];show Y
 show#[y,_,dx,_,rfl,aa,l,T.Wr,by show 2<1000;decide,?_];let#[o5,Gm,Vu,k5]:=x (.ins (cB mg) dx [("heads",.ref h),("rows",.ref r),("touched",.ref t)]);change Η _ _ _ _ (upd (upd J t (.dK [])) y (.ins (cB mg) dx [("heads",.ref h),("rows",.ref r),("touched",.ref t)]));let U3:=(k5 _ _ n Sx).2;let#[rt,WL]:=k5 _ _ ry TQ;generalize upd (upd J t (.dK [])) y (.ins (cB mg) dx [("heads",.ref h),("rows",.ref r),("touched",.ref t)])=L at o5 Gm Vu WL U3⊢;w_up;show gB ?_;cbv;show#[Ε,λd ab=>?_];f_are;let#[dn,dy,x]:=step L d (.lst []) _ Gm o5 ab;let ac:(upd L d (.lst [])) y=↑(.ins (cB mg) dx [("heads",.ref h),("rows",.ref r),("touched",.ref t)]):=by rw[θ (Ne.symm dy)];show Gm
 show#[y,_,dx,_,rfl,ac,l,T.CN,by show 3<1000;decide,?_];let#[M,B,Py,k6]:=x (.ins (cB mg) dx [("heads",.ref h),("rows",.ref r),("touched",.ref t),("done",.ref d)]);change Η _ _ _ _ (upd (upd L d (.lst [])) y (.ins (cB mg) dx [("heads",.ref h),("rows",.ref r),("touched",.ref t),("done",.ref d)]));let#[ae,D]:=k6 _ _ n U3;let#[_,Pz]:=k6 _ _ ry WL;let#[_,Xk]:=k6 _ _ ty Vu;generalize upd (upd L d (.lst [])) y (.ins (cB mg) dx [("heads",.ref h),("rows",.ref r),("touched",.ref t),("done",.ref d)])=H6 at M B Py Xk Pz D⊢;w_up;show gB ?_;f_are;f_are;show#[y,_,dx,_,rfl,B,l,T.JT,by show 4<1000;decide,?_];f_len;show gB ?_;f_are;f_are;show#[y,_,dx,_,rfl,ς,l,T.Aw,by show 5<1000;decide,?_];let fin:∀b u,b≠y->H6 b=↑u->(upd (upd H6 y (.ins (cB mg) dx [("heads",.ref h),("rows",.ref r),("touched",.ref t),("done",.ref d),("known",.int 0)])) y (.ins (cB mg) dx [("heads",.ref h),("rows",.ref r),("touched",.ref t),("done",.ref d),("known",.int 0),("now",.int 0)])) b=↑u:=λb u g e=>by
  rw[θ g,θ g];show e
 let W6:∀t' ys,H t'=↑(.tup ys)->t'≠y:=λt' ys e z=>by rw[z,m]at e;cases e
 show q (upd (upd H6 y (.ins (cB mg) dx [("heads",.ref h),("rows",.ref r),("touched",.ref t),("done",.ref d),("known",.int 0)])) y (.ins (cB mg) dx [("heads",.ref h),("rows",.ref r),("touched",.ref t),("done",.ref d),("known",.int 0),("now",.int 0)])) #[y,dx,h,r,t,d] rfl rfl hn rn tn dn (λb u g e=>fin b u (~~~g) (M b u g e)) ?_*>#[ς,fin _ _ Ng (M _ _ (~~~Ng) i),#[vs,fin _ _ n D,ρ.imp (λv c z=>by let#[u,e,hu]:=z;show #[u,e,fin _ _ (W6<*hu) (M _ _ (~~~W6 _ _ hu) hu)]) O],#[[],fin _ _ ry Pz,.nil],#[[],fin _ _ ty Xk,.nil],#[[],fin _ _ dy Py,.nil],rt,ae]
def Cq(H0 H:Hp)(v:V)(p:Int×List V):=∃t l,v=.ref t/\H t=↑(.tup [.int p.1,.ref l])/\H l=↑(.lst p.2)/\H0 l=none/\H0 t=none
def dO(rows:List (Int×List V))(ks:List Int):List (Int×List V):=ks.map λk=>(k,(Μ rows k).getD [])
inductive V8(C:Unit):Sp
 |mk (a:δ) (rows:List (Int×List V)):vs=[.ref a]->DictAt (TupAt H) H a rows->↥rows<64->(∀p ys ks H',ζ H H'->H p=none->ks.Perm (rows.map (·.1))->ks.Pairwise (· <= ·)->H' p=↑(.lst ys)->ρ (Cq H H') ys (dO rows ks)->Q (.ref p) H')
def Ep:Def 1 "told_rows" ["rows"] (V8 PUnit.unit):=by
 exists ["rows"],Ep,hr,#[a,rows,rfl,#[Ϸ,ea,hR],hl,q],n1.JG,n2.jT,1;let hu:_+1<cLine:=aet (agC (by decide:1<=64) _) hr.units;let vo:(["row","rows"]:List Str).Nodup:=by fin2
 symm;show jd ["row","rows"] (σ':=[none,↑(.ref a)]) (bA (υ aap)) ?_;walk_at"cb";cbv;show ab8 (ks:=rows.map (·.1)) (by rfl) ea (ahm hR) (by rw[aaw];show hl) λL ks hL D hs=>?_
 let#[j,eL,H,L,H1]:=Ο hL (.lst (ks.map V.int));let hkl:↥ks=↥rows:=by rw[D.length_eq,aaw]
 let f:↥(ks.map V.int)=↥ks:=aaw ..;show#[L,_,rfl,η.of eL,(),λτ=>∃o1,τ=[o1,↑(.ref a)],λn i u H'=>∃k t l,ks[i]?=↑k/\u=.ref t/\t≠n/\l≠n/\H' t=↑(.tup [.int k,.ref l])/\H' l=↑(.lst ((Μ rows k).getD []))/\H l=none/\H t=none,#[none,rfl],λn i u H2 H3 ys y1 y2 y3=>?_,λfp n C s3 H0 i τ x H4 H3 aQ hi F Τ G hG=>?_,λL2 H2 ys I ϻ J e2 Υ =>?_]
 .let#[k,t,l,M,O,S,U,W,Y,Z,z8]:=y3;show#[k,t,l,M,O,S,U,y2 _ _ S W,y2 _ _ U Y,Z,z8]
 .let#[o1,rfl]:=F;let#[hx,rfl]:=hG;let Ub:i<↥ks:=by rw[f]at hi;show hi
  let hk:ks[i]?=↑ks[i]:=ϳ Ub;rw[abD,hk]at hx;let ab:x=.int ks[i]:= ~~~hx.symm
  subst ab;let g:ks[i]∈rows.map (·.1):=D.mem_iff.mp (afz Ub);let s:=j<|>Τ;let ac:=s _ _ ea;show ω vo ?_;cbv;rcases jP hR ks[i]with⟨_,e3⟩|⟨u,xs,e1,e3,t0,rfl,ae⟩
  .show absurd g (zj.mp e3)
  let g4:=aq.k (k:=Sum.inl ks[i]) ac;rw[e1]at g4;show cj hu g4 ?_;cbv;show iG (.inr (ξ.of (s<*ae))) λl y=>?_
  let#[z,el,H4,l,H5]:=Ο y (.lst xs);cbv;show#[Ε,λt B=>?_];let aa:ζ H5 (upd H5 t (.tup [.int ks[i],.ref l])):=ζ.upd B;let#[ys0,hE]:=G;show#[#[_,rfl],#[ks[i],t,l,hk,rfl,λe=>?_,λe=>?_,ς,?_,s.free y,(s<|>z).free B],z<|>aa]
  .rw[e,z<*hE]at B;cases B
  .rw[e,hE]at y;cases y
  .rw[e3];show aa<*el
 .show q L2 ys ks H2 (j<|>Υ) (j.free I) D hs e2 (kh (R:=λv p=>Cq H H2 v p) (l:=ys) (m:=dO rows ks) (by unfold dO;rw[aaw,ϻ,f]) λi p c=>?_);unfold dO at c;rw[abD]at c;let hi:i<↥ys:=by
   rw[ϻ,f];cases e:ks[i]? with
   |none=>rw[e]at c;cases c
   |some k=>show(aav.mp e).1
  let hy:ys[i]?=↑ys[i]:=ϳ hi;let#[k,t,l,M,O,S,U,W,Y,Z,z8]:=J i _ hy;rw[M]at c;let af:p=(k,(Μ rows k).getD []):= ~~~c.symm
  rw[af];show#[_,hy,t,l,O,W,Y,Z,z8]
theorem _root_._V.ρ.Eu{α β:Type}{R:α->β->Prop}:∀{l:List α}{m:List β},ρ R l m->∀b∈m,∃a,a∈l/\R a b
 |_,_,.nil,b,c=>by simp at c
 |_,_,.cons (a:=a) r t,b,c=>by
  obtain e|e:=aaB.mp c
  .subst e;show#[a,by simp,r]
  .let#[f,h1,h2]:=t.Eu b e;show#[f,by simp[h1],h2]
def ϖ.word(h:ϖ g v)(q:g="number"\/g="text"):eU g (wordOf v)=↑v/\↥(wordOf v)<=21/\32∉(wordOf v).cps.toList/\¬wordOf v=Ϫ "*"/\(∀c∈(wordOf v).cps.toList,c<1114112):=by
 obtain rfl|⟨hn,i,rfl,h1,h2⟩|⟨hn,z,rfl,hl,n⟩:=h
 .show#[?_,by fin2,by fin2,by fin2,by fin2];unfold eU;rw[if_pos (show wordOf .non=Ϫ "?" from rfl)]
 .subst hn;let l:=xX i;show#[ank h1 h2,?_,λh=>?_,λh=>?_,λc f=>?_]
  .have :=CK (i:=i) (k:=19) ();show(Ϫ (toString i)).length<=21;omega
  .have :=l 32 h;omega
  .let h':Ϫ (toString i)=Ϫ "*":=h;let e:("*":Str).cps.toList=[42]:=by fin2
   have:=l 42 (by rw[h',e];simp);omega
  .have :=l c f;omega
 .let m:g="text":=q.resolve_left hn;subst m;let e1:↥("'":Str)=1:=by fin2
  let s:=len_app ("'":Str) z;let j:∀c∈SG,¬c=32/\c<1114112:=by fin2
  let a:∀c∈(Ϫ "'"++z).cps.toList,c=39\/c∈SG:=λc f=>by
   rw[bJ,Af]at f;obtain h|h:=adH.mp f
   .show .inl (~~~h)
   .show .inr (n c h)
  show#[af2 hl n,by show(Ϫ "'"++z).length<=21;omega,λh=>?_,λh=>?_,λc f=>?_]
  .obtain e|e:=a 32 h
   .omega
   .show(j 32 e).1 rfl
  .let h':Ϫ "'"++z=Ϫ "*":=h;let e:("*":Str).cps.toList=[42]:=by fin2
   let p:(Ϫ "'"++z).cps.toList[0]?=↑39:=by rw[bJ,Af];rfl
   rw[h',e]at p;simp at p
  .obtain e|e:=a c f
   .omega
   .show(j c e).2
def plainS(z:Str):=∀c∈z.cps.toList,32<=c/\c<=122/\c≠46/\c≠47
theorem plainS.app(h:plainS a)(g:plainS b):plainS (a++b):=λc hc=>by
 rw[bJ]at hc;obtain hc|hc:=adH.mp hc
 .show h c hc
 .show g c hc
theorem plainS.join:∀{ps:List Str},(∀p∈ps,plainS p)->plainS (ad2 " " ps)
 |[],_=>by
  intro c a;have:c∈([]:List Nat):=a;simp at this
 |[p],h=>h p (by simp)
 |p::q::r,h=>by
  let e:plainS (" ":Str):=by unfold plainS;fin2
  show((h p (by simp)).app e).app (plainS.join λx f=>h x (by simp[f]))
def ahf:∀c∈SG,32<=c/\c<=122/\c≠46/\c≠47:=by fin2
theorem FZ(i:Int):plainS (Ϫ (toString i)):=λc a=>by
 have:=xX i c a;omega
def ϖ.plain(h:ϖ e v):plainS (wordOf v):=by
 obtain rfl|⟨hn,i,rfl,h1,h2⟩|⟨hn,z,rfl,hl,f⟩:=h
 .unfold plainS;fin2
 .show FZ i
 .show plainS.app (a:=Ϫ "'") ?_ λc g=>ahf c (f c g)
  unfold plainS;fin2
def Es(h:isName z=true):plainS z:=by
 unfold isName at h;rw[aaO]at h;intro c e;let h2:=h.2;unfold eV at h2;rw[acL]at h2;let f:=of_decide_eq_true (h2 c e);let a:∀c∈ji.cps.toList,32<=c/\c<=122/\c≠46/\c≠47:=by fin2
 show a c f
theorem kO:∀ps:List Str,↥(ad2 " " ps)<=(ps.map (·.length)).sum+↥ps
 |[]=>by show(0:Nat)<=_;omega
 |[p]=>by
  show ↥p<=_;simp
 |p::q::r=>by
  let a:=kO (q::r);let c:↥(" ":Str)=1:=by fin2
  show(p++Ϫ " "++ad2 " " (q::r)).length<=_;rw[len_app,len_app,c];simp only[acY,ao4,acD]at a⊢;omega
def lR(ps:List Str)(n:Nat)(h:∀p∈ps,↥p<=n):(ps.map (·.length)).sum<=↥ps*n:=by
 induction ps with
 |nil=>simp
 |cons p ps a=>
  let h1:=a λx c=>h x (by simp[c])
  let h2:=h p (by simp);simp only[acY,ao4,acD,auk];omega
def nZ(h:isName z=true):↥z<=8:=by
 unfold isName at h;rw[aaO]at h;show(of_decide_eq_true h.1).2
def lE(a:Ψ cs=true)(g:z∈cs.map Prod.fst):isName z=true:=by
 let#[c,f,e]:=abt.mp g;unfold Ψ at a;simp only[aaO,acL]at a;rw[<-e];show(a.1.2 c f).1
def fG(nm:Nat->Str):dN->List Str
 |.all=>["all"]
 |.none p=>["none",nm p]
 |.look l p v=>[aM l,nm p,wordOf v]
def wT(nm:Nat->Str):Tr->List Str
 |.one s=>fG nm s
 |.nt t=>"not"::wT nm t
def Φ(cs:List ι)(p:Nat):Str:=match cs[p]? with
 |some c=>c.1
 |none=>Ϫ ""
def wj(cs:List ι):dN->Prop
 |.all=>True
 |.none p=>p<↥cs
 |.look l p v=>∃c,cs[p]?=↑c/\ϖ c.2 v/\v≠.non
def fY(cs:List ι):Tr->Prop
 |.one s=>wj cs s
 |.nt t=>fY cs t
def AtW(nm:Nat->Str)(ws:List Str)(t:Tr)(s:Nat):=∃a,ws.drop s=wT nm t++a
def drop_cons{α:Type}{ws r:List α}{x:α}(h:ws.drop s=x::r):ws[s]?=↑x/\ws.drop (s+1)=r:=by
 let hs:s<↥ws:=by
  let h2:↥(ws.drop s)=↥(x::r):=by rw[h]
  rw[adu,acD]at h2;omega
 rw[afy hs]at h;injection h with h1 h2
 show#[by rw[ϳ hs,h1],h2]
def Zu{α:Type}{ws a r:List α}(h:ws.drop s=a++r)(ha:a≠[]):s+↥a<=↥ws:=by
 let h2:↥(ws.drop s)=↥(a++r):=by rw[h]
 rw[adu,abp]at h2;have:0<↥a:=asj.mpr ha;omega
def BW(nm:Nat->Str)(s:dN):fG nm s≠[]:=by cases s<;>simp[fG]
def HW(nm:Nat->Str)(t:Tr):wT nm t≠[]:=by
 cases t with
 |one s=>show BW nm s
 |nt t=>simp[wT]
theorem Mu:∀{cs:List ι}{p:Nat}{c:ι},(cs.map Prod.fst).Nodup->cs[p]?=↑c->ϋ cs c.1=p
 |d::r,0,c,hn,e=>by
  have:d=c:= ~~~e
  subst this;show(if d.1=d.1 then 0 else ϋ r d.1+1)=0;rw[if_pos rfl]
 |d::r,p+1,c,hn,e=>by
  let f:r[p]?=↑c:= ~~~e
  let a:=aiP.mp hn;let g:¬d.1=c.1:=λz=>a.1 (by rw[z];show abt.mpr #[c,aa0 f,rfl])
  show(if d.1=c.1 then 0 else ϋ r c.1+1)=p+1;rw[if_neg g,Mu a.2 f]
def qI(e:cs[p]?=↑c):Φ cs p=c.1:=by
 unfold Φ;rw[e]
def Nu(hn:(cs.map Prod.fst).Nodup)(a:cs[p]?=↑c)(hs:s<60)(e:ws[s]?=↑c.1):gF cs ws s=↑p:=by
 unfold gF;rw[if_pos hs,e];show(if cs.any (λd=>decide (d.1=c.1))=true then some (ϋ cs c.1)else none)=↑p;rw[if_pos (by rw[apH];show#[c,aa0 a,decide_eq_true rfl]),Mu hn a]
theorem aeq(hok:Ψ cs=true):∀{sv:dN},ws.drop s=fG (Φ cs) sv++a->s+↥(fG (Φ cs) sv)<=60->wj cs sv->qO cs ws s sv (s+↥(fG (Φ cs) sv))
 |.all,e,hl,_=>#[(drop_cons (r:=a) e).1,rfl]
 |.none p,e,hl,i=>by
   let hn:(cs.map Prod.fst).Nodup:=by
    unfold Ψ at hok;simp only[aaO,decide_eq_true_eq]at hok;show hok.2
   let#[e1,j]:=drop_cons (r:=[Φ cs p]++a) e;let#[f,_]:=drop_cons (r:=a) j;let m:=Zu e (BW (Φ cs) (.none p));let n:s+2<=60:=hl;let q:cs[p]?=↑cs[p]:=ϳ i;rw[qI q]at f;show#[e1,m,Nu hn q () f,rfl]
 |.look l p v,e,hl,i=>by
   let hn:(cs.map Prod.fst).Nodup:=by
    unfold Ψ at hok;simp only[aaO,decide_eq_true_eq]at hok;show hok.2
   let#[c,g,u,x]:=i;let#[e1,j]:=drop_cons (r:=[Φ cs p,wordOf v]++a) e;let#[f,y]:=drop_cons (r:=[wordOf v]++a) j;let#[z,_]:=drop_cons (r:=a) y;let m:=Zu e (BW (Φ cs) (.look l p v));let n:s+3<=60:=hl;rw[qI g]at f;let B:c.2="number"\/c.2="text":=by
    unfold Ψ at hok;simp only[aaO,acL]at hok;have:=(hok.1.2 c (aa0 g)).2;unfold oU at this;show of_decide_eq_true this
   show#[m,(),e1,Nu hn g () f,#[c,_,g,z,(u.word B).1],x,rfl]
theorem Le(hok:Ψ cs=true):∀{t:Tr}{s:Nat},AtW (Φ cs) ws t s->s+↥(wT (Φ cs) t)<=60->fY cs t->Reads cs ws t s (s+↥(wT (Φ cs) t))
 |.one sv,s,e,hl,c=>by
   let#[a,e]:=e;let j:0<↥(fG (Φ cs) sv):=asj.mpr (BW (Φ cs) sv);let f:s+↥(fG (Φ cs) sv)<=60:=hl;show#[(),aeq hok e hl c]
 |.nt t,s,e,hl,c=>by
   let#[a,e]:=e;let#[e1,g]:=drop_cons (r:=wT (Φ cs) t++a) e;let f:s+(↥(wT (Φ cs) t)+1)<=60:=hl;show#[(),e1,?_];have:=Le hok (t:=t) #[a,g] () c;let i:s+↥(wT (Φ cs) (.nt t))=s+1+↥(wT (Φ cs) t):=by show s+(↥(wT (Φ cs) t)+1)=_;omega
   rw[i];show this
def join_cons(a:b≠[]):ad2 " " (x::b)=x++Ϫ " "++ad2 " " b:=by
 match b,a with
 |y::r,_=>rfl
theorem UL(h:isName z=true):32∉z.cps.toList:=λa=>by
 unfold isName eV at h;rw[aaO,acL]at h;show absurd (of_decide_eq_true (h.2 32 a)) (by fin2)
theorem al0(hok:Ψ cs=true):∀{sv:dN},wj cs sv->∀z∈fG (Φ cs) sv,↥z<=21/\32∉z.cps.toList/\plainS z
 |.all,_,z,e=>by
   have:z=Ϫ "all":=by simpa [fG]using e
   subst this;show#[by fin2,by fin2,by unfold plainS;fin2]
 |.none p,f,z,e=>by
   let a:z=Ϫ "none"\/z=Φ cs p:=by simpa [fG]using e
   obtain rfl|rfl:=a
   .show#[by fin2,by fin2,by unfold plainS;fin2]
   .let j:cs[p]?=↑cs[p]:=ϳ f;rw[qI j];let hn:=lE hok (abt.mpr #[cs[p],afz f,rfl]);show#[by have:=nZ hn;omega,λh=>by have:=(UL hn);show this h,Es hn]
 |.look l p v,f,z,e=>by
   let#[c,g,i,n]:=f;let a:z=aM l\/z=Φ cs p\/z=wordOf v:=by simpa [fG]using e
   let hn:=lE hok (abt.mpr #[c,aa0 g,rfl]);let m:c.2="number"\/c.2="text":=by
    unfold Ψ at hok;simp only[aaO,acL]at hok;have:=(hok.1.2 c (aa0 g)).2;unfold oU at this;show of_decide_eq_true this
   obtain rfl|rfl|rfl:=a
   .cases l<;>show#[by fin2,by fin2,by unfold plainS;fin2]
   .rw[qI g];show#[by have:=nZ hn;omega,UL hn,Es hn]
   .let hw:=i.word m;show#[hw.2.1,hw.2.2.1,i.plain]
theorem wN(hok:Ψ cs=true):∀{t:Tr},fY cs t->∀z∈wT (Φ cs) t,↥z<=21/\32∉z.cps.toList/\plainS z
 |.one s,a,z,hz=>al0 hok a z hz
 |.nt t,a,z,hz=>by
   obtain rfl|hz:=aaB.mp hz
   .show#[by fin2,by fin2,by unfold plainS;fin2]
   .show wN hok (t:=t) a z hz
def sH(cs:List ι)(z:Str)(n d:Nat):=∃t,fY cs t/\t.dep<=d/\z=ad2 " " (wT (Φ cs) t)/\↥(wT (Φ cs) t)<=n
def sH.len(hok:Ψ cs=true)(h:sH cs z n d):↥z<=22*n:=by
 let#[t,a,_,rfl,hl]:=h;let h1:=lR (wT (Φ cs) t) 21 λp c=>(wN hok a p c).1
 let h2:=kO (wT (Φ cs) t);omega
def sH.good(hok:Ψ cs=true)(h:sH cs z n d)(hn:n<=60)(hd:d<=20):plainS z/\↥z<=2800/\(∀y∈ϑ 32 z,↥y<=900)/\∃t:Tr,t.dep<=20/\Reads cs (ϑ 32 z) t 0 ↥(ϑ 32 z):=by
 let c:=h.len hok;let#[t,e,g,rfl,hl]:=h;let a:=wN hok e;let f:ϑ 32 (ad2 " " (wT (Φ cs) t))=wT (Φ cs) t:=zX (HW (Φ cs) t) λz i=>(a z i).2.1
 show#[plainS.join λp j=>(a p j).2.2,(),by rw[f];show λy l=>by have:=(a y l).1;omega,t,(),?_];rw[f];have:=Le hok (ws:=wT (Φ cs) t) (t:=t) (s:=0) #[[],by simp] () e;rw[alw]at this;show this
def cu(H:Hp)(v:V):Tr->Prop
 |.one .all=>∃t,v=.ref t/\H t=↑(.tup [.str ("all":Str)])
 |.one (.none p)=>∃t,v=.ref t/\H t=↑(.tup [.str ("none":Str),.int p])
 |.one (.look l p x)=>∃t,v=.ref t/\H t=↑(.tup [.str (aM l),.int p,x])
 |.nt t=>∃a u,v=.ref a/\H a=↑(.tup [.str ("not":Str),u])/\cu H u t
theorem cu.same(s:ζ H H'):∀{t:Tr}{v:V},cu H v t->cu H' v t
 |.one .all,_,⟨t,e,h⟩=>#[t,e,s<*h]
 |.one (.none p),_,⟨t,e,h⟩=>#[t,e,s<*h]
 |.one (.look l p x),_,⟨t,e,h⟩=>#[t,e,s<*h]
 |.nt t,_,⟨a,u,e,h,g⟩=>#[a,u,e,s<*h,cu.same s g]
def mZ:Tr->Prop
 |.one _=>True
 |_=>False
def jD:Tr->Prop
 |.nt t=>mZ t
 |t=>mZ t
def aoJ(c:0<=d)(h1:d<3):∃l:Lk,Θ [V.str ("is":Str),V.str ("under":Str),V.str ("over":Str)] d=↑(.str (aM l)):=by
 by_cases a:d=0
 .show#[.is,by rw[a];rfl]
 .by_cases e1:d=1
  .show#[.under,by rw[e1];rfl]
  .show#[.over,by rw[show d=2 by omega];rfl]
def aii(c:0<=d)(h1:d<2):∃l:Lk,Θ [V.str ("under":Str),V.str ("over":Str)] d=↑(.str (aM l)):=by
 by_cases a:d=0
 .show#[.under,by rw[a];rfl]
 .show#[.over,by rw[show d=1 by omega];rfl]
inductive Tw(K:Ϩ):Sp
 |mk (a:δ) (ns:List Int) (k:Int) (b:δ) (cs:List ι):vs=[.ref a,.int k,.ref b]->η K H a (ns.map V.int)->↥ns<=63->0<=k->k<=40000->Χ H b cs->1<=↥cs->↥cs<=6->(∀v t H',ζ H H'->cu H' v t->jD t->fY cs t->Q v H')
def Lp:Def 4 "_law_sieve" ["_law_script","_law_k","_law_columns_here"] (Tw K):=by
 exists MP,Lp,hr,#[a,ns,k,b,cs,rfl,B,hl,Z,hk1,#[vs,hb,g],c1,c6,q],2,n1.bz,1;let hvl:=g.len;let L:η K H b vs:=η.of hb;let D1:=!iC;let D2:=!yZ;k_go;show#[a,ns,k,8,rfl,B,hl,(),(),by decide,?_];let w0:=aV ns k (m:=8) (by decide);let w1:=bh ns k (m:=8) (by decide);generalize ϒ ns k 8=way at w0 w1⊢;k_go;show#[a,ns,k+1,_,rfl,B,hl,(),(),(),?_];let M:=aV ns (k+1) (m:=(↥vs:Int)) ();let a1:=bh ns (k+1) (m:=(↥vs:Int)) ();generalize ϒ ns (k+1) (↥vs:Int)=at_ at M a1⊢;let#[p,rfl]:=abz M;let i:p<↥vs:=()
 let#[c,hc,tc,ec,j]:=g.get (ϳ i);let O:vs[p]?=↑(.ref tc):=by rw[<-ec];show ϳ i
 w_up;show Λ ?_>>=Α (λ_=>?_) (λh3=>?_)
 .f_len;show ψ ?_>>=#[Ε,λt f=>?_]*>q _ (.one .all) _ (ζ.upd f) #[t,rfl,ς] trivial trivial
 show Δ ?_;w_up;show Λ ?_>>=Α (λ_=>?_) (λh4=>?_)
 .f_len;show ψ ?_>>=#[Ε,λt f=>?_]*>q _ (.one (.none p)) _ (ζ.upd f) #[t,rfl,ς] trivial (by show p<↥cs;omega)
 let hw4:4<=way:=by
  let h4':¬way=3:=λe=>h4 (by rw[e])
  omega
 show Δ ?_;k_go;show ύ L (ϔ O) ?_>>=Β (ξ.of j) (show Θ [V.str c.1,V.str c.2] 1=↑(V.str c.2)from rfl) ?_>>=#[a,ns,k+2,c.2,rfl,B,hl,(),(),λx H1 n hx=>?_];let fin:∀(y:V)(H2:Hp),ζ H H2->ϖ c.2 y->¬y=.non->Η X ((ϓ Eg).drop 6) {nx:=λ_ H'=>Q .non H',rt:=Q} [↑(.ref a),↑(.int k),↑(.ref b),↑(.int way),↑(.int p),↑y] H2:=by
  intro y H2 D hy Ϲ;let good:∀l:Lk,wj cs (.look l p y):=λl=>#[c,hc,hy,Ϲ]
  w_up;show Λ ?_>>=Α (λ_=>?_) (λh7=>?_)
  .f_len;show ψ ?_>>=#[Ε,λz F=>?_];let#[sz,u,H2,z,R]:=Ο F (.lst [.str ("under":Str),.str ("over":Str)]);lk;show#[a,ns,k+5,2,rfl,(D<|>sz).seq B,hl,(),(),by decide,?_];let#[l,G]:=aii (aV ns (k+5) (m:=2) (by decide)) (bh ns (k+5) (m:=2) (by decide));show ύ (η.of u) G ?_>>=#[Ε,λt f=>?_];let#[st,U,R,t,W]:=Ο f (.tup [.str (aM l),.int p,y]);lk;show#[Ε,λY cA=>?_];let v:ζ W (upd W Y (.tup [.str ("not":Str),.ref t])):=ζ.upd cA;show q _ (.nt (.one (.look l p y))) _ (((D<|>sz)<|>st)<|>v) #[Y,.ref t,rfl,ς,t,rfl,v<*U] trivial (good l)
  .let hw7:way<7:=by
    let h7':¬way=7:=λe=>h7 (by rw[e])
    omega
   show Δ ?_;symm;lk;show #[Ε,λz F=>?_];let#[sz,u,H2,z,R]:=Ο F (.lst [.str ("is":Str),.str ("under":Str),.str ("over":Str)]);lk;let#[l,G]:=aoJ (d:=way-4) () ();show ύ (η.of u) G ?_>>=#[Ε,λt f=>?_]*>q _ (.one (.look l p y)) _ ((D<|>sz)<|>(ζ.upd f)) #[t,rfl,ς] trivial (good l)
 w_up;show Λ ?_>>=Α (λe=>?_) (λe=>Δ (fin x H1 n hx e));f_len;f_tup;lk;show ύ (n.seq L) (ϔ O) ?_>>=Β (ξ.of (n<*j)) (show Θ [V.str c.1,V.str c.2] 1=↑(V.str c.2)from rfl) ?_>>=Α (λI=>?_) (λI=>?_)
 .lk;let J:c.2="number":=by injection I
  show fin _ H1 n (.inr (.inl #[J,0,rfl,by decide,by decide])) nofun
 .lk;let J:¬c.2="number":=λz=>I (by rw[z])
  show fin _ H1 n (.inr (.inr #[J,_,rfl,by fin2,by fin2])) nofun
inductive aat:Sp
 |mk (v:V) (kd:Str):vs=[v]->ϖ kd v->Q (.str (wordOf v)) H
def Bv:Def 1 "_law_word" ["_law_value_here"] aat:=by
 exists ["_law_value_here"],Bv,c,#[v,e,rfl,a,q],n1.zU,n2.mH,f.zu,1;let g:↥("'":Str)=1:=by fin2
 w_up;show Λ ?_;lk;obtain rfl|⟨_,i,rfl,h1,h2⟩|⟨_,z,rfl,hl,_⟩:=a
 .show bV ?_;symm;lk;show q
 .show Α (λh=>nomatch h) (λ_=>?_)*>Δ ?_;symm;lk;show lM (iU ?_) ?_
  .have :(10:Nat)^60>1000000000000000000:=by decide
   omega
  show q
 .show Α (λh=>nomatch h) (λ_=>?_)*>Δ ?_;symm;lk;show dD () ?_*>q
def Ss(l:Lk):¬V.str (aM l)=V.str ("all":Str)/\¬V.str (aM l)=V.str ("not":Str)/\¬V.str (aM l)=V.str ("none":Str)/\↥(aM l)<=5:=by
 cases l<;>show#[by fin2,by fin2,by fin2,by fin2]
inductive Mm(K:Ϩ)(ok:Tr->Prop):Sp
 |mk (v:V) (b:δ) (cs:List ι) (t:Tr):vs=[v,.ref b]->Χ H b cs->Ψ cs=true->cu H v t->ok t->fY cs t->(∀H',ζ H H'->Q (.str (ad2 " " (wT (Φ cs) t))) H')
def Qp(T:Txt K mg)(hk:1<=k)(hr:ϗ true k (A.deeper (envOfC "_law_sieve_text" (υ uC) ⇑s f M)))(U:Χ H b cs)(hok:Ψ cs=true)(D:cu H v t)(hs:mZ t)(G:fY cs t)(q:∀H',ζ H H'->Q (.str (ad2 " " (wT (Φ cs) t))) H'):Η (fX true P w K mg base Wo "_law_sieve_text" (υ uC) f M A outer s H E) (ϓ uC) {nx:=λ_ H'=>Q .non H',rt:=Q} [↑v,↑(.ref b),none] H:=by
 let nd:=Jo.nd;let n1:=T.bz;let hsz:=ϯ;let W:↥(" ":Str)=1:=by fin2
 let D1:=!Bv;let#[vs,O,m]:=U;let X:=m.len;let I:=wN hok G;let bound:((wT (Φ cs) t).map (·.length)).sum+↥(wT (Φ cs) t)*↥(" ":Str)<=16777216:=by
  let h1:=lR (wT (Φ cs) t) 21 λp R=>(I p R).1
  let h2:↥(wT (Φ cs) t)<=3:=by
   cases t with
   |one sv=>cases sv<;>simp[wT,fG]
   |_=>show hs.elim
  rw[W];omega
 cases t with
 |nt t=>show hs.elim
 |one sv=>
  cases sv with
  |all=>
   let#[t,rfl,g]:=D;w_up;show Λ ?_>>=Β (ξ.of g) (show Θ [V.str ("all":Str)] 0=↑(V.str ("all":Str))from rfl) ?_>>=bV ?_;symm;lk;show q H (ζ.refl _)
  |none p=>
   let#[t,rfl,g]:=D;let R:p<↥cs:=G;let#[c,B,tc,Y,n]:=m.get (ϳ (show p<↥vs by omega));let J:vs[p]?=↑(.ref tc):=by rw[<-Y];show ϳ _
   let a:Θ [V.str ("none":Str),V.int (p:Int)] 0=↑(V.str ("none":Str)):=rfl;let y:Θ [V.str ("none":Str),V.int (p:Int)] 1=↑(V.int (p:Int)):=rfl;w_up;show Λ ?_>>=Β (ξ.of g) a ?_>>=cD ?_*>Δ ?_;w_up;show Λ ?_>>=Β (ξ.of g) a ?_>>=cD ?_*>Δ ?_;k_go;show Β (ξ.of g) a ?_>>=Β (ξ.of g) y ?_*>ύ (η.of O) (ϔ J) ?_>>=Β (ξ.of n) (show Θ [V.str c.1,V.str c.2] 0=↑(V.str c.1)from rfl) ?_>>=#[Ε,λz i=>?_];let#[j,e1,H,z,H1]:=Ο i (.lst [.str ("none":Str),.str c.1]);w_up;show Λ ?_>>=uB (.inr (ξ.of (j<*g))) ?_>>=Α (λh=>absurd h (by show ¬((2:Nat):Int)>2;decide)) (λ_=>?_)*>Δ ?_;symm;lk;show jW (ys:=wT (Φ cs) (.one (.none p))) ?_ bound (q H1 j)*>η.of ?_;rw[e1];show _=↑(HO.lst [V.str ("none":Str),V.str (Φ cs p)]);rw[qI B]
  |look l p x=>
   let#[t,rfl,g]:=D;let#[c,B,Z,Ϲ]:=G;let#[wv,J,tc,rfl,n]:=m.get' B;let#[k1,k2,k3,k4]:=Ss l;let a:Θ [V.str (aM l),V.int (p:Int),x] 0=↑(V.str (aM l)):=rfl;let y:Θ [V.str (aM l),V.int (p:Int),x] 1=↑(V.int (p:Int)):=rfl;let L:Θ [V.str (aM l),V.int (p:Int),x] 2=↑x:=rfl;w_up;show Λ ?_>>=Β (ξ.of g) a ?_>>=Α (λh=>absurd h k1) (λ_=>?_)*>Δ ?_;w_up;show Λ ?_>>=Β (ξ.of g) a ?_>>=Α (λh=>absurd h k2) (λ_=>?_)*>Δ ?_;k_go;show Β (ξ.of g) a ?_>>=Β (ξ.of g) y ?_*>ύ (η.of O) (ϔ J) ?_>>=Β (ξ.of n) (show Θ [V.str c.1,V.str c.2] 0=↑(V.str c.1)from rfl) ?_>>=#[Ε,λz i=>?_];let#[j,e1,H,z,H1]:=Ο i (.lst [.str (aM l),.str c.1]);w_up;show Λ ?_>>=uB (.inr (ξ.of (j<*g))) ?_>>=Α (λ_=>?_) (λh=>absurd (by show((3:Nat):Int)>2;decide) h);f_len;show aD (b7 F.plainAttrs_list F.slot_list_append F.type_list_append (h:=?_))>>=#[.inl #[rfl,_,η.of e1],?_]>>=Β (ξ.of (j<*g)) L ?_>>=#[x,c.2,rfl,Z,?_]>>=dH jz #[z,_,_,rfl,rfl,e1,by show 2<ϰ;omega,?_];let s2:ζ H (upd H1 z (.lst ([.str (aM l),.str c.1]++[.str (wordOf x)]))):=λe u S=>by
    rw[θ (ό S i)];show j<*S
   symm;lk;show jW (ys:=wT (Φ cs) (.one (.look l p x))) ?_ bound (q _ s2)*>η.of ?_;rw[ς];show _=↑(HO.lst [V.str (aM l),V.str (Φ cs p),V.str (wordOf x)]);rw[qI B];rfl
def afG:Def 2 "_law_sieve_text" ["_law_sieve_here","_law_columns_here"] (Mm K mZ):=by
 exists Jo,xr,a,#[v,b,cs,t,rfl,c,hok,e,hs,f,q];show Qp T (Ϭ _) a c hok e hs f q
def xr:Def 3 "_law_sieve_text" ["_law_sieve_here","_law_columns_here"] (Mm K jD):=by
 exists Jo,xr,i,#[v,b,cs,t,rfl,f,hok,g,hs,c,q];cases t with
 |one sv=>show Qp T (by decide) i f hok g hs c q
 |nt t=>
  let hsz:=ϯ;let ln:↥("not ":Str)=4:=by fin2
  let m:=!afG;let#[a,u,rfl,ha,j]:=g;w_up;show Λ ?_>>=Β (ξ.of ha) (show Θ [V.str ("not":Str),u] 0=↑(V.str ("not":Str))from rfl) ?_>>=cD ?_*>Δ ?_;w_up;show Λ ?_>>=Β (ξ.of ha) (show Θ [V.str ("not":Str),u] 0=↑(V.str ("not":Str))from rfl) ?_>>=bV ?_;symm;lk;show Β (ξ.of ha) (show Θ [V.str ("not":Str),u] 1=↑u from rfl) ?_>>=#[u,b,cs,t,rfl,f,hok,j,hs,c,λH1 l=>?_];let hl:=sH.len hok (n:=↥(wT (Φ cs) t)) (d:=t.dep) #[t,c,Ϭ _,rfl,Ϭ _];let p:↥(wT (Φ cs) t)<=3:=by
   cases t with
   |one sv=>cases sv<;>simp[wT,fG]
   |_=>show hs.elim
  show dD () ?_;let e:ad2 " " (wT (Φ cs) (.nt t))=Ϫ "not "++ad2 " " (wT (Φ cs) t):=by
   show ad2 " " (Ϫ "not"::wT (Φ cs) t)=_;rw[join_cons (HW (Φ cs) t)];rfl
  rw[e]at q;show q H1 l
inductive JM(K:Ϩ)(ok:Tr->Prop):Sp
 |mk (v:V) (b:δ) (cs:List ι) (t:Tr) (xs:List V):vs=[v,.ref b]->cu H v t->ok t->fY cs t->H b=↑(.lst xs)->ρ (λ(c:ι) x=>ϖ c.2 x) cs xs->Q (.bl (bw xs t)) H
def ye:Def 1 "_law_order_text" ["_law_order_here"] Eo:=by
 exists ["_law_order_here"],ye,hr,#[a,os,rfl,#[vs,ha,e],hl,hn,q];let v:(["_law_name","_law_up"]:List Str).Nodup:=by fin2
 let hsz:=ϯ;let J:=e.len;let y:↥("+":Str)=1:=by fin2
 let z:↥("-":Str)=1:=by fin2
 let L:↥(" ":Str)=1:=by fin2
 symm;show b7 F.plainAttrs_str F.slot_str_join F.type_str_join (h:=?_);f_are;show#[by rfl,dw (by rfl) ?_]*>jd ["_law_name","_law_up"] (σ':=[none,none]) (bA (υ Ut)) ?_;f_are;show#[a,vs,rfl,η.of ha,(),λB=>∃D G,B=[D,G],λg i u H'=>∃c,os[i]?=↑c/\u=.str (Ϛ c),#[none,none,rfl],λg i u H2 M ys _ _ p=>p,λfp g C s3 H0 i B x I M O hi j m R S=>?_,λg I ys O U n W m =>?_]
 .let#[D,G,rfl]:=j;let#[Y,rfl]:=S;let#[c,s,t,rfl,Z]:=e.get Y;let hcn:=hn c (aa0 s);show aj (ξ.of (m<*Z)) (Ι (ω v (Ι (ω v (ao ?_)))));cbv;show jw (λh=>?_) (λh=>?_)
  .cbv;show dD (by rw[y];omega) ?_*>#[#[_,_,rfl],#[c,s,by unfold Ϛ;rw[if_pos h]],ζ.refl _]
  .cbv;show dD (by rw[z];omega) ?_*>#[#[_,_,rfl],#[c,s,by unfold Ϛ;rw[if_neg (by rw[h];show aaD)]],ζ.refl _]
 .let ey:=fJ (ys:=os) (λc=>V.str (Ϛ c)) (by rw[U,J]) n;let gJ:ys=(os.map Ϛ).map V.str:=by rw[ey,afm];rfl
  subst gJ;cbv;show jW (η.of W) ?_ (q I m);rw[L,aaw];let f:∀l:List Ord,(∀o∈l,↥o.1<=1000)->((l.map Ϛ).map (·.length)).sum<=↥l*1001:=by
   intro l;induction l with
   |nil=>intro _;simp
   |cons o l ih=>
    intro h;let h1:=ih λx hx=>h x (by simp[hx])
    let h2:=h o (by simp);let h3:↥(Ϛ o)<=1001:=by
     unfold Ϛ;rw[len_app];split
     .rw[y];omega
     .rw[z];omega
    simp only[acY,ao4,acD];omega
  have:=f os hn;omega
def X5(T:Txt K mg)(Z:ϗ true k (A.deeper (envOfC "_law_lets" (υ wA) ⇑s f M)))(L:cu H v t)(hs:mZ t)(O:fY cs t)(R:H b=↑(.lst xs))(D:ρ (λ(c:ι) x=>ϖ c.2 x) cs xs)(q:Q (.bl (bw xs t)) H):Η (fX true P w K mg base NB "_law_lets" (υ wA) f M A outer s H E) (ϓ wA) {nx:=λ_ H'=>Q .non H',rt:=Q} [↑v,↑(.ref b),none] H:=by
 let nd:=Ff.nd;cases t with
 |nt t=>show hs.elim
 |one sv=>
  cases sv with
  |all=>
   let#[t,rfl,g]:=L;w_up;show Λ ?_>>=Β (ξ.of g) (show Θ [V.str ("all":Str)] 0=↑(V.str ("all":Str))from rfl) ?_>>=bV ?_;symm;lk;show q
  |none p=>
   let#[t,rfl,g]:=L;let S:p<↥cs:=O;let#[x,F,I]:=D.get (ϳ S);let U:Q (.bl (decide (x=.non))) H:=by
    let e:bw xs (.one (.none p))=decide (x=.non):=by
     show decide ((xs[p]?).getD .non=.non)=_;rw[F];rfl
    rw[e]at q;show q
   let a:Θ [V.str ("none":Str),V.int (p:Int)] 0=↑(V.str ("none":Str)):=rfl;let n:Θ [V.str ("none":Str),V.int (p:Int)] 1=↑(V.int (p:Int)):=rfl;w_up;show Λ ?_>>=Β (ξ.of g) a ?_>>=cD ?_*>Δ ?_;w_up;show Λ ?_>>=Β (ξ.of g) a ?_>>=cD ?_*>Δ ?_;k_go;show Β (ξ.of g) n ?_*>ύ (η.of R) (ϔ F) ?_;w_up;show Λ ?_>>=Β (ξ.of g) a ?_>>=bV ?_;symm;lk;show Β (ξ.of g) a ?_>>=bV ?_>>=U
  |look l p y=>
   let#[t,rfl,g]:=L;let#[c,W,G,J]:=O;let#[x,F,I]:=D.get W;let#[k1,k2,k3,k4]:=Ss l;let e:bw xs (.one (.look l p y))=(!decide (x=.non)&&qF l x y):=by
    show(!decide ((xs[p]?).getD .non=.non)&&qF l ((xs[p]?).getD .non) y)=_;rw[F];rfl
   rw[e]at q;let a:Θ [V.str (aM l),V.int (p:Int),y] 0=↑(V.str (aM l)):=rfl;let n:Θ [V.str (aM l),V.int (p:Int),y] 1=↑(V.int (p:Int)):=rfl;let u:Θ [V.str (aM l),V.int (p:Int),y] 2=↑y:=rfl;w_up;show Λ ?_>>=Β (ξ.of g) a ?_>>=Α (λh=>absurd h k1) (λ_=>?_)*>Δ ?_;w_up;show Λ ?_>>=Β (ξ.of g) a ?_>>=Α (λh=>absurd h k2) (λ_=>?_)*>Δ ?_;k_go;show Β (ξ.of g) n ?_*>ύ (η.of R) (ϔ F) ?_;w_up;show Λ ?_>>=Β (ξ.of g) a ?_>>=Α (λh=>absurd h k3) (λ_=>?_)>>=Α (λhn=>?_) (λhn=>?_)
   .f_len;show ψ ?_>>=Β (ξ.of g) a ?_>>=Α (λh=>absurd h k3) (λ_=>?_);rw[decide_eq_true hn]at q;let m:decide (V.str (aM l)=V.str ("none":Str))=false:=decide_eq_false k3
    first
     |show q
     |(rw[m];show q)
   rw[decide_eq_false hn]at q;let q:Q (.bl (qF l x y)) H:=q;show Δ ?_;w_up;show Λ ?_>>=Β (ξ.of g) a ?_;lk;let X:=I.sc;let Y:=G.sc;cases l with
   |is=>
    show bV ?_;symm;lk;show Β (ξ.of g) u ?_*>Ky (BL X Y) ?_*>q
   |under=>
    show cD ?_*>Δ ?_;symm;lk;show Β (ξ.of g) a ?_>>=bV ?_>>=Β (ξ.of g) u ?_;obtain rfl|⟨m,i,rfl,_⟩|⟨m,z,rfl,_⟩:=I
    .show absurd rfl hn
    .obtain rfl|⟨_,j,rfl,_⟩|⟨B,z,rfl,_⟩:=G
     .show absurd rfl J
     .lk;show q
     .show absurd m B
    .obtain rfl|⟨B,j,rfl,_⟩|⟨_,z,rfl,_⟩:=G
     .show absurd rfl J
     .show absurd B m
     .lk;show q
   |over=>
    show cD ?_*>Δ ?_;symm;lk;show Β (ξ.of g) a ?_>>=cD ?_>>=Β (ξ.of g) u ?_;obtain rfl|⟨m,i,rfl,_⟩|⟨m,z,rfl,_⟩:=I
    .show absurd rfl hn
    .obtain rfl|⟨_,j,rfl,_⟩|⟨B,z,rfl,_⟩:=G
     .show absurd rfl J
     .lk;show q
     .show absurd m B
    .obtain rfl|⟨B,j,rfl,_⟩|⟨_,z,rfl,_⟩:=G
     .show absurd rfl J
     .show absurd B m
     .show al2 ?_*>q
def ami:Def 1 "_law_lets" ["_law_sieve_here","_law_values_here"] (JM K mZ):=by
 exists Ff,Ai,c,#[v,b,cs,t,xs,rfl,e,hs,f,g,a,q];show X5 T c e hs f g a q
def Ai:Def 2 "_law_lets" ["_law_sieve_here","_law_values_here"] (JM K jD):=by
 exists Ff,Ai,i,#[v,b,cs,t,xs,rfl,e,hs,f,g,c,q];cases t with
 |one sv=>show X5 T i e hs f g c q
 |nt t=>
  let l:=!ami;let#[a,u,rfl,ha,j]:=e;w_up;show Λ ?_>>=Β (ξ.of ha) (show Θ [V.str ("not":Str),u] 0=↑(V.str ("not":Str))from rfl) ?_>>=cD ?_*>Δ ?_;w_up;show Λ ?_>>=Β (ξ.of ha) (show Θ [V.str ("not":Str),u] 0=↑(V.str ("not":Str))from rfl) ?_>>=bV ?_;symm;lk;show Β (ξ.of ha) (show Θ [V.str ("not":Str),u] 1=↑u from rfl) ?_>>=#[u,b,cs,t,xs,rfl,j,hs,f,g,c,?_]>>=q
def fQ(H:Hp)(Ϸ:List (Key×V))(rs:List Row):Prop:=ρ (λ(a:Key×V)(r:Row)=>a.1=Sum.inl r.1/\∃l,a.2=.ref l/\H l=↑(.lst r.2)) Ϸ rs
theorem fQ.same(h:fQ H Ϸ rs)(s:ζ H H'):fQ H' Ϸ rs:=h.imp λa b x=>by
 let#[e,l,c,f]:=x;show#[e,l,c,s<*f]
theorem fQ.keys:∀{Ϸ:List (Key×V)}{rs:List Row},fQ H Ϸ rs->Ϸ.map (·.1)=(rs.map Prod.fst).map Sum.inl
 |_,_,.nil=>rfl
 |_,_,.cons h t=>by
  rw[acY,acY,acY,h.1,fQ.keys t]
theorem fQ.get:∀{Ϸ:List (Key×V)}{rs:List Row},fQ H Ϸ rs->(rs.map Prod.fst).Nodup->∀{i:Nat}{r:Row},rs[i]?=↑r->∃l,aA Ϸ (Sum.inl r.1)=↑(.ref l)/\H l=↑(.lst r.2)
 |_,_,.nil,_,i,r,h=>by simp at h
 |kv::Ϸ,c::rs,.cons h t,hn,i,r,e=>by
  let#[h1,l,h2,g]:=h;let a:=aiP.mp hn;cases i with
  |zero=>
   have:c=r:= ~~~e
   subst this;show#[l,by rw[xG h1,h2],g]
  |succ i=>
   let f:rs[i]?=↑r:= ~~~e
   let#[l',j,m]:=fQ.get t a.2 f;show#[l',?_,m];rw[vg (λz=>a.1 ?_)]
   .show j
   .rw[h1]at z;let n:c.1=r.1:=by injection z
    rw[n];show abt.mpr #[r,aa0 f,rfl]
def iB(H H':Hp)(v:V)(r:Row):=∃t l,v=.ref t/\H' t=↑(.tup [.int r.1,.ref l])/\H l=↑(.lst r.2)
def iB.row(h:iB H H' v r)(s:ζ H H'):aO H' v r:=by
 let#[t,l,e,e1,a]:=h;show#[t,l,e,e1,s<*a]
def iB.same(h:iB H H' v r)(s:ζ H' H2):iB H H2 v r:=by
 let#[t,l,e,e1,a]:=h;show#[t,l,e,s<*e1,a]
theorem ϛ.len(h:ϛ cs r):↥r.2=↥cs:=(ρ.len h).symm
theorem ah6{α β:Type}{R:α->β->Prop}{l:List α}{m:List β}{a:α}{b:β}{k:Nat}(h:ρ R l m)(r:R a b):ρ R (iZ l k a) (iZ m k b):=(h.take k).app (.cons r (h.drop k))
theorem cu.stay(s:∀x ys,H x=↑(.tup ys)->H' x=↑(.tup ys)):∀{t:Tr}{v:V},cu H v t->cu H' v t
 |.one .all,_,⟨t,e,h⟩=>#[t,e,s<*h]
 |.one (.none p),_,⟨t,e,h⟩=>#[t,e,s<*h]
 |.one (.look l p x),_,⟨t,e,h⟩=>#[t,e,s<*h]
 |.nt t,_,⟨a,u,e,h,g⟩=>#[a,u,e,s<*h,cu.stay s g]
inductive QV(K:Ϩ):Sp
 |mk (c b d:δ) (v:V) (t0:Tr) (Ϸ:List (Key×V)) (cs:List ι) (os:List Ord) (rs:List Row):vs=[.ref c,.ref b,v,.ref d]->Χ H c cs->Ψ cs=true->aL H b os->↥os<=4->cU cs os->cu H v t0->jD t0->fY cs t0->H d=↑(.dK Ϸ)->fQ H Ϸ rs->(rs.map Prod.fst).Nodup->↥rs<=60->(∀r∈rs,ϛ cs r)->(∀p ws ls H',ζ H H'->H p=none->H' p=↑(.lst ws)->ρ (iB H H') ws ls->Line cs os ls->ls.Perm (rs.filter λr=>bw r.2 t0)->Q (.ref p) H')
def yF:Def 3 "_law_line" ["_law_columns_here","_law_order_here","_law_sieve_here","_law_rows"] (QV K):=by
 exists Qi,yF,hr,#[c,b,d,v,t0,Ϸ,cs,os,rs,rfl,W2,hok,VM,ar,n,Cw,au,av,y,Wd,ac,hrl,B,q];show O5 y λo=>?_
 let st:∀x u,H x=↑u->(∀ks,¬u=.dK ks)->(upd H d (.frz o (.dK Ϸ))) x=↑u:=λx u e hu=>by
  rw[θ (λz=>by rw[z,y]at e;cases e;show hu _ rfl)];show e
 let qX:∀x,(upd H d (.frz o (.dK Ϸ))) x=none->H x=none:=λx e=>by
  by_cases z:x=d
  .rw[z,ς]at e;cases e
  .rw[θ z]at e;show e
 let hd:(upd H d (.frz o (.dK Ϸ))) d=↑(.frz o (.dK Ϸ)):=ς;let hC:Χ (upd H d (.frz o (.dK Ϸ))) c cs:=by
  let#[cv,e1,m]:=W2;show#[cv,st _ _ e1 (λ_ z=>by cases z),m.imp λu k z=>by let#[t,e,h]:=z;show#[t,e,st _ _ h (λ_ z=>by cases z)]]
 let hO:aL (upd H d (.frz o (.dK Ϸ))) b os:=by
  let#[ov,e1,m]:=VM;show#[ov,st _ _ e1 (λ_ z=>by cases z),m.imp λu k z=>by let#[t,e,h]:=z;show#[t,e,st _ _ h (λ_ z=>by cases z)]]
 let ae:cu (upd H d (.frz o (.dK Ϸ))) v t0:=cu.stay (λx ys e=>st _ _ e (λ_ z=>by cases z)) Cw;let hD:fQ (upd H d (.frz o (.dK Ϸ))) Ϸ rs:=Wd.imp λa r z=>by
  let#[e,l,m,e3]:=z;show#[e,l,m,st _ _ e3 (λ_ z=>by cases z)]
 let fin:∀p ws ls H',ζ (upd H d (.frz o (.dK Ϸ))) H'->H p=none->H' p=↑(.lst ws)->ρ (iB (upd H d (.frz o (.dK Ϸ))) H') ws ls->Line cs os ls->ls.Perm (rs.filter λr=>bw r.2 t0)->Q (.ref p) (upd H' d (.dK Ϸ)):=λp ws ls H' sm hp f hA hL M=>by
  let aw:p≠d:=λz=>by rw[z,y]at hp;cases hp
  show q p ws ls _ (λx u e=>?_) hp (by rw[θ aw];show f) (hA.imp λu r z=>?_) hL M
  .by_cases z:x=d
   .rw[z]at e⊢;rw[y]at e;cases e;show ς
   .rw[θ z];show sm<*(by rw[θ z];show e)
  .let#[t,l,e,e1,m]:=z;show#[t,l,e,by rw[θ (λz=>by rw[z,sm<*hd]at e1;cases e1)];show e1,?_];rw[θ (λz=>by rw[z,hd]at m;cases m)]at m;show m
 let Ie:∀o u,¬H d=↑(.frz o u):=λo u z=>by rw[y]at z;cases z
 let af:∀p,(upd H d (.frz o (.dK Ϸ))) p=none->H p=none:=qX;clear q W2 VM Cw Wd st qX;generalize upd H d (.frz o (.dK Ϸ))=HZ at hd hC hO ae hD fin af⊢;let nd:=Qi.nd;let aa:=aet (agC (show 1<=64 by decide) _) hr.units;let hsz:=ϯ;let#[c1,c6]:=lG hok;let D1:=!v5;let D2:=!BK;let D3:=!Ai;k_go;show#[Ε,λp hp=>?_];let#[aR,ep,HZ,p,H0]:=Ο hp (.lst []);w_up;show Oi (by walk_at"po") (by rfl) (by intro _;rfl) ?_>>=#[d,o,Ϸ,rs.map Prod.fst,rfl,aR<*hd,hD.keys,λi σ H'=>(∃o5 o6 o7 o8,σ=[↑(.ref c),↑(.ref b),↑v,↑(.ref d),↑(.ref p),o5,o6,o7,o8])/\ζ HZ H'/\∃ws ls,H' p=↑(.lst ws)/\ρ (iB HZ H') ws ls/\Line cs os ls/\ls.Perm ((rs.take i).filter λr=>bw r.2 t0),#[#[none,none,none,none,rfl],aR,[],[],ep,.nil,.nil,List.Perm.refl _],λi σ' H' D=>D.2.1 _ _ hd,λi k σ' H' hk D=>?_,λσ' H' D=>?_]
 .let#[#[o5,o6,o7,o8,rfl],sm,ws,ls,f,G,hL,M]:=D;rw[abD]at hk;let#[r,I,rfl]:=aj7.mp hk;let ax:=aa0 I;let jM:=B r ax;let hi:=(aav.mp I).1;let Y:∀r∈ls,r∈rs.take i:=λr hr=>(ajs.mp (M.mem_iff.mp hr)).1
  let hll:↥ls<=i:=by
   rw[M.length_eq];show ad7 (ahD _ _) (by rw[adn];omega)
  let J:rs.take (i+1)=rs.take i++[r]:=by rw[al1,I];rfl
  let ay:=G.len;let#[l,ag,Gf]:=hD.get ac I;let dg:∀{H2:Hp},ζ HZ H2->aq H2 d (.int r.1) ↑(.ref l):=λs2=>.inl #[Ϸ,Sum.inl r.1,.inr #[o,s2<*hd],rfl,ag.symm]
  show ω nd ?_;f_len;show Λ ?_>>=cj aa (dg sm) ?_>>=#[v,l,cs,t0,r.2,rfl,ae.same sm,au,av,sm<*Gf,jM,?_];cases hlt:bw r.2 t0 with
  |false=>
   lk;show Δ #[#[_,_,_,_,rfl],sm,ws,ls,f,G,hL,?_];rw[J,aso,List.filter_cons_of_neg (by rw[hlt];show aaD),atY,alR];show M
  |true=>
  lk;k_go;show cj aa (dg sm) ?_>>=#[Ε,λt ht=>?_];let s1:ζ H' (upd H' t (.tup [.int r.1,.ref l])):=ζ.upd ht;let e1:(upd H' t (.tup [.int r.1,.ref l])) t=↑(.tup [.int r.1,.ref l]):=ς;generalize upd H' t (.tup [.int r.1,.ref l])=H1 at s1 e1⊢;let Κ :=sm<|>s1;lk;show#[c,b,_,cs,os,r,rfl,hC.same Κ,hO.same Κ,#[t,l,rfl,e1,Κ<*Gf],jM.len,(),(),n,λkp kl H2 s2 apu aqR aC aE=>?_];let Υ :=Κ<|>s2;k_go;let O:=s2 _ _ (s1<*f);let Q7:ρ (iB HZ H2) ws ls:=G.imp λu q x=>(x.same s1).same s2
  let kr:=cV jM n;let ah:∀q∈ls,q∈rs:=λq Z=>aeA (Y q Z)
  w_up;show Bw (by walk_at"po") (by rfl) (by intro _;rfl) ?_>>=#[p,ws,rfl,η.of O,λj σ H'=>(∃o8,σ=[↑(.ref c),↑(.ref b),↑v,↑(.ref d),↑(.ref p),↑(.int r.1),↑(.ref kp),↑(.int ((ls.take j).countP λq=>cT cs os q r:Nat)),o8])/\ζ H2 H',#[#[_,rfl],ζ.refl _],λj σ' H' _ D=>η.of (D.2<*O),λj x σ' H3 hx D=>?_,λσ' H3 D=>?_]
  .let#[#[aH,rfl],R]:=D;let#[L,Z,ai]:=Q7.get hx;let aI:=ah L (aa0 Z);let al:=B L aI;let g:=Υ<|>R;show ω nd ?_;f_len;show Λ ?_>>=#[c,b,x,cs,os,L,rfl,hC.same g,hO.same g,(ai.row Υ).same R,al.len,(),(),n,λaQ Y8 H4 U _ _ aS aT=>?_];let Τ :=g<|>U;let kq:=cV al n;let#[x1,x2,x3]:=kq.aJ kr;lk;show#[b,aQ,kp,os,_,_,L.1,r.1,rfl,hO.same Τ,#[Y8,aS,aT],#[kl,U<*(R _ _ aC),U<*(R _ _ aE)],x1,x2,ar,x3,λH5 s5=>?_];let Z8:=(R<|>U)<|>s5;let W:(ls.take (j+1)).countP (λq=>cT cs os q r)=(ls.take j).countP (λq=>cT cs os q r)+(if cT cs os L r=true then 1 else 0):=by
    rw[al1,Z,atk]
    congr 1
    show aup _ [L]=_;rw[atM,atZ,alw]
   rw[show Ϟ os (Ν cs os L.2) (Ν cs os r.2) L.1 r.1=cT cs os L r from rfl];cases Zy:cT cs os L r with
   |true=>
    rw[Zy,if_pos rfl]at W;lk;f_len;f_tup;lk;show#[#[↑x,?_],Z8];rw[W];rfl
   |false=>
    rw[Zy,if_neg aaD,atr]at W;lk;show Δ #[#[↑x,?_],Z8];rw[W];rfl
  .let#[#[aH,rfl],R]:=D;rw[ay,ahs];let g:=Υ<|>R;let am:=R _ _ O;let hcl:=arH (p:=λq=>cT cs os q r) (l:=ls);f_len;show aD (b7 F.plainAttrs_list F.slot_list_insert F.type_list_insert (h:=?_));f_are;show#[.inl #[rfl,_,η.of am],?_]>>=cj aa (dg g) ?_>>=#[Ε,λt2 cA=>?_];let#[U,e4,H3,t2,H4]:=Ο cA (.tup [.int r.1,.ref l]);let Zi:=U _ _ am;lk;show dH ajH #[p,ws,ls.countP λq=>cT cs os q r,_,rfl,rfl,Zi,(),(),?_]*>#[#[_,_,_,_,rfl],λe u he=>?_,iZ ws (ls.countP λq=>cT cs os q r) (.ref t2),iZ ls (ls.countP λq=>cT cs os q r) r,ς,ah6 (Q7.imp λu q x=>?_) ?_,ahR n (λq Z=>B q (ah q Z)) jM hL (λq Z e=>?_),?_]
   .rw[θ (ό he hp)];show U<*(g<*he)
   .let#[tq,lq,rfl,ab,aX]:=x;let nt:tq≠p:=λe=>by rw[e,O]at ab;cases ab
    show#[tq,lq,rfl,by rw[θ nt];show U _ _ (R<*ab),aX]
   .let nt:t2≠p:=λe=>by rw[e,Zi]at e4;cases e4
    show#[t2,l,rfl,by rw[θ nt];show e4,Gf]
   .let#[j,hj,ej]:=ap7 (Y q Z);let hj':j<i:=by rw[adn]at hj;omega
    let m:rs[j]?=↑q:=by
     rw[atq]at ej;rw[<-ej];show ϳ _
    let e3:(rs.map Prod.fst)[j]?=(rs.map Prod.fst)[i]? :=by rw[abD,abD,m,I];show congrArg some e
    let a0:j<↥(rs.map Prod.fst):=by rw[aaw];omega
    let a1:i<↥(rs.map Prod.fst):=by rw[aaw];omega
    rw[ϳ a0,ϳ a1]at e3;have:=(amx ac).mp (Option.some.inj e3);omega
   .rw[J,aso,show(([r]:List Row).filter λr=>bw r.2 t0)=[r]from by rw[amF,if_pos hlt,atY]];unfold iZ;show List.perm_middle.trans ?_;rw[asU];show(List.Perm.cons r M).trans (List.perm_append_singleton r _).symm
 .let#[#[o5,o6,o7,o8,rfl],sm,ws,ls,f,G,hL,M]:=D;rw[aaw,ahs]at M;show QR (sm<*hd) Ie ?_;symm;lk;show fin p ws ls H' sm (af p hp) f G hL M
inductive ZS(K:Ϩ)(mg:MG)(t:Tr):Sp
 |mk (a p:δ) (z:Str) (rs:List Row):vs=[.ref a,.ref p]->eF mg H t a z->fU H p rs->↥rs<=1000->(∀r∈rs,Ci r.2 t)->(∀q ws H',ζ H H'->H q=none->H' q=↑(.lst ws)->ρ (iB H H') ws (rs.filter λr=>bw r.2 t)->Q (.ref q) H')
def amW(rs:List Row)(f:Row->Bool):(kY (λi=>f (rs.getD i (0,[]))) ↥rs).map (λi=>rs.getD i (0,[]))=rs.filter f:=by
 unfold kY;let h:=map_getD (0,[]) rs
 conv=>rhs;rw[<-h]
 rw[List.filter_map];rfl
theorem Ea{α β c:Type}{R:α->c->Prop}(g:β->c):∀{l:List α}{m:List β},ρ (λa b=>R a (g b)) l m->ρ R l (m.map g)
 |_,_,.nil=>.nil
 |_,_,.cons h t=>.cons h (Ea g t)
def K9(t:Tr):Def (4+t.dep) "let_through" ["sieve","rows"] (ZS K mg t):=by
 rw[show 4+t.dep=(3+t.dep)+1 by omega];exists ["sieve","rows"],K9,U,#[a,p,z,rs,rfl,G,#[ws,W,f],hl,Y,q],1;let n:=f.len;let I:(["row","values","sieve"]:List Str).Nodup:=by fin2
 symm;show ac4 ["row","values","sieve"] (σ':=[none,none,↑(.ref a)]) (by rfl) (by rfl) (bA (υ Nm)) (by intro _;rfl) ?_>>=#[p,ws,rfl,η.of W,(),λJ=>∃L M,J=[L,M,↑(.ref a)],λi=>bw (rs.getD i (0,[])).2 t,λg i u H'=>u≠.ref g/\iB H H' u (rs.getD i (0,[])),#[none,none,rfl],λg i v H2 H3 ys Z hk h=>?_,λfp g C s3 H0 i J x H2 O hx s sm c=>?_,λg H2 us O e2 R sm=>?_]
 .let#[h0,y,l,e,h1,h2]:=h;show#[h0,y,l,e,hk _ _ (λz=>by rw[z,Z]at h1;cases h1) h1,h2]
 .let#[L,M,rfl]:=s;let#[r,j,tr,S,rfl,B,m]:=f.get hx;let#[ys,c]:=c;let D:rs.getD i (0,[])=r:=by rw[ach,j];rfl
  let#[da,fa,ea,la]:=(G.same sm).ins;show aj (ξ.of (sm<*B)) (Ι (ω I (Ι (ω I (ao ?_)))))*>Wk (λ_=>by rfl) ?_*>cX (pl:=_) U (by walk_at"xo") (by rfl) (by rfl) (by rfl) ?_;f_are;show#[a,jb mg t,da,_,true,3+t.dep,_,sE K mg t,rfl,ea,la,aaM T t,Ϭ _,id,?_]>>=#[a,S,z,r.2,rfl,G.same sm,η.of (sm<*m),Y r (aa0 j),?_]*>#[_,rfl,(by show bw r.2 t=bw (rs.getD i (0,[])).2 t;rw[D]),#[_,_,rfl],ζ.refl _,λ_=>?_]>>=#[Ε,λy F=>?_]*>#[#[λz=>?_,y,S,rfl,by rw[D];show ς,by rw[D];show m],ζ.upd F];injection z with z
  rw[z,c]at F;cases F
 .rw[n]at R;let Gz:ρ (iB H H2) us (rs.filter λr=>bw r.2 t):=by
   rw[<-amW rs λr=>bw r.2 t];show Ea _ (R.imp λu i z=>by
    show z.2)
  show q g us H2 sm O e2 Gz
theorem Lz{os:List Ord}(c:cU cs os):∀{l m:List Row},(∀r∈l,ϛ cs r)->l.Perm m->Line cs os l->Line cs os m->l=m
 |[],m,_,h,_,_=>List.Perm.nil_eq h
 |a::l,[],_,h,_,_=>absurd h.length_eq (by simp)
 |a::l,b::m,i,h,h1,h2=>by
  let f:=anC.mp h1;let g:=anC.mp h2;let e:a=b:=by
   let ha:a∈b::m:=h.mem_iff.mp (by simp);let hb:b∈a::l:=h.mem_iff.mpr (by simp);obtain e|ha:=aaB.mp ha
   .show e
   .obtain e|hb:=aaB.mp hb
    .show e.symm
    .let x1:cT cs os a b=true:=f.1 b hb;let x2:cT cs os b a=true:=g.1 a ha;let j:=cV (i a (by simp)) c;let n:=cV (i b (by simp[hb])) c;let x3:Ϟ os (Ν cs os a.2) (Ν cs os a.2) a.1 a.1=true:=yO j n j x1 x2;rw[vJ (agZ cs os a.2)]at x3;show absurd (of_decide_eq_true x3) ()
  subst e;rw[Lz c (λr p=>i r (by simp[p])) (List.Perm.cons_inv h) f.2 g.2]
theorem aaS{α:Type}:∀{m:List (Int×α)}{p:Int×α},(m.map (·.1)).Nodup->p∈m->Μ m p.1=↑p.2
 |q::m,p,hn,hp=>by
  let a:=aiP.mp hn;obtain rfl|hp:=aaB.mp hp
  .unfold Μ;rw[aek,decide_eq_true rfl];rfl
  .let f:¬q.1=p.1:=λe=>a.1 (abt.mpr #[p,hp,e.symm])
   let c:=aaS a.2 hp;unfold Μ at c⊢;rw[aek,decide_eq_false f];show c
def DG(hn:(rows.map (·.1)).Nodup)(h:ks.Perm (rows.map (·.1))):(dO rows ks).Perm rows:=by
 let h1:(dO rows ks).Perm (dO rows (rows.map (·.1))):=h.map _;let h2:dO rows (rows.map (·.1))=rows:=by
  unfold dO;rw[afm];have:rows.map ((λk=>(k,(Μ rows k).getD []))∘λx=>x.1)=rows.map id:=aqj λp a=>by
   show(p.1,(Μ rows p.1).getD [])=p;rw[aaS hn a];rfl
  rw[this,asF]
 rw[h2]at h1;show h1
inductive Rw(K:Ϩ):Sp
 |mk (a:δ) (ns:List Int) (k:Int):vs=[.ref a,.int k]->η K H a (ns.map V.int)->↥ns<=63->0<=k->k<=40000->(∀n:Int,1<=n->n<=100->Q (.int n) H)
def Eb:Def 2 "_law_some_size" ["_law_script","_law_k"] (Rw K):=by
 exists Oe,Eb,j,#[a,ns,k,rfl,c,hl,e,f,q],2,l iC;k_go;show#[a,ns,k,8,rfl,c,hl,(),(),by decide,?_];generalize ϒ ns k 8=g;w_up;show Λ ?_>>=Α (λ_=>?_) (λ_=>?_)
 .f_len;show ψ ?_>>=q 100 (by decide) (by decide)
 show Δ ?_;symm;lk;show Α (λ_=>?_) (λ_=>?_)
 .lk;show#[a,ns,k+1,30,rfl,c,hl,(),(),by decide,?_];let i:=aV ns (k+1) (m:=30) (by decide);let h1:=bh ns (k+1) (m:=30) (by decide);lk;show q _ () ()
 .lk;show#[a,ns,k+1,4,rfl,c,hl,(),(),by decide,?_];let i:=aV ns (k+1) (m:=4) (by decide);let h1:=bh ns (k+1) (m:=4) (by decide);lk;show q _ () ()
theorem ajZ(h:ρ (λ(c:ι) x=>ϖ c.2 x) cs xs):∀{sv:dN},wj cs sv->Tn xs sv
 |.all,_=>trivial
 |.none p,a=>by
   have:=h.len;show p<↥xs;let q:p<↥cs:=a;omega
 |.look l p v,a=>by
   let#[c,s,m,n]:=a;let#[x,u,B]:=h.get s;show#[x,u,?_];obtain e|⟨f,i,rfl,_⟩|⟨f,y,rfl,_⟩:=B
   .show .inl e
   .right;obtain e|⟨_,j,rfl,_⟩|⟨g,_⟩:=m
    .show absurd e n
    .cases l<;>show#[rfl,rfl,.inr (.inr (.inl #[i,j,rfl,rfl]))]
    .show absurd f g
   .right;obtain e|⟨g,_⟩|⟨_,z,rfl,_⟩:=m
    .show absurd e n
    .show absurd g f
    .cases l<;>show#[rfl,rfl,.inr (.inr (.inr #[y,z,rfl,rfl]))]
theorem Yh(h:ρ (λ(c:ι) x=>ϖ c.2 x) cs xs):∀{t:Tr},fY cs t->Ci xs t
 |.one s,a=>ajZ h a
 |.nt t,a=>Yh h (t:=t) a
def _root_._V.Out.seq(o:Out S H H')(ha:a∉S)(h:η K H a xs):η K H' a xs:=by
 rcases h with(h|⟨u,h⟩)|h
 .show .inl (.inl (o _ _ ha h))
 .show .inl (.inr #[u,o _ _ ha h])
 .show .inr h
def aga(h:η K H a xs):H a≠none\/∀H',η K H' a xs:=by
 rcases h with(h|⟨u,h⟩)|h
 .show .inl (by rw[h];nofun)
 .show .inl (by rw[h];nofun)
 .show .inr λ_=>.inr h
def tQ{L:List δ}(h:L.Nodup)(is f:List Nat)(hd:∀i∈is,i∉f):∀x∈is.filterMap (λi=>L[i]?),x∉f.filterMap (λi=>L[i]?):=by
 intro x p q;let#[i,hi,g]:=alq.mp p;let#[j,s,l]:=alq.mp q;let a:=(aav.mp g).1;let c:=(aav.mp l).1;let e1:=(aav.mp g).2;let m:=(aav.mp l).2;let e:i=j:=by
  let n:=apw.mp h;obtain z|z|z:=Nat.lt_trichotomy i j
  .show absurd (e1<|>m.symm) (n i j a c z)
  .show z
  .show absurd (m<|>e1.symm) (n j i c a z)
 subst e;show hd i hi s
def NT(H:Hp)(S:List δ):=∀x∈S,∀ys,H x≠↑(.tup ys)
theorem NT.tup(h:NT H S)(o:Out S H H'):∀b ys,H b=↑(.tup ys)->H' b=↑(.tup ys):=λb ys e=>o b _ (λz=>h b z ys e) e
def _root_._V.BA.six(A:BA):List δ:=[A.h,A.r,A.t,A.d,A.b,A.dx]
def _root_._V.Ρ.ym(k:Ρ C H A B):A.six.Nodup:=by
 let#[n1,n2,l,m,n,p,q,s,u,a,v,c]:=k.ne;let f:=k.rt;let g:=k.hd;let i:A.h≠A.dx:=λe=>by
  let#[_,j,_]:=k.heads;let h2:=k.own;rw[e,h2]at j;cases j
 simp only[BA.six,aiP,aaB,agq,or_false,not_or,not_false_eq_true,List.nodup_nil,and_true];show#[#[Ne.symm q,Ne.symm a,g,Ne.symm n2,i],#[f,s,Ne.symm l,p],#[v,Ne.symm m,u],#[Ne.symm n,c],n1]
def _root_._V.Ρ.ZQ(k:Ρ C H A B):∀x∈A.six,H x≠none:=by
 intro x c;let a:x=A.h\/x=A.r\/x=A.t\/x=A.d\/x=A.b\/x=A.dx:=by simpa [BA.six]using c
 let#[_,e,_]:=k.heads;let#[_,f,_]:=k.rows;let#[_,g,_]:=k.touched;let#[_,i,_]:=k.done;obtain rfl|rfl|rfl|rfl|rfl|rfl:=a
 .rw[e];nofun
 .rw[f];nofun
 .rw[g];nofun
 .rw[i];nofun
 .rw[k.ins];nofun
 .rw[k.own];nofun
def adk{A:BA}(c:x∈[A.b,A.dx,A.h,A.r,A.t,A.d]):x∈A.six:=by
 let a:x=A.b\/x=A.dx\/x=A.h\/x=A.r\/x=A.t\/x=A.d:= ~~~c
 obtain rfl|rfl|rfl|rfl|rfl|rfl:=a<;>simp[BA.six]
theorem _root_._V.Ρ.out(k:Ρ C H A B)(o:Out S H H')(nt:NT H S)(a:∀x∈A.six,x∉S):Ρ C H' A B:=
 k.stay (nt.tup o) λx u c e=>o x u (a x (adk c)) e
theorem _root_._V.Χ.out(h:Χ H a cs)(o:Out S H H')(nt:NT H S)(ha:a∉S):Χ H' a cs:=h.stay (λxs e=>o _ _ ha e) (nt.tup o)
def made{H H':Hp}{y dx:δ}{A:BA}(c:H y=none)(a:H dx=none)(g:A.b=y)(i:A.dx=dx)(j:(upd (upd H dx (.own y)) y (.ins C dx [])) A.h=none)(l:(upd (upd H dx (.own y)) y (.ins C dx [])) A.r=none)(m:(upd (upd H dx (.own y)) y (.ins C dx [])) A.t=none)(n:(upd (upd H dx (.own y)) y (.ins C dx [])) A.d=none)(o:Out [y] (upd (upd H dx (.own y)) y (.ins C dx [])) H'):ζ H H'/\∀x∈A.six,H x=none:=by
 let sm:ζ H (upd (upd H dx (.own y)) y (.ins C dx [])):=λb u e=>by
  rw[θ (λz=>by rw[z,c]at e;cases e),θ (λz=>by rw[z,a]at e;cases e)];show e
 show#[λb u e=>o b u (λz=>by rw[ack.mp z,c]at e;cases e) (sm b u e),λx p=>?_];let f:x=A.h\/x=A.r\/x=A.t\/x=A.d\/x=A.b\/x=A.dx:=by simpa [BA.six]using p
 obtain rfl|rfl|rfl|rfl|rfl|rfl:=f
 .show sm.free j
 .show sm.free l
 .show sm.free m
 .show sm.free n
 .rw[g];show c
 .rw[i];show a
def LR(F:List δ)(H:Hp)(v:V)(xs:List V):=∃l,v=.ref l/\H l=↑(.lst xs)/\l∉F
def Zc(F:List δ)(H:Hp)(a:δ)(m:List (Int×List V)):Prop:=DictAt (LR F H) H a m
def LR.stay(h:LR F H v xs)(s:∀b ys,b∉F->H b=↑(.lst ys)->H' b=↑(.lst ys)):LR F H' v xs:=by
 let#[l,e,h1,h2]:=h;show#[l,e,s _ _ h2 h1,h2]
def kJ(cs:List ι)(xs:List V):Prop:=ρ (λc x=>ϖ c.2 x) cs xs
def stK(r s:δ)(n:Int):List (Key×V):=[(Sum.inr ("rows":Str),.ref r),(Sum.inr ("since":Str),.ref s),(Sum.inr ("moment":Str),.int n)]
def key_ne:¬(Sum.inr ("rows":Str):Key)=Sum.inr ("since":Str)/\¬(Sum.inr ("rows":Str):Key)=Sum.inr ("moment":Str)/\¬(Sum.inr ("since":Str):Key)=Sum.inr ("moment":Str):=by
 show#[?_,?_,?_]<;>intro e<;>injection e with e<;>show absurd e (by fin2)
theorem aiC(r s:δ)(n:Int):aA (stK r s n) (Sum.inr ("rows":Str))=↑(.ref r):=xG rfl
def aez(r s:δ)(n:Int):aA (stK r s n) (Sum.inr ("since":Str))=↑(.ref s):=by
 unfold stK;rw[vg key_ne.1,xG rfl]
def ad0(r s:δ)(n:Int):aA (stK r s n) (Sum.inr ("moment":Str))=↑(.int n):=by
 unfold stK;rw[vg key_ne.2.1,vg key_ne.2.2,xG rfl]
def anG(r s:δ)(n m:Int):putK (stK r s n) (Sum.inr ("moment":Str)) (.int m)=stK r s m:=by
 unfold putK stK;simp[key_ne.2.1,key_ne.2.2]
def adP(r s:δ):mQ [] [(Sum.inr ("rows":Str),V.ref r),(Sum.inr ("since":Str),V.ref s),(Sum.inr ("moment":Str),V.int 0)]=stK r s 0:=by
 simp[mQ,putK,stK,key_ne.1,key_ne.2.1,key_ne.2.2]
def mF(e:H d=↑(.dK (stK r s n))):aq H d (.str ("rows":Str)) ↑(.ref r):=by
 have:=aq.k (k:=Sum.inr ("rows":Str)) e;rw[aiC]at this;show this
def Qh(e:H d=↑(.dK (stK r s n))):aq H d (.str ("since":Str)) ↑(.ref s):=by
 have:=aq.k (k:=Sum.inr ("since":Str)) e;rw[aez]at this;show this
def wz(e:H d=↑(.dK (stK r s n))):aq H d (.str ("moment":Str)) ↑(.int n):=by
 have:=aq.k (k:=Sum.inr ("moment":Str)) e;rw[ad0]at this;show this
def Qf(e:H d=↑(.dK (stK r s n))):dW H d (.str ("moment":Str)) (.int m) (upd H d (.dK (stK r s m))):=by
 have:=dW.k (k:=Sum.inr ("moment":Str)) (v:=.int m) e (by let hsz:ϰ=16777216:=ϯ;rw[hsz];show 3<16777216;decide);rw[anG]at this;show this
structure Ω(mg:MG)(F:List δ)(A:BA)(d r s:δ)(H:Hp)(B:Bk)(n:Int)(m:List (Int×List V))(sn:List (Int×Int)):Prop where
 bk:Ρ (cB mg) H A B
 st:H d=↑(.dK (stK r s n))
 ro:Zc F H r m
 si:DictAt xO H s sn
structure eY(A:BA)(d r s:δ)(F:List δ):Prop where
 nd:[A.h,A.r,A.t,A.d,A.b,A.dx,d,r,s].Nodup
 inF:∀x∈d::r::s::A.fp,x∈F
section
variable{F:List δ}{A:BA}{d r s:δ}{H H':Hp}{B B':Bk}{n:Int}{m m':List (Int×List V)}{sn tR:List (Int×Int)}
def Ω.same(h:Ω mg F A d r s H B n m sn)(sm:ζ H H'):Ω mg F A d r s H' B n m sn:=by
 let#[k1,e1,h1]:=h.ro;let#[k2,a,h2]:=h.si;show#[h.bk.same sm,sm<*h.st,#[k1,sm<*e1,cH h1 λv x z=>z.stay λb ys _ e=>sm _ _ e],#[k2,sm<*a,h2]]
def Ω.dicts(h:Ω mg F A d r s H B n m sn):∀x∈[d,r,s],∃Ϸ,H x=↑(.dK Ϸ):=by
 let#[k1,e1,_]:=h.ro;let#[k2,c,_]:=h.si;intro x e;let a:x=d\/x=r\/x=s:= ~~~e
 obtain rfl|rfl|rfl:=a
 .show#[_,h.st]
 .show#[_,e1]
 .show#[_,c]
def Ω.Fi(ap:eY A d r s F)(h:Ω mg F A d r s H B n m sn)(c:x∈[d,r,s]):Ρ (cB mg) (upd H x o) A B:=by
 let#[Ϸ,e]:=h.dicts x c;show h.bk.out (S:=[x]) (Out.upd (by simp)) (λy a ys z=>by rw[ack.mp a,e]at z;cases z) λy a f=>?_
 rw[ack.mp f]at a;show tQ ap.nd [0,1,2,3,4,5] [6,7,8] (by decide) x a c
def Ω.ne(ap:eY A d r s F):d≠r/\d≠s/\r≠s:=by
 let h1:=tQ ap.nd [6] [7,8] (by decide) d (by simp);let h2:=tQ ap.nd [7] [8] (by decide) r (by simp);show#[λe=>h1 (by simp[e]),λe=>h1 (by simp[e]),λe=>h2 (by simp[e])]
def Ω.setM(ap:eY A d r s F)(h:Ω mg F A d r s H B n m sn)(a:Int):Ω mg F A d r s (upd H d (.dK (stK r s a))) B a m sn:=by
 let#[n1,n2,g]:=Ω.ne ap;let#[k1,e1,h1]:=h.ro;let#[k2,c,h2]:=h.si;show#[h.Fi ap (by simp),ς,#[k1,by rw[θ (Ne.symm n1)];show e1,cH h1 λv x z=>z.stay λb ys f e=>?_],#[k2,by rw[θ (Ne.symm n2)];show c,h2]];rw[θ (λz=>f (by rw[z];show ap.inF _ (by simp)))];show e
def Ω.qZ(ap:eY A d r s F)(h:Ω mg F A d r s H B n m sn)(a:ρ (PR (LR F H)) Ϸ m'):Ω mg F A d r s (upd H r (.dK Ϸ)) B n m' sn:=by
 let#[n1,n2,c]:=Ω.ne ap;let#[k2,f,h2]:=h.si;show#[h.Fi ap (by simp),by rw[θ n1];show h.st,#[Ϸ,ς,cH a λv x z=>z.stay λb ys g e=>?_],#[k2,by rw[θ (Ne.symm c)];show f,h2]];rw[θ (λz=>g (by rw[z];show ap.inF _ (by simp)))];show e
def Ω.XS(ap:eY A d r s F)(h:Ω mg F A d r s H B n m sn)(a:ρ (PR xO) Ϸ tR):Ω mg F A d r s (upd H s (.dK Ϸ)) B n m tR:=by
 let#[n1,n2,c]:=Ω.ne ap;let#[k1,e1,h1]:=h.ro;show#[h.Fi ap (by simp),by rw[θ n2];show h.st,#[k1,by rw[θ c];show e1,cH h1 λv x z=>z.stay λb ys f e=>?_],#[Ϸ,ς,a]];rw[θ (λz=>f (by rw[z];show ap.inF _ (by simp)))];show e
def Ω.book(ap:eY A d r s F)(h:Ω mg F A d r s H B n m sn)(o:Out A.fp H H')(k:Ρ (cB mg) H' A B'):Ω mg F A d r s H' B' n m sn:=by
 let hn:=tQ ap.nd [6,7,8] [4,1,2,3] (by decide);let#[k1,e1,h1]:=h.ro;let#[k2,a,h2]:=h.si;show#[k,o _ _ (hn d (by simp)) h.st,#[k1,o _ _ (hn r (by simp)) e1,cH h1 λv x z=>z.stay λb ys c e=>o _ _ (λz=>c (ap.inF _ (by simp[z]))) e],#[k2,o _ _ (hn s (by simp)) a,h2]]
end
def aiI(h:η K H a xs)(e:H d=↑(.dK Ϸ)):η K (upd H d o) a xs:=by
 rcases h with(h|⟨u,h⟩)|h
 .show .inl (.inl (by rw[θ (λz=>by rw[z,e]at h;cases h)];show h))
 .by_cases z:a=d
  .rw[z,e]at h;cases h
  .show .inl (.inr #[u,by rw[θ z];show h])
 .show .inr h
def ab6(h:Χ H a cs)(e:H d=↑(.dK Ϸ)):Χ (upd H d o) a cs:=by
 show h.stay (λxs c=>?_) (λb ys c=>?_)
 .rw[θ (λz=>by rw[z,e]at c;cases c)];show c
 .rw[θ (λz=>by rw[z,e]at c;cases c)];show c
end
end _K
namespace _K
open PySem _L PyProof.Rows _M _V _W
section
variable{P:Ϯ}{w:ϭ}{K:Ϩ}{mg:MG}{base:ϫ}
def Rt:List Ϧ->List Ϧ
 |(.If _ t _ _)::_=>t
 |_=>[]
def cL:List Int:=[3,0,7,1000000000,12,5,1,999]
def rG(sn:List (Int×Int))(row n:Int):Option (List V)->List (Int×Int)
 |none=>sn
 |some _=>bx sn row n
inductive U8(K:Ϩ)(mg:MG):Sp
 |mk (F:List δ) (A:BA) (B:Bk) (sc c d r s:δ) (ns:List Int) (k:Int) (sn:List (Int×Int)):vs=[.ref sc,.int k,.ref c,.ref A.b,.ref d]->η K H sc (ns.map V.int)->↥ns<=63->0<=k->k<=30000->Χ H c B.heads->↥B.heads<=6->Ω mg F A d r s H B B.now B.rows sn->eY A d r s F->(∀x∈F,H x≠none)->tu B->nY B->↥sn<1000000->(∀i xs,Μ B.rows i=↑xs->kJ B.heads xs)->(∀row o H',row∈cL->(Μ B.rows row=none->o≠none)->(∀xs,o=↑xs->kJ B.heads xs)->Out (d::r::s::A.fp) H H'->Ω mg F A d r s H' (aP B row o) (B.now+1) (aP B row o).rows (rG sn row (B.now+1) o)->Q (.int row) H')
def yQ:Def 7 "_law_deed" ["_law_script","_law_k","_law_columns_here","_law_book","_law_state"] (U8 K mg):=by
 show Γ (S:=Nt) T.yQ (λf Ϻ A' outer s0 H vs Q E hr h=>?_);intro X _;let#[F,A,B,sc,c,d,r,s,ns,k,sn,rfl,hS,hl,k0,k1,hC,h6,hL,ap,j5,L,ae,hsn,af,q]:=h;let nd:=Nt.nd;let n2:=T.jT;let hsz:=ϯ;let a:_+1<cLine:=aet (agC (by decide:1<=64) _) hr.units;let D0:=!iC;let D2:=!uY;let M1:aK P w K mg base true 6 (cB mg) "put" ["self","row","values"] (tW mg):=(Nv T).meth T.aF T.WX;let M2:aK P w K mg base true 6 (cB mg) "change" ["self","row","values"] (yD mg):=(aiN T).meth T.aF T.adt;let M3:aK P w K mg base true 4 (cB mg) "take" ["self","row"] (CT mg):=(abQ T).meth T.aF T.alx;k_go;show#[Ε,λp hp=>?_];let#[R,ep]:=Ο hp (.lst (cL.map V.int));change EV _ _ _ (upd H p (.lst (cL.map V.int))) _;generalize upd H p (.lst (cL.map V.int))=H0 at R ep⊢;lk;show#[sc,ns,k,8,rfl,R.seq hS,hl,(),(),by decide,?_];let j0:=aV ns k (m:=8) (by decide);let j1:=bh ns k (m:=8) (by decide);generalize ϒ ns k 8=jv at j0 j1⊢;let#[j,rfl]:=abz j0;let hj:j<↥cL:=by show j<8;omega
 show ύ (η.of ep) (v:=.int cL[j]) (ϔ (by rw[abD,ϳ hj];rfl)) ?_;let i:cL[j]∈cL:=afz hj;let M:∀x∈cL,0<=x/\x<=1000000000:=by decide
 let M:=M _ i;generalize cL[j]=row at i M⊢;k_go;show#[sc,ns,k+1,5,rfl,R.seq hS,hl,(),(),by decide,?_];generalize ϒ ns (k+1) 5=W;let n:=hL.same R;w_up;show jr a ?_>>=cj a (wz n.st) ?_>>=#[d,_,rfl,Qf n.st,?_];let g:=n.setM ap (B.now+1);let aa:η K (upd H0 d (.dK (stK r s (B.now+1)))) sc (ns.map V.int):=aiI (R.seq hS) n.st;let wQ:Χ (upd H0 d (.dK (stK r s (B.now+1)))) c B.heads:=ab6 (hC.same R) n.st;let o1:Out (d::r::s::A.fp) H (upd H0 d (.dK (stK r s (B.now+1)))):=(Out.of R)<|>(Out.upd (by simp));let Mi:∀x,(upd H0 d (.dK (stK r s (B.now+1)))) x=none->x∉F:=λx e hx=>by
  by_cases z:x=d
  .rw[z,ς]at e;cases e
  .rw[θ z]at e;show j5 x hx (R.free e)
 generalize upd H0 d (.dK (stK r s (B.now+1)))=H1 at g aa wQ o1 Mi⊢;let#[Ϸ,er,hR]:=id g.ro;let hkl:=hR.len;let ux:∀{H2 H3:Hp},Out A.fp H2 H3->Out (d::r::s::A.fp) H2 H3:=λo=>o.mono λx hx=>by simp[hx]
 let g1:=aq.k (k:=Sum.inl row) er
 let tail:∀(v:δ)(xs:List V)(H3:Hp),kJ B.heads xs->Out (d::r::s::A.fp) H H3->Ω mg F A d r s H3 (aP B row ↑xs) (B.now+1) B.rows sn->H3 v=↑(.lst xs)->v∉F->
   Η X ((ϓ tV).drop 6) {nx:=λ_ H'=>Q .non H',rt:=Q} [↑(.ref sc),↑(.int k),↑(.ref c),↑(.ref A.b),↑(.ref d),↑(.int row),↑(.int W),↑(.ref v)] H3:=by
  intro v xs H3 hok l Y hv lD;let#[Z,CJ,uV]:=id Y.ro;let apQ:=uV.len;w_up;show jr a ?_>>=cj a (mF Y.st) ?_>>=#[r,_,rfl,dW.k (k:=Sum.inl row) CJ (by have:=L.1;omega),?_];let pC:Ω mg F A d r s (upd H3 r (.dK (putK Z (Sum.inl row) (.ref v)))) (aP B row ↑xs) (B.now+1) (aP B row ↑xs).rows sn:=Y.qZ ap (nA uV row #[v,rfl,hv,lD]);let o4:Out (d::r::s::A.fp) H (upd H3 r (.dK (putK Z (Sum.inl row) (.ref v)))):=l<|>(Out.upd (by simp));generalize upd H3 r (.dK (putK Z (Sum.inl row) (.ref v)))=H4 at pC o4⊢;let#[ag,ah,ab]:=id pC.si;let aqM:=ab.len;w_up;show jr a ?_>>=cj a (wz pC.st) ?_>>=cj a (Qh pC.st) ?_>>=#[s,_,rfl,dW.k (k:=Sum.inl row) ah (),?_];let uA:Ω mg F A d r s (upd H4 s (.dK (putK ag (Sum.inl row) (.int (B.now+1))))) (aP B row ↑xs) (B.now+1) (aP B row ↑xs).rows (rG sn row (B.now+1) ↑xs):=pC.XS ap (nA ab row rfl);symm;lk;show q row ↑xs _ i (λ_=>by simp) (λys e=>by cases e;show hok) (o4<|>(Out.upd (by simp))) uA
 let rest:Η X ((ϓ tV).drop 4) {nx:=λ_ H'=>Q .non H',rt:=Q} [↑(.ref sc),↑(.int k),↑(.ref c),↑(.ref A.b),↑(.ref d),↑(.int row),↑(.int W),none] H1:=by
  k_go;show#[sc,ns,k+2,c,B.heads,rfl,aa,hl,(),(),wQ,h6,λv xs H2 s2 ai hv D=>?_];let lD:=Mi v ai;let G:=g.same s2;let Ck:=G.bk;let o2:=o1<|>(Out.of s2);let g2:=aq.k (k:=Sum.inl row) (s2<*er);w_up;show Λ ?_>>=cj a (mF G.st) ?_*>Jv a g2 ?_;obtain⟨e1,O⟩|⟨u,x,e1,O,lu,rfl,al,arL⟩:=jP hR row
  .rw[show(aA Ϸ (Sum.inl row)).isSome=false by rw[e1];rfl];lk;f_len;show aD ?_*>cX (pl:=_) hr Ϝ (h:=?_);f_are;show#[A.b,cB mg,A.dx,_,true,6,_,tW mg,rfl,Ck.ins,by rfl,M1,by decide,id,?_]>>=iG (.inl (η.of hv)) λb hb=>?_
   let#[I,eb,H2,b,H8]:=Ο hb (.lst xs);lk;show#[A,B,row,b,xs,rfl,Ck.same I,eb,h6,#[M.1,M.2,D],L,λz=>absurd O z,λ_ H3 l k3=>?_]*>tail v xs H3 D ((o2<|>(Out.of I))<|>(ux l)) ((G.same I).book ap l k3) (l _ _ (λz=>lD (ap.inF _ (by simp[z]))) (I<*hv)) lD
  .rw[show(aA Ϸ (Sum.inl row)).isSome=true by rw[e1];rfl];lk;let ac:∀(U:δ)(ys:List V)(H5:Hp),kJ B.heads ys->ζ H2 H5->H5 U=↑(.lst ys)->U∉F->Η X ((Rt ((ϓ tV).drop 5)).drop 1) {nx:=λσ' H'=>Η X ((ϓ tV).drop 6) {nx:=λ_ H'=>Q .non H',rt:=Q} σ' H',rt:=Q} [↑(.ref sc),↑(.int k),↑(.ref c),↑(.ref A.b),↑(.ref d),↑(.int row),↑(.int W),↑(.ref U)] H5:=by
    intro U ys H5 hok s5 J Ru;f_len;show aD ?_*>cX (pl:=_) hr Ϝ (h:=?_);f_are;show#[A.b,cB mg,A.dx,_,true,6,_,yD mg,rfl,(Ck.same s5).ins,by rfl,M2,by decide,id,?_]>>=iG (.inl (η.of J)) λb hb=>?_
    let#[I,eb,H5,b,H8]:=Ο hb (.lst ys);lk;show#[A,B,row,b,ys,rfl,(Ck.same s5).same I,eb,h6,#[M.1,M.2,hok],L,(λz=>by rw[O]at z;cases z),λ_ H3 l k3=>?_]*>tail U ys H3 hok (((o2<|>(Out.of s5))<|>(Out.of I))<|>(ux l)) (((G.same s5).same I).book ap l k3) (l _ _ (λz=>Ru (ap.inF _ (by simp[z]))) (I<*J)) Ru
   w_up;show Λ ?_>>=Α (λh=>?_) (λh=>?_)
   .f_len;f_tup;lk;show cj a (mF G.st) ?_>>=cj a (v:=.ref lu) (by rw[e1]at g2;show g2) ?_>>=iG (.inl (η.of (s2<*al))) λU J=>?_
    show ac U x _ (af row x O) (ζ.upd J) ς (Mi U (s2.free J))
   .show Δ (ac v xs H2 D (ζ.refl _) hv lD)
 w_up;show Λ ?_>>=cj a (mF g.st) ?_*>Jv a g1 ?_;obtain⟨e1,O⟩|⟨u,x,e1,O,_⟩:=jP hR row
 .rw[show(aA Ϸ (Sum.inl row)).isSome=false by rw[e1];rfl];lk;show Δ rest
 .rw[show(aA Ϸ (Sum.inl row)).isSome=true by rw[e1];rfl];lk;show Α (λh=>?_) (λh=>?_)
  .w_up;show aD ?_*>cX (pl:=_) hr Ϝ (h:=?_);f_are;show#[A.b,cB mg,A.dx,_,true,4,_,CT mg,rfl,g.bk.ins,by rfl,M3,by decide,id,?_]>>=#[A,B,row,rfl,g.bk,M.1,M.2,L,ae,(λz=>by rw[O]at z;cases z),λ_ H3 l k3=>?_];let Y:=g.book ap l k3;let#[Z,CJ,uV]:=id Y.ro;w_up;show aD (Av ?_)>>=cj a (mF Y.st) ?_*>#[r,rfl,.inl #[_,.inl CJ],?_];lk;let am:∃v,aA Z (Sum.inl row)=↑v:=by
    obtain⟨_,z⟩|⟨u,y,z,_⟩:=jP uV row
    .rw[O]at z;cases z
    .show#[u,z]
   let#[vv,Jr]:=am;show#[Z,Sum.inl row,vv,CJ,rfl,Jr,?_];let pC:Ω mg F A d r s (upd H3 r (.dK (gf Z (Sum.inl row)))) (aP B row none) (B.now+1) (aP B row none).rows sn:=Y.qZ ap (yf uV row);symm;lk;show q row none _ i (λz=>by rw[O]at z;cases z) (λys e=>by cases e) ((o1<|>(ux l))<|>(Out.upd (by simp))) pC
  .show Δ rest
theorem Zt{α:Type}[BEq α][LawfulBEq α]:∀{l m:List α},l.Nodup->(∀x∈l,x∈m)->↥l<=↥m
 |[],m,_,_=>aeG _
 |a::r,m,h,s=>by
  let h':=aiP.mp h;let ha:=s a (ad8 ..);let c:=Zt (l:=r) (m:=m.erase a) h'.2 λx f=>(List.mem_erase_of_ne (λe=>h'.1 (by subst e;show f))).mpr (s x (abF _ f))
  rw[List.length_erase_of_mem ha]at c;have:=List.length_pos_of_mem ha;rw[acD];omega
structure dU(cs:List ι)(ks:List Int)(B:Bk)(sn:List (Int×Int))(i:Nat):Prop where
 heads:B.heads=cs
 nd:(B.rows.map (·.1)).Nodup
 wf:nY B
 ok:∀p∈B.rows,kJ cs p.2
 keys:∀k∈B.rows.map (·.1),k∈ks
 tl:↥B.touched<=i
 dl:↥B.done<=i
 sl:↥sn<=i
 now:B.now=(i:Int)
def Pk{α:Type}{m:List (Int×α)}{x:α}{p:Int×α}(h:p∈bx m i x):p∈m\/p=(i,x):=by
 unfold bx at h;split at h
 .let#[q,a,e]:=abt.mp h;split at e
  .next c=>show .inr (by rw[<-e,c])
  .show .inl (by rw[<-e];show a)
 .obtain h|h:=adH.mp h
  .show .inl h
  .show .inr (ack.mp h)
def Xv{α:Type}(m:List (Int×α))(i:Int)(x:α):↥(bx m i x)<=↥m+1:=by
 unfold bx;split
 .rw[aaw];omega
 .rw[abp,adS];omega
theorem acr{α:Type}(m:List (Int×α))(i:Int):↥(dC m i)<=↥m:=ahD ..
theorem nY.deed(h:nY B)(row:Int)(o:Option (List V)):nY (aP B row o):=λi=>by
 cases o with
 |none=>
  show Μ (dC B.rows row) i=none↔ Μ (dC B.touched row) i=none;rw[wY,wY];by_cases e:i=row
  .rw[if_pos e,if_pos e];show#[λ_=>rfl,λ_=>rfl]
  .rw[if_neg e,if_neg e];show h i
 |some xs=>
  show Μ (bx B.rows row xs) i=none↔ Μ (bx B.touched row (B.now+1)) i=none;rw[vD,vD];by_cases e:i=row
  .rw[if_pos e,if_pos e];show#[(λz=>by cases z),(λz=>by cases z)]
  .rw[if_neg e,if_neg e];show h i
def dU.deed(h:dU cs ks B sn i)(hs:∀k∈ks,k∈ks')(c:row∈ks')(e:∀xs,o=↑xs->kJ cs xs):dU cs ks' (aP B row o) (rG sn row (B.now+1) o) (i+1):=by
 let h1:=h.tl;let h2:=h.dl;let f:=h.sl;let g:=h.now;let hd:(aP B row o).done.length<=i+1:=by
  show(B.done++[_]).length<=i+1;rw[abp,adS];omega
 let hn:(aP B row o).now=((i+1:Nat):Int):=by
  show B.now+1=_;omega
 cases o with
 |none=>
  show#[h.heads,V1 h.nd,h.wf.deed row none,λp hp=>h.ok p (ajs.mp hp).1,λk a=>?_,?_,hd,by show ↥sn<=i+1;omega,hn]
  .let#[p,hp,rfl]:=abt.mp a;show hs _ (h.keys _ (abt.mpr #[p,(ajs.mp hp).1,rfl]))
  .show(dC B.touched row).length<=i+1;have:=acr B.touched row;omega
 |some xs=>
  show#[h.heads,Uy h.nd,h.wf.deed row ↑xs,λp hp=>?_,λk a=>?_,?_,hd,?_,hn]
  .obtain hp|hp:=Pk hp
   .show h.ok p hp
   .rw[hp];show e xs rfl
  .let#[p,hp,rfl]:=abt.mp a;obtain hp|hp:=Pk hp
   .show hs _ (h.keys _ (abt.mpr #[p,hp,rfl]))
   .rw[hp];show c
  .show(bx B.touched row (B.now+1)).length<=i+1;have:=Xv B.touched row (B.now+1);omega
  .show(bx sn row (B.now+1)).length<=i+1;have:=Xv sn row (B.now+1);omega
theorem dU.get(h:dU cs ks B sn i):∀j xs,Μ B.rows j=↑xs->kJ B.heads xs:=λj xs e=>by
 rw[h.heads];show h.ok _ (akl e)
def dU.len(h:dU cs ks B sn i):↥B.rows<=↥ks:=by
 have:=Zt h.nd h.keys;rw[aaw]at this;show this
def dU.small(h:dU cs ks B sn i)(hi:i<1000000)(a:↥ks<1000000):tu B:=by
 let h1:=h.tl;let h2:=h.dl;let c:=h.len;show#[(),(),()]
def jC(i:Nat):List Int:=(acV i).map λj=>2000+((j*7 % 23:Nat):Int)
def nM:List Int:=cL++jC 20
def anb:∀i<20,(2000+((i*7 % 23:Nat):Int))∉cL++jC i:=by decide
theorem Ω.live(h:Ω mg F A d r s H B n m sn):∀x∈d::r::s::A.fp,(∃o,H x=↑o/\∀ys,¬o=.tup ys):=λx hx=>by
 let a:x∈[d,r,s]\/x∈A.fp:=by
  simp only[aaB,agq,or_false]at hx⊢;obtain z|z|z|z:=hx
  .show .inl (.inl z)
  .show .inl (.inr (.inl z))
  .show .inl (.inr (.inr z))
  .show .inr z
 obtain hx|hx:=a
 .let#[Ϸ,e]:=h.dicts x hx;show#[_,e,λys z=>by cases z]
 .obtain⟨fs,z⟩|⟨Ϸ,z⟩|⟨xs,z⟩:=h.bk.Js hx<;>show⟨_,z,λys z=>by cases z⟩
inductive Pb(K:Ϩ)(mg:MG):Sp
 |mk (J:Bk->Prop) (A:BA) (sc c:δ) (ns:List Int) (many:Nat) (cs:List ι):vs=[.ref sc,.ref c,.ref A.b,.int (many:Nat)]->η K H sc (ns.map V.int)->↥ns<=63->many<=40->Χ H c cs->c∉A.fp->((∀H',η K H' sc (ns.map V.int))\/sc∉A.fp)->Ψ cs=true->Ρ (cB mg) H A #[cs,[],[],[],0,0]->J #[cs,[],[],[],0,0]->(∀B row o,(Μ B.rows row=none->o≠none)->(∀xs,o=↑xs->kJ B.heads xs)->J B->J (aP B row o))->(∀(d r s:δ)(B:Bk)(sn:List (Int×Int))(i:Nat) H',H d=none->H r=none->H s=none->Out A.fp H H'->Ω mg (d::r::s::A.fp) A d r s H' B B.now B.rows sn->eY A d r s (d::r::s::A.fp)->dU cs nM B sn i->many<=i->i<=many+20->J B->Q (.ref d) H')
def Hs:Def 8 "_law_begun" ["_law_script","_law_columns_here","_law_book","_law_many"] (Pb K mg):=by
 show Γ (S:=O4) T.Hs (λf Ϻ A' outer s0 H vs Q E hr h=>?_);intro X _;let#[J,A,sc,c,ns,many,cs,rfl,hS,hl,aqF,hC,ac,ax,hok,kB,j0,Yl,q]:=h;let nd:=O4.nd;let n1:=T.qj;let n2:=T.zu;let n3:=T.jT;let hsz:=ϯ;let l:_+1<cLine:=aet (agC (by decide:1<=64) _) hr.units;let#[c1,c6]:=lG hok;let D0:=!iC;let D2:=!uY;let D3:=!yQ;let M1:aK P w K mg base true 6 (cB mg) "put" ["self","row","values"] (tW mg):=(Nv T).meth T.aF T.WX;w_up;f_tup;show agv λd hd=>?_
 let#[sd,ed,H,d,H1]:=Ο hd (.dK []);f_are;show uU λr L=>?_
 let#[sr,er,H1,r,H2]:=Ο L (.dK []);f_are;show uU λs M=>?_
 let#[ss,es,H2,s,H3]:=Ο M (.dK []);f_are;f_are;show#[(sr<|>ss)<*ed,Sum.inr ("rows":Str),Sum.inr ("since":Str),Sum.inr ("moment":Str),rfl,rfl,rfl,?_];rw[adP];let aH:=(sd<|>sr)<|>ss;let Y:H r=none:=sd.free L;let Z:H s=none:=(sd<|>sr).free M;let ae:d≠r:=λe=>by rw[e]at ed;rw[ed]at L;cases L
 let af:d≠s:=λe=>by have:=sr _ _ ed;rw[e,M]at this;cases this
 let ay:r≠s:=λe=>by rw[e,M]at er;cases er
 let six:∀x∈A.six,H x≠none:=kB.ZQ;let ym:=kB.ym;let ap:eY A d r s (d::r::s::A.fp):=by
  show#[?_,λx m=>m];let h1:([A.h,A.r,A.t,A.d,A.b,A.dx]++[d,r,s]).Nodup:=by
   show alW.mpr #[ym,by simp[ae,af,ay],λa ha b hb e=>six a ha ?_];rw[e];let aC:b=d\/b=r\/b=s:= ~~~hb
   obtain rfl|rfl|rfl:=aC
   .show hd
   .show Y
   .show Z
  show h1
 let o0:Out A.fp H (upd H3 d (.dK (stK r s 0))):=λb u hb e=>by
  rw[θ (λz=>by rw[z,hd]at e;cases e)];show aH<*e
 let ag:Ω mg (d::r::s::A.fp) A d r s (upd H3 d (.dK (stK r s 0))) #[cs,[],[],[],0,0] 0 [] []:=by
  show#[kB.stay (λb ys e=>?_) λx o m e=>?_,ς,#[[],?_,.nil],#[[],?_,.nil]]
  .rw[θ (λz=>by rw[z,hd]at e;cases e)];show aH<*e
  .rw[θ (λz=>by rw[z,hd]at e;cases e)];show aH<*e
  .rw[θ (Ne.symm ae)];show ss<*er
  .rw[θ (Ne.symm af)];show es
 let aE:dU cs cL #[cs,[],[],[],0,0] [] 0:=#[rfl,by simp,λi=>by simp[Μ],λp hp=>by simp at hp,λk hk=>by simp at hk,Ϭ _,Ϭ _,Ϭ _,rfl];let fr:∀x,H x≠none->x∉A.fp->x∉d::r::s::A.fp:=λx m hA hm=>by
  simp only[aaB]at hm;obtain rfl|rfl|rfl|z:=hm
  .show m hd
  .show m Y
  .show m Z
  .show hA z
 let nU:H c≠none:=by
  let#[_,e,_]:=hC;rw[e];show λz=>by cases z
 let hcF:=fr c nU ac;let aa:∀{H':Hp},Out A.fp H H'->η K H' sc (ns.map V.int):=λo=>by
  obtain z|z:=ax
  .show z _
  .show o.seq z hS
 let aI:NT H A.fp:=λx m ys e=>by
  obtain⟨fs,z⟩|⟨Ϸ,z⟩|⟨xs,z⟩:=kB.Js m<;>(rw[z]at e;cases e)
 let ah:∀{H':Hp},Out A.fp H H'->Χ H' c cs:=λo=>hC.out o aI ac
 let oA:∀{H1 H':Hp},Out A.fp H H1->Out (d::r::s::A.fp) H1 H'->Out A.fp H H':=λo1 o2 b u hb e=>o2 b u (fr b (by rw[e];show λz=>by cases z) hb) (o1 b u hb e)
 generalize upd H3 d (.dK (stK r s 0))=H4 at o0 ag⊢
 let rest:∀(B:Bk)(sn:List (Int×Int))(σ:List (Option V))(H5:Hp)(n:Option V),σ=[↑(.ref sc),↑(.ref c),↑(.ref A.b),↑(.int (many:Nat)),↑(.ref d),n,none,none]->Out A.fp H H5->Ω mg (d::r::s::A.fp) A d r s H5 B B.now B.rows sn->dU cs cL B sn many->J B->
   Η X ((ϓ J8).drop 2) {nx:=λ_ H'=>Q .non H',rt:=Q} σ H5:=by
  intro B sn σ H5 n aQ O uA R G;subst aQ;w_up;show pR (by walk_at"po") (by rfl) (by rfl) n1 (by rfl) ?_>>=#[sc,ns,590,12,rfl,aa O,hl,by decide,by decide,by decide,?_];generalize ϒ ns 590 12=dv;lk;show dZ alF (.inr #[_,rfl,?_]);lk;let ai:∃cnt:Nat,cnt<=20/\(20:Int)*(if decide (V.int dv=V.int 0)=true then 1 else 0)=(cnt:Int):=by
   by_cases z:V.int dv=V.int 0
   .show#[20,Ϭ _,by rw[decide_eq_true z];rfl]
   .show#[0,(),by rw[decide_eq_false z];rfl]
  let#[cnt,ai,aR]:=ai;rw[aR];show#[(),(),λi σ' H'=>(∃n o6 o7,σ'=[↑(.ref sc),↑(.ref c),↑(.ref A.b),↑(.int (many:Nat)),↑(.ref d),n,o6,o7])/\Out A.fp H H'/\∃B sn,Ω mg (d::r::s::A.fp) A d r s H' B B.now B.rows sn/\dU cs (cL++jC i) B sn (many+i)/\J B,
   #[#[_,_,_,rfl],O,B,sn,uA,#[R.heads,R.nd,R.wf,R.ok,λk hk=>agF _ (R.keys k hk),R.tl,R.dl,R.sl,R.now],G],λi σ' H' hi hP=>?_,λσ' H' hP=>?_]
  .let#[#[n,o6,o7,rfl],y,B,sn,I,g,G]:=hP;let aS:i<20:=()
   let al:=anb i aS;let D:Μ B.rows (2000+((i*7 % 23:Nat):Int))=none:=zj.mpr λz=>al (g.keys _ z)
   let hrl:=g.len;let hkl:↥(cL++jC i)=8+i:=by rw[abp];unfold jC;rw[aaw,ahu];rfl
   show ω nd ?_;k_go;rw[show(2000:Int)+(i:Int)*7 % 23=2000+((i*7 % 23:Nat):Int)by omega];let gb:(0:Int)<=2000+((i*7 % 23:Nat):Int)/\2000+((i*7 % 23:Nat):Int)<=1000000000:=()
   let W:(2000+((i*7 % 23:Nat):Int))∈cL++jC (i+1):=adv _ (by
    unfold jC;show abt.mpr #[i,by simp,rfl])
   generalize 2000+((i*7 % 23:Nat):Int)=row at D gb W⊢;k_go;show#[sc,ns,_,c,cs,rfl,aa y,hl,(),(),ah y,c6,λv xs H6 s6 am hv F=>?_];let lD:v∉d::r::s::A.fp:=λz=>by
    let#[o,e,_]:=I.live v z;rw[e]at am;cases am
   w_up;show jr l ?_*>cX (pl:=_) hr Ϝ (h:=?_);f_are;let za:=I.same s6;show#[A.b,cB mg,A.dx,_,true,6,_,tW mg,rfl,za.bk.ins,by rfl,M1,by decide,id,?_]>>=iG (.inl (η.of hv)) λb hb=>?_
   let#[d7,eb,H6,b,H7]:=Ο hb (.lst xs);let rT:=za.same d7;lk;show#[A,B,row,b,xs,rfl,rT.bk,eb,by rw[g.heads];show c6,#[gb.1,gb.2,by rw[g.heads];show F],g.small () (),λz=>absurd D z,λ_ H8 o8 k8=>?_];let ar:=rT.book ap o8 k8;lk;show#[d,_,rfl,Qf ar.st,?_];let U:=ar.setM ap (B.now+1);let ux:Out (d::r::s::A.fp) H7 H8:=o8.mono λx m=>by simp[m]
   let o9:Out A.fp H (upd H8 d (.dK (stK r s (B.now+1)))):=oA y (((Out.of (s6<|>d7))<|>ux)<|>(Out.upd (by simp)));let R7:(upd H8 d (.dK (stK r s (B.now+1)))) v=↑(.lst xs):=by
    rw[θ (λz=>lD (by rw[z];simp))];show o8 _ _ (λz=>lD (by simp[z])) (d7<*hv)
   generalize upd H8 d (.dK (stK r s (B.now+1)))=H9 at U o9 R7⊢;let#[Gb,aT,Xj]:=id U.ro;let aqv:=Xj.len;w_up;show jr l ?_;lk;show cj l (mF U.st) ?_;lk;show#[r,_,rfl,dW.k (k:=Sum.inl row) aT (),?_];let fM:Ω mg (d::r::s::A.fp) A d r s (upd H9 r (.dK (putK Gb (Sum.inl row) (.ref v)))) (aP B row ↑xs) (B.now+1) (aP B row ↑xs).rows sn:=U.qZ ap (nA Xj row #[v,rfl,R7,lD]);let gm:Out A.fp H (upd H9 r (.dK (putK Gb (Sum.inl row) (.ref v)))):=oA o9 (Out.upd (by simp));generalize upd H9 r (.dK (putK Gb (Sum.inl row) (.ref v)))=pU at fM gm⊢;let#[aX,a0,au]:=id fM.si;let aqw:=au.len;let a1:=g.sl;f_len;show jr l ?_;lk;show cj l (wz fM.st) ?_;lk;show cj l (Qh fM.st) ?_;lk;show#[s,_,rfl,dW.k (k:=Sum.inl row) a0 (),?_];let a2:Ω mg (d::r::s::A.fp) A d r s (upd pU s (.dK (putK aX (Sum.inl row) (.int (B.now+1))))) (aP B row ↑xs) (B.now+1) (aP B row ↑xs).rows (rG sn row (B.now+1) ↑xs):=fM.XS ap (nA au row rfl);show#[#[_,_,_,rfl],oA gm (Out.upd (by simp)),_,_,a2,?_,Yl B row ↑xs (λ_=>by simp) (λys e=>by cases e;rw[g.heads];show F) G];show g.deed (λk hk=>by
    obtain hk|hk:=adH.mp hk
    .show agF _ hk
    .show adv _ ?_;unfold jC at hk⊢;let#[j,hj,e]:=abt.mp hk;show abt.mpr #[j,by simp at hj⊢;omega,e]) W (λys e=>by cases e;show F)
  .let#[#[n,o6,o7,rfl],y,B,sn,I,g,G]:=hP;symm;lk;let av:∀k∈cL++jC cnt,k∈nM:=λk hk=>by
    obtain hk|hk:=adH.mp hk
    .show agF _ hk
    .show adv _ ?_;unfold jC at hk⊢;let#[j,hj,e]:=abt.mp hk;show abt.mpr #[j,by simp at hj⊢;omega,e]
   let ab:(cnt:Int).toNat=cnt:=()
   show q d r s B sn (many+cnt) H' hd Y Z y I ap #[g.heads,g.nd,g.wf,g.ok,λk hk=>av k (by have:=g.keys k hk;simpa [ab]using this),g.tl,g.dl,g.sl,g.now] () () G
 w_up;show pR (by walk_at"po") (by rfl) (by rfl) n1 (by rfl) ?_>>=#[(),(),λi σ' H'=>(∃n,σ'=[↑(.ref sc),↑(.ref c),↑(.ref A.b),↑(.int (many:Nat)),↑(.ref d),n,none,none])/\Out A.fp H H'/\∃B sn,Ω mg (d::r::s::A.fp) A d r s H' B B.now B.rows sn/\dU cs cL B sn i/\J B,#[#[none,rfl],o0,_,[],ag,aE,j0],λi σ' H' hi hP=>?_,λσ' H' hP=>?_]
 .let#[#[n,rfl],y,B,sn,I,g,G]:=hP;let hi':i<many:=()
  let a1:=g.sl;show ω nd ?_;f_len;show aD ?_>>=#[d::r::s::A.fp,A,B,sc,c,d,r,s,ns,_,sn,rfl,aa y,hl,(),(),by rw[g.heads];show ah y,by rw[g.heads];show c6,I,ap,(λx m e=>by let#[o,z,_]:=I.live x m;rw[e]at z;cases z),g.small () (by show 8<1000000;decide),g.wf,(),g.get,λrow o H5 aw a3 yV O uA=>?_]*>#[#[_,rfl],oA y O,_,_,uA,g.deed (λk hk=>hk) aw (λxs e=>by rw[<-g.heads];show yV xs e),Yl B row o a3 yV G]
 .let#[#[n,rfl],y,B,sn,I,g,G]:=hP;let ab:((many:Nat):Int).toNat=many:=()
  first
   |show rest B sn _ H' n rfl y I g G
   |(rw[ab]at g;show rest B sn _ H' n rfl y I g G)
def Hm:Def 1 "value_word" ["value"] UW:=by
 exists ["value"],Hm,f,#[v,rfl,hs,a,c,q],n1.zU,n2.mH,g.Yw,j.Ui,1;w_up;cases v with
 |non=>
  cbv;show q
 |int i=>
  cbv;show lM (c i rfl) ?_*>q
 |str z=>
  let e:↥z<=4000:=a;let l:↥("'":Str)=1:=by fin2
  cbv;show dD () ?_*>q
 |_=>cases hs
def M7(x:V):Prop:=scalar x=true/\short x/\∀i,x=.int i->i.natAbs<10^60
inductive YS:Sp
 |mk (i:Int) (l:δ) (xs:List V):vs=[.int i,.ref l]->i.natAbs<10^60->H l=↑(.lst xs)->↥xs<=1000->(∀x∈xs,M7 x)->(∀p H',ζ H H'->H p=none->H' p=↑(.lst ((Ϫ (toString i)::xs.map wordOf).map V.str))->Q (.ref p) H')
def KJ:Def 2 "row_words" ["row","values"] YS:=by
 exists ["row","values"],KJ,U,#[i,l,xs,rfl,hi,hl,W,D,q],n1.mH;let F:(["value"]:List Str).Nodup:=by fin2
 let hsz:=ϯ;let Y:=!Hm;symm;cbv;show lM (iU hi) ?_;cbv;show#[Ε,λb G=>?_];let#[a,s]:=Ο G (.lst [.str (Ϫ (toString i))]);change EV _ _ _ (upd H b (.lst [.str (Ϫ (toString i))])) _;generalize upd H b (.lst [.str (Ϫ (toString i))])=H1 at a s⊢;show jd ["value"] (σ':=[none]) (bA (υ QK)) ?_;f_are;show#[l,xs,rfl,η.of (a<*hl),(),λv=>∃y,v=[y],λf i u H'=>∃x,xs[i]?=↑x/\u=.str (wordOf x),#[none,rfl],λf i u H2 I ys _ _ p=>p,λfp f C Z H0 i v x J I L hi g c M O=>?_,λf J ys L R m S c =>?_]
 .let#[y,rfl]:=g;let#[z,rfl]:=O;let n:=D x (aa0 z);show ω F ?_;cbv;show#[x,rfl,n.1,n.2.1,λj e=>iU (n.2.2 j e),?_]*>#[#[_,rfl],#[x,z,rfl],ζ.refl _]
 .let ey:=fJ (ys:=xs) (λx=>V.str (wordOf x)) R m;subst ey;show zr (c<*s) S (by rw[aaw];show 1+↥xs<=ϰ;omega) λp B=>?_
  show q p _ ((a<|>c)<|>(ζ.upd B)) ((a<|>c).free B) ?_;rw[ς,acY,afm];rfl
def Li:Def 1 "check_of" ["text"] Xr:=by
 exists Nz,Li,m,#[z,rfl,n,g,q],s.ahN,u.acN,n1.Rg,2;w_up;cbv;show XH (by walk_at"po") (by rfl) (by intro _;rfl) ?_;f_are;show#[z,rfl,λi σ H'=>H'=H/\∃t p o,σ=[↑(.str z),↑(.int t),↑(.int p),o]/\0<=t/\t<9973/\0<=p/\p<9973/\(t+p*aY (z.cps.toList.drop i)) % 9973=aY z.cps.toList,#[rfl,0,1,none,rfl,by decide,by decide,by decide,by decide,?_],λi c σ H' hi a=>?_,λσ H' a=>?_]
 .have :=qy z.cps.toList;rw[alI,asn,auq];show ape this.1 this.2
 .let#[rfl,t,p,o,rfl,t0,f,p0,p1,e]:=a;let j:=g c (aa0 hi);let hd:z.cps.toList.drop i=c::z.cps.toList.drop (i+1):=by
   let#[h1,h2]:=aav.mp hi;rw[afy h1,h2]
  rw[hd]at e;show ω nd ?_;w_up;cbv;show#[rfl,_,_,_,rfl,ah8 _ (by decide),agT _ (by decide),ah8 _ (by decide),agT _ (by decide),Z9 e]
 .let#[rfl,t,p,o,rfl,t0,f,p0,p1,e]:=a;rw[amX]at e;let l:t=aY z.cps.toList:=by
   rw[<-e];show t=(t+p*0) % 9973;rw[aun,auo,ape t0 f]
  cbv;rw[l];show q
def Cr:Def 2 "check_word" ["text"] Vh:=by
 exists ["text"],Cr,e,#[z,rfl,a,c,q],f.ajY,n1.mH,g Li;symm;show b7 F.plainAttrs_str F.slot_str_zfill F.type_str_zfill (h:=?_);cbv;show#[z,rfl,a,c,?_];let i:=qy z.cps.toList;cbv;show lM (iU ?_) ?_
 .have :(aY z.cps.toList).natAbs<9973:=()
  show acp this (by fin2)
 .cbv;show agP (by decide) (by decide) ?_*>q
def Ke:Def 1 "order_text" ["order"] Eo:=by
 exists ["order"],Ke,hr,#[a,os,rfl,#[vs,ha,e],hl,hn,q],g1.Y4,g2.R0;let v:(["name","up"]:List Str).Nodup:=by fin2
 let hsz:=ϯ;let J:=e.len;let y:↥("+":Str)=1:=by fin2
 let z:↥("-":Str)=1:=by fin2
 let L:↥(" ":Str)=1:=by fin2
 symm;show b7 F.plainAttrs_str F.slot_str_join F.type_str_join (h:=?_);f_are;show#[by rfl,dw (by rfl) ?_]*>jd ["name","up"] (σ':=[none,none]) (bA (υ Vg)) ?_;f_are;show#[a,vs,rfl,η.of ha,(),λB=>∃D G,B=[D,G],λg i u H'=>∃c,os[i]?=↑c/\u=.str (Ϛ c),#[none,none,rfl],λg i u H2 M ys _ _ p=>p,λfp g C s3 H0 i B x I M O hi j m R S=>?_,λg I ys O U n W m =>?_]
 .let#[D,G,rfl]:=j;let#[Y,rfl]:=S;let#[c,s,t,rfl,Z]:=e.get Y;let hcn:=hn c (aa0 s);show aj (ξ.of (m<*Z)) (Ι (ω v (Ι (ω v (ao ?_)))));cbv;show jw (λh=>?_) (λh=>?_)
  .cbv;show dD (by rw[y];omega) ?_*>#[#[_,_,rfl],#[c,s,by unfold Ϛ;rw[if_pos h]],ζ.refl _]
  .cbv;show dD (by rw[z];omega) ?_*>#[#[_,_,rfl],#[c,s,by unfold Ϛ;rw[if_neg (by rw[h];show aaD)]],ζ.refl _]
 .let ey:=fJ (ys:=os) (λc=>V.str (Ϛ c)) (by rw[U,J]) n;let gJ:ys=(os.map Ϛ).map V.str:=by rw[ey,afm];rfl
  subst gJ;cbv;show jW (η.of W) ?_ (q I m);rw[L,aaw];let f:∀l:List Ord,(∀o∈l,↥o.1<=1000)->((l.map Ϛ).map (·.length)).sum<=↥l*1001:=by
   intro l;induction l with
   |nil=>intro _;simp
   |cons o l ih=>
    intro h;let h1:=ih λx hx=>h x (by simp[hx])
    let h2:=h o (by simp);let h3:↥(Ϛ o)<=1001:=by
     unfold Ϛ;rw[len_app];split
     .rw[y];omega
     .rw[z];omega
    simp only[acY,ao4,acD];omega
  have:=f os hn;omega
def amr:∀(i:Nat),c∈cs->gY cs c.1 i≠.non:=by
 induction cs with
 |nil=>intro i h;simp at h
 |cons d r a=>
  intro i h;unfold gY;by_cases e:d.1=c.1
  .rw[if_pos e];intro z;cases z
  .rw[if_neg e];obtain z|z:=aaB.mp h
   .subst z;show absurd rfl e
   .show a (i+1) z
def aby:("+":Str).cps.toList=[43]/\("-":Str).cps.toList=[45]/\(" ":Str).cps.toList=[32]/\("":Str).cps.toList=[]:=by fin2
def ahM:ϐ (#[#v[x]]++n) ↑1 none=n:=by
 apply gM;rw[show(ϐ (#[#v[x]]++n) ↑1 none).cps.toList=(#[#v[x]]++n:Str).cps.toList.drop 1 from CV _ 1,bJ];rfl
def adR(f:c∈cs)(e:c.1=o.1):iW cs (Ϛ o)=↑o:=by
 let#[n,up]:=o;let g:gY cs n 0≠.non:=by rw[<-show c.1=n from e];show amr 0 f
 let a:∀x:Nat,(x=43\/x=45)->iW cs (#[#v[x]]++n)=↑(n,decide (x=43)):=λx i=>by
  unfold iW;rw[ahM];let j:(#[#v[x]]++n:Str).cps.toList[0]?=↑x:=by rw[bJ];rfl
  rw[j,if_pos #[by obtain z|z:=i<;>simp[z],g]];simp
 unfold Ϛ;cases up with
 |true=>show a 43 (.inl rfl)
 |false=>show a 45 (.inr rfl)
def acQ(h:32∉o.1.cps.toList):32∉(Ϛ o).cps.toList:=by
 unfold Ϛ;rw[bJ];let#[e1,a,_]:=aby
 split
 .rw[e1];simpa using h
 .rw[a];simpa using h
theorem ae5:∀{ps:List Str},ad2 " " ps=""->ps=[]\/ps=[Ϫ ""]
 |[],_=>.inl rfl
 |[p],h=>.inr (by rw[show p="" from h])
 |p::q::r,h=>by
  let e:(ad2 " " (p::q::r)).cps.toList=gq 32 ((p::q::r).map λp=>p.cps.toList):=qU 32 _;rw[h]at e;let a:([]:List Nat)=p.cps.toList++32::gq 32 ((q::r).map λp=>p.cps.toList):=e;have:=congrArg apW a;simp at this
def R8{os:List Ord}(hl:↥os<=4)(hn:(os.map Prod.fst).Nodup)(n:∀o∈os,∃c∈cs,c.1=o.1)(q:∀o∈os,32∉o.1.cps.toList):iY cs (bN os)=↑os:=by
 unfold iY bN;by_cases l:os=[]
 .subst l;show if_pos (by fin2)
 .let h1:os.map Ϛ≠[]:= ~~~l
  let s:∀p∈os.map Ϛ,32∉p.cps.toList:=λp u=>by
   let#[o,m,rfl]:=abt.mp u;show acQ (q o m)
  let v:os.map Ϛ≠[Ϫ ""]:=λe=>by
   have:Ϫ ""∈os.map Ϛ:=by rw[e];simp
   let#[o,m,a]:=abt.mp this;let B:=congrArg (λz:Str=>↥z.cps.toList) a;let D:(Ϛ o).cps.toList.length=1+↥o.1.cps.toList:=by
    unfold Ϛ;rw[bJ,abp];let#[E,F,_]:=aby
    split
    .rw[E];rfl
    .rw[F];rfl
   let G:("":Str).cps.toList.length=0:=by fin2
   let f:(Ϛ o).cps.toList.length=("":Str).cps.toList.length:=B;rw[D,G]at f;omega
  rw[if_neg (λz=>(ae5 z).elim h1 v),zX h1 s,aaw,if_neg ()];let H:j9 (iW cs) (os.map Ϛ)=↑os:=by
   show Ox (by simp) λi x y e1 a=>?_
   rw[abD,a]at e1;let g:Ϛ y=x:=Option.some.inj e1;let#[c,j,I]:=n y (aa0 a);rw[<-g];show adR j I
  rw[H];show(if(os.map Prod.fst).Nodup then some os else none)=↑os;rw[if_pos hn]
structure Cut where
 ahead:Bool
 row:Nat
 xs:List V
structure Mk where
 living:Bool
 moment:Nat
 os:List Ord
 sieve:Str
 cut:Cut
def bM(b:Bool):Str:=if b=true then Ϫ "ahead" else Ϫ "behind"
def aW(b:Bool):Str:=if b=true then Ϫ "<" else Ϫ ">"
def bB(b:Bool):Str:=if b=true then Ϫ "living" else Ϫ "still"
def ig(b:Bool):Str:=if b=true then Ϫ "l" else Ϫ "s"
def sX(H:Hp)(c:δ)(C:Cut):=∃k v,H c=↑(.tup [.str (bM C.ahead),.ref k])/\H k=↑(.tup [.ref v,.int C.row])/\H v=↑(.lst C.xs)
def sX.same(h:sX H c C)(s:ζ H H'):sX H' c C:=by
 let#[k,v,h1,h2,a]:=h;show#[k,v,s<*h1,s<*h2,s<*a]
def ahq(H:Hp)(p:δ)(M:Mk):=∃o c,H p=↑(.tup [.str (bB M.living),.int M.moment,.ref o,.str M.sieve,.ref c])/\aL H o M.os/\sX H c M.cut
def bL(C:Cut):List Str:=Ϫ (toString (C.row:Int))::C.xs.map wordOf
def cR(C:Cut):Str:=aW C.ahead++ad2 " " (bL C)
def cz(M:Mk):List Str:=[ig M.living,Ϫ (toString (M.moment:Int)),bN M.os,M.sieve,cR M.cut]
def ϡ(M:Mk):Str:=ad2 "/" (cz M)
def du(M:Mk):Str:=ϡ M++Ϫ "."++c7 (aY (ϡ M).cps.toList)
def aoj(h:ps≠[])(a:∀p∈ps,47∉p.cps.toList):ϑ 47 (ad2 "/" ps)=ps:=by
 unfold ϑ;let e:(ad2 "/" ps).cps.toList=gq 47 (ps.map λp=>p.cps.toList):=qU 47 ps;rw[e,zx (~~~h) λp c=>?_,afm]
 .have :((λl:List Nat=>(#[l.toArray]:Str))∘λp:Str=>p.cps.toList)=id:=by
   funext p;rfl
  rw[this,asF]
 .let#[q,f,rfl]:=abt.mp c;show a q f
def jU(cs:List ι)(z:Str):Str:=match cs[ϋ cs z]? with
 |some c=>c.2
 |none=>Ϫ ""
structure bR(cs:List ι)(M:Mk):Prop where
 moment:M.moment<=5000
 len:↥M.os<=4
 names:∀o∈M.os,o.1∈cs.map Prod.fst
 nodup:(M.os.map Prod.fst).Nodup
 row:M.cut.row<=1000000000
 vals:ρ (λ(o:Ord) x=>ϖ (jU cs o.1) x) M.os M.cut.xs
 plain:plainS M.sieve
 short:↥M.sieve<=2800
 words:∀y∈ϑ 32 M.sieve,↥y<=900
 reads:∃t:Tr,t.dep<=20/\Reads cs (ϑ 32 M.sieve) t 0 ↥(ϑ 32 M.sieve)
def ah9(b:Bool):plainS (ig b):=by cases b<;>(unfold plainS;fin2)
def ac8(b:Bool):plainS (aW b):=by cases b<;>(unfold plainS;fin2)
def aej(h:plainS o.1):plainS (Ϛ o):=by
 unfold Ϛ;show plainS.app ?_ h;let h1:plainS ("+":Str):=by unfold plainS;fin2
 let h2:plainS ("-":Str):=by unfold plainS;fin2
 split
 .show h1
 .show h2
theorem adL(h:bR cs M):∀p∈bL M.cut,plainS p:=λp hp=>by
 obtain rfl|hp:=aaB.mp hp
 .show FZ _
 .let#[x,a,rfl]:=abt.mp hp;let#[o,_,c]:=h.vals.Eu x a;show c.plain
theorem aa5(a:Ψ cs=true)(h:bR cs M):∀p∈cz M,plainS p:=λp i=>by
 let f:p=ig M.living\/p=Ϫ (toString (M.moment:Int))\/p=bN M.os\/p=M.sieve\/p=cR M.cut:=by simpa [cz]using i
 obtain rfl|rfl|rfl|rfl|rfl:=f
 .show ah9 _
 .show FZ _
 .show plainS.join λq j=>?_
  let#[o,l,rfl]:=abt.mp j;show aej (Es ?_);let#[c,g,e]:=abt.mp (h.names o l);unfold Ψ at a;simp only[aaO,acL]at a;rw[<-e];show(a.1.2 c g).1
 .show h.plain
 .show(ac8 _).app (plainS.join (adL h))
theorem afl(a:Ψ cs=true)(h:bR cs M):ϑ 47 (ϡ M)=cz M:=
 aoj (by simp[cz]) λp c e=>(aa5 a h p c 47 e).2.2.2 rfl
def Br(n:Int)(a:0<=n:=by omega)(h1:n<9973:=by omega):46∉(c7 n).cps.toList/\↥(c7 n)=4:=by
 let#[m,rfl]:=abz a;have:=Qw (n:=m) ();unfold yc at this;simp only[aaO,decide_eq_true_eq,acL]at this;show#[λc=>?_,this.1];have:=this.2.1 46 c;unfold tU at this;simp at this
def K7(M:Mk):Txt.rpartition (du M) #[#v[46]]=(ϡ M,#[#v[46]],c7 (aY (ϡ M).cps.toList)):=by
 let f:=qy (ϡ M).cps.toList;let c:=Br (aY (ϡ M).cps.toList);let e:(du M).cps.toList=(ϡ M).cps.toList++46::(c7 (aY (ϡ M).cps.toList)).cps.toList:=by
  unfold du;rw[bJ,bJ,show(".":Str).cps.toList=[46]from by fin2,asy];rfl
 let a:∀z:Str,(#[z.cps.toList.toArray]:Str)=z:=λz=>by
  let#[#[l]]:=z;rfl
 rw[ahy e c.1,a,a]
theorem Uk:∀ps:List Str,↥(ad2 "/" ps)<=(ps.map (·.length)).sum+↥ps
 |[]=>by show(0:Nat)<=_;omega
 |[p]=>by
  show ↥p<=_;simp
 |p::q::r=>by
  let a:=Uk (q::r);let c:↥("/":Str)=1:=by fin2
  show(p++Ϫ "/"++ad2 "/" (q::r)).length<=_;rw[len_app,len_app,c];simp only[acY,ao4,acD]at a⊢;omega
def Y0(a:Ψ cs=true)(i:z∈cs.map Prod.fst):jU cs z="number"\/jU cs z="text":=by
 let#[c,f,e]:=abt.mp i;let g:ϋ cs z<↥cs:=tM #[c,f,e];unfold jU;rw[ϳ g];unfold Ψ at a;simp only[aaO,acL]at a;let h2:=(a.1.2 cs[ϋ cs z] (afz g)).2;unfold oU at h2;show of_decide_eq_true h2
theorem bR.Hy(f:Ψ cs=true)(h:bR cs M):∀x∈M.cut.xs,M7 x/\↥(wordOf x)<=21/\32∉(wordOf x).cps.toList:=λx g=>by
 let#[o,l,a]:=h.vals.Eu x g;let c:=a.word (Y0 f (h.names o l));show#[#[a.sc,?_,λi e=>?_],c.2.1,c.2.2.1]
 .obtain rfl|⟨_,i,rfl,_⟩|⟨_,z,rfl,hl,_⟩:=a
  .trivial
  .trivial
  .show ↥z<=4000;omega
 .subst e;obtain e|⟨_,j,e,h1,h2⟩|⟨_,z,e,_⟩:=a
  .cases e
  .cases e;have:(10:Nat)^60>1000000000000000000:=by decide
   omega
  .cases e
def bR.Vt(h:bR cs M):↥M.cut.xs<=4:=by
 have:=h.vals.len;have:=h.len;omega
def Bo(a:Ψ cs=true)(h:bR cs M):(∀p∈bL M.cut,↥p<=21)/\↥(bL M.cut)<=5:=by
 show#[λp hp=>?_,?_]
 .obtain rfl|hp:=aaB.mp hp
  .have :=CK (i:=(M.cut.row:Int)) (k:=10) (by have:=h.row;have:(10:Nat)^10>1000000000:=(by decide);omega);omega
  .let#[x,c,rfl]:=abt.mp hp;show(h.Hy a x c).2.1
 .have :=h.Vt;show(M.cut.xs.map wordOf).length+1<=5;rw[aaw];omega
def Jz(a:Ψ cs=true)(h:bR cs M):↥(cR M.cut)<=200:=by
 let#[h1,h2]:=Bo a h;let c:=lR _ 21 h1;let e:=kO (bL M.cut);let f:↥(aW M.cut.ahead)=1:=by cases M.cut.ahead<;>fin2
 unfold cR;rw[len_app];omega
inductive Uz:Sp
 |mk (c:δ) (M:Mk) (cs:List ι):vs=[.ref c]->sX H c M.cut->Ψ cs=true->bR cs M->(∀H',ζ H H'->Q (.str (cR M.cut)) H')
def HD:Def 3 "cut_text" ["cut"] Uz:=by
 exists aa2,HD,y,#[c,M,cs,rfl,#[k,v,g,l,m],j,a,q],2,z.uX,B.VD,D.N8,1;let n:↥(" ":Str)=1:=by fin2
 let F:=!KJ;let#[h1,h2]:=Bo j a;let G:=lR _ 21 h1;let I:=kO (bL M.cut);w_up;show fV ?_>>=Β (ξ.of g) (i:=1) rfl ?_*>aj (ξ.of l) (Ι (ω nd (Ι (ω nd (ao ?_)))));let rest:Η X ((ϓ Ly).drop 2) {nx:=λ_ H'=>Q .non H',rt:=Q} [↑(.ref c),↑(.ref v),↑(.int M.cut.row),↑(.str (aW M.cut.ahead))] H:=by
  let J:↥(aW M.cut.ahead)=1:=by cases M.cut.ahead<;>fin2
  symm;lk;show #[(M.cut.row:Int),v,M.cut.xs,rfl,?_,m,by have:=a.Vt;omega,λx s=>(a.Hy j x s).1,λp H1 u L e1=>?_]
  .have :=a.row;have:(10:Nat)^60>1000000000:=by decide
   omega
  lk;show jW (ys:=bL M.cut) (η.of e1) (by rw[n];omega) ?_>>=dD () ?_*>q H1 u
 k_go;show Β (ξ.of g) (i:=0) rfl ?_;lk;have:M.cut.ahead=true\/M.cut.ahead=false:=by cases M.cut.ahead<;>simp
 obtain e|e:=this
 .let e1:V.str (bM M.cut.ahead)=V.str ("ahead":Str):=by rw[e];rfl
  let f:aW M.cut.ahead=Ϫ "<":=by rw[e];rfl
  show Α (λ_=>?_) (λh=>absurd e1 h);lk;rw[f]at rest;show rest
 .let e1:¬V.str (bM M.cut.ahead)=V.str ("ahead":Str):=by rw[e];fin2
  let f:aW M.cut.ahead=Ϫ ">":=by rw[e];rfl
  show Α (λh=>absurd h e1) (λ_=>?_);lk;rw[f]at rest;show rest
def Q6(a:Ψ cs=true)(h:bR cs M):↥(bN M.os)<=100:=by
 let h1:=lR (M.os.map Ϛ) 9 λp c=>by
  let#[o,e,rfl]:=abt.mp c;have:=nZ (lE a (h.names o e));let f:↥("+":Str)=1:=by fin2
  let g:↥("-":Str)=1:=by fin2
  unfold Ϛ;rw[len_app];split <;>omega
 let h2:=kO (M.os.map Ϛ);let i:=h.len;rw[aaw]at h1 h2;unfold bN;omega
def wC(a:Ψ cs=true)(h:bR cs M):((cz M).map (·.length)).sum<=3200/\↥(ϡ M)<=3300:=by
 let h1:↥(ig M.living)=1:=by cases M.living<;>fin2
 let h2:=CK (i:=(M.moment:Int)) (k:=4) (by have:=h.moment;have:(10:Nat)^4>5000:=(by decide);omega);let c:=Q6 a h;let f:=h.short;let g:=Jz a h;let e:((cz M).map (·.length)).sum=↥(ig M.living)+(↥(Ϫ (toString (M.moment:Int)))+(↥(bN M.os)+(↥M.sieve+(↥(cR M.cut)+0)))):=rfl;let j:=Uk (cz M);let l:↥(cz M)=5:=rfl;unfold ϡ;omega
def CG(a:Ψ cs=true)(h:bR cs M):∀c∈(ϡ M).cps.toList,c<1114112:=by
 let f:∀ps:List Str,(∀p∈ps,plainS p)->∀c∈(ad2 "/" ps).cps.toList,c<1114112:=by
  intro ps;induction ps with
  |nil=>intro _ c a;have:c∈([]:List Nat):=a;simp at this
  |cons p r i=>
   intro g c hcm;cases r with
   |nil=>have:=g p (by simp) c hcm;omega
   |cons q r=>
    let e:(ad2 "/" (p::q::r)).cps.toList=(p++Ϫ "/"++ad2 "/" (q::r)).cps.toList:=rfl;rw[e,bJ,bJ]at hcm;obtain hcm|hcm:=adH.mp hcm
    .obtain hcm|hcm:=adH.mp hcm
     .have :=g p (by simp) c hcm;omega
     .have :∀c∈("/":Str).cps.toList,c<1114112:=by fin2
      show this c hcm
    .show i (λx j=>g x (by simp[j])) c hcm
 show f _ (aa5 a h)
inductive aah:Sp
 |mk (p:δ) (M:Mk) (cs:List ι):vs=[.ref p]->ahq H p M->Ψ cs=true->bR cs M->(∀H',ζ H H'->Q (.str (du M)) H')
def Fp:Def 4 "mark_text" ["mark"] aah:=by
 exists Uw,Fp,F,#[p,M,cs,rfl,#[o,c,ep,j,m],e,a,q],2,G.Xz,I.RC,n1.mH,1;let ls:↥("/":Str)=1:=by fin2
 let J:↥(".":Str)=1:=by fin2
 let L:=!Ke;let O:=!HD;let R:=!Cr;let#[U,W]:=wC e a;w_up;show fV ?_>>=aj (ξ.of ep) (Ι (ω nd (Ι (ω nd (Ι (ω nd (Ι (ω nd (Ι (ω nd (ao ?_)))))))))));k_go;let s:∃n,Θ (bB M.living).cps.toList 0=↑n/\ig M.living=#[#v[n]]/\↥(bB M.living)<=6:=by
  cases M.living
  .show#[115,by fin2,by fin2,by fin2]
  .show#[108,by fin2,by fin2,by fin2]
 let#[n,u,v,y]:=s;show j8 () u ?_>>=lM (iU ?_) ?_
 .have :=a.moment;have:(10:Nat)^60>5000:=by decide
  omega
 lk;show#[o,M.os,rfl,j,by have:=a.len;omega,λx z=>by have:=nZ (lE e (a.names x z));omega,λH1 g =>?_]>>=#[c,M,cs,rfl,m.same g,e,a,λH2 B =>?_]>>=#[Ε,λl hl=>?_];let#[sl,i]:=Ο hl (.lst ((cz M).map V.str));let f:(HO.lst [V.str #[#v[n]],V.str (Ϫ (toString (M.moment:Int))),V.str (bN M.os),V.str M.sieve,V.str (cR M.cut)])=.lst ((cz M).map V.str):=by
  rw[<-v];rfl
 rw[f];generalize upd H2 l (.lst ((cz M).map V.str))=D at sl i⊢;lk;show jW (ys:=cz M) (η.of i) (by rw[ls];show _+5*1<=_;omega) ?_;symm;lk;show dD (by show(ϡ M).length+_<=_;omega) ?_>>=#[ϡ M,rfl,(),CG e a,?_];let Y:=qy (ϡ M).cps.toList;let Z:=Br (aY (ϡ M).cps.toList);show dD (by rw[len_app];show(ϡ M).length+_+_<=_;omega) ?_*>q D ((g<|>B)<|>sl)
def xZ:Def 2 "key_of" ["columns","order","row","values"] Vf:=by
 exists ["columns","order","row","values"],xZ,hr,#[a,b,n,c,cs,os,xs,rfl,S,#[ws,U,g],W,cO,Y,Z,m,q];let D:(["name","up","columns","values"]:List Str).Nodup:=by fin2
 let hsz:=ϯ;let s:=g.len;let D1:=!nQ;symm;show Hd ?_*>dw (by rfl) ?_*>jd ["name","up","columns","values"] (σ':=[none,none,↑(.ref a),↑(.ref c)]) (bA (υ O6)) ?_;f_are;show#[b,ws,rfl,η.of U,(),λF=>∃G I,F=[G,I,↑(.ref a),↑(.ref c)],λj i u H'=>∃o,os[i]?=↑o/\u=bY cs xs o.1,#[none,none,rfl],λj i u H2 H3 ys _ _ p=>p,λfp j C s3 H0 i F x v H3 J hi y f hys hG=>?_,λj v ys J ϻ z e4 f =>?_]
 .let#[G,I,rfl]:=y;let#[au,rfl]:=hG;let#[o,L,t,rfl,ht]:=g.get au;show aj (ξ.of (f<*ht)) (Ι (ω D (Ι (ω D (ao ?_)))));cbv;show#[a,cs,o.1,rfl,S.same f,λH5 M=>?_];let l:=m o (aa0 L);rw[vh 0 l,alw];let hlt:=tM l;let O:xs[ϋ cs o.1]?=↑xs[ϋ cs o.1]:=ϳ ();show ύ (η.of (M<*(f _ _ W))) (ϔ O) ?_*>#[#[_,_,rfl],#[o,L,by unfold bY;rw[O];rfl],M]
 .let ey:=fJ (ys:=os) (λo=>bY cs xs o.1) (by rw[ϻ,s]) z;cbv;show#[Ε,λp B=>?_];let pn:H p=none:=by
   cases e:H p with
   |none=>rfl
   |some u=>rw[f<*e]at B;cases B
  let R:ζ v (upd v p (.tup [.ref j,.int n])):=ζ.upd B;show q p j _ (f<|>R) pn J ?_ ς;rw[R<*e4,ey];rfl
def Ef:Def 2 "key_ahead" ["order","one","other"] abl:=by
 exists Vw,Ef,hr,#[b,p,q,os,xs,ys,n,k,rfl,#[ws,M,g],#[l,O,hl],#[m,R,U],W,s,Jb,a],2,n1.JF;let hwl:=g.len;let D1:=!uZ;w_up;show akB (by walk_at"po") (by rfl) (by rfl) n1 (by rfl) (by rfl) (by rfl) ?_;cbv;show Β (ξ.of O) (show Θ [V.ref l,V.int n] 0=↑(V.ref l)from rfl) ?_;cbv;show Β (ξ.of R) (show Θ [V.ref m,V.int k] 0=↑(V.ref m)from rfl) ?_;show#[b,l,m,ws,xs,ys,#[rfl,rfl,rfl],M,hl,U,(),(),λi σ H'=>(∃B D F,σ=[↑(.ref b),↑(.ref p),↑(.ref q),B,D,F])/\ζ H H'/\∀j x y,j<i->xs[j]?=↑x->ys[j]?=↑y->x=y,
  #[#[none,none,none,rfl],ζ.refl _,λj x y Y=>()],λi σ H' c=>#[η.of (c.2.1<*M),η.of (c.2.1<*hl),η.of (c.2.1<*U)],λi v x y G σ H' hv I J c hT=>?_,λσ H' c=>?_]
 .let#[#[B,D,F,rfl],sm,hn]:=c;let#[o,ho,t,rfl,ht]:=g.get hv;let u :=sm<|>(ζ.upd (o:=.tup [.ref t,x,y]) hT);let Z:(upd H' G (.tup [.ref t,x,y])) G=↑(.tup [.ref t,x,y]):=ς;generalize upd H' G (.tup [.ref t,x,y])=H2 at u Z⊢;let#[sx,sy,L]:=Jb i x y I J;show aj (ξ.of Z) (Ι (ω nd (Ι (ω nd (Ι (ω nd (ao ?_)))))));f_len;cbv;show Hx (BL sx sy) ?_;cbv;show jw (λh=>?_) (λh=>?_)
  .let Ϲ:¬x=y:= ~~~h
   cbv;show#[x,y,rfl,L,?_];cbv;show Β (ξ.of (u<*ht)) (show Θ [V.str o.1,V.bl o.2] 1=↑(V.bl o.2)from rfl) ?_;cbv;let e:=Wb (n:=n) (k:=k) W s ho I J hn Ϲ;let f:decide (V.bl (before x y)=V.bl o.2)=decide (before x y=o.2):=by
    congr 1
    show propext #[λz=>by injection z,λz=>by rw[z]]
   rw[f, <-e];show a H2 u
  .let he:x=y:= ~~~h
   cbv;show#[#[_,_,_,rfl],u,λj x' y' Y e1 f=>?_];by_cases e:j=i
   .subst e;rw[I]at e1;rw[J]at f;cases e1;cases f;show he
   .show hn j x' y' () e1 f
 .let#[#[B,D,F,rfl],sm,hn]:=c;f_len;cbv;show Β (ξ.of (sm<*O)) (show Θ [V.ref l,V.int n] 1=↑(V.int n)from rfl) ?_;cbv;show Β (ξ.of (sm<*R)) (show Θ [V.ref m,V.int k] 1=↑(V.int k)from rfl) ?_;cbv;rw[<-Ov (n:=n) (k:=k) W s λj x y Y e1 f=>hn j x y () e1 f];show a H' sm
def eQ(H:Hp)(v:V):Ct->Prop
 |.start=>∃t,v=.ref t/\H t=↑(.tup [.str "start"])
 |.fin=>∃t,v=.ref t/\H t=↑(.tup [.str "end"])
 |.at_ sd xs n=>∃t k,v=.ref t/\H t=↑(.tup [.str (bM sd),.ref k])/\ju H k xs n
def eQ.same(h:eQ H v c)(s:ζ H H'):eQ H' v c:=by
 cases c with
 |start=>let#[t,e,h]:=h;show#[t,e,s<*h]
 |fin=>let#[t,e,h]:=h;show#[t,e,s<*h]
 |at_ sd xs n=>let#[t,k,e,h,g]:=h;show#[t,k,e,s<*h,g.same s]
inductive S7:Sp
 |mk (b p:δ) (v:V) (os:List Ord) (cs:List ι) (sd:Bool) (xs ys:List V) (n k:Int):vs=[.ref b,.ref p,v]->aL H b os->ju H p xs n->eQ H v (.at_ sd ys k)->bZ cs os xs->bZ cs os ys->(∀H',ζ H H'->Q (.bl (xJ os (.at_ sd ys k) xs n)) H')
def Jt:Def 3 "lies_ahead" ["order","key","cut"] S7:=by
 exists ["order","key","cut"],Jt,l,#[b,p,v,os,cs,sd,xs,ys,n,k,rfl,c,e,#[t,kk,rfl,f,g],i,j,q],m.uX,s Ef;cases sd with
 |true=>
  let a:H t=↑(.tup [.str ("ahead":Str),.ref kk]):=f;let#[x1,x2,x3]:=i.aJ j;w_up;show Λ ?_>>=Β (ξ.of a) (show Θ [V.str ("ahead":Str),.ref kk] 0=↑(V.str ("ahead":Str))from rfl) ?_>>=bV ?_;symm;lk;show Β (ξ.of a) (show Θ [V.str ("ahead":Str),.ref kk] 1=↑(V.ref kk)from rfl) ?_>>=#[b,p,kk,os,xs,ys,n,k,rfl,c,e,g,x1,x2,x3,λH' s'=>q H' s']
 |false=>
  let a:H t=↑(.tup [.str ("behind":Str),.ref kk]):=f;let#[x1,x2,x3]:=j.aJ i;w_up;show Λ ?_>>=Β (ξ.of a) (show Θ [V.str ("behind":Str),.ref kk] 0=↑(V.str ("behind":Str))from rfl) ?_>>=cD ?_*>Δ ?_;symm;lk;show Β (ξ.of a) (show Θ [V.str ("behind":Str),.ref kk] 1=↑(V.ref kk)from rfl) ?_>>=#[b,kk,p,os,ys,xs,k,n,rfl,c,g,e,x1,x2,x3,λH' s'=>?_]>>=q H' s'
def cF(cs:List ι)(os:List Ord)(c:Ct)(rs:List Row):Nat:=match c with
 |.start=>0
 |.fin=>↥rs
 |.at_ sd xs n=>rs.countP (bH cs os (.at_ sd xs n))
def Bg{os:List Ord}{c:Ct}{rs:List Row}:cF cs os c rs<=↥rs:=by
 cases c with
 |start=>show aeG _
 |fin=>show Ϭ _
 |at_ sd xs n=>show arH
structure mU(cs:List ι)(os:List Ord)(rs:List Row):Prop where
 cols:1<=↥cs/\↥cs<=6
 Dg:↥os<=4
 inc:cU cs os
 fit:∀r∈rs,ϛ cs r
 line:Line cs os rs
 few:↥rs<=1000
inductive XF:Sp
 |mk (a b p:δ) (v:V) (cs:List ι) (os:List Ord) (rs:List Row) (c:Ct):vs=[.ref a,.ref b,.ref p,v]->Χ H a cs->aL H b os->fU H p rs->eQ H v c->mU cs os rs->lN cs os c->(∀H',ζ H H'->Q (.int (cF cs os c rs:Nat)) H')
def zq:Def 4 "cut_place" ["columns","order","line","cut"] XF:=by
 exists Ri,zq,j,#[a,b,p,v,cs,os,rs,c,rfl,hC,Z,#[ws,hp,u],F,f,x,q],2,g1.aan,g2.af5,n1.bz,1,D1 xZ,D2 Jt;let y:=u.len;let HH:η K H p ws:=η.of hp;let#[c1,c6]:=f.cols;let o4:=f.Dg;let few:=f.few;cases c with
 |start=>
  let#[t,rfl,g]:=F;w_up;show Λ ?_>>=Β (ξ.of g) (show Θ [V.str ("start":Str)] 0=↑(V.str ("start":Str))from rfl) ?_>>=bV ?_;symm;lk;show q H (ζ.refl _)
 |fin=>
  let#[t,rfl,g]:=F;w_up;show Λ ?_>>=Β (ξ.of g) (show Θ [V.str ("end":Str)] 0=↑(V.str ("end":Str))from rfl) ?_>>=cD ?_*>Δ ?_;w_up;show Λ ?_>>=Β (ξ.of g) (show Θ [V.str ("end":Str)] 0=↑(V.str ("end":Str))from rfl) ?_>>=bV ?_;symm;lk;rw[y];show q H (ζ.refl _)
 |at_ sd xs n=>
  let L:=F;let#[t,k,rfl,g,hk]:=F;let#[p1,p2]:=Gk (El f.inc x f.fit f.line);let Ow:rs.countP (bH cs os (.at_ sd xs n))<=↥rs:=arH;let qN:∀H',ζ H H'->Q (.int (rs.countP (bH cs os (.at_ sd xs n)):Nat)) H':=q;generalize hN:rs.countP (bH cs os (.at_ sd xs n))=N at p1 p2 Ow qN;let z:bM sd≠Ϫ "start"/\bM sd≠Ϫ "end":=by cases sd<;>fin2
  w_up;show Λ ?_>>=Β (ξ.of g) (show Θ [V.str (bM sd),.ref k] 0=↑(V.str (bM sd))from rfl) ?_>>=Α (λh=>absurd (V.str.inj h) z.1) (λ_=>?_)*>Δ ?_;w_up;show Λ ?_>>=Β (ξ.of g) (show Θ [V.str (bM sd),.ref k] 0=↑(V.str (bM sd))from rfl) ?_>>=Α (λh=>absurd (V.str.inj h) z.2) (λ_=>?_)*>Δ ?_;k_go;k_go;rw[y];w_up;show adB (by walk_at"po") (λm σ H'=>∃(lo hi:Nat)(G I J:Option V),σ=[↑(.ref a),↑(.ref b),↑(.ref p),↑(.ref t),↑(.int lo),↑(.int hi),G,I,J]/\lo<=N/\N<=hi/\hi<=↥rs/\m=hi-lo/\ζ H H') ↥rs #[0,↥rs,none,none,none,rfl,(),Ow,(),(),ζ.refl _] (λm σ H' hW=>?_);let#[lo,hi,G,I,J,rfl,h1,h2,h3,rfl,sm]:=hW;lk;show Α (λhlt=>?_) (λhge=>?_)
  rotate_left
  .let e:N=lo:=()
   symm;lk;rw[<-e];show qN H' sm
  let hlt':lo<hi:=()
  show#[λσ H'=>∃m',m'<hi-lo/\∃(lo hi:Nat)(G I J:Option V),σ=[↑(.ref a),↑(.ref b),↑(.ref p),↑(.ref t),↑(.int lo),↑(.int hi),G,I,J]/\lo<=N/\N<=hi/\hi<=↥rs/\m'=hi-lo/\ζ H H',λσ' H' h=>h,?_];k_go;let em:((lo:Int)+(hi:Int)) / 2=(((lo+hi) / 2:Nat):Int):=()
  show aeH #[by decide,by decide] ?_;rw[em];let M:lo<=(lo+hi) / 2:=()
  let O:(lo+hi) / 2<hi:=()
  generalize(lo+hi) / 2=mi at M O⊢;let j:rs[mi]?=↑(rs[mi]'()):=ϳ _;generalize hrr:rs[mi]'()=r at j;let#[wv,gw,tt,l,rfl,R,hl]:=u.get' j;let jM:=f.fit r (aa0 j);let kr:=cV jM f.inc;w_up;show fV ?_>>=ύ (sm.seq HH) (ϔ gw) ?_*>aj (ξ.of (sm<*R)) (Ι (ω nd (Ι (ω nd (ao ?_)))));f_len;show Λ ?_>>=#[a,b,r.1,l,cs,os,r.2,rfl,hC.same sm,Z.same sm,sm<*hl,(ρ.len jM).symm,(),(),f.inc,λkp kl H2 s2 _ _ U W=>?_];let Y :=sm<|>s2;lk;show#[b,kp,.ref t,os,cs,sd,_,xs,r.1,n,rfl,Z.same Y,#[kl,W,U],L.same Y,kr,x,λH3 s3=>?_];let B:=Y<|>s3;rw[show xJ os (.at_ sd xs n) (Ν cs os r.2) r.1=bH cs os (.at_ sd xs n) r from rfl];cases hla:bH cs os (.at_ sd xs n) r with
  |true=>
   let D:mi<N:=by
    by_cases h:mi<N
    .show h
    .have :r∈rs.drop N:=by
      show aa0 (i:=mi-N) ?_;rw[ath,show N+(mi-N)=mi by omega,j]
     rw[p2 r this]at hla;cases hla
   lk;f_len;f_tup;lk;show#[hi-(mi+1),(),mi+1,hi,_,_,_,rfl,(),h2,h3,rfl,B]
  |false=>
   let D:N<=mi:=by
    by_cases h:mi<N
    .have :r∈rs.take N:=by
      show aa0 (i:=mi) ?_;rw[List.getElem?_take,if_pos h,j]
     rw[p1 r this]at hla;cases hla
    .omega
   lk;f_len;f_tup;lk;show#[mi-lo,(),lo,mi,_,_,_,rfl,h1,D,(),rfl,B]
def dM(H:Hp)(v:V):Option Ct->Prop
 |none=>v=.non
 |some c=>eQ H v c
def dM.same(h:dM H v c)(s:ζ H H'):dM H' v c:=by
 cases c with
 |none=>show h
 |some c=>show eQ.same h s
def fK(r:Row):aoL:=.tuple [.int r.1,.list (r.2.map dV)]
def ϛ.lay(h:ϛ cs r):∀x∈r.2,ie x=true/\∀z,x=.str z->bD 4000 z:=by
 let#[n,xs]:=r;let h':ρ (λ(c:ι) x=>ϖ c.2 x) cs xs:=h;show ∀x∈xs,_;clear h;induction h' with
 |nil=>intro x hx;cases hx
 |cons r t a=>
  intro x hx;obtain e|hx:=aaB.mp hx
  .subst e;show r.ie
  .show a x hx
def adh(h:ρ (aO H) vs rs)(g:∀r∈rs,ϛ cs r):cC K H vs (rs.map fK):=by
 induction h with
 |nil=>show .nil
 |cons r t a=>
  let#[p,l,rfl,h1,h2]:=r;show .cons (.tup (ξ.of h1) (.cons (.int _) (.cons (.lst (η.of h2) (Dd ?_)) .nil))) (a λr c=>g r (by simp[c]))*>acL.mpr λx e=>((g _ (by simp)).lay x e).1
def aib(h:fU H p rs)(g:∀r∈rs,ϛ cs r):RD K H (.ref p) (.list (rs.map fK)):=by
 let#[vs,e,a]:=h;show .lst (η.of e) (adh a g)
def aij(h:ϛ cs r):(fK r).canLay0=true:=by
 show(true&&((PyData.list (r.2.map dV)).canLay0&&true))=true;rw[yW λx a=>h.lay x a];rfl
theorem Z5:∀{rs:List Row},(∀r∈rs,ϛ cs r)->(PyData.list (rs.map fK)).canLay0=true
 |[],_=>rfl
 |r::rs,h=>by
  let a:=Z5 (rs:=rs) λd hd=>h d (by simp[hd])
  show((fK r).canLay0&&PyData.canLayAll0 (rs.map fK))=true;rw[aij (h r (by simp))];show a
def agQ(r:Row):(fK r).depth<=4:=by
 have:=zQ r.2;simp only[fK,PyData.depth,PyData.depthAll];omega
theorem Td:∀rs:List Row,PyData.depthAll (rs.map fK)<=4
 |[]=>by show(0:Nat)<=4;omega
 |r::rs=>by
  let a:=Td rs;let h1:=agQ r;show max (fK r).depth (PyData.depthAll (rs.map fK))<=4;omega
def adQ(rs:List Row):(PyData.list (rs.map fK)).depth<=60:=by
 have:=Td rs;simp only[PyData.depth];omega
inductive Vp:Sp
 |mk (n:Int):vs=[.int n]->1<=n->n<=100->Q .non H
def zE:Def 2 "ask_size" ["size"] Vp:=by
 exists ["size"],zE,a,#[n,rfl,h1,h2,q],c.aki,e vU;f_len;show Λ ?_>>=#[_,rfl,rfl,?_];rw[show ud (V.int n)=true from rfl];lk;show Α (λ_=>?_) (λh=>absurd h1 h)>>=jA (λh=>absurd h2 h) (λ_=>?_)*>Δ q
def Gu(k a b:Str):jg (.str k) [.str a,.str b]=decide (k=a\/k=b):=by
 let e:∀a:Str,(a==k)=decide (k=a):=λa=>by rw[ags,beq_iff_eq,decide_eq_true_iff];show eq_comm
 show((a==k)||((b==k)||false))=_;rw[e,e,ar3,at4]
inductive Us(K:Ϩ):Sp
 |mk (v:V) (c:Ct):vs=[v]->eQ H v c->(∀sd xs n,c=.at_ sd xs n->↥xs<=1000)->(∀v' H',ζ H H'->eQ H' v' c->Q v' H')
def Dv:Def 1 "copy_of_cut" ["cut"] (Us K):=by
 exists Tt,Dv,L,#[v,c,rfl,j,hl,q],2,M.uX,O.Fz,n1.jT,1;cases c with
 |start=>
  let#[t,rfl,e]:=j;w_up;show Λ ?_>>=Β (ξ.of e) (show Θ [V.str ("start":Str)] 0=↑(V.str ("start":Str))from rfl) ?_>>=#[Ε,λy g=>?_];let#[a,f,H,y,H1]:=Ο g (.tup [.str ("ahead":Str),.str ("behind":Str)]);show sI (ξ.of f) ?_;rw[Gu];show#[_,rfl,?_]*>cD ?_*>Δ ?_;symm;lk;show q _ _ a #[t,rfl,a<*e]
 |fin=>
  let#[t,rfl,e]:=j;w_up;show Λ ?_>>=Β (ξ.of e) (show Θ [V.str ("end":Str)] 0=↑(V.str ("end":Str))from rfl) ?_>>=#[Ε,λy g=>?_];let#[a,f,H,y,H1]:=Ο g (.tup [.str ("ahead":Str),.str ("behind":Str)]);show sI (ξ.of f) ?_;rw[Gu];show#[_,rfl,?_]*>cD ?_*>Δ ?_;symm;lk;show q _ _ a #[t,rfl,a<*e]
 |at_ sd xs n=>
  let#[t,k,rfl,e,l,G,m]:=j;let R:=hl sd xs n rfl;w_up;show Λ ?_>>=Β (ξ.of e) (show Θ [V.str (bM sd),.ref k] 0=↑(V.str (bM sd))from rfl) ?_>>=#[Ε,λy g=>?_];let#[a,f,H,y,H1]:=Ο g (.tup [.str ("ahead":Str),.str ("behind":Str)]);show sI (ξ.of f) ?_;rw[Gu];show#[_,rfl,?_]*>Α (λ_=>?_) (λh=>absurd (by cases sd<;>fin2) h);w_up;show fV ?_>>=Β (ξ.of (a<*e)) (show Θ [V.str (bM sd),.ref k] 1=↑(V.ref k)from rfl) ?_*>aj (ξ.of (a<*G)) (Ι (ω nd (Ι (ω nd (ao ?_)))));symm;lk;show Β (ξ.of (a<*e)) (show Θ [V.str (bM sd),.ref k] 0=↑(V.str (bM sd))from rfl) ?_>>=iG (.inl (η.of (a<*m))) λi I=>?_
  let#[x,z,H1,i,H2]:=Ο I (.lst xs);lk;show#[Ε,λk2 p=>?_];let#[s,B,H2,k2,D]:=Ο p (.tup [.ref i,.int n]);lk;show#[Ε,λF J=>?_];let u:ζ D (upd D F (.tup [.str (bM sd),.ref k2])):=ζ.upd J;show q _ _ (((a<|>x)<|>s)<|>u) #[F,k2,rfl,ς,i,u<*B,u<*(s _ _ z)]
def gn(cs:List ι)(os:List Ord)(sd:Bool)(rs:List Row)(c:Ct):Ct:=match rs with
 |[]=>c
 |r::_=>.at_ sd (Ν cs os r.2) r.1
inductive Rv(K:Ϩ):Sp
 |mk (a b p:δ) (sd:Bool) (v:V) (cs:List ι) (os:List Ord) (rs:List Row) (c:Ct):vs=[.ref a,.ref b,.str (bM sd),.ref p,v]->Χ H a cs->aL H b os->fU H p rs->eQ H v c->(∀sd xs n,c=.at_ sd xs n->↥xs<=1000)->↥cs<=6->↥os<=4->cU cs os->↥rs<=1000->(∀r∈rs,ϛ cs r)->(∀v' H',ζ H H'->eQ H' v' (gn cs os sd rs c)->Q v' H')
def Hz:Def 3 "cut_beside" ["columns","order","side","rows","cut"] (Rv K):=by
 exists Nk,Hz,D,#[a,b,p,sd,v,cs,os,rs,c,rfl,F,G,#[ws,x,g],I,j,Z,o4,m,few,e,q],2,1,D1 xZ,D2 Dv;let J:=g.len;w_up;show Λ ?_>>=#[Ε,λy L=>?_];let#[f,z,H,y,H1]:=Ο L (.lst []);show K3 D.units (aib (fU.same #[ws,x,g] f) e) (.lst (η.of z) .nil) (Z5 e) (by rfl) (adQ rs) ?_;cases rs with
 |nil=>
  rw[show PyData.eqv (.list (([]:List Row).map fK)) (.list [])=true from rfl];show#[_,rfl,?_]*>Η _ _ _ _ _;symm;lk;show #[v,c,rfl,I.same f,j,λM H' s' h'=>q M H' (f<|>s') h']
 |cons r rs=>
  rw[show PyData.eqv (.list ((r::rs).map fK)) (.list [])=false from rfl];show#[_,rfl,?_]*>Η _ _ _ _ _;let#[wv,O,t,l,rfl,R,hl]:=g.get' (i:=0) (b:=r) rfl;show Δ ?_;w_up;show fV ?_>>=ύ (η.of (f<*x)) (show Θ ws ((0:Nat):Int)=↑(.ref t)from ϔ O) ?_*>aj (ξ.of (f<*R)) (Ι (ω nd (Ι (ω nd (ao ?_)))));symm;lk;show #[a,b,r.1,l,cs,os,r.2,rfl,F.same f,G.same f,f<*hl,(ρ.len (e r (by simp))).symm,(),(),m,λkp U H2 W _ _ n s=>?_]>>=#[Ε,λB Y=>?_];let u:ζ H2 (upd H2 B (.tup [.str (bM sd),.ref kp])):=ζ.upd Y;show q _ _ ((f<|>W)<|>u) #[B,kp,rfl,ς,U,u<*s,u<*n]
def jN(q:δ)(H H':Hp)(v:V)(r:Row):=∃t l,v=.ref t/\H t=none/\H l=none/\l≠q/\H' t=↑(.tup [.int r.1,.ref l])/\H' l=↑(.lst r.2)
def jN.row(h:jN q H H' v r):aO H' v r:=by
 let#[t,l,e,_,_,_,h1,h2]:=h;show#[t,l,e,h1,h2]
def jN.same(h:jN q H H' v r)(s:ζ H' H2):jN q H H2 v r:=by
 let#[t,l,e,a,b,c,h1,h2]:=h;show#[t,l,e,a,b,c,s<*h1,s<*h2]
def ϊ{α:Type}(xs:List α)(i j:Nat):List α:=(xs.drop i).take (j-i)
def Ug(xs:List V)(i j:Nat)(a:i<=j)(c:j<=↥xs):cG xs ↑(i:Int) ↑(j:Int)=ϊ xs i j:=by
 unfold cG ϊ;rw[_H.mL,_H.mL,aiU c,aiU (ad7 a c)]
def acS(xs:List V):cG xs ↑(-1) none=xs.drop (↥xs-1):=by
 let e:_H.Ζ ↥xs 0 ↑(-1)=↥xs-1:=by
  unfold _H.Ζ;simp;omega
 unfold cG;rw[_H.sS,e];show agJ (by rw[adu];show Ϭ _)
structure Lf where
 rows:List Row
 back:Option Ct
 ϟ:Option Ct
 start:Nat
def ϣ(cs:List ι)(os:List Ord)(rs:List Row)(c:Ct)(i j:Nat):Lf:=
 #[ϊ rs i j,if 0<i then some (gn cs os true ((ϊ rs i j).take 1) c)else none,if j<↥rs then some (gn cs os false ((ϊ rs i j).drop (↥(ϊ rs i j)-1)) c)else none,i]
inductive abJ(K:Ϩ):Sp
 |mk (a b p:δ) (v:V) (cs:List ι) (os:List Ord) (rs:List Row) (c:Ct) (i j:Nat):vs=[.ref a,.ref b,.ref p,v,.int i,.int j]->Χ H a cs->aL H b os->fU H p rs->eQ H v c->mU cs os rs->lN cs os c->i<=j->j<=↥rs->(∀(t q:δ)(us:List V)(x y:V) H',ζ H H'->H q=none->H' t=↑(.tup [.ref q,x,y,.int i])->H' q=↑(.lst us)->ρ (jN q H H') us (ϣ cs os rs c i j).rows->dM H' x (ϣ cs os rs c i j).back->dM H' y (ϣ cs os rs c i j).ϟ->Q (.ref t) H')
theorem lN.len{os:List Ord}{c:Ct}(h:lN cs os c)(a:↥os<=4):∀sd xs n,c=.at_ sd xs n->↥xs<=1000:=λsd xs n e=>by
 subst e;have:=ρ.len h;omega
theorem Qm{α β:Type}{R:α->β->Prop}{l:List α}{m:List β}{i j:Nat}(h:ρ R l m):ρ R (ϊ l i j) (ϊ m i j):=(h.drop i).take (j-i)
def Bp:Def 4 "leaf_between" ["columns","order","line","cut","start","stop"] (abJ K):=by
 exists YG,Bp,f,#[a,b,p,v,cs,os,rs,c,i,j,rfl,hC,hO,#[ws,hp,M],hc,L,aa,ab,hj,q],2,g1.uX,g2.Fz,n1.jT,n2.bz,1;let aX:(["row","values"]:List Str).Nodup:=by fin2
 let D1:=!Hz;let ac:=M.len;let#[c1,c6]:=L.cols;let o4:=L.Dg;let few:=L.few;let O:=aa.len o4;w_up;show wM ["row","values"] (σ':=[none,none]) (bA (υ vI)) nd ?_>>=pM (η.of hp) λp1 ae=>?_
 rw[Ug ws i j ab ()];let#[s1,e1,H,p1,H1]:=Ο ae (.lst (ϊ ws i j));let R:ρ (aO H) (ϊ ws i j) (ϊ rs i j):=Qm M;let hll:=R.len;let hlr:↥(ϊ rs i j)=j-i:=by
  unfold ϊ;rw[adn,adu];omega
 let F:∀r∈ϊ rs i j,ϛ cs r:=λr f=>L.fit r (aey (aeA f))
 show#[p1,_,rfl,η.of e1,(),λτ=>∃o1 o2,τ=[o1,o2],λE2 k u H'=>∃r,(ϊ rs i j)[k]?=↑r/\jN E2 H H' u r,#[none,none,rfl],λE2 k u H2 H3 ys hE U p=>?_,λfp E2 C W H0 k τ x H4 D aQ hi af Τ G hG=>?_,λI H2 us ag Y ah e2 Υ =>?_]
 .let#[r,f,t,l,e,h1,h2,h3,h4,h5]:=p;show#[r,f,t,l,e,h1,h2,h3,U _ _ (λz=>by rw[z,hE]at h4;cases h4) h4,U _ _ h3 h5]
 .let#[o1,o2,rfl]:=af;let#[au,rfl]:=hG;let#[r,f,t,l,rfl,ht,hl]:=R.get au;let g:=s1<|>Τ;let#[ys,G]:=G;let ai:=F r (aa0 f);let hrl:=ρ.len ai;show aj (ξ.of (g<*ht)) (Ι (ω aX (Ι (ω aX (ao ?_)))))>>=iG (.inl (η.of (g<*hl))) λl2 Y=>?_
  let#[n,e5]:=Ο Y (.lst r.2);let nl:l2≠E2:=λe=>by rw[e,G]at Y;cases Y
  generalize upd H4 l2 (.lst r.2)=D at n e5⊢;lk;show#[Ε,λt2 cA=>?_];let s6:ζ D (upd D t2 (.tup [.int r.1,.ref l2])):=ζ.upd cA;show#[#[_,_,rfl],#[r,f,t2,l2,rfl,(g<|>n).free cA,g.free Y,nl,ς,s6<*e5],n<|>s6]
 let B:ρ (jN I H H2) us (ϊ rs i j):=kh () λk r f=>by
  let U:k<↥us:=by have:=(aav.mp f).1;omega
  let#[r',Z,hn]:=ah k _ (ϳ U);rw[f]at Z;cases Z;show#[_,ϳ U,hn]
 let Ln:=s1<|>Υ;let al:H I=none:=s1.free ag;let km:=B.len;let arM:fU H2 I (ϊ rs i j):=#[us,e2,B.imp λu r x=>x.row];let tail:∀(x:V)(H3:Hp),ζ H2 H3->dM H3 x (ϣ cs os rs c i j).back->Η X ((ϓ vI).drop 3) {nx:=λ_ H'=>Q .non H',rt:=Q} [↑(.ref a),↑(.ref b),↑(.ref p),↑v,↑(.int i),↑(.int j),↑(.ref I),↑x,none] H3:=λx H3 W hx=>by
  let XD:=Ln<|>W;let fin:∀(y:V)(H4:Hp),ζ H3 H4->dM H4 y (ϣ cs os rs c i j).ϟ->Η X ((ϓ vI).drop 5) {nx:=λ_ H'=>Q .non H',rt:=Q} [↑(.ref a),↑(.ref b),↑(.ref p),↑v,↑(.int i),↑(.int j),↑(.ref I),↑x,↑y] H4:=λy H4 m hy=>by
   symm;lk;show #[Ε,λt ht=>?_];let n:ζ H4 (upd H4 t (.tup [.ref I,x,y,.int i])):=ζ.upd ht;let pJ:=(W<|>m)<|>n;show q t I us x y _ (Ln<|>pJ) al ς (pJ<*e2) (B.imp λu r z=>z.same pJ) ((hx.same m).same n) (hy.same n)
  k_go;w_up;show Λ ?_;let HH:η K H3 p ws:=η.of (XD<*hp);lk;rw[ac];show Α (λh=>?_) (λh=>?_)
  .let h':j<↥rs:=()
   f_len;f_tup;lk;show pM (η.of (W<*e2)) λp2 J=>?_
   rw[acS];let#[m,e4,H3,p2,H4]:=Ο J (.lst (us.drop (↥us-1)));let g:=XD<|>m;lk;show#[a,b,p2,false,v,cs,os,(ϊ rs i j).drop (↥(ϊ rs i j)-1),c,rfl,hC.same g,hO.same g,#[_,e4,?_],hc.same g,O,c6,o4,L.inc,by rw[adu];omega,λr f=>F r (aey f),λy D n hy=>?_]
   .rw[km];show(B.imp λu r z=>(z.same (W<|>m)).row).drop _
   .show fin y D (m<|>n) ?_*>dM D y (if j<↥rs then _ else none);rw[if_pos h'];show hy
  .show Δ (fin .non H3 (ζ.refl _) ?_)*>dM H3 .non (if j<↥rs then _ else none);rw[if_neg ()];rfl
 k_go;w_up;show Λ ?_>>=Α (λh=>?_) (λh=>?_)
 .let h':0<i:=()
  f_len;f_tup;lk;show pM (η.of e2) λp2 J=>?_
  rw[show↑(1:Int)=↑((1:Nat):Int)from rfl,afL];let#[m,e4,H2,p2,H4]:=Ο J (.lst (us.take 1));let g:=Ln<|>m;lk;show#[a,b,p2,true,v,cs,os,(ϊ rs i j).take 1,c,rfl,hC.same g,hO.same g,#[_,e4,(B.imp λu r z=>(z.same m).row).take 1],hc.same g,O,c6,o4,L.inc,by rw[adn];omega,λr f=>F r (aeA f),λy D n hy=>?_]*>tail y D (m<|>n) ?_*>dM D y (if 0<i then _ else none);rw[if_pos h'];show hy
 .show Δ (tail .non H2 (ζ.refl _) ?_)*>dM H2 .non (if 0<i then _ else none);rw[if_neg ()];rfl
def ajt(H:Hp)(Q:VK)(L:Lf):=∀(t q:δ)(us:List V)(x y:V) H',ζ H H'->H q=none->H' t=↑(.tup [.ref q,x,y,.int L.start])->H' q=↑(.lst us)->ρ (jN q H H') us L.rows->dM H' x L.back->dM H' y L.ϟ->Q (.ref t) H'
def W9(cs:List ι)(os:List Ord)(rs:List Row)(c:Ct)(n:Nat):Lf:=ϣ cs os rs c (cF cs os c rs) (min (cF cs os c rs+n) ↥rs)
def WR(cs:List ι)(os:List Ord)(rs:List Row)(c:Ct)(n:Nat):Lf:=ϣ cs os rs c (cF cs os c rs-n) (cF cs os c rs)
inductive Jf(K:Ϩ)(way:List ι->List Ord->List Row->Ct->Nat->Lf):Sp
 |mk (a b p:δ) (v:V) (cs:List ι) (os:List Ord) (rs:List Row) (c:Ct) (n:Nat):vs=[.ref a,.ref b,.ref p,v,.int n]->Χ H a cs->aL H b os->fU H p rs->eQ H v c->mU cs os rs->lN cs os c->1<=n->n<=100->ajt H Q (way cs os rs c n)
def DK:Def 5 "leaf_forth" ["columns","order","line","cut","size"] (Jf K W9):=by
 exists Nq,DK,hr,#[a,b,p,v,cs,os,rs,c,n,rfl,B,D,i,F,j,g,n1,G,q],2,b1.bz,b2.BZ,D1 zE,D2 zq,D3 Bp;let few:=j.few;let pZ:=Bg (cs:=cs) (os:=os) (c:=c) (rs:=rs);w_up;show aD ?_>>=#[n,rfl,(),(),?_];k_go;show#[a,b,p,v,cs,os,rs,c,rfl,B,D,i,F,j,g,λH1 f=>?_];let#[ws,I,m]:=i.same f;let HH:η K H1 p ws:=η.of I;let s:=m.len;symm;lk;show xY ?_;let em:(if((↥ws:Nat):Int)<((cF cs os c rs:Nat):Int)+((n:Nat):Int)then((↥ws:Nat):Int)else((cF cs os c rs:Nat):Int)+((n:Nat):Int))=((min (cF cs os c rs+n) ↥rs:Nat):Int):=by
  rw[s];split <;>omega
 rw[em];lk;show#[a,b,p,v,cs,os,rs,c,_,_,rfl,B.same f,D.same f,i.same f,F.same f,j,g,(),apG _ _,λt J us x y H' s' h1 h2 L M O R=>q t J us x y H' (f<|>s') (f.free h1) h2 L (M.imp λu r z=>by
  let#[t,l,e,U,W,Y,Z,a5]:=z;show#[t,l,e,f.free U,f.free W,Y,Z,a5]) O R]
def Ip:Def 5 "leaf_back" ["columns","order","line","cut","size"] (Jf K WR):=by
 exists Wy,Ip,Z,#[a,b,p,v,cs,os,rs,c,n,rfl,j,m,s,B,i,g,n1,D,q],2,b2.Bs,D1 zE,D2 zq,D3 Bp;let few:=i.few;let F:=Bg (cs:=cs) (os:=os) (c:=c) (rs:=rs);w_up;show aD ?_>>=#[n,rfl,(),(),?_];k_go;show#[a,b,p,v,cs,os,rs,c,rfl,j,m,s,B,i,g,λH1 f=>?_];symm;lk;show u9 ?_;let em:(if(0:Int)>((cF cs os c rs:Nat):Int)-((n:Nat):Int)then(0:Int)else((cF cs os c rs:Nat):Int)-((n:Nat):Int))=((cF cs os c rs-n:Nat):Int):=by
  split <;>omega
 rw[em];lk;show#[a,b,p,v,cs,os,rs,c,_,_,rfl,j.same f,m.same f,s.same f,B.same f,i,g,Nat.sub_le _ _,F,λt G us x y H' s' h1 h2 I J L M=>q t G us x y H' (f<|>s') (f.free h1) h2 I (J.imp λu r z=>by
  let#[t,l,e,O,R,U,W,Y]:=z;show#[t,l,e,f.free O,f.free R,U,W,Y]) L M]
abbrev gG:=Int×List V×Bool
def mC(H:Hp)(v:V)(r:gG):=∃t l,v=.ref t/\H t=↑(.tup [.int r.1,.ref l,.bl r.2.2])/\H l=↑(.lst r.2.1)
def mC.same(h:mC H v r)(s:ζ H H'):mC H' v r:=by
 let#[t,l,e,a,c]:=h;show#[t,l,e,s<*a,s<*c]
structure aU where
 rows:List gG
 back:V
 ϟ:V
 many:Int
 ahead:Int
 moment:Int
def amS(H:Hp)(q:δ)(rs:List gG):=∃vs,H q=↑(.lst vs)/\ρ (mC H) vs rs
def Nb(H:Hp)(p:δ)(L:aU):=∃q,H p=↑(.tup [.ref q,L.back,L.ϟ,.int L.many,.int L.ahead,.int L.moment])/\amS H q L.rows
def iD(r:gG):aoL:=.tuple [.int r.1,.list (r.2.1.map dV),.bool r.2.2]
def zO(L:aU):aoL:=.tuple [.list (L.rows.map iD),dV L.back,dV L.ϟ,.int L.many,.int L.ahead,.int L.moment]
def iR(x:V):Prop:=ie x=true/\∀z,x=.str z->bD 4000 z
def iR.data(h:iR x):(dV x).canLay0=true:=by
 let#[hs,a]:=h;cases x with
 |str z=>show(a z rfl).lay
 |_=>rfl
def layR(rs:List gG):=∀r∈rs,∀x∈r.2.1,iR x
theorem Wi:∀{rs:List gG},layR rs->PyData.canLayAll0 (rs.map iD)=true
 |[],_=>rfl
 |r::rs,h=>by
  let a:=Wi (rs:=rs) λd hd=>h d (by simp[hd])
  let h1:(PyData.list (r.2.1.map dV)).canLay0=true:=yW λx c=>h r (by simp) x c
  show((iD r).canLay0&&PyData.canLayAll0 (rs.map iD))=true;rw[a,auh];show(true&&((PyData.list (r.2.1.map dV)).canLay0&&(true&&true)))=true;rw[h1];rfl
def ae6(h:layR L.rows)(a:iR L.back)(c:iR L.ϟ):(zO L).canLay0=true:=by
 show((PyData.list (L.rows.map iD)).canLay0&&((dV L.back).canLay0&&((dV L.ϟ).canLay0&&(true&&(true&&(true&&true))))))=true;rw[a.data,c.data];show(PyData.canLayAll0 (L.rows.map iD)&&_)=true;rw[Wi h];rfl
def alN(r:gG):(iD r).depth<=4:=by
 have:=zQ r.2.1;simp only[iD,PyData.depth,PyData.depthAll];omega
theorem aaZ:∀rs:List gG,PyData.depthAll (rs.map iD)<=4
 |[]=>by show(0:Nat)<=4;omega
 |r::rs=>by
  let a:=aaZ rs;let h1:=alN r;show max (iD r).depth (PyData.depthAll (rs.map iD))<=4;omega
def R9(x:V):(dV x).depth<=1:=by cases x<;>(show(_:Nat)<=1;show arf rfl)
def ae0(h:ρ (mC H) vs rs)(g:layR rs):cC K H vs (rs.map iD):=by
 induction h with
 |nil=>show .nil
 |cons r t a=>
  let#[p,l,rfl,h1,h2]:=r;show .cons (.tup (ξ.of h1) (.cons (.int _) (.cons (.lst (η.of h2) (Dd ?_)) (.cons (.bl _) .nil)))) (a λr c=>g r (by simp[c]))*>acL.mpr λx e=>(g _ (by simp) x e).1
def anq(h:Nb H p L)(g:layR L.rows)(c:iR L.back)(f:iR L.ϟ):RD K H (.ref p) (zO L):=by
 let#[q,e,vs,i,a]:=h;show .tup (ξ.of e) (.cons (.lst (η.of i) (ae0 a g)) (.cons (GK c.1) (.cons (GK f.1) (.cons (.int _) (.cons (.int _) (.cons (.int _) .nil))))))
abbrev sT(cs:List ι)(t:Tr):Str:=ad2 " " (wT (Φ cs) t)
def ak(lv:Bool)(mo:Nat)(os:List Ord)(z:Str):Option Ct->V
 |some (.at_ sd xs n)=>.str (du #[lv,mo,os,z,#[sd,n.toNat,xs]])
 |_=>.non
def mY(cs:List ι)(os:List Ord)(c:Ct):=∃sd xs n,c=.at_ sd xs n/\bZ cs os xs/\0<=n/\n<=1000000000
structure jq(cs:List ι)(os:List Ord)(t:Tr)(mo:Nat):Prop where
 ok:Ψ cs=true
 o4:↥os<=4
 inc:cU cs os
 S5:(os.map Prod.fst).Nodup
 gt:fY cs t
 dp:t.dep<=20
 CZ:↥(wT (Φ cs) t)<=60
 mo:mo<=5000
def jq.good{os:List Ord}{t:Tr}{mo:Nat}(h:jq cs os t mo){lv sd:Bool}{xs:List V}{n:Int}(a:bZ cs os xs)(h1:n<=1000000000):bR cs #[lv,mo,os,sT cs t,#[sd,n.toNat,xs]]:=by
 let#[f,g,i,j]:=sH.good h.ok (z:=sT cs t) (n:=60) (d:=20) #[t,h.gt,h.dp,rfl,h.CZ] (by decide) (by decide);show#[h.mo,h.o4,λo l=>by let#[c,m,e]:=h.inc o l;show abt.mpr #[c,m,e],h.S5,by show n.toNat<=_;omega,a,f,g,i,j]
def cZ:Bool->List ι->List Ord->List Row->Ct->Nat->Lf
 |true=>W9
 |false=>WR
def pO(cs:List ι)(os:List Ord)(a:Bool)(c:Ct):Prop:=(a=true/\c=.start)\/(a=false/\c=.fin)\/mY cs os c
def pO.ok{os:List Ord}{a:Bool}{c:Ct}(h:pO cs os a c):lN cs os c:=by
 obtain⟨_,rfl⟩|⟨_,rfl⟩|⟨sd,xs,n,rfl,e,_⟩:=h
 .trivial
 .trivial
 .show e
def Px{os:List Ord}{sd:Bool}{rs:List Row}{c:Ct}(a:cU cs os)(e:∀r∈rs,ϛ cs r)(hn:∀r∈rs,0<=r.1/\r.1<=1000000000)(f:rs=[]->mY cs os c):mY cs os (gn cs os sd rs c):=by
 cases rs with
 |nil=>show f rfl
 |cons r rs=>show#[sd,_,_,rfl,cV (e r (by simp)) a,(hn r (by simp)).1,(hn r (by simp)).2]
def GX{α:Type}(l:List α)(h:j<=↥l):↥(ϊ l i j)=j-i:=by
 unfold ϊ;rw[adn,adu];omega
def aal{os:List Ord}{l:Bool}{c:Ct}{rs:List Row}{n:Nat}(h:mU cs os rs)(hn:∀r∈rs,0<=r.1/\r.1<=1000000000)(n1:1<=n)(q:pO cs os l c):∀d,(cZ l cs os rs c n).back=↑d\/(cZ l cs os rs c n).ϟ=↑d->mY cs os d:=by
 let u:=Bg (cs:=cs) (os:=os) (c:=c) (rs:=rs);let g:∀i j:Nat,i<=j->j<=↥rs->(i=j->(0<i\/j<↥rs)->mY cs os c)->∀d,(ϣ cs os rs c i j).back=↑d\/(ϣ cs os rs c i j).ϟ=↑d->mY cs os d:=by
  intro i j v x s d hd;let sub:∀r∈ϊ rs i j,r∈rs:=λr f=>aey (aeA f)
  let sl:=GX rs (i:=i) x;obtain hd|hd:=hd
  .let a:(if 0<i then some (gn cs os true ((ϊ rs i j).take 1) c)else none)=↑d:=hd;split at a
   .next hi=>
    cases a;show Px h.inc (λr f=>h.fit r (sub r (aeA f))) (λr f=>hn r (sub r (aeA f))) λe=>s ?_ (.inl hi)
    have:=congrArg apW e;rw[adn,sl,aqy]at this;omega
   .cases a
  .let a:(if j<↥rs then some (gn cs os false ((ϊ rs i j).drop (↥(ϊ rs i j)-1)) c)else none)=↑d:=hd;split at a
   .next hi=>
    cases a;show Px h.inc (λr f=>h.fit r (sub r (aey f))) (λr f=>hn r (sub r (aey f))) λe=>s ?_ (.inr hi)
    have:=congrArg apW e;rw[adu,sl,aqy]at this;omega
   .cases a
 cases l with
 |true=>
  show g (cF cs os c rs) (min (cF cs os c rs+n) ↥rs) () (apG ..) λe m=>?_
  obtain⟨_,rfl⟩|⟨z,_⟩|z:=q
  .let p:cF cs os .start rs=0:=rfl;rw[p]at e m;omega
  .cases z
  .show z
 |false=>
  show g (cF cs os c rs-n) (cF cs os c rs) () u λe m=>?_
  obtain⟨z,_⟩|⟨_,rfl⟩|z:=q
  .cases z
  .let p:cF cs os .fin rs=↥rs:=rfl;rw[p]at e m;omega
  .show z
def lK(H H':Hp)(p:δ)(L:aU):=∃q vs,H' p=↑(.tup [.ref q,L.back,L.ϟ,.int L.many,.int L.ahead,.int L.moment])/\H q=none/\H' q=↑(.lst vs)/\ρ (λv(r:gG)=>∃t l,v=V.ref t/\H' t=↑(.tup [.int r.1,.ref l,.bl r.2.2])/\H l=none/\H' l=↑(.lst r.2.1)) vs L.rows
def lK.same(h:lK H H' p L)(s:ζ H' H2):lK H H2 p L:=by
 let#[q,vs,h1,h2,a,c]:=h;show#[q,vs,s<*h1,h2,s<*a,c.imp λv r z=>by
  let#[t,l,e,f,g,i]:=z;show#[t,l,e,s<*f,g,s<*i]]
def lK.old(h:lK H H' p L)(s:ζ H0 H):lK H0 H' p L:=by
 let#[q,vs,h1,h2,a,c]:=h;show#[q,vs,h1,s.free h2,a,c.imp λv r z=>by
  let#[t,l,e,f,g,i]:=z;show#[t,l,e,f,s.free g,i]]
def jm(H:Hp)(mk:δ)(lv:Bool)(mo:Nat)(os:List Ord)(z:Str)(c:Ct):=∃o v,H mk=↑(.tup [.str (bB lv),.int (mo:Nat),.ref o,.str z,v])/\aL H o os/\eQ H v c
def jm.same{mk:δ}{lv:Bool}{mo:Nat}{os:List Ord}{z:Str}{c:Ct}(h:jm H mk lv mo os z c)(s:ζ H H'):jm H' mk lv mo os z c:=by
 let#[o,v,h1,h2,a]:=h;show#[o,v,s<*h1,h2.same s,a.same s]
inductive aak:Sp
 |mk (mk:δ) (v:V) (lv:Bool) (cs:List ι) (os:List Ord) (t:Tr) (mo:Nat) (c:Ct) (d:Option Ct):vs=[.ref mk,v]->jm H mk lv mo os (sT cs t) c->jq cs os t mo->dM H v d->(∀x,d=↑x->mY cs os x)->(∀H',ζ H H'->Q (ak lv mo os (sT cs t) d) H')
def Ja:Def 5 "mark_at" ["mark","cut"] aak:=by
 exists ["mark","cut"],Ja,U,#[mk,v,lv,cs,os,t,mo,c,d,rfl,#[o,u,e,I,W],s,y,hd,q],1,Y Fp;symm;cases d with
 |none=>
  cases y;lk;show q H (ζ.refl _)
 |some x=>
  let#[sd,xs,n,rfl,J,L,n1]:=hd x rfl;let#[tc,k,rfl,f,M,g,i]:=y;lk;show amz (ξ.of e) (show ¬(_H.Ζ 5 0 none=0/\_H.Ζ 5 5 ↑(-1)=5)by decide) λp O=>?_
  let#[B,e1]:=Ο O (.tup [.str (bB lv),.int (mo:Nat),.ref o,.str (sT cs t)]);change EV _ _ _ (upd H p (.tup [.str (bB lv),.int (mo:Nat),.ref o,.str (sT cs t)])) _;generalize upd H p (.tup [.str (bB lv),.int (mo:Nat),.ref o,.str (sT cs t)])=H1 at B e1⊢;lk;show#[Ε,λp2 j=>?_];let#[l,D,H1,p2,H2]:=Ο j (.tup [.ref tc]);show bC anm #[p,p2,_,_,rfl,rfl,ξ.of (l<*e1),ξ.of D,by simp,Ε,(λz=>by cases z),λ_ p3 m=>?_];let#[F,G]:=Ο m (.tup [.str (bB lv),.int (mo:Nat),.ref o,.str (sT cs t),.ref tc]);change EA _ _ _ (upd H2 p3 (.tup [.str (bB lv),.int (mo:Nat),.ref o,.str (sT cs t),.ref tc])) _;generalize upd H2 p3 (.tup [.str (bB lv),.int (mo:Nat),.ref o,.str (sT cs t),.ref tc])=Z at F G⊢;let a:=(B<|>l)<|>F;lk;show#[p3,#[lv,mo,os,sT cs t,#[sd,n.toNat,xs]],cs,rfl,#[o,tc,G,I.same a,k,M,a<*f,?_,a<*i],s.ok,s.good J n1,λR S=>q R (a<|>S)];rw[show(((#[sd,n.toNat,xs]:Cut).row:Nat):Int)=n from aqm L];show a<*g
inductive BR(K:Ϩ):Sp
 |mk (a C dx:δ) (fs:List (Str×V)) (v:V):vs=[.ref a]->H a=↑(.ins C dx fs)->Ϣ K C->Ϗ K C "text"->fs.lookup ("text":Str)=↑v->Q v H
def tD:FD P w K mg base cc 1 "shown" "Sieve.shown" pK ["self"] (BR K):=by
 exists ["self"],_,e,#[a,C,dx,fs,v,rfl,ha,c,hn,hl,q];symm;show aN ?_;f_are;show#[a,C,dx,fs,v,rfl,ha,c,hn,hl,q]
theorem eF.txt:∀{t:Tr}{a:δ}{z:Str},eF mg H t a z->∃dx fs,H a=↑(.ins (jb mg t) dx fs)/\fs.lookup ("text":Str)=↑(.str z)/\fs.lookup ("shown":Str)=none
 |.one .all,a,z,h=>by let#[dx,h]:=h;show#[dx,_,h,rfl,rfl]
 |.one (.none p),a,z,h=>by let#[dx,h]:=h;show#[dx,_,h,rfl,rfl]
 |.one (.look l p v),a,z,h=>by let#[dx,h]:=h;show#[dx,_,h,rfl,rfl]
 |.nt t,a,z,h=>by let#[dx,b,y,h,_]:=h;show#[dx,_,h,rfl,rfl]
theorem alb(T:Txt K mg):∀t:Tr,aK P w K mg base true 1 (jb mg t) "shown" ["self"] (BR K)/\Ϣ K (jb mg t)/\Ϗ K (jb mg t) "text"
 |.one .all=>#[tD.meth T.yd T.afH,T.yd,T.ZP]
 |.one (.none _)=>#[tD.meth T.wy T.agy,T.wy,T.aba]
 |.one (.look .is _ _)=>#[tD.meth T.sJ T.akG,T.sJ,T.Xg]
 |.one (.look .under _ _)=>#[tD.meth T.uo T.ant,T.uo,T.TV]
 |.one (.look .over _ _)=>#[tD.meth T.rJ T.amB,T.rJ,T.RT]
 |.nt _=>#[tD.meth T.uG T.aja,T.uG,T.Vv]
inductive Rr(K:Ϩ):Sp
 |mk (p q:δ) (cs:List ι) (xs:List V):vs=[.ref p,.ref q]->H p=↑(.lst ((cs.map Prod.snd).map V.str))->H q=↑(.lst ((xs.map wordOf).map V.str))->↥cs<=1000->(∀c∈cs,c.2="number"\/c.2="text")->ρ (λc x=>ϖ c.2 x) cs xs->(∀r H',ζ H H'->H r=none->H' r=↑(.lst xs)->Q (.ref r) H')
def JW:Def 6 "read_values" ["kinds","words"] (Rr K):=by
 exists ["kinds","words"],JW,hr,#[p,G,cs,xs,rfl,I,J,hcl,hk,a,q],n1.bz,n2.JF;let L:(["kind","word"]:List Str).Nodup:=by fin2
 let hsz:=ϯ;let D1:=!yo;let hl:=a.len;let l:↥((cs.map Prod.snd).map V.str)=↥cs:=by rw[aaw,aaw]
 let M:↥((xs.map wordOf).map V.str)=↥xs:=by rw[aaw,aaw]
 let SP:η K H p ((cs.map Prod.snd).map V.str):=η.of I;let SQ:η K H G ((xs.map wordOf).map V.str):=η.of J;w_up;cbv;rw[l,M, <-hl];rw[decide_eq_true (rfl:V.int ((↥cs:Nat):Int)=V.int ((↥cs:Nat):Int))];walk_at"t";show Δ ?_;symm;show NQ ["kind","word"] (σ':=[none,none]) (bA (υ Q5)) n2 ?_;f_are;f_are;show#[p,G,_,_,rfl,rfl,I,J,by rw[l];omega,λO=>∃R S,O=[R,S],λj i u H'=>∃x,xs[i]?=↑x/\u=x,#[none,none,rfl],λj i u H2 H3 ys _ _ p=>p,λfp j C s3 H0 i O x f H6 U hi m W hys hG=>?_,λj f ys U ϻ n e5 W=>?_]
 .let#[R,S,rfl]:=m;let#[t,y,z,rfl,s,rfl,g,v]:=hG;rw[abD,abD]at g v;obtain⟨c,Y,rfl⟩:∃c,cs[i]?=↑c/\V.str c.2=y:=by
   cases e:cs[i]? with
   |none=>rw[e]at g;cases g
   |some c=>rw[e]at g;show#[c,rfl,Option.some.inj g]
  let#[x,Z,hv]:=a.get Y;rw[Z]at v;let B:z=.str (wordOf x):=(Option.some.inj v).symm;subst B;let hw:=hv.word (hk c (aa0 Y));let aa:ζ f (upd f t (.tup [.str c.2,.str (wordOf x)])):=ζ.upd s;show aj (ξ.of ς) (Ι (ω L (Ι (ω L (ao ?_)))));generalize upd f t (.tup [.str c.2,.str (wordOf x)])=H7 at aa⊢;cbv;show#[c.2,wordOf x,rfl,(),λH8 D=>?_];rw[hw.1];show#[#[_,_,rfl],#[x,Z,rfl],aa<|>D]
 .let F:↥ys=↥xs:=by rw[ϻ,l,M];omega
  let ey:=fJ (ys:=xs) (λx=>x) F n;rw[List.map_id']at ey;subst ey;show q j f W U e5
def aog{i:Nat}(h:(i:Int)<=m):iz (Ϫ (toString (i:Int))).cps.toList m=↑(i:Int):=by
 let#[a,b]:=Lh i;unfold iz;rw[a,b,if_pos #[rfl,h]]
inductive Ua:Sp
 |mk (b:Bool):vs=[.str (ig b)]->(∀H',ζ H H'->Q (.str (bB b)) H')
def En:Def 1 "read_make" ["letter"] Ua:=by
 exists Xd,En,m,#[b,rfl,q],2,p.Kv,s.Nj,1;w_up;show amv (by walk_at"po") (by rfl) (by intro _;rfl) ?_>>=#[Ε,λt l=>?_];let#[st,j]:=Ο l (.tup [.str ("living":Str),.str ("still":Str)]);show#[t,_,rfl,ξ.of j,λi σ H'=>(∃o,σ=[↑(.str (ig b)),o])/\H'=upd H t (.tup [.str ("living":Str),.str ("still":Str)])/\(1<=i->b=false)/\i<2,#[#[none,rfl],rfl,λh=>absurd h (),()],λi σ' H' hi c=>?_,λi x σ' H' e c=>?_,λσ' H' c=>?_]
 .let#[_,rfl,_]:=c;show ξ.of j
 .let#[#[o,rfl],rfl,f,g]:=c;show ω nd ?_
  match i,g,e with
  |0,_,e=>
   let a:x=.str ("living":Str):=(Option.some.inj e).symm;subst a;f_len;show Λ ?_>>=j8 (n:=108) (by rw[hsz];fin2) (by fin2) ?_;lk;cases b with
   |true=>
    show Α (λ_=>?_) (λh=>absurd (by fin2) h);symm;lk;show q _ st
   |false=>
    show cD ?_*>Δ #[#[_,rfl],rfl,λ_=>rfl,()]
  |1,_,e=>
   let a:x=.str ("still":Str):=(Option.some.inj e).symm;subst a;let f:=f ();subst f;f_len;show Λ ?_>>=j8 (n:=115) (by rw[hsz];fin2) (by fin2) ?_>>=Α (λ_=>?_) (λh=>absurd (by fin2) h);symm;lk;show q _ st
 .let#[_,_,_,h]:=c;show absurd h (by show ¬2<2;omega)
inductive Zd:Sp
 |mk (i:Nat) (m:Int):vs=[.str (Ϫ (toString (i:Int))),.int m]->(m=5000\/m=1000000000)->(i:Int)<=m->(∀H',ζ H H'->Q (.int (i:Int)) H')
def xR:Def 4 "read_whole" ["word","most"] Zd:=by
 exists Mw,xR,j,#[i,m,rfl,c,e,q],2,l Ac;let n:(10:Nat)^60>1000000000:=by decide
 let hl:=CK (i:=(i:Int)) (k:=10) (by have:(10:Nat)^10>1000000000:=(by decide);omega);obtain⟨k,f,a,k1,k2⟩:∃k,↥(Ϫ (toString m))=k/\m<((10^k:Nat):Int)/\1<=k/\k<=600:=by
  obtain rfl|rfl:=c
  .show#[4,by fin2,by decide,(),()]
  .show#[10,by fin2,by decide,(),()]
 k_go;show#[_,m,k,rfl,(),(),(),f,a,k1,k2,λH1 g =>?_];rw[aog e];w_up;show Λ ?_>>=Δ ?_;symm;lk;show q H1 g
inductive Rm:Sp
 |mk (b:Bool):vs=[.str (aW b)]->Q (.str (bM b)) H
def Hn:Def 1 "read_side" ["sign"] Rm:=by
 exists ["sign"],Hn,a,#[b,rfl,q],c.VD,e.N8,f.uX,g.Fz;w_up;show Λ ?_;lk;cases b with
 |true=>
  show bV ?_;symm;lk;show q
 |false=>
  show cD ?_*>Δ ?_;w_up;show Λ ?_>>=bV ?_;symm;lk;show q
def aiT(h:∃c∈cs,c.1=z):∃c,cs[ϋ cs z]?=↑c/\c.2=jU cs z:=by
 let a:=tM h;show#[cs[ϋ cs z],ϳ a,?_];unfold jU;rw[ϳ a]
theorem bR.Wc(h:bR cs M):∀o∈M.os,∃c∈cs,c.1=o.1:=λo a=>by
 let#[c,f,e]:=abt.mp (h.names o a);show#[c,f,e]
def agY(C:Cut):∃n,aW C.ahead=#[#v[n]]/\(cR C).cps.toList=n::(ad2 " " (bL C)).cps.toList:=by
 unfold cR;cases C.ahead
 .show#[62,by fin2,by rw[bJ,show(aW false).cps.toList=[62]from by fin2];rfl]
 .show#[60,by fin2,by rw[bJ,show(aW true).cps.toList=[60]from by fin2];rfl]
def aiL(a:Ψ cs=true)(h:bR cs M):ϑ 32 (ad2 " " (bL M.cut))=bL M.cut:=by
 show zX (by simp[bL]) λp hp=>?_
 obtain rfl|hp:=aaB.mp hp
 .intro c;have:=xX (M.cut.row:Int) 32 c;omega
 .let#[x,e,rfl]:=abt.mp hp;show(h.Hy a x e).2.2
def uF(cs:List ι)(os:List Ord):List ι:=os.map λo=>(o.1,jU cs o.1)
theorem V3:∀{os:List Ord}{xs:List V},ρ (λ(o:Ord) x=>ϖ (jU cs o.1) x) os xs->ρ (λ(c:ι) x=>ϖ c.2 x) (uF cs os) xs
 |_,_,.nil=>.nil
 |_,_,.cons r t=>.cons r (V3 t)
inductive aa6:Sp
 |mk (a b:δ) (M:Mk) (cs:List ι):vs=[.ref a,.ref b,.str (cR M.cut)]->Χ H a cs->aL H b M.os->Ψ cs=true->bR cs M->(∀p H',ζ H H'->H p=none->sX H' p M.cut->(∀k v,H' p=↑(.tup [.str (bM M.cut.ahead),.ref k])->H' k=↑(.tup [.ref v,.int M.cut.row])->H v=none)->Q (.ref p) H')
def DP:Def 7 "read_cut" ["columns","order","text"] aa6:=by
 exists aar,DP,hr,#[a,b,M,cs,rfl,hC,#[ws,hb,l],B,j,q],2,g1.aam,1;let vY:(["name","up","columns"]:List Str).Nodup:=by fin2
 let D1:=!Hn;let D2:=!xR;let D3:=!JW;let D4:=!nQ;let hlen:=Jz B j;let#[n,en,Ro]:=agY M.cut;let eS:ϐ (cR M.cut) none ↑1=aW M.cut.ahead:=by
  apply gM;rw[show ϐ (cR M.cut) none ↑1=ϐ (cR M.cut) none ↑((1:Nat):Int) from rfl,Be,Ro,en];rfl
 let eR:ϐ (cR M.cut) ↑1 none=ad2 " " (bL M.cut):=by
  apply gM;have:=CV (cR M.cut) 1;rw[show((1:Nat):Int)=1 from rfl]at this;rw[this,Ro];rfl
 let O:=l.len;let aqb:=j.len;k_go;show iQ () ?_;rw[eS];lk;show#[M.cut.ahead,rfl,?_];w_up;f_tup;show b7 F.plainAttrs_str F.slot_str_split F.type_str_split (h:=?_)>>=iQ () ?_;rw[eR];lk;let#[R,Y8]:=Bo B j;let ao7:=lR _ 21 R;let kj:=kO (bL M.cut);show m_split (c:=32) λl1 h1=>?_
 rw[aiL B j];let#[s1,e1,H,l1,H1]:=Ο h1 (.lst ((bL M.cut).map V.str));k_go;show ύ (η.of e1) (show Θ ((bL M.cut).map V.str) ((0:Nat):Int)=↑(V.str (Ϫ (toString (M.cut.row:Int))))from ϔ rfl) ?_>>=#[M.cut.row,1000000000,rfl,.inr rfl,by have:=j.row;omega,λH2 s2=>?_];let g:=s1<|>s2;w_up;show wM ["name","up","columns"] (σ':=[none,none,↑(.ref a)]) (bA (υ J4)) nd ?_;f_are;show#[b,ws,rfl,η.of (g<*hb),(),λτ=>∃o1 o2,τ=[o1,o2,↑(.ref a)],λD i u H'=>∃o,M.os[i]?=↑o/\u=.str (jU cs o.1),#[none,none,rfl],λD i u H2 H3 ys _ _ p=>p,λfp D C s3 H0 i τ x H4 H3 aQ hi U m hys hG=>?_,λD H4 ys aQ ϻ W e4 m =>?_]
 .let#[o1,o2,rfl]:=U;let#[au,rfl]:=hG;let#[o,G,t,rfl,ht]:=l.get au;show aj (ξ.of (m<*(g _ _ ht))) (Ι (ω vY (Ι (ω vY (ao ?_)))));lk;let y:=(hC.same g).same m;show#[a,cs,o.1,rfl,y,λH5 dB=>?_];let z:=j.Wc o (aa0 G);rw[vh 0 z,alw];let#[c,hg,Y]:=aiT z;let#[vs,ea,Z]:=y.same dB;let#[cv,gc,tc,rfl,aa]:=Z.get' hg;show ύ (η.of ea) (ϔ gc) ?_>>=Β (ξ.of aa) (show Θ [V.str c.1,V.str c.2] 1=↑(V.str c.2)from rfl) ?_*>#[#[_,_,rfl],#[o,G,by rw[Y]],dB]
 .let ey:=fJ (ys:=M.os) (λo=>V.str (jU cs o.1)) (by rw[ϻ,O]) W;let gJ:ys=((uF cs M.os).map Prod.snd).map V.str:=by rw[ey];unfold uF;rw[afm,afm];rfl
  subst gJ;let gD:=g<|>m;let ph:=m _ _ (s2<*e1);symm;lk;show pM (η.of ph) λl2 h2=>?_
  let ab:cG ((bL M.cut).map V.str) ↑1 none=(M.cut.xs.map wordOf).map V.str:=by
   rw[show↑(1:Int)=↑((1:Nat):Int)from rfl,aaP];rfl
  rw[ab];let#[I,e5,H4,l2,H5]:=Ο h2 (.lst ((M.cut.xs.map wordOf).map V.str));lk;show#[D,l2,uF cs M.os,M.cut.xs,rfl,I<*e4,e5,by unfold uF;rw[aaw];omega,λc ac=>?_,V3 j.vals,λv H6 s6 hv ev=>?_]
  .let#[o,G,rfl]:=abt.mp ac;show Y0 B (j.names o G)
  lk;show#[Ε,λk Y=>?_];let#[J,e7,H6,k,H7]:=Ο Y (.tup [.ref v,.int M.cut.row]);lk;show#[Ε,λp hp=>?_];let L:ζ H7 (upd H7 p (.tup [.str (bM M.cut.ahead),.ref k])):=ζ.upd hp;let lX:=gD<|>I<|>s6;let ae:H v=none:=(gD<|>I).free hv;show q p _ (lX<|>J<|>L) ((lX<|>J).free hp) #[k,v,ς,L<*e7,L<*(J _ _ ev)] λk' v' e f=>?_
  rw[ς]at e;injection e with e
  injection e with e
  injection e with _ e
  injection e with e _
  injection e with e
  subst e;rw[L<*e7]at f;injection f with f
  injection f with f
  injection f with f _
  injection f with f
  subst f;show ae
inductive Xn:Sp
 |mk (a:δ) (M:Mk) (cs:List ι):vs=[.ref a,.str (ϡ M)]->Χ H a cs->Ψ cs=true->bR cs M->(∀p o c k v H',ζ H H'->H' p=↑(.tup [.str (bB M.living),.int M.moment,.ref o,.str M.sieve,.ref c])->H o=none->aL H' o M.os->H' c=↑(.tup [.str (bM M.cut.ahead),.ref k])->H' k=↑(.tup [.ref v,.int M.cut.row])->H v=none->H' v=↑(.lst M.cut.xs)->o≠v->Q (.ref p) H')
def Hr:Def 51 "read_body" ["columns","body"] Xn:=by
 exists abE,Hr,hr,#[a,M,cs,rfl,B,j,f,q],2,g1.Xz,g2.amY,g3.ai3,n1.bz,1;let#[t,D,G]:=f.reads;let D1:=!En;let D2:=!xR;let D3:=!zH;let D4:= @Tz P w K mg base T t;let D5:=!DP;let#[M2,kc,na]:=alb (P:=P) (w:=w) (base:=base) T t;let#[b1,b2]:=wC j f;w_up;f_tup;show b7 F.plainAttrs_str F.slot_str_split F.type_str_split (h:=?_)>>=m_split (c:=47) λY h1=>?_
 rw[afl j f];let#[g,e1,H,Y,H1]:=Ο h1 (.lst ((cz M).map V.str));let l:η K H1 Y ((cz M).map V.str):=η.of e1;w_up;show Λ ?_>>=jA (λh=>absurd rfl h) (λ_=>?_)*>Δ ?_;k_go;show ύ l (i:=0) rfl ?_>>=#[M.living,rfl,λH2 Z=>?_];k_go;show ύ (Z.seq l) (i:=1) rfl ?_>>=#[M.moment,5000,rfl,.inl rfl,by have:=f.moment;omega,λH3 s3=>?_];let u:=Z<|>s3;k_go;show ύ (u.seq l) (i:=2) rfl ?_;lk;let lL:iY cs (bN M.os)=↑M.os:=R8 f.len f.nodup f.Wc λo I hm=>by
  let hn:=lE j (f.names o I);unfold isName eV at hn;rw[aaO,acL]at hn;show absurd (of_decide_eq_true (hn.2 32 hm)) (by fin2)
 show#[a,cs,bN M.os,rfl,B.same (g<|>u),(by have:=Q6 j f;omega),(λH' sm e=>by rw[lL]at e;cases e),λo os H4 s4 x I J=>?_];rw[lL]at x;cases x;let L:=u<|>s4;let N6:H o=none:=(g<|>u).free I;k_go;show ύ (L.seq l) (i:=3) rfl ?_>>=#[a,cs,M.sieve,rfl,B.same (g<|>L),(by have:=f.short;omega),(λy hy=>by have:=f.words y hy;omega),D,G,λsv H5 z m=>?_];let O:=L<|>z;let R:cW (ϑ 32 M.sieve) 0 ↥(ϑ 32 M.sieve)=M.sieve:=by
  unfold cW;rw[alI,arB,ahs,al7]
 rw[R]at m;let#[dx,fs,es,et,U]:=m.txt;symm;lk;show rF (pl:=_) hr Ϝ ?_;f_are;show#[sv,jb mg t,dx,_,true,1,_,BR K,rfl,es,U,M2,by decide,id,sv,jb mg t,dx,fs,_,rfl,es,kc,na,et,?_]>>=ύ (O.seq l) (i:=4) rfl ?_>>=#[a,o,M,cs,rfl,B.same (g<|>O),J.same z,j,f,λc H6 s6 hc0 qw hv=>?_]>>=#[Ε,λp hp=>?_];let#[k,v,z1,z2,z3]:=qw;let n:ζ H6 (upd H6 p (.tup [.str (bB M.living),.int M.moment,.ref o,.str M.sieve,.ref c])):=ζ.upd hp;let jx:=g<|>O;let W:=hv k v z1 z2;let#[ws,x,_]:=J.same z;show q p o c k v _ (jx<|>s6<|>n) ς N6 ((J.same z).same (s6<|>n)) (n<*z1) (n<*z2) (jx.free W) (n<*z3) λe=>?_
 rw[<-e,x]at W;cases W
inductive Ob:Sp
 |mk (a:δ) (M:Mk) (cs:List ι):vs=[.ref a,.str (du M)]->Χ H a cs->Ψ cs=true->bR cs M->(∀p o c k v H',ζ H H'->H' p=↑(.tup [.str (bB M.living),.int M.moment,.ref o,.str M.sieve,.ref c])->H o=none->aL H' o M.os->H' c=↑(.tup [.str (bM M.cut.ahead),.ref k])->H' k=↑(.tup [.ref v,.int M.cut.row])->H v=none->H' v=↑(.lst M.cut.xs)->o≠v->Q (.ref p) H')
def Ed:Def 52 "read_mark" ["columns","text"] Ob:=by
 exists T5,Ed,D,#[a,M,cs,rfl,i,f,g,q],2,G.RC,1,I Hr,J Cr;let#[L,O]:=wC f g;let R:=qy (ϡ M).cps.toList;let U:=Br (aY (ϡ M).cps.toList);let W:↥(".":Str)=1:=by fin2
 w_up;show fV ?_*>b7 PySem.F.plainAttrs_str PySem.F.slot_str_rpartition PySem.F.type_str_rpartition (h:=?_)>>=aoM (c:=46) (by unfold du;rw[len_app,len_app];omega) λt j=>?_
 let p1:(Txt.rpartition (du M) #[#v[46]]).1=ϡ M:=by rw[K7]
 let p2:(Txt.rpartition (du M) #[#v[46]]).2.1=#[#v[46]]:=by rw[K7]
 let p3:(Txt.rpartition (du M) #[#v[46]]).2.2=c7 (aY (ϡ M).cps.toList):=by rw[K7]
 rw[p1,p2,p3];show aj (ξ.of ς) (Ι (ω nd (Ι (ω nd (Ι (ω nd (ao ?_)))))));let e:ζ H (upd H t (.tup [.str (ϡ M),.str #[#v[46]],.str (c7 (aY (ϡ M).cps.toList))])):=ζ.upd j;generalize upd H t (.tup [.str (ϡ M),.str #[#v[46]],.str (c7 (aY (ϡ M).cps.toList))])=H1 at e⊢;w_up;show Λ ?_>>=cD ?_>>=#[ϡ M,rfl,(),CG f g,?_];generalize c7 (aY (ϡ M).cps.toList)=Y;lk;show jA (λh=>absurd rfl h) (λ_=>?_)*>Δ ?_;f_len;show KQ (λ_ _ _ _=>False) rfl rfl (λF pn xo po=>?_) (λσ c d H' l=>l.elim);symm;lk;show #[a,M,cs,rfl,i.same e,f,g,λp o c k v H' sm m n s u x y z B=>q p o c k v H' (e<|>sm) m (e.free n) s u x (e.free y) z B]
def ik(rows:List (Int×List V))(row:Int):Option (List V)->List (Int×List V)
 |none=>dC rows row
 |some xs=>bx rows row xs
def gP(rows:List (Int×List V))(ds:List bf):List (Int×List V):=ds.foldr (λd r=>ik r d.row d.was) rows
def il(rows:List (Int×List V)):List bf->Prop
 |[]=>True
 |d::ds=>il rows ds/\(d.was=none->Μ (gP rows ds) d.row≠none)
def ani{α:Type}(m:List (Int×α))(i:Int)(x:α):↥(bx m i x)<=↥m+1:=by
 unfold bx;split
 .rw[aaw];omega
 .rw[abp,adS];omega
def aer(rows:List (Int×List V))(row:Int)(o:Option (List V)):↥(ik rows row o)<=↥rows+1:=by
 cases o with
 |none=>show Nat.le_succ_of_le (ahD ..)
 |some xs=>show ani rows row xs
theorem abq(rows:List (Int×List V)):∀ds:List bf,↥(gP rows ds)<=↥rows+↥ds
 |[]=>Ϭ _
 |d::ds=>by
  let h1:=abq rows ds;let h2:=aer (gP rows ds) d.row d.was;show(ik (gP rows ds) d.row d.was).length<=_;rw[acD];omega
theorem il.drop:∀{ds:List bf}(n:Nat),il rows ds->il rows (ds.drop n)
 |ds,0,h=>h
 |[],n+1,h=>h
 |d::ds,n+1,h=>il.drop (ds:=ds) n h.1
inductive ZF:Sp
 |mk (a:δ) (rows:List (Int×List V)) (row:Int) (v:V) (o:Option (List V)):vs=[.ref a,.int row,v]->DictAt (TupAt H) H a rows->lY H v o->(o=none->Μ rows row≠none)->↥rows<1000000->(∀H',Out [a] H H'->DictAt (TupAt H') H' a (ik rows row o)->Q .non H')
def JR:Def 1 "put_back" ["rows","row","was"] ZF:=by
 exists ["rows","row","was"],JR,m,#[a,rows,row,v,o,rfl,#[Ϸ,f,g],j,i,hl,q];let n:_+1<cLine:=aet (agC (by decide:1<=64) _) m.units;let s:=g.len;let hsz:=ϯ;let st:∀c,∀b ys,H b=↑(.tup ys)->(upd H a (.dK c)) b=↑(.tup ys):=λc b ys e=>by
  rw[θ (λz=>by rw[z,f]at e;cases e)];show e
 f_len;show Λ ?_;cases o with
 |none=>
  let e:v=.non:=j;subst e;lk;f_len;show aD (Av ?_);f_are;show#[a,rfl,.inl #[_,.inl f],?_];f_are;obtain⟨e1,l⟩|⟨u,x,e1,l,_⟩:=jP g row
  .show absurd l (i rfl)
  show#[Ϸ,Sum.inl row,u,f,rfl,e1,?_]*>q _ (Out.upd (by simp)) #[_,ς,cH (yf g row) λv p h=>h.stay (st _)]
 |some xs=>
  let#[t,rfl,y]:=j;lk;f_len;show jr n ?_;cbv;show#[a,_,rfl,dW.k (k:=Sum.inl row) f (),?_]*>q _ (Out.upd (by simp)) #[_,ς,cH (nA g row (x:=xs) #[t,rfl,y]) λv p h=>h.stay (st _)]
def qG(B:Bk):Prop:=0<=B.known/\B.known<=B.now/\B.now<=1000000000
inductive tL(mg:MG):Sp
 |mk (A:BA) (B:Bk) (mo:Int):vs=[.ref A.b,.int mo]->Ρ (cB mg) H A B->qG B->(mo<B.known->∀e H',ζ H H'->H' e=↑(.xd [("known",.int B.known)])->E (.ref (ο mg "Gone")) (↑e,true) H')->(B.now<mo->∀e H',ζ H H'->H' e=↑(.xd [("now",.int B.now)])->E (.ref (ο mg "Later")) (↑e,true) H')->(B.known<=mo->mo<=B.now->∀p ys,H p=none->ρ (lB H) ys (B.done.drop (mo-B.known).toNat)->Q (.ref p) (upd H p (.lst ys)))
def VN:FD 3 "done_behind" "Book.done_behind" R3 ["self","moment"] (tL mg):=by
 show bF (N:=["self","moment"]) (λf F A' outer s H vs Q E j h=>?_);intro X _;let#[A,B,mo,rfl,l,#[G,m1,m2],n,u,q]:=h;let a:=T.aF;let g:=T.JT;let m:=T.Aw;let v:=T.CN;let c:=l.ins;let#[ds,x,y]:=l.done;w_up;cbv;show aN ?_;f_are;show#[A.b,_,_,_,_,rfl,c,a,g,rfl,?_];cbv;show Α (λh=>?_) (λh=>?_)
 .cbv;show(Yv (afX T (cc:=true)) j (λ_=>rfl) Ϝ ?_);cbv;show aN ?_;f_are;show#[A.b,_,_,_,_,rfl,c,a,g,rfl,?_];cbv;show#[B.known,rfl,(),λe H' sm i=>n h e H' sm i]
 show Δ ?_;w_up;cbv;show aN ?_;f_are;show#[A.b,_,_,_,_,rfl,c,a,m,rfl,?_];cbv;show Α (λh2=>?_) (λh2=>?_)
 .cbv;show(Yv (akQ T (cc:=true)) j (λ_=>rfl) Ϝ ?_);cbv;show aN ?_;f_are;show#[A.b,_,_,_,_,rfl,c,a,m,rfl,?_];cbv;show#[B.now,rfl,(),λe H' sm i=>u () e H' sm i]
 show Δ ?_;symm;cbv;show aN ?_;f_are;show#[A.b,_,_,_,_,rfl,c,a,v,rfl,?_];cbv;show aN ?_;f_are;show#[A.b,_,_,_,_,rfl,c,a,g,rfl,?_];cbv;show pM (η.of x) λp z=>?_
 let D:mo-B.known=((mo-B.known).toNat:Int):=()
 let e1:cG ds ↑(mo-B.known) none=ds.drop (mo-B.known).toNat:=by rw[D];show aaP ds _
 rw[e1];show q () () p _ z (y.drop _)
inductive xV(mg:MG):Sp
 |mk (A:BA) (B:Bk) (mo:Int):vs=[.ref A.b,.int mo]->Ρ (cB mg) H A B->qG B->(mo<=B.known->Q .non H)->(B.now<mo->∀e H',ζ H H'->H' e=↑(.xd [("now",.int B.now)])->E (.ref (ο mg "Later")) (↑e,true) H')->(B.known<mo->mo<=B.now->∀d H',H d=none->Out [A.b] H H'->Ρ (cB mg) H' {A with d:=d} {B with done:=B.done.drop (mo-B.known).toNat,known:=mo}->Q .non H')
def amu:FD 4 "let_go" "Book.let_go" Qz ["self","moment"] (xV mg):=by
 show bF (N:=["self","moment"]) (λf Z A' outer s H vs Q E F h=>?_);intro X _;let#[A,B,mo,rfl,c,G,I,J,q]:=h;let j:=T.aF;let n:=T.JT;let L:=T.CN;let u:=c.ins;let M1:aK P w K mg base true 3 (cB mg) "done_behind" ["self","moment"] (tL mg):=(VN T).meth T.aF T.Yr;f_len;show Λ ?_>>=aN ?_;f_are;show#[A.b,_,_,_,_,rfl,u,j,n,rfl,?_]>>=Α (λh=>?_) (λh=>?_)
 .w_up;show gB ?_*>cX (pl:=_) F Ϝ (h:=?_);f_are;show#[A.b,cB mg,A.dx,_,true,3,_,tL mg,rfl,u,by rfl,M1,by decide,id,?_];cbv;show#[A,B,mo,rfl,c,G,λz=>absurd z (),J,λ_ M p ys g l=>?_];let#[i,ep,H,p,H1]:=Ο g (.lst ys);let k1:=c.same i;let m:ρ (lB H1) ys (B.done.drop (mo-B.known).toNat):=ρ.imp (λv d h=>h.stay λb ys e=>i _ _ e) l;f_are;show#[A.b,_,_,_,rfl,k1.ins,j,L,by show 6<1000;decide,?_];let n1:p≠A.b:=λe=>by have:=c.ins;rw[<-e,g]at this;cases this
  let y:Out [A.b] H _:=(Out.of i)<|>(Out.upd (H:=H1) (a:=A.b) (o:=.ins (cB mg) A.dx [("heads",.ref A.h),("rows",.ref A.r),("touched",.ref A.t),("done",.ref p),("known",.int B.known),("now",.int B.now)]) (by simp));let k2:Ρ (cB mg) (upd H1 A.b (.ins (cB mg) A.dx [("heads",.ref A.h),("rows",.ref A.r),("touched",.ref A.t),("done",.ref p),("known",.int B.known),("now",.int B.now)])) {A with d:=p} {B with done:=B.done.drop (mo-B.known).toNat}:=by
   let kk:=(k1.Dk B.known B.now);let#[m1,m2,O,R,m5,m6,m7,m8,m9,S,U,W]:=k1.ne;let st:∀b ys,H1 b=↑(.tup ys)->(upd H1 A.b (.ins (cB mg) A.dx [("heads",.ref A.h),("rows",.ref A.r),("touched",.ref A.t),("done",.ref p),("known",.int B.known),("now",.int B.now)])) b=↑(.tup ys):=λb ys e=>by
    rw[θ (λz=>by rw[z,k1.ins]at e;cases e)];show e
   show#[ς,by rw[θ (Ne.symm m1)];show k1.own,k1.heads.stay (λxs e=>by rw[θ (Ne.symm m2)];show e) st,?_,?_,#[ys,by rw[θ n1];show ep,ρ.imp (λv d h=>h.stay st) m],k1.rt,λe=>?_]
   .let#[Ϸ,e,h]:=k1.rows;show#[Ϸ,by rw[θ (Ne.symm O)];show e,cH h λv x h=>h.stay st]
   .let#[Ϸ,e,h]:=k1.touched;show#[Ϸ,by rw[θ (Ne.symm R)];show e,h]
   .let Y:A.h=p:=e;let#[_,D,_]:=c.heads;rw[Y,g]at D;cases D
  change Η _ _ _ _ (upd H1 A.b (.ins (cB mg) A.dx [("heads",.ref A.h),("rows",.ref A.r),("touched",.ref A.t),("done",.ref p),("known",.int B.known),("now",.int B.now)]));generalize upd H1 A.b _=H2 at k2 y⊢;f_len;show gB ?_;cbv;show#[A.b,_,_,_,rfl,k2.ins,j,n,by show 6<1000;decide,?_];let k3:=k2.Dk mo B.now;show q () M p _ g (y<|>(Out.upd (by simp))) k3
 .show Δ (I ())
inductive Bq(mg:MG):Sp
 |mk (A:BA) (B:Bk) (mo:Int):vs=[.ref A.b,.int mo]->Ρ (cB mg) H A B->qG B->↥B.rows<1000->↥B.done<10000->(mo<B.known->∀e H',ζ H H'->H' e=↑(.xd [("known",.int B.known)])->E (.ref (ο mg "Gone")) (↑e,true) H')->(B.now<mo->∀e H',ζ H H'->H' e=↑(.xd [("now",.int B.now)])->E (.ref (ο mg "Later")) (↑e,true) H')->(B.known<=mo->mo<=B.now->il B.rows (B.done.drop (mo-B.known).toNat)/\↥(gP B.rows (B.done.drop (mo-B.known).toNat))<64/\
  ∀p ys ks H',ζ H H'->H p=none->ks.Perm ((gP B.rows (B.done.drop (mo-B.known).toNat)).map (·.1))->ks.Pairwise (· <= ·)->H' p=↑(.lst ys)->ρ (Cq H H') ys (dO (gP B.rows (B.done.drop (mo-B.known).toNat)) ks)->Q (.ref p) H')
def acW:FD 4 "rows_at" "Book.rows_at" Ii ["self","moment"] (Bq mg):=by
 show bF (S:=OD) (λf Ϻ A' outer s H vs Q E hr h=>?_);intro X _;let#[A,B,mo,rfl,M,hm,hrl,hdl,qg,ql,q]:=h;let nd:=OD.nd;let hc:=T.aF;let a1:=T.wG;let n1:=T.akm;let n2:=T.aaQ;let M1:aK P w K mg base true 3 (cB mg) "done_behind" ["self","moment"] (tL mg):=(VN T).meth T.aF T.Yr;let D1:=!JR;let D2:=!Ep;let#[Ϸ,er,hR]:=M.rows;w_up;cbv;show aN ?_;f_are;show#[A.b,_,_,_,_,rfl,M.ins,hc,a1,rfl,?_];cbv;show afZ er λr g=>?_
 let#[c,O]:=Ο g (.dK Ϸ);change Η _ _ _ _ (upd H r (.dK Ϸ));generalize upd H r (.dK Ϸ)=H1 at c O⊢;let S9:=M.same c;let j4:ρ (PR (TupAt H1)) Ϸ B.rows:=cH hR λv x h=>h.stay λb ys e=>c _ _ e
 w_up;show Xe (by walk_at"po") (by rfl) (by rfl) n2 (by rfl) ?_*>cX (pl:=_) hr Ϝ (h:=?_);f_are;show#[A.b,cB mg,A.dx,_,true,3,_,tL mg,rfl,S9.ins,by rfl,M1,by decide,id,?_];cbv;show#[A,B,mo,rfl,S9,hm,λz e H' sm R=>qg z e H' (c<|>sm) R,λz e H' sm R=>ql z e H' (c<|>sm) R,λz1 z2 p ys U a=>?_];let#[hok,j,q]:=q z1 z2;let W:↥(B.done.drop (mo-B.known).toNat)<=↥B.done:=by rw[adu];omega
 generalize B.done.drop (mo-B.known).toNat=ds at a hok j q W;let Y:=a.len;let#[m,ep,H1,p,H2]:=Ο U (.lst ys);let Z:ρ (lB H2) ys ds:=ρ.imp (λv d h=>h.stay λb ys e=>m _ _ e) a;let Rf:=m _ _ O;let rp:r≠p:=λe=>by rw[<-e,O]at U;cases U
 show#[p,ys,rfl,η.of ep,λi σ H'=>(∃n,σ=[↑(.ref A.b),↑(.int mo),↑(.ref r),n])/\Out [r] H2 H'/\DictAt (TupAt H') H' r (gP B.rows (ds.drop (↥ys-i))),#[#[none,rfl],Out.refl _ _,#[Ϸ,Rf,?_]],λi σ H' hi y=>η.of (y.2.1 _ _ (~~~Ne.symm rp) ep),λi x σ H' hi hx y=>?_,λσ H' y=>?_]
 .rw[arB,Y,amX];show cH j4 λv x h=>h.stay λb ys e=>m _ _ e
 .let#[#[n,rfl],o,J]:=y;let#[d,hd,t,w,u,rfl,ht,hw,hu]:=Z.get hx;let st:∀b ys,H2 b=↑(.tup ys)->H' b=↑(.tup ys):=λb ys e=>o _ _ (λz=>by rw[ack.mp z,Rf]at e;cases e) e
  let D:↥ys-(i+1)<↥ds:=()
  let F:ds.drop (↥ys-(i+1))=d::ds.drop (↥ys-i):=by
   rw[afy D];let e1:ds[↥ys-1-i]?=↑d:=hd;let e2:↥ys-1-i=↥ys-(i+1):=()
   rw[e2]at e1;rw[(aav.mp e1).2,show ↥ys-(i+1)+1=↥ys-i by omega]
  let G:il B.rows (d::ds.drop (↥ys-i)):=by rw[<-F];show hok.drop _
  let Xy:=abq B.rows (ds.drop (↥ys-i));let ap0:↥(ds.drop (↥ys-i))<=↥ds:=by rw[adu];omega
  let I:ξ K H' t [.int d.at_,.int d.row,w,u]:=ξ.of (st<*ht);show ω nd ?_;f_len;cbv;show Β I (i:=1) rfl ?_;cbv;show Β I (i:=2) rfl ?_;cbv;show#[r,gP B.rows (ds.drop (↥ys-i)),d.row,w,d.was,rfl,J,hw.stay st,G.2,(),λH3 n k3=>?_]*>#[#[_,rfl],o<|>n,?_];rw[F];show k3
 .let#[#[n,rfl],o,J]:=y;rw[arE,alI]at J;let L:ζ H H':=λb u e=>o _ _ (λz=>by rw[ack.mp z,g]at e;cases e) (m<*(c _ _ e))
  f_len;cbv;show#[r,_,rfl,J,j,λp2 aa ks H3 ab ac ae af JH ag=>?_]*>q p2 aa ks H3 (L<|>ab) (L.free ac) ae af JH (ρ.imp (λv x z=>by let#[t,l,e,h1,h2,h3,h4]:=z;show #[t,l,e,h1,h2,L.free h3,L.free h4]) ag)
def HN(r:List (Int×List V))(row:Int)(o:Option (List V))(i:Int):Μ (ik r row o) i=if i=row then o else Μ r i:=by
 cases o with
 |none=>show wY
 |some xs=>show vD
def ZM(h:(r.map (·.1)).Nodup)(row:Int)(o:Option (List V)):((ik r row o).map (·.1)).Nodup:=by
 cases o with
 |none=>show V1 h
 |some xs=>show Uy h
def eZ(ds:List bf):List (Int×List V):=ds.foldl (λr d=>ik r d.row d.is) []
def MK(ds:List bf)(d:bf):eZ (ds++[d])=ik (eZ ds) d.row d.is:=by
 unfold eZ;rw[ass];rfl
def take_snoc{α:Type}{l:List α}{d:α}(h:l[j]?=↑d):l.take (j+1)=l.take j++[d]:=by
 rw[List.take_succ,h];rfl
def YQ:∀ds:List bf,((eZ ds).map (·.1)).Nodup:=by
 intro ds;unfold eZ;have:∀(ds:List bf)(r:List (Int×List V)),(r.map (·.1)).Nodup->((ds.foldl (λr d=>ik r d.row d.is) r).map (·.1)).Nodup:=by
  intro ds;induction ds with
  |nil=>show λr h=>h
  |cons d ds a=>show λr h=>a _ (ZM h _ _)
 show this ds [] (by simp)
theorem UG(h:(r.map (·.1)).Nodup):∀ds:List bf,((gP r ds).map (·.1)).Nodup
 |[]=>h
 |d::ds=>ZM (UG h ds) _ _
def Za(all:List bf):=∀(j:Nat) d,all[j]?=↑d->d.at_=j+1/\d.was=Μ (eZ (all.take j)) d.row/\(d.was=none->d.is≠none)
theorem back_eq(h:Za all):∀(n j:Nat),j+n=↥all->(∀i,Μ (gP (eZ all) (all.drop j)) i=Μ (eZ (all.take j)) i)/\il (eZ all) (all.drop j)
 |0,j,e=>by
  let l:j=↥all:=()
  subst l;rw[amX,ahs];show#[λ_=>rfl,trivial]
 |n+1,j,e=>by
  let#[a,c]:=back_eq h n (j+1) ();let f:j<↥all:=()
  let hd:all[j]?=↑all[j]:=ϳ f;let#[_,h2,g]:=h j _ hd;let e1:all.drop j=all[j]::all.drop (j+1):=afy f;rw[take_snoc hd,MK]at a;rw[e1];generalize all[j]=d at h2 g a;show#[λi=>?_,c,λm=>?_]
  .show Μ (ik (gP (eZ all) (all.drop (j+1))) d.row d.was) i=_;rw[HN,a,HN];by_cases z:i=d.row
   .rw[if_pos z,h2,z]
   .rw[if_neg z,if_neg z]
  .rw[a,HN,if_pos rfl];show g m
def akX(e:∀i,Μ r1 i=Μ a i)(ks:List Int):dO r1 ks=dO a ks:=by
 unfold dO;show aqj λk _=>by rw[e k]
structure gW(all:List bf)(B:Bk):Prop where
 rows:B.rows=eZ all
 done:B.done=all.drop B.known.toNat
 now:B.now=↥all
 kn:0<=B.known/\B.known<=B.now
 good:Za all
 wf:nY B
def gW.abw(h:gW all B)(row:Int)(o:Option (List V))(f:Μ B.rows row=none->o≠none):gW (all++[#[B.now+1,row,Μ B.rows row,o]]) (aP B row o):=by
 let g:=h.kn;let hn:=h.now;show#[?_,?_,?_,#[g.1,?_],?_,?_]
 .rw[MK];cases o with
  |none=>
   show dC B.rows row=ik (eZ all) row none;rw[h.rows];rfl
  |some xs=>
   show bx B.rows row xs=ik (eZ all) row ↑xs;rw[h.rows];rfl
 .show B.done++[(#[B.now+1,row,Μ B.rows row,o]:bf)]=List.drop B.known.toNat (all++[#[B.now+1,row,Μ B.rows row,o]]);rw[List.drop_append_of_le_length (), <-h.done]
 .show B.now+1=_;rw[abp,adS];omega
 .show B.known<=B.now+1;omega
 .intro j d hd;by_cases l:j<↥all
  .rw[aiJ l]at hd;have:=h.good j d hd;rw[arS ()];show this
  .let a:j<↥(all++[(#[B.now+1,row,Μ B.rows row,o]:bf)]):=(aav.mp hd).1;rw[abp,adS]at a;let e:j=↥all:=()
   subst e;rw[akd (Ϭ _),arE]at hd;let c:d=#[B.now+1,row,Μ B.rows row,o]:= ~~~hd.symm
   subst c;show#[by show B.now+1=_;omega,?_,f];show Μ B.rows row=_;rw[arS (Ϭ _),ahs,h.rows]
 .intro i;cases o with
  |none=>
   show Μ (dC B.rows row) i=none↔ Μ (dC B.touched row) i=none;rw[wY,wY];by_cases e:i=row
   .simp[e]
   .rw[if_neg e,if_neg e];show h.wf i
  |some xs=>
   show Μ (bx B.rows row xs) i=none↔ Μ (bx B.touched row (B.now+1)) i=none;rw[vD,vD];by_cases e:i=row
   .rw[if_pos e,if_pos e];simp
   .rw[if_neg e,if_neg e];show h.wf i
theorem gW.uJ(h:gW all B)(hl:↥all<=1000000):qG B:=#[h.kn.1,h.kn.2,by have:=h.now;omega]
abbrev mJ:Str:=Ϫ "still"
def bO(B:Bk)(mo:Nat):List Row:=gP B.rows (B.done.drop ((mo:Int)-B.known).toNat)
structure uE(mg:MG)(H:Hp)(A:BA)(B:Bk)(mo:Nat):Prop where
 bk:Ρ (cB mg) H A B
 mm:qG B
 r1:↥B.rows<1000
 d1:↥B.done<10000
 le:(mo:Int)<=B.now
 un:B.known<=mo->il B.rows (B.done.drop ((mo:Int)-B.known).toNat)/\↥(bO B mo)<64/\((bO B mo).map Prod.fst).Nodup/\∀r∈bO B mo,ϛ B.heads r/\0<=r.1/\r.1<=1000000000
theorem uE.same(h:uE mg H A B mo)(s:ζ H H'):uE mg H' A B mo:=#[h.bk.same s,h.mm,h.r1,h.d1,h.le,h.un]
def oX(mg:MG)(B:Bk)(mo:Nat)(H:Hp)(E:XK):Prop:=(mo:Int)<B.known->∀e H',ζ H H'->H' e=↑(.xd [("known",.int B.known)])->E (.ref (ο mg "Gone")) (↑e,true) H'
theorem oX.same(h:oX mg B mo H E)(s:ζ H H'):oX mg B mo H' E:=λa e H2 c g=>h a e H2 (s<|>c) g
inductive aas(K:Ϩ)(mg:MG)(t:Tr):Sp
 |mk (A:BA) (B:Bk) (mo:Nat) (a:δ) (z:Str):vs=[.ref A.b,.str mJ,.int (mo:Nat),.ref a]->uE mg H A B mo->eF mg H t a z->fY B.heads t->oX mg B mo H E->(B.known<=mo->∀q ws rs H',ζ H H'->H q=none->H' q=↑(.lst ws)->ρ (aO H') ws rs->rs.Perm ((bO B mo).filter λr=>bw r.2 t)->Q (.ref q) H')
def Jc(t:Tr):Def (5+t.dep) "rows_of_list" ["book","make","begin","sieve"] (aas K mg t):=by
 rw[show 5+t.dep=(4+t.dep)+1 by omega];show Γ (S:=R4) T.Jc (λf Ϻ A' outer s H vs Q E n h=>?_);intro X _;let#[A,B,mo,a,z,rfl,c,L,p,M,q]:=h;let nd:=R4.nd;let g1:=T.Kv;let M1:aK P w K mg base true 4 (cB mg) "rows_at" ["self","moment"] (Bq mg):=(acW T).meth T.aF T.aj5;let D1:= @K9 P w K mg base T t;k_go;show Α (λh=>?_) (λ_=>?_)
 .injection h with h
  show absurd h (by fin2)
 show cX (pl:=_) n Ϝ (h:=?_);f_are;show#[A.b,cB mg,A.dx,_,true,4,_,Bq mg,rfl,c.bk.ins,by rfl,M1,(),id,?_];lk;show#[A,B,(mo:Nat),rfl,c.bk,c.mm,c.r1,c.d1,M,(λh=>absurd h (by have:=c.le;omega)),λg _=>#[(c.un g).1,(c.un g).2.1,λp1 ys ks H1 v O x R y D=>?_]];let#[_,U,F,j]:=c.un g;let i:=DG (rows:=bO B mo) F x;let I:fU H1 p1 (dO (bO B mo) ks):=#[ys,y,D.imp λu r z=>by
  let#[t,l,e,h1,h2,_]:=z;show#[t,l,e,h1,h2]]
 generalize dO (bO B mo) ks=rs at i I;let W:=i.length_eq;symm;lk;show #[a,p1,z,rs,rfl,L.same v,I,(),λr n=>Yh (j r (i.mem_iff.mp n)).1 p,λp2 Y H2 J G m Z=>?_]*>q g p2 Y _ H2 (v<|>J) (v.free G) m (Z.imp λu r z=>z.row J) (i.filter _)
inductive Qe:Sp
 |mk (x y z:V):vs=[x,.str mJ,y,z]->Q (.bl true) H
def Km:Def 1 "is_untouched" ["book","make","begin","row"] Qe:=by
 exists ["book","make","begin","row"],Km,a,#[x,y,z,rfl,q],c.Nj;symm;lk;show Α (λ_=>q) (λh=>absurd rfl h)
def lA(mo:Nat)(os:List Ord)(z:Str)(many:Nat)(L:Lf):aU:=#[L.rows.map λr=>(r.1,r.2,true),ak false mo os z L.back,ak false mo os z L.ϟ,many,L.start,mo]
structure jK(K:Ϩ)(mg:MG)(H:Hp)(A:BA)(B:Bk)(os:List Ord)(t:Tr)(mo n:Nat):Prop where
 bk:uE mg H A B mo
 li:jq B.heads os t mo
 n1:1<=n
 n2:n<=100
 tb:H (dh K "sorted_by")=↑(.tbl jZ)
theorem jK.same{A:BA}{B:Bk}{os:List Ord}{t:Tr}{mo n:Nat}(h:jK K mg H A B os t mo n)(s:ζ H H'):jK K mg H' A B os t mo n:=#[h.bk.same s,h.li,h.n1,h.n2,s<*h.tb]
def pF(B:Bk)(os:List Ord)(t:Tr)(mo n:Nat)(a:Bool)(c:Ct)(H:Hp)(Q:VK):Prop:=B.known<=mo->∀p ls H',ζ H H'->Line B.heads os ls->ls.Perm ((bO B mo).filter λr=>bw r.2 t)->lK H H' p (lA mo os (sT B.heads t) ↥ls (cZ a B.heads os ls c n))->Q (.ref p) H'
theorem pF.same{os:List Ord}{t:Tr}{mo n:Nat}{e:Bool}{c:Ct}{H H':Hp}{Q:VK}(h:pF B os t mo n e c H Q)(s:ζ H H'):pF B os t mo n e c H' Q:=λa p ls H2 f h1 h2 g=>h a p ls H2 (s<|>f) h1 h2 (g.old s)
inductive uP(K:Ϩ)(mg:MG)(t:Tr)(on:Bool):Sp
 |mk (A:BA) (B:Bk) (mk:δ) (os:List Ord) (mo n:Nat) (c:Ct):vs=[.ref A.b,.ref mk,.int (n:Nat),.bl on]->jK K mg H A B os t mo n->jm H mk false mo os (sT B.heads t) c->pO B.heads os on c->oX mg B mo H E->pF B os t mo n on c H Q
def uI(hN:fO K mg base "sorted_by")(t:Tr)(F:Bool):Def (10+2*t.dep) "leaf_from" ["book","mark","size","onward"] (uP K mg t F):=by
 rw[show 10+2*t.dep=(9+2*t.dep)+1 by omega];show Γ (S:=Pq) T.uI (λf Ϻ A' outer s H vs Q E i h=>?_);intro X _;let#[A,B,mk,os,mo,n,ct,rfl,a,#[o,v,aa,hO,R],Mp,hE,q]:=h;let nd:=Pq.nd;let n1:=T.bz;let g1:=T.Kv;let hsz:=ϯ;let U:=a.li.gt;let hok:=a.li.ok;let ab:=a.li.inc;let rC:=a.li.o4;let#[c1,c6]:=lG hok;let Y6:(["row","values","book","make","begin"]:List Str).Nodup:=by fin2
 let D1:= @Tz P w K mg base T t;let D2:= @Jc P w K mg base T t;let D3:Def P w K mg base true 8 "line_of" ["columns","order","rows"] (Jd K):=Jy T hN;let D4:=!DK;let D5:=!Ip;let D6:=!Km;let D7:=!Ja;let M3:aK P w K mg base true 1 (cB mg) "columns" ["self"] (mO mg):=(Eh T).meth T.aF T.K4;let hw:=wN hok U;let qw:ϑ 32 (sT B.heads t)=wT (Φ B.heads) t:=zX (HW (Φ B.heads) t) λz hz=>(hw z hz).2.1
 let aq3:=a.li.CZ;let p7:↥(sT B.heads t)<=3000:=by
  let h1:=lR (wT (Φ B.heads) t) 21 λp hp=>(hw p hp).1
  let h2:=kO (wT (Φ B.heads) t);show(ad2 " " (wT (Φ B.heads) t)).length<=3000;omega
 let am:Reads B.heads (wT (Φ B.heads) t) t 0 ↥(wT (Φ B.heads) t):=by
  have:=Le hok (ws:=wT (Φ B.heads) t) (t:=t) (s:=0) #[[],by simp] () U;rw[alw]at this;show this
 w_up;show fV ?_>>=aj (ξ.of aa) (Ι (ω nd (Ι (ω nd (Ι (ω nd (Ι (ω nd (Ι (ω nd (ao ?_)))))))))));w_up;f_tup;show rF (pl:=_) i Ϝ ?_;f_are;show⟨A.b,cB mg,A.dx,_,true,1,_,mO mg,rfl,a.bk.bk.ins,by rfl,M3,(),id,A,B,rfl,a.bk.bk,λc H1 s1 hc0 hC=>?_⟩;k_go;show#[c,B.heads,_,rfl,hC,p7,by rw[qw];show λy M=>by have:=(hw y M).1;omega,a.li.dp,by rw[qw];show am,λsv H2 s2 hv=>?_];generalize cW (ϑ 32 (sT B.heads t)) 0 ↥(ϑ 32 (sT B.heads t))=zz at hv;let cY:=s1<|>s2;lk;show#[A,B,mo,sv,zz,rfl,a.bk.same cY,hv,U,hE.same cY,λac p2 Gr rs H3 s3 hp2 ae Jj G=>?_];let#[_,ar,av,Gy]:=a.bk.un ac;let aH:=cY<|>s3;let aw:↥((bO B mo).filter λr=>bw r.2 t)<=↥(bO B mo):=ahD ..;let ax:↥rs<64:=aet (ad7 (anR G.length_eq) aw) ar;let O:∀r∈rs,r∈bO B mo:=λr i=>(ajs.mp (G.mem_iff.mp i)).1
 let ay:(rs.map Prod.fst).Nodup:=(G.map Prod.fst).nodup_iff.mpr (av.sublist (List.Sublist.map _ as6));lk;show#[c,o,p2,B.heads,os,rs,rfl,hC.same (s2<|>s3),hO.same aH,#[Gr,ae,Jj],c6,(),ab,ax,λr i=>(Gy r (O r i)).1,ay,aH<*a.tb,λln lw ls H4 s4 fD OJ af hL Ϥ=>?_];let Z:=aH<|>s4;let rP:=af.len;let aC:=Ϥ<|>G;let hll:↥ls=↥rs:=Ϥ.length_eq;let m:∀r∈ls,r∈bO B mo:=λr i=>O r (Ϥ.mem_iff.mp i)
 let K5:mU B.heads os ls:=#[#[c1,c6],rC,ab,λr i=>(Gy r (m r i)).1,hL,()];let ag:∀r∈ls,0<=r.1/\r.1<=1000000000:=λr i=>(Gy r (m r i)).2
 let ah:fU H4 ln ls:=#[lw,OJ,af.imp λu r z=>by
  let#[t,l,e,_,_,_,h1,h2]:=z;show#[t,l,e,h1,h2]]
 let Ia:=aal K5 ag a.n1 Mp
 let rest:∀(D:δ)(us:List V)(x y:V)(H5:Hp),ζ H4 H5->H4 D=none->H5 D=↑(.lst us)->ρ (jN D H4 H5) us (cZ F B.heads os ls ct n).rows->dM H5 x (cZ F B.heads os ls ct n).back->dM H5 y (cZ F B.heads os ls ct n).ϟ->
   Η X ((ϓ yH).drop 4) {nx:=λ_ H'=>Q .non H',rt:=Q} [↑(.ref A.b),↑(.ref mk),↑(.int (n:Nat)),↑(.bl F),↑(.str mJ),↑(.int (mo:Nat)),↑(.ref o),↑(.str (sT B.heads t)),↑v,↑(.ref c),↑(.ref ln),↑(.ref D),↑x,↑y,↑(.int ((cZ F B.heads os ls ct n).start:Nat)),none,none] H5:=by
  intro D us x y H5 s5 I hq g hx M;generalize ai:cZ F B.heads os ls ct n=L at g hx M Ia⊢;let km:=g.len;let jx:=Z<|>s5;let Uu:↥L.rows<=1000:=by
   have:=g.len;rw[<-ai];cases F
   .show(ϊ ls _ _).length<=1000;unfold ϊ;rw[adn,adu];omega
   .show(ϊ ls _ _).length<=1000;unfold ϊ;rw[adn,adu];omega
  w_up;show wM ["row","values","book","make","begin"] (σ':=[none,none,↑(.ref A.b),↑(.str mJ),↑(.int (mo:Nat))]) (bA (υ yH)) nd ?_>>=#[D,us,rfl,η.of hq,(),λτ=>∃o1 o2,τ=[o1,o2,↑(.ref A.b),↑(.str mJ),↑(.int (mo:Nat))],λE2 j u H'=>u≠.ref E2/\∃r t l,L.rows[j]?=↑r/\u=.ref t/\H' t=↑(.tup [.int r.1,.ref l,.bl true])/\H4 l=none/\H5 l=↑(.lst r.2),#[none,none,rfl],λE2 j u H8 H9 ys hE hk p=>?_,λfp E2 C s9 H8 j τ x H6 H7 aQ hi aE vy W hG=>?_,λq1 H6 Rc aI hl6 aR e6 s6=>?_]
  .let#[h0,r,t,l,i,e,h1,h2,h3]:=p;show#[h0,r,t,l,i,e,hk _ _ (λz=>h0 (by rw[e,z])) h1,h2,h3]
  .let#[o1,o2,rfl]:=aE;let#[au,rfl]:=hG;let#[r,J,tr,lr,rfl,apz,aS,_,aT,aX]:=g.get au;let#[ys,W]:=W;show aj (ξ.of (vy<*aT)) (Ι (ω Y6 (Ι (ω Y6 (ao ?_)))))>>=#[_,_,_,rfl,?_]>>=#[Ε,λt2 cA=>?_]*>#[#[_,_,rfl],#[λz=>?_,r,t2,lr,J,rfl,ς,aS,aX],ζ.upd cA];injection z with z
   rw[z,W]at cA;cases cA
  let lX:=jx<|>s6;k_go;show Α (λh=>?_) (λ_=>?_)
  .injection h with h
   show absurd h (by fin2)
  lk;let al:jm H6 mk false mo os (sT B.heads t) ct:=jm.same #[o,v,aa,hO,R] lX;let a0:η K H6 ln lw:=(s5<|>s6).seq (η.of OJ);symm;lk;show #[mk,x,false,B.heads,os,t,mo,ct,L.back,rfl,al,a.li,hx.same s6,λd e=>Ia d (.inl e),λH7 Y=>?_]>>=#[mk,y,false,B.heads,os,t,mo,ct,L.ϟ,rfl,al.same Y,a.li,M.same (s6<|>Y),λd e=>Ia d (.inr e),λH8 s8=>?_];let sq8:η K H8 ln lw:=(Y<|>s8).seq a0;lk;show#[Ε,λp9 a1=>?_];let s9:=ζ.upd (o:=.tup [.ref q1,ak false mo os (sT B.heads t) L.back,ak false mo os (sT B.heads t) L.ϟ,.int (↥lw:Nat),.int (L.start:Nat),.int (mo:Nat)]) a1;show q ac p9 ls _ (((lX<|>Y)<|>s8)<|>s9) hL aC ?_;rw[ai];show#[q1,Rc,by rw[ς,rP];rfl,jx.free aI,((Y<|>s8)<|>s9)<*e6,kh (by show(L.rows.map _).length=_;rw[aaw];omega) λj r' a2=>?_];let Vc:(L.rows.map λr=>(r.1,r.2,true))[j]?=↑r':=a2;rw[abD]at Vc;let#[r,i,rfl]:=aj7.mp Vc;let hj:j<↥Rc:=by have:=(aav.mp i).1;omega
  let#[_,r2,t2,l2,J,e,h1,h2,h3]:=aR j _ (ϳ hj);rw[i]at J;cases J;show#[_,ϳ hj,t2,l2,e,((Y<|>s8)<|>s9)<*h1,Z.free h2,((s6<|>Y)<|>s8<|>s9)<*h3]
 w_up;show Λ ?_;lk;cases F with
 |true=>
  lk;f_len;show fV ?_>>=#[c,o,ln,v,B.heads,os,ls,ct,n,rfl,hC.same ((s2<|>s3)<|>s4),hO.same Z,ah,R.same Z,K5,Mp.ok,a.n1,a.n2,λt4 D us x y H5 s5 I Ik hq g hx M=>?_]*>aj (ξ.of Ik) (Ι (ω nd (Ι (ω nd (Ι (ω nd (Ι (ω nd (ao ?_)))))))))*>rest D us x y H5 s5 I hq g hx M
 |false=>
  lk;f_len;show fV ?_>>=#[c,o,ln,v,B.heads,os,ls,ct,n,rfl,hC.same ((s2<|>s3)<|>s4),hO.same Z,ah,R.same Z,K5,Mp.ok,a.n1,a.n2,λt4 D us x y H5 s5 I Ik hq g hx M=>?_]*>aj (ξ.of Ik) (Ι (ω nd (Ι (ω nd (Ι (ω nd (Ι (ω nd (ao ?_)))))))))*>rest D us x y H5 s5 I hq g hx M
inductive aaR(mg:MG):Sp
 |mk (A:BA) (B:Bk) (zo z:Str) (v:V) (os:List Ord) (c:Ct) (mo:Nat):vs=[.ref A.b,.str mJ,.str zo,.str z,v]->Ρ (cB mg) H A B->B.now=(mo:Nat)->↥zo<=4000->iY B.heads zo=↑os->eQ H v c->(∀p H',ζ H H'->jm H' p false mo os z c->Q (.ref p) H')
def Ib:Def 4 "begin_of" ["book","make","order","sieve","cut"] (aaR mg):=by
 show Γ (N:=["book","make","order","sieve","cut"]) T.Ib (λf O A' outer s H vs Q E l h=>?_);intro X _;let#[A,B,x,z,v,os,ct,mo,rfl,a,g,y,m,i,q]:=h;let hsz:=ϯ;let R:=!zH;let M2:aK P w K mg base true 1 (cB mg) "moment" ["self"] (uq mg Bk.now):=(Mv T).meth T.aF T.Zr;let D:aK P w K mg base true 1 (cB mg) "columns" ["self"] (mO mg):=(Eh T).meth T.aF T.K4;symm;lk;show rF (pl:=_) l Ϝ ?_;f_are;show#[A.b,cB mg,A.dx,_,true,1,_,uq mg Bk.now,rfl,a.ins,by rfl,M2,by decide,id,A,B,rfl,a,?_]>>=rF (pl:=_) l Ϝ ?_;f_are;show#[A.b,cB mg,A.dx,_,true,1,_,mO mg,rfl,a.ins,by rfl,D,by decide,id,A,B,rfl,a,λc H1 n F G=>?_]>>=#[c,B.heads,x,rfl,G,y,(λH' _ e=>by rw[m]at e;cases e),λb I H2 u e J L=>?_];rw[m]at e;cases e;lk;show#[Ε,λp M=>?_];let j:=ζ.upd (o:=.tup [.str mJ,.int B.now,.ref b,.str z,v]) M;show q p _ ((n<|>u)<|>j) #[b,v,by rw[ς,g];rfl,L.same j,i.same ((n<|>u)<|>j)]
def ai6(a:Bool):Ct:=if a=true then .start else .fin
inductive JN(K:Ϩ)(mg:MG)(t:Tr)(on:Bool):Sp
 |mk (A:BA) (B:Bk) (os:List Ord) (zo:Str) (mo n:Nat):vs=[.ref A.b,.str mJ,.str zo,.str (sT B.heads t),.int (n:Nat)]->jK K mg H A B os t mo n->B.now=(mo:Nat)->↥zo<=4000->iY B.heads zo=↑os->pF B os t mo n on (ai6 on) H Q
def DN(i:fO K mg base "sorted_by")(t:Tr):Def (11+2*t.dep) "first_leaf" ["book","make","order","sieve","size"] (JN K mg t true):=by
 rw[show 11+2*t.dep=(10+2*t.dep)+1 by omega];show Γ (N:=["book","make","order","sieve","size"]) T.DN (λf x A' outer s H vs Q E y h=>?_);intro X _;let#[A,B,os,j,mo,n,rfl,c,e,l,m,q]:=h;let hsz:=ϯ;let z:=T.aan;let D:=!Ib;let F:Def P w K mg base true (10+2*t.dep) "leaf_from" ["book","mark","size","onward"] (uP K mg t true):=uI T i t true;symm;lk;show #[Ε,λp u=>?_];let#[a,e1]:=Ο u (.tup [.str ("start":Str)]);change EA _ _ _ (upd H p (.tup [.str ("start":Str)])) _;generalize upd H p (.tup [.str ("start":Str)])=H1 at a e1⊢;lk;show#[A,B,j,_,_,os,.start,mo,rfl,(c.same a).bk.bk,e,l,m,#[p,rfl,e1],λmk H2 g v=>?_]>>=#[A,B,mk,os,mo,n,.start,rfl,c.same (a<|>g),v,.inl #[rfl,rfl],(λh=>absurd h (by have:=c.bk.mm.2.1;omega)),q.same (a<|>g)]
inductive V4(mg:MG):Sp
 |mk (A:BA) (B:Bk) (M:Mk):vs=[.ref A.b,.str (du M)]->Ρ (cB mg) H A B->Ψ B.heads=true->bR B.heads M->(M.moment:Int)<=B.now->(∀p H',ζ H H'->jm H' p M.living M.moment M.os M.sieve (.at_ M.cut.ahead M.cut.xs M.cut.row)->Q (.ref p) H')
def xQ:Def 53 "read_good_mark" ["book","text"] (V4 mg):=by
 show Γ (S:=Ql) T.xQ (λf U A' outer s H vs Q E j h=>?_);intro X _;let#[A,B,M,rfl,a,hok,n,u,q]:=h;let nd:=Ql.nd;let W:=!Ed;let M2:aK P w K mg base true 1 (cB mg) "moment" ["self"] (uq mg Bk.now):=(Mv T).meth T.aF T.Zr;let x:aK P w K mg base true 1 (cB mg) "columns" ["self"] (mO mg):=(Eh T).meth T.aF T.K4;w_up;generalize y:du M=z;f_tup;lk;show rF (pl:=_) j Ϝ ?_;f_are;show#[A.b,cB mg,A.dx,_,true,1,_,mO mg,rfl,a.ins,by rfl,x,by decide,id,A,B,rfl,a,λc H1 D F G=>?_]>>=#[c,M,B.heads,by rw[y],G,hok,n,λp o l k v H2 I m Y J e L O R _=>?_];let g:=D<|>I;w_up;show Λ ?_>>=Β (ξ.of m) (i:=1) rfl ?_>>=rF (pl:=_) j Ϝ ?_;f_are;show#[A.b,cB mg,A.dx,_,true,1,_,uq mg Bk.now,rfl,(a.same g).ins,by rfl,M2,by decide,id,A,B,rfl,a.same g,?_]>>=Α (λh=>?_) (λ_=>?_)
 .show absurd h ()
 show Δ ?_;symm;lk;show q p H2 g #[o,.ref l,m,J,l,k,rfl,e,v,L,R]
inductive vL(K:Ϩ)(mg:MG)(t:Tr)(on:Bool):Sp
 |mk (A:BA) (B:Bk) (os:List Ord) (mo n:Nat) (sd:Bool) (xs:List V) (k:Int):vs=[.ref A.b,ak false mo os (sT B.heads t) ↑(.at_ sd xs k),.int (n:Nat)]->jK K mg H A B os t mo n->bZ B.heads os xs->0<=k->k<=1000000000->t.dep<=20->oX mg B mo H E->pF B os t mo n on (.at_ sd xs k) H Q
def Kc(i:fO K mg base "sorted_by")(t:Tr)(j:t.dep<=20):Def 54 "turn_forth" ["book","mark","size"] (vL K mg t true):=by
 show Γ (N:=["book","mark","size"]) T.Kc (λf x A' outer s H vs Q E y h=>?_);intro X _;let#[A,B,os,mo,n,sd,xs,k,rfl,a,g,k0,k1,_,l,q]:=h;let D:=!xQ;let F:Def P w K mg base true (10+2*t.dep) "leaf_from" ["book","mark","size","onward"] (uP K mg t true):=uI T i t true;let m:(((k.toNat:Nat):Int))=k:=aqm k0;let p:=a.li.good (lv:=false) (sd:=sd) g k1;symm;generalize u:ak false mo os (sT B.heads t) ↑(.at_ sd xs k)=z;lk;show#[A,B,#[false,mo,os,sT B.heads t,#[sd,k.toNat,xs]],by first|rfl|(rw[<-u];rfl),a.bk.bk,a.li.ok,p,a.bk.le,λmk H1 e v=>?_]>>=#[A,B,mk,os,mo,n,.at_ sd xs k,rfl,a.same e,?_,.inr (.inr #[sd,xs,k,rfl,g,k0,k1]),l.same e,q.same e];let c:jm H1 mk false mo os (sT B.heads t) (.at_ sd xs ((k.toNat:Nat):Int)):=v;rw[m]at c;show c
def Ej(i:fO K mg base "sorted_by")(t:Tr)(j:t.dep<=20):Def 54 "turn_back" ["book","mark","size"] (vL K mg t false):=by
 show Γ (N:=["book","mark","size"]) T.Ej (λf x A' outer s H vs Q E y h=>?_);intro X _;let#[A,B,os,mo,n,sd,xs,k,rfl,a,g,k0,k1,_,l,q]:=h;let D:=!xQ;let F:Def P w K mg base true (10+2*t.dep) "leaf_from" ["book","mark","size","onward"] (uP K mg t false):=uI T i t false;let m:(((k.toNat:Nat):Int))=k:=aqm k0;let p:=a.li.good (lv:=false) (sd:=sd) g k1;symm;generalize u:ak false mo os (sT B.heads t) ↑(.at_ sd xs k)=z;lk;show#[A,B,#[false,mo,os,sT B.heads t,#[sd,k.toNat,xs]],by first|rfl|(rw[<-u];rfl),a.bk.bk,a.li.ok,p,a.bk.le,λmk H1 e v=>?_]>>=#[A,B,mk,os,mo,n,.at_ sd xs k,rfl,a.same e,?_,.inr (.inr #[sd,xs,k,rfl,g,k0,k1]),l.same e,q.same e];let c:jm H1 mk false mo os (sT B.heads t) (.at_ sd xs ((k.toNat:Nat):Int)):=v;rw[m]at c;show c
def ain{n:Nat}(h:n<9973):ϐ (Ϫ "000"++Ϫ (toString (n:Int))) ↑(-4) none=c7 n:=by
 apply gM;let hd:=j7 (m:=n) (k:=4) (by decide) ();rw[Ra (),yR];let a:↥("000":Str)=3:=by fin2
 let c:("000":Str).cps.toList=[48,48,48]:=by fin2
 let f:1<=↥(Ϫ (toString (n:Int))):=by
  rw[_L.len_list,nJ];show asj.mpr (by simp[asi])
 generalize Ϫ (toString (n:Int))=x at hd f⊢;let g:=_L.len_list x;rw[bJ,c,len_app,a];let es:_H.Ζ (3+↥x) 0 ↑(-4)=↥x-1:=by
  have:=wO (3+↥x) 0 (-4);rw[if_pos (by decide)]at this;omega
 rw[es,_H.sS,agJ (by rw[adu,abp];show 3+_-_<=_;omega)];rcases(show ↥x=1\/↥x=2\/↥x=3\/↥x=4 by omega)with e|e|e|e<;>rw[e]
 .rfl
 .rfl
 .rfl
 .rfl
inductive Yy:Sp
 |mk (c b:δ) (lv sd:Bool) (mo:Nat) (v u:V) (cs:List ι) (os:List Ord) (t:Tr) (r:Row):vs=[.ref c,.str (bB lv),.int (mo:Nat),.ref b,v,.str (aW sd),u]->Χ H c cs->aL H b os->jq cs os t mo->cu H v t->jD t->aO H u r->ϛ cs r->0<=r.1->r.1<=1000000000->(∀H',ζ H H'->Q (ak lv mo os (sT cs t) ↑(.at_ sd (Ν cs os r.2) r.1)) H')
def Bh:Def 4 "_law_mark" ["_law_columns_here","_law_make","_law_begin","_law_order_here","_law_sieve_here","_law_sign","_law_one"] Yy:=by
 exists V9,Bh,hr,#[c,b,lv,sd,mo,v,u,cs,os,t,r,rfl,hC,hO,f,hv,J,hu,B,r0,r1,q],2,n1.mH,n2.Rg,1;let ls:↥("/":Str)=1:=by fin2
 let lb:↥(" ":Str)=1:=by fin2
 let lp:↥(".":Str)=1:=by fin2
 let l3:↥("000":Str)=3:=by fin2
 let p8:(["_law_value_here"]:List Str).Nodup:=by fin2
 let D1:=!v5;let D2:=!Bv;let D3:=!ye;let D4:=!xr;let#[c1,c6]:=lG f.ok;let rC:=f.o4;let g:=cV B f.inc;let s:=f.good (lv:=lv) (sd:=sd) g r1;let hks:=g.len;let er:((r.1.toNat:Nat):Int)=r.1:=aqm r0;let#[b1,b2]:=wC f.ok s;let bc:=CG f.ok s;let kl:=Bo f.ok s;obtain⟨k1,k2⟩:(∀p∈bL (#[sd,r.1.toNat,Ν cs os r.2]:Cut),↥p<=21)/\↥(bL (#[sd,r.1.toNat,Ν cs os r.2]:Cut))<=5:=kl;let k3:=lR _ 21 k1;let k4:=kO (bL (#[sd,r.1.toNat,Ν cs os r.2]:Cut));let M:=Jz f.ok s;let hcl:↥(cR (#[sd,r.1.toNat,Ν cs os r.2]:Cut))<=200:=M;k_go;show#[c,b,u,cs,os,r,rfl,hC,hO,hu,(ρ.len B).symm,(),(),f.inc,λp k H1 s1 _ _ hp hk=>?_];k_go;show Β (ξ.of hp) (i:=1) rfl ?_>>=lM (iU ?_) ?_
 .have :(10:Nat)^60>1000000000:=by decide
  omega
 lk;show#[Ε,λw1 O=>?_];let#[F,D]:=Ο O (.lst [.str (Ϫ (toString r.1))]);change EV _ _ _ (upd H1 w1 (.lst [.str (Ϫ (toString r.1))])) _;generalize upd H1 w1 (.lst [.str (Ϫ (toString r.1))])=H2 at F D⊢;show jd ["_law_value_here"] (σ':=[none]) (bA (υ KN)) ?_>>=Β (ξ.of (F<*hp)) (i:=0) rfl ?_*>#[k,Ν cs os r.2,rfl,η.of (F<*hk),(),λτ=>∃o1,τ=[o1],λE2 i x H'=>∃y,(Ν cs os r.2)[i]?=↑y/\x=.str (wordOf y),#[none,rfl],λE2 i x H2 R ys _ _ p=>p,λfp E2 C U H0 i τ x H4 R aQ hi W Τ hys s=>?_,λL R ys jR Y G e3 U=>?_]
 .let#[o1,rfl]:=W;let#[G,rfl]:=s;show ω p8 ?_;lk;let#[o,_,Z]:=ρ.get' g G;show#[x,_,rfl,Z,?_]*>#[#[_,rfl],#[x,G,rfl],ζ.refl _]
 let ey:=fJ (ys:=Ν cs os r.2) (λy=>V.str (wordOf y)) Y G;subst ey;show zr (U<*D) e3 (by rw[aaw];show 1+_<=_;omega) λw2 aa=>?_
 let ek:[V.str (Ϫ (toString r.1))]++(Ν cs os r.2).map (λy=>V.str (wordOf y))=(bL (#[sd,r.1.toNat,Ν cs os r.2]:Cut)).map V.str:=by
  show _=V.str (Ϫ (toString ((r.1.toNat:Nat):Int)))::((Ν cs os r.2).map wordOf).map V.str;rw[er,afm];rfl
 rw[ek];let#[s4,e4,R,w2,H4]:=Ο aa (.lst ((bL (#[sd,r.1.toNat,Ν cs os r.2]:Cut)).map V.str));let I:=(s1<|>F)<|>U<|>s4;k_go;let el:∃n,Θ (bB lv).cps.toList 0=↑n/\ig lv=#[#v[n]]/\↥(bB lv)<=6:=by
  cases lv
  .show#[115,by fin2,by fin2,by fin2]
  .show#[108,by fin2,by fin2,by fin2]
 let#[n,en,Ld,el3]:=el;show j8 () en ?_>>=lM (iU ?_) ?_
 .have :=f.mo;have:(10:Nat)^60>5000:=by decide
  omega
 lk;show#[b,os,rfl,hO.same I,(),λx hx=>by
  let#[cc,ab,e]:=f.inc x hx;have:=nZ (lE f.ok (z:=x.1) (abt.mpr #[cc,ab,e]));omega,λH5 s5=>?_]
 lk;show#[v,c,cs,t,rfl,hC.same (I<|>s5),f.ok,hv.same (I<|>s5),J,f.gt,λH6 s6=>?_]>>=#[Ε,λhd kZ=>?_];rw[<-Ld];let#[s7,e7]:=Ο kZ (.lst [.str (ig lv),.str (Ϫ (toString (mo:Int))),.str (bN os),.str (sT cs t)]);change Η _ _ _ _ (upd H6 hd (.lst [.str (ig lv),.str (Ϫ (toString (mo:Int))),.str (bN os),.str (sT cs t)]));generalize upd H6 hd (.lst [.str (ig lv),.str (Ϫ (toString (mo:Int))),.str (bN os),.str (sT cs t)])=H7 at s7 e7⊢;let M6:=(s5<|>s6)<|>s7;k_go;show jW (ys:=bL (#[sd,r.1.toNat,Ν cs os r.2]:Cut)) (η.of (M6<*e4)) (by rw[lb];omega) ?_;let hsg:↥(aW sd)=1:=by cases sd<;>fin2
 show dD () ?_>>=#[Ε,λl1 ac=>?_];let#[s8,e8]:=Ο ac (.lst [.str (cR #[sd,r.1.toNat,Ν cs os r.2])]);change OP _ _ _ _ (upd H7 l1 (.lst [.str (cR #[sd,r.1.toNat,Ν cs os r.2])])) _;generalize upd H7 l1 (.lst [.str (cR #[sd,r.1.toNat,Ν cs os r.2])])=H8 at s8 e8⊢;show zr (s8<*e7) e8 (by show 4+1<=ϰ;omega) λl2 ϻ=>?_
 let#[s9,e9]:=Ο ϻ (.lst ((cz #[lv,mo,os,sT cs t,#[sd,r.1.toNat,Ν cs os r.2]]).map V.str));change EA _ _ _ (upd H8 l2 (.lst ((cz #[lv,mo,os,sT cs t,#[sd,r.1.toNat,Ν cs os r.2]]).map V.str))) _;generalize upd H8 l2 (.lst ((cz #[lv,mo,os,sT cs t,#[sd,r.1.toNat,Ν cs os r.2]]).map V.str))=H9 at s9 e9⊢;let ae:=(I<|>M6)<|>s8<|>s9;let a:=q H9 ae;let ep:ak lv mo os (sT cs t) ↑(.at_ sd (Ν cs os r.2) r.1)=.str (du #[lv,mo,os,sT cs t,#[sd,r.1.toNat,Ν cs os r.2]]):=rfl;rw[ep]at a;lk;show jW (ys:=cz #[lv,mo,os,sT cs t,#[sd,r.1.toNat,Ν cs os r.2]]) (η.of e9) (by rw[ls];show _+5*1<=_;omega) ?_;let em:du #[lv,mo,os,sT cs t,#[sd,r.1.toNat,Ν cs os r.2]]=ϡ #[lv,mo,os,sT cs t,#[sd,r.1.toNat,Ν cs os r.2]]++Ϫ "."++c7 (aY (ϡ #[lv,mo,os,sT cs t,#[sd,r.1.toNat,Ν cs os r.2]]).cps.toList):=rfl;rw[em]at a;change Η _ _ _ _ _;let eb:ad2 ("/":Str) (cz #[lv,mo,os,sT cs t,#[sd,r.1.toNat,Ν cs os r.2]])=ϡ #[lv,mo,os,sT cs t,#[sd,r.1.toNat,Ν cs os r.2]]:=rfl;generalize ϡ #[lv,mo,os,sT cs t,#[sd,r.1.toNat,Ν cs os r.2]]=z at b2 bc a eb;rw[eb];k_go;k_go;w_up;show XH (by walk_at"po") (by rfl) (by intro _;rfl) ?_;f_are;let cn:=qy z.cps.toList;show#[z,rfl,λi σ H'=>H'=H9/\∃j l o,σ=[↑(.ref c),↑(.str (bB lv)),↑(.int (mo:Nat)),↑(.ref b),↑v,↑(.str (aW sd)),↑u,↑(.ref p),↑(.ref w2),↑(.ref hd),↑(.str z),↑(.int j),↑(.int l),o]/\0<=j/\j<9973/\0<=l/\l<9973/\(j+l*aY (z.cps.toList.drop i)) % 9973=aY z.cps.toList,#[rfl,0,1,none,rfl,by decide,by decide,by decide,by decide,?_],λi cc σ H' hi hP=>?_,λσ H' hP=>?_]
 .rw[alI,asn,auq];show ape cn.1 cn.2
 .let#[rfl,j,l,o,rfl,t0,t1,p0,p1,e]:=hP;let hcb:=bc cc (aa0 hi);let af:z.cps.toList.drop i=cc::z.cps.toList.drop (i+1):=by
   let#[h1,h2]:=aav.mp hi;rw[afy h1,h2]
  rw[af]at e;show ω nd ?_;w_up;cbv;show#[rfl,_,_,_,rfl,ah8 _ (by decide),agT _ (by decide),ah8 _ (by decide),agT _ (by decide),Z9 e]
 .let#[rfl,j,l,o,rfl,t0,t1,p0,p1,e]:=hP;rw[amX]at e;let D:j=aY z.cps.toList:=by
   rw[<-e];show j=(j+l*0) % 9973;rw[aun,auo,ape t0 t1]
  let#[m,hm]:=abz cn.1;rw[hm]at D a;rw[D];let hm4:=j7 (m:=m) (k:=4) (by decide) ();let h4:=Br ((m:Nat):Int);symm;lk;show dD () ?_>>=lM (iU ?_) ?_
  .have :(10:Nat)^60>10000:=by decide
   omega
  show dD () ?_>>=iQ (by rw[len_app];omega) ?_;rw[ain ()];show dD (by rw[len_app];omega) ?_*>a
abbrev lU(cs:List ι)(mo:Nat)(os:List Ord)(t:Tr)(ls:List Row)(ct:Ct)(i j:Nat):aU:=lA mo os (sT cs t) ↥ls (ϣ cs os ls ct i j)
structure mK(H:Hp)(c hd ln b:δ)(v:V)(mo:Nat)(cs:List ι)(os:List Ord)(t:Tr)(ls:List Row)(lw:List V):Prop where
 hd:H hd=↑(.tup [.str (bB false),.int (mo:Nat),.ref b,v])
 co:Χ H c cs
 or:aL H b os
 li:jq cs os t mo
 sv:cu H v t
 sh:jD t
 ln:H ln=↑(.lst lw)
 rw_:ρ (aO H) lw ls
 fit:∀r∈ls,ϛ cs r/\0<=r.1/\r.1<=1000000000
 len:↥ls<=60
section
variable{H H':Hp}{c hd ln b:δ}{v:V}{mo:Nat}{cs:List ι}{os:List Ord}{t:Tr}{ls:List Row}{lw:List V}
theorem mK.same(h:mK H c hd ln b v mo cs os t ls lw)(sm:ζ H H'):mK H' c hd ln b v mo cs os t ls lw:=#[sm<*h.hd,h.co.same sm,h.or.same sm,h.li,h.sv.same sm,h.sh,sm<*h.ln,h.rw_.imp λu r z=>z.same sm,h.fit,h.len]
def mK.row(h:mK H c hd ln b v mo cs os t ls lw)(hn:n<↥ls):∃u,lw[n]?=↑u/\aO H u ls[n]:=by
 let#[u,e,z]:=h.rw_.get' (ϳ hn);show#[u,e,z]
end
def aox{os:List Ord}{ls:List Row}{ct:Ct}{i j:Nat}(a:0<i)(c:i<j)(f:j<=↥ls):(ϣ cs os ls ct i j).back=↑(.at_ true (Ν cs os (ls[i]'()).2) (ls[i]'()).1):=by
 let e:(ϣ cs os ls ct i j).back=↑(gn cs os true ((ϊ ls i j).take 1) ct):=if_pos a;rw[e];unfold ϊ;rw[List.take_take,aiU (),afy ()];rfl
def aly{os:List Ord}{ls:List Row}{ct:Ct}{i j:Nat}(a:i<j)(c:j<↥ls):(ϣ cs os ls ct i j).ϟ=↑(.at_ false (Ν cs os (ls[j-1]'()).2) (ls[j-1]'()).1):=by
 let e:(ϣ cs os ls ct i j).ϟ=↑(gn cs os false ((ϊ ls i j).drop (↥(ϊ ls i j)-1)) ct):=if_pos c;rw[e,GX ls ()];unfold ϊ;rw[List.drop_take,asq,show j-i-(j-i-1)=1 by omega,show i+(j-i-1)=j-1 by omega,afy ()];rfl
def aok{os:List Ord}{ls:List Row}{ct:Ct}{i:Nat}(a:0<i):(ϣ cs os ls ct i i).back=↑ct:=by
 let e:(ϣ cs os ls ct i i).back=↑(gn cs os true ((ϊ ls i i).take 1) ct):=if_pos a;rw[e];unfold ϊ;rw[arE,at5];rfl
def aiV{os:List Ord}{ls:List Row}{ct:Ct}{i:Nat}(a:i<↥ls):(ϣ cs os ls ct i i).ϟ=↑ct:=by
 let e:(ϣ cs os ls ct i i).ϟ=↑(gn cs os false ((ϊ ls i i).drop (↥(ϊ ls i i)-1)) ct):=if_pos a;rw[e];unfold ϊ;rw[arE,at5];rfl
abbrev wW(c hd ln b:δ)(dv:V)(i j mo:Nat)(ov v:V)(o1 o2 o3 o4 o5 o6:Option V):_L.St:=[↑(.ref c),↑(.ref hd),↑(.ref ln),↑dv,↑(.int (i:Nat)),↑(.int (j:Nat)),↑ov,↑(.str (bB false)),↑(.int (mo:Nat)),↑(.ref b),↑v,o1,o2,o3,o4,o5,o6]
inductive U4:Sp
 |mk (c hd ln b:δ) (v ov dv:V) (mo:Nat) (cs:List ι) (os:List Ord) (t:Tr) (ls:List Row) (lw:List V) (ct:Ct) (i j:Nat):vs=[.ref c,.ref hd,.ref ln,dv,.int (i:Nat),.int (j:Nat),ov]->mK H c hd ln b v mo cs os t ls lw->i<=j->j<=↥ls->(0<i\/j<↥ls->i<j\/ov=ak false mo os (sT cs t) ↑ct)->(∀p q0 us H',ζ H H'->H q0=none->H' p=↑(.tup [.ref q0,(lU cs mo os t ls ct i j).back,(lU cs mo os t ls ct i j).ϟ,.int (↥ls:Nat),.int (i:Nat),.int (mo:Nat)])->H' q0=↑(.lst us)->ρ (mC H') us (lU cs mo os t ls ct i j).rows->Q (.ref p) H')
def xT:Def 5 "_law_leaf" ["_law_columns_here","_law_head","_law_line_here","_law_state","_law_first_here","_law_after","_law_own"] U4:=by
 show Γ (S:=S6) T.xT (λf Ϻ A outer s0 H vs Q E hr h=>?_);intro X _;let#[c,hd,ln,b,v,G,dv,mo,cs,os,t,ls,lw,ct,i,j,rfl,a,af,aa,Ϲ,q]:=h;let nd:=S6.nd;let n1:=T.bz;let hsz:=ϯ;let D1:=!Bh;let rP:=a.rw_.len;let hlen:=a.len;let sl:=GX ls (i:=i) aa;w_up;show fV ?_>>=aj (ξ.of a.hd) ?_
 iterate 4 show Ι (ω nd ?_)
 show ao (xF ?_);f_tup;lk;show#[Ε,λq0 I=>?_];let#[s1,e1,H,q0,H1]:=Ο I (.lst []);w_up;show Bw (by walk_at"po") (by rfl) (by intro _;rfl) ?_>>=pM (η.of (s1<*a.ln)) λp3 J=>?_
 rw[Ug lw i j af ()];let#[s2,e2]:=Ο J (.lst (ϊ lw i j));let ag:p3≠q0:=λz=>by rw[z,e1]at J;cases J
 generalize upd H1 p3 (.lst (ϊ lw i j))=H2 at s2 e2⊢;let CQ:ρ (aO H) (ϊ lw i j) (ϊ ls i j):=Qm a.rw_;let ah:=CQ.len;show#[p3,_,rfl,η.of e2,λk σ H'=>∃M O us,σ=wW c hd ln b dv i j mo G v ↑(.ref q0) M O none none none/\ζ H H'/\H' p3=↑(.lst (ϊ lw i j))/\H' q0=↑(.lst us)/\ρ (λu(r:Row)=>∃t l,u=V.ref t/\H' t=↑(.tup [.int r.1,.ref l,.bl true])/\H l=↑(.lst r.2)) us ((ϊ ls i j).take k),#[none,none,[],rfl,s1<|>s2,e2,s2<*e1,.nil],λk σ' H' _ hP=>?_,λk x σ' H' hx hP=>?_,λσ' H' hP=>?_]
 .let#[_,_,_,_,_,z,_]:=hP;show η.of z
 .let#[M,O,us,rfl,sm,xq,R,p]:=hP;let#[r,ab,tr,lr,rfl,ai,al]:=CQ.get hx;let km:=p.len;rw[adn]at km;let hkl:k<↥(ϊ ls i j):=(aav.mp ab).1;show aj (ξ.of (sm<*ai)) (Ι (ω nd (Ι (ω nd (ao ?_)))));f_len;show aD (b7 F.plainAttrs_list F.slot_list_append F.type_list_append (h:=?_));f_are;show#[.inl #[rfl,_,η.of R],?_]>>=bV ?_>>=#[Ε,λtt m=>?_]>>=dH jz #[q0,us,_,rfl,rfl,(ζ.upd m)<*R,(),?_];let am:tt≠q0:=λz=>by rw[z,R]at m;cases m
  show#[_,_,us++[.ref tt],rfl,λb' u e=>?_,?_,ς,?_]
  .rw[θ (λz=>by rw[z,I]at e;cases e),θ (λz=>by rw[z]at e;rw[sm<*e]at m;cases m)];show sm<*e
  .rw[θ ag,θ (λz=>by rw[z,m]at xq;cases xq)];show xq
  .rw[al1,ab];show(p.imp λu r' z=>?_).app (.cons #[tt,lr,rfl,by rw[θ am,ς],al] .nil);let#[t',l',e,U,g2]:=z;show#[t',l',e,by rw[θ (λz=>by rw[z,R]at U;cases U),θ (λz=>by rw[z,m]at U;cases U)];show U,g2]
 let#[M,O,us,rfl,sm,_,R,p]:=hP;rw[ah,ahs]at p;let km:=p.len;let ZK:∀{H2},ζ H' H2->η K H2 q0 us:=λs=>η.of (s<*R)
 obtain⟨L,D⟩:∃L,ϣ cs os ls ct i j=L:=#[_,rfl];let Uu:L.rows=ϊ ls i j:=by rw[<-D];rfl
 let fin:∀(H5:Hp),ζ H' H5->Η X ((ϓ ue).drop 7) {nx:=λ_ H'=>Q .non H',rt:=Q} (wW c hd ln b dv i j mo G v ↑(.ref q0) M O ↑(ak false mo os (sT cs t) L.back) ↑(ak false mo os (sT cs t) L.ϟ) none) H5:=by
  intro H5 W;let jx:=sm<|>W;let ac:η K H5 ln lw:=η.of (jx<*a.ln);k_go;show Α (λh=>absurd (V.str.inj h) (by fin2)) (λ_=>?_);lk;symm;lk;show #[Ε,λpf ar=>?_];rw[rP];let s6:=ζ.upd (o:=.tup [.ref q0,ak false mo os (sT cs t) L.back,ak false mo os (sT cs t) L.ϟ,.int (↥ls:Nat),.int (i:Nat),.int (mo:Nat)]) ar;show q pf q0 us _ (jx<|>s6) I ?_ ((W<|>s6)<*R) ?_
  .show _=↑(HO.tup [.ref q0,ak false mo os (sT cs t) (ϣ cs os ls ct i j).back,ak false mo os (sT cs t) (ϣ cs os ls ct i j).ϟ,.int (↥ls:Nat),.int (i:Nat),.int (mo:Nat)]);rw[D];show ς
  show ρ _ us ((ϣ cs os ls ct i j).rows.map λr=>(r.1,r.2,true));rw[D,Uu];show Ea (λr:Row=>((r.1,r.2,true):gG)) (p.imp λu r z=>?_);let#[t,l,e,U,g2]:=z;show#[t,l,e,(W<|>s6)<*U,(jx<|>s6)<*g2]
 let two:∀(y:V)(H4:Hp),y=(if j<↥ls then G else .non)->ζ H' H4->Η X ((ϓ ue).drop 6) {nx:=λ_ H'=>Q .non H',rt:=Q} (wW c hd ln b dv i j mo G v ↑(.ref q0) M O ↑(ak false mo os (sT cs t) L.back) ↑y none) H4:=by
  intro y H4 g Z;let iy:=a.same (sm<|>Z);let sq4:=ZK Z;let ac:η K H4 ln lw:=η.of iy.ln;w_up;show Λ (qW ?_)>>=Α (λh=>?_) (λh=>?_)
  .let Y:j<↥ls:=()
   lk;show Α (λh0=>?_) (λh0=>?_)
   .let LQ:i<j:=()
    let au:j-1<↥ls:=()
    let#[u,hu,qt]:=a.row au;f_len;f_tup;lk;show ύ ac (show Θ lw ((j:Int)-1)=↑u by rw[show(j:Int)-1=((j-1:Nat):Int)by omega];show ϔ hu) ?_;lk;let#[f1,f2,f3]:=a.fit ls[j-1] (afz _);show#[c,b,false,false,mo,v,u,cs,os,t,ls[j-1],rfl,iy.co,iy.or,a.li,iy.sv,a.sh,qt.same (sm<|>Z),f1,f2,f3,λH5 W=>?_];have:=fin H5 (Z<|>W);let B:=aly (cs:=cs) (os:=os) (ct:=ct) LQ Y;rw[D]at B;rw[B]at this;show this
   .let e:i=j:=()
    subst e;rw[if_pos Y]at g;rcases Ϲ (.inr Y)with z|z
    .omega
    have:=fin H4 Z;let B:=aiV (cs:=cs) (os:=os) (ct:=ct) Y;rw[D]at B;rw[B, <-z]at this;subst g;show Δ this
  .let Y:¬j<↥ls:=()
   rw[if_neg Y]at g;lk;have:=fin H4 Z;rw[show ak false mo os (sT cs t) L.ϟ=y by rw[g, <-D,show(ϣ cs os ls ct i j).ϟ=none from if_neg Y];rfl]at this;show Δ this
 let Qd:η K H' ln lw:=η.of (sm<*a.ln);k_go;let ae:∀(bk:V),bk=(if 0<i then G else .non)->Η X ((ϓ ue).drop 4) {nx:=λ_ H'=>Q .non H',rt:=Q} (wW c hd ln b dv i j mo G v ↑(.ref q0) M O ↑bk none none) H':=by
  intro bk xM;let YT:∀(y:V),y=(if j<↥ls then G else .non)->Η X ((ϓ ue).drop 5) {nx:=λ_ H'=>Q .non H',rt:=Q} (wW c hd ln b dv i j mo G v ↑(.ref q0) M O ↑bk ↑y none) H':=by
   intro y g;let sW:=a.same sm;let sq3:=ZK (ζ.refl _);w_up;show Λ (qW ?_)>>=Α (λh=>?_) (λh=>?_)
   .let n:0<i:=()
    lk;show Α (λh0=>?_) (λh0=>?_)
    .let LQ:i<j:=()
     let av:i<↥ls:=()
     let#[u,hu,qt]:=a.row av;f_len;f_tup;lk;show ύ Qd (ϔ hu) ?_;lk;let#[f1,f2,f3]:=a.fit ls[i] (afz _);show#[c,b,false,true,mo,v,u,cs,os,t,ls[i],rfl,sW.co,sW.or,a.li,sW.sv,a.sh,qt.same sm,f1,f2,f3,λH5 W=>?_];have:=two y H5 g W;let B:=aox (cs:=cs) (os:=os) (ct:=ct) n LQ aa;rw[D]at B;rw[B]at this;show this
    .let e:i=j:=()
     subst e;rw[if_pos n]at xM;rcases Ϲ (.inl n)with z|z
     .omega
     have:=two y H' g (ζ.refl _);let B:=aok (cs:=cs) (os:=os) (ls:=ls) (ct:=ct) n;rw[D]at B;rw[B, <-z]at this;subst xM;show Δ this
   .let n:¬0<i:=()
    rw[if_neg n]at xM;lk;have:=two y H' g (ζ.refl _);rw[show ak false mo os (sT cs t) L.back=bk by rw[xM, <-D,show(ϣ cs os ls ct i j).back=none from if_neg n];rfl]at this;show Δ this
  k_go;show Α (λh=>?_) (λh=>?_)
  .lk;show YT _ (if_pos ()).symm
  .lk;show YT _ (if_neg ()).symm
 show Α (λh=>?_) (λh=>?_)
 .lk;show ae _ (if_pos ()).symm
 .lk;show ae _ (if_neg ()).symm
end
end _K
namespace _K
open PySem _L PyProof.Rows _M _V _W
section
variable{P:Ϯ}{w:ϭ}{K:Ϩ}{mg:MG}{base:ϫ}
def tE(xs:List V)(n:Int):aoL:=.tuple [.list (xs.map dV),.int n]
def bZ.lay{os:List Ord}{xs:List V}(h:bZ cs os xs):∀x∈xs,scalar x=true/\ie x=true/\∀z,x=.str z->bD 4000 z:=by
 let h':ρ (λ(o:Ord) x=>ϖ (mV cs o.1) x) os xs:=h;clear h;induction h' with
 |nil=>intro x hx;cases hx
 |cons r t a=>
  intro x hx;obtain e|hx:=aaB.mp hx
  .subst e;show#[r.sc,r.ie]
  .show a x hx
def Uo(h:ju H p xs n)(hs:∀x∈xs,scalar x=true/\ie x=true/\∀z,x=.str z->bD 4000 z):RD K H (.ref p) (tE xs n):=by
 let#[l,h1,h2]:=h;show .tup (ξ.of h1) (.cons (.lst (η.of h2) (Dd (acL.mpr λx a=>(hs x a).2.1))) (.cons (.int _) .nil))
def Nx(h:∀x∈xs,scalar x=true/\ie x=true/\∀z,x=.str z->bD 4000 z):(tE xs n).canLay0=true:=by
 show((PyData.list (xs.map dV)).canLay0&&(true&&true))=true;rw[yW λx a=>(h x a).2];rfl
def alV(xs:List V)(n:Int):(tE xs n).depth<=4:=by
 have:=zQ xs;simp only[tE,PyData.depth,PyData.depthAll];omega
def am2(c:scalar x=true)(a:scalar y=true):PyData.eqv (dV x) (dV y)=decide (x=y):=by
 cases x with
 |non=>
  cases y with
  |non=>rfl
  |int j=>rfl
  |str z=>rfl
  |_=>show absurd a aaD
 |int i=>
  cases y with
  |non=>rfl
  |int j=>
   show(i==j)=decide (V.int i=V.int j);rw[ags,decide_eq_true_eq,beq_iff_eq];show#[λz=>by rw[z],λz=>by injection z]
  |str z=>rfl
  |_=>show absurd a aaD
 |str z=>
  cases y with
  |non=>rfl
  |int j=>rfl
  |str y=>
   show(z==y)=decide (V.str z=V.str y);rw[ags,decide_eq_true_eq,beq_iff_eq];show#[λz=>by rw[z],λz=>by injection z]
  |_=>show absurd a aaD
 |_=>show absurd c aaD
theorem M8:∀{xs ys:List V},(∀x∈xs,scalar x=true)->(∀y∈ys,scalar y=true)->PyData.eqvAll (xs.map dV) (ys.map dV)=decide (xs=ys)
 |[],[],_,_=>rfl
 |x::xs,y::ys,c,e=>by
  show(PyData.eqv (dV x) (dV y)&&PyData.eqvAll (xs.map dV) (ys.map dV))=_;rw[am2 (c x (by simp)) (e y (by simp)),M8 (xs:=xs) (ys:=ys) (λz a=>c z (by simp[a])) λz a=>e z (by simp[a])];rw[ags,aaO,decide_eq_true_eq,decide_eq_true_eq,decide_eq_true_eq,List.cons.injEq]
 |[],_::_,_,_=>rfl
 |_::_,[],_,_=>rfl
def ang(a:∀x∈xs,scalar x=true)(c:∀y∈ys,scalar y=true):PyData.eqv (tE xs n) (tE ys k)=decide (xs=ys/\n=k):=by
 show(PyData.eqvAll (xs.map dV) (ys.map dV)&&((n==k)&&true))=_;rw[M8 a c,auh,ags,aaO,decide_eq_true_eq,decide_eq_true_eq,beq_iff_eq]
def GZ:List Ϧ->List Ϧ
 |(.For _ _ b _ _)::_=>b
 |_=>[]
inductive Up(K:Ϩ):Sp
 |mk (a b p:δ) (u:V) (cs:List ι) (os:List Ord) (rs:List Row) (ws:List V) (sd:Bool) (r0:Row):vs=[.ref a,.ref b,.ref p,.str (aW sd),u]->Χ H a cs->aL H b os->H p=↑(.lst ws)->ρ (aO H) ws rs->aO H u r0->ϛ cs r0->mU cs os rs->(∀H',ζ H H'->Q (.int (cF cs os (.at_ sd (Ν cs os r0.2) r0.1) rs:Nat)) H')
def Dr:Def 2 "_law_place" ["_law_columns_here","_law_order_here","_law_line_here","_law_sign","_law_one"] (Up K):=by
 exists Q8,Dr,R,#[a,b,p,u,cs,os,rs,ws,sd,r0,rfl,hC,hO,hp,I,aa,uN,m,q],2;let hu:=R.units;let hsz:=ϯ;let D1:=!v5;let D2:=!BK;let ab:=I.len;let#[c1,c6]:=m.cols;let o4:=m.Dg;let few:=m.few;let i:=cV uN m.inc;let U:=bZ.lay i;k_go;show#[a,b,u,cs,os,r0,rfl,hC,hO,aa,(ρ.len uN).symm,(),(),m.inc,λk0 l0 H0 W _ _ v z=>?_];generalize Ν cs os r0.2=xs at i U z q;generalize r0.1=n at v q;k_go;w_up;show Bw (by walk_at"po") (by rfl) (by intro _;rfl) ?_>>=#[p,ws,rfl,η.of (W<*hp),λj σ H'=>(∃f g,σ=[↑(.ref a),↑(.ref b),↑(.ref p),↑(.str (aW sd)),↑u,↑(.ref k0),↑(.int ((rs.take j).countP (bH cs os (.at_ sd xs n)):Nat)),f,g])/\ζ H0 H',#[#[_,_,rfl],ζ.refl _],λj σ' H' _ J=>η.of ((W<|>J.2)<*hp),λj x σ' H1 hx J=>?_,λσ' H1 J=>?_]
 .let#[#[f,g,rfl],Y]:=J;let#[r,R,L]:=I.get hx;let jM:=m.fit r (aa0 R);let kr:=cV jM m.inc;let Ei:=kr.lay;let Z:=W<|>Y;show ω nd ?_;k_go;show#[a,b,x,cs,os,r,rfl,hC.same Z,hO.same Z,L.same Z,(ρ.len jM).symm,(),(),m.inc,λkp kl H2 s2 _ _ M O=>?_];let B:=Y<|>s2;let cY:=Z<|>s2;let l:(rs.take (j+1)).countP (bH cs os (.at_ sd xs n))=(rs.take j).countP (bH cs os (.at_ sd xs n))+(if bH cs os (.at_ sd xs n) r=true then 1 else 0):=by
   rw[al1,R,atk]
   congr 1
   show aup _ [r]=_;rw[atM,atZ,alw]
  let c:bH cs os (.at_ sd xs n) r=(Ϟ os (Ν cs os r.2) xs r.1 n||(!sd&&decide (Ν cs os r.2=xs/\r.1=n))):=agx kr i;let⟨x1,x2,x3⟩:=kr.aJ i;let yes:∀(D:Ends)(H3:Hp),ζ H2 H3->bH cs os (.at_ sd xs n) r=true->(∀f g,D.nx [↑(.ref a),↑(.ref b),↑(.ref p),↑(.str (aW sd)),↑u,↑(.ref k0),↑(.int ((rs.take (j+1)).countP (bH cs os (.at_ sd xs n)):Nat)),f,g] H3)->Η X (Rt ((GZ ((ϓ Ge).drop 2)).drop 1)) D [↑(.ref a),↑(.ref b),↑(.ref p),↑(.str (aW sd)),↑u,↑(.ref k0),↑(.int ((rs.take j).countP (bH cs os (.at_ sd xs n)):Nat)),↑x,↑(.ref kp)] H3:=λD H3 F hl hD=>by
   f_len;f_tup;lk;rw[hl,if_pos rfl]at l;have:=hD ↑x ↑(.ref kp);rw[l]at this;show this
  let no:∀(D:Ends)(H3:Hp),bH cs os (.at_ sd xs n) r=false->(∀f g,D.nx [↑(.ref a),↑(.ref b),↑(.ref p),↑(.str (aW sd)),↑u,↑(.ref k0),↑(.int ((rs.take (j+1)).countP (bH cs os (.at_ sd xs n)):Nat)),f,g] H3)->D.nx [↑(.ref a),↑(.ref b),↑(.ref p),↑(.str (aW sd)),↑u,↑(.ref k0),↑(.int ((rs.take j).countP (bH cs os (.at_ sd xs n)):Nat)),↑x,↑(.ref kp)] H3:=λD H3 hl hD=>by
   rw[hl,if_neg aaD,atr]at l;have:=hD ↑x ↑(.ref kp);rw[l]at this;show this
  f_len;show Λ (qW ?_)>>=#[b,kp,k0,os,Ν cs os r.2,xs,r.1,n,rfl,hO.same cY,#[kl,M,O],#[l0,B<*v,B<*z],x1,x2,o4,x3,λH3 F=>?_];let G:=B<|>F;cases ha:Ϟ os (Ν cs os r.2) xs r.1 n with
  |true=>
   lk;show yes _ H3 F (by rw[c,ha];rfl) λf g=>#[#[_,_,rfl],G]
  |false=>
   lk;cases sd with
   |true=>
    show Α (λh=>absurd (V.str.inj h) (by fin2)) (λ_=>?_)*>Δ (no _ H3 (by rw[c,ha];rfl) λf g=>#[#[_,_,rfl],G])
   |false=>
    show bV ?_>>=K3 hu (Uo #[kl,F<*M,F<*O] Ei) (Uo #[l0,G<*v,G<*z] U) (Nx Ei) (Nx U) (ad7 (alV ..) (by decide)) ?_;rw[ang (λy hy=>(Ei y hy).1) (λy hy=>(U y hy).1)];by_cases e:Ν cs os r.2=xs/\r.1=n
    .rw[decide_eq_true e];lk;show yes _ H3 F (by rw[c,ha,decide_eq_true e];rfl) λf g=>#[#[_,_,rfl],G]
    .rw[decide_eq_false e];lk;show Δ (no _ H3 (by rw[c,ha,decide_eq_false e];rfl) λf g=>#[#[_,_,rfl],G])
 .let#[#[f,g,rfl],Y]:=J;symm;lk;rw[ab,ahs];show q H1 (W<|>Y)
structure fu(c hd fr b:δ)(v:V)(H:Hp)(cs:List ι)(mo:Nat)(os:List Ord)(t:Tr)(rs:List Row):Prop where
 hd:H hd=↑(.tup [.str (bB false),.int (mo:Nat),.ref b,v])
 co:Χ H c cs
 or:aL H b os
 sv:cu H v t
 sh:jD t
 li:jq cs os t mo
 ro:∃Ϸ,H fr=↑(.dK Ϸ)/\fQ H Ϸ rs
 nd:(rs.map Prod.fst).Nodup
 r60:↥rs<=60
 fit:∀r∈rs,ϛ cs r/\0<=r.1/\r.1<=1000000000
section
variable{c hd fr b ln:δ}{v:V}{H H':Hp}{cs:List ι}{mo:Nat}{os:List Ord}{t:Tr}{rs ls:List Row}{lw:List V}
def fu.same(h:fu c hd fr b v H cs mo os t rs)(sm:ζ H H'):fu c hd fr b v H' cs mo os t rs:=by
 let#[k1,e1,h1]:=h.ro;show#[sm<*h.hd,h.co.same sm,h.or.same sm,h.sv.same sm,h.sh,h.li,#[k1,sm<*e1,h1.same sm],h.nd,h.r60,h.fit]
theorem fu.mem(h:fu c hd fr b v H cs mo os t rs)(a:ls.Perm (rs.filter λr=>bw r.2 t)):↥ls<=60/\∀r∈ls,r∈rs:=#[ad7 (anR a.length_eq) (ad7 (ahD ..) h.r60),λr e=>(ajs.mp (a.mem_iff.mp e)).1]
theorem fu.ins(h:fu c hd fr b v H cs mo os t rs)(a:ls.Perm (rs.filter λr=>bw r.2 t))(e:H ln=↑(.lst lw))(f:ρ (aO H) lw ls):mK H c hd ln b v mo cs os t ls lw:=#[h.hd,h.co,h.or,h.li,h.sv,h.sh,e,f,λr g=>h.fit r ((h.mem a).2 r g),(h.mem a).1]
def fu.Gp(h:fu c hd fr b v H cs mo os t rs)(a:ls.Perm (rs.filter λr=>bw r.2 t))(e:Line cs os ls):mU cs os ls:=by
 let#[f,mem]:=h.mem a;show#[lG h.li.ok,h.li.o4,h.li.inc,λr g=>(h.fit r (mem r g)).1,e,()]
end
def gC(H:Hp)(cs:List ι)(v:V):=∃t sd u r,v=.ref t/\H t=↑(.tup [.str (aW sd),u])/\aO H u r/\ϛ cs r/\0<=r.1/\r.1<=1000000000
def gC.same(h:gC H cs v)(s:ζ H H'):gC H' cs v:=by
 let#[t,sd,u,r,e,h1,h2,a]:=h;show#[t,sd,u,r,e,s<*h1,h2.same s,a]
def lQ(a c:Hp)(cs:List ι)(v:V):=∃t sd u r,v=.ref t/\c t=↑(.tup [.str (aW sd),u])/\aO a u r/\ϛ cs r/\0<=r.1/\r.1<=1000000000
def lQ.at'(h:lQ c a cs v)(s:ζ c a):gC a cs v:=by
 let#[t,sd,u,r,e,h1,h2,f]:=h;show#[t,sd,u,r,e,h1,h2.same s,f]
def lQ.put(m:f pm=none)(s:ζ f c)(e:c pm=↑(.lst ms))(g:c a=none)(h:∀v∈ms,lQ f c cs v)(n:aO f u r)(p:ϛ cs r)(q:0<=r.1)(h1:r.1<=1000000000):ζ f (upd (upd c a (.tup [.str (aW sd),u])) pm (.lst (ms++[.ref a])))/\(upd (upd c a (.tup [.str (aW sd),u])) pm (.lst (ms++[.ref a]))) pm=↑(.lst (ms++[.ref a]))/\∀v∈ms++[.ref a],lQ f (upd (upd c a (.tup [.str (aW sd),u])) pm (.lst (ms++[.ref a]))) cs v:=by
 let l:a≠pm:=λz=>by rw[z,e]at g;cases g
 show#[λG x i=>?_,ς,λv y=>?_]
 .rw[θ (λz=>by rw[z,m]at i;cases i),θ (λz=>by rw[z]at i;rw[s<*i]at g;cases g)];show s<*i
 .obtain z|z:=adH.mp y
  .let#[t',B,D,E,e1,j,F]:=h v z;show#[t',B,D,E,e1,?_,F];rw[θ (λz=>by rw[z,e]at j;cases j),θ (λz=>by rw[z,g]at j;cases j)];show j
  .rw[ack.mp z];show#[a,sd,u,r,rfl,by rw[θ l,ς],n,p,q,h1]
def jl(H H':Hp)(p:δ)(L:aU):=∃q us,H' p=↑(.tup [.ref q,L.back,L.ϟ,.int L.many,.int L.ahead,.int L.moment])/\H q=none/\H' q=↑(.lst us)/\ρ (mC H') us L.rows
def jl.same(h:jl H H' p L)(s:ζ H' H2):jl H H2 p L:=by
 let#[q,us,e,h1,h2,a]:=h;show#[q,us,s<*e,h1,s<*h2,a.imp λu r z=>z.same s]
def jl.old(h:jl H H' p L)(s:ζ H0 H):jl H0 H' p L:=by
 let#[q,us,e,h1,h2,a]:=h;show#[q,us,e,s.free h1,h2,a]
def Vo{os:List Ord}{z:Str}{cs:List ι}{rs:List Row}{sd a:Bool}{xs:List V}{n:Int}:∃x,ak false mo os z ↑(gn cs os sd rs (.at_ a xs n))=.str x:=by
 cases rs with
 |nil=>show#[_,rfl]
 |cons r rs=>show#[_,rfl]
abbrev Kg(c hd r kt b:δ)(n mo:Nat)(on:Bool)(dv v:V)(o1 o2 o3 o4 o5 o6 o7:Option V):_L.St:=[↑(.ref c),↑(.ref hd),↑dv,↑(.ref r),↑(.ref kt),↑(.int (n:Nat)),↑(.bl on),↑(.str (bB false)),↑(.int (mo:Nat)),↑(.ref b),↑v,o1,o2,o3,o4,o5,o6,o7]
inductive WD:Sp
 |mk (c hd r b kt:δ) (dv v u:V) (cs:List ι) (mo n:Nat) (on sd:Bool) (os:List Ord) (t:Tr) (rs:List Row) (r0:Row):vs=[.ref c,.ref hd,dv,.ref r,.ref kt,.int (n:Nat),.bl on]->fu c hd r b v H cs mo os t rs->H kt=↑(.tup [.str (aW sd),u])->aO H u r0->ϛ cs r0->0<=r0.1->r0.1<=1000000000->1<=n->n<=100->(∀p pd pm ls ms H',ζ H H'->Line cs os ls->ls.Perm (rs.filter λr=>bw r.2 t)->H' p=↑(.tup [ak false mo os (sT cs t) ↑(.at_ sd (Ν cs os r0.2) r0.1),.ref pd,.ref pm])->jl H H' pd (lA mo os (sT cs t) ↥ls (cZ on cs os ls (.at_ sd (Ν cs os r0.2) r0.1) n))->H pm=none->H' pm=↑(.lst ms)->(∀v∈ms,gC H' cs v)->↥ms<=2->Q (.ref p) H')
def Kw:Def 6 "_law_turned" ["_law_columns_here","_law_head","_law_state","_law_rows","_law_kept","_law_size","_law_forth"] WD:=by
 show Γ (S:=WT) T.Kw (λf Ϻ A' outer s0 H vs Q E hr h=>?_);intro X _;let#[c,hd,r,b,kt,dv,v,u,cs,mo,n,on,sd,os,t,rs,r0,rfl,a,m,aa,uN,uw,vz,n1,n2,q]:=h;let nd:=WT.nd;let m1:=T.bz;let m2:=T.BZ;let m3:=T.Bs;let hsz:=ϯ;let D1:=!yF;let D2:=!Dr;let D3:=!Bh;let D4:=!xT;let#[Ϸ,er,hR]:=a.ro;w_up;show fV ?_>>=aj (ξ.of a.hd) ?_
 iterate 4 show Ι (ω nd ?_)
 show ao (xF ?_);f_tup;lk;show#[c,b,r,v,t,Ϸ,cs,os,rs,rfl,a.co,a.li.ok,a.or,a.li.o4,a.li.inc,a.sv,a.sh,a.li.gt,er,hR,a.nd,a.r60,λr hr=>(a.fit r hr).1,λln lw ls H1 Y ak1 fD ab rK Ϥ=>?_];let hA:ρ (aO H1) lw ls:=ab.imp λu r z=>z.row Y
 let rP:=hA.len;let#[l60,mem]:=a.mem Ϥ;let wQ:=a.same Y;let ac:=a.Gp Ϥ rK;k_go;show Β (ξ.of (Y<*m)) (i:=0) rfl ?_>>=Β (ξ.of (Y<*m)) (i:=1) rfl ?_>>=#[c,b,ln,u,cs,os,ls,lw,sd,r0,rfl,wQ.co,wQ.or,fD,hA,aa.same Y,uN,ac,λH2 s2=>?_];let cY:=Y<|>s2;let Fj:=a.same cY;generalize B:Ct.at_ sd (Ν cs os r0.2) r0.1=ct at q;let pZ:=Bg (cs:=cs) (os:=os) (c:=ct) (rs:=ls);generalize hp:cF cs os ct ls=p at pZ;k_go;show Β (ξ.of (cY<*m)) (i:=0) rfl ?_>>=Β (ξ.of (cY<*m)) (i:=1) rfl ?_>>=#[c,b,false,sd,mo,v,u,cs,os,t,r0,rfl,Fj.co,Fj.or,a.li,Fj.sv,a.sh,aa.same cY,uN,uw,vz,λH3 s3=>?_];rw[B];let aH:=cY<|>s3;let ae:=a.same aH;let Qu:=(s2<|>s3) _ _ fD;let Jj:ρ (aO H3) lw ls:=hA.imp λu r z=>z.same (s2<|>s3)
 let Qd:η K H3 ln lw:=η.of Qu;let sW:=ae.ins Ϥ Qu Jj;let rest:∀(i j:Nat),i<=j->j<=↥ls->cZ on cs os ls ct n=ϣ cs os ls ct i j->Η X ((ϓ xf).drop 6) {nx:=λ_ H'=>Q .non H',rt:=Q} (Kg c hd r kt b n mo on dv v ↑(.ref ln) ↑(.int (p:Nat)) ↑(ak false mo os (sT cs t) (↑ct)) ↑(.int (i:Nat)) ↑(.int (j:Nat)) none none) H3:=by
  intro i j af ag ah;k_go;show#[c,hd,ln,b,v,_,dv,mo,cs,os,t,ls,lw,ct,i,j,rfl,sW,af,ag,λ_=>.inr rfl,λpd q0 us D s4 ai G al am=>?_];let oJ:jl H3 D pd (lU cs mo os t ls ct i j):=#[q0,us,G,ai,al,am];let I:=sW.same s4;let ao0:η K D ln lw:=η.of I.ln;k_go;show#[Ε,λpm s=>?_];let#[J,Z,D,pm,H5]:=Ο s (.lst []);let jx:=(aH<|>s4)<|>J;let ar:H pm=none:=(aH<|>s4).free s;let e:∀(ms:List V)(H6:Hp),ζ D H6->H6 pm=↑(.lst ms)->(∀v∈ms,lQ D H6 cs v)->↥ms<=2->Η X ((ϓ xf).drop 10) {nx:=λ_ H'=>Q .non H',rt:=Q} (Kg c hd r kt b n mo on dv v ↑(.ref ln) ↑(.int (p:Nat)) ↑(ak false mo os (sT cs t) (↑ct)) ↑(.int (i:Nat)) ↑(.int (j:Nat)) ↑(.ref pd) ↑(.ref pm)) H6:=by
   intro ms H6 y L g qJ;symm;lk;show #[Ε,λpr au=>?_];let s7:=ζ.upd (o:=.tup [ak false mo os (sT cs t) ↑ct,.ref pd,.ref pm]) au;let xP:=((aH<|>s4)<|>y)<|>s7;show q pr pd pm ls ms _ xP rK Ϥ ς (by rw[ah];show(oJ.same (y<|>s7)).old aH) ar (s7<*L) (λv M=>((g v M).at' y).same s7) qJ
  let two:∀(ms:List V)(H6:Hp),ζ D H6->H6 pm=↑(.lst ms)->(∀v∈ms,lQ D H6 cs v)->↥ms<=1->Η X ((ϓ xf).drop 9) {nx:=λ_ H'=>Q .non H',rt:=Q} (Kg c hd r kt b n mo on dv v ↑(.ref ln) ↑(.int (p:Nat)) ↑(ak false mo os (sT cs t) (↑ct)) ↑(.int (i:Nat)) ↑(.int (j:Nat)) ↑(.ref pd) ↑(.ref pm)) H6:=by
   intro ms H6 y L g qJ;w_up;show Λ (qW ?_)>>=Β (ξ.of (y<*G)) (i:=2) rfl ?_;by_cases hj:j<↥ls
   .let O:(ϣ cs os ls ct i j).ϟ=↑(gn cs os false ((ϊ ls i j).drop (↥(ϊ ls i j)-1)) ct):=if_pos hj;obtain⟨zf,R⟩:∃x,(lU cs mo os t ls ct i j).ϟ=.str x:=by
     show ∃x,ak false mo os (sT cs t) (ϣ cs os ls ct i j).ϟ=.str x;rw[O, <-B];show Vo
    rw[R];lk;show Α (λh=>?_) (λh=>?_)
    .let av:j-1<↥ls:=()
     let#[uu,U,W]:=I.row av;let#[f1,f2,f3]:=I.fit ls[j-1] (afz _);f_len;show aD (b7 F.plainAttrs_list F.slot_list_append F.type_list_append (h:=?_));f_are;show#[.inl #[rfl,_,η.of L],?_]>>=ύ (η.of (y<*I.ln)) (show Θ lw ((j:Int)-1)=↑uu by rw[show(j:Int)-1=((j-1:Nat):Int)by omega];show ϔ U) ?_>>=#[Ε,λtt l=>?_]>>=dH jz #[pm,ms,_,rfl,rfl,(ζ.upd l)<*L,(),?_];let#[a1,a2,a3]:=lQ.put (sd:=false) s y L l g W f1 f2 f3;show e _ _ a1 a2 a3 (by rw[abp,adS];omega)
    .show Δ (e ms H6 y L g ())
   .let O:(ϣ cs os ls ct i j).ϟ=none:=if_neg hj;let R:(lU cs mo os t ls ct i j).ϟ=.non:=by
     show ak false mo os (sT cs t) (ϣ cs os ls ct i j).ϟ=.non;rw[O];rfl
    rw[R];lk;show Δ (e ms H6 y L g ())
  w_up;show Λ (qW ?_)>>=Β (ξ.of (J<*G)) (i:=1) rfl ?_;by_cases hi:0<i
  .let O:(ϣ cs os ls ct i j).back=↑(gn cs os true ((ϊ ls i j).take 1) ct):=if_pos hi;obtain⟨zf,R⟩:∃x,(lU cs mo os t ls ct i j).back=.str x:=by
    show ∃x,ak false mo os (sT cs t) (ϣ cs os ls ct i j).back=.str x;rw[O, <-B];show Vo
   rw[R];lk;show Α (λh=>?_) (λh=>?_)
   .let aw:i<↥ls:=()
    let#[uu,U,W]:=I.row aw;let#[f1,f2,f3]:=I.fit ls[i] (afz _);f_len;show aD (b7 F.plainAttrs_list F.slot_list_append F.type_list_append (h:=?_));f_are;show#[.inl #[rfl,_,η.of Z],?_]>>=ύ (η.of (J<*I.ln)) (ϔ U) ?_>>=#[Ε,λtt l=>?_]>>=dH jz #[pm,[],_,rfl,rfl,(ζ.upd l)<*Z,by show 0<ϰ;omega,?_];let#[a1,a2,a3]:=lQ.put (sd:=true) s J Z l (λv M=>by cases M) W f1 f2 f3;show two _ _ a1 a2 a3 (Ϭ _)
   .show Δ (two [] H5 J Z (λv M=>by cases M) (aeG _))
  .let O:(ϣ cs os ls ct i j).back=none:=if_neg hi;let R:(lU cs mo os t ls ct i j).back=.non:=by
    show ak false mo os (sT cs t) (ϣ cs os ls ct i j).back=.non;rw[O];rfl
   rw[R];lk;show Δ (two [] H5 J Z (λv M=>by cases M) (aeG _))
 k_go;cases on with
 |true=>
  lk;k_go;show xY ?_;rw[show(if(p:Int)+((n:Nat):Int)<(↥lw:Nat)then(p:Int)+((n:Nat):Int)else(↥lw:Nat))=((min (p+n) ↥ls:Nat):Int)by split <;>omega];show rest p (min (p+n) ↥ls) () (apG ..) (by rw[<-hp];rfl)
 |false=>
  lk;show u9 ?_;rw[show(if(p:Int)-((n:Nat):Int)>0 then(p:Int)-((n:Nat):Int)else 0)=((p-n:Nat):Int)by split <;>omega];k_go;show rest (p-n) p () pZ (by rw[<-hp];rfl)
end
end _K
namespace _K
open PySem _L PyProof.Rows _M _V _W
section
variable{P:Ϯ}{w:ϭ}{K:Ϩ}{mg:MG}{base:ϫ}
inductive Jw(K:Ϩ)(mg:MG)(t:Tr):Sp
 |mk (A:BA) (B:Bk) (os:List Ord) (mo n:Nat) (sd:Bool) (xs:List V) (k:Int) (on:Bool):vs=[.ref A.b,ak false mo os (sT B.heads t) ↑(.at_ sd xs k),.int (n:Nat),.bl on]->jK K mg H A B os t mo n->bZ B.heads os xs->0<=k->k<=1000000000->((mo:Int)<B.known->∀p H',ζ H H'->H' p=↑(.tup [.str ("gone":Str),.int B.known])->Q (.ref p) H')->pF B os t mo n on (.at_ sd xs k) H Q
def Kz(L:fO K mg base "sorted_by")(t:Tr)(a:t.dep<=20):Def 55 "_law_asked" ["_law_book","_law_own","_law_size","_law_forth"] (Jw K mg t):=by
 show Γ (S:=Tc) T.Kz (λf Ϻ A' outer s H vs Q E hr h=>?_);intro X _;let#[A,B,os,mo,n,sd,xs,k,j,rfl,M,O,k0,k1,Y,q]:=h;let nd:=Tc.nd;let c1:Gc mg "Gone" (.ref (ο mg "Gone")):=#[_,T.amC,rfl];let hsz:=ϯ;let D1:Def P w K mg base true 54 "turn_forth" ["book","mark","size"] (vL K mg t true):=Kc T L t a;let D2:Def P w K mg base true 54 "turn_back" ["book","mark","size"] (vL K mg t false):=Ej T L t a;generalize R:ak false mo os (sT B.heads t) ↑(.at_ sd xs k)=z;k_go;w_up;show KQ (λσ c d H'=>σ=[↑(.ref A.b),↑z,↑(.int (n:Nat)),↑(.bl j),↑.non,none]/\ζ H H'/\∃E',d=(↑E',true)/\c=.ref (ο mg "Gone")/\(mo:Int)<B.known/\H' E'=↑(.xd [("known",.int B.known)])) rfl rfl (λF pn xo po=>?_) (λσ c d H' Z=>?_)
 .let l:oX mg B mo H λc d H'=>[↑(.ref A.b),↑z,↑(.int (n:Nat)),↑(.bl j),↑.non,none]=[↑(.ref A.b),↑z,↑(.int (n:Nat)),↑(.bl j),↑.non,none]/\ζ H H'/\∃E',d=(↑E',true)/\c=.ref (ο mg "Gone")/\(mo:Int)<B.known/\H' E'=↑(.xd [("known",.int B.known)]):=λh e H' sm x=>#[rfl,sm,e,rfl,rfl,h,x]
  f_len;f_tup;lk;cases j with
  |true=>
   lk;show#[A,B,os,mo,n,sd,xs,k,by rw[R],M,O,k0,k1,a,l,λg y ls H2 D G I i=>?_]*>Δ ?_;symm;lk;show q g y ls H2 D G I i
  |false=>
   lk;show#[A,B,os,mo,n,sd,xs,k,by rw[R],M,O,k0,k1,a,l,λg y ls H2 D G I i=>?_]*>Δ ?_;symm;lk;show q g y ls H2 D G I i
 .let#[rfl,sm,E',rfl,rfl,J,m]:=Z;show ajd nd (by rfl) (by rfl) (by rfl) T.Ht.at_ (by decide) (alZ T.Ht) (λe pn x=>?_);let U:(upd H' e (xw e (ο mg "Gone") ↑E')) e=↑(xw e (ο mg "Gone") ↑E'):=ς;let l:(upd H' e (xw e (ο mg "Gone") ↑E')) E'=↑(.xd [("known",.int B.known)]):=by rw[θ (ό m x)];show m
  let W:ζ H (upd H' e (xw e (ο mg "Gone") ↑E')):=sm<|>(ζ.upd x);generalize upd H' e (xw e (ο mg "Gone") ↑E')=Hu at U l W⊢;f_len;f_tup;lk;show aeU (e:=e) (C:=ο mg "Gone") (E':=E') (v:=.int B.known) (fs:=[("known",.int B.known)]) (by rfl) T.Ht.attr T.ak4 (λu z=>by let#[t,rfl]:=z;rfl) ?_;f_are;show#[rfl,U,l,rfl,?_]>>=#[Ε,λp hp=>?_]*>Η _ _ _ [↑(.ref A.b),↑z,↑(.int (n:Nat)),↑(.bl j),↑(.ref p),none] _;symm;lk;show Y J p _ (W<|>(ζ.upd hp)) ς
def agN(a:Ψ cs=true)(h:bR cs M):bD 4000 (du M):=by
 let#[_,f]:=wC a h;let p:=qy (ϡ M).cps.toList;let#[m,g]:=abz (show 0<=aY (ϡ M).cps.toList by omega);let e:=Qw (n:=m) ();unfold yc at e;simp only[aaO,decide_eq_true_eq,acL]at e;let i:bD 3300 (ϡ M):=#[f,CG a h];let j:bD 1 (".":Str):=#[by fin2,by fin2];let l:bD 4 (c7 (aY (ϡ M).cps.toList)):=by
  rw[g];show#[anR e.1,λc a=>?_];have:=e.2.1 c a;unfold tU at this;simp at this;omega
 show((i.app j).app l).mono (by decide)
def abY(g:Ψ cs=true){os:List Ord}(a:cU cs os)(l:↥os<=4):↥(bN os)<=100:=by
 let h1:=lR (os.map Ϛ) 9 λp i=>by
  let#[o,j,rfl]:=abt.mp i;let#[c,f,e]:=a o j;have:=nZ (lE g (z:=o.1) (abt.mpr #[c,f,e]));let m:↥("+":Str)=1:=by fin2
  let n:↥("-":Str)=1:=by fin2
  unfold Ϛ;rw[len_app];split <;>omega
 let h2:=kO (os.map Ϛ);rw[aaw]at h1 h2;unfold bN;omega
theorem ama(g:Ψ cs=true){os:List Ord}(a:cU cs os)(i:↥os<=4)(hn:(os.map Prod.fst).Nodup):iY cs (bN os)=↑os:=R8 i hn a λo j l=>by
 let#[c,f,e]:=a o j;let hn:=lE g (z:=o.1) (abt.mpr #[c,f,e]);unfold isName eV at hn;rw[aaO,acL]at hn;show absurd (of_decide_eq_true (hn.2 32 l)) (by fin2)
theorem QJ:∀{t:Tr},jD t->↥(wT (Φ cs) t)<=60/\t.dep<=1
 |.one .all,_=>#[by show 1<=60;decide,by show 0<=1;decide]
 |.one (.none _),_=>#[by show 2<=60;decide,by show 0<=1;decide]
 |.one (.look _ _ _),_=>#[by show 3<=60;decide,by show 0<=1;decide]
 |.nt (.one .all),_=>#[by show 2<=60;decide,by show 1<=1;decide]
 |.nt (.one (.none _)),_=>#[by show 3<=60;decide,by show 1<=1;decide]
 |.nt (.one (.look _ _ _)),_=>#[by show 4<=60;decide,by show 1<=1;decide]
 |.nt (.nt _),h=>h.elim
inductive Lq(K:Ϩ)(mg:MG):Sp
 |mk (A:BA) (B:Bk) (c hd ln b:δ) (dv v:V) (mo n:Nat) (os:List Ord) (t:Tr) (ls:List Row) (lw:List V):vs=[.ref c,.ref hd,.ref ln,dv,.ref A.b,.int (n:Nat)]->mK H c hd ln b v mo B.heads os t ls lw->jK K mg H A B os t mo n->B.now=(mo:Nat)->(∀l2,Line B.heads os l2->l2.Perm ((bO B mo).filter λr=>bw r.2 t)->l2=ls)->(∀p pf pd H',ζ H H'->H' p=↑(.tup [.ref pf,.ref pd])->lK H H' pf (lA mo os (sT B.heads t) ↥ls (cZ true B.heads os ls .start n))->jl H H' pd (lA mo os (sT B.heads t) ↥ls (cZ true B.heads os ls .start n))->Q (.ref p) H')
def Fo(hN:fO K mg base "sorted_by"):Def 20 "_law_first" ["_law_columns_here","_law_head","_law_line_here","_law_state","_law_book","_law_size"] (Lq K mg):=by
 show Γ (S:=WM) T.Fo (λf Ϻ A' outer s0 H vs Q E hr h=>?_);intro X _;let#[A,B,c,hd,ln,b,dv,v,mo,n,os,t,ls,lw,rfl,a,U,j,hu,q]:=h;let nd:=WM.nd;let m1:=T.bz;let m2:=T.BZ;let hsz:=ϯ;let li:=a.li;let#[_,hdp]:=QJ (cs:=B.heads) a.sh;let D2:=!ye;let D3:=!xr;let D4:=!xT;let D5:Def P w K mg base true (11+2*t.dep) "first_leaf" ["book","make","order","sieve","size"] (JN K mg t true):=DN T hN t;let nn1:=U.n1;let l:↥(bN os)<=4000:=by have:=abY li.ok li.inc li.o4;omega
 let lL:=ama li.ok li.inc li.o4 li.S5;let rP:=a.rw_.len;let sq0:η K H ln lw:=η.of a.ln;k_go;show xY ?_;rw[show(if((↥lw:Nat):Int)<((n:Nat):Int)then((↥lw:Nat):Int)else((n:Nat):Int))=((min n ↥ls:Nat):Int)by split <;>omega];lk;show#[c,hd,ln,b,v,_,dv,mo,B.heads,os,t,ls,lw,.start,0,min n ↥ls,rfl,a,aeG _,apG ..,λh=>.inl (),λm q0 us H1 W s u x y=>?_];let e:cZ true B.heads os ls .start n=ϣ B.heads os ls .start 0 (min n ↥ls):=by
  show ϣ B.heads os ls .start 0 (min (0+n) ↥ls)=_;rw[alw]
 let hD:jl H H1 m (lA mo os (sT B.heads t) ↥ls (cZ true B.heads os ls .start n)):=by rw[e];show#[q0,us,u,s,x,y]
 let D:=a.same W;k_go;show Β (ξ.of D.hd) (i:=2) rfl ?_;lk;show#[b,os,rfl,D.or,by have:=li.o4;omega,(λo ho=>by
  let#[cc,F,e]:=li.inc o ho;have:=nZ (lE li.ok (z:=o.1) (abt.mpr #[cc,F,e]));omega),λH2 Y=>?_]
 let g:=D.same Y;lk;show Β (ξ.of g.hd) (i:=3) rfl ?_>>=#[v,c,B.heads,t,rfl,g.co,li.ok,g.sv,g.sh,li.gt,λZ s3=>?_]>>=#[Ε,λtx G=>?_];let#[s4,e4]:=Ο G (.lst [.str (bN os),.str (sT B.heads t)]);change Η _ _ _ _ (upd Z tx (.lst [.str (bN os),.str (sT B.heads t)]));generalize upd Z tx (.lst [.str (bN os),.str (sT B.heads t)])=H4 at s4 e4⊢;let gD:=(Y<|>s3)<|>s4;let I:=W<|>gD;let T6:η K H4 tx [.str (bN os),.str (sT B.heads t)]:=η.of e4;symm;lk;show ύ T6 (i:=0) rfl ?_>>=ύ T6 (i:=1) rfl ?_>>=#[A,B,os,bN os,mo,n,rfl,U.same I,j,l,lL,λ_ pf l2 H5 s5 J L M=>?_];let O:=hu l2 J L;subst O;lk;show#[Ε,λp hp=>?_];let R:=ζ.upd (o:=.tup [.ref pf,.ref m]) hp;show q p pf m _ ((I<|>s5)<|>R) ς ((M.same R).old I) (hD.same ((gD<|>s5)<|>R))
def acd{α:Type}{m:List (Int×α)}{r:Int×α}(h:(m.map Prod.fst).Nodup)(e:m[i]?=↑r):bx (m.take i) r.1 r.2=m.take (i+1):=by
 rw[al1,e];unfold bx;rw[if_neg]
 .rfl
 intro z;let#[p,c,z]:=apH.mp z;let z:=of_decide_eq_true z;let#[j,f,a]:=ap7 c;rw[adn]at f;rw[atq]at a;let hi:=(aav.mp e).1;let g:=(aav.mp e).2;have:=(amx (i:=j) (j:=i) (h₀:=by rw[aaw];omega) (h₁:=by rw[aaw];omega) h).mp (by rw[atN,atN,a,g,z]);omega
inductive Tf:Sp
 |mk (d r s:δ) (n:Int) (F:List δ) (m:List (Int×List V)):vs=[.ref d]->H d=↑(.dK (stK r s n))->d≠r->Zc F H r m->(m.map Prod.fst).Nodup->↥m<=60->(∀p Ϸ H',ζ H H'->H p=none->H' p=↑(.dK Ϸ)->ρ (PR λv xs=>∃l,v=.ref l/\H' l=↑(.lst xs)/\H l=none) Ϸ m->Q (.ref p) H')
def Fd:Def 1 "_law_frozen" ["_law_state"] Tf:=by
 show Γ (S:=RK) T.Fd (λf Ϻ A outer s0 H vs Q E hr h=>?_);intro X _;let#[d,r,s,n,F,m,rfl,Y,Ϲ,#[Ϸ,G,Z],I,qJ,q]:=h;let nd:=RK.nd;let n1:=T.jT;let g:_+1<cLine:=aet (agC (by decide:1<=64) _) hr.units;let hsz:=ϯ;show O5 G λo=>?_
 let hd:(upd H r (.frz o (.dK Ϸ))) d=↑(.dK (stK r s n)):=by rw[θ Ϲ];show Y
 let J:(upd H r (.frz o (.dK Ϸ))) r=↑(.frz o (.dK Ϸ)):=ς;let hD:fQ (upd H r (.frz o (.dK Ϸ))) Ϸ m:=Z.imp λa x z=>by
  let#[e,l,j,e3,_]:=z;show#[e,l,j,by rw[θ (λz=>by rw[z,G]at e3;cases e3)];show e3]
 let qX:∀x,(upd H r (.frz o (.dK Ϸ))) x=none->H x=none:=λx e=>by
  by_cases z:x=r
  .rw[z,ς]at e;cases e
  .rw[θ z]at e;show e
 let fin:∀p c H',ζ (upd H r (.frz o (.dK Ϸ))) H'->H p=none->H' p=↑(.dK c)->ρ (PR λv xs=>∃l,v=.ref l/\H' l=↑(.lst xs)/\H l=none) c m->Q (.ref p) (upd H' r (.dK Ϸ)):=λp c H' sm D aa B=>by
  let nr:∀x,H x=none->x≠r:=λx L z=>by rw[z,G]at L;cases L
  show q p c _ (λx u e=>?_) D (by rw[θ (nr p D)];show aa) (cH B λv xs z=>?_)
  .by_cases z:x=r
   .rw[z]at e⊢;rw[G]at e;cases e;show ς
   .rw[θ z];show sm<*(by rw[θ z];show e)
  .let#[l,e,e1,j]:=z;show#[l,e,by rw[θ (nr l j)];show e1,j]
 let Ie:∀o u,¬H r=↑(.frz o u):=λo u z=>by rw[G]at z;cases z
 clear q;generalize upd H r (.frz o (.dK Ϸ))=HZ at hd J hD qX fin⊢;w_up;f_tup;show uU λp D=>?_
 let#[R,e1,HZ,p,H1]:=Ο D (.dK []);w_up;show Oi (by walk_at"po") (by rfl) (by intro _;rfl) ?_>>=cj g (mF (R<*hd)) ?_*>#[r,o,Ϸ,m.map Prod.fst,rfl,R<*J,hD.keys,λi σ H'=>(∃o2,σ=[↑(.ref d),↑(.ref p),o2])/\ζ HZ H'/\∃c,H' p=↑(.dK c)/\ρ (PR λv xs=>∃l,v=.ref l/\H' l=↑(.lst xs)/\H l=none) c (m.take i),#[#[none,rfl],R,[],e1,.nil],λi σ' H' M=>M.2.1 _ _ J,λi k σ' H' hk M=>?_,λσ' H' M=>?_]
 .let#[#[o2,rfl],sm,c,ep,B]:=M;rw[abD]at hk;let#[x,L,rfl]:=aj7.mp hk;let#[l,O,hl]:=hD.get I L;let dg:aq H' r (.int x.1) ↑(.ref l):=.inl #[Ϸ,Sum.inl x.1,.inr #[o,sm<*J],rfl,O.symm];let ab:=B.len;rw[adn]at ab;show ω nd ?_;f_len;show jr g ?_>>=cj g (mF (sm<*hd)) ?_>>=cj g dg ?_>>=iG (.inl (η.of (sm<*hl))) λb U=>?_
  let W:ζ H' (upd H' b (.lst x.2)):=ζ.upd U;let j:(upd H' b (.lst x.2)) b=↑(.lst x.2):=ς;generalize upd H' b (.lst x.2)=H2 at W j⊢;lk;show#[p,_,rfl,dW.k (k:=Sum.inl x.1) (v:=.ref b) (W<*ep) (),?_];let bp:b≠p:=λz=>by rw[z,ep]at U;cases U
  show#[#[_,rfl],λy u e=>?_,_,ς,?_]
  .rw[θ (λz=>by rw[z,D]at e;cases e)];show W<*(sm<*e)
  .rw[<-acd I L];show nA (cH B λv xs z=>?_) x.1 #[b,rfl,by rw[θ bp];show j,qX b (sm.free U)];let#[l',e,g1,g2]:=z;show#[l',e,by rw[θ (λz=>by rw[z,ep]at g1;cases g1)];show W _ _ g1,g2]
 .let#[#[o2,rfl],sm,c,ep,B]:=M;rw[aaw,ahs]at B;show QR (sm<*J) Ie ?_;symm;lk;show fin p c H' sm (qX p D) ep B
inductive Oj(K:Ϩ)(mg:MG):Sp
 |mk (A:BA) (B:Bk) (sc d r s:δ) (ns:List Int) (k:Int):vs=[.ref sc,.int k,.ref A.b,.ref d,.int B.known]->η K H sc (ns.map V.int)->↥ns<=63->0<=k->k<=40000->H d=↑(.dK (stK r s B.now))->Ρ (cB mg) H A B->qG B->Q (.int B.known) H->(∀x d' H',B.known<x->x<=B.now->H d'=none->Out [A.b] H H'->Ρ (cB mg) H' {A with d:=d'} {B with done:=B.done.drop (x-B.known).toNat,known:=x}->Q (.int x) H')
def Hj:Def 5 "_law_let_go" ["_law_script","_law_k","_law_book","_law_state","_law_oldest"] (Oj K mg):=by
 show Γ (S:=abg) T.Hj (λf v A' outer y H vs Q E e h=>?_);intro X _;let#[A,B,sc,d,r,s,ns,k,rfl,g,hl,k0,k1,hd,i,j,l,q]:=h;let nd:=abg.nd;let n1:=T.Bs;let a:_+1<cLine:=aet (agC (by decide:1<=64) _) e.units;let D:=!iC;let M1:aK P w K mg base true 4 (cB mg) "let_go" ["self","moment"] (xV mg):=(amu T).meth T.aF T.aky;let#[F,m1,m2]:=id j;w_up;show Λ ?_>>=#[sc,ns,k,8,rfl,g,hl,(),(),by decide,?_]>>=Α (λ_=>?_) (λ_=>?_)
 .f_len;show ψ ?_>>=l
 show Δ ?_;k_go;show cj a (wz hd) ?_>>=#[sc,ns,k+1,B.now+1,rfl,g,hl,(),(),(),?_];let p:=aV ns (k+1) (m:=B.now+1) ();let u:=bh ns (k+1) (m:=B.now+1) ();generalize ϒ ns (k+1) (B.now+1)=x at p u⊢;w_up;show aD ?_*>cX (pl:=_) e Ϝ (h:=?_);f_are;show#[A.b,cB mg,A.dx,_,true,4,_,xV mg,rfl,i.ins,by rfl,M1,by decide,id,?_]>>=#[A,B,x,rfl,i,j,λn=>?_,(λz=>absurd z ()),λn _ d' H' c o' k'=>?_]
 .f_len;show ψ ?_>>=u9 ?_;rw[if_neg ()];show l
 .f_len;show ψ ?_>>=u9 ?_;rw[if_pos ()];show q x d' H' n () c o' k'
def LN(H:Hp)(F:List δ):=∀l∈F,∀x xs,H l=↑(.lst (x::xs))->∃a,x=.ref a
structure Ou(F:List δ)(H H':Hp):Prop where
 o:Out F H H'
 nt:NT H F
 ln:LN H F
theorem Ou.tup(h:Ou F H H')(e:H b=↑(.tup ys)):H' b=↑(.tup ys):=h.nt.tup h.o _ _ e
def Ou.vals(h:Ou F H H')(j:1<=↥cs)(m:ϛ cs r)(e:H l=↑(.lst r.2)):H' l=↑(.lst r.2):=by
 show h.o _ _ (λhl=>?_) e;let f:ρ (λ(c:ι) x=>ϖ c.2 x) cs r.2:=m;generalize r.2=xs at f e;cases f with
 |nil=>show absurd j (by decide)
 |cons g _=>
  let#[a,n]:=h.ln l hl _ _ e;rw[n]at g;obtain z|⟨_,i,z,_⟩|⟨_,y,z,_⟩:=g<;>cases z
def Ou.row(h:Ou F H H')(a:1<=↥cs)(c:ϛ cs r)(g:aO H u r):aO H' u r:=by
 let#[t,l,e,f,i]:=g;show#[t,l,e,h.tup f,h.vals a c i]
def gC.ou(g:gC H cs v)(h:Ou F H H')(c:1<=↥cs):gC H' cs v:=by
 let#[t,sd,u,r,e,h1,h2,a,f]:=g;show#[t,sd,u,r,e,h.tup h1,h.row c a h2,a,f]
def d8(F:List δ)(cs:List ι)(H:Hp)(p:δ)(L:aU):=∃q us,H p=↑(.tup [.ref q,L.back,L.ϟ,.int L.many,.int L.ahead,.int L.moment])/\H q=↑(.lst us)/\q∉F/\ρ (mC H) us L.rows
def Gs(cs:List ι)(L:aU):=∀x∈L.rows,ϛ cs (x.1,x.2.1)
def d8.ou(g:d8 F cs H p L)(f:Gs cs L)(h:Ou F H H')(i:1<=↥cs)(m:∀y,y∉F->H y≠none->y∉F'):d8 F' cs H' p L:=by
 let#[q,us,e,h1,h2,a]:=g;show#[q,us,h.tup e,h.o _ _ h2 h1,m q h2 (by rw[h1];nofun),kh (by rw[a.len]) λj x c=>?_];let#[u,n,t,l,e1,s,v]:=a.get' c;show#[u,n,t,l,e1,h.tup s,h.vals (r:=(x.1,x.2.1)) i (f x (aa0 c)) v]
def d8.at'(g:d8 F cs H p L):Nb H p L:=by
 let#[q,us,e,h1,h2,a]:=g;show#[q,e,us,h1,a]
def d8.new(g:lK H H' p L)(lv:∀x∈F,H x≠none):d8 F cs H' p L:=by
 let#[q,us,e,h1,h2,a]:=g;show#[q,us,e,h2,λz=>lv q z h1,a.imp λu r z=>by
  let#[t,l,e,c,_,f]:=z;show#[t,l,e,c,f]]
def d8.due(g:jl H H' p L)(lv:∀x∈F,H x≠none):d8 F cs H' p L:=by
 let#[q,us,e,h1,h2,a]:=g;show#[q,us,e,h2,λz=>lv q z h1,a]
def Pn(L:aU):Prop:=layR L.rows/\iR L.back/\iR L.ϟ
abbrev nR:Str:=Ϫ "gone"
def gk(F:List δ)(cs:List ι)(H:Hp)(p:δ):aU ⊕ Int->Prop
 |.inl L=>d8 F cs H p L/\Gs cs L/\Pn L
 |.inr n=>H p=↑(.tup [.str nR,.int n])
def dY:aU ⊕ Int->aoL
 |.inl L=>zO L
 |.inr n=>.tuple [.str nR,.int n]
def gk.ou(g:gk F cs H p x)(h:Ou F H H')(a:1<=↥cs)(c:∀y,y∉F->H y≠none->y∉F'):gk F' cs H' p x:=by
 cases x with
 |inl L=>show#[g.1.ou g.2.1 h a c,g.2]
 |inr n=>show h.tup g
def gk.rd(g:gk F cs H p x):RD K H (.ref p) (dY x)/\(dY x).canLay0=true/\(dY x).depth<=8:=by
 cases x with
 |inl L=>
  let#[f,_,a,c,e]:=g;show#[anq f.at' a c e,ae6 a c e,?_];let h1:=aaZ L.rows;let h2:=R9 L.back;let i:=R9 L.ϟ;simp only[dY,zO,PyData.depth,PyData.depthAll];omega
 |inr n=>
  let h:(PyData.str nR).canLay0=true:=by fin2
  show#[.tup (ξ.of g) (.cons (.str _) (.cons (.int _) .nil)),?_,by simp only[dY,PyData.depth,PyData.depthAll];omega];show((PyData.str nR).canLay0&&(true&&true))=true;rw[h];rfl
def rM(F:List δ)(cs:List ι)(H:Hp)(v:V)(x:aU ⊕ Int):=∃t a c,v=.ref t/\H t=↑(.tup [.ref a,.ref c])/\gk F cs H a x/\gk F cs H c x
def rM.ou(g:rM F cs H v x)(h:Ou F H H')(a:1<=↥cs)(c:∀y,y∉F->H y≠none->y∉F'):rM F' cs H' v x:=by
 let#[t,f,i,e,h1,h2,j]:=g;show#[t,f,i,e,h.tup h1,h2.ou h a c,j.ou h a c]
def akf(h:ρ (λu x=>∃p,u=.ref p/\gk F cs H p x) us xs):cC K H us (xs.map dY)/\PyData.canLayAll0 (xs.map dY)=true/\PyData.depthAll (xs.map dY)<=8:=by
 induction h with
 |nil=>show#[.nil,rfl,aeG _]
 |cons g t a=>
  let#[p,rfl,g]:=g;let#[r1,c,e]:=g.rd (K:=K);show#[.cons r1 a.1,?_,Nat.max_le.mpr #[e,a.2.2]];show((dY _).canLay0&&PyData.canLayAll0 _)=true;rw[c,a.2.1];rfl
def Yx{os:List Ord}{t:Tr}{mo:Nat}(a:jq cs os t mo){d:Option Ct}(h:∀x,d=↑x->mY cs os x):iR (ak false mo os (sT cs t) d):=by
 cases d with
 |none=>show#[rfl,λz e=>by cases e]
 |some x=>
  let#[sd,xs,n,rfl,c,_,h1]:=h x rfl;let h:=agN a.ok (a.good (lv:=false) (sd:=sd) c h1);show iR (.str (du #[false,mo,os,sT cs t,#[sd,n.toNat,xs]]));generalize du #[false,mo,os,sT cs t,#[sd,n.toNat,xs]]=f at h;show#[rfl,λz e=>by cases e;show h]
def Oc{mo n:Nat}{os:List Ord}{t:Tr}{ls:List Row}{a:Bool}{c:Ct}(g:jq cs os t mo)(l:mU cs os ls)(hn:∀r∈ls,0<=r.1/\r.1<=1000000000)(n1:1<=n)(m:pO cs os a c):Gs cs (lA mo os (sT cs t) ↥ls (cZ a cs os ls c n))/\Pn (lA mo os (sT cs t) ↥ls (cZ a cs os ls c n)):=by
 let ok:=aal l hn n1 m;obtain⟨i,j,e⟩:∃i j,cZ a cs os ls c n=ϣ cs os ls c i j:=by cases a<;>show#[_,_,rfl]
 rw[e]at ok⊢;let fit:∀x∈(ϊ ls i j).map (λr=>((r.1,r.2,true):gG)),ϛ cs (x.1,x.2.1):=λx f=>by
  let#[r,p,rfl]:=abt.mp f;show l.fit r (aey (aeA p))
 show#[fit,λx f y q=>(fit x f).lay y q,Yx g λx h=>ok x (.inl h),Yx g λx h=>ok x (.inr h)]
def Ω.nl(h:Ω mg F A d r s H B n m sn):NT H (d::r::s::A.fp)/\LN H (d::r::s::A.fp):=by
 show#[λx i ys e=>?_,λl hl x xs e=>?_]
 .let#[o,z,g]:=h.live x i;rw[e]at z;cases z;show g _ rfl
 .let a:l∈[d,r,s]\/l∈A.fp:=by
   simp only[aaB,agq,or_false]at hl⊢;obtain z|z|z|z:=hl
   .show .inl (.inl z)
   .show .inl (.inr (.inl z))
   .show .inl (.inr (.inr z))
   .show .inr z
  obtain z|z:=a
  .let#[Ϸ,c]:=h.dicts l z;rw[e]at c;cases c
  .let z':l=A.b\/l=A.r\/l=A.t\/l=A.d:=by simpa [BA.fp]using z
   let#[k1,e1,_]:=h.bk.rows;let#[k2,j,_]:=h.bk.touched;let#[k3,p,f]:=h.bk.done;obtain rfl|rfl|rfl|rfl:=z'
   .rw[h.bk.ins]at e;cases e
   .rw[e1]at e;cases e
   .rw[j]at e;cases e
   .rw[p]at e;cases e;generalize B.done=ds at f;cases f with
    |cons g _=>
     let#[t,w,u,e,_]:=g;show#[t,e]
def Ω.add(h:Ω mg F A d r s H B n m sn)(c:H p=none):Ω mg (p::F) A d r s H B n m sn:=by
 let#[k1,e1,h1]:=h.ro;show#[h.bk,h.st,#[k1,e1,cH h1 λv x z=>?_],h.si];let#[l,e,a,f]:=z;show#[l,e,a,λz=>?_];obtain z|z:=aaB.mp z
 .rw[z,c]at a;cases a
 .show f z
def Ω.held(h:Ω mg F A d r s H B n m sn)(o:Out [p] H H')(c:p∈F)(f:p∉A.six)(g:p≠d)(i:p≠r)(ps:p≠s)(nt:∀ys,H p≠↑(.tup ys)):Ω mg F A d r s H' B n m sn:=by
 let#[k1,e1,h1]:=h.ro;let#[k2,j,h2]:=h.si;show#[h.bk.out o (λy a ys z=>by rw[ack.mp a]at z;show nt ys z) (λy a l=>by rw[ack.mp l]at a;show f a),o _ _ (λz=>g (ack.mp z).symm) h.st,#[k1,o _ _ (λz=>i (ack.mp z).symm) e1,cH h1 λv x z=>z.stay λb ys q e=>o _ _ (λy=>q (by rw[ack.mp y];show c)) e],#[k2,o _ _ (λz=>ps (ack.mp z).symm) j,h2]]
def agL:∀k∈nM,0<=k/\k<=1000000000:=by decide
def agU{r1 r2:List Row}(n1:(r1.map (·.1)).Nodup)(n2:(r2.map (·.1)).Nodup)(h:∀i,Μ r1 i=Μ r2 i):r1.Perm r2:=by
 let g:(r1.map (·.1)).Perm (r2.map (·.1)):=(List.perm_ext_iff_of_nodup n1 n2).mpr λx=>by
  let a:=zj (m:=r1) (i:=x);let b:=zj (m:=r2) (i:=x);rw[h]at a;let c:=a.symm<|>b;show#[λf=>Classical.byContradiction λhn=>c.mpr hn f,λf=>Classical.byContradiction λhn=>c.mp hn f]
 let e:=DG n1 (List.Perm.refl _);rw[akX h]at e;show e.symm.trans (DG n2 g)
def M9(h:gW all B)(g:mo<=↥all)(j:B.known<=mo):il B.rows (B.done.drop ((mo:Int)-B.known).toNat)/\(bO B mo).Perm (eZ (all.take mo))/\((bO B mo).map Prod.fst).Nodup:=by
 let a:=h.kn;let e:B.done.drop ((mo:Int)-B.known).toNat=all.drop mo:=by
  rw[h.done,asq]
  congr 1
  omega
 let#[c,f]:=back_eq h.good (↥all-mo) mo ();let nd:((bO B mo).map Prod.fst).Nodup:=by
  unfold bO;rw[h.rows];show UG (YQ all) _
 show#[by rw[e,h.rows];show f,agU nd (YQ _) λi=>?_,nd];unfold bO;rw[e,h.rows];show c i
def gW.go(h:gW all B)(a:B.known<x)(hn:x<=B.now):gW all {B with done:=B.done.drop (x-B.known).toNat,known:=x}:=by
 let kn:=h.kn;show#[h.rows,?_,h.now,#[by show 0<=x;omega,hn],h.good,h.wf];show B.done.drop (x-B.known).toNat=all.drop x.toNat;rw[h.done,asq]
 congr 1
 omega
def Ω.go(h:Ω mg F A d r s H B n m sn)(ap:eY A d r s F)(o:Out [A.b] H H')(f:Ρ (cB mg) H' {A with d:=d'} B')(g:∀x,x∉F->H x≠none->x∉F'):Ω mg F' {A with d:=d'} d r s H' B' n m sn:=by
 let hn:=tQ ap.nd [6,7,8] [4] (by decide);let#[k1,e1,h1]:=h.ro;let#[k2,i,h2]:=h.si;show#[f,o _ _ (hn d (by simp)) h.st,#[k1,o _ _ (hn r (by simp)) e1,cH h1 λv x z=>?_],#[k2,o _ _ (hn s (by simp)) i,h2]];let#[l,e,a,c]:=z;show#[l,e,o _ _ (λz=>c (by rw[ack.mp z];show ap.inF _ (by simp[BA.fp]))) a,g l c (by rw[a];nofun)]
def eY.go(ap:eY A d r s F)(k:Ρ (cB mg) H' {A with d:=d'} B')(hd:∀x∈[d,r,s],x≠d')(g:∀x∈d::r::s::({A with d:=d'}:BA).fp,x∈F'):eY {A with d:=d'} d r s F':=by
 let hn:=tQ ap.nd [6,7,8] [0,1,2,4,5] (by decide);let h1:(({A with d:=d'}:BA).six++[d,r,s]).Nodup:=alW.mpr #[k.ym,(alW.mp (show([A.h,A.r,A.t,A.d,A.b,A.dx]++[d,r,s]).Nodup from ap.nd)).2.1,λa ha b f e=>by
  let c:a=A.h\/a=A.r\/a=A.t\/a=d'\/a=A.b\/a=A.dx:=by simpa [BA.six]using ha
  let hn:=hn b f;simp at hn;rw[<-e]at hn;obtain z|z|z|z|z|z:=c
  .show hn.1 z
  .show hn.2.1 z
  .show hn.2.2.1 z
  .show hd b f (e▸z)
  .show hn.2.2.2.1 z
  .show hn.2.2.2.2 z]
 show#[h1,g]
structure ϝ(mg:MG)(A:BA)(c hd d r s b hl fr:δ)(v:V)(cs:List ι)(mo:Nat)(os:List Ord)(t:Tr)(rs:List Row)(all:List bf)(H0:Hp)(k:Nat)(H:Hp)(B:Bk)(sn:List (Int×Int))(i:Nat)(mk:δ)(ms hs:List V)(xs:List (aU ⊕ Int)):Prop where
 C:fu c hd fr b v H cs mo os t rs
 st:Ω mg (hl::d::r::s::A.fp) A d r s H B B.now B.rows sn
 ap:eY A d r s (hl::d::r::s::A.fp)
 dk:dU cs nM B sn i
 hi:∃ds,gW (all++ds) B
 ml:H mk=↑(.lst ms)
 mm:∀v∈ms,gC H cs v
 m1:1<=↥ms
 m2:↥ms<=2+2*k
 hls:H hl=↑(.lst hs)
 hh:ρ (rM (hl::d::r::s::A.fp) cs H) hs xs
 h2:↥hs<=1+k
 hn:hl∉d::r::s::A.six
 nF:∀x∈[mk,c,b,fr],x∉hl::d::r::s::A.fp
 old:∀x∈hl::d::r::s::A.fp,H0 x=none
 sm:ζ H0 H
 ha:↥all=mo/\rs=eZ all
def QZ{A:BA}(h:x∈A.fp):x∈A.six:=by
 let h':x=A.b\/x=A.r\/x=A.t\/x=A.d:=by simpa [BA.fp]using h
 obtain rfl|rfl|rfl|rfl:=h'<;>simp[BA.six]
section
variable{A A':BA}{c hd d r s b hl fr mk:δ}{v:V}{cs:List ι}{mo:Nat}{os:List Ord}{t:Tr}{rs:List Row}{all:List bf}{k:Nat}{H0 H H':Hp}{B B':Bk}{sn tR:List (Int×Int)}{i i':Nat}{ms hs:List V}{xs:List (aU ⊕ Int)}
def ϝ.nl(g:ϝ mg A c hd d r s b hl fr v cs mo os t rs all H0 k H B sn i mk ms hs xs):NT H (hl::d::r::s::A.fp)/\LN H (hl::d::r::s::A.fp)/\∀x∈hl::d::r::s::A.fp,H x≠none:=by
 let#[n1,n2]:=g.st.nl;show#[λx hx ys e=>?_,λl hl x xs e=>?_,λx hx e=>?_]
 .obtain rfl|hx:=aaB.mp hx
  .rw[g.hls]at e;cases e
  .show n1 x hx ys e
 .obtain rfl|hl:=aaB.mp hl
  .let gh:=g.hh;rw[g.hls]at e;cases e;cases gh with
   |cons z _=>
    let#[t,_,_,e,_]:=z;show#[t,e]
  .show n2 l hl x xs e
 .obtain rfl|hx:=aaB.mp hx
  .rw[g.hls]at e;cases e
  .let#[o,z,_]:=g.st.live x hx;rw[e]at z;cases z
theorem ϝ.c1(g:ϝ mg A c hd d r s b hl fr v cs mo os t rs all H0 k H B sn i mk ms hs xs):1<=↥cs:=(lG g.C.li.ok).1
theorem ϝ.hlF(g:ϝ mg A c hd d r s b hl fr v cs mo os t rs all H0 k H B sn i mk ms hs xs):hl∉d::r::s::A.fp:=λz=>g.hn (by
 simp only[aaB]at z⊢;obtain z|z|z|z:=z
 .show .inl z
 .show .inr (.inl z)
 .show .inr (.inr (.inl z))
 .show .inr (.inr (.inr (QZ z))))
def fu.ou(h:fu c hd fr b v H cs mo os t rs)(u:Ou F H H')(a:∀x∈[c,b,fr],x∉F):fu c hd fr b v H' cs mo os t rs:=by
 let#[Ϸ,e,f]:=h.ro;let#[i,m,h2]:=h.or;let c1:=(lG h.li.ok).1;show#[u.tup h.hd,h.co.out u.o u.nt (a c (by simp)),#[i,u.o _ _ (a b (by simp)) m,h2.imp λy x z=>?_],cu.stay (λx ys e=>u.tup e) h.sv,h.sh,h.li,#[Ϸ,u.o _ _ (a fr (by simp)) e,kh (by rw[f.len]) λj x g=>?_],h.nd,h.r60,h.fit]
 .let#[t,e,z]:=z;show#[t,e,u.tup z]
 .let#[n,p,q,l,s,B]:=f.get' g;show#[n,p,q,l,s,u.vals c1 (h.fit x (aa0 g)).1 B]
def ϝ.step(g:ϝ mg A c hd d r s b hl fr v cs mo os t rs all H0 k H B sn i mk ms hs xs)(o:Out (d::r::s::A.fp) H H')(j:∀x,x∉hl::d::r::s::A.fp->H x≠none->x∉hl::d::r::s::A'.fp)(st:Ω mg (hl::d::r::s::A'.fp) A' d r s H' B' B'.now B'.rows tR)(ap:eY A' d r s (hl::d::r::s::A'.fp))(dk:dU cs nM B' tR i')(hi:∃ds,gW (all++ds) B')(hn:hl∉d::r::s::A'.six)(old:∀x∈hl::d::r::s::A'.fp,H0 x=none):ϝ mg A' c hd d r s b hl fr v cs mo os t rs all H0 k H' B' tR i' mk ms hs xs:=by
 let u:Ou (hl::d::r::s::A.fp) H H':=#[o.mono λx a=>abF _ a,g.nl.1,g.nl.2.1];show#[g.C.ou u λx a=>g.nF x (abF _ a),st,ap,dk,hi,u.o _ _ (g.nF mk (by simp)) g.ml,λv l=>(g.mm v l).ou u g.c1,g.m1,g.m2,o _ _ g.hlF g.hls,g.hh.imp λv x z=>z.ou u g.c1 j,g.h2,hn,λx a=>j x (g.nF x a) ?_,old,λx y e=>o _ _ (λz=>by rw[g.old x (abF _ z)]at e;cases e) (g.sm<*e),g.ha];let#[_,e1,_]:=g.C.co;let#[_,m,_]:=g.C.or;let#[_,n,_]:=g.C.ro;let f:x=mk\/x=c\/x=b\/x=fr:= ~~~a
 obtain rfl|rfl|rfl|rfl:=f
 .rw[g.ml];nofun
 .rw[e1];nofun
 .rw[m];nofun
 .rw[n];nofun
theorem ϝ.same(g:ϝ mg A c hd d r s b hl fr v cs mo os t rs all H0 k H B sn i mk ms hs xs)(sm:ζ H H'):ϝ mg A c hd d r s b hl fr v cs mo os t rs all H0 k H' B sn i mk ms hs xs:=g.step (.of sm) (λx a _=>a) (g.st.same sm) g.ap g.dk g.hi g.hn g.old
def ϝ.deed(g:ϝ mg A c hd d r s b hl fr v cs mo os t rs all H0 k H B sn i mk ms hs xs)(f:row∈cL)(a:Μ B.rows row=none->o≠none)(hok:∀xs,o=↑xs->kJ B.heads xs)(j:Out (d::r::s::A.fp) H H')(l:Ω mg (hl::d::r::s::A.fp) A d r s H' (aP B row o) (B.now+1) (aP B row o).rows (rG sn row (B.now+1) o)):ϝ mg A c hd d r s b hl fr v cs mo os t rs all H0 k H' (aP B row o) (rG sn row (B.now+1) o) (i+1) mk ms hs xs:=by
 let#[ds,hs]:=g.hi;show g.step j (λx m _=>m) l g.ap (g.dk.deed (ks':=nM) (λk n=>n) (agF _ f) λxs e=>by rw[<-g.dk.heads];show hok xs e) #[ds++[_],by rw[<-asy];show hs.abw row o a] g.hn g.old
def ϝ.go(g:ϝ mg A c hd d r s b hl fr v cs mo os t rs all H0 k H B sn i mk ms hs xs)(a:B.known<x)(hn:x<=B.now)(e:H d'=none)(o:Out [A.b] H H')(l:Ρ (cB mg) H' {A with d:=d'} {B with done:=B.done.drop (x-B.known).toNat,known:=x}):ϝ mg {A with d:=d'} c hd d r s b hl fr v cs mo os t rs all H0 k H' {B with done:=B.done.drop (x-B.known).toNat,known:=x} sn i mk ms hs xs:=by
 let#[ds,hh]:=g.hi;let dk:=g.dk;let dl:=dk.dl;let ne:∀x,x∉hl::d::r::s::A.fp->x≠d'->x∉hl::d::r::s::({A with d:=d'}:BA).fp:=λx h1 h2 z=>by
  let z':x=hl\/x=d\/x=r\/x=s\/x=A.b\/x=A.r\/x=A.t\/x=d':=by simpa [BA.fp]using z
  obtain z|z|z|z|z|z|z|z:=z'
  iterate 7 show h1 (by rw[z];simp[BA.fp])
  show h2 z
 let f:=g.nl.2.2;let m:∀x∈hl::d::r::s::A.fp,x≠d':=λx a z=>f x a (by rw[z];show e)
 let n:Out (d::r::s::A.fp) H H':=o.mono λx a=>by rw[ack.mp a];simp[BA.fp]
 show g.step n (λx h1 h2=>ne x h1 λz=>?_) (g.st.go g.ap o l λx h1 h2=>ne x h1 λz=>h2 (by rw[z];show e)) (g.ap.go l (λx a=>m x ?_) λx a=>abF _ a) #[dk.heads,dk.nd,dk.wf,dk.ok,dk.keys,dk.tl,by show(B.done.drop _).length<=i;rw[adu];omega,dk.sl,dk.now] #[ds,hh.go a hn] (λz=>?_) (λx a=>?_)
 .show h2 (by rw[z];show e)
 .let j:x=d\/x=r\/x=s:= ~~~a
  obtain z|z|z:=j<;>(rw[z];simp)
 .let z':hl=d\/hl=r\/hl=s\/hl=A.h\/hl=A.r\/hl=A.t\/hl=d'\/hl=A.b\/hl=A.dx:=by simpa [BA.six]using z
  obtain z|z|z|z|z|z|z|z|z:=z'
  iterate 6 show g.hn (by rw[z];simp[BA.six])
  .show m hl (by simp) z
  iterate 2 show g.hn (by rw[z];simp[BA.six])
 .let z':x=hl\/x=d\/x=r\/x=s\/x=A.b\/x=A.r\/x=A.t\/x=d':=by simpa [BA.fp]using a
  obtain z|z|z|z|z|z|z|z:=z'
  iterate 7 show g.old x (by rw[z];simp[BA.fp])
  rw[z];show g.sm.free e
def ϝ.held(g:ϝ mg A c hd d r s b hl fr v cs mo os t rs all H0 k H B sn i mk ms hs xs){w:V}(f:rM (hl::d::r::s::A.fp) cs H w x):ϝ mg A c hd d r s b hl fr v cs mo os t rs all H0 (k+1) (upd H hl (.lst (hs++[w]))) B sn i mk ms (hs++[w]) (xs++[x]):=by
 let o:Out [hl] H (upd H hl (.lst (hs++[w]))):=Out.upd (by simp);let u:Ou (hl::d::r::s::A.fp) H (upd H hl (.lst (hs++[w]))):=#[o.mono λx a=>by rw[ack.mp a];show ad8 ..,g.nl.1,g.nl.2.1];let hn:=g.hn;simp only[aaB,not_or]at hn;let m2:=g.m2;let h2:=g.h2;show#[g.C.ou u λx a=>g.nF x (abF _ a),g.st.held o (ad8 ..) hn.2.2.2 hn.1 hn.2.1 hn.2.2.1 (λys z=>by rw[g.hls]at z;cases z),g.ap,g.dk,g.hi,u.o _ _ (g.nF mk (by simp)) g.ml,λv j=>(g.mm v j).ou u g.c1,g.m1,(),ς,(g.hh.imp λv x z=>z.ou u g.c1 λy h _=>h).app (.cons (f.ou u g.c1 λy h _=>h) .nil),by rw[abp,adS];omega,g.hn,g.nF,g.old,λx y e=>u.o _ _ (λz=>by rw[g.old x z]at e;cases e) (g.sm<*e),g.ha]
def ϝ.marks(g:ϝ mg A c hd d r s b hl fr v cs mo os t rs all H0 k H B sn i mk ms hs xs)(h:H nm=none)(a:∀v∈ns,gC H cs v)(h1:1<=↥ns)(h2:↥ns<=2+2*k):ϝ mg A c hd d r s b hl fr v cs mo os t rs all H0 k (upd H nm (.lst ns)) B sn i nm ns hs xs:=by
 let sm:=ζ.upd (o:=.lst ns) h;let g':=g.same sm;show#[g'.C,g'.st,g.ap,g.dk,g.hi,ς,λv e=>(a v e).same sm,h1,h2,g'.hls,g'.hh,g.h2,g.hn,λx hx=>by
  obtain rfl|hx:=aaB.mp hx
  .show λz=>g.nl.2.2 x z h
  .show g.nF x (abF _ hx),g.old,g'.sm,g.ha]
def ϝ.uJ(g:ϝ mg A c hd d r s b hl fr v cs mo os t rs all H0 k H B sn i mk ms hs xs)(hi:i<=1000):qG B:=by
 let#[ds,hh]:=g.hi;let hn:=hh.now;let a:=g.dk.now;show hh.uJ ()
def ϝ.back(g:ϝ mg A c hd d r s b hl fr v cs mo os t rs all H0 k H B sn i mk ms hs xs)(a:B.known<=mo):il B.rows (B.done.drop ((mo:Int)-B.known).toNat)/\(bO B mo).Perm rs/\((bO B mo).map Prod.fst).Nodup:=by
 let#[ds,hh]:=g.hi;let#[h1,h2]:=g.ha;have:=M9 hh (mo:=mo) (by rw[abp];omega) a;rw[List.take_left' h1, <-h2]at this;show this
def ϝ.uniq(g:ϝ mg A c hd d r s b hl fr v cs mo os t rs all H0 k H B sn i mk ms hs xs)(f:Line cs os ls)(e:ls.Perm (rs.filter λr=>bw r.2 t))(j:B.known<=mo)(h1:Line B.heads os a)(h2:a.Perm ((bO B mo).filter λr=>bw r.2 t)):a=ls:=by
 rw[g.dk.heads]at h1;show(Lz g.C.li.inc (λr l=>(g.C.fit r ((g.C.mem e).2 r l)).1) ((e.trans ((g.back j).2.1.filter _).symm)<|>h2.symm) f h1).symm
def ϝ.ins(g:ϝ mg A c hd d r s b hl fr v cs mo os t rs all H0 k H B sn i mk ms hs xs)(tb:H0 (dh K "sorted_by")=↑(.tbl jZ))(hi:i<=1000)(n1:1<=n)(n2:n<=100):jK K mg H A B os t mo n:=by
 let#[ds,hh]:=g.hi;let h1:=g.ha.1;let hl:=g.dk.len;let e:↥nM=28:=rfl;let dl:=g.dk.dl;let hn:=hh.now;let f:=g.dk.now;let r60:=g.C.r60;rw[abp]at hn;show#[#[g.st.bk,g.uJ hi,(),(),(),λj=>?_],by rw[g.dk.heads];show g.C.li,n1,n2,g.sm<*tb];let#[l,a,m]:=g.back j;show#[l,by rw[a.length_eq];omega,m,λr p=>?_];rw[g.dk.heads];show g.C.fit r (a.mem_iff.mp p)
end
end
end _K
namespace _K
open PySem _L PyProof.Rows _M _V _W
section
variable{P:Ϯ}{w:ϭ}{K:Ϩ}{mg:MG}{base:ϫ}
abbrev Dc(a c ba d b hd fr:δ)(o7 o8:Option V)(hl mk:δ)(n:Int)(wB iV oK pN qz pI pP oN:Option V):_L.St:=[↑(.ref a),↑(.ref c),↑(.ref ba),↑(.ref d),↑(.ref b),↑(.ref hd),↑(.ref fr),o7,o8,↑(.ref hl),↑(.ref mk),↑(.int n),wB,iV,oK,pN,qz,pI,pP,oN]
def Wm(mg:MG)(a c e d b hd fr r s hl:δ)(v:V)(cs:List ι)(mo:Nat)(os:List Ord)(t:Tr)(rs:List Row)(all:List bf)(H:Hp)(k:Nat)(σ:_L.St)(H':Hp):=∃f g j l m n p q u x A B sn i mk ms hs xs,A.b=e/\σ=Dc a c e d b hd fr f g hl mk B.known j l m n p q u x/\i<=28+2*k/\ϝ mg A c hd d r s b hl fr v cs mo os t rs all H k H' B sn i mk ms hs xs
def ahi(T:Txt K mg)(hN:fO K mg base "sorted_by")(F:dm K "law" "law" iH f fd):dF P w K mg base (cJ P w) true 60 f fd ["_law_script"] (Dj K "sorted_by" jZ):=by
 show yE F O2 (λvs H Q E h=>by let#[a,ns,rfl,_]:=h;rfl) (λϺ A' outer s0 H vs Q E R h=>?_);let#[a,ns,rfl,U,hl,aE,q]:=h;let nd:=O2.nd;let hu:=R.units;let a8:_+1<cLine:=aet (agC (by decide:1<=64) _) R.units;let n1:=T.jT;let n2:=T.qj;let n3:=T.bz;let n4:=T.Bs;let hsz:=ϯ;let aX:(["_law_found","_law_due"]:List Str).Nodup:=by fin2
 let D0:=!iC;let D1:=!J5;let D2:=!DQ;let D3:=!Lp;let D4:=!uY;let D5:=!yF;let D6:=!Eb;let D7:=!Hs;let D8:=!yQ;let D9:Def P w K mg base true 20 "_law_first" ["_law_columns_here","_law_head","_law_line_here","_law_state","_law_book","_law_size"] (Lq K mg):=Fo T hN;let D10:=!Kw;let D11:=!Fd;let D12:=!Hj;let MB:=(ald (P:=P) (w:=w) (base:=base) T).make T.ajh T.aos;let a9:=aga U;let Ko:∀{A:BA},∀x∈A.fp,x∈A.six:=λ{A} x hx=>QZ hx;k_go;show#[a,ns,rfl,U,hl,λc cs H1 s1 hc0 hC hok=>?_];let#[c1,c6]:=lG hok;let#[cv,ec,ba]:=id hC;w_up;f_tup;show pB MB R (by decide) (λ_=>rfl) Ϝ ?_>>=iG (.inl (η.of ec)) λlc bb=>?_
 let#[s5,PB,H1,lc,H5]:=Ο bb (.lst cv);let bc:Χ H5 lc cs:=#[cv,PB,ba.imp λu k z=>by let#[t,e,h]:=z;show#[t,e,s5<*h]];lk;intro y dx hy aH Ϲ;let qQ:ζ H5 (upd (upd H5 dx (.own y)) y (.ins (cB mg) dx [])):=λb u e=>by
  rw[θ (λz=>by rw[z,hy]at e;cases e),θ (λz=>by rw[z,aH]at e;cases e)];show e
 show#[y,dx,lc,cs,rfl,ς,by rw[θ Ϲ,ς],bc.same qQ,hok,λH6 A eb Ls f1 f2 f3 f4 o6 k6=>?_];let#[W,fr]:=made hy aH eb Ls f1 f2 f3 f4 o6;subst eb;show#[rfl,?_];let rY:=s5<|>W;let lX:=s1<|>rY;let Mh:∀x∈A.six,H1 x=none:=λx hx=>s5.free (fr x hx)
 let bd:c∉A.fp:=λz=>by
  have:=Mh c (Ko c z);rw[ec]at this;cases this
 let CQ:(∀H',η K H' a (ns.map V.int))\/a∉A.fp:=by
  obtain z|z:=a9
  .show .inr λy=>z (s1.free (Mh a (Ko a y)))
  .show .inl z
 k_go;show#[a,ns,15,9,rfl,lX.seq U,hl,by decide,by decide,by decide,?_];let g0:=aV ns 15 (m:=9) (by decide);let g1:=bh ns 15 (m:=9) (by decide);generalize ϒ ns 15 9=mv at g0 g1⊢;let#[many,rfl]:=abz g0;lk;show#[λB=>B.known=0/\∃all,gW all B,A,a,c,ns,many,cs,rfl,lX.seq U,hl,(),hC.same rY,bd,CQ,hok,k6,#[rfl,[],#[rfl,rfl,rfl,#[aur _,aur _],(λj d e=>by simp at e),λi=>by simp[Μ]]],(λB row o al _ hj=>#[hj.1,_,hj.2.choose_spec.abw row o al]),λd r s B sn i0 H7 be bg bi o7 rT Q3 jE hi1 hi2 hj=>?_];let#[bn,all,g]:=hj;let old:∀x∈d::r::s::A.fp,H1 x=none:=λx hx=>by
  let J:x=d\/x=r\/x=s\/x∈A.fp:= ~~~hx
  obtain rfl|rfl|rfl|z:=J
  .show rY.free be
  .show rY.free bg
  .show rY.free bi
  .show Mh x (Ko x z)
 let Gv:ζ H1 H7:=λb' u e=>o7 _ _ (λz=>by rw[old b' (by simp[z])]at e;cases e) (rY<*e)
 let xP:=s1<|>Gv;let QF:=hC.same Gv;let aI:=jE.now;let am:↥all=i0:=by have:=g.now;omega
 k_go;show#[a,ns,20,c,cs,rfl,xP.seq U,hl,by decide,by decide,QF,hok,λb os H8 s8 bo hO rC af bp=>?_];let bq:=rT.same s8;k_go;show cj a8 (wz bq.st) ?_>>=#[a,ns,30,c,cs,rfl,(xP<|>s8).seq U,hl,by decide,by decide,QF.same s8,c1,c6,λv t H9 s9 br ar aR=>?_];lk;rw[aI];show#[Ε,λhd kZ=>?_];let#[xH,aS]:=Ο kZ (.tup [.str (bB false),.int ((i0:Nat):Int),.ref b,v]);change Η _ _ _ _ (upd H9 hd (.tup [.str (bB false),.int ((i0:Nat):Int),.ref b,v]));generalize upd H9 hd (.tup [.str (bB false),.int ((i0:Nat):Int),.ref b,v])=pU at xH aS⊢;let Gw:=s9<|>xH;let Ww:=s8<|>Gw;let Cg:=Gv<|>Ww;let Cy:=s1<|>Cg;let#[CZ,hdp]:=QJ (cs:=cs) ar;let li:jq cs os t i0:=#[hok,rC,af,bp,aR,(),CZ,()];let fM:=rT.same Ww;let yK:∀x∈d::r::s::A.fp,pU x≠none:=λx hx e=>by
  let#[o,z,_]:=fM.live x hx;rw[e]at z;cases z
 let hrl:=jE.len;let h28:↥nM=28:=rfl;let qd:∀r∈B.rows,ϛ cs r/\0<=r.1/\r.1<=1000000000:=λr R=>#[jE.ok r R,agL r.1 (jE.keys _ (as8 (f:=Prod.fst) R))]
 k_go;show#[d,r,s,B.now,_,B.rows,rfl,fM.st,(Ω.ne Q3).1,fM.ro,jE.nd,(),λfr Ϸ vX jG zG av bt=>?_];let aT:=Cy<|>jG;let a0:fQ vX Ϸ B.rows:=bt.imp λa x z=>by
  let#[e,l,e2,e3,_]:=z;show#[e,l,e2,e3]
 let ab:fu c hd fr b v vX cs i0 os t B.rows:=#[jG<*aS,hC.same (Cg<|>jG),hO.same (Gw<|>jG),br.same (xH<|>jG),ar,li,#[Ϸ,av,a0],jE.nd,(),qd];k_go;show#[a,ns,18,3,rfl,aT.seq U,hl,by decide,by decide,by decide,?_];lk;let e0:=aV ns 18 (m:=3) (by decide);let e1:=bh ns 18 (m:=3) (by decide);generalize ϒ ns 18 3=kn at e0 e1⊢;let#[X,rfl]:=abz e0;rw[show(1:Int)+(X:Nat)=((X+1:Nat):Int)by omega];k_go;show Β (ξ.of ab.hd) (i:=3) rfl ?_>>=#[c,b,fr,v,t,Ϸ,cs,os,B.rows,rfl,ab.co,hok,ab.or,rC,af,ab.sv,ar,aR,av,a0,jE.nd,(),λr R=>(qd r R).1,λln lw ls HQ O ak1 fD bv rK Ϥ=>?_];let hA:ρ (aO HQ) lw ls:=bv.imp λu r z=>z.row O
 let rP:=hA.len;let Y:=ab.same O;let bE:=aT<|>O;let kZ:=jE.heads;let bG:=(fM.same (jG<|>O)).bk;let Np:B.known<=(i0:Nat)->il B.rows (B.done.drop ((i0:Int)-B.known).toNat)/\(bO B i0).Perm B.rows/\((bO B i0).map Prod.fst).Nodup:=λhk=>by
  have:=M9 g (mo:=i0) () hk;rw[<-am,ahs, <-g.rows,am]at this;show this
 let hdl:=jE.dl;let bI:jK K mg HQ A B os t i0 (X+1):=#[#[bG,g.uJ (),(),(),(),λhk=>by
  let#[u1,u2,u3]:=Np hk;show#[u1,by rw[u2.length_eq];omega,u3,λr R=>by rw[kZ];show qd r (u2.mem_iff.mp R)]],by rw[kZ];show li,(),(),bE<*aE]
 k_go;show#[A,B,c,hd,ln,b,_,v,i0,X+1,os,t,ls,lw,rfl,by rw[kZ];show Y.ins Ϥ fD hA,bI,aI,λl2 h1 h2=>by rw[kZ]at h1;show(Lz af (λr R=>(qd r ((Y.mem Ϥ).2 r R)).1) ((Ϥ.trans ((Np ()).2.1.filter _).symm)<|>h2.symm) rK h1).symm,λtp pf Z HB qK rO aa ac=>?_];rw[kZ]at aa ac;let#[fL,yL]:=Oc (mo:=i0) (t:=t) li (Y.Gp Ϥ rK) (λr R=>(qd r ((Y.mem Ϥ).2 r R)).2) (show 1<=X+1 by omega) (.inl #[rfl,rfl]:pO cs os true .start);generalize lA i0 os (sT cs t) ↥ls (cZ true cs os ls .start (X+1))=L0 at aa ac fL yL;lk;show#[Ε,λh0 vP=>?_];let#[gD,ph]:=Ο vP (.lst [.ref tp]);change Η _ _ _ _ (upd HB h0 (.lst [.ref tp]));generalize upd HB h0 (.lst [.ref tp])=H14 at gD ph⊢;let Hv:=((jG<|>O)<|>qK)<|>gD;let bP:=Cy<|>Hv;k_go;show#[a,ns,50,c,cs,rfl,bP.seq U,hl,by decide,by decide,hC.same (Cg<|>Hv),c6,λvp ys yq bQ aqH Cw bS=>?_]>>=#[Ε,λt5 bT=>?_];let Ma:ζ yq (upd yq t5 (.tup [.int 5,.ref vp])):=ζ.upd bT;let YC:(upd yq t5 (.tup [.int 5,.ref vp])) t5=↑(.tup [.int 5,.ref vp]):=ς;generalize upd yq t5 (.tup [.int 5,.ref vp])=yp at Ma YC⊢;lk;show#[Ε,λt6 bX=>?_];let Bm:ζ yp (upd yp t6 (.tup [.str (">":Str),.ref t5])):=ζ.upd bX;let V5:(upd yp t6 (.tup [.str (">":Str),.ref t5])) t6=↑(.tup [.str (aW false),.ref t5]):=ς;generalize upd yp t6 (.tup [.str (">":Str),.ref t5])=lW at Bm V5⊢;lk;show#[Ε,λpm ag=>?_];let jy:=(bQ<|>Ma)<|>Bm;let wK:=Hv<|>jy;let nH:pU h0=none:=((jG<|>O)<|>qK).free vP;let b0:h0∉d::r::s::A.fp:=λz=>yK h0 z nH
 let b1:∀x∈h0::d::r::s::A.fp,H x=none:=λx hx=>by
  obtain rfl|hx:=aaB.mp hx
  .show Cy.free nH
  .show s1.free (old x hx)
 let nq:∀{p:δ}{L:aU},d8 (d::r::s::A.fp) cs HB p L->d8 (h0::d::r::s::A.fp) cs lW p L:=λ{p L} h=>by
  let#[q,us,g1,g2,g3,g4]:=h;let Ih:=gD<|>jy;show#[q,us,Ih<*g1,Ih<*g2,λz=>?_,g4.imp λu r z=>z.same Ih];obtain z|z:=aaB.mp z
  .rw[z,vP]at g2;cases g2
  .show g3 z
 let a1:∀x∈d::r::s::A.fp,HQ x≠none:=λx hx e=>yK x hx ((jG<|>O).free e)
 let b2:rM (h0::d::r::s::A.fp) cs lW (.ref tp) (.inl L0):=#[tp,pf,Z,rfl,(gD<|>jy)<*rO,#[nq (d8.new aa a1),fL,yL],#[nq (d8.due ac a1),fL,yL]];let XN:gC lW cs (.ref t6):=#[t6,false,.ref t5,(5,ys),rfl,V5,#[t5,vp,rfl,Bm<*YC,(Ma<|>Bm)<*Cw],bS,by show(0:Int)<=5;decide,by show(5:Int)<=1000000000;decide];let b3:=((qK<|>gD)<|>jy) _ _ fD;let b4:ρ (aO lW) lw ls:=hA.imp λu r z=>z.same ((qK<|>gD)<|>jy)
 let b5:=Y.same ((qK<|>gD)<|>jy);let a2:∀(ms:List V)(H':Hp),ζ lW H'->H' pm=↑(.lst ms)->(∀v∈ms,gC H' cs v)->1<=↥ms->↥ms<=2->ϝ mg A c hd d r s b h0 fr v cs i0 os t B.rows all H 0 H' B sn i0 pm ms [.ref tp] [.inl L0]:=λms H' sm qC aw b6 hm2=>by
  let st:=((fM.add nH).same wK).same sm;show#[b5.same sm,st,#[Q3.nd,λx hx=>abF _ hx],jE,#[[],by rw[alR];show g],qC,aw,b6,(),sm<*(jy _ _ ph),.cons (b2.ou #[.of sm,λx hx ys e=>?_,λl hl x xs e=>?_] c1 λy h _=>h) .nil,Ϭ _,λz=>?_,λx hx z=>?_,b1,(Cy<|>wK)<|>sm,am,g.rows]
  .obtain rfl|hx:=aaB.mp hx
   .rw[jy<*ph]at e;cases e
   .show(fM.same wK).nl.1 x hx ys e
  .obtain rfl|hl:=aaB.mp hl
   .rw[jy<*ph]at e;cases e;show#[_,rfl]
   .show(fM.same wK).nl.2 l hl x xs e
  .let z':h0∈d::r::s::A.fp\/h0∈A.six:=by
    simp only[aaB]at z⊢;obtain z|z|z|z:=z
    .show .inl (.inl z)
    .show .inl (.inr (.inl z))
    .show .inl (.inr (.inr (.inl z)))
    .show .inr z
   obtain z|z:=z'
   .show b0 z
   .show fM.bk.ZQ h0 z nH
  .let#[_,eb,_]:=hO;let J:x=pm\/x=c\/x=b\/x=fr:= ~~~hx
   let Ϲ:x≠h0:=λy=>by
    rw[y]at J;obtain y|y|y|y:=J
    .have :=jy _ _ ph;rw[y,ag]at this;cases this
    .rw[y,Cg<*ec]at nH;cases nH
    .rw[y,Gw<*eb]at nH;cases nH
    .rw[y,(O<|>qK)<*av]at vP;cases vP
   let zF:=(aaB.mp z).resolve_left Ϲ;obtain y|y|y|y:=J
   .show yK x zF (by rw[y];show wK.free ag)
   .have :=old x zF;rw[y,ec]at this;cases this
   .let#[o,z2,_]:=rT.live x zF;rw[y,bo]at z2;cases z2
   .show yK x zF (by rw[y];show zG)
 let b9:t.dep<=20:=()
 let D13:Def P w K mg base true 55 "_law_asked" ["_law_book","_law_own","_law_size","_law_forth"] (Jw K mg t):=Kz T hN t b9;let ah:∀(ms:List V)(H':Hp),ϝ mg A c hd d r s b h0 fr v cs i0 os t B.rows all H 0 H' B sn i0 pm ms [.ref tp] [.inl L0]->Η (fX true P w K mg base yw "law" (υ iH) f Ϻ A' outer s0 H E) ((ϓ iH).drop 11) {nx:=λ_ H'=>Q .non H',rt:=Q} [↑(.ref a),↑(.ref c),↑(.ref A.b),↑(.ref d),↑(.ref b),↑(.ref hd),↑(.ref fr),↑(.int ((X+1:Nat):Int)),↑(.ref ln),↑(.ref h0),↑(.ref pm),none,none,none,none,none,none,none,none,none] H':=by
  intro ms H' G;k_go;w_up;show pR (by walk_at"po") (by rfl) (by rfl) n2 (by rfl) ?_>>=#[a,ns,13,5,rfl,G.sm.seq U,hl,by decide,by decide,by decide,?_];lk;let d0:=aV ns 13 (m:=5) (by decide);let d1:=bh ns 13 (m:=5) (by decide);generalize ϒ ns 13 5=cc at d0 d1⊢;let#[m0,rfl]:=abz d0;rw[show(2:Int)+(m0:Nat)=((m0+2:Nat):Int)by omega];show#[(),(),Wm mg a c A.b d b hd fr r s h0 v cs i0 os t B.rows all H,#[_,_,none,none,none,none,none,none,none,none,A,B,sn,i0,pm,ms,_,_,rfl,by rw[bn];rfl,(),G],λk σ' H' hk hP=>?_,λσ' H' hP=>?_]
  .let#[o7,o8,wB,iV,oK,pN,qz,pI,pP,oN,A1,B1,Sh,i1,mk,iM,M,f9,eA,rfl,hi,G]:=hP;let hk6:k<6:=by have:=hk;omega
   show ω nd ?_;w_up;show pR (by walk_at"po") (by rfl) (by rfl) n2 (by rfl) ?_>>=#[a,ns,70+9*(k:Nat),3,rfl,G.sm.seq U,hl,(),(),by decide,?_];let w0:=aV ns (70+9*(k:Nat)) (m:=3) (by decide);let w1:=bh ns (70+9*(k:Nat)) (m:=3) (by decide);generalize ϒ ns (70+9*(k:Nat)) 3=cc at w0 w1⊢;let#[m1,rfl]:=abz w0;show#[(m1:Nat),rfl,(),(),λj σ H'=>∃iV B2 rW,σ=Dc a c A.b d b hd fr o7 o8 h0 mk B1.known ↑(.int (k:Nat)) iV oK pN qz pI pP oN/\B2.known=B1.known/\ϝ mg A1 c hd d r s b h0 fr v cs i0 os t B.rows all H k H' B2 rW (i1+j) mk iM M f9,#[_,B1,Sh,rfl,rfl,G],λj σ' H2 hj hP=>?_,λσ' H2 hP=>?_]
   .let#[iV,B2,rW,rfl,ax,I]:=hP;let hj2:j<m1:=by have:=hj;omega
    let ap5:=I.dk.sl;show ω nd ?_;f_len;show aD ?_>>=#[h0::d::r::s::A1.fp,A1,B2,a,c,d,r,s,ns,1000+40*(k:Nat)+16*(j:Nat),rW,by rw[eA],I.sm.seq U,hl,(),(),by rw[I.dk.heads];show I.C.co,by rw[I.dk.heads];show c6,I.st,I.ap,I.nl.2.2,I.dk.small () (by decide),I.dk.wf,(),I.dk.get,λrow o H3 a3 al yV o5 za=>?_]*>#[_,aP B2 row o,_,rfl,ax,I.deed a3 al yV o5 za]
   let#[iV,B2,rW,rfl,ax,I]:=hP;rw[show((m1:Nat):Int).toNat=m1 from aqZ _]at I;let rest:∀(D:Ends)(A3:BA)(B3:Bk)(H3:Hp),A3.b=A.b->ϝ mg A3 c hd d r s b h0 fr v cs i0 os t B.rows all H k H3 B3 rW (i1+m1) mk iM M f9->(∀a4 H2,Wm mg a c A.b d b hd fr r s h0 v cs i0 os t B.rows all H (k+1) a4 H2->D.nx a4 H2)->Η (fX true P w K mg base yw "law" (υ iH) f Ϻ A' outer s0 H E) ((GZ ((ϓ iH).drop 12)).drop 2) D (Dc a c A.b d b hd fr o7 o8 h0 mk B3.known ↑(.int (k:Nat)) iV oK pN qz pI pP oN) H3:=by
    intro D A3 B3 H3 e3 S ca;let gm1:=S.m1;let gm2:=S.m2;let cb:=S.h2;let cd:η K H3 mk iM:=η.of S.ml;k_go;show#[a,ns,71+9*(k:Nat),4,rfl,S.sm.seq U,hl,(),(),by decide,?_];let x0:=aV ns (71+9*(k:Nat)) (m:=4) (by decide);generalize ϒ ns (71+9*(k:Nat)) 4=dr at x0⊢;let#[dn,rfl]:=abz x0;lk;show u9 ?_;rw[show(if(↥iM:Nat)-1-((dn:Nat):Int)>0 then(↥iM:Nat)-1-((dn:Nat):Int)else 0)=((↥iM-1-dn:Nat):Int)by split <;>omega];obtain⟨at_,ce⟩:∃n,↥iM-1-dn=n:=#[_,rfl];rw[ce];let cf:at_<↥iM:=()
    k_go;show#[a,ns,74+9*(k:Nat),rfl,S.sm.seq U,hl,(),(),λnz a5 hn2=>?_];let#[n,rfl]:=abz (show 0<=nz by omega);k_go;show#[a,ns,76+9*(k:Nat),3,rfl,S.sm.seq U,hl,(),(),by decide,?_];lk;generalize decide (0<ϒ ns (76+9*(k:Nat)) 3)=fo;w_up;show fV ?_;lk;let hx:iM[at_]?=↑iM[at_]:=ϳ cf;let#[tk,sd,u,r0,ci,ck,qt,zG,uw,vz]:=S.mm _ (aa0 hx);rw[ci]at hx;show ύ cd (ϔ hx) ?_>>=#[c,hd,fr,b,tk,_,v,u,cs,i0,n,fo,sd,os,t,B.rows,r0,rfl,S.C,ck,qt,zG,uw,vz,(),(),λpt Z cm l1 oE H5 s5 X6 FJ zc ac cn cp cq qJ=>?_];obtain⟨zm,rD⟩:∃zm,ak false i0 os (sT cs t) ↑(.at_ sd (Ν cs os r0.2) r0.1)=.str zm:=#[_,rfl];rw[rD]at zc;show aj (ξ.of zc) ?_
    iterate 3 show Ι (ω nd ?_)
    show ao ?_;let G5:=S.same s5;let ai:=cV zG af;let ay:=S.dk.heads;let id':∀y,y∉h0::d::r::s::A3.fp->H5 y≠none->y∉h0::d::r::s::A3.fp:=λy h _=>h
    let fin:∀(pf Z ae:δ)(x:aU ⊕ Int)(oE:List V)(H6:Hp),ζ H5 H6->gk (h0::d::r::s::A3.fp) cs H6 pf x->gk (h0::d::r::s::A3.fp) cs H6 Z x->H3 ae=none->H6 ae=↑(.lst oE)->(∀v∈oE,gC H6 cs v)->↥oE<=2->Η (fX true P w K mg base yw "law" (υ iH) f Ϻ A' outer s0 H E) ((GZ ((ϓ iH).drop 12)).drop 8) D (Dc a c A.b d b hd fr ↑(.int (n:Nat)) o8 h0 mk B3.known ↑(.int (k:Nat)) iV ↑(.int (at_:Nat)) ↑(.bl fo) ↑(.str zm) ↑(.ref Z) ↑(.ref ae) ↑(.ref pf)) H6:=by
     intro pf Z ae x oE H6 W h1 h2 cr xq aw qJ;let G6:=G5.same W;w_up;show aD (b7 PySem.F.plainAttrs_list PySem.F.slot_list_append PySem.F.type_list_append (h:=?_));f_are;show#[.inl #[rfl,_,η.of G6.hls],?_]>>=#[Ε,λtp cw=>?_];let#[s7,e7,H6,tp,H7]:=Ο cw (.tup [.ref pf,.ref Z]);let G7:=G6.same s7;let u7:Ou (h0::d::r::s::A3.fp) H6 H7:=#[.of s7,G6.nl.1,G6.nl.2.1];let ZL:=h1.ou u7 c1 λy h _=>h
     let Qt:=h2.ou u7 c1 λy h _=>h
     lk;show dH jz #[h0,M,_,rfl,rfl,G7.hls,(),?_];let G8:=G7.held (w:=.ref tp) (x:=x) #[tp,pf,Z,rfl,e7,ZL,Qt];let u8:Ou (h0::d::r::s::A3.fp) H7 (upd H7 h0 (.lst (M++[.ref tp]))):=#[Out.upd (by simp),G7.nl.1,G7.nl.2.1];generalize upd H7 h0 (.lst (M++[.ref tp]))=H8 at G8 u8⊢;let#[cx,ly,dp]:=(ZL.ou u8 c1 λy h _=>h).rd (K:=K);let#[cy,_,_]:=(Qt.ou u8 c1 λy h _=>h).rd (K:=K);w_up;show Λ ?_>>=ad3 hu cx cy ly ly (ad7 dp (by decide)) ?_;rw[SeqAt.eqv_refl _ ly];lk;show Δ ?_;f_len;f_tup;lk;show zr G8.ml (u8.o _ _ (λz=>S.nl.2.2 ae z cr) (s7<*xq)) () λnm cA=>?_
     let G9:=G8.marks (ns:=iM++oE) cA (λv hv=>by
      obtain z|z:=adH.mp hv
      .show G8.mm v z
      .show((aw v z).same s7).ou u8 c1) (by rw[abp];omega) (by rw[abp];omega)
     show ca _ _ #[_,_,_,_,_,_,_,_,_,_,A3,B3,rW,i1+m1,nm,_,_,_,e3,rfl,(),G9]
    k_go;let C5:=G5.C;show#[A3,B3,os,i0,n,sd,Ν cs os r0.2,r0.1,fo,by rw[e3,ay,rD],G5.ins aE () () (),by rw[ay];show ai,uw,vz,λhg p H6 W cE=>?_,λcK cO l2 H6 W cS cY aa=>?_]
    .w_up;show Λ ?_>>=Β (ξ.of (W<*C5.hd)) (i:=1) rfl ?_>>=Α (λ_=>?_) (λh=>absurd hg ());k_go;show#[Ε,λt8 c0=>?_];let#[s8,e8]:=Ο c0 (.tup [.str nR,.int B3.known]);change Η _ _ _ _ (upd H6 t8 (.tup [.str nR,.int B3.known]));generalize upd H6 t8 (.tup [.str nR,.int B3.known])=H8 at s8 e8⊢;f_len;f_tup;lk;show#[Ε,λp9 a6=>?_];let s9:=ζ.upd (o:=.lst []) a6;show fin p t8 p9 (.inr B3.known) [] _ ((W<|>s8)<|>s9) ((s8<|>s9)<*cE) (s9<*e8) (((s5<|>W)<|>s8).free a6) ς (λv hv=>by cases hv) (aeG _)
    .let els:=S.uniq X6 FJ cK cS cY;subst els;rw[ay]at aa;w_up;show Λ ?_>>=Β (ξ.of (W<*C5.hd)) (i:=1) rfl ?_>>=Α (λh=>absurd h ()) (λ_=>?_)*>Δ ?_;let#[fL,yL]:=Oc (mo:=i0) (t:=t) li (S.C.Gp FJ X6) (λr R=>(qd r ((S.C.mem FJ).2 r R)).2) (show 1<=n by omega) (.inr (.inr #[_,_,_,rfl,ai,uw,vz]):pO cs os fo (.at_ sd (Ν cs os r0.2) r0.1));show fin cO Z cm (.inl _) oE H6 W #[d8.new aa G5.nl.2.2,fL,yL] #[d8.due (ac.same W) S.nl.2.2,fL,yL] cn (W<*cp) (λv hv=>(cq v hv).same W) qJ
   k_go;show#[A1,B2,a,d,r,s,ns,77+9*(k:Nat),by rw[eA,ax],I.sm.seq U,hl,(),(),I.st.st,I.st.bk,I.uJ (),?_,λx d' H3 hx hn c2 o3 k3=>?_]
   .show rest _ A1 B2 H2 eA I λ_ _ z=>z
   .show rest _ {A1 with d:=d'} _ H3 eA (I.go hx hn c2 o3 k3) λ_ _ z=>z
  .let#[o7,o8,wB,iV,oK,pN,qz,pI,pP,oN,A1,B1,Sh,i1,mk,iM,M,f9,eA,rfl,hi,G]:=hP;let hhl:=G.hh.len;let cb:=G.h2;symm;lk;show jd ["_law_found","_law_due"] (σ':=[none,none]) (bA (υ iH)) ?_>>=#[h0,M,rfl,η.of G.hls,(),λτ=>∃o1 o2,τ=[o1,o2],λE2 j u H2=>∃p x,f9[j]?=↑x/\u=.ref p/\gk (h0::d::r::s::A1.fp) cs H' p x,#[none,none,rfl],λE2 j u H8 H9 ys _ _ p=>p,λfp E2 C s9 H8 j τ x H6 H7 aQ hi aC vy c3 hG=>?_,λp1 H6 us1 hp1 c4 c5 ni sa=>?_]
   .let#[o1,o2,rfl]:=aC;let#[au,rfl]:=hG;let#[x',J,t1,pf,Z,rfl,et,h1,h2]:=G.hh.get au;show aj (ξ.of (vy<*et)) (Ι (ω aX (Ι (ω aX (ao ?_)))))>>=#[#[_,_,rfl],#[pf,x',J,rfl,h1],ζ.refl _]
   lk;show jd ["_law_found","_law_due"] (σ':=[none,none]) (bA (υ iH)) ?_>>=#[h0,M,rfl,η.of (sa<*G.hls),(),λτ=>∃o1 o2,τ=[o1,o2],λE2 j u H2=>∃p x,f9[j]?=↑x/\u=.ref p/\gk (h0::d::r::s::A1.fp) cs H' p x,#[none,none,rfl],λE2 j u H8 H9 ys _ _ p=>p,λfp E2 C s9 H8 j τ x H7 H9 aQ hi aC qM c3 hG=>?_,λp2 H7 us2 hp2 ϻ c8 JH sb=>?_]
   .let#[o1,o2,rfl]:=aC;let#[au,rfl]:=hG;let#[x',J,t1,pf,Z,rfl,et,h1,h2]:=G.hh.get au;show aj (ξ.of ((sa<|>qM)<*et)) (Ι (ω aX (Ι (ω aX (ao ?_)))))>>=#[#[_,_,rfl],#[Z,x',J,rfl,h2],ζ.refl _]
   let Uh:∀{us:List V},↥us=↥M->(∀j u,us[j]?=↑u->∃p x,f9[j]?=↑x/\u=V.ref p/\gk (h0::d::r::s::A1.fp) cs H' p x)->cC K H' us (f9.map dY)/\PyData.canLayAll0 (f9.map dY)=true/\PyData.depthAll (f9.map dY)<=8:=λ{us} hlen hx=>akf (kh () λj x a7=>by
    let hj:j<↥us:=by have:=(aav.mp a7).1;omega
    let#[p,x',h1,h2,h3]:=hx j _ (ϳ hj);rw[a7]at h1;cases h1;show#[_,ϳ hj,p,h2,h3])
   let#[r1,ly,dp]:=Uh c4 c5;let#[r2,_,_]:=Uh ϻ c8;let Gd:(PyData.list (f9.map dY)).canLay0=true:=ly;show K3 (d:=.list (f9.map dY)) (d':=.list (f9.map dY)) hu (.lst (η.of (sb<*ni)) (r1.same (sa<|>sb))) (.lst (η.of JH) (r2.same (sa<|>sb))) Gd Gd (by show PyData.depthAll (f9.map dY)+1<=60;omega) ?_;rw[SeqAt.eqv_refl _ Gd];show q _
 w_up;show Λ ?_;let#[wF,qC]:=Ο ag (.lst [.ref t6]);change ET _ _ _ (upd lW pm (.lst [.ref t6])) _;generalize upd lW pm (.lst [.ref t6])=O8 at qC wF⊢;let c9:η K O8 ln lw:=η.of (wF<*b3);lk;show Α (λh=>?_) (λh=>?_)
 .let a5:X<↥ls:=()
  let#[u,da,qt]:=b4.get' (ϳ a5);f_len;show aD (b7 PySem.F.plainAttrs_list PySem.F.slot_list_append PySem.F.type_list_append (h:=?_));f_are;show#[.inl #[rfl,_,η.of qC],?_]>>=ύ c9 (show Θ lw (((X+1:Nat):Int)-1)=↑u by rw[show((X+1:Nat):Int)-1=((X:Nat):Int)by omega];show ϔ da) ?_>>=#[Ε,λt7 Bd=>?_]>>=dH jz #[pm,_,_,rfl,rfl,(ζ.upd Bd)<*qC,by show 1<ϰ;omega,?_];let#[f1,f2,f3]:=qd ls[X] ((Y.mem Ϥ).2 _ (afz _));let db:t7≠pm:=λz=>by rw[z,qC]at Bd;cases Bd
  let sN:ζ lW (upd (upd O8 t7 (.tup [.str (">":Str),u])) pm (.lst ([.ref t6]++[.ref t7]))):=λx y e=>by
   rw[θ (λz=>by rw[z,ag]at e;cases e)];show(ζ.upd Bd) _ _ (wF<*e)
  show ah<*(a2 _ _ sN ς (λv hv=>?_) (by simp) (by simp));let dc:v=.ref t6\/v=.ref t7:= ~~~hv
  obtain rfl|rfl:=dc
  .show XN.same sN
  .show#[t7,false,u,ls[X],rfl,by rw[θ db,ς];rfl,qt.same sN,f1,f2,f3]
 .show Δ (ah<*(a2 _ _ wF qC (λv hv=>by rw[ack.mp hv];show XN.same wF) (by simp) (by simp)))
end
end _K
theorem PySem.Challenge.cw_turnleaf_k64_a_still_list_turned_holds : PySem.Challenge.rw_turnleaf_k64_a_still_list_turned.Holds := by
 show PySem.Challenge.t0 (by intro P w K mg base a b _ _ c;show _K.ahi a b c)
#print axioms PySem.Challenge.cw_turnleaf_k64_a_still_list_turned_holds
