import PyProof.Rows.All
import Wide.All
import KE.KDictOf
import KE.KFromBytes
import KE.KIntText
import KE.KNestM
import Wide.FinOn
import Lean
import PyProof.EqAt
import PyProof.EqKinds
import PyProof.TupleCall
import PyProof.NeData
import PyProof.ZipIter
import PyProof.WalksEnum
import PyProof.Rows.SetFrom
import PyProof.StrLawsTight
import PyProof.StrLawsChain
import PyProof.StrCalls2
import PyProof.ListStr
import PyProof.Rows.StrOrd
import KE.KRevIter
import PyProof.ExcInit
import PyProof.InstStoreFacts
import PyProof.ExcArgs
import PyProof.ExcAttrAll.ValueError
import PyProof.NsDelKeeps
import PyProof.RulesAs
import OpenK.KCls
import PyProof.Rows.TupAssign
import PyProof.StrLawsIn
import KE.KDictSum
import PyProof.DictWalks
import PyProof.Rows.CountFlat
import KE.KTryMore
import KE.KxWritten
import KE.KStrOpen
import KE.KSortTup
import KE.KNest
import PyProof.FString5
import KE.KDictList
import PySem.Challenge.RW_turnleaf_k82_a_desk_refuses
open PySem renaming Addr->δ,Value->ε,Shared->ν,wpAny_bind->π,wpAny->Ϧ,Stmt->ϧ,model->Ϩ,Expr->Ϫ,Heap->ϫ,World->Ϯ,sizeLine_eq->ϯ,wpAny_pure->ϱ,Program->ϲ,sizeLine->ϳ,Around->ϴ,starEach->acv,wpAny_mono->adK,wpAny_holding->aed,compareOp->aeT,wpAny_standAt->aif,wpAny_truthy_bool->ais,wpAny_loadPart_at->aiQ,Scope->ajd,FuncData->ajR,wpAny_Call_Name_kw->akj,codeAny_mono->akW,wpAny_field->akX,wpAny_setField->amA,codeAny_builtin->amQ,SetTable->anr,wpAny_call->aol,Builtin->aos,swapsWith->aoH,ExceptHandler->aoN,call_meets->ao3,codeAny_call_builtin->ao4,wpAny_isSubtype_exc->apj,wpAny_handleBy_cons->apk,wpAny_passesOwn->apH,PassesOwn->apU,NameKind->aqD
open PySem.Str renaming ofString->μ,join->ϭ,empty->alg,length->asx
open PySem.W renaming Frag->ϩ,findIn->afu,specialIn->ajo,mg_of->alU,emptyDict->anK,mroIn->an5,hasDictIn->aoV,keepIn->ao7,exmOne->ape,kia_one->apq,kitOne->ap9,instObj->aq6,typeIn->ar9,plainGet->asa,takerIn->asd,methodCall_KW->ash,codeIn->asn,looks_findIn->asq,takesIn->asw,readsIn->asA,findCls->asB,plainOver->asD,clsIn->asH,fnOf->asS,callWith_K->asT,InstAt->as5,any_some->as6,subIn->atb,plainGet_of->ate,isFn->atf,looks_clsIn->atg,kitAny->atk,cellsFrom_some->atu,lookIn->atD,exmAny->atE,methodObj->atF,makesIn->atG,findObj->atJ,handedIn->atP,nsIn->atQ,findObj_own->atU,Looks->atV,looks_mroIn->atX,callWith_K0->atY,excIn->aua,notCls->auc
open Nat renaming le_refl->Ϭ,lt_of_lt_of_le->adk,ne_of_lt->adn,le_trans->afG,lt_of_le_of_lt->af6,add_le_add_left->ahC,zero_le->aim,lt_irrefl->alQ,min_eq_left->ama,zero_add->anF,le_add_right->aoB,le_succ->aoW,lt_succ_of_lt->apc,le_of_eq->apS,le_of_lt->arh,sub_zero->ari,min_eq_right->arE,toDigits_ne_nil->asi,ne_of_gt->asm,le_of_ble_eq_true->asO,sub_self->asZ,mul_le_mul_right->as8,lt_succ_self->atr,toDigits->at6,succ_mul->at7
open List renaming length_map->ϰ,getElem?_eq_getElem->aad,getElem?_eq_some_iff->aas,mem_cons->aaT,mem_of_getElem?->abD,mem_singleton->ab7,mem_map->ab9,size_toArray->ace,mem_cons_of_mem->acw,length_cons->acz,getElem?_map->acS,getD_eq_getElem?_getD->ac0,length_append->adz,mem_cons_self->adS,map_cons->adY,mem_append_right->aet,map_map->aeu,all_eq_true->aeN,not_mem_nil->afF,length_singleton->afZ,find?_cons->af3,mem_append->agq,range->agB,toArray->agC,take_of_length_le->agH,lookup_cons->ahj,length_filter_le->ahq,length_drop->ahH,map_append->ahZ,drop_eq_getElem_cons->aie,mem_filter->aiB,append_nil->aiD,nodup_cons->aiG,mem_append_left->aiP,getElem?_append_left->aiZ,take_length->ai0,lookup->ajl,mem_map_of_mem->akd,drop_zero->akR,contains_cons->ak3,getElem_mem->ak7,mem_of_mem_drop->ali,map_congr_left->amo,filter_sublist->amx,drop_eq_nil_of_le->amF,getElem?_append_right->amI,any_eq_true->amJ,ne_nil_of_length_eq_add_one->amV,foldl_cons->anh,length_pos_iff->aoj,length_take->aoz,replicate->aoG,getElem?_set_self->aoO,dropLast_concat_getLast->aoS,getElem?_concat_length->aoX,any_cons->apb,append_assoc->api,filter_cons->apw,drop_length->apA,getElem_of_mem->apQ,mem_filterMap->ap0,length_eq_zero_iff->aqj,sum_cons->aqC,length->aqJ,length_range->aqO,foldl_append->aqT,pairwise_map->aqV,getElem?_eq_none->aro,getElem_inj->arx,drop_append_of_le_length->arK,take_append_of_le_length->arP,getElem?_set_ne->arZ,mem_of_mem_take->ar5,filterMap_cons->asb,forIn_cons->ase,exists_cons_of_ne_nil->asj,filter_append->aso,mem_range->asp,pairwise_iff_getElem->ass,drop_drop->asu,take_succ->asv,nodup_append->asy,take_add_one->asz,mapM_toArray->asC,all_cons->asF,map_id->asG,lookup_eq_none_iff->asJ,drop_of_length_le->asM,range_succ_eq_map->asN,of_mem_zip->asQ,length_replicate->asR,nil_append->asW,range_succ->asY,getElem?_reverse->as3,all_map->as4,forall_mem_cons->as7,forIn_nil->as9,filter_eq_self->atc,zip_cons_cons->atm,pairwise_cons->atn,reverse_perm->atp,cons_append->aty,ext_getElem->atz,all_toArray->atA,nodup_range->atB,length_nil->atH,not_lt->atL,filter_map->atM,lt_irrefl->atO,map->atZ,map_nil->at4
open PySem.Heap renaming get?_push_of_some->aaS,get?_update_other->acH,get?_push_size->acN,lt_size->adw,get?_update_self->afa,get?_none_of_le->alb,SameBut->anE,get?_update_ne->an7,get?_push_ne->aqZ,size_push->asr,size_update->asK,size_after_update->asL,MadeExcOf->ata,get?_push_at->ato
open Bool renaming false_ne_true->abW,and_eq_true->acF,eq_iff_iff->ahT,eq_false_iff->aj1,false_and->aoC,false_eq_true->aqc,or_eq_true->aqg,true_and->aqw,or_false->ath,false_or->atj,not_eq_true->atx,and_false->atN,or_true->at5
open Int renaming eq_ofNat_of_zero_le->aeo,emod_lt_of_pos->ak5,emod_nonneg->anp,emod_eq_of_lt->aq0,le_refl->asI,add_emod->asU,mul_emod->asV,emod_emod->ati,zero_add->atq,mul_zero->at8,add_zero->at9,one_mul->aub
open Option renaming map_eq_some_iff->ahh,isSome_iff_exists->ang,bind_some->arA,getD_none->atv,getD_some->atw
open Array renaming getElem?_setIfInBounds_ne->ahY,getElem?_eq_some_iff->aiM,length_toList->al9,getElem?_eq_none->aoR,getElem?_toList->aoY,toList_append->asf,perm_iff_toList_perm->asl,find?_toList->atd,forIn_toList->atl,getD->atR,toList->at3
open PyProof.Rows renaming subscriptTail_builtinR->aqH
set_option maxHeartbeats 4000000
set_option Elab.async false
set_option linter.all false
set_option compiler.extract_closed false
set_option autoImplicit true
set_option maxRecDepth 100000
section
open PySem PySem.W PyProof.Rows
theorem _Y.mp {α β : Type} {f g : α → β} {L : List α} (n : Nat) (h : (L.take n).map f = (L.take n).map g) (i : (L.drop n).map f = (L.drop n).map g) : L.map f = L.map g := by
  rw [← List.take_append_drop n L, List.map_append, List.map_append, h, i]
theorem _Y.al {α : Type} {p : α → Bool} {L : List α} (n : Nat) (h : (L.take n).all p = true) (i : (L.drop n).all p = true) : L.all p = true := by
  rw [← List.take_append_drop n L, List.all_append, h, i]; rfl
def _Y.tk {α : Type} : List α → Nat → List α
  | [], _ => []
  | _ :: _, 0 => []
  | a :: l, n + 1 => a :: _Y.tk l n
def _Y.dr {α : Type} : List α → Nat → List α
  | [], _ => []
  | a :: l, 0 => a :: l
  | _ :: l, n + 1 => _Y.dr l n
theorem _Y.tke {α : Type} : ∀ (L : List α) (n : Nat), _Y.tk L n = L.take n
  | [], n => by rw [List.take_nil]; rfl
  | _ :: _, 0 => rfl
  | a :: l, n + 1 => by rw [List.take_succ_cons, ← _Y.tke l n]; rfl
theorem _Y.dre {α : Type} : ∀ (L : List α) (n : Nat), _Y.dr L n = L.drop n
  | [], n => by rw [List.drop_nil]; rfl
  | _ :: _, 0 => rfl
  | a :: l, n + 1 => by rw [List.drop_succ_cons, ← _Y.dre l n]; rfl
theorem _Y.li {α : Type} {L M : List α} (n : Nat) (h : L.take n = _Y.tk M n) (i : L.drop n = _Y.dr M n) : L = M := by
  rw [← List.take_append_drop n L, h, i, _Y.tke, _Y.dre, List.take_append_drop]
abbrev _Y.q0 (q : Program) : Program := { q with main := { q.main with body := [] } }
abbrev _Y.l0 (q : Program) (l : List Str) : List Str := looseW q l ++ ((recsOf q).map (·.name) ++ ((litsOf q).map (·.1) ++ (clssOf q (looseW q l)).map (·.name)))
theorem _Y.left {p q : Program} {l : List Str} {Xt : Shared → Bool} {β γ : Type} {Yf : Shared → List β × List γ} {Ya : World → List β × List γ} {N : Nat} (h : LeftO p (_Y.q0 q) (_Y.l0 q l) (fun _ => true)
    (fun s => ((((recsOf q).take 45).map fun d => s.heap.shapeAt mainGlobals d.name, ((recsOf q).drop 45).map fun d => s.heap.shapeAt mainGlobals d.name, (ownsOf q).all fun o => s.heap.ownExcOk o.name o.chain o.bm o.newId && s.heap.quietOk o.name), (s.heap.keysOk (looseW q l) ((recsOf q).map (·.name)) ((litsOf q).map (·.1)) ((clssOf q (looseW q l)).map (·.name)), tablesOk q s.heap, Xt s), (((recsOf q).take 45).all fun d => s.heap.tab0Ok d.name, ((recsOf q).drop 45).all fun d => s.heap.tab0Ok d.name, valsOk q s.heap), (pinSeenD q (drecsOf q) s, (plainSeenE q (looseW q l) s).take 15, (plainSeenE q (looseW q l) s).drop 15, plainSeenD q l s, clsSeenW q l s), ((wideSeen q s).1.take 45, (wideSeen q s).1.drop 45, (wideSeen q s).2), ((Yf s).1.take 270, ((Yf s).1.drop 270).take 270, ((Yf s).1.drop 270).drop 270, (Yf s).2)))
    (fun w => ((((recsOf q).take 45).map fun d => some d.shape, ((recsOf q).drop 45).map fun d => some d.shape, true), (true, true, true), (true, true, true), (pinGoodD (drecsOf q), _Y.tk (plainGoodE q (looseW q l)) 15, _Y.dr (plainGoodE q (looseW q l)) 15, plainGoodD q l, clsGoodW q l), (_Y.tk (wideGood q).1 45, _Y.dr (wideGood q).1 45, true), (_Y.tk (Ya w).1 270, _Y.tk (_Y.dr (Ya w).1 270) 270, _Y.dr (_Y.dr (Ya w).1 270) 270, (Ya w).2 ++ []))) N) : LeftO p q l Xt Yf Ya N := by
  intro w
  have h := h w
  cases e : openEnds treeTable p w N with
  | none => rw [e] at h; cases h
  | some s =>
    rw [e] at h
    have h := Option.some.inj h
    simp only [openSeen, openGood, Prod.mk.injEq] at h
    obtain ⟨⟨a1, a2, a3, a4, _⟩, ⟨b1, b2, b3⟩, ⟨c1, c2, c3⟩, ⟨d1, d2, d3⟩, ⟨e1, e2, e6, e3, e5⟩, ⟨e4, e7, e8⟩, f1, f2, f3, f4⟩ := h
    simp only [Bool.and_eq_true, seen, expectedOf, Seen.mk.injEq, tabsOk] at a1 a3 a4
    obtain ⟨_, _, _, g1, g2, g3, g4⟩ := a1
    obtain ⟨⟨⟨⟨⟨⟨_, i1⟩, i2⟩, i3⟩, _⟩, _⟩, i4⟩ := a3
    obtain ⟨⟨⟨_, j1⟩, _⟩, j2⟩ := a4
    have yy : Yf s = Ya w := Prod.ext (_Y.li 270 f1 (_Y.li 270 f2 f3)) (f4.trans (List.append_nil _))
    have y1 : wideSeen q s = wideGood q := Prod.ext (_Y.li 45 e4 e7) e8
    have k1 : (recsOf q).map (fun d => s.heap.shapeAt mainGlobals d.name) = (recsOf q).map fun d => some d.shape := _Y.mp 45 b1 b2
    have k2 := _Y.al 45 d1 d2
    have j3 : s.heap.noSeerOk = true := by
      rcases Bool.or_eq_true_iff.mp j2 with z | z
      · cases z
      · exact z
    show some (openSeen q l _ Xt true s, Yf s) = some (openGood q l, Ya w)
    rw [yy]
    congr 2
    simp only [openSeen, openGood, Prod.mk.injEq]
    refine ⟨?_, a2, ?_, ?_, e1, _Y.li 15 e2 e6, e3, y1, e5⟩
    · unfold seen expectedOf
      simp only [Seen.mk.injEq, List.map_map]
      exact ⟨k1, b3, rfl, g1, g2, by rw [Bool.and_eq_true]; exact g3, g4⟩
    · simp only [Bool.and_eq_true]
      exact ⟨⟨⟨⟨⟨⟨c1, i1⟩, i2⟩, i3⟩, c2⟩, c3⟩, i4⟩
    · unfold tabsOk
      simp only [Bool.and_eq_true, Bool.or_eq_true]
      exact ⟨⟨⟨k2, j1⟩, d3⟩, .inr j3⟩
theorem PySem.Challenge.PySem.W.holds_open {Z : Prop} {r : OpenRow} {q : Program} {loose : List Str} {Xt : Shared → Bool} {XP : (Str → Option Value) → Heap → Prop} {β γ : Type} {Yf : Shared → List β × List γ} {Ya : World → List β × List γ} {YP : World → Heap → Prop} {d : DefRec} {kwd : List (Str × Expr)} {N : Nat} (a : LeftO r.prog (_Y.q0 q) (_Y.l0 q loose) (fun _ => true)
    (fun s => ((((recsOf q).take 45).map fun d => s.heap.shapeAt mainGlobals d.name, ((recsOf q).drop 45).map fun d => s.heap.shapeAt mainGlobals d.name, (ownsOf q).all fun o => s.heap.ownExcOk o.name o.chain o.bm o.newId && s.heap.quietOk o.name), (s.heap.keysOk (looseW q loose) ((recsOf q).map (·.name)) ((litsOf q).map (·.1)) ((clssOf q (looseW q loose)).map (·.name)), tablesOk q s.heap, Xt s), (((recsOf q).take 45).all fun d => s.heap.tab0Ok d.name, ((recsOf q).drop 45).all fun d => s.heap.tab0Ok d.name, valsOk q s.heap), (pinSeenD q (drecsOf q) s, (plainSeenE q (looseW q loose) s).take 15, (plainSeenE q (looseW q loose) s).drop 15, plainSeenD q loose s, clsSeenW q loose s), ((wideSeen q s).1.take 45, (wideSeen q s).1.drop 45, (wideSeen q s).2), ((Yf s).1.take 270, ((Yf s).1.drop 270).take 270, ((Yf s).1.drop 270).drop 270, (Yf s).2)))
    (fun w => ((((recsOf q).take 45).map fun d => some d.shape, ((recsOf q).drop 45).map fun d => some d.shape, true), (true, true, true), (true, true, true), (pinGoodD (drecsOf q), _Y.tk (plainGoodE q (looseW q loose)) 15, _Y.dr (plainGoodE q (looseW q loose)) 15, plainGoodD q loose, clsGoodW q loose), (_Y.tk (wideGood q).1 45, _Y.dr (wideGood q).1 45, true), (_Y.tk (Ya w).1 270, _Y.tk (_Y.dr (Ya w).1 270) 270, _Y.dr (_Y.dr (Ya w).1 270) 270, (Ya w).2 ++ []))) N) (b : ∀ w s, Yf s = Ya w → YP w s.heap) (c : ∀ w h h', YP w h → (∀ b o, h.get? b = some o → h'.get? b = some o) → YP w h') (e : ∀ s, Xt s = true → XP (s.heap.nsMap mainGlobals) s.heap) (f : ∀ mg h h', XP mg h → (∀ b o, h.get? b = some o → h'.get? b = some o) → XP mg h') (g : defOf q r.name = some (d, kwd)) (i : r.prog.theDef r.name = some (d.params, d.body, d.scope)) (j : kwWritten? d.params.kwonlyargs d.params.kw_defaults = some kwd) (k : ∀ s, Xt s = true → RecFacts r.records s.heap) (l : (!r.writes || r.records.isEmpty) = true) (m : Z ∧ r.wellSaid = true) (n : (chainsOk q && opensWell r.prog && (frees r.toRowW && r.within.isEmpty)) = true) (o : r.prog.bare) (p : r.toRowW.promised) (u : Z → WalkO q loose XP YP r.toRowW d kwd fun f v => PySem.call f v) : r.Holds := _root_.PySem.W.holds_open (_Y.left a) b c e f g i j k l m.2 n o p (u m.1)
end
local macro_rules | `(tactic| walk_at "sc") => `(tactic| exact ⟨rfl, rfl, rfl, by decide +kernel, rfl, by decide +kernel, by decide +kernel⟩)
local macro_rules | `(tactic| omega) => `(tactic| lia)
open Lean in
set_option hygiene false in
local macro_rules(kind:=Lean.Parser.Command.declaration)|s=>do
 let d:=s[1]
 let k:=d[0]
 unless k.isAtom&&k.getPos?.isSome&&s[0][1].getArgs.isEmpty&&s[0][3].getArgs.isEmpty do Macro.throwUnsupported
 let a:=k.getAtomVal
 let g(s:Syntax):MacroM Syntax:=do
  let s:=s.rewriteBottomUp λx=>if x.isOfKind ``Parser.Term.basicFun then x.setArg 0 (mkNullNode (x[0].getArgs.map λy=>if y.isOfKind ``Parser.Term.hole then mkIdent `_x else y)) else x
  if (s.find? (·.isOfKind ``Parser.Tactic.renameI)).isSome then `(set_option tactic.hygienic true in $(⟨s⟩):command) else return s
 let z:=d.setArg 0 (mkAtom a)
 let t:=d[2][1]
 if a=="theorem" then return<-g (s.setArg 1 z)
 if a=="def"&&d[3][1].isOfKind ``Parser.Term.byTactic then
  let mut b:=d[2][0]
  let mut t:=t[0]
  if let`($f:ident $x*):=(⟨t[1]⟩:Term) then if (f.getId==`Def&&x.size==4)||(f.getId==`FD&&x.size==6) then
   b:=mkNullNode (#[(<-`(bracketedBinder|(T:Txt K mg))).raw]++b.getArgs)
   t:=t.setArg 1 (<-`($f P w K mg base true $x*))
  return<-g (s.setArg 1 (mkNode ``Parser.Command.theorem #[mkAtom "theorem",d[1],mkNode ``Parser.Command.declSig #[b,t],d[3]]))
 if a=="def"||a=="abbrev" then return(s.setArg 1 z).setArg 0 (s[0].setArg 4 (mkNullNode #[mkNode ``Parser.Command.noncomputable #[mkAtom "noncomputable"]]))
 if a=="inductive"&&t[0][1].getId==`Sp then
  let b:=d[2][0].getArgs
  let mut e:=#[]
  for x in b do if x.isOfKind ``Parser.Term.explicitBinder then e:=e++x[1].getArgs
  let q<-`($(Syntax.mkApp ⟨d[1][0]⟩ (e.map λx=>⟨x⟩)) vs H Q E)
  let rec g:Nat->Syntax->MacroM Syntax
   |0,x=>return x
   |n+1,x=>do if x.isOfKind ``Parser.Term.arrow then return x.setArg 2 (<-g n x[2]) else `($(⟨x⟩)->$q)
  let c:=d[4][0]
  let o:=c[4]
  let y<-g 99 o[1][0][1]
  let p<-`(bracketedBinder|(vs:List V))
  let h<-`(bracketedBinder|(H:Hp))
  let u<-`(bracketedBinder|(Q:VK))
  let w<-`(bracketedBinder|(E:XK))
  let o:=o.setArg 1 (o[1].setArg 0 (o[1][0].setArg 1 y))
  return s.setArg 1 (((z.setArg 2 (d[2].setArg 0 (mkNullNode (b++#[p.raw,h,u,w])) |>.setArg 1 (t.setArg 0 (t[0].setArg 1 (<-`(Prop)))))).setArg 4 (d[4].setArg 0 (c.setArg 4 o))))
 Macro.throwUnsupported
set_option hygiene false in
open Lean in
local macro_rules|`(tactic|exists $es,*)=>do
 let e:=es.getElems
 let S:=e[0]!
 let q:=Syntax.mkApp (mkIdent (if e[1]! matches `(_) then `ϡ else `Ζ)) #[]
 let a:=if S.raw.isIdent then mkIdent `S else mkIdent `N
 let mut r:=#[<-(if e[1]! matches `(_) then `(tactic|refine $q ($a:ident:=$S) (λ_ _ A _ s H vs Q E $(e[2]!) h=>?_)) else `(tactic|refine $q ($a:ident:=$S) $(mkIdent (`T++e[1]!.raw.getId)) (λ_ _ A _ s H vs Q E $(e[2]!) h=>?_))),<-`(tactic|intro X _),<-`(tactic|let $(e[3]!):term:=h)]
 for x in e[4:] do
  r:=r.push (<-match x with
   |`(1)=>`(tactic|have hsz:=ϯ)
   |`(2)=>`(tactic|have nd:=$(mkIdent (S.raw.getId++`nd)))
   |`($y:ident $z:ident)=>`(tactic|have $y:ident:= @$z P w K mg base T)
   |_=>let n:=x.raw.getId;`(tactic|have $(mkIdent n.getRoot):ident:=$(mkIdent (`T++n.replacePrefix n.getRoot .anonymous))))
 `(tactic|($r;*))
theorem _Z.e02{p q:Prop}(h:p/\q)(k:p->q->g):(g:Prop):=k h.1 h.2
theorem _Z.e03{p q r:Prop}(h:p/\q/\r)(k:p->q->r->g):(g:Prop):=_Z.e02 h.2 (k h.1)
theorem _Z.e04{p q r s:Prop}(h:p/\q/\r/\s)(k:p->q->r->s->g):(g:Prop):=_Z.e03 h.2 (k h.1)
theorem _Z.e05{p q r s t:Prop}(h:p/\q/\r/\s/\t)(k:p->q->r->s->t->g):(g:Prop):=_Z.e04 h.2 (k h.1)
theorem _Z.e06{p q r s t i:Prop}(h:p/\q/\r/\s/\t/\i)(k:p->q->r->s->t->i->g):(g:Prop):=_Z.e05 h.2 (k h.1)
theorem _Z.e11{p:α->Prop}(h:∃x,p x)(k:∀x,p x->g):(g:Prop):=h.elim k
theorem _Z.e12{p q:α->Prop}(h:∃x,p x/\q x)(k:∀x,p x->q x->g):(g:Prop):=h.elim λx h=>_Z.e02 h (k x)
theorem _Z.e13{p q r:α->Prop}(h:∃x,p x/\q x/\r x)(k:∀x,p x->q x->r x->g):(g:Prop):=h.elim λx h=>_Z.e03 h (k x)
theorem _Z.e14{p q r s:α->Prop}(h:∃x,p x/\q x/\r x/\s x)(k:∀x,p x->q x->r x->s x->g):(g:Prop):=h.elim λx h=>_Z.e04 h (k x)
theorem _Z.e15{p q r s t:α->Prop}(h:∃x,p x/\q x/\r x/\s x/\t x)(k:∀x,p x->q x->r x->s x->t x->g):(g:Prop):=h.elim λx h=>_Z.e05 h (k x)
theorem _Z.e21{p:α->β->Prop}(h:∃x y,p x y)(k:∀x y,p x y->g):(g:Prop):=h.elim λx h=>_Z.e11 h (k x)
theorem _Z.e22{p q:α->β->Prop}(h:∃x y,p x y/\q x y)(k:∀x y,p x y->q x y->g):(g:Prop):=h.elim λx h=>_Z.e12 h (k x)
theorem _Z.e23{p q r:α->β->Prop}(h:∃x y,p x y/\q x y/\r x y)(k:∀x y,p x y->q x y->r x y->g):(g:Prop):=h.elim λx h=>_Z.e13 h (k x)
theorem _Z.e24{p q r s:α->β->Prop}(h:∃x y,p x y/\q x y/\r x y/\s x y)(k:∀x y,p x y->q x y->r x y->s x y->g):(g:Prop):=h.elim λx h=>_Z.e14 h (k x)
theorem _Z.e25{p q r s t:α->β->Prop}(h:∃x y,p x y/\q x y/\r x y/\s x y/\t x y)(k:∀x y,p x y->q x y->r x y->s x y->t x y->g):(g:Prop):=h.elim λx h=>_Z.e15 h (k x)
theorem _Z.e31{p:α->β->γ->Prop}(h:∃x y z,p x y z)(k:∀x y z,p x y z->g):(g:Prop):=h.elim λx h=>_Z.e21 h (k x)
theorem _Z.e32{p q:α->β->γ->Prop}(h:∃x y z,p x y z/\q x y z)(k:∀x y z,p x y z->q x y z->g):(g:Prop):=h.elim λx h=>_Z.e22 h (k x)
theorem _Z.e33{p q r:α->β->γ->Prop}(h:∃x y z,p x y z/\q x y z/\r x y z)(k:∀x y z,p x y z->q x y z->r x y z->g):(g:Prop):=h.elim λx h=>_Z.e23 h (k x)
theorem _Z.e34{p q r s:α->β->γ->Prop}(h:∃x y z,p x y z/\q x y z/\r x y z/\s x y z)(k:∀x y z,p x y z->q x y z->r x y z->s x y z->g):(g:Prop):=h.elim λx h=>_Z.e24 h (k x)
set_option hygiene false in
open Lean Parser.Tactic in
local macro_rules(kind:=Lean.Parser.Tactic.tacticLet__)|s=>do
 match s with
 |`(tactic|let $p:term:=$e)=>do
  if let`($f:ident $_ $o):=e then if let`(#[$s:ident,$a:ident,$h,$j,$g:ident]):=p then if f.getId==`Ρ then return<-`(tactic|(let #[$s,$a]:=$e;generalize upd $h $j $o=$g at $s:ident $a:ident ⊢))
  let`(#[$x,*]):=p|Macro.throwUnsupported
  let d:=e.raw.isIdent
  let mut i:Array Term:=#[]
  let mut q:=#[]
  let mut r:=#[]
  for y in x.getElems do
   let mut z:=y
   unless y matches `(_)||y.raw.isIdent&&y.raw.getId !=`rfl do
    z:=mkIdent (.mkSimple s!"_{if d then e.raw.getId.toString else ""}{i.size}")
    r:=r.push (<-if y.raw.isIdent then `(tactic|subst $z) else `(tactic|let $y:term:=$z))
   i:=i.push z
   q:=q.push (<-if z.raw.isIdent then `(rcasesPatLo|$(⟨z⟩):ident) else `(rcasesPatLo|_))
  let n:=i.size
  let c<-if d then `(tactic|try clear $e) else `(tactic|skip)
  let f(n:Nat)(i:Array Term):MacroM (TSyntax `tactic):=do
   let mut a:=#[]
   for m in if n<5 then [1,2,0,3] else [2,3,0,1] do if m<n then a:=a.push (<-`(tacticSeq|refine $(mkIdent (.mkStr `_Z s!"e{m}{n-m}")) $e ?_))
   `(tactic|((first $[|$a]*);$c;intro $i*))
  let b:=i.extract 3 n
  let k:=mkIdent `_c
  let j<-if n<5 then `(tactic|fail) else `(tactic|($(<-f 4 ((i.extract 0 3).push k));let #[$b,*]:=$k))
  let t:=#[<-if n<3 then `(tactic|obtain ⟨$q,*⟩:=$e) else `(tactic|first|$(<-f n i):tactic|$j:tactic|obtain ⟨$q,*⟩:=$e)]++r
  `(tactic|($t;*))
 |`(tactic|let $x:ident:=!$f:ident)=>`(tactic|have $x:ident:= @$f P w K mg base T)
 |_=>return(s.setKind ``tacticHave__).setArg 0 (mkAtom "have")
local macro_rules|`(#[$x,*])=>`(⟨$x,*⟩)
local macro_rules|`(#v[$x,*])=>`(List.toArray [$x,*])
local macro_rules|`(tactic|show $e)=>`(tactic|refine $e)
local macro_rules|`(tactic|lk)=>`(tactic|walk_at "ex")
local macro_rules|`(tactic|cbv)=>`(tactic|walk_at "go")
local macro_rules|`(tactic|f_are)=>`(tactic|walk_at "e")
local macro_rules|`(tactic|f_tup)=>`(tactic|walk_at "s")
local macro_rules|`(tactic|k_go)=>`(tactic|walk_at "A")
local macro_rules|`(tactic|room)=>`(tactic|walk_at "sc")
local macro_rules|`(tactic|w_up)=>`(tactic|walk_at "c")
local macro_rules|`(tactic|f_len)=>`(tactic|walk_at "n")
local macro_rules|`(())=>`(by omega)
local macro_rules|`(tactic|fin2)=>`(tactic|decide+kernel)
local macro_rules|`(↑$e)=>`(some $e)
local macro_rules|`(↥$e)=>`(($e).length)
local macro_rules|`($a<|>$b)=>`(($a).trans $b)
local macro_rules|`($a<*$b)=>`($a _ _ $b)
local macro_rules|`(tactic|show $a*>$b)=>`(tactic|(show $a;show $b))
local macro_rules|`(tactic|show $a>>=$b)=>`(tactic|(show $a;lk;show $b))
set_option tactic.hygienic false
local macro_rules|`(⇑$e)=>`(($e).heap.objs.size)
local macro_rules|`(~~~$e)=>`(by simpa using $e)
set_option hygiene false in
local macro_rules|`(tactic|symm)=>`(tactic|(f_len;show ρ ?_))
set_option hygiene false in
local macro_rules|`(∅)=>`(Ϩ X.prog X.w)
abbrev MG:=PySem.Str->Option PySem.Value
namespace _L
open PySem PySem.Spec PyProof.Rows
abbrev Key:=Sum Int Str
def tE:Key->ε->Bool
 |.inl k,v=>Value.isInt k v
 |.inr x,v=>Value.isStrOf x v
def adD(w:Ϯ):Key->Int
 |.inl k=>hashInt k
 |.inr x=>hashStr w x
theorem jd:∀{k:Key}{v:ε},tE k v=true->(∃i t,k=Sum.inl i/\v=Value.int i t)\/(∃x t,k=Sum.inr x/\v=Value.str x t)
 |.inl i,v,h=>by
   let#[t,e]:=Value.isInt_shape (k:=i) (v:=v) h;show .inl #[i,t,rfl,e]
 |.inr x,v,h=>by
   let#[t,e]:=Value.isStrOf_shape (x:=x) (v:=v) h;show .inr #[x,t,rfl,e]
def aiE(a b:Int):decide ((Sum.inl a:Key)=Sum.inl b)=(a==b):=by
 by_cases e:a=b
 .subst e;simp
 .let h:¬(Sum.inl a:Key)=Sum.inl b:=λq=>e (Sum.inl.inj q)
  rw[decide_eq_false h];show(beq_eq_false_iff_ne.mpr e).symm
def agN(a b:Str):decide ((Sum.inr a:Key)=Sum.inr b)=decide (a=b):=by
 by_cases e:a=b
 .subst e;simp
 .let h:¬(Sum.inr a:Key)=Sum.inr b:=λq=>e (Sum.inr.inj q)
  rw[decide_eq_false h,decide_eq_false e]
theorem akb(a:Int)(b:Str):decide ((Sum.inl a:Key)=Sum.inr b)=false:=decide_eq_false (λq=>nomatch q)
theorem anA(a:Str)(b:Int):decide ((Sum.inr a:Key)=Sum.inl b)=false:=decide_eq_false (λq=>nomatch q)
def jV(prog:ϲ)(w:Ϯ):PySem.KeyKind prog w Key where
 is:=tE
 hash:=adD w
 inj:=λv a b g f=>by
  obtain⟨i,t,rfl,rfl⟩|⟨x,t,rfl,rfl⟩:=jd g
  .obtain⟨j,u,rfl,e⟩|⟨y,u,rfl,e⟩:=jd f
   .injection e with e1 _;rw[e1]
   .show nomatch e
  .obtain⟨j,u,rfl,e⟩|⟨y,u,rfl,e⟩:=jd f
   .show nomatch e
   .injection e with e1 _;rw[e1]
 byValue:=λk v h=>by
  obtain⟨i,t,rfl,rfl⟩|⟨x,t,rfl,rfl⟩:=jd h<;>rfl
 pyHash:=λc h=>by
  obtain⟨i,t,rfl,rfl⟩|⟨x,t,rfl,rfl⟩:=jd c
  .show wpAny_pyHash_int h
  .show wpAny_pyHash_str h
 eqBool:=λl c h=>by
  obtain⟨i,t,rfl,rfl⟩|⟨x,t,rfl,rfl⟩:=jd l
  .obtain⟨j,u,rfl,rfl⟩|⟨y,u,rfl,rfl⟩:=jd c
   .rw[aiE]at h;show wpAny_eqBool_int h
   .rw[akb]at h;show SeqAt.EqAt.int_str i t y u _ _ _ _ h
  .obtain⟨j,u,rfl,rfl⟩|⟨y,u,rfl,rfl⟩:=jd c
   .rw[anA]at h;show SeqAt.EqAt.str_int x t j u _ _ _ _ h
   .rw[agN]at h;show wpAny_eqBool_str h
 «strs» :=λk x t v h=>by
  obtain⟨i,u,rfl,e⟩|⟨y,u,rfl,e⟩:=jd h
  .show nomatch e
  .injection e with e1 _
   subst e1;cases v<;>rfl
inductive V where
 |non|bl (b:Bool)|int (i:Int)|str (x:Str)|byt (b:Array UInt8)|flt (b:UInt64)|ref (a:δ)|ty (n:String)
 deriving DecidableEq
def RelV:V->ε->Prop
 |.non,u=>u=Value.none
 |.bl b,u=>u=Value.bool b
 |.int i,u=>∃t,u=Value.int i t
 |.str x,u=>∃t,u=Value.str x t
 |.byt b,u=>∃t,u=Value.bytes b t
 |.flt b,u=>∃t,u=Value.float b t
 |.ref a,u=>u=Value.ref a
 |.ty n,u=>u=Value.type n
abbrev Vals:List V->List ε->Prop:=Paired RelV
def du:Option V->Option ε->Prop
 |some v,↑u=>RelV v u
 |none,none=>True
 |_,_=>False
def KV{κ:Type}:List (κ×V)->List (κ×ε)->Prop:=Paired λ(p:κ×V)(q:κ×ε)=>p.1=q.1/\RelV p.2 q.2
inductive HO where
 |lst (xs:List V)
 |tup (xs:List V)
 |dK (Ϸ:List (Key×V))
 |ins (C dx:δ) (fs:List (Str×V))
 |own (x:δ)
 |xd (fs:List (Str×V))
 |met (f x:δ)
 |rng (lo hi:Int)
 |frz (o:Obj) (u:HO)
 |tbl (ps:Array ε)
 |ext (φ:ϫ->Prop)
abbrev Hp:=δ->Option HO
section
variable(P:ϲ)(w:Ϯ)
def Ϝ(H:Hp)(h:ϫ)(a:δ):HO->Prop
 |.lst xs=>↥xs<=ϳ/\∃(e:List ε)(n:Nat),Vals xs e/\h.get? a=some {cls:=.type "list",data:=.seq e.toArray n}
 |.tup xs=>↥xs<=ϳ/\∃e:List ε,Vals xs e/\IsTup h a e.toArray
 |.dK Ϸ=>↥Ϸ<=ϳ/\(a==sysModules)=false/\∃vs,KV Ϸ vs/\h.DictOf (jV P w) a vs
 |.ins C dx fs=>H dx=↑(.own a)/\↥fs<=1000/\dx≠a/\h.get? a=↑(aq6 C dx)/\
   ∃mA,h.Ns1 dx mA/\(∀f,du (fs.lookup f) (mA f))/\PySem.Within mA (fs.map (·.1))
 |.own _=>∃o,h.get? a=↑o
 |.xd fs=>∃mA,h.Ns1 a mA/\∀f,du (fs.lookup f) (mA f)
 |.rng lo hi=>∃t u v,h.get? a=some {cls:=.type "range",data:=.fields #v[.int lo t,.int hi u,.int 1 v]}
 |.frz o u=>h.get? a=↑o/\Ϝ H h a u
 |.tbl ps=>∃g:Array ε,h.get? a=some {cls:=.none,data:=.fields g}/\TriplesOk g.toList/\∀(p:Pos)(i:ε),codeAmong p g.toList=↑i->∃c oc u q t vs t',i=.ref c/\codeAmong p ps.toList=↑(.str q t)/\H c=↑(.frz oc u)/\oc.data=.fields vs/\vs[1]?=↑(.str q t')
 |.met f x=>h.get? a=↑(atF (.ref f) (.ref x))
 |.ext φ=>φ h/\(∃o,h.get? a=↑o)/\∀h1 h2:ϫ,φ h1->(∀o,h1.get? a=↑o->h2.get? a=↑o)->φ h2
def aM(H:Hp)(h:ϫ):=∀a o,H a=↑o->Ϝ P w H h a o
end
def Rd(H:Hp)(a:δ)(u:HO):Prop:=H a=↑u\/∃o,H a=↑(.frz o u)
structure Un(fs ex:List δ)(H H':Hp)(h h':ϫ):Prop where
 keep:∀b o,h.get? b=↑o->H b=none->b∉fs->b∉ex->h'.get? b=↑o
 slot:∀b o,h.get? b=↑o->H b=none->b∈fs->b∉ex->∃sl,h'.get? b=some {o with slots:=sl}
 free:∀b o,h.get? b=↑o->H b=none->b∉ex->H' b=none
 there:∀b o,h.get? b=↑o->b∉ex->∃o',h'.get? b=↑o'
 tups:∀b xs,H b=↑(.tup xs)->H' b=↑(.tup xs)
 frzs:∀b o u,H b=↑(.frz o u)->H' b=↑(.frz o u)
 tbls:∀b ps,H b=↑(.tbl ps)->∃more,H' b=↑(.tbl (ps++more))
def j8(h:ϫ)(H:Hp):List δ:=(agB h.objs.size).filter λa=>(H a).isSome
def jR(h:ϫ)(H:Hp):ϫ:=W.hideAll h (j8 h H)
theorem anz(h:ϫ)(H:Hp):(jR h H).objs.size=h.objs.size:=W.hideAll_size _ _
theorem adT(e:h.get? b=↑o)(n:H b=none):(jR h H).get? b=↑o:=
 W.hideAll_get _ e λa=>by
  let q:(H b).isSome=true:=(aiB.mp a).2;rw[n]at q;simp at q
def alE(e:(jR h H).get? b=↑o):h.get? b=↑o/\H b=none:=by
 let a:h.get? b=↑o:=W.of_hideAll (j8 h H) e;show#[a,?_];cases q:H b with
 |none=>rfl
 |some x=>
  let c:b∈j8 h H:=aiB.mpr #[asp.mpr (adw a),by simp[q]];let z:(jR h H).get? b=none:=W.hideAll_none (j8 h H) c;rw[z]at e;cases e
structure Mod(K:ϩ)(mg:MG)(base:ϫ):Prop where
 kin:K.In base
 glob:base.Ns mainGlobals mg
 blt:∃mb,base.Ns builtinsNs mb/\∀x:Str,x≠"__name__"->mb x=bootBuiltins x
 nolimit:base.NoLimit
def cH(l:List Env):List δ:=l.filterMap (·.frame)
abbrev XK:=ε->Option δ×Bool->Hp->Prop
abbrev VK:=V->Hp->Prop
def θ(K:ϩ)(H:Hp)(a:δ)(xs:List V):Prop:=
 Rd H a (.lst xs)\/
  ∃(o:Obj)(c:Array ε)(n:Nat),K.lookup a=↑o/\o.cls=.type "list"/\o.dict=none/\o.data=.seq c n/\c.size<=ϳ/\Vals xs c.toList
structure aH(K:ϩ)(C:δ):Prop where
 pg:asa K C alg=true
 hd:aoV K C=true
 po:asD K C=true
 sa:afu K (.ref C) "__setattr__"=some ↑(.builtin "object.__setattr__")
def ao(K:ϩ)(C:δ)(f:Str):Prop:=afu K (.ref C) f=↑none
structure Meth(K:ϩ)(C:δ)(m:Str)(f:δ):Prop where
 at_:afu K (.ref C) m=some ↑(.ref f)
 fn:atf K (.ref f)=true
 kp:ao7 K (.ref f)=true
section
variable{X:Cx}{ϵ:List (δ×Obj)}{σ:St}{H:Hp}{s:ν}{A:ϴ}{E:ε->ν->Prop}{Q:ε->ν->Prop}{c:ε}{b:Bool}
inductive eZ (K:ϩ) (H:Hp):V->ε->Prop where
 |non:eZ K H .non (.type "NoneType")
 |bl (x:Bool):eZ K H (.bl x) (.type "bool")
 |int (i:Int):eZ K H (.int i) (.type "int")
 |str (x:Str):eZ K H (.str x) (.type "str")
 |flt (x:UInt64):eZ K H (.flt x) (.type "float")
 |lst {a:δ} {xs:List V} (e:H a=↑(.lst xs)):eZ K H (.ref a) (.type "list")
 |frz {a:δ} {o:Obj} {xs:List V} (e:H a=↑(.frz o (.lst xs))):eZ K H (.ref a) (.type "list")
 |tup {a:δ} {xs:List V} (e:H a=↑(.tup xs)):eZ K H (.ref a) (.type "tuple")
 |dK {a:δ} {Ϸ:List (Key×V)} (e:H a=↑(.dK Ϸ)):eZ K H (.ref a) (.type "dict")
 |ins {a C dx:δ} {fs:List (Str×V)} (e:H a=↑(.ins C dx fs)) (cl:aH K C) (ha:afu K (.ref C) "__class__"=some ↑(.builtin "object.__class__"))
  (hn:ajo K (.builtin "object.__class__") "__get__"=some ↑(.builtin "getset_descriptor.__get__")) (htk:asw K (.builtin "object.__class__")=↑true)
  (hm:an5 K C (.type "object")=↑true):eZ K H (.ref a) (.ref C)
end
structure ϓ(cc:Bool)(k:Nat)(A:ϴ):Prop where
 hd:cc=true->A.handled=none
 dp:A.depth+3*k+5<recursionLimit
 un:A.units+16*k+200<cLine
abbrev Sp:=List V->Hp->VK->XK->Prop
abbrev gw:=List Env->Hp->ν->XK->ε->ν->Prop
structure pZ(P:ϲ)(w:Ϯ)(K:ϩ)(mg:MG)(base:ϫ)(A:ϴ)(outer:List Env)(s:ν)(H:Hp):Prop where
 frames:A.frames=↑outer
 mod:Mod K mg base
 bs:∀b o,base.get? b=↑o->s.heap.get? b=↑o/\H b=none
 bsz:base.objs.size<=⇑s
 funs:s.heap.FunFrames base outer
 frf:∀b∈cH outer,H b=none
 hok:aM P w H s.heap
 bare:AllBare s.gens
def CE(outer:List Env)(P:ϲ)(w:Ϯ)(H:Hp)(s:ν)(Q:VK)(u:ε)(s':ν):Prop:=
 ∃v H',s'.os=s.os/\AllBare s'.gens/\Un (cH outer) [] H H' s.heap s'.heap/\aM P w H' s'.heap/\RelV v u/\Q v H'
def CR(CX:gw)(outer:List Env)(P:ϲ)(w:Ϯ)(H:Hp)(s:ν)(Q:VK)(E:XK)(r:Result)(s':ν):Prop:=
 match r with
 |.ok (.ret u)=>CE outer P w H s Q u s'
 |.ok _=>False
 |.error e=>CX outer H s E e s'
structure dJ(P:ϲ)(w:Ϯ)(K:ϩ)(mg:MG)(base:ϫ)(CX:gw)(cc:Bool)(k:Nat)(f:δ)(fd:ajR)(ps:List Str)(sp:Sp):Prop where
 len:∀vs H Q E,sp vs H Q E->↥vs=↥ps
 run:∀(A:ϴ)(outer:List Env)(s:ν)(H:Hp)(args:Args)(us:List ε)(vs:List V)(Q:VK)(E:XK),ϓ cc k A->pZ P w K mg base A outer s H->BindsTo s fd args (ps.zip us)->Vals vs us->sp vs H Q E->
  codeAny (Ϩ P w) A (.call (.ref f) args) (CR CX outer P w H s Q E) s
structure Mk(K:ϩ)(C f:δ):Prop where
 makes:atG K C=true
 init:afu K (.ref C) "__init__"=some ↑(.ref f)
 fn:atf K (.ref f)=true
 kp:ao7 K (.ref C)=true
end _L
namespace _A
open PySem PySem.W PySem.Calls PyProof.Rows
def aiX:∀(ns:List Int)(vs:List ε),WellAll P h vs (ns.map WData.int)->IntsAre vs ns:=by
 intro ns;induction ns with
 |nil=>
  intro vs w;rw[at4]at w;cases w;show .nil
 |cons n ns c=>
  intro vs w;rw[adY]at w;cases w with
  |cons a b=>
   cases a;show .cons _ _ (c _ b)
def ac1{l:OpenLaw}{n:Nat}(o:l.most=↑n){P:Params}{h:ϫ}(c:l.row.toRowW.claim.pre args=true)(j:WellAll P h vals args):∃a vs ns,vals=[Value.ref a]/\args=[WData.list (ns.map WData.int)]/\h.get? a=some {cls:=.type "list",data:=.seq vs.toArray}/\IntsAre vs ns/\↥ns<=n:=by
 let m:WShape.hasAll [] args [.list .int]=true:=(pre_splitW c).1;let hc:l.pre.holds [] {args:=args}=true:=(pre_splitW c).2;let#[d,r,rfl,h1,h2]:=hasAllW_cons m;obtain rfl:=hasAllW_nil h2;let#[xs,rfl,p]:=hasW_list h1;let#[ns,rfl]:=items_int p;let e:↥ns<=n:=by
  unfold OpenLaw.pre at hc;let g:(WTm.not (.lt (.lit (.int (n:Int))) (.len (.arg 0)))).holds [] {args:=[.list (ns.map .int)]}=true:=by
   let g:=(holds_andW hc).1;rw[o]at g;show g
  let i:=condW_of g (w_not (w_lt w_lit (w_len_list (w_arg rfl))));rw[ϰ]at i;show Nat.le_of_not_lt λq=>?_
  let s:(n:Int)<((↥ns:Nat):Int):=()
  first
   |(rw[decide_eq_true s]at i;show absurd i (by decide))
   |(simp at i;omega)
 cases j with
 |cons u w2=>
  cases w2;cases u with
  |list v f=>show#[_,_,ns,rfl,rfl,v,aiX ns _ f,e]
theorem anV(l:OpenLaw)(args:List WData):l.row.toRowW.claim.post args (.bool true) args=true:=
 postW_of (r:=l.row.toRowW) (X:=(true==true))
  (show WShape.has [] (.bool true) .bool=true by first|rfl|decide|simp[WShape.has,WShape.arms,WShape.armsAll])
  (show(WTm.eq .res (.lit (.bool true))).value [] {args:=args,res:=↑(.bool true),after:=args}=↑(.bool (true==true))from w_eq_bool (w_res rfl) w_lit) rfl
def acd{l:OpenLaw}{n:Nat}{q:ϲ}{z:(Str->Option ε)->ϫ->Prop}{B:Ϯ->ϫ->Prop}{d:DefRec}(F:l.most=↑n)(u:d.params.defaults=[])(call:∀(w:Ϯ)(s₀ c:ν)(mg mb:MG)(j:δ)(o:Obj)(pm cd g:ε)(a:δ)(vs:List ε)(ns:List Int),
   Ground q e [] z w s₀ mg mb c.heap->B w c.heap->
   c.heap.get? j=↑o->o.data=.func (docDef d.name d.params d.body d.scope pm cd g)->c.heap.CodeRec cd d.name->mg d.name=↑(.ref j)->
   c.heap.get? a=some {cls:=.type "list",data:=.seq vs.toArray}->IntsAre vs ns->↥ns<=n->c.gens= #v[]->
   codeAny (Ϩ l.prog w) callerA (.call (.ref j) #[[.ref a],[]]) (λr s'=>r=.ok (.ret (.bool true))/\OldK c.heap s'.heap/\s'.os=c.os/\AllBare s'.gens) c):WalkO q e z B l.row.toRowW d [] (λf vs=>PySem.call f vs):=by
 intro w s₀ c mg mb G Y j o pm cd g dV kV H hd v C x I D vals as m E J y L;obtain rfl:dV=.none:=Dflts.none C u;obtain rfl:kV=.none:=Dflts.noKw C;let#[a,vs,ns,rfl,rfl,p,i,s]:=ac1 F m y;show enter_call (akW (call w s₀ c mg mb j o pm cd g a vs ns G Y H (fd_plain hd) v x p i s I) λr s' M=>?_);let#[rfl,h2,O,P]:=M;show#[.inl #[.bool true,.bool true,[],rfl,λ_=>rfl,.bool true,anV l _,λ_=>#[List.Pairwise.nil,λ_ Q=>(nomatch Q)]],h2,O,P]
end _A
namespace _L
open PySem PySem.Spec PyProof.Rows
theorem O2:∀{vs:List ε}{ns:List Int},IntsAre vs ns->Vals (ns.map V.int) vs
 |_,_,.nil=>.nil
 |_,_,.cons n t h=>.cons #[t,rfl] (O2 h)
abbrev M8{K:ϩ}{h:ϫ}(_:K.In h):ϩ:=K
def inClass(s:ϧ)(j:Nat):ϧ:=match s with
 |.ClassDef _ _ _ body _ _ _ _ _ _ _=>body.getD j (.Pass #[0,0,0,0])
 |_=>.Pass #[0,0,0,0]
def jx(s:ϧ):Arguments:=match s with
 |.FunctionDef _ a _ _ _ _ _ _ _ _=>a
 |_=>{posonlyargs:=[],args:=[],vararg:=none,kwonlyargs:=[],kw_defaults:=[],kwarg:=none,defaults:=[]}
def ϣ(s:ϧ):List ϧ:=match s with
 |.FunctionDef _ _ b _ _ _ _ _ _ _=>b
 |_=>[]
def ς(s:ϧ):ajd:=match s with
 |.FunctionDef _ _ _ _ _ _ sc _ _ _=>sc
 |_=>{kind:=.function,names:=[],isGenerator:=false,isCoroutine:=false}
structure c7(K:ϩ)(x qual:Str)(st:ϧ)(f:δ)(fd:ajR):Prop where
 ex:∃(oc:ε)(od:Option δ)(kV doc pm:ε)(an:Option δ)(Ϲ ct:ε)(osl:Array (Option ε)),
  fd=asS x qual (jx st) (ϣ st) (ς st) .none kV doc pm an Ϲ ct/\K.lookup f=some #[oc,od,.func fd,osl]/\asn K Ϲ qual=true
 kp:ao7 K (.ref f)=true
section
variable{P:ϲ}{w:Ϯ}{K:ϩ}{mg:MG}{base:ϫ}
theorem qW{st:ϧ}{f:δ}{oc:ε}{od an:Option δ}{e:Array (Option ε)}{kV a pm g ct:ε}(l:K.lookup f=some #[oc,od,.func (asS x qual (jx st) (ϣ st) (ς st) .none kV a pm an g ct),e])(c:asn K g qual=true)(k:ao7 K (.ref f)=true):c7 K x qual st f (asS x qual (jx st) (ϣ st) (ς st) .none kV a pm an g ct):=#[#[oc,od,kV,a,pm,an,g,ct,e,rfl,l,c],k]
end
def cu(h:ϫ):Option ε->List δ->Prop
 |c,[]=>c=↑.none
 |c,a::r=>c=↑(.ref a)/\∃o vs,h.get? a=↑o/\o.data=.fields vs/\cu h vs[2]? r
def Ctx(h:ϫ)(e:δ)(b:Bool)(c:Option ε):Prop:=(b=true->c=↑.none)/\∃l,cu h c l/\e∉l/\l.Nodup
def aZ(h:ϫ)(e:δ)(cls:ε)(d:Option δ×Bool)(tb:Option δ)(f:ε):Prop:=
 ∃a vs,h.get? e=↑a/\a.cls=cls/\a.dict=d.1/\a.data=.fields vs/\vs[1]?=↑(tb.elim Value.none Value.ref)/\2<vs.size/\Ctx h e d.2 vs[2]? /\
  ∀T,tb=↑T->T≠e/\∃c ws,h.get? T=↑c/\c.data=.fields ws/\ws[3]?=↑f
def cJ(P:ϲ)(w:Ϯ):gw:=λouter H s E x s'=>∃e tb cls d H',x=.ref e/\s'.os=s.os/\AllBare s'.gens/\Un (cH outer) [] H H' s.heap s'.heap/\aM P w H' s'.heap/\aZ s'.heap e cls d tb .none/\
 (∀b∈e::tb.toList,H' b=none/\s.heap.get? b=none)/\E cls d H'
def cJ.never(h:cJ P w outer H s (λ_ _ _=>False) e s'):False:=by
 let#[_,_,_,_,_,_,_,_,_,_,_,_,z]:=h;show z
section
variable{X:Cx}{a b c e:Ϫ}{es:List Ϫ}{σ:St}{H:Hp}{Q:VK}{QT:Bool->Hp->Prop}{QA:List V->Hp->Prop}{D:Ends}{pos p apos:Pos}{x:Str}{v:V}
def Gc(mg:MG)(x:Str)(v:V):=∃u,mg x=↑u/\RelV v u
end
abbrev eY:List ε:=[.type "ValueError",.type "Exception",.type "BaseException",.type "object"]
def η(mg:MG)(x:Str):δ:=match mg x with
 |some (.ref C)=>C
 |_=>0
def dC(h:mg x=↑(.ref C)):η mg x=C:=by unfold η;rw[h]
structure jF(K:ϩ)(mg:MG)(x:Str):Prop where
 at_:mg x=↑(.ref (η mg x))
 ex:aua K (η mg x) eY "ValueError.__new__"=true
def afD{K:ϩ}{x:Str}{C:δ}(h:mg x=↑(.ref C))(e:aua K C eY "ValueError.__new__"=true):jF K mg x:=by
 let z:η mg x=C:=by unfold η;rw[h]
 show#[by rw[z];show h,by rw[z];show e]
def HJ(K:ϩ)(C:δ)(i:Option ε):Bool:=match K.lookup C with
 |some ⟨.type "type",_,.cls cd,sl⟩=>(match cd.mro,sl.toList with
  |.ref a::bm,[_,_,_,_,↑(.builtin n),_]=>a==C&&n=="ValueError.__new__"&& !cd.hasDel&&W.tailIn K eY bm&&W.nsOkIn K cd.ns&&atQ K cd.ns "__init__"==↑i
  |_,_=>false)
 |_=>false
def j9(K:ϩ)(C L:δ):Bool:=(asH K C).any λcd=>cd.hasDict&&cd.mro==.ref C:: .ref L::eY
abbrev pR(K:ϩ)(C f:δ):Bool:=HJ K C ↑(.ref f)
structure XBase(K:ϩ)(mg:MG)(x:Str):Prop where
 at_:mg x=↑(.ref (η mg x))
 reads:asA K (η mg x) (.type "type")=true
 ini:asB K (.ref (η mg x)) (.type "type") "__init__"=↑(.val (.builtin "ValueError.__init__"))
 ga:ajo K (.ref (η mg x)) "__getattribute__"=some ↑(.builtin "type.__getattribute__")
structure nZ(K:ϩ)(mg:MG)(Lx x qual fld:Str)(st:ϧ):Prop where
 at_:mg x=↑(.ref (η mg x))
 ex:∃f fd,c7 K "__init__" qual st f fd/\pR K (η mg x) f=true/\atf K (.ref f)=true
 sa:afu K (.ref (η mg x)) "__setattr__"=some ↑(.builtin "object.__setattr__")
 tk:asd K (η mg x) fld=↑none
 xc:j9 K (η mg x) (η mg Lx)=true
structure qz(K:ϩ)(C:δ):Prop where
 hd:aoV K C=true
 ga:afu K (.ref C) "__getattribute__"=some ↑(.builtin "BaseException.__getattribute__")
 gt:afu K (.ref C) "__getattr__"=↑none
 cl:afu K (.ref C) "__class__"=some ↑(.builtin "object.__class__")
 cg:ajo K (.builtin "object.__class__") "__get__"=some ↑(.builtin "getset_descriptor.__get__")
 ct:asw K (.builtin "object.__class__")=↑true
 mo:an5 K C (.type "object")=↑true
 mb:an5 K C (.type "BaseException")=↑true
structure rP(K:ϩ)(mg:MG)(x:Str):Prop extends XBase K mg x where
 ty:ar9 K (.ref (η mg x))=↑(.type "type")
 mb:an5 K (η mg x) (.type "BaseException")=↑true
structure XC(K:ϩ)(mg:MG)(Lx x:Str):Prop where
 at_:mg x=↑(.ref (η mg x))
 xc:j9 K (η mg x) (η mg Lx)=true
 ty:ar9 K (.ref (η mg x))=↑(.type "type")
 attr:qz K (η mg x)
section
variable{K:ϩ}{mg:MG}{Lx x qual fld:Str}{C L f:δ}{st:ϧ}{fd:ajR}
def acy(h:mg x=↑(.ref C))(a:asA K C (.type "type")=true)(c:asB K (.ref C) (.type "type") "__init__"=↑(.val (.builtin "ValueError.__init__")))(f:ajo K (.ref C) "__getattribute__"=some ↑(.builtin "type.__getattribute__"))(g:ar9 K (.ref C)=↑(.type "type"))(i:an5 K C (.type "BaseException")=↑true):rP K mg x:=by
 let e:=dC h;show{at_:=by rw[e];show h,reads:=by rw[e];show a,ini:=by rw[e];show c,ga:=by rw[e];show f,ty:=by rw[e];show g,mb:=by rw[e];show i}
def aey(h:mg x=↑(.ref C))(c:mg Lx=↑(.ref L))(f:j9 K C L=true)(g:ar9 K (.ref C)=↑(.type "type"))(i:aoV K C=true)(j:afu K (.ref C) "__getattribute__"=some ↑(.builtin "BaseException.__getattribute__"))(l:afu K (.ref C) "__getattr__"=↑none)(m:afu K (.ref C) "__class__"=some ↑(.builtin "object.__class__"))(n:ajo K (.builtin "object.__class__") "__get__"=some ↑(.builtin "getset_descriptor.__get__"))(o:asw K (.builtin "object.__class__")=↑true)(p:an5 K C (.type "object")=↑true)(a:an5 K C (.type "BaseException")=↑true):XC K mg Lx x:=by
 let e:=dC h;let q:=dC c;show#[by rw[e];show h,by rw[e,q];show f,by rw[e];show g,by rw[e];show#[i,j,l,m,n,o,p,a]]
def aoi(h:mg x=↑(.ref C))(a:mg Lx=↑(.ref L))(F:c7 K "__init__" qual st f fd)(c:pR K C f=true)(g:atf K (.ref f)=true)(i:afu K (.ref C) "__setattr__"=some ↑(.builtin "object.__setattr__"))(j:asd K C fld=↑none)(l:j9 K C L=true):nZ K mg Lx x qual fld st:=by
 let e:=dC h;let m:=dC a;show#[by rw[e];show h,#[f,fd,F,by rw[e];show c,g],by rw[e];show i,by rw[e];show j,by rw[e,m];show l]
end
structure OM(K:ϩ)(C:δ)(m qual:Str)(st:ϧ):Prop where
 ex:∃f fd,c7 K m qual st f fd/\Meth K C m f
structure OI(K:ϩ)(C:δ)(qual:Str)(st:ϧ):Prop where
 ex:∃f fd,c7 K "__init__" qual st f fd/\Mk K C f
structure OB(K:ϩ)(C:δ)(m qual:Str)(st:ϧ):Prop where
 rd:asA K C (.type "type")=true
 ga:ajo K (.ref C) "__getattribute__"=some ↑(.builtin "type.__getattribute__")
 ex:∃f fd,c7 K m qual st f fd/\asB K (.ref C) (.type "type") m=↑(.val (.ref f))
section
variable{P:ϲ}{w:Ϯ}{K:ϩ}{mg:MG}{base:ϫ}{cc:Bool}{k:Nat}{x m qual:Str}{C:δ}{st:ϧ}{ps N:List Str}{sp:Sp}
def am8(h:mg x=↑(.ref C))(F:c7 K m qual st f fd)(a:afu K (.ref C) m=some ↑(.ref f))(b:atf K (.ref f)=true):OM K (η mg x) m qual st:=by
 rw[dC h];show#[f,fd,F,a,b,F.kp]
def acA(h:mg x=↑(.ref C))(F:c7 K "__init__" qual st f fd)(a:afu K (.ref C) "__init__"=some ↑(.ref f))(b:atf K (.ref f)=true)(c:atG K C=true)(d:ao7 K (.ref C)=true):OI K (η mg x) qual st:=by
 rw[dC h];show#[f,fd,F,c,a,b,d]
def alA(h:mg x=↑(.ref C))(F:c7 K m qual st f fd)(a:asB K (.ref C) (.type "type") m=↑(.val (.ref f)))(b:asA K C (.type "type")=true)(c:ajo K (.ref C) "__getattribute__"=some ↑(.builtin "type.__getattribute__")):OB K (η mg x) m qual st:=by
 rw[dC h];show#[b,c,f,fd,F,a]
def Qz(h:mg x=↑(.ref C))(a:asa K C alg=true)(b:aoV K C=true)(c:asD K C=true)(d:afu K (.ref C) "__setattr__"=some ↑(.builtin "object.__setattr__")):aH K (η mg x):=by
 rw[dC h];show#[a,b,c,d]
end
structure OT(K:ϩ)(C:δ):Prop where
 ty:∀(H:Hp)(a dx:δ)(fs:List (Str×V)),H a=↑(.ins C dx fs)->eZ K H (.ref a) (.ref C)
def ajr{K:ϩ}{x:Str}{C:δ}(h:mg x=↑(.ref C))(c:aH K (η mg x))(f:afu K (.ref C) "__class__"=some ↑(.builtin "object.__class__"))(g:ajo K (.builtin "object.__class__") "__get__"=some ↑(.builtin "getset_descriptor.__get__"))(i:asw K (.builtin "object.__class__")=↑true)(j:an5 K C (.type "object")=↑true):OT K (η mg x):=by
 rw[dC h]at c⊢;show#[λH a dx fs e=>.ins e c f g i j]
open PySem PySem.Spec PyProof.Rows PySem.W
def BM(mg:MG)(base:ϫ):=∃bm a,mg "__builtins__"=↑(.ref bm)/\bm≠builtinsNs/\base.get? bm=↑a/\a.cls=.type "module"/\a.dict=↑builtinsNs/\a.data=.plain
def jb(K:ϩ)(x:Str):δ:=((tabIn K x).getD (0,0)).1
def aP(K:ϩ)(x:Str):δ:=((tabIn K x).getD (0,0)).2
def Dr(p:Pos)(q:Str):Array ε:= #v[rawInt p.line,rawInt p.col,.str q 0]
def Im(K:ϩ)(x:Str):Bool:=match tabIn K x with
 |some a=>(K.lookup a.2).isNone
 |none=>false
def adM{K:ϩ}(h:Im K x=true):tabIn K x=↑(jb K x,aP K x)/\K.lookup (aP K x)=none:=by
 unfold Im at h;unfold jb aP;cases e:tabIn K x with
 |none=>rw[e]at h;cases h
 |some a=>
  rw[e]at h;show#[rfl,~~~h]
structure Ϟ(K:ϩ)(mg:MG)(base:ϫ)(x:Str):Prop where
 tab:tabIn K x=↑(jb K x,aP K x)
 code:CodeHd base (jb K x) (aP K x)
 bm:BM mg base
 kin:K.In base
 glob:base.Ns mainGlobals mg
def adJ{P:ϲ}{w:Ϯ}{K:ϩ}{mg mb:MG}{CX:gw}{k:Nat}{U a:δ}{fd:ajR}{x xn:Str}{sp:Sp}{s₁:ν}{ps:Array ε}(KX:K.In s₁.heap)(E:s₁.heap.Ns mainGlobals mg)(f:s₁.heap.Ns builtinsNs mb)(W:∀x:Str,x≠"__name__"->mb x=bootBuiltins x)(M:s₁.heap.NoLimit)(hg:s₁.gens= #v[])(L:s₁.heap.get? a=some {cls:=.type "list",data:=.seq vs.toArray})(hi:IntsAre vs ns)(hl:↥ns<=ϳ)(hr:ϓ cc k callerA)(hT:tabIn K xn=↑(jb K xn,aP K xn))(X:CodeHd s₁.heap (jb K xn) (aP K xn))(l:s₁.heap.get? (aP K xn)=↑(tabObj #v[]))(Y:K.lookup (aP K xn)=none)(hB:BM mg s₁.heap)(F:∀base:ϫ,K.In base->base.Ns mainGlobals mg->Ϟ K mg base xn->dJ P w K mg base CX cc k U fd [x] sp)(G:∀(s:ν)(u:ε),BindsTo s fd #[[u],[]] [(x,u)])(O:∀H:Hp,θ K H a (ns.map V.int)->H (aP K xn)=↑(.tbl ps)->sp [.ref a] H (λv _=>v=.bl true) λ_ _ _=>False)(Z:∀H e s',CX [] H s₁ (λ_ _ _=>False) e s'->False):codeAny (Ϩ P w) callerA (.call (.ref U) #[[.ref a],[]]) (λr s'=>r=.ok (.ret (.bool true))/\OldK s₁.heap s'.heap/\s'.os=s₁.os/\AllBare s'.gens) s₁:=by
 let rv:=O2 hi;let Q:=↥hi;generalize aa:aP K xn=pt at X l Y O;let I:pt≠a:=λz=>by rw[z,L]at l;cases l
 let y:∀H:Hp,θ K H a (ns.map V.int)->H pt=↑(.tbl ps)->aM P w H s₁.heap->(∀b,H b=none\/b=a\/b=pt)->(∀b,H b=none\/K.lookup b=none)->(∀u,H a=↑u->∃o v,u=.frz o v)->
   codeAny (Ϩ P w) callerA (.call (.ref U) #[[.ref a],[]]) (λr s'=>r=.ok (.ret (.bool true))/\OldK s₁.heap s'.heap/\s'.os=s₁.os/\AllBare s'.gens) s₁:=by
  intro H hS hH hok hA hK ab;let c:∀{b:δ}{o:Obj},s₁.heap.get? b=↑o->H b=none->(jR s₁.heap H).get? b=↑o:=λe n=>adT e n
  let free:∀{b:δ}{o:Obj},s₁.heap.get? b=↑o->o.cls≠.type "list"->o.cls≠.none->H b=none:=λ{b o} e n1 n2=>by
   obtain z|z|z:=hA b
   .show z
   .rw[z,L]at e;cases e;show absurd rfl n1
   .rw[z,l]at e;cases e;show absurd rfl n2
  let ac:∀{b:δ}{o:Obj}{es:Array DictEntry}{ep:Nat},s₁.heap.get? b=↑o->o.data=.dict es ep->H b=none:=λ{b o es ep} e d=>by
   obtain z|z|z:=hA b
   .show z
   .rw[z,L]at e;cases e;let d':Data.seq vs.toArray _=Data.dict es ep:=d;cases d'
   .rw[z,l]at e;cases e;let d':Data.fields #v[]=Data.dict es ep:=d;cases d'
  let i:∀{b:δ}{m:MG},s₁.heap.Ns b m->(jR s₁.heap H).Ns b m:=λ{b m} ⟨o,es,ep,e,d,r⟩=>#[o,es,ep,c e (ac e d),d,r];let J:K.In (jR s₁.heap H):=λb o e=>c (KX b o e) (by
   obtain z|z:=hK b
   .show z
   .rw[z]at e;cases e)
  let hM:Mod K mg (jR s₁.heap H):=#[J,i E,#[mb,i f,W],let⟨mc,h1,h2⟩:=M;#[mc,i h1,h2]];let hN:Ϟ K mg (jR s₁.heap H) xn:=by
   show#[hT,?_,?_,J,i E]
   .rw[aa];let#[o,vs,B,tf,j,tg,R,C,tt,e1,r1,r]:=X;show#[o,vs,B,tf,j,tg,R,C,tt,c e1 (free e1 (by rw[r1];decide) (by rw[r1];decide)),r1,r]
   .let#[bm,S,b1,b2,b3,b4,r]:=hB;show#[bm,S,b1,b2,c b3 (free b3 (by rw[b4];decide) (by rw[b4];decide)),b4,r]
  let e0:pZ P w K mg (jR s₁.heap H) callerA [] s₁ H:=#[rfl,hM,λb o e=>alE e,apS (anz _ _),trivial,λb f=>absurd (show b∈([]:List δ)from f) (by simp),hok,.of_eq hg];show akW ((F _ J (i E) hN).run callerA [] s₁ H #[[.ref a],[]] [.ref a] [.ref a] _ _ hr e0 (G s₁ (.ref a)) (.cons rfl .nil) (O H hS hH)) λr s' h=>?_
  cases r with
  |error e=>show(Z H e s' h).elim
  |ok fl=>
   cases fl with
   |next=>show False.elim h
   |brk=>show False.elim h
   |cont=>show False.elim h
   |ret u=>
    let#[v,H',os,bare,un,D,r',q]:=h;let q':v=.bl true:=q;subst q';obtain rfl:u=Value.bool true:=r';let#[T,hm]:=un.tbls pt ps hH;let#[qs,eq,_]:=(D pt _ hm:Ϝ P w H' s'.heap pt (.tbl (ps++T)));let all:∀b o,s₁.heap.get? b=↑o->asItWas s₁.heap s'.heap b o:=λb o e=>by
     obtain z|z|z:=hA b
     .show .inl (un.keep b o e z (by intro z;show absurd (show b∈([]:List δ)from z) (by simp)) (by simp))
     .cases e3:H b with
      |none=>show .inl (un.keep b o e e3 (by intro z;show absurd (show b∈([]:List δ)from z) (by simp)) (by simp))
      |some u=>
       let#[S,v,rfl]:=ab u (by rw[<-z];show e3);let z2:=un.frzs b S _ e3;let#[e1,_]:=(hok b _ e3:Ϝ P w H s₁.heap b (.frz S v));let#[e2,_]:=(D b _ z2:Ϝ P w H' s'.heap b (.frz S v));rw[e]at e1;cases e1;show .inl e2
     .subst z;rw[l]at e;cases e;let#[o,vs,B,tf,j,tg,R,C,tt,e1,r1,r2,r3,_]:=X;show .inr (.inl #[#[_,o,vs,e1,r1,r2,r3],rfl, #v[],qs,rfl,?_]);rw[eq];simp
    show#[rfl,#[all,λb o e=>?_],os,bare]*>un.there b o e (by simp)
 cases hk:K.lookup a with
 |some o=>
  let e:=KX a o hk;rw[L]at e;cases e;show y (λb=>if b=pt then some (.tbl ps)else none) (.inr #[_,vs.toArray,_,hk,rfl,rfl,rfl,by rw[ace,Q];show hl,~~~rv]) (if_pos rfl) (λb u z=>?_) (λb=>?_) (λb=>?_) λu z=>?_
  .by_cases f:b=pt
   .let z':=(if_pos f).symm.trans z;cases z';subst f;show#[#v[],l,trivial,λp cv h=>by simp[codeAmong]at h]
   .let z':=(if_neg f).symm.trans z;cases z'
  .by_cases f:b=pt
   .show .inr (.inr f)
   .show .inl (if_neg f)
  .by_cases f:b=pt
   .show .inr (by rw[f];show Y)
   .show .inl (if_neg f)
  .let z':=(if_neg (Ne.symm I)).symm.trans z;cases z'
 |none=>
  show y (λb=>if b=pt then some (.tbl ps)else if b=a then some (.frz {cls:=.type "list",data:=.seq vs.toArray} (.lst (ns.map V.int)))else none) (.inl (.inr #[{cls:=.type "list",data:=.seq vs.toArray},(if_neg (Ne.symm I))<|>(if_pos rfl)])) (if_pos rfl) (λb u z=>?_) (λb=>?_) (λb=>?_) λu z=>?_
  .by_cases f:b=pt
   .let z':=(if_pos f).symm.trans z;cases z';subst f;show#[#v[],l,trivial,λp cv h=>by simp[codeAmong]at h]
   .let z':=(if_neg f).symm.trans z;by_cases g:b=a
    .let z2:=(if_pos g).symm.trans z';cases z2;subst g;show#[L,by rw[ϰ];show hl,vs,_,rv,L]
    .let z2:=(if_neg g).symm.trans z';cases z2
  .by_cases f:b=pt
   .show .inr (.inr f)
   .by_cases g:b=a
    .show .inr (.inl g)
    .show .inl (by rw[if_neg f,if_neg g])
  .by_cases f:b=pt
   .show .inr (by rw[f];show Y)
   .by_cases g:b=a
    .show .inr (by rw[g];show hk)
    .show .inl (by rw[if_neg f,if_neg g])
  .let z':=(if_neg (Ne.symm I)).symm.trans z;let z2:=(if_pos rfl).symm.trans z';cases z2;show#[_,_,rfl]
def aj0{l:W.OpenLaw}{n k:Nat}{q:ϲ}{P:(Str->Option ε)->ϫ->Prop}{M:Ϯ->ϫ->Prop}{d:DefRec}{K:Params->ϩ}{CX:Ϯ->gw}{sp:Ϯ->Sp}{x xn:Str}{ps:Array ε}(Q:l.most=↑n)(B:n<=ϳ)(C:d.params.defaults=[])(R:ϓ cc k callerA)(S:∀(w:Ϯ)(h:ϫ),M w h->(K w.params).In h)(j:((recsOf q).find? (λe=>e.name==xn)).isSome=true)(m:∀w:Ϯ,Im (K w.params) xn=true)(F:∀(w:Ϯ)(mg:MG)(z:δ)(h:ϫ),(K w.params).In h->h.Ns mainGlobals mg->mg d.name=↑(.ref z)->
   ∃fd:ajR,(∀(s:ν)(u:ε),BindsTo s fd #[[u],[]] [(x,u)])/\
    ∀base:ϫ,(K w.params).In base->base.Ns mainGlobals mg->Ϟ (K w.params) mg base xn->dJ l.prog w (K w.params) mg base (CX w) cc k z fd [x] (sp w))(D:∀(w:Ϯ)(H:Hp)(a:δ)(ns:List Int),↥ns<=n->θ (K w.params) H a (ns.map V.int)->H (aP (K w.params) xn)=↑(.tbl ps)->sp w [.ref a] H (λv _=>v=.bl true) λ_ _ _=>False)(E:∀(w:Ϯ)(H:Hp)(s:ν)(e:ε)(s':ν),CX w [] H s (λ_ _ _=>False) e s'->False):W.WalkO q g P M l.row.toRowW d [] (λf vs=>PySem.call f vs):=by
 show _A.acd Q C λw s₀ p mg mb z o pm cd T a vs ns G Y ho hd U I y i c X=>?_
 let J:=S w _ Y;let#[fd,Z,hF]:=F w mg z _ J G.T.g I;let#[O,t2]:=adM (m w);let#[d',L]:=ang.mp j;let#[hC,hP]:=tab_of G.T J L O;show adJ J G.T.g G.T.b G.T.builtins G.T.nolimit X y i (afG c B) R O hC hP t2 G.T.bmain hF Z (λH hS hH=>D w H a ns c hS hH) λH e s'=>E w H p e s'
def G6(K:ϩ)(x:Str)(ps:Array ε):Sp:=λvs H Q _=>∃(a:δ)(ns:List Int),vs=[.ref a]/\θ K H a (ns.map V.int)/\↥ns<=63/\H (aP K x)=↑(.tbl ps)/\∀H',Q (.bl true) H'
abbrev DX(K:ϩ)(mg:MG)(x:Str)(st:ϧ):Prop:=∃f fd,c7 K x x st f fd/\mg x=↑(.ref f)
section
variable{K:ϩ}{h:ϫ}{mg:MG}(X:K.In h)(G:h.Ns mainGlobals mg){x y m qual fld:Str}{st:ϧ}{f C D:δ}{od an:Option δ}{sl:Array (Option ε)}{oc kV dc pm cd ct:ε}{t:Tok}
abbrev cM(K:ϩ)(x:Str)(C:δ):Prop:=atQ K mainGlobals x=some ↑(.ref C)
abbrev pU(K:ϩ)(m qual:Str)(st:ϧ)(f:δ)(od an:Option δ)(sl:Array (Option ε))(oc kV dc pm cd ct:ε):Prop:=K.lookup f=some #[oc,od,.func (asS m qual (jx st) (ϣ st) (ς st) .none kV dc pm an cd ct),sl]
include X G
theorem agu(a:cM K x f)(l:pU K x x st f od an sl oc kV dc pm cd ct)(c:asn K cd x=true)(k:ao7 K (.ref f)=true):DX K mg x st:=#[_,_,qW (st:=st) l c k,alU X G a]
theorem agc(g:atQ K mainGlobals x=some ↑(.str z t)):Gc mg x (.str z):=#[_,alU X G g,_,rfl]
theorem aco(g:atQ K mainGlobals x=some ↑(.int z t)):Gc mg x (.int z):=#[_,alU X G g,_,rfl]
theorem aew(z:atQ K mainGlobals x=↑none):mg x=none:=W.mg_none_of X G z
def aj3(q:cM K x C):mg x=↑(.ref (η mg x)):=by let e:=alU X G q;rw[dC e];show e
theorem ac7(q:cM K x C)(y:aua K C eY "ValueError.__new__"=true):jF K mg x:=afD (alU X G q) y
def ae1(q:cM K x C)(r:cM K y D)(v:ape K (.ref C) (.ref D)=↑b):ape K (.ref (η mg x)) (.ref (η mg y))=↑b:=by
 rw[dC (alU X G q),dC (alU X G r)];show v
theorem ajp(q:cM K x C)(a:asA K C (.type "type")=true)(c:asB K (.ref C) (.type "type") "__init__"=↑(.val (.builtin "ValueError.__init__")))(e:ajo K (.ref C) "__getattribute__"=some ↑(.builtin "type.__getattribute__"))(f:ar9 K (.ref C)=↑(.type "type"))(g:an5 K C (.type "BaseException")=↑true):rP K mg x:=acy (alU X G q) a c e f g
theorem ajO(q:cM K x C)(r:cM K y D)(c:j9 K C D=true)(e:ar9 K (.ref C)=↑(.type "type"))(f:aoV K C=true)(g:afu K (.ref C) "__getattribute__"=some ↑(.builtin "BaseException.__getattribute__"))(i:afu K (.ref C) "__getattr__"=↑none)(j:afu K (.ref C) "__class__"=some ↑(.builtin "object.__class__"))(l:ajo K (.builtin "object.__class__") "__get__"=some ↑(.builtin "getset_descriptor.__get__"))(m:asw K (.builtin "object.__class__")=↑true)(n:an5 K C (.type "object")=↑true)(a:an5 K C (.type "BaseException")=↑true):XC K mg y x:=aey (alU X G q) (alU X G r) c e f g i j l m n a
theorem amT(q:cM K x C)(r:cM K y D)(a:afu K (.ref C) "__init__"=some ↑(.ref f))(l:pU K "__init__" qual st f od an sl oc kV dc pm cd ct)(c:asn K cd qual=true)(k:ao7 K (.ref f)=true)(e:pR K C f=true)(g:atf K (.ref f)=true)(i:afu K (.ref C) "__setattr__"=some ↑(.builtin "object.__setattr__"))(j:asd K C fld=↑none)(m:j9 K C D=true):nZ K mg y x qual fld st:=aoi (alU X G q) (alU X G r) (qW (st:=st) l c k) e g i j m
def am5(q:cM K x C)(a:afu K (.ref C) fld=↑none):afu K (.ref (η mg x)) fld=↑none:=by rw[dC (alU X G q)];show a
def acI(q:cM K x C)(a:afu K (.ref C) fld=↑none):ao K (η mg x) fld:=by rw[dC (alU X G q)];show a
theorem t_k(q:cM K x C)(a:asa K C alg=true)(b:aoV K C=true)(c:asD K C=true)(d:afu K (.ref C) "__setattr__"=some ↑(.builtin "object.__setattr__")):aH K (η mg x):=Qz (alU X G q) a b c d
theorem afV(q:cM K x C)(a:afu K (.ref C) "__init__"=some ↑(.ref f))(l:pU K "__init__" qual st f od an sl oc kV dc pm cd ct)(c:asn K cd qual=true)(k:ao7 K (.ref f)=true)(b:atf K (.ref f)=true)(d:atG K C=true)(e:ao7 K (.ref C)=true):OI K (η mg x) qual st:=acA (alU X G q) (qW (st:=st) l c k) a b d e
theorem acs(q:cM K x C)(a:afu K (.ref C) m=some ↑(.ref f))(l:pU K m qual st f od an sl oc kV dc pm cd ct)(c:asn K cd qual=true)(k:ao7 K (.ref f)=true)(b:atf K (.ref f)=true):OM K (η mg x) m qual st:=am8 (alU X G q) (qW (st:=st) l c k) a b
theorem aeF(q:cM K x C)(a:asB K (.ref C) (.type "type") m=↑(.val (.ref f)))(l:pU K m qual st f od an sl oc kV dc pm cd ct)(c:asn K cd qual=true)(k:ao7 K (.ref f)=true)(b:asA K C (.type "type")=true)(d:ajo K (.ref C) "__getattribute__"=some ↑(.builtin "type.__getattribute__")):OB K (η mg x) m qual st:=alA (alU X G q) (qW (st:=st) l c k) a b d
def akF(q:cM K x C)(r:cM K y D)(a:asa K C alg=true)(b:aoV K C=true)(c:asD K C=true)(d:afu K (.ref C) "__setattr__"=some ↑(.builtin "object.__setattr__"))(e:afu K (.ref C) "__class__"=some ↑(.builtin "object.__class__"))(f:ajo K (.builtin "object.__class__") "__get__"=some ↑(.builtin "getset_descriptor.__get__"))(g:asw K (.builtin "object.__class__")=↑true)(i:an5 K C (.type "object")=↑true)(u:ap9 K (.ref C) (.ref D)=↑true):OT K (η mg x)/\ap9 K (.ref (η mg x)) (.ref (η mg y))=↑true:=by
 show#[ajr (alU X G q) (Qz (alU X G q) a b c d) e f g i,?_];rw[dC (alU X G q),dC (alU X G r)];show u
omit X G
inductive kO (mg:MG):List δ->List δ->Prop
 |nil:kO mg [] []
 |cons {x:Str} {C:δ} {l m:List δ} (h:mg x=↑(.ref C)) (t:kO mg l m):kO mg (η mg x::l) (C::m)
def kO.eq{l m:List δ}(h:kO mg l m):l=m:=by
 induction h with
 |nil=>rfl
 |cons h _ a=>rw[dC h,a]
include X G
theorem fJ{l m:List δ}(q:cM K x C)(t:kO mg l m):kO mg (η mg x::l) (C::m):=.cons (alU X G q) t
omit X G
def akG{l m:List δ}(t:kO mg l m)(d:m.Nodup):l.Nodup:=by rw[t.eq];show d
end
abbrev Bp(K:ϩ)(mg:MG)(y x:Str)(st:ϧ):Prop:=∃f fd,c7 K x x st f fd/\mg y=↑(.ref f)
section
variable{K:ϩ}{h:ϫ}{mg:MG}(X:K.In h)(G:h.Ns mainGlobals mg){x y:Str}{st:ϧ}{f:δ}{od an:Option δ}{sl:Array (Option ε)}{oc kV dc pm cd ct:ε}
include X G
theorem ani(a:cM K y f)(l:pU K x x st f od an sl oc kV dc pm cd ct)(c:asn K cd x=true)(k:ao7 K (.ref f)=true):Bp K mg y x st:=#[_,_,qW (st:=st) l c k,alU X G a]
end
end _L
namespace _K
open PySem _L PyProof.Rows
def top(i:Nat):ϧ:=PySem.Challenge.pw_turnleaf_k82_a_desk_refuses.main.body.getD i (.Pass #[0,0,0,0])
abbrev Pz:ϧ:=top 30
abbrev HR:ϧ:=top 37
abbrev Cz:ϧ:=top 38
abbrev GC:ϧ:=top 39
abbrev Wo:ϧ:=top 41
abbrev J8:ϧ:=top 47
abbrev Oe:ϧ:=top 48
abbrev ZP:ϧ:=top 49
abbrev aaE:ϧ:=top 50
abbrev JT:ϧ:=top 52
abbrev aag:ϧ:=top 54
abbrev YD:ϧ:=top 62
abbrev Bs:ϧ:=top 63
abbrev aax:ϧ:=top 65
abbrev ym:ϧ:=top 74
abbrev Qp:ϧ:=top 75
abbrev Ad:ϧ:=top 76
abbrev CG:ϧ:=top 104
abbrev Di:ϧ:=top 106
abbrev Ve:ϧ:=top 108
abbrev Ud:ϧ:=top 109
abbrev ZV:ϧ:=top 110
abbrev Rj:ϧ:=top 111
abbrev Xy:ϧ:=top 112
abbrev Ug:ϧ:=top 113
abbrev GQ:ϧ:=top 116
abbrev Y4:ϧ:=top 121
abbrev TX:ϧ:=top 134
abbrev WK:ϧ:=top 135
abbrev Fo:ϧ:=top 137
abbrev Zw:ϧ:=top 138
abbrev Nx:ϧ:=top 139
abbrev U7:ϧ:=top 144
abbrev Yj:ϧ:=top 145
abbrev aaY:ϧ:=top 148
abbrev Gk:ϧ:=top 151
abbrev Ql:ϧ:=top 152
abbrev Yc:ϧ:=top 153
abbrev KJ:ϧ:=top 155
abbrev CW:ϧ:=top 157
abbrev wK:ϧ:=top 160
abbrev Uo:ϧ:=top 162
abbrev Mq:ϧ:=top 163
abbrev ZC:ϧ:=top 164
abbrev aar:ϧ:=top 165
abbrev Zr:ϧ:=top 166
abbrev U4:ϧ:=top 182
abbrev De:ϧ:=top 184
abbrev aat:ϧ:=top 186
abbrev Zt:ϧ:=top 187
abbrev UG:ϧ:=top 191
abbrev Q4:ϧ:=top 192
abbrev Wl:ϧ:=top 193
abbrev aak:ϧ:=top 194
abbrev Uu:ϧ:=top 195
abbrev BX:ϧ:=top 196
abbrev qN:ϧ:=top 197
abbrev PJ:ϧ:=top 198
abbrev nu:ϧ:=top 199
abbrev Bb:ϧ:=top 200
abbrev abb:ϧ:=top 201
abbrev zq:ϧ:=top 202
abbrev Vj:ϧ:=inClass (top 11) 0
abbrev abl:ϧ:=inClass (top 16) 0
abbrev Wy:ϧ:=inClass (top 14) 0
abbrev Rq:ϧ:=inClass (top 13) 0
abbrev Wk:ϧ:=inClass (top 15) 0
abbrev aau:ϧ:=inClass (top 57) 0
abbrev abi:ϧ:=inClass (top 57) 1
abbrev Su:ϧ:=inClass (top 57) 2
abbrev W7:ϧ:=inClass (top 57) 3
abbrev yp:ϧ:=inClass (top 57) 4
abbrev X6:ϧ:=inClass (top 57) 5
abbrev W2:ϧ:=inClass (top 57) 6
abbrev LC:ϧ:=inClass (top 57) 7
abbrev Us:ϧ:=inClass (top 57) 8
abbrev W6:ϧ:=inClass (top 57) 11
abbrev Rv:ϧ:=inClass (top 57) 12
abbrev Xn:ϧ:=inClass (top 57) 14
abbrev ZM:ϧ:=inClass (top 57) 15
abbrev Ia:ϧ:=inClass (top 57) 16
abbrev yM:ϧ:=inClass (top 57) 17
abbrev DP:ϧ:=inClass (top 80) 0
abbrev Od:ϧ:=inClass (top 80) 1
abbrev Ba:ϧ:=inClass (top 80) 2
abbrev Mt:ϧ:=inClass (top 82) 0
abbrev VL:ϧ:=inClass (top 82) 1
abbrev NK:ϧ:=inClass (top 88) 0
abbrev Zc:ϧ:=inClass (top 88) 1
abbrev aaU:ϧ:=inClass (top 189) 0
abbrev Gm:ϧ:=inClass (top 189) 1
abbrev Nr:ϧ:=inClass (top 189) 2
abbrev BR:ϧ:=inClass (top 189) 3
abbrev Dw:ϧ:=inClass (top 189) 4
abbrev JK:ϧ:=inClass (top 189) 5
abbrev zK:ϧ:=inClass (top 189) 6
abbrev Aq:ϧ:=inClass (top 189) 7
abbrev Lp:ϧ:=inClass (top 189) 8
abbrev Jj:ϧ:=inClass (top 189) 9
abbrev qI:ϧ:=inClass (top 189) 10
structure Txt(K:ϩ)(mg:MG):Prop where
 uJ:DX K mg "is_whole" (top 29)
 vG:DX K mg "made_of" Pz
 Hf:DX K mg "is_number_value" (top 31)
 yJ:DX K mg "is_text_value" (top 32)
 Ef:DX K mg "is_value" (top 33)
 Hg:DX K mg "value_word" (top 35)
 Eu:DX K mg "are_figures" (top 36)
 qR:DX K mg "read_figures" HR
 DN:DX K mg "read_number_word" Cz
 GK:DX K mg "read_text_word" GC
 zW:DX K mg "read_value" (top 40)
 Ac:DX K mg "read_values" Wo
 Gv:DX K mg "is_name" (top 46)
 KZ:DX K mg "ask_columns" J8
 oJ:DX K mg "place_of" Oe
 Ko:DX K mg "kinds_of" ZP
 FZ:DX K mg "row_words" aaE
 Jw:DX K mg "is_row_number" (top 51)
 Dt:DX K mg "is_row" JT
 yP:DX K mg "told_rows" aag
 Eo:DX K mg "told_values" (top 55)
 Lf:DX K mg "put_back" (top 56)
 Jg:DX K mg "read_order_word" YD
 mX:DX K mg "read_order" Bs
 xM:DX K mg "key_of" aax
 Hr:DX K mg "number_of" (top 72)
 Gb:DX K mg "rank_of" (top 73)
 Fp:DX K mg "sorted_by" ym
 v8:DX K mg "let_through" Qp
 uB:DX K mg "line_of" Ad
 Ay:DX K mg "cut_place" (top 78)
 ni:DX K mg "word_at" CG
 Bu:DX K mg "text_between" (top 105)
 yc:Bp K mg "read_column_sifting" "read_column" Di
 als:DX K mg "read_word" Ve
 Dm:DX K mg "read_none" Ud
 agi:DX K mg "read_of_value" ZV
 aa2:DX K mg "read_of_sieves" Rj
 zj:DX K mg "read_part" Xy
 V8:DX K mg "read_sieve" Ug
 Lq:DX K mg "key_through" (top 115)
 yo:DX K mg "stood" GQ
 Gs:DX K mg "check_of" Y4
 wD:DX K mg "check_word" (top 122)
 zA:DX K mg "read_make" TX
 rN:DX K mg "read_whole" WK
 Ky:DX K mg "read_side" (top 136)
 Gd:DX K mg "read_cut" Fo
 Ci:DX K mg "read_body" Zw
 wL:DX K mg "read_mark" Nx
 Ie:DX K mg "row_text" U7
 Jz:DX K mg "page_of" Yj
 vM:DX K mg "ask_size" aaY
 yg:DX K mg "leaf_between" Gk
 DQ:DX K mg "leaf_forth" Ql
 Hk:DX K mg "leaf_back" Yc
 Ku:DX K mg "leaf_by_place" KJ
 xP:DX K mg "rows_of_list" CW
 Ks:DX K mg "is_untouched" (top 158)
 Gw:DX K mg "mark_at" (top 159)
 p8:DX K mg "leaf_from" wK
 t7:DX K mg "begin_of" (top 161)
 zr:DX K mg "first_leaf" Uo
 yF:DX K mg "last_leaf" Mq
 uv:DX K mg "read_good_mark" ZC
 Ca:DX K mg "turn_forth" aar
 yu:DX K mg "turn_back" Zr
 gR:DX K mg "ask_words" (top 181)
 iK:DX K mg "read_number" U4
 Aa:DX K mg "read_only_number" (top 183)
 Ei:Bp K mg "read_column_desk" "read_column" De
 Ih:DX K mg "read_row_values" aat
 pC:DX K mg "read_list" Zt
 oX:DX K mg "page_text" (top 188)
 nQ:DX K mg "_law_draw" UG
 Hn:DX K mg "_law_word_of" Q4
 Cg:DX K mg "_law_said" Wl
 FQ:DX K mg "_law_checked" aak
 Be:DX K mg "_law_page" Uu
 Kr:DX K mg "_law_is_now" BX
 K4:DX K mg "_law_begun" qN
 G5:DX K mg "_law_deed_row" PJ
 JS:DX K mg "_law_list_row" nu
 G4:DX K mg "_law_mark_row" Bb
 Hv:DX K mg "_law_row" abb
 akB:DX K mg "law" zq
 Gg:Gc mg "NUMBER" (.str "number")
 RT:Gc mg "TEXT" (.str "text")
 ab4:Gc mg "FIGURES" (.str "0123456789")
 agA:Gc mg "LETTERS" (.str "abcdefghijklmnopqrstuvwxyz")
 ah1:Gc mg "TEXT_SIGNS" (.str "abcdefghijklmnopqrstuvwxyz0123456789-")
 Vq:Gc mg "LARGEST" (.int 1000000000000000000)
 ajI:Gc mg "LONGEST" (.int 20)
 agm:Gc mg "TEN_FIGURES" (.int 9999999999)
 Og:Gc mg "NONE_WORD" (.str "?")
 Qk:Gc mg "TEXT_AHEAD" (.str "'")
 abS:Gc mg "BELOW_AHEAD" (.str "-")
 afK:Gc mg "MOST_COLUMNS" (.int 6)
 afT:Gc mg "LONGEST_NAME" (.int 8)
 Xr:Gc mg "LARGEST_ROW" (.int 1000000000)
 anJ:Gc mg "MOST_IN_ORDER" (.int 4)
 ano:Gc mg "UP_AHEAD" (.str "+")
 ack:Gc mg "DOWN_AHEAD" (.str "-")
 Kl:Gc mg "START" (.str "start")
 Ec:Gc mg "END" (.str "end")
 ae6:Gc mg "AHEAD" (.str "ahead")
 adZ:Gc mg "BEHIND" (.str "behind")
 aca:Gc mg "MOST_WORDS" (.int 60)
 QL:Gc mg "MOST_WITHIN" (.int 20)
 Hw:Gc mg "ALL" (.str "all")
 Kz:Gc mg "NONE" (.str "none")
 V6:Gc mg "IS" (.str "is")
 Nj:Gc mg "UNDER" (.str "under")
 MN:Gc mg "OVER" (.str "over")
 EY:Gc mg "HOLDS" (.str "holds")
 Ig:Gc mg "NOT" (.str "not")
 Jm:Gc mg "BOTH" (.str "both")
 Yb:Gc mg "EITHER" (.str "either")
 agw:Gc mg "BASE" (.int 137)
 ae0:Gc mg "REST_BY" (.int 9973)
 akv:Gc mg "FIGURES_OF_CHECK" (.int 4)
 uw:Gc mg "LIVING" (.str "living")
 Bc:Gc mg "STILL" (.str "still")
 Nq:Gc mg "LATEST" (.int 5000)
 Ow:Gc mg "PARTS" (.int 5)
 Oh:Gc mg "PARTING_marks" (.str "/")
 Dq:Gc mg "STOP" (.str ".")
 afm:Gc mg "AHEAD_SIGN" (.str "<")
 aeA:Gc mg "BEHIND_SIGN" (.str ">")
 ajy:Gc mg "LARGEST_SIZE" (.int 100)
 XN:Gc mg "OK" (.str "ok")
 PX:Gc mg "PARTING_desk" (.str ":")
 ajh:Gc mg "BOOK" (.str "book")
 YQ:Gc mg "PUT" (.str "put")
 acg:Gc mg "CHANGE" (.str "change")
 ag3:Gc mg "TAKE" (.str "take")
 Gr:Gc mg "FIRST" (.str "first")
 an9:Gc mg "LAST" (.str "last")
 Fb:Gc mg "FORTH" (.str "forth")
 anM:Gc mg "BACK" (.str "back")
 aj4:Gc mg "PLACE" (.str "place")
 anx:Gc mg "LET" (.str "let")
 abJ:Gc mg "STOOD" (.str "stood")
 Ul:mg "all"=none
 alN:mg "bool"=none
 ajN:mg "dict"=none
 agJ:mg "enumerate"=none
 QV:mg "int"=none
 yz:mg "isinstance"=none
 bY:mg "len"=none
 pN:mg "list"=none
 aeV:mg "max"=none
 Mu:mg "min"=none
 Nu:mg "ord"=none
 Zj:mg "range"=none
 abu:mg "reversed"=none
 Td:mg "set"=none
 qU:mg "sorted"=none
 cY:mg "str"=none
 Ny:mg "tuple"=none
 Vo:mg "zip"=none
 adV:mg "LeafError"=↑(.ref (η mg "LeafError"))
 am4:mg "NoValue"=↑(.ref (η mg "NoValue"))
 amR:mg "Book"=↑(.ref (η mg "Book"))
 Vw:mg "Sieve"=↑(.ref (η mg "Sieve"))
 agh:mg "AllSieve"=↑(.ref (η mg "AllSieve"))
 ah9:mg "NoneSieve"=↑(.ref (η mg "NoneSieve"))
 agW:mg "NotSieve"=↑(.ref (η mg "NotSieve"))
 ai3:mg "Desk"=↑(.ref (η mg "Desk"))
 Yq:jF K mg "NoValue"
 zN:jF K mg "NoMark"
 vp:jF K mg "NoColumns"
 xY:jF K mg "NoOrder"
 ame:jF K mg "NoSize"
 akp:jF K mg "NoRow"
 pA:rP K mg "LeafError"
 abR:XC K mg "LeafError" "NoColumns"
 vh:XC K mg "LeafError" "NoValue"
 rC:XC K mg "LeafError" "NoOrder"
 al2:XC K mg "LeafError" "NoRow"
 xX:XC K mg "LeafError" "NoMark"
 amN:XC K mg "LeafError" "NoSize"
 ajX:XC K mg "LeafError" "NoLine"
 ady:XC K mg "LeafError" "NoBook"
 Bq:XC K mg "LeafError" "NoSieve"
 aeO:XC K mg "LeafError" "NoPage"
 ajz:XC K mg "LeafError" "Twice"
 aic:XC K mg "LeafError" "Absent"
 adh:XC K mg "LeafError" "Gone"
 adA:XC K mg "LeafError" "Later"
 xQ:nZ K mg "LeafError" "NoSieve" "NoSieve.__init__" "at" Vj
 zc:nZ K mg "LeafError" "Later" "Later.__init__" "now" abl
 yG:nZ K mg "LeafError" "Absent" "Absent.__init__" "row" Wy
 Cp:nZ K mg "LeafError" "Twice" "Twice.__init__" "row" Rq
 yN:nZ K mg "LeafError" "Gone" "Gone.__init__" "known" Wk
 agO:afu K (.ref (η mg "NoSieve")) "at"=↑none
 agg:afu K (.ref (η mg "Later")) "now"=↑none
 amB:afu K (.ref (η mg "Absent")) "row"=↑none
 agp:afu K (.ref (η mg "Twice")) "row"=↑none
 amd:afu K (.ref (η mg "Gone")) "known"=↑none
 Uk:[η mg "LeafError",η mg "NoColumns",η mg "NoValue",η mg "NoOrder",η mg "NoRow",η mg "NoMark",η mg "NoSize",η mg "NoLine",η mg "NoBook",η mg "NoSieve",η mg "NoPage",η mg "Twice",η mg "Absent",η mg "Gone",η mg "Later"].Nodup
 ώ:aH K (η mg "Book")
 alx:OI K (η mg "Book") "Book.__init__" aau
 Th:OM K (η mg "Book") "ask_row" "Book.ask_row" Su
 GZ:OM K (η mg "Book") "ask_there" "Book.ask_there" W7
 adX:OM K (η mg "Book") "change" "Book.change" W2
 lA:OM K (η mg "Book") "columns" "Book.columns" abi
 acK:OM K (η mg "Book") "deeds" "Book.deeds" yM
 Ht:OM K (η mg "Book") "do" "Book.do" yp
 HX:OM K (η mg "Book") "done_behind" "Book.done_behind" ZM
 ade:OM K (η mg "Book") "let_go" "Book.let_go" Xn
 yU:OM K (η mg "Book") "moment" "Book.moment" Us
 N8:OM K (η mg "Book") "now_rows" "Book.now_rows" Rv
 akS:OM K (η mg "Book") "put" "Book.put" X6
 Tn:OM K (η mg "Book") "rows_at" "Book.rows_at" Ia
 ala:OM K (η mg "Book") "since" "Book.since" W6
 aeD:OM K (η mg "Book") "take" "Book.take" LC
 Ek:ao K (η mg "Book") "heads"
 t8:ao K (η mg "Book") "rows"
 HS:ao K (η mg "Book") "touched"
 xV:ao K (η mg "Book") "done"
 HW:ao K (η mg "Book") "known"
 Ar:ao K (η mg "Book") "now"
 zV:aH K (η mg "AllSieve")
 anS:OI K (η mg "AllSieve") "Sieve.__init__" DP
 abU:OM K (η mg "AllSieve") "lets" "Sieve.lets" Od
 ad2:OM K (η mg "AllSieve") "shown" "Sieve.shown" Ba
 Qq:ao K (η mg "AllSieve") "text"
 vL:aH K (η mg "NoneSieve")
 aiC:OI K (η mg "NoneSieve") "NoneSieve.__init__" Mt
 aiv:OM K (η mg "NoneSieve") "lets" "NoneSieve.lets" VL
 aem:OM K (η mg "NoneSieve") "shown" "Sieve.shown" Ba
 Xd:ao K (η mg "NoneSieve") "text"
 Xc:ao K (η mg "NoneSieve") "place"
 wZ:aH K (η mg "NotSieve")
 aiu:OI K (η mg "NotSieve") "NotSieve.__init__" NK
 aga:OM K (η mg "NotSieve") "lets" "NotSieve.lets" Zc
 amb:OM K (η mg "NotSieve") "shown" "Sieve.shown" Ba
 Mi:ao K (η mg "NotSieve") "text"
 Vv:ao K (η mg "NotSieve") "one"
 au:aH K (η mg "Desk")
 ae5:OI K (η mg "Desk") "Desk.__init__" aaU
 T3:OM K (η mg "Desk") "begin_list" "Desk.begin_list" zK
 Oo:OM K (η mg "Desk") "let_moments_go" "Desk.let_moments_go" Jj
 M6:OM K (η mg "Desk") "new_book" "Desk.new_book" BR
 Rh:OM K (η mg "Desk") "put_or_change" "Desk.put_or_change" Dw
 vo:OM K (η mg "Desk") "say" "Desk.say" Gm
 ajk:OM K (η mg "Desk") "show_place" "Desk.show_place" Lp
 V9:OM K (η mg "Desk") "show_stood" "Desk.show_stood" qI
 ju:OM K (η mg "Desk") "standing" "Desk.standing" Nr
 abr:OM K (η mg "Desk") "take_out" "Desk.take_out" JK
 Uj:OM K (η mg "Desk") "turn_list" "Desk.turn_list" Aq
 Cd:ao K (η mg "Desk") "book"
 Tq:OB K (η mg "Sieve") "__init__" "Sieve.__init__" DP
def cX:Array ε:=Dr #[293,4,294,38] "sorted_by.<locals>.rank"
section
variable{P:ϲ}{w:Ϯ}{K:ϩ}{mg:MG}{base:ϫ}
abbrev al7:Prop:=∀{P:ϲ}{w:Ϯ}{K:ϩ}{mg:MG}{base:ϫ}(T:Txt K mg)(hN:Ϟ K mg base "sorted_by"){f:δ}{fd:ajR}(F:c7 K "law" "law" zq f fd),dJ P w K mg base (cJ P w) true 90 f fd ["_law_script"] (G6 K "sorted_by" cX)
end
end _K
section
open PySem PySem.W PyProof.Rows
open Lean in
local macro_rules(kind:=Lean.Parser.Command.universe)|s=>do
 let mut r:Array Syntax:=.empty
 for x in s[1].getArgs do
  let n:=x.getId
  let l:=n.toString.toList
  let k:=match l.head! with|'o'=>"o_"|'t'=>"tree_"|'h'=>"heap_"|'s'=>"sts_"|_=>"view_"
  let p:=if n.isAtomic then (String.ofList l.tail!).splitOn "x" |>.map (·.toNat!) else [0]
  for i in [p.head!:p.getLast!+1] do
   let m:=if n.isAtomic then Name.mkStr `PySem.Challenge.t0 s!"{k}{i}" else n
   r:=r.push (<-`(theorem $(mkIdent (`PySem.W.Fast++.mkSimple s!"tw{m.hash}")):ident:True:=⟨⟩))
 return mkNullNode r
universe o4x7 o10x659 o663x1537 h1538 t1537 t1528 h1 t1451 t1362 t1311 t1248 t1180 t1110 t1038 t1009 t987 v1 t965 t936 t914 PySem.Challenge.pw_turnleaf_k82_a_desk_refuses t892 t870 t855 t819 t790 t775 t731 t574 t659 t434 t372 s1452 t290 t261 t239 t217 s1039 t195 s1181 s1111 s1363 t173 s663 s1249 s435 t151 s291 t136 s373 t121 t106 s1312 t91 s1529 t76 s1010 s732 s262 t61 t46 s820 s937 s791 t31 s966 s240 s174 s152 s196 s218 s988 s871 s893 s10 s915 s32 s47 h7 s107 s122 s92 s62 s77 s137 s856 PySem.Challenge.rw_turnleaf_k82_a_desk_refuses s776 t8
set_option maxRecDepth 100000 in
set_option maxHeartbeats 0 in
set_option tactic.hygienic true in
theorem PySem.Challenge.t1(g:PySem.Challenge.rw_turnleaf_k82_a_desk_refuses.row.wellSaid=true→PySem.Challenge.rw_turnleaf_k82_a_desk_refuses.row.Holds):PySem.Challenge.rw_turnleaf_k82_a_desk_refuses.Holds:=by
 w_on;o_law;show g (by assumption)
set_option maxRecDepth 100000 in
set_option maxHeartbeats 0 in
set_option tactic.hygienic true in
theorem PySem.Challenge.t0(g:_K.al7)(G:PySem.Challenge.rw_turnleaf_k82_a_desk_refuses.row.wellSaid=true):PySem.Challenge.rw_turnleaf_k82_a_desk_refuses.row.Holds:=by
 have gs:_K.al7∧PySem.Challenge.rw_turnleaf_k82_a_desk_refuses.row.wellSaid=true:=⟨g,G⟩;k_head;(case hw=>w_witness2)
 intro g;k_fill
 show _L.aj0 (l:=PySem.Challenge.rw_turnleaf_k82_a_desk_refuses) (n:=63) (k:=90) (x:="_law_script") (xn:="sorted_by") (ps:=_K.cX) (CX:=λw=>_L.cJ PySem.Challenge.rw_turnleaf_k82_a_desk_refuses.prog w) (cc:=true) (sp:=λw=>_L.G6 _ "sorted_by" _K.cX) rfl (by decide) rfl #[λ_=>rfl,by decide,by decide] (λw h Y=>PySem.W.km_in_of Y) ?R ?B ?F (λ_ _ a ns i j m=>#[a,ns,rfl,j,i,m,λ_=>rfl]) (λ_ _ _ _ _ z=>_L.cJ.never z)
 case R=>kernel_rfl
 case B=>intro w;kernel_rfl
 case F=>
  intro w mg D h c G e;let T:_K.Txt (_L.M8 c) mg:=by
   clear g;dsimp only[_L.M8];constructor
   all_goals first|refine' _L.agu c G ..|refine' _L.ani c G ..|refine' _L.agc c G ..|refine' _L.aco c G ..|refine' _L.aew c G ..|refine' _L.aj3 c G ..|refine' _L.ac7 c G ..|refine' _L.ajO c G ..|refine' _L.amT c G ..|refine' _L.t_k c G ..|refine' _L.acs c G ..|refine' _L.acI c G ..|refine' _L.afV c G ..|refine' _L.am5 c G ..|refine' _L.ae1 c G ..|refine' _L.ajp c G ..|refine' _L.akF c G ..|refine' _L.aeF c G ..|refine' _L.akG (mg:=mg) (_L.fJ c G ?_ (_L.fJ c G ?_ (_L.fJ c G ?_ (_L.fJ c G ?_ (_L.fJ c G ?_ (_L.fJ c G ?_ (_L.fJ c G ?_ (_L.fJ c G ?_ (_L.fJ c G ?_ (_L.fJ c G ?_ (_L.fJ c G ?_ (_L.fJ c G ?_ (_L.fJ c G ?_ (_L.fJ c G ?_ (_L.fJ c G ?_ _L.kO.nil))))))))))))))) ?_
   any_goals try delta _L.cM
   any_goals try delta _L.pU
   any_goals first|k_is|k_exc|kernel_rfl|decide
  let#[f,fd,F,o]:=T.akB;let p:=e.symm<|>o;cases p;let#[oc,od,kV,q,pm,an,E,ct,v,rfl,lk,y]:=id F.ex;show#[_,λs u=>.of_eq rfl,λbase H I C=>g T C F]
end
namespace _L
open PySem PySem.Spec PyProof.Rows
def alr(i:Int)(t:Tok):tE (.inl i) (.int i t)=true:=by simp[tE,Value.isInt]
def al3(x:Str)(t:Tok):tE (.inr x) (.str x t)=true:=by simp[tE,Value.isStrOf]
theorem amf(prog:ϲ)(w:Ϯ)(i:Int)(t:Tok):(jV prog w).is (.inl i) (.int i t)=true:=alr i t
theorem ach(prog:ϲ)(w:Ϯ)(x:Str)(t:Tok):(jV prog w).is (.inr x) (.str x t)=true:=al3 x t
theorem Vals.length(r:Vals xs us):↥xs=↥us:=Paired.length r
theorem Vals.get:∀{xs:List V}{us:List ε}{i:Nat}{x:V},Vals xs us->xs[i]?=↑x->∃u,us[i]?=↑u/\RelV x u
 |_,_,_,_,.nil,e=>by simp at e
 |_,_,0,_,.cons r _,e=>by simp at e;subst e;show#[_,rfl,r]
 |_,_,i+1,x,.cons _ t,e=>by
  let#[u,h1,h2]:=Vals.get (i:=i) (x:=x) t (~~~e);show#[u,~~~h1,h2]
theorem Vals.append:∀{xs ys:List V}{us ws:List ε},Vals xs us->Vals ys ws->Vals (xs++ys) (us++ws)
 |_,_,_,_,.nil,s=>s
 |_,_,_,_,.cons r t,s=>.cons r (Vals.append t s)
theorem Vals.take:∀{xs:List V}{us:List ε}(n:Nat),Vals xs us->Vals (xs.take n) (us.take n)
 |_,_,0,_=>.nil
 |_,_,_+1,.nil=>.nil
 |_,_,n+1,.cons r t=>.cons r (Vals.take n t)
theorem Vals.drop:∀{xs:List V}{us:List ε}(n:Nat),Vals xs us->Vals (xs.drop n) (us.drop n)
 |_,_,0,r=>r
 |_,_,_+1,.nil=>.nil
 |_,_,n+1,.cons _ t=>Vals.drop n t
def kV:Key->V
 |.inl i=>.int i
 |.inr x=>.str x
theorem Ξ(h:n.ble 1000=true:=by rfl):n<=ϳ:=afG (asO h) (by rw[ϯ];decide)
def upd(H:Hp)(a:δ)(o:HO):Hp:=λb=>if b=a then some o else H b
def υ:upd H a o a=↑o:=by unfold upd;rw[if_pos rfl]
def ξ(h:b≠a):upd H a o b=H b:=by unfold upd;rw[if_neg h]
def ϔ{H:Hp}{o:HO}(h:H a=↑o)(h':H b=none):a≠b:=by
 intro e;subst e;rw[h]at h';cases h'
section
variable{P:ϲ}{w:Ϯ}{H H':Hp}{h h':ϫ}{a:δ}{o:HO}
def Ϝ.there(x:Ϝ P w H h a o):∃ob,h.get? a=↑ob:=by
 cases o with
 |lst xs=>let#[_,_,_,_,e]:=x;show#[_,e]
 |tup xs=>let#[_,_,_,ob,e,_]:=x;show#[_,e]
 |dK Ϸ=>let#[_,_,_,_,o,_,_,e,_]:=x;show#[_,e]
 |ins C dx fs=>let#[_,_,_,e,_]:=x;show#[_,e]
 |own y=>let#[_,e]:=x;show#[_,e]
 |xd fs=>let#[_,#[_,_,_,e,_],_]:=x;show#[_,e]
 |rng lo hi=>let#[_,_,_,e]:=x;show#[_,e]
 |frz ob u=>let#[e,_]:=x;show#[_,e]
 |tbl ps=>let#[_,e,_]:=x;show#[_,e]
 |met f y=>show#[_,(show h.get? a=↑_ from x)]
 |ext φ=>let#[_,#[_,e],_]:=x;show#[_,e]
def Ϝ.lt(x:Ϝ P w H h a o):a<h.objs.size:=by
 let#[_,e]:=x.there;show adw e
def Ϝ.stay(x:Ϝ P w H h a o)(k:∀b u,(b=a\/H b=↑(.own a))->h.get? b=↑u->h'.get? b=↑u)(l:∀b,H b=↑(.own a)->H' b=↑(.own a))(G:∀b xs,H b=↑(.tup xs)->H' b=↑(.tup xs))(m:∀b g u,H b=↑(.frz g u)->H' b=↑(.frz g u):=by show λ_ _ _ q=>q):Ϝ P w H' h' a o:=by
 induction o with
 |lst xs=>let#[z,i,n,r,e]:=x;show#[z,i,n,r,k _ _ (.inl rfl) e]
 |tup xs=>let#[z,i,r,g,e,c]:=x;show#[z,i,r,g,k _ _ (.inl rfl) e,c]
 |dK Ϸ=>let#[z,y,vs,r,g,es,ep,e,c]:=x;show#[z,y,vs,r,g,es,ep,k _ _ (.inl rfl) e,c]
 |ins C dx fs=>
  let#[d,z,ne,e,mA,#[od,es,ep,j,c],r]:=x;show#[l _ d,z,ne,k _ _ (.inl rfl) e,mA,#[od,es,ep,k _ _ (.inr d) j,c],r]
 |own y=>let#[g,e]:=x;show#[g,k _ _ (.inl rfl) e]
 |xd fs=>let#[mA,#[od,es,ep,e,c],r]:=x;show#[mA,#[od,es,ep,k _ _ (.inl rfl) e,c],r]
 |rng lo hi=>let#[t,u,v,e]:=x;show#[t,u,v,k _ _ (.inl rfl) e]
 |frz g u s=>let#[e,q]:=x;show#[k _ _ (.inl rfl) e,s q]
 |tbl ps=>
  let#[B,e,tr,z]:=x;show#[B,k _ _ (.inl rfl) e,tr,λp D hc=>?_];let#[c,oc,u,q,t,vs,t',e1,j,E,F]:=z p D hc;show#[c,oc,u,q,t,vs,t',e1,j,m _ _ _ E,F]
 |met f y=>
  let e:h.get? a=↑(atF (.ref f) (.ref y)):=x;show h'.get? a=↑(atF (.ref f) (.ref y));show k a _ (.inl rfl) e
 |ext φ=>let#[p,#[o,e],st]:=x;show#[st _ _ p λo q=>k _ _ (.inl rfl) q,#[o,k _ _ (.inl rfl) e],st]
theorem aM.lt(x:aM P w H h)(e:H a=↑o):a<h.objs.size:=(x a o e).lt
def aM.fresh(x:aM P w H h)(e:h.objs.size<=a):H a=none:=by
 cases q:H a with
 |none=>rfl
 |some u=>show absurd (adk (x.lt q) e) (alQ _)
theorem aM.kept(x:aM P w H h)(k:∀b u,h.get? b=↑u->h'.get? b=↑u):aM P w H h':=λa o e=>
 (x a o e).stay (λb u _ q=>k b u q) (λ_ q=>q) λ_ _ q=>q
theorem aM.laid(x:aM P w H h)(k:∀b u,h.get? b=↑u->h'.get? b=↑u)(hp:h.objs.size<=a)(f:Ϝ P w (upd H a o) h' a o):aM P w (upd H a o) h':=λb u e=>by
 let g:=x.fresh hp;by_cases i:b=a
 .subst i;rw[υ]at e;cases e;show f
 .rw[ξ i]at e;show(x b u e).stay (λc v _ q=>k c v q) (λc q=>by rw[ξ (ϔ q g)];show q) (λc xs q=>by rw[ξ (ϔ q g)];show q) λc j v q=>by rw[ξ (ϔ q g)];show q
end
def Rd.ok(r:Rd H a u)(x:aM P w H h):Ϝ P w H h a u:=by
 obtain r|⟨o,r⟩:=r
 .show x a u r
 .let#[_,q]:=x a _ r;show q
def vd:Option HO->Prop
 |some (.lst _)=>True
 |some (.dK _)=>True
 |some (.ins _ _ _)=>True
 |some (.ext _)=>True
 |_=>False
theorem aM.write(ok:aM P w H h)(g:vd (H x))(n:e=x\/H e=↑(.own x))(k:∀b u,b≠e->h.get? b=↑u->h'.get? b=↑u)(l:∃u,h'.get? e=↑u)(m:Ϝ P w (upd H x o') h' x o'):aM P w (upd H x o') h':=λb u q=>by
 let f:∀c y,H c=↑(.own y)->c≠x:=λc y r z=>by subst z;rw[r]at g;show g
 let i:∀c xs,H c=↑(.tup xs)->c≠x:=λc xs r z=>by subst z;rw[r]at g;show g
 by_cases j:b=x
 .subst j;rw[υ]at q;cases q;show m
 .rw[ξ j]at q;by_cases a:b=e
  .let o:H b=↑(.own x):=by
    obtain z|z:=n
    .show absurd (a<|>z) j
    .rw[a];show z
   rw[q]at o;cases o;let#[v,p]:=l;show#[v,by rw[a];show p]
  .show(ok b u q).stay (λc v hc r=>k c v ?_ r) (λc r=>by rw[ξ (f c b r)];show r) (λc xs r=>by rw[ξ (i c xs r)];show r) λc s v r=>by rw[ξ (λz=>by subst z;rw[r]at g;show g)];show r
   obtain rfl|hc:=hc
   .show a
   .rintro rfl
    obtain z|z:=n
    .show f c b hc z
    .rw[hc]at z;cases z;show j rfl
section
variable{fs fs' ex ex':List δ}{H H1 H2:Hp}{h h1 h2 h':ϫ}{a x e:δ}{o:HO}
def Un.any(u:Un fs ex H H1 h h1){a:Obj}(q:h.get? b=↑a)(n:H b=none)(c:b∉ex):∃sl,h1.get? b=some {a with slots:=sl}:=by
 by_cases e:b∈fs
 .show u.slot b a q n e c
 .show#[a.slots,u.keep b a q n e c]
theorem Un.kept(k:∀b u,h.get? b=↑u->h'.get? b=↑u):Un fs ex H H h h':=
 #[λb a q _ _ _=>k b a q,λb a q _ _ _=>#[a.slots,k b a q],λ_ _ _ n _=>n,λb a q _=>#[a,k b a q],λ_ _ q=>q,λ_ _ _ q=>q,λ_ ps q=>#[#v[],by rw[q];simp]]
theorem Un.refl:Un fs ex H H h h:=Un.kept λ_ _ q=>q
theorem Un.laid(k:∀b u,h.get? b=↑u->h'.get? b=↑u)(hp:h.objs.size<=a)(c:H a=none):Un fs ex H (upd H a o) h h' where
 keep:=λb u q _ _ _=>k b u q
 slot:=λb u q _ _ _=>#[u.slots,k b u q]
 free:=λb u q n _=>by rw[ξ (adn (adk (adw q) hp))];show n
 there:=λb u q _=>#[u,k b u q]
 tups:=λb xs q=>by rw[ξ (ϔ q c)];show q
 frzs:=λb u xs q=>by rw[ξ (ϔ q c)];show q
 tbls:=λb ps q=>#[#v[],by rw[ξ (ϔ q c),q];simp]
def Un.write(c:vd (H x))(l:e=x\/H e=↑(.own x))(k:∀b u,b≠e->h.get? b=↑u->h'.get? b=↑u)(f:∃u,h'.get? e=↑u):Un fs ex H (upd H x o) h h':=by
 let i:∀b,H b=none->b≠x:=λb n z=>by subst z;rw[n]at c;show c
 let j:∀b,H b=none->b≠e:=λb n z=>by
  subst z;obtain r|r:=l
  .show i b n r
  .rw[n]at r;cases r
 let g:∀b u,H b=↑u->¬vd ↑u->b≠x:=λb u q nm z=>by subst z;rw[q]at c;show nm c
 show#[λb u q n _ _=>k b u (j b n) q,λb u q n _ _=>#[u.slots,k b u (j b n) q],λb u q n _=>by rw[ξ (i b n)];show n,λb u q _=>?_,
  λb xs q=>by rw[ξ (g b _ q λz=>z)];show q,λb u xs q=>by rw[ξ (g b _ q λz=>z)];show q,λb ps q=>#[#v[],by rw[ξ (g b _ q λz=>z),q];simp]]
 by_cases a:b=e
 .subst a;show f
 .show#[u,k b u a q]
end
def amK(g h:ϫ)(L:δ):List (δ×Obj):=(agB h.objs.size).filterMap λa=>if a=L\/(g.get? a).isSome=true then none else(h.get? a).map λo=>(a,o)
def rest(g h:ϫ)(L d:δ):List (δ×Obj):=(amK g h L).filter λp=>decide (p.1≠d)
structure Cx where
 prog:ϲ
 w:Ϯ
 K:ϩ
 mg:Str->Option ε
 base:ϫ
 A:ϴ
 N:List Str
 s₀:ν
 H₀:Hp
 env:Env
 outer:List Env
 stack:List Env
 ex:List δ
 fn:Str->Bool
 calm:Bool
 pn:List (δ×Obj)
 xe:ε->ν->Prop
abbrev Cx.fs(X:Cx):List δ:=cH X.outer
def sS(sc:ajd)(x:Str):Prop:=sc.names.lookup x=↑.local\/sc.names.lookup x=↑.cell\/sc.names.lookup x=↑.free
def Loc(sc:ajd)(x:Str):Prop:=sc.names.lookup x=↑.local\/sc.names.lookup x=↑.cell
def Look(env:Env)(h:ϫ)(m:MG)(x:Str)(u:ε):Prop:=
 (env.kindOf x=↑.local/\m x=↑u)\/((env.kindOf x=↑.cell\/env.kindOf x=↑.free)/\∃c,env.cells.lookup x=↑c/\h.IsCell c ↑u)
structure Cx.Ok(X:Cx):Prop where
 mod:Mod X.K X.mg X.base
 kind:X.env.scope.kind=.function
 glob:X.env.globals=mainGlobals
 blt:X.env.builtins=builtinsNs
 above:X.s₀.heap.objs.size<=X.env.locals
 inj:∀x y c,X.env.cells.lookup x=↑c->X.env.cells.lookup y=↑c->x=y
 has:∀x,(X.env.kindOf x=↑.cell\/X.env.kindOf x=↑.free)->∃c,X.env.cells.lookup x=↑c
 cab:∀x c,X.fn x=true->X.env.cells.lookup x=↑c->X.s₀.heap.objs.size<=c
 hd:X.calm=true->X.A.handled=none
 frames:X.A.frames=↑X.stack
 stk:X.stack=X.outer\/(X.stack=X.env::X.outer/\X.env.frame=↑X.env.locals)
 exf:∀b∈X.ex,b≠X.env.locals/\∀x c,X.env.cells.lookup x=↑c->c≠b
 bs:∀b o,X.base.get? b=↑o->X.s₀.heap.get? b=↑o/\X.H₀ b=none
 bsz:X.base.objs.size<=X.s₀.heap.objs.size
 noex:∀b o,X.base.get? b=↑o->b∉X.ex
 exfs:∀b∈X.ex,b∉X.fs
 funs:X.s₀.heap.FunFrames X.base X.outer
 frf:∀b∈X.fs,X.H₀ b=none
structure Inv(X:Cx)(ϵ:List (δ×Obj))(σ:List (Option V))(H:Hp)(s:ν):Prop where
 ok:X.Ok
 os:s.os=X.s₀.os
 bare:AllBare s.gens
 base:Un X.fs X.ex X.H₀ H X.s₀.heap s.heap
 loc:∃m,s.heap.Ns X.env.locals m/\∀(i:Nat)(x:Str)(v:V),X.N[i]?=↑x->σ[i]?=some ↑v->sS X.env.scope x->∃u,RelV v u/\Look X.env s.heap m x u
 cell:∀x c,X.env.cells.lookup x=↑c->∃v,s.heap.IsCell c v
 free:H X.env.locals=none
 freeC:∀x c,X.env.cells.lookup x=↑c->H c=none
 pin:∀p∈X.pn++ϵ,s.heap.get? p.1=↑p.2/\H p.1=none/\p.1≠X.env.locals/\p.1∉X.fs/\∀v,p.2.data≠.cell v
 hok:aM X.prog X.w H s.heap
 len:↥σ=↥X.N
section
variable{X:Cx}{ϵ:List (δ×Obj)}{σ:List (Option V)}{H H':Hp}{s:ν}{h':ϫ}
theorem Cx.Ok.nofr(ok:X.Ok)(e:X.base.get? b=↑o):b∉X.fs:=λa=>by
 have:=(ok.funs.mem a).1;rw[e]at this;cases this
theorem Inv.bs(I:Inv X ϵ σ H s):∀b o,X.base.get? b=↑o->s.heap.get? b=↑o/\H b=none:=λb o e=>
 #[I.base.keep b o (I.ok.bs b o e).1 (I.ok.bs b o e).2 (I.ok.nofr e) (I.ok.noex b o e),I.base.free b o (I.ok.bs b o e).1 (I.ok.bs b o e).2 (I.ok.noex b o e)]
theorem Inv.bk(I:Inv X ϵ σ H s):∀b o,X.base.get? b=↑o->s.heap.get? b=↑o:=λb o e=>(I.bs b o e).1
theorem Inv.mod(I:Inv X ϵ σ H s):Mod X.K X.mg X.base:=I.ok.mod
theorem Inv.kIn(I:Inv X ϵ σ H s):X.K.In s.heap:=I.ok.mod.kin.keeps I.bk
theorem Inv.nolimit(I:Inv X ϵ σ H s):s.heap.NoLimit:=I.ok.mod.nolimit.keeps I.bk
theorem Inv.lt(I:Inv X ϵ σ H s):X.env.locals<⇑s:=let⟨_,hn,_⟩:=I.loc;hn.lt
theorem Inv.sz(I:Inv X ϵ σ H s):X.s₀.heap.objs.size<=⇑s:=afG I.ok.above (arh I.lt)
theorem Inv.nofs(I:Inv X ϵ σ H s){a:δ}(h:⇑s<=a):a∉X.fs:=λc=>by
 let#[_,o,e,_]:=I.ok.funs.mem c;show absurd (adk (adw e) (afG I.sz h)) (alQ _)
theorem Inv.cne(I:Inv X ϵ σ H s):∀x c,X.env.cells.lookup x=↑c->c≠X.env.locals:=λx c e z=>by
 let#[v,o,g,hd]:=I.cell x c e;let#[m,#[o',es,ep,a,f,_],_]:=I.loc;rw[z,a]at g;cases g;rw[f]at hd;cases hd
def Inv.funs(I:Inv X ϵ σ H s):s.heap.FunFrames X.base X.outer:=by
 let all:∀(l:List Env),(∀b∈cH l,b∈X.fs)->X.s₀.heap.FunFrames X.base l->s.heap.FunFrames X.base l:=by
  intro l;induction l with
  |nil=>intro _ _;trivial
  |cons env r g=>
   intro hs i;let#[j,#[L,o,a,m,n,hd],p]:=i;let c:L∈X.fs:=hs L (by unfold cH;rw[asb,a];show adS);let#[sl,e]:=I.base.slot L o n (I.ok.frf L c) c λz=>I.ok.exfs L z c
   show#[j,#[L,_,a,m,e,hd],g (λb f=>hs b (by unfold cH;rw[asb,a];show acw _ f)) p]
 show all X.outer (λ_ f=>f) I.ok.funs
def Inv.stack(I:Inv X ϵ σ H s):s.heap.FunFrames X.base X.stack:=by
 obtain e|⟨e,a⟩:=I.ok.stk
 .rw[e];show I.funs
 .rw[e];let#[m,c,_]:=I.loc;show .cons (by rw[I.ok.kind];decide) a c ?_ I.funs*>alb (afG I.ok.bsz I.ok.above)
theorem Inv.stkSub(I:Inv X ϵ σ H s):∀b∈cH X.stack,b∈X.env.locals::X.fs:=λb a=>by
 obtain e|⟨e,c⟩:=I.ok.stk
 .rw[e]at a;show acw _ a
 .rw[e]at a;unfold cH at a;rw[asb,c]at a;show a
theorem Inv.stkFree(I:Inv X ϵ σ H s):∀b∈cH X.stack,H b=none:=λb hb=>by
 rcases aaT.mp (I.stkSub b hb)with e|hb
 .rw[e];show I.free
 .let#[_,o,a,_]:=I.ok.funs.mem hb;show I.base.free b o a (I.ok.frf b hb) λz=>I.ok.exfs b z hb
def Inv.step{t':Nat}{d':Drawn}{ch:List δ}(I:Inv X ϵ σ H s)(f:∀b∈ch,(b∈X.ex\/X.s₀.heap.get? b=none)/\b≠X.env.locals/\(∀x c,X.env.cells.lookup x=↑c->c≠b)/\∀p∈X.pn++ϵ,p.1≠b)(keep:∀b o,b≠X.env.locals->b∉X.fs->b∉ch->s.heap.get? b=↑o->H b=none->h'.get? b=↑o)(slot:∀b o,b≠X.env.locals->b∈X.fs->b∉ch->s.heap.get? b=↑o->H b=none->∃sl,h'.get? b=some {o with slots:=sl})(free:∀b o,b∉ch->s.heap.get? b=↑o->H b=none->H' b=none)(there:∀b o,b∉ch->s.heap.get? b=↑o->∃o',h'.get? b=↑o')(tups:∀b xs,H b=↑(.tup xs)->H' b=↑(.tup xs))(frzs:∀b o u,H b=↑(.frz o u)->H' b=↑(.frz o u))(tbls:∀b ps,H b=↑(.tbl ps)->∃D,H' b=↑(.tbl (ps++D)))(ns:∀m,s.heap.Ns X.env.locals m->h'.Ns X.env.locals m)(hok:aM X.prog X.w H' h')(L:AllBare g'):Inv X ϵ σ H' {s with heap:=h',gens:=g',drawn:=d',toks:=t'}:=by
 let E:∀b o,X.s₀.heap.get? b=↑o->b≠X.env.locals:=λb o e=>adn (adk (adw e) I.ok.above)
 let y:∀b o,X.s₀.heap.get? b=↑o->b∉X.ex->b∉ch:=λb o e a B=>by
  rcases(f b B).1 with z|z
  .show a z
  .rw[e]at z;cases z
 let g:∀x c,X.env.cells.lookup x=↑c->∀v,s.heap.IsCell c v->h'.IsCell c v:=λx c e v ⟨o,C,hd⟩=>by
  let j:c∉ch:=λz=>(f c z).2.2.1 x c e rfl
  by_cases hc:c∈X.fs
  .let#[sl,q]:=slot c o (I.cne x c e) hc j C (I.freeC x c e);show#[_,q,hd]
  .show#[o,keep c o (I.cne x c e) hc j C (I.freeC x c e),hd]
 show#[I.ok,I.os,L,#[λb o e n B a=>?_,λb o e n B a=>?_,λb o e n a=>?_,λb o e a=>?_,λb xs e=>tups b xs (I.base.tups b xs e),λb o xs e=>frzs b o xs (I.base.frzs b o xs e),λb ps e=>?_],?_,λx c e=>?_,?_,λx c e=>?_,λp hp=>?_,hok,I.len]
 .show keep b o (E b o e) B (y b o e a) (I.base.keep b o e n B a) (I.base.free b o e n a)
 .let#[sl,e1]:=I.base.slot b o e n B a;let#[G,F]:=slot b _ (E b o e) B (y b o e a) e1 (I.base.free b o e n a);show#[G,F]
 .let#[o',e1]:=I.base.there b o e a;show free b o' (y b o e a) e1 (I.base.free b o e n a)
 .let#[o',e1]:=I.base.there b o e a;show there b o' (y b o e a) e1
 .let#[M,e1]:=I.base.tbls b ps e;let#[O,F]:=tbls b _ e1;show#[M++O,by rw[F,Array.append_assoc]]
 .let#[m,P,Q]:=I.loc;show#[m,ns m P,λi x v e1 F R=>?_];let#[u,r,l]:=Q i x v e1 F R;show#[u,r,?_];obtain l|⟨k,c,e,z⟩:=l
  .show .inl l
  .show .inr #[k,c,e,g x c e _ z]
 .let#[v,z]:=I.cell x c e;show#[v,g x c e v z]
 .let#[m,#[o,_,_,C,_],_]:=I.loc;show free _ o (λz=>(f _ z).2.1 rfl) C I.free
 .let#[v,o,C,hd]:=I.cell x c e;show free c o (λz=>(f c z).2.2.1 x c e rfl) C (I.freeC x c e)
 .let#[e,n,ne,J,d]:=I.pin p hp;let j:p.1∉ch:=λz=>(f p.1 z).2.2.2 p hp rfl
  show#[keep p.1 p.2 ne J j e n,free p.1 p.2 j e n,ne,J,d]
def Inv.un(I:Inv X ϵ σ H s)(u:Un X.fs [] H H' s.heap h')(hok:aM X.prog X.w H' h'):Inv X ϵ σ H' {s with heap:=h',toks:=t'}:=by
 let#[m,#[o,es,ep,i,r],_]:=id I.loc;let#[sl,j]:=u.any i I.free (by simp);show I.step (g':=s.gens) (d':=s.drawn) (ch:=[]) (λ_ z=>nomatch z) (λb o _ c _ e n=>u.keep b o e n c (by simp)) (λb o _ c _ e n=>u.slot b o e n c (by simp)) (λb o _ e n=>u.free b o e n (by simp)) (λb o _ e=>u.there b o e (by simp)) u.tups u.frzs u.tbls (λm' l=>by
  let#[o',f,g,a,p]:=l;rw[i]at a;cases a;show#[_,f,g,j,p]) hok I.bare
def Inv.call(I:Inv X ϵ σ H s)(u:Un (cH X.stack) ch H H' s.heap h')(hok:aM X.prog X.w H' h')(q:AllBare g')(a:∀b∈ch,(b∈X.ex\/X.s₀.heap.get? b=none)/\b≠X.env.locals/\(∀x c,X.env.cells.lookup x=↑c->c≠b)/\∀p∈X.pn++ϵ,p.1≠b):Inv X ϵ σ H' {s with heap:=h',gens:=g',drawn:=d',toks:=t'}:=by
 let#[m,#[o,es,ep,l,r],_]:=id I.loc;let#[sl,g]:=u.any l I.free λz=>(a _ z).2.1 rfl
 show I.step (ch:=ch) a (λb o g v hc e n=>u.keep b o e n (λz=>(aaT.mp (I.stkSub b z)).elim g v) hc) (λb o _ _ hc e n=>u.any e n hc) (λb o hc e n=>u.free b o e n hc) (λb o hc e=>u.there b o e hc) u.tups u.frzs u.tbls (λm' y=>by
  let#[o',i,j,f,B]:=y;rw[l]at f;cases f;show#[_,i,j,g,B]) hok q
def Inv.turned(I:Inv X ϵ σ H s)(k:∀b o,b≠it->s.heap.get? b=↑o->h'.get? b=↑o)(g:H it=none)(f:it≠X.env.locals)(h1:it∈X.ex\/X.s₀.heap.get? it=none)(h2:∀x c,X.env.cells.lookup x=↑c->c≠it)(i:∀p∈X.pn++ϵ,p.1≠it):Inv X ϵ σ H {s with heap:=h',toks:=t'}:=by
 let a:∀b u,H b=↑u->b≠it:=λb u e z=>by rw[z,g]at e;cases e
 show I.step (g':=s.gens) (d':=s.drawn) (ch:=[it]) (λb j=>?_) (λb o _ _ hc e _=>k b o (λz=>hc (by simp[z])) e) (λb o _ _ hc e _=>#[o.slots,k b o (λz=>hc (by simp[z])) e]) (λ_ _ _ _ n=>n)
  (λb o hc e=>#[o,k b o (λz=>hc (by simp[z])) e]) (λ_ _ e=>e) (λ_ _ _ e=>e) (λb ps e=>#[#v[],by rw[e];simp]) (λm l=>?_) (λb u e=>?_) I.bare
 .let e:b=it:= ~~~j
  subst e;show#[h1,f,h2,i]
 .let#[o,es,ep,y,r]:=l;show#[o,es,ep,k _ o (Ne.symm f) y,r]
 .show(I.hok b u e).stay (λc v hc q=>k c v ?_ q) (λ_ q=>q) λ_ _ q=>q
  obtain z|z:=hc
  .rw[z];show a b u e
  .show a c _ z
theorem Inv.tok(I:Inv X ϵ σ H s)(t:Nat):Inv X ϵ σ H {s with toks:=t}:=I.un (h':=s.heap) (t':=t) Un.refl I.hok
theorem Inv.kept(I:Inv X ϵ σ H s)(k:∀b u,s.heap.get? b=↑u->h'.get? b=↑u):Inv X ϵ σ H {s with heap:=h',toks:=t'}:=I.un (Un.kept k) (I.hok.kept k)
theorem Inv.laid{a:δ}{t':Nat}(I:Inv X ϵ σ H s)(k:∀b u,s.heap.get? b=↑u->h'.get? b=↑u)(hp:⇑s<=a)(c:Ϝ X.prog X.w (upd H a o) h' a o):Inv X ϵ σ (upd H a o) {s with heap:=h',toks:=t'}:=I.un (Un.laid k hp (I.hok.fresh hp)) (I.hok.laid k hp c)
theorem Inv.write(I:Inv X ϵ σ H s)(f:vd (H x))(g:e=x\/H e=↑(.own x))(k:∀b u,b≠e->s.heap.get? b=↑u->h'.get? b=↑u)(a:∃u,h'.get? e=↑u)(c:Ϝ X.prog X.w (upd H x o) h' x o):Inv X ϵ σ (upd H x o) {s with heap:=h',toks:=t'}:=I.un (Un.write f g k a) (I.hok.write f g k a c)
theorem Inv.weak(I:Inv X ϵ σ H s)(a:↥σ'=↥σ)(w:∀(i:Nat) v,σ'[i]?=some ↑v->σ[i]?=some ↑v):Inv X ϵ σ' H s:=
 #[I.ok,I.os,I.bare,I.base,let⟨m,hn,hl'⟩:=I.loc;#[m,hn,λi x v e1 c e=>hl' i x v e1 (w i v c) e],I.cell,I.free,I.freeC,I.pin,I.hok,a<|>I.len]
theorem Inv.pins_of(I:Inv X ϵ σ H s)(h:∀p∈pins',s.heap.get? p.1=↑p.2/\H p.1=none/\p.1≠X.env.locals/\p.1∉X.fs/\∀v,p.2.data≠.cell v):Inv X pins' σ H s:=
 #[I.ok,I.os,I.bare,I.base,I.loc,I.cell,I.free,I.freeC,λp hp=>(agq.mp hp).elim (λz=>I.pin p (aiP _ z)) (h p),I.hok,I.len]
def Jf{N:List Str}(c:N.Nodup){i j:Nat}(a:N[i]?=↑x)(b:N[j]?=↑x):i=j:=by
 let#[h1,e1]:=aas.mp a;let#[h2,e]:=aas.mp b;show(arx c).mp (e1<|>e.symm)
def qX(I:Inv X ϵ σ H s)(hN:X.N.Nodup)(hi:X.N[i]?=↑x)(g:Loc X.env.scope x)(r:RelV v u)(h:∀s',Inv X ϵ (σ.set i ↑v) H s'->(∃a,anE a s.heap s'.heap/\(a=X.env.locals\/X.env.cells.lookup x=↑a))->Q PUnit.unit s')(hf:X.fn x=true\/X.env.scope.names.lookup x=↑.local:=by first|show .inl rfl|show .inr rfl|assumption):Ϧ M A (storeName X.env x u) Q E s:=by
 let#[m,U,hl]:=id I.loc;let J:(X.env.scope.kind==.class||(X.env.scope.kind==.module&&X.env.locals !=X.env.globals))=false:=by rw[I.ok.kind];rfl
 let C:i<↥σ:=by rw[I.len];show(aas.mp hi).1
 let cne:=I.cne;let f:∀{a:δ}{h':ϫ},(∃o,s.heap.get? a=↑o/\H a=none)->anE a s.heap h'->aM X.prog X.w H h':=λ{a h'} ha hs b ob e=>by
  let#[_,_,l]:=ha;show(I.hok b ob e).stay (λc S hc q=>(hs.2 c ?_).trans q) (λ_ q=>q) λ_ _ q=>q
  rintro rfl
  obtain rfl|hc:=hc
  .rw[l]at e;cases e
  .rw[l]at hc;cases hc
 obtain hk|hk:=g
 .show wpAny_storeName_local hk U (λh' W hs=>?_) J;let#[oL,_,_,Y,_]:=id U;show h _ #[I.ok,I.os,I.bare,#[λb o e n D g=>?_,λb o e n D g=>?_,I.base.free,λb o e g=>?_,I.base.tups,I.base.frzs,I.base.tbls],#[_,W,λj y Z e1 B e3=>?_],λy c e=>?_,I.free,I.freeC,λp hp=>?_,f #[oL,Y,I.free] hs,~~~I.len] #[_,hs,.inl rfl]
  .show(hs.2 b (adn (adk (adw e) I.ok.above))).trans (I.base.keep b o e n D g)
  .let#[sl,e1]:=I.base.slot b o e n D g;show#[sl,(hs.2 b (adn (adk (adw e) I.ok.above)))<|>e1]
  .let#[o',e1]:=I.base.there b o e g;show#[o',(hs.2 b (adn (adk (adw e) I.ok.above)))<|>e1]
  .by_cases F:j=i
   .subst F;rw[hi]at e1;cases e1;rw[aoO C]at B;cases B;show#[u,r,.inl #[hk,by simp]]
   .rw[arZ (Ne.symm F)]at B;let#[u',r',q]:=hl j y Z e1 B e3;show#[u',r',?_];obtain⟨k,e⟩|⟨k,c,e,z⟩:=q
    .show .inl #[k,?_];have:y≠x:=λe=>F (Jf hN e1 (e▸hi))
     simp[this,e]
    .show .inr #[k,c,e,z.sameBut hs (cne y c e)]
  .let#[S,z]:=I.cell y c e;show#[S,z.sameBut hs (cne y c e)]
  .let#[e,n,ne,nf,d]:=I.pin p hp;show#[(hs.2 p.1 ne)<|>e,n,ne,nf,d]
 .let G:X.fn x=true:=by
   obtain z|z:=hf
   .show z
   .rw[z]at hk;cases hk
  let#[c,hc]:=I.ok.has x (.inl hk);let#[S,z]:=I.cell x c hc;show wpAny_storeName_cell I.ok.kind hk hc z (λh' L hs=>?_);let#[oc,O,P]:=id z;show h {s with heap:=h'} #[I.ok,I.os,I.bare,#[λb o e n D g=>?_,λb o e n D g=>?_,I.base.free,λb o e g=>?_,I.base.tups,I.base.frzs,I.base.tbls],#[m,U.sameBut hs (Ne.symm (cne x c hc)),λj y Z e1 B e3=>?_],λy T e=>?_,I.free,I.freeC,λp hp=>?_,f #[oc,O,I.freeC x c hc] hs,~~~I.len] #[c,hs,.inr hc]
  .show(hs.2 b (adn (adk (adw e) (I.ok.cab x c G hc)))).trans (I.base.keep b o e n D g)
  .let#[sl,e1]:=I.base.slot b o e n D g;show#[sl,(hs.2 b (adn (adk (adw e) (I.ok.cab x c G hc))))<|>e1]
  .let#[o',e1]:=I.base.there b o e g;show#[o',(hs.2 b (adn (adk (adw e) (I.ok.cab x c G hc))))<|>e1]
  .by_cases F:j=i
   .subst F;rw[hi]at e1;cases e1;rw[aoO C]at B;cases B;show#[u,r,.inr #[.inl hk,c,hc,L]]
   .rw[arZ (Ne.symm F)]at B;let#[u',r',q]:=hl j y Z e1 B e3;show#[u',r',?_];obtain q|⟨k,T,e,z'⟩:=q
    .show .inl q
    .show .inr #[k,T,e,z'.sameBut hs ?_]
     rintro rfl
     show F (Jf hN e1 (I.ok.inj _ _ _ e hc▸hi))
  .by_cases R:T=c
   .subst R;show#[_,L]
   .let#[w2,z2]:=I.cell y T e;show#[w2,z2.sameBut hs R]
  .let#[e,n,ne,nf,d]:=I.pin p hp;show#[(hs.2 p.1 ?_)<|>e,n,ne,nf,d];intro q;rw[q,O]at e;let q':oc=p.2:=Option.some.inj e;show d S (by rw[<-q'];show P)
theorem Qt(I:Inv X ϵ σ H s)(a:X.N.Nodup)(hi:X.N[i]?=↑x)(c:Loc X.env.scope x)(r:RelV v u)(h:∀s',Inv X ϵ (σ.set i ↑v) H s'->Q PUnit.unit s')(e:X.fn x=true\/X.env.scope.names.lookup x=↑.local:=by first|show .inl rfl|show .inr rfl|assumption):Ϧ M A (storeName X.env x u) Q E s:=
 qX I a hi c r (λs' f _=>h s' f) e
def Inv.call'(I:Inv X ϵ σ H s)(f:s'.os=s.os)(u:Un (cH X.stack) ch H H' s.heap s'.heap)(hok:aM X.prog X.w H' s'.heap)(g:AllBare s'.gens)(a:∀b∈ch,(b∈X.ex\/X.s₀.heap.get? b=none)/\b≠X.env.locals/\(∀x c,X.env.cells.lookup x=↑c->c≠b)/\∀p∈X.pn++ϵ,p.1≠b):Inv X ϵ σ H' s':=by
 let#[h',g',d',t',o']:=s';let e:o'=s.os:=f;subst e;show I.call (g':=g') (t':=t') (d':=d') u hok g a
end
abbrev St:=List (Option V)
abbrev TE:=St->Hp->VK->Prop
abbrev TT:=St->Hp->(Bool->Hp->Prop)->Prop
abbrev TA:=St->Hp->(List V->Hp->Prop)->Prop
structure Ends where
 nx:St->Hp->Prop
 rt:VK
 bk:St->Hp->Prop:=λ_ _=>False
 ct:St->Hp->Prop:=λ_ _=>False
abbrev TS:=Ends->St->Hp->Prop
def EP(X:Cx)(ϵ:List (δ×Obj))(σ:St)(Q:VK)(u:ε)(s':ν):=∃v H',Inv X ϵ σ H' s'/\RelV v u/\Q v H'
def TP(X:Cx)(ϵ:List (δ×Obj))(σ:St)(Q:Bool->Hp->Prop)(b:Bool)(s':ν):=∃H',Inv X ϵ σ H' s'/\Q b H'
def AP(X:Cx)(ϵ:List (δ×Obj))(σ:St)(Q:List V->Hp->Prop)(us:List ε)(s':ν):=∃vs H',Inv X ϵ σ H' s'/\Vals vs us/\Q vs H'
def SP(X:Cx)(ϵ:List (δ×Obj))(D:Ends)(f:Flow)(s':ν):Prop:=
 match f with
 |.next=>∃σ' H',Inv X ϵ σ' H' s'/\D.nx σ' H'
 |.brk=>∃σ' H',Inv X ϵ σ' H' s'/\D.bk σ' H'
 |.cont=>∃σ' H',Inv X ϵ σ' H' s'/\D.ct σ' H'
 |.ret u=>∃v σ' H',Inv X ϵ σ' H' s'/\RelV v u/\D.rt v H'
def PE(X:Cx)(e:Ϫ)(t:TE):Prop:=
 ∀(ϵ:List (δ×Obj))(s:ν)(σ:St)(H:Hp)(Q:VK),Inv X ϵ σ H s->t σ H Q->Ϧ ∅ X.A (eval e X.env) (EP X ϵ σ Q) X.xe s
def PT(X:Cx)(e:Ϫ)(t:TT):Prop:=
 ∀(ϵ:List (δ×Obj))(s:ν)(σ:St)(H:Hp)(Q:Bool->Hp->Prop),Inv X ϵ σ H s->t σ H Q->Ϧ ∅ X.A (isTrue e X.env (eval e X.env)) (TP X ϵ σ Q) X.xe s
def PW(X:Cx)(e:Ϫ)(t:TT):Prop:=
 ∀(a:Sem ε)(ϵ:List (δ×Obj))(s:ν)(σ:St)(H:Hp)(Q:Bool->Hp->Prop),Inv X ϵ σ H s->t σ H Q->Ϧ ∅ X.A (isTrue e X.env a) (TP X ϵ σ Q) X.xe s
theorem PW.pt(h:PW X e t):PT X e t:=h _
def PS(X:Cx)(st:ϧ)(t:TS):Prop:=
 ∀(ϵ:List (δ×Obj))(s:ν)(σ:St)(H:Hp)(D:Ends),Inv X ϵ σ H s->t D σ H->Ϧ ∅ X.A (exec st X.env) (SP X ϵ D) X.xe s
def YM(X:Cx)(st:List ϧ)(t:TS):Prop:=
 ∀(ϵ:List (δ×Obj))(s:ν)(σ:St)(H:Hp)(D:Ends),Inv X ϵ σ H s->t D σ H->Ϧ ∅ X.A (execs st X.env) (SP X ϵ D) X.xe s
theorem ψ{α:Type}{t:Sem α}{Q c:α->ν->Prop}{A:ϴ}{E:ε->ν->Prop}{s:ν}(h:Ϧ M A t Q E s)(e:∀a s,Q a s->c a s):Ϧ M A t c E s:=adK h e λ_ _ x=>x
section
variable{X:Cx}
def ahR(i:Nat):TE:=λσ H Q=>∃v,σ[i]?=some ↑v/\Q v H
def tC(v:V):TE:=λ_ H Q=>Q v H
def aku{x:Str}{pos:Pos}(j:X.N[i]?=↑x)(n:sS X.env.scope x)(hd:(x==("__debug__":Str))=false:=by decide)(g:(x==("__classdict__":Str))=false:=by decide):PE X (.Name x pos) (ahR i):=by
 intro ϵ s σ H Q I h;let#[v,e,h]:=h;let#[m,o,p]:=I.loc;let#[u,r,l]:=p i x v j e n;let f:EP X ϵ σ Q u s:=#[v,H,I,r,h];obtain⟨hk,q⟩|⟨hk,c,hc,a⟩:=l
 .show wpAny_Name (wpAny_loadName_local I.ok.kind hk o q f) hd
 .obtain hk|hk:=hk
  .show wpAny_Name (wpAny_loadName_cell I.ok.kind hk hc a f) hd
  .show wpAny_Name (wpAny_loadName_free I.ok.kind hk hc a f g) hd
def Gl(X:Cx)(x:Str):Prop:=X.env.kindOf x=↑.globalImplicit
theorem fU{E:ε->ν->Prop}{s:ν}{σ:St}{H:Hp}{x:Str}{u:ε}{pos:Pos}{Q:ε->ν->Prop}(I:Inv X ϵ σ H s)(a:Gl X x)(c:X.mg x=↑u)(h:Q u s)(hd:(x==("__debug__":Str))=false:=by decide):Ϧ ∅ X.A (eval (.Name x pos) X.env) Q E s:=
 Calls.Name_function_global I.ok.kind a (Calls.loadGlobal_global (by rw[I.ok.glob];show I.mod.glob.keeps I.bk) c h) hd
def j5{E:ε->ν->Prop}{s:ν}{σ:St}{H:Hp}{x:Str}{u:ε}{pos:Pos}{Q:ε->ν->Prop}(I:Inv X ϵ σ H s)(a:Gl X x)(c:X.mg x=none)(e:bootBuiltins x=↑u)(h:Q u s)(f:x≠"__name__":=by decide)(hd:(x==("__debug__":Str))=false:=by decide):Ϧ ∅ X.A (eval (.Name x pos) X.env) Q E s:=by
 let#[mb,h1,h2]:=I.mod.blt;show Calls.Name_function_global I.ok.kind a (Calls.loadGlobal_builtin (by rw[I.ok.glob];show I.mod.glob.keeps I.bk) c (by rw[I.ok.blt];show h1.keeps I.bk) ((h2 x f)<|>e) h) hd
theorem abh(a:Gl X x)(c:X.mg x=↑u)(r:RelV v u)(hd:(x==("__debug__":Str))=false:=by decide):PE X (.Name x pos) (tC v):=
 λ_ _ _ H _ I h=>fU I a c #[v,H,I,r,h] hd
def jk(t:TT):TT:=λσ H Q=>t σ H λc H1=>Q (!c) H1
end
def Δ(K:ϩ)(H:Hp)(a:δ)(xs:List V):Prop:=
 Rd H a (.tup xs)\/
  ∃(o:Obj)(c:Array ε)(n:Nat),K.lookup a=↑o/\o.cls=.type "tuple"/\o.data=.seq c n/\c.size<=ϳ/\Vals xs c.toList
def aom:ε->Option V
 |.none=>↑.non
 |.bool b=>↑(.bl b)
 |.int i _=>↑(.int i)
 |.str x _=>↑(.str x)
 |.bytes b _=>↑(.byt b)
 |.float b _=>↑(.flt b)
 |.ref a=>↑(.ref a)
 |.type n=>↑(.ty n)
 |_=>none
def RelV.abs(r:RelV x u):aom u=↑x:=by
 cases x with
 |non=>cases r;rfl
 |bl _=>cases r;rfl
 |int _=>let#[t,rfl]:=r;rfl
 |str _=>let#[t,rfl]:=r;rfl
 |byt _=>let#[t,rfl]:=r;rfl
 |flt _=>let#[t,rfl]:=r;rfl
 |ref _=>cases r;rfl
 |ty _=>cases r;rfl
theorem RelV.inj(r:RelV x u)(q:RelV y u):x=y:=Option.some.inj (r.abs.symm<|>q.abs)
def Vals.inj(h:Vals xs us)(g:Vals ys us):xs=ys:=by
 induction h generalizing ys with
 |nil=>cases g;rfl
 |cons r t a=>cases g with|cons c t'=>rw[r.inj c,a t']
section
variable{X:Cx}{ϵ:List (δ×Obj)}{σ:St}{H:Hp}{s:ν}{a:δ}{xs ys:List V}
theorem θ.of{K:ϩ}(h:H a=↑(.lst xs)):θ K H a xs:=.inl (.inl h)
theorem Δ.of{K:ϩ}(h:H a=↑(.tup xs)):Δ K H a xs:=.inl (.inl h)
def Inv.list(I:Inv X ϵ σ H s)(h:θ X.K H a xs):∃c:List ε,Vals xs c/\PlainL s.heap a c.toArray/\↥xs<=ϳ:=by
 obtain h|⟨o,c,n,f,hc,hd,hs,g,r⟩:=h
 .let#[z,c,n,r,e]:=h.ok I.hok;show#[c,r,#[_,n,e,rfl,rfl,rfl],z]
 .show#[c.toList,r,#[o,n,I.kIn a o f,hc,hd,~~~hs],?_];let e:=↥r;simp only[al9]at e;omega
def Inv.tuple(I:Inv X ϵ σ H s)(h:Δ X.K H a xs):∃c:List ε,Vals xs c/\IsTup s.heap a c.toArray/\↥xs<=ϳ:=by
 obtain h|⟨o,c,n,f,hc,hs,g,r⟩:=h
 .let#[z,c,r,p]:=h.ok I.hok;show#[c,r,p,z]
 .show#[c.toList,r,#[o,I.kIn a o f,hc,n,~~~hs],?_];let e:=↥r;simp only[al9]at e;omega
def Inv.list_inj(I:Inv X ϵ σ H s)(h:θ X.K H a xs)(h':θ X.K H a ys):xs=ys:=by
 let#[f,r,#[o,n,e,_,_,d],_]:=I.list h;let#[its',g,#[o',i,c,_,_,d'],_]:=I.list h';rw[e]at c;cases c;rw[d]at d';injection d' with d1 _
 have:f=its':= ~~~congrArg at3 d1
 subst this;show r.inj g
def Inv.tuple_inj(I:Inv X ϵ σ H s)(h:Δ X.K H a xs)(h':Δ X.K H a ys):xs=ys:=by
 let#[f,r,#[o,e,_,n,d],_]:=I.tuple h;let#[its',g,#[o',c,_,i,d'],_]:=I.tuple h';rw[e]at c;cases c;rw[d]at d';injection d' with d1 _
 have:f=its':= ~~~congrArg at3 d1
 subst this;show r.inj g
end
def Inv.quiet{σ:St}{H:Hp}{s:ν}(I:Inv X ϵ σ H s):interactive X.env=false:=by simp[interactive,I.ok.kind]
abbrev TG:=V->St->Hp->(St->Hp->Prop)->Prop
structure It where
 go:Nat->Hp->Prop
 yld:Nat->Hp->V->Hp->Prop
 stop:Nat->Hp->Prop
def cj(X:Cx)(ϵ:List (δ×Obj))(H:Hp)(b:δ):Prop:=
 H b=none/\b≠X.env.locals/\b∉X.fs/\(b∈X.ex\/X.s₀.heap.get? b=none)/\(∀x c,X.env.cells.lookup x=↑c->c≠b)/\∀p∈X.pn++ϵ,p.1≠b
def Inv.fpOk{X:Cx}{σ:St}{H H':Hp}{s:ν}{b:δ}(I:Inv X ϵ σ H s)(a:⇑s<=b)(f:H' b=none):cj X ϵ H' b:=by
 show#[f,asm (adk I.lt a),I.nofs a,.inr (alb (afG I.sz a)),λx c e z=>?_,λp hp z=>?_]
 .let#[v,q]:=I.cell x c e;show absurd (adk q.lt (by rw[z];show a)) (alQ _)
 .show absurd (adk (adw (I.pin p hp).1) (by rw[z];show a)) (alQ _)
structure Turn(P:ϲ)(w:Ϯ)(K:ϩ)(tg:Ϫ)(J:It)(fp:List δ)(it:δ)(tn:Nat->ϫ->Prop):Prop where
 mem:it∈fp
 obj:∀i h,tn i h->∀b∈fp,∃o,h.get? b=↑o/\∀v,o.data≠.cell v
 keep:∀i h h',tn i h->(∀b∈fp,∀o,h.get? b=↑o->h'.get? b=↑o)->tn i h'
 item:∀(X:Cx),X.prog=P->X.w=w->X.K=K->X.calm=true->∀(i:Nat)(ϵ:List (δ×Obj))(s:ν)(σ:St)(H:Hp)(E:ε->ν->Prop),Inv X ϵ σ H s->(∀b∈fp,cj X ϵ H b)->tn i s.heap->J.go i H->
  Ϧ (Ϩ P w) X.A (pyNext (.ref it)) (λr s1=>∃u,r=↑u/\
   Ϧ (Ϩ P w) X.A (letOwnedTupleGo tg (.ref it) u) (λ_ s2=>∃x H',Inv X ϵ σ H' s2/\RelV x u/\J.yld i H x H'/\tn (i+1) s2.heap/\∀b∈fp,H' b=none) E s1) E s
 done:∀(X:Cx),X.prog=P->X.w=w->X.K=K->X.calm=true->∀(i:Nat)(ϵ:List (δ×Obj))(s:ν)(σ:St)(H:Hp)(E:ε->ν->Prop),Inv X ϵ σ H s->(∀b∈fp,cj X ϵ H b)->tn i s.heap->J.stop i H->
  Ϧ (Ϩ P w) X.A (pyNext (.ref it)) (λr s1=>r=none/\Inv X ϵ σ H s1) E s
 self:∀(A:ϴ)(i:Nat)(s:ν)(Q:ε->ν->Prop)(E:ε->ν->Prop),tn i s.heap->Q (.ref it) s->Ϧ (Ϩ P w) A (pyIter (.ref it)) Q E s
abbrev TI:=St->Hp->(It->Hp->Prop)->Prop
def xx(X:Cx)(ϵ:List (δ×Obj))(σ:St)(tg:Ϫ)(R:It->Hp->Prop)(a:ε)(c:ν):Prop:=
 ∃(it:δ)(fp:List δ)(e:Nat->ϫ->Prop)(J:It)(H':Hp),a=.ref it/\Inv X ϵ σ H' c/\Turn X.prog X.w X.K tg J fp it e/\e 0 c.heap/\(∀b∈fp,cj X ϵ H' b)/\R J H'
def PI(X:Cx)(tg iter:Ϫ)(a:TI):Prop:=
 ∀(ϵ:List (δ×Obj))(s:ν)(σ:St)(H:Hp)(R:It->Hp->Prop),Inv X ϵ σ H s->a σ H R->
  Ϧ ∅ X.A (eval iter X.env) (λv c=>Ϧ ∅ X.A (pyIter v) (xx X ϵ σ tg R) X.xe c) X.xe s
def uU(c:s.heap.get? it=↑o)(hc:o.cls=.type n)(hd:o.data=.fields vs)(e:["enumerate","zip","dict_itemiterator","dict_reverseitemiterator","odict_iterator","itertools.zip_longest","itertools.pairwise"].contains n=false)(a:Q PUnit.unit s):Ϧ M A (letOwnedTupleGo tg (.ref it) u) Q E s:=by
 unfold letOwnedTupleGo;cases tg<;>first
  |show ϱ a
  |(cases u<;>first
   |show ϱ a
   |(show π (wpAny_load c ?_)
     rw[hc,hd];show Ϧ M A (if(["enumerate","zip","dict_itemiterator","dict_reverseitemiterator","odict_iterator","itertools.zip_longest","itertools.pairwise"].contains n&&vs[0]?==↑(rawInt _))=true then _ else _) Q E s;rw[if_neg (by intro h;rw[e,aoC]at h;cases h)];show ϱ a))
def jU(K:ϩ)(a:δ):It:=
 #[λi H=>∃xs x,θ K H a xs/\xs[i]?=↑x,λi H x H'=>H'=H/\∀xs,θ K H a xs->xs[i]?=↑x,λi H=>∃xs,θ K H a xs/\↥xs<=i]
def sO(K:ϩ)(a:δ):It:=
 #[λi H=>∃xs x,Δ K H a xs/\xs[i]?=↑x,λi H x H'=>H'=H/\∀xs,Δ K H a xs->xs[i]?=↑x,λi H=>∃xs,Δ K H a xs/\↥xs<=i]
def nO(lo:Int)(n:Nat):It:=#[λi _=>i<n,λi H x H'=>H'=H/\x=.int (lo+i),λi _=>n<=i]
theorem ami{P:ϲ}{w:Ϯ}{K:ϩ}{tg:Ϫ}(a it:δ):Turn P w K tg (jU K a) [it] it (λi h=>h.IsListIter it a i)where
 mem:=by simp
 obj:=λi h st b f=>by
  let e:b=it:= ~~~f
  subst e;let#[o,e,c,d]:=st;show#[o,e,λv z=>by rw[d]at z;cases z]
 keep:=λi h h' st k=>st.at λo e=>k it (by simp) o e
 item:=by
  intro X m n q hc i ϵ s σ H E I j st y;subst m n q;let#[xs,x,l,B]:=y;let#[M,C,p,O]:=I.list l;let#[u,Q,R]:=C.get B;let#[D,F,S,G,J,L]:=j it (by simp);show wpAny_pyNext_list_item st p.isList (x:=u) (~~~Q) λh' g T=>?_
  let U:Inv X ϵ σ H {s with heap:=h'}:=I.turned (t':=s.toks) (λb o f e=>(T.2 b f).trans e) D F G J L;let#[o,e,c,d]:=id g;show#[u,rfl,uU (s:={s with heap:=h'}) e c d (by decide) #[x,H,U,R,#[rfl,λys W=>by rw[I.list_inj W l];show B],g,λb f=>(j b f).1]]
 done:=by
  intro X m n q hc i ϵ s σ H E I j st y;subst m n q;let#[xs,l,B]:=y;let#[M,C,p,O]:=I.list l;let#[D,F,S,G,J,L]:=j it (by simp);let Z:=↥C;show wpAny_pyNext_list_end (I.ok.hd hc) st p.isList (by simp;omega) λh' Y=>#[rfl,I.turned (t':=s.toks) (λb o f e=>Y b o f e) D F G J L]
 self:=λ_ _ _ _ _ st h=>wpAny_pyIter_listiter st h
theorem ajf{P:ϲ}{w:Ϯ}{K:ϩ}{tg:Ϫ}(a it:δ):Turn P w K tg (sO K a) [it] it (λi h=>h.IsTupleIter it a i)where
 mem:=by simp
 obj:=λi h st b f=>by
  let e:b=it:= ~~~f
  subst e;let#[o,e,c,d]:=st;show#[o,e,λv z=>by rw[d]at z;cases z]
 keep:=λi h h' st k=>st.at λo e=>k it (by simp) o e
 item:=by
  intro X m n q hc i ϵ s σ H E I j st y;subst m n q;let#[xs,x,l,B]:=y;let#[C,D,p,O]:=I.tuple l;let#[u,Q,R]:=D.get B;let#[F,G,S,J,L,M]:=j it (by simp);show wpAny_pyNext_tuple_item st (show s.heap.IsTuple a C.toArray from p) (x:=u) (~~~Q) λh' g T=>?_
  let U:Inv X ϵ σ H {s with heap:=h'}:=I.turned (t':=s.toks) (λb o f e=>(T.2 b f).trans e) F G J L M;let#[o,e,c,d]:=id g;show#[u,rfl,uU (s:={s with heap:=h'}) e c d (by decide) #[x,H,U,R,#[rfl,λys W=>by rw[I.tuple_inj W l];show B],g,λb f=>(j b f).1]]
 done:=by
  intro X m n q hc i ϵ s σ H E I j st y;subst m n q;let#[xs,l,B]:=y;let#[C,D,p,O]:=I.tuple l;let#[F,G,S,J,L,M]:=j it (by simp);let Z:=↥D;show wpAny_pyNext_tuple_end (I.ok.hd hc) st (show s.heap.IsTuple a C.toArray from p) (by simp;omega) λh' Y=>#[rfl,I.turned (t':=s.toks) (λb o f e=>Y b o f e) F G J L M]
 self:=λ_ _ _ _ _ st h=>wpAny_pyIter_tupleiter st h
theorem amh{P:ϲ}{w:Ϯ}{K:PySem.W.Frag}{tg:Ϫ}(it:δ)(lo:Int)(n:Nat):Turn P w K tg (nO lo n) [it] it (λi h=>IsRangeIter h it (lo+(i:Nat)*1) ((n:Int)-(i:Nat)) 1)where
 mem:=by simp
 obj:=λi h st b a=>by
  let e:b=it:= ~~~a
  subst e;show#[_,st,λv z=>by
   let z':Data.fields _=Data.cell v:=z;cases z']
 keep:=λi h h' st k=>k it (by simp) _ st
 item:=by
  intro X g j l hc i ϵ s σ H E I f st m;subst g j l;let#[p,q,B,u,x,y]:=f it (by simp);let W:=Walks.range (prog:=X.prog) (w:=X.w) (I.ok.hd hc) it lo 1 n;show W.item i s _ _ m st λv h' tk C c kk=>?_
  let#[t,rfl]:=C;let D:Inv X ϵ σ H {s with heap:=h',toks:=tk}:=I.turned (λb o a e=>kk b o (~~~a) e) p q u x y;show#[_,rfl,uU (s:={s with heap:=h',toks:=tk}) (n:="range_iterator") c rfl rfl (by decide) #[.int (lo+i),H,D,#[t,?_],#[rfl,rfl],c,λb a=>(f b a).1]];rw[Int.mul_one]
 done:=by
  intro X g j l hc i ϵ s σ H E I f st m;subst g j l;let#[p,q,B,u,x,y]:=f it (by simp);show wpAny_pyNext_range_end (I.ok.hd hc) st (by have:n<=i:=m;omega) λh' F=>#[rfl,I.turned (t':=s.toks) (λb o a e=>F b o a e) p q u x y]
 self:=λ_ _ _ _ _ st h=>wpAny_pyIter_rangeiter st h
def ags{σ:St}{H:Hp}{s:ν}{R:It->Hp->Prop}{E:ε->ν->Prop}{lo hi:Int}{t u v:Tok}{tk:Nat}(I:Inv X ϵ σ H s)(h1: -(2^62)<=lo)(h2:lo<2^62)(c: -(2^62)<=hi)(f:hi<2^62)(q:R (nO lo (hi-lo).toNat) H):Ϧ ∅ X.A (pyIter (.ref ⇑s)) (xx X ϵ σ tg R) E {s with heap:=s.heap.push {cls:=.type "range",data:=.fields #v[.int lo t,.int hi u,.int 1 v]},toks:=tk}:=by
 show wpAny_pyIter_range (IsRange.new ..) (small_one h1 h2 c f) ?_;let a:Inv X ϵ σ H {s with heap:=s.heap.push {cls:=.type "range",data:=.fields #v[.int lo t,.int hi u,.int 1 v]},toks:=tk}:=I.kept λb o e=>aaS _ e
 show#[(s.heap.push {cls:=.type "range",data:=.fields #v[.int lo t,.int hi u,.int 1 v]}).objs.size,[(s.heap.push {cls:=.type "range",data:=.fields #v[.int lo t,.int hi u,.int 1 v]}).objs.size],_,_,H,rfl,
  a.kept (t':=tk) λb o e=>aaS _ e,amh _ lo (hi-lo).toNat,?_,λb g=>?_,q]
 .let e1:lo+((0:Nat):Int)*1=lo:=by simp
  let i:(((hi-lo).toNat:Nat):Int)-((0:Nat):Int)=Builtin.Range.rangeSize lo hi 1:=by rw[rangeSize_one];split <;>omega
  show IsRangeIter _ _ (lo+((0:Nat):Int)*1) ((((hi-lo).toNat:Nat):Int)-((0:Nat):Int)) 1;rw[e1,i];show acN _ rfl
 .let e:b=(s.heap.push {cls:=.type "range",data:=.fields #v[.int lo t,.int hi u,.int 1 v]}).objs.size:= ~~~g
  subst e;show a.fpOk (Ϭ _) (a.hok.fresh (Ϭ _))
def gQ(fp:List δ)(h:ϫ):List (δ×Obj):=fp.filterMap λb=>(h.get? b).map λo=>(b,o)
theorem Am(a:b∈fp)(e:h.get? b=↑o):(b,o)∈gQ fp h:=ap0.mpr #[b,a,by rw[e];rfl]
def anQ(hp:p∈gQ fp h):p.1∈fp/\h.get? p.1=↑p.2:=by
 let#[b,a,e]:=ap0.mp hp;cases q:h.get? b with
 |none=>rw[q]at e;cases e
 |some o=>
  rw[q]at e;let c:(b,o)=p:=Option.some.inj e;subst c;show#[a,q]
theorem Inv.pinned{σ:St}{H:Hp}{s:ν}(I:Inv X ϵ σ H s)(f:∀b∈fp,cj X ϵ H b)(g:∀b∈fp,∃o,s.heap.get? b=↑o/\∀v,o.data≠.cell v):Inv X (ϵ++gQ fp s.heap) σ H s:=
 I.pins_of λp hp=>(agq.mp hp).elim (λz=>I.pin p (aet _ z)) λz=>by
  let#[a,e]:=anQ z;let#[i,j,l,_]:=f p.1 a;let#[o,c,d]:=g p.1 a;rw[e]at c;cases c;show#[e,i,j,l,d]
theorem Inv.unpinned{σ:St}{H:Hp}{s:ν}(I:Inv X (ϵ++pl) σ H s):Inv X ϵ σ H s:=I.pins_of λp hp=>I.pin p (aet _ (aiP _ hp))
def ahL{K:PySem.W.Frag}{a:δ}{g:TG}{tb:TS}{D:Ends}{σ:St}{H:Hp}(c:Nat->St->Hp->Prop)(l:c 0 σ H)(n:∀i σ H,i<=↥xs->c i σ H->θ K H a xs)(hs:∀i x σ H,xs[i]?=↑x->c i σ H->g x σ H λf H2=>tb {D with nx:=c (i+1),ct:=c (i+1),bk:=D.nx} f H2)(hd:∀σ H,c ↥xs σ H->D.nx σ H):∃W:Nat->Nat->St->Hp->Prop,(∃m,W 0 m σ H)/\∀i m σ H,W i m σ H->
   ((jU K a).stop i H/\D.nx σ H)\/((jU K a).go i H/\∃N:St->Hp->Prop,(∀σ' H',N σ' H'->∃m',m'<m/\W (i+1) m' σ' H')/\∀x H',(jU K a).yld i H x H'->g x σ H' λf H2=>tb {D with nx:=N,ct:=N,bk:=D.nx} f H2):=by
 show#[λi m σ H=>m=↥xs-i/\i<=↥xs/\c i σ H,#[↥xs,by simp,aim _,l],?_]
 rintro i m σ H ⟨rfl,hi,p⟩
 let q:=n i σ H hi p;by_cases j:i<↥xs
 .show .inr #[#[xs,xs[i],q,by simp[j]],c (i+1),λσ' H' p'=>#[↥xs-(i+1),(),rfl,j,p'],λx H' y=>?_];let#[e,y]:=y;subst e;show hs i x σ _ (y xs q) p
 .let e:i=↥xs:=()
  subst e;show .inl #[#[xs,q,Ϭ _],hd σ H p]
def akK{K:PySem.W.Frag}{a:δ}{g:TG}{tb:TS}{D:Ends}{σ:St}{H:Hp}(c:Nat->St->Hp->Prop)(l:c 0 σ H)(n:∀i σ H,i<=↥xs->c i σ H->Δ K H a xs)(hs:∀i x σ H,xs[i]?=↑x->c i σ H->g x σ H λf H2=>tb {D with nx:=c (i+1),ct:=c (i+1),bk:=D.nx} f H2)(hd:∀σ H,c ↥xs σ H->D.nx σ H):∃W:Nat->Nat->St->Hp->Prop,(∃m,W 0 m σ H)/\∀i m σ H,W i m σ H->
   ((sO K a).stop i H/\D.nx σ H)\/((sO K a).go i H/\∃N:St->Hp->Prop,(∀σ' H',N σ' H'->∃m',m'<m/\W (i+1) m' σ' H')/\∀x H',(sO K a).yld i H x H'->g x σ H' λf H2=>tb {D with nx:=N,ct:=N,bk:=D.nx} f H2):=by
 show#[λi m σ H=>m=↥xs-i/\i<=↥xs/\c i σ H,#[↥xs,by simp,aim _,l],?_]
 rintro i m σ H ⟨rfl,hi,p⟩
 let q:=n i σ H hi p;by_cases j:i<↥xs
 .show .inr #[#[xs,xs[i],q,by simp[j]],c (i+1),λσ' H' p'=>#[↥xs-(i+1),(),rfl,j,p'],λx H' y=>?_];let#[e,y]:=y;subst e;show hs i x σ _ (y xs q) p
 .let e:i=↥xs:=()
  subst e;show .inl #[#[xs,q,Ϭ _],hd σ H p]
def acX{lo:Int}{g:TG}{tb:TS}{D:Ends}{σ:St}{H:Hp}(a:Nat->St->Hp->Prop)(j:a 0 σ H)(hs:∀i σ H,i<n->a i σ H->g (.int (lo+i)) σ H λc H2=>tb {D with nx:=a (i+1),ct:=a (i+1),bk:=D.nx} c H2)(hd:∀σ H,a n σ H->D.nx σ H):∃W:Nat->Nat->St->Hp->Prop,(∃m,W 0 m σ H)/\∀i m σ H,W i m σ H->
   ((nO lo n).stop i H/\D.nx σ H)\/((nO lo n).go i H/\∃N:St->Hp->Prop,(∀σ' H',N σ' H'->∃m',m'<m/\W (i+1) m' σ' H')/\∀x H',(nO lo n).yld i H x H'->g x σ H' λc H2=>tb {D with nx:=N,ct:=N,bk:=D.nx} c H2):=by
 show#[λi m σ H=>m=n-i/\i<=n/\a i σ H,#[n,by simp,aim _,j],?_]
 rintro i m σ H ⟨rfl,hi,p⟩
 by_cases f:i<n
 .show .inr #[f,a (i+1),λσ' H' p'=>#[n-(i+1),(),rfl,f,p'],λx H' y=>?_];let#[e,y]:=y;subst e y;show hs i σ _ f p
 .let e:i=n:=()
  subst e;show .inl #[Ϭ _,hd σ H p]
abbrev R2:=V->V->Hp->VK->Prop
def bK(X:Cx)(f:ε->ε->Sem ε)(r:R2):Prop:=
 ∀(ϵ:List (δ×Obj))(s:ν)(σ:St)(H:Hp)(x y:V)(v u:ε)(Q:VK),Inv X ϵ σ H s->RelV x v->RelV y u->r x y H Q->
  Ϧ ∅ X.A (f v u) (EP X ϵ σ Q) X.xe s
def Bd(X:Cx)(f:ε->Sem ε)(r:V->Hp->VK->Prop):Prop:=
 ∀(ϵ:List (δ×Obj))(s:ν)(σ:St)(H:Hp)(x:V)(v:ε)(Q:VK),Inv X ϵ σ H s->RelV x v->r x H Q->
  Ϧ ∅ X.A (f v) (EP X ϵ σ Q) X.xe s
def iJ(X:Cx)(f:ε)(r:List V->Hp->VK->Prop):Prop:=
 ∀(ϵ:List (δ×Obj))(s:ν)(σ:St)(H:Hp)(xs:List V)(us:List ε)(Q:VK),Inv X ϵ σ H s->Vals xs us->r xs H Q->
  Ϧ ∅ X.A (call f us) (EP X ϵ σ Q) X.xe s
def abF(X:Cx)(r:V->Hp->(Bool->Hp->Prop)->Prop):Prop:=
 ∀(ϵ:List (δ×Obj))(s:ν)(σ:St)(H:Hp)(x:V)(v:ε)(Q:Bool->Hp->Prop),Inv X ϵ σ H s->RelV x v->r x H Q->
  Ϧ ∅ X.A (truthy v) (TP X ϵ σ Q) X.xe s
def rI(C:Int->Int->Prop)(g:Int->Int->V):R2:=λx y H Q=>∃i j,x=.int i/\y=.int j/\C i j/\Q (g i j) H
def nU(g:Int->Int->V):R2:=λx y H Q=>∃i j,x=.int i/\y=.int j/\Q (g i j) H
def rU(g:Int->V):V->Hp->VK->Prop:=λx H Q=>∃i,x=.int i/\Q (g i) H
def Ed(j:PE X a ta)(l:PE X b tb){s:ν}{σ:St}{H:Hp}{R:V->V->Hp->Prop}(I:Inv X ϵ σ H s)(h:ta σ H λx H1=>tb σ H1 λy H2=>R x y H2){Q:ε->ν->Prop}{f:ε->ε->Sem ε}(m:∀v u g x y H2,Inv X ϵ σ H2 g->RelV x v->RelV y u->R x y H2->Ϧ ∅ X.A (f v u) Q X.xe g):Ϧ ∅ X.A (eval a X.env) (λv c=>Ϧ ∅ X.A (eval b X.env) (λu e=>Ϧ ∅ X.A (f v u) Q X.xe e) X.xe c) X.xe s:=by
 show ψ (j ϵ s σ H _ I h) λv n i=>?_
 let#[x,H1,o,r1,p]:=i;show ψ (l ϵ n σ H1 _ o p) λu g i=>?_
 let#[y,H2,q,z,B]:=i;show m v u g x y H2 q r1 z B
def Li{C:Int->Int->Prop}{g:Int->Int->Int}(rule:∀(i j:Int)(t u:Tok)(s:ν)(Q:ε->ν->Prop)(E:ε->ν->Prop),C i j->Q (.int (g i j) s.toks) {s with toks:=s.toks+1}->Ϧ ∅ X.A (f (.int i t) (.int j u)) Q E s):bK X f (rI C λi j=>.int (g i j)):=by
 intro ϵ s σ H x y v u Q I rx ry h;let#[i,j,rfl,rfl,hc,q]:=h;let#[t,rfl]:=rx;let#[t',rfl]:=ry;show rule i j t t' s _ _ hc #[.int (g i j),H,I.tok _,#[_,rfl],q]
def U0{g:Int->Int->Int}(rule:∀(i j:Int)(t u:Tok)(s:ν)(Q:ε->ν->Prop)(E:ε->ν->Prop),Q (.int (g i j) s.toks) {s with toks:=s.toks+1}->Ϧ ∅ X.A (f (.int i t) (.int j u)) Q E s):bK X f (nU λi j=>.int (g i j)):=by
 intro ϵ s σ H x y v u Q I rx ry h;let#[i,j,rfl,rfl,q]:=h;let#[t,rfl]:=rx;let#[t',rfl]:=ry;show rule i j t t' s _ _ #[.int (g i j),H,I.tok _,#[_,rfl],q]
def xO{g:Int->Int->Bool}(rule:∀(i j:Int)(t u:Tok)(s:ν)(Q:ε->ν->Prop)(E:ε->ν->Prop),Q (.bool (g i j)) s->Ϧ ∅ X.A (f (.int i t) (.int j u)) Q E s):bK X f (nU λi j=>.bl (g i j)):=by
 intro ϵ s σ H x y v u Q I rx ry h;let#[i,j,rfl,rfl,q]:=h;let#[t,rfl]:=rx;let#[t',rfl]:=ry;show rule i j t t' s _ _ #[.bl (g i j),H,I,rfl,q]
def Sd(i j:Int):Prop:=0<=j/\j<=1000000/\i.natAbs<2^64
def Bx(i j:Int):Prop:=(-(2^64)<i/\i<2^64)\/(-(2^64)<j/\j<2^64)
def Bx.ok(h:Bx i j):IntMulOk i j:=by
 obtain⟨h1,h2⟩|⟨h1,h2⟩:=h
 .show .of_left (intBits_le_64 h1 h2)
 .show .of_right (intBits_le_64 h1 h2)
theorem alX:bK X (binaryOp .Add) (nU λi j=>.int (i+j)):=U0 λ_ _ _ _ _ _ _ q=>add_int q
theorem anv:bK X (binaryOp .Sub) (nU λi j=>.int (i-j)):=U0 λ_ _ _ _ _ _ _ q=>sub_int q
theorem amU:bK X (binaryOp .Mult) (rI Bx λi j=>.int (i*j)):=Li λ_ _ _ _ _ _ _ hc q=>mul_int q hc.ok
theorem afN:bK X (binaryOp .Mod) (rI (λ_ j=>0<j) λi j=>.int (i % j)):=Li λi j _ _ _ _ _ hc q=>by
 let h1:(0:Int)<j:=hc;show mod_int' () (by rw[Int.fmod_eq_emod_of_nonneg i ()];show q)
theorem afr:bK X (binaryOp .Pow) (rI Sd λi j=>.int (i^j.toNat)):=Li λ_ _ _ _ _ _ _ hc q=>pow_int_small hc.1 hc.2.1 hc.2.2 q
def unI{g:Int->Int}(rule:∀(i:Int)(t:Tok)(s:ν)(Q:ε->ν->Prop)(E:ε->ν->Prop),Q (.int (g i) s.toks) {s with toks:=s.toks+1}->Ϧ ∅ X.A (f (.int i t)) Q E s):Bd X f (rU λi=>.int (g i)):=by
 intro ϵ s σ H x v Q I rx h;let#[i,rfl,q]:=h;let#[t,rfl]:=rx;show rule i t s _ _ #[.int (g i),H,I.tok _,#[_,rfl],q]
theorem afy:Bd X (unaryOp .USub) (rU λi=>.int (-i)):=unI λ_ _ _ _ _ q=>neg_int q
def Bl:V->V->Bool
 |.non,.non=>true|.non,.int _=>true|.int _,.non=>true|.non,.bl _=>true|.bl _,.non=>true|.non,.str _=>true|.str _,.non=>true
 |.int _,.int _=>true|.bl _,.bl _=>true|.str _,.str _=>true|.byt _,.byt _=>true
 |.int _,.str _=>true|.str _,.int _=>true|.bl _,.str _=>true|.str _,.bl _=>true
 |_,_=>false
def rEq:R2:=λx y H Q=>Bl x y=true/\Q (.bl (decide (x=y))) H
def rNe:R2:=λx y H Q=>Bl x y=true/\Q (.bl (!decide (x=y))) H
def ZX:decide (V.int i=V.int j)=(i==j):=by
 rw[ahT];simp
def aa8:decide (V.bl i=V.bl j)=(i==j):=by
 rw[ahT];simp
def Pk:decide (V.str i=V.str j)=(i==j):=by
 rw[ahT];simp
def Yr:decide (V.byt i=V.byt j)=(i.toList==j.toList):=by
 rw[ahT];cases i;cases j;simp
def aq{σ:St}{H:Hp}{s:ν}{Q:VK}{k k':Bool}(I:Inv X ϵ σ H s)(q:Q (.bl k) H)(e:k=k'):EP X ϵ σ Q (.bool k') s:=by
 subst e;show#[.bl k,H,I,rfl,q]
def al6:bK X (aeT .Eq) rEq:=by
 intro ϵ s σ H x y v u Q I rx ry h;let#[hs,q]:=h;cases x with
 |non=>
  cases rx;cases y with
  |non=>cases ry;show PySem.EqNone.eq_none_none (aq I q (by simp))
  |bl j=>cases ry;show PySem.EqNone.eq_none_bool (aq I q (by simp))
  |int j=>let#[t',rfl]:=ry;show PySem.EqNone.eq_none_int (aq I q (by simp))
  |str j=>let#[t',rfl]:=ry;show PySem.EqNone.eq_none_str (aq I q (by simp))
  |_=>show absurd (show false=true from hs) abW
 |bl i=>
  cases rx;cases y with
  |non=>cases ry;show PySem.EqNone.eq_bool_none (aq I q (by simp))
  |bl j=>cases ry;show eq_bool (aq I q aa8)
  |str j=>let#[t',rfl]:=ry;show PySem.EqMixed.eq_bool_str (aq I q (by simp))
  |_=>show absurd (show false=true from hs) abW
 |int i=>
  let#[t,rfl]:=rx;cases y with
  |non=>cases ry;show PySem.EqNone.eq_int_none (aq I q (by simp))
  |int j=>let#[t',rfl]:=ry;show eq_int (aq I q ZX)
  |str j=>let#[t',rfl]:=ry;show PySem.EqMixed.eq_int_str (aq I q (by simp))
  |_=>show absurd (show false=true from hs) abW
 |str i=>
  let#[t,rfl]:=rx;cases y with
  |non=>cases ry;show PySem.EqNone.eq_str_none (aq I q (by simp))
  |bl j=>cases ry;show PySem.EqMixed.eq_str_bool (aq I q (by simp))
  |int j=>let#[t',rfl]:=ry;show PySem.EqMixed.eq_str_int (aq I q (by simp))
  |str j=>let#[t',rfl]:=ry;show eq_str (aq I q Pk)
  |_=>show absurd (show false=true from hs) abW
 |byt i=>
  let#[t,rfl]:=rx;cases y with
  |byt j=>let#[t',rfl]:=ry;show W.eq_bytes (aq I q Yr)
  |_=>show absurd (show false=true from hs) abW
 |_=>cases y<;>show absurd (show false=true from hs) abW
def aef:bK X (aeT .NotEq) rNe:=by
 intro ϵ s σ H x y v u Q I rx ry h;let#[hs,q]:=h;cases x with
 |non=>
  cases rx;cases y with
  |non=>cases ry;show PySem.EqNone.ne_none_none (aq I q (by simp))
  |bl j=>cases ry;show PySem.EqNone.ne_none_bool (aq I q (by simp))
  |int j=>let#[t',rfl]:=ry;show PySem.EqNone.ne_none_int (aq I q (by simp))
  |str j=>let#[t',rfl]:=ry;show PySem.EqNone.ne_none_str (aq I q (by simp))
  |_=>show absurd (show false=true from hs) abW
 |bl i=>
  cases rx;cases y with
  |non=>cases ry;show PySem.EqNone.ne_bool_none (aq I q (by simp))
  |bl j=>cases ry;show ne_bool (aq I q (congrArg not aa8))
  |str j=>let#[t',rfl]:=ry;show PySem.EqMixed.ne_bool_str (aq I q (by simp))
  |_=>show absurd (show false=true from hs) abW
 |int i=>
  let#[t,rfl]:=rx;cases y with
  |non=>cases ry;show PySem.EqNone.ne_int_none (aq I q (by simp))
  |int j=>let#[t',rfl]:=ry;show ne_int (aq I q (congrArg not ZX))
  |str j=>let#[t',rfl]:=ry;show PySem.EqMixed.ne_int_str (aq I q (by simp))
  |_=>show absurd (show false=true from hs) abW
 |str i=>
  let#[t,rfl]:=rx;cases y with
  |non=>cases ry;show PySem.EqNone.ne_str_none (aq I q (by simp))
  |bl j=>cases ry;show PySem.EqMixed.ne_str_bool (aq I q (by simp))
  |int j=>let#[t',rfl]:=ry;show PySem.EqMixed.ne_str_int (aq I q (by simp))
  |str j=>let#[t',rfl]:=ry;show ne_str (aq I q (congrArg not Pk))
  |_=>show absurd (show false=true from hs) abW
 |byt i=>
  let#[t,rfl]:=rx;cases y with
  |byt j=>let#[t',rfl]:=ry;show W.ne_bytes (aq I q (congrArg not Yr))
  |_=>show absurd (show false=true from hs) abW
 |_=>cases y<;>show absurd (show false=true from hs) abW
theorem aby:bK X (aeT .Lt) (nU λi j=>.bl (decide (i<j))):=xO λ_ _ _ _ _ _ _ q=>lt_int q
theorem akn:bK X (aeT .LtE) (nU λi j=>.bl (decide (i<=j))):=xO λ_ _ _ _ _ _ _ q=>le_int q
theorem acB:bK X (aeT .Gt) (nU λi j=>.bl (decide (j<i))):=xO λ_ _ _ _ _ _ _ q=>gt_int q
theorem aon:bK X (aeT .GtE) (nU λi j=>.bl (decide (j<=i))):=xO λ_ _ _ _ _ _ _ q=>ge_int q
def acn:bK X (aeT .In) (λx y H Q=>∃i j,x=.str i/\y=.str j/\Q (.bl (!(Builtin.Str.occurrences j i 0 ↥j 1).isEmpty)) H):=by
 intro ϵ s σ H x y v u Q I rx ry h;let#[i,j,rfl,rfl,q]:=h;let#[t,rfl]:=rx;let#[t',rfl]:=ry;show in_str (aq I q rfl)
def afI:bK X (aeT .Is) (λx y H Q=>y=.non/\Q (.bl (decide (x=.non))) H):=by
 intro ϵ s σ H x y v u Q I rx ry h;let#[rfl,q]:=h;cases ry;show is_none_gen (aq I q ?_);cases x<;>first
  |(cases rx;rfl)
  |(let#[t,rfl]:=rx;rfl)
def aiL:bK X (aeT .IsNot) (λx y H Q=>y=.non/\Q (.bl (!decide (x=.non))) H):=by
 intro ϵ s σ H x y v u Q I rx ry h;let#[rfl,q]:=h;cases ry;show isnot_none_gen (aq I q ?_);cases x<;>first
  |(cases rx;rfl)
  |(let#[t,rfl]:=rx;rfl)
def Xu(b:Ϫ)(h:op≠ .In:=by decide)(h2:op≠ .NotIn:=by decide):behindInMarks op b=false:=by
 let e1:(op==CmpOp.In)=false:=by cases op<;>first|rfl|show absurd rfl h
 let a:(op==CmpOp.NotIn)=false:=by cases op<;>first|rfl|show absurd rfl h2
 cases b<;>simp[behindInMarks,e1,a]
def Hd(K:ϩ)(x:V)(H:Hp)(k:Bool):Prop:=
 match x with
 |.non=>k=false
 |.bl b=>k=b
 |.int i=>k=(i !=0)
 |.str y=>↥y<=ϳ/\k=((↥y:Int) !=0)
 |.byt y=>y.size<=ϳ/\k=((y.size:Int) !=0)
 |.ref p=>(∃xs,θ K H p xs/\k= !xs.isEmpty)\/(∃xs,Δ K H p xs/\k= !xs.isEmpty)\/∃Ϸ,H p=↑(.dK Ϸ)/\k= !Ϸ.isEmpty
 |_=>False
def an0{κ:Type}{Ϸ:List (κ×V)}{vs:List (κ×ε)}(r:KV Ϸ vs):(!vs.isEmpty)= !Ϸ.isEmpty:=by
 cases r<;>rfl
def Qo{a:List ε}(r:Vals xs a):(!a.toArray.isEmpty)= !xs.isEmpty:=by
 cases r<;>simp
def rJ:(ϳ:Nat)<2^63:=by rw[ϯ];decide
def aoa:abF X (λx H Q=>∃k,Hd X.K x H k/\Q k H):=by
 intro ϵ s σ H x v Q I rx h;let#[k,e,q]:=h;let o:=rJ;let hs:ϳ=16777216:=ϯ;cases x with
 |non=>
  cases rx;let a:k=false:=e;subst a;show truthy_none #[H,I,q]
 |bl b=>
  cases rx;let a:k=b:=e;subst a;show ais #[H,I,q]
 |int i=>
  let#[t,rfl]:=rx;let a:k=(i !=0):=e;subst a;show PySem.P.truthy_int #[H,I,q]
 |str y=>
  let#[t,rfl]:=rx;obtain⟨j,a⟩:↥y<=ϳ/\k=((↥y:Int) !=0):=e;subst a;show PySem.P.truthy_str () #[H,I.tok _,q]
 |byt y=>
  let#[t,rfl]:=rx;obtain⟨j,a⟩:y.size<=ϳ/\k=((y.size:Int) !=0):=e;subst a;show W.truthy_bytes () #[H,I.tok _,q]
 |ref p=>
  cases rx;let a:(∃xs,θ X.K H p xs/\k= !xs.isEmpty)\/(∃xs,Δ X.K H p xs/\k= !xs.isEmpty)\/∃Ϸ,H p=↑(.dK Ϸ)/\k= !Ϸ.isEmpty:=e;obtain⟨xs,f,a⟩|⟨xs,f,a⟩|⟨Ϸ,f,a⟩:=a
  .subst a;let#[l,r,pl,g]:=I.list f;let c:=↥r;show wpAny_truthy_list pl.isList (by simp only[ace];omega) #[H,I.tok _,by rw[Qo r];show q]
  .subst a;let#[l,r,pl,g]:=I.tuple f;let c:=↥r;show truthy_tuple pl (by simp only[ace];omega) #[H,I.tok _,by rw[Qo r];show q]
  .subst a;obtain⟨g,n,vs,r,m⟩:↥Ϸ<=ϳ/\(p==sysModules)=false/\∃vs,KV Ϸ vs/\s.heap.DictOf (jV X.prog X.w) p vs:=I.hok p _ f;let c:↥Ϸ=↥vs:=Paired.length r;show wpAny_truthy_dict n m () #[H,I.tok _,by rw[an0 r];show q]
 |_=>show(show False from e).elim
def ahx:bK X (binaryOp .Add) (λx y H Q=>∃i j,x=.str i/\y=.str j/\↥i+↥j<=ϳ/\Q (.str (i++j)) H):=by
 intro ϵ s σ H x y v u Q I rx ry h;let#[i,j,rfl,rfl,a,q]:=h;let#[t,rfl]:=rx;let#[t',rfl]:=ry;show add_str (λt' tk=>#[.str (i++j),H,I.tok _,#[_,rfl],q]) a
def vals1(r:Vals [x] us):∃u,us=[u]/\RelV x u:=by
 cases r with
 |cons r1 a=>cases a;show#[_,rfl,r1]
def vals2(r:Vals [x,y] us):∃u w',us=[u,w']/\RelV x u/\RelV y w':=by
 cases r with
 |cons r1 a=>
  cases a with
  |cons c e=>cases e;show#[_,_,rfl,r1,c]
def akf(hc:X.calm=true):iJ X (.builtin "max") (λxs H Q=>∃i j,xs=[.int i,.int j]/\Q (.int (if j>i then j else i)) H):=by
 intro ϵ s σ H xs us Q I r h;let#[i,j,rfl,q]:=h;let#[u,c,rfl,#[t,rfl],#[t',rfl]]:=vals2 r;show max_two_ints (I.ok.hd hc) λh' tk k=>#[_,H,I.kept k,?_,q]
 by_cases a:j>i
 .rw[if_pos a,if_pos a];show#[_,rfl]
 .rw[if_neg a,if_neg a];show#[_,rfl]
def air(hc:X.calm=true):iJ X (.builtin "min") (λxs H Q=>∃i j,xs=[.int i,.int j]/\Q (.int (if j<i then j else i)) H):=by
 intro ϵ s σ H xs us Q I r h;let#[i,j,rfl,q]:=h;let#[u,c,rfl,#[t,rfl],#[t',rfl]]:=vals2 r;show min_two_ints (I.ok.hd hc) λh' tk k=>#[_,H,I.kept k,?_,q]
 by_cases a:j<i
 .rw[if_pos a,if_pos a];show#[_,rfl]
 .rw[if_neg a,if_neg a];show#[_,rfl]
def ane:iJ X (.type "str") (λxs H Q=>∃i,xs=[.int i]/\i.natAbs.log2<1920/\Q (.str (toString i)) H):=by
 intro ϵ s σ H xs us Q I r h;let#[i,rfl,a,q]:=h;let#[u,rfl,t,rfl]:=vals1 r;show PySem.P.str_of_int a #[.str _,H,I.tok _,#[_,rfl],q]
structure pX(h:ϫ)(x dx C:δ)(mA:MG):Prop where
 obj:h.get? x=↑(aq6 C dx)
 ns:h.Ns1 dx mA
 ne:dx≠x
def Xf{h:ϫ}{mA:MG}(n:h.Ns1 dx mA):∃od,h.get? dx=↑od/\∀name,atD name od=↑(mA name):=by
 let#[o,es,ep,f,hd,g,_,i]:=n;show#[o,f,λname=>?_];let e:=i name;unfold nsFind findBy at e;rw[<-atd]at e;unfold atD;rw[hd];dsimp only;split
 .rename_i y q;rw[q]at e;show congrArg some e
 .rename_i q;rw[q]at e;let a:es.toList.any (·.refKey)=false:=by
   rw[List.any_eq_false];intro y j;let#[z,t,c]:=g y (Array.mem_toList_iff.mp j);simp[DictEntry.refKey,c]
  let l:¬es.toList.any (·.refKey)=true:=by rw[a];show abW
  rw[if_neg l];show congrArg some e
theorem pX.look(I:pX h x dx C mA):∃od,as5 h x (aq6 C dx) C ↑od/\∀name,atD name od=↑(mA name):=
 let⟨od,ho,hl⟩:=Xf I.ns
 #[od,#[I.obj,rfl,rfl,ho],hl]
section
variable{prog:ϲ}{w:Ϯ}{A:ϴ}{E:ε->ν->Prop}{s:ν}{K:ϩ}{x dx C f:δ}{mA:MG}{name:Str}{v:ε}
def get_map(X:K.In s.heap)(I:pX s.heap x dx C mA)(e:asa K C name=true)(f:aoV K C=true)(g:afu K (.ref C) name=↑none)(i:mA name=↑v)(c:atP v=true)(h:Q v {s with toks:=s.toks+1}):Ϧ (Ϩ prog w) A (getAttr (.ref x) name a) Q E s:=by
 let#[od,J,j]:=I.look;show W.get_value X J (ate e).1 (atU f g rfl (by rw[j,i])) c h
def abQ(X:K.In s.heap)(I:pX s.heap x dx C mA)(a:asa K C name=true)(c:afu K (.ref C) name=some ↑(.ref f))(e:atf K (.ref f)=true)(g:mA name=none)(h:Q (.ref f,[.ref x]) s):Ϧ (Ϩ prog w) A (getMethod (.ref x) name pl) Q E s:=by
 let#[od,J,i]:=I.look;show W.method_fn X J (ate a).1 (ate a).2 c (beq_iff_eq.mp e) (by show(atD name od).map (·.isSome)=↑false;rw[i,g];rfl) h
def ab6(X:K.In s.heap)(I:pX s.heap x dx C mA)(hs:afu K (.ref C) "__setattr__"=some ↑(.builtin "object.__setattr__"))(hp:asD K C=true)(l:asd K C name=↑none)(m:aoV K C=true)(n:PySem.Within mA ns)(hsz:↥ns<=ϳ)(h:∀h',pX h' x dx C (λy=>if y=name then some v else mA y)->anE dx s.heap h'->Q PUnit.unit {s with heap:=h',toks:=s.toks+2}):Ϧ (Ϩ prog w) A (setAttr (.ref x) name v) Q E s:=by
 let#[od,J,u]:=I.look;show W.set_plain X J hs (W.osa_open (s:={s with toks:=s.toks+1}) (r:=none) X J hp l λb=>?_);let#[cd,hc,f]:=as6 m;let o:s.heap.get? x=some #[.ref C,↑dx,.plain, #v[]]:=I.obj;show π (ϱ (π (π (wpAny_loadPart o (π (W.Looks.here (s:={s with toks:=s.toks+1}) (atg X hc) ?_))))));rw[f];show ϱ (a:=↑dx) (π (ϱ (π ?_)))*>wpAny_nsSet1 (s:={s with toks:=s.toks+1}) I.ns λh' c e=>?_
 let#[z,p,q,g,i,j]:=c.count (PySem.Within.cons name v n);show π (wpAny_lookBehind g (by rw[i];show pastItsLine_dict (afG j (by rw[acz];omega))) ?_)*>ϱ (h _ #[(e.2 _ (Ne.symm I.ne))<|>I.obj,c,I.ne] e)
def acW(X:K.In s.heap)(a:atG K C=true)(hi:afu K (.ref C) "__init__"=some ↑(.ref f))(c:ar9 K (.ref f)=↑(.type "function"))(h:codeAny (Ϩ prog w) (A.under (.builtin "type.__call__" #[.ref C::vs,kw])) (.call (.ref f) #[.ref (⇑s+1)::vs,kw]) (W.InitBack (⇑s+1) R)
   {s with heap:=(s.heap.push anK).push (aq6 C ⇑s)}):codeAny (Ϩ prog w) A (.call (.ref C) #[vs,kw]) R s:=by
 let#[e,g,d,t,os]:=s;show W.make_core (W.makes_of X a) (asq X hi) (λself=>W.bind_fn X self c) (.inl rfl) h
end
def aN(f:Str)(v:V):List (Str×V)->List (Str×V)
 |[]=>[(f,v)]
 |(g,x)::r=>if g=f then(g,v)::r else(g,x)::aN f v r
theorem Mh(f g:Str)(v:V):∀fs:List (Str×V),(aN f v fs).lookup g=if g=f then some v else fs.lookup g
 |[]=>by
  show ajl g [(f,v)]=_;by_cases h:g=f
  .let a:(g==f)=true:=beq_iff_eq.mpr h;simp only[ajl,a,if_pos h]
  .let a:(g==f)=false:=beq_eq_false_iff_ne.mpr h;simp only[ajl,a,if_neg h]
 |(k,x)::r=>by
  let i:=Mh f g v r;rw[show aN f v ((k,x)::r)=(if k=f then(k,v)::r else(k,x)::aN f v r)from rfl];by_cases c:k=f
  .rw[if_pos c];by_cases h:g=k
   .let a:(g==k)=true:=beq_iff_eq.mpr h;simp only[ajl,a,if_pos (h<|>c)]
   .let a:(g==k)=false:=beq_eq_false_iff_ne.mpr h;simp only[ajl,a,if_neg (λe:g=f=>h (e<|>c.symm))]
  .rw[if_neg c];by_cases h:g=k
   .let a:(g==k)=true:=beq_iff_eq.mpr h;simp only[ajl,a,if_neg (λe:g=f=>c (h.symm<|>e))]
   .let a:(g==k)=false:=beq_eq_false_iff_ne.mpr h;simp only[ajl,a];show i
theorem K7(f:Str)(v:V):∀fs:List (Str×V),f∈(aN f v fs).map (·.1)/\∀g,g∈fs.map (·.1)->g∈(aN f v fs).map (·.1)
 |[]=>#[by simp[aN],λg h=>by simp at h]
 |(k,x)::r=>by
  let#[c,i]:=K7 f v r;rw[show aN f v ((k,x)::r)=(if k=f then(k,v)::r else(k,x)::aN f v r)from rfl];by_cases a:k=f
  .rw[if_pos a];subst a;show#[by simp,λg h=>~~~h]
  .rw[if_neg a];show#[?_,λg h=>?_]
   .rw[adY];show acw _ c
   .rw[adY]at h⊢;obtain e|e:=aaT.mp h
    .show aaT.mpr (.inl e)
    .show acw _ (i g e)
theorem BZ(f:Str)(v:V):∀fs:List (Str×V),↥(aN f v fs)<=↥fs+1
 |[]=>by simp[aN]
 |(k,x)::r=>by
  let c:=BZ f v r;rw[show aN f v ((k,x)::r)=(if k=f then(k,v)::r else(k,x)::aN f v r)from rfl];by_cases a:k=f
  .rw[if_pos a,acz,acz];omega
  .rw[if_neg a,acz,acz];omega
def du.some_of(r:du ↑v o):∃u,o=↑u/\RelV v u:=by
 cases o with
 |none=>show(show False from r).elim
 |some u=>show#[u,rfl,r]
def du.none_of(r:du none o):o=none:=by
 cases o with
 |none=>rfl
 |some u=>show(show False from r).elim
def acL(r:RelV v u):atP u=true:=by
 cases v with
 |non=>cases(show u=Value.none from r);rfl
 |bl b=>cases(show u=Value.bool b from r);rfl
 |int i=>let#[t,e]:=(show ∃t,u=Value.int i t from r);cases e;rfl
 |str x=>let#[t,e]:=(show ∃t,u=Value.str x t from r);cases e;rfl
 |byt b=>let#[t,e]:=(show ∃t,u=Value.bytes b t from r);cases e;rfl
 |flt b=>let#[t,e]:=(show ∃t,u=Value.float b t from r);cases e;rfl
 |ref a=>cases(show u=Value.ref a from r);rfl
 |ty n=>cases(show u=Value.type n from r);rfl
def BL(hok:aM P w H h)(e:H a=↑(.ins C dx fs)):∃mA,pX h a dx C mA/\(∀f,du (fs.lookup f) (mA f))/\PySem.Within mA (fs.map (·.1))/\↥fs<=1000/\H dx=↑(.own a):=by
 let#[d,z,ne,c,mA,n,r,q]:=(show Ϝ P w H h a (.ins C dx fs)from hok a _ e);show#[mA,#[c,n,ne],r,q,z,d]
theorem aH.get{K:ϩ}(c:aH K C)(f:Str):asa K C f=true:=c.pg
def ao.taker{K:ϩ}{f:Str}(n:ao K C f):asd K C f=↑none:=by
 unfold asd;rw[show afu K (.ref C) f=↑none from n];rfl
section
variable{X:Cx}{ϵ:List (δ×Obj)}{σ:St}{H:Hp}{s:ν}{a C dx:δ}{fs:List (Str×V)}{f:Str}{v:V}{A:ϴ}{E:ε->ν->Prop}
def Yi(I:Inv X ϵ σ H s)(e:H a=↑(.ins C dx fs))(c:aH X.K C)(n:ao X.K C f)(l:fs.lookup f=↑v)(h:∀u s',Inv X ϵ σ H s'->RelV v u->Q u s'):Ϧ ∅ A (getAttr (.ref a) f b) Q E s:=by
 let#[mA,O,r,_,_,_]:=BL I.hok e;let#[u,i,g]:=du.some_of (v:=v) (o:=mA f) (by rw[<-l];show r f);show get_map I.kIn O (c.get f) c.hd n i (acL g) (h u _ (I.tok _) g)
def LQ(I:Inv X ϵ σ H s)(e:H a=↑(.ins C dx fs))(c:aH X.K C)(k:Meth X.K C m g)(l:fs.lookup m=none)(h:Q (.ref g,[.ref a]) s):Ϧ ∅ A (getMethod (.ref a) m pl) Q E s:=by
 let#[mA,O,r,_,_,_]:=BL I.hok e;let f:mA m=none:=du.none_of (by rw[<-l];show r m);show abQ I.kIn O (c.get m) k.at_ k.fn f h
def Nz(I:Inv X ϵ σ H s)(e:H a=↑(.ins C dx fs))(c:aH X.K C)(n:ao X.K C f)(D:↥fs<1000)(ry:RelV y u)(h:∀s',Inv X ϵ σ (upd H a (.ins C dx (aN f y fs))) s'->Q PUnit.unit s'):Ϧ ∅ A (setAttr (.ref a) f u) Q E s:=by
 let#[mA,O,r,j,_,l]:=BL I.hok e;let m:(fs.map (·.1)).length<=ϳ:=by rw[ϰ,ϯ];omega
 show ab6 I.kIn O c.sa c.po n.taker c.hd j m λh' i p=>h _ ?_
 let hd:∃o,h'.get? dx=↑o:=let⟨o,_,_,e',_⟩:=i.ns;#[o,e'];show I.write (x:=a) (e:=dx) (by rw[e];show True.intro) (.inr l) (λb q v z=>(p.2 b v).trans z) hd ?_*>#[by rw[ξ O.ne];show l,?_,O.ne,i.obj,_,i.ns,λg=>?_,λg B=>?_]
 .have :=BZ f y fs;omega
 .show du ((aN f y fs).lookup g) (if g=f then some u else mA g);rw[Mh];by_cases q:g=f
  .rw[if_pos q,if_pos q];show ry
  .rw[if_neg q,if_neg q];show r g
 .by_cases q:g=f
  .rw[q];show(K7 f y fs).1
  .show(K7 f y fs).2 g (j g λz=>B ?_);show(if g=f then some u else mA g)=none;rw[if_neg q];show z
def Inv.made(I:Inv X ϵ σ H s):Inv X ϵ σ (upd (upd H ⇑s (.own (⇑s+1))) (⇑s+1) (.ins C ⇑s []))
  {s with heap:=(s.heap.push anK).push (aq6 C ⇑s)}:=by
 let e1:(s.heap.push anK).get? ⇑s=↑anK:=acN s.heap rfl;let c:((s.heap.push anK).push (aq6 C ⇑s)).get? (⇑s+1)=↑(aq6 C ⇑s):=by
  have:=acN (s.heap.push anK) (o:=aq6 C ⇑s) rfl
  rwa [asr]at this
 let f:(s.heap.push anK).Ns ⇑s (λ_=>none):=#[anK, #v[],_,e1,rfl,(λe g=>absurd g (by simp)),λ_=>rfl];let i:=I.laid (a:=⇑s) (o:=.own (⇑s+1)) (h':=s.heap.push anK) (t':=s.toks) (λb u q=>aaS _ q) (Ϭ _) #[_,e1];show i.laid (a:=⇑s+1) (o:=.ins C ⇑s []) (t':=s.toks) (λb u q=>aaS _ q) (apS (asr _ _)) ?_;let ne:⇑s≠⇑s+1:=adn (atr _);show#[by rw[ξ ne,υ],aim _,ne,c,λ_=>none,(Heap.Ns1.of_empty f).at λo q=>aaS _ q,λ_=>True.intro,λy j=>absurd rfl j]
theorem O5(c:attributeBase e f env (eval e env)=eval e env)(h:Ϧ (Ϩ prog w) A (eval e env) (λo a=>Ϧ (Ϩ prog w) A (getAttr o f true) Q E a) E s):Ϧ (Ϩ prog w) A (eval (.Attribute e f pos) env) Q E s:=
 Attribute_any_ h (by rw[arm_eval_Attribute,c])
end
def amC(K:ϩ)(ta tv:TE)(f:Str):TS:=λD σ H=>tv σ H λy H1=>ta σ H1 λx H2=>∃a C dx fs,x=.ref a/\H2 a=↑(.ins C dx fs)/\aH K C/\ao K C f/\↥fs<1000/\
 D.nx σ (upd H2 a (.ins C dx (aN f y fs)))
def abj(X:Cx)(op:Operator)(rd:V->V->Hp->VK->Prop):Prop:=
 ∀(ϵ:List (δ×Obj))(s:ν)(σ:St)(H:Hp)(x y:V)(u v:ε)(Q:VK),Inv X ϵ σ H s->RelV x u->RelV y v->rd x y H Q->Ϧ ∅ X.A (inplaceOp op u v) (EP X ϵ σ Q) X.xe s
def akl(K:ϩ)(ta tv:TE)(rd:V->V->Hp->VK->Prop)(f:Str):TS:=λD σ H=>ta σ H λx H1=>∃a C dx fs v,x=.ref a/\H1 a=↑(.ins C dx fs)/\aH K C/\ao K C f/\fs.lookup f=↑v/\
 tv σ H1 λy H2=>rd v y H2 λz e=>∃c fs',e a=↑(.ins C c fs')/\↥fs'<1000/\D.nx σ (upd e a (.ins C c (aN f z fs')))
def afH(e:PE X o ta)(g:PE X value tv)(hs:aoH value ↑(.Attribute o f pos') pos.line X.env=pure false):PS X (.Assign [.Attribute o f pos'] value pos) (amC X.K ta tv f):=by
 intro ϵ s σ H D I h;show plainObj_wpAny_Assign_Attribute (ψ (g ϵ s σ H _ I h) λu i _u=>_Z.e23 _u λy H1 j ry q=>ψ (e ϵ i σ H1 _ j q) λm F p=>?_) hs;let#[x,H2,v,rx,a,C,dx,fs,ex,z,c,n,l,B]:=p;subst ex;obtain rfl:m=Value.ref a:=rx;show Nz v z c n l ry λG E=>#[σ,_,E,B]
def aeS(j:PE X o ta)(m:PE X value tv)(e:abj X op rd):PS X (.AugAssign (.Attribute o f tpos) op value pos) (akl X.K ta tv rd f):=by
 intro ϵ s σ H D I h;show wpAny_AugAssign_AttributeAny (ψ (j ϵ s σ H _ I h) λp W g=>?_);let#[x,H1,B,rx,a,C,dx,fs,v,ex,E,c,n,l,q]:=g;subst ex;obtain rfl:p=Value.ref a:=rx;show Yi B E c n l λu F G J=>ψ (m ϵ F σ H1 _ G q) λL M _u=>_Z.e23 _u λy H2 O ry P=>ψ (e ϵ M σ H2 v y u L _ O J ry P) λY Z g=>?_
 let#[z,H3,Q,R,S,fs',i,l',T]:=g;show Nz Q i c n l' R λs5 U=>#[σ,_,U,T]
def Wv:V->V->Hp->VK->Prop:=λx y H Q=>∃i j,x=.int i/\y=.int j/\Q (.int (i+j)) H
def ahz:abj X .Add Wv:=by
 rintro ϵ s σ H x y u v Q I rx ry ⟨i,j,rfl,rfl,q⟩
 let#[t,rfl]:=(show ∃t,u=Value.int i t from rx);let#[t',rfl]:=(show ∃t',v=Value.int j t' from ry);show PyProof.Rows.iadd_int #[.int (i+j),H,I.tok _,#[_,rfl],q]
section
variable{X:Cx}{ϵ:List (δ×Obj)}{σ:St}{H:Hp}{s:ν}{A:ϴ}{E:ε->ν->Prop}{Q:ε->ν->Prop}{c:ε}{b:Bool}
def ahd(I:Inv X ϵ σ H s)(rx:RelV x u)(ty:eZ X.K H x t)(e:ap9 X.K t c=↑b)(h:∀tk,Q (.bool b) {s with toks:=tk}):Ϧ ∅ A (call (.builtin "isinstance") [u,c]) Q E s:=by
 cases ty with
 |non=>cases(show u=Value.none from rx);show apq W.kitx_none I.kIn True.intro e (λz=>nomatch z) h
 |bl y=>cases(show u=Value.bool y from rx);show apq W.kitx_bool I.kIn True.intro e (λz=>nomatch z) h
 |int i=>let#[t,q]:=(show ∃t,u=Value.int i t from rx);cases q;show apq W.kitx_int I.kIn True.intro e (λz=>nomatch z) h
 |str y=>let#[t,q]:=(show ∃t,u=Value.str y t from rx);cases q;show apq W.kitx_str I.kIn True.intro e (λz=>nomatch z) h
 |flt y=>let#[t,q]:=(show ∃t,u=Value.float y t from rx);cases q;show apq W.kitx_float I.kIn True.intro e (λz=>nomatch z) h
 | @lst a xs f=>
   cases(show u=Value.ref a from rx);let#[_,_,n,_,h1]:=(show Ϝ X.prog X.w H s.heap a (.lst xs)from I.hok a _ f);show apq W.kitx_list I.kIn #[_,h1,rfl] e (λz=>nomatch z) h
 | @frz a j xs f=>
   cases(show u=Value.ref a from rx);let#[_,_,_,n,_,h1]:=(show Ϝ X.prog X.w H s.heap a (.frz j (.lst xs))from I.hok a _ f);show apq W.kitx_list I.kIn #[_,h1,rfl] e (λz=>nomatch z) h
 | @tup a xs f=>
   cases(show u=Value.ref a from rx);let#[_,_,_,p]:=(show Ϝ X.prog X.w H s.heap a (.tup xs)from I.hok a _ f);let#[o,h1,h2,_]:=p;show apq W.kitx_tuple I.kIn #[o,h1,h2] e (λz=>nomatch z) h
 | @dK a Ϸ f=>
   cases(show u=Value.ref a from rx);let#[_,_,vs,_,p]:=(show Ϝ X.prog X.w H s.heap a (.dK Ϸ)from I.hok a _ f);let#[o,es,ep,h1,h2,_]:=p;show apq W.kitx_dict I.kIn #[o,h1,h2.1] e (λz=>nomatch z) h
 | @ins a C dx fs f cl l m g v=>
   cases(show u=Value.ref a from rx);let#[mA,O,_]:=BL I.hok f;let#[od,J,_]:=O.look;show apq (W.kitx_own (cl.get _) cl.hd l m g v) I.kIn J e (λz=>nomatch z) h
end
theorem ϓ.mono(r:ϓ cc k A)(h:j<=k):ϓ cc j A:=#[r.hd,by have:=r.dp;omega,by have:=r.un;omega]
theorem ϓ.deeper(r:ϓ cc (k+1) A)(env:Env):ϓ cc k (A.deeper env):=
 #[r.hd,by have:=r.dp;show A.depth+1+3*k+5<_;omega,by have:=r.un;show A.units+3+16*k+200<_;omega]
theorem ϓ.in1(r:ϓ cc (k+1) A):ϓ cc k A.in1:=
 #[r.hd,by have:=r.dp;show A.depth+3*k+5<_;omega,by have:=r.un;show A.units+1+16*k+200<_;omega]
def af8{A:ϴ}{C:δ}:(A.under (.builtin "type.__call__" #[.ref C::us,kw])).depth=A.depth+1:=by
 first|rfl|simp[Around.under,Code.weight,Code.isCreation,Code.isGuard,Code.isCaller,Code.frames,Code.isFrame,guardIds]
def agE{A:ϴ}{C:δ}:(A.under (.builtin "type.__call__" #[.ref C::us,kw])).units=A.units+1:=by
 first|rfl|simp[Around.under,Code.cUnits,Code.frames,Code.isFrame]
theorem ϓ.make(r:ϓ cc (k+1) A)(C:δ)(us:List ε)(kw:List (Str×ε)):ϓ cc k (A.under (.builtin "type.__call__" #[.ref C::us,kw])):=
 #[r.hd,by have:=r.dp;rw[af8];omega,by have:=r.un;rw[agE];omega]
def ϓ.depth(r:ϓ cc k A):A.depth<recursionLimit:=by have:=r.dp;omega
def ϓ.units(r:ϓ cc k A):A.units+64<cLine:=by have:=r.un;omega
def ϓ.units0(r:ϓ cc k A):A.units<cLine:=by have:=r.un;omega
theorem dJ.mono{P:ϲ}{w:Ϯ}{K:ϩ}{mg:MG}{base:ϫ}{CX:gw}{j k:Nat}{f:δ}{fd:ajR}{sp:Sp}(F:dJ P w K mg base CX cc j f fd ps sp)(h:j<=k):dJ P w K mg base CX cc k f fd ps sp:=#[F.len,λA outer s H a us vs Q E c=>F.run A outer s H a us vs Q E (c.mono h)]
theorem pZ.make{P:ϲ}{w:Ϯ}{K:ϩ}{mg:MG}{base:ϫ}{A:ϴ}{s:ν}{H:Hp}(e:pZ P w K mg base A outer s H)(C:δ)(us:List ε)(kw:List (Str×ε)):pZ P w K mg base (A.under (.builtin "type.__call__" #[.ref C::us,kw])) outer s H:=#[by first|show e.frames|(simpa [Around.under,Code.envs,Code.isFrame,pushEnvs]using e.frames),e.mod,e.bs,e.bsz,e.funs,e.frf,e.hok,e.bare]
section
variable{X:Cx}{ϵ:List (δ×Obj)}{σ:St}{H:Hp}{s s':ν}
theorem Inv.env0(I:Inv X ϵ σ H s):pZ X.prog X.w X.K X.mg X.base X.A X.stack s H:=
 #[I.ok.frames,I.ok.mod,I.bs,afG I.ok.bsz I.sz,I.stack,I.stkFree,I.hok,I.bare]
def Inv.after(I:Inv X ϵ σ H s)(h:CE X.stack X.prog X.w H s Q u s'):EP X ϵ σ Q u s':=by
 let#[v,H',os,bare,un,hok,r,q]:=h;let#[c,g,d,t,a]:=s';obtain rfl:a=s.os:=os;show#[v,H',I.call (h':=c) (g':=g) (d':=d) (t':=t) (ch:=[]) un hok bare (λb z=>absurd z (by simp)),r,q]
end
def Binds(K:ϩ)(fd:ajR)(ps:List Str)(ds:List ε):Prop:=
 ∀(s:ν)(us:List ε),K.In s.heap->↥(us++ds)=↥ps->BindsTo s fd #[us,[]] (ps.zip (us++ds))
theorem Binds.all{K:ϩ}{fd:ajR}(h:∀us:List ε,↥us=↥ps->bindArgs fd #[us,[]]=pure (ps.zip us)):Binds K fd ps []:=λs us _ a=>by
 rw[aiD]at a⊢;show .of_eq (h us a)
structure Λ(N P:List Str)(sc:ajd):Prop where
 kind:sc.kind=.function
 co:sc.isCoroutine=false
 gen:sc.isGenerator=false
 nd:N.Nodup
 pre:N.take ↥P=P
 par:∀x∈P,sc.names.lookup x=↑.local\/sc.names.lookup x=↑.cell
 nofree:∀y∈sc.names,y.2≠.free
theorem aa4{kindOf:Str->Option aqD}:∀{binds:List (Str×ε)}{m:MG},(∀v,(x,v)∉binds)->bindL kindOf binds m x=m x
 |[],_,_=>rfl
 |(n,v)::r,m,h=>by
  unfold bindL;rw[aa4 λw a=>h w (acw _ a)];split
  .have :x≠n:=by rintro rfl;show h v adS
   simp[this]
  .rfl
theorem aap{kindOf:Str->Option aqD}:∀{binds:List (Str×ε)}{m:MG},(∀v,(x,v)∉binds)->bindC kindOf binds m x=m x
 |[],_,_=>rfl
 |(n,v)::r,m,h=>by
  unfold bindC;rw[aap λw a=>h w (acw _ a)];split
  .rfl
  .have :x≠n:=by rintro rfl;show h v adS
   simp[this]
theorem Wd{kindOf:Str->Option aqD}:∀{P:List Str}{vs:List ε}{i:Nat}{m:MG},P.Nodup->P[i]?=↑x->vs[i]?=↑v->kindOf x=↑.local->
  bindL kindOf (P.zip vs) m x=↑v
 |[],_,_,_,_,h,_,_=>by simp at h
 |_::_,[],_,_,_,_,h,_=>by simp at h
 |p::P,w::vs,0,m,nd,h1,h2,a=>by
  simp at h1 h2;subst h1;subst h2;show bindL kindOf ((p,w)::P.zip vs) m p=_;unfold bindL;rw[aa4 λv c=>(aiG.mp nd).1 (asQ c).1,if_pos a];simp
 |p::P,w::vs,i+1,m,nd,h1,h2,a=>by
  show bindL kindOf ((p,w)::P.zip vs) m x=_;unfold bindL;show Wd (i:=i) (aiG.mp nd).2 (~~~h1) (~~~h2) a
theorem WQ{kindOf:Str->Option aqD}:∀{P:List Str}{vs:List ε}{i:Nat}{m:MG},P.Nodup->P[i]?=↑x->vs[i]?=↑v->kindOf x≠↑.local->
  bindC kindOf (P.zip vs) m x=↑v
 |[],_,_,_,_,h,_,_=>by simp at h
 |_::_,[],_,_,_,_,h,_=>by simp at h
 |p::P,w::vs,0,m,nd,h1,h2,a=>by
  simp at h1 h2;subst h1;subst h2;show bindC kindOf ((p,w)::P.zip vs) m p=_;unfold bindC;rw[aap λv c=>(aiG.mp nd).1 (asQ c).1,if_neg a];simp
 |p::P,w::vs,i+1,m,nd,h1,h2,a=>by
  show bindC kindOf ((p,w)::P.zip vs) m x=_;unfold bindC;show WQ (i:=i) (aiG.mp nd).2 (~~~h1) (~~~h2) a
def start(N:List Str)(vs:List V):St:=vs.map some++aoG (↥N-↥vs) none
def oG(cc:Bool)(CX:gw)(P:ϲ)(w:Ϯ)(K:ϩ)(mg:MG)(base:ϫ)(N:List Str)(qual:Str)(scope:ajd)(f:δ)(cd:ε)(A:ϴ)(outer:List Env)(s:ν)(H:Hp)(E:XK):Cx where
 prog:=P
 w:=w
 K:=K
 mg:=mg
 base:=base
 A:=A.deeper (envOfC qual scope ⇑s f cd)
 N:=N
 s₀:=s
 H₀:=H
 env:=envOfC qual scope ⇑s f cd
 outer:=outer
 stack:=envOfC qual scope ⇑s f cd::outer
 ex:=[]
 calm:=cc
 fn:=λ_=>true
 pn:=[]
 xe:=λe s'=>Ϧ (Ϩ P w) (A.deeper (envOfC qual scope ⇑s f cd)) (leaving (envOfC qual scope ⇑s f cd) e) (λ_ a=>CX outer H s E e a) (λc a=>CX outer H s E c a) s'
def Wi{sc:ajd}{x:Str}(h:sc.names.lookup x=↑.cell):∃c,(cellsFrom n sc.names []).lookup x=↑c:=by
 let q:=atu sc.names n [] (.inl h);show ang.mp q
def ahD{CX:gw}{P:ϲ}{w:Ϯ}{K:ϩ}{mg:MG}{base:ϫ}{qual:Str}{scope:ajd}{f:δ}{cd:ε}{A:ϴ}{s s1:ν}{H:Hp}{E:XK}(S:Λ N ps scope)(hd:cc=true->A.handled=none)(g:pZ P w K mg base A outer s H)(F:↥vs=↥ps)(r:Vals vs us)(x:InCallC s ⇑s (bindL (envOfC qual scope ⇑s f cd).kindOf (ps.zip us) λ_=>none) (cellsFrom (⇑s+1) scope.names []) (bindC (envOfC qual scope ⇑s f cd).kindOf (ps.zip us) λ_=>none) s1):Inv (oG cc CX P w K mg base N qual scope f cd A outer s H E) [] (start N vs) H s1:=by
 let B:↥ps<=↥N:=by have:=congrArg aqJ S.pre;rw[aoz]at this;omega
 let#[h1,tk,rfl,m]:=x.done;let j:∀b:δ,b∉(oG cc CX P w K mg base N qual scope f cd A outer s H E).ex:=λb z=>absurd (show b∈([]:List δ)from z) (by simp)
 show#[#[g.mod,S.kind,rfl,rfl,Ϭ _,λy z c h1 h2=>?_,λy hy=>?_,λy c _ h=>?_,hd,Around.frames_deeper g.frames,.inr #[rfl,rfl],λb z=>absurd z (j b),g.bs,g.bsz,λb _ _=>j b,λb z=>absurd z (j b),g.funs,g.frf],
  rfl,g.bare,Un.kept m,#[_,x.toInCall.ns,λi y v h1 h2 G=>?_],λy c h=>#[_,x.cell y c h],g.hok.fresh (Ϭ _),λy c h=>?_,λp hp=>absurd (show p∈([]:List (δ×Obj))from hp) (by simp),g.hok.kept m,?_]
 .show name_of_addr x.apart (PySem.mem_of_lookup h1) (PySem.mem_of_lookup h2)
 .let hy:scope.names.lookup y=↑.cell\/scope.names.lookup y=↑.free:=hy;obtain hy|hy:=hy
  .show Wi hy
  .show absurd rfl (S.nofree _ (PySem.mem_of_lookup hy))
 .show arh (x.above y c (PySem.mem_of_lookup h))
 .let hi:i<↥vs:=by
   unfold start at h2;by_cases hi:i<↥vs
   .show hi
   .rw[amI (~~~hi)]at h2;rw[List.getElem?_replicate]at h2;split at h2<;>cases h2
  let C:vs[i]?=↑v:=by
   unfold start at h2;rw[aiZ (~~~hi),acS]at h2;cases e:vs[i]? with
   |none=>rw[e]at h2;cases h2
   |some a=>rw[e]at h2;cases h2;rfl
  let#[u,o,D]:=r.get C;let hp:ps[i]?=↑y:=by
   rw[<-S.pre,List.getElem?_take_of_lt ()];show h1
  let l:ps.Nodup:=by rw[<-S.pre];show S.nd.sublist (List.take_sublist _ _)
  show#[u,D,?_];rcases S.par y (abD hp)with k|k
  .show .inl #[k,Wd l hp o k]
  .let#[c,e]:=Wi (n:=⇑s+1) k;show .inr #[.inl k,c,e,?_];let q:=x.cell y c e;rw[WQ l hp o (by show scope.names.lookup y≠_;rw[k];decide)]at q;show q
 .show g.hok.fresh (arh (x.above y c (PySem.mem_of_lookup h)))
 .unfold start;show _=↥N;rw[adz,ϰ,asR];omega
def Xg{CX:gw}{P:ϲ}{w:Ϯ}{K:ϩ}{mg:MG}{base:ϫ}{k:Nat}{f:δ}{name qual:Str}{a:Arguments}{scope:ajd}{dV kV j pm c ct oc:ε}{an od:Option δ}{z:Array (Option ε)}{sp:Sp}(lk:K.lookup f=some #[oc,od,.func (asS name qual a body scope dV kV j pm an c ct),z])(B:asn K c qual=true)(S:Λ N ps scope)(len:∀vs H Q E,sp vs H Q E->↥vs=↥ps)(g:∀(A:ϴ)(outer:List Env)(s:ν)(H:Hp)(vs:List V)(Q:VK)(E:XK),ϓ cc k (A.deeper (envOfC qual scope ⇑s f c))->sp vs H Q E->
   ∃t,YM (oG cc CX P w K mg base N qual scope f c A outer s H E) body t/\t {nx:=λ_ H'=>Q .non H',rt:=Q} (start N vs) H):dJ P w K mg base CX cc (k+1) f (asS name qual a body scope dV kV j pm an c ct) ps sp:=by
 show#[len,λA outer s H G us vs Q E C l M r m=>?_];let O:=len _ _ _ _ m;let L:K.In s.heap:=l.mod.kin.keeps λb o e=>(l.bs b o e).1
 let D:s.heap.NoLimit:=l.mod.nolimit.keeps λb o e=>(l.bs b o e).1
 let i:∀y∈ps.zip us,scope.names.lookup y.1=↑.local\/(scope.names.lookup y.1=↑.cell/\((cellsFrom (⇑s+1) scope.names []).lookup y.1).isSome=true):=λ⟨n,v⟩ R=>by
  obtain q|q:=S.par n (asQ R).1
  .show .inl q
  .show .inr #[q,atu _ _ _ (.inl q)]
 show codeAny_call_function C.depth (L<*lk) rfl S.co S.gen rfl (W.codeRec_of L B) (M _ _ _ _ ?_)*>wpAny_newFunctionEnv_cells S.kind i λenv T s1 x=>?_
 subst T;show#[D.keeps x.toInCall.keep,codeAny_func ?_];let#[t,U,X]:=g A outer s H vs Q E (C.deeper _) m;let I:Inv (oG cc CX P w K mg base N qual scope f c A outer s H E) [] (start N vs) H s1:=ahD S C.hd l O r x;show adK (U [] s1 (start N vs) H _ I X) (λY s' hs=>?_) λe s' hs=>hs
 let p:∀{σ':St}{H':Hp}{v:V}{u:ε},Inv (oG cc CX P w K mg base N qual scope f c A outer s H E) [] σ' H' s'->RelV v u->Q v H'->CE outer P w H s Q u s':=
  λ{σ' H' v u} J F q=>#[v,H',J.os,J.bare,J.base,J.hok,F,q]
 cases Y with
 |ret u=>
  let#[v,σ',H',J,F,q]:=hs;show p J F q
 |next=>
  let#[σ',H',J,q]:=hs;show p (v:=V.non) (u:=Value.none) J rfl q
 |brk=>
  let#[_,_,_,q]:=hs;show False.elim q
 |cont=>
  let#[_,_,_,q]:=hs;show False.elim q
end _L
namespace _H
open PySem PyProof.Rows
def ό(n d:Nat):Option Int->Nat
 |none=>d
 |some v=>if v<0 then(v+(n:Int)).toNat else min v.toNat n
theorem zF(n d:Nat):ό n d none=d:=rfl
def jc(n d k:Nat):ό n d ↑(k:Int)=min k n:=by
 show(if(k:Int)<0 then((k:Int)+(n:Int)).toNat else min (k:Int).toNat n)=min k n;rw[if_neg (),Int.toNat_natCast]
def WY(n d:Nat)(hd:d<=n)(o:Option Int):ό n d o<=n:=by
 cases o with
 |none=>show hd
 |some v=>
  show(if v<0 then(v+(n:Int)).toNat else min v.toNat n)<=n;by_cases a:v<0
  .rw[if_pos a];omega
  .rw[if_neg a];show Nat.min_le_right _ _
def aeQ(v:Int)(n d:Nat):(if v<0 then max (v+(n:Int)) 0 else min v (n:Int))=((ό n d ↑v:Nat):Int):=by
 show(if v<0 then max (v+(n:Int)) 0 else min v (n:Int))=(((if v<0 then(v+(n:Int)).toNat else min v.toNat n):Nat):Int);by_cases a:v<0
 .simp only[if_pos a];omega
 .simp only[if_neg a];omega
end _H
namespace _L
open PySem PySem.Spec PyProof.Rows
abbrev TO:=St->Hp->(Option Int->Hp->Prop)->Prop
def PO(X:Cx)(e:Option Ϫ)(t:TO):Prop:=
 ∀(ϵ:List (δ×Obj))(s:ν)(σ:St)(H:Hp)(Q:Option Int->Hp->Prop),Inv X ϵ σ H s->t σ H Q->
  Ϧ ∅ X.A (evalPart e X.env) (λu s'=>∃o H',Inv X ϵ σ H' s'/\IsPart u o/\Q o H') X.xe s
def abM:TO:=λ_ H Q=>Q none H
def anN(t:TE):TO:=λσ H Q=>t σ H λx H1=>∃i,x=.int i/\Q ↑i H1
def aeU:PO X none abM:=by
 intro ϵ s σ H Q I h;rw[evalPart_none];show ϱ #[none,H,I,.none,h]
def aja(h:PE X e te):PO X ↑e (anN te):=by
 intro ϵ s σ H Q I a;rw[evalPart_some];show ψ (h ϵ s σ H _ I a) λu j c=>?_
 let#[x,H1,f,r1,g]:=c;let#[i,rfl,q]:=g;let#[t,rfl]:=r1;show#[↑i,H1,f,.int i t,q]
def yq(X:Cx)(r:V->Option Int->Option Int->Hp->VK->Prop):Prop:=
 ∀(ϵ:List (δ×Obj))(s:ν)(σ:St)(H:Hp)(x:V)(v a c:ε)(lo hi:Option Int)(sl:δ)(Q:VK),Inv X ϵ σ H s->RelV x v->s.heap.IsSliceOf sl a c .none->IsPart a lo->IsPart c hi->r x lo hi H Q->
  ∃T id,typeLookup (.type T) "__getitem__"=pure ↑(.builtin id)/\s.TypeIs v T/\Ϧ ∅ X.A (getItem v (.ref sl)) (EP X ϵ σ Q) X.xe s
def bL(xs:List V)(lo hi:Option Int):List V:=(xs.drop (_H.ό ↥xs 0 lo)).take (_H.ό ↥xs ↥xs hi-_H.ό ↥xs 0 lo)
def aeH(xs:List V)(lo hi:Option Int):↥(bL xs lo hi)<=↥xs:=by
 unfold bL;rw[aoz,ahH];omega
def oK(n:Nat)(i:Int):Option Nat:=if 0<=i then(if i<n then some i.toNat else none)else if -(n:Int)<=i then some (i+n).toNat else none
def Ϛ{α:Type}(xs:List α)(i:Int):Option α:=(oK ↥xs i).bind λj=>xs[j]?
def ahP(h:oK n i=↑j):seqIndex? i n=↑j/\j<n/\ -(n:Int)<=i/\i<n:=by
 unfold oK at h;by_cases a:0<=i
 .rw[if_pos a]at h;by_cases h1:i<n
  .rw[if_pos h1]at h;let e:i.toNat=j:=Option.some.inj h;show#[by rw[seqIndex_of a h1,e],(),(),h1]
  .rw[if_neg h1]at h;cases h
 .rw[if_neg a]at h;by_cases h1: -(n:Int)<=i
  .rw[if_pos h1]at h;let e:(i+n).toNat=j:=Option.some.inj h;show#[by rw[seqIndex_neg () h1,e],(),h1,()]
  .rw[if_neg h1]at h;cases h
def Jo{α:Type}{xs:List α}{v:α}(h:Ϛ xs i=↑v):∃j,seqIndex? i ↥xs=↑j/\xs[j]?=↑v/\j<↥xs/\ -(↥xs:Int)<=i/\i<↥xs:=by
 unfold Ϛ at h;cases e:oK ↥xs i with
 |none=>rw[e]at h;cases h
 |some j=>
  rw[e]at h;let#[h1,h2,a,c]:=ahP e;show#[j,h1,h,h2,a,c]
def bH{α:Type}{xs:List α}{j:Nat}{v:α}(h:xs[j]?=↑v):Ϛ xs (j:Int)=↑v:=by
 let a:j<↥xs:=(aas.mp h).1;let e:oK ↥xs (j:Int)=↑j:=by
  unfold oK;rw[if_pos (),if_pos ()];simp
 unfold Ϛ;rw[e];show h
def ajQ(b:Ϫ):=∀o i,subscripted b false o i=operate [o,i] (getItem o i)
def sY(X:Cx)(r:R2):Prop:=
 ∀(value a:Ϫ)(ϵ:List (δ×Obj))(s:ν)(σ:St)(H:Hp)(x y:V)(v u:ε)(Q:VK),Inv X ϵ σ H s->RelV x v->RelV y u->r x y H Q->
  subscripted a false v u=operate [v,u] (getItem v u)->Ϧ ∅ X.A (subscriptTail value a v u) (EP X ϵ σ Q) X.xe s
def JP(X:Cx)(id:String)(r:V->List V->Hp->VK->Prop):Prop:=
 ∀(ϵ:List (δ×Obj))(s:ν)(σ:St)(H:Hp)(x:V)(xs:List V)(v:ε)(us:List ε)(Q:VK),Inv X ϵ σ H s->RelV x v->Vals xs us->r x xs H Q->
  Ϧ ∅ X.A (call (.builtin id) (v::us)) (EP X ϵ σ Q) X.xe s
def RW(K:ϩ):R2:=λx y H Q=>∃p xs i v,x=.ref p/\y=.int i/\θ K H p xs/\Ϛ xs i=↑v/\Q v H
def Rn(K:ϩ):R2:=λx y H Q=>∃p xs i v,x=.ref p/\y=.int i/\ Δ K H p xs/\Ϛ xs i=↑v/\Q v H
def Xe:R2:=λx y H Q=>∃z i c,x=.str z/\y=.int i/\↥z<=ϳ/\Ϛ z.cps.toList i=↑c/\Q (.str #[#v[c]]) H
def af4:sY X (RW X.K):=by
 intro value c ϵ s σ H x y v u Q I rx ry h hs;let#[p,xs,i,z,rfl,rfl,m,n,q]:=h;cases rx;let#[t,rfl]:=ry;let#[o,r,pl,E]:=I.list m;let#[j,h1,h2,F,B,C]:=Jo n;let#[w,g,e]:=r.get h2;let D:=↥r;let G:=rJ;let a:EP X ϵ σ Q w s:=#[z,H,I,e,q];by_cases l:0<=i
 .let f:i.toNat=j:=by
   rw[seqIndex_of l C]at h1;show Option.some.inj h1
  show item_listR pl.isList l () (by rw[f];simpa using g) a hs
 .let f:(i+(o.toArray.size:Int)).toNat=j:=by
   rw[seqIndex_neg () B]at h1;rw[ace, <-D];show Option.some.inj h1
  show aqH (x:=w) pl.isList.typeIs slot_list_getitem.lookup
   (wpAny_getItem_list_neg (Q:=λr s'=>r=w/\EP X ϵ σ Q r s') pl.isList () (by rw[ace]<;>omega) () (by rw[f];simpa using g) #[rfl,a]) hs
def al1:sY X (Rn X.K):=by
 intro value a ϵ s σ H x y v u Q I rx ry h hs;let#[p,xs,i,z,rfl,rfl,f,g,q]:=h;cases rx;let#[t,rfl]:=ry;let#[n,r,pl,o]:=I.tuple f;let#[j,h1,h2,B,C,D]:=Jo g;let#[w,l,c]:=r.get h2;let m:=↥r;let E:=rJ;let e:EP X ϵ σ Q w s:=#[z,H,I,c,q];show aqH (x:=w) pl.typeIs slot_tuple_getitem.lookup
  (getItem_tuple (j:=j) (Q:=λr s'=>r=w/\EP X ϵ σ Q r s') pl () () (by rw[ace, <-m];show h1) (~~~l) #[rfl,e]) hs
def ai5:sY X Xe:=by
 intro value a ϵ s σ H x y v u Q I rx ry h hs;let#[z,i,c,rfl,rfl,n,e,q]:=h;let#[t,rfl]:=rx;let#[t',rfl]:=ry;let#[j,h1,h2,o,f,g]:=Jo e;let l:↥z.cps.toList=↥z:=by simp[asx]
 rw[l]at h1 f g;let p:=rJ;show tail_any (typeIs_str s z t) slot_str_getitem.lookup (getItem_str (c:=c) (by
  let e1:decide (i< -(2^63:Int))=false:=decide_eq_false ();let m:decide (i≥2^63)=false:=decide_eq_false ();rw[e1,m,ath]) (by rw[h1];simpa using h2) #[.str #[#v[c]],H,I.tok _,#[_,rfl],q]) hs
def akg(lo hi:Option Int)(n:Nat):(sliceBounds lo hi none n).1=((_H.ό n 0 lo:Nat):Int)/\(sliceBounds lo hi none n).2.1=((_H.ό n n hi:Nat):Int)/\(sliceBounds lo hi none n).2.2=1:=by
 show#[?_,?_,rfl]
 .cases lo with
  |none=>simp[sliceBounds,_H.ό]
  |some i=>
   simp only[sliceBounds,_H.ό,atv,show(1:Int)>0 by decide,if_true];by_cases h:i<0
   .simp only[h,if_true]<;>omega
   .simp only[h,if_false]<;>omega
 .cases hi with
  |none=>simp[sliceBounds,_H.ό]
  |some i=>
   simp only[sliceBounds,_H.ό,atv,show(1:Int)>0 by decide,if_true];by_cases h:i<0
   .simp only[h,if_true]<;>omega
   .simp only[h,if_false]<;>omega
def akm(a:List ε)(lo hi:Option Int):slicePick a.toArray lo hi none=((a.drop (_H.ό ↥a 0 lo)).take (_H.ό ↥a ↥a hi-_H.ό ↥a 0 lo)).toArray:=by
 let#[h1,h2,c]:=akg lo hi a.toArray.size;unfold slicePick;rw[h1,h2,c];simp only[sliceRange_one,pick_run,ace]<;>rfl
def ahb(K:ϩ):V->Option Int->Option Int->Hp->VK->Prop:=λx lo hi H Q=>∃a xs,x=.ref a/\θ K H a xs/\∀p,H p=none->Q (.ref p) (upd H p (.lst (bL xs lo hi)))
def ald:yq X (ahb X.K):=by
 intro ϵ s σ H x v j l lo hi sl Q I rx hs pl f h;let#[a,xs,rfl,g,q]:=h;cases rx;let#[m,r,e,i]:=I.list g;let c:=↥r;show#["list",_,slot_list_getitem.lookup,e.isList.typeIs,?_]*>wpAny_getItem_list_slice e.isList hs pl f .none (by simp) ?_ (by rw[ace]<;>omega);rw[akm, <-c];show#[.ref ⇑s,_,I.laid (t':=s.toks) (o:=.lst (bL xs lo hi)) (λb n q=>aaS _ q) (Ϭ _) ?_,rfl,q _ (I.hok.fresh (Ϭ _))]*>#[afG (aeH xs lo hi) i,_,0,(r.drop (_H.ό ↥xs 0 lo)).take (_H.ό ↥xs ↥xs hi-_H.ό ↥xs 0 lo),acN _ rfl]
def gb:V->Bool
 |.non=>true
 |.bl _=>true
 |.int _=>true
 |.str _=>true
 |_=>false
def fZ:V->V->Bool
 |.non,.non=>true
 |.bl a,.bl b=>a==b
 |.bl a,.int b=>(if a then 1 else 0)==b
 |.int a,.bl b=>a==(if b then 1 else 0)
 |.int a,.int b=>a==b
 |.str a,.str b=>a==b
 |_,_=>false
def agx(ry:RelV y u)(rx:RelV x v)(e:gb y=true)(c:gb x=true):SeqAt.EqAt A s u v (fZ y x):=by
 cases y with
 |non=>
  cases ry;cases x with
  |non=>cases rx;show SeqAt.EqAt.same _
  |bl b=>cases rx;show SeqAt.EqAt.none_bool b
  |int b=>let#[t,rfl]:=rx;show SeqAt.EqAt.none_int b t
  |str b=>let#[t,rfl]:=rx;show SeqAt.EqAt.none_str b t
  |_=>show absurd (show false=true from c) abW
 |bl a=>
  cases ry;cases x with
  |non=>cases rx;show SeqAt.EqAt.bool_none a
  |bl b=>cases rx;show SeqAt.EqAt.bool_bool a b
  |int b=>let#[t,rfl]:=rx;show SeqAt.EqAt.bool_int a b t
  |str b=>let#[t,rfl]:=rx;show SeqAt.EqAt.bool_str a b t
  |_=>show absurd (show false=true from c) abW
 |int a=>
  let#[t',rfl]:=ry;cases x with
  |non=>cases rx;show SeqAt.EqAt.int_none a t'
  |bl b=>cases rx;show SeqAt.EqAt.int_bool a t' b
  |int b=>let#[t,rfl]:=rx;show SeqAt.EqAt.int_int a t' b t
  |str b=>let#[t,rfl]:=rx;show SeqAt.EqAt.int_str a t' b t
  |_=>show absurd (show false=true from c) abW
 |str a=>
  let#[t',rfl]:=ry;cases x with
  |non=>cases rx;show SeqAt.EqAt.str_none a t'
  |bl b=>cases rx;show SeqAt.EqAt.str_bool a t' b
  |int b=>let#[t,rfl]:=rx;show SeqAt.EqAt.str_int a t' b t
  |str b=>let#[t,rfl]:=rx;show SeqAt.EqAt.str_str a t' b t
  |_=>show absurd (show false=true from c) abW
 |_=>show absurd (show false=true from e) abW
def fK(x:V)(u:ε):Bool:=match u with
 |.none=>fZ .non x
 |.bool b=>fZ (.bl b) x
 |.int i _=>fZ (.int i) x
 |.str z _=>fZ (.str z) x
 |_=>false
def aaF(r:RelV y u)(f:gb y=true):fK x u=fZ y x:=by
 cases y with
 |non=>cases r;rfl
 |bl b=>cases r;rfl
 |int i=>let#[t,rfl]:=r;rfl
 |str z=>let#[t,rfl]:=r;rfl
 |_=>show absurd (show false=true from f) abW
theorem uA:∀{xs:List V}{us:List ε},Vals xs us->xs.all gb=true->us.any (fK x)=xs.any λy=>fZ y x
 |_,_,.nil,_=>rfl
 |y::xs,u::us,.cons r t,f=>by
  rw[asF,acF]at f;rw[apb,apb,aaF r f.1,uA t f.2]
theorem wQ(rx:RelV x v)(a:gb x=true):∀{xs:List V}{us:List ε},Vals xs us->xs.all gb=true->∀u∈us,SeqAt.EqAt A s u v (fK x u)
 |_,_,.nil,_=>λu hu=>by cases hu
 |y::xs,u::us,.cons r t,f=>λc hu=>by
  rw[asF,acF]at f;obtain rfl|hu:=aaT.mp hu
  .rw[aaF r f.1];show agx r rx f.1 a
  .show wQ rx a t f.2 c hu
def fL(x:V)(xs:List V):Bool:=xs.any λy=>fZ y x
def XJ(K:ϩ)(a:Bool):R2:=λx y H Q=>∃p xs,y=.ref p/\(θ K H p xs\/ Δ K H p xs)/\gb x=true/\xs.all gb=true/\Q (.bl (if a then !fL x xs else fL x xs)) H
def alo:bK X (aeT .In) (XJ X.K false):=by
 intro ϵ s σ H x y v u Q I rx ry h;let#[p,xs,rfl,hq,e,fs,q]:=h;cases ry;obtain hq|hq:=hq
 .let#[a,r,pl,f]:=I.list hq;show SeqAt.in_listAt (fK x) pl.isList (λw c=>wQ rx e r fs w (~~~c)) #[.bl _,H,I,rfl,?_];rw[show a.toArray.any (fK x)=a.any (fK x)by simp,uA r fs];show q
 .let#[a,r,pl,f]:=I.tuple hq;show SeqAt.in_tupleAt (fK x) pl (λw c=>wQ rx e r fs w (~~~c)) #[.bl _,H,I,rfl,?_];rw[show a.toArray.any (fK x)=a.any (fK x)by simp,uA r fs];show q
def T4:bK X (aeT .NotIn) (XJ X.K true):=by
 intro ϵ s σ H x y v u Q I rx ry h;let#[p,xs,rfl,hq,e,fs,q]:=h;cases ry;obtain hq|hq:=hq
 .let#[a,r,pl,f]:=I.list hq;show SeqAt.notIn_listAt (fK x) pl.isList (λw c=>wQ rx e r fs w (~~~c)) #[.bl _,H,I,rfl,?_];rw[show a.toArray.any (fK x)=a.any (fK x)by simp,uA r fs];show q
 .let#[a,r,pl,f]:=I.tuple hq;show SeqAt.notIn_tupleAt (fK x) pl (λw c=>wQ rx e r fs w (~~~c)) #[.bl _,H,I,rfl,?_];rw[show a.toArray.any (fK x)=a.any (fK x)by simp,uA r fs];show q
def afC:iJ X (.builtin "len") (λxs H Q=>∃p ys,xs=[.ref p]/\(θ X.K H p ys\/ Δ X.K H p ys)/\Q (.int ↥ys) H):=by
 intro ϵ s σ H xs us Q I r h;let#[p,ys,rfl,hq,q]:=h;let#[u,rfl,rx]:=vals1 r;cases rx;let g:=rJ;obtain hq|hq:=hq
 .let#[e,c,pl,f]:=I.list hq;let a:=↥c;show Calls.call_len_list pl.isList (by simp only[ace]<;>omega) #[.int ↥ys,H,I.tok _,#[s.toks+1,by rw[ace,a]],q]
 .let#[e,c,pl,f]:=I.tuple hq;let a:=↥c;show len_tuple pl (by simp only[ace]<;>omega) #[.int ↥ys,H,I.tok _,#[s.toks+1,by rw[ace,a]],q]
def af0:iJ X (.builtin "len") (λxs H Q=>∃z,xs=[.str z]/\↥z<=ϳ/\Q (.int ↥z) H):=by
 intro ϵ s σ H xs us Q I r h;let#[z,rfl,a,q]:=h;let#[u,rfl,t,rfl]:=vals1 r;let c:=rJ;show len_str () #[.int ↥z,H,I.tok _,#[_,rfl],q]
def adB:iJ X (.type "list") (λxs H Q=>∃p ys,xs=[.ref p]/\(θ X.K H p ys\/ Δ X.K H p ys)/\∀l,H l=none->Q (.ref l) (upd H l (.lst ys))):=by
 intro ϵ s σ H xs us Q I r h;let#[p,ys,rfl,hq,q]:=h;let#[u,rfl,rx]:=vals1 r;cases rx
 let g:∀(a:List ε),Vals ys a->↥ys<=ϳ->∀(h':ϫ)(c:Nat),(∀b o',s.heap.get? b=↑o'->h'.get? b=↑o')->
   h'.get? ⇑s=some {cls:=.type "list",dict:=none,data:=.seq a.toArray c,slots:= #v[]}->EP X ϵ σ Q (.ref ⇑s) {s with heap:=h'}:=λa f i h' c kp e=>
  #[.ref ⇑s,_,I.laid (t':=s.toks) kp (Ϭ _) (show Ϝ X.prog X.w _ h' _ (.lst ys)from#[i,a,c,f,e]),rfl,q _ (I.hok.fresh (Ϭ _))]
 obtain hq|hq:=hq
 .let#[a,f,pl,i]:=I.list hq;let j:=↥f;let#[o,m,hc,n,hd]:=pl.isList;show call_list_seq p (.inl rfl) m hc hd (λh' c kp e=>g a f i h' c kp e) (by simp only[ace]<;>omega)
 .let#[a,f,pl,i]:=I.tuple hq;let j:=↥f;let#[o,m,hc,n,hd]:=pl;show call_list_seq p (.inr rfl) m hc hd (λh' c kp e=>g a f i h' c kp e) (by simp only[ace]<;>omega)
def adL:iJ X (.type "tuple") (λxs H Q=>∃p ys,xs=[.ref p]/\((θ X.K H p ys/\∀l,H l=none->Q (.ref l) (upd H l (.tup ys)))\/(Δ X.K H p ys/\Q (.ref p) H))):=by
 intro ϵ s σ H xs us Q I r h;let#[p,ys,rfl,h]:=h;let#[u,rfl,rx]:=vals1 r;cases rx;obtain⟨a,q⟩|⟨a,q⟩:=h
 .let#[c,f,pl,g]:=I.list a;let i:=↥f;show call_tuple_list pl.isList (λh' kp=>?_) (by simp only[ace]<;>omega);let j:Inv X ϵ σ H {s with heap:=h'}:=I.kept (t':=s.toks) kp;let m:Inv X ϵ σ (upd H h'.objs.size (.tup ys)) {s with heap:=h'.push {cls:=.type "tuple",data:=.seq c.toArray}}:=
   j.laid (t':=s.toks) (λb o e=>aaS _ e) (Ϭ _) (show Ϝ X.prog X.w _ _ _ (.tup ys)from#[g,c,f,IsTup.new _ _])
  show#[.ref h'.objs.size,_,m,rfl,q _ (j.hok.fresh (Ϭ _))]
 .let#[c,f,pl,g]:=I.tuple a;show call_tuple_same pl #[.ref p,H,I,rfl,q]
def u5(K:ϩ)(T:String)(x:V)(H:Hp):Prop:=match x with
 |.str _=>T="str"
 |.int _=>T="int"
 |.ref p=>(T="list"/\∃xs,θ K H p xs)\/(T="tuple"/\∃o,K.lookup p=↑o/\o.cls=.type "tuple"/\o.dict=none)\/
   (T="dict"/\((∃Ϸ,H p=↑(.dK Ϸ))\/False))\/(T="set"/\False)
 |_=>False
def agG{σ:St}{H:Hp}{s:ν}{T:String}{x:V}{v:ε}(I:Inv X ϵ σ H s)(r:RelV x v)(ty:u5 X.K T x H):s.TypeIs v T/\∀a,v=.ref a->∃f,s.heap.get? a=↑f/\f.dict=none:=by
 cases x with
 |str z=>
  let#[t,rfl]:=r;cases(show T="str" from ty);show#[typeIs_str s z t,λ_ e=>nomatch e]
 |int i=>
  let#[t,rfl]:=r;cases(show T="int" from ty);show#[typeIs_int s i t,λ_ e=>nomatch e]
 |ref p=>
  cases r;obtain⟨rfl,xs,g⟩|⟨rfl,o,hk,hc,hd⟩|⟨rfl,hk⟩|⟨_,hk⟩:=ty
  .let#[l,_,pl,_]:=I.list g;show#[pl.isList.typeIs,λa e=>?_];cases e;let#[o,n,e,c,hd,_]:=pl;show#[o,e,hd]
  .show#[#[o,I.kIn p o hk,hc],λa e=>?_];cases e;show#[o,I.kIn _ o hk,hd]
  .let z:∃o,s.heap.get? p=↑o/\o.ExactDict:=by
    obtain⟨Ϸ,hk⟩|hk:=hk
    .let#[_,_,_,_,o,_,_,e,ex,_]:=I.hok p _ hk;show#[o,e,ex]
    .show hk.elim
   let#[o,e,ex]:=z;show#[#[o,e,ex.1],λa j=>?_];cases j;show#[o,e,ex.2.1]
  .show hk.elim
 |_=>show False.elim ty
def MtM(X:Cx)(id:String)(r:V->List V->Hp->VK->Prop):Prop:=
 ∀(ϵ:List (δ×Obj))(s:ν)(σ:St)(H:Hp)(x:V)(xs:List V)(v:ε)(us:List ε)(Q:VK),Inv X ϵ σ H s->RelV x v->Vals xs us->r x xs H Q->
  Ϧ ∅ X.A (call (.builtin id) (v::us)) (EP X ϵ σ Q) X.xe s
theorem Vals.one(h:Vals [x] us):∃u,us=[u]/\RelV x u:=vals1 h
theorem Vals.zero:∀{us:List ε},Vals [] us->us=[]
 |_,.nil=>rfl
section
variable{X:Cx}{ϵ:List (δ×Obj)}{σ:St}{H:Hp}{s:ν}{l b:δ}{xs ys zs:List V}
def Inv.lset{a its':List ε}{f:Array ε->Array ε}{t':Nat}(I:Inv X ϵ σ H s)(c:H l=↑(.lst xs))(e:s.heap.get? l=some {cls:=.type "list",data:=.seq a.toArray n})(g:f a.toArray=its'.toArray)(i:Vals ys its')(j:↥ys<=ϳ):Inv X ϵ σ (upd H l (.lst ys)) {s with heap:=s.heap.update l (Obj.mapSeq f),toks:=t'}:=by
 let q:=PySem.IsL.update e f;rw[g]at q;show I.write (x:=l) (e:=l) (by rw[c];show trivial) (.inl rfl) (λp u m o=>(acH s.heap (Obj.mapSeq f) (Ne.symm m)).trans o) #[_,q] ?_*>#[j,its',_,i,q]
theorem Inv.lnew(I:Inv X ϵ σ H s)(c:Vals ys a)(e:↥ys<=ϳ):Inv X ϵ σ (upd H ⇑s (.lst ys)) {s with heap:=s.heap.push {cls:=.type "list",data:=.seq a.toArray},toks:=t'}:=
 I.laid (λ_ _ q=>aaS _ q) (Ϭ _) #[e,a,0,c,acN _ rfl]
theorem Inv.fresh(I:Inv X ϵ σ H s):H ⇑s=none:=I.hok.fresh (Ϭ _)
def Inv.lstM(I:Inv X ϵ σ H s)(c:H l=↑(.lst xs)):↥xs<=ϳ/\∃(a:List ε)(n:Nat),Vals xs a/\↥xs=↥a/\s.heap.get? l=some {cls:=.type "list",data:=.seq a.toArray n}:=by
 let#[z,a,n,r,e]:=I.hok l _ c;show#[z,a,n,r,↥r,e]
end
def ahN:V->List V->Hp->VK->Prop:=λx vs H Q=>∃l xs y,x=.ref l/\vs=[y]/\H l=↑(.lst xs)/\↥xs<ϳ/\Q .non (upd H l (.lst (xs++[y])))
def Ao:MtM X "list.append" ahN:=by
 intro ϵ s σ H x vs v us Q I rx f h;let#[l,xs,y,rfl,rfl,a,i,q]:=h;cases rx;let#[u,rfl,g]:=f.one;let#[z,c,n,r,j,e]:=I.lstM a;show ao3 F.slot_list_append #[_,e,rfl] F.entry_list_append (F.args_list_append_2 _ _) (PySem.list_append l c.toArray n u (by rw[ace];omega)) #[e,?_]*>#[.non,_,I.lset (its':=c++[u]) a e (by simp) (r.append (.cons g .nil)) ?_,rfl,q];rw[adz,afZ];omega
def acT:R2:=λx y H Q=>∃l b xs zs,x=.ref l/\y=.ref b/\H l=↑(.lst xs)/\H b=↑(.lst zs)/\↥xs+↥zs<=ϳ/\∀p,H p=none->Q (.ref p) (upd H p (.lst (xs++zs)))
def aeP:bK X (binaryOp .Add) acT:=by
 intro ϵ s σ H x y v u Q I rx ry h;let#[l,b,xs,zs,rfl,rfl,f,g,p,q]:=h;cases rx;cases ry;let#[z,c,n,r,B,e]:=I.lstM f;let#[C,a,n2,i,j,m]:=I.lstM g;show PySem.P.add_list e m ?_ (by rw[ace,ace];omega);let o:c.toArray++a.toArray=(c++a).toArray:=by simp
 rw[o];show#[.ref _,_,I.lnew (t':=s.toks) (r.append i) (by rw[adz];omega),rfl,q _ I.fresh]
section
variable{κ:Type} [DecidableEq κ]
def bu(Ϸ:List (κ×V))(k:κ):Option V:=(Ϸ.find? λa=>decide (a.1=k)).map (·.2)
def putK(Ϸ:List (κ×V))(k:κ)(v:V):List (κ×V):=
 if(Ϸ.any λa=>decide (a.1=k))=true then Ϸ.map (λa=>if a.1=k then(a.1,v)else a)else Ϸ++[(k,v)]
def gJ(Ϸ:List (κ×V))(k:κ):List (κ×V):=Ϸ.filter λa=>decide (a.1≠k)
def aha{p:κ×V}{k:κ}(e:p.1=k):bu (p::r) k=↑p.2:=by simp[bu,af3,e]
def aeY{p:κ×V}{k:κ}(e:¬p.1=k):bu (p::r) k=bu r k:=by simp[bu,af3,e]
def anu(Ϸ:List (κ×V))(k:κ)(v:V):↥(putK Ϸ k v)<=↥Ϸ+1:=by
 unfold putK;split
 .rw[ϰ];omega
 .rw[adz,acz,atH];omega
def du.isSome_eq(r:du o u):o.isSome=u.isSome:=by
 cases o with
 |none=>cases u with
  |none=>rfl
  |some _=>show(show False from r).elim
 |some _=>cases u with
  |none=>show(show False from r).elim
  |some _=>rfl
def du.getD(r:du o u)(rd:RelV d d'):RelV (o.getD d) (u.getD d'):=by
 cases o with
 |none=>cases u with
  |none=>show rd
  |some _=>show(show False from r).elim
 |some _=>cases u with
  |none=>show(show False from r).elim
  |some _=>show r
def KV.val(r:KV Ϸ vs)(k:κ):du (bu Ϸ k) (valueAt vs k):=by
 unfold KV at r;induction r with
 |nil=>show True.intro
 | @cons p q ps a h t f=>
   let#[h1,h2]:=h;by_cases e:p.1=k
   .let c:q.1=k:=h1.symm<|>e;let b:valueAt (q::a) k=↑q.2:=by simp[valueAt,af3,c]
    rw[aha e,b];show h2
   .let c:¬q.1=k:=λz=>e (h1<|>z)
    let b:valueAt (q::a) k=valueAt a k:=by simp[valueAt,af3,c]
    rw[aeY e,b];show f
def KV.any(r:KV Ϸ vs)(k:κ):(Ϸ.any λa=>decide (a.1=k))=vs.any λa=>decide (a.1=k):=by
 unfold KV at r;induction r with
 |nil=>rfl
 |cons h t c=>rw[apb,apb,c,h.1]
def KV.repl(r:KV Ϸ vs)(k:κ)(ry:RelV y u):KV (Ϸ.map λa=>if a.1=k then(a.1,y)else a) (vs.map λa=>if a.1=k then(a.1,u)else a):=by
 unfold KV at r⊢;induction r with
 |nil=>show .nil
 | @cons p q ps f h t c=>
   rw[adY,adY];show .cons ?_ c;let#[h1,h2]:=h;by_cases e:p.1=k
   .rw[if_pos e,if_pos (h1.symm<|>e)];show#[h1,ry]
   .rw[if_neg e,if_neg (λz=>e (h1<|>z))];show#[h1,h2]
def KV.put(r:KV Ϸ vs)(k:κ)(ry:RelV y u):KV (putK Ϸ k y) (stored vs k u):=by
 unfold putK stored;rw[r.any k];by_cases e:(vs.any λa=>decide (a.1=k))=true
 .rw[if_pos e,if_pos e];show r.repl k ry
 .rw[if_neg e,if_neg e];show Paired.snoc r #[rfl,ry]
def KV.drop(r:KV Ϸ vs)(k:κ):KV (gJ Ϸ k) (without vs k):=by
 unfold KV at r⊢;unfold gJ without;induction r with
 |nil=>show .nil
 | @cons p q ps g h t c=>
   let#[h1,h2]:=h;rw[apw,apw];by_cases e:p.1=k
   .let a:¬decide (p.1≠k)=true:=by simp[e]
    let b:¬decide (q.1≠k)=true:=by simp[h1.symm<|>e]
    rw[if_neg a,if_neg b];show c
   .let f:¬q.1=k:=λz=>e (h1<|>z)
    let a:decide (p.1≠k)=true:=by simp[e]
    let b:decide (q.1≠k)=true:=by simp[f]
    rw[if_pos a,if_pos b];show .cons #[h1,h2] c
def KV.keys{vs:List (κ×ε)}(r:KV Ϸ vs):Ϸ.map (·.1)=vs.map (·.1):=by
 unfold KV at r;induction r with
 |nil=>rfl
 |cons h t a=>rw[adY,adY,a,h.1]
theorem KV.length{vs:List (κ×ε)}(r:KV Ϸ vs):↥Ϸ=↥vs:=Paired.length r
theorem ad8(Ϸ:List (κ×V))(k:κ):↥(gJ Ϸ k)<=↥Ϸ:=ahq _ _
end
def tW(r:RelV (kV k) u):(jV P w).is k u=true:=by
 cases k with
 |inl i=>let#[t,e]:=(show ∃t,u=Value.int i t from r);subst e;show amf P w i t
 |inr x=>let#[t,e]:=(show ∃t,u=Value.str x t from r);subst e;show ach P w x t
theorem aof(ok:aM P w H h)(e:Rd H a u):Ϝ P w H h a u:=e.ok ok
theorem lX(ok:aM P w H h)(e:Rd H a (.dK Ϸ)):↥Ϸ<=ϳ/\(a==sysModules)=false/\∃vs,KV Ϸ vs/\h.DictOf (jV P w) a vs:=
 show Ϝ P w H h a (.dK Ϸ)from aof ok e
theorem yO(ok:aM P w H h)(e:H a=↑(.dK Ϸ)):↥Ϸ<=ϳ/\(a==sysModules)=false/\∃vs,KV Ϸ vs/\h.DictOf (jV P w) a vs:=lX ok (.inl e)
def aK(H:Hp)(a:δ)(y:V)(r:Option V):Prop:=
 (∃Ϸ k,Rd H a (.dK Ϸ)/\y=kV k/\r=bu Ϸ k)\/False
def iQ(H:Hp)(a:δ)(y v:V)(H':Hp):Prop:=
 (∃Ϸ k,H a=↑(.dK Ϸ)/\y=kV k/\↥Ϸ<ϳ/\H'=upd H a (.dK (putK Ϸ k v)))\/False
theorem aK.k{H:Hp}{a:δ}{k:Key}(e:H a=↑(.dK Ϸ)):aK H a (kV k) (bu Ϸ k):=.inl #[Ϸ,k,.inl e,rfl,rfl]
theorem iQ.k{H:Hp}{a:δ}{k:Key}{v:V}(e:H a=↑(.dK Ϸ))(c:↥Ϸ<ϳ):iQ H a (kV k) v (upd H a (.dK (putK Ϸ k v))):=.inl #[Ϸ,k,e,rfl,c,rfl]
section
variable{X:Cx}{ϵ:List (δ×Obj)}{σ:St}{H:Hp}{s:ν}{a:δ}{y v:V}{u r:ε}{o:Option V}{A:ϴ}{E:ε->ν->Prop}
def Inv.big(I:Inv X ϵ σ H s):sysModules<⇑s:=by
 let h:mainGlobals<⇑s:=(I.mod.glob.keeps I.bk).lt;show Nat.lt_trans (by decide) h
def RB(n:A.units+1<cLine)(I:Inv X ϵ σ H s)(g:aK H a y ↑v)(ry:RelV y u)(h:∀c s',Inv X ϵ σ H s'->RelV v c->Q c s'):Ϧ ∅ A (getItem (.ref a) u) Q E s:=by
 obtain⟨Ϸ,k,e,j,l⟩|hF:=g
 .subst j;let#[z,hd,vs,f,dd]:=lX I.hok e;let#[c,m,i]:=du.some_of (v:=v) (o:=valueAt vs k) (by rw[l];show f.val k);show wpAny_getItem_of (tW ry) dd.mapOf m (h c _ (I.tok _) i)
 .show hF.elim
def ajC(i:A.units+1<cLine)(I:Inv X ϵ σ H s)(g:aK H a y o)(ry:RelV y u)(h:∀s',Inv X ϵ σ H s'->Q (.bool o.isSome) s'):Ϧ ∅ A (aeT .In u (.ref a)) Q E s:=by
 obtain⟨Ϸ,k,e,f,l⟩|hF:=g
 .subst f;let#[z,hd,vs,c,dd]:=lX I.hok e;show wpAny_in_of (tW ry) hd dd.mapOf ?_;rw[<-(c.val k).isSome_eq, <-l];show h _ (I.tok _)
 .show hF.elim
def ahm(i:A.units+1<cLine)(I:Inv X ϵ σ H s)(g:aK H a y o)(ry:RelV y u)(h:∀s',Inv X ϵ σ H s'->Q (.bool (!o.isSome)) s'):Ϧ ∅ A (aeT .NotIn u (.ref a)) Q E s:=by
 obtain⟨Ϸ,k,e,f,l⟩|hF:=g
 .subst f;let#[z,hd,vs,c,dd]:=lX I.hok e;show wpAny_notIn_of (tW ry) hd dd.mapOf ?_;rw[<-(c.val k).isSome_eq, <-l];show h _ (I.tok _)
 .show hF.elim
theorem Uv(I:Inv X ϵ σ H s)(g:vd (H a))(hs:anE a s.heap h')(i:∃q,h'.get? a=↑q)(f:Ϝ X.prog X.w (upd H a c) h' a c):Inv X ϵ σ (upd H a c) {s with heap:=h',toks:=t'}:=
 I.write (x:=a) (e:=a) g (.inl rfl) (λb q j z=>(hs.2 b j).trans z) i f
theorem Ip(z:↥Ϸ<=ϳ)(hd:(a==sysModules)=false)(c:KV Ϸ vs)(dd:h'.DictOf (jV P w) a vs):Ϝ P w H' h' a (.dK Ϸ):=#[z,hd,vs,c,dd]
def al4(x:A.units+1<cLine)(I:Inv X ϵ σ H s)(g:iQ H a y v H')(ry:RelV y u)(i:RelV v r)(h:∀s',Inv X ϵ σ H' s'->Q PUnit.unit s'):Ϧ ∅ A (setItem (.ref a) u r) Q E s:=by
 obtain⟨Ϸ,k,e,j,l,m⟩|hF:=g
 .subst j m;let#[z,hd,vs,c,dd]:=yO I.hok e;let n:↥vs<=ϳ:=by rw[<-↥c];show z
  let o:↥(putK Ϸ k v)<=ϳ:=by have:=anu Ϸ k v;omega
  show wpAny_setItem_pairs (hsz:=n) (tW ry) dd λh' f hs=>h _ ?_
  let p:∃q,h'.get? a=↑q:=let⟨q,_,_,hq,_⟩:=f;#[q,hq];show Uv I (by rw[e];show True.intro) hs p (Ip o hd (c.put k i) f)
 .show hF.elim
end
section
variable{X:Cx}{ϵ:List (δ×Obj)}{σ:St}{H:Hp}{s:ν}{a:δ}{Ϸ:List (Key×V)}{k:Key}{u:ε}{A:ϴ}{E:ε->ν->Prop}
def akP(I:Inv X ϵ σ H s)(e:H a=↑(.dK Ϸ))(ry:RelV (kV k) u)(l:bu Ϸ k=↑v)(n:c=[]\/∃x,c=[x])(h:∀g s',Inv X ϵ σ (upd H a (.dK (gJ Ϸ k))) s'->RelV v g->Q g s'):Ϧ ∅ A (call (.builtin "dict.pop") (.ref a::u::c)) Q E s:=by
 let#[z,hd,vs,f,dd]:=yO I.hok e;let#[g,p,m]:=du.some_of (v:=v) (o:=valueAt vs k) (by rw[<-l];show f.val k);let hp:(keyPart u).isSome=true:=by
  cases k with
  |inl i=>let#[t,q]:=(show ∃t,u=Value.int i t from ry);subst q;rfl
  |inr x=>let#[t,q]:=(show ∃t,u=Value.str x t from ry);subst q;rfl
 let y:argsOk "dict.pop" #[.ref a::u::c,[]]:=by
  obtain q|⟨x,q⟩:=n
  .subst q;show F.args_dict_pop_2 _ _
  .subst q;show F.args_dict_pop_3<*_
 show call_meetsIn F.slot_dict_pop dd.typeIs F.entry_dict_pop y (meets_dict_pop_there (jV X.prog X.w) a (tW ry) c n hp)
  #[vs,g,dd,by rw[<-↥f];show z,p,λh' j hs=>h g _ ?_ m]
 let B:∃q,h'.get? a=↑q:=let⟨q,_,_,hq,_⟩:=j;#[q,hq];show Uv I (by rw[e];show True.intro) hs B (Ip (afG (ad8 Ϸ k) z) hd (f.drop k) j)
def aiO(I:Inv X ϵ σ H s)(e:Rd H a (.dK Ϸ))(h:∀t s',Inv X ϵ σ H s'->Q (.int ↥Ϸ t) s'):Ϧ ∅ A (call (.builtin "len") [.ref a]) Q E s:=by
 let#[z,hd,vs,c,dd]:=lX I.hok e;show call_len_dict hd dd (by rw[<-↥c];rw[ϯ]at z;omega) ?_;rw[<-↥c];show h<*(I.tok _)
end
def W9(i:Ϫ):=∀a c,subscripted i false a c=operate [a,c] (getItem a c)
def ah3{w:Ϯ}{A:ϴ}{E:ε->ν->Prop}{s:ν}{env:Env}{value a:Ϫ}{pos:Pos}{T id:String}{Q:ε->ν->Prop}(m:typeLookup (.type T) "__getitem__"=pure ↑(.builtin id))(hs:W9 a)(h:Ϧ (Ϩ prog w) A (eval value env) (λo e=>Ϧ (Ϩ prog w) A (eval a env) (λi s₂=>s₂.TypeIs o T/\Ϧ (Ϩ prog w) A (getItem o i) Q E s₂) E e) E s):Ϧ (Ϩ prog w) A (eval (.Subscript value a pos) env) Q E s:=by
 show Subscript_ (adK h (λo e h₁=>adK h₁ (λi s₂ c=>?_) λ_ _ x=>x) λ_ _ x=>x);let#[l,c]:=c;unfold subscriptTail;show π ?_;rw[getitemInPython_of_ne l.not_modules];show π (wpAny_specialOf l m ?_);let g:Ϧ (Ϩ prog w) A (subscripted a false o i) (λr f=>Ϧ (Ϩ prog w) A (letTemporaryGo value o r>>=λ_=>pure r) Q E f) E s₂:=by
  rw[hs o i];show wpAny_operating (adK c (λr f j=>π (wpAny_letTemporaryGo (ϱ j))) λ_ _ x=>x)
 first
  |show ϱ (π g)
  |show π (ϱ (π g))
  |show π g
def Vt{X:Cx}{σ:St}{H:Hp}{s:ν}{a:δ}{y:V}{o:Option V}(I:Inv X ϵ σ H s)(g:aK H a y o):s.TypeIs (.ref a) "dict":=by
 obtain⟨Ϸ,k,e,_,_⟩|hF:=g
 .let#[_,_,vs,_,dd]:=lX I.hok e;show dd.typeIs
 .show hF.elim
theorem aks(h:ϫ)(a:sysModules<h.objs.size):Ϝ P w H (h.push {cls:=.type "dict",data:=.dict #v[]}) h.objs.size (.dK []):=
 #[aim _,beq_eq_false_iff_ne.mpr (Ne.symm (adn a)),[],.nil,Heap.DictOf.new h]
def aij:TE:=λ_ H Q=>∀p,H p=none->Q (.ref p) (upd H p (.dK []))
theorem aix:PE X (.Dict [] [] pos) aij:=λϵ s σ H Q I h=>
 wpAny_Dict_empty #[.ref ⇑s,_,I.laid (a:=⇑s) (o:=.dK []) (t':=s.toks) (λ_ _ q=>aaS _ q) (Ϭ _) (aks s.heap I.big),rfl,h _ (I.hok.fresh (Ϭ _))]
structure M1(X:Cx)(o:Ϫ)(m:Str)(apos:Pos)(e:Ϫ)(cpos:Pos):Prop where
 base:attributeBase o m X.env (eval o X.env)=eval o X.env
 few:((backTo cpos (acv [e] X.env)).all (λx=> !x.1)&&(backToKw cpos (keywordEach [] X.env)).all (λx=>x.1.isSome)
  &&decide (↥([e]:List Ϫ)+↥([]:List Keyword)+(if([]:List Keyword).isEmpty then 0 else 1)<30))=true
 line:(apos.endLine==cpos.line)=true
 trees:backTo cpos (acv [e] X.env)=[(false,eval e X.env)]
structure M2(X:Cx)(o:Ϫ)(m:Str)(apos:Pos)(e f:Ϫ)(cpos:Pos):Prop where
 base:attributeBase o m X.env (eval o X.env)=eval o X.env
 few:((backTo cpos (acv [e,f] X.env)).all (λx=> !x.1)&&(backToKw cpos (keywordEach [] X.env)).all (λx=>x.1.isSome)
  &&decide (↥([e,f]:List Ϫ)+↥([]:List Keyword)+(if([]:List Keyword).isEmpty then 0 else 1)<30))=true
 line:(apos.endLine==cpos.line)=true
 trees:backTo cpos (acv [e,f] X.env)=[(false,eval e X.env),(false,eval f X.env)]
def pQ(H:Hp)(a:δ):Prop:=(∃Ϸ,Rd H a (.dK Ϸ))\/False
def Wh{X:Cx}{σ:St}{H:Hp}{s:ν}{a:δ}(I:Inv X ϵ σ H s)(d:pQ H a):s.TypeIs (.ref a) "dict"/\(∀b,Value.ref a=.ref b->∃c,s.heap.get? b=↑c/\c.dict=none)/\(a==sysModules)=false:=by
 obtain⟨Ϸ,e⟩|hF:=d
 .let#[_,hd,vs,_,dd]:=lX I.hok e;show#[dd.typeIs,λb q=>?_,hd];cases q;let#[c,_,_,h1,h2,_]:=dd;show#[c,h1,h2.2.1]
 .show hF.elim
section
variable{X:Cx}{ϵ:List (δ×Obj)}{σ:St}{H:Hp}{s:ν}{a:δ}{y d:V}{u r:ε}{o:Option V}{A:ϴ}{E:ε->ν->Prop}
def akr(j:A.units+1<cLine)(I:Inv X ϵ σ H s)(g:aK H a y o)(ry:RelV y u)(h:∀f s',Inv X ϵ σ H s'->RelV (o.getD .non) f->Q f s'):Ϧ ∅ A (call (.builtin "dict.get") [.ref a,u]) Q E s:=by
 obtain⟨Ϸ,k,e,i,l⟩|hF:=g
 .subst i;let#[z,hd,vs,c,dd]:=lX I.hok e;show call_meetsIn F.slot_dict_get dd.typeIs F.entry_dict_get (F.args_dict_get_2 _ _) (meets_dict_get (jV X.prog X.w) a (tW ry) hd) #[_,dd.mapOf,h _ _ (I.tok _) ?_];rw[l];show(c.val k).getD rfl
 .show hF.elim
end
section
variable{X:Cx}{ϵ:List (δ×Obj)}{σ:St}{H:Hp}{s:ν}{a:δ}{Ϸ:List (Key×V)}{A:ϴ}{E:ε->ν->Prop}
def agn(I:Inv X ϵ σ H s)(e:Rd H a (.dK Ϸ))(h:∀p s',H p=none->Inv X ϵ σ (upd H p (.dK Ϸ)) s'->Q (.ref p) s'):Ϧ ∅ A (call (.type "dict") [.ref a]) Q E s:=by
 let#[z,hd,vs,c,dd]:=lX I.hok e;show kt_call_dict hd dd (by rw[<-↥c];show z) λh' f hs=>?_
 show h _ _ (I.hok.fresh (Ϭ _)) (I.laid (a:=⇑s) (o:=.dK Ϸ) (t':=s.toks) (λb q g=>?_) (Ϭ _) (Ip z (beq_eq_false_iff_ne.mpr (Ne.symm (adn I.big))) c f))*>(hs.2 b (adn (adw g))).trans (aaS _ g)
end
end _L
namespace _L
open PySem PySem.Spec PyProof.Rows
section
variable{P:ϲ}{w:Ϯ}{K:ϩ}{mg:MG}{base:ϫ}
def c7.binds{x qual:Str}{st:ϧ}{f:δ}{fd:ajR}(F:c7 K x qual st f fd)(h:∀(kV a pm:ε)(an:Option δ)(c ct:ε)(us:List ε),↥us=↥ps->bindArgs (asS x qual (jx st) (ϣ st) (ς st) .none kV a pm an c ct) #[us,[]]=pure (ps.zip us)):Binds K fd ps []:=by
 let#[oc,od,kV,a,pm,an,c,ct,e,rfl,lk,g]:=F.ex;show .all (h kV a pm an c ct)
end
def agL{A B:Prop}(h:B):if false=true then A else B:=by
 rw[if_neg abW];show h
def amg{A B:Prop}(h:A):if true=true then A else B:=by
 rw[if_pos rfl];show h
def ζ(H H':Hp):=∀b o,H b=↑o->H' b=↑o
theorem ζ.refl(H:Hp):ζ H H:=λ_ _ h=>h
theorem ζ.trans(a:ζ H H1)(b:ζ H1 H2):ζ H H2:=λc o h=>b c o (a c o h)
def ζ.free(e:ζ H H')(h:H' l=Option.none):H l=Option.none:=by
 cases q:H l with
 |none=>rfl
 |some o=>
  rw[e l o q]at h;cases h
def ζ.seq{K:ϩ}{H H':Hp}{a:δ}(e:ζ H H')(h:θ K H a xs):θ K H' a xs:=by
 rcases h with(h|⟨o,h⟩)|h
 .show .inl (.inl (e<*h))
 .show .inl (.inr #[o,e<*h])
 .show .inr h
def aiy:iJ X (.builtin "len") (λxs H Q=>∃a Ϸ,xs=[V.ref a]/\H a=↑(.dK Ϸ)/\Q (.int ↥Ϸ) H):=by
 intro ϵ s σ H xs us Q I r h;let#[a,Ϸ,rfl,c,q]:=h;let#[u,rfl,e]:=vals1 r;cases e;show aiO I (.inl c) λt s' f=>#[.int ↥Ϸ,H,f,#[t,rfl],q]
theorem cu.stay(k:∀v o ws,v≠e->h.get? v=↑o->o.data=.fields ws->∃o' f,h'.get? v=↑o'/\o'.data=.fields f/\f[2]?=ws[2]?):∀{l:List δ}{c:Option ε},cu h c l->e∉l->cu h' c l
 |[],_,q,_=>q
 |a::r,c,⟨g,o,vs,i,j,m⟩,n=>by
  let#[o',f,k1,k2,k3]:=k a o vs (λz=>n (by simp[z])) i j;show#[g,o',f,k1,k2,?_];rw[k3];show cu.stay k m λz=>n (by simp[z])
theorem Ctx.yes(q:c=↑.none):Ctx h e true c:=#[λ_=>q,[],q,by simp,.nil]
def Ctx.stay(q:Ctx h e b c)(k:∀v o ws,v≠e->h.get? v=↑o->o.data=.fields ws->∃o' a,h'.get? v=↑o'/\o'.data=.fields a/\a[2]?=ws[2]?):Ctx h' e b c:=by
 let#[g,l,i,f,j]:=q;show#[g,l,i.stay k f,f,j]
def aM.free(x:aM P w H h)(e:h.get? a=none):H a=none:=by
 cases q:H a with
 |none=>rfl
 |some u=>
  let#[c,z]:=(x a u q).there;rw[e]at z;cases z
section
variable{M:Model}{A:ϴ}{E:ε->ν->Prop}{s:ν}
def QB(i:A.frames=↑(env::outer))(p:s.heap.FunFrames base (env::outer))(y:env.frame=↑L)(u:s.heap.get? e=↑oe)(hd:oe.data=.fields vs)(hsz:1<vs.size)(k:∀(h':ϫ)(T:δ)(v:Obj)(ws:Array ε),⇑s<=h'.objs.size->(∀b o,s.heap.get? b=↑o->b≠e->b∉cH (env::outer)->h'.get? b=↑o)->
   (∀b o,s.heap.get? b=↑o->b≠e->∃sl,h'.get? b=some {o with slots:=sl})->⇑s<=T->h'.get? e=↑(oe.mapFields (·.setIfInBounds 1 (.ref T)))->
   h'.get? T=↑v->v.data=.fields ws->ws[3]?=↑(rawInt L)->Q PUnit.unit {s with heap:=h'}):Ϧ M A (do
   let a<-frameOf env;let pl<-entryPlaceOf L c;let b<-EntryCells.newEntry head a .none (rawInt L) .none pl
   setField (.ref e) 1 b) Q E s:=by
 let z:e∉(env::outer).filterMap (·.frame):=λm=>by
  let#[_,o,x,B]:=p.mem m;rw[u]at x;cases x;show B vs hd
 show π (wpAny_frameOf_fun i p y λh1 g=>π (wpAny_entryPlaceOf λpl hp=>?_));unfold EntryCells.newEntry newFields;show π (wpAny_newObj_type ?_ (hp.sizeOk5 _ _ _ _ _));let e1:h1.get? e=↑oe:=(g.2.1 e z)<|>u;let j:e≠h1.objs.size:=adn (adw e1);show amA (aaS _ e1) hd hsz (k _ h1.objs.size {cls:=.type "traceback",dict:=none,data:=.fields (([head,.ref L,.none,rawInt L,.none]:List ε)++(if pl.isEmpty then aoG 6 Value.none else pl)).toArray} (([head,.ref L,.none,rawInt L,.none]:List ε)++(if pl.isEmpty then aoG 6 Value.none else pl)).toArray ?_ (λb o l f n=>?_) (λb o l f=>?_) (apS g.1.symm) ?_ ?_ ?_ ?_)
 .rw[asL,asr,g.1];show aoW _
 .rw[acH<*(Ne.symm f)];show aaS _ ((g.2.1 b n)<|>l)
 .let#[sl,q]:=g.2.2 b o l;show#[sl,by rw[acH<*(Ne.symm f)];show aaS _ q]
 .show afa _ (aaS _ e1) (Obj.isFreed_of_fields (Obj.data_mapFields hd _))
 .rw[acH<*j];show acN h1 rfl
 .show rfl
 .first
   |(simp;done)
   |(obtain rfl|⟨_,_,_,_,_,_,_,rfl⟩:=hp<;>simp)
structure kJ(h h':ϫ)(ch fs:List δ):Prop where
 keep:∀b o,h.get? b=↑o->b∉fs->b∉ch->h'.get? b=↑o
 slot:∀b o,h.get? b=↑o->b∉ch->∃sl,h'.get? b=some {o with slots:=sl}
 there:∀b o,h.get? b=↑o->∃o',h'.get? b=↑o'
def Yk(p:A.frames=↑(env::outer))(hl:s.heap.FunFrames base (env::outer))(J:env.frame=↑L)(F:aZ s.heap e cls d tb fl)(O:(fl==rawInt L)=false)(k:∀(h':ϫ)(T:δ),kJ s.heap h' (e::tb.toList) (cH (env::outer))->⇑s<=T->aZ h' e cls d ↑T (rawInt L)->Q PUnit.unit {s with heap:=h'}):Ϧ M A (noteFrame (.ref e) env) Q E s:=by
 let#[P,vs,m,hc,R,hd,h1,hz,h2,ht]:=F
 let u:∀{hp:ϫ}{h':ϫ}{T:δ}{n:Obj}{ws:Array ε},(∀v o ws,v≠e->s.heap.get? v=↑o->o.data=.fields ws->∃o' x,h'.get? v=↑o'/\o'.data=.fields x/\x[2]?=ws[2]?)->hp.get? e=↑P->hp.objs.size<=T->h'.get? e=↑(P.mapFields (·.setIfInBounds 1 (.ref T)))->h'.get? T=↑n->n.data=.fields ws->
   ws[3]?=↑(rawInt L)->aZ h' e cls d ↑T (rawInt L):=λ{hp h' T n ws} kk e0 hT a g f q4=>by
  let S:=Obj.data_mapFields hd (·.setIfInBounds 1 (Value.ref T));show#[_,_,a,(Obj.cls_mapFields _ _)<|>hc,?_,S,?_,~~~hz,?_,λT' eT=>?_]
  .let#[c0,d0,dt,sl]:=P;cases hd;show R
  .have :1<vs.size:=()
   simp[this]
  .rw[ahY (by decide)];show h2.stay kk
  .cases eT;show#[λz=>alQ _ (adk (adw e0) (z▸hT)),n,ws,g,f,q4]
 unfold noteFrame;simp only[J];cases tb with
 |none=>
  let l:vs[1]?=↑Value.none:=h1;show π (akX m hd l ?_);rw[if_neg (by decide)];show QB p hl J m hd () λh' T n ws a1 U j y B W X Y=>k h' T #[λb o a g f=>U b o a (λz=>f (by simp[z])) g,λb o a f=>j b o a λz=>f (by simp[z]),λb o a=>?_] y (u (λv o ws H a g=>by let#[sl,q]:=j v o a H;show#[_,ws,q,g,rfl]) m y B W X Y)
  by_cases z:b=e
  .subst z;show#[_,B]
  .let#[sl,q]:=j b o a z;show#[_,q]
 |some i=>
  let#[Ϻ,oT0,Z,C,I,t3]:=ht i rfl;let l:vs[1]?=↑(Value.ref i):=h1;show π (akX m hd l ?_);rw[if_pos (show(Value.ref i !=Value.none)=true from by simp)];show π (akX C I t3 ?_);rw[if_neg (by rw[O];show abW)];show π (amA C I (aiM.mp t3).1 ?_);let c:∀b,b≠i->(s.heap.update i (Obj.mapFields (·.setIfInBounds 3 Value.none))).get? b=s.heap.get? b:=λb D=>acH _ _ (Ne.symm D)
  let jT:=afa (Obj.mapFields (·.setIfInBounds 3 Value.none)) C (Obj.isFreed_of_fields (Obj.data_mapFields I _));let hsz:(s.heap.update i (Obj.mapFields (·.setIfInBounds 3 Value.none))).objs.size=⇑s:=asL ..;let aa:(s.heap.update i (Obj.mapFields (·.setIfInBounds 3 Value.none))).FunFrames base (env::outer):=hl.of_keeps λb o D nf=>#[o,(c b λz=>by
   subst z;rw[C]at D;cases D;show nf Z I).trans D,rfl]
  show QB (s:={s with heap:=s.heap.update i (Obj.mapFields (·.setIfInBounds 3 Value.none))}) p aa J ((c e (Ne.symm Ϻ))<|>m) hd () λh' T n ws a1 U j y B W X Y=>
   k h' T #[λb o a g f=>U b o ((c b λz=>f (by simp[z]))<|>a) (λz=>f (by simp[z])) g,λb o a f=>j b o ((c b λz=>f (by simp[z]))<|>a) λz=>f (by simp[z]),λb o a=>?_] (hsz▸y) (u (λv o ws H a g=>by
     by_cases G:v=i
     .subst G;let#[sl,q]:=j v _ jT H;rw[C]at a;cases a;show#[_,_,q,Obj.data_mapFields g _,by rw[ahY (by decide)]]
     .let#[sl,q]:=j v o ((c v G)<|>a) H;show#[_,ws,q,g,rfl]) ((c e (Ne.symm Ϻ))<|>m) y B W X Y)
  by_cases z:b=e
  .subst z;show#[_,B]
  .by_cases G:b=i
   .subst G;let#[sl,q]:=j b _ jT z;show#[_,q]
   .let#[sl,q]:=j b o ((c b G)<|>a) z;show#[_,q]
theorem aih(a:A.frames=↑(env::outer))(c:s.heap.FunFrames base (env::outer))(f:env.frame=↑L)(F:aZ s.heap e cls d tb .none)(k:∀(h':ϫ)(T:δ),kJ s.heap h' (e::tb.toList) (cH (env::outer))->⇑s<=T->aZ h' e cls d ↑T (rawInt L)->Q PUnit.unit {s with heap:=h'}):Ϧ M A (noteFrame (.ref e) env) Q E s:=
 Yk a c f F (by simp[rawInt]) k
def amr{L e:δ}{cls:ε}{d:Option δ×Bool}{tb:Option δ}{Q:Unit->ν->Prop}(a:env.frame=↑L)(F:aZ s.heap e cls d tb (rawInt L))(c:tb.isSome=true)(k:Q PUnit.unit s):Ϧ M A (noteFrame (.ref e) env) Q E s:=by
 let#[n,vs,f,hc,g,hd,h1,o,h2,i]:=F;cases tb with
 |none=>cases c
 |some T=>
  let#[_,p,ws,j,l,m]:=i T rfl;show wpAny_noteFrame_inFlight a f hd h1 j l m k
def akM(F:aZ s.heap e cls d ↑T p)(k:∀h',kJ s.heap h' [T] []->aZ h' e cls d ↑T .none->Q PUnit.unit {s with heap:=h'}):Ϧ M A (setFlight (.ref e) none) Q E s:=by
 let#[u,vs,i,hc,f,hd,h1,x,h2,y]:=F;let#[j,D,ws,a,c,B]:=y T rfl;let l:3<ws.size:=(aiM.mp B).1;show wpAny_setFlight_none i hd h1 a c l (k _ #[λb o q _ n=>?_,λb o q n=>#[o.slots,?_],λb o q=>?_] ?_)
 .rw[acH<*(λz=>n (by simp[z]))];show q
 .rw[acH<*(λz=>n (by simp[z]))];show q
 .by_cases z:b=T
  .subst z;show#[_,afa _ a (Obj.isFreed_of_fields (Obj.data_mapFields c _))]
  .show#[o,by rw[acH<*(Ne.symm z)];show q]
 .show#[u,vs,?_,hc,f,hd,h1,x,h2.stay λv o ws G g m=>?_,λH C=>?_]
  .rw[acH<*j];show i
  .by_cases z:v=T
   .subst z;rw[a]at g;cases g;show#[_,_,afa _ a (Obj.isFreed_of_fields (Obj.data_mapFields c _)),Obj.data_mapFields m _,by rw[ahY (by decide)]]
   .show#[o,ws,by rw[acH<*(Ne.symm z)];show g,m,rfl]
  .cases C;show#[j,_,_,afa _ a (Obj.isFreed_of_fields (Obj.data_mapFields c _)),Obj.data_mapFields c _,by simp[l]]
end
section
variable{X:Cx}{ϵ:List (δ×Obj)}{σ:St}{H H':Hp}{s s':ν}
def Ch(X:Cx)(ϵ:List (δ×Obj))(b:δ):Prop:=(b∈X.ex\/X.s₀.heap.get? b=none)/\b≠X.env.locals/\(∀x c,X.env.cells.lookup x=↑c->c≠b)/\∀p∈X.pn++ϵ,p.1≠b
def Inv.ch(I:Inv X ϵ σ H s)(h:s.heap.get? b=none):Ch X ϵ b:=by
 show#[?_,λz=>?_,λx c q z=>?_,λp hp z=>?_]
 .by_cases e:b∈X.ex
  .show .inl e
  .show .inr ?_;cases q:X.s₀.heap.get? b with
   |none=>rfl
   |some o=>
    let#[o',f]:=I.base.there b o q e;rw[h]at f;cases f
 .let#[_,#[o,_,_,a,_],_]:=I.loc;rw[<-z,h]at a;cases a
 .let#[_,o,a,_]:=I.cell x c q;rw[z,h]at a;cases a
 .have :=(I.pin p hp).1;rw[z,h]at this;cases this
def Inv.noted{ch:List δ}(I:Inv X ϵ σ H s)(N:kJ s.heap h' ch (cH X.stack))(hc:∀b∈ch,H b=none/\Ch X ϵ b):Inv X ϵ σ H {s with heap:=h'}:=by
 let j8:∀b u,H b=↑u->b∉cH X.stack/\b∉ch:=λb u e=>#[(λz=>by rw[I.stkFree b z]at e;cases e),(λz=>by rw[(hc b z).1]at e;cases e)]
 show I.call (g':=s.gens) (d':=s.drawn) (t':=s.toks) (ch:=ch) (h':=h') #[λb o e _ a f=>N.keep b o e a f,λb o e _ _ f=>N.slot b o e f,λ_ _ _ n _=>n,λb o e _=>N.there b o e,λ_ _ e=>e,λ_ _ _ e=>e,λb ps e=>#[#v[],by rw[e];simp]] ?_ I.bare λb a=>(hc b a).2
 intro b u e;show(I.hok b u e).stay (λc v g q=>?_) (λ_ q=>q) λ_ _ q=>q
 obtain z|z:=g
 .subst z;show N.keep c v q (j8 c u e).1 (j8 c u e).2
 .show N.keep c v q (j8 c _ z).1 (j8 c _ z).2
def pJ(X:Cx)(ϵ:List (δ×Obj))(σ:St)(H:Hp)(s:ν)(e:δ)(cls:ε)(d:Option δ×Bool):Prop:=
 Inv X ϵ σ H s/\∃tb a,aZ s.heap e cls d tb a/\(a=.none\/(a=rawInt X.env.locals/\tb.isSome=true))/\∀b∈e::tb.toList,H b=none/\Ch X ϵ b
def bz(X:Cx)(Kx:St->XK):=∀(ϵ:List (δ×Obj))(σ:St)(H:Hp)(s:ν)(e:δ)(cls:ε)(d:Option δ×Bool),pJ X ϵ σ H s e cls d->Kx σ cls d H->X.xe (.ref e) s
def Inv.flown(I:Inv X ϵ σ H s)(c:cJ X.prog X.w X.stack H s E x s'):∃e cls d H',x=.ref e/\pJ X ϵ σ H' s' e cls d/\E cls d H':=by
 let#[e,tb,cls,d,H',rfl,os,bare,un,hok,F,ch,q]:=c;let f:Inv X ϵ σ H' s':=I.call' (ch:=[]) os un hok bare λb z=>absurd z (by simp)
 show#[e,cls,d,H',rfl,#[f,tb,.none,F,.inl rfl,λb a=>#[(ch b a).1,I.ch (ch b a).2]],q]
theorem S8(h:X.xe=λ_ _=>False):bz X (λ_ _ _ _=>False):=λ_ _ _ _ _ _ _ _ z=>z.elim
def pJ.note(x:pJ X ϵ σ H s e cls d)(a:X.stack=X.env::X.outer)(f:X.env.frame=↑X.env.locals)(k:∀s' T,Inv X ϵ σ H s'->aZ s'.heap e cls d ↑T (rawInt X.env.locals)->(∀b∈[e,T],H b=none/\Ch X ϵ b)->Q PUnit.unit s'):Ϧ M X.A (noteFrame (.ref e) X.env) Q E s:=by
 let#[I,tb,n,F,c,ch]:=x;obtain z|⟨z,j⟩:=c
 .subst z;let g:=I.stack;rw[a]at g;show aih (base:=X.base) (I.ok.frames<|>(by rw[a])) g f F λh' T N i l=>k _ T (I.noted (by rw[a];show N) ch) l λb m=>?_
  obtain z|z:=aaT.mp m
  .subst z;show ch _ adS
  .let z':b=T:= ~~~z
   subst z';show#[I.hok.fresh i,I.ch (alb i)]
 .subst z;cases tb with
  |none=>cases j
  |some T=>show amr f F rfl (k s T I F ch)
def Inv.off(I:Inv X ϵ σ H s)(F:aZ s.heap e cls d ↑T a)(hc:∀b∈[e,T],H b=none/\Ch X ϵ b)(k:∀s',Inv X ϵ σ H s'->aZ s'.heap e cls d ↑T .none->Q PUnit.unit s'):Ϧ M A (setFlight (.ref e) none) Q E s:=by
 show akM F λh' N c=>k _ (I.noted (ch:=[T]) #[λb o q _ n=>N.keep b o q (by simp) n,N.slot,N.there] λb f=>?_) c
 let z:b=T:= ~~~f
 subst z;show hc b (by simp)
end
def Β{cc:Bool}{P:ϲ}{w:Ϯ}{K:ϩ}{mg:MG}{base:ϫ}{qual:Str}{scope:ajd}{f:δ}{cd:ε}{A:ϴ}{s₀:ν}{H₀:Hp}{E:XK}:bz (oG cc (cJ P w) P w K mg base N qual scope f cd A outer s₀ H₀ E) (λ_=>E):=by
 intro ϵ σ H s e cls d x q;show Ϧ _ _ (leaving _ _) _ _ s;unfold leaving;show π (x.note rfl rfl λl T c g c1=>?_)*>c.off g c1 λm a i=>?_
 show#[e,↑T,cls,d,H,rfl,a.os,a.bare,a.base,a.hok,i,λb j=>?_,q];let z:=c1 b (~~~j);show#[z.1,?_];obtain y|y:=z.2.1
 .show absurd (show b∈([]:List δ)from y) (by simp)
 .show y
theorem anB{cc:Bool}{P:ϲ}{w:Ϯ}{K:ϩ}{mg:MG}{base:ϫ}{qual:Str}{scope:ajd}{f:δ}{cd:ε}{A:ϴ}{s₀:ν}{H₀:Hp}{E:XK}:apU (Ϩ P w) (A.deeper (envOfC qual scope ⇑s₀ f cd)) (envOfC qual scope ⇑s₀ f cd) (oG cc (cJ P w) P w K mg base N qual scope f cd A outer s₀ H₀ E).xe:=PassesOwn.leaving
section
variable{X:Cx}{Kx:St->XK}{cc:Bool}{k k':Nat}{f C:δ}{fd:ajR}{ps:List Str}{sp:Sp}{x m:Str}{p pos apos:Pos}{e o:Ϫ}{es:List Ϫ}{σ:St}{H:Hp}{Q:VK}
def wJ(F:dJ X.prog X.w X.K X.mg X.base (cJ X.prog X.w) cc k f fd ps sp)(i:ϓ cc k X.A)(j:Binds X.K fd ps [])(l:bz X Kx)(I:Inv X ϵ σ H s)(r:Vals vs us)(h:sp vs H Q (Kx σ)):Ϧ ∅ X.A (call (.ref f) us) (EP X ϵ σ Q) X.xe s:=by
 let m:↥us=↥ps:=by rw[<-↥r];show F.len _ _ _ _ h
 let c:=j s us I.kIn (~~~m);rw[aiD]at c;show aol (akW (F.run X.A X.stack s H #[us,[]] us vs Q (Kx σ) i I.env0 c r h) λr s' g=>?_);cases r with
 |error e=>
  let#[a,cls,d,H',rfl,n,q]:=I.flown g;show l ϵ σ H' s' a cls d n q
 |ok o=>
  cases o with
  |ret u=>show I.after g
  |next=>show False.elim g
  |brk=>show False.elim g
  |cont=>show False.elim g
end
def EV(X:Cx)(e:Ϫ)(σ:St)(H:Hp)(Q:VK):Prop:=
 ∀(ϵ:List (δ×Obj))(s:ν),Inv X ϵ σ H s->Ϧ ∅ X.A (eval e X.env) (EP X ϵ σ Q) X.xe s
def ET(X:Cx)(e:Ϫ)(σ:St)(H:Hp)(Q:Bool->Hp->Prop):Prop:=
 ∀(ϵ:List (δ×Obj))(s:ν),Inv X ϵ σ H s->Ϧ ∅ X.A (isTrue e X.env (eval e X.env)) (TP X ϵ σ Q) X.xe s
def EW(X:Cx)(e:Ϫ)(σ:St)(H:Hp)(Q:Bool->Hp->Prop):Prop:=
 ∀(a:Sem ε)(ϵ:List (δ×Obj))(s:ν),Inv X ϵ σ H s->Ϧ ∅ X.A (isTrue e X.env a) (TP X ϵ σ Q) X.xe s
def EA(X:Cx)(es:List Ϫ)(σ:St)(H:Hp)(Q:List V->Hp->Prop):Prop:=
 ∀(pos:Pos)(ϵ:List (δ×Obj))(s:ν),Inv X ϵ σ H s->Ϧ ∅ X.A (spliced (backTo pos (acv es X.env))) (AP X ϵ σ Q) X.xe s
def EO(X:Cx)(e:Option Ϫ)(σ:St)(H:Hp)(Q:Option Int->Hp->Prop):=∃t,PO X e t/\t σ H Q
def SX(X:Cx)(st:ϧ)(D:Ends)(σ:St)(H:Hp):Prop:=
 ∀(ϵ:List (δ×Obj))(s:ν),Inv X ϵ σ H s->Ϧ ∅ X.A (exec st X.env) (SP X ϵ D) X.xe s
def Φ(X:Cx)(st:List ϧ)(D:Ends)(σ:St)(H:Hp):Prop:=
 ∀(ϵ:List (δ×Obj))(s:ν),Inv X ϵ σ H s->Ϧ ∅ X.A (execs st X.env) (SP X ϵ D) X.xe s
def EG(X:Cx)(tg:Ϫ)(v:V)(σ:St)(H:Hp)(Q:St->Hp->Prop):Prop:=
 ∀(ϵ:List (δ×Obj))(s:ν)(u:ε),Inv X ϵ σ H s->RelV v u->Ϧ ∅ X.A (assign tg X.env u) (λ_ s'=>∃σ' H',Inv X ϵ σ' H' s'/\Q σ' H') X.xe s
def wF(X:Cx)(a:List Ϫ)(vs:List V)(σ:St)(H:Hp)(Q:St->Hp->Prop):Prop:=
 ∀(ϵ:List (δ×Obj))(s:ν)(us:List ε),Inv X ϵ σ H s->Vals vs us->Ϧ ∅ X.A (assignInOrder ((assignEach a X.env).map (·.2)) us) (λ_ s'=>∃σ' H',Inv X ϵ σ' H' s'/\Q σ' H') X.xe s
def EI(X:Cx)(tg iter:Ϫ)(σ:St)(H:Hp)(R:It->Hp->Prop):Prop:=
 ∀(ϵ:List (δ×Obj))(s:ν),Inv X ϵ σ H s->
  Ϧ ∅ X.A (eval iter X.env) (λv a=>Ϧ ∅ X.A (pyIter v) (xx X ϵ σ tg R) X.xe a) X.xe s
def OP(X:Cx)(f:ε->ε->Sem ε)(x y:V)(H:Hp)(Q:VK):=∃r,bK X f r/\r x y H Q
def UN(X:Cx)(f:ε->Sem ε)(x:V)(H:Hp)(Q:VK):=∃r,Bd X f r/\r x H Q
def CL(X:Cx)(f:ε)(xs:List V)(H:Hp)(Q:VK):=∃r,iJ X f r/\r xs H Q
def IX(X:Cx)(x y:V)(H:Hp)(Q:VK):=∃r,sY X r/\r x y H Q
def SL(X:Cx)(x:V)(lo hi:Option Int)(H:Hp)(Q:VK):=∃r,yq X r/\r x lo hi H Q
def MT(X:Cx)(id:String)(x:V)(xs:List V)(H:Hp)(Q:VK):=∃r,JP X id r/\r x xs H Q
section
variable{X:Cx}{a b c e:Ϫ}{es:List Ϫ}{σ:St}{H:Hp}{Q:VK}{QT:Bool->Hp->Prop}{QA:List V->Hp->Prop}{D:Ends}{pos p apos:Pos}{x:Str}{v:V}
theorem iU:PE X e (EV X e):=λϵ s _ _ _ I h=>h ϵ s I
theorem aib:PW X e (EW X e):=λa ϵ s _ _ _ I h=>h a ϵ s I
theorem abm:PO X o (EO X o):=λϵ s σ H Q I z=>by let#[_,h,q]:=z;show h ϵ s σ H Q I q
theorem Rm{st:List ϧ}:YM X st (Φ X st):=λϵ s _ _ _ I h=>h ϵ s I
theorem oW:bK X f (OP X f):=λϵ s σ H x y v u Q I rx ry z=>by let#[_,h,q]:=z;show h ϵ s σ H x y v u Q I rx ry q
theorem abV:Bd X f (UN X f):=λϵ s σ H x v Q I rx z=>by let#[_,h,q]:=z;show h ϵ s σ H x v Q I rx q
theorem Sw:iJ X f (CL X f):=λϵ s σ H xs us Q I rx z=>by let#[_,h,q]:=z;show h ϵ s σ H xs us Q I rx q
theorem afd:sY X (IX X):=λa sl ϵ s σ H x y v u Q I rx ry z hs=>by let#[_,h,q]:=z;show h a sl ϵ s σ H x y v u Q I rx ry q hs
theorem ae2:yq X (SL X):=λϵ s σ H x v a c lo hi sl Q I rx hs pl e z=>by let#[_,h,q]:=z;show h ϵ s σ H x v a c lo hi sl Q I rx hs pl e q
theorem ajs{id:String}:JP X id (MT X id):=λϵ s σ H x xs v us Q I rx a z=>by let#[_,h,q]:=z;show h ϵ s σ H x xs v us Q I rx a q
theorem zy(h:PE X e t)(q:t σ H Q):EV X e σ H Q:=λϵ s I=>h ϵ s σ H Q I q
theorem ahf(h:PT X e t)(q:t σ H QT):ET X e σ H QT:=λϵ s I=>h ϵ s σ H QT I q
def gH:List Str->St->Str->Option V
 |n::N,o::σ,x=>if n=x then o else gH N σ x
 |_,_,_=>none
theorem Fd:∀{N:List Str}{σ:St}{x:Str}{v:V},gH N σ x=↑v->∃i:Nat,N[i]?=↑x/\σ[i]?=some ↑v
 |n::N,o::σ,x,v,h=>by
  unfold gH at h;split at h
  .rename_i e;show#[0,by simp[e],by simp[h]]
  .let#[i,h1,h2]:=Fd h;show#[i+1,~~~h1,~~~h2]
 |[],_,_,_,h=>by simp[gH]at h
 |_::_,[],_,_,h=>by simp[gH]at h
def nameAt:List Str->Str->Option Nat
 |n::N,x=>if n=x then some 0 else(nameAt N x).map (· +1)
 |[],_=>none
theorem nG:∀{N:List Str}{x:Str}{i:Nat},nameAt N x=↑i->N[i]?=↑x
 |n::N,x,i,h=>by
  unfold nameAt at h;split at h
  .rename_i e;cases h;simp[e]
  .cases q:nameAt N x with
   |none=>rw[q]at h;cases h
   |some j=>
    rw[q]at h;cases h;simpa using nG q
 |[],_,_,h=>by simp[nameAt]at h
def ajq(c:gH X.N σ x=↑v)(e:sS X.env.scope x)(q:Q v H)(hd:(x==("__debug__":Str))=false)(a:(x==("__classdict__":Str))=false):EV X (.Name x pos) σ H Q:=by
 let#[i,h1,h2]:=Fd c;show zy (aku h1 e hd a) #[v,h2,q]
def ajb(g:Gc X.mg x v)(a:Gl X x)(q:Q v H)(hd:(x==("__debug__":Str))=false):EV X (.Name x pos) σ H Q:=by
 let#[u,h1,h2]:=g;show zy (abh a h1 h2 hd) q
theorem alO(a:Gl X x)(c:X.mg x=none)(e:bootBuiltins x=↑(.type T))(q:Q (.ty T) H)(f:x≠"__name__")(hd:(x==("__debug__":Str))=false):EV X (.Name x pos) σ H Q:=λϵ s I=>j5 I a c e #[(.ty T),H,I,rfl,q] f hd
theorem acY{j}(q:Q (.int i) H):EV X (.Constant (.int i) j pos) σ H Q:=λϵ s I=>wpAny_Constant_int #[.int i,H,I.tok _,#[_,rfl],q]
theorem ana{j}(q:Q (.bl i) H):EV X (.Constant (.bool i) j pos) σ H Q:=λϵ s I=>Constant_bool #[.bl i,H,I,rfl,q]
theorem ahK{j}(q:Q .non H):EV X (.Constant .none j pos) σ H Q:=λϵ s I=>Constant_none #[.non,H,I,rfl,q]
theorem vB{j}(q:Q (.str i) H):EV X (.Constant (.str i) j pos) σ H Q:=λϵ s I=>Calls.Constant_str #[.str i,H,I.tok _,#[_,rfl],q]
def ahU(h:EV X a σ H λx H1=>EV X b σ H1 λy H2=>OP X (binaryOp op) x y H2 Q):EV X (.BinOp a op b pos) σ H Q:=by
 intro ϵ s I;show wpAny_BinOp (Ed iU iU I h λv u c x y H2 e rx ry q=>oW ϵ c σ H2 x y v u Q e rx ry q)
def agU(h:EV X a σ H λx H1=>UN X (unaryOp op) x H1 Q):EV X (.UnaryOp op a pos) σ H Q:=by
 intro ϵ s I;show UnaryOp_ (ψ (h ϵ s I) λv c z=>by let#[x,H1,e,r1,f]:=z;show abV ϵ c σ H1 x v Q e r1 f)
def aj2(c:behindInMarks op b=false)(h:EV X a σ H λx H1=>EV X b σ H1 λy H2=>OP X (aeT op) x y H2 Q):EV X (.Compare a [op] [b] pos) σ H Q:=by
 intro ϵ s I;show wpAny_Compare1 (Ed iU iU I h λv u e x y H2 f rx ry q=>oW ϵ e σ H2 x y v u Q f rx ry q) c
def akI(g:behindInMarks op b=false)(h:EV X a σ H λx H1=>EV X b σ H1 λy H2=>OP X (aeT op) x y H2 λz f=>∃k,z=.bl k/\QT k f):ET X (.Compare a [op] [b] pos) σ H QT:=by
 intro ϵ s I;show wpAny_isTrue_Compare1 (ψ (h ϵ s I) λv i _u=>_Z.e23 _u λx H1 j r1 l=>ψ (l ϵ i j) λu m _u=>_Z.e23 _u λy H2 n o p=>
  ψ (oW ϵ m σ H2 x y v u _ n r1 o p) λc D ⟨z,f,q,B,k,e,C⟩=>?_) g
 subst e;cases B;show ais #[f,q,C]
def alW(o:lastMarks [op,f] [b,c]=false)(h:EV X a σ H λx H1=>EV X b σ H1 λy H2=>OP X (aeT op) x y H2 λz g=>∃k,z=.bl k/\(if k=true then EV X c σ g λi j=>OP X (aeT f) y i j Q else Q (.bl false) g)):EV X (.Compare a [op,f] [b,c] pos) σ H Q:=by
 intro ϵ s I;show Compare_chain (ψ (h ϵ s I) λv p _u=>_Z.e23 _u λx H1 q r1 B=>chain_link (ψ (B ϵ p q) λu C _u=>_Z.e23 _u λy H2 D l E=>
  ψ (oW ϵ C σ H2 x y v u _ D r1 l E) λd F ⟨z,g,m,G,k,e,n⟩=>?_)) o
 subst e;cases G;show ais ?_;cases k with
 |false=>show ite_ff #[.bl false,g,m,rfl,n]
 |true=>show ite_tt (chain_last (ψ (n ϵ F m) λi J z=>by let#[z',j,L,M,O]:=z;show oW ϵ J σ j y z' u i Q L l M O))
def agM(p:lastMarks [op,f] [b,c]=false)(h:EV X a σ H λx H1=>EV X b σ H1 λy H2=>OP X (aeT op) x y H2 λz g=>∃k,z=.bl k/\(if k=true then EV X c σ g λi j=>OP X (aeT f) y i j λz' l=>∃k',z'=.bl k'/\QT k' l else ∃k',V.bl false=.bl k'/\QT k' g)):ET X (.Compare a [op,f] [b,c] pos) σ H QT:=by
 intro ϵ s I;show isTrue_chain (ψ (h ϵ s I) λv q _u=>_Z.e23 _u λx H1 B r1 C=>test_link (ψ (C ϵ q B) λu D _u=>_Z.e23 _u λy H2 E m F=>
  ψ (oW ϵ D σ H2 x y v u _ E r1 m F) λd G ⟨z,g,n,J,k,e,o⟩=>?_)) p
 subst e;cases J;show ais ?_;cases k with
 |false=>
  let#[k',L,M]:=o;cases L;show ite_ff #[g,n,M]
 |true=>
  show ite_tt (test_last (ψ (o ϵ G n) λi O _u=>_Z.e23 _u λz' j P Q R=>ψ (oW ϵ O σ j y z' u i _ P m Q R) λd' Z S=>?_));let#[z2,l,T,U,k2,W,Y]:=S;subst W;cases U;show ais #[l,T,Y]
def VP(c:∀a,isTrue e X.env a=(do let v<-a;standAt e.pos;holding [v] (truthy v)))(h:EV X e σ H λx H'=>∃k,Hd X.K x H' k/\QT k H'):ET X e σ H QT:=by
 intro ϵ s I;show isTrue_plain (ψ (h ϵ s I) λv f z=>by let#[x,H1,g,r1,i]:=z;show aoa ϵ f σ H1 x v QT g r1 i) (c _)
def ank(h:ET X a σ H λk H1=>QT (!k) H1):ET X (.UnaryOp .Not a pos) σ H QT:=by
 intro ϵ s I;show isTrue_not (h ϵ s I)
theorem ajc(h:EW X e σ H QT):ET X e σ H QT:=ahf aib.pt h
def afx{rest:List Ϫ}(h:ET X a σ H λk H1=>if k=true then EW X (.BoolOp .And (b::rest) pos) σ H1 QT else QT false H1):EW X (.BoolOp .And (a::b::rest) pos) σ H QT:=by
 intro g ϵ s I;show isTrue_and (ψ (h ϵ s I) λc i j=>?_);let#[H1,e,f]:=j;cases c with
 |true=>show f g ϵ i e
 |false=>show#[H1,e,f]
def aiT{rest:List Ϫ}(h:ET X a σ H λk H1=>if k=true then QT true H1 else EW X (.BoolOp .Or (b::rest) pos) σ H1 QT):EW X (.BoolOp .Or (a::b::rest) pos) σ H QT:=by
 intro g ϵ s I;show isTrue_or (ψ (h ϵ s I) λc i j=>?_);let#[H1,e,f]:=j;cases c with
 |true=>show#[H1,e,f]
 |false=>show f g ϵ i e
def alC(h:ET X a σ H QT):EW X (.BoolOp .And [a] pos) σ H QT:=by
 intro f ϵ s I;show isTrue_and (ψ (h ϵ s I) λc g e=>?_);cases c with
 |true=>show isTrue_and_nil e
 |false=>show e
def aml(h:ET X a σ H QT):EW X (.BoolOp .Or [a] pos) σ H QT:=by
 intro f ϵ s I;show isTrue_or (ψ (h ϵ s I) λc g e=>?_);cases c with
 |false=>show isTrue_or_nil e
 |true=>show e
theorem aeM{op}(h:EV X a σ H Q):EV X (.BoolOp op [a] pos) σ H Q:=λϵ s I=>BoolOp_one (h ϵ s I)
def ahk{rest:List Ϫ}(h:EV X a σ H λx H1=>∃k,x=.bl k/\if k=true then EV X (.BoolOp .And (b::rest) pos) σ H1 Q else Q (.bl false) H1):EV X (.BoolOp .And (a::b::rest) pos) σ H Q:=by
 intro ϵ s I;show BoolOp_and (ψ (h ϵ s I) λv g i=>?_);let#[x,H1,f,r1,e]:=i;let#[c,rfl,e]:=e;cases r1;show ais ?_;cases c with
 |true=>show e ϵ g f
 |false=>show#[.bl false,H1,f,rfl,e]
def acU{rest:List Ϫ}(h:EV X a σ H λx H1=>∃k,x=.bl k/\if k=true then Q (.bl true) H1 else EV X (.BoolOp .Or (b::rest) pos) σ H1 Q):EV X (.BoolOp .Or (a::b::rest) pos) σ H Q:=by
 intro ϵ s I;show BoolOp_or (ψ (h ϵ s I) λv g i=>?_);let#[x,H1,f,r1,e]:=i;let#[c,rfl,e]:=e;cases r1;show ais ?_;cases c with
 |false=>show e ϵ g f
 |true=>show#[.bl true,H1,f,rfl,e]
def alS(h:EV X a σ H λx H1=>∃k,x=.bl k/\Q (.bl (!k)) H1):EV X (.UnaryOp .Not a pos) σ H Q:=by
 intro ϵ s I;show UnaryOp_ (ψ (h ϵ s I) λv i f=>?_);let#[x,H1,g,r1,e]:=f;let#[c,rfl,e]:=e;cases r1;show not_of (ais #[.bl (!c),H1,g,rfl,e])
def ajx(h:ET X c σ H λk H1=>if k=true then EV X a σ H1 Q else EV X b σ H1 Q):EV X (.IfExp c a b pos) σ H Q:=by
 intro ϵ s I;show wpAny_IfExp (ψ (h ϵ s I) λd e i=>?_);let#[H1,f,g]:=i;cases d with
 |true=>show g ϵ e f
 |false=>show g ϵ e f
theorem fW(q:QA [] H):EA X [] σ H QA:=λpos ϵ s I=>Calls.spliced_nil #[[],H,I,.nil,q]
def jn(hs:acv (e::es) X.env=(false,eval e X.env)::acv es X.env)(h:EV X e σ H λx H1=>EA X es σ H1 λxs H2=>QA (x::xs) H2):EA X (e::es) σ H QA:=by
 intro pos ϵ s I;rw[hs];show Ϧ _ _ (spliced ((false,eval e X.env)::backTo pos (acv es X.env))) _ _ s*>Calls.spliced_cons (ψ (h ϵ s I) λu a c=>?_);let#[x,H1,f,r1,g]:=c;show ψ (g pos ϵ a f) λus m z=>by let#[xs,H2,i,j,l]:=z;show #[x::xs,H2,i,.cons r1 j,l]
def Zo{x1}(h:EA X es σ H λxs H1=>↥xs<=ϳ/\∀p,H1 p=none->Q (.ref p) (upd H1 p (.tup xs))):EV X (.Tuple es x1 pos) σ H Q:=by
 intro ϵ s I;show wpAny_Tuple_spliced (ψ (h pos ϵ s I) λus a ⟨xs,H1,c,r,z,q⟩=>#[by rw[<-↥r];show z,?_]);let f:H1 ⇑a=none:=c.hok.fresh (Ϭ _);show#[.ref ⇑a,upd H1 ⇑a (.tup xs),c.laid (t':=a.toks) (λb u e=>aaS _ e) (Ϭ _) ?_,rfl,q _ f]*>#[z,us,r,#[_,acN _ rfl,rfl,_,rfl]]
def ahu(h:EA X es σ H λxs H1=>↥xs<=ϳ/\∀p,H1 p=none->Q (.ref p) (upd H1 p (.lst xs))):EV X (.List es pos) σ H Q:=by
 intro ϵ s I;show wpAny_List_spliced (ψ (h pos ϵ s I) λus a ⟨xs,H1,c,r,z,q⟩=>#[by rw[<-↥r];show z,?_]);let f:H1 ⇑a=none:=c.hok.fresh (Ϭ _);show#[.ref ⇑a,upd H1 ⇑a (.lst xs),c.laid (t':=a.toks) (λb u e=>aaS _ e) (Ϭ _) ?_,rfl,q _ f]*>#[z,us,0,r,acN _ rfl]
def adi{id:String}(f:Gl X x)(g:X.mg x=none)(i:bootBuiltins x=↑(.builtin id))(j:x≠"__name__")(a:(x==("__debug__":Str))=false)(l:acv (e::es) X.env=(false,eval e X.env)::acv es X.env)(c:(backTo pos (acv es X.env)).any (·.1)=false)(h:EA X (e::es) σ H λvs H1=>CL X (.builtin id) vs H1 Q):EV X (.Call (.Name x p) (e::es) [] pos) σ H Q:=by
 intro ϵ s I;show akj (j5 I f g i ?_ j a)*>PyProof.Rows.callWith_builtin1 (ψ (h pos ϵ s I) λus m z=>by let#[vs,H1,n,r1,o]:=z;show Sw ϵ m σ H1 vs us Q n r1 o) l c
def adI(f:Gl X x)(g:X.mg x=none)(i:bootBuiltins x=↑(.type T))(j:x≠"__name__")(a:(x==("__debug__":Str))=false)(l:acv (e::es) X.env=(false,eval e X.env)::acv es X.env)(c:(backTo pos (acv es X.env)).any (·.1)=false)(h:EA X (e::es) σ H λvs H1=>CL X (.type T) vs H1 Q):EV X (.Call (.Name x p) (e::es) [] pos) σ H Q:=by
 intro ϵ s I;show akj (j5 I f g i ?_ j a)*>PyProof.Rows.callWith_type1 (ψ (h pos ϵ s I) λus m z=>by let#[vs,H1,n,r1,o]:=z;show Sw ϵ m σ H1 vs us Q n r1 o) l c
structure Def(P:ϲ)(w:Ϯ)(K:ϩ)(mg:MG)(base:ϫ)(cc:Bool)(k:Nat)(x:Str)(ps:List Str)(sp:Sp):Prop where
 ex:∃f fd,mg x=↑(.ref f)/\ao7 K (.ref f)=true/\Binds K fd ps []/\dJ P w K mg base (cJ P w) cc k f fd ps sp
theorem ϓ.pW(r:ϓ cc k A)(h:bw=true->cc=true):ϓ bw k A:=#[λz=>r.hd (h z),r.dp,r.un]
def agt(F:Def X.prog X.w X.K X.mg X.base bw k x ps sp)(j:ϓ cc k' X.A)(l:k<=k')(a:bw=true->cc=true)(m:Gl X x)(n:bz X Kx)(c:(x==("__debug__":Str))=false)(o:acv (e::es) X.env=(false,eval e X.env)::acv es X.env)(g:(backTo pos (acv es X.env)).any (·.1)=false)(h:EA X (e::es) σ H λvs H1=>sp vs H1 Q (Kx σ)):EV X (.Call (.Name x p) (e::es) [] pos) σ H Q:=by
 let#[f,fd,h1,h2,u,v]:=F.ex;intro ϵ s I;show akj (fU I m h1 ?_ c)*>asT (h₀:=X.base) I.ok.mod.kin h2 (ψ (h pos ϵ s I) λus y _u=>_Z.e23 _u λvs H1 i r q=>#[i.kIn,?_]) o g*>wJ v ((j.mono l).pW a) u n i r q
def adv(hs:ajQ b)(h:EV X a σ H λx H1=>EV X b σ H1 λy H2=>IX X x y H2 Q):EV X (.Subscript a b pos) σ H Q:=by
 intro ϵ s I;show Subscript_ (Ed iU iU I h λv u c x y H2 e rx ry q=>afd a b ϵ c σ H2 x y v u Q e rx ry q (hs _ _))
theorem aoh(q:QO none H):EO X none σ H QO:=#[_,aeU,q]
theorem alu(q:EV X e σ H λx H1=>∃i,x=.int i/\QO ↑i H1):EO X ↑e σ H QO:=#[_,aja iU,q]
def aeW{lo hi:Option Ϫ}(h:EV X a σ H λx H1=>EO X lo σ H1 λl H2=>EO X hi σ H2 λu e=>SL X x l u e Q):EV X (.Subscript a (.Slice lo hi none p2) pos) σ H Q:=by
 intro ϵ s I;show Subscript_ (ψ (h ϵ s I) λv j i=>?_);let#[x,H1,m,r1,n]:=i;show wpAny_Slice (ψ (abm ϵ j σ H1 _ m n) λf o _u=>_Z.e23 _u λl H2 p pl y=>ψ (abm ϵ o σ H2 _ p y) λg c i=>?_);let#[u,e,z,B,C]:=i;rw[evalPart_none];show ϱ ?_;let D:Inv X ϵ σ e {c with heap:=c.heap.push {cls:=.type "slice",data:=.fields #v[f,g,.none]}}:=z.kept (t':=c.toks) λb J q=>aaS _ q
 let#[T,id,E,F,G]:=ae2 ϵ {c with heap:=c.heap.push {cls:=.type "slice",data:=.fields #v[f,g,.none]}} σ e x v f g l u ⇑c Q D r1 (Heap.IsSliceOf.new ..) pl B C;show Ϧ ∅ X.A (subscriptTail a (.Slice lo hi none p2) v (.ref ⇑c)) (EP X ϵ σ Q) X.xe {c with heap:=c.heap.push {cls:=.type "slice",data:=.fields #v[f,g,.none]}}*>tail_any (ops:=[.ref ⇑c,v]) F E G (by with_unfolding_all rfl)
def bU{T id:String}(n:PlainAttrs T)(slot:Slot T name id)(j:typeOf (.builtin id)=pure (.type "method_descriptor"))(f:attributeBase a name X.env (eval a X.env)=eval a X.env:=by rfl)(i:((backTo pos (acv (e::es) X.env)).all (λx=> !x.1)&&(backToKw pos (keywordEach [] X.env)).all (λx=>x.1.isSome)
   &&decide (↥(e::es)+↥([]:List Keyword)+(if([]:List Keyword).isEmpty then 0 else 1)<30))=true:=by rfl)(g:(apos.endLine==pos.line)=true:=by rfl)(hs:acv (e::es) X.env=(false,eval e X.env)::acv es X.env:=by rfl)(c:(backTo pos (acv es X.env)).any (·.1)=false:=by rfl)(h:EV X a σ H λx H1=>u5 X.K T x H1/\EA X (e::es) σ H1 λxs H2=>MT X id x xs H2 Q):EV X (.Call (.Attribute a name apos) (e::es) [] pos) σ H Q:=by
 intro ϵ s I;show wpAny_Call_method_late f i g rfl (ψ (h ϵ s I) λv o p=>?_);let#[x,H1,l,r1,ty,q]:=p;let#[h1,h2]:=agG l r1 ty;show#[T,id,n,slot,j,h1,h2,?_];let m:=q pos ϵ o l;rw[hs]at m⊢;show Calls.callWith_builtin (by show(false||(backTo pos (acv es X.env)).any (·.1))=false;rw[c]<;>rfl) (Calls.evalArgs_plain ?_)*>ψ m λus u z1=>by let#[vs,H2,y,z,B]:=z1;show ajs ϵ u σ H2 x vs v us Q y r1 z B
theorem Γ(q:D.nx σ H):Φ X [] D σ H:=λϵ s I=>wpAny_execs_nil #[σ,H,I,q]
def qO{st:ϧ}{rest:List ϧ}(h:SX X st {D with nx:=λσ' H'=>Φ X rest D σ' H'} σ H):Φ X (st::rest) D σ H:=by
 intro ϵ s I;show wpAny_execs_cons (ψ (h ϵ s I) λf a q=>?_);cases f with
 |next=>
  let#[σ',H',c,q]:=q;show q ϵ a c
 |ret v=>show q
 |brk=>show q
 |cont=>show q
def qC{st:ϧ}(h:SX X st D σ H):Φ X [st] D σ H:=by
 intro ϵ s I;show wpAny_execs_cons (ψ (h ϵ s I) λf a q=>?_);cases f with
 |next=>show wpAny_execs_nil q
 |ret v=>show q
 |brk=>show q
 |cont=>show q
def Ϡ(h:EV X e σ H λ_ H1=>D.nx σ H1)(hs:aoH e none pos.line X.env=pure false:=by rfl):SX X (.Expr e pos) D σ H:=by
 intro ϵ s I;show wpAny_Expr_any (ψ (h ϵ s I) λv f z=>by let#[x,H1,a,r1,c]:=z;show #[σ,H1,a,c]) I.quiet hs
def ρ(h:EV X e σ H D.rt):SX X (.Return ↑e pos) D σ H:=by
 intro ϵ s I;show wpAny_Return_some (ψ (h ϵ s I) λv f z=>by let#[x,H1,a,r1,c]:=z;show #[x,σ,H1,a,r1,c])
def Θ(h:ET X c σ H λk H1=>if k=true then Φ X t D σ H1 else Φ X u D σ H1):SX X (.If c t u pos) D σ H:=by
 intro ϵ s I;show wpAny_If (ψ (h ϵ s I) λd a g=>?_);let#[H1,e,f]:=g;cases d with
 |true=>show f ϵ a e
 |false=>show f ϵ a e
def amO(a:X.N.Nodup)(hi:nameAt X.N x=↑i)(c:Loc X.env.scope x)(hs:aoH e ↑(.Name x p') pos.line X.env=pure false)(f:X.fn x=true\/X.env.scope.names.lookup x=↑.local)(h:EV X e σ H λv H1=>D.nx (σ.set i ↑v) H1):SX X (.Assign [.Name x p'] e pos) D σ H:=by
 intro ϵ s I;show wpAny_Assign_Name (ψ (h ϵ s I) λv n g=>?_) hs;let#[y,H1,j,r1,l]:=g;show Qt j a (nG hi) c r1 (λo m=>#[_,H1,m,l]) f
def ω(a:X.N.Nodup)(q:QG (σ.set i ↑v) H)(hi:nameAt X.N x=↑i:=by rfl)(c:Loc X.env.scope x:=by first|show Or.inl rfl|show Or.inr rfl)(e:X.fn x=true\/X.env.scope.names.lookup x=↑.local:=by first|show Or.inl rfl|show Or.inr rfl):EG X (.Name x pos) v σ H QG:=by
 intro ϵ s u I r;show wpAny_assign_Name (Qt I a (nG hi) c r (λs' f=>#[_,H,f,q]) e)
def Ϣ(q:QG σ H):wF X [] [] σ H QG:=by
 intro ϵ s us I r;cases r;show assignInOrder_nil #[σ,H,I,q]
def Η{a:List Ϫ}{QG:St->Hp->Prop}(h:EG X e v σ H λσ' H'=>wF X a vs σ' H' QG)(hs:(assignEach (e::a) X.env).map (·.2)=assign e X.env::(assignEach a X.env).map (·.2):=by rfl):wF X (e::a) (v::vs) σ H QG:=by
 intro ϵ s us I r;cases r with
 |cons r c=>
  rw[hs];show assignInOrder_cons (ψ (h ϵ s _ I r) λ_ f g=>?_);let#[i,H1,j,l]:=g;show l ϵ f _ j c
def ϟ{n:Nat}{k:Nat}{QG:St->Hp->Prop}(a:Δ X.K H q xs)(h:wF X es xs σ H QG)(hc:X.calm=true:=by rfl)(g:↥(assignEach es X.env)=n:=by rfl)(c:(assignEach es X.env).findIdx? (·.1)=none:=by rfl)(i:↥xs=n:=by rfl):EG X (.Tuple es k pos) (.ref q) σ H QG:=by
 intro ϵ s u I r;cases r;let#[m,f,a,p]:=I.tuple a;show assign_Tuple_tuple (I.ok.hd hc) a (by simp[g, <-i,↥f]) c λh' j=>?_
 let l:Inv X ϵ σ H {s with heap:=h'}:=I.kept (t':=s.toks) λb o e=>j b o (adn (adw e)) e
 show h ϵ _ _ l (~~~f)
def rY(hp:apU ∅ X.A X.env X.xe)(hc:X.calm=true)(hs:∀x,foldedSetIterable iter X.env x=pure x)(h:EI X tg iter σ H λJ H1=>∃W:Nat->Nat->St->Hp->Prop,(∃m,W 0 m σ H1)/\∀i m σ H,W i m σ H->
   (J.stop i H/\D.nx σ H)\/(J.go i H/\∃N:St->Hp->Prop,(∀σ' H',N σ' H'->∃m',m'<m/\W (i+1) m' σ' H')/\∀x H',J.yld i H x H'->EG X tg x σ H' λG H2=>Φ X body {D with nx:=N,ct:=N,bk:=D.nx} G H2)):SX X (.For tg iter body [] pos) D σ H:=by
 intro ϵ s I;show wpAny_For (ψ (h ϵ s I) λv s1 h1=>ψ h1 λitv s2 h2=>?_) hs;let#[it,fp,R,J,H2,e,I2,T,L,S,W,#[m0,w0],turn]:=h2;subst e;let c:∀{H':Hp},(∀b∈fp,H' b=none)->∀b∈fp,cj X ϵ H' b:=λhn b l=>#[hn b l,(S b l).2]
 show codeAny_forLoop_any (λn s'=>∃i σ' H',Inv X ϵ σ' H' s'/\R i s'.heap/\(∀b∈fp,H' b=none)/\W i n σ' H') ?_ m0 #[0,σ,H2,I2,L,λb l=>(S b l).1,w0]
 rintro n U ⟨i,p,F,Y,B,C,w3⟩
 obtain⟨stop,qn⟩|⟨go,N,hN,step⟩:=turn i n p F w3
 .show apH hp (ψ (T.done X rfl rfl rfl hc i ϵ U p F X.xe Y (c C) B stop) λr s4 y=>?_);let#[M,I4]:=y;subst M;show wpAny_execs_nil #[p,F,I4,qn]
 .show apH hp (ψ (T.item X rfl rfl rfl hc i ϵ U p F X.xe Y (c C) B go) λr s4 y=>?_);let#[u,M,h4]:=y;subst M;show apH hp (ψ h4 λ_ Z y=>?_);let#[x,H5,I5,r5,y5,z,O]:=y;let P:=I5.pinned (c O) (T.obj<*z);show apH hp (ψ ((step x H5 y5) _ Z u P r5) λ_ s6 y=>?_);let#[σ6,H6,I6,q6]:=y;show apH hp (ψ (q6 _ s6 I6) λf Q q=>?_);let again:∀{a:St}{g:Hp},Inv X (ϵ++gQ fp Z.heap) a g Q->N a g->∃m,m<n/\∃i σ' H',Inv X ϵ σ' H' Q/\R i Q.heap/\(∀b∈fp,H' b=none)/\W i m σ' H':=λ{a g} j E=>by
   let#[m',hm,w7]:=hN a g E;show#[m',hm,i+1,a,g,j.unpinned,T.keep _ _ _ z λb l o e=>(j.pin (b,o) (aet _ (aet _ (Am l e)))).1,λb l=>?_,w7];let#[o,e,d]:=T.obj _ _ z b l;show(j.pin (b,o) (aet _ (aet _ (Am l e)))).2.1
  cases f with
  |next=>let#[a,g,j,E]:=q;show again j E
  |cont=>let#[a,g,j,E]:=q;show again j E
  |brk=>let#[a,g,j,q]:=q;show#[a,g,j.unpinned,q]
  |ret v=>let#[x7,a,g,j,r7,q]:=q;show#[x7,a,g,j.unpinned,r7,q]
def rm(h:EV X l σ H λx H1=>∃a,x=.ref a/\(∃xs,θ X.K H1 a xs)/\R (jU X.K a) H1):EI X tg l σ H R:=by
 intro ϵ s I;show ψ (h ϵ s I) λv c g=>?_
 let#[x,H1,f,r1,i]:=g;let#[a,e,#[xs,j],q]:=i;subst e;cases r1;let#[n,u,p,y]:=f.list j;show wpAny_pyIter_list p.isList ?_*>#[⇑c,[⇑c],_,_,H1,rfl,f.kept (t':=c.toks) λb o e=>aaS _ e,ami a _,#[_,acN _ rfl,rfl,rfl],λb m=>?_,q];let e:b=⇑c:= ~~~m
 subst e;show f.fpOk (Ϭ _) (f.hok.fresh (Ϭ _))
def ael(h:EV X l σ H λx H1=>∃a,x=.ref a/\(∃xs,Δ X.K H1 a xs)/\R (sO X.K a) H1):EI X tg l σ H R:=by
 intro ϵ s I;show ψ (h ϵ s I) λv c g=>?_
 let#[x,H1,f,r1,i]:=g;let#[a,e,#[xs,j],q]:=i;subst e;cases r1;let#[m,u,p,y]:=f.tuple j;show wpAny_pyIter_tuple (show c.heap.IsTuple a m.toArray from p) ?_*>#[⇑c,[⇑c],_,_,H1,rfl,f.kept (t':=c.toks) λb o e=>aaS _ e,ajf a _,#[_,acN _ rfl,rfl,rfl],λb n=>?_,q];let e:b=⇑c:= ~~~n
 subst e;show f.fpOk (Ϭ _) (f.hok.fresh (Ϭ _))
def afn(f:Gl X "range")(g:X.mg "range"=none)(hs:acv [a] X.env=[(false,eval a X.env)])(h:EA X [a] σ H λvs H1=>∃j:Int,vs=[.int j]/\ -(2^62)<=j/\j<2^62/\R (nO 0 j.toNat) H1):EI X tg (.Call (.Name "range" p) [a] [] pos) σ H R:=by
 intro ϵ s I;show Call_ (j5 I f g boot_range (PyProof.Rows.callWith_type1 (ψ (h pos ϵ s I) λus o i=>?_) hs rfl));let#[vs,H1,l,r1,c]:=i;let#[j,e,c,m,q]:=c;subst e;cases r1 with
 |cons r n=>
  cases n;let#[t,rfl]:=r;show call_range_1 (ags l () () c m (~~~q))
theorem bC(h:EV X e σ H Q)(m:∀v H',Q v H'->Q' v H'):EV X e σ H Q':=λϵ s I=>ψ (h ϵ s I) λ_ _ z=>by let#[v,H',a,r,q]:=z;show #[v,H',a,r,m v H' q]
theorem JC{st:ϧ}{c:Ends}(h:SX X st D σ H)(e:∀σ H,D.nx σ H->c.nx σ H)(g:∀v H,D.rt v H->c.rt v H)(i:∀σ H,D.bk σ H->c.bk σ H)(j:∀σ H,D.ct σ H->c.ct σ H):SX X st c σ H:=λϵ s I=>ψ (h ϵ s I) λf _ q=>by
 cases f with
 |next=>let#[σ',H',a,q]:=q;show#[σ',H',a,e<*q]
 |brk=>let#[σ',H',a,q]:=q;show#[σ',H',a,i<*q]
 |cont=>let#[σ',H',a,q]:=q;show#[σ',H',a,j<*q]
 |ret u=>let#[v,σ',H',a,r,q]:=q;show#[v,σ',H',a,r,g<*q]
theorem cC(h:bK X f r)(q:r y z H Q):OP X f y z H Q:=#[r,h,q]
theorem ahS(q:Q (.int (i+j)) H):OP X (binaryOp .Add) (.int i) (.int j) H Q:=cC alX #[i,j,rfl,rfl,q]
theorem am7(q:Q (.int (i-j)) H):OP X (binaryOp .Sub) (.int i) (.int j) H Q:=cC anv #[i,j,rfl,rfl,q]
theorem aiV(c:Bx i j)(q:Q (.int (i*j)) H):OP X (binaryOp .Mult) (.int i) (.int j) H Q:=cC amU #[i,j,rfl,rfl,c,q]
theorem agK(c:0<j)(q:Q (.int (i % j)) H):OP X (binaryOp .Mod) (.int i) (.int j) H Q:=cC afN #[i,j,rfl,rfl,c,q]
theorem aaj(c:Sd i j)(q:Q (.int (i^j.toNat)) H):OP X (binaryOp .Pow) (.int i) (.int j) H Q:=cC afr #[i,j,rfl,rfl,c,q]
theorem aji(q:Q (.bl (decide (i<j))) H):OP X (aeT .Lt) (.int i) (.int j) H Q:=cC aby #[i,j,rfl,rfl,q]
theorem afO(q:Q (.bl (decide (i<=j))) H):OP X (aeT .LtE) (.int i) (.int j) H Q:=cC akn #[i,j,rfl,rfl,q]
theorem aek(q:Q (.bl (decide (j<i))) H):OP X (aeT .Gt) (.int i) (.int j) H Q:=cC acB #[i,j,rfl,rfl,q]
theorem acJ(q:Q (.bl (decide (j<=i))) H):OP X (aeT .GtE) (.int i) (.int j) H Q:=cC aon #[i,j,rfl,rfl,q]
theorem aev{y z:V}(s:Bl y z=true)(q:Q (.bl (decide (y=z))) H):OP X (aeT .Eq) y z H Q:=cC al6 #[s,q]
theorem akx{y z:V}(s:Bl y z=true)(q:Q (.bl (!decide (y=z))) H):OP X (aeT .NotEq) y z H Q:=cC aef #[s,q]
theorem amS(q:Q (.bl (!(Builtin.Str.occurrences z' z 0 ↥z' 1).isEmpty)) H):OP X (aeT .In) (.str z) (.str z') H Q:=cC acn #[z,z',rfl,rfl,q]
theorem agv(q:Q (.bl (decide (y=.non))) H):OP X (aeT .Is) y .non H Q:=cC afI #[rfl,q]
theorem ak1(q:Q (.bl (!decide (y=.non))) H):OP X (aeT .IsNot) y .non H Q:=cC aiL #[rfl,q]
theorem Ν(c:↥z+↥z'<=ϳ)(q:Q (.str (z++z')) H):OP X (binaryOp .Add) (.str z) (.str z') H Q:=cC ahx #[z,z',rfl,rfl,c,q]
theorem aj7(q:Q (.int (-i)) H):UN X (unaryOp .USub) (.int i) H Q:=#[_,afy,i,rfl,q]
theorem cV(h:iJ X f r)(q:r vs H Q):CL X f vs H Q:=#[r,h,q]
theorem HQ(h:θ X.K H q ys\/ Δ X.K H q ys)(g:Q (.int ↥ys) H):CL X (.builtin "len") [.ref q] H Q:=cV afC #[q,ys,rfl,h,g]
theorem ac3(h:↥z<=ϳ)(g:Q (.int ↥z) H):CL X (.builtin "len") [.str z] H Q:=cV af0 #[z,rfl,h,g]
theorem Pg(hc:X.calm=true)(g:Q (.int (if j<i then j else i)) H):CL X (.builtin "min") [.int i,.int j] H Q:=cV (air hc) #[i,j,rfl,g]
theorem afp(hc:X.calm=true)(g:Q (.int (if j>i then j else i)) H):CL X (.builtin "max") [.int i,.int j] H Q:=cV (akf hc) #[i,j,rfl,g]
theorem bO(h:i.natAbs.log2<1920)(g:Q (.str (toString i)) H):CL X (.type "str") [.int i] H Q:=cV ane #[i,rfl,h,g]
theorem qJ(h:θ X.K H q ys\/ Δ X.K H q ys)(g:∀l,H l=none->Q (.ref l) (upd H l (.lst ys))):CL X (.type "list") [.ref q] H Q:=cV adB #[q,ys,rfl,h,g]
theorem wI{y z:V}(h:sY X r)(q:r y z H Q):IX X y z H Q:=#[r,h,q]
theorem ϐ(h:θ X.K H q xs)(e:Ϛ xs i=↑v)(g:Q v H):IX X (.ref q) (.int i) H Q:=wI af4 #[q,xs,i,v,rfl,rfl,h,e,g]
theorem gZ(h:Δ X.K H q xs)(e:Ϛ xs i=↑v)(g:Q v H):IX X (.ref q) (.int i) H Q:=wI al1 #[q,xs,i,v,rfl,rfl,h,e,g]
theorem Ab(h:↥z<=ϳ)(e:Ϛ z.cps.toList i=↑n)(g:Q (.str #[#v[n]]) H):IX X (.str z) (.int i) H Q:=wI ai5 #[z,i,n,rfl,rfl,h,e,g]
theorem eN{q:δ}{lo hi:Option Int}(h:θ X.K H q xs)(g:∀p,H p=none->Q (.ref p) (upd H p (.lst (bL xs lo hi)))):SL X (.ref q) lo hi H Q:=#[_,ald,q,xs,rfl,h,g]
def ab3(ty:eZ X.K H y t)(e:ap9 X.K t (.type T)=↑k)(g:Q (.bl k) H):CL X (.builtin "isinstance") [y,.ty T] H Q:=by
 show#[λxs H Q=>∃y t T k,xs=[y,.ty T]/\eZ X.K H y t/\ap9 X.K t (.type T)=↑k/\Q (.bl k) H,?_,y,t,T,k,rfl,ty,e,g];intro ϵ s σ H xs us Q I r h;let#[y,t,T,k,rfl,ty,e,g]:=h;let#[f,a,rfl,r1,c]:=vals2 r;cases(show a=Value.type T from c);show ahd I r1 ty e λtk=>#[.bl k,H,I.tok tk,rfl,g]
end
def Z5(x:Str):It:=#[λi _=>i<x.cps.size,λi H v H'=>H'=H/\∃c,x.cps[i]?=↑c/\v=.str #[#v[c]],λi _=>x.cps.size<=i]
theorem amL{P:ϲ}{w:Ϯ}{K:PySem.W.Frag}{tg:Ϫ}{T:String}(j:T="str_ascii_iterator"\/T="str_iterator")(it:δ)(x:Str)(t:Tok):Turn P w K tg (Z5 x) [it] it (λi h=>h.IsStrIter it T x t i)where
 mem:=by simp
 obj:=λi h st b a=>by
  let e:b=it:= ~~~a
  subst e;let#[o,e,c,d]:=st;show#[o,e,λv z=>by rw[d]at z;cases z]
 keep:=λi h h' st k=>by
  let#[o,e,c,d]:=st;show#[o,k it (by simp) o e,c,d]
 item:=by
  intro X C D F hc i ϵ s σ H E I l st G;subst C D F;let#[m,p,L,q,y,B]:=l it (by simp);let f:i<x.cps.size:=G;let M:∃W:Nat->ϫ->Prop,Walks X.prog X.w X.A it [it] [it] x.cps.size (SignAt x) W/\W=λi h=>h.IsStrIter it T x t i:=by
   obtain rfl|rfl:=j
   .show#[_,Walks.strAscii (I.ok.hd hc) it x t,rfl]
   .show#[_,Walks.strWide (I.ok.hd hc) it x t,rfl]
  let#[_,W,rfl]:=M;show W.item i s _ _ f st λv h' tk O g kk=>?_
  let#[c,u,e1,rfl]:=O;let Q:Inv X ϵ σ H {s with heap:=h',toks:=tk}:=I.turned (λb o a e=>kk b o (~~~a) e) m p q y B;let#[o,e,R,d]:=id g;show#[_,rfl,uU (s:={s with heap:=h',toks:=tk}) (n:=T) e R d (by obtain rfl|rfl:=j<;>decide) ⟨.str ⟨#v[c]⟩,H,Q,⟨u,rfl⟩,⟨rfl,c,e1,rfl⟩,g,λb a=>(l b a).1⟩]
 done:=by
  intro X C D F hc i ϵ s σ H E I l st G;subst C D F;let#[m,p,L,q,y,B]:=l it (by simp);let f:x.cps[i]?=none:=aoR G;obtain rfl|rfl:=j
  .show wpAny_pyNext_ascii_end (I.ok.hd hc) st f λh' J=>#[rfl,I.turned (t':=s.toks) (λb o a e=>J b o a e) m p q y B]
  .show wpAny_pyNext_wide_end (I.ok.hd hc) st f λh' J=>#[rfl,I.turned (t':=s.toks) (λb o a e=>J b o a e) m p q y B]
 self:=λ_ _ _ _ _ st h=>by
  obtain rfl|rfl:=j
  .show wpAny_pyIter_striter_ascii st h
  .show wpAny_pyIter_striter_wide st h
def U5(h:EV X l σ H λx H1=>∃z,x=.str z/\R (Z5 z) H1):EI X tg l σ H R:=by
 intro ϵ s I;show ψ (h ϵ s I) λv a g=>?_
 let#[x,H1,f,r1,z,e,q]:=g;subst e;let#[t,rfl]:=r1
 let c:∀T:String,(T="str_ascii_iterator"\/T="str_iterator")->
   xx X ϵ σ tg R (.ref ⇑a) {a with heap:=a.heap.push {cls:=.type T,data:=.fields #v[.str z t,.int 0 0]}}:=λT i=>by
  show#[⇑a,[⇑a],_,_,H1,rfl,f.kept (t':=a.toks) λb o e=>aaS _ e,amL i _ z t,#[_,acN _ rfl,rfl,rfl],λb j=>?_,q];let e:b=⇑a:= ~~~j
  subst e;show f.fpOk (Ϭ _) (f.hok.fresh (Ϭ _))
 cases ha:z.cps.all (· <128)
 .show wpAny_pyIter_wide ha (c _ (.inr rfl))
 .show wpAny_pyIter_ascii ha (c _ (.inl rfl))
def dD(N' N:List Str)(σ:St)(scope:ajd):St:=N'.map λx=>if scope.names.lookup x=↑.free then gH N σ x else none
def cT(X:Cx)(N':List Str)(scope:ajd)(cl:List (Str×δ))(C:δ)(s:ν)(H:Hp)(fp:List δ):Cx:=
 {X with N:=N',s₀:=s,H₀:=H,env:=compEnvC scope cl C X.env,outer:=X.stack,stack:=X.stack,ex:=fp,fn:=λ_=>false,pn:=[],xe:=λ_ _=>False}
def J9(X:Cx)(ifs:List Ϫ)(σ:St)(H:Hp)(Q:Bool->Hp->Prop):Prop:=
 ∀(ϵ:List (δ×Obj))(s:ν),Inv X ϵ σ H s->
  Ϧ ∅ X.A (forIn ifs true λc r=>if r=true then do let ok<-isTrue c X.env (eval c X.env);pure (ForInStep.yield ok)else pure (ForInStep.yield r)) (TP X ϵ σ Q) X.xe s
theorem Fv(env:Env):∀(names:List (Str×aqD))(cs:List (Str×δ)),(∀y∈names,y.2=.free->∃c,env.cells.lookup y.1=↑c)->
  (forIn names cs (λ(x:Str×aqD)(r:List (Str×δ))=>if(x.2==NameKind.free)=true then do let a<-cellOf env x.1;pure (ForInStep.yield ((x.1,a)::r))else pure (ForInStep.yield r)):Sem (List (Str×δ)))=
   pure (names.foldl (λcs y=>if y.2==.free then(y.1,(env.cells.lookup y.1).getD 0)::cs else cs) cs)
 |[],cs,_=>by simp
 |(n,k)::r,cs,h=>by
  rw[ase];by_cases i:k=.free
  .subst i;let#[c,e]:=h (n,.free) adS rfl;let l:cellOf env n=pure c:=by
    unfold cellOf;let f:env.cells.lookup n=↑c:=e;rw[f]
   simp only[beq_self_eq_true,if_true,l,pure_bind];let f:env.cells.lookup n=↑c:=e;rw[Fv env r _ λy g=>h y (acw _ g),anh];simp only[beq_self_eq_true,if_true,f,atw]
  .let j:(k==NameKind.free)=false:= ~~~i
   simp only[j,aqc,if_false,pure_bind];rw[Fv env r _ λy g=>h y (acw _ g),anh];simp only[j,aqc,if_false]
def Ϙ(scope:ajd)(env:Env):List (Str×δ):=scope.names.foldl (λcs y=>if y.2==.free then(y.1,(env.cells.lookup y.1).getD 0)::cs else cs) []
def Hq(h:∀y∈scope.names,y.2=.free->∃c,env.cells.lookup y.1=↑c):closureFor scope env=pure (Ϙ scope env):=by
 have:=Fv env scope.names [] h;unfold closureFor Ϙ;rw[<-this];simp
theorem Wb{env:Env}:∀(names:List (Str×aqD))(cs:List (Str×δ)),(∀y∈names,y.2=.free->∃c,env.cells.lookup y.1=↑c)->
  ∀x c,(names.foldl (λcs y=>if y.2==.free then(y.1,(env.cells.lookup y.1).getD 0)::cs else cs) cs).lookup x=↑c->(env.cells.lookup x=↑c\/cs.lookup x=↑c)
 |[],cs,_,x,c,e=>.inr e
 |(n,k)::r,cs,h,x,c,e=>by
  rw[anh]at e;rcases Wb r _ (λy i=>h y (acw _ i)) x c e with q|q
  .show .inl q
  .by_cases f:k=.free
   .subst f;let#[c',j]:=h (n,.free) adS rfl;let g:env.cells.lookup n=↑c':=j;simp only[beq_self_eq_true,if_true,g,atw,ahj]at q;cases hx:x==n with
    |true=>
     rw[hx]at q;let a:x=n:= ~~~hx
     subst a;show .inl (g<|>q)
    |false=>rw[hx]at q;show .inr q
   .let l:(k==NameKind.free)=false:= ~~~f
    rw[if_neg (by simp[l])]at q;show .inr q
theorem Kq{env:Env}:∀(names:List (Str×aqD))(cs:List (Str×δ))(x:Str),((x,NameKind.free)∈names\/∃c,cs.lookup x=↑c)->
  ∃c,(names.foldl (λcs y=>if y.2==.free then(y.1,(env.cells.lookup y.1).getD 0)::cs else cs) cs).lookup x=↑c
 |[],cs,x,h=>by
  obtain h|h:=h
  .cases h
  .show h
 |(n,k)::r,cs,x,h=>by
  rw[anh];show Kq r _ x ?_;by_cases a:k=.free
  .subst a;simp only[beq_self_eq_true,if_true,ahj];cases hx:x==n with
   |true=>show .inr #[_,rfl]
   |false=>
    obtain h|h:=h
    .obtain h|h:=aaT.mp h
     .cases h;simp at hx
     .show .inl h
    .show .inr h
  .let e:(k==NameKind.free)=false:= ~~~a
   rw[if_neg (by simp[e])];obtain h|h:=h
   .obtain h|h:=aaT.mp h
    .cases h;show absurd rfl a
    .show .inl h
   .show .inr h
theorem Qd{env:Env}{x:Str}:∀{names:List (Str×aqD)},names.lookup x=↑.free->
  (names.map λ(n,k)=>if(k==NameKind.free&&env.scope.kind==.function&&env.kindOf n==↑.cell)then(n,NameKind.cell)else(n,k)).lookup x=↑.cell\/
  (names.map λ(n,k)=>if(k==NameKind.free&&env.scope.kind==.function&&env.kindOf n==↑.cell)then(n,NameKind.cell)else(n,k)).lookup x=↑.free
 |[],h=>by simp at h
 |(n,k')::r,h=>by
  let a:= @Qd env x r;show ajl x ((if(k'==NameKind.free&&env.scope.kind==.function&&env.kindOf n==↑.cell)=true then(n,NameKind.cell)else(n,k'))::_)=_\/ajl x ((if(k'==NameKind.free&&env.scope.kind==.function&&env.kindOf n==↑.cell)=true then(n,NameKind.cell)else(n,k'))::_)=_;cases hx:x==n with
  |true=>
   simp only[ahj,hx]at h;cases h;by_cases hc:(NameKind.free==NameKind.free&&env.scope.kind==.function&&env.kindOf n==↑.cell)=true
   .rw[if_pos hc];left;simp only[ahj,hx]
   .rw[if_neg hc];right;simp only[ahj,hx]
  |false=>
   simp only[ahj,hx]at h;by_cases hc:(k'==NameKind.free&&env.scope.kind==.function&&env.kindOf n==↑.cell)=true
   .rw[if_pos hc];simp only[ahj,hx];show a h
   .rw[if_neg hc];simp only[ahj,hx];show a h
theorem QC{env:Env}{x:Str}:∀{names:List (Str×aqD)},(∀y∈names,y.2≠.cell)->
  ((names.map λ(n,k)=>if(k==NameKind.free&&env.scope.kind==.function&&env.kindOf n==↑.cell)then(n,NameKind.cell)else(n,k)).lookup x=↑.cell\/
  (names.map λ(n,k)=>if(k==NameKind.free&&env.scope.kind==.function&&env.kindOf n==↑.cell)then(n,NameKind.cell)else(n,k)).lookup x=↑.free)->(x,NameKind.free)∈names
 |[],_,h=>by simp at h
 |(n,k')::r,a,h=>by
  let e:= @QC env x r λy f=>a y (acw _ f)
  let h':ajl x ((if(k'==NameKind.free&&env.scope.kind==.function&&env.kindOf n==↑.cell)=true then(n,NameKind.cell)else(n,k'))::(r.map λ(n,k)=>if(k==NameKind.free&&env.scope.kind==.function&&env.kindOf n==↑.cell)then(n,NameKind.cell)else(n,k)))=↑.cell\/
   ajl x ((if(k'==NameKind.free&&env.scope.kind==.function&&env.kindOf n==↑.cell)=true then(n,NameKind.cell)else(n,k'))::(r.map λ(n,k)=>if(k==NameKind.free&&env.scope.kind==.function&&env.kindOf n==↑.cell)then(n,NameKind.cell)else(n,k)))=↑.free:=h
  cases hx:x==n with
  |true=>
   let c:x=n:= ~~~hx
   subst c;by_cases hc:(k'==NameKind.free&&env.scope.kind==.function&&env.kindOf x==↑.cell)=true
   .have :k'=.free:=by simp only[acF]at hc;simpa using hc.1.1
    subst this;show adS
   .rw[if_neg hc]at h';simp only[ahj,hx]at h';obtain h'|h':=h'
    .cases h';show absurd rfl (a (x,.cell) adS)
    .cases h';show adS
  |false=>
   show acw _ (e ?_);by_cases hc:(k'==NameKind.free&&env.scope.kind==.function&&env.kindOf n==↑.cell)=true
   .rw[if_pos hc]at h';simpa only[ahj,hx]using h'
   .rw[if_neg hc]at h';simpa only[ahj,hx]using h'
theorem age(I:Nat->ν->Prop)(u:∀x s,Er x s->notedBy (Ϩ prog w) A env (λx s'=>R (.error x) s') x s)(turn:∀n s,I n s->Ϧ (Ϩ prog w) A (pyNext it) (λr e=>match r with
   |none=>R (.ok .next) e
   |some v=>Ϧ (Ϩ prog w) A (letOwnedTupleGo a it v) (λ_ f=>Ϧ (Ϩ prog w) A (assign a env v) (λ_ i=>
    Ϧ (Ϩ prog w) A (forIn ifs true λc r=>if r=true then do let ok<-isTrue c env (eval c env);pure (ForInStep.yield ok)else pure (ForInStep.yield r)) (λok g=>
     if ok=true then Ϧ (Ϩ prog w) A (eval elt env) (λx j=>
      Ϧ (Ϩ prog w) A (call (.builtin "list.append") [p,x]) (λ_ l=>∃m,m<n/\I m l) Er j) Er g
     else ∃m,m<n/\I m g) Er i) Er f) Er e) Er s)(n:Nat)(h:I n s):codeAny (Ϩ prog w) A (.compLoop (.ListComp elt [#[a,iter,ifs,0]] scope pos) 0 it p env) R s:=by
 show codeAny_loop rfl I (λn s C=>?_) n h*>Ϧ _ A ((compTurn (.ListComp elt [#[a,iter,ifs,0]] scope pos) 0 it p env).onRaise (λx=>do noteFrame x env;theTreesLotGoes x)) _ _ s*>wpAny_noted ?_;rw[compTurn_list];show π (aif (π (adK (turn n s C) (λr e h₁=>?_) u)));cases r with
 |none=>show ϱ h₁
 |some v=>
  show π (adK h₁ (λ_ f q=>?_) u)*>π (adK q (λ_ i y=>π (adK y (λok g o=>?_) u)) u);cases ok with
  |false=>show ϱ #[rfl,o]
  |true=>
   show π (π (adK o (λx j z=>π (adK z (λ_ l B=>ϱ (ϱ #[rfl,B])) u)) u))
def wH(M:Model)(A:ϴ)(E:ε->ν->Prop)(use:Option (ε->Sem Unit))(Q:ε->ν->Prop)(c:ε)(C:Env)(r:Result)(s':ν):Prop:=
 match r,use with
 |.ok _,none=>∃m,s'.heap.Ns C.locals m/\∀h',anE C.locals s'.heap h'->Q c {s' with heap:=h'}
 |.ok _,↑u=>Ϧ M A (u c) (λ_ a=>∃m,a.heap.Ns C.locals m/\∀h',anE C.locals a.heap h'->Q .none {a with heap:=h'}) E s'
 |.error x,_=>∃m,s'.heap.Ns C.locals m/\∀h',anE C.locals s'.heap h'->Ϧ M A (passOn "comprehension.variables-let-go" x C:Sem ε) (λ_ _=>False) E {s' with heap:=h'}
def JQ(J:clausesOf e=g::P)(hs:∀x,foldedSetIterable g.iter env x=pure x)(q:closureFor scope env=pure cl)(a:scope.kind=.function)(j:∀x∈scope.names,x.2=.local->scope.names.lookup x.1=↑.local)(h:Ϧ M A first (λx l=>Ϧ M A (pyIter x) (λit n=>Ϧ M A c (λv o=>Ϧ M A (newFunctionEnv scope env.globals cl [] env.qual none .none ↑env) (λcenv p=>
   codeAny M A (.compStart e 0 it v {cenv with scope:=relabel scope env}) (wH M A E use Q v {cenv with scope:=relabel scope env}) p) E o) E n) E l) E s):Ϧ M A (comprehension e scope env pos c false first use) Q E s:=by
 unfold comprehension;rw[q,J];show π (adK h (λx l h₁=>π (aif (π (wpAny_of_eq (hs x) (π (aed (adK h₁ (λit n C=>wpAny_standIf (π (adK C (λv o D=>
  π (ϱ (π (adK D (λcenv p F=>?_) λ_ _ z=>z)))) λ_ _ z=>z))) λ_ _ z=>z))))))) λ_ _ z=>z)
 dsimp only;let H:∀x∈(scope.names.filter λx=>(x.2==.local||x.2==.cell)&&x.1 !=(".0":Str)).reverse,x.2=.local->Env.kindOf {cenv with scope:=relabel scope env} x.1=↑.local:=
  λx L I=>lookup_relabel_local (j x (aiB.mp (List.mem_reverse.mp L)).1 I)
 let R:∀x∈(scope.names.filter λx=>(x.2==.local||x.2==.cell)&&x.1 !=(".0":Str)).reverse.drop 1++(scope.names.filter λx=>(x.2==.local||x.2==.cell)&&x.1 !=(".0":Str)).reverse.take 1,x.2=.local->Env.kindOf {cenv with scope:=relabel scope env} x.1=↑.local:=λx L I=>by
  obtain z|z:=agq.mp L
  .show H x (ali z) I
  .show H x (ar5 z) I
 show aed (π (wpAny_attempt (aed (wpAny_run (akW F λr s' B=>?_)))));cases r with
 |ok f=>
  cases use with
  |none=>
   let#[m,G,B]:=B;show π (aed (wpAny_comp_letGo (cenv:={cenv with scope:=relabel scope env}) a _ s' m H G λh' m' _ z=>ϱ (B h' z)))
  |some u=>
   show π (wpAny_rule (π (aed (adK B (λ_ O i=>?_) λ_ _ z=>z))));let#[m,G,i]:=i;show π (wpAny_comp_letGo (cenv:={cenv with scope:=relabel scope env}) a _ O m R G λh' m' _ z=>ϱ (i h' z))
 |error x=>
  let i:∃m,s'.heap.Ns cenv.locals m/\∀h',anE cenv.locals s'.heap h'->Ϧ M A (passOn "comprehension.variables-let-go" x {cenv with scope:=relabel scope env}:Sem ε) (λ_ _=>False) E {s' with heap:=h'}:=by cases use<;>show B
  let#[m,G,B]:=i;show π (aed (wpAny_comp_letGo (cenv:={cenv with scope:=relabel scope env}) a _ s' m H G λh' m' _ z=>adK (B h' z) (λ_ _ f=>f.elim) λ_ _ y=>y))
abbrev Cx.tri(X:Cx)(F:ε->ν->Prop)(pn:List (δ×Obj)):Cx:={X with xe:=F,pn:=pn}
section
variable{X:Cx}{ϵ pins':List (δ×Obj)}{σ:St}{H:Hp}{s:ν}{F:ε->ν->Prop}
theorem Cx.Ok.tri(ok:X.Ok)(pn:List (δ×Obj)):(X.tri F pn).Ok:=
 #[ok.mod,ok.kind,ok.glob,ok.blt,ok.above,ok.inj,ok.has,ok.cab,ok.hd,ok.frames,ok.stk,ok.exf,ok.bs,ok.bsz,ok.noex,ok.exfs,ok.funs,ok.frf]
theorem Inv.tri(I:Inv X ϵ σ H s):Inv (X.tri F (X.pn++ϵ)) [] σ H s:=
 #[I.ok.tri _,I.os,I.bare,I.base,I.loc,I.cell,I.free,I.freeC,λp hp=>I.pin p (~~~hp),I.hok,I.len]
theorem Inv.mR(ok:X.Ok)(I:Inv (X.tri F (X.pn++ϵ)) pins' σ H s):Inv X ϵ σ H s:=
 #[ok,I.os,I.bare,I.base,I.loc,I.cell,I.free,I.freeC,λp hp=>I.pin p (aiP _ hp),I.hok,I.len]
end
abbrev fj(X:Cx)(N':List Str)(scope:ajd)(cl:List (Str×δ))(C:δ)(s:ν)(H:Hp)(fp:List δ)(F:ε->ν->Prop):Cx:=(cT X N' scope cl C s H fp).tri F []
section
variable{X:Cx}{ϵ:List (δ×Obj)}{σ:St}{H H':Hp}{s s':ν}{scope:ajd}{fp:List δ}{N':List Str}
structure dq(env:Env)(scope:ajd):Prop where
 kind:scope.kind=.function
 free:∀y∈scope.names,y.2=.free->env.kindOf y.1=↑.cell\/env.kindOf y.1=↑.free
 cell:∀y∈scope.names,y.2≠.cell
 loc:∀y∈scope.names,y.2=.local->scope.names.lookup y.1=↑.local
theorem dq.has(S:dq X.env scope)(I:Inv X ϵ σ H s):∀y∈scope.names,y.2=.free->∃c,X.env.cells.lookup y.1=↑c:=λy a e=>I.ok.has y.1 (S.free y a e)
def dq.cl(S:dq X.env scope)(I:Inv X ϵ σ H s)(h:(Ϙ scope X.env).lookup x=↑c):X.env.cells.lookup x=↑c:=by
 obtain q|q:=Wb scope.names [] (S.has I) x c h
 .show q
 .simp at q
theorem afQ(S:dq X.env scope)(I:Inv X ϵ σ H s)(f:∀b∈fp,cj X ϵ H b)(g:∀b∈fp,b<⇑s):(cT X N' scope (Ϙ scope X.env) ⇑s s H fp).Ok where
 mod:=I.ok.mod
 kind:=S.kind
 glob:=I.ok.glob
 blt:=I.ok.blt
 above:=Ϭ _
 inj:=λx y c h1 h2=>I.ok.inj x y c (S.cl I h1) (S.cl I h2)
 has:=λx i=>Kq (env:=X.env) scope.names [] x (.inl (QC S.cell i))
 cab:=λx c h _=>by cases h
 hd:=I.ok.hd
 frames:=I.ok.frames
 stk:=.inl rfl
 exf:=λb a=>#[adn (g b a),λx c h=>(f b a).2.2.2.2.1 x c (S.cl I h)]
 bs:=I.bs
 bsz:=afG I.ok.bsz I.sz
 noex:=λb o e a=>by
  rcases(f b a).2.2.2.1 with z|z
  .show I.ok.noex b o e z
  .rw[(I.ok.bs b o e).1]at z;cases z
 exfs:=λb a z=>by
  rcases aaT.mp (I.stkSub b z)with e|e
  .show(f b a).2.1 e
  .show(f b a).2.2.1 e
 funs:=I.stack
 frf:=I.stkFree
def aeC{i:Nat}(h1:N'[i]?=↑x)(h2:(dD N' N σ scope)[i]?=some ↑v):scope.names.lookup x=↑.free/\gH N σ x=↑v:=by
 unfold dD at h2;rw[acS,h1]at h2;let a:(if scope.names.lookup x=↑.free then gH N σ x else none)=↑v:= ~~~h2
 split at a
 .rename_i e;show#[e,a]
 .cases a
theorem aez(S:dq X.env scope)(I:Inv X ϵ σ H s)(D:∀b∈fp,cj X ϵ H b)(g:∀b∈fp,b<⇑s){h₁:ϫ}{m:MG}{tk:Nat}(l:h₁.Ns ⇑s m)(a:∀b o,s.heap.get? b=↑o->h₁.get? b=↑o):Inv (cT X N' scope (Ϙ scope X.env) ⇑s s H fp) [] (dD N' X.N σ scope) H {s with heap:=h₁,toks:=tk}where
 ok:=afQ S I D g
 os:=rfl
 bare:=I.bare
 base:=Un.kept a
 loc:=by
  show#[m,l,λi x v h1 h2 M=>?_];let#[e1,E]:=aeC h1 h2;let#[j,F,G]:=Fd E;let y:(x,NameKind.free)∈scope.names:=PySem.mem_of_lookup e1;let hk:=S.free _ y rfl;let#[O,_,J]:=I.loc;let n:sS X.env.scope x:=.inr hk;let#[u,r,lk]:=J j x v F G n;show#[u,r,.inr #[Qd (env:=X.env) e1,?_]];obtain⟨k,_⟩|⟨_,c,e,z⟩:=lk
  .obtain hk|hk:=hk
   .let f:X.env.kindOf x=↑.cell:=hk;rw[f]at k;cases k
   .let f:X.env.kindOf x=↑.free:=hk;rw[f]at k;cases k
  .let#[L,B]:=Kq (env:=X.env) scope.names [] x (.inl y);let C:=S.cl I (x:=x) (c:=L) B;rw[e]at C;cases C;let#[o,q,hd]:=z;show#[c,B,o,a<*q,hd]
 cell:=λx c h=>by
  let#[v,o,q,hd]:=I.cell x c (S.cl I h);show#[v,o,a<*q,hd]
 free:=I.hok.fresh (Ϭ _)
 freeC:=λx c h=>I.freeC x c (S.cl I h)
 pin:=λp hp=>absurd (show p∈([]:List (δ×Obj))from hp) (by simp)
 hok:=I.hok.kept a
 len:=by show(dD N' X.N σ scope).length=↥N';unfold dD;rw[ϰ]
def amq{i:St}(I:Inv X ϵ σ H s)(a:∀b∈fp,cj X ϵ H b)(J:Inv (cT X N' scope (Ϙ scope X.env) ⇑s s H fp) [] i H' s'):Inv X ϵ σ H' s':=by
 let#[j,g,d,t,f]:=s';let e:f=s.os:=J.os;subst e;show I.call (h':=j) (g':=g) (d':=d) (t':=t) (ch:=fp) J.base J.hok J.bare λb c=>#[(a b c).2.2.2.1,(a b c).2.1,(a b c).2.2.2.2.1,(a b c).2.2.2.2.2]
variable{elt iter tg:Ϫ}{ifs:List Ϫ}{pos:Pos}
def jC(X Y:Cx)(tg elt:Ϫ)(ifs:List Ϫ)(J:It)(D:δ)(σ':St)(H:Hp)(Q:Hp->Prop):Prop:=
 ∃W:Nat->Nat->St->Hp->Prop,(∃m,W 0 m σ' (upd H D (.lst [])))/\∀i m e H,W i m e H->
  (J.stop i H/\Q H)\/(J.go i H/\∃N:St->Hp->Prop,(∀c H',N c H'->∃m',m'<m/\W (i+1) m' c H')/\∀x H',J.yld i H x H'->
   EG Y tg x e H' λa H2=>J9 Y ifs a H2 λk f=>if k=true then EV Y elt a f λy g=>∃xs,g D=↑(.lst xs)/\↥xs<ϳ/\N a (upd g D (.lst (xs++[y])))else N a f)
def Gh{R:ε->Env->Result->ν->Prop}{U:Nat->ϫ->Prop}{E:ε->ν->Prop}{Q:δ->Hp->Prop}(Fx:δ->Env->ε->ν->Prop)(hc:X.calm=true)(S:dq X.env scope)(I:Inv X ϵ σ H s)(T:Turn X.prog X.w X.K tg J fp it U)(st:U 0 s.heap)(hf:∀b∈fp,cj X ϵ H b)(al:∀D C x s',Fx D C x s'->notedBy ∅ X.A C (λx s'=>R (.ref D) C (.error x) s') x s')(h:∀(D:δ)(s3:ν),H D=none->Inv X ϵ σ (upd H D (.lst [])) s3->(∀b∈fp,cj X ϵ (upd H D (.lst [])) b)->
   (∀{pins':List (δ×Obj)}{j:St}{H':Hp}{s':ν},Inv (fj X N' scope (Ϙ scope X.env) ⇑s3 s3 (upd H D (.lst [])) fp (Fx D (compEnvC scope (Ϙ scope X.env) ⇑s3 X.env))) pins' j H' s'->Inv X ϵ σ H' s')->
   jC X (fj X N' scope (Ϙ scope X.env) ⇑s3 s3 (upd H D (.lst [])) fp (Fx D (compEnvC scope (Ϙ scope X.env) ⇑s3 X.env))) tg elt ifs J D (dD N' X.N σ scope) H (Q D))(hR:∀(D:δ)(C:Env)(H':Hp)(s':ν),H D=none->Q D H'->Inv X ϵ σ H' s'->cj X ϵ H' C.locals->(∃m,s'.heap.Ns C.locals m)->R (.ref D) C (.ok .next) s'):Ϧ ∅ X.A (newList []) (λZ aa=>Ϧ ∅ X.A (newFunctionEnv scope X.env.globals (Ϙ scope X.env) [] X.env.qual none .none ↑X.env) (λcenv ab=>
   codeAny ∅ X.A (.compStart (.ListComp elt [#[tg,iter,ifs,0]] scope pos) 0 (.ref it) Z {cenv with scope:=relabel scope X.env}) (R Z {cenv with scope:=relabel scope X.env}) ab) E aa) E s:=by
 show wpAny_newObj_type ?_;let hD:H ⇑s=none:=I.hok.fresh (Ϭ _);generalize P:({s with heap:=s.heap.push {cls:=.type "list",dict:=none,data:=.seq ([]:List ε).toArray}}:ν)=s3;let Y:Inv X ϵ σ (upd H ⇑s (.lst [])) s3:=by
  subst P;show I.laid (t':=s.toks) (λb u e=>aaS _ e) (Ϭ _) #[aim _,[],0,.nil,acN _ rfl]
 let hsz:⇑s3=⇑s+1:=by subst P;show asr ..
 let ac:∀b o,s.heap.get? b=↑o->s3.heap.get? b=↑o:=λb o e=>by subst P;show aaS _ e
 let VJ:∀b∈fp,b<⇑s:=λb a=>by
  let#[o,e,_]:=T.obj _ _ st b a;show adw e
 let qu:∀b∈fp,cj X ϵ (upd H ⇑s (.lst [])) b:=λb a=>#[by rw[ξ (adn (VJ b a))];show(hf b a).1,(hf b a).2]
 let am:U 0 s3.heap:=T.keep _ _ _ st λb _ o e=>ac b o e
 let R5:∀b∈fp,b<⇑s3:=λb a=>by rw[hsz];show apc (VJ b a)
 show wpAny_newFunctionEnv S.cell (by intro y hy;simp at hy) (λh₁ an ar=>?_) S.kind;let ZR:∀b o,s3.heap.get? b=↑o->h₁.get? b=↑o:=λb o e=>ar.extBut b o (adn (adw e)) (aaS _ e)
 let L:=h ⇑s s3 hD Y qu;generalize lO:compEnvC scope (Ϙ scope X.env) ⇑s3 X.env=Ce at L;generalize hF:Fx ⇑s Ce=F at L;let vm:Ce.locals=⇑s3:=by rw[<-lO];rfl
 generalize l:cT X N' scope (Ϙ scope X.env) ⇑s3 s3 (upd H ⇑s (.lst [])) fp=B;generalize Nv:({s3 with heap:=h₁,toks:=s3.toks+↥([]:List (Str×ε))}:ν)=s4;let Yt:Inv B [] (dD N' X.N σ scope) (upd H ⇑s (.lst [])) s4:=by
  subst Nv;rw[<-l];show aez S Y qu R5 an ZR
 let ae:B.pn=[]:=by rw[<-l];rfl
 let af:∀{pins':List (δ×Obj)}{j:St}{H':Hp}{s':ν},Inv (B.tri F []) pins' j H' s'->Inv X ϵ σ H' s':=λ{pins' j H' s'} J=>by
  let J2:Inv B [] j H' s':=Inv.mR (X:=B) (ϵ:=[]) (F:=F) (pins':=pins') Yt.ok (by rw[ae];show J);rw[<-l]at J2;show amq Y qu J2
 let hP:(B.tri F []).prog=X.prog:=by rw[<-l];rfl
 let hw:(B.tri F []).w=X.w:=by rw[<-l];rfl
 let hK:(B.tri F []).K=X.K:=by rw[<-l];rfl
 let hA:(B.tri F []).A=X.A:=by rw[<-l];rfl
 let Z6:(B.tri F []).calm=true:=by rw[<-l];show hc
 let ag:(B.tri F []).env=Ce:=by rw[<-l, <-lO];rfl
 let O:(B.tri F []).env.locals=⇑s3:=by rw[ag,vm]
 rw[show fj X N' scope (Ϙ scope X.env) ⇑s3 s3 (upd H ⇑s (.lst [])) fp F=B.tri F []from by rw[<-l]]at L;let#[W,#[m0,w0],turn]:=L af;let I4:Inv (B.tri F []) [] (dD N' X.N σ scope) (upd H ⇑s (.lst [])) s4:=by
  have:=Yt.tri (F:=F);rw[ae]at this;show this
 let tU:U 0 s4.heap:=by
  subst Nv;show T.keep _ _ _ am λb _ o e=>ZR b o e
 let Dl:∀b∈fp,∀H':Hp,H' b=none->cj (B.tri F []) [] H' b:=λb a H' e=>by
  rw[<-l];show#[e,adn (R5 b a),λz=>?_,.inl a,λx c q=>(qu b a).2.2.2.2.1 x c (S.cl Y q),λp hp=>absurd (show p∈([]:List (δ×Obj))from hp) (by simp)];rcases aaT.mp (Y.stkSub b z)with e|e
  .show(hf b a).2.1 e
  .show(hf b a).2.2.1 e
 let G:codeAny ∅ X.A (.compLoop (.ListComp elt [#[tg,iter,ifs,0]] scope pos) 0 (.ref it) (.ref ⇑s) Ce) (R (.ref ⇑s) Ce) s4:=by
  show age (Er:=F) (λn s'=>∃i j H',Inv (B.tri F []) [] j H' s'/\U i s'.heap/\(∀b∈fp,H' b=none)/\W i n j H') (λx s z=>al _ _ x s (by rw[hF];show z)) ?_ m0 #[0,_,_,I4,tU,λb a=>(qu b a).1,w0]
  rintro n s5 ⟨i,j,H5,I5,ah,ai,w5⟩
  let M:∀{α:Type}{t:Sem α}{Q:α->ν->Prop}{s:ν},Ϧ (Ϩ (B.tri F []).prog (B.tri F []).w) (B.tri F []).A t Q (B.tri F []).xe s->Ϧ ∅ X.A t Q F s:=λh=>by
   rw[hP,hw,hA]at h;show h
  rw[<-ag];obtain⟨stop,qn⟩|⟨go,N,hN,step⟩:=turn i n j H5 w5
  .let q:=T.done (B.tri F []) hP hw hK Z6 i [] s5 j H5 F I5 (λb a=>Dl b a _ (ai b a)) ah stop;rw[hA]at q;show ψ q λr s6 f=>?_
   let#[hr,I6]:=f;subst hr;show hR _ _ H5 s6 hD qn (af I6) ?_ ?_
   .rw[O];show Y.fpOk (Ϭ _) ?_;have:=I6.free;rw[O]at this;show this
   .let#[m,hn,_]:=I6.loc;show#[m,hn]
  .let q:=T.item (B.tri F []) hP hw hK Z6 i [] s5 j H5 F I5 (λb a=>Dl b a _ (ai b a)) ah go;rw[hA]at q;show ψ q λr s6 f=>?_
   let#[u,hr,h6]:=f;subst hr;show ψ h6 λ_ s7 f=>?_
   let#[x,H7,I7,r7,y7,Fe,av]:=f;let aw:=I7.pinned (λb a=>Dl b a _ (av b a)) (T.obj<*Fe);let Xw:∀{ak:St}{H8:Hp}{s8:ν},Inv (B.tri F []) ([]++gQ fp s7.heap) ak H8 s8->U (i+1) s8.heap/\∀b∈fp,H8 b=none:=λ{ak H8 s8} I8=>by
    show#[T.keep _ _ _ Fe λb a o e=>(I8.pin (b,o) (aet _ (aet _ (Am a e)))).1,λb a=>?_];let#[o,e,d]:=T.obj _ _ Fe b a;show(I8.pin (b,o) (aet _ (aet _ (Am a e)))).2.1
   show M (ψ (step x H7 y7 _ s7 u aw r7) λ_ s8 f=>?_);let#[g,H8,I8,q8]:=f;show M (ψ (q8 _ s8 I8) λok s9 f=>?_);let#[H9,I9,q9]:=f;cases ok with
   |false=>
    let Hc:N g H9:= ~~~q9
    let#[m',hm,w9]:=hN _ _ Hc;let#[k1,k2]:=Xw I9;show ∃m,_;show#[m',hm,i+1,g,H9,I9.unpinned,k1,k2,w9]
   |true=>
    let Hc:EV (B.tri F []) elt g H9 λy H4=>∃xs,H4 ⇑s=↑(.lst xs)/\↥xs<ϳ/\N g (upd H4 ⇑s (.lst (xs++[y]))):= ~~~q9
    show Ϧ _ _ _ _ _ _*>M (ψ (Hc _ s9 I9) λz gF f=>?_);let#[y,lB,ax,ay,xs,aC,aE,aI]:=f;show M (ψ (Ao _ gF g lB (.ref ⇑s) [y] _ [z] (λv fY=>v=.non/\fY=upd lB ⇑s (.lst (xs++[y]))) ax rfl (.cons ay .nil) #[_,xs,y,rfl,rfl,aC,aE,rfl,rfl]) λ_ s11 f=>?_);let#[_,fY,Xk,_,_,aR]:=f;subst aR;let#[m',hm,aS]:=hN _ _ aI;let#[k1,k2]:=Xw Xk;show#[m',hm,i+1,g,_,Xk.unpinned,k1,k2,aS]
 rw[<-lO]at G;show codeAny_compStart_list G (T.self X.A 0 s4 _ _ tU G)
def yW(hc:X.calm=true)(S:dq X.env scope)(hs:∀x,foldedSetIterable iter X.env x=pure x)(h:EI X tg iter σ H λJ H1=>∀(fp:List δ)(D C:δ)(a:ν),H1 D=none->jC X (cT X N' scope (Ϙ scope X.env) C a (upd H1 D (.lst [])) fp) tg elt ifs J D (dD N' X.N σ scope) H1 (λH'=>Q (.ref D) H')):EV X (.ListComp elt [#[tg,iter,ifs,0]] scope pos) σ H Q:=by
 intro ϵ s I;rw[eval_ListComp];show JQ (use:=none) rfl hs (Hq (S.has I)) S.kind S.loc (ψ (h ϵ s I) λv O h1=>ψ h1 λl P h2=>?_);let#[it,fp,U,J,H2,e,n,T,c,p,q]:=h2;subst e;show Gh (λ_ _ _ _=>False) (R:=λf C=>wH ∅ X.A X.xe none (EP X ϵ σ Q) f C) (Q:=λD H'=>Q (.ref D) H') hc S n T c p (λ_ _ _ _ z=>z.elim) (λD a j _ _ _=>q fp D _ a j) λD C H' s' j u IX y g=>?_
 let#[m,g]:=g;let#[B,E,W,F,G,L]:=y;show#[m,g,λh' i=>#[.ref D,H',IX.turned (t':=s'.toks) (λb o M e=>i.extBut b o M e) B E F G L,rfl,u]]
def Qs(c:aoH (.ListComp elt [#[tg,iter,ifs,0]] scope pos) ↑(.Name y py) spos.line X.env=pure true)(hc:X.calm=true)(S:dq X.env scope)(hs:∀x,foldedSetIterable iter X.env x=pure x)(L:X.N.Nodup)(hi:nameAt X.N y=↑j)(u:X.env.scope.names.lookup y=↑.local)(h:EI X tg iter σ H λJ H1=>∀(fp:List δ)(E C:δ)(f:ν),H1 E=none->jC X (cT X N' scope (Ϙ scope X.env) C f (upd H1 E (.lst [])) fp) tg elt ifs J E (dD N' X.N σ scope) H1 (λH'=>D.nx (σ.set j ↑(.ref E)) H')):SX X (.Assign [.Name y py] (.ListComp elt [#[tg,iter,ifs,0]] scope pos) spos) D σ H:=by
 intro ϵ s I;rw[exec_Assign_Name_used _ _ _ _ c];show π (aif (π ?_));show Ϧ _ X.A (do let _<-comprehension (.ListComp elt [#[tg,iter,ifs,0]] scope pos) scope X.env _ (newList []) false (eval iter X.env) ↑(assign (.Name y py) X.env)) _ _ s;show π (adK (JQ (use:=↑(assign (.Name y py) X.env)) (Q:=λ_ s'=>SP X ϵ D .next s') rfl hs (Hq (S.has I)) S.kind S.loc
  (ψ (h ϵ s I) λv s1 h1=>ψ h1 λM s2 h2=>?_)) (λ_ s' O=>ϱ (ϱ O)) λ_ _ e=>e)
 let#[it,fp,tn,J,H2,e,P,T,g,U,W]:=h2;subst e;show Gh (λ_ _ _ _=>False) (R:=λi C=>wH ∅ X.A X.xe ↑(assign (.Name y py) X.env) (λ_ s'=>SP X ϵ D .next s') i C) (Q:=λE H'=>D.nx (σ.set j ↑(.ref E)) H') hc S P T g U (λ_ _ _ _ z=>z.elim) (λE f B _ _ _=>W fp E _ f B) λE C H' s' B Y IX Z l=>?_
 let#[m,l]:=l;let#[f0,F,Ob,f3,G,f5]:=Z;show Ϧ _ _ (assign (.Name y py) X.env (.ref E)) _ _ _*>wpAny_assign_Name (qX IX L (nG hi) (.inl u) (v:=.ref E) rfl (λn CV p=>?_) (.inr u));let#[a,sb,ha]:=p;let Jr:C.locals≠a:=by
  obtain ha|ha:=ha
  .rw[ha];show F
  .intro z;show G y a ha z.symm
 show#[m,l.sameBut sb Jr,λh' q=>#[σ.set j ↑(.ref E),H',CV.turned (t':=n.toks) (λb o p e=>q.extBut b o p e) f0 F f3 G f5,Y]]
theorem abd(q:Q true H):J9 X [] σ H Q:=λϵ s I=>by
 rw[as9];show ϱ #[H,I,q]
theorem aav(h:ET X c σ H Q):J9 X [c] σ H Q:=λϵ s I=>by
 rw[ase];simp only[if_true];show π (π (ψ (h ϵ s I) λk a q=>ϱ ?_));dsimp only;rw[as9];show ϱ q
end
def Μ{c A B:Prop}[Decidable c](h1:c->A)(h2:¬c->B):if decide c=true then A else B:=by
 by_cases h:c
 .rw[if_pos (decide_eq_true h)];show h1 h
 .rw[if_neg (~~~h)];show h2 h
theorem gC{c A B:Prop}[Decidable c](q:B)(h:¬c:=by fin2):if decide c=true then A else B:=Μ (λz=>absurd z h) λ_=>q
theorem fG{c A B:Prop}[Decidable c](q:A)(h:c:=by rfl):if decide c=true then A else B:=Μ (λ_=>q) λz=>absurd h z
def aY{c A B:Prop}[Decidable c](h1:¬c->A)(h2:c->B):if(!decide c)=true then A else B:=by
 by_cases h:c
 .rw[if_neg (by simp[h])];show h2 h
 .rw[if_pos (by simp[h])];show h1 h
def uO{A B:Prop}(h1:k=true->A)(h2:k=false->B):if k=true then A else B:=by
 cases k with
 |true=>rw[if_pos rfl];show h1 rfl
 |false=>rw[if_neg abW];show h2 rfl
def JB{A B:Prop}(h1:k=false->A)(h2:k=true->B):if(!k)=true then A else B:=by
 cases k with
 |true=>rw[if_neg (by decide)];show h2 rfl
 |false=>rw[if_pos (by decide)];show h1 rfl
def agZ{A B:Prop}(h:B):if(!true)=true then A else B:=by rw[if_neg (by decide)];show h
def an8{A B:Prop}(h:A):if(!false)=true then A else B:=by rw[if_pos (by decide)];show h
theorem ζ.upd(h:H p=none):ζ H (_L.upd H p o):=λb u e=>by rw[ξ (ϔ e h)];show e
theorem Ρ(h:H p=none)(o:HO):ζ H (upd H p o)/\(upd H p o) p=↑o:=#[ζ.upd h,υ]
def WM(hp:apU ∅ X.A X.env X.xe)(hc:X.calm=true)(j:Gl X "range")(l:X.mg "range"=none)(hs:acv [a] X.env=[(false,eval a X.env)])(h:EV X a σ H λv H1=>∃n:Int,v=.int n/\ -(2^62)<=n/\n<2^62/\∃c:Nat->St->Hp->Prop,c 0 σ H1/\
   (∀i σ' H',i<n.toNat->c i σ' H'->EG X tg (.int i) σ' H' λe H2=>Φ X body {D with nx:=c (i+1),ct:=c (i+1),bk:=D.nx} e H2)/\∀σ' H',c n.toNat σ' H'->D.nx σ' H'):SX X (.For tg (.Call (.Name "range" p) [a] [] p') body [] pos) D σ H:=by
 show rY hp hc (by intro _;rfl) (afn j l hs (jn hs (bC h λv H1 q=>?_)));let#[n,rfl,h1,h2,c,m,f,hd]:=q;show fW #[n,rfl,h1,h2,?_]*>acX (g:=EG X tg) (tb:=Φ X body) c m (λi σ' H' hi o=>by rw[atq];show f i σ' H' hi o) hd
def sZ(hp:apU ∅ X.A X.env X.xe)(hc:X.calm=true)(hs:∀x,foldedSetIterable e X.env x=pure x)(h:EV X e σ H λv H1=>∃q xs,v=.ref q/\θ X.K H1 q xs/\∃a:Nat->St->Hp->Prop,a 0 σ H1/\(∀i σ' H',i<=↥xs->a i σ' H'->θ X.K H' q xs)/\
   (∀i x σ' H',xs[i]?=↑x->a i σ' H'->EG X tg x σ' H' λc H2=>Φ X body {D with nx:=a (i+1),ct:=a (i+1),bk:=D.nx} c H2)/\∀σ' H',a ↥xs σ' H'->D.nx σ' H'):SX X (.For tg e body [] pos) D σ H:=by
 show rY hp hc hs (rm (bC h λv H1 q=>?_));let#[q,xs,rfl,j,a,l,m,f,hd]:=q;show#[q,rfl,#[xs,j],ahL (g:=EG X tg) (tb:=Φ X body) a l m f hd]
def QM(hp:apU ∅ X.A X.env X.xe)(hc:X.calm=true)(hs:∀x,foldedSetIterable e X.env x=pure x)(h:EV X e σ H λv H1=>∃z:Str,v=.str z/\∃a:Nat->St->Hp->Prop,a 0 σ H1/\
   (∀i c σ' H',z.cps.toList[i]?=↑c->a i σ' H'->EG X tg (.str #[#v[c]]) σ' H' λf H2=>Φ X body {D with nx:=a (i+1),ct:=a (i+1),bk:=D.nx} f H2)/\∀σ' H',a ↥z.cps.toList σ' H'->D.nx σ' H'):SX X (.For tg e body [] pos) D σ H:=by
 show rY hp hc hs (U5 (bC h λv H1 q=>?_));let#[z,rfl,a,l,j,hd]:=q;show#[z,rfl,λi m σ H=>m=z.cps.size-i/\i<=z.cps.size/\a i σ H,#[z.cps.size,by simp,aim _,l],?_]
 rintro i m σ' H' ⟨rfl,hi,p⟩
 by_cases g:i<z.cps.size
 .show .inr #[g,a (i+1),λf H2 p2=>#[z.cps.size-(i+1),(),rfl,g,p2],λx H2 y=>?_];let#[e1,c,n,o]:=y;subst e1 o;show j i c σ' _ (~~~n) p
 .let e:i=z.cps.size:=()
  subst e;show .inl #[Ϭ _,hd σ' H' (~~~p)]
def aod{Q:Hp->Prop}{j:Nat}(U:Y.N.Nodup)(W:nameAt Y.N y=↑j)(M:Y.env.scope.names.lookup y=↑.local)(n:Nat)(hn:n<=ϳ)(q:Nat->V->Prop)(It:Nat->V->Prop)(O:H E=none)(go:∀i H1,ζ (upd H E (.lst [])) (upd H1 E (.lst []))->i<n->J.go i H1)(stop:∀H1,ζ (upd H E (.lst [])) (upd H1 E (.lst []))->J.stop n H1)(yld:∀i H1 x H2,i<n->ζ (upd H E (.lst [])) (upd H1 E (.lst []))->J.yld i H1 x H2->It i x/\H2=H1)(step:∀i x H1,i<n->It i x->ζ H H1->EV Y elt (f.set j ↑x) H1 λv H2=>q i v/\ζ H1 H2)(C:∀H1 xs,↥xs=n->(∀i v,xs[i]?=↑v->q i v)->H1 E=↑(.lst xs)->ζ H H1->Q H1):jC X Y (.Name y py) elt [] J E f H Q:=by
 let D:∀{H1:Hp},ζ H H1->ζ (upd H E (.lst [])) (upd H1 E (.lst [])):=λ{H1} s b o e=>by
  by_cases P:b=E
  .subst P;rw[υ]at e⊢;show e
  .rw[ξ P]at e⊢;show s b o e
 show#[λi m B H1=>m=n-i/\i<=n/\ζ H H1/\(B=f\/∃x,B=f.set j ↑x)/\∃xs,H1 E=↑(.lst xs)/\↥xs=i/\∀k v,xs[k]?=↑v->q k v,#[n,by simp,aim _,ζ.upd O,.inl rfl,[],υ,rfl,λk v e=>by simp at e],?_]
 rintro i m B H1 ⟨rfl,hi,p,F,xs,R,G,S⟩
 by_cases g:i<n
 .show .inr #[go i H1 (D p) g,λl H'=>ζ H H'/\(l=f\/∃x,l=f.set j ↑x)/\∃xs,H' E=↑(.lst xs)/\↥xs=i+1/\∀k v,xs[k]?=↑v->q k v,λl H' z=>by let#[a,b,c]:=z;show #[n-(i+1),(),rfl,g,a,b,c],λx H2 y=>?_];let#[Z,e2]:=yld i H1 x H2 g (D p) y;subst e2;show ω U (abd ?_) W (.inl M) (.inr M);rw[if_pos rfl];let I:B.set j ↑x=f.set j ↑x:=by
   obtain e|⟨z,e⟩:=F
   .rw[e]
   .rw[e,List.set_set]
  rw[I];show bC (step i x H2 g Z p) λv H3 ⟨pv,T⟩=>#[xs,T<*R,(),?_]
  show#[λb o e=>?_,.inr #[x,rfl],xs++[v],υ,by simp[G],λk u e=>?_]
  .rw[ξ (ϔ e O)];show T<*(p<*e)
  .by_cases hk:k<↥xs
   .rw[aiZ hk]at e;show S k u e
   .let L:k=i:=by
     have:=(aas.mp e).1;rw[adz,afZ]at this;omega
    subst L;rw[<-G,aoX]at e;cases e;show pv
 .let e:i=n:=()
  subst e;show .inl #[stop H1 (D p),C H1 xs G S R p]
def anT(N':List Str)(m:dD N' X.N σ scope=σ')(hc:X.calm=true)(S:dq X.env scope)(u:N'.Nodup)(B:nameAt N' y=↑j)(D:scope.names.lookup y=↑.local)(hs:∀x,foldedSetIterable e X.env x=pure x)(h:EV X e σ H λv H1=>∃z:Str,v=.str z/\z.cps.size<=ϳ/\∃f:Nat->V->Prop,
   (∀(fp:List δ)(E C:δ)(g:ν)(F:Hp)(i c:Nat)(H2:Hp),z.cps.toList[i]?=↑c->ζ H1 H2->EV (cT X N' scope (Ϙ scope X.env) C g F fp) elt (σ'.set j ↑(.str #[#v[c]])) H2 λv G=>f i v/\ζ H2 G)/\
   ∀(E:δ)(H2:Hp)(xs:List V),H1 E=none->↥xs=z.cps.size->(∀i v,xs[i]?=↑v->f i v)->H2 E=↑(.lst xs)->ζ H1 H2->Q (.ref E) H2):EV X (.ListComp elt [#[.Name y py,e,[],0]] scope pos) σ H Q:=by
 show yW (N':=N') hc S hs (U5 (bC h λv H1 q=>?_));let#[z,rfl,h2,f,n,a]:=q;show#[z,rfl,λfp E C g p=>?_];rw[m];show aod (Y:=cT X N' scope (Ϙ scope X.env) C g (upd H1 E (.lst [])) fp) u B (lookup_relabel_local D) z.cps.size h2 f (λi x=>∃c,z.cps.toList[i]?=↑c/\x=.str #[#v[c]]) p (λi _ _ hi=>hi) (λ_ _=>Ϭ _) (λi H1 x H2 _ _ I=>?_) (λi x H2 hi ex s=>?_) (λH2 xs l J L s=>a E H2 xs p l J L s)
 .let#[e1,c,o,M]:=I;show#[#[c,~~~o,M],e1]
 .let#[c,e1,o]:=ex;subst o;show n fp E C g _ i c H2 e1 s
section
variable{P:ϲ}{w:Ϯ}{K:ϩ}{mg:MG}{base:ϫ}{cc:Bool}
abbrev fD(cc:Bool)(P:ϲ)(w:Ϯ)(K:ϩ)(mg:MG)(base:ϫ)(N:List Str)(qual:Str)(scope:ajd)(f:δ)(cd:ε)(A:ϴ)(outer:List Env)(s:ν)(H:Hp)(E:XK):Cx:=
 oG cc (cJ P w) P w K mg base N qual scope f cd A outer s H E
def xf{x qual:Str}{st:ϧ}{k:Nat}{sp:Sp}{f:δ}{fd:ajR}(F:c7 K x qual st f fd)(S:Λ N ps (ς st))(len:∀vs H Q E,sp vs H Q E->↥vs=↥ps)(body:∀(a:ε)(A:ϴ)(outer:List Env)(s:ν)(H:Hp)(vs:List V)(Q:VK)(E:XK),ϓ cc k (A.deeper (envOfC qual (ς st) ⇑s f a))->sp vs H Q E->
   Φ (fD cc P w K mg base N qual (ς st) f a A outer s H E) (ϣ st) {nx:=λ_ H'=>Q .non H',rt:=Q} (start N vs) H):dJ P w K mg base (cJ P w) cc (k+1) f fd ps sp:=by
 let#[oc,od,kV,e,pm,an,a,ct,g,rfl,lk,c]:=id F.ex;show Xg lk c S len λA outer s H vs Q E i h=>#[_,Rm,body a A outer s H vs Q E i h]
def Ζ{x:Str}{st:ϧ}{k:Nat}{sp:Sp}(F:∃f fd,c7 K x x st f fd/\mg x=↑(.ref f))(body:∀(f:δ)(a:ε)(A:ϴ)(outer:List Env)(s:ν)(H:Hp)(vs:List V)(Q:VK)(E:XK),ϓ cc k (A.deeper (envOfC x (ς st) ⇑s f a))->sp vs H Q E->
   let X:=fD cc P w K mg base N x (ς st) f a A outer s H E;let D:Ends:={nx:=λ_ H'=>Q .non H',rt:=Q};Φ X (ϣ st) D (start N vs) H)(S:Λ N ps (ς st):=by room)(e:∀(kV c pm:ε)(an:Option δ)(a ct:ε)(us:List ε),↥us=↥ps->bindArgs (asS x x (jx st) (ϣ st) (ς st) .none kV c pm an a ct) #[us,[]]=pure (ps.zip us):=by walk_at"bb")(len:∀vs H Q E,sp vs H Q E->↥vs=↥ps:=by walk_at"ln"):Def P w K mg base cc (k+1) x ps sp:=by
 let#[f,fd,F,g]:=F;show#[f,fd,g,F.kp,F.binds e,xf F S len λa A outer s H vs Q E i h=>body f a A outer s H vs Q E i h]
end
def Ϗ(z:Str)(lo hi:Option Int):Str:=#[((z.cps.toList.drop (_H.ό ↥z 0 lo)).take (_H.ό ↥z ↥z hi-_H.ό ↥z 0 lo)).toArray]
def wV(n d:Nat)(v:Int):max 0 (min (if v<0 then v+(n:Int)else v) (n:Int))=((_H.ό n d ↑v:Nat):Int):=by
 rw[<-_H.aeQ];split <;>omega
def Z0(lo hi:Option Int)(n:Nat):Builtin.Str.strSliceIndices lo hi 1 n=(agB (_H.ό n n hi-_H.ό n 0 lo)).map (λm=>_H.ό n 0 lo+m):=by
 let e:Builtin.Str.strSliceIndices lo hi 1 n=sliceRange ((_H.ό n 0 lo:Nat):Int) ((_H.ό n n hi:Nat):Int) 1:=by
  cases lo with
  |none=>
   cases hi with
   |none=>rfl
   |some v=>rw[<-wV n n v];rfl
  |some u=>
   cases hi with
   |none=>rw[<-wV n 0 u];rfl
   |some v=>rw[<-wV n 0 u, <-wV n n v];rfl
 rw[e];generalize _H.ό n 0 lo=a;generalize _H.ό n n hi=b;by_cases h:a<=b
 .have :=StrLaws.strSliceIndices_plain (len:=b) h (Ϭ b);rw[<-this];let c:Builtin.Str.strSliceIndices ↑(a:Int) ↑(b:Int) 1 b=sliceRange (a:Int) (b:Int) 1:=by
   let h1:¬((a:Int)<0):=()
   let h2:¬((b:Int)<0):=()
   let e1:max (0:Int) (min (a:Int) (b:Int))=a:=()
   let c:max (0:Int) (min (b:Int) (b:Int))=b:=()
   simp only[Builtin.Str.strSliceIndices,h1,h2,if_false,e1,c,show((1:Int)>0)=True from by simp,if_true]
  rw[c]
 .let f:b-a=0:=()
  rw[f];have:¬((a:Int)<b):=()
  simp[sliceRange,this]
def anH(z:Str)(lo hi:Option Int):(#[((Builtin.Str.strSliceIndices lo hi 1 ↥z).filterMap (z.cps[·]?)).toArray]:Str)=Ϗ z lo hi:=by
 rw[Z0];unfold Ϗ;let h1:=_H.WY ↥z ↥z (Ϭ _) hi;let c:↥z.cps.toList=↥z:=by simp[asx]
 by_cases h:_H.ό ↥z 0 lo<=_H.ό ↥z ↥z hi
 .have :=StrLaws.picks z.cps.toList (_H.ό ↥z ↥z hi-_H.ό ↥z 0 lo) (_H.ό ↥z 0 lo) ();rw[<-this];simp
 .let a:_H.ό ↥z ↥z hi-_H.ό ↥z 0 lo=0:=()
  rw[a];simp
def Vx(h:IsPart v o):∃l:Option (Int×Tok),v=partValue l/\l.map (·.1)=o:=by
 cases h with
 |none=>show#[none,rfl,rfl]
 |int i t=>show#[↑(i,t),rfl,rfl]
def ac2:yq X (λx lo hi H Q=>∃z,x=.str z/\↥z<=ϳ/\Q (.str (Ϗ z lo hi)) H):=by
 intro ϵ s σ H x v D E lo hi sl Q I rx hs pl n h;let#[z,rfl,G,q]:=h;let#[t,rfl]:=rx;show#["str",_,F.slot_str_getitem.lookup,typeIs_str s z t,?_];let#[l,rfl,rfl]:=Vx pl;let#[u,rfl,rfl]:=Vx n;let g:s.heap.IsSlice sl l u none:=by
  let#[o,p,hc,hd]:=hs;show#[o,p,hc,hd]
 show wpAny_getItem_str_slice g rfl ?_;let e:(slicePicked z l u none)=Builtin.Str.strSliceIndices (l.map (·.1)) (u.map (·.1)) 1 ↥z:=rfl;unfold sliceMade;let i:(#[((slicePicked z l u none).filterMap (z.cps[·]?)).toArray]:Str)=Ϗ z (l.map (·.1)) (u.map (·.1)):=by rw[e];show anH z _ _
 split
 .rename_i j;let f:↥(slicePicked z l u none)=↥z:=by
   simp only[acF,beq_iff_eq]at j;show j.2
  let a:Ϗ z (l.map (·.1)) (u.map (·.1))=z:=by
   rw[e,Z0,ϰ,aqO]at f;let h1:=_H.WY ↥z ↥z (Ϭ _) (u.map (·.1));let J:↥z.cps.toList=↥z:=by simp[asx]
   unfold Ϗ;by_cases y:↥z=0
   .have :z.cps.toList=[]:=List.eq_nil_of_length_eq_zero ();rw[this];let m:z.cps= #v[]:=by
     have:=congrArg agC this;simpa using this
    let#[c]:=z;simp at m;subst m;simp
   .let B:_H.ό ↥z 0 (l.map (·.1))=0:=()
    let C:_H.ό ↥z ↥z (u.map (·.1))=↥z:=()
    rw[B,C,akR,ari,agH ()]
  show#[.str (Ϗ z (l.map (·.1)) (u.map (·.1))),H,I,#[t,by rw[a]],q]
 .rw[i];show#[?_,.str (Ϗ z (l.map (·.1)) (u.map (·.1))),H,I.tok _,#[_,rfl],q];have:(Ϗ z (l.map (·.1)) (u.map (·.1))).length<=↥z:=by
   unfold Ϗ asx;simp;omega
  omega
theorem jZ{lo hi:Option Int}(h:↥z<=ϳ)(g:Q (.str (Ϗ z lo hi)) H):SL X (.str z) lo hi H Q:=#[_,ac2,z,rfl,h,g]
theorem iT{id:String}{r:V->List V->Hp->VK->Prop}{x:V}(h:JP X id r)(q:r x xs H Q):MT X id x xs H Q:=#[r,h,q]
def Z2:∀{us:List ε},Vals (ys.map V.str) us->StrsAre us ys:=by
 induction ys with
 |nil=>intro us r;cases r;show .nil
 |cons y ys a=>
  intro us r;cases r with
  |cons r c=>
   let#[t,rfl]:=r;show .cons y t (a c)
def iV(h:θ X.K H q (ys.map V.str))(a:(ys.map (·.length)).sum+↥ys*↥z<=16777216)(g:Q (.str (ϭ z ys)) H):MT X "str.join" (.str z) [.ref q] H Q:=by
 show iT (r:=λx xs H Q=>∃z q ys,x=.str z/\xs=[.ref q]/\θ X.K H q (ys.map V.str)/\(ys.map (·.length)).sum+↥ys*↥z<=16777216/\Q (.str (ϭ z ys)) H) ?_ #[z,q,ys,rfl,rfl,h,a,g];intro ϵ s σ H x xs v us Q I rx c h;let#[z,q,ys,rfl,rfl,h,a,g]:=h;let#[t,rfl]:=rx;let#[u,rfl,f]:=vals1 c;cases(show u=Value.ref q from f);let#[j,i,pl,_]:=I.list h;show join_list pl.isList (~~~Z2 i) a λt' k=>#[.str (ϭ z ys),H,I.tok k,#[t',?_],g]
 let e:Txt.join z ys=ϭ z ys:=by
  unfold Txt.join;cases ys with
  |nil=>rfl
  |cons y r=>show StrLaws.glued_cons z r y
 rw[e]
def aaL(g:Q (.bl (Txt.startswith z y)) H):MT X "str.startswith" (.str z) [.str y] H Q:=by
 show iT (r:=λx xs H Q=>∃z y,x=.str z/\xs=[.str y]/\Q (.bl (Txt.startswith z y)) H) ?_ #[z,y,rfl,rfl,g];intro ϵ s σ H x xs v us Q I rx a h;let#[z,y,rfl,rfl,g]:=h;let#[t,rfl]:=rx;let#[u,rfl,c]:=vals1 a;let#[t',rfl]:=c;show SC.startswith #[.bl _,H,I,rfl,g]
def Oa{bs:List Bool}(hc:X.calm=true)(h:θ X.K H q (bs.map V.bl))(g:Q (.bl (bs.all id)) H):CL X (.builtin "all") [.ref q] H Q:=by
 show cV (r:=λxs H Q=>∃q bs,xs=[.ref q]/\θ X.K H q (bs.map V.bl)/\Q (.bl (bs.all id)) H) ?_ #[q,bs,rfl,h,g];intro ϵ s σ H xs us Q I r h;let#[q,bs,rfl,h,g]:=h;let#[u,rfl,z]:=vals1 r;cases(show u=Value.ref q from z);let#[c,y,pl,G]:=I.list h;show call_all_walk (wpAny_pyIter_list pl.isList ?_);let m:q<⇑s:=by
  let#[o,n,_]:=pl.isList;show adw n
 let a:↥c=↥bs:=by have:=↥y;rw[ϰ]at this;show this.symm
 show#[⇑s,[⇑s,q],[⇑s],c.toArray.size,(λi v=>c.toArray[i]?=↑v),(λi h=>h.IsListIter ⇑s q i/\h.IsList q c.toArray),λi=>bs.getD i true,rfl,Walks.list (A:=X.A.in1) (show X.A.in1.handled=none from I.ok.hd hc) ⇑s q (adn m) c.toArray,#[#[_,acN _ rfl,rfl,rfl],?_],?_,λh' tk B=>?_]
 .let#[o,n,r]:=pl.isList;show#[o,aaS _ n,r]
 .intro i v s Q E C m;let f:c[i]?=↑v:= ~~~C
  let hi:i<↥bs:=by rw[<-a];show(aas.mp f).1
  let#[u,e1,D]:=y.get (i:=i) (x:=V.bl bs[i]) (by simp[hi]);rw[f]at e1;cases e1;cases(show v=Value.bool bs[i]from D);show ais ?_;have:bs.getD i true=bs[i]:=by simp[hi]
  let j:Q (bs.getD i true) s:=m;rw[this]at j;show j
 .let e:(agB c.toArray.size).all (λi=>bs.getD i true)=bs.all id:=by
   rw[ace,a,ahT,aeN,aeN];constructor
   .intro h b p;let#[i,hi,e]:=apQ p;have:=h i (~~~hi);simpa [hi,e]using this
   .intro h i hi;let l:i<↥bs:= ~~~hi
    have:=h bs[i] (ak7 l);simpa [l]using this
  rw[e];let fp:=I.fpOk (Ϭ _) (I.hok.fresh (Ϭ _));let F:Inv X ϵ σ H {s with heap:=s.heap.push {cls:=.type "list_iterator",data:=.fields #v[.ref q,.int 0 0]}}:=I.kept (t':=s.toks) λb o e=>aaS _ e
  show#[.bl _,H,F.turned (it:=⇑s) (λb o p e=>B b o (~~~p) e) (I.hok.fresh (Ϭ _)) fp.2.1 fp.2.2.2.1 fp.2.2.2.2.1 fp.2.2.2.2.2,rfl,g]
def b8{env:Env}{scope:ajd}(sc:ajd)(c:env.scope=sc:=by rfl)(f:scope.kind=.function:=by rfl)(h:(scope.names.all λy=>(if y.2==.free then(sc.names.lookup y.1==↑.cell||sc.names.lookup y.1==↑.free)else true)&&y.2 !=.cell&&(if y.2==.local then scope.names.lookup y.1==↑.local else true))=true:=by fin2):dq env scope:=by
 let h':=aeN.mp h;show#[f,λy a e=>?_,λy a e=>?_,λy a e=>?_]
 .let q:=h' y a;simp only[e,beq_self_eq_true,if_true,acF,aqg,beq_iff_eq]at q;show env.scope.names.lookup y.1=_\/env.scope.names.lookup y.1=_;rw[c];show q.1.1
 .let q:=h' y a;rw[e]at q;simp at q
 .let q:=h' y a;simp only[e,acF,beq_iff_eq,beq_self_eq_true,if_true]at q;show q.2
def jJ{α:Type}{ys:List α}(f:α->V)(g:↥xs=↥ys)(h:∀(i:Nat) v,xs[i]?=↑v->∃c,ys[i]?=↑c/\v=f c):xs=ys.map f:=by
 apply List.ext_getElem?;intro i;rw[acS];cases e:xs[i]? with
 |none=>
  have:↥xs<=i:=List.getElem?_eq_none_iff.mp e;rw[aro ()];rfl
 |some v=>
  let#[c,e1,a]:=h i v e;rw[e1,a];rfl
theorem anb(q:Q (.int 1000000000) H):OP X (binaryOp .Pow) (.int 10) (.int 9) H Q:=aaj #[by decide,by decide,by decide] (show Q (.int (10^(9:Int).toNat)) H from(show(10:Int)^(9:Int).toNat=1000000000 from by decide)▸q)
def EJ(X:Cx)(vs:List Ϫ)(out:Str)(σ:St)(H:Hp)(Q:VK):Prop:=
 ∀(ϵ:List (δ×Obj))(s:ν),Inv X ϵ σ H s->Ϧ ∅ X.A (joinParts out (evalEach vs X.env)) (EP X ϵ σ Q) X.xe s
section
variable{X:Cx}{σ:St}{H:Hp}{Q:VK}{v v₁ v₂:Ϫ}{rest:List Ϫ}{pos:Pos}{out:Str}
theorem Nf(h:EJ X (v₁::v₂::rest) alg σ H Q):EV X (.JoinedStr (v₁::v₂::rest) pos) σ H Q:=λϵ s I=>h ϵ s I
theorem YG(a:↥out<=ϳ)(q:Q (.str out) H):EJ X [] out σ H Q:=λϵ s I=>joinParts_nil #[.str out,H,I.tok _,#[_,rfl],q] a
theorem nM(h:EV X v σ H λx H1=>∃y,x=.str y/\↥(out++y)<=ϳ/\EJ X rest (out++y) σ H1 Q):EJ X (v::rest) out σ H Q:=λϵ s I=>by
 show joinParts_cons (ψ (h ϵ s I) λu a c=>?_);let#[x,H1,f,r,y,e,g,q]:=c;subst e;let#[t,rfl]:=r;show#[g,q ϵ a f]
theorem oU(h:EV X v σ H λx H1=>∃z,x=.str z/\↥z<=ϳ/\Q (.str z) H1):EV X (.FormattedValue v (-1) none pos) σ H Q:=λϵ s I=>by
 show FormattedValue_plain (ψ (h ϵ s I) λu g a=>?_);let#[x,H1,c,r,z,e,f,q]:=a;subst e;let#[t,rfl]:=r;show formatField_str (λt' tk=>#[.str z,H1,c.tok tk,#[t',rfl],q]) f
theorem gm(h:EV X v σ H λx H1=>∃i,x=.int i/\i.natAbs.log2<1920/\Q (.str (toString i)) H1):EV X (.FormattedValue v (-1) none pos) σ H Q:=λϵ s I=>by
 show FormattedValue_plain (ψ (h ϵ s I) λu g a=>?_);let#[x,H1,c,r,z,e,f,q]:=a;subst e;let#[t,rfl]:=r;show formatField_int_small f #[.str (toString z),H1,c.tok _,#[_,rfl],q]
end
def nY(X:Cx)(vs:List Ϫ)(n:Nat)(σ:St)(H:Hp)(R:Hp->Prop):=∀out:Str,↥out<=n->∀Q:VK,(∀z H',R H'->Q (.str z) H')->EJ X vs out σ H Q
def VR(x y:Str):↥(x++y)=↥x+↥y:=by
 show(x.cps++y.cps).size=_;rw[Array.size_append];rfl
section
variable{X:Cx}{σ:St}{H:Hp}{Q:VK}{R:Hp->Prop}{v v₁ v₂:Ϫ}{rest:List Ϫ}{pos:Pos}{n:Nat}
theorem ajn(h:nY X (v₁::v₂::rest) 0 σ H λH'=>∀z,Q (.str z) H'):EV X (.JoinedStr (v₁::v₂::rest) pos) σ H Q:=Nf (h alg (Ϭ _) Q λz H' r=>r z)
theorem aeG(a:n<=ϳ)(r:R H):nY X [] n σ H R:=λout c Q k=>YG (afG c a) (k out H r)
theorem QR(h:EV X v σ H λx H1=>∃y m,x=.str y/\↥y<=m/\n+m<=ϳ/\nY X rest (n+m) σ H1 R):nY X (v::rest) n σ H R:=λout a Q k=>
 nM (bC h λx H1 z=>by let#[y,m,e,c,f,q]:=z;show #[y,e,by rw[VR];omega,q (out++y) (by rw[VR];omega) Q k])
end
def acD{K:ϩ}{N:δ}{mg:MG}{n:Str}{v:ε}(X:K.In h)(G:h.Ns N mg)(e:atQ K N n=some ↑v):mg n=↑v:=by
 let#[o,es,ep,a,hd,_,f]:=G;unfold atQ at e;split at e
 .rename_i c d g j sl q;have:=X _ _ q;rw[a]at this;cases this;cases hd;split at e
  .rename_i l i;cases e;rw[<-f];unfold nsFind findBy;rw[<-atd,i];rfl
  .split at e<;>cases e
 .cases e
def Y5{K:ϩ}{h:ϫ}{i:Option ε}(kin:K.In h)(e:HJ K C i=true):∃bm N nm q bs hdct sn sub ab col dd k0 k1 k2 k3 k5 mN,h.get? C=↑(excClassObj nm q C N bs bm hdct sn sub ab col dd k0 k1 k2 k3 k5 "ValueError.__new__")/\h.Ns N mN/\mN "__init__"=i/\OwnTail h eY bm:=by
 unfold HJ at e;split at e
 .rename_i dd cd sl m;split at e
  .rename_i z bm k0 k1 k2 k3 n k5 f hs;simp only[acF,beq_iff_eq,Bool.not_eq_true']at e;let#[#[#[#[#[e1,o],g],p],a],c]:=e;subst e1 o;let#[nm,bs,s,ns,u,hd,sn,sub,ab,col,x]:=cd;dsimp only at f g a c;subst f g;let y:sl= #v[k0,k1,k2,k3,↑(.builtin "ValueError.__new__"),k5]:=by
    let#[l]:=sl;simp only at hs;rw[hs]
   subst y;let j:h.Ns ns (h.nsMap ns):=.of_isNs (W.isNs_of_in kin a);show#[bm,ns,nm,u,bs,hd,sn,sub,ab,col,dd,k0,k1,k2,k3,k5,_,kin<*m,j,?_,W.tail_of_in kin p];cases i with
   |none=>show W.nsMap_none_of_in kin a c
   |some v=>show acD kin j c
  .cases e
 .cases e
theorem aal{K:ϩ}{h:ϫ}(kin:K.In h)(e:aua K C eY "ValueError.__new__"=true):∃bm N nm q bs hdct sn sub ab col dd k0 k1 k2 k3 k5 mN,h.get? C=↑(excClassObj nm q C N bs bm hdct sn sub ab col dd k0 k1 k2 k3 k5 "ValueError.__new__")/\h.Ns N mN/\mN "__init__"=none/\OwnTail h eY bm:=Y5 kin e
section
variable{X:Cx}{Kx:St->XK}{D:Ends}{σ:St}{H:Hp}{x:Str}{np cpos pos:Pos}{e:Ϫ}{es:List Ϫ}
def dW(j:bz X Kx)(O:jF X.K X.mg x)(h:EA X (e::es) σ H λvs H1=>↥vs<=ϳ/\Kx σ (.ref (η X.mg x)) (none,true) H1)(hc:X.calm=true:=by rfl)(l:Gl X x:=by rfl)(hd:(x==("__debug__":Str))=false:=by decide)(i:acv (e::es) X.env=(false,eval e X.env)::acv es X.env:=by rfl)(f:(backTo cpos (acv es X.env)).any (·.1)=false:=by rfl):SX X (.Raise ↑(.Call (.Name x np) (e::es) [] cpos) none pos) D σ H:=by
 intro ϵ s I;let#[bm,N,nm,q,bs,hdct,sn,sub,ab,col,dd,k0,k1,k2,k3,k5,mN,m,n,g,T]:=aal I.ok.mod.kin O.ex;show wpAny_Raise_call_subT (C:=η X.mg x) (nm:=nm) (q:=q) (N:=N) (bs:=bs) (bm:=bm) (hdct:=hdct) (sn:=sn) (sub:=sub) (ab:=ab) (col:=col) (dd:=dd) (k0:=k0) (k1:=k1) (k2:=k2) (k3:=k3) (k5:=k5)
  F.excBase_ValueError (mN:=mN) (T.hasType (by fin2)) (I.ok.hd hc) ?_ g (fU I l O.at_ #[rfl,?_] hd)
 .rw[i];show(false||(backTo cpos (acv es X.env)).any (·.1))=false;rw[f];rfl
 .let h':=h cpos ϵ s I;rw[i]at h'⊢;show Calls.evalArgs_plain (ψ h' λus o ⟨vs,H1,c,r,p,u⟩=>#[rfl,by rw[<-↥r];show p,c.bk<*m,n.keeps c.bk,T.keeps c.bk,λB a M=>?_]);let#[t,v,E,G]:=M.there;show j ϵ σ H1 _ a _ (none,true) #[c.kept (t':=o.toks) M.keeps,none,.none,#[_,_,v,rfl,rfl,rfl,rfl,by simp,Ctx.yes rfl,λT z=>nomatch z],.inl rfl,λb y=>?_] u;let z:b=a:= ~~~y
  subst z;show#[c.hok.free M.new,c.ch M.new]
end
abbrev Cx.bM(X:Cx)(e:ε)(F:ε->ν->Prop)(pn:List (δ×Obj)):Cx:={X with A:=X.A.mark ↑e,calm:=false,xe:=F,pn:=pn}
section
variable{X:Cx}{ϵ pins':List (δ×Obj)}{σ:St}{H:Hp}{s:ν}{F:ε->ν->Prop}{e:ε}
theorem Cx.Ok.bM(ok:X.Ok)(pn:List (δ×Obj)):(X.bM e F pn).Ok:=
 #[ok.mod,ok.kind,ok.glob,ok.blt,ok.above,ok.inj,ok.has,ok.cab,(λz=>nomatch z),ok.frames,ok.stk,ok.exf,ok.bs,ok.bsz,ok.noex,ok.exfs,ok.funs,ok.frf]
theorem Inv.bM(I:Inv X ϵ σ H s):Inv (X.bM e F (X.pn++ϵ)) [] σ H s:=
 #[I.ok.bM _,I.os,I.bare,I.base,I.loc,I.cell,I.free,I.freeC,λp hp=>I.pin p (~~~hp),I.hok,I.len]
theorem Inv.oR(ok:X.Ok)(I:Inv (X.bM e F (X.pn++ϵ)) pins' σ H s):Inv X ϵ σ H s:=
 #[ok,I.os,I.bare,I.base,I.loc,I.cell,I.free,I.freeC,λp hp=>I.pin p (aiP _ hp),I.hok,I.len]
theorem Ch.mR(c:Ch (X.tri F (X.pn++ϵ)) pins' b):Ch X ϵ b:=#[c.1,c.2.1,c.2.2.1,λp hp=>c.2.2.2 p (aiP _ hp)]
end
def EH(X:Cx)(hs:List aoN)(D:Ends)(σ:St)(cls:ε)(d:Option δ×Bool)(H:Hp):Prop:=
 ∀(ϵ:List (δ×Obj))(s:ν)(e T:δ),Inv X ϵ σ H s->aZ s.heap e cls d ↑T .none->(∀b∈[e,T],H b=none/\Ch X ϵ b)->
  Ϧ ∅ X.A (handleBy (.ref e) X.env hs) (SP X ϵ D) X.xe s
section
variable{X:Cx}{D:Ends}{σ:St}{H:Hp}{h₀:aoN}{hs rest:List aoN}{body orelse suite:List ϧ}{b₀:ϧ}{pos np:Pos}{x n:Str}{cls c:ε}{d:Option δ×Bool}
def vR(Kx:St->XK)(c:X.stack=X.env::X.outer)(l:X.env.frame=↑X.env.locals)(a:∀F pn,bz (X.tri F pn) Kx->apU ∅ X.A X.env F->Φ (X.tri F pn) body {D with nx:=λσ' H'=>Φ X orelse D σ' H'} σ H)(m:∀σ' cls d H',Kx σ' cls d H'->EH X (h₀::hs) D σ' cls d H'):SX X (.Try body (h₀::hs) orelse [] pos) D σ H:=by
 intro ϵ s I;show wpAny_Try_except ?_;show adK (a (λe g=>Ϧ ∅ X.A (noteFrame e X.env) (λ_ j=>Ϧ ∅ X.A (setFlight e none) (λ_ n=>Ϧ ∅ X.A (handleBy e X.env (h₀::hs)) (SP X ϵ D) X.xe n) X.xe j) X.xe g)
  (X.pn++ϵ) ?_ PassesOwn.looking [] s I.tri) (λf g q=>?_) λ_ _ q=>q
 .intro pins' σ' H' s' e cls d o q;let#[p,tb,x,y,i,ch]:=o;let z:=Inv.mR I.ok p;show pJ.note (X:=X) (ϵ:=ϵ) #[z,tb,x,y,i,λb a=>#[(ch b a).1,(ch b a).2.mR]] c l λj T B C c3=>?_
  show B.off C c3 λE G L=>m σ' cls d H' q ϵ E e T G L c3
 .cases f with
  |next=>
   let#[σ',H',J,q]:=q;show q ϵ g (Inv.mR I.ok J)
  |brk=>
   let#[σ',H',J,q]:=q;show#[σ',H',Inv.mR I.ok J,q]
  |cont=>
   let#[σ',H',J,q]:=q;show#[σ',H',Inv.mR I.ok J,q]
  |ret u=>
   let#[v,σ',H',J,r,q]:=q;show#[v,σ',H',Inv.mR I.ok J,r,q]
def aZ.ty(F:aZ h e cls d tb a):atV M h (typeOf (.ref e)) cls:=by
 let#[f,vs,c,hc,_]:=F;subst hc;show(W.Looks.ld c).andThen .now
def RK(I:Inv X ϵ σ H s)(F:aZ s.heap e cls d tb a)(f:Gl X x)(g:X.mg x=↑c)(hd:(x==("__debug__":Str))=false)(ex:ape X.K cls c=↑k)(h:R (.ok (if k then .brk else .next)) s):codeAny ∅ (X.A.mark ↑(.ref e)) (.handlers (.ref e) [.ExceptHandler ↑(.Name x np) none [] pos] X.env) R s:=by
 show codeAny_handlers_test ?_;let J:Inv (X.bM (.ref e) X.xe (X.pn++ϵ)) [] σ H s:=I.bM;show fU (X:=X.bM (.ref e) X.xe (X.pn++ϵ)) J f g ((W.exm_one I.kIn F.ty ex).here h) hd
end
mutual
inductive RD (K:ϩ) (H:Hp):V->PyData->Prop
 |non:RD K H .non .none
 |bl (b:Bool):RD K H (.bl b) (.bool b)
 |int (i:Int):RD K H (.int i) (.int i)
 |str (x:Str):RD K H (.str x) (.str x)
 |lst {a:δ} {xs:List V} {ds:List PyData} (h:θ K H a xs) (r:jo K H xs ds):RD K H (.ref a) (.list ds)
 |tup {a:δ} {xs:List V} {ds:List PyData} (h:Δ K H a xs) (r:jo K H xs ds):RD K H (.ref a) (.tuple ds)
inductive jo (K:ϩ) (H:Hp):List V->List PyData->Prop
 |nil:jo K H [] []
 |cons {x:V} {d:PyData} {xs:List V} {ds:List PyData} (h:RD K H x d) (r:jo K H xs ds):jo K H (x::xs) (d::ds)
end
mutual
theorem RD.reads{X:Cx}{σ:St}{H:Hp}{s:ν}(I:Inv X ϵ σ H s):∀{v:V}{d:PyData}{u:ε},RD X.K H v d->RelV v u->∃as,Reads s.heap u d as
 |_,_,_,.non,e=>by cases(show _=Value.none from e);show#[_,.none]
 |_,_,_,.bl b,e=>by cases(show _=Value.bool b from e);show#[_,.bool b]
 |_,_,_,.int i,e=>by let#[t,rfl]:=e;show#[_,.int i t]
 |_,_,_,.str x,e=>by let#[t,rfl]:=e;show#[_,.str x t]
 |_,_,_,.lst h r,e=>by
  cases(show _=Value.ref _ from e);let#[f,a,pl,_]:=I.list h;let#[as,q]:=jo.reads I r a;let#[o,c,hc,n,hd]:=pl.isList;show#[_,.list c hc hd (~~~q)]
 |_,_,_,.tup h r,e=>by
  cases(show _=Value.ref _ from e);let#[f,a,tp,_]:=I.tuple h;let#[as,q]:=jo.reads I r a;let#[o,c,hc,n,hd]:=tp;show#[_,.tuple c hc hd (~~~q)]
theorem jo.reads{X:Cx}{σ:St}{H:Hp}{s:ν}(I:Inv X ϵ σ H s):∀{vs:List V}{ds:List PyData}{us:List ε},jo X.K H vs ds->Vals vs us->∃as,ReadsAll s.heap us ds as
 |_,_,_,.nil,.nil=>#[_,.nil]
 |_,_,_,.cons h r,.cons e t=>by
  let#[as,q]:=RD.reads I h e;let#[bs,a]:=jo.reads I r t;show#[_,.cons q a]
end
def OJ(f:X.A.units+64<cLine)(a:RD X.K H x d)(c:RD X.K H y d')(h1:d.canLay0=true)(h2:d'.canLay0=true)(hd:d.depth<=60)(q:Q (.bl (!PyData.eqv d d')) H):OP X (aeT .NotEq) x y H Q:=by
 show#[λx y H Q=>RD X.K H x d/\RD X.K H y d'/\Q (.bl (!PyData.eqv d d')) H,?_,a,c,q];intro ϵ s σ H x y v u Q I rx ry ⟨a,c,q⟩;let#[as,r1]:=RD.reads I a rx;let#[bs,e]:=RD.reads I c ry;show SeqAt.rcNeAt_reads r1 e h1 h2 (by have:=Nat.min_le_left d.depth d'.depth;omega) X.prog X.w X.xe _ #[.bl _,H,I,rfl,q]
def jW(l:List ϧ)(i:Nat):ϧ:=l.getD i (.Pass #[0,0,0,0])
def aah(s:ϧ):List ϧ:=match s with
 |.For _ _ b _ _=>b
 |_=>[]
def Jq(s:ϧ):List ϧ:=match s with
 |.If _ b _ _=>b
 |_=>[]
def aaN(s:ϧ):List ϧ:=match s with
 |.If _ _ b _=>b
 |_=>[]
def aiY{A B:Prop}(h:A):if decide (V.non=V.non)=true then A else B:=by rw[if_pos (by decide)];show h
def aki{A B:Prop}(h:B):if decide (V.int i=V.non)=true then A else B:=by rw[if_neg (by simp)];show h
def acf{A B:Prop}(h:B):if decide (V.str i=V.non)=true then A else B:=by rw[if_neg (by simp)];show h
def amz{A B:Prop}(h:B):if decide (V.ref i=V.non)=true then A else B:=by rw[if_neg (by simp)];show h
def aiz{A B:Prop}(h:B):if(!decide (V.non=V.non))=true then A else B:=by rw[if_neg (by decide)];show h
def ant(a:intText? z=↑n)(c:↥z<=640)(q:Q (.int n) H):CL X (.type "int") [.str z] H Q:=by
 show cV (r:=λxs H Q=>∃z n,xs=[.str z]/\intText? z=↑n/\↥z<=640/\Q (.int n) H) ?_ #[z,n,rfl,a,c,q];intro ϵ s σ H xs us Q I r h;let#[z,n,rfl,a,c,q]:=h;let#[u,rfl,e]:=vals1 r;let#[t,rfl]:=e;show W.KIN.call_text a c #[.int n,H,I.tok _,#[_,rfl],q]
section
variable{X:Cx}{e:Ϫ}{es:List Ϫ}{σ:St}{H:Hp}{Q:VK}{pos p:Pos}
def JD:List (Str×String):=[("len","len"),("isinstance","isinstance"),("all","all"),("any","any"),("min","min"),("max","max"),("abs","abs"),("sum","sum"),("sorted","sorted"),("ord","ord"),("divmod","divmod")]
def Bm:List (Str×String):=[("str","str"),("list","list"),("tuple","tuple"),("int","int"),("set","set"),("bool","bool"),("dict","dict")]
theorem Bg{P:Str×String->Prop}:∀{l:List (Str×String)},l.lookup x=↑i->(∀p∈l,P p)->P (x,i)
 |[],e,_=>by cases e
 |(y,k)::l,e,h=>by
  rw[ahj]at e;split at e
  .next q=>cases e;rw[beq_iff_eq.mp q];show h _ (by simp)
  .show Bg e λp hp=>h p (by simp[hp])
def amm:∀p∈JD,bootBuiltins p.1=↑(.builtin p.2)/\p.1≠"__name__"/\(p.1==("__debug__":Str))=false:=by
 simp only[JD,as7];show#[#[PySem.boot_len,by decide,by decide],#[PyProof.Rows.boot_isinstance,by decide,by decide],#[PyProof.Rows.boot_all,by decide,by decide],#[PyProof.Rows.boot_any,by decide,by decide],#[PyProof.Rows.boot_min,by decide,by decide],#[PyProof.Rows.boot_max,by decide,by decide],#[PyProof.Rows.boot_abs,by decide,by decide],#[PyProof.Rows.boot_sum,by decide,by decide],#[PyProof.Rows.boot_sorted,by decide,by decide],#[PyProof.Rows.boot_ord,by decide,by decide],#[PyProof.Rows.boot_divmod,by decide,by decide],(λ_ h=>by cases h)]
def U8:∀p∈Bm,bootBuiltins p.1=↑(.type p.2)/\p.1≠"__name__"/\(p.1==("__debug__":Str))=false:=by
 simp only[Bm,as7];show#[#[PyProof.Rows.boot_str,by decide,by decide],#[PyProof.Rows.boot_list,by decide,by decide],#[PyProof.Rows.boot_tuple,by decide,by decide],#[PyProof.Rows.boot_int,by decide,by decide],#[PyProof.Rows.boot_set,by decide,by decide],#[PyProof.Rows.boot_bool,by decide,by decide],#[PyProof.Rows.boot_dict,by decide,by decide],(λ_ h=>by cases h)]
variable{x:Str}{i:String}
def akH(g:JD.lookup x=↑i)(j:Gl X x)(l:X.mg x=none)(m:acv (e::es) X.env=(false,eval e X.env)::acv es X.env)(f:(backTo pos (acv es X.env)).any (·.1)=false)(h:EA X (e::es) σ H λvs H1=>CL X (.builtin i) vs H1 Q):EV X (.Call (.Name x p) (e::es) [] pos) σ H Q:=by
 let#[a,b,c]:=Bg g amm;show adi j l a b c m f h
def afz(g:Bm.lookup x=↑i)(j:Gl X x)(l:X.mg x=none)(m:acv (e::es) X.env=(false,eval e X.env)::acv es X.env)(f:(backTo pos (acv es X.env)).any (·.1)=false)(h:EA X (e::es) σ H λvs H1=>CL X (.type i) vs H1 Q):EV X (.Call (.Name x p) (e::es) [] pos) σ H Q:=by
 let#[a,b,c]:=Bg g U8;show adI j l a b c m f h
def ahi(e:Bm.lookup x=↑i)(f:Gl X x)(g:X.mg x=none)(q:Q (.ty i) H):EV X (.Name x pos) σ H Q:=by
 let#[a,b,c]:=Bg e U8;show alO f g a q b c
def Tz:V->Option ε
 |.non=>↑(.type "NoneType")|.bl _=>↑(.type "bool")|.int _=>↑(.type "int")|.str _=>↑(.type "str")|_=>none
def agI{K:ϩ}{t:ε}(h:Tz y=↑t):eZ K H y t:=by
 cases y<;>cases h
 .show .non
 .show .bl _
 .show .int _
 .show .str _
theorem ZZ{t:ε}{T:String}{k:Bool}(q:Q (.bl k) H)(h:Tz y=↑t:=by rfl)(e:ap9 X.K t (.type T)=↑k:=by rfl):CL X (.builtin "isinstance") [y,.ty T] H Q:=ab3 (agI h) e q
def Sq(X:Cx)(x:Str)(σ:St):Option V:=match X.env.scope.names.lookup x with
 |some .local=>if(x==("__debug__":Str))||(x==("__classdict__":Str))then none else gH X.N σ x
 |some .cell=>if(x==("__debug__":Str))||(x==("__classdict__":Str))then none else gH X.N σ x
 |some .free=>if(x==("__debug__":Str))||(x==("__classdict__":Str))then none else gH X.N σ x
 |_=>none
def anG(h:Sq X x σ=↑v)(q:Q v H):EV X (.Name x pos) σ H Q:=by
 let a:sS X.env.scope x->(if(x==("__debug__":Str))||(x==("__classdict__":Str))then none else gH X.N σ x)=↑v->EV X (.Name x pos) σ H Q:=λe h=>by
  split at h
  .cases h
  .next c=>
   rw[aqg,not_or,atx,atx]at c;show ajq h e q c.1 c.2
 unfold Sq at h;split at h
 .show a (.inl ‹_›) h
 .show a (.inr (.inl ‹_›)) h
 .show a (.inr (.inr ‹_›)) h
 .cases h
end
section
variable{X:Cx}{ϵ:List (δ×Obj)}{σ:St}{H:Hp}{s:ν}
def Inv.M5{ch:List δ}{T:δ}{us:List ε}{h':ϫ}{tk:Nat}(I:Inv X ϵ σ H s)(g:∀b∈ch,cj X ϵ H b)(l:⇑s<=T)(k:∀b o,b∉ch->s.heap.get? b=↑o->h'.get? b=↑o)(m:↥xs<=ϳ)(p:Vals xs us)(tp:IsTup h' T us.toArray):Inv X ϵ σ (upd H T (.tup xs)) {s with heap:=h',toks:=tk}:=by
 let f:=I.hok.fresh l;let neT:∀b o,s.heap.get? b=↑o->b≠T:=λb o e z=>alQ _ (adk (adw e) (z▸l))
 let i:∀b u,H b=↑u->b∉ch:=λb u e z=>by rw[(g b z).1]at e;cases e
 show I.call (g':=s.gens) (d':=s.drawn) (t':=tk) (ch:=ch) (h':=h') #[λb o e _ _ j=>k b o j e,λb o e _ _ j=>#[o.slots,k b o j e],λb o e n _=>?_,λb o e j=>#[o,k b o j e],λb ys e=>?_,λb o u e=>?_,λb ps e=>#[#v[],?_]] ?_ I.bare
  λb a=>#[(g b a).2.2.2.1,(g b a).2.1,(g b a).2.2.2.2.1,(g b a).2.2.2.2.2]
 .rw[ξ (neT b o e)];show n
 .rw[ξ (ϔ e f)];show e
 .rw[ξ (ϔ e f)];show e
 .rw[ξ (ϔ e f),e];simp
 .intro b u e;by_cases a:b=T
  .subst a;rw[υ]at e;cases e;show#[m,us,p,tp]
  .rw[ξ a]at e;show(I.hok b u e).stay (λc v hc q=>k c v ?_ q) (λc q=>by rw[ξ (ϔ q f)];show q) (λc ys q=>by rw[ξ (ϔ q f)];show q) λc x v q=>by rw[ξ (ϔ q f)];show q
   obtain z|z:=hc
   .subst z;show i c u e
   .show i c _ z
end
def IV(K:ϩ)(l:δ):It:=
 #[λi H=>∃xs x,θ K H l xs/\xs[i]?=↑x,λi H v H'=>∃T x,v=.ref T/\H T=none/\H'=upd H T (.tup [.int i,x])/\∀xs,θ K H l xs->xs[i]?=↑x,λi H=>∃xs,θ K H l xs/\↥xs<=i]
theorem ak6{P:ϲ}{w:Ϯ}{K:PySem.W.Frag}{elts:List Ϫ}{k:Nat}{pos:Pos}(l e it:δ)(G:e≠it)(J:l≠e)(L:l≠it):Turn P w K (.Tuple elts k pos) (IV K l) [e,it] e (λi h=>(∃a,IsEnum h e it i a)/\h.IsListIter it l i)where
 mem:=by simp
 obj:=λi h st b f=>by
  let#[#[a,c],o,g,_,hd]:=st;obtain z|z:=aaT.mp f
  .subst z;show#[_,c,λv z=>by cases z]
  .let z':b=it:= ~~~z
   subst z';show#[o,g,λv z=>by rw[hd]at z;cases z]
 keep:=λi h h' st kk=>by
  let#[#[a,c],o,g,r]:=st;show#[#[a,kk e (by simp) _ c],o,kk it (by simp) _ g,r]
 item:=by
  intro X M O R hc i ϵ s σ H E I C st S;subst M O R;let#[#[a,c],j]:=st;let#[xs,x,D,m]:=S;let#[n,F,pl,hz]:=I.list D;let W:=WalksT.enumerate (prog:=X.prog) (w:=X.w) (A:=X.A) (I.ok.hd hc) e it l G J L n.toArray;let hi:i<n.toArray.size:=by
   rw[ace, <-↥F];show(aas.mp m).1
  let#[u,hu,ru]:=F.get m;show W.item i s _ _ hi #[#[a,c],j,pl.isList] λT vals h1 tk hp U tup p keep=>#[.ref T,rfl,?_]
  let#[t,y,ey,rfl]:=hp;let Y:y=u:=by
   have:n[i]?=↑y:= ~~~ey
   rw[hu]at this;show(Option.some.inj this).symm
  subst Y;show W.go elts k pos i T {s with heap:=h1,toks:=tk} _ _ p λh2 Z pF=>?_
  let#[#[aa,ab],B,_]:=Z;let Lb:IsTup h2 T [Value.int i t,y].toArray:=by
   let#[o,g,r]:=tup;show#[o,pF T o (W.apart i T h1 p) g,r]
  show#[.ref T,upd H T (.tup [.int i,x]),I.M5 (ch:=[e,it]) (tk:=tk) C U (λb o f q=>pF b o f (keep b o f q)) Ξ (.cons #[t,rfl] (.cons ru .nil)) Lb,rfl,?_,?_,λb f=>?_]
  .show#[T,x,rfl,I.hok.fresh U,rfl,λys hy=>?_];rw[<-I.list_inj D hy];show m
  .show#[#[aa,~~~ab],B]
  .have :b≠T:=λz=>by
    obtain⟨o,g,_⟩:∃o,s.heap.get? b=↑o/\True:=by
     obtain z|z:=aaT.mp f
     .subst z;show#[_,c,trivial]
     .let z':b=it:= ~~~z
      subst z';let#[o,g,_]:=j;show#[o,g,trivial]
    show alQ _ (adk (adw g) (z▸U))
   rw[ξ this];show(C b f).1
 done:=by
  intro X M O R hc i ϵ s σ H E I C st S;subst M O R;let#[#[a,c],j]:=st;let#[xs,D,m]:=S;let#[n,F,pl,hz]:=I.list D;let hn:n.toArray[i]?=none:=aoR (by rw[ace, <-↥F];show m);show wpAny_pyNext_enum_end (I.ok.hd hc) c j pl.isList hn λh' hk=>#[rfl,?_]
  let#[f0,f1,f2,f3,f4,f5]:=C it (by simp);show I.turned (t':=s.toks) (it:=it) (λb o f q=>hk b o f q) f0 f1 f3 f4 f5
 self:=λA i s Q E st h=>by
  let#[#[a,c],_]:=st;show wpAny_pyIter_enum c h
def ag8(x:Gl X "enumerate")(y:X.mg "enumerate"=none)(hs:acv [a] X.env=[(false,eval a X.env)])(h:EV X a σ H λv H1=>∃l xs,v=.ref l/\H1 l=↑(.lst xs)/\R (IV X.K l) H1):EI X (.Tuple elts k tp) (.Call (.Name "enumerate" p) [a] [] pos) σ H R:=by
 intro ϵ s I;show Call_ (j5 I x y boot_enumerate (PyProof.Rows.callWith_type1 (ψ (jn (es:=[]) (QA:=λvs H1=>∃l xs,vs=[.ref l]/\H1 l=↑(.lst xs)/\R (IV X.K l) H1) hs (bC h λv H1 z=>by let#[l,xs,e,B,C]:=z;show fW #[l,xs,by rw[e],B,C]) pos ϵ s I) λus c D=>?_) hs rfl));let#[vs,H1,f,r1,l,xs,e,E,q]:=D;subst e;let#[u,rfl,F]:=vals1 r1;cases(show u=Value.ref l from F);let#[L,M,n,O,m]:=f.hok l _ E;show call_enumerate_1 m λh' o i hsz G=>?_
 show wpAny_pyIter_enum o ?_;let g:l<⇑c:=adw m;show#[⇑c+1,[⇑c+1,⇑c],_,_,H1,rfl,f.kept (t':=c.toks) G,ak6 l _ _ (Nat.succ_ne_self _) (adn (apc g)) (adn g),#[#[_,o],i],λb J=>?_,q];let j:b=⇑c+1\/b=⇑c:= ~~~J
 obtain z|z:=j<;>subst z
 .show f.fpOk (aoW _) (f.hok.fresh (aoW _))
 .show f.fpOk (Ϭ _) (f.hok.fresh (Ϭ _))
section
variable{X:Cx}{ϵ:List (δ×Obj)}{σ:St}{H:Hp}{s:ν}
def Inv.alq{ch:List δ}{tk:Nat}(I:Inv X ϵ σ H s)(a:∀b∈ch,cj X ϵ H b)(k:∀b o,b∉ch->s.heap.get? b=↑o->h'.get? b=↑o):Inv X ϵ σ H {s with heap:=h',toks:=tk}:=by
 let f:∀b u,H b=↑u->b∉ch:=λb u e z=>by rw[(a b z).1]at e;cases e
 show I.call (g':=s.gens) (d':=s.drawn) (t':=tk) (ch:=ch) (h':=h') #[λb o e _ _ g=>k b o g e,λb o e _ _ g=>#[o.slots,k b o g e],λb o e n _=>n,λb o e g=>#[o,k b o g e],λb ys e=>e,λb o u e=>e,λb ps e=>#[#v[],?_]] ?_ I.bare
  λb i=>#[(a b i).2.2.2.1,(a b i).2.1,(a b i).2.2.2.2.1,(a b i).2.2.2.2.2]
 .rw[e];simp
 .intro b u e;show(I.hok b u e).stay (λc v hc q=>k c v ?_ q) (λc q=>q) λc ys q=>q
  obtain z|z:=hc
  .subst z;show f c u e
  .show f c _ z
end
def Ln(K:ϩ)(l m:δ):It:=
 #[λi H=>∃xs ys x y,θ K H l xs/\θ K H m ys/\xs[i]?=↑x/\ys[i]?=↑y,
  λi H v H'=>∃T x y,v=.ref T/\H T=none/\H'=upd H T (.tup [x,y])/\(∀xs,θ K H l xs->xs[i]?=↑x)/\∀ys,θ K H m ys->ys[i]?=↑y,
  λi H=>∃xs ys,θ K H l xs/\θ K H m ys/\min ↥xs ↥ys<=i]
theorem af2{P:ϲ}{w:Ϯ}{K:PySem.W.Frag}{elts:List Ϫ}{k:Nat}{pos:Pos}(z TI TO j n l m:δ)(D:ZipApart z TI TO j n l m):Turn P w K (.Tuple elts k pos) (Ln K l m) [z,TI,TO,j,n] z (λi h=>IsZip h z TI TO .none/\IsPair h TI (.ref j) (.ref n)/\(∃a b,IsPair h TO a b)/\h.IsListIter j l i/\h.IsListIter n m i)where
 mem:=by simp
 obj:=λi h st b g=>by
  let#[C,f,#[a,Z,c],#[o1,h1,_,d1],#[o2,h2,_,d2]]:=st;simp only[aaT,afF,or_false]at g;obtain e|e|e|e|e:=g<;>subst e
  .show#[_,C,λv z=>by cases z]
  .show#[_,f,λv z=>by cases z]
  .show#[_,c,λv z=>by cases z]
  .show#[_,h1,λv z=>by rw[d1]at z;cases z]
  .show#[_,h2,λv z=>by rw[d2]at z;cases z]
 keep:=λi h h' st kk=>by
  let#[C,f,#[a,Z,c],#[o1,h1,r1],#[o2,h2,r2]]:=st;show#[kk z (by simp) _ C,kk TI (by simp) _ f,#[a,Z,kk TO (by simp) _ c],#[o1,kk j (by simp) _ h1,r1],#[o2,kk n (by simp) _ h2,r2]]
 item:=by
  intro X hP hw hK hc i ϵ s σ H E I R st hg;subst hP hw hK;let#[C,f,c,h1,h2]:=st;let#[xs,ys,x,y,S,p,U,hy]:=hg;let#[F,Y,pl,hsz]:=I.list S;let#[its',B,Jb,G]:=I.list p;let W:=WalksT.zip2 (prog:=X.prog) (w:=X.w) (A:=X.A) (I.ok.hd hc) z TI TO j n l m D F.toArray its'.toArray;let hi:i<min F.toArray.size its'.toArray.size:=by
   rw[ace, <-↥Y,ace, <-↥B];show Nat.lt_min.mpr #[(aas.mp U).1,(aas.mp hy).1]
  let#[u,hu,ru]:=Y.get U;let#[u',aa,JN]:=B.get hy;show W.item i s _ _ hi #[C,f,c,h1,h2,pl.isList,Jb.isList] λT vals hh tk hp hT tup J keep=>#[.ref T,rfl,?_]
  let#[v,v',ev,ab,rfl]:=hp;let e1:v=u:=by
   have:F[i]?=↑v:= ~~~ev
   rw[hu]at this;show(Option.some.inj this).symm
  let e2:v'=u':=by
   have:its'[i]?=↑v':= ~~~ab
   rw[aa]at this;show(Option.some.inj this).symm
  subst e1 e2;show W.go elts k pos i T {s with heap:=hh,toks:=tk} _ _ J λh3 ac pF=>?_
  let#[gz,ae,af,g1,g2,_]:=ac;let L:∀b,b∉[z,TI,TO,j,n]->b∉[z,TO,j,n]:=λb g M=>g (by simp at M⊢;obtain e|e|e|e:=M<;>simp[e])
  let Lb:IsTup h3 T [v,v'].toArray:=by
   let#[o,ho,r]:=tup;show#[o,pF T o (W.apart i T hh J) ho,r]
  show#[.ref T,upd H T (.tup [x,y]),I.M5 (ch:=[z,TI,TO,j,n]) (tk:=tk) R hT (λb o g q=>pF b o (L b g) (keep b o (L b g) q)) Ξ (.cons ru (.cons JN .nil)) Lb,rfl,?_,#[gz,ae,af,g1,g2],λb g=>?_]
  .show#[T,x,y,rfl,I.hok.fresh hT,rfl,λa ha=>?_,λa ha=>?_]
   .rw[<-I.list_inj S ha];show U
   .rw[<-I.list_inj p ha];show hy
  .have :b≠T:=λq=>by
    obtain⟨o,ho⟩:∃o,s.heap.get? b=↑o:=by
     let#[a,Z,c]:=c;let#[o1,h1,_]:=h1;let#[o2,h2,_]:=h2;simp only[aaT,afF,or_false]at g;obtain e|e|e|e|e:=g<;>subst e
     .show#[_,C]
     .show#[_,f]
     .show#[_,c]
     .show#[_,h1]
     .show#[_,h2]
    show alQ _ (adk (adw ho) (q▸hT))
   rw[ξ this];show(R b g).1
 done:=by
  intro X hP hw hK hc i ϵ s σ H E I R st hg;subst hP hw hK;let#[C,f,#[a,b,c],h1,h2]:=st;let#[xs,ys,S,p,U]:=hg;let#[F,Y,pl,hsz]:=I.list S;let#[its',B,Jb,G]:=I.list p;let O:F.toArray[i]?=none\/its'.toArray[i]?=none:=by
   by_cases q:↥xs<=i
   .show .inl (aoR (by rw[ace, <-↥Y];show q))
   .show .inr (aoR (by rw[ace, <-↥B];omega))
  show wpAny_pyNext_zip_end (I.ok.hd hc) D C f c h1 h2 pl.isList Jb.isList O λh' hk=>#[rfl,?_]
  show I.alq (tk:=s.toks) R λb o g q=>hk b o (λe=>g (by simp[e])) (λe=>g (by simp[e])) (λe=>g (by simp[e])) (λe=>g (by simp[e])) q
 self:=λA i s Q E st h=>wpAny_pyIter_zip st.1 h
def af1(n l m:Nat)(h1:l<n)(h2:m<n):ZipApart (n+4) (n+2) (n+3) n (n+1) l m:=by
 constructor<;>(intro e;let a:(_:Nat)=_:=e;omega)
def adx(B:Gl X "zip")(C:X.mg "zip"=none)(hs:acv [a,b] X.env=[(false,eval a X.env),(false,eval b X.env)])(c:acv [b] X.env=[(false,eval b X.env)])(h:EV X a σ H λv H1=>EV X b σ H1 λx H2=>∃l m xs ys,v=.ref l/\x=.ref m/\H2 l=↑(.lst xs)/\H2 m=↑(.lst ys)/\R (Ln X.K l m) H2):EI X (.Tuple elts k tp) (.Call (.Name "zip" p) [a,b] [] pos) σ H R:=by
 intro ϵ s I;show Call_ (j5 I B C boot_zip (PyProof.Rows.callWith_type1 (ψ (jn (es:=[b]) (QA:=λvs H1=>∃l m xs ys,vs=[.ref l,.ref m]/\H1 l=↑(.lst xs)/\H1 m=↑(.lst ys)/\R (Ln X.K l m) H1) (by rw[hs,c]) (bC h λv H1 q=>jn (es:=[]) c (bC q λx H2 z=>by let#[l,m,xs,ys,e,D,E,F,G]:=z;show fW #[l,m,xs,ys,by rw[e,D],E,F,G])) pos ϵ s I) λus f J=>?_) (by rw[hs,c]) (by rw[c];rfl)));let#[vs,H1,g,r1,l,m,xs,ys,e,L,o,q]:=J;subst e;let#[u,M,rfl,O,P]:=vals2 r1;cases(show u=Value.ref l from O);cases(show M=Value.ref m from P);let#[hz,Q,n,rv,y]:=g.hok l _ L;let#[S,its',n',T,i]:=g.hok m _ o;show call_zip_2 (xs:=Q.toArray) (ys:=its'.toArray) #[_,y,rfl,_,rfl] #[_,i,rfl,_,rfl] λh' h1 h2 U W Y hsz Z=>?_
 show wpAny_pyIter_zip h1 ?_*>#[⇑f+4,[⇑f+4,⇑f+2,⇑f+3,⇑f,⇑f+1],_,_,H1,rfl,g.kept (t':=f.toks) Z,af2 _ _ _ _ _ l m (af1 _ _ _ (adw y) (adw i)),#[h1,h2,#[_,_,U],W,Y],λb z=>?_,q];let j:⇑f<=b:=by
  simp only[aaT,afF,or_false]at z;obtain e|e|e|e|e:=z<;>subst e
  .show aoB _ _
  .show aoB _ _
  .show aoB _ _
  .show Ϭ _
  .show aoB _ _
 show g.fpOk j (g.hok.fresh j)
section
variable{X:Cx}{a e:Ϫ}{σ:St}{H:Hp}{Q:VK}{D:Ends}{pos p p':Pos}
def R6{Q:Hp->Prop}(n:Nat)(hn:n<=ϳ)(B:St->Prop)(Z:B z)(f:Nat->V->Hp->Prop)(W:H E=none)(mono:∀i v H1 H2 ys,H1 E=↑(.lst ys)->(∀b o,b≠E->H1 b=↑o->H2 b=↑o)->f i v H1->f i v H2)(go:∀i H1,ζ H H1->i<n->J.go i H1)(stop:∀H1,ζ H H1->J.stop n H1)(step:∀i l x H1 H2,i<n->B l->ζ H H1->(∃ys,H1 E=↑(.lst ys)/\↥ys=i/\∀k v,ys[k]?=↑v->f k v H1)->J.yld i H1 x H2->EG Y tg x l H2 λg O=>EV Y elt g O λv p=>B g/\f i v p/\ζ H1 p)(P:∀H1 xs,↥xs=n->(∀i v,xs[i]?=↑v->f i v H1)->H1 E=↑(.lst xs)->ζ H H1->Q H1):jC X Y tg elt [] J E z H Q:=by
 show#[λi m l H1=>m=n-i/\i<=n/\ζ H H1/\B l/\∃xs,H1 E=↑(.lst xs)/\↥xs=i/\∀k v,xs[k]?=↑v->f k v H1,#[n,by simp,aim _,ζ.upd W,Z,[],υ,rfl,λk v e=>by simp at e],?_]
 rintro i m l H1 ⟨rfl,hi,C,R,xs,D,G,S⟩
 by_cases j:i<n
 .show .inr #[go i H1 C j,λF H'=>ζ H H'/\B F/\∃xs,H' E=↑(.lst xs)/\↥xs=i+1/\∀k v,xs[k]?=↑v->f k v H',λF H' z=>by let#[a,b,c]:=z;show #[n-(i+1),(),rfl,j,a,b,c],λx H2 y=>?_];intro ϵ s u I r;show ψ (step i l x H1 H2 j R C #[xs,D,G,S] y ϵ s u I r) λ_ s' ⟨g,O,I3,q3⟩=>#[g,O,I3,abd ?_]
  rw[if_pos rfl];show bC q3 λv p ⟨t2,pv,L⟩=>#[xs,L<*D,(),?_]
  let mm:∀k M,f k M p->f k M (upd p E (.lst (xs++[v]))):=λk M q=>mono k M p _ xs (L<*D) (λb o T e=>by rw[ξ T];show e) q
  show#[λb o e=>?_,t2,xs++[v],υ,by simp[G],λk u e=>?_]
  .rw[ξ (ϔ e W)];show L<*(C<*e)
  .by_cases hk:k<↥xs
   .rw[aiZ hk]at e;show mono k u H1 _ xs D (λb o T e=>?_) (S k u e);rw[ξ T];show L<*e
   .let U:k=i:=by
     have:=(aas.mp e).1;rw[adz,afZ]at this;omega
    subst U;rw[<-G,aoX]at e;cases e;show mm<*pv
 .let e:i=n:=()
  subst e;show .inl #[stop H1 C,P H1 xs G S D C]
variable{tg elt iter:Ϫ}{scope:ajd}{σ':St}
def Br(X:Cx)(N':List Str)(scope:ajd)(tg elt:Ϫ)(σ':St)(H1:Hp)(Q:VK)(n:Nat)(G:Nat->Hp->V->Hp->Prop):Prop:=
 ∃(f:St->Prop)(e:δ->Nat->V->Hp->Prop),f σ'/\
  (∀E i v H2 a ys,H2 E=↑(.lst ys)->(∀b o,b≠E->H2 b=↑o->a b=↑o)->e E i v H2->e E i v a)/\
  (∀(fp:List δ)(E C:δ)(g:ν)(j:Hp)(i:Nat)(l:St)(x:V)(H2 a:Hp),H1 E=none->i<n->f l->ζ H1 H2->(∃ys,H2 E=↑(.lst ys))->G i H2 x a->
   EG (cT X N' scope (Ϙ scope X.env) C g j fp) tg x l a λc p=>EV (cT X N' scope (Ϙ scope X.env) C g j fp) elt c p λv m=>f c/\e E i v m/\ζ H2 m)/\
  ∀(E:δ)(H2:Hp)(xs:List V),H1 E=none->↥xs=n->(∀i v,xs[i]?=↑v->e E i v H2)->H2 E=↑(.lst xs)->ζ H1 H2->Q (.ref E) H2
def Ga(g:n<=ϳ)(go:∀i H2,ζ H H2->i<n->J.go i H2)(stop:∀H2,ζ H H2->J.stop n H2)(j:∀i H2 x f,i<n->ζ H H2->J.yld i H2 x f->G i H2 x f)(h:Br X N' scope tg elt σ' H Q n G):∀(fp:List δ)(D C:δ)(a:ν),H D=none->jC X (cT X N' scope (Ϙ scope X.env) C a (upd H D (.lst [])) fp) tg elt [] J D σ' H (λH'=>Q (.ref D) H'):=by
 intro fp E C a c;let#[m,o,t0,mono,step,e]:=h;show R6 n g m t0 (o E) c (λi v H1 H2 ys=>mono E i v H1 H2 ys) go stop (λi p x H1 H2 hi q hs u y=>step fp E C a _ i p x H1 H2 c hi q hs (u.imp λ_ z=>z.1) (j i H1 x H2 hi hs y)) λH1 xs l B F s=>e E H1 xs c l B F s
def jw(N':List Str)(S:dq X.env scope)(h:EV X e σ H λv H1=>∃l xs,v=.ref l/\θ X.K H1 l xs/\↥xs<=ϳ/\Br X N' scope tg elt σ' H1 Q ↥xs λi H2 x f=>xs[i]?=↑x/\H2=f)(c:dD N' X.N σ scope=σ':=by rfl)(hc:X.calm=true:=by rfl)(hs:∀x,foldedSetIterable e X.env x=pure x:=by intro _;rfl):EV X (.ListComp elt [#[tg,e,[],0]] scope pos) σ H Q:=by
 show yW (N':=N') hc S hs (rm (bC h λv H1 q=>?_));let#[l,xs,rfl,a,g,j]:=q;show#[l,rfl,#[xs,a],?_];rw[c];show Ga g (λi H2 s hi=>#[xs,xs[i],ζ.seq s a,aad hi]) (λH2 s=>#[xs,ζ.seq s a,Ϭ _]) (λi H2 x f hi s y=>#[y.2 xs (ζ.seq s a),y.1.symm]) j
def S7(N':List Str)(S:dq X.env scope)(D:X.mg "zip"=none)(h:EV X a σ H λv H1=>EV X b σ H1 λo H2=>∃l m xs ys,v=.ref l/\o=.ref m/\H2 l=↑(.lst xs)/\H2 m=↑(.lst ys)/\min ↥xs ↥ys<=ϳ/\
   Br X N' scope (.Tuple elts k tp) elt σ' H2 Q (min ↥xs ↥ys) λi c x B=>∃T y z,x=.ref T/\c T=none/\B=upd c T (.tup [y,z])/\xs[i]?=↑y/\ys[i]?=↑z)(f:dD N' X.N σ scope=σ':=by rfl)(hc:X.calm=true:=by rfl)(E:Gl X "zip":=by rfl)(hs:acv [a,b] X.env=[(false,eval a X.env),(false,eval b X.env)]:=by rfl)(g:acv [b] X.env=[(false,eval b X.env)]:=by rfl):EV X (.ListComp elt [#[.Tuple elts k tp,.Call (.Name "zip" p) [a,b] [] p',[],0]] scope pos) σ H Q:=by
 show yW (N':=N') hc S (by intro _;rfl) (adx E D hs g (bC h λv H1 q=>bC q λo H2 q=>?_));let#[l,m,xs,ys,e1,F,C,e,h2,G]:=q;show#[l,m,xs,ys,e1,F,C,e,?_];rw[f];let j:θ X.K H2 l xs:=.inl (.inl C);let n:θ X.K H2 m ys:=.inl (.inl e);show Ga h2 (λi c s hi=>#[xs,ys,xs[i]'(),ys[i]'(),ζ.seq s j,ζ.seq s n,aad _,aad _]) (λc s=>#[xs,ys,ζ.seq s j,ζ.seq s n,Ϭ _]) (λi c x B hi s y=>?_) G;let#[T,u,I,J,L,M,O,P]:=y;show#[T,u,I,J,L,M,O xs (ζ.seq s j),P ys (ζ.seq s n)]
def afY(hp:apU ∅ X.A X.env X.xe)(hc:X.calm=true)(o:Gl X "enumerate")(s:X.mg "enumerate"=none)(hs:acv [a] X.env=[(false,eval a X.env)])(h:EV X a σ H λv H1=>∃l xs,v=.ref l/\H1 l=↑(.lst xs)/\∃c:Nat->St->Hp->Prop,c 0 σ H1/\(∀i σ' H',i<=↥xs->c i σ' H'->θ X.K H' l xs)/\
   (∀i x T σ' H',xs[i]?=↑x->c i σ' H'->H' T=none->EG X (.Tuple elts k tp) (.ref T) σ' (upd H' T (.tup [.int i,x])) λf H2=>Φ X body {D with nx:=c (i+1),ct:=c (i+1),bk:=D.nx} f H2)/\∀σ' H',c ↥xs σ' H'->D.nx σ' H'):SX X (.For (.Tuple elts k tp) (.Call (.Name "enumerate" p) [a] [] p') body [] pos) D σ H:=by
 show rY hp hc (by intro _;rfl) (ag8 o s hs (bC h λv H1 q=>?_));let#[l,xs,rfl,z,c,B,C,j,hd]:=q;show#[l,xs,rfl,z,λi m σ H=>m=↥xs-i/\i<=↥xs/\c i σ H,#[↥xs,by simp,aim _,B],?_]
 rintro i m σ' H' ⟨rfl,hi,p⟩
 let n:=C i σ' H' hi p;by_cases g:i<↥xs
 .show .inr #[#[xs,xs[i],n,aad g],c (i+1),λf H2 p2=>#[↥xs-(i+1),(),rfl,g,p2],λx H2 y=>?_];let#[T,u,e1,E,F,G]:=y;subst e1 F;show j i u T σ' H' (G xs n) p E
 .let e:i=↥xs:=()
  subst e;show .inl #[#[xs,n,Ϭ _],hd σ' H' p]
end
section
variable{Kt:Type} [DecidableEq Kt] [BEq Kt] [LawfulBEq Kt]
def eU(ks:List Kt):List Kt:=ks.foldl (λa k=>if k∈a then a else a++[k]) []
def uI(ks:List Kt)(k:Kt):eU (ks++[k])=if k∈eU ks then eU ks else eU ks++[k]:=by
 unfold eU;rw[aqT];rfl
theorem yf:∀n (ks:List Kt),↥ks=n->↥(eU ks)<=↥ks
 |0,ks,h=>by rw[aqj.mp h];show Ϭ _
 |n+1,ks,h=>by
  obtain⟨l,k,rfl⟩:∃l k,ks=l++[k]:=#[_,_,(aoS (amV h)).symm];let a:↥l=n:= ~~~h
  let c:=yf n l a;rw[uI];split <;>simp <;>omega
theorem RP:∀n (ks:List Kt),↥ks=n->∀k,k∈eU ks↔k∈ks
 |0,ks,h=>by rw[aqj.mp h];intro k;show Iff.rfl
 |n+1,ks,h=>by
  obtain⟨l,x,rfl⟩:∃l k,ks=l++[k]:=#[_,_,(aoS (amV h)).symm];let c:↥l=n:= ~~~h
  let a:=RP n l c;intro k;rw[uI,agq,ab7];split
  .rename_i f;rw[a];constructor
   .show .inl
   .rintro(e|e)
    .show e
    .rw[e];show(a x).mp f
  .rw[agq,ab7,a]
theorem Jv:∀n (ks:List Kt),↥ks=n->(↥(eU ks)=↥ks↔ks.Nodup)
 |0,ks,h=>by rw[aqj.mp h];simp[eU]
 |n+1,ks,h=>by
  obtain⟨l,x,rfl⟩:∃l k,ks=l++[k]:=#[_,_,(aoS (amV h)).symm];let c:↥l=n:= ~~~h
  let g:=Jv n l c;let le:=yf n l c;let i:=RP n l c x;rw[uI,asy];split
  .rename_i f;constructor
   .intro e;simp at e;omega
   .intro e;show absurd rfl (e.2.2 x (i.mp f) x (by simp))
  .rename_i f;rw[adz,adz,afZ];constructor
   .intro e;show#[g.mp (),by simp,λa j b m=>?_];rw[ab7.mp m];intro o;show f (i.mpr (o▸j))
   .intro e;rw[g.mpr e.1]
end
def strAt(us:Array ε)(zs:List Str):=∀(i:Nat)(v:ε),us[i]?=↑v->∃t z,v=.str z t/\zs[i]?=↑z
def jQ(prog:ϲ)(w:Ϯ)(h:ϫ)(S:δ)(zs:List Str):Prop:=h.SetOf (strKind prog w) S (λk=>decide (k∈eU zs)) ↥(eU zs)
def jQ.stay(x:jQ prog w h S zs)(k:∀o,h.get? S=↑o->h'.get? S=↑o):jQ prog w h' S zs:=by
 let#[o,es,ep,t,a,rest]:=x;show#[o,es,ep,t,k _ a,rest]
def acZ{R:Result->ν->Prop}{G:Array GenState->Array GenState->Prop}{St:Nat->ν->Prop}(W:WalksS prog w A.in1 it fp wr G us.size (λi v=>us[i]?=↑v) St)(S:δ)(D:S∉fp)(I:strAt us zs)(J:us.size=↥zs)(a:us.size+1<scanBound)(d:Nat):∀(i:Nat)(s:ν),d+i=us.size->St i s->jQ prog w s.heap S (zs.take i)->
   (∀s',Moved (S::wr) G s s'->jQ prog w s'.heap S zs->R (.ok (.ret .none)) s')->codeAny (Ϩ prog w) A (.builtin "set.update.loop" #[[.ref S,.ref it],[]]) R s:=by
 let c:S∉wr:=λh=>D (W.sub _ h)
 let up:∀b∈wr,b∈S::wr:=λb a=>acw _ a
 induction d with
 |zero=>
  intro i s hi st j n;let e:i=us.size:=()
  subst e;show amQ F.entry_set_update_loop ?_;rw[Around.under_plainId F.plain_set_update_loop _];show π (m:=pyNext (.ref it)) (W.done s _ _ st λs' f=>?_)*>ϱ (n s' (f.mono up) ?_);rw[J,ai0]at j;show j.stay λo p=>f.heap S o c p
 |succ d L=>
  intro i s hi st j n;show amQ F.entry_set_update_loop ?_;rw[Around.under_plainId F.plain_set_update_loop _];show π (m:=pyNext (.ref it)) (W.item i s _ _ () st λv s' M q f=>?_);let#[t,z,rfl,O]:=I i v M;let u:=j.stay (h':=s'.heap) λo p=>f.heap S o c p
  show Ϧ _ A.in1 (holding [Value.str z t] (setAdd S (.str z t))>>=_) _ _ s'*>π (aed ?_);unfold setAdd;show aed (π ((strKind prog w).pyHash (k:=z) (strKind_is _ _ _ _) ?_));let E:zs.take (i+1)=zs.take i++[z]:=by rw[asz,O];rfl
  let g:↥(eU (zs.take i))+1<scanBound:=by
   have:=yf _ (zs.take i) rfl;have:↥(zs.take i)<=↥zs:=by simp;omega
   omega
  show wpAny_setAddHashed_of (knd:=strKind prog w) (s:={s' with toks:=s'.toks+1}) (strKind_is _ _ _ _) rfl u g λh' H x=>?_
  let y:jQ prog w h' S (zs.take (i+1)):=by
   show SetOf_congr x (λk=>?_) ?_
   .rw[E,uI];split
    .rename_i l;by_cases e:k=z
     .subst e;simp[l]
     .simp[e]
    .by_cases e:k=z
     .subst e;simp
     .simp[e]
   .rw[E,uI];by_cases l:z∈eU (zs.take i)
    .simp[l]
    .simp[l]
  show ϱ #[plainId_quiet F.plain_set_update_loop _,L (i+1) _ () (W.frame _ s' _ _ q (aoW _) λb a o e=>?_) y λP B C=>?_]
  .rw[H.2 b (λh:b=S=>D (h▸a))];show e
  .show n P (Moved.trans W.gtrans ((f.mono up).then_heap (aoW _) λb o a e=>?_) B) C;rw[H.2 b (λh:b=S=>a (h▸adS))];show e
abbrev newSet(h:ϫ)(led:Bool):ϫ:=h.push {cls:=.type "set",dict:=none,data:=.set #v[] 0 (.fresh 0 0 led)}
set_option maxRecDepth 100000 in
def alD(x:A.handled=none)(v:s.heap.IsList l us)(f:∃a,s.heap.get? S=some {cls:=.type "set",dict:=none,data:=.set #v[] 0 (.fresh 0 0 a)})(y:strAt us zs)(z:us.size=↥zs)(j:us.size+1<scanBound)(h:∀(h':ϫ)(tk:Nat),jQ prog w h' S zs->(∀b o,b≠S->s.heap.get? b=↑o->h'.get? b=↑o)->Q .none {s with heap:=h',toks:=tk}):codeAny (Ϩ prog w) A (.call (.builtin "set.__init__") #[[.ref S,.ref l],[]]) (wants Q E) s:=by
 let#[a,f]:=f;let B:s.TypeIs (.ref S) "set":=#[_,f,rfl];show ao4 F.called_set.init.plain F.entry_set_init (check_set_init_1 B ?_);let g:=v;let#[#[oc,od,m,os],c,hc,M,hd]:=v;simp only at hc hd;subst hc hd;let O:=F.sub_list_set;let P:=F.sub_list_frozenset;let R:(Value.type "list"==Value.type "dict")=false:=by decide
 unfold aos.«set.__init__» noKeywords Builtin.Frozenset.updateFrom;generalize n:pyIter=PI
 wp_walk
 subst n;show wpAny_pyIter_list g (π (wpAny_runValue ?_));let C:S<⇑s:=adw f;let D:l<⇑s:=adw c;let G:A.in1.in1.handled=none:=by simp[x]
 let p:S≠l:=λe=>by subst e;rw[f]at c;simp at c
 show acZ (us:=us) ((Walks.list G _ l (adn D) us).toS) S (by simp only[aaT,afF,or_false,not_or];show#[adn C,p]) y z j us.size 0 {s with heap:=s.heap.push {cls:=.type "list_iterator",data:=.fields #v[.ref l,.int 0 0]}} ()
  #[#[_,acN _ rfl,rfl,rfl],(g.push _)] ?_ ?_
 .let hget:=aaS {cls:=.type "list_iterator",data:=.fields #v[.ref l,.int 0 0]} f;show SetOf_congr ((setObjOf_fresh (knd:=strKind prog w) a).setOf hget (by unfold scanBound;omega)) (λ_=>rfl) rfl
 .intro s' i H;let#[h',g',d',q,u]:=s';let I:g'=s.gens:=i.gens;let J:d'=s.drawn:=i.drawn;let L:u=s.os:=i.os;subst I J L;show ϱ ?_*>Ϧ _ _ (ret Value.none) _ _ _*>ϱ (h h' q H λb o j e=>?_)*>i.heap b o ?_ (aaS _ e);simp only[aaT,afF,or_false,not_or];show#[j,adn (adw e)]
set_option maxRecDepth 100000 in
def ahB(x:A.handled=none)(y:s.heap.IsList l us)(z:strAt us zs)(B:us.size=↥zs)(C:us.size+1<scanBound)(h:∀(h':ϫ)(tk:Nat),jQ prog w h' ⇑s zs->(∀b o,s.heap.get? b=↑o->h'.get? b=↑o)->Q (.ref ⇑s) {s with heap:=h',toks:=tk}):Ϧ (Ϩ prog w) A (call (.type "set") [.ref l]) Q E s:=by
 let#[c,tl,q]:=F.called_set.mro;let m:=F.called_set.made;let u:=F.called_set.sub;let h1:=F.called_set.notType;let h2:=F.called_set.canCreate;let D:=F.typeCall_set_1 (.ref l);show aol (codeAny_of_tree ?_)*>Ϧ _ _ (callAny (.type "set") _) _ _ _*>ϱ #[Code.quiet_builtin _ (by fin2),amQ F.entry_type_call ?_];rw[Around.under_plain (weight_type_call_type "set" [.ref l] []) rfl]
 repeat (any_goals (first|with_reducible assumption|wp_step))
 show akW (code_set_new_1 (.ref l) (E:=E) (Q₁:=λobj g=>∃a:Bool,obj=.ref ⇑s/\g={s with heap:=newSet s.heap a}) λa=>#[a,rfl,rfl]) λr g n=>?_
 rcases r with e|(_|_|_|obj)
 all_goals first|show n|show n.elim|skip
 let#[a,rfl,rfl]:=n;let v:(newSet s.heap a).get? ⇑s=some {cls:=.type "set",dict:=none,data:=.set #v[] 0 (.fresh 0 0 a)}:=acN _ rfl;let I:Shared.TypeIs {s with heap:=newSet s.heap a} (.ref ⇑s) "set":=#[_,v,rfl];let G:=F.called_set.init.lookup;let H:=F.called_set.init.bind (.ref ⇑s)
 repeat (any_goals (first|with_reducible assumption|wp_step))
 show akW (alD (E:=E) (s:={s with heap:=newSet s.heap a}) (Q:=λr i=>r=.none/\∃h' tk,i={s with heap:=h',toks:=tk}/\jQ prog w h' ⇑s zs/\∀b o,s.heap.get? b=↑o->h'.get? b=↑o) (by simp[x]) (y.push _) #[a,v] z B C λh' tk p k=>#[rfl,h',tk,rfl,p,λb o e=>k b o (adn (adw e)) (aaS _ e)]) λj i f=>?_
 rcases j with e|(_|_|_|r)
 all_goals first|show f|show f.elim|skip
 let#[rfl,h',tk,rfl,p,k]:=f
 repeat (any_goals (first|with_reducible assumption|wp_step))
 show h _ _ p k
section
variable{X:Cx}{H:Hp}{Q:VK}{v:V}
def nF(X:Cx)(S:δ)(zs:List Str):HO:=.ext λh=>jQ X.prog X.w h S zs
def Yx(hc:X.calm=true)(h:θ X.K H q (zs.map V.str))(j:↥zs<=4000)(g:∀S,H S=none->Q (.ref S) (upd H S (nF X S zs))):CL X (.type "set") [.ref q] H Q:=by
 show cV (r:=λxs H Q=>∃q zs,xs=[.ref q]/\θ X.K H q (zs.map V.str)/\↥zs<=4000/\∀S,H S=none->Q (.ref S) (upd H S (nF X S zs))) ?_ #[q,zs,rfl,h,j,g];intro ϵ s σ H xs us Q I r h;let#[q,zs,rfl,h,j,g]:=h;let#[u,rfl,p]:=vals1 r;cases(show u=Value.ref q from p);let#[c,l,pl,_]:=I.list h;let m:↥c=↥zs:=by have:=↥l;rw[ϰ]at this;show this.symm
 let f:strAt c.toArray zs:=λi v e=>by
  let n:c[i]?=↑v:= ~~~e
  let hi:i<↥zs:=by rw[<-m];show(aas.mp n).1
  let#[u,e1,y]:=l.get (i:=i) (x:=V.str zs[i]) (by simp[hi]);rw[n]at e1;cases e1;let#[t,rfl]:=y;show#[t,zs[i],rfl,aad hi]
 show ahB (I.ok.hd hc) pl.isList f (~~~m) (by show _<4096;simp;omega) λh' tk a k=>?_
 show#[.ref ⇑s,_,I.laid (t':=tk) (o:=nF X ⇑s zs) k (Ϭ _) #[a,?_,λh1 h2 a z=>a.stay z],rfl,g _ (I.hok.fresh (Ϭ _))];let#[o,es,ep,t,B,_]:=a;show#[o,B]
def QX(h:H S=↑(nF X S zs))(c:↥zs<=4000)(g:Q (.int ↥(eU zs)) H):CL X (.builtin "len") [.ref S] H Q:=by
 show cV (r:=λxs H Q=>∃S zs,xs=[.ref S]/\H S=↑(nF X S zs)/\↥zs<=4000/\Q (.int ↥(eU zs)) H) ?_ #[S,zs,rfl,h,c,g];intro ϵ s σ H xs us Q I r h;let#[S,zs,rfl,h,c,g]:=h;let#[u,rfl,e]:=vals1 r;cases(show u=Value.ref S from e);let#[#[o,es,ep,t,f,a,hd,i,m,n,j,l],_]:=I.hok S _ h;let le:=yf _ zs rfl;show call_len_set f a hd j () #[.int es.size,H,I.tok _,#[_,rfl],?_];rw[l];show g
theorem Cy(h:Δ X.K H p xs)(q:Q (.bl (!fL x xs)) H)(f:gb x=true:=by rfl)(fs:xs.all gb=true:=by rfl):OP X (aeT .NotIn) x (.ref p) H Q:=cC T4 #[p,xs,rfl,.inr h,f,fs,q]
theorem qm(h:Δ X.K H p xs)(q:Q (.bl (fL x xs)) H)(f:gb x=true:=by rfl)(fs:xs.all gb=true:=by rfl):OP X (aeT .In) x (.ref p) H Q:=cC alo #[p,xs,rfl,.inr h,f,fs,q]
theorem ajD(h:θ X.K H p xs)(f:gb x=true)(fs:xs.all gb=true)(q:Q (.bl (!fL x xs)) H):OP X (aeT .NotIn) x (.ref p) H Q:=cC T4 #[p,xs,rfl,.inl h,f,fs,q]
theorem Zg(h1:H l=↑(.lst xs))(h2:H b=↑(.lst zs))(a:↥xs+↥zs<=ϳ)(q:∀p,H p=none->Q (.ref p) (upd H p (.lst (xs++zs)))):OP X (binaryOp .Add) (.ref l) (.ref b) H Q:=cC aeP #[l,b,xs,zs,rfl,rfl,h1,h2,a,q]
end
section
variable{X:Cx}{H:Hp}{D:Ends}{σ σ':St}{e a elt tg:Ϫ}{scope:ajd}{pos spos py p p':Pos}{y:Str}{j:Nat}
def sG(N':List Str)(S:dq X.env scope)(m:X.N.Nodup)(h:EV X e σ H λv H1=>∃l xs,v=.ref l/\θ X.K H1 l xs/\↥xs<=ϳ/\Br X N' scope tg elt σ' H1 (λv H'=>D.nx (σ.set j ↑v) H') ↥xs λi H2 x g=>xs[i]?=↑x/\H2=g)(c:dD N' X.N σ scope=σ':=by rfl)(f:aoH (.ListComp elt [#[tg,e,[],0]] scope pos) ↑(.Name y py) spos.line X.env=pure true:=by rfl)(hc:X.calm=true:=by rfl)(hs:∀x,foldedSetIterable e X.env x=pure x:=by intro _;rfl)(hi:nameAt X.N y=↑j:=by rfl)(n:X.env.scope.names.lookup y=↑.local:=by rfl):SX X (.Assign [.Name y py] (.ListComp elt [#[tg,e,[],0]] scope pos) spos) D σ H:=by
 show Qs (N':=N') f hc S hs m hi n (rm (bC h λv H1 q=>?_));let#[l,xs,rfl,a,o,p]:=q;show#[l,rfl,#[xs,a],?_];rw[c];show Ga (J:=jU X.K l) o (λi H2 s hi=>#[xs,xs[i],ζ.seq s a,aad hi]) (λH2 s=>#[xs,ζ.seq s a,Ϭ _]) (λi H2 x g hi s y=>#[y.2 xs (ζ.seq s a),y.1.symm]) p
end
def cutAt(c:Nat):List Nat->List (List Nat)
 |[]=>[[]]
 |x::r=>if x=c then[]::cutAt c r else match cutAt c r with
  |[]=>[[x]]
  |h::t=>(x::h)::t
def f9(c:Nat):List (List Nat)->List Nat
 |[]=>[]
 |[p]=>p
 |p::q::r=>p++c::f9 c (q::r)
theorem zQ(c:Nat):∀l,cutAt c l≠[]
 |[]=>by simp[cutAt]
 |x::r=>by
  unfold cutAt;split
  .simp
  .split <;>simp
theorem K5:∀{p:List Nat},c∉p->cutAt c p=[p]
 |[],_=>rfl
 |x::r,h=>by
  let a:=K5 (c:=c) (p:=r) λz=>h (by simp[z])
  unfold cutAt;rw[if_neg (λz=>h (by simp[z])),a]
theorem ZS:∀{p:List Nat},c∉p->cutAt c (p++c::l)=p::cutAt c l
 |[],_=>by
  show cutAt c (c::l)=_;rw[cutAt,if_pos rfl]
 |x::r,h=>by
  let a:=ZS (c:=c) (l:=l) (p:=r) λz=>h (by simp[z])
  show cutAt c (x::(r++c::l))=_;rw[cutAt,if_neg (λz=>h (by simp[z])),a]
theorem uP:∀{ps:List (List Nat)},ps≠[]->(∀p∈ps,c∉p)->cutAt c (f9 c ps)=ps
 |[],h,_=>absurd rfl h
 |[p],_,h=>K5 (h p (by simp))
 |p::q::r,_,h=>by
  show cutAt c (p++c::f9 c (q::r))=_;rw[ZS (h p (by simp)),uP (by simp) λx a=>h x (acw _ a)]
theorem Ez(c:Nat):∀l,↥(cutAt c l)<=↥l+1
 |[]=>by simp[cutAt]
 |x::r=>by
  let a:=Ez c r;unfold cutAt;split
  .simp;show a
  .split
   .simp
   .rename_i h t e;rw[e]at a;simp at a⊢;omega
theorem Ls(c:Nat):∀l,f9 c (cutAt c l)=l
 |[]=>rfl
 |x::r=>by
  let a:=Ls c r;unfold cutAt;split
  .rename_i h;cases e:cutAt c r with
   |nil=>show absurd e (zQ c r)
   |cons p q=>
    rw[e]at a;show[]++c::f9 c (p::q)=_;rw[a,h];rfl
  .cases e:cutAt c r with
   |nil=>show absurd e (zQ c r)
   |cons p q=>
    rw[e]at a;simp only;cases q with
    |nil=>
     show x::p=_;rw[show p=r from a]
    |cons y q=>
     show(x::p)++c::f9 c (y::q)=_;rw[<-a];rfl
theorem oN(c:Nat):∀ps:List Str,(ϭ #[#v[c]] ps).cps.toList=f9 c (ps.map λp=>p.cps.toList)
 |[]=>rfl
 |[p]=>rfl
 |p::q::r=>by
  let a:=oN c (q::r);let e:ϭ #[#v[c]] (p::q::r)=p++#[#v[c]]++ϭ #[#v[c]] (q::r):=rfl;rw[e];show((p.cps++ #v[c])++(ϭ #[#v[c]] (q::r)).cps).toList=_;simp only[asf];rw[a];simp[f9]
def acr(x:Str)(c:Nat):Txt.split x #[#v[c]]≠[]:=by
 unfold Txt.split;split
 .simp
 .split
  .simp
  .unfold Builtin.Str.partsBetween;simp
def split_list(x:Str)(c:Nat):(Txt.split x #[#v[c]]).map (λp=>p.cps.toList)=cutAt c x.cps.toList:=by
 let h1:(ϭ #[#v[c]] (Txt.split x #[#v[c]])).cps.toList=x.cps.toList:=by rw[StrLaws.join_split]
 rw[oN]at h1;rw[<-h1];show(uP (~~~acr x c) λp hp=>?_).symm;let#[q,a,rfl]:=ab9.mp hp;show StrLaws.split_free x c q a
def χ(c:Nat)(x:Str):List Str:=(cutAt c x.cps.toList).map λl=>#[l.toArray]
def xW(x:Str)(c:Nat):Txt.split x #[#v[c]]=χ c x:=by
 unfold χ;rw[<-split_list,aeu];have:((λl:List Nat=>(#[l.toArray]:Str))∘λp:Str=>p.cps.toList)=id:=by
  funext p;rfl
 rw[this,asG]
theorem aae:∀l:List (Str×Tok),Vals ((l.map (·.1)).map V.str) (strValues l)
 |[]=>.nil
 |p::l=>.cons #[p.2,rfl] (aae l)
def m_split(g:∀p,H p=none->Q (.ref p) (upd H p (.lst ((χ c z).map V.str))))(i:↥z<=100000:=by omega):MT X "str.split" (.str z) [.str #[#v[c]]] H Q:=by
 show iT (r:=λx xs H Q=>∃z c,x=.str z/\xs=[.str #[#v[c]]]/\↥z<=100000/\∀p,H p=none->Q (.ref p) (upd H p (.lst ((χ c z).map V.str)))) ?_ #[z,c,rfl,rfl,i,g];intro ϵ s σ H x xs v us Q I rx j h;let#[z,c,rfl,rfl,i,g]:=h;let#[t,rfl]:=rx;let#[u,rfl,m]:=vals1 j;let#[t',rfl]:=m;let n:↥(χ c z)<=↥z+1:=by
  let h1:=Ez c z.cps.toList;unfold χ;rw[ϰ];let h2:↥z.cps.toList=↥z:=rfl;omega
 let hsz:=ϯ;let a:∀(l:List (Str×Tok))(tk:Nat),l.map (·.1)=χ c z->EP X ϵ σ Q (.ref ⇑s) {s with toks:=tk,heap:=s.heap.push {cls:=.type "list",data:=.seq (strValues l).toArray}}:=λl tk e=>
  #[.ref ⇑s,_,I.laid (t':=tk) (o:=.lst ((χ c z).map V.str)) (λb o q=>aaS _ q) (Ϭ _) #[by rw[ϰ];omega,strValues l,_,by rw[<-e];show aae l,acN _ rfl],rfl,g _ (I.hok.fresh (Ϭ _))]
 cases h1:(decide (↥z<↥(#[#v[c]]:Str))||decide (Builtin.Str.strKind z<Builtin.Str.strKind #[#v[c]]))
 .cases hf:(Builtin.Str.occurrences z #[#v[c]] 0 ↥z (↥z+1)).isEmpty
  .let e:Txt.split z #[#v[c]]=Builtin.Str.partsBetween z (Builtin.Str.occurrences z #[#v[c]] 0 ↥z (↥z+1)) ↥(#[#v[c]]:Str):=by
    unfold Txt.split;rw[if_neg (by rw[h1];decide),if_neg (by rw[hf];decide)]
   let f:=n;rw[<-xW,e]at f;show ao3 F.slot_str_split (typeIs_str<*_) F.entry_str_split (F.args_str_split_2 _ _) (meets_str_split_sep z #[#v[c]] t t' h1 rfl hf () ()) ?_;have:=a (numbered s.toks (Txt.split z #[#v[c]])) (s.toks+↥(Builtin.Str.partsBetween z (Builtin.Str.occurrences z #[#v[c]] 0 ↥z (↥z+1)) (#[#v[c]]:Str).length)) (by rw[numbered_texts,xW]);rw[<-strsFrom_eq,e]at this;show this
  .let e:Txt.split z #[#v[c]]=[z]:=by
    unfold Txt.split;rw[if_neg (by rw[h1];decide),if_pos hf]
   show ao3 F.slot_str_split (typeIs_str<*_) F.entry_str_split (F.args_str_split_2 _ _) (meets_str_split_not_found z #[#v[c]] t t' h1 rfl hf) (a [(z,t)] s.toks (by rw[<-xW,e];rfl))
 .let e:Txt.split z #[#v[c]]=[z]:=by
   unfold Txt.split;rw[if_pos h1]
  show ao3 F.slot_str_split (typeIs_str<*_) F.entry_str_split (F.args_str_split_2 _ _) (meets_str_split_cannot_occur z #[#v[c]] t t' h1) (a [(z,t)] s.toks (by rw[<-xW,e];rfl))
def acE{c:Nat}(q:Q (.int c) H):CL X (.builtin "ord") [.str #[#v[c]]] H Q:=by
 show cV (r:=λxs H Q=>∃c:Nat,xs=[.str #[#v[c]]]/\Q (.int c) H) ?_ #[c,rfl,q];intro ϵ s σ H xs us Q I r h;let#[c,rfl,q]:=h;let#[u,rfl,a]:=vals1 r;let#[t,rfl]:=a;show P.ord_of_char #[.int c,H,I.tok _,#[_,rfl],q]
def ajE(hi:0<=i)(a:i<1000)(g:Q (.str (Txt.zfill z i)) H):MT X "str.zfill" (.str z) [.int i] H Q:=by
 show iT (r:=λx xs H Q=>∃z i,x=.str z/\xs=[.int i]/\0<=i/\i<1000/\Q (.str (Txt.zfill z i)) H) ?_ #[z,i,rfl,rfl,hi,a,g];intro ϵ s σ H x xs v us Q I rx c h;let#[z,i,rfl,rfl,hi,a,g]:=h;let#[t,rfl]:=rx;let#[u,rfl,e]:=vals1 c;let#[t',rfl]:=e;show SC.zfill ?_ λf k=>#[.str _,H,I.tok k,#[f,rfl],g]
 show padOk_of () ()
def Df(K:ϩ)(l:δ)(n:Nat):It:=
 #[λi H=>i<n/\∃xs,θ K H l xs/\↥xs=n,λi H x H'=>H'=H/\∀xs,θ K H l xs->xs[n-1-i]?=↑x,λi _=>i=n]
theorem ain{P:ϲ}{w:Ϯ}{K:ϩ}{tg:Ϫ}(l it:δ)(n:Nat):Turn P w K tg (Df K l n) [it] it (λi h=>h.IsRevIter it l ((n:Int)-1-(i:Int)))where
 mem:=by simp
 obj:=λi h st b a=>by
  let e:b=it:= ~~~a
  subst e;let#[o,e,c,d]:=st;show#[o,e,λv z=>by rw[d]at z;cases z]
 keep:=λi h h' st k=>st.at λo e=>k it (by simp) o e
 item:=by
  intro X m q y hc i ϵ s σ H E I j st B;subst m q y;let#[hi,xs,M,hx]:=B;let#[ϸ,O,p,hz]:=I.list M;let f:n-1-i<↥xs:=()
  let#[u,Q,R]:=O.get (aad f);let#[C,D,S,F,G,J]:=j it (by simp);let T:((n:Int)-1-(i:Int))=((n-1-i:Nat):Int):=()
  rw[T]at st;show wpAny_pyNext_rev_item st p.isList (x:=u) (~~~Q) λh' g U=>?_
  let W:Inv X ϵ σ H {s with heap:=h'}:=I.turned (t':=s.toks) (λb o a e=>(U.2 b a).trans e) C D F G J;let#[o,e,c,d]:=id g;show#[u,rfl,uU (s:={s with heap:=h'}) e c d (by decide) #[_,H,W,R,#[rfl,λys Y=>?_],?_,λb a=>(j b a).1]]
  .rw[I.list_inj Y M];show aad f
  .let L:((n:Int)-1-((i+1:Nat):Int))=((n-1-i:Nat):Int)-1:=()
   rw[L];show g
 done:=by
  intro X m q y hc i ϵ s σ H E I j st B;subst m q y;let#[C,D,S,F,G,J]:=j it (by simp);let e:i=n:=B;let L:((n:Int)-1-(i:Int))= -1:=()
  rw[L]at st;show wpAny_pyNext_rev_end (I.ok.hd hc) st λh' Z=>#[rfl,I.turned (t':=s.toks) (λb o a e=>Z b o a e) C D F G J]
 self:=λ_ _ _ _ _ st h=>wpAny_pyIter_revIter st h
def alj(m:Gl X "reversed")(n:X.mg "reversed"=none)(hs:acv [a] X.env=[(false,eval a X.env)])(h:EV X a σ H λv H1=>∃l xs,v=.ref l/\θ X.K H1 l xs/\R (Df X.K l ↥xs) H1):EI X tg (.Call (.Name "reversed" p) [a] [] pos) σ H R:=by
 intro ϵ s I;show Call_ (j5 I m n boot_reversed (PyProof.Rows.callWith_type1 (ψ (jn (es:=[]) (QA:=λvs H1=>∃l xs,vs=[.ref l]/\θ X.K H1 l xs/\R (Df X.K l ↥xs) H1) hs (bC h λv H1 z=>by let#[l,xs,e,x,y]:=z;show fW #[l,xs,by rw[e],x,y]) pos ϵ s I) λus c z=>?_) hs rfl));let#[vs,H1,g,r1,l,xs,e,B,q]:=z;subst e;let#[u,rfl,C]:=vals1 r1;cases(show u=Value.ref l from C);let#[i,D,pl,F]:=g.list B;let j:=↥D;show call_reversed_list pl.isList ?_;let f:(c.heap.push (revObj l ((i.toArray.size:Int)-1))).IsRevIter ⇑c l ((i.toArray.size:Int)-1):=#[_,acN _ rfl,rfl,rfl];show wpAny_pyIter_revIter f ?_*>#[⇑c,[⇑c],_,_,H1,rfl,g.kept (t':=c.toks) λb o e=>aaS _ e,ain l _ ↥xs,?_,λb E=>?_,q]
 .let e:((↥xs:Int)-1-((0:Nat):Int))=(i.toArray.size:Int)-1:=by simp;omega
  rw[e];show f
 .let e:b=⇑c:= ~~~E
  subst e;show g.fpOk (Ϭ _) (g.hok.fresh (Ϭ _))
def Sv(hp:apU ∅ X.A X.env X.xe)(hc:X.calm=true)(n:Gl X "reversed")(o:X.mg "reversed"=none)(hs:acv [a] X.env=[(false,eval a X.env)])(h:EV X a σ H λv H1=>∃q xs,v=.ref q/\θ X.K H1 q xs/\∃c:Nat->St->Hp->Prop,c 0 σ H1/\(∀i σ' H',i<=↥xs->c i σ' H'->θ X.K H' q xs)/\
   (∀i x σ' H',i<↥xs->xs[↥xs-1-i]?=↑x->c i σ' H'->EG X tg x σ' H' λg H2=>Φ X body {D with nx:=c (i+1),ct:=c (i+1),bk:=D.nx} g H2)/\∀σ' H',c ↥xs σ' H'->D.nx σ' H'):SX X (.For tg (.Call (.Name "reversed" p) [a] [] p') body [] pos) D σ H:=by
 show rY hp hc (by intro _;rfl) (alj n o hs (bC h λv H1 q=>?_));let#[q,xs,rfl,s,c,u,l,j,hd]:=q;show#[q,xs,rfl,s,λi m σ H=>m=↥xs-i/\i<=↥xs/\c i σ H,#[↥xs,by simp,aim _,u],?_]
 rintro i m σ' H' ⟨rfl,hi,p⟩
 by_cases f:i<↥xs
 .show .inr #[#[f,xs,l i σ' H' hi p,rfl],c (i+1),λg H2 p2=>#[↥xs-(i+1),(),rfl,f,p2],λx H2 y=>?_];let#[rfl,e]:=y;show j i x σ' _ f (e xs (l i σ' _ hi p)) p
 .let e:i=↥xs:=()
  show .inl #[e,?_];subst e;show hd σ' H' p
def anL{A:ϴ}{E:ε->ν->Prop}{s:ν}{α:Type}{e T L:δ}{cls:ε}{d:Option δ×Bool}{x:ε}{a:String}{env:Env}{Q:α->ν->Prop}(y:env.frame=↑L)(F:aZ s.heap e cls d ↑T x)(k:∀h',kJ s.heap h' [T] []->aZ h' e cls d ↑T (rawInt L)->E (.ref e) {s with heap:=h'}):Ϧ M A (passOn a (.ref e) env) Q E s:=by
 let#[B,vs,i,hc,j,hd,h1,C,h2,D]:=F;let#[m,I,ws,c,f,G]:=D T rfl;let p:3<ws.size:=(aiM.mp G).1;let g:vs[1]?=↑(Value.ref T):=h1;unfold PySem.passOn;show π (akX i hd g ?_);rw[if_neg (show ¬((Value.ref T==Value.none)=true)from by simp)];show π ?_;unfold setFlight;show π (akX i hd g ?_);rw[if_pos (show(Value.ref T !=Value.none)=true from by simp),y];show amA c f p (wpAny_throw (k _ #[λb o q _ n=>?_,λb o q n=>#[o.slots,?_],λb o q=>?_] ?_))
 .rw[acH<*(λz=>n (by simp[z]))];show q
 .rw[acH<*(λz=>n (by simp[z]))];show q
 .by_cases z:b=T
  .subst z;show#[_,afa _ c (Obj.isFreed_of_fields (Obj.data_mapFields f _))]
  .show#[o,by rw[acH<*(Ne.symm z)];show q]
 .show#[B,vs,?_,hc,j,hd,h1,C,h2.stay λv o ws J l u=>?_,λO H=>?_]
  .rw[acH<*m];show i
  .by_cases z:v=T
   .subst z;rw[c]at l;cases l;show#[_,_,afa _ c (Obj.isFreed_of_fields (Obj.data_mapFields f _)),Obj.data_mapFields u _,by rw[ahY (by decide)]]
   .show#[o,ws,by rw[acH<*(Ne.symm z)];show l,u,rfl]
  .cases H;show#[m,_,_,afa _ c (Obj.isFreed_of_fields (Obj.data_mapFields f _)),Obj.data_mapFields f _,by simp[p]]
section
variable{X:Cx}{ϵ:List (δ×Obj)}{σ:St}{H:Hp}{s:ν}{scope:ajd}{N':List Str}{fp:List δ}{elt iter tg:Ϫ}{ifs:List Ϫ}{pos:Pos}{Kx:St->XK}
def agb(n:compEnvC scope (Ϙ scope X.env) ⇑s X.env=a)(c:X.stack=X.env::X.outer)(i:X.env.frame=↑X.env.locals)(g:Inv X ϵ σ H s)(F:∀b∈fp,cj X ϵ H b)(p:∀{pins':List (δ×Obj)}{B:St}{H':Hp}{s':ν},Inv (fj X N' scope (Ϙ scope X.env) ⇑s s H fp (notedBy ∅ X.A a G)) pins' B H' s'->Inv X ϵ σ H' s')(u:∀(H':Hp)(s':ν)(e t:δ)(cls:ε)(d:Option δ×Bool),a.frame=↑X.env.locals->Inv X ϵ σ H' s'->cj X ϵ H' a.locals->(∃m,s'.heap.Ns a.locals m)->aZ s'.heap e cls d ↑t (rawInt X.env.locals)->
   (∀b∈[e,t],(H' b=none/\Ch X ϵ b)/\b≠a.locals)->Kx σ cls d H'->G (.ref e) s'):bz (fj X N' scope (Ϙ scope X.env) ⇑s s H fp (notedBy ∅ X.A a G)) (λ_=>Kx σ):=by
 let v:a.locals=⇑s:=by rw[<-n];rfl
 intro pins' B H' s' e cls d I q;let#[J,tb,L,M,x,ch]:=I;let IX:=p J;let f:∀b∈e::tb.toList,(H' b=none/\Ch X ϵ b)/\b≠⇑s:=λb j=>by
  let#[O,c1,c2,c3]:=ch b j;show#[#[O,?_],c2];obtain z|z:=c1
  .let#[_,P,_,Q,R,S]:=F b z;show#[Q,P,R,S]
  .show g.ch z
 let l:(L==rawInt X.env.locals)=false:=by
  obtain z|⟨z,_⟩:=x
  .rw[z];simp[rawInt]
  .rw[z,beq_eq_false_iff_ne];intro C;simp only[rawInt]at C;let T:((⇑s:Nat):Int)=((X.env.locals:Nat):Int):=by injection C
   show asm g.lt (Int.ofNat.inj T)
 let D:=IX.stack;rw[c]at D;show Ϧ _ _ (noteFrame (.ref e) a) _ _ _;rw[show noteFrame (.ref e) a=noteFrame (.ref e) X.env by rw[<-n];rfl];show Yk (base:=X.base) (IX.ok.frames<|>(by rw[c])) D i M l λh' t N y U=>?_
 let#[m,E,_]:=J.loc;show u H' _ e t cls d (by rw[<-n];show i) (IX.noted (by rw[c];show N) λb j=>(f b j).1) (by rw[v];show g.fpOk (Ϭ _) J.free) #[m,?_] U (λb j=>?_) q
 .rw[v];let#[o,W,Y,Z,hr]:=E;show#[o,W,Y,N.keep _ _ Z (λz=>?_) (λz=>(f _ z).2 rfl),hr];rw[<-c]at z;rcases aaT.mp (g.stkSub _ z)with e|e
  .show alQ _ (e▸g.lt)
  .show g.nofs (Ϭ _) e
 .rw[v];obtain z|z:=aaT.mp j
  .subst z;show f _ adS
  .let z':b=t:= ~~~z
   subst z';show#[#[IX.hok.fresh y,IX.ch (alb y)],λz=>alQ _ (adk E.lt (z▸y))]
def akD(B:bz X Kx)(l:C.frame=↑X.env.locals)(I:Inv X ϵ σ H' s')(D:cj X ϵ H' C.locals)(i:∃m,s'.heap.Ns C.locals m)(F:aZ s'.heap e cls d ↑t (rawInt X.env.locals))(ch:∀b∈[e,t],(H' b=none/\Ch X ϵ b)/\b≠C.locals)(q:Kx σ cls d H'):wH ∅ X.A X.xe use Q j C (.error (.ref e)) s':=by
 let#[m,i]:=i;let#[E,G,f2,H,J,L]:=D;let c:∃m,s'.heap.Ns C.locals m/\∀h',anE C.locals s'.heap h'->Ϧ ∅ X.A (passOn "comprehension.variables-let-go" (.ref e) C:Sem ε) (λ_ _=>False) X.xe {s' with heap:=h'}:=by
  show#[m,i,λh' a=>?_];let M:Inv X ϵ σ H' {s' with heap:=h'}:=I.turned (t':=s'.toks) (λb o f e=>a.extBut b o f e) E G H J L;let O:aZ h' e cls d ↑t (rawInt X.env.locals):=by
   let#[P,vs,R,hc,p,hd,h1,S,h2,U]:=F;show#[P,vs,a.extBut _ _ (ch e (by simp)).2 R,hc,p,hd,h1,S,h2.stay (λv o ws hv u x=>#[o,ws,a.extBut _ _ (λz=>by
    let#[_,_,_,y,g,_]:=i;rw[<-z,u]at y;cases y;rw[x]at g;cases g) u,x,rfl]),λT W=>?_]
   cases W;let#[Y,Z,ws,t1,t2,t3]:=U t rfl;show#[Y,Z,ws,a.extBut _ _ (ch t (by simp)).2 t1,t2,t3]
  show anL (s:={s' with heap:=h'}) l O λh2 N F3=>?_
  show B ϵ σ H' _ e cls d #[M.noted (ch:=[t]) #[λb o q _ n=>N.keep b o q (by simp) n,N.slot,N.there] λb f=>?_,↑t,_,F3,.inr #[rfl,rfl],λb f=>(ch b (~~~f)).1] q;let z:b=t:= ~~~f
  subst z;show(ch b (by simp)).1
 cases use<;>show c
def abT(g:bz X Kx)(i:X.stack=X.env::X.outer)(l:X.env.frame=↑X.env.locals)(n:aoH (.ListComp elt [#[tg,iter,ifs,0]] scope pos) ↑(.Name y py) spos.line X.env=pure true)(hc:X.calm=true)(S:dq X.env scope)(hs:∀x,foldedSetIterable iter X.env x=pure x)(hN:X.N.Nodup)(hi:nameAt X.N y=↑j)(U:X.env.scope.names.lookup y=↑.local)(h:EI X tg iter σ H λJ H1=>∀(fp:List δ)(E C:δ)(f:ν)(F:ε->ν->Prop),H1 E=none->bz (fj X N' scope (Ϙ scope X.env) C f (upd H1 E (.lst [])) fp F) (λ_=>Kx σ)->jC X (fj X N' scope (Ϙ scope X.env) C f (upd H1 E (.lst [])) fp F) tg elt ifs J E (dD N' X.N σ scope) H1 (λH'=>D.nx (σ.set j ↑(.ref E)) H')):SX X (.Assign [.Name y py] (.ListComp elt [#[tg,iter,ifs,0]] scope pos) spos) D σ H:=by
 intro ϵ s I;rw[exec_Assign_Name_used _ _ _ _ n];show π (aif (π ?_));show Ϧ _ X.A (do let _<-comprehension (.ListComp elt [#[tg,iter,ifs,0]] scope pos) scope X.env _ (newList []) false (eval iter X.env) ↑(assign (.Name y py) X.env)) _ _ s;show π (adK (JQ (use:=↑(assign (.Name y py) X.env)) (Q:=λ_ s'=>SP X ϵ D .next s') rfl hs (Hq (S.has I)) S.kind S.loc
  (ψ (h ϵ s I) λv s1 h1=>ψ h1 λitv s2 h2=>?_)) (λ_ s' hq=>ϱ (ϱ hq)) λ_ _ e=>e)
 let#[it,fp,tn,J,H2,e,I2,T,p,f2,q2]:=h2;subst e;show Gh _ (R:=λu C=>wH ∅ X.A X.xe ↑(assign (.Name y py) X.env) (λ_ s'=>SP X ϵ D .next s') u C) (Q:=λE H'=>D.nx (σ.set j ↑(.ref E)) H') hc S I2 T p f2 (λ_ _ _ _ z=>z) (λE f W I3 B tX=>q2 fp E _ f _ W (agb rfl i l I3 B tX λH' s' e t cls d G IX L c F ch q=>akD g G IX L c F ch q)) λE C H' s' W qD IX L c=>?_
 let#[m,c]:=c;let#[f0,Y,Ob,B,Z,f5]:=L;show Ϧ _ _ (assign (.Name y py) X.env (.ref E)) _ _ _*>wpAny_assign_Name (qX IX hN (nG hi) (.inl U) (v:=.ref E) rfl (λM CV O=>?_) (.inr U));let#[a,sb,ha]:=O;let Jr:C.locals≠a:=by
  obtain ha|ha:=ha
  .rw[ha];show Y
  .intro z;show Z y a ha z.symm
 show#[m,c.sameBut sb Jr,λh' P=>#[σ.set j ↑(.ref E),H',CV.turned (t':=M.toks) (λb o O e=>P.extBut b o O e) f0 Y B Z f5,qD]]
end
def VF(X:Cx)(N':List Str)(scope:ajd)(tg elt:Ϫ)(σ σ':St)(Kx:St->XK)(H1:Hp)(Q:VK)(n:Nat)(G:Nat->Hp->V->Hp->Prop):Prop:=
 ∃(f:St->Prop)(a:δ->Nat->V->Hp->Prop),f σ'/\
  (∀E i v H2 c ys,H2 E=↑(.lst ys)->(∀b o,b≠E->H2 b=↑o->c b=↑o)->a E i v H2->a E i v c)/\
  (∀(fp:List δ)(E C:δ)(g:ν)(j:Hp)(F:ε->ν->Prop)(i:Nat)(l:St)(x:V)(H2 c:Hp),bz (fj X N' scope (Ϙ scope X.env) C g j fp F) (λ_=>Kx σ)->H1 E=none->i<n->f l->ζ H1 H2->(∃ys,H2 E=↑(.lst ys)/\↥ys=i/\∀k v,ys[k]?=↑v->a E k v H2)->G i H2 x c->
   EG (fj X N' scope (Ϙ scope X.env) C g j fp F) tg x l c λe p=>EV (fj X N' scope (Ϙ scope X.env) C g j fp F) elt e p λv m=>f e/\a E i v m/\ζ H2 m)/\
  ∀(E:δ)(H2:Hp)(xs:List V),H1 E=none->↥xs=n->(∀i v,xs[i]?=↑v->a E i v H2)->H2 E=↑(.lst xs)->ζ H1 H2->Q (.ref E) H2
def afB(g:n<=ϳ)(go:∀i H2,ζ H H2->i<n->J.go i H2)(stop:∀H2,ζ H H2->J.stop n H2)(j:∀i H2 x f,i<n->ζ H H2->J.yld i H2 x f->G i H2 x f)(h:VF X N' scope tg elt σ σ' Kx H Q n G):∀(fp:List δ)(D C:δ)(a:ν)(F:ε->ν->Prop),H D=none->bz (fj X N' scope (Ϙ scope X.env) C a (upd H D (.lst [])) fp F) (λ_=>Kx σ)->jC X (fj X N' scope (Ϙ scope X.env) C a (upd H D (.lst [])) fp F) tg elt [] J D σ' H (λH'=>Q (.ref D) H'):=by
 intro fp E C a F c xo;let#[m,o,t0,mono,step,e]:=h;show R6 n g m t0 (o E) c (λi v H1 H2 ys=>mono E i v H1 H2 ys) go stop (λi p x H1 H2 hi q hs u y=>step fp E C a _ F i p x H1 H2 xo c hi q hs u (j i H1 x H2 hi hs y)) λH1 xs l z B s=>e E H1 xs c l z B s
def ai2(N':List Str)(c:dD N' X.N σ scope=σ')(f:bz X Kx)(g:X.stack=X.env::X.outer)(m:X.env.frame=↑X.env.locals)(n:aoH (.ListComp elt [#[tg,e,[],0]] scope pos) ↑(.Name y py) spos.line X.env=pure true)(hc:X.calm=true)(S:dq X.env scope)(hs:∀x,foldedSetIterable e X.env x=pure x)(p:X.N.Nodup)(hi:nameAt X.N y=↑j)(u:X.env.scope.names.lookup y=↑.local)(h:EV X e σ H λv H1=>∃l xs,v=.ref l/\θ X.K H1 l xs/\↥xs<=ϳ/\VF X N' scope tg elt σ σ' Kx H1 (λv H'=>D.nx (σ.set j ↑v) H') ↥xs λi H2 x o=>xs[i]?=↑x/\H2=o):SX X (.Assign [.Name y py] (.ListComp elt [#[tg,e,[],0]] scope pos) spos) D σ H:=by
 show abT (N':=N') f g m n hc S hs p hi u (rm (bC h λv H1 q=>?_));let#[l,xs,rfl,a,z,B]:=q;show#[l,rfl,#[xs,a],?_];rw[c];show afB (J:=jU X.K l) (Q:=λv H'=>D.nx (σ.set j ↑v) H') z (λi H2 s hi=>#[xs,xs[i],ζ.seq s a,aad hi]) (λH2 s=>#[xs,ζ.seq s a,Ϭ _]) (λi H2 x o hi s y=>#[y.2 xs (ζ.seq s a),y.1.symm]) B
def KC{K:ϩ}(h:j9 K C L=true):∃cd,asH K C=↑cd/\cd.hasDict=true/\cd.mro=.ref C:: .ref L::eY:=by
 let#[cd,h1,h2]:=as6 h;rw[acF,beq_iff_eq]at h2;show#[cd,h1,h2.1,h2.2]
section
variable{prog:ϲ}{w:Ϯ}{A:ϴ}{E:ε->ν->Prop}{s:ν}{K:ϩ}{x C L:δ}{ox:Obj}{vs:Array ε}{name:Str}{v:ε}
def ajM(X:K.In s.heap)(n:s.heap.get? x=↑ox)(hc:ox.cls=.ref C)(q:ox.data=.fields vs)(hd:ox.dict=none)(hs:afu K (.ref C) "__setattr__"=some ↑(.builtin "object.__setattr__"))(P:j9 K C L=true)(R:asd K C name=↑none)(h:∀h' tk,h'.get? x=some {ox with dict:=↑⇑s}->h'.Ns1 ⇑s (λy=>if y=name then some v else none)->(∀b o,b≠x->s.heap.get? b=↑o->h'.get? b=↑o)->Q PUnit.unit {s with heap:=h',toks:=tk}):Ϧ (Ϩ prog w) A (setAttr (.ref x) name v) Q E s:=by
 let#[cd,g,u,f]:=KC P;let I:as5 s.heap x ox C none:=#[n,hc,by unfold auc;rw[q],by rw[hd];trivial];show W.set_plain X I hs ?_;let i:=F.store_object;let sub:atV (Ϩ prog w) s.heap (isInstance (.ref x) (.type "object")) true:=I.type.andThen (atX X (by unfold an5;rw[g,arA,f];rfl));show ao4 i.slot.plain i.entry (@W.check_slot (Ϩ prog w) _ _ {s with toks:=s.toks+1} "object.__setattr__" "object" "__setattr__" (.ref x) [.str name s.toks,v] [] _ i.kind i.split sub (i.args (.ref x) (.str name s.toks) v) ?_);let#[attr,S,T]:=Option.bind_eq_some_iff.mp R;let z:atV (Ϩ prog w) s.heap (mroOf (.ref C)) cd.mro:=(atg X g).andThen .now;let U:atV (Ϩ prog w) s.heap (Builtin.ObjectAttr.storeTaker? attr) none:=by
  cases attr with
  |none=>show .now
  |some a=>
   let#[b,p,e]:=ahh.mp T;show(W.looks_takesIn X p).andThen ?_;cases b
   .show .now
   .cases e
 rw[W.osa_eq,refuse_eq];show π (π (W.Looks.here (s:={s with toks:=s.toks+1}) I.type (π (W.Looks.here (s:={s with toks:=s.toks+1}) z ?_))));rw[f,refuseLoop_ref,refuseLoop_ref,F.store_ValueError.passes];show ϱ (π (W.Looks.here (s:={s with toks:=s.toks+1}) I.type (π (W.Looks.here (s:={s with toks:=s.toks+1}) (asq X S) (π (W.Looks.here (s:={s with toks:=s.toks+1}) U ?_))))));let#[oc,od,Y,B]:=ox;dsimp only at hc q hd;subst hc q hd;show π (ϱ (π (π (wpAny_loadPart (s:={s with toks:=s.toks+1}) n (π (W.Looks.here (s:={s with toks:=s.toks+1}) (atg X g) ?_))))));rw[u];rw[if_neg (by decide)];show Ϧ _ _ (if(!true|| !typeHasDict (Value.ref C))=true then pure none else(alloc {cls:=.type "dict",data:=.dict #v[]}>>=λd=>update x (λo=>{o with dict:=↑d})>>=λ_=>dictMade (Value.ref C) x d)) _ _ _;rw[if_neg (by simp[typeHasDict])];let c:(s.heap.push {cls:=.type "dict",data:=.dict #v[]}).get? x=some {cls:=.ref C,data:=.fields vs,slots:=B}:=aaS _ n;let j:x≠⇑s:=adn (adw n);show π (wpAny_alloc (s:={s with toks:=s.toks+1}) ?_)*>π (wpAny_update (s:={s with heap:=s.heap.push {cls:=.type "dict",data:=.dict #v[]},toks:=s.toks+1}) c ?_)*>ϱ ?_;let D:((s.heap.push {cls:=.type "dict",data:=.dict #v[]}).update x λo=>{o with dict:=↑⇑s}).get? ⇑s=some {cls:=.type "dict",data:=.dict #v[]}:=
  (an7 _ _ _ _ j.symm).trans (ato rfl rfl)
 let G:((s.heap.push {cls:=.type "dict",data:=.dict #v[]}).update x λo=>{o with dict:=↑⇑s}).Ns ⇑s (λ_=>none):=
  #[_, #v[],_,D,rfl,λe Z=>absurd Z (by simp),λ_=>rfl]
 show Ϧ _ _ (Builtin.ObjectAttr.storeInDict ⇑s (.str name s.toks) name v) _ _ _;unfold Builtin.ObjectAttr.storeInDict Builtin.ObjectAttr.newKeyGuard;show π (ϱ (π (wpAny_nsSet1 (s:={s with heap:=(s.heap.push {cls:=.type "dict",data:=.dict #v[]}).update x λo=>{o with dict:=↑⇑s},toks:=s.toks+1}) (Heap.Ns1.of_empty G) λh' l m=>?_)));let#[oD,esD,epD,H,J,M]:=l.count (Within.cons name v Within.nil);show π (wpAny_lookBehind H (by rw[J];show pastItsLine_dict (afG M (by rw[acz,atH,ϯ];omega))) ?_)*>ϱ (h h' _ ?_ l λb ob O p=>?_)
 .show(m.2 x j).trans (afa _ c rfl)
 .show(m.2 b (adn (adw p))).trans ((an7 _ _ _ _ O)<|>(aaS _ p))
end
theorem Ke{K:ϩ}{h:ϫ}(kin:K.In h)(e:pR K C f=true):∃bm N nm q bs hdct sn sub ab col dd k0 k1 k2 k3 k5 mN,h.get? C=↑(excClassObj nm q C N bs bm hdct sn sub ab col dd k0 k1 k2 k3 k5 "ValueError.__new__")/\h.Ns N mN/\mN "__init__"=↑(.ref f)/\OwnTail h eY bm:=Y5 kin e
section
variable{prog:ϲ}{w:Ϯ}{A:ϴ}{E:ε->ν->Prop}{h:ϫ}{g:Array GenState}{d:Drawn}{t:Nat}{os:OsState}
variable{nm q:Str}{C N x:δ}{bs bm:List ε}{hdct:Bool}{sn:List Str}{sub:List ε}{ab:Bool}{col:Option Bool}{dd:Option δ}{k0 k1 k2 k3 k5:Option ε}{ox:Obj}{vs:Array ε}{v:ε}
def aeI(T:OwnTail h eY bm)(e:h.get? C=↑(excClassObj nm q C N bs bm hdct sn sub ab col dd k0 k1 k2 k3 k5 "ValueError.__new__"))(c:h.get? x=some {cls:=.ref C,data:=.fields #v[.ref t0,.none,.none,.none,.bool false,.none]})(f:∀h' i,h'.get? x=some {cls:=.ref C,data:=.fields #v[.ref i,.none,.none,.none,.bool false,.none]}->(∀b o,b≠x->h.get? b=↑o->h'.get? b=↑o)->Q .none #[h',g,d,t,os]):Ϧ (Ϩ prog w) A (call (.builtin "ValueError.__init__") [.ref x,v]) Q E #[h,g,d,t,os]:=by
 let a:=F.excBase_ValueError;show aol (ao4 a.init.plain a.initEntry (wpAny_check_init_subT a T e c rfl ?_))
 wp_walk
 show f _ h.objs.size ?_ λb o j q=>?_
 .rw[afa _ (aaS _ c) rfl];rfl
 .rw[acH<*(Ne.symm j)];show aaS _ q
def alY{rest:List ε}{fI:δ}{oI:Obj}{Q:Fin->ν->Prop}(T:OwnTail h eY bm)(l:h.get? C=↑(excClassObj nm q C N bs bm hdct sn sub ab col dd k0 k1 k2 k3 k5 "ValueError.__new__"))(v:h.Ns N mN)(hi:mN "__init__"=↑(.ref fI))(p:h.get? fI=↑oI)(s:oI.cls=.type "function")(y:∀h' e,ata h h' e (.ref C) rest->Ϧ (Ϩ prog w) A (call (.ref fI) (.ref e::rest)) (λr s'=>r=.none/\Q (.done (.ret (.ref e))) s') E #[h',g,d,t,os])(hrest:↥rest<=ϳ):Ϧ (Ϩ prog w) A (aos.«type.__call__» #[.ref C::rest,[]]) Q E #[h,g,d,t,os]:=by
 let m:=F.excBase_ValueError
 repeat (first|with_reducible show aiQ l ?_|with_reducible show wpAny_madeBy_exc l ?_|wp_step)
 show codeAny_call_builtin_code (Code.quiet_builtin _ m.quiet) (wpAny_check_new_subT m T l ?_)*>codeAny_exc_new_subT m T l ?_ hrest*>Ϧ _ _ _ _ _ _;generalize i:(h.push {cls:=.type "tuple",data:=.seq rest.toArray}).push {cls:=.ref C,data:=.fields #v[.ref h.objs.size,.none,.none,.none,.bool false,.none]}=h1;let a:∀b o,h.get? b=↑o->h1.get? b=↑o:=λb o e=>by rw[<-i];show aaS _ (aaS _ e)
 let c:=a _ _ l;let j:h1.Ns N mN:=let⟨o,es,ep,e,r⟩:=v;#[o,es,ep,a<*e,r];let f:h1.get? (h.objs.size+1)=some {cls:=.ref C,data:=.fields #v[.ref h.objs.size,.none,.none,.none,.bool false,.none]}:=by rw[<-i];heap_get
 let u:(Value.ref C::bm).contains (.ref C)=true:=by simp
 let n:=T.keeps a;unfold isInstance
 repeat (first|with_reducible show aiQ f ?_|(with_reducible show apj c ?_;rw[u])|wp_step)
 show Ϧ _ _ (typeLookup (.ref C) _) _ _ _*>wpAny_typeLookup_tail c j n m.mroIs m.init.lookup ?_;rw[hi];show aed (π ?_);unfold bindSpecial;show π (wpAny_typeOf (T:="function") #[_,a<*p,s] ?_);rw[if_pos (by decide)];show ϱ (π (adK (y h1 (h.objs.size+1) #[a,alb (aoW _),h.objs.size,f,alb (Ϭ _),?_]) (λr s' z=>?_) λ_ _ x=>x))
 .rw[<-i];show aaS _ (ato rfl rfl)
 .let#[rfl,B]:=z
  wp_walk
  show B
def W8{rest:List ε}{fI:δ}{oI:Obj}{Q:ε->ν->Prop}(T:OwnTail h eY bm)(a:h.get? C=↑(excClassObj nm q C N bs bm hdct sn sub ab col dd k0 k1 k2 k3 k5 "ValueError.__new__"))(i:h.Ns N mN)(hi:mN "__init__"=↑(.ref fI))(c:h.get? fI=↑oI)(f:oI.cls=.type "function")(j:∀h' e,ata h h' e (.ref C) rest->Ϧ (Ϩ prog w) (A.under (.builtin "type.__call__" #[.ref C::rest,[]])) (call (.ref fI) (.ref e::rest)) (λr s'=>r=.none/\Q (.ref e) s') E #[h',g,d,t,os])(hrest:↥rest<=ϳ):Ϧ (Ϩ prog w) A (call (.ref C) rest) Q E #[h,g,d,t,os]:=by
 let l:=tc_lookup;let m:=tc_bind (.ref C);let n:(#[h,g,d,t,os]:ν).TypeIs (.ref C) "type":=#[_,a,rfl];show aol (codeAny_of_tree ?_)*>Ϧ _ _ (callAny (.ref C) _) _ _ _
 repeat (any_goals (first|assumption|with_reducible show aiQ a ?_|wp_step))
 show#[rfl,?_]*>codeAny_call_builtin_at (Code.quiet_builtin _ (by fin2)) entry_typeCall (wpAny_check_type_call_sub a (alY T a i hi c f j hrest))
end
def aiI(c:bm.contains (.type "BaseException")=true)(j:A.handled=none)(h:Ϧ M A x (λv a=>∃e t D,v=.ref e/\a.heap.get? C=↑(excClassObj nm q C N bs bm hdct sn sub ab col dd k0 k1 k2 k3 k5 "ValueError.__new__")/\
   a.heap.get? e=some {cls:=.ref C,dict:=D,data:=.fields #v[.ref t,.none,.none,.none,.bool false,.none]}/\E (.ref e) a) E s):Ϧ M A (raiseStmt env ↑x none) Q E s:=by
 let f:(Value.ref C::bm).contains (.type "BaseException")=true:=by rw[ak3,c,at5]
 unfold raiseStmt;show π (adK h (λv a h₁=>?_) λ_ _ x=>x);let#[e,t,D,rfl,i,l,m]:=h₁;let#[hp,g,d,tk,os]:=a
 repeat (first|with_reducible show aiQ l ?_|with_reducible show aiQ i ?_|(with_reducible show apj i ?_;rw[f])|wp_step)
 show wpAny_raiseNew_none j m
def xo(e C:δ)(D:Option δ):HO:=.ext λh=>∃t,h.get? e=some {cls:=.ref C,dict:=D,data:=.fields #v[.ref t,.none,.none,.none,.bool false,.none]}
def iB(H:Hp)(e:δ):Hp:=λb=>if b=e then none else H b
def gU(h:b≠e):iB H e b=H b:=by unfold iB;rw[if_neg h]
def yS:iB H e e=none:=by unfold iB;rw[if_pos rfl]
theorem Cr(q:h.get? e=some {cls:=.ref C,dict:=D,data:=.fields #v[.ref t,.none,.none,.none,.bool false,.none]}):Ϝ P w H h e (xo e C D):=
 #[#[t,q],#[_,q],λh1 h2 z k=>by let#[t,q]:=z;show #[t,k _ q]]
section
variable{X:Cx}{ϵ:List (δ×Obj)}{σ:St}{H:Hp}{s:ν}{e:δ}{φ:ϫ->Prop}
def Inv.adopt(I:Inv X ϵ σ H s)(a:H e=none)(c:Ch X ϵ e)(ok:Ϝ X.prog X.w (upd H e (.ext φ)) s.heap e (.ext φ)):Inv X ϵ σ (upd H e (.ext φ)) s:=by
 let ne:∀b u,H b=↑u->b≠e:=λb u q=>ϔ q a
 have:=I.step (h':=s.heap) (H':=upd H e (.ext φ)) (g':=s.gens) (d':=s.drawn) (t':=s.toks) (ch:=[e]) (λb f=>?_) (λb o _ _ _ q _=>q) (λb o _ _ _ q _=>#[o.slots,q]) (λb o hc _ n=>?_) (λb o _ q=>#[o,q]) (λb xs q=>?_) (λb o u q=>?_) (λb ps q=>?_) (λm q=>q) (λb u q=>?_) I.bare
 .show this
 .let z:b=e:= ~~~f
  subst z;show c
 .rw[ξ (λz=>hc (by simp[z]))];show n
 .rw[ξ (ne<*q)];show q
 .rw[ξ (ne<*q)];show q
 .show#[#v[],by rw[ξ (ne<*q),q];simp]
 .by_cases z:b=e
  .subst z;rw[υ]at q;cases q;show ok
  .rw[ξ z]at q;show(I.hok b u q).stay (λ_ _ _ r=>r) (λc r=>by rw[ξ (ne<*r)];show r) (λc xs r=>by rw[ξ (ne<*r)];show r) λc g v r=>by rw[ξ (ne<*r)];show r
def Inv.forget(I:Inv X ϵ σ H s)(a:H e=↑(.ext φ))(c:Ch X ϵ e):Inv X ϵ σ (iB H e) s:=by
 have:=I.step (h':=s.heap) (H':=iB H e) (g':=s.gens) (d':=s.drawn) (t':=s.toks) (ch:=[e]) (λb f=>?_) (λb o _ _ _ q _=>q) (λb o _ _ _ q _=>#[o.slots,q]) (λb o hc _ n=>?_) (λb o _ q=>#[o,q]) (λb xs q=>?_) (λb o u q=>?_) (λb ps q=>?_) (λm q=>q) (λb u q=>?_) I.bare
 .show this
 .let z:b=e:= ~~~f
  subst z;show c
 .rw[gU (λz=>hc (by simp[z]))];show n
 .rw[gU (λz=>by rw[z,a]at q;cases q)];show q
 .rw[gU (λz=>by rw[z,a]at q;cases q)];show q
 .show#[#v[],by rw[gU (λz=>by rw[z,a]at q;cases q),q];simp]
 .by_cases z:b=e
  .subst z;rw[yS]at q;cases q
  .rw[gU z]at q;show(I.hok b u q).stay (λ_ _ _ r=>r) (λc r=>by rw[gU (λz=>by rw[z,a]at r;cases r)];show r) (λc xs r=>by rw[gU (λz=>by rw[z,a]at r;cases r)];show r) λc g v r=>by rw[gU (λz=>by rw[z,a]at r;cases r)];show r
end
def yI(C:δ)(fld:Str):Sp:=λvs H Q _=>∃e n,vs=[.ref e,.int n]/\n.natAbs<10^60/\H e=↑(xo e C none)/\
 ∀D H',D≠e->H D=none->(∀b o,b≠e->H b=↑o->H' b=↑o)->H' e=↑(xo e C ↑D)->H' D=↑(.xd [(fld,.int n)])->Q .non H'
section
variable{X:Cx}{σ:St}{H:Hp}{Q:VK}{D:Ends}{Lx x f fld:Str}{np apos pos pos' cpos:Pos}{a o value:Ϫ}{es:List Ϫ}{Kx:St->XK}
def v7{pl:Sem Bool}(B:XBase X.K X.mg Lx)(h:EA X (a::es) σ H λvs H1=>CL X (.builtin "ValueError.__init__") vs H1 Q)(j:Gl X Lx:=by rfl)(hd:(Lx==("__debug__":Str))=false:=by decide)(e:acv (a::es) X.env=(false,eval a X.env)::acv es X.env:=by rfl)(g:(backTo pos (acv es X.env)).any (·.1)=false:=by rfl)(l:eval (.Call (.Attribute (.Name Lx np) "__init__" apos) (a::es) [] pos) X.env=(do
   let i<-eval (.Name Lx np) X.env
   standAt apos.atName
   let(f,first)<-holding [i] (getMethod i "__init__" pl)
   callWith pos f first (backTo pos (acv (a::es) X.env)) (backToKw pos (keywordEach [] X.env))):=by rfl):EV X (.Call (.Attribute (.Name Lx np) "__init__" apos) (a::es) [] pos) σ H Q:=by
 intro ϵ s I;show ash (pl:=pl) (fU I j B.at_ ?_ hd) l*>W.method_cls I.kIn B.ga (W.cls_value I.kIn B.reads B.ini (by fin2) ?_);let m:=I.tok (s.toks+1);let h':=h pos ϵ _ m;rw[e]at h'⊢;show Calls.callWith_builtin (by show(false||(backTo pos (acv es X.env)).any (·.1))=false;rw[g];rfl) (Calls.evalArgs_plain ?_)*>ψ h' λus n o=>?_
 let#[vs,H2,p,q,c,h1,u]:=o;show h1 ϵ n σ H2 vs us Q p q u
def uV(hi:pR X.K C i=true)(a:H e=↑(xo e C none))(q:Q .non H):CL X (.builtin "ValueError.__init__") [.ref e,v] H Q:=by
 show cV (r:=λxs H Q=>∃e v,xs=[.ref e,v]/\H e=↑(xo e C none)/\Q .non H) ?_ #[e,v,rfl,a,q];intro ϵ s σ H xs us Q I r h;let#[e,v,rfl,a,q]:=h;let#[j,y,rfl,r1,B]:=vals2 r;cases(show j=Value.ref e from r1);let#[bm,N,nm,D,bs,hdct,sn,sub,ab,col,dd,k0,k1,k2,k3,k5,mN,l,E,m,T]:=Ke I.kIn hi;let#[#[t,p],_,_]:=I.hok e _ a;let#[hp,g,d,tk,os]:=s;show aeI T l p λh' F h1 k=>?_
 let f:=I.write (x:=e) (e:=e) (o:=xo e C none) (h':=h') (t':=tk) (by rw[a];trivial) (.inl rfl) (λb u n q=>k b u n q) #[_,h1] (Cr h1);let c:upd H e (xo e C none)=H:=by
  funext b;unfold upd;split
  .rename_i z;rw[z,a]
  .rfl
 rw[c]at f;show#[.non,H,f,rfl,q]
def uN(hs:afu X.K (.ref C) "__setattr__"=some ↑(.builtin "object.__setattr__"))(O:j9 X.K C L=true)(P:asd X.K C f=↑none)(h:EV X value σ H λy H1=>EV X o σ H1 λx H2=>∃e,x=.ref e/\H2 e=↑(xo e C none)/\∀E',H2 E'=none->E'≠e->D.nx σ (upd (upd H2 E' (.xd [(f,y)])) e (xo e C ↑E')))(B:aoH value ↑(.Attribute o f pos') pos.line X.env=pure false:=by rfl):SX X (.Assign [.Attribute o f pos'] value pos) D σ H:=by
 intro ϵ s I;show plainObj_wpAny_Assign_Attribute (ψ (h ϵ s I) λu Q _u=>_Z.e23 _u λy H1 R ry q=>ψ (q ϵ Q R) λS g T=>?_) B;let#[x,H2,i,rx,e,ex,a,U]:=T;subst ex;obtain rfl:S=Value.ref e:=rx;let#[#[t,E],_,_]:=i.hok e _ a;show ajM i.kIn E rfl rfl rfl hs O P λh' tk J W l=>?_
 let p:H2 ⇑g=none:=i.hok.fresh (Ϭ _);let Y:⇑g≠e:=λz=>by rw[z]at p;rw[p]at a;cases a
 let ne:∀b u,H2 b=↑u->u≠xo e C none->b≠e:=λb u q n z=>by rw[z,a]at q;cases q;show n rfl
 let j:∀b u,H2 b=↑u->b≠⇑g:=λb u q=>ϔ q p
 show#[σ,_,?_,U ⇑g p Y]*>i.step (h':=h') (g':=g.gens) (d':=g.drawn) (t':=tk) (ch:=[]) (λb Z=>absurd Z (by simp)) (λb o _ _ _ q n=>l b o (λz=>by rw[z,a]at n;cases n) q) (λb o _ _ _ q n=>#[o.slots,l b o (λz=>by rw[z,a]at n;cases n) q]) (λb o _ q n=>?_) (λb o _ q=>?_) (λb xs q=>?_) (λb o u q=>?_) (λb ps q=>?_) (λm F=>?_) (λb u q=>?_) i.bare
 .rw[ξ (λz=>by rw[z,a]at n;cases n),ξ (adn (adw q))];show n
 .by_cases z:b=e
  .subst z;show#[_,J]
  .show#[o,l b o z q]
 .rw[ξ (ne _ _ q (λz=>nomatch z)),ξ (j<*q)];show q
 .rw[ξ (ne _ _ q (λz=>nomatch z)),ξ (j<*q)];show q
 .show#[#v[],by rw[ξ (ne _ _ q (λz=>nomatch z)),ξ (j<*q),q];simp]
 .let#[o,es,ep,ho,r]:=F;show#[o,es,ep,l _ _ (λz=>by have:=i.free;rw[z,a]at this;cases this) ho,r]
 .by_cases z:b=e
  .subst z;rw[υ]at q;cases q;show Cr J
  .rw[ξ z]at q;by_cases M:b=⇑g
   .subst M;rw[υ]at q;cases q;show#[_,W,λn=>?_];by_cases G:n=f
    .subst G;simp only[if_true,ahj,beq_self_eq_true];show ry
    .rw[if_neg G,ahj,beq_eq_false_iff_ne.mpr G];trivial
   .rw[ξ M]at q;show(i.hok b u q).stay (λc v hc r=>l c v ?_ r) (λc r=>?_) (λc xs r=>?_) λc ob v r=>?_
    .obtain y|y:=hc
     .rw[y];show z
     .show ne _ _ y (λz=>nomatch z)
    .rw[ξ (ne _ _ r (λz=>nomatch z)),ξ (j<*r)];show r
    .rw[ξ (ne _ _ r (λz=>nomatch z)),ξ (j<*r)];show r
    .rw[ξ (ne _ _ r (λz=>nomatch z)),ξ (j<*r)];show r
end
structure mU(P:ϲ)(w:Ϯ)(K:ϩ)(mg:MG)(base:ϫ)(cc:Bool)(k:Nat)(x fld:Str):Prop where
 at_:mg x=↑(.ref (η mg x))
 ex:∃f fd ps oc od osl,dJ P w K mg base (cJ P w) cc k f fd ps (yI (η mg x) fld)/\Binds K fd ps []/\pR K (η mg x) f=true/\K.lookup f=some #[oc,od,.func fd,osl]/\oc=.type "function"
def ajj(n:bm.contains (.type "BaseException")=true)(J:A.handled=none)(l:(backTo cpos (acv i env)).any (·.1)=false)(hi:mN "__init__"=↑(.ref fI))(u:oI.cls=.type "function")(h:Ϧ (Ϩ prog w) A (eval (.Name x np) env) (λf m=>f=.ref C/\Ϧ (Ϩ prog w) A (evalArgs (.ref C) true (backTo cpos (acv i env)) [])
   (λa c=>a.kw=[]/\↥a.pos<=ϳ/\c.heap.get? C=↑(excClassObj nm q C N bs bm hdct sn sub ab col dd k0 k1 k2 k3 k5 "ValueError.__new__")/\c.heap.Ns N mN/\OwnTail c.heap eY bm/\c.heap.get? fI=↑oI/\
    ∀h' e,ata c.heap h' e (.ref C) a.pos->Ϧ (Ϩ prog w) (A.under (.builtin "type.__call__" #[.ref C::a.pos,[]])) (call (.ref fI) (.ref e::a.pos))
     (λr s'=>r=.none/\∃t D,s'.heap.get? C=↑(excClassObj nm q C N bs bm hdct sn sub ab col dd k0 k1 k2 k3 k5 "ValueError.__new__")/\
      s'.heap.get? e=some {cls:=.ref C,dict:=D,data:=.fields #v[.ref t,.none,.none,.none,.bool false,.none]}/\E (.ref e) s') E {c with heap:=h'}) E m) E s):Ϧ (Ϩ prog w) A (exec (.Raise ↑(.Call (.Name x np) i [] cpos) none pos) env) Q E s:=by
 rw[arm_exec_Raise];show π (aif (aiI (C:=C) (nm:=nm) (q:=q) (N:=N) (bs:=bs) (bm:=bm) (hdct:=hdct) (sn:=sn) (sub:=sub) (ab:=ab) (col:=col) (dd:=dd) (k0:=k0) (k1:=k1) (k2:=k2) (k3:=k3) (k5:=k5) n J ?_))*>π (adK (wpAny_Call_ofName (adK h (λf m h₁=>?_) λ_ _ x=>x)) (λv G o=>π (aif (ϱ o))) λ_ _ x=>x);let#[rfl,h₁]:=h₁;unfold callWith;show π (aed (adK h₁ (λa c j=>π (aif ?_)) λ_ _ x=>x));let#[apos,y]:=a;let#[B,p,H,L,T,F,j]:=j;obtain rfl:y=[]:=B;let#[hp,g,d,tk,os]:=c;simp only[l];show π (wpAny_keeperOf_exc H ?_)*>π (W8 T H L hi F u (λh' e M=>?_) p)*>adK (j h' e M) (λr s' I=>#[I.1,?_]) λ_ _ z=>z
 let#[t,D,O,P,R]:=I.2;show π (aed (wpAny_point (ϱ #[e,t,D,rfl,O,P,R])))
section
variable{X:Cx}{Kx:St->XK}{D:Ends}{σ:St}{H:Hp}{x fld:Str}{np cpos pos:Pos}{e:Ϫ}{es:List Ϫ}{cc bw:Bool}{k k':Nat}
def qF(O:mU X.prog X.w X.K X.mg X.base bw k x fld)(hr:ϓ cc k' X.A)(G:bw=true->cc=true)(hx:bz X Kx)(h:EA X (e::es) σ H λvs H1=>∃n,vs=[.int n]/\n.natAbs<10^60/\∀E' H',ζ H1 H'->H' E'=↑(.xd [(fld,.int n)])->Kx σ (.ref (η X.mg x)) (↑E',true) H')(hk:k+1<=k':=by decide)(hc:X.calm=true:=by rfl)(hg:Gl X x:=by rfl)(hd:(x==("__debug__":Str))=false:=by decide)(he:acv (e::es) X.env=(false,eval e X.env)::acv es X.env:=by rfl)(J:(backTo cpos (acv es X.env)).any (·.1)=false:=by rfl):SX X (.Raise ↑(.Call (.Name x np) (e::es) [] cpos) none pos) D σ H:=by
 intro ϵ s I;let#[f,fd,ps,oc,od,L,Fn,j,hi,P,Q]:=O.ex;let#[bm,N,nm,q,bs,hdct,sn,sub,ab,col,dd,k0,k1,k2,k3,k5,mN,hC,hN,R,T]:=Ke I.ok.mod.kin hi;let S:ϓ bw (k+1) X.A:=(hr.mono hk).pW G;show ajj (C:=η X.mg x) (nm:=nm) (q:=q) (N:=N) (bs:=bs) (bm:=bm) (hdct:=hdct) (sn:=sn) (sub:=sub) (ab:=ab) (col:=col) (dd:=dd) (k0:=k0) (k1:=k1) (k2:=k2) (k3:=k3) (k5:=k5) (mN:=mN) (fI:=f) (oI:=#[oc,od,.func fd,L])
  (T.hasType (by fin2)) (I.ok.hd hc) ?_ R Q (fU I hg O.at_ #[rfl,?_] hd)
 .rw[he];show(false||(backTo cpos (acv es X.env)).any (·.1))=false;rw[J];rfl
 .let h':=h cpos ϵ s I;rw[he]at h'⊢;show Calls.evalArgs_plain (ψ h' λus l hZ=>?_);let#[vs,H1,g,r,n,U,hn,kq]:=hZ;subst U;let#[u,rfl,ru]:=vals1 r;show#[rfl,Ξ,g.bk<*hC,hN.keeps g.bk,T.keeps g.bk,g.kIn<*P,λF a M=>?_];let#[t,m1,m2,m3]:=M.there;let c:H1 a=none:=g.hok.free M.new;let i:Ch X ϵ a:=g.ch M.new;let I3:Inv X ϵ σ H1 {l with heap:=F}:=g.kept (t':=l.toks) M.keeps;let W:Inv X ϵ σ (upd H1 a (xo a (η X.mg x) none)) {l with heap:=F}:=I3.adopt c i (Cr m1);let rv:Vals [V.ref a,.int n] [Value.ref a,u]:=.cons rfl (.cons ru .nil);let m:yI (η X.mg x) fld [V.ref a,.int n] (upd H1 a (xo a (η X.mg x) none)) (λv H'=>v=.non/\∃E',H' a=↑(xo a (η X.mg x) ↑E')/\H' E'=↑(.xd [(fld,.int n)])/\E'≠a/\∀b o,b≠a->H1 b=↑o->H' b=↑o) (λ_ _ _=>False):=
   #[a,n,rfl,hn,υ,λE' H' h1 h2 Y h4 h5=>#[rfl,E',h4,h5,h1,λb o j q=>Y b o j (by rw[ξ j];show q)]]
  let hl:↥([Value.ref a,u]:List ε)=↥ps:=by rw[<-↥rv];show Fn.len _ _ _ _ m
  let p:=j {l with heap:=F} [Value.ref a,u] W.kIn (~~~hl);rw[aiD]at p;show aol (akW (Fn.run (X.A.under (.builtin "type.__call__" #[.ref (η X.mg x)::[u],[]])) X.stack {l with heap:=F} _ #[[Value.ref a,u],[]] [Value.ref a,u] [V.ref a,.int n] _ (λ_ _ _=>False) (S.make (η X.mg x) [u] [])
   (W.env0.make (η X.mg x) [u] []) p rv m) λr s' y=>?_)
  cases r with
  |error e=>show(cJ.never y).elim
  |ok fl=>
   cases fl with
   |ret v=>
    let#[v',H',Z,rr,U,E',g1,g2,g3,g4]:=W.after y;subst U;let#[#[t',B],_,_]:=Z.hok a _ g1;let I6:=Z.forget g1 i;show#[rr,t',↑E',Z.bk<*hC,B,?_]*>hx ϵ σ _ s' a _ (↑E',true) #[I6,none,.none,#[_,_,B,rfl,rfl,rfl,rfl,by simp,Ctx.yes rfl,λT z=>nomatch z],.inl rfl,λb j=>?_] (kq E' _ (λb o q=>?_) ?_)
    .let z:b=a:= ~~~j
     subst z;show#[yS,i]
    .let E:b≠a:=ϔ q c;rw[gU E];show g4 b o E q
    .rw[gU g3];show g2
   |next=>show False.elim y
   |brk=>show False.elim y
   |cont=>show False.elim y
end
section
variable{prog:ϲ}{w:Ϯ}{A:ϴ}{E:ε->ν->Prop}{s:ν}{K:ϩ}{x C:δ}{ox:Obj}{od:Option Obj}{name:Str}{v:ε}
theorem Qv{fill a:Bool}{Q:ε->ν->Prop}(X:K.In s.heap)(I:as5 s.heap x ox C od)(c:qz K C)(h:Ϧ (Ϩ prog w) A.in1 (aos.«object.__getattribute__» #[[.ref x,.str name tk],[]]) (λe s'=>match e with
   |.done (.ret v)=>Ϧ (Ϩ prog w) A (handedOut v) Q E s'
   |_=>False) (λ_ _=>False) s):Ϧ (Ϩ prog w) A (getAttrBy (.ref x) (.str name tk) fill a) Q E s:=by
 let FB:=F.attrBase_ValueError;let sub:atV (Ϩ prog w) s.heap (isInstance (.ref x) (.type "BaseException")) true:=I.type.andThen (atX X c.mb);unfold getAttrBy;show aed (π (I.type.here (π ((asq X c.ga).here ?_))));dsimp only;let f:(Value.builtin "BaseException.__getattribute__"==Value.builtin "object.__getattribute__")=false:=by fin2
 rw[if_neg (by rw[f,atN];show abW)];unfold getAttrByItsOwn hookBefore;rw[if_pos (show onTheHeap (Value.ref C)=true from rfl)];show π ((asq X c.gt).here ?_)*>π (wpAny_attempt (aed ?_));unfold callGetattribute;rw[if_neg (by cases a<;>show abW)];unfold boundAndCalled;rw[FB.ga.bind];show π (ϱ (aol (ao4 FB.ga.plain F.entry_bexc_ga (@W.check_slot (Ϩ prog w) _ _ s "BaseException.__getattribute__" "BaseException" "__getattribute__" (.ref x) [.str name tk] [] _ (by fin2) (by fin2) sub (F.args_bexc_ga _ _) ?_))))*>adK h (λe s' z=>?_) λ_ _ z=>z.elim
 rcases e with(_|_|_|_)|_<;>first|show z|show z.elim
def ac4(X:K.In s.heap)(I:as5 s.heap x ox C od)(a:atJ K C od name=↑(.value v))(h:Q (.done (.ret v)) s):Ϧ (Ϩ prog w) A (aos.«object.__getattribute__» #[[.ref x,.str name tk],[]]) Q E s:=by
 let c:=W.looks_find (M:=Ϩ prog w) X I a;unfold aos.«object.__getattribute__»;show π (ϱ ?_);dsimp only;show π (ϱ (π (I.type.here (π (c.here ?_)))))*>ϱ h
def alw(hc:(asH K C).isSome=true)(c:afu K (.ref C) name=some ↑a)(e:ajo K a "__get__"=some ↑g)(f:asw K a=↑true):atJ K C od name=↑(.bind g a):=by
 let#[cd,hc]:=ang.mp hc;unfold atJ;rw[hc,arA,c,arA];simp[e,f]
def ak2(X:K.In s.heap)(I:as5 s.heap x ox C od)(c:qz K C)(h:Q ↑(.ref C) {s with toks:=s.toks+1}):Ϧ (Ϩ prog w) A (getAttr? (.ref x) "__class__") Q E s:=by
 let a:atJ K C od "__class__"=↑(.bind (.builtin "getset_descriptor.__get__") (.builtin "object.__class__")):=alw (by let#[cd,hc,_]:=as6 c.hd;rw[hc];rfl) c.cl c.cg c.ct;let e:=W.looks_find (M:=Ϩ prog w) X I a;unfold getAttr? getAttrBy?;show π (wpAny_mkText (π (wpAny_attempt (Qv (s:={s with toks:=s.toks+1}) X I c ?_))));unfold aos.«object.__getattribute__»;show π (ϱ ?_);dsimp only;show π (ϱ (π (W.Looks.here (s:={s with toks:=s.toks+1}) I.type (π (W.Looks.here (s:={s with toks:=s.toks+1}) e ?_)))))*>Ϧ _ _ (holding [.builtin "object.__class__"] (call (.builtin "getset_descriptor.__get__") [.builtin "object.__class__",.ref x,.ref C])>>=ret) _ _ _*>π (aed (aol (W.class_get (s:={s with toks:=s.toks+1}) X I c.mo (ϱ ?_))))*>W.handed_on rfl (ϱ h)
theorem W5(c:qz K C):W.KitX K (.ref x) (.ref C) (λh=>∃ox od,as5 h x ox C od)where
 ty:=λ_ _ _ ⟨_,_,I⟩=>I.type
 it:=λ_ _ X _=>by
  let#[f,a,_]:=as6 c.hd;unfold asH at a;split at a
  .rename_i m d' g i j;intro o p E' s' k q;unfold isType loadHead;show π (wpAny_loadPart (k<*(X _ _ j)) (ϱ q))
  .cases a
 ne:=λh tp dd s n sl X l=>by
  let#[f,a,_]:=as6 c.hd;show aj1.mpr λq=>?_
  let e:C=tp:=Value.ref.inj (beq_iff_eq.mp q);subst e;unfold asH at a;split at a
  .rename_i m d' g i j;let z:=(X<*j).symm.trans l;cases z
  .cases a
 ca:=λX z k=>by let#[_,_,I]:=z;show ak2 X I c k
end
def xw(e C:δ)(D:Option δ):HO:=.ext λh=>∃a vs,h.get? e=↑a/\a.cls=.ref C/\a.dict=D/\a.data=.fields vs
theorem abO(q:h.get? e=↑a)(hc:a.cls=.ref C)(hd:a.dict=D)(c:a.data=.fields vs):Ϝ P w H h e (xw e C D):=
 #[#[a,vs,q,hc,hd,c],#[_,q],λh1 h2 z k=>by let#[a,vs,q,r]:=z;show #[a,vs,k _ q,r]]
section
variable{X:Cx}{σ:St}{H:Hp}{Q:VK}{e C:δ}{D:Option δ}{k:Bool}
def Inv.inst(I:Inv X ϵ σ H s)(l:H e=↑(xw e C D))(hd:∀E',D=↑E'->∃fs,H E'=↑(.xd fs)):∃ox od,as5 s.heap e ox C od/\∀E' fs,D=↑E'->H E'=↑(.xd fs)->∃o,od=↑o/\∃mA:Str->Option ε,(∀f,du (fs.lookup f) (mA f))/\∀n,atD n o=↑(mA n):=by
 let#[#[g,vs,q,hc,a,i],_,_]:=I.hok e _ l;cases D with
 |none=>show#[g,none,#[q,hc,by unfold auc;rw[i],by rw[a];trivial],λE' fs z=>nomatch z]
 |some E'=>
  let#[fs,h1]:=hd E' rfl;let#[mA,c,m]:=I.hok E' _ h1;let#[o,p,u]:=Xf c;show#[g,↑o,#[q,hc,by unfold auc;rw[i],by rw[a];show p],λx v z j=>?_];cases z;rw[h1]at j;cases j;show#[o,rfl,mA,m,u]
def km(g:qz X.K C)(a:H e=↑(xw e C D))(hd:∀E',D=↑E'->∃fs,H E'=↑(.xd fs))(i:∀f,RelV c f->f=u)(j:ap9 X.K (.ref C) u=↑k)(q:Q (.bl k) H):CL X (.builtin "isinstance") [.ref e,c] H Q:=by
 show cV (r:=λxs H Q=>xs=[.ref e,c]/\H e=↑(xw e C D)/\(∀E',D=↑E'->∃fs,H E'=↑(.xd fs))/\Q (.bl k) H) ?_ #[rfl,a,hd,q];intro ϵ s σ H xs us Q I r h;let#[rfl,a,hd,q]:=h;let#[l,m,rfl,r1,n]:=vals2 r;cases(show l=Value.ref e from r1);rw[i m n];let#[ox,od,J,_]:=I.inst a hd;show apq (W5 g) I.kIn #[ox,od,J] j (λz=>nomatch z) λtk=>#[.bl k,H,I.tok tk,rfl,q]
def BP(n:qz X.K C)(x:afu X.K (.ref C) f=↑none)(B:∀u,RelV v u->atP u=true)(h:EV X o σ H λy H1=>y=.ref e/\H1 e=↑(xw e C ↑E')/\H1 E'=↑(.xd fs)/\fs.lookup f=↑v/\Q v H1)(D:attributeBase o f X.env (eval o X.env)=eval o X.env:=by rfl):EV X (.Attribute o f pos) σ H Q:=by
 intro ϵ s I;show O5 D (ψ (h ϵ s I) λu i E=>?_);let#[y,H1,j,ry,F,G,p,L,q]:=E;subst F;obtain rfl:u=Value.ref e:=ry;let#[ox,od,J,g]:=j.inst G λO z=>#[fs,by cases z;show p]
 let#[o',rfl,mA,M,l]:=g E' fs rfl p;let a:=M f;rw[L]at a;cases m:mA f with
 |none=>rw[m]at a;cases a
 |some v'=>
  rw[m]at a;let c:RelV v v':=a;unfold getAttr;show π (wpAny_mkText (Qv (s:={i with toks:=i.toks+1}) j.kIn J n (ac4 (s:={i with toks:=i.toks+1}) j.kIn J (atU n.hd x rfl (by rw[l,m])) ?_)))*>W.handed_on (B v' c) #[v,H1,j.tok _,c,q]
end
section
variable{X:Cx}{ϵ:List (δ×Obj)}{σ:St}{H:Hp}{s:ν}{h':ϫ}
def Inv.aln{i:Nat}{m m':MG}{t':Nat}(I:Inv X ϵ σ H s)(E:X.N.Nodup)(hi:X.N[i]?=↑n)(B:σ[i]?=↑none)(F:∀(i:Nat)(x:Str)(v:V),X.N[i]?=↑x->σ[i]?=some ↑v->sS X.env.scope x->∃u,RelV v u/\Look X.env s.heap m x u)(G:h'.Ns X.env.locals m')(J:∀x,x≠n->m' x=m x)(g:∀b o,b≠X.env.locals->s.heap.get? b=↑o->h'.get? b=↑o)(Q:∃o,h'.get? X.env.locals=↑o):Inv X ϵ σ H {s with heap:=h',toks:=t'}:=by
 let f:∀b o,X.s₀.heap.get? b=↑o->b≠X.env.locals:=λb o e=>adn (adk (adw e) I.ok.above)
 let a:∀x c,X.env.cells.lookup x=↑c->∀v,s.heap.IsCell c v->h'.IsCell c v:=λx c e v ⟨o,L,hd⟩=>#[o,g c o (I.cne x c e) L,hd]
 show#[I.ok,I.os,I.bare,#[λb o e n C y=>g b o (f b o e) (I.base.keep b o e n C y),λb o e n C y=>?_,I.base.free,λb o e y=>?_,I.base.tups,I.base.frzs,I.base.tbls],#[m',G,λj x v e1 D M=>?_],λx c e=>?_,I.free,I.freeC,λp hp=>?_,λb u e=>?_,I.len]
 .let#[sl,e1]:=I.base.slot b o e n C y;show#[sl,g b _ (f b o e) e1]
 .let#[o',e1]:=I.base.there b o e y;show#[o',g b o' (f b o e) e1]
 .let#[u,r,l]:=F j x v e1 D M;show#[u,r,?_];let O:x≠n:=λz=>by
   subst z;have:=Jf E e1 hi;subst this;rw[B]at D;cases D
  obtain l|⟨k,c,e,z⟩:=l
  .show .inl #[l.1,by rw[J x O];show l.2]
  .show .inr #[k,c,e,a x c e _ z]
 .let#[v,z]:=I.cell x c e;show#[v,a x c e v z]
 .let#[e,n,ne,P,d]:=I.pin p hp;show#[g _ _ ne e,n,ne,P,d]
 .show(I.hok b u e).stay (λc v hc q=>g c v ?_ q) (λ_ q=>q) λ_ _ q=>q
  obtain z|z:=hc
  .rw[z];show ϔ e I.free
  .show ϔ z I.free
end
section
variable{K:ϩ}{mg:MG}{Lx x y:Str}
def xH(h:XC K mg Lx x)(v:ε):an5 K (η mg x) v=↑((Value.ref (η mg x):: .ref (η mg Lx)::eY).contains v):=by
 let#[cd,h1,_,h2]:=KC h.xc;unfold an5;rw[h1,arA,h2];rfl
def XC.cls(h:XC K mg Lx x):(asH K (η mg x)).isSome=true:=by
 let#[cd,h1,_,h2]:=KC h.xc;rw[h1];rfl
def rP.cls(h:rP K mg x):(asH K (η mg x)).isSome=true:=by
 have:=h.mb;unfold an5 at this;cases e:asH K (η mg x)with
 |none=>rw[e]at this;cases this
 |some cd=>rfl
def K3(t:ε)(h1:(asH K C).isSome=true)(h2:ar9 K (.ref C)=↑(.type "type")):W.kitCls K t (.ref C)=atb K t (.ref C):=by
 show(if((asH K C).isSome&&ar9 K (.ref C)==↑(.type "type"))=true then atb K t (.ref C)else none)=_;rw[if_pos];rw[h1,h2];rfl
def QJ(h:XC K mg Lx x)(g:XC K mg Lx y)(ne:η mg x≠η mg y)(a:η mg Lx≠η mg y):atb K (.ref (η mg x)) (.ref (η mg y))=↑false:=by
 show an5 K (η mg x) (.ref (η mg y))=↑false;rw[xH h];let e1:(Value.ref (η mg y)==Value.ref (η mg x))=false:=beq_eq_false_iff_ne.mpr λz=>ne (Value.ref.inj z).symm
 let c:(Value.ref (η mg y)==Value.ref (η mg Lx))=false:=beq_eq_false_iff_ne.mpr λz=>a (Value.ref.inj z).symm
 rw[ak3,e1,ak3,c];rfl
def acq(h:XC K mg Lx x):atb K (.ref (η mg x)) (.ref (η mg x))=↑true:=by
 show an5 K (η mg x) (.ref (η mg x))=↑true;rw[xH h,ak3,beq_self_eq_true];rfl
def aex(h:XC K mg Lx x):atb K (.ref (η mg x)) (.ref (η mg Lx))=↑true:=by
 show an5 K (η mg x) (.ref (η mg Lx))=↑true;rw[xH h,ak3,ak3,beq_self_eq_true];cases(Value.ref (η mg Lx)==Value.ref (η mg x))<;>rfl
def alV(h:XC K mg Lx x)(g:XC K mg Lx y)(ne:η mg x≠η mg y)(a:η mg Lx≠η mg y):ap9 K (.ref (η mg x)) (.ref (η mg y))=↑false:=by
 unfold ap9;rw[if_neg (by rw[beq_eq_false_iff_ne.mpr λz=>ne (Value.ref.inj z)];show abW),K3 _ g.cls g.ty];show QJ h g ne a
def alc(h:XC K mg Lx x):ap9 K (.ref (η mg x)) (.ref (η mg x))=↑true:=by
 unfold ap9;rw[if_pos (beq_self_eq_true _)]
def QW(g:XC K mg Lx y)(v:ε):ape K v (.ref (η mg y))=atb K v (.ref (η mg y)):=by
 unfold ape;let e:atb K (.ref (η mg y)) (.type "BaseException")=↑true:=by
  show an5 K (η mg y) (.type "BaseException")=↑true;rw[xH g];rfl
 rw[e,if_pos (by decide),K3 _ g.cls g.ty]
def V0(h:XC K mg Lx x):ape K (.ref (η mg x)) (.ref (η mg x))=↑true:=by rw[QW h];show acq h
def vN(h:XC K mg Lx x)(g:XC K mg Lx y)(ne:η mg x≠η mg y)(a:η mg Lx≠η mg y):ape K (.ref (η mg x)) (.ref (η mg y))=↑false:=by rw[QW g];show QJ h g ne a
def anf(h:XC K mg Lx x)(b:rP K mg Lx):ape K (.ref (η mg x)) (.ref (η mg Lx))=↑true:=by
 unfold ape;let e:atb K (.ref (η mg Lx)) (.type "BaseException")=↑true:=b.mb;rw[e,if_pos (by decide),K3 _ b.cls b.ty];show aex h
end
def uL{P:ϲ}{w:Ϯ}{K:ϩ}{mg:MG}{base:ϫ}{cc:Bool}{k:Nat}{Lx x qual fld:Str}{st:ϧ}(O:nZ K mg Lx x qual fld st)(S:Λ N ps (ς st))(l:∀(kV g pm:ε)(an:Option δ)(c ct:ε)(us:List ε),↥us=↥ps->bindArgs (asS "__init__" qual (jx st) (ϣ st) (ς st) .none kV g pm an c ct) #[us,[]]=pure (ps.zip us))(len:↥ps=2)(body:∀(f:δ)(c:ε)(A:ϴ)(outer:List Env)(s:ν)(H:Hp)(vs:List V)(Q:VK)(E:XK),pR K (η mg x) f=true->ϓ cc k (A.deeper (envOfC qual (ς st) ⇑s f c))->yI (η mg x) fld vs H Q E->
   Φ (fD cc P w K mg base N qual (ς st) f c A outer s H E) (ϣ st) {nx:=λ_ H'=>Q .non H',rt:=Q} (start N vs) H):mU P w K mg base cc (k+1) x fld:=by
 let#[f,fd,F,h1,h2]:=O.ex;let#[oc,od,kV,g,pm,an,c,ct,i,e,lk,m]:=id F.ex;show#[O.at_,f,fd,ps,oc,od,i,xf F S (λvs H Q E h=>by let#[a,n,rfl,_]:=h;show len.symm) λc A outer s H vs Q E o h=>body f c A outer s H vs Q E h1 o h,F.binds l,h1,lk,?_];let p:ar9 K (.ref f)=↑(.type "function"):=beq_iff_eq.mp h2;let j:Option.map (λx:Obj=>x.cls) (ajl f K)=↑(.type "function"):=p;rw[lk]at j;show Option.some.inj j
theorem K1:∀{us:List ε}{ys:List Str}{m:Nat}{u:ε},StrsAre us ys->us[m]?=↑u->∃y t,ys[m]?=↑y/\u=.str y t
 |_,_,_,_,.nil,e=>by simp at e
 |_,_,0,u,.cons y t h,e=>by
  simp at e;show#[y,t,rfl,e.symm]
 |_,_,m+1,u,.cons y t h,e=>by
  let#[a,t',e1,c]:=K1 h (~~~e);show#[a,t',~~~e1,c]
def ae3{zs:List Str}{z:Str}{j:Nat}(h:θ X.K H a (zs.map V.str))(f:zs[j]?=↑z)(c:∀m y,m<j->zs[m]?=↑y->¬y=z)(g:Q (.int j) H):MT X "list.index" (.ref a) [.str z] H Q:=by
 show iT (r:=λx xs H Q=>∃a zs z j,x=.ref a/\xs=[.str z]/\θ X.K H a (zs.map V.str)/\zs[j]?=↑z/\(∀m y,m<j->zs[m]?=↑y->¬y=z)/\Q (.int (j:Nat)) H) ?_ #[a,zs,z,j,rfl,rfl,h,f,c,g];intro ϵ s σ H x xs v us Q I rx C h;let#[a,zs,z,j,rfl,rfl,h,f,c,g]:=h;cases rx;let#[u,rfl,D]:=vals1 C;let#[t,rfl]:=D;let#[i,r,#[#[cls,dd,B,sl],n,e,hc,hd,hs],E]:=I.list h;simp only at hc hd hs;subst hc hd hs;let o:=Z2 r;let l:↥i=↥zs:=by have:=↥r;rw[ϰ]at this;show this.symm
 let p:j<i.toArray.size:=by
  rw[ace,l];show(aas.mp f).1
 rw[ϰ]at E;let hsz:=ϯ;let L:j<↥zs:=(aas.mp f).1;show ao3 F.slot_list_index #[_,e,rfl] F.entry_list_index (F.args_list_index_2 _ _) (SeqAt.list_indexAt a i.toArray n _ sl (.str z t) (isStrOf z) j p () ?_ ?_) #[e,λy G=>(eq_isStrOf z t o y (~~~G)).at _ _,?_]
 .let#[y,t',e1,q]:=K1 (m:=j) (u:=i.toArray[j]) o (by simp);rw[q];rw[f]at e1;cases e1;show(z==z)=true;show beq_self_eq_true z
 .intro m M J;let#[y,t',e1,q]:=K1 (m:=m) (u:=i.toArray[m]) o (by simp);rw[q];show(y==z)=false;show beq_eq_false_iff_ne.mpr (c m y J e1)
 .show#[.int j,H,I.tok _,#[_,rfl],g]
def ltV:V->V->Bool
 |.int i,.int j=>decide (i<j)
 |.str x,.str y=>decide (x.cps.toList<y.cps.toList)
 |_,_=>false
structure Ψ(P:ϲ)(w:Ϯ)(K:ϩ)(mg:MG)(base:ϫ)(cc:Bool)(k:Nat)(C:δ)(m:Str)(ps:List Str)(sp:Sp):Prop where
 cls:aH K C
 ex:∃f fd,Meth K C m f/\Binds K fd ps []/\dJ P w K mg base (cJ P w) cc k f fd ps sp
structure pD(P:ϲ)(w:Ϯ)(K:ϩ)(mg:MG)(base:ϫ)(cc:Bool)(k:Nat)(x:Str)(C:δ)(ps:List Str)(sp:Sp):Prop where
 at_:mg x=↑(.ref C)
 ex:∃f fd,Mk K C f/\Binds K fd ps []/\dJ P w K mg base (cJ P w) cc k f fd ps sp
structure xN(P:ϲ)(w:Ϯ)(K:ϩ)(mg:MG)(base:ϫ)(cc:Bool)(k:Nat)(x m:Str)(ps:List Str)(sp:Sp):Prop where
 ex:∃C f fd,mg x=↑(.ref C)/\asA K C (.type "type")=true/\asB K (.ref C) (.type "type") m=↑(.val (.ref f))/\
  ajo K (.ref C) "__getattribute__"=some ↑(.builtin "type.__getattribute__")/\ao7 K (.ref f)=true/\Binds K fd ps []/\dJ P w K mg base (cJ P w) cc k f fd ps sp
section
variable{X:Cx}{σ:St}{H:Hp}{Q:VK}{D:Ends}{x f m:Str}{p np apos pos pos' tpos:Pos}{a e o value:Ϫ}{es:List Ϫ}{Kx:St->XK}{cc:Bool}{k':Nat}
def aQ(h:EV X e σ H λx H1=>∃a C dx fs v,x=.ref a/\H1 a=↑(.ins C dx fs)/\aH X.K C/\ao X.K C f/\fs.lookup f=↑v/\Q v H1)(g:attributeBase e f X.env (eval e X.env)=eval e X.env:=by rfl):EV X (.Attribute e f pos) σ H Q:=by
 intro ϵ s I;show O5 g (ψ (h ϵ s I) λu y i=>?_);let#[x,H1,j,rx,a,C,dx,fs,v,ex,m,c,n,l,q]:=i;subst ex;obtain rfl:u=Value.ref a:=rx;show Yi j m c n l λz B o p=>#[v,H1,o,p,q]
theorem gf(h:EV X value σ H λy H1=>EV X o σ H1 λx H2=>∃a C dx fs,x=.ref a/\H2 a=↑(.ins C dx fs)/\aH X.K C/\ao X.K C f/\↥fs<1000/\D.nx σ (upd H2 a (.ins C dx (aN f y fs))))(hs:aoH value ↑(.Attribute o f pos') pos.line X.env=pure false:=by rfl):SX X (.Assign [.Attribute o f pos'] value pos) D σ H:=
 λϵ s I=>afH iU iU hs ϵ s σ H D I h
theorem adE(h:EV X o σ H λx H1=>∃a C dx fs v,x=.ref a/\H1 a=↑(.ins C dx fs)/\aH X.K C/\ao X.K C f/\fs.lookup f=↑v/\
   EV X value σ H1 λy H2=>Wv v y H2 λz e=>∃c fs',e a=↑(.ins C c fs')/\↥fs'<1000/\D.nx σ (upd e a (.ins C c (aN f z fs')))):SX X (.AugAssign (.Attribute o f tpos) .Add value pos) D σ H:=
 λϵ s I=>aeS iU iU ahz ϵ s σ H D I h
def ϛ{pl:Sem Bool}(v:ϓ cc k' X.A)(y:bz X Kx)(c:acv (e::es) X.env=(false,eval e X.env)::acv es X.env:=by rfl)(g:(backTo pos (acv es X.env)).any (·.1)=false:=by rfl)(z:eval (.Call (.Attribute o m apos) (e::es) [] pos) X.env=(do
   let j<-eval o X.env
   standAt apos.atName
   let(f,first)<-holding [j] (getMethod j m pl)
   callWith pos f first (backTo pos (acv (e::es) X.env)) (backToKw pos (keywordEach [] X.env))):=by rfl)(h:EV X o σ H λx H1=>∃a C dx fs bw k ps sp,x=.ref a/\H1 a=↑(.ins C dx fs)/\fs.lookup m=none/\ Ψ X.prog X.w X.K X.mg X.base bw k C m ps sp/\k<=k'/\(bw=true->cc=true)/\EA X (e::es) σ H1 λvs H2=>sp (x::vs) H2 Q (Kx σ)):EV X (.Call (.Attribute o m apos) (e::es) [] pos) σ H Q:=by
 intro ϵ s I;show ash (pl:=pl) (ψ (h ϵ s I) λu B D=>?_) z;let#[x,H1,l,rx,a,C,dx,fs,bw,k,ps,sp,ex,E,G,M,J,i,q]:=D;subst ex;cases(show u=Value.ref a from rx);let#[f,fd,n,L,F]:=M.ex;show LQ l E M.cls n G ?_*>asT (first:=[.ref a]) (h₀:=X.base) I.ok.mod.kin n.kp (ψ (q pos ϵ B l) λus P _u=>_Z.e23 _u λvs H2 p r O=>#[p.kIn,?_]) c g*>wJ (us:=.ref a::us) (vs:=.ref a::vs) F ((v.mono J).pW i) L y p (.cons rfl r) O
def aA{pl:Sem Bool}(j:ϓ cc k' X.A)(l:bz X Kx)(h:EV X o σ H λx H1=>∃a C dx fs bw k ps sp,x=.ref a/\H1 a=↑(.ins C dx fs)/\fs.lookup m=none/\ Ψ X.prog X.w X.K X.mg X.base bw k C m ps sp/\k<=k'/\(bw=true->cc=true)/\sp [x] H1 Q (Kx σ))(n:eval (.Call (.Attribute o m apos) [] [] pos) X.env=(do
   let g<-eval o X.env
   standAt apos.atName
   let(f,first)<-holding [g] (getMethod g m pl)
   callWith pos f first (backTo pos (acv [] X.env)) (backToKw pos (keywordEach [] X.env))):=by rfl):EV X (.Call (.Attribute o m apos) [] [] pos) σ H Q:=by
 intro ϵ s I;show ash (pl:=pl) (ψ (h ϵ s I) λu D p=>?_) n;let#[x,H1,c,rx,a,C,dx,fs,bw,k,ps,sp,ex,v,y,M,z,e,q]:=p;subst ex;cases(show u=Value.ref a from rx);let#[f,fd,i,B,F]:=M.ex;show LQ c v M.cls i y ?_*>atY (first:=[.ref a]) c.kIn i.kp (wJ (us:=[.ref a]) (vs:=[.ref a]) F ((j.mono z).pW e) B l c (.cons rfl .nil) q)
def Om{pl:Sem Bool}{bw:Bool}{k:Nat}{sp:Sp}(B:xN X.prog X.w X.K X.mg X.base bw k x m ps sp)(p:ϓ cc k' X.A)(a:bw=true->cc=true)(q:bz X Kx)(h:EA X (e::es) σ H λvs H1=>sp vs H1 Q (Kx σ))(u:k<=k':=by decide)(v:Gl X x:=by rfl)(hd:(x==("__debug__":Str))=false:=by decide)(c:acv (e::es) X.env=(false,eval e X.env)::acv es X.env:=by rfl)(g:(backTo pos (acv es X.env)).any (·.1)=false:=by rfl)(y:eval (.Call (.Attribute (.Name x np) m apos) (e::es) [] pos) X.env=(do
   let n<-eval (.Name x np) X.env
   standAt apos.atName
   let(f,first)<-holding [n] (getMethod n m pl)
   callWith pos f first (backTo pos (acv (e::es) X.env)) (backToKw pos (keywordEach [] X.env))):=by rfl):EV X (.Call (.Attribute (.Name x np) m apos) (e::es) [] pos) σ H Q:=by
 let#[C,f,fd,z,i,D,j,l,E,F]:=B.ex;intro ϵ s I;show ash (pl:=pl) (fU I v z ?_ hd) y*>W.method_cls I.kIn j (W.cls_value I.kIn i D (by rfl) ?_);let G:=I.tok (s.toks+1);show asT (first:=[]) (h₀:=X.base) I.ok.mod.kin l (ψ (h pos ϵ _ G) λus L _u=>_Z.e23 _u λvs H2 o r J=>#[o.kIn,?_]) c g*>wJ F ((p.mono u).pW a) E q o r J
def PL(M:Mk X.K C g)(F:dJ X.prog X.w X.K X.mg X.base (cJ X.prog X.w) cc k g fd ps sp)(m:ϓ cc (k+1) X.A)(n:Binds X.K fd ps [])(o:bz X Kx)(I:Inv X ϵ σ H s)(r:Vals vs us)(h:∀y dx,H y=none->H dx=none->dx≠y->sp (.ref y::vs) (upd (upd H dx (.own y)) y (.ins C dx [])) (λv H2=>v=.non/\Q (.ref y) H2) (Kx σ)):Ϧ ∅ X.A (call (.ref C) us) (EP X ϵ σ Q) X.xe s:=by
 let p:H (⇑s+1)=none:=I.hok.fresh (aoW _);let i:H ⇑s=none:=I.hok.fresh (Ϭ _);let q:=h _ _ p i (adn (atr _));let e:=Inv.made (C:=C) I;let l:Vals (V.ref (⇑s+1)::vs) (Value.ref (⇑s+1)::us):=.cons rfl r;let x:↥(Value.ref (⇑s+1)::us)=↥ps:=by rw[<-↥l];show F.len _ _ _ _ q
 let c:=n {s with heap:=(s.heap.push anK).push (aq6 C ⇑s)} (Value.ref (⇑s+1)::us) e.kIn (~~~x);rw[aiD]at c;show aol (acW (f:=g) I.kIn M.makes M.init (beq_iff_eq.mp M.fn) (akW (F.run _ X.stack _ _ #[Value.ref (⇑s+1)::us,[]] _ _ _ (Kx σ) (m.make C us []) (e.env0.make C us []) c l q) λj s' a=>?_))
 match j,a with
 |.error z,a=>
   let#[b,cls,d,H',rfl,B,w]:=e.flown a;show o ϵ σ H' s' b cls d B w
 |.ok (.ret u),a=>
   let#[v,H',D,E,G,J]:=e.after a;subst G;show#[E,#[V.ref (⇑s+1),H',D,rfl,J]]
 |.ok .next,a=>show False.elim a
 |.ok .brk,a=>show False.elim a
 |.ok .cont,a=>show False.elim a
def Bh(M:pD X.prog X.w X.K X.mg X.base bw k x C ps sp)(l:ϓ cc k' X.A)(m:k+1<=k')(a:bw=true->cc=true)(n:bz X Kx)(h:EA X (e::es) σ H λvs H1=>∀y dx,H1 y=none->H1 dx=none->dx≠y->sp (.ref y::vs) (upd (upd H1 dx (.own y)) y (.ins C dx [])) (λv H2=>v=.non/\Q (.ref y) H2) (Kx σ))(o:Gl X x:=by rfl)(hd:(x==("__debug__":Str))=false:=by decide)(c:acv (e::es) X.env=(false,eval e X.env)::acv es X.env:=by rfl)(g:(backTo pos (acv es X.env)).any (·.1)=false:=by rfl):EV X (.Call (.Name x p) (e::es) [] pos) σ H Q:=by
 let#[f,fd,i,u,F]:=M.ex;intro ϵ s I;show akj (fU I o M.at_ ?_ hd)*>asT (h₀:=X.base) I.ok.mod.kin i.kp (ψ (h pos ϵ s I) λus z _u=>_Z.e23 _u λvs H1 j r q=>#[j.kIn,?_]) c g*>PL i F ((l.mono m).pW a) u n j r q
end
def FD(P:ϲ)(w:Ϯ)(K:ϩ)(mg:MG)(base:ϫ)(cc:Bool)(k:Nat)(m qual:Str)(st:ϧ)(ps:List Str)(sp:Sp):Prop:=
 ∀f fd,c7 K m qual st f fd->Binds K fd ps []/\dJ P w K mg base (cJ P w) cc k f fd ps sp
section
variable{P:ϲ}{w:Ϯ}{K:ϩ}{mg:MG}{base:ϫ}{cc:Bool}{k:Nat}{x m qual:Str}{C:δ}{st:ϧ}{ps N:List Str}{sp:Sp}
theorem ϡ(body:∀(f:δ)(a:ε)(A:ϴ)(outer:List Env)(s:ν)(H:Hp)(vs:List V)(Q:VK)(E:XK),ϓ cc k (A.deeper (envOfC qual (ς st) ⇑s f a))->sp vs H Q E->
   let X:=fD cc P w K mg base N qual (ς st) f a A outer s H E;let D:Ends:={nx:=λ_ H'=>Q .non H',rt:=Q};Φ X (ϣ st) D (start N vs) H)(S:Λ N ps (ς st):=by room)(e:∀(kV c pm:ε)(an:Option δ)(a ct:ε)(us:List ε),↥us=↥ps->bindArgs (asS m qual (jx st) (ϣ st) (ς st) .none kV c pm an a ct) #[us,[]]=pure (ps.zip us):=by walk_at"bb")(len:∀vs H Q E,sp vs H Q E->↥vs=↥ps:=by walk_at"ln"):FD P w K mg base cc (k+1) m qual st ps sp:=
 λf fd F=>#[F.binds e,xf F S len λa A outer s H vs Q E g h=>body f a A outer s H vs Q E g h]
def FD.meth(F:FD P w K mg base cc k m qual st ps sp)(c:aH K C)(O:OM K C m qual st):Ψ P w K mg base cc k C m ps sp:=by
 let#[f,fd,h1,h2]:=O.ex;show#[c,f,fd,h2,F f fd h1]
def FD.make(F:FD P w K mg base cc k "__init__" qual st ps sp)(a:mg x=↑(.ref C))(O:OI K C qual st):pD P w K mg base cc k x C ps sp:=by
 let#[f,fd,h1,h2]:=O.ex;show#[a,f,fd,h2,F f fd h1]
def FD.asked(F:FD P w K mg base cc k m qual st ps sp)(a:mg x=↑(.ref C))(O:OB K C m qual st):xN P w K mg base cc k x m ps sp:=by
 let#[f,fd,h1,h2]:=O.ex;let#[c,e]:=F f fd h1;show#[C,f,fd,a,O.rd,h2,O.ga,h1.kp,c,e]
end
def dw{X:Cx}{σ:St}{H:Hp}{D:Ends}{k:Nat}{tp pos:Pos}{value:Ϫ}(h:EV X value σ H λv H1=>EG X (.Tuple elts k tp) v σ H1 λσ' H'=>D.nx σ' H')(hs:swapsWithSole [.Tuple elts k tp] value pos.line X.env=pure false:=by rfl)(a:swappedStores [.Tuple elts k tp] value X.env=pure none:=by rfl):SX X (.Assign [.Tuple elts k tp] value pos) D σ H:=by
 intro ϵ s I;show Assign_Tuple (ψ (h ϵ s I) λu c e=>?_) hs a;let#[v,H1,f,r1,g]:=e;show ψ (g ϵ c u f r1) λ_ l z=>by let#[σ',H',i,j]:=z;show #[σ',H',i,j]
theorem Cm(h:∀p,H p=none->Q (.ref p) (upd H p (.dK []))):EV X (.Dict [] [] pos) σ H Q:=zy aix h
def ad6(f:X.A.units+1<cLine)(hs:W9 i)(h:EV X o σ H λx H1=>EV X i σ H1 λy H2=>∃a v,x=.ref a/\aK H2 a y ↑v/\Q v H2):EV X (.Subscript o i pos) σ H Q:=by
 intro ϵ s I;show ah3 F.slot_dict_getitem.lookup hs (ψ (h ϵ s I) λu j _u=>_Z.e23 _u λx H1 l rx m=>ψ (m ϵ j l) λz B n=>?_);let#[y,H2,e,ry,a,v,ex,g,p]:=n;subst ex;obtain rfl:u=Value.ref a:=rx;show#[Vt e g,RB f e g ry λC D q c=>#[v,H2,q,c,p]]
def oE(c:X.A.units+1<cLine)(g:aK H a y r)(q:Q (.bl r.isSome) H):OP X (aeT .In) y (.ref a) H Q:=by
 show cC (r:=λx z H Q=>∃a o,z=.ref a/\aK H a x o/\Q (.bl o.isSome) H) ?_ #[a,r,rfl,g,q];intro ϵ s σ H x z v u Q I rx e h;let#[a,o,rfl,g,q]:=h;cases(show u=Value.ref a from e);show ajC c I g rx λs' f=>#[.bl o.isSome,H,f,rfl,q]
def an6(c:X.A.units+1<cLine)(g:aK H a y r)(q:Q (.bl (!r.isSome)) H):OP X (aeT .NotIn) y (.ref a) H Q:=by
 show cC (r:=λx z H Q=>∃a o,z=.ref a/\aK H a x o/\Q (.bl (!o.isSome)) H) ?_ #[a,r,rfl,g,q];intro ϵ s σ H x z v u Q I rx e h;let#[a,o,rfl,g,q]:=h;cases(show u=Value.ref a from e);show ahm c I g rx λs' f=>#[.bl (!o.isSome),H,f,rfl,q]
def wy(f:X.A.units+1<cLine)(h:EV X value σ H λv H1=>EV X o σ H1 λx H2=>EV X i σ H2 λy e=>∃a c,x=.ref a/\iQ e a y v c/\D.nx σ c)(hs:aoH value ↑(.Subscript o i pos') pos.line X.env=pure false:=by rfl):SX X (.Assign [.Subscript o i pos'] value pos) D σ H:=by
 intro ϵ s I;show wpAny_Assign_Subscript (ψ (h ϵ s I) λr j _u=>_Z.e23 _u λv H1 l m n=>ψ (n ϵ j l) λu p _u=>_Z.e23 _u λx H2 q rx z=>ψ (z ϵ p q) λG J B=>?_) hs;let#[y,e,C,ry,a,c,ex,g,E]:=B;subst ex;obtain rfl:u=Value.ref a:=rx;show al4 f C g ry m λL F=>#[σ,c,F,E]
def ah8(i:X.A.units+1<cLine)(m:M1 X o "get" apos e cpos)(h:EV X o σ H λx H1=>∃a,x=.ref a/\pQ H1 a/\EV X e σ H1 λy H2=>∃o,aK H2 a y o/\Q (o.getD .non) H2):EV X (.Call (.Attribute o "get" apos) [e] [] cpos) σ H Q:=by
 intro ϵ s I;show wpAny_Call_method m.base m.few m.line F.plainAttrs_dict F.slot_dict_get F.type_dict_get (ψ (h ϵ s I) λu j l=>?_);let#[x,H1,f,rx,a,ex,d,n]:=l;subst ex;obtain rfl:u=Value.ref a:=rx;let#[p,q,_]:=Wh f d;show#[p,q,?_];rw[m.trees];show Calls.callWith_builtin rfl (Calls.evalArgs_plain (Calls.spliced_cons (ψ (n ϵ j f) λC D ⟨y,H2,v,ry,E,g,z⟩=>Calls.spliced_nil ?_)))*>akr i v g ry λG J B c=>#[_,H2,B,c,z]
def v5(h:EV X o σ H λx H1=>∃a,x=.ref a/\pQ H1 a/\EV X e σ H1 λy H2=>∃Ϸ k v,H2 a=↑(.dK Ϸ)/\y=kV k/\bu Ϸ k=↑v/\Q v (upd H2 a (.dK (gJ Ϸ k))))(m:M1 X o "pop" apos e cpos:=by constructor<;>rfl):EV X (.Call (.Attribute o "pop" apos) [e] [] cpos) σ H Q:=by
 intro ϵ s I;show wpAny_Call_method m.base m.few m.line F.plainAttrs_dict F.slot_dict_pop F.type_dict_pop (ψ (h ϵ s I) λu g i=>?_);let#[x,H1,f,rx,a,ex,d,j]:=i;subst ex;obtain rfl:u=Value.ref a:=rx;let#[n,p,_]:=Wh f d;show#[n,p,?_];rw[m.trees];show Calls.callWith_builtin rfl (Calls.evalArgs_plain (Calls.spliced_cons (ψ (j ϵ g f) λE G ⟨y,H2,q,ry,Ϸ,k,v,z,B,l,C⟩=>Calls.spliced_nil ?_)));subst B;show akP q z ry l (.inl rfl) λJ L D c=>#[v,_,D,c,C]
def anl(e:H a=↑(.dK Ϸ))(q:∀p,H p=none->Q (.ref p) (upd H p (.dK Ϸ))):CL X (.type "dict") [.ref a] H Q:=by
 show cV (r:=λxs H Q=>∃a Ϸ,xs=[V.ref a]/\H a=↑(.dK Ϸ)/\∀p,H p=none->Q (.ref p) (upd H p (.dK Ϸ))) ?_ #[a,Ϸ,rfl,e,q];intro ϵ s σ H xs us Q I r h;let#[a,Ϸ,rfl,e,q]:=h;let#[u,rfl,c]:=vals1 r;cases(show u=Value.ref a from c);show agn I (.inl e) λp s' hp f=>#[.ref p,_,f,rfl,q p hp]
theorem Rp(e:H a=↑(.dK Ϸ))(q:Q (.int ↥Ϸ) H):CL X (.builtin "len") [.ref a] H Q:=cV aiy #[a,Ϸ,rfl,e,q]
end _L
namespace _M
open PySem
abbrev SGs:Str:=μ "-0123456789abcdefghijklmnopqrstuvwxyz"
abbrev yQ:Str:=μ "abcdefghijklmnopqrstuvwxyz0123456789-"
def SG:List Nat:=SGs.cps.toList
def TS:List Nat:=yQ.cps.toList
def amX:∀c∈SG,c∈TS:=by fin2
def tb:List Nat->List Nat->Bool
 |[],[]=>false
 |[],_::_=>true
 |_::_,[]=>false
 |x::xs,y::ys=>if x=y then tb xs ys else decide (SG.idxOf x<SG.idxOf y)
end _M
namespace _L
open PySem PySem.Spec PyProof.Rows
def ah6{α:Type}{xs:List α}{f:α->V}{i:Int}(d:α)(c:0<=i)(h1:i<↥xs):Ϛ (xs.map f) i=↑(f (xs.getD i.toNat d)):=by
 let e:i=((i.toNat:Nat):Int):=()
 let a:i.toNat<↥xs:=()
 let h2:(xs.map f)[i.toNat]?=↑(f (xs.getD i.toNat d)):=by
  rw[acS,aad a];simp[a]
 have:=bH h2;rw[<-e]at this;show this
def d9{x y:Str}(h:x.cps.toList=y.cps.toList):x=y:=by
 let#[#[a]]:=x;let#[#[b]]:=y;simp only at h;rw[h]
def aJ(x y:Str):(x++y).cps.toList=x.cps.toList++y.cps.toList:=by
 show(x.cps++y.cps).toList=_;simp
def len_list(z:Str):↥z=↥z.cps.toList:=by simp[asx]
def len_app(x y:Str):↥(x++y)=↥x+↥y:=by rw[len_list,aJ,adz,len_list,len_list]
def IW(z:Str)(lo hi:Option Int):↥(Ϗ z lo hi)<=↥z:=by
 unfold Ϗ asx;simp;omega
def Ft(z:Str)(lo hi:Option Int):(Ϗ z lo hi).cps.toList=(z.cps.toList.drop (_H.ό ↥z 0 lo)).take (_H.ό ↥z ↥z hi-_H.ό ↥z 0 lo):=by
 unfold Ϗ;simp
def uD(z:Str)(k:Nat):(Ϗ z ↑(k:Int) none).cps.toList=z.cps.toList.drop k:=by
 rw[Ft,_H.jc,_H.zF];let a:=len_list z;by_cases h:k<=↥z
 .rw[ama h,agH (by rw[ahH];omega)]
 .let h':↥z<=k:=()
  rw[arE h',asM (),asM ()];simp
def RN(z:Str)(k:Nat):(Ϗ z none ↑(k:Int)).cps.toList=z.cps.toList.take k:=by
 rw[Ft,_H.jc,_H.zF,akR,ari];let a:=len_list z;by_cases h:k<=↥z
 .rw[ama h]
 .let h':↥z<=k:=()
  rw[arE h',agH (),agH ()]
def Ot(z:Str)(c:Nat):Txt.startswith z #[#v[c]]=decide (z.cps.toList[0]?=↑c):=by
 rw[ahT,decide_eq_true_eq, <-StrLaws.subAt_one];unfold Txt.startswith
 rw[acF,decide_eq_true_eq]
end _L
namespace _V
open PySem _L PyProof.Rows _M NumText
def scalar:V->Bool
 |.non|.int _|.str _=>true
 |_=>false
def tH:V->Bool
 |.int _=>true
 |_=>false
def isNum:V->Bool
 |.int i=>decide (-1000000000000000000<=i/\i<=1000000000000000000)
 |_=>false
def iu(z g:Str):Bool:=z.cps.toList.all λc=>decide (c∈g.cps.toList)
def jg:V->Bool
 |.str z=>decide (↥z<=20)&&iu z yQ
 |_=>false
def isVal(kind:Str):V->Bool
 |.non=>true
 |v=>if kind="number" then isNum v else jg v
def before:V->V->Bool
 |_,.non=>false
 |.non,_=>true
 |.int i,.int j=>decide (i<j)
 |.str x,.str y=>decide (x.cps.toList<y.cps.toList)
 |_,_=>false
def short:V->Prop
 |.str z=>↥z<=4000
 |_=>True
inductive QQ:Sp
 |mk (v):vs=[v]->scalar v=true->Q (.bl (tH v)) H
inductive O1:Sp
 |mk (z g:Str):vs=[.str z,.str g]->↥z<=4000->(∀H',ζ H H'->Q (.bl (iu z g)) H')
inductive Px:Sp
 |mk (v):vs=[v]->scalar v=true->Q (.bl (isNum v)) H
inductive X3:Sp
 |mk (v):vs=[v]->scalar v=true->short v->(∀H',ζ H H'->Q (.bl (jg v)) H')
inductive SM:Sp
 |mk (k:Str) (v:V):vs=[.str k,v]->scalar v=true->short v->(∀H',ζ H H'->Q (.bl (isVal k v)) H')
def wW(c:Nat):Bool:=decide (48<=c/\c<=57)
abbrev Km:Str:=μ "0123456789"
def alZ:∀c:Nat,c∈Km.cps.toList↔(48<=c/\c<=57):=by
 intro c;let e:Km.cps.toList=List.range' 48 10:=by fin2
 rw[e,List.mem_range'_1];omega
def amk(z:Str):iu z Km=z.cps.toList.all wW:=by
 unfold iu wW
 congr 1
 funext c;rw[decide_eq_decide];show alZ c
def eG(l:List Nat):Bool:=decide (l=[48])||(decide (l≠[])&&(decide (l[0]? ≠↑48)&&l.all wW))
def tu(l:List Nat):Bool:=if l[0]?=↑45 then decide (l.drop 1≠[48])&&eG (l.drop 1)else eG l
def qd(l:List Nat):Int:=if l[0]?=↑45 then -((digitsVal (l.drop 1):Nat):Int)else((digitsVal l:Nat):Int)
def Ja(h:eG l=true):AllDigits l/\l≠[]:=by
 unfold eG at h;rw[aqg,acF,acF,decide_eq_true_eq,decide_eq_true_eq]at h;obtain h|⟨h1,_,h2⟩:=h
 .subst h;show#[λc hc=>by simp at hc;omega,by simp]
 .show#[λc hc=>of_decide_eq_true (aeN.mp h2 c hc),h1]
def ji(l:List Nat):Option Int:=if tu l=true/\↥l<=20/\ -1000000000000000000<=qd l/\qd l<=1000000000000000000 then some (qd l)else none
def lg(z:Str):Option Str:=if z.cps.toList[0]?=↑39/\jg (.str (Ϗ z ↑1 none))=true then some (Ϗ z ↑1 none)else none
def Al:Option Int->Option V
 |some i=>↑(.int i)
 |none=>none
def G9:Option Str->Option V
 |some i=>↑(.str i)
 |none=>none
def gA(kind word:Str):Option V:=if word="?" then some .non else if kind="number" then Al (ji word.cps.toList)else G9 (lg word)
def wordOf:V->Str
 |.non=>"?"
 |.str z=>μ "'"++z
 |.int i=>μ (toString i)
 |_=>""
inductive Qw:Sp
 |mk (v):vs=[v]->scalar v=true->short v->(∀i,v=.int i->i.natAbs.log2<1920)->Q (.str (wordOf v)) H
inductive Q5:Sp
 |mk (z):vs=[.str z]->↥z<=4000->(∀H',ζ H H'->Q (.bl (eG z.cps.toList)) H')
def Ea(c:ε)(r:Option V)(H:Hp)(Q:VK)(E:XK):=∀H',ζ H H'->match r with
 |some v=>Q v H'
 |none=>E c (none,true) H'
inductive Ly(c:ε):Sp
 |mk (z):vs=[.str z]->↥z<=4000->Ea c (Al (ji z.cps.toList)) H Q E
inductive Tu(c:ε):Sp
 |mk (z):vs=[.str z]->↥z<=4000->Ea c (G9 (lg z)) H Q E
inductive Z9(c:ε):Sp
 |mk (k) (z):vs=[.str k,.str z]->↥z<=4000->Ea c (gA k z) H Q E
def fO(n:Nat)(z:Str):Prop:=↥z<=n/\∀c∈z.cps.toList,c<1114112
def fO.lay(h:fO n z):(PyData.str z).canLay0=true:=by
 show PyData.strOk z=true;unfold PyData.strOk;rw[Array.all_eq_true_iff_forall_mem];intro c hc;show decide_eq_true (h.2 c (~~~hc))
theorem fO.sg(a:↥z<=n)(h:∀c∈z.cps.toList,c∈SG):fO n z:=#[a,λc hc=>by
 have:∀c∈SG,c<1114112:=by fin2
 show this c (h c hc)]
def dV:V->PyData
 |.bl b=>.bool b
 |.int i=>.int i
 |.str x=>.str x
 |_=>.none
def jL:V->Bool
 |.non|.int _|.str _|.bl _=>true
 |_=>false
def aiq{K:PySem.W.Frag}{v:V}(h:jL v=true):RD K H v (dV v):=by
 cases v with
 |non=>show .non
 |bl b=>show .bl b
 |int i=>show .int i
 |str x=>show .str x
 |_=>cases h
theorem aaR{K:PySem.W.Frag}:∀{xs:List V},xs.all jL=true->jo K H xs (xs.map dV)
 |[],_=>.nil
 |x::xs,h=>by
  rw[asF,acF]at h;show .cons (aiq h.1) (aaR h.2)
def Ϥ{i:Int}(h:i.natAbs<10^60):i.natAbs.log2<1920:=by
 by_cases a:i.natAbs=0
 .rw[a];decide
 .rw[Nat.log2_lt a];show adk h ?_;fin2
theorem my(m:Nat):(μ (toString ((m:Nat):Int))).cps.toList=(at6 10 m).map Char.toNat:=PySem.W.KIN.signs_num m
def tG(m:Nat):∀c∈(μ (toString ((m:Nat):Int))).cps.toList,48<=c/\c<=57:=by
 rw[my];intro c hc;let#[d,hd,rfl]:=ab9.mp hc;have:=Nat.isDigit_of_mem_toDigits (b:=10) (n:=m) (by decide) (by decide) hd;simp only[Char.isDigit,acF,decide_eq_true_eq]at this;let h1:(48:UInt32).toNat<=d.val.toNat:=this.1;let h2:d.val.toNat<=(57:UInt32).toNat:=this.2;show#[h1,h2]
def lG(a:1<=k)(h:m<10^k):↥(μ (toString ((m:Nat):Int)))<=k:=by
 rw[_L.len_list,my,ϰ];show PyProof.Rows.digits10_le a h
def yH(m:Nat)(h:0<m):μ (toString (-((m:Nat):Int)))=μ "-"++μ (toString ((m:Nat):Int)):=by
 obtain⟨k,rfl⟩:∃k,m=k+1:=#[m-1,()];let e:(-((k+1:Nat):Int))=Int.negSucc k:=rfl;rw[e];apply d9;rw[aJ];rw[PyProof.Rows.signs_ofString,PyProof.Rows.signs_ofString,PyProof.Rows.signs_ofString];show(("-"++Nat.repr (k+1)).toList.map Char.toNat)="-".toList.map Char.toNat++(Nat.repr (k+1)).toList.map Char.toNat;rw[String.toList_append,ahZ]
end _V
namespace _W
open PySem _L PyProof.Rows _M NumText
def zX(ns:List Int)(k:Int):Int:=if 0<↥ns then ns.getD (k % (↥ns:Int)).toNat 0 else 0
def gq(ns:List Int)(k m:Int):Int:=(zX ns k % 1000003+31*k*k+1)*48271 % 999983*7919 % 524287 % m
theorem dh(ns:List Int)(k:Int)(h:0<m):0<=gq ns k m:=anp _ ()
theorem cQ(ns:List Int)(k:Int)(h:0<m):gq ns k m<m:=ak5 _ h
inductive Yz(K:PySem.W.Frag):Sp
 |mk (a:δ) (ns:List Int) (k m:Int):vs=[.ref a,.int k,.int m]->θ K H a (ns.map V.int)->↥ns<=63->0<=k->k<=100000->0<m->Q (.int (gq ns k m)) H
end _W
namespace _V
open PySem _L PyProof.Rows _M NumText
inductive Α {α β:Type} (R:α->β->Prop):List α->List β->Prop
 |nil:Α R [] []
 |cons {a:α} {b:β} {l:List α} {m:List β}:R a b->Α R l m->Α R (a::l) (b::m)
section
variable{α β:Type}{R S:α->β->Prop}{l l':List α}{m m':List β}
def Α.len(h:Α R l m):↥l=↥m:=by
 induction h with
 |nil=>rfl
 |cons _ _ a=>rw[acz,acz,a]
def Α.imp(f:∀a b,R a b->S a b)(h:Α R l m):Α S l m:=by
 induction h with
 |nil=>show .nil
 |cons r _ c=>show .cons (f<*r) c
def Α.get(h:Α R l m){i:Nat}(e:l[i]?=↑a):∃b,m[i]?=↑b/\R a b:=by
 induction h generalizing i with
 |nil=>cases e
 |cons r _ c=>
  cases i with
  |zero=>cases e;show#[_,rfl,r]
  |succ i=>show c e
def Α.get'(h:Α R l m){i:Nat}(e:m[i]?=↑b):∃a,l[i]?=↑a/\R a b:=by
 induction h generalizing i with
 |nil=>cases e
 |cons r _ c=>
  cases i with
  |zero=>cases e;show#[_,rfl,r]
  |succ i=>show c e
def Α.app(h:Α R l m)(g:Α R l' m'):Α R (l++l') (m++m'):=by
 induction h with
 |nil=>show g
 |cons r _ a=>show .cons r a
def Α.drop(n:Nat)(h:Α R l m):Α R (l.drop n) (m.drop n):=by
 induction h generalizing n with
 |nil=>cases n<;>show .nil
 |cons r t a=>
  cases n with
  |zero=>show .cons r t
  |succ n=>show a n
end
abbrev ο:=Str×Str
def Bj(H:Hp)(v:V)(c:ο):=∃t,v=.ref t/\H t=↑(.tup [.str c.1,.str c.2])
def Bj.same(h:Bj H v c)(s:ζ H H'):Bj H' v c:=by
 let#[t,e,q]:=h;show#[t,e,s<*q]
def aj(H:Hp)(a:δ)(cs:List ο):=∃vs:List V,H a=↑(.lst vs)/\ Α (Bj H) vs cs
def aj.same(h:aj H a cs)(s:ζ H H'):aj H' a cs:=by
 let#[vs,e,q]:=h;show#[vs,s<*e,q.imp λa b r=>r.same s]
abbrev LR:Str:=μ "abcdefghijklmnopqrstuvwxyz"
def isName(z:Str):Bool:=decide (1<=↥z/\↥z<=8)&&iu z LR
def pK(k:Str):Bool:=decide (k="number"\/k="text")
def ϗ(cs:List ο):Bool:=decide (1<=↥cs/\↥cs<=6)&&(cs.all λc=>isName c.1&&pK c.2)&&decide ((cs.map Prod.fst).Nodup)
inductive U9:Sp
 |mk (z):vs=[.str z]->↥z<=4000->(∀H',ζ H H'->Q (.bl (isName z)) H')
def JX(cs:List ο):=∀c∈cs,↥c.1<=4000/\↥c.2<=4000
inductive OD(c:ε):Sp
 |mk (a) (cs):vs=[.ref a]->aj H a cs->↥cs<=4000->JX cs->(∀H',ζ H H'->if ϗ cs=true then Q .non H' else E c (none,true) H')
def ig:List ο->Str->Nat->V
 |[],_,_=>.non
 |c::r,z,i=>if c.1=z then .int i else ig r z (i+1)
inductive Ze:Sp
 |mk (a) (cs) (z):vs=[.ref a,.str z]->aj H a cs->(∀H',ζ H H'->Q (ig cs z 0) H')
def Ua:V->Bool
 |.int i=>decide (0<=i/\i<=1000000000)
 |_=>false
inductive PB:Sp
 |mk (v):vs=[v]->scalar v=true->Q (.bl (Ua v)) H
def tM:List ο->List V->Bool
 |c::cs,v::vs=>isVal c.2 v&&tM cs vs
 |_,_=>true
def dG(cs:List ο)(v:V)(xs:List V):Bool:=Ua v&&decide (↥xs=↥cs)&&tM cs xs
inductive Uw:Sp
 |mk (a) (cs) (v) (b) (xs):vs=[.ref a,v,.ref b]->aj H a cs->↥cs<=4000->scalar v=true->H b=↑(.lst xs)->(∀x∈xs,scalar x=true/\short x)->(∀H',ζ H H'->Q (.bl (dG cs v xs)) H')
theorem Ni:∀{xs:List V},(∀x∈xs,jL x=true/\∀z,x=.str z->fO 4000 z)->(PyData.list (xs.map dV)).canLay0=true
 |[],_=>rfl
 |x::xs,h=>by
  let a:=Ni (xs:=xs) λd hd=>h d (by simp[hd])
  let h1:(dV x).canLay0=true:=by
   let#[hs,c]:=h x (by simp);cases x with
   |str z=>show(c z rfl).lay
   |_=>rfl
  show((dV x).canLay0&&PyData.canLayAll0 (xs.map dV))=true;rw[h1];show a
theorem Tw:∀xs:List V,PyData.depthAll (xs.map dV)<=1
 |[]=>by show(0:Nat)<=1;omega
 |x::xs=>by
  let a:=Tw xs;let h1:(dV x).depth<=1:=by cases x<;>(show(_:Nat)<=1;show asO rfl)
  show max (dV x).depth (PyData.depthAll (xs.map dV))<=1;omega
def aaD(xs:List V)(k:Nat):bL xs ↑(k:Int) none=xs.drop k:=by
 unfold bL;rw[_H.zF,_H.jc];by_cases h:k<=↥xs
 .rw[show min k ↥xs=k from ama h];show agH (by rw[ahH];show Ϭ _)
 .rw[show min k ↥xs=↥xs from arE (),amF (Ϭ _),amF ()];simp
end _V
namespace _V
open PySem _L PyProof.Rows _M NumText
def ϊ:List Nat->Int
 |[]=>0
 |c::r=>((c:Int)+137*ϊ r) % 9973
theorem j6:∀l,0<=ϊ l/\ϊ l<9973
 |[]=>by decide
 |c::r=>#[anp _ (by decide),ak5 _ (by decide)]
def ams(t p y m:Int):(t+p*(y % m)) % m=(t+p*y) % m:=by
 rw[asU,asV,ati, <-asV, <-asU]
def acM(a b r m:Int):(a % m+b % m*r) % m=(a+b*r) % m:=by
 rw[asU,asV,ati,ati, <-asV, <-asU]
def ZK(h:(t+p*ϊ (c::r)) % 9973=v):((t+(c:Int)*p) % 9973+p*137 % 9973*ϊ r) % 9973=v:=by
 rw[acM, <-h];show _=(t+p*(((c:Int)+137*ϊ r) % 9973)) % 9973;rw[ams]
 congr 1
 rw[Int.mul_add,Int.mul_comm (c:Int) p,Int.mul_assoc,Int.add_assoc]
def ϝ(n:Int):Str:=Txt.zfill (μ (toString n)) 4
def KD(l:List Nat):Nat:=l.foldl (λa c=>a*10+(c-48)) 0
def yC(n:Nat):Bool:=decide (↥(ϝ n)=4)&&((ϝ n).cps.toList.all wW&&decide (KD (ϝ n).cps.toList=n))
theorem Zq(l:List Nat):∀k:Nat,KD (aoG k 48++l)=KD l
 |0=>rfl
 |k+1=>by
  rw[List.replicate_succ];show Zq l k
def NB{n:Nat}(h:n<10000):(ϝ n).cps.toList=aoG (4-↥(μ (toString (n:Int)))) 48++(μ (toString (n:Int))).cps.toList:=by
 let hd:=tG n;let g:=lG (m:=n) (k:=4) (by decide) h;let f:(μ (toString (n:Int))).cps.toList≠[]:=by
  rw[my];simp[asi]
 unfold ϝ Txt.zfill;generalize μ (toString (n:Int))=x at hd g f⊢;let j:=_L.len_list x;split
 .rename_i l;have:4-↥x=0:=()
  rw[this];rfl
 .unfold zfilled;let#[c,r,e]:=asj f;let i:x.cps[0]?=↑c:=by rw[<-aoY,e];rfl
  let hc:=hd c (by rw[e];simp);let o:((4:Int).toNat-↥x)=4-↥x:=rfl;rw[i];split
  .rename_i a;cases a;omega
  .rename_i a;cases a;omega
  .unfold Builtin.Str.padded;simp
def Kh(n:Nat)(h:n<9973):yC n=true:=by
 let hd:=tG n;let a:=lG (m:=n) (k:=4) (by decide) ();let e:=NB (n:=n) ();let f:=_L.len_list (μ (toString (n:Int)));unfold yC;rw[_L.len_list,e,Zq,adz,asR,decide_eq_true (),aqw,acF,aeN,decide_eq_true_eq];show#[λc hc=>?_,?_]
 .obtain z|z:=agq.mp hc
  .have :=List.eq_of_mem_replicate z;subst this;rfl
  .show decide_eq_true (hd c z)
 .rw[my];show PySem.W.KIN.val_back n
inductive Yl:Sp
 |mk (z):vs=[.str z]->↥z<=100000->(∀c∈z.cps.toList,c<1114112)->Q (.int (ϊ z.cps.toList)) H
inductive Vb:Sp
 |mk (z):vs=[.str z]->↥z<=100000->(∀c∈z.cps.toList,c<1114112)->Q (.str (ϝ (ϊ z.cps.toList))) H
theorem Yo:∀(r:List Nat)(a:Nat),a*10^↥r<=r.foldl (λe c=>e*10+(c-48)) a
 |[],a=>by simp
 |c::r,a=>by
  let f:=Yo r (a*10+(c-48));rw[anh,acz,Nat.pow_succ];show afG ?_ f;let h1:a*(10^↥r*10)=a*10*10^↥r:=by rw[Nat.mul_comm (10^↥r) 10,Nat.mul_assoc]
  rw[h1];show as8 _ (aoB _ _)
def Wr(h:eG l=true)(h1:l≠[48]):10^(↥l-1)<=digitsVal l:=by
 let#[hd,a]:=Ja h;cases l with
 |nil=>show absurd rfl a
 |cons c r=>
  let hc:=hd c adS;let f:c≠48:=by
   intro e;subst e;unfold eG at h;rw[decide_eq_false h1,atj]at h;simp at h
  have:=Yo r (0*10+(c-48));let g:1*10^↥r<=(0*10+(c-48))*10^↥r:=as8 _ ();unfold digitsVal;rw[anh];show 10^↥r<=_;omega
def Ii(h:eG l=true)(f:((digitsVal l:Nat):Int)<=m)(g:m<((10^k:Nat):Int))(h1:1<=k):↥l<=k:=by
 by_cases e:l=[48]
 .subst e;show h1
 .let h2:=Wr h e;let c:10^(↥l-1)<10^k:=()
  let i:=(Nat.pow_lt_pow_iff_right (a:=10) (by decide)).mp c;omega
def Xx(h:eG l=true):digitsVal l=0↔l=[48]:=by
 constructor
 .intro e;show Classical.byContradiction λn=>?_
  let h2:=Wr h n;let a:0<10^(↥l-1):=Nat.pow_pos (by decide);omega
 .intro e;subst e;rfl
def dY(l:List Nat)(m:Int):Option Int:=if eG l=true/\((digitsVal l:Nat):Int)<=m then some ((digitsVal l:Nat):Int)else none
def wO:Option Int->V
 |none=>.non
 |some i=>.int i
inductive Xa:Sp
 |mk (z:Str) (m:Int) (k:Nat):vs=[.str z,.int m]->↥z<=4000->0<=m->m.natAbs<10^60->↥(μ (toString m))=k->m<((10^k:Nat):Int)->1<=k->k<=600->(∀H',ζ H H'->Q (wO (dY z.cps.toList m)) H')
def Pj(a:¬l[0]?=↑45):ji l=dY l 1000000000000000000:=by
 unfold ji dY tu qd;rw[if_neg a,if_neg a];by_cases h:eG l=true/\((digitsVal l:Nat):Int)<=1000000000000000000
 .have :=Ii (k:=19) h.1 h.2 (by decide) (by decide);rw[if_pos h,if_pos #[h.1,(),(),h.2]]
 .rw[if_neg h,if_neg λx=>h #[x.1,x.2.2.2]]
theorem ajP{l:List Nat}(a:l[0]?=↑45):ji l=match dY (l.drop 1) 1000000000000000000 with
  |some i=>if i=0 then none else some (-i)
  |none=>none:=by
 unfold ji dY tu qd;rw[if_pos a,if_pos a];let j:↥l=↥(l.drop 1)+1:=by
  cases l with
  |nil=>simp at a
  |cons c r=>simp
 rw[j];generalize l.drop 1=r;by_cases h:eG r=true/\((digitsVal r:Nat):Int)<=1000000000000000000
 .let h2:=Ii (k:=19) h.1 h.2 (by decide) (by decide);let g:=Xx h.1;rw[if_pos h];show _=if((digitsVal r:Nat):Int)=0 then none else some (-((digitsVal r:Nat):Int));by_cases e:r=[48]
  .let f:((digitsVal r:Nat):Int)=0:=by have:=g.mpr e;omega
   rw[if_pos f];show if_neg λx=>?_
   rw[acF,decide_eq_true_eq]at x;show x.1.1 e
  .let f:¬((digitsVal r:Nat):Int)=0:=λz=>e (g.mp ())
   rw[if_neg f];show if_pos #[by rw[decide_eq_true e,h.1];rfl,(),(),()]
 .rw[if_neg h];show if_neg λx=>?_
  rw[acF]at x;show h #[x.1.2,()]
end _V
namespace _V
open PySem _L PyProof.Rows _M NumText
def mL{n:Int}(h:n.natAbs<10^60):↥(μ (toString n))<=70:=by
 by_cases a:0<=n
 .let#[m,rfl]:=aeo a;have:=lG (m:=m) (k:=60) (by decide) (~~~h);omega
 .let e:n= -((n.natAbs:Nat):Int):=()
  rw[e,yH n.natAbs (),len_app];have:=lG (m:=n.natAbs) (k:=60) (by decide) h;let l1:↥("-":Str)=1:=by fin2
  omega
end _V
namespace _V
open PySem _L PyProof.Rows _M NumText
abbrev Ord:=Str×Bool
def uq(H:Hp)(v:V)(o:Ord):=∃t,v=.ref t/\H t=↑(.tup [.str o.1,.bl o.2])
def uq.same(h:uq H v o)(s:ζ H H'):uq H' v o:=by
 let#[t,e,q]:=h;show#[t,e,s<*q]
def eQ(H:Hp)(a:δ)(os:List Ord):=∃vs:List V,H a=↑(.lst vs)/\ Α (uq H) vs os
def eQ.same{a:δ}{os:List Ord}(h:eQ H a os)(s:ζ H H'):eQ H' a os:=by
 let#[vs,e,q]:=h;show#[vs,s<*e,q.imp λa b r=>r.same s]
def jX{α β:Type}(f:α->Option β):List α->Option (List β)
 |[]=>some []
 |x::r=>match f x,jX f r with
  |some y,↑ys=>↑(y::ys)
  |_,_=>none
theorem YS{α β:Type}{f:α->Option β}:∀{l:List α}{x:α},x∈l->f x=none->jX f l=none
 |y::r,x,h,e=>by
  unfold jX;obtain z|z:=aaT.mp h
  .subst z;rw[e]
  .rw[YS z e];cases f y<;>rfl
 |[],x,h,_=>by simp at h
theorem Vk{α β:Type}{f:α->Option β}:∀{l:List α}{m:List β},↥l=↥m->(∀(i:Nat) x y,l[i]?=↑x->m[i]?=↑y->f x=↑y)->jX f l=↑m
 |[],[],_,_=>rfl
 |x::l,y::m,a,h=>by
  let h1:=h 0 x y rfl rfl;let h2:=Vk (l:=l) (m:=m) (~~~a) λi x y e1 c=>h (i+1) x y (~~~e1) (~~~c)
  unfold jX;rw[h1,h2]
 |[],_::_,a,_=>by simp at a
 |_::_,[],a,_=>by simp at a
theorem RL{α β:Type}{f:α->Option β}{R:V->β->Prop}:∀{ws:List α}{xs:List V},↥xs=↥ws->(∀(i:Nat) v,xs[i]?=↑v->∃z,ws[i]?=↑z/\∃b,f z=↑b/\R v b)->∃bs,jX f ws=↑bs/\ Α R xs bs
 |[],[],_,_=>#[[],rfl,.nil]
 |w::ws,x::xs,a,h=>by
  let#[z,e1,b,g,r]:=h 0 x rfl;let c:w=z:= ~~~e1
  subst c;let#[bs,j,t]:=RL (ws:=ws) (xs:=xs) (~~~a) λi v e=>~~~h (i+1) v (~~~e)
  show#[b::bs,?_,.cons r t];unfold jX;rw[g,j]
 |[],_::_,a,_=>by simp at a
 |_::_,[],a,_=>by simp at a
def lE(cs:List ο)(z:Str):Option Ord:=
 if(z.cps.toList[0]?=↑43\/z.cps.toList[0]?=↑45)/\ig cs (Ϗ z ↑1 none) 0≠.non then some (Ϗ z ↑1 none,decide (z.cps.toList[0]?=↑43))else none
def ϕ(cs:List ο)(z:Str):Option (List Ord):=
 if z="" then some []else if 4<↥(χ 32 z) then none else match jX (lE cs) (χ 32 z)with
  |none=>none
  |some os=>if(os.map Prod.fst).Nodup then some os else none
inductive O8(c:ε):Sp
 |mk (a) (cs) (z):vs=[.ref a,.str z]->aj H a cs->↥z<=4000->(∀H',ζ H H'->lE cs z=none->E c (none,true) H')->(∀p o H',ζ H H'->lE cs z=↑o->H' p=↑(.tup [.str o.1,.bl o.2])->Q (.ref p) H')
inductive abp(c:ε):Sp
 |mk (a) (cs) (z):vs=[.ref a,.str z]->aj H a cs->↥z<=4000->(∀H',ζ H H'->ϕ cs z=none->E c (none,true) H')->(∀p os H',ζ H H'->ϕ cs z=↑os->H p=none->eQ H' p os->Q (.ref p) H')
def cW(o:Ord):Str:=(if o.2=true then μ "+" else μ "-")++o.1
def jB(os:List Ord):Str:=ϭ " " (os.map cW)
def Aw(c:Nat)(z:Str):↥(χ c z)<=↥z+1:=by
 let h1:=Ez c z.cps.toList;unfold χ;rw[ϰ];let h2:↥z.cps.toList=↥z:=rfl;omega
def Il{c:Nat}{z y:Str}(h:y∈χ c z):↥y<=↥z:=by
 let g:∀(l:List Nat) p,p∈cutAt c l->↥p<=↥l:=by
  intro l;induction l with
  |nil=>intro p hp;have:p=[]:=by simpa [cutAt]using hp
        subst this;simp
  |cons x r f=>
   intro p hp;unfold cutAt at hp;split at hp
   .obtain z|z:=aaT.mp hp
    .subst z;simp
    .have :=f p z;simp;omega
   .split at hp
    .have :p=[x]:= ~~~hp
     subst this;simp
    .rename_i a t e;rw[e]at f;obtain z|z:=aaT.mp hp
     .subst z;have:=f a (by simp);simp;omega
     .have :=f p (by simp[z]);simp;omega
 unfold χ at h;let#[l,i,rfl]:=ab9.mp h;have:=g _ l i;let h2:↥z.cps.toList=↥z:=rfl;show l.toArray.size<=_;simp;omega
end _V
namespace _V
open PySem _L PyProof.Rows _M NumText
def ϑ:List ο->Str->Nat
 |[],_=>0
 |c::r,z=>if c.1=z then 0 else ϑ r z+1
theorem ur:∀{cs:List ο}{z:Str},(∃c∈cs,c.1=z)->ϑ cs z<↥cs
 |[],_,h=>by let#[c,hc,_]:=h;simp at hc
 |d::r,z,h=>by
  unfold ϑ;split
  .simp
  .rename_i hd;have:=ur (cs:=r) (z:=z) (by
    let#[c,hc,e]:=h;obtain x|x:=aaT.mp hc
    .subst x;show absurd e hd
    .show#[c,x,e])
   simp;omega
theorem wX:∀{cs:List ο}{z:Str}(i:Nat),(∃c∈cs,c.1=z)->ig cs z i=.int ((i+ϑ cs z:Nat):Int)
 |[],_,_,h=>by let#[c,hc,_]:=h;simp at hc
 |d::r,z,i,h=>by
  unfold ig ϑ;split
  .rfl
  .rename_i hd;rw[wX (i+1) (by
    let#[c,hc,e]:=h;obtain x|x:=aaT.mp hc
    .subst x;show absurd e hd
    .show#[c,x,e])]
   congr 2
   omega
theorem Qx:∀{cs:List ο}{z:Str},(∃c∈cs,c.1=z)->∃c,cs[ϑ cs z]?=↑c/\c.1=z
 |[],_,h=>by let#[c,hc,_]:=h;simp at hc
 |d::r,z,h=>by
  unfold ϑ;split
  .rename_i e;show#[d,rfl,e]
  .rename_i hd;let#[c,h1,h2]:=Qx (cs:=r) (z:=z) (by
    let#[c,hc,e]:=h;obtain x|x:=aaT.mp hc
    .subst x;show absurd e hd
    .show#[c,x,e])
   show#[c,~~~h1,h2]
def dB(cs:List ο)(xs:List V)(z:Str):V:=(xs[ϑ cs z]?).getD .non
def jq(cs:List ο)(os:List Ord)(xs:List V):List V:=os.map λo=>dB cs xs o.1
def dR(cs:List ο)(os:List Ord):=∀o∈os,∃c∈cs,c.1=o.1
inductive W0:Sp
 |mk (a) (b) (n) (c) (cs) (os) (xs):vs=[.ref a,.ref b,.int n,.ref c]->aj H a cs->eQ H b os->H c=↑(.lst xs)->↥xs=↥cs->↥cs<=4000->↥os<=4000->dR cs os->(∀p l H',ζ H H'->H p=none->H l=none->H' l=↑(.lst (jq cs os xs))->H' p=↑(.tup [.ref l,.int n])->Q (.ref p) H')
def fQ(x y:V):Prop:=x=.non\/y=.non\/(∃i j,x=.int i/\y=.int j)\/∃i j,x=.str i/\y=.str j
def wR:List Ord->List V->List V->Int->Int->Bool
 |o::os,x::xs,y::ys,n,k=>if x=y then wR os xs ys n k else decide (before x y=o.2)
 |_,_,_,n,k=>decide (n<k)
def mW(H:Hp)(p:δ)(xs:List V)(n:Int):=∃l,H p=↑(.tup [.ref l,.int n])/\H l=↑(.lst xs)
def mW.same(h:mW H p xs n)(s:ζ H H'):mW H' p xs n:=by
 let#[l,h1,h2]:=h;show#[l,s<*h1,s<*h2]
def UW{α:Type}{l:List α}{x:α}(h:l[i]?=↑x):l.drop i=x::l.drop (i+1):=by
 let#[hi,e]:=aas.mp h;rw[<-e];show aie hi
end _V
namespace _V
open PySem _L PyProof.Rows _M NumText
def vV(m:Nat):eG (μ (toString ((m:Nat):Int))).cps.toList=true/\digitsVal (μ (toString ((m:Nat):Int))).cps.toList=m:=by
 let hd:AllDigits (μ (toString ((m:Nat):Int))).cps.toList:=tG m;let g:digitsVal (μ (toString ((m:Nat):Int))).cps.toList=m:=by rw[my];show PySem.W.KIN.val_back m
 show#[?_,g];let j:(μ (toString ((m:Nat):Int))).cps.toList≠[]:=by rw[my];simp[asi]
 let a:=toDigits_all _ hd;rw[g]at a;let e:=my m;generalize(μ (toString ((m:Nat):Int))).cps.toList=l at *;let f:↥l=↥(at6 10 m):=by rw[e,ϰ]
 unfold eG;rw[aqg,acF,acF,decide_eq_true_eq,decide_eq_true_eq,decide_eq_true_eq];cases l with
 |nil=>show absurd rfl j
 |cons c r=>
  by_cases i:c=48
  .subst i;left;rw[List.dropWhile_cons,if_pos (by decide)]at a;cases q:r.dropWhile (· ==48)with
   |nil=>
    rw[q]at a;rw[a]at f;have:r=[]:=by cases r with
     |nil=>rfl
     |cons _ _=>simp at f
    rw[this]
   |cons d t=>
    rw[q]at a;rw[a,ϰ, <-q]at f;have:=(List.dropWhile_sublist (p:=λx:Nat=>x==48) (l:=r)).length_le;rw[acz]at f;omega
  .right;show#[by simp,~~~i,?_];rw[aeN];show λx n=>decide_eq_true (hd x n)
def ake(h1: -1000000000000000000<=i)(h2:i<=1000000000000000000):ji (μ (toString i)).cps.toList=↑i:=by
 by_cases g:0<=i
 .let#[m,rfl]:=aeo g;let#[a,b]:=vV m;let hd:=tG m;let j:¬(μ (toString ((m:Nat):Int))).cps.toList[0]?=↑45:=λe=>by
   have:=hd 45 (abD e);omega
  let e:=Pj j;unfold dY at e;rw[a,b,if_pos #[rfl,()]]at e;show e
 .obtain⟨m,n,rfl⟩:∃m:Nat,0<m/\i= -((m:Nat):Int):=#[i.natAbs,(),()];let#[a,b]:=vV m;let f:=lG (m:=m) (k:=19) (by decide) ();let e:(μ (toString (-((m:Nat):Int)))).cps.toList=45::(μ (toString ((m:Nat):Int))).cps.toList:=by
   rw[yH m n,aJ];have:("-":Str).cps.toList=[45]:=by fin2
   rw[this];rfl
  let c:=Xx a;rw[b]at c;rw[_L.len_list]at f;rw[e];generalize(μ (toString ((m:Nat):Int))).cps.toList=l at a b c f⊢;let o:l≠[48]:=λq=>by have:=c.mpr q;omega
  let p:tu (45::l)=true:=by
   unfold tu;rw[if_pos (show(45::l)[0]?=↑45 from rfl)];show(decide (l≠[48])&&eG l)=true;rw[a,decide_eq_true o];rfl
  let w2:qd (45::l)= -((m:Nat):Int):=by
   unfold qd;rw[if_pos (show(45::l)[0]?=↑45 from rfl)];show -((digitsVal l:Nat):Int)=_;rw[b]
  unfold ji;rw[p,w2,if_pos #[rfl,by rw[acz];omega,h1,h2]]
def zT(i:Int):∀c∈(μ (toString i)).cps.toList,c=45\/(48<=c/\c<=57):=by
 intro c hc;by_cases a:0<=i
 .let#[m,rfl]:=aeo a;show .inr (tG m c hc)
 .obtain⟨m,e,rfl⟩:∃m:Nat,0<m/\i= -((m:Nat):Int):=#[i.natAbs,(),()];rw[yH m e,aJ]at hc;obtain h|h:=agq.mp hc
  .left;have:("-":Str).cps.toList=[45]:=by fin2
   rw[this]at h;simpa using h
  .show .inr (tG m c h)
def pB{i:Int}(h:i.natAbs<10^k)(a:1<=k:=by decide):↥(μ (toString i))<=k+1:=by
 by_cases c:0<=i
 .let#[m,rfl]:=aeo c;have:=lG (m:=m) (k:=k) a (~~~h);omega
 .obtain⟨m,f,rfl⟩:∃m:Nat,0<m/\i= -((m:Nat):Int):=#[i.natAbs,(),()];have:=lG (m:=m) (k:=k) a (~~~h);let e:↥("-":Str)=1:=by fin2
  rw[yH m f,len_app,e];omega
def X8:("?":Str).cps.toList=[63]:=by fin2
def yZ:("'":Str).cps.toList=[39]:=by fin2
def ahg(h1: -1000000000000000000<=i)(h2:i<=1000000000000000000):gA "number" (wordOf (.int i))=↑(.int i):=by
 let a:¬wordOf (.int i)="?":=λe=>by
  let h:63∈(μ (toString i)).cps.toList:=by
   let c:μ (toString i)=μ "?":=e;rw[c,X8];simp
  have:=zT i 63 h;omega
 unfold gA;rw[if_neg a,if_pos rfl];show Al (ji (μ (toString i)).cps.toList)=_;rw[ake h1 h2];rfl
def alv(a:↥z<=20)(h:∀c∈z.cps.toList,c∈SG):jg (.str z)=true:=by
 show(decide (↥z<=20)&&iu z yQ)=true;rw[decide_eq_true a,aqw];unfold iu;rw[aeN];show λc hc=>decide_eq_true (amX c (h c hc))
def agD(z:Str):Ϗ (μ "'"++z) ↑1 none=z:=by
 apply d9;have:=uD (μ "'"++z) 1;rw[show((1:Nat):Int)=1 from rfl]at this;rw[this,aJ,yZ];rfl
def afb:¬(("text":Str)="number"):=by fin2
def acO(f:↥z<=20)(h:∀c∈z.cps.toList,c∈SG):gA "text" (wordOf (.str z))=↑(.str z):=by
 let e:wordOf (.str z)=μ "'"++z:=rfl;let a:(μ "'"++z).cps.toList[0]?=↑39:=by rw[aJ,yZ];rfl
 let g:¬μ "'"++z="?":=λe=>by
  let i:μ "'"++z=μ "?":=e;rw[i,X8]at a;simp at a
 rw[e];unfold gA;rw[if_neg g,if_neg afb];unfold lg;rw[agD,if_pos #[a,alv f h]];rfl
def afs:(" ":Str).cps.toList=[32]:=by fin2
def sJ(h:ps≠[])(a:∀p∈ps,32∉p.cps.toList):χ 32 (ϭ " " ps)=ps:=by
 unfold χ;let e:(ϭ " " ps).cps.toList=f9 32 (ps.map λp=>p.cps.toList):=oN 32 ps;rw[e,uP (~~~h) λp hp=>?_,aeu]
 .have :((λl:List Nat=>(#[l.toArray]:Str))∘λp:Str=>p.cps.toList)=id:=by
   funext p;rfl
  rw[this,asG]
 .let#[q,c,rfl]:=ab9.mp hp;show a q c
def wk(z:Str):ϭ " " (χ 32 z)=z:=by
 apply d9;let e:(ϭ " " (χ 32 z)).cps.toList=f9 32 ((χ 32 z).map λp=>p.cps.toList):=oN 32 _;rw[e];unfold χ;rw[aeu];have:((λp:Str=>p.cps.toList)∘λl:List Nat=>(#[l.toArray]:Str))=id:=by
  funext p;rfl
 rw[this,asG,Ls]
def aeq(a b c:Str):ϭ " " [a,b,c]=a++μ " "++b++μ " "++c:=by
 show a++μ " "++(b++μ " "++c)=_;apply d9;simp only[aJ,api]
end _V
namespace _L
open PySem PySem.Spec PyProof.Rows PySem.W
section
variable{X:Cx}{σ:St}{H:Hp}{Q:VK}{a:δ}
def Xp(a:b≠d)(e:h.get? b=↑o):(sortedHeap h d vs out).get? b=↑o:=by
 unfold sortedHeap;rw[acH<*(Ne.symm a)];show aaS _ (aaS _ ((acH<*(Ne.symm a))<|>e))
def VN{d:δ}{us vs:List ε}{out:Array ε}{n:Nat}(e:h.get? d=↑(seqObj "list" us.toArray n)):∃c,(sortedHeap h d vs out).get? d=↑(seqObj "list" out c):=by
 unfold sortedHeap;let h1:=get?_update_seq e (λ_=>(#v[]:Array ε));let h2:=aaS (seqObj "tuple" vs.toArray 0) h1;let a:=aaS (seqObj "list" #v[] 0) h2;show#[_,get?_update_seq a (λ_=>out)]
def Gf(h:IntsAre vs ns):Vals (ns.map V.int) vs:=by
 induction h with
 |nil=>show .nil
 |cons n t _ a=>show .cons #[t,rfl] a
def GJ:∀{vs:List ε},↥vs=↥ks->(∀(j:Nat) v,vs[j]?=↑v->∃i t,ks[j]?=↑i/\v=Value.int i t)->IntsAre vs ks:=by
 induction ks with
 |nil=>intro vs h _;have:vs=[]:= ~~~h
       subst this;show .nil
 |cons k ks a=>
  intro vs h g;cases vs with
  |nil=>simp at h
  |cons v vs=>
   let#[i,t,e,rfl]:=g 0 v rfl;have:k=i:= ~~~e
   subst this;show .cons k t (a (~~~h) λj v e=>~~~g (j+1) v (~~~e))
def adu(p:KdlSrc prog w ty q d n l Ok)(B:A.handled=none)(y:Ok s.heap)(C:n<=ϳ)(g:∀(h2:ϫ)(k:Nat)(xs:Array ε),⇑s<h2.objs.size->(∀b o,s.heap.get? b=↑o->h2.get? b=↑o)->ItemsOf l xs n->R xs.toList {s with heap:=h2,toks:=k}):Ϧ (Ϩ prog w) A (collect (.ref q)) R E s:=by
 let#[D,G]:=p.there _ y
 let' N:δ:=⇑s
 let' Rz:Result->ν->Prop:=λr s2=>∃(h2:ϫ)(k:Nat)(xs:Array ε)(c:Nat),r=.ok (.ret (.ref N))/\s2={s with heap:=h2,toks:=k}/\(∀b o,s.heap.get? b=↑o->h2.get? b=↑o)/\h2.get? N=some {cls:=.type "list",dict:=none,data:=.seq xs c,slots:= #v[]}/\ItemsOf l xs n
 let i:∀s2:ν,Rz (.ok (.ret (.ref N))) s2->Ϧ (Ϩ prog w) A (do
   let o<-load N
   match o.data with
   |.seq xs _=>pure xs.toList
   |_=>unsupported "internal:collect") R E s2:=by
  rintro s2 ⟨h2,k,xs,c, -,rfl,u,j,v⟩
  show π (wpAny_load j (ϱ (g h2 k xs (adw j) u v)))
 let H:(s.heap.push {cls:=.type "list",data:=.seq ([]:List ε).toArray}).get? N=some {cls:=.type "list",data:=.seq #v[]}:=acN _ rfl;let x:Ok (s.heap.push {cls:=.type "list",data:=.seq ([]:List ε).toArray}):=p.keep _ _ y λ_ _ _ e=>aaS _ e
 let run:=kdl_extend (A:=A) (s:={s with heap:=s.heap.push {cls:=.type "list",data:=.seq ([]:List ε).toArray}}) (R:=Rz) p B x N (asm D) (asm G) (.ref N) 0 H
  (λh2 k xs c u j v=>#[h2,k,xs,c,rfl,rfl,λb o e=>u b o (adn (adw e)) (aaS _ e),j,v]) C
 unfold collect;show π (wpAny_runValue (amQ entry_proto_collect' ?_));rw[Around.under_plainId F.plain_proto_collect];show π (m:=newList []) (wpAny_newObj_type (ϱ #[plainId_quiet F.plain_list_iadd _,amQ entry_list_iadd' ?_]));rw[Around.under_plainId F.plain_list_iadd];show adK (t:=Builtin.List.listExtendWith (.ref N) (.ref q) (.ref N)) run (λr s2 a=>?_) λe s2 a=>?_
 .cases r with
  |done f=>
   let#[h2,k,xs,c,e,rest]:=id a;cases e;show i s2 a
  |again c=>
   show#[a.1,akW a.2 λL I z=>?_];let#[h2,k,xs,c2,e,rest]:=id z;subst e;show i I z
 .let#[_,_,_,_,J,_]:=a;cases J
def zY{ks:List Int}(e:H a=↑(.dK Ϸ))(G:Ϸ.map (·.1)=ks.map Sum.inl)(D:↥ks<64)(g:∀(p:δ)(f:List Int),H p=none->f.Perm ks->f.Pairwise (· <= ·)->Q (.ref p) (upd H p (.lst (f.map V.int))))(hc:X.calm=true:=by rfl):CL X (.builtin "sorted") [.ref a] H Q:=by
 show cV (r:=λxs H Q=>∃(a:δ)(Ϸ:List (Key×V))(ks:List Int),xs=[.ref a]/\H a=↑(.dK Ϸ)/\Ϸ.map (·.1)=ks.map Sum.inl/\↥ks<64/\∀(p:δ)(f:List Int),H p=none->f.Perm ks->f.Pairwise (· <= ·)->Q (.ref p) (upd H p (.lst (f.map V.int)))) ?_ #[a,Ϸ,ks,rfl,e,G,D,g];intro ϵ s σ H xs us Q I r h;let#[a,Ϸ,ks,rfl,e,G,D,g]:=h;let#[u,rfl,U]:=vals1 r;cases U;let hsz:=ϯ;let#[z,lo,vs,R,hd]:=yO I.hok e;let#[ep,W]:=hd.dictAt;let Y:↥Ϸ=↥ks:=by have:=congrArg aqJ G;simpa using this
 let Z:=↥R;let L:vs.map (·.1)=ks.map Sum.inl:=by rw[<-R.keys];show G
 show Calls.call_function_entry kind_sorted plain_sorted entry_sorted (args_sorted1 _) ?_;unfold aos.«sorted»;show π (m:=checkCount "sorted" 1 1 _) (ϱ ?_)*>π (adu (A:=X.A.in1) (kdl_dict lo) (I.ok.hd hc) W () λh' tk l M q n=>?_);let hal:↥l.toList=↥vs:=by rw[al9];show n.1
 let hI:IntsAre l.toList ks:=by
  show GJ () λj v ev=>?_
  let#[k,x,e1,e2]:=n.2 j v (by rw[<-aoY];show ev);let E:(vs.map (·.1))[j]?=↑k:=by rw[acS,e1];rfl
  rw[L,acS]at E;cases e4:ks[j]? with
  |none=>rw[e4]at E;cases E
  |some i=>
   rw[e4]at E;let J:Sum.inl i=k:= ~~~E
   obtain⟨i',t,O,rfl⟩|⟨y,t,O,_⟩:=jd (k:=k) (v:=v) e2
   .rw[O]at J;cases J;show#[i,t,rfl,rfl]
   .rw[O]at J;cases J
 show π (wpAny_newList ?_ ());let B:(h'.push (seqObj "list" l.toList.toArray 0)).get? h'.objs.size=↑(seqObj "list" l.toList.toArray 0):=acN _ rfl;let C:⇑s<=h'.objs.size:=arh M;show π (aed (wpAny_call_entry slot_list_sort #[_,B,rfl] entry_list_sort (list_sort_tree B hI () λout F a1 S a3=>#[_,rfl,?_]) (args_list_sort _)))*>ϱ #[_,rfl,?_];let#[c,P]:=VN (vs:=l.toList) (out:=out) B;show#[.ref h'.objs.size,_,I.laid (t':=tk) (o:=.lst (F.map V.int)) (λb o T=>Xp (adn (adk (adw T) C)) (aaS _ (q<*T))) C #[by rw[ϰ,S.length_eq];omega,out.toList,c,Gf a1,~~~P],rfl,g _ F (I.hok.fresh C) S a3]
def KQ(f:X.A.units+1<cLine)(g:aK H a y ↑v)(q:Q v H):IX X (.ref a) y H Q:=by
 show wI (r:=λx y H Q=>∃a v,x=.ref a/\aK H a y ↑v/\Q v H) ?_ #[a,v,rfl,g,q];intro value c ϵ s σ H x y w u Q I rx ry h hs;let#[a,v,rfl,g,q]:=h;obtain rfl:w=Value.ref a:=rx;let ty:=Vt I g;let run:Ϧ ∅ X.A (subscripted c false (Value.ref a) u) (λr e=>Ϧ ∅ X.A (letTemporaryGo value (Value.ref a) r>>=λ_=>pure r) (EP X ϵ σ Q) X.xe e) X.xe s:=by
  rw[hs];show wpAny_operating (RB f I g ry λr e i j=>π (wpAny_letTemporaryGo (ϱ #[v,H,i,j,q])))
 unfold subscriptTail;show π ?_;rw[getitemInPython_of_ne ty.not_modules];show π (wpAny_specialOf ty F.slot_dict_getitem.lookup ?_)
 first
  |show ϱ (π run)
  |show π (ϱ (π run))
  |show π run
end
end _L
namespace _V
open PySem _L PyProof.Rows _M
section
variable{α β:Type}
def Ε(m:List (Int×α))(i:Int):Option α:=(m.find? λp=>decide (p.1=i)).map (·.2)
def aD(m:List (Int×α))(i:Int)(x:α):List (Int×α):=if(m.any λp=>decide (p.1=i))=true then m.map (λp=>if p.1=i then(p.1,x)else p)else m++[(i,x)]
def az(m:List (Int×α))(i:Int):List (Int×α):=m.filter λp=>decide (p.1≠i)
abbrev PR(R:V->α->Prop)(kv:Key×V)(p:Int×α):Prop:=kv.1=Sum.inl p.1/\R kv.2 p.2
def DictAt(R:V->α->Prop)(H:Hp)(a:δ)(m:List (Int×α)):=∃Ϸ,H a=↑(.dK Ϸ)/\ Α (PR R) Ϸ m
def aa7(i j:Int):decide ((Sum.inl i:Key)=Sum.inl j)=decide (i=j):=by
 by_cases h:i=j
 .subst h;simp
 .have :¬(Sum.inl i:Key)=Sum.inl j:=λe=>h (Sum.inl.inj e)
  rw[decide_eq_false this,decide_eq_false h]
def wU{R:V->α->Prop}(h:Α (PR R) Ϸ m):Ϸ.map (·.1)=(m.map (·.1)).map Sum.inl:=by
 induction h with
 |nil=>rfl
 |cons h _ a=>rw[adY,adY,adY,a,h.1]
def iz{R:V->α->Prop}(h:Α (PR R) Ϸ m)(i:Int):(bu Ϸ (Sum.inl i)=none/\ Ε m i=none)\/∃v x,bu Ϸ (Sum.inl i)=↑v/\ Ε m i=↑x/\R v x:=by
 induction h with
 |nil=>show .inl #[rfl,rfl]
 | @cons f p l m h _ c=>
   let#[k,v]:=f;let#[j,x]:=p;let#[g,n]:=h;let a:k=Sum.inl j:=g;subst a;unfold bu Ε at c⊢;rw[af3,af3];show((match decide ((Sum.inl j:Key)=Sum.inl i)with|true=>_|false=>_:Option (Key×V)).map _=_/\_)\/_;rw[aa7];by_cases e:j=i
   .rw[decide_eq_true e];show .inr #[v,x,rfl,rfl,n]
   .rw[decide_eq_false e];show c
def al5{R:V->α->Prop}(h:Α (PR R) Ϸ m)(i:Int):(Ϸ.any λa=>decide (a.1=Sum.inl i))=m.any λp=>decide (p.1=i):=by
 induction h with
 |nil=>rfl
 | @cons a p l m h _ c=>rw[apb,apb,c,h.1,aa7]
def wM{R:V->α->Prop}(h:Α (PR R) Ϸ m)(i:Int)(r:R v x):Α (PR R) (putK Ϸ (Sum.inl i) v) (aD m i x):=by
 unfold putK aD;rw[al5 h i];by_cases e:(m.any λp=>decide (p.1=i))=true
 .rw[if_pos e,if_pos e];clear e;induction h with
  |nil=>show .nil
  | @cons c p l m h _ f=>
    show .cons ?_ f;let#[a,g]:=h;show PR R (if c.1=Sum.inl i then(c.1,v)else c) (if p.1=i then(p.1,x)else p);by_cases e:p.1=i
    .rw[if_pos e,if_pos (by rw[a,e])];show#[a,r]
    .rw[if_neg e,if_neg (by rw[a];show λz=>e (Sum.inl.inj z))];show#[a,g]
 .rw[if_neg e,if_neg e];show Α.app h (.cons #[rfl,r] .nil)
def ux{R:V->α->Prop}(h:Α (PR R) Ϸ m)(i:Int):Α (PR R) (gJ Ϸ (Sum.inl i)) (az m i):=by
 unfold gJ az;induction h with
 |nil=>show .nil
 | @cons g p l m h _ c=>
   let#[a,f]:=h;rw[apw,apw];by_cases e:p.1=i
   .rw[if_neg (by rw[a,e];simp),if_neg (by rw[e];simp)];show c
   .rw[if_pos (by rw[a];simp[e]),if_pos (by simp[e])];show .cons #[a,f] c
theorem d8{R S:V->α->Prop}(h:Α (PR R) Ϸ m)(f:∀v x,R v x->S v x):Α (PR S) Ϸ m:=Α.imp (λ_ _ h=>#[h.1,f<*h.2]) h
def rA{i j:Int}{x:α}:Ε (aD m i x) j=if j=i then some x else Ε m j:=by
 unfold Ε aD;induction m with
 |nil=>
  rw[List.any_nil,if_neg (by decide),asW,af3];by_cases e:j=i
  .subst e;simp
  .let f:¬i=j:=λz=>e z.symm
   simp[e,f]
 |cons p r a=>
  let#[k,y]:=p;rw[apb];by_cases c:k=i
  .subst c;simp only[decide_true,Bool.true_or,if_true,adY,af3];by_cases e:j=k
   .subst e;simp
   .let f:¬k=j:=λz=>e z.symm
    simp only[e,f,decide_false,if_false];clear a
    congr 1
    induction r with
    |nil=>rfl
    |cons q r g=>
     let#[k2,n]:=q;rw[adY,af3,af3,g];by_cases h2:k2=k
     .subst h2;simp[f]
     .simp[h2]
  .simp only[c,decide_false,atj];by_cases l:(r.any λp=>decide (p.1=i))=true
   .rw[if_pos l]at a⊢;rw[adY,if_neg c,af3,af3];by_cases e:k=j
    .subst e;simp[c]
    .simp only[e,decide_false];show a
   .rw[if_neg l]at a⊢;rw[aty,af3,af3];by_cases e:k=j
    .subst e;simp[c]
    .simp only[e,decide_false];show a
def vX{m:List (Int×α)}:Ε (az m i) j=if j=i then none else Ε m j:=by
 unfold Ε az;induction m with
 |nil=>simp
 |cons p r c=>
  let#[k,y]:=p;rw[apw];by_cases a:k=i
  .subst a;simp only[ne_eq,not_true,decide_false,aqc,if_false,af3];rw[c];by_cases e:j=k
   .subst e;simp
   .let f:¬k=j:=λz=>e z.symm
    simp[e,f]
  .simp only[ne_eq,a,not_false_eq_true,decide_true,if_true,af3];by_cases e:k=j
   .subst e;simp[a]
   .simp only[e,decide_false];show c
def Ww{i:Int}{x:α}{k:Int}:k∈(aD m i x).map (·.1)↔k=i\/k∈m.map (·.1):=by
 unfold aD;by_cases a:(m.any λp=>decide (p.1=i))=true
 .rw[if_pos a];have:(m.map λp=>if p.1=i then(p.1,x)else p).map (·.1)=m.map (·.1):=by
   rw[aeu];show amo λp _=>?_
   show(if p.1=i then(p.1,x)else p).1=p.1;split <;>rfl
  rw[this];show#[.inr,λh=>h.elim (λe=>?_) id];subst e;let#[p,hp,e]:=amJ.mp a;show ab9.mpr #[p,hp,of_decide_eq_true e]
 .rw[if_neg a,ahZ,agq];constructor
  .rintro(h|h)
   .show .inr h
   .show .inl (~~~h)
  .rintro(h|h)
   .show .inr (~~~h)
   .show .inl h
def Jp{i:Int}{x:α}(h:(m.map (·.1)).Nodup):((aD m i x).map (·.1)).Nodup:=by
 unfold aD;by_cases c:(m.any λp=>decide (p.1=i))=true
 .rw[if_pos c];have:(m.map λp=>if p.1=i then(p.1,x)else p).map (·.1)=m.map (·.1):=by
   rw[aeu];show amo λp _=>?_
   show(if p.1=i then(p.1,x)else p).1=p.1;split <;>rfl
  rw[this];show h
 .rw[if_neg c,ahZ];show asy.mpr #[h,by simp,λa h1 b h2 e=>c ?_];let f:b=i:= ~~~h2
  subst e;subst f;let#[p,hp,e]:=ab9.mp h1;show amJ.mpr #[p,hp,decide_eq_true e]
theorem K9{m:List (Int×α)}(h:(m.map (·.1)).Nodup):((az m i).map (·.1)).Nodup:=h.sublist (List.Sublist.map _ amx)
theorem ah7{m:List (Int×α)}(h:k∈(az m i).map (·.1)):k∈m.map (·.1):=(List.Sublist.map _ amx).subset h
def sH{i:Int}{x:α}(h:Ε m i=↑x):(i,x)∈m:=by
 unfold Ε at h;cases e:m.find? λp=>decide (p.1=i)with
 |none=>rw[e]at h;cases h
 |some p=>
  rw[e]at h;let h1:=List.find?_some e;let h2:=List.mem_of_find?_eq_some e;let#[k,y]:=p;let e1:k=i:=of_decide_eq_true h1;let a:y=x:= ~~~h
  subst e1;subst a;show h2
def lM{m:List (Int×α)}{i:Int}:Ε m i=none↔i∉m.map (·.1):=by
 unfold Ε;rw[Option.map_eq_none_iff,List.find?_eq_none];constructor
 .intro h a;let#[p,hp,e]:=ab9.mp a;show h p hp (decide_eq_true e)
 .intro h p hp e;show h (ab9.mpr #[p,hp,of_decide_eq_true e])
def Out(S:List δ)(H H':Hp):=∀b o,b∉S->H b=↑o->H' b=↑o
theorem Out.refl(S:List δ)(H:Hp):Out S H H:=λ_ _ _ h=>h
theorem Out.trans(a:Out S H H1)(b:Out S H1 H2):Out S H H2:=λc o hc h=>b c o hc (a c o hc h)
theorem Out.of(h:ζ H H'):Out S H H':=λb o _ e=>h b o e
theorem Out.upd(h:a∈S):Out S H (upd H a o):=λb u c e=>by
 rw[ξ (λz=>c (by rw[z];show h))];show e
theorem Out.mono(h:Out S H H')(s:∀x∈S,x∈T):Out T H H':=λb o a e=>h b o (λz=>a (s b z)) e
def TupAt(H:Hp)(v:V)(xs:List V):=∃t,v=.ref t/\H t=↑(.tup xs)
def mq(H:Hp)(v:V):Option (List V)->Prop
 |none=>v=.non
 |some xs=>TupAt H v xs
structure bA where
 at_:Int
 row:Int
 was:Option (List V)
 is:Option (List V)
def lL(H:Hp)(v:V)(d:bA):=∃t w u,v=.ref t/\H t=↑(.tup [.int d.at_,.int d.row,w,u])/\mq H w d.was/\mq H u d.is
structure Bk where
 heads:List ο
 rows:List (Int×List V)
 touched:List (Int×Int)
 done:List bA
 known:Int
 now:Int
structure BA where
 b:δ
 dx:δ
 h:δ
 r:δ
 t:δ
 d:δ
def R7(v:V)(i:Int):Prop:=v=.int i
structure Κ(C:δ)(H:Hp)(A:BA)(B:Bk):Prop where
 ins:H A.b=↑(.ins C A.dx [("heads",.ref A.h),("rows",.ref A.r),("touched",.ref A.t),("done",.ref A.d),("known",.int B.known),("now",.int B.now)])
 own:H A.dx=↑(.own A.b)
 heads:aj H A.h B.heads
 rows:DictAt (TupAt H) H A.r B.rows
 touched:DictAt R7 H A.t B.touched
 done:∃xs,H A.d=↑(.lst xs)/\ Α (lL H) xs B.done
 rt:A.r≠A.t
 hd:A.h≠A.d
def BA.fp(A:BA):List δ:=[A.b,A.r,A.t,A.d]
def TupAt.stay(h:TupAt H v xs)(s:∀b ys,H b=↑(.tup ys)->H' b=↑(.tup ys)):TupAt H' v xs:=by
 let#[t,e,h]:=h;show#[t,e,s<*h]
def mq.stay(h:mq H v o)(s:∀b ys,H b=↑(.tup ys)->H' b=↑(.tup ys)):mq H' v o:=by
 cases o with
 |none=>show h
 |some xs=>show TupAt.stay h s
def lL.stay(h:lL H v d)(s:∀b ys,H b=↑(.tup ys)->H' b=↑(.tup ys)):lL H' v d:=by
 let#[t,w,u,e,h1,h2,a]:=h;show#[t,w,u,e,s<*h1,h2.stay s,a.stay s]
def aj.stay(h:aj H a cs)(h1:∀xs,H a=↑(.lst xs)->H' a=↑(.lst xs))(s:∀b ys,H b=↑(.tup ys)->H' b=↑(.tup ys)):aj H' a cs:=by
 let#[vs,e,h2]:=h;show#[vs,h1 _ e,Α.imp (λv c z=>by let#[t,e,h]:=z;show #[t,e,s<*h]) h2]
theorem Κ.stay{C:δ}{H H':Hp}{A:BA}{B:Bk}(k:Κ C H A B)(s:∀b ys,H b=↑(.tup ys)->H' b=↑(.tup ys))(f:∀x o,x∈[A.b,A.dx,A.h,A.r,A.t,A.d]->H x=↑o->H' x=↑o):Κ C H' A B where
 ins:=f _ _ (by simp) k.ins
 own:=f _ _ (by simp) k.own
 heads:=k.heads.stay (λxs e=>f _ _ (by simp) e) s
 rows:=by
  let#[Ϸ,e,h]:=k.rows;show#[Ϸ,f _ _ (by simp) e,d8 h λv x h=>h.stay s]
 touched:=by
  let#[Ϸ,e,h]:=k.touched;show#[Ϸ,f _ _ (by simp) e,h]
 done:=by
  let#[xs,e,h]:=k.done;show#[xs,f _ _ (by simp) e,Α.imp (λv d h=>h.stay s) h]
 rt:=k.rt
 hd:=k.hd
theorem Κ.same(k:Κ C H A B)(s:ζ H H'):Κ C H' A B:=k.stay (λ_ _ e=>s _ _ e) λ_ _ _ e=>s _ _ e
section
variable{C:δ}{H H':Hp}{A:BA}{B:Bk}
def Κ.HN(k:Κ C H A B)(c:b∈A.fp):(∃fs,H b=↑(.ins C A.dx fs))\/(∃Ϸ,H b=↑(.dK Ϸ))\/∃xs,H b=↑(.lst xs):=by
 let a:b=A.b\/b=A.r\/b=A.t\/b=A.d:=by simpa [BA.fp]using c
 obtain rfl|rfl|rfl|rfl:=a
 .show .inl #[_,k.ins]
 .let#[Ϸ,e,_]:=k.rows;show .inr (.inl #[_,e])
 .let#[Ϸ,e,_]:=k.touched;show .inr (.inl #[_,e])
 .let#[xs,e,_]:=k.done;show .inr (.inr #[_,e])
theorem Κ.tup(k:Κ C H A B)(o:Out A.fp H H'):∀b ys,H b=↑(.tup ys)->H' b=↑(.tup ys):=λb ys e=>o b _ (λa=>by
 obtain⟨fs,z⟩|⟨Ϸ,z⟩|⟨xs,z⟩:=k.HN a<;>rw[e]at z<;>cases z) e
def Κ.ne(k:Κ C H A B):A.b≠A.dx/\A.b≠A.h/\A.b≠A.r/\A.b≠A.t/\A.b≠A.d/\A.r≠A.dx/\A.r≠A.h/\A.r≠A.d/\A.t≠A.dx/\A.t≠A.h/\A.t≠A.d/\A.d≠A.dx:=by
 let h1:=k.ins;let h2:=k.own;let#[_,g,_]:=k.heads;let#[_,a,_]:=k.rows;let#[_,c,_]:=k.touched;let#[_,f,_]:=k.done;show#[?_,?_,?_,?_,?_,?_,?_,?_,?_,?_,?_,?_]<;>intro e
 .rw[e,h2]at h1;cases h1
 .rw[e,g]at h1;cases h1
 .rw[e,a]at h1;cases h1
 .rw[e,c]at h1;cases h1
 .rw[e,f]at h1;cases h1
 .rw[e,h2]at a;cases a
 .rw[e,g]at a;cases a
 .rw[e,f]at a;cases a
 .rw[e,h2]at c;cases c
 .rw[e,g]at c;cases c
 .rw[e,f]at c;cases c
 .rw[e,h2]at f;cases f
def Κ.Dg(k:Κ C H A B)(kn a:Int):Κ C (upd H A.b (.ins C A.dx [("heads",.ref A.h),("rows",.ref A.r),("touched",.ref A.t),("done",.ref A.d),("known",.int kn),("now",.int a)])) A {B with known:=kn,now:=a}:=by
 let#[n1,n2,c,f,g,_]:=k.ne;let st:∀b ys,H b=↑(.tup ys)->(upd H A.b (.ins C A.dx [("heads",.ref A.h),("rows",.ref A.r),("touched",.ref A.t),("done",.ref A.d),("known",.int kn),("now",.int a)])) b=↑(.tup ys):=k.tup (Out.upd (by simp[BA.fp]));show#[υ,?_,k.heads.stay (λxs e=>?_) st,?_,?_,?_,k.rt,k.hd]
 .rw[ξ (Ne.symm n1)];show k.own
 .rw[ξ (Ne.symm n2)];show e
 .let#[Ϸ,e,h]:=k.rows;show#[Ϸ,by rw[ξ (Ne.symm c)];show e,d8 h λv x h=>h.stay st]
 .let#[Ϸ,e,h]:=k.touched;show#[Ϸ,by rw[ξ (Ne.symm f)];show e,h]
 .let#[xs,e,h]:=k.done;show#[xs,by rw[ξ (Ne.symm g)];show e,Α.imp (λv d h=>h.stay st) h]
def Κ.Nk(k:Κ C H A B)(h:Α (PR (TupAt H)) Ϸ m):Κ C (upd H A.r (.dK Ϸ)) A {B with rows:=m}:=by
 let#[n1,n2,a,i,j,c,f,g,_]:=k.ne;let st:∀b ys,H b=↑(.tup ys)->(upd H A.r (.dK Ϸ)) b=↑(.tup ys):=k.tup (Out.upd (by simp[BA.fp]));show#[?_,?_,k.heads.stay (λxs e=>?_) st,#[Ϸ,υ,d8 h λv x h=>h.stay st],?_,?_,k.rt,k.hd]
 .rw[ξ a];show k.ins
 .rw[ξ (Ne.symm c)];show k.own
 .rw[ξ (Ne.symm f)];show e
 .let#[Ϸ,e,h]:=k.touched;show#[Ϸ,by rw[ξ (Ne.symm k.rt)];show e,h]
 .let#[xs,e,h]:=k.done;show#[xs,by rw[ξ (Ne.symm g)];show e,Α.imp (λv d h=>h.stay st) h]
def Κ.aaK(k:Κ C H A B)(h:Α (PR R7) Ϸ m):Κ C (upd H A.t (.dK Ϸ)) A {B with touched:=m}:=by
 let#[n1,n2,i,c,j,l,n,o,f,a,g,_]:=k.ne;let st:∀b ys,H b=↑(.tup ys)->(upd H A.t (.dK Ϸ)) b=↑(.tup ys):=k.tup (Out.upd (by simp[BA.fp]));show#[?_,?_,k.heads.stay (λxs e=>?_) st,?_,#[Ϸ,υ,h],?_,k.rt,k.hd]
 .rw[ξ c];show k.ins
 .rw[ξ (Ne.symm f)];show k.own
 .rw[ξ (Ne.symm a)];show e
 .let#[Ϸ,e,h]:=k.rows;show#[Ϸ,by rw[ξ k.rt];show e,d8 h λv x h=>h.stay st]
 .let#[xs,e,h]:=k.done;show#[xs,by rw[ξ (Ne.symm g)];show e,Α.imp (λv d h=>h.stay st) h]
def Κ.afv(k:Κ C H A B)(h:Α (lL H) xs ds):Κ C (upd H A.d (.lst xs)) A {B with done:=ds}:=by
 let#[n1,n2,j,l,c,m,n,f,o,g,i,a]:=k.ne;let st:∀b ys,H b=↑(.tup ys)->(upd H A.d (.lst xs)) b=↑(.tup ys):=k.tup (Out.upd (by simp[BA.fp]));show#[?_,?_,k.heads.stay (λxs e=>?_) st,?_,?_,#[xs,υ,Α.imp (λv d h=>h.stay st) h],k.rt,k.hd]
 .rw[ξ c];show k.ins
 .rw[ξ (Ne.symm a)];show k.own
 .rw[ξ k.hd];show e
 .let#[Ϸ,e,h]:=k.rows;show#[Ϸ,by rw[ξ f];show e,d8 h λv x h=>h.stay st]
 .let#[Ϸ,e,h]:=k.touched;show#[Ϸ,by rw[ξ i];show e,h]
end
end
end _V
namespace _L
open PySem PySem.Spec PyProof.Rows PySem.W
def afL(hp:apU ∅ X.A X.env X.xe)(hc:X.calm=true)(hs:∀x,foldedSetIterable e X.env x=pure x)(h:EV X e σ H λv H1=>∃q xs,v=.ref q/\ Δ X.K H1 q xs/\∃a:Nat->St->Hp->Prop,a 0 σ H1/\(∀i σ' H',i<=↥xs->a i σ' H'->Δ X.K H' q xs)/\
   (∀i x σ' H',xs[i]?=↑x->a i σ' H'->EG X tg x σ' H' λc H2=>Φ X body {D with nx:=a (i+1),ct:=a (i+1),bk:=D.nx} c H2)/\∀σ' H',a ↥xs σ' H'->D.nx σ' H'):SX X (.For tg e body [] pos) D σ H:=by
 show rY hp hc hs (ael (bC h λv H1 q=>?_));let#[q,xs,rfl,j,a,l,m,f,hd]:=q;show#[q,rfl,#[xs,j],akK (g:=EG X tg) (tb:=Φ X body) a l m f hd]
def DK(i:qz X.K C)(f:H e=↑(xw e C D))(hd:∀E',D=↑E'->∃fs,H E'=↑(.xd fs))(hp:H p=↑(.tup as))(j:∀vs,Vals as vs->vs=us)(l:atk X.K (.ref C) us=↑k)(q:Q (.bl k) H):CL X (.builtin "isinstance") [.ref e,.ref p] H Q:=by
 show cV (r:=λxs H Q=>xs=[.ref e,.ref p]/\H e=↑(xw e C D)/\(∀E',D=↑E'->∃fs,H E'=↑(.xd fs))/\H p=↑(.tup as)/\Q (.bl k) H) ?_ #[rfl,f,hd,hp,q];intro ϵ s σ H xs m Q I r h;let#[rfl,f,hd,hp,q]:=h;let#[o,u,rfl,r1,v]:=vals2 r;cases(show o=Value.ref e from r1);cases(show u=Value.ref p from v);let#[ox,od,J,_]:=I.inst f hd;let#[_,x,y,B,g,c,a]:=I.hok p _ hp;rw[j x y]at a;let#[n,a]:=a;let#[oc,E,F,G]:=B;dsimp only at c a;subst c a;show W.kia_tup (W5 i) I.kIn #[ox,od,J] g l (λz=>nomatch z) λtk=>#[.bl k,H,I.tok tk,rfl,q]
theorem zL:∀(as:List δ)(vs:List ε),Vals (as.map V.ref) vs->vs=as.map Value.ref
 |[],_,.nil=>rfl
 |a::as,_,.cons r t=>by
  cases(show _=Value.ref a from r);rw[zL as _ t];rfl
theorem Jx:∀{bs:List Bool}{us:List ε},Vals (bs.map V.bl) us->us=bs.map Value.bool
 |[],_,.nil=>rfl
 |b::bs,_,.cons r t=>by
  cases(show _=Value.bool b from r);rw[Jx t];rfl
theorem Up(k:Bool):∀bs:List Bool,(bs.map Value.bool).countP (isBoolOf k)=bs.count k
 |[]=>rfl
 |b::bs=>by
  rw[adY,List.countP_cons,List.count_cons,Up k bs];rfl
def anW{bs:List Bool}{k:Bool}(h:θ X.K H a (bs.map V.bl))(g:Q (.int (bs.count k:Nat)) H):MT X "list.count" (.ref a) [.bl k] H Q:=by
 show iT (r:=λx xs H Q=>∃a bs k,x=.ref a/\xs=[.bl k]/\θ X.K H a (bs.map V.bl)/\Q (.int (bs.count k:Nat)) H) ?_ #[a,bs,k,rfl,rfl,h,g];intro ϵ s σ H x xs v us Q I rx i h;let#[a,bs,k,rfl,rfl,h,g]:=h;cases rx;let#[u,rfl,j]:=vals1 i;cases(show u=Value.bool k from j);let#[m,r,#[#[cls,dd,f,sl],n,e,hc,hd,hs],o]:=I.list h;simp only at hc hd hs;subst hc hd hs;obtain rfl:=Jx r;show ao3 F.slot_list_count #[_,e,rfl] F.entry_list_count (F.args_list_count_2 _ _) (SeqAt.list_countAt a (bs.map Value.bool).toArray n _ sl (.bool k) (isBoolOf k)) #[e,λy l=>?_,?_]
 .let c:y∈bs.map Value.bool:= ~~~l
  let#[b,_,rfl]:=ab9.mp c;show SeqAt.EqAt.bool_bool b k
 .rw[show(bs.map Value.bool).toArray.toList=bs.map Value.bool from rfl,Up];show#[.int _,H,I.tok _,#[_,rfl],g]
end _L
namespace _L
open PySem PySem.Spec PyProof.Rows
def aiU:Option δ->ε
 |none=>.none
 |some b=>.ref b
theorem cu.nodes:∀{L:List δ}{c:Option ε},cu h c L->∀{i:Nat}{a:δ},L[i]?=↑a->∃o vs,h.get? a=↑o/\o.data=.fields vs/\vs[2]?=↑(aiU L[i+1]?)
 |[],_,_,i,a,e=>by simp at e
 |b::r,c,⟨_,o,vs,j,l,f⟩,0,a,e=>by
  let z:b=a:= ~~~e
  subst z;show#[o,vs,j,l,?_];cases r with
  |nil=>show f
  |cons x r=>show f.1
 |b::r,c,⟨_,o,vs,j,l,f⟩,i+1,a,e=>by
  let m:r[i]?=↑a:= ~~~e
  let#[o',g,k1,k2,k3]:=f.nodes m;show#[o',g,k1,k2,~~~k3]
theorem abo:entryFor table "proto.unchain"=↑aos.«proto.unchain» :=entryFor_of_tree (by kernel_rfl)
theorem Kf(f:cu s.heap c L)(m:L.Nodup)(p:e∉L)(k:R (.ok (.ret .none)) s):∀(n i j:Nat)(o sl:δ)(tg:Bool),↥L-i=n->L[i]?=↑o->L[j]?=↑sl->j<=i->codeAny (Ϩ prog w) A (.builtin "proto.unchain" #[[.ref e,.ref o,.ref sl,.bool tg],[]]) R s
 |0,i,j,o,sl,tg,q,hi,g,u=>by
  have:=(aas.mp hi).1;omega
 |n+1,i,j,o,sl,tg,q,hi,g,u=>by
  let#[J,vs,C,D,l]:=f.nodes hi;cases hb:L[i+1]? with
  |none=>
   rw[hb]at l;show amQ abo ?_;unfold aos.«proto.unchain»;show π (akX (x:=Value.none) C D l ?_);rw[if_pos (by rfl)];show ϱ k
  |some b=>
   rw[hb]at l;show amQ abo ?_;unfold aos.«proto.unchain»;show π (akX (x:=Value.ref b) C D l ?_);let v:b∈L:=abD hb;let y:b≠e:=λz=>p (z▸v)
   let B:b≠sl:=λz=>by
    let#[p1,r1]:=aas.mp hb;let#[p2,F]:=aas.mp g;have:=(arx m (h₀:=p1) (h₁:=p2)).mp (r1<|>z<|>F.symm);omega
   rw[if_neg (show ¬((Value.ref b==Value.none)=true)from by simp)];rw[if_neg (show ¬((Value.ref b==Value.ref e)=true)from ~~~y)];rw[if_neg (show ¬((Value.ref b==Value.ref sl)=true)from ~~~B)];let G:=(aas.mp hb).1;cases tg with
   |false=>
    show π (ϱ ?_)*>ϱ #[Code.quiet_builtin _ (by fin2),?_]*>Kf f m p k n (i+1) j b sl true () hb g ()
   |true=>
    let#[os,ws,H,I,E]:=f.nodes g;let a:j+1<↥L:=()
    rw[aad a]at E;show π (akX (x:=Value.ref L[j+1]) H I E ?_)*>ϱ #[Code.quiet_builtin _ (by fin2),?_]*>Kf f m p k n (i+1) (j+1) b _ false () hb (aad a) ()
def alL(g:s.heap.get? h=↑a)(hd:a.data=.fields vs)(hc:Ctx s.heap h b vs[2]?)(c:∀l,cu s.heap vs[2]? l->e∉l)(i:h≠e)(k:Q .none s):Ϧ (Ϩ prog w) A (runValue (.builtin "proto.unchain" #[[.ref e,.ref h,.ref h,.bool false],[]])) Q E s:=by
 show wpAny_runValue ?_;let#[_,l,f,j,m]:=hc;let n:cu s.heap ↑(.ref h) (h::l):=#[rfl,a,vs,g,hd,f];show Kf n (aiG.mpr #[j,m]) (λz=>?_) k (↥l+1) 0 0 h h false rfl rfl rfl (Ϭ _);obtain z|z:=aaT.mp z
 .show i z.symm
 .show c l f z
def KY{h:ϫ}{o:Obj}{vs:Array ε}{i:Nat}{x:ε}(a:h.get? e=↑o)(hd:o.data=.fields vs):(h.update e (Obj.mapFields (·.setIfInBounds i x))).get? e=some {o with data:=.fields (vs.setIfInBounds i x)}:=by
 rw[afa _ a (Obj.isFreed_of_fields (Obj.data_mapFields hd _))];let#[c,d,f,sl]:=o;cases hd;rfl
def aiJ(c:s.heap.get? a=↑o)(hd:o.data=.fields vs)(hi:i<vs.size)(h:Q PUnit.unit {s with heap:=s.heap.update a (Obj.mapFields (·.setIfInBounds i x))}):Ϧ M A (updateField a i x) Q E s:=by
 have:=amA (M:=M) (A:=A) (E:=E) (i:=i) (x:=x) c hd hi h;show this
def Zn(m:bm.contains (.type "BaseException")=true)(hh:A.handled=↑(.ref h))(hc:∀(P:ε->ν->Prop) s',P .none s'->Ϧ (Ϩ prog w) A c P E s')(hx:Ϧ (Ϩ prog w) A x (λv a=>∃e t D O vs b,v=.ref e/\a.heap.get? C=↑(excClassObj nm q C N bs bm hdct sn sub ab col dd k0 k1 k2 k3 k5 "ValueError.__new__")/\
   a.heap.get? e=some {cls:=.ref C,dict:=D,data:=.fields #v[.ref t,.none,.none,.none,.bool false,.none]}/\h≠e/\a.heap.get? h=↑O/\O.data=.fields vs/\Ctx a.heap h b vs[2]? /\(∀l,cu a.heap vs[2]? l->e∉l)/\
   ∀h',(∀b,b≠e->h'.get? b=a.heap.get? b)->h'.get? e=some {cls:=.ref C,dict:=D,data:=.fields #v[.ref t,.none,.ref h,.none,.bool true,.none]}->E (.ref e) {a with heap:=h'}) E s):Ϧ (Ϩ prog w) A (raiseStmt env ↑x ↑c) Q E s:=by
 let B:(Value.ref C::bm).contains (.type "BaseException")=true:=by rw[ak3,m,at5]
 unfold raiseStmt;show π (adK hx (λv a h₁=>?_) λ_ _ x=>x);let#[e,t,D,O,vs,b,rfl,F,L,R,S,T,G,H,hE]:=h₁;let#[hp,g,d,tk,os]:=a;let lO:C≠e:=λz=>by rw[z,L]at F;cases F
 let ex:∀(P:ε->ν->Prop),P (.ref e) #[hp,g,d,tk,os]->Ϧ (Ϩ prog w) A (excFromValue (.ref e) "exceptions must derive from BaseException") P E #[hp,g,d,tk,os]:=by
  intro P U;unfold excFromValue
  repeat (first|with_reducible show aiQ L ?_|with_reducible show aiQ F ?_|(with_reducible show apj F ?_;rw[B])|wp_step)
  show U
 show π (aed (hc _ _ ?_))*>π (ϱ ?_)*>π (aed (ex _ ?_));dsimp only;rw[if_pos (by rfl)];show π (ϱ ?_)*>π (amA L rfl (by simp) ?_);let e1:=KY (i:=3) (x:=Value.none) L rfl;let o1:∀b,b≠e->(hp.update e (Obj.mapFields (·.setIfInBounds 3 Value.none))).get? b=hp.get? b:=λb n=>acH _ _ (Ne.symm n)
 generalize hp.update e (Obj.mapFields (·.setIfInBounds 3 Value.none))=I at e1 o1⊢;show π (amA e1 rfl (by simp) ?_);let e2:=KY (i:=4) (x:=Value.bool true) e1 rfl;let u:∀b,b≠e->(I.update e (Obj.mapFields (·.setIfInBounds 4 (Value.bool true)))).get? b=hp.get? b:=λb n=>(acH<*(Ne.symm n)).trans (o1 b n)
 dsimp only;generalize I.update e (Obj.mapFields (·.setIfInBounds 4 (Value.bool true)))=f at e2 u⊢;let p:f.get? e=some {cls:=.ref C,dict:=D,data:=.fields #v[.ref t,.none,.none,.none,.bool true,.none]}:=e2;let qY:=(u C lO)<|>F
 let step:∀(P:Flow->ν->Prop),Ϧ (Ϩ prog w) A (raiseNew (.ref e)) P E #[f,g,d,tk,os]->Ϧ (Ϩ prog w) A (do
   let e<-if <-isType (.ref e)then holding [.ref e] (raisedFor (.ref e) (.ref e))else raisedInstance (.ref e)
   setFlight e none
   raiseNew e) P E #[f,g,d,tk,os]:=by
  intro P U
  repeat (first|with_reducible show aiQ p ?_|with_reducible show aiQ qY ?_|(with_reducible show apj qY ?_;rw[B])|wp_step)
  show U
 show step _ ?_;unfold raiseNew;show π (wpAny_handled ?_);rw[hh];dsimp only;rw[if_pos (show(Value.ref h !=Value.ref e)=true from ~~~R)];let kk:∀v o ws,v≠e->hp.get? v=↑o->o.data=.fields ws->∃o' j,f.get? v=↑o'/\o'.data=.fields j/\j[2]?=ws[2]? :=λv o ws W X Y=>#[o,ws,(u v W)<|>X,Y,rfl]
 let kb:∀v o ws,v≠e->f.get? v=↑o->o.data=.fields ws->∃o' j,hp.get? v=↑o'/\o'.data=.fields j/\j[2]?=ws[2]? :=λv o ws W X Y=>#[o,ws,(u v W).symm.trans X,Y,rfl]
 let Z:Ctx f h b vs[2]? :=by
  let#[c1,l,c2,c3,c4]:=G;show#[c1,l,c2.stay kk (H l c2),c3,c4]
 let aa:∀l,cu f vs[2]? l->e∉l:=by
  intro l hl;let#[_,l',c2,_,_]:=G;let n1:=H l' c2;let ac:=c2.stay kk n1;let uniq:∀(l l':List δ)(c:Option ε),cu f c l->cu f c l'->l=l':=by
   intro l;induction l with
   |nil=>
    intro l' c J M;cases l' with
    |nil=>rfl
    |cons y l'=>rw[M.1]at J;cases J
   |cons y l ih=>
    intro l' c J M;cases l' with
    |nil=>let z:=J.1;rw[show c=_ from M]at z;cases z
    |cons y' l'=>
     let#[b1,o,ws,b2,b3,b4]:=J;let#[wB,o',j,u9,iw,Ib]:=M;rw[b1]at wB;cases wB;rw[b2]at u9;cases u9;rw[b3]at iw;cases iw;rw[ih l' _ b4 Ib]
  rw[uniq l l' _ hl ac];show n1
 show π (aed (alL (s:=#[f,g,d,tk,os]) ((u h R)<|>S) T Z aa R ?_))*>π (aiJ (i:=2) (x:=Value.ref h) p rfl (by simp) ?_)*>wpAny_throw (hE _ (λb n=>?_) ?_)
 .show(acH<*(Ne.symm n)).trans (u b n)
 .show KY p rfl
section
variable{X:Cx}{Kx:St->XK}{D:Ends}{σ:St}{H:Hp}{rest:List aoN}{pos np CT cpos rpos p0:Pos}{x y fld:Str}{cls c:ε}{d:Option δ×Bool}{a:Ϫ}{as:List Ϫ}{cc:Bool}{k k' j0:Nat}
theorem Ch.oR(c:Ch (X.bM e F (X.pn++ϵ)) pins' b):Ch X ϵ b:=#[c.1,c.2.1,c.2.2.1,λp hp=>c.2.2.2 p (aiP _ hp)]
def Zv(G:bz X Kx)(i:X.stack=X.env::X.outer)(B:X.env.frame=↑X.env.locals)(ok:X.Ok)(I:pJ (X.bM h F (X.pn++ϵ)) pins' σ H s e cls d)(q:Kx σ cls d H):notedBy ∅ (X.A.mark ↑h) X.env (cameBackBy ∅ X.A X.env X.xe) (.ref e) s:=by
 unfold notedBy;show pJ.note (X:=X.bM h F (X.pn++ϵ)) I i B λg T J L c1=>?_
 let#[M,vs,j,hc,l,hd,h1,O,h2,P]:=id L;let#[C,U,ws,m,p,Q]:=P T rfl;let D:3<ws.size:=(aiM.mp Q).1;let f:vs[1]?=↑(Value.ref T):=h1;unfold cameBackBy;show π (akX j hd f ?_);rw[if_neg (show ¬((Value.ref T==Value.none)=true)from by simp)];unfold setFlight;show π (akX j hd f ?_);rw[if_pos (show(Value.ref T !=Value.none)=true from by simp),B];show amA m p D ?_;let R:=Inv.oR ok J;let a:∀b,b≠T->(g.heap.update T (Obj.mapFields (·.setIfInBounds 3 (rawInt X.env.locals)))).get? b=g.heap.get? b:=λb c=>acH _ _ (Ne.symm c)
 let u:=afa (Obj.mapFields (·.setIfInBounds 3 (rawInt X.env.locals))) m (Obj.isFreed_of_fields (Obj.data_mapFields p _));let N:kJ g.heap (g.heap.update T (Obj.mapFields (·.setIfInBounds 3 (rawInt X.env.locals)))) [T] (cH X.stack):=by
  show#[λb o q _ n=>(a b (λz=>n (by simp[z]))).trans q,λb o q n=>#[o.slots,(a b (λz=>n (by simp[z])))<|>q],λb o q=>?_];by_cases z:b=T
  .subst z;show#[_,u]
  .show#[o,(a b z)<|>q]
 let ch:∀b∈[e,T],H b=none/\Ch X ϵ b:=λb c=>#[(c1 b c).1,(c1 b c).2.oR]
 show G ϵ σ H _ e cls d #[R.noted N λb c=>?_,↑T,rawInt X.env.locals,#[M,vs,(a e (Ne.symm C))<|>j,hc,l,hd,h1,O,h2.stay λv o x W y E=>?_,λY S=>?_],.inr #[rfl,rfl],λb c=>ch b (~~~c)] q
 .let z:b=T:= ~~~c
  subst z;show ch b (by simp)
 .by_cases z:v=T
  .subst z;rw[m]at y;cases y;show#[_,_,u,Obj.data_mapFields E _,by rw[ahY (by decide)]]
  .show#[o,x,(a v z)<|>y,E,rfl]
 .cases S;show#[C,_,_,u,Obj.data_mapFields p _,by simp[D]]
theorem ajA{s:ν}(I:Inv X ϵ σ H s){e:δ}{a:Obj}{vs:Array ε}(f:s.heap.get? e=↑a)(hd:a.data=.fields vs):e∉X.fs:=λm=>by
 let#[_,o,c,g]:=I.funs.mem m;rw[f]at c;cases c;show g vs hd
theorem Ym(P:ε->ν->Prop)(s:ν)(h:P .none s):Ϧ M A (do let v<-eval (.Constant .none j p) env;standAt p';pure v) P E s:=
 π (Constant_none (π (aif (ϱ h))))
def am2(hx:bz X Kx)(ae:X.stack=X.env::X.outer)(hf:X.env.frame=↑X.env.locals)(hg:Gl X x)(hm:X.mg x=↑c)(hd:(x==("__debug__":Str))=false)(ex:ape X.K cls c=↑true)(af:d.2=true)(O:mU X.prog X.w X.K X.mg X.base false k y fld)(hr:ϓ cc k' X.A)(hk:k+1<=k')(JR:Gl X y)(qG:(y==("__debug__":Str))=false)(he:acv (a::as) X.env=(false,eval a X.env)::acv as X.env)(ag:(backTo cpos (acv as X.env)).any (·.1)=false)(h:∀e pn,EA (X.bM (.ref e) (λ_ _=>False) pn) (a::as) σ H λvs H1=>∃n,vs=[.int n]/\n.natAbs<10^60/\∀E' H',ζ H1 H'->H' E'=↑(.xd [(fld,.int n)])->Kx σ (.ref (η X.mg y)) (↑E',false) H'):EH X (.ExceptHandler ↑(.Name x np) none [.Raise ↑(.Call (.Name y CT) (a::as) [] cpos) ↑(.Constant .none j0 p0) rpos] pos::rest) D σ cls d H:=by
 intro ϵ s e T I F ch;show apk (RK I F hg hm hd ex ?_) (by intro q;cases q)*>codeAny_handlers_suite (I.off F ch λs2 I2 F2=>?_);let#[j,j7,S,hcl,hdx,B,_,hsz2,zU,_]:=F2;let#[f,fd,ps,oc,od,osl,Fn,hb,hi,ah,ai]:=O.ex;let#[bm,N,nm,q,bs,hdct,sn,sub,ab,col,dd,k0,k1,k2,k3,k5,mN,hC,hN,ak,T']:=Ke I.ok.mod.kin hi;let#[c0,c1]:=ch e (by simp)
 let' Y:Cx:=X.bM (.ref e) (λ_ _=>False) (X.pn++ϵ)
 let J0:Inv Y [] σ H s2:=I2.bM;let J:Inv Y [(e,j)] σ H s2:=J0.pins_of λp hp=>by
  let z:p=(e,j):= ~~~hp
  subst z;show#[S,c0,c1.2.1,ajA I2 S B,λv z=>by rw[B]at z;cases z]
 let al:ϓ false (k+1) Y.A:=#[(λz=>nomatch z),(hr.mono hk).dp,(hr.mono hk).un];show wpAny_execs_cons (adK (Q:=λ_ _=>False) (E:=notedBy ∅ (X.A.mark ↑(.ref e)) X.env (cameBackBy ∅ X.A X.env X.xe)) ?_ (λ_ _ z=>z.elim) λ_ _ z=>z);rw[arm_exec_Raise];show π (aif (Zn (h:=e) (C:=η X.mg y) (nm:=nm) (q:=q) (N:=N) (bs:=bs) (bm:=bm) (hdct:=hdct) (sn:=sn) (sub:=sub) (ab:=ab) (col:=col) (dd:=dd) (k0:=k0) (k1:=k1) (k2:=k2) (k3:=k3) (k5:=k5) (T'.hasType (by fin2)) rfl (λP s' hP=>Ym P s' hP) ?_))*>π (adK (wpAny_Call_ofName (fU (X:=Y) J JR O.at_ ?_ qG)) (λv s₃ U=>π (aif (ϱ U))) λ_ _ x=>x);unfold callWith;let h':=h e (X.pn++ϵ) cpos [(e,j)] s2 J;let am:acv (a::as) Y.env=(false,eval a Y.env)::acv as Y.env:=he;show Ϧ _ _ (holding _ (evalArgs _ _ (backTo cpos (acv (a::as) Y.env)) _)>>=_) _ _ _;rw[am]at h'⊢;show π (aed (Calls.evalArgs_plain (adK h' (λus s3 hu=>π (aif ?_)) λ_ _ z=>z.elim)));let#[vs,H1,L,r,n,ev,hn,kq]:=hu;subst ev;let#[u,rfl,ru]:=vals1 r;let#[hp,g,d3,tk,os]:=s3;let W:(backTo cpos ((false,eval a Y.env)::acv as Y.env)).any (·.1)=false:=by
  show(false||(backTo cpos (acv as X.env)).any (·.1))=false;rw[ag];rfl
 simp only[W];let Ux:=L.bk _ _ hC;show π (wpAny_keeperOf_exc Ux ?_)*>π (W8 (T'.keeps L.bk) Ux (hN.keeps L.bk) ak (L.kIn<*ah) ai (λh3 b M=>?_) Ξ);let#[t,m1,m2,m3]:=M.there;let m:H1 b=none:=L.hok.free M.new;let G:Ch Y [(e,j)] b:=L.ch M.new;let J3:Inv Y [(e,j)] σ H1 #[h3,g,d3,tk,os]:=L.kept (t':=tk) M.keeps;let J4:Inv Y [(e,j)] σ (upd H1 b (xo b (η X.mg y) none)) #[h3,g,d3,tk,os]:=J3.adopt m G (Cr m1);let rv:Vals [V.ref b,.int n] [Value.ref b,u]:=.cons rfl (.cons ru .nil);let Z:yI (η X.mg y) fld [V.ref b,.int n] (upd H1 b (xo b (η X.mg y) none)) (λv H'=>v=.non/\∃E',H' b=↑(xo b (η X.mg y) ↑E')/\H' E'=↑(.xd [(fld,.int n)])/\E'≠b/\∀c o,c≠b->H1 c=↑o->H' c=↑o) (λ_ _ _=>False):=
  #[b,n,rfl,hn,υ,λE' H' h1 h2 an h4 h5=>#[rfl,E',h4,h5,h1,λc o hb q=>an c o hb (by rw[ξ hb];show q)]]
 let hl:↥([Value.ref b,u]:List ε)=↥ps:=by rw[<-↥rv];show Fn.len _ _ _ _ Z
 let aa:=hb #[h3,g,d3,tk,os] [Value.ref b,u] J4.kIn (~~~hl);rw[aiD]at aa;show aol (akW (Fn.run (Y.A.under (.builtin "type.__call__" #[.ref (η X.mg y)::[u],[]])) Y.stack #[h3,g,d3,tk,os] _ #[[Value.ref b,u],[]] [Value.ref b,u] [V.ref b,.int n] _ (λ_ _ _=>False) (al.make (η X.mg y) [u] [])
  (J4.env0.make (η X.mg y) [u] []) aa rv Z) λr s' hq=>?_)
 cases r with
 |error e=>show(cJ.never hq).elim
 |ok fl=>
  cases fl with
  |ret v=>
   let#[v',H',J5,rr,ev,E',g1,g2,g3,g4]:=J4.after hq;subst ev;show#[rr,?_];let#[#[t',ar],_,_]:=J5.hok b _ g1;let J6:=J5.forget g1 G;let pe:=J6.pin (e,j) (aet _ (ab7.mpr rfl));let R:e≠b:=λz=>by
    let h0:=(L.pin (e,j) (aet _ (ab7.mpr rfl))).1;rw[z]at h0;rw[show hp.get? b=none from M.new]at h0;cases h0
   let i:j7[2]?=↑Value.none:=zU.1 af;show π (aed (wpAny_point (ϱ #[b,t',↑E',j,j7,true,rfl,J5.bk<*hC,ar,R,pe.1,B,Ctx.yes i,λl hl z=>?_,λh7 o7 e7=>?_])))
   .rw[i]at hl;cases l with
    |nil=>simp at z
    |cons y l=>show absurd hl.1 (by simp)
   .let N7:kJ s'.heap h7 [b] (cH Y.stack):=by
     show#[λc o q _ n=>(o7 c λz=>n (by simp[z])).trans q,λc o q n=>#[o.slots,(o7 c λz=>n (by simp[z]))<|>q],λc o q=>?_];by_cases z:c=b
     .subst z;show#[_,e7]
     .show#[o,(o7 c z)<|>q]
    let J7:Inv Y [(e,j)] σ (iB H' b) {s' with heap:=h7}:=J6.noted N7 λc hc=>by
     let z:c=b:= ~~~hc
     subst z;show#[yS,G]
    show Zv (F:=λ_ _=>False) (ϵ:=ϵ) (pins':=[(e,j)]) (σ:=σ) (H:=iB H' b) (cls:=.ref (η X.mg y)) (d:=(↑E',false)) hx ae hf I.ok #[J7,none,.none,#[_,_,e7,rfl,rfl,rfl,rfl,by simp,#[(λz=>nomatch z),[e],#[rfl,j,j7,(o7 e R)<|>pe.1,B,i],~~~Ne.symm R,by simp],(λT z=>nomatch z)],.inl rfl,λc hc=>?_] (kq E' _ (λc o q=>?_) ?_)
    .let z:c=b:= ~~~hc
     subst z;show#[yS,G]
    .let ac:c≠b:=ϔ q m;rw[gU ac];show g4 c o ac q
    .rw[gU g3];show g2
  |next=>show False.elim hq
  |brk=>show False.elim hq
  |cont=>show False.elim hq
end
end _L
namespace _L
open PySem PySem.Spec PyProof.Rows PySem.Builtin PySem.Builtin.Str
def wG(p:Nat->Bool):Nat->Option Nat
 |0=>none
 |n+1=>if p n=true then some n else wG p n
theorem Yd(p:Nat->Bool):∀n,(agB n).foldl (λa i=>if p i=true then some i else a) none=wG p n
 |0=>rfl
 |n+1=>by
  rw[asY,aqT,Yd p n];rfl
theorem Sx(p:Nat->Prop)[DecidablePred p]:∀(l:List Nat)(b:Option Nat),(forIn (m:=Id) l b λi s=>if p i then pure (ForInStep.yield ↑i)else pure (ForInStep.yield s)).run=l.foldl (λc i=>if p i then some i else c) b
 |[],b=>rfl
 |a::l,b=>by
  rw[ase,anh, <-Sx p l];by_cases h:p a
  .simp only[if_pos h];rfl
  .simp only[if_neg h];rfl
def Qg(x y:Str):lastOccurrence x y 0 ↥x=wG (λi=>decide (i+↥y<=↥x)&&subAt x y i) (↥x+1):=by
 unfold lastOccurrence;rw[<-Yd];simp[List.range_eq_range'];show Sx (λi=>i+↥y<=↥x/\subAt x y i=true) _ none
theorem Ry:∀{n:Nat},(∀i,i<n->p i=false)->wG p n=none
 |0,_=>rfl
 |n+1,h=>by
  show(if p n=true then _ else _)=_;rw[if_neg (by rw[h n ()];decide)];show Ry λi hi=>h i ()
theorem Y6:∀{n:Nat},k<n->p k=true->(∀i,k<i->i<n->p i=false)->wG p n=↑k
 |n+1,a,hp,h=>by
  show(if p n=true then _ else _)=_;by_cases e:k=n
  .subst e;rw[if_pos hp]
  .rw[if_neg (by rw[h n () ()];decide)];show Y6 () hp λi h1 h2=>h i h1 ()
def Dy(x:Str)(c i:Nat):(decide (i+↥(#[#v[c]]:Str)<=↥x)&&subAt x #[#v[c]] i)=decide (x.cps.toList[i]?=↑c):=by
 rw[ahT,acF,decide_eq_true_iff,decide_eq_true_iff];show StrLaws.subAt_one x c i
def JH(h:z.cps.toList=b++c::w)(g:c∉w):Txt.rpartition z #[#v[c]]=(#[b.toArray],#[#v[c]],#[w.toArray]):=by
 let a:↥z=↥b+1+↥w:=by
  have:↥z.cps.toList=↥z:=rfl;rw[<-this,h,adz,acz];omega
 let m:lastOccurrence z #[#v[c]] 0 ↥z=↑↥b:=by
  rw[Qg];show Y6 () ?_ λi h1 h2=>?_
  .rw[Dy,h,decide_eq_true_iff,amI (Ϭ _),asZ];rfl
  .rw[Dy,h,decide_eq_false_iff_not,amI ()];intro e;obtain⟨j,n⟩:∃j,i-↥b=j+1:=#[i-↥b-1,()];rw[n,List.getElem?_cons_succ]at e;show g (abD e)
 let f:z=#[(b++c::w).toArray]:=by
  let#[#[l]]:=z;have:l=b++c::w:=h;rw[this]
 let e1:strSub z 0 ↥b=#[b.toArray]:=by
  unfold strSub;rw[f];simp
 let o:strSub z (↥b+↥(#[#v[c]]:Str)) ↥z=#[w.toArray]:=by
  let l1:↥(#[#v[c]]:Str)=1:=rfl;rw[l1,a];unfold strSub;rw[f];simp[List.extract_eq_take_drop,List.drop_append];rw[amF (),asW,ai0]
 let un:Txt.rpartition z #[#v[c]]=(match lastOccurrence z #[#v[c]] 0 ↥z with
  |some i=>(strSub z 0 i,#[#v[c]],strSub z (i+↥(#[#v[c]]:Str)) ↥z)
  |none=>(alg,alg,z)):=rfl
 rw[un,m];show(strSub z 0 ↥b,_,strSub z (↥b+↥(#[#v[c]]:Str)) ↥z)=_;rw[e1,o]
def akY(h:c∉z.cps.toList):Txt.rpartition z #[#v[c]]=(alg,alg,z):=by
 let a:lastOccurrence z #[#v[c]] 0 ↥z=none:=by
  rw[Qg];show Ry λi hi=>?_
  rw[Dy,decide_eq_false_iff_not];show λe=>h (abD e)
 unfold Txt.rpartition;rw[a]
def Gz(j:↥z<=100000)(g:∀p,H p=none->Q (.ref p) (upd H p (.tup [.str (Txt.rpartition z #[#v[c]]).1,.str (Txt.rpartition z #[#v[c]]).2.1,.str (Txt.rpartition z #[#v[c]]).2.2]))):MT X "str.rpartition" (.str z) [.str #[#v[c]]] H Q:=by
 show iT (r:=λx xs H Q=>∃z c,x=.str z/\xs=[.str #[#v[c]]]/\↥z<=100000/\∀p,H p=none->Q (.ref p) (upd H p (.tup [.str (Txt.rpartition z #[#v[c]]).1,.str (Txt.rpartition z #[#v[c]]).2.1,.str (Txt.rpartition z #[#v[c]]).2.2]))) ?_ #[z,c,rfl,rfl,j,g];intro ϵ s σ H x xs v us Q I rx l h;let#[z,c,rfl,rfl,j,g]:=h;let#[t,rfl]:=rx;let#[u,rfl,m]:=vals1 l;let#[t',rfl]:=m;let hsz:=ϯ;let e:∀(a b f:Str)(ta tb tc:Tok)(tk:Nat),a=(Txt.rpartition z #[#v[c]]).1->b=(Txt.rpartition z #[#v[c]]).2.1->f=(Txt.rpartition z #[#v[c]]).2.2->EP X ϵ σ Q (.ref ⇑s) {s with toks:=tk,heap:=s.heap.push {cls:=.type "tuple",data:=.seq [Value.str a ta,.str b tb,.str f tc].toArray}}:=λa b f ta tb tc tk n y B=>by
  subst n y B;show#[.ref ⇑s,_,I.laid (t':=tk) (o:=.tup [.str (Txt.rpartition z #[#v[c]]).1,.str (Txt.rpartition z #[#v[c]]).2.1,.str (Txt.rpartition z #[#v[c]]).2.2]) (λb o q=>aaS _ q) (Ϭ _) ?_,rfl,g _ (I.hok.fresh (Ϭ _))]*>#[Ξ,_,.cons #[ta,rfl] (.cons #[tb,rfl] (.cons #[tc,rfl] .nil)),IsTup.new _ _]
 show ao3 F.slot_str_rpartition (typeIs_str<*_) F.entry_str_rpartition (F.args_str_rpartition_2 _ _) (meets_str_rpartition z #[#v[c]] t t' rfl ()) ?_;let h':=e;unfold Txt.rpartition at h';revert h';cases lastOccurrence z #[#v[c]] 0 ↥z with
 |none=>intro h';show h' _ _ _ _ _ _ _ rfl rfl rfl
 |some i=>intro h';show h' _ _ _ _ _ _ _ rfl rfl rfl
end _L
namespace _L
open PySem PySem.Spec PyProof.Rows
def iW(keep:Nat->Bool)(val:Nat->V)(n:Nat):List V:=((agB n).filter keep).map val
def Wx(keep:Nat->Bool)(val:Nat->V)(n:Nat):iW keep val (n+1)=iW keep val n++(if keep n=true then[val n]else[]):=by
 unfold iW;rw[asY,aso,ahZ];by_cases h:keep n=true
 .simp[h]
 .let h':keep n=false:= ~~~h
  simp[h']
def anI(keep:Nat->Bool)(val:Nat->V)(n:Nat):↥(iW keep val n)<=n:=by
 unfold iW;rw[ϰ];have:=ahq keep (agB n);rw[aqO]at this;show this
def S6(X:Cx)(N':List Str)(scope:ajd)(tg elt c:Ϫ)(σ':St)(H1:Hp)(Q:VK)(xs:List V):Prop:=
 ∃(e:St->Prop)(keep:Nat->Bool)(val:Nat->V),e σ'/\
  (∀(fp:List δ)(E C:δ)(f:ν)(g:Hp)(i:Nat)(l:St)(x:V)(H2:Hp),H1 E=none->xs[i]?=↑x->e l->ζ H1 H2->
   EG (cT X N' scope (Ϙ scope X.env) C f g fp) tg x l H2 λa m=>ET (cT X N' scope (Ϙ scope X.env) C f g fp) c a m λk j=>k=keep i/\e a/\ζ H2 j/\(k=true->EV (cT X N' scope (Ϙ scope X.env) C f g fp) elt a j λv n=>v=val i/\ζ j n))/\
  ∀(E:δ)(H2:Hp),H1 E=none->H2 E=↑(.lst (iW keep val ↥xs))->ζ H1 H2->Q (.ref E) H2
def aes(hn:↥xs<=ϳ)(B:θ X.K H l xs)(h:S6 X N' scope tg elt c σ' H Q xs):∀(fp:List δ)(E C:δ)(D:ν),H E=none->jC X (cT X N' scope (Ϙ scope X.env) C D (upd H E (.lst [])) fp) tg elt [c] (jU X.K l) E σ' H (λH'=>Q (.ref E) H'):=by
 intro fp E C D p;let#[O,keep,val,t0,step,F]:=h;show#[λi m G H1=>m=↥xs-i/\i<=↥xs/\ζ H H1/\O G/\H1 E=↑(.lst (iW keep val i)),#[↥xs,by simp,aim _,ζ.upd p,t0,υ],?_]
 rintro i m G H1 ⟨rfl,hi,g,J,L⟩
 by_cases j:i<↥xs
 .show .inr #[#[xs,xs[i],ζ.seq g B,aad j],λn H'=>ζ H H'/\O n/\H' E=↑(.lst (iW keep val (i+1))),λn H' z=>by let#[a,b,d]:=z;show #[↥xs-(i+1),(),rfl,j,a,b,d],λx H2 P=>?_];let T:xs[i]?=↑x:=P.2 xs (ζ.seq g B);let U:H2=H1:=P.1;subst U;intro ϵ s u I r;show ψ (step fp E C D _ i G x _ p T J g ϵ s u I r) λ_ s' ⟨M,W,Y,Z⟩=>#[M,W,Y,aav ?_]
  show λϵ s I=>ψ (Z ϵ s I) λk s' ⟨H4,I4,hk,R,y,q⟩=>#[H4,I4,?_]
  subst hk;let z:=Wx keep val i;let hkl:=anI keep val i;by_cases f:keep i=true
  .rw[if_pos f];rw[if_pos f]at z;show bC (q f) λv H5 ⟨ev,S⟩=>#[iW keep val i,S<*(y _ _ L),(),?_]
   subst ev;show#[λb o e=>?_,R,by rw[υ,z]];rw[ξ (ϔ e p)];show S<*(y<*(g _ _ e))
  .rw[if_neg f];rw[if_neg f,aiD]at z;show#[g<|>y,R,by rw[z];show y _ _ L]
 .let e:i=↥xs:=()
  subst e;show .inl #[#[xs,ζ.seq g B,Ϭ _],F E H1 p L g]
def akZ(N':List Str)(a:dD N' X.N σ scope=σ')(f:aoH (.ListComp elt [#[tg,e,[c],0]] scope pos) ↑(.Name y py) spos.line X.env=pure true)(hc:X.calm=true)(S:dq X.env scope)(hs:∀x,foldedSetIterable e X.env x=pure x)(i:X.N.Nodup)(hi:nameAt X.N y=↑j)(m:X.env.scope.names.lookup y=↑.local)(h:EV X e σ H λv H1=>∃l xs,v=.ref l/\θ X.K H1 l xs/\↥xs<=ϳ/\S6 X N' scope tg elt c σ' H1 (λv H'=>D.nx (σ.set j ↑v) H') xs):SX X (.Assign [.Name y py] (.ListComp elt [#[tg,e,[c],0]] scope pos) spos) D σ H:=by
 show Qs (N':=N') f hc S hs i hi m (rm (bC h λv H1 q=>?_));let#[l,xs,rfl,g,n,o]:=q;show#[l,rfl,#[xs,g],?_];rw[a];show aes (Q:=λv H'=>D.nx (σ.set j ↑v) H') n g o
def aZ.keeps(F:aZ h e cls d tb fl)(k:∀b o,h.get? b=↑o->h'.get? b=↑o):aZ h' e cls d tb fl:=by
 let#[c,vs,f,hc,a,hd,h1,g,i,j]:=F;show#[c,vs,k<*f,hc,a,hd,h1,g,i.stay λv o ws _ l m=>#[o,ws,k<*l,m,rfl],λT e=>?_];let#[n,p,ws,q,s,u]:=j T e;show#[n,p,ws,k<*q,s,u]
theorem cu.uniq:∀(l l':List δ)(c:Option ε),cu h c l->cu h c l'->l=l'
 |[],[],_,_,_=>rfl
 |[],y::l',c,a,e=>by rw[e.1]at a;cases a
 |y::l,[],c,a,e=>by let z:=a.1;rw[show c=_ from e]at z;cases z
 |y::l,u::l',c,a,e=>by
  let#[j,o,ws,m,n,p]:=a;let#[f,o',q,g,i,s]:=e;rw[j]at f;cases f;rw[m]at g;cases g;rw[n]at i;cases i;rw[cu.uniq l l' _ p s]
section
variable{X:Cx}{Kx:St->XK}{D:Ends}{σ:St}{H:Hp}{rest:List aoN}{pos CT cpos rpos p0 p1 p2 p3 tpos zp:Pos}{x1 x2 x3 y z:Str}{cls c1 c2 c3:ε}{d:Option δ×Bool}{kk j0 j1:Nat}{name:Option Str}{body:List ϧ}
def Zf(I:Inv X ϵ σ H s)(F:aZ s.heap e cls d tb l)(a:Gl X x1)(c:X.mg x1=↑c1)(f:(x1==("__debug__":Str))=false)(g:Gl X x2)(i:X.mg x2=↑c2)(j:(x2==("__debug__":Str))=false)(m:Gl X x3)(n:X.mg x3=↑c3)(p:(x3==("__debug__":Str))=false)(ex:atE X.K cls [c1,c2,c3]=↑k)(h:∀h',(∀q o,s.heap.get? q=↑o->h'.get? q=↑o)->R (.ok (if k then .brk else .next)) {s with heap:=h'}):codeAny ∅ (X.A.mark ↑(.ref e)) (.handlers (.ref e) [.ExceptHandler ↑(.Tuple [.Name x1 p1,.Name x2 p2,.Name x3 p3] kk tpos) none [] pos] X.env) R s:=by
 show codeAny_handlers_test ?_;let J:Inv (X.bM (.ref e) X.xe (X.pn++ϵ)) [] σ H s:=I.bM;show wpAny_Tuple ?_*>wpAny_items_cons (fU (X:=X.bM (.ref e) X.xe (X.pn++ϵ)) J a c ?_ f)*>wpAny_items_cons (fU (X:=X.bM (.ref e) X.xe (X.pn++ϵ)) J g i ?_ j)*>wpAny_items_cons (fU (X:=X.bM (.ref e) X.xe (X.pn++ϵ)) J m n ?_ p)*>wpAny_items_nil #[by size_fits,?_];let kp:∀q o,s.heap.get? q=↑o->(s.heap.push {cls:=.type "tuple",data:=.seq [c1,c2,c3].toArray}).get? q=↑o:=λ_ _ z=>aaS _ z
 show(W.exm_tup3 (I.kIn.keeps kp) (F.ty.keeps kp) (acN s.heap rfl) ex).here (h _ kp)
def alP(a:Gl X x1)(c:X.mg x1=↑c1)(f:(x1==("__debug__":Str))=false)(g:Gl X x2)(i:X.mg x2=↑c2)(j:(x2==("__debug__":Str))=false)(l:Gl X x3)(m:X.mg x3=↑c3)(n:(x3==("__debug__":Str))=false)(ex:atE X.K cls [c1,c2,c3]=↑false)(h:EH X rest D σ cls d H):EH X (.ExceptHandler ↑(.Tuple [.Name x1 p1,.Name x2 p2,.Name x3 p3] kk tpos) name body pos::rest) D σ cls d H:=by
 intro ϵ s e T I F ch;show apk (Zf I F a c f g i j l m n ex λh' kp=>?_) (by intro q;cases q)*>h ϵ _ e T (I.kept (t':=s.toks) kp) (F.keeps kp) ch
def ajY(hx:bz X Kx)(W:X.stack=X.env::X.outer)(hf:X.env.frame=↑X.env.locals)(Z:Gl X x1)(ac:X.mg x1=↑c1)(ae:(x1==("__debug__":Str))=false)(af:Gl X x2)(ag:X.mg x2=↑c2)(ah:(x2==("__debug__":Str))=false)(um:Gl X x3)(wu:X.mg x3=↑c3)(aa:(x3==("__debug__":Str))=false)(ex:atE X.K cls [c1,c2,c3]=↑true)(O:jF X.K X.mg y)(JR:Gl X y)(qG:(y==("__debug__":Str))=false)(kq:Kx σ (.ref (η X.mg y)) (none,false) H):EH X (.ExceptHandler ↑(.Tuple [.Name x1 p1,.Name x2 p2,.Name x3 p3] kk tpos) none [.Raise ↑(.Call (.Name y CT) [.Constant (.str z) j1 zp] [] cpos) ↑(.Constant .none j0 p0) rpos] pos::rest) D σ cls d H:=by
 intro ϵ s e T I F ch;show apk (Zf I F Z ac ae af ag ah um wu aa ex λh' kp=>?_) (by intro q;cases q)*>codeAny_handlers_suite ((I.kept (t':=s.toks) kp).off (F.keeps kp) ch λs2 I2 F2=>?_);let#[oe,p,a,hcl,hdx,u,_,hsz2,zU,_]:=F2;let#[bm,N,nm,q,bs,hdct,sn,sub,ab,col,dd,k0,k1,k2,k3,k5,mN,hC,hN,ai,T']:=aal I2.ok.mod.kin O.ex
 let' Y:Cx:=X.bM (.ref e) (λ_ _=>False) (X.pn++ϵ)
 let J:Inv Y [] σ H s2:=I2.bM;show wpAny_execs_cons (adK (Q:=λ_ _=>False) (E:=notedBy ∅ (X.A.mark ↑(.ref e)) X.env (cameBackBy ∅ X.A X.env X.xe)) ?_ (λ_ _ z=>z.elim) λ_ _ z=>z);rw[arm_exec_Raise];show π (aif (Zn (h:=e) (C:=η X.mg y) (nm:=nm) (q:=q) (N:=N) (bs:=bs) (bm:=bm) (hdct:=hdct) (sn:=sn) (sub:=sub) (ab:=ab) (col:=col) (dd:=dd) (k0:=k0) (k1:=k1) (k2:=k2) (k3:=k3) (k5:=k5) (T'.hasType (by fin2)) rfl (λP s' hP=>Ym P s' hP) ?_))*>π (adK (wpAny_Call_ofName (fU (X:=Y) J JR O.at_ ?_ qG)) (λv s₃ B=>π (aif (ϱ B))) λ_ _ x=>x);unfold callWith;show π (aed (Calls.evalArgs_plain (Calls.spliced_cons (Calls.Constant_str (k:=j1) (pos:=zp) (Calls.spliced_nil (π (aif ?_)))))));let qY:=J.bk _ _ hC;let ak:=hN.keeps J.bk;let T2:=T'.keeps J.bk;let#[hp,g,d3,tk,os]:=s2;let G:(backTo cpos (acv [Expr.Constant (Const.str z) j1 zp] X.env)).any (·.1)=false:=rfl;simp only[G];show π (wpAny_keeperOf_exc qY ?_)*>π (wpAny_call_exc_subT (hrest:=Ξ) PySem.F.excBase_ValueError T2 qY ak ai λL b M=>π (aed (wpAny_point (ϱ ?_))));let#[t,m1,m2,m3]:=M.there;let f:e≠b:=λw=>by
  let h0:=a;rw[w,show hp.get? b=none from M.new]at h0;cases h0
 let J3:Inv Y [] σ H #[L,g,d3,tk+1,os]:=J.kept (t':=tk+1) M.keeps;let Qm:∀v o ws,v≠e->hp.get? v=↑o->o.data=.fields ws->∃o' R,L.get? v=↑o'/\o'.data=.fields R/\R[2]?=ws[2]? :=λv o ws _ m q2=>#[o,ws,M.keeps<*m,q2,rfl]
 let Wg:Ctx L e d.2 p[2]? :=zU.stay Qm;let Te:∀l,cu L p[2]? l->b∉l:=by
  intro l hl U;let#[_,l',c2,c3,_]:=zU;rw[cu.uniq l l' _ hl (c2.stay Qm c3)]at U;let#[i,hi,ei]:=apQ U;let#[o,vs,m,_]:=c2.nodes (aas.mpr #[hi,ei]);rw[show hp.get? b=none from M.new]at m;cases m
 let j:H b=none:=J.hok.free M.new;let al:Ch Y [] b:=J.ch M.new;show#[b,t,none,oe,p,d.2,rfl,M.keeps<*qY,m1,f,M.keeps<*a,u,Wg,Te,λh7 S e7=>?_];let N7:kJ L h7 [b] (cH Y.stack):=by
  show#[λc o q _ n=>(S c λz=>n (by simp[z])).trans q,λc o q n=>#[o.slots,(S c λz=>n (by simp[z]))<|>q],λc o q=>?_];by_cases z:c=b
  .subst z;show#[_,e7]
  .show#[o,(S c z)<|>q]
 let one:∀c∈[b],H c=none/\Ch Y [] c:=λc hc=>by
  let z:c=b:= ~~~hc
  subst z;show#[j,al]
 let J7:Inv Y [] σ H #[h7,g,d3,tk+1,os]:=J3.noted N7 one;let#[_,l,c2,c3,c4]:=Wg;let nb:=Te l c2;let c5:cu h7 p[2]? l:=c2.stay (e:=b) (λv o ws hv m q2=>#[o,ws,(S v hv)<|>m,q2,rfl]) nb;show Zv (F:=λ_ _=>False) (ϵ:=ϵ) (pins':=[]) (σ:=σ) (H:=H) (cls:=.ref (η X.mg y)) (d:=(none,false)) hx W hf I.ok #[J7,none,.none,#[_,_,e7,rfl,rfl,rfl,rfl,by simp,#[(λz=>nomatch z),e::l,#[rfl,oe,p,(S e f)<|>(M.keeps<*a),u,c5],λU=>?_,aiG.mpr #[c3,c4]],(λT z=>nomatch z)],.inl rfl,one] kq;obtain h|h:=aaT.mp U
 .show f h.symm
 .show nb h
end
def akL(C:bz X Kx)(E:X.env.frame=↑X.env.locals)(q:Kx σ cls d H):EH X [] D σ cls d H:=by
 intro ϵ g e T F G ch;show wpAny_handleBy_nil ?_;let#[I,vs,i,hc,j,hd,h1,J,h2,L]:=id G;let#[x,P,ws,l,m,M]:=L T rfl;let y:3<ws.size:=(aiM.mp M).1;let c:vs[1]?=↑(Value.ref T):=h1;unfold PySem.passOn;show π (akX i hd c ?_);rw[if_neg (show ¬((Value.ref T==Value.none)=true)from by simp)];show π ?_;unfold setFlight;show π (akX i hd c ?_);rw[if_pos (show(Value.ref T !=Value.none)=true from by simp),E];show amA l m y ?_;let a:∀b,b≠T->(g.heap.update T (Obj.mapFields (·.setIfInBounds 3 (rawInt X.env.locals)))).get? b=g.heap.get? b:=λb f=>acH _ _ (Ne.symm f)
 let p:=afa (Obj.mapFields (·.setIfInBounds 3 (rawInt X.env.locals))) l (Obj.isFreed_of_fields (Obj.data_mapFields m _));let N:kJ g.heap (g.heap.update T (Obj.mapFields (·.setIfInBounds 3 (rawInt X.env.locals)))) [T] (cH X.stack):=by
  show#[λb o q _ n=>(a b (λz=>n (by simp[z]))).trans q,λb o q n=>#[o.slots,(a b (λz=>n (by simp[z])))<|>q],λb o q=>?_];by_cases z:b=T
  .subst z;show#[_,p]
  .show#[o,(a b z)<|>q]
 show wpAny_throw (C ϵ σ H _ e cls d #[F.noted N λb f=>?_,↑T,rawInt X.env.locals,#[I,vs,(a e (Ne.symm x))<|>i,hc,j,hd,h1,J,h2.stay λv o s Q u B=>?_,λR O=>?_],.inr #[rfl,rfl],λb f=>ch b (~~~f)] q)
 .let z:b=T:= ~~~f
  subst z;show ch b (by simp)
 .by_cases z:v=T
  .subst z;rw[l]at u;cases u;show#[_,_,p,Obj.data_mapFields B _,by rw[ahY (by decide)]]
  .show#[o,s,(a v z)<|>u,B,rfl]
 .cases O;show#[x,_,_,p,Obj.data_mapFields m _,by simp[y]]
end _L
namespace _L
open PySem PySem.Spec PyProof.Rows PySem.W
def pw{α:Type}(lt:Nat->Nat->Bool)(n:Nat):KasT α->(α->Prop)->Prop
 |.ret a,Q=>Q a
 |.ask i j k,Q=>i<n/\j<n/\pw lt n (k (lt i j)) Q
theorem t6{α β:Type}{n:Nat}{f:α->KasT β}{Q:β->Prop}:∀(t:KasT α),pw lt n t (λa=>pw lt n (f a) Q)->pw lt n (t.bind f) Q
 |.ret a,h=>h
 |.ask i j k,h=>#[h.1,h.2.1,t6 (k (lt i j)) h.2.2]
theorem jh{α:Type}{n:Nat}{Q c:α->Prop}(e:∀a,Q a->c a):∀(t:KasT α),pw lt n t Q->pw lt n t c
 |.ret a,h=>e a h
 |.ask i j k,h=>#[h.1,h.2.1,jh e (k (lt i j)) h.2.2]
theorem abx{α:Type}{n:Nat}{c:Nat->Nat->(Bool->ν->Prop)->ν->Prop}{I:ν->Prop}{G:α->ν->Prop}(hc:∀i j C s,i<n->j<n->I s->(∀s',I s'->C (lt i j) s')->c i j C s):∀(t:KasT α)(s:ν),I s->pw lt n t (λa=>∀s,I s->G a s)->t.kasWp c G s
 |.ret a,s,hs,h=>h s hs
 |.ask i j k,s,hs,h=>hc i j _ s h.1 h.2.1 hs λs' e=>abx hc (k (lt i j)) s' e h.2.2
structure aW(lt:Nat->Nat->Bool):Prop where
 ir:∀i,lt i i=false
 tr:∀i j k,lt i j=true->lt j k=true->lt i k=true
 nt:∀i j k,lt i k=true->lt i j=true\/lt j k=true
section
variable{lt:Nat->Nat->Bool}{n:Nat}(W:aW lt)
def aW.as(W:aW lt)(h:lt i j=true):lt j i=false:=by
 rw[aj1];intro h2;have:=W.tr i j i h h2;rw[W.ir]at this;cases this
def Rk(lt:Nat->Nat->Bool)(i j:Nat):Prop:=lt i j=true\/(lt j i=false/\i<j)
def aW.tV(W:aW lt)(h:lt a b=true)(h2:lt c b=false):lt a c=true:=by
 obtain h|h:=W.nt a c b h
 .show h
 .rw[h2]at h;cases h
def aW.WD(W:aW lt)(h:lt b c=true)(h2:lt b a=false):lt a c=true:=by
 obtain h|h:=W.nt b a c h
 .rw[h2]at h;cases h
 .show h
def aW.rtr(W:aW lt)(h:Rk lt i j)(h2:Rk lt j k):Rk lt i k:=by
 obtain h|⟨h,h'⟩:=h
 .obtain h2|⟨h2,a⟩:=h2
  .show .inl (W.tr _ _ _ h h2)
  .show .inl (W.tV h h2)
 .obtain h2|⟨h2,a⟩:=h2
  .show .inl (W.WD h2 h)
  .show .inr #[?_,()];rw[aj1];intro c;obtain h4|h4:=W.nt k j i c
   .rw[h2]at h4;cases h4
   .rw[h]at h4;cases h4
abbrev gt(p:Array Nat)(k:Nat):Nat:=p.getD k 0
def zR(h:p[k]?=↑v):gt p k=v:=by
 let#[a,e]:=aiM.mp h;show p.getD k 0=v;simp[atR,a,e]
def uQ(h:k<p.size):p[k]?=↑(gt p k):=by
 show p[k]?=↑(p.getD k 0);simp[atR,h]
def iC(a:j<=p.size)(c:k<p.size:=by omega):gt (kas_rev p i j) k=if i<=k/\k<j then gt p (i+j-1-k)else gt p k:=by
 apply zR;unfold kas_rev;rw[getElem?_mirror_all a];by_cases h:i<=k/\k<j
 .rw[if_pos h,if_pos h];show uQ ()
 .rw[if_neg h,if_neg h];show uQ c
theorem aeh:(kas_rev p i j).size=p.size:=mirror_size _ _ _ _
def aeL(a:k<p.size)(hd:d<=k)(c:j<p.size):gt (bubble p k d) j=if j=k-d then gt p k else if k-d<j/\j<=k then gt p (j-1)else gt p j:=by
 apply zR;rw[getElem?_bubble a d hd];by_cases h1:j=k-d
 .rw[if_pos h1,if_pos h1];show uQ a
 .rw[if_neg h1,if_neg h1];by_cases h2:k-d<j/\j<=k
  .rw[if_pos h2,if_pos h2];show uQ ()
  .rw[if_neg h2,if_neg h2];show uQ c
structure Pl(n:Nat)(p:Array Nat)(m:Nat):Prop where
 size:p.size=n
 low:∀i,i<m->gt p i<m
 tail:∀k,m<=k->k<n->gt p k=k
 pm:p.toList.Perm (agB n)
def Pl.all(h:Pl n p m)(a:m<=n)(hi:i<n):gt p i<n:=by
 by_cases h1:i<m
 .have :=h.low i h1;omega
 .rw[h.tail i () hi];show hi
def Pl.up(h:Pl n p m)(a:m<n):Pl n p (m+1):=by
 show#[h.size,λi hi=>?_,λk h1 h2=>h.tail k () h2,h.pm];by_cases h1:i<m
 .have :=h.low i h1;omega
 .let e:i=m:=()
  subst e;rw[h.tail i (Ϭ _) a];omega
def Pl.rev(h:Pl n p m)(c:m<=n)(e:j<=m):Pl n (kas_rev p i j) m:=by
 let hs:=h.size;show#[by rw[aeh];show hs,λk a=>?_,λk h1 h2=>?_,(asl.mp (mirror_perm p i j ((j-i) / 2)))<|>h.pm]
 .rw[iC ()];split
  .show h.low _ ()
  .show h.low _ a
 .rw[iC (),if_neg ()];show h.tail k h1 h2
def gk(lt:Nat->Nat->Bool)(p:Array Nat)(m:Nat):=∀i j,i<j->j<m->Rk lt (gt p i) (gt p j)
def jD(lt:Nat->Nat->Bool)(p:Array Nat)(m:Nat):=∀i j,i<j->j<m->Rk lt (gt p j) (gt p i)
def jD.rev(h:jD lt p m)(a:m<=p.size):gk lt (kas_rev p 0 m) m:=by
 intro i j c e;rw[iC a,iC a,if_pos (),if_pos ()];show h _ _ () ()
theorem DW(W:aW lt):∀(f m:Nat),1<=m->m+f<=n->Pl n p m->gk lt p m->pw lt n (kas_asc p f m) λm'=>m<=m'/\m'<=m+f/\Pl n p m'/\gk lt p m'/\(m'<m+f->lt (gt p m') (gt p (m'-1))=true)
 |0,m,h1,l,hp,a=>#[Ϭ _,Ϭ _,hp,a,λh=>absurd h ()]
 |f+1,m,h1,l,hp,a=>by
  show#[hp.all () (),hp.all () (),?_];cases e:lt (gt p m) (gt p (m-1))with
  |true=>
   show pw lt n (if true=true then _ else _) _;rw[if_pos rfl];show#[Ϭ _,(),hp,a,λ_=>e]
  |false=>
   show pw lt n (if false=true then _ else _) _;rw[if_neg (by decide)];let g:Rk lt (gt p (m-1)) (gt p m):=.inr #[e,by rw[hp.tail m (Ϭ _) ()];show hp.low _ ()];show jh (λm' h=>#[(),(),h.2.2.1,h.2.2.2.1,λh2=>h.2.2.2.2 ()]) _ (DW W f (m+1) () () (hp.up ()) λi j c u=>?_);by_cases o:j<m
   .show a i j c o
   .let q:j=m:=()
    subst q;by_cases s:i=j-1
    .rw[s];show g
    .show W.rtr (a i (j-1) () ()) g
structure Dn(lt:Nat->Nat->Bool)(p:Array Nat)(m q:Nat):Prop where
 few:q+1<=m
 ahead:∀i j,i<j->j<m-(q+1)->Rk lt (gt p j) (gt p i)
 drop:∀i j,i<m-(q+1)->m-(q+1)<=j->j<m->lt (gt p j) (gt p i)=true
 fQ:∀i j,m-(q+1)<=i->i<j->j<m->lt (gt p i) (gt p j)=false/\lt (gt p j) (gt p i)=false/\gt p i<gt p j
def Dn.done(h:Dn lt p m q)(e:m<=p.size):jD lt (if q>0 then kas_rev p (m-(q+1)) m else p) m:=by
 let h1:=h.few;by_cases f:q>0
 .rw[if_pos f];intro i j a g;rw[iC e,iC e];by_cases hi:m-(q+1)<=i
  .rw[if_pos (),if_pos ()];have:=h.fQ (m-(q+1)+m-1-j) (m-(q+1)+m-1-i) () () ();show .inr #[this.2.1,this.2.2]
  .rw[if_neg (show ¬(m-(q+1)<=i/\i<m)by omega)];by_cases c:m-(q+1)<=j
   .rw[if_pos ()];show .inl (h.drop _ _ () () ())
   .rw[if_neg ()];show h.ahead i j a ()
 .rw[if_neg f];intro i j a g;by_cases c:m-(q+1)<=j
  .show .inl (h.drop _ _ () c g)
  .show h.ahead i j a ()
def jD.next(W:aW lt)(h:jD lt p m)(h1:1<=m)(g:∀i,i<m->lt (gt p m) (gt p i)=true):Dn lt p (m+1) 0:=by
 show#[(),λi j f l=>h i j f (),λi j hi l n=>?_,λi j a b c=>absurd b ()];let e:j=m:=()
 subst e;show g i ()
def jD.low(W:aW lt)(h:jD lt p m)(h1:1<=m)(a:lt x (gt p (m-1))=true):∀i,i<m->lt x (gt p i)=true:=by
 intro i hi;by_cases e:i=m-1
 .rw[e];show a
 .rcases h i (m-1) () ()with h2|⟨h2,_⟩
  .show W.tr _ _ _ a h2
  .show W.tV a h2
theorem xT(W:aW lt):∀(f:Nat)(p:Array Nat)(m q:Nat),m+f<=n->Pl n p m->Dn lt p m q->pw lt n (kas_desc f p m q) λr=>m<=r.2.1/\r.2.1<=m+f/\Pl n r.1 r.2.1/\Dn lt r.1 r.2.1 r.2.2
 |0,p,m,q,C,hp,hd=>#[Ϭ _,Ϭ _,hp,hd]
 |f+1,p,m,q,C,hp,hd=>by
  let y:=hd.few;let hsz:=hp.size;show#[hp.all () (),hp.all () (),?_];cases e:lt (gt p m) (gt p (m-1))with
  |true=>
   show pw lt n (if true=true then _ else _) _;rw[if_pos rfl];let g:=hd.done ();by_cases z:q>0
   .rw[if_pos z]at g⊢;let o:=hp.rev (i:=m-(q+1)) (j:=m) () (Ϭ _);let em:gt (kas_rev p (m-(q+1)) m) m=gt p m:=by rw[iC (),if_neg ()]
    let D:gt (kas_rev p (m-(q+1)) m) (m-1)=gt p (m-(q+1)):=by
     rw[iC (),if_pos ()]
     congr 1
     omega
    let E:lt (gt p m) (gt p (m-(q+1)))=true:=W.tV e (hd.fQ (m-(q+1)) (m-1) (Ϭ _) () ()).1;show jh (λr h=>#[(),(),h.2.2]) _ (xT W f _ (m+1) 0 () (o.up ()) (g.next W () λi hi=>?_));rw[em];show g.low W () (by rw[D];show E) i hi
   .rw[if_neg z]at g⊢;show jh (λr h=>#[(),(),h.2.2]) _ (xT W f _ (m+1) 0 () (hp.up ()) (g.next W () (g.low W () e)))
  |false=>
   show pw lt n (if false=true then _ else _) _;rw[if_neg (by decide)];show#[hp.all () (),hp.all () (),?_];cases e2:lt (gt p (m-1)) (gt p m)with
   |true=>
    show pw lt n (if true=true then _ else _) _;rw[if_pos rfl];show#[Ϭ m,show m<=m+(f+1)by omega,hp,hd]
   |false=>
    show pw lt n (if false=true then _ else _) _;rw[if_neg (by decide)];let s:=hp.tail m (Ϭ _) ();show jh (λr h=>#[(),(),h.2.2]) _ (xT W f p (m+1) (q+1) () (hp.up ()) #[(),λi j c B=>hd.ahead i j c (),λi j hi B F=>?_,λi j hi c B=>?_])
    .by_cases u:j<m
     .show hd.drop i j () () u
     .let v:j=m:=()
      subst v;show W.WD (hd.drop i (j-1) () () ()) e2
    .by_cases u:j<m
     .show hd.fQ i j () c u
     .let v:j=m:=()
      subst v;let a:gt p i<gt p j:=by rw[s];show hp.low i ()
      by_cases l:i=j-1
      .rw[l];rw[l]at a;show#[e2,e,a]
      .let h3:=hd.fQ i (j-1) () () ();show#[?_,?_,a]
       .rw[aj1];intro x;obtain h5|h5:=W.nt _ (gt p (j-1)) _ x
        .rw[h3.1]at h5;cases h5
        .rw[e2]at h5;cases h5
       .rw[aj1];intro x;obtain h5|h5:=W.nt _ (gt p (j-1)) _ x
        .rw[e]at h5;cases h5
        .rw[h3.2.1]at h5;cases h5
def Ui(W:aW lt)(hp:Pl n p m)(hd:jD lt p m)(h1:1<=m:=by omega)(a:m<=n:=by omega):pw lt n (kas_tail3 m n p) λr=>1<=r.1/\r.1<=n/\Pl n r.2 r.1/\gk lt r.2 r.1:=by
 let hsz:=hp.size;show t6 _ (jh (λm' h=>#[by show 1<=m';omega,by show m'<=n;omega,h.2.2.1,h.2.2.2.1]) _ (DW W (n-m) m h1 () (hp.rev a (Ϭ _)) (hd.rev ())))
def Y8(W:aW lt)(h1:1<=m)(f:m<n)(hp:Pl n p m)(hd:jD lt p m)(g:lt (gt p m) (gt p (m-1))=true):pw lt n (kas_descPart m n p) λr=>1<=r.1/\r.1<=n/\Pl n r.2 r.1/\gk lt r.2 r.1:=by
 show t6 _ (jh (λr h=>?_) _ (xT W (n-(m+1)) p (m+1) 0 () (hp.up f) (hd.next W h1 (hd.low W h1 g))));let#[j,l,c,i]:=h;let hsz:=c.size;let a:=i.done ();show pw lt n (if r.2.2>0 then _ else _) _;by_cases e:r.2.2>0
 .rw[if_pos e]at a⊢;show Ui W (c.rev () (Ϭ _)) a
 .rw[if_neg e]at a⊢;show Ui W c a
def acb:Pl n (agC (agB n)) 1:=by
 let a:∀k,k<n->gt (agC (agB n)) k=k:=λk c=>zR (by simp[c])
 show#[by simp,λi hi=>?_,λk _ h2=>a k h2,by simp];by_cases h:i<n
 .rw[a i h];show hi
 .show(agC (agB n)).getD i 0<1;simp[atR,h]
def alK(W:aW lt)(h1:1<=n):pw lt n (kas_count n (agC (agB n))) λr=>1<=r.1/\r.1<=n/\Pl n r.2 r.1/\gk lt r.2 r.1:=by
 show t6 _ (jh (λm h=>?_) _ (DW W (n-1) 1 (Ϭ _) () acb λi j a b=>absurd a ()));let#[x,C,c,g,y]:=h;let hsz:=c.size;show pw lt n (if(m==n)=true then _ else _) _;by_cases l:m=n
 .rw[if_pos (by rw[beq_iff_eq];show l)];show#[by show 1<=m;omega,by show m<=n;omega,c,g]
 .rw[if_neg (by rw[beq_iff_eq];show l)];let f:=y ();by_cases o:m>1
  .rw[if_pos o];show#[c.all () (),c.all () (),?_];cases e:lt (gt (agC (agB n)) 0) (gt (agC (agB n)) (m-1))with
   |true=>
    show pw lt n (if true=true then _ else _) _;rw[if_pos rfl];show#[by show 1<=m;omega,by show m<=n;omega,c,g]
   |false=>
    show pw lt n (if false=true then _ else _) _;rw[if_neg (by decide)];generalize agC (agB n)=p at c g f e hsz⊢;let q:∀i,i<m->lt (gt p i) (gt p 0)=false:=λi hi=>by
     by_cases s:i=0
     .rw[s];show W.ir _
     .rcases g 0 i () hi with h|h
      .show W.as h
      .show h.1
    let u:∀j,j<m->lt (gt p (m-1)) (gt p j)=false:=λj v=>by
     by_cases s:j=m-1
     .rw[s];show W.ir _
     .rcases g j (m-1) () ()with h|h
      .show W.as h
      .show h.1
    let fQ:∀i j,i<m->j<m->lt (gt p i) (gt p j)=false:=λi j hi v=>by
     rw[aj1];intro h;obtain h2|h2:=W.nt _ (gt p 0) _ h
     .rw[q i hi]at h2;cases h2
     .obtain h3|h3:=W.nt _ (gt p (m-1)) _ h2
      .rw[e]at h3;cases h3
      .rw[u j v]at h3;cases h3
    let z:jD lt (kas_rev p 0 m) m:=λi j B v=>by
     rw[iC (),iC (),if_pos (),if_pos ()];show .inr #[fQ _ _ () (),?_];rcases g (0+m-1-j) (0+m-1-i) () ()with h|h
     .rw[fQ _ _ () ()]at h;cases h
     .show h.2
    show Y8 W x () (c.rev () (Ϭ _)) z ?_;rw[iC (),iC (),if_neg (),if_pos ()];show W.tV f (fQ _ _ () ())
  .rw[if_neg o];let em:m=1:=()
   subst em;show Y8 W x () c (λi j a b=>absurd a ()) f
theorem Dv(W:aW lt)(g:k<n)(hp:Pl n p k)(c:gk lt p k):∀(f l r:Nat),r-l<=f->l<=r->r<=k->(∀i,i<l->lt (gt p k) (gt p i)=false)->(∀i,r<=i->i<k->lt (gt p k) (gt p i)=true)->
  pw lt n (kas_place p k f l r) λl'=>l'<=k/\(∀i,i<l'->lt (gt p k) (gt p i)=false)/\∀i,l'<=i->i<k->lt (gt p k) (gt p i)=true
 |0,l,r,s,j,m,h1,h2=>#[(),h1,λi a b=>h2 i () b]
 |f+1,l,r,s,j,m,h1,h2=>by
  show pw lt n (if l≥r then _ else _) _;by_cases h:l≥r
  .rw[if_pos h];show#[(),h1,λi a b=>h2 i () b]
  .rw[if_neg h];let o:(l+r) / 2<r/\l<=(l+r) / 2:=()
   show#[hp.all () g,hp.all () (),?_];cases e:lt (gt p k) (gt p ((l+r) / 2))with
   |true=>
    show pw lt n (if true=true then _ else _) _;rw[if_pos rfl];show Dv W g hp c f l ((l+r) / 2) () () () h1 λi a b=>?_
    by_cases hi:i=(l+r) / 2
    .rw[hi];show e
    .rcases c ((l+r) / 2) i () b with h3|h3
     .show W.tr _ _ _ e h3
     .show W.tV e h3.1
   |false=>
    show pw lt n (if false=true then _ else _) _;rw[if_neg (by decide)];show Dv W g hp c f ((l+r) / 2+1) r () () m (λi a=>?_) h2;by_cases hi:i=(l+r) / 2
    .rw[hi];show e
    .rw[aj1];intro q;rcases c i ((l+r) / 2) () ()with h3|h3
     .have :=W.tr _ _ _ q h3;rw[e]at this;cases this
     .have :=W.tV q h3.1;rw[e]at this;cases this
theorem Xq(W:aW lt):∀(f:Nat)(p:Array Nat)(k:Nat),k+f=n->Pl n p k->gk lt p k->pw lt n (kas_bin f p k) λp'=>Pl n p' n/\gk lt p' n
 |0,p,k,v,hp,c=>by
  let e:k=n:=()
  subst e;show#[hp,c]
 |f+1,p,k,v,hp,c=>by
  let hsz:=hp.size;show t6 _ (jh (λl h=>?_) _ (Dv W () hp c k 0 k () () (Ϭ _) (λi hi=>absurd hi ()) λi a b=>absurd a ()));let#[y,h1,h2]:=h;let m:∀j,j<n->gt (bubble p k (k-l)) j=if j=l then gt p k else if l<j/\j<=k then gt p (j-1)else gt p j:=λj x=>by
   rw[aeL () () (),show k-(k-l)=l by omega]
  let s:=hp.tail k (Ϭ _) ();show Xq W f _ (k+1) () #[by rw[bubble_size];show hsz,λi hi=>?_,λi a b=>?_,(asl.mp (bubble_perm p k (k-l)))<|>hp.pm] λi j o x=>?_
  .rw[m i ()];split
   .rw[s];omega
   .split
    .have :=hp.low (i-1) ();omega
    .have :=hp.low i ();omega
  .rw[m i b,if_neg (),if_neg ()];show hp.tail i () b
  .rw[m i (),m j ()];by_cases q:i<l
   .rw[if_neg (),if_neg ()];by_cases g:j=l
    .rw[if_pos g];show .inr #[h1 i q,by rw[s];show hp.low i ()]
    .rw[if_neg g];split
     .show c i (j-1) () ()
     .show c i j o ()
   .by_cases u:i=l
    .rw[if_pos u,if_neg (),if_pos ()];show .inl (h2 (j-1) () ())
    .rw[if_neg u,if_pos (),if_neg (),if_pos ()];show c (i-1) (j-1) () ()
def ako(W:aW lt)(h1:1<=n):pw lt n (kas_sort n) λp=>Pl n p n/\gk lt p n:=by
 show t6 _ (jh (λr h=>?_) _ (alK W h1));let#[f,g,a,c]:=h;show pw lt n (if r.1<n then _ else _) _;by_cases h:r.1<n
 .rw[if_pos h,show max r.1 1=r.1 by omega];show Xq W (n-r.1) r.2 r.1 () a c
 .rw[if_neg h];let e:r.1=n:=()
  rw[e]at a c;show#[a,c]
end
abbrev Cx.ϒ(X:Cx):Cx:={X with A:=X.A.in1.in1}
section
variable{X:Cx}{ϵ:List (δ×Obj)}{σ:St}{H:Hp}{s:ν}
theorem Cx.Ok.ϒ(ok:X.Ok):X.ϒ.Ok:=
 #[ok.mod,ok.kind,ok.glob,ok.blt,ok.above,ok.inj,ok.has,ok.cab,ok.hd,ok.frames,ok.stk,ok.exf,ok.bs,ok.bsz,ok.noex,ok.exfs,ok.funs,ok.frf]
theorem Inv.ϒ(I:Inv X ϵ σ H s):Inv X.ϒ ϵ σ H s:=#[I.ok.ϒ,I.os,I.bare,I.base,I.loc,I.cell,I.free,I.freeC,I.pin,I.hok,I.len]
theorem Inv.un2(ok:X.Ok)(I:Inv X.ϒ ϵ σ H s):Inv X ϵ σ H s:=#[ok,I.os,I.bare,I.base,I.loc,I.cell,I.free,I.freeC,I.pin,I.hok,I.len]
def Inv.aeg(I:Inv X ϵ σ H s)(a:H e=none)(c:Ch X ϵ e)(ok:Ϝ X.prog X.w (upd H e o) s.heap e o):Inv X ϵ σ (upd H e o) s:=by
 let ne:∀b u,H b=↑u->b≠e:=λb u q=>ϔ q a
 have:=I.step (h':=s.heap) (H':=upd H e o) (g':=s.gens) (d':=s.drawn) (t':=s.toks) (ch:=[e]) (λb f=>?_) (λb o _ _ _ q _=>q) (λb o _ _ _ q _=>#[o.slots,q]) (λb o hc _ n=>?_) (λb o _ q=>#[o,q]) (λb xs q=>?_) (λb o u q=>?_) (λb ps q=>?_) (λm g=>g) (λb u q=>?_) I.bare
 .show this
 .let z:b=e:= ~~~f
  subst z;show c
 .rw[ξ (λz=>hc (by simp[z]))];show n
 .rw[ξ (ne<*q)];show q
 .rw[ξ (ne<*q)];show q
 .show#[#v[],by rw[ξ (ne<*q),q];simp]
 .by_cases z:b=e
  .subst z;rw[υ]at q;cases q;show ok
  .rw[ξ z]at q;show(I.hok b u q).stay (λ_ _ _ r=>r) (λc r=>by rw[ξ (ne<*r)];show r) (λc xs r=>by rw[ξ (ne<*r)];show r) λc i v r=>by rw[ξ (ne<*r)];show r
theorem cj.ch(f:cj X ϵ H b):Ch X ϵ b:=#[f.2.2.2.1,f.2.1,f.2.2.2.2.1,f.2.2.2.2.2]
def aB(X:Cx)(ϵ:List (δ×Obj))(H:Hp)(s:ν)(b:δ)(vs:List ε)(e:Nat):Prop:=s.heap.get? b=↑(seqObj "list" vs.toArray e)/\cj X ϵ H b
theorem Zu:∀v,(seqObj c xs e).data≠.cell v:=λv h=>by cases h
def aB.set(I:Inv X ϵ σ H s)(h:aB X ϵ H s b vs e)(hc:aB X ϵ H s c ws ec)(n:c≠b)(p:g vs.toArray=us.toArray):∃u,Inv X ϵ σ H {s with heap:=s.heap.update b (Obj.mapSeq g)}/\aB X ϵ H {s with heap:=s.heap.update b (Obj.mapSeq g)} b us u/\aB X ϵ H {s with heap:=s.heap.update b (Obj.mapSeq g)} c ws ec:=by
 let#[h1,a,f,v,i,j,l]:=h;let hs:=Heap.SameBut.update s.heap b (Obj.mapSeq g);let m:=get?_update_seq h1 g;rw[p]at m;show#[_,I.turned (t':=s.toks) (it:=b) (λx o y q=>(hs.2 x y).trans q) a f i j l,#[m,a,f,v,i,j,l],#[(hs.2 c n)<|>hc.1,hc.2]]
theorem aB.pin(I:Inv X ϵ σ H s)(h:aB X ϵ H s kS vs e)(hc:aB X ϵ H s D ws c):Inv X (ϵ++gQ [kS,D] s.heap) σ H s:=
 I.pinned (λb a=>by
  obtain z|z:=aaT.mp a
  .rw[z];show h.2
  .let z:b=D:= ~~~z
   rw[z];show hc.2) λb a=>by
  obtain z|z:=aaT.mp a
  .rw[z];show#[_,h.1,Zu]
  .let z:b=D:= ~~~z
   rw[z];show#[_,hc.1,Zu]
def aB.Xb(h:aB X ϵ H s kS vs e)(hc:aB X ϵ H s D ws ec)(I:Inv X (ϵ++gQ [kS,D] s.heap) σ H' s'):Inv X ϵ σ H' s'/\aB X ϵ H' s' kS vs e/\aB X ϵ H' s' D ws ec:=by
 let one:∀(b:δ)(us:List ε)(eb:Nat),b∈[kS,D]->aB X ϵ H s b us eb->aB X ϵ H' s' b us eb:=λb us eb a o=>by
  let hp:(b,seqObj "list" us.toArray eb)∈X.pn++(ϵ++gQ [kS,D] s.heap):=by
   show aet _ (aet _ ?_);unfold gQ;show ap0.mpr #[b,a,by rw[o.1];rfl]
  let#[p1,p2,p3,c,f]:=I.pin _ hp;show#[p1,p2,o.2.2.1,o.2.2.2.1,o.2.2.2.2.1,o.2.2.2.2.2.1,o.2.2.2.2.2.2]
 show#[I.unpinned,one kS vs e (by simp) h,one D ws ec (by simp) hc]
structure Ck(X:Cx)(σ:St)(f:ε)(vs:List ε)(H₁:Hp)(Kp:Nat->ε->Hp->Prop):Prop where
 mono:∀i k H H',ζ H H'->Kp i k H->Kp i k H'
 call:∀i v ϵ s H,vs[i]?=↑v->ζ H₁ H->Inv X.ϒ ϵ σ H s->Ϧ ∅ X.A.in1.in1 (call f [v]) (λk s'=>∃H',Inv X.ϒ ϵ σ H' s'/\ζ H H'/\Kp i k H') (λ_ _=>False) s
def CQ(X:Cx)(σ:St)(H:Hp)(ks:List ε)(lt:Nat->Nat->Bool)(κ:SortKind):Prop:=
 ∀i j a c ϵ s,ks[i]?=↑a->ks[j]?=↑c->Inv X.ϒ ϵ σ H s->Ϧ ∅ X.A.in1.in1 (keyLt' κ a c) (λr s'=>r=lt i j/\Inv X.ϒ ϵ σ H s') (λ_ _=>False) s
structure ph(X:Cx)(σ:St)(n:Nat)(Kp:Nat->ε->Hp->Prop)(lt:Nat->Nat->Bool):Prop where
 kind:∀ϵ s H ks,Inv X.ϒ ϵ σ H s->↥ks=n->2<=n->(∀(i:Nat) k,ks[i]?=↑k->Kp i k H)->
  Ϧ ∅ X.A.in1.in1 (keyKind' (agC ks)) (λκ s'=>Inv X.ϒ ϵ σ H s'/\CQ X σ H ks lt κ) (λ_ _=>False) s
def jt(b:Bool)(lt:Nat->Nat->Bool)(i j:Nat):Bool:=if b=true then lt j i else lt i j
def fX(n:Nat)(lt:Nat->Nat->Bool)(q:List Nat):Prop:=q.Perm (agB n)/\q.Pairwise (Rk lt)
theorem abt(h:p.toList[i]?=↑v):gt p i=v:=zR (by rw[<-aoY];show h)
def ahO(h:Pl n p n)(a:gk lt p n):fX n lt p.toList:=by
 show#[h.pm,?_];let f:↥p.toList=n:=by rw[al9];show h.size
 rw[ass];intro i j hi e c;let h1:=abt (aad hi);let h2:=abt (aad e);rw[<-h1, <-h2];show a i j c ()
def aea(h:fX n (λi j=>lt (n-1-i) (n-1-j)) q):fX n (jt true lt) (q.map (n-1- ·)).reverse:=by
 let#[hp,f]:=h;let a:∀x∈q,x<n:=λx c=>asp.mp (hp.subset c)
 show#[?_,?_]
 .show(atp _).trans ((hp.map _).trans ?_);let e:(agB n).map (n-1- ·)=(agB n).reverse:=by
   apply atz
   .simp
   .intro i h1 h2;simp at h1;simp
  rw[e];show atp _
 .rw[List.pairwise_reverse,aqV];show f.imp_of_mem λ{x y} c g r=>?_;let h1:=a x c;let h2:=a y g;obtain r|⟨r,l⟩:=r
  .show .inl r
  .show .inr #[r,()]
end
section
variable{X:Cx}{ϵ:List (δ×Obj)}{σ:St}{H H₁:Hp}{s:ν}{vs:List ε}{f:ε}{b:Bool}{Kp:Nat->ε->Hp->Prop}{lt:Nat->Nat->Bool}{kS D:δ}{e1:Nat}
def ahA(X:Cx)(ϵ:List (δ×Obj))(σ:St)(H₁:Hp)(Kp:Nat->ε->Hp->Prop)(kS D:δ)(e1:Nat)(ks:List ε)(s:ν):Prop:=
 ∃H' e,Inv X.ϒ ϵ σ H' s/\ζ H₁ H'/\aB X.ϒ ϵ H' s kS ks e/\aB X.ϒ ϵ H' s D [] e1/\∀(i:Nat) k,ks[i]?=↑k->Kp i k H'
theorem WL{body:ε->PUnit->Sem (ForInStep PUnit)}{E:ε->ν->Prop}{R:List ε->ν->Prop}(e:∀i v ks s,vs[i]?=↑v->↥ks=i->R ks s->Ϧ ∅ A (body v #[]) (λr s'=>r=.yield #[]/\∃k,R (ks++[k]) s') E s):∀(r ks:List ε)(s:ν),vs.drop ↥ks=r->R ks s->Ϧ ∅ A (forIn r PUnit.unit body) (λ_ s'=>∃ks,↥ks=↥vs/\R ks s') E s\/↥vs<↥ks
 |[],ks,s,a,h=>by
  by_cases g:↥vs<↥ks
  .show .inr g
  .left;rw[as9];have:=List.drop_eq_nil_iff.mp a;show ϱ #[ks,(),h]
 |v::r,ks,s,a,h=>by
  left;let f:vs[↥ks]?=↑v:=by
   have:=congrArg (λl=>l[0]?) a;simp only[List.getElem?_drop,Nat.add_zero]at this;simpa using this
  let j:=(aas.mp f).1;rw[ase];show π (adK (e ↥ks v ks s f rfl h) (λq s' m=>?_) λ_ _ x=>x);let#[rfl,k,h2]:=m;show Ϧ ∅ A (forIn r PUnit.unit body) _ E s';let c:vs.drop ↥(ks++[k])=r:=by
   rw[adz,afZ, <-asu,a];rfl
  obtain h3|h3:=WL e r (ks++[k]) s' c h2
  .show h3
  .rw[adz,afZ]at h3;omega
def ZL{st:SortSt}(j:D≠kS)(I:Inv X.ϒ ϵ σ H s)(l:aB X.ϒ ϵ H s kS ks e)(m:aB X.ϒ ϵ H s D [] e1)(c:(arrOf st).map (·.2)=agC out)(y:↥out<64)(n:↥ks<64)(o:failedOf st=none)(h:∀s' p,Inv X.ϒ ϵ σ H s'->aB X.ϒ ϵ H s' D (katRev b out) p->P (.done (.ret .none)) s'):Ϧ ∅ X.A.in1.in1 (ksk_tail D b e1 (.ref kS) st) P E s:=by
 let#[z,q,f,a]:=aB.set (us:=[]) (g:=λ_=> #v[]) I l m j rfl;let#[u,v,i,x]:=aB.set (us:=katRev b out) (g:=λ_=>agC (katRev b out)) q a f (Ne.symm j) rfl;let hsz:(agC (katRev b out)).size=↥out:=by rw[ace,kat_len]
 unfold ksk_tail
 try dsimp only
 rw[c,kat_outs];show π (listUpdate_at l.1 rfl ?_ (by rw[ace,ϯ];omega) (aim _))*>π (wpAny_letGo ?_)*>π (seqEpoch_at a.1 rfl ?_)*>π (listUpdate_at a.1 rfl ?_ (aim _) (afG (apS hsz) (by rw[ϯ];omega)));rw[o];simp only[bne_self_eq_false,aqc,if_false];show ϱ (h _ u v i)
def jE(vs:List ε)(q:List Nat):List ε:=q.map λi=>vs.getD i Value.none
def amw(W:aW lt)(C:ph X σ ↥vs Kp lt)(Ϻ:D≠kS)(g:↥vs<64)(m:↥ks=↥vs)(I:Inv X.ϒ ϵ σ H s)(L:aB X.ϒ ϵ H s kS ks e)(M:aB X.ϒ ϵ H s D [] e1)(hK:∀(i:Nat) k,ks[i]?=↑k->Kp i k H)(h:∀s' O q,Inv X.ϒ ϵ σ H s'->fX ↥vs (jt b lt) q->aB X.ϒ ϵ H s' D (jE vs q) O->P (.done (.ret .none)) s'):Ϧ ∅ X.A.in1.in1 (ksk_end D b vs.toArray e1 (.ref kS) (agC ks)) P E s:=by
 let step:∀t:Sem PySem.Fin,Ϧ ∅ X.A.in1.in1 t P E s->Ϧ ∅ X.A.in1.in1 (if b=true then(do let _<-rule "list.sort.reverse";t)else t) P E s:=by
  intro t ht;split
  .show π (wpAny_rule ht)
  .show ht
 let B:↥(katRev b ks)=↥(katRev b vs):=by rw[kat_len,kat_len,m]
 unfold ksk_end
 try dsimp only
 show step _ ?_;by_cases o:↥vs<2
 .let a:vs.toArray.size<2:=by rw[ace];omega
  rw[if_pos a,if_pos a];show π (ϱ ?_)*>π (ϱ ?_)
  try dsimp only
  let u:∀{α:Type}(l:List α),↥l<2->katRev b l=l:=λl m=>by
   unfold katRev
   match l,m with
   |[],_=>simp
   |[x],_=>simp
  rw[kat_pairs b m,u ks (),u vs o];let v:(arrOf (SortSt.mk' general' ((agC ks).zip vs.toArray) #v[] 7 none)).map (·.2)=agC vs:=by
   show((agC ks).zip vs.toArray).map (·.2)=agC vs;apply Array.toList_inj.mp;rw[Array.toList_map,ksk_zip];show(ks.zip vs).map Prod.snd=vs;rw[List.map_snd_zip ()]
  show ZL Ϻ I L M v g () rfl λs' O I' F=>?_
  rw[u vs o]at F;show h s' O (agB ↥vs) I' #[List.Perm.refl _,?_] ?_
  .match ↥vs,o with
   |0,_=>show List.Pairwise.nil
   |1,_=>show List.pairwise_singleton _ _
  .let R:jE vs (agB ↥vs)=vs:=by
    unfold jE;apply atz
    .simp
    .intro i h1 h2;simp[h2]
   rw[R];show F
 .let a:¬vs.toArray.size<2:=by rw[ace];omega
  rw[if_neg a,if_neg a];show π (adK (C.kind _ s H ks (L.pin I M) m () hK) (λκ s0 S=>?_) λ_ _ x=>x.elim);let#[I0,G]:=S;rw[kat_pairs b m];let f:∀i,i<↥vs->(katRev b ks).getD i Value.none=ks.getD (if b=true then ↥vs-1-i else i) Value.none:=λi hi=>by
   cases b with
   |false=>rfl
   |true=>
    show ks.reverse.getD i Value.none=ks.getD (↥vs-1-i) Value.none;rw[ac0,ac0,as3 (),m]
  let W':aW (λi j=>lt (if b=true then ↥vs-1-i else i) (if b=true then ↥vs-1-j else j)):=#[λi=>W.ir _,λi j k=>W.tr _ _ _,λi j k=>W.nt _ _ _];let J:(kas_sort ↥(katRev b vs)).kasWp (kas_ask X.prog X.w X.A.in1.in1 κ (katRev b ks)) (λp y=>Inv X.ϒ (ϵ++gQ [kS,D] s.heap) σ H y/\Pl ↥vs p ↥vs/\gk (λi j=>lt (if b=true then ↥vs-1-i else i) (if b=true then ↥vs-1-j else j)) p ↥vs) s0:=by
   rw[kat_len];show abx (lt:=λi j=>lt (if b=true then ↥vs-1-i else i) (if b=true then ↥vs-1-j else j)) (n:=↥vs) (I:=λy=>Inv X.ϒ (ϵ++gQ [kS,D] s.heap) σ H y) (λi j C' s1 hi hj T hC=>?_) _ s0 I0 (jh (λp hp s1 T=>#[T,hp.1,hp.2]) _ (ako W' ()));unfold kas_ask;rw[f i hi,f j hj];let U:(if b=true then ↥vs-1-i else i)<↥ks:=by split <;>omega
   let Y:(if b=true then ↥vs-1-j else j)<↥ks:=by split <;>omega
   let gi:ks[if b=true then ↥vs-1-i else i]?=↑(ks.getD (if b=true then ↥vs-1-i else i) Value.none):=by
    rw[ac0,aad U];rfl
   let gj:ks[if b=true then ↥vs-1-j else j]?=↑(ks.getD (if b=true then ↥vs-1-j else j) Value.none):=by
    rw[ac0,aad Y];rfl
   show adK (G _ _ _ _ _ s1 gi gj T) (λr s2 hr=>?_) λ_ _ x=>x
   let#[rfl,Z]:=hr;show hC s2 Z
  show π (adK (kat_run (Q:=λc s'=>∃p:Array Nat,p.size=↥(katRev b vs)/\arrOf c=p.map (kas_item ((agC (katRev b ks)).zip (agC (katRev b vs))))/\failedOf c=none/\
    Inv X.ϒ (ϵ++gQ [kS,D] s.heap) σ H s'/\Pl ↥vs p ↥vs/\gk (λi j=>lt (if b=true then ↥vs-1-i else i) (if b=true then ↥vs-1-j else j)) p ↥vs)
   B (by rw[kat_len];omega) (by rw[kat_len];show g) (λp' c s' a1 a2 a3 a4=>#[p',a1,a2,a3,a4]) J) ?_ λ_ _ x=>x)
  rintro⟨⟨⟩,c⟩ s' ⟨p,hp,v,hf,Z,aa,ab⟩
  try dsimp only
  let#[I3,ac,vq]:=aB.Xb L M Z;show ZL Ϻ I3 ac vq (kat_snds B v) (by rw[ϰ,al9,hp,kat_len];show g) () hf λs4 e4 I4 uo=>?_
  let z:=ahO aa ab;let ae:∀x∈p.toList,x<↥vs:=λx hx=>asp.mp (z.1.subset hx)
  cases b with
  |false=>
   show h s4 e4 p.toList I4 z ?_*>uo
  |true=>
   show h s4 e4 _ I4 (aea z) ?_;let R:katRev true (p.toList.map λi=>(katRev true vs).getD i Value.none)=jE vs (p.toList.map (↥vs-1- ·)).reverse:=by
    show(p.toList.map λi=>vs.reverse.getD i Value.none).reverse=_;unfold jE;rw[List.map_reverse,aeu]
    congr 1
    show amo λi hi=>?_
    show vs.reverse.getD i Value.none=vs.getD (↥vs-1-i) Value.none;rw[ac0,ac0,as3 (ae i hi)]
   rw[R]at uo;show uo
def akC(W:aW lt)(F:Ck X σ f vs H₁ Kp)(C:ph X σ ↥vs Kp lt)(M:D≠kS)(o:↥vs<64)(I:Inv X.ϒ ϵ σ H s)(T:ζ H₁ H)(U:aB X.ϒ ϵ H s kS [] 0)(Y:aB X.ϒ ϵ H s D [] e1)(h:∀s' H' p q,Inv X.ϒ ϵ σ H' s'->ζ H₁ H'->fX ↥vs (jt b lt) q->aB X.ϒ ϵ H' s' D (jE vs q) p->P (.done (.ret .none)) s'):Ϧ ∅ X.A.in1.in1 (ksk_rest D f b vs.toArray e1 (.ref kS)) P E s:=by
 unfold ksk_rest;show π (wpAny_rule ?_)
 first
  |rw[List.forIn_toArray]
  |(rw[<-atl];simp only[List.toList_toArray])
  |rw[<-atl]
 show π (adK ((WL (X:=X) (vs:=vs) (R:=ahA X ϵ σ H₁ Kp kS D e1) (λi v ks s' O hi Z=>?_) vs [] s (by simp) #[H,0,I,T,U,Y,λi k e=>by simp at e]).resolve_right (by simp)) (λ_ s' hd=>?_) λ_ _ x=>x)
 .let#[H',e,u,c,a,l,y]:=Z;let hil:=(aas.mp O).1;show π (wpAny_attempt (adK (F.call i v _ s' H' O c (a.pin u l)) (λk Q hq=>?_) λ_ _ hF=>hF.elim));let#[H2,z,S,B]:=hq;let#[I3,m,vq]:=aB.Xb a l z;let ea:(agC ks).push k=agC (ks++[k]):=by simp
  let#[p,I4,G,uo]:=aB.set (us:=ks++[k]) (g:=(·.push k)) I3 m vq M ea
  try dsimp only
  show π (listUpdate_at m.1 rfl ?_ (by rw[ace,ϯ];omega) (afG (apS (Array.size_push ..)) (by rw[ace,ϯ];omega)))*>ϱ #[rfl,k,H2,p,I4,c<|>S,G,uo,λj kj n=>?_];by_cases J:j<↥ks
  .rw[aiZ J]at n;show F.mono _ _ _ _ S (y j kj n)
  .let hj2:=(aas.mp n).1;rw[adz,afZ]at hj2;let ej:j=↥ks:=()
   subst ej;rw[aoX]at n;cases n;rw[hi];show B
 .let#[ks,hl,H',e,u,c,a,l,y]:=hd
  try dsimp only
  show π (listItems_at a.1 rfl ?_)*>amw W C M o hl u a l y λQ e2 q z hs L=>h Q H' e2 q z c hs L
end
def aen(W:aW lt)(F:Ck X σ f vs H Kp)(C:ph X σ ↥vs Kp lt)(u:↥vs<64)(I:Inv X ϵ σ H s)(G:s.heap.IsList l vs.toArray)(v:argsOk "sorted" #[[.ref l],kw])(y:∀x,argsOk "list.sort" #[[.ref x],kw])(J:∀x,aos.«list.sort» #[[.ref x],kw]=ksk_tree x f b)(h:∀D s' H' z q,Inv X ϵ σ H' s'->ζ H H'->fX ↥vs (jt b lt) q->aB X.ϒ ϵ H' s' D (jE vs q) z->Q (.ref D) s'):Ϧ ∅ X.A (call (.builtin "sorted") [.ref l] kw) Q E s:=by
 show call_function_entry_kw kind_sorted plain_sorted entry_sorted v ?_;unfold aos.«sorted»;show π (m:=checkCount "sorted" 1 1 _) (ϱ ?_)*>π (collect_list G ?_ (by rw[ϯ];omega))*>π (wpAny_newList ?_ (by rw[ϯ];omega));let hsz:((s.heap.push (seqObj "list" #v[] 0)).update ⇑s (Obj.mapSeq (· ++vs.toArray))).objs.size=⇑s+1:=by
  rw[asK,size_push']
 let c:(((s.heap.push (seqObj "list" #v[] 0)).update ⇑s (Obj.mapSeq (· ++vs.toArray))).push (seqObj "list" vs.toArray 0)).get? (⇑s+1)=↑(seqObj "list" vs.toArray 0):=by
  rw[<-hsz];show acN _ rfl
 let keep:∀b o,s.heap.get? b=↑o->(((s.heap.push (seqObj "list" #v[] 0)).update ⇑s (Obj.mapSeq (· ++vs.toArray))).push (seqObj "list" vs.toArray 0)).get? b=↑o:=λb o q=>by
  let e:b<⇑s:=adw q;rw[aqZ _ _ _ (by rw[hsz];show adn (apc e)),an7 _ _ _ _ (adn e),aqZ _ _ _ (adn e)];show q
 show Ϧ _ _ _ _ _ {s with heap:=((s.heap.push (seqObj "list" #v[] 0)).update ⇑s (Obj.mapSeq (· ++vs.toArray))).push (seqObj "list" vs.toArray 0)};rw[hsz];let g:(((s.heap.push (seqObj "list" #v[] 0)).update ⇑s (Obj.mapSeq (· ++vs.toArray))).push (seqObj "list" vs.toArray 0)).objs.size=⇑s+2:=by rw[size_push',hsz]
 generalize((s.heap.push (seqObj "list" #v[] 0)).update ⇑s (Obj.mapSeq (· ++vs.toArray))).push (seqObj "list" vs.toArray 0)=h2 at c keep g⊢;show π (aed (wpAny_call_entry_kw slot_list_sort #[_,c,rfl] entry_list_sort ?body (y _)))
 case body=>
  show Ϧ ∅ X.A.in1.in1 (aos.«list.sort» #[[.ref (⇑s+1)],kw]) _ _ _;rw[J];let i:⇑s<=⇑s+1:=aoW _;generalize ⇑s+1=a at c i⊢;obtain⟨e1,j⟩:∃e1,(h2.update a (Obj.mapSeq λ_=>(#v[]:Array ε))).get? a=↑(seqObj "list" #v[] e1):=#[_,get?_update_seq c λ_=> #v[]];let n:((h2.update a (Obj.mapSeq λ_=>(#v[]:Array ε))).push (seqObj "tuple" vs.toArray 0)).objs.size=⇑s+3:=by rw[size_push',asK,g]
  let L:∀b o,s.heap.get? b=↑o->(((h2.update a (Obj.mapSeq λ_=>(#v[]:Array ε))).push (seqObj "tuple" vs.toArray 0)).push (seqObj "list" #v[] 0)).get? b=↑o:=λb o q=>by
   let e:b<⇑s:=adw q;show aaS _ (aaS _ ?_);rw[an7 _ _ _ _ (adn (adk e i))];show keep b o q
  let B:((h2.update a (Obj.mapSeq λ_=>(#v[]:Array ε))).push (seqObj "tuple" vs.toArray 0)).objs.size≠a:=by
   have:=adw c;rw[n];rw[g]at this;show asm (apc this)
  unfold ksk_tree;show π (listItems_at c rfl ?_)*>π (listUpdate_at c rfl ?_ (by rw[ace,ϯ];omega) (aim _))*>π (seqEpoch_at j rfl ?_)*>π (wpAny_newTuple ?_ (by show ↥vs<=_;rw[ϯ];omega))*>π (wpAny_newList ?_ (aim _))*>aed ?_;let M:Inv X.ϒ ϵ σ H {s with heap:=((h2.update a (Obj.mapSeq λ_=>(#v[]:Array ε))).push (seqObj "tuple" vs.toArray 0)).push (seqObj "list" #v[] 0)}:=I.ϒ.kept (t':=s.toks) L;let p:⇑s<=((h2.update a (Obj.mapSeq λ_=>(#v[]:Array ε))).push (seqObj "tuple" vs.toArray 0)).objs.size:=by rw[n];show aoB _ _
  show akC (X:=X) (ϵ:=ϵ) (σ:=σ) (H:=H) (H₁:=H) (kS:=((h2.update a (Obj.mapSeq λ_=>(#v[]:Array ε))).push (seqObj "tuple" vs.toArray 0)).objs.size) (D:=a) (e1:=e1) W F C (Ne.symm B) u M (ζ.refl _) #[acN _ rfl,I.ϒ.fpOk p (I.hok.fresh p)] #[aaS _ (aaS _ j),I.ϒ.fpOk i (I.hok.fresh i)] λs' H' z q O P R S=>#[_,rfl,?_]
  show ϱ #[_,rfl,h a s' H' z q (Inv.un2 I.ok O) P R S]
def eF(xs:List V)(q:List Nat):List V:=q.map λi=>xs.getD i .non
theorem abg(r:Vals xs vs):∀{q:List Nat},(∀i∈q,i<↥xs)->Vals (eF xs q) (jE vs q)
 |[],_=>.nil
 |i::q,h=>by
  let hil:=h i (by simp);let hi:xs[i]?=↑(xs[i]'hil):=aad hil;let#[u,e,a]:=r.get hi;show Vals (xs.getD i .non::eF xs q) (vs.getD i Value.none::jE vs q);rw[ac0,ac0,hi,e];show .cons a (abg r λj c=>h j (by simp[c]))
theorem oY(h:fX n lt q)(hi:i∈q):i<n:=asp.mp (h.1.mem_iff.mp hi)
def ahE(h:fX n lt q):↥q=n:=by rw[h.1.length_eq,aqO]
def ZJ(W:aW lt)(hs:θ X.K H l xs)(y:↥xs<64)(z:∀vs,Vals xs vs->Ck X σ f vs H Kp/\ph X σ ↥xs Kp lt)(I:Inv X ϵ σ H s)(m:argsOk "sorted" #[[.ref l],kw])(u:∀x,argsOk "list.sort" #[[.ref x],kw])(B:∀x,aos.«list.sort» #[[.ref x],kw]=ksk_tree x f b)(h:∀p H' q,ζ H H'->H' p=none->fX ↥xs (jt b lt) q->Q (.ref p) (upd H' p (.lst (eF xs q)))):Ϧ ∅ X.A (call (.builtin "sorted") [.ref l] kw) (EP X ϵ σ Q) E s:=by
 let#[vs,r,pl,O]:=I.list hs;let a:=↥r;let#[C,v]:=z vs r;rw[a]at v;let#[o,n,e,c,d,F]:=pl;show aen (b:=b) W C v () I #[o,e,c,n,F] m u B λD s' H' G q J L g j=>?_
 rw[<-a]at g;let M:=ahE g;show#[.ref D,_,J.aeg (e:=D) (o:=.lst (eF xs q)) j.2.1 j.2.ch #[?_,jE vs q,G,abg r λi hi=>oY g hi,j.1],rfl,h D H' q L j.2.1 g];show(q.map _).length<=_;rw[ϰ];omega
def uC(A:ϴ)(s:ν)(a:Bool):List ε->List ε->Bool->Prop
 |x::xs,y::ys,r=>∃e,SeqAt.EqAt A s x y e/\(e=true->uC A s a xs ys r)/\(e=false->∀(prog:ϲ)(w:Ϯ)(E:ε->ν->Prop)(Q:ε->ν->Prop),Q (.bool r) s->Ϧ (Ϩ prog w) A (richCompare .Lt x y) Q E s)
 |_,_,r=>r=a
open PySem.AutoSeq1 (wpAny_loadPart') in
theorem Mg(l b:δ)(c a:Array ε)(n n2:Nat)(dd o:Option δ)(sl u:Array (Option ε))(r:Bool):Meets (aos.«tuple.__lt__» #[[.ref l,.ref b],[]])
   (λA R s=>s.heap.get? l=some {cls:=.type "tuple",dict:=dd,data:=.seq c n,slots:=sl}/\s.heap.get? b=some {cls:=.type "tuple",dict:=o,data:=.seq a n2,slots:=u}/\
    uC A.in1 s (decide (c.size<a.size)) c.toList a.toList r/\R (.ok (.ret (.bool r))) s):=
 .of_wp λprog w A R s h=>by
  let#[hp,g,d,tk,os]:=s;let#[h1,h2,f,C]:=h;let D:=AutoSeq1.sub_tuple_tuple
  wp_walk using wpAny_loadPart' h1,wpAny_loadPart' h2,wpAny_forIn_list _ (λleft j s'=>j.1=none/\s'=#[hp,g,d,tk,os]/\∃p q,left=List.zip p q/\uC A.in1 #[hp,g,d,tk,os] (decide (c.size<a.size)) p q r) _
  case turn=>
   rintro⟨x,y⟩ left j s' ⟨v,rfl,p,q,i,f⟩
   match p,q,f with
   |[],_,_=>cases i
   |_::_,[],_=>cases i
   |x'::p,E::q,f=>
    rw[atm]at i;injection i with z hrest
    injection z with ex F
    subst ex F;let#[e,G,H,I]:=f;show π (G prog w _ _ ?_);cases e with
    |true=>
     wp_walk
     show#[rfl,rfl,p,q,hrest,H rfl]
    |false=>
     let B:=I rfl prog w
     wp_walk using B
     show#[_,rfl,~~~C]
  case fin=>
   rintro⟨J,L⟩ s' ⟨v,rfl,p,q,i,f⟩
   simp only at v;subst v;let m:r=decide (c.size<a.size):=by
    match p,q,f with
    |[],[],f=>show f
    |[],_::_,f=>show f
    |_::_,[],f=>show f
    |x'::p,E::q,f=>rw[atm]at i;cases i
   subst m
   wp_walk
   show#[_,rfl,by simpa [Builtin.Tuple.tupleCompareSizes]using C]
  case h=>
   show#[rfl,rfl,c.toList,a.toList,rfl,f]
def aX:List V->List V->Bool
 |[],[]=>false
 |[],_::_=>true
 |_::_,[]=>false
 |x::_,y::_=>ltV x y
def jN(x y:V):Prop:=(∃m n,x=.int m/\y=.int n)\/∃m n,x=.str m/\y=.str n
def oO(r:List V):Prop:=r=[]\/∃x,r=[x]
def DY(x:V):ltV x x=false:=by
 cases x with
 |int i=>show decide_eq_false ()
 |str z=>show decide_eq_false (atO _)
 |_=>rfl
def aan(h:jN x y)(c:RelV x u)(f:RelV y v):∃e,SeqAt.EqAt A s u v e/\(e=true↔x=y):=by
 obtain⟨m,n,rfl,rfl⟩|⟨m,n,rfl,rfl⟩:=h
 .let#[t,rfl]:=c;let#[a,rfl]:=f;show#[_,SeqAt.EqAt.int_int m t n a,by simp]
 .let#[t,rfl]:=c;let#[a,rfl]:=f;show#[_,SeqAt.EqAt.str_str m t n a,by simp]
def anP(h:jN x y)(a:RelV x u)(c:RelV y v)(q:Q (.bool (ltV x y)) s):Ϧ (Ϩ prog w) A (richCompare .Lt u v) Q E s:=by
 obtain⟨m,n,rfl,rfl⟩|⟨m,n,rfl,rfl⟩:=h
 .let#[t,rfl]:=a;let#[e,rfl]:=c;show lt_int q
 .let#[t,rfl]:=a;let#[e,rfl]:=c;show lt_str q
def ag6(h:jN x y)(a:RelV x u)(c:RelV y v)(q:Q (ltV x y) s):Ϧ (Ϩ prog w) A (oneLt' true u v) Q E s:=by
 obtain⟨m,n,rfl,rfl⟩|⟨m,n,rfl,rfl⟩:=h
 .let#[t,rfl]:=a;let#[e,rfl]:=c;show oneLt_int q
 .let#[t,rfl]:=a;let#[e,rfl]:=c;show oneLt_str q
def acP(i:oO rx)(c:oO ry)(j:∀x y,rx=[x]->ry=[y]->jN x y)(f:Vals rx us)(a:Vals ry ws):uC A s (decide (↥us<↥ws)) us ws (aX rx ry):=by
 obtain rfl|⟨x,rfl⟩:=i
 .cases Vals.zero f;obtain rfl|⟨y,rfl⟩:=c
  .cases Vals.zero a;rfl
  .let#[v,rfl,_]:=Vals.one a;rfl
 .let#[u,rfl,r1]:=Vals.one f;obtain rfl|⟨y,rfl⟩:=c
  .cases Vals.zero a;rfl
  .let#[v,rfl,g]:=Vals.one a;let lk:=j x y rfl rfl;let#[e,l,hi]:=aan (A:=A) (s:=s) lk r1 g;show#[e,l,λh=>?_,λh prog w E Q q=>anP lk r1 g q];have:x=y:=hi.mp h;subst this;show ltV x x=decide (1<1);rw[DY];rfl
section
variable{X:Cx}{ϵ:List (δ×Obj)}{σ:St}{H:Hp}{s:ν}{a b:δ}{rx ry:List V}
def Eb(I:Inv X ϵ σ H s)(h:H a=↑(.tup rx)):∃(f:List ε)(n:Nat)(dd:Option δ)(sl:Array (Option ε)),Vals rx f/\s.heap.get? a=some {cls:=.type "tuple",dict:=dd,data:=.seq f.toArray n,slots:=sl}:=by
 let#[_,f,r,#[cls,dd,data,sl],e,c,n,d]:=(I.hok a _ h:Ϝ X.prog X.w H s.heap a (.tup rx));simp only at c d;subst c d;show#[f,n,dd,sl,r,e]
def ajF{κ:SortKind}(l:A.units<cLine)(I:Inv X ϵ σ H s)(L:H a=↑(.tup rx))(M:H b=↑(.tup ry))(m:oO rx)(o:oO ry)(p:∀x y,rx=[x]->ry=[y]->jN x y)(j:κ=general'\/κ=oneType'\/(κ=tuples' true/\rx≠[]/\ry≠[]))(q:Q (aX rx ry) s):Ϧ ∅ A (keyLt' κ (.ref a) (.ref b)) Q E s:=by
 let#[us,n,dd,sl,B,c]:=Eb I L;let#[ws,n2,f,g,C,i]:=Eb I M;let D:uC A.in1 s (decide (us.toArray.size<ws.toArray.size)) us.toArray.toList ws.toArray.toList (aX rx ry):=by
  simpa using acP m o p B C
 obtain rfl|rfl|⟨rfl,h1,h2⟩:=j
 .show Ϧ _ _ (oneLt' false (.ref a) (.ref b)) _ _ _*>kat_one _ _ ?_*>richCompare_meets_room (op:=.Lt) #[_,c,rfl] #[_,i,rfl] F.slot_tuple_lt F.entry_tuple_lt (F.args_tuple_lt_2 _ _) (Mg a b us.toArray ws.toArray n n2 dd f sl g (aX rx ry)) #[c,i,D,(λz=>nomatch z),q] l
 .show Ϧ _ _ (oneLt' true (.ref a) (.ref b)) _ _ _;rw[oneLt'_eq];simp only[if_true];show π (wpAny_cRoomFor l ?_)*>π (wpAny_callSpecialIfBound?_slot (T:="tuple") #[_,c,rfl] F.slot_tuple_lt ?_)*>ao3 F.slot_tuple_lt #[_,c,rfl] F.entry_tuple_lt (F.args_tuple_lt_2 _ _) (Mg a b us.toArray ws.toArray n n2 dd f sl g (aX rx ry)) #[c,i,D,?_]*>ais q
 .obtain rfl|⟨x,rfl⟩:=m
  .show absurd rfl h1
  obtain rfl|⟨y,rfl⟩:=o
  .show absurd rfl h2
  let#[u,rfl,r1]:=Vals.one B;let#[v,rfl,G]:=Vals.one C;let lk:=p x y rfl rfl;show kat_lt c rfl i rfl ?_;let#[e,O,hi]:=aan (A:=A) (s:=s) lk r1 G;show kat_cons (O X.prog X.w _ _ ?_)*>kat_go (λh=>?_) λh=>?_
  .have :x=y:=hi.mp h;subst this;show kat_yes (kat_nil ?_);let J:Q (ltV x x) s:=q;rw[DY]at J;show J
  .show kat_no (ag6 lk r1 G q)
end
section
variable{M:Model}{A:ϴ}{E:ε->ν->Prop}{s:ν}
def vH(h:ϫ):List ε->List (Option ε)->Prop
 |[],[]=>True
 |v::vs,f::fs=>(∃a o xs n,v=.ref a/\h.get? a=↑o/\o.cls=.type "tuple"/\o.data=.seq xs n/\xs[0]?=f)/\vH h vs fs
 |_,_=>False
theorem R9:∀(vs:List ε)(fs:List (Option ε)){Q:List (Option ε)->ν->Prop},vH s.heap vs fs->Q fs s->Ϧ M A (vs.mapM firstOfTuple') Q E s
 |[],[],_,_,h=>by rw[List.mapM_nil];show ϱ h
 |[],_::_,_,t,_=>t.elim
 |_::_,[],_,t,_=>t.elim
 |v::vs,f::fs,Q,t,h=>by
  let#[#[a,o,xs,n,rfl,c,hc,hd,e],t]:=t;rw[List.mapM_cons];show π ?_;rw[kas_first_eq];show π (Looks.here (show Looks M s.heap (typeOf (.ref a)) o.cls from(Looks.ld c).andThen .now) ?_);rw[hc,if_neg (by first|decide|simp)];show π (listItems_at c hd (ϱ ?_));rw[e];show π (R9 vs fs (Q:=λbs s'=>Ϧ M A (pure (f::bs)) Q E s') t (ϱ h))
theorem Ov:∀{vs:List ε}{fs:List (Option ε)},vH s.heap vs fs->∀v∈vs,Looks M s.heap (typeOf v) (.type "tuple")
 |v::vs,f::fs,t,u,hu=>by
  let#[#[a,o,xs,n,rfl,c,hc,hd,e],t]:=t;obtain rfl|hu:=aaT.mp hu
  .rw[<-hc];show(Looks.ld c).andThen .now
  .show Ov t u hu
def kind_any{Q:SortKind->ν->Prop}(t:vH s.heap vs fs)(C:0<↥vs)(D:∀v,↑v∈fs->Looks M s.heap (typeOf v) T)(n:(T==T)=true)(p:(T !=Value.type "tuple")=true)(h1:(∀f∈fs,f.isSome=true)->Q (tuples' true) s)(h2:Q general' s)(G:Q oneType' s):Ϧ M A (keyKind' vs.toArray) Q E s:=by
 rw[kat_kind_eq,asC,map_eq_pure_bind];show π (π (R9 vs _ t (ϱ ?_)));by_cases i:(fs.toArray.all λx=>x.isSome)=true
 .rw[if_pos i];let a:∀f∈fs,f.isSome=true:= ~~~i
  show π (wpAny_rule ?_);let q:↥fs=↥vs:=by
   clear D h1 i a C;induction vs generalizing fs with
   |nil=>cases fs with
    |nil=>rfl
    |cons _ _=>show t.elim
   |cons v vs H=>cases fs with
    |nil=>show t.elim
    |cons f fs=>simp[H t.2]
  let u:fs.toArray.filterMap id=(fs.filterMap id).toArray:=by simp
  let j:fs.filterMap id≠[]:=by
   intro z
   match fs,q with
   |[],e=>simp at e;omega
   |f::fs,_=>
    let#[v,rfl]:=ang.mp (a f (by simp));simp at z
  rw[u,oneTypeOnly'_eq,asC,map_eq_pure_bind];let l:∀v∈fs.filterMap id,Looks M s.heap (typeOf v) T:=λv m=>by
   let#[o,I,e]:=ap0.mp m;let J:o=↑v:=e;show D v (J▸I)
  generalize fs.filterMap id=F at j l;show π (π (π (kas_mapM (r:=T) _ (λv m L y=>(l v m).here y) (ϱ ?_))));obtain⟨g,gr,rfl⟩:∃g gr,F=g::gr:=by
   match F,j with
   |[],z=>show absurd rfl z
   |g::gr,_=>show#[g,gr,rfl]
  let c:((atZ (λ_=>T) (g::gr)).toArray.all λx=>x==T)=true:=by
   simp only[atA,as4,aeN];intro _ _;show n
  let B:(atZ (λ_=>T) (g::gr)).toArray[0]?=↑T:=by simp
  rw[B];simp only[c,if_true];show ϱ (ϱ ?_);let e:(↑T).any (λx=>x !=Value.type "tuple")=true:=p;rw[e];show h1 a
 .rw[if_neg i];split
  .show ϱ h2
  .rw[oneTypeOnly'_eq,asC,map_eq_pure_bind];show π (π (π (kas_mapM (r:=Value.type "tuple") _ (λv m L y=>(Ov t v m).here y) (ϱ ?_))));obtain⟨g,gr,rfl⟩:∃g gr,vs=g::gr:=by
    match vs,C with
    |g::gr,_=>show#[g,gr,rfl]
   let c:((atZ (λ_=>Value.type "tuple") (g::gr)).toArray.all λx=>x==Value.type "tuple")=true:=by
    simp only[atA,as4,aeN];intro _ _;show(Value.type "tuple"==Value.type "tuple")=true;decide
   let B:(atZ (λ_=>Value.type "tuple") (g::gr)).toArray[0]?=↑(Value.type "tuple"):=by simp
   rw[B];simp only[c,if_true];show ϱ (ϱ G)
end
structure xg(X:Cx)(σ:St)(f:ε)(xs:List V)(H₁:Hp)(KV:Nat->V->Hp->Prop):Prop where
 mono:∀i v H H',ζ H H'->KV i v H->KV i v H'
 call:∀i x u ϵ s H,xs[i]?=↑x->RelV x u->ζ H₁ H->Inv X.ϒ ϵ σ H s->Ϧ ∅ X.A.in1.in1 (call f [u]) (EP X.ϒ ϵ σ λk H'=>ζ H H'/\KV i k H') (λ_ _=>False) s
def xU(KV:Nat->V->Hp->Prop)(i:Nat)(k:ε)(H:Hp):=∃v,RelV v k/\KV i v H
theorem xg.fn{X:Cx}{σ:St}{f:ε}{xs:List V}{vs:List ε}{H₁:Hp}{KV:Nat->V->Hp->Prop}(h:xg X σ f xs H₁ KV)(r:Vals xs vs):Ck X σ f vs H₁ (xU KV)where
 mono:=λi k H H' a ⟨v,c,q⟩=>#[v,c,h.mono i v H H' a q]
 call:=λi u ϵ s H g a I=>by
  let p:=↥r;let hi:=(aas.mp g).1;let j:xs[i]?=↑(xs[i]'()):=aad _;let#[x,e,l]:=r.get j;rw[g]at e;cases e;show adK (h.call i _ u ϵ s H j l a I) (λk s' z=>by let#[v,H',m,c,n,o]:=z;show #[H',m,n,v,c,o]) λ_ _ z=>z
def YW(f:Nat->Int)(i:Nat)(v:V)(_:Hp):Prop:=v=.int (f i)
section
variable{X:Cx}{σ:St}{n:Nat}
theorem WR:∀{ks:List ε}{f:Nat->Int},(∀(i:Nat) k,ks[i]?=↑k->∃t,k=.int (f i) t)->IntsAre ks ((agB ↥ks).map f)
 |[],_,_=>.nil
 |k::ks,f,h=>by
  let#[t,rfl]:=h 0 k rfl;have:=WR (ks:=ks) (f:=λi=>f (i+1)) λi k e=>h (i+1) k (~~~e)
  rw[acz,asN,adY,aeu];show .cons _ t this
theorem ago:ph X σ n (xU (YW f)) (λi j=>decide (f i<f j))where
 kind:=λϵ s H ks I q h2 c=>by
  let a:∀(i:Nat) k,ks[i]?=↑k->∃t,k=.int (f i) t:=λi k e=>by
   let#[v,g,rfl]:=c i k e;let#[t,rfl]:=g;show#[t,rfl]
  rw[ksk_kind (keys:=ks.toArray) (kz:=(agB ↥ks).map f) (~~~WR a) (by rw[ace];omega)];show ϱ #[I,λi j l m ϵ s hi o p=>?_];let#[t,rfl]:=a i l hi;let#[u,rfl]:=a j m o;rw[keyLt'_oneType];show oneLt_int #[rfl,p]
theorem aj5{f:Nat->Int}:aW λi j=>decide (f i<f j):=#[λi=>decide_eq_false (),λi j k h1 h2=>decide_eq_true (by have:=of_decide_eq_true h1;have:=of_decide_eq_true h2;omega),λi j k h=>by
 have:=of_decide_eq_true h;by_cases h2:f i<f j
 .show .inl (decide_eq_true h2)
 .show .inr (decide_eq_true ())]
def aa3(rk:Nat->List V)(i:Nat)(v:V)(H:Hp):=∃a,v=.ref a/\H a=↑(.tup (rk i))
def tD(rk:Nat->List V):Prop:=(∀i,oO (rk i))/\((∀i x,rk i=[x]->∃m,x=.int m)\/∀i x,rk i=[x]->∃m,x=.str m)
def tD.lk(h:tD rk)(a:rk i=[x])(c:rk j=[y]):jN x y:=by
 obtain h|h:=h.2
 .let#[m,rfl]:=h i x a;let#[n,rfl]:=h j y c;show .inl #[m,n,rfl,rfl]
 .let#[m,rfl]:=h i x a;let#[n,rfl]:=h j y c;show .inr #[m,n,rfl,rfl]
theorem Tj(I:Inv X ϵ σ H s):∀{ks:List ε}{rk:Nat->List V},(∀i,oO (rk i))->(∀(i:Nat) k,ks[i]?=↑k->∃a,k=.ref a/\H a=↑(.tup (rk i)))->
  ∃fs,vH s.heap ks fs/\(∀f∈fs,(∃i,(f=none/\rk i=[])\/∃x v,f=↑v/\rk i=[x]/\RelV x v))/\∀i,i<↥ks->rk i=[]->none∈fs
 |[],rk,_,_=>#[[],trivial,λf hf=>by simp at hf,λi hi=>by simp at hi]
 |k::ks,rk,j,h=>by
  let#[a,rfl,p]:=h 0 k rfl;let#[fs,h1,h2,l]:=Tj I (ks:=ks) (rk:=λi=>rk (i+1)) (λi=>j (i+1)) λi k e=>h (i+1) k (~~~e)
  let#[us,n,dd,sl,g,m]:=Eb I p;let o:=j 0;generalize c:rk 0=y at o g;obtain rfl|⟨x,rfl⟩:=o
  .cases Vals.zero g;show#[none::fs,#[#[a,_,_,n,rfl,m,rfl,rfl,rfl],h1],λf hf=>?_,λi hi z=>?_];obtain rfl|hf:=aaT.mp hf
   .show#[0,.inl #[rfl,c]]
   .let#[i,q]:=h2 f hf;show#[i+1,q]
   .cases i with
    |zero=>simp
    |succ i=>show acw _ (l i (~~~hi) z)
  .let#[u,rfl,r1]:=Vals.one g;show#[↑u::fs,#[#[a,_,_,n,rfl,m,rfl,rfl,rfl],h1],λf hf=>?_,λi hi z=>?_];obtain rfl|hf:=aaT.mp hf
   .show#[0,.inr #[x,u,rfl,c,r1]]
   .let#[i,q]:=h2 f hf;show#[i+1,q]
   .cases i with
    |zero=>rw[c]at z;cases z
    |succ i=>show acw _ (l i (~~~hi) z)
theorem Rx(G:X.A.in1.in1.units<cLine)(f:tD rk):ph X σ n (xU (aa3 rk)) (λi j=>aX (rk i) (rk j))where
 kind:=λϵ s H ks I Y h2 J=>by
  let c:∀(i:Nat) k,ks[i]?=↑k->∃a,k=.ref a/\H a=↑(.tup (rk i)):=λi k e=>by
   let#[v,g,a,rfl,q]:=J i k e;cases g;show#[a,rfl,q]
  let#[fs,t,C,L]:=Tj I f.1 c;let any:∀κ,(κ=general'\/κ=oneType'\/(κ=tuples' true/\∀i,i<n->rk i≠[]))->CQ X σ H ks (λi j=>aX (rk i) (rk j)) κ:=λκ u i j M O ϵ s hi D E=>by
   let#[a,rfl,q]:=c i M hi;let#[b,rfl,P]:=c j O D;let Z:=(aas.mp hi).1;let Q:=(aas.mp D).1;show ajF (X:=X.ϒ) G E q P (f.1 i) (f.1 j) (λx y e1 l=>f.lk e1 l) ?_ #[rfl,E];obtain h|h|⟨h,F⟩:=u
   .show .inl h
   .show .inr (.inl h)
   .show .inr (.inr #[h,F i (),F j ()])
  let o:∀(T:ε),(T==T)=true->(T !=Value.type "tuple")=true->(∀v,↑v∈fs->Looks ∅ s.heap (typeOf v) T)->Ϧ ∅ X.A.in1.in1 (keyKind' (agC ks)) (λκ s'=>Inv X.ϒ ϵ σ H s'/\CQ X σ H ks (λi j=>aX (rk i) (rk j)) κ) (λ_ _=>False) s:=λT R S U=>
   kind_any t () U R S (λp=>#[I,any _ (.inr (.inr #[rfl,λi hi z=>absurd (p _ (L i () z)) (by decide)]))]) #[I,any _ (.inl rfl)] #[I,any _ (.inr (.inl rfl))]
  obtain hk|hk:=f.2
  .show o (.type "int") (by decide) (by decide) λv B=>?_
   obtain⟨i,⟨e,_⟩|⟨x,W,e,l,g⟩⟩:=C _ B
   .cases e
   .cases e;let#[m,rfl]:=hk i x l;let#[t,rfl]:=g;show .now
  .show o (.type "str") (by decide) (by decide) λv B=>?_
   obtain⟨i,⟨e,_⟩|⟨x,W,e,l,g⟩⟩:=C _ B
   .cases e
   .cases e;let#[m,rfl]:=hk i x l;let#[t,rfl]:=g;show .now
def abK(h1:jN x y)(h2:jN y z)(a:ltV x y=true)(b:ltV y z=true):ltV x z=true:=by
 obtain⟨m,n,rfl,rfl⟩|⟨m,n,rfl,rfl⟩:=h1
 .obtain⟨c,k,e,rfl⟩|⟨_,_,e,_⟩:=h2
  .cases e;show decide_eq_true (by have:=of_decide_eq_true a;have:=of_decide_eq_true b;omega)
  .cases e
 .obtain⟨_,_,e,_⟩|⟨c,k,e,rfl⟩:=h2
  .cases e
  .cases e;show decide_eq_true (List.lt_trans (of_decide_eq_true a) (of_decide_eq_true b))
def acG(h1:jN x y)(h2:jN y z)(a:ltV x z=true):ltV x y=true\/ltV y z=true:=by
 obtain⟨m,n,rfl,rfl⟩|⟨m,n,rfl,rfl⟩:=h1
 .obtain⟨f,k,e,rfl⟩|⟨_,_,e,_⟩:=h2
  .cases e;have:=of_decide_eq_true a;by_cases h:m<n
   .show .inl (decide_eq_true h)
   .show .inr (decide_eq_true ())
  .cases e
 .obtain⟨_,_,e,_⟩|⟨f,k,e,rfl⟩:=h2
  .cases e
  .cases e;by_cases h:m.cps.toList<n.cps.toList
   .show .inl (decide_eq_true h)
   .show .inr (decide_eq_true ?_);let c:n.cps.toList<=m.cps.toList:=atL.mp h;show List.lt_of_le_of_lt c (of_decide_eq_true a)
theorem V5{rk:Nat->List V}(a:tD rk):aW λi j=>aX (rk i) (rk j)where
 ir:=λi=>by
  show aX (rk i) (rk i)=false;obtain e|⟨x,e⟩:=a.1 i
  .rw[e];rfl
  .rw[e];show DY x
 tr:=λi j k h1 h2=>by
  let h1:aX (rk i) (rk j)=true:=h1;let h2:aX (rk j) (rk k)=true:=h2;show aX (rk i) (rk k)=true;obtain f|⟨x,f⟩:=a.1 i<;>obtain c|⟨y,c⟩:=a.1 j<;>obtain g|⟨z,g⟩:=a.1 k<;>rw[f]at h1⊢ <;>rw[c]at h1 h2<;>rw[g]at h2⊢ <;>first|(cases h1;done)|(cases h2;done)|rfl|show abK (a.lk f c) (a.lk c g) h1 h2
 nt:=λi j k h=>by
  let h:aX (rk i) (rk k)=true:=h;show aX (rk i) (rk j)=true\/aX (rk j) (rk k)=true;obtain f|⟨x,f⟩:=a.1 i<;>obtain c|⟨y,c⟩:=a.1 j<;>obtain g|⟨z,g⟩:=a.1 k<;>rw[f,g]at h<;>rw[f,c,g]<;>first|(cases h;done)|show .inl rfl|show .inr rfl|show acG (a.lk f c) (a.lk c g) h
end
section
variable{X:Cx}{σ:St}{H:Hp}{Q:VK}{e ke re:Ϫ}{p pos kp rp:Pos}
def xZ(X:Cx)(σ:St)(b:Bool)(v a:V)(H:Hp)(Q:VK):=∃(l f:δ)(xs:List V)(KV:Nat->V->Hp->Prop)(lt:Nat->Nat->Bool),v=.ref l/\a=.ref f/\θ X.K H l xs/\↥xs<64/\aW lt/\xg X σ (.ref f) xs H KV/\ph X σ ↥xs (xU KV) lt/\
 ∀p H' q,ζ H H'->H' p=none->fX ↥xs (jt b lt) q->Q (.ref p) (upd H' p (.lst (eF xs q)))
def Mj(j:X.mg "sorted"=none)(h:EV X e σ H λv H1=>EV X ke σ H1 λa H2=>xZ X σ false v a H2 Q)(m:Gl X "sorted":=by rfl)(c:acv [e] X.env=[(false,eval e X.env)]:=by rfl):EV X (.Call (.Name "sorted" p) [e] [#[some "key",ke,kp]] pos) σ H Q:=by
 intro ϵ s I;show akj (j5 I m j PyProof.Rows.boot_sorted ?_ (by decide) (by decide));let n:EA X [e] σ H (λvs H1=>∃v,vs=[v]/\EV X ke σ H1 λa H2=>xZ X σ false v a H2 Q):=jn c (bC h λv H1 q=>fW #[v,rfl,q]);show callWith_kw (ψ (n pos ϵ s I) λus o y=>?_) (by rw[c];rfl) (by rw[c];rfl);let#[vs,H1,z,r1,v,B,C]:=y;subst B;let#[u,rfl,D]:=Vals.one r1;show kws_cons (ψ (C ϵ o z) λM O _u=>_Z.e23 _u λa H2 E F G=>kws_nil ?_);let#[l,f,xs,KV,lt,rfl,rfl,hs,i,W,J,L,g]:=G;cases D;cases F;show ZJ (kw:=[(μ "key",.ref f)]) W hs i (λvs r=>#[J.fn r,L]) E (ksk_s1 _ _) (λx=>ksk_l1 _ _) (λx=>ksk_t1 f x) g
def abX(o:Gl X "sorted")(y:X.mg "sorted"=none)(j:acv [e] X.env=[(false,eval e X.env)])(h:EV X e σ H λv H1=>EV X ke σ H1 λa H2=>EV X re σ H2 λc i=>c=.bl b/\xZ X σ b v a i Q):EV X (.Call (.Name "sorted" p) [e] [#[some "key",ke,kp],#[some "reverse",re,rp]] pos) σ H Q:=by
 intro ϵ s I;show akj (j5 I o y PyProof.Rows.boot_sorted ?_ (by decide) (by decide));let z:EA X [e] σ H (λvs H1=>∃v,vs=[v]/\EV X ke σ H1 λa H2=>EV X re σ H2 λc i=>c=.bl b/\xZ X σ b v a i Q):=jn j (bC h λv H1 q=>fW #[v,rfl,q]);show callWith_kw (ψ (z pos ϵ s I) λus B C=>?_) (by rw[j];rfl) (by rw[j];rfl);let#[vs,H1,D,r1,v,E,F]:=C;subst E;let#[u,rfl,G]:=Vals.one r1;show kws_cons (ψ (F ϵ B D) λY J _u=>_Z.e23 _u λa H2 L M O=>kws_cons (ψ (O ϵ J L) λZ s3 ⟨c,i,P,R,m,S⟩=>kws_nil ?_));let#[l,f,xs,KV,lt,rfl,rfl,hs,n,W,T,U,g]:=S;subst m;cases G;cases M;cases R;show ZJ (kw:=[(μ "key",.ref f),(μ "reverse",.bool b)]) W hs n (λvs r=>#[T.fn r,U]) P (ksk_s2<*_) (λx=>ksk_l2 _ _ _) (λx=>ksk_t2 f x b) g
abbrev Cx.uG(X:Cx):Cx:={X.ϒ with xe:=λ_ _=>False}
theorem Inv.uG(I:Inv X.ϒ ϵ σ H s):Inv X.uG ϵ σ H s:=
 #[#[I.ok.mod,I.ok.kind,I.ok.glob,I.ok.blt,I.ok.above,I.ok.inj,I.ok.has,I.ok.cab,I.ok.hd,I.ok.frames,I.ok.stk,I.ok.exf,I.ok.bs,I.ok.bsz,I.ok.noex,I.ok.exfs,I.ok.funs,I.ok.frf],I.os,I.bare,I.base,I.loc,I.cell,I.free,I.freeC,I.pin,I.hok,I.len]
theorem Inv.unX(I:Inv X.uG ϵ σ H s):Inv X.ϒ ϵ σ H s:=
 #[#[I.ok.mod,I.ok.kind,I.ok.glob,I.ok.blt,I.ok.above,I.ok.inj,I.ok.has,I.ok.cab,I.ok.hd,I.ok.frames,I.ok.stk,I.ok.exf,I.ok.bs,I.ok.bsz,I.ok.noex,I.ok.exfs,I.ok.funs,I.ok.frf],I.os,I.bare,I.base,I.loc,I.cell,I.free,I.freeC,I.pin,I.hok,I.len]
def acj{k:Nat}{KV:Nat->V->Hp->Prop}(F:Def X.prog X.w X.K X.mg X.base cc k x ps sp)(c:ϓ cc (k+2) X.A)(a:∀i v H H',ζ H H'->KV i v H->KV i v H')(h:∀(i:Nat) x H',xs[i]?=↑x->ζ H H'->sp [x] H' (λv H2=>ζ H' H2/\KV i v H2) (λ_ _ _=>False)):∃f:δ,X.mg x=↑(.ref f)/\xg X σ (.ref f) xs H KV:=by
 let#[f,fd,h1,h2,e,g]:=F.ex;show#[f,h1,a,λi x u ϵ s H' j l m I=>?_];have:=wJ (X:=X.uG) (us:=[u]) (vs:=[x]) (Kx:=λ_ _ _ _=>False) g c.in1.in1 e (S8 rfl) I.uG (.cons l .nil) (h i x H' j m);show adK this (λw s' z=>by let#[v,H2,n,o,q]:=z;show #[v,H2,n.unX,o,q]) λ_ _ z=>z
theorem aho(h:X.mg x=↑(.ref f))(a:Gl X x)(hd:(x==("__debug__":Str))=false)(q:Q (.ref f) H):EV X (.Name x p) σ H Q:=zy (abh (v:=.ref f) a h rfl hd) q
end
def acu(h1:p.line=p'.line)(h2:p.col=p'.col)(l:List ε):codeAmong p l=codeAmong p' l:=by
 fun_induction codeAmong p l with
 |case1 a t b u c rest h=>unfold codeAmong;rw[<-h1, <-h2,if_pos h]
 |case2 a t b u c rest h e=> rw[e];conv=>rhs;unfold codeAmong
                             rw[<-h1, <-h2,if_neg h]
 |case3 l h=>unfold codeAmong;split <;>first|rfl|(exfalso;show h _ _ _ _ _ _ rfl)
def agz{p a:Pos}(l:List ε)(h:TriplesOk l)(hc:codeAmong p (l++[rawInt a.line,rawInt a.col,c])=↑f):codeAmong p l=↑f\/(f=c/\a.line=p.line/\a.col=p.col):=by
 fun_induction TriplesOk l with
 |case1=>
  simp only[asW,rawInt,codeAmong]at hc;split at hc
  .rename_i e;cases hc;simp only[acF,beq_iff_eq]at e;show .inr #[rfl,(),()]
  .cases hc
 |case2 x t y u z rest g=>
  simp only[aty,codeAmong]at hc⊢;split at hc
  .rename_i e;rw[if_pos e];show .inl hc
  .rename_i e;rw[if_neg e];show g h hc
 |case3 l h1 h2=>show h.elim
abbrev uT:HO:=.ext λ_=>True
theorem DR(e:h.get? a=↑o):Ϝ P w H h a (.frz o uT):=#[e,trivial,#[o,e],λ_ _ _ _=>trivial]
section
variable{X:Cx}{σ:St}{H:Hp}{D:Ends}
def abH(hN:X.N.Nodup)(hj:X.N[j]?=↑name)(U:X.env.scope.names.lookup name=↑.local)(y:X.env.code=.ref c)(C:CodeHd X.base c P)(B:BM X.mg X.base)(J:closureFor scope X.env=pure clos)(L:H P=↑(.tbl ps))(M:codeAmong pos ps.toList=↑(.str qual t))(hq:qualnameIn X.env name name=qual)(aa:g.defaults=[])(ab:g.kw_defaults=[])(ha:annTrees g none X.env=[])(h:∀(f m:δ)(oc:Obj)(i pm l:ε)(vs:Array ε)(t':Tok)(H':Hp),ζ H H'->H f=none->H' f=↑(.frz (fnMade name qual g body scope clos i pm m l) uT)->(∃u,H' m=↑(.frz oc u))->oc.data=.fields vs->vs[1]?=↑(.str qual t')->D.nx (σ.set j ↑(.ref f)) H'):SX X (.FunctionDef name g body [] none [] scope none name pos) D σ H:=by
 intro ϵ s I;show nestDef_K aa ab ha ?_;rw[hq];let#[qs,W,tr,z]:=(I.hok P _ L:Ϝ X.prog X.w H s.heap P (.tbl ps));let Y:s.heap.Ns mainGlobals X.mg:=I.mod.glob.keeps I.bk;let#[bm,ob,b1,b2,b3,b4,b5,b6]:=B;let O:=I.bk _ _ b3;let ac:mainGlobals≠P:=λq=>by
  let#[o,es,ep,e,hd,_]:=Y;rw[q,W]at e;cases e;cases hd
 let ae:bm≠P:=λq=>by rw[q,W]at O;cases O;cases b4
 let af:bm≠mainGlobals:=λq=>by
  let#[o,es,ep,e,hd,_]:=Y;rw[q,e]at O;cases O;rw[hd]at b6;cases b6
 let F:s.heap.BuiltinsAt X.mg P:=#[bm,ob,b1,b2,af,ae,O,b4,b5,b6];let CC:=C.keeps I.bk;cases hf:codeAmong pos qs.toList with
 |some cv=>
  let#[m,oc,u,q,t2,vs,t',rfl,Z,e3,e4,e5]:=z pos cv hf;rw[M]at Z;cases Z;show makeFunction_hit J I.ok.glob Y y CC W tr hf F λl i h' tk hk hsz=>?_
  let I1:=I.laid (a:=h'.objs.size) (o:=.frz (fnMade name qual g body scope clos i ((X.mg "__name__").getD .none) m l) uT) (t':=tk) (h':=h'.push (fnMade name qual g body scope clos i ((X.mg "__name__").getD .none) m l)) (λb o e=>aaS _ (hk b o e)) hsz (DR (acN _ rfl));let Q:=I.hok.fresh hsz;let sm:ζ H (upd H h'.objs.size (.frz (fnMade name qual g body scope clos i ((X.mg "__name__").getD .none) m l) uT)):=ζ.upd Q;show qX (v:=.ref h'.objs.size) I1 hN hj (.inl U) rfl (λs' I' _=>?_) (.inr U)*>#[_,_,I',h _ m oc i _ l vs t' _ sm Q υ #[u,sm<*e3] e4 e5]
 |none=>
  show makeFunction_K J I.ok.glob Y y CC W tr hf ac F λm l i h' tk ag E G R S=>?_
  let#[c₂,oc,vs,t',Z,ah,hd,hv]:=R;cases Z;let ai:H m=none:=I.hok.fresh E;let T:H h'.objs.size=none:=I.hok.fresh (arh (af6 E G));let Ϻ:m≠h'.objs.size:=adn G;let hPlt:=I.hok.lt L;let x:∀b u,H b=↑u->(upd (upd H m (.frz oc uT)) h'.objs.size (.frz (fnMade name qual g body scope clos i ((X.mg "__name__").getD .none) m l) uT)) b=↑u:=λb u e=>by
   rw[ξ (ϔ e T),ξ (ϔ e ai)];show e
  let nP:∀b,H b=none->b≠P:=λb e z=>by rw[z,L]at e;cases e
  let lt':∀b o,s.heap.get? b=↑o->b≠m/\b≠h'.objs.size:=λb o e=>by
   have:=adw e;show#[adn (adk this E),adn (adk this (arh (af6 E G)))]
  let kp:∀b o,b≠P->s.heap.get? b=↑o->(h'.push (fnMade name qual g body scope clos i ((X.mg "__name__").getD .none) m l)).get? b=↑o:=λb o F e=>aaS _ (ag b o F e)
  let I1:Inv X ϵ σ (upd (upd H m (.frz oc uT)) h'.objs.size (.frz (fnMade name qual g body scope clos i ((X.mg "__name__").getD .none) m l) uT)) {s with heap:=h'.push (fnMade name qual g body scope clos i ((X.mg "__name__").getD .none) m l),toks:=tk}:=by
   show I.un (t':=tk) #[λb o e n _ _=>kp b o (nP b n) e,λb o e n _ _=>#[o.slots,kp b o (nP b n) e],λb o e n _=>?_,λb o e _=>?_,λb xs q=>x _ _ q,λb o u q=>x _ _ q,λb ps' q=>#[#v[],by rw[x<*q];simp]] λb u e=>?_
   .rw[ξ (lt' b o e).2,ξ (lt' b o e).1];show n
   .by_cases F:b=P
    .show#[_,by rw[F];show aaS _ S]
    .show#[_,kp b o F e]
   .by_cases h1:b=h'.objs.size
    .subst h1;rw[υ]at e;cases e;show DR (acN _ rfl)
    .rw[ξ h1]at e;by_cases h2:b=m
     .subst h2;rw[υ]at e;cases e;show DR (aaS _ ah)
     .rw[ξ h2]at e;by_cases h3:b=P
      .subst h3;rw[L]at e;cases e;show#[_,aaS _ S,?_,λp cv hc=>?_]
       .rw[asf];show TriplesOk_snoc _ _ _ _ tr
       .rw[asf]at hc;obtain h4|⟨rfl,h5,h6⟩:=agz _ tr hc
        .let#[c2,ak,u2,q2,t2,al,t3,g1,g2,g3,g4]:=z p cv h4;show#[c2,ak,u2,q2,t2,al,t3,g1,g2,x<*g3,g4]
        .show#[m,oc,uT,qual,t,vs,t',rfl,?_,?_,hd,hv]
         .rw[<-acu h5 h6];show M
         .rw[ξ Ϻ,υ]
      .show(I.hok b u e).stay (λa v ha q=>kp a v ?_ q) (λa q=>x _ _ q) (λa xs q=>x _ _ q) λa ob v q=>x _ _ q
       obtain rfl|ha:=ha
       .show h3
       .intro z2;rw[z2,L]at ha;cases ha
  let sm:ζ H (upd (upd H m (.frz oc uT)) h'.objs.size (.frz (fnMade name qual g body scope clos i ((X.mg "__name__").getD .none) m l) uT)):=x;show qX (v:=.ref h'.objs.size) I1 hN hj (.inl U) rfl (λs' I' _=>?_) (.inr U)*>#[_,_,I',h _ m oc i _ l vs t' _ sm T υ #[uT,by rw[ξ Ϻ,υ]] hd hv]
abbrev Ae(X:Cx)(qual:Str)(scope:ajd)(f:δ)(cd:ε)(cl:List (Str×δ))(N:List Str)(s:ν)(H:Hp):Cx where
 prog:=X.prog
 w:=X.w
 K:=X.K
 mg:=X.mg
 base:=X.base
 A:=X.A.deeper (envX qual scope ⇑s f cd cl)
 N:=N
 s₀:=s
 H₀:=H
 env:=envX qual scope ⇑s f cd cl
 outer:=X.stack
 stack:=envX qual scope ⇑s f cd cl::X.stack
 ex:=[]
 fn:=λ_=>false
 calm:=X.calm
 pn:=[]
 xe:=λ_ _=>False
def afP{j:Nat}{E:ε->ν->Prop}(I:Inv X ϵ σ H s)(hf:H f=↑(.frz (fnMade name qual g body scope [(y,c)] o pm n B) u0))(Y:H n=↑(.frz oc u1))(Z:oc.data=.fields vs)(D:vs[1]?=↑(.str qual t'))(F:X.A.depth<recursionLimit)(hb:∀o pm n B (u:ε),bindArgs (fnX name qual g body scope [(y,c)] .none .none o pm none (.ref n) B) #[[u],[]]=pure [(x,u)])(hk:scope.kind=.function)(aa:scope.isCoroutine=false)(L:scope.isGenerator=false)(W:scope.names.lookup x=↑.local)(M:scope.names.lookup y=↑.free)(O:∀a∈scope.names,a.2≠.cell)(ab:∀a,scope.names.lookup a=↑.free->a=y)(hj:X.N[j]?=↑y)(ac:σ[j]?=some ↑z)(P:X.env.scope.names.lookup y=↑.cell)(S:X.env.cells.lookup y=↑c)(T:RelV v u)(h:Φ (Ae X qual scope f (.ref n) [(y,c)] [x,y] s H) body {nx:=λ_ H'=>Q .non H',rt:=Q} [↑v,↑z] H):Ϧ ∅ X.A (call (.ref f) [u]) (EP X ϵ σ Q) E s:=by
 let C:=I.env0;let#[ef,_]:=(I.hok f _ hf:Ϝ X.prog X.w H s.heap f (.frz _ u0));let#[ec,_]:=(I.hok n _ Y:Ϝ X.prog X.w H s.heap n (.frz oc u1));let ae:s.heap.CodeRec (.ref n) qual:=#[n,oc,vs,t',rfl,ec,Z,D];let hxy:x≠y:=λe=>by rw[e,M]at W;cases W
 let#[m,hm,hl]:=id I.loc;let#[uz,rz,lk]:=hl j y z hj ac (.inr (.inl P));obtain⟨Zh⟩:Nonempty (s.heap.IsCell c ↑uz):=by
  obtain⟨k,_⟩|⟨_,c2,e,q⟩:=lk
  .rw[show X.env.kindOf y=X.env.scope.names.lookup y from rfl,P]at k;cases k
  .rw[S]at e;cases e;show#[q]
 show aol (akW (codeAny_call_def (R:=λr s'=>match r with|.ok (.ret u)=>CE X.stack X.prog X.w H s Q u s'|.ok _=>False|.error _=>False) (fd:=fnX name qual g body scope [(y,c)] .none .none o pm none (.ref n) B) (body:=body) (binds:=[(x,u)]) F ef rfl I.nolimit ae rfl (.of_eq (hb o pm n B u)) O (λa ha=>by cases ab7.mp ha;show W) (λh₁ af l=>?_) aa L hk) λr s' D=>?_)
 .let I1:Inv (Ae X qual scope f (.ref n) [(y,c)] [x,y] s H) [] [↑v,↑z] H {s with heap:=h₁,toks:=s.toks+[(x,u)].length}:=by
   let G:∀b:δ,b∉(Ae X qual scope f (.ref n) [(y,c)] [x,y] s H).ex:=λb z=>absurd (show b∈([]:List δ)from z) (by simp)
   show#[#[C.mod,hk,rfl,rfl,Ϭ _,λa b d h1 h2=>?_,λa ha=>?_,λa d h1=>(by cases h1),I.ok.hd,Around.frames_deeper C.frames,.inr #[rfl,rfl],λb z=>absurd z (G b),C.bs,C.bsz,λb _ _=>G b,λb z=>absurd z (G b),C.funs,C.frf],
    rfl,C.bare,Un.kept l,#[_,af,λi a b h1 h2 h3=>?_],λa d h1=>?_,C.hok.fresh (Ϭ _),λa d h1=>?_,λp hp=>absurd (show p∈([]:List (δ×Obj))from hp) (by simp),C.hok.kept l,rfl]
   .let h1:([(y,c)]:List (Str×δ)).lookup a=↑d:=h1;let h2:([(y,c)]:List (Str×δ)).lookup b=↑d:=h2;let e1:=PySem.mem_of_lookup h1;let e2:=PySem.mem_of_lookup h2;rw[ab7]at e1 e2;cases e1;cases e2;rfl
   .let ha:scope.names.lookup a=↑.cell\/scope.names.lookup a=↑.free:=ha;obtain ha|ha:=ha
    .show absurd rfl (O _ (PySem.mem_of_lookup ha))
    .cases ab a ha;show#[c,by show([(y,c)]:List (Str×δ)).lookup y=↑c;simp[ajl]]
   .match i,h1,h2 with
    |0,h1,h2=>
     cases h1;cases h2;show#[u,T,.inl #[W,by simp[ajl]]]
    |1,h1,h2=>
     cases h1;cases h2;show#[uz,rz,.inr #[.inr M,c,by show([(y,c)]:List (Str×δ)).lookup y=↑c;simp[ajl],Zh.keeps l]]
    |i+2,h1,h2=>simp at h1
   .let e1:=PySem.mem_of_lookup (show([(y,c)]:List (Str×δ)).lookup a=↑d from h1);rw[ab7]at e1;cases e1;show#[_,Zh.keeps l]
   .let e1:=PySem.mem_of_lookup (show([(y,c)]:List (Str×δ)).lookup a=↑d from h1);rw[ab7]at e1;cases e1;show I.freeC y c S
  show adK (h [] _ I1) (λfl s' hs=>?_) λ_ _ z=>z.elim
  let U:∀{σ':St}{H':Hp}{v:V}{u:ε},Inv (Ae X qual scope f (.ref n) [(y,c)] [x,y] s H) [] σ' H' s'->RelV v u->Q v H'->CE X.stack X.prog X.w H s Q u s':=
   λ{σ' H' v u} J T q=>#[v,H',J.os,J.bare,J.base,J.hok,T,q]
  cases fl with
  |ret u=>
   let#[v,σ',H',J,T,q]:=hs;show U J T q
  |next=>
   let#[σ',H',J,q]:=hs;show U (v:=V.non) (u:=Value.none) J rfl q
  |brk=>
   let#[_,_,_,q]:=hs;show False.elim q
  |cont=>
   let#[_,_,_,q]:=hs;show False.elim q
 .cases r with
  |error e=>show D.elim
  |ok fl=>
   cases fl with
   |ret u=>show I.after D
   |next=>show False.elim D
   |brk=>show False.elim D
   |cont=>show False.elim D
end
def akU(p:Pos)(q:Str):codeAmong p (Dr p q).toList=↑(.str q 0):=by simp[Dr,codeAmong,rawInt]
def akT{P:ϲ}{w:Ϯ}{K:ϩ}{mg:MG}{base:ϫ}{x:Str}{st:ϧ}{k:Nat}{sp:Sp}(F:∃f fd,c7 K x x st f fd/\mg x=↑(.ref f))(i:Ϟ K mg base x)(S:Λ N ps (ς st))(n:∀(kV a pm:ε)(an:Option δ)(j ct:ε)(us:List ε),↥us=↥ps->bindArgs (asS x x (jx st) (ϣ st) (ς st) .none kV a pm an j ct) #[us,[]]=pure (ps.zip us))(len:∀vs H Q E,sp vs H Q E->↥vs=↥ps)(body:∀(f:δ)(A:ϴ)(outer:List Env)(s:ν)(H:Hp)(vs:List V)(Q:VK)(E:XK),ϓ cc k (A.deeper (envOfC x (ς st) ⇑s f (.ref (jb K x))))->sp vs H Q E->
   Φ (fD cc P w K mg base N x (ς st) f (.ref (jb K x)) A outer s H E) (ϣ st) {nx:=λ_ H'=>Q .non H',rt:=Q} (start N vs) H):Def P w K mg base cc (k+1) x ps sp:=by
 let#[f,fd,F,m]:=F;show#[f,fd,m,F.kp,F.binds n,?_];let#[oc,od,kV,a,pm,an,j,ct,o,rfl,lk,l]:=id F.ex;let e:=i.tab;unfold tabIn at e;split at e
 .rename_i v p;let g:=alU i.kin i.glob p;rw[m]at g;cases g;simp only[lk]at e;cases j with
  |ref c=>
   let q:c=jb K x:=by
    dsimp only at e;split at e
    .split at e
     .have :=Option.some.inj e;show congrArg Prod.fst this
     .cases e
    .cases e
   subst q;show Xg lk l S len λA outer s H vs Q E u h=>#[_,Rm,body f A outer s H vs Q E u h]
  |_=>cases e
 .cases e
def lq(keep:Nat->Bool)(n:Nat):List Nat:=(agB n).filter keep
def ahl(keep:Nat->Bool)(n:Nat):lq keep (n+1)=lq keep n++(if keep n=true then[n]else[]):=by
 unfold lq;rw[asY,aso];by_cases h:keep n=true
 .simp[h]
 .let h':keep n=false:= ~~~h
  simp[h']
def agY(keep:Nat->Bool)(n:Nat):↥(lq keep n)<=n:=by
 have:=ahq keep (agB n);rw[aqO]at this;show this
def V2(X:Cx)(N':List Str)(scope:ajd)(tg elt c:Ϫ)(σ':St)(H1:Hp)(Q:VK)(xs:List V):Prop:=
 ∃(g:St->Prop)(keep:Nat->Bool)(e:δ->Nat->V->Hp->Prop),g σ'/\
  (∀E i v H2 f ys,H2 E=↑(.lst ys)->(∀b o,b≠E->H2 b=↑o->f b=↑o)->e E i v H2->e E i v f)/\
  (∀(fp:List δ)(E C:δ)(j:ν)(l:Hp)(i:Nat)(n:St)(x:V)(H2:Hp),H1 E=none->xs[i]?=↑x->g n->ζ H1 H2->(∃ys,H2 E=↑(.lst ys))->
   EG (cT X N' scope (Ϙ scope X.env) C j l fp) tg x n H2 λa f=>ET (cT X N' scope (Ϙ scope X.env) C j l fp) c a f λk m=>k=keep i/\g a/\ζ H2 m/\(k=true->EV (cT X N' scope (Ϙ scope X.env) C j l fp) elt a m λv p=>e E i v p/\ζ m p))/\
  ∀(E:δ)(H2:Hp)(us:List V),H1 E=none->H2 E=↑(.lst us)->_V.Α (λu i=>e E i u H2) us (lq keep ↥xs)->ζ H1 H2->Q (.ref E) H2
def adp(hn:↥xs<=ϳ)(M:θ X.K H l xs)(h:V2 X N' scope tg elt c σ' H Q xs):∀(fp:List δ)(E C:δ)(O:ν),H E=none->jC X (cT X N' scope (Ϙ scope X.env) C O (upd H E (.lst [])) fp) tg elt [c] (jU X.K l) E σ' H (λH'=>Q (.ref E) H'):=by
 intro fp E C O F;let#[U,keep,W,t0,mono,step,P]:=h;show#[λi m R H1=>m=↥xs-i/\i<=↥xs/\ζ H H1/\U R/\∃us,H1 E=↑(.lst us)/\_V.Α (λu i=>W E i u H1) us (lq keep i),#[↥xs,by simp,aim _,ζ.upd F,t0,[],υ,.nil],?_]
 rintro i m R H1 ⟨rfl,hi,y,S,us,g,G⟩
 by_cases z:i<↥xs
 .show .inr #[#[xs,xs[i],ζ.seq y M,aad z],λB H'=>ζ H H'/\U B/\∃us,H' E=↑(.lst us)/\_V.Α (λu i=>W E i u H') us (lq keep (i+1)),λB H' z1=>by let#[a,b,d]:=z1;show #[↥xs-(i+1),(),rfl,z,a,b,d],λx H2 Y=>?_];let hx:xs[i]?=↑x:=Y.2 xs (ζ.seq y M);let hH:H2=H1:=Y.1;subst hH;intro ϵ s u I r;show ψ (step fp E C O _ i R x _ F hx S y #[us,g] ϵ s u I r) λ_ s' ⟨T,H3,I3,q3⟩=>#[T,H3,I3,aav ?_]
  show λϵ s I=>ψ (q3 ϵ s I) λk s' ⟨H4,I4,hk,Z,n,q⟩=>#[H4,I4,?_]
  subst hk;let J:=ahl keep i;let hkl:=agY keep i;let BW:=G.len;by_cases f:keep i=true
  .rw[if_pos f];rw[if_pos f]at J;show bC (q f) λv L ⟨pv,D⟩=>#[us,D<*(n _ _ g),(),?_]
   let up:∀b o,b≠E->L b=↑o->(upd L E (.lst (us++[v]))) b=↑o:=λb o hb e=>by rw[ξ hb];show e
   show#[λb o e=>?_,Z,us++[v],υ,?_]
   .rw[ξ (ϔ e F)];show D<*(n<*(y _ _ e))
   .rw[J];show _V.Α.app (G.imp λu j p=>?_) (.cons (mono E i v L _ us (D<*(n _ _ g)) up pv) .nil)*>mono E j u L _ us (D<*(n _ _ g)) up (mono E j u H2 _ us g (λb o _ e=>D _ _ (n<*e)) p)
  .rw[if_neg f];rw[if_neg f,aiD]at J;show#[y<|>n,Z,us,n<*g,?_];rw[J];show G.imp λu j p=>mono E j u H2 _ us g (λb o _ e=>n _ _ e) p
 .let e:i=↥xs:=()
  subst e;show .inl #[#[xs,ζ.seq y M,Ϭ _],P E H1 us F g G y]
def agT(N':List Str)(a:dD N' X.N σ scope=σ')(hc:X.calm=true)(S:dq X.env scope)(hs:∀x,foldedSetIterable e X.env x=pure x)(h:EV X e σ H λv H1=>∃l xs,v=.ref l/\θ X.K H1 l xs/\↥xs<=ϳ/\V2 X N' scope tg elt c σ' H1 Q xs):EV X (.ListComp elt [#[tg,e,[c],0]] scope pos) σ H Q:=by
 show yW (N':=N') hc S hs (rm (bC h λv H1 q=>?_));let#[l,xs,rfl,f,g,i]:=q;show#[l,rfl,#[xs,f],?_];rw[a];show adp g f i
section
variable{X:Cx}{D:Ends}{σ:St}{H:Hp}{rest:List aoN}{suite:List ϧ}{b₀:ϧ}{pos np:Pos}{x n:Str}{c:ε}{C:δ}{d:Option δ×Bool}{i:Nat}
abbrev abZ(D:Ends)(i:Nat):Ends:=
 {nx:=λσ' H'=>D.nx (σ'.set i none) H',rt:=D.rt,bk:=λσ' H'=>D.bk (σ'.set i none) H',ct:=λσ' H'=>D.ct (σ'.set i none) H'}
def agX(hN:X.N.Nodup)(hi:nameAt X.N n=↑i)(l:X.env.scope.names.lookup n=↑.local)(hg:Gl X x)(hm:X.mg x=↑c)(hd:(x==("__debug__":Str))=false)(ex:ape X.K (.ref C) c=↑true)(h:∀e pn,H e=none->Φ (X.bM (.ref e) (λ_ _=>False) pn) (b₀::suite) (abZ D i) (σ.set i ↑(.ref e)) (upd H e (xw e C d.1))):EH X (.ExceptHandler ↑(.Name x np) ↑n (b₀::suite) pos::rest) D σ (.ref C) d H:=by
 intro ϵ s e T I F ch;let p:(X.env.scope.kind==.class||(X.env.scope.kind==.module&&X.env.locals !=X.env.globals))=false:=by rw[I.ok.kind];rfl
 let L:i<↥X.N:=(aas.mp (nG hi)).1;let#[Sh,P]:=ch e (by simp);show apk (RK I F hg hm hd ex ?_) (by intro q;cases q)*>codeAny_handlers_suite_as (I.off F ch λs2 I2 F2=>?_)*>qX I2 hN (nG hi) (.inl l) (v:=.ref e) rfl (λs3 I3 R=>?_) (.inr l);let#[a,sb,ha]:=R;let S:e≠a:=by
  obtain z|z:=ha
  .rw[z];show P.2.1
  .show λy=>P.2.2.1 n a z y.symm
 let#[oe,vs,he,U,W,Y,_]:=F2;let Z:s3.heap.get? e=↑oe:=(sb.2 e S)<|>he;let I4:=I3.adopt Sh P (φ:=λh=>∃oe vs,h.get? e=↑oe/\oe.cls=.ref C/\oe.dict=d.1/\oe.data=.fields vs) (abO Z U W Y);show adK (h e (X.pn++ϵ) Sh [] s3 I4.bM) (λf s4 q=>?_) λ_ _ q=>q.elim
 let g:∀{σ':St}{H':Hp}{Q:Unit->ν->Prop},Inv X ϵ σ' H' s4->(∀G,Inv X ϵ (σ'.set i none) H' G->Q PUnit.unit G)->Ϧ ∅ X.A (do bindName X.env n .none;unbindBehindTheSuite X.env n pos) Q X.xe s4:=λ{σ' H' Q} J k=>by
  let J3:Inv X ϵ (σ'.set i none) H' s4:=J.weak (by simp) λj v O=>by
   by_cases z:j=i
   .subst z;rw[aoO (by rw[J.len];show L)]at O;cases O
   .rw[arZ (Ne.symm z)]at O;show O
  let#[m,hn,hl]:=id J3.loc;show wpAny_nameGoes_keeps (show X.env.kindOf n=↑.local from l) hn p λh' v M aa=>k _ ?_
  show J3.aln (m:=m) (m':=λx=>if x=n then v else m x) hN (nG hi) (aoO (by rw[J.len];show L)) hl M (λx hx=>by rw[if_neg hx]) (λb o R q=>(aa.2 b R).trans q) ?_;let#[o,_,_,ho,_]:=M;show#[o,ho]
 cases f with
 |next=>
  let#[σ',H',J,B]:=q;show g (Inv.oR I.ok J) λG E=>#[_,_,E,B]
 |brk=>
  let#[σ',H',J,B]:=q;show g (Inv.oR I.ok J) λG E=>#[_,_,E,B]
 |cont=>
  let#[σ',H',J,B]:=q;show g (Inv.oR I.ok J) λG E=>#[_,_,E,B]
 |ret u=>
  let#[v,σ',H',J,r,B]:=q;show g (Inv.oR I.ok J) λG E=>#[v,_,_,E,r,B]
end
end _L
namespace _L
open PySem PySem.Spec PyProof.Rows
abbrev LN(sp:Sp)(n:Nat):Prop:=∀vs H Q E,sp vs H Q E->↥vs=n
abbrev BD(cc:Bool)(P:ϲ)(w:Ϯ)(K:ϩ)(mg:MG)(base:ϫ)(k:Nat)(N:List Str)(x:Str)(st:ϧ)(sp:Sp):Prop:=
 ∀(f:δ)(Ϲ:ε)(A:ϴ)(outer:List Env)(s:ν)(H:Hp)(vs:List V)(Q:VK)(E:XK),ϓ cc k (A.deeper (envOfC x (ς st) ⇑s f Ϲ))->sp vs H Q E->let X:=fD cc P w K mg base N x (ς st) f Ϲ A outer s H E;let D:Ends:={nx:=λ_ H'=>Q .non H',rt:=Q};Φ X (ϣ st) D (start N vs) H
section
variable{K:ϩ}{h:ϫ}{mg:MG}(X:K.In h)(G:h.Ns mainGlobals mg){x y m qual fld:Str}{st:ϧ}{f C D:δ}{od an:Option δ}{sl:Array (Option ε)}{oc kV dc pm cd ct:ε}{t:Tok}
include X G
omit X G
include X G
omit X G
end
theorem abe{st:ϧ}{rest:List ϧ}{D:Ends}{σ:St}{H:Hp}(h:let σ':=σ;let a:Ends:={D with nx:=λσ' H'=>Φ X rest D σ' H'};SX X st a σ' H):Φ X (st::rest) D σ H:=qO h
theorem LK{st:ϧ}{D:Ends}{σ:St}{H:Hp}(h:let σ':=σ;SX X st D σ' H):Φ X [st] D σ H:=qC h
end _L
namespace _L
open PySem PySem.Spec PyProof.Rows PySem.W
def tH(k:Int):ε->Bool
 |.int i _=>i==k
 |_=>false
end _L
namespace _L
open PySem PySem.Spec PyProof.Rows PySem.W
section
variable{X:Cx}{σ:St}{H:Hp}{Q:VK}{a:δ}
def aiN{ks:List Int}(hc:X.calm=true)(e:H a=↑(.dK Ϸ))(q:Ϸ.map (·.1)=ks.map Sum.inl)(F:↥ks<=4000)(g:∀(p:δ),H p=none->Q (.ref p) (upd H p (.lst (ks.map V.int)))):CL X (.type "list") [.ref a] H Q:=by
 show cV (r:=λxs H Q=>∃(a:δ)(Ϸ:List (Key×V))(ks:List Int),xs=[.ref a]/\H a=↑(.dK Ϸ)/\Ϸ.map (·.1)=ks.map Sum.inl/\↥ks<=4000/\∀(p:δ),H p=none->Q (.ref p) (upd H p (.lst (ks.map V.int)))) ?_ #[a,Ϸ,ks,rfl,e,q,F,g];intro ϵ s σ H xs us Q I r h;let#[a,Ϸ,ks,rfl,e,q,F,g]:=h;let#[u,rfl,J]:=vals1 r;cases J;let hsz:=ϯ;let#[z,lo,vs,G,hd]:=yO I.hok e;let#[ep,L]:=hd.dictAt;let M:↥Ϸ=↥ks:=by have:=congrArg aqJ q;simpa using this
 let O:=↥G;let C:vs.map (·.1)=ks.map Sum.inl:=by rw[<-G.keys];show q
 show kdl_call (kdl_dict lo) (I.ok.hd hc) L () λh' tk l c m D f=>?_
 let P:↥l.toList=↥vs:=by rw[al9];show f.1
 let R:IntsAre l.toList ks:=by
  show GJ () λj v S=>?_
  let#[k,x,e1,T]:=f.2 j v (by rw[<-aoY];show S);let n:(vs.map (·.1))[j]?=↑k:=by rw[acS,e1];rfl
  rw[C,acS]at n;cases e4:ks[j]? with
  |none=>rw[e4]at n;cases n
  |some i=>
   rw[e4]at n;let B:Sum.inl i=k:= ~~~n
   obtain⟨U,t,E,rfl⟩|⟨y,t,E,_⟩:=jd (k:=k) (v:=v) T
   .rw[E]at B;cases B;show#[i,t,rfl,rfl]
   .rw[E]at B;cases B
 show#[.ref ⇑s,_,I.laid (t':=tk) (o:=.lst (ks.map V.int)) m (Ϭ _) #[by rw[ϰ];omega,l.toList,c,Gf R,~~~D],rfl,g _ (I.hok.fresh (Ϭ _))]
end
end _L
namespace _L
open PySem PySem.Spec PyProof.Rows
section
variable{P:ϲ}{w:Ϯ}{K:ϩ}{mg:MG}{base:ϫ}{cc:Bool}
def Ur{x y:Str}{st:ϧ}{k:Nat}{sp:Sp}(F:Bp K mg y x st)(S:Λ N ps (ς st))(e:∀(kV c pm:ε)(an:Option δ)(a ct:ε)(us:List ε),↥us=↥ps->bindArgs (asS x x (jx st) (ϣ st) (ς st) .none kV c pm an a ct) #[us,[]]=pure (ps.zip us))(len:∀vs H Q E,sp vs H Q E->↥vs=↥ps)(body:∀(f:δ)(a:ε)(A:ϴ)(outer:List Env)(s:ν)(H:Hp)(vs:List V)(Q:VK)(E:XK),ϓ cc k (A.deeper (envOfC x (ς st) ⇑s f a))->sp vs H Q E->
   let X:=fD cc P w K mg base N x (ς st) f a A outer s H E;let D:Ends:={nx:=λ_ H'=>Q .non H',rt:=Q};Φ X (ϣ st) D (start N vs) H):Def P w K mg base cc (k+1) y ps sp:=by
 let#[f,fd,F,g]:=F;show#[f,fd,g,F.kp,F.binds e,xf F S len λa A outer s H vs Q E i h=>body f a A outer s H vs Q E i h]
end
end _L
namespace _L
open PySem PySem.Spec PyProof.Rows PySem.W
def aob{bs:List Bool}{k:Bool}{j:Nat}(h:θ X.K H a (bs.map V.bl))(i:bs[j]?=↑k)(f:∀m b,m<j->bs[m]?=↑b->b≠k)(g:Q (.int j) H):MT X "list.index" (.ref a) [.bl k] H Q:=by
 show iT (r:=λx xs H Q=>∃a bs k j,x=.ref a/\xs=[.bl k]/\θ X.K H a (bs.map V.bl)/\bs[j]?=↑k/\(∀m b,m<j->bs[m]?=↑b->b≠k)/\Q (.int (j:Nat)) H) ?_ #[a,bs,k,j,rfl,rfl,h,i,f,g];intro ϵ s σ H x xs v us Q I rx C h;let#[a,bs,k,j,rfl,rfl,h,i,f,g]:=h;cases rx;let#[u,rfl,D]:=vals1 C;cases(show u=Value.bool k from D);let#[L,r,#[#[cls,dd,z,sl],n,e,hc,hd,hs],E]:=I.list h;simp only at hc hd hs;subst hc hd hs;obtain rfl:=Jx r;rw[ϰ]at E;let hsz:=ϯ;let B:j<↥bs:=(aas.mp i).1;let c:∀(m:Nat)(l:m<(bs.map Value.bool).toArray.size),∃b,bs[m]?=↑b/\(bs.map Value.bool).toArray[m]=.bool b:=λm l=>by
  let o:m<↥bs:= ~~~l
  show#[bs[m],aad o,by simp]
 show ao3 F.slot_list_index #[_,e,rfl] F.entry_list_index (F.args_list_index_2 _ _) (SeqAt.list_indexAt a (bs.map Value.bool).toArray n _ sl (.bool k) (isBoolOf k) j (~~~B) () ?_ ?_) #[e,λy G=>?_,?_]
 .let#[b,e1,p]:=c j (~~~B);rw[p];rw[i]at e1;cases e1;show(k==k)=true;show beq_self_eq_true k
 .intro m l J;let#[b,e1,p]:=c m l;rw[p];show(b==k)=false;show beq_eq_false_iff_ne.mpr (f m b J e1)
 .let q:y∈bs.map Value.bool:= ~~~G
  let#[b,_,rfl]:=ab9.mp q;show SeqAt.EqAt.bool_bool b k
 .show#[.int j,H,I.tok _,#[_,rfl],g]
end _L
namespace _L
open PySem PySem.Spec PyProof.Rows
def subB(h:Q ↑(if b then 1 else 0) s):Ϧ M A (Builtin.List.listSubscript? (.bool b)) Q E s:=by
 unfold Builtin.List.listSubscript?;show π (wpAny_specialOf (T:="bool") (PySem.typeIs_bool s b) F.slot_bool_index.lookup ?_)*>Ϧ M A (asIndex (.bool b)>>=_) Q E s*>π (wpAny_of_eq (a:=(if b then 1 else 0:Int)) (by cases b<;>rfl) ?_)*>Ϧ M A (if(!Builtin.List.listFitsIndex (if b then 1 else 0))=true then _ else _) Q E s;rw[if_neg (by cases b<;>decide)];show ϱ h
def ahy{a:Array ε}{b:Bool}{x:ε}{Q:ε->ν->Prop}(c:s.heap.IsList l a)(e:a[if b then 1 else 0]?=↑x)(h:Q x s):Ϧ (Ϩ prog w) A (getItem (.ref l) (.bool b)) Q E s:=by
 let#[o,f,hc,ne,hd]:=id c;unfold getItem
 try with_reducible show aed ?_
 first|show π (ϱ ?_)|skip
 show π (wpAny_sequenceKey c.typeIs (by decide) ?_);show π (wpAny_callSpecial?_slot (name:=μ "__getitem__") c.typeIs slot_list_getitem
  (wpAny_call_entry slot_list_getitem c.typeIs entry_list_getitem ?_ (args_list_getitem _ _)))
 show Ϧ _ _ (Builtin.List.listSubscript? (.bool b)>>=_) _ _ s*>π (subB ?_);cases b with
 |false=>
  show Ϧ _ _ ((seqItemAt l 0>>=λr=>pure (r.map (0, ·)))>>=_) _ _ s*>π (π (wpAny_seqItemAt f hd (ϱ ?_)));rw[show a[0]?=↑x from e]
  first
   |show π (ϱ (ϱ #[x,rfl,ϱ h]))
   |show ϱ #[x,rfl,ϱ h]
 |true=>
  show Ϧ _ _ ((seqItemAt l 1>>=λr=>pure (r.map (1, ·)))>>=_) _ _ s*>π (π (wpAny_seqItemAt f hd (ϱ ?_)));rw[show a[1]?=↑x from e]
  first
   |show π (ϱ (ϱ #[x,rfl,ϱ h]))
   |show ϱ #[x,rfl,ϱ h]
def ahw{q:δ}{b:Bool}{v:V}(h:θ X.K H q xs)(e:xs[if b then 1 else 0]?=↑v)(g:Q v H):IX X (.ref q) (.bl b) H Q:=by
 show wI (r:=λx y H Q=>∃p xs b v,x=.ref p/\y=.bl b/\θ X.K H p xs/\xs[if b then 1 else 0]?=↑v/\Q v H) ?_ #[q,xs,b,v,rfl,rfl,h,e,g];intro value a ϵ s σ H x y v u Q I rx ry h hs;let#[p,xs,b,z,rfl,rfl,f,i,q]:=h;cases rx;cases(show u=Value.bool b from ry);let#[l,r,pl,m]:=I.list f;let#[w,j,c]:=r.get i;show aqH (x:=w) pl.isList.typeIs slot_list_getitem.lookup
  (ahy (Q:=λr s'=>r=w/\EP X ϵ σ Q r s') pl.isList (~~~j) #[rfl,z,H,I,c,q]) hs
end _L
namespace _L
open PySem PySem.Spec PyProof.Rows PySem.W
def am9(e:θ X.K H a (ks.map V.int))(B:↥ks<64)(g:∀(p:δ)(f:List Int),H p=none->f.Perm ks->f.Pairwise (· <= ·)->Q (.ref p) (upd H p (.lst (f.map V.int)))):CL X (.builtin "sorted") [.ref a] H Q:=by
 show cV (r:=λxs H Q=>∃(a:δ)(ks:List Int),xs=[.ref a]/\θ X.K H a (ks.map V.int)/\↥ks<64/\∀(p:δ)(f:List Int),H p=none->f.Perm ks->f.Pairwise (· <= ·)->Q (.ref p) (upd H p (.lst (f.map V.int)))) ?_ #[a,ks,rfl,e,B,g];intro ϵ s σ H xs us Q I r h;let#[a,ks,rfl,e,B,g]:=h;let#[u,rfl,P]:=vals1 r;cases P;let F:ϳ=16777216:=ϯ;let#[l,G,pl,W]:=I.list e;let C:↥l=↥ks:=by rw[<-↥G,ϰ]
 let R:IntsAre l ks:=GJ C λj v J=>by
  let L:j<↥ks:=by rw[<-C];show(aas.mp J).1
  let#[u,e1,S]:=G.get (i:=j) (x:=V.int ks[j]) (by simp[L]);rw[J]at e1;cases e1;let#[t,rfl]:=S;show#[ks[j],t,aad L,rfl]
 show Calls.call_function_entry kind_sorted plain_sorted entry_sorted (args_sorted1 _) ?_;unfold aos.«sorted»;show π (m:=checkCount "sorted" 1 1 _) (ϱ ?_)*>π (collect_list pl.isList ?_ ())*>π (wpAny_newList ?_ ());let hsz:((s.heap.push (seqObj "list" #v[] 0)).update ⇑s (Obj.mapSeq (· ++l.toArray))).objs.size=⇑s+1:=by
  rw[asK,size_push']
 let n:(((s.heap.push (seqObj "list" #v[] 0)).update ⇑s (Obj.mapSeq (· ++l.toArray))).push (seqObj "list" l.toArray 0)).get? (⇑s+1)=↑(seqObj "list" l.toArray 0):=by
  rw[<-hsz];show acN _ rfl
 let keep:∀b o,s.heap.get? b=↑o->(((s.heap.push (seqObj "list" #v[] 0)).update ⇑s (Obj.mapSeq (· ++l.toArray))).push (seqObj "list" l.toArray 0)).get? b=↑o:=λb o q=>by
  let z:b<⇑s:=adw q;rw[aqZ _ _ _ (by rw[hsz];show adn (apc z)),an7 _ _ _ _ (adn z),aqZ _ _ _ (adn z)];show q
 show Ϧ _ _ _ _ _ {s with heap:=((s.heap.push (seqObj "list" #v[] 0)).update ⇑s (Obj.mapSeq (· ++l.toArray))).push (seqObj "list" l.toArray 0)};rw[hsz];generalize((s.heap.push (seqObj "list" #v[] 0)).update ⇑s (Obj.mapSeq (· ++l.toArray))).push (seqObj "list" l.toArray 0)=h2 at n keep⊢;let y:⇑s<=⇑s+1:=aoW _;generalize ⇑s+1=N at n y⊢;show π (aed (wpAny_call_entry slot_list_sort #[_,n,rfl] entry_list_sort (list_sort_tree n R () λout D T M U=>#[_,rfl,?_]) (args_list_sort _)))*>ϱ #[_,rfl,?_];let#[c,E]:=VN (vs:=l) (out:=out) n;show#[.ref N,_,I.laid (t':=s.toks) (o:=.lst (D.map V.int)) (λb o O=>Xp (adn (adk (adw O) y)) (keep<*O)) y #[by rw[ϰ,M.length_eq];omega,out.toList,c,Gf T,~~~E],rfl,g _ D (I.hok.fresh y) M U]
def afh(M:pD X.prog X.w X.K X.mg X.base bw k x C ps sp)(e:ϓ cc k' X.A)(g:k+1<=k')(a:bw=true->cc=true)(i:bz X Kx)(j:Gl X x)(hd:(x==("__debug__":Str))=false)(h:∀y dx,H y=none->H dx=none->dx≠y->sp [.ref y] (upd (upd H dx (.own y)) y (.ins C dx [])) (λv H2=>v=.non/\Q (.ref y) H2) (Kx σ)):EV X (.Call (.Name x p) [] [] pos) σ H Q:=by
 let#[f,fd,c,l,F]:=M.ex;intro ϵ s I;show akj (fU I j M.at_ ?_ hd)*>atY I.kIn c.kp (PL (us:=[]) c F ((e.mono g).pW a) l i I .nil h)
end _L
set_option compiler.extract_closed false
seal _L.EV _L.ET _L.EW _L.EA _L.SX _L.Φ _L.EG _L.wF _L.EI _L.OP _L.UN _L.CL _L.IX _L.SL _L.MT _L.EJ _L.nY _L.EH
section
open Lean
protected def _Z.q:Term:=⟨mkNode ``Parser.Term.hole #v[mkAtom "_"]⟩
protected def _Z.h (k:Name) (n:Nat):Term:=Syntax.mkApp (mkIdent k) (Array.replicate n _Z.q)
protected def _Z.t (l:List (MacroM (TSyntax `tactic))):MacroM (TSyntax `tactic):=do
 let a<-l.toArray.mapM id
 `(tactic|first $[| $a:tactic]*)
protected def _Z.r (l:List Name):MacroM (TSyntax `tactic):=do
 let a<-l.toArray.mapM λn=>`(tactic|refine $(mkIdent n) ?_)
 `(tactic|with_reducible first $[| $a:tactic]*)
protected def _Z.w (s:String):MacroM (TSyntax `tactic):=`(tactic|walk_at $(Syntax.mkStrLit s))
protected def _Z.b (t:MacroM (TSyntax `tactic)):MacroM Term:=do `(by $(← t):tactic)
protected def _Z.x (n:Name) (l:List Char) (f:Char → MacroM Term):MacroM (TSyntax `tactic):=do `(tactic|exact $(mkIdent n) $(← l.toArray.mapM f)*)
protected def _Z.a0:Char → MacroM Term
 |'r'=>_Z.b `(tactic|rfl)
 |'a'=>_Z.b `(tactic|assumption)
 |'d'=>_Z.b `(tactic|decide)
 |'o'=>_Z.b `(tactic|omega)
 |'q'=>`(?_)
 |'R'=>`(rfl)
 |'D'=>`(⟨by decide,by decide⟩)
 |'O'=>`(⟨by omega,by omega⟩)
 |_=>`(_)
protected def _Z.a:Char → MacroM Term
 |'u'=>_Z.b `(tactic|with_unfolding_all rfl)
 |'x'=>_Z.b (_Z.w "xo")
 |'f'=>_Z.b (_Z.t [`(tactic|decide),`(tactic|omega)])
 |'e'=>_Z.b (_Z.t [_Z.x ``Or.inl ['R'] _Z.a0,_Z.x ``Or.inr ['R'] _Z.a0])
 |'n'=>_Z.b (_Z.t [_Z.x `_L.Xu ['_','d','d'] _Z.a0,`(tactic|rfl)])
 |'i'=>do `(λ_ _=>$(← _Z.a0 'r'))
 |'j'=>do `(λ_=>$(← _Z.a0 'r'))
 |'l'=>do `(Or.inl $(← _Z.a0 'a'))
 |'m'=>_Z.b (_Z.t [_Z.x ``Or.inr ['D'] _Z.a0,_Z.x ``Or.inl ['D'] _Z.a0,_Z.x ``Or.inl ['O'] _Z.a0,_Z.x ``Or.inr ['O'] _Z.a0])
 |'p'=>`(⟨by decide,by decide,by decide⟩)
 |'s'=>`(_L.vB ⟨_,200,rfl,by decide +kernel,by omega,?_⟩)
 |c=>_Z.a0 c
protected def _Z.f (n:Name) (s:String):MacroM (TSyntax `tactic):=do
 let a<-s.toList.toArray.mapM _Z.a
 `(tactic|refine $(mkIdent n) $a*)
protected def _Z.c (j:Name) (l:List Term) (n:Nat) (t:MacroM (TSyntax `tactic)):MacroM (TSyntax `tactic):=do
 let c:=Syntax.mkApp (mkIdent j) (#v[_Z.q] ++ l.toArray ++ Array.replicate n _Z.q)
 `(tactic|((with_reducible change $c); $(← t)))
end
section
open Lean
protected def _Z.B (a b:Name):MacroM (TSyntax `tactic):=do
 `(tactic|refine _L.bU PySem.F.plainAttrs_str $(mkIdent a) $(mkIdent b) (h:=?_))
protected def _Z.E:MacroM (TSyntax `tactic):=do
 let c1<-`((PySem.Expr.Compare _ [_] [_] _))
 let c2<-`((PySem.Expr.Compare _ [_,_] [_,_] _))
 let cl:=_Z.h ``PySem.Expr.Call 4
 let nm:=_Z.h ``PySem.Expr.Name 2
 let sb:=_Z.h ``PySem.Expr.Subscript 3
 let k1<-`(($(_Z.h ``PySem.Expr.Constant 3) :: _))
 let k2<-`(($(_Z.h ``PySem.Expr.FormattedValue 4) :: _))
 _Z.t [
  _Z.c `_L.EV [] 4 (_Z.t [
   _Z.c `_L.EV [nm] 3 (_Z.t [_Z.f `_L.anG "rq",_Z.f `_L.ajb "arqd",_Z.f `_L.ahi "rraq"]),
   _Z.r [`_L.acY,`_L.vB,`_L.ahU],
   _Z.c `_L.EV [cl] 3 (_Z.t [
    _Z.c `_L.EV [Syntax.mkApp (mkIdent ``PySem.Expr.Call) #v[nm,_Z.q,_Z.q,_Z.q]] 3 (_Z.t [_Z.f `_L.akH "rrarrq",_Z.f `_L.afz "rrarrq",_Z.f `_L.agt "aafdrxdrrq",_Z.f `_L.aqo "aafdrxdq"]),
    _Z.B ``PySem.F.slot_str_join ``PySem.F.type_str_join,_Z.B ``PySem.F.slot_str_index ``PySem.F.type_str_index,_Z.B ``PySem.F.slot_str_startswith ``PySem.F.type_str_startswith]),
   _Z.c `_L.EV [c1] 3 (_Z.f `_L.aj2 "nq"),
   _Z.c `_L.EV [c2] 3 (_Z.f `_L.alW "uq"),
   _Z.r [`_L.ana,`_L.ahK,`_L.aeW],
   _Z.c `_L.EV [sb] 3 (_Z.f `_L.adv "iq"),
   _Z.r [`_L.aeM,`_L.ahk,`_L.acU,`_L.alS,`_L.agU,`_L.ajx,`_L.Zo,`_L.ahu,`_L.ajn]]),
  _Z.c `_L.EA [] 4 (_Z.t [_Z.r [`_L.fW],_Z.f `_L.jn "rq"]),
  _Z.c `_L.ET [] 4 (_Z.t [
   _Z.c `_L.ET [c1] 3 (_Z.f `_L.akI "nq"),
   _Z.c `_L.ET [c2] 3 (_Z.f `_L.agM "uq"),
   _Z.r [`_L.ank],
   _Z.c `_L.ET [_Z.h ``PySem.Expr.BoolOp 3] 3 (_Z.f `_L.ajc "q"),
   _Z.c `_L.ET [nm] 3 (_Z.f `_L.VP "jq"),_Z.c `_L.ET [cl] 3 (_Z.f `_L.VP "jq"),_Z.c `_L.ET [sb] 3 (_Z.f `_L.VP "jq"),_Z.c `_L.ET [_Z.h ``PySem.Expr.Constant 3] 3 (_Z.f `_L.VP "jq")]),
  _Z.c `_L.EW [] 4 (_Z.r [`_L.alC,`_L.aml,`_L.afx,`_L.aiT]),
  _Z.c `_L.EO [] 4 (_Z.r [`_L.aoh,`_L.alu]),
  _Z.c `_L.nY [] 5 (_Z.t [
   _Z.c `_L.nY [k1] 4 (_Z.f `_L.QR "s"),
   _Z.c `_L.nY [k2] 4 (_Z.f `_L.QR "q"),
   _Z.f `_L.aeG "oq"])]
protected def _Z.O:MacroM (TSyntax `tactic):=_Z.r [`_L.ahS,`_L.am7,`_L.aji,`_L.afO,`_L.aek,`_L.acJ,`_L.agv,`_L.ak1,`_L.apW,`_L.amS,`_L.aqB,`_L.aj7,`_L.aqt,`_L.anb,`_L.aqX,`_L.aqQ]
protected def _Z.P:MacroM (TSyntax `tactic):=do
 let i:=_Z.h `_L.V.int 1
 let c (n:Name):Term:=Syntax.mkApp (mkIdent ``PySem.compareOp) #v[mkIdent n]
 let b (n:Name):Term:=Syntax.mkApp (mkIdent ``PySem.binaryOp) #v[mkIdent n]
 let v (s:String):Term:=Syntax.mkApp (mkIdent ``PySem.Value.builtin) #v[Syntax.mkStrLit s]
 let r<-`([_L.V.ref _])
 let z<-`([_L.V.str _])
 _Z.t [
  _Z.c `_L.OP [c ``PySem.CmpOp.Eq] 4 (_Z.f `_L.aev "rq"),
  _Z.c `_L.OP [c ``PySem.CmpOp.NotEq] 4 (_Z.f `_L.akx "rq"),
  _Z.c `_L.OP [b ``PySem.Operator.Mod,i,i] 2 (_Z.f `_L.agK "fq"),
  _Z.c `_L.OP [b ``PySem.Operator.Mult,i,i] 2 (_Z.f `_L.aiV "mq"),
  _Z.c `_L.OP [b ``PySem.Operator.Pow,i,i] 2 (_Z.f `_L.aaj "pq"),
  _Z.c `_L.CL [v "len",r] 2 (_Z.f `_L.HQ "lq"),
  _Z.c `_L.CL [v "len",z] 2 (_Z.f `_L.ac3 "oq"),
  _Z.c `_L.CL [v "ord",z] 2 (_Z.f `_L.acE "q"),
  _Z.c `_L.CL [v "isinstance"] 3 (_Z.t [`(tactic|refine _L.ZZ (k:=false) ?_),`(tactic|refine _L.ZZ (k:=true) ?_)])]
protected def _Z.T:MacroM (TSyntax `tactic):=do
 let f (c:Term):MacroM (TSyntax `tactic):=`(tactic|((with_reducible change $c); refine ⟨_,rfl,?_⟩))
 _Z.t [_Z.r [`_L.amg],_Z.r [`_L.agL],_Z.r [`_L.agZ],_Z.r [`_L.an8],
  _Z.r [`_L.aiY,`_L.aki,`_L.acf,`_L.amz,`_L.aoq,`_L.aiz,`_L.arN,`_L.aot,`_L.apF,`_L.apd],
  do f (← `(∃ k,_L.V.bl _ = _L.V.bl k ∧ _)),do f (← `(∃ k,_L.Hd _ (_L.V.bl _) _ k ∧ _)),do f (← `(∃ i,_L.V.int _ = _L.V.int i ∧ _)),
  `(tactic|((with_reducible change _L.u5 _ _ (_L.V.str _) _ ∧ _); refine ⟨by rfl,?_⟩))]
protected def _Z.S:MacroM (TSyntax `tactic):=do
 let a<-`((PySem.Stmt.Assign [PySem.Expr.Name _ _] _ _))
 _Z.t [_Z.r [`_L.Γ],`(tactic|((with_reducible refine _L.LK ?_); intro _)),`(tactic|((with_reducible refine _L.abe ?_); intro _ _)),
  _Z.r [`_L.ρ,`_L.ar7,`_L.ar4,`_L.Θ],
  _Z.c `_L.SX [a] 3 (_Z.f `_L.amO "arereq"),
  _Z.c `_L.SX [_Z.h ``PySem.Stmt.Expr 2] 3 (_Z.f `_L.Ϡ "q")]
end
local macro_rules|`(tactic|walk_at "xo")=>`(tactic|first|exact _L.Β|assumption|exact _L.S8 rfl)
local macro_rules|`(tactic|walk_at "po")=>`(tactic|first|exact _L.anB|assumption|exact PySem.PassesOwn.never)
local macro_rules|`(tactic|walk_at "cb")=>_Z.f `_L.akH "rrarrq"
local macro_rules|`(tactic|walk_at "e")=>_Z.E
local macro_rules|`(tactic|walk_at "t")=>_Z.T
local macro_rules|`(tactic|walk_at "c")=>`(tactic|(refine _L.abe ?_; intro _ _))
local macro_rules|`(tactic|walk_at "n")=>`(tactic|(refine _L.LK ?_; intro _))
local macro_rules|`(tactic|walk_at "s")=>_Z.S
local macro_rules|`(tactic|walk_at "go")=>do
 let x<-_Z.t [_Z.E,_Z.O,_Z.P,_Z.T,_Z.S]
 `(tactic|repeat' ($x:tactic))
local macro_rules|`(tactic|walk_at "ex")=>do
 let x<-_Z.t [_Z.E,_Z.O,_Z.P,_Z.T]
 `(tactic|repeat' ($x:tactic))
namespace _L
theorem alI{α:Type}{us:List α}(h:↥us=1):∃a,us=[a]:=match us,h with|[a],_=>#[a,rfl]
theorem adW{α:Type}{us:List α}(h:↥us=2):∃a b,us=[a,b]:=match us,h with|[a,b],_=>#[a,b,rfl]
theorem aaz{α:Type}{us:List α}(h:↥us=3):∃a b c,us=[a,b,c]:=match us,h with|[a,b,c],_=>#[a,b,c,rfl]
theorem aht{α:Type}{us:List α}(h:↥us=4):∃a b c d,us=[a,b,c,d]:=match us,h with|[a,b,c,d],_=>#[a,b,c,d,rfl]
theorem anD{α:Type}{us:List α}(h:↥us=5):∃a b c d e,us=[a,b,c,d,e]:=match us,h with|[a,b,c,d,e],_=>#[a,b,c,d,e,rfl]
theorem agk{α:Type}{us:List α}(h:↥us=6):∃a b c d e f,us=[a,b,c,d,e,f]:=match us,h with|[a,b,c,d,e,f],_=>#[a,b,c,d,e,f,rfl]
end _L
open Lean Parser.Tactic in
local macro_rules|`(tactic|walk_at "bb")=>_Z.t ([(1,`_L.alI),(2,`_L.adW),(3,`_L.aaz),(4,`_L.aht),(5,`_L.anD),(6,`_L.agk)].map λ(n,x)=>do
 let p<-`(rcasesPatLo|_)
 let q:=Array.replicate n p
 `(tactic|(intro _ _ _ _ _ _ us hl;obtain ⟨$q,*,e⟩:=$(mkIdent x) hl;subst e;rfl)))
local macro_rules | `(tactic| walk_at "ln") => `(tactic| (intro _ _ _ _ h; cases h; subst_vars; rfl))
local macro_rules | `(tactic| walk_at "A") => `(tactic| (walk_at "c"; walk_at "s"; walk_at "ex"))
namespace _K
open PySem _L PyProof.Rows
abbrev ac6:List Str:=["self","row","values","was"]
def Qn:Λ ac6 ["self","row","values"] (ς yp):=by room
abbrev ak4:List Str:=["self","moment","rows","deed"]
def abq:Λ ak4 ["self","moment"] (ς Ia):=by room
abbrev anc:List Str:=["self","moment","behind"]
def aab:Λ anc ["self","moment"] (ς yM):=by room
abbrev ai7:List Str:=["self","row","verb","words"]
def Ss:Λ ai7 ["self","row"] (ς Gm):=by room
abbrev adH:List Str:=["self","words"]
def Sy:Λ adH ["self","words"] (ς BR):=by room
abbrev ag2:List Str:=["self","verb","words","row","book","values"]
def Nb:Λ ag2 ["self","verb","words"] (ς Dw):=by room
abbrev afW:List Str:=["self","words","row"]
def aaa:Λ afW ["self","words"] (ς JK):=by room
abbrev afg:List Str:=["self","verb","words","make","size","order","sieve"]
def zZ:Λ afg ["self","verb","words"] (ς zK):=by room
abbrev aci:List Str:=["self","verb","words","size","mark"]
def Aj:Λ aci ["self","verb","words"] (ς Aq):=by room
abbrev aiS:List Str:=["self","words","size","number","order","sieve"]
def U6:Λ aiS ["self","words"] (ς Lp):=by room
abbrev ail:List Str:=["self","words","moment"]
def T9:Λ ail ["self","words"] (ς Jj):=by room
abbrev afi:List Str:=["self","words","moment","order","sieve"]
def Bf:Λ afi ["self","words"] (ς qI):=by room
abbrev ajg:List Str:=["self","at"]
def anR:Λ ajg ["self","at"] (ς Vj):=by room
abbrev alJ:List Str:=["self","now"]
def amt:Λ alJ ["self","now"] (ς abl):=by room
abbrev alF:List Str:=["self","row"]
def abL:Λ alF ["self","row"] (ς Wy):=by room
abbrev ajU:List Str:=["self","row"]
def amG:Λ ajU ["self","row"] (ς Rq):=by room
abbrev akQ:List Str:=["self","known"]
def amH:Λ akQ ["self","known"] (ς Wk):=by room
abbrev ah0:List Str:=["word","most","number"]
def Qh:Λ ah0 ["word","most"] (ς HR):=by room
abbrev aec:List Str:=["word","below","number"]
def V4:Λ aec ["word"] (ς Cz):=by room
abbrev amW:List Str:=["word"]
def Uh:Λ amW ["word"] (ς GC):=by room
abbrev ai8:List Str:=["columns","name","kind","names"]
def X7:Λ ai8 ["columns"] (ς J8):=by room
abbrev af7:List Str:=["columns","name","place","column"]
def Oc:Λ af7 ["columns","name"] (ς Oe):=by room
abbrev ahJ:List Str:=["columns","row","values"]
def Wq:Λ ahJ ["columns","row","values"] (ς JT):=by room
abbrev ac9:List Str:=["columns","word","sign","name"]
def aac:Λ ac9 ["columns","word"] (ς YD):=by room
abbrev aej:List Str:=["columns","text","words","order","names"]
def Zb:Λ aej ["columns","text"] (ς Bs):=by room
abbrev Yw:List Str:=["rows","place","up","rank"]
def XF:Λ Yw ["rows","place","up"] (ς ym):=by room
abbrev Ye:List Str:=["columns","order","rows","line","name","up"]
def Xv:Λ Ye ["columns","order","rows"] (ς Ad):=by room
abbrev YC:List Str:=["columns","words","place","column"]
def Oj:Λ YC ["columns","words","place"] (ς Di):=by room
abbrev ag0:List Str:=["kind","words","place","word","value"]
def Tt:Λ ag0 ["kind","words","place"] (ς Ve):=by room
abbrev aky:List Str:=["columns","words","start","column"]
def aa1:Λ aky ["columns","words","start"] (ς Ud):=by room
abbrev ac5:List Str:=["columns","words","start","word","column","kind","value","text"]
def XR:Λ ac5 ["columns","words","start"] (ς ZV):=by room
abbrev ad4:List Str:=["columns","words","start","within","word","one","behind","other","text"]
def Av:Λ ad4 ["columns","words","start","within"] (ς Rj):=by room
abbrev amZ:List Str:=["columns","words","start","within","word"]
def oA:Λ amZ ["columns","words","start","within"] (ς Xy):=by room
abbrev aik:List Str:=["columns","text","words","sieve","behind"]
def yt:Λ aik ["columns","text"] (ς Ug):=by room
abbrev aog:List Str:=["book","order","sieve","moment","columns","ordered","through","keys","row","values","made","was","now"]
def yR:Λ aog ["book","order","sieve","moment"] (ς GQ):=by room
abbrev ajv:List Str:=["text","total","power","sign"]
def PN:Λ ajv ["text"] (ς Y4):=by room
abbrev agj:List Str:=["letter","make"]
def aaB:Λ agj ["letter"] (ς TX):=by room
abbrev aiK:List Str:=["word","most","number"]
def Bv:Λ aiK ["word","most"] (ς WK):=by room
abbrev ajw:List Str:=["columns","order","text","side","words","row","kinds"]
def Pb:Λ ajw ["columns","order","text"] (ς Fo):=by room
abbrev ad0:List Str:=["columns","body","parts","make","moment","order","sieve"]
def yX:Λ ad0 ["columns","body"] (ς Zw):=by room
abbrev aje:List Str:=["columns","text","body","stop","check"]
def tK:Λ aje ["columns","text"] (ς Nx):=by room
abbrev acR:List Str:=["row","values","untouched","words"]
def UJ:Λ acR ["row","values","untouched"] (ς U7):=by room
abbrev adt:List Str:=["leaf","rows","back","forth","many","ahead","moment","here","page","row","values","untouched"]
def Ml:Λ adt ["leaf"] (ς Yj):=by room
abbrev am0:List Str:=["columns","order","line","cut","start","stop","here","back","forth"]
def Vy:Λ am0 ["columns","order","line","cut","start","stop"] (ς Gk):=by room
abbrev amy:List Str:=["columns","order","line","cut","size","start"]
def Vu:Λ amy ["columns","order","line","cut","size"] (ς Ql):=by room
abbrev afA:List Str:=["columns","order","line","cut","size","stop"]
def SJ:Λ afA ["columns","order","line","cut","size"] (ς Yc):=by room
abbrev ai9:List Str:=["book","order","sieve","size","number","columns","ordered","through","line","ahead","rows"]
def Z3:Λ ai9 ["book","order","sieve","size","number"] (ς KJ):=by room
abbrev adO:List Str:=["book","make","begin","sieve","rows"]
def M9:Λ adO ["book","make","begin","sieve"] (ς CW):=by room
abbrev ac8:List Str:=["book","mark","size","onward","make","begin","order","text","cut","columns","line","here","back","forth","ahead","rows","moment"]
def BV:Λ ac8 ["book","mark","size","onward"] (ς wK):=by room
abbrev amu:List Str:=["book","make","order","sieve","size"]
def Q3:Λ amu ["book","make","order","sieve","size"] (ς Uo):=by room
abbrev adQ:List Str:=["book","make","order","sieve","size"]
def Ub:Λ adQ ["book","make","order","sieve","size"] (ς Mq):=by room
abbrev anZ:List Str:=["book","text","mark"]
def yr:Λ anZ ["book","text"] (ς ZC):=by room
abbrev ai6:List Str:=["book","mark","size"]
def aai:Λ ai6 ["book","mark","size"] (ς aar):=by room
abbrev alp:List Str:=["book","mark","size"]
def Zi:Λ alp ["book","mark","size"] (ς Zr):=by room
abbrev agf:List Str:=["word","number"]
def Ou:Λ agf ["word"] (ς U4):=by room
abbrev P0:List Str:=["word","parts"]
def aay:Λ P0 ["word"] (ς De):=by room
abbrev afM:List Str:=["columns","words"]
def R4:Λ afM ["columns","words"] (ς aat):=by room
abbrev am3:List Str:=["words","place"]
def Lz:Λ am3 ["words"] (ς Zt):=by room
abbrev alB:List Str:=["_law_script","_law_k","_law_many","_law_cell","_law_seed"]
def QZ:Λ alB ["_law_script","_law_k","_law_many"] (ς UG):=by room
abbrev aiw:List Str:=["_law_caught","_law_marks"]
def W3:Λ aiw ["_law_caught"] (ς Q4):=by room
abbrev anU:List Str:=["_law_desk","_law_row_here","_law_told","_law_caught","e"]
def TV:Λ anU ["_law_desk","_law_row_here"] (ς Wl):=by room
abbrev ahF:List Str:=["_law_text","_law_total","_law_power","_law_letter"]
def Yg:Λ ahF ["_law_text"] (ς aak):=by room
abbrev adU:List Str:=["_law_rows","_law_moment","_law_texts","_law_row_here"]
def Zd:Λ adU ["_law_rows","_law_moment"] (ς Uu):=by room
abbrev acQ:List Str:=["_law_desk","_law_rows","_law_moment","_law_before","_law_row_here","_law_stays"]
def aaw:Λ acQ ["_law_desk","_law_rows","_law_moment","_law_before"] (ς BX):=by room
abbrev K6:List Str:=["_law_script","_law_desk","_law_rows","_law_moment","_law_k","_law_row_here","_law_word","_law_before"]
def Q7:Λ K6 ["_law_script","_law_desk","_law_rows"] (ς qN):=by room
abbrev am1:List Str:=["_law_script","_law_k","_law_rows","_law_way","_law_row_here"]
def Wc:Λ am1 ["_law_script","_law_k","_law_rows","_law_way"] (ς PJ):=by room
abbrev yw:List Str:=["_law_script","_law_k","_law_moment","_law_oldest","_law_way","_law_order","_law_sieve","_law_due","_law_size","_law_head","_law_asked","_law_ends"]
def Vh:Λ yw ["_law_script","_law_k","_law_moment","_law_oldest","_law_way"] (ς nu):=by room
abbrev Wa:List Str:=["_law_script","_law_k","_law_moment","_law_oldest","_law_way","_law_size","_law_head","_law_asked","_law_make","_law_mark","_law_wrong"]
def Xh:Λ Wa ["_law_script","_law_k","_law_moment","_law_oldest","_law_way"] (ς Bb):=by room
abbrev alf:List Str:=["_law_script","_law_k","_law_rows","_law_moment","_law_oldest","_law_way","_law_some"]
def Wz:Λ alf ["_law_script","_law_k","_law_rows","_law_moment","_law_oldest"] (ς abb):=by room
abbrev ahQ:List Str:=["_law_script","_law_desk","_law_rows","_law_moment","_law_oldest","_law_k","_law_row_here","_law_due"]
def RZ:Λ ahQ ["_law_script"] (ς zq):=by room
section
variable{P:ϲ}{w:Ϯ}{K:ϩ}{mg:MG}{base:ϫ}{cc:Bool}{k:Nat}{sp:Sp}
theorem anY(T:Txt K mg)(l:LN sp 3)(b:BD cc P w K mg base k YC "read_column" Di sp):Def P w K mg base cc (k+1) "read_column_sifting" ["columns","words","place"] sp:=Ur T.yc Oj (by walk_at"bb") l (by assumption)
theorem ahG(T:Txt K mg)(l:LN sp 1)(b:BD cc P w K mg base k P0 "read_column" De sp):Def P w K mg base cc (k+1) "read_column_desk" ["word"] sp:=Ur T.Ei aay (by walk_at"bb") l (by assumption)
def Gj(T:Txt K mg):mU P w K mg base cc 1 "NoSieve" "at":=by
 show uL T.xQ anR (by walk_at"bb") rfl (λf l A outer s H vs Q E hi m h=>?_);let#[e,n,rfl,a,c,q]:=h;let hsz:=ϯ;show qO (Ϡ ?_)*>v7 (pl:=_) T.pA.toXBase ?_;cbv;show gm ?_;f_are;show#[n,rfl,_V.Ϥ a,_,70,rfl,_V.mL a,(),?_];cbv;intro p;show fW (uV hi c ?_)*>qC (uN T.xQ.sa T.xQ.xc T.xQ.tk ?_);f_are;f_are;show#[e,rfl,c,λD g i=>q D _ i g (λb o j r=>?_) υ ?_]
 .rw[ξ j,ξ (ϔ r g)];show r
 .rw[ξ i,υ]
def QK(T:Txt K mg):mU P w K mg base cc 1 "Later" "now":=by
 show uL T.zc amt (by walk_at"bb") rfl (λf l A outer s H vs Q E hi m h=>?_);let#[e,n,rfl,a,c,q]:=h;let hsz:=ϯ;show qO (Ϡ ?_)*>v7 (pl:=_) T.pA.toXBase ?_;cbv;show gm ?_;f_are;show#[n,rfl,_V.Ϥ a,_,70,rfl,_V.mL a,(),?_];cbv;intro p;show fW (uV hi c ?_)*>qC (uN T.zc.sa T.zc.xc T.zc.tk ?_);f_are;f_are;show#[e,rfl,c,λD g i=>q D _ i g (λb o j r=>?_) υ ?_]
 .rw[ξ j,ξ (ϔ r g)];show r
 .rw[ξ i,υ]
def akJ(T:Txt K mg):mU P w K mg base cc 1 "Absent" "row":=by
 show uL T.yG abL (by walk_at"bb") rfl (λf l A outer s H vs Q E hi m h=>?_);let#[e,n,rfl,a,c,q]:=h;let hsz:=ϯ;show qO (Ϡ ?_)*>v7 (pl:=_) T.pA.toXBase ?_;cbv;show gm ?_;f_are;show#[n,rfl,_V.Ϥ a,_,70,rfl,_V.mL a,(),?_];cbv;intro p;show fW (uV hi c ?_)*>qC (uN T.yG.sa T.yG.xc T.yG.tk ?_);f_are;f_are;show#[e,rfl,c,λD g i=>q D _ i g (λb o j r=>?_) υ ?_]
 .rw[ξ j,ξ (ϔ r g)];show r
 .rw[ξ i,υ]
def abN(T:Txt K mg):mU P w K mg base cc 1 "Twice" "row":=by
 show uL T.Cp amG (by walk_at"bb") rfl (λf l A outer s H vs Q E hi m h=>?_);let#[e,n,rfl,a,c,q]:=h;let hsz:=ϯ;show qO (Ϡ ?_)*>v7 (pl:=_) T.pA.toXBase ?_;cbv;show gm ?_;f_are;show#[n,rfl,_V.Ϥ a,_,70,rfl,_V.mL a,(),?_];cbv;intro p;show fW (uV hi c ?_)*>qC (uN T.Cp.sa T.Cp.xc T.Cp.tk ?_);f_are;f_are;show#[e,rfl,c,λD g i=>q D _ i g (λb o j r=>?_) υ ?_]
 .rw[ξ j,ξ (ϔ r g)];show r
 .rw[ξ i,υ]
def afj(T:Txt K mg):mU P w K mg base cc 1 "Gone" "known":=by
 show uL T.yN amH (by walk_at"bb") rfl (λf l A outer s H vs Q E hi m h=>?_);let#[e,n,rfl,a,c,q]:=h;let hsz:=ϯ;show qO (Ϡ ?_)*>v7 (pl:=_) T.pA.toXBase ?_;cbv;show gm ?_;f_are;show#[n,rfl,_V.Ϥ a,_,70,rfl,_V.mL a,(),?_];cbv;intro p;show fW (uV hi c ?_)*>qC (uN T.yN.sa T.yN.xc T.yN.tk ?_);f_are;f_are;show#[e,rfl,c,λD g i=>q D _ i g (λb o j r=>?_) υ ?_]
 .rw[ξ j,ξ (ϔ r g)];show r
 .rw[ξ i,υ]
end
end _K
namespace _K
open PySem _L PyProof.Rows _M _V _W
section
variable{P:ϲ}{w:Ϯ}{K:ϩ}{mg:MG}{base:ϫ}
def nQ:Def 1 "_law_draw" ["_law_script","_law_k","_law_many"] (Yz K):=by
 exists QZ,nQ,n,#[a,ns,k,m,rfl,i,o,j,l,p,q],n1.bY,2;let g:↥(ns.map V.int)=↥ns:=ϰ ..;w_up;cbv;rw[g];let f:∀c:Int,c=zX ns k->Q (.int ((c % 1000003+31*k*k+1)*48271 % 999983*7919 % 524287 % m)) H:=λc e=>by rw[e];show q
 show Μ (λh=>?_) (λh=>?_)
 .cbv;rw[g];cbv;show ϐ i (ah6 0 (anp _ ()) (ak5 _ ())) ?_;cbv;show f _ (by unfold zX;rw[if_pos ()])
 .cbv;show f _ (by unfold zX;rw[if_neg ()])
inductive Qe(K:ϩ)(mg:MG):Sp
 |mk (a:δ) (ws:List Str) (p:Nat):vs=[.ref a,.int p]->θ K H a (ws.map V.str)->↥ws<=4000->p<=100000->(¬(p<↥ws/\p<60)->∀e H',ζ H H'->H' e=↑(.xd [("at",.int p)])->E (.ref (η mg "NoSieve")) (↑e,true) H')->(∀z,ws[p]?=↑z->p<60->Q (.str z) H)
def ni:Def 3 "word_at" ["words","place"] (Qe K mg):=by
 exists ["words","place"],ni,i,#[a,ws,p,rfl,j,s,hp,c,q],n1.bY,u.aca;let l:↥(ws.map V.str)=↥ws:=ϰ ..;let rest:¬(p<↥ws/\p<60)->Φ X [jW (Jq (jW (ϣ CG) 0)) 0] {nx:=λσ' H'=>Φ X ((ϣ CG).drop 1) {nx:=λ_ H'=>Q .non H',rt:=Q} σ' H',rt:=Q} [↑(.ref a),↑(.int p)] H:=by
  intro m;f_len;show qF (Gj T (cc:=true)) i (λ_=>rfl) Β ?_;cbv;show#[p,rfl,(),λe H' n o=>c m e H' n o]
 w_up;cbv;rw[l];show Μ (λh=>?_) (λh=>?_)
 .show rest ()
 .cbv;show Μ (λh2=>?_) (λh2=>?_)
  .show rest ()
  .cbv;let f:p<↥ws:=()
   let g:ws[p]?=↑ws[p]:=aad f;show ϐ j (bH (by rw[acS,g];rfl)) ?_*>q _ g ()
def eO(ws:List Str)(s b:Nat):Str:=ϭ " " ((ws.drop s).take (b-s))
inductive Vi(K:ϩ):Sp
 |mk (a:δ) (ws:List Str) (s b:Nat):vs=[.ref a,.int s,.int b]->θ K H a (ws.map V.str)->↥ws<=4000->(∀z∈ws,↥z<=1000)->s<=b->b<=↥ws->(∀H',ζ H H'->Q (.str (eO ws s b)) H')
theorem iH:∀{l:List Str},(∀z∈l,↥z<=1000)->(l.map (·.length)).sum<=↥l*1000
 |[],_=>by simp
 |z::l,h=>by
  let h1:=iH (l:=l) λy a=>h y (by simp[a])
  let h2:=h z (by simp);simp only[adY,aqC,acz];omega
def Bu:Def 1 "text_between" ["words","start","behind"] (Vi K):=by
 exists ["words","start","behind"],Bu,u,#[a,ws,i,j,rfl,g,v,m,n,x,q];let o:↥(" ":Str)=1:=by fin2
 let hsz:=ϯ;symm;cbv;show eN g λp hp=>?_
 let e:bL (ws.map V.str) ↑(i:Int) ↑(j:Int)=((ws.drop i).take (j-i)).map V.str:=by
  unfold bL;let c:↥(ws.map V.str)=↥ws:=ϰ ..;let e1:_H.ό ↥(ws.map V.str) 0 ↑(i:Int)=i:=by
   rw[c];unfold _H.ό;split
   .rename_i h;cases h
   .rename_i h;cases h;rw[if_neg ()];omega
  let s:_H.ό ↥(ws.map V.str) ↥(ws.map V.str) ↑(j:Int)=j:=by
   rw[c];unfold _H.ό;split
   .rename_i h;cases h
   .rename_i h;cases h;rw[if_neg ()];omega
  rw[e1,s, <-List.map_drop, <-List.map_take]
 rw[e];let#[f,ep,H,p,H2]:=Ρ hp (.lst (((ws.drop i).take (j-i)).map V.str));cbv;show iV (θ.of ep) ?_ (q H2 f);let h1:=iH (l:=(ws.drop i).take (j-i)) λz h=>m z (ali (ar5 h))
 let h2:↥((ws.drop i).take (j-i))<=4000:=by
  rw[aoz,ahH];omega
 rw[o];omega
def agR:∀{i:Nat}{c:ο}(j:Nat),cs[i]?=↑c->(∀k c,k<i->cs[k]?=↑c->¬c.1=z)->c.1=z->ig cs z j=.int ((j+i:Nat):Int):=by
 induction cs with
 |nil=>intro i c j e;simp at e
 |cons d r f=>
  intro i c j e h a;unfold ig;cases i with
  |zero=>
   simp at e;subst e;rw[if_pos a];rfl
  |succ i=>
   rw[if_neg (h 0 d () rfl)];rw[f (j+1) (~~~e) (λk c l g=>h (k+1) c () (~~~g)) a]
   congr 2
   omega
def abv:∀(j:Nat),(∀c∈cs,¬c.1=z)->ig cs z j=.non:=by
 induction cs with
 |nil=>intro j h;rfl
 |cons d r a=>
  intro j h;unfold ig;rw[if_neg (h d (by simp)),a (j+1) λc hc=>h c (by simp[hc])]
def oJ:Def 1 "place_of" ["columns","name"] Ze:=by
 exists Oc,oJ,G,#[a,cs,z,rfl,#[vs,y,f],q],n1.agJ,2;w_up;show afY (by walk_at"po") (by rfl) (by rfl) n1 (by rfl) ?_;cbv;show#[a,vs,rfl,y,λi σ H'=>(∃n p,σ=[↑(.ref a),↑(.str z),n,p])/\ζ H H'/\∀k c,k<i->cs[k]?=↑c->¬c.1=z,#[#[none,none,rfl],ζ.refl _,λk c j=>()],λi σ H' hi g=>.inl (.inl (g.2.1<*y)),λi x s σ H' C g D=>?_,λσ H' g=>?_]
 .let#[#[n,p,rfl],u,l]:=g;let#[c,hc,t,rfl,F]:=f.get C;let m :=u<|>(ζ.upd (o:=.tup [.int i,.ref t]) D);let B:(upd H' s (.tup [.int i,.ref t])) s=↑(.tup [.int i,.ref t]):=υ;generalize upd H' s (.tup [.int i,.ref t])=H2 at m B⊢;show ϟ (Δ.of B) (Η (ω nd (Η (ω nd (Ϣ ?_)))));f_len;cbv;show gZ (Δ.of (m<*F)) (show Ϛ [V.str c.1,V.str c.2] 0=↑(V.str c.1)from rfl) ?_;cbv;show Μ (λh=>?_) (λh=>?_)
  .let v:c.1=z:=by injection h
   cbv;have:=agR 0 hc l v;rw[anF]at this;rw[<-this];show q H2 m
  .let v:¬c.1=z:=λe=>h (by rw[e])
   cbv;show#[#[_,_,rfl],m,λk d j hd=>?_];by_cases e:k=i
   .subst e;rw[hc]at hd;cases hd;show v
   .show l k d () hd
 .let#[#[n,p,rfl],u,l]:=g;f_len;cbv;have:=abv (cs:=cs) (z:=z) 0 λc hc=>by
   let#[k,j,e]:=apQ hc;show l k c (by rw[f.len];show j) (by rw[<-e];show aad j)
  rw[<-this];show q H' u
def il(cs:List ο)(ws:List Str)(p:Nat):Option Nat:=if p<60 then match ws[p]? with
 |none=>none
 |some z=>if cs.any (λc=>decide (c.1=z))=true then some (ϑ cs z)else none
 else none
inductive Yu(K:ϩ)(mg:MG):Sp
 |mk (b:δ) (cs:List ο) (a:δ) (ws:List Str) (p:Nat):vs=[.ref b,.ref a,.int p]->aj H b cs->θ K H a (ws.map V.str)->↥ws<=4000->p<=100000->(il cs ws p=none->∀e H',ζ H H'->H' e=↑(.xd [("at",.int p)])->E (.ref (η mg "NoSieve")) (↑e,true) H')->(∀i H',ζ H H'->il cs ws p=↑i->Q (.int (i:Nat)) H')
def yc:Def 4 "read_column_sifting" ["columns","words","place"] (Yu K mg):=by
 show anY T (λvs H Q E h=>by let#[b,cs,a,ws,p,rfl,_]:=h;rfl) (λ_ _ _ _ _ H vs Q E o h=>?_);intro X _;let#[b,cs,a,ws,p,rfl,s,u,v,hp,f,q]:=h;let nd:=Oj.nd;let y:=!oJ;let B:=!ni;w_up;cbv;show#[a,ws,p,rfl,u,v,hp,λC e H' i l=>f ?_ e H' i l,λz n g=>?_]
 .unfold il;by_cases g:p<60
  .rw[if_pos g,aro ()]
  .rw[if_neg g]
 .cbv;show#[b,cs,z,rfl,s,λH2 i=>?_];by_cases j:∃c∈cs,c.1=z
  .let e:il cs ws p=↑(ϑ cs z):=by
    unfold il;rw[if_pos g,n];show if_pos (by rw[amJ];let#[c,hc,e]:=j;show#[c,hc,decide_eq_true e])
   rw[wX 0 j,anF];cbv;show q _ H2 i e
  .let e:il cs ws p=none:=by
    unfold il;rw[if_pos g,n];show if_neg (by rw[amJ];rintro⟨c,hc,e⟩;show j #[c,hc,of_decide_eq_true e])
   rw[abv 0 λc hc e=>j #[c,hc,e]];w_up;cbv;show qF (Gj T (cc:=true)) o (λ_=>rfl) Β ?_;cbv;show#[p,rfl,(),λx H' m l=>f e x H' (i<|>m) l]
inductive vQ(K:ϩ):Sp
 |mk (a C dx:δ) (fs:List (Str×V)) (z:Str):vs=[.ref a,.str z]->H a=↑(.ins C dx fs)->aH K C->ao K C "text"->↥fs<900->Q .non (upd H a (.ins C dx (aN "text" (.str z) fs)))
def Kg:FD P w K mg base cc 1 "__init__" "Sieve.__init__" DP ["self","text"] (vQ K):=by
 exists ["self","text"],_,f,#[a,C,dx,fs,z,rfl,c,hc,e,g,q];f_len;show gf ?_;f_are;f_are;show#[a,C,dx,fs,rfl,c,hc,e,(),q]
inductive Iw(K:ϩ):Sp
 |mk (a C dx:δ) (fs:List (Str×V)) (z:Str) (p:V):vs=[.ref a,.str z,p]->H a=↑(.ins C dx fs)->aH K C->ao K C "text"->ao K C "place"->↥fs<800->Q .non (upd (upd H a (.ins C dx (aN "text" (.str z) fs))) a (.ins C dx (aN "place" p (aN "text" (.str z) fs))))
def acV(T:Txt K mg):FD P w K mg base cc 2 "__init__" "NoneSieve.__init__" Mt ["self","text","place"] (Iw K):=by
 exists ["self","text","place"],_,e,#[a,C,dx,fs,z,p,rfl,f,hc,g,c,i,q];let B:xN P w K mg base cc 1 "Sieve" "__init__" ["self","text"] (vQ K):=Kg.asked T.Vw T.Tq;let j:=BZ "text" (V.str z) fs;w_up;show Ϡ ?_*>Om (pl:=_) B e id Β ?_;cbv;show#[a,C,dx,fs,z,rfl,f,hc,g,(),?_];f_len;show gf ?_;f_are;f_are;show#[a,C,dx,_,rfl,υ,hc,c,(),q]
def vG:Def 1 "made_of" ["text","signs"] O1:=by
 exists ["text","signs"],vG,n,#[z,g,rfl,o,q],n1.Ul;symm;f_are;f_are;show anT ["sign","signs"] (σ':=[none,↑(.str g)]) (by rfl) (by rfl) (b8 (ς Pz)) (by fin2) (by rfl) (by rfl) (by intro _;rfl) ?_;f_are;show#[z,rfl,?_,λi v=>∃c,z.cps.toList[i]?=↑c/\v=.bl (decide (c∈g.cps.toList)),λfp E' C p s i c H2 hc e=>?_,λE' H2 xs u f j l e=>?_]
 .have :z.cps.size=↥z:=rfl;let h2:ϳ=16777216:=ϯ;omega
 .cbv;show#[#[c,hc,by rw[StrLaws.found_one]],ζ.refl _]
 .let ex:=jJ (ys:=z.cps.toList) (λc=>V.bl (decide (c∈g.cps.toList))) (by rw[f];simp) j;let a:xs=(z.cps.toList.map λc=>decide (c∈g.cps.toList)).map V.bl:=by rw[ex,aeu];rfl
  subst a;cbv;show Oa (by rfl) (θ.of l) ?_;let m:(z.cps.toList.map λc=>decide (c∈g.cps.toList)).all id=iu z g:=by rw[as4];rfl
  rw[m];show q _ e
def yJ:Def 2 "is_text_value" ["value"] X3:=by
 exists ["value"],yJ,g,#[v,rfl,hs,c,q],j.ajI,l.ah1,n1.yz,n2.cY,m.bY,n vG,1;symm;cases v with
 |int i=>
  cbv;show q H (ζ.refl _)
 |non=>
  cbv;show q H (ζ.refl _)
 |str z=>
  let a:↥z<=4000:=c;cbv;show Μ (λh=>?_) (λh=>?_)
  .cbv;show#[z,_,rfl,a,λH' f=>?_];let e:jg (.str z)=iu z yQ:=by
    let h':↥z<=20:=()
    unfold jg;simp[h']
   rw[e]at q;show q H' f
  .let e:jg (.str z)=false:=by
    let h':¬↥z<=20:=()
    unfold jg;simp[h']
   rw[e]at q;show q H (ζ.refl _)
 |_=>cases hs
def Eu:Def 2 "are_figures" ["word"] Q5:=by
 exists ["word"],Eu,p,#[z,rfl,n,q],s.ab4,u vG,1;let i:("0":Str).cps.toList=[48]:=by fin2
 let e1:("":Str).cps.toList=[]:=by fin2
 unfold eG at q;symm;cbv;show Μ (λh=>?_) (λh=>?_)
 .let h':z.cps.toList=[48]:=by cases h;show i
  rw[h']at q;show q H (ζ.refl _)
 .let h':¬z.cps.toList=[48]:=λh2=>h (by rw[d9 (h2<|>i.symm)])
  rw[decide_eq_false h',atj]at q;cbv;show aY (λh2=>?_) (λh2=>?_)
  .let a:z.cps.toList≠[]:=λe=>h2 (by rw[d9 (e<|>e1.symm)])
   rw[decide_eq_true a,aqw]at q;let#[c,r,hc]:=asj a;let g:z.cps.toList[0]?=↑c:=by rw[hc];rfl
   cbv;show Ab () (bH (j:=0) g) ?_;cbv;rw[g]at q;show aY (λe=>?_) (λe=>?_)
   .let f:↑c≠↑48:=λl=>e (by cases l;show congrArg V.str (d9 i.symm))
    rw[decide_eq_true f,aqw]at q;cbv;show#[z,_,rfl,n,λH' o=>?_];rw[amk];show q H' o
   .let f:¬(↑c≠↑48):=λl=>l (by
     have:=congrArg (λv:V=>match v with|.str x=>x.cps.toList|_=>[]) e;let m:[c]=("0":Str).cps.toList:=this;rw[i]at m;cases m;rfl)
    rw[decide_eq_false f,aoC]at q;show q H (ζ.refl _)
  .let a:¬z.cps.toList≠[]:=λe=>e (by cases h2;show e1)
   rw[decide_eq_false a,aoC]at q;show q H (ζ.refl _)
def qR:Def 3 "read_figures" ["word","most"] Xa:=by
 exists Qh,qR,p,#[z,m,k,rfl,g,s,i,j,c,k1,k2,q],n1.bY,n2.cY,u.QV,2,v Eu,1;let y:=_L.len_list z;let out:∀(H1:Hp)(o:Option V),ζ H H1->dY z.cps.toList m=none->Φ X ((ϣ HR).drop 1) {nx:=λ_ H'=>Q .non H',rt:=Q} [↑(.str z),↑(.int m),o] H1:=by
  intro H1 o l e;let q1:=q H1 l;rw[e]at q1;f_len;cbv;show q1
 w_up;cbv;show#[z,rfl,g,λH1 a =>?_];cbv;show uO (λh1=>?_) (λh1=>?_)
 .cbv;show bO (Ϥ i) ?_;cbv;rw[j];show Μ (λh2=>?_) (λh2=>?_)
  .cbv;let#[hd,n]:=Ja h1;show ant (intText_digits hd n ()) () ?_;cbv;show Μ (λf=>?_) (λf=>?_)
   .let q1:=q H1 a;let e:dY z.cps.toList m=↑_:=if_pos #[h1,f];rw[e]at q1;cbv;show q1
   .show Γ (out H1 _ a (if_neg λx=>f x.2))
  .show Γ (out H1 _ a (if_neg λx=>h2 ?_));have:=Ii x.1 x.2 c k1;omega
 .show Γ (out H1 _ a (if_neg λx=>by rw[h1]at x;show abW x.1))
def DN:Def 4 "read_number_word" ["word"] (Ly (.ref (η mg "NoValue"))):=by
 exists V4,DN,y,#[z,rfl,p,q],B.abS,C.Vq,2,F qR,1;let l:↥(μ (toString (1000000000000000000:Int)))=19:=by fin2
 let g:ji z.cps.toList=none->∀H1,ζ H H1->∀m n D,SX X (jW (Jq (jW (ϣ Cz) 2)) 0) D [↑(.str z),m,n] H1:=by
  intro s H1 u m n D;show dW Β T.Yq ?_;cbv;show oU ?_;f_are;show#[z,rfl,(),_,4000,rfl,p,(),?_];cbv;intro G;cbv;let c:=q H1 u;rw[s]at c;show#[by rw[hsz];simp,c]
 w_up;cbv;show aaL ?_;rw[show Txt.startswith z "-"=decide (z.cps.toList[0]?=↑45)from Ot z 45];generalize o:decide (z.cps.toList[0]?=↑45)=v;cbv;cases v with
 |true=>
  let j:=of_decide_eq_true o;cbv;show jZ () ?_;cbv;let x:=IW z ↑1 none;show#[_,_,19,rfl,(),by decide,by decide,l,by decide,by decide,by decide,λH1 f =>?_];rw[show(Ϗ z ↑1 none).cps.toList=z.cps.toList.drop 1 from uD z 1];let a:=ajP j;cases e:dY (z.cps.toList.drop 1) 1000000000000000000 with
  |none=>
   rw[e]at a;simp only[wO];cbv;show g a H1 f _ _ _
  |some i=>
   rw[e]at a;dsimp only at a;simp only[wO];cbv;show Μ (λh1=>?_) (λh1=>?_)
   .let h2:i=0:=by injection h1
    rw[if_pos h2]at a;show qC (g a H1 f _ _ _)
   .let h2:¬i=0:=λe=>h1 (by rw[e])
    rw[if_neg h2]at a;let c:=q H1 f;rw[a]at c;show Γ ?_;cbv;show c
 |false=>
  let j:=of_decide_eq_false o;cbv;show#[_,_,19,rfl,(),by decide,by decide,l,by decide,by decide,by decide,λH1 f =>?_];let a:=Pj j;cases e:dY z.cps.toList 1000000000000000000 with
  |none=>
   rw[e]at a;simp only[wO];cbv;show g a H1 f _ _ _
  |some i=>
   rw[e]at a;simp only[wO];let c:=q H1 f;rw[a]at c;cbv;show c
def GK:Def 3 "read_text_word" ["word"] (Tu (.ref (η mg "NoValue"))):=by
 exists Uh,GK,m,#[z,rfl,g,q],n.Qk,2,o yJ,1;let e1:μ "'"=#[#v[39]]:=by fin2
 let p:=IW z ↑1 none;let e:lg z=none->∀H1,ζ H H1->Φ X ((ϣ GC).drop 1) {nx:=λ_ H'=>Q .non H',rt:=Q} [↑(.str z)] H1:=by
  intro i H1 j;f_len;show dW Β T.Yq ?_;cbv;show oU ?_;f_are;show#[z,rfl,(),_,4000,rfl,g,(),?_];cbv;intro s;cbv;let a:=q H1 j;rw[i]at a;show#[by rw[hsz];simp,a]
 w_up;cbv;show aaL ?_;cbv;rw[e1,Ot];show Μ (λh1=>?_) (λh1=>?_)
 .cbv;show jZ () ?_;cbv;show#[_,rfl,rfl,(show(Ϗ z ↑1 none).length<=4000 by omega),λH1 f =>?_];cbv;show uO (λh2=>?_) (λh2=>?_)
  .cbv;show jZ () ?_;let a:=q H1 f;let l:lg z=↑(Ϗ z ↑1 none):=by
    unfold lg;rw[if_pos #[h1,h2]]
   rw[l]at a;show a
  .show Γ (e ?_ H1 f);unfold lg;rw[if_neg λc=>by rw[h2]at c;show abW c.2]
 .show Γ (e ?_ H (ζ.refl _));unfold lg;rw[if_neg λc=>h1 c.1]
def zW:Def 5 "read_value" ["kind","word"] (Z9 (.ref (η mg "NoValue"))):=by
 exists ["kind","word"],zW,j,#[k,z,rfl,g,q],l.Og,m.Gg,n DN,o GK;w_up;cbv;show Μ (λh1=>?_) (λh1=>?_)
 .let h2:z="?":=by cases h1;rfl
  let i:=q H (ζ.refl _);let a:gA k z=↑.non:=by unfold gA;rw[if_pos h2]
  rw[a]at i;cbv;show i
 .let h2:¬z="?":=λe=>h1 (by rw[e])
  let a:gA k z=if k="number" then Al (ji z.cps.toList)else G9 (lg z):=by unfold gA;rw[if_neg h2]
  rw[a]at q;cbv;show Μ (λc=>?_) (λc=>?_)
  .let f:k="number":=by cases c;rfl
   rw[if_pos f]at q;cbv;show#[z,rfl,g,q]
  .let f:¬k="number":=λe=>c (by rw[e])
   rw[if_neg f]at q;cbv;show#[z,rfl,g,q]
inductive dU|all|none (p:Nat)
def rH(mg:MG)(H:Hp)(a:δ):dU->Str->Prop
 |.all,z=>∃dx,H a=↑(.ins (η mg "AllSieve") dx [("text",.str z)])
 |.none p,z=>∃dx,H a=↑(.ins (η mg "NoneSieve") dx [("text",.str z),("place",.int p)])
def rH.same(h:rH mg H a s z)(e:ζ H H'):rH mg H' a s z:=by
 cases s<;>let#[dx,h]:=h<;>show#[dx,e<*h]
def S9(mg:MG)(H:Hp)(p:δ)(s:dU)(z:Str)(n:Nat):=∃t,H p=↑(.tup [.ref t,.int n])/\rH mg H t s z
inductive aaZ(K:ϩ)(mg:MG):Sp
 |mk (b:δ) (cs:List ο) (a:δ) (ws:List Str) (s i:Nat):vs=[.ref b,.ref a,.int s]->aj H b cs->θ K H a (ws.map V.str)->↥ws<=4000->(∀z∈ws,↥z<=1000)->s+2<=↥ws->il cs ws (s+1)=↑i->(∀p H',ζ H H'->S9 mg H' p (.none i) (eO ws s (s+2)) (s+2)->Q (.ref p) H')
def Dm:Def 5 "read_none" ["columns","words","start"] (aaZ K mg):=by
 exists aa1,Dm,B,#[b,cs,a,ws,f,i,rfl,C,n,s,D,g,hi,q],2,1,J yc,L Bu;let M:pD P w K mg base true 2 "NoneSieve" (η mg "NoneSieve") ["self","text","place"] (Iw K):=(acV T).make T.ah9 T.aiC;w_up;cbv;show#[b,cs,a,ws,f+1,by simp,C,n,s,(),λe=>(by rw[hi]at e;cases e),λO H2 u e=>?_];rw[hi]at e;cases e;cbv;show Bh M B (by decide) (λ_=>rfl) Β ?_;cbv;show#[a,ws,f,f+2,by simp,u.seq n,s,D,(),g,λv j=>?_];cbv;intro y dx l m R;show#[y,_,dx,[],eO ws f (f+2),_,rfl,υ,T.vL,T.Xd,T.Xc,by simp,rfl,?_];cbv;show#[Ξ,λp hp=>?_];generalize x:upd (upd (upd (upd v dx (.own y)) y (.ins (η mg "NoneSieve") dx [])) y _) y _=G at hp⊢;let F:ζ v G:=λc o e=>by
  rw[<-x,ξ (ϔ e l),ξ (ϔ e l),ξ (ϔ e l),ξ (ϔ e m)];show e
 let I:G y=↑(.ins (η mg "NoneSieve") dx [("text",.str (eO ws f (f+2))),("place",.int i)]):=by
  rw[<-x];show υ
 let z:ζ G (upd G p (.tup [.ref y,.int (f+2)])):=ζ.upd hp;show q p _ (((u<|>j)<|>F)<|>z) #[y,υ,dx,z<*I]
def sV(cs:List ο)(ws:List Str)(s:Nat):dU->Nat->Prop
 |.all,n=>ws[s]?=some "all"/\n=s+1
 |.none i,n=>ws[s]?=some "none"/\s+2<=↥ws/\il cs ws (s+1)=↑i/\n=s+2
def aeR(h:ws[s]?=↑z):eO ws s (s+1)=z:=by
 unfold eO;let e:(ws.drop s).take (s+1-s)=[z]:=by
  rw[show s+1-s=1 by omega,UW h];rfl
 rw[e];show join_one _ z
inductive VG(K:ϩ)(mg:MG):Sp
 |mk (b:δ) (cs:List ο) (a:δ) (ws:List Str) (s n:Nat) (k:Int) (sv:dU):vs=[.ref b,.ref a,.int s,.int k]->aj H b cs->θ K H a (ws.map V.str)->↥ws<=4000->(∀z∈ws,↥z<=1000)->s<60->sV cs ws s sv n->(∀p H',ζ H H'->S9 mg H' p sv (eO ws s n) n->Q (.ref p) H')
def ajB:Def 8 "read_part" ["columns","words","start","within"] (VG K mg):=by
 exists oA,zj,F,#[b,cs,a,ws,l,n,k,u,rfl,I,v,x,J,L,f,q],2,1,Z.Hw,g6.Kz,D1 ni,D2 Dm;let M:pD P w K mg base true 1 "AllSieve" (η mg "AllSieve") ["self","text"] (vQ K):=Kg.make T.agh T.anS;let g:∃z,ws[l]?=↑z:=by
  cases u with
  |all=>show#[_,f.1]
  |none i=>show#[_,f.1]
 let#[z0,g]:=g;let m:=(aas.mp g).1;w_up;cbv;show#[a,ws,l,rfl,v,x,(),λO=>absurd #[m,L] O,λz' j _=>?_];rw[g]at j;cases j;w_up;cbv;cases u with
 |all=>
  let#[h1,rfl]:=f;rw[g]at h1;cases h1;show fG ?_;cbv;show Bh M F (by decide) (λ_=>rfl) Β ?_;cbv;intro y dx B s Ϻ;show#[y,_,dx,[],_,rfl,υ,T.zV,T.Qq,by simp,rfl,?_];cbv;show#[Ξ,λp hp=>?_];generalize C:upd (upd (upd H dx (.own y)) y (.ins (η mg "AllSieve") dx [])) y _=G at hp⊢;let R:ζ H G:=λc o e=>by
   rw[<-C,ξ (ϔ e B),ξ (ϔ e B),ξ (ϔ e s)];show e
  let U:G y=↑(.ins (η mg "AllSieve") dx [("text",.str "all")]):=by
   rw[<-C];show υ
  let D:ζ G (upd G p (.tup [.ref y,.int (l+1)])):=ζ.upd hp;show q p _ (R<|>D) #[y,υ,dx,?_];rw[aeR g];show D<*U
 |none i=>
  let#[h1,h2,W,rfl]:=f;rw[g]at h1;cases h1;show gC ?_*>Γ ?_;w_up;cbv;show fG ?_;cbv;show#[b,cs,a,ws,l,i,rfl,I,v,x,J,h2,W,λp H' Y hp=>q p H' Y hp]
inductive QD:Sp
 |mk (x) (y):vs=[x,y]->Q (.bl true) H
def akO:FD P w K mg base cc 1 "lets" "Sieve.lets" Od ["self","values"] QD:=by
 exists ["self","values"],_,a,#[x,y,rfl,q];f_len;cbv;show q
inductive Mz(K:ϩ):Sp
 |mk (a C dx:δ) (fs:List (Str×V)) (p:Nat) (b:δ) (xs:List V) (x:V):vs=[.ref a,.ref b]->H a=↑(.ins C dx fs)->aH K C->ao K C "place"->fs.lookup ("place":Str)=↑(V.int p)->θ K H b xs->xs[p]?=↑x->Q (.bl (decide (x=.non))) H
def agd:FD P w K mg base cc 1 "lets" "NoneSieve.lets" VL ["self","values"] (Mz K):=by
 exists ["self","values"],_,j,#[a,C,dx,fs,p,b,xs,x,rfl,c,hc,e,f,g,i,q];symm;cbv;show aQ ?_;f_are;show#[a,C,dx,fs,_,rfl,c,hc,e,f,?_]*>ϐ g (bH i) ?_;cbv;show q
inductive FW(K:ϩ):Sp
 |mk (a C dx:δ) (fs:List (Str×V)) (z:Str) (p:V):vs=[.ref a,.str z,p]->H a=↑(.ins C dx fs)->aH K C->ao K C "text"->ao K C "one"->↥fs<800->Q .non (upd (upd H a (.ins C dx (aN "text" (.str z) fs))) a (.ins C dx (aN "one" p (aN "text" (.str z) fs))))
def amE(T:Txt K mg):FD P w K mg base cc 2 "__init__" "NotSieve.__init__" NK ["self","text","one"] (FW K):=by
 exists ["self","text","one"],_,e,#[a,C,dx,fs,z,p,rfl,f,hc,g,c,i,q];let B:xN P w K mg base cc 1 "Sieve" "__init__" ["self","text"] (vQ K):=Kg.asked T.Vw T.Tq;let j:=BZ "text" (V.str z) fs;w_up;show Ϡ ?_*>Om (pl:=_) B e id Β ?_;cbv;show#[a,C,dx,fs,z,rfl,f,hc,g,(),?_];f_len;show gf ?_;f_are;f_are;show#[a,C,dx,_,rfl,υ,hc,c,(),q]
inductive Tr
 |one (s:dU)
 |nt (t:Tr)
def Tr.dep:Tr->Nat
 |.one _=>0
 |.nt t=>t.dep+1
def Reads(cs:List ο)(ws:List Str):Tr->Nat->Nat->Prop
 |.one a,s,e=>s<60/\sV cs ws s a e
 |.nt t,s,e=>s<60/\ws[s]?=some "not"/\Reads cs ws t (s+1) e
theorem sV.le:∀{a:dU},sV cs ws s a e->s<e/\e<=↥ws
 |.all,h=>by
   let#[h1,rfl]:=h;have:=(aas.mp h1).1;omega
 |.none i,h=>by
   let#[_,h2,_,rfl]:=h;omega
theorem Reads.le:∀{t:Tr}{s e:Nat},Reads cs ws t s e->s<e/\e<=↥ws
 |.one a,s,e,h=>sV.le h.2
 |.nt t,s,e,h=>by have:=Reads.le (t:=t) h.2.2;omega
def dZ(mg:MG)(H:Hp):Tr->δ->Str->Prop
 |.one s,a,z=>rH mg H a s z
 |.nt t,a,z=>∃dx b y,H a=↑(.ins (η mg "NotSieve") dx [("text",.str z),("one",.ref b)])/\dZ mg H t b y
theorem dZ.same(e:ζ H H'):∀{t:Tr}{a:δ}{z:Str},dZ mg H t a z->dZ mg H' t a z
 |.one s,a,z,h=>rH.same h e
 |.nt t,a,z,h=>by
   let#[dx,b,y,h1,h2]:=h;show#[dx,b,y,e<*h1,dZ.same e h2]
def ajH(F:Def P w K mg base true k x ps sp)(h:∀vs H Q E,sp' vs H Q E->sp vs H Q E):Def P w K mg base true k x ps sp':=by
 let#[f,fd,h1,h2,e,c]:=F.ex;show#[f,fd,h1,h2,e,#[λvs H Q E z=>c.len vs H Q E (h vs H Q E z),λA outer s H a us vs Q E g i j r z=>c.run A outer s H a us vs Q E g i j r (h vs H Q E z)]]
def Mx(F:Ψ P w K mg base true k C x ps sp)(e:k<=k')(h:∀vs H Q E,sp' vs H Q E->sp vs H Q E):Ψ P w K mg base true k' C x ps sp':=by
 let#[f,fd,h1,h2,c]:=F.ex;let c:=c.mono e;show#[F.cls,f,fd,h1,h2,#[λvs H Q E z=>c.len vs H Q E (h vs H Q E z),λA outer s H a us vs Q E g i j r z=>c.run A outer s H a us vs Q E g i j r (h vs H Q E z)]]
inductive w6(K:ϩ)(mg:MG)(t:Tr):Sp
 |mk (b:δ) (cs:List ο) (a:δ) (ws:List Str) (s e:Nat) (k:Int):vs=[.ref b,.ref a,.int s,.int k]->aj H b cs->θ K H a (ws.map V.str)->↥ws<=4000->(∀z∈ws,↥z<=1000)->0<=k->k+t.dep<=20->Reads cs ws t s e->(∀p v H',ζ H H'->H' p=↑(.tup [.ref v,.int e])->dZ mg H' t v (eO ws s e)->Q (.ref p) H')
inductive GX(K:ϩ)(mg:MG)(t:Tr):Sp
 |mk (b:δ) (cs:List ο) (a:δ) (ws:List Str) (s e:Nat) (k:Int):vs=[.ref b,.ref a,.int s,.int k]->aj H b cs->θ K H a (ws.map V.str)->↥ws<=4000->(∀z∈ws,↥z<=1000)->1<=k->k+t.dep<=21->k<=20->Reads cs ws t s e->(∀p v H',ζ H H'->H' p=↑(.tup [.ref v,.int e])->dZ mg H' t v (eO ws s e)->Q (.ref p) H')
theorem aer(T:Txt K mg)(c:dU):Def P w K mg base true 8 "read_part" ["columns","words","start","within"] (w6 K mg (.one c)):=ajH (ajB T) λvs H Q E h=>by
 let#[b,cs,a,ws,s,e,k,rfl,g,i,j,l,m,o,f,q]:=h;show#[b,cs,a,ws,s,e,k,c,rfl,g,i,j,l,f.1,f.2,λp H' n hp=>?_];let#[v,h1,h2]:=hp;show q p v H' n h1 h2
def Et:Tr->Option Str
 |.one _=>none
 |.nt _=>some "not"
def adq(h:Reads cs ws t s e)(a:Et t=↑z):s<60/\ws[s]?=↑z:=by
 cases t with
 |one _=>cases a
 |nt t=>cases a;show#[h.1,h.2.1]
def yx(a:Et t=↑z):z="not"\/z="both"\/z="either":=by
 cases t with
 |one _=>cases a
 |nt t=>cases a;show .inl rfl
def ajW(f:Et t=↑z)(Y:3<=lv)(D:Def P w K mg base true lv "read_of_sieves" ["columns","words","start","within"] (GX K mg t)):Def (lv+1) "read_part" ["columns","words","start","within"] (w6 K mg t):=by
 exists oA,zj,Z,#[b,cs,a,ws,n,e,k,rfl,B,o,s,C,F,hk,g,q],2,1,g1.EY,g2.Hw,g3.V6,g4.Nj,g5.MN,g6.Kz,g7.Ig,g8.Jm,g9.Yb,D1 ni;let#[G,i]:=adq g f;let l:=(aas.mp i).1;let I:1<=t.dep:=by
  cases t with
  |one _=>cases f
  |nt t=>show 1<=t.dep+1;omega
 let e1:¬V.str z=V.str ("all":Str):=by obtain rfl|rfl|rfl:=yx f<;>fin2
 let J:¬V.str z=V.str ("none":Str):=by obtain rfl|rfl|rfl:=yx f<;>fin2
 let L:fL (V.str z) [V.str ("is":Str),V.str ("under":Str),V.str ("over":Str),V.str ("holds":Str)]=false:=by obtain rfl|rfl|rfl:=yx f<;>fin2
 let M:fL (V.str z) [V.str ("not":Str),V.str ("both":Str),V.str ("either":Str)]=true:=by obtain rfl|rfl|rfl:=yx f<;>fin2
 k_go;show#[a,ws,n,rfl,o,s,(),λO=>absurd #[l,G] O,λz' j _=>?_];rw[i]at j;cases j;w_up;show Θ ?_>>=Μ (λh=>absurd h e1) (λ_=>?_)*>Γ ?_;w_up;show Θ ?_>>=Μ (λh=>absurd h J) (λ_=>?_)*>Γ ?_;w_up;show Θ ?_>>=#[Ξ,λtp m=>?_]*>qm (Δ.of υ) ?_;rw[L];let u:ζ H (upd H tp (.tup [.str "is",.str "under",.str "over",.str "holds"])):=ζ.upd m;generalize upd H tp (.tup [.str "is",.str "under",.str "over",.str "holds"])=H2 at u⊢;lk;show Γ ?_;w_up;show Θ ?_>>=#[Ξ,λx R=>?_]*>qm (Δ.of υ) ?_;rw[M];let y:ζ H2 (upd H2 x (.tup [.str "not",.str "both",.str "either"])):=ζ.upd R;generalize upd H2 x (.tup [.str "not",.str "both",.str "either"])=H3 at y⊢;lk;let c:=u<|>y;symm;lk;show #[b,cs,a,ws,n,e,k+1,rfl,B.same c,c.seq o,s,C,(),(),(),g,λp v H' U hp W=>q p v H' (c<|>U) hp W]
def akE(D1:Def P w K mg base true l1 "read_part" ["columns","words","start","within"] (w6 K mg t))(h1:l1<=lv)(h3:3<=lv):Def (lv+1) "read_of_sieves" ["columns","words","start","within"] (GX K mg (.nt t)):=by
 exists Av,aa2,L,#[b,cs,a,ws,f,e,k,rfl,O,i,x,z,R,U,W,g,q],2,1,g1.QL,g2.Ig,g3.Jm,DB Bu;let Y:=g.le;let hd:k+(t.dep+1:Nat)<=21:=U;let#[vy,j,B]:=g;let Z:=B.le;let sw:θ K H a (ws.map V.str):=i;let e1:(f:Int)+1=((f+1:Nat):Int):=()
 w_up;show Θ ?_>>=Μ (λh=>absurd h ()) (λ_=>?_)*>Γ ?_;k_go;show ϐ sw (v:=.str ("not":Str)) (bH (by rw[acS,j];rfl)) ?_;w_up;show dw ?_;lk;rw[e1];show#[b,cs,a,ws,f+1,_,k,rfl,O,i,x,z,(),(),B,λp1 C H1 D l m=>?_]*>ϟ (Δ.of l) (Η (ω nd (Η (ω nd (Ϣ ?_)))));w_up;show Θ ?_>>=fG ?_;symm;let M:pD P w K mg base true 2 "NotSieve" (η mg "NotSieve") ["self","text","one"] (FW K):=(amE T).make T.agW T.aiu;lk;show Bh M L () (λ_=>rfl) Β ?_>>=#[a,ws,f,e,rfl,D.seq i,x,z,(),(),λH2 F =>?_];lk;intro y dx n s Ϻ;show#[y,_,dx,[],_,_,rfl,υ,T.wZ,T.Mi,T.Vv,by simp,rfl,?_]>>=#[Ξ,λp hp=>?_];generalize I:upd (upd (upd (upd H2 dx (.own y)) y (.ins (η mg "NotSieve") dx [])) y _) y _=G at hp⊢;let J:ζ H2 G:=λc o e=>by
  rw[<-I,ξ (ϔ e n),ξ (ϔ e n),ξ (ϔ e n),ξ (ϔ e s)];show e
 let ey:G y=↑(.ins (η mg "NotSieve") dx [("text",.str (eO ws f e)),("one",.ref C)]):=by
  rw[<-I];show υ
 let u:ζ G (upd G p (.tup [.ref y,.int e])):=ζ.upd hp;show q p y _ (((D<|>F)<|>J)<|>u) υ #[dx,C,_,u<*ey,((m.same F).same J).same u]
theorem YT(T:Txt K mg):∀t:Tr,Def P w K mg base true (8+2*t.dep) "read_part" ["columns","words","start","within"] (w6 K mg t)
 |.one a=>aer T a
 |.nt t=>by
   let h:=ajW T (z:="not") (lv:=8+2*t.dep+1) rfl () (akE T (lv:=8+2*t.dep) (YT T t) (Ϭ _) ());let e:8+2*(Tr.nt t).dep=8+2*t.dep+1+1:=by show 8+2*(t.dep+1)=_;omega
   rw[e];show h
inductive Xo(mg:MG)(t:Tr):Sp
 |mk (b:δ) (cs:List ο) (z:Str):vs=[.ref b,.str z]->aj H b cs->↥z<=3000->(∀y∈χ 32 z,↥y<=1000)->t.dep<=20->Reads cs (χ 32 z) t 0 ↥(χ 32 z)->(∀v H',ζ H H'->dZ mg H' t v (eO (χ 32 z) 0 ↥(χ 32 z))->Q (.ref v) H')
def zM(t:Tr):Def (9+2*t.dep) "read_sieve" ["columns","text"] (Xo mg t):=by
 let l:9+2*t.dep=(8+2*t.dep)+1:=()
 rw[l];exists yt,V8,y,#[b,cs,z,rfl,m,B,a,n,e,q],2,n1.bY,1;let C:= @YT P w K mg base T t;let o:=Aw 32 z;w_up;f_tup;show bU F.plainAttrs_str F.slot_str_split F.type_str_split (h:=?_);cbv;show m_split (c:=32) λp hp=>?_
 let#[f,ep,H,p,H1]:=Ρ hp (.lst ((χ 32 z).map V.str));w_up;show dw ?_>>=#[b,cs,p,χ 32 z,0,_,0,rfl,m.same f,θ.of ep,(),a,by decide,(),e,λD v H2 j g i=>?_]*>ϟ (Δ.of g) (Η (ω nd (Η (ω nd (Ϣ ?_)))));let u:θ K H2 p ((χ 32 z).map V.str):=θ.of (j<*ep);let x:↥((χ 32 z).map V.str)=↥(χ 32 z):=ϰ ..;w_up;cbv;rw[x];show Μ (λh=>absurd h ()) (λ_=>?_);cbv;show q v H2 (f<|>j) i
def aok(xs:List V):dU->Bool
 |.all=>true
 |.none p=>decide ((xs[p]?).getD .non=.non)
def RQ(xs:List V):dU->Prop
 |.all=>True
 |.none p=>p<↥xs
def ϙ(xs:List V):Tr->Bool
 |.one s=>aok xs s
 |.nt t=> !ϙ xs t
def BJ(xs:List V):Tr->Prop
 |.one s=>RQ xs s
 |.nt t=>BJ xs t
def ie(mg:MG):Tr->δ
 |.one .all=>η mg "AllSieve"
 |.one (.none _)=>η mg "NoneSieve"
 |.nt _=>η mg "NotSieve"
inductive pq(K:ϩ)(mg:MG)(t:Tr):Sp
 |mk (a b:δ) (z:Str) (xs:List V):vs=[.ref a,.ref b]->dZ mg H t a z->θ K H b xs->BJ xs t->Q (.bl (ϙ xs t)) H
theorem dZ.ins:∀{t:Tr}{a:δ}{z:Str},dZ mg H t a z->∃dx fs,H a=↑(.ins (ie mg t) dx fs)/\fs.lookup ("lets":Str)=none
 |.one .all,a,z,h=>by let#[dx,h]:=h;show#[dx,_,h,rfl]
 |.one (.none p),a,z,h=>by let#[dx,h]:=h;show#[dx,_,h,rfl]
 |.nt t,a,z,h=>by let#[dx,b,y,h,_]:=h;show#[dx,_,h,rfl]
def aeX(M:Ψ P w K mg base true lv (ie mg t) "lets" ["self","values"] (pq K mg t)):FD (lv+1) "lets" "NotSieve.lets" Zc ["self","values"] (pq K mg (.nt t)):=by
 exists ["self","values"],_,e,#[a,b,z,xs,rfl,#[dx,c,y,f,hc],g,i,q];let#[dc,m,j,l]:=hc.ins;symm;lk;show ϛ (pl:=_) e Β (h:=?_)*>aQ ?_;f_are;show#[a,_,_,_,_,rfl,f,T.wZ,T.Vv,rfl,?_]*>#[c,ie mg t,dc,_,true,lv,_,pq K mg t,rfl,j,l,M,Ϭ _,id,?_]>>=#[c,b,y,xs,rfl,hc,g,i,?_]>>=q
theorem Lj(T:Txt K mg):∀t:Tr,Ψ P w K mg base true (3+t.dep) (ie mg t) "lets" ["self","values"] (pq K mg t)
 |.one .all=>Mx (akO.meth T.zV T.abU) (by decide) λvs H Q E h=>by
   let#[a,b,z,xs,rfl,_,_,_,q]:=h;show#[_,_,rfl,q]
 |.one (.none p)=>Mx (agd.meth T.vL T.aiv) (by show 1<=3+0;decide) λvs H Q E h=>by
   let#[a,b,z,xs,rfl,#[dx,c],f,g,q]:=h;let hp:p<↥xs:=g;let e:xs[p]?=↑xs[p]:=aad hp;show#[a,_,dx,_,p,b,xs,xs[p],rfl,c,T.vL,T.Xc,rfl,f,e,?_];let q:Q (.bl (decide ((xs[p]?).getD .non=.non))) H:=q;rw[e]at q;show q
 |.nt t=>(aeX T (Lj T t)).meth T.wZ T.aga
def fM(mg:MG)(H:Hp)(E:XK)(n:Nat):=∀e b H',ζ H H'->H' e=↑(.xd [("at",.int n)])->E (.ref (η mg "NoSieve")) (↑e,b) H'
theorem fM.same(h:fM mg H E n)(s:ζ H H'):fM mg H' E n:=λe b G a c=>h e b G (s<|>a) c
inductive abw(K:ϩ)(mg:MG):Sp
 |mk (kd:Str) (a:δ) (ws:List Str) (p:Nat) (z:Str):vs=[.str kd,.ref a,.int p]->θ K H a (ws.map V.str)->↥ws<=4000->p<60->ws[p]?=↑z->↥z<=1000->gA kd z=none->fM mg H E p
def amv:Def 6 "read_word" ["kind","words","place"] (abw K mg):=by
 exists Tt,als,m,#[j,a,ws,p,z,rfl,n,o,hp,u,y,l,q],2,B ni,C zW;k_go;show#[a,ws,p,rfl,n,o,(),λl e H' f i=>q e true H' f i,λD g _=>?_];rw[u]at g;cases g;w_up;show vR (λσ c d H'=>σ=[↑(.str j),↑(.ref a),↑(.int p),↑(.str z),none]/\c=.ref (η mg "NoValue")/\d=(none,true)/\ζ H H') rfl rfl (λF pn xo po=>?_) (λσ c d H' v=>?_)
 .f_len;f_tup;lk;show#[j,z,rfl,(),λH' f=>?_];rw[l];show#[rfl,rfl,rfl,f]
 .let#[rfl,rfl,rfl,f]:=v;show am2 (k:=1) Β rfl rfl (by rfl) T.am4 (by decide) (V0 T.vh) rfl (Gj T (cc:=false)) m (by decide) (by rfl) (by decide) (by rfl) (by rfl) (λe pn=>?_)>>=#[p,rfl,(),λe H2 x i=>q e false H2 (f<|>x) i]
structure Xj(cs:List ο)(ws:List Str)(i:Nat)(c:ο)(z:Str):Prop where
 w0:ws[0]?=↑("over":Str)
 col:il cs ws 1=↑i
 hc:cs[i]?=↑c
 w2:ws[2]?=↑z
 zl:↥z<=1000
 no:gA c.2 z=none
inductive WT(K:ϩ)(mg:MG):Sp
 |mk (b:δ) (cs:List ο) (a:δ) (ws:List Str) (i:Nat) (c:ο) (z:Str):vs=[.ref b,.ref a,.int 0]->aj H b cs->θ K H a (ws.map V.str)->↥ws<=4000->Xj cs ws i c z->fM mg H E 2
def agl:Def 7 "read_of_value" ["columns","words","start"] (WT K mg):=by
 exists XR,agi,u,#[b,cs,a,ws,i,c,z,rfl,m,g,n,f,q],2,v.EY,x.RT,y yc,B amv;let hi:=f.col;k_go;show ϐ g (show Ϛ (ws.map V.str) ((0:Nat):Int)=↑(.str ("over":Str))from bH (by rw[acS,f.w0];rfl)) ?_;k_go;show#[b,cs,a,ws,1,by simp,m,g,n,(),λe=>(by rw[hi]at e;cases e),λC H2 j e=>?_];rw[hi]at e;cases e;let#[vs,o,l]:=m.same j;let#[D,p,t,rfl,s]:=l.get' f.hc;k_go;show ϐ (θ.of o) (bH p) ?_>>=gZ (Δ.of s) (show Ϛ [V.str c.1,V.str c.2] 1=↑(V.str c.2)from rfl) ?_;w_up;show Θ ?_>>=gC ?_>>=Γ ?_;k_go;show#[c.2,a,ws,2,z,by simp,j.seq g,n,(),f.w2,f.zl,f.no,q.same j]
inductive Ox(K:ϩ)(mg:MG):Sp
 |mk (b a:δ):vs=[.ref b,.ref a,.int 1,.int 1]->θ K H a [.str ("not":Str)]->fM mg H E 1
def acx:Def 4 "read_part" ["columns","words","start","within"] (Ox K mg):=by
 exists oA,zj,j,#[b,a,rfl,c,q],2,l ni;k_go;show#[a,[μ "not"],1,by simp,c,by decide,by decide,λm e H' f g=>q e true H' f g,λz i _=>by simp at i]
inductive We(K:ϩ)(mg:MG):Sp
 |mk (b a:δ):vs=[.ref b,.ref a,.int 0,.int 1]->θ K H a [.str ("not":Str)]->fM mg H E 1
def aiR:Def 5 "read_of_sieves" ["columns","words","start","within"] (We K mg):=by
 exists Av,aa2,e,#[b,a,rfl,c,q],2,f.QL,g acx;w_up;show Θ ?_>>=Γ ?_;k_go;show ϐ c (i:=0) rfl ?_;w_up;show dw ?_>>=#[b,a,by simp,c,q]
inductive uR (cs:List ο) (ws:List Str):Nat->Prop
 |over {i:Nat} {c:ο} {z:Str}:Xj cs ws i c z->uR cs ws 2
 |nt:ws=[μ "not"]->uR cs ws 1
inductive YH(K:ϩ)(mg:MG):Sp
 |mk (b:δ) (cs:List ο) (a:δ) (ws:List Str) (n:Nat):vs=[.ref b,.ref a,.int 0,.int 0]->aj H b cs->θ K H a (ws.map V.str)->↥ws<=4000->uR cs ws n->fM mg H E n
def adb:Def 8 "read_part" ["columns","words","start","within"] (YH K mg):=by
 exists oA,zj,y,#[b,cs,a,ws,n,rfl,u,j,m,o,q],2,1,B.EY,C.Hw,D.V6,F.Nj,G.MN,I.Kz,J.Ig,L.Jm,M.Yb,O ni,R agl,U aiR;let w0:ws[0]?=↑("over":Str)\/ws[0]?=↑("not":Str):=by
  cases o with
  |over h=>show .inl h.w0
  |nt h=>rw[h];show .inr rfl
 k_go;show#[a,ws,0,by simp,j,m,(),λv e H' W Y=>absurd #[by obtain h|h:=w0<;>show(aas.mp h).1,()] v,λz i Z=>?_];let c:z=μ "over"\/z=μ "not":=by
  obtain h|h:=w0<;>rw[i]at h
  .show .inl (Option.some.inj h)
  .show .inr (Option.some.inj h)
 w_up;show Θ ?_>>=Μ (λh=>?_) (λ_=>?_)
 .obtain rfl|rfl:=c<;>show absurd h (by fin2)
 show Γ ?_;w_up;show Θ ?_>>=Μ (λh=>?_) (λ_=>?_)
 .obtain rfl|rfl:=c<;>show absurd h (by fin2)
 show Γ ?_;w_up;show Θ ?_>>=#[Ξ,λtp l=>?_]*>qm (Δ.of υ) ?_;let f:ζ H (upd H tp (.tup [.str "is",.str "under",.str "over",.str "holds"])):=ζ.upd l;generalize upd H tp (.tup [.str "is",.str "under",.str "over",.str "holds"])=H2 at f⊢;cases o with
 |over h=>
  rw[h.w0]at i;cases i;rw[show fL (V.str ("over":Str)) [V.str ("is":Str),V.str ("under":Str),V.str ("over":Str),V.str ("holds":Str)]=true by fin2];lk;symm;lk;show #[b,cs,a,ws,_,_,_,rfl,u.same f,f.seq j,m,h,q.same f]
 |nt h=>
  subst h;cases i;rw[show fL (V.str ("not":Str)) [V.str ("is":Str),V.str ("under":Str),V.str ("over":Str),V.str ("holds":Str)]=false by fin2];lk;show Γ ?_;w_up;show Θ ?_>>=#[Ξ,λp x=>?_]*>qm (Δ.of υ) ?_;let s:ζ H2 (upd H2 p (.tup [.str "not",.str "both",.str "either"])):=ζ.upd x;generalize upd H2 p (.tup [.str "not",.str "both",.str "either"])=H3 at s⊢;let g:=f<|>s;rw[show fL (V.str ("not":Str)) [V.str ("not":Str),V.str ("both":Str),V.str ("either":Str)]=true by fin2];lk;symm;lk;show #[b,a,rfl,g.seq j,q.same g]
inductive RJ(mg:MG):Sp
 |mk (b:δ) (cs:List ο) (z:Str) (n:Nat):vs=[.ref b,.str z]->aj H b cs->↥z<=3000->uR cs (χ 32 z) n->fM mg H E n
def Vz:Def 9 "read_sieve" ["columns","text"] (RJ mg):=by
 exists yt,V8,i,#[b,cs,z,n,rfl,e,j,f,q],2,1;let g:=Aw 32 z;let l:=!adb;w_up;f_tup;show bU F.plainAttrs_str F.slot_str_split F.type_str_split (h:=?_);cbv;show m_split (c:=32) λp hp=>?_
 let#[a,ep,H,p,H1]:=Ρ hp (.lst ((χ 32 z).map V.str));w_up;show dw ?_>>=#[b,cs,p,χ 32 z,n,rfl,e.same a,θ.of ep,(),f,q.same a]
def Jg:Def 2 "read_order_word" ["columns","word"] (O8 (.ref (η mg "NoOrder"))):=by
 exists aac,Jg,F,#[a,cs,z,rfl,m,n,g,q],G.ano,I.ack,2,J oJ,1;let o:=IW z ↑1 none;let e1:("+":Str).cps.toList=[43]:=by fin2
 let i:("-":Str).cps.toList=[45]:=by fin2
 let es:(Ϗ z none ↑1).cps.toList=z.cps.toList.take 1:=RN z 1;let e:∀c:Nat,z.cps.toList.take 1=[c]↔z.cps.toList[0]?=↑c:=λc=>by
  cases z.cps.toList with
  |nil=>simp
  |cons x r=>simp
 let k1:V.str (Ϗ z none ↑1)=V.str "+"↔z.cps.toList[0]?=↑43:=by
  rw[<-e];constructor
  .intro h;let h2:Ϗ z none ↑1=μ "+":=by injection h
   rw[<-es,h2,e1]
  .intro h;let h2:Ϗ z none ↑1=μ "+":=d9 (by rw[es,h,e1]);rw[h2]
 let k2:V.str (Ϗ z none ↑1)=V.str "-"↔z.cps.toList[0]?=↑45:=by
  rw[<-e];constructor
  .intro h;let h2:Ϗ z none ↑1=μ "-":=by injection h
   rw[<-es,h2,i]
  .intro h;let h2:Ϗ z none ↑1=μ "-":=d9 (by rw[es,h,i]);rw[h2]
 w_up;cbv;show jZ () ?_;cbv;show jZ () ?_;cbv;show#[Ξ,λp hp=>?_];let#[f,ep,H,p,s]:=Ρ hp (.tup [.str "+",.str "-"]);show Cy (Δ.of ep) ?_;let u:fL (V.str (Ϗ z none ↑1)) [.str "+",.str "-"]=decide (z.cps.toList[0]?=↑43\/z.cps.toList[0]?=↑45):=by
  let j:∀y:Str,fZ (V.str y) (V.str (Ϗ z none ↑1))=decide (V.str (Ϗ z none ↑1)=V.str y):=λy=>by
   rw[ahT,decide_eq_true_eq];constructor
   .intro h;have:V.str y=V.str (Ϗ z none ↑1):=by simpa [fZ]using h
    show this.symm
   .intro h;rw[h];simp[fZ]
  rw[ahT,decide_eq_true_eq, <-k1, <-k2];show((fZ _ _||(fZ _ _||false))=true)↔_;rw[j,j,ath,aqg,decide_eq_true_eq,decide_eq_true_eq]
 rw[u];cbv;show aY (λh=>?_) (λh=>?_)
 .f_len;show dW Β T.xY ?_;cbv;show oU ?_;f_are;show#[z,rfl,(),_,4000,rfl,n,(),?_];cbv;intro v;cbv;show#[by rw[hsz];simp,g s f (if_neg λx=>h x.1)]
 .show Γ ?_;cbv;show#[a,cs,_,rfl,m.same f,λH1 B =>?_];let l :=f<|>B;cbv;show Μ (λh2=>?_) (λh2=>?_)
  .f_len;show dW Β T.xY ?_;cbv;show oU ?_;f_are;show#[_,rfl,(),_,4000,rfl,(),(),?_];cbv;intro v;cbv;show#[by rw[hsz];simp,g H1 l (if_neg λx=>x.2 h2)]
  .show Γ ?_;cbv;show#[Ξ,λt C=>?_]*>q t _ _ (l<|>(ζ.upd C)) (if_pos #[h,h2]) ?_;rw[υ];let D:decide (V.str (Ϗ z none ↑1)=V.str ("+":Str))=decide (z.cps.toList[0]?=↑43):=decide_eq_decide.mpr k1;rw[D]
def mX:Def 3 "read_order" ["columns","text"] (abp (.ref (η mg "NoOrder"))):=by
 show Ζ (S:=Zb) T.mX (λf _ _ _ s H vs Q E hr h=>?_);intro X _;let#[a,cs,z,rfl,hC,hz,j,q]:=h;let g1:=T.anJ;let n1:=T.bY;let n2:=T.Td;let nd:=Zb.nd;let oV:(["word","columns"]:List Str).Nodup:=by fin2
 let bB:(["name","up"]:List Str).Nodup:=by fin2
 let D1:=!Jg;let hsz:=ϯ;unfold ϕ at j q;w_up;cbv;show Μ (λh=>?_) (λh=>?_)
 .let h':z="":=by injection h
  cbv;show#[Ξ,λp hp=>?_]*>q p [] _ (ζ.upd hp) (if_pos h') hp #[[],υ,.nil]
 .let h':¬z="":=λe=>h (by rw[e])
  rw[if_neg h']at j q;show Γ ?_;w_up;f_tup;show bU PySem.F.plainAttrs_str PySem.F.slot_str_split PySem.F.type_str_split (h:=?_);cbv;show m_split (c:=32) λp1 O=>?_
  let U:=Aw 32 z;let n:=λy=> @Il 32 z y
  generalize χ 32 z=ws at j q U n⊢;let#[B,ue,H,p1,H1]:=Ρ O (.lst (ws.map V.str));let L:↥(ws.map V.str)=↥ws:=ϰ ..;let S1:θ K H1 p1 (ws.map V.str):=θ.of ue;cbv;rw[L];show Μ (λh2=>?_) (λh2=>?_)
  .f_len;show dW Β T.xY ?_;cbv;show#[by rw[hsz];simp,j H1 B (if_pos ())]
  .rw[if_neg ()]at j q;show Γ ?_;w_up;show ai2 ["word","columns"] (σ':=[none,↑(.ref a)]) (by rfl) Β rfl rfl (by rfl) (by rfl) (b8 (ς Bs)) (by intro _;rfl) nd (by rfl) (by rfl) ?_;cbv;show#[p1,_,rfl,S1,by rw[L];omega,λD=>∃o,D=[o,↑(.ref a)],λE' i v H'=>∃y,ws[i]?=↑y/\∃o,lE cs y=↑o/\∃t,v=.ref t/\t≠E'/\H' t=↑(.tup [.str o.1,.bl o.2]),#[none,rfl],λE' i v H2 W ys _ hk hp=>?_,λfp E' C s3 H0 F i D x H2 W xo Y hi m Z G hG=>?_,λE' H2 xs Y hl M e2 Z =>?_]
   .let#[y,a1,o,a2,t,a3,a4,a5]:=hp;show#[y,a1,o,a2,t,a3,a4,hk t _ a4 a5]
   .let#[o,rfl]:=m;let#[M,rfl]:=hG;rw[acS]at M;let#[y,ey,rfl]:=ahh.mp M;let hyl:=n y (abD ey);show ω oV ?_;cbv;let g:=B<|>Z;show#[a,cs,y,rfl,hC.same g,(),λH' l e=>?_,λt o H' l e et=>?_]
    .show j H' (g<|>l) (by rw[YS (abD ey) e])
    .let#[ys,aa,_]:=G;show#[#[_,rfl],#[y,ey,o,e,t,rfl,λz=>?_,et],l];rw[z,l<*aa]at et;cases et
   .let#[os,eo,ha]:=RL (f:=lE cs) (R:=uq H2) (ws:=ws) (xs:=xs) (by rw[hl,L]) λi v e=>by
     let#[y,a1,o,a2,t,a3,a4,a5]:=M i v e;show#[y,a1,o,a2,t,a3,a5]
    rw[eo]at j q;let ab:=ha.len;let g:=B<|>Z;let ac:H E'=none:=by
     cases e:H E' with
     |none=>rfl
     |some u=>rw[B<*e]at Y;cases Y
    w_up;show sG ["name","up"] (σ':=[none,none]) (b8 (ς Bs)) nd ?_;cbv;show#[E',xs,rfl,θ.of e2,by rw[hl,L];omega,λD=>∃o1 o2,D=[o1,o2],λE2 i u H'=>∃c,os[i]?=↑c/\u=.str c.1,#[none,none,rfl],λE2 i u H2 W ys _ _ p=>p,λfp E2 C s3 H0 i D x H4 W aR hi m l G hG=>?_,λE2 H4 ys aR ae af e4 l=>?_]
    .let#[o1,o2,rfl]:=m;let#[bh,rfl]:=hG;let#[c,hc,t,rfl,ht]:=ha.get bh;show ϟ (Δ.of (l<*ht)) (Η (ω bB (Η (ω bB (Ϣ ?_)))));cbv;show#[#[_,_,rfl],#[c,hc,rfl],ζ.refl _]
    .let ey:=jJ (ys:=os) (λc=>V.str c.1) (by rw[ae,ab]) af;let lC:ys=(os.map Prod.fst).map V.str:=by rw[ey,aeu];rfl
     subst lC;let I:↥(os.map Prod.fst)<=4000:=by simp;omega
     w_up;cbv;show Yx (by rfl) (θ.of e4) I λS hS=>?_
     cbv;show QX υ I ?_;cbv;show HQ (.inl (θ.of ((ζ.upd hS)<*e4))) ?_;cbv;let J:ζ H2 (upd H4 S (nF X S (os.map Prod.fst))):=l<|>(ζ.upd hS);let Y0:=Jv _ (os.map Prod.fst) rfl;generalize upd H4 S (nF X S (os.map Prod.fst))=H5 at J⊢;rw[ϰ (f:=V.str)];show aY (λh3=>?_) (λh3=>?_)
     .let h4:¬(os.map Prod.fst).Nodup:=λz=>h3 (by rw[Y0.mpr z])
      f_len;show dW Β T.xY ?_;cbv;show#[by rw[hsz];simp,j H5 (g<|>J) (if_neg h4)]
     .let h4:(os.map Prod.fst).Nodup:=Y0.mp (by injection h3 with h5;omega);show Γ ?_;cbv;show q E' os H5 (g<|>J) (if_pos h4) ac #[xs,J<*e2,ha.imp λu c r=>r.same J]
def aL(a:Str)(v:V):Prop:=v=.non\/(a="number"/\∃i,v=.int i/\ -1000000000000000000<=i/\i<=1000000000000000000)\/(¬a="number"/\∃z,v=.str z/\↥z<=20/\∀c∈z.cps.toList,c∈SG)
def aL.sc(h:aL a v):scalar v=true:=by
 obtain rfl|⟨_,i,rfl,_⟩|⟨_,z,rfl,_⟩:=h<;>rfl
def aL.jL(h:aL a v):jL v=true/\∀z,v=.str z->fO 4000 z:=by
 obtain rfl|⟨_,i,rfl,_⟩|⟨_,z,rfl,f,c⟩:=h
 .show#[rfl,λz e=>by cases e]
 .show#[rfl,λz e=>by cases e]
 .show#[rfl,λy e=>by cases e;show fO.sg () c]
theorem mK{α β:Type}{R:α->β->Prop}:∀{l:List α}{m:List β},↥m=↥l->(∀(i:Nat) b,m[i]?=↑b->∃a,l[i]?=↑a/\R a b)->Α R l m
 |[],[],_,_=>.nil
 |[],_::_,h,_=>by simp at h
 |_::_,[],h,_=>by simp at h
 |a::l,b::m,h,g=>by
  let#[a',e,r]:=g 0 b rfl;have:a=a':= ~~~e
  subst this;show .cons r (mK (~~~h) λi x e=>~~~g (i+1) x (~~~e))
abbrev Row:=Int×List V
def tY(H:Hp)(v:V)(r:Row):=∃t l,v=.ref t/\H t=↑(.tup [.int r.1,.ref l])/\H l=↑(.lst r.2)
def kZ(H:Hp)(a:δ)(c:List Row):=∃vs:List V,H a=↑(.lst vs)/\ Α (tY H) vs c
def bx(cs:List ο)(r:Row):Prop:=Α (λc x=>aL c.2 x) cs r.2
def aL.fQ(h:aL c x)(g:aL c y):fQ x y:=by
 obtain rfl|⟨e,i,rfl,_⟩|⟨e,z,rfl,_⟩:=h
 .show .inl rfl
 .obtain rfl|⟨_,j,rfl,_⟩|⟨a,z,rfl,_⟩:=g
  .show .inr (.inl rfl)
  .show .inr (.inr (.inl #[_,_,rfl,rfl]))
  .show absurd e a
 .obtain rfl|⟨a,j,rfl,_⟩|⟨_,z,rfl,_⟩:=g
  .show .inr (.inl rfl)
  .show absurd a e
  .show .inr (.inr (.inr #[_,_,rfl,rfl]))
def SN(x:V):before x x=false:=by
 cases x with
 |non=>rfl
 |int i=>show decide_eq_false ()
 |str z=>show decide_eq_false (atO _)
 |_=>rfl
def afo(h:fQ x y)(l:scalar x=true)(a:scalar y=true)(c:¬x=y):before y x= !before x y:=by
 cases x with
 |non=>
  cases y with
  |non=>show absurd rfl c
  |int j=>rfl
  |str z=>rfl
  |_=>show absurd a abW
 |int i=>
  cases y with
  |non=>rfl
  |int j=>
   let m:¬i=j:=λe=>c (by rw[e])
   show decide (j<i)= !decide (i<j);by_cases h1:i<j
   .rw[decide_eq_true h1,decide_eq_false ()];rfl
   .rw[decide_eq_false h1,decide_eq_true ()];rfl
  |str z=>obtain z|z|⟨_,_,_,z⟩|⟨_,_,z,_⟩:=h<;>cases z
  |_=>show absurd a abW
 |str z=>
  cases y with
  |non=>rfl
  |int j=>obtain z|z|⟨_,_,z,_⟩|⟨_,_,_,z⟩:=h<;>cases z
  |str y=>
   let f:¬z.cps.toList=y.cps.toList:=λe=>c (by rw[d9 e])
   show decide (y.cps.toList<z.cps.toList)= !decide (z.cps.toList<y.cps.toList);by_cases h1:z.cps.toList<y.cps.toList
   .rw[decide_eq_true h1,decide_eq_false (List.lt_asymm h1)];rfl
   .let h2:y.cps.toList<z.cps.toList:=by
     by_cases g:y.cps.toList<z.cps.toList
     .show g
     .show absurd (List.le_antisymm (atL.mp g) (atL.mp h1)) f
    rw[decide_eq_false h1,decide_eq_true h2];rfl
  |_=>show absurd a abW
 |_=>show absurd l abW
def mV(cs:List ο)(z:Str):Str:=match cs[ϑ cs z]? with
 |some c=>c.2
 |none=>μ ""
def jz(cs:List ο)(os:List Ord)(xs:List V):Prop:=Α (λ(o:Ord) x=>aL (mV cs o.1) x) os xs
theorem rM(h:bx cs r):∀{os:List Ord},dR cs os->jz cs os (jq cs os r.2)
 |[],_=>.nil
 |o::os,a=>by
  show .cons ?_ (rM h λx e=>a x (by simp[e]));let#[c,hc,_]:=Qx (a o (by simp));let#[v,f,g]:=h.get hc;show aL (mV cs o.1) (dB cs r.2 o.1);unfold mV dB;rw[hc,f];show g
def Fz(cs:List ο)(os:List Ord)(r q:Row):Bool:=wR os (jq cs os r.2) (jq cs os q.2) r.1 q.1
def Line(cs:List ο)(os:List Ord)(a:List Row):Prop:=a.Pairwise λr q=>Fz cs os r q=true
def lD:V->List V
 |.non=>[]
 |x=>[x]
def jA(a:List Row)(q:List Nat):List Row:=q.map λi=>a.getD i (0,[])
theorem JL(h:Α R ws a):∀{q:List Nat},(∀i∈q,i<↥ws)->Α R (eF ws q) (jA a q)
 |[],_=>.nil
 |i::q,c=>by
  let hi:=c i (by simp);let e:ws[i]?=↑(ws[i]'hi):=aad hi;let#[r,f,g]:=h.get e;show Α R (ws.getD i .non::eF ws q) (a.getD i (0,[])::jA a q);rw[ac0,ac0,e,f];show .cons g (JL h λj l=>c j (by simp[l]))
theorem map_getD{α:Type}(d:α):∀(l:List α),(agB ↥l).map (λi=>l.getD i d)=l
 |[]=>rfl
 |a::l=>by
  rw[acz,asN,adY,aeu];show a::_=_
  congr 1
  show map_getD d l
def Yh(h:fX ↥rs lt q):(jA rs q).Perm rs:=by
 have:=h.1.map λi=>rs.getD i (0,[])
 rw[map_getD]at this;show this
def qj{a:List Row}(h:i<↥a):a.getD i (0,[])=a[i]:=by
 rw[ac0,aad h];rfl
def Qi(g:aL f x)(a:aL f y):aX (lD x) (lD y)=before x y:=by
 obtain rfl|⟨e,i,rfl,_⟩|⟨e,z,rfl,_⟩:=g
 .obtain rfl|⟨_,j,rfl,_⟩|⟨_,z,rfl,_⟩:=a<;>rfl
 .obtain rfl|⟨_,j,rfl,_⟩|⟨c,z,rfl,_⟩:=a
  .rfl
  .rfl
  .show absurd e c
 .obtain rfl|⟨c,j,rfl,_⟩|⟨_,z,rfl,_⟩:=a
  .rfl
  .show absurd c e
  .rfl
def ag7(m:(a.map Prod.fst).Nodup)(g:fX ↥a (jt false λi j=>decide ((a.getD i (0,[])).1<(a.getD j (0,[])).1)) q):Line cs [] (jA a q):=by
 unfold Line jA;rw[aqV];let l:q.Nodup:=(g.1.nodup_iff).mpr atB;show(g.2.and l).imp_of_mem λ{i j} hi n h=>?_;let#[h,o]:=h;let c:=oY g hi;let f:=oY g n;show decide ((a.getD i (0,[])).1<(a.getD j (0,[])).1)=true;let hd:¬(a.getD i (0,[])).1=(a.getD j (0,[])).1:=λe=>by
  rw[qj c,qj f]at e;let p:(a.map Prod.fst)[i]'(~~~c)=(a.map Prod.fst)[j]'(~~~f):= ~~~e
  show o ((arx m).mp p)
 obtain h|⟨h,_⟩:=h
 .show h
 .let h':decide ((a.getD j (0,[])).1<(a.getD i (0,[])).1)=false:=h;have:=of_decide_eq_false h';show decide_eq_true ()
def bJ(a:List Row)(p:Nat)(i:Nat):List V:=lD (((a.getD i (0,[])).2[p]?).getD .non)
def abB{os:List Ord}{o:Ord}{rs:List Row}{q:List Nat}(z:dR cs (o::os))(B:∀r∈rs,bx cs r)(h:Line cs os rs)(p:fX ↥rs (jt (!o.2) λi j=>aX (bJ rs (ϑ cs o.1) i) (bJ rs (ϑ cs o.1) j)) q):Line cs (o::os) (jA rs q):=by
 unfold Line jA;rw[aqV];let s:q.Nodup:=(p.1.nodup_iff).mpr atB;show(p.2.and s).imp_of_mem λ{i j} hi D f=>?_;let#[f,G]:=f;let a:=oY p hi;let c:=oY p D;let E:rs.getD i (0,[])∈rs:=by rw[qj a];show ak7 a
 let F:rs.getD j (0,[])∈rs:=by rw[qj c];show ak7 c
 let g:aL (mV cs o.1) (dB cs (rs.getD i (0,[])).2 o.1):=by
  cases rM (B _ E) z with|cons h _=>show h
 let l:aL (mV cs o.1) (dB cs (rs.getD j (0,[])).2 o.1):=by
  cases rM (B _ F) z with|cons h _=>show h
 let m:aX (bJ rs (ϑ cs o.1) i) (bJ rs (ϑ cs o.1) j)=before (dB cs (rs.getD i (0,[])).2 o.1) (dB cs (rs.getD j (0,[])).2 o.1):=Qi g l;let n:aX (bJ rs (ϑ cs o.1) j) (bJ rs (ϑ cs o.1) i)=before (dB cs (rs.getD j (0,[])).2 o.1) (dB cs (rs.getD i (0,[])).2 o.1):=Qi l g;let an:=afo (g.fQ l) g.sc l.sc;let u:i<j->Fz cs os (rs.getD i (0,[])) (rs.getD j (0,[]))=true:=λv=>by
  rw[qj a,qj c];show ass.mp h i j a c v
 show(if dB cs (rs.getD i (0,[])).2 o.1=dB cs (rs.getD j (0,[])).2 o.1 then Fz cs os (rs.getD i (0,[])) (rs.getD j (0,[]))else decide (before (dB cs (rs.getD i (0,[])).2 o.1) (dB cs (rs.getD j (0,[])).2 o.1)=o.2))=true;generalize dB cs (rs.getD i (0,[])).2 o.1=x at g m n an⊢;generalize dB cs (rs.getD j (0,[])).2 o.1=y at l m n an⊢;by_cases e:x=y
 .rw[if_pos e];show u ?_;subst e;obtain h1|⟨_,h1⟩:=f
  .unfold jt at h1;split at h1
   .let h1:aX (bJ rs (ϑ cs o.1) j) (bJ rs (ϑ cs o.1) i)=true:=h1;rw[n,SN]at h1;cases h1
   .let h1:aX (bJ rs (ϑ cs o.1) i) (bJ rs (ϑ cs o.1) j)=true:=h1;rw[m,SN]at h1;cases h1
  .show h1
 .rw[if_neg e];let C:=an e;show decide_eq_true ?_;cases hu:o.2 with
  |true=>
   rw[hu]at f;obtain h1|⟨h1,_⟩:=f
   .let h1:aX (bJ rs (ϑ cs o.1) i) (bJ rs (ϑ cs o.1) j)=true:=h1;rw[m]at h1;show h1
   .let h1:aX (bJ rs (ϑ cs o.1) j) (bJ rs (ϑ cs o.1) i)=false:=h1;rw[n,C]at h1;simpa using h1
  |false=>
   rw[hu]at f;obtain h1|⟨h1,_⟩:=f
   .let h1:aX (bJ rs (ϑ cs o.1) j) (bJ rs (ϑ cs o.1) i)=true:=h1;rw[n,C]at h1;simpa using h1
   .let h1:aX (bJ rs (ϑ cs o.1) i) (bJ rs (ϑ cs o.1) j)=false:=h1;rw[m]at h1;show h1
def ah4{o:Ord}(j:∃c∈cs,c.1=o.1)(l:∀r∈rs,bx cs r):tD (bJ rs (ϑ cs o.1)):=by
 let a:∀i,aL (mV cs o.1) (((rs.getD i (0,[])).2[ϑ cs o.1]?).getD .non):=λi=>by
  by_cases hi:i<↥rs
  .let m:rs.getD i (0,[])∈rs:=by rw[qj hi];show ak7 hi
   cases rM (os:=[o]) (l _ m) (λp hp=>by cases ab7.mp hp;show j)with|cons h _=>show h
  .let e:rs.getD i (0,[])=(0,[]):=by rw[ac0,aro ()];rfl
   rw[e];show .inl rfl
 show#[λi=>?_,?_]
 .show oO (lD _);obtain e|⟨_,n,e,_⟩|⟨_,z,e,_⟩:=a i<;>rw[e]
  .show .inl rfl
  .show .inr #[_,rfl]
  .show .inr #[_,rfl]
 .by_cases g:mV cs o.1="number"
  .show .inl λi x h=>?_
   let h:lD (((rs.getD i (0,[])).2[ϑ cs o.1]?).getD .non)=[x]:=h;obtain e|⟨_,n,e,_⟩|⟨f,z,e,_⟩:=a i
   .rw[e]at h;cases h
   .rw[e]at h;cases h;show#[n,rfl]
   .show absurd g f
  .show .inr λi x h=>?_
   let h:lD (((rs.getD i (0,[])).2[ϑ cs o.1]?).getD .non)=[x]:=h;obtain e|⟨f,n,e,_⟩|⟨_,z,e,_⟩:=a i
   .rw[e]at h;cases h
   .show absurd f g
   .rw[e]at h;cases h;show#[z,rfl]
inductive Nm(K:ϩ):Sp
 |mk (t:δ) (n:Int) (x:V):vs=[.ref t]->H t=↑(.tup [.int n,x])->Q (.int n) H
def Hr:Def 1 "number_of" ["told"] (Nm K):=by
 exists ["told"],Hr,c,#[t,n,x,rfl,a,q];symm;lk;show gZ (Δ.of a) (show Ϛ [V.int n,x] 0=↑(V.int n)from rfl) ?_*>q
inductive Z7(K:ϩ):Sp
 |mk (x:V):vs=[x]->(∀p H',ζ H H'->H p=none->H' p=↑(.tup (lD x))->Q (.ref p) H')
def Gb:Def 1 "rank_of" ["value"] (Z7 K):=by
 exists ["value"],Gb,a,#[x,rfl,q],1;symm;lk;show Μ (λe=>?_) (λe=>?_)
 .lk;show#[Ξ,λp hp=>?_];subst e;show q p _ (ζ.upd hp) hp υ
 .lk;show#[Ξ,λp hp=>?_];let ex:lD x=[x]:=by
   cases x with
   |non=>show absurd rfl e
   |_=>rfl
  show q p _ (ζ.upd hp) hp (by rw[ex];show υ)
inductive Eg(K:ϩ):Sp
 |mk (p:δ) (i:Nat) (up:Bool) (ws:List V) (rs:List Row):vs=[.ref p,.int i,.bl up]->H p=↑(.lst ws)->Α (tY H) ws rs->↥rs<64->(∀r∈rs,i<↥r.2)->tD (bJ rs i)->H (aP K "sorted_by")=↑(.tbl cX)->(∀q pl H',ζ H H'->H pl=none->fX ↥rs (jt (!up) λa b=>aX (bJ rs i a) (bJ rs i b)) q->H' pl=↑(.lst (eF ws q))->Q (.ref pl) H')
def Fp(R:Ϟ K mg base "sorted_by"):Def 6 "sorted_by" ["rows","place","up"] (Eg K):=by
 show akT T.Fp R XF (λ_ _ _ _ _ _ us S=>by let#[_,_,_,rfl]:=aaz S;rfl) (λvs H Q E h=>by let#[p,i,up,ws,rs,rfl,_]:=h;rfl) (λf A outer s H vs Q E U h=>?_);let#[p,i,up,ws,rs,rfl,hp,D,h64,F,O,hP,q]:=h;let nd:=XF.nd;let n1:=T.qU;let G:=D.len;let hsz:=ϯ;w_up;show abH (c:=jb K "sorted_by") (P:=aP K "sorted_by") (ps:=cX) (j:=3) (qual:="sorted_by.<locals>.rank") (clos:=[("place",⇑s+1)]) nd (by rfl) (by rfl) (by rfl) R.code R.bm (by rfl) hP (akU _ _) (by change (μ "sorted_by"++μ ".<locals>.")++μ "rank"=_;fin2) (by rfl) (by rfl) (by rfl) ?_;intro C c' oc doc pm ctv vs t' H1 m hfr Y n Z hq;let#[u1,n]:=n;let hK:∀(X:Cx)(σ:_L.St),X=fD true P w K mg base Yw "sorted_by" (ς ym) f (.ref (jb K "sorted_by")) A outer s H E->σ=[↑(.ref p),↑(.int i),↑(.bl up),↑(.ref C)]->xg X σ (.ref C) ws H1 (aa3 (bJ rs i)):=by
  intro X σ eX aa;subst eX;subst aa;show#[λk v H2 H3 J h=>?_,λk x u ϵ o H2 hx ru J I=>?_]
  .let#[a,e,h]:=h;show#[a,e,J<*h]
  .let#[r,B,t,l,rfl,ht,S]:=D.get hx;let hkl:=(aas.mp B).1;let L:=F r (abD B);let ύ:=m<|>J;show afP (j:=1) (v:=.ref t) (z:=.int i) (x:="told") (y:="place") I (J<*Y) (J<*n) Z hq U.in1.in1.depth (λ_ _ _ _ _=>rfl) (by rfl) (by rfl) (by rfl) (by rfl) (by rfl) (by fin2) (λa ha=>?_) (by rfl) (by rfl) (by rfl) (by rfl) ru ?_
   .let h:=PySem.mem_of_lookup ha;change (a,NameKind.free)∈[(μ "told",NameKind.local),(μ "place",NameKind.free),(μ "rank_of",NameKind.globalImplicit)]at h;obtain e|h:=aaT.mp h
    .cases e
    .obtain e|h:=aaT.mp h
     .show congrArg Prod.fst e
     .cases ab7.mp h
   .let D1:= @Gb P w K mg base T;let hr':=((U.in1).in1).deeper (W.envX "sorted_by.<locals>.rank" (ς (jW (ϣ ym) 0)) ⇑o C (.ref c') [("place",⇑s+1)]);symm;lk;show gZ (Δ.of (ύ<*ht)) (show Ϛ [V.int r.1,V.ref l] 1=↑(V.ref l)from rfl) ?_>>=ϐ (θ.of (ύ<*S)) (bH (aad L)) ?_>>=#[_,rfl,λa H3 s3 ha h3=>?_]*>#[s3,a,rfl,?_];rw[h3];unfold bJ;rw[ac0,B];show _=↑(HO.tup (lD ((r.2[i]?).getD .non)));rw[aad L];rfl
 let hu:=U.in1.in1.units0;change Φ _ _ _ [↑(.ref p),↑(.int i),↑(.bl up),↑(.ref C)] H1;w_up;show Θ ?_;lk;cases up with
 |true=>
  walk_at"t";symm;show Mj n1 ?_>>=#[p,C,ws,_,_,rfl,rfl,θ.of (m<*hp),(),V5 O,hK _ _ rfl rfl,Rx hu O,λpl H2 qq o g M=>?_];rw[G]at M;show q qq pl _ ((m<|>o)<|>(ζ.upd g)) ((m<|>o).free g) M υ
 |false=>
  walk_at"t";show Γ ?_;symm;show abX (b:=true) (by rfl) n1 (by rfl) ?_>>=#[rfl,p,C,ws,_,_,rfl,rfl,θ.of (m<*hp),(),V5 O,hK _ _ rfl rfl,Rx hu O,λpl H2 qq o g M=>?_];rw[G]at M;show q qq pl _ ((m<|>o)<|>(ζ.upd g)) ((m<|>o).free g) M υ
def gP(q:δ)(H H':Hp)(v:V)(r:Row):=∃t l,v=.ref t/\H t=none/\H l=none/\l≠q/\H' t=↑(.tup [.int r.1,.ref l])/\H' l=↑(.lst r.2)
def gP.row(h:gP q H H' v r):tY H' v r:=by
 let#[t,l,e,_,_,_,h1,h2]:=h;show#[t,l,e,h1,h2]
def gP.same(h:gP q H H' v r)(s:ζ H' H2):gP q H H2 v r:=by
 let#[t,l,e,a,b,c,h1,h2]:=h;show#[t,l,e,a,b,c,s<*h1,s<*h2]
def gP.turn(h:gP q H H' v r)(g:H' f=none):gP f H H' v r:=by
 let#[t,l,e,a,b,c,h1,h2]:=h;show#[t,l,e,a,b,(λz=>by rw[z,g]at h2;cases h2),h1,h2]
inductive wz(K:ϩ):Sp
 |mk (c b p:δ) (cs:List ο) (os:List Ord) (rs:List Row):vs=[.ref c,.ref b,.ref p]->aj H c cs->eQ H b os->kZ H p rs->↥cs<=6->↥os<=6->dR cs os->↥rs<64->(∀r∈rs,bx cs r)->(rs.map Prod.fst).Nodup->H (aP K "sorted_by")=↑(.tbl cX)->(∀q ws ls H',ζ H H'->H q=none->H' q=↑(.lst ws)->Α (gP q H H') ws ls->Line cs os ls->ls.Perm rs->Q (.ref q) H')
def uB(hN:Ϟ K mg base "sorted_by"):Def 8 "line_of" ["columns","order","rows"] (wz K):=by
 show Ζ (S:=Xv) T.uB (λf Ϲ A outer s H vs Q E g h=>?_);let#[c,b,p,cs,os,rs,rfl,hC,#[ov,hb,Y],#[ws,hp,Z],hc6,Cu,ϻ,h64,aa,af,hP,q]:=h;let nd:=Xv.nd;let n1:=T.qU;let n2:=T.abu;let n3:=T.pN;let hwl:=Z.len;let ag:=Y.len;let hsz:=ϯ;let bB:(["row","values"]:List Str).Nodup:=by fin2
 let D1:=!Hr;let D2:=!oJ;let D3:Def P w K mg base true 6 "sorted_by" ["rows","place","up"] (Eg K):=Fp T hN;w_up;f_tup;show Mj n1 ?_*>jw ["row","values"] (σ':=[none,none]) (b8 (ς Ad)) ?_>>=#[p,ws,rfl,θ.of hp,(),λτ=>∃o1 o2,τ=[o1,o2],λE2 k u H'=>∃r,rs[k]?=↑r/\gP E2 H H' u r,#[none,none,rfl],λE2 k u H2 H3 ys hE L p=>?_,λfp E2 C s3 H0 k τ x H4 H5 aR hi ah ϋ R hG=>?_,λq0 H2 us hq0 m ai e2 s2=>?_]
 .let#[r,g,t,l,e,h1,h2,h3,h4,h5]:=p;show#[r,g,t,l,e,h1,h2,h3,L _ _ (λz=>by rw[z,hE]at h4;cases h4) h4,L _ _ h3 h5]
 .let#[o1,o2,rfl]:=ah;let#[bh,rfl]:=hG;let#[r,g,t,l,rfl,ht,hl]:=Z.get bh;let#[ys,R]:=R;show ϟ (Δ.of (ϋ<*ht)) (Η (ω bB (Η (ω bB (Ϣ ?_)))))>>=qJ (.inl (θ.of (ϋ<*hl))) λa m=>?_
  let#[G,e5]:=Ρ m (.lst r.2);let nl:a≠E2:=λe=>by rw[e,R]at m;cases m
  generalize upd H4 a (.lst r.2)=H5 at G e5⊢;lk;show#[Ξ,λt2 dO=>?_];let s6:ζ H5 (upd H5 t2 (.tup [.int r.1,.ref a])):=ζ.upd dO;show#[#[_,_,rfl],#[r,g,t2,a,rfl,(ϋ<|>G).free dO,ϋ.free m,nl,υ,s6<*e5],G<|>s6]
 let U:Α (gP q0 H H2) us rs:=mK () λk r g=>by
  let L:k<↥us:=by have:=(aas.mp g).1;omega
  let#[r',ab,hn]:=ai k _ (aad L);rw[g]at ab;cases ab;show#[_,aad L,hn]
 let BW:=U.len;let#[fa,ak,pI]:=acj (σ:=[↑(.ref c),↑(.ref b),↑(.ref p),none,none,none]) (X:=fD true P w K mg base Ye "line_of" (ς Ad) f Ϲ A outer s H E) (H:=H2) (xs:=us) (KV:=YW λi=>(rs.getD i (0,[])).1) D1 (g.mono (show 1+2<=7 by decide)) (λi v H H' _ h=>h) (λi x H' hx y=>by
  let#[r,g,t,l,rfl,_,_,_,ht,hl]:=U.get hx;show#[t,r.1,.ref l,rfl,y<*ht,ζ.refl _,?_];show V.int r.1=V.int (rs.getD i (0,[])).1;rw[ac0,g];rfl)
 show aho ak (by rfl) (by decide) ?_*>#[q0,fa,us,_,_,rfl,rfl,θ.of e2,(),aj5,pI,ago,λp1 H3 n s3 I M=>?_];rw[BW]at M;let j:Α (gP p1 H (upd H3 p1 (.lst (eF us n)))) (eF us n) (jA rs n):=(JL U λi hi=>by rw[BW];show oY M hi).imp λu r z=>((z.same s3).turn I).same (ζ.upd I)
 let B:=ag7 (cs:=cs) af M;let D:=Yh M;let Ι :ζ H (upd H3 p1 (.lst (eF us n))):=(s2<|>s3)<|>(ζ.upd I);let al:H p1=none:=(s2<|>s3).free I;let ue:(upd H3 p1 (.lst (eF us n))) p1=↑(.lst (eF us n)):=υ;generalize upd H3 p1 (.lst (eF us n))=H4 at j Ι ue⊢;generalize eF us n=w1 at j ue;generalize jA rs n=l1 at j B D;w_up;show Sv (by walk_at"po") (by rfl) (by rfl) n2 (by rfl) ?_>>=#[b,ov,rfl,θ.of (Ι<*hb),λi σ H'=>(∃o4 o5 O w2 a,σ=[↑(.ref c),↑(.ref b),↑(.ref p),↑(.ref O),o4,o5]/\ζ H H'/\H O=none/\H' O=↑(.lst w2)/\ Α (gP O H H') w2 a/\Line cs (os.drop (↥os-i)) a/\a.Perm rs),?_,λi σ' H' _ F=>?_,λi x σ' H' hi hx F=>?_,λσ' H' F=>?_]
 .show#[none,none,p1,w1,l1,rfl,Ι,al,ue,j,?_,D];rw[ari,apA];show B
 .let#[_,_,_,_,_,_,y,_]:=F;show θ.of (y<*hb)
 .let#[o4,o5,O,w2,a,rfl,y,ac,Gx,hA,hL,cz]:=F;let#[o,ho,t,rfl,ht]:=Y.get hx;let J:=ϻ o (abD ho);let hlt:=ur J;let m:↥a=↥rs:=cz.length_eq;let am:=hA.len;let HY:∀r∈a,bx cs r:=λr g=>aa r (cz.mem_iff.mp g)
  show ϟ (Δ.of (y<*ht)) (Η (ω nd (Η (ω nd (Ϣ ?_)))));f_len;f_tup;lk;show#[c,cs,o.1,rfl,hC.same y,λH5 G=>?_];rw[wX 0 J,anF];lk;show#[O,ϑ cs o.1,o.2,w2,a,rfl,G<*Gx,hA.imp λu r z=>(z.same G).row,(),λr g=>by have:=(HY r g).len;omega,ah4 J HY,G<*(y _ _ hP),λn pl H6 s6 ae M an=>?_];let lF:=(y<|>G)<|>s6;let ar:H pl=none:=(y<|>G).free ae;show#[_,_,pl,eF w2 n,jA a n,rfl,lF,ar,an,(JL hA λi hi=>by rw[am];show oY M hi).imp λu r z=>?_,?_,(Yh M)<|>cz]
  .show((z.same G).turn ae).same s6
  .let W:os.drop (↥os-(i+1))=o::os.drop (↥os-i):=by
    let L:↥os-(i+1)<↥os:=()
    rw[show ↥ov-1-i=↥os-(i+1)by omega]at ho;rw[aie L];let e1:=aad L;rw[ho]at e1;cases e1;rw[show ↥os-(i+1)+1=↥os-i by omega]
   rw[W];show abB (λo' av=>by
    obtain rfl|h:=aaT.mp av
    .show J
    .show ϻ _ (ali h)) HY hL M
 .let#[o4,o5,O,w2,a,rfl,y,ac,Gx,hA,hL,cz]:=F;symm;lk;rw[ag,asZ,akR]at hL;show q O w2 a H' y ac Gx hA hL cz
def aG(B:Bk)(row:Int)(o:Option (List V)):Bk:=
 {B with rows:=(match o with|none=>az B.rows row|some xs=>aD B.rows row xs),touched:=(match o with|none=>az B.touched row|some _=>aD B.touched row (B.now+1)),
         done:=B.done++[#[B.now+1,row,Ε B.rows row,o]],now:=B.now+1}
def oM(B:Bk):Prop:=↥B.rows<1000000/\↥B.touched<1000000/\↥B.done<1000000
def qT(B:Bk):=∀i,Ε B.rows i=none↔ Ε B.touched i=none
abbrev cB(mg:MG):δ:=η mg "Book"
inductive mZ(mg:MG):Sp
 |mk (A:BA) (B:Bk) (row:Int) (v:V) (o:Option (List V)):vs=[.ref A.b,.int row,v]->Κ (cB mg) H A B->mq H v o->(o=none->Ε B.rows row≠none/\ Ε B.touched row≠none)->oM B->(∀H',Out A.fp H H'->Κ (cB mg) H' A (aG B row o)->Q (.int (B.now+1)) H')
def Hb:FD 1 "do" "Book.do" yp ["self","row","values"] (mZ mg):=by
 show ϡ (S:=Qn) (λf Ϲ A' outer s H vs Q E hr h=>?_);intro X _;let#[A,B,row,v,o,rfl,l,W,Y,#[z1,z2,z3],q]:=h;let nd:=Qn.nd;let hsz:=ϯ;let hc:=T.ώ;let Z:=T.t8;let a2:=T.HS;let a3:=T.xV;let J:=T.Ar;let hu:_+1<cLine:=af6 (ahC (by decide:1<=64) _) hr.units;let kR:=l.rows;let#[Ϸ,er,hR]:=id kR;let#[tvs,et,hT]:=l.touched;let#[ds,ed,hD]:=l.done;let kI:=l.ins;w_up;f_tup;show ah8 hu (by constructor<;>rfl) ?_*>aQ ?_;f_are;show#[A.b,_,_,_,_,rfl,kI,hc,Z,rfl,A.r,rfl,.inl #[_,.inl er],?_];f_are;show#[_,aK.k (k:=Sum.inl row) er,?_];let hw:mq H ((bu Ϸ (Sum.inl row)).getD .non) (Ε B.rows row):=by
  obtain⟨e1,g⟩|⟨u,x,e1,g,r⟩:=iz hR row
  .rw[e1,g];rfl
  .rw[e1,g];show r
 generalize(bu Ϸ (Sum.inl row)).getD .non=L at hw⊢;w_up;show adE ?_;f_are;show#[A.b,_,_,_,_,rfl,kI,hc,J,rfl,?_];f_are;show#[_,_,rfl,rfl,_,_,kI,by show 6<1000;decide,?_];let k1:=l.Dg B.known (B.now+1);let M:Out A.fp H _:=Out.upd (H:=H) (a:=A.b) (o:=.ins (cB mg) A.dx [("heads",.ref A.h),("rows",.ref A.r),("touched",.ref A.t),("done",.ref A.d),("known",.int B.known),("now",.int (B.now+1))]) (by simp[BA.fp]);change Φ _ _ _ _ (upd H A.b (.ins (cB mg) A.dx [("heads",.ref A.h),("rows",.ref A.r),("touched",.ref A.t),("done",.ref A.d),("known",.int B.known),("now",.int (B.now+1))]));generalize upd H A.b _=H1 at k1 M⊢;let mH:=k1.ins;let D:∀(H2:Hp)(m:Bk),Out A.fp H H2->Κ (cB mg) H2 A m->m={aG B row o with done:=B.done}->Φ X ((ϣ yp).drop 3) {nx:=λ_ H'=>Q .non H',rt:=Q} [↑(.ref A.b),↑(.int row),↑v,↑L] H2:=by
  intro H2 m i k2 g;let n:m.now=B.now+1/\m.done=B.done:=by rw[g];show#[rfl,rfl]
  let j:=k2.ins;let#[NP,Ru,p]:=k2.done;let st:=l.tup i;let aa:=hw.stay st;let Ik:=W.stay st;let ab:=p.len;rw[n.2]at ab p;rw[n.1]at j;w_up;show Ϡ (bU F.plainAttrs_list F.slot_list_append F.type_list_append (h:=?_))*>aQ ?_;f_are;show#[A.b,_,_,_,_,rfl,j,hc,a3,rfl,.inl #[rfl,_,θ.of Ru],?_];cbv;show aQ ?_;f_are;show#[A.b,_,_,_,_,rfl,j,hc,J,rfl,?_];cbv;show#[Ξ,λt ht=>?_];let#[y,z,H2,t,C]:=Ρ ht (.tup [.int (B.now+1),.int row,L,v]);let k3:=k2.same y;cbv;show iT Ao #[A.d,_,_,rfl,rfl,y<*Ru,(),?_];let vq:Α (lL C) (NP++[V.ref t]) (B.done++[#[B.now+1,row,Ε B.rows row,o]]):=Α.app (Α.imp (λv d h=>h.stay λb ys e=>y _ _ e) p) (.cons #[t,L,v,rfl,z,aa.stay λb ys e=>y _ _ e,Ik.stay λb ys e=>y _ _ e] .nil);let O:=k3.afv vq;let o4:Out A.fp H _:=(i<|>(Out.of y))<|>(Out.upd (H:=C) (a:=A.d) (o:=.lst (NP++[V.ref t])) (by simp[BA.fp]));generalize upd C A.d _=H4 at O o4⊢;let ac:=O.ins;symm;show aQ ?_;f_are;show#[A.b,_,_,_,_,rfl,ac,hc,J,rfl,?_];let e4:{m with done:=B.done++[#[B.now+1,row,Ε B.rows row,o]]}=aG B row o:=by rw[g];rfl
  rw[e4]at O;have:=q H4 o4 O;show Q (.int m.now) H4;rw[n.1];show this
 let#[R,qb,U]:=k1.rows;let#[arf,et1,ae]:=k1.touched;let af:=U.len;let htl:=ae.len;let z1':↥R<1000000:=by rw[af];show z1
 cases o with
 |none=>
  let ag:v=.non:=W;subst ag;let#[g1,g2]:=Y rfl;w_up;cbv;show v5 ?_*>aQ ?_;f_are;obtain⟨_,g⟩|⟨u,x,e1,_,_⟩:=iz U row
  .show absurd g g1
  show#[A.b,_,_,_,_,rfl,mH,hc,Z,rfl,A.r,rfl,.inl #[_,.inl qb],?_];f_are;show#[R,Sum.inl row,u,qb,rfl,e1,?_];let k2:=k1.Nk (ux U row);let i:Out A.fp H _:=M<|>(Out.upd (H:=H1) (a:=A.r) (o:=.dK (gJ R (Sum.inl row))) (by simp[BA.fp]));generalize upd H1 A.r _=H2 at k2 i⊢;let j:=k2.ins;let#[G,z,c]:=k2.touched;f_len;show Ϡ (v5 ?_)*>aQ ?_;f_are;obtain⟨_,g⟩|⟨u2,x2,e3,_,_⟩:=iz c row
  .show absurd g g2
  show#[A.b,_,_,_,_,rfl,j,hc,a2,rfl,A.t,rfl,.inl #[_,.inl z],?_];f_are;show#[G,Sum.inl row,u2,z,rfl,e3,?_];let k3:=k2.aaK (ux c row);let I:Out A.fp H _:=i<|>(Out.upd (H:=H2) (a:=A.t) (o:=.dK (gJ G (Sum.inl row))) (by simp[BA.fp]));generalize upd H2 A.t _=C at k3 I⊢;show D C _ I k3 rfl
 |some xs=>
  let#[t,rfl,ht]:=id W;w_up;cbv;show wy hu ?_;f_are;show aQ ?_;f_are;show#[A.b,_,_,_,_,rfl,mH,hc,Z,rfl,?_];f_are;show#[A.r,_,rfl,iQ.k (k:=Sum.inl row) qb (),?_];let k2:=k1.Nk (wM U row (v:=.ref t) (x:=xs) #[t,rfl,l.tup M _ _ ht]);let i:Out A.fp H _:=M<|>(Out.upd (H:=H1) (a:=A.r) (o:=.dK (putK R (Sum.inl row) (.ref t))) (by simp[BA.fp]));generalize upd H1 A.r _=H2 at k2 i⊢;let j:=k2.ins;let#[G,z,c]:=k2.touched;let z2':↥G<1000000:=by rw[c.len];show z2
  f_len;show wy hu ?_*>aQ ?_;f_are;show#[A.b,_,_,_,_,rfl,j,hc,J,rfl,?_]*>aQ ?_;f_are;show#[A.b,_,_,_,_,rfl,j,hc,a2,rfl,?_];f_are;show#[A.t,_,rfl,iQ.k (k:=Sum.inl row) z (),?_];let k3:=k2.aaK (wM c row (v:=.int (B.now+1)) (x:=B.now+1) rfl);let I:Out A.fp H _:=i.trans (Out.upd (H:=H2) (a:=A.t) (o:=.dK (putK G (Sum.inl row) (.int (B.now+1)))) (by simp[BA.fp]));generalize upd H2 A.t _=C at k3 I⊢;show D C _ I k3 rfl
def uJ:Def 1 "is_whole" ["value"] QQ:=by
 exists ["value"],uJ,a,#[v,rfl,hs,q],n1.yz,n2.QV,c.alN;symm;cases v with
 |non=>
  cbv;show q
 |int i=>
  cbv;show q
 |str z=>
  cbv;show q
 |_=>cases hs
def Hf:Def 2 "is_number_value" ["value"] Px:=by
 exists ["value"],Hf,a,#[v,rfl,hs,q],c.Vq,f uJ;symm;cbv;show#[v,rfl,hs,?_];cbv;cases v with
 |int i=>
  show uO (λ_=>?_) (λh=>by cases h);cbv;show Μ (λh=>?_) (λh=>?_)
  .cbv;let e:isNum (.int i)=decide (i<=1000000000000000000):=by unfold isNum;simp[h]
   rw[e]at q;show q
  .let e:isNum (.int i)=false:=by unfold isNum;simp[h]
   rw[e]at q;show q
 |non=>show uO (λh=>by cases h) (λ_=>q)
 |str z=>show uO (λh=>by cases h) (λ_=>q)
 |_=>cases hs
def Ef:Def 3 "is_value" ["kind","value"] SM:=by
 exists ["kind","value"],Ef,g,#[k,v,rfl,hs,f,q],i.Gg,j Hf,l yJ;w_up;cbv;show Μ (λh=>?_) (λh=>?_)
 .subst h;cbv;show q H (ζ.refl _)
 .cbv;let a:isVal k v=if k="number" then isNum v else jg v:=by cases v<;>first|rfl|show absurd rfl h
  show Μ (λh2=>?_) (λh2=>?_)
  .let c:k="number":=by cases h2;rfl
   rw[if_pos c]at a;rw[a]at q;cbv;show#[v,rfl,hs,q H (ζ.refl _)]
  .let c:¬k="number":=λe=>h2 (by rw[e])
   rw[if_neg c]at a;rw[a]at q;cbv;show#[v,rfl,hs,f,q]
def Gv:Def 2 "is_name" ["name"] U9:=by
 exists ["name"],Gv,c,#[z,rfl,a,q],n1.bY,e.afT,f.agA,1,g vG;symm;cbv;unfold isName at q;show Μ (λh=>?_) (λh=>?_)
 .cbv;show Μ (λh2=>?_) (λh2=>?_)
  .cbv;rw[decide_eq_true (show 1<=↥z/\↥z<=8 by omega)]at q;show#[z,_,rfl,a,q]
  .rw[decide_eq_false (show ¬(1<=↥z/\↥z<=8)by omega)]at q;show q H (ζ.refl _)
 .rw[decide_eq_false (show ¬(1<=↥z/\↥z<=8)by omega)]at q;cbv;show q H (ζ.refl _)
def tR(k a b:Str):fL (.str k) [.str a,.str b]=decide (k=a\/k=b):=by
 let e:∀a:Str,(a==k)=decide (k=a):=λa=>by rw[ahT,beq_iff_eq,decide_eq_true_iff];show eq_comm
 show((a==k)||((b==k)||false))=_;rw[e,e,ath,Bool.decide_or]
def KZ:Def 3 "ask_columns" ["columns"] (OD (.ref (η mg "NoColumns"))):=by
 exists X7,KZ,hr,#[a,cs,rfl,#[vs,I,l],hcl,J,q],n1.bY,n2.Td,g1.afK,g2.Gg,g3.RT,2,1;let sa:θ K H a vs:=.inl (.inl I);let qK:=l.len;let D1:=!Gv;let bB:(["name","kind"]:List Str).Nodup:=by fin2
 let f:ϗ cs=false->∀H',ζ H H'->E (.ref (η mg "NoColumns")) (none,true) H':=λe H' j=>by
  have:=q H' j;rw[e]at this;show this
 w_up;cbv;let Yn:¬(1<=↥cs/\↥cs<=6)->ϗ cs=false:=λh=>by
  unfold ϗ;rw[decide_eq_false h];rfl
 show Μ (λh1=>?_) (λh1=>?_)
 .cbv;show aY (λh2=>?_) (λh2=>?_)
  .f_len;show dW Β T.vp ?_;cbv;show#[by rw[hsz];simp,f (Yn ()) H (ζ.refl _)]
  .show Γ ?_;w_up;show sZ (by walk_at"po") (by rfl) (by intro _;rfl) ?_;cbv;show#[a,vs,rfl,sa,λi σ H'=>(∃m n L,σ=[↑(.ref a),m,n,L])/\ζ H H'/\∀k c,k<i->cs[k]?=↑c->isName c.1=true/\pK c.2=true,#[#[none,none,none,rfl],ζ.refl _,λk c G=>()],λi σ H' hi s=>.inl (.inl (s.2.1<*I)),λi x σ H' v s=>?_,λσ H' s=>?_]
   .let#[#[m,n,L,rfl],j,M]:=s;let#[c,hc,t,rfl,O]:=l.get v;let y:=abD hc;let R:=J c y;let N5:¬(isName c.1&&pK c.2)=true->ϗ cs=false:=λh=>by
     unfold ϗ;have:(cs.all λc=>isName c.1&&pK c.2)=false:=by
      rw[aj1];intro e;show h (aeN.mp e c y)
     rw[this,atN,aoC]
    show ϟ (Δ.of (j<*O)) (Η (ω nd (Η (ω nd (Ϣ ?_)))));w_up;cbv;show#[c.1,rfl,R.1,λH2 z =>?_];cbv;let g:=j<|>z;show JB (λU=>?_) (λU=>?_)
    .f_len;show dW Β T.vp ?_;cbv;show oU ?_;f_are;show#[c.1,rfl,(),_,4000,rfl,R.1,(),?_];cbv;intro zz;cbv;show#[by rw[hsz];simp,f (N5 (by rw[U];simp)) H2 g]
    .show Γ ?_;f_len;cbv;show#[Ξ,λp hp=>?_];let B:=g<|>(ζ.upd (o:=.tup [.str "number",.str "text"]) hp);show Cy (Δ.of υ) ?_;cbv;let ek:fL (.str c.2) [.str "number",.str "text"]=pK c.2:=tR _ _ _;rw[ek];show JB (λW=>?_) (λW=>?_)
     .f_len;show dW Β T.vp ?_;cbv;show oU ?_;f_are;show#[c.2,rfl,(),_,4000,rfl,R.2,(),?_];cbv;intro zz;cbv;show#[by rw[hsz];simp,f (N5 (by rw[W];simp)) _ B]
     .show Γ #[#[_,_,_,rfl],B,λk d G hd=>?_];by_cases e:k=i
      .subst e;rw[hc]at hd;cases hd;show#[U,W]
      .show M k d () hd
   .let#[#[m,n,L,rfl],j,M]:=s;let D:(cs.all λc=>isName c.1&&pK c.2)=true:=aeN.mpr λc hc=>by
     let#[k,G,e]:=apQ hc;have:=M k c (by rw[qK];show G) (by rw[<-e];show aad G);rw[this.1,this.2];rfl
    let Mm:ϗ cs=decide ((cs.map Prod.fst).Nodup):=by
     unfold ϗ;rw[D,decide_eq_true (show 1<=↥cs/\↥cs<=6 by omega)];rfl
    w_up;show sG ["name","kind"] (σ':=[none,none]) (b8 (ς J8)) nd ?_;cbv;show#[a,vs,rfl,.inl (.inl (j<*I)),(),λτ=>∃m n,τ=[m,n],λE' i u H'=>∃c,cs[i]?=↑c/\u=.str c.1,#[none,none,rfl],λE' i u H2 H3 ys _ _ p=>p,λfp E' C s3 H0 i τ x H2 H3 hE hi Y z hys hG=>?_,λE' H2 ys hE hl v e2 z =>?_]
    .let#[m,n,rfl]:=Y;let#[v,rfl]:=hG;let#[c,hc,t,rfl,O]:=l.get v;show ϟ (Δ.of (z<*(j _ _ O))) (Η (ω bB (Η (ω bB (Ϣ ?_)))));cbv;show#[#[_,_,rfl],#[c,hc,rfl],ζ.refl _]
    .let ey:=jJ (ys:=cs) (λc=>V.str c.1) (by rw[hl,qK]) v;let lC:ys=(cs.map Prod.fst).map V.str:=by rw[ey,aeu];rfl
     subst lC;let F:↥(cs.map Prod.fst)<=4000:=by simp;omega
     let g:=j<|>z;f_len;cbv;show Yx (by rfl) (θ.of e2) F λS hS=>?_
     cbv;show QX υ F ?_;cbv;show HQ (.inl (θ.of ((ζ.upd hS)<*e2))) ?_;cbv;let B:=g<|>(ζ.upd (o:=nF X S (cs.map Prod.fst)) hS);let O6:=Jv _ (cs.map Prod.fst) rfl;show aY (λZ=>?_) (λZ=>?_)
     .f_len;show dW Β T.vp ?_;cbv;show#[by rw[hsz];simp,f ?_ _ B];rw[Mm];show decide_eq_false λhd=>Z ?_
      rw[O6.mpr hd];simp
     .show Γ ?_;have:=q _ B;rw[Mm,if_pos]at this
      .show this
      .show decide_eq_true (O6.mp ?_);let h6:(↥(eU (cs.map Prod.fst)):Int)=↥((cs.map Prod.fst).map V.str):=by injection Z
       rw[ϰ]at h6;omega
 .cbv;show(dW Β T.vp ?_);cbv;show#[by rw[hsz];simp,f (Yn ()) H (ζ.refl _)]
def Jw:Def 2 "is_row_number" ["row"] PB:=by
 exists ["row"],Jw,c,#[v,rfl,a,q],e.Xr,f uJ;symm;cbv;show#[v,rfl,a,?_];cases v with
 |int i=>
  change Q (.bl (decide (0<=i/\i<=1000000000))) H at q;rw[show tH (V.int i)=true from rfl];cbv;show Μ (λh=>?_) (λh=>?_)
  .cbv;rw[show decide (0<=i/\i<=1000000000)=decide (i<=1000000000)from by rw[decide_eq_decide];omega]at q;show q
  .cbv;rw[decide_eq_false (show ¬(0<=i/\i<=1000000000)by omega)]at q;show q
 |non=>
  rw[show tH V.non=false from rfl];cbv;show q
 |str z=>
  rw[show tH (V.str z)=false from rfl];cbv;show q
 |_=>cases a
theorem aaC:∀{cs:List ο}{xs:List V}{bs:List Bool},↥xs=↥cs->↥bs=↥cs->(∀(i:Nat)(b:Bool),bs[i]?=↑b->∃c x,cs[i]?=↑c/\xs[i]?=↑x/\b=isVal c.2 x)->bs.all id=tM cs xs
 |[],[],[],_,_,_=>rfl
 |c::cs,x::xs,b::bs,h1,h2,h=>by
  let#[g,j,e1,a,f]:=h 0 b rfl;cases e1;cases a;rw[asF];unfold tM;rw[aaC (~~~h1) (~~~h2) λi b e=>~~~h (i+1) b (~~~e)];rw[f];rfl
 |[],_::_,_,h1,_,_=>by simp at h1
 |_::_,[],_,h1,_,_=>by simp at h1
 |[],[],_::_,_,h2,_=>by simp at h2
 |_::_,_::_,[],_,h2,_=>by simp at h2
theorem UT:∀{xs:List V},(∀(i:Nat) v,xs[i]?=↑v->∃b,v=.bl b)->∃bs:List Bool,xs=bs.map V.bl
 |[],_=>#[[],rfl]
 |x::xs,h=>by
  let#[b,rfl]:=h 0 x rfl;let#[bs,rfl]:=UT (xs:=xs) λi v e=>h (i+1) v (~~~e)
  show#[b::bs,rfl]
def Dt:Def 4 "is_row" ["columns","row","values"] Uw:=by
 exists Wq,Dt,hr,#[a,cs,v,b,xs,rfl,#[vs,B,f],R,U,D,m,q],n1.bY,n2.Ul,W.Vo,1,2;let sa:θ K H a vs:=.inl (.inl B);let sb:θ K H b xs:=.inl (.inl D);let Y:=f.len;let D1:=!Jw;let D2:=!Ef;let F:(["column","value"]:List Str).Nodup:=by fin2
 unfold dG at q;w_up;cbv;show#[v,rfl,U,?_];cbv;show JB (λh1=>?_) (λh1=>?_)
 .rw[h1,aoC,aoC]at q;cbv;show q H (ζ.refl _)
 .rw[h1,aqw]at q;cbv;show aY (λh2=>?_) (λh2=>?_)
  .let j:¬↥xs=↥cs:=λe=>h2 (by rw[Y,e])
   rw[decide_eq_false j,aoC]at q;cbv;show q H (ζ.refl _)
  .let j:↥xs=↥cs:=by
    have:(↥xs:Int)=↥vs:=by injection h2
    omega
   rw[decide_eq_true j,aqw]at q;show Γ ?_;symm;f_are;f_are;show S7 ["column","value"] (σ':=[none,none]) (b8 (ς JT)) W ?_;cbv;show#[a,b,vs,xs,rfl,rfl,B,D,(),λG=>∃I J,G=[I,J],λE' i u H'=>∃c x,cs[i]?=↑c/\xs[i]?=↑x/\u=.bl (isVal c.2 x),#[none,none,rfl],λE' i u H2 Z ys _ _ p=>p,λfp E' C s3 H0 i G x H2 Z hE hi n o hys hG=>?_,λE' H2 ys hE hl L s o=>?_]
   .let#[I,J,rfl]:=n;let#[l,y,u,rfl,hT,rfl,hy,M]:=hG;let#[c,hc,t,rfl,ht]:=f.get hy;let z :ζ H2 (upd H2 l (.tup [.ref t,u])):=ζ.upd hT;let O:(upd H2 l (.tup [.ref t,u])) l=↑(.tup [.ref t,u]):=υ;generalize upd H2 l (.tup [.ref t,u])=H4 at z O⊢;show ϟ (Δ.of O) (Η (ω F (Η (ω F (Ϣ ?_)))));cbv;show gZ (Δ.of (z<*(o _ _ ht))) (show Ϛ [V.str c.1,V.str c.2] 1=↑(V.str c.2)from rfl) ?_;cbv;let g:=m u (abD M);show#[c.2,u,rfl,g.1,g.2,λH5 cL=>#[#[_,_,rfl],#[c,u,hc,M,rfl],z<|>cL]]
   .let#[bs,rfl]:=UT λi v e=>by
     let#[c,x,_,_,e]:=L i v e;show#[_,e]
    let ye:↥bs=↥cs:=by rw[ϰ]at hl;omega
    let eb:bs.all id=tM cs xs:=aaC j ye λi b e=>by
     let#[c,x,e1,s,e3]:=L i (.bl b) (by rw[acS,e];rfl);show#[c,x,e1,s,by injection e3]
    cbv;show Oa (by rfl) (θ.of s) ?_;rw[eb];show q _ o
inductive sX(mg:MG):Sp
 |mk (A:BA) (B:Bk) (row:Int) (b:δ) (xs:List V):vs=[.ref A.b,.int row,.ref b]->Κ (cB mg) H A B->H b=↑(.lst xs)->↥B.heads<=6->(∀x∈xs,scalar x=true/\short x)->row.natAbs<10^60->(dG B.heads (.int row) xs=true->∀H',ζ H H'->Q .non H')->(dG B.heads (.int row) xs=false->∀H',ζ H H'->E (.ref (η mg "NoRow")) (none,true) H')
def MF:FD 5 "ask_row" "Book.ask_row" Su ["self","row","values"] (sX mg):=by
 show ϡ (N:=["self","row","values"]) (λf n o outer s H vs Q E p h=>?_);intro X _;let#[A,B,row,b,xs,rfl,e,i,u,c,a,q,j]:=h;let v:=!Dt;let hc:=T.ώ;let l:=T.Ek;let m:=e.ins;let hsz:=ϯ;f_len;cbv;show aQ ?_;f_are;show#[A.b,_,_,_,_,rfl,m,hc,l,rfl,?_];cbv;show#[A.h,B.heads,.int row,b,xs,rfl,e.heads,(),rfl,i,c,λH' g=>?_];cases e3:dG B.heads (.int row) xs with
 |false=>
  cbv;show dW Β T.akp ?_;cbv;show gm ?_;f_are;show#[row,rfl,_V.Ϥ a,_,70,rfl,_V.mL a,(),?_];cbv;intro x;cbv;show#[by rw[hsz];simp,j e3 H' g]
 |true=>
  cbv;show q e3 H' g
inductive mC(mg:MG):Sp
 |mk (A:BA) (B:Bk) (row:Int):vs=[.ref A.b,.int row]->Κ (cB mg) H A B->row.natAbs<10^60->(Ε B.rows row=none->∀e H',ζ H H'->H' e=↑(.xd [("row",.int row)])->E (.ref (η mg "Absent")) (↑e,true) H')->(Ε B.rows row≠none->Q .non H)
def Jc:FD 3 "ask_there" "Book.ask_there" W7 ["self","row"] (mC mg):=by
 show ϡ (N:=["self","row"]) (λf z C outer s H vs Q E g h=>?_);intro X _;let#[A,B,row,rfl,i,j,a,q]:=h;let hc:=T.ώ;let l:=T.t8;let m:=i.ins;let n:_+1<cLine:=af6 (ahC (by decide:1<=64) _) g.units;let#[Ϸ,o,p]:=i.rows;f_len;cbv;show aQ ?_;f_are;show#[A.b,_,_,_,_,rfl,m,hc,l,rfl,?_]*>an6 n (aK.k (k:=Sum.inl row) o) ?_;obtain⟨e1,c⟩|⟨u,x,e1,c,_⟩:=iz p row
 .rw[show(bu Ϸ (Sum.inl row)).isSome=false by rw[e1];rfl,Bool.not_false];cbv;show(qF (akJ T (cc:=true)) g (λ_=>rfl) Β ?_);cbv;show#[row,rfl,j,λe H' v y=>a c e H' v y]
 .rw[show(bu Ϸ (Sum.inl row)).isSome=true by rw[e1];rfl,Bool.not_true];cbv;show q (by rw[c];simp)
inductive xF(mg:MG):Sp
 |mk (A:BA) (B:Bk) (row:Int) (b:δ) (xs:List V):vs=[.ref A.b,.int row,.ref b]->Κ (cB mg) H A B->H b=↑(.lst xs)->↥B.heads<=6->(∀x∈xs,scalar x=true/\short x)->row.natAbs<10^60->oM B->(dG B.heads (.int row) xs=false->∀H',ζ H H'->E (.ref (η mg "NoRow")) (none,true) H')->(dG B.heads (.int row) xs=true->Ε B.rows row≠none->∀e H',ζ H H'->H' e=↑(.xd [("row",.int row)])->E (.ref (η mg "Twice")) (↑e,true) H')->(dG B.heads (.int row) xs=true->Ε B.rows row=none->∀H',Out A.fp H H'->Κ (cB mg) H' A (aG B row ↑xs)->Q (.int (B.now+1)) H')
theorem RC(h:θ X.K H p ys)(g:∀l,H l=none->Q (.ref l) (upd H l (.tup ys))):CL X (.type "tuple") [.ref p] H Q:=cV adL #[p,ys,rfl,.inl #[h,g]]
def afe:FD 6 "put" "Book.put" X6 ["self","row","values"] (xF mg):=by
 show ϡ (N:=["self","row","values"]) (λf W Y outer s H vs Q E g h=>?_);intro X _;let#[A,B,row,b,xs,rfl,i,y,D,j,c,l,F,m,q]:=h;let M1:Ψ P w K mg base true 5 (cB mg) "ask_row" ["self","row","values"] (sX mg):=(MF T).meth T.ώ T.Th;let M2:Ψ P w K mg base true 1 (cB mg) "do" ["self","row","values"] (mZ mg):=(Hb T).meth T.ώ T.Ht;let hc:=T.ώ;let n1:=T.Ny;let G:=T.t8;let I:_+1<cLine:=af6 (ahC (by decide:1<=64) _) g.units;w_up;show Ϡ ?_*>ϛ (pl:=_) g Β (h:=?_);f_are;show#[A.b,cB mg,A.dx,_,true,5,_,sX mg,rfl,i.ins,by rfl,M1,by decide,id,?_];cbv;show#[A,B,row,b,xs,rfl,i,y,D,j,c,λhok H1 a=>?_,λn H1 a=>F n H1 a];let k1:=i.same a;let z:=k1.ins;let o:=a _ _ y;let#[Ϸ,J,L]:=k1.rows;w_up;cbv;show aQ ?_;f_are;show#[A.b,_,_,_,_,rfl,z,hc,G,rfl,?_]*>oE I (aK.k (k:=Sum.inl row) J) ?_;obtain⟨e1,p⟩|⟨u,x,e1,p,_⟩:=iz L row
 .rw[show(bu Ϸ (Sum.inl row)).isSome=false by rw[e1];rfl];cbv;show ϛ (pl:=_) g Β (h:=?_);f_are;show#[A.b,cB mg,A.dx,_,true,1,_,mZ mg,rfl,z,by rfl,M2,by decide,id,?_];cbv;show RC (θ.of o) λt M=>?_
  let#[v,C,H1,t,H2]:=Ρ M (.tup xs);cbv;show#[A,B,row,.ref t,↑xs,rfl,k1.same v,#[t,rfl,C],(λe=>by cases e),l,λO R k3=>?_]*>q hok p O ((Out.of (a<|>v))<|>R) k3
 .rw[show(bu Ϸ (Sum.inl row)).isSome=true by rw[e1];rfl];cbv;show(qF (abN T (cc:=true)) g (λ_=>rfl) Β ?_);cbv;show#[row,rfl,c,λe H' S U=>m hok (by rw[p];simp) e H' (a<|>S) U]
inductive yK(mg:MG):Sp
 |mk (A:BA) (B:Bk) (row:Int) (b:δ) (xs:List V):vs=[.ref A.b,.int row,.ref b]->Κ (cB mg) H A B->H b=↑(.lst xs)->↥B.heads<=6->(∀x∈xs,scalar x=true/\short x)->row.natAbs<10^60->oM B->(dG B.heads (.int row) xs=false->∀H',ζ H H'->E (.ref (η mg "NoRow")) (none,true) H')->(dG B.heads (.int row) xs=true->Ε B.rows row=none->∀e H',ζ H H'->H' e=↑(.xd [("row",.int row)])->E (.ref (η mg "Absent")) (↑e,true) H')->(dG B.heads (.int row) xs=true->Ε B.rows row≠none->∀H',Out A.fp H H'->Κ (cB mg) H' A (aG B row ↑xs)->Q (.int (B.now+1)) H')
def ag5:FD 6 "change" "Book.change" W2 ["self","row","values"] (yK mg):=by
 show ϡ (N:=["self","row","values"]) (λf M O outer s H vs Q E g h=>?_);intro X _;let#[A,B,row,b,xs,rfl,i,v,z,j,c,l,C,m,q]:=h;let M1:Ψ P w K mg base true 5 (cB mg) "ask_row" ["self","row","values"] (sX mg):=(MF T).meth T.ώ T.Th;let M2:Ψ P w K mg base true 1 (cB mg) "do" ["self","row","values"] (mZ mg):=(Hb T).meth T.ώ T.Ht;let D:Ψ P w K mg base true 3 (cB mg) "ask_there" ["self","row"] (mC mg):=(Jc T).meth T.ώ T.GZ;let hc:=T.ώ;let n1:=T.Ny;w_up;show Ϡ ?_*>ϛ (pl:=_) g Β (h:=?_);f_are;show#[A.b,cB mg,A.dx,_,true,5,_,sX mg,rfl,i.ins,by rfl,M1,by decide,id,?_];cbv;show#[A,B,row,b,xs,rfl,i,v,z,j,c,λhok H1 a=>?_,λn H1 a=>C n H1 a];let k1:=i.same a;let x:=k1.ins;let o:=a _ _ v;w_up;show Ϡ ?_*>ϛ (pl:=_) g Β (h:=?_);f_are;show#[A.b,cB mg,A.dx,_,true,3,_,mC mg,rfl,x,by rfl,D,by decide,id,?_];cbv;show#[A,B,row,rfl,k1,c,λp e H' F G=>m hok p e H' (a<|>F) G,λp=>?_];symm;show ϛ (pl:=_) g Β (h:=?_);f_are;show#[A.b,cB mg,A.dx,_,true,1,_,mZ mg,rfl,x,by rfl,M2,by decide,id,?_];cbv;show RC (θ.of o) λt I=>?_
 let#[u,y,H1,t,H2]:=Ρ I (.tup xs);cbv;show#[A,B,row,.ref t,↑xs,rfl,k1.same u,#[t,rfl,y],(λe=>by cases e),l,λJ L k3=>?_]*>q hok p J ((Out.of (a<|>u))<|>L) k3
inductive yE(mg:MG):Sp
 |mk (A:BA) (B:Bk) (row:Int):vs=[.ref A.b,.int row]->Κ (cB mg) H A B->row.natAbs<10^60->oM B->qT B->(Ε B.rows row=none->∀e H',ζ H H'->H' e=↑(.xd [("row",.int row)])->E (.ref (η mg "Absent")) (↑e,true) H')->(Ε B.rows row≠none->∀H',Out A.fp H H'->Κ (cB mg) H' A (aG B row none)->Q (.int (B.now+1)) H')
def anO:FD 4 "take" "Book.take" LC ["self","row"] (yE mg):=by
 show ϡ (N:=["self","row"]) (λf n o outer s H vs Q E j h=>?_);intro X _;let#[A,B,row,rfl,a,l,c,e,g,q]:=h;let M2:Ψ P w K mg base true 1 (cB mg) "do" ["self","row","values"] (mZ mg):=(Hb T).meth T.ώ T.Ht;let m:Ψ P w K mg base true 3 (cB mg) "ask_there" ["self","row"] (mC mg):=(Jc T).meth T.ώ T.GZ;w_up;show Ϡ ?_*>ϛ (pl:=_) j Β (h:=?_);f_are;show#[A.b,cB mg,A.dx,_,true,3,_,mC mg,rfl,a.ins,by rfl,m,by decide,id,?_];cbv;show#[A,B,row,rfl,a,l,g,λi=>?_];symm;show ϛ (pl:=_) j Β (h:=?_);f_are;show#[A.b,cB mg,A.dx,_,true,1,_,mZ mg,rfl,a.ins,by rfl,M2,by decide,id,?_];cbv;show#[A,B,row,.non,none,rfl,a,rfl,λ_=>#[i,λz=>i ((e row).mpr z)],c,q i]
inductive iM(mg:MG)(g:Bk->Int):Sp
 |mk (A:BA) (B:Bk):vs=[.ref A.b]->Κ (cB mg) H A B->Q (.int (g B)) H
def za:FD 1 "moment" "Book.moment" Us ["self"] (iM mg Bk.now):=by
 show ϡ (N:=["self"]) (λf c e outer s H vs Q E g h=>?_);intro X _;let#[A,B,rfl,a,q]:=h;let hc:=T.ώ;f_len;show ρ (aQ ?_);f_are;show#[A.b,_,_,_,_,rfl,a.ins,hc,T.Ar,rfl,q]
inductive cI(mg:MG):Sp
 |mk (A:BA) (B:Bk):vs=[.ref A.b]->Κ (cB mg) H A B->(∀p H',ζ H H'->H p=none->aj H' p B.heads->Q (.ref p) H')
def lH:FD 1 "columns" "Book.columns" abi ["self"] (cI mg):=by
 show ϡ (N:=["self"]) (λf l m outer s H vs Q E n h=>?_);intro X _;let#[A,B,rfl,a,q]:=h;let hc:=T.ώ;let n1:=T.pN;let#[vs,i,j]:=a.heads;symm;cbv;show aQ ?_;f_are;show#[A.b,_,_,_,_,rfl,a.ins,hc,T.Ek,rfl,?_];cbv;show qJ (.inl (θ.of i)) λp hp=>?_
 let g:=ζ.upd (H:=H) (o:=.lst vs) hp;show q p _ g hp #[vs,υ,Α.imp (λv c z=>by let#[t,e,h]:=z;show #[t,e,g<*h]) j]
inductive zu(mg:MG):Sp
 |mk (A:BA) (B:Bk) (row:Int):vs=[.ref A.b,.int row]->Κ (cB mg) H A B->row.natAbs<10^60->qT B->(Ε B.rows row=none->∀e H',ζ H H'->H' e=↑(.xd [("row",.int row)])->E (.ref (η mg "Absent")) (↑e,true) H')->(∀i,Ε B.touched row=↑i->Q (.int i) H)
def ae8:FD 4 "since" "Book.since" W6 ["self","row"] (zu mg):=by
 show ϡ (N:=["self","row"]) (λf z C outer s H vs Q E j h=>?_);intro X _;let#[A,B,row,rfl,a,l,c,e,q]:=h;let m:Ψ P w K mg base true 3 (cB mg) "ask_there" ["self","row"] (mC mg):=(Jc T).meth T.ώ T.GZ;let hc:=T.ώ;let n:_+1<cLine:=af6 (ahC (by decide:1<=64) _) j.units;let#[Ϸ,o,p]:=a.touched;w_up;show Ϡ ?_*>ϛ (pl:=_) j Β (h:=?_);f_are;show#[A.b,cB mg,A.dx,_,true,3,_,mC mg,rfl,a.ins,by rfl,m,by decide,id,?_];cbv;show#[A,B,row,rfl,a,l,e,λv=>?_];obtain⟨e1,g⟩|⟨u,x,e1,g,y⟩:=iz p row
 .show absurd ((c row).mpr g) v
 let i:u=.int x:=y;subst i;symm;show ad6 n (by intro _ _;rfl) ?_*>aQ ?_;f_are;show#[A.b,_,_,_,_,rfl,a.ins,hc,T.HS,rfl,?_];f_are;show#[A.t,.int x,rfl,?_,q x g];have:=aK.k (k:=Sum.inl row) o;rw[e1]at this;show this
def KR(h:ϗ cs=true):1<=↥cs/\↥cs<=6:=by
 unfold ϗ at h;rw[acF,acF,decide_eq_true_eq]at h;show h.1.1
inductive Kv(mg:MG):Sp
 |mk (y dx a:δ) (cs:List ο):vs=[.ref y,.ref a]->H y=↑(.ins (cB mg) dx [])->H dx=↑(.own y)->aj H a cs->↥cs<=4000->JX cs->(ϗ cs=false->∀H',ζ H H'->E (.ref (η mg "NoColumns")) (none,true) H')->(ϗ cs=true->∀(H':Hp)(A:BA),A.b=y->A.dx=dx->H A.h=none->H A.r=none->H A.t=none->H A.d=none->Out [y] H H'->Κ (cB mg) H' A #[cs,[],[],[],0,0]->Q .non H')
def amM:FD 4 "__init__" "Book.__init__" aau ["self","columns"] (Kv mg):=by
 show ϡ (N:=["self","columns"]) (λf Ϲ A' outer s H vs Q E hr h=>?_);intro X _;let#[y,dx,a,cs,rfl,m,j,hC,rT,L,nr,q]:=h;let D1:=!KZ;let hc:=T.ώ;let n1:=T.pN;let hsz:=ϯ;w_up;cbv;show#[a,cs,rfl,hC,rT,L,λH1 n =>?_];by_cases hok:ϗ cs=true
 rotate_left
 .rw[if_neg hok];show nr (~~~hok) H1 n
 rw[if_pos hok]
 replace q:=q hok
 let#[vs,ha,M]:=hC;let hy1:=n _ _ m;let xr:dx≠y:=λe=>by rw[e,m]at j;cases j
 w_up;show gf ?_;cbv;show qJ (.inl (θ.of (n<*ha))) λh hh=>?_
 let O:ζ H (upd H1 h (.lst vs)):=n<|>(ζ.upd hh);let eh:(upd H1 h (.lst vs)) h=↑(.lst vs):=υ;let R:H h=none:=n.free hh;generalize upd H1 h (.lst vs)=H2 at O eh⊢;f_are;show#[y,_,dx,_,rfl,O<*m,hc,T.Ek,by show 0<1000;decide,?_];let x:h≠y:=λe=>by rw[e,m]at R;cases R
 let o3:Out [y] H (upd H2 y (.ins (cB mg) dx [("heads",.ref h)])):=(Out.of O)<|>(Out.upd (by simp));let WX:(upd H2 y (.ins (cB mg) dx [("heads",.ref h)])) h=↑(.lst vs):=by rw[ξ x];show eh
 let S:(upd H2 y (.ins (cB mg) dx [("heads",.ref h)])) y=↑(.ins (cB mg) dx [("heads",.ref h)]):=υ;change Φ _ _ _ _ (upd H2 y (.ins (cB mg) dx [("heads",.ref h)]));generalize upd H2 y (.ins (cB mg) dx [("heads",.ref h)])=F at o3 WX S⊢;let step:∀(H':Hp)(p:δ)(o o1:HO),H' y=↑o1->Out [y] H H'->H' p=none->(H p=none/\p≠y/\∀fs,Out [y] H (upd (upd H' p o) y fs)/\(upd (upd H' p o) y fs) y=↑fs/\(upd (upd H' p o) y fs) p=↑o/\∀b u,b≠y->H' b=↑u->b≠p/\(upd (upd H' p o) y fs) b=↑u):=by
  intro H' p o o1 ey ho hp;let l:p≠y:=λe=>by rw[e,ey]at hp;cases hp
  let keep:∀fs b u,b≠y->H' b=↑u->b≠p/\(upd (upd H' p o) y fs) b=↑u:=λfs b u i e=>by
   let Zx:b≠p:=λz=>by rw[z,hp]at e;cases e
   show#[Zx,?_];rw[ξ i,ξ Zx];show e
  show#[?_,l,λfs=>#[λb u i e=>?_,υ,by rw[ξ l];show υ,keep fs]]
  .cases e1:H p with
   |none=>rfl
   |some u=>
    have:=ho p u (~~~l) e1;rw[hp]at this;cases this
  .show(keep fs b u (~~~i) (ho b u i e)).2
 w_up;show gf ?_*>Cm λr U=>?_
 f_are;let#[rn,ry,B]:=step F r (.dK []) _ S o3 U;let W:(upd F r (.dK [])) y=↑(.ins (cB mg) dx [("heads",.ref h)]):=by rw[ξ (Ne.symm ry)];show S
 show#[y,_,dx,_,rfl,W,hc,T.t8,by show 1<1000;decide,?_];let#[o4,Y,kh,k4]:=B (.ins (cB mg) dx [("heads",.ref h),("rows",.ref r)]);change Φ _ _ _ _ (upd (upd F r (.dK [])) y (.ins (cB mg) dx [("heads",.ref h),("rows",.ref r)]));let TQ:=(k4 _ _ x WX).2;generalize upd (upd F r (.dK [])) y (.ins (cB mg) dx [("heads",.ref h),("rows",.ref r)])=G at o4 Y kh TQ⊢;w_up;show gf ?_*>Cm λt Z=>?_
 f_are;let#[tn,ty,B]:=step G t (.dK []) _ Y o4 Z;let aa:(upd G t (.dK [])) y=↑(.ins (cB mg) dx [("heads",.ref h),("rows",.ref r)]):=by rw[ξ (Ne.symm ty)];show Y
 show#[y,_,dx,_,rfl,aa,hc,T.HS,by show 2<1000;decide,?_];let#[o5,Ju,PQ,k5]:=B (.ins (cB mg) dx [("heads",.ref h),("rows",.ref r),("touched",.ref t)]);change Φ _ _ _ _ (upd (upd G t (.dK [])) y (.ins (cB mg) dx [("heads",.ref h),("rows",.ref r),("touched",.ref t)]));let VH:=(k5 _ _ x TQ).2;let#[rt,VD]:=k5 _ _ ry kh;generalize upd (upd G t (.dK [])) y (.ins (cB mg) dx [("heads",.ref h),("rows",.ref r),("touched",.ref t)])=I at o5 Ju PQ VD VH⊢;w_up;show gf ?_;cbv;show#[Ξ,λd ab=>?_];f_are;let#[dn,dy,B]:=step I d (.lst []) _ Ju o5 ab;let ac:(upd I d (.lst [])) y=↑(.ins (cB mg) dx [("heads",.ref h),("rows",.ref r),("touched",.ref t)]):=by rw[ξ (Ne.symm dy)];show Ju
 show#[y,_,dx,_,rfl,ac,hc,T.xV,by show 3<1000;decide,?_];let#[J,Zk,XH,k6]:=B (.ins (cB mg) dx [("heads",.ref h),("rows",.ref r),("touched",.ref t),("done",.ref d)]);change Φ _ _ _ _ (upd (upd I d (.lst [])) y (.ins (cB mg) dx [("heads",.ref h),("rows",.ref r),("touched",.ref t),("done",.ref d)]));let#[ae,C]:=k6 _ _ x VH;let#[_,S5]:=k6 _ _ ry VD;let#[_,D]:=k6 _ _ ty PQ;generalize upd (upd I d (.lst [])) y (.ins (cB mg) dx [("heads",.ref h),("rows",.ref r),("touched",.ref t),("done",.ref d)])=H6 at J Zk XH D S5 C⊢;w_up;show gf ?_;f_are;f_are;show#[y,_,dx,_,rfl,Zk,hc,T.HW,by show 4<1000;decide,?_];f_len;show gf ?_;f_are;f_are;show#[y,_,dx,_,rfl,υ,hc,T.Ar,by show 5<1000;decide,?_];let g:∀b u,b≠y->H6 b=↑u->(upd (upd H6 y (.ins (cB mg) dx [("heads",.ref h),("rows",.ref r),("touched",.ref t),("done",.ref d),("known",.int 0)])) y (.ins (cB mg) dx [("heads",.ref h),("rows",.ref r),("touched",.ref t),("done",.ref d),("known",.int 0),("now",.int 0)])) b=↑u:=λb u i e=>by
  rw[ξ i,ξ i];show e
 let Vd:∀t' ys,H t'=↑(.tup ys)->t'≠y:=λt' ys e z=>by rw[z,m]at e;cases e
 show q (upd (upd H6 y (.ins (cB mg) dx [("heads",.ref h),("rows",.ref r),("touched",.ref t),("done",.ref d),("known",.int 0)])) y (.ins (cB mg) dx [("heads",.ref h),("rows",.ref r),("touched",.ref t),("done",.ref d),("known",.int 0),("now",.int 0)])) #[y,dx,h,r,t,d] rfl rfl R rn tn dn (λb u i e=>g b u (~~~i) (J b u i e)) ?_*>#[υ,g _ _ xr (J _ _ (~~~xr) j),#[vs,g _ _ x C,Α.imp (λv c z=>by let#[u,e,hu]:=z;show #[u,e,g _ _ (Vd<*hu) (J _ _ (~~~Vd _ _ hu) hu)]) M],#[[],g _ _ ry S5,.nil],#[[],g _ _ ty D,.nil],#[[],g _ _ dy XH,.nil],rt,ae]
def uy(a H:Hp)(v:V)(p:Int×List V):=∃t l,v=.ref t/\H t=↑(.tup [.int p.1,.ref l])/\H l=↑(.lst p.2)/\a l=none/\a t=none
def cP(rows:List (Int×List V))(ks:List Int):List (Int×List V):=ks.map λk=>(k,(Ε rows k).getD [])
inductive Q9(C:Unit):Sp
 |mk (a:δ) (rows:List (Int×List V)):vs=[.ref a]->DictAt (TupAt H) H a rows->↥rows<64->(∀p ys ks H',ζ H H'->H p=none->ks.Perm (rows.map (·.1))->ks.Pairwise (· <= ·)->H' p=↑(.lst ys)->Α (uy H H') ys (cP rows ks)->Q (.ref p) H')
def yP:Def 1 "told_rows" ["rows"] (Q9 PUnit.unit):=by
 exists ["rows"],yP,hr,#[a,rows,rfl,#[Ϸ,ea,hR],hl,q],n1.qU,n2.pN,1;let hu:_+1<cLine:=af6 (ahC (by decide:1<=64) _) hr.units;let rF:(["row","rows"]:List Str).Nodup:=by fin2
 symm;show jw ["row","rows"] (σ':=[none,↑(.ref a)]) (b8 (ς aag)) ?_;walk_at"cb";cbv;show zY (ks:=rows.map (·.1)) ea (wU hR) (by rw[ϰ];show hl) λL ks hL hp hs=>?_
 let#[n,eL,H,L,H1]:=Ρ hL (.lst (ks.map V.int));let hkl:↥ks=↥rows:=by rw[hp.length_eq,ϰ]
 let f:↥(ks.map V.int)=↥ks:=ϰ ..;show#[L,_,rfl,θ.of eL,(),λτ=>∃o1,τ=[o1,↑(.ref a)],λo i u H'=>∃k t l,ks[i]?=↑k/\u=.ref t/\t≠o/\l≠o/\H' t=↑(.tup [.int k,.ref l])/\H' l=↑(.lst ((Ε rows k).getD []))/\H l=none/\H t=none,#[none,rfl],λo i u H2 H3 ys y1 y2 y3=>?_,λfp o C s3 H0 i τ x H4 H3 aR hi D ϋ F hG=>?_,λL2 H2 ys G g I e2 Χ =>?_]
 .let#[k,t,l,J,M,O,S,U,W,Y,Z]:=y3;show#[k,t,l,J,M,O,S,y2 _ _ O U,y2 _ _ S W,Y,Z]
 .let#[o1,rfl]:=D;let#[hx,rfl]:=hG;let IK:i<↥ks:=by rw[f]at hi;show hi
  let hk:ks[i]?=↑ks[i]:=aad IK;rw[acS,hk]at hx;let aa:x=.int ks[i]:= ~~~hx.symm
  subst aa;let j:ks[i]∈rows.map (·.1):=hp.mem_iff.mp (ak7 IK);let s:=n<|>ϋ;let ab:=s _ _ ea;show ω rF ?_;cbv;rcases iz hR ks[i]with⟨_,e3⟩|⟨u,xs,e1,e3,t0,rfl,ac⟩
  .show absurd j (lM.mp e3)
  let g4:=aK.k (k:=Sum.inl ks[i]) ab;rw[e1]at g4;show KQ hu g4 ?_;cbv;show qJ (.inr (Δ.of (s<*ac))) λl y=>?_
  let#[z,el,H4,l,H5]:=Ρ y (.lst xs);cbv;show#[Ξ,λt B=>?_];let ak:ζ H5 (upd H5 t (.tup [.int ks[i],.ref l])):=ζ.upd B;let#[ys0,hE]:=F;show#[#[_,rfl],#[ks[i],t,l,hk,rfl,λe=>?_,λe=>?_,υ,?_,s.free y,(s<|>z).free B],z<|>ak]
  .rw[e,z<*hE]at B;cases B
  .rw[e,hE]at y;cases y
  .rw[e3];show ak<*el
 .show q L2 ys ks H2 (n<|>Χ) (n.free G) hp hs e2 (mK (R:=λv p=>uy H H2 v p) (l:=ys) (m:=cP rows ks) (by unfold cP;rw[ϰ,g,f]) λi p c=>?_);unfold cP at c;rw[acS]at c;let hi:i<↥ys:=by
   rw[g,f];cases e:ks[i]? with
   |none=>rw[e]at c;cases c
   |some k=>show(aas.mp e).1
  let hy:ys[i]?=↑ys[i]:=aad hi;let#[k,t,l,J,M,O,S,U,W,Y,Z]:=I i _ hy;rw[J]at c;let ae:p=(k,(Ε rows k).getD []):= ~~~c.symm
  rw[ae];show#[_,hy,t,l,M,U,W,Y,Z]
inductive tL(mg:MG):Sp
 |mk (A:BA) (B:Bk):vs=[.ref A.b]->Κ (cB mg) H A B->↥B.rows<64->(∀p ys ks H',ζ H H'->H p=none->ks.Perm (B.rows.map (·.1))->ks.Pairwise (· <= ·)->H' p=↑(.lst ys)->Α (uy H H') ys (cP B.rows ks)->Q (.ref p) H')
def Py:FD 2 "now_rows" "Book.now_rows" Rv ["self"] (tL mg):=by
 show ϡ (N:=["self"]) (λf e g outer s H vs Q E i h=>?_);intro X _;let#[A,B,rfl,a,c,q]:=h;let j:=!yP;symm;cbv;show aQ ?_;f_are;show#[A.b,_,_,_,_,rfl,a.ins,T.ώ,T.t8,rfl,?_];cbv;show#[A.r,B.rows,rfl,a.rows,c,q]
def dX(rows:List (Int×List V))(row:Int):Option (List V)->List (Int×List V)
 |none=>az rows row
 |some xs=>aD rows row xs
def cO(rows:List (Int×List V))(ds:List bA):List (Int×List V):=ds.foldr (λd r=>dX r d.row d.was) rows
def ik(rows:List (Int×List V)):List bA->Prop
 |[]=>True
 |d::ds=>ik rows ds/\(d.was=none->Ε (cO rows ds) d.row≠none)
def V1{α:Type}(m:List (Int×α))(i:Int)(x:α):↥(aD m i x)<=↥m+1:=by
 unfold aD;split
 .rw[ϰ];omega
 .rw[adz,afZ];omega
def aj9(rows:List (Int×List V))(row:Int)(o:Option (List V)):↥(dX rows row o)<=↥rows+1:=by
 cases o with
 |none=>show Nat.le_succ_of_le (ahq ..)
 |some xs=>show V1 rows row xs
theorem Y9(rows:List (Int×List V)):∀ds:List bA,↥(cO rows ds)<=↥rows+↥ds
 |[]=>Ϭ _
 |d::ds=>by
  let h1:=Y9 rows ds;let h2:=aj9 (cO rows ds) d.row d.was;show(dX (cO rows ds) d.row d.was).length<=_;rw[acz];omega
theorem ik.drop:∀{ds:List bA}(n:Nat),ik rows ds->ik rows (ds.drop n)
 |ds,0,h=>h
 |[],n+1,h=>h
 |d::ds,n+1,h=>ik.drop (ds:=ds) n h.1
def jK(a H:Hp)(v:V):Option (List V)->Prop
 |none=>v=.non
 |some xs=>∃l,v=.ref l/\H l=↑(.lst xs)/\a l=none
def YB(a H:Hp)(v:V)(d:bA):=∃t w u,v=.ref t/\H t=↑(.tup [.int d.at_,.int d.row,w,u])/\jK a H w d.was/\jK a H u d.is/\a t=none
def jK.stay(h:jK a H v o)(s:∀l ys,v=.ref l->H l=↑(.lst ys)->H' l=↑(.lst ys)):jK a H' v o:=by
 cases o with
 |none=>show h
 |some xs=>
  let#[l,e,h1,h2]:=h;show#[l,e,s _ _ e h1,h2]
inductive QS:Sp
 |mk (v:V) (o:Option (List V)):vs=[v]->mq H v o->(∀v' H',ζ H H'->jK H H' v' o->Q v' H')
def Eo:Def 1 "told_values" ["values"] QS:=by
 exists ["values"],Eo,f,#[v,o,rfl,a,q],n1.pN;symm;cases o with
 |none=>
  let e:v=.non:=a;subst e;cbv;show q _ _ (ζ.refl _) rfl
 |some xs=>
  let#[t,rfl,c]:=a;cbv;show qJ (.inr (Δ.of c)) λp hp=>q _ _ (ζ.upd hp) #[p,rfl,υ,hp]
inductive Ri:Sp
 |mk (a:δ) (rows:List (Int×List V)) (row:Int) (v:V) (o:Option (List V)):vs=[.ref a,.int row,v]->DictAt (TupAt H) H a rows->mq H v o->(o=none->Ε rows row≠none)->↥rows<1000000->(∀H',Out [a] H H'->DictAt (TupAt H') H' a (dX rows row o)->Q .non H')
def Lf:Def 1 "put_back" ["rows","row","was"] Ri:=by
 exists ["rows","row","was"],Lf,m,#[a,rows,row,v,o,rfl,#[Ϸ,f,g],j,i,B,q];let n:_+1<cLine:=af6 (ahC (by decide:1<=64) _) m.units;let s:=g.len;let hsz:=ϯ;let st:∀c,∀b ys,H b=↑(.tup ys)->(upd H a (.dK c)) b=↑(.tup ys):=λc b ys e=>by
  rw[ξ (λz=>by rw[z,f]at e;cases e)];show e
 f_len;show Θ ?_;cases o with
 |none=>
  let e:v=.non:=j;subst e;lk;f_len;show Ϡ (v5 ?_);f_are;show#[a,rfl,.inl #[_,.inl f],?_];f_are;obtain⟨e1,l⟩|⟨u,x,e1,l,_⟩:=iz g row
  .show absurd l (i rfl)
  show#[Ϸ,Sum.inl row,u,f,rfl,e1,?_]*>q _ (Out.upd (by simp)) #[_,υ,d8 (ux g row) λv p h=>h.stay (st _)]
 |some xs=>
  let#[t,rfl,y]:=j;lk;f_len;show wy n ?_;cbv;show#[a,_,rfl,iQ.k (k:=Sum.inl row) f (),?_]*>q _ (Out.upd (by simp)) #[_,υ,d8 (wM g row (x:=xs) #[t,rfl,y]) λv p h=>h.stay (st _)]
def dN(B:Bk):Prop:=0<=B.known/\B.known<=B.now/\B.now<=1000000000
inductive mY(mg:MG):Sp
 |mk (A:BA) (B:Bk) (mo:Int):vs=[.ref A.b,.int mo]->Κ (cB mg) H A B->dN B->(mo<B.known->∀e H',ζ H H'->H' e=↑(.xd [("known",.int B.known)])->E (.ref (η mg "Gone")) (↑e,true) H')->(B.now<mo->∀e H',ζ H H'->H' e=↑(.xd [("now",.int B.now)])->E (.ref (η mg "Later")) (↑e,true) H')->(B.known<=mo->mo<=B.now->∀p ys,H p=none->Α (lL H) ys (B.done.drop (mo-B.known).toNat)->Q (.ref p) (upd H p (.lst ys)))
def Jh:FD 3 "done_behind" "Book.done_behind" ZM ["self","moment"] (mY mg):=by
 show ϡ (N:=["self","moment"]) (λf z C outer s H vs Q E j h=>?_);intro X _;let#[A,B,mo,rfl,l,#[D,F,G],n,o,q]:=h;let hc:=T.ώ;let c:=T.HW;let m:=T.Ar;let u:=T.xV;let a:=l.ins;let#[ds,v,x]:=l.done;w_up;cbv;show aQ ?_;f_are;show#[A.b,_,_,_,_,rfl,a,hc,c,rfl,?_];cbv;show Μ (λh=>?_) (λh=>?_)
 .cbv;show(qF (afj T (cc:=true)) j (λ_=>rfl) Β ?_);cbv;show aQ ?_;f_are;show#[A.b,_,_,_,_,rfl,a,hc,c,rfl,?_];cbv;show#[B.known,rfl,(),λe H' g i=>n h e H' g i]
 show Γ ?_;w_up;cbv;show aQ ?_;f_are;show#[A.b,_,_,_,_,rfl,a,hc,m,rfl,?_];cbv;show Μ (λh2=>?_) (λh2=>?_)
 .cbv;show(qF (QK T (cc:=true)) j (λ_=>rfl) Β ?_);cbv;show aQ ?_;f_are;show#[A.b,_,_,_,_,rfl,a,hc,m,rfl,?_];cbv;show#[B.now,rfl,(),λe H' g i=>o () e H' g i]
 show Γ ?_;symm;cbv;show aQ ?_;f_are;show#[A.b,_,_,_,_,rfl,a,hc,u,rfl,?_];cbv;show aQ ?_;f_are;show#[A.b,_,_,_,_,rfl,a,hc,c,rfl,?_];cbv;show eN (θ.of v) λp hp=>?_
 let y:mo-B.known=((mo-B.known).toNat:Int):=()
 let e1:bL ds ↑(mo-B.known) none=ds.drop (mo-B.known).toNat:=by rw[y];show aaD ds _
 rw[e1];show q () () p _ hp (x.drop _)
inductive zf(mg:MG):Sp
 |mk (A:BA) (B:Bk) (mo:Int):vs=[.ref A.b,.int mo]->Κ (cB mg) H A B->dN B->(mo<=B.known->Q .non H)->(B.now<mo->∀e H',ζ H H'->H' e=↑(.xd [("now",.int B.now)])->E (.ref (η mg "Later")) (↑e,true) H')->(B.known<mo->mo<=B.now->∀d H',H d=none->Out [A.b] H H'->Κ (cB mg) H' {A with d:=d} {B with done:=B.done.drop (mo-B.known).toNat,known:=mo}->Q .non H')
def ad5:FD 4 "let_go" "Book.let_go" Xn ["self","moment"] (zf mg):=by
 show ϡ (N:=["self","moment"]) (λf Y Z outer s H vs Q E y h=>?_);intro X _;let#[A,B,mo,rfl,c,C,D,F,q]:=h;let hc:=T.ώ;let l:=T.HW;let G:=T.xV;let m:=c.ins;let M1:Ψ P w K mg base true 3 (cB mg) "done_behind" ["self","moment"] (mY mg):=(Jh T).meth T.ώ T.HX;f_len;show Θ ?_>>=aQ ?_;f_are;show#[A.b,_,_,_,_,rfl,m,hc,l,rfl,?_]>>=Μ (λh=>?_) (λh=>?_)
 .w_up;show gf ?_*>ϛ (pl:=_) y Β (h:=?_);f_are;show#[A.b,cB mg,A.dx,_,true,3,_,mY mg,rfl,m,by rfl,M1,by decide,id,?_];cbv;show#[A,B,mo,rfl,c,C,λz=>absurd z (),F,λ_ I p ys hp i=>?_];let#[g,ep,H,p,H1]:=Ρ hp (.lst ys);let k1:=c.same g;let j:Α (lL H1) ys (B.done.drop (mo-B.known).toNat):=Α.imp (λv d h=>h.stay λb ys e=>g _ _ e) i;f_are;show#[A.b,_,_,_,rfl,k1.ins,hc,G,by show 6<1000;decide,?_];let n1:p≠A.b:=λe=>by have:=c.ins;rw[<-e,hp]at this;cases this
  let n:Out [A.b] H _:=(Out.of g)<|>(Out.upd (H:=H1) (a:=A.b) (o:=.ins (cB mg) A.dx [("heads",.ref A.h),("rows",.ref A.r),("touched",.ref A.t),("done",.ref p),("known",.int B.known),("now",.int B.now)]) (by simp));let k2:Κ (cB mg) (upd H1 A.b (.ins (cB mg) A.dx [("heads",.ref A.h),("rows",.ref A.r),("touched",.ref A.t),("done",.ref p),("known",.int B.known),("now",.int B.now)])) {A with d:=p} {B with done:=B.done.drop (mo-B.known).toNat}:=by
   let kk:=(k1.Dg B.known B.now);let#[J,L,M,O,m5,m6,m7,m8,m9,R,S,U]:=k1.ne;let st:∀b ys,H1 b=↑(.tup ys)->(upd H1 A.b (.ins (cB mg) A.dx [("heads",.ref A.h),("rows",.ref A.r),("touched",.ref A.t),("done",.ref p),("known",.int B.known),("now",.int B.now)])) b=↑(.tup ys):=λb ys e=>by
    rw[ξ (λz=>by rw[z,k1.ins]at e;cases e)];show e
   show#[υ,by rw[ξ (Ne.symm J)];show k1.own,k1.heads.stay (λxs e=>by rw[ξ (Ne.symm L)];show e) st,?_,?_,#[ys,by rw[ξ n1];show ep,Α.imp (λv d h=>h.stay st) j],k1.rt,λe=>?_]
   .let#[Ϸ,e,h]:=k1.rows;show#[Ϸ,by rw[ξ (Ne.symm M)];show e,d8 h λv x h=>h.stay st]
   .let#[Ϸ,e,h]:=k1.touched;show#[Ϸ,by rw[ξ (Ne.symm O)];show e,h]
   .let W:A.h=p:=e;let#[_,u,_]:=c.heads;rw[W,hp]at u;cases u
  change Φ _ _ _ _ (upd H1 A.b (.ins (cB mg) A.dx [("heads",.ref A.h),("rows",.ref A.r),("touched",.ref A.t),("done",.ref p),("known",.int B.known),("now",.int B.now)]));generalize upd H1 A.b _=H2 at k2 n⊢;f_len;show gf ?_;cbv;show#[A.b,_,_,_,rfl,k2.ins,hc,l,by show 6<1000;decide,?_];let k3:=k2.Dg mo B.now;show q () I p _ hp (n<|>(Out.upd (by simp))) k3
 .show Γ (D ())
inductive qH(mg:MG):Sp
 |mk (A:BA) (B:Bk) (mo:Int):vs=[.ref A.b,.int mo]->Κ (cB mg) H A B->dN B->↥B.rows<1000->↥B.done<10000->(mo<B.known->∀e H',ζ H H'->H' e=↑(.xd [("known",.int B.known)])->E (.ref (η mg "Gone")) (↑e,true) H')->(B.now<mo->∀e H',ζ H H'->H' e=↑(.xd [("now",.int B.now)])->E (.ref (η mg "Later")) (↑e,true) H')->(B.known<=mo->mo<=B.now->ik B.rows (B.done.drop (mo-B.known).toNat)/\↥(cO B.rows (B.done.drop (mo-B.known).toNat))<64/\
  ∀p ys ks H',ζ H H'->H p=none->ks.Perm ((cO B.rows (B.done.drop (mo-B.known).toNat)).map (·.1))->ks.Pairwise (· <= ·)->H' p=↑(.lst ys)->Α (uy H H') ys (cP (cO B.rows (B.done.drop (mo-B.known).toNat)) ks)->Q (.ref p) H')
def Tf:FD 4 "rows_at" "Book.rows_at" Ia ["self","moment"] (qH mg):=by
 show ϡ (S:=abq) (λf Ϲ A' outer s H vs Q E hr h=>?_);intro X _;let#[A,B,mo,rfl,L,hm,hrl,hdl,qg,ql,q]:=h;let nd:=abq.nd;let hc:=T.ώ;let a1:=T.t8;let n1:=T.ajN;let n2:=T.abu;let M1:Ψ P w K mg base true 3 (cB mg) "done_behind" ["self","moment"] (mY mg):=(Jh T).meth T.ώ T.HX;let D1:=!Lf;let D2:=!yP;let#[Ϸ,er,hR]:=L.rows;w_up;cbv;show aQ ?_;f_are;show#[A.b,_,_,_,_,rfl,L.ins,hc,a1,rfl,?_];cbv;show anl er λr g=>?_
 let#[c,M]:=Ρ g (.dK Ϸ);change Φ _ _ _ _ (upd H r (.dK Ϸ));generalize upd H r (.dK Ϸ)=H1 at c M⊢;let iD:=L.same c;let gY:Α (PR (TupAt H1)) Ϸ B.rows:=d8 hR λv x h=>h.stay λb ys e=>c _ _ e
 w_up;show Sv (by walk_at"po") (by rfl) (by rfl) n2 (by rfl) ?_*>ϛ (pl:=_) hr Β (h:=?_);f_are;show#[A.b,cB mg,A.dx,_,true,3,_,mY mg,rfl,iD.ins,by rfl,M1,by decide,id,?_];cbv;show#[A,B,mo,rfl,iD,hm,λz e H' O R=>qg z e H' (c<|>O) R,λz e H' O R=>ql z e H' (c<|>O) R,λz1 z2 p ys hp a=>?_];let#[hok,j,q]:=q z1 z2;let U:↥(B.done.drop (mo-B.known).toNat)<=↥B.done:=by rw[ahH];omega
 generalize B.done.drop (mo-B.known).toNat=ds at a hok j q U;let W:=a.len;let#[m,ep,H1,p,H2]:=Ρ hp (.lst ys);let Y:Α (lL H2) ys ds:=Α.imp (λv d h=>h.stay λb ys e=>m _ _ e) a;let Ti:=m _ _ M;let rp:r≠p:=λe=>by rw[<-e,M]at hp;cases hp
 show#[p,ys,rfl,θ.of ep,λi σ H'=>(∃n,σ=[↑(.ref A.b),↑(.int mo),↑(.ref r),n])/\Out [r] H2 H'/\DictAt (TupAt H') H' r (cO B.rows (ds.drop (↥ys-i))),#[#[none,rfl],Out.refl _ _,#[Ϸ,Ti,?_]],λi σ H' hi y=>θ.of (y.2.1 _ _ (~~~Ne.symm rp) ep),λi x σ H' hi hx y=>?_,λσ H' y=>?_]
 .rw[ari,W,apA];show d8 gY λv x h=>h.stay λb ys e=>m _ _ e
 .let#[#[n,rfl],o,I]:=y;let#[d,hd,t,w,u,rfl,ht,hw,hu]:=Y.get hx;let st:∀b ys,H2 b=↑(.tup ys)->H' b=↑(.tup ys):=λb ys e=>o _ _ (λz=>by rw[ab7.mp z,Ti]at e;cases e) e
  let C:↥ys-(i+1)<↥ds:=()
  let D:ds.drop (↥ys-(i+1))=d::ds.drop (↥ys-i):=by
   rw[aie C];let e1:ds[↥ys-1-i]?=↑d:=hd;let e2:↥ys-1-i=↥ys-(i+1):=()
   rw[e2]at e1;rw[(aas.mp e1).2,show ↥ys-(i+1)+1=↥ys-i by omega]
  let F:ik B.rows (d::ds.drop (↥ys-i)):=by rw[<-D];show hok.drop _
  let ye:=Y9 B.rows (ds.drop (↥ys-i));let ar8:↥(ds.drop (↥ys-i))<=↥ds:=by rw[ahH];omega
  let G:Δ K H' t [.int d.at_,.int d.row,w,u]:=Δ.of (st<*ht);show ω nd ?_;f_len;cbv;show gZ G (i:=1) rfl ?_;cbv;show gZ G (i:=2) rfl ?_;cbv;show#[r,cO B.rows (ds.drop (↥ys-i)),d.row,w,d.was,rfl,I,hw.stay st,F.2,(),λH3 n k3=>?_]*>#[#[_,rfl],o<|>n,?_];rw[D];show k3
 .let#[#[n,rfl],o,I]:=y;rw[asZ,akR]at I;let J:ζ H H':=λb u e=>o _ _ (λz=>by rw[ab7.mp z,g]at e;cases e) (m<*(c _ _ e))
  f_len;cbv;show#[r,_,rfl,I,j,λp2 Z ks H3 aa ab ac ae af Rg=>?_]*>q p2 Z ks H3 (J<|>aa) (J.free ab) ac ae af (Α.imp (λv x z=>by let#[t,l,e,h1,h2,h3,h4]:=z;show #[t,l,e,h1,h2,J.free h3,J.free h4]) Rg)
inductive zx(mg:MG):Sp
 |mk (A:BA) (B:Bk) (mo:Int):vs=[.ref A.b,.int mo]->Κ (cB mg) H A B->dN B->↥B.done<10000->(mo<B.known->∀e H',ζ H H'->H' e=↑(.xd [("known",.int B.known)])->E (.ref (η mg "Gone")) (↑e,true) H')->(B.now<mo->∀e H',ζ H H'->H' e=↑(.xd [("now",.int B.now)])->E (.ref (η mg "Later")) (↑e,true) H')->(B.known<=mo->mo<=B.now->∀p ys H',ζ H H'->H p=none->H' p=↑(.lst ys)->Α (YB H H') ys (B.done.drop (mo-B.known).toNat)->Q (.ref p) H')
def agr:FD 4 "deeds" "Book.deeds" yM ["self","moment"] (zx mg):=by
 show ϡ (S:=aab) (λf Ϲ A' outer s H vs Q E hr h=>?_);intro X _;let#[A,B,mo,rfl,kB,hm,hdl,qg,ql,q]:=h;let nd:=aab.nd;let hsz:=ϯ;let J:(["made","row","was","now"]:List Str).Nodup:=by fin2
 let M1:Ψ P w K mg base true 3 (cB mg) "done_behind" ["self","moment"] (mY mg):=(Jh T).meth T.ώ T.HX;let D1:=!Eo;w_up;f_tup;show ϛ (pl:=_) hr Β (h:=?_);f_are;show#[A.b,cB mg,A.dx,_,true,3,_,mY mg,rfl,kB.ins,by rfl,M1,by decide,id,?_];cbv;show#[A,B,mo,rfl,kB,hm,qg,ql,λo y p ys hp j=>?_];let q:=q o y;let aa:↥(B.done.drop (mo-B.known).toNat)<=↥B.done:=by rw[ahH];omega
 generalize B.done.drop (mo-B.known).toNat=ds at j q aa;let D:=j.len;let#[L,ep]:=Ρ hp (.lst ys);change Φ _ _ _ _ (upd H p (.lst ys));generalize upd H p (.lst ys)=H1 at L ep⊢;symm;show jw ["made","row","was","now"] (σ':=[none,none,none,none]) (b8 (ς yM)) ?_;f_are;show#[p,ys,rfl,θ.of ep,(),λτ=>∃o1 o2 o3 o4,τ=[o1,o2,o3,o4],λF i u H'=>∃d t w v,ds[i]?=↑d/\u=.ref t/\t≠F/\H' t=↑(.tup [.int d.at_,.int d.row,w,v])/\jK H H' w d.was/\jK H H' v d.is/\H t=none/\(∀l,w=.ref l->l≠F)/\∀l,v=.ref l->l≠F,#[none,none,none,none,rfl],λF i u H2 H3 ys y1 y2 y3=>?_,λfp F C s3 H0 i τ x H4 H3 aR hi ab ϋ ac hG=>?_,λL2 H2 zs ae G af n Χ =>?_]
 .let#[d,t,w,v,o,y,z3,z4,z5,z6,z7,z8,z9]:=y3;show#[d,t,w,v,o,y,z3,y2 _ _ z3 z4,z5.stay λl ys e h=>y2 _ _ (z8 l e) h,z6.stay λl ys e h=>y2 _ _ (z9 l e) h,z7,z8,z9]
 .let#[o1,o2,o3,o4,rfl]:=ab;let#[hx,rfl]:=hG;let#[d,hd,t0,w0,u0,rfl,ag,ah,ai]:=j.get hx;let M:=L<|>ϋ;let tU:∀b ys,H b=↑(.tup ys)->H4 b=↑(.tup ys):=λb ys e=>M _ _ e
  let#[ys0,hE]:=ac;show ϟ (Δ.of (tU<*ag)) (Η (ω J (Η (ω J (Η (ω J (Η (ω J (Ϣ ?_)))))))));cbv;show#[w0,d.was,rfl,ah.stay tU,λO H5 U a=>?_];cbv;show#[u0,d.is,rfl,ai.stay λb ys e=>U _ _ (tU<*e),λW Y lF c=>?_];cbv;show#[Ξ,λt Z=>?_];let ak:ζ Y (upd Y t (.tup [.int d.at_,.int d.row,O,W])):=ζ.upd Z;let Iu:=U<|>lF;let fw:jK H Y O d.was:=by
   cases e:d.was with
   |none=>rw[e]at a;show a
   |some xs=>
    rw[e]at a;let#[l,e1,n,g]:=a;show#[l,e1,lF<*n,M.free g]
  let fu:jK H Y W d.is:=by
   cases e:d.is with
   |none=>rw[e]at c;show c
   |some xs=>
    rw[e]at c;let#[l,e1,n,g]:=c;show#[l,e1,n,(M<|>U).free g]
  show#[#[_,_,_,_,rfl],#[d,t,O,W,hd,rfl,λe=>?_,υ,fw.stay λl ys _ h=>ak _ _ h,fu.stay λl ys _ h=>ak _ _ h,(M<|>Iu).free Z,λl e=>?_,λl e=>?_],Iu<|>ak]
  .rw[e,Iu<*hE]at Z;cases Z
  .cases g:d.was with
   |none=>rw[g]at a;let al:O=.non:=a;rw[al]at e;cases e
   |some xs=>
    rw[g]at a;let#[l',e1,n,I]:=a;rw[e1]at e;cases e;intro z;rw[z,hE]at I;cases I
  .cases g:d.is with
   |none=>rw[g]at c;let am:W=.non:=c;rw[am]at e;cases e
   |some xs=>
    rw[g]at c;let#[l',e1,n,I]:=c;rw[e1]at e;cases e;intro z;rw[z,U<*hE]at I;cases I
 .show q L2 zs H2 (L<|>Χ) (L.free ae) n (mK (R:=λv d=>YB H H2 v d) (l:=zs) (m:=ds) (by rw[G,D]) λi d hd=>?_);let hi:i<↥zs:=by rw[G,D];show(aas.mp hd).1
  let hy:zs[i]?=↑zs[i]:=aad hi;let#[d',t,w,v,o,y,z3,z4,z5,z6,z7,_]:=af i _ hy;rw[hd]at o;cases o;show#[_,hy,t,w,v,y,z4,z5,z6,z7]
def _root_._V.Out.seq(o:Out S H H')(c:a∉S)(h:θ K H a xs):θ K H' a xs:=by
 rcases h with(h|⟨u,h⟩)|h
 .show .inl (.inl (o _ _ c h))
 .show .inl (.inr #[u,o _ _ c h])
 .show .inr h
def RX(h:θ K H a xs):H a≠none\/∀H',θ K H' a xs:=by
 rcases h with(h|⟨u,h⟩)|h
 .show .inl (by rw[h];nofun)
 .show .inl (by rw[h];nofun)
 .show .inr λ_=>.inr h
def NT(H:Hp)(S:List δ):=∀x∈S,∀ys,H x≠↑(.tup ys)
theorem NT.tup(h:NT H S)(o:Out S H H'):∀b ys,H b=↑(.tup ys)->H' b=↑(.tup ys):=λb ys e=>o b _ (λz=>h b z ys e) e
def _root_._V.BA.six(A:BA):List δ:=[A.h,A.r,A.t,A.d,A.b,A.dx]
def _root_._V.Κ.on6(k:Κ C H A B):∀x∈A.six,H x≠none:=by
 intro x c;let a:x=A.h\/x=A.r\/x=A.t\/x=A.d\/x=A.b\/x=A.dx:=by simpa [BA.six]using c
 let#[_,e,_]:=k.heads;let#[_,f,_]:=k.rows;let#[_,g,_]:=k.touched;let#[_,i,_]:=k.done;obtain rfl|rfl|rfl|rfl|rfl|rfl:=a
 .rw[e];nofun
 .rw[f];nofun
 .rw[g];nofun
 .rw[i];nofun
 .rw[k.ins];nofun
 .rw[k.own];nofun
def aiA{A:BA}(c:x∈[A.b,A.dx,A.h,A.r,A.t,A.d]):x∈A.six:=by
 let a:x=A.b\/x=A.dx\/x=A.h\/x=A.r\/x=A.t\/x=A.d:= ~~~c
 obtain rfl|rfl|rfl|rfl|rfl|rfl:=a<;>simp[BA.six]
theorem _root_._V.Κ.out(k:Κ C H A B)(o:Out S H H')(nt:NT H S)(a:∀x∈A.six,x∉S):Κ C H' A B:=
 k.stay (nt.tup o) λx u c e=>o x u (a x (aiA c)) e
theorem Ak{α:Type}[BEq α][LawfulBEq α]:∀{l m:List α},l.Nodup->(∀x∈l,x∈m)->↥l<=↥m
 |[],m,_,_=>aim _
 |a::r,m,h,s=>by
  let h':=aiG.mp h;let f:=s a (adS ..);let c:=Ak (l:=r) (m:=m.erase a) h'.2 λx g=>(List.mem_erase_of_ne (λe=>h'.1 (by subst e;show g))).mpr (s x (acw _ g))
  rw[List.length_erase_of_mem f]at c;have:=List.length_pos_of_mem f;rw[acz];omega
def uK(r:List (Int×List V))(row:Int)(o:Option (List V))(i:Int):Ε (dX r row o) i=if i=row then o else Ε r i:=by
 cases o with
 |none=>show vX
 |some xs=>show rA
def aoc(h:(r.map (·.1)).Nodup)(row:Int)(o:Option (List V)):((dX r row o).map (·.1)).Nodup:=by
 cases o with
 |none=>show K9 h
 |some xs=>show Jp h
def ahp(h:k∈(dX r row o).map (·.1)):k=row\/k∈r.map (·.1):=by
 cases o with
 |none=>show .inr (ah7 h)
 |some xs=>show Ww.mp h
def gB(ds:List bA):List (Int×List V):=ds.foldl (λr d=>dX r d.row d.is) []
def aaO(ds:List bA)(d:bA):gB (ds++[d])=dX (gB ds) d.row d.is:=by
 unfold gB;rw[aqT];rfl
def take_snoc{α:Type}{l:List α}{d:α}(h:l[j]?=↑d):l.take (j+1)=l.take j++[d]:=by
 rw[asv,h];rfl
theorem TY(h:(r.map (·.1)).Nodup):∀ds:List bA,((cO r ds).map (·.1)).Nodup
 |[]=>h
 |d::ds=>aoc (TY h ds) _ _
theorem Mw{ns:List Int}(h:∀k∈r.map (·.1),k∈ns):∀{ds:List bA},(∀d∈ds,d.row∈ns)->∀k∈(cO r ds).map (·.1),k∈ns
 |[],_=>h
 |d::ds,hd=>λk a=>(ahp a).elim (λe=>by rw[e];show hd d (adS ..)) (Mw h (λx c=>hd x (acw _ c)) k)
def XM(all:List bA):=∀(j:Nat) d,all[j]?=↑d->d.at_=j+1/\d.was=Ε (gB (all.take j)) d.row/\(d.was=none->d.is≠none)
theorem back_eq(h:XM all):∀(n j:Nat),j+n=↥all->(∀i,Ε (cO (gB all) (all.drop j)) i=Ε (gB (all.take j)) i)/\ik (gB all) (all.drop j)
 |0,j,e=>by
  let l:j=↥all:=()
  subst l;rw[apA,ai0];show#[λ_=>rfl,trivial]
 |n+1,j,e=>by
  let#[a,c]:=back_eq h n (j+1) ();let f:j<↥all:=()
  let hd:all[j]?=↑all[j]:=aad f;let#[_,h2,g]:=h j _ hd;let e1:all.drop j=all[j]::all.drop (j+1):=aie f;rw[take_snoc hd,aaO]at a;rw[e1];generalize all[j]=d at h2 g a;show#[λi=>?_,c,λm=>?_]
  .show Ε (dX (cO (gB all) (all.drop (j+1))) d.row d.was) i=_;rw[uK,a,uK];by_cases z:i=d.row
   .rw[if_pos z,h2,z]
   .rw[if_neg z,if_neg z]
  .rw[a,uK,if_pos rfl];show g m
def G7{l1 l2:List Int}(h:∀x,x∈l1↔x∈l2)(n1:l1.Nodup)(n2:l2.Nodup)(h1:l1.Pairwise (· <= ·))(h2:l2.Pairwise (· <= ·)):l1=l2:=by
 induction l1 generalizing l2 with
 |nil=>
  cases l2 with
  |nil=>rfl
  |cons b j=>show absurd ((h b).mpr (adS ..)) (by simp)
 |cons a r l=>
  cases l2 with
  |nil=>show absurd ((h a).mp (adS ..)) (by simp)
  |cons b j=>
   let p1:=atn.mp h1;let p2:=atn.mp h2;let g:=aiG.mp n1;let i:=aiG.mp n2;let f:a=b:=by
    rcases aaT.mp ((h a).mp (adS ..))with e|e
    .show e
    .rcases aaT.mp ((h b).mpr (adS ..))with e2|e2
     .show e2.symm
     .have :=p2.1 a e;have:=p1.1 b e2;omega
   subst f;rw[l (λx=>#[λc=>?_,λc=>?_]) g.2 i.2 p1.2 p2.2]
   .rcases aaT.mp ((h x).mp (acw _ c))with e|e
    .show absurd (e▸c) g.1
    .show e
   .rcases aaT.mp ((h x).mpr (acw _ c))with e|e
    .show absurd (e▸c) i.1
    .show e
structure rD(all:List bA)(B:Bk):Prop where
 rows:B.rows=gB all
 done:B.done=all.drop B.known.toNat
 now:B.now=↥all
 kn:0<=B.known/\B.known<=B.now
 good:XM all
 wf:qT B
def rD.Uy(h:rD all B)(row:Int)(o:Option (List V))(f:Ε B.rows row=none->o≠none):rD (all++[#[B.now+1,row,Ε B.rows row,o]]) (aG B row o):=by
 let g:=h.kn;let m:=h.now;show#[?_,?_,?_,#[g.1,?_],?_,?_]
 .rw[aaO];cases o with
  |none=>
   show az B.rows row=dX (gB all) row none;rw[h.rows];rfl
  |some xs=>
   show aD B.rows row xs=dX (gB all) row ↑xs;rw[h.rows];rfl
 .show B.done++[(#[B.now+1,row,Ε B.rows row,o]:bA)]=List.drop B.known.toNat (all++[#[B.now+1,row,Ε B.rows row,o]]);rw[arK (), <-h.done]
 .show B.now+1=_;rw[adz,afZ];omega
 .show B.known<=B.now+1;omega
 .intro j d hd;by_cases l:j<↥all
  .rw[aiZ l]at hd;have:=h.good j d hd;rw[arP ()];show this
  .let a:j<↥(all++[(#[B.now+1,row,Ε B.rows row,o]:bA)]):=(aas.mp hd).1;rw[adz,afZ]at a;let e:j=↥all:=()
   subst e;rw[amI (Ϭ _),asZ]at hd;let c:d=#[B.now+1,row,Ε B.rows row,o]:= ~~~hd.symm
   subst c;show#[by show B.now+1=_;omega,?_,f];show Ε B.rows row=_;rw[arP (Ϭ _),ai0,h.rows]
 .intro i;cases o with
  |none=>
   show Ε (az B.rows row) i=none↔ Ε (az B.touched row) i=none;rw[vX,vX];by_cases e:i=row
   .simp[e]
   .rw[if_neg e,if_neg e];show h.wf i
  |some xs=>
   show Ε (aD B.rows row xs) i=none↔ Ε (aD B.touched row (B.now+1)) i=none;rw[rA,rA];by_cases e:i=row
   .rw[if_pos e,if_pos e];simp
   .rw[if_neg e,if_neg e];show h.wf i
theorem rD.mom(h:rD all B)(a:↥all<=1000000):dN B:=#[h.kn.1,h.kn.2,by have:=h.now;omega]
theorem _root_._V.Α.Fw{α β:Type}{R:α->β->Prop}:∀{l:List α}{m:List β},Α R l m->∀b∈m,∃a,a∈l/\R a b
 |_,_,.nil,b,c=>by simp at c
 |_,_,.cons (a:=a) r t,b,c=>by
  obtain e|e:=aaT.mp c
  .subst e;show#[a,by simp,r]
  .let#[f,h1,h2]:=t.Fw b e;show#[f,by simp[h1],h2]
def aL.word(h:aL f v)(p:f="number"\/f="text"):gA f (wordOf v)=↑v/\↥(wordOf v)<=21/\32∉(wordOf v).cps.toList/\¬wordOf v=μ "*"/\(∀c∈(wordOf v).cps.toList,c<1114112):=by
 obtain rfl|⟨j,i,rfl,h1,h2⟩|⟨j,z,rfl,q,n⟩:=h
 .show#[?_,by fin2,by fin2,by fin2,by fin2];unfold gA;rw[if_pos (show wordOf .non=μ "?" from rfl)]
 .subst j;let l:=zT i;show#[ahg h1 h2,?_,λh=>?_,λh=>?_,λc hc=>?_]
  .have :=pB (i:=i) (k:=19) ();show(μ (toString i)).length<=21;omega
  .have :=l 32 h;omega
  .let h':μ (toString i)=μ "*":=h;let e:("*":Str).cps.toList=[42]:=by fin2
   have:=l 42 (by rw[h',e];simp);omega
  .have :=l c hc;omega
 .let m:f="text":=p.resolve_left j;subst m;let e1:↥("'":Str)=1:=by fin2
  let s:=len_app ("'":Str) z;let g:∀c∈SG,¬c=32/\c<1114112:=by fin2
  let a:∀c∈(μ "'"++z).cps.toList,c=39\/c∈SG:=λc hc=>by
   rw[aJ,yZ]at hc;obtain h|h:=agq.mp hc
   .show .inl (~~~h)
   .show .inr (n c h)
  show#[acO q n,by show(μ "'"++z).length<=21;omega,λh=>?_,λh=>?_,λc hc=>?_]
  .obtain e|e:=a 32 h
   .omega
   .show(g 32 e).1 rfl
  .let h':μ "'"++z=μ "*":=h;let e:("*":Str).cps.toList=[42]:=by fin2
   let o:(μ "'"++z).cps.toList[0]?=↑39:=by rw[aJ,yZ];rfl
   rw[h',e]at o;simp at o
  .obtain e|e:=a c hc
   .omega
   .show(g c e).2
def plainS(z:Str):=∀c∈z.cps.toList,32<=c/\c<=122/\c≠46/\c≠47
theorem plainS.app(h:plainS a)(g:plainS b):plainS (a++b):=λc hc=>by
 rw[aJ]at hc;obtain hc|hc:=agq.mp hc
 .show h c hc
 .show g c hc
theorem plainS.join:∀{ps:List Str},(∀p∈ps,plainS p)->plainS (ϭ " " ps)
 |[],_=>by
  intro c hc;have:c∈([]:List Nat):=hc;simp at this
 |[p],h=>h p (by simp)
 |p::q::r,h=>by
  let a:plainS (" ":Str):=by unfold plainS;fin2
  show((h p (by simp)).app a).app (plainS.join λx e=>h x (by simp[e]))
def agQ:∀c∈SG,32<=c/\c<=122/\c≠46/\c≠47:=by fin2
theorem Lk(i:Int):plainS (μ (toString i)):=λc hc=>by
 have:=zT i c hc;omega
def aL.plain(h:aL e v):plainS (wordOf v):=by
 obtain rfl|⟨f,i,rfl,h1,h2⟩|⟨f,z,rfl,j,g⟩:=h
 .unfold plainS;fin2
 .show Lk i
 .show plainS.app (a:=μ "'") ?_ λc hc=>agQ c (g c hc)
  unfold plainS;fin2
def XD(h:isName z=true):plainS z:=by
 unfold isName at h;rw[acF]at h;intro c hc;let h2:=h.2;unfold iu at h2;rw[aeN]at h2;let e:=of_decide_eq_true (h2 c hc);let a:∀c∈LR.cps.toList,32<=c/\c<=122/\c≠46/\c≠47:=by fin2
 show a c e
theorem pY:∀ps:List Str,↥(ϭ " " ps)<=(ps.map (·.length)).sum+↥ps
 |[]=>by show(0:Nat)<=_;omega
 |[p]=>by
  show ↥p<=_;simp
 |p::q::r=>by
  let a:=pY (q::r);let c:↥(" ":Str)=1:=by fin2
  show(p++μ " "++ϭ " " (q::r)).length<=_;rw[len_app,len_app,c];simp only[adY,aqC,acz]at a⊢;omega
def rZ(ps:List Str)(n:Nat)(h:∀p∈ps,↥p<=n):(ps.map (·.length)).sum<=↥ps*n:=by
 induction ps with
 |nil=>simp
 |cons p ps a=>
  let h1:=a λx c=>h x (by simp[c])
  let h2:=h p (by simp);simp only[adY,aqC,acz,at7];omega
def NZ(h:isName z=true):↥z<=8:=by
 unfold isName at h;rw[acF]at h;show(of_decide_eq_true h.1).2
def Dk(hc:ϗ cs=true)(f:z∈cs.map Prod.fst):isName z=true:=by
 let#[c,a,e]:=ab9.mp f;unfold ϗ at hc;simp only[acF,aeN]at hc;rw[<-e];show(hc.1.2 c a).1
def jm(nm:Nat->Str):dU->List Str
 |.all=>["all"]
 |.none p=>["none",nm p]
def wT(nm:Nat->Str):Tr->List Str
 |.one s=>jm nm s
 |.nt t=>"not"::wT nm t
def Υ(cs:List ο)(p:Nat):Str:=match cs[p]? with
 |some c=>c.1
 |none=>μ ""
def Ax(cs:List ο):dU->Prop
 |.all=>True
 |.none p=>p<↥cs
def jY(cs:List ο):Tr->Prop
 |.one s=>Ax cs s
 |.nt t=>jY cs t
def AtW(nm:Nat->Str)(ws:List Str)(t:Tr)(s:Nat):=∃a,ws.drop s=wT nm t++a
def drop_cons{α:Type}{ws r:List α}{x:α}(h:ws.drop s=x::r):ws[s]?=↑x/\ws.drop (s+1)=r:=by
 let hs:s<↥ws:=by
  let h2:↥(ws.drop s)=↥(x::r):=by rw[h]
  rw[ahH,acz]at h2;omega
 rw[aie hs]at h;injection h with h1 h2
 show#[by rw[aad hs,h1],h2]
def akA{α:Type}{ws a r:List α}(h:ws.drop s=a++r)(c:a≠[]):s+↥a<=↥ws:=by
 let h2:↥(ws.drop s)=↥(a++r):=by rw[h]
 rw[ahH,adz]at h2;have:0<↥a:=aoj.mpr c;omega
def Ka(nm:Nat->Str)(s:dU):jm nm s≠[]:=by cases s<;>simp[jm]
def zP(nm:Nat->Str)(t:Tr):wT nm t≠[]:=by
 cases t with
 |one s=>show Ka nm s
 |nt t=>simp[wT]
theorem Uz:∀{cs:List ο}{p:Nat}{c:ο},(cs.map Prod.fst).Nodup->cs[p]?=↑c->ϑ cs c.1=p
 |d::r,0,c,f,e=>by
  have:d=c:= ~~~e
  subst this;show(if d.1=d.1 then 0 else ϑ r d.1+1)=0;rw[if_pos rfl]
 |d::r,p+1,c,f,e=>by
  let g:r[p]?=↑c:= ~~~e
  let a:=aiG.mp f;let i:¬d.1=c.1:=λz=>a.1 (by rw[z];show ab9.mpr #[c,abD g,rfl])
  show(if d.1=c.1 then 0 else ϑ r c.1+1)=p+1;rw[if_neg i,Uz a.2 g]
def Pn(e:cs[p]?=↑c):Υ cs p=c.1:=by
 unfold Υ;rw[e]
def ahc(a:(cs.map Prod.fst).Nodup)(hp:cs[p]?=↑c)(hs:s<60)(e:ws[s]?=↑c.1):il cs ws s=↑p:=by
 unfold il;rw[if_pos hs,e];show(if cs.any (λd=>decide (d.1=c.1))=true then some (ϑ cs c.1)else none)=↑p;rw[if_pos (by rw[amJ];show#[c,abD hp,decide_eq_true rfl]),Uz a hp]
theorem abE(hok:ϗ cs=true):∀{c:dU},ws.drop s=jm (Υ cs) c++a->s+↥(jm (Υ cs) c)<=60->Ax cs c->sV cs ws s c (s+↥(jm (Υ cs) c))
 |.all,e,f,_=>#[(drop_cons (r:=a) e).1,rfl]
 |.none p,e,f,i=>by
   let j:(cs.map Prod.fst).Nodup:=by
    unfold ϗ at hok;simp only[acF,decide_eq_true_eq]at hok;show hok.2
   let#[e1,l]:=drop_cons (r:=[Υ cs p]++a) e;let#[g,_]:=drop_cons (r:=a) l;let m:=akA e (Ka (Υ cs) (.none p));let n:s+2<=60:=f;let hp:cs[p]?=↑cs[p]:=aad i;rw[Pn hp]at g;show#[e1,m,ahc j hp () g,rfl]
theorem vC(hok:ϗ cs=true):∀{t:Tr}{s:Nat},AtW (Υ cs) ws t s->s+↥(wT (Υ cs) t)<=60->jY cs t->Reads cs ws t s (s+↥(wT (Υ cs) t))
 |.one f,s,e,c,g=>by
   let#[a,e]:=e;let hp:0<↥(jm (Υ cs) f):=aoj.mpr (Ka (Υ cs) f);let i:s+↥(jm (Υ cs) f)<=60:=c;show#[(),abE hok e c g]
 |.nt t,s,e,c,g=>by
   let#[a,e]:=e;let#[e1,j]:=drop_cons (r:=wT (Υ cs) t++a) e;let i:s+(↥(wT (Υ cs) t)+1)<=60:=c;show#[(),e1,?_];have:=vC hok (t:=t) #[a,j] () g;let l:s+↥(wT (Υ cs) (.nt t))=s+1+↥(wT (Υ cs) t):=by show s+(↥(wT (Υ cs) t)+1)=_;omega
   rw[l];show this
theorem ajL(h:isName z=true):32∉z.cps.toList:=λa=>by
 unfold isName iu at h;rw[acF,aeN]at h;show absurd (of_decide_eq_true (h.2 32 a)) (by fin2)
theorem akk(hok:ϗ cs=true):∀{f:dU},Ax cs f->∀z∈jm (Υ cs) f,↥z<=21/\32∉z.cps.toList/\plainS z
 |.all,_,z,a=>by
   have:z=μ "all":=by simpa [jm]using a
   subst this;show#[by fin2,by fin2,by unfold plainS;fin2]
 |.none p,g,z,a=>by
   let c:z=μ "none"\/z=Υ cs p:=by simpa [jm]using a
   obtain rfl|rfl:=c
   .show#[by fin2,by fin2,by unfold plainS;fin2]
   .let hp:cs[p]?=↑cs[p]:=aad g;rw[Pn hp];let e:=Dk hok (ab9.mpr #[cs[p],ak7 g,rfl]);show#[by have:=NZ e;omega,λh=>by have:=(ajL e);show this h,XD e]
theorem uW(hok:ϗ cs=true):∀{t:Tr},jY cs t->∀z∈wT (Υ cs) t,↥z<=21/\32∉z.cps.toList/\plainS z
 |.one s,a,z,hz=>akk hok a z hz
 |.nt t,a,z,hz=>by
   obtain rfl|hz:=aaT.mp hz
   .show#[by fin2,by fin2,by unfold plainS;fin2]
   .show uW hok (t:=t) a z hz
def xM:Def 2 "key_of" ["columns","order","row","values"] W0:=by
 exists ["columns","order","row","values"],xM,hr,#[a,b,n,c,cs,os,xs,rfl,R,#[ws,S,g],hc,rK,U,W,Y,q];let B:(["name","up","columns","values"]:List Str).Nodup:=by fin2
 let hsz:=ϯ;let m:=g.len;let D1:=!oJ;symm;show Zo ?_*>jn (by rfl) ?_*>jw ["name","up","columns","values"] (σ':=[none,none,↑(.ref a),↑(.ref c)]) (b8 (ς aax)) ?_;f_are;show#[b,ws,rfl,θ.of S,(),λD=>∃F G,D=[F,G,↑(.ref a),↑(.ref c)],λj i u H'=>∃o,os[i]?=↑o/\u=dB cs xs o.1,#[none,none,rfl],λj i u H2 Z ys _ _ p=>p,λfp j C s3 H0 i D x s Z I hi v f hys hG=>?_,λj s ys I y z e4 f=>?_]
 .let#[F,G,rfl]:=v;let#[bh,rfl]:=hG;let#[o,J,t,rfl,ht]:=g.get bh;show ϟ (Δ.of (f<*ht)) (Η (ω B (Η (ω B (Ϣ ?_)))));cbv;show#[a,cs,o.1,rfl,R.same f,λH5 L=>?_];let l:=Y o (abD J);rw[wX 0 l,anF];let hlt:=ur l;let M:xs[ϑ cs o.1]?=↑xs[ϑ cs o.1]:=aad ();show ϐ (θ.of (L<*(f _ _ hc))) (bH M) ?_*>#[#[_,_,rfl],#[o,J,by unfold dB;rw[M];rfl],L]
 .let ey:=jJ (ys:=os) (λo=>dB cs xs o.1) (by rw[y,m]) z;cbv;show#[Ξ,λp hp=>?_];let pn:H p=none:=by
   cases e:H p with
   |none=>rfl
   |some u=>rw[f<*e]at hp;cases hp
  let O:ζ s (upd s p (.tup [.ref j,.int n])):=ζ.upd hp;show q p j _ (f<|>O) pn I ?_ υ;rw[O<*e4,ey];rfl
def uF(H H':Hp)(v:V)(r:Row):=∃t l,v=.ref t/\H' t=↑(.tup [.int r.1,.ref l])/\H l=↑(.lst r.2)
def uF.row(h:uF H H' v r)(s:ζ H H'):tY H' v r:=by
 let#[t,l,e,e1,a]:=h;show#[t,l,e,e1,s<*a]
theorem bx.len(h:bx cs r):↥r.2=↥cs:=(Α.len h).symm
inductive ZQ(K:ϩ)(mg:MG)(t:Tr):Sp
 |mk (a p:δ) (z:Str) (rs:List Row):vs=[.ref a,.ref p]->dZ mg H t a z->kZ H p rs->↥rs<=1000->(∀r∈rs,BJ r.2 t)->(∀q ws H',ζ H H'->H q=none->H' q=↑(.lst ws)->Α (uF H H') ws (rs.filter λr=>ϙ r.2 t)->Q (.ref q) H')
def amY(a:List Row)(f:Row->Bool):(lq (λi=>f (a.getD i (0,[]))) ↥a).map (λi=>a.getD i (0,[]))=a.filter f:=by
 unfold lq;let h:=map_getD (0,[]) a
 conv=>rhs;rw[<-h]
 rw[atM];rfl
theorem aam{α β c:Type}{R:α->c->Prop}(g:β->c):∀{l:List α}{m:List β},Α (λa b=>R a (g b)) l m->Α R l (m.map g)
 |_,_,.nil=>.nil
 |_,_,.cons h t=>.cons h (aam g t)
def v8(t:Tr):Def (4+t.dep) "let_through" ["sieve","rows"] (ZQ K mg t):=by
 rw[show 4+t.dep=(3+t.dep)+1 by omega];exists ["sieve","rows"],v8,W,#[a,p,z,f,rfl,I,#[ws,hp,j],hl,Y,q],1;let s:=j.len;let J:(["row","values","sieve"]:List Str).Nodup:=by fin2
 symm;show agT ["row","values","sieve"] (σ':=[none,none,↑(.ref a)]) (by rfl) (by rfl) (b8 (ς Qp)) (by intro _;rfl) ?_>>=#[p,ws,rfl,θ.of hp,(),λL=>∃M O,L=[M,O,↑(.ref a)],λi=>ϙ (f.getD i (0,[])).2 t,λm i u H'=>u≠.ref m/\uF H H' u (f.getD i (0,[])),#[none,none,rfl],λm i v H2 H3 ys Z hk h=>?_,λfp m C s3 H0 i L x H2 R hx y g c=>?_,λm H2 us R e2 S g=>?_]
 .let#[h0,B,l,e,h1,h2]:=h;show#[h0,B,l,e,hk _ _ (λz=>by rw[z,Z]at h1;cases h1) h1,h2]
 .let#[M,O,rfl]:=y;let#[r,n,tr,U,rfl,D,o]:=j.get hx;let#[ys,c]:=c;let F:f.getD i (0,[])=r:=by rw[ac0,n];rfl
  let#[da,fa,ea,la]:=(I.same g).ins;show ϟ (Δ.of (g<*D)) (Η (ω J (Η (ω J (Ϣ ?_)))))*>VP (λ_=>by rfl) ?_*>ϛ (pl:=_) W (by walk_at"xo") (by rfl) (by rfl) (by rfl) ?_;f_are;show#[a,ie mg t,da,_,true,3+t.dep,_,pq K mg t,rfl,ea,la,Lj T t,Ϭ _,id,?_]>>=#[a,U,z,r.2,rfl,I.same g,θ.of (g<*o),Y r (abD n),?_]*>#[_,rfl,(by show ϙ r.2 t=ϙ (f.getD i (0,[])).2 t;rw[F]),#[_,_,rfl],ζ.refl _,λ_=>?_]>>=#[Ξ,λB G=>?_]*>#[#[λz=>?_,B,U,rfl,by rw[F];show υ,by rw[F];show o],ζ.upd G];injection z with z
  rw[z,c]at G;cases G
 .rw[s]at S;let Je:Α (uF H H2) us (f.filter λr=>ϙ r.2 t):=by
   rw[<-amY f λr=>ϙ r.2 t];show aam _ (S.imp λu i z=>by
    show z.2)
  show q m us H2 g R e2 Je
theorem wj{α:Type}:∀{m:List (Int×α)}{p:Int×α},(m.map (·.1)).Nodup->p∈m->Ε m p.1=↑p.2
 |q::m,p,f,hp=>by
  let a:=aiG.mp f;obtain rfl|hp:=aaT.mp hp
  .unfold Ε;rw[af3,decide_eq_true rfl];rfl
  .let g:¬q.1=p.1:=λe=>a.1 (ab9.mpr #[p,hp,e.symm])
   let c:=wj a.2 hp;unfold Ε at c⊢;rw[af3,decide_eq_false g];show c
def Eh(a:(rows.map (·.1)).Nodup)(h:ks.Perm (rows.map (·.1))):(cP rows ks).Perm rows:=by
 let h1:(cP rows ks).Perm (cP rows (rows.map (·.1))):=h.map _;let h2:cP rows (rows.map (·.1))=rows:=by
  unfold cP;rw[aeu];have:rows.map ((λk=>(k,(Ε rows k).getD []))∘λx=>x.1)=rows.map id:=amo λp hp=>by
   show(p.1,(Ε rows p.1).getD [])=p;rw[wj a hp];rfl
  rw[this,asG]
 rw[h2]at h1;show h1
def afR:∀(i:Nat),c∈cs->ig cs c.1 i≠.non:=by
 induction cs with
 |nil=>intro i h;simp at h
 |cons d r a=>
  intro i h;unfold ig;by_cases e:d.1=c.1
  .rw[if_pos e];intro z;cases z
  .rw[if_neg e];obtain z|z:=aaT.mp h
   .subst z;show absurd rfl e
   .show a (i+1) z
def aaX:("+":Str).cps.toList=[43]/\("-":Str).cps.toList=[45]/\(" ":Str).cps.toList=[32]/\("":Str).cps.toList=[]:=by fin2
def aeK:Ϗ (#[#v[x]]++n) ↑1 none=n:=by
 apply d9;rw[show(Ϗ (#[#v[x]]++n) ↑1 none).cps.toList=(#[#v[x]]++n:Str).cps.toList.drop 1 from uD _ 1,aJ];rfl
def alM(hc:c∈cs)(e:c.1=o.1):lE cs (cW o)=↑o:=by
 let#[n,up]:=o;let hp:ig cs n 0≠.non:=by rw[<-show c.1=n from e];show afR 0 hc
 let a:∀x:Nat,(x=43\/x=45)->lE cs (#[#v[x]]++n)=↑(n,decide (x=43)):=λx f=>by
  unfold lE;rw[aeK];let g:(#[#v[x]]++n:Str).cps.toList[0]?=↑x:=by rw[aJ];rfl
  rw[g,if_pos #[by obtain z|z:=f<;>simp[z],hp]];simp
 unfold cW;cases up with
 |true=>show a 43 (.inl rfl)
 |false=>show a 45 (.inr rfl)
def ah5(h:32∉o.1.cps.toList):32∉(cW o).cps.toList:=by
 unfold cW;rw[aJ];let#[e1,a,_]:=aaX;split
 .rw[e1];simpa using h
 .rw[a];simpa using h
theorem ahr:∀{ps:List Str},ϭ " " ps=""->ps=[]\/ps=[μ ""]
 |[],_=>.inl rfl
 |[p],h=>.inr (by rw[show p="" from h])
 |p::q::r,h=>by
  let e:(ϭ " " (p::q::r)).cps.toList=f9 32 ((p::q::r).map λp=>p.cps.toList):=oN 32 _;rw[h]at e;let a:([]:List Nat)=p.cps.toList++32::f9 32 ((q::r).map λp=>p.cps.toList):=e;have:=congrArg aqJ a;simp at this
def adP{os:List Ord}(G:↥os<=4)(n:(os.map Prod.fst).Nodup)(hc:∀o∈os,∃c∈cs,c.1=o.1)(q:∀o∈os,32∉o.1.cps.toList):ϕ cs (jB os)=↑os:=by
 unfold ϕ jB;by_cases l:os=[]
 .subst l;show if_pos (by fin2)
 .let h1:os.map cW≠[]:= ~~~l
  let s:∀p∈os.map cW,32∉p.cps.toList:=λp hp=>by
   let#[o,m,rfl]:=ab9.mp hp;show ah5 (q o m)
  let u:os.map cW≠[μ ""]:=λe=>by
   have:μ ""∈os.map cW:=by rw[e];simp
   let#[o,m,a]:=ab9.mp this;let v:=congrArg (λz:Str=>↥z.cps.toList) a;let B:(cW o).cps.toList.length=1+↥o.1.cps.toList:=by
    unfold cW;rw[aJ,adz];let#[l1,C,_]:=aaX;split
    .rw[l1];rfl
    .rw[C];rfl
   let D:("":Str).cps.toList.length=0:=by fin2
   let f:(cW o).cps.toList.length=("":Str).cps.toList.length:=v;rw[B,D]at f;omega
  rw[if_neg (λz=>(ahr z).elim h1 u),sJ h1 s,ϰ,if_neg ()];let E:jX (lE cs) (os.map cW)=↑os:=by
   show Vk (by simp) λi x y e1 a=>?_
   rw[acS,a]at e1;let g:cW y=x:=Option.some.inj e1;let#[c,j,F]:=hc y (abD a);rw[<-g];show alM j F
  rw[E];show(if(os.map Prod.fst).Nodup then some os else none)=↑os;rw[if_pos n]
def lK(xs:List V)(n:Int):PyData:=.tuple [.list (xs.map dV),.int n]
def jz.lay{os:List Ord}{xs:List V}(h:jz cs os xs):∀x∈xs,scalar x=true/\jL x=true/\∀z,x=.str z->fO 4000 z:=by
 let h':Α (λ(o:Ord) x=>aL (mV cs o.1) x) os xs:=h;clear h;induction h' with
 |nil=>intro x hx;cases hx
 |cons r t a=>
  intro x hx;obtain e|hx:=aaT.mp hx
  .subst e;show#[r.sc,r.jL]
  .show a x hx
def aaW(h:mW H p xs n)(hs:∀x∈xs,scalar x=true/\jL x=true/\∀z,x=.str z->fO 4000 z):RD K H (.ref p) (lK xs n):=by
 let#[l,h1,h2]:=h;show .tup (Δ.of h1) (.cons (.lst (θ.of h2) (aaR (aeN.mpr λx a=>(hs x a).2.1))) (.cons (.int _) .nil))
def JM(h:∀x∈xs,scalar x=true/\jL x=true/\∀z,x=.str z->fO 4000 z):(lK xs n).canLay0=true:=by
 show((PyData.list (xs.map dV)).canLay0&&(true&&true))=true;rw[Ni λx a=>(h x a).2];rfl
def Q8(xs:List V)(n:Int):(lK xs n).depth<=4:=by
 have:=Tw xs;simp only[lK,PyData.depth,PyData.depthAll];omega
def ahV(c:scalar x=true)(a:scalar y=true):PyData.eqv (dV x) (dV y)=decide (x=y):=by
 cases x with
 |non=>
  cases y with
  |non=>rfl
  |int j=>rfl
  |str z=>rfl
  |_=>show absurd a abW
 |int i=>
  cases y with
  |non=>rfl
  |int j=>
   show(i==j)=decide (V.int i=V.int j);rw[ahT,decide_eq_true_eq,beq_iff_eq];show#[λz=>by rw[z],λz=>by injection z]
  |str z=>rfl
  |_=>show absurd a abW
 |str z=>
  cases y with
  |non=>rfl
  |int j=>rfl
  |str y=>
   show(z==y)=decide (V.str z=V.str y);rw[ahT,decide_eq_true_eq,beq_iff_eq];show#[λz=>by rw[z],λz=>by injection z]
  |_=>show absurd a abW
 |_=>show absurd c abW
theorem T8:∀{xs ys:List V},(∀x∈xs,scalar x=true)->(∀y∈ys,scalar y=true)->PyData.eqvAll (xs.map dV) (ys.map dV)=decide (xs=ys)
 |[],[],_,_=>rfl
 |x::xs,y::ys,c,e=>by
  show(PyData.eqv (dV x) (dV y)&&PyData.eqvAll (xs.map dV) (ys.map dV))=_;rw[ahV (c x (by simp)) (e y (by simp)),T8 (xs:=xs) (ys:=ys) (λz a=>c z (by simp[a])) λz a=>e z (by simp[a])];rw[ahT,acF,decide_eq_true_eq,decide_eq_true_eq,decide_eq_true_eq,List.cons.injEq]
 |[],_::_,_,_=>rfl
 |_::_,[],_,_=>rfl
def akz(a:∀x∈xs,scalar x=true)(c:∀y∈ys,scalar y=true):PyData.eqv (lK xs n) (lK ys k)=decide (xs=ys/\n=k):=by
 show(PyData.eqvAll (xs.map dV) (ys.map dV)&&((n==k)&&true))=_;rw[T8 a c,Bool.and_true,ahT,acF,decide_eq_true_eq,decide_eq_true_eq,beq_iff_eq]
theorem ajK(h:Α (λ(c:ο) x=>aL c.2 x) cs xs):∀{a:dU},Ax cs a->RQ xs a
 |.all,_=>trivial
 |.none p,e=>by
   have:=h.len;show p<↥xs;let f:p<↥cs:=e;omega
theorem wg(h:Α (λ(c:ο) x=>aL c.2 x) cs xs):∀{t:Tr},jY cs t->BJ xs t
 |.one s,a=>ajK h a
 |.nt t,a=>wg h (t:=t) a
def ab8:List ϧ->List ϧ
 |(.For _ _ b _ _)::_=>b
 |_=>[]
def aia:List ϧ->List ϧ
 |(.If _ t _ _)::_=>t
 |_=>[]
def xj(cs:List ο)(os:List Ord)(t:Tr):Option (List V)->Option (List V)
 |some xs=>if ϙ xs t=true then some (jq cs os xs)else none
 |none=>none
def ZD(H:Hp)(v:V):Option (List V)->Prop
 |none=>v=.non
 |some xs=>∃l,v=.ref l/\H l=↑(.lst xs)
def Kd(H:Hp)(v:V)(row:Int):Option (List V)->Prop
 |none=>v=.non
 |some ks=>∃p,v=.ref p/\mW H p ks row
inductive T5(K:ϩ)(mg:MG)(t:Tr):Sp
 |mk (c b a:δ) (row:Int) (v:V) (cs:List ο) (os:List Ord) (z:Str) (o:Option (List V)):vs=[.ref c,.ref b,.ref a,.int row,v]->aj H c cs->↥cs<=6->eQ H b os->↥os<=4->dR cs os->dZ mg H t a z->jY cs t->ZD H v o->(∀xs,o=↑xs->bx cs (row,xs))->(∀v' H',ζ H H'->Kd H' v' row (xj cs os t o)->Q v' H')
def Lq(t:Tr):Def (4+t.dep) "key_through" ["columns","order","sieve","row","values"] (T5 K mg t):=by
 rw[show 4+t.dep=(3+t.dep)+1 by omega];exists ["columns","order","sieve","row","values"],Lq,n,#[c,b,a,row,v,cs,os,z,o,rfl,s,F,u,o4,x,m,g,e,y,q],G xM;w_up;show Θ ?_;cases o with
 |none=>
  cases e;lk;symm;lk;show q .non H (ζ.refl _) rfl
 |some xs=>
  let#[l,rfl,e]:=e;let f:=y xs rfl;let#[B,I,C,D]:=m.ins;lk;show ϛ (pl:=_) n Β (h:=?_);f_are;show#[a,ie mg t,B,_,true,3+t.dep,_,pq K mg t,rfl,C,D,Lj T t,Ϭ _,id,?_]>>=#[a,l,z,xs,rfl,m,θ.of e,wg f g,?_];cases hlt:ϙ xs t with
  |false=>
   lk;symm;lk;show q .non H (ζ.refl _) (by show Kd H .non row (if ϙ xs t=true then _ else none);rw[hlt];rfl)
  |true=>
   lk;show Γ ?_;symm;lk;show #[c,b,row,l,cs,os,xs,rfl,s,u,e,f.len,(),(),x,λp k H' s' hp J i j=>?_]*>q (.ref p) H' s' ?_*>Kd H' (.ref p) row (if ϙ xs t=true then some (jq cs os xs)else none);rw[hlt];show#[p,rfl,k,j,i]
def stepK(cs:List ο)(os:List Ord)(t:Tr)(m:List (Int×Int×List V))(d:bA):List (Int×Int×List V):=match Ε m d.row with
 |some k=>if xj cs os t d.is=↑k.2 then m else az m d.row
 |none=>m
def aF(cs:List ο)(os:List Ord)(a:List Row):List (Int×Int×List V):=a.map λr=>(r.1,r.1,jq cs os r.2)
def jr(H:Hp)(v:V)(x:Int×List V):=∃p,v=.ref p/\mW H p x.2 x.1
def jr.same(h:jr H v x)(s:ζ H H'):jr H' v x:=by
 let#[p,e,h]:=h;show#[p,e,h.same s]
def jr.upd(h:jr H v x)(e:H d=↑(.dK Ϸ)):jr (upd H d o) v x:=by
 let#[p,rfl,l,h1,h2]:=h;show#[p,rfl,l,by rw[ξ (λz=>by rw[z,e]at h1;cases h1)];show h1,by rw[ξ (λz=>by rw[z,e]at h2;cases h2)];show h2]
def alz{α:Type}{m:List (Int×α)}{x:α}(h:i∉m.map (·.1)):aD m i x=m++[(i,x)]:=by
 unfold aD;rw[if_neg];intro z;let#[p,hp,e]:=amJ.mp z;show h (ab9.mpr #[p,hp,of_decide_eq_true e])
abbrev bZ(B:Bk)(mo:Int):List Row:=cO B.rows (B.done.drop (mo-B.known).toNat)
abbrev jj(B:Bk)(mo:Int):List bA:=B.done.drop (mo-B.known).toNat
def nA(cs:List ο)(os:List Ord)(t:Tr)(B:Bk)(mo:Int)(a:List Row):List (Int×Int×List V):=(jj B mo).foldl (stepK cs os t) (aF cs os a)
structure aly(mg:MG)(H:Hp)(A:BA)(B:Bk)(os:List Ord)(t:Tr)(zo:Str):Prop where
 bk:Κ (cB mg) H A B
 ok:ϗ B.heads=true
 mm:dN B
 r1:↥B.rows<1000
 d1:↥B.done<10000
 zl:↥zo<=4000
 ro:ϕ B.heads zo=↑os
 o4:↥os<=4
 inc:dR B.heads os
 gt:jY B.heads t
 dp:t.dep<=20
 vz:↥(wT (Υ B.heads) t)<=60
 dd:∀d∈B.done,∀xs,d.is=↑xs->bx B.heads (d.row,xs)
inductive V3(K:ϩ)(mg:MG)(t:Tr):Sp
 |mk (A:BA) (B:Bk) (zo:Str) (mo:Int) (os:List Ord):vs=[.ref A.b,.str zo,.str (ϭ " " (wT (Υ B.heads) t)),.int mo]->aly mg H A B os t zo->(mo<B.known->∀e H',ζ H H'->H' e=↑(.xd [("known",.int B.known)])->E (.ref (η mg "Gone")) (↑e,true) H')->(B.now<mo->∀e H',ζ H H'->H' e=↑(.xd [("now",.int B.now)])->E (.ref (η mg "Later")) (↑e,true) H')->(B.known<=mo->mo<=B.now->ik B.rows (jj B mo)/\↥(bZ B mo)<64/\((bZ B mo).map Prod.fst).Nodup/\(∀r∈bZ B mo,bx B.heads r)/\
  ∀(p:δ)(rs:List Row)(ks:List Int)(H':Hp),ζ H H'->H p=none->H' p=↑(.lst (ks.map V.int))->rs.Perm ((bZ B mo).filter λr=>ϙ r.2 t)->ks.Pairwise (· <= ·)->ks.Perm ((nA B.heads os t B mo rs).map (·.1))->Q (.ref p) H')
def yo(t:Tr):Def (10+2*t.dep) "stood" ["book","order","sieve","moment"] (V3 K mg t):=by
 rw[show 10+2*t.dep=(9+2*t.dep)+1 by omega];show Ζ (S:=yR) T.yo (λf Ϲ A' outer s H vs Q E I h=>?_);intro X _;let#[A,B,zo,mo,os,rfl,n,aR,aS,q]:=h;let nd:=yR.nd;let n1:=T.qU;let hu:=I.units;let ae:_+1<cLine:=af6 (ahC (by decide:1<=64) _) I.units;let hsz:=ϯ;let O:=n.gt;let hok:=n.ok;let ϻ:=n.inc;let Cu:=n.o4;let kB:=n.bk;let#[c1,c6]:=KR hok;let D1:=!mX;let D2:= @zM P w K mg base T t;let D3:= @v8 P w K mg base T t;let D4:=!xM;let D5:= @Lq P w K mg base T t;let M1:Ψ P w K mg base true 4 (cB mg) "rows_at" ["self","moment"] (qH mg):=(Tf T).meth T.ώ T.Tn;let M2:Ψ P w K mg base true 4 (cB mg) "deeds" ["self","moment"] (zx mg):=(agr T).meth T.ώ T.acK;let M3:Ψ P w K mg base true 1 (cB mg) "columns" ["self"] (cI mg):=(lH T).meth T.ώ T.lA;let hw:=uW hok O;let VM:=n.vz;let fH:χ 32 (ϭ " " (wT (Υ B.heads) t))=wT (Υ B.heads) t:=sJ (zP (Υ B.heads) t) λz hz=>(hw z hz).2.1
 let qw:↥(ϭ " " (wT (Υ B.heads) t))<=3000:=by
  let h1:=rZ (wT (Υ B.heads) t) 21 λp hp=>(hw p hp).1
  let h2:=pY (wT (Υ B.heads) t);omega
 let aT:Reads B.heads (wT (Υ B.heads) t) t 0 ↥(wT (Υ B.heads) t):=by
  have:=vC hok (ws:=wT (Υ B.heads) t) (t:=t) (s:=0) #[[],by simp] () O;rw[anF]at this;show this
 w_up;f_tup;show aA (pl:=_) I Β ?_;f_are;show#[A.b,cB mg,A.dx,_,true,1,_,cI mg,rfl,kB.ins,by rfl,M3,(),id,A,B,rfl,kB,λc H1 s1 hc0 hC=>?_];k_go;show#[c,B.heads,zo,rfl,hC,n.zl,(λH' _ e=>by rw[n.ro]at e;cases e),λb os' H2 s2 e hb0 hO=>?_];rw[n.ro]at e;cases e;let ύ:=s1<|>s2;k_go;show#[c,B.heads,_,rfl,hC.same s2,qw,by rw[fH];show λy hy=>by have:=(hw y hy).1;omega,n.dp,by rw[fH];show aT,λv H3 s3 hv=>?_];generalize eO (χ 32 (ϭ " " (wT (Υ B.heads) t))) 0 ↥(χ 32 (ϭ " " (wT (Υ B.heads) t)))=zz at hv;let Ι :=ύ<|>s3;w_up;f_tup;show Cm λkd F=>?_
 let#[s4,J1,H3,kd,H4]:=Ρ F (.dK []);let aV:=Ι<|>s4;let aqf:H kd=none:=Ι.free F;w_up;show sZ (by walk_at"po") (by rfl) (by intro _;rfl) ?_;lk;show ϛ (pl:=_) I Β (h:=?_);f_are;show#[A.b,cB mg,A.dx,_,true,4,_,qH mg,rfl,(kB.same aV).ins,by rfl,M1,(),id,?_];lk;show#[A,B,mo,rfl,kB.same aV,n.mm,n.r1,n.d1,(λh e H' s' g=>aR h e H' (aV<|>s') g),(λh e H' s' g=>aS h e H' (aV<|>s') g),λaU a0=>?_];let#[a7,a8,al,X4,q]:=q aU a0;show#[a7,a8,λp1 ys ks H5 s5 hp1 a9 hso wA ba=>?_];let G:=Eh (rows:=bZ B mo) al a9;let gY:kZ H5 p1 (cP (bZ B mo) ks):=#[ys,wA,ba.imp λu r z=>by
  let#[t,l,e,h1,h2,_]:=z;show#[t,l,e,h1,h2]]
 let ers:cP (cO B.rows (B.done.drop (mo-B.known).toNat)) ks=cP (bZ B mo) ks:=rfl;generalize cP (bZ B mo) ks=oF at G gY;let hrl:=G.length_eq;let gM:=aV<|>s5;lk;show#[v,p1,zz,oF,rfl,hv.same (s4<|>s5),gY,(),λr I=>wg (X4 r (G.mem_iff.mp I)) O,λp2 nH H6 s6 am ab uE=>?_];let lR:=gM<|>s6;let an:(oF.filter λr=>ϙ r.2 t).Perm ((bZ B mo).filter λr=>ϙ r.2 t):=G.filter _;let bb:↥(oF.filter λr=>ϙ r.2 t)<=↥oF:=ahq ..;let ar:((oF.filter λr=>ϙ r.2 t).map Prod.fst).Nodup:=List.Nodup.sublist (List.Sublist.map _ (amx ..)) ((G.map Prod.fst).nodup_iff.mpr al);let af:∀r∈oF.filter (λr=>ϙ r.2 t),bx B.heads r:=λr I=>X4 r (G.mem_iff.mp (aiB.mp I).1)
 let Hs:Α (tY H6) nH (oF.filter λr=>ϙ r.2 t):=uE.imp λu r z=>z.row s6
 clear uE;generalize oF.filter (λr=>ϙ r.2 t)=fs at an bb ar af Hs;let bc:=Hs.len;let Hl:=(s5<|>s6) _ _ J1;let bd:p2≠kd:=λe=>by rw[e,s5<*J1]at am;cases am
 show#[p2,nH,rfl,θ.of ab,λi σ H'=>(∃R C,σ=[↑(.ref A.b),↑(.str zo),↑(.str (ϭ " " (wT (Υ B.heads) t))),↑(.int mo),↑(.ref c),↑(.ref b),↑(.ref v),↑(.ref kd),R,C,none,none,none])/\Out [kd] H6 H'/\∃Ϸ,H' kd=↑(.dK Ϸ)/\ Α (PR (jr H')) Ϸ (aF B.heads os (fs.take i)),#[#[none,none,rfl],Out.refl _ _,[],Hl,.nil],λi σ' H' _ J=>θ.of (J.2.1 _ _ (~~~bd) ab),λi x σ' H' hx J=>?_,λσ' H' J=>?_]
 .let#[#[R,C,rfl],o7,Ϸ,ek,hK]:=J;let#[r,U,tr,lr,rfl,ag,ah]:=Hs.get hx;let be:=af r (abD U);let nt:tr≠kd:=λe=>by rw[e,Hl]at ag;cases ag
  let nl:lr≠kd:=λe=>by rw[e,Hl]at ah;cases ah
  let av:=o7 _ _ (~~~nt) ag;let bf:=o7 _ _ (~~~nl) ah;let qZ:ζ H3 H':=λx o e=>o7 _ _ (by rw[ab7];show λz=>by rw[z,F]at e;cases e) ((s4<|>s5<|>s6)<*e)
  let bg:=hC.same ((s2<|>s3)<|>qZ);let bh:=hO.same (s3<|>qZ);let hkl:=hK.len;let hi:=(aas.mp U).1;let hkR:↥(aF B.heads os (fs.take i))<=i:=by unfold aF;rw[ϰ,aoz];omega
  show ϟ (Δ.of av) (Η (ω nd (Η (ω nd (Ϣ ?_)))));f_len;show wy ae ?_>>=#[c,b,r.1,lr,B.heads,os,r.2,rfl,bg,bh,bf,be.len,(),(),ϻ,λkp kk H7 s7 apo aoE bi ai=>?_]>>=#[kd,_,rfl,iQ.k (k:=Sum.inl r.1) (s7<*ek) (),?_]*>#[#[_,_,rfl],(o7<|>(Out.of s7))<|>(Out.upd (by simp)),_,υ,?_];let aw:r.1∉(aF B.heads os (fs.take i)).map (·.1):=by
   unfold aF;rw[aeu];intro hm;let#[r',bn,e]:=ab9.mp hm;let h':((fs.take i).map Prod.fst++(fs.drop i).map Prod.fst).Nodup:=by rw[<-ahZ,List.take_append_drop];show ar
   show(asy.mp h').2.2 r.1 (ab9.mpr #[r',bn,e]) r.1 ?_ rfl;rw[UW U];show adS ..
  let ep:aF B.heads os (fs.take (i+1))=aD (aF B.heads os (fs.take i)) r.1 (r.1,jq B.heads os r.2):=by
   rw[alz aw];unfold aF;rw[asz,U,ahZ];rfl
  rw[ep];show d8 (wM (d8 hK λu x z=>z.same s7) r.1 (v:=.ref kp) #[kp,rfl,kk,ai,bi]) λu x z=>z.upd (s7<*ek)
 .let#[#[R,C,rfl],o7,Ϸ,ek,hK]:=J;rw[bc,ai0]at hK;let qZ:ζ H3 H':=λx o e=>o7 _ _ (by rw[ab7];show λz=>by rw[z,F]at e;cases e) ((s4<|>s5<|>s6)<*e)
  let Cj:=Ι<|>qZ;w_up;show sZ (by walk_at"po") (by rfl) (by intro _;rfl) ?_*>ϛ (pl:=_) I Β (h:=?_);f_are;show#[A.b,cB mg,A.dx,_,true,4,_,zx mg,rfl,(kB.same Cj).ins,by rfl,M2,(),id,?_]>>=#[A,B,mo,rfl,kB.same Cj,n.mm,n.d1,(λh=>absurd h ()),(λh=>absurd h ()),λ_ _ pd yd H8 s8 ax ac QH=>?_];let bo:=QH.len;let bp:=s8 _ _ ek;let bq:pd≠kd:=λe=>by rw[e,ek]at ax;cases ax
  let br:∀x∈aF B.heads os fs,x.2.1=x.1/\jz B.heads os x.2.2:=λx hx=>by
   let#[r,I,rfl]:=ab9.mp hx;show#[rfl,rM (af r I) ϻ]
  let ay:∀d∈jj B mo,d∈B.done:=λd hd=>ali hd
  show#[pd,yd,rfl,θ.of ac,λj σ H9=>(∃R C iG iR pH,σ=[↑(.ref A.b),↑(.str zo),↑(.str (ϭ " " (wT (Υ B.heads) t))),↑(.int mo),↑(.ref c),↑(.ref b),↑(.ref v),↑(.ref kd),R,C,iG,iR,pH])/\Out [kd] H8 H9/\∃Ϸ m,m=((jj B mo).take j).foldl (stepK B.heads os t) (aF B.heads os fs)/\H9 kd=↑(.dK Ϸ)/\ Α (PR (jr H9)) Ϸ m/\(∀x∈m,x.2.1=x.1/\jz B.heads os x.2.2)/\↥m<=↥fs,#[#[_,_,none,none,none,rfl],Out.refl _ _,Ϸ,_,rfl,bp,d8 hK λu x z=>z.same s8,br,by show(aF B.heads os fs).length<=_;unfold aF;rw[ϰ];show Ϭ _],λj σ' H9 _ J=>θ.of (J.2.1 _ _ (~~~bq) ac),λj x σ' H9 hx J=>?_,λσ' H9 J=>?_]
  .let#[#[bt,bv,iG,iR,pH,rfl],C,W,m,em,nJ,rR,a,zG]:=J;let#[d,Wm,td,wd,ud,rfl,bw,hwd,Bo,aC]:=QH.get hx;let aE:=n.dd d (ay d (abD Wm));let bB:td≠kd:=λe=>by rw[e,ek]at aC;cases aC
   let bD:=C _ _ (~~~bB) bw;let sW:ζ H3 H9:=λx o e=>C _ _ (by rw[ab7];show λz=>by rw[z,F]at e;cases e) ((qZ<|>s8)<*e)
   let bE:ZD H9 ud d.is:=by
    cases hio:d.is with
    |none=>rw[hio]at Bo;show Bo
    |some xs=>
     rw[hio]at Bo;let#[l,e,h1,h2]:=Bo;show#[l,e,C _ _ (by rw[ab7];show λz=>by first|(rw[z,ek]at h2;cases h2)|(rw[z,ek]at h1;cases h1)) (by first|show h1|show h2)]
   let Y:((jj B mo).take (j+1)).foldl (stepK B.heads os t) (aF B.heads os fs)=stepK B.heads os t m d:=by
    rw[asz,Wm,aqT, <-em];rfl
   show ϟ (Δ.of bD) (Η (ω nd (Η (ω nd (Η (ω nd (Η (ω nd (Ϣ ?_)))))))));let g9:=aK.k (k:=Sum.inl d.row) nJ;f_len;show Θ ?_>>=oE ae g9 ?_;obtain⟨e1,e2⟩|⟨u,x,e1,e2,kp,rfl,ai⟩:=iz rR d.row
   .rw[show(bu W (Sum.inl d.row)).isSome=false by rw[e1];rfl];lk;show Γ #[#[_,_,_,_,_,rfl],C,W,m,?_,nJ,rR,a,zG];rw[Y];unfold stepK;rw[e2]
   .rw[show(bu W (Sum.inl d.row)).isSome=true by rw[e1];rfl];let#[bG,bI]:=a _ (sH e2);let bP:x.1=d.row:=bG;let Bw:jz B.heads os x.2:=bI;lk;show KQ ae (v:=.ref kp) (by rw[e1]at g9;show g9) ?_>>=#[c,b,v,d.row,ud,B.heads,os,zz,d.is,rfl,hC.same ((s2<|>s3)<|>sW),c6,hO.same (s3<|>sW),Cu,ϻ,hv.same sW,O,bE,aE,λv' lB Z aa=>?_];let M7:RD K lB (.ref kp) (lK x.2 x.1):=aaW (ai.same Z) Bw.lay;let bS:xj B.heads os t d.is≠↑x.2->∀(D:Ends)(σ:_L.St),(∀M,(Out [kd] H8 M/\∃Ϸ m,m=stepK B.heads os t (((jj B mo).take j).foldl (stepK B.heads os t) (aF B.heads os fs)) d/\M kd=↑(.dK Ϸ)/\ Α (PR (jr M)) Ϸ m/\(∀x∈m,x.2.1=x.1/\jz B.heads os x.2.2)/\↥m<=↥fs)->D.nx σ M)->∀(Ϸ:List (Key×V)),Ϸ=W->D.nx σ (upd lB kd (.dK (gJ W (Sum.inl d.row)))):=λϺ D σ hD _ _=>by
     show hD _ #[(C<|>(Out.of Z))<|>(Out.upd (by simp)),_,_,rfl,υ,?_,?_,?_]
     .rw[<-em];let e3:stepK B.heads os t m d=az m d.row:=by unfold stepK;rw[e2];show if_neg Ϻ
      rw[e3];show d8 (ux (d8 rR λu x z=>z.same Z) d.row) λu x z=>z.upd (Z<*nJ)
     .rw[<-em];let e3:stepK B.heads os t m d=az m d.row:=by unfold stepK;rw[e2];show if_neg Ϻ
      rw[e3];show λx hx=>a x (aiB.mp hx).1
     .rw[<-em];let e3:stepK B.heads os t m d=az m d.row:=by unfold stepK;rw[e2];show if_neg Ϻ
      rw[e3];show afG (ahq ..) zG
    let body:xj B.heads os t d.is≠↑x.2->∀(D:Ends)(R iG iR pH:Option V),(∀M,(Out [kd] H8 M/\∃Ϸ m,m=stepK B.heads os t (((jj B mo).take j).foldl (stepK B.heads os t) (aF B.heads os fs)) d/\M kd=↑(.dK Ϸ)/\ Α (PR (jr M)) Ϸ m/\(∀x∈m,x.2.1=x.1/\jz B.heads os x.2.2)/\↥m<=↥fs)->D.nx [↑(.ref A.b),↑(.str zo),↑(.str (ϭ " " (wT (Υ B.heads) t))),↑(.int mo),↑(.ref c),↑(.ref b),↑(.ref v),↑(.ref kd),↑(.int d.row),R,iG,iR,pH] M)->Φ X (aia (ab8 ((ϣ GQ).drop 5))) D [↑(.ref A.b),↑(.str zo),↑(.str (ϭ " " (wT (Υ B.heads) t))),↑(.int mo),↑(.ref c),↑(.ref b),↑(.ref v),↑(.ref kd),↑(.int d.row),R,iG,iR,pH] lB:=λϺ D R iG iR pH hD=>by
     f_len;show Ϡ (v5 ?_)>>=#[kd,rfl,.inl #[_,.inl (Z<*nJ)],?_]>>=#[W,Sum.inl d.row,_,Z<*nJ,rfl,e1,?_]*>bS Ϻ D _ hD W rfl
    lk;cases htf:xj B.heads os t d.is with
    |none=>
     rw[htf]at aa;cases aa;let Ho:RD K lB .non .none:=.non;show OJ hu M7 Ho (JM Bw.lay) rfl (by have:=Q8 x.2 x.1;omega) ?_;rw[show PyData.eqv (lK x.2 x.1) .none=false from rfl];lk;show body (by rw[htf];show λz=>by cases z) _ _ _ _ _ λM ⟨a1,Ϸ,m',a2,a3,a4,a5,a6⟩=>#[#[_,_,_,_,_,rfl],a1,Ϸ,m',?_,a3,a4,a5,a6]
     rw[Y,a2,em]
    |some k=>
     rw[htf]at aa;let#[kq,rfl,bT]:=aa;let ak:jz B.heads os k:=by
      cases hio:d.is with
      |none=>rw[hio]at htf;cases htf
      |some xs=>
       rw[hio]at htf;let Fi:(if ϙ xs t=true then some (jq B.heads os xs)else none)=↑k:=htf;split at Fi
       .cases Fi;show rM (aE xs hio) ϻ
       .cases Fi
     let Ho:RD K lB (.ref kq) (lK k d.row):=aaW bT ak.lay;show OJ hu M7 Ho (JM Bw.lay) (JM ak.lay) (by have:=Q8 x.2 x.1;omega) ?_;rw[akz (λy hy=>(Bw.lay y hy).1) (λy hy=>(ak.lay y hy).1)];by_cases he:x.2=k
     .rw[decide_eq_true #[he,bP]];lk;show Γ #[#[_,_,_,_,_,rfl],C<|>(Out.of Z),W,m,?_,Z<*nJ,d8 rR λu x z=>z.same Z,a,zG];rw[Y];unfold stepK;rw[e2];show(if_pos (by rw[htf,he])).symm
     .rw[decide_eq_false (λz=>he z.1)];lk;show body (by rw[htf];show λz=>he (Option.some.inj z).symm) _ _ _ _ _ λM ⟨a1,Ϸ,m',a2,a3,a4,a5,a6⟩=>#[#[_,_,_,_,_,rfl],a1,Ϸ,m',?_,a3,a4,a5,a6]
      rw[Y,a2,em]
  .let#[#[bt,bv,iG,iR,pH,rfl],C,W,m,em,nJ,rR,a,zG]:=J;rw[bo,ai0]at em;let sW:ζ H3 H9:=λx o e=>C _ _ (by rw[ab7];show λz=>by rw[z,F]at e;cases e) ((qZ<|>s8)<*e)
   symm;walk_at"cb";lk;show zY (ks:=m.map (·.1)) nJ (wU rR) (by rw[ϰ];omega) λL aI hL hp hs=>?_
   let sl:=ζ.upd (o:=.lst (aI.map V.int)) hL;show q L fs aI _ ((Ι<|>sW)<|>sl) ((Ι<|>sW).free hL) υ an hs (by unfold nA;rw[<-em];show hp)
def Hg:Def 1 "value_word" ["value"] Qw:=by
 exists ["value"],Hg,f,#[v,rfl,hs,a,c,q],n1.yz,n2.cY,g.Og,j.Qk,1;w_up;cases v with
 |non=>
  cbv;show q
 |int i=>
  cbv;show bO (c i rfl) ?_*>q
 |str z=>
  let e:↥z<=4000:=a;let l1:↥("'":Str)=1:=by fin2
  cbv;show Ν () ?_*>q
 |_=>cases hs
abbrev lV:=Int×List V×Bool
def akq(H:Hp)(v:V)(r:lV):=∃t l,v=.ref t/\H t=↑(.tup [.int r.1,.ref l,.bl r.2.2])/\H l=↑(.lst r.2.1)
structure lZ where
 rows:List lV
 back:V
 rQ:V
 many:Int
 ahead:Int
 moment:Int
def amD(H:Hp)(q:δ)(a:List lV):=∃vs,H q=↑(.lst vs)/\ Α (akq H) vs a
def Ji(H:Hp)(p:δ)(L:lZ):=∃q,H p=↑(.tup [.ref q,L.back,L.rQ,.int L.many,.int L.ahead,.int L.moment])/\amD H q L.rows
abbrev ι(i:Int):Str:=μ (toString i)
def aa6(r:lV):List Str:=ι r.1::(r.2.1.map wordOf++(if r.2.2=true then[]else[μ "*"]))
def pL(r:lV):Str:=ϭ " " (aa6 r)
def jO(L:lZ):Str:=ι L.ahead++μ "+"++ι ((↥L.rows:Nat):Int)++μ " of "++ι L.many++μ " at "++ι L.moment
def markL(w:Str):V->List Str
 |.str z=>[w++z]
 |_=>[]
def lU(L:lZ):List Str:=jO L::(L.rows.map pL++(markL ("back ":Str) L.back++markL ("forth ":Str) L.rQ))
inductive Va:Sp
 |mk (b:δ) (cs:List ο):vs=[.ref b]->aj H b cs->↥cs<=4000->(∀p H',ζ H H'->H p=none->H' p=↑(.lst ((cs.map Prod.snd).map V.str))->Q (.ref p) H')
def Ko:Def 1 "kinds_of" ["columns"] Va:=by
 exists ["columns"],Ko,O,#[b,cs,rfl,#[vs,z,a],R,q];let m:(["name","kind"]:List Str).Nodup:=by fin2
 let hsz:=ϯ;let B:=a.len;symm;show jw ["name","kind"] (σ':=[none,none]) (b8 (ς ZP)) ?_;f_are;show#[b,vs,rfl,θ.of z,(),λn=>∃o s,n=[o,s],λe i u H'=>∃c,cs[i]?=↑c/\u=.str c.2,#[none,none,rfl],λe i u H2 D ys _ _ p=>p,λfp e C S U i n x v D y hi f g F G=>?_,λe v ys y j l I g=>?_]
 .let#[o,s,rfl]:=f;let#[J,rfl]:=G;let#[c,hc,t,rfl,L]:=a.get J;show ϟ (Δ.of (g<*L)) (Η (ω m (Η (ω m (Ϣ ?_)))));cbv;show#[#[_,_,rfl],#[c,hc,rfl],ζ.refl _]
 .let ey:=jJ (ys:=cs) (λc=>V.str c.2) (by rw[j,B]) l;let M:ys=(cs.map Prod.snd).map V.str:=by rw[ey,aeu];rfl
  subst M;show q e v g y I
def HD(x:V):Prop:=scalar x=true/\short x/\∀i,x=.int i->i.natAbs<10^60
inductive ZG:Sp
 |mk (i:Int) (l:δ) (xs:List V):vs=[.int i,.ref l]->i.natAbs<10^60->H l=↑(.lst xs)->↥xs<=1000->(∀x∈xs,HD x)->(∀p H',ζ H H'->H p=none->H' p=↑(.lst ((μ (toString i)::xs.map wordOf).map V.str))->Q (.ref p) H')
def FZ:Def 2 "row_words" ["row","values"] ZG:=by
 exists ["row","values"],FZ,S,#[i,l,xs,rfl,hi,B,U,D,q],n1.cY;let F:(["value"]:List Str).Nodup:=by fin2
 let hsz:=ϯ;let W:=!Hg;symm;cbv;show bO (Ϥ hi) ?_;cbv;show#[Ξ,λb G=>?_];let#[a,s]:=Ρ G (.lst [.str (μ (toString i))]);change EV _ _ _ (upd H b (.lst [.str (μ (toString i))])) _;generalize upd H b (.lst [.str (μ (toString i))])=H1 at a s⊢;show jw ["value"] (σ':=[none]) (b8 (ς aaE)) ?_;f_are;show#[l,xs,rfl,θ.of (a<*B),(),λv=>∃y,v=[y],λf i u H'=>∃x,xs[i]?=↑x/\u=.str (wordOf x),#[none,rfl],λf i u H2 I ys _ _ p=>p,λfp f C Y Z i v x J I L hi g c M O=>?_,λf J ys L m n R c=>?_]
 .let#[y,rfl]:=g;let#[z,rfl]:=O;let o:=D x (abD z);show ω F ?_;cbv;show#[x,rfl,o.1,o.2.1,λj e=>Ϥ (o.2.2 j e),?_]*>#[#[_,rfl],#[x,z,rfl],ζ.refl _]
 .let ey:=jJ (ys:=xs) (λx=>V.str (wordOf x)) m n;subst ey;show Zg (c<*s) R (by rw[ϰ];show 1+↥xs<=ϳ;omega) λp hp=>?_
  show q p _ ((a<|>c)<|>(ζ.upd hp)) ((a<|>c).free hp) ?_;rw[υ,adY,aeu];rfl
def ad3(ps:List Str)(n:Nat)(h:∀p∈ps,↥p<=n):(ps.map (·.length)).sum<=↥ps*n:=by
 induction ps with
 |nil=>simp
 |cons p ps a=>
  let h1:=a λx c=>h x (by simp[c])
  let h2:=h p (by simp);simp only[adY,aqC,acz,at7];omega
def goodW(r:lV):Prop:=r.1.natAbs<10^18/\↥r.2.1<=6/\∀x∈r.2.1,HD x/\↥(wordOf x)<=21
inductive abn:Sp
 |mk (l:δ) (i:Int) (xs:List V):vs=[.int i,.ref l,.bl true]->H l=↑(.lst xs)->goodW (i,xs,true)->(∀H',ζ H H'->Q (.str (pL (i,xs,true))) H')
theorem sI(h:i.natAbs<10^18):↥(ι i)<=19:=pB (k:=18) h
def Ie:Def 3 "row_text" ["row","values","untouched"] abn:=by
 exists UJ,Ie,y,#[l,i,xs,rfl,j,#[hi,m,f],q];simp only at hi m f;let nd:=UJ.nd;let hsz:=ϯ;let n:↥(" ":Str)=1:=by fin2
 let B:=!FZ;let o:=sI hi;k_go;show#[i,l,xs,rfl,(),j,(),λx a=>(f x a).1,λp H1 s u hp=>?_];w_up;show Θ ?_>>=Γ ?_;symm;lk;let c:=ad3 (ι i::xs.map wordOf) 21 λz v=>by
  obtain e|e:=aaT.mp v
  .rw[e];omega
  .let#[x,a,rfl]:=ab9.mp e;show(f x a).2
 let g:↥(ι i::xs.map wordOf)<=8:=by rw[acz,ϰ];omega
 have:=q H1 s;unfold pL aa6 at this;rw[if_pos rfl,aiD]at this;let hp:H1 p=↑(.lst ((ι i::xs.map wordOf).map V.str)):=hp;let this:Q (.str (ϭ " " (ι i::xs.map wordOf))) H1:=this;generalize ι i::xs.map wordOf=ws at hp c g this;show iV (θ.of hp) (by rw[n];omega) this
def En(L:lZ):Prop:=(∀r∈L.rows,goodW r/\r.2.2=true)/\↥L.rows<=100/\L.back=.non/\L.rQ=.non/\L.many.natAbs<10^18/\L.ahead.natAbs<10^18/\L.moment.natAbs<10^18
inductive Xi:Sp
 |mk (p:δ) (L:lZ):vs=[.ref p]->Ji H p L->En L->(∀q H',ζ H H'->H q=none->H' q=↑(.lst ((lU L).map V.str))->Q (.ref q) H')
def Jz:Def 4 "page_of" ["leaf"] Xi:=by
 exists Ml,Jz,hr,#[p,#[a,bk,fo,f,c,mo],rfl,#[b,hp,vs,hb,j],#[m,n,qQ,u,v,B,C],q];simp only at hp j m n qQ u v B C;subst qQ u;let nd:=Ml.nd;let n1:=T.bY;let hsz:=ϯ;let D1:=!Ie;let D:=j.len;let Sb:θ K H b vs:=θ.of hb;w_up;show dw ?_;cbv;show ϟ (Δ.of hp) (Η (ω nd (Η (ω nd (Η (ω nd (Η (ω nd (Η (ω nd (Η (ω nd (Ϣ ?_)))))))))))));k_go;rw[D];let e1:↥("+":Str)=1:=by fin2
 let e2:↥(" of ":Str)=4:=by fin2
 let e3:↥(" at ":Str)=4:=by fin2
 let l1:=sI B;let l2:=sI (i:=((↥a:Nat):Int)) ();let l3:=sI v;let l4:=sI C;let a1:=len_app (ι c) ("+":Str);let a2:=len_app (ι c++μ "+") (ι ((↥a:Nat):Int));let a3:=len_app (ι c++μ "+"++ι ((↥a:Nat):Int)) (" of ":Str);let a4:=len_app (ι c++μ "+"++ι ((↥a:Nat):Int)++μ " of ") (ι f);let a5:=len_app (ι c++μ "+"++ι ((↥a:Nat):Int)++μ " of "++ι f) (" at ":Str);let a6:=len_app (ι c++μ "+"++ι ((↥a:Nat):Int)++μ " of "++ι f++μ " at ") (ι mo);let e0:∀z:Str,alg++z=z:=λz=>d9 (by rw[aJ];rfl)
 w_up;f_tup;f_are;show jn (by rfl) ?_;show Nf (nM ?_);show gm ?_;cbv;show#[Ϥ (),_,rfl,by rw[e0];show(ι c).length<=_;omega,?_];rw[e0];show nM (vB #[_,rfl,by show(ι c++μ "+").length<=_;omega,?_]);show nM (gm ?_);cbv;show#[Ϥ (),_,rfl,by show(ι c++μ "+"++ι ((↥a:Nat):Int)).length<=_;omega,?_];show nM (vB #[_,rfl,by show(ι c++μ "+"++ι ((↥a:Nat):Int)++μ " of ").length<=_;omega,?_]);show nM (gm ?_);cbv;show#[Ϥ (),_,rfl,by show(ι c++μ "+"++ι ((↥a:Nat):Int)++μ " of "++ι f).length<=_;omega,?_];show nM (vB #[_,rfl,by show(ι c++μ "+"++ι ((↥a:Nat):Int)++μ " of "++ι f++μ " at ").length<=_;omega,?_]);show nM (gm ?_);cbv;show#[Ϥ (),_,rfl,by show(ι c++μ "+"++ι ((↥a:Nat):Int)++μ " of "++ι f++μ " at "++ι mo).length<=_;omega,?_];show YG (by show(ι c++μ "+"++ι ((↥a:Nat):Int)++μ " of "++ι f++μ " at "++ι mo).length<=_;omega) ?_;show fW #[Ξ,λy L=>?_];let M :ζ H (upd H y (.lst [.str (jO #[a,.non,.non,f,c,mo])])):=ζ.upd L;let ey:(upd H y (.lst [.str (jO #[a,.non,.non,f,c,mo])])) y=↑(.lst ([jO #[a,.non,.non,f,c,mo]].map V.str)):=υ;change Φ _ _ _ _ (upd H y (.lst [.str (jO #[a,.non,.non,f,c,mo])]));generalize upd H y (.lst [.str (jO #[a,.non,.non,f,c,mo])])=H1 at M ey⊢;w_up;show sZ (by walk_at"po") (by rfl) (by intro _;rfl) ?_;cbv;show#[b,vs,rfl,M.seq Sb,λi σ H'=>(∃O R U,σ=[↑(.ref p),↑(.ref b),↑.non,↑.non,↑(.int f),↑(.int c),↑(.int mo),↑(.int (↥a:Nat)),↑(.ref y),O,R,U])/\ζ H H'/\H' y=↑(.lst ((jO #[a,.non,.non,f,c,mo]::(a.take i).map pL).map V.str)),
  #[#[none,none,none,rfl],M,ey],λi σ H' _ G=>G.2.1.seq Sb,λi x σ H' hx G=>?_,λσ H' G=>?_]
 .let#[#[O,R,U,rfl],I,g]:=G;let#[r,J,t,l,rfl,ht,W]:=j.get hx;let#[Y,Z]:=m r (abD J);let#[i2,aa,un]:=r;cases(show un=true from Z);let hil:=(aas.mp hx).1;show ϟ (Δ.of (I<*ht)) (Η (ω nd (Η (ω nd (Η (ω nd (Ϣ ?_)))))));f_len;show Ϡ (bU F.plainAttrs_list F.slot_list_append F.type_list_append (h:=?_));cbv;show#[.inl #[rfl,_,θ.of g],?_];cbv;show#[l,i2,aa,rfl,I<*W,Y,λH2 Χ =>?_];cbv;show iT Ao #[y,_,_,rfl,rfl,Χ<*g,by rw[ϰ,acz,ϰ,aoz];omega,?_]*>#[#[_,_,_,rfl],λd o e=>?_,?_]
  .rw[ξ (ϔ e L)];show Χ<*(I<*e)
  .rw[υ,asv,J,ahZ,adY,adY,ahZ];rfl
 .let#[#[O,R,U,rfl],I,g]:=G;rw[D,ai0]at g;w_up;show Θ ?_>>=Γ ?_;w_up;show Θ ?_>>=Γ ?_;symm;lk;show q y H' I L ?_;rw[g];show _=some (HO.lst ((jO #[a,.non,.non,f,c,mo]::(a.map pL++([]++[]))).map V.str));rw[aiD,aiD]
def Gs:Def 1 "check_of" ["text"] Yl:=by
 exists PN,Gs,l,#[z,rfl,m,hc,q],n.agw,s.ae0,n1.Nu,2;w_up;cbv;show QM (by walk_at"po") (by rfl) (by intro _;rfl) ?_;f_are;show#[z,rfl,λi σ H'=>H'=H/\∃t p o,σ=[↑(.str z),↑(.int t),↑(.int p),o]/\0<=t/\t<9973/\0<=p/\p<9973/\(t+p*ϊ (z.cps.toList.drop i)) % 9973=ϊ z.cps.toList,#[rfl,0,1,none,rfl,by decide,by decide,by decide,by decide,?_],λi c σ H' hi a=>?_,λσ H' a=>?_]
 .have :=j6 z.cps.toList;rw[akR,atq,aub];show aq0 this.1 this.2
 .let#[rfl,t,p,o,rfl,t0,f,p0,p1,e]:=a;let g:=hc c (abD hi);let hd:z.cps.toList.drop i=c::z.cps.toList.drop (i+1):=by
   let#[h1,h2]:=aas.mp hi;rw[aie h1,h2]
  rw[hd]at e;show ω nd ?_;w_up;cbv;show#[rfl,_,_,_,rfl,anp _ (by decide),ak5 _ (by decide),anp _ (by decide),ak5 _ (by decide),ZK e]
 .let#[rfl,t,p,o,rfl,t0,f,p0,p1,e]:=a;rw[apA]at e;let j:t=ϊ z.cps.toList:=by
   rw[<-e];show t=(t+p*0) % 9973;rw[at8,at9,aq0 t0 f]
  cbv;rw[j];show q
def wD:Def 2 "check_word" ["text"] Vb:=by
 exists ["text"],wD,c,#[z,rfl,a,hc,q],e.akv,n1.cY,f Gs;symm;show bU F.plainAttrs_str F.slot_str_zfill F.type_str_zfill (h:=?_);cbv;show#[z,rfl,a,hc,?_];let g:=j6 z.cps.toList;cbv;show bO (Ϥ ?_) ?_
 .have :(ϊ z.cps.toList).natAbs<9973:=()
  show adk this (by fin2)
 .cbv;show ajE (by decide) (by decide) ?_*>q
structure Cut where
 ahead:Bool
 row:Nat
 xs:List V
structure Mk where
 living:Bool
 moment:Nat
 os:List Ord
 sieve:Str
 cut:Cut
def tQ(b:Bool):Str:=if b=true then μ "ahead" else μ "behind"
def ou(b:Bool):Str:=if b=true then μ "<" else μ ">"
def ϖ(b:Bool):Str:=if b=true then μ "living" else μ "still"
def gG(b:Bool):Str:=if b=true then μ "l" else μ "s"
def Xz(H:Hp)(c:δ)(C:Cut):=∃k v,H c=↑(.tup [.str (tQ C.ahead),.ref k])/\H k=↑(.tup [.ref v,.int C.row])/\H v=↑(.lst C.xs)
def fB(C:Cut):List Str:=μ (toString (C.row:Int))::C.xs.map wordOf
def gD(C:Cut):Str:=ou C.ahead++ϭ " " (fB C)
def gW(M:Mk):List Str:=[gG M.living,μ (toString (M.moment:Int)),jB M.os,M.sieve,gD M.cut]
def ϥ(M:Mk):Str:=ϭ "/" (gW M)
def bF(M:Mk):Str:=ϥ M++μ "."++ϝ (ϊ (ϥ M).cps.toList)
def aft(h:ps≠[])(a:∀p∈ps,47∉p.cps.toList):χ 47 (ϭ "/" ps)=ps:=by
 unfold χ;let e:(ϭ "/" ps).cps.toList=f9 47 (ps.map λp=>p.cps.toList):=oN 47 ps;rw[e,uP (~~~h) λp hp=>?_,aeu]
 .have :((λl:List Nat=>(#[l.toArray]:Str))∘λp:Str=>p.cps.toList)=id:=by
   funext p;rfl
  rw[this,asG]
 .let#[q,c,rfl]:=ab9.mp hp;show a q c
def jG(cs:List ο)(z:Str):Str:=match cs[ϑ cs z]? with
 |some c=>c.2
 |none=>μ ""
structure bQ(cs:List ο)(M:Mk):Prop where
 moment:M.moment<=5000
 len:↥M.os<=4
 names:∀o∈M.os,o.1∈cs.map Prod.fst
 nodup:(M.os.map Prod.fst).Nodup
 row:M.cut.row<=1000000000
 vals:Α (λ(o:Ord) x=>aL (jG cs o.1) x) M.os M.cut.xs
 plain:plainS M.sieve
 short:↥M.sieve<=2800
 words:∀y∈χ 32 M.sieve,↥y<=900
 reads:∃t:Tr,t.dep<=20/\Reads cs (χ 32 M.sieve) t 0 ↥(χ 32 M.sieve)
def acp(b:Bool):plainS (gG b):=by cases b<;>(unfold plainS;fin2)
def ai1(b:Bool):plainS (ou b):=by cases b<;>(unfold plainS;fin2)
def afq(h:plainS o.1):plainS (cW o):=by
 unfold cW;show plainS.app ?_ h;let h1:plainS ("+":Str):=by unfold plainS;fin2
 let h2:plainS ("-":Str):=by unfold plainS;fin2
 split
 .show h1
 .show h2
theorem alm(h:bQ cs M):∀p∈fB M.cut,plainS p:=λp hp=>by
 obtain rfl|hp:=aaT.mp hp
 .show Lk _
 .let#[x,a,rfl]:=ab9.mp hp;let#[o,_,c]:=h.vals.Fw x a;show c.plain
theorem RV(hc:ϗ cs=true)(h:bQ cs M):∀p∈gW M,plainS p:=λp hp=>by
 let a:p=gG M.living\/p=μ (toString (M.moment:Int))\/p=jB M.os\/p=M.sieve\/p=gD M.cut:=by simpa [gW]using hp
 obtain rfl|rfl|rfl|rfl|rfl:=a
 .show acp _
 .show Lk _
 .show plainS.join λq g=>?_
  let#[o,i,rfl]:=ab9.mp g;show afq (XD ?_);let#[c,f,e]:=ab9.mp (h.names o i);unfold ϗ at hc;simp only[acF,aeN]at hc;rw[<-e];show(hc.1.2 c f).1
 .show h.plain
 .show(ai1 _).app (plainS.join (alm h))
theorem ahI(hc:ϗ cs=true)(h:bQ cs M):χ 47 (ϥ M)=gW M:=
 aft (by simp[gW]) λp hp a=>(RV hc h p hp 47 a).2.2.2 rfl
def wY(n:Int)(a:0<=n:=by omega)(h1:n<9973:=by omega):46∉(ϝ n).cps.toList/\↥(ϝ n)=4:=by
 let#[m,rfl]:=aeo a;have:=Kh (n:=m) ();unfold yC at this;simp only[acF,decide_eq_true_eq,aeN]at this;show#[λc=>?_,this.1];have:=this.2.1 46 c;unfold wW at this;simp at this
def JG(M:Mk):Txt.rpartition (bF M) #[#v[46]]=(ϥ M,#[#v[46]],ϝ (ϊ (ϥ M).cps.toList)):=by
 let f:=j6 (ϥ M).cps.toList;let c:=wY (ϊ (ϥ M).cps.toList);let e:(bF M).cps.toList=(ϥ M).cps.toList++46::(ϝ (ϊ (ϥ M).cps.toList)).cps.toList:=by
  unfold bF;rw[aJ,aJ,show(".":Str).cps.toList=[46]from by fin2,api];rfl
 let a:∀z:Str,(#[z.cps.toList.toArray]:Str)=z:=λz=>by
  let#[#[l]]:=z;rfl
 rw[JH e c.1,a,a]
theorem Yv:∀ps:List Str,↥(ϭ "/" ps)<=(ps.map (·.length)).sum+↥ps
 |[]=>by show(0:Nat)<=_;omega
 |[p]=>by
  show ↥p<=_;simp
 |p::q::r=>by
  let a:=Yv (q::r);let c:↥("/":Str)=1:=by fin2
  show(p++μ "/"++ϭ "/" (q::r)).length<=_;rw[len_app,len_app,c];simp only[adY,aqC,acz]at a⊢;omega
def Vs(hc:ϗ cs=true)(f:z∈cs.map Prod.fst):jG cs z="number"\/jG cs z="text":=by
 let#[c,a,e]:=ab9.mp f;let hp:ϑ cs z<↥cs:=ur #[c,a,e];unfold jG;rw[aad hp];unfold ϗ at hc;simp only[acF,aeN]at hc;let h2:=(hc.1.2 cs[ϑ cs z] (ak7 hp)).2;unfold pK at h2;show of_decide_eq_true h2
theorem bQ.aao(hc:ϗ cs=true)(h:bQ cs M):∀x∈M.cut.xs,HD x/\↥(wordOf x)<=21/\32∉(wordOf x).cps.toList:=λx f=>by
 let#[o,g,a]:=h.vals.Fw x f;let c:=a.word (Vs hc (h.names o g));show#[#[a.sc,?_,λi e=>?_],c.2.1,c.2.2.1]
 .obtain rfl|⟨_,i,rfl,_⟩|⟨_,z,rfl,l,_⟩:=a
  .trivial
  .trivial
  .show ↥z<=4000;omega
 .subst e;obtain e|⟨_,j,e,h1,h2⟩|⟨_,z,e,_⟩:=a
  .cases e
  .cases e;have:(10:Nat)^60>1000000000000000000:=by decide
   omega
  .cases e
def bQ.xsl(h:bQ cs M):↥M.cut.xs<=4:=by
 have:=h.vals.len;have:=h.len;omega
def Uc(hc:ϗ cs=true)(h:bQ cs M):(∀p∈fB M.cut,↥p<=21)/\↥(fB M.cut)<=5:=by
 show#[λp hp=>?_,?_]
 .obtain rfl|hp:=aaT.mp hp
  .have :=pB (i:=(M.cut.row:Int)) (k:=10) (by have:=h.row;have:=(by decide:(10:Nat)^10>1000000000);omega)
   omega
  .let#[x,a,rfl]:=ab9.mp hp;show(h.aao hc x a).2.1
 .have :=h.xsl;show(M.cut.xs.map wordOf).length+1<=5;rw[ϰ];omega
def Zy(hc:ϗ cs=true)(h:bQ cs M):↥(gD M.cut)<=200:=by
 let#[h1,h2]:=Uc hc h;let a:=rZ _ 21 h1;let c:=pY (fB M.cut);let e:↥(ou M.cut.ahead)=1:=by cases M.cut.ahead<;>fin2
 unfold gD;rw[len_app];omega
def aaV(hc:ϗ cs=true)(h:bQ cs M):↥(jB M.os)<=100:=by
 let h1:=rZ (M.os.map cW) 9 λp hp=>by
  let#[o,a,rfl]:=ab9.mp hp;have:=NZ (Dk hc (h.names o a));let l1:↥("+":Str)=1:=by fin2
  let c:↥("-":Str)=1:=by fin2
  unfold cW;rw[len_app];split <;>omega
 let h2:=pY (M.os.map cW);let e:=h.len;rw[ϰ]at h1 h2;unfold jB;omega
def GD(hc:ϗ cs=true)(h:bQ cs M):((gW M).map (·.length)).sum<=3200/\↥(ϥ M)<=3300:=by
 let h1:↥(gG M.living)=1:=by cases M.living<;>fin2
 let h2:=pB (i:=(M.moment:Int)) (k:=4) (by have:=h.moment;have:=(by decide:(10:Nat)^4>5000);omega)
 let a:=aaV hc h;let c:=h.short;let f:=Zy hc h;let e:((gW M).map (·.length)).sum=↥(gG M.living)+(↥(μ (toString (M.moment:Int)))+(↥(jB M.os)+(↥M.sieve+(↥(gD M.cut)+0)))):=rfl;let g:=Yv (gW M);let j:↥(gW M)=5:=rfl;unfold ϥ;omega
theorem Q0:∀{ps:List Str},(∀p∈ps,plainS p)->∀c∈(ϭ "/" ps).cps.toList,c<=122
 |[],_,c,hc=>by
  have:c∈([]:List Nat):=hc;simp at this
 |[p],h,c,hc=>by
  have:=h p (by simp) c hc;omega
 |p::q::r,h,c,hc=>by
  let e:(ϭ "/" (p::q::r)).cps.toList=(p++μ "/"++ϭ "/" (q::r)).cps.toList:=rfl;rw[e,aJ,aJ,show("/":Str).cps.toList=[47]from by fin2]at hc;obtain hc|hc:=agq.mp hc
  .obtain hc|hc:=agq.mp hc
   .have :=h p (by simp) c hc;omega
   .rw[ab7.mp hc];omega
  .show Q0 (λx a=>h x (by simp[a])) c hc
theorem Wf(hc:ϗ cs=true)(h:bQ cs M):∀c∈(ϥ M).cps.toList,c<1114112:=λc a=>by
 have:=Q0 (RV hc h) c a;omega
inductive yj(K:ϩ):Sp
 |mk (a C dx:δ) (fs:List (Str×V)) (v:V):vs=[.ref a]->H a=↑(.ins C dx fs)->aH K C->ao K C "text"->fs.lookup ("text":Str)=↑v->Q v H
def Gi:FD P w K mg base cc 1 "shown" "Sieve.shown" Ba ["self"] (yj K):=by
 exists ["self"],_,g,#[a,C,dx,fs,v,rfl,c,hc,e,f,q];symm;show aQ ?_;f_are;show#[a,C,dx,fs,v,rfl,c,hc,e,f,q]
theorem dZ.txt:∀{t:Tr}{a:δ}{z:Str},dZ mg H t a z->∃dx fs,H a=↑(.ins (ie mg t) dx fs)/\fs.lookup ("text":Str)=↑(.str z)/\fs.lookup ("shown":Str)=none
 |.one .all,a,z,h=>by let#[dx,h]:=h;show#[dx,_,h,rfl,rfl]
 |.one (.none p),a,z,h=>by let#[dx,h]:=h;show#[dx,_,h,rfl,rfl]
 |.nt t,a,z,h=>by let#[dx,b,y,h,_]:=h;show#[dx,_,h,rfl,rfl]
theorem agV(T:Txt K mg):∀t:Tr,Ψ P w K mg base true 1 (ie mg t) "shown" ["self"] (yj K)/\aH K (ie mg t)/\ao K (ie mg t) "text"
 |.one .all=>#[Gi.meth T.zV T.ad2,T.zV,T.Qq]
 |.one (.none _)=>#[Gi.meth T.vL T.aem,T.vL,T.Xd]
 |.nt _=>#[Gi.meth T.wZ T.amb,T.wZ,T.Mi]
inductive Ut(K:ϩ):Sp
 |mk (p q:δ) (cs:List ο) (xs:List V):vs=[.ref p,.ref q]->H p=↑(.lst ((cs.map Prod.snd).map V.str))->H q=↑(.lst ((xs.map wordOf).map V.str))->↥cs<=1000->(∀c∈cs,c.2="number"\/c.2="text")->Α (λc x=>aL c.2 x) cs xs->(∀r H',ζ H H'->H r=none->H' r=↑(.lst xs)->Q (.ref r) H')
def Ac:Def 6 "read_values" ["kinds","words"] (Ut K):=by
 exists ["kinds","words"],Ac,hr,#[p,F,cs,xs,rfl,hp,G,Z,hk,a,q],n1.bY,n2.Vo;let I:(["kind","word"]:List Str).Nodup:=by fin2
 let hsz:=ϯ;let D1:=!zW;let hl:=a.len;let l1:↥((cs.map Prod.snd).map V.str)=↥cs:=by rw[ϰ,ϰ]
 let J:↥((xs.map wordOf).map V.str)=↥xs:=by rw[ϰ,ϰ]
 let SP:θ K H p ((cs.map Prod.snd).map V.str):=θ.of hp;let SQ:θ K H F ((xs.map wordOf).map V.str):=θ.of G;w_up;cbv;rw[l1,J, <-hl];rw[decide_eq_true (rfl:V.int ((↥cs:Nat):Int)=V.int ((↥cs:Nat):Int))];walk_at"t";show Γ ?_;symm;show S7 ["kind","word"] (σ':=[none,none]) (b8 (ς Wo)) n2 ?_;f_are;f_are;show#[p,F,_,_,rfl,rfl,hp,G,by rw[l1];omega,λL=>∃M O,L=[M,O],λj i u H'=>∃x,xs[i]?=↑x/\u=x,#[none,none,rfl],λj i u H2 H3 ys _ _ p=>p,λfp j C s3 H0 i L x f H6 R hi l S hys hG=>?_,λj f ys R m n e5 S=>?_]
 .let#[M,O,rfl]:=l;let#[t,y,z,rfl,o,rfl,g,s]:=hG;rw[acS,acS]at g s;obtain⟨c,hc,rfl⟩:∃c,cs[i]?=↑c/\V.str c.2=y:=by
   cases e:cs[i]? with
   |none=>rw[e]at g;cases g
   |some c=>rw[e]at g;show#[c,rfl,Option.some.inj g]
  let#[x,U,hv]:=a.get hc;rw[U]at s;let v:z=.str (wordOf x):=(Option.some.inj s).symm;subst v;let hw:=hv.word (hk c (abD hc));let W:ζ f (upd f t (.tup [.str c.2,.str (wordOf x)])):=ζ.upd o;show ϟ (Δ.of υ) (Η (ω I (Η (ω I (Ϣ ?_)))));generalize upd f t (.tup [.str c.2,.str (wordOf x)])=H7 at W⊢;cbv;show#[c.2,wordOf x,rfl,(),λH8 B=>?_];rw[hw.1];show#[#[_,_,rfl],#[x,U,rfl],W<|>B]
 .let D:↥ys=↥xs:=by rw[m,l1,J];omega
  let Y:=jJ (ys:=xs) (λx=>x) D n;rw[List.map_id']at Y;subst Y;show q j f S R e5
def ae7{i:Nat}(h:(i:Int)<=m):dY (μ (toString (i:Int))).cps.toList m=↑(i:Int):=by
 let#[a,b]:=vV i;unfold dY;rw[a,b,if_pos #[rfl,h]]
inductive Oi:Sp
 |mk (b:Bool):vs=[.str (gG b)]->(∀H',ζ H H'->Q (.str (ϖ b)) H')
def zA:Def 1 "read_make" ["letter"] Oi:=by
 exists aaB,zA,m,#[b,rfl,q],2,p.uw,s.Bc,1;w_up;show afL (by walk_at"po") (by rfl) (by intro _;rfl) ?_>>=#[Ξ,λt l=>?_];let#[st,j]:=Ρ l (.tup [.str ("living":Str),.str ("still":Str)]);show#[t,_,rfl,Δ.of j,λi σ H'=>(∃o,σ=[↑(.str (gG b)),o])/\H'=upd H t (.tup [.str ("living":Str),.str ("still":Str)])/\(1<=i->b=false)/\i<2,#[#[none,rfl],rfl,λh=>absurd h (),()],λi σ' H' hi c=>?_,λi x σ' H' e c=>?_,λσ' H' c=>?_]
 .let#[_,rfl,_]:=c;show Δ.of j
 .let#[#[o,rfl],rfl,f,g]:=c;show ω nd ?_
  match i,g,e with
  |0,_,e=>
   let a:x=.str ("living":Str):=(Option.some.inj e).symm;subst a;f_len;show Θ ?_>>=Ab (n:=108) (by rw[hsz];fin2) (by fin2) ?_;lk;cases b with
   |true=>
    show Μ (λ_=>?_) (λh=>absurd (by fin2) h);symm;lk;show q _ st
   |false=>
    show gC ?_*>Γ #[#[_,rfl],rfl,λ_=>rfl,()]
  |1,_,e=>
   let a:x=.str ("still":Str):=(Option.some.inj e).symm;subst a;let f:=f ();subst f;f_len;show Θ ?_>>=Ab (n:=115) (by rw[hsz];fin2) (by fin2) ?_>>=Μ (λ_=>?_) (λh=>absurd (by fin2) h);symm;lk;show q _ st
 .let#[_,_,_,h]:=c;show absurd h (by show ¬2<2;omega)
inductive Qj:Sp
 |mk (i:Nat) (m:Int):vs=[.str (μ (toString (i:Int))),.int m]->(m=5000\/m=1000000000)->(i:Int)<=m->(∀H',ζ H H'->Q (.int (i:Int)) H')
def rN:Def 4 "read_whole" ["word","most"] Qj:=by
 exists Bv,rN,j,#[i,m,rfl,c,e,q],2,l qR;let hp:(10:Nat)^60>1000000000:=by decide
 let n:=pB (i:=(i:Int)) (k:=10) (by have:(10:Nat)^10>1000000000:=(by decide);omega);obtain⟨k,f,a,k1,k2⟩:∃k,↥(μ (toString m))=k/\m<((10^k:Nat):Int)/\1<=k/\k<=600:=by
  obtain rfl|rfl:=c
  .show#[4,by fin2,by decide,(),()]
  .show#[10,by fin2,by decide,(),()]
 k_go;show#[_,m,k,rfl,(),(),(),f,a,k1,k2,λH1 g =>?_];rw[ae7 e];w_up;show Θ ?_>>=Γ ?_;symm;lk;show q H1 g
inductive aaQ:Sp
 |mk (b:Bool):vs=[.str (ou b)]->Q (.str (tQ b)) H
def Ky:Def 1 "read_side" ["sign"] aaQ:=by
 exists ["sign"],Ky,a,#[b,rfl,q],c.afm,e.aeA,f.ae6,g.adZ;w_up;show Θ ?_;lk;cases b with
 |true=>
  show fG ?_;symm;lk;show q
 |false=>
  show gC ?_*>Γ ?_;w_up;show Θ ?_>>=fG ?_;symm;lk;show q
def abG(h:∃c∈cs,c.1=z):∃c,cs[ϑ cs z]?=↑c/\c.2=jG cs z:=by
 let hp:=ur h;show#[cs[ϑ cs z],aad hp,?_];unfold jG;rw[aad hp]
theorem bQ.Mr(h:bQ cs M):∀o∈M.os,∃c∈cs,c.1=o.1:=λo a=>by
 let#[c,hc,e]:=ab9.mp (h.names o a);show#[c,hc,e]
def ab2(C:Cut):∃n,ou C.ahead=#[#v[n]]/\(gD C).cps.toList=n::(ϭ " " (fB C)).cps.toList:=by
 unfold gD;cases C.ahead
 .show#[62,by fin2,by rw[aJ,show(ou false).cps.toList=[62]from by fin2];rfl]
 .show#[60,by fin2,by rw[aJ,show(ou true).cps.toList=[60]from by fin2];rfl]
def ait(hc:ϗ cs=true)(h:bQ cs M):χ 32 (ϭ " " (fB M.cut))=fB M.cut:=by
 show sJ (by simp[fB]) λp hp=>?_
 obtain rfl|hp:=aaT.mp hp
 .intro a;have:=zT (M.cut.row:Int) 32 a;omega
 .let#[x,c,rfl]:=ab9.mp hp;show(h.aao hc x c).2.2
def vD(cs:List ο)(os:List Ord):List ο:=os.map λo=>(o.1,jG cs o.1)
theorem aa9:∀{os:List Ord}{xs:List V},Α (λ(o:Ord) x=>aL (jG cs o.1) x) os xs->Α (λ(c:ο) x=>aL c.2 x) (vD cs os) xs
 |_,_,.nil=>.nil
 |_,_,.cons r t=>.cons r (aa9 t)
inductive Oz:Sp
 |mk (a b:δ) (M:Mk) (cs:List ο):vs=[.ref a,.ref b,.str (gD M.cut)]->aj H a cs->eQ H b M.os->ϗ cs=true->bQ cs M->(∀p H',ζ H H'->H p=none->Xz H' p M.cut->(∀k v,H' p=↑(.tup [.str (tQ M.cut.ahead),.ref k])->H' k=↑(.tup [.ref v,.int M.cut.row])->H v=none)->Q (.ref p) H')
def Gd:Def 7 "read_cut" ["columns","order","text"] Oz:=by
 exists Pb,Gd,hr,#[a,b,M,cs,rfl,hC,#[ws,hb,l],hc,j,q],2,g1.Xr,1;let vf:(["name","up","columns"]:List Str).Nodup:=by fin2
 let D1:=!Ky;let D2:=!rN;let D3:=!Ac;let D4:=!oJ;let hlen:=Zy hc j;let#[n,en,Tc]:=ab2 M.cut;let eS:Ϗ (gD M.cut) none ↑1=ou M.cut.ahead:=by
  apply d9;rw[show Ϗ (gD M.cut) none ↑1=Ϗ (gD M.cut) none ↑((1:Nat):Int) from rfl,RN,Tc,en];rfl
 let eR:Ϗ (gD M.cut) ↑1 none=ϭ " " (fB M.cut):=by
  apply d9;have:=uD (gD M.cut) 1;rw[show((1:Nat):Int)=1 from rfl]at this;rw[this,Tc];rfl
 let J:=l.len;let ar6:=j.len;k_go;show jZ () ?_;rw[eS];lk;show#[M.cut.ahead,rfl,?_];w_up;f_tup;show bU F.plainAttrs_str F.slot_str_split F.type_str_split (h:=?_)>>=jZ () ?_;rw[eR];lk;let#[L,kl2]:=Uc hc j;let ap7:=rZ _ 21 L;let kj:=pY (fB M.cut);show m_split (c:=32) λl1 h1=>?_
 rw[ait hc j];let#[s1,e1,H,l1,H1]:=Ρ h1 (.lst ((fB M.cut).map V.str));k_go;show ϐ (θ.of e1) (show Ϛ ((fB M.cut).map V.str) ((0:Nat):Int)=↑(V.str (μ (toString (M.cut.row:Int))))from bH rfl) ?_>>=#[M.cut.row,1000000000,rfl,.inr rfl,by have:=j.row;omega,λH2 s2=>?_];let g:=s1<|>s2;w_up;show sG ["name","up","columns"] (σ':=[none,none,↑(.ref a)]) (b8 (ς Fo)) nd ?_;f_are;show#[b,ws,rfl,θ.of (g<*hb),(),λτ=>∃o1 o2,τ=[o1,o2,↑(.ref a)],λz i u H'=>∃o,M.os[i]?=↑o/\u=.str (jG cs o.1),#[none,none,rfl],λz i u H2 H3 ys _ _ p=>p,λfp z C s3 H0 i τ x H4 H3 aR hi O m hys hG=>?_,λz H4 ys aR R U e4 m=>?_]
 .let#[o1,o2,rfl]:=O;let#[bh,rfl]:=hG;let#[o,B,t,rfl,ht]:=l.get bh;show ϟ (Δ.of (m<*(g _ _ ht))) (Η (ω vf (Η (ω vf (Ϣ ?_)))));lk;let WW:=(hC.same g).same m;show#[a,cs,o.1,rfl,WW,λH5 cL=>?_];let y:=j.Mr o (abD B);rw[wX 0 y,anF];let#[c,hg,W]:=abG y;let#[vs,ea,Y]:=WW.same cL;let#[cv,gc,tc,rfl,Z]:=Y.get' hg;show ϐ (θ.of ea) (bH gc) ?_>>=gZ (Δ.of Z) (show Ϛ [V.str c.1,V.str c.2] 1=↑(V.str c.2)from rfl) ?_*>#[#[_,_,rfl],#[o,B,by rw[W]],cL]
 .let ey:=jJ (ys:=M.os) (λo=>V.str (jG cs o.1)) (by rw[R,J]) U;let lC:ys=((vD cs M.os).map Prod.snd).map V.str:=by rw[ey];unfold vD;rw[aeu,aeu];rfl
  subst lC;let Yy:=g<|>m;let aa:=m _ _ (s2<*e1);symm;lk;show eN (θ.of aa) λl2 h2=>?_
  let Jd:bL ((fB M.cut).map V.str) ↑1 none=(M.cut.xs.map wordOf).map V.str:=by
   rw[show↑(1:Int)=↑((1:Nat):Int)from rfl,aaD];rfl
  rw[Jd];let#[D,e5,H4,l2,H5]:=Ρ h2 (.lst ((M.cut.xs.map wordOf).map V.str));lk;show#[z,l2,vD cs M.os,M.cut.xs,rfl,D<*e4,e5,by unfold vD;rw[ϰ];omega,λc ab=>?_,aa9 j.vals,λv H6 s6 hv ev=>?_]
  .let#[o,B,rfl]:=ab9.mp ab;show Vs hc (j.names o B)
  lk;show#[Ξ,λk W=>?_];let#[G,e7,H6,k,H7]:=Ρ W (.tup [.ref v,.int M.cut.row]);lk;show#[Ξ,λp hp=>?_];let I:ζ H7 (upd H7 p (.tup [.str (tQ M.cut.ahead),.ref k])):=ζ.upd hp;let lR:=Yy<|>D<|>s6;let ac:H v=none:=(Yy<|>D).free hv;show q p _ (lR<|>G<|>I) ((lR<|>G).free hp) #[k,v,υ,I<*e7,I<*(G _ _ ev)] λk' v' e f=>?_
  rw[υ]at e;injection e with e
  injection e with e
  injection e with _ e
  injection e with e _
  injection e with e
  subst e;rw[I<*e7]at f;injection f with f
  injection f with f
  injection f with f _
  injection f with f
  subst f;show ac
inductive UL:Sp
 |mk (a:δ) (M:Mk) (cs:List ο):vs=[.ref a,.str (ϥ M)]->aj H a cs->ϗ cs=true->bQ cs M->(∀p o c k v H',ζ H H'->H' p=↑(.tup [.str (ϖ M.living),.int M.moment,.ref o,.str M.sieve,.ref c])->H o=none->eQ H' o M.os->H' c=↑(.tup [.str (tQ M.cut.ahead),.ref k])->H' k=↑(.tup [.ref v,.int M.cut.row])->H v=none->H' v=↑(.lst M.cut.xs)->o≠v->Q (.ref p) H')
def Ci:Def 51 "read_body" ["columns","body"] UL:=by
 exists yX,Ci,hr,#[a,M,cs,rfl,z,hc,f,q],2,g1.Oh,g2.Ow,g3.Nq,n1.bY,1;let#[t,B,C]:=f.reads;let D1:=!zA;let D2:=!rN;let D3:=!mX;let D4:= @zM P w K mg base T t;let D5:=!Gd;let#[M2,kc,na]:=agV (P:=P) (w:=w) (base:=base) T t;let#[b1,b2]:=GD hc f;w_up;f_tup;show bU F.plainAttrs_str F.slot_str_split F.type_str_split (h:=?_)>>=m_split (c:=47) λl1 h1=>?_
 rw[ahI hc f];let#[g,e1,H,l1,H1]:=Ρ h1 (.lst ((gW M).map V.str));let j:θ K H1 l1 ((gW M).map V.str):=θ.of e1;w_up;show Θ ?_>>=aY (λh=>absurd rfl h) (λ_=>?_)*>Γ ?_;k_go;show ϐ j (i:=0) rfl ?_>>=#[M.living,rfl,λH2 W=>?_];k_go;show ϐ (W.seq j) (i:=1) rfl ?_>>=#[M.moment,5000,rfl,.inl rfl,by have:=f.moment;omega,λH3 s3=>?_];let n:=W<|>s3;k_go;show ϐ (n.seq j) (i:=2) rfl ?_;lk;let Y:ϕ cs (jB M.os)=↑M.os:=adP f.len f.nodup f.Mr λo D hm=>by
  let G:=Dk hc (f.names o D);unfold isName iu at G;rw[acF,aeN]at G;show absurd (of_decide_eq_true (G.2 32 hm)) (by fin2)
 show#[a,cs,jB M.os,rfl,z.same (g<|>n),(by have:=aaV hc f;omega),(λH' sm e=>by rw[Y]at e;cases e),λo os H4 s4 u D I=>?_];rw[Y]at u;cases u;let J:=n<|>s4;let Mp:H o=none:=(g<|>n).free D;k_go;show ϐ (J.seq j) (i:=3) rfl ?_>>=#[a,cs,M.sieve,rfl,z.same (g<|>J),(by have:=f.short;omega),(λy hy=>by have:=f.words y hy;omega),B,C,λZ H5 x l=>?_];let L:=J<|>x;let O:eO (χ 32 M.sieve) 0 ↥(χ 32 M.sieve)=M.sieve:=by
  unfold eO;rw[akR,ari,ai0,wk]
 rw[O]at l;let#[dx,fs,es,et,R]:=l.txt;symm;lk;show aA (pl:=_) hr Β ?_;f_are;show#[Z,ie mg t,dx,_,true,1,_,yj K,rfl,es,R,M2,by decide,id,Z,ie mg t,dx,fs,_,rfl,es,kc,na,et,?_]>>=ϐ (L.seq j) (i:=4) rfl ?_>>=#[a,o,M,cs,rfl,z.same (g<|>L),I.same x,hc,f,λc H6 s6 hc0 fH hv=>?_]>>=#[Ξ,λp hp=>?_];let#[k,v,z1,z2,z3]:=fH;let m:ζ H6 (upd H6 p (.tup [.str (ϖ M.living),.int M.moment,.ref o,.str M.sieve,.ref c])):=ζ.upd hp;let gM:=g<|>L;let U:=hv k v z1 z2;let#[ws,u,_]:=I.same x;show q p o c k v _ (gM<|>s6<|>m) υ Mp ((I.same x).same (s6<|>m)) (m<*z1) (m<*z2) (gM.free U) (m<*z3) λe=>?_
 rw[<-e,u]at U;cases U
inductive Pa:Sp
 |mk (a:δ) (M:Mk) (cs:List ο):vs=[.ref a,.str (bF M)]->aj H a cs->ϗ cs=true->bQ cs M->(∀p o c k v H',ζ H H'->H' p=↑(.tup [.str (ϖ M.living),.int M.moment,.ref o,.str M.sieve,.ref c])->H o=none->eQ H' o M.os->H' c=↑(.tup [.str (tQ M.cut.ahead),.ref k])->H' k=↑(.tup [.ref v,.int M.cut.row])->H v=none->H' v=↑(.lst M.cut.xs)->o≠v->Q (.ref p) H')
def wL:Def 52 "read_mark" ["columns","text"] Pa:=by
 exists tK,wL,C,#[a,M,cs,rfl,g,hc,f,q],2,D.Dq,1,G Ci,I wD;let#[J,L]:=GD hc f;let O:=j6 (ϥ M).cps.toList;let R:=wY (ϊ (ϥ M).cps.toList);let U:↥(".":Str)=1:=by fin2
 w_up;show dw ?_*>bU PySem.F.plainAttrs_str PySem.F.slot_str_rpartition PySem.F.type_str_rpartition (h:=?_)>>=Gz (c:=46) (by unfold bF;rw[len_app,len_app];omega) λt i=>?_
 let p1:(Txt.rpartition (bF M) #[#v[46]]).1=ϥ M:=by rw[JG]
 let p2:(Txt.rpartition (bF M) #[#v[46]]).2.1=#[#v[46]]:=by rw[JG]
 let p3:(Txt.rpartition (bF M) #[#v[46]]).2.2=ϝ (ϊ (ϥ M).cps.toList):=by rw[JG]
 rw[p1,p2,p3];show ϟ (Δ.of υ) (Η (ω nd (Η (ω nd (Η (ω nd (Ϣ ?_)))))));let e:ζ H (upd H t (.tup [.str (ϥ M),.str #[#v[46]],.str (ϝ (ϊ (ϥ M).cps.toList))])):=ζ.upd i;generalize upd H t (.tup [.str (ϥ M),.str #[#v[46]],.str (ϝ (ϊ (ϥ M).cps.toList))])=H1 at e⊢;w_up;show Θ ?_>>=gC ?_>>=#[ϥ M,rfl,(),Wf hc f,?_];generalize ϝ (ϊ (ϥ M).cps.toList)=W;lk;show aY (λh=>absurd rfl h) (λ_=>?_)*>Γ ?_;f_len;show vR (λ_ _ _ _=>False) rfl rfl (λF pn xo po=>?_) (λσ c d H' j=>j.elim);symm;lk;show #[a,M,cs,rfl,g.same e,hc,f,λp o c k v H' l m n s u x y z B=>q p o c k v H' (e<|>l) m (e.free n) s u x (e.free y) z B]
def cG(mg:MG)(H:Hp)(E:XK)(c:Str):=∀H',ζ H H'->E (.ref (η mg c)) (none,true) H'
theorem cG.same(h:cG mg H E c)(s:ζ H H'):cG mg H' E c:=λH2 a=>h H2 (s<|>a)
def sizeOk(n:Int):Prop:=1<=n/\n<=100
inductive Ra(mg:MG):Sp
 |mk (n:Int):vs=[.int n]->n.natAbs<10^60->(sizeOk n->Q .non H)->(¬sizeOk n->cG mg H E "NoSize")
def vM:Def 2 "ask_size" ["size"] (Ra mg):=by
 exists ["size"],vM,g,#[n,rfl,a,q,e],i.ajy,1,j uJ;let c:¬sizeOk n->∀D,Φ X (Jq (jW (ϣ aaY) 0)) D [↑(.int n)] H:=by
  intro f D;f_len;show dW Β T.ame ?_;cbv;show gm ?_;cbv;show#[_V.Ϥ (by decide),_,70,rfl,_V.mL (by decide),(),?_];cbv;show gm ?_;cbv;show#[_V.Ϥ a,_,70,rfl,_V.mL a,(),?_];cbv;intro l;cbv;show#[by rw[hsz];simp,e f H (ζ.refl _)]
 f_len;show Θ ?_>>=#[_,rfl,rfl,?_];rw[show tH (V.int n)=true from rfl];lk;show Μ (λh1=>?_) (λh1=>?_)
 .lk;show aY (λh2=>?_) (λh2=>?_)
  .show c (λz=>absurd z.2 ()) _
  .show Γ (q #[h1,()])
 .lk;show c (λz=>absurd z.1 h1) _
def pP(q:δ)(H H':Hp)(v:V)(r:Row):=∃t l,v=.ref t/\H t=none/\H l=none/\l≠q/\H' t=↑(.tup [.int r.1,.ref l])/\H' l=↑(.lst r.2)
def pP.same(h:pP q H H' v r)(s:ζ H' H2):pP q H H2 v r:=by
 let#[t,l,e,h1,h2,a,c,f]:=h;show#[t,l,e,h1,h2,a,s<*c,s<*f]
def amP(xs:List V):bL xs ↑0 ↑(↥xs:Int)=xs:=by
 unfold bL;rw[show↑(0:Int)=↑((0:Nat):Int)from rfl,_H.jc,_H.jc];simp
def Wu(H:Hp)(a:List Row)(Q:VK):=∀(t q:δ)(us:List V) H',ζ H H'->H q=none->H' t=↑(.tup [.ref q,.non,.non,.int 0])->H' q=↑(.lst us)->Α (pP q H H') us a->Q (.ref t) H'
inductive Z8:Sp
 |mk (a b p:δ) (v:V) (rs:List Row):vs=[.ref a,.ref b,.ref p,v,.int 0,.int (↥rs:Nat)]->kZ H p rs->↥rs<=100->Wu H rs Q
def yg:Def 4 "leaf_between" ["columns","order","line","cut","start","stop"] Z8:=by
 exists Vy,yg,f,#[a,b,p,v,rs,rfl,#[ws,hp,j],few,q],2,n1.pN,n2.bY,1;let U:(["row","values"]:List Str).Nodup:=by fin2
 let m:=j.len;w_up;show sG ["row","values"] (σ':=[none,none]) (b8 (ς Gk)) nd ?_>>=eN (θ.of hp) λp1 D=>?_
 rw[<-m,amP];let#[s,e1,H,p1,H1]:=Ρ D (.lst ws);show#[p1,_,rfl,θ.of e1,(),λW=>∃Y Z,W=[Y,Z],λE2 k u H'=>∃r,rs[k]?=↑r/\pP E2 H H' u r,#[none,none,rfl],λE2 k u H2 H3 ys hE n p=>?_,λfp E2 C s3 H0 k W x H4 F aR hi G ϋ g hG=>?_,λI H2 us J c L e2 Χ =>?_]
 .let#[r,f,t,l,e,h1,h2,h3,M,h5]:=p;show#[r,f,t,l,e,h1,h2,h3,n _ _ (λz=>by rw[z,hE]at M;cases M) M,n _ _ h3 h5]
 .let#[Y,Z,rfl]:=G;let#[bh,rfl]:=hG;let#[r,f,t,l,rfl,O,hl]:=j.get bh;let y:=s<|>ϋ;let#[ys,g]:=g;show ϟ (Δ.of (y<*O)) (Η (ω U (Η (ω U (Ϣ ?_)))))>>=qJ (.inl (θ.of (y<*hl))) λB c=>?_
  let#[i,e5]:=Ρ c (.lst r.2);let nl:B≠E2:=λe=>by rw[e,g]at c;cases c
  generalize upd H4 B (.lst r.2)=F at i e5⊢;lk;show#[Ξ,λt2 dO=>?_];let s6:ζ F (upd F t2 (.tup [.int r.1,.ref B])):=ζ.upd dO;show#[#[_,_,rfl],#[r,f,t2,B,rfl,(y<|>i).free dO,y.free c,nl,υ,s6<*e5],i<|>s6]
 let R:Α (pP I H H2) us rs:=mK () λk r f=>by
  let n:k<↥us:=by have:=(aas.mp f).1;omega
  let#[r',o,hn]:=L k _ (aad n);rw[f]at o;cases o;show#[_,aad n,hn]
 let Np:=s<|>Χ;let TF:θ K H2 p ws:=θ.of (Np<*hp);k_go;w_up;show Θ ?_>>=Γ ?_;k_go;w_up;show Θ ?_;lk;rw[m,decide_eq_false (show ¬((↥rs:Nat):Int)<((↥rs:Nat):Int)by omega)];show Γ ?_;symm;lk;show #[Ξ,λt O=>?_];let i:ζ H2 (upd H2 t (.tup [.ref I,.non,.non,.int 0])):=ζ.upd O;show q t I us _ (Np<|>i) (s.free J) υ (i<*e2) (R.imp λu r z=>z.same i)
def JZ(H:Hp)(c:δ)(on:Bool):Prop:=H c=↑(.tup [.str (if on then "start" else "end")])
inductive XS(K:ϩ):Sp
 |mk (a b p c:δ) (on:Bool) (ws:List V):vs=[.ref a,.ref b,.ref p,.ref c]->JZ H c on->θ K H p ws->Q (.int (if on then 0 else(↥ws:Nat))) H
def Ay:Def 4 "cut_place" ["columns","order","line","cut"] (XS K):=by
 exists ["columns","order","line","cut","low","high","middle","row","values"],Ay,f,#[a,b,p,c,on,ws,rfl,hc,hp,q],g.Kl,i.Ec,n1.bY;cases on with
 |true=>
  let e:H c=↑(.tup [.str ("start":Str)]):=hc;w_up;show Θ ?_>>=gZ (Δ.of e) (show Ϛ [V.str ("start":Str)] 0=↑(V.str ("start":Str))from rfl) ?_>>=fG ?_;symm;lk;show q
 |false=>
  let e:H c=↑(.tup [.str ("end":Str)]):=hc;w_up;show Θ ?_>>=gZ (Δ.of e) (show Ϛ [V.str ("end":Str)] 0=↑(V.str ("end":Str))from rfl) ?_>>=gC ?_*>Γ ?_;w_up;show Θ ?_>>=gZ (Δ.of e) (show Ϛ [V.str ("end":Str)] 0=↑(V.str ("end":Str))from rfl) ?_>>=fG ?_;symm;lk;show q
inductive FJ(mg:MG)(on:Bool):Sp
 |mk (a b p:δ) (v:V) (rs:List Row) (n:Int):vs=[.ref a,.ref b,.ref p,v,.int n]->n.natAbs<10^60->(¬sizeOk n->cG mg H E "NoSize")->(sizeOk n->n=100/\(∃c,v=.ref c/\JZ H c on)/\kZ H p rs/\↥rs<=100/\Wu H rs Q)
def DQ:Def 5 "leaf_forth" ["columns","order","line","cut","size"] (FJ mg true):=by
 exists Vu,DQ,o,#[a,b,p,v,g,n,rfl,j,l,q],2,s.bY,u.Mu,x vM,y Ay,z yg;w_up;show Ϡ ?_>>=#[n,rfl,j,λhs=>?_,l];let#[rfl,#[c,rfl,hc],i,few,qq]:=q hs;let#[ws,hp,e]:=id i;let m:θ K H p ws:=θ.of hp;let f:=e.len;k_go;show#[a,b,p,c,true,ws,rfl,hc,m,?_];symm;lk;show Pg (by rfl) ?_;let em:(if((↥ws:Nat):Int)<(if true=true then(0:Int)else((↥ws:Nat):Int))+100 then((↥ws:Nat):Int)else(if true=true then(0:Int)else((↥ws:Nat):Int))+100)=((↥g:Nat):Int):=by
  rw[f,if_pos rfl];split <;>omega
 rw[em];lk;show#[a,b,p,.ref c,g,rfl,i,few,qq]
def Hk:Def 5 "leaf_back" ["columns","order","line","cut","size"] (FJ mg false):=by
 exists SJ,Hk,m,#[a,b,p,v,e,n,rfl,j,l,q],2,o.aeV,s vM,u Ay,x yg;w_up;show Ϡ ?_>>=#[n,rfl,j,λhs=>?_,l];let#[rfl,#[c,rfl,hc],i,few,qq]:=q hs;let#[ws,hp,f]:=id i;let g:=f.len;k_go;show#[a,b,p,c,false,ws,rfl,hc,θ.of hp,?_];rw[if_neg (by decide),g];symm;lk;show afp (by rfl) ?_;rw[show(if(0:Int)>((↥e:Nat):Int)-100 then(0:Int)else((↥e:Nat):Int)-100)=0 by split <;>omega];lk;show#[a,b,p,.ref c,e,rfl,i,few,qq]
def gK(lv:Bool)(B:Bk)(mo:Int):List Row:=if lv=true then B.rows else bZ B mo
structure dF(mg:MG)(H:Hp)(A:BA)(B:Bk):Prop where
 bk:Κ (cB mg) H A B
 ok:ϗ B.heads=true
 mm:dN B
 dn:↥B.done=(B.now-B.known).toNat
 r1:↥B.rows<64
 d1:↥B.done<10000
 wf:qT B
 tc:∀i k,Ε B.touched i=↑k->k<=B.now
 nd:(B.rows.map Prod.fst).Nodup
 fit:∀r∈B.rows,bx B.heads r/\0<=r.1/\r.1<=1000000000
 dd:∀d∈B.done,∀xs,d.is=↑xs->bx B.heads (d.row,xs)
 hs:∀mo,B.known<=mo->mo<=B.now->ik B.rows (jj B mo)/\↥(bZ B mo)<64/\((bZ B mo).map Prod.fst).Nodup/\∀r∈bZ B mo,bx B.heads r
theorem dF.same(h:dF mg H A B)(s:ζ H H'):dF mg H' A B:={h with bk:=h.bk.same s}
def dF.at_(h:dF mg H A B)(a:lv=false->B.known<=mo)(c:mo<=B.now):↥(gK lv B mo)<64/\((gK lv B mo).map Prod.fst).Nodup/\∀r∈gK lv B mo,bx B.heads r:=by
 cases lv with
 |true=>show#[h.r1,h.nd,λr e=>(h.fit r e).1]
 |false=>show(h.hs mo (a rfl) c).2
def Gn(mg:MG)(B:Bk)(H:Hp)(E:XK):=∀e H',ζ H H'->H' e=↑(.xd [("known",.int B.known)])->E (.ref (η mg "Gone")) (↑e,true) H'
theorem Gn.same(h:Gn mg B H E)(s:ζ H H'):Gn mg B H' E:=λe H2 a c=>h e H2 (s<|>a) c
inductive Js(mg:MG)(t:Tr):Sp
 |mk (A:BA) (B:Bk) (lv:Bool) (mo:Int) (a:δ) (z:Str):vs=[.ref A.b,.str (ϖ lv),.int mo,.ref a]->dF mg H A B->mo<=B.now->dZ mg H t a z->jY B.heads t->(lv=false->mo<B.known->Gn mg B H E)->((lv=false->B.known<=mo)->∀q ws rs H',ζ H H'->H q=none->H' q=↑(.lst ws)->Α (tY H') ws rs->rs.Perm ((gK lv B mo).filter λr=>ϙ r.2 t)->Q (.ref q) H')
def xP(t:Tr):Def (5+t.dep) "rows_of_list" ["book","make","begin","sieve"] (Js mg t):=by
 rw[show 5+t.dep=(4+t.dep)+1 by omega];show Ζ (S:=M9) T.xP (λf Ϲ A' outer s H vs Q E m h=>?_);intro X _;let#[A,B,lv,mo,a,z,rfl,c,n,I,o,J,q]:=h;let nd:=M9.nd;let g1:=T.uw;let M1:Ψ P w K mg base true 4 (cB mg) "rows_at" ["self","moment"] (qH mg):=(Tf T).meth T.ώ T.Tn;let M2:Ψ P w K mg base true 2 (cB mg) "now_rows" ["self"] (tL mg):=(Py T).meth T.ώ T.N8;let D1:= @v8 P w K mg base T t;let r1:=c.r1;let d1:=c.d1
 let rest:(lv=false->B.known<=mo)->∀p1 ys ks H1,ζ H H1->H p1=none->ks.Perm ((gK lv B mo).map (·.1))->ks.Pairwise (· <= ·)->H1 p1=↑(.lst ys)->Α (uy H H1) ys (cP (gK lv B mo) ks)->
   Φ X ((ϣ CW).drop 1) {nx:=λ_ H'=>Q .non H',rt:=Q} [↑(.ref A.b),↑(.str (ϖ lv)),↑(.int mo),↑(.ref a),↑(.ref p1)] H1:=by
  intro D p1 ys ks H1 p L v M O x;let#[R,y,i]:=c.at_ D n;let g:=Eh (rows:=gK lv B mo) y v;let F:kZ H1 p1 (cP (gK lv B mo) ks):=#[ys,O,x.imp λu r z=>by
   let#[t,l,e,h1,h2,_]:=z;show#[t,l,e,h1,h2]]
  generalize cP (gK lv B mo) ks=U at g F;let W:=g.length_eq;symm;lk;show #[a,p1,z,U,rfl,I.same p,F,(),λr m=>wg (i r (g.mem_iff.mp m)) o,λp2 Y H2 G C j Z=>?_]*>q D p2 Y _ H2 (p<|>G) (p.free C) j (Z.imp λu r z=>z.row G) (g.filter _)
 w_up;f_tup;cases lv with
 |true=>
  lk;show fG ?_*>aA (pl:=_) m Β ?_;f_are;show#[A.b,cB mg,A.dx,_,true,2,_,tL mg,rfl,c.bk.ins,by rfl,M2,(),id,A,B,rfl,c.bk,c.r1,rest (λh=>by cases h)]
 |false=>
  lk;show Μ (λh=>?_) (λ_=>?_)
  .injection h with h
   show absurd h (by fin2)
  show ϛ (pl:=_) m Β (h:=?_);f_are;show#[A.b,cB mg,A.dx,_,true,4,_,qH mg,rfl,c.bk.ins,by rfl,M1,(),id,?_]>>=#[A,B,mo,rfl,c.bk,c.mm,(),c.d1,λh e H' sm he=>J rfl h e H' sm he,λh=>absurd h (),λh1 h2=>?_];let#[u1,u2,_]:=c.hs mo h1 h2;show#[u1,u2,rest λ_=>h1]
inductive Xl(mg:MG):Sp
 |mk (A:BA) (B:Bk) (lv:Bool) (r:Row):vs=[.ref A.b,.str (ϖ lv),.int B.now,.int r.1]->dF mg H A B->r∈B.rows->Q (.bl true) H
def Ks:Def 5 "is_untouched" ["book","make","begin","row"] (Xl mg):=by
 show Ζ (N:=["book","make","begin","row"]) T.Ks (λf g j outer s H vs Q E e h=>?_);intro X _;let#[A,B,lv,r,rfl,a,c,q]:=h;let l:=T.Bc;let M1:Ψ P w K mg base true 4 (cB mg) "since" ["self","row"] (zu mg):=(ae8 T).meth T.ώ T.ala;symm;cases lv with
 |false=>
  lk;show Μ (λ_=>q) (λh=>absurd rfl h)
 |true=>
  lk;show Μ (λh=>?_) (λ_=>?_)
  .injection h with h
  lk;show ϛ (pl:=_) e Β (h:=?_);f_are;show#[A.b,cB mg,A.dx,_,true,4,_,zu mg,rfl,a.bk.ins,by rfl,M1,by decide,id,?_];lk;let#[_,m,n1]:=a.fit r c;show#[A,B,r.1,rfl,a.bk,(),a.wf,λz=>absurd (akd (f:=Prod.fst) c) (lM.mp z),λi hi=>?_];lk;rw[decide_eq_true (a.tc<*hi)];show q
inductive V7:Sp
 |mk (mk:δ):vs=[.ref mk,.non]->Q .non H
def Gw:Def 1 "mark_at" ["mark","cut"] V7:=by
 exists ["mark","cut"],Gw,c,#[a,rfl,q];symm;lk;show q
def dF.now(h:dF mg H A B)(lv:Bool):gK lv B B.now=B.rows:=by
 cases lv with
 |true=>rfl
 |false=>
  show cO B.rows (B.done.drop (B.now-B.known).toNat)=B.rows;rw[amF (apS h.dn)];rfl
structure iY(cs:List ο)(t:Tr):Prop where
 gt:jY cs t
 dp:t.dep<=20
 vz:↥(wT (Υ cs) t)<=60
def vO(B:Bk)(os:List Ord)(t:Tr)(H:Hp)(Q:VK):=∀p a H',ζ H H'->Line B.heads os a->a.Perm (B.rows.filter λr=>ϙ r.2 t)->Ji H' p #[a.map λr=>(r.1,r.2,true),.non,.non,(↥a:Nat),0,B.now]->Q (.ref p) H'
theorem vO.same{os:List Ord}{t:Tr}{H H':Hp}{Q:VK}(h:vO B os t H Q)(s:ζ H H'):vO B os t H' Q:=λp a H2 c h1 h2 e=>h p a H2 (s<|>c) h1 h2 e
abbrev b7(B:Bk)(t:Tr):Str:=ϭ " " (wT (Υ B.heads) t)
def uH(mg:MG)(B:Bk)(os:List Ord)(t:Tr)(lv:Bool)(mo n:Int)(H:Hp)(Q:VK)(E:XK):Prop:=(lv=false->mo<B.known->Gn mg B H E)/\((lv=false->B.known<=mo)->¬sizeOk n->cG mg H E "NoSize")/\((lv=false->B.known<=mo)->sizeOk n->n=100/\mo=B.now/\vO B os t H Q)
theorem uH.same{os:List Ord}{t:Tr}{lv:Bool}{mo n:Int}{H H':Hp}{Q:VK}{E:XK}(h:uH mg B os t lv mo n H Q E)(s:ζ H H'):uH mg B os t lv mo n H' Q E:=#[λa b=>(h.1 a b).same s,λa b=>(h.2.1 a b).same s,λk a=>#[(h.2.2 k a).1,(h.2.2 k a).2.1,(h.2.2 k a).2.2.same s]]
inductive qM(K:ϩ)(mg:MG)(t:Tr)(on:Bool):Sp
 |mk (A:BA) (B:Bk) (mk o:δ) (v:V) (os:List Ord) (lv:Bool) (mo n:Int):vs=[.ref A.b,.ref mk,.int n,.bl on]->dF mg H A B->H mk=↑(.tup [.str (ϖ lv),.int mo,.ref o,.str (b7 B t),v])->eQ H o os->↥os<=4->dR B.heads os->iY B.heads t->H (aP K "sorted_by")=↑(.tbl cX)->mo<=B.now->n.natAbs<10^60->((lv=false->B.known<=mo)->sizeOk n->∃c,v=.ref c/\JZ H c on)->uH mg B os t lv mo n H Q E
def p8(hN:Ϟ K mg base "sorted_by")(t:Tr)(on:Bool):Def (10+2*t.dep) "leaf_from" ["book","mark","size","onward"] (qM K mg t on):=by
 rw[show 10+2*t.dep=(9+2*t.dep)+1 by omega];show Ζ (S:=BV) T.p8 (λf Ϲ A' outer s H vs Q E g h=>?_);intro X _;let#[A,B,mk,o,v,os,lv,mo,n,rfl,I,af,hO,Cu,ϻ,hS,tb,aa,ha,J,qg,qs,q]:=h;let nd:=BV.nd;let n1:=T.bY;let g1:=T.uw;let hsz:=ϯ;let O:=hS.gt;let hok:=I.ok;let#[c1,c6]:=KR hok;let Qy:(["row","values","book","make","begin"]:List Str).Nodup:=by fin2
 let D1:= @zM P w K mg base T t;let D2:= @xP P w K mg base T t;let D3:Def P w K mg base true 8 "line_of" ["columns","order","rows"] (wz K):=uB T hN;let D4:=!DQ;let D5:=!Hk;let D6:=!Ks;let D7:=!Gw;let M2:Ψ P w K mg base true 1 (cB mg) "moment" ["self"] (iM mg Bk.now):=(za T).meth T.ώ T.yU;let M3:Ψ P w K mg base true 1 (cB mg) "columns" ["self"] (cI mg):=(lH T).meth T.ώ T.lA;let hw:=uW hok O;let fH:χ 32 (b7 B t)=wT (Υ B.heads) t:=sJ (zP (Υ B.heads) t) λz hz=>(hw z hz).2.1
 let VM:=hS.vz;let qw:↥(b7 B t)<=3000:=by
  let h1:=rZ (wT (Υ B.heads) t) 21 λp hp=>(hw p hp).1
  let h2:=pY (wT (Υ B.heads) t);show(ϭ " " (wT (Υ B.heads) t)).length<=3000;omega
 let ag:Reads B.heads (wT (Υ B.heads) t) t 0 ↥(wT (Υ B.heads) t):=by
  have:=vC hok (ws:=wT (Υ B.heads) t) (t:=t) (s:=0) #[[],by simp] () O;rw[anF]at this;show this
 w_up;show dw ?_>>=ϟ (Δ.of af) (Η (ω nd (Η (ω nd (Η (ω nd (Η (ω nd (Η (ω nd (Ϣ ?_)))))))))));w_up;f_tup;show aA (pl:=_) g Β ?_;f_are;show⟨A.b,cB mg,A.dx,_,true,1,_,cI mg,rfl,I.bk.ins,by rfl,M3,(),id,A,B,rfl,I.bk,λc H1 s1 hc0 hC=>?_⟩;k_go;show#[c,B.heads,_,rfl,hC,qw,by rw[fH];show λy hy=>by have:=(hw y hy).1;omega,hS.dp,by rw[fH];show ag,λsv H2 s2 hv=>?_];generalize eO (χ 32 (b7 B t)) 0 ↥(χ 32 (b7 B t))=zz at hv;let ύ:=s1<|>s2;lk;show#[A,B,lv,mo,sv,zz,rfl,I.same ύ,aa,hv,O,λa b=>(qg a b).same ύ,λR p2 nH rs H3 s3 hp2 ab ah m=>?_];let Ι :=ύ<|>s3;let q:=q R;let J:=J R;let#[ai,ak,ac]:=I.at_ R aa;let al:↥((gK lv B mo).filter λr=>ϙ r.2 t)<=↥(gK lv B mo):=ahq ..;let am:↥rs<64:=af6 (afG (apS m.length_eq) al) ai;let D:∀r∈rs,r∈gK lv B mo:=λr g=>(aiB.mp (m.mem_iff.mp g)).1
 let an:(rs.map Prod.fst).Nodup:=(m.map Prod.fst).nodup_iff.mpr (ak.sublist (List.Sublist.map _ amx));lk;show#[c,o,p2,B.heads,os,rs,rfl,hC.same (s2<|>s3),hO.same Ι,#[nH,ab,ah],c6,(),ϻ,am,λr g=>ac r (D r g),an,Ι<*tb,λY lw ls H4 s4 HF yD RG hL cz=>?_];let aV:=Ι<|>s4;let Fg:=RG.len;let hll:↥ls=↥rs:=cz.length_eq;let Mv:kZ H4 Y ls:=#[lw,yD,RG.imp λu r z=>by
  let#[t,l,e,_,_,_,h1,h2]:=z;show#[t,l,e,h1,h2]]
 let rest:sizeOk n->∀(F:δ)(us:List V)(H5:Hp),ζ H4 H5->H4 F=none->H5 F=↑(.lst us)->Α (pP F H4 H5) us ls->
   Φ X ((ϣ wK).drop 4) {nx:=λ_ H'=>Q .non H',rt:=Q} [↑(.ref A.b),↑(.ref mk),↑(.int n),↑(.bl on),↑(.str (ϖ lv)),↑(.int mo),↑(.ref o),↑(.str (b7 B t)),↑v,↑(.ref c),↑(.ref Y),↑(.ref F),↑.non,↑.non,↑(.int 0),none,none] H5:=by
  intro hs F us H5 Z L hq i;let#[rfl,rfl,qq]:=q hs;rw[I.now lv]at D m;let Fy:=cz<|>m;let U:∀r∈ls,r∈B.rows:=λr g=>D r (cz.mem_iff.mp g)
  let BW:=i.len;let gM:=aV<|>Z;w_up;show sG ["row","values","book","make","begin"] (σ':=[none,none,↑(.ref A.b),↑(.str (ϖ lv)),↑(.int B.now)]) (b8 (ς wK)) nd ?_>>=#[F,us,rfl,θ.of hq,(),λτ=>∃o1 o2,τ=[o1,o2,↑(.ref A.b),↑(.str (ϖ lv)),↑(.int B.now)],λE2 j u H'=>u≠.ref E2/\∃r t l,ls[j]?=↑r/\u=.ref t/\H' t=↑(.tup [.int r.1,.ref l,.bl true])/\H5 l=↑(.lst r.2),#[none,none,rfl],λE2 j u H8 H9 ys hE R p=>?_,λfp E2 C s9 H8 j τ x H6 H7 aR hi ar lF W hG=>?_,λq1 H6 Vp hq1 hl6 uh e6 s6=>?_]
  .let#[h0,r,t,l,g,e,h1,h3]:=p;show#[h0,r,t,l,g,e,R _ _ (λz=>h0 (by rw[e,z])) h1,h3]
  .let#[o1,o2,rfl]:=ar;let#[bh,rfl]:=hG;let#[r,G,tr,lr,rfl,al8,abP,_,av,aw]:=i.get bh;let#[ys,W]:=W;show ϟ (Δ.of (lF<*av)) (Η (ω Qy (Η (ω Qy (Ϣ ?_)))))>>=#[A,B,lv,r,rfl,I.same (gM<|>lF),U r (abD G),?_]>>=#[Ξ,λt2 dO=>?_]*>#[#[_,_,rfl],#[λz=>?_,r,t2,lr,G,rfl,υ,aw],ζ.upd dO];injection z with z
   rw[z,W]at dO;cases dO
  let lR:=gM<|>s6;let Lg:θ K H6 Y lw:=(Z<|>s6).seq (θ.of yD);let M:Φ X ((ϣ wK).drop 6) {nx:=λ_ H'=>Q .non H',rt:=Q} [↑(.ref A.b),↑(.ref mk),↑(.int 100),↑(.bl on),↑(.str (ϖ lv)),↑(.int B.now),↑(.ref o),↑(.str (b7 B t)),↑v,↑(.ref c),↑(.ref Y),↑(.ref F),↑.non,↑.non,↑(.int 0),↑(.ref q1),↑(.int B.now)] H6:=by
   symm;lk;show #[mk,rfl,?_]>>=#[mk,rfl,?_]>>=#[Ξ,λp9 ax=>?_];let s9:=ζ.upd (o:=.tup [.ref q1,.non,.non,.int (↥lw:Nat),.int 0,.int B.now]) ax;show qq p9 ls _ (lR<|>s9) hL Fy #[q1,by rw[υ,Fg],Vp,s9<*e6,mK (by rw[ϰ];omega) λj r' ae=>?_];rw[acS]at ae;let#[r,g,rfl]:=ahh.mp ae;let hj:j<↥Vp:=by have:=(aas.mp g).1;omega
   let#[_,r2,t2,l2,G,e,h1,h3]:=uh j _ (aad hj);rw[g]at G;cases G;show#[_,aad hj,t2,l2,e,s9<*h1,(s6<|>s9)<*h3]
  w_up;f_tup;cases lv with
  |true=>
   lk;show fG ?_*>aA (pl:=_) g Β ?_;f_are;show#[A.b,cB mg,A.dx,_,true,1,_,iM mg Bk.now,rfl,(I.bk.same lR).ins,by rfl,M2,(),id,A,B,rfl,I.bk.same lR,M]
  |false=>
   lk;show Μ (λh=>?_) (λ_=>?_)
   .injection h with h
    show absurd h (by fin2)
   lk;show M
 w_up;show Θ ?_;lk;let few:↥ls<=100:=()
 cases on with
 |true=>
  lk;f_len;show dw ?_>>=#[c,o,Y,v,ls,n,rfl,ha,λh=>(qs R h).same aV,λhs=>#[(q hs).1,?_,Mv,few,λt4 F us H5 Z L Hy hq i=>?_]]
  .let#[c,e,hc]:=J hs;show#[c,e,aV<*hc]
  show ϟ (Δ.of Hy) (Η (ω nd (Η (ω nd (Η (ω nd (Η (ω nd (Ϣ ?_)))))))))*>rest hs F us H5 Z L hq i
 |false=>
  lk;f_len;show dw ?_>>=#[c,o,Y,v,ls,n,rfl,ha,λh=>(qs R h).same aV,λhs=>#[(q hs).1,?_,Mv,few,λt4 F us H5 Z L Hy hq i=>?_]]
  .let#[c,e,hc]:=J hs;show#[c,e,aV<*hc]
  show ϟ (Δ.of Hy) (Η (ω nd (Η (ω nd (Η (ω nd (Η (ω nd (Ϣ ?_)))))))))*>rest hs F us H5 Z L hq i
inductive Pu(mg:MG):Sp
 |mk (A:BA) (B:Bk) (lv:Bool) (zo z:Str) (v:V):vs=[.ref A.b,.str (ϖ lv),.str zo,.str z,v]->Κ (cB mg) H A B->↥zo<=4000->(ϕ B.heads zo=none->cG mg H E "NoOrder")->(∀os,ϕ B.heads zo=↑os->∀p b H',ζ H H'->H' p=↑(.tup [.str (ϖ lv),.int B.now,.ref b,.str z,v])->eQ H' b os->Q (.ref p) H')
def t7:Def 4 "begin_of" ["book","make","order","sieve","cut"] (Pu mg):=by
 show Ζ (N:=["book","make","order","sieve","cut"]) T.t7 (λf G I outer s H vs Q E g h=>?_);intro X _;let#[A,B,lv,l,z,v,rfl,a,m,n,q]:=h;let hsz:=ϯ;let J:=!mX;let M2:Ψ P w K mg base true 1 (cB mg) "moment" ["self"] (iM mg Bk.now):=(za T).meth T.ώ T.yU;let u:Ψ P w K mg base true 1 (cB mg) "columns" ["self"] (cI mg):=(lH T).meth T.ώ T.lA;symm;lk;show aA (pl:=_) g Β ?_;f_are;show#[A.b,cB mg,A.dx,_,true,1,_,iM mg Bk.now,rfl,a.ins,by rfl,M2,by decide,id,A,B,rfl,a,?_]>>=aA (pl:=_) g Β ?_;f_are;show#[A.b,cB mg,A.dx,_,true,1,_,cI mg,rfl,a.ins,by rfl,u,by decide,id,A,B,rfl,a,λc H1 i x y=>?_]>>=#[c,B.heads,l,rfl,y,m,λH' s' e=>n e H' (i<|>s'),λb os H2 C e D F=>?_]>>=#[Ξ,λp hp=>?_];let j:=ζ.upd (o:=.tup [.str (ϖ lv),.int B.now,.ref b,.str z,v]) hp;show q os e p b _ ((i<|>C)<|>j) υ (F.same j)
structure jH(cs:List ο)(z:Str)(k:Nat):Prop where
 len:↥z<=3000
 no:uR cs (χ 32 z) k
inductive qL(mg:MG):Sp
 |mk (A:BA) (B:Bk) (mk o:δ) (v:V) (lv on:Bool) (z:Str) (mo n:Int) (k:Nat):vs=[.ref A.b,.ref mk,.int n,.bl on]->Κ (cB mg) H A B->H mk=↑(.tup [.str (ϖ lv),.int mo,.ref o,.str z,v])->jH B.heads z k->fM mg H E k
def zm(i:Ϟ K mg base "sorted_by"):Def 52 "leaf_from" ["book","mark","size","onward"] (qL mg):=by
 show Ζ (S:=BV) T.p8 (λf x y outer s H vs Q E j h=>?_);intro X _;let#[A,B,mk,o,v,lv,on,z,mo,n,k,rfl,e,a,g,l]:=h;let nd:=BV.nd;let C:=!Vz;let D:Def P w K mg base true 5 "rows_of_list" ["book","make","begin","sieve"] (Js mg (.one .all)):=xP T (.one .all);let F:Def P w K mg base true 8 "line_of" ["columns","order","rows"] (wz K):=uB T i;let m:Ψ P w K mg base true 1 (cB mg) "columns" ["self"] (cI mg):=(lH T).meth T.ώ T.lA;w_up;show dw ?_>>=ϟ (Δ.of a) (Η (ω nd (Η (ω nd (Η (ω nd (Η (ω nd (Η (ω nd (Ϣ ?_)))))))))));w_up;f_tup;show aA (pl:=_) j Β ?_;f_are;show⟨A.b,cB mg,A.dx,_,true,1,_,cI mg,rfl,e.ins,by rfl,m,(),id,A,B,rfl,e,λc H1 p q u=>?_⟩;k_go;show#[c,B.heads,z,k,rfl,u,g.len,g.no,l.same p]
inductive vY(K:ϩ)(mg:MG)(t:Tr):Sp
 |mk (A:BA) (B:Bk) (lv:Bool) (zo:Str) (n:Int):vs=[.ref A.b,.str (ϖ lv),.str zo,.str (b7 B t),.int n]->dF mg H A B->↥zo<=4000->iY B.heads t->H (aP K "sorted_by")=↑(.tbl cX)->n.natAbs<10^60->(ϕ B.heads zo=none->cG mg H E "NoOrder")->(∀os,ϕ B.heads zo=↑os->↥os<=4/\dR B.heads os/\uH mg B os t lv B.now n H Q E)
inductive vK(mg:MG):Sp
 |mk (A:BA) (B:Bk) (lv:Bool) (zo z:Str) (n:Int) (k:Nat):vs=[.ref A.b,.str (ϖ lv),.str zo,.str z,.int n]->Κ (cB mg) H A B->↥zo<=4000->jH B.heads z k->(ϕ B.heads zo=none->cG mg H E "NoOrder")->(ϕ B.heads zo≠none->fM mg H E k)
def zr(l:Ϟ K mg base "sorted_by")(t:Tr)(m:t.dep<=20):Def 53 "first_leaf" ["book","make","order","sieve","size"] (vY K mg t):=by
 show Ζ (S:=Q3) T.zr (λf D F outer s H vs Q E G h=>?_);intro X _;let#[A,B,lv,o,n,rfl,i,u,v,tb,x,y,q]:=h;let hsz:=ϯ;let I:=T.Kl;let J:=!t7;let L:Def P w K mg base true (10+2*t.dep) "leaf_from" ["book","mark","size","onward"] (qM K mg t true):=p8 T l t true;symm;lk;show #[Ξ,λp hp=>?_];let#[a,e1]:=Ρ hp (.tup [.str ("start":Str)]);change EA _ _ _ (upd H p (.tup [.str ("start":Str)])) _;generalize upd H p (.tup [.str ("start":Str)])=H1 at a e1⊢;lk;show#[A,B,lv,o,_,_,rfl,(i.same a).bk,u,λe=>(y e).same a,λos e mk b H2 j c z=>?_];let#[o4,C,q]:=q os e;lk;let g:=a<|>j;show#[A,B,mk,b,.ref p,os,lv,B.now,n,rfl,i.same g,c,z,o4,C,v,g<*tb,asI _,x,λ_ _=>#[p,rfl,j<*e1],q.same g]
def afS(j:Ϟ K mg base "sorted_by"):Def 53 "first_leaf" ["book","make","order","sieve","size"] (vK mg):=by
 show Ζ (S:=Q3) T.zr (λf x y outer s H vs Q E C h=>?_);intro X _;let#[A,B,lv,l,z,n,k,rfl,g,m,o,u,q]:=h;let hsz:=ϯ;let D:=T.Kl;let F:=!t7;let G:Def P w K mg base true 52 "leaf_from" ["book","mark","size","onward"] (qL mg):=zm T j;symm;lk;show #[Ξ,λp hp=>?_];let a:ζ H (upd H p (.tup [.str ("start":Str)])):=ζ.upd hp;change EA _ _ _ (upd H p (.tup [.str ("start":Str)])) _;generalize upd H p (.tup [.str ("start":Str)])=H1 at a⊢;lk;show#[A,B,lv,l,_,_,rfl,g.same a,m,λe=>(u e).same a,λos e mk b H2 v c I=>?_];lk;let i:=a<|>v;show#[A,B,mk,b,.ref p,lv,true,z,B.now,n,k,rfl,g.same i,c,o,(q (by rw[e];simp)).same i]
def yF(l:Ϟ K mg base "sorted_by")(t:Tr)(m:t.dep<=20):Def 53 "last_leaf" ["book","make","order","sieve","size"] (vY K mg t):=by
 show Ζ (S:=Ub) T.yF (λf D F outer s H vs Q E G h=>?_);intro X _;let#[A,B,lv,o,n,rfl,i,u,v,tb,x,y,q]:=h;let hsz:=ϯ;let I:=T.Ec;let J:=!t7;let L:Def P w K mg base true (10+2*t.dep) "leaf_from" ["book","mark","size","onward"] (qM K mg t false):=p8 T l t false;symm;lk;show #[Ξ,λp hp=>?_];let#[a,e1]:=Ρ hp (.tup [.str ("end":Str)]);change EA _ _ _ (upd H p (.tup [.str ("end":Str)])) _;generalize upd H p (.tup [.str ("end":Str)])=H1 at a e1⊢;lk;show#[A,B,lv,o,_,_,rfl,(i.same a).bk,u,λe=>(y e).same a,λos e mk b H2 j c z=>?_];let#[o4,C,q]:=q os e;lk;let g:=a<|>j;show#[A,B,mk,b,.ref p,os,lv,B.now,n,rfl,i.same g,c,z,o4,C,v,g<*tb,asI _,x,λ_ _=>#[p,rfl,j<*e1],q.same g]
def adg(j:Ϟ K mg base "sorted_by"):Def 53 "last_leaf" ["book","make","order","sieve","size"] (vK mg):=by
 show Ζ (S:=Ub) T.yF (λf x y outer s H vs Q E C h=>?_);intro X _;let#[A,B,lv,l,z,n,k,rfl,g,m,o,u,q]:=h;let hsz:=ϯ;let D:=T.Ec;let F:=!t7;let G:Def P w K mg base true 52 "leaf_from" ["book","mark","size","onward"] (qL mg):=zm T j;symm;lk;show #[Ξ,λp hp=>?_];let a:ζ H (upd H p (.tup [.str ("end":Str)])):=ζ.upd hp;change EA _ _ _ (upd H p (.tup [.str ("end":Str)])) _;generalize upd H p (.tup [.str ("end":Str)])=H1 at a⊢;lk;show#[A,B,lv,l,_,_,rfl,g.same a,m,λe=>(u e).same a,λos e mk b H2 v c I=>?_];lk;let i:=a<|>v;show#[A,B,mk,b,.ref p,lv,false,z,B.now,n,k,rfl,g.same i,c,o,(q (by rw[e];simp)).same i]
inductive T6(mg:MG):Sp
 |mk (z:Str) (m:Int):vs=[.str z,.int m]->(m=5000\/m=1000000000)->↥z<=4000->dY z.cps.toList m=none->(∀H',ζ H H'->E (.ref (η mg "NoMark")) (none,true) H')
def ado:Def 4 "read_whole" ["word","most"] (T6 mg):=by
 exists Bv,rN,j,#[z,m,rfl,e,f,a,q],2,1,l qR;obtain⟨k,g,c,k1,k2⟩:∃k,↥(μ (toString m))=k/\m<((10^k:Nat):Int)/\1<=k/\k<=600:=by
  obtain rfl|rfl:=e
  .show#[4,by fin2,by decide,(),()]
  .show#[10,by fin2,by decide,(),()]
 k_go;show#[_,m,k,rfl,(),(),(),g,c,k1,k2,λH1 i =>?_];rw[a];w_up;show Θ ?_;lk;f_len;show dW Β T.zN ?_;cbv;show gm ?_;f_are;show#[m,rfl,by obtain rfl|rfl:=e<;>fin2,_,600,rfl,(),(),?_];cbv;show oU ?_;f_are;show#[z,rfl,(),_,4000,rfl,f,(),?_];cbv;intro n;cbv;show#[by rw[hsz];simp,q _ i]
def u6(cs:List ο)(z:Str)(c:Str):=∃p0 p1 p2 p3 a,χ 47 z=[p0,p1,p2,p3,a]/\∃b,p0=gG b/\((c="NoMark"/\dY p1.cps.toList 5000=none)\/∃m:Nat,p1=μ (toString (m:Int))/\(m:Int)<=5000/\c="NoOrder"/\ϕ cs p2=none)
inductive Rc(mg:MG):Sp
 |mk (a:δ) (z:Str) (cs:List ο) (c:Str):vs=[.ref a,.str z]->↥z<=4000->aj H a cs->u6 cs z c->(∀H',ζ H H'->E (.ref (η mg c)) (none,true) H')
def ahs:Def 8 "read_body" ["columns","body"] (Rc mg):=by
 exists yX,Ci,M,#[a,z,cs,c,rfl,O,D,f,q],2,R.Oh,U.Ow,W.Nq,n1.bY,1,Y mX;w_up;f_tup;show bU F.plainAttrs_str F.slot_str_split F.type_str_split (h:=?_)>>=m_split (c:=47) λl1 h1=>?_
 let g:∀y∈χ 47 z,↥y<=4000:=λy G=>by
  have:=Il G;omega
 let#[p0,p1,p2,p3,u,I,b,J,f]:=f;rw[I]at g⊢;let#[l,e1,H,l1,H1]:=Ρ h1 (.lst ([p0,p1,p2,p3,u].map V.str));let n:θ K H1 l1 ([p0,p1,p2,p3,u].map V.str):=θ.of e1;w_up;show Θ ?_>>=aY (λh=>absurd rfl h) (λ_=>?_)*>Γ ?_;w_up;f_tup;subst J;let Z:=!zA;lk;show ϐ n (i:=0) rfl ?_>>=#[b,rfl,λH2 o=>?_];w_up;f_tup;obtain⟨rfl,j⟩|⟨m,rfl,L,rfl,j⟩:=f
 .let D2:= @ado P w K mg base T;lk;show ϐ (o.seq n) (i:=1) rfl ?_>>=#[p1,5000,rfl,.inl rfl,g p1 (by simp),j,λB v=>q B ((l<|>o)<|>v)]
 let D2:=!rN;lk;show ϐ (o.seq n) (i:=1) rfl ?_>>=#[m,5000,rfl,.inl rfl,L,λB v=>?_];let x:=o<|>v;k_go;show ϐ (x.seq n) (i:=2) rfl ?_>>=#[a,cs,p2,rfl,D.same (l<|>x),g p2 (by simp),λH' C _=>q H' ((l<|>x)<|>C),λp os H' C e _ _=>by rw[j]at e;cases e]
def El(z:Str):Prop:=46∉z.cps.toList\/∃b w,z.cps.toList=b++46::w/\46∉w/\w≠(ϝ (ϊ b)).cps.toList
def ag1(h:(ϝ (ϊ a)).cps.toList=(ϝ (ϊ b)).cps.toList):ϊ a=ϊ b:=by
 let c:=j6 a;let e:=j6 b;let#[m,em]:=aeo c.1;let#[n,f]:=aeo e.1;rw[em,f]at h⊢;let h1:=Kh (n:=m) ();let h2:=Kh (n:=n) ();unfold yC at h1 h2;simp only[acF,decide_eq_true_eq]at h1 h2;let e1:=h1.2.2;let g:=h2.2.2;rw[h,g]at e1;rw[e1]
def aaM(b:List Nat):46∉(ϝ (ϊ b)).cps.toList/\(ϝ (ϊ b)).cps.toList.length=4:=by
 let c:=j6 b;let a:=wY (ϊ b);show#[a.1,a.2]
theorem Zz:∀l:List Nat,46∉l\/∃b w,l=b++46::w/\46∉w
 |[]=>.inl (by simp)
 |c::l=>by
  obtain h|⟨b,w,e,h⟩:=Zz l
  .by_cases hc:c=46
   .subst hc;show .inr #[[],l,rfl,h]
   .show .inl λa=>?_
    obtain e|e:=aaT.1 a
    .show hc e.symm
    .show h e
  .show .inr #[c::b,w,by rw[e];rfl,h]
def aeE(e:z.cps.toList=l++t)(c:46∉t)(g:5<=↥t):El z:=by
 obtain h|⟨b,w,f,h⟩:=Zz l
 .show .inl λa=>?_
  rw[e]at a;obtain q|q:=agq.1 a
  .show h q
  .show c q
 .show .inr #[b,w++t,by rw[e,f];simp,λa=>?_,λq=>?_]
  .obtain q|q:=agq.1 a
   .show h q
   .show c q
  .have :=congrArg aqJ q;rw[(aaM b).2,adz]at this;omega
def Ue(h1:ape K cls c1=↑a)(h2:ape K cls c2=↑c)(f:ape K cls c3=↑e):atE K cls [c1,c2,c3]=↑(a||(c||(e||false))):=by
 simp only[atE,h1,h2,f]
theorem oH(T:Txt K mg)(i j:Nat)(c:[η mg "LeafError",η mg "NoColumns",η mg "NoValue",η mg "NoOrder",η mg "NoRow",η mg "NoMark",η mg "NoSize",η mg "NoLine",η mg "NoBook",η mg "NoSieve",η mg "NoPage",η mg "Twice",η mg "Absent",η mg "Gone",η mg "Later"][i]?=↑x)(f:[η mg "LeafError",η mg "NoColumns",η mg "NoValue",η mg "NoOrder",η mg "NoRow",η mg "NoMark",η mg "NoSize",η mg "NoLine",η mg "NoBook",η mg "NoSieve",η mg "NoPage",η mg "Twice",η mg "Absent",η mg "Gone",η mg "Later"][j]?=↑y)(a:i≠j:=by decide):x≠y:=λe=>by
 let g:=(aas.mp c);let l:=(aas.mp f);let#[p1,r1]:=g;let#[p2,m]:=l;show a ((arx T.Uk (h₀:=p1) (h₁:=p2)).mp (r1<|>e<|>m.symm))
def vZ(cs:List ο)(z:Str):Prop:=El z\/∃(b:Str)(c:Str),z=b++μ "."++ϝ (ϊ b.cps.toList)/\↥b<=4000/\(∀x∈b.cps.toList,x<1114112)/\u6 cs b c
def u6.cls(h:u6 cs z c):c="NoMark"\/c="NoOrder":=by
 obtain⟨_,_,_,_,_,_,_,_,⟨h,_⟩|⟨_,_,_,h,_⟩⟩:=h
 .show .inl h
 .show .inr h
inductive aaH(mg:MG):Sp
 |mk (a:δ) (z b c:Str) (cs:List ο):vs=[.ref a,.str z]->aj H a cs->z=b++μ "."++ϝ (ϊ b.cps.toList)->↥b<=4000->(∀x∈b.cps.toList,x<1114112)->u6 cs b c->(∀d H',ζ H H'->d.1=none->E (.ref (η mg "NoMark")) d H')
def afw:Def 9 "read_mark" ["columns","text"] (aaH mg):=by
 exists tK,wL,D,#[a,z,b,c,cs,rfl,v,rfl,x,n,f,q],2,G.Dq,1,I ahs,J wD;let L:=j6 b.cps.toList;let y:=wY (ϊ b.cps.toList);let M:↥(".":Str)=1:=by fin2
 let ep:Txt.rpartition (b++μ "."++ϝ (ϊ b.cps.toList)) #[#v[46]]=(b,#[#v[46]],ϝ (ϊ b.cps.toList)):=by
  let e:(b++μ "."++ϝ (ϊ b.cps.toList)).cps.toList=b.cps.toList++46::(ϝ (ϊ b.cps.toList)).cps.toList:=by
   rw[aJ,aJ,show(".":Str).cps.toList=[46]from by fin2,api];rfl
  let g:∀z:Str,(#[z.cps.toList.toArray]:Str)=z:=λz=>by
   let#[#[l]]:=z;rfl
  rw[JH e y.1,g,g]
 w_up;show dw ?_*>bU PySem.F.plainAttrs_str PySem.F.slot_str_rpartition PySem.F.type_str_rpartition (h:=?_)>>=Gz (c:=46) (by rw[len_app,len_app];omega) λt B=>?_
 rw[ep];show EG _ _ _ _ (upd H t (.tup [.str b,.str #[#v[46]],.str (ϝ (ϊ b.cps.toList))])) _*>ϟ (Δ.of υ) (Η (ω nd (Η (ω nd (Η (ω nd (Ϣ ?_)))))));let j:ζ H (upd H t (.tup [.str b,.str #[#v[46]],.str (ϝ (ϊ b.cps.toList))])):=ζ.upd B;generalize upd H t (.tup [.str b,.str #[#v[46]],.str (ϝ (ϊ b.cps.toList))])=H1 at j⊢;w_up;show Θ ?_>>=gC ?_>>=#[b,rfl,(),n,?_];generalize ϝ (ϊ b.cps.toList)=O;lk;show aY (λh=>absurd rfl h) (λ_=>?_)*>Γ ?_;f_len;show vR (λ_ cls d H'=>cls=.ref (η mg c)/\ζ H1 H'/\d=(none,true)) rfl rfl (λF pn xo po=>?_) (λσ cls d H' C=>?_)
 .f_len;show ρ ?_>>=#[a,b,cs,c,rfl,x,v.same j,f,λH' m=>#[rfl,m,rfl]]
 let#[rfl,m,hd]:=C;let p:mg "NoOrder"=↑(.ref (η mg "NoOrder")):=T.rC.at_;let s:mg "NoSieve"=↑(.ref (η mg "NoSieve")):=T.Bq.at_;let gV:mg "NoValue"=↑(.ref (η mg "NoValue")):=T.vh.at_;let o:=oH T 0 3 rfl rfl;let i:=oH T 0 9 rfl rfl;let u:=oH T 0 2 rfl rfl;obtain rfl|rfl:=f.cls
 .show alP (by rfl) p (by decide) (by rfl) s (by decide) (by rfl) gV (by decide) (Ue (vN T.xX T.rC (oH T 5 3 rfl rfl) o) (vN T.xX T.Bq (oH T 5 9 rfl rfl) i) (vN T.xX T.vh (oH T 5 2 rfl rfl) u)) ?_*>akL Β rfl ?_*>q _ _ (j<|>m) (by rw[hd])
 .show ajY Β rfl rfl (by rfl) p (by decide) (by rfl) s (by decide) (by rfl) gV (by decide) (Ue (V0 T.rC) (vN T.rC T.Bq (oH T 3 9 rfl rfl) i) (vN T.rC T.vh (oH T 3 2 rfl rfl) u)) T.zN (by rfl) (by decide) ?_*>q _ _ (j<|>m) rfl
inductive RM(mg:MG):Sp
 |mk (a:δ) (z:Str):vs=[.ref a,.str z]->↥z<=100000->(∀c∈z.cps.toList,c<1114112)->El z->(∀H',ζ H H'->E (.ref (η mg "NoMark")) (none,true) H')
def agy:Def 3 "read_mark" ["columns","text"] (RM mg):=by
 exists tK,wL,n,#[a,z,rfl,o,g,i,q],2,p.Dq,1,s wD;w_up;show dw ?_*>bU F.plainAttrs_str F.slot_str_rpartition F.type_str_rpartition (h:=?_)>>=Gz (c:=46) () λt l=>?_
 obtain i|⟨b,w,j,m,ne⟩:=i
 .rw[akY i];show EG _ _ _ _ (upd H t (.tup [.str alg,.str alg,.str z])) _*>ϟ (Δ.of υ) (Η (ω nd (Η (ω nd (Η (ω nd (Ϣ ?_)))))));let e:ζ H (upd H t (.tup [.str alg,.str alg,.str z])):=ζ.upd l;generalize upd H t (.tup [.str alg,.str alg,.str z])=H1 at e⊢;w_up;show Θ ?_>>=Μ (λ_=>?_) (λh=>absurd (by fin2) h);f_len;show dW Β T.zN ?_;cbv;show#[by rw[hsz];simp,q H1 e]
 .rw[JH j m];let u:=_L.len_list z;let v:↥b<=100000:=by
   have:=congrArg aqJ j;rw[adz]at this;omega
  show EG _ _ _ _ (upd H t (.tup [.str #[b.toArray],.str #[#v[46]],.str #[w.toArray]])) _*>ϟ (Δ.of υ) (Η (ω nd (Η (ω nd (Η (ω nd (Ϣ ?_)))))));let e:ζ H (upd H t (.tup [.str #[b.toArray],.str #[#v[46]],.str #[w.toArray]])):=ζ.upd l;generalize upd H t (.tup [.str #[b.toArray],.str #[#v[46]],.str #[w.toArray]])=H1 at e⊢;w_up;show Θ ?_>>=gC ?_>>=#[#[b.toArray],rfl,by show b.toArray.size<=_;simp;omega,λc hc=>g c (by rw[j];show aiP _ (~~~hc)),?_];let f:(#[w.toArray]:Str)≠ϝ (ϊ (#[b.toArray]:Str).cps.toList):=λh=>ne (by rw[<-show(#[b.toArray]:Str).cps.toList=b from rfl, <-h])
  generalize ϝ (ϊ (#[b.toArray]:Str).cps.toList)=x at f⊢;lk;show aY (λ_=>?_) (λh=>absurd (V.str.inj h) f);f_len;show dW Β T.zN ?_;cbv;show#[by rw[hsz];simp,q H1 e]
def Lt(mg:MG)(B:Bk)(H:Hp)(E:XK):=∀e H',ζ H H'->H' e=↑(.xd [("now",.int B.now)])->E (.ref (η mg "Later")) (↑e,true) H'
theorem Lt.same(h:Lt mg B H E)(s:ζ H H'):Lt mg B H' E:=λe H2 a c=>h e H2 (s<|>a) c
inductive Pq(mg:MG):Sp
 |mk (A:BA) (B:Bk) (M:Mk):vs=[.ref A.b,.str (bF M)]->Κ (cB mg) H A B->ϗ B.heads=true->bQ B.heads M->B.now.natAbs<10^60->(B.now<(M.moment:Nat)->Lt mg B H E)->((M.moment:Nat)<=B.now->∀p o v H',ζ H H'->H' p=↑(.tup [.str (ϖ M.living),.int M.moment,.ref o,.str M.sieve,v])->eQ H' o M.os->Q (.ref p) H')
def uv:Def 53 "read_good_mark" ["book","text"] (Pq mg):=by
 show Ζ (S:=yr) T.uv (λf W Y outer s H vs Q E j h=>?_);intro X _;let#[A,B,M,rfl,a,hok,l,m,n,q]:=h;let nd:=yr.nd;let Z:=!wL;let M2:Ψ P w K mg base true 1 (cB mg) "moment" ["self"] (iM mg Bk.now):=(za T).meth T.ώ T.yU;let u:Ψ P w K mg base true 1 (cB mg) "columns" ["self"] (cI mg):=(lH T).meth T.ώ T.lA;w_up;generalize x:bF M=z;f_tup;lk;show aA (pl:=_) j Β ?_;f_are;show#[A.b,cB mg,A.dx,_,true,1,_,cI mg,rfl,a.ins,by rfl,u,by decide,id,A,B,rfl,a,λc H1 y C D=>?_]>>=#[c,M,B.heads,by rw[x],D,hok,l,λp o F k v H2 G hp Mp I J hk L hv _=>?_];let g:=y<|>G;w_up;show Θ ?_>>=gZ (Δ.of hp) (i:=1) rfl ?_>>=aA (pl:=_) j Β ?_;f_are;show#[A.b,cB mg,A.dx,_,true,1,_,iM mg Bk.now,rfl,(a.same g).ins,by rfl,M2,by decide,id,A,B,rfl,a.same g,?_]>>=Μ (λh=>?_) (λh=>?_)
 .f_len;show qF (QK T (cc:=true)) j (λ_=>rfl) Β ?_>>=aA (pl:=_) j Β ?_;f_are;show#[A.b,cB mg,A.dx,_,true,1,_,iM mg Bk.now,rfl,(a.same g).ins,by rfl,M2,by decide,id,A,B,rfl,a.same g,?_]>>=#[B.now,rfl,m,λe O R U=>n h e O (g<|>R) U]
 show Γ ?_;symm;lk;show q () p o (.ref F) H2 g hp I
def rE(mg:MG)(H:Hp)(E:XK):=∀d H',ζ H H'->d.1=none->E (.ref (η mg "NoMark")) d H'
theorem rE.same(h:rE mg H E)(s:ζ H H'):rE mg H' E:=λd H2 a hd=>h d H2 (s<|>a) hd
inductive aaJ(mg:MG):Sp
 |mk (A:BA) (B:Bk) (z:Str):vs=[.ref A.b,.str z]->Κ (cB mg) H A B->↥z<=100000->(∀c∈z.cps.toList,c<1114112)->vZ B.heads z->rE mg H E
def ZW:Def 54 "read_good_mark" ["book","text"] (aaJ mg):=by
 show Ζ (S:=yr) T.uv (λf y C outer s H vs Q E l h=>?_);intro X _;let#[A,B,z,rfl,a,o,e,g,q]:=h;let nd:=yr.nd;let m:Ψ P w K mg base true 1 (cB mg) "columns" ["self"] (cI mg):=(lH T).meth T.ώ T.lA;obtain p|⟨b,c,u,h1,h2,v⟩:=g
 .let D1:= @agy P w K mg base T;k_go;show aA (pl:=_) l Β ?_;f_are;show#[A.b,cB mg,A.dx,_,true,1,_,cI mg,rfl,a.ins,by rfl,m,by decide,id,A,B,rfl,a,λc H1 i j n=>?_]>>=#[c,z,rfl,o,e,p,λH' s'=>q _ H' (i<|>s') rfl]
 .let D1:= @afw P w K mg base T;k_go;show aA (pl:=_) l Β ?_;f_are;show#[A.b,cB mg,A.dx,_,true,1,_,cI mg,rfl,a.ins,by rfl,m,by decide,id,A,B,rfl,a,λx H1 i j n=>?_]>>=#[x,z,b,c,B.heads,rfl,n,u,h1,h2,v,λd H' s' hd=>q d H' (i<|>s') hd]
inductive vA(K:ϩ)(mg:MG)(t:Tr):Sp
 |mk (A:BA) (B:Bk) (M:Mk) (n:Int):vs=[.ref A.b,.str (bF M),.int n]->dF mg H A B->bQ B.heads M->M.sieve=b7 B t->dR B.heads M.os->iY B.heads t->H (aP K "sorted_by")=↑(.tbl cX)->n.natAbs<10^60->((M.moment:Nat)<=B.now->(M.living=false->B.known<=(M.moment:Nat))->¬sizeOk n)->(B.now<(M.moment:Nat)->Lt mg B H E)->((M.moment:Nat)<=B.now->(M.living=false->(M.moment:Nat)<B.known->Gn mg B H E)/\((M.living=false->B.known<=(M.moment:Nat))->cG mg H E "NoSize"))
inductive uf(mg:MG):Sp
 |mk (A:BA) (B:Bk) (z:Str) (n:Int):vs=[.ref A.b,.str z,.int n]->Κ (cB mg) H A B->↥z<=100000->(∀c∈z.cps.toList,c<1114112)->vZ B.heads z->rE mg H E
def Ca(p:Ϟ K mg base "sorted_by")(t:Tr)(u:t.dep<=20):Def 54 "turn_forth" ["book","mark","size"] (vA K mg t):=by
 show Ζ (S:=aai) T.Ca (λf O R outer s H vs Q E U h=>?_);intro X _;let#[A,B,M,n,rfl,g,l,j,x,y,tb,C,m,D,q]:=h;let W:=!uv;let Y:Def P w K mg base true (10+2*t.dep) "leaf_from" ["book","mark","size","onward"] (qM K mg t true):=p8 T p t true;let F:=g.mm;unfold dN at F;symm;generalize G:bF M=z;lk;show#[A,B,M,by rw[G],g.bk,g.ok,l,(),D,λc mk o v H1 i e I=>?_];let#[J,L]:=q c;lk;rw[j]at e;show#[A,B,mk,o,v,M.os,M.living,(M.moment:Nat),n,rfl,g.same i,e,I,l.len,x,y,i<*tb,c,C,λk h=>absurd h (m c k),λa b=>(J a b).same i,λa _=>(L a).same i,λk h=>absurd h (m c k)]
def ajm(e:Ϟ K mg base "sorted_by"):Def 55 "turn_forth" ["book","mark","size"] (uf mg):=by
 show Ζ (S:=aai) T.Ca (λf j l outer s H vs Q E m h=>?_);intro X _;let#[A,B,z,n,rfl,g,i,a,c,q]:=h;let o:=!ZW;let p:Def P w K mg base true 52 "leaf_from" ["book","mark","size","onward"] (qL mg):=zm T e;symm;lk;show #[A,B,z,rfl,g,i,a,c,q]
def yu(p:Ϟ K mg base "sorted_by")(t:Tr)(u:t.dep<=20):Def 54 "turn_back" ["book","mark","size"] (vA K mg t):=by
 show Ζ (S:=Zi) T.yu (λf O R outer s H vs Q E U h=>?_);intro X _;let#[A,B,M,n,rfl,g,l,j,x,y,tb,C,m,D,q]:=h;let W:=!uv;let Y:Def P w K mg base true (10+2*t.dep) "leaf_from" ["book","mark","size","onward"] (qM K mg t false):=p8 T p t false;let F:=g.mm;unfold dN at F;symm;generalize G:bF M=z;lk;show#[A,B,M,by rw[G],g.bk,g.ok,l,(),D,λc mk o v H1 i e I=>?_];let#[J,L]:=q c;lk;rw[j]at e;show#[A,B,mk,o,v,M.os,M.living,(M.moment:Nat),n,rfl,g.same i,e,I,l.len,x,y,i<*tb,c,C,λk h=>absurd h (m c k),λa b=>(J a b).same i,λa _=>(L a).same i,λk h=>absurd h (m c k)]
def adm(e:Ϟ K mg base "sorted_by"):Def 55 "turn_back" ["book","mark","size"] (uf mg):=by
 show Ζ (S:=Zi) T.yu (λf j l outer s H vs Q E m h=>?_);intro X _;let#[A,B,z,n,rfl,g,i,a,c,q]:=h;let o:=!ZW;let p:Def P w K mg base true 52 "leaf_from" ["book","mark","size","onward"] (qL mg):=zm T e;symm;lk;show #[A,B,z,rfl,g,i,a,c,q]
def afk(h:↥xs<=100):bL xs ↑0 ↑(0+100)=xs:=by
 unfold bL;rw[show↑(0:Int)=↑((0:Nat):Int)from rfl,show(0:Int)+100=((100:Nat):Int)from rfl,_H.jc,_H.jc,ama (aim _),arE h,akR];show agH (Ϭ _)
inductive GR(K:ϩ)(mg:MG)(t:Tr):Sp
 |mk (A:BA) (B:Bk) (zo:Str) (os:List Ord):vs=[.ref A.b,.str zo,.str (b7 B t),.int 100,.int 0]->dF mg H A B->↥zo<=4000->ϕ B.heads zo=↑os->↥os<=4->dR B.heads os->iY B.heads t->H (aP K "sorted_by")=↑(.tbl cX)->vO B os t H Q
theorem aj6{rows:List Row}(h:(rows.map Prod.fst).Nodup):((rows.filter f).map Prod.fst).Nodup:=List.Nodup.sublist (List.Sublist.map _ (amx ..)) h
def Ku(hN:Ϟ K mg base "sorted_by")(t:Tr):Def (10+2*t.dep) "leaf_by_place" ["book","order","sieve","size","number"] (GR K mg t):=by
 rw[show 10+2*t.dep=(9+2*t.dep)+1 by omega];show Ζ (S:=Z3) T.Ku (λf Ϲ A' outer s H vs Q E a h=>?_);intro X _;let#[A,B,zo,os,rfl,F,bD,kY,Cu,ϻ,Z,hP,q]:=h;let D:=F.bk;let hok:=F.ok;let aa:=F.r1;let G:=F.nd;let I:=λr a=>(F.fit r a).1
 let n:=Z.gt;let ab:=Z.dp;let VM:=Z.vz;let nd:=Z3.nd;let n1:=T.bY;let n2:=T.Mu;let hsz:=ϯ;let#[c1,c6]:=KR hok;let bB:(["row","values"]:List Str).Nodup:=by fin2
 let D1:=!mX;let D2:= @zM P w K mg base T t;let D3:=!vM;let D4:= @v8 P w K mg base T t;let D5:Def P w K mg base true 8 "line_of" ["columns","order","rows"] (wz K):=uB T hN;let M1:Ψ P w K mg base true 2 (cB mg) "now_rows" ["self"] (tL mg):=(Py T).meth T.ώ T.N8;let M2:Ψ P w K mg base true 1 (cB mg) "moment" ["self"] (iM mg Bk.now):=(za T).meth T.ώ T.yU;let M3:Ψ P w K mg base true 1 (cB mg) "columns" ["self"] (cI mg):=(lH T).meth T.ώ T.lA;let hw:=uW hok n;let fH:χ 32 (b7 B t)=wT (Υ B.heads) t:=sJ (zP (Υ B.heads) t) λz hz=>(hw z hz).2.1
 let qw:↥(b7 B t)<=3000:=by
  let h1:=rZ (wT (Υ B.heads) t) 21 λp hp=>(hw p hp).1
  let h2:=pY (wT (Υ B.heads) t);show(ϭ " " (wT (Υ B.heads) t)).length<=3000;omega
 let ac:Reads B.heads (wT (Υ B.heads) t) t 0 ↥(wT (Υ B.heads) t):=by
  have:=vC hok (ws:=wT (Υ B.heads) t) (t:=t) (s:=0) #[[],by simp] () n;rw[anF]at this;show this
 w_up;f_tup;show aA (pl:=_) a Β ?_;f_are;show#[A.b,cB mg,A.dx,_,true,1,_,cI mg,rfl,D.ins,by rfl,M3,(),id,A,B,rfl,D,λc H1 s1 hc0 hC=>?_];k_go;show#[c,B.heads,zo,rfl,hC,bD,(λH' _ e=>by rw[kY]at e;cases e),λb os' H2 s2 e hb0 hO=>?_];rw[kY]at e;cases e;let ύ:=s1<|>s2;k_go;show#[c,B.heads,_,rfl,hC.same s2,qw,by rw[fH];show λy hy=>by have:=(hw y hy).1;omega,ab,by rw[fH];show ac,λv H3 s3 hv=>?_];generalize eO (χ 32 (b7 B t)) 0 ↥(χ 32 (b7 B t))=zz at hv;let Ι :=ύ<|>s3;w_up;show Ϡ ?_;lk;show#[100,rfl,by decide,λ_=>?_,λh=>absurd #[by decide,by decide] h];k_go;show aA (pl:=_) a Β ?_;f_are;show#[A.b,cB mg,A.dx,_,true,2,_,tL mg,rfl,(D.same Ι).ins,by rfl,M1,(),id,A,B,rfl,D.same Ι,aa,λp1 ys ks H4 s4 hp1 ae hso wA g=>?_];let i:=Eh G ae;let mQ:kZ H4 p1 (cP B.rows ks):=#[ys,wA,g.imp λu r z=>by
  let#[t,l,e,h1,h2,_]:=z;show#[t,l,e,h1,h2]]
 generalize cP B.rows ks=m at i mQ;let hrs:↥m=↥B.rows:=i.length_eq;let J:∀r∈m,bx B.heads r:=λr a=>I r (i.mem_iff.mp a)
 lk;show#[v,p1,zz,m,rfl,hv.same s4,mQ,(),λr a=>wg (J r a) n,λp2 nH H5 s5 hp2 L af=>?_];let Lh:=s4<|>s5;let gM:=Ι<|>Lh;let R8:kZ H5 p2 (m.filter λr=>ϙ r.2 t):=#[nH,L,af.imp λu r z=>z.row s5];let M:(m.filter λr=>ϙ r.2 t).Perm (B.rows.filter λr=>ϙ r.2 t):=i.filter _;let ag:↥(m.filter λr=>ϙ r.2 t)<=↥m:=ahq ..;let ah:(m.map Prod.fst).Nodup:=(i.map Prod.fst).nodup_iff.mpr G;let O:((m.filter λr=>ϙ r.2 t).map Prod.fst).Nodup:=aj6 ah;let R1:∀r∈m.filter λr=>ϙ r.2 t,bx B.heads r:=λr a=>J r (aiB.mp a).1
 generalize m.filter (λr=>ϙ r.2 t)=fs at R8 M ag O R1;lk;show#[c,b,p2,B.heads,os,fs,rfl,hC.same ((s2<|>s3)<|>Lh),hO.same (s3<|>Lh),R8,c6,(),ϻ,(),R1,O,gM<*hP,λln lw ls H6 s6 HF yD uE hL cz=>?_];let lR:=gM<|>s6;let Fy:=cz<|>M;let Fg:=uE.len;let hll:↥ls=↥fs:=cz.length_eq;w_up;f_tup;let Lg:θ K H6 ln lw:=θ.of yD;lk;show Pg (by rfl) ?_;rw[show(if(↥lw:Int)<0*100 then(↥lw:Int)else 0*100)=0 by rw[if_neg ()];rfl];w_up;show sG ["row","values"] (σ':=[none,none]) (b8 (ς KJ)) nd ?_>>=eN Lg λp3 ai=>?_
 rw[afk ()];let#[Y,e7,H6,p3,H7]:=Ρ ai (.lst lw);let Cj:=lR<|>Y;show#[p3,lw,rfl,θ.of e7,(),λτ=>∃o1 o2,τ=[o1,o2],λE2 j u H'=>u≠.ref E2/\∃r t l,ls[j]?=↑r/\u=.ref t/\H' t=↑(.tup [.int r.1,.ref l,.bl true])/\H6 l=↑(.lst r.2),#[none,none,rfl],λE2 j u H2 H3 ys hE hk p=>?_,λfp E2 C R H8 j τ x H6' H7' aR hi ak lF g hG=>?_,λq1 H8 us hq1 hl8 al e8 s8=>?_]
 .let#[h0,r,t,l,a,e,h1,h3]:=p;show#[h0,r,t,l,a,e,hk _ _ (λz=>h0 (by rw[e,z])) h1,h3]
 .let#[o1,o2,rfl]:=ak;let#[bh,rfl]:=hG;let#[r,a,tr,lr,rfl,al8,abP,_,am,an]:=uE.get bh;let#[ys,g]:=g;show ϟ (Δ.of ((Y<|>lF)<*am)) (Η (ω bB (Η (ω bB (Ϣ ?_)))))>>=#[Ξ,λt2 dO=>?_]*>#[#[_,_,rfl],#[λz=>?_,r,t2,lr,a,rfl,υ,an],ζ.upd dO];injection z with z
  rw[z,g]at dO;cases dO
 let Dz:=Cj<|>s8;let Qa:=Y<|>s8;symm;let sq8:θ K H8 ln lw:=Qa.seq Lg;lk;show aA (pl:=_) a Β ?_;f_are;show#[A.b,cB mg,A.dx,_,true,1,_,iM mg Bk.now,rfl,(D.same Dz).ins,by rfl,M2,(),id,A,B,rfl,D.same Dz,?_]>>=#[Ξ,λp9 ar=>?_];let R:=ζ.upd (o:=.tup [.ref q1,.non,.non,.int (↥lw:Nat),.int 0,.int B.now]) ar;show q p9 ls _ (Dz<|>R) hL Fy #[q1,by rw[υ,Fg],us,R<*e8,mK (by rw[ϰ];omega) λj r' U=>?_];rw[acS]at U;let#[r,a,rfl]:=ahh.mp U;let hj:j<↥us:=by have:=(aas.mp a).1;omega
 let#[_,r2,t2,l2,W,e,h1,h3]:=al j _ (aad hj);rw[a]at W;cases W;show#[_,aad hj,t2,l2,e,R<*h1,(Qa<|>R)<*h3]
inductive Oq(mg:MG):Sp
 |mk (A:BA) (B:Bk) (zo z:Str) (mo:Int):vs=[.ref A.b,.str zo,.str z,.int mo]->Κ (cB mg) H A B->↥zo<=4000->(ϕ B.heads zo=none->cG mg H E "NoOrder")->(ϕ B.heads zo≠none->∃k,jH B.heads z k/\fM mg H E k)
def ajZ:Def 52 "stood" ["book","order","sieve","moment"] (Oq mg):=by
 show Ζ (S:=yR) T.yo (λf y C outer s H vs Q E m h=>?_);intro X _;let#[A,B,n,z,mo,rfl,a,o,p,q]:=h;let nd:=yR.nd;let D:=!mX;let F:=!Vz;let u:Ψ P w K mg base true 1 (cB mg) "columns" ["self"] (cI mg):=(lH T).meth T.ώ T.lA;w_up;f_tup;show aA (pl:=_) m Β ?_;f_are;show#[A.b,cB mg,A.dx,_,true,1,_,cI mg,rfl,a.ins,by rfl,u,(),id,A,B,rfl,a,λc H1 g v i=>?_];k_go;show#[c,B.heads,n,rfl,i,o,λH' s' e=>p e H' (g<|>s'),λb os H2 j e x G=>?_];let#[k,l,q]:=q (by rw[e];simp);k_go;show#[c,B.heads,z,k,rfl,i.same j,l.len,l.no,q.same (g<|>j)]
inductive YZ(K:ϩ):Sp
 |mk (a:δ) (ws:List V) (n:Nat):vs=[.ref a,.int (n:Nat)]->θ K H a ws->n<=↥ws->Q .non H
def gR:Def 1 "ask_words" ["words","least"] (YZ K):=by
 exists ["words","least"],gR,c,#[a,ws,n,rfl,e,f,q],n1.bY;f_len;show Θ ?_;lk;rw[decide_eq_false (show ¬((↥ws:Nat):Int)<((n:Nat):Int)by omega)];show Γ q
def ajV(c:0<=i)(h:i<=m):dY (ι i).cps.toList m=↑i:=by
 let#[n,rfl]:=aeo c;let#[a,b]:=vV n;unfold dY;rw[a,b,if_pos #[rfl,h]]
theorem bV(a:0<=i)(h:i<=9999999999):↥(ι i)<=19:=pB (i:=i) (k:=18) ()
inductive YL:Sp
 |mk (i:Int):vs=[.str (ι i)]->0<=i->i<=9999999999->(∀H',ζ H H'->Q (.int i) H')
def iK:Def 4 "read_number" ["word"] YL:=by
 exists Ou,iK,j,#[i,rfl,a,c,q],2,l.agm,m qR;let e:=bV a c;generalize f:ι i=z at e;k_go;show#[z,9999999999,10,rfl,(),by decide,by decide,by fin2,by decide,by decide,by decide,λH1 g=>?_];rw[<-f,ajV a c];show Φ _ _ _ [↑_,↑(.int i)] _;w_up;show Θ ?_>>=Γ ?_;symm;lk;show q H1 g
inductive MK(K:ϩ):Sp
 |mk (a:δ) (i:Int):vs=[.ref a]->θ K H a [.str (ι i)]->0<=i->i<=9999999999->(∀H',ζ H H'->Q (.int i) H')
def Aa:Def 5 "read_only_number" ["words"] (MK K):=by
 exists ["words"],Aa,j,#[a,i,rfl,c,e,f,q],n1.bY,l iK;generalize g:ι i=z at c;w_up;show Θ ?_>>=Γ ?_;symm;lk;show ϐ c (show Ϛ [V.str z] 0=↑(.str z)from rfl) ?_>>=#[i,by rw[g],e,f,q]
structure LW(ws os ss:List Str):Prop where
 eq:ws=os++μ ":"::ss
 no:μ ":"∉os
 ne:1<=↥ss
 len:↥ws<=1000
 sh:∀z∈ws,↥z<=1000
inductive aaI(K:ϩ):Sp
 |mk (a:δ) (ws os ss:List Str):vs=[.ref a]->θ K H a (ws.map V.str)->LW ws os ss->(∀p H',ζ H H'->H' p=↑(.tup [.str (ϭ " " os),.str (ϭ " " ss)])->Q (.ref p) H')
def pC:Def 2 "read_list" ["words"] (aaI K):=by
 exists Lz,pC,G,#[a,ws,os,f,rfl,g,c,q],2,I.PX,1;let o:↥(" ":Str)=1:=by fin2
 let J:=!gR;let u:ws[↥os]?=↑(":":Str):=by rw[c.eq];simp
 w_up;show Θ ?_>>=ajD g (by rfl) (by rw[as4];show aeN.mpr λ_ _=>rfl) ?_;let C:fL (.str (":":Str)) (ws.map V.str)=true:=by
  unfold fL;show amJ.mpr #[_,akd (abD u),by simp[fZ]]
 rw[C];lk;show Γ ?_;w_up;f_tup;show bU F.plainAttrs_list F.slot_list_index F.type_list_index (h:=?_);f_are;show#[.inl #[rfl,_,g],?_]>>=ae3 g u (λm y h e z=>?_) ?_
 .rw[c.eq,aiZ h]at e;show c.no (z▸abD e)
 let D:↥ws=↥os+1+↥f:=by rw[c.eq];simp;omega
 let L:=c.ne;let v:=c.len;w_up;show Ϡ ?_>>=#[a,_,↥os+2,by simp,g,by rw[ϰ];omega,?_];symm;lk;show eN g λp1 i=>?_
 let c1:bL (ws.map V.str) none ↑((↥os:Nat):Int)=os.map V.str:=by
  unfold bL;rw[_H.jc,ama (by rw[ϰ];omega),c.eq];show((os++μ ":"::f).map V.str).take (↥os-0)=_;rw[ari,ahZ];show List.take_left' (by simp)
 rw[c1];let#[j,e1,H,p1,H1]:=Ρ i (.lst (os.map V.str));lk;let j1:=iH (l:=os) λz h=>c.sh z (by rw[c.eq];show aiP _ h)
 let M:=iH (l:=f) λz h=>c.sh z (by rw[c.eq];show aet _ (acw _ h))
 show iV (θ.of e1) (by rw[o];omega) ?_>>=eN (j.seq g) λp2 n=>?_
 let c2:bL (ws.map V.str) ↑(((↥os:Nat):Int)+1) none=f.map V.str:=by
  unfold bL;rw[show((↥os:Nat):Int)+1=((↥os+1:Nat):Int)by omega,_H.jc,ama (by rw[ϰ];omega),c.eq];show(((os++μ ":"::f).map V.str).drop (↥os+1)).take (↥((os++μ ":"::f).map V.str)-(↥os+1))=_;rw[show(os++μ ":"::f).map V.str=((os++[μ ":"]).map V.str)++f.map V.str by simp,List.drop_left' (by simp)];show agH (by simp;omega)
 rw[c2];let#[x,B,H1,p2,H2]:=Ρ n (.lst (f.map V.str));lk;show iV (θ.of B) (by rw[o];omega) ?_>>=#[Ξ,λp hp=>?_]*>q p _ ((j<|>x)<|>(ζ.upd hp)) υ
inductive Za:Sp
 |mk (p:δ) (L:lZ):vs=[.ref p]->Ji H p L->En L->↥(lU L)<=1000->(∀z∈lU L,↥z<=1000)->(∀H',ζ H H'->Q (.str (ϭ "\n" (lU L))) H')
def oX:Def 5 "page_text" ["leaf"] Za:=by
 exists ["leaf"],oX,l,#[p,L,rfl,hp,c,e,a,q];let f:↥("\n":Str)=1:=by fin2
 let hsz:=ϯ;let j1:=iH a;let m:=!Jz;symm;lk;show #[p,L,rfl,hp,c,λn H1 g i j=>?_]>>=iV (θ.of j) (by rw[f];omega) (q H1 g)
abbrev cD(mg:MG):δ:=η mg "Desk"
structure bN(mg:MG)(H:Hp)(d dx:δ)(v:V):Prop where
 ins:H d=↑(.ins (cD mg) dx [("book",v)])
 own:H dx=↑(.own d)
theorem bN.same(h:bN mg H d dx v)(s:ζ H H'):bN mg H' d dx v:=#[s<*h.ins,s<*h.own]
inductive bj(mg:MG):Sp
 |mk (d dx b:δ):vs=[.ref d]->bN mg H d dx (.ref b)->Q (.ref b) H
def jP:FD 1 "standing" "Desk.standing" Nr ["self"] (bj mg):=by
 show ϡ (N:=["self"]) (λf a c outer s H vs Q E e h=>?_);intro X _;let#[d,dx,b,rfl,hd,q]:=h;let hc:=T.au;w_up;show Θ ?_>>=aQ ?_;f_are;show#[d,_,_,_,_,rfl,hd.ins,hc,T.Cd,rfl,?_]>>=Γ ?_;f_len;show ρ (aQ ?_);f_are;show#[d,_,_,_,_,rfl,hd.ins,hc,T.Cd,rfl,q]
theorem zg(s:ζ H H1)(o:Out fp H1 H2):Out fp H H2:=λb u a e=>o b u a (s<*e)
inductive Lr(K:ϩ)(mg:MG):Sp
 |mk (d dx a:δ) (A:BA) (B:Bk) (i:Int):vs=[.ref d,.ref a]->θ K H a [.str (ι i)]->0<=i->i<=9999999999->bN mg H d dx (.ref A.b)->Κ (cB mg) H A B->oM B->qT B->dN B->(Ε B.rows i=none->∀e H',ζ H H'->H' e=↑(.xd [("row",.int i)])->E (.ref (η mg "Absent")) (↑e,true) H')->(Ε B.rows i≠none->∀H',Out A.fp H H'->Κ (cB mg) H' A (aG B i none)->Q (.str (ι (B.now+1))) H')
def TJ:FD 6 "take_out" "Desk.take_out" JK ["self","words"] (Lr K mg):=by
 show ϡ (S:=aaa) (λf F G outer s H vs Q E m h=>?_);intro X _;let#[d,dx,a,A,B,i,rfl,p,u,v,hd,x,j,l,y,z,q]:=h;let nd:=aaa.nd;let n1:=T.cY;let I:=!Aa;let M1:Ψ P w K mg base true 1 (cD mg) "standing" ["self"] (bj mg):=(jP T).meth T.au T.ju;let M2:Ψ P w K mg base true 4 (cB mg) "take" ["self","row"] (yE mg):=(anO T).meth T.ώ T.aeD;k_go;show#[a,i,rfl,p,u,v,λH1 g=>?_];let c:=hd.same g;let n:=x.same g;symm;lk;show ϛ (pl:=_) m Β (h:=?_)*>aA (pl:=_) m Β ?_;f_are;show#[d,cD mg,dx,_,true,1,_,bj mg,rfl,c.ins,by rfl,M1,by decide,id,d,dx,A.b,rfl,c,?_]*>#[A.b,cB mg,A.dx,_,true,4,_,yE mg,rfl,n.ins,by rfl,M2,by decide,id,?_]>>=#[A,B,i,rfl,n,(),j,l,λh e H' s' C=>z h e H' (g<|>s') C,λh H' o D=>?_]>>=bO (_V.Ϥ (by unfold dN at y;omega)) (q h H' (zg g o) D)
inductive GF(K:ϩ)(mg:MG):Sp
 |mk (d dx a:δ) (A:BA) (B:Bk) (i:Int):vs=[.ref d,.ref a]->θ K H a [.str (ι i)]->0<=i->i<=9999999999->bN mg H d dx (.ref A.b)->Κ (cB mg) H A B->dN B->(B.now<i->Lt mg B H E)->(i<=B.known->∀H',ζ H H'->Q (.str "ok") H')->(B.known<i->i<=B.now->∀dd H',H dd=none->Out [A.b] H H'->Κ (cB mg) H' {A with d:=dd} {B with done:=B.done.drop (i-B.known).toNat,known:=i}->Q (.str "ok") H')
def Tg:FD 6 "let_moments_go" "Desk.let_moments_go" Jj ["self","words"] (GF K mg):=by
 show ϡ (S:=T9) (λf F G outer s H vs Q E l h=>?_);intro X _;let#[d,dx,a,A,B,i,rfl,n,p,q,hd,u,v,x,y,z]:=h;let nd:=T9.nd;let I:=T.XN;let J:=!Aa;let M1:Ψ P w K mg base true 1 (cD mg) "standing" ["self"] (bj mg):=(jP T).meth T.au T.ju;let M2:Ψ P w K mg base true 4 (cB mg) "let_go" ["self","moment"] (zf mg):=(ad5 T).meth T.ώ T.ade;k_go;show#[a,i,rfl,n,p,q,λH1 c=>?_];let g:=hd.same c;let m:=u.same c;w_up;show Ϡ ?_*>ϛ (pl:=_) l Β (h:=?_)*>aA (pl:=_) l Β ?_;f_are;show#[d,cD mg,dx,_,true,1,_,bj mg,rfl,g.ins,by rfl,M1,by decide,id,d,dx,A.b,rfl,g,?_]*>#[A.b,cB mg,A.dx,_,true,4,_,zf mg,rfl,m.ins,by rfl,M2,by decide,id,?_]>>=#[A,B,i,rfl,m,v,λh=>?_,λh e H' s' C=>x h e H' (c<|>s') C,λh1 h2 dd H' j o D=>?_]
 .f_len;show ρ ?_>>=y h H1 c
 .f_len;show ρ ?_>>=z h1 h2 dd H' (c.free j) (zg c o) D
inductive Qf(K:ϩ):Sp
 |mk (p q:δ) (cs:List ο) (xs:List V):vs=[.ref p,.ref q]->aj H p cs->H q=↑(.lst ((xs.map wordOf).map V.str))->↥cs<=1000->(∀c∈cs,c.2="number"\/c.2="text")->Α (λc x=>aL c.2 x) cs xs->(∀r H',ζ H H'->H r=none->H' r=↑(.lst xs)->Q (.ref r) H')
def Ih:Def 7 "read_row_values" ["columns","words"] (Qf K):=by
 exists R4,Ih,x,#[p,i,cs,xs,rfl,j,l,e,m,a,q],2,y Ko,z Ac;f_len;show vR (λσ c d H'=>False) rfl rfl (λF pn xo po=>?_) (λσ c d H' n=>n.elim);symm;lk;show #[p,cs,rfl,j,(),λr H1 f o g=>?_]>>=#[r,i,cs,xs,rfl,g,f<*l,e,m,a,λs H2 u v h1=>q s H2 (f<|>u) (f.free v) h1]
def rO(x:V)(l:List V):bL (x::l) ↑1 none=l:=by
 unfold bL;rw[show↑(1:Int)=↑((1:Nat):Int)from rfl,_H.jc,ama (by simp)];show(l.drop 0).take (↥(x::l)-1)=l;rw[akR];show agH (by simp)
inductive Af(K:ϩ)(mg:MG):Sp
 |mk (d dx a:δ) (A:BA) (B:Bk) (i:Int) (xs:List V) (pt:Bool):vs=[.ref d,.str (if pt then "put" else "change"),.ref a]->H a=↑(.lst (.str (ι i)::(xs.map wordOf).map V.str))->1<=↥xs->0<=i->i<=9999999999->bN mg H d dx (.ref A.b)->Κ (cB mg) H A B->↥B.heads<=6->(∀c∈B.heads,c.2="number"\/c.2="text")->Α (λc x=>aL c.2 x) B.heads xs->(∀x∈xs,scalar x=true/\short x)->oM B->dN B->(dG B.heads (.int i) xs=false->cG mg H E "NoRow")->(dG B.heads (.int i) xs=true->pt=true->Ε B.rows i≠none->∀e H',ζ H H'->H' e=↑(.xd [("row",.int i)])->E (.ref (η mg "Twice")) (↑e,true) H')->(dG B.heads (.int i) xs=true->pt=false->Ε B.rows i=none->∀e H',ζ H H'->H' e=↑(.xd [("row",.int i)])->E (.ref (η mg "Absent")) (↑e,true) H')->(dG B.heads (.int i) xs=true->(Ε B.rows i=none↔pt=true)->∀H',Out A.fp H H'->Κ (cB mg) H' A (aG B i ↑xs)->Q (.str (ι (B.now+1))) H')
def YK:FD 8 "put_or_change" "Desk.put_or_change" Dw ["self","verb","words"] (Af K mg):=by
 show ϡ (S:=Nb) (λf Ϲ A' outer s H vs Q E x h=>?_);intro X _;let#[d,dx,a,A,B,i,xs,pt,rfl,C,hx1,i0,i1,hd,L,M,D,j,l,m,hm,O,qt,qa,q]:=h;let nd:=Nb.nd;let n1:=T.cY;let g1:=T.YQ;let D0:=!gR;let D1:=!iK;let D2:=!Ih;let M1:Ψ P w K mg base true 1 (cD mg) "standing" ["self"] (bj mg):=(jP T).meth T.au T.ju;let M2:Ψ P w K mg base true 6 (cB mg) "put" ["self","row","values"] (xF mg):=(afe T).meth T.ώ T.akS;let M3:Ψ P w K mg base true 6 (cB mg) "change" ["self","row","values"] (yK mg):=(ag5 T).meth T.ώ T.adX;let M4:Ψ P w K mg base true 1 (cB mg) "columns" ["self"] (cI mg):=(lH T).meth T.ώ T.lA;let F:θ K H a (.str (ι i)::(xs.map wordOf).map V.str):=θ.of C;let lb:↥((xs.map wordOf).map V.str)=↥xs:=by rw[ϰ,ϰ]
 generalize R:(if pt then μ "put" else μ "change")=vb;generalize hn:ι i=U at C F;w_up;show Ϡ ?_>>=#[a,_,2,rfl,F,by rw[acz,lb];omega,?_];k_go;show ϐ F (show Ϛ (V.str U::(xs.map wordOf).map V.str) ((0:Nat):Int)=↑(.str U)from bH rfl) ?_>>=#[i,by rw[hn],i0,i1,λH1 y=>?_];let n:=hd.same y;let W:=L.same y;w_up;f_tup;show aA (pl:=_) x Β ?_;f_are;show#[d,cD mg,dx,_,true,1,_,bj mg,rfl,n.ins,by rfl,M1,by decide,id,d,dx,A.b,rfl,n,?_];k_go;show aA (pl:=_) x Β ?_;f_are;show#[A.b,cB mg,A.dx,_,true,1,_,cI mg,rfl,W.ins,by rfl,M4,by decide,id,A,B,rfl,W,λc H2 Y hc0 hC=>?_]>>=eN (θ.of ((y<|>Y)<*C)) λp1 G=>?_
 rw[rO];let#[I,Z,H2,p1,H3]:=Ρ G (.lst ((xs.map wordOf).map V.str));lk;show#[c,p1,B.heads,xs,rfl,hC.same I,Z,(),D,j,λr H4 s4 hr0 O3=>?_];let g:=(y<|>Y)<|>I<|>s4;let z:=L.same g;let p:i.natAbs<10^60:=()
 let u:∀H',Out A.fp H4 H'->Κ (cB mg) H' A (aG B i ↑xs)->dG B.heads (.int i) xs=true->(Ε B.rows i=none↔pt=true)->CL X (.type "str") [.int (B.now+1)] H' Q:=λH' o v h1 h2=>bO (_V.Ϥ (by unfold dN at hm;omega)) (q h1 h2 H' (zg g o) v)
 w_up;show Θ ?_;lk;cases pt with
 |true=>
  cases R;show fG ?_;symm;lk;show ϛ (pl:=_) x Β (h:=?_);f_are;show#[A.b,cB mg,A.dx,_,true,6,_,xF mg,rfl,z.ins,by rfl,M2,by decide,id,?_]>>=#[A,B,i,r,xs,rfl,z,O3,M,l,p,m,λh H' s'=>O h H' (g<|>s'),λh1 h2 e H' s' J=>qt h1 rfl h2 e H' (g<|>s') J,λh1 h2 H' o v=>?_]>>=u H' o v h1 (by simp[h2])
 |false=>
  cases R;show gC ?_*>Γ ?_;symm;lk;show ϛ (pl:=_) x Β (h:=?_);f_are;show#[A.b,cB mg,A.dx,_,true,6,_,yK mg,rfl,z.ins,by rfl,M3,by decide,id,?_]>>=#[A,B,i,r,xs,rfl,z,O3,M,l,p,m,λh H' s'=>O h H' (g<|>s'),λh1 h2 e H' s' J=>qa h1 rfl h2 e H' (g<|>s') J,λh1 h2 H' o v=>?_]>>=u H' o v h1 (by simp[h2])
def jM(B:Bk)(a:List Row):lZ:=#[a.map λr=>(r.1,r.2,true),.non,.non,(↥a:Nat),0,B.now]
def CK(B:Bk)(t:Tr):=∀a:List Row,a.Perm (B.rows.filter λr=>ϙ r.2 t)->En (jM B a)/\↥(lU (jM B a))<=1000/\∀z∈lU (jM B a),↥z<=1000
def X5(B:Bk)(os:List Ord)(t:Tr)(H:Hp)(Q:VK):=∀a H',ζ H H'->Line B.heads os a->a.Perm (B.rows.filter λr=>ϙ r.2 t)->Q (.str (ϭ "\n" (lU (jM B a)))) H'
inductive abk(K:ϩ)(mg:MG)(t:Tr):Sp
 |mk (d dx a:δ) (A:BA) (B:Bk) (on lv:Bool) (n:Int) (ws os ss:List Str):vs=[.ref d,.str (if on then "first" else "last"),.ref a]->H a=↑(.lst (.str (ϖ lv):: .str (ι n)::ws.map V.str))->LW ws os ss->ϭ " " ss=b7 B t->↥(ϭ " " os)<=4000->0<=n->n<=9999999999->bN mg H d dx (.ref A.b)->dF mg H A B->iY B.heads t->H (aP K "sorted_by")=↑(.tbl cX)->CK B t->(ϕ B.heads (ϭ " " os)=none->cG mg H E "NoOrder")->(∀o,ϕ B.heads (ϭ " " os)=↑o->↥o<=4/\dR B.heads o/\(¬sizeOk n->cG mg H E "NoSize")/\(sizeOk n->n=100/\X5 B o t H Q))
inductive XX(mg:MG):Sp
 |mk (d dx a:δ) (A:BA) (B:Bk) (on lv:Bool) (n:Int) (ws os ss:List Str) (k:Nat):vs=[.ref d,.str (if on then "first" else "last"),.ref a]->H a=↑(.lst (.str (ϖ lv):: .str (ι n)::ws.map V.str))->LW ws os ss->jH B.heads (ϭ " " ss) k->↥(ϭ " " os)<=4000->0<=n->n<=9999999999->bN mg H d dx (.ref A.b)->Κ (cB mg) H A B->(ϕ B.heads (ϭ " " os)=none->cG mg H E "NoOrder")->(ϕ B.heads (ϭ " " os)≠none->fM mg H E k)
def Hh(x y:V)(l:List V):bL (x::y::l) ↑2 none=l:=by
 unfold bL;rw[show↑(2:Int)=↑((2:Nat):Int)from rfl,_H.jc,ama (by simp)];show(l.drop 0).take (↥(x::y::l)-2)=l;rw[akR];show agH (by simp)
def adf(Y:Ϟ K mg base "sorted_by")(t:Tr)(l:t.dep<=20):FD 54 "begin_list" "Desk.begin_list" zK ["self","verb","words"] (abk K mg t):=by
 show ϡ (S:=zZ) (λf Ϲ A' outer s H vs Q E Z h=>?_);intro X _;let#[d,dx,a,A,B,on,lv,n,ws,os,ss,rfl,ha,hL,hz,bD,n0,n1,hd,v,hS,tb,zE,qx,q]:=h;let nd:=zZ.nd;let x:=T.Gr;let z:=T.uw;let C:=T.Bc;let D0:=!gR;let D1:=!iK;let D2:=!pC;let D3:=!oX;let M1:Ψ P w K mg base true 1 (cD mg) "standing" ["self"] (bj mg):=(jP T).meth T.au T.ju;let g:θ K H a (.str (ϖ lv):: .str (ι n)::ws.map V.str):=θ.of ha;generalize hv:(if on then μ "first" else μ "last")=vb;generalize hn:ι n=F at ha g;let D4:Def P w K mg base true 53 "first_leaf" ["book","make","order","sieve","size"] (vY K mg t):=zr T Y t l;let D5:Def P w K mg base true 53 "last_leaf" ["book","make","order","sieve","size"] (vY K mg t):=yF T Y t l;w_up;show Ϡ ?_>>=#[a,_,2,rfl,g,by simp,?_];k_go;show ϐ g (show Ϛ (V.str (ϖ lv)::V.str F::ws.map V.str) ((0:Nat):Int)=↑(.str (ϖ lv))from bH rfl) ?_;w_up;show Θ ?_>>=#[by have:=ϯ;show 2<=ϳ;omega,λy hy=>?_];let#[G,ey,H,y,H0]:=Ρ hy (.tup [.str ("living":Str),.str ("still":Str)])
 replace g:=G.seq g
 show Cy (Δ.of ey) ?_;rw[tR,decide_eq_true (show ϖ lv=μ "living"\/ϖ lv=μ "still" by cases lv;show .inr rfl;show .inl rfl)];lk;show Γ ?_;k_go;show ϐ g (show Ϛ (V.str (ϖ lv)::V.str F::ws.map V.str) ((1:Nat):Int)=↑(.str F)from bH rfl) ?_>>=#[n,by rw[hn],n0,n1,λH1 s1=>?_];w_up;show dw ?_>>=eN (s1.seq g) λp1 I=>?_
 rw[Hh];let#[s2,e2,H1,p1,H2]:=Ρ I (.lst (ws.map V.str));lk;show#[p1,ws,os,ss,rfl,θ.of e2,hL,λp2 H3 s3 J=>?_];let c :=G<|>(s1<|>s2)<|>s3;show ϟ (Δ.of J) (Η (ω nd (Η (ω nd (Ϣ ?_)))));let D:=hd.same c;w_up;show Θ ?_;lk;cases on with
 |true=>
  cases hv;show fG ?_;symm;lk;show aA (pl:=_) Z Β ?_;f_are;show#[d,cD mg,dx,_,true,1,_,bj mg,rfl,D.ins,by rfl,M1,by decide,id,d,dx,A.b,rfl,D,?_]>>=#[A,B,lv,_,n,by rw[hz],v.same c,bD,hS,c<*tb,(),λe=>(qx e).same c,λo e=>?_];let#[o4,L,M,m]:=q o e;show#[o4,L,λh1 h2=>absurd h2 (by have:=v.mm;unfold dN at this;omega),λ_ h=>(M h).same c,λ_ h=>#[(m h).1,rfl,λp i H4 O R u j=>?_]];lk;let#[x,z,C]:=zE i u;show#[p,jM B i,rfl,j,x,z,C,λU W=>(m h).2 i U ((c<|>O)<|>W) R u]
 |false=>
  cases hv;show gC ?_*>Γ ?_;symm;lk;show aA (pl:=_) Z Β ?_;f_are;show#[d,cD mg,dx,_,true,1,_,bj mg,rfl,D.ins,by rfl,M1,by decide,id,d,dx,A.b,rfl,D,?_]>>=#[A,B,lv,_,n,by rw[hz],v.same c,bD,hS,c<*tb,(),λe=>(qx e).same c,λo e=>?_];let#[o4,L,M,m]:=q o e;show#[o4,L,λh1 h2=>absurd h2 (by have:=v.mm;unfold dN at this;omega),λ_ h=>(M h).same c,λ_ h=>#[(m h).1,rfl,λp i H4 O R u j=>?_]];lk;let#[x,z,C]:=zE i u;show#[p,jM B i,rfl,j,x,z,C,λU W=>(m h).2 i U ((c<|>O)<|>W) R u]
def amn(p:Ϟ K mg base "sorted_by"):FD 54 "begin_list" "Desk.begin_list" zK ["self","verb","words"] (XX mg):=by
 show ϡ (S:=zZ) (λf Z A' outer s H vs Q E u h=>?_);intro X _;let#[d,dx,a,A,B,on,lv,n,ws,os,M,k,rfl,v,O,x,z,R,n1,hd,C,D,q]:=h;let nd:=zZ.nd;let g1:=T.Gr;let g2:=T.uw;let g3:=T.Bc;let D0:=!gR;let D1:=!iK;let D2:=!pC;let D3:=!oX;let M1:Ψ P w K mg base true 1 (cD mg) "standing" ["self"] (bj mg):=(jP T).meth T.au T.ju;let c:θ K H a (.str (ϖ lv):: .str (ι n)::ws.map V.str):=θ.of v;generalize F:(if on then μ "first" else μ "last")=vb;generalize U:ι n=j at v c;let D4:Def P w K mg base true 53 "first_leaf" ["book","make","order","sieve","size"] (vK mg):=afS T p;let D5:Def P w K mg base true 53 "last_leaf" ["book","make","order","sieve","size"] (vK mg):=adg T p;w_up;show Ϡ ?_>>=#[a,_,2,rfl,c,by simp,?_];k_go;show ϐ c (show Ϛ (V.str (ϖ lv)::V.str j::ws.map V.str) ((0:Nat):Int)=↑(.str (ϖ lv))from bH rfl) ?_;w_up;show Θ ?_>>=#[by have:=ϯ;show 2<=ϳ;omega,λy W=>?_];let#[l,G,H,y,H0]:=Ρ W (.tup [.str ("living":Str),.str ("still":Str)])
 replace c:=l.seq c
 show Cy (Δ.of G) ?_;rw[tR,decide_eq_true (show ϖ lv=μ "living"\/ϖ lv=μ "still" by cases lv;show .inr rfl;show .inl rfl)];lk;show Γ ?_;k_go;show ϐ c (show Ϛ (V.str (ϖ lv)::V.str j::ws.map V.str) ((1:Nat):Int)=↑(.str j)from bH rfl) ?_>>=#[n,by rw[U],R,n1,λH1 I=>?_];w_up;show dw ?_>>=eN (I.seq c) λp1 m=>?_
 rw[Hh];let#[J,L,H1,p1,H2]:=Ρ m (.lst (ws.map V.str));lk;show#[p1,ws,os,M,rfl,θ.of L,O,λp2 H3 Y o=>?_];let g :=l<|>(I<|>J)<|>Y;show ϟ (Δ.of o) (Η (ω nd (Η (ω nd (Ϣ ?_)))));let i:=hd.same g;w_up;show Θ ?_;lk;cases on with
 |true=>
  cases F;show fG ?_;symm;lk;show aA (pl:=_) u Β ?_;f_are;show#[d,cD mg,dx,_,true,1,_,bj mg,rfl,i.ins,by rfl,M1,by decide,id,d,dx,A.b,rfl,i,?_]>>=#[A,B,lv,_,_,n,k,rfl,C.same g,z,x,λe=>(D e).same g,λe=>(q e).same g]
 |false=>
  cases F;show gC ?_*>Γ ?_;symm;lk;show aA (pl:=_) u Β ?_;f_are;show#[d,cD mg,dx,_,true,1,_,bj mg,rfl,i.ins,by rfl,M1,by decide,id,d,dx,A.b,rfl,i,?_]>>=#[A,B,lv,_,_,n,k,rfl,C.same g,z,x,λe=>(D e).same g,λe=>(q e).same g]
inductive T7(K:ϩ)(mg:MG)(t:Tr):Sp
 |mk (d dx a:δ) (A:BA) (B:Bk) (on:Bool) (n:Int) (ws:List Str) (M:Mk):vs=[.ref d,.str (if on then "forth" else "back"),.ref a]->H a=↑(.lst (.str (ι n)::ws.map V.str))->1<=↥ws->↥ws<=1000->(∀z∈ws,↥z<=1000)->ϭ " " ws=bF M->0<=n->n<=9999999999->bN mg H d dx (.ref A.b)->dF mg H A B->bQ B.heads M->M.sieve=b7 B t->dR B.heads M.os->iY B.heads t->H (aP K "sorted_by")=↑(.tbl cX)->((M.moment:Nat)<=B.now->(M.living=false->B.known<=(M.moment:Nat))->¬sizeOk n)->(B.now<(M.moment:Nat)->Lt mg B H E)->((M.moment:Nat)<=B.now->(M.living=false->(M.moment:Nat)<B.known->Gn mg B H E)/\((M.living=false->B.known<=(M.moment:Nat))->cG mg H E "NoSize"))
inductive W4(mg:MG):Sp
 |mk (d dx a:δ) (A:BA) (B:Bk) (on:Bool) (n:Int) (ws:List Str):vs=[.ref d,.str (if on then "forth" else "back"),.ref a]->H a=↑(.lst (.str (ι n)::ws.map V.str))->1<=↥ws->↥ws<=1000->(∀z∈ws,↥z<=1000)->0<=n->n<=9999999999->bN mg H d dx (.ref A.b)->Κ (cB mg) H A B->↥(ϭ " " ws)<=100000->(∀c∈(ϭ " " ws).cps.toList,c<1114112)->vZ B.heads (ϭ " " ws)->rE mg H E
def afc(p:Ϟ K mg base "sorted_by")(t:Tr)(e:t.dep<=20):FD 56 "turn_list" "Desk.turn_list" Aq ["self","verb","words"] (T7 K mg t):=by
 show ϡ (S:=Aj) (λf Ϲ A' outer s H vs Q E u h=>?_);intro X _;let#[d,dx,a,A,B,on,n,ws,M,rfl,v,R,U,m,x,W,n1,hd,y,z,g,C,D,tb,i,F,q]:=h;let nd:=Aj.nd;let g1:=T.Fb;let Y:↥(" ":Str)=1:=by fin2
 let hsz:=ϯ;let j1:=iH m;let D0:=!gR;let D1:=!iK;let D3:=!oX;let M1:Ψ P w K mg base true 1 (cD mg) "standing" ["self"] (bj mg):=(jP T).meth T.au T.ju;let j:θ K H a (.str (ι n)::ws.map V.str):=θ.of v;generalize G:(if on then μ "forth" else μ "back")=vb;generalize Z:ι n=I at v j;let D4:Def P w K mg base true 54 "turn_forth" ["book","mark","size"] (vA K mg t):=Ca T p t e;let D5:Def P w K mg base true 54 "turn_back" ["book","mark","size"] (vA K mg t):=yu T p t e;w_up;show Ϡ ?_>>=#[a,_,2,rfl,j,by rw[acz,ϰ];omega,?_];k_go;show ϐ j (show Ϛ (V.str I::ws.map V.str) ((0:Nat):Int)=↑(.str I)from bH rfl) ?_>>=#[n,by rw[Z],W,n1,λH1 J=>?_];k_go;show eN (J.seq j) λp1 o=>?_
 rw[rO];let#[L,O,H1,p1,H2]:=Ρ o (.lst (ws.map V.str));lk;show iV (θ.of O) (by rw[Y];omega) ?_;let c :=J<|>L;let l:=hd.same c;w_up;show Θ ?_;lk;cases on with
 |true=>
  cases G;show fG ?_;symm;lk;show aA (pl:=_) u Β ?_;f_are;show#[d,cD mg,dx,_,true,1,_,bj mg,rfl,l.ins,by rfl,M1,by decide,id,d,dx,A.b,rfl,l,?_]>>=#[A,B,M,n,by rw[x],y.same c,z,g,C,D,c<*tb,(),i,λh=>(F h).same c,λh=>#[λa b=>((q h).1 a b).same c,λa=>((q h).2 a).same c]]
 |false=>
  cases G;show gC ?_*>Γ ?_;symm;lk;show aA (pl:=_) u Β ?_;f_are;show#[d,cD mg,dx,_,true,1,_,bj mg,rfl,l.ins,by rfl,M1,by decide,id,d,dx,A.b,rfl,l,?_]>>=#[A,B,M,n,by rw[x],y.same c,z,g,C,D,c<*tb,(),i,λh=>(F h).same c,λh=>#[λa b=>((q h).1 a b).same c,λa=>((q h).2 a).same c]]
def ahe(o:Ϟ K mg base "sorted_by"):FD 56 "turn_list" "Desk.turn_list" Aq ["self","verb","words"] (W4 mg):=by
 show ϡ (S:=Aj) (λf O R outer s H vs Q E p h=>?_);intro X _;let#[d,dx,a,A,B,on,n,ws,rfl,u,G,I,l,J,n1,hd,v,x,c,e,q]:=h;let nd:=Aj.nd;let U:=T.Fb;let L:↥(" ":Str)=1:=by fin2
 let hsz:=ϯ;let j1:=iH l;let W:=!gR;let Y:=!iK;let Z:=!oX;let M1:Ψ P w K mg base true 1 (cD mg) "standing" ["self"] (bj mg):=(jP T).meth T.au T.ju;let i:θ K H a (.str (ι n)::ws.map V.str):=θ.of u;generalize y:(if on then μ "forth" else μ "back")=vb;generalize M:ι n=z at u i;let D4:Def P w K mg base true 55 "turn_forth" ["book","mark","size"] (uf mg):=ajm T o;let D5:Def P w K mg base true 55 "turn_back" ["book","mark","size"] (uf mg):=adm T o;w_up;show Ϡ ?_>>=#[a,_,2,rfl,i,by rw[acz,ϰ];omega,?_];k_go;show ϐ i (show Ϛ (V.str z::ws.map V.str) ((0:Nat):Int)=↑(.str z)from bH rfl) ?_>>=#[n,by rw[M],J,n1,λH1 C=>?_];k_go;show eN (C.seq i) λp1 m=>?_
 rw[rO];let#[D,F,H1,p1,H2]:=Ρ m (.lst (ws.map V.str));lk;show iV (θ.of F) (by rw[L];omega) ?_;let g :=C<|>D;let j:=hd.same g;w_up;show Θ ?_;lk;cases on with
 |true=>
  cases y;show fG ?_;symm;lk;show aA (pl:=_) p Β ?_;f_are;show#[d,cD mg,dx,_,true,1,_,bj mg,rfl,j.ins,by rfl,M1,by decide,id,d,dx,A.b,rfl,j,?_]>>=#[A,B,_,n,rfl,v.same g,x,c,e,q.same g]
 |false=>
  cases y;show gC ?_*>Γ ?_;symm;lk;show aA (pl:=_) p Β ?_;f_are;show#[d,cD mg,dx,_,true,1,_,bj mg,rfl,j.ins,by rfl,M1,by decide,id,d,dx,A.b,rfl,j,?_]>>=#[A,B,_,n,rfl,v.same g,x,c,e,q.same g]
inductive Rr(K:ϩ)(mg:MG)(t:Tr):Sp
 |mk (d dx a:δ) (A:BA) (B:Bk) (ws os ss:List Str) (o:List Ord):vs=[.ref d,.ref a]->H a=↑(.lst (.str (ι 100):: .str (ι 0)::ws.map V.str))->LW ws os ss->ϭ " " ss=b7 B t->↥(ϭ " " os)<=4000->bN mg H d dx (.ref A.b)->dF mg H A B->iY B.heads t->H (aP K "sorted_by")=↑(.tbl cX)->CK B t->ϕ B.heads (ϭ " " os)=↑o->↥o<=4->dR B.heads o->X5 B o t H Q
def agF(G:Ϟ K mg base "sorted_by")(t:Tr)(I:t.dep<=20):FD 54 "show_place" "Desk.show_place" Lp ["self","words"] (Rr K mg t):=by
 show ϡ (S:=U6) (λf Ϲ A' outer s H vs Q E J h=>?_);intro X _;let#[d,dx,a,A,B,ws,os,L,o,rfl,g,M,O,R,hd,U,W,tb,Y,Z,o4,ϻ,q]:=h;let nd:=U6.nd;let D0:=!gR;let D1:=!iK;let D2:=!pC;let D3:=!oX;let D4:Def P w K mg base true (10+2*t.dep) "leaf_by_place" ["book","order","sieve","size","number"] (GR K mg t):=Ku T G t;let M1:Ψ P w K mg base true 1 (cD mg) "standing" ["self"] (bj mg):=(jP T).meth T.au T.ju;let c:θ K H a (.str (ι 100):: .str (ι 0)::ws.map V.str):=θ.of g;generalize hn:ι 100=i at g c;generalize hk:ι 0=j at g c;w_up;show Ϡ ?_>>=#[a,_,2,rfl,c,by simp,?_];k_go;show ϐ c (show Ϛ (V.str i::V.str j::ws.map V.str) ((0:Nat):Int)=↑(.str i)from bH rfl) ?_>>=#[100,by rw[hn],by decide,by decide,λH0 l=>?_];k_go;show ϐ (l.seq c) (show Ϛ (V.str i::V.str j::ws.map V.str) ((1:Nat):Int)=↑(.str j)from bH rfl) ?_>>=#[0,by rw[hk],by decide,by decide,λH1 y=>?_];w_up;show dw ?_>>=eN ((l<|>y).seq c) λp1 m=>?_
 rw[Hh];let#[z,C,H1,p1,H2]:=Ρ m (.lst (ws.map V.str));lk;show#[p1,ws,os,L,rfl,θ.of C,M,λp2 H3 s3 n=>?_];let e :=(l<|>y)<|>z<|>s3;show ϟ (Δ.of n) (Η (ω nd (Η (ω nd (Ϣ ?_)))));let D:=hd.same e;symm;lk;show aA (pl:=_) J Β ?_;f_are;show#[d,cD mg,dx,_,true,1,_,bj mg,rfl,D.ins,by rfl,M1,by decide,id,d,dx,A.b,rfl,D,?_];lk;let u:=U.same e;show#[A,B,_,o,by rw[O],u,R,Z,o4,ϻ,W,e<*tb,λp v H4 s4 vg F x=>?_];lk;let#[g1,g2,g3]:=Y v F;show#[p,jM B v,rfl,x,g1,g2,g3,λH5 s5=>q v H5 ((e<|>s4)<|>s5) vg F]
def v9(ks:List Int):Str:=ϭ " " (ks.map ι)
structure aju(K:ϩ)(mg:MG)(B:Bk)(os:List Ord)(t:Tr)(mo:Int)(H:Hp)(Q:VK)(E:XK):Prop where
 gn:mo<B.known->Gn mg B H E
 lt:B.now<mo->Lt mg B H E
 ok:B.known<=mo->mo<=B.now->∀(rs:List Row)(ks:List Int)(H':Hp),ζ H H'->rs.Perm ((bZ B mo).filter λr=>ϙ r.2 t)->ks.Pairwise (· <= ·)->ks.Perm ((nA B.heads os t B mo rs).map (·.1))->↥ks<=64/\(∀k∈ks,k.natAbs<10^18)/\Q (.str (v9 ks)) H'
inductive Rt(K:ϩ)(mg:MG)(t:Tr):Sp
 |mk (d dx a:δ) (A:BA) (B:Bk) (mo:Int) (ws os ss:List Str) (o:List Ord):vs=[.ref d,.ref a]->H a=↑(.lst (.str (ι mo)::ws.map V.str))->LW ws os ss->ϭ " " ss=b7 B t->↥(ϭ " " os)<=4000->0<=mo->mo<=9999999999->bN mg H d dx (.ref A.b)->dF mg H A B->iY B.heads t->ϕ B.heads (ϭ " " os)=↑o->↥o<=4->dR B.heads o->aju K mg B o t mo H Q E
def anm(t:Tr)(hdp:t.dep<=20):FD 54 "show_stood" "Desk.show_stood" qI ["self","words"] (Rt K mg t):=by
 show ϡ (S:=Bf) (λf Ϲ A' outer s H vs Q E hr h=>?_);intro X _;let#[d,dx,a,A,B,mo,ws,os,ss,o,rfl,U,hL,F,bD,m0,m1,hd,c,G,kY,o4,ϻ,q]:=h;let nd:=Bf.nd;let n1:=T.cY;let hsz:=ϯ;let lb:↥(" ":Str)=1:=by fin2
 let D0:=!gR;let D1:=!iK;let D2:=!pC;let D4:= @yo P w K mg base T t;let M1:Ψ P w K mg base true 1 (cD mg) "standing" ["self"] (bj mg):=(jP T).meth T.au T.ju;let v:θ K H a (.str (ι mo)::ws.map V.str):=θ.of U;generalize hn:ι mo=W at U v;w_up;show Ϡ ?_>>=#[a,_,1,rfl,v,by simp,?_];k_go;show ϐ v (show Ϛ (V.str W::ws.map V.str) ((0:Nat):Int)=↑(.str W)from bH rfl) ?_>>=#[mo,by rw[hn],m0,m1,λH1 Y=>?_];w_up;show dw ?_>>=eN (Y.seq v) λp1 I=>?_
 rw[rO];let#[Z,e2,H1,p1,H2]:=Ρ I (.lst (ws.map V.str));lk;show#[p1,ws,os,ss,rfl,θ.of e2,hL,λp2 H3 s3 J=>?_];let e :=Y<|>Z<|>s3;show ϟ (Δ.of J) (Η (ω nd (Η (ω nd (Ϣ ?_)))));let aa:=hd.same e;let L:=c.same e;symm;lk;show jw ["row"] (σ':=[none]) (b8 (ς qI)) ?_>>=aA (pl:=_) hr Β ?_;f_are;show#[d,cD mg,dx,_,true,1,_,bj mg,rfl,aa.ins,by rfl,M1,by decide,id,d,dx,A.b,rfl,aa,?_];lk;let r1:=c.r1;show#[A,B,_,mo,o,by rw[F],#[L.bk,c.ok,c.mm,(),c.d1,bD,kY,o4,ϻ,G.gt,G.dp,G.vz,c.dd],λh=>(q.gn h).same e,λh=>(q.lt h).same e,λh1 h2=>?_];let#[u1,u2,u3,u4]:=c.hs mo h1 h2;show#[u1,u2,u3,u4,λp rs ks H4 s4 hp0 hp g j m=>?_];let aV:=e<|>s4;let#[hkl,n,_]:=q.ok h1 h2 rs ks H4 aV g j m;let lk:↥(ks.map V.int)=↥ks:=ϰ ..;show#[p,_,rfl,θ.of hp,(),λτ=>∃o1,τ=[o1],λy i u H'=>∃k,ks[i]?=↑k/\u=.str (ι k),#[none,rfl],λy i u H2 H3 ys _ _ p=>p,λfp y C s3 H0 i τ x H4 H3 aR hi M ϋ hys hG=>?_,λy H5 ys aR O R e5 s5=>?_]
 .let#[o1,rfl]:=M;let#[bh,rfl]:=hG;rw[acS]at bh;let#[k,D,rfl]:=ahh.mp bh;show ω (show(["row"]:List Str).Nodup by fin2) ?_;lk;have:=n k (abD D);show bO (_V.Ϥ ()) ?_*>#[#[_,rfl],#[k,D,rfl],ζ.refl _]
 let ey:=jJ (ys:=ks) (λk=>V.str (ι k)) (by rw[O,lk]) R;subst ey;let e6:H5 y=↑(.lst ((ks.map ι).map V.str)):=by rw[e5,aeu];rfl
 lk;show iV (θ.of e6) ?_ (q.ok h1 h2 rs ks H5 (aV<|>s5) g j m).2.2;let j1:=iH (l:=ks.map ι) λz F=>by
  let#[k,D,rfl]:=ab9.mp F;have:=sI (n k D);omega
 rw[ϰ]at j1;rw[lb,ϰ];omega
inductive Ms(mg:MG):Sp
 |mk (d dx a:δ) (A:BA) (B:Bk) (mo:Int) (ws os ss:List Str):vs=[.ref d,.ref a]->H a=↑(.lst (.str (ι mo)::ws.map V.str))->LW ws os ss->↥(ϭ " " os)<=4000->0<=mo->mo<=9999999999->bN mg H d dx (.ref A.b)->Κ (cB mg) H A B->(ϕ B.heads (ϭ " " os)=none->cG mg H E "NoOrder")->(ϕ B.heads (ϭ " " os)≠none->∃k,jH B.heads (ϭ " " ss) k/\fM mg H E k)
def akc:FD 54 "show_stood" "Desk.show_stood" qI ["self","words"] (Ms mg):=by
 show ϡ (S:=Bf) (λf L M outer s H vs Q E v h=>?_);intro X _;let#[d,dx,a,A,B,mo,ws,os,x,rfl,l,y,z,C,D,hd,F,G,q]:=h;let nd:=Bf.nd;let n1:=T.cY;let hsz:=ϯ;let O:↥(" ":Str)=1:=by fin2
 let R:=!gR;let U:=!iK;let W:=!pC;let Y:=!ajZ;let M1:Ψ P w K mg base true 1 (cD mg) "standing" ["self"] (bj mg):=(jP T).meth T.au T.ju;let c:θ K H a (.str (ι mo)::ws.map V.str):=θ.of l;generalize I:ι mo=m at l c;w_up;show Ϡ ?_>>=#[a,_,1,rfl,c,by simp,?_];k_go;show ϐ c (show Ϛ (V.str m::ws.map V.str) ((0:Nat):Int)=↑(.str m)from bH rfl) ?_>>=#[mo,by rw[I],C,D,λH1 n=>?_];w_up;show dw ?_>>=eN (n.seq c) λp1 i=>?_
 rw[rO];let#[o,p,H1,p1,H2]:=Ρ i (.lst (ws.map V.str));lk;show#[p1,ws,os,x,rfl,θ.of p,y,λp2 Z J j=>?_];let g :=n<|>o<|>J;show ϟ (Δ.of j) (Η (ω nd (Η (ω nd (Ϣ ?_)))));let u:=hd.same g;symm;lk;show jw ["row"] (σ':=[none]) (b8 (ς qI)) ?_>>=aA (pl:=_) v Β ?_;f_are;show#[d,cD mg,dx,_,true,1,_,bj mg,rfl,u.ins,by rfl,M1,by decide,id,d,dx,A.b,rfl,u,?_]>>=#[A,B,_,_,mo,rfl,F.same g,z,λe=>(G e).same g,λe=>?_];let#[k,h1,h2]:=q e;show#[k,h1,h2.same g]
def cU(c:ο):Str:=ϭ ":" [c.1,c.2]
structure Gq(c:ο):Prop where
 n1:58∉c.1.cps.toList
 n2:58∉c.2.cps.toList
 l1:↥(cU c)<=1000
def alG(h:Gq c):χ 58 (cU c)=[c.1,c.2]:=by
 unfold χ;let e:(cU c).cps.toList=f9 58 (([c.1,c.2]:List Str).map λp=>p.cps.toList):=oN 58 [c.1,c.2];rw[e,uP (by simp) λp hp=>?_,aeu]
 .rfl
 .simp only[adY,at4,aaT,afF,or_false]at hp;obtain rfl|rfl:=hp
  .show h.n1
  .show h.n2
inductive aaq:Sp
 |mk (c:ο):vs=[.str (cU c)]->Gq c->(∀p H',ζ H H'->H p=none->H' p=↑(.tup [.str c.1,.str c.2])->Q (.ref p) H')
def Ei:Def 1 "read_column_desk" ["word"] aaq:=by
 show ahG T (λvs H Q E h=>by let#[c,rfl,_]:=h;rfl) (λ_ _ _ _ s H vs Q E i h=>?_);intro X _;let#[c,rfl,hc,q]:=h;let nd:=aay.nd;let j:=T.PX;let n1:=T.bY;let hsz:=ϯ;let e:=alG hc;let g:=hc.l1;generalize l:cU c=z at e g;w_up;f_tup;show bU F.plainAttrs_str F.slot_str_split F.type_str_split (h:=?_)>>=m_split (c:=58) λl1 h1=>?_
 rw[e];let a:ζ H (upd H l1 (.lst (([c.1,c.2]:List Str).map V.str))):=ζ.upd h1;let e1:(upd H l1 (.lst (([c.1,c.2]:List Str).map V.str))) l1=↑(.lst [.str c.1,.str c.2]):=υ;generalize upd H l1 (.lst (([c.1,c.2]:List Str).map V.str))=H1 at a e1⊢;let f:θ K H1 l1 [.str c.1,.str c.2]:=θ.of e1;w_up;show Θ ?_>>=Γ ?_;symm;lk;show ϐ f (show Ϛ [V.str c.1,V.str c.2] 0=↑(V.str c.1)from rfl) ?_>>=ϐ f (show Ϛ [V.str c.1,V.str c.2] 1=↑(V.str c.2)from rfl) ?_>>=#[Ξ,λp hp=>?_]*>q p _ (a<|>(ζ.upd hp)) (a.free hp) υ
inductive aaA(mg:MG):Sp
 |mk (y dx:δ):vs=[.ref y]->H y=↑(.ins (cD mg) dx [])->(∀H',Out [y] H H'->H' y=↑(.ins (cD mg) dx [("book",.non)])->Q .non H')
def ak9:FD 1 "__init__" "Desk.__init__" aaU ["self"] (aaA mg):=by
 show ϡ (N:=["self"]) (λf g i outer s H vs Q E j h=>?_);intro X _;let#[y,dx,rfl,a,q]:=h;let hc:=T.au;f_len;show gf ?_>>=#[y,_,dx,[],rfl,a,hc,T.Cd,by simp,?_]*>q _ (λb o c e=>by rw[ξ (λz=>c (by rw[z];simp))];show e) υ
inductive Jy(mg:MG):Sp
 |mk (d dx a:δ) (v:V) (cs:List ο):vs=[.ref d,.ref a]->H a=↑(.lst ((cs.map cU).map V.str))->1<=↥cs->↥cs<=100->(∀c∈cs,Gq c)->JX cs->bN mg H d dx v->(ϗ cs=false->cG mg H E "NoColumns")->(ϗ cs=true->∀(H':Hp)(A:BA),H A.b=none->H A.dx=none->H A.h=none->H A.r=none->H A.t=none->H A.d=none->Out [d] H H'->bN mg H' d dx (.ref A.b)->Κ (cB mg) H' A #[cs,[],[],[],0,0]->Q (.str "ok") H')
def Qc:FD 6 "new_book" "Desk.new_book" BR ["self","words"] (Jy mg):=by
 show ϡ (S:=Sy) (λf Ϲ A' outer s H vs Q E hr h=>?_);intro X _;let#[d,dx,a,v,cs,rfl,ha,c1,apl,L,M,hd,qx,q]:=h;let nd:=Sy.nd;let hc:=T.au;let g1:=T.XN;let hsz:=ϯ;let D0:=!gR;let D1:=!Ei;let MB:pD P w K mg base true 4 "Book" (cB mg) ["self","columns"] (Kv mg):=(amM T).make T.amR T.alx;let Sa:θ K H a ((cs.map cU).map V.str):=θ.of ha;let la:↥((cs.map cU).map V.str)=↥cs:=by rw[ϰ,ϰ]
 w_up;show Ϡ ?_>>=#[a,_,1,rfl,Sa,(),?_];w_up;show gf ?_*>Bh MB hr (by decide) (λ_=>rfl) Β ?_*>jn (by rfl) ?_*>jw ["word"] (σ':=[none]) (b8 (ς BR)) ?_>>=#[a,_,rfl,Sa,(),λτ=>∃o1,τ=[o1],λB i u H'=>u≠.ref B/\∃c t,cs[i]?=↑c/\u=.ref t/\H t=none/\H' t=↑(.tup [.str c.1,.str c.2]),#[none,rfl],λB i u H2 H3 ys hE hk p=>?_,λfp B C s3 H0 i τ x H4 H3 aR hi O ϋ l hG=>?_,λB I ys aR hl2 R e5 m=>?_]
 .let#[h0,c,t,h1,e,h2,U]:=p;show#[h0,c,t,h1,e,h2,hk _ _ (λz=>h0 (by rw[e,z])) U]
 .let#[o1,rfl]:=O;let#[bh,rfl]:=hG;rw[aeu,acS]at bh;let#[c,D,rfl]:=ahh.mp bh;let#[ys,l]:=l;show ω (show(["word"]:List Str).Nodup by fin2) ?_>>=#[c,rfl,L c (abD D),λp W s6 n hp=>?_]*>#[#[_,rfl],#[λz=>?_,c,p,D,rfl,ϋ.free n,hp],s6];injection z with z
  rw[z,l]at n;cases n
 let hC:aj I B cs:=#[ys,e5,mK () λj c hj=>by
  let F:j<↥ys:=by have:=(aas.mp hj).1;omega
  let#[_,c',t,h1,e,_,U]:=R j _ (aad F);rw[hj]at h1;cases h1;show#[_,aad F,t,e,U]]
 show fW λy dy G Y Ϻ=>?_
 let YX:ζ I (upd (upd I dy (.own y)) y (.ins (cB mg) dy [])):=λb u e=>by
  rw[ξ (λz=>by rw[z,G]at e;cases e),ξ (λz=>by rw[z,Y]at e;cases e)];show e
 let g:=m<|>YX;show#[y,dy,B,cs,rfl,υ,by rw[ξ Ϻ,υ],hC.same YX,(),M,λh H' s'=>qx h H' (g<|>s'),λh W A eb Z f1 f2 f3 f4 o6 k6=>#[rfl,?_]];let yd:d≠y:=λz=>by have:=m _ _ hd.ins;rw[z,G]at this;cases this
 let xr:dx≠y:=λz=>by have:=m _ _ hd.own;rw[z,G]at this;cases this
 let Ir:W d=↑(.ins (cD mg) dx [("book",v)]):=o6 _ _ (~~~yd) (g<*hd.ins);let uh:W dx=↑(.own d):=o6 _ _ (~~~xr) (g<*hd.own);lk;show#[d,_,dx,_,rfl,Ir,hc,T.Cd,by simp,?_];let aa:A.b=y:=eb;subst aa;let ab:A.dx=dy:=Z;subst ab;let ac:=g _ _ hd.ins;let J:∀x,(upd (upd I A.dx (.own A.b)) A.b (.ins (cB mg) A.dx [])) x=none->x≠d:=λx e z=>by rw[z,ac]at e;cases e
 let ae:A.dx≠d:=λz=>by have:=m _ _ hd.ins;rw[<-z,Y]at this;cases this
 symm;lk;show q h _ A (m.free G) (m.free Y) (g.free f1) (g.free f2) (g.free f3) (g.free f4) (λb o hb e=>?_) #[υ,?_] (k6.stay (λb zs e=>?_) λx o hx e=>?_)
 .rw[ξ (λz=>hb (by rw[z];simp))];show o6 _ _ (λz=>?_) (g<*e);rw[ab7.mp z]at e;have:=m _ _ e;rw[G]at this;cases this
 .rw[ξ (λz=>by rw[z,Ir]at uh;cases uh)];show uh
 .rw[ξ (λz=>by rw[z,Ir]at e;cases e)];show e
 .rw[ξ]
  .show e
  .simp only[aaT,afF,or_false]at hx;obtain rfl|rfl|rfl|rfl|rfl|rfl:=hx
   .show Ne.symm yd
   .show ae
   .show J _ f1
   .show J _ f2
   .show J _ f3
   .show J _ f4
inductive nj(mg:MG)(v:Str)(vb:Bool)(sp:Sp):Sp
 |mk (d dx:δ) (b:V) (z:Str) (ws:List Str):vs=[.ref d,.str z]->↥z<=4000->χ 32 z=v::ws->bN mg H d dx b->(∀a H',ζ H H'->H' a=↑(.lst (ws.map V.str))->sp (if vb=true then[.ref d,.str v,.ref a]else[.ref d,.ref a]) H' Q E)
def Fq(v:Str):Option (Str×Bool):=if v=μ "book" then some ("new_book",false)else if v=μ "put"\/v=μ "change" then some ("put_or_change",true)else if v=μ "take" then some ("take_out",false)else if v=μ "first"\/v=μ "last" then some ("begin_list",true)else if v=μ "forth"\/v=μ "back" then some ("turn_list",true)else if v=μ "place" then some ("show_place",false)else if v=μ "let" then some ("let_moments_go",false)else if v=μ "stood" then some ("show_stood",false)else none
def uM(e:Fq v=↑(n,vb))(M:Ψ P w K mg base true k (cD mg) n (if vb=true then["self","verb","words"]else["self","words"]) sp):FD (k+1) "say" "Desk.say" Gm ["self","row"] (nj mg v vb sp):=by
 show ϡ (S:=Ss) (λf U W outer s H vs Q E j h=>?_);intro X _;let#[d,dx,b,z,ws,rfl,Y,hc,hd,q]:=h;unfold Fq at e;let nd:=Ss.nd;let Z:=T.ajh;let g1:=T.YQ;let g2:=T.acg;let g3:=T.ag3;let g4:=T.Gr;let g5:=T.an9;let g6:=T.Fb;let g7:=T.anM;let g8:=T.aj4;let g9:=T.anx;let G:=T.abJ;let hsz:=ϯ;k_go;show bU F.plainAttrs_str F.slot_str_split F.type_str_split (h:=?_)>>=m_split (c:=32) λl1 h1=>?_
 rw[hc];let#[x,e1,H,l1,H1]:=Ρ h1 (.lst ((v::ws).map V.str));lk;show ϐ (θ.of e1) (show Ϛ ((v::ws).map V.str) ((0:Nat):Int)=↑(.str v)from bH rfl) ?_;k_go;show bU F.plainAttrs_str F.slot_str_split F.type_str_split (h:=?_)>>=m_split (c:=32) λI h2=>?_
 rw[hc];let#[B,C,H1,I,H2]:=Ρ h2 (.lst ((v::ws).map V.str));lk;show eN (θ.of C) λa J=>?_
 rw[adY,rO];let#[D,g,H2,a,L]:=Ρ J (.lst (ws.map V.str));let t0:=(x<|>B)<|>D;w_up;show Θ ?_>>=Μ (λh=>?_) (λh=>Γ ?_)
 .rw[if_pos (V.str.inj h)]at e;cases e;symm;show ϛ (pl:=_) j Β (h:=?_);f_are;show#[d,cD mg,dx,_,true,k,_,sp,rfl,(hd.same t0).ins,by rfl,M,Ϭ _,id,?_]>>=q a _ t0 g
 rw[if_neg λz=>h (by rw[z])]at e;w_up;show Θ ?_>>=#[Ξ,λy m=>?_];let#[u,i,L,y,O]:=Ρ m (.tup [.str ("put":Str),.str ("change":Str)]);let o:=t0<|>u;let g:=u _ _ g;show qm (Δ.of i) ?_;rw[tR];clear u i;by_cases h:v=μ "put"\/v=μ "change"
 .rw[decide_eq_true h];rw[if_pos h]at e;cases e;lk;symm;show ϛ (pl:=_) j Β (h:=?_);f_are;show#[d,cD mg,dx,_,true,k,_,sp,rfl,(hd.same o).ins,by rfl,M,Ϭ _,id,?_]>>=q a _ o g
 rw[decide_eq_false h];rw[if_neg h]at e;lk;show Γ ?_;w_up;show Θ ?_>>=Μ (λh=>?_) (λh=>Γ ?_)
 .rw[if_pos (V.str.inj h)]at e;cases e;symm;show ϛ (pl:=_) j Β (h:=?_);f_are;show#[d,cD mg,dx,_,true,k,_,sp,rfl,(hd.same o).ins,by rfl,M,Ϭ _,id,?_]>>=q a _ o g
 rw[if_neg λz=>h (by rw[z])]at e;w_up;show Θ ?_>>=#[Ξ,λy m=>?_];let#[u,i,O,y,R]:=Ρ m (.tup [.str ("first":Str),.str ("last":Str)]);let p:=o<|>u;let g:=u _ _ g;show qm (Δ.of i) ?_;rw[tR];clear u i;by_cases h:v=μ "first"\/v=μ "last"
 .rw[decide_eq_true h];rw[if_pos h]at e;cases e;lk;symm;show ϛ (pl:=_) j Β (h:=?_);f_are;show#[d,cD mg,dx,_,true,k,_,sp,rfl,(hd.same p).ins,by rfl,M,Ϭ _,id,?_]>>=q a _ p g
 rw[decide_eq_false h];rw[if_neg h]at e;lk;show Γ ?_;w_up;show Θ ?_>>=#[Ξ,λy m=>?_];let#[u,i,R,y,G3]:=Ρ m (.tup [.str ("forth":Str),.str ("back":Str)]);let l:=p<|>u;let g:=u _ _ g;show qm (Δ.of i) ?_;rw[tR];clear u i;by_cases h:v=μ "forth"\/v=μ "back"
 .rw[decide_eq_true h];rw[if_pos h]at e;cases e;lk;symm;show ϛ (pl:=_) j Β (h:=?_);f_are;show#[d,cD mg,dx,_,true,k,_,sp,rfl,(hd.same l).ins,by rfl,M,Ϭ _,id,?_]>>=q a _ l g
 rw[decide_eq_false h];rw[if_neg h]at e;lk;show Γ ?_;w_up;show Θ ?_>>=Μ (λh=>?_) (λh=>Γ ?_)
 .rw[if_pos (V.str.inj h)]at e;cases e;symm;show ϛ (pl:=_) j Β (h:=?_);f_are;show#[d,cD mg,dx,_,true,k,_,sp,rfl,(hd.same l).ins,by rfl,M,Ϭ _,id,?_]>>=q a _ l g
 rw[if_neg λz=>h (by rw[z])]at e;w_up;show Θ ?_>>=Μ (λh=>?_) (λh=>Γ ?_)
 .rw[if_pos (V.str.inj h)]at e;cases e;symm;show ϛ (pl:=_) j Β (h:=?_);f_are;show#[d,cD mg,dx,_,true,k,_,sp,rfl,(hd.same l).ins,by rfl,M,Ϭ _,id,?_]>>=q a _ l g
 rw[if_neg λz=>h (by rw[z])]at e;w_up;show Θ ?_>>=Μ (λh=>?_) (λh=>Γ ?_)
 .rw[if_pos (V.str.inj h)]at e;cases e;symm;show ϛ (pl:=_) j Β (h:=?_);f_are;show#[d,cD mg,dx,_,true,k,_,sp,rfl,(hd.same l).ins,by rfl,M,Ϭ _,id,?_]>>=q a _ l g
 rw[if_neg λz=>h (by rw[z])]at e;cases e
def Ω:List ο:=[(μ "aa",μ "number"),(μ "bb",μ "text")]
def rG:ϗ Ω =true:=by fin2
def or_none:ϕ Ω ("":Str)=some []:=by fin2
def ahv:ϕ Ω ("+cc":Str)=none:=by fin2
theorem aeJ:dR Ω [(μ "aa",true)]:=λo a=>by
 rw[ab7.mp a];show#[(μ "aa",μ "number"),by simp[Ω],rfl]
theorem anC:dR Ω [(μ "bb",false)]:=λo a=>by
 rw[ab7.mp a];show#[(μ "bb",μ "text"),by simp[Ω],rfl]
abbrev cA:Tr:=.one .all
abbrev jk:Tr:=.nt (.one (.none 0))
theorem alh:iY Ω cA:=#[trivial,by decide,by fin2]
theorem Em:iY Ω jk:=#[by show _<_;decide,by decide,by fin2]
def Ro:ϭ " " (wT (Υ Ω) jk)=μ "not none aa":=by fin2
theorem adl:jH Ω ("over aa 'x":Str) 2:=#[by fin2,.over (i:=0) (c:=(μ "aa",μ "number")) (z:=μ "'x") #[by fin2,by fin2,rfl,by fin2,by fin2,by fin2]]
theorem akV:jH Ω ("not":Str) 1:=#[by fin2,.nt (by fin2)]
def bW(lv:Bool)(mo:Nat):Mk:=#[lv,mo,[(μ "bb",false)],μ "not none aa",#[false,3,[.str ("x":Str)]]]
theorem Hm{lv:Bool}{mo:Nat}(h:mo<=5000:=by omega):bQ Ω (bW lv mo)where
 moment:=h
 len:=show([(μ "bb",false)]:List Ord).length<=4 by decide
 names:=show ∀o∈([(μ "bb",false)]:List Ord),o.1∈ Ω.map Prod.fst by fin2
 nodup:=show(([(μ "bb",false)]:List Ord).map Prod.fst).Nodup by fin2
 row:=show 3<=1000000000 by decide
 vals:=.cons (.inr (.inr #[by fin2,μ "x",rfl,by fin2,by fin2])) .nil
 plain:=by unfold plainS;show ∀c∈("not none aa":Str).cps.toList,_;fin2
 short:=show("not none aa":Str).length<=2800 by fin2
 words:=show ∀y∈χ 32 ("not none aa":Str),↥y<=900 by fin2
 reads:=#[jk,by decide,by
  let a:=uW rG Em.gt;let e:χ 32 ("not none aa":Str)=wT (Υ Ω) jk:=by rw[<-Ro];show sJ (zP (Υ Ω) jk) λz f=>(a z f).2.1
  have:=vC rG (ws:=wT (Υ Ω) jk) (t:=jk) (s:=0) #[[],by simp] (by fin2) Em.gt;rw[anF]at this;show Reads Ω (χ 32 ("not none aa":Str)) jk 0 ↥(χ 32 ("not none aa":Str));rw[e];show this]
def ai4{n:Nat}(h:n<9973):Ϗ (μ "000"++μ (toString (n:Int))) ↑(-4) none=ϝ n:=by
 apply d9;let hd:=lG (m:=n) (k:=4) (by decide) ();rw[NB (),Ft];let a:↥("000":Str)=3:=by fin2
 let c:("000":Str).cps.toList=[48,48,48]:=by fin2
 let f:1<=↥(μ (toString (n:Int))):=by
  rw[_L.len_list,my];show aoj.mpr (by simp[asi])
 generalize μ (toString (n:Int))=x at hd f⊢;let g:=_L.len_list x;rw[aJ,c,len_app,a];let es:_H.ό (3+↥x) 0 ↑(-4)=↥x-1:=by
  have:=wV (3+↥x) 0 (-4);rw[if_pos (by decide)]at this;omega
 rw[es,_H.zF,agH (by rw[ahH,adz];show 3+_-_<=_;omega)];rcases(show ↥x=1\/↥x=2\/↥x=3\/↥x=4 by omega)with e|e|e|e<;>rw[e]
 .rfl
 .rfl
 .rfl
 .rfl
def lJ(z:Str):Str:=z++μ "."++ϝ (ϊ z.cps.toList)
inductive Vc:Sp
 |mk (z:Str):vs=[.str z]->↥z<=4000->(∀c∈z.cps.toList,c<1114112)->Q (.str (lJ z)) H
def FQ:Def 1 "_law_checked" ["_law_text"] Vc:=by
 exists Yg,FQ,x,#[z,rfl,y,q,a],2,n1.Nu,n2.cY,1;let l1:↥(".":Str)=1:=by fin2
 let B:↥("000":Str)=3:=by fin2
 unfold lJ at a;k_go;k_go;w_up;show QM (by walk_at"po") (by rfl) (by intro _;rfl) ?_;f_are;let g:=j6 z.cps.toList;show#[z,rfl,λi σ H'=>H'=H/\∃c f o,σ=[↑(.str z),↑(.int c),↑(.int f),o]/\0<=c/\c<9973/\0<=f/\f<9973/\(c+f*ϊ (z.cps.toList.drop i)) % 9973=ϊ z.cps.toList,#[rfl,0,1,none,rfl,by decide,by decide,by decide,by decide,?_],λi cc σ H' hi j=>?_,λσ H' j=>?_]
 .rw[akR,atq,aub];show aq0 g.1 g.2
 .let#[rfl,c,f,o,rfl,t0,n,p0,p1,e]:=j;let s:=q cc (abD hi);let l:z.cps.toList.drop i=cc::z.cps.toList.drop (i+1):=by
   let#[h1,h2]:=aas.mp hi;rw[aie h1,h2]
  rw[l]at e;show ω nd ?_;w_up;cbv;show#[rfl,_,_,_,rfl,anp _ (by decide),ak5 _ (by decide),anp _ (by decide),ak5 _ (by decide),ZK e]
 .let#[rfl,c,f,o,rfl,t0,n,p0,p1,e]:=j;rw[apA]at e;let p:c=ϊ z.cps.toList:=by
   rw[<-e];show c=(c+f*0) % 9973;rw[at8,at9,aq0 t0 n]
  let#[m,u]:=aeo g.1;rw[u]at p a;rw[p];let v:=lG (m:=m) (k:=4) (by decide) ();let C:=wY ((m:Nat):Int);symm;lk;show Ν () ?_>>=bO (Ϥ ?_) ?_
  .have :(10:Nat)^60>10000:=by decide
   omega
  show Ν () ?_>>=jZ (by rw[len_app];omega) ?_;rw[ai4 ()];show Ν (by rw[len_app];omega) ?_*>a
def iI(v:V)(z:Str):Prop:=v=.str z
abbrev xm:=List (Int×Str)
def dM(R:xm)(k:Int):Str:=ι k++μ " "++(Ε R k).getD ("":Str)++μ " 'x"
def dj(R:xm)(mo:Int):Str:=μ "0+"++ι ((↥R:Nat):Int)++μ " of "++ι ((↥R:Nat):Int)++μ " at "++ι mo
inductive Sg:Sp
 |mk (a:δ) (R:xm) (mo:Int):vs=[.ref a,.int mo]->DictAt iI H a R->↥R<64->0<=mo->mo<=1000000->(∀r∈R,0<=r.1/\r.1<=1000000000/\↥r.2<=20)->(∀(ks:List Int) H',ζ H H'->ks.Perm (R.map (·.1))->ks.Pairwise (· <= ·)->Q (.str (ϭ "\n" (dj R mo::ks.map (dM R)))) H')
def Be:Def 1 "_law_page" ["_law_rows","_law_moment"] Sg:=by
 exists Zd,Be,B,#[a,R,mo,rfl,#[Ϸ,n,C],D,m0,m1,G,q],2,n1.cY,n2.bY,n3.qU,1;let hu:_+1<cLine:=af6 (ahC (by decide:1<=64) _) B.units;let f:↥Ϸ=↥R:=C.len;let p:∀i:Int,0<=i->i<=1000000000->↥(ι i)<=19:=λi h0 h1=>bV h0 ()
 let l1:=p ((↥R:Nat):Int) () ();let l2:=p mo m0 ();let lh:↥(dj R mo)<=100:=by
  let a1:↥("0+":Str)=2:=by fin2
  let a2:↥(" of ":Str)=4:=by fin2
  let a3:↥(" at ":Str)=4:=by fin2
  unfold dj;simp only[len_app];omega
 k_go;show Rp n ?_;rw[f];lk;show bO (Ϥ ()) ?_;let a1:↥("0+":Str)=2:=by fin2
 let a2:↥(" of ":Str)=4:=by fin2
 let a3:↥(" at ":Str)=4:=by fin2
 let l1':↥(μ (toString ((↥R:Nat):Int)))<=19:=l1;let l2':↥(μ (toString mo))<=19:=l2;show Ν () ?_>>=Ν (by rw[len_app];omega) ?_>>=Rp n ?_;rw[f];lk;show bO (Ϥ ()) ?_*>Ν (by simp only[len_app];omega) ?_>>=Ν (by simp only[len_app];omega) ?_>>=bO (Ϥ ()) ?_*>Ν (by simp only[len_app];omega) ?_>>=#[Ξ,λy hy=>?_];let I :ζ H (upd H y (.lst [.str (dj R mo)])):=ζ.upd hy;let J:(upd H y (.lst [.str (dj R mo)])) y=↑(.lst ((dj R mo::([]:List Str)).map V.str)):=υ;change Φ _ _ _ _ (upd H y (.lst [.str (dj R mo)]));generalize upd H y (.lst [.str (dj R mo)])=H1 at I J⊢;w_up;show sZ (by walk_at"po") (by rfl) (by intro _;rfl) ?_>>=zY (ks:=R.map (·.1)) (I<*n) (wU C) (by rw[ϰ];show D) λL ks M hp hs=>?_
 let#[O,U]:=Ρ M (.lst (ks.map V.int));let yL:y≠L:=λz=>by rw[<-z,J]at M;cases M
 generalize upd H1 L (.lst (ks.map V.int))=H2 at O U⊢;let hks:↥ks=↥R:=by rw[hp.length_eq,ϰ]
 let W:↥(ks.map V.int)=↥ks:=ϰ ..;show#[L,_,rfl,θ.of U,λi σ H'=>(∃Y,σ=[↑(.ref a),↑(.int mo),↑(.ref y),Y])/\ζ H H'/\H' L=↑(.lst (ks.map V.int))/\H' y=↑(.lst ((dj R mo::(ks.take i).map (dM R)).map V.str)),#[#[none,rfl],I<|>O,U,O<*J],λi σ H' _ g=>θ.of g.2.2.1,λi x σ H' hx g=>?_,λσ H' g=>?_]
 .let#[#[Y,rfl],s,Mf,c]:=g;rw[acS]at hx;let#[k,j,rfl]:=ahh.mp hx;let IK:=(aas.mp j).1;let m:k∈R.map (·.1):=hp.mem_iff.mp (abD j);obtain⟨_,v⟩|⟨u,z,e1,v,Z⟩:=iz C k
  .show absurd m (lM.mp v)
  cases(show u=V.str z from Z);let#[b1,b2,b3]:=G (k,z) (sH v);let iw:↥z<=20:=b3;let lk:=p k b1 b2;let lk':↥(μ (toString k))<=19:=lk;let c1:↥(" ":Str)=1:=by fin2
  let c2:↥(" 'x":Str)=3:=by fin2
  show ω nd ?_;f_len;show Ϡ (bU F.plainAttrs_list F.slot_list_append F.type_list_append (h:=?_));cbv;show#[.inl #[rfl,_,θ.of c],?_];cbv;show bO (Ϥ ()) ?_;cbv;show Ν () ?_;cbv;let g4:=aK.k (k:=Sum.inl k) (s<*n);rw[e1]at g4;show KQ hu g4 ?_;cbv;show Ν (by simp only[len_app];omega) ?_;cbv;show Ν (by simp only[len_app];omega) ?_;cbv;show iT Ao #[y,_,_,rfl,rfl,c,by rw[ϰ,acz,ϰ,aoz];omega,?_]*>#[#[_,rfl],λd o e=>?_,?_,?_]
  .rw[ξ (ϔ e hy)];show s<*e
  .rw[ξ (Ne.symm yL)];show Mf
  .rw[υ,asv,j,ahZ,adY,adY,ahZ];let el:dM R k=(μ (toString k)++μ " "++z++μ " 'x"):=by unfold dM;rw[v];rfl
   rw[show(↑k).toList.map (dM R)=[dM R k]from rfl,el];rfl
 .let#[#[Y,rfl],s,Mf,c]:=g;rw[W,ai0]at c;symm;lk;show iV (θ.of c) ?_ (q ks H' s hp hs);let j1:=iH (l:=dj R mo::ks.map (dM R)) λz Z=>by
   obtain e|e:=aaT.mp Z
   .rw[e];omega
   .let#[k,j,rfl]:=ab9.mp e;let#[r,B,rfl]:=ab9.mp (hp.mem_iff.mp j);let#[b1,b2,_]:=G r B;let lk:=p r.1 b1 b2;let c1:↥(" ":Str)=1:=by fin2
    let c2:↥(" 'x":Str)=3:=by fin2
    let c3:↥((Ε R r.1).getD ("":Str))<=20:=by
     cases e:Ε R r.1 with
     |none=>show(by fin2:↥("":Str)<=20)
     |some w=>show(G _ (sH e)).2.2
    unfold dM;simp only[len_app];omega
  let lb:↥("\n":Str)=1:=by fin2
  rw[acz,ϰ]at j1;rw[lb,acz,ϰ];omega
theorem Ff{f:Str->δ}:∀{l:List Str},(l.map f).Nodup->∀x∈l,∀y∈l,f x=f y->x=y
 |a::l,h,x,hx,y,hy,e=>by
  let#[h1,h2]:=aiG.mp h;obtain ex|hx:=aaT.mp hx
  .obtain c|hy:=aaT.mp hy
   .rw[ex,c]
   .rw[ex]at e;show absurd (e▸akd hy) h1
  .obtain c|hy:=aaT.mp hy
   .rw[c]at e;show absurd (e▸akd hx) h1
   .show Ff h2 x hx y hy e
def iy:List Str:=["NoColumns","NoValue","NoOrder","NoRow","NoMark","NoSize","NoLine","NoBook","NoSieve","NoPage","Twice","Absent","Gone","Later"]
def uc(T:Txt K mg)(a:x∈iy):XC K mg "LeafError" x:=by
 simp only[iy,aaT,afF,or_false]at a;obtain rfl|rfl|rfl|rfl|rfl|rfl|rfl|rfl|rfl|rfl|rfl|rfl|rfl|rfl:=a
 show T.abR*>T.vh*>T.rC*>T.al2*>T.xX*>T.amN*>T.ajX*>T.ady*>T.Bq*>T.aeO*>T.ajz*>T.aic*>T.adh*>T.adA
def je(T:Txt K mg)(c:x∈iy)(a:y∈iy):ap9 K (.ref (η mg x)) (.ref (η mg y))=↑(decide (x=y)):=by
 let f:((("LeafError":Str)::iy).map (η mg)).Nodup:=T.Uk;by_cases h:x=y
 .subst h;rw[alc (uc T c),decide_eq_true rfl]
 .rw[decide_eq_false h];show alV (uc T c) (uc T a) (λz=>h (Ff f _ (acw _ c) _ (acw _ a) z)) (λz=>?_);let e:=Ff f _ (adS ..) _ (acw _ a) z;rw[<-e]at a;show absurd a (by fin2)
def Ge(T:Txt K mg){x y z:Str}(a:x∈iy)(c:y∈iy:=by fin2)(e:z∈iy:=by fin2):atk K (.ref (η mg x)) ((([y,z]:List Str).map (η mg)).map Value.ref)=↑(decide (x=y\/x=z)):=by
 show atk K _ [Value.ref (η mg y),Value.ref (η mg z)]=_;unfold atk;rw[je T a c];by_cases h:x=y
 .rw[decide_eq_true h,decide_eq_true (.inl h)]
 .rw[decide_eq_false h];show atk K _ [Value.ref (η mg z)]=_;unfold atk;rw[je T a e];by_cases h2:x=z
  .rw[decide_eq_true h2,decide_eq_true (.inr h2)]
  .rw[decide_eq_false h2,decide_eq_false (λz=>z.elim h h2)];rfl
def Hj:List (Str×Str×Str):=[("Twice","row",μ "twice "),("Absent","row",μ "absent "),("Gone","known",μ "gone "),("Later","now",μ "later "),("NoSieve","at",μ "sieve ")]
def numOf(x:Str):Option (Str×Str):=Hj.lookup x
def sE:List (Str×Str):=[("NoRow",μ "row"),("NoOrder",μ "order"),("NoSize",μ "size"),("NoMark",μ "mark"),("NoColumns",μ "columns")]
inductive dH (H:Hp):Str->Option δ->Str->Prop
 |num {x f p:Str} {E:δ} {n:Int} (h:numOf x=↑(f,p)) (e:H E=↑(.xd [(f,.int n)])) (b:n.natAbs<10^18):dH H x ↑E (p++ι n)
 |pl {x z:Str} (h:(x,z)∈sE):dH H x none z
def dH.mem(h:dH H x D z):x∈iy:=by
 cases h with
 |num h=>
  show Classical.byContradiction λa=>?_
  have:numOf x=none:=asJ.mpr λq c=>by
   let h2:=(show ∀q∈Hj,q.1∈iy by fin2) q c;show bne_iff_ne.mpr λz=>a (z▸h2)
  rw[this]at h;cases h
 |pl h=>show(show ∀q∈sE,q.1∈iy by fin2) _ h
def dH.inv(h:dH H x D z)(e:numOf x=↑(f,p)):∃E n,D=↑E/\H E=↑(.xd [(f,.int n)])/\n.natAbs<10^18/\z=p++ι n:=by
 cases h with
 |num h a b=>
  rw[h]at e;cases e;show#[_,_,rfl,a,b,rfl]
 |pl h=>
  rw[(show ∀q∈sE,numOf q.1=none by fin2) _ h]at e;cases e
def dH.alk(h:dH H x D z)(e:numOf x=none):(x,z)∈sE:=by
 cases h with
 |num h=>rw[h]at e;cases e
 |pl h=>show h
def dH.fs(h:dH H x D z)(s:ζ H c):∀a,D=↑a->∃fs,c a=↑(.xd fs):=by
 cases h with
 |num h e=>show λa z=>by cases z;show#[_,s<*e]
 |pl h=>show λa z=>nomatch z
def dH.same(h:dH H x D z)(s:ζ H a):dH a x D z:=by
 cases h with
 |num h e b=>show .num h (s<*e) b
 |pl h=>show .pl h
def pM(x:Str):List Bool:=[decide (x="NoRow"),decide (x="NoOrder"),decide (x="NoSize")]++[decide (x="NoMark"),decide (x="NoColumns"),decide (x="NoLine"\/x="NoBook")]
def aee:∀q∈sE,(pM q.1).count true=1/\¬(q.1="NoValue"\/q.1="NoPage")/\∃j,j<6/\(pM q.1)[j]?=↑true/\(∀m,m<j->(pM q.1)[m]?=↑false)/\([μ "row",μ "order",μ "size",μ "mark",μ "columns",μ "line"]:List Str)[j]?=↑q.2:=by fin2
inductive U3(mg:MG):Sp
 |mk (e:δ) (x z:Str) (D:Option δ):vs=[.ref e]->H e=↑(xw e (η mg x) D)->dH H x D z->(∀H',ζ H H'->Q (.str z) H')
def Hn:Def 1 "_law_word_of" ["_law_caught"] (U3 mg):=by
 show Ζ (S:=W3) T.Hn (λf _ A _ _ H vs Q E hr h=>?_);intro X _;let#[e,x,z,D,rfl,l,g,q]:=h;let nd:=W3.nd;let n1:=T.yz;let n2:=T.cY;let hsz:=ϯ;let s:=g.mem;let y:∀x∈iy,Gc mg x (.ref (η mg x)):=λx s=>#[_,(uc T s).at_,rfl]
 let apI:=y "NoColumns" (by fin2);let arG:=y "NoValue" (by fin2);let apn:=y "NoOrder" (by fin2);let aoD:=y "NoRow" (by fin2);let aqK:=y "NoMark" (by fin2);let aow:=y "NoSize" (by fin2);let apv:=y "NoLine" (by fin2);let apY:=y "NoBook" (by fin2);let apz:=y "NoSieve" (by fin2);let aqL:=y "NoPage" (by fin2);let aqh:=y "Twice" (by fin2);let arq:=y "Absent" (by fin2);let apB:=y "Gone" (by fin2);let aoA:=y "Later" (by fin2);let o:=(uc T s).attr;let R:∀{n:Int},n.natAbs<10^18->↥(μ (toString n))<=19:=λ{n} h=>pB (i:=n) (k:=18) h;w_up;show Θ ?_>>=#[Ξ,λp1 Y=>?_];let#[a,e1,H,p1,H1]:=Ρ Y (.tup [V.ref (η mg "Twice"),V.ref (η mg "Absent")]);lk;show DK o (a<*l) (g.fs a) e1 (zL ((["Twice","Absent"]:List Str).map (η mg))) (Ge T s) ?_>>=Μ (λh=>?_) (λh1=>Γ ?_)
 .let en:numOf x=↑(μ "row",if x="Absent" then μ "absent " else μ "twice "):=by obtain rfl|rfl:=h<;>fin2
  let hf:afu K (.ref (η mg x)) "row"=↑none:=by obtain rfl|rfl:=h;show T.agp*>T.amB
  let#[E',n,rfl,B,G,rfl]:=g.inv en;symm;lk;show #[Ξ,λp2 I=>?_];let#[J,L,H1,p2,H2]:=Ρ I (.lst [.str ("twice":Str),.str ("absent":Str)]);let c:=a<|>J;lk;show km o (c<*l) (g.fs c) (λu z=>z) (je T s (by fin2)) ?_*>ahw (θ.of L) (v:=.str (if x="Absent" then μ "absent" else μ "twice")) (by obtain rfl|rfl:=h<;>rfl) ?_;let l1:↥(if x="Absent" then μ "absent" else μ "twice")<=6:=by obtain rfl|rfl:=h<;>fin2
  let Z:↥(" ":Str)=1:=by fin2
  let l3:=R G;lk;show Ν () ?_>>=BP (e:=e) (C:=η mg x) (E':=E') (v:=.int n) (fs:=[("row",.int n)]) o hf (λu z=>by let#[t,rfl]:=z;rfl) ?_;f_are;show#[rfl,c<*l,c<*B,rfl,?_]>>=bO (Ϥ ()) ?_*>Ν (by rw[len_app];omega) ?_;have:=q H2 c;rw[show(if x="Absent" then μ "absent " else μ "twice ")=(if x="Absent" then μ "absent" else μ "twice")++μ " " by obtain rfl|rfl:=h<;>fin2]at this;show this
 let h2:x≠"Twice":=λz=>h1 (.inl z)
 let h3:x≠"Absent":=λz=>h1 (.inr z)
 w_up;show Θ ?_>>=km o (a<*l) (g.fs a) (λu z=>z) (je T s (by fin2)) ?_>>=Μ (λh=>?_) (λh4=>Γ ?_)
 .let#[E',n,rfl,B,G,rfl]:=g.inv (f:="known") (p:=μ "gone ") (by rw[h];fin2);subst h;let l3:=R G;let Z:↥("gone ":Str)<=7:=by fin2
  symm;lk;show BP (e:=e) (C:=η mg "Gone") (E':=E') (v:=.int n) (fs:=[("known",.int n)]) o T.amd (λu z=>by let#[t,rfl]:=z;rfl) ?_;f_are;show#[rfl,a<*l,a<*B,rfl,?_]>>=bO (Ϥ ()) ?_*>Ν () (q H1 a)
 w_up;show Θ ?_>>=km o (a<*l) (g.fs a) (λu z=>z) (je T s (by fin2)) ?_>>=Μ (λh=>?_) (λh5=>Γ ?_)
 .let#[E',n,rfl,B,G,rfl]:=g.inv (f:="now") (p:=μ "later ") (by rw[h];fin2);subst h;let l3:=R G;let Z:↥("later ":Str)<=7:=by fin2
  symm;lk;show BP (e:=e) (C:=η mg "Later") (E':=E') (v:=.int n) (fs:=[("now",.int n)]) o T.agg (λu z=>by let#[t,rfl]:=z;rfl) ?_;f_are;show#[rfl,a<*l,a<*B,rfl,?_]>>=bO (Ϥ ()) ?_*>Ν () (q H1 a)
 w_up;show Θ ?_>>=km o (a<*l) (g.fs a) (λu z=>z) (je T s (by fin2)) ?_>>=Μ (λh=>?_) (λh6=>Γ ?_)
 .let#[E',n,rfl,B,G,rfl]:=g.inv (f:="at") (p:=μ "sieve ") (by rw[h];fin2);subst h;let l3:=R G;let Z:↥("sieve ":Str)<=7:=by fin2
  symm;lk;show BP (e:=e) (C:=η mg "NoSieve") (E':=E') (v:=.int n) (fs:=[("at",.int n)]) o T.agO (λu z=>by let#[t,rfl]:=z;rfl) ?_;f_are;show#[rfl,a<*l,a<*B,rfl,?_]>>=bO (Ϥ ()) ?_*>Ν () (q H1 a)
 let#[hc,aa,j,hj6,hj,ab,hz]:=aee _ (g.alk (asJ.mpr λq hq=>by
  simp only[Hj,aaT,afF,or_false]at hq;obtain rfl|rfl|rfl|rfl|rfl:=hq<;>show bne_iff_ne.mpr (by assumption)))
 let M:∀m b,m<j->(pM x)[m]?=↑b->b≠true:=λm b hm e z=>by
  rw[ab m hm]at e;cases e;cases z
 k_go;show km o (a<*l) (g.fs a) (λu z=>z) (je T s (by fin2)) ?_>>=km o (a<*l) (g.fs a) (λu z=>z) (je T s (by fin2)) ?_>>=km o (a<*l) (g.fs a) (λu z=>z) (je T s (by fin2)) ?_>>=#[Ξ,λp2 I=>?_];let#[J,L,H1,p2,H2]:=Ρ I (.lst [.bl (decide (x="NoRow")),.bl (decide (x="NoOrder")),.bl (decide (x="NoSize"))]);let c:=a<|>J;k_go;show km o (c<*l) (g.fs c) (λu z=>z) (je T s (by fin2)) ?_>>=km o (c<*l) (g.fs c) (λu z=>z) (je T s (by fin2)) ?_>>=#[Ξ,λp3 ac=>?_];let#[s3,e3,H2,p3,H3]:=Ρ ac (.tup [V.ref (η mg "NoLine"),V.ref (η mg "NoBook")]);let Gp:=c<|>s3;lk;show DK o (Gp<*l) (g.fs Gp) e3 (zL ((["NoLine","NoBook"]:List Str).map (η mg))) (Ge T s) ?_>>=#[Ξ,λp4 Iv=>?_];let#[s4,e4,H3,p4,H4]:=Ρ Iv (.lst [.bl (decide (x="NoMark")),.bl (decide (x="NoColumns")),.bl (decide (x="NoLine"\/x="NoBook"))]);show Zg (s4<*(s3 _ _ L)) e4 (by show 3+3<=ϳ;omega) λp5 Dd=>?_
 let#[s5,O]:=Ρ Dd (.lst ((pM x).map V.bl));show Φ _ _ _ _ (upd H4 p5 (.lst ((pM x).map V.bl)));generalize upd H4 p5 (.lst ((pM x).map V.bl))=H5 at s5 O⊢;let ae:=(Gp<|>s4)<|>s5;w_up;show Θ ?_>>=bU F.plainAttrs_list F.slot_list_count F.type_list_count (h:=?_);f_are;show#[.inl #[rfl,_,θ.of O],?_]>>=anW (θ.of O) ?_;rw[hc];lk;show aY (λh=>absurd rfl h) (λ_=>?_)>>=#[Ξ,λp6 af=>?_];let#[U,e6,H5,p6,H6]:=Ρ af (.tup [V.ref (η mg "NoValue"),V.ref (η mg "NoPage")]);let Gu:=ae<|>U;lk;show DK o (Gu<*l) (g.fs Gu) e6 (zL ((["NoValue","NoPage"]:List Str).map (η mg))) (Ge T s) ?_;rw[decide_eq_false aa];lk;show Γ ?_;symm;lk;show #[Ξ,λp7 JF=>?_];let#[W,e7,H6,p7,H7]:=Ρ JF (.lst [.str ("row":Str),.str ("order":Str),.str ("size":Str),.str ("mark":Str),.str ("columns":Str),.str ("line":Str)]);show bU F.plainAttrs_list F.slot_list_index F.type_list_index (h:=?_);f_are;show#[.inl #[rfl,_,θ.of (W<*(U _ _ O))],?_]>>=aob (θ.of (W<*(U _ _ O))) hj M ?_*>ϐ (θ.of e7) (bH (show(([μ "row",μ "order",μ "size",μ "mark",μ "columns",μ "line"]:List Str).map V.str)[j]?=↑(.str z)by rw[acS,hz];rfl)) ?_*>q H7 (Gu<|>W)
inductive xR(mg:MG)(sp:Sp):Sp
 |mk (d dx:δ) (b:V) (z:Str):vs=[.ref d,.str z]->bN mg H d dx b->(∀(Q':VK)(E':XK),(∀y H',↥y<=1000000->Q (.str (μ "told "++y)) H'->Q' (.str y) H')->(∀x u y H',dH H' x u.1 y->(∀H2,ζ H' H2->Q (.str y) H2)->E' (.ref (η mg x)) u H')->sp [.ref d,.str z] H Q' E')
def Cg(v:1<=k)(M:Ψ P w K mg base true k (cD mg) "say" ["self","row"] sp):Def (k+1) "_law_said" ["_law_desk","_law_row_here"] (xR mg sp):=by
 exists TV,Cg,j,#[d,dx,b,z,rfl,hd,h],2,1;let lt:↥("told ":Str)=5:=by fin2
 let l:Gc mg "LeafError" (.ref (η mg "LeafError")):=#[_,T.adV,rfl];let B:=!Hn;k_go;k_go;w_up;show vR (λσ c u H'=>σ=[↑(.ref d),↑(.str z),↑(.str ("":Str)),↑.non,none]/\∃x y,c=.ref (η mg x)/\dH H' x u.1 y/\∀H2,ζ H' H2->Q (.str y) H2) rfl rfl (λF pn xo po=>?_) (λσ c u H' m=>?_)
 .f_len;f_tup;show ϛ (pl:=_) j (by walk_at"xo") (by rfl) (by rfl) (by rfl) ?_;f_are;show#[d,cD mg,dx,_,true,k,_,sp,rfl,hd.ins,by rfl,M,Ϭ _,id,?_]>>=h _ _ (λy H' C f=>?_) (λx u y H' a f=>#[rfl,x,y,rfl,a,f])*>Γ ?_;symm;lk;show Ν () f
 .let#[rfl,x,y,rfl,a,q]:=m;show agX nd (by rfl) (by rfl) (by rfl) T.pA.at_ (by decide) (anf (uc T a.mem) T.pA) (λe pn n=>?_);let i:(upd H' e (xw e (η mg x) u.1)) e=↑(xw e (η mg x) u.1):=υ;let g:ζ H' (upd H' e (xw e (η mg x) u.1)):=ζ.upd n;generalize upd H' e (xw e (η mg x) u.1)=o at i g⊢;f_len;f_tup;lk;show Φ _ _ _ [↑(.ref d),↑(.str z),↑(.str ("":Str)),↑(.ref e),none] o;symm;lk;show #[e,x,y,u.1,rfl,i,a.same g,λH2 p=>q H2 (g<|>p)]
def any_map{α β:Type}(f:α->β)(R:List (Int×α))(i:Int):((R.map λr=>(r.1,f r.2)).any λp=>decide (p.1=i))=R.any λp=>decide (p.1=i):=by
 rw[List.any_map];rfl
def Rb{α β:Type}(f:α->β)(R:List (Int×α))(i:Int)(x:α):(aD R i x).map (λr=>(r.1,f r.2))=aD (R.map λr=>(r.1,f r.2)) i (f x):=by
 unfold aD;rw[any_map];split
 .rw[aeu,aeu];show amo λr _=>?_
  show((if r.1=i then(r.1,x)else r).1,f (if r.1=i then(r.1,x)else r).2)=if r.1=i then(r.1,f x)else(r.1,f r.2);split <;>rfl
 .rw[ahZ];rfl
def QF{α β:Type}(f:α->β)(R:List (Int×α))(i:Int):(az R i).map (λr=>(r.1,f r.2))=az (R.map λr=>(r.1,f r.2)) i:=by
 unfold az;rw[atM];rfl
def keys_map{α β:Type}(f:α->β)(R:List (Int×α)):(R.map λr=>(r.1,f r.2)).map (·.1)=R.map (·.1):=by
 rw[aeu];rfl
abbrev Rw:=List (Int×Int)
def aO(n:Int):List V:=[.int n,.str ("x":Str)]
def rB(R:Rw):List Row:=R.map λr=>(r.1,aO r.2)
def rW(R:Rw):xm:=R.map λr=>(r.1,ι r.2)
def eV:List Int:=[3,0,7,1000000000]
theorem Az(a:0<=n)(h:n<=4):bx Ω (i,aO n):=.cons (.inr (.inl #[rfl,n,rfl,(),()])) (.cons (.inr (.inr #[by fin2,μ "x",rfl,by fin2,by fin2])) .nil)
structure Ο(R:Rw)(B:Bk):Prop where
 hd:B.heads=Ω
 rows:B.rows=rB R
 nd:(R.map (·.1)).Nodup
 ok:∀r∈R,r.1∈eV/\0<=r.2/\r.2<=4
 hi:∃all,rD all B/\↥all<=6/\∀d∈all,d.row∈eV/\∀xs,d.is=↑xs->bx Ω (d.row,xs)
 tc:∀i k,Ε B.touched i=↑k->k<=B.now
 tl:(↥B.touched:Int)<=B.now
def mJ(h:i∈eV):0<=i/\i<=1000000000:=by
 simp only[eV,aaT,afF,or_false]at h;omega
def Ο.now(h:Ο R B):0<=B.known/\B.known<=B.now/\B.now<=6:=by
 let#[all,a,c,_]:=h.hi;have:=a.kn;have:=a.now;omega
def Ο.len(h:Ο R B):↥R<=4:=by
 have:=Ak (m:=eV) h.nd λi hi=>by
  let#[r,a,rfl]:=ab9.mp hi;show(h.ok r a).1
 rw[ϰ]at this;show this
def Ο.keys(h:Ο R B):B.rows.map (·.1)=R.map (·.1):=by rw[h.rows];show keys_map _ R
def Ο.nokey(h:Ο R B):Ε B.rows i=none↔i∉R.map (·.1):=by rw[lM,h.keys]
def Ο.Ld(h:Ο R B):↥B.rows<=4:=by
 rw[h.rows];unfold rB;rw[ϰ];show h.len
def Ο.N6(h:Ο R B):↥B.done<=6:=by
 let#[all,a,c,_]:=h.hi;rw[a.done,ahH];omega
def Ο.small(h:Ο R B):oM B:=by
 have:=h.tl;have:=h.now;have:=h.Ld;have:=h.N6;show#[(),(),()]
def Ο.mm(h:Ο R B):dN B:=by
 let#[all,a,c,_]:=h.hi;show a.mom ()
def Ο.wf(h:Ο R B):qT B:=by
 let#[all,a,_]:=h.hi;show a.wf
def Ο.mem{B:Bk}(h:Ο R B){r:Row}(a:r∈B.rows):∃n,(r.1,n)∈R/\0<=n/\n<=4/\r.2=aO n/\0<=r.1/\r.1<=1000000000:=by
 rw[h.rows]at a;let#[q,c,rfl]:=ab9.mp a;let#[h1,h2,e]:=h.ok q c;show#[q.2,c,h2,e,rfl,mJ h1]
def ak8:∀{ds:List bA},(∀d∈ds,∀xs,d.is=↑xs->bx Ω (d.row,xs))->∀i xs,Ε (gB ds) i=↑xs->bx Ω (i,xs):=by
 intro ds hd;unfold gB;have:∀(ds:List bA)(r:List (Int×List V)),(∀d∈ds,∀xs,d.is=↑xs->bx Ω (d.row,xs))->(∀i xs,Ε r i=↑xs->bx Ω (i,xs))->∀i xs,Ε (ds.foldl (λr d=>dX r d.row d.is) r) i=↑xs->bx Ω (i,xs):=by
  intro ds;induction ds with
  |nil=>show λr _ h=>h
  |cons d ds a=>
   show λr hd h=>a _ (λx c=>hd x (acw _ c)) λi xs e=>?_
   rw[uK]at e;by_cases z:i=d.row
   .rw[if_pos z]at e;rw[z];show hd d (adS ..) xs e
   .rw[if_neg z]at e;show h i xs e
 show this ds [] hd (λi xs e=>by cases e)
def Ο.hs(h:Ο R B)(mo:Int)(f:B.known<=mo)(o:mo<=B.now):ik B.rows (jj B mo)/\↥(bZ B mo)<64/\((bZ B mo).map Prod.fst).Nodup/\∀r∈bZ B mo,bx B.heads r:=by
 let#[all,c,p,hd]:=h.hi;let j:=c.kn;let q:=c.now;let#[m,rfl]:=aeo (show 0<=mo by omega);let e:B.done.drop ((m:Int)-B.known).toNat=all.drop m:=by
  rw[c.done,asu]
  congr 1
  omega
 let#[l,n]:=back_eq c.good (↥all-m) m ();show ik B.rows (B.done.drop ((m:Int)-B.known).toNat)/\↥(cO B.rows (B.done.drop ((m:Int)-B.known).toNat))<64/\((cO B.rows (B.done.drop ((m:Int)-B.known).toNat)).map Prod.fst).Nodup/\∀r∈cO B.rows (B.done.drop ((m:Int)-B.known).toNat),bx B.heads r;rw[e,h.hd];let n1:((cO B.rows (all.drop m)).map (·.1)).Nodup:=TY (by rw[h.keys];show h.nd) _;rw[c.rows]at n1⊢;show#[n,?_,n1,λr g=>?_]
 .have :=Ak (m:=eV) n1 λi hi=>Mw (ns:=eV) (λk f=>by
   rw[<-c.rows,h.keys]at f;let#[r,g,rfl]:=ab9.mp f;show(h.ok r g).1) (λd a=>(hd d (ali a)).1) i hi
  rw[ϰ]at this;let s:↥eV=4:=rfl;omega
 .have :=wj n1 g;rw[l]at this;show ak8 (λd a=>(hd d (ar5 a)).2) _ _ this
theorem Ο.zH{R:Rw}{B:Bk}(h:Ο R B){H:Hp}{A:BA}(k:Κ (cB mg) H A B):dF mg H A B where
 bk:=k
 ok:=by rw[h.hd];show rG
 mm:=h.mm
 dn:=by
  let#[all,a,c,_]:=h.hi;have:=a.kn;have:=a.now;rw[a.done,ahH];omega
 r1:=by have:=h.Ld;omega
 d1:=by have:=h.N6;omega
 wf:=h.wf
 tc:=h.tc
 nd:=by have:=h.nd;rw[<-h.keys]at this;show this
 fit:=λr f=>by
  let#[n,_,g,j,e,b]:=h.mem f;rw[h.hd];show#[?_,b];have:=Az (i:=r.1) g j;rw[<-e]at this;show this
 dd:=λd hd xs e=>by
  let#[all,a,c,l]:=h.hi;rw[a.done]at hd;rw[h.hd];show(l d (ali hd)).2 xs e
 hs:=h.hs
theorem Ο.put{R:Rw}{B:Bk}(h:Ο R B){i n:Int}(hi:i∈eV)(a:0<=n)(c:n<=4)(f:B.now<6):Ο (aD R i n) (aG B i ↑(aO n))where
 hd:=h.hd
 rows:=by
  show aD B.rows i (aO n)=rB (aD R i n);rw[h.rows];show(Rb aO R i n).symm
 nd:=Jp h.nd
 ok:=λr l=>by
  let f:=Jp (i:=i) (x:=n) h.nd;have:=wj f l;rw[rA]at this;by_cases e:r.1=i
  .rw[if_pos e]at this;let m:n=r.2:=Option.some.inj this;rw[e, <-m];show#[hi,a,c]
  .rw[if_neg e]at this;show h.ok _ (sH this)
 hi:=by
  let#[all,g,p,o]:=h.hi;have:=g.now;show#[_,g.Uy i ↑(aO n) (λ_ z=>nomatch z),by rw[adz,afZ];omega,λd hd=>?_];obtain hd|hd:=agq.mp hd
  .show o d hd
  .rw[ab7.mp hd];show#[hi,λxs e=>by cases e;show Az a c]
 tc:=λj k e=>by
  let e:Ε (aD B.touched i (B.now+1)) j=↑k:=e;show k<=B.now+1;rw[rA]at e;by_cases z:j=i
  .rw[if_pos z]at e;cases e;omega
  .rw[if_neg z]at e;have:=h.tc _ _ e;omega
 tl:=by
  have:=h.tl;have:=V1 B.touched i (B.now+1);show(↥(aD B.touched i (B.now+1)):Int)<=B.now+1;omega
theorem Ο.take{R:Rw}{B:Bk}(h:Ο R B){i:Int}(hi:i∈R.map (·.1))(g:B.now<6):Ο (az R i) (aG B i none)where
 hd:=h.hd
 rows:=by
  show az B.rows i=rB (az R i);rw[h.rows];show(QF aO R i).symm
 nd:=K9 h.nd
 ok:=λr a=>h.ok r (aiB.mp a).1
 hi:=by
  let#[all,c,l,f]:=h.hi;have:=c.now;show#[_,c.Uy i none (λe _=>h.nokey.mp e hi),by rw[adz,afZ];omega,λd hd=>?_];obtain hd|hd:=agq.mp hd
  .show f d hd
  .rw[ab7.mp hd];let#[r,a,e]:=ab9.mp hi;have:=(h.ok r a).1;rw[e]at this;show#[this,λxs e=>nomatch e]
 tc:=λj k e=>by
  let e:Ε (az B.touched i) j=↑k:=e;show k<=B.now+1;rw[vX]at e;by_cases z:j=i
  .rw[if_pos z]at e;cases e
  .rw[if_neg z]at e;have:=h.tc _ _ e;omega
 tl:=by
  have:=h.tl;have:↥(az B.touched i)<=↥B.touched:=ahq ..;show(↥(az B.touched i):Int)<=B.now+1;omega
theorem Ο.Ij{R:Rw}{B:Bk}(h:Ο R B){i:Int}(h1:B.known<=i)(h2:i<=B.now):Ο R {B with done:=B.done.drop (i-B.known).toNat,known:=i}where
 hd:=h.hd
 rows:=h.rows
 nd:=h.nd
 ok:=h.ok
 hi:=by
  let#[all,a,c,e]:=h.hi;have:=a.kn;show#[all,#[a.rows,?_,a.now,#[by show 0<=i;omega,h2],a.good,a.wf],c,e];show B.done.drop (i-B.known).toNat=all.drop i.toNat;rw[a.done,asu]
  congr 1
  omega
 tc:=h.tc
 tl:=h.tl
theorem cR(a b c:Str):a++b++c=a++(b++c):=d9 (by simp only[aJ,api])
theorem all_rows(l:List Row):(l.filter λr=>ϙ r.2 cA)=l:=atc.mpr λ_ _=>rfl
theorem abI(h:Line cs [] c):(c.map (·.1)).Pairwise (· < ·):=aqV.mpr (List.Pairwise.imp (λ{a b} z=>of_decide_eq_true (show decide (a.1<b.1)=true from z)) h)
def YJ(a:(R.map (·.1)).Nodup)(h:(k,n)∈R):dM (rW R) k=ι k++μ " "++ι n++μ " 'x":=by
 let e:Ε (rW R) k=↑(ι n):=wj (p:=(k,ι n)) (by show((R.map λr=>(r.1,ι r.2)).map (·.1)).Nodup;rw[keys_map];show a) (ab9.mpr #[_,h,rfl]);unfold dM;rw[e];rfl
def Wn(h:Ο R B)(hp:a.Perm (B.rows.filter λr=>ϙ r.2 cA)):lU (jM B a)=dj (rW R) B.now::(a.map (·.1)).map (dM (rW R)):=by
 rw[all_rows]at hp;let c:↥a=↥R:=by
  rw[hp.length_eq,h.rows];show ϰ ..
 let f:↥(rW R)=↥R:=ϰ ..;show jO (jM B a)::(((a.map λr=>(r.1,r.2,true)).map pL)++([]++[]))=_;rw[aiD,aiD,aeu,aeu];show congr (congrArg List.cons ?_) ?_
 .unfold jO dj;show ι 0++μ "+"++ι ((↥(a.map λr=>(r.1,r.2,true)):Nat):Int)++μ " of "++ι ((↥a:Nat):Int)++μ " at "++ι B.now=_;rw[ϰ,c,f,show ι 0++μ "+"=μ "0+" by fin2]
 .show amo λr g=>?_
  let#[n,i,j,l,e,_]:=h.mem (hp.mem_iff.mp g);show pL (r.1,r.2,true)=dM (rW R) r.1;rw[YJ h.nd i,e];show ϭ " " [ι r.1,ι n,μ "'"++μ "x"]=_;rw[aeq,cR _ (" ":Str),show μ " "++(μ "'"++μ "x")=μ " 'x" by fin2]
theorem afJ{l:List Int}(h:l.Pairwise (· < ·)):l.Pairwise (· <= ·):=List.Pairwise.imp (λ{a b} z=>()) h
def nq(R:Rw)(mo:Int)(y:Str):=∃ks:List Int,ks.Perm ((rW R).map (·.1))/\ks.Pairwise (· <= ·)/\y=ϭ "\n" (dj (rW R) mo::ks.map (dM (rW R)))
theorem lu(R:Rw):(rW R).map (·.1)=R.map (·.1):=keys_map ι R
def aaf(h:Ο R B)(c:Line B.heads [] a)(hp:a.Perm (B.rows.filter λr=>ϙ r.2 cA)):nq R B.now (ϭ "\n" (lU (jM B a))):=by
 show#[a.map (·.1),?_,afJ (abI c),by rw[Wn h hp]];rw[all_rows]at hp;rw[lu, <-h.keys];show hp.map _
def Vg(a:(R.map (·.1)).Nodup)(h1:nq R mo y)(h2:nq R mo z):y=z:=by
 let#[k1,p1,c,rfl]:=h1;let#[k2,p2,e,rfl]:=h2;rw[lu]at p1 p2;rw[G7 (λx=>by rw[p1.mem_iff,p2.mem_iff]) (p1.nodup_iff.mpr a) (p2.nodup_iff.mpr a) c e]
def Z1(h:Ο R B):↥(dj (rW R) B.now)<=1000/\∀k∈R.map (·.1),↥(dM (rW R) k)<=1000:=by
 let m:=h.now;let n:=h.len;let a:∀i:Int,0<=i->i<=1000000000->↥(ι i)<=19:=λi e h1=>bV e ()
 constructor
 .let l1:=a (↥(rW R):Nat) () (by have:↥(rW R)=↥R:=ϰ ..;omega);let f:=a B.now () ();let o:↥("0+":Str)=2:=by fin2
  let p:↥(" of ":Str)=4:=by fin2
  let q:↥(" at ":Str)=4:=by fin2
  unfold dj;simp only[len_app];omega
 .intro k g;let#[r,c,rfl]:=ab9.mp g;let#[h1,h2,s]:=h.ok r c;let#[j,l]:=mJ h1;let l1:=a r.1 j l;let f:=a r.2 h2 ();let c1:↥(" ":Str)=1:=by fin2
  let c2:↥(" 'x":Str)=3:=by fin2
  rw[YJ h.nd c];simp only[len_app];omega
theorem abf(h:Ο R B):CK B cA:=λc hp=>by
 let e:=Wn h hp;let o:=h.now;rw[all_rows]at hp;let p:↥c<=4:=by rw[hp.length_eq];show h.Ld
 let g:∀i:Int,0<=i->i<=1000000000->↥(ι i)<=19:=λi f h1=>bV f ()
 let#[p1,p2]:=Z1 h;show#[#[λr j=>?_,by show(c.map _).length<=100;rw[ϰ];omega,rfl,rfl,by show((↥c:Nat):Int).natAbs<_;omega,by show(0:Int).natAbs<_;decide,by show B.now.natAbs<_;omega],?_,?_]
 .let#[q,l,rfl]:=ab9.mp j;let#[n,_,f,s,e,u,v]:=h.mem (hp.mem_iff.mp l);show#[#[by show q.1.natAbs<_;omega,by show ↥q.2<=6;rw[e];show(show 2<=6 by decide),λx a=>?_],rfl];let a:x∈aO n:=e▸a;simp only[aO,aaT,afF,or_false]at a;obtain rfl|rfl:=a
  .show#[#[rfl,trivial,λi z=>by cases z;omega],afG (g n f ()) (by decide)]
  .show#[#[rfl,by show("x":Str).length<=_;fin2,λi z=>by cases z],by fin2]
 .rw[e,acz,ϰ,ϰ];omega
 .rw[e];intro z hz;obtain rfl|hz:=aaT.mp hz
  .show p1
  .let#[k,m,rfl]:=ab9.mp hz;show p2 k ?_;rw[<-h.keys];show(hp.map _).mem_iff.mp m
def Cq(cs:List ο)(os:List Ord)(a:List Row):(aF cs os a).map (·.1)=a.map (·.1):=by
 unfold aF;rw[aeu];rfl
def afE{B:Bk}(h:Ο R B){f:List Row}{ks:List Int}(a:f.Perm ((bZ B B.now).filter λr=>ϙ r.2 cA))(c:ks.Perm ((nA B.heads [] cA B B.now f).map (·.1))):ks.Perm (R.map (·.1)):=by
 let#[all,g,i,_]:=h.hi;have:=g.kn;have:=g.now;let e:B.done.drop (B.now-B.known).toNat=[]:=by
  rw[g.done,asu];show amF ()
 unfold nA jj at c;unfold bZ at a;rw[e]at c a;let a:f.Perm (B.rows.filter λr=>ϙ r.2 cA):=a;rw[all_rows]at a;let c:ks.Perm ((aF B.heads [] f).map (·.1)):=c;rw[Cq]at c;rw[<-h.keys];show c.trans (a.map _)
inductive qP (R0:Rw) (B0:Bk):Rw->Bk->Prop
 |put (i n:Int):qP R0 B0 (aD R0 i n) (aG B0 i ↑(aO n))
 |take (i:Int):qP R0 B0 (az R0 i) (aG B0 i none)
def abz{c B:Bk}(s:Ο l c)(h:Ο R B)(st:qP l c R B){rs:List Row}{ks:List Int}(f:rs.Perm ((bZ B c.now).filter λr=>ϙ r.2 cA))(g:ks.Perm ((nA B.heads [] cA B c.now rs).map (·.1))):ks.Nodup/\∀x,x∈ks↔x∈l.map (·.1)/\x∈R.map (·.1):=by
 let#[all,p,H,_]:=s.hi;have:=p.kn;have:=p.now;let dl:↥c.done=(c.now-c.known).toNat:=by rw[p.done,ahH];omega
 let y:B.known=c.known:=by cases st<;>rfl
 let hs:=(h.hs c.now () (by cases st<;>(show c.now<=c.now+1;omega)));let#[_,_,C,_]:=hs;let u:(rs.map (·.1)).Nodup:=((f.map _).nodup_iff.mpr (C.sublist (List.Sublist.map _ amx)));let one:∀(i:Int)(o:Option (List V))(m:List (Int×Int×List V)),B=aG c i o->(o=none->∀x,Ε B.rows x=if x=i then none else Ε c.rows x)->(o≠none->∀x,x≠i->Ε B.rows x=Ε c.rows x)->m=aF B.heads [] rs->ks.Perm ((stepK B.heads [] cA m #[c.now+1,i,Ε c.rows i,o]).map (·.1))/\∀x,x∈rs.map (·.1)↔x∈l.map (·.1):=by
  intro i o m D n1 n2 em;let E:B.done.drop (c.now-B.known).toNat=[#[c.now+1,i,Ε c.rows i,o]]:=by
   rw[y,D];show(c.done++[_]).drop _=_;rw[<-dl,List.drop_left]
  unfold nA jj at g;unfold bZ at f;rw[E]at g f;show#[by rw[em];show g,λx=>?_];let f:rs.Perm ((dX B.rows i (Ε c.rows i)).filter λr=>ϙ r.2 cA):=f;rw[all_rows]at f;rw[(f.map _).mem_iff, <-s.keys];let e:Ε (dX B.rows i (Ε c.rows i)) x=Ε c.rows x:=by
   rw[uK];by_cases z:x=i
   .rw[if_pos z,z]
   .rw[if_neg z];cases o with
    |none=>rw[n1 rfl,if_neg z]
    |some xs=>show n2 (λz=>nomatch z) x z
  let a:= @lM _ (dX B.rows i (Ε c.rows i)) x;let b:= @lM _ c.rows x;rw[e]at a;constructor
  .intro j;show Classical.byContradiction λq=>a.mp (b.mpr q) j
  .intro j;show Classical.byContradiction λq=>b.mp (a.mpr q) j
 cases st with
 |put i n=>
  let#[g,j]:=one i ↑(aO n) _ rfl (λz=>nomatch z) (λ_ x z=>by show Ε (aD c.rows i (aO n)) x=_;rw[rA,if_neg z]) rfl;let e:stepK (aG c i ↑(aO n)).heads [] cA (aF (aG c i ↑(aO n)).heads [] rs) #[c.now+1,i,Ε c.rows i,↑(aO n)]=aF (aG c i ↑(aO n)).heads [] rs:=by
   unfold stepK;show(match Ε (aF (aG c i ↑(aO n)).heads [] rs) i with|some k=>_|none=>_)=_;cases hg:Ε (aF (aG c i ↑(aO n)).heads [] rs) i with
   |none=>rfl
   |some k=>
    let#[r,_,F]:=ab9.mp (sH hg);have:k.2=[]:=by cases F;rfl
    show(if _=↑k.2 then _ else _)=_;rw[this];show if_pos rfl
  rw[e,Cq]at g;show#[g.nodup_iff.mpr u,λx=>?_];rw[g.mem_iff,j];show#[λz=>#[z,Ww.mpr (.inr z)],λz=>z.1]
 |take i=>
  let#[g,j]:=one i none _ rfl (λ_ x=>by show Ε (az c.rows i) x=_;rw[vX]) (λz=>absurd rfl z) rfl;let e:(stepK (aG c i none).heads [] cA (aF (aG c i none).heads [] rs) #[c.now+1,i,Ε c.rows i,none]).map (·.1)=(az (aF (aG c i none).heads [] rs) i).map (·.1):=by
   unfold stepK;show((match Ε (aF (aG c i none).heads [] rs) i with|some k=>_|none=>_):List (Int×Int×List V)).map _=_;cases hg:Ε (aF (aG c i none).heads [] rs) i with
   |none=>
    have:az (aF (aG c i none).heads [] rs) i=aF (aG c i none).heads [] rs:=atc.mpr λr f=>by
     rw[decide_eq_true_iff];show λz=>lM.mp hg (ab9.mpr #[r,f,z])
    rw[this]
   |some k=>rfl
  rw[e]at g;let G:((aF (aG c i none).heads [] rs).map (·.1)).Nodup:=by rw[Cq];show u
  show#[g.nodup_iff.mpr (K9 G),λx=>?_];let v:∀{α:Type}{m:List (Int×α)},x∈(az m i).map (·.1)↔x∈m.map (·.1)/\x≠i:=λ{α m}=>by
   constructor
   .intro z;let#[r,f,rfl]:=ab9.mp z;let#[a,b]:=aiB.mp f;show#[akd a,of_decide_eq_true b]
   .intro⟨z,ne⟩;let#[r,f,rfl]:=ab9.mp z;show akd (aiB.mpr #[f,decide_eq_true ne])
  rw[g.mem_iff,v,v,Cq,j];show#[λz=>#[z.1,z],λz=>z.2]
theorem aa5(c:Nat):∀xs ys:List Nat,cutAt c (xs++c::ys)=cutAt c xs++cutAt c ys
 |[],ys=>by
  show cutAt c (c::ys)=[]::cutAt c ys;rw[cutAt,if_pos rfl]
 |x::xs,ys=>by
  let e:=aa5 c xs ys;show cutAt c (x::(xs++c::ys))=_;rw[cutAt,cutAt];by_cases h:x=c
  .rw[if_pos h,if_pos h,e];rfl
  .rw[if_neg h,if_neg h,e];cases hx:cutAt c xs with
   |nil=>show absurd hx (zQ c xs)
   |cons a l=>rfl
def nR(a b:Str):χ 32 (a++(μ " "++b))=χ 32 a++χ 32 b:=by
 unfold χ;rw[aJ,aJ,afs];rw[show[32]++b.cps.toList=32::b.cps.toList from rfl,aa5,ahZ]
def aeZ(h:32∉z.cps.toList):χ 32 z=[z]:=by
 unfold χ;rw[K5 h];rfl
def abY(h:0<=i):∀c,c∈(ι i).cps.toList->48<=c/\c<=57:=by
 let#[n,rfl]:=aeo h;show(Ja (vV n).1).1
theorem kW(h:0<=i):χ 32 (ι i)=[ι i]:=aeZ λz=>by have:=abY h 32 z;omega
def lW(h:a=l++μ " "):χ 32 (a++b)=χ 32 l++χ 32 b:=by rw[h,cR,nR]
def akN(h:a=μ " "++(l++μ " ")):χ 32 (x++(a++b))=χ 32 x++(χ 32 l++χ 32 b):=by
 rw[h,cR,cR,nR,nR]
def aaG(h:a=μ " "++l:=by fin2):χ 32 (x++a)=χ 32 x++χ 32 l:=by rw[h,nR]
def bR(P:ϲ)(w:Ϯ)(K:ϩ)(mg:MG)(base:ϫ)(B:Bk)(z:Str)(C:Hp->VK->XK->Prop):=∃(k:Nat)(sp:Sp),1<=k/\k<=60/\ Ψ P w K mg base true k (cD mg) "say" ["self","row"] sp/\∀(H:Hp)(Q:VK)(E:XK)(A:BA)(d dx:δ),bN mg H d dx (.ref A.b)->Κ (cB mg) H A B->H (aP K "sorted_by")=↑(.tbl cX)->C H Q E->sp [.ref d,.str z] H Q E
def XW(mg:MG)(z:Str):Hp->VK->XK->Prop:=λH _ E=>∀x u H',ζ H H'->dH H' x u.1 z->E (.ref (η mg x)) u H'
def TW(Y:Str->Prop):Hp->VK->XK->Prop:=λH Q _=>∀y H',ζ H H'->Y y->Q (.str y) H'
def xq(C:Hp->VK->XK->Prop):=∀H H' Q E,C H Q E->ζ H H'->C H' Q E
theorem XW.mono:xq (XW mg z):=λH H' Q E h s x u H2 a c=>h x u H2 (s<|>a) c
theorem TW.mono:xq (TW Y):=λH H' Q E h s y H2 a c=>h y H2 (s<|>a) c
theorem jf(T:Txt K mg)(ws:List Str)(c:Fq v=↑(n,vb))(M:Ψ P w K mg base true k (cD mg) n (if vb=true then["self","verb","words"]else["self","words"]) sp)(mo:xq C)(e:↥z<=4000)(hc:χ 32 z=v::ws)(h:∀(H:Hp)(Q:VK)(E:XK)(A:BA)(d dx a:δ),bN mg H d dx (.ref A.b)->Κ (cB mg) H A B->H (aP K "sorted_by")=↑(.tbl cX)->H a=↑(.lst (ws.map V.str))->C H Q E->sp (if vb=true then[.ref d,.str v,.ref a]else[.ref d,.ref a]) H Q E)(l:k<=59:=by decide):bR P w K mg base B z C:=
 #[k+1,nj mg v vb sp,(),(),(uM T c M).meth T.au T.vo,λH Q E A d dx hd f g i=>#[d,dx,_,z,ws,rfl,e,hc,hd,λa H' s j=>h H' Q E A d dx a (hd.same s) (f.same s) (s<*g) j (mo _ _ _ _ i s)]]
theorem XW.no(h:XW mg z H Q E)(m:(x,z)∈sE):cG mg H E x:=λH' s=>h x _ H' s (.pl m)
theorem XW.num(h:XW mg z H Q E)(m:numOf x=↑(f,p))(b:n.natAbs<10^18)(c:z=p++ι n):∀e a H',ζ H H'->H' e=↑(.xd [(f,.int n)])->E (.ref (η mg x)) (↑e,a) H':=λe a H' s g=>h x _ H' s (by rw[c];show .num m g b)
def La(h:1000000000<i):dG Ω (.int i) (aO n)=false:=by
 show(decide (0<=i/\i<=1000000000)&&decide (2=2)&&tM Ω (aO n))=false;rw[decide_eq_false (show ¬(0<=i/\i<=1000000000)by omega)];rfl
def Es(a:0<=i)(h:i<=1000000000)(c:0<=n)(f:n<=4):dG Ω (.int i) (aO n)=true:=by
 let e:isNum (.int n)=true:=by
  unfold isNum;show decide_eq_true ()
 show(decide (0<=i/\i<=1000000000)&&decide (2=2)&&(isNum (.int n)&&(jg (.str ("x":Str))&&true)))=true;rw[decide_eq_true (show 0<=i/\i<=1000000000 by omega),e,show jg (.str ("x":Str))=true by fin2];rfl
def Vr(h:0<=i)(a:0<=n):χ 32 ((if on=true then μ "put " else μ "change ")++ι i++μ " "++ι n++μ " 'x")=(if on=true then μ "put" else μ "change")::ι i::(aO n).map wordOf:=by
 rw[cR,cR,cR,lW (l:=if on=true then μ "put" else μ "change") (by cases on<;>fin2),nR,aaG (l:=μ "'x"),kW h,kW a];have:χ 32 ("'x":Str)=[wordOf (.str ("x":Str))]:=by fin2
 rw[this];cases on
 .rw[show χ 32 (if false=true then μ "put" else μ "change")=[μ "change"]by fin2];rfl
 .rw[show χ 32 (if true=true then μ "put" else μ "change")=[μ "put"]by fin2];rfl
def Um(a:0<=i)(h1:i<=9999999999)(c:0<=n)(n1:n<=4):↥((if on=true then μ "put " else μ "change ")++ι i++μ " "++ι n++μ " 'x")<=4000:=by
 let e:↥(if on=true then μ "put " else μ "change ")<=7:=by cases on<;>fin2
 let l1:=bV a h1;let f:=bV c (show n<=9999999999 by omega);let g:↥(" ":Str)=1:=by fin2
 let j:↥(" 'x":Str)=3:=by fin2
 simp only[len_app];omega
theorem WN(n:Int):∀x∈aO n,scalar x=true/\short x:=λx a=>by
 simp only[aO,aaT,afF,or_false]at a;obtain rfl|rfl:=a
 .show#[rfl,trivial]
 .show#[rfl,by show("x":Str).length<=_;fin2]
def Xm:∀c∈ Ω,c.2="number"\/c.2="text":=by fin2
def yV(T:Txt K mg)(hp:Ο R B)(l:0<=i)(h1:i<=9999999999)(hd:(1000000000<i/\due=μ "row")\/(i<=1000000000/\on=true/\i∈R.map (·.1)/\due=μ "twice "++ι i)\/(i<=1000000000/\on=false/\i∉R.map (·.1)/\due=μ "absent "++ι i)):bR P w K mg base B ((if on=true then μ "put " else μ "change ")++ι i++μ " 1 'x") (XW mg due):=by
 rw[show(if on=true then μ "put " else μ "change ")++ι i++μ " 1 'x"=(if on=true then μ "put " else μ "change ")++ι i++μ " "++ι 1++μ " 'x" by rw[cR _ (" ":Str),cR _ (μ " "++ι 1),show μ " "++ι 1++μ " 'x"=μ " 1 'x" by fin2]];show jf T _ (n:="put_or_change") (vb:=true) (by cases on<;>fin2) ((YK T).meth T.au T.Rh) XW.mono (Um l h1 (by decide) (by decide)) (Vr l (by decide)) λH Q E A d dx a v x D y m=>?_
 let u:i.natAbs<10^18:=()
 show#[d,dx,a,A,B,i,aO 1,on,?_,?_,by decide,l,h1,v,x,by rw[hp.hd];decide,by rw[hp.hd];show Xm,by rw[hp.hd];show Az (i:=i) (by decide) (by decide),WN 1,hp.small,hp.mm,λe=>?_,λe j C=>?_,λe j C=>?_,λe j=>?_]
 .cases on<;>rfl
 .show y
 all_goals rw[hp.hd]at e
 .obtain⟨_,rfl⟩|⟨c,_⟩|⟨c,_⟩:=hd
  .show m.no (by fin2)
  .rw[Es l c (by decide) (by decide)]at e;cases e
  .rw[Es l c (by decide) (by decide)]at e;cases e
 .obtain⟨g,_⟩|⟨c,_,hi,rfl⟩|⟨c,z,_⟩:=hd
  .rw[La g]at e;cases e
  .show λo H' s q=>m.num (f:="row") (p:=μ "twice ") (by fin2) u rfl o true H' s q
  .rw[j]at z;cases z
 .obtain⟨g,_⟩|⟨c,z,_⟩|⟨c,_,hi,rfl⟩:=hd
  .rw[La g]at e;cases e
  .rw[j]at z;cases z
  .show λo H' s q=>m.num (f:="row") (p:=μ "absent ") (by fin2) u rfl o true H' s q
 .obtain⟨g,_⟩|⟨c,z,hi,_⟩|⟨c,z,hi,_⟩:=hd
  .rw[La g]at e;cases e
  .show absurd hi (hp.nokey.mp (j.mpr z))
  .rw[j.mp (hp.nokey.mpr hi)]at z;cases z
def af9(T:Txt K mg)(hp:Ο R B)(c:0<=i)(h1:i<=9999999999)(hi:i∉R.map (·.1)):bR P w K mg base B (μ "take "++ι i) (XW mg (μ "absent "++ι i)):=by
 let l1:=bV c h1;let u:↥("take ":Str)=5:=by fin2
 show jf T [ι i] (v:=μ "take") (n:="take_out") (vb:=false) (by fin2) ((TJ T).meth T.au T.abr) XW.mono (by rw[len_app];omega) (by rw[lW (l:=μ "take") (by fin2),kW c];rfl) λH Q E A d dx a e g x j m=>?_
 show#[d,dx,a,A,B,i,rfl,θ.of j,c,h1,e,g,hp.small,hp.wf,hp.mm,λ_ o H' s q=>m.num (f:="row") (p:=μ "absent ") (by fin2) () rfl o true H' s q,λz=>absurd (hp.nokey.mpr hi) z]
def ahM(T:Txt K mg)(hp:Ο R B)(q:B.now<i)(h1:i<=9999999999):bR P w K mg base B (μ "let "++ι i) (XW mg (μ "later "++ι B.now)):=by
 let u:=hp.now;let l1:=bV (i:=i) () h1;let x:↥("let ":Str)=4:=by fin2
 show jf T [ι i] (v:=μ "let") (n:="let_moments_go") (vb:=false) (by fin2) ((Tg T).meth T.au T.Oo) XW.mono (by rw[len_app];omega) (by rw[lW (l:=μ "let") (by fin2),kW ()];rfl) λH Q E A d dx a c e y g j=>?_
 show#[d,dx,a,A,B,i,rfl,θ.of g,(),h1,c,e,hp.mm,λ_ m H' s o=>j.num (f:="now") (p:=μ "later ") (by fin2) () rfl m true H' s o,λz=>(),λ_ z=>()]
def tZ:List (List ο):=[[(μ "aa",μ "whole")],[(μ "aa",μ "text"),(μ "aa",μ "text")],[(μ "Aa",μ "text")],[(μ "",μ "text")],[(μ "a",μ "text"),(μ "b",μ "text"),(μ "c",μ "")]]
def af5(T:Txt K mg)(hc:cs∈tZ)(f:z=ϭ " " (cs.map cU)):bR P w K mg base B (μ "book "++z) (XW mg ("columns":Str)):=by
 let h1:↥(μ "book "++z)<=4000:=by rw[f];show(show ∀cs∈tZ,↥(μ "book "++ϭ " " (cs.map cU))<=4000 by fin2) cs hc
 let h2:χ 32 (μ "book "++z)=μ "book"::cs.map cU:=by rw[f];show(show ∀cs∈tZ,χ 32 (μ "book "++ϭ " " (cs.map cU))=μ "book"::cs.map cU by fin2) cs hc
 let#[g,i,j,e,l]:=(show ∀cs∈tZ,1<=↥cs/\↥cs<=100/\ϗ cs=false/\(∀c∈cs,58∉c.1.cps.toList/\58∉c.2.cps.toList/\↥(cU c)<=1000)/\∀c∈cs,↥c.1<=4000/\↥c.2<=4000 by fin2) cs hc;show jf T (cs.map cU) (v:=μ "book") (n:="new_book") (vb:=false) (by fin2) ((Qc T).meth T.au T.M6) XW.mono h1 h2 λH Q E A d dx a m q s o p=>?_
 show#[d,dx,a,_,cs,rfl,o,g,i,λc hc=>#[(e c hc).1,(e c hc).2.1,(e c hc).2.2],λc hc=>l c hc,m,λ_=>p.no (by fin2),λz=>by rw[j]at z;cases z]
def jy:List (List Str):=[[],[μ "+aa"],[μ "*aa"],[μ "+cc"]]
def xK:List (List Str):=[[μ "all"],[μ "over",μ "aa",μ "'x"],[μ "not"]]
def vI{os ss:List Str}(a:os∈jy)(hs:ss∈xK):LW (os++μ ":"::ss) os ss:=by
 let#[h1,h2,c,e]:=(show ∀os∈jy,∀ss∈xK,μ ":"∉os/\1<=↥ss/\↥(os++μ ":"::ss)<=1000/\∀z∈os++μ ":"::ss,↥z<=1000 by fin2) os a ss hs;show#[rfl,h1,h2,c,e]
theorem vJ{os:List Str}(a:os∈jy):↥(ϭ " " os)<=4000/\((os=[]/\ϕ Ω (ϭ " " os)=some [])\/(os=[μ "+aa"]/\ϕ Ω (ϭ " " os)=some [(μ "aa",true)])\/(os≠[]/\os≠[μ "+aa"]/\ϕ Ω (ϭ " " os)=none)):=(show ∀os∈jy,↥(ϭ " " os)<=4000/\((os=[]/\ϕ Ω (ϭ " " os)=some [])\/(os=[μ "+aa"]/\ϕ Ω (ϭ " " os)=some [(μ "aa",true)])\/(os≠[]/\os≠[μ "+aa"]/\ϕ Ω (ϭ " " os)=none))by fin2) os a
def aba{os:List Str}(a:os∈jy)(e:ϕ Ω (ϭ " " os)=↑o):↥o<=4/\dR Ω o:=by
 rcases(vJ a).2 with⟨_,h⟩|⟨_,h⟩|⟨_,_,h⟩
 .rw[h]at e;cases e;show#[by decide,λo a=>nomatch a]
 .rw[h]at e;cases e;show#[by decide,aeJ]
 .rw[h]at e;cases e
def Jt(hp:Ο R B):ϭ " " [μ "all"]=b7 B cA/\iY B.heads cA:=by
 unfold b7;rw[hp.hd];show#[by fin2,alh]
def Ys(T:Txt K mg)(g:Ϟ K mg base "sorted_by"){B:Bk}(hp:Ο R B){on lv:Bool}{n:Int}{os:List Str}{z:Str}{C:Hp->VK->XK->Prop}(c:os∈jy)(i:0<=n)(h1:n<=9999999999)(mo:xq C)(j:↥z<=4000)(hc:χ 32 z=(if on=true then μ "first" else μ "last")::ϖ lv::ι n::(os++[μ ":",μ "all"]))(l:ϕ Ω (ϭ " " os)=none->∀H Q E,C H Q E->cG mg H E "NoOrder")(ks:ϕ Ω (ϭ " " os)≠none->¬sizeOk n->∀H Q E,C H Q E->cG mg H E "NoSize")(m:sizeOk n->n=100/\os=[]/\∀H Q E,C H Q E->∀y H',ζ H H'->nq R B.now y->Q (.str y) H'):bR P w K mg base B z C:=by
 show jf T _ (n:="begin_list") (vb:=true) (by cases on<;>fin2) ((adf T g cA (by decide)).meth T.au T.T3) mo j hc λH Q E A d dx a p q u v f=>?_
 let#[e1,x]:=Jt hp;show#[d,dx,a,A,B,on,lv,n,_,os,[μ "all"],by cases on<;>rfl,v,vI c (by fin2),e1,(vJ c).1,i,h1,p,hp.zH q,x,u,abf hp,λe=>?_,λo e=>?_]
 .rw[hp.hd]at e;show l e H Q E f
 .rw[hp.hd]at e⊢;let#[D,F]:=aba c e;show#[D,F,λhs=>ks (by rw[e];show λz=>nomatch z) hs H Q E f,λhs=>?_];let#[G,I,k]:=m hs;show#[G,λM H' s J L=>k H Q E f _ H' s ?_];rw[I]at e;cases(show some []=↑o from or_none▸e);show aaf hp J L
def ajT(T:Txt K mg)(j:Ϟ K mg base "sorted_by"){B:Bk}(hp:Ο R B){on lv:Bool}{n:Int}{os c:List Str}{k:Nat}{z due:Str}(g:os∈jy)(hs:c∈xK)(l:0<=n)(h1:n<=9999999999)(m:jH Ω (ϭ " " c) k)(v:k<=100)(o:↥z<=4000)(hc:χ 32 z=(if on=true then μ "first" else μ "last")::ϖ lv::ι n::(os++μ ":"::c))(k1:ϕ Ω (ϭ " " os)=none->due=μ "order")(k2:ϕ Ω (ϭ " " os)≠none->due=μ "sieve "++ι k):bR P w K mg base B z (XW mg due):=by
 show jf T _ (n:="begin_list") (vb:=true) (by cases on<;>fin2) ((amn T j).meth T.au T.T3) XW.mono o hc λH Q E A d dx a q s x u i=>?_
 show#[d,dx,a,A,B,on,lv,n,_,os,c,k,by cases on<;>rfl,u,vI g hs,by rw[hp.hd];show m,(vJ g).1,l,h1,q,s,λe=>?_,λe=>?_]
 .rw[hp.hd]at e;show i.no (by rw[k1 e];fin2)
 .rw[hp.hd]at e;show i.num (f:="at") (p:=μ "sieve ") (by fin2) () (k2 e)
def qp:List Str:=[μ "+aa",μ "*aa",μ "+cc"]
def oZ:List (Str×List Str×Nat):=[(μ "all",[μ "all"],0),(μ "over aa 'x",[μ "over",μ "aa",μ "'x"],2),(μ "not",[μ "not"],1)]
def Pr(h:0<=n)(c:a∈qp)(b:Str):χ 32 (ι n++(μ " "++(a++(μ " : "++b))))=ι n::([a]++μ ":"::χ 32 b):=by
 rw[nR,kW h,akN (l:=μ ":") (by fin2),(show ∀a∈qp,χ 32 a=[a]by fin2) a c,show χ 32 (":":Str)=[μ ":"]by fin2];rfl
def dI(c sz a:Str):Str:=if c≠μ "+aa" then μ "order" else if sz=μ "all" then a else if sz=μ "not" then μ "sieve 1" else μ "sieve 2"
def CN(h:(sz,a,k)∈oZ):a∈xK/\χ 32 sz=a/\ϭ " " a=sz/\↥sz<=20/\((sz=μ "all"/\a=[μ "all"])\/(sz≠μ "all"/\k<=100/\jH Ω sz k/\dI ("+aa":Str) sz ("":Str)=μ "sieve "++ι k)):=by
 simp only[oZ,aaT,afF,or_false,Prod.mk.injEq]at h;obtain⟨rfl,rfl,rfl⟩|⟨rfl,rfl,rfl⟩|⟨rfl,rfl,rfl⟩:=h
 .show#[by fin2,by fin2,by fin2,by fin2,.inl #[rfl,rfl]]
 .show#[by fin2,by fin2,by fin2,by fin2,.inr #[by fin2,by decide,adl,by fin2]]
 .show#[by fin2,by fin2,by fin2,by fin2,.inr #[by fin2,by decide,akV,by fin2]]
theorem HB(h:a∈qp):[a]∈jy/\↥a<=10/\(ϕ Ω (ϭ " " [a])=none↔a≠μ "+aa"):=(show ∀a∈qp,[a]∈jy/\↥a<=10/\(ϕ Ω (ϭ " " [a])=none↔a≠μ "+aa")by fin2) a h
def O4(c:0<=n)(h1:n<=9999999999)(l1:↥hd<=20)(e:↥a<=10)(f:↥sz<=20):↥(hd++ι n++μ " "++a++μ " : "++sz)<=4000:=by
 let g:=bV c h1;let i:↥(" ":Str)=1:=by fin2
 let j:↥(" : ":Str)=3:=by fin2
 simp only[len_app];omega
def aiF(T:Txt K mg)(i:Ϟ K mg base "sorted_by")(hp:Ο R B)(p:∀b,χ 32 (hd++b)=(if on=true then μ "first" else μ "last")::ϖ lv::χ 32 b)(l1:↥hd<=20)(l:a∈qp)(hs:(sz,j,k)∈oZ)(c:0<=n)(h1:n<=9999999999)(q:¬sizeOk n):bR P w K mg base B (hd++ι n++μ " "++a++μ " : "++sz) (XW mg (dI a sz ("size":Str))):=by
 let#[s,u,v,x,y]:=CN hs;let#[m,C,f]:=HB l;let o:=O4 (hd:=hd) c h1 l1 C x;let hc:χ 32 (hd++ι n++μ " "++a++μ " : "++sz)=(if on=true then μ "first" else μ "last")::ϖ lv::ι n::([a]++μ ":"::j):=by
  rw[cR,cR,cR,cR,p,Pr c l,u]
 obtain⟨rfl,rfl⟩|⟨ne,D,F,G⟩:=y
 .show Ys T i hp m c h1 XW.mono o hc (λe H Q E g=>g.no ?_) (λe _ H Q E g=>g.no ?_) (λz=>absurd z q)
  .unfold dI;rw[if_pos (f.mp e)];fin2
  .unfold dI;rw[if_neg (λz=>e (f.mpr z)),if_pos rfl];fin2
 .show ajT T i hp m s c h1 (by rw[v];show F) D o hc (λe=>?_) (λe=>?_)
  .unfold dI;rw[if_pos (f.mp e)]
  .rw[<-G];unfold dI;rw[if_neg (show ¬a≠μ "+aa" from λz=>e (f.mpr z)),if_neg ne,if_neg (show ¬μ "+aa"≠μ "+aa" from λz=>z rfl),if_neg ne]
theorem Hi(T:Txt K mg)(a:Ϟ K mg base "sorted_by")(hp:Ο R B)(on:Bool):bR P w K mg base B (if on=true then μ "first living 100 : all" else μ "last still 100 : all") (TW (nq R B.now)):=
 Ys T a hp (on:=on) (lv:=on) (n:=100) (os:=[]) (by fin2) (by decide) (by decide) TW.mono (by cases on<;>fin2) (by cases on<;>fin2) (λe=>by rw[show ϭ " " []=μ "" from rfl,or_none]at e;cases e) (λ_ z=>absurd (by unfold sizeOk;omega) z) (λ_=>#[rfl,rfl,λH Q E h=>h])
def ad9(T:Txt K mg)(c:Ϟ K mg base "sorted_by")(hp:Ο R B):bR P w K mg base B ("place 100 0 : all":Str) (TW (nq R B.now)):=by
 show jf T [ι 100,ι 0,μ ":",μ "all"] (v:=μ "place") (n:="show_place") (vb:=false) (by fin2) ((agF T c cA (by decide)).meth T.au T.ajk) TW.mono (by fin2) (by fin2) λH Q E A d dx a e f g i j=>?_
 let#[e1,l]:=Jt hp;show#[d,dx,a,A,B,[μ ":",μ "all"],[],[μ "all"],[],rfl,i,vI (os:=[]) (by fin2) (by fin2),e1,(by fin2),e,hp.zH f,l,g,abf hp,by rw[hp.hd];show or_none,by decide,(λo m=>nomatch m),λu H' s p q=>j _ H' s (aaf hp p q)]
def Ng(h:0<=n):χ 32 (μ "stood "++ι n++μ " : all")=μ "stood"::ι n::([]++[μ ":",μ "all"]):=by
 rw[cR,lW (l:=μ "stood") (by fin2),aaG (l:=μ ": all"),kW h,show χ 32 ("stood":Str)=[μ "stood"]by fin2,show χ 32 (": all":Str)=[μ ":",μ "all"]by fin2];rfl
def MJ(S:Int->Prop)(y:Str):=∃ks:List Int,ks.Nodup/\ks.Pairwise (· <= ·)/\(∀x,x∈ks↔S x)/\y=v9 ks
def Ex(T:Txt K mg){B:Bk}(hp:Ο R B){n:Int}{os:List Str}{z:Str}{C:Hp->VK->XK->Prop}(f:os∈jy)(g:ϕ Ω (ϭ " " os)≠none)(p:0<=n)(h1:n<=9999999999)(mo:xq C)(q:↥z<=4000)(hc:χ 32 z=μ "stood"::ι n::(os++[μ ":",μ "all"]))(u:n<B.known->∀H Q E,C H Q E->Gn mg B H E)(v:B.now<n->∀H Q E,C H Q E->Lt mg B H E)(y:B.known<=n->n<=B.now->os=[]/\∀c ks,c.Perm ((bZ B n).filter λr=>ϙ r.2 cA)->ks.Pairwise (· <= ·)->ks.Perm ((nA B.heads [] cA B n c).map (·.1))->(∀k∈ks,k∈eV)/\↥ks<=64/\∀H Q E,C H Q E->∀H',ζ H H'->Q (.str (v9 ks)) H'):bR P w K mg base B z C:=by
 show jf T _ (n:="show_stood") (vb:=false) (by fin2) ((anm T cA (by decide)).meth T.au T.V9) mo q hc λH Q E A d dx a D i M j l=>?_
 let#[e1,F]:=Jt hp;let#[o,e]:=Option.ne_none_iff_exists'.mp g;let#[G,I]:=aba f e;show#[d,dx,a,A,B,n,_,os,[μ "all"],o,rfl,j,vI f (by fin2),e1,(vJ f).1,p,h1,D,hp.zH i,F,by rw[hp.hd];show e,G,by rw[hp.hd];show I,#[λh=>u h H Q E l,λh=>v h H Q E l,λj i c ks H' s g hs J=>?_]];let#[m,k]:=y j i;rw[m]at e;cases(show some []=↑o from or_none▸e);let#[k1,k2,k3]:=k c ks g hs J;show#[k2,λx L=>by have:=mJ (k1 x L);omega,k3 H Q E l H' s]
def ag4(T:Txt K mg)(hp:Ο R B):bR P w K mg base B (μ "stood "++ι B.now++μ " : all") (TW (MJ λx=>x∈R.map (·.1))):=by
 let j:=hp.now;let l1:=bV (i:=B.now) () ();let l:↥("stood ":Str)=6:=by fin2
 let m:↥(" : all":Str)=6:=by fin2
 show Ex T hp (os:=[]) (by fin2) (by fin2) () () TW.mono (by simp only[len_app];omega) (Ng ()) (λz=>()) (λz=>()) λ_ _=>#[rfl,λn ks a hs c=>?_]
 let e:=afE hp a c;let f:∀k∈ks,k∈eV:=λk c=>by
  let#[r,a,rfl]:=ab9.mp (e.mem_iff.mp c);show(hp.ok r a).1
 show#[f,?_,λH Q E g H' s=>g _ H' s #[ks,e.nodup_iff.mpr hp.nd,hs,λx=>e.mem_iff,rfl]];have:=hp.len;rw[e.length_eq,ϰ];omega
def am6(T:Txt K mg)(f:Ο c a)(hp:Ο R B)(st:qP c a R B):bR P w K mg base B (μ "stood "++ι a.now++μ " : all") (TW (MJ λx=>x∈c.map (·.1)/\x∈R.map (·.1))):=by
 let o:=f.now;let p:B.now=a.now+1/\B.known=a.known:=by cases st<;>show#[rfl,rfl]
 let l1:=bV (i:=a.now) () ();let q:↥("stood ":Str)=6:=by fin2
 let u:↥(" : all":Str)=6:=by fin2
 show Ex T hp (os:=[]) (by fin2) (by fin2) () () TW.mono (by simp only[len_app];omega) (Ng ()) (λz=>()) (λz=>()) λ_ _=>#[rfl,λv ks g hs j=>?_]
 let#[nd,e]:=abz f hp st g j;let l:∀k∈ks,k∈eV:=λk j=>by
  let#[r,g,rfl]:=ab9.mp ((e k).mp j).1;show(f.ok r g).1
 have:=Ak (m:=eV) nd l;let y:↥eV=4:=rfl;show#[l,(),λH Q E n H' s=>n _ H' s #[ks,nd,hs,e,rfl]]
def ae4(T:Txt K mg)(hp:Ο R B)(y:c∈qp)(hs:(sz,j,k)∈oZ)(i:0<=n)(h1:n<=9999999999)(m:(B.now<n/\fin=μ "later "++ι B.now)\/(n<B.known/\fin=μ "gone "++ι B.known)):bR P w K mg base B (μ "stood "++ι n++μ " "++c++μ " : "++sz) (XW mg (dI c sz fin)):=by
 let hn:=hp.now;let#[I,J,L,M,O]:=CN hs;let#[o,S,C]:=HB y;let D:=O4 (hd:=μ "stood ") i h1 (by fin2) S M;let hc:χ 32 (μ "stood "++ι n++μ " "++c++μ " : "++sz)=μ "stood"::ι n::([c]++μ ":"::j):=by
  rw[cR,cR,cR,cR,lW (l:=μ "stood") (by fin2),Pr i y,J,show χ 32 ("stood":Str)=[μ "stood"]by fin2];rfl
 let g:(ϕ Ω (ϭ " " [c])≠none->k<=100/\jH Ω sz k/\dI c sz fin=μ "sieve "++ι k)->bR P w K mg base B (μ "stood "++ι n++μ " "++c++μ " : "++sz) (XW mg (dI c sz fin)):=by
  intro q;show jf T _ (n:="show_stood") (vb:=false) (by fin2) ((akc T).meth T.au T.V9) XW.mono D hc λH Q E A d dx a U W ht X F=>?_
  show#[d,dx,a,A,B,n,_,[c],j,rfl,X,vI o I,(vJ o).1,i,h1,U,W,λe=>?_,λe=>?_]
  .rw[hp.hd]at e;show F.no (by unfold dI;rw[if_pos (C.mp e)];fin2)
  .rw[hp.hd]at e;let#[b1,Y,Z]:=q e;show#[k,by rw[hp.hd,L];show Y,F.num (f:="at") (p:=μ "sieve ") (by fin2) () Z]
 by_cases u:ϕ Ω (ϭ " " [c])=none
 .show g λz=>absurd u z
 let G:¬c≠μ "+aa":=λz=>u (C.mpr z)
 obtain⟨rfl,rfl⟩|⟨ne,k4,q,ed⟩:=O
 .let ef:dI c ("all":Str) fin=fin:=by unfold dI;rw[if_neg G,if_pos rfl]
  rw[ef];show Ex T hp o u i h1 XW.mono D hc (λz H Q E v=>?_) (λz H Q E v=>?_) (λz1 z2=>by obtain⟨h,_⟩|⟨h,_⟩:=m<;>omega)
  .obtain⟨h,_⟩|⟨_,e⟩:=m
   .omega
   .show λx H' s h2=>v.num (f:="known") (p:=μ "gone ") (by fin2) () e x true H' s h2
  .obtain⟨_,e⟩|⟨h,_⟩:=m
   .show λx H' s h2=>v.num (f:="now") (p:=μ "later ") (by fin2) () e x true H' s h2
   .omega
 .show g λ_=>#[k4,q,?_]
  rw[<-ed];unfold dI;rw[if_neg G,if_neg ne,if_neg (show ¬μ "+aa"≠μ "+aa" from λz=>z rfl),if_neg ne]
def R3:∀lv:Bool,∀m,m<9->↥(bF (bW lv m))<=40:=by fin2
def amc:∀lv:Bool,∀m,m<9->gG lv++μ "/"++ι ((m:Nat):Int)++μ "/-bb/not none aa/>3 'x"=ϥ (bW lv m):=by fin2
def Ph(h:0<=n)(z:Str):χ 32 ((if on=true then μ "forth " else μ "back ")++ι n++μ " "++z)=(if on=true then μ "forth" else μ "back")::ι n::χ 32 z:=by
 rw[cR,cR,lW (l:=if on=true then μ "forth" else μ "back") (by cases on<;>fin2),nR,kW h,show χ 32 (if on=true then μ "forth" else μ "back")=[if on=true then μ "forth" else μ "back"]by cases on<;>fin2];rfl
def Qu(a:0<=n)(h1:n<=9999999999)(e:↥z<=100):↥((if on=true then μ "forth " else μ "back ")++ι n++μ " "++z)<=4000/\1<=↥(χ 32 z)/\↥(χ 32 z)<=1000/\∀y∈χ 32 z,↥y<=1000:=by
 let f:↥(if on=true then μ "forth " else μ "back ")<=6:=by cases on<;>fin2
 let l1:=bV a h1;let g:↥(" ":Str)=1:=by fin2
 let i:=Aw 32 z;show#[by simp only[len_app];omega,?_,(),λy c=>by have:=Il c;omega];unfold χ;rw[ϰ];show aoj.mpr (zQ 32 _)
def aeB(T:Txt K mg)(q:Ϟ K mg base "sorted_by")(hp:Ο R B)(i:0<=n)(h1:n<=9999999999)(u:m<9)(hd:(B.now<(m:Nat)/\due=μ "later "++ι B.now)\/((m:Nat)<=B.now/\lv=false/\(m:Nat)<B.known/\due=μ "gone "++ι B.known)\/((m:Nat)<=B.now/\(lv=false->B.known<=(m:Nat))/\¬sizeOk n/\due=μ "size")):bR P w K mg base B ((if on=true then μ "forth " else μ "back ")++ι n++μ " "++bF (bW lv m)) (XW mg due):=by
 let G:=hp.now;let#[v,x,y,C]:=Qu (on:=on) (z:=bF (bW lv m)) i h1 (afG (R3 lv m u) (by decide));show jf T _ (n:="turn_list") (vb:=true) (by cases on<;>fin2) ((afc T q jk (by decide)).meth T.au T.Uj) XW.mono v (Ph i _) λH Q E A d dx a D g F c j=>?_
 let es:(bW lv m).sieve=b7 B jk:=by unfold b7;rw[hp.hd];show Ro.symm
 show#[d,dx,a,A,B,on,n,_,bW lv m,by cases on<;>rfl,c,x,y,C,wk _,i,h1,D,hp.zH g,by rw[hp.hd];show Hm,es,by rw[hp.hd];show anC,by rw[hp.hd];show Em,F,λc g=>?_,λc=>?_,λc=>#[λl g=>?_,λl=>?_]]
 .obtain⟨h,_⟩|⟨_,e,h,_⟩|⟨_,_,h,_⟩:=hd
  .show absurd c (by show ¬((m:Nat):Int)<=_;omega)
  .show absurd (g e) (by show ¬_<=((m:Nat):Int);omega)
  .show h
 .obtain⟨_,e⟩|⟨h,_⟩|⟨h,_⟩:=hd
  .show λo H' s h2=>j.num (f:="now") (p:=μ "later ") (by fin2) () e o true H' s h2
  .show absurd c (by show ¬_<((m:Nat):Int);omega)
  .show absurd c (by show ¬_<((m:Nat):Int);omega)
 .obtain⟨h,_⟩|⟨_,_,_,e⟩|⟨_,h,_⟩:=hd
  .show absurd c (by show ¬((m:Nat):Int)<=_;omega)
  .show λo H' s h2=>j.num (f:="known") (p:=μ "gone ") (by fin2) () e o true H' s h2
  .show absurd g (by have:=h l;show ¬((m:Nat):Int)<_;omega)
 .obtain⟨h,_⟩|⟨_,e,h,_⟩|⟨_,_,_,e⟩:=hd
  .show absurd c (by show ¬((m:Nat):Int)<=_;omega)
  .show absurd (l e) (by show ¬_<=((m:Nat):Int);omega)
  .show j.no (by rw[e];fin2)
def alH(T:Txt K mg)(f:Ϟ K mg base "sorted_by")(hp:Ο R B)(e:0<=n)(h1:n<=9999999999)(g:↥z<=100)(hc:∀c∈z.cps.toList,c<1114112)(i:vZ Ω z):bR P w K mg base B ((if on=true then μ "forth " else μ "back ")++ι n++μ " "++z) (XW mg ("mark":Str)):=by
 let#[j,l,m,o]:=Qu (on:=on) e h1 g;show jf T _ (n:="turn_list") (vb:=true) (by cases on<;>fin2) ((ahe T f).meth T.au T.Uj) XW.mono j (Ph e _) λH Q E A d dx a p q C v x=>?_
 show#[d,dx,a,A,B,on,n,_,by cases on<;>rfl,v,l,m,o,e,h1,p,q,by rw[wk];omega,by rw[wk];show hc,by rw[wk,hp.hd];show i,λu H' s y=>x "NoMark" u H' s (by rw[y];show .pl (by fin2))]
def pick{α:Type}(xs:List α){i:Int}(c:0<=i)(h1:i<(↥xs:Nat)):∃x,xs[i.toNat]?=↑x/\x∈xs/\∀f:α->V,Ϛ (xs.map f) i=↑(f x):=by
 let#[n,rfl]:=aeo c;let a:n<↥xs:=()
 show#[xs[n],aad a,ak7 a,λf=>bH (by rw[acS,aad a];rfl)]
def Ej(i:Int)(h:DictAt iI H a (rW R)):∃r,aK H a (.int i) r/\r.isSome=decide (i∈R.map (·.1)):=by
 let#[Ϸ,c,f]:=h;show#[_,aK.k (k:=Sum.inl i) c,?_];obtain⟨e,g⟩|⟨v,x,e,g,_⟩:=iz f i
 .rw[e,decide_eq_false (by rw[<-lu];show lM.mp g)];rfl
 .rw[e,decide_eq_true (by rw[<-lu];show akd (sH g))];rfl
def qi(P:ϲ)(w:Ϯ)(K:ϩ)(mg:MG)(base:ϫ)(B:Bk)(H:Hp)(Q:VK):=∀p z due H',ζ H H'->H' p=↑(.tup [.str z,.str due])->(z=μ ""\/bR P w K mg base B z (XW mg due))->Q (.ref p) H'
theorem qi.same(h:qi P w K mg base B H Q)(s:ζ H H'):qi P w K mg base B H' Q:=λp z due H2 a=>h p z due H2 (s<|>a)
inductive Nt(P:ϲ)(w:Ϯ)(K:ϩ)(mg:MG)(base:ϫ):Sp
 |mk (sc r:δ) (ns:List Int) (k way:Int) (R:Rw) (B:Bk):vs=[.ref sc,.int k,.ref r,.int way]->θ K H sc (ns.map V.int)->↥ns<=63->0<=k->k<=40000->0<=way->way<3->DictAt iI H r (rW R)->Ο R B->qi P w K mg base B H Q
def G5:Def 2 "_law_deed_row" ["_law_script","_law_k","_law_rows","_law_way"] (Nt P w K mg base):=by
 show Ζ (S:=Wc) T.G5 (λ_ _ A _ _ H vs Q E u h=>?_);let#[sc,r,ns,k,v,R,B,rfl,x,y,k0,k1,w0,L,C,hp,q]:=h;let nd:=Wc.nd;let n1:=T.cY;let n:_+1<cLine:=af6 (ahC (by decide:1<=64) _) u.units;let hsz:=ϯ;let M:=!nQ;k_go;show#[Ξ,λp1 l=>?_];rw[show(10:Int)^Int.toNat 10-1=9999999999 by decide,show(1000000000:Int)+1=1000000001 by decide];let#[j,e1,H,p1,H1]:=Ρ l (.lst [.int 3,.int 0,.int 7,.int 1000000000,.int 1000000001,.int 9999999999]);lk;show#[sc,ns,k,6,rfl,j.seq x,y,(),(),by decide,?_];let#[i,_,hi,D]:=pick ([3,0,7,1000000000,1000000001,9999999999]:List Int) (dh ns k (m:=6) (by decide)) (cQ ns k (m:=6) (by decide));let#[e,f]:=(show ∀i∈([3,0,7,1000000000,1000000001,9999999999]:List Int),0<=i/\i<=9999999999 by decide) i hi;show ϐ (θ.of e1) (D V.int) ?_;let l1:=bV e f;let O:↥(μ (toString i))<=19:=l1;let F:=q.same j;let#[r1,o,s]:=Ej i (H:=H1) (by let#[Ϸ,G,I]:=C;show#[Ϸ,j<*G,I]);let U:↥("put ":Str)=4:=by fin2
 let W:↥("change ":Str)=7:=by fin2
 let Y:↥("take ":Str)=5:=by fin2
 let Z:↥(" 1 'x":Str)=5:=by fin2
 let a5:↥("twice ":Str)=6:=by fin2
 let a6:↥("absent ":Str)=7:=by fin2
 let st:∀{X:Cx}{Q:VK},Q (.str (μ (toString i))) H1->CL X (.type "str") [.int i] H1 Q:=λh=>bO (Ϥ ()) h
 let a:∀(z due:Str),(z=μ ""\/bR P w K mg base B z (XW mg due))->∀p,H1 p=none->Q (.ref p) (upd H1 p (.tup [.str z,.str due])):=λz due h p hp=>F p z due _ (ζ.upd hp) υ h
 let c:2<=ϳ:=()
 w_up;show Θ ?_>>=Μ (λJ=>?_) (λJ=>Γ ?_)
 .w_up;show Θ ?_>>=Μ (λh=>?_) (λh=>Γ ?_)
  .f_len;show ρ ?_>>=st ?_*>Ν () ?_>>=Ν (by rw[len_app];omega) ?_>>=#[c,a<*(.inr (yV T hp (on:=true) e f (.inl #[(),rfl])))]
  .f_len;show ρ ?_>>=oE n o ?_;rw[s];lk;show Μ (λg=>?_) (λg=>?_)
   .lk;show st ?_*>Ν () ?_>>=Ν (by rw[len_app];omega) ?_>>=st ?_*>Ν () ?_>>=#[c,a _ _ (.inr (yV T hp (on:=true) e f (.inr (.inl #[(),rfl,g,rfl]))))]
   .lk;show#[c,a<*(.inl rfl)]
 w_up;show Θ ?_>>=oE n o ?_;rw[s];lk;show Μ (λg=>?_) (λg=>Γ ?_)
 .f_len;show ρ ?_>>=#[c,a<*(.inl rfl)]
 w_up;show Θ ?_>>=Μ (λ_=>?_) (λ_=>Γ ?_)
 .f_len;show ρ ?_>>=st ?_*>Ν () ?_>>=st ?_*>Ν () ?_>>=#[c,a<*(.inr (af9 T hp e f g))]
 symm;lk;show st ?_*>Ν () ?_>>=Ν (by rw[len_app];omega) ?_>>=Μ (λh=>?_) (λh=>?_)
 .lk;show#[c,a<*(.inr (yV T hp (on:=false) e f (.inl #[(),rfl])))]
 .lk;show st ?_*>Ν () ?_>>=#[c,a _ _ (.inr (yV T hp (on:=false) e f (.inr (.inr #[(),rfl,g,rfl]))))]
def Kw(k:Nat):Str:=if k=0 then μ "" else if k=2 then μ "sieve 2" else μ "sieve 1"
def ZF(hs:(sz,e,k)∈oZ)(hd:c=if a≠μ "+aa" then μ "order" else Kw k)(fin:Str):dI a sz fin=if c≠μ "" then c else fin:=by
 unfold dI;by_cases h:a≠μ "+aa"
 .rw[if_pos h]at hd⊢;rw[hd,if_pos (by fin2)]
 .rw[if_neg h]at hd⊢;simp only[oZ,aaT,afF,or_false,Prod.mk.injEq]at hs;obtain⟨rfl,rfl,rfl⟩|⟨rfl,rfl,rfl⟩|⟨rfl,rfl,rfl⟩:=hs
  .rw[hd,if_pos rfl,if_neg (by fin2)]
  .rw[hd,if_neg (by fin2),if_neg (by fin2),if_pos (by fin2)];fin2
  .rw[hd,if_neg (by fin2),if_pos rfl,if_pos (by fin2)];fin2
def Le:List (Str×Bool×Bool):=[(μ "first living ",true,true),(μ "last still ",false,false),(μ "first still ",true,false)]
def amj(h:(hd,on,lv)∈Le):↥hd<=20/\∀b,χ 32 (hd++b)=(if on=true then μ "first" else μ "last")::ϖ lv::χ 32 b:=by
 have:=(show ∀q∈Le,↥q.1<=20/\q.1=((if q.2.1=true then μ "first" else μ "last")++(μ " "++ϖ q.2.2))++μ " "/\χ 32 (if q.2.1=true then μ "first" else μ "last")=[if q.2.1=true then μ "first" else μ "last"]/\χ 32 (ϖ q.2.2)=[ϖ q.2.2]by fin2) _ h;let#[h1,h2,a,c]:=this;show#[h1,λb=>?_];rw[lW h2,nR,a,c];rfl
inductive Ds(P:ϲ)(w:Ϯ)(K:ϩ)(mg:MG)(base:ϫ):Sp
 |mk (sc:δ) (ns:List Int) (k way:Int) (R:Rw) (B:Bk):vs=[.ref sc,.int k,.int B.now,.int B.known,.int way]->θ K H sc (ns.map V.int)->↥ns<=63->0<=k->k<=40000->Ο R B->qi P w K mg base B H Q
def JS(hN:Ϟ K mg base "sorted_by"):Def 2 "_law_list_row" ["_law_script","_law_k","_law_moment","_law_oldest","_law_way"] (Ds P w K mg base):=by
 show Ζ (S:=Vh) T.JS (λf M A outer s H vs Q E hr h=>?_);let#[sc,ns,k,C,R,B,rfl,l,o,k0,k1,hp,q]:=h;let nd:=Vh.nd;let n1:=T.cY;let hsz:=ϯ;let BK:=hp.now;let D0:=!nQ;k_go;show#[Ξ,λp1 O=>?_];let#[U,e1,H,p1,H1]:=Ρ O (.lst [.str ("+aa":Str),.str ("*aa":Str),.str ("+cc":Str)]);lk;show#[sc,ns,k,3,rfl,U.seq l,o,(),(),by decide,?_];let#[F,_,W,eo]:=pick qp (dh ns k (m:=3) (by decide)) (cQ ns k (m:=3) (by decide));show ϐ (θ.of e1) (eo V.str) ?_;k_go;show#[Ξ,λp2 Y=>?_];let#[s2,e2,H1,p2,H2]:=Ρ Y (.lst [.str ("all":Str),.str ("over aa 'x":Str),.str ("not":Str)]);let L:=U<|>s2;lk;show#[sc,ns,k+1,3,rfl,L.seq l,o,(),(),by decide,?_];let#[#[sz,ss,kk],_,hs,es]:=pick oZ (dh ns (k+1) (m:=3) (by decide)) (cQ ns (k+1) (m:=3) (by decide));show ϐ (v:=.str sz) (θ.of e2) (es λq=>V.str q.1) ?_;let#[_,_,_,l3,_]:=CN hs;let#[_,l2,_]:=HB W;let b1:↥(" ":Str)=1:=by fin2
 let b2:↥(" : ":Str)=3:=by fin2
 let b3:↥("stood ":Str)=6:=by fin2
 let b4:↥("later ":Str)=6:=by fin2
 let b5:↥("gone ":Str)=5:=by fin2
 let g:2<=ϳ:=()
 let st:∀{X:Cx}{Q:VK}{i:Int}{G:Hp},0<=i->i<=9999999999->(↥(μ (toString i))<=19->Q (.str (μ (toString i))) G)->CL X (.type "str") [.int i] G Q:=λh0 h1 h=>bO (Ϥ ()) (h (bV h0 h1))
 let rest:∀(u:Str)(H3:Hp),(∀c,dI F sz c=if u≠μ "" then u else c)->ζ H H3->Φ (fD true P w K mg base yw "_law_list_row" (ς nu) f M A outer s H E) ((ϣ nu).drop 3) {nx:=λ_ H'=>Q .non H',rt:=Q} [↑(.ref sc),↑(.int k),↑(.int B.now),↑(.int B.known),↑(.int C),↑(.str F),↑(.str sz),↑(.str u),none,none,none,none] H3:=by
  intro u H3 Z D;let c:∀(z a:Str)(G:Hp),ζ H3 G->bR P w K mg base B z (XW mg (dI F sz a))->∀p,G p=none->Q (.ref p) (upd G p (.tup [.str z,.str (if u≠μ "" then u else a)])):=λz a G sg h p hp=>q p z _ _ (D<|>sg<|>(ζ.upd hp)) υ (.inr (by rw[<-Z];show h))
  w_up;show Θ ?_>>=Μ (λhw=>?_) (λhw=>Γ ?_)
  .w_up;f_tup;lk;show#[Ξ,λp4 Iv=>?_];rw[show(10:Int)^Int.toNat 10-1=9999999999 by decide];let#[s4,e4,H3,p4,H4]:=Ρ Iv (.lst [.int 0,.int 101,.int 9999999999]);lk;show#[sc,ns,k+2,3,rfl,(D<|>s4).seq l,o,(),(),by decide,?_];let#[n,_,hn,en]:=pick ([0,101,9999999999]:List Int) (dh ns (k+2) (m:=3) (by decide)) (cQ ns (k+2) (m:=3) (by decide));let#[I,J,m2]:=(show ∀n∈([0,101,9999999999]:List Int),0<=n/\n<=9999999999/\¬(1<=n/\n<=100)by decide) n hn;show ϐ (θ.of e4) (en V.int) ?_;k_go;show#[Ξ,λp5 Dd=>?_];let#[s5,e5,H4,p5,H5]:=Ρ Dd (.lst [.str ("first living ":Str),.str ("last still ":Str),.str ("first still ":Str)]);let Vm:=s4<|>s5;lk;show#[sc,ns,k+3,3,rfl,(D<|>Vm).seq l,o,(),(),by decide,?_];let#[#[hd,on,lv],_,hh,eh]:=pick Le (dh ns (k+3) (m:=3) (by decide)) (cQ ns (k+3) (m:=3) (by decide));let#[l1,hc]:=amj hh;show ϐ (v:=.str hd) (θ.of e5) (eh λq=>V.str q.1) ?_;let sy:=aiF (P:=P) (w:=w) T hN hp hc l1 W hs I J m2;symm;lk;show st I J λl4=>?_
   show Ν () ?_>>=Ν (by simp only[len_app];omega) ?_>>=Ν (by simp only[len_app];omega) ?_>>=Ν (by simp only[len_app];omega) ?_>>=Ν (by simp only[len_app];omega) ?_;lk;let a:=c _ _ H5 Vm sy;show aY (λh=>?_) (λh=>?_)
   .lk;rw[if_pos λz=>h (by rw[z])]at a;show#[g,a]
   .lk;rw[if_neg λz=>z (V.str.inj h)]at a;show#[g,a]
  let e:∀n:Int,0<=n->n<=9999999999->B.now<n\/n<B.known->Φ (fD true P w K mg base yw "_law_list_row" (ς nu) f M A outer s H E) ((ϣ nu).drop 6) {nx:=λ_ H'=>Q .non H',rt:=Q} [↑(.ref sc),↑(.int k),↑(.int B.now),↑(.int B.known),↑(.int C),↑(.str F),↑(.str sz),↑(.str u),none,none,↑(.int n),none] H3:=by
   intro n I J hn;let y:∀a:Str,(B.now<n/\a=μ "later "++ι B.now)\/(n<B.known/\a=μ "gone "++ι B.known)->Φ (fD true P w K mg base yw "_law_list_row" (ς nu) f M A outer s H E) ((ϣ nu).drop 7) {nx:=λ_ H'=>Q .non H',rt:=Q} [↑(.ref sc),↑(.int k),↑(.int B.now),↑(.int B.known),↑(.int C),↑(.str F),↑(.str sz),↑(.str u),none,none,↑(.int n),↑(.str a)] H3:=by
    intro a hf;let j:=c _ _ H3 (ζ.refl _) (ae4 (P:=P) (w:=w) T hp W hs I J hf);symm;lk;show st I J λl4=>?_
    show Ν () ?_>>=Ν (by simp only[len_app];omega) ?_>>=Ν (by simp only[len_app];omega) ?_>>=Ν (by simp only[len_app];omega) ?_>>=Ν (by simp only[len_app];omega) ?_>>=aY (λh=>?_) (λh=>?_)
    .lk;rw[if_pos λz=>h (by rw[z])]at j;show#[g,j]
    .lk;rw[if_neg λz=>z (V.str.inj h)]at j;show#[g,j]
   k_go;show Μ (λh=>?_) (λh=>?_)
   .lk;show st () () λl4=>?_
    show Ν () ?_*>y _ (.inl #[(),rfl])
   .lk;show st () () λl4=>?_
    show Ν () ?_*>y _ (.inr #[(),rfl])
  k_go;show#[sc,ns,k+2,3,rfl,D.seq l,o,(),(),by decide,?_];let g0:=dh ns (k+2) (m:=3) (by decide);let g1:=cQ ns (k+2) (m:=3) (by decide);generalize gq ns (k+2) 3=x at g0 g1⊢;lk;w_up;show Θ ?_>>=#[sc,ns,k+3,2,rfl,D.seq l,o,(),(),by decide,?_]>>=Μ (λh=>?_) (λh=>?_)
  .lk;show Μ (λh2=>?_) (λh2=>?_)
   .f_len;f_tup;lk;show#[sc,ns,k+2,B.known,rfl,D.seq l,o,(),(),(),?_]*>e _ (dh ns (k+2) (m:=B.known) ()) (by have:=cQ ns (k+2) (m:=B.known) ();omega) (.inr (cQ ns (k+2) (m:=B.known) ()))
   .show Γ (e _ () () (.inl ()))
  .lk;show Γ (e _ () () (.inl ()))
 k_go;show aY (λh=>?_) (λh=>?_)
 .lk;show rest _ H2 (ZF hs (by rw[if_pos λz=>h (by rw[z])])) L
 .lk;show#[Ξ,λp3 aa=>?_];let#[s3,e3,H2,p3,H3]:=Ρ aa (.lst [.str ("":Str),.str ("sieve 2":Str),.str ("sieve 1":Str)]);lk;show#[sc,ns,k+1,3,rfl,(L<|>s3).seq l,o,(),(),by decide,?_]*>ϐ (v:=.str (Kw kk)) (θ.of e3) (es λq=>V.str (Kw q.2.2)) ?_*>rest _ H3 (ZF hs (by rw[if_neg λz=>z (V.str.inj h)])) (L<|>s3)
def wC:Str:=μ "l/0/+cc/all/<3 1"
def vW:Str:=μ "l/00//all/<3"
def mO(lv:Bool)(m:Nat):List Str:=[bF (bW lv m)++μ "0",Ϗ (bF (bW lv m)) ↑1 none,μ "",lJ wC,lJ vW]
def anj:∀lv:Bool,∀m,m<9->∀z∈mO lv m,↥z<=100/\∀c∈z.cps.toList,c<1114112:=by fin2
def akt:∀lv:Bool,∀m,m<9->(ϥ (bW lv m)).cps.toList≠[]/\ϊ ((ϥ (bW lv m)).cps.toList.drop 1)≠ϊ (ϥ (bW lv m)).cps.toList:=by fin2
def Wj(M:Mk):(bF M).cps.toList=(ϥ M).cps.toList++46::(ϝ (ϊ (ϥ M).cps.toList)).cps.toList:=by
 unfold bF;rw[aJ,aJ,api,show(".":Str).cps.toList=[46]by fin2];rfl
theorem aiH(e:m<9):∀z∈mO lv m,vZ Ω z:=λz c=>by
 let a:=aaM (ϥ (bW lv m)).cps.toList;simp only[mO,aaT,afF,or_false]at c;obtain rfl|rfl|rfl|rfl|rfl:=c
 .show .inl (aeE (l:=(ϥ (bW lv m)).cps.toList++[46]) (t:=(ϝ (ϊ (ϥ (bW lv m)).cps.toList)).cps.toList++[48]) ?_ (λz=>?_) (by rw[adz,a.2];decide))
  .rw[aJ,Wj,show("0":Str).cps.toList=[48]by fin2];simp
  .obtain z|z:=agq.mp z
   .show a.1 z
   .show absurd z (by decide)
 .let#[n1,n2]:=akt lv m e;show .inl (.inr #[(ϥ (bW lv m)).cps.toList.drop 1,_,?_,a.1,λz=>n2 (ag1 z).symm]);rw[show↑(1:Int)=↑((1:Nat):Int)from rfl,uD,Wj,arK (aoj.mpr n1)]
 .show .inl (.inl (by fin2))
 .show .inr #[wC,μ "NoOrder",rfl,by fin2,by fin2,μ "l",μ "0",μ "+cc",μ "all",μ "<3 1",by fin2,true,rfl,.inr #[0,by fin2,by decide,rfl,ahv]]
 .show .inr #[vW,μ "NoMark",rfl,by fin2,by fin2,μ "l",μ "00",μ "",μ "all",μ "<3",by fin2,true,rfl,.inl #[rfl,by fin2]]
inductive Io(P:ϲ)(w:Ϯ)(K:ϩ)(mg:MG)(base:ϫ):Sp
 |mk (sc:δ) (ns:List Int) (k way:Int) (R:Rw) (B:Bk):vs=[.ref sc,.int k,.int B.now,.int B.known,.int way]->θ K H sc (ns.map V.int)->↥ns<=63->0<=k->k<=40000->Ο R B->qi P w K mg base B H Q
def G4(Y:Ϟ K mg base "sorted_by"):Def 2 "_law_mark_row" ["_law_script","_law_k","_law_moment","_law_oldest","_law_way"] (Io P w K mg base):=by
 show Ζ (S:=Xh) T.G4 (λf Ϲ A outer s H vs Q E hr h=>?_);let#[sc,ns,k,C,R,B,rfl,j,l,k0,k1,hp,q]:=h;let nd:=Xh.nd;let n1:=T.cY;let hsz:=ϯ;let BK:=hp.now;let D0:=!nQ;let D1:=!FQ;let st:∀{X:Cx}{Q:VK}{i:Int}{G:Hp},0<=i->i<=9999999999->(↥(μ (toString i))<=19->Q (.str (μ (toString i))) G)->CL X (.type "str") [.int i] G Q:=λh0 h1 h=>bO (Ϥ ()) (h (bV h0 h1))
 let b1:↥(" ":Str)=1:=by fin2
 let b4:↥("later ":Str)=6:=by fin2
 let b5:↥("gone ":Str)=5:=by fin2
 let a:2<=ϳ:=()
 k_go;show#[Ξ,λp1 D=>?_];let#[F,e1,H,p1,H1]:=Ρ D (.lst [.int 0,.int 1,.int 101]);lk;show#[sc,ns,k,3,rfl,F.seq j,l,(),(),by decide,?_];let#[n,_,hn,en]:=pick ([0,1,101]:List Int) (dh ns k (m:=3) (by decide)) (cQ ns k (m:=3) (by decide));let#[I,J,m2]:=(show ∀n∈([0,1,101]:List Int),0<=n/\n<=9999999999/\(n≠1->¬(1<=n/\n<=100))by decide) n hn;show ϐ (θ.of e1) (en V.int) ?_;k_go;show#[Ξ,λp2 L=>?_];let#[Z,e2,H1,p2,H2]:=Ρ L (.lst [.str ("forth ":Str),.str ("back ":Str)]);let o:=F<|>Z;lk;show#[sc,ns,k+1,2,rfl,o.seq j,l,(),(),by decide,?_];let#[on,_,_,eb]:=pick ([true,false]:List Bool) (dh ns (k+1) (m:=2) (by decide)) (cQ ns (k+1) (m:=2) (by decide));show ϐ (θ.of e2) (eb λb=>V.str (if b=true then μ "forth " else μ "back ")) ?_;let l0:↥(if on=true then μ "forth " else μ "back ")<=6:=by cases on<;>fin2
 lk;show st I J λl1=>?_
 show Ν () ?_>>=Ν (by simp only[len_app];omega) ?_;k_go;show#[sc,ns,k+2,B.now+3,rfl,o.seq j,l,(),(),(),?_];let a0:=dh ns (k+2) (m:=B.now+3) ();let a1:=cQ ns (k+2) (m:=B.now+3) ();generalize gq ns (k+2) (B.now+3)=x at a0 a1⊢;let#[m,rfl]:=aeo a0;let u:m<9:=()
 k_go;show#[sc,ns,k+3,2,rfl,o.seq j,l,(),(),by decide,?_];obtain⟨lv,M⟩:∃lv:Bool,∃c:Nat,Ϛ ("ls":Str).cps.toList (gq ns (k+3) 2)=↑c/\(#[#v[c]]:Str)=gG lv:=by
  let g0:=dh ns (k+3) (m:=2) (by decide);let g1:=cQ ns (k+3) (m:=2) (by decide);generalize gq ns (k+3) 2=y at g0 g1⊢;rcases(show y=0\/y=1 by omega)with rfl|rfl
  .show#[true,108,by fin2,by fin2]
  .show#[false,115,by fin2,by fin2]
 let#[c,ec,M]:=M;show Ab (by fin2) ec ?_;rw[M];k_go;let l2:↥(gG lv)=1:=by cases lv<;>fin2
 let l3:↥("/":Str)=1:=by fin2
 let l4:↥("/-bb/not none aa/>3 'x":Str)<=30:=by fin2
 show Ν () ?_>>=st () () λl5=>?_
 show Ν (by simp only[len_app];omega) ?_>>=Ν (by simp only[len_app];omega) ?_;lk;let et:=amc lv m u;rw[show gG lv++μ "/"++μ (toString ((m:Nat):Int))++μ "/-bb/not none aa/>3 'x"=ϥ (bW lv m)from et];show#[_,rfl,afG (GD rG (Hm (lv:=lv))).2 (by decide),Wf rG (Hm),?_];rw[show lJ (ϥ (bW lv m))=bF (bW lv m)from rfl];let l6:=R3 lv m u;let e:∀(z due:Str)(G:Hp),ζ H2 G->(z=μ ""\/bR P w K mg base B z (XW mg due))->∀p,G p=none->Q (.ref p) (upd G p (.tup [.str z,.str due])):=λz due G sg h p hp=>q p z due _ (o<|>sg<|>(ζ.upd hp)) υ h
 let wr:=aiH (lv:=lv) u;let ws:=anj lv m u;let v:=λdue h=>aeB (P:=P) (w:=w) (base:=base) (due:=due) T Y hp (on:=on) (lv:=lv) I J u h
 let Ws:mO lv m=[bF (bW lv m)++μ "0",Ϗ (bF (bW lv m)) ↑1 none,μ "",lJ wC,lJ vW]:=rfl;generalize hmk:bF (bW lv m)=O at l6 v Ws⊢;w_up;show Θ ?_>>=Μ (λhw=>?_) (λhw=>Γ ?_)
 .w_up;f_tup;lk;let l7:↥("0":Str)=1:=by fin2
  show Ν () ?_>>=jZ () ?_>>=#[wC,rfl,by fin2,by fin2,?_]>>=#[vW,rfl,by fin2,by fin2,?_]>>=#[Ξ,λp3 U=>?_];let#[W,e3]:=Ρ U (.lst ((mO lv m).map V.str));rw[show([.str (O++μ "0"),.str (Ϗ O ↑1 none),.str ("":Str),.str (lJ wC),.str (lJ vW)]:List V)=(mO lv m).map V.str by rw[Ws];rfl];generalize upd H2 p3 (.lst ((mO lv m).map V.str))=H3 at W e3⊢;symm;lk;show #[sc,ns,k+4,5,rfl,(o<|>W).seq j,l,(),(),by decide,?_];let#[z,_,hz,ez]:=pick (mO lv m) (dh ns (k+4) (m:=5) (by decide)) (cQ ns (k+4) (m:=5) (by decide));show ϐ (θ.of e3) (ez V.str) ?_;let#[z1,z2]:=ws z hz;show Ν (by simp only[len_app];omega) ?_>>=#[a,e _ _ H3 W (.inr (alH T Y hp (on:=on) I J z1 z2 (wr z hz)))]
 w_up;show Θ ?_>>=Μ (λh=>?_) (λh=>Γ ?_)
 .f_len;show ρ ?_>>=Ν (by simp only[len_app];omega) ?_>>=st () () λl7=>?_
  show Ν () ?_>>=#[a,e _ _ H2 (ζ.refl _) (.inr (v _ (.inl #[(),rfl])))]
 let g:(lv=false->B.known<=(m:Nat))->Φ (fD true P w K mg base Wa "_law_mark_row" (ς Bb) f Ϲ A outer s H E) ((ϣ Bb).drop 8) {nx:=λ_ H'=>Q .non H',rt:=Q} [↑(.ref sc),↑(.int k),↑(.int B.now),↑(.int B.known),↑(.int C),↑(.int n),↑(.str ((if on=true then μ "forth " else μ "back ")++μ (toString n)++μ " ")),↑(.int (m:Nat)),↑(.str (gG lv)),↑(.str O),none] H2:=by
  intro hk;symm;lk;show aY (λh1=>?_) (λh1=>?_)
  .lk;show Ν (by simp only[len_app];omega) ?_>>=#[a,e _ _ H2 (ζ.refl _) (.inr (v _ (.inr (.inr #[(),hk,m2 (λz=>h1 (by rw[z])),rfl]))))]
  .lk;show#[a,e _ _ H2 (ζ.refl _) (.inl rfl)]
 w_up;show Θ ?_;lk;cases lv with
 |true=>
  show Μ (λh=>absurd (V.str.inj h) (by fin2)) (λ_=>?_)>>=Γ (g (λz=>nomatch z))
 |false=>
  show fG ?_>>=Μ (λh=>?_) (λh=>?_)
  .f_len;show ρ ?_>>=Ν (by simp only[len_app];omega) ?_>>=st () () λl7=>?_
   show Ν () ?_>>=#[a,e _ _ H2 (ζ.refl _) (.inr (v _ (.inr (.inl #[(),rfl,(),rfl]))))]
  .show Γ (g (λ_=>()))
def Ah:List (Str×List ο):=[(μ "aa:whole",[(μ "aa",μ "whole")]),(μ "aa:text aa:text",[(μ "aa",μ "text"),(μ "aa",μ "text")]),(μ "Aa:text",[(μ "Aa",μ "text")]),(μ ":text",[(μ "",μ "text")]),(μ "a:text b:text c:",[(μ "a",μ "text"),(μ "b",μ "text"),(μ "c",μ "")])]
theorem ad1(h:(z,cs)∈Ah):cs∈tZ/\z=ϭ " " (cs.map cU)/\↥z<=20:=(show ∀q∈Ah,q.2∈tZ/\q.1=ϭ " " (q.2.map cU)/\↥q.1<=20 by fin2) _ h
inductive Ew(P:ϲ)(w:Ϯ)(K:ϩ)(mg:MG)(base:ϫ):Sp
 |mk (sc r:δ) (ns:List Int) (k:Int) (R:Rw) (B:Bk):vs=[.ref sc,.int k,.ref r,.int B.now,.int B.known]->θ K H sc (ns.map V.int)->↥ns<=63->0<=k->k<=30000->DictAt iI H r (rW R)->Ο R B->qi P w K mg base B H Q
def Hv(n:Ϟ K mg base "sorted_by"):Def 3 "_law_row" ["_law_script","_law_k","_law_rows","_law_moment","_law_oldest"] (Ew P w K mg base):=by
 show Ζ (S:=Wz) T.Hv (λ_ _ A _ _ H vs Q E L h=>?_);let#[sc,r,ns,k,R,B,rfl,e,f,k0,k1,o,hp,q]:=h;let nd:=Wz.nd;let n1:=T.cY;let hsz:=ϯ;let M:=hp.now;let O:=!nQ;let U:=!G5;let W:Def P w K mg base true 2 "_law_list_row" ["_law_script","_law_k","_law_moment","_law_oldest","_law_way"] (Ds P w K mg base):=JS T n;let Y:Def P w K mg base true 2 "_law_mark_row" ["_law_script","_law_k","_law_moment","_law_oldest","_law_way"] (Io P w K mg base):=G4 T n;let st:∀{X:Cx}{Q:VK}{i:Int}{G:Hp},0<=i->i<=9999999999->(↥(μ (toString i))<=19->Q (.str (μ (toString i))) G)->CL X (.type "str") [.int i] G Q:=λs h1 h=>bO (Ϥ ()) (h (bV s h1))
 let Z:↥("later ":Str)=6:=by fin2
 let b5:↥("let ":Str)=4:=by fin2
 let b6:↥("book ":Str)=5:=by fin2
 let g:2<=ϳ:=()
 k_go;show#[sc,ns,k,9,rfl,e,f,(),(),by decide,?_];let w0:=dh ns k (m:=9) (by decide);let u:=cQ ns k (m:=9) (by decide);generalize gq ns k 9=a at w0 u⊢;w_up;show Θ ?_>>=Μ (λh=>?_) (λh=>Γ ?_)
 .f_len;show ρ ?_>>=#[sc,r,ns,k+1,a,R,B,rfl,e,f,(),(),w0,h,o,hp,q]
 w_up;show Θ ?_>>=Μ (λh=>?_) (λh=>Γ ?_)
 .f_len;show ρ ?_>>=#[sc,ns,k+1,a,R,B,rfl,e,f,(),(),hp,q]
 w_up;show Θ ?_>>=Μ (λh=>?_) (λh=>Γ ?_)
 .f_len;show ρ ?_>>=#[sc,ns,k+1,a,R,B,rfl,e,f,(),(),hp,q]
 w_up;show Θ ?_>>=Μ (λh=>?_) (λh=>Γ ?_)
 .f_len;show ρ ?_>>=#[sc,ns,k+1,5,rfl,e,f,(),(),by decide,?_];let y:=dh ns (k+1) (m:=5) (by decide);let C:=cQ ns (k+1) (m:=5) (by decide);generalize gq ns (k+1) 5=x at y C⊢;lk;show st () () λl1=>?_
  show Ν () ?_>>=st () () λl2=>?_
  show Ν () ?_>>=#[g,λp c=>q p _ _ _ (ζ.upd c) υ (.inr (ahM T hp () ()))]
 k_go;show#[Ξ,λp1 j=>?_];let l:ζ H (upd H p1 (.lst [.str ("aa:whole":Str),.str ("aa:text aa:text":Str),.str ("Aa:text":Str),.str (":text":Str),.str ("a:text b:text c:":Str)])):=ζ.upd j;let e1:(upd H p1 (.lst [.str ("aa:whole":Str),.str ("aa:text aa:text":Str),.str ("Aa:text":Str),.str (":text":Str),.str ("a:text b:text c:":Str)])) p1=↑(.lst (Ah.map λq=>V.str q.1)):=υ;generalize upd H p1 (.lst [.str ("aa:whole":Str),.str ("aa:text aa:text":Str),.str ("Aa:text":Str),.str (":text":Str),.str ("a:text b:text c:":Str)])=H1 at l e1⊢;symm;lk;show #[sc,ns,k+1,5,rfl,l.seq e,f,(),(),by decide,?_];let#[#[z,cs],_,D,F]:=pick Ah (dh ns (k+1) (m:=5) (by decide)) (cQ ns (k+1) (m:=5) (by decide));let#[I,J,z3]:=ad1 D;show ϐ (v:=.str z) (θ.of e1) (F λq=>V.str q.1) ?_*>Ν () ?_>>=#[g,λp c=>q p _ _ _ (l<|>(ζ.upd c)) υ (.inr (af5 T I J))]
def aep(ks:List Int)(p:Int->Bool)(f:Int->V):iW (λj=>p (ks.getD j 0)) (λj=>f (ks.getD j 0)) ↥ks=(ks.filter p).map f:=by
 let h:∀n,n<=↥ks->iW (λj=>p (ks.getD j 0)) (λj=>f (ks.getD j 0)) n=((ks.take n).filter p).map f:=by
  intro n;induction n with
  |zero=>show λ_=>rfl
  |succ n a=>
   intro c;let e:ks[n]?=↑ks[n]:=aad c;let d:ks.getD n 0=ks[n]:=by rw[ac0,e];rfl
   rw[Wx,a (),asv,e,d,aso,ahZ]
   congr 1
   show(if p ks[n]=true then[f ks[n]]else[])=(List.filter p [ks[n]]).map f;by_cases hp:p ks[n]=true
   .rw[if_pos hp,List.filter_cons_of_pos hp];rfl
   .rw[if_neg hp,List.filter_cons_of_neg hp];rfl
 have:=h ↥ks (Ϭ _);rw[ai0]at this;show this
inductive G8(K:ϩ)(mg:MG):Sp
 |mk (A:BA) (d dx r bf:δ) (R0 R:Rw) (B0 B:Bk):vs=[.ref d,.ref r,.int B.now,.ref bf]->bN mg H d dx (.ref A.b)->Κ (cB mg) H A B->H (aP K "sorted_by")=↑(.tbl cX)->DictAt iI H r (rW R)->Ο R0 B0->Ο R B->qP R0 B0 R B->H bf=↑(.lst ((R0.map (·.1)).map V.int))->(∀H',ζ H H'->Q (.bl true) H')
def Kr(hN:Ϟ K mg base "sorted_by"):Def 61 "_law_is_now" ["_law_desk","_law_rows","_law_moment","_law_before"] (G8 K mg):=by
 show Ζ (S:=aaw) T.Kr (λf Ϲ A' outer s H vs Q E Y h=>?_);let#[A,d,dx,r,bf,R0,R,B0,B,rfl,hd,kB,tb,hD,n,hp,stp,aa,q]:=h;let nd:=aaw.nd;let n1:=T.cY;let n2:=T.qU;let hu:_+1<cLine:=af6 (ahC (by decide:1<=64) _) Y.units;let hsz:=ϯ;let BK:=hp.now;let hR:=hp.len;let D1:=!Be;let CZ:∀{G:Hp},ζ H G->DictAt iI G r (rW R):=λsg=>by let#[Ϸ,ea,hR]:=hD;show#[Ϸ,sg<*ea,hR]
 let rb:∀q∈rW R,0<=q.1/\q.1<=1000000000/\↥q.2<=20:=λq hq=>by
  let#[x,c,rfl]:=ab9.mp hq;let#[x1,x2,x3]:=hp.ok x c;let#[x4,x5]:=mJ x1;show#[x4,x5,afG (bV x2 ()) (by decide)]
 let o:∀z∈[μ "first living 100 : all",μ "last still 100 : all",μ "place 100 0 : all"],bR P w K mg base B z (TW (nq R B.now)):=λz v=>by
  simp only[aaT,afF,or_false]at v;obtain rfl|rfl|rfl:=v
  .show Hi T hN hp true
  .show Hi T hN hp false
  .show ad9 T hN hp
 w_up;show sZ (by walk_at"po") (by rfl) (by intro _;rfl) ?_>>=#[Ξ,λp1 ab=>?_];let s1:ζ H (upd H p1 (.lst [.str ("first living 100 : all":Str),.str ("last still 100 : all":Str),.str ("place 100 0 : all":Str)])):=ζ.upd ab;let e1:(upd H p1 (.lst [.str ("first living 100 : all":Str),.str ("last still 100 : all":Str),.str ("place 100 0 : all":Str)])) p1=↑(.lst ([μ "first living 100 : all",μ "last still 100 : all",μ "place 100 0 : all"].map V.str)):=υ;generalize upd H p1 (.lst [.str ("first living 100 : all":Str),.str ("last still 100 : all":Str),.str ("place 100 0 : all":Str)])=H1 at s1 e1⊢;show#[p1,_,rfl,θ.of e1,λi σ H'=>(∃o4,σ=[↑(.ref d),↑(.ref r),↑(.int B.now),↑(.ref bf),o4,none])/\ζ H1 H',#[#[none,rfl],ζ.refl _],λi σ H' _ D=>θ.of (D.2<*e1),λi x σ H' c D=>?_,λσ H' D=>?_]
 .let#[#[o4,rfl],Z]:=D;rw[acS]at c;let#[z,v,rfl]:=ahh.mp c;let m:=s1<|>Z;let#[k,sp,k1,k2,M,hM]:=o z (abD v);show ω nd ?_;f_len;show Θ ?_>>=ϛ (pl:=_) Y Β (h:=?_);f_are;show#[d,cD mg,dx,_,true,k,_,sp,rfl,(hd.same m).ins,by rfl,M,k2,id,?_]>>=hM _ _ _ A d dx (hd.same m) (kB.same m) (m<*tb) λy H2 F I=>?_
  let ύ:=m<|>F;lk;show#[r,rW R,B.now,rfl,CZ ύ,by show(R.map _).length<64;rw[ϰ];omega,(),(),rb,λks H3 s3 ac ae=>?_];let ey:=Vg hp.nd I #[ks,ac,ae,rfl];rw[<-ey];generalize y=yy;lk;show aY (λh=>absurd rfl h) (λ_=>?_)*>Γ #[#[_,rfl],Z<|>F<|>s3]
 let#[#[o4,rfl],Z]:=D;let m:=s1<|>Z;let bB:(["_law_row_here","_law_rows"]:List Str).Nodup:=by fin2
 let h0l:=n.len;let st:∀{X:Cx}{Q:VK}{i:Int}{G:Hp},0<=i->i<=9999999999->(↥(μ (toString i))<=19->Q (.str (μ (toString i))) G)->CL X (.type "str") [.int i] G Q:=λn h1 h=>bO (Ϥ ()) (h (bV n h1))
 w_up;show akZ ["_law_row_here","_law_rows"] (σ':=[none,↑(.ref r)]) (by rfl) (by rfl) (by rfl) (b8 (ς BX)) (by intro _;rfl) nd (by rfl) (by rfl) ?_>>=am9 (θ.of (m<*aa)) (by rw[ϰ];omega) λL ks hL g af=>?_
 let F:ζ H' (upd H' L (.lst (ks.map V.int))):=ζ.upd hL;let e2:(upd H' L (.lst (ks.map V.int))) L=↑(.lst (ks.map V.int)):=υ;generalize upd H' L (.lst (ks.map V.int))=H2 at F e2⊢;let ύ:=m<|>F;let hkl:↥ks=↥R0:=by rw[g.length_eq,ϰ]
 let kb:∀k∈ks,0<=k/\k<=9999999999:=λk a=>by
  let#[x,c,rfl]:=ab9.mp (g.mem_iff.mp a);have:=mJ (n.ok x c).1;omega
 show#[L,_,rfl,θ.of e2,by rw[ϰ];omega,λτ=>∃J,τ=[J,↑(.ref r)],λj=>decide (ks.getD j 0∈R.map (·.1)),λj=>V.str (ι (ks.getD j 0)),#[none,rfl],λfp E2 C s3 H0' j τ x H3 aR c ag Χ =>?_,λL2 H3 hL2 xu Χ =>?_]
 .let#[J,rfl]:=ag;rw[acS]at c;let#[k,a,rfl]:=ahh.mp c;let ek:ks.getD j 0=k:=by rw[ac0,a];rfl
  let#[k0,k1]:=kb k (abD a);let#[r1,g1,eg]:=Ej k (CZ (ύ<|>Χ));show ω bB ?_>>=oE hu g1 ?_;rw[eg];show#[_,rfl,?_]*>#[by show _=decide (ks.getD j 0∈R.map (·.1));rw[ek],#[_,rfl],ζ.refl _,λ_=>?_]>>=st k0 k1 λ_=>#[by show _=V.str (ι (ks.getD j 0));rw[ek],ζ.refl _]
 rw[ϰ,aep ks (λk=>decide (k∈R.map (·.1))) (λk=>V.str (ι k))]at xu;let xu:H3 L2=some (.lst (((ks.filter λk=>decide (k∈R.map (·.1))).map ι).map V.str)):=by rw[xu,aeu];rfl
 let O :=ύ<|>Χ;let eb:B.now=B0.now+1:=by cases stp<;>rfl
 let hn0:=n.now;let b1:↥(" ":Str)=1:=by fin2
 let b2:↥("stood ":Str)=6:=by fin2
 let b3:↥(" : all":Str)=6:=by fin2
 let fk:∀k∈ks.filter λk=>decide (k∈R.map (·.1)),0<=k/\k<=9999999999:=λk a=>kb k (aiB.mp a).1
 let jl:∀l:List Int,↥l<=4->(∀k∈l,0<=k/\k<=9999999999)->((l.map ι).map (·.length)).sum+↥(l.map ι)*↥(" ":Str)<=ϳ:=λl hl hb=>by
  have:=iH (l:=l.map ι) λz v=>by
   let#[k,a,rfl]:=ab9.mp v;have:=bV (hb k a).1 (hb k a).2;omega
  rw[ϰ]at this⊢;rw[b1];omega
 let#[ka,ah,_,ai,Ma,ak]:=am6 (P:=P) (w:=w) (base:=base) T n hp stp;let#[kc,al,_,am,Mc,an]:=ag4 (P:=P) (w:=w) (base:=base) T hp;w_up;show Θ ?_>>=ϛ (pl:=_) Y Β (h:=?_);f_are;show#[d,cD mg,dx,_,true,ka,_,ah,rfl,(hd.same O).ins,by rfl,Ma,ai,id,?_];lk;rw[show B.now-1=B0.now by omega];show st () () λl1=>?_
 show Ν () ?_>>=Ν (by rw[len_app];omega) ?_>>=ak _ _ _ A d dx (hd.same O) (kB.same O) (O<*tb) λy H4 s4 I=>?_
 lk;let ar:(ks.filter λk=>decide (k∈R.map (·.1))).length<=4:=afG (ahq ..) ();show iV (θ.of (s4<*xu)) (jl _ ar fk) ?_;let#[l1,v1,v2,v3,rfl]:=I;let nk:ks.Nodup:=g.nodup_iff.mpr n.nd;let ef:l1=ks.filter λk=>decide (k∈R.map (·.1)):=by
  show G7 (λx=>?_) v1 (nk.filter _) v2 (af.filter _);rw[v3,aiB,g.mem_iff,decide_eq_true_iff]
 rw[ef];unfold v9;generalize ϭ " " ((ks.filter λk=>decide (k∈R.map (·.1))).map ι)=yy;lk;show aY (λh=>absurd rfl h) (λ_=>?_);let U:=O<|>s4;show Γ ?_;symm;lk;show ϛ (pl:=_) Y Β (h:=?_);f_are;show#[d,cD mg,dx,_,true,kc,_,al,rfl,(hd.same U).ins,by rfl,Mc,am,id,?_]>>=st () () λl2=>?_
 show Ν () ?_>>=Ν (by rw[len_app];omega) ?_>>=an _ _ _ A d dx (hd.same U) (kB.same U) (U<*tb) λy H5 s5 I=>?_
 let gM:=U<|>s5;lk;let oV:(["_law_row_here"]:List Str).Nodup:=by fin2
 let kk:(rW R).map (·.1)=R.map (·.1):=lu R;show jw ["_law_row_here"] (σ':=[none]) (b8 (ς BX)) ?_;lk;let#[Ϸ,ea,av]:=CZ gM;show zY (ks:=(rW R).map (·.1)) ea (wU av) (by rw[kk,ϰ];omega) λL3 kz aw e ax=>?_
 rw[kk]at e;let#[s6,e6,H5,L3,H6]:=Ρ aw (.lst (kz.map V.int));let qw:↥kz=↥R:=by rw[e.length_eq,ϰ]
 let zb:∀k∈kz,0<=k/\k<=9999999999:=λk a=>by
  let#[x,c,rfl]:=ab9.mp (e.mem_iff.mp a);have:=mJ (hp.ok x c).1;omega
 show#[L3,_,rfl,θ.of e6,by rw[ϰ];omega,λτ=>∃J,τ=[J],λE3 i u H'=>∃k,kz[i]?=↑k/\u=.str (ι k),#[none,rfl],λE3 i u H2 H3 ys _ _ p=>p,λfp3 E3 C3 s33 H03 i3 τ3 x3 Tv H33 ay hi3 W Wt Rg aC=>?_,λE3 Tv aE ay aI bh aS Wt=>?_]
 .let#[J,rfl]:=W;let#[VB,rfl]:=aC;rw[acS]at VB;let#[k,a,rfl]:=ahh.mp VB;let#[k0,k1]:=zb k (abD a);show ω oV ?_>>=st k0 k1 λ_=>#[#[_,rfl],#[k,a,rfl],ζ.refl _]
 let ey:=jJ (ys:=kz) (λk=>V.str (ι k)) (by rw[aI,ϰ]) bh;let lC:aE=(kz.map ι).map V.str:=by rw[ey,aeu];rfl
 subst lC;lk;show iV (θ.of aS) (jl kz () zb) ?_;let#[l9,v1,v2,v3,rfl]:=I;let ef:l9=kz:=G7 (λx=>by rw[v3,e.mem_iff]) v1 (e.nodup_iff.mpr hp.nd) v2 ax;rw[ef];unfold v9;generalize ϭ " " (kz.map ι)=yy;lk;have:=q Tv (gM<|>s6<|>Wt);rw[<-decide_eq_true (rfl:V.str yy=V.str yy)]at this;show this
structure cN(K:ϩ)(mg:MG)(sc:δ)(ns:List Int)(A:BA)(d dx r:δ)(R:Rw)(B:Bk)(H:Hp):Prop where
 dk:bN mg H d dx (.ref A.b)
 bk:Κ (cB mg) H A B
 tb:H (aP K "sorted_by")=↑(.tbl cX)
 di:DictAt iI H r (rW R)
 hp:Ο R B
 ap:r∉A.six
 sc:(∀H',θ K H' sc (ns.map V.int))\/(θ K H sc (ns.map V.int)/\sc∉r::A.fp)
theorem cN.seq{sc:δ}{A:BA}{d dx r:δ}{R:Rw}{B:Bk}{H:Hp}(g:cN K mg sc ns A d dx r R B H):θ K H sc (ns.map V.int):=g.sc.elim (λh=>h H) (·.1)
def abA{r:δ}{R:xm}(h:DictAt iI H r R)(s:ζ H H'):DictAt iI H' r R:=by
 let#[Ϸ,a,c]:=h;show#[Ϸ,s<*a,c]
theorem cN.same{sc:δ}{A:BA}{d dx r:δ}{R:Rw}{B:Bk}{H H':Hp}(g:cN K mg sc ns A d dx r R B H)(s:ζ H H'):cN K mg sc ns A d dx r R B H':=
 #[g.dk.same s,g.bk.same s,s<*g.tb,abA g.di s,g.hp,g.ap,g.sc.imp id λh=>#[s.seq h.1,h.2]]
def Jk{A:BA}(h:x∈A.fp):x∈A.six:=by
 simp only[BA.fp,BA.six,aaT,afF,or_false]at h⊢;obtain h|h|h|h:=h<;>simp[h]
def cN.keep{sc:δ}{A:BA}{d dx r:δ}{R:Rw}{B:Bk}{H H':Hp}(g:cN K mg sc ns A d dx r R B H)(o:Out A.fp H H'):bN mg H' d dx (.ref A.b)/\H' (aP K "sorted_by")=↑(.tbl cX)/\DictAt iI H' r (rW R)/\((∀H',θ K H' sc (ns.map V.int))\/(θ K H' sc (ns.map V.int)/\sc∉r::A.fp)):=by
 let hd:d∉A.fp:=λz=>by
  let z':d=A.b\/d=A.r\/d=A.t\/d=A.d:=by simpa [BA.fp]using z
  let e:=g.dk.ins;obtain z|z|z|z:=z'
  .rw[z,g.bk.ins]at e;injection e with e
   injection e with _ _ e
   show absurd (congrArg aqJ e) (by show ¬(6:Nat)=1;decide)
  .let#[_,h,_]:=g.bk.rows;rw[z,h]at e;cases e
  .let#[_,h,_]:=g.bk.touched;rw[z,h]at e;cases e
  .let#[_,h,_]:=g.bk.done;rw[z,h]at e;cases e
 let a:dx∉A.fp:=λz=>by obtain⟨_,e⟩|⟨_,e⟩|⟨_,e⟩:=g.bk.HN z<;>rw[g.dk.own]at e<;>cases e
 let c:aP K "sorted_by"∉A.fp:=λz=>by obtain⟨_,e⟩|⟨_,e⟩|⟨_,e⟩:=g.bk.HN z<;>rw[g.tb]at e<;>cases e
 show#[#[o _ _ hd g.dk.ins,o _ _ a g.dk.own],o _ _ c g.tb,?_,g.sc.imp id λh=>#[o.seq (λz=>h.2 (acw _ z)) h.1,h.2]];let#[Ϸ,f,i]:=g.di;show#[Ϸ,o _ _ (λz=>g.ap (Jk z)) f,i]
def cN.deed{sc:δ}{A:BA}{d dx r:δ}{R f:Rw}{B i:Bk}{H H1:Hp}(g:cN K mg sc ns A d dx r R B H)(o:Out A.fp H H1)(k:Κ (cB mg) H1 A i)(l:H1 r=↑(.dK Ϸ))(m:Α (PR iI) a (rW f))(hp:Ο f i):cN K mg sc ns A d dx r f i (upd H1 r (.dK a)):=by
 let#[k1,k2,k3,n]:=g.keep o;let od:Out [r] H1 (upd H1 r (.dK a)):=Out.upd (by simp);let j:∀{x:δ}{u:HO},H1 x=↑u->(∀y,u≠.dK y)->x∉[r]:=λe h z=>by
  rw[ab7.mp z,l]at e;show h _ (Option.some.inj e).symm
 show#[#[od _ _ (j k1.ins λy z=>nomatch z) k1.ins,od _ _ (j k1.own λy z=>nomatch z) k1.own],k.out od (λy c ys z=>by rw[ab7.mp c,l]at z;cases z) (λy c p=>by rw[ab7.mp p]at c;show g.ap c),od _ _ (j k2 λy z=>nomatch z) k2,#[_,υ,m],hp,g.ap,n.imp id λh=>#[od.seq (λz=>h.2 (by rw[ab7.mp z];simp)) h.1,h.2]]
abbrev Gy(sc d r bf:δ)(B:Bk)(i:Nat)(row wn:Int):_L.St:=[↑(.ref sc),↑(.ref d),↑(.ref r),↑(.int B.now),↑(.int (i:Nat)),↑(.int row),↑(.str (ι wn)),↑(.ref bf)]
def Ey(K:ϩ)(mg:MG)(sc d dx r c:δ)(ns:List Int)(A:BA)(R:Rw)(B:Bk)(i:Nat)(row g:Int):Ends:={nx:=λσ e=>σ=Gy sc d r c B i row g/\∃f a,cN K mg sc ns A d dx r f a e/\qP R B f a/\a.known=B.known/\e c=↑(.lst ((R.map (·.1)).map V.int)),rt:=λ_ _=>False}
inductive Ha(K:ϩ)(mg:MG):Sp
 |mk (A:BA) (sc d dx r:δ) (ns:List Int) (B:Bk):vs=[.ref sc,.ref d,.ref r]->↥ns<=63->cN K mg sc ns A d dx r [] B H->B.now=0->B.known=0->(∀R B' H',cN K mg sc ns A d dx r R B' H'->B'.known=0->Q (.int B'.now) H')
def K4(hN:Ϟ K mg base "sorted_by"):Def 62 "_law_begun" ["_law_script","_law_desk","_law_rows"] (Ha K mg):=by
 show Ζ (S:=Q7) T.K4 (λf Ϲ A' outer s H vs Q E hr h=>?_);let#[A,sc,d,dx,r,ns,B,rfl,hl,g0,U,aa,q]:=h;let nd:=Q7.nd;let n1:=T.Zj;let n2:=T.cY;let n3:=T.pN;let hu:_+1<cLine:=af6 (ahC (by decide:1<=64) _) hr.units;let hsz:=ϯ;let D0:=!nQ;let D1:Def P w K mg base true 61 "_law_is_now" ["_law_desk","_law_rows","_law_moment","_law_before"] (G8 K mg):=Kr T hN;let MT:Ψ P w K mg base true 7 (cD mg) "say" ["self","row"] (nj mg ("take":Str) false (Lr K mg)):=(uM T (by fin2) ((TJ T).meth T.au T.abr)).meth T.au T.vo;let MP:∀on:Bool,Ψ P w K mg base true 9 (cD mg) "say" ["self","row"] (nj mg (if on=true then μ "put" else μ "change") true (Af K mg)):=λon=>(uM T (n:="put_or_change") (vb:=true) (by cases on<;>fin2) ((YK T).meth T.au T.Rh)).meth T.au T.vo
 let st:∀{X:Cx}{Q:VK}{i:Int}{G:Hp},0<=i->i<=9999999999->(↥(μ (toString i))<=19->Q (.str (μ (toString i))) G)->CL X (.type "str") [.int i] G Q:=λh0 h1 h=>bO (Ϥ ()) (h (bV h0 h1))
 let b1:↥(" ":Str)=1:=by fin2
 let b2:↥("take ":Str)=5:=by fin2
 let b3:↥(" 'x":Str)=3:=by fin2
 let b4:↥("put ":Str)=4:=by fin2
 let b5:↥("change ":Str)=7:=by fin2
 k_go;w_up;show WM (by walk_at"po") (by rfl) (by rfl) n1 (by rfl) ?_>>=#[sc,ns,10,7,rfl,g0.seq,hl,by decide,by decide,by decide,?_];let Rf:=dh ns 10 (m:=7) (by decide);let ab:=cQ ns 10 (m:=7) (by decide);generalize gq ns 10 7=mv at Rf ab⊢;let#[many,rfl]:=aeo Rf;lk;show#[(),(),λi σ H'=>∃o4 o5 o6 o7 R B,σ=[↑(.ref sc),↑(.ref d),↑(.ref r),↑(.int B.now),o4,o5,o6,o7]/\cN K mg sc ns A d dx r R B H'/\B.now=(i:Nat)/\B.known=0,#[none,none,none,none,[],B,by rw[U];rfl,g0,U,aa],λi σ H' hi hP=>?_,λσ H' hP=>?_]
 .let#[o4,o5,o6,o7,R,B,rfl,g,hn,hk]:=hP;let JV:B.now<6:=()
  show ω nd ?_;k_go;show#[Ξ,λp1 ac=>?_];let s1:ζ H' (upd H' p1 (.lst [.int 3,.int 0,.int 7,.int 1000000000])):=ζ.upd ac;let e1:(upd H' p1 (.lst [.int 3,.int 0,.int 7,.int 1000000000])) p1=↑(.lst [.int 3,.int 0,.int 7,.int 1000000000]):=υ;generalize upd H' p1 (.lst [.int 3,.int 0,.int 7,.int 1000000000])=H1 at s1 e1⊢;let W:=g.same s1;lk;show#[sc,ns,20+4*(i:Int),4,rfl,W.seq,hl,(),(),by decide,?_];let#[row,_,L,er]:=pick eV (dh ns (20+4*(i:Int)) (m:=4) (by decide)) (cQ ns (20+4*(i:Int)) (m:=4) (by decide));show ϐ (θ.of e1) (er V.int) ?_;let#[F,r1]:=mJ L;k_go;show#[sc,ns,21+4*(i:Int),5,rfl,W.seq,hl,(),(),by decide,?_];let w0:=dh ns (21+4*(i:Int)) (m:=5) (by decide);let w1:=cQ ns (21+4*(i:Int)) (m:=5) (by decide);generalize gq ns (21+4*(i:Int)) 5=j at w0 w1⊢;lk;show st () () λl1=>?_
  let l1':↥(ι j)<=19:=l1;k_go;let#[Ϸ,ea,hR]:=W.di;show aiN (ks:=(rW R).map (·.1)) (by rfl) ea (wU hR) (by rw[lu,ϰ];have:=g.hp.len;omega) λC I=>?_
  rw[lu];let#[s2,e2]:=Ρ I (.lst ((R.map (·.1)).map V.int));let zB:C∉r::A.fp:=λz=>by
   obtain z|z:=aaT.mp z
   .rw[z,ea]at I;cases I
   .show W.bk.on6 C (Jk z) I
  generalize upd H1 C (.lst ((R.map (·.1)).map V.int))=H2 at s2 e2⊢;let o:=W.same s2;let ae:rW (az R row)=az (rW R) row:=QF ι R row;let af:rW (aD R row j)=aD (rW R) row (ι j):=Rb ι R row j;let#[q1,dg,eg]:=Ej row o.di;w_up;show JC (D:=Ey K mg sc d dx r C ns A R B i row j) (Θ ?_) (λσ H3 p=>?_) (λv H z=>z.elim) (λσ H z=>z.elim) (λσ H z=>z.elim)
  ·
   let Y:Φ (fD true P w K mg base K6 "_law_begun" (ς qN) f Ϲ A' outer s H E) (aaN (jW (aah (jW (ϣ qN) 1)) 3)) (Ey K mg sc d dx r C ns A R B i row j) (Gy sc d r C B i row j) H2:=by
    let go:∀on:Bool,(on=true↔row∉R.map (·.1))->∀(Q:VK)(E:XK),(∀v H4,Out A.fp H2 H4->Κ (cB mg) H4 A (aG B row ↑(aO j))->Q v H4)->nj mg (if on=true then μ "put" else μ "change") true (Af K mg) [.ref d,.str ((if on=true then μ "put " else μ "change ")++ι row++μ " "++ι j++μ " 'x")] H2 Q E:=by
     intro on Z Q E hq;show#[d,dx,_,_,_,rfl,Um F () w0 (),Vr F w0,o.dk,λa H3 s3 ha=>?_];let M:=o.same s3;let hw:=Es F r1 w0 (show j<=4 by omega);show#[d,dx,a,A,B,row,aO j,on,by cases on<;>rfl,ha,(show 1<=2 by decide),F,(),M.dk,M.bk,by rw[g.hp.hd];decide,by rw[g.hp.hd];show Xm,by rw[g.hp.hd];show Az (i:=row) w0 (),WN j,g.hp.small,g.hp.mm,λe=>?_,λ_ ho hg=>?_,λ_ ho hg=>?_,λ_ _ H4 c J=>hq _ H4 (zg s3 c) J]
     .rw[g.hp.hd,hw]at e;cases e
     .show absurd (g.hp.nokey.mpr (Z.mp ho)) hg
     .rw[Z.mpr (g.hp.nokey.mp hg)]at ho;cases ho
    let set:∀H4,Out A.fp H2 H4->Κ (cB mg) H4 A (aG B row ↑(aO j))->Φ (fD true P w K mg base K6 "_law_begun" (ς qN) f Ϲ A' outer s H E) ((aaN (jW (aah (jW (ϣ qN) 1)) 3)).drop 1) (Ey K mg sc d dx r C ns A R B i row j) (Gy sc d r C B i row j) H4:=by
     intro H4 c J;let#[_,_,#[FN,O,mQ],_]:=o.keep c;let hkl:=mQ.len;let hrl:=g.hp.len;let hwl:↥(rW R)=↥R:=ϰ ..;f_len;show wy hu ?_>>=#[r,_,rfl,iQ.k (k:=Sum.inl row) O (),?_]*>#[rfl,_,_,o.deed c J O (by rw[af];show wM mQ row (x:=ι j) rfl) (g.hp.put L w0 () JV),.put row j,rfl,?_];rw[ξ (λz=>zB (by rw[z];simp))];show c _ _ (λz=>zB (acw _ z)) e2
    w_up;show Ϡ ?_*>ϛ (pl:=_) hr Β (h:=?_);f_are;by_cases p:row∈R.map (·.1)
    .show#[d,cD mg,dx,_,true,9,_,_,rfl,o.dk.ins,by rfl,MP false,by decide,id,?_]>>=oE hu dg ?_;rw[eg,decide_eq_true p];lk;show st F () λl2=>?_
     show Ν () ?_>>=Ν (by rw[len_app];omega) ?_>>=Ν (by simp only[len_app];omega) ?_>>=Ν (by simp only[len_app];omega) ?_>>=go false #[λz=>(by cases z),λz=>absurd p z] _ _ λv H4 c J=>set H4 c J
    .show#[d,cD mg,dx,_,true,9,_,_,rfl,o.dk.ins,by rfl,MP true,by decide,id,?_]>>=oE hu dg ?_;rw[eg,decide_eq_false p];lk;show st F () λl2=>?_
     show Ν () ?_>>=Ν (by rw[len_app];omega) ?_>>=Ν (by simp only[len_app];omega) ?_>>=Ν (by simp only[len_app];omega) ?_>>=go true #[λ_=>p,λ_=>rfl] _ _ λv H4 c J=>set H4 c J
   lk;show oE hu dg ?_;rw[eg];lk;show Μ (λp=>?_) (λp=>?_)
   .lk;show#[sc,ns,22+4*(i:Int),3,rfl,o.seq,hl,(),(),by decide,?_]>>=Μ (λ_=>?_) (λ_=>Y);w_up;show Ϡ ?_*>ϛ (pl:=_) hr Β (h:=?_);f_are;show#[d,cD mg,dx,_,true,7,_,_,rfl,o.dk.ins,by rfl,MT,by decide,id,?_]>>=st F () λl2=>?_
    show Ν () ?_>>=#[d,dx,_,_,[ι row],rfl,by rw[len_app];omega,by rw[show μ (toString row)=ι row from rfl,lW (l:=μ "take") (by fin2),kW F];rfl,o.dk,λa H3 s3 ha=>?_];let M:=o.same s3;show#[d,dx,a,A,B,row,rfl,θ.of ha,F,(),M.dk,M.bk,g.hp.small,g.hp.wf,g.hp.mm,(λz=>absurd p (g.hp.nokey.mp z)),λ_ H4 c J=>?_];let#[_,_,#[FN,O,mQ],_]:=M.keep c;f_len;show Ϡ (v5 ?_)>>=#[r,rfl,.inl #[_,.inl O],?_];lk;let hv:∃v,bu FN (Sum.inl row)=↑v:=by
     obtain⟨_,z⟩|⟨u,y,z,_⟩:=iz mQ row
     .show absurd p (by rw[<-lu];show lM.mp z)
     .show#[u,z]
    let#[vv,Ik]:=hv;show#[FN,Sum.inl row,vv,O,rfl,Ik,?_]*>#[rfl,_,_,M.deed c J O (by rw[ae];show ux mQ row) (g.hp.take p JV),.take row,rfl,?_];rw[ξ (λz=>zB (by rw[z];simp))];show c _ _ (λz=>zB (acw _ z)) (s3<*e2)
   .show Y
  let#[rfl,R',B',g',stp,hkn,ag]:=p;let en:B'.now=B.now+1:=by cases stp<;>rfl
  k_go;f_len;show Θ ?_;lk;rw[<-en];show#[A,d,dx,r,C,R,R',B,B',rfl,g'.dk,g'.bk,g'.tb,g'.di,g.hp,g'.hp,stp,ag,λH4 s4=>?_]>>=Γ #[↑(.int (i:Nat)),↑(.int row),↑(.str (ι j)),↑(.ref C),R',B',by rw[en];rfl,g'.same s4,(),()]
 .let#[o4,o5,o6,o7,R,B,rfl,g,hn,hk]:=hP;symm;lk;show q R B H' g hk
theorem Q6:∀ps:List Str,↥(ϭ "\n" ps)<=(ps.map (·.length)).sum+↥ps
 |[]=>by show(0:Nat)<=_;omega
 |[p]=>by
  show ↥p<=_;simp
 |p::q::r=>by
  let a:=Q6 (q::r);let c:↥("\n":Str)=1:=by fin2
  show(p++μ "\n"++ϭ "\n" (q::r)).length<=_;rw[len_app,len_app,c];simp only[adY,aqC,acz]at a⊢;omega
def Yp(h:Ο R B)(e:nq R B.now y):↥y<=1000000:=by
 let#[ks,a,_,rfl]:=e;rw[lu]at a;let#[p1,p2]:=Z1 h;let f:=h.len;let h1:=iH (l:=dj (rW R) B.now::ks.map (dM (rW R))) λz hz=>by
  obtain rfl|hz:=aaT.mp hz
  .show p1
  .let#[k,c,rfl]:=ab9.mp hz;show p2 k (a.mem_iff.mp c)
 let h2:=Q6 (dj (rW R) B.now::ks.map (dM (rW R)));let g:↥(dj (rW R) B.now::ks.map (dM (rW R)))<=5:=by
  rw[acz,ϰ,a.length_eq,ϰ];omega
 omega
theorem aj8:Ο [] #[Ω,[],[],[],0,0]where
 hd:=rfl
 rows:=rfl
 nd:=List.Pairwise.nil
 ok:=λr a=>nomatch a
 hi:=#[[],#[rfl,rfl,rfl,#[asI _,asI _],λj d e=>by simp at e,λi=>by simp[Ε]],by decide,λd hd=>nomatch hd]
 tc:=λi k e=>by cases e
 tl:=asI _
def cN.Ij{sc:δ}{A:BA}{d dx r dd:δ}{R:Rw}{B e:Bk}{H H':Hp}(g:cN K mg sc ns A d dx r R B H)(o:Out [A.b] H H')(c:H dd=none)(k:Κ (cB mg) H' {A with d:=dd} e)(hp:Ο R e):cN K mg sc ns {A with d:=dd} d dx r R e H':=by
 let#[k1,k2,k3,f]:=g.keep (o.mono λx i=>by rw[ab7.mp i];simp[BA.fp]);let#[Ϸ,j,_]:=g.di;show#[k1,k,k2,k3,hp,λz=>?_,?_]
 .let z':r=A.h\/r=A.r\/r=A.t\/r=dd\/r=A.b\/r=A.dx:=by simpa [BA.six]using z
  let ap:¬(r=A.h\/r=A.r\/r=A.t\/r=A.d\/r=A.b\/r=A.dx):=by simpa [BA.six]using g.ap
  obtain z|z|z|z|z|z:=z'
  .show ap (.inl z)
  .show ap (.inr (.inl z))
  .show ap (.inr (.inr (.inl z)))
  .rw[<-z,j]at c;cases c
  .show ap (.inr (.inr (.inr (.inr (.inl z)))))
  .show ap (.inr (.inr (.inr (.inr (.inr z)))))
 .obtain h|⟨h,l⟩:=f
  .show .inl h
  .obtain hs|hs:=RX g.seq
   .show .inr #[h,λz=>?_];let a:¬(sc=r\/sc=A.b\/sc=A.r\/sc=A.t\/sc=A.d):=by simpa [BA.fp]using l
    let z':sc=r\/sc=A.b\/sc=A.r\/sc=A.t\/sc=dd:=by simpa [BA.fp]using z
    obtain z|z|z|z|z:=z'
    .show a (.inl z)
    .show a (.inr (.inl z))
    .show a (.inr (.inr (.inl z)))
    .show a (.inr (.inr (.inr (.inl z))))
    .show hs (by rw[z];show c)
   .show .inl hs
def ajS(T:Txt K mg)(hN:Ϟ K mg base "sorted_by")(F:c7 K "law" "law" zq f fd):dJ P w K mg base (cJ P w) true 90 f fd ["_law_script"] (G6 K "sorted_by" cX):=by
 show xf F RZ (λvs H Q E h=>by let#[a,ns,rfl,_]:=h;rfl) (λϹ A' outer s0 H vs Q E hr h=>?_);let#[sc,ns,rfl,hS,W,Zm,q]:=h;let nd:=RZ.nd;let n1:=T.cY;let n2:=T.Zj;let hsz:=ϯ;let D0:=!nQ;let D1:Def P w K mg base true 62 "_law_begun" ["_law_script","_law_desk","_law_rows"] (Ha K mg):=K4 T hN;let D2:Def P w K mg base true 3 "_law_row" ["_law_script","_law_k","_law_rows","_law_moment","_law_oldest"] (Ew P w K mg base):=Hv T hN;let D3:=!Be;let MD:=(ak9 (P:=P) (w:=w) (base:=base) T).make T.ai3 T.ae5;let MB:Ψ P w K mg base true 7 (cD mg) "say" ["self","row"] (nj mg ("book":Str) false (Jy mg)):=(uM T (by fin2) ((Qc T).meth T.au T.M6)).meth T.au T.vo;let ML:Ψ P w K mg base true 7 (cD mg) "say" ["self","row"] (nj mg ("let":Str) false (GF K mg)):=(uM T (by fin2) ((Tg T).meth T.au T.Oo)).meth T.au T.vo;let st:∀{X:Cx}{Q:VK}{i:Int}{G:Hp},0<=i->i<=9999999999->(↥(μ (toString i))<=19->Q (.str (μ (toString i))) G)->CL X (.type "str") [.int i] G Q:=λh0 h1 h=>bO (Ϥ ()) (h (bV h0 h1))
 let b1:↥("let ":Str)=4:=by fin2
 let b2:↥("told ":Str)=5:=by fin2
 let aa:=RX hS;w_up;f_tup;show afh MD hr (by decide) (λ_=>rfl) Β (by rfl) (by decide) ?_;intro d dx n ab Y;show#[d,dx,rfl,υ,λH1 o1 e1=>?_]*>#[rfl,?_];let iZ:ζ H (upd (upd H dx (.own d)) d (.ins (cD mg) dx [])):=λb u e=>by
  rw[ξ (λz=>by rw[z,n]at e;cases e),ξ (λz=>by rw[z,ab]at e;cases e)];show e
 let s1:ζ H H1:=λb u e=>o1 b u (λz=>by rw[ab7.mp z,n]at e;cases e) (iZ b u e)
 let k1:bN mg H1 d dx .non:=#[e1,o1 _ _ (λz=>Y (ab7.mp z)) (by rw[ξ Y,υ])];w_up;f_tup;show Cm λr C=>?_
 let#[I,e2,H1,r,H2]:=Ρ C (.dK []);let ύ:=s1<|>I;w_up;show Θ ?_>>=ϛ (pl:=_) hr Β (h:=?_);f_are;show#[d,cD mg,dx,_,true,7,_,_,rfl,(k1.same I).ins,by rfl,MB,by decide,id,?_]>>=#[d,dx,.non,_,Ω.map cU,rfl,by fin2,by fin2,k1.same I,λa H3 s3 ha=>?_];let k3:=(k1.same I).same s3;let Z :=ύ<|>s3;let#[c1,c2]:=(show ∀c∈ Ω,(58∉c.1.cps.toList/\58∉c.2.cps.toList/\↥(cU c)<=1000)/\↥c.1<=4000/\↥c.2<=4000 by fin2)|>λz=>(#[λc hc=>(z c hc).1,λc hc=>(z c hc).2]:(∀c∈ Ω,58∉c.1.cps.toList/\58∉c.2.cps.toList/\↥(cU c)<=1000)/\∀c∈ Ω,↥c.1<=4000/\↥c.2<=4000)
 show#[d,dx,a,.non,Ω,rfl,ha,by decide,by decide,λc hc=>#[(c1 c hc).1,(c1 c hc).2.1,(c1 c hc).2.2],c2,k3,(λz=>by rw[rG]at z;cases z),λ_ H4 A f1 f2 f3 f4 f5 f6 o4 k4 b4=>?_];let six:∀x∈A.six,H3 x=none:=λx hx=>by
  let ac:x=A.h\/x=A.r\/x=A.t\/x=A.d\/x=A.b\/x=A.dx:=by simpa [BA.six]using hx
  obtain rfl|rfl|rfl|rfl|rfl|rfl:=ac
  .show f3
  .show f4
  .show f5
  .show f6
  .show f1
  .show f2
 let g4:cN K mg sc ns A d dx r [] #[Ω,[],[],[],0,0] H4:=by
  let J:=s3 _ _ e2;show#[k4,b4,o4 _ _ (λz=>?_) (Z<*Zm),#[[],o4 _ _ (λz=>?_) J,.nil],aj8,λz=>?_,?_]
  .have :=Z _ _ Zm;rw[ab7.mp z,k3.ins]at this;cases this
  .rw[ab7.mp z,k3.ins]at J;cases J
  .rw[six r z]at J;cases J
  .obtain hs|hs:=aa
   .show .inr #[o4.seq (λz=>?_) (Z.seq hS),λz=>?_]
    .rw[ab7.mp z]at hs;show hs n
    .obtain z|z:=aaT.mp z
     .rw[z]at hs;show hs (s1.free C)
     .show hs (Z.free (six sc (Jk z)))
   .show .inl hs
 lk;show aY (λh=>absurd rfl h) (λ_=>Γ ?_);k_go;show#[A,sc,d,dx,r,ns,_,rfl,W,g4,rfl,rfl,λR B H5 j ae=>?_];let hn5:=j.hp.now;w_up;show Θ ?_>>=Μ (λh=>absurd h ()) (λ_=>Γ ?_);k_go;w_up;show JC (D:={nx:=λσ H6=>∃A' B',σ=[↑(.ref sc),↑(.ref d),↑(.ref r),↑(.int B'.now),↑(.int B'.known),none,none,none]/\cN K mg sc ns A' d dx r R B' H6,rt:=λ_ _=>False}) (Θ ?_) (λσ H6 hm=>?_) (λv H z=>z.elim) (λσ H z=>z.elim) (λσ H z=>z.elim)
 .lk;show#[sc,ns,11,2,rfl,j.seq,W,by decide,by decide,by decide,?_]>>=Μ (λ_=>?_) (λ_=>Γ ?_)
  .w_up;f_tup;lk;show#[sc,ns,12,B.now+1,rfl,j.seq,W,by decide,by decide,(),?_];let a0:=dh ns 12 (m:=B.now+1) ();let a1:=cQ ns 12 (m:=B.now+1) ();generalize gq ns 12 (B.now+1)=x at a0 a1⊢;f_len;show Θ ?_>>=ϛ (pl:=_) hr Β (h:=?_);f_are;show#[d,cD mg,dx,_,true,7,_,_,rfl,j.dk.ins,by rfl,ML,by decide,id,?_]>>=st a0 () λl1=>?_
   show Ν () ?_>>=#[d,dx,_,_,[ι x],rfl,by rw[len_app];omega,by rw[show μ (toString x)=ι x from rfl,lW (l:=μ "let") (by fin2),kW a0];rfl,j.dk,λa H6 s6 ha=>?_];let o:=j.same s6;show#[d,dx,a,A,B,x,rfl,θ.of ha,a0,(),o.dk,o.bk,j.hp.mm,(λz=>()),λhx H7 s7=>?_,λhx1 af dd H7 ag L k7=>?_]
   .lk;show aY (λh=>absurd rfl h) (λ_=>Γ ?_);have:x=B.known:=()
    subst this;show#[A,B,rfl,o.same s7]
   .lk;show aY (λh=>absurd rfl h) (λ_=>Γ ?_)*>#[_,_,rfl,o.Ij L ag k7 (j.hp.Ij () af)]
  .show#[A,B,by rw[ae];rfl,j]
 let#[A2,s,rfl,o]:=hm;let hn6:=o.hp.now;w_up;show WM (by walk_at"po") (by rfl) (by rfl) n2 (by rfl) ?_>>=#[(),(),λi σ H'=>(∃o5 o6 L,σ=[↑(.ref sc),↑(.ref d),↑(.ref r),↑(.int s.now),↑(.int s.known),o5,o6,L])/\cN K mg sc ns A2 d dx r R s H',#[#[none,none,none,rfl],o],λi σ H' hi hP=>?_,λσ H' hP=>?_]
 .let#[#[o5,o6,L,rfl],g]:=hP;let JV:i<6:=()
  show ω nd ?_;w_up;show dw ?_>>=#[sc,r,ns,100+10*(i:Int),R,s,rfl,g.seq,W,(),(),g.di,g.hp,λp z due H7 s7 JF hz=>?_]*>ϟ (Δ.of JF) (Η (ω nd (Η (ω nd (Ϣ ?_)))));let O:=g.same s7;let rb:∀q∈rW R,0<=q.1/\q.1<=1000000000/\↥q.2<=20:=λq hq=>by
   let#[x,hx,rfl]:=ab9.mp hq;let#[x1,x2,x3]:=g.hp.ok x hx;let#[x4,x5]:=mJ x1;show#[x4,x5,afG (bV x2 ()) (by decide)]
  let hR:=g.hp.len;w_up;show JC (D:={nx:=λσ S=>σ=[↑(.ref sc),↑(.ref d),↑(.ref r),↑(.int s.now),↑(.int s.known),↑(.int (i:Nat)),↑(.str z),↑(.str due)]/\ζ H7 S,rt:=λ_ _=>False}) (Θ ?_) (λσ S hm=>?_) (λv H z=>z.elim) (λσ H z=>z.elim) (λσ H z=>z.elim)
  .lk;show aY (λY=>?_) (λ_=>?_)
   .obtain hz|⟨k,sp,k1,k2,M,hM⟩:=hz
    .show absurd (by rw[hz]) Y
    let D4:Def P w K mg base true (k+1) "_law_said" ["_law_desk","_law_row_here"] (xR mg sp):=Cg T k1 M;lk;show#[d,dx,_,z,rfl,O.dk,λQ' E' kq kx=>?_]*>hM H7 Q' E' A2 d dx O.dk O.bk O.tb λx u S s8 hw=>kx x u due S hw λH9 s9=>?_
    lk;show aY (λh=>absurd rfl h) (λ_=>Γ #[rfl,s8<|>s9])
   .lk;show Γ #[rfl,ζ.refl _]
  let#[rfl,s8]:=hm;let U:=O.same s8;let#[k,sp,k1,k2,M,hM]:=Hi (P:=P) (w:=w) (base:=base) T hN g.hp true;let D4:Def P w K mg base true (k+1) "_law_said" ["_law_desk","_law_row_here"] (xR mg sp):=Cg T k1 M;f_len;show Θ ?_>>=#[d,dx,_,_,rfl,U.dk,λQ' E' kq kx=>?_]*>hM S Q' E' A2 d dx U.dk U.bk U.tb λy H9 s9 hy=>kq y H9 (Yp g.hp hy) ?_
  let g9:=U.same s9;lk;show#[r,rW R,s.now,rfl,g9.di,by show(R.map _).length<64;rw[ϰ];omega,(),(),rb,λks lB gF ah ai=>?_];let ey:=Vg g.hp.nd hy #[ks,ah,ai,rfl];let yl:=Yp g.hp hy;rw[<-ey];show Ν () ?_;generalize μ "told "++y=yy;lk;show aY (λh=>absurd rfl h) (λ_=>Γ #[#[_,_,_,rfl],g9.same gF])
 .let#[#[o5,o6,L,rfl],g]:=hP;symm;lk;show q H'
end
end _K
theorem PySem.Challenge.cw_turnleaf_k82_a_desk_refuses_holds : PySem.Challenge.rw_turnleaf_k82_a_desk_refuses.Holds := by
 show PySem.Challenge.t1 (PySem.Challenge.t0 (by intro P w K mg base a b _ _ c;show _K.ajS a b c))
#print axioms PySem.Challenge.cw_turnleaf_k82_a_desk_refuses_holds
