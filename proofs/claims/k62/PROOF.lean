import PyProof.Rows.All
import Wide.All
import KE.KDictOf
import KE.KFromBytes
import KE.KIntText
import KE.KNestM
import Wide.FinOn
import Lean
import PyProof.EqAt
import PyProof.EqKinds
import PyProof.TupleCall
import PyProof.NeData
import PyProof.ZipIter
import PyProof.WalksEnum
import PyProof.Rows.SetFrom
import PyProof.StrLawsTight
import PyProof.StrLawsChain
import PyProof.StrCalls2
import PyProof.ListStr
import PyProof.Rows.StrOrd
import KE.KRevIter
import PyProof.ExcInit
import PyProof.InstStoreFacts
import PyProof.ExcArgs
import PyProof.ExcAttrAll.ValueError
import PyProof.NsDelKeeps
import PyProof.RulesAs
import OpenK.KCls
import PyProof.Rows.TupAssign
import PyProof.StrLawsIn
import KE.KDictSum
import PyProof.DictWalks
import PyProof.Rows.CountFlat
import KE.KTryMore
import KE.KxWritten
import KE.KStrOpen
import KE.KSortTup
import KE.KNest
import PyProof.FString5
import KE.KDictList
import PySem.Challenge.RW_turnleaf_k62_leaves_refused
open PySem renaming Addr->δ,Value->ε,Shared->μ,wpAny_bind->π,wpAny->Ϧ,Stmt->ϧ,model->Ϩ,Expr->Ϫ,Heap->ϫ,World->ϭ,sizeLine_eq->Ϯ,wpAny_pure->ϯ,sizeLine->ϰ,Program->ϱ,starEach->ϳ,Around->ϴ,wpAny_mono->adq,compareOp->ad2,wpAny_holding->aez,wpAny_truthy_bool->ag7,wpAny_field->ahl,Scope->ahD,FuncData->aij,wpAny_newObj_type->aiY,codeAny_mono->ajA,wpAny_Call_Name_kw->alO,wpAny_passesOwn->amd,wpAny_pyIter_list->amx,wpAny_standAt->amU,PassesOwn->anh,SetTable->anm,wpAny_setField_rec->anZ,ExceptHandler->aoh,Builtin->aox,wpAny_loadPart_at->aoP,wpAny_call->api,codeAny_call_builtin->apl,wpAny_seqItems->apz,swapsWith->apS,wpAny_attempt->ap3,codeAny_builtin->aqd,assignEach->aqn,call_meets->aqt,wpAny_callSpecial?_slot->aqL,NameKind->aqT,wpAny_nextOf_list_item->aqU
open PySem.Str renaming ofString->ν,join->aek,empty->ala,length->asQ
open PySem.W renaming Frag->ϩ,findIn->afO,specialIn->aih,mg_of->alG,emptyDict->anI,mroIn->aon,hasDictIn->aoW,kitOne->apB,kia_one->ap1,keepIn->ap6,instObj->arh,typeIn->asj,plainGet->aso,takerIn->asq,methodCall_KW->asu,looks_findIn->asM,takesIn->asO,readsIn->asS,findCls->asT,plainOver->asY,codeIn->asZ,clsIn->as6,callWith_K->atf,InstAt->atm,any_some->atn,fnOf->atq,plainGet_of->atA,isFn->atB,looks_clsIn->atD,exmOne->atE,cellsFrom_some->atZ,lookIn->aue,methodObj->auf,makesIn->auh,findObj->auj,subIn->auk,handedIn->auo,nsIn->aup,findObj_own->aur,Looks->aus,looks_mroIn->aut,kitAny->auu,excIn->auE,notCls->auI
open Nat renaming le_refl->Ϭ,lt_of_lt_of_le->aco,ne_of_lt->adb,le_trans->afT,lt_of_le_of_lt->afY,add_le_add_left->agK,zero_le->ag3,lt_irrefl->aiA,min_eq_left->als,le_add_right->amc,ne_of_gt->aoR,le_succ->aoY,le_of_eq->aqv,zero_add->aqB,lt_succ_of_lt->aqZ,le_of_lt->arj,toDigits_ne_nil->asw,sub_zero->asL,mod_lt->asW,min_le_right->as8,min_eq_right->as9,le_of_ble_eq_true->atd,mul_le_mul_right->atp,sub_self->atV,lt_succ_self->atY,min_le_left->aui,succ_mul->auz,mul_comm->auA,toDigits->auB
open PySem.Heap renaming get?_push_of_some->ϲ,get?_push_size->abn,lt_size->abN,get?_update_other->acO,get?_update_self->aeP,get?_none_of_le->ajw,size_push->ajX,SameBut->amn,get?_update_ne->aqj,size_after_update->ata,MadeExcOf->atr,get?_push_at->atP,get?_push_ne->atU,size_update->aub,IsList->aum
open List renaming getElem?_eq_getElem->aah,getElem?_eq_some_iff->aak,length_map->aau,mem_cons->aaF,size_toArray->aa0,mem_of_getElem?->aa1,mem_cons_of_mem->aby,mem_map->abz,mem_cons_self->abD,length_append->abK,getD_eq_getElem?_getD->abP,length_cons->abU,all_eq_true->acE,mem_append->adi,getElem?_map->adl,range->ado,mem_singleton->adF,mem_append_right->adL,length_drop->ael,map_cons->aen,not_mem_nil->aet,mem_of_mem_take->aeB,length_singleton->afm,find?_cons->afC,map_map->afR,toArray->afX,mem_of_mem_drop->af0,length_take->af8,lookup_cons->agg,mem_append_left->agF,replicate->agU,drop_eq_getElem_cons->agX,take_of_length_le->ag5,length_range->ahr,nodup_cons->ahC,mem_map_of_mem->ahF,length_filter_le->ah9,lookup->aia,getElem?_append_left->aiV,foldl_cons->aiW,getElem_mem->ajf,mem_range->ajF,mem_filter->akR,length->alj,getElem?_append_right->alX,mem_filterMap->amr,ne_nil_of_length_eq_add_one->ana,map_congr_left->anO,eq_nil_of_length_eq_zero->an0,drop_length->an7,any_eq_true->aoa,drop_zero->aoc,getElem?_set_self->aom,dropLast_concat_getLast->aou,contains_cons->aov,forIn_cons->aoZ,getElem?_concat_length->apd,map_append->apf,any_cons->apE,sum_cons->apG,filter_cons->ap8,take_length->aqa,replicate_succ->aqf,eq_of_mem_replicate->aqz,append_nil->aqM,length_nil->aqN,length_eq_zero_iff->aqQ,drop_eq_nil_of_le->aqV,nodup_append->aq3,append_assoc->aq8,forIn_nil->arc,length_replicate->arH,getElem?_eq_none->arK,take_append_of_le_length->ar4,getElem?_set_ne->ash,filterMap_cons->asp,length_pos_iff->asH,exists_cons_of_ne_nil->asJ,pairwise_iff_getElem->asN,foldl_append->asR,pairwise_map->asU,mapM_toArray->asV,all_cons->as4,map_id->as5,getElem_inj->as7,drop_of_length_le->atb,range_succ_eq_map->atc,of_mem_zip->ate,nil_append->ati,range_succ->atj,pairwise_reverse->atk,getElem?_reverse->atl,forall_mem_cons->ato,drop_drop->atu,length_reverse->atv,getElem_of_mem->atw,filter_sublist->atx,getElem?_range->aty,zip_cons_cons->atJ,pairwise_cons->atL,reverse_cons->atN,mem_range'_1->atQ,reverse_perm->atR,all_map->atX,mem_reverse->at5,zipIdx_cons->at7,cons_append->at8,ext_getElem->at9,map_reverse->aua,all_toArray->auc,nodup_range->aud,zipIdx_nil->aul,map->auv,map_nil->auy,range'->auF,Nodup->auJ
open Bool renaming and_eq_true->aaK,false_ne_true->aa5,eq_iff_iff->ahs,eq_false_iff->akf,true_and->anM,false_and->apV,false_eq_true->aqO,or_eq_true->aqP,or_false->as3,false_or->atG,not_eq_true->at6,decide_or->aun
open Int renaming eq_ofNat_of_zero_le->aa4,emod_lt_of_pos->agE,emod_nonneg->ahe,emod_eq_of_lt->apP,toNat_of_nonneg->aql,zero_add->arI,add_emod->atg,mul_emod->ath,emod_emod->atF,toNat_natCast->atM,mul_zero->auC,add_zero->auD,one_mul->auG,le_refl->auH
open Array renaming getElem?_setIfInBounds_ne->aim,length_toList->akT,getElem?_eq_none->alR,getElem?_eq_some_iff->amb,getElem?_toList->arM,toList_append->asr,perm_iff_toList_perm->asK,find?_toList->atz,forIn_toList->atH,size_append->atO,getD->auq,toList->auw
open Option renaming isSome_iff_exists->anc,map_eq_some_iff->aoq,bind_some->arZ,getD_none->at3,getD_some->at4
set_option maxHeartbeats 4000000
set_option Elab.async false
set_option linter.all false
set_option compiler.extract_closed false
set_option autoImplicit true
set_option maxRecDepth 100000
section
open PySem PySem.W PyProof.Rows
theorem _Y.mp {α β : Type} {f g : α → β} {L : List α} (n : Nat) (h : (L.take n).map f = (L.take n).map g) (i : (L.drop n).map f = (L.drop n).map g) : L.map f = L.map g := by
  rw [← List.take_append_drop n L, List.map_append, List.map_append, h, i]
theorem _Y.al {α : Type} {p : α → Bool} {L : List α} (n : Nat) (h : (L.take n).all p = true) (i : (L.drop n).all p = true) : L.all p = true := by
  rw [← List.take_append_drop n L, List.all_append, h, i]; rfl
def _Y.tk {α : Type} : List α → Nat → List α
  | [], _ => []
  | _ :: _, 0 => []
  | a :: l, n + 1 => a :: _Y.tk l n
def _Y.dr {α : Type} : List α → Nat → List α
  | [], _ => []
  | a :: l, 0 => a :: l
  | _ :: l, n + 1 => _Y.dr l n
theorem _Y.tke {α : Type} : ∀ (L : List α) (n : Nat), _Y.tk L n = L.take n
  | [], n => by rw [List.take_nil]; rfl
  | _ :: _, 0 => rfl
  | a :: l, n + 1 => by rw [List.take_succ_cons, ← _Y.tke l n]; rfl
theorem _Y.dre {α : Type} : ∀ (L : List α) (n : Nat), _Y.dr L n = L.drop n
  | [], n => by rw [List.drop_nil]; rfl
  | _ :: _, 0 => rfl
  | a :: l, n + 1 => by rw [List.drop_succ_cons, ← _Y.dre l n]; rfl
theorem _Y.li {α : Type} {L M : List α} (n : Nat) (h : L.take n = _Y.tk M n) (i : L.drop n = _Y.dr M n) : L = M := by
  rw [← List.take_append_drop n L, h, i, _Y.tke, _Y.dre, List.take_append_drop]
abbrev _Y.q0 (q : Program) : Program := { q with main := { q.main with body := [] } }
abbrev _Y.l0 (q : Program) (l : List Str) : List Str := looseW q l ++ ((recsOf q).map (·.name) ++ ((litsOf q).map (·.1) ++ (clssOf q (looseW q l)).map (·.name)))
theorem _Y.left {p q : Program} {l : List Str} {Xt : Shared → Bool} {β γ : Type} {Yf : Shared → List β × List γ} {Ya : World → List β × List γ} {N : Nat} (h : LeftO p (_Y.q0 q) (_Y.l0 q l) (fun _ => true)
    (fun s => ((((recsOf q).take 45).map fun d => s.heap.shapeAt mainGlobals d.name, ((recsOf q).drop 45).map fun d => s.heap.shapeAt mainGlobals d.name, (ownsOf q).all fun o => s.heap.ownExcOk o.name o.chain o.bm o.newId && s.heap.quietOk o.name), (s.heap.keysOk (looseW q l) ((recsOf q).map (·.name)) ((litsOf q).map (·.1)) ((clssOf q (looseW q l)).map (·.name)), tablesOk q s.heap, Xt s), (((recsOf q).take 45).all fun d => s.heap.tab0Ok d.name, ((recsOf q).drop 45).all fun d => s.heap.tab0Ok d.name, valsOk q s.heap), (pinSeenD q (drecsOf q) s, (plainSeenE q (looseW q l) s).take 15, (plainSeenE q (looseW q l) s).drop 15, plainSeenD q l s, clsSeenW q l s), ((wideSeen q s).1.take 45, (wideSeen q s).1.drop 45, (wideSeen q s).2), ((Yf s).1.take 270, ((Yf s).1.drop 270).take 270, ((Yf s).1.drop 270).drop 270, (Yf s).2)))
    (fun w => ((((recsOf q).take 45).map fun d => some d.shape, ((recsOf q).drop 45).map fun d => some d.shape, true), (true, true, true), (true, true, true), (pinGoodD (drecsOf q), _Y.tk (plainGoodE q (looseW q l)) 15, _Y.dr (plainGoodE q (looseW q l)) 15, plainGoodD q l, clsGoodW q l), (_Y.tk (wideGood q).1 45, _Y.dr (wideGood q).1 45, true), (_Y.tk (Ya w).1 270, _Y.tk (_Y.dr (Ya w).1 270) 270, _Y.dr (_Y.dr (Ya w).1 270) 270, (Ya w).2 ++ []))) N) : LeftO p q l Xt Yf Ya N := by
  intro w
  have h := h w
  cases e : openEnds treeTable p w N with
  | none => rw [e] at h; cases h
  | some s =>
    rw [e] at h
    have h := Option.some.inj h
    simp only [openSeen, openGood, Prod.mk.injEq] at h
    obtain ⟨⟨a1, a2, a3, a4, _⟩, ⟨b1, b2, b3⟩, ⟨c1, c2, c3⟩, ⟨d1, d2, d3⟩, ⟨e1, e2, e6, e3, e5⟩, ⟨e4, e7, e8⟩, f1, f2, f3, f4⟩ := h
    simp only [Bool.and_eq_true, seen, expectedOf, Seen.mk.injEq, tabsOk] at a1 a3 a4
    obtain ⟨_, _, _, g1, g2, g3, g4⟩ := a1
    obtain ⟨⟨⟨⟨⟨⟨_, i1⟩, i2⟩, i3⟩, _⟩, _⟩, i4⟩ := a3
    obtain ⟨⟨⟨_, j1⟩, _⟩, j2⟩ := a4
    have yy : Yf s = Ya w := Prod.ext (_Y.li 270 f1 (_Y.li 270 f2 f3)) (f4.trans (List.append_nil _))
    have y1 : wideSeen q s = wideGood q := Prod.ext (_Y.li 45 e4 e7) e8
    have k1 : (recsOf q).map (fun d => s.heap.shapeAt mainGlobals d.name) = (recsOf q).map fun d => some d.shape := _Y.mp 45 b1 b2
    have k2 := _Y.al 45 d1 d2
    have j3 : s.heap.noSeerOk = true := by
      rcases Bool.or_eq_true_iff.mp j2 with z | z
      · cases z
      · exact z
    show some (openSeen q l _ Xt true s, Yf s) = some (openGood q l, Ya w)
    rw [yy]
    congr 2
    simp only [openSeen, openGood, Prod.mk.injEq]
    refine ⟨?_, a2, ?_, ?_, e1, _Y.li 15 e2 e6, e3, y1, e5⟩
    · unfold seen expectedOf
      simp only [Seen.mk.injEq, List.map_map]
      exact ⟨k1, b3, rfl, g1, g2, by rw [Bool.and_eq_true]; exact g3, g4⟩
    · simp only [Bool.and_eq_true]
      exact ⟨⟨⟨⟨⟨⟨c1, i1⟩, i2⟩, i3⟩, c2⟩, c3⟩, i4⟩
    · unfold tabsOk
      simp only [Bool.and_eq_true, Bool.or_eq_true]
      exact ⟨⟨⟨k2, j1⟩, d3⟩, .inr j3⟩
theorem PySem.Challenge.PySem.W.holds_open {Z : Prop} {r : OpenRow} {q : Program} {loose : List Str} {Xt : Shared → Bool} {XP : (Str → Option Value) → Heap → Prop} {β γ : Type} {Yf : Shared → List β × List γ} {Ya : World → List β × List γ} {YP : World → Heap → Prop} {d : DefRec} {kwd : List (Str × Expr)} {N : Nat} (a : LeftO r.prog (_Y.q0 q) (_Y.l0 q loose) (fun _ => true)
    (fun s => ((((recsOf q).take 45).map fun d => s.heap.shapeAt mainGlobals d.name, ((recsOf q).drop 45).map fun d => s.heap.shapeAt mainGlobals d.name, (ownsOf q).all fun o => s.heap.ownExcOk o.name o.chain o.bm o.newId && s.heap.quietOk o.name), (s.heap.keysOk (looseW q loose) ((recsOf q).map (·.name)) ((litsOf q).map (·.1)) ((clssOf q (looseW q loose)).map (·.name)), tablesOk q s.heap, Xt s), (((recsOf q).take 45).all fun d => s.heap.tab0Ok d.name, ((recsOf q).drop 45).all fun d => s.heap.tab0Ok d.name, valsOk q s.heap), (pinSeenD q (drecsOf q) s, (plainSeenE q (looseW q loose) s).take 15, (plainSeenE q (looseW q loose) s).drop 15, plainSeenD q loose s, clsSeenW q loose s), ((wideSeen q s).1.take 45, (wideSeen q s).1.drop 45, (wideSeen q s).2), ((Yf s).1.take 270, ((Yf s).1.drop 270).take 270, ((Yf s).1.drop 270).drop 270, (Yf s).2)))
    (fun w => ((((recsOf q).take 45).map fun d => some d.shape, ((recsOf q).drop 45).map fun d => some d.shape, true), (true, true, true), (true, true, true), (pinGoodD (drecsOf q), _Y.tk (plainGoodE q (looseW q loose)) 15, _Y.dr (plainGoodE q (looseW q loose)) 15, plainGoodD q loose, clsGoodW q loose), (_Y.tk (wideGood q).1 45, _Y.dr (wideGood q).1 45, true), (_Y.tk (Ya w).1 270, _Y.tk (_Y.dr (Ya w).1 270) 270, _Y.dr (_Y.dr (Ya w).1 270) 270, (Ya w).2 ++ []))) N) (b : ∀ w s, Yf s = Ya w → YP w s.heap) (c : ∀ w h h', YP w h → (∀ b o, h.get? b = some o → h'.get? b = some o) → YP w h') (e : ∀ s, Xt s = true → XP (s.heap.nsMap mainGlobals) s.heap) (f : ∀ mg h h', XP mg h → (∀ b o, h.get? b = some o → h'.get? b = some o) → XP mg h') (g : defOf q r.name = some (d, kwd)) (i : r.prog.theDef r.name = some (d.params, d.body, d.scope)) (j : kwWritten? d.params.kwonlyargs d.params.kw_defaults = some kwd) (k : ∀ s, Xt s = true → RecFacts r.records s.heap) (l : (!r.writes || r.records.isEmpty) = true) (m : Z ∧ r.wellSaid = true) (n : (chainsOk q && opensWell r.prog && (frees r.toRowW && r.within.isEmpty)) = true) (o : r.prog.bare) (p : r.toRowW.promised) (u : Z → WalkO q loose XP YP r.toRowW d kwd fun f v => PySem.call f v) : r.Holds := _root_.PySem.W.holds_open (_Y.left a) b c e f g i j k l m.2 n o p (u m.1)
end
local macro_rules | `(tactic| walk_at "sc") => `(tactic| exact ⟨rfl, rfl, rfl, by decide +kernel, rfl, by decide +kernel, by decide +kernel⟩)
local macro_rules | `(tactic| omega) => `(tactic| lia)
open Lean in
set_option hygiene false in
local macro_rules(kind:=Lean.Parser.Command.declaration)|s=>do
 let d:=s[1]
 let k:=d[0]
 unless k.isAtom&&k.getPos?.isSome&&s[0][1].getArgs.isEmpty&&s[0][3].getArgs.isEmpty do Macro.throwUnsupported
 let a:=k.getAtomVal
 let g(s:Syntax):MacroM Syntax:=do
  let s:=s.rewriteBottomUp λx=>if x.isOfKind ``Parser.Term.basicFun then x.setArg 0 (mkNullNode (x[0].getArgs.map λy=>if y.isOfKind ``Parser.Term.hole then mkIdent `_x else y)) else x
  if (s.find? (·.isOfKind ``Parser.Tactic.renameI)).isSome then `(set_option tactic.hygienic true in $(⟨s⟩):command) else return s
 let z:=d.setArg 0 (mkAtom a)
 let t:=d[2][1]
 if a=="theorem" then return<-g (s.setArg 1 z)
 if a=="def"&&d[3][1].isOfKind ``Parser.Term.byTactic then
  let mut b:=d[2][0]
  let mut t:=t[0]
  if let`($f:ident $x*):=(⟨t[1]⟩:Term) then if (f.getId==`Def&&x.size==4)||(f.getId==`FD&&x.size==6) then
   b:=mkNullNode (#[(<-`(bracketedBinder|(T:Txt K mg))).raw]++b.getArgs)
   t:=t.setArg 1 (<-`($f P w K mg base true $x*))
  return<-g (s.setArg 1 (mkNode ``Parser.Command.theorem #[mkAtom "theorem",d[1],mkNode ``Parser.Command.declSig #[b,t],d[3]]))
 if a=="def"||a=="abbrev" then return(s.setArg 1 z).setArg 0 (s[0].setArg 4 (mkNullNode #[mkNode ``Parser.Command.noncomputable #[mkAtom "noncomputable"]]))
 if a=="inductive"&&t[0][1].getId==`Sp then
  let b:=d[2][0].getArgs
  let mut e:=#[]
  for x in b do if x.isOfKind ``Parser.Term.explicitBinder then e:=e++x[1].getArgs
  let q<-`($(Syntax.mkApp ⟨d[1][0]⟩ (e.map λx=>⟨x⟩)) vs H Q E)
  let rec g:Nat->Syntax->MacroM Syntax
   |0,x=>return x
   |n+1,x=>do if x.isOfKind ``Parser.Term.arrow then return x.setArg 2 (<-g n x[2]) else `($(⟨x⟩)->$q)
  let c:=d[4][0]
  let o:=c[4]
  let y<-g 99 o[1][0][1]
  let p<-`(bracketedBinder|(vs:List V))
  let h<-`(bracketedBinder|(H:Hp))
  let u<-`(bracketedBinder|(Q:VK))
  let w<-`(bracketedBinder|(E:XK))
  let o:=o.setArg 1 (o[1].setArg 0 (o[1][0].setArg 1 y))
  return s.setArg 1 (((z.setArg 2 (d[2].setArg 0 (mkNullNode (b++#[p.raw,h,u,w])) |>.setArg 1 (t.setArg 0 (t[0].setArg 1 (<-`(Prop)))))).setArg 4 (d[4].setArg 0 (c.setArg 4 o))))
 Macro.throwUnsupported
set_option hygiene false in
open Lean in
local macro_rules|`(tactic|exists $es,*)=>do
 let e:=es.getElems
 let S:=e[0]!
 let q:=Syntax.mkApp (mkIdent (if e[1]! matches `(_) then `aO else `Γ)) #[]
 let a:=if S.raw.isIdent then mkIdent `S else mkIdent `N
 let mut r:=#[<-(if e[1]! matches `(_) then `(tactic|refine $q ($a:ident:=$S) (λ_ _ A _ s H vs Q E $(e[2]!) h=>?_)) else `(tactic|refine $q ($a:ident:=$S) $(mkIdent (`T++e[1]!.raw.getId)) (λ_ _ A _ s H vs Q E $(e[2]!) h=>?_))),<-`(tactic|intro X _),<-`(tactic|let $(e[3]!):term:=h)]
 for x in e[4:] do
  r:=r.push (<-match x with
   |`(1)=>`(tactic|have hsz:=Ϯ)
   |`(2)=>`(tactic|have nd:=$(mkIdent (S.raw.getId++`nd)))
   |`($y:ident $z:ident)=>`(tactic|have $y:ident:= @$z P w K mg base T)
   |_=>let n:=x.raw.getId;`(tactic|have $(mkIdent n.getRoot):ident:=$(mkIdent (`T++n.replacePrefix n.getRoot .anonymous))))
 `(tactic|($r;*))
theorem _Z.e02{p q:Prop}(h:p/\q)(k:p->q->g):(g:Prop):=k h.1 h.2
theorem _Z.e03{p q r:Prop}(h:p/\q/\r)(k:p->q->r->g):(g:Prop):=_Z.e02 h.2 (k h.1)
theorem _Z.e04{p q r s:Prop}(h:p/\q/\r/\s)(k:p->q->r->s->g):(g:Prop):=_Z.e03 h.2 (k h.1)
theorem _Z.e05{p q r s t:Prop}(h:p/\q/\r/\s/\t)(k:p->q->r->s->t->g):(g:Prop):=_Z.e04 h.2 (k h.1)
theorem _Z.e06{p q r s t i:Prop}(h:p/\q/\r/\s/\t/\i)(k:p->q->r->s->t->i->g):(g:Prop):=_Z.e05 h.2 (k h.1)
theorem _Z.e11{p:α->Prop}(h:∃x,p x)(k:∀x,p x->g):(g:Prop):=h.elim k
theorem _Z.e12{p q:α->Prop}(h:∃x,p x/\q x)(k:∀x,p x->q x->g):(g:Prop):=h.elim λx h=>_Z.e02 h (k x)
theorem _Z.e13{p q r:α->Prop}(h:∃x,p x/\q x/\r x)(k:∀x,p x->q x->r x->g):(g:Prop):=h.elim λx h=>_Z.e03 h (k x)
theorem _Z.e14{p q r s:α->Prop}(h:∃x,p x/\q x/\r x/\s x)(k:∀x,p x->q x->r x->s x->g):(g:Prop):=h.elim λx h=>_Z.e04 h (k x)
theorem _Z.e15{p q r s t:α->Prop}(h:∃x,p x/\q x/\r x/\s x/\t x)(k:∀x,p x->q x->r x->s x->t x->g):(g:Prop):=h.elim λx h=>_Z.e05 h (k x)
theorem _Z.e21{p:α->β->Prop}(h:∃x y,p x y)(k:∀x y,p x y->g):(g:Prop):=h.elim λx h=>_Z.e11 h (k x)
theorem _Z.e22{p q:α->β->Prop}(h:∃x y,p x y/\q x y)(k:∀x y,p x y->q x y->g):(g:Prop):=h.elim λx h=>_Z.e12 h (k x)
theorem _Z.e23{p q r:α->β->Prop}(h:∃x y,p x y/\q x y/\r x y)(k:∀x y,p x y->q x y->r x y->g):(g:Prop):=h.elim λx h=>_Z.e13 h (k x)
theorem _Z.e24{p q r s:α->β->Prop}(h:∃x y,p x y/\q x y/\r x y/\s x y)(k:∀x y,p x y->q x y->r x y->s x y->g):(g:Prop):=h.elim λx h=>_Z.e14 h (k x)
theorem _Z.e25{p q r s t:α->β->Prop}(h:∃x y,p x y/\q x y/\r x y/\s x y/\t x y)(k:∀x y,p x y->q x y->r x y->s x y->t x y->g):(g:Prop):=h.elim λx h=>_Z.e15 h (k x)
theorem _Z.e31{p:α->β->γ->Prop}(h:∃x y z,p x y z)(k:∀x y z,p x y z->g):(g:Prop):=h.elim λx h=>_Z.e21 h (k x)
theorem _Z.e32{p q:α->β->γ->Prop}(h:∃x y z,p x y z/\q x y z)(k:∀x y z,p x y z->q x y z->g):(g:Prop):=h.elim λx h=>_Z.e22 h (k x)
theorem _Z.e33{p q r:α->β->γ->Prop}(h:∃x y z,p x y z/\q x y z/\r x y z)(k:∀x y z,p x y z->q x y z->r x y z->g):(g:Prop):=h.elim λx h=>_Z.e23 h (k x)
theorem _Z.e34{p q r s:α->β->γ->Prop}(h:∃x y z,p x y z/\q x y z/\r x y z/\s x y z)(k:∀x y z,p x y z->q x y z->r x y z->s x y z->g):(g:Prop):=h.elim λx h=>_Z.e24 h (k x)
set_option hygiene false in
open Lean Parser.Tactic in
local macro_rules(kind:=Lean.Parser.Tactic.tacticLet__)|s=>do
 match s with
 |`(tactic|let $p:term:=$e)=>do
  if let`($f:ident $_ $o):=e then if let`(#[$s:ident,$a:ident,$h,$j,$g:ident]):=p then if f.getId==`Θ then return<-`(tactic|(let #[$s,$a]:=$e;generalize upd $h $j $o=$g at $s:ident $a:ident ⊢))
  let`(#[$x,*]):=p|Macro.throwUnsupported
  let d:=e.raw.isIdent
  let mut i:Array Term:=#[]
  let mut q:=#[]
  let mut r:=#[]
  for y in x.getElems do
   let mut z:=y
   unless y matches `(_)||y.raw.isIdent&&y.raw.getId !=`rfl do
    z:=mkIdent (.mkSimple s!"_{if d then e.raw.getId.toString else ""}{i.size}")
    r:=r.push (<-if y.raw.isIdent then `(tactic|subst $z) else `(tactic|let $y:term:=$z))
   i:=i.push z
   q:=q.push (<-if z.raw.isIdent then `(rcasesPatLo|$(⟨z⟩):ident) else `(rcasesPatLo|_))
  let n:=i.size
  let c<-if d then `(tactic|try clear $e) else `(tactic|skip)
  let f(n:Nat)(i:Array Term):MacroM (TSyntax `tactic):=do
   let mut a:=#[]
   for m in if n<5 then [1,2,0,3] else [2,3,0,1] do if m<n then a:=a.push (<-`(tacticSeq|refine $(mkIdent (.mkStr `_Z s!"e{m}{n-m}")) $e ?_))
   `(tactic|((first $[|$a]*);$c;intro $i*))
  let b:=i.extract 3 n
  let k:=mkIdent `_c
  let j<-if n<5 then `(tactic|fail) else `(tactic|($(<-f 4 ((i.extract 0 3).push k));let #[$b,*]:=$k))
  let t:=#[<-if n<3 then `(tactic|obtain ⟨$q,*⟩:=$e) else `(tactic|first|$(<-f n i):tactic|$j:tactic|obtain ⟨$q,*⟩:=$e)]++r
  `(tactic|($t;*))
 |`(tactic|let $x:ident:=!$f:ident)=>`(tactic|have $x:ident:= @$f P w K mg base T)
 |_=>return(s.setKind ``tacticHave__).setArg 0 (mkAtom "have")
local macro_rules|`(#[$x,*])=>`(⟨$x,*⟩)
local macro_rules|`(#v[$x,*])=>`(List.toArray [$x,*])
local macro_rules|`(tactic|show $e)=>`(tactic|refine $e)
local macro_rules|`(tactic|lk)=>`(tactic|walk_at "ex")
local macro_rules|`(tactic|cbv)=>`(tactic|walk_at "go")
local macro_rules|`(tactic|f_are)=>`(tactic|walk_at "e")
local macro_rules|`(tactic|f_tup)=>`(tactic|walk_at "s")
local macro_rules|`(tactic|k_go)=>`(tactic|walk_at "A")
local macro_rules|`(tactic|room)=>`(tactic|walk_at "sc")
local macro_rules|`(tactic|w_up)=>`(tactic|walk_at "c")
local macro_rules|`(tactic|f_len)=>`(tactic|walk_at "n")
local macro_rules|`(())=>`(by omega)
local macro_rules|`(tactic|fin2)=>`(tactic|decide+kernel)
local macro_rules|`(↑$e)=>`(some $e)
local macro_rules|`(↥$e)=>`(($e).length)
local macro_rules|`($a<|>$b)=>`(($a).trans $b)
local macro_rules|`($a<*$b)=>`($a _ _ $b)
local macro_rules|`(tactic|show $a*>$b)=>`(tactic|(show $a;show $b))
local macro_rules|`(tactic|show $a>>=$b)=>`(tactic|(show $a;lk;show $b))
set_option tactic.hygienic false
local macro_rules|`(⇑$e)=>`(($e).heap.objs.size)
local macro_rules|`(~~~$e)=>`(by simpa using $e)
set_option hygiene false in
local macro_rules|`(tactic|symm)=>`(tactic|(f_len;show ψ ?_))
set_option hygiene false in
local macro_rules|`(∅)=>`(Ϩ X.prog X.w)
abbrev MG:=PySem.Str->Option PySem.Value
namespace _L
open PySem PySem.Spec PyProof.Rows
abbrev Key:=Sum Int Str
def sO:Key->ε->Bool
 |.inl k,v=>Value.isInt k v
 |.inr x,v=>Value.isStrOf x v
def alq(w:ϭ):Key->Int
 |.inl k=>hashInt k
 |.inr x=>hashStr w x
theorem jG:∀{k:Key}{v:ε},sO k v=true->(∃i t,k=Sum.inl i/\v=Value.int i t)\/(∃x t,k=Sum.inr x/\v=Value.str x t)
 |.inl i,v,h=>by
   let#[t,e]:=Value.isInt_shape (k:=i) (v:=v) h;show .inl #[i,t,rfl,e]
 |.inr x,v,h=>by
   let#[t,e]:=Value.isStrOf_shape (x:=x) (v:=v) h;show .inr #[x,t,rfl,e]
def aha(a b:Int):decide ((Sum.inl a:Key)=Sum.inl b)=(a==b):=by
 by_cases e:a=b
 .subst e;simp
 .let h:¬(Sum.inl a:Key)=Sum.inl b:=λq=>e (Sum.inl.inj q)
  rw[decide_eq_false h];show(beq_eq_false_iff_ne.mpr e).symm
def amu(a b:Str):decide ((Sum.inr a:Key)=Sum.inr b)=decide (a=b):=by
 by_cases e:a=b
 .subst e;simp
 .let h:¬(Sum.inr a:Key)=Sum.inr b:=λq=>e (Sum.inr.inj q)
  rw[decide_eq_false h,decide_eq_false e]
theorem acu(a:Int)(b:Str):decide ((Sum.inl a:Key)=Sum.inr b)=false:=decide_eq_false (λq=>nomatch q)
theorem aiF(a:Str)(b:Int):decide ((Sum.inr a:Key)=Sum.inl b)=false:=decide_eq_false (λq=>nomatch q)
def gJ(prog:ϱ)(w:ϭ):PySem.KeyKind prog w Key where
 is:=sO
 hash:=alq w
 inj:=λv a b g f=>by
  obtain⟨i,t,rfl,rfl⟩|⟨x,t,rfl,rfl⟩:=jG g
  .obtain⟨j,u,rfl,e⟩|⟨y,u,rfl,e⟩:=jG f
   .injection e with e1 _;rw[e1]
   .show nomatch e
  .obtain⟨j,u,rfl,e⟩|⟨y,u,rfl,e⟩:=jG f
   .show nomatch e
   .injection e with e1 _;rw[e1]
 byValue:=λk v h=>by
  obtain⟨i,t,rfl,rfl⟩|⟨x,t,rfl,rfl⟩:=jG h<;>rfl
 pyHash:=λc h=>by
  obtain⟨i,t,rfl,rfl⟩|⟨x,t,rfl,rfl⟩:=jG c
  .show wpAny_pyHash_int h
  .show wpAny_pyHash_str h
 eqBool:=λl c h=>by
  obtain⟨i,t,rfl,rfl⟩|⟨x,t,rfl,rfl⟩:=jG l
  .obtain⟨j,u,rfl,rfl⟩|⟨y,u,rfl,rfl⟩:=jG c
   .rw[aha]at h;show wpAny_eqBool_int h
   .rw[acu]at h;show SeqAt.EqAt.int_str i t y u _ _ _ _ h
  .obtain⟨j,u,rfl,rfl⟩|⟨y,u,rfl,rfl⟩:=jG c
   .rw[aiF]at h;show SeqAt.EqAt.str_int x t j u _ _ _ _ h
   .rw[amu]at h;show wpAny_eqBool_str h
 «strs» :=λk x t v h=>by
  obtain⟨i,u,rfl,e⟩|⟨y,u,rfl,e⟩:=jG h
  .show nomatch e
  .injection e with e1 _
   subst e1;cases v<;>rfl
inductive V where
 |non|bl (b:Bool)|int (i:Int)|str (x:Str)|byt (b:Array UInt8)|flt (b:UInt64)|ref (a:δ)|ty (n:String)
 deriving DecidableEq
def RelV:V->ε->Prop
 |.non,u=>u=Value.none
 |.bl b,u=>u=Value.bool b
 |.int i,u=>∃t,u=Value.int i t
 |.str x,u=>∃t,u=Value.str x t
 |.byt b,u=>∃t,u=Value.bytes b t
 |.flt b,u=>∃t,u=Value.float b t
 |.ref a,u=>u=Value.ref a
 |.ty n,u=>u=Value.type n
abbrev Vals:List V->List ε->Prop:=Paired RelV
def cV:Option V->Option ε->Prop
 |some v,↑u=>RelV v u
 |none,none=>True
 |_,_=>False
def KV{κ:Type}:List (κ×V)->List (κ×ε)->Prop:=Paired λ(p:κ×V)(q:κ×ε)=>p.1=q.1/\RelV p.2 q.2
inductive HO where
 |lst (xs:List V)
 |tup (xs:List V)
 |dK (Ϸ:List (Key×V))
 |ins (C dx:δ) (fs:List (Str×V))
 |own (x:δ)
 |xd (fs:List (Str×V))
 |met (f x:δ)
 |rng (lo hi:Int)
 |frz (o:Obj) (u:HO)
 |tbl (ps:Array ε)
 |ext (φ:ϫ->Prop)
abbrev Hp:=δ->Option HO
section
variable(P:ϱ)(w:ϭ)
def ϟ(H:Hp)(h:ϫ)(a:δ):HO->Prop
 |.lst xs=>↥xs<=ϰ/\∃(e:List ε)(n:Nat),Vals xs e/\h.get? a=some {cls:=.type "list",data:=.seq e.toArray n}
 |.tup xs=>↥xs<=ϰ/\∃e:List ε,Vals xs e/\IsTup h a e.toArray
 |.dK Ϸ=>↥Ϸ<=ϰ/\(a==sysModules)=false/\∃vs,KV Ϸ vs/\h.DictOf (gJ P w) a vs
 |.ins C dx fs=>H dx=↑(.own a)/\↥fs<=1000/\dx≠a/\h.get? a=↑(arh C dx)/\
   ∃mA,h.Ns1 dx mA/\(∀f,cV (fs.lookup f) (mA f))/\PySem.Within mA (fs.map (·.1))
 |.own _=>∃o,h.get? a=↑o
 |.xd fs=>∃mA,h.Ns1 a mA/\∀f,cV (fs.lookup f) (mA f)
 |.rng lo hi=>∃t u v,h.get? a=some {cls:=.type "range",data:=.fields #v[.int lo t,.int hi u,.int 1 v]}
 |.frz o u=>h.get? a=↑o/\ϟ H h a u
 |.tbl ps=>∃g:Array ε,h.get? a=some {cls:=.none,data:=.fields g}/\TriplesOk g.toList/\∀(p:Pos)(i:ε),codeAmong p g.toList=↑i->∃c oc u q t vs t',i=.ref c/\codeAmong p ps.toList=↑(.str q t)/\H c=↑(.frz oc u)/\oc.data=.fields vs/\vs[1]?=↑(.str q t')
 |.met f x=>h.get? a=↑(auf (.ref f) (.ref x))
 |.ext φ=>φ h/\(∃o,h.get? a=↑o)/\∀h1 h2:ϫ,φ h1->(∀o,h1.get? a=↑o->h2.get? a=↑o)->φ h2
def aL(H:Hp)(h:ϫ):=∀a o,H a=↑o->ϟ P w H h a o
end
def Rd(H:Hp)(a:δ)(u:HO):Prop:=H a=↑u\/∃o,H a=↑(.frz o u)
structure Un(fs ex:List δ)(H H':Hp)(h h':ϫ):Prop where
 keep:∀b o,h.get? b=↑o->H b=none->b∉fs->b∉ex->h'.get? b=↑o
 slot:∀b o,h.get? b=↑o->H b=none->b∈fs->b∉ex->∃sl,h'.get? b=some {o with slots:=sl}
 free:∀b o,h.get? b=↑o->H b=none->b∉ex->H' b=none
 there:∀b o,h.get? b=↑o->b∉ex->∃o',h'.get? b=↑o'
 tups:∀b xs,H b=↑(.tup xs)->H' b=↑(.tup xs)
 frzs:∀b o u,H b=↑(.frz o u)->H' b=↑(.frz o u)
 tbls:∀b ps,H b=↑(.tbl ps)->∃more,H' b=↑(.tbl (ps++more))
def jP(h:ϫ)(H:Hp):List δ:=(ado h.objs.size).filter λa=>(H a).isSome
def jz(h:ϫ)(H:Hp):ϫ:=W.hideAll h (jP h H)
theorem ag9(h:ϫ)(H:Hp):(jz h H).objs.size=h.objs.size:=W.hideAll_size _ _
theorem ac7(e:h.get? b=↑o)(n:H b=none):(jz h H).get? b=↑o:=
 W.hideAll_get _ e λa=>by
  let q:(H b).isSome=true:=(akR.mp a).2;rw[n]at q;simp at q
def aik(e:(jz h H).get? b=↑o):h.get? b=↑o/\H b=none:=by
 let a:h.get? b=↑o:=W.of_hideAll (jP h H) e;show#[a,?_];cases q:H b with
 |none=>rfl
 |some x=>
  let c:b∈jP h H:=akR.mpr #[ajF.mpr (abN a),by simp[q]];let z:(jz h H).get? b=none:=W.hideAll_none (jP h H) c;rw[z]at e;cases e
structure Mod(K:ϩ)(mg:MG)(base:ϫ):Prop where
 kin:K.In base
 glob:base.Ns mainGlobals mg
 blt:∃mb,base.Ns builtinsNs mb/\∀x:Str,x≠"__name__"->mb x=bootBuiltins x
 nolimit:base.NoLimit
def di(l:List Env):List δ:=l.filterMap (·.frame)
abbrev XK:=ε->Option δ×Bool->Hp->Prop
abbrev VK:=V->Hp->Prop
def θ(K:ϩ)(H:Hp)(a:δ)(xs:List V):Prop:=
 Rd H a (.lst xs)\/
  ∃(o:Obj)(c:Array ε)(n:Nat),K.lookup a=↑o/\o.cls=.type "list"/\o.dict=none/\o.data=.seq c n/\c.size<=ϰ/\Vals xs c.toList
structure ϡ(K:ϩ)(C:δ):Prop where
 pg:aso K C ala=true
 hd:aoW K C=true
 po:asY K C=true
 sa:afO K (.ref C) "__setattr__"=some ↑(.builtin "object.__setattr__")
def ϊ(K:ϩ)(C:δ)(f:Str):Prop:=afO K (.ref C) f=↑none
structure Meth(K:ϩ)(C:δ)(m:Str)(f:δ):Prop where
 at_:afO K (.ref C) m=some ↑(.ref f)
 fn:atB K (.ref f)=true
 kp:ap6 K (.ref f)=true
section
variable{X:Cx}{ϵ:List (δ×Obj)}{σ:St}{H:Hp}{s:μ}{A:ϴ}{E:ε->μ->Prop}{Q:ε->μ->Prop}{c:ε}{b:Bool}
inductive fj (K:ϩ) (H:Hp):V->ε->Prop where
 |non:fj K H .non (.type "NoneType")
 |bl (x:Bool):fj K H (.bl x) (.type "bool")
 |int (i:Int):fj K H (.int i) (.type "int")
 |str (x:Str):fj K H (.str x) (.type "str")
 |flt (x:UInt64):fj K H (.flt x) (.type "float")
 |lst {a:δ} {xs:List V} (e:H a=↑(.lst xs)):fj K H (.ref a) (.type "list")
 |frz {a:δ} {o:Obj} {xs:List V} (e:H a=↑(.frz o (.lst xs))):fj K H (.ref a) (.type "list")
 |tup {a:δ} {xs:List V} (e:H a=↑(.tup xs)):fj K H (.ref a) (.type "tuple")
 |dK {a:δ} {Ϸ:List (Key×V)} (e:H a=↑(.dK Ϸ)):fj K H (.ref a) (.type "dict")
 |ins {a C dx:δ} {fs:List (Str×V)} (e:H a=↑(.ins C dx fs)) (cl:ϡ K C) (ha:afO K (.ref C) "__class__"=some ↑(.builtin "object.__class__"))
  (hn:aih K (.builtin "object.__class__") "__get__"=some ↑(.builtin "getset_descriptor.__get__")) (htk:asO K (.builtin "object.__class__")=↑true)
  (hm:aon K C (.type "object")=↑true):fj K H (.ref a) (.ref C)
end
structure ϛ(cc:Bool)(k:Nat)(A:ϴ):Prop where
 hd:cc=true->A.handled=none
 dp:A.depth+3*k+5<recursionLimit
 un:A.units+16*k+200<cLine
abbrev Sp:=List V->Hp->VK->XK->Prop
abbrev gf:=List Env->Hp->μ->XK->ε->μ->Prop
structure nA(P:ϱ)(w:ϭ)(K:ϩ)(mg:MG)(base:ϫ)(A:ϴ)(outer:List Env)(s:μ)(H:Hp):Prop where
 frames:A.frames=↑outer
 mod:Mod K mg base
 bs:∀b o,base.get? b=↑o->s.heap.get? b=↑o/\H b=none
 bsz:base.objs.size<=⇑s
 funs:s.heap.FunFrames base outer
 frf:∀b∈di outer,H b=none
 hok:aL P w H s.heap
 bare:AllBare s.gens
def CE(outer:List Env)(P:ϱ)(w:ϭ)(H:Hp)(s:μ)(Q:VK)(u:ε)(s':μ):Prop:=
 ∃v H',s'.os=s.os/\AllBare s'.gens/\Un (di outer) [] H H' s.heap s'.heap/\aL P w H' s'.heap/\RelV v u/\Q v H'
def CR(CX:gf)(outer:List Env)(P:ϱ)(w:ϭ)(H:Hp)(s:μ)(Q:VK)(E:XK)(r:Result)(s':μ):Prop:=
 match r with
 |.ok (.ret u)=>CE outer P w H s Q u s'
 |.ok _=>False
 |.error e=>CX outer H s E e s'
structure dG(P:ϱ)(w:ϭ)(K:ϩ)(mg:MG)(base:ϫ)(CX:gf)(cc:Bool)(k:Nat)(f:δ)(fd:aij)(ps:List Str)(sp:Sp):Prop where
 len:∀vs H Q E,sp vs H Q E->↥vs=↥ps
 run:∀(A:ϴ)(outer:List Env)(s:μ)(H:Hp)(args:Args)(us:List ε)(vs:List V)(Q:VK)(E:XK),ϛ cc k A->nA P w K mg base A outer s H->BindsTo s fd args (ps.zip us)->Vals vs us->sp vs H Q E->
  codeAny (Ϩ P w) A (.call (.ref f) args) (CR CX outer P w H s Q E) s
structure Mk(K:ϩ)(C f:δ):Prop where
 makes:auh K C=true
 init:afO K (.ref C) "__init__"=some ↑(.ref f)
 fn:atB K (.ref f)=true
 kp:ap6 K (.ref C)=true
end _L
namespace _A
open PySem PySem.W PySem.Calls PyProof.Rows
def aiz:∀(ns:List Int)(vs:List ε),WellAll P h vs (ns.map WData.int)->IntsAre vs ns:=by
 intro ns;induction ns with
 |nil=>
  intro vs w;rw[auy]at w;cases w;show .nil
 |cons n ns c=>
  intro vs w;rw[aen]at w;cases w with
  |cons a b=>
   cases a;show .cons _ _ (c _ b)
def amV{l:OpenLaw}{n:Nat}(p:l.most=↑n){P:Params}{h:ϫ}(c:l.row.toRowW.claim.pre args=true)(j:WellAll P h vals args):∃a vs ns,vals=[Value.ref a]/\args=[WData.list (ns.map WData.int)]/\h.get? a=some {cls:=.type "list",data:=.seq vs.toArray}/\IntsAre vs ns/\↥ns<=n:=by
 let m:WShape.hasAll [] args [.list .int]=true:=(pre_splitW c).1;let o:l.pre.holds [] {args:=args}=true:=(pre_splitW c).2;let#[d,r,rfl,h1,h2]:=hasAllW_cons m;obtain rfl:=hasAllW_nil h2;let#[xs,rfl,s]:=hasW_list h1;let#[ns,rfl]:=items_int s;let e:↥ns<=n:=by
  unfold OpenLaw.pre at o;let g:(WTm.not (.lt (.lit (.int (n:Int))) (.len (.arg 0)))).holds [] {args:=[.list (ns.map .int)]}=true:=by
   let g:=(holds_andW o).1;rw[p]at g;show g
  let i:=condW_of g (w_not (w_lt w_lit (w_len_list (w_arg rfl))));rw[aau]at i;show Nat.le_of_not_lt λq=>?_
  let u:(n:Int)<((↥ns:Nat):Int):=()
  first
   |(rw[decide_eq_true u]at i;show absurd i (by decide))
   |(simp at i;omega)
 cases j with
 |cons v x=>
  cases x;cases v with
  |list y f=>show#[_,_,ns,rfl,rfl,y,aiz ns _ f,e]
theorem af3(l:OpenLaw)(args:List WData):l.row.toRowW.claim.post args (.bool true) args=true:=
 postW_of (r:=l.row.toRowW) (X:=(true==true))
  (show WShape.has [] (.bool true) .bool=true by first|rfl|decide|simp[WShape.has,WShape.arms,WShape.armsAll])
  (show(WTm.eq .res (.lit (.bool true))).value [] {args:=args,res:=↑(.bool true),after:=args}=↑(.bool (true==true))from w_eq_bool (w_res rfl) w_lit) rfl
def ahV{l:OpenLaw}{n:Nat}{q:ϱ}{z:(Str->Option ε)->ϫ->Prop}{B:ϭ->ϫ->Prop}{d:DefRec}(F:l.most=↑n)(u:d.params.defaults=[])(call:∀(w:ϭ)(s₀ c:μ)(mg mb:MG)(j:δ)(o:Obj)(pm cd g:ε)(a:δ)(vs:List ε)(ns:List Int),
   Ground q e [] z w s₀ mg mb c.heap->B w c.heap->
   c.heap.get? j=↑o->o.data=.func (docDef d.name d.params d.body d.scope pm cd g)->c.heap.CodeRec cd d.name->mg d.name=↑(.ref j)->
   c.heap.get? a=some {cls:=.type "list",data:=.seq vs.toArray}->IntsAre vs ns->↥ns<=n->c.gens= #v[]->
   codeAny (Ϩ l.prog w) callerA (.call (.ref j) #[[.ref a],[]]) (λr s'=>r=.ok (.ret (.bool true))/\OldK c.heap s'.heap/\s'.os=c.os/\AllBare s'.gens) c):WalkO q e z B l.row.toRowW d [] (λf vs=>PySem.call f vs):=by
 intro w s₀ c mg mb G Y j o pm cd g dV kV H hd v C x I D vals as m E J y L;obtain rfl:dV=.none:=Dflts.none C u;obtain rfl:kV=.none:=Dflts.noKw C;let#[a,vs,ns,rfl,rfl,p,i,s]:=amV F m y;show enter_call (ajA (call w s₀ c mg mb j o pm cd g a vs ns G Y H (fd_plain hd) v x p i s I) λr s' M=>?_);let#[rfl,h2,O,P]:=M;show#[.inl #[.bool true,.bool true,[],rfl,λ_=>rfl,.bool true,af3 l _,λ_=>#[List.Pairwise.nil,λ_ Q=>(nomatch Q)]],h2,O,P]
end _A
namespace _L
open PySem PySem.Spec PyProof.Rows
theorem Vz:∀{vs:List ε}{ns:List Int},IntsAre vs ns->Vals (ns.map V.int) vs
 |_,_,.nil=>.nil
 |_,_,.cons n t h=>.cons #[t,rfl] (Vz h)
abbrev Ro{K:ϩ}{h:ϫ}(_:K.In h):ϩ:=K
def inClass(s:ϧ)(j:Nat):ϧ:=match s with
 |.ClassDef _ _ _ body _ _ _ _ _ _ _=>body.getD j (.Pass #[0,0,0,0])
 |_=>.Pass #[0,0,0,0]
def lg(s:ϧ):Arguments:=match s with
 |.FunctionDef _ a _ _ _ _ _ _ _ _=>a
 |_=>{posonlyargs:=[],args:=[],vararg:=none,kwonlyargs:=[],kw_defaults:=[],kwarg:=none,defaults:=[]}
def Ψ(s:ϧ):List ϧ:=match s with
 |.FunctionDef _ _ b _ _ _ _ _ _ _=>b
 |_=>[]
def ς(s:ϧ):ahD:=match s with
 |.FunctionDef _ _ _ _ _ _ sc _ _ _=>sc
 |_=>{kind:=.function,names:=[],isGenerator:=false,isCoroutine:=false}
structure cF(K:ϩ)(x qual:Str)(st:ϧ)(f:δ)(fd:aij):Prop where
 ex:∃(oc:ε)(od:Option δ)(kV doc pm:ε)(an:Option δ)(Ϲ ct:ε)(osl:Array (Option ε)),
  fd=atq x qual (lg st) (Ψ st) (ς st) .none kV doc pm an Ϲ ct/\K.lookup f=some #[oc,od,.func fd,osl]/\asZ K Ϲ qual=true
 kp:ap6 K (.ref f)=true
section
variable{P:ϱ}{w:ϭ}{K:ϩ}{mg:MG}{base:ϫ}
theorem uK{st:ϧ}{f:δ}{oc:ε}{od an:Option δ}{e:Array (Option ε)}{kV a pm g ct:ε}(l:K.lookup f=some #[oc,od,.func (atq x qual (lg st) (Ψ st) (ς st) .none kV a pm an g ct),e])(c:asZ K g qual=true)(k:ap6 K (.ref f)=true):cF K x qual st f (atq x qual (lg st) (Ψ st) (ς st) .none kV a pm an g ct):=#[#[oc,od,kV,a,pm,an,g,ct,e,rfl,l,c],k]
end
def qF(h:ϫ):Option ε->List δ->Prop
 |c,[]=>c=↑.none
 |c,a::r=>c=↑(.ref a)/\∃o vs,h.get? a=↑o/\o.data=.fields vs/\qF h vs[2]? r
def Ctx(h:ϫ)(e:δ)(b:Bool)(c:Option ε):Prop:=(b=true->c=↑.none)/\∃l,qF h c l/\e∉l/\l.Nodup
def bO(h:ϫ)(e:δ)(cls:ε)(d:Option δ×Bool)(tb:Option δ)(f:ε):Prop:=
 ∃a vs,h.get? e=↑a/\a.cls=cls/\a.dict=d.1/\a.data=.fields vs/\vs[1]?=↑(tb.elim Value.none Value.ref)/\2<vs.size/\Ctx h e d.2 vs[2]? /\
  ∀T,tb=↑T->T≠e/\∃c ws,h.get? T=↑c/\c.data=.fields ws/\ws[3]?=↑f
def bY(P:ϱ)(w:ϭ):gf:=λouter H s E x s'=>∃e tb cls d H',x=.ref e/\s'.os=s.os/\AllBare s'.gens/\Un (di outer) [] H H' s.heap s'.heap/\aL P w H' s'.heap/\bO s'.heap e cls d tb .none/\
 (∀b∈e::tb.toList,H' b=none/\s.heap.get? b=none)/\E cls d H'
def bY.never(h:bY P w outer H s (λ_ _ _=>False) e s'):False:=by
 let#[_,_,_,_,_,_,_,_,_,_,_,_,z]:=h;show z
section
variable{X:Cx}{a b c e:Ϫ}{es:List Ϫ}{σ:St}{H:Hp}{Q:VK}{QT:Bool->Hp->Prop}{QA:List V->Hp->Prop}{D:Ends}{pos p apos:Pos}{x:Str}{v:V}
def Gc(mg:MG)(x:Str)(v:V):=∃u,mg x=↑u/\RelV v u
end
abbrev fu:List ε:=[.type "ValueError",.type "Exception",.type "BaseException",.type "object"]
def η(mg:MG)(x:Str):δ:=match mg x with
 |some (.ref C)=>C
 |_=>0
def cT(h:mg x=↑(.ref C)):η mg x=C:=by unfold η;rw[h]
structure pX(K:ϩ)(mg:MG)(x:Str):Prop where
 at_:mg x=↑(.ref (η mg x))
 ex:auE K (η mg x) fu "ValueError.__new__"=true
def agq{K:ϩ}{x:Str}{C:δ}(h:mg x=↑(.ref C))(e:auE K C fu "ValueError.__new__"=true):pX K mg x:=by
 let z:η mg x=C:=by unfold η;rw[h]
 show#[by rw[z];show h,by rw[z];show e]
def HX(K:ϩ)(C:δ)(i:Option ε):Bool:=match K.lookup C with
 |some ⟨.type "type",_,.cls cd,sl⟩=>(match cd.mro,sl.toList with
  |.ref a::bm,[_,_,_,_,↑(.builtin n),_]=>a==C&&n=="ValueError.__new__"&& !cd.hasDel&&W.tailIn K fu bm&&W.nsOkIn K cd.ns&&aup K cd.ns "__init__"==↑i
  |_,_=>false)
 |_=>false
def jV(K:ϩ)(C L:δ):Bool:=(as6 K C).any λcd=>cd.hasDict&&cd.mro==.ref C:: .ref L::fu
abbrev nR(K:ϩ)(C f:δ):Bool:=HX K C ↑(.ref f)
structure XBase(K:ϩ)(mg:MG)(x:Str):Prop where
 at_:mg x=↑(.ref (η mg x))
 reads:asS K (η mg x) (.type "type")=true
 ini:asT K (.ref (η mg x)) (.type "type") "__init__"=↑(.val (.builtin "ValueError.__init__"))
 ga:aih K (.ref (η mg x)) "__getattribute__"=some ↑(.builtin "type.__getattribute__")
structure qK(K:ϩ)(mg:MG)(Lx x qual fld:Str)(st:ϧ):Prop where
 at_:mg x=↑(.ref (η mg x))
 ex:∃f fd,cF K "__init__" qual st f fd/\nR K (η mg x) f=true/\atB K (.ref f)=true
 sa:afO K (.ref (η mg x)) "__setattr__"=some ↑(.builtin "object.__setattr__")
 tk:asq K (η mg x) fld=↑none
 xc:jV K (η mg x) (η mg Lx)=true
structure pO(K:ϩ)(C:δ):Prop where
 hd:aoW K C=true
 ga:afO K (.ref C) "__getattribute__"=some ↑(.builtin "BaseException.__getattribute__")
 gt:afO K (.ref C) "__getattr__"=↑none
 cl:afO K (.ref C) "__class__"=some ↑(.builtin "object.__class__")
 cg:aih K (.builtin "object.__class__") "__get__"=some ↑(.builtin "getset_descriptor.__get__")
 ct:asO K (.builtin "object.__class__")=↑true
 mo:aon K C (.type "object")=↑true
 mb:aon K C (.type "BaseException")=↑true
structure pY(K:ϩ)(mg:MG)(x:Str):Prop extends XBase K mg x where
 ty:asj K (.ref (η mg x))=↑(.type "type")
 mb:aon K (η mg x) (.type "BaseException")=↑true
structure XC(K:ϩ)(mg:MG)(Lx x:Str):Prop where
 at_:mg x=↑(.ref (η mg x))
 xc:jV K (η mg x) (η mg Lx)=true
 ty:asj K (.ref (η mg x))=↑(.type "type")
 attr:pO K (η mg x)
section
variable{K:ϩ}{mg:MG}{Lx x qual fld:Str}{C L f:δ}{st:ϧ}{fd:aij}
def ajm(h:mg x=↑(.ref C))(a:asS K C (.type "type")=true)(c:asT K (.ref C) (.type "type") "__init__"=↑(.val (.builtin "ValueError.__init__")))(f:aih K (.ref C) "__getattribute__"=some ↑(.builtin "type.__getattribute__"))(g:asj K (.ref C)=↑(.type "type"))(i:aon K C (.type "BaseException")=↑true):pY K mg x:=by
 let e:=cT h;show{at_:=by rw[e];show h,reads:=by rw[e];show a,ini:=by rw[e];show c,ga:=by rw[e];show f,ty:=by rw[e];show g,mb:=by rw[e];show i}
def afF(h:mg x=↑(.ref C))(c:mg Lx=↑(.ref L))(f:jV K C L=true)(g:asj K (.ref C)=↑(.type "type"))(i:aoW K C=true)(j:afO K (.ref C) "__getattribute__"=some ↑(.builtin "BaseException.__getattribute__"))(l:afO K (.ref C) "__getattr__"=↑none)(m:afO K (.ref C) "__class__"=some ↑(.builtin "object.__class__"))(n:aih K (.builtin "object.__class__") "__get__"=some ↑(.builtin "getset_descriptor.__get__"))(o:asO K (.builtin "object.__class__")=↑true)(p:aon K C (.type "object")=↑true)(a:aon K C (.type "BaseException")=↑true):XC K mg Lx x:=by
 let e:=cT h;let q:=cT c;show#[by rw[e];show h,by rw[e,q];show f,by rw[e];show g,by rw[e];show#[i,j,l,m,n,o,p,a]]
def ad6(h:mg x=↑(.ref C))(a:mg Lx=↑(.ref L))(F:cF K "__init__" qual st f fd)(c:nR K C f=true)(g:atB K (.ref f)=true)(i:afO K (.ref C) "__setattr__"=some ↑(.builtin "object.__setattr__"))(j:asq K C fld=↑none)(l:jV K C L=true):qK K mg Lx x qual fld st:=by
 let e:=cT h;let m:=cT a;show#[by rw[e];show h,#[f,fd,F,by rw[e];show c,g],by rw[e];show i,by rw[e];show j,by rw[e,m];show l]
end
structure OM(K:ϩ)(C:δ)(m qual:Str)(st:ϧ):Prop where
 ex:∃f fd,cF K m qual st f fd/\Meth K C m f
structure OI(K:ϩ)(C:δ)(qual:Str)(st:ϧ):Prop where
 ex:∃f fd,cF K "__init__" qual st f fd/\Mk K C f
structure OB(K:ϩ)(C:δ)(m qual:Str)(st:ϧ):Prop where
 rd:asS K C (.type "type")=true
 ga:aih K (.ref C) "__getattribute__"=some ↑(.builtin "type.__getattribute__")
 ex:∃f fd,cF K m qual st f fd/\asT K (.ref C) (.type "type") m=↑(.val (.ref f))
section
variable{P:ϱ}{w:ϭ}{K:ϩ}{mg:MG}{base:ϫ}{cc:Bool}{k:Nat}{x m qual:Str}{C:δ}{st:ϧ}{ps N:List Str}{sp:Sp}
def ab2(h:mg x=↑(.ref C))(F:cF K m qual st f fd)(a:afO K (.ref C) m=some ↑(.ref f))(b:atB K (.ref f)=true):OM K (η mg x) m qual st:=by
 rw[cT h];show#[f,fd,F,a,b,F.kp]
def ajB(h:mg x=↑(.ref C))(F:cF K "__init__" qual st f fd)(a:afO K (.ref C) "__init__"=some ↑(.ref f))(b:atB K (.ref f)=true)(c:auh K C=true)(d:ap6 K (.ref C)=true):OI K (η mg x) qual st:=by
 rw[cT h];show#[f,fd,F,c,a,b,d]
def acf(h:mg x=↑(.ref C))(F:cF K m qual st f fd)(a:asT K (.ref C) (.type "type") m=↑(.val (.ref f)))(b:asS K C (.type "type")=true)(c:aih K (.ref C) "__getattribute__"=some ↑(.builtin "type.__getattribute__")):OB K (η mg x) m qual st:=by
 rw[cT h];show#[b,c,f,fd,F,a]
def QK(h:mg x=↑(.ref C))(a:aso K C ala=true)(b:aoW K C=true)(c:asY K C=true)(d:afO K (.ref C) "__setattr__"=some ↑(.builtin "object.__setattr__")):ϡ K (η mg x):=by
 rw[cT h];show#[a,b,c,d]
end
structure OT(K:ϩ)(C:δ):Prop where
 ty:∀(H:Hp)(a dx:δ)(fs:List (Str×V)),H a=↑(.ins C dx fs)->fj K H (.ref a) (.ref C)
def amw{K:ϩ}{x:Str}{C:δ}(h:mg x=↑(.ref C))(c:ϡ K (η mg x))(f:afO K (.ref C) "__class__"=some ↑(.builtin "object.__class__"))(g:aih K (.builtin "object.__class__") "__get__"=some ↑(.builtin "getset_descriptor.__get__"))(i:asO K (.builtin "object.__class__")=↑true)(j:aon K C (.type "object")=↑true):OT K (η mg x):=by
 rw[cT h]at c⊢;show#[λH a dx fs e=>.ins e c f g i j]
open PySem PySem.Spec PyProof.Rows PySem.W
def BM(mg:MG)(base:ϫ):=∃bm a,mg "__builtins__"=↑(.ref bm)/\bm≠builtinsNs/\base.get? bm=↑a/\a.cls=.type "module"/\a.dict=↑builtinsNs/\a.data=.plain
def iU(K:ϩ)(x:Str):δ:=((tabIn K x).getD (0,0)).1
def b8(K:ϩ)(x:Str):δ:=((tabIn K x).getD (0,0)).2
def Im(p:Pos)(q:Str):Array ε:= #v[rawInt p.line,rawInt p.col,.str q 0]
def G9(K:ϩ)(x:Str):Bool:=match tabIn K x with
 |some a=>(K.lookup a.2).isNone
 |none=>false
def akF{K:ϩ}(h:G9 K x=true):tabIn K x=↑(iU K x,b8 K x)/\K.lookup (b8 K x)=none:=by
 unfold G9 at h;unfold iU b8;cases e:tabIn K x with
 |none=>rw[e]at h;cases h
 |some a=>
  rw[e]at h;show#[rfl,~~~h]
structure dH(K:ϩ)(mg:MG)(base:ϫ)(x:Str):Prop where
 tab:tabIn K x=↑(iU K x,b8 K x)
 code:CodeHd base (iU K x) (b8 K x)
 bm:BM mg base
 kin:K.In base
 glob:base.Ns mainGlobals mg
def abO{P:ϱ}{w:ϭ}{K:ϩ}{mg mb:MG}{CX:gf}{k:Nat}{T a:δ}{fd:aij}{x xn:Str}{sp:Sp}{s₁:μ}{ps:Array ε}(KX:K.In s₁.heap)(E:s₁.heap.Ns mainGlobals mg)(f:s₁.heap.Ns builtinsNs mb)(U:∀x:Str,x≠"__name__"->mb x=bootBuiltins x)(M:s₁.heap.NoLimit)(hg:s₁.gens= #v[])(L:s₁.heap.get? a=some {cls:=.type "list",data:=.seq vs.toArray})(hi:IntsAre vs ns)(hl:↥ns<=ϰ)(hr:ϛ cc k callerA)(hT:tabIn K xn=↑(iU K xn,b8 K xn))(W:CodeHd s₁.heap (iU K xn) (b8 K xn))(l:s₁.heap.get? (b8 K xn)=↑(tabObj #v[]))(X:K.lookup (b8 K xn)=none)(hB:BM mg s₁.heap)(F:∀base:ϫ,K.In base->base.Ns mainGlobals mg->dH K mg base xn->dG P w K mg base CX cc k T fd [x] sp)(G:∀(s:μ)(u:ε),BindsTo s fd #[[u],[]] [(x,u)])(O:∀H:Hp,θ K H a (ns.map V.int)->H (b8 K xn)=↑(.tbl ps)->sp [.ref a] H (λv _=>v=.bl true) λ_ _ _=>False)(Y:∀H e s',CX [] H s₁ (λ_ _ _=>False) e s'->False):codeAny (Ϩ P w) callerA (.call (.ref T) #[[.ref a],[]]) (λr s'=>r=.ok (.ret (.bool true))/\OldK s₁.heap s'.heap/\s'.os=s₁.os/\AllBare s'.gens) s₁:=by
 let rv:=Vz hi;let Q:=↥hi;generalize Z:b8 K xn=pt at W l X O;let I:pt≠a:=λz=>by rw[z,L]at l;cases l
 let y:∀H:Hp,θ K H a (ns.map V.int)->H pt=↑(.tbl ps)->aL P w H s₁.heap->(∀b,H b=none\/b=a\/b=pt)->(∀b,H b=none\/K.lookup b=none)->(∀u,H a=↑u->∃o v,u=.frz o v)->
   codeAny (Ϩ P w) callerA (.call (.ref T) #[[.ref a],[]]) (λr s'=>r=.ok (.ret (.bool true))/\OldK s₁.heap s'.heap/\s'.os=s₁.os/\AllBare s'.gens) s₁:=by
  intro H hS hH hok hA hK aa;let c:∀{b:δ}{o:Obj},s₁.heap.get? b=↑o->H b=none->(jz s₁.heap H).get? b=↑o:=λe n=>ac7 e n
  let free:∀{b:δ}{o:Obj},s₁.heap.get? b=↑o->o.cls≠.type "list"->o.cls≠.none->H b=none:=λ{b o} e n1 n2=>by
   obtain z|z|z:=hA b
   .show z
   .rw[z,L]at e;cases e;show absurd rfl n1
   .rw[z,l]at e;cases e;show absurd rfl n2
  let ab:∀{b:δ}{o:Obj}{es:Array DictEntry}{ep:Nat},s₁.heap.get? b=↑o->o.data=.dict es ep->H b=none:=λ{b o es ep} e d=>by
   obtain z|z|z:=hA b
   .show z
   .rw[z,L]at e;cases e;let d':Data.seq vs.toArray _=Data.dict es ep:=d;cases d'
   .rw[z,l]at e;cases e;let d':Data.fields #v[]=Data.dict es ep:=d;cases d'
  let i:∀{b:δ}{m:MG},s₁.heap.Ns b m->(jz s₁.heap H).Ns b m:=λ{b m} ⟨o,es,ep,e,d,r⟩=>#[o,es,ep,c e (ab e d),d,r];let J:K.In (jz s₁.heap H):=λb o e=>c (KX b o e) (by
   obtain z|z:=hK b
   .show z
   .rw[z]at e;cases e)
  let hM:Mod K mg (jz s₁.heap H):=#[J,i E,#[mb,i f,U],let⟨mc,h1,h2⟩:=M;#[mc,i h1,h2]];let hN:dH K mg (jz s₁.heap H) xn:=by
   show#[hT,?_,?_,J,i E]
   .rw[Z];let#[o,vs,B,tf,j,tg,inF,C,tt,e1,r1,r]:=W;show#[o,vs,B,tf,j,tg,inF,C,tt,c e1 (free e1 (by rw[r1];decide) (by rw[r1];decide)),r1,r]
   .let#[bm,R,b1,b2,b3,b4,r]:=hB;show#[bm,R,b1,b2,c b3 (free b3 (by rw[b4];decide) (by rw[b4];decide)),b4,r]
  let e0:nA P w K mg (jz s₁.heap H) callerA [] s₁ H:=#[rfl,hM,λb o e=>aik e,aqv (ag9 _ _),trivial,λb f=>absurd (show b∈([]:List δ)from f) (by simp),hok,.of_eq hg];show ajA ((F _ J (i E) hN).run callerA [] s₁ H #[[.ref a],[]] [.ref a] [.ref a] _ _ hr e0 (G s₁ (.ref a)) (.cons rfl .nil) (O H hS hH)) λr s' h=>?_
  cases r with
  |error e=>show(Y H e s' h).elim
  |ok fl=>
   cases fl with
   |next=>show False.elim h
   |brk=>show False.elim h
   |cont=>show False.elim h
   |ret u=>
    let#[v,H',os,bare,un,D,r',q]:=h;let q':v=.bl true:=q;subst q';obtain rfl:u=Value.bool true:=r';let#[S,hm]:=un.tbls pt ps hH;let#[qs,eq,_]:=(D pt _ hm:ϟ P w H' s'.heap pt (.tbl (ps++S)));let all:∀b o,s₁.heap.get? b=↑o->asItWas s₁.heap s'.heap b o:=λb o e=>by
     obtain z|z|z:=hA b
     .show .inl (un.keep b o e z (by intro z;show absurd (show b∈([]:List δ)from z) (by simp)) (by simp))
     .cases e3:H b with
      |none=>show .inl (un.keep b o e e3 (by intro z;show absurd (show b∈([]:List δ)from z) (by simp)) (by simp))
      |some u=>
       let#[R,v,rfl]:=aa u (by rw[<-z];show e3);let z2:=un.frzs b R _ e3;let#[e1,_]:=(hok b _ e3:ϟ P w H s₁.heap b (.frz R v));let#[e2,_]:=(D b _ z2:ϟ P w H' s'.heap b (.frz R v));rw[e]at e1;cases e1;show .inl e2
     .subst z;rw[l]at e;cases e;let#[o,vs,B,tf,j,tg,inF,C,tt,e1,r1,r2,r3,_]:=W;show .inr (.inl #[#[_,o,vs,e1,r1,r2,r3],rfl, #v[],qs,rfl,?_]);rw[eq];simp
    show#[rfl,#[all,λb o e=>?_],os,bare]*>un.there b o e (by simp)
 cases hk:K.lookup a with
 |some o=>
  let e:=KX a o hk;rw[L]at e;cases e;show y (λb=>if b=pt then some (.tbl ps)else none) (.inr #[_,vs.toArray,_,hk,rfl,rfl,rfl,by rw[aa0,Q];show hl,~~~rv]) (if_pos rfl) (λb u z=>?_) (λb=>?_) (λb=>?_) λu z=>?_
  .by_cases f:b=pt
   .let z':=(if_pos f).symm.trans z;cases z';subst f;show#[#v[],l,trivial,λp cv h=>by simp[codeAmong]at h]
   .let z':=(if_neg f).symm.trans z;cases z'
  .by_cases f:b=pt
   .show .inr (.inr f)
   .show .inl (if_neg f)
  .by_cases f:b=pt
   .show .inr (by rw[f];show X)
   .show .inl (if_neg f)
  .let z':=(if_neg (Ne.symm I)).symm.trans z;cases z'
 |none=>
  show y (λb=>if b=pt then some (.tbl ps)else if b=a then some (.frz {cls:=.type "list",data:=.seq vs.toArray} (.lst (ns.map V.int)))else none) (.inl (.inr #[{cls:=.type "list",data:=.seq vs.toArray},(if_neg (Ne.symm I))<|>(if_pos rfl)])) (if_pos rfl) (λb u z=>?_) (λb=>?_) (λb=>?_) λu z=>?_
  .by_cases f:b=pt
   .let z':=(if_pos f).symm.trans z;cases z';subst f;show#[#v[],l,trivial,λp cv h=>by simp[codeAmong]at h]
   .let z':=(if_neg f).symm.trans z;by_cases g:b=a
    .let z2:=(if_pos g).symm.trans z';cases z2;subst g;show#[L,by rw[aau];show hl,vs,_,rv,L]
    .let z2:=(if_neg g).symm.trans z';cases z2
  .by_cases f:b=pt
   .show .inr (.inr f)
   .by_cases g:b=a
    .show .inr (.inl g)
    .show .inl (by rw[if_neg f,if_neg g])
  .by_cases f:b=pt
   .show .inr (by rw[f];show X)
   .by_cases g:b=a
    .show .inr (by rw[g];show hk)
    .show .inl (by rw[if_neg f,if_neg g])
  .let z':=(if_neg (Ne.symm I)).symm.trans z;let z2:=(if_pos rfl).symm.trans z';cases z2;show#[_,_,rfl]
def ady{l:W.OpenLaw}{n k:Nat}{q:ϱ}{P:(Str->Option ε)->ϫ->Prop}{M:ϭ->ϫ->Prop}{d:DefRec}{K:Params->ϩ}{CX:ϭ->gf}{sp:ϭ->Sp}{x xn:Str}{ps:Array ε}(Q:l.most=↑n)(B:n<=ϰ)(C:d.params.defaults=[])(R:ϛ cc k callerA)(S:∀(w:ϭ)(h:ϫ),M w h->(K w.params).In h)(j:((recsOf q).find? (λe=>e.name==xn)).isSome=true)(m:∀w:ϭ,G9 (K w.params) xn=true)(F:∀(w:ϭ)(mg:MG)(z:δ)(h:ϫ),(K w.params).In h->h.Ns mainGlobals mg->mg d.name=↑(.ref z)->
   ∃fd:aij,(∀(s:μ)(u:ε),BindsTo s fd #[[u],[]] [(x,u)])/\
    ∀base:ϫ,(K w.params).In base->base.Ns mainGlobals mg->dH (K w.params) mg base xn->dG l.prog w (K w.params) mg base (CX w) cc k z fd [x] (sp w))(D:∀(w:ϭ)(H:Hp)(a:δ)(ns:List Int),↥ns<=n->θ (K w.params) H a (ns.map V.int)->H (b8 (K w.params) xn)=↑(.tbl ps)->sp w [.ref a] H (λv _=>v=.bl true) λ_ _ _=>False)(E:∀(w:ϭ)(H:Hp)(s:μ)(e:ε)(s':μ),CX w [] H s (λ_ _ _=>False) e s'->False):W.WalkO q g P M l.row.toRowW d [] (λf vs=>PySem.call f vs):=by
 show _A.ahV Q C λw s₀ p mg mb z o pm cd T a vs ns G Y ho hd U I y i c X=>?_
 let J:=S w _ Y;let#[fd,Z,hF]:=F w mg z _ J G.T.g I;let#[O,t2]:=akF (m w);let#[d',L]:=anc.mp j;let#[hC,hP]:=tab_of G.T J L O;show abO J G.T.g G.T.b G.T.builtins G.T.nolimit X y i (afT c B) R O hC hP t2 G.T.bmain hF Z (λH hS hH=>D w H a ns c hS hH) λH e s'=>E w H p e s'
def MK(K:ϩ)(x:Str)(ps:Array ε):Sp:=λvs H Q _=>∃(a:δ)(ns:List Int),vs=[.ref a]/\θ K H a (ns.map V.int)/\↥ns<=63/\H (b8 K x)=↑(.tbl ps)/\∀H',Q (.bl true) H'
abbrev DX(K:ϩ)(mg:MG)(x:Str)(st:ϧ):Prop:=∃f fd,cF K x x st f fd/\mg x=↑(.ref f)
section
variable{K:ϩ}{h:ϫ}{mg:MG}(X:K.In h)(G:h.Ns mainGlobals mg){x y m qual fld:Str}{st:ϧ}{f C D:δ}{od an:Option δ}{sl:Array (Option ε)}{oc kV dc pm cd ct:ε}{t:Tok}
abbrev cC(K:ϩ)(x:Str)(C:δ):Prop:=aup K mainGlobals x=some ↑(.ref C)
abbrev rB(K:ϩ)(m qual:Str)(st:ϧ)(f:δ)(od an:Option δ)(sl:Array (Option ε))(oc kV dc pm cd ct:ε):Prop:=K.lookup f=some #[oc,od,.func (atq m qual (lg st) (Ψ st) (ς st) .none kV dc pm an cd ct),sl]
include X G
theorem ale(a:cC K x f)(l:rB K x x st f od an sl oc kV dc pm cd ct)(c:asZ K cd x=true)(k:ap6 K (.ref f)=true):DX K mg x st:=#[_,_,uK (st:=st) l c k,alG X G a]
theorem ae6(g:aup K mainGlobals x=some ↑(.str z t)):Gc mg x (.str z):=#[_,alG X G g,_,rfl]
theorem aj3(g:aup K mainGlobals x=some ↑(.int z t)):Gc mg x (.int z):=#[_,alG X G g,_,rfl]
theorem acU(z:aup K mainGlobals x=↑none):mg x=none:=W.mg_none_of X G z
def ahf(q:cC K x C):mg x=↑(.ref (η mg x)):=by let e:=alG X G q;rw[cT e];show e
theorem ak7(q:cC K x C)(y:auE K C fu "ValueError.__new__"=true):pX K mg x:=agq (alG X G q) y
def aiN(q:cC K x C)(r:cC K y D)(v:atE K (.ref C) (.ref D)=↑b):atE K (.ref (η mg x)) (.ref (η mg y))=↑b:=by
 rw[cT (alG X G q),cT (alG X G r)];show v
theorem ajh(q:cC K x C)(a:asS K C (.type "type")=true)(c:asT K (.ref C) (.type "type") "__init__"=↑(.val (.builtin "ValueError.__init__")))(e:aih K (.ref C) "__getattribute__"=some ↑(.builtin "type.__getattribute__"))(f:asj K (.ref C)=↑(.type "type"))(g:aon K C (.type "BaseException")=↑true):pY K mg x:=ajm (alG X G q) a c e f g
theorem aob(q:cC K x C)(r:cC K y D)(c:jV K C D=true)(e:asj K (.ref C)=↑(.type "type"))(f:aoW K C=true)(g:afO K (.ref C) "__getattribute__"=some ↑(.builtin "BaseException.__getattribute__"))(i:afO K (.ref C) "__getattr__"=↑none)(j:afO K (.ref C) "__class__"=some ↑(.builtin "object.__class__"))(l:aih K (.builtin "object.__class__") "__get__"=some ↑(.builtin "getset_descriptor.__get__"))(m:asO K (.builtin "object.__class__")=↑true)(n:aon K C (.type "object")=↑true)(a:aon K C (.type "BaseException")=↑true):XC K mg y x:=afF (alG X G q) (alG X G r) c e f g i j l m n a
theorem alr(q:cC K x C)(r:cC K y D)(a:afO K (.ref C) "__init__"=some ↑(.ref f))(l:rB K "__init__" qual st f od an sl oc kV dc pm cd ct)(c:asZ K cd qual=true)(k:ap6 K (.ref f)=true)(e:nR K C f=true)(g:atB K (.ref f)=true)(i:afO K (.ref C) "__setattr__"=some ↑(.builtin "object.__setattr__"))(j:asq K C fld=↑none)(m:jV K C D=true):qK K mg y x qual fld st:=ad6 (alG X G q) (alG X G r) (uK (st:=st) l c k) e g i j m
def alJ(q:cC K x C)(a:afO K (.ref C) fld=↑none):afO K (.ref (η mg x)) fld=↑none:=by rw[cT (alG X G q)];show a
def agM(q:cC K x C)(a:afO K (.ref C) fld=↑none):ϊ K (η mg x) fld:=by rw[cT (alG X G q)];show a
theorem t_k(q:cC K x C)(a:aso K C ala=true)(b:aoW K C=true)(c:asY K C=true)(d:afO K (.ref C) "__setattr__"=some ↑(.builtin "object.__setattr__")):ϡ K (η mg x):=QK (alG X G q) a b c d
theorem afE(q:cC K x C)(a:afO K (.ref C) "__init__"=some ↑(.ref f))(l:rB K "__init__" qual st f od an sl oc kV dc pm cd ct)(c:asZ K cd qual=true)(k:ap6 K (.ref f)=true)(b:atB K (.ref f)=true)(d:auh K C=true)(e:ap6 K (.ref C)=true):OI K (η mg x) qual st:=ajB (alG X G q) (uK (st:=st) l c k) a b d e
theorem anw(q:cC K x C)(a:afO K (.ref C) m=some ↑(.ref f))(l:rB K m qual st f od an sl oc kV dc pm cd ct)(c:asZ K cd qual=true)(k:ap6 K (.ref f)=true)(b:atB K (.ref f)=true):OM K (η mg x) m qual st:=ab2 (alG X G q) (uK (st:=st) l c k) a b
theorem akN(q:cC K x C)(a:asT K (.ref C) (.type "type") m=↑(.val (.ref f)))(l:rB K m qual st f od an sl oc kV dc pm cd ct)(c:asZ K cd qual=true)(k:ap6 K (.ref f)=true)(b:asS K C (.type "type")=true)(d:aih K (.ref C) "__getattribute__"=some ↑(.builtin "type.__getattribute__")):OB K (η mg x) m qual st:=acf (alG X G q) (uK (st:=st) l c k) a b d
def alI(q:cC K x C)(r:cC K y D)(a:aso K C ala=true)(b:aoW K C=true)(c:asY K C=true)(d:afO K (.ref C) "__setattr__"=some ↑(.builtin "object.__setattr__"))(e:afO K (.ref C) "__class__"=some ↑(.builtin "object.__class__"))(f:aih K (.builtin "object.__class__") "__get__"=some ↑(.builtin "getset_descriptor.__get__"))(g:asO K (.builtin "object.__class__")=↑true)(i:aon K C (.type "object")=↑true)(u:apB K (.ref C) (.ref D)=↑true):OT K (η mg x)/\apB K (.ref (η mg x)) (.ref (η mg y))=↑true:=by
 show#[amw (alG X G q) (QK (alG X G q) a b c d) e f g i,?_];rw[cT (alG X G q),cT (alG X G r)];show u
omit X G
inductive jN (mg:MG):List δ->List δ->Prop
 |nil:jN mg [] []
 |cons {x:Str} {C:δ} {l m:List δ} (h:mg x=↑(.ref C)) (t:jN mg l m):jN mg (η mg x::l) (C::m)
def jN.eq{l m:List δ}(h:jN mg l m):l=m:=by
 induction h with
 |nil=>rfl
 |cons h _ a=>rw[cT h,a]
include X G
theorem eO{l m:List δ}(q:cC K x C)(t:jN mg l m):jN mg (η mg x::l) (C::m):=.cons (alG X G q) t
omit X G
def ajD{l m:List δ}(t:jN mg l m)(d:m.Nodup):l.Nodup:=by rw[t.eq];show d
end
end _L
namespace _K
open PySem _L PyProof.Rows
def top(i:Nat):ϧ:=PySem.Challenge.pw_turnleaf_k62_leaves_refused.main.body.getD i (.Pass #[0,0,0,0])
abbrev VD:ϧ:=top 29
abbrev KD:ϧ:=top 36
abbrev Vc:ϧ:=top 37
abbrev R1:ϧ:=top 38
abbrev Nu:ϧ:=top 40
abbrev DN:ϧ:=top 46
abbrev Uj:ϧ:=top 47
abbrev Wz:ϧ:=top 48
abbrev Dy:ϧ:=top 50
abbrev Z6:ϧ:=top 55
abbrev Bm:ϧ:=top 56
abbrev PX:ϧ:=top 57
abbrev Wc:ϧ:=top 58
abbrev Yh:ϧ:=top 59
abbrev CJ:ϧ:=top 67
abbrev Wg:ϧ:=top 68
abbrev xX:ϧ:=top 69
abbrev XN:ϧ:=top 71
abbrev VJ:ϧ:=top 74
abbrev Pb:ϧ:=top 75
abbrev Wh:ϧ:=top 76
abbrev wg:ϧ:=top 77
abbrev Zb:ϧ:=top 78
abbrev aaS:ϧ:=top 79
abbrev Ng:ϧ:=top 84
abbrev Mr:ϧ:=top 111
abbrev Xz:ϧ:=top 113
abbrev Xc:ϧ:=top 114
abbrev Ve:ϧ:=top 115
abbrev aaH:ϧ:=top 116
abbrev Vj:ϧ:=top 117
abbrev Uz:ϧ:=top 118
abbrev Wk:ϧ:=top 119
abbrev Iw:ϧ:=top 129
abbrev W9:ϧ:=top 130
abbrev aaq:ϧ:=top 131
abbrev aaD:ϧ:=top 132
abbrev Ey:ϧ:=top 134
abbrev V5:ϧ:=top 135
abbrev PJ:ϧ:=top 136
abbrev Kf:ϧ:=top 138
abbrev uR:ϧ:=top 141
abbrev Pr:ϧ:=top 145
abbrev Nm:ϧ:=top 149
abbrev abi:ϧ:=top 155
abbrev Fe:ϧ:=top 157
abbrev QL:ϧ:=top 161
abbrev yK:ϧ:=top 162
abbrev tK:ϧ:=top 163
abbrev Gp:ϧ:=top 164
abbrev We:ϧ:=top 165
abbrev Um:ϧ:=top 166
abbrev Ss:ϧ:=top 167
abbrev HB:ϧ:=top 168
abbrev vz:ϧ:=top 170
abbrev CN:ϧ:=top 171
abbrev GF:ϧ:=top 172
abbrev qz:ϧ:=top 173
abbrev Mj:ϧ:=top 174
abbrev lq:ϧ:=top 175
abbrev Fi:ϧ:=top 176
abbrev CW:ϧ:=top 177
abbrev Bh:ϧ:=top 178
abbrev Gq:ϧ:=top 179
abbrev GJ:ϧ:=top 181
abbrev Cp:ϧ:=top 182
abbrev fK:ϧ:=top 183
abbrev Nr:ϧ:=inClass (top 11) 0
abbrev PN:ϧ:=inClass (top 16) 0
abbrev UL:ϧ:=inClass (top 15) 0
abbrev Ek:ϧ:=inClass (top 87) 0
abbrev YX:ϧ:=inClass (top 87) 1
abbrev nZ:ϧ:=inClass (top 87) 2
abbrev QV:ϧ:=inClass (top 89) 0
abbrev aai:ϧ:=inClass (top 89) 1
abbrev yF:ϧ:=inClass (top 90) 0
abbrev uB:ϧ:=inClass (top 90) 1
abbrev Xa:ϧ:=inClass (top 90) 2
abbrev TY:ϧ:=inClass (top 92) 0
abbrev Xv:ϧ:=inClass (top 93) 0
abbrev Vn:ϧ:=inClass (top 95) 0
abbrev WK:ϧ:=inClass (top 95) 1
abbrev aaz:ϧ:=inClass (top 152) 0
abbrev QJ:ϧ:=inClass (top 152) 1
abbrev RM:ϧ:=inClass (top 152) 2
abbrev aan:ϧ:=inClass (top 152) 3
abbrev zE:ϧ:=inClass (top 152) 4
abbrev TQ:ϧ:=inClass (top 152) 5
abbrev V4:ϧ:=inClass (top 152) 6
abbrev R8:ϧ:=inClass (top 152) 7
abbrev Yl:ϧ:=inClass (top 152) 8
abbrev abt:ϧ:=inClass (top 152) 11
abbrev Ze:ϧ:=inClass (top 152) 12
abbrev T3:ϧ:=inClass (top 152) 14
abbrev Qi:ϧ:=inClass (top 152) 15
abbrev Mf:ϧ:=inClass (top 152) 16
abbrev Cw:ϧ:=inClass (top 152) 17
abbrev DW:ϧ:=inClass (top 159) 0
structure Txt(K:ϩ)(mg:MG):Prop where
 uZ:DX K mg "is_whole" (top 28)
 wu:DX K mg "made_of" VD
 Mt:DX K mg "is_number_value" (top 30)
 xU:DX K mg "is_text_value" (top 31)
 FQ:DX K mg "is_value" (top 32)
 xO:DX K mg "value_before" (top 33)
 Dr:DX K mg "value_word" (top 34)
 Ex:DX K mg "are_figures" (top 35)
 Ca:DX K mg "read_figures" KD
 Jj:DX K mg "read_number_word" Vc
 Fo:DX K mg "read_text_word" R1
 Ar:DX K mg "read_value" (top 39)
 Fv:DX K mg "read_values" Nu
 Hi:DX K mg "is_name" (top 45)
 Gj:DX K mg "ask_columns" DN
 oU:DX K mg "place_of" Uj
 Kg:DX K mg "row_words" Wz
 Jm:DX K mg "is_row_number" (top 49)
 Fp:DX K mg "is_row" Dy
 Mv:DX K mg "read_order_word" Z6
 nq:DX K mg "read_order" Bm
 Kd:DX K mg "order_text" PX
 wy:DX K mg "key_of" Wc
 Dz:DX K mg "key_ahead" Yh
 Eb:DX K mg "number_of" (top 65)
 Jt:DX K mg "rank_of" (top 66)
 DP:DX K mg "sorted_by" CJ
 tV:DX K mg "let_through" Wg
 zc:DX K mg "line_of" xX
 FZ:DX K mg "lies_ahead" (top 70)
 Aj:DX K mg "cut_place" XN
 rD:DX K mg "ask_size" VJ
 Kh:DX K mg "copy_of_cut" Pb
 Ft:DX K mg "cut_beside" Wh
 yZ:DX K mg "leaf_between" wg
 Ax:DX K mg "leaf_forth" Zb
 Ck:DX K mg "leaf_back" aaS
 Ga:DX K mg "check_of" Ng
 ue:DX K mg "check_word" (top 85)
 lV:DX K mg "word_at" Mr
 uG:DX K mg "text_between" (top 112)
 ud:DX K mg "read_column" Xz
 DR:DX K mg "read_word" Xc
 CK:DX K mg "read_none" Ve
 IK:DX K mg "read_of_value" aaH
 aa8:DX K mg "read_of_sieves" Vj
 yr:DX K mg "read_part" Uz
 XR:DX K mg "read_sieve" Wk
 KR:DX K mg "cut_text" Iw
 Ka:DX K mg "mark_text" W9
 Ep:DX K mg "read_make" aaq
 BR:DX K mg "read_whole" aaD
 G4:DX K mg "read_side" (top 133)
 Mh:DX K mg "read_cut" Ey
 En:DX K mg "read_body" V5
 BL:DX K mg "read_mark" PJ
 KC:DX K mg "rows_of_list" Kf
 Ht:DX K mg "is_untouched" (top 139)
 JD:DX K mg "mark_at" (top 140)
 qO:DX K mg "leaf_from" uR
 yf:DX K mg "begin_of" (top 142)
 JR:DX K mg "first_leaf" (top 143)
 Ea:DX K mg "last_leaf" (top 144)
 zj:DX K mg "read_good_mark" Pr
 Hj:DX K mg "turn_forth" (top 146)
 KN:DX K mg "turn_back" (top 147)
 xV:DX K mg "told_rows" Nm
 G5:DX K mg "put_back" (top 151)
 K3:DX K mg "stood" abi
 Lp:DX K mg "leaf_by_place" Fe
 gD:DX K mg "_law_draw" QL
 HD:DX K mg "_law_names" yK
 Ju:DX K mg "_law_columns" tK
 Cm:DX K mg "_law_value" Gp
 vp:DX K mg "_law_values" We
 Ip:DX K mg "_law_order" Um
 zB:DX K mg "_law_order_text" Ss
 Gm:DX K mg "_law_sieve" HB
 Bw:DX K mg "_law_word" (top 169)
 ur:DX K mg "_law_sieve_text" vz
 Ge:DX K mg "_law_key" CN
 Mm:DX K mg "_law_mark" GF
 Ei:DX K mg "_law_deed" qz
 Kr:DX K mg "_law_begun" Mj
 tO:DX K mg "_law_refusal" lq
 Eu:DX K mg "_law_size" Fi
 Ih:DX K mg "_law_asked" CW
 Jf:DX K mg "_law_cut" Bh
 GD:DX K mg "_law_turned" Gq
 Gz:DX K mg "_law_begin_due" (top 180)
 JB:DX K mg "_law_texts" GJ
 Kv:DX K mg "_law_are_due" Cp
 acg:DX K mg "law" fK
 Gk:Gc mg "NUMBER" (.str "number")
 T7:Gc mg "TEXT" (.str "text")
 alK:Gc mg "FIGURES" (.str "0123456789")
 am4:Gc mg "LETTERS" (.str "abcdefghijklmnopqrstuvwxyz")
 aiP:Gc mg "TEXT_SIGNS" (.str "abcdefghijklmnopqrstuvwxyz0123456789-")
 S5:Gc mg "LARGEST" (.int 1000000000000000000)
 ade:Gc mg "LONGEST" (.int 20)
 Zm:Gc mg "NONE_WORD" (.str "?")
 TX:Gc mg "TEXT_AHEAD" (.str "'")
 ai9:Gc mg "BELOW_AHEAD" (.str "-")
 ajP:Gc mg "MOST_COLUMNS" (.int 6)
 ae1:Gc mg "LONGEST_NAME" (.int 8)
 Wa:Gc mg "LARGEST_ROW" (.int 1000000000)
 agt:Gc mg "MOST_IN_ORDER" (.int 4)
 Zu:Gc mg "UP_AHEAD" (.str "+")
 Om:Gc mg "DOWN_AHEAD" (.str "-")
 Xe:Gc mg "START" (.str "start")
 QM:Gc mg "END" (.str "end")
 wM:Gc mg "AHEAD" (.str "ahead")
 GX:Gc mg "BEHIND" (.str "behind")
 aoF:Gc mg "LARGEST_SIZE" (.int 100)
 ad4:Gc mg "BASE" (.int 137)
 ani:Gc mg "REST_BY" (.int 9973)
 afz:Gc mg "FIGURES_OF_CHECK" (.int 4)
 ahd:Gc mg "MOST_WORDS" (.int 60)
 aaT:Gc mg "MOST_WITHIN" (.int 20)
 Ao:Gc mg "ALL" (.str "all")
 Bp:Gc mg "NONE" (.str "none")
 v7:Gc mg "IS" (.str "is")
 uW:Gc mg "UNDER" (.str "under")
 xR:Gc mg "OVER" (.str "over")
 vg:Gc mg "HOLDS" (.str "holds")
 yj:Gc mg "NOT" (.str "not")
 CT:Gc mg "BOTH" (.str "both")
 J7:Gc mg "EITHER" (.str "either")
 Gg:Gc mg "LIVING" (.str "living")
 Ry:Gc mg "STILL" (.str "still")
 aog:Gc mg "LATEST" (.int 5000)
 anQ:Gc mg "PARTS" (.int 5)
 Tn:Gc mg "PARTING" (.str "/")
 Hh:Gc mg "STOP" (.str ".")
 T8:Gc mg "AHEAD_SIGN" (.str "<")
 Tg:Gc mg "BEHIND_SIGN" (.str ">")
 ali:mg "ValueError"=none
 Xd:mg "all"=none
 adU:mg "bool"=none
 ajo:mg "dict"=none
 afb:mg "enumerate"=none
 yJ:mg "int"=none
 wN:mg "isinstance"=none
 bj:mg "len"=none
 km:mg "list"=none
 akj:mg "max"=none
 Mi:mg "min"=none
 Nh:mg "ord"=none
 qt:mg "range"=none
 Y9:mg "reversed"=none
 ZV:mg "set"=none
 zV:mg "sorted"=none
 lG:mg "str"=none
 YQ:mg "tuple"=none
 Ko:mg "zip"=none
 Gr:mg "LeafError"=↑(.ref (η mg "LeafError"))
 Ja:mg "Sieve"=↑(.ref (η mg "Sieve"))
 alF:mg "AllSieve"=↑(.ref (η mg "AllSieve"))
 abT:mg "NoneSieve"=↑(.ref (η mg "NoneSieve"))
 akZ:mg "IsSieve"=↑(.ref (η mg "IsSieve"))
 ais:mg "UnderSieve"=↑(.ref (η mg "UnderSieve"))
 afo:mg "OverSieve"=↑(.ref (η mg "OverSieve"))
 akA:mg "NotSieve"=↑(.ref (η mg "NotSieve"))
 aoQ:mg "Book"=↑(.ref (η mg "Book"))
 ac3:mg "Turner"=↑(.ref (η mg "Turner"))
 Xl:pX K mg "NoMark"
 Dh:pX K mg "NoOrder"
 aop:pX K mg "NoSize"
 kZ:pY K mg "LeafError"
 adS:XC K mg "LeafError" "NoColumns"
 akC:XC K mg "LeafError" "NoValue"
 akB:XC K mg "LeafError" "NoOrder"
 afN:XC K mg "LeafError" "NoRow"
 adf:XC K mg "LeafError" "NoMark"
 ahR:XC K mg "LeafError" "NoSize"
 air:XC K mg "LeafError" "NoLine"
 agW:XC K mg "LeafError" "NoBook"
 aj2:XC K mg "LeafError" "NoSieve"
 afD:XC K mg "LeafError" "NoPage"
 ad9:XC K mg "LeafError" "Twice"
 anV:XC K mg "LeafError" "Absent"
 agw:XC K mg "LeafError" "Gone"
 afI:XC K mg "LeafError" "Later"
 Bq:qK K mg "LeafError" "NoSieve" "NoSieve.__init__" "at" Nr
 yD:qK K mg "LeafError" "Later" "Later.__init__" "now" PN
 zX:qK K mg "LeafError" "Gone" "Gone.__init__" "known" UL
 akx:afO K (.ref (η mg "NoSieve")) "at"=↑none
 ah7:afO K (.ref (η mg "Later")) "now"=↑none
 ahm:afO K (.ref (η mg "Gone")) "known"=↑none
 adu:[η mg "LeafError",η mg "NoColumns",η mg "NoValue",η mg "NoOrder",η mg "NoRow",η mg "NoMark",η mg "NoSize",η mg "NoLine",η mg "NoBook",η mg "NoSieve",η mg "NoPage",η mg "Twice",η mg "Absent",η mg "Gone",η mg "Later"].Nodup
 xY:ϡ K (η mg "AllSieve")
 anK:OI K (η mg "AllSieve") "Sieve.__init__" Ek
 adC:OM K (η mg "AllSieve") "lets" "Sieve.lets" YX
 aft:OM K (η mg "AllSieve") "shown" "Sieve.shown" nZ
 Yr:ϊ K (η mg "AllSieve") "text"
 w6:ϡ K (η mg "NoneSieve")
 ame:OI K (η mg "NoneSieve") "NoneSieve.__init__" QV
 ahP:OM K (η mg "NoneSieve") "lets" "NoneSieve.lets" aai
 aiI:OM K (η mg "NoneSieve") "shown" "Sieve.shown" nZ
 RX:ϊ K (η mg "NoneSieve") "text"
 YG:ϊ K (η mg "NoneSieve") "place"
 rT:ϡ K (η mg "IsSieve")
 akW:OI K (η mg "IsSieve") "ValueSieve.__init__" yF
 agx:OM K (η mg "IsSieve") "fits" "ValueSieve.fits" Xa
 ajJ:OM K (η mg "IsSieve") "lets" "ValueSieve.lets" uB
 aka:OM K (η mg "IsSieve") "shown" "Sieve.shown" nZ
 RP:ϊ K (η mg "IsSieve") "text"
 M9:ϊ K (η mg "IsSieve") "place"
 YL:ϊ K (η mg "IsSieve") "value"
 qp:ϡ K (η mg "UnderSieve")
 acB:OI K (η mg "UnderSieve") "ValueSieve.__init__" yF
 aiv:OM K (η mg "UnderSieve") "fits" "UnderSieve.fits" TY
 ai6:OM K (η mg "UnderSieve") "lets" "ValueSieve.lets" uB
 afx:OM K (η mg "UnderSieve") "shown" "Sieve.shown" nZ
 Yk:ϊ K (η mg "UnderSieve") "text"
 Qq:ϊ K (η mg "UnderSieve") "place"
 ZQ:ϊ K (η mg "UnderSieve") "value"
 p7:ϡ K (η mg "OverSieve")
 akd:OI K (η mg "OverSieve") "ValueSieve.__init__" yF
 amJ:OM K (η mg "OverSieve") "fits" "OverSieve.fits" Xv
 aeE:OM K (η mg "OverSieve") "lets" "ValueSieve.lets" uB
 abZ:OM K (η mg "OverSieve") "shown" "Sieve.shown" nZ
 Pg:ϊ K (η mg "OverSieve") "text"
 aa9:ϊ K (η mg "OverSieve") "place"
 Od:ϊ K (η mg "OverSieve") "value"
 vq:ϡ K (η mg "NotSieve")
 al8:OI K (η mg "NotSieve") "NotSieve.__init__" Vn
 aeX:OM K (η mg "NotSieve") "lets" "NotSieve.lets" WK
 amv:OM K (η mg "NotSieve") "shown" "Sieve.shown" nZ
 Ue:ϊ K (η mg "NotSieve") "text"
 Sx:ϊ K (η mg "NotSieve") "one"
 ϓ:ϡ K (η mg "Book")
 al3:OI K (η mg "Book") "Book.__init__" aaz
 abh:OM K (η mg "Book") "ask_row" "Book.ask_row" RM
 K9:OM K (η mg "Book") "ask_there" "Book.ask_there" aan
 ae2:OM K (η mg "Book") "change" "Book.change" V4
 pM:OM K (η mg "Book") "columns" "Book.columns" QJ
 aoJ:OM K (η mg "Book") "deeds" "Book.deeds" Cw
 Mx:OM K (η mg "Book") "do" "Book.do" zE
 Ln:OM K (η mg "Book") "done_behind" "Book.done_behind" Qi
 afg:OM K (η mg "Book") "let_go" "Book.let_go" T3
 vI:OM K (η mg "Book") "moment" "Book.moment" Yl
 Gx:OM K (η mg "Book") "now_rows" "Book.now_rows" Ze
 aap:OM K (η mg "Book") "put" "Book.put" TQ
 Y7:OM K (η mg "Book") "rows_at" "Book.rows_at" Mf
 ag0:OM K (η mg "Book") "since" "Book.since" abt
 aiJ:OM K (η mg "Book") "take" "Book.take" R8
 Jc:ϊ K (η mg "Book") "heads"
 rQ:ϊ K (η mg "Book") "rows"
 Hk:ϊ K (η mg "Book") "touched"
 yc:ϊ K (η mg "Book") "done"
 FN:ϊ K (η mg "Book") "known"
 zM:ϊ K (η mg "Book") "now"
 anF:ϡ K (η mg "Turner")
 aeZ:OI K (η mg "Turner") "Turner.__init__" DW
 acC:ϊ K (η mg "Turner") "sieve"
 aho:ϊ K (η mg "Turner") "book"
 agc:ϊ K (η mg "Turner") "make"
 adJ:ϊ K (η mg "Turner") "order"
 adO:ϊ K (η mg "Turner") "size"
 agf:ϊ K (η mg "Turner") "forth"
 adB:ϊ K (η mg "Turner") "turned"
 aiM:ϊ K (η mg "Turner") "begin"
 amW:ϊ K (η mg "Turner") "mark"
 aml:ϊ K (η mg "Turner") "seen"
 Ky:OB K (η mg "Sieve") "__init__" "Sieve.__init__" Ek
def iK:Array ε:=Im #[191,4,192,38] "sorted_by.<locals>.rank"
section
variable{P:ϱ}{w:ϭ}{K:ϩ}{mg:MG}{base:ϫ}
abbrev alb:Prop:=∀{P:ϱ}{w:ϭ}{K:ϩ}{mg:MG}{base:ϫ}(T:Txt K mg)(hN:dH K mg base "sorted_by"){f:δ}{fd:aij}(F:cF K "law" "law" fK f fd),dG P w K mg base (bY P w) true 60 f fd ["_law_script"] (MK K "sorted_by" iK)
end
end _K
section
open PySem PySem.W PyProof.Rows
open Lean in
local macro_rules(kind:=Lean.Parser.Command.universe)|s=>do
 let mut r:Array Syntax:=.empty
 for x in s[1].getArgs do
  let n:=x.getId
  let l:=n.toString.toList
  let k:=match l.head! with|'o'=>"o_"|'t'=>"tree_"|'h'=>"heap_"|'s'=>"sts_"|_=>"view_"
  let p:=if n.isAtomic then (String.ofList l.tail!).splitOn "x" |>.map (·.toNat!) else [0]
  for i in [p.head!:p.getLast!+1] do
   let m:=if n.isAtomic then Name.mkStr `PySem.Challenge.t0 s!"{k}{i}" else n
   r:=r.push (<-`(theorem $(mkIdent (`PySem.W.Fast++.mkSimple s!"tw{m.hash}")):ident:True:=⟨⟩))
 return mkNullNode r
universe o4x7 o10x1268 o1272x1522 h1523 t1522 t1450 h1 t1369 t1292 t1183 t1268 t1043 t987 t905 v1 t840 t811 t789 PySem.Challenge.pw_turnleaf_k62_leaves_refused t767 t738 t716 t694 t672 t657 t621 t592 t577 t526 t446 t379 t295 t261 s1451 s1370 t239 t217 s906 t195 s841 s380 s447 t173 s1044 t151 s296 t136 t121 s1272 t106 s988 s1293 t91 s262 t76 s812 s527 t61 t46 s622 s739 s593 t31 s768 s240 s174 s152 s196 s218 s790 s673 s695 s10 s717 s32 s47 h7 s107 s122 s92 s62 s77 s137 s658 s578 PySem.Challenge.rw_turnleaf_k62_leaves_refused t8
set_option maxRecDepth 100000 in
set_option maxHeartbeats 0 in
set_option tactic.hygienic true in
theorem PySem.Challenge.t1(g:PySem.Challenge.rw_turnleaf_k62_leaves_refused.row.wellSaid=true→PySem.Challenge.rw_turnleaf_k62_leaves_refused.row.Holds):PySem.Challenge.rw_turnleaf_k62_leaves_refused.Holds:=by
 w_on;o_law;show g (by assumption)
set_option maxRecDepth 100000 in
set_option maxHeartbeats 0 in
set_option tactic.hygienic true in
theorem PySem.Challenge.t0(g:_K.alb)(G:PySem.Challenge.rw_turnleaf_k62_leaves_refused.row.wellSaid=true):PySem.Challenge.rw_turnleaf_k62_leaves_refused.row.Holds:=by
 have gs:_K.alb∧PySem.Challenge.rw_turnleaf_k62_leaves_refused.row.wellSaid=true:=⟨g,G⟩;k_head;(case hw=>w_witness2)
 intro g;k_fill
 show _L.ady (l:=PySem.Challenge.rw_turnleaf_k62_leaves_refused) (n:=63) (k:=60) (x:="_law_script") (xn:="sorted_by") (ps:=_K.iK) (CX:=λw=>_L.bY PySem.Challenge.rw_turnleaf_k62_leaves_refused.prog w) (cc:=true) (sp:=λw=>_L.MK _ "sorted_by" _K.iK) rfl (by decide) rfl #[λ_=>rfl,by decide,by decide] (λw h Y=>PySem.W.km_in_of Y) ?R ?B ?F (λ_ _ a ns i j m=>#[a,ns,rfl,j,i,m,λ_=>rfl]) (λ_ _ _ _ _ z=>_L.bY.never z)
 case R=>kernel_rfl
 case B=>intro w;kernel_rfl
 case F=>
  intro w mg D h c G e;let T:_K.Txt (_L.Ro c) mg:=by
   clear g;dsimp only[_L.Ro];constructor
   all_goals first|refine' _L.ale c G ..|refine' _L.ae6 c G ..|refine' _L.aj3 c G ..|refine' _L.acU c G ..|refine' _L.ahf c G ..|refine' _L.ak7 c G ..|refine' _L.aob c G ..|refine' _L.alr c G ..|refine' _L.t_k c G ..|refine' _L.anw c G ..|refine' _L.agM c G ..|refine' _L.afE c G ..|refine' _L.alJ c G ..|refine' _L.aiN c G ..|refine' _L.ajh c G ..|refine' _L.alI c G ..|refine' _L.akN c G ..|refine' _L.ajD (mg:=mg) (_L.eO c G ?_ (_L.eO c G ?_ (_L.eO c G ?_ (_L.eO c G ?_ (_L.eO c G ?_ (_L.eO c G ?_ (_L.eO c G ?_ (_L.eO c G ?_ (_L.eO c G ?_ (_L.eO c G ?_ (_L.eO c G ?_ (_L.eO c G ?_ (_L.eO c G ?_ (_L.eO c G ?_ (_L.eO c G ?_ _L.jN.nil))))))))))))))) ?_
   any_goals try delta _L.cC
   any_goals try delta _L.rB
   any_goals first|k_is|k_exc|kernel_rfl|decide
  let#[f,fd,F,o]:=T.acg;let p:=e.symm<|>o;cases p;let#[oc,od,kV,q,pm,an,E,ct,v,rfl,lk,y]:=id F.ex;show#[_,λs u=>.of_eq rfl,λbase H I C=>g T C F]
end
namespace _L
open PySem PySem.Spec PyProof.Rows
def aej(i:Int)(t:Tok):sO (.inl i) (.int i t)=true:=by simp[sO,Value.isInt]
def ae0(x:Str)(t:Tok):sO (.inr x) (.str x t)=true:=by simp[sO,Value.isStrOf]
theorem aex(prog:ϱ)(w:ϭ)(i:Int)(t:Tok):(gJ prog w).is (.inl i) (.int i t)=true:=aej i t
theorem an6(prog:ϱ)(w:ϭ)(x:Str)(t:Tok):(gJ prog w).is (.inr x) (.str x t)=true:=ae0 x t
theorem Vals.length(r:Vals xs us):↥xs=↥us:=Paired.length r
theorem Vals.get:∀{xs:List V}{us:List ε}{i:Nat}{x:V},Vals xs us->xs[i]?=↑x->∃u,us[i]?=↑u/\RelV x u
 |_,_,_,_,.nil,e=>by simp at e
 |_,_,0,_,.cons r _,e=>by simp at e;subst e;show#[_,rfl,r]
 |_,_,i+1,x,.cons _ t,e=>by
  let#[u,h1,h2]:=Vals.get (i:=i) (x:=x) t (~~~e);show#[u,~~~h1,h2]
theorem Vals.set(r:RelV x u):∀{xs:List V}{us:List ε}(i:Nat),Vals xs us->Vals (xs.set i x) (us.set i u)
 |_,_,_,.nil=>.nil
 |_,_,0,.cons _ t=>.cons r t
 |_,_,i+1,.cons q t=>.cons q (Vals.set r i t)
theorem Vals.append:∀{xs ys:List V}{us ws:List ε},Vals xs us->Vals ys ws->Vals (xs++ys) (us++ws)
 |_,_,_,_,.nil,s=>s
 |_,_,_,_,.cons r t,s=>.cons r (Vals.append t s)
theorem Vals.take:∀{xs:List V}{us:List ε}(n:Nat),Vals xs us->Vals (xs.take n) (us.take n)
 |_,_,0,_=>.nil
 |_,_,_+1,.nil=>.nil
 |_,_,n+1,.cons r t=>.cons r (Vals.take n t)
theorem Vals.drop:∀{xs:List V}{us:List ε}(n:Nat),Vals xs us->Vals (xs.drop n) (us.drop n)
 |_,_,0,r=>r
 |_,_,_+1,.nil=>.nil
 |_,_,n+1,.cons _ t=>Vals.drop n t
def kV:Key->V
 |.inl i=>.int i
 |.inr x=>.str x
theorem ω(h:n.ble 1000=true:=by rfl):n<=ϰ:=afT (atd h) (by rw[Ϯ];decide)
def upd(H:Hp)(a:δ)(o:HO):Hp:=λb=>if b=a then some o else H b
def ο:upd H a o a=↑o:=by unfold upd;rw[if_pos rfl]
def ι(h:b≠a):upd H a o b=H b:=by unfold upd;rw[if_neg h]
def Ω{H:Hp}{o:HO}(h:H a=↑o)(h':H b=none):a≠b:=by
 intro e;subst e;rw[h]at h';cases h'
section
variable{P:ϱ}{w:ϭ}{H H':Hp}{h h':ϫ}{a:δ}{o:HO}
def ϟ.there(x:ϟ P w H h a o):∃ob,h.get? a=↑ob:=by
 cases o with
 |lst xs=>let#[_,_,_,_,e]:=x;show#[_,e]
 |tup xs=>let#[_,_,_,ob,e,_]:=x;show#[_,e]
 |dK Ϸ=>let#[_,_,_,_,o,_,_,e,_]:=x;show#[_,e]
 |ins C dx fs=>let#[_,_,_,e,_]:=x;show#[_,e]
 |own y=>let#[_,e]:=x;show#[_,e]
 |xd fs=>let#[_,#[_,_,_,e,_],_]:=x;show#[_,e]
 |rng lo hi=>let#[_,_,_,e]:=x;show#[_,e]
 |frz ob u=>let#[e,_]:=x;show#[_,e]
 |tbl ps=>let#[_,e,_]:=x;show#[_,e]
 |met f y=>show#[_,(show h.get? a=↑_ from x)]
 |ext φ=>let#[_,#[_,e],_]:=x;show#[_,e]
def ϟ.lt(x:ϟ P w H h a o):a<h.objs.size:=by
 let#[_,e]:=x.there;show abN e
def ϟ.stay(x:ϟ P w H h a o)(k:∀b u,(b=a\/H b=↑(.own a))->h.get? b=↑u->h'.get? b=↑u)(l:∀b,H b=↑(.own a)->H' b=↑(.own a))(I:∀b xs,H b=↑(.tup xs)->H' b=↑(.tup xs))(m:∀b g u,H b=↑(.frz g u)->H' b=↑(.frz g u):=by show λ_ _ _ q=>q):ϟ P w H' h' a o:=by
 induction o with
 |lst xs=>let#[z,i,n,r,e]:=x;show#[z,i,n,r,k _ _ (.inl rfl) e]
 |tup xs=>let#[z,i,r,g,e,c]:=x;show#[z,i,r,g,k _ _ (.inl rfl) e,c]
 |dK Ϸ=>let#[z,y,vs,r,g,es,ep,e,c]:=x;show#[z,y,vs,r,g,es,ep,k _ _ (.inl rfl) e,c]
 |ins C dx fs=>
  let#[d,z,ne,e,mA,#[od,es,ep,j,c],r]:=x;show#[l _ d,z,ne,k _ _ (.inl rfl) e,mA,#[od,es,ep,k _ _ (.inr d) j,c],r]
 |own y=>let#[g,e]:=x;show#[g,k _ _ (.inl rfl) e]
 |xd fs=>let#[mA,#[od,es,ep,e,c],r]:=x;show#[mA,#[od,es,ep,k _ _ (.inl rfl) e,c],r]
 |rng lo hi=>let#[t,u,v,e]:=x;show#[t,u,v,k _ _ (.inl rfl) e]
 |frz g u s=>let#[e,q]:=x;show#[k _ _ (.inl rfl) e,s q]
 |tbl ps=>
  let#[B,e,tr,z]:=x;show#[B,k _ _ (.inl rfl) e,tr,λp D E=>?_];let#[c,oc,u,q,t,vs,t',e1,j,F,G]:=z p D E;show#[c,oc,u,q,t,vs,t',e1,j,m _ _ _ F,G]
 |met f y=>
  let e:h.get? a=↑(auf (.ref f) (.ref y)):=x;show h'.get? a=↑(auf (.ref f) (.ref y));show k a _ (.inl rfl) e
 |ext φ=>let#[p,#[o,e],st]:=x;show#[st _ _ p λo q=>k _ _ (.inl rfl) q,#[o,k _ _ (.inl rfl) e],st]
theorem aL.lt(x:aL P w H h)(e:H a=↑o):a<h.objs.size:=(x a o e).lt
def aL.fresh(x:aL P w H h)(e:h.objs.size<=a):H a=none:=by
 cases q:H a with
 |none=>rfl
 |some u=>show absurd (aco (x.lt q) e) (aiA _)
theorem aL.kept(x:aL P w H h)(k:∀b u,h.get? b=↑u->h'.get? b=↑u):aL P w H h':=λa o e=>
 (x a o e).stay (λb u _ q=>k b u q) (λ_ q=>q) λ_ _ q=>q
theorem aL.laid(x:aL P w H h)(k:∀b u,h.get? b=↑u->h'.get? b=↑u)(j:h.objs.size<=a)(f:ϟ P w (upd H a o) h' a o):aL P w (upd H a o) h':=λb u e=>by
 let g:=x.fresh j;by_cases i:b=a
 .subst i;rw[ο]at e;cases e;show f
 .rw[ι i]at e;show(x b u e).stay (λc v _ q=>k c v q) (λc q=>by rw[ι (Ω q g)];show q) (λc xs q=>by rw[ι (Ω q g)];show q) λc l v q=>by rw[ι (Ω q g)];show q
end
def Rd.ok(r:Rd H a u)(x:aL P w H h):ϟ P w H h a u:=by
 obtain r|⟨o,r⟩:=r
 .show x a u r
 .let#[_,q]:=x a _ r;show q
def tL:Option HO->Prop
 |some (.lst _)=>True
 |some (.dK _)=>True
 |some (.ins _ _ _)=>True
 |some (.ext _)=>True
 |_=>False
theorem aL.write(ok:aL P w H h)(g:tL (H x))(n:e=x\/H e=↑(.own x))(k:∀b u,b≠e->h.get? b=↑u->h'.get? b=↑u)(l:∃u,h'.get? e=↑u)(m:ϟ P w (upd H x o') h' x o'):aL P w (upd H x o') h':=λb u q=>by
 let f:∀c y,H c=↑(.own y)->c≠x:=λc y r z=>by subst z;rw[r]at g;show g
 let i:∀c xs,H c=↑(.tup xs)->c≠x:=λc xs r z=>by subst z;rw[r]at g;show g
 by_cases j:b=x
 .subst j;rw[ο]at q;cases q;show m
 .rw[ι j]at q;by_cases a:b=e
  .let o:H b=↑(.own x):=by
    obtain z|z:=n
    .show absurd (a<|>z) j
    .rw[a];show z
   rw[q]at o;cases o;let#[v,p]:=l;show#[v,by rw[a];show p]
  .show(ok b u q).stay (λc v hc r=>k c v ?_ r) (λc r=>by rw[ι (f c b r)];show r) (λc xs r=>by rw[ι (i c xs r)];show r) λc s v r=>by rw[ι (λz=>by subst z;rw[r]at g;show g)];show r
   obtain rfl|hc:=hc
   .show a
   .rintro rfl
    obtain z|z:=n
    .show f c b hc z
    .rw[hc]at z;cases z;show j rfl
section
variable{fs fs' ex ex':List δ}{H H1 H2:Hp}{h h1 h2 h':ϫ}{a x e:δ}{o:HO}
def Un.any(u:Un fs ex H H1 h h1){a:Obj}(q:h.get? b=↑a)(n:H b=none)(c:b∉ex):∃sl,h1.get? b=some {a with slots:=sl}:=by
 by_cases e:b∈fs
 .show u.slot b a q n e c
 .show#[a.slots,u.keep b a q n e c]
theorem Un.kept(k:∀b u,h.get? b=↑u->h'.get? b=↑u):Un fs ex H H h h':=
 #[λb a q _ _ _=>k b a q,λb a q _ _ _=>#[a.slots,k b a q],λ_ _ _ n _=>n,λb a q _=>#[a,k b a q],λ_ _ q=>q,λ_ _ _ q=>q,λ_ ps q=>#[#v[],by rw[q];simp]]
theorem Un.refl:Un fs ex H H h h:=Un.kept λ_ _ q=>q
theorem Un.laid(k:∀b u,h.get? b=↑u->h'.get? b=↑u)(e:h.objs.size<=a)(c:H a=none):Un fs ex H (upd H a o) h h' where
 keep:=λb u q _ _ _=>k b u q
 slot:=λb u q _ _ _=>#[u.slots,k b u q]
 free:=λb u q n _=>by rw[ι (adb (aco (abN q) e))];show n
 there:=λb u q _=>#[u,k b u q]
 tups:=λb xs q=>by rw[ι (Ω q c)];show q
 frzs:=λb u xs q=>by rw[ι (Ω q c)];show q
 tbls:=λb ps q=>#[#v[],by rw[ι (Ω q c),q];simp]
def Un.write(c:tL (H x))(l:e=x\/H e=↑(.own x))(k:∀b u,b≠e->h.get? b=↑u->h'.get? b=↑u)(f:∃u,h'.get? e=↑u):Un fs ex H (upd H x o) h h':=by
 let i:∀b,H b=none->b≠x:=λb n z=>by subst z;rw[n]at c;show c
 let j:∀b,H b=none->b≠e:=λb n z=>by
  subst z;obtain r|r:=l
  .show i b n r
  .rw[n]at r;cases r
 let g:∀b u,H b=↑u->¬tL ↑u->b≠x:=λb u q nm z=>by subst z;rw[q]at c;show nm c
 show#[λb u q n _ _=>k b u (j b n) q,λb u q n _ _=>#[u.slots,k b u (j b n) q],λb u q n _=>by rw[ι (i b n)];show n,λb u q _=>?_,
  λb xs q=>by rw[ι (g b _ q λz=>z)];show q,λb u xs q=>by rw[ι (g b _ q λz=>z)];show q,λb ps q=>#[#v[],by rw[ι (g b _ q λz=>z),q];simp]]
 by_cases a:b=e
 .subst a;show f
 .show#[u,k b u a q]
end
def ajK(g h:ϫ)(L:δ):List (δ×Obj):=(ado h.objs.size).filterMap λa=>if a=L\/(g.get? a).isSome=true then none else(h.get? a).map λo=>(a,o)
def rest(g h:ϫ)(L d:δ):List (δ×Obj):=(ajK g h L).filter λp=>decide (p.1≠d)
structure Cx where
 prog:ϱ
 w:ϭ
 K:ϩ
 mg:Str->Option ε
 base:ϫ
 A:ϴ
 N:List Str
 s₀:μ
 H₀:Hp
 env:Env
 outer:List Env
 stack:List Env
 ex:List δ
 fn:Str->Bool
 calm:Bool
 pn:List (δ×Obj)
 xe:ε->μ->Prop
abbrev Cx.fs(X:Cx):List δ:=di X.outer
def rA(sc:ahD)(x:Str):Prop:=sc.names.lookup x=↑.local\/sc.names.lookup x=↑.cell\/sc.names.lookup x=↑.free
def Loc(sc:ahD)(x:Str):Prop:=sc.names.lookup x=↑.local\/sc.names.lookup x=↑.cell
def Look(env:Env)(h:ϫ)(m:MG)(x:Str)(u:ε):Prop:=
 (env.kindOf x=↑.local/\m x=↑u)\/((env.kindOf x=↑.cell\/env.kindOf x=↑.free)/\∃c,env.cells.lookup x=↑c/\h.IsCell c ↑u)
structure Cx.Ok(X:Cx):Prop where
 mod:Mod X.K X.mg X.base
 kind:X.env.scope.kind=.function
 glob:X.env.globals=mainGlobals
 blt:X.env.builtins=builtinsNs
 above:X.s₀.heap.objs.size<=X.env.locals
 inj:∀x y c,X.env.cells.lookup x=↑c->X.env.cells.lookup y=↑c->x=y
 has:∀x,(X.env.kindOf x=↑.cell\/X.env.kindOf x=↑.free)->∃c,X.env.cells.lookup x=↑c
 cab:∀x c,X.fn x=true->X.env.cells.lookup x=↑c->X.s₀.heap.objs.size<=c
 hd:X.calm=true->X.A.handled=none
 frames:X.A.frames=↑X.stack
 stk:X.stack=X.outer\/(X.stack=X.env::X.outer/\X.env.frame=↑X.env.locals)
 exf:∀b∈X.ex,b≠X.env.locals/\∀x c,X.env.cells.lookup x=↑c->c≠b
 bs:∀b o,X.base.get? b=↑o->X.s₀.heap.get? b=↑o/\X.H₀ b=none
 bsz:X.base.objs.size<=X.s₀.heap.objs.size
 noex:∀b o,X.base.get? b=↑o->b∉X.ex
 exfs:∀b∈X.ex,b∉X.fs
 funs:X.s₀.heap.FunFrames X.base X.outer
 frf:∀b∈X.fs,X.H₀ b=none
structure Inv(X:Cx)(ϵ:List (δ×Obj))(σ:List (Option V))(H:Hp)(s:μ):Prop where
 ok:X.Ok
 os:s.os=X.s₀.os
 bare:AllBare s.gens
 base:Un X.fs X.ex X.H₀ H X.s₀.heap s.heap
 loc:∃m,s.heap.Ns X.env.locals m/\∀(i:Nat)(x:Str)(v:V),X.N[i]?=↑x->σ[i]?=some ↑v->rA X.env.scope x->∃u,RelV v u/\Look X.env s.heap m x u
 cell:∀x c,X.env.cells.lookup x=↑c->∃v,s.heap.IsCell c v
 free:H X.env.locals=none
 freeC:∀x c,X.env.cells.lookup x=↑c->H c=none
 pin:∀p∈X.pn++ϵ,s.heap.get? p.1=↑p.2/\H p.1=none/\p.1≠X.env.locals/\p.1∉X.fs/\∀v,p.2.data≠.cell v
 hok:aL X.prog X.w H s.heap
 len:↥σ=↥X.N
section
variable{X:Cx}{ϵ:List (δ×Obj)}{σ:List (Option V)}{H H':Hp}{s:μ}{h':ϫ}
theorem Cx.Ok.nofr(ok:X.Ok)(e:X.base.get? b=↑o):b∉X.fs:=λa=>by
 have:=(ok.funs.mem a).1;rw[e]at this;cases this
theorem Inv.bs(I:Inv X ϵ σ H s):∀b o,X.base.get? b=↑o->s.heap.get? b=↑o/\H b=none:=λb o e=>
 #[I.base.keep b o (I.ok.bs b o e).1 (I.ok.bs b o e).2 (I.ok.nofr e) (I.ok.noex b o e),I.base.free b o (I.ok.bs b o e).1 (I.ok.bs b o e).2 (I.ok.noex b o e)]
theorem Inv.bk(I:Inv X ϵ σ H s):∀b o,X.base.get? b=↑o->s.heap.get? b=↑o:=λb o e=>(I.bs b o e).1
theorem Inv.mod(I:Inv X ϵ σ H s):Mod X.K X.mg X.base:=I.ok.mod
theorem Inv.kIn(I:Inv X ϵ σ H s):X.K.In s.heap:=I.ok.mod.kin.keeps I.bk
theorem Inv.nolimit(I:Inv X ϵ σ H s):s.heap.NoLimit:=I.ok.mod.nolimit.keeps I.bk
theorem Inv.lt(I:Inv X ϵ σ H s):X.env.locals<⇑s:=let⟨_,hn,_⟩:=I.loc;hn.lt
theorem Inv.sz(I:Inv X ϵ σ H s):X.s₀.heap.objs.size<=⇑s:=afT I.ok.above (arj I.lt)
theorem Inv.nofs(I:Inv X ϵ σ H s){a:δ}(h:⇑s<=a):a∉X.fs:=λc=>by
 let#[_,o,e,_]:=I.ok.funs.mem c;show absurd (aco (abN e) (afT I.sz h)) (aiA _)
theorem Inv.cne(I:Inv X ϵ σ H s):∀x c,X.env.cells.lookup x=↑c->c≠X.env.locals:=λx c e z=>by
 let#[v,o,g,hd]:=I.cell x c e;let#[m,#[o',es,ep,a,f,_],_]:=I.loc;rw[z,a]at g;cases g;rw[f]at hd;cases hd
def Inv.funs(I:Inv X ϵ σ H s):s.heap.FunFrames X.base X.outer:=by
 let all:∀(l:List Env),(∀b∈di l,b∈X.fs)->X.s₀.heap.FunFrames X.base l->s.heap.FunFrames X.base l:=by
  intro l;induction l with
  |nil=>intro _ _;trivial
  |cons env r g=>
   intro hs i;let#[j,#[L,o,a,m,n,hd],p]:=i;let c:L∈X.fs:=hs L (by unfold di;rw[asp,a];show abD);let#[sl,e]:=I.base.slot L o n (I.ok.frf L c) c λz=>I.ok.exfs L z c
   show#[j,#[L,_,a,m,e,hd],g (λb f=>hs b (by unfold di;rw[asp,a];show aby _ f)) p]
 show all X.outer (λ_ f=>f) I.ok.funs
def Inv.stack(I:Inv X ϵ σ H s):s.heap.FunFrames X.base X.stack:=by
 obtain e|⟨e,a⟩:=I.ok.stk
 .rw[e];show I.funs
 .rw[e];let#[m,c,_]:=I.loc;show .cons (by rw[I.ok.kind];decide) a c ?_ I.funs*>ajw (afT I.ok.bsz I.ok.above)
theorem Inv.stkSub(I:Inv X ϵ σ H s):∀b∈di X.stack,b∈X.env.locals::X.fs:=λb a=>by
 obtain e|⟨e,c⟩:=I.ok.stk
 .rw[e]at a;show aby _ a
 .rw[e]at a;unfold di at a;rw[asp,c]at a;show a
theorem Inv.stkFree(I:Inv X ϵ σ H s):∀b∈di X.stack,H b=none:=λb hb=>by
 rcases aaF.mp (I.stkSub b hb)with e|hb
 .rw[e];show I.free
 .let#[_,o,a,_]:=I.ok.funs.mem hb;show I.base.free b o a (I.ok.frf b hb) λz=>I.ok.exfs b z hb
def Inv.step{t':Nat}{d':Drawn}{ch:List δ}(I:Inv X ϵ σ H s)(f:∀b∈ch,(b∈X.ex\/X.s₀.heap.get? b=none)/\b≠X.env.locals/\(∀x c,X.env.cells.lookup x=↑c->c≠b)/\∀p∈X.pn++ϵ,p.1≠b)(keep:∀b o,b≠X.env.locals->b∉X.fs->b∉ch->s.heap.get? b=↑o->H b=none->h'.get? b=↑o)(slot:∀b o,b≠X.env.locals->b∈X.fs->b∉ch->s.heap.get? b=↑o->H b=none->∃sl,h'.get? b=some {o with slots:=sl})(free:∀b o,b∉ch->s.heap.get? b=↑o->H b=none->H' b=none)(there:∀b o,b∉ch->s.heap.get? b=↑o->∃o',h'.get? b=↑o')(tups:∀b xs,H b=↑(.tup xs)->H' b=↑(.tup xs))(frzs:∀b o u,H b=↑(.frz o u)->H' b=↑(.frz o u))(tbls:∀b ps,H b=↑(.tbl ps)->∃D,H' b=↑(.tbl (ps++D)))(ns:∀m,s.heap.Ns X.env.locals m->h'.Ns X.env.locals m)(hok:aL X.prog X.w H' h')(O:AllBare g'):Inv X ϵ σ H' {s with heap:=h',gens:=g',drawn:=d',toks:=t'}:=by
 let E:∀b o,X.s₀.heap.get? b=↑o->b≠X.env.locals:=λb o e=>adb (aco (abN e) I.ok.above)
 let y:∀b o,X.s₀.heap.get? b=↑o->b∉X.ex->b∉ch:=λb o e a B=>by
  rcases(f b B).1 with z|z
  .show a z
  .rw[e]at z;cases z
 let g:∀x c,X.env.cells.lookup x=↑c->∀v,s.heap.IsCell c v->h'.IsCell c v:=λx c e v ⟨o,C,hd⟩=>by
  let j:c∉ch:=λz=>(f c z).2.2.1 x c e rfl
  by_cases J:c∈X.fs
  .let#[sl,q]:=slot c o (I.cne x c e) J j C (I.freeC x c e);show#[_,q,hd]
  .show#[o,keep c o (I.cne x c e) J j C (I.freeC x c e),hd]
 show#[I.ok,I.os,O,#[λb o e n B a=>?_,λb o e n B a=>?_,λb o e n a=>?_,λb o e a=>?_,λb xs e=>tups b xs (I.base.tups b xs e),λb o xs e=>frzs b o xs (I.base.frzs b o xs e),λb ps e=>?_],?_,λx c e=>?_,?_,λx c e=>?_,λp L=>?_,hok,I.len]
 .show keep b o (E b o e) B (y b o e a) (I.base.keep b o e n B a) (I.base.free b o e n a)
 .let#[sl,e1]:=I.base.slot b o e n B a;let#[G,F]:=slot b _ (E b o e) B (y b o e a) e1 (I.base.free b o e n a);show#[G,F]
 .let#[o',e1]:=I.base.there b o e a;show free b o' (y b o e a) e1 (I.base.free b o e n a)
 .let#[o',e1]:=I.base.there b o e a;show there b o' (y b o e a) e1
 .let#[P,e1]:=I.base.tbls b ps e;let#[Q,F]:=tbls b _ e1;show#[P++Q,by rw[F,Array.append_assoc]]
 .let#[m,R,S]:=I.loc;show#[m,ns m R,λi x v e1 F T=>?_];let#[u,r,l]:=S i x v e1 F T;show#[u,r,?_];obtain l|⟨k,c,e,z⟩:=l
  .show .inl l
  .show .inr #[k,c,e,g x c e _ z]
 .let#[v,z]:=I.cell x c e;show#[v,g x c e v z]
 .let#[m,#[o,_,_,C,_],_]:=I.loc;show free _ o (λz=>(f _ z).2.1 rfl) C I.free
 .let#[v,o,C,hd]:=I.cell x c e;show free c o (λz=>(f c z).2.2.1 x c e rfl) C (I.freeC x c e)
 .let#[e,n,ne,M,d]:=I.pin p L;let j:p.1∉ch:=λz=>(f p.1 z).2.2.2 p L rfl
  show#[keep p.1 p.2 ne M j e n,free p.1 p.2 j e n,ne,M,d]
def Inv.un(I:Inv X ϵ σ H s)(u:Un X.fs [] H H' s.heap h')(hok:aL X.prog X.w H' h'):Inv X ϵ σ H' {s with heap:=h',toks:=t'}:=by
 let#[m,#[o,es,ep,i,r],_]:=id I.loc;let#[sl,j]:=u.any i I.free (by simp);show I.step (g':=s.gens) (d':=s.drawn) (ch:=[]) (λ_ z=>nomatch z) (λb o _ c _ e n=>u.keep b o e n c (by simp)) (λb o _ c _ e n=>u.slot b o e n c (by simp)) (λb o _ e n=>u.free b o e n (by simp)) (λb o _ e=>u.there b o e (by simp)) u.tups u.frzs u.tbls (λm' l=>by
  let#[o',f,g,a,p]:=l;rw[i]at a;cases a;show#[_,f,g,j,p]) hok I.bare
def Inv.call(I:Inv X ϵ σ H s)(u:Un (di X.stack) ch H H' s.heap h')(hok:aL X.prog X.w H' h')(v:AllBare g')(f:∀b∈ch,(b∈X.ex\/X.s₀.heap.get? b=none)/\b≠X.env.locals/\(∀x c,X.env.cells.lookup x=↑c->c≠b)/\∀p∈X.pn++ϵ,p.1≠b):Inv X ϵ σ H' {s with heap:=h',gens:=g',drawn:=d',toks:=t'}:=by
 let#[m,#[o,es,ep,q,r],_]:=id I.loc;let#[sl,i]:=u.any q I.free λz=>(f _ z).2.1 rfl
 show I.step (ch:=ch) f (λb o i y a e n=>u.keep b o e n (λz=>(aaF.mp (I.stkSub b z)).elim i y) a) (λb o _ _ a e n=>u.any e n a) (λb o a e n=>u.free b o e n a) (λb o a e=>u.there b o e a) u.tups u.frzs u.tbls (λm' B=>by
  let#[o',j,l,g,C]:=B;rw[q]at g;cases g;show#[_,j,l,i,C]) hok v
def Inv.turned(I:Inv X ϵ σ H s)(k:∀b o,b≠it->s.heap.get? b=↑o->h'.get? b=↑o)(i:H it=none)(g:it≠X.env.locals)(h1:it∈X.ex\/X.s₀.heap.get? it=none)(h2:∀x c,X.env.cells.lookup x=↑c->c≠it)(j:∀p∈X.pn++ϵ,p.1≠it):Inv X ϵ σ H {s with heap:=h',toks:=t'}:=by
 let f:∀b u,H b=↑u->b≠it:=λb u e z=>by rw[z,i]at e;cases e
 show I.step (g':=s.gens) (d':=s.drawn) (ch:=[it]) (λb l=>?_) (λb o _ _ a e _=>k b o (λz=>a (by simp[z])) e) (λb o _ _ a e _=>#[o.slots,k b o (λz=>a (by simp[z])) e]) (λ_ _ _ _ n=>n)
  (λb o a e=>#[o,k b o (λz=>a (by simp[z])) e]) (λ_ _ e=>e) (λ_ _ _ e=>e) (λb ps e=>#[#v[],by rw[e];simp]) (λm y=>?_) (λb u e=>?_) I.bare
 .let e:b=it:= ~~~l
  subst e;show#[h1,g,h2,j]
 .let#[o,es,ep,B,r]:=y;show#[o,es,ep,k _ o (Ne.symm g) B,r]
 .show(I.hok b u e).stay (λc v a q=>k c v ?_ q) (λ_ q=>q) λ_ _ q=>q
  obtain z|z:=a
  .rw[z];show f b u e
  .show f c _ z
theorem Inv.tok(I:Inv X ϵ σ H s)(t:Nat):Inv X ϵ σ H {s with toks:=t}:=I.un (h':=s.heap) (t':=t) Un.refl I.hok
theorem Inv.kept(I:Inv X ϵ σ H s)(k:∀b u,s.heap.get? b=↑u->h'.get? b=↑u):Inv X ϵ σ H {s with heap:=h',toks:=t'}:=I.un (Un.kept k) (I.hok.kept k)
theorem Inv.laid{a:δ}{t':Nat}(I:Inv X ϵ σ H s)(k:∀b u,s.heap.get? b=↑u->h'.get? b=↑u)(c:⇑s<=a)(e:ϟ X.prog X.w (upd H a o) h' a o):Inv X ϵ σ (upd H a o) {s with heap:=h',toks:=t'}:=I.un (Un.laid k c (I.hok.fresh c)) (I.hok.laid k c e)
theorem Inv.write(I:Inv X ϵ σ H s)(f:tL (H x))(g:e=x\/H e=↑(.own x))(k:∀b u,b≠e->s.heap.get? b=↑u->h'.get? b=↑u)(a:∃u,h'.get? e=↑u)(c:ϟ X.prog X.w (upd H x o) h' x o):Inv X ϵ σ (upd H x o) {s with heap:=h',toks:=t'}:=I.un (Un.write f g k a) (I.hok.write f g k a c)
theorem Inv.weak(I:Inv X ϵ σ H s)(a:↥σ'=↥σ)(w:∀(i:Nat) v,σ'[i]?=some ↑v->σ[i]?=some ↑v):Inv X ϵ σ' H s:=
 #[I.ok,I.os,I.bare,I.base,let⟨m,hn,hl'⟩:=I.loc;#[m,hn,λi x v e1 c e=>hl' i x v e1 (w i v c) e],I.cell,I.free,I.freeC,I.pin,I.hok,a<|>I.len]
theorem Inv.pins_of(I:Inv X ϵ σ H s)(h:∀p∈pins',s.heap.get? p.1=↑p.2/\H p.1=none/\p.1≠X.env.locals/\p.1∉X.fs/\∀v,p.2.data≠.cell v):Inv X pins' σ H s:=
 #[I.ok,I.os,I.bare,I.base,I.loc,I.cell,I.free,I.freeC,λp a=>(adi.mp a).elim (λz=>I.pin p (agF _ z)) (h p),I.hok,I.len]
def Hd{N:List Str}(c:N.Nodup){i j:Nat}(a:N[i]?=↑x)(b:N[j]?=↑x):i=j:=by
 let#[h1,e1]:=aak.mp a;let#[h2,e]:=aak.mp b;show(as7 c).mp (e1<|>e.symm)
def rC(I:Inv X ϵ σ H s)(hN:X.N.Nodup)(hi:X.N[i]?=↑x)(g:Loc X.env.scope x)(r:RelV v u)(h:∀s',Inv X ϵ (σ.set i ↑v) H s'->(∃a,amn a s.heap s'.heap/\(a=X.env.locals\/X.env.cells.lookup x=↑a))->Q PUnit.unit s')(hf:X.fn x=true\/X.env.scope.names.lookup x=↑.local:=by first|show .inl rfl|show .inr rfl|assumption):Ϧ M A (storeName X.env x u) Q E s:=by
 let#[m,U,hl]:=id I.loc;let J:(X.env.scope.kind==.class||(X.env.scope.kind==.module&&X.env.locals !=X.env.globals))=false:=by rw[I.ok.kind];rfl
 let C:i<↥σ:=by rw[I.len];show(aak.mp hi).1
 let cne:=I.cne;let f:∀{a:δ}{h':ϫ},(∃o,s.heap.get? a=↑o/\H a=none)->amn a s.heap h'->aL X.prog X.w H h':=λ{a h'} ha hs b ob e=>by
  let#[_,_,l]:=ha;show(I.hok b ob e).stay (λc S hc q=>(hs.2 c ?_).trans q) (λ_ q=>q) λ_ _ q=>q
  rintro rfl
  obtain rfl|hc:=hc
  .rw[l]at e;cases e
  .rw[l]at hc;cases hc
 obtain hk|hk:=g
 .show wpAny_storeName_local hk U (λh' W hs=>?_) J;let#[oL,_,_,Y,_]:=id U;show h _ #[I.ok,I.os,I.bare,#[λb o e n D g=>?_,λb o e n D g=>?_,I.base.free,λb o e g=>?_,I.base.tups,I.base.frzs,I.base.tbls],#[_,W,λj y Z e1 B e3=>?_],λy c e=>?_,I.free,I.freeC,λp hp=>?_,f #[oL,Y,I.free] hs,~~~I.len] #[_,hs,.inl rfl]
  .show(hs.2 b (adb (aco (abN e) I.ok.above))).trans (I.base.keep b o e n D g)
  .let#[sl,e1]:=I.base.slot b o e n D g;show#[sl,(hs.2 b (adb (aco (abN e) I.ok.above)))<|>e1]
  .let#[o',e1]:=I.base.there b o e g;show#[o',(hs.2 b (adb (aco (abN e) I.ok.above)))<|>e1]
  .by_cases F:j=i
   .subst F;rw[hi]at e1;cases e1;rw[aom C]at B;cases B;show#[u,r,.inl #[hk,by simp]]
   .rw[ash (Ne.symm F)]at B;let#[u',r',q]:=hl j y Z e1 B e3;show#[u',r',?_];obtain⟨k,e⟩|⟨k,c,e,z⟩:=q
    .show .inl #[k,?_];have:y≠x:=λe=>F (Hd hN e1 (e▸hi))
     simp[this,e]
    .show .inr #[k,c,e,z.sameBut hs (cne y c e)]
  .let#[S,z]:=I.cell y c e;show#[S,z.sameBut hs (cne y c e)]
  .let#[e,n,ne,nf,d]:=I.pin p hp;show#[(hs.2 p.1 ne)<|>e,n,ne,nf,d]
 .let G:X.fn x=true:=by
   obtain z|z:=hf
   .show z
   .rw[z]at hk;cases hk
  let#[c,hc]:=I.ok.has x (.inl hk);let#[S,z]:=I.cell x c hc;show wpAny_storeName_cell I.ok.kind hk hc z (λh' L hs=>?_);let#[oc,O,P]:=id z;show h {s with heap:=h'} #[I.ok,I.os,I.bare,#[λb o e n D g=>?_,λb o e n D g=>?_,I.base.free,λb o e g=>?_,I.base.tups,I.base.frzs,I.base.tbls],#[m,U.sameBut hs (Ne.symm (cne x c hc)),λj y Z e1 B e3=>?_],λy T e=>?_,I.free,I.freeC,λp hp=>?_,f #[oc,O,I.freeC x c hc] hs,~~~I.len] #[c,hs,.inr hc]
  .show(hs.2 b (adb (aco (abN e) (I.ok.cab x c G hc)))).trans (I.base.keep b o e n D g)
  .let#[sl,e1]:=I.base.slot b o e n D g;show#[sl,(hs.2 b (adb (aco (abN e) (I.ok.cab x c G hc))))<|>e1]
  .let#[o',e1]:=I.base.there b o e g;show#[o',(hs.2 b (adb (aco (abN e) (I.ok.cab x c G hc))))<|>e1]
  .by_cases F:j=i
   .subst F;rw[hi]at e1;cases e1;rw[aom C]at B;cases B;show#[u,r,.inr #[.inl hk,c,hc,L]]
   .rw[ash (Ne.symm F)]at B;let#[u',r',q]:=hl j y Z e1 B e3;show#[u',r',?_];obtain q|⟨k,T,e,z'⟩:=q
    .show .inl q
    .show .inr #[k,T,e,z'.sameBut hs ?_]
     rintro rfl
     show F (Hd hN e1 (I.ok.inj _ _ _ e hc▸hi))
  .by_cases R:T=c
   .subst R;show#[_,L]
   .let#[w2,z2]:=I.cell y T e;show#[w2,z2.sameBut hs R]
  .let#[e,n,ne,nf,d]:=I.pin p hp;show#[(hs.2 p.1 ?_)<|>e,n,ne,nf,d];intro q;rw[q,O]at e;let q':oc=p.2:=Option.some.inj e;show d S (by rw[<-q'];show P)
theorem Qv(I:Inv X ϵ σ H s)(a:X.N.Nodup)(hi:X.N[i]?=↑x)(c:Loc X.env.scope x)(r:RelV v u)(h:∀s',Inv X ϵ (σ.set i ↑v) H s'->Q PUnit.unit s')(e:X.fn x=true\/X.env.scope.names.lookup x=↑.local:=by first|show .inl rfl|show .inr rfl|assumption):Ϧ M A (storeName X.env x u) Q E s:=
 rC I a hi c r (λs' f _=>h s' f) e
def Inv.call'(I:Inv X ϵ σ H s)(f:s'.os=s.os)(u:Un (di X.stack) ch H H' s.heap s'.heap)(hok:aL X.prog X.w H' s'.heap)(g:AllBare s'.gens)(a:∀b∈ch,(b∈X.ex\/X.s₀.heap.get? b=none)/\b≠X.env.locals/\(∀x c,X.env.cells.lookup x=↑c->c≠b)/\∀p∈X.pn++ϵ,p.1≠b):Inv X ϵ σ H' s':=by
 let#[h',g',d',t',o']:=s';let e:o'=s.os:=f;subst e;show I.call (g':=g') (t':=t') (d':=d') u hok g a
end
abbrev St:=List (Option V)
abbrev TE:=St->Hp->VK->Prop
abbrev TT:=St->Hp->(Bool->Hp->Prop)->Prop
abbrev TA:=St->Hp->(List V->Hp->Prop)->Prop
structure Ends where
 nx:St->Hp->Prop
 rt:VK
 bk:St->Hp->Prop:=λ_ _=>False
 ct:St->Hp->Prop:=λ_ _=>False
abbrev TS:=Ends->St->Hp->Prop
def EP(X:Cx)(ϵ:List (δ×Obj))(σ:St)(Q:VK)(u:ε)(s':μ):=∃v H',Inv X ϵ σ H' s'/\RelV v u/\Q v H'
def TP(X:Cx)(ϵ:List (δ×Obj))(σ:St)(Q:Bool->Hp->Prop)(b:Bool)(s':μ):=∃H',Inv X ϵ σ H' s'/\Q b H'
def AP(X:Cx)(ϵ:List (δ×Obj))(σ:St)(Q:List V->Hp->Prop)(us:List ε)(s':μ):=∃vs H',Inv X ϵ σ H' s'/\Vals vs us/\Q vs H'
def SP(X:Cx)(ϵ:List (δ×Obj))(D:Ends)(f:Flow)(s':μ):Prop:=
 match f with
 |.next=>∃σ' H',Inv X ϵ σ' H' s'/\D.nx σ' H'
 |.brk=>∃σ' H',Inv X ϵ σ' H' s'/\D.bk σ' H'
 |.cont=>∃σ' H',Inv X ϵ σ' H' s'/\D.ct σ' H'
 |.ret u=>∃v σ' H',Inv X ϵ σ' H' s'/\RelV v u/\D.rt v H'
def PE(X:Cx)(e:Ϫ)(t:TE):Prop:=
 ∀(ϵ:List (δ×Obj))(s:μ)(σ:St)(H:Hp)(Q:VK),Inv X ϵ σ H s->t σ H Q->Ϧ ∅ X.A (eval e X.env) (EP X ϵ σ Q) X.xe s
def PT(X:Cx)(e:Ϫ)(t:TT):Prop:=
 ∀(ϵ:List (δ×Obj))(s:μ)(σ:St)(H:Hp)(Q:Bool->Hp->Prop),Inv X ϵ σ H s->t σ H Q->Ϧ ∅ X.A (isTrue e X.env (eval e X.env)) (TP X ϵ σ Q) X.xe s
def PW(X:Cx)(e:Ϫ)(t:TT):Prop:=
 ∀(a:Sem ε)(ϵ:List (δ×Obj))(s:μ)(σ:St)(H:Hp)(Q:Bool->Hp->Prop),Inv X ϵ σ H s->t σ H Q->Ϧ ∅ X.A (isTrue e X.env a) (TP X ϵ σ Q) X.xe s
theorem PW.pt(h:PW X e t):PT X e t:=h _
def PS(X:Cx)(st:ϧ)(t:TS):Prop:=
 ∀(ϵ:List (δ×Obj))(s:μ)(σ:St)(H:Hp)(D:Ends),Inv X ϵ σ H s->t D σ H->Ϧ ∅ X.A (exec st X.env) (SP X ϵ D) X.xe s
def J9(X:Cx)(st:List ϧ)(t:TS):Prop:=
 ∀(ϵ:List (δ×Obj))(s:μ)(σ:St)(H:Hp)(D:Ends),Inv X ϵ σ H s->t D σ H->Ϧ ∅ X.A (execs st X.env) (SP X ϵ D) X.xe s
theorem υ{α:Type}{t:Sem α}{Q c:α->μ->Prop}{A:ϴ}{E:ε->μ->Prop}{s:μ}(h:Ϧ M A t Q E s)(e:∀a s,Q a s->c a s):Ϧ M A t c E s:=adq h e λ_ _ x=>x
section
variable{X:Cx}
def aot(i:Nat):TE:=λσ H Q=>∃v,σ[i]?=some ↑v/\Q v H
def tC(v:V):TE:=λ_ H Q=>Q v H
def adA{x:Str}{pos:Pos}(j:X.N[i]?=↑x)(n:rA X.env.scope x)(hd:(x==("__debug__":Str))=false:=by decide)(f:(x==("__classdict__":Str))=false:=by decide):PE X (.Name x pos) (aot i):=by
 intro ϵ s σ H Q I h;let#[v,e,h]:=h;let#[m,o,p]:=I.loc;let#[u,r,l]:=p i x v j e n;let fin:EP X ϵ σ Q u s:=#[v,H,I,r,h];obtain⟨hk,q⟩|⟨hk,c,g,a⟩:=l
 .show wpAny_Name (wpAny_loadName_local I.ok.kind hk o q fin) hd
 .obtain hk|hk:=hk
  .show wpAny_Name (wpAny_loadName_cell I.ok.kind hk g a fin) hd
  .show wpAny_Name (wpAny_loadName_free I.ok.kind hk g a fin f) hd
def Gl(X:Cx)(x:Str):Prop:=X.env.kindOf x=↑.globalImplicit
theorem lK{E:ε->μ->Prop}{s:μ}{σ:St}{H:Hp}{x:Str}{u:ε}{pos:Pos}{Q:ε->μ->Prop}(I:Inv X ϵ σ H s)(a:Gl X x)(c:X.mg x=↑u)(h:Q u s)(hd:(x==("__debug__":Str))=false:=by decide):Ϧ ∅ X.A (eval (.Name x pos) X.env) Q E s:=
 Calls.Name_function_global I.ok.kind a (Calls.loadGlobal_global (by rw[I.ok.glob];show I.mod.glob.keeps I.bk) c h) hd
def jt{E:ε->μ->Prop}{s:μ}{σ:St}{H:Hp}{x:Str}{u:ε}{pos:Pos}{Q:ε->μ->Prop}(I:Inv X ϵ σ H s)(a:Gl X x)(c:X.mg x=none)(e:bootBuiltins x=↑u)(h:Q u s)(f:x≠"__name__":=by decide)(hd:(x==("__debug__":Str))=false:=by decide):Ϧ ∅ X.A (eval (.Name x pos) X.env) Q E s:=by
 let#[mb,h1,h2]:=I.mod.blt;show Calls.Name_function_global I.ok.kind a (Calls.loadGlobal_builtin (by rw[I.ok.glob];show I.mod.glob.keeps I.bk) c (by rw[I.ok.blt];show h1.keeps I.bk) ((h2 x f)<|>e) h) hd
theorem YT(a:Gl X x)(c:X.mg x=↑u)(r:RelV v u)(hd:(x==("__debug__":Str))=false:=by decide):PE X (.Name x pos) (tC v):=
 λ_ _ _ H _ I h=>lK I a c #[v,H,I,r,h] hd
end
def ρ(K:ϩ)(H:Hp)(a:δ)(xs:List V):Prop:=
 Rd H a (.tup xs)\/
  ∃(o:Obj)(c:Array ε)(n:Nat),K.lookup a=↑o/\o.cls=.type "tuple"/\o.data=.seq c n/\c.size<=ϰ/\Vals xs c.toList
def ahB:ε->Option V
 |.none=>↑.non
 |.bool b=>↑(.bl b)
 |.int i _=>↑(.int i)
 |.str x _=>↑(.str x)
 |.bytes b _=>↑(.byt b)
 |.float b _=>↑(.flt b)
 |.ref a=>↑(.ref a)
 |.type n=>↑(.ty n)
 |_=>none
def RelV.abs(r:RelV x u):ahB u=↑x:=by
 cases x with
 |non=>cases r;rfl
 |bl _=>cases r;rfl
 |int _=>let#[t,rfl]:=r;rfl
 |str _=>let#[t,rfl]:=r;rfl
 |byt _=>let#[t,rfl]:=r;rfl
 |flt _=>let#[t,rfl]:=r;rfl
 |ref _=>cases r;rfl
 |ty _=>cases r;rfl
theorem RelV.inj(r:RelV x u)(q:RelV y u):x=y:=Option.some.inj (r.abs.symm<|>q.abs)
def Vals.inj(h:Vals xs us)(g:Vals ys us):xs=ys:=by
 induction h generalizing ys with
 |nil=>cases g;rfl
 |cons r t a=>cases g with|cons c t'=>rw[r.inj c,a t']
section
variable{X:Cx}{ϵ:List (δ×Obj)}{σ:St}{H:Hp}{s:μ}{a:δ}{xs ys:List V}
theorem θ.of{K:ϩ}(h:H a=↑(.lst xs)):θ K H a xs:=.inl (.inl h)
theorem ρ.of{K:ϩ}(h:H a=↑(.tup xs)):ρ K H a xs:=.inl (.inl h)
def Inv.list(I:Inv X ϵ σ H s)(h:θ X.K H a xs):∃c:List ε,Vals xs c/\PlainL s.heap a c.toArray/\↥xs<=ϰ:=by
 obtain h|⟨o,c,n,f,g,hd,hs,i,r⟩:=h
 .let#[z,c,n,r,e]:=h.ok I.hok;show#[c,r,#[_,n,e,rfl,rfl,rfl],z]
 .show#[c.toList,r,#[o,n,I.kIn a o f,g,hd,~~~hs],?_];let e:=↥r;simp only[akT]at e;omega
def Inv.tuple(I:Inv X ϵ σ H s)(h:ρ X.K H a xs):∃c:List ε,Vals xs c/\IsTup s.heap a c.toArray/\↥xs<=ϰ:=by
 obtain h|⟨o,c,n,f,g,hs,i,r⟩:=h
 .let#[z,c,r,p]:=h.ok I.hok;show#[c,r,p,z]
 .show#[c.toList,r,#[o,I.kIn a o f,g,n,~~~hs],?_];let e:=↥r;simp only[akT]at e;omega
def Inv.list_inj(I:Inv X ϵ σ H s)(h:θ X.K H a xs)(h':θ X.K H a ys):xs=ys:=by
 let#[f,r,#[o,n,e,_,_,d],_]:=I.list h;let#[its',g,#[o',i,c,_,_,d'],_]:=I.list h';rw[e]at c;cases c;rw[d]at d';injection d' with d1 _
 have:f=its':= ~~~congrArg auw d1
 subst this;show r.inj g
def Inv.tuple_inj(I:Inv X ϵ σ H s)(h:ρ X.K H a xs)(h':ρ X.K H a ys):xs=ys:=by
 let#[f,r,#[o,e,_,n,d],_]:=I.tuple h;let#[its',g,#[o',c,_,i,d'],_]:=I.tuple h';rw[e]at c;cases c;rw[d]at d';injection d' with d1 _
 have:f=its':= ~~~congrArg auw d1
 subst this;show r.inj g
end
def Inv.quiet{σ:St}{H:Hp}{s:μ}(I:Inv X ϵ σ H s):interactive X.env=false:=by simp[interactive,I.ok.kind]
abbrev TG:=V->St->Hp->(St->Hp->Prop)->Prop
def PG(X:Cx)(a:Ϫ)(t:TG):Prop:=
 ∀(ϵ:List (δ×Obj))(s:μ)(σ:St)(H:Hp)(v:V)(u:ε)(Q:St->Hp->Prop),Inv X ϵ σ H s->RelV v u->t v σ H Q->
  Ϧ ∅ X.A (assign a X.env u) (λ_ s'=>∃σ' H',Inv X ϵ σ' H' s'/\Q σ' H') X.xe s
abbrev BP:=V->V->V->Hp->(Hp->Prop)->Prop
def ZD(X:Cx)(t:BP):Prop:=
 ∀(ϵ:List (δ×Obj))(s:μ)(σ:St)(H:Hp)(o i v:V)(a c u:ε)(Q:Hp->Prop),Inv X ϵ σ H s->RelV o a->RelV i c->RelV v u->t o i v H Q->
  Ϧ ∅ X.A (setItem a c u) (λ_ s'=>∃H',Inv X ϵ σ H' s'/\Q H') X.xe s
section
variable{X:Cx}{pos:Pos}
def amX(to a:TE)(t:BP):TG:=λv σ H Q=>to σ H λo H1=>a σ H1 λi H2=>t o i v H2 λc=>Q σ c
def agG(g:PE X o to)(hi:PE X i f)(hs:ZD X t)(j:∀v,assign (.Subscript o i pos) X.env v=(do
   let a<-holding [v] (eval o X.env);let c<-holding [v,a] (eval i X.env)
   standAt pos
   holding [v,a,c] (setItem a c v)
   release [v,a,c] []):=by intro _;rfl):PG X (.Subscript o i pos) (amX to f t):=by
 intro ϵ s σ H v u Q I r h;rw[j];show π (aez (υ (g ϵ s σ H _ I h) λa l e=>?_));let#[x,H1,m,r1,n]:=e;show π (aez (υ (hi ϵ l σ H1 _ m n) λc p e=>?_));let#[y,H2,q,z,B]:=e;show π (amU (π (aez (υ (hs ϵ p σ H2 x y v a c u _ q r1 z r B) λ_ F e=>?_))));let#[C,D,E]:=e;show wpAny_release #[σ,C,D,E]
def akm(te:TE)(g:TG):TS:=λD σ H=>te σ H λx H1=>g x σ H1 D.nx
def akH(a:PE X e te)(c:PG X tg g)(hs:swapsWithSole [tg] e pos.line X.env=pure false:=by rfl)(f:swappedStores [tg] e X.env=pure none:=by rfl)(h1:(aqn [tg] X.env).map (·.2)=[assign tg X.env]:=by rfl):PS X (.Assign [tg] e pos) (akm te g):=by
 intro ϵ s σ H D I h;show wpAny_Assign_stores (υ (a ϵ s σ H _ I h) λv i j=>?_) hs f;let#[x,H1,l,r1,m]:=j;rw[h1];show υ (c ϵ i σ H1 x v _ l r1 m) λ_ n q=>q
end
def aoE(c:TT)(tb:TS):TS:=λD σ H=>∃W:Nat->St->Hp->Prop,(∃m,W m σ H)/\∀m σ H,W m σ H->
 c σ H λb H1=>if b=true then ∃N:St->Hp->Prop,(∀σ' H',N σ' H'->∃m',m'<m/\W m' σ' H')/\tb {D with nx:=N,ct:=N,bk:=D.nx} σ H1 else D.nx σ H1
def ah4(q:anh ∅ X.A X.env X.xe)(y:PT X c tc)(z:J9 X body tb):PS X (.While c body [] pos) (aoE tc tb):=by
 intro ϵ s σ H D I h;let#[W,#[B,C],turn]:=h;show wpAny_While (codeAny_whileLoop (λn s'=>∃σ' H',Inv X ϵ σ' H' s'/\W n σ' H') ?_ B #[σ,H,I,C])
 rintro n E ⟨e,H1,F,G⟩
 show amd q (υ (y ϵ E e H1 _ F (turn n e H1 G)) λb J L=>?_);let#[H2,u,i]:=L;cases b with
 |true=>
  let#[N,x,i]:=i;rw[if_pos rfl];show amd q (υ (z ϵ J e H2 _ u i) λf M j=>?_);cases f with
  |next=>
   let#[a,g,l,m]:=j;let#[m',o,p]:=x a g m;show#[m',o,a,g,l,p]
  |cont=>
   let#[a,g,l,m]:=j;let#[m',o,p]:=x a g m;show#[m',o,a,g,l,p]
  |brk=>show j
  |ret v=>show j
 |false=>
  rw[if_neg aa5];show wpAny_execs_nil #[e,H2,u,i]
structure It where
 go:Nat->Hp->Prop
 yld:Nat->Hp->V->Hp->Prop
 stop:Nat->Hp->Prop
def bN(X:Cx)(ϵ:List (δ×Obj))(H:Hp)(b:δ):Prop:=
 H b=none/\b≠X.env.locals/\b∉X.fs/\(b∈X.ex\/X.s₀.heap.get? b=none)/\(∀x c,X.env.cells.lookup x=↑c->c≠b)/\∀p∈X.pn++ϵ,p.1≠b
def Inv.fpOk{X:Cx}{σ:St}{H H':Hp}{s:μ}{b:δ}(I:Inv X ϵ σ H s)(a:⇑s<=b)(f:H' b=none):bN X ϵ H' b:=by
 show#[f,aoR (aco I.lt a),I.nofs a,.inr (ajw (afT I.sz a)),λx c e z=>?_,λp g z=>?_]
 .let#[v,q]:=I.cell x c e;show absurd (aco q.lt (by rw[z];show a)) (aiA _)
 .show absurd (aco (abN (I.pin p g).1) (by rw[z];show a)) (aiA _)
structure Turn(P:ϱ)(w:ϭ)(K:ϩ)(tg:Ϫ)(J:It)(fp:List δ)(it:δ)(tn:Nat->ϫ->Prop):Prop where
 mem:it∈fp
 obj:∀i h,tn i h->∀b∈fp,∃o,h.get? b=↑o/\∀v,o.data≠.cell v
 keep:∀i h h',tn i h->(∀b∈fp,∀o,h.get? b=↑o->h'.get? b=↑o)->tn i h'
 item:∀(X:Cx),X.prog=P->X.w=w->X.K=K->X.calm=true->∀(i:Nat)(ϵ:List (δ×Obj))(s:μ)(σ:St)(H:Hp)(E:ε->μ->Prop),Inv X ϵ σ H s->(∀b∈fp,bN X ϵ H b)->tn i s.heap->J.go i H->
  Ϧ (Ϩ P w) X.A (pyNext (.ref it)) (λr s1=>∃u,r=↑u/\
   Ϧ (Ϩ P w) X.A (letOwnedTupleGo tg (.ref it) u) (λ_ s2=>∃x H',Inv X ϵ σ H' s2/\RelV x u/\J.yld i H x H'/\tn (i+1) s2.heap/\∀b∈fp,H' b=none) E s1) E s
 done:∀(X:Cx),X.prog=P->X.w=w->X.K=K->X.calm=true->∀(i:Nat)(ϵ:List (δ×Obj))(s:μ)(σ:St)(H:Hp)(E:ε->μ->Prop),Inv X ϵ σ H s->(∀b∈fp,bN X ϵ H b)->tn i s.heap->J.stop i H->
  Ϧ (Ϩ P w) X.A (pyNext (.ref it)) (λr s1=>r=none/\Inv X ϵ σ H s1) E s
 self:∀(A:ϴ)(i:Nat)(s:μ)(Q:ε->μ->Prop)(E:ε->μ->Prop),tn i s.heap->Q (.ref it) s->Ϧ (Ϩ P w) A (pyIter (.ref it)) Q E s
abbrev TI:=St->Hp->(It->Hp->Prop)->Prop
def zU(X:Cx)(ϵ:List (δ×Obj))(σ:St)(tg:Ϫ)(R:It->Hp->Prop)(a:ε)(c:μ):Prop:=
 ∃(it:δ)(fp:List δ)(e:Nat->ϫ->Prop)(J:It)(H':Hp),a=.ref it/\Inv X ϵ σ H' c/\Turn X.prog X.w X.K tg J fp it e/\e 0 c.heap/\(∀b∈fp,bN X ϵ H' b)/\R J H'
def PI(X:Cx)(tg iter:Ϫ)(a:TI):Prop:=
 ∀(ϵ:List (δ×Obj))(s:μ)(σ:St)(H:Hp)(R:It->Hp->Prop),Inv X ϵ σ H s->a σ H R->
  Ϧ ∅ X.A (eval iter X.env) (λv c=>Ϧ ∅ X.A (pyIter v) (zU X ϵ σ tg R) X.xe c) X.xe s
def vd(c:s.heap.get? it=↑o)(e:o.cls=.type n)(hd:o.data=.fields vs)(f:["enumerate","zip","dict_itemiterator","dict_reverseitemiterator","odict_iterator","itertools.zip_longest","itertools.pairwise"].contains n=false)(a:Q PUnit.unit s):Ϧ M A (letOwnedTupleGo tg (.ref it) u) Q E s:=by
 unfold letOwnedTupleGo;cases tg<;>first
  |show ϯ a
  |(cases u<;>first
   |show ϯ a
   |(show π (wpAny_load c ?_)
     rw[e,hd];show Ϧ M A (if(["enumerate","zip","dict_itemiterator","dict_reverseitemiterator","odict_iterator","itertools.zip_longest","itertools.pairwise"].contains n&&vs[0]?==↑(rawInt _))=true then _ else _) Q E s;rw[if_neg (by intro h;rw[f,apV]at h;cases h)];show ϯ a))
def kJ(K:ϩ)(a:δ):It:=
 #[λi H=>∃xs x,θ K H a xs/\xs[i]?=↑x,λi H x H'=>H'=H/\∀xs,θ K H a xs->xs[i]?=↑x,λi H=>∃xs,θ K H a xs/\↥xs<=i]
def tG(K:ϩ)(a:δ):It:=
 #[λi H=>∃xs x,ρ K H a xs/\xs[i]?=↑x,λi H x H'=>H'=H/\∀xs,ρ K H a xs->xs[i]?=↑x,λi H=>∃xs,ρ K H a xs/\↥xs<=i]
def mH(lo:Int)(n:Nat):It:=#[λi _=>i<n,λi H x H'=>H'=H/\x=.int (lo+i),λi _=>n<=i]
theorem anC{P:ϱ}{w:ϭ}{K:ϩ}{tg:Ϫ}(a it:δ):Turn P w K tg (kJ K a) [it] it (λi h=>h.IsListIter it a i)where
 mem:=by simp
 obj:=λi h st b f=>by
  let e:b=it:= ~~~f
  subst e;let#[o,e,c,d]:=st;show#[o,e,λv z=>by rw[d]at z;cases z]
 keep:=λi h h' st k=>st.at λo e=>k it (by simp) o e
 item:=by
  intro X m n q M i ϵ s σ H E I j st y;subst m n q;let#[xs,x,l,B]:=y;let#[O,C,p,Q]:=I.list l;let#[u,R,S]:=C.get B;let#[D,F,T,G,J,L]:=j it (by simp);show wpAny_pyNext_list_item st p.isList (x:=u) (~~~R) λh' g U=>?_
  let W:Inv X ϵ σ H {s with heap:=h'}:=I.turned (t':=s.toks) (λb o f e=>(U.2 b f).trans e) D F G J L;let#[o,e,c,d]:=id g;show#[u,rfl,vd (s:={s with heap:=h'}) e c d (by decide) #[x,H,W,S,#[rfl,λys Y=>by rw[I.list_inj Y l];show B],g,λb f=>(j b f).1]]
 done:=by
  intro X m n q M i ϵ s σ H E I j st y;subst m n q;let#[xs,l,B]:=y;let#[O,C,p,Q]:=I.list l;let#[D,F,T,G,J,L]:=j it (by simp);let hl:=↥C;show wpAny_pyNext_list_end (I.ok.hd M) st p.isList (by simp;omega) λh' Z=>#[rfl,I.turned (t':=s.toks) (λb o f e=>Z b o f e) D F G J L]
 self:=λ_ _ _ _ _ st h=>wpAny_pyIter_listiter st h
theorem alH{P:ϱ}{w:ϭ}{K:ϩ}{tg:Ϫ}(a it:δ):Turn P w K tg (tG K a) [it] it (λi h=>h.IsTupleIter it a i)where
 mem:=by simp
 obj:=λi h st b f=>by
  let e:b=it:= ~~~f
  subst e;let#[o,e,c,d]:=st;show#[o,e,λv z=>by rw[d]at z;cases z]
 keep:=λi h h' st k=>st.at λo e=>k it (by simp) o e
 item:=by
  intro X m n q O i ϵ s σ H E I j st y;subst m n q;let#[xs,x,l,B]:=y;let#[C,D,p,Q]:=I.tuple l;let#[u,R,S]:=D.get B;let#[F,G,T,J,L,M]:=j it (by simp);show wpAny_pyNext_tuple_item st (show s.heap.IsTuple a C.toArray from p) (x:=u) (~~~R) λh' g U=>?_
  let W:Inv X ϵ σ H {s with heap:=h'}:=I.turned (t':=s.toks) (λb o f e=>(U.2 b f).trans e) F G J L M;let#[o,e,c,d]:=id g;show#[u,rfl,vd (s:={s with heap:=h'}) e c d (by decide) #[x,H,W,S,#[rfl,λys Y=>by rw[I.tuple_inj Y l];show B],g,λb f=>(j b f).1]]
 done:=by
  intro X m n q O i ϵ s σ H E I j st y;subst m n q;let#[xs,l,B]:=y;let#[C,D,p,Q]:=I.tuple l;let#[F,G,T,J,L,M]:=j it (by simp);let hl:=↥D;show wpAny_pyNext_tuple_end (I.ok.hd O) st (show s.heap.IsTuple a C.toArray from p) (by simp;omega) λh' Z=>#[rfl,I.turned (t':=s.toks) (λb o f e=>Z b o f e) F G J L M]
 self:=λ_ _ _ _ _ st h=>wpAny_pyIter_tupleiter st h
theorem ank{P:ϱ}{w:ϭ}{K:PySem.W.Frag}{tg:Ϫ}(it:δ)(lo:Int)(n:Nat):Turn P w K tg (mH lo n) [it] it (λi h=>IsRangeIter h it (lo+(i:Nat)*1) ((n:Int)-(i:Nat)) 1)where
 mem:=by simp
 obj:=λi h st b a=>by
  let e:b=it:= ~~~a
  subst e;show#[_,st,λv z=>by
   let z':Data.fields _=Data.cell v:=z;cases z']
 keep:=λi h h' st k=>k it (by simp) _ st
 item:=by
  intro X g j l m i ϵ s σ H E I f st p;subst g j l;let#[q,u,C,x,y,B]:=f it (by simp);let W:=Walks.range (prog:=X.prog) (w:=X.w) (I.ok.hd m) it lo 1 n;show W.item i s _ _ p st λv h' tk D c kk=>?_
  let#[t,rfl]:=D;let F:Inv X ϵ σ H {s with heap:=h',toks:=tk}:=I.turned (λb o a e=>kk b o (~~~a) e) q u x y B;show#[_,rfl,vd (s:={s with heap:=h',toks:=tk}) (n:="range_iterator") c rfl rfl (by decide) #[.int (lo+i),H,F,#[t,?_],#[rfl,rfl],c,λb a=>(f b a).1]];rw[Int.mul_one]
 done:=by
  intro X g j l m i ϵ s σ H E I f st p;subst g j l;let#[q,u,C,x,y,B]:=f it (by simp);show wpAny_pyNext_range_end (I.ok.hd m) st (by have:n<=i:=p;omega) λh' G=>#[rfl,I.turned (t':=s.toks) (λb o a e=>G b o a e) q u x y B]
 self:=λ_ _ _ _ _ st h=>wpAny_pyIter_rangeiter st h
def ai7{σ:St}{H:Hp}{s:μ}{R:It->Hp->Prop}{E:ε->μ->Prop}{lo hi:Int}{t u v:Tok}{tk:Nat}(I:Inv X ϵ σ H s)(h1: -(2^62)<=lo)(h2:lo<2^62)(c: -(2^62)<=hi)(f:hi<2^62)(q:R (mH lo (hi-lo).toNat) H):Ϧ ∅ X.A (pyIter (.ref ⇑s)) (zU X ϵ σ tg R) E {s with heap:=s.heap.push {cls:=.type "range",data:=.fields #v[.int lo t,.int hi u,.int 1 v]},toks:=tk}:=by
 show wpAny_pyIter_range (IsRange.new ..) (small_one h1 h2 c f) ?_;let a:Inv X ϵ σ H {s with heap:=s.heap.push {cls:=.type "range",data:=.fields #v[.int lo t,.int hi u,.int 1 v]},toks:=tk}:=I.kept λb o e=>ϲ _ e
 show#[(s.heap.push {cls:=.type "range",data:=.fields #v[.int lo t,.int hi u,.int 1 v]}).objs.size,[(s.heap.push {cls:=.type "range",data:=.fields #v[.int lo t,.int hi u,.int 1 v]}).objs.size],_,_,H,rfl,
  a.kept (t':=tk) λb o e=>ϲ _ e,ank _ lo (hi-lo).toNat,?_,λb g=>?_,q]
 .let e1:lo+((0:Nat):Int)*1=lo:=by simp
  let i:(((hi-lo).toNat:Nat):Int)-((0:Nat):Int)=Builtin.Range.rangeSize lo hi 1:=by rw[rangeSize_one];split <;>omega
  show IsRangeIter _ _ (lo+((0:Nat):Int)*1) ((((hi-lo).toNat:Nat):Int)-((0:Nat):Int)) 1;rw[e1,i];show abn _ rfl
 .let e:b=(s.heap.push {cls:=.type "range",data:=.fields #v[.int lo t,.int hi u,.int 1 v]}).objs.size:= ~~~g
  subst e;show a.fpOk (Ϭ _) (a.hok.fresh (Ϭ _))
def gZ(fp:List δ)(h:ϫ):List (δ×Obj):=fp.filterMap λb=>(h.get? b).map λo=>(b,o)
theorem Ac(a:b∈fp)(e:h.get? b=↑o):(b,o)∈gZ fp h:=amr.mpr #[b,a,by rw[e];rfl]
def ak9(a:p∈gZ fp h):p.1∈fp/\h.get? p.1=↑p.2:=by
 let#[b,c,e]:=amr.mp a;cases q:h.get? b with
 |none=>rw[q]at e;cases e
 |some o=>
  rw[q]at e;let f:(b,o)=p:=Option.some.inj e;subst f;show#[c,q]
theorem Inv.pinned{σ:St}{H:Hp}{s:μ}(I:Inv X ϵ σ H s)(f:∀b∈fp,bN X ϵ H b)(g:∀b∈fp,∃o,s.heap.get? b=↑o/\∀v,o.data≠.cell v):Inv X (ϵ++gZ fp s.heap) σ H s:=
 I.pins_of λp i=>(adi.mp i).elim (λz=>I.pin p (adL _ z)) λz=>by
  let#[a,e]:=ak9 z;let#[j,l,m,_]:=f p.1 a;let#[o,c,d]:=g p.1 a;rw[e]at c;cases c;show#[e,j,l,m,d]
theorem Inv.unpinned{σ:St}{H:Hp}{s:μ}(I:Inv X (ϵ++pl) σ H s):Inv X ϵ σ H s:=I.pins_of λp a=>I.pin p (adL _ (agF _ a))
def aow{K:PySem.W.Frag}{a:δ}{g:TG}{tb:TS}{D:Ends}{σ:St}{H:Hp}(c:Nat->St->Hp->Prop)(l:c 0 σ H)(n:∀i σ H,i<=↥xs->c i σ H->θ K H a xs)(hs:∀i x σ H,xs[i]?=↑x->c i σ H->g x σ H λf H2=>tb {D with nx:=c (i+1),ct:=c (i+1),bk:=D.nx} f H2)(hd:∀σ H,c ↥xs σ H->D.nx σ H):∃W:Nat->Nat->St->Hp->Prop,(∃m,W 0 m σ H)/\∀i m σ H,W i m σ H->
   ((kJ K a).stop i H/\D.nx σ H)\/((kJ K a).go i H/\∃N:St->Hp->Prop,(∀σ' H',N σ' H'->∃m',m'<m/\W (i+1) m' σ' H')/\∀x H',(kJ K a).yld i H x H'->g x σ H' λf H2=>tb {D with nx:=N,ct:=N,bk:=D.nx} f H2):=by
 show#[λi m σ H=>m=↥xs-i/\i<=↥xs/\c i σ H,#[↥xs,by simp,ag3 _,l],?_]
 rintro i m σ H ⟨rfl,hi,p⟩
 let q:=n i σ H hi p;by_cases j:i<↥xs
 .show .inr #[#[xs,xs[i],q,by simp[j]],c (i+1),λσ' H' p'=>#[↥xs-(i+1),(),rfl,j,p'],λx H' y=>?_];let#[e,y]:=y;subst e;show hs i x σ _ (y xs q) p
 .let e:i=↥xs:=()
  subst e;show .inl #[#[xs,q,Ϭ _],hd σ H p]
def amS{K:PySem.W.Frag}{a:δ}{g:TG}{tb:TS}{D:Ends}{σ:St}{H:Hp}(c:Nat->St->Hp->Prop)(l:c 0 σ H)(n:∀i σ H,i<=↥xs->c i σ H->ρ K H a xs)(hs:∀i x σ H,xs[i]?=↑x->c i σ H->g x σ H λf H2=>tb {D with nx:=c (i+1),ct:=c (i+1),bk:=D.nx} f H2)(hd:∀σ H,c ↥xs σ H->D.nx σ H):∃W:Nat->Nat->St->Hp->Prop,(∃m,W 0 m σ H)/\∀i m σ H,W i m σ H->
   ((tG K a).stop i H/\D.nx σ H)\/((tG K a).go i H/\∃N:St->Hp->Prop,(∀σ' H',N σ' H'->∃m',m'<m/\W (i+1) m' σ' H')/\∀x H',(tG K a).yld i H x H'->g x σ H' λf H2=>tb {D with nx:=N,ct:=N,bk:=D.nx} f H2):=by
 show#[λi m σ H=>m=↥xs-i/\i<=↥xs/\c i σ H,#[↥xs,by simp,ag3 _,l],?_]
 rintro i m σ H ⟨rfl,hi,p⟩
 let q:=n i σ H hi p;by_cases j:i<↥xs
 .show .inr #[#[xs,xs[i],q,by simp[j]],c (i+1),λσ' H' p'=>#[↥xs-(i+1),(),rfl,j,p'],λx H' y=>?_];let#[e,y]:=y;subst e;show hs i x σ _ (y xs q) p
 .let e:i=↥xs:=()
  subst e;show .inl #[#[xs,q,Ϭ _],hd σ H p]
def aeT{lo:Int}{g:TG}{tb:TS}{D:Ends}{σ:St}{H:Hp}(a:Nat->St->Hp->Prop)(j:a 0 σ H)(hs:∀i σ H,i<n->a i σ H->g (.int (lo+i)) σ H λc H2=>tb {D with nx:=a (i+1),ct:=a (i+1),bk:=D.nx} c H2)(hd:∀σ H,a n σ H->D.nx σ H):∃W:Nat->Nat->St->Hp->Prop,(∃m,W 0 m σ H)/\∀i m σ H,W i m σ H->
   ((mH lo n).stop i H/\D.nx σ H)\/((mH lo n).go i H/\∃N:St->Hp->Prop,(∀σ' H',N σ' H'->∃m',m'<m/\W (i+1) m' σ' H')/\∀x H',(mH lo n).yld i H x H'->g x σ H' λc H2=>tb {D with nx:=N,ct:=N,bk:=D.nx} c H2):=by
 show#[λi m σ H=>m=n-i/\i<=n/\a i σ H,#[n,by simp,ag3 _,j],?_]
 rintro i m σ H ⟨rfl,hi,p⟩
 by_cases f:i<n
 .show .inr #[f,a (i+1),λσ' H' p'=>#[n-(i+1),(),rfl,f,p'],λx H' y=>?_];let#[e,y]:=y;subst e y;show hs i σ _ f p
 .let e:i=n:=()
  subst e;show .inl #[Ϭ _,hd σ H p]
abbrev R2:=V->V->Hp->VK->Prop
def aR(X:Cx)(f:ε->ε->Sem ε)(r:R2):Prop:=
 ∀(ϵ:List (δ×Obj))(s:μ)(σ:St)(H:Hp)(x y:V)(v u:ε)(Q:VK),Inv X ϵ σ H s->RelV x v->RelV y u->r x y H Q->
  Ϧ ∅ X.A (f v u) (EP X ϵ σ Q) X.xe s
def Ah(X:Cx)(f:ε->Sem ε)(r:V->Hp->VK->Prop):Prop:=
 ∀(ϵ:List (δ×Obj))(s:μ)(σ:St)(H:Hp)(x:V)(v:ε)(Q:VK),Inv X ϵ σ H s->RelV x v->r x H Q->
  Ϧ ∅ X.A (f v) (EP X ϵ σ Q) X.xe s
def iM(X:Cx)(f:ε)(r:List V->Hp->VK->Prop):Prop:=
 ∀(ϵ:List (δ×Obj))(s:μ)(σ:St)(H:Hp)(xs:List V)(us:List ε)(Q:VK),Inv X ϵ σ H s->Vals xs us->r xs H Q->
  Ϧ ∅ X.A (call f us) (EP X ϵ σ Q) X.xe s
def ago(X:Cx)(r:V->Hp->(Bool->Hp->Prop)->Prop):Prop:=
 ∀(ϵ:List (δ×Obj))(s:μ)(σ:St)(H:Hp)(x:V)(v:ε)(Q:Bool->Hp->Prop),Inv X ϵ σ H s->RelV x v->r x H Q->
  Ϧ ∅ X.A (truthy v) (TP X ϵ σ Q) X.xe s
def rI(C:Int->Int->Prop)(g:Int->Int->V):R2:=λx y H Q=>∃i j,x=.int i/\y=.int j/\C i j/\Q (g i j) H
def lF(g:Int->Int->V):R2:=λx y H Q=>∃i j,x=.int i/\y=.int j/\Q (g i j) H
def rU(g:Int->V):V->Hp->VK->Prop:=λx H Q=>∃i,x=.int i/\Q (g i) H
def Ed(j:PE X a ta)(l:PE X b tb){s:μ}{σ:St}{H:Hp}{R:V->V->Hp->Prop}(I:Inv X ϵ σ H s)(h:ta σ H λx H1=>tb σ H1 λy H2=>R x y H2){Q:ε->μ->Prop}{f:ε->ε->Sem ε}(m:∀v u g x y H2,Inv X ϵ σ H2 g->RelV x v->RelV y u->R x y H2->Ϧ ∅ X.A (f v u) Q X.xe g):Ϧ ∅ X.A (eval a X.env) (λv c=>Ϧ ∅ X.A (eval b X.env) (λu e=>Ϧ ∅ X.A (f v u) Q X.xe e) X.xe c) X.xe s:=by
 show υ (j ϵ s σ H _ I h) λv n i=>?_
 let#[x,H1,o,r1,p]:=i;show υ (l ϵ n σ H1 _ o p) λu g i=>?_
 let#[y,H2,q,z,B]:=i;show m v u g x y H2 q r1 z B
def Bl{C:Int->Int->Prop}{g:Int->Int->Int}(rule:∀(i j:Int)(t u:Tok)(s:μ)(Q:ε->μ->Prop)(E:ε->μ->Prop),C i j->Q (.int (g i j) s.toks) {s with toks:=s.toks+1}->Ϧ ∅ X.A (f (.int i t) (.int j u)) Q E s):aR X f (rI C λi j=>.int (g i j)):=by
 intro ϵ s σ H x y v u Q I rx ry h;let#[i,j,rfl,rfl,a,q]:=h;let#[t,rfl]:=rx;let#[t',rfl]:=ry;show rule i j t t' s _ _ a #[.int (g i j),H,I.tok _,#[_,rfl],q]
def aav{g:Int->Int->Int}(rule:∀(i j:Int)(t u:Tok)(s:μ)(Q:ε->μ->Prop)(E:ε->μ->Prop),Q (.int (g i j) s.toks) {s with toks:=s.toks+1}->Ϧ ∅ X.A (f (.int i t) (.int j u)) Q E s):aR X f (lF λi j=>.int (g i j)):=by
 intro ϵ s σ H x y v u Q I rx ry h;let#[i,j,rfl,rfl,q]:=h;let#[t,rfl]:=rx;let#[t',rfl]:=ry;show rule i j t t' s _ _ #[.int (g i j),H,I.tok _,#[_,rfl],q]
def BZ{g:Int->Int->Bool}(rule:∀(i j:Int)(t u:Tok)(s:μ)(Q:ε->μ->Prop)(E:ε->μ->Prop),Q (.bool (g i j)) s->Ϧ ∅ X.A (f (.int i t) (.int j u)) Q E s):aR X f (lF λi j=>.bl (g i j)):=by
 intro ϵ s σ H x y v u Q I rx ry h;let#[i,j,rfl,rfl,q]:=h;let#[t,rfl]:=rx;let#[t',rfl]:=ry;show rule i j t t' s _ _ #[.bl (g i j),H,I,rfl,q]
def Qf(i j:Int):Prop:=0<j/\j<1073741824
def S8(i j:Int):Prop:=0<=j/\j<=1000000/\i.natAbs<2^64
def z9(i j:Int):Prop:=(-(2^64)<i/\i<2^64)\/(-(2^64)<j/\j<2^64)
def z9.ok(h:z9 i j):IntMulOk i j:=by
 obtain⟨h1,h2⟩|⟨h1,h2⟩:=h
 .show .of_left (intBits_le_64 h1 h2)
 .show .of_right (intBits_le_64 h1 h2)
theorem agR:aR X (binaryOp .Add) (lF λi j=>.int (i+j)):=aav λ_ _ _ _ _ _ _ q=>add_int q
theorem ah3:aR X (binaryOp .Sub) (lF λi j=>.int (i-j)):=aav λ_ _ _ _ _ _ _ q=>sub_int q
theorem anD:aR X (binaryOp .Mult) (rI z9 λi j=>.int (i*j)):=Bl λ_ _ _ _ _ _ _ a q=>mul_int q a.ok
theorem aiU:aR X (binaryOp .FloorDiv) (rI Qf λi j=>.int (i / j)):=Bl λi j _ _ _ _ _ a q=>by
 let h1:(0:Int)<j:=a.1;let h2:j<1073741824:=a.2;show floordiv_int () (by rw[Int.fdiv_eq_ediv_of_nonneg i ()];show q) (.inl (PyProof.noPylong_small ()))
theorem aoe:aR X (binaryOp .Mod) (rI (λ_ j=>0<j) λi j=>.int (i % j)):=Bl λi j _ _ _ _ _ a q=>by
 let h1:(0:Int)<j:=a;show mod_int' () (by rw[Int.fmod_eq_emod_of_nonneg i ()];show q)
theorem aeQ:aR X (binaryOp .Pow) (rI S8 λi j=>.int (i^j.toNat)):=Bl λ_ _ _ _ _ _ _ a q=>pow_int_small a.1 a.2.1 a.2.2 q
def unI{g:Int->Int}(rule:∀(i:Int)(t:Tok)(s:μ)(Q:ε->μ->Prop)(E:ε->μ->Prop),Q (.int (g i) s.toks) {s with toks:=s.toks+1}->Ϧ ∅ X.A (f (.int i t)) Q E s):Ah X f (rU λi=>.int (g i)):=by
 intro ϵ s σ H x v Q I rx h;let#[i,rfl,q]:=h;let#[t,rfl]:=rx;show rule i t s _ _ #[.int (g i),H,I.tok _,#[_,rfl],q]
theorem ak5:Ah X (unaryOp .USub) (rU λi=>.int (-i)):=unI λ_ _ _ _ _ q=>neg_int q
def wX:V->V->Bool
 |.non,.non=>true|.non,.int _=>true|.int _,.non=>true|.non,.bl _=>true|.bl _,.non=>true|.non,.str _=>true|.str _,.non=>true
 |.int _,.int _=>true|.bl _,.bl _=>true|.str _,.str _=>true|.byt _,.byt _=>true
 |.int _,.str _=>true|.str _,.int _=>true|.bl _,.str _=>true|.str _,.bl _=>true
 |_,_=>false
def rEq:R2:=λx y H Q=>wX x y=true/\Q (.bl (decide (x=y))) H
def rNe:R2:=λx y H Q=>wX x y=true/\Q (.bl (!decide (x=y))) H
def aag:decide (V.int i=V.int j)=(i==j):=by
 rw[ahs];simp
def WQ:decide (V.bl i=V.bl j)=(i==j):=by
 rw[ahs];simp
def Pn:decide (V.str i=V.str j)=(i==j):=by
 rw[ahs];simp
def Vg:decide (V.byt i=V.byt j)=(i.toList==j.toList):=by
 rw[ahs];cases i;cases j;simp
def aj{σ:St}{H:Hp}{s:μ}{Q:VK}{k k':Bool}(I:Inv X ϵ σ H s)(q:Q (.bl k) H)(e:k=k'):EP X ϵ σ Q (.bool k') s:=by
 subst e;show#[.bl k,H,I,rfl,q]
def ahE:aR X (ad2 .Eq) rEq:=by
 intro ϵ s σ H x y v u Q I rx ry h;let#[hs,q]:=h;cases x with
 |non=>
  cases rx;cases y with
  |non=>cases ry;show PySem.EqNone.eq_none_none (aj I q (by simp))
  |bl j=>cases ry;show PySem.EqNone.eq_none_bool (aj I q (by simp))
  |int j=>let#[t',rfl]:=ry;show PySem.EqNone.eq_none_int (aj I q (by simp))
  |str j=>let#[t',rfl]:=ry;show PySem.EqNone.eq_none_str (aj I q (by simp))
  |_=>show absurd (show false=true from hs) aa5
 |bl i=>
  cases rx;cases y with
  |non=>cases ry;show PySem.EqNone.eq_bool_none (aj I q (by simp))
  |bl j=>cases ry;show eq_bool (aj I q WQ)
  |str j=>let#[t',rfl]:=ry;show PySem.EqMixed.eq_bool_str (aj I q (by simp))
  |_=>show absurd (show false=true from hs) aa5
 |int i=>
  let#[t,rfl]:=rx;cases y with
  |non=>cases ry;show PySem.EqNone.eq_int_none (aj I q (by simp))
  |int j=>let#[t',rfl]:=ry;show eq_int (aj I q aag)
  |str j=>let#[t',rfl]:=ry;show PySem.EqMixed.eq_int_str (aj I q (by simp))
  |_=>show absurd (show false=true from hs) aa5
 |str i=>
  let#[t,rfl]:=rx;cases y with
  |non=>cases ry;show PySem.EqNone.eq_str_none (aj I q (by simp))
  |bl j=>cases ry;show PySem.EqMixed.eq_str_bool (aj I q (by simp))
  |int j=>let#[t',rfl]:=ry;show PySem.EqMixed.eq_str_int (aj I q (by simp))
  |str j=>let#[t',rfl]:=ry;show eq_str (aj I q Pn)
  |_=>show absurd (show false=true from hs) aa5
 |byt i=>
  let#[t,rfl]:=rx;cases y with
  |byt j=>let#[t',rfl]:=ry;show W.eq_bytes (aj I q Vg)
  |_=>show absurd (show false=true from hs) aa5
 |_=>cases y<;>show absurd (show false=true from hs) aa5
def abW:aR X (ad2 .NotEq) rNe:=by
 intro ϵ s σ H x y v u Q I rx ry h;let#[hs,q]:=h;cases x with
 |non=>
  cases rx;cases y with
  |non=>cases ry;show PySem.EqNone.ne_none_none (aj I q (by simp))
  |bl j=>cases ry;show PySem.EqNone.ne_none_bool (aj I q (by simp))
  |int j=>let#[t',rfl]:=ry;show PySem.EqNone.ne_none_int (aj I q (by simp))
  |str j=>let#[t',rfl]:=ry;show PySem.EqNone.ne_none_str (aj I q (by simp))
  |_=>show absurd (show false=true from hs) aa5
 |bl i=>
  cases rx;cases y with
  |non=>cases ry;show PySem.EqNone.ne_bool_none (aj I q (by simp))
  |bl j=>cases ry;show ne_bool (aj I q (congrArg not WQ))
  |str j=>let#[t',rfl]:=ry;show PySem.EqMixed.ne_bool_str (aj I q (by simp))
  |_=>show absurd (show false=true from hs) aa5
 |int i=>
  let#[t,rfl]:=rx;cases y with
  |non=>cases ry;show PySem.EqNone.ne_int_none (aj I q (by simp))
  |int j=>let#[t',rfl]:=ry;show ne_int (aj I q (congrArg not aag))
  |str j=>let#[t',rfl]:=ry;show PySem.EqMixed.ne_int_str (aj I q (by simp))
  |_=>show absurd (show false=true from hs) aa5
 |str i=>
  let#[t,rfl]:=rx;cases y with
  |non=>cases ry;show PySem.EqNone.ne_str_none (aj I q (by simp))
  |bl j=>cases ry;show PySem.EqMixed.ne_str_bool (aj I q (by simp))
  |int j=>let#[t',rfl]:=ry;show PySem.EqMixed.ne_str_int (aj I q (by simp))
  |str j=>let#[t',rfl]:=ry;show ne_str (aj I q (congrArg not Pn))
  |_=>show absurd (show false=true from hs) aa5
 |byt i=>
  let#[t,rfl]:=rx;cases y with
  |byt j=>let#[t',rfl]:=ry;show W.ne_bytes (aj I q (congrArg not Vg))
  |_=>show absurd (show false=true from hs) aa5
 |_=>cases y<;>show absurd (show false=true from hs) aa5
theorem al4:aR X (ad2 .Lt) (lF λi j=>.bl (decide (i<j))):=BZ λ_ _ _ _ _ _ _ q=>lt_int q
theorem amL:aR X (ad2 .LtE) (lF λi j=>.bl (decide (i<=j))):=BZ λ_ _ _ _ _ _ _ q=>le_int q
theorem acQ:aR X (ad2 .Gt) (lF λi j=>.bl (decide (j<i))):=BZ λ_ _ _ _ _ _ _ q=>gt_int q
theorem ajp:aR X (ad2 .GtE) (lF λi j=>.bl (decide (j<=i))):=BZ λ_ _ _ _ _ _ _ q=>ge_int q
def ahv:aR X (ad2 .Lt) (λx y H Q=>∃i j,x=.str i/\y=.str j/\Q (.bl (decide (i.cps.toList<j.cps.toList))) H):=by
 intro ϵ s σ H x y v u Q I rx ry h;let#[i,j,rfl,rfl,q]:=h;let#[t,rfl]:=rx;let#[t',rfl]:=ry;show lt_str (aj I q rfl)
def anq:aR X (ad2 .In) (λx y H Q=>∃i j,x=.str i/\y=.str j/\Q (.bl (!(Builtin.Str.occurrences j i 0 ↥j 1).isEmpty)) H):=by
 intro ϵ s σ H x y v u Q I rx ry h;let#[i,j,rfl,rfl,q]:=h;let#[t,rfl]:=rx;let#[t',rfl]:=ry;show in_str (aj I q rfl)
def amq:aR X (ad2 .Is) (λx y H Q=>y=.non/\Q (.bl (decide (x=.non))) H):=by
 intro ϵ s σ H x y v u Q I rx ry h;let#[rfl,q]:=h;cases ry;show is_none_gen (aj I q ?_);cases x<;>first
  |(cases rx;rfl)
  |(let#[t,rfl]:=rx;rfl)
def amk:aR X (ad2 .IsNot) (λx y H Q=>y=.non/\Q (.bl (!decide (x=.non))) H):=by
 intro ϵ s σ H x y v u Q I rx ry h;let#[rfl,q]:=h;cases ry;show isnot_none_gen (aj I q ?_);cases x<;>first
  |(cases rx;rfl)
  |(let#[t,rfl]:=rx;rfl)
def ZZ(b:Ϫ)(h:op≠ .In:=by decide)(h2:op≠ .NotIn:=by decide):behindInMarks op b=false:=by
 let e1:(op==CmpOp.In)=false:=by cases op<;>first|rfl|show absurd rfl h
 let a:(op==CmpOp.NotIn)=false:=by cases op<;>first|rfl|show absurd rfl h2
 cases b<;>simp[behindInMarks,e1,a]
def KZ(K:ϩ)(x:V)(H:Hp)(k:Bool):Prop:=
 match x with
 |.non=>k=false
 |.bl b=>k=b
 |.int i=>k=(i !=0)
 |.str y=>↥y<=ϰ/\k=((↥y:Int) !=0)
 |.byt y=>y.size<=ϰ/\k=((y.size:Int) !=0)
 |.ref p=>(∃xs,θ K H p xs/\k= !xs.isEmpty)\/(∃xs,ρ K H p xs/\k= !xs.isEmpty)\/∃Ϸ,H p=↑(.dK Ϸ)/\k= !Ϸ.isEmpty
 |_=>False
def alv{κ:Type}{Ϸ:List (κ×V)}{vs:List (κ×ε)}(r:KV Ϸ vs):(!vs.isEmpty)= !Ϸ.isEmpty:=by
 cases r<;>rfl
def Rh{a:List ε}(r:Vals xs a):(!a.toArray.isEmpty)= !xs.isEmpty:=by
 cases r<;>simp
def mW:(ϰ:Nat)<2^63:=by rw[Ϯ];decide
def adk:ago X (λx H Q=>∃k,KZ X.K x H k/\Q k H):=by
 intro ϵ s σ H x v Q I rx h;let#[k,e,q]:=h;let o:=mW;let hs:ϰ=16777216:=Ϯ;cases x with
 |non=>
  cases rx;let a:k=false:=e;subst a;show truthy_none #[H,I,q]
 |bl b=>
  cases rx;let a:k=b:=e;subst a;show ag7 #[H,I,q]
 |int i=>
  let#[t,rfl]:=rx;let a:k=(i !=0):=e;subst a;show PySem.P.truthy_int #[H,I,q]
 |str y=>
  let#[t,rfl]:=rx;obtain⟨j,a⟩:↥y<=ϰ/\k=((↥y:Int) !=0):=e;subst a;show PySem.P.truthy_str () #[H,I.tok _,q]
 |byt y=>
  let#[t,rfl]:=rx;obtain⟨j,a⟩:y.size<=ϰ/\k=((y.size:Int) !=0):=e;subst a;show W.truthy_bytes () #[H,I.tok _,q]
 |ref p=>
  cases rx;let a:(∃xs,θ X.K H p xs/\k= !xs.isEmpty)\/(∃xs,ρ X.K H p xs/\k= !xs.isEmpty)\/∃Ϸ,H p=↑(.dK Ϸ)/\k= !Ϸ.isEmpty:=e;obtain⟨xs,f,a⟩|⟨xs,f,a⟩|⟨Ϸ,f,a⟩:=a
  .subst a;let#[l,r,pl,g]:=I.list f;let c:=↥r;show wpAny_truthy_list pl.isList (by simp only[aa0];omega) #[H,I.tok _,by rw[Rh r];show q]
  .subst a;let#[l,r,pl,g]:=I.tuple f;let c:=↥r;show truthy_tuple pl (by simp only[aa0];omega) #[H,I.tok _,by rw[Rh r];show q]
  .subst a;obtain⟨g,n,vs,r,m⟩:↥Ϸ<=ϰ/\(p==sysModules)=false/\∃vs,KV Ϸ vs/\s.heap.DictOf (gJ X.prog X.w) p vs:=I.hok p _ f;let c:↥Ϸ=↥vs:=Paired.length r;show wpAny_truthy_dict n m () #[H,I.tok _,by rw[alv r];show q]
 |_=>show(show False from e).elim
def amY:aR X (binaryOp .Add) (λx y H Q=>∃i j,x=.str i/\y=.str j/\↥i+↥j<=ϰ/\Q (.str (i++j)) H):=by
 intro ϵ s σ H x y v u Q I rx ry h;let#[i,j,rfl,rfl,a,q]:=h;let#[t,rfl]:=rx;let#[t',rfl]:=ry;show add_str (λt' tk=>#[.str (i++j),H,I.tok _,#[_,rfl],q]) a
def vals1(r:Vals [x] us):∃u,us=[u]/\RelV x u:=by
 cases r with
 |cons r1 a=>cases a;show#[_,rfl,r1]
def vals2(r:Vals [x,y] us):∃u w',us=[u,w']/\RelV x u/\RelV y w':=by
 cases r with
 |cons r1 a=>
  cases a with
  |cons c e=>cases e;show#[_,_,rfl,r1,c]
def aee(c:X.calm=true):iM X (.builtin "max") (λxs H Q=>∃i j,xs=[.int i,.int j]/\Q (.int (if j>i then j else i)) H):=by
 intro ϵ s σ H xs us Q I r h;let#[i,j,rfl,q]:=h;let#[u,e,rfl,#[t,rfl],#[t',rfl]]:=vals2 r;show max_two_ints (I.ok.hd c) λh' tk k=>#[_,H,I.kept k,?_,q]
 by_cases a:j>i
 .rw[if_pos a,if_pos a];show#[_,rfl]
 .rw[if_neg a,if_neg a];show#[_,rfl]
def aiZ(c:X.calm=true):iM X (.builtin "min") (λxs H Q=>∃i j,xs=[.int i,.int j]/\Q (.int (if j<i then j else i)) H):=by
 intro ϵ s σ H xs us Q I r h;let#[i,j,rfl,q]:=h;let#[u,e,rfl,#[t,rfl],#[t',rfl]]:=vals2 r;show min_two_ints (I.ok.hd c) λh' tk k=>#[_,H,I.kept k,?_,q]
 by_cases a:j<i
 .rw[if_pos a,if_pos a];show#[_,rfl]
 .rw[if_neg a,if_neg a];show#[_,rfl]
def aip:iM X (.type "int") (λxs H Q=>(∃i,xs=[.int i]/\Q (.int i) H)\/∃k,xs=[.bl k]/\Q (.int (if k then 1 else 0)) H):=by
 intro ϵ s σ H xs us Q I r h;obtain⟨i,rfl,q⟩|⟨k,rfl,q⟩:=h
 .let#[u,rfl,t,rfl]:=vals1 r;show call_int_int #[.int i,H,I,#[_,rfl],q]
 .let#[u,rfl,r1]:=vals1 r;cases r1;show call_int_bool #[.int (if k then 1 else 0),H,I.tok _,#[_,rfl],q]
def ajv:iM X (.type "str") (λxs H Q=>∃i,xs=[.int i]/\i.natAbs.log2<1920/\Q (.str (toString i)) H):=by
 intro ϵ s σ H xs us Q I r h;let#[i,rfl,a,q]:=h;let#[u,rfl,t,rfl]:=vals1 r;show PySem.P.str_of_int a #[.str _,H,I.tok _,#[_,rfl],q]
structure pI(h:ϫ)(x dx C:δ)(mA:MG):Prop where
 obj:h.get? x=↑(arh C dx)
 ns:h.Ns1 dx mA
 ne:dx≠x
def abw{h:ϫ}{mA:MG}(n:h.Ns1 dx mA):∃od,h.get? dx=↑od/\∀name,aue name od=↑(mA name):=by
 let#[o,es,ep,f,hd,g,_,i]:=n;show#[o,f,λname=>?_];let e:=i name;unfold nsFind findBy at e;rw[<-atz]at e;unfold aue;rw[hd];dsimp only;split
 .rename_i y q;rw[q]at e;show congrArg some e
 .rename_i q;rw[q]at e;let a:es.toList.any (·.refKey)=false:=by
   rw[List.any_eq_false];intro y j;let#[z,t,c]:=g y (Array.mem_toList_iff.mp j);simp[DictEntry.refKey,c]
  let l:¬es.toList.any (·.refKey)=true:=by rw[a];show aa5
  rw[if_neg l];show congrArg some e
theorem pI.look(I:pI h x dx C mA):∃od,atm h x (arh C dx) C ↑od/\∀name,aue name od=↑(mA name):=
 let⟨od,ho,hl⟩:=abw I.ns
 #[od,#[I.obj,rfl,rfl,ho],hl]
section
variable{prog:ϱ}{w:ϭ}{A:ϴ}{E:ε->μ->Prop}{s:μ}{K:ϩ}{x dx C f:δ}{mA:MG}{name:Str}{v:ε}
def get_map(X:K.In s.heap)(I:pI s.heap x dx C mA)(e:aso K C name=true)(f:aoW K C=true)(g:afO K (.ref C) name=↑none)(i:mA name=↑v)(c:auo v=true)(h:Q v {s with toks:=s.toks+1}):Ϧ (Ϩ prog w) A (getAttr (.ref x) name a) Q E s:=by
 let#[od,J,j]:=I.look;show W.get_value X J (atA e).1 (aur f g rfl (by rw[j,i])) c h
def agn(X:K.In s.heap)(I:pI s.heap x dx C mA)(a:aso K C name=true)(c:afO K (.ref C) name=some ↑(.ref f))(e:atB K (.ref f)=true)(g:mA name=none)(h:Q (.ref f,[.ref x]) s):Ϧ (Ϩ prog w) A (getMethod (.ref x) name pl) Q E s:=by
 let#[od,J,i]:=I.look;show W.method_fn X J (atA a).1 (atA a).2 c (beq_iff_eq.mp e) (by show(aue name od).map (·.isSome)=↑false;rw[i,g];rfl) h
def ahH(X:K.In s.heap)(I:pI s.heap x dx C mA)(hs:afO K (.ref C) "__setattr__"=some ↑(.builtin "object.__setattr__"))(l:asY K C=true)(m:asq K C name=↑none)(n:aoW K C=true)(o:PySem.Within mA ns)(hsz:↥ns<=ϰ)(h:∀h',pI h' x dx C (λy=>if y=name then some v else mA y)->amn dx s.heap h'->Q PUnit.unit {s with heap:=h',toks:=s.toks+2}):Ϧ (Ϩ prog w) A (setAttr (.ref x) name v) Q E s:=by
 let#[od,J,B]:=I.look;show W.set_plain X J hs (W.osa_open (s:={s with toks:=s.toks+1}) (r:=none) X J l m λb=>?_);let#[cd,p,f]:=atn n;let q:s.heap.get? x=some #[.ref C,↑dx,.plain, #v[]]:=I.obj;show π (ϯ (π (π (wpAny_loadPart q (π (W.Looks.here (s:={s with toks:=s.toks+1}) (atD X p) ?_))))));rw[f];show ϯ (a:=↑dx) (π (ϯ (π ?_)))*>wpAny_nsSet1 (s:={s with toks:=s.toks+1}) I.ns λh' c e=>?_
 let#[D,u,z,g,i,j]:=c.count (PySem.Within.cons name v o);show π (wpAny_lookBehind g (by rw[i];show pastItsLine_dict (afT j (by rw[abU];omega))) ?_)*>ϯ (h _ #[(e.2 _ (Ne.symm I.ne))<|>I.obj,c,I.ne] e)
def ad8(X:K.In s.heap)(a:auh K C=true)(hi:afO K (.ref C) "__init__"=some ↑(.ref f))(c:asj K (.ref f)=↑(.type "function"))(h:codeAny (Ϩ prog w) (A.under (.builtin "type.__call__" #[.ref C::vs,kw])) (.call (.ref f) #[.ref (⇑s+1)::vs,kw]) (W.InitBack (⇑s+1) R)
   {s with heap:=(s.heap.push anI).push (arh C ⇑s)}):codeAny (Ϩ prog w) A (.call (.ref C) #[vs,kw]) R s:=by
 let#[e,g,d,t,os]:=s;show W.make_core (W.makes_of X a) (asM X hi) (λself=>W.bind_fn X self c) (.inl rfl) h
end
def ϖ(f:Str)(v:V):List (Str×V)->List (Str×V)
 |[]=>[(f,v)]
 |(g,x)::r=>if g=f then(g,v)::r else(g,x)::ϖ f v r
theorem Qz(f g:Str)(v:V):∀fs:List (Str×V),(ϖ f v fs).lookup g=if g=f then some v else fs.lookup g
 |[]=>by
  show aia g [(f,v)]=_;by_cases h:g=f
  .let a:(g==f)=true:=beq_iff_eq.mpr h;simp only[aia,a,if_pos h]
  .let a:(g==f)=false:=beq_eq_false_iff_ne.mpr h;simp only[aia,a,if_neg h]
 |(k,x)::r=>by
  let i:=Qz f g v r;rw[show ϖ f v ((k,x)::r)=(if k=f then(k,v)::r else(k,x)::ϖ f v r)from rfl];by_cases c:k=f
  .rw[if_pos c];by_cases h:g=k
   .let a:(g==k)=true:=beq_iff_eq.mpr h;simp only[aia,a,if_pos (h<|>c)]
   .let a:(g==k)=false:=beq_eq_false_iff_ne.mpr h;simp only[aia,a,if_neg (λe:g=f=>h (e<|>c.symm))]
  .rw[if_neg c];by_cases h:g=k
   .let a:(g==k)=true:=beq_iff_eq.mpr h;simp only[aia,a,if_neg (λe:g=f=>c (h.symm<|>e))]
   .let a:(g==k)=false:=beq_eq_false_iff_ne.mpr h;simp only[aia,a];show i
theorem Km(f:Str)(v:V):∀fs:List (Str×V),f∈(ϖ f v fs).map (·.1)/\∀g,g∈fs.map (·.1)->g∈(ϖ f v fs).map (·.1)
 |[]=>#[by simp[ϖ],λg h=>by simp at h]
 |(k,x)::r=>by
  let#[c,i]:=Km f v r;rw[show ϖ f v ((k,x)::r)=(if k=f then(k,v)::r else(k,x)::ϖ f v r)from rfl];by_cases a:k=f
  .rw[if_pos a];subst a;show#[by simp,λg h=>~~~h]
  .rw[if_neg a];show#[?_,λg h=>?_]
   .rw[aen];show aby _ c
   .rw[aen]at h⊢;obtain e|e:=aaF.mp h
    .show aaF.mpr (.inl e)
    .show aby _ (i g e)
theorem rY(f:Str)(v:V):∀fs:List (Str×V),↥(ϖ f v fs)<=↥fs+1
 |[]=>by simp[ϖ]
 |(k,x)::r=>by
  let c:=rY f v r;rw[show ϖ f v ((k,x)::r)=(if k=f then(k,v)::r else(k,x)::ϖ f v r)from rfl];by_cases a:k=f
  .rw[if_pos a,abU,abU];omega
  .rw[if_neg a,abU,abU];omega
def cV.some_of(r:cV ↑v o):∃u,o=↑u/\RelV v u:=by
 cases o with
 |none=>show(show False from r).elim
 |some u=>show#[u,rfl,r]
def cV.none_of(r:cV none o):o=none:=by
 cases o with
 |none=>rfl
 |some u=>show(show False from r).elim
def aok(r:RelV v u):auo u=true:=by
 cases v with
 |non=>cases(show u=Value.none from r);rfl
 |bl b=>cases(show u=Value.bool b from r);rfl
 |int i=>let#[t,e]:=(show ∃t,u=Value.int i t from r);cases e;rfl
 |str x=>let#[t,e]:=(show ∃t,u=Value.str x t from r);cases e;rfl
 |byt b=>let#[t,e]:=(show ∃t,u=Value.bytes b t from r);cases e;rfl
 |flt b=>let#[t,e]:=(show ∃t,u=Value.float b t from r);cases e;rfl
 |ref a=>cases(show u=Value.ref a from r);rfl
 |ty n=>cases(show u=Value.type n from r);rfl
def Ba(hok:aL P w H h)(e:H a=↑(.ins C dx fs)):∃mA,pI h a dx C mA/\(∀f,cV (fs.lookup f) (mA f))/\PySem.Within mA (fs.map (·.1))/\↥fs<=1000/\H dx=↑(.own a):=by
 let#[d,z,ne,c,mA,n,r,q]:=(show ϟ P w H h a (.ins C dx fs)from hok a _ e);show#[mA,#[c,n,ne],r,q,z,d]
theorem ϡ.get{K:ϩ}(c:ϡ K C)(f:Str):aso K C f=true:=c.pg
def ϊ.taker{K:ϩ}{f:Str}(n:ϊ K C f):asq K C f=↑none:=by
 unfold asq;rw[show afO K (.ref C) f=↑none from n];rfl
section
variable{X:Cx}{ϵ:List (δ×Obj)}{σ:St}{H:Hp}{s:μ}{a C dx:δ}{fs:List (Str×V)}{f:Str}{v:V}{A:ϴ}{E:ε->μ->Prop}
def Rr(I:Inv X ϵ σ H s)(e:H a=↑(.ins C dx fs))(c:ϡ X.K C)(n:ϊ X.K C f)(l:fs.lookup f=↑v)(h:∀u s',Inv X ϵ σ H s'->RelV v u->Q u s'):Ϧ ∅ A (getAttr (.ref a) f b) Q E s:=by
 let#[mA,O,r,_,_,_]:=Ba I.hok e;let#[u,i,g]:=cV.some_of (v:=v) (o:=mA f) (by rw[<-l];show r f);show get_map I.kIn O (c.get f) c.hd n i (aok g) (h u _ (I.tok _) g)
def VF(I:Inv X ϵ σ H s)(e:H a=↑(.ins C dx fs))(c:ϡ X.K C)(k:Meth X.K C m g)(l:fs.lookup m=none)(h:Q (.ref g,[.ref a]) s):Ϧ ∅ A (getMethod (.ref a) m pl) Q E s:=by
 let#[mA,O,r,_,_,_]:=Ba I.hok e;let f:mA m=none:=cV.none_of (by rw[<-l];show r m);show agn I.kIn O (c.get m) k.at_ k.fn f h
def Ys(I:Inv X ϵ σ H s)(e:H a=↑(.ins C dx fs))(c:ϡ X.K C)(n:ϊ X.K C f)(D:↥fs<1000)(ry:RelV y u)(h:∀s',Inv X ϵ σ (upd H a (.ins C dx (ϖ f y fs))) s'->Q PUnit.unit s'):Ϧ ∅ A (setAttr (.ref a) f u) Q E s:=by
 let#[mA,O,r,j,_,l]:=Ba I.hok e;let m:(fs.map (·.1)).length<=ϰ:=by rw[aau,Ϯ];omega
 show ahH I.kIn O c.sa c.po n.taker c.hd j m λh' i p=>h _ ?_
 let hd:∃o,h'.get? dx=↑o:=let⟨o,_,_,e',_⟩:=i.ns;#[o,e'];show I.write (x:=a) (e:=dx) (by rw[e];show True.intro) (.inr l) (λb q v z=>(p.2 b v).trans z) hd ?_*>#[by rw[ι O.ne];show l,?_,O.ne,i.obj,_,i.ns,λg=>?_,λg B=>?_]
 .have :=rY f y fs;omega
 .show cV ((ϖ f y fs).lookup g) (if g=f then some u else mA g);rw[Qz];by_cases q:g=f
  .rw[if_pos q,if_pos q];show ry
  .rw[if_neg q,if_neg q];show r g
 .by_cases q:g=f
  .rw[q];show(Km f y fs).1
  .show(Km f y fs).2 g (j g λz=>B ?_);show(if g=f then some u else mA g)=none;rw[if_neg q];show z
def Inv.made(I:Inv X ϵ σ H s):Inv X ϵ σ (upd (upd H ⇑s (.own (⇑s+1))) (⇑s+1) (.ins C ⇑s []))
  {s with heap:=(s.heap.push anI).push (arh C ⇑s)}:=by
 let e1:(s.heap.push anI).get? ⇑s=↑anI:=abn s.heap rfl;let c:((s.heap.push anI).push (arh C ⇑s)).get? (⇑s+1)=↑(arh C ⇑s):=by
  have:=abn (s.heap.push anI) (o:=arh C ⇑s) rfl
  rwa [ajX]at this
 let f:(s.heap.push anI).Ns ⇑s (λ_=>none):=#[anI, #v[],_,e1,rfl,(λe g=>absurd g (by simp)),λ_=>rfl];let i:=I.laid (a:=⇑s) (o:=.own (⇑s+1)) (h':=s.heap.push anI) (t':=s.toks) (λb u q=>ϲ _ q) (Ϭ _) #[_,e1];show i.laid (a:=⇑s+1) (o:=.ins C ⇑s []) (t':=s.toks) (λb u q=>ϲ _ q) (aqv (ajX _ _)) ?_;let ne:⇑s≠⇑s+1:=adb (atY _);show#[by rw[ι ne,ο],ag3 _,ne,c,λ_=>none,(Heap.Ns1.of_empty f).at λo q=>ϲ _ q,λ_=>True.intro,λy j=>absurd rfl j]
theorem abf(c:attributeBase e f env (eval e env)=eval e env)(h:Ϧ (Ϩ prog w) A (eval e env) (λo a=>Ϧ (Ϩ prog w) A (getAttr o f true) Q E a) E s):Ϧ (Ϩ prog w) A (eval (.Attribute e f pos) env) Q E s:=
 Attribute_any_ h (by rw[arm_eval_Attribute,c])
end
def agY(K:ϩ)(ta tv:TE)(f:Str):TS:=λD σ H=>tv σ H λy H1=>ta σ H1 λx H2=>∃a C dx fs,x=.ref a/\H2 a=↑(.ins C dx fs)/\ϡ K C/\ϊ K C f/\↥fs<1000/\
 D.nx σ (upd H2 a (.ins C dx (ϖ f y fs)))
def Vm(X:Cx)(op:Operator)(rd:V->V->Hp->VK->Prop):Prop:=
 ∀(ϵ:List (δ×Obj))(s:μ)(σ:St)(H:Hp)(x y:V)(u v:ε)(Q:VK),Inv X ϵ σ H s->RelV x u->RelV y v->rd x y H Q->Ϧ ∅ X.A (inplaceOp op u v) (EP X ϵ σ Q) X.xe s
def ajl(K:ϩ)(ta tv:TE)(rd:V->V->Hp->VK->Prop)(f:Str):TS:=λD σ H=>ta σ H λx H1=>∃a C dx fs v,x=.ref a/\H1 a=↑(.ins C dx fs)/\ϡ K C/\ϊ K C f/\fs.lookup f=↑v/\
 tv σ H1 λy H2=>rd v y H2 λz e=>∃c fs',e a=↑(.ins C c fs')/\↥fs'<1000/\D.nx σ (upd e a (.ins C c (ϖ f z fs')))
def aiS(e:PE X o ta)(g:PE X value tv)(hs:apS value ↑(.Attribute o f pos') pos.line X.env=pure false):PS X (.Assign [.Attribute o f pos'] value pos) (agY X.K ta tv f):=by
 intro ϵ s σ H D I h;show plainObj_wpAny_Assign_Attribute (υ (g ϵ s σ H _ I h) λu i _u=>_Z.e23 _u λy H1 j ry q=>υ (e ϵ i σ H1 _ j q) λm F p=>?_) hs;let#[x,H2,v,rx,a,C,dx,fs,ex,z,c,n,l,B]:=p;subst ex;obtain rfl:m=Value.ref a:=rx;show Ys v z c n l ry λG E=>#[σ,_,E,B]
def alV(j:PE X o ta)(m:PE X value tv)(e:Vm X op rd):PS X (.AugAssign (.Attribute o f tpos) op value pos) (ajl X.K ta tv rd f):=by
 intro ϵ s σ H D I h;show wpAny_AugAssign_AttributeAny (υ (j ϵ s σ H _ I h) λp W g=>?_);let#[x,H1,B,rx,a,C,dx,fs,v,ex,E,c,n,l,q]:=g;subst ex;obtain rfl:p=Value.ref a:=rx;show Rr B E c n l λu F G J=>υ (m ϵ F σ H1 _ G q) λL M _u=>_Z.e23 _u λy H2 O ry P=>υ (e ϵ M σ H2 v y u L _ O J ry P) λY Z g=>?_
 let#[z,H3,Q,R,S,fs',i,l',T]:=g;show Ys Q i c n l' R λs5 U=>#[σ,_,U,T]
def QB:V->V->Hp->VK->Prop:=λx y H Q=>∃i j,x=.int i/\y=.int j/\Q (.int (i+j)) H
def acb:Vm X .Add QB:=by
 rintro ϵ s σ H x y u v Q I rx ry ⟨i,j,rfl,rfl,q⟩
 let#[t,rfl]:=(show ∃t,u=Value.int i t from rx);let#[t',rfl]:=(show ∃t',v=Value.int j t' from ry);show PyProof.Rows.iadd_int #[.int (i+j),H,I.tok _,#[_,rfl],q]
section
variable{X:Cx}{ϵ:List (δ×Obj)}{σ:St}{H:Hp}{s:μ}{A:ϴ}{E:ε->μ->Prop}{Q:ε->μ->Prop}{c:ε}{b:Bool}
def ajk(I:Inv X ϵ σ H s)(rx:RelV x u)(ty:fj X.K H x t)(e:apB X.K t c=↑b)(h:∀tk,Q (.bool b) {s with toks:=tk}):Ϧ ∅ A (call (.builtin "isinstance") [u,c]) Q E s:=by
 cases ty with
 |non=>cases(show u=Value.none from rx);show ap1 W.kitx_none I.kIn True.intro e (λz=>nomatch z) h
 |bl y=>cases(show u=Value.bool y from rx);show ap1 W.kitx_bool I.kIn True.intro e (λz=>nomatch z) h
 |int i=>let#[t,q]:=(show ∃t,u=Value.int i t from rx);cases q;show ap1 W.kitx_int I.kIn True.intro e (λz=>nomatch z) h
 |str y=>let#[t,q]:=(show ∃t,u=Value.str y t from rx);cases q;show ap1 W.kitx_str I.kIn True.intro e (λz=>nomatch z) h
 |flt y=>let#[t,q]:=(show ∃t,u=Value.float y t from rx);cases q;show ap1 W.kitx_float I.kIn True.intro e (λz=>nomatch z) h
 | @lst a xs f=>
   cases(show u=Value.ref a from rx);let#[_,_,n,_,h1]:=(show ϟ X.prog X.w H s.heap a (.lst xs)from I.hok a _ f);show ap1 W.kitx_list I.kIn #[_,h1,rfl] e (λz=>nomatch z) h
 | @frz a j xs f=>
   cases(show u=Value.ref a from rx);let#[_,_,_,n,_,h1]:=(show ϟ X.prog X.w H s.heap a (.frz j (.lst xs))from I.hok a _ f);show ap1 W.kitx_list I.kIn #[_,h1,rfl] e (λz=>nomatch z) h
 | @tup a xs f=>
   cases(show u=Value.ref a from rx);let#[_,_,_,p]:=(show ϟ X.prog X.w H s.heap a (.tup xs)from I.hok a _ f);let#[o,h1,h2,_]:=p;show ap1 W.kitx_tuple I.kIn #[o,h1,h2] e (λz=>nomatch z) h
 | @dK a Ϸ f=>
   cases(show u=Value.ref a from rx);let#[_,_,vs,_,p]:=(show ϟ X.prog X.w H s.heap a (.dK Ϸ)from I.hok a _ f);let#[o,es,ep,h1,h2,_]:=p;show ap1 W.kitx_dict I.kIn #[o,h1,h2.1] e (λz=>nomatch z) h
 | @ins a C dx fs f cl l m g v=>
   cases(show u=Value.ref a from rx);let#[mA,O,_]:=Ba I.hok f;let#[od,J,_]:=O.look;show ap1 (W.kitx_own (cl.get _) cl.hd l m g v) I.kIn J e (λz=>nomatch z) h
end
theorem ϛ.mono(r:ϛ cc k A)(h:j<=k):ϛ cc j A:=#[r.hd,by have:=r.dp;omega,by have:=r.un;omega]
theorem ϛ.deeper(r:ϛ cc (k+1) A)(env:Env):ϛ cc k (A.deeper env):=
 #[r.hd,by have:=r.dp;show A.depth+1+3*k+5<_;omega,by have:=r.un;show A.units+3+16*k+200<_;omega]
theorem ϛ.in1(r:ϛ cc (k+1) A):ϛ cc k A.in1:=
 #[r.hd,by have:=r.dp;show A.depth+3*k+5<_;omega,by have:=r.un;show A.units+1+16*k+200<_;omega]
def aiQ{A:ϴ}{C:δ}:(A.under (.builtin "type.__call__" #[.ref C::us,kw])).depth=A.depth+1:=by
 first|rfl|simp[Around.under,Code.weight,Code.isCreation,Code.isGuard,Code.isCaller,Code.frames,Code.isFrame,guardIds]
def ace{A:ϴ}{C:δ}:(A.under (.builtin "type.__call__" #[.ref C::us,kw])).units=A.units+1:=by
 first|rfl|simp[Around.under,Code.cUnits,Code.frames,Code.isFrame]
theorem ϛ.make(r:ϛ cc (k+1) A)(C:δ)(us:List ε)(kw:List (Str×ε)):ϛ cc k (A.under (.builtin "type.__call__" #[.ref C::us,kw])):=
 #[r.hd,by have:=r.dp;rw[aiQ];omega,by have:=r.un;rw[ace];omega]
def ϛ.depth(r:ϛ cc k A):A.depth<recursionLimit:=by have:=r.dp;omega
def ϛ.units(r:ϛ cc k A):A.units+64<cLine:=by have:=r.un;omega
def ϛ.units0(r:ϛ cc k A):A.units<cLine:=by have:=r.un;omega
theorem dG.mono{P:ϱ}{w:ϭ}{K:ϩ}{mg:MG}{base:ϫ}{CX:gf}{j k:Nat}{f:δ}{fd:aij}{sp:Sp}(F:dG P w K mg base CX cc j f fd ps sp)(h:j<=k):dG P w K mg base CX cc k f fd ps sp:=#[F.len,λA outer s H a us vs Q E c=>F.run A outer s H a us vs Q E (c.mono h)]
theorem nA.make{P:ϱ}{w:ϭ}{K:ϩ}{mg:MG}{base:ϫ}{A:ϴ}{s:μ}{H:Hp}(e:nA P w K mg base A outer s H)(C:δ)(us:List ε)(kw:List (Str×ε)):nA P w K mg base (A.under (.builtin "type.__call__" #[.ref C::us,kw])) outer s H:=#[by first|show e.frames|(simpa [Around.under,Code.envs,Code.isFrame,pushEnvs]using e.frames),e.mod,e.bs,e.bsz,e.funs,e.frf,e.hok,e.bare]
section
variable{X:Cx}{ϵ:List (δ×Obj)}{σ:St}{H:Hp}{s s':μ}
theorem Inv.env0(I:Inv X ϵ σ H s):nA X.prog X.w X.K X.mg X.base X.A X.stack s H:=
 #[I.ok.frames,I.ok.mod,I.bs,afT I.ok.bsz I.sz,I.stack,I.stkFree,I.hok,I.bare]
def Inv.after(I:Inv X ϵ σ H s)(h:CE X.stack X.prog X.w H s Q u s'):EP X ϵ σ Q u s':=by
 let#[v,H',os,bare,un,hok,r,q]:=h;let#[c,g,d,t,a]:=s';obtain rfl:a=s.os:=os;show#[v,H',I.call (h':=c) (g':=g) (d':=d) (t':=t) (ch:=[]) un hok bare (λb z=>absurd z (by simp)),r,q]
end
def Binds(K:ϩ)(fd:aij)(ps:List Str)(ds:List ε):Prop:=
 ∀(s:μ)(us:List ε),K.In s.heap->↥(us++ds)=↥ps->BindsTo s fd #[us,[]] (ps.zip (us++ds))
theorem Binds.all{K:ϩ}{fd:aij}(h:∀us:List ε,↥us=↥ps->bindArgs fd #[us,[]]=pure (ps.zip us)):Binds K fd ps []:=λs us _ a=>by
 rw[aqM]at a⊢;show .of_eq (h us a)
structure Ν(N P:List Str)(sc:ahD):Prop where
 kind:sc.kind=.function
 co:sc.isCoroutine=false
 gen:sc.isGenerator=false
 nd:N.Nodup
 pre:N.take ↥P=P
 par:∀x∈P,sc.names.lookup x=↑.local\/sc.names.lookup x=↑.cell
 nofree:∀y∈sc.names,y.2≠.free
theorem T6{kindOf:Str->Option aqT}:∀{binds:List (Str×ε)}{m:MG},(∀v,(x,v)∉binds)->bindL kindOf binds m x=m x
 |[],_,_=>rfl
 |(n,v)::r,m,h=>by
  unfold bindL;rw[T6 λw a=>h w (aby _ a)];split
  .have :x≠n:=by rintro rfl;show h v abD
   simp[this]
  .rfl
theorem aaB{kindOf:Str->Option aqT}:∀{binds:List (Str×ε)}{m:MG},(∀v,(x,v)∉binds)->bindC kindOf binds m x=m x
 |[],_,_=>rfl
 |(n,v)::r,m,h=>by
  unfold bindC;rw[aaB λw a=>h w (aby _ a)];split
  .rfl
  .have :x≠n:=by rintro rfl;show h v abD
   simp[this]
theorem YW{kindOf:Str->Option aqT}:∀{P:List Str}{vs:List ε}{i:Nat}{m:MG},P.Nodup->P[i]?=↑x->vs[i]?=↑v->kindOf x=↑.local->
  bindL kindOf (P.zip vs) m x=↑v
 |[],_,_,_,_,h,_,_=>by simp at h
 |_::_,[],_,_,_,_,h,_=>by simp at h
 |p::P,w::vs,0,m,nd,h1,h2,a=>by
  simp at h1 h2;subst h1;subst h2;show bindL kindOf ((p,w)::P.zip vs) m p=_;unfold bindL;rw[T6 λv c=>(ahC.mp nd).1 (ate c).1,if_pos a];simp
 |p::P,w::vs,i+1,m,nd,h1,h2,a=>by
  show bindL kindOf ((p,w)::P.zip vs) m x=_;unfold bindL;show YW (i:=i) (ahC.mp nd).2 (~~~h1) (~~~h2) a
theorem Z9{kindOf:Str->Option aqT}:∀{P:List Str}{vs:List ε}{i:Nat}{m:MG},P.Nodup->P[i]?=↑x->vs[i]?=↑v->kindOf x≠↑.local->
  bindC kindOf (P.zip vs) m x=↑v
 |[],_,_,_,_,h,_,_=>by simp at h
 |_::_,[],_,_,_,_,h,_=>by simp at h
 |p::P,w::vs,0,m,nd,h1,h2,a=>by
  simp at h1 h2;subst h1;subst h2;show bindC kindOf ((p,w)::P.zip vs) m p=_;unfold bindC;rw[aaB λv c=>(ahC.mp nd).1 (ate c).1,if_neg a];simp
 |p::P,w::vs,i+1,m,nd,h1,h2,a=>by
  show bindC kindOf ((p,w)::P.zip vs) m x=_;unfold bindC;show Z9 (i:=i) (ahC.mp nd).2 (~~~h1) (~~~h2) a
def start(N:List Str)(vs:List V):St:=vs.map some++agU (↥N-↥vs) none
def lU(cc:Bool)(CX:gf)(P:ϱ)(w:ϭ)(K:ϩ)(mg:MG)(base:ϫ)(N:List Str)(qual:Str)(scope:ahD)(f:δ)(cd:ε)(A:ϴ)(outer:List Env)(s:μ)(H:Hp)(E:XK):Cx where
 prog:=P
 w:=w
 K:=K
 mg:=mg
 base:=base
 A:=A.deeper (envOfC qual scope ⇑s f cd)
 N:=N
 s₀:=s
 H₀:=H
 env:=envOfC qual scope ⇑s f cd
 outer:=outer
 stack:=envOfC qual scope ⇑s f cd::outer
 ex:=[]
 calm:=cc
 fn:=λ_=>true
 pn:=[]
 xe:=λe s'=>Ϧ (Ϩ P w) (A.deeper (envOfC qual scope ⇑s f cd)) (leaving (envOfC qual scope ⇑s f cd) e) (λ_ a=>CX outer H s E e a) (λc a=>CX outer H s E c a) s'
def Yv{sc:ahD}{x:Str}(h:sc.names.lookup x=↑.cell):∃c,(cellsFrom n sc.names []).lookup x=↑c:=by
 let q:=atZ sc.names n [] (.inl h);show anc.mp q
def aeW{CX:gf}{P:ϱ}{w:ϭ}{K:ϩ}{mg:MG}{base:ϫ}{qual:Str}{scope:ahD}{f:δ}{cd:ε}{A:ϴ}{s s1:μ}{H:Hp}{E:XK}(S:Ν N ps scope)(hd:cc=true->A.handled=none)(g:nA P w K mg base A outer s H)(G:↥vs=↥ps)(r:Vals vs us)(x:InCallC s ⇑s (bindL (envOfC qual scope ⇑s f cd).kindOf (ps.zip us) λ_=>none) (cellsFrom (⇑s+1) scope.names []) (bindC (envOfC qual scope ⇑s f cd).kindOf (ps.zip us) λ_=>none) s1):Inv (lU cc CX P w K mg base N qual scope f cd A outer s H E) [] (start N vs) H s1:=by
 let C:↥ps<=↥N:=by have:=congrArg alj S.pre;rw[af8]at this;omega
 let#[h1,tk,rfl,o]:=x.done;let j:∀b:δ,b∉(lU cc CX P w K mg base N qual scope f cd A outer s H E).ex:=λb z=>absurd (show b∈([]:List δ)from z) (by simp)
 show#[#[g.mod,S.kind,rfl,rfl,Ϭ _,λy z c h1 h2=>?_,λy hy=>?_,λy c _ h=>?_,hd,Around.frames_deeper g.frames,.inr #[rfl,rfl],λb z=>absurd z (j b),g.bs,g.bsz,λb _ _=>j b,λb z=>absurd z (j b),g.funs,g.frf],
  rfl,g.bare,Un.kept o,#[_,x.toInCall.ns,λi y v h1 h2 I=>?_],λy c h=>#[_,x.cell y c h],g.hok.fresh (Ϭ _),λy c h=>?_,λp l=>absurd (show p∈([]:List (δ×Obj))from l) (by simp),g.hok.kept o,?_]
 .show name_of_addr x.apart (PySem.mem_of_lookup h1) (PySem.mem_of_lookup h2)
 .let hy:scope.names.lookup y=↑.cell\/scope.names.lookup y=↑.free:=hy;obtain hy|hy:=hy
  .show Yv hy
  .show absurd rfl (S.nofree _ (PySem.mem_of_lookup hy))
 .show arj (x.above y c (PySem.mem_of_lookup h))
 .let hi:i<↥vs:=by
   unfold start at h2;by_cases hi:i<↥vs
   .show hi
   .rw[alX (~~~hi)]at h2;rw[List.getElem?_replicate]at h2;split at h2<;>cases h2
  let D:vs[i]?=↑v:=by
   unfold start at h2;rw[aiV (~~~hi),adl]at h2;cases e:vs[i]? with
   |none=>rw[e]at h2;cases h2
   |some a=>rw[e]at h2;cases h2;rfl
  let#[u,B,F]:=r.get D;let l:ps[i]?=↑y:=by
   rw[<-S.pre,List.getElem?_take_of_lt ()];show h1
  let m:ps.Nodup:=by rw[<-S.pre];show S.nd.sublist (List.take_sublist _ _)
  show#[u,F,?_];rcases S.par y (aa1 l)with k|k
  .show .inl #[k,YW m l B k]
  .let#[c,e]:=Yv (n:=⇑s+1) k;show .inr #[.inl k,c,e,?_];let q:=x.cell y c e;rw[Z9 m l B (by show scope.names.lookup y≠_;rw[k];decide)]at q;show q
 .show g.hok.fresh (arj (x.above y c (PySem.mem_of_lookup h)))
 .unfold start;show _=↥N;rw[abK,aau,arH];omega
def aar{CX:gf}{P:ϱ}{w:ϭ}{K:ϩ}{mg:MG}{base:ϫ}{k:Nat}{f:δ}{name qual:Str}{a:Arguments}{scope:ahD}{dV kV j pm c ct oc:ε}{an od:Option δ}{p:Array (Option ε)}{sp:Sp}(lk:K.lookup f=some #[oc,od,.func (atq name qual a body scope dV kV j pm an c ct),p])(z:asZ K c qual=true)(S:Ν N ps scope)(len:∀vs H Q E,sp vs H Q E->↥vs=↥ps)(g:∀(A:ϴ)(outer:List Env)(s:μ)(H:Hp)(vs:List V)(Q:VK)(E:XK),ϛ cc k (A.deeper (envOfC qual scope ⇑s f c))->sp vs H Q E->
   ∃t,J9 (lU cc CX P w K mg base N qual scope f c A outer s H E) body t/\t {nx:=λ_ H'=>Q .non H',rt:=Q} (start N vs) H):dG P w K mg base CX cc (k+1) f (atq name qual a body scope dV kV j pm an c ct) ps sp:=by
 show#[len,λA outer s H F us vs Q E B l L r m=>?_];let M:=len _ _ _ _ m;let G:K.In s.heap:=l.mod.kin.keeps λb o e=>(l.bs b o e).1
 let C:s.heap.NoLimit:=l.mod.nolimit.keeps λb o e=>(l.bs b o e).1
 let i:∀y∈ps.zip us,scope.names.lookup y.1=↑.local\/(scope.names.lookup y.1=↑.cell/\((cellsFrom (⇑s+1) scope.names []).lookup y.1).isSome=true):=λ⟨n,v⟩ O=>by
  obtain q|q:=S.par n (ate O).1
  .show .inl q
  .show .inr #[q,atZ _ _ _ (.inl q)]
 show codeAny_call_function B.depth (G<*lk) rfl S.co S.gen rfl (W.codeRec_of G z) (L _ _ _ _ ?_)*>wpAny_newFunctionEnv_cells S.kind i λenv R s1 x=>?_
 subst R;show#[C.keeps x.toInCall.keep,codeAny_func ?_];let#[t,T,U]:=g A outer s H vs Q E (B.deeper _) m;let I:Inv (lU cc CX P w K mg base N qual scope f c A outer s H E) [] (start N vs) H s1:=aeW S B.hd l M r x;show adq (T [] s1 (start N vs) H _ I U) (λX s' hs=>?_) λe s' hs=>hs
 let fin:∀{σ':St}{H':Hp}{v:V}{u:ε},Inv (lU cc CX P w K mg base N qual scope f c A outer s H E) [] σ' H' s'->RelV v u->Q v H'->CE outer P w H s Q u s':=
  λ{σ' H' v u} J D q=>#[v,H',J.os,J.bare,J.base,J.hok,D,q]
 cases X with
 |ret u=>
  let#[v,σ',H',J,D,q]:=hs;show fin J D q
 |next=>
  let#[σ',H',J,q]:=hs;show fin (v:=V.non) (u:=Value.none) J rfl q
 |brk=>
  let#[_,_,_,q]:=hs;show False.elim q
 |cont=>
  let#[_,_,_,q]:=hs;show False.elim q
end _L
namespace _H
open PySem PyProof.Rows
def acz(u:IsTup s.heap t vs.toArray)(v:IsTup s.heap b ws.toArray)(m:vs≠[])(h1:ws=[]->Q (.ref t) s)(h2:ws≠[]->Q (.ref ⇑s) {s with heap:=s.heap.push {cls:=.type "tuple",data:=.seq (vs++ws).toArray}})(hsz:↥vs+↥ws<=ϰ):Ϧ (Ϩ prog w) A (binaryOp .Add (.ref t) (.ref b)) Q E s:=by
 let#[#[cls,dd,data,sl],j,o,n,hd]:=id u;let#[#[p,c,data2,f],a,g,q,i]:=id v;simp only at o hd g i;subst o hd g i;let e:vs.toArray++ws.toArray=(vs++ws).toArray:=by simp
 by_cases l:ws=[]
 .show concat_meets #[_,j,rfl] #[_,a,rfl] noFill_tuple_add seq_tuple_add PySem.F.slot_tuple_add PySem.F.entry_tuple_add (PySem.F.args_tuple_add_2 _ _)
   (tuple_addW1 t b vs.toArray ws.toArray n q dd c sl f (~~~m) (by simp[l])) #[j,a,h1 l]
 .show concat_meets #[_,j,rfl] #[_,a,rfl] noFill_tuple_add seq_tuple_add PySem.F.slot_tuple_add PySem.F.entry_tuple_add (PySem.F.args_tuple_add_2 _ _)
   (tuple_addW2 t b vs.toArray ws.toArray n q dd c sl f (~~~m) (~~~l) (by rw[aa0,aa0];show hsz)) #[j,a,?_]
  rw[e];show h2 l
def Η(n d:Nat):Option Int->Nat
 |none=>d
 |some v=>if v<0 then(v+(n:Int)).toNat else min v.toNat n
theorem tu(n d:Nat):Η n d none=d:=rfl
def iY(n d k:Nat):Η n d ↑(k:Int)=min k n:=by
 show(if(k:Int)<0 then((k:Int)+(n:Int)).toNat else min (k:Int).toNat n)=min k n;rw[if_neg (),atM]
def Lg(n d:Nat)(hd:d<=n)(o:Option Int):Η n d o<=n:=by
 cases o with
 |none=>show hd
 |some v=>
  show(if v<0 then(v+(n:Int)).toNat else min v.toNat n)<=n;by_cases a:v<0
  .rw[if_pos a];omega
  .rw[if_neg a];show as8 _ _
def Ii(v:Int)(n d:Nat):(if v<0 then max (v+(n:Int)) 0 else min v (n:Int))=((Η n d ↑v:Nat):Int):=by
 show(if v<0 then max (v+(n:Int)) 0 else min v (n:Int))=(((if v<0 then(v+(n:Int)).toNat else min v.toNat n):Nat):Int);by_cases a:v<0
 .simp only[if_pos a];omega
 .simp only[if_neg a];omega
def adD(lo hi:Option Int)(n:Nat):Builtin.Slice.sliceAdjust lo hi 1 (n:Int)=(((Η n 0 lo:Nat):Int),((Η n n hi:Nat):Int)):=by
 let h1:¬((1:Int)<0):=()
 unfold Builtin.Slice.sliceAdjust;simp only[h1,if_false];show Prod.ext ?_ ?_
 .cases lo with
  |none=>rfl
  |some v=>show Ii v n 0
 .cases hi with
  |none=>rfl
  |some v=>show Ii v n n
def ajc(i j:Nat):Builtin.Slice.slicePlaces (i:Int) (j:Int) 1=j-i:=by
 unfold Builtin.Slice.slicePlaces;let h1:(1:Int)>0:=()
 simp only[h1,if_true,Int.ediv_one];split <;>omega
def Tf(p:IsPart v o)(h:Q o s):Ϧ (Ϩ prog w) A (Builtin.Slice.slicePartIndex v) Q E s:=by
 cases p with
 |none=>show slicePart_none h
 |int i t=>show slicePart_int h
def afS{e f:ε}{lo hi:Option Int}{n:Nat}{Q:Int×Int×Nat->μ->Prop}(hs:s.heap.IsSliceOf sl e f .none)(pl:IsPart e lo)(g:IsPart f hi)(h:Q (((Η n 0 lo:Nat):Int),1,Η n n hi- Η n 0 lo) s):Ϧ (Ϩ prog w) A (Builtin.Slice.sliceApplied (.ref sl) (pure (n:Int))) Q E s:=by
 let#[os,a,i,c]:=id hs;unfold Builtin.Slice.sliceApplied Builtin.Slice.sliceFields;show π (π (ahl a c (x:=e) rfl (π (ahl a c (x:=f) rfl (π (ahl a c (x:=.none) rfl (ϯ ?_)))))))*>π (slicePart_none ?_)*>Ϧ _ _ (if((1:Int)==0)=true then _ else _) _ _ s;rw[if_neg (by decide)];show π (Tf pl (π (Tf g (π (ϯ ?_)))))*>Ϧ _ _ (match Builtin.Slice.sliceAdjust lo hi 1 (n:Int)with|(lo,hi)=>pure (lo,(1:Int),Builtin.Slice.slicePlaces lo hi 1)) _ _ s;rw[adD lo hi n];show Ϧ _ _ (pure (((Η n 0 lo:Nat):Int),(1:Int),Builtin.Slice.slicePlaces ((Η n 0 lo:Nat):Int) ((Η n n hi:Nat):Int) 1)) _ _ s;rw[ajc];show ϯ h
def afs(xs:Array ε)(i k:Nat):((ado k).filterMap λ(m:Nat)=>xs[((i:Int)+(m:Int)*1).toNat]?).toArray=((xs.toList.drop i).take k).toArray:=by
 let e:(λ(m:Nat)=>xs[((i:Int)+(m:Int)*1).toNat]?)=λm=>xs[i+m]? :=by
  funext m;have:((i:Int)+(m:Int)*1).toNat=i+m:=()
  rw[this]
 rw[e];have:=pick_run xs i k;rw[List.filterMap_map]at this;let a:((λx=>xs[x]?)∘λx=>i+x)=λm=>xs[i+m]? :=rfl
 rw[a]at this;rw[this]
def alY{a:Array ε}{l n:ε}{lo hi:Option Int}{Q:ε->μ->Prop}(e:IsTup s.heap t a)(hs:s.heap.IsSliceOf sl l n .none)(pl:IsPart l lo)(o:IsPart n hi)(p:¬(Η a.size 0 lo=0/\ Η a.size a.size hi=a.size))(h:Q (.ref ⇑s) {s with heap:=s.heap.push {cls:=.type "tuple",data:=.seq ((a.toList.drop (Η a.size 0 lo)).take (Η a.size a.size hi- Η a.size 0 lo)).toArray}})(hsz:a.size<=ϰ):Ϧ (Ϩ prog w) A (getItem (.ref t) (.ref sl)) Q E s:=by
 let c:sizeOk (.seq ((a.toList.drop (Η a.size 0 lo)).take (Η a.size a.size hi- Η a.size 0 lo)).toArray):=by
  show((a.toList.drop (Η a.size 0 lo)).take (Η a.size a.size hi- Η a.size 0 lo)).toArray.size<=ϰ;rw[aa0,af8,ael,akT];omega
 let v:Η a.size a.size hi<=a.size:=Lg _ _ (Ϭ _) hi;let#[os,f,g,u]:=id hs;let i:s.TypeIs (.ref sl) "slice":=#[os,f,g];unfold getItem
 try with_reducible show aez ?_
 first|show π (ϯ ?_)|skip
 show π (wpAny_sequenceKey e.typeIs (by decide) ?_);show π (aqL (name:=ν "__getitem__") e.typeIs PyProof.Rows.slot_tuple_getitem
  (wpAny_call_entry PyProof.Rows.slot_tuple_getitem e.typeIs entry_tuple_getitem ?_ (args_tuple_getitem _ _)))
 show Ϧ _ _ (Builtin.Tuple.tupleItemsOf (.ref t)>>=_) _ _ s*>π (tupleItemsOf_ e ?_)*>π (wpAny_typeOf i ?_);rw[if_pos (by decide)];show π (afS hs pl o ?_);let j:¬((((Η a.size 0 lo:Nat):Int)==0&&(1:Int)==1&&(Η a.size a.size hi- Η a.size 0 lo)==a.size)=true):=by
  intro q;rw[aaK,aaK]at q;let x:((Η a.size 0 lo:Nat):Int)=0:=eq_of_beq q.1.1;let y:Η a.size a.size hi- Η a.size 0 lo=a.size:=eq_of_beq q.2;show p #[(),()]
 show Ϧ _ _ (if(((Η a.size 0 lo:Nat):Int)==0&&(1:Int)==1&&(Η a.size a.size hi- Η a.size 0 lo)==a.size)=true then _ else _) _ _ s;rw[if_neg j,afs]
 first
  |show π (m:=Builtin.Tuple.tupleExact _) (aiY (ϯ #[_,rfl,ϯ h]) c)
  |show π (m:=Builtin.Tuple.tupleExact _) (aiY (π (ϯ (ϯ #[_,rfl,ϯ h]))) c)
  |show π (π (m:=Builtin.Tuple.tupleExact _) (aiY (ϯ (ϯ #[_,rfl,ϯ h])) c))
  |show π (π (m:=Builtin.Tuple.tupleExact _) (aiY (ϯ #[_,rfl,ϯ h]) c))
end _H
namespace _L
open PySem PySem.Spec PyProof.Rows
abbrev TO:=St->Hp->(Option Int->Hp->Prop)->Prop
def PO(X:Cx)(e:Option Ϫ)(t:TO):Prop:=
 ∀(ϵ:List (δ×Obj))(s:μ)(σ:St)(H:Hp)(Q:Option Int->Hp->Prop),Inv X ϵ σ H s->t σ H Q->
  Ϧ ∅ X.A (evalPart e X.env) (λu s'=>∃o H',Inv X ϵ σ H' s'/\IsPart u o/\Q o H') X.xe s
def akb:TO:=λ_ H Q=>Q none H
def afk(t:TE):TO:=λσ H Q=>t σ H λx H1=>∃i,x=.int i/\Q ↑i H1
def alT:PO X none akb:=by
 intro ϵ s σ H Q I h;rw[evalPart_none];show ϯ #[none,H,I,.none,h]
def ahG(h:PE X e te):PO X ↑e (afk te):=by
 intro ϵ s σ H Q I a;rw[evalPart_some];show υ (h ϵ s σ H _ I a) λu j c=>?_
 let#[x,H1,f,r1,g]:=c;let#[i,rfl,q]:=g;let#[t,rfl]:=r1;show#[↑i,H1,f,.int i t,q]
def um(X:Cx)(r:V->Option Int->Option Int->Hp->VK->Prop):Prop:=
 ∀(ϵ:List (δ×Obj))(s:μ)(σ:St)(H:Hp)(x:V)(v a c:ε)(lo hi:Option Int)(sl:δ)(Q:VK),Inv X ϵ σ H s->RelV x v->s.heap.IsSliceOf sl a c .none->IsPart a lo->IsPart c hi->r x lo hi H Q->
  ∃T id,typeLookup (.type T) "__getitem__"=pure ↑(.builtin id)/\s.TypeIs v T/\Ϧ ∅ X.A (getItem v (.ref sl)) (EP X ϵ σ Q) X.xe s
def bL(xs:List V)(lo hi:Option Int):List V:=(xs.drop (_H.Η ↥xs 0 lo)).take (_H.Η ↥xs ↥xs hi-_H.Η ↥xs 0 lo)
def aax(xs:List V)(lo hi:Option Int):↥(bL xs lo hi)<=↥xs:=by
 unfold bL;rw[af8,ael];omega
def acy(K:ϩ):V->Option Int->Option Int->Hp->VK->Prop:=λx lo hi H Q=>∃a xs,x=.ref a/\ρ K H a xs/\
 ¬(_H.Η ↥xs 0 lo=0/\_H.Η ↥xs ↥xs hi=↥xs)/\∀p,H p=none->Q (.ref p) (upd H p (.tup (bL xs lo hi)))
def aoU:um X (acy X.K):=by
 intro ϵ s σ H x v m n lo hi sl Q I rx hs pl g h;let#[a,xs,rfl,i,j,q]:=h;cases rx;let#[l,r,e,f]:=I.tuple i;let c:l.toArray.size=↥xs:=by rw[aa0];show r.length.symm
 show#["tuple",_,PyProof.Rows.slot_tuple_getitem.lookup,e.typeIs,?_]*>_H.alY e hs pl g (by rw[c];show j) ?_ (by rw[c];show f);rw[c];show#[.ref ⇑s,_,I.laid (t':=s.toks) (o:=.tup (bL xs lo hi)) (λb p q=>ϲ _ q) (Ϭ _) ?_,rfl,q _ (I.hok.fresh (Ϭ _))]*>#[afT (aax xs lo hi) f,_,(r.drop (_H.Η ↥xs 0 lo)).take (_H.Η ↥xs ↥xs hi-_H.Η ↥xs 0 lo),IsTup.new _ _]
def adm(K:ϩ):R2:=λx y H Q=>∃a b xs ys,x=.ref a/\y=.ref b/\ρ K H a xs/\ρ K H b ys/\xs≠[]/\↥xs+↥ys<=ϰ/\
 (ys=[]->Q (.ref a) H)/\(ys≠[]->∀p,H p=none->Q (.ref p) (upd H p (.tup (xs++ys))))
def Vals.nil_iff(r:Vals xs us):us=[]↔xs=[]:=by
 cases r with
 |nil=>simp
 |cons _ _=>simp
def ahy:aR X (binaryOp .Add) (adm X.K):=by
 intro ϵ s σ H x y v u Q I rx ry h;let#[a,b,xs,ys,rfl,rfl,g,i,j,e,l,m]:=h;cases rx;cases ry;let#[n,r1,p1,_]:=I.tuple g;let#[f,c,p2,_]:=I.tuple i;show _H.acz p1 p2 (λz=>j (r1.nil_iff.mp z)) (λz=>#[.ref a,H,I,rfl,l (c.nil_iff.mp z)]) (λz=>?_) (by rw[<-↥r1, <-↥c];show e)*>#[.ref ⇑s,_,I.laid (t':=s.toks) (o:=.tup (xs++ys)) (λb p q=>ϲ _ q) (Ϭ _) ?_,rfl,m (λw=>z (c.nil_iff.mpr w)) _ (I.hok.fresh (Ϭ _))]*>#[by rw[abK];show e,_,r1.append c,IsTup.new _ _]
def mR(n:Nat)(i:Int):Option Nat:=if 0<=i then(if i<n then some i.toNat else none)else if -(n:Int)<=i then some (i+n).toNat else none
def Ι{α:Type}(xs:List α)(i:Int):Option α:=(mR ↥xs i).bind λj=>xs[j]?
def Yc(h:mR n i=↑j):seqIndex? i n=↑j/\j<n/\ -(n:Int)<=i/\i<n:=by
 unfold mR at h;by_cases a:0<=i
 .rw[if_pos a]at h;by_cases h1:i<n
  .rw[if_pos h1]at h;let e:i.toNat=j:=Option.some.inj h;show#[by rw[seqIndex_of a h1,e],(),(),h1]
  .rw[if_neg h1]at h;cases h
 .rw[if_neg a]at h;by_cases h1: -(n:Int)<=i
  .rw[if_pos h1]at h;let e:(i+n).toNat=j:=Option.some.inj h;show#[by rw[seqIndex_neg () h1,e],(),h1,()]
  .rw[if_neg h1]at h;cases h
def Hz{α:Type}{xs:List α}{v:α}(h:Ι xs i=↑v):∃j,seqIndex? i ↥xs=↑j/\xs[j]?=↑v/\j<↥xs/\ -(↥xs:Int)<=i/\i<↥xs:=by
 unfold Ι at h;cases e:mR ↥xs i with
 |none=>rw[e]at h;cases h
 |some j=>
  rw[e]at h;let#[h1,h2,a,c]:=Yc e;show#[j,h1,h,h2,a,c]
def aJ{α:Type}{xs:List α}{j:Nat}{v:α}(h:xs[j]?=↑v):Ι xs (j:Int)=↑v:=by
 let a:j<↥xs:=(aak.mp h).1;let e:mR ↥xs (j:Int)=↑j:=by
  unfold mR;rw[if_pos (),if_pos ()];simp
 unfold Ι;rw[e];show h
def aea(b:Ϫ):=∀o i,subscripted b false o i=operate [o,i] (getItem o i)
def sZ(X:Cx)(r:R2):Prop:=
 ∀(value a:Ϫ)(ϵ:List (δ×Obj))(s:μ)(σ:St)(H:Hp)(x y:V)(v u:ε)(Q:VK),Inv X ϵ σ H s->RelV x v->RelV y u->r x y H Q->
  subscripted a false v u=operate [v,u] (getItem v u)->Ϧ ∅ X.A (subscriptTail value a v u) (EP X ϵ σ Q) X.xe s
def MF(X:Cx)(id:String)(r:V->List V->Hp->VK->Prop):Prop:=
 ∀(ϵ:List (δ×Obj))(s:μ)(σ:St)(H:Hp)(x:V)(xs:List V)(v:ε)(us:List ε)(Q:VK),Inv X ϵ σ H s->RelV x v->Vals xs us->r x xs H Q->
  Ϧ ∅ X.A (call (.builtin id) (v::us)) (EP X ϵ σ Q) X.xe s
def V0(K:ϩ):R2:=λx y H Q=>∃p xs i v,x=.ref p/\y=.int i/\θ K H p xs/\ Ι xs i=↑v/\Q v H
def Px(K:ϩ):R2:=λx y H Q=>∃p xs i v,x=.ref p/\y=.int i/\ρ K H p xs/\ Ι xs i=↑v/\Q v H
def RT:R2:=λx y H Q=>∃z i c,x=.str z/\y=.int i/\↥z<=ϰ/\ Ι z.cps.toList i=↑c/\Q (.str #[#v[c]]) H
def adx:sZ X (V0 X.K):=by
 intro value a ϵ s σ H x y v u Q I rx ry h hs;let#[p,xs,i,z,rfl,rfl,l,m,q]:=h;cases rx;let#[t,rfl]:=ry;let#[n,r,pl,D]:=I.list l;let#[j,h1,h2,E,o,B]:=Hz m;let#[w,f,c]:=r.get h2;let C:=↥r;let F:=mW;let fin:EP X ϵ σ Q w s:=#[z,H,I,c,q];by_cases g:0<=i
 .let e:i.toNat=j:=by
   rw[seqIndex_of g B]at h1;show Option.some.inj h1
  show item_listR pl.isList g () (by rw[e];simpa using f) fin hs
 .let e:(i+(n.toArray.size:Int)).toNat=j:=by
   rw[seqIndex_neg () o]at h1;rw[aa0, <-C];show Option.some.inj h1
  show subscriptTail_builtinR (x:=w) pl.isList.typeIs slot_list_getitem.lookup
   (wpAny_getItem_list_neg (Q:=λr s'=>r=w/\EP X ϵ σ Q r s') pl.isList () (by rw[aa0]<;>omega) () (by rw[e];simpa using f) #[rfl,fin]) hs
def aeJ:sZ X (Px X.K):=by
 intro value a ϵ s σ H x y v u Q I rx ry h hs;let#[p,xs,i,z,rfl,rfl,e,f,q]:=h;cases rx;let#[t,rfl]:=ry;let#[m,r,pl,n]:=I.tuple e;let#[j,h1,h2,o,B,C]:=Hz f;let#[w,g,c]:=r.get h2;let l:=↥r;let D:=mW;let fin:EP X ϵ σ Q w s:=#[z,H,I,c,q];show subscriptTail_builtinR (x:=w) pl.typeIs slot_tuple_getitem.lookup
  (getItem_tuple (j:=j) (Q:=λr s'=>r=w/\EP X ϵ σ Q r s') pl () () (by rw[aa0, <-l];show h1) (~~~g) #[rfl,fin]) hs
def afe:sZ X RT:=by
 intro value a ϵ s σ H x y v u Q I rx ry h hs;let#[z,i,c,rfl,rfl,n,e,q]:=h;let#[t,rfl]:=rx;let#[t',rfl]:=ry;let#[j,h1,h2,o,f,g]:=Hz e;let l:↥z.cps.toList=↥z:=by simp[asQ]
 rw[l]at h1 f g;let p:=mW;show tail_any (typeIs_str s z t) slot_str_getitem.lookup (getItem_str (c:=c) (by
  let e1:decide (i< -(2^63:Int))=false:=decide_eq_false ();let m:decide (i≥2^63)=false:=decide_eq_false ();rw[e1,m,as3]) (by rw[h1];simpa using h2) #[.str #[#v[c]],H,I.tok _,#[_,rfl],q]) hs
def acv(a:List ε)(n j:Nat)(u:ε):Obj.mapSeq (·.setIfInBounds j u) {cls:=.type "list",data:=.seq a.toArray n}={cls:=.type "list",data:=.seq (a.set j u).toArray n}:=by
 simp[Obj.mapSeq]
def Inv.lst{σ:St}{H:Hp}{s:μ}{p:δ}(I:Inv X ϵ σ H s)(h:H p=↑(.lst xs)):∃(a:List ε)(n:Nat),Vals xs a/\s.heap.get? p=some {cls:=.type "list",data:=.seq a.toArray n}/\↥xs<=ϰ:=by
 let#[z,a,n,r,e]:=I.hok p _ h;show#[a,n,r,e,z]
def Inv.lstUpd{σ:St}{H:Hp}{s:μ}{p:δ}{xs ys:List V}{c its':List ε}{n a:Nat}{f:Obj->Obj}(I:Inv X ϵ σ H s)(h:H p=↑(.lst xs))(i:s.heap.get? p=some {cls:=.type "list",data:=.seq c.toArray n})(g:f {cls:=.type "list",data:=.seq c.toArray n}={cls:=.type "list",data:=.seq its'.toArray a})(r:Vals ys its')(j:↥ys<=ϰ)(t:Nat):Inv X ϵ σ (upd H p (.lst ys)) {s with heap:=s.heap.update p f,toks:=t}:=by
 let e:(s.heap.update p f).get? p=some {cls:=.type "list",data:=.seq its'.toArray a}:=by
  rw[aeP f i (by rw[g]<;>rfl),g]
 show I.write (x:=p) (e:=p) (by rw[h];trivial) (.inl rfl) (λb u l q=>(acO<*(Ne.symm l)).trans q) #[_,e] ?_*>#[j,its',a,r,e]
def ack:V->V->V->Hp->(Hp->Prop)->Prop:=λo i v H Q=>∃p xs k j,o=.ref p/\i=.int k/\H p=↑(.lst xs)/\mR ↥xs k=↑j/\Q (upd H p (.lst (xs.set j v)))
def set_list:ZD X ack:=by
 intro ϵ s σ H o i v E F u Q I ro z B h;let#[p,xs,k,j,rfl,rfl,f,C,q]:=h;cases ro;let#[t,rfl]:=z;let#[g,n,r,a,D]:=I.lst f;let#[h1,h2,l,m]:=Yc C;let c:=↥r;let G:=mW;let x:Inv X ϵ σ (upd H p (.lst (xs.set j v))) {s with heap:=s.heap.update p (Obj.mapSeq (·.setIfInBounds j u))}:=
  I.lstUpd f a (acv g n j u) (r.set B j) (by rw[List.length_set];show D) s.toks
 by_cases y:0<=k
 .let e:k.toNat=j:=by
   rw[seqIndex_of y m]at h1;show Option.some.inj h1
  show W.ki_setAt a y () (by rw[aa0, <-c];show m) (by rw[e];show#[_,x,q])
 .let e:(k+(g.toArray.size:Int)).toNat=j:=by
   rw[seqIndex_neg () l]at h1;rw[aa0, <-c];show Option.some.inj h1
  show W.ki_setBack a () (by rw[aa0, <-c];show l) () (by rw[e];show#[_,x,q])
def ajS(lo hi:Option Int)(n:Nat):(sliceBounds lo hi none n).1=((_H.Η n 0 lo:Nat):Int)/\(sliceBounds lo hi none n).2.1=((_H.Η n n hi:Nat):Int)/\(sliceBounds lo hi none n).2.2=1:=by
 show#[?_,?_,rfl]
 .cases lo with
  |none=>simp[sliceBounds,_H.Η]
  |some i=>
   simp only[sliceBounds,_H.Η,at3,show(1:Int)>0 by decide,if_true];by_cases h:i<0
   .simp only[h,if_true]<;>omega
   .simp only[h,if_false]<;>omega
 .cases hi with
  |none=>simp[sliceBounds,_H.Η]
  |some i=>
   simp only[sliceBounds,_H.Η,at3,show(1:Int)>0 by decide,if_true];by_cases h:i<0
   .simp only[h,if_true]<;>omega
   .simp only[h,if_false]<;>omega
def adg(a:List ε)(lo hi:Option Int):slicePick a.toArray lo hi none=((a.drop (_H.Η ↥a 0 lo)).take (_H.Η ↥a ↥a hi-_H.Η ↥a 0 lo)).toArray:=by
 let#[h1,h2,c]:=ajS lo hi a.toArray.size;unfold slicePick;rw[h1,h2,c];simp only[sliceRange_one,pick_run,aa0]<;>rfl
def afn(K:ϩ):V->Option Int->Option Int->Hp->VK->Prop:=λx lo hi H Q=>∃a xs,x=.ref a/\θ K H a xs/\∀p,H p=none->Q (.ref p) (upd H p (.lst (bL xs lo hi)))
def aev:um X (afn X.K):=by
 intro ϵ s σ H x v j l lo hi sl Q I rx hs pl f h;let#[a,xs,rfl,g,q]:=h;cases rx;let#[m,r,e,i]:=I.list g;let c:=↥r;show#["list",_,slot_list_getitem.lookup,e.isList.typeIs,?_]*>wpAny_getItem_list_slice e.isList hs pl f .none (by simp) ?_ (by rw[aa0]<;>omega);rw[adg, <-c];show#[.ref ⇑s,_,I.laid (t':=s.toks) (o:=.lst (bL xs lo hi)) (λb n q=>ϲ _ q) (Ϭ _) ?_,rfl,q _ (I.hok.fresh (Ϭ _))]*>#[afT (aax xs lo hi) i,_,0,(r.drop (_H.Η ↥xs 0 lo)).take (_H.Η ↥xs ↥xs hi-_H.Η ↥xs 0 lo),abn _ rfl]
def iu:V->Bool
 |.non=>true
 |.bl _=>true
 |.int _=>true
 |.str _=>true
 |_=>false
def fX:V->V->Bool
 |.non,.non=>true
 |.bl a,.bl b=>a==b
 |.bl a,.int b=>(if a then 1 else 0)==b
 |.int a,.bl b=>a==(if b then 1 else 0)
 |.int a,.int b=>a==b
 |.str a,.str b=>a==b
 |_,_=>false
def ahq(ry:RelV y u)(rx:RelV x v)(e:iu y=true)(c:iu x=true):SeqAt.EqAt A s u v (fX y x):=by
 cases y with
 |non=>
  cases ry;cases x with
  |non=>cases rx;show SeqAt.EqAt.same _
  |bl b=>cases rx;show SeqAt.EqAt.none_bool b
  |int b=>let#[t,rfl]:=rx;show SeqAt.EqAt.none_int b t
  |str b=>let#[t,rfl]:=rx;show SeqAt.EqAt.none_str b t
  |_=>show absurd (show false=true from c) aa5
 |bl a=>
  cases ry;cases x with
  |non=>cases rx;show SeqAt.EqAt.bool_none a
  |bl b=>cases rx;show SeqAt.EqAt.bool_bool a b
  |int b=>let#[t,rfl]:=rx;show SeqAt.EqAt.bool_int a b t
  |str b=>let#[t,rfl]:=rx;show SeqAt.EqAt.bool_str a b t
  |_=>show absurd (show false=true from c) aa5
 |int a=>
  let#[t',rfl]:=ry;cases x with
  |non=>cases rx;show SeqAt.EqAt.int_none a t'
  |bl b=>cases rx;show SeqAt.EqAt.int_bool a t' b
  |int b=>let#[t,rfl]:=rx;show SeqAt.EqAt.int_int a t' b t
  |str b=>let#[t,rfl]:=rx;show SeqAt.EqAt.int_str a t' b t
  |_=>show absurd (show false=true from c) aa5
 |str a=>
  let#[t',rfl]:=ry;cases x with
  |non=>cases rx;show SeqAt.EqAt.str_none a t'
  |bl b=>cases rx;show SeqAt.EqAt.str_bool a t' b
  |int b=>let#[t,rfl]:=rx;show SeqAt.EqAt.str_int a t' b t
  |str b=>let#[t,rfl]:=rx;show SeqAt.EqAt.str_str a t' b t
  |_=>show absurd (show false=true from c) aa5
 |_=>show absurd (show false=true from e) aa5
def eF(x:V)(u:ε):Bool:=match u with
 |.none=>fX .non x
 |.bool b=>fX (.bl b) x
 |.int i _=>fX (.int i) x
 |.str z _=>fX (.str z) x
 |_=>false
def Uq(r:RelV y u)(f:iu y=true):eF x u=fX y x:=by
 cases y with
 |non=>cases r;rfl
 |bl b=>cases r;rfl
 |int i=>let#[t,rfl]:=r;rfl
 |str z=>let#[t,rfl]:=r;rfl
 |_=>show absurd (show false=true from f) aa5
theorem uV:∀{xs:List V}{us:List ε},Vals xs us->xs.all iu=true->us.any (eF x)=xs.any λy=>fX y x
 |_,_,.nil,_=>rfl
 |y::xs,u::us,.cons r t,f=>by
  rw[as4,aaK]at f;rw[apE,apE,Uq r f.1,uV t f.2]
theorem vy(rx:RelV x v)(a:iu x=true):∀{xs:List V}{us:List ε},Vals xs us->xs.all iu=true->∀u∈us,SeqAt.EqAt A s u v (eF x u)
 |_,_,.nil,_=>λu hu=>by cases hu
 |y::xs,u::us,.cons r t,f=>λc hu=>by
  rw[as4,aaK]at f;obtain rfl|hu:=aaF.mp hu
  .rw[Uq r f.1];show ahq r rx f.1 a
  .show vy rx a t f.2 c hu
def eU(x:V)(xs:List V):Bool:=xs.any λy=>fX y x
def Rt(K:ϩ)(a:Bool):R2:=λx y H Q=>∃p xs,y=.ref p/\(θ K H p xs\/ρ K H p xs)/\iu x=true/\xs.all iu=true/\Q (.bl (if a then !eU x xs else eU x xs)) H
def aoy:aR X (ad2 .In) (Rt X.K false):=by
 intro ϵ s σ H x y v u Q I rx ry h;let#[p,xs,rfl,hq,e,fs,q]:=h;cases ry;obtain hq|hq:=hq
 .let#[a,r,pl,f]:=I.list hq;show SeqAt.in_listAt (eF x) pl.isList (λw c=>vy rx e r fs w (~~~c)) #[.bl _,H,I,rfl,?_];rw[show a.toArray.any (eF x)=a.any (eF x)by simp,uV r fs];show q
 .let#[a,r,pl,f]:=I.tuple hq;show SeqAt.in_tupleAt (eF x) pl (λw c=>vy rx e r fs w (~~~c)) #[.bl _,H,I,rfl,?_];rw[show a.toArray.any (eF x)=a.any (eF x)by simp,uV r fs];show q
def anz:aR X (ad2 .NotIn) (Rt X.K true):=by
 intro ϵ s σ H x y v u Q I rx ry h;let#[p,xs,rfl,hq,e,fs,q]:=h;cases ry;obtain hq|hq:=hq
 .let#[a,r,pl,f]:=I.list hq;show SeqAt.notIn_listAt (eF x) pl.isList (λw c=>vy rx e r fs w (~~~c)) #[.bl _,H,I,rfl,?_];rw[show a.toArray.any (eF x)=a.any (eF x)by simp,uV r fs];show q
 .let#[a,r,pl,f]:=I.tuple hq;show SeqAt.notIn_tupleAt (eF x) pl (λw c=>vy rx e r fs w (~~~c)) #[.bl _,H,I,rfl,?_];rw[show a.toArray.any (eF x)=a.any (eF x)by simp,uV r fs];show q
def ahY:iM X (.builtin "len") (λxs H Q=>∃p ys,xs=[.ref p]/\(θ X.K H p ys\/ρ X.K H p ys)/\Q (.int ↥ys) H):=by
 intro ϵ s σ H xs us Q I r h;let#[p,ys,rfl,hq,q]:=h;let#[u,rfl,rx]:=vals1 r;cases rx;let g:=mW;obtain hq|hq:=hq
 .let#[e,c,pl,f]:=I.list hq;let a:=↥c;show Calls.call_len_list pl.isList (by simp only[aa0]<;>omega) #[.int ↥ys,H,I.tok _,#[s.toks+1,by rw[aa0,a]],q]
 .let#[e,c,pl,f]:=I.tuple hq;let a:=↥c;show len_tuple pl (by simp only[aa0]<;>omega) #[.int ↥ys,H,I.tok _,#[s.toks+1,by rw[aa0,a]],q]
def akk:iM X (.builtin "len") (λxs H Q=>∃z,xs=[.str z]/\↥z<=ϰ/\Q (.int ↥z) H):=by
 intro ϵ s σ H xs us Q I r h;let#[z,rfl,a,q]:=h;let#[u,rfl,t,rfl]:=vals1 r;let c:=mW;show len_str () #[.int ↥z,H,I.tok _,#[_,rfl],q]
def anT:iM X (.type "list") (λxs H Q=>∃p ys,xs=[.ref p]/\(θ X.K H p ys\/ρ X.K H p ys)/\∀l,H l=none->Q (.ref l) (upd H l (.lst ys))):=by
 intro ϵ s σ H xs us Q I r h;let#[p,ys,rfl,hq,q]:=h;let#[u,rfl,rx]:=vals1 r;cases rx
 let fin:∀(a:List ε),Vals ys a->↥ys<=ϰ->∀(h':ϫ)(c:Nat),(∀b o',s.heap.get? b=↑o'->h'.get? b=↑o')->
   h'.get? ⇑s=some {cls:=.type "list",dict:=none,data:=.seq a.toArray c,slots:= #v[]}->EP X ϵ σ Q (.ref ⇑s) {s with heap:=h'}:=λa f g h' c kp e=>
  #[.ref ⇑s,_,I.laid (t':=s.toks) kp (Ϭ _) (show ϟ X.prog X.w _ h' _ (.lst ys)from#[g,a,c,f,e]),rfl,q _ (I.hok.fresh (Ϭ _))]
 obtain hq|hq:=hq
 .let#[a,f,pl,g]:=I.list hq;let i:=↥f;let#[o,j,m,n,hd]:=pl.isList;show call_list_seq p (.inl rfl) j m hd (λh' c kp e=>fin a f g h' c kp e) (by simp only[aa0]<;>omega)
 .let#[a,f,pl,g]:=I.tuple hq;let i:=↥f;let#[o,j,m,n,hd]:=pl;show call_list_seq p (.inr rfl) j m hd (λh' c kp e=>fin a f g h' c kp e) (by simp only[aa0]<;>omega)
def akP:iM X (.type "tuple") (λxs H Q=>∃p ys,xs=[.ref p]/\((θ X.K H p ys/\∀l,H l=none->Q (.ref l) (upd H l (.tup ys)))\/(ρ X.K H p ys/\Q (.ref p) H))):=by
 intro ϵ s σ H xs us Q I r h;let#[p,ys,rfl,h]:=h;let#[u,rfl,rx]:=vals1 r;cases rx;obtain⟨a,q⟩|⟨a,q⟩:=h
 .let#[c,f,pl,g]:=I.list a;let i:=↥f;show call_tuple_list pl.isList (λh' kp=>?_) (by simp only[aa0]<;>omega);let j:Inv X ϵ σ H {s with heap:=h'}:=I.kept (t':=s.toks) kp;let m:Inv X ϵ σ (upd H h'.objs.size (.tup ys)) {s with heap:=h'.push {cls:=.type "tuple",data:=.seq c.toArray}}:=
   j.laid (t':=s.toks) (λb o e=>ϲ _ e) (Ϭ _) (show ϟ X.prog X.w _ _ _ (.tup ys)from#[g,c,f,IsTup.new _ _])
  show#[.ref h'.objs.size,_,m,rfl,q _ (j.hok.fresh (Ϭ _))]
 .let#[c,f,pl,g]:=I.tuple a;show call_tuple_same pl #[.ref p,H,I,rfl,q]
def qj(K:ϩ)(T:String)(x:V)(H:Hp):Prop:=match x with
 |.str _=>T="str"
 |.int _=>T="int"
 |.ref p=>(T="list"/\∃xs,θ K H p xs)\/(T="tuple"/\∃o,K.lookup p=↑o/\o.cls=.type "tuple"/\o.dict=none)\/
   (T="dict"/\((∃Ϸ,H p=↑(.dK Ϸ))\/False))\/(T="set"/\False)
 |_=>False
def Rm{σ:St}{H:Hp}{s:μ}{T:String}{x:V}{v:ε}(I:Inv X ϵ σ H s)(r:RelV x v)(ty:qj X.K T x H):s.TypeIs v T/\∀a,v=.ref a->∃f,s.heap.get? a=↑f/\f.dict=none:=by
 cases x with
 |str z=>
  let#[t,rfl]:=r;cases(show T="str" from ty);show#[typeIs_str s z t,λ_ e=>nomatch e]
 |int i=>
  let#[t,rfl]:=r;cases(show T="int" from ty);show#[typeIs_int s i t,λ_ e=>nomatch e]
 |ref p=>
  cases r;obtain⟨rfl,xs,g⟩|⟨rfl,o,hk,j,hd⟩|⟨rfl,hk⟩|⟨_,hk⟩:=ty
  .let#[m,_,pl,_]:=I.list g;show#[pl.isList.typeIs,λa e=>?_];cases e;let#[o,n,e,c,hd,_]:=pl;show#[o,e,hd]
  .show#[#[o,I.kIn p o hk,j],λa e=>?_];cases e;show#[o,I.kIn _ o hk,hd]
  .let z:∃o,s.heap.get? p=↑o/\o.ExactDict:=by
    obtain⟨Ϸ,hk⟩|hk:=hk
    .let#[_,_,_,_,o,_,_,e,ex,_]:=I.hok p _ hk;show#[o,e,ex]
    .show hk.elim
   let#[o,e,ex]:=z;show#[#[o,e,ex.1],λa l=>?_];cases l;show#[o,e,ex.2.1]
  .show hk.elim
 |_=>show False.elim ty
def W3(X:Cx)(id:String)(r:V->List V->Hp->VK->Prop):Prop:=
 ∀(ϵ:List (δ×Obj))(s:μ)(σ:St)(H:Hp)(x:V)(xs:List V)(v:ε)(us:List ε)(Q:VK),Inv X ϵ σ H s->RelV x v->Vals xs us->r x xs H Q->
  Ϧ ∅ X.A (call (.builtin id) (v::us)) (EP X ϵ σ Q) X.xe s
theorem Vals.one(h:Vals [x] us):∃u,us=[u]/\RelV x u:=vals1 h
theorem Vals.zero:∀{us:List ε},Vals [] us->us=[]
 |_,.nil=>rfl
def Vals.reverse(h:Vals xs us):Vals xs.reverse us.reverse:=by
 induction h with
 |nil=>show .nil
 |cons r t a=>rw[atN,atN];show Vals.append a (.cons r .nil)
section
variable{X:Cx}{ϵ:List (δ×Obj)}{σ:St}{H:Hp}{s:μ}{l b:δ}{xs ys zs:List V}
def Inv.lset{a its':List ε}{f:Array ε->Array ε}{t':Nat}(I:Inv X ϵ σ H s)(c:H l=↑(.lst xs))(e:s.heap.get? l=some {cls:=.type "list",data:=.seq a.toArray n})(g:f a.toArray=its'.toArray)(i:Vals ys its')(j:↥ys<=ϰ):Inv X ϵ σ (upd H l (.lst ys)) {s with heap:=s.heap.update l (Obj.mapSeq f),toks:=t'}:=by
 let q:=PySem.IsL.update e f;rw[g]at q;show I.write (x:=l) (e:=l) (by rw[c];show trivial) (.inl rfl) (λp u m o=>(acO s.heap (Obj.mapSeq f) (Ne.symm m)).trans o) #[_,q] ?_*>#[j,its',_,i,q]
theorem Inv.lnew(I:Inv X ϵ σ H s)(c:Vals ys a)(e:↥ys<=ϰ):Inv X ϵ σ (upd H ⇑s (.lst ys)) {s with heap:=s.heap.push {cls:=.type "list",data:=.seq a.toArray},toks:=t'}:=
 I.laid (λ_ _ q=>ϲ _ q) (Ϭ _) #[e,a,0,c,abn _ rfl]
theorem Inv.fresh(I:Inv X ϵ σ H s):H ⇑s=none:=I.hok.fresh (Ϭ _)
def Inv.lstM(I:Inv X ϵ σ H s)(c:H l=↑(.lst xs)):↥xs<=ϰ/\∃(a:List ε)(n:Nat),Vals xs a/\↥xs=↥a/\s.heap.get? l=some {cls:=.type "list",data:=.seq a.toArray n}:=by
 let#[z,a,n,r,e]:=I.hok l _ c;show#[z,a,n,r,↥r,e]
end
def aeg:V->List V->Hp->VK->Prop:=λx vs H Q=>∃l xs y,x=.ref l/\vs=[y]/\H l=↑(.lst xs)/\↥xs<ϰ/\Q .non (upd H l (.lst (xs++[y])))
def iZ:W3 X "list.append" aeg:=by
 intro ϵ s σ H x vs v us Q I rx f h;let#[l,xs,y,rfl,rfl,a,i,q]:=h;cases rx;let#[u,rfl,g]:=f.one;let#[z,c,n,r,j,e]:=I.lstM a;show aqt F.slot_list_append #[_,e,rfl] F.entry_list_append (F.args_list_append_2 _ _) (PySem.list_append l c.toArray n u (by rw[aa0];omega)) #[e,?_]*>#[.non,_,I.lset (its':=c++[u]) a e (by simp) (r.append (.cons g .nil)) ?_,rfl,q];rw[abK,afm];omega
def ac2:V->List V->Hp->VK->Prop:=λx vs H Q=>∃l xs,x=.ref l/\vs=[]/\H l=↑(.lst xs)/\Q .non (upd H l (.lst xs.reverse))
def agC:W3 X "list.reverse" ac2:=by
 intro ϵ s σ H x vs v us Q I rx g h;let#[l,xs,rfl,rfl,c,q]:=h;cases rx;let a:=g.zero;subst a;let#[z,f,n,r,i,e]:=I.lstM c;show aqt F.slot_list_reverse #[_,e,rfl] F.entry_list_reverse (F.args_list_reverse_1 _) (AutoSeq1.list_reverse_list_0 l f.toArray n (by rw[aa0];omega)) #[e,?_]*>#[.non,_,I.lset (its':=f.reverse) c e (by simp) r.reverse ?_,rfl,q];rw[atv];omega
def acD:R2:=λx y H Q=>∃l b xs zs,x=.ref l/\y=.ref b/\H l=↑(.lst xs)/\H b=↑(.lst zs)/\↥xs+↥zs<=ϰ/\∀p,H p=none->Q (.ref p) (upd H p (.lst (xs++zs)))
def aor:aR X (binaryOp .Add) acD:=by
 intro ϵ s σ H x y v u Q I rx ry h;let#[l,b,xs,zs,rfl,rfl,f,g,o,q]:=h;cases rx;cases ry;let#[z,c,n,r,p,e]:=I.lstM f;let#[B,a,C,i,D,j]:=I.lstM g;show PySem.P.add_list e j ?_ (by rw[aa0,aa0];omega);let m:c.toArray++a.toArray=(c++a).toArray:=by simp
 rw[m];show#[.ref _,_,I.lnew (t':=s.toks) (r.append i) (by rw[abK];omega),rfl,q _ I.fresh]
section
variable{κ:Type} [DecidableEq κ]
def aK(Ϸ:List (κ×V))(k:κ):Option V:=(Ϸ.find? λa=>decide (a.1=k)).map (·.2)
def putK(Ϸ:List (κ×V))(k:κ)(v:V):List (κ×V):=
 if(Ϸ.any λa=>decide (a.1=k))=true then Ϸ.map (λa=>if a.1=k then(a.1,v)else a)else Ϸ++[(k,v)]
def gA(Ϸ:List (κ×V))(k:κ):List (κ×V):=Ϸ.filter λa=>decide (a.1≠k)
def zr{p:κ×V}{k:κ}(e:p.1=k):aK (p::r) k=↑p.2:=by simp[aK,afC,e]
def zY{p:κ×V}{k:κ}(e:¬p.1=k):aK (p::r) k=aK r k:=by simp[aK,afC,e]
def Qy(Ϸ:List (κ×V))(k:κ)(v:V):↥(putK Ϸ k v)<=↥Ϸ+1:=by
 unfold putK;split
 .rw[aau];omega
 .rw[abK,abU,aqN];omega
def cV.isSome_eq(r:cV o u):o.isSome=u.isSome:=by
 cases o with
 |none=>cases u with
  |none=>rfl
  |some _=>show(show False from r).elim
 |some _=>cases u with
  |none=>show(show False from r).elim
  |some _=>rfl
def cV.getD(r:cV o u)(rd:RelV d d'):RelV (o.getD d) (u.getD d'):=by
 cases o with
 |none=>cases u with
  |none=>show rd
  |some _=>show(show False from r).elim
 |some _=>cases u with
  |none=>show(show False from r).elim
  |some _=>show r
def KV.val(r:KV Ϸ vs)(k:κ):cV (aK Ϸ k) (valueAt vs k):=by
 unfold KV at r;induction r with
 |nil=>show True.intro
 | @cons p q ps a h t f=>
   let#[h1,h2]:=h;by_cases e:p.1=k
   .let c:q.1=k:=h1.symm<|>e;let b:valueAt (q::a) k=↑q.2:=by simp[valueAt,afC,c]
    rw[zr e,b];show h2
   .let c:¬q.1=k:=λz=>e (h1<|>z)
    let b:valueAt (q::a) k=valueAt a k:=by simp[valueAt,afC,c]
    rw[zY e,b];show f
def KV.any(r:KV Ϸ vs)(k:κ):(Ϸ.any λa=>decide (a.1=k))=vs.any λa=>decide (a.1=k):=by
 unfold KV at r;induction r with
 |nil=>rfl
 |cons h t c=>rw[apE,apE,c,h.1]
def KV.repl(r:KV Ϸ vs)(k:κ)(ry:RelV y u):KV (Ϸ.map λa=>if a.1=k then(a.1,y)else a) (vs.map λa=>if a.1=k then(a.1,u)else a):=by
 unfold KV at r⊢;induction r with
 |nil=>show .nil
 | @cons p q ps f h t c=>
   rw[aen,aen];show .cons ?_ c;let#[h1,h2]:=h;by_cases e:p.1=k
   .rw[if_pos e,if_pos (h1.symm<|>e)];show#[h1,ry]
   .rw[if_neg e,if_neg (λz=>e (h1<|>z))];show#[h1,h2]
def KV.put(r:KV Ϸ vs)(k:κ)(ry:RelV y u):KV (putK Ϸ k y) (stored vs k u):=by
 unfold putK stored;rw[r.any k];by_cases e:(vs.any λa=>decide (a.1=k))=true
 .rw[if_pos e,if_pos e];show r.repl k ry
 .rw[if_neg e,if_neg e];show Paired.snoc r #[rfl,ry]
def KV.drop(r:KV Ϸ vs)(k:κ):KV (gA Ϸ k) (without vs k):=by
 unfold KV at r⊢;unfold gA without;induction r with
 |nil=>show .nil
 | @cons p q ps g h t c=>
   let#[h1,h2]:=h;rw[ap8,ap8];by_cases e:p.1=k
   .let a:¬decide (p.1≠k)=true:=by simp[e]
    let b:¬decide (q.1≠k)=true:=by simp[h1.symm<|>e]
    rw[if_neg a,if_neg b];show c
   .let f:¬q.1=k:=λz=>e (h1<|>z)
    let a:decide (p.1≠k)=true:=by simp[e]
    let b:decide (q.1≠k)=true:=by simp[f]
    rw[if_pos a,if_pos b];show .cons #[h1,h2] c
def KV.keys{vs:List (κ×ε)}(r:KV Ϸ vs):Ϸ.map (·.1)=vs.map (·.1):=by
 unfold KV at r;induction r with
 |nil=>rfl
 |cons h t a=>rw[aen,aen,a,h.1]
theorem KV.length{vs:List (κ×ε)}(r:KV Ϸ vs):↥Ϸ=↥vs:=Paired.length r
theorem akY(Ϸ:List (κ×V))(k:κ):↥(gA Ϸ k)<=↥Ϸ:=ah9 _ _
end
def pG(r:RelV (kV k) u):(gJ P w).is k u=true:=by
 cases k with
 |inl i=>let#[t,e]:=(show ∃t,u=Value.int i t from r);subst e;show aex P w i t
 |inr x=>let#[t,e]:=(show ∃t,u=Value.str x t from r);subst e;show an6 P w x t
theorem alL(ok:aL P w H h)(e:Rd H a u):ϟ P w H h a u:=e.ok ok
theorem mq(ok:aL P w H h)(e:Rd H a (.dK Ϸ)):↥Ϸ<=ϰ/\(a==sysModules)=false/\∃vs,KV Ϸ vs/\h.DictOf (gJ P w) a vs:=
 show ϟ P w H h a (.dK Ϸ)from alL ok e
theorem Af(ok:aL P w H h)(e:H a=↑(.dK Ϸ)):↥Ϸ<=ϰ/\(a==sysModules)=false/\∃vs,KV Ϸ vs/\h.DictOf (gJ P w) a vs:=mq ok (.inl e)
def Ϥ(H:Hp)(a:δ)(y:V)(r:Option V):Prop:=
 (∃Ϸ k,Rd H a (.dK Ϸ)/\y=kV k/\r=aK Ϸ k)\/False
def dW(H:Hp)(a:δ)(y v:V)(H':Hp):Prop:=
 (∃Ϸ k,H a=↑(.dK Ϸ)/\y=kV k/\↥Ϸ<ϰ/\H'=upd H a (.dK (putK Ϸ k v)))\/False
theorem Ϥ.k{H:Hp}{a:δ}{k:Key}(e:H a=↑(.dK Ϸ)):Ϥ H a (kV k) (aK Ϸ k):=.inl #[Ϸ,k,.inl e,rfl,rfl]
theorem dW.k{H:Hp}{a:δ}{k:Key}{v:V}(e:H a=↑(.dK Ϸ))(c:↥Ϸ<ϰ):dW H a (kV k) v (upd H a (.dK (putK Ϸ k v))):=.inl #[Ϸ,k,e,rfl,c,rfl]
section
variable{X:Cx}{ϵ:List (δ×Obj)}{σ:St}{H:Hp}{s:μ}{a:δ}{y v:V}{u r:ε}{o:Option V}{A:ϴ}{E:ε->μ->Prop}
def Inv.big(I:Inv X ϵ σ H s):sysModules<⇑s:=by
 let h:mainGlobals<⇑s:=(I.mod.glob.keeps I.bk).lt;show Nat.lt_trans (by decide) h
def Rv(n:A.units+1<cLine)(I:Inv X ϵ σ H s)(g:Ϥ H a y ↑v)(ry:RelV y u)(h:∀c s',Inv X ϵ σ H s'->RelV v c->Q c s'):Ϧ ∅ A (getItem (.ref a) u) Q E s:=by
 obtain⟨Ϸ,k,e,j,l⟩|hF:=g
 .subst j;let#[z,hd,vs,f,dd]:=mq I.hok e;let#[c,m,i]:=cV.some_of (v:=v) (o:=valueAt vs k) (by rw[l];show f.val k);show wpAny_getItem_of (pG ry) dd.mapOf m (h c _ (I.tok _) i)
 .show hF.elim
def ae8(i:A.units+1<cLine)(I:Inv X ϵ σ H s)(g:Ϥ H a y o)(ry:RelV y u)(h:∀s',Inv X ϵ σ H s'->Q (.bool o.isSome) s'):Ϧ ∅ A (ad2 .In u (.ref a)) Q E s:=by
 obtain⟨Ϸ,k,e,f,l⟩|hF:=g
 .subst f;let#[z,hd,vs,c,dd]:=mq I.hok e;show wpAny_in_of (pG ry) hd dd.mapOf ?_;rw[<-(c.val k).isSome_eq, <-l];show h _ (I.tok _)
 .show hF.elim
def ajZ(i:A.units+1<cLine)(I:Inv X ϵ σ H s)(g:Ϥ H a y o)(ry:RelV y u)(h:∀s',Inv X ϵ σ H s'->Q (.bool (!o.isSome)) s'):Ϧ ∅ A (ad2 .NotIn u (.ref a)) Q E s:=by
 obtain⟨Ϸ,k,e,f,l⟩|hF:=g
 .subst f;let#[z,hd,vs,c,dd]:=mq I.hok e;show wpAny_notIn_of (pG ry) hd dd.mapOf ?_;rw[<-(c.val k).isSome_eq, <-l];show h _ (I.tok _)
 .show hF.elim
theorem Eg(I:Inv X ϵ σ H s)(g:tL (H a))(hs:amn a s.heap h')(i:∃q,h'.get? a=↑q)(f:ϟ X.prog X.w (upd H a c) h' a c):Inv X ϵ σ (upd H a c) {s with heap:=h',toks:=t'}:=
 I.write (x:=a) (e:=a) g (.inl rfl) (λb q j z=>(hs.2 b j).trans z) i f
theorem Ci(z:↥Ϸ<=ϰ)(hd:(a==sysModules)=false)(c:KV Ϸ vs)(dd:h'.DictOf (gJ P w) a vs):ϟ P w H' h' a (.dK Ϸ):=#[z,hd,vs,c,dd]
def ahz(x:A.units+1<cLine)(I:Inv X ϵ σ H s)(g:dW H a y v H')(ry:RelV y u)(i:RelV v r)(h:∀s',Inv X ϵ σ H' s'->Q PUnit.unit s'):Ϧ ∅ A (setItem (.ref a) u r) Q E s:=by
 obtain⟨Ϸ,k,e,j,l,m⟩|hF:=g
 .subst j m;let#[z,hd,vs,c,dd]:=Af I.hok e;let n:↥vs<=ϰ:=by rw[<-↥c];show z
  let o:↥(putK Ϸ k v)<=ϰ:=by have:=Qy Ϸ k v;omega
  show wpAny_setItem_pairs (hsz:=n) (pG ry) dd λh' f hs=>h _ ?_
  let p:∃q,h'.get? a=↑q:=let⟨q,_,_,hq,_⟩:=f;#[q,hq];show Eg I (by rw[e];show True.intro) hs p (Ci o hd (c.put k i) f)
 .show hF.elim
end
section
variable{X:Cx}{ϵ:List (δ×Obj)}{σ:St}{H:Hp}{s:μ}{a:δ}{Ϸ:List (Key×V)}{k:Key}{u:ε}{A:ϴ}{E:ε->μ->Prop}
def akV(I:Inv X ϵ σ H s)(e:H a=↑(.dK Ϸ))(ry:RelV (kV k) u)(l:aK Ϸ k=↑v)(n:c=[]\/∃x,c=[x])(h:∀g s',Inv X ϵ σ (upd H a (.dK (gA Ϸ k))) s'->RelV v g->Q g s'):Ϧ ∅ A (call (.builtin "dict.pop") (.ref a::u::c)) Q E s:=by
 let#[z,hd,vs,f,dd]:=Af I.hok e;let#[g,p,m]:=cV.some_of (v:=v) (o:=valueAt vs k) (by rw[<-l];show f.val k);let y:(keyPart u).isSome=true:=by
  cases k with
  |inl i=>let#[t,q]:=(show ∃t,u=Value.int i t from ry);subst q;rfl
  |inr x=>let#[t,q]:=(show ∃t,u=Value.str x t from ry);subst q;rfl
 let B:argsOk "dict.pop" #[.ref a::u::c,[]]:=by
  obtain q|⟨x,q⟩:=n
  .subst q;show F.args_dict_pop_2 _ _
  .subst q;show F.args_dict_pop_3<*_
 show call_meetsIn F.slot_dict_pop dd.typeIs F.entry_dict_pop B (meets_dict_pop_there (gJ X.prog X.w) a (pG ry) c n y)
  #[vs,g,dd,by rw[<-↥f];show z,p,λh' j hs=>h g _ ?_ m]
 let C:∃q,h'.get? a=↑q:=let⟨q,_,_,hq,_⟩:=j;#[q,hq];show Eg I (by rw[e];show True.intro) hs C (Ci (afT (akY Ϸ k) z) hd (f.drop k) j)
end
def Q7(i:Ϫ):=∀a c,subscripted i false a c=operate [a,c] (getItem a c)
def af9{w:ϭ}{A:ϴ}{E:ε->μ->Prop}{s:μ}{env:Env}{value a:Ϫ}{pos:Pos}{T id:String}{Q:ε->μ->Prop}(m:typeLookup (.type T) "__getitem__"=pure ↑(.builtin id))(hs:Q7 a)(h:Ϧ (Ϩ prog w) A (eval value env) (λo e=>Ϧ (Ϩ prog w) A (eval a env) (λi s₂=>s₂.TypeIs o T/\Ϧ (Ϩ prog w) A (getItem o i) Q E s₂) E e) E s):Ϧ (Ϩ prog w) A (eval (.Subscript value a pos) env) Q E s:=by
 show Subscript_ (adq h (λo e g=>adq g (λi s₂ c=>?_) λ_ _ x=>x) λ_ _ x=>x);let#[l,c]:=c;unfold subscriptTail;show π ?_;rw[getitemInPython_of_ne l.not_modules];show π (wpAny_specialOf l m ?_);let fin:Ϧ (Ϩ prog w) A (subscripted a false o i) (λr f=>Ϧ (Ϩ prog w) A (letTemporaryGo value o r>>=λ_=>pure r) Q E f) E s₂:=by
  rw[hs o i];show wpAny_operating (adq c (λr f j=>π (wpAny_letTemporaryGo (ϯ j))) λ_ _ x=>x)
 first
  |show ϯ (π fin)
  |show π (ϯ (π fin))
  |show π fin
def abv{X:Cx}{σ:St}{H:Hp}{s:μ}{a:δ}{y:V}{o:Option V}(I:Inv X ϵ σ H s)(g:Ϥ H a y o):s.TypeIs (.ref a) "dict":=by
 obtain⟨Ϸ,k,e,_,_⟩|hF:=g
 .let#[_,_,vs,_,dd]:=mq I.hok e;show dd.typeIs
 .show hF.elim
theorem aaZ(h:ϫ)(a:sysModules<h.objs.size):ϟ P w H (h.push {cls:=.type "dict",data:=.dict #v[]}) h.objs.size (.dK []):=
 #[ag3 _,beq_eq_false_iff_ne.mpr (Ne.symm (adb a)),[],.nil,Heap.DictOf.new h]
def acj:TE:=λ_ H Q=>∀p,H p=none->Q (.ref p) (upd H p (.dK []))
theorem ae9:PE X (.Dict [] [] pos) acj:=λϵ s σ H Q I h=>
 wpAny_Dict_empty #[.ref ⇑s,_,I.laid (a:=⇑s) (o:=.dK []) (t':=s.toks) (λ_ _ q=>ϲ _ q) (Ϭ _) (aaZ s.heap I.big),rfl,h _ (I.hok.fresh (Ϭ _))]
def Mz:List (TE×TE)->St->Hp->(List (V×V)->Hp->Prop)->Prop
 |[],_,H,Q=>Q [] H
 |(tk,tv)::r,σ,H,Q=>tk σ H λx H1=>tv σ H1 λy H2=>Mz r σ H2 λps a=>Q ((x,y)::ps) a
abbrev VV:List (V×V)->List (ε×ε)->Prop:=Paired λp q=>RelV p.1 q.1/\RelV p.2 q.2
def yz(X:Cx)(pos:Pos)(keys:List (Option Ϫ))(a:List Ϫ)(c:List (TE×TE)):Prop:=
 ∀(ϵ:List (δ×Obj))(s:μ)(σ:St)(H:Hp)(Q:List (V×V)->Hp->Prop),Inv X ϵ σ H s->Mz c σ H Q->
  Ϧ ∅ X.A (evalPairs (pairTrees keys a X.env pos)) (λvs s'=>∃ps H',Inv X ϵ σ H' s'/\VV ps vs/\Q ps H') X.xe s
theorem adn:yz X pos [] [] []:=λϵ s σ H Q I h=>pairTrees_nil_walk #[[],H,I,.nil,h]
theorem Gf(e:PE X k tk)(f:PE X v tv)(g:yz X pos ks vs a):yz X pos (↑k::ks) (v::vs) ((tk,tv)::a):=λϵ s σ H Q I h=>
 pairTrees_cons_walk (υ (e ϵ s σ H _ I h) λu i _u=>_Z.e23 _u λx H1 j rx l=>υ (f ϵ i σ H1 _ j l) λB m _u=>_Z.e23 _u λy H2 n ry o=>
  υ (g ϵ m σ H2 _ n o) λws C z1=>by let#[ps,p,q,c,z]:=z1;show #[(x,y)::ps,p,q,.cons #[rx,ry] c,z])
def mF(Ϸ a:List (Key×V)):List (Key×V):=a.foldl (λc e=>putK c e.1 e.2) Ϸ
def KV.merge:∀{a:List (Key×V)}{rs:List (Key×ε)}{Ϸ:List (Key×V)}{vs:List (Key×ε)},KV a rs->KV Ϸ vs->KV (mF Ϸ a) (merged vs rs):=by
 intro a rs Ϸ vs r;unfold KV at r;induction r generalizing Ϸ vs with
 |nil=>intro q;show q
 | @cons p q ps g h t c=>
   intro f;let e:KV (putK Ϸ p.1 p.2) (stored vs q.1 q.2):=by
    have:=f.put p.1 h.2;rw[<-h.1];show this
   show c e
theorem Nv:∀(a Ϸ:List (Key×V)),↥(mF Ϸ a)<=↥Ϸ+↥a
 |[],Ϸ=>by show ↥Ϸ<=↥Ϸ+0;omega
 |p::r,Ϸ=>by
  let h1:=Nv r (putK Ϸ p.1 p.2);let h2:=Qy Ϸ p.1 p.2;show(mF (putK Ϸ p.1 p.2) r).length<=_;rw[abU];omega
theorem V6:∀{Ϸ:List (Key×V)}{ws:List (ε×ε)},VV (Ϸ.map λe=>(kV e.1,e.2)) ws->∃rs,Carries (gJ P w) ws rs/\KV Ϸ rs
 |[],_,r=>by rw[auy]at r;cases r;show#[[],True.intro,.nil]
 |p::Ϸ,_,r=>by
  rw[aen]at r;cases r with
  | @cons a b as bs h t=>
    let#[rs,c,q]:=V6 (P:=P) (w:=w) t;let#[g,f]:=b;show#[(p.1,f)::rs,#[pG h.1,rfl,c],.cons #[rfl,h.2] q]
def ac4(a:List (TE×TE)):TE:=λσ H Q=>∀p,H p=none->Mz a σ (upd H p (.dK [])) λps H2=>H2 p=↑(.dK [])/\∃Ϸ:List (Key×V),ps=Ϸ.map (λc=>(kV c.1,c.2))/\↥Ϸ<=15/\Q (.ref p) (upd H2 p (.dK (mF [] Ϸ)))
def aiq(h:yz X pos keys f g)(i:keys.all (·.isSome)=true)(p:↥keys=↥f)(u:keys≠[])(l:↥keys<=15):PE X (.Dict keys f pos) (ac4 g):=by
 intro ϵ s σ H Q I q;let v:=I.hok.fresh (Ϭ ⇑s);let x:=I.laid (a:=⇑s) (o:=.dK []) (h':=s.heap.push {cls:=.type "dict",data:=.dict #v[]}) (t':=s.toks) (λ_ _ q=>ϲ _ q) (Ϭ _) (aaZ s.heap I.big);show wpAny_Dict_walk (knd:=gJ X.prog X.w) i p u l (υ (h ϵ _ σ _ _ x (q _ v)) λws G y=>?_);let#[ps,H2,n,m,e,Ϸ,ep,lk,B]:=y;subst ep;let#[rs,c,rk]:=V6 (P:=X.prog) (w:=X.w) m;let#[z,hd,C,D,dd]:=Af n.hok e;cases D;show#[rs,c,dd,λh' j hs=>#[.ref ⇑s,_,?_,rfl,B]];let E:↥(mF [] Ϸ)<=ϰ:=by
  let h1:=Nv Ϸ [];rw[aqN]at h1;rw[Ϯ];omega
 let F:∃q,h'.get? ⇑s=↑q:=let⟨q,_,_,hq,_⟩:=j;#[q,hq];show Eg n (by rw[e];show True.intro) hs F (Ci E hd (rk.merge .nil) j)
structure M1(X:Cx)(o:Ϫ)(m:Str)(apos:Pos)(e:Ϫ)(cpos:Pos):Prop where
 base:attributeBase o m X.env (eval o X.env)=eval o X.env
 few:((backTo cpos (ϳ [e] X.env)).all (λx=> !x.1)&&(backToKw cpos (keywordEach [] X.env)).all (λx=>x.1.isSome)
  &&decide (↥([e]:List Ϫ)+↥([]:List Keyword)+(if([]:List Keyword).isEmpty then 0 else 1)<30))=true
 line:(apos.endLine==cpos.line)=true
 trees:backTo cpos (ϳ [e] X.env)=[(false,eval e X.env)]
structure M2(X:Cx)(o:Ϫ)(m:Str)(apos:Pos)(e f:Ϫ)(cpos:Pos):Prop where
 base:attributeBase o m X.env (eval o X.env)=eval o X.env
 few:((backTo cpos (ϳ [e,f] X.env)).all (λx=> !x.1)&&(backToKw cpos (keywordEach [] X.env)).all (λx=>x.1.isSome)
  &&decide (↥([e,f]:List Ϫ)+↥([]:List Keyword)+(if([]:List Keyword).isEmpty then 0 else 1)<30))=true
 line:(apos.endLine==cpos.line)=true
 trees:backTo cpos (ϳ [e,f] X.env)=[(false,eval e X.env),(false,eval f X.env)]
def pL(H:Hp)(a:δ):Prop:=(∃Ϸ,Rd H a (.dK Ϸ))\/False
def Xy{X:Cx}{σ:St}{H:Hp}{s:μ}{a:δ}(I:Inv X ϵ σ H s)(d:pL H a):s.TypeIs (.ref a) "dict"/\(∀b,Value.ref a=.ref b->∃c,s.heap.get? b=↑c/\c.dict=none)/\(a==sysModules)=false:=by
 obtain⟨Ϸ,e⟩|hF:=d
 .let#[_,hd,vs,_,dd]:=mq I.hok e;show#[dd.typeIs,λb q=>?_,hd];cases q;let#[c,_,_,h1,h2,_]:=dd;show#[c,h1,h2.2.1]
 .show hF.elim
section
variable{X:Cx}{ϵ:List (δ×Obj)}{σ:St}{H:Hp}{s:μ}{a:δ}{y d:V}{u r:ε}{o:Option V}{A:ϴ}{E:ε->μ->Prop}
def aii(j:A.units+1<cLine)(I:Inv X ϵ σ H s)(g:Ϥ H a y o)(ry:RelV y u)(h:∀f s',Inv X ϵ σ H s'->RelV (o.getD .non) f->Q f s'):Ϧ ∅ A (call (.builtin "dict.get") [.ref a,u]) Q E s:=by
 obtain⟨Ϸ,k,e,i,l⟩|hF:=g
 .subst i;let#[z,hd,vs,c,dd]:=mq I.hok e;show call_meetsIn F.slot_dict_get dd.typeIs F.entry_dict_get (F.args_dict_get_2 _ _) (meets_dict_get (gJ X.prog X.w) a (pG ry) hd) #[_,dd.mapOf,h _ _ (I.tok _) ?_];rw[l];show(c.val k).getD rfl
 .show hF.elim
end
section
variable{X:Cx}{ϵ:List (δ×Obj)}{σ:St}{H:Hp}{s:μ}{a:δ}{Ϸ:List (Key×V)}{A:ϴ}{E:ε->μ->Prop}
def aoD(I:Inv X ϵ σ H s)(e:Rd H a (.dK Ϸ))(h:∀p s',H p=none->Inv X ϵ σ (upd H p (.dK Ϸ)) s'->Q (.ref p) s'):Ϧ ∅ A (call (.type "dict") [.ref a]) Q E s:=by
 let#[z,hd,vs,c,dd]:=mq I.hok e;show kt_call_dict hd dd (by rw[<-↥c];show z) λh' f hs=>?_
 show h _ _ (I.hok.fresh (Ϭ _)) (I.laid (a:=⇑s) (o:=.dK Ϸ) (t':=s.toks) (λb q g=>?_) (Ϭ _) (Ci z (beq_eq_false_iff_ne.mpr (Ne.symm (adb I.big))) c f))*>(hs.2 b (adb (abN g))).trans (ϲ _ g)
end
end _L
namespace _L
open PySem PySem.Spec PyProof.Rows
section
variable{P:ϱ}{w:ϭ}{K:ϩ}{mg:MG}{base:ϫ}
def cF.binds{x qual:Str}{st:ϧ}{f:δ}{fd:aij}(F:cF K x qual st f fd)(h:∀(kV a pm:ε)(an:Option δ)(c ct:ε)(us:List ε),↥us=↥ps->bindArgs (atq x qual (lg st) (Ψ st) (ς st) .none kV a pm an c ct) #[us,[]]=pure (ps.zip us)):Binds K fd ps []:=by
 let#[oc,od,kV,a,pm,an,c,ct,e,rfl,lk,g]:=F.ex;show .all (h kV a pm an c ct)
end
def al5{A B:Prop}(h:B):if false=true then A else B:=by
 rw[if_neg aa5];show h
def adH{A B:Prop}(h:A):if true=true then A else B:=by
 rw[if_pos rfl];show h
def ζ(H H':Hp):=∀b o,H b=↑o->H' b=↑o
theorem ζ.refl(H:Hp):ζ H H:=λ_ _ h=>h
theorem ζ.trans(a:ζ H H1)(b:ζ H1 H2):ζ H H2:=λc o h=>b c o (a c o h)
def ζ.free(e:ζ H H')(h:H' l=Option.none):H l=Option.none:=by
 cases q:H l with
 |none=>rfl
 |some o=>
  rw[e l o q]at h;cases h
def ζ.seq{K:ϩ}{H H':Hp}{a:δ}(e:ζ H H')(h:θ K H a xs):θ K H' a xs:=by
 rcases h with(h|⟨o,h⟩)|h
 .show .inl (.inl (e<*h))
 .show .inl (.inr #[o,e<*h])
 .show .inr h
theorem qF.stay(k:∀v o ws,v≠e->h.get? v=↑o->o.data=.fields ws->∃o' f,h'.get? v=↑o'/\o'.data=.fields f/\f[2]?=ws[2]?):∀{l:List δ}{c:Option ε},qF h c l->e∉l->qF h' c l
 |[],_,q,_=>q
 |a::r,c,⟨g,o,vs,i,j,m⟩,n=>by
  let#[o',f,k1,k2,k3]:=k a o vs (λz=>n (by simp[z])) i j;show#[g,o',f,k1,k2,?_];rw[k3];show qF.stay k m λz=>n (by simp[z])
theorem Ctx.yes(q:c=↑.none):Ctx h e true c:=#[λ_=>q,[],q,by simp,.nil]
def Ctx.stay(q:Ctx h e b c)(k:∀v o ws,v≠e->h.get? v=↑o->o.data=.fields ws->∃o' a,h'.get? v=↑o'/\o'.data=.fields a/\a[2]?=ws[2]?):Ctx h' e b c:=by
 let#[g,l,i,f,j]:=q;show#[g,l,i.stay k f,f,j]
def aL.free(x:aL P w H h)(e:h.get? a=none):H a=none:=by
 cases q:H a with
 |none=>rfl
 |some u=>
  let#[c,z]:=(x a u q).there;rw[e]at z;cases z
section
variable{M:Model}{A:ϴ}{E:ε->μ->Prop}{s:μ}
def Nx(i:A.frames=↑(env::outer))(p:s.heap.FunFrames base (env::outer))(z:env.frame=↑L)(u:s.heap.get? e=↑oe)(hd:oe.data=.fields vs)(hsz:1<vs.size)(k:∀(h':ϫ)(T:δ)(v:Obj)(ws:Array ε),⇑s<=h'.objs.size->(∀b o,s.heap.get? b=↑o->b≠e->b∉di (env::outer)->h'.get? b=↑o)->
   (∀b o,s.heap.get? b=↑o->b≠e->∃sl,h'.get? b=some {o with slots:=sl})->⇑s<=T->h'.get? e=↑(oe.mapFields (·.setIfInBounds 1 (.ref T)))->
   h'.get? T=↑v->v.data=.fields ws->ws[3]?=↑(rawInt L)->Q PUnit.unit {s with heap:=h'}):Ϧ M A (do
   let a<-frameOf env;let pl<-entryPlaceOf L c;let b<-EntryCells.newEntry head a .none (rawInt L) .none pl
   setField (.ref e) 1 b) Q E s:=by
 let B:e∉(env::outer).filterMap (·.frame):=λm=>by
  let#[_,o,x,C]:=p.mem m;rw[u]at x;cases x;show C vs hd
 show π (wpAny_frameOf_fun i p z λh1 g=>π (wpAny_entryPlaceOf λpl y=>?_));unfold EntryCells.newEntry newFields;show π (aiY ?_ (y.sizeOk5 _ _ _ _ _));let e1:h1.get? e=↑oe:=(g.2.1 e B)<|>u;let j:e≠h1.objs.size:=adb (abN e1);show wpAny_setField (ϲ _ e1) hd hsz (k _ h1.objs.size {cls:=.type "traceback",dict:=none,data:=.fields (([head,.ref L,.none,rawInt L,.none]:List ε)++(if pl.isEmpty then agU 6 Value.none else pl)).toArray} (([head,.ref L,.none,rawInt L,.none]:List ε)++(if pl.isEmpty then agU 6 Value.none else pl)).toArray ?_ (λb o l f n=>?_) (λb o l f=>?_) (aqv g.1.symm) ?_ ?_ ?_ ?_)
 .rw[ata,ajX,g.1];show aoY _
 .rw[acO<*(Ne.symm f)];show ϲ _ ((g.2.1 b n)<|>l)
 .let#[sl,q]:=g.2.2 b o l;show#[sl,by rw[acO<*(Ne.symm f)];show ϲ _ q]
 .show aeP _ (ϲ _ e1) (Obj.isFreed_of_fields (Obj.data_mapFields hd _))
 .rw[acO<*j];show abn h1 rfl
 .show rfl
 .first
   |(simp;done)
   |(obtain rfl|⟨_,_,_,_,_,_,_,rfl⟩:=y<;>simp)
structure wL(h h':ϫ)(ch fs:List δ):Prop where
 keep:∀b o,h.get? b=↑o->b∉fs->b∉ch->h'.get? b=↑o
 slot:∀b o,h.get? b=↑o->b∉ch->∃sl,h'.get? b=some {o with slots:=sl}
 there:∀b o,h.get? b=↑o->∃o',h'.get? b=↑o'
def U6(p:A.frames=↑(env::outer))(hl:s.heap.FunFrames base (env::outer))(I:env.frame=↑L)(F:bO s.heap e cls d tb fl)(J:(fl==rawInt L)=false)(k:∀(h':ϫ)(T:δ),wL s.heap h' (e::tb.toList) (di (env::outer))->⇑s<=T->bO h' e cls d ↑T (rawInt L)->Q PUnit.unit {s with heap:=h'}):Ϧ M A (noteFrame (.ref e) env) Q E s:=by
 let#[O,vs,m,hc,P,hd,h1,hz,h2,ht]:=F
 let fin:∀{R:ϫ}{h':ϫ}{T:δ}{n:Obj}{ws:Array ε},(∀v o ws,v≠e->s.heap.get? v=↑o->o.data=.fields ws->∃o' u,h'.get? v=↑o'/\o'.data=.fields u/\u[2]?=ws[2]?)->R.get? e=↑O->R.objs.size<=T->h'.get? e=↑(O.mapFields (·.setIfInBounds 1 (.ref T)))->h'.get? T=↑n->n.data=.fields ws->
   ws[3]?=↑(rawInt L)->bO h' e cls d ↑T (rawInt L):=λ{R h' T n ws} kk e0 hT a g f q4=>by
  let S:=Obj.data_mapFields hd (·.setIfInBounds 1 (Value.ref T));show#[_,_,a,(Obj.cls_mapFields _ _)<|>hc,?_,S,?_,~~~hz,?_,λT' eT=>?_]
  .let#[c0,d0,dt,sl]:=O;cases hd;show P
  .have :1<vs.size:=()
   simp[this]
  .rw[aim (by decide)];show h2.stay kk
  .cases eT;show#[λz=>aiA _ (aco (abN e0) (z▸hT)),n,ws,g,f,q4]
 unfold noteFrame;simp only[I];cases tb with
 |none=>
  let l:vs[1]?=↑Value.none:=h1;show π (ahl m hd l ?_);rw[if_neg (by decide)];show Nx p hl I m hd () λh' T n ws a1 U j x y W X Y=>k h' T #[λb o a g f=>U b o a (λz=>f (by simp[z])) g,λb o a f=>j b o a λz=>f (by simp[z]),λb o a=>?_] x (fin (λv o ws G a g=>by let#[sl,q]:=j v o a G;show#[_,ws,q,g,rfl]) m x y W X Y)
  by_cases z:b=e
  .subst z;show#[_,y]
  .let#[sl,q]:=j b o a z;show#[_,q]
 |some i=>
  let#[Ϻ,oT0,Z,B,H,t3]:=ht i rfl;let l:vs[1]?=↑(Value.ref i):=h1;show π (ahl m hd l ?_);rw[if_pos (show(Value.ref i !=Value.none)=true from by simp)];show π (ahl B H t3 ?_);rw[if_neg (by rw[J];show aa5)];show π (wpAny_setField B H (amb.mp t3).1 ?_);let c:∀b,b≠i->(s.heap.update i (Obj.mapFields (·.setIfInBounds 3 Value.none))).get? b=s.heap.get? b:=λb C=>acO _ _ (Ne.symm C)
  let Zx:=aeP (Obj.mapFields (·.setIfInBounds 3 Value.none)) B (Obj.isFreed_of_fields (Obj.data_mapFields H _));let hsz:(s.heap.update i (Obj.mapFields (·.setIfInBounds 3 Value.none))).objs.size=⇑s:=ata ..;let aa:(s.heap.update i (Obj.mapFields (·.setIfInBounds 3 Value.none))).FunFrames base (env::outer):=hl.of_keeps λb o C nf=>#[o,(c b λz=>by
   subst z;rw[B]at C;cases C;show nf Z H).trans C,rfl]
  show Nx (s:={s with heap:=s.heap.update i (Obj.mapFields (·.setIfInBounds 3 Value.none))}) p aa I ((c e (Ne.symm Ϻ))<|>m) hd () λh' T n ws a1 U j x y W X Y=>
   k h' T #[λb o a g f=>U b o ((c b λz=>f (by simp[z]))<|>a) (λz=>f (by simp[z])) g,λb o a f=>j b o ((c b λz=>f (by simp[z]))<|>a) λz=>f (by simp[z]),λb o a=>?_] (hsz▸x) (fin (λv o ws G a g=>by
     by_cases D:v=i
     .subst D;let#[sl,q]:=j v _ Zx G;rw[B]at a;cases a;show#[_,_,q,Obj.data_mapFields g _,by rw[aim (by decide)]]
     .let#[sl,q]:=j v o ((c v D)<|>a) G;show#[_,ws,q,g,rfl]) ((c e (Ne.symm Ϻ))<|>m) x y W X Y)
  by_cases z:b=e
  .subst z;show#[_,y]
  .by_cases D:b=i
   .subst D;let#[sl,q]:=j b _ Zx z;show#[_,q]
   .let#[sl,q]:=j b o ((c b D)<|>a) z;show#[_,q]
theorem aiG(a:A.frames=↑(env::outer))(c:s.heap.FunFrames base (env::outer))(f:env.frame=↑L)(F:bO s.heap e cls d tb .none)(k:∀(h':ϫ)(T:δ),wL s.heap h' (e::tb.toList) (di (env::outer))->⇑s<=T->bO h' e cls d ↑T (rawInt L)->Q PUnit.unit {s with heap:=h'}):Ϧ M A (noteFrame (.ref e) env) Q E s:=
 U6 a c f F (by simp[rawInt]) k
def aol{L e:δ}{cls:ε}{d:Option δ×Bool}{tb:Option δ}{Q:Unit->μ->Prop}(a:env.frame=↑L)(F:bO s.heap e cls d tb (rawInt L))(c:tb.isSome=true)(k:Q PUnit.unit s):Ϧ M A (noteFrame (.ref e) env) Q E s:=by
 let#[n,vs,f,o,g,hd,h1,p,h2,i]:=F;cases tb with
 |none=>cases c
 |some T=>
  let#[_,q,ws,j,l,m]:=i T rfl;show wpAny_noteFrame_inFlight a f hd h1 j l m k
def anb(F:bO s.heap e cls d ↑T p)(k:∀h',wL s.heap h' [T] []->bO h' e cls d ↑T .none->Q PUnit.unit {s with heap:=h'}):Ϧ M A (setFlight (.ref e) none) Q E s:=by
 let#[u,vs,i,x,f,hd,h1,y,h2,B]:=F;let#[j,G,ws,a,c,C]:=B T rfl;let l:3<ws.size:=(amb.mp C).1;show wpAny_setFlight_none i hd h1 a c l (k _ #[λb o q _ n=>?_,λb o q n=>#[o.slots,?_],λb o q=>?_] ?_)
 .rw[acO<*(λz=>n (by simp[z]))];show q
 .rw[acO<*(λz=>n (by simp[z]))];show q
 .by_cases z:b=T
  .subst z;show#[_,aeP _ a (Obj.isFreed_of_fields (Obj.data_mapFields c _))]
  .show#[o,by rw[acO<*(Ne.symm z)];show q]
 .show#[u,vs,?_,x,f,hd,h1,y,h2.stay λv o ws H g m=>?_,λI D=>?_]
  .rw[acO<*j];show i
  .by_cases z:v=T
   .subst z;rw[a]at g;cases g;show#[_,_,aeP _ a (Obj.isFreed_of_fields (Obj.data_mapFields c _)),Obj.data_mapFields m _,by rw[aim (by decide)]]
   .show#[o,ws,by rw[acO<*(Ne.symm z)];show g,m,rfl]
  .cases D;show#[j,_,_,aeP _ a (Obj.isFreed_of_fields (Obj.data_mapFields c _)),Obj.data_mapFields c _,by simp[l]]
end
section
variable{X:Cx}{ϵ:List (δ×Obj)}{σ:St}{H H':Hp}{s s':μ}
def Ch(X:Cx)(ϵ:List (δ×Obj))(b:δ):Prop:=(b∈X.ex\/X.s₀.heap.get? b=none)/\b≠X.env.locals/\(∀x c,X.env.cells.lookup x=↑c->c≠b)/\∀p∈X.pn++ϵ,p.1≠b
def Inv.ch(I:Inv X ϵ σ H s)(h:s.heap.get? b=none):Ch X ϵ b:=by
 show#[?_,λz=>?_,λx c q z=>?_,λp g z=>?_]
 .by_cases e:b∈X.ex
  .show .inl e
  .show .inr ?_;cases q:X.s₀.heap.get? b with
   |none=>rfl
   |some o=>
    let#[o',f]:=I.base.there b o q e;rw[h]at f;cases f
 .let#[_,#[o,_,_,a,_],_]:=I.loc;rw[<-z,h]at a;cases a
 .let#[_,o,a,_]:=I.cell x c q;rw[z,h]at a;cases a
 .have :=(I.pin p g).1;rw[z,h]at this;cases this
def Inv.noted{ch:List δ}(I:Inv X ϵ σ H s)(N:wL s.heap h' ch (di X.stack))(i:∀b∈ch,H b=none/\Ch X ϵ b):Inv X ϵ σ H {s with heap:=h'}:=by
 let jP:∀b u,H b=↑u->b∉di X.stack/\b∉ch:=λb u e=>#[(λz=>by rw[I.stkFree b z]at e;cases e),(λz=>by rw[(i b z).1]at e;cases e)]
 show I.call (g':=s.gens) (d':=s.drawn) (t':=s.toks) (ch:=ch) (h':=h') #[λb o e _ a f=>N.keep b o e a f,λb o e _ _ f=>N.slot b o e f,λ_ _ _ n _=>n,λb o e _=>N.there b o e,λ_ _ e=>e,λ_ _ _ e=>e,λb ps e=>#[#v[],by rw[e];simp]] ?_ I.bare λb a=>(i b a).2
 intro b u e;show(I.hok b u e).stay (λc v g q=>?_) (λ_ q=>q) λ_ _ q=>q
 obtain z|z:=g
 .subst z;show N.keep c v q (jP c u e).1 (jP c u e).2
 .show N.keep c v q (jP c _ z).1 (jP c _ z).2
def uL(X:Cx)(ϵ:List (δ×Obj))(σ:St)(H:Hp)(s:μ)(e:δ)(cls:ε)(d:Option δ×Bool):Prop:=
 Inv X ϵ σ H s/\∃tb a,bO s.heap e cls d tb a/\(a=.none\/(a=rawInt X.env.locals/\tb.isSome=true))/\∀b∈e::tb.toList,H b=none/\Ch X ϵ b
def bZ(X:Cx)(Kx:St->XK):=∀(ϵ:List (δ×Obj))(σ:St)(H:Hp)(s:μ)(e:δ)(cls:ε)(d:Option δ×Bool),uL X ϵ σ H s e cls d->Kx σ cls d H->X.xe (.ref e) s
def Inv.flown(I:Inv X ϵ σ H s)(c:bY X.prog X.w X.stack H s E x s'):∃e cls d H',x=.ref e/\uL X ϵ σ H' s' e cls d/\E cls d H':=by
 let#[e,tb,cls,d,H',rfl,os,bare,un,hok,F,ch,q]:=c;let f:Inv X ϵ σ H' s':=I.call' (ch:=[]) os un hok bare λb z=>absurd z (by simp)
 show#[e,cls,d,H',rfl,#[f,tb,.none,F,.inl rfl,λb a=>#[(ch b a).1,I.ch (ch b a).2]],q]
theorem Vw(h:X.xe=λ_ _=>False):bZ X (λ_ _ _ _=>False):=λ_ _ _ _ _ _ _ _ z=>z.elim
def uL.note(x:uL X ϵ σ H s e cls d)(a:X.stack=X.env::X.outer)(f:X.env.frame=↑X.env.locals)(k:∀s' T,Inv X ϵ σ H s'->bO s'.heap e cls d ↑T (rawInt X.env.locals)->(∀b∈[e,T],H b=none/\Ch X ϵ b)->Q PUnit.unit s'):Ϧ M X.A (noteFrame (.ref e) X.env) Q E s:=by
 let#[I,tb,n,F,c,ch]:=x;obtain z|⟨z,j⟩:=c
 .subst z;let g:=I.stack;rw[a]at g;show aiG (base:=X.base) (I.ok.frames<|>(by rw[a])) g f F λh' T N i l=>k _ T (I.noted (by rw[a];show N) ch) l λb m=>?_
  obtain z|z:=aaF.mp m
  .subst z;show ch _ abD
  .let z':b=T:= ~~~z
   subst z';show#[I.hok.fresh i,I.ch (ajw i)]
 .subst z;cases tb with
  |none=>cases j
  |some T=>show aol f F rfl (k s T I F ch)
def Inv.off(I:Inv X ϵ σ H s)(F:bO s.heap e cls d ↑T a)(c:∀b∈[e,T],H b=none/\Ch X ϵ b)(k:∀s',Inv X ϵ σ H s'->bO s'.heap e cls d ↑T .none->Q PUnit.unit s'):Ϧ M A (setFlight (.ref e) none) Q E s:=by
 show anb F λh' N f=>k _ (I.noted (ch:=[T]) #[λb o q _ n=>N.keep b o q (by simp) n,N.slot,N.there] λb g=>?_) f
 let z:b=T:= ~~~g
 subst z;show c b (by simp)
end
def Ο{cc:Bool}{P:ϱ}{w:ϭ}{K:ϩ}{mg:MG}{base:ϫ}{qual:Str}{scope:ahD}{f:δ}{cd:ε}{A:ϴ}{s₀:μ}{H₀:Hp}{E:XK}:bZ (lU cc (bY P w) P w K mg base N qual scope f cd A outer s₀ H₀ E) (λ_=>E):=by
 intro ϵ σ H s e cls d x q;show Ϧ _ _ (leaving _ _) _ _ s;unfold leaving;show π (x.note rfl rfl λl T c g c1=>?_)*>c.off g c1 λm a i=>?_
 show#[e,↑T,cls,d,H,rfl,a.os,a.bare,a.base,a.hok,i,λb j=>?_,q];let z:=c1 b (~~~j);show#[z.1,?_];obtain y|y:=z.2.1
 .show absurd (show b∈([]:List δ)from y) (by simp)
 .show y
theorem afJ{cc:Bool}{P:ϱ}{w:ϭ}{K:ϩ}{mg:MG}{base:ϫ}{qual:Str}{scope:ahD}{f:δ}{cd:ε}{A:ϴ}{s₀:μ}{H₀:Hp}{E:XK}:anh (Ϩ P w) (A.deeper (envOfC qual scope ⇑s₀ f cd)) (envOfC qual scope ⇑s₀ f cd) (lU cc (bY P w) P w K mg base N qual scope f cd A outer s₀ H₀ E).xe:=PassesOwn.leaving
section
variable{X:Cx}{Kx:St->XK}{cc:Bool}{k k':Nat}{f C:δ}{fd:aij}{ps:List Str}{sp:Sp}{x m:Str}{p pos apos:Pos}{e o:Ϫ}{es:List Ϫ}{σ:St}{H:Hp}{Q:VK}
def wZ(F:dG X.prog X.w X.K X.mg X.base (bY X.prog X.w) cc k f fd ps sp)(i:ϛ cc k X.A)(j:Binds X.K fd ps [])(l:bZ X Kx)(I:Inv X ϵ σ H s)(r:Vals vs us)(h:sp vs H Q (Kx σ)):Ϧ ∅ X.A (call (.ref f) us) (EP X ϵ σ Q) X.xe s:=by
 let m:↥us=↥ps:=by rw[<-↥r];show F.len _ _ _ _ h
 let c:=j s us I.kIn (~~~m);rw[aqM]at c;show api (ajA (F.run X.A X.stack s H #[us,[]] us vs Q (Kx σ) i I.env0 c r h) λr s' g=>?_);cases r with
 |error e=>
  let#[a,cls,d,H',rfl,n,q]:=I.flown g;show l ϵ σ H' s' a cls d n q
 |ok o=>
  cases o with
  |ret u=>show I.after g
  |next=>show False.elim g
  |brk=>show False.elim g
  |cont=>show False.elim g
end
def EV(X:Cx)(e:Ϫ)(σ:St)(H:Hp)(Q:VK):Prop:=
 ∀(ϵ:List (δ×Obj))(s:μ),Inv X ϵ σ H s->Ϧ ∅ X.A (eval e X.env) (EP X ϵ σ Q) X.xe s
def ET(X:Cx)(e:Ϫ)(σ:St)(H:Hp)(Q:Bool->Hp->Prop):Prop:=
 ∀(ϵ:List (δ×Obj))(s:μ),Inv X ϵ σ H s->Ϧ ∅ X.A (isTrue e X.env (eval e X.env)) (TP X ϵ σ Q) X.xe s
def EW(X:Cx)(e:Ϫ)(σ:St)(H:Hp)(Q:Bool->Hp->Prop):Prop:=
 ∀(a:Sem ε)(ϵ:List (δ×Obj))(s:μ),Inv X ϵ σ H s->Ϧ ∅ X.A (isTrue e X.env a) (TP X ϵ σ Q) X.xe s
def EA(X:Cx)(es:List Ϫ)(σ:St)(H:Hp)(Q:List V->Hp->Prop):Prop:=
 ∀(pos:Pos)(ϵ:List (δ×Obj))(s:μ),Inv X ϵ σ H s->Ϧ ∅ X.A (spliced (backTo pos (ϳ es X.env))) (AP X ϵ σ Q) X.xe s
def EO(X:Cx)(e:Option Ϫ)(σ:St)(H:Hp)(Q:Option Int->Hp->Prop):=∃t,PO X e t/\t σ H Q
def SX(X:Cx)(st:ϧ)(D:Ends)(σ:St)(H:Hp):Prop:=
 ∀(ϵ:List (δ×Obj))(s:μ),Inv X ϵ σ H s->Ϧ ∅ X.A (exec st X.env) (SP X ϵ D) X.xe s
def Ζ(X:Cx)(st:List ϧ)(D:Ends)(σ:St)(H:Hp):Prop:=
 ∀(ϵ:List (δ×Obj))(s:μ),Inv X ϵ σ H s->Ϧ ∅ X.A (execs st X.env) (SP X ϵ D) X.xe s
def EG(X:Cx)(tg:Ϫ)(v:V)(σ:St)(H:Hp)(Q:St->Hp->Prop):Prop:=
 ∀(ϵ:List (δ×Obj))(s:μ)(u:ε),Inv X ϵ σ H s->RelV v u->Ϧ ∅ X.A (assign tg X.env u) (λ_ s'=>∃σ' H',Inv X ϵ σ' H' s'/\Q σ' H') X.xe s
def u5(X:Cx)(a:List Ϫ)(vs:List V)(σ:St)(H:Hp)(Q:St->Hp->Prop):Prop:=
 ∀(ϵ:List (δ×Obj))(s:μ)(us:List ε),Inv X ϵ σ H s->Vals vs us->Ϧ ∅ X.A (assignInOrder ((aqn a X.env).map (·.2)) us) (λ_ s'=>∃σ' H',Inv X ϵ σ' H' s'/\Q σ' H') X.xe s
def EI(X:Cx)(tg iter:Ϫ)(σ:St)(H:Hp)(R:It->Hp->Prop):Prop:=
 ∀(ϵ:List (δ×Obj))(s:μ),Inv X ϵ σ H s->
  Ϧ ∅ X.A (eval iter X.env) (λv a=>Ϧ ∅ X.A (pyIter v) (zU X ϵ σ tg R) X.xe a) X.xe s
def OP(X:Cx)(f:ε->ε->Sem ε)(x y:V)(H:Hp)(Q:VK):=∃r,aR X f r/\r x y H Q
def UN(X:Cx)(f:ε->Sem ε)(x:V)(H:Hp)(Q:VK):=∃r,Ah X f r/\r x H Q
def CL(X:Cx)(f:ε)(xs:List V)(H:Hp)(Q:VK):=∃r,iM X f r/\r xs H Q
def IX(X:Cx)(x y:V)(H:Hp)(Q:VK):=∃r,sZ X r/\r x y H Q
def SL(X:Cx)(x:V)(lo hi:Option Int)(H:Hp)(Q:VK):=∃r,um X r/\r x lo hi H Q
def MT(X:Cx)(id:String)(x:V)(xs:List V)(H:Hp)(Q:VK):=∃r,MF X id r/\r x xs H Q
section
variable{X:Cx}{a b c e:Ϫ}{es:List Ϫ}{σ:St}{H:Hp}{Q:VK}{QT:Bool->Hp->Prop}{QA:List V->Hp->Prop}{D:Ends}{pos p apos:Pos}{x:Str}{v:V}
theorem cD:PE X e (EV X e):=λϵ s _ _ _ I h=>h ϵ s I
theorem ams:PT X e (ET X e):=λϵ s _ _ _ I h=>h ϵ s I
theorem akX:PW X e (EW X e):=λa ϵ s _ _ _ I h=>h a ϵ s I
theorem ZM:PO X o (EO X o):=λϵ s σ H Q I z=>by let#[_,h,q]:=z;show h ϵ s σ H Q I q
theorem LQ{st:List ϧ}:J9 X st (Ζ X st):=λϵ s _ _ _ I h=>h ϵ s I
theorem nU:aR X f (OP X f):=λϵ s σ H x y v u Q I rx ry z=>by let#[_,h,q]:=z;show h ϵ s σ H x y v u Q I rx ry q
theorem aeV:Ah X f (UN X f):=λϵ s σ H x v Q I rx z=>by let#[_,h,q]:=z;show h ϵ s σ H x v Q I rx q
theorem Yt:iM X f (CL X f):=λϵ s σ H xs us Q I rx z=>by let#[_,h,q]:=z;show h ϵ s σ H xs us Q I rx q
theorem aiC:sZ X (IX X):=λa sl ϵ s σ H x y v u Q I rx ry z hs=>by let#[_,h,q]:=z;show h a sl ϵ s σ H x y v u Q I rx ry q hs
theorem alB:um X (SL X):=λϵ s σ H x v a c lo hi sl Q I rx hs pl e z=>by let#[_,h,q]:=z;show h ϵ s σ H x v a c lo hi sl Q I rx hs pl e q
theorem abe{id:String}:MF X id (MT X id):=λϵ s σ H x xs v us Q I rx rs z=>by let#[_,h,q]:=z;show h ϵ s σ H x xs v us Q I rx rs q
theorem wF(h:PE X e t)(q:t σ H Q):EV X e σ H Q:=λϵ s I=>h ϵ s σ H Q I q
theorem anP(h:PT X e t)(q:t σ H QT):ET X e σ H QT:=λϵ s I=>h ϵ s σ H QT I q
def gh:List Str->St->Str->Option V
 |n::N,o::σ,x=>if n=x then o else gh N σ x
 |_,_,_=>none
theorem Ly:∀{N:List Str}{σ:St}{x:Str}{v:V},gh N σ x=↑v->∃i:Nat,N[i]?=↑x/\σ[i]?=some ↑v
 |n::N,o::σ,x,v,h=>by
  unfold gh at h;split at h
  .rename_i e;show#[0,by simp[e],by simp[h]]
  .let#[i,h1,h2]:=Ly h;show#[i+1,~~~h1,~~~h2]
 |[],_,_,_,h=>by simp[gh]at h
 |_::_,[],_,_,h=>by simp[gh]at h
def nameAt:List Str->Str->Option Nat
 |n::N,x=>if n=x then some 0 else(nameAt N x).map (· +1)
 |[],_=>none
theorem lO:∀{N:List Str}{x:Str}{i:Nat},nameAt N x=↑i->N[i]?=↑x
 |n::N,x,i,h=>by
  unfold nameAt at h;split at h
  .rename_i e;cases h;simp[e]
  .cases q:nameAt N x with
   |none=>rw[q]at h;cases h
   |some j=>
    rw[q]at h;cases h;simpa using lO q
 |[],_,_,h=>by simp[nameAt]at h
def agi(c:gh X.N σ x=↑v)(e:rA X.env.scope x)(q:Q v H)(hd:(x==("__debug__":Str))=false)(a:(x==("__classdict__":Str))=false):EV X (.Name x pos) σ H Q:=by
 let#[i,h1,h2]:=Ly c;show wF (adA h1 e hd a) #[v,h2,q]
def abY(g:Gc X.mg x v)(a:Gl X x)(q:Q v H)(hd:(x==("__debug__":Str))=false):EV X (.Name x pos) σ H Q:=by
 let#[u,h1,h2]:=g;show wF (YT a h1 h2 hd) q
theorem Yy(a:Gl X x)(c:X.mg x=none)(e:bootBuiltins x=↑(.type T))(q:Q (.ty T) H)(f:x≠"__name__")(hd:(x==("__debug__":Str))=false):EV X (.Name x pos) σ H Q:=λϵ s I=>jt I a c e #[(.ty T),H,I,rfl,q] f hd
theorem amM{j}(q:Q (.int i) H):EV X (.Constant (.int i) j pos) σ H Q:=λϵ s I=>wpAny_Constant_int #[.int i,H,I.tok _,#[_,rfl],q]
theorem alz{j}(q:Q (.bl i) H):EV X (.Constant (.bool i) j pos) σ H Q:=λϵ s I=>Constant_bool #[.bl i,H,I,rfl,q]
theorem adv{j}(q:Q .non H):EV X (.Constant .none j pos) σ H Q:=λϵ s I=>Constant_none #[.non,H,I,rfl,q]
theorem Wv{j}(q:Q (.str i) H):EV X (.Constant (.str i) j pos) σ H Q:=λϵ s I=>Calls.Constant_str #[.str i,H,I.tok _,#[_,rfl],q]
def ad7(h:EV X a σ H λx H1=>EV X b σ H1 λy H2=>OP X (binaryOp op) x y H2 Q):EV X (.BinOp a op b pos) σ H Q:=by
 intro ϵ s I;show wpAny_BinOp (Ed cD cD I h λv u c x y H2 e rx ry q=>nU ϵ c σ H2 x y v u Q e rx ry q)
def ae4(h:EV X a σ H λx H1=>UN X (unaryOp op) x H1 Q):EV X (.UnaryOp op a pos) σ H Q:=by
 intro ϵ s I;show UnaryOp_ (υ (h ϵ s I) λv c z=>by let#[x,H1,e,r1,f]:=z;show aeV ϵ c σ H1 x v Q e r1 f)
def acG(c:behindInMarks op b=false)(h:EV X a σ H λx H1=>EV X b σ H1 λy H2=>OP X (ad2 op) x y H2 Q):EV X (.Compare a [op] [b] pos) σ H Q:=by
 intro ϵ s I;show wpAny_Compare1 (Ed cD cD I h λv u e x y H2 f rx ry q=>nU ϵ e σ H2 x y v u Q f rx ry q) c
def ab5(g:behindInMarks op b=false)(h:EV X a σ H λx H1=>EV X b σ H1 λy H2=>OP X (ad2 op) x y H2 λz f=>∃k,z=.bl k/\QT k f):ET X (.Compare a [op] [b] pos) σ H QT:=by
 intro ϵ s I;show wpAny_isTrue_Compare1 (υ (h ϵ s I) λv i _u=>_Z.e23 _u λx H1 j r1 l=>υ (l ϵ i j) λu m _u=>_Z.e23 _u λy H2 n o p=>
  υ (nU ϵ m σ H2 x y v u _ n r1 o p) λc D ⟨z,f,q,B,k,e,C⟩=>?_) g
 subst e;cases B;show ag7 #[f,q,C]
def aji(o:lastMarks [op,f] [b,c]=false)(h:EV X a σ H λx H1=>EV X b σ H1 λy H2=>OP X (ad2 op) x y H2 λz g=>∃k,z=.bl k/\(if k=true then EV X c σ g λi j=>OP X (ad2 f) y i j Q else Q (.bl false) g)):EV X (.Compare a [op,f] [b,c] pos) σ H Q:=by
 intro ϵ s I;show Compare_chain (υ (h ϵ s I) λv p _u=>_Z.e23 _u λx H1 q r1 B=>chain_link (υ (B ϵ p q) λu C _u=>_Z.e23 _u λy H2 D l E=>
  υ (nU ϵ C σ H2 x y v u _ D r1 l E) λd F ⟨z,g,m,G,k,e,n⟩=>?_)) o
 subst e;cases G;show ag7 ?_;cases k with
 |false=>show ite_ff #[.bl false,g,m,rfl,n]
 |true=>show ite_tt (chain_last (υ (n ϵ F m) λi J z=>by let#[z',j,L,M,O]:=z;show nU ϵ J σ j y z' u i Q L l M O))
def ajT(p:lastMarks [op,f] [b,c]=false)(h:EV X a σ H λx H1=>EV X b σ H1 λy H2=>OP X (ad2 op) x y H2 λz g=>∃k,z=.bl k/\(if k=true then EV X c σ g λi j=>OP X (ad2 f) y i j λz' l=>∃k',z'=.bl k'/\QT k' l else ∃k',V.bl false=.bl k'/\QT k' g)):ET X (.Compare a [op,f] [b,c] pos) σ H QT:=by
 intro ϵ s I;show isTrue_chain (υ (h ϵ s I) λv q _u=>_Z.e23 _u λx H1 B r1 C=>test_link (υ (C ϵ q B) λu D _u=>_Z.e23 _u λy H2 E m F=>
  υ (nU ϵ D σ H2 x y v u _ E r1 m F) λd G ⟨z,g,n,J,k,e,o⟩=>?_)) p
 subst e;cases J;show ag7 ?_;cases k with
 |false=>
  let#[k',L,M]:=o;cases L;show ite_ff #[g,n,M]
 |true=>
  show ite_tt (test_last (υ (o ϵ G n) λi O _u=>_Z.e23 _u λz' j P Q R=>υ (nU ϵ O σ j y z' u i _ P m Q R) λd' Z S=>?_));let#[z2,l,T,U,k2,W,Y]:=S;subst W;cases U;show ag7 #[l,T,Y]
def Nk(c:∀a,isTrue e X.env a=(do let v<-a;standAt e.pos;holding [v] (truthy v)))(h:EV X e σ H λx H'=>∃k,KZ X.K x H' k/\QT k H'):ET X e σ H QT:=by
 intro ϵ s I;show isTrue_plain (υ (h ϵ s I) λv f z=>by let#[x,H1,g,r1,i]:=z;show adk ϵ f σ H1 x v QT g r1 i) (c _)
def aj4(h:ET X a σ H λk H1=>QT (!k) H1):ET X (.UnaryOp .Not a pos) σ H QT:=by
 intro ϵ s I;show isTrue_not (h ϵ s I)
theorem aeR(h:EW X e σ H QT):ET X e σ H QT:=anP akX.pt h
def am5{rest:List Ϫ}(h:ET X a σ H λk H1=>if k=true then EW X (.BoolOp .And (b::rest) pos) σ H1 QT else QT false H1):EW X (.BoolOp .And (a::b::rest) pos) σ H QT:=by
 intro g ϵ s I;show isTrue_and (υ (h ϵ s I) λc i j=>?_);let#[H1,e,f]:=j;cases c with
 |true=>show f g ϵ i e
 |false=>show#[H1,e,f]
def aed{rest:List Ϫ}(h:ET X a σ H λk H1=>if k=true then QT true H1 else EW X (.BoolOp .Or (b::rest) pos) σ H1 QT):EW X (.BoolOp .Or (a::b::rest) pos) σ H QT:=by
 intro g ϵ s I;show isTrue_or (υ (h ϵ s I) λc i j=>?_);let#[H1,e,f]:=j;cases c with
 |true=>show#[H1,e,f]
 |false=>show f g ϵ i e
def ail(h:ET X a σ H QT):EW X (.BoolOp .And [a] pos) σ H QT:=by
 intro f ϵ s I;show isTrue_and (υ (h ϵ s I) λc g e=>?_);cases c with
 |true=>show isTrue_and_nil e
 |false=>show e
def al1(h:ET X a σ H QT):EW X (.BoolOp .Or [a] pos) σ H QT:=by
 intro f ϵ s I;show isTrue_or (υ (h ϵ s I) λc g e=>?_);cases c with
 |false=>show isTrue_or_nil e
 |true=>show e
theorem aaJ{op}(h:EV X a σ H Q):EV X (.BoolOp op [a] pos) σ H Q:=λϵ s I=>BoolOp_one (h ϵ s I)
def ajq{rest:List Ϫ}(h:EV X a σ H λx H1=>∃k,x=.bl k/\if k=true then EV X (.BoolOp .And (b::rest) pos) σ H1 Q else Q (.bl false) H1):EV X (.BoolOp .And (a::b::rest) pos) σ H Q:=by
 intro ϵ s I;show BoolOp_and (υ (h ϵ s I) λv g i=>?_);let#[x,H1,f,r1,e]:=i;let#[c,rfl,e]:=e;cases r1;show ag7 ?_;cases c with
 |true=>show e ϵ g f
 |false=>show#[.bl false,H1,f,rfl,e]
def agV{rest:List Ϫ}(h:EV X a σ H λx H1=>∃k,x=.bl k/\if k=true then Q (.bl true) H1 else EV X (.BoolOp .Or (b::rest) pos) σ H1 Q):EV X (.BoolOp .Or (a::b::rest) pos) σ H Q:=by
 intro ϵ s I;show BoolOp_or (υ (h ϵ s I) λv g i=>?_);let#[x,H1,f,r1,e]:=i;let#[c,rfl,e]:=e;cases r1;show ag7 ?_;cases c with
 |false=>show e ϵ g f
 |true=>show#[.bl true,H1,f,rfl,e]
def aiX(h:EV X a σ H λx H1=>∃k,x=.bl k/\Q (.bl (!k)) H1):EV X (.UnaryOp .Not a pos) σ H Q:=by
 intro ϵ s I;show UnaryOp_ (υ (h ϵ s I) λv i f=>?_);let#[x,H1,g,r1,e]:=f;let#[c,rfl,e]:=e;cases r1;show not_of (ag7 #[.bl (!c),H1,g,rfl,e])
def acM(h:ET X c σ H λk H1=>if k=true then EV X a σ H1 Q else EV X b σ H1 Q):EV X (.IfExp c a b pos) σ H Q:=by
 intro ϵ s I;show wpAny_IfExp (υ (h ϵ s I) λd e i=>?_);let#[H1,f,g]:=i;cases d with
 |true=>show g ϵ e f
 |false=>show g ϵ e f
theorem gb(q:QA [] H):EA X [] σ H QA:=λpos ϵ s I=>Calls.spliced_nil #[[],H,I,.nil,q]
def dF(hs:ϳ (e::es) X.env=(false,eval e X.env)::ϳ es X.env)(h:EV X e σ H λx H1=>EA X es σ H1 λxs H2=>QA (x::xs) H2):EA X (e::es) σ H QA:=by
 intro pos ϵ s I;rw[hs];show Ϧ _ _ (spliced ((false,eval e X.env)::backTo pos (ϳ es X.env))) _ _ s*>Calls.spliced_cons (υ (h ϵ s I) λu a c=>?_);let#[x,H1,f,r1,g]:=c;show υ (g pos ϵ a f) λus m z=>by let#[xs,H2,i,j,l]:=z;show #[x::xs,H2,i,.cons r1 j,l]
def Ke{x1}(h:EA X es σ H λxs H1=>↥xs<=ϰ/\∀p,H1 p=none->Q (.ref p) (upd H1 p (.tup xs))):EV X (.Tuple es x1 pos) σ H Q:=by
 intro ϵ s I;show wpAny_Tuple_spliced (υ (h pos ϵ s I) λus a ⟨xs,H1,c,r,z,q⟩=>#[by rw[<-↥r];show z,?_]);let f:H1 ⇑a=none:=c.hok.fresh (Ϭ _);show#[.ref ⇑a,upd H1 ⇑a (.tup xs),c.laid (t':=a.toks) (λb u e=>ϲ _ e) (Ϭ _) ?_,rfl,q _ f]*>#[z,us,r,#[_,abn _ rfl,rfl,_,rfl]]
def amE(h:EA X es σ H λxs H1=>↥xs<=ϰ/\∀p,H1 p=none->Q (.ref p) (upd H1 p (.lst xs))):EV X (.List es pos) σ H Q:=by
 intro ϵ s I;show wpAny_List_spliced (υ (h pos ϵ s I) λus a ⟨xs,H1,c,r,z,q⟩=>#[by rw[<-↥r];show z,?_]);let f:H1 ⇑a=none:=c.hok.fresh (Ϭ _);show#[.ref ⇑a,upd H1 ⇑a (.lst xs),c.laid (t':=a.toks) (λb u e=>ϲ _ e) (Ϭ _) ?_,rfl,q _ f]*>#[z,us,0,r,abn _ rfl]
def an9{id:String}(f:Gl X x)(g:X.mg x=none)(i:bootBuiltins x=↑(.builtin id))(j:x≠"__name__")(a:(x==("__debug__":Str))=false)(l:ϳ (e::es) X.env=(false,eval e X.env)::ϳ es X.env)(c:(backTo pos (ϳ es X.env)).any (·.1)=false)(h:EA X (e::es) σ H λvs H1=>CL X (.builtin id) vs H1 Q):EV X (.Call (.Name x p) (e::es) [] pos) σ H Q:=by
 intro ϵ s I;show alO (jt I f g i ?_ j a)*>PyProof.Rows.callWith_builtin1 (υ (h pos ϵ s I) λus m z=>by let#[vs,H1,n,r1,o]:=z;show Yt ϵ m σ H1 vs us Q n r1 o) l c
def afV(f:Gl X x)(g:X.mg x=none)(i:bootBuiltins x=↑(.type T))(j:x≠"__name__")(a:(x==("__debug__":Str))=false)(l:ϳ (e::es) X.env=(false,eval e X.env)::ϳ es X.env)(c:(backTo pos (ϳ es X.env)).any (·.1)=false)(h:EA X (e::es) σ H λvs H1=>CL X (.type T) vs H1 Q):EV X (.Call (.Name x p) (e::es) [] pos) σ H Q:=by
 intro ϵ s I;show alO (jt I f g i ?_ j a)*>PyProof.Rows.callWith_type1 (υ (h pos ϵ s I) λus m z=>by let#[vs,H1,n,r1,o]:=z;show Yt ϵ m σ H1 vs us Q n r1 o) l c
structure Def(P:ϱ)(w:ϭ)(K:ϩ)(mg:MG)(base:ϫ)(cc:Bool)(k:Nat)(x:Str)(ps:List Str)(sp:Sp):Prop where
 ex:∃f fd,mg x=↑(.ref f)/\ap6 K (.ref f)=true/\Binds K fd ps []/\dG P w K mg base (bY P w) cc k f fd ps sp
theorem ϛ.qJ(r:ϛ cc k A)(h:bF=true->cc=true):ϛ bF k A:=#[λz=>r.hd (h z),r.dp,r.un]
def ajU(F:Def X.prog X.w X.K X.mg X.base bF k x ps sp)(j:ϛ cc k' X.A)(l:k<=k')(a:bF=true->cc=true)(m:Gl X x)(n:bZ X Kx)(c:(x==("__debug__":Str))=false)(o:ϳ (e::es) X.env=(false,eval e X.env)::ϳ es X.env)(g:(backTo pos (ϳ es X.env)).any (·.1)=false)(h:EA X (e::es) σ H λvs H1=>sp vs H1 Q (Kx σ)):EV X (.Call (.Name x p) (e::es) [] pos) σ H Q:=by
 let#[f,fd,h1,h2,u,v]:=F.ex;intro ϵ s I;show alO (lK I m h1 ?_ c)*>atf (h₀:=X.base) I.ok.mod.kin h2 (υ (h pos ϵ s I) λus y _u=>_Z.e23 _u λvs H1 i r q=>#[i.kIn,?_]) o g*>wZ v ((j.mono l).qJ a) u n i r q
def ait(hs:aea b)(h:EV X a σ H λx H1=>EV X b σ H1 λy H2=>IX X x y H2 Q):EV X (.Subscript a b pos) σ H Q:=by
 intro ϵ s I;show Subscript_ (Ed cD cD I h λv u c x y H2 e rx ry q=>aiC a b ϵ c σ H2 x y v u Q e rx ry q (hs _ _))
theorem ajY(q:QO none H):EO X none σ H QO:=#[_,alT,q]
theorem adY(q:EV X e σ H λx H1=>∃i,x=.int i/\QO ↑i H1):EO X ↑e σ H QO:=#[_,ahG cD,q]
def ahb{lo hi:Option Ϫ}(h:EV X a σ H λx H1=>EO X lo σ H1 λl H2=>EO X hi σ H2 λu e=>SL X x l u e Q):EV X (.Subscript a (.Slice lo hi none p2) pos) σ H Q:=by
 intro ϵ s I;show Subscript_ (υ (h ϵ s I) λv j i=>?_);let#[x,H1,m,r1,n]:=i;show wpAny_Slice (υ (ZM ϵ j σ H1 _ m n) λf o _u=>_Z.e23 _u λl H2 p pl y=>υ (ZM ϵ o σ H2 _ p y) λg c i=>?_);let#[u,e,z,B,C]:=i;rw[evalPart_none];show ϯ ?_;let D:Inv X ϵ σ e {c with heap:=c.heap.push {cls:=.type "slice",data:=.fields #v[f,g,.none]}}:=z.kept (t':=c.toks) λb J q=>ϲ _ q
 let#[T,id,E,F,G]:=alB ϵ {c with heap:=c.heap.push {cls:=.type "slice",data:=.fields #v[f,g,.none]}} σ e x v f g l u ⇑c Q D r1 (Heap.IsSliceOf.new ..) pl B C;show Ϧ ∅ X.A (subscriptTail a (.Slice lo hi none p2) v (.ref ⇑c)) (EP X ϵ σ Q) X.xe {c with heap:=c.heap.push {cls:=.type "slice",data:=.fields #v[f,g,.none]}}*>tail_any (ops:=[.ref ⇑c,v]) F E G (by with_unfolding_all rfl)
def bA{T id:String}(n:PlainAttrs T)(slot:Slot T name id)(j:typeOf (.builtin id)=pure (.type "method_descriptor"))(f:attributeBase a name X.env (eval a X.env)=eval a X.env:=by rfl)(i:((backTo pos (ϳ (e::es) X.env)).all (λx=> !x.1)&&(backToKw pos (keywordEach [] X.env)).all (λx=>x.1.isSome)
   &&decide (↥(e::es)+↥([]:List Keyword)+(if([]:List Keyword).isEmpty then 0 else 1)<30))=true:=by rfl)(g:(apos.endLine==pos.line)=true:=by rfl)(hs:ϳ (e::es) X.env=(false,eval e X.env)::ϳ es X.env:=by rfl)(c:(backTo pos (ϳ es X.env)).any (·.1)=false:=by rfl)(h:EV X a σ H λx H1=>qj X.K T x H1/\EA X (e::es) σ H1 λxs H2=>MT X id x xs H2 Q):EV X (.Call (.Attribute a name apos) (e::es) [] pos) σ H Q:=by
 intro ϵ s I;show wpAny_Call_method_late f i g rfl (υ (h ϵ s I) λv o p=>?_);let#[x,H1,l,r1,ty,q]:=p;let#[h1,h2]:=Rm l r1 ty;show#[T,id,n,slot,j,h1,h2,?_];let m:=q pos ϵ o l;rw[hs]at m⊢;show Calls.callWith_builtin (by show(false||(backTo pos (ϳ es X.env)).any (·.1))=false;rw[c]<;>rfl) (Calls.evalArgs_plain ?_)*>υ m λus u z1=>by let#[vs,H2,y,z,B]:=z1;show abe ϵ u σ H2 x vs v us Q y r1 z B
def anj{T id:String}(i:PlainAttrs T)(slot:Slot T name id)(f:typeOf (.builtin id)=pure (.type "method_descriptor"))(c:attributeBase a name X.env (eval a X.env)=eval a X.env)(e:(apos.endLine==pos.line)=true)(h:EV X a σ H λx H1=>qj X.K T x H1/\MT X id x [] H1 Q):EV X (.Call (.Attribute a name apos) [] [] pos) σ H Q:=by
 intro ϵ s I;show wpAny_Call_method0_late c e (υ (h ϵ s I) λv j l=>?_);let#[x,H1,g,r1,ty,m]:=l;let#[h1,h2]:=Rm g r1 ty;show#[T,id,i,slot,f,h1,h2,Calls.callWith_builtin rfl (PySem.evalArgs_none (abe ϵ j σ H1 x [] v [] Q g r1 .nil m))]
theorem Α(q:D.nx σ H):Ζ X [] D σ H:=λϵ s I=>wpAny_execs_nil #[σ,H,I,q]
def zK{st:ϧ}{rest:List ϧ}(h:SX X st {D with nx:=λσ' H'=>Ζ X rest D σ' H'} σ H):Ζ X (st::rest) D σ H:=by
 intro ϵ s I;show wpAny_execs_cons (υ (h ϵ s I) λf a q=>?_);cases f with
 |next=>
  let#[σ',H',c,q]:=q;show q ϵ a c
 |ret v=>show q
 |brk=>show q
 |cont=>show q
def yC{st:ϧ}(h:SX X st D σ H):Ζ X [st] D σ H:=by
 intro ϵ s I;show wpAny_execs_cons (υ (h ϵ s I) λf a q=>?_);cases f with
 |next=>show wpAny_execs_nil q
 |ret v=>show q
 |brk=>show q
 |cont=>show q
def Ϛ(h:EV X e σ H λ_ H1=>D.nx σ H1)(hs:apS e none pos.line X.env=pure false:=by rfl):SX X (.Expr e pos) D σ H:=by
 intro ϵ s I;show wpAny_Expr_any (υ (h ϵ s I) λv f z=>by let#[x,H1,a,r1,c]:=z;show #[σ,H1,a,c]) I.quiet hs
def ψ(h:EV X e σ H D.rt):SX X (.Return ↑e pos) D σ H:=by
 intro ϵ s I;show wpAny_Return_some (υ (h ϵ s I) λv f z=>by let#[x,H1,a,r1,c]:=z;show #[x,σ,H1,a,r1,c])
def Δ(h:ET X c σ H λk H1=>if k=true then Ζ X t D σ H1 else Ζ X u D σ H1):SX X (.If c t u pos) D σ H:=by
 intro ϵ s I;show wpAny_If (υ (h ϵ s I) λd a g=>?_);let#[H1,e,f]:=g;cases d with
 |true=>show f ϵ a e
 |false=>show f ϵ a e
def ahu(a:X.N.Nodup)(hi:nameAt X.N x=↑i)(c:Loc X.env.scope x)(hs:apS e ↑(.Name x p') pos.line X.env=pure false)(f:X.fn x=true\/X.env.scope.names.lookup x=↑.local)(h:EV X e σ H λv H1=>D.nx (σ.set i ↑v) H1):SX X (.Assign [.Name x p'] e pos) D σ H:=by
 intro ϵ s I;show wpAny_Assign_Name (υ (h ϵ s I) λv n g=>?_) hs;let#[y,H1,j,r1,l]:=g;show Qv j a (lO hi) c r1 (λo m=>#[_,H1,m,l]) f
def Ε(a:X.N.Nodup)(q:QG (σ.set i ↑v) H)(hi:nameAt X.N x=↑i:=by rfl)(c:Loc X.env.scope x:=by first|show Or.inl rfl|show Or.inr rfl)(e:X.fn x=true\/X.env.scope.names.lookup x=↑.local:=by first|show Or.inl rfl|show Or.inr rfl):EG X (.Name x pos) v σ H QG:=by
 intro ϵ s u I r;show wpAny_assign_Name (Qv I a (lO hi) c r (λs' f=>#[_,H,f,q]) e)
def aH(q:QG σ H):u5 X [] [] σ H QG:=by
 intro ϵ s us I r;cases r;show assignInOrder_nil #[σ,H,I,q]
def Μ{a:List Ϫ}{QG:St->Hp->Prop}(h:EG X e v σ H λσ' H'=>u5 X a vs σ' H' QG)(hs:(aqn (e::a) X.env).map (·.2)=assign e X.env::(aqn a X.env).map (·.2):=by rfl):u5 X (e::a) (v::vs) σ H QG:=by
 intro ϵ s us I r;cases r with
 |cons r c=>
  rw[hs];show assignInOrder_cons (υ (h ϵ s _ I r) λ_ f g=>?_);let#[i,H1,j,l]:=g;show l ϵ f _ j c
def aG{n:Nat}{k:Nat}{QG:St->Hp->Prop}(a:ρ X.K H q xs)(h:u5 X es xs σ H QG)(g:X.calm=true:=by rfl)(i:↥(aqn es X.env)=n:=by rfl)(c:(aqn es X.env).findIdx? (·.1)=none:=by rfl)(j:↥xs=n:=by rfl):EG X (.Tuple es k pos) (.ref q) σ H QG:=by
 intro ϵ s u I r;cases r;let#[p,f,a,v]:=I.tuple a;show assign_Tuple_tuple (I.ok.hd g) a (by simp[i, <-j,↥f]) c λh' l=>?_
 let m:Inv X ϵ σ H {s with heap:=h'}:=I.kept (t':=s.toks) λb o e=>l b o (adb (abN e)) e
 show h ϵ _ _ m (~~~f)
def oK(B:anh ∅ X.A X.env X.xe)(S:X.calm=true)(hs:∀x,foldedSetIterable iter X.env x=pure x)(h:EI X tg iter σ H λJ H1=>∃W:Nat->Nat->St->Hp->Prop,(∃m,W 0 m σ H1)/\∀i m σ H,W i m σ H->
   (J.stop i H/\D.nx σ H)\/(J.go i H/\∃N:St->Hp->Prop,(∀σ' H',N σ' H'->∃m',m'<m/\W (i+1) m' σ' H')/\∀x H',J.yld i H x H'->EG X tg x σ H' λL H2=>Ζ X body {D with nx:=N,ct:=N,bk:=D.nx} L H2)):SX X (.For tg iter body [] pos) D σ H:=by
 intro ϵ s I;show wpAny_For (υ (h ϵ s I) λv s1 h1=>υ h1 λitv s2 h2=>?_) hs;let#[it,fp,U,J,H2,e,I2,T,M,Y,W,#[m0,w0],turn]:=h2;subst e;let c:∀{H':Hp},(∀b∈fp,H' b=none)->∀b∈fp,bN X ϵ H' b:=λhn b l=>#[hn b l,(Y b l).2]
 show codeAny_forLoop_any (λn s'=>∃i σ' H',Inv X ϵ σ' H' s'/\U i s'.heap/\(∀b∈fp,H' b=none)/\W i n σ' H') ?_ m0 #[0,σ,H2,I2,M,λb l=>(Y b l).1,w0]
 rintro n Z ⟨i,p,G,I3,C,E,w3⟩
 obtain⟨stop,qn⟩|⟨go,N,hN,step⟩:=turn i n p G w3
 .show amd B (υ (T.done X rfl rfl rfl S i ϵ Z p G X.xe I3 (c E) C stop) λr s4 y=>?_);let#[O,I4]:=y;subst O;show wpAny_execs_nil #[p,G,I4,qn]
 .show amd B (υ (T.item X rfl rfl rfl S i ϵ Z p G X.xe I3 (c E) C go) λr s4 y=>?_);let#[u,O,h4]:=y;subst O;show amd B (υ h4 λ_ s5 y=>?_);let#[x,H5,I5,r5,y5,z,P]:=y;let Q:=I5.pinned (c P) (T.obj<*z);show amd B (υ ((step x H5 y5) _ s5 u Q r5) λ_ s6 y=>?_);let#[σ6,H6,I6,q6]:=y;show amd B (υ (q6 _ s6 I6) λf R q=>?_);let again:∀{a:St}{g:Hp},Inv X (ϵ++gZ fp s5.heap) a g R->N a g->∃m,m<n/\∃i σ' H',Inv X ϵ σ' H' R/\U i R.heap/\(∀b∈fp,H' b=none)/\W i m σ' H':=λ{a g} j F=>by
   let#[m',hm,w7]:=hN a g F;show#[m',hm,i+1,a,g,j.unpinned,T.keep _ _ _ z λb l o e=>(j.pin (b,o) (adL _ (adL _ (Ac l e)))).1,λb l=>?_,w7];let#[o,e,d]:=T.obj _ _ z b l;show(j.pin (b,o) (adL _ (adL _ (Ac l e)))).2.1
  cases f with
  |next=>let#[a,g,j,F]:=q;show again j F
  |cont=>let#[a,g,j,F]:=q;show again j F
  |brk=>let#[a,g,j,q]:=q;show#[a,g,j.unpinned,q]
  |ret v=>let#[x7,a,g,j,r7,q]:=q;show#[x7,a,g,j.unpinned,r7,q]
def uO(h:EV X l σ H λx H1=>∃a,x=.ref a/\(∃xs,θ X.K H1 a xs)/\R (kJ X.K a) H1):EI X tg l σ H R:=by
 intro ϵ s I;show υ (h ϵ s I) λv c g=>?_
 let#[x,H1,f,r1,i]:=g;let#[a,e,#[xs,j],q]:=i;subst e;cases r1;let#[n,u,p,y]:=f.list j;show amx p.isList ?_*>#[⇑c,[⇑c],_,_,H1,rfl,f.kept (t':=c.toks) λb o e=>ϲ _ e,anC a _,#[_,abn _ rfl,rfl,rfl],λb m=>?_,q];let e:b=⇑c:= ~~~m
 subst e;show f.fpOk (Ϭ _) (f.hok.fresh (Ϭ _))
def afW(h:EV X l σ H λx H1=>∃a,x=.ref a/\(∃xs,ρ X.K H1 a xs)/\R (tG X.K a) H1):EI X tg l σ H R:=by
 intro ϵ s I;show υ (h ϵ s I) λv c g=>?_
 let#[x,H1,f,r1,i]:=g;let#[a,e,#[xs,j],q]:=i;subst e;cases r1;let#[m,u,p,y]:=f.tuple j;show wpAny_pyIter_tuple (show c.heap.IsTuple a m.toArray from p) ?_*>#[⇑c,[⇑c],_,_,H1,rfl,f.kept (t':=c.toks) λb o e=>ϲ _ e,alH a _,#[_,abn _ rfl,rfl,rfl],λb n=>?_,q];let e:b=⇑c:= ~~~n
 subst e;show f.fpOk (Ϭ _) (f.hok.fresh (Ϭ _))
def JT(f:Gl X "range")(g:X.mg "range"=none)(hs:ϳ [a] X.env=[(false,eval a X.env)])(h:EA X [a] σ H λvs H1=>∃j:Int,vs=[.int j]/\ -(2^62)<=j/\j<2^62/\R (mH 0 j.toNat) H1):EI X tg (.Call (.Name "range" p) [a] [] pos) σ H R:=by
 intro ϵ s I;show Call_ (jt I f g boot_range (PyProof.Rows.callWith_type1 (υ (h pos ϵ s I) λus o i=>?_) hs rfl));let#[vs,H1,l,r1,c]:=i;let#[j,e,c,m,q]:=c;subst e;cases r1 with
 |cons r n=>
  cases n;let#[t,rfl]:=r;show call_range_1 (ai7 l () () c m (~~~q))
theorem Ϣ(h:EV X e σ H Q)(m:∀v H',Q v H'->Q' v H'):EV X e σ H Q':=λϵ s I=>υ (h ϵ s I) λ_ _ z=>by let#[v,H',a,r,q]:=z;show #[v,H',a,r,m v H' q]
theorem bB(h:aR X f r)(q:r y z H Q):OP X f y z H Q:=#[r,h,q]
theorem am9(q:Q (.int (i+j)) H):OP X (binaryOp .Add) (.int i) (.int j) H Q:=bB agR #[i,j,rfl,rfl,q]
theorem ahX(q:Q (.int (i-j)) H):OP X (binaryOp .Sub) (.int i) (.int j) H Q:=bB ah3 #[i,j,rfl,rfl,q]
theorem ajV(c:z9 i j)(q:Q (.int (i*j)) H):OP X (binaryOp .Mult) (.int i) (.int j) H Q:=bB anD #[i,j,rfl,rfl,c,q]
theorem ajI(c:Qf i j)(q:Q (.int (i / j)) H):OP X (binaryOp .FloorDiv) (.int i) (.int j) H Q:=bB aiU #[i,j,rfl,rfl,c,q]
theorem ake(c:0<j)(q:Q (.int (i % j)) H):OP X (binaryOp .Mod) (.int i) (.int j) H Q:=bB aoe #[i,j,rfl,rfl,c,q]
theorem Dw(c:S8 i j)(q:Q (.int (i^j.toNat)) H):OP X (binaryOp .Pow) (.int i) (.int j) H Q:=bB aeQ #[i,j,rfl,rfl,c,q]
theorem ajb(q:Q (.bl (decide (i<j))) H):OP X (ad2 .Lt) (.int i) (.int j) H Q:=bB al4 #[i,j,rfl,rfl,q]
theorem aew(q:Q (.bl (decide (i<=j))) H):OP X (ad2 .LtE) (.int i) (.int j) H Q:=bB amL #[i,j,rfl,rfl,q]
theorem afu(q:Q (.bl (decide (j<i))) H):OP X (ad2 .Gt) (.int i) (.int j) H Q:=bB acQ #[i,j,rfl,rfl,q]
theorem afd(q:Q (.bl (decide (j<=i))) H):OP X (ad2 .GtE) (.int i) (.int j) H Q:=bB ajp #[i,j,rfl,rfl,q]
theorem Ug{y z:V}(s:wX y z=true)(q:Q (.bl (decide (y=z))) H):OP X (ad2 .Eq) y z H Q:=bB ahE #[s,q]
theorem U7{y z:V}(s:wX y z=true)(q:Q (.bl (!decide (y=z))) H):OP X (ad2 .NotEq) y z H Q:=bB abW #[s,q]
theorem aiD(q:Q (.bl (decide (z.cps.toList<z'.cps.toList))) H):OP X (ad2 .Lt) (.str z) (.str z') H Q:=bB ahv #[z,z',rfl,rfl,q]
theorem ajr(q:Q (.bl (!(Builtin.Str.occurrences z' z 0 ↥z' 1).isEmpty)) H):OP X (ad2 .In) (.str z) (.str z') H Q:=bB anq #[z,z',rfl,rfl,q]
theorem aln(q:Q (.bl (decide (y=.non))) H):OP X (ad2 .Is) y .non H Q:=bB amq #[rfl,q]
theorem ajW(q:Q (.bl (!decide (y=.non))) H):OP X (ad2 .IsNot) y .non H Q:=bB amk #[rfl,q]
theorem bW(c:↥z+↥z'<=ϰ)(q:Q (.str (z++z')) H):OP X (binaryOp .Add) (.str z) (.str z') H Q:=bB amY #[z,z',rfl,rfl,c,q]
theorem acH(q:Q (.int (-i)) H):UN X (unaryOp .USub) (.int i) H Q:=#[_,ak5,i,rfl,q]
theorem cP(h:iM X f r)(q:r vs H Q):CL X f vs H Q:=#[r,h,q]
theorem xg(h:θ X.K H q ys\/ρ X.K H q ys)(g:Q (.int ↥ys) H):CL X (.builtin "len") [.ref q] H Q:=cP ahY #[q,ys,rfl,h,g]
theorem ai2(h:↥z<=ϰ)(g:Q (.int ↥z) H):CL X (.builtin "len") [.str z] H Q:=cP akk #[z,rfl,h,g]
theorem Gs(g:Q (.int (if j<i then j else i)) H)(a:X.calm=true:=by rfl):CL X (.builtin "min") [.int i,.int j] H Q:=cP (aiZ a) #[i,j,rfl,g]
theorem aiy(a:X.calm=true)(g:Q (.int (if j>i then j else i)) H):CL X (.builtin "max") [.int i,.int j] H Q:=cP (aee a) #[i,j,rfl,g]
theorem lA(h:i.natAbs.log2<1920)(g:Q (.str (toString i)) H):CL X (.type "str") [.int i] H Q:=cP ajv #[i,rfl,h,g]
theorem jb(h:θ X.K H q ys\/ρ X.K H q ys)(g:∀l,H l=none->Q (.ref l) (upd H l (.lst ys))):CL X (.type "list") [.ref q] H Q:=cP anT #[q,ys,rfl,h,g]
theorem Cy{y z:V}(h:sZ X r)(q:r y z H Q):IX X y z H Q:=#[r,h,q]
theorem ϐ(h:θ X.K H q xs)(e:Ι xs i=↑v)(g:Q v H):IX X (.ref q) (.int i) H Q:=Cy adx #[q,xs,i,v,rfl,rfl,h,e,g]
theorem ϋ(h:ρ X.K H q xs)(e:Ι xs i=↑v)(g:Q v H):IX X (.ref q) (.int i) H Q:=Cy aeJ #[q,xs,i,v,rfl,rfl,h,e,g]
theorem gY(h:↥z<=ϰ)(e:Ι z.cps.toList i=↑n)(g:Q (.str #[#v[n]]) H):IX X (.str z) (.int i) H Q:=Cy afe #[z,i,n,rfl,rfl,h,e,g]
theorem pK{q:δ}{lo hi:Option Int}(h:θ X.K H q xs)(g:∀p,H p=none->Q (.ref p) (upd H p (.lst (bL xs lo hi)))):SL X (.ref q) lo hi H Q:=#[_,aev,q,xs,rfl,h,g]
theorem ahW{q:δ}{lo hi:Option Int}(h:ρ X.K H q xs)(n:¬(_H.Η ↥xs 0 lo=0/\_H.Η ↥xs ↥xs hi=↥xs))(g:∀p,H p=none->Q (.ref p) (upd H p (.tup (bL xs lo hi)))):SL X (.ref q) lo hi H Q:=#[_,aoU,q,xs,rfl,h,n,g]
def ajs(ty:fj X.K H y t)(e:apB X.K t (.type T)=↑k)(g:Q (.bl k) H):CL X (.builtin "isinstance") [y,.ty T] H Q:=by
 show#[λxs H Q=>∃y t T k,xs=[y,.ty T]/\fj X.K H y t/\apB X.K t (.type T)=↑k/\Q (.bl k) H,?_,y,t,T,k,rfl,ty,e,g];intro ϵ s σ H xs us Q I r h;let#[y,t,T,k,rfl,ty,e,g]:=h;let#[f,a,rfl,r1,c]:=vals2 r;cases(show a=Value.type T from c);show ajk I r1 ty e λtk=>#[.bl k,H,I.tok tk,rfl,g]
end
def VB(x:Str):It:=#[λi _=>i<x.cps.size,λi H v H'=>H'=H/\∃c,x.cps[i]?=↑c/\v=.str #[#v[c]],λi _=>x.cps.size<=i]
theorem alU{P:ϱ}{w:ϭ}{K:PySem.W.Frag}{tg:Ϫ}{T:String}(l:T="str_ascii_iterator"\/T="str_iterator")(it:δ)(x:Str)(t:Tok):Turn P w K tg (VB x) [it] it (λi h=>h.IsStrIter it T x t i)where
 mem:=by simp
 obj:=λi h st b a=>by
  let e:b=it:= ~~~a
  subst e;let#[o,e,c,d]:=st;show#[o,e,λv z=>by rw[d]at z;cases z]
 keep:=λi h h' st k=>by
  let#[o,e,c,d]:=st;show#[o,k it (by simp) o e,c,d]
 item:=by
  intro X D F G g i ϵ s σ H E I m st J;subst D F G;let#[p,q,M,y,B,C]:=m it (by simp);let f:i<x.cps.size:=J;let O:∃W:Nat->ϫ->Prop,Walks X.prog X.w X.A it [it] [it] x.cps.size (SignAt x) W/\W=λi h=>h.IsStrIter it T x t i:=by
   obtain rfl|rfl:=l
   .show#[_,Walks.strAscii (I.ok.hd g) it x t,rfl]
   .show#[_,Walks.strWide (I.ok.hd g) it x t,rfl]
  let#[_,W,rfl]:=O;show W.item i s _ _ f st λv h' tk Q j kk=>?_
  let#[c,u,e1,rfl]:=Q;let R:Inv X ϵ σ H {s with heap:=h',toks:=tk}:=I.turned (λb o a e=>kk b o (~~~a) e) p q y B C;let#[o,e,S,d]:=id j;show#[_,rfl,vd (s:={s with heap:=h',toks:=tk}) (n:=T) e S d (by obtain rfl|rfl:=l<;>decide) ⟨.str ⟨#v[c]⟩,H,R,⟨u,rfl⟩,⟨rfl,c,e1,rfl⟩,j,λb a=>(m b a).1⟩]
 done:=by
  intro X D F G g i ϵ s σ H E I m st J;subst D F G;let#[p,q,M,y,B,C]:=m it (by simp);let f:x.cps[i]?=none:=alR J;obtain rfl|rfl:=l
  .show wpAny_pyNext_ascii_end (I.ok.hd g) st f λh' L=>#[rfl,I.turned (t':=s.toks) (λb o a e=>L b o a e) p q y B C]
  .show wpAny_pyNext_wide_end (I.ok.hd g) st f λh' L=>#[rfl,I.turned (t':=s.toks) (λb o a e=>L b o a e) p q y B C]
 self:=λ_ _ _ _ _ st h=>by
  obtain rfl|rfl:=l
  .show wpAny_pyIter_striter_ascii st h
  .show wpAny_pyIter_striter_wide st h
def ZS(h:EV X l σ H λx H1=>∃z,x=.str z/\R (VB z) H1):EI X tg l σ H R:=by
 intro ϵ s I;show υ (h ϵ s I) λv a f=>?_
 let#[x,H1,c,r1,z,e,q]:=f;subst e;let#[t,rfl]:=r1
 let fin:∀T:String,(T="str_ascii_iterator"\/T="str_iterator")->
   zU X ϵ σ tg R (.ref ⇑a) {a with heap:=a.heap.push {cls:=.type T,data:=.fields #v[.str z t,.int 0 0]}}:=λT g=>by
  show#[⇑a,[⇑a],_,_,H1,rfl,c.kept (t':=a.toks) λb o e=>ϲ _ e,alU g _ z t,#[_,abn _ rfl,rfl,rfl],λb i=>?_,q];let e:b=⇑a:= ~~~i
  subst e;show c.fpOk (Ϭ _) (c.hok.fresh (Ϭ _))
 cases ha:z.cps.all (· <128)
 .show wpAny_pyIter_wide ha (fin _ (.inr rfl))
 .show wpAny_pyIter_ascii ha (fin _ (.inl rfl))
def cL(N' N:List Str)(σ:St)(scope:ahD):St:=N'.map λx=>if scope.names.lookup x=↑.free then gh N σ x else none
def bU(X:Cx)(N':List Str)(scope:ahD)(cl:List (Str×δ))(C:δ)(s:μ)(H:Hp)(fp:List δ):Cx:=
 {X with N:=N',s₀:=s,H₀:=H,env:=compEnvC scope cl C X.env,outer:=X.stack,stack:=X.stack,ex:=fp,fn:=λ_=>false,pn:=[],xe:=λ_ _=>False}
def HY(X:Cx)(ifs:List Ϫ)(σ:St)(H:Hp)(Q:Bool->Hp->Prop):Prop:=
 ∀(ϵ:List (δ×Obj))(s:μ),Inv X ϵ σ H s->
  Ϧ ∅ X.A (forIn ifs true λc r=>if r=true then do let ok<-isTrue c X.env (eval c X.env);pure (ForInStep.yield ok)else pure (ForInStep.yield r)) (TP X ϵ σ Q) X.xe s
theorem Fz(env:Env):∀(names:List (Str×aqT))(cs:List (Str×δ)),(∀y∈names,y.2=.free->∃c,env.cells.lookup y.1=↑c)->
  (forIn names cs (λ(x:Str×aqT)(r:List (Str×δ))=>if(x.2==NameKind.free)=true then do let a<-cellOf env x.1;pure (ForInStep.yield ((x.1,a)::r))else pure (ForInStep.yield r)):Sem (List (Str×δ)))=
   pure (names.foldl (λcs y=>if y.2==.free then(y.1,(env.cells.lookup y.1).getD 0)::cs else cs) cs)
 |[],cs,_=>by simp
 |(n,k)::r,cs,h=>by
  rw[aoZ];by_cases i:k=.free
  .subst i;let#[c,e]:=h (n,.free) abD rfl;let l:cellOf env n=pure c:=by
    unfold cellOf;let f:env.cells.lookup n=↑c:=e;rw[f]
   simp only[beq_self_eq_true,if_true,l,pure_bind];let f:env.cells.lookup n=↑c:=e;rw[Fz env r _ λy g=>h y (aby _ g),aiW];simp only[beq_self_eq_true,if_true,f,at4]
  .let j:(k==NameKind.free)=false:= ~~~i
   simp only[j,aqO,if_false,pure_bind];rw[Fz env r _ λy g=>h y (aby _ g),aiW];simp only[j,aqO,if_false]
def Ϙ(scope:ahD)(env:Env):List (Str×δ):=scope.names.foldl (λcs y=>if y.2==.free then(y.1,(env.cells.lookup y.1).getD 0)::cs else cs) []
def Jw(h:∀y∈scope.names,y.2=.free->∃c,env.cells.lookup y.1=↑c):closureFor scope env=pure (Ϙ scope env):=by
 have:=Fz env scope.names [] h;unfold closureFor Ϙ;rw[<-this];simp
theorem R7{env:Env}:∀(names:List (Str×aqT))(cs:List (Str×δ)),(∀y∈names,y.2=.free->∃c,env.cells.lookup y.1=↑c)->
  ∀x c,(names.foldl (λcs y=>if y.2==.free then(y.1,(env.cells.lookup y.1).getD 0)::cs else cs) cs).lookup x=↑c->(env.cells.lookup x=↑c\/cs.lookup x=↑c)
 |[],cs,_,x,c,e=>.inr e
 |(n,k)::r,cs,h,x,c,e=>by
  rw[aiW]at e;rcases R7 r _ (λy i=>h y (aby _ i)) x c e with q|q
  .show .inl q
  .by_cases f:k=.free
   .subst f;let#[c',j]:=h (n,.free) abD rfl;let g:env.cells.lookup n=↑c':=j;simp only[beq_self_eq_true,if_true,g,at4,agg]at q;cases hx:x==n with
    |true=>
     rw[hx]at q;let a:x=n:= ~~~hx
     subst a;show .inl (g<|>q)
    |false=>rw[hx]at q;show .inr q
   .let l:(k==NameKind.free)=false:= ~~~f
    rw[if_neg (by simp[l])]at q;show .inr q
theorem Ho{env:Env}:∀(names:List (Str×aqT))(cs:List (Str×δ))(x:Str),((x,NameKind.free)∈names\/∃c,cs.lookup x=↑c)->
  ∃c,(names.foldl (λcs y=>if y.2==.free then(y.1,(env.cells.lookup y.1).getD 0)::cs else cs) cs).lookup x=↑c
 |[],cs,x,h=>by
  obtain h|h:=h
  .cases h
  .show h
 |(n,k)::r,cs,x,h=>by
  rw[aiW];show Ho r _ x ?_;by_cases a:k=.free
  .subst a;simp only[beq_self_eq_true,if_true,agg];cases hx:x==n with
   |true=>show .inr #[_,rfl]
   |false=>
    obtain h|h:=h
    .obtain h|h:=aaF.mp h
     .cases h;simp at hx
     .show .inl h
    .show .inr h
  .let e:(k==NameKind.free)=false:= ~~~a
   rw[if_neg (by simp[e])];obtain h|h:=h
   .obtain h|h:=aaF.mp h
    .cases h;show absurd rfl a
    .show .inl h
   .show .inr h
theorem aac{env:Env}{x:Str}:∀{names:List (Str×aqT)},names.lookup x=↑.free->
  (names.map λ(n,k)=>if(k==NameKind.free&&env.scope.kind==.function&&env.kindOf n==↑.cell)then(n,NameKind.cell)else(n,k)).lookup x=↑.cell\/
  (names.map λ(n,k)=>if(k==NameKind.free&&env.scope.kind==.function&&env.kindOf n==↑.cell)then(n,NameKind.cell)else(n,k)).lookup x=↑.free
 |[],h=>by simp at h
 |(n,k')::r,h=>by
  let c:= @aac env x r;show aia x ((if(k'==NameKind.free&&env.scope.kind==.function&&env.kindOf n==↑.cell)=true then(n,NameKind.cell)else(n,k'))::_)=_\/aia x ((if(k'==NameKind.free&&env.scope.kind==.function&&env.kindOf n==↑.cell)=true then(n,NameKind.cell)else(n,k'))::_)=_;cases hx:x==n with
  |true=>
   simp only[agg,hx]at h;cases h;by_cases a:(NameKind.free==NameKind.free&&env.scope.kind==.function&&env.kindOf n==↑.cell)=true
   .rw[if_pos a];left;simp only[agg,hx]
   .rw[if_neg a];right;simp only[agg,hx]
  |false=>
   simp only[agg,hx]at h;by_cases a:(k'==NameKind.free&&env.scope.kind==.function&&env.kindOf n==↑.cell)=true
   .rw[if_pos a];simp only[agg,hx];show c h
   .rw[if_neg a];simp only[agg,hx];show c h
theorem M4{env:Env}{x:Str}:∀{names:List (Str×aqT)},(∀y∈names,y.2≠.cell)->
  ((names.map λ(n,k)=>if(k==NameKind.free&&env.scope.kind==.function&&env.kindOf n==↑.cell)then(n,NameKind.cell)else(n,k)).lookup x=↑.cell\/
  (names.map λ(n,k)=>if(k==NameKind.free&&env.scope.kind==.function&&env.kindOf n==↑.cell)then(n,NameKind.cell)else(n,k)).lookup x=↑.free)->(x,NameKind.free)∈names
 |[],_,h=>by simp at h
 |(n,k')::r,c,h=>by
  let f:= @M4 env x r λy g=>c y (aby _ g)
  let h':aia x ((if(k'==NameKind.free&&env.scope.kind==.function&&env.kindOf n==↑.cell)=true then(n,NameKind.cell)else(n,k'))::(r.map λ(n,k)=>if(k==NameKind.free&&env.scope.kind==.function&&env.kindOf n==↑.cell)then(n,NameKind.cell)else(n,k)))=↑.cell\/
   aia x ((if(k'==NameKind.free&&env.scope.kind==.function&&env.kindOf n==↑.cell)=true then(n,NameKind.cell)else(n,k'))::(r.map λ(n,k)=>if(k==NameKind.free&&env.scope.kind==.function&&env.kindOf n==↑.cell)then(n,NameKind.cell)else(n,k)))=↑.free:=h
  cases hx:x==n with
  |true=>
   let e:x=n:= ~~~hx
   subst e;by_cases a:(k'==NameKind.free&&env.scope.kind==.function&&env.kindOf x==↑.cell)=true
   .have :k'=.free:=by simp only[aaK]at a;simpa using a.1.1
    subst this;show abD
   .rw[if_neg a]at h';simp only[agg,hx]at h';obtain h'|h':=h'
    .cases h';show absurd rfl (c (x,.cell) abD)
    .cases h';show abD
  |false=>
   show aby _ (f ?_);by_cases a:(k'==NameKind.free&&env.scope.kind==.function&&env.kindOf n==↑.cell)=true
   .rw[if_pos a]at h';simpa only[agg,hx]using h'
   .rw[if_neg a]at h';simpa only[agg,hx]using h'
theorem ah1(I:Nat->μ->Prop)(y:∀x s,Er x s->notedBy (Ϩ prog w) A env (λx s'=>R (.error x) s') x s)(turn:∀n s,I n s->Ϧ (Ϩ prog w) A (pyNext it) (λr e=>match r with
   |none=>R (.ok .next) e
   |some v=>Ϧ (Ϩ prog w) A (letOwnedTupleGo a it v) (λ_ f=>Ϧ (Ϩ prog w) A (assign a env v) (λ_ i=>
    Ϧ (Ϩ prog w) A (forIn ifs true λc r=>if r=true then do let ok<-isTrue c env (eval c env);pure (ForInStep.yield ok)else pure (ForInStep.yield r)) (λok g=>
     if ok=true then Ϧ (Ϩ prog w) A (eval elt env) (λx j=>
      Ϧ (Ϩ prog w) A (call (.builtin "list.append") [q,x]) (λ_ l=>∃m,m<n/\I m l) Er j) Er g
     else ∃m,m<n/\I m g) Er i) Er f) Er e) Er s)(n:Nat)(h:I n s):codeAny (Ϩ prog w) A (.compLoop (.ListComp elt [#[a,iter,ifs,0]] scope pos) 0 it q env) R s:=by
 show codeAny_loop rfl I (λn s D=>?_) n h*>Ϧ _ A ((compTurn (.ListComp elt [#[a,iter,ifs,0]] scope pos) 0 it q env).onRaise (λx=>do noteFrame x env;theTreesLotGoes x)) _ _ s*>wpAny_noted ?_;rw[compTurn_list];show π (amU (π (adq (turn n s D) (λr e o=>?_) y)));cases r with
 |none=>show ϯ o
 |some v=>
  show π (adq o (λ_ f u=>?_) y)*>π (adq u (λ_ i z=>π (adq z (λok g p=>?_) y)) y);cases ok with
  |false=>show ϯ #[rfl,p]
  |true=>
   show π (π (adq p (λx j B=>π (adq B (λ_ l C=>ϯ (ϯ #[rfl,C])) y)) y))
def uw(M:Model)(A:ϴ)(E:ε->μ->Prop)(use:Option (ε->Sem Unit))(Q:ε->μ->Prop)(c:ε)(C:Env)(r:Result)(s':μ):Prop:=
 match r,use with
 |.ok _,none=>∃m,s'.heap.Ns C.locals m/\∀h',amn C.locals s'.heap h'->Q c {s' with heap:=h'}
 |.ok _,↑u=>Ϧ M A (u c) (λ_ a=>∃m,a.heap.Ns C.locals m/\∀h',amn C.locals a.heap h'->Q .none {a with heap:=h'}) E s'
 |.error x,_=>∃m,s'.heap.Ns C.locals m/\∀h',amn C.locals s'.heap h'->Ϧ M A (passOn "comprehension.variables-let-go" x C:Sem ε) (λ_ _=>False) E {s' with heap:=h'}
def Dv(L:clausesOf e=g::R)(hs:∀x,foldedSetIterable g.iter env x=pure x)(q:closureFor scope env=pure cl)(a:scope.kind=.function)(j:∀x∈scope.names,x.2=.local->scope.names.lookup x.1=↑.local)(h:Ϧ M A first (λx l=>Ϧ M A (pyIter x) (λit n=>Ϧ M A c (λv o=>Ϧ M A (newFunctionEnv scope env.globals cl [] env.qual none .none ↑env) (λcenv p=>
   codeAny M A (.compStart e 0 it v {cenv with scope:=relabel scope env}) (uw M A E use Q v {cenv with scope:=relabel scope env}) p) E o) E n) E l) E s):Ϧ M A (comprehension e scope env pos c false first use) Q E s:=by
 unfold comprehension;rw[q,L];show π (adq h (λx l C=>π (amU (π (wpAny_of_eq (hs x) (π (aez (adq C (λit n D=>wpAny_standIf (π (adq D (λv o F=>
  π (ϯ (π (adq F (λcenv p G=>?_) λ_ _ z=>z)))) λ_ _ z=>z))) λ_ _ z=>z))))))) λ_ _ z=>z)
 dsimp only;let I:∀x∈(scope.names.filter λx=>(x.2==.local||x.2==.cell)&&x.1 !=(".0":Str)).reverse,x.2=.local->Env.kindOf {cenv with scope:=relabel scope env} x.1=↑.local:=
  λx O J=>lookup_relabel_local (j x (akR.mp (at5.mp O)).1 J)
 let S:∀x∈(scope.names.filter λx=>(x.2==.local||x.2==.cell)&&x.1 !=(".0":Str)).reverse.drop 1++(scope.names.filter λx=>(x.2==.local||x.2==.cell)&&x.1 !=(".0":Str)).reverse.take 1,x.2=.local->Env.kindOf {cenv with scope:=relabel scope env} x.1=↑.local:=λx O J=>by
  obtain z|z:=adi.mp O
  .show I x (af0 z) J
  .show I x (aeB z) J
 show aez (π (ap3 (aez (wpAny_run (ajA G λr s' B=>?_)))));cases r with
 |ok f=>
  cases use with
  |none=>
   let#[m,H,B]:=B;show π (aez (wpAny_comp_letGo (cenv:={cenv with scope:=relabel scope env}) a _ s' m I H λh' m' _ z=>ϯ (B h' z)))
  |some u=>
   show π (wpAny_rule (π (aez (adq B (λ_ P i=>?_) λ_ _ z=>z))));let#[m,H,i]:=i;show π (wpAny_comp_letGo (cenv:={cenv with scope:=relabel scope env}) a _ P m S H λh' m' _ z=>ϯ (i h' z))
 |error x=>
  let i:∃m,s'.heap.Ns cenv.locals m/\∀h',amn cenv.locals s'.heap h'->Ϧ M A (passOn "comprehension.variables-let-go" x {cenv with scope:=relabel scope env}:Sem ε) (λ_ _=>False) E {s' with heap:=h'}:=by cases use<;>show B
  let#[m,H,B]:=i;show π (aez (wpAny_comp_letGo (cenv:={cenv with scope:=relabel scope env}) a _ s' m I H λh' m' _ z=>adq (B h' z) (λ_ _ f=>f.elim) λ_ _ y=>y))
abbrev Cx.tri(X:Cx)(F:ε->μ->Prop)(pn:List (δ×Obj)):Cx:={X with xe:=F,pn:=pn}
section
variable{X:Cx}{ϵ pins':List (δ×Obj)}{σ:St}{H:Hp}{s:μ}{F:ε->μ->Prop}
theorem Cx.Ok.tri(ok:X.Ok)(pn:List (δ×Obj)):(X.tri F pn).Ok:=
 #[ok.mod,ok.kind,ok.glob,ok.blt,ok.above,ok.inj,ok.has,ok.cab,ok.hd,ok.frames,ok.stk,ok.exf,ok.bs,ok.bsz,ok.noex,ok.exfs,ok.funs,ok.frf]
theorem Inv.tri(I:Inv X ϵ σ H s):Inv (X.tri F (X.pn++ϵ)) [] σ H s:=
 #[I.ok.tri _,I.os,I.bare,I.base,I.loc,I.cell,I.free,I.freeC,λp a=>I.pin p (~~~a),I.hok,I.len]
theorem Inv.lH(ok:X.Ok)(I:Inv (X.tri F (X.pn++ϵ)) pins' σ H s):Inv X ϵ σ H s:=
 #[ok,I.os,I.bare,I.base,I.loc,I.cell,I.free,I.freeC,λp a=>I.pin p (agF _ a),I.hok,I.len]
end
abbrev eQ(X:Cx)(N':List Str)(scope:ahD)(cl:List (Str×δ))(C:δ)(s:μ)(H:Hp)(fp:List δ)(F:ε->μ->Prop):Cx:=(bU X N' scope cl C s H fp).tri F []
section
variable{X:Cx}{ϵ:List (δ×Obj)}{σ:St}{H H':Hp}{s s':μ}{scope:ahD}{fp:List δ}{N':List Str}
structure cJ(env:Env)(scope:ahD):Prop where
 kind:scope.kind=.function
 free:∀y∈scope.names,y.2=.free->env.kindOf y.1=↑.cell\/env.kindOf y.1=↑.free
 cell:∀y∈scope.names,y.2≠.cell
 loc:∀y∈scope.names,y.2=.local->scope.names.lookup y.1=↑.local
theorem cJ.has(S:cJ X.env scope)(I:Inv X ϵ σ H s):∀y∈scope.names,y.2=.free->∃c,X.env.cells.lookup y.1=↑c:=λy a e=>I.ok.has y.1 (S.free y a e)
def cJ.cl(S:cJ X.env scope)(I:Inv X ϵ σ H s)(h:(Ϙ scope X.env).lookup x=↑c):X.env.cells.lookup x=↑c:=by
 obtain q|q:=R7 scope.names [] (S.has I) x c h
 .show q
 .simp at q
theorem aeA(S:cJ X.env scope)(I:Inv X ϵ σ H s)(f:∀b∈fp,bN X ϵ H b)(g:∀b∈fp,b<⇑s):(bU X N' scope (Ϙ scope X.env) ⇑s s H fp).Ok where
 mod:=I.ok.mod
 kind:=S.kind
 glob:=I.ok.glob
 blt:=I.ok.blt
 above:=Ϭ _
 inj:=λx y c h1 h2=>I.ok.inj x y c (S.cl I h1) (S.cl I h2)
 has:=λx i=>Ho (env:=X.env) scope.names [] x (.inl (M4 S.cell i))
 cab:=λx c h _=>by cases h
 hd:=I.ok.hd
 frames:=I.ok.frames
 stk:=.inl rfl
 exf:=λb a=>#[adb (g b a),λx c h=>(f b a).2.2.2.2.1 x c (S.cl I h)]
 bs:=I.bs
 bsz:=afT I.ok.bsz I.sz
 noex:=λb o e a=>by
  rcases(f b a).2.2.2.1 with z|z
  .show I.ok.noex b o e z
  .rw[(I.ok.bs b o e).1]at z;cases z
 exfs:=λb a z=>by
  rcases aaF.mp (I.stkSub b z)with e|e
  .show(f b a).2.1 e
  .show(f b a).2.2.1 e
 funs:=I.stack
 frf:=I.stkFree
def afp{i:Nat}(h1:N'[i]?=↑x)(h2:(cL N' N σ scope)[i]?=some ↑v):scope.names.lookup x=↑.free/\gh N σ x=↑v:=by
 unfold cL at h2;rw[adl,h1]at h2;let a:(if scope.names.lookup x=↑.free then gh N σ x else none)=↑v:= ~~~h2
 split at a
 .rename_i e;show#[e,a]
 .cases a
theorem afU(S:cJ X.env scope)(I:Inv X ϵ σ H s)(E:∀b∈fp,bN X ϵ H b)(l:∀b∈fp,b<⇑s){a:ϫ}{m:MG}{tk:Nat}(n:a.Ns ⇑s m)(f:∀b o,s.heap.get? b=↑o->a.get? b=↑o):Inv (bU X N' scope (Ϙ scope X.env) ⇑s s H fp) [] (cL N' X.N σ scope) H {s with heap:=a,toks:=tk}where
 ok:=aeA S I E l
 os:=rfl
 bare:=I.bare
 base:=Un.kept f
 loc:=by
  show#[m,n,λi x v h1 h2 P=>?_];let#[e1,F]:=afp h1 h2;let#[j,G,J]:=Ly F;let B:(x,NameKind.free)∈scope.names:=PySem.mem_of_lookup e1;let hk:=S.free _ B rfl;let#[Q,_,L]:=I.loc;let q:rA X.env.scope x:=.inr hk;let#[u,r,lk]:=L j x v G J q;show#[u,r,.inr #[aac (env:=X.env) e1,?_]];obtain⟨k,_⟩|⟨_,c,e,z⟩:=lk
  .obtain hk|hk:=hk
   .let g:X.env.kindOf x=↑.cell:=hk;rw[g]at k;cases k
   .let g:X.env.kindOf x=↑.free:=hk;rw[g]at k;cases k
  .let#[M,C]:=Ho (env:=X.env) scope.names [] x (.inl B);let D:=S.cl I (x:=x) (c:=M) C;rw[e]at D;cases D;let#[o,y,hd]:=z;show#[c,C,o,f<*y,hd]
 cell:=λx c h=>by
  let#[v,o,y,hd]:=I.cell x c (S.cl I h);show#[v,o,f<*y,hd]
 free:=I.hok.fresh (Ϭ _)
 freeC:=λx c h=>I.freeC x c (S.cl I h)
 pin:=λp O=>absurd (show p∈([]:List (δ×Obj))from O) (by simp)
 hok:=I.hok.kept f
 len:=by show(cL N' X.N σ scope).length=↥N';unfold cL;rw[aau]
def akO{i:St}(I:Inv X ϵ σ H s)(a:∀b∈fp,bN X ϵ H b)(J:Inv (bU X N' scope (Ϙ scope X.env) ⇑s s H fp) [] i H' s'):Inv X ϵ σ H' s':=by
 let#[j,g,d,t,f]:=s';let e:f=s.os:=J.os;subst e;show I.call (h':=j) (g':=g) (d':=d) (t':=t) (ch:=fp) J.base J.hok J.bare λb c=>#[(a b c).2.2.2.1,(a b c).2.1,(a b c).2.2.2.2.1,(a b c).2.2.2.2.2]
variable{elt iter tg:Ϫ}{ifs:List Ϫ}{pos:Pos}
def j6(X Y:Cx)(tg elt:Ϫ)(ifs:List Ϫ)(J:It)(D:δ)(σ':St)(H:Hp)(Q:Hp->Prop):Prop:=
 ∃W:Nat->Nat->St->Hp->Prop,(∃m,W 0 m σ' (upd H D (.lst [])))/\∀i m e H,W i m e H->
  (J.stop i H/\Q H)\/(J.go i H/\∃N:St->Hp->Prop,(∀c H',N c H'->∃m',m'<m/\W (i+1) m' c H')/\∀x H',J.yld i H x H'->
   EG Y tg x e H' λa H2=>HY Y ifs a H2 λk f=>if k=true then EV Y elt a f λy g=>∃xs,g D=↑(.lst xs)/\↥xs<ϰ/\N a (upd g D (.lst (xs++[y])))else N a f)
def JN{R:ε->Env->Result->μ->Prop}{Y:Nat->ϫ->Prop}{E:ε->μ->Prop}{Q:δ->Hp->Prop}(Fx:δ->Env->ε->μ->Prop)(hc:X.calm=true)(S:cJ X.env scope)(I:Inv X ϵ σ H s)(T:Turn X.prog X.w X.K tg J fp it Y)(st:Y 0 s.heap)(hf:∀b∈fp,bN X ϵ H b)(ap:∀D C x s',Fx D C x s'->notedBy ∅ X.A C (λx s'=>R (.ref D) C (.error x) s') x s')(h:∀(D:δ)(s3:μ),H D=none->Inv X ϵ σ (upd H D (.lst [])) s3->(∀b∈fp,bN X ϵ (upd H D (.lst [])) b)->
   (∀{pins':List (δ×Obj)}{j:St}{H':Hp}{s':μ},Inv (eQ X N' scope (Ϙ scope X.env) ⇑s3 s3 (upd H D (.lst [])) fp (Fx D (compEnvC scope (Ϙ scope X.env) ⇑s3 X.env))) pins' j H' s'->Inv X ϵ σ H' s')->
   j6 X (eQ X N' scope (Ϙ scope X.env) ⇑s3 s3 (upd H D (.lst [])) fp (Fx D (compEnvC scope (Ϙ scope X.env) ⇑s3 X.env))) tg elt ifs J D (cL N' X.N σ scope) H (Q D))(hR:∀(D:δ)(C:Env)(H':Hp)(s':μ),H D=none->Q D H'->Inv X ϵ σ H' s'->bN X ϵ H' C.locals->(∃m,s'.heap.Ns C.locals m)->R (.ref D) C (.ok .next) s'):Ϧ ∅ X.A (newList []) (λaa ab=>Ϧ ∅ X.A (newFunctionEnv scope X.env.globals (Ϙ scope X.env) [] X.env.qual none .none ↑X.env) (λcenv ac=>
   codeAny ∅ X.A (.compStart (.ListComp elt [#[tg,iter,ifs,0]] scope pos) 0 (.ref it) aa {cenv with scope:=relabel scope X.env}) (R aa {cenv with scope:=relabel scope X.env}) ac) E ab) E s:=by
 show aiY ?_;let hD:H ⇑s=none:=I.hok.fresh (Ϭ _);generalize U:({s with heap:=s.heap.push {cls:=.type "list",dict:=none,data:=.seq ([]:List ε).toArray}}:μ)=s3;let Z:Inv X ϵ σ (upd H ⇑s (.lst [])) s3:=by
  subst U;show I.laid (t':=s.toks) (λb u e=>ϲ _ e) (Ϭ _) #[ag3 _,[],0,.nil,abn _ rfl]
 let hsz:⇑s3=⇑s+1:=by subst U;show ajX ..
 let ae:∀b o,s.heap.get? b=↑o->s3.heap.get? b=↑o:=λb o e=>by subst U;show ϲ _ e
 let Rp:∀b∈fp,b<⇑s:=λb a=>by
  let#[o,e,_]:=T.obj _ _ st b a;show abN e
 let pA:∀b∈fp,bN X ϵ (upd H ⇑s (.lst [])) b:=λb a=>#[by rw[ι (adb (Rp b a))];show(hf b a).1,(hf b a).2]
 let ar:Y 0 s3.heap:=T.keep _ _ _ st λb _ o e=>ae b o e
 let Uy:∀b∈fp,b<⇑s3:=λb a=>by rw[hsz];show aqZ (Rp b a)
 show wpAny_newFunctionEnv S.cell (by intro y hy;simp at hy) (λO av aw=>?_) S.kind;let Ou:∀b o,s3.heap.get? b=↑o->O.get? b=↑o:=λb o e=>aw.extBut b o (adb (abN e)) (ϲ _ e)
 let L:=h ⇑s s3 hD Z pA;generalize pN:compEnvC scope (Ϙ scope X.env) ⇑s3 X.env=Ce at L;generalize hF:Fx ⇑s Ce=F at L;let oY:Ce.locals=⇑s3:=by rw[<-pN];rfl
 generalize l:bU X N' scope (Ϙ scope X.env) ⇑s3 s3 (upd H ⇑s (.lst [])) fp=B;generalize Ud:({s3 with heap:=O,toks:=s3.toks+↥([]:List (Str×ε))}:μ)=s4;let ZF:Inv B [] (cL N' X.N σ scope) (upd H ⇑s (.lst [])) s4:=by
  subst Ud;rw[<-l];show afU S Z pA Uy av Ou
 let af:B.pn=[]:=by rw[<-l];rfl
 let ag:∀{pins':List (δ×Obj)}{j:St}{H':Hp}{s':μ},Inv (B.tri F []) pins' j H' s'->Inv X ϵ σ H' s':=λ{pins' j H' s'} J=>by
  let J2:Inv B [] j H' s':=Inv.lH (X:=B) (ϵ:=[]) (F:=F) (pins':=pins') ZF.ok (by rw[af];show J);rw[<-l]at J2;show akO Z pA J2
 let hP:(B.tri F []).prog=X.prog:=by rw[<-l];rfl
 let hw:(B.tri F []).w=X.w:=by rw[<-l];rfl
 let hK:(B.tri F []).K=X.K:=by rw[<-l];rfl
 let hA:(B.tri F []).A=X.A:=by rw[<-l];rfl
 let TJ:(B.tri F []).calm=true:=by rw[<-l];show hc
 let ah:(B.tri F []).env=Ce:=by rw[<-l, <-pN];rfl
 let P:(B.tri F []).env.locals=⇑s3:=by rw[ah,oY]
 rw[show eQ X N' scope (Ϙ scope X.env) ⇑s3 s3 (upd H ⇑s (.lst [])) fp F=B.tri F []from by rw[<-l]]at L;let#[W,#[m0,w0],turn]:=L ag;let I4:Inv (B.tri F []) [] (cL N' X.N σ scope) (upd H ⇑s (.lst [])) s4:=by
  have:=ZF.tri (F:=F);rw[af]at this;show this
 let vB:Y 0 s4.heap:=by
  subst Ud;show T.keep _ _ _ ar λb _ o e=>Ou b o e
 let Hb:∀b∈fp,∀H':Hp,H' b=none->bN (B.tri F []) [] H' b:=λb a H' e=>by
  rw[<-l];show#[e,adb (Uy b a),λz=>?_,.inl a,λx c q=>(pA b a).2.2.2.2.1 x c (S.cl Z q),λp hp=>absurd (show p∈([]:List (δ×Obj))from hp) (by simp)];rcases aaF.mp (Z.stkSub b z)with e|e
  .show(hf b a).2.1 e
  .show(hf b a).2.2.1 e
 let G:codeAny ∅ X.A (.compLoop (.ListComp elt [#[tg,iter,ifs,0]] scope pos) 0 (.ref it) (.ref ⇑s) Ce) (R (.ref ⇑s) Ce) s4:=by
  show ah1 (Er:=F) (λn s'=>∃i j H',Inv (B.tri F []) [] j H' s'/\Y i s'.heap/\(∀b∈fp,H' b=none)/\W i n j H') (λx s z=>ap _ _ x s (by rw[hF];show z)) ?_ m0 #[0,_,_,I4,vB,λb a=>(pA b a).1,w0]
  rintro n s5 ⟨i,j,H5,I5,ai,al,w5⟩
  let M:∀{α:Type}{t:Sem α}{Q:α->μ->Prop}{s:μ},Ϧ (Ϩ (B.tri F []).prog (B.tri F []).w) (B.tri F []).A t Q (B.tri F []).xe s->Ϧ ∅ X.A t Q F s:=λh=>by
   rw[hP,hw,hA]at h;show h
  rw[<-ah];obtain⟨stop,qn⟩|⟨go,N,hN,step⟩:=turn i n j H5 w5
  .let q:=T.done (B.tri F []) hP hw hK TJ i [] s5 j H5 F I5 (λb a=>Hb b a _ (al b a)) ai stop;rw[hA]at q;show υ q λr s6 f=>?_
   let#[hr,I6]:=f;subst hr;show hR _ _ H5 s6 hD qn (ag I6) ?_ ?_
   .rw[P];show Z.fpOk (Ϭ _) ?_;have:=I6.free;rw[P]at this;show this
   .let#[m,hn,_]:=I6.loc;show#[m,hn]
  .let q:=T.item (B.tri F []) hP hw hK TJ i [] s5 j H5 F I5 (λb a=>Hb b a _ (al b a)) ai go;rw[hA]at q;show υ q λr s6 f=>?_
   let#[u,hr,h6]:=f;subst hr;show υ h6 λ_ s7 f=>?_
   let#[x,H7,I7,r7,y7,Iu,ax]:=f;let ay:=I7.pinned (λb a=>Hb b a _ (ax b a)) (T.obj<*Iu);let Np:∀{am:St}{H8:Hp}{s8:μ},Inv (B.tri F []) ([]++gZ fp s7.heap) am H8 s8->Y (i+1) s8.heap/\∀b∈fp,H8 b=none:=λ{am H8 s8} I8=>by
    show#[T.keep _ _ _ Iu λb a o e=>(I8.pin (b,o) (adL _ (adL _ (Ac a e)))).1,λb a=>?_];let#[o,e,d]:=T.obj _ _ Iu b a;show(I8.pin (b,o) (adL _ (adL _ (Ac a e)))).2.1
   show M (υ (step x H7 y7 _ s7 u ay r7) λ_ s8 f=>?_);let#[g,H8,I8,q8]:=f;show M (υ (q8 _ s8 I8) λok s9 f=>?_);let#[H9,I9,q9]:=f;cases ok with
   |false=>
    let Lq:N g H9:= ~~~q9
    let#[m',hm,w9]:=hN _ _ Lq;let#[k1,k2]:=Np I9;show ∃m,_;show#[m',hm,i+1,g,H9,I9.unpinned,k1,k2,w9]
   |true=>
    let Lq:EV (B.tri F []) elt g H9 λy H4=>∃xs,H4 ⇑s=↑(.lst xs)/\↥xs<ϰ/\N g (upd H4 ⇑s (.lst (xs++[y]))):= ~~~q9
    show Ϧ _ _ _ _ _ _*>M (υ (Lq _ s9 I9) λz qi f=>?_);let#[y,oN,az,aC,xs,aE,aI,aN]:=f;show M (υ (iZ _ qi g oN (.ref ⇑s) [y] _ [z] (λv rm=>v=.non/\rm=upd oN ⇑s (.lst (xs++[y]))) az rfl (.cons aC .nil) #[_,xs,y,rfl,rfl,aE,aI,rfl,rfl]) λ_ K5 f=>?_);let#[_,rm,Xn,_,_,aS]:=f;subst aS;let#[m',hm,aT]:=hN _ _ aN;let#[k1,k2]:=Np Xn;show#[m',hm,i+1,g,_,Xn.unpinned,k1,k2,aT]
 rw[<-pN]at G;show codeAny_compStart_list G (T.self X.A 0 s4 _ _ vB G)
def su(l:X.calm=true)(S:cJ X.env scope)(hs:∀x,foldedSetIterable iter X.env x=pure x)(h:EI X tg iter σ H λJ H1=>∀(fp:List δ)(D C:δ)(a:μ),H1 D=none->j6 X (bU X N' scope (Ϙ scope X.env) C a (upd H1 D (.lst [])) fp) tg elt ifs J D (cL N' X.N σ scope) H1 (λH'=>Q (.ref D) H')):EV X (.ListComp elt [#[tg,iter,ifs,0]] scope pos) σ H Q:=by
 intro ϵ s I;rw[eval_ListComp];show Dv (use:=none) rfl hs (Jw (S.has I)) S.kind S.loc (υ (h ϵ s I) λv P h1=>υ h1 λn U h2=>?_);let#[it,fp,W,J,H2,e,p,T,c,q,u]:=h2;subst e;show JN (λ_ _ _ _=>False) (R:=λf C=>uw ∅ X.A X.xe none (EP X ϵ σ Q) f C) (Q:=λD H'=>Q (.ref D) H') l S p T c q (λ_ _ _ _ z=>z.elim) (λD a j _ _ _=>u fp D _ a j) λD C H' s' j y IX B g=>?_
 let#[m,g]:=g;let#[E,F,Y,G,L,M]:=B;show#[m,g,λh' i=>#[.ref D,H',IX.turned (t':=s'.toks) (λb o O e=>i.extBut b o O e) E F G L M,rfl,y]]
def aj8(c:apS (.ListComp elt [#[tg,iter,ifs,0]] scope pos) ↑(.Name y py) spos.line X.env=pure true)(L:X.calm=true)(S:cJ X.env scope)(hs:∀x,foldedSetIterable iter X.env x=pure x)(M:X.N.Nodup)(hi:nameAt X.N y=↑j)(u:X.env.scope.names.lookup y=↑.local)(h:EI X tg iter σ H λJ H1=>∀(fp:List δ)(E C:δ)(f:μ),H1 E=none->j6 X (bU X N' scope (Ϙ scope X.env) C f (upd H1 E (.lst [])) fp) tg elt ifs J E (cL N' X.N σ scope) H1 (λH'=>D.nx (σ.set j ↑(.ref E)) H')):SX X (.Assign [.Name y py] (.ListComp elt [#[tg,iter,ifs,0]] scope pos) spos) D σ H:=by
 intro ϵ s I;rw[exec_Assign_Name_used _ _ _ _ c];show π (amU (π ?_));show Ϧ _ X.A (do let _<-comprehension (.ListComp elt [#[tg,iter,ifs,0]] scope pos) scope X.env _ (newList []) false (eval iter X.env) ↑(assign (.Name y py) X.env)) _ _ s;show π (adq (Dv (use:=↑(assign (.Name y py) X.env)) (Q:=λ_ s'=>SP X ϵ D .next s') rfl hs (Jw (S.has I)) S.kind S.loc
  (υ (h ϵ s I) λv s1 h1=>υ h1 λO s2 h2=>?_)) (λ_ s' P=>ϯ (ϯ P)) λ_ _ e=>e)
 let#[it,fp,tn,J,H2,e,U,T,g,W,Y]:=h2;subst e;show JN (λ_ _ _ _=>False) (R:=λi C=>uw ∅ X.A X.xe ↑(assign (.Name y py) X.env) (λ_ s'=>SP X ϵ D .next s') i C) (Q:=λE H'=>D.nx (σ.set j ↑(.ref E)) H') L S U T g W (λ_ _ _ _ z=>z.elim) (λE f B _ _ _=>Y fp E _ f B) λE C H' s' B Z IX fC l=>?_
 let#[m,l]:=l;let#[f0,F,Xi,f3,G,f5]:=fC;show Ϧ _ _ (assign (.Name y py) X.env (.ref E)) _ _ _*>wpAny_assign_Name (rC IX M (lO hi) (.inl u) (v:=.ref E) rfl (λn Jb p=>?_) (.inr u));let#[a,sb,ha]:=p;let JK:C.locals≠a:=by
  obtain ha|ha:=ha
  .rw[ha];show F
  .intro z;show G y a ha z.symm
 show#[m,l.sameBut sb JK,λh' q=>#[σ.set j ↑(.ref E),H',Jb.turned (t':=n.toks) (λb o p e=>q.extBut b o p e) f0 F f3 G f5,Z]]
theorem aaP(q:Q true H):HY X [] σ H Q:=λϵ s I=>by
 rw[arc];show ϯ #[H,I,q]
theorem ab3(h:ET X c σ H Q):HY X [c] σ H Q:=λϵ s I=>by
 rw[aoZ];simp only[if_true];show π (π (υ (h ϵ s I) λk a q=>ϯ ?_));dsimp only;rw[arc];show ϯ q
end
def Β{c A B:Prop}[Decidable c](h1:c->A)(h2:¬c->B):if decide c=true then A else B:=by
 by_cases h:c
 .rw[if_pos (decide_eq_true h)];show h1 h
 .rw[if_neg (~~~h)];show h2 h
theorem cA{c A B:Prop}[Decidable c](q:B)(h:¬c:=by fin2):if decide c=true then A else B:=Β (λz=>absurd z h) λ_=>q
theorem cX{c A B:Prop}[Decidable c](q:A)(h:c:=by rfl):if decide c=true then A else B:=Β (λ_=>q) λz=>absurd h z
def gM{c A B:Prop}[Decidable c](h1:¬c->A)(h2:c->B):if(!decide c)=true then A else B:=by
 by_cases h:c
 .rw[if_neg (by simp[h])];show h2 h
 .rw[if_pos (by simp[h])];show h1 h
def kh{A B:Prop}(h1:k=true->A)(h2:k=false->B):if k=true then A else B:=by
 cases k with
 |true=>rw[if_pos rfl];show h1 rfl
 |false=>rw[if_neg aa5];show h2 rfl
def aof{A B:Prop}(h1:k=false->A)(h2:k=true->B):if(!k)=true then A else B:=by
 cases k with
 |true=>rw[if_neg (by decide)];show h2 rfl
 |false=>rw[if_pos (by decide)];show h1 rfl
def aeM{A B:Prop}(h:B):if(!true)=true then A else B:=by rw[if_neg (by decide)];show h
def acZ{A B:Prop}(h:A):if(!false)=true then A else B:=by rw[if_pos (by decide)];show h
theorem ζ.upd(h:H p=none):ζ H (_L.upd H p o):=λb u e=>by rw[ι (Ω e h)];show e
theorem Θ(h:H p=none)(o:HO):ζ H (upd H p o)/\(upd H p o) p=↑o:=#[ζ.upd h,ο]
section
variable{X:Cx}{a e:Ϫ}{σ:St}{H:Hp}{Q:VK}{D:Ends}{pos p p':Pos}
def wD(j:anh ∅ X.A X.env X.xe)(l:X.calm=true)(m:Gl X "range")(o:X.mg "range"=none)(hs:ϳ [a] X.env=[(false,eval a X.env)])(h:EV X a σ H λv H1=>∃n:Int,v=.int n/\ -(2^62)<=n/\n<2^62/\∃c:Nat->St->Hp->Prop,c 0 σ H1/\
   (∀i σ' H',i<n.toNat->c i σ' H'->EG X tg (.int i) σ' H' λe H2=>Ζ X body {D with nx:=c (i+1),ct:=c (i+1),bk:=D.nx} e H2)/\∀σ' H',c n.toNat σ' H'->D.nx σ' H'):SX X (.For tg (.Call (.Name "range" p) [a] [] p') body [] pos) D σ H:=by
 show oK j l (by intro _;rfl) (JT m o hs (dF hs (Ϣ h λv H1 q=>?_)));let#[n,rfl,h1,h2,c,s,f,hd]:=q;show gb #[n,rfl,h1,h2,?_]*>aeT (g:=EG X tg) (tb:=Ζ X body) c s (λi σ' H' hi u=>by rw[arI];show f i σ' H' hi u) hd
def wB(j:anh ∅ X.A X.env X.xe)(l:X.calm=true)(hs:∀x,foldedSetIterable e X.env x=pure x)(h:EV X e σ H λv H1=>∃q xs,v=.ref q/\θ X.K H1 q xs/\∃a:Nat->St->Hp->Prop,a 0 σ H1/\(∀i σ' H',i<=↥xs->a i σ' H'->θ X.K H' q xs)/\
   (∀i x σ' H',xs[i]?=↑x->a i σ' H'->EG X tg x σ' H' λc H2=>Ζ X body {D with nx:=a (i+1),ct:=a (i+1),bk:=D.nx} c H2)/\∀σ' H',a ↥xs σ' H'->D.nx σ' H'):SX X (.For tg e body [] pos) D σ H:=by
 show oK j l hs (uO (Ϣ h λv H1 q=>?_));let#[q,xs,rfl,m,a,n,o,f,hd]:=q;show#[q,rfl,#[xs,m],aow (g:=EG X tg) (tb:=Ζ X body) a n o f hd]
def YB(l:anh ∅ X.A X.env X.xe)(n:X.calm=true)(hs:∀x,foldedSetIterable e X.env x=pure x)(h:EV X e σ H λv H1=>∃z:Str,v=.str z/\∃a:Nat->St->Hp->Prop,a 0 σ H1/\
   (∀i c σ' H',z.cps.toList[i]?=↑c->a i σ' H'->EG X tg (.str #[#v[c]]) σ' H' λf H2=>Ζ X body {D with nx:=a (i+1),ct:=a (i+1),bk:=D.nx} f H2)/\∀σ' H',a ↥z.cps.toList σ' H'->D.nx σ' H'):SX X (.For tg e body [] pos) D σ H:=by
 show oK l n hs (ZS (Ϣ h λv H1 q=>?_));let#[z,rfl,a,o,j,hd]:=q;show#[z,rfl,λi m σ H=>m=z.cps.size-i/\i<=z.cps.size/\a i σ H,#[z.cps.size,by simp,ag3 _,o],?_]
 rintro i m σ' H' ⟨rfl,hi,p⟩
 by_cases g:i<z.cps.size
 .show .inr #[g,a (i+1),λf H2 p2=>#[z.cps.size-(i+1),(),rfl,g,p2],λx H2 y=>?_];let#[e1,c,s,u]:=y;subst e1 u;show j i c σ' _ (~~~s) p
 .let e:i=z.cps.size:=()
  subst e;show .inl #[Ϭ _,hd σ' H' (~~~p)]
def Vs{Q:Hp->Prop}{j:Nat}(T:Y.N.Nodup)(U:nameAt Y.N y=↑j)(L:Y.env.scope.names.lookup y=↑.local)(n:Nat)(hn:n<=ϰ)(q:Nat->V->Prop)(It:Nat->V->Prop)(M:H E=none)(go:∀i H1,ζ (upd H E (.lst [])) (upd H1 E (.lst []))->i<n->J.go i H1)(stop:∀H1,ζ (upd H E (.lst [])) (upd H1 E (.lst []))->J.stop n H1)(yld:∀i H1 x H2,i<n->ζ (upd H E (.lst [])) (upd H1 E (.lst []))->J.yld i H1 x H2->It i x/\H2=H1)(step:∀i x H1,i<n->It i x->ζ H H1->EV Y elt (f.set j ↑x) H1 λv H2=>q i v/\ζ H1 H2)(fin:∀H1 xs,↥xs=n->(∀i v,xs[i]?=↑v->q i v)->H1 E=↑(.lst xs)->ζ H H1->Q H1):j6 X Y (.Name y py) elt [] J E f H Q:=by
 let C:∀{H1:Hp},ζ H H1->ζ (upd H E (.lst [])) (upd H1 E (.lst [])):=λ{H1} s b o e=>by
  by_cases O:b=E
  .subst O;rw[ο]at e⊢;show e
  .rw[ι O]at e⊢;show s b o e
 show#[λi m B H1=>m=n-i/\i<=n/\ζ H H1/\(B=f\/∃x,B=f.set j ↑x)/\∃xs,H1 E=↑(.lst xs)/\↥xs=i/\∀k v,xs[k]?=↑v->q k v,#[n,by simp,ag3 _,ζ.upd M,.inl rfl,[],ο,rfl,λk v e=>by simp at e],?_]
 rintro i m B H1 ⟨rfl,hi,p,D,xs,P,F,R⟩
 by_cases g:i<n
 .show .inr #[go i H1 (C p) g,λl H'=>ζ H H'/\(l=f\/∃x,l=f.set j ↑x)/\∃xs,H' E=↑(.lst xs)/\↥xs=i+1/\∀k v,xs[k]?=↑v->q k v,λl H' z=>by let#[a,b,c]:=z;show #[n-(i+1),(),rfl,g,a,b,c],λx H2 y=>?_];let#[W,Z]:=yld i H1 x H2 g (C p) y;subst Z;show Ε T (aaP ?_) U (.inl L) (.inr L);rw[if_pos rfl];let G:B.set j ↑x=f.set j ↑x:=by
   obtain e|⟨z,e⟩:=D
   .rw[e]
   .rw[e,List.set_set]
  rw[G];show Ϣ (step i x H2 g W p) λv H3 ⟨pv,S⟩=>#[xs,S<*P,(),?_]
  show#[λb o e=>?_,.inr #[x,rfl],xs++[v],ο,by simp[F],λk u e=>?_]
  .rw[ι (Ω e M)];show S<*(p<*e)
  .by_cases hk:k<↥xs
   .rw[aiV hk]at e;show R k u e
   .let I:k=i:=by
     have:=(aak.mp e).1;rw[abK,afm]at this;omega
    subst I;rw[<-F,apd]at e;cases e;show pv
 .let e:i=n:=()
  subst e;show .inl #[stop H1 (C p),fin H1 xs F R P p]
def Qw{scope:ahD}{y:Str}{py:Pos}{j:Nat}(N':List Str){σ':St}(S:cJ X.env scope)(u:X.mg "range"=none)(h:EV X a σ H λv H1=>∃n:Int,v=.int n/\ -(2^62)<=n/\n.toNat<=ϰ/\∃e:Nat->V->Prop,
   (∀(fp:List δ)(E C:δ)(f:μ)(z:Hp)(i:Nat)(H2:Hp),i<n.toNat->ζ H1 H2->EV (bU X N' scope (Ϙ scope X.env) C f z fp) elt (σ'.set j ↑(.int i)) H2 λv B=>e i v/\ζ H2 B)/\
   ∀(E:δ)(H2:Hp)(xs:List V),H1 E=none->↥xs=n.toNat->(∀i v,xs[i]?=↑v->e i v)->H2 E=↑(.lst xs)->ζ H1 H2->Q (.ref E) H2)(g:cL N' X.N σ scope=σ':=by rfl)(D:X.calm=true:=by rfl)(F:N'.Nodup:=by fin2)(G:nameAt N' y=↑j:=by rfl)(I:scope.names.lookup y=↑.local:=by rfl)(J:Gl X "range":=by rfl)(hs:ϳ [a] X.env=[(false,eval a X.env)]:=by rfl):EV X (.ListComp elt [#[.Name y py,.Call (.Name "range" p) [a] [] p',[],0]] scope pos) σ H Q:=by
 show su (N':=N') D S (by intro _;rfl) (JT J u hs (dF hs (Ϣ h λv H1 q=>?_)));let#[n,rfl,h1,h2,e,m,c]:=q;let hsz:(ϰ:Nat)<2^62:=by rw[Ϯ];decide
 show gb #[n,rfl,h1,(),λfp E C f o=>?_];rw[g];show Vs (Y:=bU X N' scope (Ϙ scope X.env) C f (upd H1 E (.lst [])) fp) F G (lookup_relabel_local I) n.toNat h2 e (λi x=>x=.int i) o (λi _ _ hi=>hi) (λ_ _=>Ϭ _) (λi H1 x H2 _ _ L=>?_) (λi x H2 hi ex s=>?_) (λH2 xs l M O s=>c E H2 xs o l M O s)
 .let#[e1,P]:=L;show#[by rw[P,arI],e1]
 .subst ex;show m fp E C f _ i H2 hi s
def adp(N':List Str)(m:cL N' X.N σ scope=σ')(u:X.calm=true)(S:cJ X.env scope)(B:N'.Nodup)(D:nameAt N' y=↑j)(F:scope.names.lookup y=↑.local)(hs:∀x,foldedSetIterable e X.env x=pure x)(h:EV X e σ H λv H1=>∃z:Str,v=.str z/\z.cps.size<=ϰ/\∃f:Nat->V->Prop,
   (∀(fp:List δ)(E C:δ)(g:μ)(G:Hp)(i c:Nat)(H2:Hp),z.cps.toList[i]?=↑c->ζ H1 H2->EV (bU X N' scope (Ϙ scope X.env) C g G fp) elt (σ'.set j ↑(.str #[#v[c]])) H2 λv I=>f i v/\ζ H2 I)/\
   ∀(E:δ)(H2:Hp)(xs:List V),H1 E=none->↥xs=z.cps.size->(∀i v,xs[i]?=↑v->f i v)->H2 E=↑(.lst xs)->ζ H1 H2->Q (.ref E) H2):EV X (.ListComp elt [#[.Name y py,e,[],0]] scope pos) σ H Q:=by
 show su (N':=N') u S hs (ZS (Ϣ h λv H1 q=>?_));let#[z,rfl,h2,f,n,a]:=q;show#[z,rfl,λfp E C g p=>?_];rw[m];show Vs (Y:=bU X N' scope (Ϙ scope X.env) C g (upd H1 E (.lst [])) fp) B D (lookup_relabel_local F) z.cps.size h2 f (λi x=>∃c,z.cps.toList[i]?=↑c/\x=.str #[#v[c]]) p (λi _ _ hi=>hi) (λ_ _=>Ϭ _) (λi H1 x H2 _ _ J=>?_) (λi x H2 hi ex s=>?_) (λH2 xs l L M s=>a E H2 xs p l L M s)
 .let#[e1,c,o,O]:=J;show#[#[c,~~~o,O],e1]
 .let#[c,e1,o]:=ex;subst o;show n fp E C g _ i c H2 e1 s
end
section
variable{P:ϱ}{w:ϭ}{K:ϩ}{mg:MG}{base:ϫ}{cc:Bool}
abbrev fD(cc:Bool)(P:ϱ)(w:ϭ)(K:ϩ)(mg:MG)(base:ϫ)(N:List Str)(qual:Str)(scope:ahD)(f:δ)(cd:ε)(A:ϴ)(outer:List Env)(s:μ)(H:Hp)(E:XK):Cx:=
 lU cc (bY P w) P w K mg base N qual scope f cd A outer s H E
def yx{x qual:Str}{st:ϧ}{k:Nat}{sp:Sp}{f:δ}{fd:aij}(F:cF K x qual st f fd)(S:Ν N ps (ς st))(len:∀vs H Q E,sp vs H Q E->↥vs=↥ps)(body:∀(a:ε)(A:ϴ)(outer:List Env)(s:μ)(H:Hp)(vs:List V)(Q:VK)(E:XK),ϛ cc k (A.deeper (envOfC qual (ς st) ⇑s f a))->sp vs H Q E->
   Ζ (fD cc P w K mg base N qual (ς st) f a A outer s H E) (Ψ st) {nx:=λ_ H'=>Q .non H',rt:=Q} (start N vs) H):dG P w K mg base (bY P w) cc (k+1) f fd ps sp:=by
 let#[oc,od,kV,e,pm,an,a,ct,g,rfl,lk,c]:=id F.ex;show aar lk c S len λA outer s H vs Q E i h=>#[_,LQ,body a A outer s H vs Q E i h]
def Γ{x:Str}{st:ϧ}{k:Nat}{sp:Sp}(F:∃f fd,cF K x x st f fd/\mg x=↑(.ref f))(body:∀(f:δ)(a:ε)(A:ϴ)(outer:List Env)(s:μ)(H:Hp)(vs:List V)(Q:VK)(E:XK),ϛ cc k (A.deeper (envOfC x (ς st) ⇑s f a))->sp vs H Q E->
   let X:=fD cc P w K mg base N x (ς st) f a A outer s H E;let D:Ends:={nx:=λ_ H'=>Q .non H',rt:=Q};Ζ X (Ψ st) D (start N vs) H)(S:Ν N ps (ς st):=by room)(e:∀(kV c pm:ε)(an:Option δ)(a ct:ε)(us:List ε),↥us=↥ps->bindArgs (atq x x (lg st) (Ψ st) (ς st) .none kV c pm an a ct) #[us,[]]=pure (ps.zip us):=by walk_at"bb")(len:∀vs H Q E,sp vs H Q E->↥vs=↥ps:=by walk_at"ln"):Def P w K mg base cc (k+1) x ps sp:=by
 let#[f,fd,F,g]:=F;show#[f,fd,g,F.kp,F.binds e,yx F S len λa A outer s H vs Q E i h=>body f a A outer s H vs Q E i h]
end
def ό(z:Str)(lo hi:Option Int):Str:=#[((z.cps.toList.drop (_H.Η ↥z 0 lo)).take (_H.Η ↥z ↥z hi-_H.Η ↥z 0 lo)).toArray]
def xH(n d:Nat)(v:Int):max 0 (min (if v<0 then v+(n:Int)else v) (n:Int))=((_H.Η n d ↑v:Nat):Int):=by
 rw[<-_H.Ii];split <;>omega
def VR(lo hi:Option Int)(n:Nat):Builtin.Str.strSliceIndices lo hi 1 n=(ado (_H.Η n n hi-_H.Η n 0 lo)).map (λm=>_H.Η n 0 lo+m):=by
 let e:Builtin.Str.strSliceIndices lo hi 1 n=sliceRange ((_H.Η n 0 lo:Nat):Int) ((_H.Η n n hi:Nat):Int) 1:=by
  cases lo with
  |none=>
   cases hi with
   |none=>rfl
   |some v=>rw[<-xH n n v];rfl
  |some u=>
   cases hi with
   |none=>rw[<-xH n 0 u];rfl
   |some v=>rw[<-xH n 0 u, <-xH n n v];rfl
 rw[e];generalize _H.Η n 0 lo=a;generalize _H.Η n n hi=b;by_cases h:a<=b
 .have :=StrLaws.strSliceIndices_plain (len:=b) h (Ϭ b);rw[<-this];let c:Builtin.Str.strSliceIndices ↑(a:Int) ↑(b:Int) 1 b=sliceRange (a:Int) (b:Int) 1:=by
   let h1:¬((a:Int)<0):=()
   let h2:¬((b:Int)<0):=()
   let e1:max (0:Int) (min (a:Int) (b:Int))=a:=()
   let c:max (0:Int) (min (b:Int) (b:Int))=b:=()
   simp only[Builtin.Str.strSliceIndices,h1,h2,if_false,e1,c,show((1:Int)>0)=True from by simp,if_true]
  rw[c]
 .let f:b-a=0:=()
  rw[f];have:¬((a:Int)<b):=()
  simp[sliceRange,this]
def agB(z:Str)(lo hi:Option Int):(#[((Builtin.Str.strSliceIndices lo hi 1 ↥z).filterMap (z.cps[·]?)).toArray]:Str)=ό z lo hi:=by
 rw[VR];unfold ό;let h1:=_H.Lg ↥z ↥z (Ϭ _) hi;let c:↥z.cps.toList=↥z:=by simp[asQ]
 by_cases h:_H.Η ↥z 0 lo<=_H.Η ↥z ↥z hi
 .have :=StrLaws.picks z.cps.toList (_H.Η ↥z ↥z hi-_H.Η ↥z 0 lo) (_H.Η ↥z 0 lo) ();rw[<-this];simp
 .let a:_H.Η ↥z ↥z hi-_H.Η ↥z 0 lo=0:=()
  rw[a];simp
def Og(h:IsPart v o):∃l:Option (Int×Tok),v=partValue l/\l.map (·.1)=o:=by
 cases h with
 |none=>show#[none,rfl,rfl]
 |int i t=>show#[↑(i,t),rfl,rfl]
def alZ:um X (λx lo hi H Q=>∃z,x=.str z/\↥z<=ϰ/\Q (.str (ό z lo hi)) H):=by
 intro ϵ s σ H x v E G lo hi sl Q I rx hs pl n h;let#[z,rfl,J,q]:=h;let#[t,rfl]:=rx;show#["str",_,F.slot_str_getitem.lookup,typeIs_str s z t,?_];let#[l,rfl,rfl]:=Og pl;let#[u,rfl,rfl]:=Og n;let g:s.heap.IsSlice sl l u none:=by
  let#[o,p,y,hd]:=hs;show#[o,p,y,hd]
 show wpAny_getItem_str_slice g rfl ?_;let e:(slicePicked z l u none)=Builtin.Str.strSliceIndices (l.map (·.1)) (u.map (·.1)) 1 ↥z:=rfl;unfold sliceMade;let i:(#[((slicePicked z l u none).filterMap (z.cps[·]?)).toArray]:Str)=ό z (l.map (·.1)) (u.map (·.1)):=by rw[e];show agB z _ _
 split
 .rename_i j;let f:↥(slicePicked z l u none)=↥z:=by
   simp only[aaK,beq_iff_eq]at j;show j.2
  let a:ό z (l.map (·.1)) (u.map (·.1))=z:=by
   rw[e,VR,aau,ahr]at f;let h1:=_H.Lg ↥z ↥z (Ϭ _) (u.map (·.1));let L:↥z.cps.toList=↥z:=by simp[asQ]
   unfold ό;by_cases B:↥z=0
   .have :z.cps.toList=[]:=an0 ();rw[this];let m:z.cps= #v[]:=by
     have:=congrArg afX this;simpa using this
    let#[c]:=z;simp at m;subst m;simp
   .let C:_H.Η ↥z 0 (l.map (·.1))=0:=()
    let D:_H.Η ↥z ↥z (u.map (·.1))=↥z:=()
    rw[C,D,aoc,asL,ag5 ()]
  show#[.str (ό z (l.map (·.1)) (u.map (·.1))),H,I,#[t,by rw[a]],q]
 .rw[i];show#[?_,.str (ό z (l.map (·.1)) (u.map (·.1))),H,I.tok _,#[_,rfl],q];have:(ό z (l.map (·.1)) (u.map (·.1))).length<=↥z:=by
   unfold ό asQ;simp;omega
  omega
theorem gq{lo hi:Option Int}(h:↥z<=ϰ)(g:Q (.str (ό z lo hi)) H):SL X (.str z) lo hi H Q:=#[_,alZ,z,rfl,h,g]
theorem dD{id:String}{r:V->List V->Hp->VK->Prop}{x:V}(h:MF X id r)(q:r x xs H Q):MT X id x xs H Q:=#[r,h,q]
def Qp:∀{us:List ε},Vals (ys.map V.str) us->StrsAre us ys:=by
 induction ys with
 |nil=>intro us r;cases r;show .nil
 |cons y ys a=>
  intro us r;cases r with
  |cons r c=>
   let#[t,rfl]:=r;show .cons y t (a c)
def jy(h:θ X.K H q (ys.map V.str))(a:(ys.map (·.length)).sum+↥ys*↥z<=16777216)(g:Q (.str (aek z ys)) H):MT X "str.join" (.str z) [.ref q] H Q:=by
 show dD (r:=λx xs H Q=>∃z q ys,x=.str z/\xs=[.ref q]/\θ X.K H q (ys.map V.str)/\(ys.map (·.length)).sum+↥ys*↥z<=16777216/\Q (.str (aek z ys)) H) ?_ #[z,q,ys,rfl,rfl,h,a,g];intro ϵ s σ H x xs v us Q I rx rs h;let#[z,q,ys,rfl,rfl,h,a,g]:=h;let#[t,rfl]:=rx;let#[u,rfl,c]:=vals1 rs;cases(show u=Value.ref q from c);let#[i,f,pl,_]:=I.list h;show join_list pl.isList (~~~Qp f) a λt' k=>#[.str (aek z ys),H,I.tok k,#[t',?_],g]
 let e:Txt.join z ys=aek z ys:=by
  unfold Txt.join;cases ys with
  |nil=>rfl
  |cons y r=>show StrLaws.glued_cons z r y
 rw[e]
def QZ(g:Q (.bl (Txt.startswith z y)) H):MT X "str.startswith" (.str z) [.str y] H Q:=by
 show dD (r:=λx xs H Q=>∃z y,x=.str z/\xs=[.str y]/\Q (.bl (Txt.startswith z y)) H) ?_ #[z,y,rfl,rfl,g];intro ϵ s σ H x xs v us Q I rx rs h;let#[z,y,rfl,rfl,g]:=h;let#[t,rfl]:=rx;let#[u,rfl,a]:=vals1 rs;let#[t',rfl]:=a;show SC.startswith #[.bl _,H,I,rfl,g]
def Yo{bs:List Bool}(z:X.calm=true)(h:θ X.K H q (bs.map V.bl))(g:Q (.bl (bs.all id)) H):CL X (.builtin "all") [.ref q] H Q:=by
 show cP (r:=λxs H Q=>∃q bs,xs=[.ref q]/\θ X.K H q (bs.map V.bl)/\Q (.bl (bs.all id)) H) ?_ #[q,bs,rfl,h,g];intro ϵ s σ H xs us Q I r h;let#[q,bs,rfl,h,g]:=h;let#[u,rfl,B]:=vals1 r;cases(show u=Value.ref q from B);let#[c,y,pl,J]:=I.list h;show call_all_walk (amx pl.isList ?_);let m:q<⇑s:=by
  let#[o,n,_]:=pl.isList;show abN n
 let a:↥c=↥bs:=by have:=↥y;rw[aau]at this;show this.symm
 show#[⇑s,[⇑s,q],[⇑s],c.toArray.size,(λi v=>c.toArray[i]?=↑v),(λi h=>h.IsListIter ⇑s q i/\h.IsList q c.toArray),λi=>bs.getD i true,rfl,Walks.list (A:=X.A.in1) (show X.A.in1.handled=none from I.ok.hd z) ⇑s q (adb m) c.toArray,#[#[_,abn _ rfl,rfl,rfl],?_],?_,λh' tk C=>?_]
 .let#[o,n,r]:=pl.isList;show#[o,ϲ _ n,r]
 .intro i v s Q E D m;let f:c[i]?=↑v:= ~~~D
  let hi:i<↥bs:=by rw[<-a];show(aak.mp f).1
  let#[u,e1,F]:=y.get (i:=i) (x:=V.bl bs[i]) (by simp[hi]);rw[f]at e1;cases e1;cases(show v=Value.bool bs[i]from F);show ag7 ?_;have:bs.getD i true=bs[i]:=by simp[hi]
  let j:Q (bs.getD i true) s:=m;rw[this]at j;show j
 .let e:(ado c.toArray.size).all (λi=>bs.getD i true)=bs.all id:=by
   rw[aa0,a,ahs,acE,acE];constructor
   .intro h b p;let#[i,hi,e]:=atw p;have:=h i (~~~hi);simpa [hi,e]using this
   .intro h i hi;let l:i<↥bs:= ~~~hi
    have:=h bs[i] (ajf l);simpa [l]using this
  rw[e];let fp:=I.fpOk (Ϭ _) (I.hok.fresh (Ϭ _));let G:Inv X ϵ σ H {s with heap:=s.heap.push {cls:=.type "list_iterator",data:=.fields #v[.ref q,.int 0 0]}}:=I.kept (t':=s.toks) λb o e=>ϲ _ e
  show#[.bl _,H,G.turned (it:=⇑s) (λb o p e=>C b o (~~~p) e) (I.hok.fresh (Ϭ _)) fp.2.1 fp.2.2.2.1 fp.2.2.2.2.1 fp.2.2.2.2.2,rfl,g]
def bh{env:Env}{scope:ahD}(sc:ahD)(c:env.scope=sc:=by rfl)(f:scope.kind=.function:=by rfl)(h:(scope.names.all λy=>(if y.2==.free then(sc.names.lookup y.1==↑.cell||sc.names.lookup y.1==↑.free)else true)&&y.2 !=.cell&&(if y.2==.local then scope.names.lookup y.1==↑.local else true))=true:=by fin2):cJ env scope:=by
 let h':=acE.mp h;show#[f,λy a e=>?_,λy a e=>?_,λy a e=>?_]
 .let q:=h' y a;simp only[e,beq_self_eq_true,if_true,aaK,aqP,beq_iff_eq]at q;show env.scope.names.lookup y.1=_\/env.scope.names.lookup y.1=_;rw[c];show q.1.1
 .let q:=h' y a;rw[e]at q;simp at q
 .let q:=h' y a;simp only[e,aaK,beq_iff_eq,beq_self_eq_true,if_true]at q;show q.2
def fL{α:Type}{ys:List α}(f:α->V)(g:↥xs=↥ys)(h:∀(i:Nat) v,xs[i]?=↑v->∃c,ys[i]?=↑c/\v=f c):xs=ys.map f:=by
 apply List.ext_getElem?;intro i;rw[adl];cases e:xs[i]? with
 |none=>
  have:↥xs<=i:=List.getElem?_eq_none_iff.mp e;rw[arK ()];rfl
 |some v=>
  let#[c,e1,a]:=h i v e;rw[e1,a];rfl
theorem akK(q:Q (.int 1000000000) H):OP X (binaryOp .Pow) (.int 10) (.int 9) H Q:=Dw #[by decide,by decide,by decide] (show Q (.int (10^(9:Int).toNat)) H from(show(10:Int)^(9:Int).toNat=1000000000 from by decide)▸q)
theorem acp(q:Q (.int 1000000000000000000) H):OP X (binaryOp .Pow) (.int 10) (.int 18) H Q:=Dw #[by decide,by decide,by decide] (show Q (.int (10^(18:Int).toNat)) H from(show(10:Int)^(18:Int).toNat=1000000000000000000 from by decide)▸q)
def EJ(X:Cx)(vs:List Ϫ)(out:Str)(σ:St)(H:Hp)(Q:VK):Prop:=
 ∀(ϵ:List (δ×Obj))(s:μ),Inv X ϵ σ H s->Ϧ ∅ X.A (joinParts out (evalEach vs X.env)) (EP X ϵ σ Q) X.xe s
section
variable{X:Cx}{σ:St}{H:Hp}{Q:VK}{v v₁ v₂:Ϫ}{rest:List Ϫ}{pos:Pos}{out:Str}
theorem ahM(h:EJ X (v₁::v₂::rest) ala σ H Q):EV X (.JoinedStr (v₁::v₂::rest) pos) σ H Q:=λϵ s I=>h ϵ s I
theorem aja(a:↥out<=ϰ)(q:Q (.str out) H):EJ X [] out σ H Q:=λϵ s I=>joinParts_nil #[.str out,H,I.tok _,#[_,rfl],q] a
theorem ai8(h:EV X v σ H λx H1=>∃y,x=.str y/\↥(out++y)<=ϰ/\EJ X rest (out++y) σ H1 Q):EJ X (v::rest) out σ H Q:=λϵ s I=>by
 show joinParts_cons (υ (h ϵ s I) λu a c=>?_);let#[x,H1,f,r,y,e,g,q]:=c;subst e;let#[t,rfl]:=r;show#[g,q ϵ a f]
theorem Z1(h:EV X v σ H λx H1=>∃z,x=.str z/\↥z<=ϰ/\Q (.str z) H1):EV X (.FormattedValue v (-1) none pos) σ H Q:=λϵ s I=>by
 show FormattedValue_plain (υ (h ϵ s I) λu g a=>?_);let#[x,H1,c,r,z,e,f,q]:=a;subst e;let#[t,rfl]:=r;show formatField_str (λt' tk=>#[.str z,H1,c.tok tk,#[t',rfl],q]) f
theorem wC(h:EV X v σ H λx H1=>∃i,x=.int i/\i.natAbs.log2<1920/\Q (.str (toString i)) H1):EV X (.FormattedValue v (-1) none pos) σ H Q:=λϵ s I=>by
 show FormattedValue_plain (υ (h ϵ s I) λu g a=>?_);let#[x,H1,c,r,z,e,f,q]:=a;subst e;let#[t,rfl]:=r;show formatField_int_small f #[.str (toString z),H1,c.tok _,#[_,rfl],q]
end
def my(X:Cx)(vs:List Ϫ)(n:Nat)(σ:St)(H:Hp)(R:Hp->Prop):=∀out:Str,↥out<=n->∀Q:VK,(∀z H',R H'->Q (.str z) H')->EJ X vs out σ H Q
def aaM(x y:Str):↥(x++y)=↥x+↥y:=by
 show(x.cps++y.cps).size=_;rw[atO];rfl
section
variable{X:Cx}{σ:St}{H:Hp}{Q:VK}{R:Hp->Prop}{v v₁ v₂:Ϫ}{rest:List Ϫ}{pos:Pos}{n:Nat}
theorem aeh(h:my X (v₁::v₂::rest) 0 σ H λH'=>∀z,Q (.str z) H'):EV X (.JoinedStr (v₁::v₂::rest) pos) σ H Q:=ahM (h ala (Ϭ _) Q λz H' r=>r z)
theorem aoA(a:n<=ϰ)(r:R H):my X [] n σ H R:=λout c Q k=>aja (afT c a) (k out H r)
theorem NB(h:EV X v σ H λx H1=>∃y m,x=.str y/\↥y<=m/\n+m<=ϰ/\my X rest (n+m) σ H1 R):my X (v::rest) n σ H R:=λout a Q k=>
 ai8 (Ϣ h λx H1 z=>by let#[y,m,e,c,f,q]:=z;show #[y,e,by rw[aaM];omega,q (out++y) (by rw[aaM];omega) Q k])
end
def adw{K:ϩ}{N:δ}{mg:MG}{n:Str}{v:ε}(X:K.In h)(G:h.Ns N mg)(e:aup K N n=some ↑v):mg n=↑v:=by
 let#[o,es,ep,a,hd,_,f]:=G;unfold aup at e;split at e
 .rename_i c d g j sl q;have:=X _ _ q;rw[a]at this;cases this;cases hd;split at e
  .rename_i l i;cases e;rw[<-f];unfold nsFind findBy;rw[<-atz,i];rfl
  .split at e<;>cases e
 .cases e
def aaQ{K:ϩ}{h:ϫ}{i:Option ε}(kin:K.In h)(e:HX K C i=true):∃bm N nm q bs hdct sn sub ab col dd k0 k1 k2 k3 k5 mN,h.get? C=↑(excClassObj nm q C N bs bm hdct sn sub ab col dd k0 k1 k2 k3 k5 "ValueError.__new__")/\h.Ns N mN/\mN "__init__"=i/\OwnTail h fu bm:=by
 unfold HX at e;split at e
 .rename_i dd cd sl m;split at e
  .rename_i z bm k0 k1 k2 k3 n k5 f hs;simp only[aaK,beq_iff_eq,Bool.not_eq_true']at e;let#[#[#[#[#[e1,o],g],p],a],c]:=e;subst e1 o;let#[nm,bs,s,ns,u,hd,sn,sub,ab,col,x]:=cd;dsimp only at f g a c;subst f g;let y:sl= #v[k0,k1,k2,k3,↑(.builtin "ValueError.__new__"),k5]:=by
    let#[l]:=sl;simp only at hs;rw[hs]
   subst y;let j:h.Ns ns (h.nsMap ns):=.of_isNs (W.isNs_of_in kin a);show#[bm,ns,nm,u,bs,hd,sn,sub,ab,col,dd,k0,k1,k2,k3,k5,_,kin<*m,j,?_,W.tail_of_in kin p];cases i with
   |none=>show W.nsMap_none_of_in kin a c
   |some v=>show adw kin j c
  .cases e
 .cases e
theorem amN{K:ϩ}{h:ϫ}(kin:K.In h)(e:auE K C fu "ValueError.__new__"=true):∃bm N nm q bs hdct sn sub ab col dd k0 k1 k2 k3 k5 mN,h.get? C=↑(excClassObj nm q C N bs bm hdct sn sub ab col dd k0 k1 k2 k3 k5 "ValueError.__new__")/\h.Ns N mN/\mN "__init__"=none/\OwnTail h fu bm:=aaQ kin e
section
variable{X:Cx}{Kx:St->XK}{D:Ends}{σ:St}{H:Hp}{x:Str}{np cpos pos:Pos}{e:Ϫ}{es:List Ϫ}
def nH(j:bZ X Kx)(O:pX X.K X.mg x)(h:EA X (e::es) σ H λvs H1=>↥vs<=ϰ/\Kx σ (.ref (η X.mg x)) (none,true) H1)(l:X.calm=true:=by rfl)(m:Gl X x:=by rfl)(hd:(x==("__debug__":Str))=false:=by decide)(i:ϳ (e::es) X.env=(false,eval e X.env)::ϳ es X.env:=by rfl)(f:(backTo cpos (ϳ es X.env)).any (·.1)=false:=by rfl):SX X (.Raise ↑(.Call (.Name x np) (e::es) [] cpos) none pos) D σ H:=by
 intro ϵ s I;let#[bm,N,nm,q,bs,hdct,sn,sub,ab,col,dd,k0,k1,k2,k3,k5,mN,n,o,g,T]:=amN I.ok.mod.kin O.ex;show wpAny_Raise_call_subT (C:=η X.mg x) (nm:=nm) (q:=q) (N:=N) (bs:=bs) (bm:=bm) (hdct:=hdct) (sn:=sn) (sub:=sub) (ab:=ab) (col:=col) (dd:=dd) (k0:=k0) (k1:=k1) (k2:=k2) (k3:=k3) (k5:=k5)
  F.excBase_ValueError (mN:=mN) (T.hasType (by fin2)) (I.ok.hd l) ?_ g (lK I m O.at_ #[rfl,?_] hd)
 .rw[i];show(false||(backTo cpos (ϳ es X.env)).any (·.1))=false;rw[f];rfl
 .let h':=h cpos ϵ s I;rw[i]at h'⊢;show Calls.evalArgs_plain (υ h' λus p ⟨vs,H1,c,r,u,v⟩=>#[rfl,by rw[<-↥r];show u,c.bk<*n,o.keeps c.bk,T.keeps c.bk,λE a M=>?_]);let#[t,y,G,J]:=M.there;show j ϵ σ H1 _ a _ (none,true) #[c.kept (t':=p.toks) M.keeps,none,.none,#[_,_,y,rfl,rfl,rfl,rfl,by simp,Ctx.yes rfl,λT z=>nomatch z],.inl rfl,λb B=>?_] v;let z:b=a:= ~~~B
  subst z;show#[c.hok.free M.new,c.ch M.new]
end
abbrev Cx.jd(X:Cx)(e:ε)(F:ε->μ->Prop)(pn:List (δ×Obj)):Cx:={X with A:=X.A.mark ↑e,calm:=false,xe:=F,pn:=pn}
section
variable{X:Cx}{ϵ pins':List (δ×Obj)}{σ:St}{H:Hp}{s:μ}{F:ε->μ->Prop}{e:ε}
theorem Cx.Ok.jd(ok:X.Ok)(pn:List (δ×Obj)):(X.jd e F pn).Ok:=
 #[ok.mod,ok.kind,ok.glob,ok.blt,ok.above,ok.inj,ok.has,ok.cab,(λz=>nomatch z),ok.frames,ok.stk,ok.exf,ok.bs,ok.bsz,ok.noex,ok.exfs,ok.funs,ok.frf]
theorem Inv.jd(I:Inv X ϵ σ H s):Inv (X.jd e F (X.pn++ϵ)) [] σ H s:=
 #[I.ok.jd _,I.os,I.bare,I.base,I.loc,I.cell,I.free,I.freeC,λp a=>I.pin p (~~~a),I.hok,I.len]
theorem Inv.zR(ok:X.Ok)(I:Inv (X.jd e F (X.pn++ϵ)) pins' σ H s):Inv X ϵ σ H s:=
 #[ok,I.os,I.bare,I.base,I.loc,I.cell,I.free,I.freeC,λp a=>I.pin p (agF _ a),I.hok,I.len]
theorem Ch.lH(c:Ch (X.tri F (X.pn++ϵ)) pins' b):Ch X ϵ b:=#[c.1,c.2.1,c.2.2.1,λp a=>c.2.2.2 p (agF _ a)]
end
def EH(X:Cx)(hs:List aoh)(D:Ends)(σ:St)(cls:ε)(d:Option δ×Bool)(H:Hp):Prop:=
 ∀(ϵ:List (δ×Obj))(s:μ)(e T:δ),Inv X ϵ σ H s->bO s.heap e cls d ↑T .none->(∀b∈[e,T],H b=none/\Ch X ϵ b)->
  Ϧ ∅ X.A (handleBy (.ref e) X.env hs) (SP X ϵ D) X.xe s
section
variable{X:Cx}{D:Ends}{σ:St}{H:Hp}{h₀:aoh}{hs rest:List aoh}{body orelse suite:List ϧ}{b₀:ϧ}{pos np:Pos}{x n:Str}{cls c:ε}{d:Option δ×Bool}
def xf(Kx:St->XK)(c:X.stack=X.env::X.outer)(l:X.env.frame=↑X.env.locals)(a:∀F pn,bZ (X.tri F pn) Kx->anh ∅ X.A X.env F->Ζ (X.tri F pn) body {D with nx:=λσ' H'=>Ζ X orelse D σ' H'} σ H)(m:∀σ' cls d H',Kx σ' cls d H'->EH X (h₀::hs) D σ' cls d H'):SX X (.Try body (h₀::hs) orelse [] pos) D σ H:=by
 intro ϵ s I;show wpAny_Try_except ?_;show adq (a (λe g=>Ϧ ∅ X.A (noteFrame e X.env) (λ_ j=>Ϧ ∅ X.A (setFlight e none) (λ_ n=>Ϧ ∅ X.A (handleBy e X.env (h₀::hs)) (SP X ϵ D) X.xe n) X.xe j) X.xe g)
  (X.pn++ϵ) ?_ PassesOwn.looking [] s I.tri) (λf g q=>?_) λ_ _ q=>q
 .intro pins' σ' H' s' e cls d o q;let#[p,tb,x,y,i,ch]:=o;let z:=Inv.lH I.ok p;show uL.note (X:=X) (ϵ:=ϵ) #[z,tb,x,y,i,λb a=>#[(ch b a).1,(ch b a).2.lH]] c l λj T B F3 c3=>?_
  show B.off F3 c3 λC E G=>m σ' cls d H' q ϵ C e T E G c3
 .cases f with
  |next=>
   let#[σ',H',J,q]:=q;show q ϵ g (Inv.lH I.ok J)
  |brk=>
   let#[σ',H',J,q]:=q;show#[σ',H',Inv.lH I.ok J,q]
  |cont=>
   let#[σ',H',J,q]:=q;show#[σ',H',Inv.lH I.ok J,q]
  |ret u=>
   let#[v,σ',H',J,r,q]:=q;show#[v,σ',H',Inv.lH I.ok J,r,q]
def bO.ty(F:bO h e cls d tb a):aus M h (typeOf (.ref e)) cls:=by
 let#[g,vs,c,f,_]:=F;subst f;show(W.Looks.ld c).andThen .now
def amo(I:Inv X ϵ σ H s)(F:bO s.heap e cls d tb a)(f:Gl X x)(g:X.mg x=↑c)(hd:(x==("__debug__":Str))=false)(ex:atE X.K cls c=↑k)(h:R (.ok (if k then .brk else .next)) s):codeAny ∅ (X.A.mark ↑(.ref e)) (.handlers (.ref e) [.ExceptHandler ↑(.Name x np) none [] pos] X.env) R s:=by
 show codeAny_handlers_test ?_;let J:Inv (X.jd (.ref e) X.xe (X.pn++ϵ)) [] σ H s:=I.jd;show lK (X:=X.jd (.ref e) X.xe (X.pn++ϵ)) J f g ((W.exm_one I.kIn F.ty ex).here h) hd
end
mutual
inductive RD (K:ϩ) (H:Hp):V->PyData->Prop
 |non:RD K H .non .none
 |bl (b:Bool):RD K H (.bl b) (.bool b)
 |int (i:Int):RD K H (.int i) (.int i)
 |str (x:Str):RD K H (.str x) (.str x)
 |lst {a:δ} {xs:List V} {ds:List PyData} (h:θ K H a xs) (r:gP K H xs ds):RD K H (.ref a) (.list ds)
 |tup {a:δ} {xs:List V} {ds:List PyData} (h:ρ K H a xs) (r:gP K H xs ds):RD K H (.ref a) (.tuple ds)
inductive gP (K:ϩ) (H:Hp):List V->List PyData->Prop
 |nil:gP K H [] []
 |cons {x:V} {d:PyData} {xs:List V} {ds:List PyData} (h:RD K H x d) (r:gP K H xs ds):gP K H (x::xs) (d::ds)
end
mutual
theorem RD.reads{X:Cx}{σ:St}{H:Hp}{s:μ}(I:Inv X ϵ σ H s):∀{v:V}{d:PyData}{u:ε},RD X.K H v d->RelV v u->∃as,Reads s.heap u d as
 |_,_,_,.non,e=>by cases(show _=Value.none from e);show#[_,.none]
 |_,_,_,.bl b,e=>by cases(show _=Value.bool b from e);show#[_,.bool b]
 |_,_,_,.int i,e=>by let#[t,rfl]:=e;show#[_,.int i t]
 |_,_,_,.str x,e=>by let#[t,rfl]:=e;show#[_,.str x t]
 |_,_,_,.lst h r,e=>by
  cases(show _=Value.ref _ from e);let#[g,a,pl,_]:=I.list h;let#[as,q]:=gP.reads I r a;let#[o,c,f,n,hd]:=pl.isList;show#[_,.list c f hd (~~~q)]
 |_,_,_,.tup h r,e=>by
  cases(show _=Value.ref _ from e);let#[g,a,tp,_]:=I.tuple h;let#[as,q]:=gP.reads I r a;let#[o,c,f,n,hd]:=tp;show#[_,.tuple c f hd (~~~q)]
theorem gP.reads{X:Cx}{σ:St}{H:Hp}{s:μ}(I:Inv X ϵ σ H s):∀{vs:List V}{ds:List PyData}{us:List ε},gP X.K H vs ds->Vals vs us->∃as,ReadsAll s.heap us ds as
 |_,_,_,.nil,.nil=>#[_,.nil]
 |_,_,_,.cons h r,.cons e t=>by
  let#[as,q]:=RD.reads I h e;let#[bs,a]:=gP.reads I r t;show#[_,.cons q a]
end
def abu(f:X.A.units+64<cLine)(a:RD X.K H x d)(c:RD X.K H y d')(h1:d.canLay0=true)(h2:d'.canLay0=true)(hd:d.depth<=60)(q:Q (.bl (PyData.eqv d d')) H):OP X (ad2 .Eq) x y H Q:=by
 show#[λx y H Q=>RD X.K H x d/\RD X.K H y d'/\Q (.bl (PyData.eqv d d')) H,?_,a,c,q];intro ϵ s σ H x y v u Q I rx ry ⟨a,c,q⟩;let#[as,r1]:=RD.reads I a rx;let#[bs,e]:=RD.reads I c ry;show SeqAt.rcAt_reads r1 e h1 h2 (by have:=aui d.depth d'.depth;omega) X.prog X.w X.xe _ #[.bl _,H,I,rfl,q]
def acV(f:X.A.units+64<cLine)(a:RD X.K H x d)(c:RD X.K H y d')(h1:d.canLay0=true)(h2:d'.canLay0=true)(hd:d.depth<=60)(q:Q (.bl (!PyData.eqv d d')) H):OP X (ad2 .NotEq) x y H Q:=by
 show#[λx y H Q=>RD X.K H x d/\RD X.K H y d'/\Q (.bl (!PyData.eqv d d')) H,?_,a,c,q];intro ϵ s σ H x y v u Q I rx ry ⟨a,c,q⟩;let#[as,r1]:=RD.reads I a rx;let#[bs,e]:=RD.reads I c ry;show SeqAt.rcNeAt_reads r1 e h1 h2 (by have:=aui d.depth d'.depth;omega) X.prog X.w X.xe _ #[.bl _,H,I,rfl,q]
def xP(l:List ϧ)(i:Nat):ϧ:=l.getD i (.Pass #[0,0,0,0])
def ai4(s:ϧ):List ϧ:=match s with
 |.For _ _ b _ _=>b
 |_=>[]
def aaU(s:ϧ):List ϧ:=match s with
 |.If _ b _ _=>b
 |_=>[]
def abS{A B:Prop}(h:A):if decide (V.non=V.non)=true then A else B:=by rw[if_pos (by decide)];show h
def ag4{A B:Prop}(h:B):if decide (V.int i=V.non)=true then A else B:=by rw[if_neg (by simp)];show h
def agp{A B:Prop}(h:B):if decide (V.str i=V.non)=true then A else B:=by rw[if_neg (by simp)];show h
def afK{A B:Prop}(h:B):if decide (V.ref i=V.non)=true then A else B:=by rw[if_neg (by simp)];show h
def alk(a:intText? z=↑n)(c:↥z<=640)(q:Q (.int n) H):CL X (.type "int") [.str z] H Q:=by
 show cP (r:=λxs H Q=>∃z n,xs=[.str z]/\intText? z=↑n/\↥z<=640/\Q (.int n) H) ?_ #[z,n,rfl,a,c,q];intro ϵ s σ H xs us Q I r h;let#[z,n,rfl,a,c,q]:=h;let#[u,rfl,e]:=vals1 r;let#[t,rfl]:=e;show W.KIN.call_text a c #[.int n,H,I.tok _,#[_,rfl],q]
def jU(x:Str)(n:Int):Str:=#[(agU n.toNat x.cps).foldl (· ++ ·) #v[]]
def Zq{X:Cx}{Q:VK}{z:Str}{n:Int}(e:0<↥z)(c:↥z*n.toNat<=ϰ)(q:Q (.str (jU z n)) H)(h1:2<=n:=by decide)(h2:n<1000000:=by decide):OP X (binaryOp .Mult) (.str z) (.int n) H Q:=by
 show bB (r:=λx y H Q=>∃z n,x=.str z/\y=.int n/\2<=n/\n<1000000/\0<↥z/\↥z*n.toNat<=ϰ/\Q (.str (jU z n)) H) ?_ #[z,n,rfl,rfl,h1,h2,e,c,q];intro ϵ s σ H x y v u Q I rx ry h;let#[z,n,rfl,rfl,h1,h2,e,c,q]:=h;let#[t,rfl]:=rx;let#[t',rfl]:=ry;let hsz:=Ϯ;let e1:(n==1||↥z==0)=false:=by
  rw[Bool.or_eq_false_iff,beq_eq_false_iff_ne,beq_eq_false_iff_ne];omega
 let f:↥z<=16777216:=by
  have:↥z*1<=↥z*n.toNat:=Nat.mul_le_mul_left _ ();omega
 show PySem.P.mul_str (by rw[decide_eq_false (),decide_eq_false ()];rfl) (λ_ _ j=>?_) (λ_ _=>?_) ?_
 .let l:(2^63-1) / 1000000<=(2^63-1:Int) / n:=by
   apply Int.le_ediv_of_mul_le ();have:(2^63-1:Int) / 1000000*n<=(2^63-1) / 1000000*1000000:=Int.mul_le_mul_of_nonneg_left () (by decide);omega
  omega
 .unfold Builtin.Str.tooLong;rw[decide_eq_false];omega
 .rw[if_neg (),e1];show#[by
   let g:∀(k:Nat)(a:Array Nat),((agU k z.cps).foldl (· ++ ·) a).size=a.size+k*z.cps.size:=by
    intro k;induction k with
    |zero=>intro a;simp
    |succ k i=>
     intro a;rw[aqf,aiW,i,atO,auz];omega
   show((agU n.toNat z.cps).foldl (· ++ ·) #v[]).size<=ϰ;rw[g];have:z.cps.size=↥z:=rfl;rw[this,auA];simpa using c,.str (jU z n),H,I.tok _,#[_,rfl],q]
section
variable{X:Cx}{e:Ϫ}{es:List Ϫ}{σ:St}{H:Hp}{Q:VK}{pos p:Pos}
def Jl:List (Str×String):=[("len","len"),("isinstance","isinstance"),("all","all"),("any","any"),("min","min"),("max","max"),("abs","abs"),("sum","sum"),("sorted","sorted"),("ord","ord"),("divmod","divmod")]
def zZ:List (Str×String):=[("str","str"),("list","list"),("tuple","tuple"),("int","int"),("set","set"),("bool","bool"),("dict","dict")]
theorem Bx{P:Str×String->Prop}:∀{l:List (Str×String)},l.lookup x=↑i->(∀p∈l,P p)->P (x,i)
 |[],e,_=>by cases e
 |(y,k)::l,e,h=>by
  rw[agg]at e;split at e
  .next q=>cases e;rw[beq_iff_eq.mp q];show h _ (by simp)
  .show Bx e λp a=>h p (by simp[a])
def am7:∀p∈Jl,bootBuiltins p.1=↑(.builtin p.2)/\p.1≠"__name__"/\(p.1==("__debug__":Str))=false:=by
 simp only[Jl,ato];show#[#[PySem.boot_len,by decide,by decide],#[PyProof.Rows.boot_isinstance,by decide,by decide],#[PyProof.Rows.boot_all,by decide,by decide],#[PyProof.Rows.boot_any,by decide,by decide],#[PyProof.Rows.boot_min,by decide,by decide],#[PyProof.Rows.boot_max,by decide,by decide],#[PyProof.Rows.boot_abs,by decide,by decide],#[PyProof.Rows.boot_sum,by decide,by decide],#[PyProof.Rows.boot_sorted,by decide,by decide],#[PyProof.Rows.boot_ord,by decide,by decide],#[PyProof.Rows.boot_divmod,by decide,by decide],(λ_ h=>by cases h)]
def Vq:∀p∈zZ,bootBuiltins p.1=↑(.type p.2)/\p.1≠"__name__"/\(p.1==("__debug__":Str))=false:=by
 simp only[zZ,ato];show#[#[PyProof.Rows.boot_str,by decide,by decide],#[PyProof.Rows.boot_list,by decide,by decide],#[PyProof.Rows.boot_tuple,by decide,by decide],#[PyProof.Rows.boot_int,by decide,by decide],#[PyProof.Rows.boot_set,by decide,by decide],#[PyProof.Rows.boot_bool,by decide,by decide],#[PyProof.Rows.boot_dict,by decide,by decide],(λ_ h=>by cases h)]
variable{x:Str}{i:String}
def aoL(g:Jl.lookup x=↑i)(j:Gl X x)(l:X.mg x=none)(m:ϳ (e::es) X.env=(false,eval e X.env)::ϳ es X.env)(f:(backTo pos (ϳ es X.env)).any (·.1)=false)(h:EA X (e::es) σ H λvs H1=>CL X (.builtin i) vs H1 Q):EV X (.Call (.Name x p) (e::es) [] pos) σ H Q:=by
 let#[a,b,c]:=Bx g am7;show an9 j l a b c m f h
def aoB(g:zZ.lookup x=↑i)(j:Gl X x)(l:X.mg x=none)(m:ϳ (e::es) X.env=(false,eval e X.env)::ϳ es X.env)(f:(backTo pos (ϳ es X.env)).any (·.1)=false)(h:EA X (e::es) σ H λvs H1=>CL X (.type i) vs H1 Q):EV X (.Call (.Name x p) (e::es) [] pos) σ H Q:=by
 let#[a,b,c]:=Bx g Vq;show afV j l a b c m f h
def aeb(e:zZ.lookup x=↑i)(f:Gl X x)(g:X.mg x=none)(q:Q (.ty i) H):EV X (.Name x pos) σ H Q:=by
 let#[a,b,c]:=Bx e Vq;show Yy f g a q b c
def RB:V->Option ε
 |.non=>↑(.type "NoneType")|.bl _=>↑(.type "bool")|.int _=>↑(.type "int")|.str _=>↑(.type "str")|_=>none
def ada{K:ϩ}{t:ε}(h:RB y=↑t):fj K H y t:=by
 cases y<;>cases h
 .show .non
 .show .bl _
 .show .int _
 .show .str _
theorem Qs{t:ε}{T:String}{k:Bool}(q:Q (.bl k) H)(h:RB y=↑t:=by rfl)(e:apB X.K t (.type T)=↑k:=by rfl):CL X (.builtin "isinstance") [y,.ty T] H Q:=ajs (ada h) e q
def aaN(X:Cx)(x:Str)(σ:St):Option V:=match X.env.scope.names.lookup x with
 |some .local=>if(x==("__debug__":Str))||(x==("__classdict__":Str))then none else gh X.N σ x
 |some .cell=>if(x==("__debug__":Str))||(x==("__classdict__":Str))then none else gh X.N σ x
 |some .free=>if(x==("__debug__":Str))||(x==("__classdict__":Str))then none else gh X.N σ x
 |_=>none
def aeI(h:aaN X x σ=↑v)(q:Q v H):EV X (.Name x pos) σ H Q:=by
 let a:rA X.env.scope x->(if(x==("__debug__":Str))||(x==("__classdict__":Str))then none else gh X.N σ x)=↑v->EV X (.Name x pos) σ H Q:=λe h=>by
  split at h
  .cases h
  .next c=>
   rw[aqP,not_or,at6,at6]at c;show agi h e q c.1 c.2
 unfold aaN at h;split at h
 .show a (.inl ‹_›) h
 .show a (.inr (.inl ‹_›)) h
 .show a (.inr (.inr ‹_›)) h
 .cases h
end
section
variable{X:Cx}{ϵ:List (δ×Obj)}{σ:St}{H:Hp}{s:μ}
def Inv.Ef{ch:List δ}{T:δ}{us:List ε}{h':ϫ}{tk:Nat}(I:Inv X ϵ σ H s)(g:∀b∈ch,bN X ϵ H b)(l:⇑s<=T)(k:∀b o,b∉ch->s.heap.get? b=↑o->h'.get? b=↑o)(m:↥xs<=ϰ)(p:Vals xs us)(tp:IsTup h' T us.toArray):Inv X ϵ σ (upd H T (.tup xs)) {s with heap:=h',toks:=tk}:=by
 let f:=I.hok.fresh l;let neT:∀b o,s.heap.get? b=↑o->b≠T:=λb o e z=>aiA _ (aco (abN e) (z▸l))
 let i:∀b u,H b=↑u->b∉ch:=λb u e z=>by rw[(g b z).1]at e;cases e
 show I.call (g':=s.gens) (d':=s.drawn) (t':=tk) (ch:=ch) (h':=h') #[λb o e _ _ j=>k b o j e,λb o e _ _ j=>#[o.slots,k b o j e],λb o e n _=>?_,λb o e j=>#[o,k b o j e],λb ys e=>?_,λb o u e=>?_,λb ps e=>#[#v[],?_]] ?_ I.bare
  λb a=>#[(g b a).2.2.2.1,(g b a).2.1,(g b a).2.2.2.2.1,(g b a).2.2.2.2.2]
 .rw[ι (neT b o e)];show n
 .rw[ι (Ω e f)];show e
 .rw[ι (Ω e f)];show e
 .rw[ι (Ω e f),e];simp
 .intro b u e;by_cases a:b=T
  .subst a;rw[ο]at e;cases e;show#[m,us,p,tp]
  .rw[ι a]at e;show(I.hok b u e).stay (λc v x q=>k c v ?_ q) (λc q=>by rw[ι (Ω q f)];show q) (λc ys q=>by rw[ι (Ω q f)];show q) λc y v q=>by rw[ι (Ω q f)];show q
   obtain z|z:=x
   .subst z;show i c u e
   .show i c _ z
end
def DQ(K:ϩ)(l:δ):It:=
 #[λi H=>∃xs x,θ K H l xs/\xs[i]?=↑x,λi H v H'=>∃T x,v=.ref T/\H T=none/\H'=upd H T (.tup [.int i,x])/\∀xs,θ K H l xs->xs[i]?=↑x,λi H=>∃xs,θ K H l xs/\↥xs<=i]
theorem akz{P:ϱ}{w:ϭ}{K:PySem.W.Frag}{elts:List Ϫ}{k:Nat}{pos:Pos}(l e it:δ)(G:e≠it)(J:l≠e)(L:l≠it):Turn P w K (.Tuple elts k pos) (DQ K l) [e,it] e (λi h=>(∃a,IsEnum h e it i a)/\h.IsListIter it l i)where
 mem:=by simp
 obj:=λi h st b f=>by
  let#[#[a,c],o,g,_,hd]:=st;obtain z|z:=aaF.mp f
  .subst z;show#[_,c,λv z=>by cases z]
  .let z':b=it:= ~~~z
   subst z';show#[o,g,λv z=>by rw[hd]at z;cases z]
 keep:=λi h h' st kk=>by
  let#[#[a,c],o,g,r]:=st;show#[#[a,kk e (by simp) _ c],o,kk it (by simp) _ g,r]
 item:=by
  intro X M O R S i ϵ s σ H E I C st U;subst M O R;let#[#[a,c],j]:=st;let#[xs,x,D,m]:=U;let#[n,F,pl,hz]:=I.list D;let W:=WalksT.enumerate (prog:=X.prog) (w:=X.w) (A:=X.A) (I.ok.hd S) e it l G J L n.toArray;let hi:i<n.toArray.size:=by
   rw[aa0, <-↥F];show(aak.mp m).1
  let#[u,hu,ru]:=F.get m;show W.item i s _ _ hi #[#[a,c],j,pl.isList] λT vals h1 tk hp Y tup p keep=>#[.ref T,rfl,?_]
  let#[t,y,ey,rfl]:=hp;let Z:y=u:=by
   have:n[i]?=↑y:= ~~~ey
   rw[hu]at this;show(Option.some.inj this).symm
  subst Z;show W.go elts k pos i T {s with heap:=h1,toks:=tk} _ _ p λh2 aa nu=>?_
  let#[#[ab,ac],B,_]:=aa;let vC:IsTup h2 T [Value.int i t,y].toArray:=by
   let#[o,g,r]:=tup;show#[o,nu T o (W.apart i T h1 p) g,r]
  show#[.ref T,upd H T (.tup [.int i,x]),I.Ef (ch:=[e,it]) (tk:=tk) C Y (λb o f q=>nu b o f (keep b o f q)) ω (.cons #[t,rfl] (.cons ru .nil)) vC,rfl,?_,?_,λb f=>?_]
  .show#[T,x,rfl,I.hok.fresh Y,rfl,λys hy=>?_];rw[<-I.list_inj D hy];show m
  .show#[#[ab,~~~ac],B]
  .have :b≠T:=λz=>by
    obtain⟨o,g,_⟩:∃o,s.heap.get? b=↑o/\True:=by
     obtain z|z:=aaF.mp f
     .subst z;show#[_,c,trivial]
     .let z':b=it:= ~~~z
      subst z';let#[o,g,_]:=j;show#[o,g,trivial]
    show aiA _ (aco (abN g) (z▸Y))
   rw[ι this];show(C b f).1
 done:=by
  intro X M O R S i ϵ s σ H E I C st U;subst M O R;let#[#[a,c],j]:=st;let#[xs,D,m]:=U;let#[n,F,pl,hz]:=I.list D;let hn:n.toArray[i]?=none:=alR (by rw[aa0, <-↥F];show m);show wpAny_pyNext_enum_end (I.ok.hd S) c j pl.isList hn λh' hk=>#[rfl,?_]
  let#[f0,f1,f2,f3,f4,f5]:=C it (by simp);show I.turned (t':=s.toks) (it:=it) (λb o f q=>hk b o f q) f0 f1 f3 f4 f5
 self:=λA i s Q E st h=>by
  let#[#[a,c],_]:=st;show wpAny_pyIter_enum c h
def alu(x:Gl X "enumerate")(y:X.mg "enumerate"=none)(hs:ϳ [a] X.env=[(false,eval a X.env)])(h:EV X a σ H λv H1=>∃l xs,v=.ref l/\H1 l=↑(.lst xs)/\R (DQ X.K l) H1):EI X (.Tuple elts k tp) (.Call (.Name "enumerate" p) [a] [] pos) σ H R:=by
 intro ϵ s I;show Call_ (jt I x y boot_enumerate (PyProof.Rows.callWith_type1 (υ (dF (es:=[]) (QA:=λvs H1=>∃l xs,vs=[.ref l]/\H1 l=↑(.lst xs)/\R (DQ X.K l) H1) hs (Ϣ h λv H1 z=>by let#[l,xs,e,B,C]:=z;show gb #[l,xs,by rw[e],B,C]) pos ϵ s I) λus c D=>?_) hs rfl));let#[vs,H1,f,r1,l,xs,e,E,q]:=D;subst e;let#[u,rfl,F]:=vals1 r1;cases(show u=Value.ref l from F);let#[L,M,n,O,m]:=f.hok l _ E;show call_enumerate_1 m λh' o i hsz G=>?_
 show wpAny_pyIter_enum o ?_;let g:l<⇑c:=abN m;show#[⇑c+1,[⇑c+1,⇑c],_,_,H1,rfl,f.kept (t':=c.toks) G,akz l _ _ (Nat.succ_ne_self _) (adb (aqZ g)) (adb g),#[#[_,o],i],λb J=>?_,q];let j:b=⇑c+1\/b=⇑c:= ~~~J
 obtain z|z:=j<;>subst z
 .show f.fpOk (aoY _) (f.hok.fresh (aoY _))
 .show f.fpOk (Ϭ _) (f.hok.fresh (Ϭ _))
section
variable{X:Cx}{ϵ:List (δ×Obj)}{σ:St}{H:Hp}{s:μ}
def Inv.aaC{ch:List δ}{tk:Nat}(I:Inv X ϵ σ H s)(a:∀b∈ch,bN X ϵ H b)(k:∀b o,b∉ch->s.heap.get? b=↑o->h'.get? b=↑o):Inv X ϵ σ H {s with heap:=h',toks:=tk}:=by
 let f:∀b u,H b=↑u->b∉ch:=λb u e z=>by rw[(a b z).1]at e;cases e
 show I.call (g':=s.gens) (d':=s.drawn) (t':=tk) (ch:=ch) (h':=h') #[λb o e _ _ g=>k b o g e,λb o e _ _ g=>#[o.slots,k b o g e],λb o e n _=>n,λb o e g=>#[o,k b o g e],λb ys e=>e,λb o u e=>e,λb ps e=>#[#v[],?_]] ?_ I.bare
  λb i=>#[(a b i).2.2.2.1,(a b i).2.1,(a b i).2.2.2.2.1,(a b i).2.2.2.2.2]
 .rw[e];simp
 .intro b u e;show(I.hok b u e).stay (λc v j q=>k c v ?_ q) (λc q=>q) λc ys q=>q
  obtain z|z:=j
  .subst z;show f c u e
  .show f c _ z
end
def IV(K:ϩ)(l m:δ):It:=
 #[λi H=>∃xs ys x y,θ K H l xs/\θ K H m ys/\xs[i]?=↑x/\ys[i]?=↑y,
  λi H v H'=>∃T x y,v=.ref T/\H T=none/\H'=upd H T (.tup [x,y])/\(∀xs,θ K H l xs->xs[i]?=↑x)/\∀ys,θ K H m ys->ys[i]?=↑y,
  λi H=>∃xs ys,θ K H l xs/\θ K H m ys/\min ↥xs ↥ys<=i]
theorem acK{P:ϱ}{w:ϭ}{K:PySem.W.Frag}{elts:List Ϫ}{k:Nat}{pos:Pos}(z TI TO j n l m:δ)(D:ZipApart z TI TO j n l m):Turn P w K (.Tuple elts k pos) (IV K l m) [z,TI,TO,j,n] z (λi h=>IsZip h z TI TO .none/\IsPair h TI (.ref j) (.ref n)/\(∃a b,IsPair h TO a b)/\h.IsListIter j l i/\h.IsListIter n m i)where
 mem:=by simp
 obj:=λi h st b g=>by
  let#[C,f,#[a,Z,c],#[o1,h1,_,d1],#[o2,h2,_,d2]]:=st;simp only[aaF,aet,or_false]at g;obtain e|e|e|e|e:=g<;>subst e
  .show#[_,C,λv z=>by cases z]
  .show#[_,f,λv z=>by cases z]
  .show#[_,c,λv z=>by cases z]
  .show#[_,h1,λv z=>by rw[d1]at z;cases z]
  .show#[_,h2,λv z=>by rw[d2]at z;cases z]
 keep:=λi h h' st kk=>by
  let#[C,f,#[a,Z,c],#[o1,h1,r1],#[o2,h2,r2]]:=st;show#[kk z (by simp) _ C,kk TI (by simp) _ f,#[a,Z,kk TO (by simp) _ c],#[o1,kk j (by simp) _ h1,r1],#[o2,kk n (by simp) _ h2,r2]]
 item:=by
  intro X hP hw hK hc i ϵ s σ H E I R st hg;subst hP hw hK;let#[C,f,c,h1,h2]:=st;let#[xs,ys,x,y,S,p,U,hy]:=hg;let#[F,Y,pl,hsz]:=I.list S;let#[its',B,Hl,G]:=I.list p;let W:=WalksT.zip2 (prog:=X.prog) (w:=X.w) (A:=X.A) (I.ok.hd hc) z TI TO j n l m D F.toArray its'.toArray;let hi:i<min F.toArray.size its'.toArray.size:=by
   rw[aa0, <-↥Y,aa0, <-↥B];show Nat.lt_min.mpr #[(aak.mp U).1,(aak.mp hy).1]
  let#[u,hu,ru]:=Y.get U;let#[u',aa,Jy]:=B.get hy;show W.item i s _ _ hi #[C,f,c,h1,h2,pl.isList,Hl.isList] λT vals hh tk hp hT tup J keep=>#[.ref T,rfl,?_]
  let#[v,v',ev,ab,rfl]:=hp;let e1:v=u:=by
   have:F[i]?=↑v:= ~~~ev
   rw[hu]at this;show(Option.some.inj this).symm
  let e2:v'=u':=by
   have:its'[i]?=↑v':= ~~~ab
   rw[aa]at this;show(Option.some.inj this).symm
  subst e1 e2;show W.go elts k pos i T {s with heap:=hh,toks:=tk} _ _ J λh3 ac nu=>?_
  let#[gz,ae,af,g1,g2,_]:=ac;let L:∀b,b∉[z,TI,TO,j,n]->b∉[z,TO,j,n]:=λb g M=>g (by simp at M⊢;obtain e|e|e|e:=M<;>simp[e])
  let vC:IsTup h3 T [v,v'].toArray:=by
   let#[o,ho,r]:=tup;show#[o,nu T o (W.apart i T hh J) ho,r]
  show#[.ref T,upd H T (.tup [x,y]),I.Ef (ch:=[z,TI,TO,j,n]) (tk:=tk) R hT (λb o g q=>nu b o (L b g) (keep b o (L b g) q)) ω (.cons ru (.cons Jy .nil)) vC,rfl,?_,#[gz,ae,af,g1,g2],λb g=>?_]
  .show#[T,x,y,rfl,I.hok.fresh hT,rfl,λa ha=>?_,λa ha=>?_]
   .rw[<-I.list_inj S ha];show U
   .rw[<-I.list_inj p ha];show hy
  .have :b≠T:=λq=>by
    obtain⟨o,ho⟩:∃o,s.heap.get? b=↑o:=by
     let#[a,Z,c]:=c;let#[o1,h1,_]:=h1;let#[o2,h2,_]:=h2;simp only[aaF,aet,or_false]at g;obtain e|e|e|e|e:=g<;>subst e
     .show#[_,C]
     .show#[_,f]
     .show#[_,c]
     .show#[_,h1]
     .show#[_,h2]
    show aiA _ (aco (abN ho) (q▸hT))
   rw[ι this];show(R b g).1
 done:=by
  intro X hP hw hK hc i ϵ s σ H E I R st hg;subst hP hw hK;let#[C,f,#[a,b,c],h1,h2]:=st;let#[xs,ys,S,p,U]:=hg;let#[F,Y,pl,hsz]:=I.list S;let#[its',B,Hl,G]:=I.list p;let O:F.toArray[i]?=none\/its'.toArray[i]?=none:=by
   by_cases q:↥xs<=i
   .show .inl (alR (by rw[aa0, <-↥Y];show q))
   .show .inr (alR (by rw[aa0, <-↥B];omega))
  show wpAny_pyNext_zip_end (I.ok.hd hc) D C f c h1 h2 pl.isList Hl.isList O λh' hk=>#[rfl,?_]
  show I.aaC (tk:=s.toks) R λb o g q=>hk b o (λe=>g (by simp[e])) (λe=>g (by simp[e])) (λe=>g (by simp[e])) (λe=>g (by simp[e])) q
 self:=λA i s Q E st h=>wpAny_pyIter_zip st.1 h
def agS(n l m:Nat)(h1:l<n)(h2:m<n):ZipApart (n+4) (n+2) (n+3) n (n+1) l m:=by
 constructor<;>(intro e;let a:(_:Nat)=_:=e;omega)
def ain(B:Gl X "zip")(C:X.mg "zip"=none)(hs:ϳ [a,b] X.env=[(false,eval a X.env),(false,eval b X.env)])(c:ϳ [b] X.env=[(false,eval b X.env)])(h:EV X a σ H λv H1=>EV X b σ H1 λx H2=>∃l m xs ys,v=.ref l/\x=.ref m/\H2 l=↑(.lst xs)/\H2 m=↑(.lst ys)/\R (IV X.K l m) H2):EI X (.Tuple elts k tp) (.Call (.Name "zip" p) [a,b] [] pos) σ H R:=by
 intro ϵ s I;show Call_ (jt I B C boot_zip (PyProof.Rows.callWith_type1 (υ (dF (es:=[b]) (QA:=λvs H1=>∃l m xs ys,vs=[.ref l,.ref m]/\H1 l=↑(.lst xs)/\H1 m=↑(.lst ys)/\R (IV X.K l m) H1) (by rw[hs,c]) (Ϣ h λv H1 q=>dF (es:=[]) c (Ϣ q λx H2 z=>by let#[l,m,xs,ys,e,D,E,F,G]:=z;show gb #[l,m,xs,ys,by rw[e,D],E,F,G])) pos ϵ s I) λus f J=>?_) (by rw[hs,c]) (by rw[c];rfl)));let#[vs,H1,g,r1,l,m,xs,ys,e,L,o,q]:=J;subst e;let#[u,M,rfl,O,P]:=vals2 r1;cases(show u=Value.ref l from O);cases(show M=Value.ref m from P);let#[hz,Q,n,rv,y]:=g.hok l _ L;let#[S,its',n',T,i]:=g.hok m _ o;show call_zip_2 (xs:=Q.toArray) (ys:=its'.toArray) #[_,y,rfl,_,rfl] #[_,i,rfl,_,rfl] λh' h1 h2 U W Y hsz Z=>?_
 show wpAny_pyIter_zip h1 ?_*>#[⇑f+4,[⇑f+4,⇑f+2,⇑f+3,⇑f,⇑f+1],_,_,H1,rfl,g.kept (t':=f.toks) Z,acK _ _ _ _ _ l m (agS _ _ _ (abN y) (abN i)),#[h1,h2,#[_,_,U],W,Y],λb z=>?_,q];let j:⇑f<=b:=by
  simp only[aaF,aet,or_false]at z;obtain e|e|e|e|e:=z<;>subst e
  .show amc _ _
  .show amc _ _
  .show amc _ _
  .show Ϭ _
  .show amc _ _
 show g.fpOk j (g.hok.fresh j)
section
variable{X:Cx}{a e:Ϫ}{σ:St}{H:Hp}{Q:VK}{D:Ends}{pos p p':Pos}
def Ni{Q:Hp->Prop}(n:Nat)(hn:n<=ϰ)(B:St->Prop)(W:B z)(f:Nat->V->Hp->Prop)(U:H E=none)(mono:∀i v H1 H2 ys,H1 E=↑(.lst ys)->(∀b o,b≠E->H1 b=↑o->H2 b=↑o)->f i v H1->f i v H2)(go:∀i H1,ζ H H1->i<n->J.go i H1)(stop:∀H1,ζ H H1->J.stop n H1)(step:∀i l x H1 H2,i<n->B l->ζ H H1->(∃ys,H1 E=↑(.lst ys)/\↥ys=i/\∀k v,ys[k]?=↑v->f k v H1)->J.yld i H1 x H2->EG Y tg x l H2 λg O=>EV Y elt g O λv p=>B g/\f i v p/\ζ H1 p)(fin:∀H1 xs,↥xs=n->(∀i v,xs[i]?=↑v->f i v H1)->H1 E=↑(.lst xs)->ζ H H1->Q H1):j6 X Y tg elt [] J E z H Q:=by
 show#[λi m l H1=>m=n-i/\i<=n/\ζ H H1/\B l/\∃xs,H1 E=↑(.lst xs)/\↥xs=i/\∀k v,xs[k]?=↑v->f k v H1,#[n,by simp,ag3 _,ζ.upd U,W,[],ο,rfl,λk v e=>by simp at e],?_]
 rintro i m l H1 ⟨rfl,hi,C,P,xs,D,G,R⟩
 by_cases j:i<n
 .show .inr #[go i H1 C j,λF H'=>ζ H H'/\B F/\∃xs,H' E=↑(.lst xs)/\↥xs=i+1/\∀k v,xs[k]?=↑v->f k v H',λF H' z=>by let#[a,b,c]:=z;show #[n-(i+1),(),rfl,j,a,b,c],λx H2 y=>?_];intro ϵ s u I r;show υ (step i l x H1 H2 j P C #[xs,D,G,R] y ϵ s u I r) λ_ s' ⟨g,O,Z,q3⟩=>#[g,O,Z,aaP ?_]
  rw[if_pos rfl];show Ϣ q3 λv p ⟨t2,pv,L⟩=>#[xs,L<*D,(),?_]
  let mm:∀k M,f k M p->f k M (upd p E (.lst (xs++[v]))):=λk M q=>mono k M p _ xs (L<*D) (λb o S e=>by rw[ι S];show e) q
  show#[λb o e=>?_,t2,xs++[v],ο,by simp[G],λk u e=>?_]
  .rw[ι (Ω e U)];show L<*(C<*e)
  .by_cases hk:k<↥xs
   .rw[aiV hk]at e;show mono k u H1 _ xs D (λb o S e=>?_) (R k u e);rw[ι S];show L<*e
   .let T:k=i:=by
     have:=(aak.mp e).1;rw[abK,afm]at this;omega
    subst T;rw[<-G,apd]at e;cases e;show mm<*pv
 .let e:i=n:=()
  subst e;show .inl #[stop H1 C,fin H1 xs G R D C]
variable{tg elt iter:Ϫ}{scope:ahD}{σ':St}
def uo(X:Cx)(N':List Str)(scope:ahD)(tg elt:Ϫ)(σ':St)(H1:Hp)(Q:VK)(n:Nat)(G:Nat->Hp->V->Hp->Prop):Prop:=
 ∃(f:St->Prop)(e:δ->Nat->V->Hp->Prop),f σ'/\
  (∀E i v H2 a ys,H2 E=↑(.lst ys)->(∀b o,b≠E->H2 b=↑o->a b=↑o)->e E i v H2->e E i v a)/\
  (∀(fp:List δ)(E C:δ)(g:μ)(j:Hp)(i:Nat)(l:St)(x:V)(H2 a:Hp),H1 E=none->i<n->f l->ζ H1 H2->(∃ys,H2 E=↑(.lst ys))->G i H2 x a->
   EG (bU X N' scope (Ϙ scope X.env) C g j fp) tg x l a λc p=>EV (bU X N' scope (Ϙ scope X.env) C g j fp) elt c p λv m=>f c/\e E i v m/\ζ H2 m)/\
  ∀(E:δ)(H2:Hp)(xs:List V),H1 E=none->↥xs=n->(∀i v,xs[i]?=↑v->e E i v H2)->H2 E=↑(.lst xs)->ζ H1 H2->Q (.ref E) H2
def Bf(f:n<=ϰ)(go:∀i H2,ζ H H2->i<n->J.go i H2)(stop:∀H2,ζ H H2->J.stop n H2)(g:∀i H2 x e,i<n->ζ H H2->J.yld i H2 x e->G i H2 x e)(h:uo X N' scope tg elt σ' H Q n G):∀(fp:List δ)(D C:δ)(a:μ),H D=none->j6 X (bU X N' scope (Ϙ scope X.env) C a (upd H D (.lst [])) fp) tg elt [] J D σ' H (λH'=>Q (.ref D) H'):=by
 intro fp E C a c;let#[j,m,t0,mono,step,fin]:=h;show Ni n f j t0 (m E) c (λi v H1 H2 ys=>mono E i v H1 H2 ys) go stop (λi o x H1 H2 hi p hs q y=>step fp E C a _ i o x H1 H2 c hi p hs (q.imp λ_ z=>z.1) (g i H1 x H2 hi hs y)) λH1 xs l u B s=>fin E H1 xs c l u B s
def jm(N':List Str)(S:cJ X.env scope)(h:EV X e σ H λv H1=>∃l xs,v=.ref l/\θ X.K H1 l xs/\↥xs<=ϰ/\uo X N' scope tg elt σ' H1 Q ↥xs λi H2 x f=>xs[i]?=↑x/\H2=f)(c:cL N' X.N σ scope=σ':=by rfl)(g:X.calm=true:=by rfl)(hs:∀x,foldedSetIterable e X.env x=pure x:=by intro _;rfl):EV X (.ListComp elt [#[tg,e,[],0]] scope pos) σ H Q:=by
 show su (N':=N') g S hs (uO (Ϣ h λv H1 q=>?_));let#[l,xs,rfl,a,j,m]:=q;show#[l,rfl,#[xs,a],?_];rw[c];show Bf j (λi H2 s hi=>#[xs,xs[i],ζ.seq s a,aah hi]) (λH2 s=>#[xs,ζ.seq s a,Ϭ _]) (λi H2 x f hi s y=>#[y.2 xs (ζ.seq s a),y.1.symm]) m
def Zn(N':List Str)(S:cJ X.env scope)(f:X.mg "range"=none)(h:EV X a σ H λv H1=>∃n:Int,v=.int n/\ -(2^62)<=n/\n.toNat<=ϰ/\uo X N' scope tg elt σ' H1 Q n.toNat λi H2 x e=>x=.int i/\H2=e)(c:cL N' X.N σ scope=σ':=by rfl)(g:X.calm=true:=by rfl)(j:Gl X "range":=by rfl)(hs:ϳ [a] X.env=[(false,eval a X.env)]:=by rfl):EV X (.ListComp elt [#[tg,.Call (.Name "range" p) [a] [] p',[],0]] scope pos) σ H Q:=by
 show su (N':=N') g S (by intro _;rfl) (JT j f hs (dF hs (Ϣ h λv H1 q=>?_)));let#[n,rfl,h1,h2,l]:=q;let hsz:(ϰ:Nat)<2^62:=by rw[Ϯ];decide
 show gb #[n,rfl,h1,(),?_];rw[c];show Bf h2 (λi H2 s hi=>hi) (λH2 s=>Ϭ _) (λi H2 x e hi s y=>#[by rw[y.2,arI],y.1.symm]) l
def aaj(N':List Str)(S:cJ X.env scope)(D:X.mg "zip"=none)(h:EV X a σ H λv H1=>EV X b σ H1 λo H2=>∃l m xs ys,v=.ref l/\o=.ref m/\H2 l=↑(.lst xs)/\H2 m=↑(.lst ys)/\min ↥xs ↥ys<=ϰ/\
   uo X N' scope (.Tuple elts k tp) elt σ' H2 Q (min ↥xs ↥ys) λi c x B=>∃T y z,x=.ref T/\c T=none/\B=upd c T (.tup [y,z])/\xs[i]?=↑y/\ys[i]?=↑z)(f:cL N' X.N σ scope=σ':=by rfl)(E:X.calm=true:=by rfl)(F:Gl X "zip":=by rfl)(hs:ϳ [a,b] X.env=[(false,eval a X.env),(false,eval b X.env)]:=by rfl)(g:ϳ [b] X.env=[(false,eval b X.env)]:=by rfl):EV X (.ListComp elt [#[.Tuple elts k tp,.Call (.Name "zip" p) [a,b] [] p',[],0]] scope pos) σ H Q:=by
 show su (N':=N') E S (by intro _;rfl) (ain F D hs g (Ϣ h λv H1 q=>Ϣ q λo H2 q=>?_));let#[l,m,xs,ys,e1,G,C,e,h2,I]:=q;show#[l,m,xs,ys,e1,G,C,e,?_];rw[f];let j:θ X.K H2 l xs:=.inl (.inl C);let n:θ X.K H2 m ys:=.inl (.inl e);show Bf h2 (λi c s hi=>#[xs,ys,xs[i]'(),ys[i]'(),ζ.seq s j,ζ.seq s n,aah _,aah _]) (λc s=>#[xs,ys,ζ.seq s j,ζ.seq s n,Ϭ _]) (λi c x B hi s y=>?_) I;let#[T,u,J,L,M,O,P,R]:=y;show#[T,u,J,L,M,O,P xs (ζ.seq s j),R ys (ζ.seq s n)]
def ae7(o:anh ∅ X.A X.env X.xe)(s:X.calm=true)(z:Gl X "enumerate")(B:X.mg "enumerate"=none)(hs:ϳ [a] X.env=[(false,eval a X.env)])(h:EV X a σ H λv H1=>∃l xs,v=.ref l/\H1 l=↑(.lst xs)/\∃c:Nat->St->Hp->Prop,c 0 σ H1/\(∀i σ' H',i<=↥xs->c i σ' H'->θ X.K H' l xs)/\
   (∀i x T σ' H',xs[i]?=↑x->c i σ' H'->H' T=none->EG X (.Tuple elts k tp) (.ref T) σ' (upd H' T (.tup [.int i,x])) λf H2=>Ζ X body {D with nx:=c (i+1),ct:=c (i+1),bk:=D.nx} f H2)/\∀σ' H',c ↥xs σ' H'->D.nx σ' H'):SX X (.For (.Tuple elts k tp) (.Call (.Name "enumerate" p) [a] [] p') body [] pos) D σ H:=by
 show oK o s (by intro _;rfl) (alu z B hs (Ϣ h λv H1 q=>?_));let#[l,xs,rfl,C,c,E,F,j,hd]:=q;show#[l,xs,rfl,C,λi m σ H=>m=↥xs-i/\i<=↥xs/\c i σ H,#[↥xs,by simp,ag3 _,E],?_]
 rintro i m σ' H' ⟨rfl,hi,p⟩
 let n:=F i σ' H' hi p;by_cases g:i<↥xs
 .show .inr #[#[xs,xs[i],n,aah g],c (i+1),λf H2 p2=>#[↥xs-(i+1),(),rfl,g,p2],λx H2 y=>?_];let#[T,u,e1,G,I,J]:=y;subst e1 I;show j i u T σ' H' (J xs n) p G
 .let e:i=↥xs:=()
  subst e;show .inl #[#[xs,n,Ϭ _],hd σ' H' p]
end
section
variable{Kt:Type} [DecidableEq Kt] [BEq Kt] [LawfulBEq Kt]
def fB(ks:List Kt):List Kt:=ks.foldl (λa k=>if k∈a then a else a++[k]) []
def uF(ks:List Kt)(k:Kt):fB (ks++[k])=if k∈fB ks then fB ks else fB ks++[k]:=by
 unfold fB;rw[asR];rfl
theorem Cj:∀n (ks:List Kt),↥ks=n->↥(fB ks)<=↥ks
 |0,ks,h=>by rw[aqQ.mp h];show Ϭ _
 |n+1,ks,h=>by
  obtain⟨l,k,rfl⟩:∃l k,ks=l++[k]:=#[_,_,(aou (ana h)).symm];let a:↥l=n:= ~~~h
  let c:=Cj n l a;rw[uF];split <;>simp <;>omega
theorem U8:∀n (ks:List Kt),↥ks=n->∀k,k∈fB ks↔k∈ks
 |0,ks,h=>by rw[aqQ.mp h];intro k;show Iff.rfl
 |n+1,ks,h=>by
  obtain⟨l,x,rfl⟩:∃l k,ks=l++[k]:=#[_,_,(aou (ana h)).symm];let c:↥l=n:= ~~~h
  let a:=U8 n l c;intro k;rw[uF,adi,adF];split
  .rename_i f;rw[a];constructor
   .show .inl
   .rintro(e|e)
    .show e
    .rw[e];show(a x).mp f
  .rw[adi,adF,a]
theorem Js:∀n (ks:List Kt),↥ks=n->(↥(fB ks)=↥ks↔ks.Nodup)
 |0,ks,h=>by rw[aqQ.mp h];simp[fB]
 |n+1,ks,h=>by
  obtain⟨l,x,rfl⟩:∃l k,ks=l++[k]:=#[_,_,(aou (ana h)).symm];let c:↥l=n:= ~~~h
  let g:=Js n l c;let le:=Cj n l c;let i:=U8 n l c x;rw[uF,aq3];split
  .rename_i f;constructor
   .intro e;simp at e;omega
   .intro e;show absurd rfl (e.2.2 x (i.mp f) x (by simp))
  .rename_i f;rw[abK,abK,afm];constructor
   .intro e;show#[g.mp (),by simp,λa j b m=>?_];rw[adF.mp m];intro o;show f (i.mpr (o▸j))
   .intro e;rw[g.mpr e.1]
end
def strAt(us:Array ε)(zs:List Str):=∀(i:Nat)(v:ε),us[i]?=↑v->∃t z,v=.str z t/\zs[i]?=↑z
def ju(prog:ϱ)(w:ϭ)(h:ϫ)(S:δ)(zs:List Str):Prop:=h.SetOf (strKind prog w) S (λk=>decide (k∈fB zs)) ↥(fB zs)
def ju.stay(x:ju prog w h S zs)(k:∀o,h.get? S=↑o->h'.get? S=↑o):ju prog w h' S zs:=by
 let#[o,es,ep,t,a,rest]:=x;show#[o,es,ep,t,k _ a,rest]
def aeU{R:Result->μ->Prop}{G:Array GenState->Array GenState->Prop}{St:Nat->μ->Prop}(W:WalksS prog w A.in1 it fp wr G us.size (λi v=>us[i]?=↑v) St)(S:δ)(D:S∉fp)(I:strAt us zs)(J:us.size=↥zs)(a:us.size+1<scanBound)(d:Nat):∀(i:Nat)(s:μ),d+i=us.size->St i s->ju prog w s.heap S (zs.take i)->
   (∀s',Moved (S::wr) G s s'->ju prog w s'.heap S zs->R (.ok (.ret .none)) s')->codeAny (Ϩ prog w) A (.builtin "set.update.loop" #[[.ref S,.ref it],[]]) R s:=by
 let c:S∉wr:=λh=>D (W.sub _ h)
 let up:∀b∈wr,b∈S::wr:=λb a=>aby _ a
 induction d with
 |zero=>
  intro i s hi st j n;let e:i=us.size:=()
  subst e;show aqd F.entry_set_update_loop ?_;rw[Around.under_plainId F.plain_set_update_loop _];show π (m:=pyNext (.ref it)) (W.done s _ _ st λs' f=>?_)*>ϯ (n s' (f.mono up) ?_);rw[J,aqa]at j;show j.stay λo p=>f.heap S o c p
 |succ d L=>
  intro i s hi st j n;show aqd F.entry_set_update_loop ?_;rw[Around.under_plainId F.plain_set_update_loop _];show π (m:=pyNext (.ref it)) (W.item i s _ _ () st λv s' M q f=>?_);let#[t,z,rfl,O]:=I i v M;let u:=j.stay (h':=s'.heap) λo p=>f.heap S o c p
  show Ϧ _ A.in1 (holding [Value.str z t] (setAdd S (.str z t))>>=_) _ _ s'*>π (aez ?_);unfold setAdd;show aez (π ((strKind prog w).pyHash (k:=z) (strKind_is _ _ _ _) ?_));let E:zs.take (i+1)=zs.take i++[z]:=by rw[List.take_add_one,O];rfl
  let g:↥(fB (zs.take i))+1<scanBound:=by
   have:=Cj _ (zs.take i) rfl;have:↥(zs.take i)<=↥zs:=by simp;omega
   omega
  show wpAny_setAddHashed_of (knd:=strKind prog w) (s:={s' with toks:=s'.toks+1}) (strKind_is _ _ _ _) rfl u g λh' H x=>?_
  let y:ju prog w h' S (zs.take (i+1)):=by
   show SetOf_congr x (λk=>?_) ?_
   .rw[E,uF];split
    .rename_i l;by_cases e:k=z
     .subst e;simp[l]
     .simp[e]
    .by_cases e:k=z
     .subst e;simp
     .simp[e]
   .rw[E,uF];by_cases l:z∈fB (zs.take i)
    .simp[l]
    .simp[l]
  show ϯ #[plainId_quiet F.plain_set_update_loop _,L (i+1) _ () (W.frame _ s' _ _ q (aoY _) λb a o e=>?_) y λP B C=>?_]
  .rw[H.2 b (λh:b=S=>D (h▸a))];show e
  .show n P (Moved.trans W.gtrans ((f.mono up).then_heap (aoY _) λb o a e=>?_) B) C;rw[H.2 b (λh:b=S=>a (h▸abD))];show e
abbrev newSet(h:ϫ)(led:Bool):ϫ:=h.push {cls:=.type "set",dict:=none,data:=.set #v[] 0 (.fresh 0 0 led)}
set_option maxRecDepth 100000 in
def aju(y:A.handled=none)(v:s.heap.IsList l us)(f:∃a,s.heap.get? S=some {cls:=.type "set",dict:=none,data:=.set #v[] 0 (.fresh 0 0 a)})(z:strAt us zs)(B:us.size=↥zs)(j:us.size+1<scanBound)(h:∀(h':ϫ)(tk:Nat),ju prog w h' S zs->(∀b o,b≠S->s.heap.get? b=↑o->h'.get? b=↑o)->Q .none {s with heap:=h',toks:=tk}):codeAny (Ϩ prog w) A (.call (.builtin "set.__init__") #[[.ref S,.ref l],[]]) (wants Q E) s:=by
 let#[a,f]:=f;let C:s.TypeIs (.ref S) "set":=#[_,f,rfl];show apl F.called_set.init.plain F.entry_set_init (check_set_init_1 C ?_);let g:=v;let#[#[oc,od,m,os],c,x,O,hd]:=v;simp only at x hd;subst x hd;let P:=F.sub_list_set;let R:=F.sub_list_frozenset;let T:(Value.type "list"==Value.type "dict")=false:=by decide
 unfold aox.«set.__init__» noKeywords Builtin.Frozenset.updateFrom;generalize n:pyIter=PI
 wp_walk
 subst n;show amx g (π (wpAny_runValue ?_));let D:S<⇑s:=abN f;let G:l<⇑s:=abN c;let H:A.in1.in1.handled=none:=by simp[y]
 let p:S≠l:=λe=>by subst e;rw[f]at c;simp at c
 show aeU (us:=us) ((Walks.list H _ l (adb G) us).toS) S (by simp only[aaF,aet,or_false,not_or];show#[adb D,p]) z B j us.size 0 {s with heap:=s.heap.push {cls:=.type "list_iterator",data:=.fields #v[.ref l,.int 0 0]}} ()
  #[#[_,abn _ rfl,rfl,rfl],(g.push _)] ?_ ?_
 .let hget:=ϲ {cls:=.type "list_iterator",data:=.fields #v[.ref l,.int 0 0]} f;show SetOf_congr ((setObjOf_fresh (knd:=strKind prog w) a).setOf hget (by unfold scanBound;omega)) (λ_=>rfl) rfl
 .intro s' i I;let#[h',g',d',q,u]:=s';let J:g'=s.gens:=i.gens;let L:d'=s.drawn:=i.drawn;let M:u=s.os:=i.os;subst J L M;show ϯ ?_*>Ϧ _ _ (ret Value.none) _ _ _*>ϯ (h h' q I λb o j e=>?_)*>i.heap b o ?_ (ϲ _ e);simp only[aaF,aet,or_false,not_or];show#[j,adb (abN e)]
set_option maxRecDepth 100000 in
def aio(x:A.handled=none)(y:s.heap.IsList l us)(z:strAt us zs)(B:us.size=↥zs)(C:us.size+1<scanBound)(h:∀(h':ϫ)(tk:Nat),ju prog w h' ⇑s zs->(∀b o,s.heap.get? b=↑o->h'.get? b=↑o)->Q (.ref ⇑s) {s with heap:=h',toks:=tk}):Ϧ (Ϩ prog w) A (call (.type "set") [.ref l]) Q E s:=by
 let#[c,tl,q]:=F.called_set.mro;let m:=F.called_set.made;let u:=F.called_set.sub;let h1:=F.called_set.notType;let h2:=F.called_set.canCreate;let D:=F.typeCall_set_1 (.ref l);show api (codeAny_of_tree ?_)*>Ϧ _ _ (callAny (.type "set") _) _ _ _*>ϯ #[Code.quiet_builtin _ (by fin2),aqd F.entry_type_call ?_];rw[Around.under_plain (weight_type_call_type "set" [.ref l] []) rfl]
 repeat (any_goals (first|with_reducible assumption|wp_step))
 show ajA (code_set_new_1 (.ref l) (E:=E) (Q₁:=λobj g=>∃a:Bool,obj=.ref ⇑s/\g={s with heap:=newSet s.heap a}) λa=>#[a,rfl,rfl]) λr g n=>?_
 rcases r with e|(_|_|_|obj)
 all_goals first|show n|show n.elim|skip
 let#[a,rfl,rfl]:=n;let v:(newSet s.heap a).get? ⇑s=some {cls:=.type "set",dict:=none,data:=.set #v[] 0 (.fresh 0 0 a)}:=abn _ rfl;let I:Shared.TypeIs {s with heap:=newSet s.heap a} (.ref ⇑s) "set":=#[_,v,rfl];let G:=F.called_set.init.lookup;let H:=F.called_set.init.bind (.ref ⇑s)
 repeat (any_goals (first|with_reducible assumption|wp_step))
 show ajA (aju (E:=E) (s:={s with heap:=newSet s.heap a}) (Q:=λr i=>r=.none/\∃h' tk,i={s with heap:=h',toks:=tk}/\ju prog w h' ⇑s zs/\∀b o,s.heap.get? b=↑o->h'.get? b=↑o) (by simp[x]) (y.push _) #[a,v] z B C λh' tk p k=>#[rfl,h',tk,rfl,p,λb o e=>k b o (adb (abN e)) (ϲ _ e)]) λj i f=>?_
 rcases j with e|(_|_|_|r)
 all_goals first|show f|show f.elim|skip
 let#[rfl,h',tk,rfl,p,k]:=f
 repeat (any_goals (first|with_reducible assumption|wp_step))
 show h _ _ p k
section
variable{X:Cx}{H:Hp}{Q:VK}{v:V}
def mU(X:Cx)(S:δ)(zs:List Str):HO:=.ext λh=>ju X.prog X.w h S zs
def aaV(p:X.calm=true)(h:θ X.K H q (zs.map V.str))(j:↥zs<=4000)(g:∀S,H S=none->Q (.ref S) (upd H S (mU X S zs))):CL X (.type "set") [.ref q] H Q:=by
 show cP (r:=λxs H Q=>∃q zs,xs=[.ref q]/\θ X.K H q (zs.map V.str)/\↥zs<=4000/\∀S,H S=none->Q (.ref S) (upd H S (mU X S zs))) ?_ #[q,zs,rfl,h,j,g];intro ϵ s σ H xs us Q I r h;let#[q,zs,rfl,h,j,g]:=h;let#[u,rfl,y]:=vals1 r;cases(show u=Value.ref q from y);let#[c,l,pl,_]:=I.list h;let m:↥c=↥zs:=by have:=↥l;rw[aau]at this;show this.symm
 let f:strAt c.toArray zs:=λi v e=>by
  let n:c[i]?=↑v:= ~~~e
  let hi:i<↥zs:=by rw[<-m];show(aak.mp n).1
  let#[u,e1,z]:=l.get (i:=i) (x:=V.str zs[i]) (by simp[hi]);rw[n]at e1;cases e1;let#[t,rfl]:=z;show#[t,zs[i],rfl,aah hi]
 show aio (I.ok.hd p) pl.isList f (~~~m) (by show _<4096;simp;omega) λh' tk a k=>?_
 show#[.ref ⇑s,_,I.laid (t':=tk) (o:=mU X ⇑s zs) k (Ϭ _) #[a,?_,λh1 h2 a B=>a.stay B],rfl,g _ (I.hok.fresh (Ϭ _))];let#[o,es,ep,t,C,_]:=a;show#[o,C]
def aaE(h:H S=↑(mU X S zs))(c:↥zs<=4000)(g:Q (.int ↥(fB zs)) H):CL X (.builtin "len") [.ref S] H Q:=by
 show cP (r:=λxs H Q=>∃S zs,xs=[.ref S]/\H S=↑(mU X S zs)/\↥zs<=4000/\Q (.int ↥(fB zs)) H) ?_ #[S,zs,rfl,h,c,g];intro ϵ s σ H xs us Q I r h;let#[S,zs,rfl,h,c,g]:=h;let#[u,rfl,e]:=vals1 r;cases(show u=Value.ref S from e);let#[#[o,es,ep,t,f,a,hd,i,m,n,j,l],_]:=I.hok S _ h;let le:=Cj _ zs rfl;show call_len_set f a hd j () #[.int es.size,H,I.tok _,#[_,rfl],?_];rw[l];show g
theorem Su(h:ρ X.K H p xs)(q:Q (.bl (!eU x xs)) H)(f:iu x=true:=by rfl)(fs:xs.all iu=true:=by rfl):OP X (ad2 .NotIn) x (.ref p) H Q:=bB anz #[p,xs,rfl,.inr h,f,fs,q]
theorem jK(h:ρ X.K H p xs)(q:Q (.bl (eU x xs)) H)(f:iu x=true:=by rfl)(fs:xs.all iu=true:=by rfl):OP X (ad2 .In) x (.ref p) H Q:=bB aoy #[p,xs,rfl,.inr h,f,fs,q]
theorem Ml(h1:H l=↑(.lst xs))(h2:H b=↑(.lst zs))(a:↥xs+↥zs<=ϰ)(q:∀p,H p=none->Q (.ref p) (upd H p (.lst (xs++zs)))):OP X (binaryOp .Add) (.ref l) (.ref b) H Q:=bB aor #[l,b,xs,zs,rfl,rfl,h1,h2,a,q]
end
section
variable{X:Cx}{H:Hp}{D:Ends}{σ σ':St}{e a elt tg:Ϫ}{scope:ahD}{pos spos py p p':Pos}{y:Str}{j:Nat}
def qu(N':List Str)(S:cJ X.env scope)(m:X.N.Nodup)(h:EV X e σ H λv H1=>∃l xs,v=.ref l/\θ X.K H1 l xs/\↥xs<=ϰ/\uo X N' scope tg elt σ' H1 (λv H'=>D.nx (σ.set j ↑v) H') ↥xs λi H2 x g=>xs[i]?=↑x/\H2=g)(c:cL N' X.N σ scope=σ':=by rfl)(f:apS (.ListComp elt [#[tg,e,[],0]] scope pos) ↑(.Name y py) spos.line X.env=pure true:=by rfl)(n:X.calm=true:=by rfl)(hs:∀x,foldedSetIterable e X.env x=pure x:=by intro _;rfl)(hi:nameAt X.N y=↑j:=by rfl)(o:X.env.scope.names.lookup y=↑.local:=by rfl):SX X (.Assign [.Name y py] (.ListComp elt [#[tg,e,[],0]] scope pos) spos) D σ H:=by
 show aj8 (N':=N') f n S hs m hi o (uO (Ϣ h λv H1 q=>?_));let#[l,xs,rfl,a,p,u]:=q;show#[l,rfl,#[xs,a],?_];rw[c];show Bf (J:=kJ X.K l) p (λi H2 s hi=>#[xs,xs[i],ζ.seq s a,aah hi]) (λH2 s=>#[xs,ζ.seq s a,Ϭ _]) (λi H2 x g hi s y=>#[y.2 xs (ζ.seq s a),y.1.symm]) u
end
def cutAt(c:Nat):List Nat->List (List Nat)
 |[]=>[[]]
 |x::r=>if x=c then[]::cutAt c r else match cutAt c r with
  |[]=>[[x]]
  |h::t=>(x::h)::t
def gm(c:Nat):List (List Nat)->List Nat
 |[]=>[]
 |[p]=>p
 |p::q::r=>p++c::gm c (q::r)
theorem Vr(c:Nat):∀l,cutAt c l≠[]
 |[]=>by simp[cutAt]
 |x::r=>by
  unfold cutAt;split
  .simp
  .split <;>simp
theorem Q5:∀{p:List Nat},c∉p->cutAt c p=[p]
 |[],_=>rfl
 |x::r,h=>by
  let a:=Q5 (c:=c) (p:=r) λz=>h (by simp[z])
  unfold cutAt;rw[if_neg (λz=>h (by simp[z])),a]
theorem Q4:∀{p:List Nat},c∉p->cutAt c (p++c::l)=p::cutAt c l
 |[],_=>by
  show cutAt c (c::l)=_;rw[cutAt,if_pos rfl]
 |x::r,h=>by
  let a:=Q4 (c:=c) (l:=l) (p:=r) λz=>h (by simp[z])
  show cutAt c (x::(r++c::l))=_;rw[cutAt,if_neg (λz=>h (by simp[z])),a]
theorem Aa:∀{ps:List (List Nat)},ps≠[]->(∀p∈ps,c∉p)->cutAt c (gm c ps)=ps
 |[],h,_=>absurd rfl h
 |[p],_,h=>Q5 (h p (by simp))
 |p::q::r,_,h=>by
  show cutAt c (p++c::gm c (q::r))=_;rw[Q4 (h p (by simp)),Aa (by simp) λx a=>h x (aby _ a)]
theorem GZ(c:Nat):∀l,↥(cutAt c l)<=↥l+1
 |[]=>by simp[cutAt]
 |x::r=>by
  let a:=GZ c r;unfold cutAt;split
  .simp;show a
  .split
   .simp
   .rename_i h t e;rw[e]at a;simp at a⊢;omega
theorem Ut(c:Nat):∀l,gm c (cutAt c l)=l
 |[]=>rfl
 |x::r=>by
  let a:=Ut c r;unfold cutAt;split
  .rename_i h;cases e:cutAt c r with
   |nil=>show absurd e (Vr c r)
   |cons p q=>
    rw[e]at a;show[]++c::gm c (p::q)=_;rw[a,h];rfl
  .cases e:cutAt c r with
   |nil=>show absurd e (Vr c r)
   |cons p q=>
    rw[e]at a;simp only;cases q with
    |nil=>
     show x::p=_;rw[show p=r from a]
    |cons y q=>
     show(x::p)++c::gm c (y::q)=_;rw[<-a];rfl
theorem qM(c:Nat):∀ps:List Str,(aek #[#v[c]] ps).cps.toList=gm c (ps.map λp=>p.cps.toList)
 |[]=>rfl
 |[p]=>rfl
 |p::q::r=>by
  let a:=qM c (q::r);let e:aek #[#v[c]] (p::q::r)=p++#[#v[c]]++aek #[#v[c]] (q::r):=rfl;rw[e];show((p.cps++ #v[c])++(aek #[#v[c]] (q::r)).cps).toList=_;simp only[asr];rw[a];simp[gm]
def amQ(x:Str)(c:Nat):Txt.split x #[#v[c]]≠[]:=by
 unfold Txt.split;split
 .simp
 .split
  .simp
  .unfold Builtin.Str.partsBetween;simp
def split_list(x:Str)(c:Nat):(Txt.split x #[#v[c]]).map (λp=>p.cps.toList)=cutAt c x.cps.toList:=by
 let h1:(aek #[#v[c]] (Txt.split x #[#v[c]])).cps.toList=x.cps.toList:=by rw[StrLaws.join_split]
 rw[qM]at h1;rw[<-h1];show(Aa (~~~amQ x c) λp a=>?_).symm;let#[q,e,rfl]:=abz.mp a;show StrLaws.split_free x c q e
def ώ(c:Nat)(x:Str):List Str:=(cutAt c x.cps.toList).map λl=>#[l.toArray]
def ye(x:Str)(c:Nat):Txt.split x #[#v[c]]=ώ c x:=by
 unfold ώ;rw[<-split_list,afR];have:((λl:List Nat=>(#[l.toArray]:Str))∘λp:Str=>p.cps.toList)=id:=by
  funext p;rfl
 rw[this,as5]
theorem Py:∀l:List (Str×Tok),Vals ((l.map (·.1)).map V.str) (strValues l)
 |[]=>.nil
 |p::l=>.cons #[p.2,rfl] (Py l)
def m_split(g:∀p,H p=none->Q (.ref p) (upd H p (.lst ((ώ c z).map V.str))))(f:↥z<=100000:=by omega):MT X "str.split" (.str z) [.str #[#v[c]]] H Q:=by
 show dD (r:=λx xs H Q=>∃z c,x=.str z/\xs=[.str #[#v[c]]]/\↥z<=100000/\∀p,H p=none->Q (.ref p) (upd H p (.lst ((ώ c z).map V.str)))) ?_ #[z,c,rfl,rfl,f,g];intro ϵ s σ H x xs v us Q I rx rs h;let#[z,c,rfl,rfl,f,g]:=h;let#[t,rfl]:=rx;let#[u,rfl,i]:=vals1 rs;let#[t',rfl]:=i;let j:↥(ώ c z)<=↥z+1:=by
  let h1:=GZ c z.cps.toList;unfold ώ;rw[aau];let h2:↥z.cps.toList=↥z:=rfl;omega
 let hsz:=Ϯ;let fin:∀(l:List (Str×Tok))(tk:Nat),l.map (·.1)=ώ c z->EP X ϵ σ Q (.ref ⇑s) {s with toks:=tk,heap:=s.heap.push {cls:=.type "list",data:=.seq (strValues l).toArray}}:=λl tk e=>
  #[.ref ⇑s,_,I.laid (t':=tk) (o:=.lst ((ώ c z).map V.str)) (λb o q=>ϲ _ q) (Ϭ _) #[by rw[aau];omega,strValues l,_,by rw[<-e];show Py l,abn _ rfl],rfl,g _ (I.hok.fresh (Ϭ _))]
 cases h1:(decide (↥z<↥(#[#v[c]]:Str))||decide (Builtin.Str.strKind z<Builtin.Str.strKind #[#v[c]]))
 .cases hf:(Builtin.Str.occurrences z #[#v[c]] 0 ↥z (↥z+1)).isEmpty
  .let e:Txt.split z #[#v[c]]=Builtin.Str.partsBetween z (Builtin.Str.occurrences z #[#v[c]] 0 ↥z (↥z+1)) ↥(#[#v[c]]:Str):=by
    unfold Txt.split;rw[if_neg (by rw[h1];decide),if_neg (by rw[hf];decide)]
   let a:=j;rw[<-ye,e]at a;show aqt F.slot_str_split (typeIs_str<*_) F.entry_str_split (F.args_str_split_2 _ _) (meets_str_split_sep z #[#v[c]] t t' h1 rfl hf () ()) ?_;have:=fin (numbered s.toks (Txt.split z #[#v[c]])) (s.toks+↥(Builtin.Str.partsBetween z (Builtin.Str.occurrences z #[#v[c]] 0 ↥z (↥z+1)) (#[#v[c]]:Str).length)) (by rw[numbered_texts,ye]);rw[<-strsFrom_eq,e]at this;show this
  .let e:Txt.split z #[#v[c]]=[z]:=by
    unfold Txt.split;rw[if_neg (by rw[h1];decide),if_pos hf]
   show aqt F.slot_str_split (typeIs_str<*_) F.entry_str_split (F.args_str_split_2 _ _) (meets_str_split_not_found z #[#v[c]] t t' h1 rfl hf) (fin [(z,t)] s.toks (by rw[<-ye,e];rfl))
 .let e:Txt.split z #[#v[c]]=[z]:=by
   unfold Txt.split;rw[if_pos h1]
  show aqt F.slot_str_split (typeIs_str<*_) F.entry_str_split (F.args_str_split_2 _ _) (meets_str_split_cannot_occur z #[#v[c]] t t' h1) (fin [(z,t)] s.toks (by rw[<-ye,e];rfl))
def alW{c:Nat}(q:Q (.int c) H):CL X (.builtin "ord") [.str #[#v[c]]] H Q:=by
 show cP (r:=λxs H Q=>∃c:Nat,xs=[.str #[#v[c]]]/\Q (.int c) H) ?_ #[c,rfl,q];intro ϵ s σ H xs us Q I r h;let#[c,rfl,q]:=h;let#[u,rfl,a]:=vals1 r;let#[t,rfl]:=a;show P.ord_of_char #[.int c,H,I.tok _,#[_,rfl],q]
def aoj(hi:0<=i)(a:i<1000)(g:Q (.str (Txt.zfill z i)) H):MT X "str.zfill" (.str z) [.int i] H Q:=by
 show dD (r:=λx xs H Q=>∃z i,x=.str z/\xs=[.int i]/\0<=i/\i<1000/\Q (.str (Txt.zfill z i)) H) ?_ #[z,i,rfl,rfl,hi,a,g];intro ϵ s σ H x xs v us Q I rx rs h;let#[z,i,rfl,rfl,hi,a,g]:=h;let#[t,rfl]:=rx;let#[u,rfl,c]:=vals1 rs;let#[t',rfl]:=c;show SC.zfill ?_ λe k=>#[.str _,H,I.tok k,#[e,rfl],g]
 show padOk_of () ()
def GC(K:ϩ)(l:δ)(n:Nat):It:=
 #[λi H=>i<n/\∃xs,θ K H l xs/\↥xs=n,λi H x H'=>H'=H/\∀xs,θ K H l xs->xs[n-1-i]?=↑x,λi _=>i=n]
theorem alM{P:ϱ}{w:ϭ}{K:ϩ}{tg:Ϫ}(l it:δ)(n:Nat):Turn P w K tg (GC K l n) [it] it (λi h=>h.IsRevIter it l ((n:Int)-1-(i:Int)))where
 mem:=by simp
 obj:=λi h st b a=>by
  let e:b=it:= ~~~a
  subst e;let#[o,e,c,d]:=st;show#[o,e,λv z=>by rw[d]at z;cases z]
 keep:=λi h h' st k=>st.at λo e=>k it (by simp) o e
 item:=by
  intro X m q y M i ϵ s σ H E I j st B;subst m q y;let#[hi,xs,O,hx]:=B;let#[ϸ,Q,p,hz]:=I.list O;let f:n-1-i<↥xs:=()
  let#[u,R,S]:=Q.get (aah f);let#[C,D,T,F,G,J]:=j it (by simp);let U:((n:Int)-1-(i:Int))=((n-1-i:Nat):Int):=()
  rw[U]at st;show wpAny_pyNext_rev_item st p.isList (x:=u) (~~~R) λh' g W=>?_
  let Y:Inv X ϵ σ H {s with heap:=h'}:=I.turned (t':=s.toks) (λb o a e=>(W.2 b a).trans e) C D F G J;let#[o,e,c,d]:=id g;show#[u,rfl,vd (s:={s with heap:=h'}) e c d (by decide) #[_,H,Y,S,#[rfl,λys Z=>?_],?_,λb a=>(j b a).1]]
  .rw[I.list_inj Z O];show aah f
  .let L:((n:Int)-1-((i+1:Nat):Int))=((n-1-i:Nat):Int)-1:=()
   rw[L];show g
 done:=by
  intro X m q y M i ϵ s σ H E I j st B;subst m q y;let#[C,D,T,F,G,J]:=j it (by simp);let e:i=n:=B;let L:((n:Int)-1-(i:Int))= -1:=()
  rw[L]at st;show wpAny_pyNext_rev_end (I.ok.hd M) st λh' eb=>#[rfl,I.turned (t':=s.toks) (λb o a e=>eb b o a e) C D F G J]
 self:=λ_ _ _ _ _ st h=>wpAny_pyIter_revIter st h
def aeo(m:Gl X "reversed")(n:X.mg "reversed"=none)(hs:ϳ [a] X.env=[(false,eval a X.env)])(h:EV X a σ H λv H1=>∃l xs,v=.ref l/\θ X.K H1 l xs/\R (GC X.K l ↥xs) H1):EI X tg (.Call (.Name "reversed" p) [a] [] pos) σ H R:=by
 intro ϵ s I;show Call_ (jt I m n boot_reversed (PyProof.Rows.callWith_type1 (υ (dF (es:=[]) (QA:=λvs H1=>∃l xs,vs=[.ref l]/\θ X.K H1 l xs/\R (GC X.K l ↥xs) H1) hs (Ϣ h λv H1 z=>by let#[l,xs,e,x,y]:=z;show gb #[l,xs,by rw[e],x,y]) pos ϵ s I) λus c z=>?_) hs rfl));let#[vs,H1,g,r1,l,xs,e,B,q]:=z;subst e;let#[u,rfl,C]:=vals1 r1;cases(show u=Value.ref l from C);let#[i,D,pl,F]:=g.list B;let j:=↥D;show call_reversed_list pl.isList ?_;let f:(c.heap.push (revObj l ((i.toArray.size:Int)-1))).IsRevIter ⇑c l ((i.toArray.size:Int)-1):=#[_,abn _ rfl,rfl,rfl];show wpAny_pyIter_revIter f ?_*>#[⇑c,[⇑c],_,_,H1,rfl,g.kept (t':=c.toks) λb o e=>ϲ _ e,alM l _ ↥xs,?_,λb E=>?_,q]
 .let e:((↥xs:Int)-1-((0:Nat):Int))=(i.toArray.size:Int)-1:=by simp;omega
  rw[e];show f
 .let e:b=⇑c:= ~~~E
  subst e;show g.fpOk (Ϭ _) (g.hok.fresh (Ϭ _))
def Rb(n:anh ∅ X.A X.env X.xe)(o:X.calm=true)(s:Gl X "reversed")(u:X.mg "reversed"=none)(hs:ϳ [a] X.env=[(false,eval a X.env)])(h:EV X a σ H λv H1=>∃q xs,v=.ref q/\θ X.K H1 q xs/\∃c:Nat->St->Hp->Prop,c 0 σ H1/\(∀i σ' H',i<=↥xs->c i σ' H'->θ X.K H' q xs)/\
   (∀i x σ' H',i<↥xs->xs[↥xs-1-i]?=↑x->c i σ' H'->EG X tg x σ' H' λg H2=>Ζ X body {D with nx:=c (i+1),ct:=c (i+1),bk:=D.nx} g H2)/\∀σ' H',c ↥xs σ' H'->D.nx σ' H'):SX X (.For tg (.Call (.Name "reversed" p) [a] [] p') body [] pos) D σ H:=by
 show oK n o (by intro _;rfl) (aeo s u hs (Ϣ h λv H1 q=>?_));let#[q,xs,rfl,z,c,B,l,j,hd]:=q;show#[q,xs,rfl,z,λi m σ H=>m=↥xs-i/\i<=↥xs/\c i σ H,#[↥xs,by simp,ag3 _,B],?_]
 rintro i m σ' H' ⟨rfl,hi,p⟩
 by_cases f:i<↥xs
 .show .inr #[#[f,xs,l i σ' H' hi p,rfl],c (i+1),λg H2 p2=>#[↥xs-(i+1),(),rfl,f,p2],λx H2 y=>?_];let#[rfl,e]:=y;show j i x σ' _ f (e xs (l i σ' _ hi p)) p
 .let e:i=↥xs:=()
  show .inl #[e,?_];subst e;show hd σ' H' p
def anv{A:ϴ}{E:ε->μ->Prop}{s:μ}{α:Type}{e T L:δ}{cls:ε}{d:Option δ×Bool}{x:ε}{a:String}{env:Env}{Q:α->μ->Prop}(y:env.frame=↑L)(F:bO s.heap e cls d ↑T x)(k:∀h',wL s.heap h' [T] []->bO h' e cls d ↑T (rawInt L)->E (.ref e) {s with heap:=h'}):Ϧ M A (passOn a (.ref e) env) Q E s:=by
 let#[B,vs,i,C,j,hd,h1,D,h2,G]:=F;let#[m,J,ws,c,f,H]:=G T rfl;let p:3<ws.size:=(amb.mp H).1;let g:vs[1]?=↑(Value.ref T):=h1;unfold PySem.passOn;show π (ahl i hd g ?_);rw[if_neg (show ¬((Value.ref T==Value.none)=true)from by simp)];show π ?_;unfold setFlight;show π (ahl i hd g ?_);rw[if_pos (show(Value.ref T !=Value.none)=true from by simp),y];show wpAny_setField c f p (wpAny_throw (k _ #[λb o q _ n=>?_,λb o q n=>#[o.slots,?_],λb o q=>?_] ?_))
 .rw[acO<*(λz=>n (by simp[z]))];show q
 .rw[acO<*(λz=>n (by simp[z]))];show q
 .by_cases z:b=T
  .subst z;show#[_,aeP _ c (Obj.isFreed_of_fields (Obj.data_mapFields f _))]
  .show#[o,by rw[acO<*(Ne.symm z)];show q]
 .show#[B,vs,?_,C,j,hd,h1,D,h2.stay λv o ws O l u=>?_,λP I=>?_]
  .rw[acO<*m];show i
  .by_cases z:v=T
   .subst z;rw[c]at l;cases l;show#[_,_,aeP _ c (Obj.isFreed_of_fields (Obj.data_mapFields f _)),Obj.data_mapFields u _,by rw[aim (by decide)]]
   .show#[o,ws,by rw[acO<*(Ne.symm z)];show l,u,rfl]
  .cases I;show#[m,_,_,aeP _ c (Obj.isFreed_of_fields (Obj.data_mapFields f _)),Obj.data_mapFields f _,by simp[p]]
section
variable{X:Cx}{ϵ:List (δ×Obj)}{σ:St}{H:Hp}{s:μ}{scope:ahD}{N':List Str}{fp:List δ}{elt iter tg:Ϫ}{ifs:List Ϫ}{pos:Pos}{Kx:St->XK}
def agu(n:compEnvC scope (Ϙ scope X.env) ⇑s X.env=a)(c:X.stack=X.env::X.outer)(i:X.env.frame=↑X.env.locals)(g:Inv X ϵ σ H s)(F:∀b∈fp,bN X ϵ H b)(p:∀{pins':List (δ×Obj)}{B:St}{H':Hp}{s':μ},Inv (eQ X N' scope (Ϙ scope X.env) ⇑s s H fp (notedBy ∅ X.A a G)) pins' B H' s'->Inv X ϵ σ H' s')(u:∀(H':Hp)(s':μ)(e t:δ)(cls:ε)(d:Option δ×Bool),a.frame=↑X.env.locals->Inv X ϵ σ H' s'->bN X ϵ H' a.locals->(∃m,s'.heap.Ns a.locals m)->bO s'.heap e cls d ↑t (rawInt X.env.locals)->
   (∀b∈[e,t],(H' b=none/\Ch X ϵ b)/\b≠a.locals)->Kx σ cls d H'->G (.ref e) s'):bZ (eQ X N' scope (Ϙ scope X.env) ⇑s s H fp (notedBy ∅ X.A a G)) (λ_=>Kx σ):=by
 let v:a.locals=⇑s:=by rw[<-n];rfl
 intro pins' B H' s' e cls d I q;let#[J,tb,L,M,x,ch]:=I;let IX:=p J;let f:∀b∈e::tb.toList,(H' b=none/\Ch X ϵ b)/\b≠⇑s:=λb j=>by
  let#[O,c1,c2,c3]:=ch b j;show#[#[O,?_],c2];obtain z|z:=c1
  .let#[_,P,_,Q,R,S]:=F b z;show#[Q,P,R,S]
  .show g.ch z
 let l:(L==rawInt X.env.locals)=false:=by
  obtain z|⟨z,_⟩:=x
  .rw[z];simp[rawInt]
  .rw[z,beq_eq_false_iff_ne];intro C;simp only[rawInt]at C;let T:((⇑s:Nat):Int)=((X.env.locals:Nat):Int):=by injection C
   show aoR g.lt (Int.ofNat.inj T)
 let D:=IX.stack;rw[c]at D;show Ϧ _ _ (noteFrame (.ref e) a) _ _ _;rw[show noteFrame (.ref e) a=noteFrame (.ref e) X.env by rw[<-n];rfl];show U6 (base:=X.base) (IX.ok.frames<|>(by rw[c])) D i M l λh' t N y U=>?_
 let#[m,E,_]:=J.loc;show u H' _ e t cls d (by rw[<-n];show i) (IX.noted (by rw[c];show N) λb j=>(f b j).1) (by rw[v];show g.fpOk (Ϭ _) J.free) #[m,?_] U (λb j=>?_) q
 .rw[v];let#[o,W,Y,Z,hr]:=E;show#[o,W,Y,N.keep _ _ Z (λz=>?_) (λz=>(f _ z).2 rfl),hr];rw[<-c]at z;rcases aaF.mp (g.stkSub _ z)with e|e
  .show aiA _ (e▸g.lt)
  .show g.nofs (Ϭ _) e
 .rw[v];obtain z|z:=aaF.mp j
  .subst z;show f _ abD
  .let z':b=t:= ~~~z
   subst z';show#[#[IX.hok.fresh y,IX.ch (ajw y)],λz=>aiA _ (aco E.lt (z▸y))]
def akD(B:bZ X Kx)(l:C.frame=↑X.env.locals)(I:Inv X ϵ σ H' s')(D:bN X ϵ H' C.locals)(i:∃m,s'.heap.Ns C.locals m)(F:bO s'.heap e cls d ↑t (rawInt X.env.locals))(ch:∀b∈[e,t],(H' b=none/\Ch X ϵ b)/\b≠C.locals)(q:Kx σ cls d H'):uw ∅ X.A X.xe use Q j C (.error (.ref e)) s':=by
 let#[m,i]:=i;let#[E,G,f2,H,J,L]:=D;let c:∃m,s'.heap.Ns C.locals m/\∀h',amn C.locals s'.heap h'->Ϧ ∅ X.A (passOn "comprehension.variables-let-go" (.ref e) C:Sem ε) (λ_ _=>False) X.xe {s' with heap:=h'}:=by
  show#[m,i,λh' a=>?_];let M:Inv X ϵ σ H' {s' with heap:=h'}:=I.turned (t':=s'.toks) (λb o f e=>a.extBut b o f e) E G H J L;let O:bO h' e cls d ↑t (rawInt X.env.locals):=by
   let#[P,vs,R,S,p,hd,h1,U,h2,W]:=F;show#[P,vs,a.extBut _ _ (ch e (by simp)).2 R,S,p,hd,h1,U,h2.stay (λv o ws hv u x=>#[o,ws,a.extBut _ _ (λz=>by
    let#[_,_,_,y,g,_]:=i;rw[<-z,u]at y;cases y;rw[x]at g;cases g) u,x,rfl]),λT Y=>?_]
   cases Y;let#[Z,oT,ws,t1,t2,t3]:=W t rfl;show#[Z,oT,ws,a.extBut _ _ (ch t (by simp)).2 t1,t2,t3]
  show anv (s:={s' with heap:=h'}) l O λh2 N F3=>?_
  show B ϵ σ H' _ e cls d #[M.noted (ch:=[t]) #[λb o q _ n=>N.keep b o q (by simp) n,N.slot,N.there] λb f=>?_,↑t,_,F3,.inr #[rfl,rfl],λb f=>(ch b (~~~f)).1] q;let z:b=t:= ~~~f
  subst z;show(ch b (by simp)).1
 cases use<;>show c
def aoG(g:bZ X Kx)(i:X.stack=X.env::X.outer)(l:X.env.frame=↑X.env.locals)(n:apS (.ListComp elt [#[tg,iter,ifs,0]] scope pos) ↑(.Name y py) spos.line X.env=pure true)(hc:X.calm=true)(S:cJ X.env scope)(hs:∀x,foldedSetIterable iter X.env x=pure x)(hN:X.N.Nodup)(hi:nameAt X.N y=↑j)(U:X.env.scope.names.lookup y=↑.local)(h:EI X tg iter σ H λJ H1=>∀(fp:List δ)(E C:δ)(f:μ)(F:ε->μ->Prop),H1 E=none->bZ (eQ X N' scope (Ϙ scope X.env) C f (upd H1 E (.lst [])) fp F) (λ_=>Kx σ)->j6 X (eQ X N' scope (Ϙ scope X.env) C f (upd H1 E (.lst [])) fp F) tg elt ifs J E (cL N' X.N σ scope) H1 (λH'=>D.nx (σ.set j ↑(.ref E)) H')):SX X (.Assign [.Name y py] (.ListComp elt [#[tg,iter,ifs,0]] scope pos) spos) D σ H:=by
 intro ϵ s I;rw[exec_Assign_Name_used _ _ _ _ n];show π (amU (π ?_));show Ϧ _ X.A (do let _<-comprehension (.ListComp elt [#[tg,iter,ifs,0]] scope pos) scope X.env _ (newList []) false (eval iter X.env) ↑(assign (.Name y py) X.env)) _ _ s;show π (adq (Dv (use:=↑(assign (.Name y py) X.env)) (Q:=λ_ s'=>SP X ϵ D .next s') rfl hs (Jw (S.has I)) S.kind S.loc
  (υ (h ϵ s I) λv s1 h1=>υ h1 λitv s2 h2=>?_)) (λ_ s' hq=>ϯ (ϯ hq)) λ_ _ e=>e)
 let#[it,fp,tn,J,H2,e,I2,T,p,f2,q2]:=h2;subst e;show JN _ (R:=λu C=>uw ∅ X.A X.xe ↑(assign (.Name y py) X.env) (λ_ s'=>SP X ϵ D .next s') u C) (Q:=λE H'=>D.nx (σ.set j ↑(.ref E)) H') hc S I2 T p f2 (λ_ _ _ _ z=>z) (λE f W I3 B tX=>q2 fp E _ f _ W (agu rfl i l I3 B tX λH' s' e t cls d G IX L c F ch q=>akD g G IX L c F ch q)) λE C H' s' W qD IX L c=>?_
 let#[m,c]:=c;let#[f0,Y,Xi,B,Z,f5]:=L;show Ϧ _ _ (assign (.Name y py) X.env (.ref E)) _ _ _*>wpAny_assign_Name (rC IX hN (lO hi) (.inl U) (v:=.ref E) rfl (λM Jb O=>?_) (.inr U));let#[a,sb,ha]:=O;let JK:C.locals≠a:=by
  obtain ha|ha:=ha
  .rw[ha];show Y
  .intro z;show Z y a ha z.symm
 show#[m,c.sameBut sb JK,λh' P=>#[σ.set j ↑(.ref E),H',Jb.turned (t':=M.toks) (λb o O e=>P.extBut b o O e) f0 Y B Z f5,qD]]
end
def Yp(X:Cx)(N':List Str)(scope:ahD)(tg elt:Ϫ)(σ σ':St)(Kx:St->XK)(H1:Hp)(Q:VK)(n:Nat)(G:Nat->Hp->V->Hp->Prop):Prop:=
 ∃(f:St->Prop)(a:δ->Nat->V->Hp->Prop),f σ'/\
  (∀E i v H2 c ys,H2 E=↑(.lst ys)->(∀b o,b≠E->H2 b=↑o->c b=↑o)->a E i v H2->a E i v c)/\
  (∀(fp:List δ)(E C:δ)(g:μ)(j:Hp)(F:ε->μ->Prop)(i:Nat)(l:St)(x:V)(H2 c:Hp),bZ (eQ X N' scope (Ϙ scope X.env) C g j fp F) (λ_=>Kx σ)->H1 E=none->i<n->f l->ζ H1 H2->(∃ys,H2 E=↑(.lst ys)/\↥ys=i/\∀k v,ys[k]?=↑v->a E k v H2)->G i H2 x c->
   EG (eQ X N' scope (Ϙ scope X.env) C g j fp F) tg x l c λe p=>EV (eQ X N' scope (Ϙ scope X.env) C g j fp F) elt e p λv m=>f e/\a E i v m/\ζ H2 m)/\
  ∀(E:δ)(H2:Hp)(xs:List V),H1 E=none->↥xs=n->(∀i v,xs[i]?=↑v->a E i v H2)->H2 E=↑(.lst xs)->ζ H1 H2->Q (.ref E) H2
def aeL(f:n<=ϰ)(go:∀i H2,ζ H H2->i<n->J.go i H2)(stop:∀H2,ζ H H2->J.stop n H2)(g:∀i H2 x e,i<n->ζ H H2->J.yld i H2 x e->G i H2 x e)(h:Yp X N' scope tg elt σ σ' Kx H Q n G):∀(fp:List δ)(D C:δ)(a:μ)(F:ε->μ->Prop),H D=none->bZ (eQ X N' scope (Ϙ scope X.env) C a (upd H D (.lst [])) fp F) (λ_=>Kx σ)->j6 X (eQ X N' scope (Ϙ scope X.env) C a (upd H D (.lst [])) fp F) tg elt [] J D σ' H (λH'=>Q (.ref D) H'):=by
 intro fp E C a F c xo;let#[j,m,t0,mono,step,fin]:=h;show Ni n f j t0 (m E) c (λi v H1 H2 ys=>mono E i v H1 H2 ys) go stop (λi o x H1 H2 hi p hs q y=>step fp E C a _ F i o x H1 H2 xo c hi p hs q (g i H1 x H2 hi hs y)) λH1 xs l u z s=>fin E H1 xs c l u z s
def amD(N':List Str)(c:cL N' X.N σ scope=σ')(f:bZ X Kx)(g:X.stack=X.env::X.outer)(m:X.env.frame=↑X.env.locals)(n:apS (.ListComp elt [#[tg,e,[],0]] scope pos) ↑(.Name y py) spos.line X.env=pure true)(p:X.calm=true)(S:cJ X.env scope)(hs:∀x,foldedSetIterable e X.env x=pure x)(u:X.N.Nodup)(hi:nameAt X.N y=↑j)(z:X.env.scope.names.lookup y=↑.local)(h:EV X e σ H λv H1=>∃l xs,v=.ref l/\θ X.K H1 l xs/\↥xs<=ϰ/\Yp X N' scope tg elt σ σ' Kx H1 (λv H'=>D.nx (σ.set j ↑v) H') ↥xs λi H2 x o=>xs[i]?=↑x/\H2=o):SX X (.Assign [.Name y py] (.ListComp elt [#[tg,e,[],0]] scope pos) spos) D σ H:=by
 show aoG (N':=N') f g m n p S hs u hi z (uO (Ϣ h λv H1 q=>?_));let#[l,xs,rfl,a,B,C]:=q;show#[l,rfl,#[xs,a],?_];rw[c];show aeL (J:=kJ X.K l) (Q:=λv H'=>D.nx (σ.set j ↑v) H') B (λi H2 s hi=>#[xs,xs[i],ζ.seq s a,aah hi]) (λH2 s=>#[xs,ζ.seq s a,Ϭ _]) (λi H2 x o hi s y=>#[y.2 xs (ζ.seq s a),y.1.symm]) C
def K7{K:ϩ}(h:jV K C L=true):∃cd,as6 K C=↑cd/\cd.hasDict=true/\cd.mro=.ref C:: .ref L::fu:=by
 let#[cd,h1,h2]:=atn h;rw[aaK,beq_iff_eq]at h2;show#[cd,h1,h2.1,h2.2]
section
variable{prog:ϱ}{w:ϭ}{A:ϴ}{E:ε->μ->Prop}{s:μ}{K:ϩ}{x C L:δ}{ox:Obj}{vs:Array ε}{name:Str}{v:ε}
def aiO(X:K.In s.heap)(n:s.heap.get? x=↑ox)(q:ox.cls=.ref C)(u:ox.data=.fields vs)(hd:ox.dict=none)(hs:afO K (.ref C) "__setattr__"=some ↑(.builtin "object.__setattr__"))(R:jV K C L=true)(S:asq K C name=↑none)(h:∀h' tk,h'.get? x=some {ox with dict:=↑⇑s}->h'.Ns1 ⇑s (λy=>if y=name then some v else none)->(∀b o,b≠x->s.heap.get? b=↑o->h'.get? b=↑o)->Q PUnit.unit {s with heap:=h',toks:=tk}):Ϧ (Ϩ prog w) A (setAttr (.ref x) name v) Q E s:=by
 let#[cd,g,z,f]:=K7 R;let I:atm s.heap x ox C none:=#[n,q,by unfold auI;rw[u],by rw[hd];trivial];show W.set_plain X I hs ?_;let i:=F.store_object;let sub:aus (Ϩ prog w) s.heap (isInstance (.ref x) (.type "object")) true:=I.type.andThen (aut X (by unfold aon;rw[g,arZ,f];rfl));show apl i.slot.plain i.entry (@W.check_slot (Ϩ prog w) _ _ {s with toks:=s.toks+1} "object.__setattr__" "object" "__setattr__" (.ref x) [.str name s.toks,v] [] _ i.kind i.split sub (i.args (.ref x) (.str name s.toks) v) ?_);let#[attr,T,U]:=Option.bind_eq_some_iff.mp S;let B:aus (Ϩ prog w) s.heap (mroOf (.ref C)) cd.mro:=(atD X g).andThen .now;let Y:aus (Ϩ prog w) s.heap (Builtin.ObjectAttr.storeTaker? attr) none:=by
  cases attr with
  |none=>show .now
  |some a=>
   let#[b,p,e]:=aoq.mp U;show(W.looks_takesIn X p).andThen ?_;cases b
   .show .now
   .cases e
 rw[W.osa_eq,refuse_eq];show π (π (W.Looks.here (s:={s with toks:=s.toks+1}) I.type (π (W.Looks.here (s:={s with toks:=s.toks+1}) B ?_))));rw[f,refuseLoop_ref,refuseLoop_ref,F.store_ValueError.passes];show ϯ (π (W.Looks.here (s:={s with toks:=s.toks+1}) I.type (π (W.Looks.here (s:={s with toks:=s.toks+1}) (asM X T) (π (W.Looks.here (s:={s with toks:=s.toks+1}) Y ?_))))));let#[oc,od,Z,D]:=ox;dsimp only at q u hd;subst q u hd;show π (ϯ (π (π (wpAny_loadPart (s:={s with toks:=s.toks+1}) n (π (W.Looks.here (s:={s with toks:=s.toks+1}) (atD X g) ?_))))));rw[z];rw[if_neg (by decide)];show Ϧ _ _ (if(!true|| !typeHasDict (Value.ref C))=true then pure none else(alloc {cls:=.type "dict",data:=.dict #v[]}>>=λd=>update x (λo=>{o with dict:=↑d})>>=λ_=>dictMade (Value.ref C) x d)) _ _ _;rw[if_neg (by simp[typeHasDict])];let c:(s.heap.push {cls:=.type "dict",data:=.dict #v[]}).get? x=some {cls:=.ref C,data:=.fields vs,slots:=D}:=ϲ _ n;let j:x≠⇑s:=adb (abN n);show π (wpAny_alloc (s:={s with toks:=s.toks+1}) ?_)*>π (wpAny_update (s:={s with heap:=s.heap.push {cls:=.type "dict",data:=.dict #v[]},toks:=s.toks+1}) c ?_)*>ϯ ?_;let G:((s.heap.push {cls:=.type "dict",data:=.dict #v[]}).update x λo=>{o with dict:=↑⇑s}).get? ⇑s=some {cls:=.type "dict",data:=.dict #v[]}:=
  (aqj _ _ _ _ j.symm).trans (atP rfl rfl)
 let H:((s.heap.push {cls:=.type "dict",data:=.dict #v[]}).update x λo=>{o with dict:=↑⇑s}).Ns ⇑s (λ_=>none):=
  #[_, #v[],_,G,rfl,λe he=>absurd he (by simp),λ_=>rfl]
 show Ϧ _ _ (Builtin.ObjectAttr.storeInDict ⇑s (.str name s.toks) name v) _ _ _;unfold Builtin.ObjectAttr.storeInDict Builtin.ObjectAttr.newKeyGuard;show π (ϯ (π (wpAny_nsSet1 (s:={s with heap:=(s.heap.push {cls:=.type "dict",data:=.dict #v[]}).update x λo=>{o with dict:=↑⇑s},toks:=s.toks+1}) (Heap.Ns1.of_empty H) λh' l m=>?_)));let#[oD,esD,epD,J,M,O]:=l.count (Within.cons name v Within.nil);show π (wpAny_lookBehind J (by rw[M];show pastItsLine_dict (afT O (by rw[abU,aqN,Ϯ];omega))) ?_)*>ϯ (h h' _ ?_ l λb ob P p=>?_)
 .show(m.2 x j).trans (aeP _ c rfl)
 .show(m.2 b (adb (abN p))).trans ((aqj _ _ _ _ P)<|>(ϲ _ p))
end
theorem Wb{K:ϩ}{h:ϫ}(kin:K.In h)(e:nR K C f=true):∃bm N nm q bs hdct sn sub ab col dd k0 k1 k2 k3 k5 mN,h.get? C=↑(excClassObj nm q C N bs bm hdct sn sub ab col dd k0 k1 k2 k3 k5 "ValueError.__new__")/\h.Ns N mN/\mN "__init__"=↑(.ref f)/\OwnTail h fu bm:=aaQ kin e
section
variable{prog:ϱ}{w:ϭ}{A:ϴ}{E:ε->μ->Prop}{h:ϫ}{g:Array GenState}{d:Drawn}{t:Nat}{os:OsState}
variable{nm q:Str}{C N x:δ}{bs bm:List ε}{hdct:Bool}{sn:List Str}{sub:List ε}{ab:Bool}{col:Option Bool}{dd:Option δ}{k0 k1 k2 k3 k5:Option ε}{ox:Obj}{vs:Array ε}{v:ε}
def an5(T:OwnTail h fu bm)(e:h.get? C=↑(excClassObj nm q C N bs bm hdct sn sub ab col dd k0 k1 k2 k3 k5 "ValueError.__new__"))(c:h.get? x=some {cls:=.ref C,data:=.fields #v[.ref t0,.none,.none,.none,.bool false,.none]})(f:∀h' i,h'.get? x=some {cls:=.ref C,data:=.fields #v[.ref i,.none,.none,.none,.bool false,.none]}->(∀b o,b≠x->h.get? b=↑o->h'.get? b=↑o)->Q .none #[h',g,d,t,os]):Ϧ (Ϩ prog w) A (call (.builtin "ValueError.__init__") [.ref x,v]) Q E #[h,g,d,t,os]:=by
 let a:=F.excBase_ValueError;show api (apl a.init.plain a.initEntry (wpAny_check_init_subT a T e c rfl ?_))
 wp_walk
 show f _ h.objs.size ?_ λb o j q=>?_
 .rw[aeP _ (ϲ _ c) rfl];rfl
 .rw[acO<*(Ne.symm j)];show ϲ _ q
def amg{rest:List ε}{fI:δ}{oI:Obj}{Q:Fin->μ->Prop}(T:OwnTail h fu bm)(m:h.get? C=↑(excClassObj nm q C N bs bm hdct sn sub ab col dd k0 k1 k2 k3 k5 "ValueError.__new__"))(y:h.Ns N mN)(hi:mN "__init__"=↑(.ref fI))(s:h.get? fI=↑oI)(u:oI.cls=.type "function")(z:∀h' e,atr h h' e (.ref C) rest->Ϧ (Ϩ prog w) A (call (.ref fI) (.ref e::rest)) (λr s'=>r=.none/\Q (.done (.ret (.ref e))) s') E #[h',g,d,t,os])(i:↥rest<=ϰ):Ϧ (Ϩ prog w) A (aox.«type.__call__» #[.ref C::rest,[]]) Q E #[h,g,d,t,os]:=by
 let n:=F.excBase_ValueError
 repeat (first|with_reducible show aoP m ?_|with_reducible show wpAny_madeBy_exc m ?_|wp_step)
 show codeAny_call_builtin_code (Code.quiet_builtin _ n.quiet) (wpAny_check_new_subT n T m ?_)*>codeAny_exc_new_subT n T m ?_ i*>Ϧ _ _ _ _ _ _;generalize j:(h.push {cls:=.type "tuple",data:=.seq rest.toArray}).push {cls:=.ref C,data:=.fields #v[.ref h.objs.size,.none,.none,.none,.bool false,.none]}=h1;let a:∀b o,h.get? b=↑o->h1.get? b=↑o:=λb o e=>by rw[<-j];show ϲ _ (ϲ _ e)
 let c:=a _ _ m;let l:h1.Ns N mN:=let⟨o,es,ep,e,r⟩:=y;#[o,es,ep,a<*e,r];let f:h1.get? (h.objs.size+1)=some {cls:=.ref C,data:=.fields #v[.ref h.objs.size,.none,.none,.none,.bool false,.none]}:=by rw[<-j];heap_get
 let v:(Value.ref C::bm).contains (.ref C)=true:=by simp
 let p:=T.keeps a;unfold isInstance
 repeat (first|with_reducible show aoP f ?_|(with_reducible show wpAny_isSubtype_exc c ?_;rw[v])|wp_step)
 show Ϧ _ _ (typeLookup (.ref C) _) _ _ _*>wpAny_typeLookup_tail c l p n.mroIs n.init.lookup ?_;rw[hi];show aez (π ?_);unfold bindSpecial;show π (wpAny_typeOf (T:="function") #[_,a<*s,u] ?_);rw[if_pos (by decide)];show ϯ (π (adq (z h1 (h.objs.size+1) #[a,ajw (aoY _),h.objs.size,f,ajw (Ϭ _),?_]) (λr s' B=>?_) λ_ _ x=>x))
 .rw[<-j];show ϲ _ (atP rfl rfl)
 .let#[rfl,D]:=B
  wp_walk
  show D
def ah8{rest:List ε}{fI:δ}{oI:Obj}{Q:ε->μ->Prop}(T:OwnTail h fu bm)(c:h.get? C=↑(excClassObj nm q C N bs bm hdct sn sub ab col dd k0 k1 k2 k3 k5 "ValueError.__new__"))(j:h.Ns N mN)(hi:mN "__init__"=↑(.ref fI))(f:h.get? fI=↑oI)(i:oI.cls=.type "function")(l:∀h' e,atr h h' e (.ref C) rest->Ϧ (Ϩ prog w) (A.under (.builtin "type.__call__" #[.ref C::rest,[]])) (call (.ref fI) (.ref e::rest)) (λr s'=>r=.none/\Q (.ref e) s') E #[h',g,d,t,os])(a:↥rest<=ϰ):Ϧ (Ϩ prog w) A (call (.ref C) rest) Q E #[h,g,d,t,os]:=by
 let m:=tc_lookup;let n:=tc_bind (.ref C);let o:(#[h,g,d,t,os]:μ).TypeIs (.ref C) "type":=#[_,c,rfl];show api (codeAny_of_tree ?_)*>Ϧ _ _ (callAny (.ref C) _) _ _ _
 repeat (any_goals (first|assumption|with_reducible show aoP c ?_|wp_step))
 show#[rfl,?_]*>codeAny_call_builtin_at (Code.quiet_builtin _ (by fin2)) entry_typeCall (wpAny_check_type_call_sub c (amg T c j hi f i l a))
end
def aj5(c:bm.contains (.type "BaseException")=true)(l:A.handled=none)(h:Ϧ M A x (λv a=>∃e t D,v=.ref e/\a.heap.get? C=↑(excClassObj nm q C N bs bm hdct sn sub ab col dd k0 k1 k2 k3 k5 "ValueError.__new__")/\
   a.heap.get? e=some {cls:=.ref C,dict:=D,data:=.fields #v[.ref t,.none,.none,.none,.bool false,.none]}/\E (.ref e) a) E s):Ϧ M A (raiseStmt env ↑x none) Q E s:=by
 let i:(Value.ref C::bm).contains (.type "BaseException")=true:=by rw[aov,c,Bool.or_true]
 unfold raiseStmt;show π (adq h (λv a f=>?_) λ_ _ x=>x);let#[e,t,D,rfl,j,m,n]:=f;let#[o,g,d,tk,os]:=a
 repeat (first|with_reducible show aoP m ?_|with_reducible show aoP j ?_|(with_reducible show wpAny_isSubtype_exc j ?_;rw[i])|wp_step)
 show wpAny_raiseNew_none l n
def xo(e C:δ)(D:Option δ):HO:=.ext λh=>∃t,h.get? e=some {cls:=.ref C,dict:=D,data:=.fields #v[.ref t,.none,.none,.none,.bool false,.none]}
def jF(H:Hp)(e:δ):Hp:=λb=>if b=e then none else H b
def jg(h:b≠e):jF H e b=H b:=by unfold jF;rw[if_neg h]
def QQ:jF H e e=none:=by unfold jF;rw[if_pos rfl]
theorem Jv(q:h.get? e=some {cls:=.ref C,dict:=D,data:=.fields #v[.ref t,.none,.none,.none,.bool false,.none]}):ϟ P w H h e (xo e C D):=
 #[#[t,q],#[_,q],λh1 h2 z k=>by let#[t,q]:=z;show #[t,k _ q]]
section
variable{X:Cx}{ϵ:List (δ×Obj)}{σ:St}{H:Hp}{s:μ}{e:δ}{φ:ϫ->Prop}
def Inv.adopt(I:Inv X ϵ σ H s)(a:H e=none)(c:Ch X ϵ e)(ok:ϟ X.prog X.w (upd H e (.ext φ)) s.heap e (.ext φ)):Inv X ϵ σ (upd H e (.ext φ)) s:=by
 let ne:∀b u,H b=↑u->b≠e:=λb u q=>Ω q a
 have:=I.step (h':=s.heap) (H':=upd H e (.ext φ)) (g':=s.gens) (d':=s.drawn) (t':=s.toks) (ch:=[e]) (λb f=>?_) (λb o _ _ _ q _=>q) (λb o _ _ _ q _=>#[o.slots,q]) (λb o g _ n=>?_) (λb o _ q=>#[o,q]) (λb xs q=>?_) (λb o u q=>?_) (λb ps q=>?_) (λm q=>q) (λb u q=>?_) I.bare
 .show this
 .let z:b=e:= ~~~f
  subst z;show c
 .rw[ι (λz=>g (by simp[z]))];show n
 .rw[ι (ne<*q)];show q
 .rw[ι (ne<*q)];show q
 .show#[#v[],by rw[ι (ne<*q),q];simp]
 .by_cases z:b=e
  .subst z;rw[ο]at q;cases q;show ok
  .rw[ι z]at q;show(I.hok b u q).stay (λ_ _ _ r=>r) (λc r=>by rw[ι (ne<*r)];show r) (λc xs r=>by rw[ι (ne<*r)];show r) λc i v r=>by rw[ι (ne<*r)];show r
def Inv.forget(I:Inv X ϵ σ H s)(a:H e=↑(.ext φ))(c:Ch X ϵ e):Inv X ϵ σ (jF H e) s:=by
 have:=I.step (h':=s.heap) (H':=jF H e) (g':=s.gens) (d':=s.drawn) (t':=s.toks) (ch:=[e]) (λb f=>?_) (λb o _ _ _ q _=>q) (λb o _ _ _ q _=>#[o.slots,q]) (λb o g _ n=>?_) (λb o _ q=>#[o,q]) (λb xs q=>?_) (λb o u q=>?_) (λb ps q=>?_) (λm q=>q) (λb u q=>?_) I.bare
 .show this
 .let z:b=e:= ~~~f
  subst z;show c
 .rw[jg (λz=>g (by simp[z]))];show n
 .rw[jg (λz=>by rw[z,a]at q;cases q)];show q
 .rw[jg (λz=>by rw[z,a]at q;cases q)];show q
 .show#[#v[],by rw[jg (λz=>by rw[z,a]at q;cases q),q];simp]
 .by_cases z:b=e
  .subst z;rw[QQ]at q;cases q
  .rw[jg z]at q;show(I.hok b u q).stay (λ_ _ _ r=>r) (λc r=>by rw[jg (λz=>by rw[z,a]at r;cases r)];show r) (λc xs r=>by rw[jg (λz=>by rw[z,a]at r;cases r)];show r) λc i v r=>by rw[jg (λz=>by rw[z,a]at r;cases r)];show r
end
def Ls(C:δ)(fld:Str):Sp:=λvs H Q _=>∃e n,vs=[.ref e,.int n]/\n.natAbs<10^60/\H e=↑(xo e C none)/\
 ∀D H',D≠e->H D=none->(∀b o,b≠e->H b=↑o->H' b=↑o)->H' e=↑(xo e C ↑D)->H' D=↑(.xd [(fld,.int n)])->Q .non H'
section
variable{X:Cx}{σ:St}{H:Hp}{Q:VK}{D:Ends}{Lx x f fld:Str}{np apos pos pos' cpos:Pos}{a o value:Ϫ}{es:List Ϫ}{Kx:St->XK}
def Em{pl:Sem Bool}(B:XBase X.K X.mg Lx)(h:EA X (a::es) σ H λvs H1=>CL X (.builtin "ValueError.__init__") vs H1 Q)(j:Gl X Lx:=by rfl)(hd:(Lx==("__debug__":Str))=false:=by decide)(e:ϳ (a::es) X.env=(false,eval a X.env)::ϳ es X.env:=by rfl)(g:(backTo pos (ϳ es X.env)).any (·.1)=false:=by rfl)(l:eval (.Call (.Attribute (.Name Lx np) "__init__" apos) (a::es) [] pos) X.env=(do
   let i<-eval (.Name Lx np) X.env
   standAt apos.atName
   let(f,first)<-holding [i] (getMethod i "__init__" pl)
   callWith pos f first (backTo pos (ϳ (a::es) X.env)) (backToKw pos (keywordEach [] X.env))):=by rfl):EV X (.Call (.Attribute (.Name Lx np) "__init__" apos) (a::es) [] pos) σ H Q:=by
 intro ϵ s I;show asu (pl:=pl) (lK I j B.at_ ?_ hd) l*>W.method_cls I.kIn B.ga (W.cls_value I.kIn B.reads B.ini (by fin2) ?_);let m:=I.tok (s.toks+1);let h':=h pos ϵ _ m;rw[e]at h'⊢;show Calls.callWith_builtin (by show(false||(backTo pos (ϳ es X.env)).any (·.1))=false;rw[g];rfl) (Calls.evalArgs_plain ?_)*>υ h' λus n o=>?_
 let#[vs,H2,p,q,c,h1,u]:=o;show h1 ϵ n σ H2 vs us Q p q u
def HN(hi:nR X.K C i=true)(a:H e=↑(xo e C none))(q:Q .non H):CL X (.builtin "ValueError.__init__") [.ref e,v] H Q:=by
 show cP (r:=λxs H Q=>∃e v,xs=[.ref e,v]/\H e=↑(xo e C none)/\Q .non H) ?_ #[e,v,rfl,a,q];intro ϵ s σ H xs us Q I r h;let#[e,v,rfl,a,q]:=h;let#[j,y,rfl,r1,B]:=vals2 r;cases(show j=Value.ref e from r1);let#[bm,N,nm,D,bs,hdct,sn,sub,ab,col,dd,k0,k1,k2,k3,k5,mN,l,E,m,T]:=Wb I.kIn hi;let#[#[t,p],_,_]:=I.hok e _ a;let#[F,g,d,tk,os]:=s;show an5 T l p λh' G h1 k=>?_
 let f:=I.write (x:=e) (e:=e) (o:=xo e C none) (h':=h') (t':=tk) (by rw[a];trivial) (.inl rfl) (λb u n q=>k b u n q) #[_,h1] (Jv h1);let c:upd H e (xo e C none)=H:=by
  funext b;unfold upd;split
  .rename_i z;rw[z,a]
  .rfl
 rw[c]at f;show#[.non,H,f,rfl,q]
def Jr(hs:afO X.K (.ref C) "__setattr__"=some ↑(.builtin "object.__setattr__"))(O:jV X.K C L=true)(P:asq X.K C f=↑none)(h:EV X value σ H λy H1=>EV X o σ H1 λx H2=>∃e,x=.ref e/\H2 e=↑(xo e C none)/\∀E',H2 E'=none->E'≠e->D.nx σ (upd (upd H2 E' (.xd [(f,y)])) e (xo e C ↑E')))(B:apS value ↑(.Attribute o f pos') pos.line X.env=pure false:=by rfl):SX X (.Assign [.Attribute o f pos'] value pos) D σ H:=by
 intro ϵ s I;show plainObj_wpAny_Assign_Attribute (υ (h ϵ s I) λu Q _u=>_Z.e23 _u λy H1 R ry q=>υ (q ϵ Q R) λS g T=>?_) B;let#[x,H2,i,rx,e,ex,a,U]:=T;subst ex;obtain rfl:S=Value.ref e:=rx;let#[#[t,E],_,_]:=i.hok e _ a;show aiO i.kIn E rfl rfl rfl hs O P λh' tk J W l=>?_
 let p:H2 ⇑g=none:=i.hok.fresh (Ϭ _);let Y:⇑g≠e:=λz=>by rw[z]at p;rw[p]at a;cases a
 let ne:∀b u,H2 b=↑u->u≠xo e C none->b≠e:=λb u q n z=>by rw[z,a]at q;cases q;show n rfl
 let j:∀b u,H2 b=↑u->b≠⇑g:=λb u q=>Ω q p
 show#[σ,_,?_,U ⇑g p Y]*>i.step (h':=h') (g':=g.gens) (d':=g.drawn) (t':=tk) (ch:=[]) (λb Z=>absurd Z (by simp)) (λb o _ _ _ q n=>l b o (λz=>by rw[z,a]at n;cases n) q) (λb o _ _ _ q n=>#[o.slots,l b o (λz=>by rw[z,a]at n;cases n) q]) (λb o _ q n=>?_) (λb o _ q=>?_) (λb xs q=>?_) (λb o u q=>?_) (λb ps q=>?_) (λm F=>?_) (λb u q=>?_) i.bare
 .rw[ι (λz=>by rw[z,a]at n;cases n),ι (adb (abN q))];show n
 .by_cases z:b=e
  .subst z;show#[_,J]
  .show#[o,l b o z q]
 .rw[ι (ne _ _ q (λz=>nomatch z)),ι (j<*q)];show q
 .rw[ι (ne _ _ q (λz=>nomatch z)),ι (j<*q)];show q
 .show#[#v[],by rw[ι (ne _ _ q (λz=>nomatch z)),ι (j<*q),q];simp]
 .let#[o,es,ep,ho,r]:=F;show#[o,es,ep,l _ _ (λz=>by have:=i.free;rw[z,a]at this;cases this) ho,r]
 .by_cases z:b=e
  .subst z;rw[ο]at q;cases q;show Jv J
  .rw[ι z]at q;by_cases M:b=⇑g
   .subst M;rw[ο]at q;cases q;show#[_,W,λn=>?_];by_cases G:n=f
    .subst G;simp only[if_true,agg,beq_self_eq_true];show ry
    .rw[if_neg G,agg,beq_eq_false_iff_ne.mpr G];trivial
   .rw[ι M]at q;show(i.hok b u q).stay (λc v hc r=>l c v ?_ r) (λc r=>?_) (λc xs r=>?_) λc ob v r=>?_
    .obtain y|y:=hc
     .rw[y];show z
     .show ne _ _ y (λz=>nomatch z)
    .rw[ι (ne _ _ r (λz=>nomatch z)),ι (j<*r)];show r
    .rw[ι (ne _ _ r (λz=>nomatch z)),ι (j<*r)];show r
    .rw[ι (ne _ _ r (λz=>nomatch z)),ι (j<*r)];show r
end
structure tZ(P:ϱ)(w:ϭ)(K:ϩ)(mg:MG)(base:ϫ)(cc:Bool)(k:Nat)(x fld:Str):Prop where
 at_:mg x=↑(.ref (η mg x))
 ex:∃f fd ps oc od osl,dG P w K mg base (bY P w) cc k f fd ps (Ls (η mg x) fld)/\Binds K fd ps []/\nR K (η mg x) f=true/\K.lookup f=some #[oc,od,.func fd,osl]/\oc=.type "function"
def ajM(o:bm.contains (.type "BaseException")=true)(L:A.handled=none)(m:(backTo cpos (ϳ i env)).any (·.1)=false)(hi:mN "__init__"=↑(.ref fI))(y:oI.cls=.type "function")(h:Ϧ (Ϩ prog w) A (eval (.Name x np) env) (λf n=>f=.ref C/\Ϧ (Ϩ prog w) A (evalArgs (.ref C) true (backTo cpos (ϳ i env)) [])
   (λa c=>a.kw=[]/\↥a.pos<=ϰ/\c.heap.get? C=↑(excClassObj nm q C N bs bm hdct sn sub ab col dd k0 k1 k2 k3 k5 "ValueError.__new__")/\c.heap.Ns N mN/\OwnTail c.heap fu bm/\c.heap.get? fI=↑oI/\
    ∀h' e,atr c.heap h' e (.ref C) a.pos->Ϧ (Ϩ prog w) (A.under (.builtin "type.__call__" #[.ref C::a.pos,[]])) (call (.ref fI) (.ref e::a.pos))
     (λr s'=>r=.none/\∃t D,s'.heap.get? C=↑(excClassObj nm q C N bs bm hdct sn sub ab col dd k0 k1 k2 k3 k5 "ValueError.__new__")/\
      s'.heap.get? e=some {cls:=.ref C,dict:=D,data:=.fields #v[.ref t,.none,.none,.none,.bool false,.none]}/\E (.ref e) s') E {c with heap:=h'}) E n) E s):Ϧ (Ϩ prog w) A (exec (.Raise ↑(.Call (.Name x np) i [] cpos) none pos) env) Q E s:=by
 rw[arm_exec_Raise];show π (amU (aj5 (C:=C) (nm:=nm) (q:=q) (N:=N) (bs:=bs) (bm:=bm) (hdct:=hdct) (sn:=sn) (sub:=sub) (ab:=ab) (col:=col) (dd:=dd) (k0:=k0) (k1:=k1) (k2:=k2) (k3:=k3) (k5:=k5) o L ?_))*>π (adq (wpAny_Call_ofName (adq h (λf n j=>?_) λ_ _ x=>x)) (λv H p=>π (amU (ϯ p))) λ_ _ x=>x);let#[rfl,j]:=j;unfold callWith;show π (aez (adq j (λa c l=>π (amU ?_)) λ_ _ x=>x));let#[apos,B]:=a;let#[F,u,I,M,T,G,l]:=l;obtain rfl:B=[]:=F;let#[U,g,d,tk,os]:=c;simp only[m];show π (wpAny_keeperOf_exc I ?_)*>π (ah8 T I M hi G y (λh' e O=>?_) u)*>adq (l h' e O) (λr s' J=>#[J.1,?_]) λ_ _ z=>z
 let#[t,D,P,R,S]:=J.2;show π (aez (wpAny_point (ϯ #[e,t,D,rfl,P,R,S])))
section
variable{X:Cx}{Kx:St->XK}{D:Ends}{σ:St}{H:Hp}{x fld:Str}{np cpos pos:Pos}{e:Ϫ}{es:List Ϫ}{cc bF:Bool}{k k':Nat}
def rF(O:tZ X.prog X.w X.K X.mg X.base bF k x fld)(hr:ϛ cc k' X.A)(G:bF=true->cc=true)(hx:bZ X Kx)(h:EA X (e::es) σ H λvs H1=>∃n,vs=[.int n]/\n.natAbs<10^60/\∀E' H',ζ H1 H'->H' E'=↑(.xd [(fld,.int n)])->Kx σ (.ref (η X.mg x)) (↑E',true) H')(hk:k+1<=k':=by decide)(hc:X.calm=true:=by rfl)(hg:Gl X x:=by rfl)(hd:(x==("__debug__":Str))=false:=by decide)(he:ϳ (e::es) X.env=(false,eval e X.env)::ϳ es X.env:=by rfl)(J:(backTo cpos (ϳ es X.env)).any (·.1)=false:=by rfl):SX X (.Raise ↑(.Call (.Name x np) (e::es) [] cpos) none pos) D σ H:=by
 intro ϵ s I;let#[f,fd,ps,oc,od,L,Fn,j,hi,P,Q]:=O.ex;let#[bm,N,nm,q,bs,hdct,sn,sub,ab,col,dd,k0,k1,k2,k3,k5,mN,hC,hN,R,T]:=Wb I.ok.mod.kin hi;let S:ϛ bF (k+1) X.A:=(hr.mono hk).qJ G;show ajM (C:=η X.mg x) (nm:=nm) (q:=q) (N:=N) (bs:=bs) (bm:=bm) (hdct:=hdct) (sn:=sn) (sub:=sub) (ab:=ab) (col:=col) (dd:=dd) (k0:=k0) (k1:=k1) (k2:=k2) (k3:=k3) (k5:=k5) (mN:=mN) (fI:=f) (oI:=#[oc,od,.func fd,L])
  (T.hasType (by fin2)) (I.ok.hd hc) ?_ R Q (lK I hg O.at_ #[rfl,?_] hd)
 .rw[he];show(false||(backTo cpos (ϳ es X.env)).any (·.1))=false;rw[J];rfl
 .let h':=h cpos ϵ s I;rw[he]at h'⊢;show Calls.evalArgs_plain (υ h' λus l hZ=>?_);let#[vs,H1,g,r,n,U,hn,kq]:=hZ;subst U;let#[u,rfl,ru]:=vals1 r;show#[rfl,ω,g.bk<*hC,hN.keeps g.bk,T.keeps g.bk,g.kIn<*P,λF a M=>?_];let#[t,m1,m2,m3]:=M.there;let c:H1 a=none:=g.hok.free M.new;let i:Ch X ϵ a:=g.ch M.new;let I3:Inv X ϵ σ H1 {l with heap:=F}:=g.kept (t':=l.toks) M.keeps;let W:Inv X ϵ σ (upd H1 a (xo a (η X.mg x) none)) {l with heap:=F}:=I3.adopt c i (Jv m1);let rv:Vals [V.ref a,.int n] [Value.ref a,u]:=.cons rfl (.cons ru .nil);let m:Ls (η X.mg x) fld [V.ref a,.int n] (upd H1 a (xo a (η X.mg x) none)) (λv H'=>v=.non/\∃E',H' a=↑(xo a (η X.mg x) ↑E')/\H' E'=↑(.xd [(fld,.int n)])/\E'≠a/\∀b o,b≠a->H1 b=↑o->H' b=↑o) (λ_ _ _=>False):=
   #[a,n,rfl,hn,ο,λE' H' h1 h2 Y h4 h5=>#[rfl,E',h4,h5,h1,λb o j q=>Y b o j (by rw[ι j];show q)]]
  let hl:↥([Value.ref a,u]:List ε)=↥ps:=by rw[<-↥rv];show Fn.len _ _ _ _ m
  let p:=j {l with heap:=F} [Value.ref a,u] W.kIn (~~~hl);rw[aqM]at p;show api (ajA (Fn.run (X.A.under (.builtin "type.__call__" #[.ref (η X.mg x)::[u],[]])) X.stack {l with heap:=F} _ #[[Value.ref a,u],[]] [Value.ref a,u] [V.ref a,.int n] _ (λ_ _ _=>False) (S.make (η X.mg x) [u] [])
   (W.env0.make (η X.mg x) [u] []) p rv m) λr s' y=>?_)
  cases r with
  |error e=>show(bY.never y).elim
  |ok fl=>
   cases fl with
   |ret v=>
    let#[v',H',Z,rr,U,E',g1,g2,g3,g4]:=W.after y;subst U;let#[#[t',B],_,_]:=Z.hok a _ g1;let I6:=Z.forget g1 i;show#[rr,t',↑E',Z.bk<*hC,B,?_]*>hx ϵ σ _ s' a _ (↑E',true) #[I6,none,.none,#[_,_,B,rfl,rfl,rfl,rfl,by simp,Ctx.yes rfl,λT z=>nomatch z],.inl rfl,λb j=>?_] (kq E' _ (λb o q=>?_) ?_)
    .let z:b=a:= ~~~j
     subst z;show#[QQ,i]
    .let E:b≠a:=Ω q c;rw[jg E];show g4 b o E q
    .rw[jg g3];show g2
   |next=>show False.elim y
   |brk=>show False.elim y
   |cont=>show False.elim y
end
section
variable{prog:ϱ}{w:ϭ}{A:ϴ}{E:ε->μ->Prop}{s:μ}{K:ϩ}{x C:δ}{ox:Obj}{od:Option Obj}{name:Str}{v:ε}
theorem Pz{fill a:Bool}{Q:ε->μ->Prop}(X:K.In s.heap)(I:atm s.heap x ox C od)(c:pO K C)(h:Ϧ (Ϩ prog w) A.in1 (aox.«object.__getattribute__» #[[.ref x,.str name tk],[]]) (λfin s'=>match fin with
   |.done (.ret v)=>Ϧ (Ϩ prog w) A (handedOut v) Q E s'
   |_=>False) (λ_ _=>False) s):Ϧ (Ϩ prog w) A (getAttrBy (.ref x) (.str name tk) fill a) Q E s:=by
 let FB:=F.attrBase_ValueError;let sub:aus (Ϩ prog w) s.heap (isInstance (.ref x) (.type "BaseException")) true:=I.type.andThen (aut X c.mb);unfold getAttrBy;show aez (π (I.type.here (π ((asM X c.ga).here ?_))));dsimp only;let e:(Value.builtin "BaseException.__getattribute__"==Value.builtin "object.__getattribute__")=false:=by fin2
 rw[if_neg (by rw[e,Bool.and_false];show aa5)];unfold getAttrByItsOwn hookBefore;rw[if_pos (show onTheHeap (Value.ref C)=true from rfl)];show π ((asM X c.gt).here ?_)*>π (ap3 (aez ?_));unfold callGetattribute;rw[if_neg (by cases a<;>show aa5)];unfold boundAndCalled;rw[FB.ga.bind];show π (ϯ (api (apl FB.ga.plain F.entry_bexc_ga (@W.check_slot (Ϩ prog w) _ _ s "BaseException.__getattribute__" "BaseException" "__getattribute__" (.ref x) [.str name tk] [] _ (by fin2) (by fin2) sub (F.args_bexc_ga _ _) ?_))))*>adq h (λfin s' z=>?_) λ_ _ z=>z.elim
 rcases fin with(_|_|_|_)|_<;>first|show z|show z.elim
def ab0(X:K.In s.heap)(I:atm s.heap x ox C od)(a:auj K C od name=↑(.value v))(h:Q (.done (.ret v)) s):Ϧ (Ϩ prog w) A (aox.«object.__getattribute__» #[[.ref x,.str name tk],[]]) Q E s:=by
 let c:=W.looks_find (M:=Ϩ prog w) X I a;unfold aox.«object.__getattribute__»;show π (ϯ ?_);dsimp only;show π (ϯ (π (I.type.here (π (c.here ?_)))))*>ϯ h
def anf(c:(as6 K C).isSome=true)(e:afO K (.ref C) name=some ↑a)(f:aih K a "__get__"=some ↑g)(i:asO K a=↑true):auj K C od name=↑(.bind g a):=by
 let#[cd,c]:=anc.mp c;unfold auj;rw[c,arZ,e,arZ];simp[f,i]
def ahJ(X:K.In s.heap)(I:atm s.heap x ox C od)(c:pO K C)(h:Q ↑(.ref C) {s with toks:=s.toks+1}):Ϧ (Ϩ prog w) A (getAttr? (.ref x) "__class__") Q E s:=by
 let a:auj K C od "__class__"=↑(.bind (.builtin "getset_descriptor.__get__") (.builtin "object.__class__")):=anf (by let#[cd,e,_]:=atn c.hd;rw[e];rfl) c.cl c.cg c.ct;let f:=W.looks_find (M:=Ϩ prog w) X I a;unfold getAttr? getAttrBy?;show π (wpAny_mkText (π (ap3 (Pz (s:={s with toks:=s.toks+1}) X I c ?_))));unfold aox.«object.__getattribute__»;show π (ϯ ?_);dsimp only;show π (ϯ (π (W.Looks.here (s:={s with toks:=s.toks+1}) I.type (π (W.Looks.here (s:={s with toks:=s.toks+1}) f ?_)))))*>Ϧ _ _ (holding [.builtin "object.__class__"] (call (.builtin "getset_descriptor.__get__") [.builtin "object.__class__",.ref x,.ref C])>>=ret) _ _ _*>π (aez (api (W.class_get (s:={s with toks:=s.toks+1}) X I c.mo (ϯ ?_))))*>W.handed_on rfl (ϯ h)
theorem aae(c:pO K C):W.KitX K (.ref x) (.ref C) (λh=>∃ox od,atm h x ox C od)where
 ty:=λ_ _ _ ⟨_,_,I⟩=>I.type
 it:=λ_ _ X _=>by
  let#[f,a,_]:=atn c.hd;unfold as6 at a;split at a
  .rename_i m d' g i j;intro o p E' s' k q;unfold isType loadHead;show π (wpAny_loadPart (k<*(X _ _ j)) (ϯ q))
  .cases a
 ne:=λh tp dd s n sl X l=>by
  let#[f,a,_]:=atn c.hd;show akf.mpr λq=>?_
  let e:C=tp:=Value.ref.inj (beq_iff_eq.mp q);subst e;unfold as6 at a;split at a
  .rename_i m d' g i j;let z:=(X<*j).symm.trans l;cases z
  .cases a
 ca:=λX z k=>by let#[_,_,I]:=z;show ahJ X I c k
end
def xw(e C:δ)(D:Option δ):HO:=.ext λh=>∃a vs,h.get? e=↑a/\a.cls=.ref C/\a.dict=D/\a.data=.fields vs
theorem ahj(q:h.get? e=↑a)(c:a.cls=.ref C)(hd:a.dict=D)(f:a.data=.fields vs):ϟ P w H h e (xw e C D):=
 #[#[a,vs,q,c,hd,f],#[_,q],λh1 h2 z k=>by let#[a,vs,q,r]:=z;show #[a,vs,k _ q,r]]
section
variable{X:Cx}{σ:St}{H:Hp}{Q:VK}{e C:δ}{D:Option δ}{k:Bool}
def Inv.inst(I:Inv X ϵ σ H s)(m:H e=↑(xw e C D))(hd:∀E',D=↑E'->∃fs,H E'=↑(.xd fs)):∃ox od,atm s.heap e ox C od/\∀E' fs,D=↑E'->H E'=↑(.xd fs)->∃o,od=↑o/\∃mA:Str->Option ε,(∀f,cV (fs.lookup f) (mA f))/\∀n,aue n o=↑(mA n):=by
 let#[#[g,vs,q,i,a,j],_,_]:=I.hok e _ m;cases D with
 |none=>show#[g,none,#[q,i,by unfold auI;rw[j],by rw[a];trivial],λE' fs z=>nomatch z]
 |some E'=>
  let#[fs,h1]:=hd E' rfl;let#[mA,c,p]:=I.hok E' _ h1;let#[o,u,v]:=abw c;show#[g,↑o,#[q,i,by unfold auI;rw[j],by rw[a];show u],λy x z l=>?_];cases z;rw[h1]at l;cases l;show#[o,rfl,mA,p,v]
def mX(g:pO X.K C)(a:H e=↑(xw e C D))(hd:∀E',D=↑E'->∃fs,H E'=↑(.xd fs))(i:∀f,RelV c f->f=u)(j:apB X.K (.ref C) u=↑k)(q:Q (.bl k) H):CL X (.builtin "isinstance") [.ref e,c] H Q:=by
 show cP (r:=λxs H Q=>xs=[.ref e,c]/\H e=↑(xw e C D)/\(∀E',D=↑E'->∃fs,H E'=↑(.xd fs))/\Q (.bl k) H) ?_ #[rfl,a,hd,q];intro ϵ s σ H xs us Q I r h;let#[rfl,a,hd,q]:=h;let#[l,m,rfl,r1,n]:=vals2 r;cases(show l=Value.ref e from r1);rw[i m n];let#[ox,od,J,_]:=I.inst a hd;show ap1 (aae g) I.kIn #[ox,od,J] j (λz=>nomatch z) λtk=>#[.bl k,H,I.tok tk,rfl,q]
def Jx(n:pO X.K C)(x:afO X.K (.ref C) f=↑none)(B:∀u,RelV v u->auo u=true)(h:EV X o σ H λy H1=>y=.ref e/\H1 e=↑(xw e C ↑E')/\H1 E'=↑(.xd fs)/\fs.lookup f=↑v/\Q v H1)(D:attributeBase o f X.env (eval o X.env)=eval o X.env:=by rfl):EV X (.Attribute o f pos) σ H Q:=by
 intro ϵ s I;show abf D (υ (h ϵ s I) λu i E=>?_);let#[y,H1,j,ry,F,G,p,L,q]:=E;subst F;obtain rfl:u=Value.ref e:=ry;let#[ox,od,J,g]:=j.inst G λO z=>#[fs,by cases z;show p]
 let#[o',rfl,mA,M,l]:=g E' fs rfl p;let a:=M f;rw[L]at a;cases m:mA f with
 |none=>rw[m]at a;cases a
 |some v'=>
  rw[m]at a;let c:RelV v v':=a;unfold getAttr;show π (wpAny_mkText (Pz (s:={i with toks:=i.toks+1}) j.kIn J n (ab0 (s:={i with toks:=i.toks+1}) j.kIn J (aur n.hd x rfl (by rw[l,m])) ?_)))*>W.handed_on (B v' c) #[v,H1,j.tok _,c,q]
end
section
variable{X:Cx}{ϵ:List (δ×Obj)}{σ:St}{H:Hp}{s:μ}{h':ϫ}
def Inv.afj{i:Nat}{m m':MG}{t':Nat}(I:Inv X ϵ σ H s)(E:X.N.Nodup)(hi:X.N[i]?=↑n)(B:σ[i]?=↑none)(F:∀(i:Nat)(x:Str)(v:V),X.N[i]?=↑x->σ[i]?=some ↑v->rA X.env.scope x->∃u,RelV v u/\Look X.env s.heap m x u)(G:h'.Ns X.env.locals m')(J:∀x,x≠n->m' x=m x)(g:∀b o,b≠X.env.locals->s.heap.get? b=↑o->h'.get? b=↑o)(S:∃o,h'.get? X.env.locals=↑o):Inv X ϵ σ H {s with heap:=h',toks:=t'}:=by
 let f:∀b o,X.s₀.heap.get? b=↑o->b≠X.env.locals:=λb o e=>adb (aco (abN e) I.ok.above)
 let a:∀x c,X.env.cells.lookup x=↑c->∀v,s.heap.IsCell c v->h'.IsCell c v:=λx c e v ⟨o,L,hd⟩=>#[o,g c o (I.cne x c e) L,hd]
 show#[I.ok,I.os,I.bare,#[λb o e n C y=>g b o (f b o e) (I.base.keep b o e n C y),λb o e n C y=>?_,I.base.free,λb o e y=>?_,I.base.tups,I.base.frzs,I.base.tbls],#[m',G,λj x v e1 D M=>?_],λx c e=>?_,I.free,I.freeC,λp O=>?_,λb u e=>?_,I.len]
 .let#[sl,e1]:=I.base.slot b o e n C y;show#[sl,g b _ (f b o e) e1]
 .let#[o',e1]:=I.base.there b o e y;show#[o',g b o' (f b o e) e1]
 .let#[u,r,l]:=F j x v e1 D M;show#[u,r,?_];let P:x≠n:=λz=>by
   subst z;have:=Hd E e1 hi;subst this;rw[B]at D;cases D
  obtain l|⟨k,c,e,z⟩:=l
  .show .inl #[l.1,by rw[J x P];show l.2]
  .show .inr #[k,c,e,a x c e _ z]
 .let#[v,z]:=I.cell x c e;show#[v,a x c e v z]
 .let#[e,n,ne,Q,d]:=I.pin p O;show#[g _ _ ne e,n,ne,Q,d]
 .show(I.hok b u e).stay (λc v R q=>g c v ?_ q) (λ_ q=>q) λ_ _ q=>q
  obtain z|z:=R
  .rw[z];show Ω e I.free
  .show Ω z I.free
end
section
variable{K:ϩ}{mg:MG}{Lx x y:Str}
def Gy(h:XC K mg Lx x)(v:ε):aon K (η mg x) v=↑((Value.ref (η mg x):: .ref (η mg Lx)::fu).contains v):=by
 let#[cd,h1,_,h2]:=K7 h.xc;unfold aon;rw[h1,arZ,h2];rfl
def XC.cls(h:XC K mg Lx x):(as6 K (η mg x)).isSome=true:=by
 let#[cd,h1,_,h2]:=K7 h.xc;rw[h1];rfl
def pY.cls(h:pY K mg x):(as6 K (η mg x)).isSome=true:=by
 have:=h.mb;unfold aon at this;cases e:as6 K (η mg x)with
 |none=>rw[e]at this;cases this
 |some cd=>rfl
def Zg(t:ε)(h1:(as6 K C).isSome=true)(h2:asj K (.ref C)=↑(.type "type")):W.kitCls K t (.ref C)=auk K t (.ref C):=by
 show(if((as6 K C).isSome&&asj K (.ref C)==↑(.type "type"))=true then auk K t (.ref C)else none)=_;rw[if_pos];rw[h1,h2];rfl
def ag8(h:XC K mg Lx x)(g:XC K mg Lx y)(ne:η mg x≠η mg y)(a:η mg Lx≠η mg y):auk K (.ref (η mg x)) (.ref (η mg y))=↑false:=by
 show aon K (η mg x) (.ref (η mg y))=↑false;rw[Gy h];let e1:(Value.ref (η mg y)==Value.ref (η mg x))=false:=beq_eq_false_iff_ne.mpr λz=>ne (Value.ref.inj z).symm
 let c:(Value.ref (η mg y)==Value.ref (η mg Lx))=false:=beq_eq_false_iff_ne.mpr λz=>a (Value.ref.inj z).symm
 rw[aov,e1,aov,c];rfl
def ajL(h:XC K mg Lx x):auk K (.ref (η mg x)) (.ref (η mg Lx))=↑true:=by
 show aon K (η mg x) (.ref (η mg Lx))=↑true;rw[Gy h,aov,aov,beq_self_eq_true];cases(Value.ref (η mg Lx)==Value.ref (η mg x))<;>rfl
def anu(h:XC K mg Lx x)(g:XC K mg Lx y)(ne:η mg x≠η mg y)(a:η mg Lx≠η mg y):apB K (.ref (η mg x)) (.ref (η mg y))=↑false:=by
 unfold apB;rw[if_neg (by rw[beq_eq_false_iff_ne.mpr λz=>ne (Value.ref.inj z)];show aa5),Zg _ g.cls g.ty];show ag8 h g ne a
def alc(h:XC K mg Lx x):apB K (.ref (η mg x)) (.ref (η mg x))=↑true:=by
 unfold apB;rw[if_pos (beq_self_eq_true _)]
def ajO(h:XC K mg Lx x):apB K (.ref (η mg x)) (.type "ValueError")=↑true:=by
 unfold apB;rw[if_neg (by rw[beq_eq_false_iff_ne.mpr λz=>by cases z];show aa5)];show(if W.kitMeta "ValueError"=true then auk K (.ref (η mg x)) (.type "ValueError")else none)=↑true;rw[if_pos (by fin2)];show aon K (η mg x) (.type "ValueError")=↑true;rw[Gy h];rfl
def Ir(h:XC K mg Lx x)(b:pY K mg Lx):atE K (.ref (η mg x)) (.ref (η mg Lx))=↑true:=by
 unfold atE;let e:auk K (.ref (η mg Lx)) (.type "BaseException")=↑true:=b.mb;rw[e,if_pos (by decide),Zg _ b.cls b.ty];show ajL h
end
def IW{P:ϱ}{w:ϭ}{K:ϩ}{mg:MG}{base:ϫ}{cc:Bool}{k:Nat}{Lx x qual fld:Str}{st:ϧ}(O:qK K mg Lx x qual fld st)(S:Ν N ps (ς st))(l:∀(kV g pm:ε)(an:Option δ)(c ct:ε)(us:List ε),↥us=↥ps->bindArgs (atq "__init__" qual (lg st) (Ψ st) (ς st) .none kV g pm an c ct) #[us,[]]=pure (ps.zip us))(len:↥ps=2)(body:∀(f:δ)(c:ε)(A:ϴ)(outer:List Env)(s:μ)(H:Hp)(vs:List V)(Q:VK)(E:XK),nR K (η mg x) f=true->ϛ cc k (A.deeper (envOfC qual (ς st) ⇑s f c))->Ls (η mg x) fld vs H Q E->
   Ζ (fD cc P w K mg base N qual (ς st) f c A outer s H E) (Ψ st) {nx:=λ_ H'=>Q .non H',rt:=Q} (start N vs) H):tZ P w K mg base cc (k+1) x fld:=by
 let#[f,fd,F,h1,h2]:=O.ex;let#[oc,od,kV,g,pm,an,c,ct,i,e,lk,m]:=id F.ex;show#[O.at_,f,fd,ps,oc,od,i,yx F S (λvs H Q E h=>by let#[a,n,rfl,_]:=h;show len.symm) λc A outer s H vs Q E o h=>body f c A outer s H vs Q E h1 o h,F.binds l,h1,lk,?_];let p:asj K (.ref f)=↑(.type "function"):=beq_iff_eq.mp h2;let j:Option.map (λx:Obj=>x.cls) (aia f K)=↑(.type "function"):=p;rw[lk]at j;show Option.some.inj j
theorem ags(a:Gl X "ValueError")(c:X.mg "ValueError"=none)(q:Q (.ty "ValueError") H):EV X (.Name "ValueError" pos) σ H Q:=Yy a c (by fin2) q (by decide) (by decide)
abbrev dh(h:ϫ)(T:δ)(a b c:ε):Prop:=h.get? T=some {cls:=.type "tuple",data:=.seq #v[a,b,c]}
theorem an{n a b:Nat}(h:a≠b:=by decide):(n+a:δ)≠n+b:=λe=>h (Nat.add_left_cancel e)
theorem ln{n l:Nat}(h:l<n)(k:Nat):(l:δ)≠n+k:=adb (Nat.lt_add_right k h)
def afh(a b c:ε):checkTypeCall "zip" #[[a,b,c],[]]=pure PUnit.unit:=by kernel_rfl
def aeD(a b c:ε):checkBuiltinCall "zip.__new__" #[[.type "zip",a,b,c],[]]=pure PUnit.unit:=by kernel_rfl
def al7(a b c d:ε):argsOk "object.__init__" #[[a,b,c,d],[]]:=by
 unfold argsOk;rw[signature?_of (id:="object.__init__") (n:=['_', '_', 't', 'i', 'n', 'i', '_', '_']) (o:=['t', 'c', 'e', 'j', 'b', 'o']) (by kernel_rfl) F.owner_object];kernel_rfl
def Ew(e:dh s.heap T a b c)(h:∀h',h'.get? T=some {cls:=.type "tuple",data:=.seq ((#v[a,b,c]:Array ε).setIfInBounds k x)}->amn T s.heap h'->Q PUnit.unit {s with heap:=h'}):Ϧ (Ϩ prog w) A (updateSeq T (·.setIfInBounds k x)) Q E s:=by
 show wpAny_updateSeq e rfl (h _ ?_ (Heap.SameBut.update ..));rw[aeP _ e rfl];simp[Obj.mapSeq]
def adZ{n C D F:Nat}{k:Nat}{Q:ε->μ->Prop}(g1:C<n)(W:D<n)(G:F<n)(H:IsZip s.heap (n+5) (n+3) (n+4) .none)(X:dh s.heap (n+3) (.ref n) (.ref (n+1)) (.ref (n+2)))(Y:dh s.heap (n+4) a b c)(h1:s.heap.IsListIter n C k)(h2:s.heap.IsListIter (n+1) D k)(h3:s.heap.IsListIter (n+2) F k)(Z:s.heap.IsList C xs)(ϻ:s.heap.IsList D ys)(aa:s.heap.IsList F zs)(hx:xs[k]?=↑x)(hy:ys[k]?=↑y)(hu:zs[k]?=↑u)(hQ:∀h',IsZip h' (n+5) (n+3) (n+4) (rawInt ⇑s)->dh h' (n+4) x y u->h'.IsListIter n C (k+1)->h'.IsListIter (n+1) D (k+1)->h'.IsListIter (n+2) F (k+1)->dh h' ⇑s x y u->
   (∀c o,c≠n+5->c≠n+4->c≠n->c≠n+1->c≠n+2->s.heap.get? c=↑o->h'.get? c=↑o)->Q (.ref ⇑s) {s with heap:=h'}):Ϧ (Ϩ prog w) A (aox.«zip.__next__» #[[.ref (n+5)],[]]) (λfin s'=>∃v,fin=.done (.ret v)/\Q v s') E s:=by
 let sJ:n+5≠n:=an (b:=0);let JS:n+5≠n+1:=an;let Mg:n+5≠n+2:=an;let I:n+5≠n+4:=an;let O:n+4≠n:=an (b:=0);let P:n+4≠n+1:=an;let R:n+4≠n+2:=an;let J:n+1≠n:=an (b:=0);let Ak:n+2≠n:=an (b:=0);let L:n+2≠n+1:=an;show Ϧ _ _ (field (.ref (n+5)) 2>>=_) _ _ _*>π (ahl H rfl (x:=.bool false) rfl ?_)*>Ϧ _ _ (field (.ref (n+5)) 3>>=_) _ _ _*>π (ahl H rfl (x:=.ref (n+3)) rfl ?_)*>π (apz X rfl ?_)*>Ϧ _ _ (Builtin.SmallTypes.ownedTupleIsFree (.ref (n+5))>>=_) _ _ _*>π ?_;unfold Builtin.SmallTypes.ownedTupleIsFree;show π (ahl H rfl (x:=.none) rfl (ϯ ?_));simp only[if_true];show π (wpAny_rule ?_)*>π (ahl H rfl (x:=.ref (n+4)) rfl ?_)*>π (anZ H (by simp) λm1 m g=>?_)
 replace m:IsZip m1 (n+5) (n+3) (n+4) .ellipsis:=m
 show π ?_;simp only[at7,aul,aoZ,arc];show π (π (wpAny_onRaise ?_))*>Ϧ _ _ (Builtin.SmallTypes.nextOf (.ref n)>>=_) _ _ _*>π (aqU (h1.extBut g.extBut sJ.symm) (Z.extBut g.extBut (ln g1 5)) hx λm2 ab i=>ϯ ?_);let t2:dh m2 (n+4) a b c:=i.extBut _ _ O (g.extBut _ _ I.symm Y);show π (apz t2 rfl ?_)*>π (Ew t2 λm3 t3 j=>?_)
 replace t3:dh m3 (n+4) x b c:=t3
 show π (wpAny_letGo (ϯ ?_))*>π (π (wpAny_onRaise ?_))*>Ϧ _ _ (Builtin.SmallTypes.nextOf (.ref (n+1))>>=_) _ _ _*>π (aqU (((h2.extBut g.extBut JS.symm).extBut i.extBut J).extBut j.extBut P.symm) (((ϻ.extBut g.extBut (ln W 5)).extBut i.extBut (ln W 0)).extBut j.extBut (ln W 4)) hy λm4 ac p=>ϯ ?_);let t4:dh m4 (n+4) x b c:=p.extBut _ _ P t3;show π (apz t4 rfl ?_)*>π (Ew t4 λm5 t5 q=>?_)
 replace t5:dh m5 (n+4) x y c:=t5
 show π (wpAny_letGo (ϯ ?_))*>π (π (wpAny_onRaise ?_))*>Ϧ _ _ (Builtin.SmallTypes.nextOf (.ref (n+2))>>=_) _ _ _*>π (aqU (((((h3.extBut g.extBut Mg.symm).extBut i.extBut Ak).extBut j.extBut R.symm).extBut p.extBut L).extBut q.extBut R.symm) (((((aa.extBut g.extBut (ln G 5)).extBut i.extBut (ln G 0)).extBut j.extBut (ln G 4)).extBut p.extBut (ln G 1)).extBut q.extBut (ln G 4)) hu λm6 ae z=>ϯ ?_);let t6:dh m6 (n+4) x y c:=z.extBut _ _ R t5;show π (apz t6 rfl ?_)*>π (Ew t6 λf S B=>?_)
 replace S:dh f (n+4) x y u:=S
 show π (wpAny_letGo (ϯ (ϯ ?_)))*>π (apz S rfl ?_)*>π (wpAny_newTuple ?_);let hsz:f.objs.size=⇑s:=by rw[B.1,z.1,q.1,p.1,j.1,i.1,g.1]
 let Y6:IsZip f (n+5) (n+3) (n+4) .ellipsis:=B.extBut _ _ I (z.extBut _ _ Mg (q.extBut _ _ I (p.extBut _ _ JS (j.extBut _ _ I (i.extBut _ _ sJ m)))));let af:∀c o,c≠n+5->c≠n+4->c≠n->c≠n+1->c≠n+2->s.heap.get? c=↑o->f.get? c=↑o:=λc o c1 c2 c3 c4 c5 e=>
  B.extBut _ _ c2 (z.extBut _ _ c5 (q.extBut _ _ c2 (p.extBut _ _ c4 (j.extBut _ _ c2 (i.extBut _ _ c3 (g.extBut _ _ c1 e))))))
 let i1:f.IsListIter n C (k+1):=((((ab.extBut j.extBut O.symm).extBut p.extBut J.symm).extBut q.extBut O.symm).extBut z.extBut Ak.symm).extBut B.extBut O.symm;let i2:f.IsListIter (n+1) D (k+1):=((ac.extBut q.extBut P.symm).extBut z.extBut L.symm).extBut B.extBut P.symm;let i3:f.IsListIter (n+2) F (k+1):=ae.extBut B.extBut R.symm;let l:n+5<f.objs.size:=abN Y6;show Ϧ _ _ (Builtin.SmallTypes.ownedTupleHandOut (.ref (n+5)) (.ref f.objs.size)>>=_) _ _ _*>π ?_;unfold Builtin.SmallTypes.ownedTupleHandOut;let ag:IsZip (f.push {cls:=.type "tuple",data:=.seq #v[x,y,u]}) (n+5) (n+3) (n+4) .ellipsis:=ϲ _ Y6;show π (anZ ag (by simp) λm8 J0 s8=>?_)
 replace J0:IsZip m8 (n+5) (n+3) (n+4) (rawInt f.objs.size):=J0
 show anZ J0 (by simp) λT U s9=>?_
 replace U:IsZip T (n+5) (n+3) (n+4) (rawInt f.objs.size):=U
 let up:∀c o,c≠n+5->f.get? c=↑o->T.get? c=↑o:=λc o c1 e=>s9.extBut _ _ c1 (s8.extBut _ _ c1 (ϲ _ e))
 let M:dh T f.objs.size x y u:=s9.extBut _ _ (aoR l) (s8.extBut _ _ (aoR l) (abn _ rfl));rw[hsz]at U M;show ϯ #[_,rfl,?_]*>Q (.ref f.objs.size) _;rw[hsz];show hQ T U (up _ _ I.symm S) (i1.at λo e=>up _ o sJ.symm e) (i2.at λo e=>up _ o JS.symm e) (i3.at λo e=>up _ o Mg.symm e) M λc o c1 c2 c3 c4 c5 e=>up c o c1 (af c o c1 c2 c3 c4 c5 e)
def al0{n l:Nat}{k:Nat}{Q:Fin->μ->Prop}(B:A.handled=none)(C:l<n)(g:IsZip s.heap (n+5) (n+3) (n+4) .none)(m:dh s.heap (n+3) (.ref n) b c)(h1:s.heap.IsListIter n l k)(p:s.heap.IsList l xs)(D:xs[k]?=none)(F:∀h' e,(∀c o,c≠n+5->c≠n->s.heap.get? c=↑o->h'.get? c=↑o)->(∃o,h'.get? e=↑o/\o.cls=.type "StopIteration")->E (.ref e) {s with heap:=h'}):Ϧ (Ϩ prog w) A (aox.«zip.__next__» #[[.ref (n+5)],[]]) Q E s:=by
 let v:n+5≠n:=an (b:=0);show Ϧ _ _ (field (.ref (n+5)) 2>>=_) _ _ _*>π (ahl g rfl (x:=.bool false) rfl ?_)*>Ϧ _ _ (field (.ref (n+5)) 3>>=_) _ _ _*>π (ahl g rfl (x:=.ref (n+3)) rfl ?_)*>π (apz m rfl ?_)*>Ϧ _ _ (Builtin.SmallTypes.ownedTupleIsFree (.ref (n+5))>>=_) _ _ _*>π ?_;unfold Builtin.SmallTypes.ownedTupleIsFree;show π (ahl g rfl (x:=.none) rfl (ϯ ?_));simp only[if_true];show π (wpAny_rule ?_)*>π (ahl g rfl (x:=.ref (n+4)) rfl ?_)*>π (anZ g (by simp) λG a q=>?_)
 replace a:IsZip G (n+5) (n+3) (n+4) .ellipsis:=a
 show π ?_;simp only[at7,aul,aoZ,arc];show π (π (wpAny_onRaise ?_))*>Ϧ _ _ (Builtin.SmallTypes.nextOf (.ref n)>>=_) _ _ _*>π (wpAny_nextOf_list_end B (h1.extBut q.extBut v.symm) (p.extBut q.extBut (ln C 5)) D λH e y I=>?_);let#[J,f,i]:=I;let j:IsZip H (n+5) (n+3) (n+4) .ellipsis:=y _ _ v a;let u:e≠n+5:=λx=>by subst x;rw[j]at f;cases f;simp at i
 show anZ j (by simp) λL _ z=>F L e (λc o c1 c3 x=>z.extBut _ _ c1 (y _ _ c3 (q.extBut _ _ c1 x))) #[J,z.extBut _ _ u f,i]
abbrev xW(h:ϫ)(l1:δ):ϫ:=h.push {cls:=.type "list_iterator",data:=.fields #v[.ref l1,.int 0 0]}
abbrev Cg(h:ϫ)(l1 l2:δ):ϫ:=(xW h l1).push {cls:=.type "list_iterator",data:=.fields #v[.ref l2,.int 0 0]}
abbrev yR(h:ϫ)(l1 l2 l3:δ):ϫ:=(Cg h l1 l2).push {cls:=.type "list_iterator",data:=.fields #v[.ref l3,.int 0 0]}
abbrev Ad(h:ϫ)(l1 l2 l3:δ):ϫ:=(yR h l1 l2 l3).push {cls:=.type "tuple",data:=.seq #v[.ref h.objs.size,.ref (xW h l1).objs.size,.ref (Cg h l1 l2).objs.size]}
abbrev BJ(h:ϫ)(l1 l2 l3:δ):ϫ:=(Ad h l1 l2 l3).push {cls:=.type "tuple",data:=.seq #v[.none,.none,.none]}
abbrev pF(h:ϫ)(l1 l2 l3:δ):ϫ:=(BJ h l1 l2 l3).push {cls:=.type "zip",data:=.fields #v[.none,.bool false,.bool false,.ref (yR h l1 l2 l3).objs.size,.ref (Ad h l1 l2 l3).objs.size]}
theorem akM(a c e:δ)(xs ys zs:Array ε):Meets (aox.«zip.__new__» #[[.type "zip",.ref a,.ref c,.ref e],[]]) (λ_ R s=>s.heap.IsList a xs/\s.heap.IsList c ys/\s.heap.IsList e zs/\R (.ok (.ret (.ref (BJ s.heap a c e).objs.size))) {s with heap:=pF s.heap a c e}):=
 .of_wp λprog w A R s h=>by
  let#[f,g,d,tk,os]:=s;let#[i,o,j,h]:=h;let n:=sub_zip;let l:aum (Shared.heap #[f,g,d,tk,os]) a xs:=i;let m:aum (Shared.heap #[f.push {cls:=.type "list_iterator",data:=.fields #v[.ref a,.int 0 0]},g,d,tk,os]) c ys:=Heap.IsList.push o _;let p:aum (Shared.heap #[(f.push {cls:=.type "list_iterator",data:=.fields #v[.ref a,.int 0 0]}).push {cls:=.type "list_iterator",data:=.fields #v[.ref c,.int 0 0]},g,d,tk,os]) e zs:=Heap.IsList.push (Heap.IsList.push j _) _
  wp_walk using amx l,amx m,amx p
  show#[_,rfl,h]
section
variable{prog:ϱ}{w:ϭ}{A:ϴ}{E:ε->μ->Prop}{s:μ}
def anH(g:s.heap.IsList a xs)(B:s.heap.IsList e ys)(i:s.heap.IsList f zs)(h:∀h',IsZip h' (⇑s+5) (⇑s+3) (⇑s+4) .none->dh h' (⇑s+3) (.ref ⇑s) (.ref (⇑s+1)) (.ref (⇑s+2))->
   dh h' (⇑s+4) .none .none .none->h'.IsListIter ⇑s a 0->h'.IsListIter (⇑s+1) e 0->h'.IsListIter (⇑s+2) f 0->
   (∀c o,s.heap.get? c=↑o->h'.get? c=↑o)->Q (.ref (⇑s+5)) {s with heap:=h'}):Ϧ (Ϩ prog w) A (call (.type "zip") [.ref a,.ref e,.ref f]) Q E s:=by
 show callType_new F.called_zip (by decide) (afh<*_) (aeD<*_) (λobj=>al7 obj _ _ _) F.entry_zip_new (akM a e f xs ys zs) #[g,B,i,?_];let j:(xW s.heap a).objs.size=⇑s+1:=ajX ..;let l:(Cg s.heap a e).objs.size=⇑s+2:=by rw[ajX,j]
 let m:(yR s.heap a e f).objs.size=⇑s+3:=by rw[ajX,l]
 let n:(Ad s.heap a e f).objs.size=⇑s+4:=by rw[ajX,m]
 let q:(BJ s.heap a e f).objs.size=⇑s+5:=by rw[ajX,n]
 let p:(pF s.heap a e f).get? (BJ s.heap a e f).objs.size=↑_:=abn _ rfl;let u:(pF s.heap a e f).get? (Ad s.heap a e f).objs.size=↑_:=ϲ _ (abn _ rfl);let v:(pF s.heap a e f).get? (yR s.heap a e f).objs.size=↑_:=ϲ _ (ϲ _ (abn _ rfl));let y:(pF s.heap a e f).get? (Cg s.heap a e).objs.size=↑_:=ϲ _ (ϲ _ (ϲ _ (abn _ rfl)));let z:(pF s.heap a e f).get? (xW s.heap a).objs.size=↑_:=ϲ _ (ϲ _ (ϲ _ (ϲ _ (abn _ rfl))));let C:(pF s.heap a e f).get? ⇑s=↑_:=ϲ _ (ϲ _ (ϲ _ (ϲ _ (ϲ _ (abn _ rfl)))));show _/\_;rw[m,n,q]at p;rw[j,l,m]at v;rw[n]at u;rw[l]at y;rw[j]at z;rw[q];show#[#[_,p,rfl],h _ p v u #[_,C,rfl,rfl] #[_,z,rfl,rfl] #[_,y,rfl,rfl] λc o x=>
  ϲ _ (ϲ _ (ϲ _ (ϲ _ (ϲ _ (ϲ _ x)))))]
end
def Jk(K:ϩ)(l m q:δ):It:=
 #[λi H=>∃xs ys zs x y z,(θ K H l xs/\θ K H m ys/\θ K H q zs)/\xs[i]?=↑x/\ys[i]?=↑y/\zs[i]?=↑z,
  λi H v H'=>∃T x y z,v=.ref T/\H T=none/\H'=upd H T (.tup [x,y,z])/\(∀xs,θ K H l xs->xs[i]?=↑x)/\(∀ys,θ K H m ys->ys[i]?=↑y)/\∀zs,θ K H q zs->zs[i]?=↑z,
  λi H=>∃xs,θ K H l xs/\↥xs<=i]
theorem amh{P:ϱ}{w:ϭ}{K:ϩ}{elts:List Ϫ}{k:Nat}{pos:Pos}(n l m q:Nat)(g1:l<n)(g2:m<n)(g3:q<n):Turn P w K (.Tuple elts k pos) (Jk K l m q) [n+5,n+3,n+4,n,n+1,n+2] (n+5) (λi h=>IsZip h (n+5) (n+3) (n+4) .none/\dh h (n+3) (.ref n) (.ref (n+1)) (.ref (n+2))/\(∃a b c,dh h (n+4) a b c)/\h.IsListIter n l i/\h.IsListIter (n+1) m i/\h.IsListIter (n+2) q i)where
 mem:=by simp
 obj:=λi h st b g=>by
  let#[p,f,#[a,a',R,j],#[o1,h1,_,d1],#[o2,h2,_,d2],#[o3,u,_,d3]]:=st;simp only[aaF,aet,or_false]at g;obtain e|e|e|e|e|e:=g<;>subst e
  .show#[_,p,λv z=>by cases z]
  .show#[_,f,λv z=>by cases z]
  .show#[_,j,λv z=>by cases z]
  .show#[_,h1,λv z=>by rw[d1]at z;cases z]
  .show#[_,h2,λv z=>by rw[d2]at z;cases z]
  .show#[_,u,λv z=>by rw[d3]at z;cases z]
 keep:=λi h h' st kk=>by
  let#[p,f,#[a,a',R,j],#[o1,h1,r1],#[o2,h2,r2],#[o3,u,r3]]:=st;show#[kk _ (by simp) _ p,kk _ (by simp) _ f,#[a,a',R,kk _ (by simp) _ j],#[o1,kk _ (by simp) _ h1,r1],#[o2,kk _ (by simp) _ h2,r2],#[o3,kk _ (by simp) _ u,r3]]
 item:=by
  intro X Y Z hK hc i ϵ s σ H E I S st hg;subst Y Z hK;let#[p,f,#[a,b,c,j],h1,h2,u]:=id st;let#[xs,ys,zs,x,y,z,#[B,D,G],U,hy,hu]:=hg;let#[Kc,yP,tD,_]:=I.list B;let#[UT,Vk,zF,_]:=I.list D;let#[it3,aa,ab,_]:=I.list G;let#[u1,ac,JX]:=yP.get U;let#[u2,ae,Lr]:=Vk.get hy;let#[u3,af,KH]:=aa.get hu;let J:s.TypeIs (.ref (n+5)) "zip":=#[_,p,rfl];unfold pyNext;show π (ap3 (aqL (name:=ν "__next__") J F.slot_zip_next (wpAny_call_entry F.slot_zip_next J F.entry_zip_next
   (adZ g1 g2 g3 p f j h1 h2 u tD.isList zF.isList ab.isList (~~~ac) (~~~ae) (~~~af) λh' a1 R a3 a4 a5 a6 W=>ϯ ?_) (F.args_zip_next_1 _))))
  show#[_,rfl,?_]*>wpAny_letOwnedTupleGo_zip (s:={s with heap:=h'}) a1 λL ag C=>?_
  let M:⇑s<=⇑s:=Ϭ _;let ah:⇑s≠n+5:=aoR (abN p);let vC:IsTup L ⇑s [u1,u2,u3].toArray:=#[_,C.extBut _ _ ah a6,rfl,_,rfl];let ai:∀b o,b∉[n+5,n+3,n+4,n,n+1,n+2]->s.heap.get? b=↑o->L.get? b=↑o:=λb o g q=>by
   simp only[aaF,aet,or_false,not_or]at g;show C.extBut _ _ g.1 (W b o g.1 g.2.2.1 g.2.2.2.1 g.2.2.2.2.1 g.2.2.2.2.2 q)
  show#[.ref ⇑s,upd H ⇑s (.tup [x,y,z]),I.Ef (ch:=[n+5,n+3,n+4,n,n+1,n+2]) (tk:=s.toks) S M ai ω (.cons JX (.cons Lr (.cons KH .nil))) vC,rfl,?_,?_,λb g=>?_]
  .show#[_,x,y,z,rfl,I.hok.fresh M,rfl,λa O=>?_,λa O=>?_,λa O=>?_]
   .rw[<-I.list_inj B O];show U
   .rw[<-I.list_inj D O];show hy
   .rw[<-I.list_inj G O];show hu
  .show#[ag,C.extBut _ _ an (W _ _ an an (an (b:=0)) an an f),#[_,_,_,C.extBut _ _ an R],a3.extBut C.extBut (an (a:=0)),a4.extBut C.extBut an,a5.extBut C.extBut an]
  .have :b≠⇑s:=λq=>by
    obtain⟨o,ho⟩:∃o,s.heap.get? b=↑o:=by
     let#[o1,h1,_]:=h1;let#[o2,h2,_]:=h2;let#[o3,u,_]:=u;simp only[aaF,aet,or_false]at g;obtain e|e|e|e|e|e:=g<;>subst e
     .show#[_,p]
     .show#[_,f]
     .show#[_,j]
     .show#[_,h1]
     .show#[_,h2]
     .show#[_,u]
    show aiA _ (q▸abN ho)
   rw[ι this];show(S b g).1
 done:=by
  intro X Y Z hK hc i ϵ s σ H E I S st hg;subst Y Z hK;let#[p,f,#[a,b,c,j],h1,h2,u]:=st;let#[xs,B,U]:=hg;let#[Kc,yP,tD,_]:=I.list B;let J:s.TypeIs (.ref (n+5)) "zip":=#[_,p,rfl];unfold pyNext;show π (ap3 (aqL (name:=ν "__next__") J F.slot_zip_next
   (wpAny_call_entry F.slot_zip_next J F.entry_zip_next (al0 (I.ok.hd hc) g1 p f h1 tD.isList (alR (by rw[aa0, <-↥yP];show U)) λh' e W he=>?_) (F.args_zip_next_1 _))))
  let#[o,ho,al]:=he;show π (wpAny_isInstance (T:="StopIteration") (b:=true) #[o,ho,al] isSubtype_stop ?_)*>ϯ #[rfl,I.aaC (tk:=s.toks) S λb o g q=>?_];simp only[aaF,aet,or_false,not_or]at g;show W b o g.1 g.2.2.2.1 q
 self:=λA i s Q E st h=>wpAny_pyIter_zip st.1 h
def vals3(r:Vals [x,y,z] us):∃u v w,us=[u,v,w]/\RelV x u/\RelV y v/\RelV z w:=by
 cases r with
 |cons a r=>
  cases r with
  |cons b r=>
   cases r with
   |cons c r=>
    cases r;show#[_,_,_,rfl,a,b,c]
def agv(E:Gl X "zip")(F:X.mg "zip"=none)(hs:ϳ [a,b,c] X.env=(false,eval a X.env)::ϳ [b,c] X.env)(g:ϳ [b,c] X.env=(false,eval b X.env)::ϳ [c] X.env)(i:ϳ [c] X.env=[(false,eval c X.env)])(h:EV X a σ H λy H1=>EV X b σ H1 λz H2=>EV X c σ H2 λB H3=>∃l m q xs ys zs,(y=.ref l/\z=.ref m/\B=.ref q)/\H3 l=↑(.lst xs)/\H3 m=↑(.lst ys)/\H3 q=↑(.lst zs)/\R (Jk X.K l m q) H3):EI X (.Tuple elts k tp) (.Call (.Name "zip" p) [a,b,c] [] pos) σ H R:=by
 intro ϵ s I;let G:EA X [a,b,c] σ H λvs H3=>∃l m q xs ys zs,vs=[.ref l,.ref m,.ref q]/\H3 l=↑(.lst xs)/\H3 m=↑(.lst ys)/\H3 q=↑(.lst zs)/\R (Jk X.K l m q) H3:=
  dF hs (Ϣ h λy H1 h1=>dF g (Ϣ h1 λz H2 h2=>dF (es:=[]) (by rw[i];rfl) (Ϣ h2 λB H3 ⟨l,m,q,xs,ys,zs,⟨e1,J,L⟩,r⟩=>gb #[l,m,q,xs,ys,zs,by rw[e1,J,L],r])))
 show Call_ (jt I E F boot_zip (PyProof.Rows.callWith_type1 (υ (G pos ϵ s I) λus u M=>?_) hs (by rw[g,i];rfl)));let#[vs,H1,f,r1,l,m,q,xs,ys,zs,e,O,v,P,Q]:=M;subst e;let#[S,T,U,rfl,W,Y,Z]:=vals3 r1;cases(show S=Value.ref l from W);cases(show T=Value.ref m from Y);cases(show U=Value.ref q from Z);let#[_,Kc,n1,yP,j]:=f.hok l _ O;let#[_,UT,n2,Vk,n]:=f.hok m _ v;let#[_,x,n3,rv3,C]:=f.hok q _ P;show anH (xs:=Kc.toArray) (ys:=UT.toArray) (zs:=x.toArray) #[_,j,rfl,_,rfl] #[_,n,rfl,_,rfl] #[_,C,rfl,_,rfl] λh' h1 h2 h3 h4 h5 h6 hk=>?_
 show wpAny_pyIter_zip h1 ?_*>#[⇑u+5,_,_,_,H1,rfl,f.kept (t':=u.toks) hk,amh _ l m q (abN j) (abN n) (abN C),#[h1,h2,#[_,_,_,h3],h4,h5,h6],λb D=>?_,Q];let o:⇑u<=b:=by
  simp only[aaF,aet,or_false]at D;obtain e|e|e|e|e|e:=D<;>subst e<;>first|show amc _ _|show Ϭ _
 show f.fpOk o (f.hok.fresh o)
def akc(J:anh ∅ X.A X.env X.xe)(L:X.calm=true)(M:Gl X "zip")(O:X.mg "zip"=none)(hs:ϳ [a,b,c] X.env=(false,eval a X.env)::ϳ [b,c] X.env)(s:ϳ [b,c] X.env=(false,eval b X.env)::ϳ [c] X.env)(u:ϳ [c] X.env=[(false,eval c X.env)])(h:EV X a σ H λF H1=>EV X b σ H1 λG H2=>EV X c σ H2 λI j=>∃l m q xs ys zs,(F=.ref l/\G=.ref m/\I=.ref q)/\j l=↑(.lst xs)/\j m=↑(.lst ys)/\j q=↑(.lst zs)/\↥ys=↥xs/\↥zs=↥xs/\
   ∃g:Nat->St->Hp->Prop,g 0 σ j/\(∀i σ' H',g i σ' H'->θ X.K H' l xs/\θ X.K H' m ys/\θ X.K H' q zs)/\
   (∀i x y z T σ' H',xs[i]?=↑x->ys[i]?=↑y->zs[i]?=↑z->g i σ' H'->H' T=none->EG X (.Tuple elts k tp) (.ref T) σ' (upd H' T (.tup [x,y,z])) λn H2=>Ζ X body {D with nx:=g (i+1),ct:=g (i+1),bk:=D.nx} n H2)/\∀σ' H',g ↥xs σ' H'->D.nx σ' H'):SX X (.For (.Tuple elts k tp) (.Call (.Name "zip" p) [a,b,c] [] p') body [] pos) D σ H:=by
 show oK J L (by intro _;rfl) (agv M O hs s u (Ϣ h λF H1 h1=>Ϣ h1 λG H2 h2=>Ϣ h2 λI j P=>?_));let#[l,m,q,xs,ys,zs,e,Q,B,R,ly,lz,g,S,U,C,hd]:=P;show#[l,m,q,xs,ys,zs,e,Q,B,R,λi m σ H=>m=↥xs-i/\i<=↥xs/\g i σ H,#[↥xs,by simp,ag3 _,S],?_]
 rintro i m' σ' H' ⟨rfl,hi,E⟩
 let f:=U i σ' H' E;by_cases o:i<↥xs
 .let W:ys[i]?=↑ys[i]:=aah ();let Y:zs[i]?=↑zs[i]:=aah ();show .inr #[#[xs,ys,zs,xs[i],ys[i],zs[i],f,aah o,W,Y],g (i+1),λn H2 p2=>#[↥xs-(i+1),(),rfl,o,p2],λv H2 y=>?_];let#[T,x,y,z,e1,Z,e3,e4,e5,e6]:=y;subst e1 e3;show C i x y z T σ' H' (e4 xs f.1) (e5 ys f.2.1) (e6 zs f.2.2) E Z
 .let e:i=↥xs:=()
  show .inl #[#[xs,f.1,()],?_];subst e;show hd σ' H' E
theorem G3:∀{us:List ε}{ys:List Str}{m:Nat}{u:ε},StrsAre us ys->us[m]?=↑u->∃y t,ys[m]?=↑y/\u=.str y t
 |_,_,_,_,.nil,e=>by simp at e
 |_,_,0,u,.cons y t h,e=>by
  simp at e;show#[y,t,rfl,e.symm]
 |_,_,m+1,u,.cons y t h,e=>by
  let#[a,t',e1,c]:=G3 h (~~~e);show#[a,t',~~~e1,c]
def amt{zs:List Str}{z:Str}{j:Nat}(h:θ X.K H a (zs.map V.str))(f:zs[j]?=↑z)(c:∀m y,m<j->zs[m]?=↑y->¬y=z)(g:Q (.int j) H):MT X "list.index" (.ref a) [.str z] H Q:=by
 show dD (r:=λx xs H Q=>∃a zs z j,x=.ref a/\xs=[.str z]/\θ X.K H a (zs.map V.str)/\zs[j]?=↑z/\(∀m y,m<j->zs[m]?=↑y->¬y=z)/\Q (.int (j:Nat)) H) ?_ #[a,zs,z,j,rfl,rfl,h,f,c,g];intro ϵ s σ H x xs v us Q I rx rs h;let#[a,zs,z,j,rfl,rfl,h,f,c,g]:=h;cases rx;let#[u,rfl,E]:=vals1 rs;let#[t,rfl]:=E;let#[i,r,#[#[cls,dd,C,sl],n,e,D,hd,hs],G]:=I.list h;simp only at D hd hs;subst D hd hs;let o:=Qp r;let l:↥i=↥zs:=by have:=↥r;rw[aau]at this;show this.symm
 let p:j<i.toArray.size:=by
  rw[aa0,l];show(aak.mp f).1
 rw[aau]at G;let hsz:=Ϯ;let J:j<↥zs:=(aak.mp f).1;show aqt F.slot_list_index #[_,e,rfl] F.entry_list_index (F.args_list_index_2 _ _) (SeqAt.list_indexAt a i.toArray n _ sl (.str z t) (isStrOf z) j p () ?_ ?_) #[e,λy L=>(eq_isStrOf z t o y (~~~L)).at _ _,?_]
 .let#[y,t',e1,q]:=G3 (m:=j) (u:=i.toArray[j]) o (by simp);rw[q];rw[f]at e1;cases e1;show(z==z)=true;show beq_self_eq_true z
 .intro m M B;let#[y,t',e1,q]:=G3 (m:=m) (u:=i.toArray[m]) o (by simp);rw[q];show(y==z)=false;show beq_eq_false_iff_ne.mpr (c m y B e1)
 .show#[.int j,H,I.tok _,#[_,rfl],g]
def ltV:V->V->Bool
 |.int i,.int j=>decide (i<j)
 |.str x,.str y=>decide (x.cps.toList<y.cps.toList)
 |_,_=>false
structure ϕ(P:ϱ)(w:ϭ)(K:ϩ)(mg:MG)(base:ϫ)(cc:Bool)(k:Nat)(C:δ)(m:Str)(ps:List Str)(sp:Sp):Prop where
 cls:ϡ K C
 ex:∃f fd,Meth K C m f/\Binds K fd ps []/\dG P w K mg base (bY P w) cc k f fd ps sp
structure mD(P:ϱ)(w:ϭ)(K:ϩ)(mg:MG)(base:ϫ)(cc:Bool)(k:Nat)(x:Str)(C:δ)(ps:List Str)(sp:Sp):Prop where
 at_:mg x=↑(.ref C)
 ex:∃f fd,Mk K C f/\Binds K fd ps []/\dG P w K mg base (bY P w) cc k f fd ps sp
structure uQ(P:ϱ)(w:ϭ)(K:ϩ)(mg:MG)(base:ϫ)(cc:Bool)(k:Nat)(x m:Str)(ps:List Str)(sp:Sp):Prop where
 ex:∃C f fd,mg x=↑(.ref C)/\asS K C (.type "type")=true/\asT K (.ref C) (.type "type") m=↑(.val (.ref f))/\
  aih K (.ref C) "__getattribute__"=some ↑(.builtin "type.__getattribute__")/\ap6 K (.ref f)=true/\Binds K fd ps []/\dG P w K mg base (bY P w) cc k f fd ps sp
section
variable{X:Cx}{σ:St}{H:Hp}{Q:VK}{D:Ends}{x f m:Str}{p np apos pos pos' tpos:Pos}{a e o value:Ϫ}{es:List Ϫ}{Kx:St->XK}{cc:Bool}{k':Nat}
def aF(h:EV X e σ H λx H1=>∃a C dx fs v,x=.ref a/\H1 a=↑(.ins C dx fs)/\ϡ X.K C/\ϊ X.K C f/\fs.lookup f=↑v/\Q v H1)(g:attributeBase e f X.env (eval e X.env)=eval e X.env:=by rfl):EV X (.Attribute e f pos) σ H Q:=by
 intro ϵ s I;show abf g (υ (h ϵ s I) λu y i=>?_);let#[x,H1,j,rx,a,C,dx,fs,v,ex,m,c,n,l,q]:=i;subst ex;obtain rfl:u=Value.ref a:=rx;show Rr j m c n l λz B o p=>#[v,H1,o,p,q]
theorem bJ(h:EV X value σ H λy H1=>EV X o σ H1 λx H2=>∃a C dx fs,x=.ref a/\H2 a=↑(.ins C dx fs)/\ϡ X.K C/\ϊ X.K C f/\↥fs<1000/\D.nx σ (upd H2 a (.ins C dx (ϖ f y fs))))(hs:apS value ↑(.Attribute o f pos') pos.line X.env=pure false:=by rfl):SX X (.Assign [.Attribute o f pos'] value pos) D σ H:=
 λϵ s I=>aiS cD cD hs ϵ s σ H D I h
theorem adK(h:EV X o σ H λx H1=>∃a C dx fs v,x=.ref a/\H1 a=↑(.ins C dx fs)/\ϡ X.K C/\ϊ X.K C f/\fs.lookup f=↑v/\
   EV X value σ H1 λy H2=>QB v y H2 λz e=>∃c fs',e a=↑(.ins C c fs')/\↥fs'<1000/\D.nx σ (upd e a (.ins C c (ϖ f z fs')))):SX X (.AugAssign (.Attribute o f tpos) .Add value pos) D σ H:=
 λϵ s I=>alV cD cD acb ϵ s σ H D I h
def bD{pl:Sem Bool}(v:ϛ cc k' X.A)(y:bZ X Kx)(c:ϳ (e::es) X.env=(false,eval e X.env)::ϳ es X.env:=by rfl)(g:(backTo pos (ϳ es X.env)).any (·.1)=false:=by rfl)(z:eval (.Call (.Attribute o m apos) (e::es) [] pos) X.env=(do
   let j<-eval o X.env
   standAt apos.atName
   let(f,first)<-holding [j] (getMethod j m pl)
   callWith pos f first (backTo pos (ϳ (e::es) X.env)) (backToKw pos (keywordEach [] X.env))):=by rfl)(h:EV X o σ H λx H1=>∃a C dx fs bF k ps sp,x=.ref a/\H1 a=↑(.ins C dx fs)/\fs.lookup m=none/\ϕ X.prog X.w X.K X.mg X.base bF k C m ps sp/\k<=k'/\(bF=true->cc=true)/\EA X (e::es) σ H1 λvs H2=>sp (x::vs) H2 Q (Kx σ)):EV X (.Call (.Attribute o m apos) (e::es) [] pos) σ H Q:=by
 intro ϵ s I;show asu (pl:=pl) (υ (h ϵ s I) λu B D=>?_) z;let#[x,H1,l,rx,a,C,dx,fs,bF,k,ps,sp,ex,E,G,M,J,i,q]:=D;subst ex;cases(show u=Value.ref a from rx);let#[f,fd,n,L,F]:=M.ex;show VF l E M.cls n G ?_*>atf (first:=[.ref a]) (h₀:=X.base) I.ok.mod.kin n.kp (υ (q pos ϵ B l) λus P _u=>_Z.e23 _u λvs H2 p r O=>#[p.kIn,?_]) c g*>wZ (us:=.ref a::us) (vs:=.ref a::vs) F ((v.mono J).qJ i) L y p (.cons rfl r) O
def cN{pl:Sem Bool}(j:ϛ cc k' X.A)(l:bZ X Kx)(h:EV X o σ H λx H1=>∃a C dx fs bF k ps sp,x=.ref a/\H1 a=↑(.ins C dx fs)/\fs.lookup m=none/\ϕ X.prog X.w X.K X.mg X.base bF k C m ps sp/\k<=k'/\(bF=true->cc=true)/\sp [x] H1 Q (Kx σ))(n:eval (.Call (.Attribute o m apos) [] [] pos) X.env=(do
   let g<-eval o X.env
   standAt apos.atName
   let(f,first)<-holding [g] (getMethod g m pl)
   callWith pos f first (backTo pos (ϳ [] X.env)) (backToKw pos (keywordEach [] X.env))):=by rfl):EV X (.Call (.Attribute o m apos) [] [] pos) σ H Q:=by
 intro ϵ s I;show asu (pl:=pl) (υ (h ϵ s I) λu D p=>?_) n;let#[x,H1,c,rx,a,C,dx,fs,bF,k,ps,sp,ex,v,y,M,z,e,q]:=p;subst ex;cases(show u=Value.ref a from rx);let#[f,fd,i,B,F]:=M.ex;show VF c v M.cls i y ?_*>W.callWith_K0 (first:=[.ref a]) c.kIn i.kp (wZ (us:=[.ref a]) (vs:=[.ref a]) F ((j.mono z).qJ e) B l c (.cons rfl .nil) q)
def Hq{pl:Sem Bool}{bF:Bool}{k:Nat}{sp:Sp}(B:uQ X.prog X.w X.K X.mg X.base bF k x m ps sp)(p:ϛ cc k' X.A)(a:bF=true->cc=true)(q:bZ X Kx)(h:EA X (e::es) σ H λvs H1=>sp vs H1 Q (Kx σ))(u:k<=k':=by decide)(v:Gl X x:=by rfl)(hd:(x==("__debug__":Str))=false:=by decide)(c:ϳ (e::es) X.env=(false,eval e X.env)::ϳ es X.env:=by rfl)(g:(backTo pos (ϳ es X.env)).any (·.1)=false:=by rfl)(y:eval (.Call (.Attribute (.Name x np) m apos) (e::es) [] pos) X.env=(do
   let n<-eval (.Name x np) X.env
   standAt apos.atName
   let(f,first)<-holding [n] (getMethod n m pl)
   callWith pos f first (backTo pos (ϳ (e::es) X.env)) (backToKw pos (keywordEach [] X.env))):=by rfl):EV X (.Call (.Attribute (.Name x np) m apos) (e::es) [] pos) σ H Q:=by
 let#[C,f,fd,z,i,D,j,l,E,F]:=B.ex;intro ϵ s I;show asu (pl:=pl) (lK I v z ?_ hd) y*>W.method_cls I.kIn j (W.cls_value I.kIn i D (by rfl) ?_);let G:=I.tok (s.toks+1);show atf (first:=[]) (h₀:=X.base) I.ok.mod.kin l (υ (h pos ϵ _ G) λus L _u=>_Z.e23 _u λvs H2 o r J=>#[o.kIn,?_]) c g*>wZ F ((p.mono u).qJ a) E q o r J
def af5(M:Mk X.K C g)(F:dG X.prog X.w X.K X.mg X.base (bY X.prog X.w) cc k g fd ps sp)(m:ϛ cc (k+1) X.A)(n:Binds X.K fd ps [])(o:bZ X Kx)(I:Inv X ϵ σ H s)(r:Vals vs us)(h:∀y dx,H y=none->H dx=none->dx≠y->sp (.ref y::vs) (upd (upd H dx (.own y)) y (.ins C dx [])) (λv H2=>v=.non/\Q (.ref y) H2) (Kx σ)):Ϧ ∅ X.A (call (.ref C) us) (EP X ϵ σ Q) X.xe s:=by
 let p:H (⇑s+1)=none:=I.hok.fresh (aoY _);let i:H ⇑s=none:=I.hok.fresh (Ϭ _);let q:=h _ _ p i (adb (atY _));let e:=Inv.made (C:=C) I;let l:Vals (V.ref (⇑s+1)::vs) (Value.ref (⇑s+1)::us):=.cons rfl r;let x:↥(Value.ref (⇑s+1)::us)=↥ps:=by rw[<-↥l];show F.len _ _ _ _ q
 let c:=n {s with heap:=(s.heap.push anI).push (arh C ⇑s)} (Value.ref (⇑s+1)::us) e.kIn (~~~x);rw[aqM]at c;show api (ad8 (f:=g) I.kIn M.makes M.init (beq_iff_eq.mp M.fn) (ajA (F.run _ X.stack _ _ #[Value.ref (⇑s+1)::us,[]] _ _ _ (Kx σ) (m.make C us []) (e.env0.make C us []) c l q) λj s' a=>?_))
 match j,a with
 |.error z,a=>
   let#[b,cls,d,H',rfl,B,w]:=e.flown a;show o ϵ σ H' s' b cls d B w
 |.ok (.ret u),a=>
   let#[v,H',D,E,G,J]:=e.after a;subst G;show#[E,#[V.ref (⇑s+1),H',D,rfl,J]]
 |.ok .next,a=>show False.elim a
 |.ok .brk,a=>show False.elim a
 |.ok .cont,a=>show False.elim a
def mj(M:mD X.prog X.w X.K X.mg X.base bF k x C ps sp)(l:ϛ cc k' X.A)(m:k+1<=k')(a:bF=true->cc=true)(n:bZ X Kx)(h:EA X (e::es) σ H λvs H1=>∀y dx,H1 y=none->H1 dx=none->dx≠y->sp (.ref y::vs) (upd (upd H1 dx (.own y)) y (.ins C dx [])) (λv H2=>v=.non/\Q (.ref y) H2) (Kx σ))(o:Gl X x:=by rfl)(hd:(x==("__debug__":Str))=false:=by decide)(c:ϳ (e::es) X.env=(false,eval e X.env)::ϳ es X.env:=by rfl)(g:(backTo pos (ϳ es X.env)).any (·.1)=false:=by rfl):EV X (.Call (.Name x p) (e::es) [] pos) σ H Q:=by
 let#[f,fd,i,u,F]:=M.ex;intro ϵ s I;show alO (lK I o M.at_ ?_ hd)*>atf (h₀:=X.base) I.ok.mod.kin i.kp (υ (h pos ϵ s I) λus z _u=>_Z.e23 _u λvs H1 j r q=>#[j.kIn,?_]) c g*>af5 i F ((l.mono m).qJ a) u n j r q
end
def FD(P:ϱ)(w:ϭ)(K:ϩ)(mg:MG)(base:ϫ)(cc:Bool)(k:Nat)(m qual:Str)(st:ϧ)(ps:List Str)(sp:Sp):Prop:=
 ∀f fd,cF K m qual st f fd->Binds K fd ps []/\dG P w K mg base (bY P w) cc k f fd ps sp
section
variable{P:ϱ}{w:ϭ}{K:ϩ}{mg:MG}{base:ϫ}{cc:Bool}{k:Nat}{x m qual:Str}{C:δ}{st:ϧ}{ps N:List Str}{sp:Sp}
theorem aO(body:∀(f:δ)(a:ε)(A:ϴ)(outer:List Env)(s:μ)(H:Hp)(vs:List V)(Q:VK)(E:XK),ϛ cc k (A.deeper (envOfC qual (ς st) ⇑s f a))->sp vs H Q E->
   let X:=fD cc P w K mg base N qual (ς st) f a A outer s H E;let D:Ends:={nx:=λ_ H'=>Q .non H',rt:=Q};Ζ X (Ψ st) D (start N vs) H)(S:Ν N ps (ς st):=by room)(e:∀(kV c pm:ε)(an:Option δ)(a ct:ε)(us:List ε),↥us=↥ps->bindArgs (atq m qual (lg st) (Ψ st) (ς st) .none kV c pm an a ct) #[us,[]]=pure (ps.zip us):=by walk_at"bb")(len:∀vs H Q E,sp vs H Q E->↥vs=↥ps:=by walk_at"ln"):FD P w K mg base cc (k+1) m qual st ps sp:=
 λf fd F=>#[F.binds e,yx F S len λa A outer s H vs Q E g h=>body f a A outer s H vs Q E g h]
def FD.meth(F:FD P w K mg base cc k m qual st ps sp)(c:ϡ K C)(O:OM K C m qual st):ϕ P w K mg base cc k C m ps sp:=by
 let#[f,fd,h1,h2]:=O.ex;show#[c,f,fd,h2,F f fd h1]
def FD.make(F:FD P w K mg base cc k "__init__" qual st ps sp)(a:mg x=↑(.ref C))(O:OI K C qual st):mD P w K mg base cc k x C ps sp:=by
 let#[f,fd,h1,h2]:=O.ex;show#[a,f,fd,h2,F f fd h1]
def FD.asked(F:FD P w K mg base cc k m qual st ps sp)(a:mg x=↑(.ref C))(O:OB K C m qual st):uQ P w K mg base cc k x m ps sp:=by
 let#[f,fd,h1,h2]:=O.ex;let#[c,e]:=F f fd h1;show#[C,f,fd,a,O.rd,h2,O.ga,h1.kp,c,e]
end
def fY{X:Cx}{σ:St}{H:Hp}{D:Ends}{k:Nat}{tp pos:Pos}{value:Ϫ}(h:EV X value σ H λv H1=>EG X (.Tuple elts k tp) v σ H1 λσ' H'=>D.nx σ' H')(hs:swapsWithSole [.Tuple elts k tp] value pos.line X.env=pure false:=by rfl)(a:swappedStores [.Tuple elts k tp] value X.env=pure none:=by rfl):SX X (.Assign [.Tuple elts k tp] value pos) D σ H:=by
 intro ϵ s I;show Assign_Tuple (υ (h ϵ s I) λu c e=>?_) hs a;let#[v,H1,f,r1,g]:=e;show υ (g ϵ c u f r1) λ_ l z=>by let#[σ',H',i,j]:=z;show #[σ',H',i,j]
section
variable{X:Cx}{σ:St}{H:Hp}{Q:VK}{D:Ends}{pos tpos:Pos}{o i value:Ϫ}
theorem Qt(h:EV X value σ H λv H1=>EV X o σ H1 λa H2=>EV X i σ H2 λc e=>∃p xs k j,a=.ref p/\c=.int k/\e p=↑(.lst xs)/\mR ↥xs k=↑j/\D.nx σ (upd e p (.lst (xs.set j v))))(hs:swapsWithSole [.Subscript o i tpos] value pos.line X.env=pure false:=by rfl)(f:swappedStores [.Subscript o i tpos] value X.env=pure none:=by rfl)(h1:(aqn [.Subscript o i tpos] X.env).map (·.2)=[assign (.Subscript o i tpos) X.env]:=by rfl)(g:∀v,assign (.Subscript o i tpos) X.env v=(do
   let a<-holding [v] (eval o X.env);let c<-holding [v,a] (eval i X.env)
   standAt tpos
   holding [v,a,c] (setItem a c v)
   release [v,a,c] []):=by intro _;rfl):SX X (.Assign [.Subscript o i tpos] value pos) D σ H:=
 λϵ s I=>akH (X:=X) cD (agG cD cD set_list g) hs f h1 ϵ s σ H D I h
end
theorem ahO(e:anh ∅ X.A X.env X.xe)(W:Nat->St->Hp->Prop)(a:Nat)(f:W a σ H)(turn:∀m σ H,W m σ H->ET X c σ H λk H1=>if k=true then ∃N:St->Hp->Prop,(∀σ' H',N σ' H'->∃m',m'<m/\W m' σ' H')/\ Ζ X body {D with nx:=N,ct:=N,bk:=D.nx} σ H1 else D.nx σ H1):SX X (.While c body [] pos) D σ H:=
 λϵ s I=>ah4 (X:=X) e ams LQ ϵ s σ H D I #[W,#[a,f],turn]
theorem v5(h:∀p,H p=none->Q (.ref p) (upd H p (.dK []))):EV X (.Dict [] [] pos) σ H Q:=wF ae9 h
def ae3(f:X.A.units+1<cLine)(hs:Q7 i)(h:EV X o σ H λx H1=>EV X i σ H1 λy H2=>∃a v,x=.ref a/\Ϥ H2 a y ↑v/\Q v H2):EV X (.Subscript o i pos) σ H Q:=by
 intro ϵ s I;show af9 F.slot_dict_getitem.lookup hs (υ (h ϵ s I) λu j _u=>_Z.e23 _u λx H1 l rx m=>υ (m ϵ j l) λz B n=>?_);let#[y,H2,e,ry,a,v,ex,g,p]:=n;subst ex;obtain rfl:u=Value.ref a:=rx;show#[abv e g,Rv f e g ry λC D q c=>#[v,H2,q,c,p]]
def Gu(c:X.A.units+1<cLine)(g:Ϥ H a y r)(q:Q (.bl r.isSome) H):OP X (ad2 .In) y (.ref a) H Q:=by
 show bB (r:=λx z H Q=>∃a o,z=.ref a/\Ϥ H a x o/\Q (.bl o.isSome) H) ?_ #[a,r,rfl,g,q];intro ϵ s σ H x z v u Q I rx e h;let#[a,o,rfl,g,q]:=h;cases(show u=Value.ref a from e);show ae8 c I g rx λs' f=>#[.bl o.isSome,H,f,rfl,q]
def ab1(c:X.A.units+1<cLine)(g:Ϥ H a y r)(q:Q (.bl (!r.isSome)) H):OP X (ad2 .NotIn) y (.ref a) H Q:=by
 show bB (r:=λx z H Q=>∃a o,z=.ref a/\Ϥ H a x o/\Q (.bl (!o.isSome)) H) ?_ #[a,r,rfl,g,q];intro ϵ s σ H x z v u Q I rx e h;let#[a,o,rfl,g,q]:=h;cases(show u=Value.ref a from e);show ajZ c I g rx λs' f=>#[.bl (!o.isSome),H,f,rfl,q]
def jo(f:X.A.units+1<cLine)(h:EV X value σ H λv H1=>EV X o σ H1 λx H2=>EV X i σ H2 λy e=>∃a c,x=.ref a/\dW e a y v c/\D.nx σ c)(hs:apS value ↑(.Subscript o i pos') pos.line X.env=pure false:=by rfl):SX X (.Assign [.Subscript o i pos'] value pos) D σ H:=by
 intro ϵ s I;show wpAny_Assign_Subscript (υ (h ϵ s I) λr j _u=>_Z.e23 _u λv H1 l m n=>υ (n ϵ j l) λu p _u=>_Z.e23 _u λx H2 q rx z=>υ (z ϵ p q) λG J B=>?_) hs;let#[y,e,C,ry,a,c,ex,g,E]:=B;subst ex;obtain rfl:u=Value.ref a:=rx;show ahz f C g ry m λL F=>#[σ,c,F,E]
def afM(i:X.A.units+1<cLine)(m:M1 X o "get" apos e cpos)(h:EV X o σ H λx H1=>∃a,x=.ref a/\pL H1 a/\EV X e σ H1 λy H2=>∃o,Ϥ H2 a y o/\Q (o.getD .non) H2):EV X (.Call (.Attribute o "get" apos) [e] [] cpos) σ H Q:=by
 intro ϵ s I;show wpAny_Call_method m.base m.few m.line F.plainAttrs_dict F.slot_dict_get F.type_dict_get (υ (h ϵ s I) λu j l=>?_);let#[x,H1,f,rx,a,ex,d,n]:=l;subst ex;obtain rfl:u=Value.ref a:=rx;let#[p,q,_]:=Xy f d;show#[p,q,?_];rw[m.trees];show Calls.callWith_builtin rfl (Calls.evalArgs_plain (Calls.spliced_cons (υ (n ϵ j f) λC D ⟨y,H2,v,ry,E,g,z⟩=>Calls.spliced_nil ?_)))*>aii i v g ry λG J B c=>#[_,H2,B,c,z]
def Cd(h:EV X o σ H λx H1=>∃a,x=.ref a/\pL H1 a/\EV X e σ H1 λy H2=>∃Ϸ k v,H2 a=↑(.dK Ϸ)/\y=kV k/\aK Ϸ k=↑v/\Q v (upd H2 a (.dK (gA Ϸ k))))(m:M1 X o "pop" apos e cpos:=by constructor<;>rfl):EV X (.Call (.Attribute o "pop" apos) [e] [] cpos) σ H Q:=by
 intro ϵ s I;show wpAny_Call_method m.base m.few m.line F.plainAttrs_dict F.slot_dict_pop F.type_dict_pop (υ (h ϵ s I) λu g i=>?_);let#[x,H1,f,rx,a,ex,d,j]:=i;subst ex;obtain rfl:u=Value.ref a:=rx;let#[n,p,_]:=Xy f d;show#[n,p,?_];rw[m.trees];show Calls.callWith_builtin rfl (Calls.evalArgs_plain (Calls.spliced_cons (υ (j ϵ g f) λE G ⟨y,H2,q,ry,Ϸ,k,v,z,B,l,C⟩=>Calls.spliced_nil ?_)));subst B;show akV q z ry l (.inl rfl) λJ L D c=>#[v,_,D,c,C]
def afZ(e:H a=↑(.dK Ϸ))(q:∀p,H p=none->Q (.ref p) (upd H p (.dK Ϸ))):CL X (.type "dict") [.ref a] H Q:=by
 show cP (r:=λxs H Q=>∃a Ϸ,xs=[V.ref a]/\H a=↑(.dK Ϸ)/\∀p,H p=none->Q (.ref p) (upd H p (.dK Ϸ))) ?_ #[a,Ϸ,rfl,e,q];intro ϵ s σ H xs us Q I r h;let#[a,Ϸ,rfl,e,q]:=h;let#[u,rfl,c]:=vals1 r;cases(show u=Value.ref a from c);show aoD I (.inl e) λp s' f g=>#[.ref p,_,g,rfl,q p f]
end _L
namespace _M
open PySem
abbrev SGs:Str:=ν "-0123456789abcdefghijklmnopqrstuvwxyz"
abbrev wk:Str:=ν "abcdefghijklmnopqrstuvwxyz0123456789-"
def SG:List Nat:=SGs.cps.toList
def TS:List Nat:=wk.cps.toList
def DK:∀c∈SG,c∈TS:=by fin2
def tb:List Nat->List Nat->Bool
 |[],[]=>false
 |[],_::_=>true
 |_::_,[]=>false
 |x::xs,y::ys=>if x=y then tb xs ys else decide (SG.idxOf x<SG.idxOf y)
end _M
namespace _L
open PySem PySem.Spec PyProof.Rows
def Hs{α:Type}{xs:List α}{f:α->V}{i:Int}(d:α)(c:0<=i)(h1:i<↥xs):Ι (xs.map f) i=↑(f (xs.getD i.toNat d)):=by
 let e:i=((i.toNat:Nat):Int):=()
 let a:i.toNat<↥xs:=()
 let h2:(xs.map f)[i.toNat]?=↑(f (xs.getD i.toNat d)):=by
  rw[adl,aah a];simp[a]
 have:=aJ h2;rw[<-e]at this;show this
def nj{α:Type}{xs:List α}{i:Int}(c:0<=i)(h1:i<↥xs):∃v,Ι xs i=↑v/\v∈xs:=by
 let a:i.toNat<↥xs:=()
 let e:i=((i.toNat:Nat):Int):=()
 have:=aJ (aah a);rw[<-e]at this;show#[_,this,ajf a]
theorem Oq:∀l:List Nat,((l.map λc=>(#[#v[c]]:Str)).map (·.length)).sum=↥l
 |[]=>rfl
 |c::r=>by
  rw[aen,aen,apG,Oq r,abU];show 1+↥r=_;omega
theorem Ub:∀l:List Nat,aek ("":Str) (l.map λc=>#[#v[c]])=#[l.toArray]
 |[]=>rfl
 |[c]=>rfl
 |c::d::r=>by
  let a:=Ub (d::r);show(#[#v[c]]:Str)++ν ""++aek ("":Str) ((d::r).map λc=>#[#v[c]])=_;rw[a];let e:("":Str)=#[#v[]]:=by fin2
  rw[e];show(#[(#v[c]++ #v[])++(d::r).toArray]:Str)=#[(c::d::r).toArray];simp
def gK{x y:Str}(h:x.cps.toList=y.cps.toList):x=y:=by
 let#[#[a]]:=x;let#[#[b]]:=y;simp only at h;rw[h]
def au(x y:Str):(x++y).cps.toList=x.cps.toList++y.cps.toList:=by
 show(x.cps++y.cps).toList=_;simp
def len_list(z:Str):↥z=↥z.cps.toList:=by simp[asQ]
def len_app(x y:Str):↥(x++y)=↥x+↥y:=by rw[len_list,au,abK,len_list,len_list]
def nG(z:Str)(lo hi:Option Int):↥(ό z lo hi)<=↥z:=by
 unfold ό asQ;simp;omega
def v9(z:Str)(lo hi:Option Int):(ό z lo hi).cps.toList=(z.cps.toList.drop (_H.Η ↥z 0 lo)).take (_H.Η ↥z ↥z hi-_H.Η ↥z 0 lo):=by
 unfold ό;simp
def xJ(z:Str)(k:Nat):(ό z ↑(k:Int) none).cps.toList=z.cps.toList.drop k:=by
 rw[v9,_H.iY,_H.tu];let a:=len_list z;by_cases h:k<=↥z
 .rw[als h,ag5 (by rw[ael];omega)]
 .let h':↥z<=k:=()
  rw[as9 h',atb (),atb ()];simp
def xx(z:Str)(k:Nat):(ό z none ↑(k:Int)).cps.toList=z.cps.toList.take k:=by
 rw[v9,_H.iY,_H.tu,aoc,asL];let a:=len_list z;by_cases h:k<=↥z
 .rw[als h]
 .let h':↥z<=k:=()
  rw[as9 h',ag5 (),ag5 ()]
def Rn(z:Str)(c:Nat):Txt.startswith z #[#v[c]]=decide (z.cps.toList[0]?=↑c):=by
 rw[ahs,decide_eq_true_eq, <-StrLaws.subAt_one];unfold Txt.startswith
 rw[aaK,decide_eq_true_eq]
end _L
namespace _V
open PySem _L PyProof.Rows _M NumText
def scalar:V->Bool
 |.non|.int _|.str _=>true
 |_=>false
def pZ:V->Bool
 |.int _=>true
 |_=>false
def isNum:V->Bool
 |.int i=>decide (-1000000000000000000<=i/\i<=1000000000000000000)
 |_=>false
def dZ(z g:Str):Bool:=z.cps.toList.all λc=>decide (c∈g.cps.toList)
def iH:V->Bool
 |.str z=>decide (↥z<=20)&&dZ z wk
 |_=>false
def isVal(kind:Str):V->Bool
 |.non=>true
 |v=>if kind="number" then isNum v else iH v
def before:V->V->Bool
 |_,.non=>false
 |.non,_=>true
 |.int i,.int j=>decide (i<j)
 |.str x,.str y=>decide (x.cps.toList<y.cps.toList)
 |_,_=>false
def short:V->Prop
 |.str z=>↥z<=4000
 |_=>True
inductive XQ:Sp
 |mk (v):vs=[v]->scalar v=true->Q (.bl (pZ v)) H
inductive Q6:Sp
 |mk (z g:Str):vs=[.str z,.str g]->↥z<=4000->(∀H',ζ H H'->Q (.bl (dZ z g)) H')
inductive Za:Sp
 |mk (v):vs=[v]->scalar v=true->Q (.bl (isNum v)) H
inductive QD:Sp
 |mk (v):vs=[v]->scalar v=true->short v->(∀H',ζ H H'->Q (.bl (iH v)) H')
inductive TV:Sp
 |mk (k:Str) (v:V):vs=[.str k,v]->scalar v=true->short v->(∀H',ζ H H'->Q (.bl (isVal k v)) H')
inductive Tj:Sp
 |mk (x y:V):vs=[x,y]->(x=.non\/y=.non\/(∃i j,x=.int i/\y=.int j)\/∃i j,x=.str i/\y=.str j)->Q (.bl (before x y)) H
def oM(c:Nat):Bool:=decide (48<=c/\c<=57)
abbrev Dt:Str:=ν "0123456789"
def agm:∀c:Nat,c∈Dt.cps.toList↔(48<=c/\c<=57):=by
 intro c;let e:Dt.cps.toList=auF 48 10:=by fin2
 rw[e,atQ];omega
def ab6(z:Str):dZ z Dt=z.cps.toList.all oM:=by
 unfold dZ oM
 congr 1
 funext c;rw[decide_eq_decide];show agm c
def dO(l:List Nat):Bool:=decide (l=[48])||(decide (l≠[])&&(decide (l[0]? ≠↑48)&&l.all oM))
def sE(l:List Nat):Bool:=if l[0]?=↑45 then decide (l.drop 1≠[48])&&dO (l.drop 1)else dO l
def oW(l:List Nat):Int:=if l[0]?=↑45 then -((digitsVal (l.drop 1):Nat):Int)else((digitsVal l:Nat):Int)
def Nb(h:dO l=true):AllDigits l/\l≠[]:=by
 unfold dO at h;rw[aqP,aaK,aaK,decide_eq_true_eq,decide_eq_true_eq]at h;obtain h|⟨h1,_,h2⟩:=h
 .subst h;show#[λc a=>by simp at a;omega,by simp]
 .show#[λc a=>of_decide_eq_true (acE.mp h2 c a),h1]
def gO(l:List Nat):Option Int:=if sE l=true/\↥l<=20/\ -1000000000000000000<=oW l/\oW l<=1000000000000000000 then some (oW l)else none
def jf(z:Str):Option Str:=if z.cps.toList[0]?=↑39/\iH (.str (ό z ↑1 none))=true then some (ό z ↑1 none)else none
def wI:Option Int->Option V
 |some i=>↑(.int i)
 |none=>none
def yX:Option Str->Option V
 |some i=>↑(.str i)
 |none=>none
def eV(kind word:Str):Option V:=if word="?" then some .non else if kind="number" then wI (gO word.cps.toList)else yX (jf word)
def wordOf:V->Str
 |.non=>"?"
 |.str z=>ν "'"++z
 |.int i=>ν (toString i)
 |_=>""
inductive WR:Sp
 |mk (v):vs=[v]->scalar v=true->short v->(∀i,v=.int i->i.natAbs.log2<1920)->Q (.str (wordOf v)) H
inductive Ny:Sp
 |mk (z):vs=[.str z]->↥z<=4000->(∀H',ζ H H'->Q (.bl (dO z.cps.toList)) H')
def nW(c:ε)(r:Option V)(H:Hp)(Q:VK)(E:XK):=∀H',ζ H H'->match r with
 |some v=>Q v H'
 |none=>E c (none,true) H'
inductive Dj(c:ε):Sp
 |mk (z):vs=[.str z]->↥z<=4000->nW c (wI (gO z.cps.toList)) H Q E
inductive yq(c:ε):Sp
 |mk (z):vs=[.str z]->↥z<=4000->nW c (yX (jf z)) H Q E
inductive BK(c:ε):Sp
 |mk (k) (z):vs=[.str k,.str z]->↥z<=4000->nW c (eV k z) H Q E
def bR(n:Nat)(z:Str):Prop:=↥z<=n/\∀c∈z.cps.toList,c<1114112
theorem bR.mono(h:bR n z)(a:n<=m):bR m z:=#[afT h.1 a,h.2]
theorem bR.app(h:bR n x)(g:bR m y):bR (n+m) (x++y):=#[by rw[len_app];have:=h.1;have:=g.1;omega,λc a=>by
 rw[au]at a;obtain z|z:=adi.mp a
 .show h.2 c z
 .show g.2 c z]
def bR.lay(h:bR n z):(PyData.str z).canLay0=true:=by
 show PyData.strOk z=true;unfold PyData.strOk;rw[Array.all_eq_true_iff_forall_mem];intro c a;show decide_eq_true (h.2 c (~~~a))
theorem bR.sg(a:↥z<=n)(h:∀c∈z.cps.toList,c∈SG):bR n z:=#[a,λc e=>by
 have:∀c∈SG,c<1114112:=by fin2
 show this c (h c e)]
def dV:V->PyData
 |.bl b=>.bool b
 |.int i=>.int i
 |.str x=>.str x
 |_=>.none
def oF:V->Bool
 |.non|.int _|.str _|.bl _=>true
 |_=>false
def acr{K:PySem.W.Frag}{v:V}(h:oF v=true):RD K H v (dV v):=by
 cases v with
 |non=>show .non
 |bl b=>show .bl b
 |int i=>show .int i
 |str x=>show .str x
 |_=>cases h
theorem X8{K:PySem.W.Frag}:∀{xs:List V},xs.all oF=true->gP K H xs (xs.map dV)
 |[],_=>.nil
 |x::xs,h=>by
  rw[as4,aaK]at h;show .cons (acr h.1) (X8 h.2)
def fW{i:Int}(h:i.natAbs<10^60):i.natAbs.log2<1920:=by
 by_cases a:i.natAbs=0
 .rw[a];decide
 .rw[Nat.log2_lt a];show aco h ?_;fin2
theorem lY(m:Nat):(ν (toString ((m:Nat):Int))).cps.toList=(auB 10 m).map Char.toNat:=PySem.W.KIN.signs_num m
def qQ(m:Nat):∀c∈(ν (toString ((m:Nat):Int))).cps.toList,48<=c/\c<=57:=by
 rw[lY];intro c a;let#[d,hd,rfl]:=abz.mp a;have:=Nat.isDigit_of_mem_toDigits (b:=10) (n:=m) (by decide) (by decide) hd;simp only[Char.isDigit,aaK,decide_eq_true_eq]at this;let h1:(48:UInt32).toNat<=d.val.toNat:=this.1;let h2:d.val.toNat<=(57:UInt32).toNat:=this.2;show#[h1,h2]
def j7(a:1<=k)(h:m<10^k):↥(ν (toString ((m:Nat):Int)))<=k:=by
 rw[_L.len_list,lY,aau];show PyProof.Rows.digits10_le a h
def Cv(m:Nat)(h:0<m):ν (toString (-((m:Nat):Int)))=ν "-"++ν (toString ((m:Nat):Int)):=by
 obtain⟨k,rfl⟩:∃k,m=k+1:=#[m-1,()];let e:(-((k+1:Nat):Int))=Int.negSucc k:=rfl;rw[e];apply gK;rw[au];rw[PyProof.Rows.signs_ofString,PyProof.Rows.signs_ofString,PyProof.Rows.signs_ofString];show(("-"++Nat.repr (k+1)).toList.map Char.toNat)="-".toList.map Char.toNat++(Nat.repr (k+1)).toList.map Char.toNat;rw[String.toList_append,apf]
end _V
namespace _W
open PySem _L PyProof.Rows _M NumText
def yd(ns:List Int)(k:Int):Int:=if 0<↥ns then ns.getD (k % (↥ns:Int)).toNat 0 else 0
def Υ(ns:List Int)(k m:Int):Int:=(yd ns k % 1000003+31*k*k+1)*48271 % 999983*7919 % 524287 % m
theorem aD(ns:List Int)(k:Int)(h:0<m):0<=Υ ns k m:=ahe _ ()
theorem aA(ns:List Int)(k:Int)(h:0<m):Υ ns k m<m:=agE _ h
inductive Z2(K:PySem.W.Frag):Sp
 |mk (a:δ) (ns:List Int) (k m:Int):vs=[.ref a,.int k,.int m]->θ K H a (ns.map V.int)->↥ns<=63->0<=k->k<=100000->0<m->Q (.int (Υ ns k m)) H
end _W
namespace _V
open PySem _L PyProof.Rows _M NumText
inductive χ {α β:Type} (R:α->β->Prop):List α->List β->Prop
 |nil:χ R [] []
 |cons {a:α} {b:β} {l:List α} {m:List β}:R a b->χ R l m->χ R (a::l) (b::m)
section
variable{α β:Type}{R S:α->β->Prop}{l l':List α}{m m':List β}
def χ.len(h:χ R l m):↥l=↥m:=by
 induction h with
 |nil=>rfl
 |cons _ _ a=>rw[abU,abU,a]
def χ.imp(f:∀a b,R a b->S a b)(h:χ R l m):χ S l m:=by
 induction h with
 |nil=>show .nil
 |cons r _ c=>show .cons (f<*r) c
def χ.get(h:χ R l m){i:Nat}(e:l[i]?=↑a):∃b,m[i]?=↑b/\R a b:=by
 induction h generalizing i with
 |nil=>cases e
 |cons r _ c=>
  cases i with
  |zero=>cases e;show#[_,rfl,r]
  |succ i=>show c e
def χ.get'(h:χ R l m){i:Nat}(e:m[i]?=↑b):∃a,l[i]?=↑a/\R a b:=by
 induction h generalizing i with
 |nil=>cases e
 |cons r _ c=>
  cases i with
  |zero=>cases e;show#[_,rfl,r]
  |succ i=>show c e
def χ.app(h:χ R l m)(g:χ R l' m'):χ R (l++l') (m++m'):=by
 induction h with
 |nil=>show g
 |cons r _ a=>show .cons r a
def χ.drop(n:Nat)(h:χ R l m):χ R (l.drop n) (m.drop n):=by
 induction h generalizing n with
 |nil=>cases n<;>show .nil
 |cons r t a=>
  cases n with
  |zero=>show .cons r t
  |succ n=>show a n
def χ.take(n:Nat)(h:χ R l m):χ R (l.take n) (m.take n):=by
 induction h generalizing n with
 |nil=>cases n<;>show .nil
 |cons r _ a=>
  cases n with
  |zero=>show .nil
  |succ n=>show .cons r (a n)
end
abbrev ξ:=Str×Str
def vh(H:Hp)(v:V)(c:ξ):=∃t,v=.ref t/\H t=↑(.tup [.str c.1,.str c.2])
def vh.same(h:vh H v c)(s:ζ H H'):vh H' v c:=by
 let#[t,e,q]:=h;show#[t,e,s<*q]
def Ϗ(H:Hp)(a:δ)(cs:List ξ):=∃vs:List V,H a=↑(.lst vs)/\χ (vh H) vs cs
def Ϗ.same(h:Ϗ H a cs)(s:ζ H H'):Ϗ H' a cs:=by
 let#[vs,e,q]:=h;show#[vs,s<*e,q.imp λa b r=>r.same s]
abbrev iD:Str:=ν "abcdefghijklmnopqrstuvwxyz"
def isName(z:Str):Bool:=decide (1<=↥z/\↥z<=8)&&dZ z iD
def pC(k:Str):Bool:=decide (k="number"\/k="text")
def Ρ(cs:List ξ):Bool:=decide (1<=↥cs/\↥cs<=6)&&(cs.all λc=>isName c.1&&pC c.2)&&decide ((cs.map Prod.fst).Nodup)
inductive WW:Sp
 |mk (z):vs=[.str z]->↥z<=4000->(∀H',ζ H H'->Q (.bl (isName z)) H')
def GQ(cs:List ξ):=∀c∈cs,↥c.1<=4000/\↥c.2<=4000
inductive Ay(c:ε):Sp
 |mk (a) (cs):vs=[.ref a]->Ϗ H a cs->↥cs<=4000->GQ cs->(∀H',ζ H H'->if Ρ cs=true then Q .non H' else E c (none,true) H')
def gF:List ξ->Str->Nat->V
 |[],_,_=>.non
 |c::r,z,i=>if c.1=z then .int i else gF r z (i+1)
inductive aaw:Sp
 |mk (a) (cs) (z):vs=[.ref a,.str z]->Ϗ H a cs->(∀H',ζ H H'->Q (gF cs z 0) H')
def Zo:V->Bool
 |.int i=>decide (0<=i/\i<=1000000000)
 |_=>false
inductive aaO:Sp
 |mk (v):vs=[v]->scalar v=true->Q (.bl (Zo v)) H
def pJ:List ξ->List V->Bool
 |c::cs,v::vs=>isVal c.2 v&&pJ cs vs
 |_,_=>true
def xT(cs:List ξ)(v:V)(xs:List V):Bool:=Zo v&&decide (↥xs=↥cs)&&pJ cs xs
inductive U9:Sp
 |mk (a) (cs) (v) (b) (xs):vs=[.ref a,v,.ref b]->Ϗ H a cs->↥cs<=4000->scalar v=true->H b=↑(.lst xs)->(∀x∈xs,scalar x=true/\short x)->(∀H',ζ H H'->Q (.bl (xT cs v xs)) H')
theorem abF:∀{xs:List V},(∀x∈xs,oF x=true/\∀z,x=.str z->bR 4000 z)->(PyData.list (xs.map dV)).canLay0=true
 |[],_=>rfl
 |x::xs,h=>by
  let a:=abF (xs:=xs) λd hd=>h d (by simp[hd])
  let h1:(dV x).canLay0=true:=by
   let#[hs,c]:=h x (by simp);cases x with
   |str z=>show(c z rfl).lay
   |_=>rfl
  show((dV x).canLay0&&PyData.canLayAll0 (xs.map dV))=true;rw[h1];show a
theorem Tu:∀xs:List V,PyData.depthAll (xs.map dV)<=1
 |[]=>by show(0:Nat)<=1;omega
 |x::xs=>by
  let a:=Tu xs;let h1:(dV x).depth<=1:=by cases x<;>(show(_:Nat)<=1;show atd rfl)
  show max (dV x).depth (PyData.depthAll (xs.map dV))<=1;omega
def ahQ(xs:List V)(k:Nat):bL xs none ↑(k:Int)=xs.take k:=by
 unfold bL;rw[_H.tu,_H.iY];show((xs.drop 0).take (min k ↥xs-0))=_;rw[aoc,asL,List.take_eq_take_iff];omega
def S9(xs:List V)(k:Nat):bL xs ↑(k:Int) none=xs.drop k:=by
 unfold bL;rw[_H.tu,_H.iY];by_cases h:k<=↥xs
 .rw[show min k ↥xs=k from als h];show ag5 (by rw[ael];show Ϭ _)
 .rw[show min k ↥xs=↥xs from as9 (),aqV (Ϭ _),aqV ()];simp
end _V
namespace _V
open PySem _L PyProof.Rows _M NumText
def ϒ:List Nat->Int
 |[]=>0
 |c::r=>((c:Int)+137*ϒ r) % 9973
theorem gk:∀l,0<=ϒ l/\ϒ l<9973
 |[]=>by decide
 |c::r=>#[ahe _ (by decide),agE _ (by decide)]
def ahp(t p y m:Int):(t+p*(y % m)) % m=(t+p*y) % m:=by
 rw[atg,ath,atF, <-ath, <-atg]
def alw(a b r m:Int):(a % m+b % m*r) % m=(a+b*r) % m:=by
 rw[atg,ath,atF,atF, <-ath, <-atg]
def SM(h:(t+p*ϒ (c::r)) % 9973=v):((t+(c:Int)*p) % 9973+p*137 % 9973*ϒ r) % 9973=v:=by
 rw[alw, <-h];show _=(t+p*(((c:Int)+137*ϒ r) % 9973)) % 9973;rw[ahp]
 congr 1
 rw[Int.mul_add,Int.mul_comm (c:Int) p,Int.mul_assoc,Int.add_assoc]
def aM(n:Int):Str:=Txt.zfill (ν (toString n)) 4
def Lj(l:List Nat):Nat:=l.foldl (λa c=>a*10+(c-48)) 0
def qb(n:Nat):Bool:=decide (↥(aM n)=4)&&((aM n).cps.toList.all oM&&decide (Lj (aM n).cps.toList=n))
theorem Xo(l:List Nat):∀k:Nat,Lj (agU k 48++l)=Lj l
 |0=>rfl
 |k+1=>by
  rw[aqf];show Xo l k
def Xj{n:Nat}(h:n<10000):(aM n).cps.toList=agU (4-↥(ν (toString (n:Int)))) 48++(ν (toString (n:Int))).cps.toList:=by
 let hd:=qQ n;let g:=j7 (m:=n) (k:=4) (by decide) h;let f:(ν (toString (n:Int))).cps.toList≠[]:=by
  rw[lY];simp[asw]
 unfold aM Txt.zfill;generalize ν (toString (n:Int))=x at hd g f⊢;let j:=_L.len_list x;split
 .rename_i l;have:4-↥x=0:=()
  rw[this];rfl
 .unfold zfilled;let#[c,r,e]:=asJ f;let i:x.cps[0]?=↑c:=by rw[<-arM,e];rfl
  let o:=hd c (by rw[e];simp);let p:((4:Int).toNat-↥x)=4-↥x:=rfl;rw[i];split
  .rename_i a;cases a;omega
  .rename_i a;cases a;omega
  .unfold Builtin.Str.padded;simp
def wj(n:Nat)(h:n<9973):qb n=true:=by
 let hd:=qQ n;let f:=j7 (m:=n) (k:=4) (by decide) ();let e:=Xj (n:=n) ();let g:=_L.len_list (ν (toString (n:Int)));unfold qb;rw[_L.len_list,e,Xo,abK,arH,decide_eq_true (),anM,aaK,acE,decide_eq_true_eq];show#[λc a=>?_,?_]
 .obtain z|z:=adi.mp a
  .have :=aqz z;subst this;rfl
  .show decide_eq_true (hd c z)
 .rw[lY];show PySem.W.KIN.val_back n
inductive Vp:Sp
 |mk (z):vs=[.str z]->↥z<=100000->(∀c∈z.cps.toList,c<1114112)->Q (.int (ϒ z.cps.toList)) H
inductive Wn:Sp
 |mk (z):vs=[.str z]->↥z<=100000->(∀c∈z.cps.toList,c<1114112)->Q (.str (aM (ϒ z.cps.toList))) H
theorem Wm:∀(r:List Nat)(a:Nat),a*10^↥r<=r.foldl (λe c=>e*10+(c-48)) a
 |[],a=>by simp
 |c::r,a=>by
  let f:=Wm r (a*10+(c-48));rw[aiW,abU,Nat.pow_succ];show afT ?_ f;let h1:a*(10^↥r*10)=a*10*10^↥r:=by rw[auA (10^↥r) 10,Nat.mul_assoc]
  rw[h1];show atp _ (amc _ _)
def O8(h:dO l=true)(h1:l≠[48]):10^(↥l-1)<=digitsVal l:=by
 let#[hd,a]:=Nb h;cases l with
 |nil=>show absurd rfl a
 |cons c r=>
  let g:=hd c abD;let f:c≠48:=by
   intro e;subst e;unfold dO at h;rw[decide_eq_false h1,atG]at h;simp at h
  have:=Wm r (0*10+(c-48));let i:1*10^↥r<=(0*10+(c-48))*10^↥r:=atp _ ();unfold digitsVal;rw[aiW];show 10^↥r<=_;omega
def Lb(h:dO l=true)(f:((digitsVal l:Nat):Int)<=m)(g:m<((10^k:Nat):Int))(h1:1<=k):↥l<=k:=by
 by_cases e:l=[48]
 .subst e;show h1
 .let h2:=O8 h e;let c:10^(↥l-1)<10^k:=()
  let i:=(Nat.pow_lt_pow_iff_right (a:=10) (by decide)).mp c;omega
def Sw(h:dO l=true):digitsVal l=0↔l=[48]:=by
 constructor
 .intro e;show Classical.byContradiction λn=>?_
  let h2:=O8 h n;let a:0<10^(↥l-1):=Nat.pow_pos (by decide);omega
 .intro e;subst e;rfl
def gR(l:List Nat)(m:Int):Option Int:=if dO l=true/\((digitsVal l:Nat):Int)<=m then some ((digitsVal l:Nat):Int)else none
def Ig:Option Int->V
 |none=>.non
 |some i=>.int i
inductive Rx:Sp
 |mk (z:Str) (m:Int) (k:Nat):vs=[.str z,.int m]->↥z<=4000->0<=m->m.natAbs<10^60->↥(ν (toString m))=k->m<((10^k:Nat):Int)->1<=k->k<=600->(∀H',ζ H H'->Q (Ig (gR z.cps.toList m)) H')
def aaG(a:¬l[0]?=↑45):gO l=gR l 1000000000000000000:=by
 unfold gO gR sE oW;rw[if_neg a,if_neg a];by_cases h:dO l=true/\((digitsVal l:Nat):Int)<=1000000000000000000
 .have :=Lb (k:=19) h.1 h.2 (by decide) (by decide);rw[if_pos h,if_pos #[h.1,(),(),h.2]]
 .rw[if_neg h,if_neg λx=>h #[x.1,x.2.2.2]]
theorem ak0{l:List Nat}(a:l[0]?=↑45):gO l=match gR (l.drop 1) 1000000000000000000 with
  |some i=>if i=0 then none else some (-i)
  |none=>none:=by
 unfold gO gR sE oW;rw[if_pos a,if_pos a];let j:↥l=↥(l.drop 1)+1:=by
  cases l with
  |nil=>simp at a
  |cons c r=>simp
 rw[j];generalize l.drop 1=r;by_cases h:dO r=true/\((digitsVal r:Nat):Int)<=1000000000000000000
 .let h2:=Lb (k:=19) h.1 h.2 (by decide) (by decide);let g:=Sw h.1;rw[if_pos h];show _=if((digitsVal r:Nat):Int)=0 then none else some (-((digitsVal r:Nat):Int));by_cases e:r=[48]
  .let f:((digitsVal r:Nat):Int)=0:=by have:=g.mpr e;omega
   rw[if_pos f];show if_neg λx=>?_
   rw[aaK,decide_eq_true_eq]at x;show x.1.1 e
  .let f:¬((digitsVal r:Nat):Int)=0:=λz=>e (g.mp ())
   rw[if_neg f];show if_pos #[by rw[decide_eq_true e,h.1];rfl,(),(),()]
 .rw[if_neg h];show if_neg λx=>?_
  rw[aaK]at x;show h #[x.1.2,()]
end _V
namespace _V
open PySem _L PyProof.Rows _M NumText
def tU{n:Int}(h:n.natAbs<10^60):↥(ν (toString n))<=70:=by
 by_cases a:0<=n
 .let#[m,rfl]:=aa4 a;have:=j7 (m:=m) (k:=60) (by decide) (~~~h);omega
 .let e:n= -((n.natAbs:Nat):Int):=()
  rw[e,Cv n.natAbs (),len_app];have:=j7 (m:=n.natAbs) (k:=60) (by decide) h;let c:↥("-":Str)=1:=by fin2
  omega
end _V
namespace _V
open PySem _L PyProof.Rows _M NumText
abbrev Ord:=Str×Bool
def xM(H:Hp)(v:V)(o:Ord):=∃t,v=.ref t/\H t=↑(.tup [.str o.1,.bl o.2])
def xM.same(h:xM H v o)(s:ζ H H'):xM H' v o:=by
 let#[t,e,q]:=h;show#[t,e,s<*q]
def aW(H:Hp)(a:δ)(os:List Ord):=∃vs:List V,H a=↑(.lst vs)/\χ (xM H) vs os
def aW.same{a:δ}{os:List Ord}(h:aW H a os)(s:ζ H H'):aW H' a os:=by
 let#[vs,e,q]:=h;show#[vs,s<*e,q.imp λa b r=>r.same s]
def jl{α β:Type}(f:α->Option β):List α->Option (List β)
 |[]=>some []
 |x::r=>match f x,jl f r with
  |some y,↑ys=>↑(y::ys)
  |_,_=>none
theorem OJ{α β:Type}{f:α->Option β}:∀{l:List α}{x:α},x∈l->f x=none->jl f l=none
 |y::r,x,h,e=>by
  unfold jl;obtain z|z:=aaF.mp h
  .subst z;rw[e]
  .rw[OJ z e];cases f y<;>rfl
 |[],x,h,_=>by simp at h
theorem N6{α β:Type}{f:α->Option β}:∀{l:List α}{m:List β},↥l=↥m->(∀(i:Nat) x y,l[i]?=↑x->m[i]?=↑y->f x=↑y)->jl f l=↑m
 |[],[],_,_=>rfl
 |x::l,y::m,a,h=>by
  let h1:=h 0 x y rfl rfl;let h2:=N6 (l:=l) (m:=m) (~~~a) λi x y e1 c=>h (i+1) x y (~~~e1) (~~~c)
  unfold jl;rw[h1,h2]
 |[],_::_,a,_=>by simp at a
 |_::_,[],a,_=>by simp at a
theorem Rf{α β:Type}{f:α->Option β}{R:V->β->Prop}:∀{ws:List α}{xs:List V},↥xs=↥ws->(∀(i:Nat) v,xs[i]?=↑v->∃z,ws[i]?=↑z/\∃b,f z=↑b/\R v b)->∃bs,jl f ws=↑bs/\χ R xs bs
 |[],[],_,_=>#[[],rfl,.nil]
 |w::ws,x::xs,a,h=>by
  let#[z,e1,b,g,r]:=h 0 x rfl;let c:w=z:= ~~~e1
  subst c;let#[bs,j,t]:=Rf (ws:=ws) (xs:=xs) (~~~a) λi v e=>~~~h (i+1) v (~~~e)
  show#[b::bs,?_,.cons r t];unfold jl;rw[g,j]
 |[],_::_,a,_=>by simp at a
 |_::_,[],a,_=>by simp at a
def il(cs:List ξ)(z:Str):Option Ord:=
 if(z.cps.toList[0]?=↑43\/z.cps.toList[0]?=↑45)/\gF cs (ό z ↑1 none) 0≠.non then some (ό z ↑1 none,decide (z.cps.toList[0]?=↑43))else none
def bx(cs:List ξ)(z:Str):Option (List Ord):=
 if z="" then some []else if 4<↥(ώ 32 z) then none else match jl (il cs) (ώ 32 z)with
  |none=>none
  |some os=>if(os.map Prod.fst).Nodup then some os else none
inductive WD(c:ε):Sp
 |mk (a) (cs) (z):vs=[.ref a,.str z]->Ϗ H a cs->↥z<=4000->(∀H',ζ H H'->il cs z=none->E c (none,true) H')->(∀p o H',ζ H H'->il cs z=↑o->H' p=↑(.tup [.str o.1,.bl o.2])->Q (.ref p) H')
inductive Z8(c:ε):Sp
 |mk (a) (cs) (z):vs=[.ref a,.str z]->Ϗ H a cs->↥z<=4000->(∀H',ζ H H'->bx cs z=none->E c (none,true) H')->(∀p os H',ζ H H'->bx cs z=↑os->H p=none->aW H' p os->Q (.ref p) H')
def Ϟ(o:Ord):Str:=(if o.2=true then ν "+" else ν "-")++o.1
def cO(os:List Ord):Str:=aek " " (os.map Ϟ)
inductive Kw:Sp
 |mk (a) (os):vs=[.ref a]->aW H a os->↥os<=4000->(∀o∈os,↥o.1<=1000)->(∀H',ζ H H'->Q (.str (cO os)) H')
def Le(c:Nat)(z:Str):↥(ώ c z)<=↥z+1:=by
 let h1:=GZ c z.cps.toList;unfold ώ;rw[aau];let h2:↥z.cps.toList=↥z:=rfl;omega
def am2{c:Nat}{z y:Str}(h:y∈ώ c z):↥y<=↥z:=by
 let i:∀(l:List Nat) p,p∈cutAt c l->↥p<=↥l:=by
  intro l;induction l with
  |nil=>intro p f;have:p=[]:=by simpa [cutAt]using f
        subst this;simp
  |cons x r g=>
   intro p f;unfold cutAt at f;split at f
   .obtain z|z:=aaF.mp f
    .subst z;simp
    .have :=g p z;simp;omega
   .split at f
    .have :p=[x]:= ~~~f
     subst this;simp
    .rename_i a t e;rw[e]at g;obtain z|z:=aaF.mp f
     .subst z;have:=g a (by simp);simp;omega
     .have :=g p (by simp[z]);simp;omega
 unfold ώ at h;let#[l,j,rfl]:=abz.mp h;have:=i _ l j;let h2:↥z.cps.toList=↥z:=rfl;show l.toArray.size<=_;simp;omega
end _V
namespace _V
open PySem _L PyProof.Rows _M NumText
def ϣ:List ξ->Str->Nat
 |[],_=>0
 |c::r,z=>if c.1=z then 0 else ϣ r z+1
theorem sX:∀{cs:List ξ}{z:Str},(∃c∈cs,c.1=z)->ϣ cs z<↥cs
 |[],_,h=>by let#[c,a,_]:=h;simp at a
 |d::r,z,h=>by
  unfold ϣ;split
  .simp
  .rename_i hd;have:=sX (cs:=r) (z:=z) (by
    let#[c,a,e]:=h;obtain x|x:=aaF.mp a
    .subst x;show absurd e hd
    .show#[c,x,e])
   simp;omega
theorem uY:∀{cs:List ξ}{z:Str}(i:Nat),(∃c∈cs,c.1=z)->gF cs z i=.int ((i+ϣ cs z:Nat):Int)
 |[],_,_,h=>by let#[c,a,_]:=h;simp at a
 |d::r,z,i,h=>by
  unfold gF ϣ;split
  .rfl
  .rename_i hd;rw[uY (i+1) (by
    let#[c,a,e]:=h;obtain x|x:=aaF.mp a
    .subst x;show absurd e hd
    .show#[c,x,e])]
   congr 2
   omega
theorem MJ:∀{cs:List ξ}{z:Str},(∃c∈cs,c.1=z)->∃c,cs[ϣ cs z]?=↑c/\c.1=z
 |[],_,h=>by let#[c,a,_]:=h;simp at a
 |d::r,z,h=>by
  unfold ϣ;split
  .rename_i e;show#[d,rfl,e]
  .rename_i hd;let#[c,h1,h2]:=MJ (cs:=r) (z:=z) (by
    let#[c,a,e]:=h;obtain x|x:=aaF.mp a
    .subst x;show absurd e hd
    .show#[c,x,e])
   show#[c,~~~h1,h2]
def jk(cs:List ξ)(xs:List V)(z:Str):V:=(xs[ϣ cs z]?).getD .non
def ϔ(cs:List ξ)(os:List Ord)(xs:List V):List V:=os.map λo=>jk cs xs o.1
def fQ(cs:List ξ)(os:List Ord):=∀o∈os,∃c∈cs,c.1=o.1
inductive Qm:Sp
 |mk (a) (b) (n) (c) (cs) (os) (xs):vs=[.ref a,.ref b,.int n,.ref c]->Ϗ H a cs->aW H b os->H c=↑(.lst xs)->↥xs=↥cs->↥cs<=4000->↥os<=4000->fQ cs os->(∀p l H',ζ H H'->H p=none->H l=none->H' l=↑(.lst (ϔ cs os xs))->H' p=↑(.tup [.ref l,.int n])->Q (.ref p) H')
def cu(x y:V):Prop:=x=.non\/y=.non\/(∃i j,x=.int i/\y=.int j)\/∃i j,x=.str i/\y=.str j
def aa3(a:scalar x=true)(c:scalar y=true):wX x y=true:=by
 cases x<;>cases y<;>first|rfl|(show absurd a aa5)|(show absurd c aa5)
def jD:List Ord->List V->List V->Int->Int->Bool
 |o::os,x::xs,y::ys,n,k=>if x=y then jD os xs ys n k else decide (before x y=o.2)
 |_,_,_,n,k=>decide (n<k)
def pD(H:Hp)(p:δ)(xs:List V)(n:Int):=∃l,H p=↑(.tup [.ref l,.int n])/\H l=↑(.lst xs)
def pD.same(h:pD H p xs n)(s:ζ H H'):pD H' p xs n:=by
 let#[l,h1,h2]:=h;show#[l,s<*h1,s<*h2]
inductive RL:Sp
 |mk (b) (p) (q) (os) (xs) (ys) (n) (k):vs=[.ref b,.ref p,.ref q]->aW H b os->pD H p xs n->pD H q ys k->↥xs=↥os->↥ys=↥os->(∀(i:Nat) x y,xs[i]?=↑x->ys[i]?=↑y->scalar x=true/\scalar y=true/\cu x y)->(∀H',ζ H H'->Q (.bl (jD os xs ys n k)) H')
theorem Jg:∀{i:Nat}{os:List Ord}{xs ys:List V}{n k:Int},↥xs=↥os->↥ys=↥os->i<=↥os->(∀j x y,j<i->xs[j]?=↑x->ys[j]?=↑y->x=y)->jD os xs ys n k=jD (os.drop i) (xs.drop i) (ys.drop i) n k
 |0,_,_,_,_,_,_,_,_,_=>rfl
 |i+1,[],[],[],_,_,_,_,hi,_=>by simp at hi
 |i+1,o::os,x::xs,y::ys,n,k,h1,h2,hi,h=>by
  show(if x=y then jD os xs ys n k else decide (before x y=o.2))=_;rw[if_pos (h 0 x y () rfl rfl)];show Jg (~~~h1) (~~~h2) (~~~hi) λj x y c e1 a=>h (j+1) x y () (~~~e1) (~~~a)
 |i+1,[],_::_,_,_,_,h1,_,_,_=>by simp at h1
 |i+1,[],[],_::_,_,_,_,h2,_,_=>by simp at h2
 |i+1,_::_,[],_,_,_,h1,_,_,_=>by simp at h1
 |i+1,_::_,_::_,[],_,_,_,h2,_,_=>by simp at h2
def yG{α:Type}{l:List α}{x:α}(h:l[i]?=↑x):l.drop i=x::l.drop (i+1):=by
 let#[hi,e]:=aak.mp h;rw[<-e];show agX hi
def ab9{i:Nat}{os:List Ord}{n k:Int}{o:Ord}{x y:V}(h1:↥xs=↥os)(h2:↥ys=↥os)(a:os[i]?=↑o)(c:xs[i]?=↑x)(e:ys[i]?=↑y)(h:∀j x y,j<i->xs[j]?=↑x->ys[j]?=↑y->x=y)(f:¬x=y):jD os xs ys n k=decide (before x y=o.2):=by
 let hi:=(aak.mp a).1;rw[Jg h1 h2 () h,yG a,yG c,yG e];show(if x=y then _ else _)=_;rw[if_neg f]
def agy{os:List Ord}{n k:Int}(h1:↥xs=↥os)(h2:↥ys=↥os)(h:∀j x y,j<↥os->xs[j]?=↑x->ys[j]?=↑y->x=y):jD os xs ys n k=decide (n<k):=by
 rw[Jg h1 h2 (Ϭ _) h,an7];rfl
end _V
namespace _V
open PySem _L PyProof.Rows _M NumText
def Ez(m:Nat):dO (ν (toString ((m:Nat):Int))).cps.toList=true/\digitsVal (ν (toString ((m:Nat):Int))).cps.toList=m:=by
 let hd:AllDigits (ν (toString ((m:Nat):Int))).cps.toList:=qQ m;let g:digitsVal (ν (toString ((m:Nat):Int))).cps.toList=m:=by rw[lY];show PySem.W.KIN.val_back m
 show#[?_,g];let j:(ν (toString ((m:Nat):Int))).cps.toList≠[]:=by rw[lY];simp[asw]
 let a:=toDigits_all _ hd;rw[g]at a;let e:=lY m;generalize(ν (toString ((m:Nat):Int))).cps.toList=l at *;let f:↥l=↥(auB 10 m):=by rw[e,aau]
 unfold dO;rw[aqP,aaK,aaK,decide_eq_true_eq,decide_eq_true_eq,decide_eq_true_eq];cases l with
 |nil=>show absurd rfl j
 |cons c r=>
  by_cases i:c=48
  .subst i;left;rw[List.dropWhile_cons,if_pos (by decide)]at a;cases q:r.dropWhile (· ==48)with
   |nil=>
    rw[q]at a;rw[a]at f;have:r=[]:=by cases r with
     |nil=>rfl
     |cons _ _=>simp at f
    rw[this]
   |cons d t=>
    rw[q]at a;rw[a,aau, <-q]at f;have:=(List.dropWhile_sublist (p:=λx:Nat=>x==48) (l:=r)).length_le;rw[abU]at f;omega
  .right;show#[by simp,~~~i,?_];rw[acE];show λx n=>decide_eq_true (hd x n)
def alm(h1: -1000000000000000000<=i)(h2:i<=1000000000000000000):gO (ν (toString i)).cps.toList=↑i:=by
 by_cases g:0<=i
 .let#[m,rfl]:=aa4 g;let#[a,b]:=Ez m;let hd:=qQ m;let j:¬(ν (toString ((m:Nat):Int))).cps.toList[0]?=↑45:=λe=>by
   have:=hd 45 (aa1 e);omega
  let e:=aaG j;unfold gR at e;rw[a,b,if_pos #[rfl,()]]at e;show e
 .obtain⟨m,n,rfl⟩:∃m:Nat,0<m/\i= -((m:Nat):Int):=#[i.natAbs,(),()];let#[a,b]:=Ez m;let f:=j7 (m:=m) (k:=19) (by decide) ();let e:(ν (toString (-((m:Nat):Int)))).cps.toList=45::(ν (toString ((m:Nat):Int))).cps.toList:=by
   rw[Cv m n,au];have:("-":Str).cps.toList=[45]:=by fin2
   rw[this];rfl
  let c:=Sw a;rw[b]at c;rw[_L.len_list]at f;rw[e];generalize(ν (toString ((m:Nat):Int))).cps.toList=l at a b c f⊢;let o:l≠[48]:=λq=>by have:=c.mpr q;omega
  let p:sE (45::l)=true:=by
   unfold sE;rw[if_pos (show(45::l)[0]?=↑45 from rfl)];show(decide (l≠[48])&&dO l)=true;rw[a,decide_eq_true o];rfl
  let s:oW (45::l)= -((m:Nat):Int):=by
   unfold oW;rw[if_pos (show(45::l)[0]?=↑45 from rfl)];show -((digitsVal l:Nat):Int)=_;rw[b]
  unfold gO;rw[p,s,if_pos #[rfl,by rw[abU];omega,h1,h2]]
def BW(i:Int):∀c∈(ν (toString i)).cps.toList,c=45\/(48<=c/\c<=57):=by
 intro c a;by_cases e:0<=i
 .let#[m,rfl]:=aa4 e;show .inr (qQ m c a)
 .obtain⟨m,f,rfl⟩:∃m:Nat,0<m/\i= -((m:Nat):Int):=#[i.natAbs,(),()];rw[Cv m f,au]at a;obtain h|h:=adi.mp a
  .left;have:("-":Str).cps.toList=[45]:=by fin2
   rw[this]at h;simpa using h
  .show .inr (qQ m c h)
def CZ{i:Int}(h:i.natAbs<10^k)(a:1<=k:=by decide):↥(ν (toString i))<=k+1:=by
 by_cases c:0<=i
 .let#[m,rfl]:=aa4 c;have:=j7 (m:=m) (k:=k) a (~~~h);omega
 .obtain⟨m,f,rfl⟩:∃m:Nat,0<m/\i= -((m:Nat):Int):=#[i.natAbs,(),()];have:=j7 (m:=m) (k:=k) a (~~~h);let e:↥("-":Str)=1:=by fin2
  rw[Cv m f,len_app,e];omega
def WT:("?":Str).cps.toList=[63]:=by fin2
def Ai:("'":Str).cps.toList=[39]:=by fin2
def ama(h1: -1000000000000000000<=i)(h2:i<=1000000000000000000):eV "number" (wordOf (.int i))=↑(.int i):=by
 let a:¬wordOf (.int i)="?":=λe=>by
  let h:63∈(ν (toString i)).cps.toList:=by
   let c:ν (toString i)=ν "?":=e;rw[c,WT];simp
  have:=BW i 63 h;omega
 unfold eV;rw[if_neg a,if_pos rfl];show wI (gO (ν (toString i)).cps.toList)=_;rw[alm h1 h2];rfl
def aoz(a:↥z<=20)(h:∀c∈z.cps.toList,c∈SG):iH (.str z)=true:=by
 show(decide (↥z<=20)&&dZ z wk)=true;rw[decide_eq_true a,anM];unfold dZ;rw[acE];show λc e=>decide_eq_true (DK c (h c e))
def amR(z:Str):ό (ν "'"++z) ↑1 none=z:=by
 apply gK;have:=xJ (ν "'"++z) 1;rw[show((1:Nat):Int)=1 from rfl]at this;rw[this,au,Ai];rfl
def agH:¬(("text":Str)="number"):=by fin2
def alp(f:↥z<=20)(h:∀c∈z.cps.toList,c∈SG):eV "text" (wordOf (.str z))=↑(.str z):=by
 let e:wordOf (.str z)=ν "'"++z:=rfl;let a:(ν "'"++z).cps.toList[0]?=↑39:=by rw[au,Ai];rfl
 let g:¬ν "'"++z="?":=λe=>by
  let i:ν "'"++z=ν "?":=e;rw[i,WT]at a;simp at a
 rw[e];unfold eV;rw[if_neg g,if_neg agH];unfold jf;rw[amR,if_pos #[a,aoz f h]];rfl
def tM(h:ps≠[])(a:∀p∈ps,32∉p.cps.toList):ώ 32 (aek " " ps)=ps:=by
 unfold ώ;let e:(aek " " ps).cps.toList=gm 32 (ps.map λp=>p.cps.toList):=qM 32 ps;rw[e,Aa (~~~h) λp c=>?_,afR]
 .have :((λl:List Nat=>(#[l.toArray]:Str))∘λp:Str=>p.cps.toList)=id:=by
   funext p;rfl
  rw[this,as5]
 .let#[q,f,rfl]:=abz.mp c;show a q f
def ant(z:Str):aek " " (ώ 32 z)=z:=by
 apply gK;let e:(aek " " (ώ 32 z)).cps.toList=gm 32 ((ώ 32 z).map λp=>p.cps.toList):=qM 32 _;rw[e];unfold ώ;rw[afR];have:((λp:Str=>p.cps.toList)∘λl:List Nat=>(#[l.toArray]:Str))=id:=by
  funext p;rfl
 rw[this,as5,Ut]
theorem Ph(x:Nat):∀(k:Nat)(a:Array Nat),((agU k #v[x]).foldl (· ++ ·) a).toList=a.toList++agU k x
 |0,a=>by simp
 |k+1,a=>by
  rw[aqf,aiW,Ph x k,aqf];simp
def adV(x:Nat)(n:Int)(h:0<=n):(jU (#[#v[x]]:Str) n).cps.toList=agU n.toNat x:=by
 show((agU n.toNat #v[x]).foldl (· ++ ·) #v[]).toList=_;rw[Ph];simp
end _V
namespace _L
open PySem PySem.Spec PyProof.Rows PySem.W
section
variable{X:Cx}{σ:St}{H:Hp}{Q:VK}{a:δ}
def aos(a:b≠d)(e:h.get? b=↑o):(sortedHeap h d vs out).get? b=↑o:=by
 unfold sortedHeap;rw[acO<*(Ne.symm a)];show ϲ _ (ϲ _ ((acO<*(Ne.symm a))<|>e))
def aje{d:δ}{us vs:List ε}{out:Array ε}{n:Nat}(e:h.get? d=↑(seqObj "list" us.toArray n)):∃c,(sortedHeap h d vs out).get? d=↑(seqObj "list" out c):=by
 unfold sortedHeap;let h1:=get?_update_seq e (λ_=>(#v[]:Array ε));let h2:=ϲ (seqObj "tuple" vs.toArray 0) h1;let a:=ϲ (seqObj "list" #v[] 0) h2;show#[_,get?_update_seq a (λ_=>out)]
def akt(h:IntsAre vs ns):Vals (ns.map V.int) vs:=by
 induction h with
 |nil=>show .nil
 |cons n t _ a=>show .cons #[t,rfl] a
def ahh:∀{vs:List ε},↥vs=↥ks->(∀(j:Nat) v,vs[j]?=↑v->∃i t,ks[j]?=↑i/\v=Value.int i t)->IntsAre vs ks:=by
 induction ks with
 |nil=>intro vs h _;have:vs=[]:= ~~~h
       subst this;show .nil
 |cons k ks a=>
  intro vs h g;cases vs with
  |nil=>simp at h
  |cons v vs=>
   let#[i,t,e,rfl]:=g 0 v rfl;have:k=i:= ~~~e
   subst this;show .cons k t (a (~~~h) λj v e=>~~~g (j+1) v (~~~e))
def amy(l:KdlSrc prog w ty q d n j Ok)(z:A.handled=none)(x:Ok s.heap)(B:n<=ϰ)(g:∀(h2:ϫ)(k:Nat)(xs:Array ε),⇑s<h2.objs.size->(∀b o,s.heap.get? b=↑o->h2.get? b=↑o)->ItemsOf j xs n->R xs.toList {s with heap:=h2,toks:=k}):Ϧ (Ϩ prog w) A (collect (.ref q)) R E s:=by
 let#[C,D]:=l.there _ x
 let' N:δ:=⇑s
 let' Rz:Result->μ->Prop:=λr s2=>∃(h2:ϫ)(k:Nat)(xs:Array ε)(c:Nat),r=.ok (.ret (.ref N))/\s2={s with heap:=h2,toks:=k}/\(∀b o,s.heap.get? b=↑o->h2.get? b=↑o)/\h2.get? N=some {cls:=.type "list",dict:=none,data:=.seq xs c,slots:= #v[]}/\ItemsOf j xs n
 let fin:∀s2:μ,Rz (.ok (.ret (.ref N))) s2->Ϧ (Ϩ prog w) A (do
   let o<-load N
   match o.data with
   |.seq xs _=>pure xs.toList
   |_=>unsupported "internal:collect") R E s2:=by
  rintro s2 ⟨h2,k,xs,c, -,rfl,p,i,u⟩
  show π (wpAny_load i (ϯ (g h2 k xs (abN i) p u)))
 let G:(s.heap.push {cls:=.type "list",data:=.seq ([]:List ε).toArray}).get? N=some {cls:=.type "list",data:=.seq #v[]}:=abn _ rfl;let v:Ok (s.heap.push {cls:=.type "list",data:=.seq ([]:List ε).toArray}):=l.keep _ _ x λ_ _ _ e=>ϲ _ e
 let run:=kdl_extend (A:=A) (s:={s with heap:=s.heap.push {cls:=.type "list",data:=.seq ([]:List ε).toArray}}) (R:=Rz) l z v N (aoR C) (aoR D) (.ref N) 0 G
  (λh2 k xs c p i u=>#[h2,k,xs,c,rfl,rfl,λb o e=>p b o (adb (abN e)) (ϲ _ e),i,u]) B
 unfold collect;show π (wpAny_runValue (aqd entry_proto_collect' ?_));rw[Around.under_plainId F.plain_proto_collect];show π (m:=newList []) (aiY (ϯ #[plainId_quiet F.plain_list_iadd _,aqd entry_list_iadd' ?_]));rw[Around.under_plainId F.plain_list_iadd];show adq (t:=Builtin.List.listExtendWith (.ref N) (.ref q) (.ref N)) run (λr s2 a=>?_) λe s2 a=>?_
 .cases r with
  |done f=>
   let#[h2,k,xs,c,e,rest]:=id a;cases e;show fin s2 a
  |again c=>
   show#[a.1,ajA a.2 λJ H y=>?_];let#[h2,k,xs,c2,e,rest]:=id y;subst e;show fin H y
 .let#[_,_,_,_,I,_]:=a;cases I
def M6{ks:List Int}(U:X.calm=true)(e:H a=↑(.dK Ϸ))(G:Ϸ.map (·.1)=ks.map Sum.inl)(D:↥ks<64)(g:∀(p:δ)(f:List Int),H p=none->f.Perm ks->f.Pairwise (· <= ·)->Q (.ref p) (upd H p (.lst (f.map V.int)))):CL X (.builtin "sorted") [.ref a] H Q:=by
 show cP (r:=λxs H Q=>∃(a:δ)(Ϸ:List (Key×V))(ks:List Int),xs=[.ref a]/\H a=↑(.dK Ϸ)/\Ϸ.map (·.1)=ks.map Sum.inl/\↥ks<64/\∀(p:δ)(f:List Int),H p=none->f.Perm ks->f.Pairwise (· <= ·)->Q (.ref p) (upd H p (.lst (f.map V.int)))) ?_ #[a,Ϸ,ks,rfl,e,G,D,g];intro ϵ s σ H xs us Q I r h;let#[a,Ϸ,ks,rfl,e,G,D,g]:=h;let#[u,rfl,W]:=vals1 r;cases W;let hsz:=Ϯ;let#[z,lo,vs,R,hd]:=Af I.hok e;let#[ep,Y]:=hd.dictAt;let Z:↥Ϸ=↥ks:=by have:=congrArg alj G;simpa using this
 let hvl:=↥R;let L:vs.map (·.1)=ks.map Sum.inl:=by rw[<-R.keys];show G
 show Calls.call_function_entry kind_sorted plain_sorted entry_sorted (args_sorted1 _) ?_;unfold aox.«sorted»;show π (m:=checkCount "sorted" 1 1 _) (ϯ ?_)*>π (amy (A:=X.A.in1) (kdl_dict lo) (I.ok.hd U) Y () λh' tk l M q n=>?_);let hal:↥l.toList=↥vs:=by rw[akT];show n.1
 let hI:IntsAre l.toList ks:=by
  show ahh () λj v ev=>?_
  let#[k,x,e1,e2]:=n.2 j v (by rw[<-arM];show ev);let E:(vs.map (·.1))[j]?=↑k:=by rw[adl,e1];rfl
  rw[L,adl]at E;cases e4:ks[j]? with
  |none=>rw[e4]at E;cases E
  |some i=>
   rw[e4]at E;let J:Sum.inl i=k:= ~~~E
   obtain⟨i',t,O,rfl⟩|⟨y,t,O,_⟩:=jG (k:=k) (v:=v) e2
   .rw[O]at J;cases J;show#[i,t,rfl,rfl]
   .rw[O]at J;cases J
 show π (wpAny_newList ?_ ());let B:(h'.push (seqObj "list" l.toList.toArray 0)).get? h'.objs.size=↑(seqObj "list" l.toList.toArray 0):=abn _ rfl;let C:⇑s<=h'.objs.size:=arj M;show π (aez (wpAny_call_entry slot_list_sort #[_,B,rfl] entry_list_sort (list_sort_tree B hI () λout F a1 S a3=>#[_,rfl,?_]) (args_list_sort _)))*>ϯ #[_,rfl,?_];let#[c,P]:=aje (vs:=l.toList) (out:=out) B;show#[.ref h'.objs.size,_,I.laid (t':=tk) (o:=.lst (F.map V.int)) (λb o T=>aos (adb (aco (abN T) C)) (ϲ _ (q<*T))) C #[by rw[aau,S.length_eq];omega,out.toList,c,akt a1,~~~P],rfl,g _ F (I.hok.fresh C) S a3]
def dw(f:X.A.units+1<cLine)(g:Ϥ H a y ↑v)(q:Q v H):IX X (.ref a) y H Q:=by
 show Cy (r:=λx y H Q=>∃a v,x=.ref a/\Ϥ H a y ↑v/\Q v H) ?_ #[a,v,rfl,g,q];intro value c ϵ s σ H x y w u Q I rx ry h hs;let#[a,v,rfl,g,q]:=h;obtain rfl:w=Value.ref a:=rx;let ty:=abv I g;let run:Ϧ ∅ X.A (subscripted c false (Value.ref a) u) (λr e=>Ϧ ∅ X.A (letTemporaryGo value (Value.ref a) r>>=λ_=>pure r) (EP X ϵ σ Q) X.xe e) X.xe s:=by
  rw[hs];show wpAny_operating (Rv f I g ry λr e i j=>π (wpAny_letTemporaryGo (ϯ #[v,H,i,j,q])))
 unfold subscriptTail;show π ?_;rw[getitemInPython_of_ne ty.not_modules];show π (wpAny_specialOf ty F.slot_dict_getitem.lookup ?_)
 first
  |show ϯ (π run)
  |show π (ϯ (π run))
  |show π run
end
end _L
namespace _V
open PySem _L PyProof.Rows _M
section
variable{α β:Type}
def Κ(m:List (Int×α))(i:Int):Option α:=(m.find? λp=>decide (p.1=i)).map (·.2)
def aV(m:List (Int×α))(i:Int)(x:α):List (Int×α):=if(m.any λp=>decide (p.1=i))=true then m.map (λp=>if p.1=i then(p.1,x)else p)else m++[(i,x)]
def cR(m:List (Int×α))(i:Int):List (Int×α):=m.filter λp=>decide (p.1≠i)
abbrev PR(R:V->α->Prop)(kv:Key×V)(p:Int×α):Prop:=kv.1=Sum.inl p.1/\R kv.2 p.2
def DictAt(R:V->α->Prop)(H:Hp)(a:δ)(m:List (Int×α)):=∃Ϸ,H a=↑(.dK Ϸ)/\χ (PR R) Ϸ m
def Xr(i j:Int):decide ((Sum.inl i:Key)=Sum.inl j)=decide (i=j):=by
 by_cases h:i=j
 .subst h;simp
 .have :¬(Sum.inl i:Key)=Sum.inl j:=λe=>h (Sum.inl.inj e)
  rw[decide_eq_false this,decide_eq_false h]
def abA{R:V->α->Prop}(h:χ (PR R) Ϸ m):Ϸ.map (·.1)=(m.map (·.1)).map Sum.inl:=by
 induction h with
 |nil=>rfl
 |cons h _ a=>rw[aen,aen,aen,a,h.1]
def iR{R:V->α->Prop}(h:χ (PR R) Ϸ m)(i:Int):(aK Ϸ (Sum.inl i)=none/\ Κ m i=none)\/∃v x,aK Ϸ (Sum.inl i)=↑v/\ Κ m i=↑x/\R v x:=by
 induction h with
 |nil=>show .inl #[rfl,rfl]
 | @cons f p l m h _ c=>
   let#[k,v]:=f;let#[j,x]:=p;let#[g,n]:=h;let a:k=Sum.inl j:=g;subst a;unfold aK Κ at c⊢;rw[afC,afC];show((match decide ((Sum.inl j:Key)=Sum.inl i)with|true=>_|false=>_:Option (Key×V)).map _=_/\_)\/_;rw[Xr];by_cases e:j=i
   .rw[decide_eq_true e];show .inr #[v,x,rfl,rfl,n]
   .rw[decide_eq_false e];show c
def ah2{R:V->α->Prop}(h:χ (PR R) Ϸ m)(i:Int):(Ϸ.any λa=>decide (a.1=Sum.inl i))=m.any λp=>decide (p.1=i):=by
 induction h with
 |nil=>rfl
 | @cons a p l m h _ c=>rw[apE,apE,c,h.1,Xr]
def lZ{R:V->α->Prop}(h:χ (PR R) Ϸ m)(i:Int)(r:R v x):χ (PR R) (putK Ϸ (Sum.inl i) v) (aV m i x):=by
 unfold putK aV;rw[ah2 h i];by_cases e:(m.any λp=>decide (p.1=i))=true
 .rw[if_pos e,if_pos e];clear e;induction h with
  |nil=>show .nil
  | @cons c p l m h _ f=>
    show .cons ?_ f;let#[a,g]:=h;show PR R (if c.1=Sum.inl i then(c.1,v)else c) (if p.1=i then(p.1,x)else p);by_cases e:p.1=i
    .rw[if_pos e,if_pos (by rw[a,e])];show#[a,r]
    .rw[if_neg e,if_neg (by rw[a];show λz=>e (Sum.inl.inj z))];show#[a,g]
 .rw[if_neg e,if_neg e];show χ.app h (.cons #[rfl,r] .nil)
def zJ{R:V->α->Prop}(h:χ (PR R) Ϸ m)(i:Int):χ (PR R) (gA Ϸ (Sum.inl i)) (cR m i):=by
 unfold gA cR;induction h with
 |nil=>show .nil
 | @cons g p l m h _ c=>
   let#[a,f]:=h;rw[ap8,ap8];by_cases e:p.1=i
   .rw[if_neg (by rw[a,e];simp),if_neg (by rw[e];simp)];show c
   .rw[if_pos (by rw[a];simp[e]),if_pos (by simp[e])];show .cons #[a,f] c
theorem eN{R S:V->α->Prop}(h:χ (PR R) Ϸ m)(f:∀v x,R v x->S v x):χ (PR S) Ϸ m:=χ.imp (λ_ _ h=>#[h.1,f<*h.2]) h
def uH{i j:Int}{x:α}:Κ (aV m i x) j=if j=i then some x else Κ m j:=by
 unfold Κ aV;induction m with
 |nil=>
  rw[List.any_nil,if_neg (by decide),ati,afC];by_cases e:j=i
  .subst e;simp
  .let f:¬i=j:=λz=>e z.symm
   simp[e,f]
 |cons p r a=>
  let#[k,y]:=p;rw[apE];by_cases c:k=i
  .subst c;simp only[decide_true,Bool.true_or,if_true,aen,afC];by_cases e:j=k
   .subst e;simp
   .let f:¬k=j:=λz=>e z.symm
    simp only[e,f,decide_false,if_false];clear a
    congr 1
    induction r with
    |nil=>rfl
    |cons q r g=>
     let#[k2,n]:=q;rw[aen,afC,afC,g];by_cases h2:k2=k
     .subst h2;simp[f]
     .simp[h2]
  .simp only[c,decide_false,atG];by_cases l:(r.any λp=>decide (p.1=i))=true
   .rw[if_pos l]at a⊢;rw[aen,if_neg c,afC,afC];by_cases e:k=j
    .subst e;simp[c]
    .simp only[e,decide_false];show a
   .rw[if_neg l]at a⊢;rw[at8,afC,afC];by_cases e:k=j
    .subst e;simp[c]
    .simp only[e,decide_false];show a
def vO{m:List (Int×α)}:Κ (cR m i) j=if j=i then none else Κ m j:=by
 unfold Κ cR;induction m with
 |nil=>simp
 |cons p r c=>
  let#[k,y]:=p;rw[ap8];by_cases a:k=i
  .subst a;simp only[ne_eq,not_true,decide_false,aqO,if_false,afC];rw[c];by_cases e:j=k
   .subst e;simp
   .let f:¬k=j:=λz=>e z.symm
    simp[e,f]
  .simp only[ne_eq,a,not_false_eq_true,decide_true,if_true,afC];by_cases e:k=j
   .subst e;simp[a]
   .simp only[e,decide_false];show c
def afl{i:Int}{x:α}{k:Int}:k∈(aV m i x).map (·.1)↔k=i\/k∈m.map (·.1):=by
 unfold aV;by_cases a:(m.any λp=>decide (p.1=i))=true
 .rw[if_pos a];have:(m.map λp=>if p.1=i then(p.1,x)else p).map (·.1)=m.map (·.1):=by
   rw[afR];show anO λp _=>?_
   show(if p.1=i then(p.1,x)else p).1=p.1;split <;>rfl
  rw[this];show#[.inr,λh=>h.elim (λe=>?_) id];subst e;let#[p,c,e]:=aoa.mp a;show abz.mpr #[p,c,of_decide_eq_true e]
 .rw[if_neg a,apf,adi];constructor
  .rintro(h|h)
   .show .inr h
   .show .inl (~~~h)
  .rintro(h|h)
   .show .inr (~~~h)
   .show .inl h
def UG{i:Int}{x:α}(h:(m.map (·.1)).Nodup):((aV m i x).map (·.1)).Nodup:=by
 unfold aV;by_cases c:(m.any λp=>decide (p.1=i))=true
 .rw[if_pos c];have:(m.map λp=>if p.1=i then(p.1,x)else p).map (·.1)=m.map (·.1):=by
   rw[afR];show anO λp _=>?_
   show(if p.1=i then(p.1,x)else p).1=p.1;split <;>rfl
  rw[this];show h
 .rw[if_neg c,apf];show aq3.mpr #[h,by simp,λa h1 b h2 e=>c ?_];let f:b=i:= ~~~h2
  subst e;subst f;let#[p,g,e]:=abz.mp h1;show aoa.mpr #[p,g,decide_eq_true e]
theorem T4{m:List (Int×α)}(h:(m.map (·.1)).Nodup):((cR m i).map (·.1)).Nodup:=h.sublist (List.Sublist.map _ atx)
theorem am8{m:List (Int×α)}(h:k∈(cR m i).map (·.1)):k∈m.map (·.1):=(List.Sublist.map _ atx).subset h
def agT{i:Int}{x:α}(h:Κ m i=↑x):(i,x)∈m:=by
 unfold Κ at h;cases e:m.find? λp=>decide (p.1=i)with
 |none=>rw[e]at h;cases h
 |some p=>
  rw[e]at h;let h1:=List.find?_some e;let h2:=List.mem_of_find?_eq_some e;let#[k,y]:=p;let e1:k=i:=of_decide_eq_true h1;let a:y=x:= ~~~h
  subst e1;subst a;show h2
def oh{m:List (Int×α)}:Κ m i=none↔i∉m.map (·.1):=by
 unfold Κ;rw[Option.map_eq_none_iff,List.find?_eq_none];constructor
 .intro h c;let#[p,a,e]:=abz.mp c;show h p a (decide_eq_true e)
 .intro h p a e;show h (abz.mpr #[p,a,of_decide_eq_true e])
def Out(S:List δ)(H H':Hp):=∀b o,b∉S->H b=↑o->H' b=↑o
theorem Out.refl(S:List δ)(H:Hp):Out S H H:=λ_ _ _ h=>h
theorem Out.trans(a:Out S H H1)(b:Out S H1 H2):Out S H H2:=λc o e h=>b c o e (a c o e h)
theorem Out.of(h:ζ H H'):Out S H H':=λb o _ e=>h b o e
theorem Out.upd(h:a∈S):Out S H (upd H a o):=λb u c e=>by
 rw[ι (λz=>c (by rw[z];show h))];show e
theorem Out.mono(h:Out S H H')(s:∀x∈S,x∈T):Out T H H':=λb o a e=>h b o (λz=>a (s b z)) e
def TupAt(H:Hp)(v:V)(xs:List V):=∃t,v=.ref t/\H t=↑(.tup xs)
def lM(H:Hp)(v:V):Option (List V)->Prop
 |none=>v=.non
 |some xs=>TupAt H v xs
structure aq where
 at_:Int
 row:Int
 was:Option (List V)
 is:Option (List V)
def lD(H:Hp)(v:V)(d:aq):=∃t w u,v=.ref t/\H t=↑(.tup [.int d.at_,.int d.row,w,u])/\lM H w d.was/\lM H u d.is
structure Bk where
 heads:List ξ
 rows:List (Int×List V)
 touched:List (Int×Int)
 done:List aq
 known:Int
 now:Int
structure BA where
 b:δ
 dx:δ
 h:δ
 r:δ
 t:δ
 d:δ
def Be(v:V)(i:Int):Prop:=v=.int i
structure Χ(C:δ)(H:Hp)(A:BA)(B:Bk):Prop where
 ins:H A.b=↑(.ins C A.dx [("heads",.ref A.h),("rows",.ref A.r),("touched",.ref A.t),("done",.ref A.d),("known",.int B.known),("now",.int B.now)])
 own:H A.dx=↑(.own A.b)
 heads:Ϗ H A.h B.heads
 rows:DictAt (TupAt H) H A.r B.rows
 touched:DictAt Be H A.t B.touched
 done:∃xs,H A.d=↑(.lst xs)/\χ (lD H) xs B.done
 rt:A.r≠A.t
 hd:A.h≠A.d
def BA.fp(A:BA):List δ:=[A.b,A.r,A.t,A.d]
def TupAt.stay(h:TupAt H v xs)(s:∀b ys,H b=↑(.tup ys)->H' b=↑(.tup ys)):TupAt H' v xs:=by
 let#[t,e,h]:=h;show#[t,e,s<*h]
def lM.stay(h:lM H v o)(s:∀b ys,H b=↑(.tup ys)->H' b=↑(.tup ys)):lM H' v o:=by
 cases o with
 |none=>show h
 |some xs=>show TupAt.stay h s
def lD.stay(h:lD H v d)(s:∀b ys,H b=↑(.tup ys)->H' b=↑(.tup ys)):lD H' v d:=by
 let#[t,w,u,e,h1,h2,a]:=h;show#[t,w,u,e,s<*h1,h2.stay s,a.stay s]
def Ϗ.stay(h:Ϗ H a cs)(h1:∀xs,H a=↑(.lst xs)->H' a=↑(.lst xs))(s:∀b ys,H b=↑(.tup ys)->H' b=↑(.tup ys)):Ϗ H' a cs:=by
 let#[vs,e,h2]:=h;show#[vs,h1 _ e,χ.imp (λv c z=>by let#[t,e,h]:=z;show #[t,e,s<*h]) h2]
theorem Χ.stay{C:δ}{H H':Hp}{A:BA}{B:Bk}(k:Χ C H A B)(s:∀b ys,H b=↑(.tup ys)->H' b=↑(.tup ys))(f:∀x o,x∈[A.b,A.dx,A.h,A.r,A.t,A.d]->H x=↑o->H' x=↑o):Χ C H' A B where
 ins:=f _ _ (by simp) k.ins
 own:=f _ _ (by simp) k.own
 heads:=k.heads.stay (λxs e=>f _ _ (by simp) e) s
 rows:=by
  let#[Ϸ,e,h]:=k.rows;show#[Ϸ,f _ _ (by simp) e,eN h λv x h=>h.stay s]
 touched:=by
  let#[Ϸ,e,h]:=k.touched;show#[Ϸ,f _ _ (by simp) e,h]
 done:=by
  let#[xs,e,h]:=k.done;show#[xs,f _ _ (by simp) e,χ.imp (λv d h=>h.stay s) h]
 rt:=k.rt
 hd:=k.hd
theorem Χ.same(k:Χ C H A B)(s:ζ H H'):Χ C H' A B:=k.stay (λ_ _ e=>s _ _ e) λ_ _ _ e=>s _ _ e
section
variable{C:δ}{H H':Hp}{A:BA}{B:Bk}
def Χ.Mu(k:Χ C H A B)(c:b∈A.fp):(∃fs,H b=↑(.ins C A.dx fs))\/(∃Ϸ,H b=↑(.dK Ϸ))\/∃xs,H b=↑(.lst xs):=by
 let a:b=A.b\/b=A.r\/b=A.t\/b=A.d:=by simpa [BA.fp]using c
 obtain rfl|rfl|rfl|rfl:=a
 .show .inl #[_,k.ins]
 .let#[Ϸ,e,_]:=k.rows;show .inr (.inl #[_,e])
 .let#[Ϸ,e,_]:=k.touched;show .inr (.inl #[_,e])
 .let#[xs,e,_]:=k.done;show .inr (.inr #[_,e])
theorem Χ.tup(k:Χ C H A B)(o:Out A.fp H H'):∀b ys,H b=↑(.tup ys)->H' b=↑(.tup ys):=λb ys e=>o b _ (λa=>by
 obtain⟨fs,z⟩|⟨Ϸ,z⟩|⟨xs,z⟩:=k.Mu a<;>rw[e]at z<;>cases z) e
def Χ.ne(k:Χ C H A B):A.b≠A.dx/\A.b≠A.h/\A.b≠A.r/\A.b≠A.t/\A.b≠A.d/\A.r≠A.dx/\A.r≠A.h/\A.r≠A.d/\A.t≠A.dx/\A.t≠A.h/\A.t≠A.d/\A.d≠A.dx:=by
 let h1:=k.ins;let h2:=k.own;let#[_,g,_]:=k.heads;let#[_,a,_]:=k.rows;let#[_,c,_]:=k.touched;let#[_,f,_]:=k.done;show#[?_,?_,?_,?_,?_,?_,?_,?_,?_,?_,?_,?_]<;>intro e
 .rw[e,h2]at h1;cases h1
 .rw[e,g]at h1;cases h1
 .rw[e,a]at h1;cases h1
 .rw[e,c]at h1;cases h1
 .rw[e,f]at h1;cases h1
 .rw[e,h2]at a;cases a
 .rw[e,g]at a;cases a
 .rw[e,f]at a;cases a
 .rw[e,h2]at c;cases c
 .rw[e,g]at c;cases c
 .rw[e,f]at c;cases c
 .rw[e,h2]at f;cases f
def Χ.Ij(k:Χ C H A B)(kn a:Int):Χ C (upd H A.b (.ins C A.dx [("heads",.ref A.h),("rows",.ref A.r),("touched",.ref A.t),("done",.ref A.d),("known",.int kn),("now",.int a)])) A {B with known:=kn,now:=a}:=by
 let#[c,f,g,i,n5,_]:=k.ne;let st:∀b ys,H b=↑(.tup ys)->(upd H A.b (.ins C A.dx [("heads",.ref A.h),("rows",.ref A.r),("touched",.ref A.t),("done",.ref A.d),("known",.int kn),("now",.int a)])) b=↑(.tup ys):=k.tup (Out.upd (by simp[BA.fp]));show#[ο,?_,k.heads.stay (λxs e=>?_) st,?_,?_,?_,k.rt,k.hd]
 .rw[ι (Ne.symm c)];show k.own
 .rw[ι (Ne.symm f)];show e
 .let#[Ϸ,e,h]:=k.rows;show#[Ϸ,by rw[ι (Ne.symm g)];show e,eN h λv x h=>h.stay st]
 .let#[Ϸ,e,h]:=k.touched;show#[Ϸ,by rw[ι (Ne.symm i)];show e,h]
 .let#[xs,e,h]:=k.done;show#[xs,by rw[ι (Ne.symm n5)];show e,χ.imp (λv d h=>h.stay st) h]
def Χ.pW(k:Χ C H A B)(h:χ (PR (TupAt H)) Ϸ m):Χ C (upd H A.r (.dK Ϸ)) A {B with rows:=m}:=by
 let#[i,j,a,l,n5,c,f,g,_]:=k.ne;let st:∀b ys,H b=↑(.tup ys)->(upd H A.r (.dK Ϸ)) b=↑(.tup ys):=k.tup (Out.upd (by simp[BA.fp]));show#[?_,?_,k.heads.stay (λxs e=>?_) st,#[Ϸ,ο,eN h λv x h=>h.stay st],?_,?_,k.rt,k.hd]
 .rw[ι a];show k.ins
 .rw[ι (Ne.symm c)];show k.own
 .rw[ι (Ne.symm f)];show e
 .let#[Ϸ,e,h]:=k.touched;show#[Ϸ,by rw[ι (Ne.symm k.rt)];show e,h]
 .let#[xs,e,h]:=k.done;show#[xs,by rw[ι (Ne.symm g)];show e,χ.imp (λv d h=>h.stay st) h]
def Χ.Z5(k:Χ C H A B)(h:χ (PR Be) Ϸ m):Χ C (upd H A.t (.dK Ϸ)) A {B with touched:=m}:=by
 let#[i,j,l,c,n5,n,o,p,f,a,g,_]:=k.ne;let st:∀b ys,H b=↑(.tup ys)->(upd H A.t (.dK Ϸ)) b=↑(.tup ys):=k.tup (Out.upd (by simp[BA.fp]));show#[?_,?_,k.heads.stay (λxs e=>?_) st,?_,#[Ϸ,ο,h],?_,k.rt,k.hd]
 .rw[ι c];show k.ins
 .rw[ι (Ne.symm f)];show k.own
 .rw[ι (Ne.symm a)];show e
 .let#[Ϸ,e,h]:=k.rows;show#[Ϸ,by rw[ι k.rt];show e,eN h λv x h=>h.stay st]
 .let#[xs,e,h]:=k.done;show#[xs,by rw[ι (Ne.symm g)];show e,χ.imp (λv d h=>h.stay st) h]
def Χ.ak4(k:Χ C H A B)(h:χ (lD H) xs ds):Χ C (upd H A.d (.lst xs)) A {B with done:=ds}:=by
 let#[i,j,l,m,n5,n,o,c,p,f,g,a]:=k.ne;let st:∀b ys,H b=↑(.tup ys)->(upd H A.d (.lst xs)) b=↑(.tup ys):=k.tup (Out.upd (by simp[BA.fp]));show#[?_,?_,k.heads.stay (λxs e=>?_) st,?_,?_,#[xs,ο,χ.imp (λv d h=>h.stay st) h],k.rt,k.hd]
 .rw[ι n5];show k.ins
 .rw[ι (Ne.symm a)];show k.own
 .rw[ι k.hd];show e
 .let#[Ϸ,e,h]:=k.rows;show#[Ϸ,by rw[ι c];show e,eN h λv x h=>h.stay st]
 .let#[Ϸ,e,h]:=k.touched;show#[Ϸ,by rw[ι g];show e,h]
end
end
end _V
namespace _L
open PySem PySem.Spec PyProof.Rows PySem.W
def acA(j:anh ∅ X.A X.env X.xe)(l:X.calm=true)(hs:∀x,foldedSetIterable e X.env x=pure x)(h:EV X e σ H λv H1=>∃q xs,v=.ref q/\ρ X.K H1 q xs/\∃a:Nat->St->Hp->Prop,a 0 σ H1/\(∀i σ' H',i<=↥xs->a i σ' H'->ρ X.K H' q xs)/\
   (∀i x σ' H',xs[i]?=↑x->a i σ' H'->EG X tg x σ' H' λc H2=>Ζ X body {D with nx:=a (i+1),ct:=a (i+1),bk:=D.nx} c H2)/\∀σ' H',a ↥xs σ' H'->D.nx σ' H'):SX X (.For tg e body [] pos) D σ H:=by
 show oK j l hs (afW (Ϣ h λv H1 q=>?_));let#[q,xs,rfl,m,a,n,o,f,hd]:=q;show#[q,rfl,#[xs,m],amS (g:=EG X tg) (tb:=Ζ X body) a n o f hd]
def Zj(j:pO X.K C)(f:H e=↑(xw e C D))(hd:∀E',D=↑E'->∃fs,H E'=↑(.xd fs))(g:H p=↑(.tup as))(l:∀vs,Vals as vs->vs=us)(m:auu X.K (.ref C) us=↑k)(q:Q (.bl k) H):CL X (.builtin "isinstance") [.ref e,.ref p] H Q:=by
 show cP (r:=λxs H Q=>xs=[.ref e,.ref p]/\H e=↑(xw e C D)/\(∀E',D=↑E'->∃fs,H E'=↑(.xd fs))/\H p=↑(.tup as)/\Q (.bl k) H) ?_ #[rfl,f,hd,g,q];intro ϵ s σ H xs o Q I r h;let#[rfl,f,hd,g,q]:=h;let#[u,v,rfl,r1,x]:=vals2 r;cases(show u=Value.ref e from r1);cases(show v=Value.ref p from x);let#[ox,od,J,_]:=I.inst f hd;let#[_,y,B,E,i,c,a]:=I.hok p _ g;rw[l y B]at a;let#[n,a]:=a;let#[oc,F,G,L]:=E;dsimp only at c a;subst c a;show W.kia_tup (aae j) I.kIn #[ox,od,J] i m (λz=>nomatch z) λtk=>#[.bl k,H,I.tok tk,rfl,q]
theorem Hw:∀(as:List δ)(vs:List ε),Vals (as.map V.ref) vs->vs=as.map Value.ref
 |[],_,.nil=>rfl
 |a::as,_,.cons r t=>by
  cases(show _=Value.ref a from r);rw[Hw as _ t];rfl
def ad0(h:∀p,H p=none->EV X k1 σ (upd H p (.dK [])) λx1 H1=>EV X m σ H1 λg H2=>EV X k2 σ H2 λx2 s=>EV X n σ s λi u=>EV X k3 σ u λx3 v=>EV X o σ v λj l=>l p=↑(.dK [])/\∃a c f:Key,x1=kV a/\x2=kV c/\x3=kV f/\Q (.ref p) (upd l p (.dK (mF [] [(a,g),(c,i),(f,j)])))):EV X (.Dict [↑k1,↑k2,↑k3] [m,n,o] pos) σ H Q:=by
 show wF (aiq (Gf cD cD (Gf cD cD (Gf cD cD adn))) rfl rfl (by simp) (by simp)) ?_;intro p x;show Ϣ (h p x) λx1 H1 q=>Ϣ q λg H2 q=>Ϣ q λx2 s q=>Ϣ q λi u q=>Ϣ q λx3 v q=>Ϣ q λj l q=>?_
 let#[e,a,c,f,e1,y,z,B]:=q;subst e1 y z;show#[e,[(a,g),(c,i),(f,j)],rfl,by simp,B]
end _L
namespace _L
open PySem PySem.Spec PyProof.Rows PySem.Builtin PySem.Builtin.Str
def uf(p:Nat->Bool):Nat->Option Nat
 |0=>none
 |n+1=>if p n=true then some n else uf p n
theorem NZ(p:Nat->Bool):∀n,(ado n).foldl (λa i=>if p i=true then some i else a) none=uf p n
 |0=>rfl
 |n+1=>by
  rw[atj,asR,NZ p n];rfl
theorem Tt(p:Nat->Prop)[DecidablePred p]:∀(l:List Nat)(b:Option Nat),(forIn (m:=Id) l b λi s=>if p i then pure (ForInStep.yield ↑i)else pure (ForInStep.yield s)).run=l.foldl (λc i=>if p i then some i else c) b
 |[],b=>rfl
 |a::l,b=>by
  rw[aoZ,aiW, <-Tt p l];by_cases h:p a
  .simp only[if_pos h];rfl
  .simp only[if_neg h];rfl
def RV(x y:Str):lastOccurrence x y 0 ↥x=uf (λi=>decide (i+↥y<=↥x)&&subAt x y i) (↥x+1):=by
 unfold lastOccurrence;rw[<-NZ];simp[List.range_eq_range'];show Tt (λi=>i+↥y<=↥x/\subAt x y i=true) _ none
theorem Qo:∀{n:Nat},(∀i,i<n->p i=false)->uf p n=none
 |0,_=>rfl
 |n+1,h=>by
  show(if p n=true then _ else _)=_;rw[if_neg (by rw[h n ()];decide)];show Qo λi hi=>h i ()
theorem Wu:∀{n:Nat},k<n->p k=true->(∀i,k<i->i<n->p i=false)->uf p n=↑k
 |n+1,c,a,h=>by
  show(if p n=true then _ else _)=_;by_cases e:k=n
  .subst e;rw[if_pos a]
  .rw[if_neg (by rw[h n () ()];decide)];show Wu () a λi h1 h2=>h i h1 ()
def J5(x:Str)(c i:Nat):(decide (i+↥(#[#v[c]]:Str)<=↥x)&&subAt x #[#v[c]] i)=decide (x.cps.toList[i]?=↑c):=by
 rw[ahs,aaK,decide_eq_true_iff,decide_eq_true_iff];show StrLaws.subAt_one x c i
def Qa(h:z.cps.toList=b++c::w)(g:c∉w):Txt.rpartition z #[#v[c]]=(#[b.toArray],#[#v[c]],#[w.toArray]):=by
 let a:↥z=↥b+1+↥w:=by
  have:↥z.cps.toList=↥z:=rfl;rw[<-this,h,abK,abU];omega
 let m:lastOccurrence z #[#v[c]] 0 ↥z=↑↥b:=by
  rw[RV];show Wu () ?_ λi h1 h2=>?_
  .rw[J5,h,decide_eq_true_iff,alX (Ϭ _),atV];rfl
  .rw[J5,h,decide_eq_false_iff_not,alX ()];intro e;obtain⟨j,n⟩:∃j,i-↥b=j+1:=#[i-↥b-1,()];rw[n,List.getElem?_cons_succ]at e;show g (aa1 e)
 let f:z=#[(b++c::w).toArray]:=by
  let#[#[l]]:=z;have:l=b++c::w:=h;rw[this]
 let e1:strSub z 0 ↥b=#[b.toArray]:=by
  unfold strSub;rw[f];simp
 let o:strSub z (↥b+↥(#[#v[c]]:Str)) ↥z=#[w.toArray]:=by
  let p:↥(#[#v[c]]:Str)=1:=rfl;rw[p,a];unfold strSub;rw[f];simp[List.extract_eq_take_drop,List.drop_append];rw[aqV (),ati,aqa]
 let un:Txt.rpartition z #[#v[c]]=(match lastOccurrence z #[#v[c]] 0 ↥z with
  |some i=>(strSub z 0 i,#[#v[c]],strSub z (i+↥(#[#v[c]]:Str)) ↥z)
  |none=>(ala,ala,z)):=rfl
 rw[un,m];show(strSub z 0 ↥b,_,strSub z (↥b+↥(#[#v[c]]:Str)) ↥z)=_;rw[e1,o]
def aif(h:c∉z.cps.toList):Txt.rpartition z #[#v[c]]=(ala,ala,z):=by
 let a:lastOccurrence z #[#v[c]] 0 ↥z=none:=by
  rw[RV];show Qo λi hi=>?_
  rw[J5,decide_eq_false_iff_not];show λe=>h (aa1 e)
 unfold Txt.rpartition;rw[a]
def ZG(f:↥z<=100000)(g:∀p,H p=none->Q (.ref p) (upd H p (.tup [.str (Txt.rpartition z #[#v[c]]).1,.str (Txt.rpartition z #[#v[c]]).2.1,.str (Txt.rpartition z #[#v[c]]).2.2]))):MT X "str.rpartition" (.str z) [.str #[#v[c]]] H Q:=by
 show dD (r:=λx xs H Q=>∃z c,x=.str z/\xs=[.str #[#v[c]]]/\↥z<=100000/\∀p,H p=none->Q (.ref p) (upd H p (.tup [.str (Txt.rpartition z #[#v[c]]).1,.str (Txt.rpartition z #[#v[c]]).2.1,.str (Txt.rpartition z #[#v[c]]).2.2]))) ?_ #[z,c,rfl,rfl,f,g];intro ϵ s σ H x xs v us Q I rx rs h;let#[z,c,rfl,rfl,f,g]:=h;let#[t,rfl]:=rx;let#[u,rfl,j]:=vals1 rs;let#[t',rfl]:=j;let hsz:=Ϯ;let fin:∀(a b e:Str)(ta tb tc:Tok)(tk:Nat),a=(Txt.rpartition z #[#v[c]]).1->b=(Txt.rpartition z #[#v[c]]).2.1->e=(Txt.rpartition z #[#v[c]]).2.2->EP X ϵ σ Q (.ref ⇑s) {s with toks:=tk,heap:=s.heap.push {cls:=.type "tuple",data:=.seq [Value.str a ta,.str b tb,.str e tc].toArray}}:=λa b e ta tb tc tk l m n=>by
  subst l m n;show#[.ref ⇑s,_,I.laid (t':=tk) (o:=.tup [.str (Txt.rpartition z #[#v[c]]).1,.str (Txt.rpartition z #[#v[c]]).2.1,.str (Txt.rpartition z #[#v[c]]).2.2]) (λb o q=>ϲ _ q) (Ϭ _) ?_,rfl,g _ (I.hok.fresh (Ϭ _))]*>#[ω,_,.cons #[ta,rfl] (.cons #[tb,rfl] (.cons #[tc,rfl] .nil)),IsTup.new _ _]
 show aqt F.slot_str_rpartition (typeIs_str<*_) F.entry_str_rpartition (F.args_str_rpartition_2 _ _) (meets_str_rpartition z #[#v[c]] t t' rfl ()) ?_;let h':=fin;unfold Txt.rpartition at h';revert h';cases lastOccurrence z #[#v[c]] 0 ↥z with
 |none=>intro h';show h' _ _ _ _ _ _ _ rfl rfl rfl
 |some i=>intro h';show h' _ _ _ _ _ _ _ rfl rfl rfl
end _L
namespace _L
open PySem PySem.Spec PyProof.Rows PySem.W
def pw{α:Type}(lt:Nat->Nat->Bool)(n:Nat):KasT α->(α->Prop)->Prop
 |.ret a,Q=>Q a
 |.ask i j k,Q=>i<n/\j<n/\pw lt n (k (lt i j)) Q
theorem qH{α β:Type}{n:Nat}{f:α->KasT β}{Q:β->Prop}:∀(t:KasT α),pw lt n t (λa=>pw lt n (f a) Q)->pw lt n (t.bind f) Q
 |.ret a,h=>h
 |.ask i j k,h=>#[h.1,h.2.1,qH (k (lt i j)) h.2.2]
theorem iI{α:Type}{n:Nat}{Q c:α->Prop}(e:∀a,Q a->c a):∀(t:KasT α),pw lt n t Q->pw lt n t c
 |.ret a,h=>e a h
 |.ask i j k,h=>#[h.1,h.2.1,iI e (k (lt i j)) h.2.2]
theorem abj{α:Type}{n:Nat}{c:Nat->Nat->(Bool->μ->Prop)->μ->Prop}{I:μ->Prop}{G:α->μ->Prop}(f:∀i j C s,i<n->j<n->I s->(∀s',I s'->C (lt i j) s')->c i j C s):∀(t:KasT α)(s:μ),I s->pw lt n t (λa=>∀s,I s->G a s)->t.kasWp c G s
 |.ret a,s,hs,h=>h s hs
 |.ask i j k,s,hs,h=>f i j _ s h.1 h.2.1 hs λs' e=>abj f (k (lt i j)) s' e h.2.2
structure aQ(lt:Nat->Nat->Bool):Prop where
 ir:∀i,lt i i=false
 tr:∀i j k,lt i j=true->lt j k=true->lt i k=true
 nt:∀i j k,lt i k=true->lt i j=true\/lt j k=true
section
variable{lt:Nat->Nat->Bool}{n:Nat}(W:aQ lt)
def aQ.as(W:aQ lt)(h:lt i j=true):lt j i=false:=by
 rw[akf];intro h2;have:=W.tr i j i h h2;rw[W.ir]at this;cases this
def Rk(lt:Nat->Nat->Bool)(i j:Nat):Prop:=lt i j=true\/(lt j i=false/\i<j)
def aQ.rW(W:aQ lt)(h:lt a b=true)(h2:lt c b=false):lt a c=true:=by
 obtain h|h:=W.nt a c b h
 .show h
 .rw[h2]at h;cases h
def aQ.Ql(W:aQ lt)(h:lt b c=true)(h2:lt b a=false):lt a c=true:=by
 obtain h|h:=W.nt b a c h
 .rw[h2]at h;cases h
 .show h
def aQ.rtr(W:aQ lt)(h:Rk lt i j)(h2:Rk lt j k):Rk lt i k:=by
 obtain h|⟨h,h'⟩:=h
 .obtain h2|⟨h2,a⟩:=h2
  .show .inl (W.tr _ _ _ h h2)
  .show .inl (W.rW h h2)
 .obtain h2|⟨h2,a⟩:=h2
  .show .inl (W.Ql h2 h)
  .show .inr #[?_,()];rw[akf];intro c;obtain h4|h4:=W.nt k j i c
   .rw[h2]at h4;cases h4
   .rw[h]at h4;cases h4
abbrev gt(p:Array Nat)(k:Nat):Nat:=p.getD k 0
def Bo(h:p[k]?=↑v):gt p k=v:=by
 let#[a,e]:=amb.mp h;show p.getD k 0=v;simp[auq,a,e]
def vV(h:k<p.size):p[k]?=↑(gt p k):=by
 show p[k]?=↑(p.getD k 0);simp[auq,h]
def gQ(a:j<=p.size)(c:k<p.size:=by omega):gt (kas_rev p i j) k=if i<=k/\k<j then gt p (i+j-1-k)else gt p k:=by
 apply Bo;unfold kas_rev;rw[getElem?_mirror_all a];by_cases h:i<=k/\k<j
 .rw[if_pos h,if_pos h];show vV ()
 .rw[if_neg h,if_neg h];show vV c
theorem akh:(kas_rev p i j).size=p.size:=mirror_size _ _ _ _
def ahc(a:k<p.size)(hd:d<=k)(c:j<p.size):gt (bubble p k d) j=if j=k-d then gt p k else if k-d<j/\j<=k then gt p (j-1)else gt p j:=by
 apply Bo;rw[getElem?_bubble a d hd];by_cases h1:j=k-d
 .rw[if_pos h1,if_pos h1];show vV a
 .rw[if_neg h1,if_neg h1];by_cases h2:k-d<j/\j<=k
  .rw[if_pos h2,if_pos h2];show vV ()
  .rw[if_neg h2,if_neg h2];show vV c
structure Pl(n:Nat)(p:Array Nat)(m:Nat):Prop where
 size:p.size=n
 low:∀i,i<m->gt p i<m
 tail:∀k,m<=k->k<n->gt p k=k
 pm:p.toList.Perm (ado n)
def Pl.all(h:Pl n p m)(a:m<=n)(hi:i<n):gt p i<n:=by
 by_cases h1:i<m
 .have :=h.low i h1;omega
 .rw[h.tail i () hi];show hi
def Pl.up(h:Pl n p m)(a:m<n):Pl n p (m+1):=by
 show#[h.size,λi hi=>?_,λk h1 h2=>h.tail k () h2,h.pm];by_cases h1:i<m
 .have :=h.low i h1;omega
 .let e:i=m:=()
  subst e;rw[h.tail i (Ϭ _) a];omega
def Pl.rev(h:Pl n p m)(c:m<=n)(e:j<=m):Pl n (kas_rev p i j) m:=by
 let hs:=h.size;show#[by rw[akh];show hs,λk a=>?_,λk h1 h2=>?_,(asK.mp (mirror_perm p i j ((j-i) / 2)))<|>h.pm]
 .rw[gQ ()];split
  .show h.low _ ()
  .show h.low _ a
 .rw[gQ (),if_neg ()];show h.tail k h1 h2
def fZ(lt:Nat->Nat->Bool)(p:Array Nat)(m:Nat):=∀i j,i<j->j<m->Rk lt (gt p i) (gt p j)
def ji(lt:Nat->Nat->Bool)(p:Array Nat)(m:Nat):=∀i j,i<j->j<m->Rk lt (gt p j) (gt p i)
def ji.rev(h:ji lt p m)(a:m<=p.size):fZ lt (kas_rev p 0 m) m:=by
 intro i j c e;rw[gQ a,gQ a,if_pos (),if_pos ()];show h _ _ () ()
theorem Jh(W:aQ lt):∀(f m:Nat),1<=m->m+f<=n->Pl n p m->fZ lt p m->pw lt n (kas_asc p f m) λm'=>m<=m'/\m'<=m+f/\Pl n p m'/\fZ lt p m'/\(m'<m+f->lt (gt p m') (gt p (m'-1))=true)
 |0,m,h1,o,a,c=>#[Ϭ _,Ϭ _,a,c,λh=>absurd h ()]
 |f+1,m,h1,o,a,c=>by
  show#[a.all () (),a.all () (),?_];cases e:lt (gt p m) (gt p (m-1))with
  |true=>
   show pw lt n (if true=true then _ else _) _;rw[if_pos rfl];show#[Ϭ _,(),a,c,λ_=>e]
  |false=>
   show pw lt n (if false=true then _ else _) _;rw[if_neg (by decide)];let l:Rk lt (gt p (m-1)) (gt p m):=.inr #[e,by rw[a.tail m (Ϭ _) ()];show a.low _ ()];show iI (λm' h=>#[(),(),h.2.2.1,h.2.2.2.1,λh2=>h.2.2.2.2 ()]) _ (Jh W f (m+1) () () (a.up ()) λi j g v=>?_);by_cases q:j<m
   .show c i j g q
   .let s:j=m:=()
    subst s;by_cases u:i=j-1
    .rw[u];show l
    .show W.rtr (c i (j-1) () ()) l
structure Dn(lt:Nat->Nat->Bool)(p:Array Nat)(m q:Nat):Prop where
 few:q+1<=m
 ahead:∀i j,i<j->j<m-(q+1)->Rk lt (gt p j) (gt p i)
 drop:∀i j,i<m-(q+1)->m-(q+1)<=j->j<m->lt (gt p j) (gt p i)=true
 cu:∀i j,m-(q+1)<=i->i<j->j<m->lt (gt p i) (gt p j)=false/\lt (gt p j) (gt p i)=false/\gt p i<gt p j
def Dn.done(h:Dn lt p m q)(e:m<=p.size):ji lt (if q>0 then kas_rev p (m-(q+1)) m else p) m:=by
 let h1:=h.few;by_cases f:q>0
 .rw[if_pos f];intro i j a g;rw[gQ e,gQ e];by_cases hi:m-(q+1)<=i
  .rw[if_pos (),if_pos ()];have:=h.cu (m-(q+1)+m-1-j) (m-(q+1)+m-1-i) () () ();show .inr #[this.2.1,this.2.2]
  .rw[if_neg (show ¬(m-(q+1)<=i/\i<m)by omega)];by_cases c:m-(q+1)<=j
   .rw[if_pos ()];show .inl (h.drop _ _ () () ())
   .rw[if_neg ()];show h.ahead i j a ()
 .rw[if_neg f];intro i j a g;by_cases c:m-(q+1)<=j
  .show .inl (h.drop _ _ () c g)
  .show h.ahead i j a ()
def ji.next(W:aQ lt)(h:ji lt p m)(h1:1<=m)(g:∀i,i<m->lt (gt p m) (gt p i)=true):Dn lt p (m+1) 0:=by
 show#[(),λi j f l=>h i j f (),λi j hi l n=>?_,λi j a b c=>absurd b ()];let e:j=m:=()
 subst e;show g i ()
def ji.low(W:aQ lt)(h:ji lt p m)(h1:1<=m)(a:lt x (gt p (m-1))=true):∀i,i<m->lt x (gt p i)=true:=by
 intro i hi;by_cases e:i=m-1
 .rw[e];show a
 .rcases h i (m-1) () ()with h2|⟨h2,_⟩
  .show W.tr _ _ _ a h2
  .show W.rW a h2
theorem yg(W:aQ lt):∀(f:Nat)(p:Array Nat)(m q:Nat),m+f<=n->Pl n p m->Dn lt p m q->pw lt n (kas_desc f p m q) λr=>m<=r.2.1/\r.2.1<=m+f/\Pl n r.1 r.2.1/\Dn lt r.1 r.2.1 r.2.2
 |0,p,m,q,D,a,hd=>#[Ϭ _,Ϭ _,a,hd]
 |f+1,p,m,q,D,a,hd=>by
  let z:=hd.few;let hsz:=a.size;show#[a.all () (),a.all () (),?_];cases e:lt (gt p m) (gt p (m-1))with
  |true=>
   show pw lt n (if true=true then _ else _) _;rw[if_pos rfl];let l:=hd.done ();by_cases B:q>0
   .rw[if_pos B]at l⊢;let s:=a.rev (i:=m-(q+1)) (j:=m) () (Ϭ _);let em:gt (kas_rev p (m-(q+1)) m) m=gt p m:=by rw[gQ (),if_neg ()]
    let E:gt (kas_rev p (m-(q+1)) m) (m-1)=gt p (m-(q+1)):=by
     rw[gQ (),if_pos ()]
     congr 1
     omega
    let F:lt (gt p m) (gt p (m-(q+1)))=true:=W.rW e (hd.cu (m-(q+1)) (m-1) (Ϭ _) () ()).1;show iI (λr h=>#[(),(),h.2.2]) _ (yg W f _ (m+1) 0 () (s.up ()) (l.next W () λi hi=>?_));rw[em];show l.low W () (by rw[E];show F) i hi
   .rw[if_neg B]at l⊢;show iI (λr h=>#[(),(),h.2.2]) _ (yg W f _ (m+1) 0 () (a.up ()) (l.next W () (l.low W () e)))
  |false=>
   show pw lt n (if false=true then _ else _) _;rw[if_neg (by decide)];show#[a.all () (),a.all () (),?_];cases e2:lt (gt p (m-1)) (gt p m)with
   |true=>
    show pw lt n (if true=true then _ else _) _;rw[if_pos rfl];show#[Ϭ m,show m<=m+(f+1)by omega,a,hd]
   |false=>
    show pw lt n (if false=true then _ else _) _;rw[if_neg (by decide)];let u:=a.tail m (Ϭ _) ();show iI (λr h=>#[(),(),h.2.2]) _ (yg W f p (m+1) (q+1) () (a.up ()) #[(),λi j g C=>hd.ahead i j g (),λi j hi C G=>?_,λi j hi g C=>?_])
    .by_cases v:j<m
     .show hd.drop i j () () v
     .let x:j=m:=()
      subst x;show W.Ql (hd.drop i (j-1) () () ()) e2
    .by_cases v:j<m
     .show hd.cu i j () g v
     .let x:j=m:=()
      subst x;let c:gt p i<gt p j:=by rw[u];show a.low i ()
      by_cases o:i=j-1
      .rw[o];rw[o]at c;show#[e2,e,c]
      .let h3:=hd.cu i (j-1) () () ();show#[?_,?_,c]
       .rw[akf];intro y;obtain h5|h5:=W.nt _ (gt p (j-1)) _ y
        .rw[h3.1]at h5;cases h5
        .rw[e2]at h5;cases h5
       .rw[akf];intro y;obtain h5|h5:=W.nt _ (gt p (j-1)) _ y
        .rw[e]at h5;cases h5
        .rw[h3.2.1]at h5;cases h5
def T9(W:aQ lt)(a:Pl n p m)(hd:ji lt p m)(h1:1<=m:=by omega)(c:m<=n:=by omega):pw lt n (kas_tail3 m n p) λr=>1<=r.1/\r.1<=n/\Pl n r.2 r.1/\fZ lt r.2 r.1:=by
 let hsz:=a.size;show qH _ (iI (λm' h=>#[by show 1<=m';omega,by show m'<=n;omega,h.2.2.1,h.2.2.2.1]) _ (Jh W (n-m) m h1 () (a.rev c (Ϭ _)) (hd.rev ())))
def Ti(W:aQ lt)(h1:1<=m)(f:m<n)(g:Pl n p m)(hd:ji lt p m)(i:lt (gt p m) (gt p (m-1))=true):pw lt n (kas_descPart m n p) λr=>1<=r.1/\r.1<=n/\Pl n r.2 r.1/\fZ lt r.2 r.1:=by
 show qH _ (iI (λr h=>?_) _ (yg W (n-(m+1)) p (m+1) 0 () (g.up f) (hd.next W h1 (hd.low W h1 i))));let#[l,o,c,j]:=h;let hsz:=c.size;let a:=j.done ();show pw lt n (if r.2.2>0 then _ else _) _;by_cases e:r.2.2>0
 .rw[if_pos e]at a⊢;show T9 W (c.rev () (Ϭ _)) a
 .rw[if_neg e]at a⊢;show T9 W c a
def amz:Pl n (afX (ado n)) 1:=by
 let a:∀k,k<n->gt (afX (ado n)) k=k:=λk c=>Bo (by simp[c])
 show#[by simp,λi hi=>?_,λk _ h2=>a k h2,by simp];by_cases h:i<n
 .rw[a i h];show hi
 .show(afX (ado n)).getD i 0<1;simp[auq,h]
def amO(W:aQ lt)(h1:1<=n):pw lt n (kas_count n (afX (ado n))) λr=>1<=r.1/\r.1<=n/\Pl n r.2 r.1/\fZ lt r.2 r.1:=by
 show qH _ (iI (λm h=>?_) _ (Jh W (n-1) 1 (Ϭ _) () amz λi j a b=>absurd a ()));let#[x,C,c,g,y]:=h;let hsz:=c.size;show pw lt n (if(m==n)=true then _ else _) _;by_cases l:m=n
 .rw[if_pos (by rw[beq_iff_eq];show l)];show#[by show 1<=m;omega,by show m<=n;omega,c,g]
 .rw[if_neg (by rw[beq_iff_eq];show l)];let f:=y ();by_cases o:m>1
  .rw[if_pos o];show#[c.all () (),c.all () (),?_];cases e:lt (gt (afX (ado n)) 0) (gt (afX (ado n)) (m-1))with
   |true=>
    show pw lt n (if true=true then _ else _) _;rw[if_pos rfl];show#[by show 1<=m;omega,by show m<=n;omega,c,g]
   |false=>
    show pw lt n (if false=true then _ else _) _;rw[if_neg (by decide)];generalize afX (ado n)=p at c g f e hsz⊢;let q:∀i,i<m->lt (gt p i) (gt p 0)=false:=λi hi=>by
     by_cases s:i=0
     .rw[s];show W.ir _
     .rcases g 0 i () hi with h|h
      .show W.as h
      .show h.1
    let u:∀j,j<m->lt (gt p (m-1)) (gt p j)=false:=λj v=>by
     by_cases s:j=m-1
     .rw[s];show W.ir _
     .rcases g j (m-1) () ()with h|h
      .show W.as h
      .show h.1
    let cu:∀i j,i<m->j<m->lt (gt p i) (gt p j)=false:=λi j hi v=>by
     rw[akf];intro h;obtain h2|h2:=W.nt _ (gt p 0) _ h
     .rw[q i hi]at h2;cases h2
     .obtain h3|h3:=W.nt _ (gt p (m-1)) _ h2
      .rw[e]at h3;cases h3
      .rw[u j v]at h3;cases h3
    let z:ji lt (kas_rev p 0 m) m:=λi j B v=>by
     rw[gQ (),gQ (),if_pos (),if_pos ()];show .inr #[cu _ _ () (),?_];rcases g (0+m-1-j) (0+m-1-i) () ()with h|h
     .rw[cu _ _ () ()]at h;cases h
     .show h.2
    show Ti W x () (c.rev () (Ϭ _)) z ?_;rw[gQ (),gQ (),if_neg (),if_pos ()];show W.rW f (cu _ _ () ())
  .rw[if_neg o];let em:m=1:=()
   subst em;show Ti W x () c (λi j a b=>absurd a ()) f
theorem Es(W:aQ lt)(j:k<n)(c:Pl n p k)(g:fZ lt p k):∀(f l r:Nat),r-l<=f->l<=r->r<=k->(∀i,i<l->lt (gt p k) (gt p i)=false)->(∀i,r<=i->i<k->lt (gt p k) (gt p i)=true)->
  pw lt n (kas_place p k f l r) λl'=>l'<=k/\(∀i,i<l'->lt (gt p k) (gt p i)=false)/\∀i,l'<=i->i<k->lt (gt p k) (gt p i)=true
 |0,l,r,u,m,o,h1,h2=>#[(),h1,λi a b=>h2 i () b]
 |f+1,l,r,u,m,o,h1,h2=>by
  show pw lt n (if l≥r then _ else _) _;by_cases h:l≥r
  .rw[if_pos h];show#[(),h1,λi a b=>h2 i () b]
  .rw[if_neg h];let q:(l+r) / 2<r/\l<=(l+r) / 2:=()
   show#[c.all () j,c.all () (),?_];cases e:lt (gt p k) (gt p ((l+r) / 2))with
   |true=>
    show pw lt n (if true=true then _ else _) _;rw[if_pos rfl];show Es W j c g f l ((l+r) / 2) () () () h1 λi a b=>?_
    by_cases hi:i=(l+r) / 2
    .rw[hi];show e
    .rcases g ((l+r) / 2) i () b with h3|h3
     .show W.tr _ _ _ e h3
     .show W.rW e h3.1
   |false=>
    show pw lt n (if false=true then _ else _) _;rw[if_neg (by decide)];show Es W j c g f ((l+r) / 2+1) r () () o (λi a=>?_) h2;by_cases hi:i=(l+r) / 2
    .rw[hi];show e
    .rw[akf];intro s;rcases g i ((l+r) / 2) () ()with h3|h3
     .have :=W.tr _ _ _ s h3;rw[e]at this;cases this
     .have :=W.rW s h3.1;rw[e]at this;cases this
theorem Xm(W:aQ lt):∀(f:Nat)(p:Array Nat)(k:Nat),k+f=n->Pl n p k->fZ lt p k->pw lt n (kas_bin f p k) λp'=>Pl n p' n/\fZ lt p' n
 |0,p,k,x,c,g=>by
  let e:k=n:=()
  subst e;show#[c,g]
 |f+1,p,k,x,c,g=>by
  let hsz:=c.size;show qH _ (iI (λl h=>?_) _ (Es W () c g k 0 k () () (Ϭ _) (λi hi=>absurd hi ()) λi a b=>absurd a ()));let#[z,h1,h2]:=h;let o:∀j,j<n->gt (bubble p k (k-l)) j=if j=l then gt p k else if l<j/\j<=k then gt p (j-1)else gt p j:=λj y=>by
   rw[ahc () () (),show k-(k-l)=l by omega]
  let u:=c.tail k (Ϭ _) ();show Xm W f _ (k+1) () #[by rw[bubble_size];show hsz,λi hi=>?_,λi a b=>?_,(asK.mp (bubble_perm p k (k-l)))<|>c.pm] λi j q y=>?_
  .rw[o i ()];split
   .rw[u];omega
   .split
    .have :=c.low (i-1) ();omega
    .have :=c.low i ();omega
  .rw[o i b,if_neg (),if_neg ()];show c.tail i () b
  .rw[o i (),o j ()];by_cases s:i<l
   .rw[if_neg (),if_neg ()];by_cases m:j=l
    .rw[if_pos m];show .inr #[h1 i s,by rw[u];show c.low i ()]
    .rw[if_neg m];split
     .show g i (j-1) () ()
     .show g i j q ()
   .by_cases v:i=l
    .rw[if_pos v,if_neg (),if_pos ()];show .inl (h2 (j-1) () ())
    .rw[if_neg v,if_pos (),if_neg (),if_pos ()];show g (i-1) (j-1) () ()
def ahK(W:aQ lt)(h1:1<=n):pw lt n (kas_sort n) λp=>Pl n p n/\fZ lt p n:=by
 show qH _ (iI (λr h=>?_) _ (amO W h1));let#[f,g,a,c]:=h;show pw lt n (if r.1<n then _ else _) _;by_cases h:r.1<n
 .rw[if_pos h,show max r.1 1=r.1 by omega];show Xm W (n-r.1) r.2 r.1 () a c
 .rw[if_neg h];let e:r.1=n:=()
  rw[e]at a c;show#[a,c]
end
abbrev Cx.ϗ(X:Cx):Cx:={X with A:=X.A.in1.in1}
section
variable{X:Cx}{ϵ:List (δ×Obj)}{σ:St}{H:Hp}{s:μ}
theorem Cx.Ok.ϗ(ok:X.Ok):X.ϗ.Ok:=
 #[ok.mod,ok.kind,ok.glob,ok.blt,ok.above,ok.inj,ok.has,ok.cab,ok.hd,ok.frames,ok.stk,ok.exf,ok.bs,ok.bsz,ok.noex,ok.exfs,ok.funs,ok.frf]
theorem Inv.ϗ(I:Inv X ϵ σ H s):Inv X.ϗ ϵ σ H s:=#[I.ok.ϗ,I.os,I.bare,I.base,I.loc,I.cell,I.free,I.freeC,I.pin,I.hok,I.len]
theorem Inv.un2(ok:X.Ok)(I:Inv X.ϗ ϵ σ H s):Inv X ϵ σ H s:=#[ok,I.os,I.bare,I.base,I.loc,I.cell,I.free,I.freeC,I.pin,I.hok,I.len]
def Inv.akE(I:Inv X ϵ σ H s)(a:H e=none)(c:Ch X ϵ e)(ok:ϟ X.prog X.w (upd H e o) s.heap e o):Inv X ϵ σ (upd H e o) s:=by
 let ne:∀b u,H b=↑u->b≠e:=λb u q=>Ω q a
 have:=I.step (h':=s.heap) (H':=upd H e o) (g':=s.gens) (d':=s.drawn) (t':=s.toks) (ch:=[e]) (λb f=>?_) (λb o _ _ _ q _=>q) (λb o _ _ _ q _=>#[o.slots,q]) (λb o g _ n=>?_) (λb o _ q=>#[o,q]) (λb xs q=>?_) (λb o u q=>?_) (λb ps q=>?_) (λm i=>i) (λb u q=>?_) I.bare
 .show this
 .let z:b=e:= ~~~f
  subst z;show c
 .rw[ι (λz=>g (by simp[z]))];show n
 .rw[ι (ne<*q)];show q
 .rw[ι (ne<*q)];show q
 .show#[#v[],by rw[ι (ne<*q),q];simp]
 .by_cases z:b=e
  .subst z;rw[ο]at q;cases q;show ok
  .rw[ι z]at q;show(I.hok b u q).stay (λ_ _ _ r=>r) (λc r=>by rw[ι (ne<*r)];show r) (λc xs r=>by rw[ι (ne<*r)];show r) λc j v r=>by rw[ι (ne<*r)];show r
theorem bN.ch(f:bN X ϵ H b):Ch X ϵ b:=#[f.2.2.2.1,f.2.1,f.2.2.2.2.1,f.2.2.2.2.2]
def aB(X:Cx)(ϵ:List (δ×Obj))(H:Hp)(s:μ)(b:δ)(vs:List ε)(e:Nat):Prop:=s.heap.get? b=↑(seqObj "list" vs.toArray e)/\bN X ϵ H b
theorem W6:∀v,(seqObj c xs e).data≠.cell v:=λv h=>by cases h
def aB.set(I:Inv X ϵ σ H s)(h:aB X ϵ H s b vs e)(a:aB X ϵ H s c ws ec)(p:c≠b)(u:g vs.toArray=us.toArray):∃v,Inv X ϵ σ H {s with heap:=s.heap.update b (Obj.mapSeq g)}/\aB X ϵ H {s with heap:=s.heap.update b (Obj.mapSeq g)} b us v/\aB X ϵ H {s with heap:=s.heap.update b (Obj.mapSeq g)} c ws ec:=by
 let#[h1,f,i,y,j,l,m]:=h;let hs:=Heap.SameBut.update s.heap b (Obj.mapSeq g);let n:=get?_update_seq h1 g;rw[u]at n;show#[_,I.turned (t':=s.toks) (it:=b) (λx o z q=>(hs.2 x z).trans q) f i j l m,#[n,f,i,y,j,l,m],#[(hs.2 c p)<|>a.1,a.2]]
theorem aB.pin(I:Inv X ϵ σ H s)(h:aB X ϵ H s kS vs e)(c:aB X ϵ H s D ws f):Inv X (ϵ++gZ [kS,D] s.heap) σ H s:=
 I.pinned (λb a=>by
  obtain z|z:=aaF.mp a
  .rw[z];show h.2
  .let z:b=D:= ~~~z
   rw[z];show c.2) λb a=>by
  obtain z|z:=aaF.mp a
  .rw[z];show#[_,h.1,W6]
  .let z:b=D:= ~~~z
   rw[z];show#[_,c.1,W6]
def aB.Yb(h:aB X ϵ H s kS vs e)(a:aB X ϵ H s D ws ec)(I:Inv X (ϵ++gZ [kS,D] s.heap) σ H' s'):Inv X ϵ σ H' s'/\aB X ϵ H' s' kS vs e/\aB X ϵ H' s' D ws ec:=by
 let one:∀(b:δ)(us:List ε)(eb:Nat),b∈[kS,D]->aB X ϵ H s b us eb->aB X ϵ H' s' b us eb:=λb us eb c o=>by
  let f:(b,seqObj "list" us.toArray eb)∈X.pn++(ϵ++gZ [kS,D] s.heap):=by
   show adL _ (adL _ ?_);unfold gZ;show amr.mpr #[b,c,by rw[o.1];rfl]
  let#[p1,p2,p3,g,i]:=I.pin _ f;show#[p1,p2,o.2.2.1,o.2.2.2.1,o.2.2.2.2.1,o.2.2.2.2.2.1,o.2.2.2.2.2.2]
 show#[I.unpinned,one kS vs e (by simp) h,one D ws ec (by simp) a]
structure By(X:Cx)(σ:St)(f:ε)(vs:List ε)(H₁:Hp)(Kp:Nat->ε->Hp->Prop):Prop where
 mono:∀i k H H',ζ H H'->Kp i k H->Kp i k H'
 call:∀i v ϵ s H,vs[i]?=↑v->ζ H₁ H->Inv X.ϗ ϵ σ H s->Ϧ ∅ X.A.in1.in1 (call f [v]) (λk s'=>∃H',Inv X.ϗ ϵ σ H' s'/\ζ H H'/\Kp i k H') (λ_ _=>False) s
def Fq(X:Cx)(σ:St)(H:Hp)(ks:List ε)(lt:Nat->Nat->Bool)(κ:SortKind):Prop:=
 ∀i j a c ϵ s,ks[i]?=↑a->ks[j]?=↑c->Inv X.ϗ ϵ σ H s->Ϧ ∅ X.A.in1.in1 (keyLt' κ a c) (λr s'=>r=lt i j/\Inv X.ϗ ϵ σ H s') (λ_ _=>False) s
structure pP(X:Cx)(σ:St)(n:Nat)(Kp:Nat->ε->Hp->Prop)(lt:Nat->Nat->Bool):Prop where
 kind:∀ϵ s H ks,Inv X.ϗ ϵ σ H s->↥ks=n->2<=n->(∀(i:Nat) k,ks[i]?=↑k->Kp i k H)->
  Ϧ ∅ X.A.in1.in1 (keyKind' (afX ks)) (λκ s'=>Inv X.ϗ ϵ σ H s'/\Fq X σ H ks lt κ) (λ_ _=>False) s
def oZ(b:Bool)(lt:Nat->Nat->Bool)(i j:Nat):Bool:=if b=true then lt j i else lt i j
def ik(n:Nat)(lt:Nat->Nat->Bool)(q:List Nat):Prop:=q.Perm (ado n)/\q.Pairwise (Rk lt)
theorem V8(h:p.toList[i]?=↑v):gt p i=v:=Bo (by rw[<-arM];show h)
def acJ(h:Pl n p n)(a:fZ lt p n):ik n lt p.toList:=by
 show#[h.pm,?_];let f:↥p.toList=n:=by rw[akT];show h.size
 rw[asN];intro i j hi e c;let h1:=V8 (aah hi);let h2:=V8 (aah e);rw[<-h1, <-h2];show a i j c ()
def aec(h:ik n (λi j=>lt (n-1-i) (n-1-j)) q):ik n (oZ true lt) (q.map (n-1- ·)).reverse:=by
 let#[f,g]:=h;let a:∀x∈q,x<n:=λx c=>ajF.mp (f.subset c)
 show#[?_,?_]
 .show(atR _).trans ((f.map _).trans ?_);let e:(ado n).map (n-1- ·)=(ado n).reverse:=by
   apply at9
   .simp
   .intro i h1 h2;simp at h1;simp
  rw[e];show atR _
 .rw[atk,asU];show g.imp_of_mem λ{x y} c l r=>?_;let h1:=a x c;let h2:=a y l;obtain r|⟨r,m⟩:=r
  .show .inl r
  .show .inr #[r,()]
end
section
variable{X:Cx}{ϵ:List (δ×Obj)}{σ:St}{H H₁:Hp}{s:μ}{vs:List ε}{f:ε}{b:Bool}{Kp:Nat->ε->Hp->Prop}{lt:Nat->Nat->Bool}{kS D:δ}{e1:Nat}
def ac9(X:Cx)(ϵ:List (δ×Obj))(σ:St)(H₁:Hp)(Kp:Nat->ε->Hp->Prop)(kS D:δ)(e1:Nat)(ks:List ε)(s:μ):Prop:=
 ∃H' e,Inv X.ϗ ϵ σ H' s/\ζ H₁ H'/\aB X.ϗ ϵ H' s kS ks e/\aB X.ϗ ϵ H' s D [] e1/\∀(i:Nat) k,ks[i]?=↑k->Kp i k H'
theorem P0{body:ε->PUnit->Sem (ForInStep PUnit)}{E:ε->μ->Prop}{R:List ε->μ->Prop}(e:∀i v ks s,vs[i]?=↑v->↥ks=i->R ks s->Ϧ ∅ A (body v #[]) (λr s'=>r=.yield #[]/\∃k,R (ks++[k]) s') E s):∀(r ks:List ε)(s:μ),vs.drop ↥ks=r->R ks s->Ϧ ∅ A (forIn r PUnit.unit body) (λ_ s'=>∃ks,↥ks=↥vs/\R ks s') E s\/↥vs<↥ks
 |[],ks,s,a,h=>by
  by_cases g:↥vs<↥ks
  .show .inr g
  .left;rw[arc];have:=List.drop_eq_nil_iff.mp a;show ϯ #[ks,(),h]
 |v::r,ks,s,a,h=>by
  left;let f:vs[↥ks]?=↑v:=by
   have:=congrArg (λl=>l[0]?) a;simp only[List.getElem?_drop,Nat.add_zero]at this;simpa using this
  let j:=(aak.mp f).1;rw[aoZ];show π (adq (e ↥ks v ks s f rfl h) (λq s' m=>?_) λ_ _ x=>x);let#[rfl,k,h2]:=m;show Ϧ ∅ A (forIn r PUnit.unit body) _ E s';let c:vs.drop ↥(ks++[k])=r:=by
   rw[abK,afm, <-atu,a];rfl
  obtain h3|h3:=P0 e r (ks++[k]) s' c h2
  .show h3
  .rw[abK,afm]at h3;omega
def Y0{st:SortSt}(j:D≠kS)(I:Inv X.ϗ ϵ σ H s)(l:aB X.ϗ ϵ H s kS ks e)(m:aB X.ϗ ϵ H s D [] e1)(c:(arrOf st).map (·.2)=afX out)(y:↥out<64)(n:↥ks<64)(o:failedOf st=none)(h:∀s' p,Inv X.ϗ ϵ σ H s'->aB X.ϗ ϵ H s' D (katRev b out) p->P (.done (.ret .none)) s'):Ϧ ∅ X.A.in1.in1 (ksk_tail D b e1 (.ref kS) st) P E s:=by
 let#[z,q,f,a]:=aB.set (us:=[]) (g:=λ_=> #v[]) I l m j rfl;let#[u,v,i,x]:=aB.set (us:=katRev b out) (g:=λ_=>afX (katRev b out)) q a f (Ne.symm j) rfl;let hsz:(afX (katRev b out)).size=↥out:=by rw[aa0,kat_len]
 unfold ksk_tail
 try dsimp only
 rw[c,kat_outs];show π (listUpdate_at l.1 rfl ?_ (by rw[aa0,Ϯ];omega) (ag3 _))*>π (wpAny_letGo ?_)*>π (seqEpoch_at a.1 rfl ?_)*>π (listUpdate_at a.1 rfl ?_ (ag3 _) (afT (aqv hsz) (by rw[Ϯ];omega)));rw[o];simp only[bne_self_eq_false,aqO,if_false];show ϯ (h _ u v i)
def jr(vs:List ε)(q:List Nat):List ε:=q.map λi=>vs.getD i Value.none
def agP(W:aQ lt)(C:pP X σ ↥vs Kp lt)(Ϻ:D≠kS)(g:↥vs<64)(m:↥ks=↥vs)(I:Inv X.ϗ ϵ σ H s)(M:aB X.ϗ ϵ H s kS ks e)(O:aB X.ϗ ϵ H s D [] e1)(hK:∀(i:Nat) k,ks[i]?=↑k->Kp i k H)(h:∀s' R q,Inv X.ϗ ϵ σ H s'->ik ↥vs (oZ b lt) q->aB X.ϗ ϵ H s' D (jr vs q) R->P (.done (.ret .none)) s'):Ϧ ∅ X.A.in1.in1 (ksk_end D b vs.toArray e1 (.ref kS) (afX ks)) P E s:=by
 let step:∀t:Sem PySem.Fin,Ϧ ∅ X.A.in1.in1 t P E s->Ϧ ∅ X.A.in1.in1 (if b=true then(do let _<-rule "list.sort.reverse";t)else t) P E s:=by
  intro t ht;split
  .show π (wpAny_rule ht)
  .show ht
 let B:↥(katRev b ks)=↥(katRev b vs):=by rw[kat_len,kat_len,m]
 unfold ksk_end
 try dsimp only
 show step _ ?_;by_cases o:↥vs<2
 .let a:vs.toArray.size<2:=by rw[aa0];omega
  rw[if_pos a,if_pos a];show π (ϯ ?_)*>π (ϯ ?_)
  try dsimp only
  let u:∀{α:Type}(l:List α),↥l<2->katRev b l=l:=λl m=>by
   unfold katRev
   match l,m with
   |[],_=>simp
   |[x],_=>simp
  rw[kat_pairs b m,u ks (),u vs o];let v:(arrOf (SortSt.mk' general' ((afX ks).zip vs.toArray) #v[] 7 none)).map (·.2)=afX vs:=by
   show((afX ks).zip vs.toArray).map (·.2)=afX vs;apply Array.toList_inj.mp;rw[Array.toList_map,ksk_zip];show(ks.zip vs).map Prod.snd=vs;rw[List.map_snd_zip ()]
  show Y0 Ϻ I M O v g () rfl λs' R I' F=>?_
  rw[u vs o]at F;show h s' R (ado ↥vs) I' #[List.Perm.refl _,?_] ?_
  .match ↥vs,o with
   |0,_=>show List.Pairwise.nil
   |1,_=>show List.pairwise_singleton _ _
  .let S:jr vs (ado ↥vs)=vs:=by
    unfold jr;apply at9
    .simp
    .intro i h1 h2;simp[h2]
   rw[S];show F
 .let a:¬vs.toArray.size<2:=by rw[aa0];omega
  rw[if_neg a,if_neg a];show π (adq (C.kind _ s H ks (M.pin I O) m () hK) (λκ s0 T=>?_) λ_ _ x=>x.elim);let#[I0,G]:=T;rw[kat_pairs b m];let f:∀i,i<↥vs->(katRev b ks).getD i Value.none=ks.getD (if b=true then ↥vs-1-i else i) Value.none:=λi hi=>by
   cases b with
   |false=>rfl
   |true=>
    show ks.reverse.getD i Value.none=ks.getD (↥vs-1-i) Value.none;rw[abP,abP,atl (),m]
  let W':aQ (λi j=>lt (if b=true then ↥vs-1-i else i) (if b=true then ↥vs-1-j else j)):=#[λi=>W.ir _,λi j k=>W.tr _ _ _,λi j k=>W.nt _ _ _];let J:(kas_sort ↥(katRev b vs)).kasWp (kas_ask X.prog X.w X.A.in1.in1 κ (katRev b ks)) (λp y=>Inv X.ϗ (ϵ++gZ [kS,D] s.heap) σ H y/\Pl ↥vs p ↥vs/\fZ (λi j=>lt (if b=true then ↥vs-1-i else i) (if b=true then ↥vs-1-j else j)) p ↥vs) s0:=by
   rw[kat_len];show abj (lt:=λi j=>lt (if b=true then ↥vs-1-i else i) (if b=true then ↥vs-1-j else j)) (n:=↥vs) (I:=λy=>Inv X.ϗ (ϵ++gZ [kS,D] s.heap) σ H y) (λi j C' s1 hi hj U hC=>?_) _ s0 I0 (iI (λp L s1 U=>#[U,L.1,L.2]) _ (ahK W' ()));unfold kas_ask;rw[f i hi,f j hj];let Y:(if b=true then ↥vs-1-i else i)<↥ks:=by split <;>omega
   let Z:(if b=true then ↥vs-1-j else j)<↥ks:=by split <;>omega
   let gi:ks[if b=true then ↥vs-1-i else i]?=↑(ks.getD (if b=true then ↥vs-1-i else i) Value.none):=by
    rw[abP,aah Y];rfl
   let gj:ks[if b=true then ↥vs-1-j else j]?=↑(ks.getD (if b=true then ↥vs-1-j else j) Value.none):=by
    rw[abP,aah Z];rfl
   show adq (G _ _ _ _ _ s1 gi gj U) (λr s2 hr=>?_) λ_ _ x=>x
   let#[rfl,I2]:=hr;show hC s2 I2
  show π (adq (kat_run (Q:=λc s'=>∃p:Array Nat,p.size=↥(katRev b vs)/\arrOf c=p.map (kas_item ((afX (katRev b ks)).zip (afX (katRev b vs))))/\failedOf c=none/\
    Inv X.ϗ (ϵ++gZ [kS,D] s.heap) σ H s'/\Pl ↥vs p ↥vs/\fZ (λi j=>lt (if b=true then ↥vs-1-i else i) (if b=true then ↥vs-1-j else j)) p ↥vs)
   B (by rw[kat_len];omega) (by rw[kat_len];show g) (λp' c s' a1 a2 a3 a4=>#[p',a1,a2,a3,a4]) J) ?_ λ_ _ x=>x)
  rintro⟨⟨⟩,c⟩ s' ⟨p,L,v,hf,I2,aa,ab⟩
  try dsimp only
  let#[I3,ac,vQ]:=aB.Yb M O I2;show Y0 Ϻ I3 ac vQ (kat_snds B v) (by rw[aau,akT,L,kat_len];show g) () hf λs4 e4 I4 wJ=>?_
  let z:=acJ aa ab;let ae:∀x∈p.toList,x<↥vs:=λx hx=>ajF.mp (z.1.subset hx)
  cases b with
  |false=>
   show h s4 e4 p.toList I4 z ?_*>wJ
  |true=>
   show h s4 e4 _ I4 (aec z) ?_;let S:katRev true (p.toList.map λi=>(katRev true vs).getD i Value.none)=jr vs (p.toList.map (↥vs-1- ·)).reverse:=by
    show(p.toList.map λi=>vs.reverse.getD i Value.none).reverse=_;unfold jr;rw[aua,afR]
    congr 1
    show anO λi hi=>?_
    show vs.reverse.getD i Value.none=vs.getD (↥vs-1-i) Value.none;rw[abP,abP,atl (ae i hi)]
   rw[S]at wJ;show wJ
def ahZ(W:aQ lt)(F:By X σ f vs H₁ Kp)(C:pP X σ ↥vs Kp lt)(M:D≠kS)(o:↥vs<64)(I:Inv X.ϗ ϵ σ H s)(T:ζ H₁ H)(U:aB X.ϗ ϵ H s kS [] 0)(Y:aB X.ϗ ϵ H s D [] e1)(h:∀s' H' p q,Inv X.ϗ ϵ σ H' s'->ζ H₁ H'->ik ↥vs (oZ b lt) q->aB X.ϗ ϵ H' s' D (jr vs q) p->P (.done (.ret .none)) s'):Ϧ ∅ X.A.in1.in1 (ksk_rest D f b vs.toArray e1 (.ref kS)) P E s:=by
 unfold ksk_rest;show π (wpAny_rule ?_)
 first
  |rw[List.forIn_toArray]
  |(rw[<-atH];simp only[List.toList_toArray])
  |rw[<-atH]
 show π (adq ((P0 (X:=X) (vs:=vs) (R:=ac9 X ϵ σ H₁ Kp kS D e1) (λi v ks s' O hi Z=>?_) vs [] s (by simp) #[H,0,I,T,U,Y,λi k e=>by simp at e]).resolve_right (by simp)) (λ_ s' hd=>?_) λ_ _ x=>x)
 .let#[H',e,u,c,a,l,y]:=Z;let hil:=(aak.mp O).1;show π (ap3 (adq (F.call i v _ s' H' O c (a.pin u l)) (λk Q hq=>?_) λ_ _ hF=>hF.elim));let#[H2,z,S,B]:=hq;let#[I3,m,vQ]:=aB.Yb a l z;let ea:(afX ks).push k=afX (ks++[k]):=by simp
  let#[p,I4,G,wJ]:=aB.set (us:=ks++[k]) (g:=(·.push k)) I3 m vQ M ea
  try dsimp only
  show π (listUpdate_at m.1 rfl ?_ (by rw[aa0,Ϯ];omega) (afT (aqv (Array.size_push ..)) (by rw[aa0,Ϯ];omega)))*>ϯ #[rfl,k,H2,p,I4,c<|>S,G,wJ,λj kj n=>?_];by_cases J:j<↥ks
  .rw[aiV J]at n;show F.mono _ _ _ _ S (y j kj n)
  .let hj2:=(aak.mp n).1;rw[abK,afm]at hj2;let ej:j=↥ks:=()
   subst ej;rw[apd]at n;cases n;rw[hi];show B
 .let#[ks,hl,H',e,u,c,a,l,y]:=hd
  try dsimp only
  show π (listItems_at a.1 rfl ?_)*>agP W C M o hl u a l y λQ e2 q z hs L=>h Q H' e2 q z c hs L
end
def adQ(W:aQ lt)(F:By X σ f vs H Kp)(C:pP X σ ↥vs Kp lt)(u:↥vs<64)(I:Inv X ϵ σ H s)(G:s.heap.IsList l vs.toArray)(v:argsOk "sorted" #[[.ref l],kw])(y:∀x,argsOk "list.sort" #[[.ref x],kw])(J:∀x,aox.«list.sort» #[[.ref x],kw]=ksk_tree x f b)(h:∀D s' H' z q,Inv X ϵ σ H' s'->ζ H H'->ik ↥vs (oZ b lt) q->aB X.ϗ ϵ H' s' D (jr vs q) z->Q (.ref D) s'):Ϧ ∅ X.A (call (.builtin "sorted") [.ref l] kw) Q E s:=by
 show call_function_entry_kw kind_sorted plain_sorted entry_sorted v ?_;unfold aox.«sorted»;show π (m:=checkCount "sorted" 1 1 _) (ϯ ?_)*>π (collect_list G ?_ (by rw[Ϯ];omega))*>π (wpAny_newList ?_ (by rw[Ϯ];omega));let hsz:((s.heap.push (seqObj "list" #v[] 0)).update ⇑s (Obj.mapSeq (· ++vs.toArray))).objs.size=⇑s+1:=by
  rw[aub,size_push']
 let c:(((s.heap.push (seqObj "list" #v[] 0)).update ⇑s (Obj.mapSeq (· ++vs.toArray))).push (seqObj "list" vs.toArray 0)).get? (⇑s+1)=↑(seqObj "list" vs.toArray 0):=by
  rw[<-hsz];show abn _ rfl
 let keep:∀b o,s.heap.get? b=↑o->(((s.heap.push (seqObj "list" #v[] 0)).update ⇑s (Obj.mapSeq (· ++vs.toArray))).push (seqObj "list" vs.toArray 0)).get? b=↑o:=λb o q=>by
  let e:b<⇑s:=abN q;rw[atU _ _ _ (by rw[hsz];show adb (aqZ e)),aqj _ _ _ _ (adb e),atU _ _ _ (adb e)];show q
 show Ϧ _ _ _ _ _ {s with heap:=((s.heap.push (seqObj "list" #v[] 0)).update ⇑s (Obj.mapSeq (· ++vs.toArray))).push (seqObj "list" vs.toArray 0)};rw[hsz];let g:(((s.heap.push (seqObj "list" #v[] 0)).update ⇑s (Obj.mapSeq (· ++vs.toArray))).push (seqObj "list" vs.toArray 0)).objs.size=⇑s+2:=by rw[size_push',hsz]
 generalize((s.heap.push (seqObj "list" #v[] 0)).update ⇑s (Obj.mapSeq (· ++vs.toArray))).push (seqObj "list" vs.toArray 0)=h2 at c keep g⊢;show π (aez (wpAny_call_entry_kw slot_list_sort #[_,c,rfl] entry_list_sort ?body (y _)))
 case body=>
  show Ϧ ∅ X.A.in1.in1 (aox.«list.sort» #[[.ref (⇑s+1)],kw]) _ _ _;rw[J];let i:⇑s<=⇑s+1:=aoY _;generalize ⇑s+1=a at c i⊢;obtain⟨e1,j⟩:∃e1,(h2.update a (Obj.mapSeq λ_=>(#v[]:Array ε))).get? a=↑(seqObj "list" #v[] e1):=#[_,get?_update_seq c λ_=> #v[]];let n:((h2.update a (Obj.mapSeq λ_=>(#v[]:Array ε))).push (seqObj "tuple" vs.toArray 0)).objs.size=⇑s+3:=by rw[size_push',aub,g]
  let L:∀b o,s.heap.get? b=↑o->(((h2.update a (Obj.mapSeq λ_=>(#v[]:Array ε))).push (seqObj "tuple" vs.toArray 0)).push (seqObj "list" #v[] 0)).get? b=↑o:=λb o q=>by
   let e:b<⇑s:=abN q;show ϲ _ (ϲ _ ?_);rw[aqj _ _ _ _ (adb (aco e i))];show keep b o q
  let B:((h2.update a (Obj.mapSeq λ_=>(#v[]:Array ε))).push (seqObj "tuple" vs.toArray 0)).objs.size≠a:=by
   have:=abN c;rw[n];rw[g]at this;show aoR (aqZ this)
  unfold ksk_tree;show π (listItems_at c rfl ?_)*>π (listUpdate_at c rfl ?_ (by rw[aa0,Ϯ];omega) (ag3 _))*>π (seqEpoch_at j rfl ?_)*>π (wpAny_newTuple ?_ (by show ↥vs<=_;rw[Ϯ];omega))*>π (wpAny_newList ?_ (ag3 _))*>aez ?_;let M:Inv X.ϗ ϵ σ H {s with heap:=((h2.update a (Obj.mapSeq λ_=>(#v[]:Array ε))).push (seqObj "tuple" vs.toArray 0)).push (seqObj "list" #v[] 0)}:=I.ϗ.kept (t':=s.toks) L;let p:⇑s<=((h2.update a (Obj.mapSeq λ_=>(#v[]:Array ε))).push (seqObj "tuple" vs.toArray 0)).objs.size:=by rw[n];show amc _ _
  show ahZ (X:=X) (ϵ:=ϵ) (σ:=σ) (H:=H) (H₁:=H) (kS:=((h2.update a (Obj.mapSeq λ_=>(#v[]:Array ε))).push (seqObj "tuple" vs.toArray 0)).objs.size) (D:=a) (e1:=e1) W F C (Ne.symm B) u M (ζ.refl _) #[abn _ rfl,I.ϗ.fpOk p (I.hok.fresh p)] #[ϲ _ (ϲ _ j),I.ϗ.fpOk i (I.hok.fresh i)] λs' H' z q O P R S=>#[_,rfl,?_]
  show ϯ #[_,rfl,h a s' H' z q (Inv.un2 I.ok O) P R S]
def dJ(xs:List V)(q:List Nat):List V:=q.map λi=>xs.getD i .non
theorem Wd(r:Vals xs vs):∀{q:List Nat},(∀i∈q,i<↥xs)->Vals (dJ xs q) (jr vs q)
 |[],_=>.nil
 |i::q,h=>by
  let hil:=h i (by simp);let hi:xs[i]?=↑(xs[i]'hil):=aah hil;let#[u,e,a]:=r.get hi;show Vals (xs.getD i .non::dJ xs q) (vs.getD i Value.none::jr vs q);rw[abP,abP,hi,e];show .cons a (Wd r λj c=>h j (by simp[c]))
theorem HH(h:ik n lt q)(hi:i∈q):i<n:=ajF.mp (h.1.mem_iff.mp hi)
def af1(h:ik n lt q):↥q=n:=by rw[h.1.length_eq,ahr]
def Ol(W:aQ lt)(hs:θ X.K H l xs)(y:↥xs<64)(z:∀vs,Vals xs vs->By X σ f vs H Kp/\pP X σ ↥xs Kp lt)(I:Inv X ϵ σ H s)(m:argsOk "sorted" #[[.ref l],kw])(u:∀x,argsOk "list.sort" #[[.ref x],kw])(B:∀x,aox.«list.sort» #[[.ref x],kw]=ksk_tree x f b)(h:∀p H' q,ζ H H'->H' p=none->ik ↥xs (oZ b lt) q->Q (.ref p) (upd H' p (.lst (dJ xs q)))):Ϧ ∅ X.A (call (.builtin "sorted") [.ref l] kw) (EP X ϵ σ Q) E s:=by
 let#[vs,r,pl,O]:=I.list hs;let a:=↥r;let#[C,v]:=z vs r;rw[a]at v;let#[o,n,e,c,d,F]:=pl;show adQ (b:=b) W C v () I #[o,e,c,n,F] m u B λD s' H' G q J L g j=>?_
 rw[<-a]at g;let M:=af1 g;show#[.ref D,_,J.akE (e:=D) (o:=.lst (dJ xs q)) j.2.1 j.2.ch #[?_,jr vs q,G,Wd r λi hi=>HH g hi,j.1],rfl,h D H' q L j.2.1 g];show(q.map _).length<=_;rw[aau];omega
def xm(A:ϴ)(s:μ)(fin:Bool):List ε->List ε->Bool->Prop
 |x::xs,y::ys,r=>∃e,SeqAt.EqAt A s x y e/\(e=true->xm A s fin xs ys r)/\(e=false->∀(prog:ϱ)(w:ϭ)(E:ε->μ->Prop)(Q:ε->μ->Prop),Q (.bool r) s->Ϧ (Ϩ prog w) A (richCompare .Lt x y) Q E s)
 |_,_,r=>r=fin
open PySem.AutoSeq1 (wpAny_loadPart') in
theorem XJ(l b:δ)(c a:Array ε)(n F:Nat)(dd o:Option δ)(sl u:Array (Option ε))(r:Bool):Meets (aox.«tuple.__lt__» #[[.ref l,.ref b],[]])
   (λA R s=>s.heap.get? l=some {cls:=.type "tuple",dict:=dd,data:=.seq c n,slots:=sl}/\s.heap.get? b=some {cls:=.type "tuple",dict:=o,data:=.seq a F,slots:=u}/\
    xm A.in1 s (decide (c.size<a.size)) c.toList a.toList r/\R (.ok (.ret (.bool r))) s):=
 .of_wp λprog w A R s h=>by
  let#[C,g,d,tk,os]:=s;let#[h1,h2,f,D]:=h;let E:=AutoSeq1.sub_tuple_tuple
  wp_walk using wpAny_loadPart' h1,wpAny_loadPart' h2,wpAny_forIn_list _ (λleft m s'=>m.1=none/\s'=#[C,g,d,tk,os]/\∃p q,left=List.zip p q/\xm A.in1 #[C,g,d,tk,os] (decide (c.size<a.size)) p q r) _
  case turn=>
   rintro⟨x,y⟩ left m s' ⟨v,rfl,p,q,i,f⟩
   match p,q,f with
   |[],_,_=>cases i
   |_::_,[],_=>cases i
   |x'::p,G::q,f=>
    rw[atJ]at i;injection i with z j
    injection z with ex H
    subst ex H;let#[e,I,J,L]:=f;show π (I prog w _ _ ?_);cases e with
    |true=>
     wp_walk
     show#[rfl,rfl,p,q,j,J rfl]
    |false=>
     let B:=L rfl prog w
     wp_walk using B
     show#[_,rfl,~~~D]
  case fin=>
   rintro⟨M,O⟩ s' ⟨v,rfl,p,q,i,f⟩
   simp only at v;subst v;let fin:r=decide (c.size<a.size):=by
    match p,q,f with
    |[],[],f=>show f
    |[],_::_,f=>show f
    |_::_,[],f=>show f
    |x'::p,G::q,f=>rw[atJ]at i;cases i
   subst fin
   wp_walk
   show#[_,rfl,by simpa [Builtin.Tuple.tupleCompareSizes]using D]
  case h=>
   show#[rfl,rfl,c.toList,a.toList,rfl,f]
def dg:List V->List V->Bool
 |[],[]=>false
 |[],_::_=>true
 |_::_,[]=>false
 |x::_,y::_=>ltV x y
def jC(x y:V):Prop:=(∃m n,x=.int m/\y=.int n)\/∃m n,x=.str m/\y=.str n
def oX(r:List V):Prop:=r=[]\/∃x,r=[x]
def Hv(x:V):ltV x x=false:=by
 cases x with
 |int i=>show decide_eq_false ()
 |str z=>show decide_eq_false (List.lt_irrefl _)
 |_=>rfl
def Oc(h:jC x y)(c:RelV x u)(f:RelV y v):∃e,SeqAt.EqAt A s u v e/\(e=true↔x=y):=by
 obtain⟨m,n,rfl,rfl⟩|⟨m,n,rfl,rfl⟩:=h
 .let#[t,rfl]:=c;let#[a,rfl]:=f;show#[_,SeqAt.EqAt.int_int m t n a,by simp]
 .let#[t,rfl]:=c;let#[a,rfl]:=f;show#[_,SeqAt.EqAt.str_str m t n a,by simp]
def akr(h:jC x y)(a:RelV x u)(c:RelV y v)(q:Q (.bool (ltV x y)) s):Ϧ (Ϩ prog w) A (richCompare .Lt u v) Q E s:=by
 obtain⟨m,n,rfl,rfl⟩|⟨m,n,rfl,rfl⟩:=h
 .let#[t,rfl]:=a;let#[e,rfl]:=c;show lt_int q
 .let#[t,rfl]:=a;let#[e,rfl]:=c;show lt_str q
def agk(h:jC x y)(a:RelV x u)(c:RelV y v)(q:Q (ltV x y) s):Ϧ (Ϩ prog w) A (oneLt' true u v) Q E s:=by
 obtain⟨m,n,rfl,rfl⟩|⟨m,n,rfl,rfl⟩:=h
 .let#[t,rfl]:=a;let#[e,rfl]:=c;show oneLt_int q
 .let#[t,rfl]:=a;let#[e,rfl]:=c;show oneLt_str q
def ami(i:oX rx)(c:oX ry)(j:∀x y,rx=[x]->ry=[y]->jC x y)(f:Vals rx us)(a:Vals ry ws):xm A s (decide (↥us<↥ws)) us ws (dg rx ry):=by
 obtain rfl|⟨x,rfl⟩:=i
 .cases Vals.zero f;obtain rfl|⟨y,rfl⟩:=c
  .cases Vals.zero a;rfl
  .let#[v,rfl,_]:=Vals.one a;rfl
 .let#[u,rfl,r1]:=Vals.one f;obtain rfl|⟨y,rfl⟩:=c
  .cases Vals.zero a;rfl
  .let#[v,rfl,g]:=Vals.one a;let lk:=j x y rfl rfl;let#[e,l,hi]:=Oc (A:=A) (s:=s) lk r1 g;show#[e,l,λh=>?_,λh prog w E Q q=>akr lk r1 g q];have:x=y:=hi.mp h;subst this;show ltV x x=decide (1<1);rw[Hv];rfl
section
variable{X:Cx}{ϵ:List (δ×Obj)}{σ:St}{H:Hp}{s:μ}{a b:δ}{rx ry:List V}
def J1(I:Inv X ϵ σ H s)(h:H a=↑(.tup rx)):∃(f:List ε)(n:Nat)(dd:Option δ)(sl:Array (Option ε)),Vals rx f/\s.heap.get? a=some {cls:=.type "tuple",dict:=dd,data:=.seq f.toArray n,slots:=sl}:=by
 let#[_,f,r,#[cls,dd,data,sl],e,c,n,d]:=(I.hok a _ h:ϟ X.prog X.w H s.heap a (.tup rx));simp only at c d;subst c d;show#[f,n,dd,sl,r,e]
def aoT{κ:SortKind}(l:A.units<cLine)(I:Inv X ϵ σ H s)(M:H a=↑(.tup rx))(O:H b=↑(.tup ry))(m:oX rx)(o:oX ry)(p:∀x y,rx=[x]->ry=[y]->jC x y)(j:κ=general'\/κ=oneType'\/(κ=tuples' true/\rx≠[]/\ry≠[]))(q:Q (dg rx ry) s):Ϧ ∅ A (keyLt' κ (.ref a) (.ref b)) Q E s:=by
 let#[us,n,dd,sl,B,c]:=J1 I M;let#[ws,C,f,g,D,i]:=J1 I O;let G:xm A.in1 s (decide (us.toArray.size<ws.toArray.size)) us.toArray.toList ws.toArray.toList (dg rx ry):=by
  simpa using ami m o p B D
 obtain rfl|rfl|⟨rfl,h1,h2⟩:=j
 .show Ϧ _ _ (oneLt' false (.ref a) (.ref b)) _ _ _*>kat_one _ _ ?_*>richCompare_meets_room (op:=.Lt) #[_,c,rfl] #[_,i,rfl] F.slot_tuple_lt F.entry_tuple_lt (F.args_tuple_lt_2 _ _) (XJ a b us.toArray ws.toArray n C dd f sl g (dg rx ry)) #[c,i,G,(λz=>nomatch z),q] l
 .show Ϧ _ _ (oneLt' true (.ref a) (.ref b)) _ _ _;rw[oneLt'_eq];simp only[if_true];show π (wpAny_cRoomFor l ?_)*>π (wpAny_callSpecialIfBound?_slot (T:="tuple") #[_,c,rfl] F.slot_tuple_lt ?_)*>aqt F.slot_tuple_lt #[_,c,rfl] F.entry_tuple_lt (F.args_tuple_lt_2 _ _) (XJ a b us.toArray ws.toArray n C dd f sl g (dg rx ry)) #[c,i,G,?_]*>ag7 q
 .obtain rfl|⟨x,rfl⟩:=m
  .show absurd rfl h1
  obtain rfl|⟨y,rfl⟩:=o
  .show absurd rfl h2
  let#[u,rfl,r1]:=Vals.one B;let#[v,rfl,J]:=Vals.one D;let lk:=p x y rfl rfl;show kat_lt c rfl i rfl ?_;let#[e,P,hi]:=Oc (A:=A) (s:=s) lk r1 J;show kat_cons (P X.prog X.w _ _ ?_)*>kat_go (λh=>?_) λh=>?_
  .have :x=y:=hi.mp h;subst this;show kat_yes (kat_nil ?_);let L:Q (ltV x x) s:=q;rw[Hv]at L;show L
  .show kat_no (agk lk r1 J q)
end
section
variable{M:Model}{A:ϴ}{E:ε->μ->Prop}{s:μ}
def xK(h:ϫ):List ε->List (Option ε)->Prop
 |[],[]=>True
 |v::vs,f::fs=>(∃a o xs n,v=.ref a/\h.get? a=↑o/\o.cls=.type "tuple"/\o.data=.seq xs n/\xs[0]?=f)/\xK h vs fs
 |_,_=>False
theorem aay:∀(vs:List ε)(fs:List (Option ε)){Q:List (Option ε)->μ->Prop},xK s.heap vs fs->Q fs s->Ϧ M A (vs.mapM firstOfTuple') Q E s
 |[],[],_,_,h=>by rw[List.mapM_nil];show ϯ h
 |[],_::_,_,t,_=>t.elim
 |_::_,[],_,t,_=>t.elim
 |v::vs,f::fs,Q,t,h=>by
  let#[#[a,o,xs,n,rfl,c,e,hd,g],t]:=t;rw[List.mapM_cons];show π ?_;rw[kas_first_eq];show π (Looks.here (show Looks M s.heap (typeOf (.ref a)) o.cls from(Looks.ld c).andThen .now) ?_);rw[e,if_neg (by first|decide|simp)];show π (listItems_at c hd (ϯ ?_));rw[g];show π (aay vs fs (Q:=λbs s'=>Ϧ M A (pure (f::bs)) Q E s') t (ϯ h))
theorem V1:∀{vs:List ε}{fs:List (Option ε)},xK s.heap vs fs->∀v∈vs,Looks M s.heap (typeOf v) (.type "tuple")
 |v::vs,f::fs,t,u,hu=>by
  let#[#[a,o,xs,n,rfl,c,e,hd,g],t]:=t;obtain rfl|hu:=aaF.mp hu
  .rw[<-e];show(Looks.ld c).andThen .now
  .show V1 t u hu
def kind_any{Q:SortKind->μ->Prop}(t:xK s.heap vs fs)(B:0<↥vs)(C:∀v,↑v∈fs->Looks M s.heap (typeOf v) T)(m:(T==T)=true)(n:(T !=Value.type "tuple")=true)(h1:(∀f∈fs,f.isSome=true)->Q (tuples' true) s)(h2:Q general' s)(G:Q oneType' s):Ϧ M A (keyKind' vs.toArray) Q E s:=by
 rw[kat_kind_eq,asV,map_eq_pure_bind];show π (π (aay vs _ t (ϯ ?_)));by_cases i:(fs.toArray.all λx=>x.isSome)=true
 .rw[if_pos i];let a:∀f∈fs,f.isSome=true:= ~~~i
  show π (wpAny_rule ?_);let p:↥fs=↥vs:=by
   clear C h1 i a B;induction vs generalizing fs with
   |nil=>cases fs with
    |nil=>rfl
    |cons _ _=>show t.elim
   |cons v vs H=>cases fs with
    |nil=>show t.elim
    |cons f fs=>simp[H t.2]
  let q:fs.toArray.filterMap id=(fs.filterMap id).toArray:=by simp
  let D:fs.filterMap id≠[]:=by
   intro z
   match fs,p with
   |[],e=>simp at e;omega
   |f::fs,_=>
    let#[v,rfl]:=anc.mp (a f (by simp));simp at z
  rw[q,oneTypeOnly'_eq,asV,map_eq_pure_bind];let j:∀v∈fs.filterMap id,Looks M s.heap (typeOf v) T:=λv l=>by
   let#[o,I,e]:=amr.mp l;let J:o=↑v:=e;show C v (J▸I)
  generalize fs.filterMap id=F at D j;show π (π (π (kas_mapM (r:=T) _ (λv l L u=>(j v l).here u) (ϯ ?_))));obtain⟨g,gr,rfl⟩:∃g gr,F=g::gr:=by
   match F,D with
   |[],z=>show absurd rfl z
   |g::gr,_=>show#[g,gr,rfl]
  let c:((auv (λ_=>T) (g::gr)).toArray.all λx=>x==T)=true:=by
   simp only[auc,atX,acE];intro _ _;show m
  let y:(auv (λ_=>T) (g::gr)).toArray[0]?=↑T:=by simp
  rw[y];simp only[c,if_true];show ϯ (ϯ ?_);let e:(↑T).any (λx=>x !=Value.type "tuple")=true:=n;rw[e];show h1 a
 .rw[if_neg i];split
  .show ϯ h2
  .rw[oneTypeOnly'_eq,asV,map_eq_pure_bind];show π (π (π (kas_mapM (r:=Value.type "tuple") _ (λv l L u=>(V1 t v l).here u) (ϯ ?_))));obtain⟨g,gr,rfl⟩:∃g gr,vs=g::gr:=by
    match vs,B with
    |g::gr,_=>show#[g,gr,rfl]
   let c:((auv (λ_=>Value.type "tuple") (g::gr)).toArray.all λx=>x==Value.type "tuple")=true:=by
    simp only[auc,atX,acE];intro _ _;show(Value.type "tuple"==Value.type "tuple")=true;decide
   let y:(auv (λ_=>Value.type "tuple") (g::gr)).toArray[0]?=↑(Value.type "tuple"):=by simp
   rw[y];simp only[c,if_true];show ϯ (ϯ G)
end
structure xG(X:Cx)(σ:St)(f:ε)(xs:List V)(H₁:Hp)(KV:Nat->V->Hp->Prop):Prop where
 mono:∀i v H H',ζ H H'->KV i v H->KV i v H'
 call:∀i x u ϵ s H,xs[i]?=↑x->RelV x u->ζ H₁ H->Inv X.ϗ ϵ σ H s->Ϧ ∅ X.A.in1.in1 (call f [u]) (EP X.ϗ ϵ σ λk H'=>ζ H H'/\KV i k H') (λ_ _=>False) s
def Ae(KV:Nat->V->Hp->Prop)(i:Nat)(k:ε)(H:Hp):=∃v,RelV v k/\KV i v H
theorem xG.fn{X:Cx}{σ:St}{f:ε}{xs:List V}{vs:List ε}{H₁:Hp}{KV:Nat->V->Hp->Prop}(h:xG X σ f xs H₁ KV)(r:Vals xs vs):By X σ f vs H₁ (Ae KV)where
 mono:=λi k H H' a ⟨v,c,q⟩=>#[v,c,h.mono i v H H' a q]
 call:=λi u ϵ s H g a I=>by
  let p:=↥r;let hi:=(aak.mp g).1;let j:xs[i]?=↑(xs[i]'()):=aah _;let#[x,e,l]:=r.get j;rw[g]at e;cases e;show adq (h.call i _ u ϵ s H j l a I) (λk s' z=>by let#[v,H',m,c,n,o]:=z;show #[H',m,n,v,c,o]) λ_ _ z=>z
def Ru(f:Nat->Int)(i:Nat)(v:V)(_:Hp):Prop:=v=.int (f i)
section
variable{X:Cx}{σ:St}{n:Nat}
theorem O7:∀{ks:List ε}{f:Nat->Int},(∀(i:Nat) k,ks[i]?=↑k->∃t,k=.int (f i) t)->IntsAre ks ((ado ↥ks).map f)
 |[],_,_=>.nil
 |k::ks,f,h=>by
  let#[t,rfl]:=h 0 k rfl;have:=O7 (ks:=ks) (f:=λi=>f (i+1)) λi k e=>h (i+1) k (~~~e)
  rw[abU,atc,aen,afR];show .cons _ t this
theorem ak3:pP X σ n (Ae (Ru f)) (λi j=>decide (f i<f j))where
 kind:=λϵ s H ks I q h2 c=>by
  let a:∀(i:Nat) k,ks[i]?=↑k->∃t,k=.int (f i) t:=λi k e=>by
   let#[v,g,rfl]:=c i k e;let#[t,rfl]:=g;show#[t,rfl]
  rw[ksk_kind (keys:=ks.toArray) (kz:=(ado ↥ks).map f) (~~~O7 a) (by rw[aa0];omega)];show ϯ #[I,λi j l m ϵ s hi o p=>?_];let#[t,rfl]:=a i l hi;let#[u,rfl]:=a j m o;rw[keyLt'_oneType];show oneLt_int #[rfl,p]
theorem amA{f:Nat->Int}:aQ λi j=>decide (f i<f j):=#[λi=>decide_eq_false (),λi j k h1 h2=>decide_eq_true (by have:=of_decide_eq_true h1;have:=of_decide_eq_true h2;omega),λi j k h=>by
 have:=of_decide_eq_true h;by_cases h2:f i<f j
 .show .inl (decide_eq_true h2)
 .show .inr (decide_eq_true ())]
def ZL(rk:Nat->List V)(i:Nat)(v:V)(H:Hp):=∃a,v=.ref a/\H a=↑(.tup (rk i))
def rM(rk:Nat->List V):Prop:=(∀i,oX (rk i))/\((∀i x,rk i=[x]->∃m,x=.int m)\/∀i x,rk i=[x]->∃m,x=.str m)
def rM.lk(h:rM rk)(a:rk i=[x])(c:rk j=[y]):jC x y:=by
 obtain h|h:=h.2
 .let#[m,rfl]:=h i x a;let#[n,rfl]:=h j y c;show .inl #[m,n,rfl,rfl]
 .let#[m,rfl]:=h i x a;let#[n,rfl]:=h j y c;show .inr #[m,n,rfl,rfl]
theorem Rq(I:Inv X ϵ σ H s):∀{ks:List ε}{rk:Nat->List V},(∀i,oX (rk i))->(∀(i:Nat) k,ks[i]?=↑k->∃a,k=.ref a/\H a=↑(.tup (rk i)))->
  ∃fs,xK s.heap ks fs/\(∀f∈fs,(∃i,(f=none/\rk i=[])\/∃x v,f=↑v/\rk i=[x]/\RelV x v))/\∀i,i<↥ks->rk i=[]->none∈fs
 |[],rk,_,_=>#[[],trivial,λf hf=>by simp at hf,λi hi=>by simp at hi]
 |k::ks,rk,j,h=>by
  let#[a,rfl,p]:=h 0 k rfl;let#[fs,h1,h2,l]:=Rq I (ks:=ks) (rk:=λi=>rk (i+1)) (λi=>j (i+1)) λi k e=>h (i+1) k (~~~e)
  let#[us,n,dd,sl,g,m]:=J1 I p;let o:=j 0;generalize c:rk 0=y at o g;obtain rfl|⟨x,rfl⟩:=o
  .cases Vals.zero g;show#[none::fs,#[#[a,_,_,n,rfl,m,rfl,rfl,rfl],h1],λf hf=>?_,λi hi z=>?_];obtain rfl|hf:=aaF.mp hf
   .show#[0,.inl #[rfl,c]]
   .let#[i,q]:=h2 f hf;show#[i+1,q]
   .cases i with
    |zero=>simp
    |succ i=>show aby _ (l i (~~~hi) z)
  .let#[u,rfl,r1]:=Vals.one g;show#[↑u::fs,#[#[a,_,_,n,rfl,m,rfl,rfl,rfl],h1],λf hf=>?_,λi hi z=>?_];obtain rfl|hf:=aaF.mp hf
   .show#[0,.inr #[x,u,rfl,c,r1]]
   .let#[i,q]:=h2 f hf;show#[i+1,q]
   .cases i with
    |zero=>rw[c]at z;cases z
    |succ i=>show aby _ (l i (~~~hi) z)
theorem abg(F:X.A.in1.in1.units<cLine)(f:rM rk):pP X σ n (Ae (ZL rk)) (λi j=>dg (rk i) (rk j))where
 kind:=λϵ s H ks I Y h2 G=>by
  let c:∀(i:Nat) k,ks[i]?=↑k->∃a,k=.ref a/\H a=↑(.tup (rk i)):=λi k e=>by
   let#[v,g,a,rfl,p]:=G i k e;cases g;show#[a,rfl,p]
  let#[fs,t,B,J]:=Rq I f.1 c;let any:∀κ,(κ=general'\/κ=oneType'\/(κ=tuples' true/\∀i,i<n->rk i≠[]))->Fq X σ H ks (λi j=>dg (rk i) (rk j)) κ:=λκ q i j L M ϵ s hi C D=>by
   let#[a,rfl,p]:=c i L hi;let#[b,rfl,O]:=c j M C;let P:=(aak.mp hi).1;let Q:=(aak.mp C).1;show aoT (X:=X.ϗ) F D p O (f.1 i) (f.1 j) (λx y e1 l=>f.lk e1 l) ?_ #[rfl,D];obtain h|h|⟨h,E⟩:=q
   .show .inl h
   .show .inr (.inl h)
   .show .inr (.inr #[h,E i (),E j ()])
  let fin:∀(T:ε),(T==T)=true->(T !=Value.type "tuple")=true->(∀v,↑v∈fs->Looks ∅ s.heap (typeOf v) T)->Ϧ ∅ X.A.in1.in1 (keyKind' (afX ks)) (λκ s'=>Inv X.ϗ ϵ σ H s'/\Fq X σ H ks (λi j=>dg (rk i) (rk j)) κ) (λ_ _=>False) s:=λT R S U=>
   kind_any t () U R S (λo=>#[I,any _ (.inr (.inr #[rfl,λi hi z=>absurd (o _ (J i () z)) (by decide)]))]) #[I,any _ (.inl rfl)] #[I,any _ (.inr (.inl rfl))]
  obtain hk|hk:=f.2
  .show fin (.type "int") (by decide) (by decide) λv u=>?_
   obtain⟨i,⟨e,_⟩|⟨x,W,e,l,g⟩⟩:=B _ u
   .cases e
   .cases e;let#[m,rfl]:=hk i x l;let#[t,rfl]:=g;show .now
  .show fin (.type "str") (by decide) (by decide) λv u=>?_
   obtain⟨i,⟨e,_⟩|⟨x,W,e,l,g⟩⟩:=B _ u
   .cases e
   .cases e;let#[m,rfl]:=hk i x l;let#[t,rfl]:=g;show .now
def af6(h1:jC x y)(h2:jC y z)(a:ltV x y=true)(b:ltV y z=true):ltV x z=true:=by
 obtain⟨m,n,rfl,rfl⟩|⟨m,n,rfl,rfl⟩:=h1
 .obtain⟨c,k,e,rfl⟩|⟨_,_,e,_⟩:=h2
  .cases e;show decide_eq_true (by have:=of_decide_eq_true a;have:=of_decide_eq_true b;omega)
  .cases e
 .obtain⟨_,_,e,_⟩|⟨c,k,e,rfl⟩:=h2
  .cases e
  .cases e;show decide_eq_true (List.lt_trans (of_decide_eq_true a) (of_decide_eq_true b))
def ahk(h1:jC x y)(h2:jC y z)(a:ltV x z=true):ltV x y=true\/ltV y z=true:=by
 obtain⟨m,n,rfl,rfl⟩|⟨m,n,rfl,rfl⟩:=h1
 .obtain⟨f,k,e,rfl⟩|⟨_,_,e,_⟩:=h2
  .cases e;have:=of_decide_eq_true a;by_cases h:m<n
   .show .inl (decide_eq_true h)
   .show .inr (decide_eq_true ())
  .cases e
 .obtain⟨_,_,e,_⟩|⟨f,k,e,rfl⟩:=h2
  .cases e
  .cases e;by_cases h:m.cps.toList<n.cps.toList
   .show .inl (decide_eq_true h)
   .show .inr (decide_eq_true ?_);let c:n.cps.toList<=m.cps.toList:=List.not_lt.mp h;show List.lt_of_le_of_lt c (of_decide_eq_true a)
theorem Td{rk:Nat->List V}(a:rM rk):aQ λi j=>dg (rk i) (rk j)where
 ir:=λi=>by
  show dg (rk i) (rk i)=false;obtain e|⟨x,e⟩:=a.1 i
  .rw[e];rfl
  .rw[e];show Hv x
 tr:=λi j k h1 h2=>by
  let h1:dg (rk i) (rk j)=true:=h1;let h2:dg (rk j) (rk k)=true:=h2;show dg (rk i) (rk k)=true;obtain f|⟨x,f⟩:=a.1 i<;>obtain c|⟨y,c⟩:=a.1 j<;>obtain g|⟨z,g⟩:=a.1 k<;>rw[f]at h1⊢ <;>rw[c]at h1 h2<;>rw[g]at h2⊢ <;>first|(cases h1;done)|(cases h2;done)|rfl|show af6 (a.lk f c) (a.lk c g) h1 h2
 nt:=λi j k h=>by
  let h:dg (rk i) (rk k)=true:=h;show dg (rk i) (rk j)=true\/dg (rk j) (rk k)=true;obtain f|⟨x,f⟩:=a.1 i<;>obtain c|⟨y,c⟩:=a.1 j<;>obtain g|⟨z,g⟩:=a.1 k<;>rw[f,g]at h<;>rw[f,c,g]<;>first|(cases h;done)|show .inl rfl|show .inr rfl|show ahk (a.lk f c) (a.lk c g) h
end
section
variable{X:Cx}{σ:St}{H:Hp}{Q:VK}{e ke re:Ϫ}{p pos kp rp:Pos}
def zO(X:Cx)(σ:St)(b:Bool)(v a:V)(H:Hp)(Q:VK):=∃(l f:δ)(xs:List V)(KV:Nat->V->Hp->Prop)(lt:Nat->Nat->Bool),v=.ref l/\a=.ref f/\θ X.K H l xs/\↥xs<64/\aQ lt/\xG X σ (.ref f) xs H KV/\pP X σ ↥xs (Ae KV) lt/\
 ∀p H' q,ζ H H'->H' p=none->ik ↥xs (oZ b lt) q->Q (.ref p) (upd H' p (.lst (dJ xs q)))
def Xg(j:X.mg "sorted"=none)(h:EV X e σ H λv H1=>EV X ke σ H1 λa H2=>zO X σ false v a H2 Q)(m:Gl X "sorted":=by rfl)(c:ϳ [e] X.env=[(false,eval e X.env)]:=by rfl):EV X (.Call (.Name "sorted" p) [e] [#[some "key",ke,kp]] pos) σ H Q:=by
 intro ϵ s I;show alO (jt I m j PyProof.Rows.boot_sorted ?_ (by decide) (by decide));let n:EA X [e] σ H (λvs H1=>∃v,vs=[v]/\EV X ke σ H1 λa H2=>zO X σ false v a H2 Q):=dF c (Ϣ h λv H1 q=>gb #[v,rfl,q]);show callWith_kw (υ (n pos ϵ s I) λus o y=>?_) (by rw[c];rfl) (by rw[c];rfl);let#[vs,H1,z,r1,v,B,C]:=y;subst B;let#[u,rfl,D]:=Vals.one r1;show kws_cons (υ (C ϵ o z) λM O _u=>_Z.e23 _u λa H2 E F G=>kws_nil ?_);let#[l,f,xs,KV,lt,rfl,rfl,hs,i,W,J,L,g]:=G;cases D;cases F;show Ol (kw:=[(ν "key",.ref f)]) W hs i (λvs r=>#[J.fn r,L]) E (ksk_s1 _ _) (λx=>ksk_l1 _ _) (λx=>ksk_t1 f x) g
def ac5(o:Gl X "sorted")(y:X.mg "sorted"=none)(j:ϳ [e] X.env=[(false,eval e X.env)])(h:EV X e σ H λv H1=>EV X ke σ H1 λa H2=>EV X re σ H2 λc i=>c=.bl b/\zO X σ b v a i Q):EV X (.Call (.Name "sorted" p) [e] [#[some "key",ke,kp],#[some "reverse",re,rp]] pos) σ H Q:=by
 intro ϵ s I;show alO (jt I o y PyProof.Rows.boot_sorted ?_ (by decide) (by decide));let z:EA X [e] σ H (λvs H1=>∃v,vs=[v]/\EV X ke σ H1 λa H2=>EV X re σ H2 λc i=>c=.bl b/\zO X σ b v a i Q):=dF j (Ϣ h λv H1 q=>gb #[v,rfl,q]);show callWith_kw (υ (z pos ϵ s I) λus B C=>?_) (by rw[j];rfl) (by rw[j];rfl);let#[vs,H1,D,r1,v,E,F]:=C;subst E;let#[u,rfl,G]:=Vals.one r1;show kws_cons (υ (F ϵ B D) λY J _u=>_Z.e23 _u λa H2 L M O=>kws_cons (υ (O ϵ J L) λZ s3 ⟨c,i,P,R,m,S⟩=>kws_nil ?_));let#[l,f,xs,KV,lt,rfl,rfl,hs,n,W,T,U,g]:=S;subst m;cases G;cases M;cases R;show Ol (kw:=[(ν "key",.ref f),(ν "reverse",.bool b)]) W hs n (λvs r=>#[T.fn r,U]) P (ksk_s2<*_) (λx=>ksk_l2 _ _ _) (λx=>ksk_t2 f x b) g
abbrev Cx.tR(X:Cx):Cx:={X.ϗ with xe:=λ_ _=>False}
theorem Inv.tR(I:Inv X.ϗ ϵ σ H s):Inv X.tR ϵ σ H s:=
 #[#[I.ok.mod,I.ok.kind,I.ok.glob,I.ok.blt,I.ok.above,I.ok.inj,I.ok.has,I.ok.cab,I.ok.hd,I.ok.frames,I.ok.stk,I.ok.exf,I.ok.bs,I.ok.bsz,I.ok.noex,I.ok.exfs,I.ok.funs,I.ok.frf],I.os,I.bare,I.base,I.loc,I.cell,I.free,I.freeC,I.pin,I.hok,I.len]
theorem Inv.unX(I:Inv X.tR ϵ σ H s):Inv X.ϗ ϵ σ H s:=
 #[#[I.ok.mod,I.ok.kind,I.ok.glob,I.ok.blt,I.ok.above,I.ok.inj,I.ok.has,I.ok.cab,I.ok.hd,I.ok.frames,I.ok.stk,I.ok.exf,I.ok.bs,I.ok.bsz,I.ok.noex,I.ok.exfs,I.ok.funs,I.ok.frf],I.os,I.bare,I.base,I.loc,I.cell,I.free,I.freeC,I.pin,I.hok,I.len]
def acI{k:Nat}{KV:Nat->V->Hp->Prop}(F:Def X.prog X.w X.K X.mg X.base cc k x ps sp)(c:ϛ cc (k+2) X.A)(a:∀i v H H',ζ H H'->KV i v H->KV i v H')(h:∀(i:Nat) x H',xs[i]?=↑x->ζ H H'->sp [x] H' (λv H2=>ζ H' H2/\KV i v H2) (λ_ _ _=>False)):∃f:δ,X.mg x=↑(.ref f)/\xG X σ (.ref f) xs H KV:=by
 let#[f,fd,h1,h2,e,g]:=F.ex;show#[f,h1,a,λi x u ϵ s H' j l m I=>?_];have:=wZ (X:=X.tR) (us:=[u]) (vs:=[x]) (Kx:=λ_ _ _ _=>False) g c.in1.in1 e (Vw rfl) I.tR (.cons l .nil) (h i x H' j m);show adq this (λw s' z=>by let#[v,H2,n,o,q]:=z;show #[v,H2,n.unX,o,q]) λ_ _ z=>z
theorem aef(h:X.mg x=↑(.ref f))(a:Gl X x)(hd:(x==("__debug__":Str))=false)(q:Q (.ref f) H):EV X (.Name x p) σ H Q:=wF (YT (v:=.ref f) a h rfl hd) q
end
def aky(h1:p.line=p'.line)(h2:p.col=p'.col)(l:List ε):codeAmong p l=codeAmong p' l:=by
 fun_induction codeAmong p l with
 |case1 a t b u c rest h=>unfold codeAmong;rw[<-h1, <-h2,if_pos h]
 |case2 a t b u c rest h e=> rw[e];conv=>rhs;unfold codeAmong
                             rw[<-h1, <-h2,if_neg h]
 |case3 l h=>unfold codeAmong;split <;>first|rfl|(exfalso;show h _ _ _ _ _ _ rfl)
def alC{p a:Pos}(l:List ε)(h:TriplesOk l)(e:codeAmong p (l++[rawInt a.line,rawInt a.col,c])=↑g):codeAmong p l=↑g\/(g=c/\a.line=p.line/\a.col=p.col):=by
 fun_induction TriplesOk l with
 |case1=>
  simp only[ati,rawInt,codeAmong]at e;split at e
  .rename_i f;cases e;simp only[aaK,beq_iff_eq]at f;show .inr #[rfl,(),()]
  .cases e
 |case2 x t y u z rest i=>
  simp only[at8,codeAmong]at e⊢;split at e
  .rename_i f;rw[if_pos f];show .inl e
  .rename_i f;rw[if_neg f];show i h e
 |case3 l h1 h2=>show h.elim
abbrev uT:HO:=.ext λ_=>True
theorem Hf(e:h.get? a=↑o):ϟ P w H h a (.frz o uT):=#[e,trivial,#[o,e],λ_ _ _ _=>trivial]
section
variable{X:Cx}{σ:St}{H:Hp}{D:Ends}
def af7(hN:X.N.Nodup)(hj:X.N[j]?=↑name)(U:X.env.scope.names.lookup name=↑.local)(y:X.env.code=.ref c)(C:CodeHd X.base c P)(B:BM X.mg X.base)(J:closureFor scope X.env=pure clos)(L:H P=↑(.tbl ps))(M:codeAmong pos ps.toList=↑(.str qual t))(hq:qualnameIn X.env name name=qual)(aa:g.defaults=[])(ab:g.kw_defaults=[])(ha:annTrees g none X.env=[])(h:∀(f m:δ)(oc:Obj)(i pm l:ε)(vs:Array ε)(t':Tok)(H':Hp),ζ H H'->H f=none->H' f=↑(.frz (fnMade name qual g body scope clos i pm m l) uT)->(∃u,H' m=↑(.frz oc u))->oc.data=.fields vs->vs[1]?=↑(.str qual t')->D.nx (σ.set j ↑(.ref f)) H'):SX X (.FunctionDef name g body [] none [] scope none name pos) D σ H:=by
 intro ϵ s I;show nestDef_K aa ab ha ?_;rw[hq];let#[qs,W,tr,z]:=(I.hok P _ L:ϟ X.prog X.w H s.heap P (.tbl ps));let Y:s.heap.Ns mainGlobals X.mg:=I.mod.glob.keeps I.bk;let#[bm,ob,b1,b2,b3,b4,b5,b6]:=B;let O:=I.bk _ _ b3;let ac:mainGlobals≠P:=λq=>by
  let#[o,es,ep,e,hd,_]:=Y;rw[q,W]at e;cases e;cases hd
 let ae:bm≠P:=λq=>by rw[q,W]at O;cases O;cases b4
 let af:bm≠mainGlobals:=λq=>by
  let#[o,es,ep,e,hd,_]:=Y;rw[q,e]at O;cases O;rw[hd]at b6;cases b6
 let F:s.heap.BuiltinsAt X.mg P:=#[bm,ob,b1,b2,af,ae,O,b4,b5,b6];let CC:=C.keeps I.bk;cases hf:codeAmong pos qs.toList with
 |some cv=>
  let#[m,oc,u,q,t2,vs,t',rfl,Z,e3,e4,e5]:=z pos cv hf;rw[M]at Z;cases Z;show makeFunction_hit J I.ok.glob Y y CC W tr hf F λl i h' tk hk hsz=>?_
  let I1:=I.laid (a:=h'.objs.size) (o:=.frz (fnMade name qual g body scope clos i ((X.mg "__name__").getD .none) m l) uT) (t':=tk) (h':=h'.push (fnMade name qual g body scope clos i ((X.mg "__name__").getD .none) m l)) (λb o e=>ϲ _ (hk b o e)) hsz (Hf (abn _ rfl));let Q:=I.hok.fresh hsz;let sm:ζ H (upd H h'.objs.size (.frz (fnMade name qual g body scope clos i ((X.mg "__name__").getD .none) m l) uT)):=ζ.upd Q;show rC (v:=.ref h'.objs.size) I1 hN hj (.inl U) rfl (λs' I' _=>?_) (.inr U)*>#[_,_,I',h _ m oc i _ l vs t' _ sm Q ο #[u,sm<*e3] e4 e5]
 |none=>
  show makeFunction_K J I.ok.glob Y y CC W tr hf ac F λm l i h' tk ag E G R S=>?_
  let#[c₂,oc,vs,t',Z,ah,hd,hv]:=R;cases Z;let ai:H m=none:=I.hok.fresh E;let T:H h'.objs.size=none:=I.hok.fresh (arj (afY E G));let Ϻ:m≠h'.objs.size:=adb G;let hPlt:=I.hok.lt L;let x:∀b u,H b=↑u->(upd (upd H m (.frz oc uT)) h'.objs.size (.frz (fnMade name qual g body scope clos i ((X.mg "__name__").getD .none) m l) uT)) b=↑u:=λb u e=>by
   rw[ι (Ω e T),ι (Ω e ai)];show e
  let nP:∀b,H b=none->b≠P:=λb e z=>by rw[z,L]at e;cases e
  let lt':∀b o,s.heap.get? b=↑o->b≠m/\b≠h'.objs.size:=λb o e=>by
   have:=abN e;show#[adb (aco this E),adb (aco this (arj (afY E G)))]
  let kp:∀b o,b≠P->s.heap.get? b=↑o->(h'.push (fnMade name qual g body scope clos i ((X.mg "__name__").getD .none) m l)).get? b=↑o:=λb o F e=>ϲ _ (ag b o F e)
  let I1:Inv X ϵ σ (upd (upd H m (.frz oc uT)) h'.objs.size (.frz (fnMade name qual g body scope clos i ((X.mg "__name__").getD .none) m l) uT)) {s with heap:=h'.push (fnMade name qual g body scope clos i ((X.mg "__name__").getD .none) m l),toks:=tk}:=by
   show I.un (t':=tk) #[λb o e n _ _=>kp b o (nP b n) e,λb o e n _ _=>#[o.slots,kp b o (nP b n) e],λb o e n _=>?_,λb o e _=>?_,λb xs q=>x _ _ q,λb o u q=>x _ _ q,λb ps' q=>#[#v[],by rw[x<*q];simp]] λb u e=>?_
   .rw[ι (lt' b o e).2,ι (lt' b o e).1];show n
   .by_cases F:b=P
    .show#[_,by rw[F];show ϲ _ S]
    .show#[_,kp b o F e]
   .by_cases h1:b=h'.objs.size
    .subst h1;rw[ο]at e;cases e;show Hf (abn _ rfl)
    .rw[ι h1]at e;by_cases h2:b=m
     .subst h2;rw[ο]at e;cases e;show Hf (ϲ _ ah)
     .rw[ι h2]at e;by_cases h3:b=P
      .subst h3;rw[L]at e;cases e;show#[_,ϲ _ S,?_,λp cv hc=>?_]
       .rw[asr];show TriplesOk_snoc _ _ _ _ tr
       .rw[asr]at hc;obtain h4|⟨rfl,h5,h6⟩:=alC _ tr hc
        .let#[c2,al,u2,q2,t2,am,t3,g1,g2,g3,g4]:=z p cv h4;show#[c2,al,u2,q2,t2,am,t3,g1,g2,x<*g3,g4]
        .show#[m,oc,uT,qual,t,vs,t',rfl,?_,?_,hd,hv]
         .rw[<-aky h5 h6];show M
         .rw[ι Ϻ,ο]
      .show(I.hok b u e).stay (λa v ha q=>kp a v ?_ q) (λa q=>x _ _ q) (λa xs q=>x _ _ q) λa ob v q=>x _ _ q
       obtain rfl|ha:=ha
       .show h3
       .intro z2;rw[z2,L]at ha;cases ha
  let sm:ζ H (upd (upd H m (.frz oc uT)) h'.objs.size (.frz (fnMade name qual g body scope clos i ((X.mg "__name__").getD .none) m l) uT)):=x;show rC (v:=.ref h'.objs.size) I1 hN hj (.inl U) rfl (λs' I' _=>?_) (.inr U)*>#[_,_,I',h _ m oc i _ l vs t' _ sm T ο #[uT,by rw[ι Ϻ,ο]] hd hv]
abbrev yO(X:Cx)(qual:Str)(scope:ahD)(f:δ)(cd:ε)(cl:List (Str×δ))(N:List Str)(s:μ)(H:Hp):Cx where
 prog:=X.prog
 w:=X.w
 K:=X.K
 mg:=X.mg
 base:=X.base
 A:=X.A.deeper (envX qual scope ⇑s f cd cl)
 N:=N
 s₀:=s
 H₀:=H
 env:=envX qual scope ⇑s f cd cl
 outer:=X.stack
 stack:=envX qual scope ⇑s f cd cl::X.stack
 ex:=[]
 fn:=λ_=>false
 calm:=X.calm
 pn:=[]
 xe:=λ_ _=>False
def akS{j:Nat}{E:ε->μ->Prop}(I:Inv X ϵ σ H s)(hf:H f=↑(.frz (fnMade name qual g body scope [(y,c)] o pm n B) u0))(Y:H n=↑(.frz oc u1))(Z:oc.data=.fields vs)(D:vs[1]?=↑(.str qual t'))(F:X.A.depth<recursionLimit)(hb:∀o pm n B (u:ε),bindArgs (fnX name qual g body scope [(y,c)] .none .none o pm none (.ref n) B) #[[u],[]]=pure [(x,u)])(hk:scope.kind=.function)(aa:scope.isCoroutine=false)(L:scope.isGenerator=false)(W:scope.names.lookup x=↑.local)(M:scope.names.lookup y=↑.free)(O:∀a∈scope.names,a.2≠.cell)(ab:∀a,scope.names.lookup a=↑.free->a=y)(hj:X.N[j]?=↑y)(ac:σ[j]?=some ↑z)(P:X.env.scope.names.lookup y=↑.cell)(S:X.env.cells.lookup y=↑c)(T:RelV v u)(h:Ζ (yO X qual scope f (.ref n) [(y,c)] [x,y] s H) body {nx:=λ_ H'=>Q .non H',rt:=Q} [↑v,↑z] H):Ϧ ∅ X.A (call (.ref f) [u]) (EP X ϵ σ Q) E s:=by
 let C:=I.env0;let#[ef,_]:=(I.hok f _ hf:ϟ X.prog X.w H s.heap f (.frz _ u0));let#[ec,_]:=(I.hok n _ Y:ϟ X.prog X.w H s.heap n (.frz oc u1));let ae:s.heap.CodeRec (.ref n) qual:=#[n,oc,vs,t',rfl,ec,Z,D];let hxy:x≠y:=λe=>by rw[e,M]at W;cases W
 let#[m,hm,hl]:=id I.loc;let#[uz,rz,lk]:=hl j y z hj ac (.inr (.inl P));obtain⟨Zv⟩:Nonempty (s.heap.IsCell c ↑uz):=by
  obtain⟨k,_⟩|⟨_,c2,e,q⟩:=lk
  .rw[show X.env.kindOf y=X.env.scope.names.lookup y from rfl,P]at k;cases k
  .rw[S]at e;cases e;show#[q]
 show api (ajA (codeAny_call_def (R:=λr s'=>match r with|.ok (.ret u)=>CE X.stack X.prog X.w H s Q u s'|.ok _=>False|.error _=>False) (fd:=fnX name qual g body scope [(y,c)] .none .none o pm none (.ref n) B) (body:=body) (binds:=[(x,u)]) F ef rfl I.nolimit ae rfl (.of_eq (hb o pm n B u)) O (λa ha=>by cases adF.mp ha;show W) (λU af l=>?_) aa L hk) λr s' D=>?_)
 .let I1:Inv (yO X qual scope f (.ref n) [(y,c)] [x,y] s H) [] [↑v,↑z] H {s with heap:=U,toks:=s.toks+[(x,u)].length}:=by
   let G:∀b:δ,b∉(yO X qual scope f (.ref n) [(y,c)] [x,y] s H).ex:=λb z=>absurd (show b∈([]:List δ)from z) (by simp)
   show#[#[C.mod,hk,rfl,rfl,Ϭ _,λa b d h1 h2=>?_,λa ha=>?_,λa d h1=>(by cases h1),I.ok.hd,Around.frames_deeper C.frames,.inr #[rfl,rfl],λb z=>absurd z (G b),C.bs,C.bsz,λb _ _=>G b,λb z=>absurd z (G b),C.funs,C.frf],
    rfl,C.bare,Un.kept l,#[_,af,λi a b h1 h2 h3=>?_],λa d h1=>?_,C.hok.fresh (Ϭ _),λa d h1=>?_,λp hp=>absurd (show p∈([]:List (δ×Obj))from hp) (by simp),C.hok.kept l,rfl]
   .let h1:([(y,c)]:List (Str×δ)).lookup a=↑d:=h1;let h2:([(y,c)]:List (Str×δ)).lookup b=↑d:=h2;let e1:=PySem.mem_of_lookup h1;let e2:=PySem.mem_of_lookup h2;rw[adF]at e1 e2;cases e1;cases e2;rfl
   .let ha:scope.names.lookup a=↑.cell\/scope.names.lookup a=↑.free:=ha;obtain ha|ha:=ha
    .show absurd rfl (O _ (PySem.mem_of_lookup ha))
    .cases ab a ha;show#[c,by show([(y,c)]:List (Str×δ)).lookup y=↑c;simp[aia]]
   .match i,h1,h2 with
    |0,h1,h2=>
     cases h1;cases h2;show#[u,T,.inl #[W,by simp[aia]]]
    |1,h1,h2=>
     cases h1;cases h2;show#[uz,rz,.inr #[.inr M,c,by show([(y,c)]:List (Str×δ)).lookup y=↑c;simp[aia],Zv.keeps l]]
    |i+2,h1,h2=>simp at h1
   .let e1:=PySem.mem_of_lookup (show([(y,c)]:List (Str×δ)).lookup a=↑d from h1);rw[adF]at e1;cases e1;show#[_,Zv.keeps l]
   .let e1:=PySem.mem_of_lookup (show([(y,c)]:List (Str×δ)).lookup a=↑d from h1);rw[adF]at e1;cases e1;show I.freeC y c S
  show adq (h [] _ I1) (λfl s' hs=>?_) λ_ _ z=>z.elim
  let fin:∀{σ':St}{H':Hp}{v:V}{u:ε},Inv (yO X qual scope f (.ref n) [(y,c)] [x,y] s H) [] σ' H' s'->RelV v u->Q v H'->CE X.stack X.prog X.w H s Q u s':=
   λ{σ' H' v u} J T q=>#[v,H',J.os,J.bare,J.base,J.hok,T,q]
  cases fl with
  |ret u=>
   let#[v,σ',H',J,T,q]:=hs;show fin J T q
  |next=>
   let#[σ',H',J,q]:=hs;show fin (v:=V.non) (u:=Value.none) J rfl q
  |brk=>
   let#[_,_,_,q]:=hs;show False.elim q
  |cont=>
   let#[_,_,_,q]:=hs;show False.elim q
 .cases r with
  |error e=>show D.elim
  |ok fl=>
   cases fl with
   |ret u=>show I.after D
   |next=>show False.elim D
   |brk=>show False.elim D
   |cont=>show False.elim D
end
def ab8(p:Pos)(q:Str):codeAmong p (Im p q).toList=↑(.str q 0):=by simp[Im,codeAmong,rawInt]
def ajj{P:ϱ}{w:ϭ}{K:ϩ}{mg:MG}{base:ϫ}{x:Str}{st:ϧ}{k:Nat}{sp:Sp}(F:∃f fd,cF K x x st f fd/\mg x=↑(.ref f))(i:dH K mg base x)(S:Ν N ps (ς st))(n:∀(kV a pm:ε)(an:Option δ)(j ct:ε)(us:List ε),↥us=↥ps->bindArgs (atq x x (lg st) (Ψ st) (ς st) .none kV a pm an j ct) #[us,[]]=pure (ps.zip us))(len:∀vs H Q E,sp vs H Q E->↥vs=↥ps)(body:∀(f:δ)(A:ϴ)(outer:List Env)(s:μ)(H:Hp)(vs:List V)(Q:VK)(E:XK),ϛ cc k (A.deeper (envOfC x (ς st) ⇑s f (.ref (iU K x))))->sp vs H Q E->
   Ζ (fD cc P w K mg base N x (ς st) f (.ref (iU K x)) A outer s H E) (Ψ st) {nx:=λ_ H'=>Q .non H',rt:=Q} (start N vs) H):Def P w K mg base cc (k+1) x ps sp:=by
 let#[f,fd,F,m]:=F;show#[f,fd,m,F.kp,F.binds n,?_];let#[oc,od,kV,a,pm,an,j,ct,o,rfl,lk,l]:=id F.ex;let e:=i.tab;unfold tabIn at e;split at e
 .rename_i v p;let g:=alG i.kin i.glob p;rw[m]at g;cases g;simp only[lk]at e;cases j with
  |ref c=>
   let q:c=iU K x:=by
    dsimp only at e;split at e
    .split at e
     .have :=Option.some.inj e;show congrArg Prod.fst this
     .cases e
    .cases e
   subst q;show aar lk l S len λA outer s H vs Q E u h=>#[_,LQ,body f A outer s H vs Q E u h]
  |_=>cases e
 .cases e
def jO(keep:Nat->Bool)(n:Nat):List Nat:=(ado n).filter keep
def ag1(keep:Nat->Bool)(n:Nat):jO keep (n+1)=jO keep n++(if keep n=true then[n]else[]):=by
 unfold jO;rw[atj,List.filter_append];by_cases h:keep n=true
 .simp[h]
 .let h':keep n=false:= ~~~h
  simp[h']
def acR(keep:Nat->Bool)(n:Nat):↥(jO keep n)<=n:=by
 have:=ah9 keep (ado n);rw[ahr]at this;show this
def aat(X:Cx)(N':List Str)(scope:ahD)(tg elt c:Ϫ)(σ':St)(H1:Hp)(Q:VK)(xs:List V):Prop:=
 ∃(g:St->Prop)(keep:Nat->Bool)(e:δ->Nat->V->Hp->Prop),g σ'/\
  (∀E i v H2 f ys,H2 E=↑(.lst ys)->(∀b o,b≠E->H2 b=↑o->f b=↑o)->e E i v H2->e E i v f)/\
  (∀(fp:List δ)(E C:δ)(j:μ)(l:Hp)(i:Nat)(n:St)(x:V)(H2:Hp),H1 E=none->xs[i]?=↑x->g n->ζ H1 H2->(∃ys,H2 E=↑(.lst ys))->
   EG (bU X N' scope (Ϙ scope X.env) C j l fp) tg x n H2 λa f=>ET (bU X N' scope (Ϙ scope X.env) C j l fp) c a f λk m=>k=keep i/\g a/\ζ H2 m/\(k=true->EV (bU X N' scope (Ϙ scope X.env) C j l fp) elt a m λv p=>e E i v p/\ζ m p))/\
  ∀(E:δ)(H2:Hp)(us:List V),H1 E=none->H2 E=↑(.lst us)->_V.χ (λu i=>e E i u H2) us (jO keep ↥xs)->ζ H1 H2->Q (.ref E) H2
def acq(hn:↥xs<=ϰ)(M:θ X.K H l xs)(h:aat X N' scope tg elt c σ' H Q xs):∀(fp:List δ)(E C:δ)(O:μ),H E=none->j6 X (bU X N' scope (Ϙ scope X.env) C O (upd H E (.lst [])) fp) tg elt [c] (kJ X.K l) E σ' H (λH'=>Q (.ref E) H'):=by
 intro fp E C O F;let#[T,keep,U,t0,mono,step,fin]:=h;show#[λi m P H1=>m=↥xs-i/\i<=↥xs/\ζ H H1/\T P/\∃us,H1 E=↑(.lst us)/\_V.χ (λu i=>U E i u H1) us (jO keep i),#[↥xs,by simp,ag3 _,ζ.upd F,t0,[],ο,.nil],?_]
 rintro i m P H1 ⟨rfl,hi,y,R,us,g,G⟩
 by_cases z:i<↥xs
 .show .inr #[#[xs,xs[i],ζ.seq y M,aah z],λB H'=>ζ H H'/\T B/\∃us,H' E=↑(.lst us)/\_V.χ (λu i=>U E i u H') us (jO keep (i+1)),λB H' z1=>by let#[a,b,d]:=z1;show #[↥xs-(i+1),(),rfl,z,a,b,d],λx H2 W=>?_];let Z:xs[i]?=↑x:=W.2 xs (ζ.seq y M);let hH:H2=H1:=W.1;subst hH;intro ϵ s u I r;show υ (step fp E C O _ i P x _ F Z R y #[us,g] ϵ s u I r) λ_ s' ⟨S,H3,I3,q3⟩=>#[S,H3,I3,ab3 ?_]
  show λϵ s I=>υ (q3 ϵ s I) λk s' ⟨H4,I4,hk,Y,n,q⟩=>#[H4,I4,?_]
  subst hk;let J:=ag1 keep i;let hkl:=acR keep i;let pR:=G.len;by_cases f:keep i=true
  .rw[if_pos f];rw[if_pos f]at J;show Ϣ (q f) λv L ⟨pv,D⟩=>#[us,D<*(n _ _ g),(),?_]
   let up:∀b o,b≠E->L b=↑o->(upd L E (.lst (us++[v]))) b=↑o:=λb o hb e=>by rw[ι hb];show e
   show#[λb o e=>?_,Y,us++[v],ο,?_]
   .rw[ι (Ω e F)];show D<*(n<*(y _ _ e))
   .rw[J];show _V.χ.app (G.imp λu j p=>?_) (.cons (mono E i v L _ us (D<*(n _ _ g)) up pv) .nil)*>mono E j u L _ us (D<*(n _ _ g)) up (mono E j u H2 _ us g (λb o _ e=>D _ _ (n<*e)) p)
  .rw[if_neg f];rw[if_neg f,aqM]at J;show#[y<|>n,Y,us,n<*g,?_];rw[J];show G.imp λu j p=>mono E j u H2 _ us g (λb o _ e=>n _ _ e) p
 .let e:i=↥xs:=()
  subst e;show .inl #[#[xs,ζ.seq y M,Ϭ _],fin E H1 us F g G y]
def anp(N':List Str)(a:cL N' X.N σ scope=σ')(g:X.calm=true)(S:cJ X.env scope)(hs:∀x,foldedSetIterable e X.env x=pure x)(h:EV X e σ H λv H1=>∃l xs,v=.ref l/\θ X.K H1 l xs/\↥xs<=ϰ/\aat X N' scope tg elt c σ' H1 Q xs):EV X (.ListComp elt [#[tg,e,[c],0]] scope pos) σ H Q:=by
 show su (N':=N') g S hs (uO (Ϣ h λv H1 q=>?_));let#[l,xs,rfl,f,i,j]:=q;show#[l,rfl,#[xs,f],?_];rw[a];show acq i f j
section
variable{X:Cx}{D:Ends}{σ:St}{H:Hp}{rest:List aoh}{suite:List ϧ}{b₀:ϧ}{pos np:Pos}{x n:Str}{c:ε}{C:δ}{d:Option δ×Bool}{i:Nat}
abbrev aeK(D:Ends)(i:Nat):Ends:=
 {nx:=λσ' H'=>D.nx (σ'.set i none) H',rt:=D.rt,bk:=λσ' H'=>D.bk (σ'.set i none) H',ct:=λσ' H'=>D.ct (σ'.set i none) H'}
def GK(hN:X.N.Nodup)(hm:X.mg x=↑c)(ex:atE X.K (.ref C) c=↑true)(h:∀e pn,H e=none->Ζ (X.jd (.ref e) (λ_ _=>False) pn) (b₀::suite) (aeK D i) (σ.set i ↑(.ref e)) (upd H e (xw e C d.1)))(hi:nameAt X.N n=↑i:=by rfl)(l:X.env.scope.names.lookup n=↑.local:=by rfl)(hg:Gl X x:=by rfl)(hd:(x==("__debug__":Str))=false:=by decide):EH X (.ExceptHandler ↑(.Name x np) ↑n (b₀::suite) pos::rest) D σ (.ref C) d H:=by
 intro ϵ s e T I F ch;let p:(X.env.scope.kind==.class||(X.env.scope.kind==.module&&X.env.locals !=X.env.globals))=false:=by rw[I.ok.kind];rfl
 let L:i<↥X.N:=(aak.mp (lO hi)).1;let#[Sq,P]:=ch e (by simp);show wpAny_handleBy_cons (amo I F hg hm hd ex ?_) (by intro q;cases q)*>codeAny_handlers_suite_as (I.off F ch λs2 I2 F2=>?_)*>rC I2 hN (lO hi) (.inl l) (v:=.ref e) rfl (λs3 I3 R=>?_) (.inr l);let#[a,sb,ha]:=R;let S:e≠a:=by
  obtain z|z:=ha
  .rw[z];show P.2.1
  .show λy=>P.2.2.1 n a z y.symm
 let#[oe,vs,he,U,W,Y,_]:=F2;let Z:s3.heap.get? e=↑oe:=(sb.2 e S)<|>he;let I4:=I3.adopt Sq P (φ:=λh=>∃oe vs,h.get? e=↑oe/\oe.cls=.ref C/\oe.dict=d.1/\oe.data=.fields vs) (ahj Z U W Y);show adq (h e (X.pn++ϵ) Sq [] s3 I4.jd) (λf s4 q=>?_) λ_ _ q=>q.elim
 let g:∀{σ':St}{H':Hp}{Q:Unit->μ->Prop},Inv X ϵ σ' H' s4->(∀G,Inv X ϵ (σ'.set i none) H' G->Q PUnit.unit G)->Ϧ ∅ X.A (do bindName X.env n .none;unbindBehindTheSuite X.env n pos) Q X.xe s4:=λ{σ' H' Q} J k=>by
  let J3:Inv X ϵ (σ'.set i none) H' s4:=J.weak (by simp) λj v O=>by
   by_cases z:j=i
   .subst z;rw[aom (by rw[J.len];show L)]at O;cases O
   .rw[ash (Ne.symm z)]at O;show O
  let#[m,hn,hl]:=id J3.loc;show wpAny_nameGoes_keeps (show X.env.kindOf n=↑.local from l) hn p λh' v M aa=>k _ ?_
  show J3.afj (m:=m) (m':=λx=>if x=n then v else m x) hN (lO hi) (aom (by rw[J.len];show L)) hl M (λx hx=>by rw[if_neg hx]) (λb o R q=>(aa.2 b R).trans q) ?_;let#[o,_,_,ho,_]:=M;show#[o,ho]
 cases f with
 |next=>
  let#[σ',H',J,B]:=q;show g (Inv.zR I.ok J) λG E=>#[_,_,E,B]
 |brk=>
  let#[σ',H',J,B]:=q;show g (Inv.zR I.ok J) λG E=>#[_,_,E,B]
 |cont=>
  let#[σ',H',J,B]:=q;show g (Inv.zR I.ok J) λG E=>#[_,_,E,B]
 |ret u=>
  let#[v,σ',H',J,r,B]:=q;show g (Inv.zR I.ok J) λG E=>#[v,_,_,E,r,B]
end
end _L
namespace _L
open PySem PySem.Spec PyProof.Rows
section
variable{K:ϩ}{h:ϫ}{mg:MG}(X:K.In h)(G:h.Ns mainGlobals mg){x y m qual fld:Str}{st:ϧ}{f C D:δ}{od an:Option δ}{sl:Array (Option ε)}{oc kV dc pm cd ct:ε}{t:Tok}
include X G
omit X G
include X G
omit X G
end
theorem U4{st:ϧ}{rest:List ϧ}{D:Ends}{σ:St}{H:Hp}(h:let σ':=σ;let a:Ends:={D with nx:=λσ' H'=>Ζ X rest D σ' H'};SX X st a σ' H):Ζ X (st::rest) D σ H:=zK h
theorem abo{st:ϧ}{D:Ends}{σ:St}{H:Hp}(h:let σ':=σ;SX X st D σ' H):Ζ X [st] D σ H:=yC h
end _L
namespace _L
open PySem PySem.Spec PyProof.Rows PySem.W
def pZ(k:Int):ε->Bool
 |.int i _=>i==k
 |_=>false
end _L
set_option compiler.extract_closed false
seal _L.EV _L.ET _L.EW _L.EA _L.SX _L.Ζ _L.EG _L.u5 _L.EI _L.OP _L.UN _L.CL _L.IX _L.SL _L.MT _L.EJ _L.my _L.EH
section
open Lean
protected def _Z.q:Term:=⟨mkNode ``Parser.Term.hole #v[mkAtom "_"]⟩
protected def _Z.h (k:Name) (n:Nat):Term:=Syntax.mkApp (mkIdent k) (Array.replicate n _Z.q)
protected def _Z.t (l:List (MacroM (TSyntax `tactic))):MacroM (TSyntax `tactic):=do
 let a<-l.toArray.mapM id
 `(tactic|first $[| $a:tactic]*)
protected def _Z.r (l:List Name):MacroM (TSyntax `tactic):=do
 let a<-l.toArray.mapM λn=>`(tactic|refine $(mkIdent n) ?_)
 `(tactic|with_reducible first $[| $a:tactic]*)
protected def _Z.w (s:String):MacroM (TSyntax `tactic):=`(tactic|walk_at $(Syntax.mkStrLit s))
protected def _Z.b (t:MacroM (TSyntax `tactic)):MacroM Term:=do `(by $(← t):tactic)
protected def _Z.x (n:Name) (l:List Char) (f:Char → MacroM Term):MacroM (TSyntax `tactic):=do `(tactic|exact $(mkIdent n) $(← l.toArray.mapM f)*)
protected def _Z.a0:Char → MacroM Term
 |'r'=>_Z.b `(tactic|rfl)
 |'a'=>_Z.b `(tactic|assumption)
 |'d'=>_Z.b `(tactic|decide)
 |'o'=>_Z.b `(tactic|omega)
 |'q'=>`(?_)
 |'R'=>`(rfl)
 |'D'=>`(⟨by decide,by decide⟩)
 |'O'=>`(⟨by omega,by omega⟩)
 |_=>`(_)
protected def _Z.a:Char → MacroM Term
 |'u'=>_Z.b `(tactic|with_unfolding_all rfl)
 |'x'=>_Z.b (_Z.w "xo")
 |'f'=>_Z.b (_Z.t [`(tactic|decide),`(tactic|omega)])
 |'e'=>_Z.b (_Z.t [_Z.x ``Or.inl ['R'] _Z.a0,_Z.x ``Or.inr ['R'] _Z.a0])
 |'n'=>_Z.b (_Z.t [_Z.x `_L.ZZ ['_','d','d'] _Z.a0,`(tactic|rfl)])
 |'i'=>do `(λ_ _=>$(← _Z.a0 'r'))
 |'j'=>do `(λ_=>$(← _Z.a0 'r'))
 |'l'=>do `(Or.inl $(← _Z.a0 'a'))
 |'m'=>_Z.b (_Z.t [_Z.x ``Or.inr ['D'] _Z.a0,_Z.x ``Or.inl ['D'] _Z.a0,_Z.x ``Or.inl ['O'] _Z.a0,_Z.x ``Or.inr ['O'] _Z.a0])
 |'p'=>`(⟨by decide,by decide,by decide⟩)
 |'s'=>`(_L.Wv ⟨_,200,rfl,by decide +kernel,by omega,?_⟩)
 |c=>_Z.a0 c
protected def _Z.f (n:Name) (s:String):MacroM (TSyntax `tactic):=do
 let a<-s.toList.toArray.mapM _Z.a
 `(tactic|refine $(mkIdent n) $a*)
protected def _Z.c (j:Name) (l:List Term) (n:Nat) (t:MacroM (TSyntax `tactic)):MacroM (TSyntax `tactic):=do
 let c:=Syntax.mkApp (mkIdent j) (#v[_Z.q] ++ l.toArray ++ Array.replicate n _Z.q)
 `(tactic|((with_reducible change $c); $(← t)))
end
section
open Lean
protected def _Z.B (a b:Name):MacroM (TSyntax `tactic):=do
 `(tactic|refine _L.bA PySem.F.plainAttrs_str $(mkIdent a) $(mkIdent b) (h:=?_))
protected def _Z.E:MacroM (TSyntax `tactic):=do
 let c1<-`((PySem.Expr.Compare _ [_] [_] _))
 let c2<-`((PySem.Expr.Compare _ [_,_] [_,_] _))
 let cl:=_Z.h ``PySem.Expr.Call 4
 let nm:=_Z.h ``PySem.Expr.Name 2
 let sb:=_Z.h ``PySem.Expr.Subscript 3
 let k1<-`(($(_Z.h ``PySem.Expr.Constant 3) :: _))
 let k2<-`(($(_Z.h ``PySem.Expr.FormattedValue 4) :: _))
 _Z.t [
  _Z.c `_L.EV [] 4 (_Z.t [
   _Z.c `_L.EV [nm] 3 (_Z.t [_Z.f `_L.aeI "rq",_Z.f `_L.abY "arqd",_Z.f `_L.aeb "rraq"]),
   _Z.r [`_L.amM,`_L.Wv,`_L.ad7],
   _Z.c `_L.EV [cl] 3 (_Z.t [
    _Z.c `_L.EV [Syntax.mkApp (mkIdent ``PySem.Expr.Call) #v[nm,_Z.q,_Z.q,_Z.q]] 3 (_Z.t [_Z.f `_L.aoL "rrarrq",_Z.f `_L.aoB "rrarrq",_Z.f `_L.ajU "aafdrxdrrq",_Z.f `_L.asd "aafdrxdq"]),
    _Z.B ``PySem.F.slot_str_join ``PySem.F.type_str_join,_Z.B ``PySem.F.slot_str_index ``PySem.F.type_str_index,_Z.B ``PySem.F.slot_str_startswith ``PySem.F.type_str_startswith]),
   _Z.c `_L.EV [c1] 3 (_Z.f `_L.acG "nq"),
   _Z.c `_L.EV [c2] 3 (_Z.f `_L.aji "uq"),
   _Z.r [`_L.alz,`_L.adv,`_L.ahb],
   _Z.c `_L.EV [sb] 3 (_Z.f `_L.ait "iq"),
   _Z.r [`_L.aaJ,`_L.ajq,`_L.agV,`_L.aiX,`_L.ae4,`_L.acM,`_L.Ke,`_L.amE,`_L.aeh]]),
  _Z.c `_L.EA [] 4 (_Z.t [_Z.r [`_L.gb],_Z.f `_L.dF "rq"]),
  _Z.c `_L.ET [] 4 (_Z.t [
   _Z.c `_L.ET [c1] 3 (_Z.f `_L.ab5 "nq"),
   _Z.c `_L.ET [c2] 3 (_Z.f `_L.ajT "uq"),
   _Z.r [`_L.aj4],
   _Z.c `_L.ET [_Z.h ``PySem.Expr.BoolOp 3] 3 (_Z.f `_L.aeR "q"),
   _Z.c `_L.ET [nm] 3 (_Z.f `_L.Nk "jq"),_Z.c `_L.ET [cl] 3 (_Z.f `_L.Nk "jq"),_Z.c `_L.ET [sb] 3 (_Z.f `_L.Nk "jq"),_Z.c `_L.ET [_Z.h ``PySem.Expr.Constant 3] 3 (_Z.f `_L.Nk "jq")]),
  _Z.c `_L.EW [] 4 (_Z.r [`_L.ail,`_L.al1,`_L.am5,`_L.aed]),
  _Z.c `_L.EO [] 4 (_Z.r [`_L.ajY,`_L.adY]),
  _Z.c `_L.my [] 5 (_Z.t [
   _Z.c `_L.my [k1] 4 (_Z.f `_L.NB "s"),
   _Z.c `_L.my [k2] 4 (_Z.f `_L.NB "q"),
   _Z.f `_L.aoA "oq"])]
protected def _Z.O:MacroM (TSyntax `tactic):=_Z.r [`_L.am9,`_L.ahX,`_L.ajb,`_L.aew,`_L.afu,`_L.afd,`_L.aln,`_L.ajW,`_L.aiD,`_L.ajr,`_L.aqh,`_L.acH,`_L.acp,`_L.akK,`_L.aqo,`_L.aq0]
protected def _Z.P:MacroM (TSyntax `tactic):=do
 let i:=_Z.h `_L.V.int 1
 let c (n:Name):Term:=Syntax.mkApp (mkIdent ``PySem.compareOp) #v[mkIdent n]
 let b (n:Name):Term:=Syntax.mkApp (mkIdent ``PySem.binaryOp) #v[mkIdent n]
 let v (s:String):Term:=Syntax.mkApp (mkIdent ``PySem.Value.builtin) #v[Syntax.mkStrLit s]
 let r<-`([_L.V.ref _])
 let z<-`([_L.V.str _])
 _Z.t [
  _Z.c `_L.OP [c ``PySem.CmpOp.Eq] 4 (_Z.f `_L.Ug "rq"),
  _Z.c `_L.OP [c ``PySem.CmpOp.NotEq] 4 (_Z.f `_L.U7 "rq"),
  _Z.c `_L.OP [b ``PySem.Operator.Mod,i,i] 2 (_Z.f `_L.ake "fq"),
  _Z.c `_L.OP [b ``PySem.Operator.Mult,i,i] 2 (_Z.f `_L.ajV "mq"),
  _Z.c `_L.OP [b ``PySem.Operator.Pow,i,i] 2 (_Z.f `_L.Dw "pq"),
  _Z.c `_L.CL [v "len",r] 2 (_Z.f `_L.xg "lq"),
  _Z.c `_L.CL [v "len",z] 2 (_Z.f `_L.ai2 "oq"),
  _Z.c `_L.CL [v "ord",z] 2 (_Z.f `_L.alW "q"),
  _Z.c `_L.CL [v "isinstance"] 3 (_Z.t [`(tactic|refine _L.Qs (k:=false) ?_),`(tactic|refine _L.Qs (k:=true) ?_)])]
protected def _Z.T:MacroM (TSyntax `tactic):=do
 let f (c:Term):MacroM (TSyntax `tactic):=`(tactic|((with_reducible change $c); refine ⟨_,rfl,?_⟩))
 _Z.t [_Z.r [`_L.adH],_Z.r [`_L.al5],_Z.r [`_L.aeM],_Z.r [`_L.acZ],
  _Z.r [`_L.abS,`_L.ag4,`_L.agp,`_L.afK,`_L.aqF,`_L.ar7,`_L.ao0,`_L.aqp,`_L.aq9,`_L.ar9],
  do f (← `(∃ k,_L.V.bl _ = _L.V.bl k ∧ _)),do f (← `(∃ k,_L.KZ _ (_L.V.bl _) _ k ∧ _)),do f (← `(∃ i,_L.V.int _ = _L.V.int i ∧ _)),
  `(tactic|((with_reducible change _L.qj _ _ (_L.V.str _) _ ∧ _); refine ⟨by rfl,?_⟩))]
protected def _Z.S:MacroM (TSyntax `tactic):=do
 let a<-`((PySem.Stmt.Assign [PySem.Expr.Name _ _] _ _))
 _Z.t [_Z.r [`_L.Α],`(tactic|((with_reducible refine _L.abo ?_); intro _)),`(tactic|((with_reducible refine _L.U4 ?_); intro _ _)),
  _Z.r [`_L.ψ,`_L.ao6,`_L.ap7,`_L.Δ],
  _Z.c `_L.SX [a] 3 (_Z.f `_L.ahu "arereq"),
  _Z.c `_L.SX [_Z.h ``PySem.Stmt.Expr 2] 3 (_Z.f `_L.Ϛ "q")]
end
local macro_rules|`(tactic|walk_at "xo")=>`(tactic|first|exact _L.Ο|assumption|exact _L.Vw rfl)
local macro_rules|`(tactic|walk_at "po")=>`(tactic|first|exact _L.afJ|assumption|exact PySem.PassesOwn.never)
local macro_rules|`(tactic|walk_at "cb")=>_Z.f `_L.aoL "rrarrq"
local macro_rules|`(tactic|walk_at "e")=>_Z.E
local macro_rules|`(tactic|walk_at "t")=>_Z.T
local macro_rules|`(tactic|walk_at "c")=>`(tactic|(refine _L.U4 ?_; intro _ _))
local macro_rules|`(tactic|walk_at "n")=>`(tactic|(refine _L.abo ?_; intro _))
local macro_rules|`(tactic|walk_at "s")=>_Z.S
local macro_rules|`(tactic|walk_at "go")=>do
 let x<-_Z.t [_Z.E,_Z.O,_Z.P,_Z.T,_Z.S]
 `(tactic|repeat' ($x:tactic))
local macro_rules|`(tactic|walk_at "ex")=>do
 let x<-_Z.t [_Z.E,_Z.O,_Z.P,_Z.T]
 `(tactic|repeat' ($x:tactic))
namespace _L
theorem sH{α:Type}{us:List α}(h:↥us=1):∃a,us=[a]:=match us,h with|[a],_=>#[a,rfl]
theorem mV{α:Type}{us:List α}(h:↥us=2):∃a b,us=[a,b]:=match us,h with|[a,b],_=>#[a,b,rfl]
theorem Uh{α:Type}{us:List α}(h:↥us=3):∃a b c,us=[a,b,c]:=match us,h with|[a,b,c],_=>#[a,b,c,rfl]
theorem adM{α:Type}{us:List α}(h:↥us=4):∃a b c d,us=[a,b,c,d]:=match us,h with|[a,b,c,d],_=>#[a,b,c,d,rfl]
theorem ad3{α:Type}{us:List α}(h:↥us=5):∃a b c d e,us=[a,b,c,d,e]:=match us,h with|[a,b,c,d,e],_=>#[a,b,c,d,e,rfl]
theorem aiL{α:Type}{us:List α}(h:↥us=6):∃a b c d e f,us=[a,b,c,d,e,f]:=match us,h with|[a,b,c,d,e,f],_=>#[a,b,c,d,e,f,rfl]
theorem akl{α:Type}{us:List α}(h:↥us=7):∃a b c d e f g,us=[a,b,c,d,e,f,g]:=match us,h with|[a,b,c,d,e,f,g],_=>#[a,b,c,d,e,f,g,rfl]
end _L
open Lean Parser.Tactic in
local macro_rules|`(tactic|walk_at "bb")=>_Z.t ([(1,`_L.sH),(2,`_L.mV),(3,`_L.Uh),(4,`_L.adM),(5,`_L.ad3),(6,`_L.aiL),(7,`_L.akl)].map λ(n,x)=>do
 let p<-`(rcasesPatLo|_)
 let q:=Array.replicate n p
 `(tactic|(intro _ _ _ _ _ _ us hl;obtain ⟨$q,*,e⟩:=$(mkIdent x) hl;subst e;rfl)))
local macro_rules | `(tactic| walk_at "ln") => `(tactic| (intro _ _ _ _ h; cases h; subst_vars; rfl))
local macro_rules | `(tactic| walk_at "A") => `(tactic| (walk_at "c"; walk_at "s"; walk_at "ex"))
namespace _K
open PySem _L PyProof.Rows
abbrev aeq:List Str:=["self","values","value"]
def Ui:Ν aeq ["self","values"] (ς uB):=by room
abbrev acx:List Str:=["self","row","values","was"]
def Q8:Ν acx ["self","row","values"] (ς zE):=by room
abbrev aj7:List Str:=["self","moment","rows","deed"]
def W7:Ν aj7 ["self","moment"] (ς Mf):=by room
abbrev amC:List Str:=["self","moment","behind"]
def abC:Ν amC ["self","moment"] (ς Cw):=by room
abbrev agh:List Str:=["self","book","make","order","sieve","size","forth","columns"]
def Ww:Ν agh ["self","book","make","order","sieve","size","forth"] (ς DW):=by room
abbrev akL:List Str:=["self","at"]
def anJ:Ν akL ["self","at"] (ς Nr):=by room
abbrev ahS:List Str:=["self","now"]
def aeG:Ν ahS ["self","now"] (ς PN):=by room
abbrev adt:List Str:=["self","known"]
def anl:Ν adt ["self","known"] (ς UL):=by room
abbrev aci:List Str:=["word","most","number"]
def Pj:Ν aci ["word","most"] (ς KD):=by room
abbrev age:List Str:=["word","below","number"]
def Th:Ν age ["word"] (ς Vc):=by room
abbrev aoM:List Str:=["word"]
def Q9:Ν aoM ["word"] (ς R1):=by room
abbrev adP:List Str:=["columns","name","kind","names"]
def Sv:Ν adP ["columns"] (ς DN):=by room
abbrev aiK:List Str:=["columns","name","place","column"]
def Zf:Ν aiK ["columns","name"] (ς Uj):=by room
abbrev abM:List Str:=["columns","row","values"]
def YS:Ν abM ["columns","row","values"] (ς Dy):=by room
abbrev ae5:List Str:=["columns","word","sign","name"]
def VP:Ν ae5 ["columns","word"] (ς Z6):=by room
abbrev acT:List Str:=["columns","text","words","order","names"]
def QR:Ν acT ["columns","text"] (ς Bm):=by room
abbrev afr:List Str:=["order","one","other","column","value","against"]
def Rw:Ν afr ["order","one","other"] (ς Yh):=by room
abbrev abl:List Str:=["rows","place","up","rank"]
def NK:Ν abl ["rows","place","up"] (ς CJ):=by room
abbrev Zh:List Str:=["columns","order","rows","line","name","up"]
def MN:Ν Zh ["columns","order","rows"] (ς xX):=by room
abbrev anx:List Str:=["columns","order","line","cut","low","high","middle","row","values"]
def R4:Ν anx ["columns","order","line","cut"] (ς XN):=by room
abbrev ajN:List Str:=["cut","values","row"]
def ZC:Ν ajN ["cut"] (ς Pb):=by room
abbrev akJ:List Str:=["columns","order","side","rows","cut","row","values"]
def Vo:Ν akJ ["columns","order","side","rows","cut"] (ς Wh):=by room
abbrev aiE:List Str:=["columns","order","line","cut","start","stop","here","back","forth"]
def Vi:Ν aiE ["columns","order","line","cut","start","stop"] (ς wg):=by room
abbrev acs:List Str:=["columns","order","line","cut","size","start"]
def Qk:Ν acs ["columns","order","line","cut","size"] (ς Zb):=by room
abbrev ac8:List Str:=["columns","order","line","cut","size","stop"]
def aaW:Ν ac8 ["columns","order","line","cut","size"] (ς aaS):=by room
abbrev al2:List Str:=["text","total","power","sign"]
def UJ:Ν al2 ["text"] (ς Ng):=by room
abbrev aeY:List Str:=["columns","words","place","column"]
def Zw:Ν aeY ["columns","words","place"] (ς Xz):=by room
abbrev ajG:List Str:=["kind","words","place","word","value"]
def T5:Ν ajG ["kind","words","place"] (ς Xc):=by room
abbrev anB:List Str:=["columns","words","start","column"]
def yV:Ν anB ["columns","words","start"] (ς Ve):=by room
abbrev agl:List Str:=["columns","words","start","word","column","kind","value","text"]
def Nj:Ν agl ["columns","words","start"] (ς aaH):=by room
abbrev aeu:List Str:=["columns","words","start","within","word","one","behind","other","text"]
def zx:Ν aeu ["columns","words","start","within"] (ς Vj):=by room
abbrev aks:List Str:=["columns","words","start","within","word"]
def lL:Ν aks ["columns","words","start","within"] (ς Uz):=by room
abbrev akp:List Str:=["columns","text","words","sieve","behind"]
def Bs:Ν akp ["columns","text"] (ς Wk):=by room
abbrev ajy:List Str:=["cut","values","row","sign"]
def Us:Ν ajy ["cut"] (ς Iw):=by room
abbrev ane:List Str:=["mark","make","moment","order","sieve","cut","body"]
def YJ:Ν ane ["mark"] (ς W9):=by room
abbrev anG:List Str:=["letter","make"]
def aao:Ν anG ["letter"] (ς aaq):=by room
abbrev ajQ:List Str:=["word","most","number"]
def X3:Ν ajQ ["word","most"] (ς aaD):=by room
abbrev ai3:List Str:=["columns","order","text","side","words","row","kinds"]
def Uu:Ν ai3 ["columns","order","text"] (ς Ey):=by room
abbrev afA:List Str:=["columns","body","parts","make","moment","order","sieve"]
def Z7:Ν afA ["columns","body"] (ς V5):=by room
abbrev agQ:List Str:=["columns","text","body","stop","check"]
def zT:Ν agQ ["columns","text"] (ς PJ):=by room
abbrev ajx:List Str:=["book","make","begin","sieve","rows"]
def Oh:Ν ajx ["book","make","begin","sieve"] (ς Kf):=by room
abbrev aoO:List Str:=["book","mark","size","onward","make","begin","order","text","cut","columns","line","here","back","forth","ahead","rows","moment"]
def aab:Ν aoO ["book","mark","size","onward"] (ς uR):=by room
abbrev acn:List Str:=["book","text","mark"]
def Uc:Ν acn ["book","text"] (ς Pr):=by room
abbrev aes:List Str:=["book","order","sieve","moment","columns","ordered","through","keys","row","values","made","was","now"]
def ZP:Ν aes ["book","order","sieve","moment"] (ς abi):=by room
abbrev acY:List Str:=["book","order","sieve","size","number","columns","ordered","through","line","ahead","rows"]
def Pu:Ν acY ["book","order","sieve","size","number"] (ς Fe):=by room
abbrev acX:List Str:=["_law_script","_law_k","_law_many","_law_cell","_law_seed"]
def Pq:Ν acX ["_law_script","_law_k","_law_many"] (ς QL):=by room
abbrev ad1:List Str:=["_law_script","_law_many","_law_letters","_law_word_here","_law_size_here","_law_at","_law_first","_law_some","_law_k","_law_name","_law_sign"]
def Qu:Ν ad1 ["_law_script","_law_many"] (ς yK):=by room
abbrev aht:List Str:=["_law_script","_law_many","_law_names_here","_law_some"]
def W8:Ν aht ["_law_script"] (ς tK):=by room
abbrev amP:List Str:=["_law_script","_law_k","_law_kind","_law_way","_law_cell","_law_sign"]
def aaA:Ν amP ["_law_script","_law_k","_law_kind"] (ς Gp):=by room
abbrev abQ:List Str:=["_law_script","_law_k","_law_columns_here","_law_first","_law_order_here","_law_n","_law_name"]
def QF:Ν abQ ["_law_script","_law_k","_law_columns_here"] (ς Um):=by room
abbrev anY:List Str:=["_law_script","_law_k","_law_columns_here","_law_way","_law_at","_law_value_here"]
def abI:Ν anY ["_law_script","_law_k","_law_columns_here"] (ς HB):=by room
abbrev Tc:List Str:=["_law_sieve_here","_law_columns_here","_law_words"]
def HJ:Ν Tc ["_law_sieve_here","_law_columns_here"] (ς vz):=by room
abbrev aeF:List Str:=["_law_columns_here","_law_order_here","_law_one","_law_names_here"]
def Z3:Ν aeF ["_law_columns_here","_law_order_here","_law_one"] (ς CN):=by room
abbrev ac6:List Str:=["_law_columns_here","_law_make","_law_begin","_law_order_here","_law_sieve_here","_law_sign","_law_one","_law_key_here","_law_words","_law_head","_law_text","_law_total","_law_power","_law_letter"]
def Uw:Ν ac6 ["_law_columns_here","_law_make","_law_begin","_law_order_here","_law_sieve_here","_law_sign","_law_one"] (ς GF):=by room
abbrev aoo:List Str:=["_law_script","_law_k","_law_columns_here","_law_book","_law_state","_law_row","_law_way","_law_values_here"]
def SN:Ν aoo ["_law_script","_law_k","_law_columns_here","_law_book","_law_state"] (ς qz):=by room
abbrev agO:List Str:=["_law_script","_law_columns_here","_law_book","_law_many","_law_state","_law_k","_law_row","_law_values_here"]
def Oj:Ν agO ["_law_script","_law_columns_here","_law_book","_law_many"] (ς Mj):=by room
abbrev ahx:List Str:=["_law_caught","_law_words"]
def Zi:Ν ahx ["_law_caught"] (ς lq):=by room
abbrev agj:List Str:=["_law_script","_law_cell"]
def PB:Ν agj ["_law_script"] (ς Fi):=by room
abbrev akQ:List Str:=["_law_way","_law_book","_law_make","_law_texts_here","_law_size_here","_law_caught","e"]
def Xw:Ν akQ ["_law_way","_law_book","_law_make","_law_texts_here","_law_size_here"] (ς CW):=by room
abbrev ahU:List Str:=["_law_book","_law_size_here","_law_cut_here","_law_forth","_law_caught","_law_rows","e"]
def aa7:Ν ahU ["_law_book","_law_size_here","_law_cut_here","_law_forth"] (ς Bh):=by room
abbrev aga:List Str:=["_law_book","_law_mark_here","_law_size_here","_law_forth","_law_caught","e"]
def ZW:Ν aga ["_law_book","_law_mark_here","_law_size_here","_law_forth"] (ς Gq):=by room
abbrev ai1:List Str:=["_law_script","_law_columns_here","_law_order_here","_law_sieve_here","_law_texts_here"]
def Y5:Ν ai1 ["_law_script","_law_columns_here","_law_order_here","_law_sieve_here"] (ς GJ):=by room
abbrev alh:List Str:=["_law_book","_law_make","_law_texts_here","_law_size_here","_law_due","_law_way","_law_cut_here"]
def XX:Ν alh ["_law_book","_law_make","_law_texts_here","_law_size_here","_law_due"] (ς Cp):=by room
abbrev qy:List Str:=["_law_script","_law_columns_here","_law_order_here","_law_sieve_here","_law_make","_law_size_here","_law_book","_law_state","_law_texts_here","_law_oldest","_law_moment","_law_one","_law_mark_here","_law_due","_law_at","_law_other","_law_forth"]
def R5:Ν qy ["_law_script"] (ς fK):=by room
section
variable{P:ϱ}{w:ϭ}{K:ϩ}{mg:MG}{base:ϫ}{cc:Bool}{k:Nat}{sp:Sp}
def Gh(T:Txt K mg):tZ P w K mg base cc 1 "NoSieve" "at":=by
 show IW T.Bq anJ (by walk_at"bb") rfl (λf l A outer s H vs Q E hi m h=>?_);let#[e,n,rfl,a,c,q]:=h;let hsz:=Ϯ;show zK (Ϛ ?_)*>Em (pl:=_) T.kZ.toXBase ?_;cbv;show wC ?_;f_are;show#[n,rfl,_V.fW a,_,70,rfl,_V.tU a,(),?_];cbv;intro p;show gb (HN hi c ?_)*>yC (Jr T.Bq.sa T.Bq.xc T.Bq.tk ?_);f_are;f_are;show#[e,rfl,c,λD g i=>q D _ i g (λb o j r=>?_) ο ?_]
 .rw[ι j,ι (Ω r g)];show r
 .rw[ι i,ο]
def Pk(T:Txt K mg):tZ P w K mg base cc 1 "Later" "now":=by
 show IW T.yD aeG (by walk_at"bb") rfl (λf l A outer s H vs Q E hi m h=>?_);let#[e,n,rfl,a,c,q]:=h;let hsz:=Ϯ;show zK (Ϛ ?_)*>Em (pl:=_) T.kZ.toXBase ?_;cbv;show wC ?_;f_are;show#[n,rfl,_V.fW a,_,70,rfl,_V.tU a,(),?_];cbv;intro p;show gb (HN hi c ?_)*>yC (Jr T.yD.sa T.yD.xc T.yD.tk ?_);f_are;f_are;show#[e,rfl,c,λD g i=>q D _ i g (λb o j r=>?_) ο ?_]
 .rw[ι j,ι (Ω r g)];show r
 .rw[ι i,ο]
def ahA(T:Txt K mg):tZ P w K mg base cc 1 "Gone" "known":=by
 show IW T.zX anl (by walk_at"bb") rfl (λf l A outer s H vs Q E hi m h=>?_);let#[e,n,rfl,a,c,q]:=h;let hsz:=Ϯ;show zK (Ϛ ?_)*>Em (pl:=_) T.kZ.toXBase ?_;cbv;show wC ?_;f_are;show#[n,rfl,_V.fW a,_,70,rfl,_V.tU a,(),?_];cbv;intro p;show gb (HN hi c ?_)*>yC (Jr T.zX.sa T.zX.xc T.zX.tk ?_);f_are;f_are;show#[e,rfl,c,λD g i=>q D _ i g (λb o j r=>?_) ο ?_]
 .rw[ι j,ι (Ω r g)];show r
 .rw[ι i,ο]
end
end _K
namespace _K
open PySem _L PyProof.Rows _M _V _W
section
variable{P:ϱ}{w:ϭ}{K:ϩ}{mg:MG}{base:ϫ}
def gD:Def 1 "_law_draw" ["_law_script","_law_k","_law_many"] (Z2 K):=by
 exists Pq,gD,l,#[a,ns,k,m,rfl,g,n,i,j,o,q],p.bj,2;let f:↥(ns.map V.int)=↥ns:=aau ..;w_up;cbv;rw[f];let fin:∀c:Int,c=yd ns k->Q (.int ((c % 1000003+31*k*k+1)*48271 % 999983*7919 % 524287 % m)) H:=λc e=>by rw[e];show q
 show Β (λh=>?_) (λh=>?_)
 .cbv;rw[f];cbv;show ϐ g (Hs 0 (ahe _ ()) (agE _ ())) ?_;cbv;show fin _ (by unfold yd;rw[if_pos ()])
 .cbv;show fin _ (by unfold yd;rw[if_neg ()])
def abB:iD.cps.toList=auF 97 26:=by fin2
def aoS(c:Nat):c∈iD.cps.toList↔97<=c/\c<=122:=by
 rw[abB,atQ];omega
def Z0(h:k<26):iD.cps.toList[k]?=↑(97+k):=by
 rw[abB,List.getElem?_range' h];simp
def ah0(h1:1<=↥z)(a:↥z<=8)(h:∀c∈z.cps.toList,97<=c/\c<=122):isName z=true:=by
 unfold isName dZ;rw[aaK,decide_eq_true_eq,acE];show#[#[h1,a],λc e=>decide_eq_true ((aoS c).mpr (h c e))]
def cz(W:Str)(at_ size first:Nat)(b:Bool)(j:Nat):Str:=
 if b=true then ό W none ↑(at_:Int)++#[#v[97+(first+7*j) % 26]]++ό W ↑((at_+1:Nat):Int) ↑(size:Int) else ό W none ↑((j+1:Nat):Int)
def Ag(a:↥W=8)(c:at_<size)(hs:size<=8):(cz W at_ size first true j).cps.toList=W.cps.toList.take at_++(97+(first+7*j) % 26)::(W.cps.toList.drop (at_+1)).take (size-(at_+1)):=by
 unfold cz;rw[if_pos rfl,au,au,xx,v9,_H.iY,_H.iY,a,als (),als (),aq8];rfl
def Dc:(cz W at_ size first false j).cps.toList=W.cps.toList.take (j+1):=by
 unfold cz;rw[if_neg (by decide),xx]
def acS(a:↥W=8)(c:at_<size)(hs:size<=8)(e:j<6):1<=↥(cz W at_ size first b j)/\↥(cz W at_ size first b j)<=8:=by
 let f:=len_list W;rw[_L.len_list (cz W at_ size first b j)];cases b with
 |true=>
  rw[Ag a c hs,abK,abU,af8,af8,ael];omega
 |false=>
  rw[Dc,af8];omega
def amf(f:↥W=8)(g:at_<size)(hs:size<=8)(e:∀c∈W.cps.toList,97<=c/\c<=122):∀c∈(cz W at_ size first b j).cps.toList,97<=c/\c<=122:=by
 intro c a;cases b with
 |true=>
  rw[Ag f g hs]at a;obtain h|h:=adi.mp a
  .show e c (aeB h)
  .obtain h|h:=aaF.mp h
   .have :=asW (first+7*j) (show 0<26 by decide);omega
   .show e c (af0 (aeB h))
 |false=>
  rw[Dc]at a;show e c (aeB a)
def anr(c:↥W=8)(f:at_<size)(hs:size<=8)(hi:i<6)(g:j<6)(e:cz W at_ size first b i=cz W at_ size first b j):i=j:=by
 let l:=len_list W;let a:=congrArg (λz:Str=>z.cps.toList) e;cases b with
 |true=>
  rw[Ag c f hs,Ag c f hs]at a;let h1:=(List.append_inj a rfl).2;injection h1 with h2 _
  omega
 |false=>
  rw[Dc,Dc]at a;have:=congrArg alj a;rw[af8,af8]at this;omega
inductive aaI(K:ϩ):Sp
 |mk (a:δ) (ns:List Int) (m:Nat):vs=[.ref a,.int m]->θ K H a (ns.map V.int)->↥ns<=63->m<=6->(∀(p:δ)(zs:List Str) H',ζ H H'->H p=none->H' p=↑(.lst (zs.map V.str))->↥zs=m->zs.Nodup->(∀z∈zs,isName z=true)->Q (.ref p) H')
def HD:Def 2 "_law_names" ["_law_script","_law_many"] (aaI K):=by
 exists Qu,HD,hr,#[a,ns,m,rfl,L,M,hm,q],2,n1.qt,1,D1 gD;let ar5:↥iD=26:=by fin2
 w_up;cbv;show Qw ["_law_k","_law_letters","_law_script"] (σ':=[none,↑(.str iD),↑(.ref a)]) (bh (ς yK)) n1 ?_;f_are;show#[8,rfl,(),(),λi v=>v=.str #[#v[97+(Υ ns (100+(i:Int)) 26).toNat]],λfp E' C s3 H0 i H2 hi B=>?_,λE' H1 xs hE ϻ U e2 O =>?_]
 .cbv;show#[a,ns,100+i,26,rfl,B.seq L,M,(),(),by decide,?_];let h1:=aD ns (100+i) (m:=26) (by decide);let h2:=aA ns (100+i) (m:=26) (by decide);show gY () (n:=97+(Υ ns (100+(i:Int)) 26).toNat) ?_ #[rfl,ζ.refl _];let e:Υ ns (100+(i:Int)) 26=(((Υ ns (100+(i:Int)) 26).toNat:Nat):Int):=()
  let h3:=aJ (Z0 (k:=(Υ ns (100+(i:Int)) 26).toNat) ());rw[<-e]at h3;show h3
 .let ex:=fL (ys:=ado 8) (λi:Nat=>V.str #[#v[97+(Υ ns (100+(i:Int)) 26).toNat]]) (by rw[ϻ,ahr];rfl) (λi v e=>#[i,?_,U i v e])
  .let wR:xs=(((ado 8).map λi:Nat=>97+(Υ ns (100+(i:Int)) 26).toNat).map λc=>(#[#v[c]]:Str)).map V.str:=by
    rw[ex,afR,afR];rfl
   subst wR;cbv;show jy (θ.of e2) ?_ ?_
   .let e0:↥("":Str)=0:=by fin2
    rw[Oq,aau,aau,ahr,e0];omega
   rw[Ub];let u:(#[((ado 8).map λi:Nat=>97+(Υ ns (100+(i:Int)) 26).toNat).toArray]:Str).length=8:=by rw[_L.len_list];simp
   let Qd:∀c∈(#[((ado 8).map λi:Nat=>97+(Υ ns (100+(i:Int)) 26).toNat).toArray]:Str).cps.toList,97<=c/\c<=122:=λc hc=>by
    let Y:c∈(ado 8).map λi:Nat=>97+(Υ ns (100+(i:Int)) 26).toNat:= ~~~hc
    let#[i,_,rfl]:=abz.mp Y;let h1:=aD ns (100+i) (m:=26) (by decide);let h2:=aA ns (100+i) (m:=26) (by decide);omega
   generalize(#[((ado 8).map λi:Nat=>97+(Υ ns (100+(i:Int)) 26).toNat).toArray]:Str)=W at u Qd⊢;w_up;cbv;show#[a,ns,112,8,rfl,O.seq L,M,by decide,by decide,by decide,?_];let s0:=aD ns 112 (m:=8) (by decide);let s1:=aA ns 112 (m:=8) (by decide);obtain⟨sz,es⟩:∃sz:Nat,1+ Υ ns 112 8=(sz:Int):=#[(1+ Υ ns 112 8).toNat,()];lk;rw[es];w_up;cbv;show#[a,ns,113,_,rfl,O.seq L,M,by decide,by decide,(),?_];let a0:=aD ns 113 (m:=(sz:Int)) ();let a1:=aA ns 113 (m:=(sz:Int)) ();let#[at_,ea]:=aa4 a0;rw[ea]at a1⊢;cbv;show#[a,ns,114,26,rfl,O.seq L,M,by decide,by decide,by decide,?_];let f0:=aD ns 114 (m:=26) (by decide);let f1:=aA ns 114 (m:=26) (by decide);let#[g,ef]:=aa4 f0;rw[ef]at f1⊢;cbv;show#[ω,λp hp=>?_];let pn:H p=none:=O.free hp;let bf:ζ H (upd H1 p (.lst [])):=O<|>(ζ.upd hp);let ep:(upd H1 p (.lst [])) p=↑(.lst []):=ο;generalize upd H1 p (.lst [])=H2 at bf ep⊢;let Z:at_<sz:=()
   let Mp:sz<=8:=()
   w_up;show wD (by walk_at"po") (by rfl) (by rfl) n1 (by rfl) ?_;cbv;show#[(),(),λi σ H'=>(∃D G l,σ=[↑(.ref a),↑(.int m),↑(.str iD),↑(.str W),↑(.int sz),↑(.int at_),↑(.int g),↑(.ref p),D,G,l])/\ζ H H'/\H' p=some (.lst (((ado i).map (cz W at_ sz g (decide (Υ ns 110 2=1)))).map V.str)),
    #[#[none,none,none,rfl],bf,ep],λi σ H' hi hP=>?_,λσ H' hP=>?_]
   .let#[#[D,G,l,rfl],B,f]:=hP;let hi6:i<6:=by
     have:i<m:= ~~~hi
     omega
    show Ε nd ?_
    let tail:∀(z:Str)(l:Option V),z=cz W at_ sz g (decide (Υ ns 110 2=1)) i->∀(bk:_L.St->Hp->Prop),Ζ X ((ai4 (xP (Ψ yK) 6)).drop 2)
      {nx:=λσ H'=>(∃D G l,σ=[↑(.ref a),↑(.int m),↑(.str iD),↑(.str W),↑(.int sz),↑(.int at_),↑(.int g),↑(.ref p),D,G,l])/\ζ H H'/\H' p=some (.lst (((ado (i+1)).map (cz W at_ sz g (decide (Υ ns 110 2=1)))).map V.str)),rt:=Q,bk:=bk,
       ct:=λσ H'=>(∃D G l,σ=[↑(.ref a),↑(.int m),↑(.str iD),↑(.str W),↑(.int sz),↑(.int at_),↑(.int g),↑(.ref p),D,G,l])/\ζ H H'/\H' p=some (.lst (((ado (i+1)).map (cz W at_ sz g (decide (Υ ns 110 2=1)))).map V.str))}
      [↑(.ref a),↑(.int m),↑(.str iD),↑(.str W),↑(.int sz),↑(.int at_),↑(.int g),↑(.ref p),↑(.int i),↑(.str z),l] H':=by
     intro z l R bk;f_len;show Ϛ (bA F.plainAttrs_list F.slot_list_append F.type_list_append (h:=?_));cbv;show#[.inl #[rfl,_,θ.of f],?_];cbv;show dD iZ #[p,_,_,rfl,rfl,f,by rw[aau,aau,ahr];omega,?_]*>#[#[_,_,_,rfl],λb o e=>?_,?_]
     .rw[ι (Ω e pn)];show B<*e
     .rw[ο,atj,apf,apf,R];rfl
    w_up;cbv;show gq () ?_;cbv;show#[a,ns,110,2,rfl,B.seq L,M,by decide,by decide,by decide,?_];cbv;show Β (λh=>?_) (λh=>?_)
    .let h':Υ ns 110 2=1:=by injection h
     let l1:=nG W none ↑(at_:Int);let l2:=nG W ↑((at_:Int)+1) ↑(sz:Int);let ls:↥(#[#v[97+(g+7*i) % 26]]:Str)=1:=rfl;let l3:=len_app (ό W none ↑(at_:Int)) #[#v[97+(g+7*i) % 26]];w_up;cbv;rw[show((g:Int)+7*(i:Int)) % 26=(((g+7*i) % 26:Nat):Int)by omega];show gY () (aJ (Z0 (asW _ (by decide)))) ?_;f_len;f_tup;cbv;show gq () ?_;cbv;show bW () ?_;cbv;show gq () ?_*>bW () ?_*>tail _ _ ?_ _;unfold cz;rw[decide_eq_true h',if_pos rfl];rfl
    .let h':¬ Υ ns 110 2=1:=λe=>h (by rw[e])
     show Α (tail _ _ ?_ _);unfold cz;rw[decide_eq_false h',if_neg (by decide)];rfl
   .let#[#[D,G,l,rfl],B,f]:=hP;rw[atM]at f;generalize decide (Υ ns 110 2=1)=b at f;let I:((ado m).map (cz W at_ sz g b)).Nodup:=by
     unfold auJ;rw[asU];show List.Pairwise.imp_of_mem (λ{x y} U hy aa e=>?_) (aud (n:=m));let hx':=ajF.mp U;let hy':=ajF.mp hy;show aa (anr u Z Mp () () e)
    let J:∀z∈(ado m).map (cz W at_ sz g b),isName z=true:=λz R=>by
     let#[j,hj,rfl]:=abz.mp R;let hj':=ajF.mp hj;have:=acS (first:=g) (b:=b) u Z Mp (show j<6 by omega);show ah0 this.1 this.2 (amf u Z Mp Qd)
    let jq:↥((ado m).map (cz W at_ sz g b))=m:=by rw[aau,ahr]
    generalize(ado m).map (cz W at_ sz g b)=zs at f I J jq;w_up;cbv;show#[a,ns,111,2,rfl,B.seq L,M,by decide,by decide,by decide,?_];cbv;show Β (λh=>?_) (λh=>?_)
    .f_len;show Ϛ (anj F.plainAttrs_list F.slot_list_reverse F.type_list_reverse (by rfl) (by rfl) ?_);cbv;show#[.inl #[rfl,_,θ.of f],?_]*>dD agC #[p,_,rfl,rfl,f,?_];cbv;rw[<-aua];show q p zs.reverse _ (λb o e=>by rw[ι (Ω e pn)];show B _ _ e) pn ο (by rw[atv];show jq) (atk.mpr (I.imp λh=>Ne.symm h)) (λz R=>J z (at5.mp R))
    .cbv;show q p zs H' B pn f jq I J
  .have :i<↥xs:=(aak.mp e).1;rw[aty (by simp at ϻ;omega)]
def nine:List Str:=[ν "all",ν "none",ν "is",ν "not",ν "over",ν "under",ν "holds",ν "both",ν "either"]
def adX:∀z∈nine,isName z=true:=by fin2
def ajd:nine.Nodup:=by fin2
def zP(h:i<9):nine[i]?=↑(nine.getD i ""):=by
 let a:i<↥nine:=h;rw[abP,aah a];rfl
def anS(hi:i<9)(a:j<9)(e:nine.getD i ""=nine.getD j ""):i=j:=by
 let e1:=zP hi;let c:=zP a;rw[e]at e1;let f:i<↥nine:=hi;let g:j<↥nine:=a;let l:nine[i]=nine.getD j "":=by
  have:=aah f;rw[this]at e1;show Option.some.inj e1
 let m:nine[j]=nine.getD j "":=by
  have:=aah g;rw[this]at c;show Option.some.inj c
 show(as7 ajd).mp (l<|>m.symm)
def adh{cs:List ξ}(h1:1<=↥cs)(e:↥cs<=6)(f:(cs.map Prod.fst).Nodup)(h:∀c∈cs,isName c.1=true/\(c.2="number"\/c.2="text")):Ρ cs=true:=by
 unfold Ρ pC;rw[aaK,aaK,decide_eq_true_eq,decide_eq_true_eq,acE];show#[#[#[h1,e],λc a=>by rw[(h c a).1,decide_eq_true (h c a).2];rfl],f]
inductive Yd(K:ϩ):Sp
 |mk (a:δ) (ns:List Int):vs=[.ref a]->θ K H a (ns.map V.int)->↥ns<=63->(∀p cs H',ζ H H'->H p=none->Ϗ H' p cs->Ρ cs=true->Q (.ref p) H')
def Ju:Def 3 "_law_columns" ["_law_script"] (Yd K):=by
 exists W8,Ju,hr,#[a,ns,rfl,j,f,q],2,n1.qt,n2.bj,1,D1 gD,D2 HD;let wG:(["_law_k","_law_names_here","_law_script"]:List Str).Nodup:=by fin2
 let fin:∀(m:Nat)(L:δ)(zs:List Str)(H1:Hp)(o3:Option V),1<=m->m<=6->ζ H H1->H1 L=↑(.lst (zs.map V.str))->↥zs=m->zs.Nodup->(∀z∈zs,isName z=true)->
   Ζ X ((Ψ tK).drop 4) {nx:=λ_ H'=>Q .non H',rt:=Q} [↑(.ref a),↑(.int m),↑(.ref L),o3] H1:=by
  intro m L zs H1 o3 l G g I Y Z HQ;let Ib:↥(zs.map V.str)=↥zs:=aau ..;let SL:θ K H1 L (zs.map V.str):=θ.of I;symm;show Zn ["_law_k","_law_names_here","_law_script"] (σ':=[none,↑(.ref L),↑(.ref a)]) (bh (ς tK)) n1 ?_;cbv;rw[Ib];show#[(),(),λτ=>∃o1,τ=[o1,↑(.ref L),↑(.ref a)],λE2 i u H'=>∃kk:Str,(kk="number"\/kk="text")/\∃t,u=.ref t/\t≠E2/\H' t=↑(.tup [.str (zs.getD i ""),.str kk]),#[none,rfl],λE2 i u H2 J ys _ y2 y3=>?_,λfp E2 C s3 H0 i τ x H4 J aN hi aa Φ ab hG=>?_,λL2 H2 ys ac M ae D Τ =>?_]
  .let#[kk,o,t,rfl,O,hq]:=y3;show#[kk,o,t,rfl,O,y2 _ _ O hq]
  .let#[o1,rfl]:=aa;let#[rfl,rfl]:=hG;let af:i<↥zs:= ~~~hi
   let hz:(zs.map V.str)[i]?=↑(V.str (zs.getD i "")):=by
    rw[adl,abP,aah af];rfl
   show Ε wG ?_;cbv;show ϐ (Φ.seq SL) (aJ hz) ?_;cbv;show#[ω,λk o=>?_];let#[R,ek,H4,k,H5]:=Θ o (.lst [.str "number",.str "text"]);cbv;show#[a,ns,10+i,2,rfl,((g<|>Φ)<|>R).seq j,f,(),(),by decide,?_];let k0:=aD ns (10+i) (m:=2) (by decide);let k1:=aA ns (10+i) (m:=2) (by decide);let#[kd,e1,D]:=nj (xs:=[V.str "number",V.str "text"]) k0 (by show _<(2:Int);omega);show ϐ (θ.of ek) e1 ?_;cbv;obtain⟨kk,rfl,ag⟩:∃kk:Str,kd=.str kk/\(kk="number"\/kk="text"):=by
    obtain e|e:=aaF.mp D
    .show#[_,e,.inl rfl]
    .show#["text",~~~e,.inr rfl]
   show#[ω,λtp p=>?_]*>#[#[_,rfl],#[kk,ag,tp,rfl,λe=>?_,ο],R<|>(ζ.upd p)];let#[zs',ah]:=ab;rw[e,R<*ah]at p;cases p
  .let ai:↥ys=↥zs:=by rw[M];simp
   let al:∀(k:Nat)(ys:List V)(zs:List Str),↥ys=↥zs->(∀(i:Nat) u,ys[i]?=↑u->∃kk:Str,(kk="number"\/kk="text")/\∃t,u=.ref t/\H2 t=↑(.tup [.str (zs.getD i ""),.str kk]))->∃cs:List ξ,χ (vh H2) ys cs/\cs.map Prod.fst=zs/\∀c∈cs,c.2="number"\/c.2="text":=by
    intro _ ys;induction ys with
    |nil=>
     intro zs f _;cases zs with
     |nil=>show#[[],.nil,rfl,λc B=>by simp at B]
     |cons _ _=>simp at f
    |cons u ys ih=>
     intro zs f h;cases zs with
     |nil=>simp at f
     |cons z zs=>
      let#[kk,o,t,rfl,O]:=h 0 u rfl;let#[cs,h1,h2,h3]:=ih zs (~~~f) λi u e=>by
       have:=h (i+1) u (~~~e);simpa using this
      show#[(z,kk)::cs,.cons #[t,rfl,~~~O] h1,by simp[h2],λc B=>?_];obtain e|e:=aaF.mp B
      .subst e;show o
      .show h3 c e
   let#[cs,h1,h2,h3]:=al 0 ys zs ai λi u e=>by
    let#[kk,o,t,e1,_,e3]:=ae i u e;show#[kk,o,t,e1,e3]
   let hcl:↥cs=↥zs:=by rw[<-h2,aau]
   show q L2 cs H2 (g<|>Τ) (g.free ac) #[ys,D,h1] (adh () () (by rw[h2];show Z) λc B=>#[HQ _ ?_,h3 c B]);rw[<-h2];show ahF B
 let F:∀(m:Nat),1<=m->m<=6->Ζ X ((Ψ tK).drop 2) {nx:=λ_ H'=>Q .non H',rt:=Q} [↑(.ref a),↑(.int m),none,none] H:=by
  intro m l G;w_up;cbv;show#[a,ns,m,rfl,j,f,G,λL zs H1 g hLn I Y Z HQ=>?_];let Ib:↥(zs.map V.str)=↥zs:=aau ..;w_up;cbv;show#[a,ns,9,4,rfl,g.seq j,f,by decide,by decide,by decide,?_];cbv;show Β (λh=>?_) (λh=>?_)
  .w_up;cbv;show#[ω,λy hy=>?_];let#[U,ey]:=Θ hy (.lst (nine.map V.str));change Ζ _ _ _ _ (upd H1 y (.lst (nine.map V.str)));generalize upd H1 y (.lst (nine.map V.str))=H2 at U ey⊢;let SL:θ K H2 L (zs.map V.str):=θ.of (U<*I);f_len;f_tup;show Qw ["_law_k","_law_script","_law_some"] (σ':=[none,↑(.ref a),↑(.ref y)]) (bh (ς tK)) n1 ?_;cbv;rw[Ib];let d0:=aD ns 8 (m:=9) (by decide);let d1:=aA ns 8 (m:=9) (by decide);let#[d,ed]:=aa4 d0;let hd:d<9:=()
   show#[(),(),λi v=>v=.str (nine.getD ((d+2*i) % 9) ""),λfp E' C s3 H0 i J hi W=>?_,λE' J xs hE M hx D W=>?_]
   .cbv;show#[a,ns,8,9,rfl,((g<|>U)<|>W).seq j,f,by decide,by decide,by decide,?_];rw[ed];cbv;rw[show((d:Int)+2*(i:Int)) % 9=(((d+2*i) % 9:Nat):Int)by omega];let hg:(nine.map V.str)[(d+2*i) % 9]?=↑(V.str (nine.getD ((d+2*i) % 9) "")):=by
     rw[adl,zP (asW _ (by decide))];rfl
    show ϐ (θ.of (W<*ey)) (aJ hg) #[rfl,ζ.refl _]
   .let ex:=fL (ys:=ado ↥zs) (λi:Nat=>V.str (nine.getD ((d+2*i) % 9) "")) (by rw[M,ahr];simp) (λi v e=>#[i,?_,hx i v e])
    .let wR:xs=((ado ↥zs).map λi:Nat=>nine.getD ((d+2*i) % 9) "").map V.str:=by
      rw[ex,afR];rfl
     subst wR;show fin m E' _ J _ l G ((g<|>U)<|>W) D (by rw[aau,ahr];show Y) ?_ λz hz=>?_
     .unfold auJ;rw[asU];show List.Pairwise.imp_of_mem (λ{x y} hx hy hxy e=>?_) (aud (n:=↥zs));let hx':=ajF.mp hx;let hy':=ajF.mp hy;have:=anS (asW _ (by decide)) (asW _ (by decide)) e;omega
     .let#[i,_,rfl]:=abz.mp hz;let h9:(d+2*i) % 9<9:=asW _ (by decide);show adX _ (aa1 (zP h9))
    .have :i<↥xs:=(aak.mp e).1;rw[aty (by simp at M;omega)]
  .show Α ?_*>fin m L zs H1 _ l G g I Y Z HQ
 w_up;cbv;show#[a,ns,0,4,rfl,j,f,by decide,by decide,by decide,?_];let c0:=aD ns 0 (m:=4) (by decide);let c1:=aA ns 0 (m:=4) (by decide);obtain⟨m,em⟩:∃m:Nat,1+ Υ ns 0 4=(m:Int):=#[(1+ Υ ns 0 4).toNat,()];lk;rw[em];w_up;cbv;show#[a,ns,7,8,rfl,j,f,by decide,by decide,by decide,?_];cbv;show Β (λh=>?_) (λh=>?_)
 .f_len;f_tup;cbv;show#[a,ns,6,2,rfl,j,f,by decide,by decide,by decide,?_];let c2:=aD ns 6 (m:=2) (by decide);let c3:=aA ns 6 (m:=2) (by decide);obtain⟨m',am⟩:∃m:Nat,5+ Υ ns 6 2=(m:Int):=#[(5+ Υ ns 6 2).toNat,()];lk;rw[am];show F m' () ()
 .show Α (F m () ())
def ak(a:Str)(v:V):Prop:=v=.non\/(a="number"/\∃i,v=.int i/\ -1000000000000000000<=i/\i<=1000000000000000000)\/(¬a="number"/\∃z,v=.str z/\↥z<=20/\∀c∈z.cps.toList,c∈SG)
def ak.sc(h:ak a v):scalar v=true:=by
 obtain rfl|⟨_,i,rfl,_⟩|⟨_,z,rfl,_⟩:=h<;>rfl
def ak.oF(h:ak a v):oF v=true/\∀z,v=.str z->bR 4000 z:=by
 obtain rfl|⟨_,i,rfl,_⟩|⟨_,z,rfl,f,c⟩:=h
 .show#[rfl,λz e=>by cases e]
 .show#[rfl,λz e=>by cases e]
 .show#[rfl,λy e=>by cases e;show bR.sg () c]
def uM:List Str:=[ν "",ν "a",ν "b",ν "ab",ν "a-",ν "0",ν "z9",ν "aa"]
def an8:∀z∈uM,↥z<=20/\∀c∈z.cps.toList,c∈SG:=by fin2
inductive Xu(K:ϩ):Sp
 |mk (a:δ) (ns:List Int) (k:Int) (kd:Str):vs=[.ref a,.int k,.str kd]->θ K H a (ns.map V.int)->↥ns<=63->0<=k->k<=50000->(∀v H',ζ H H'->ak kd v->Q v H')
def Cm:Def 2 "_law_value" ["_law_script","_law_k","_law_kind"] (Xu K):=by
 exists aaA,Cm,hr,#[a,ns,k,u,rfl,g,i,I,J,q],2,n1.bj,1;let C:↥(ns.map V.int)=↥ns:=aau ..;let D1:=!gD;let tail:∀(n cell:Int),Ζ X ((Ψ Gp).drop 3) {nx:=λ_ H'=>Q .non H',rt:=Q} [↑(.ref a),↑(.int k),↑(.str u),↑(.int n),↑(.int cell),none] H:=by
  intro n cell;w_up;cbv;show Β (λh=>?_) (λh=>?_)
  .let l:u="number":=by injection h
   cbv;show Β (λh1=>?_) (λh1=>?_)
   .cbv;show#[a,ns,k+1,3,rfl,g,i,(),(),by decide,?_];let f:=aD ns (k+1) (m:=3) (by decide);let c1:=aA ns (k+1) (m:=3) (by decide);generalize Υ ns (k+1) 3=d at f c1⊢;cbv;show q _ _ (ζ.refl _) (.inr (.inl #[l,_,rfl,(),()]))
   .cbv;show Β (λh2=>?_) (λh2=>?_)
    .cbv;let f:=ahe cell (b:=2*1000000000000000000+1) (by decide);let c1:=agE cell (b:=2*1000000000000000000+1) (by decide);show q _ _ (ζ.refl _) (.inr (.inl #[l,_,rfl,(),()]))
    .cbv;show#[a,ns,k+1,4,rfl,g,i,(),(),by decide,?_];let f:=aD ns (k+1) (m:=4) (by decide);let c1:=aA ns (k+1) (m:=4) (by decide);generalize Υ ns (k+1) 4=d at f c1⊢;cbv;show q _ _ (ζ.refl _) (.inr (.inl #[l,_,rfl,(),()]))
  .let l:¬u="number":=λe=>h (by rw[e])
   cbv;show Β (λh1=>?_) (λh1=>?_)
   .let L:∀j,j<3->("z9-":Str).cps.toList[j]?=↑(("z9-":Str).cps.toList.getD j 0):=by fin2
    let M:∀j,j<4->("a0-z":Str).cps.toList[j]?=↑(("a0-z":Str).cps.toList.getD j 0):=by fin2
    let O:∀j,j<3->("z9-":Str).cps.toList.getD j 0∈SG:=by fin2
    let R:∀j,j<4->("a0-z":Str).cps.toList.getD j 0∈SG:=by fin2
    w_up;cbv;show#[a,ns,k+1,3,rfl,g,i,(),(),by decide,?_];let f:=aD ns (k+1) (m:=3) (by decide);let c1:=aA ns (k+1) (m:=3) (by decide);let#[d,U]:=aa4 f;rw[U];let hd:d<3:=()
    show gY (by fin2) (aJ (L d hd)) ?_;let D:=O d hd;generalize("z9-":Str).cps.toList.getD d 0=x at D⊢;f_len;cbv;show Zq (by show 0<1;decide) (by show 1*19<=ϰ;omega) ?_;let r1:=adV x 19 (by decide);let r2:↥(jU (#[#v[x]]:Str) 19)=19:=by rw[_L.len_list,r1,arH];rfl
    cbv;show#[a,ns,k+2,4,rfl,g,i,(),(),by decide,?_];let W:=aD ns (k+2) (m:=4) (by decide);let e1:=aA ns (k+2) (m:=4) (by decide);let#[s,Y]:=aa4 W;rw[Y];let o:s<4:=()
    show gY (by fin2) (aJ (M s o)) ?_;let F:=R s o;generalize("a0-z":Str).cps.toList.getD s 0=y at F⊢;let r3:↥(#[#v[y]]:Str)=1:=rfl;let r4:=len_app (jU (#[#v[x]]:Str) 19) #[#v[y]];show bW () ?_*>q _ _ (ζ.refl _) (.inr (.inr #[l,_,rfl,(),λc G=>?_]));rw[au,r1]at G;obtain e|e:=adi.mp G
    .rw[aqz e];show D
    .have :c=y:= ~~~e
     rw[this];show F
   .cbv;show#[ω,λp Z=>?_];let#[B,ep]:=Θ Z (.lst (uM.map V.str));change EV _ _ _ (upd H p (.lst (uM.map V.str))) _;generalize upd H p (.lst (uM.map V.str))=H2 at B ep⊢;cbv;show#[a,ns,k+1,8,rfl,B.seq g,i,(),(),by decide,?_];let f:=aD ns (k+1) (m:=8) (by decide);let c1:=aA ns (k+1) (m:=8) (by decide);let#[v,e1,e2]:=nj (xs:=uM.map V.str) f (by show _<(8:Int);omega);show ϐ (θ.of ep) e1 ?_;let#[z,hz,rfl]:=abz.mp e2;show q _ _ B (.inr (.inr #[l,z,rfl,an8 z hz]))
 w_up;cbv;show#[a,ns,k,8,rfl,g,i,(),(),by decide,?_];cbv;show Β (λh0=>?_) (λh0=>?_)
 .cbv;show q _ _ (ζ.refl _) (.inl rfl)
 .cbv;rw[C];show Β (λh3=>?_) (λh3=>?_)
  .cbv;rw[C];cbv;show ϐ g (Hs 0 (ahe _ ()) (agE _ ())) ?_*>tail _ _
  .lk;show tail _ _
inductive Yw(K:ϩ):Sp
 |mk (a:δ) (ns:List Int) (k:Int) (b:δ) (cs:List ξ):vs=[.ref a,.int k,.ref b]->θ K H a (ns.map V.int)->↥ns<=63->0<=k->k<=40000->Ϗ H b cs->↥cs<=6->(∀p xs H',ζ H H'->H p=none->H' p=↑(.lst xs)->χ (λc x=>ak c.2 x) cs xs->Q (.ref p) H')
theorem uc{α β:Type}{R:α->β->Prop}:∀{l:List α}{m:List β},↥m=↥l->(∀(i:Nat) b,m[i]?=↑b->∃a,l[i]?=↑a/\R a b)->χ R l m
 |[],[],_,_=>.nil
 |[],_::_,h,_=>by simp at h
 |_::_,[],h,_=>by simp at h
 |a::l,b::m,h,g=>by
  let#[a',e,r]:=g 0 b rfl;have:a=a':= ~~~e
  subst this;show .cons r (uc (~~~h) λi x e=>~~~g (i+1) x (~~~e))
def vp:Def 3 "_law_values" ["_law_script","_law_k","_law_columns_here"] (Yw K):=by
 exists ["_law_script","_law_k","_law_columns_here"],vp,hr,#[a,ns,k,b,cs,rfl,y,z,B,D,F,G,q],I.qt,n2.bj,1,D1 Cm;let J:(["_law_n","_law_columns_here","_law_k","_law_script"]:List Str).Nodup:=by fin2
 let#[vs,M,e]:=id F;let f:=e.len;let O:θ K H b vs:=θ.of M;symm;show Zn ["_law_n","_law_columns_here","_law_k","_law_script"] (σ':=[none,↑(.ref b),↑(.int k),↑(.ref a)]) (bh (ς We)) I ?_;cbv;show#[(),(),λn=>∃o1,n=[o1,↑(.ref b),↑(.int k),↑(.ref a)],λo i u H'=>∃c,cs[i]?=↑c/\ak c.2 u,#[none,rfl],λo i u H2 R ys _ _ p=>p,λfp o C s3 H0 i n x H4 R aN hi g j S U=>?_,λL H1 ys W Y l e1 Z =>?_]
 .let#[o1,rfl]:=g;let#[rfl,rfl]:=U;let m:i<↥vs:= ~~~hi
  let s:vs[i]?=↑vs[i]:=aah m;let#[c,hc,t,ev,ht]:=e.get s;show Ε J ?_;cbv;show ϐ (j.seq O) (aJ s) ?_;rw[ev];cbv;show ϋ (ρ.of (j<*ht)) (show Ι [V.str c.1,V.str c.2] 1=↑(V.str c.2)from rfl) ?_;cbv;show#[a,ns,_,c.2,rfl,j.seq y,z,(),(),λv H5 cU hv=>?_]*>#[#[_,rfl],#[c,hc,hv],cU]
 .show q L ys H1 Z W e1 (uc (by rw[Y, <-f];simp) l)
def nW(c:ε)(r:Option V)(H:Hp)(Q:VK)(E:XK):=∀H',ζ H H'->match r with
 |some v=>Q v H'
 |none=>False
inductive Dj(c:ε):Sp
 |mk (z):vs=[.str z]->↥z<=4000->nW c (wI (gO z.cps.toList)) H Q E
inductive yq(c:ε):Sp
 |mk (z):vs=[.str z]->↥z<=4000->nW c (yX (jf z)) H Q E
inductive BK(c:ε):Sp
 |mk (k) (z):vs=[.str k,.str z]->↥z<=4000->nW c (eV k z) H Q E
inductive Ay(c:ε):Sp
 |mk (a) (cs):vs=[.ref a]->Ϗ H a cs->↥cs<=4000->GQ cs->(∀H',ζ H H'->if Ρ cs=true then Q .non H' else False)
inductive Wj(K:ϩ)(mg:MG):Sp
 |mk (a:δ) (ws:List Str) (p:Nat):vs=[.ref a,.int p]->θ K H a (ws.map V.str)->↥ws<=4000->p<=100000->(¬(p<↥ws/\p<60)->∀e H',ζ H H'->H' e=↑(.xd [("at",.int p)])->E (.ref (η mg "NoSieve")) (↑e,true) H')->(∀z,ws[p]?=↑z->p<60->Q (.str z) H)
def lV:Def 3 "word_at" ["words","place"] (Wj K mg):=by
 exists ["words","place"],lV,i,#[a,ws,p,rfl,j,s,u,c,q],v.bj,x.ahd;let l:↥(ws.map V.str)=↥ws:=aau ..;let rest:¬(p<↥ws/\p<60)->Ζ X [xP (aaU (xP (Ψ Mr) 0)) 0] {nx:=λσ' H'=>Ζ X ((Ψ Mr).drop 1) {nx:=λ_ H'=>Q .non H',rt:=Q} σ' H',rt:=Q} [↑(.ref a),↑(.int p)] H:=by
  intro m;f_len;show rF (Gh T (cc:=true)) i (λ_=>rfl) Ο ?_;cbv;show#[p,rfl,(),λe H' n o=>c m e H' n o]
 w_up;cbv;rw[l];show Β (λh=>?_) (λh=>?_)
 .show rest ()
 .cbv;show Β (λh2=>?_) (λh2=>?_)
  .show rest ()
  .cbv;let f:p<↥ws:=()
   let g:ws[p]?=↑ws[p]:=aah f;show ϐ j (aJ (by rw[adl,g];rfl)) ?_*>q _ g ()
def dB(ws:List Str)(s b:Nat):Str:=aek " " ((ws.drop s).take (b-s))
inductive Tv(K:ϩ):Sp
 |mk (a:δ) (ws:List Str) (s b:Nat):vs=[.ref a,.int s,.int b]->θ K H a (ws.map V.str)->↥ws<=4000->(∀z∈ws,↥z<=1000)->s<=b->b<=↥ws->(∀H',ζ H H'->Q (.str (dB ws s b)) H')
theorem aal:∀{l:List Str},(∀z∈l,↥z<=1000)->(l.map (·.length)).sum<=↥l*1000
 |[],_=>by simp
 |z::l,h=>by
  let h1:=aal (l:=l) λy a=>h y (by simp[a])
  let h2:=h z (by simp);simp only[aen,apG,abU];omega
def uG:Def 1 "text_between" ["words","start","behind"] (Tv K):=by
 exists ["words","start","behind"],uG,v,#[a,ws,i,j,rfl,g,x,m,n,y,q];let o:↥(" ":Str)=1:=by fin2
 let hsz:=Ϯ;symm;cbv;show pK g λp s=>?_
 let e:bL (ws.map V.str) ↑(i:Int) ↑(j:Int)=((ws.drop i).take (j-i)).map V.str:=by
  unfold bL;let c:↥(ws.map V.str)=↥ws:=aau ..;let e1:_H.Η ↥(ws.map V.str) 0 ↑(i:Int)=i:=by
   rw[c];unfold _H.Η;split
   .rename_i h;cases h
   .rename_i h;cases h;rw[if_neg ()];omega
  let u:_H.Η ↥(ws.map V.str) ↥(ws.map V.str) ↑(j:Int)=j:=by
   rw[c];unfold _H.Η;split
   .rename_i h;cases h
   .rename_i h;cases h;rw[if_neg ()];omega
  rw[e1,u, <-List.map_drop, <-List.map_take]
 rw[e];let#[f,ep,H,p,H2]:=Θ s (.lst (((ws.drop i).take (j-i)).map V.str));cbv;show jy (θ.of ep) ?_ (q H2 f);let h1:=aal (l:=(ws.drop i).take (j-i)) λz h=>m z (af0 (aeB h))
 let h2:↥((ws.drop i).take (j-i))<=4000:=by
  rw[af8,ael];omega
 rw[o];omega
def aj0:∀{i:Nat}{c:ξ}(j:Nat),cs[i]?=↑c->(∀k c,k<i->cs[k]?=↑c->¬c.1=z)->c.1=z->gF cs z j=.int ((j+i:Nat):Int):=by
 induction cs with
 |nil=>intro i c j e;simp at e
 |cons d r f=>
  intro i c j e h a;unfold gF;cases i with
  |zero=>
   simp at e;subst e;rw[if_pos a];rfl
  |succ i=>
   rw[if_neg (h 0 d () rfl)];rw[f (j+1) (~~~e) (λk c l g=>h (k+1) c () (~~~g)) a]
   congr 2
   omega
def Fj:∀(j:Nat),(∀c∈cs,¬c.1=z)->gF cs z j=.non:=by
 induction cs with
 |nil=>intro j h;rfl
 |cons d r a=>
  intro j h;unfold gF;rw[if_neg (h d (by simp)),a (j+1) λc e=>h c (by simp[e])]
def oU:Def 1 "place_of" ["columns","name"] aaw:=by
 exists Zf,oU,G,#[a,cs,z,rfl,#[vs,v,f],q],B.afb,2;w_up;show ae7 (by walk_at"po") (by rfl) (by rfl) B (by rfl) ?_;cbv;show#[a,vs,rfl,v,λi σ H'=>(∃o1 o2,σ=[↑(.ref a),↑(.str z),o1,o2])/\ζ H H'/\∀k c,k<i->cs[k]?=↑c->¬c.1=z,#[#[none,none,rfl],ζ.refl _,λk c j=>()],λi σ H' hi g=>.inl (.inl (g.2.1<*v)),λi x p σ H' C g D=>?_,λσ H' g=>?_]
 .let#[#[o1,o2,rfl],s,l]:=g;let#[c,m,t,rfl,F]:=f.get C;let n :=s<|>(ζ.upd (o:=.tup [.int i,.ref t]) D);let y:(upd H' p (.tup [.int i,.ref t])) p=↑(.tup [.int i,.ref t]):=ο;generalize upd H' p (.tup [.int i,.ref t])=H2 at n y⊢;show aG (ρ.of y) (Μ (Ε nd (Μ (Ε nd (aH ?_)))));f_len;cbv;show ϋ (ρ.of (n<*F)) (show Ι [V.str c.1,V.str c.2] 0=↑(V.str c.1)from rfl) ?_;cbv;show Β (λh=>?_) (λh=>?_)
  .let u:c.1=z:=by injection h
   cbv;have:=aj0 0 m l u;rw[aqB]at this;rw[<-this];show q H2 n
  .let u:¬c.1=z:=λe=>h (by rw[e])
   cbv;show#[#[_,_,rfl],n,λk d j hd=>?_];by_cases e:k=i
   .subst e;rw[m]at hd;cases hd;show u
   .show l k d () hd
 .let#[#[o1,o2,rfl],s,l]:=g;f_len;cbv;have:=Fj (cs:=cs) (z:=z) 0 λc m=>by
   let#[k,j,e]:=atw m;show l k c (by rw[f.len];show j) (by rw[<-e];show aah j)
  rw[<-this];show q H' s
def dj(cs:List ξ)(ws:List Str)(p:Nat):Option Nat:=if p<60 then match ws[p]? with
 |none=>none
 |some z=>if cs.any (λc=>decide (c.1=z))=true then some (ϣ cs z)else none
 else none
inductive Wt(K:ϩ)(mg:MG):Sp
 |mk (b:δ) (cs:List ξ) (a:δ) (ws:List Str) (p:Nat):vs=[.ref b,.ref a,.int p]->Ϗ H b cs->θ K H a (ws.map V.str)->↥ws<=4000->p<=100000->(dj cs ws p=none->∀e H',ζ H H'->H' e=↑(.xd [("at",.int p)])->E (.ref (η mg "NoSieve")) (↑e,true) H')->(∀i H',ζ H H'->dj cs ws p=↑i->Q (.int (i:Nat)) H')
def ud:Def 4 "read_column" ["columns","words","place"] (Wt K mg):=by
 exists Zw,ud,s,#[b,cs,a,ws,p,rfl,u,v,x,y,g,q],2,C oU,D lV;w_up;cbv;show#[a,ws,p,rfl,v,x,y,λF e H' l m=>g ?_ e H' l m,λz o i=>?_]
 .unfold dj;by_cases i:p<60
  .rw[if_pos i,arK ()]
  .rw[if_neg i]
 .cbv;show#[b,cs,z,rfl,u,λH2 l=>?_];by_cases f:∃c∈cs,c.1=z
  .let e:dj cs ws p=↑(ϣ cs z):=by
    unfold dj;rw[if_pos i,o];show if_pos (by rw[aoa];let#[c,j,e]:=f;show#[c,j,decide_eq_true e])
   rw[uY 0 f,aqB];cbv;show q _ H2 l e
  .let e:dj cs ws p=none:=by
    unfold dj;rw[if_pos i,o];show if_neg (by rw[aoa];rintro⟨c,j,e⟩;show f #[c,j,of_decide_eq_true e])
   rw[Fj 0 λc j e=>f #[c,j,e]];w_up;cbv;show rF (Gh T (cc:=true)) s (λ_=>rfl) Ο ?_;cbv;show#[p,rfl,(),λB H' n m=>g e B H' (l<|>n) m]
def xO:Def 1 "value_before" ["one","other"] Tj:=by
 exists ["one","other"],xO,a,#[x,y,rfl,hs,q];w_up;cbv;show Β (λh=>?_) (λh=>?_)
 .subst h;cbv;let e:before x .non=false:=by cases x<;>rfl
  rw[e]at q;show q
 .cbv;show Β (λh2=>?_) (λh2=>?_)
  .subst h2;cbv;let e:before .non y=true:=by cases y<;>first|rfl|show absurd rfl h
   rw[e]at q;show q
  .obtain e|e|⟨i,j,rfl,rfl⟩|⟨i,j,rfl,rfl⟩:=hs
   .show absurd e h2
   .show absurd e h
   .cbv;show q
   .cbv;show q
inductive sG(K:ϩ):Sp
 |mk (a C dx:δ) (fs:List (Str×V)) (z:Str):vs=[.ref a,.str z]->H a=↑(.ins C dx fs)->ϡ K C->ϊ K C "text"->↥fs<900->Q .non (upd H a (.ins C dx (ϖ "text" (.str z) fs)))
def zu:FD P w K mg base cc 1 "__init__" "Sieve.__init__" Ek ["self","text"] (sG K):=by
 exists ["self","text"],_,g,#[a,C,dx,fs,z,rfl,c,e,f,i,q];f_len;show bJ ?_;f_are;f_are;show#[a,C,dx,fs,rfl,c,e,f,(),q]
inductive Mw(K:ϩ):Sp
 |mk (a C dx:δ) (fs:List (Str×V)) (z:Str) (p:V):vs=[.ref a,.str z,p]->H a=↑(.ins C dx fs)->ϡ K C->ϊ K C "text"->ϊ K C "place"->↥fs<800->Q .non (upd (upd H a (.ins C dx (ϖ "text" (.str z) fs))) a (.ins C dx (ϖ "place" p (ϖ "text" (.str z) fs))))
def aie(T:Txt K mg):FD P w K mg base cc 2 "__init__" "NoneSieve.__init__" QV ["self","text","place"] (Mw K):=by
 exists ["self","text","place"],_,f,#[a,C,dx,fs,z,p,rfl,g,e,i,c,j,q];let B:uQ P w K mg base cc 1 "Sieve" "__init__" ["self","text"] (sG K):=zu.asked T.Ja T.Ky;let l:=rY "text" (V.str z) fs;w_up;show Ϛ ?_*>Hq (pl:=_) B f id Ο ?_;cbv;show#[a,C,dx,fs,z,rfl,g,e,i,(),?_];f_len;show bJ ?_;f_are;f_are;show#[a,C,dx,_,rfl,ο,e,c,(),q]
inductive vJ(K:ϩ):Sp
 |mk (a C dx:δ) (fs:List (Str×V)) (z:Str) (p v:V):vs=[.ref a,.str z,p,v]->H a=↑(.ins C dx fs)->ϡ K C->ϊ K C "text"->ϊ K C "place"->ϊ K C "value"->↥fs<800->(∀H',H' a=some (.ins C dx (ϖ "value" v (ϖ "place" p (ϖ "text" (.str z) fs))))->(∀b o,b≠a->H b=↑o->H' b=↑o)->Q .non H')
def J6(T:Txt K mg):FD P w K mg base cc 2 "__init__" "ValueSieve.__init__" yF ["self","text","place","value"] (vJ K):=by
 exists ["self","text","place","value"],_,j,#[a,C,dx,fs,z,p,v,rfl,l,c,m,f,g,s,q];let B:uQ P w K mg base cc 1 "Sieve" "__init__" ["self","text"] (sG K):=zu.asked T.Ja T.Ky;let u:=rY "text" (V.str z) fs;let n:=rY "place" p (ϖ "text" (V.str z) fs);w_up;show Ϛ ?_*>Hq (pl:=_) B j id Ο ?_;cbv;show#[a,C,dx,fs,z,rfl,l,c,m,(),?_];w_up;show bJ ?_;f_are;f_are;show#[a,C,dx,_,rfl,ο,c,f,(),?_];f_len;show bJ ?_;f_are;f_are;show#[a,C,dx,_,rfl,ο,c,g,(),q _ ο λb o i e=>?_];rw[ι i,ι i,ι i];show e
inductive Lk|is|under|over
def Bu:Lk->V->V->Bool
 |.is,x,v=>decide (x=v)
 |.under,x,v=>before x v
 |.over,x,v=>before v x
abbrev F3(z:Str)(p:Nat)(v:V):List (Str×V):=[("text",.str z),("place",.int p),("value",v)]
def Li:Lk->V->V->Prop
 |_,x,v=>scalar x=true/\scalar v=true/\cu x v
inductive wU(l:Lk)(C:δ):Sp
 |mk (a dx:δ) (z:Str) (p:Nat) (x v:V):vs=[.ref a,x]->H a=↑(.ins C dx (F3 z p v))->Li l x v->Q (.bl (Bu l x v)) H
def ai5(c:ϡ K C)(n:ϊ K C "value"):FD P w K mg base cc 2 "fits" "ValueSieve.fits" Xa ["self","value"] (wU .is C):=by
 exists ["self","value"],_,g,#[a,dx,z,p,x,v,rfl,e,#[f,sv,i],q];symm;f_are;f_are;show aF ?_;f_are;show#[a,C,dx,_,v,rfl,e,c,n,rfl,?_]*>Ug (aa3 f sv) ?_*>q
def ajE(h:cu x y):cu y x:=by
 obtain h|h|⟨i,j,a,b⟩|⟨i,j,a,b⟩:=h
 .show .inr (.inl h)
 .show .inl h
 .show .inr (.inr (.inl #[j,i,b,a]))
 .show .inr (.inr (.inr #[j,i,b,a]))
def amj(c:ϡ K C)(n:ϊ K C "value"):FD 2 "fits" "UnderSieve.fits" TY ["self","value"] (wU .under C):=by
 exists ["self","value"],_,g,#[a,dx,z,p,x,v,rfl,e,#[i,sv,f],q],j xO;symm;cbv;show aF ?_;f_are;show#[a,C,dx,_,v,rfl,e,c,n,rfl,?_];cbv;show#[x,v,rfl,f,q]
def ac0(c:ϡ K C)(n:ϊ K C "value"):FD 2 "fits" "OverSieve.fits" Xv ["self","value"] (wU .over C):=by
 exists ["self","value"],_,g,#[a,dx,z,p,x,v,rfl,e,#[i,sv,f],q],j xO;symm;cbv;show aF ?_;f_are;show#[a,C,dx,_,v,rfl,e,c,n,rfl,?_];cbv;show#[v,x,rfl,ajE f,q]
inductive Gv(K:ϩ)(l:Lk)(C:δ):Sp
 |mk (a dx:δ) (z:Str) (p:Nat) (v:V) (b:δ) (xs:List V) (x:V):vs=[.ref a,.ref b]->H a=↑(.ins C dx (F3 z p v))->θ K H b xs->xs[p]?=↑x->(x=.non\/Li l x v)->Q (.bl (!decide (x=.non)&&Bu l x v)) H
def Fb(M:ϕ P w K mg base true 2 C "fits" ["self","value"] (wU l C))(n:ϊ K C "place"):FD P w K mg base true 3 "lets" "ValueSieve.lets" uB ["self","values"] (Gv K l C):=by
 exists Ui,_,f,#[a,dx,z,p,v,b,xs,x,rfl,c,g,i,j,q],2;w_up;cbv;show aF ?_;f_are;show#[a,C,dx,_,_,rfl,c,M.cls,n,rfl,?_]*>ϐ g (aJ i) ?_;cbv;show kh (λh=>?_) (λh=>?_)
 .let e:¬x=.non:= ~~~h
  show aaJ ?_*>bD (pl:=_) f Ο (h:=?_);f_are;show#[a,C,dx,_,_,_,_,_,rfl,c,rfl,M,by decide,λ_=>rfl,?_];cbv;show#[a,dx,z,p,x,v,rfl,c,j.resolve_left e,?_];rw[h,anM]at q;show q
 .rw[h]at q;show q
def wu:Def 1 "made_of" ["text","signs"] Q6:=by
 exists ["text","signs"],wu,o,#[z,g,rfl,p,q],s.Xd;symm;f_are;f_are;show adp ["sign","signs"] (σ':=[none,↑(.str g)]) (by rfl) (by rfl) (bh (ς VD)) (by fin2) (by rfl) (by rfl) (by intro _;rfl) ?_;f_are;show#[z,rfl,?_,λi v=>∃c,z.cps.toList[i]?=↑c/\v=.bl (decide (c∈g.cps.toList)),λfp E' C u x i c H2 e a=>?_,λE' H2 xs y f j l a=>?_]
 .have :z.cps.size=↥z:=rfl;let h2:ϰ=16777216:=Ϯ;omega
 .cbv;show#[#[c,e,by rw[StrLaws.found_one]],ζ.refl _]
 .let ex:=fL (ys:=z.cps.toList) (λc=>V.bl (decide (c∈g.cps.toList))) (by rw[f];simp) j;let m:xs=(z.cps.toList.map λc=>decide (c∈g.cps.toList)).map V.bl:=by rw[ex,afR];rfl
  subst m;cbv;show Yo (by rfl) (θ.of l) ?_;let n:(z.cps.toList.map λc=>decide (c∈g.cps.toList)).all id=dZ z g:=by rw[atX];rfl
  rw[n];show q _ a
def xU:Def 2 "is_text_value" ["value"] QD:=by
 exists ["value"],xU,g,#[v,rfl,hs,c,q],j.ade,l.aiP,m.wN,n.lG,o.bj,p wu,1;symm;cases v with
 |int i=>
  cbv;show q H (ζ.refl _)
 |non=>
  cbv;show q H (ζ.refl _)
 |str z=>
  let a:↥z<=4000:=c;cbv;show Β (λh=>?_) (λh=>?_)
  .cbv;show#[z,_,rfl,a,λH' f=>?_];let e:iH (.str z)=dZ z wk:=by
    let h':↥z<=20:=()
    unfold iH;simp[h']
   rw[e]at q;show q H' f
  .let e:iH (.str z)=false:=by
    let h':¬↥z<=20:=()
    unfold iH;simp[h']
   rw[e]at q;show q H (ζ.refl _)
 |_=>cases hs
def Ex:Def 2 "are_figures" ["word"] Ny:=by
 exists ["word"],Ex,s,#[z,rfl,n,q],u.alK,y wu,1;let i:("0":Str).cps.toList=[48]:=by fin2
 let e1:("":Str).cps.toList=[]:=by fin2
 unfold dO at q;symm;cbv;show Β (λh=>?_) (λh=>?_)
 .let h':z.cps.toList=[48]:=by cases h;show i
  rw[h']at q;show q H (ζ.refl _)
 .let h':¬z.cps.toList=[48]:=λh2=>h (by rw[gK (h2<|>i.symm)])
  rw[decide_eq_false h',atG]at q;cbv;show gM (λh2=>?_) (λh2=>?_)
  .let a:z.cps.toList≠[]:=λe=>h2 (by rw[gK (e<|>e1.symm)])
   rw[decide_eq_true a,anM]at q;let#[c,r,o]:=asJ a;let g:z.cps.toList[0]?=↑c:=by rw[o];rfl
   cbv;show gY () (aJ (j:=0) g) ?_;cbv;rw[g]at q;show gM (λe=>?_) (λe=>?_)
   .let f:↑c≠↑48:=λl=>e (by cases l;show congrArg V.str (gK i.symm))
    rw[decide_eq_true f,anM]at q;cbv;show#[z,_,rfl,n,λH' p=>?_];rw[ab6];show q H' p
   .let f:¬(↑c≠↑48):=λl=>l (by
     have:=congrArg (λv:V=>match v with|.str x=>x.cps.toList|_=>[]) e;let m:[c]=("0":Str).cps.toList:=this;rw[i]at m;cases m;rfl)
    rw[decide_eq_false f,apV]at q;show q H (ζ.refl _)
  .let a:¬z.cps.toList≠[]:=λe=>e (by cases h2;show e1)
   rw[decide_eq_false a,apV]at q;show q H (ζ.refl _)
def Ca:Def 3 "read_figures" ["word","most"] Rx:=by
 exists Pj,Ca,p,#[z,m,k,rfl,g,s,i,j,c,k1,k2,q],u.bj,v.lG,y.yJ,2,B Ex,1;let C:=_L.len_list z;let out:∀(H1:Hp)(o:Option V),ζ H H1->gR z.cps.toList m=none->Ζ X ((Ψ KD).drop 1) {nx:=λ_ H'=>Q .non H',rt:=Q} [↑(.str z),↑(.int m),o] H1:=by
  intro H1 o l e;let q1:=q H1 l;rw[e]at q1;f_len;cbv;show q1
 w_up;cbv;show#[z,rfl,g,λH1 a =>?_];cbv;show kh (λh1=>?_) (λh1=>?_)
 .cbv;show lA (fW i) ?_;cbv;rw[j];show Β (λh2=>?_) (λh2=>?_)
  .cbv;let#[hd,n]:=Nb h1;show alk (intText_digits hd n ()) () ?_;cbv;show Β (λf=>?_) (λf=>?_)
   .let q1:=q H1 a;let e:gR z.cps.toList m=↑_:=if_pos #[h1,f];rw[e]at q1;cbv;show q1
   .show Α (out H1 _ a (if_neg λx=>f x.2))
  .show Α (out H1 _ a (if_neg λx=>h2 ?_));have:=Lb x.1 x.2 c k1;omega
 .show Α (out H1 _ a (if_neg λx=>by rw[h1]at x;show aa5 x.1))
def Jj:Def 4 "read_number_word" ["word"] (Dj (.ref (η mg "NoValue"))):=by
 exists Th,Jj,s,#[z,rfl,u,q],v.ai9,x.S5,2,y Ca,1;let l:↥(ν (toString (1000000000000000000:Int)))=19:=by fin2
 let f:gO z.cps.toList=none->False:=λn=>by
  let c:=q H (ζ.refl _);rw[n]at c;show c
 w_up;cbv;show QZ ?_;rw[show Txt.startswith z "-"=decide (z.cps.toList[0]?=↑45)from Rn z 45];generalize m:decide (z.cps.toList[0]?=↑45)=o;cbv;cases o with
 |true=>
  let g:=of_decide_eq_true m;cbv;show gq () ?_;cbv;let p:=nG z ↑1 none;show#[_,_,19,rfl,(),by decide,by decide,l,by decide,by decide,by decide,λH1 j =>?_];rw[show(ό z ↑1 none).cps.toList=z.cps.toList.drop 1 from xJ z 1];let a:=ak0 g;cases e:gR (z.cps.toList.drop 1) 1000000000000000000 with
  |none=>
   rw[e]at a;show(f a).elim
  |some i=>
   rw[e]at a;dsimp only at a;simp only[Ig];cbv;show Β (λh1=>?_) (λh1=>?_)
   .let h2:i=0:=by injection h1
    rw[if_pos h2]at a;show(f a).elim
   .let h2:¬i=0:=λe=>h1 (by rw[e])
    rw[if_neg h2]at a;let c:=q H1 j;rw[a]at c;show Α ?_;cbv;show c
 |false=>
  let g:=of_decide_eq_false m;cbv;show#[_,_,19,rfl,(),by decide,by decide,l,by decide,by decide,by decide,λH1 j =>?_];let a:=aaG g;cases e:gR z.cps.toList 1000000000000000000 with
  |none=>
   rw[e]at a;show(f a).elim
  |some i=>
   rw[e]at a;simp only[Ig];let c:=q H1 j;rw[a]at c;cbv;show c
def Fo:Def 3 "read_text_word" ["word"] (yq (.ref (η mg "NoValue"))):=by
 exists Q9,Fo,j,#[z,rfl,l,q],m.TX,2,n xU,1;let e1:ν "'"=#[#v[39]]:=by fin2
 let o:=nG z ↑1 none;let e:jf z=none->False:=λf=>by
  let a:=q H (ζ.refl _);rw[f]at a;show a
 w_up;cbv;show QZ ?_;cbv;rw[e1,Rn];show Β (λh1=>?_) (λh1=>?_)
 .cbv;show gq () ?_;cbv;show#[_,rfl,rfl,(show(ό z ↑1 none).length<=4000 by omega),λH1 g =>?_];cbv;show kh (λh2=>?_) (λh2=>?_)
  .cbv;show gq () ?_;let a:=q H1 g;let i:jf z=↑(ό z ↑1 none):=by
    unfold jf;rw[if_pos #[h1,h2]]
   rw[i]at a;show a
  .show(e ?_).elim;unfold jf;rw[if_neg λc=>by rw[h2]at c;show aa5 c.2]
 .show(e ?_).elim;unfold jf;rw[if_neg λc=>h1 c.1]
def Ar:Def 5 "read_value" ["kind","word"] (BK (.ref (η mg "NoValue"))):=by
 exists ["kind","word"],Ar,j,#[k,z,rfl,g,q],l.Zm,m.Gk,n Jj,o Fo;w_up;cbv;show Β (λh1=>?_) (λh1=>?_)
 .let h2:z="?":=by cases h1;rfl
  let i:=q H (ζ.refl _);let a:eV k z=↑.non:=by unfold eV;rw[if_pos h2]
  rw[a]at i;cbv;show i
 .let h2:¬z="?":=λe=>h1 (by rw[e])
  let a:eV k z=if k="number" then wI (gO z.cps.toList)else yX (jf z):=by unfold eV;rw[if_neg h2]
  rw[a]at q;cbv;show Β (λc=>?_) (λc=>?_)
  .let f:k="number":=by cases c;rfl
   rw[if_pos f]at q;cbv;show#[z,rfl,g,q]
  .let f:¬k="number":=λe=>c (by rw[e])
   rw[if_neg f]at q;cbv;show#[z,rfl,g,q]
inductive PL(K:ϩ):Sp
 |mk (kd:Str) (a:δ) (ws:List Str) (p:Nat) (z:Str) (v:V):vs=[.str kd,.ref a,.int p]->θ K H a (ws.map V.str)->↥ws<=4000->ws[p]?=↑z->p<60->↥z<=4000->eV kd z=↑v->¬v=.non->(∀H',ζ H H'->Q v H')
def DR:Def 6 "read_word" ["kind","words","place"] (PL K):=by
 exists T5,DR,B,#[i,a,ws,p,z,v,rfl,j,l,g,m,n,o,s,q],2,C lV,D Ar;let f:=(aak.mp g).1;w_up;cbv;show#[a,ws,p,rfl,j,l,(),λu=>absurd #[f,m] u,λz' e _=>?_];rw[g]at e;cases e;w_up;show xf (λ_ _ _ _=>False) rfl rfl (λF pn xo po=>?_) (λσ c d H' x=>x.elim);f_len;cbv;show#[i,z,rfl,n,λH' y=>?_];rw[o];show Α ?_;w_up;cbv;rw[decide_eq_false s];cbv;show q H' y
inductive dU|all|none (p:Nat)|look (l:Lk) (p:Nat) (v:V)
def CG(mg:MG):Lk->δ
 |.is=>η mg "IsSieve"
 |.under=>η mg "UnderSieve"
 |.over=>η mg "OverSieve"
def sV(mg:MG)(H:Hp)(a:δ):dU->Str->Prop
 |.all,z=>∃dx,H a=↑(.ins (η mg "AllSieve") dx [("text",.str z)])
 |.none p,z=>∃dx,H a=↑(.ins (η mg "NoneSieve") dx [("text",.str z),("place",.int p)])
 |.look l p v,z=>∃dx,H a=↑(.ins (CG mg l) dx (F3 z p v))
def sV.same(h:sV mg H a s z)(e:ζ H H'):sV mg H' a s z:=by
 cases s<;>let#[dx,h]:=h<;>show#[dx,e<*h]
def Gw(mg:MG)(H:Hp)(p:δ)(s:dU)(z:Str)(n:Nat):=∃t,H p=↑(.tup [.ref t,.int n])/\sV mg H t s z
inductive N8(K:ϩ)(mg:MG):Sp
 |mk (b:δ) (cs:List ξ) (a:δ) (ws:List Str) (s i:Nat):vs=[.ref b,.ref a,.int s]->Ϗ H b cs->θ K H a (ws.map V.str)->↥ws<=4000->(∀z∈ws,↥z<=1000)->s+2<=↥ws->dj cs ws (s+1)=↑i->(∀p H',ζ H H'->Gw mg H' p (.none i) (dB ws s (s+2)) (s+2)->Q (.ref p) H')
def CK:Def 5 "read_none" ["columns","words","start"] (N8 K mg):=by
 exists yV,CK,C,#[b,cs,a,ws,f,i,rfl,D,n,s,F,g,hi,q],2,1,L ud,O uG;let M:mD P w K mg base true 2 "NoneSieve" (η mg "NoneSieve") ["self","text","place"] (Mw K):=(aie T).make T.abT T.ame;w_up;cbv;show#[b,cs,a,ws,f+1,by simp,D,n,s,(),λe=>(by rw[hi]at e;cases e),λR H2 u e=>?_];rw[hi]at e;cases e;cbv;show mj M C (by decide) (λ_=>rfl) Ο ?_;cbv;show#[a,ws,f,f+2,by simp,u.seq n,s,F,(),g,λv j=>?_];cbv;intro y dx l m U;show#[y,_,dx,[],dB ws f (f+2),_,rfl,ο,T.w6,T.RX,T.YG,by simp,rfl,?_];cbv;show#[ω,λp x=>?_];generalize z:upd (upd (upd (upd v dx (.own y)) y (.ins (η mg "NoneSieve") dx [])) y _) y _=G at x⊢;let I:ζ v G:=λc o e=>by
  rw[<-z,ι (Ω e l),ι (Ω e l),ι (Ω e l),ι (Ω e m)];show e
 let J:G y=↑(.ins (η mg "NoneSieve") dx [("text",.str (dB ws f (f+2))),("place",.int i)]):=by
  rw[<-z];show ο
 let B:ζ G (upd G p (.tup [.ref y,.int (f+2)])):=ζ.upd x;show q p _ (((u<|>j)<|>I)<|>B) #[y,ο,dx,B<*J]
def bC:Lk->Str
 |.is=>"is"
 |.under=>"under"
 |.over=>"over"
inductive WL(K:ϩ)(mg:MG):Sp
 |mk (l:Lk) (b:δ) (cs:List ξ) (a:δ) (ws:List Str) (s i:Nat) (c:ξ) (z:Str) (v:V):vs=[.ref b,.ref a,.int s]->Ϗ H b cs->θ K H a (ws.map V.str)->↥ws<=4000->(∀z∈ws,↥z<=1000)->s+3<=↥ws->s+2<60->ws[s]?=↑(bC l)->dj cs ws (s+1)=↑i->cs[i]?=↑c->ws[s+2]?=↑z->eV c.2 z=↑v->¬v=.non->(∀p H',ζ H H'->Gw mg H' p (.look l i v) (dB ws s (s+3)) (s+3)->Q (.ref p) H')
def IK:Def 7 "read_of_value" ["columns","words","start"] (WL K mg):=by
 exists Nj,IK,I,#[l,b,cs,a,ws,f,i,c,z,v,rfl,W,F,J,Y,L,rP,hw,hi,hc,Z,hv,Ϻ,q],2,1,g1.vg,g2.T7,g3.v7,g4.uW,g5.xR,D1 ud,D2 uG,D3 DR;w_up;cbv;show ϐ F (aJ (by rw[adl,hw];rfl)) ?_;cbv;show#[b,cs,a,ws,f+1,by simp,W,F,J,(),λe=>(by rw[hi]at e;cases e),λi' H2 u e=>?_];rw[hi]at e;cases e;let#[vs,hb,O]:=W.same u;let#[cv,gc,t,rfl,ht]:=O.get' hc;w_up;cbv;show ϐ (θ.of hb) (aJ gc) ?_;cbv;show ϋ (ρ.of ht) (show Ι [V.str c.1,V.str c.2] 1=↑(V.str c.2)from rfl) ?_;w_up;cbv;show Β (λh=>absurd h (by cases l<;>fin2)) (λ_=>?_)*>Α ?_;w_up;cbv;show#[c.2,a,ws,f+2,z,v,by simp,u.seq F,J,Z,rP,by have:=Y z (aa1 Z);omega,hv,Ϻ,λH3 j=>?_];cbv;show#[a,ws,f,f+3,by simp,(u<|>j).seq F,J,Y,(),L,λR U =>?_];cases l with
 |is=>
  let M:mD P w K mg base true 2 "IsSieve" (η mg "IsSieve") ["self","text","place","value"] (vJ K):=(J6 T).make T.akZ T.akW;w_up;cbv;show cX ?_;cbv;show mj M I (by decide) (λ_=>rfl) Ο ?_;cbv;intro y dx m g n;show#[y,_,dx,[],dB ws f (f+3),_,v,rfl,ο,T.rT,T.RP,T.M9,T.YL,by simp,λG x B=>#[rfl,?_]];cbv;show#[ω,λp C=>?_];let D:ζ R G:=λc o e=>B c o (Ω e m) (by rw[ι (Ω e m),ι (Ω e g)];show e)
  let s:ζ G (upd G p (.tup [.ref y,.int (f+3)])):=ζ.upd C;show q p _ ((((u<|>j)<|>U)<|>D)<|>s) #[y,ο,dx,s<*x]
 |under=>
  let M:mD P w K mg base true 2 "UnderSieve" (η mg "UnderSieve") ["self","text","place","value"] (vJ K):=(J6 T).make T.ais T.acB;w_up;cbv;show cA ?_*>Α ?_;w_up;cbv;show cX ?_;cbv;show mj M I (by decide) (λ_=>rfl) Ο ?_;cbv;intro y dx m g n;show#[y,_,dx,[],dB ws f (f+3),_,v,rfl,ο,T.qp,T.Yk,T.Qq,T.ZQ,by simp,λG x B=>#[rfl,?_]];cbv;show#[ω,λp C=>?_];let D:ζ R G:=λc o e=>B c o (Ω e m) (by rw[ι (Ω e m),ι (Ω e g)];show e)
  let s:ζ G (upd G p (.tup [.ref y,.int (f+3)])):=ζ.upd C;show q p _ ((((u<|>j)<|>U)<|>D)<|>s) #[y,ο,dx,s<*x]
 |over=>
  let M:mD P w K mg base true 2 "OverSieve" (η mg "OverSieve") ["self","text","place","value"] (vJ K):=(J6 T).make T.afo T.akd;w_up;cbv;show cA ?_*>Α ?_;w_up;cbv;show cA ?_*>Α ?_;w_up;cbv;show cX ?_;cbv;show mj M I (by decide) (λ_=>rfl) Ο ?_;cbv;intro y dx m g n;show#[y,_,dx,[],dB ws f (f+3),_,v,rfl,ο,T.p7,T.Pg,T.aa9,T.Od,by simp,λG x B=>#[rfl,?_]];cbv;show#[ω,λp C=>?_];let D:ζ R G:=λc o e=>B c o (Ω e m) (by rw[ι (Ω e m),ι (Ω e g)];show e)
  let s:ζ G (upd G p (.tup [.ref y,.int (f+3)])):=ζ.upd C;show q p _ ((((u<|>j)<|>U)<|>D)<|>s) #[y,ο,dx,s<*x]
def rZ(cs:List ξ)(ws:List Str)(s:Nat):dU->Nat->Prop
 |.all,n=>ws[s]?=some "all"/\n=s+1
 |.none i,n=>ws[s]?=some "none"/\s+2<=↥ws/\dj cs ws (s+1)=↑i/\n=s+2
 |.look l i v,n=>s+3<=↥ws/\s+2<60/\ws[s]?=↑(bC l)/\dj cs ws (s+1)=↑i/\(∃c z,cs[i]?=↑c/\ws[s+2]?=↑z/\eV c.2 z=↑v)/\(¬v=.non)/\n=s+3
def ag6(h:ws[s]?=↑z):dB ws s (s+1)=z:=by
 unfold dB;let e:(ws.drop s).take (s+1-s)=[z]:=by
  rw[show s+1-s=1 by omega,yG h];rfl
 rw[e];show join_one _ z
inductive Z4(K:ϩ)(mg:MG):Sp
 |mk (b:δ) (cs:List ξ) (a:δ) (ws:List Str) (s n:Nat) (k:Int) (sv:dU):vs=[.ref b,.ref a,.int s,.int k]->Ϗ H b cs->θ K H a (ws.map V.str)->↥ws<=4000->(∀z∈ws,↥z<=1000)->s<60->rZ cs ws s sv n->(∀p H',ζ H H'->Gw mg H' p sv (dB ws s n) n->Q (.ref p) H')
def al6:Def 8 "read_part" ["columns","words","start","within"] (Z4 K mg):=by
 exists lL,yr,Y,#[b,cs,a,ws,m,n,k,sv,rfl,L,B,C,O,Z,f,q],2,1,g1.vg,g2.Ao,g3.v7,g4.uW,g5.xR,g6.Bp,D1 lV,D2 CK,D3 IK;let M:mD P w K mg base true 1 "AllSieve" (η mg "AllSieve") ["self","text"] (sG K):=zu.make T.alF T.anK;let g:∃z,ws[m]?=↑z:=by
  cases sv with
  |all=>show#[_,f.1]
  |none i=>show#[_,f.1]
  |look l i v=>show#[_,f.2.2.1]
 let#[z0,g]:=g;let D:=(aak.mp g).1;w_up;cbv;show#[a,ws,m,rfl,B,C,(),λhb=>absurd #[D,Z] hb,λz' s _=>?_];rw[g]at s;cases s;w_up;cbv;cases sv with
 |all=>
  let#[h1,rfl]:=f;rw[g]at h1;cases h1;show cX ?_;cbv;show mj M Y (by decide) (λ_=>rfl) Ο ?_;cbv;intro y dx R F Ϻ;show#[y,_,dx,[],_,rfl,ο,T.xY,T.Yr,by simp,rfl,?_];cbv;show#[ω,λp j=>?_];generalize U:upd (upd (upd H dx (.own y)) y (.ins (η mg "AllSieve") dx [])) y _=G at j⊢;let iw:ζ H G:=λc o e=>by
   rw[<-U,ι (Ω e R),ι (Ω e R),ι (Ω e F)];show e
  let ey:G y=↑(.ins (η mg "AllSieve") dx [("text",.str "all")]):=by
   rw[<-U];show ο
  let W:ζ G (upd G p (.tup [.ref y,.int (m+1)])):=ζ.upd j;show q p _ (iw<|>W) #[y,ο,dx,?_];rw[ag6 g];show W<*ey
 |none i=>
  let#[h1,h2,u,rfl]:=f;rw[g]at h1;cases h1;show cA ?_*>Α ?_;w_up;cbv;show cX ?_;cbv;show#[b,cs,a,ws,m,i,rfl,L,B,C,O,h2,u,λp H' I j=>q p H' I j]
 |look l i v=>
  let#[h1,h2,u,h4,#[c,z,h5,h7,h8],h9,rfl]:=f;rw[g]at u;cases u;let e1:¬V.str (bC l)=V.str ("all":Str):=by cases l<;>fin2
  let e2:¬V.str (bC l)=V.str ("none":Str):=by cases l<;>fin2
  let e3:eU (V.str (bC l)) [V.str ("is":Str),V.str ("under":Str),V.str ("over":Str),V.str ("holds":Str)]=true:=by cases l<;>fin2
  show Β (λh=>absurd h e1) (λ_=>?_)*>Α ?_;w_up;cbv;show Β (λh=>absurd h e2) (λ_=>?_)*>Α ?_;w_up;cbv;show#[ω,λtp J=>?_]*>jK (ρ.of ο) ?_;rw[e3];let x:ζ H (upd H tp (.tup [.str "is",.str "under",.str "over",.str "holds"])):=ζ.upd J;generalize upd H tp (.tup [.str "is",.str "under",.str "over",.str "holds"])=H2 at x⊢;cbv;show#[l,b,cs,a,ws,m,i,c,z,v,rfl,L.same x,x.seq B,C,O,h1,h2,g,h4,h5,h7,h8,h9,λp H' I j=>q p H' (x<|>I) j]
inductive abE:Sp
 |mk (x) (y):vs=[x,y]->Q (.bl true) H
def ac1:FD P w K mg base cc 1 "lets" "Sieve.lets" YX ["self","values"] abE:=by
 exists ["self","values"],_,a,#[x,y,rfl,q];f_len;cbv;show q
inductive M7(K:ϩ):Sp
 |mk (a C dx:δ) (fs:List (Str×V)) (p:Nat) (b:δ) (xs:List V) (x:V):vs=[.ref a,.ref b]->H a=↑(.ins C dx fs)->ϡ K C->ϊ K C "place"->fs.lookup ("place":Str)=↑(V.int p)->θ K H b xs->xs[p]?=↑x->Q (.bl (decide (x=.non))) H
def adW:FD P w K mg base cc 1 "lets" "NoneSieve.lets" aai ["self","values"] (M7 K):=by
 exists ["self","values"],_,l,#[a,C,dx,fs,p,b,xs,x,rfl,c,e,f,g,i,j,q];symm;cbv;show aF ?_;f_are;show#[a,C,dx,fs,_,rfl,c,e,f,g,?_]*>ϐ i (aJ j) ?_;cbv;show q
inductive JP(K:ϩ):Sp
 |mk (a C dx:δ) (fs:List (Str×V)) (z:Str) (p:V):vs=[.ref a,.str z,p]->H a=↑(.ins C dx fs)->ϡ K C->ϊ K C "text"->ϊ K C "one"->↥fs<800->Q .non (upd (upd H a (.ins C dx (ϖ "text" (.str z) fs))) a (.ins C dx (ϖ "one" p (ϖ "text" (.str z) fs))))
def aeH(T:Txt K mg):FD P w K mg base cc 2 "__init__" "NotSieve.__init__" Vn ["self","text","one"] (JP K):=by
 exists ["self","text","one"],_,f,#[a,C,dx,fs,z,p,rfl,g,e,i,c,j,q];let B:uQ P w K mg base cc 1 "Sieve" "__init__" ["self","text"] (sG K):=zu.asked T.Ja T.Ky;let l:=rY "text" (V.str z) fs;w_up;show Ϛ ?_*>Hq (pl:=_) B f id Ο ?_;cbv;show#[a,C,dx,fs,z,rfl,g,e,i,(),?_];f_len;show bJ ?_;f_are;f_are;show#[a,C,dx,_,rfl,ο,e,c,(),q]
inductive Tr
 |one (s:dU)
 |nt (t:Tr)
def Tr.dep:Tr->Nat
 |.one _=>0
 |.nt t=>t.dep+1
def Reads(cs:List ξ)(ws:List Str):Tr->Nat->Nat->Prop
 |.one sv,s,e=>s<60/\rZ cs ws s sv e
 |.nt t,s,e=>s<60/\ws[s]?=some "not"/\Reads cs ws t (s+1) e
theorem rZ.le:∀{sv:dU},rZ cs ws s sv e->s<e/\e<=↥ws
 |.all,h=>by
   let#[h1,rfl]:=h;have:=(aak.mp h1).1;omega
 |.none i,h=>by
   let#[_,h2,_,rfl]:=h;omega
 |.look l i v,h=>by
   let#[h1,_,_,_,_,_,rfl]:=h;omega
theorem Reads.le:∀{t:Tr}{s e:Nat},Reads cs ws t s e->s<e/\e<=↥ws
 |.one sv,s,e,h=>rZ.le h.2
 |.nt t,s,e,h=>by have:=Reads.le (t:=t) h.2.2;omega
def dN(mg:MG)(H:Hp):Tr->δ->Str->Prop
 |.one s,a,z=>sV mg H a s z
 |.nt t,a,z=>∃dx b y,H a=↑(.ins (η mg "NotSieve") dx [("text",.str z),("one",.ref b)])/\dN mg H t b y
theorem dN.same(e:ζ H H'):∀{t:Tr}{a:δ}{z:Str},dN mg H t a z->dN mg H' t a z
 |.one s,a,z,h=>sV.same h e
 |.nt t,a,z,h=>by
   let#[dx,b,y,h1,h2]:=h;show#[dx,b,y,e<*h1,dN.same e h2]
def K8(F:Def P w K mg base true k x ps sp)(h:∀vs H Q E,sp' vs H Q E->sp vs H Q E):Def P w K mg base true k x ps sp':=by
 let#[f,fd,h1,h2,e,c]:=F.ex;show#[f,fd,h1,h2,e,#[λvs H Q E z=>c.len vs H Q E (h vs H Q E z),λA outer s H a us vs Q E g i j r z=>c.run A outer s H a us vs Q E g i j r (h vs H Q E z)]]
def Ej(F:ϕ P w K mg base true k C x ps sp)(e:k<=k')(h:∀vs H Q E,sp' vs H Q E->sp vs H Q E):ϕ P w K mg base true k' C x ps sp':=by
 let#[f,fd,h1,h2,c]:=F.ex;let c:=c.mono e;show#[F.cls,f,fd,h1,h2,#[λvs H Q E z=>c.len vs H Q E (h vs H Q E z),λA outer s H a us vs Q E g i j r z=>c.run A outer s H a us vs Q E g i j r (h vs H Q E z)]]
inductive ug(K:ϩ)(mg:MG)(t:Tr):Sp
 |mk (b:δ) (cs:List ξ) (a:δ) (ws:List Str) (s e:Nat) (k:Int):vs=[.ref b,.ref a,.int s,.int k]->Ϗ H b cs->θ K H a (ws.map V.str)->↥ws<=4000->(∀z∈ws,↥z<=1000)->0<=k->k+t.dep<=20->Reads cs ws t s e->(∀p v H',ζ H H'->H' p=↑(.tup [.ref v,.int e])->dN mg H' t v (dB ws s e)->Q (.ref p) H')
inductive Ds(K:ϩ)(mg:MG)(t:Tr):Sp
 |mk (b:δ) (cs:List ξ) (a:δ) (ws:List Str) (s e:Nat) (k:Int):vs=[.ref b,.ref a,.int s,.int k]->Ϗ H b cs->θ K H a (ws.map V.str)->↥ws<=4000->(∀z∈ws,↥z<=1000)->1<=k->k+t.dep<=21->k<=20->Reads cs ws t s e->(∀p v H',ζ H H'->H' p=↑(.tup [.ref v,.int e])->dN mg H' t v (dB ws s e)->Q (.ref p) H')
theorem aey(T:Txt K mg)(sv:dU):Def P w K mg base true 8 "read_part" ["columns","words","start","within"] (ug K mg (.one sv)):=K8 (al6 T) λvs H Q E h=>by
 let#[b,cs,a,ws,s,e,k,rfl,f,g,i,j,l,o,c,q]:=h;show#[b,cs,a,ws,s,e,k,sv,rfl,f,g,i,j,c.1,c.2,λp H' m n=>?_];let#[v,h1,h2]:=n;show q p v H' m h1 h2
def Hg:Tr->Option Str
 |.one _=>none
 |.nt _=>some "not"
def anE(h:Reads cs ws t s e)(a:Hg t=↑z):s<60/\ws[s]?=↑z:=by
 cases t with
 |one _=>cases a
 |nt t=>cases a;show#[h.1,h.2.1]
def Dd(a:Hg t=↑z):z="not"\/z="both"\/z="either":=by
 cases t with
 |one _=>cases a
 |nt t=>cases a;show .inl rfl
def agJ(f:Hg t=↑z)(Z:3<=lv)(D:Def P w K mg base true lv "read_of_sieves" ["columns","words","start","within"] (Ds K mg t)):Def (lv+1) "read_part" ["columns","words","start","within"] (ug K mg t):=by
 exists lL,yr,hr,#[b,cs,a,ws,n,e,k,rfl,B,o,s,C,F,hk,g,q],2,1,g1.vg,g2.Ao,g3.v7,g4.uW,g5.xR,g6.Bp,g7.yj,g8.CT,g9.J7,D1 lV;let#[G,i]:=anE g f;let l:=(aak.mp i).1;let I:1<=t.dep:=by
  cases t with
  |one _=>cases f
  |nt t=>show 1<=t.dep+1;omega
 let e1:¬V.str z=V.str ("all":Str):=by obtain rfl|rfl|rfl:=Dd f<;>fin2
 let J:¬V.str z=V.str ("none":Str):=by obtain rfl|rfl|rfl:=Dd f<;>fin2
 let L:eU (V.str z) [V.str ("is":Str),V.str ("under":Str),V.str ("over":Str),V.str ("holds":Str)]=false:=by obtain rfl|rfl|rfl:=Dd f<;>fin2
 let M:eU (V.str z) [V.str ("not":Str),V.str ("both":Str),V.str ("either":Str)]=true:=by obtain rfl|rfl|rfl:=Dd f<;>fin2
 k_go;show#[a,ws,n,rfl,o,s,(),λO=>absurd #[l,G] O,λz' j _=>?_];rw[i]at j;cases j;w_up;show Δ ?_>>=Β (λh=>absurd h e1) (λ_=>?_)*>Α ?_;w_up;show Δ ?_>>=Β (λh=>absurd h J) (λ_=>?_)*>Α ?_;w_up;show Δ ?_>>=#[ω,λtp m=>?_]*>jK (ρ.of ο) ?_;rw[L];let u:ζ H (upd H tp (.tup [.str "is",.str "under",.str "over",.str "holds"])):=ζ.upd m;generalize upd H tp (.tup [.str "is",.str "under",.str "over",.str "holds"])=H2 at u⊢;lk;show Α ?_;w_up;show Δ ?_>>=#[ω,λx R=>?_]*>jK (ρ.of ο) ?_;rw[M];let y:ζ H2 (upd H2 x (.tup [.str "not",.str "both",.str "either"])):=ζ.upd R;generalize upd H2 x (.tup [.str "not",.str "both",.str "either"])=H3 at y⊢;lk;let c:=u<|>y;symm;lk;show #[b,cs,a,ws,n,e,k+1,rfl,B.same c,c.seq o,s,C,(),(),(),g,λp v H' U W Y=>q p v H' (c<|>U) W Y]
def aix(D1:Def P w K mg base true x "read_part" ["columns","words","start","within"] (ug K mg t))(h1:x<=lv)(h3:3<=lv):Def (lv+1) "read_of_sieves" ["columns","words","start","within"] (Ds K mg (.nt t)):=by
 exists zx,aa8,R,#[b,cs,a,ws,f,e,k,rfl,U,i,z,B,W,Y,Z,g,q],2,1,g1.aaT,g2.yj,g3.CT,DB uG;let hle:=g.le;let hd:k+(t.dep+1:Nat)<=21:=Y;let#[rP,j,C]:=g;let arG:=C.le;let sw:θ K H a (ws.map V.str):=i;let e1:(f:Int)+1=((f+1:Nat):Int):=()
 w_up;show Δ ?_>>=Β (λh=>absurd h ()) (λ_=>?_)*>Α ?_;k_go;show ϐ sw (v:=.str ("not":Str)) (aJ (by rw[adl,j];rfl)) ?_;w_up;show fY ?_;lk;rw[e1];show#[b,cs,a,ws,f+1,_,k,rfl,U,i,z,B,(),(),C,λp1 D H1 F l m=>?_]*>aG (ρ.of l) (Μ (Ε nd (Μ (Ε nd (aH ?_)))));w_up;show Δ ?_>>=cX ?_;symm;let M:mD P w K mg base true 2 "NotSieve" (η mg "NotSieve") ["self","text","one"] (JP K):=(aeH T).make T.akA T.al8;lk;show mj M R () (λ_=>rfl) Ο ?_>>=#[a,ws,f,e,rfl,F.seq i,z,B,(),(),λH2 I =>?_];lk;intro y dx n s Ϻ;show#[y,_,dx,[],_,_,rfl,ο,T.vq,T.Ue,T.Sx,by simp,rfl,?_]>>=#[ω,λp J=>?_];generalize L:upd (upd (upd (upd H2 dx (.own y)) y (.ins (η mg "NotSieve") dx [])) y _) y _=G at J⊢;let O:ζ H2 G:=λc o e=>by
  rw[<-L,ι (Ω e n),ι (Ω e n),ι (Ω e n),ι (Ω e s)];show e
 let ey:G y=↑(.ins (η mg "NotSieve") dx [("text",.str (dB ws f e)),("one",.ref D)]):=by
  rw[<-L];show ο
 let u:ζ G (upd G p (.tup [.ref y,.int e])):=ζ.upd J;show q p y _ (((F<|>I)<|>O)<|>u) ο #[dx,D,_,u<*ey,((m.same I).same O).same u]
theorem O5(T:Txt K mg):∀t:Tr,Def P w K mg base true (8+2*t.dep) "read_part" ["columns","words","start","within"] (ug K mg t)
 |.one sv=>aey T sv
 |.nt t=>by
   let h:=agJ T (z:="not") (lv:=8+2*t.dep+1) rfl () (aix T (lv:=8+2*t.dep) (O5 T t) (Ϭ _) ());let e:8+2*(Tr.nt t).dep=8+2*t.dep+1+1:=by show 8+2*(t.dep+1)=_;omega
   rw[e];show h
inductive Yx(mg:MG)(t:Tr):Sp
 |mk (b:δ) (cs:List ξ) (z:Str):vs=[.ref b,.str z]->Ϗ H b cs->↥z<=3000->(∀y∈ώ 32 z,↥y<=1000)->t.dep<=20->Reads cs (ώ 32 z) t 0 ↥(ώ 32 z)->(∀v H',ζ H H'->dN mg H' t v (dB (ώ 32 z) 0 ↥(ώ 32 z))->Q (.ref v) H')
def YC(t:Tr):Def (9+2*t.dep) "read_sieve" ["columns","text"] (Yx mg t):=by
 let l:9+2*t.dep=(8+2*t.dep)+1:=()
 rw[l];exists Bs,XR,B,#[b,cs,z,rfl,m,C,a,n,e,q],2,D.bj,1;let G:= @O5 P w K mg base T t;let o:=Le 32 z;w_up;f_tup;show bA F.plainAttrs_str F.slot_str_split F.type_str_split (h:=?_);cbv;show m_split (c:=32) λp u=>?_
 let#[f,ep,H,p,H1]:=Θ u (.lst ((ώ 32 z).map V.str));w_up;show fY ?_>>=#[b,cs,p,ώ 32 z,0,_,0,rfl,m.same f,θ.of ep,(),a,by decide,(),e,λI v H2 j g i=>?_]*>aG (ρ.of g) (Μ (Ε nd (Μ (Ε nd (aH ?_)))));let x:θ K H2 p ((ώ 32 z).map V.str):=θ.of (j<*ep);let y:↥((ώ 32 z).map V.str)=↥(ώ 32 z):=aau ..;w_up;cbv;rw[y];show Β (λh=>absurd h ()) (λ_=>?_);cbv;show q v H2 (f<|>j) i
def adz(xs:List V):dU->Bool
 |.all=>true
 |.none p=>decide ((xs[p]?).getD .non=.non)
 |.look l p v=> !decide ((xs[p]?).getD .non=.non)&&Bu l ((xs[p]?).getD .non) v
def Yi(xs:List V):dU->Prop
 |.all=>True
 |.none p=>p<↥xs
 |.look l p v=>∃x,xs[p]?=↑x/\(x=.non\/Li l x v)
def cW(xs:List V):Tr->Bool
 |.one s=>adz xs s
 |.nt t=> !cW xs t
def yM(xs:List V):Tr->Prop
 |.one s=>Yi xs s
 |.nt t=>yM xs t
def iT(mg:MG):Tr->δ
 |.one .all=>η mg "AllSieve"
 |.one (.none _)=>η mg "NoneSieve"
 |.one (.look l _ _)=>CG mg l
 |.nt _=>η mg "NotSieve"
inductive p8(K:ϩ)(mg:MG)(t:Tr):Sp
 |mk (a b:δ) (z:Str) (xs:List V):vs=[.ref a,.ref b]->dN mg H t a z->θ K H b xs->yM xs t->Q (.bl (cW xs t)) H
theorem dN.ins:∀{t:Tr}{a:δ}{z:Str},dN mg H t a z->∃dx fs,H a=↑(.ins (iT mg t) dx fs)/\fs.lookup ("lets":Str)=none
 |.one .all,a,z,h=>by let#[dx,h]:=h;show#[dx,_,h,rfl]
 |.one (.none p),a,z,h=>by let#[dx,h]:=h;show#[dx,_,h,rfl]
 |.one (.look l p v),a,z,h=>by let#[dx,h]:=h;show#[dx,_,h,rfl]
 |.nt t,a,z,h=>by let#[dx,b,y,h,_]:=h;show#[dx,_,h,rfl]
def ah6(T:Txt K mg)(l:Lk)(p:Nat)(v:V):ϕ P w K mg base true 3 (CG mg l) "lets" ["self","values"] (Gv K l (CG mg l)):=by
 cases l with
 |is=>show(Fb ((ai5 T.rT T.YL).meth T.rT T.agx) T.M9).meth T.rT T.ajJ
 |under=>show(Fb ((amj T T.qp T.ZQ).meth T.qp T.aiv) T.Qq).meth T.qp T.ai6
 |over=>show(Fb ((ac0 T T.p7 T.Od).meth T.p7 T.amJ) T.aa9).meth T.p7 T.aeE
def akG(M:ϕ P w K mg base true lv (iT mg t) "lets" ["self","values"] (p8 K mg t)):FD (lv+1) "lets" "NotSieve.lets" WK ["self","values"] (p8 K mg (.nt t)):=by
 exists ["self","values"],_,f,#[a,b,z,xs,rfl,#[dx,c,y,g,e],i,j,q];let#[dc,n,l,m]:=e.ins;symm;lk;show bD (pl:=_) f Ο (h:=?_)*>aF ?_;f_are;show#[a,_,_,_,_,rfl,g,T.vq,T.Sx,rfl,?_]*>#[c,iT mg t,dc,_,true,lv,_,p8 K mg t,rfl,l,m,M,Ϭ _,id,?_]>>=#[c,b,y,xs,rfl,e,i,j,?_]>>=q
theorem W0(T:Txt K mg):∀t:Tr,ϕ P w K mg base true (3+t.dep) (iT mg t) "lets" ["self","values"] (p8 K mg t)
 |.one .all=>Ej (ac1.meth T.xY T.adC) (by decide) λvs H Q E h=>by
   let#[a,b,z,xs,rfl,_,_,_,q]:=h;show#[_,_,rfl,q]
 |.one (.none p)=>Ej (adW.meth T.w6 T.ahP) (by show 1<=3+0;decide) λvs H Q E h=>by
   let#[a,b,z,xs,rfl,#[dx,c],f,g,q]:=h;let j:p<↥xs:=g;let e:xs[p]?=↑xs[p]:=aah j;show#[a,_,dx,_,p,b,xs,xs[p],rfl,c,T.w6,T.YG,rfl,f,e,?_];let q:Q (.bl (decide ((xs[p]?).getD .non=.non))) H:=q;rw[e]at q;show q
 |.one (.look l p v)=>Ej (ah6 T l p v) (by show 3<=3+0;decide) λvs H Q E h=>by
   let#[a,b,z,xs,rfl,#[dx,c],f,#[x,i,g],q]:=h;show#[a,dx,z,p,v,b,xs,x,rfl,c,f,i,g,?_];let q:Q (.bl (!decide ((xs[p]?).getD .non=.non)&&Bu l ((xs[p]?).getD .non) v)) H:=q;rw[i]at q;show q
 |.nt t=>(akG T (W0 T t)).meth T.vq T.aeX
def Mv:Def 2 "read_order_word" ["columns","word"] (WD (.ref (η mg "NoOrder"))):=by
 exists VP,Mv,G,#[a,cs,z,rfl,m,n,g,q],I.Zu,J.Om,2,L oU,1;let o:=nG z ↑1 none;let e1:("+":Str).cps.toList=[43]:=by fin2
 let i:("-":Str).cps.toList=[45]:=by fin2
 let es:(ό z none ↑1).cps.toList=z.cps.toList.take 1:=xx z 1;let e:∀c:Nat,z.cps.toList.take 1=[c]↔z.cps.toList[0]?=↑c:=λc=>by
  cases z.cps.toList with
  |nil=>simp
  |cons x r=>simp
 let k1:V.str (ό z none ↑1)=V.str "+"↔z.cps.toList[0]?=↑43:=by
  rw[<-e];constructor
  .intro h;let h2:ό z none ↑1=ν "+":=by injection h
   rw[<-es,h2,e1]
  .intro h;let h2:ό z none ↑1=ν "+":=gK (by rw[es,h,e1]);rw[h2]
 let k2:V.str (ό z none ↑1)=V.str "-"↔z.cps.toList[0]?=↑45:=by
  rw[<-e];constructor
  .intro h;let h2:ό z none ↑1=ν "-":=by injection h
   rw[<-es,h2,i]
  .intro h;let h2:ό z none ↑1=ν "-":=gK (by rw[es,h,i]);rw[h2]
 w_up;cbv;show gq () ?_;cbv;show gq () ?_;cbv;show#[ω,λp s=>?_];let#[f,ep,H,p,u]:=Θ s (.tup [.str "+",.str "-"]);show Su (ρ.of ep) ?_;let v:eU (V.str (ό z none ↑1)) [.str "+",.str "-"]=decide (z.cps.toList[0]?=↑43\/z.cps.toList[0]?=↑45):=by
  let j:∀y:Str,fX (V.str y) (V.str (ό z none ↑1))=decide (V.str (ό z none ↑1)=V.str y):=λy=>by
   rw[ahs,decide_eq_true_eq];constructor
   .intro h;have:V.str y=V.str (ό z none ↑1):=by simpa [fX]using h
    show this.symm
   .intro h;rw[h];simp[fX]
  rw[ahs,decide_eq_true_eq, <-k1, <-k2];show((fX _ _||(fX _ _||false))=true)↔_;rw[j,j,as3,aqP,decide_eq_true_eq,decide_eq_true_eq]
 rw[v];cbv;show gM (λh=>?_) (λh=>?_)
 .f_len;show nH Ο T.Dh ?_;cbv;show Z1 ?_;f_are;show#[z,rfl,(),_,4000,rfl,n,(),?_];cbv;intro B;cbv;show#[by rw[hsz];simp,g u f (if_neg λx=>h x.1)]
 .show Α ?_;cbv;show#[a,cs,_,rfl,m.same f,λH1 C =>?_];let l :=f<|>C;cbv;show Β (λh2=>?_) (λh2=>?_)
  .f_len;show nH Ο T.Dh ?_;cbv;show Z1 ?_;f_are;show#[_,rfl,(),_,4000,rfl,(),(),?_];cbv;intro B;cbv;show#[by rw[hsz];simp,g H1 l (if_neg λx=>x.2 h2)]
  .show Α ?_;cbv;show#[ω,λt D=>?_]*>q t _ _ (l<|>(ζ.upd D)) (if_pos #[h,h2]) ?_;rw[ο];let F:decide (V.str (ό z none ↑1)=V.str ("+":Str))=decide (z.cps.toList[0]?=↑43):=decide_eq_decide.mpr k1;rw[F]
def nq:Def 3 "read_order" ["columns","text"] (Z8 (.ref (η mg "NoOrder"))):=by
 show Γ (S:=QR) T.nq (λf _ _ _ s H vs Q E hr h=>?_);intro X _;let#[a,cs,z,rfl,hC,hz,j,q]:=h;let g1:=T.agt;let n1:=T.bj;let n2:=T.ZV;let nd:=QR.nd;let ni:(["word","columns"]:List Str).Nodup:=by fin2
 let aY:(["name","up"]:List Str).Nodup:=by fin2
 let D1:=!Mv;let hsz:=Ϯ;unfold bx at j q;w_up;cbv;show Β (λh=>?_) (λh=>?_)
 .let h':z="":=by injection h
  cbv;show#[ω,λp L=>?_]*>q p [] _ (ζ.upd L) (if_pos h') L #[[],ο,.nil]
 .let h':¬z="":=λe=>h (by rw[e])
  rw[if_neg h']at j q;show Α ?_;w_up;f_tup;show bA PySem.F.plainAttrs_str PySem.F.slot_str_split PySem.F.type_str_split (h:=?_);cbv;show m_split (c:=32) λp1 U=>?_
  let W:=Le 32 z;let n:=λy=> @am2 32 z y
  generalize ώ 32 z=ws at j q W n⊢;let#[B,tE,H,p1,H1]:=Θ U (.lst (ws.map V.str));let M:↥(ws.map V.str)=↥ws:=aau ..;let S1:θ K H1 p1 (ws.map V.str):=θ.of tE;cbv;rw[M];show Β (λh2=>?_) (λh2=>?_)
  .f_len;show nH Ο T.Dh ?_;cbv;show#[by rw[hsz];simp,j H1 B (if_pos ())]
  .rw[if_neg ()]at j q;show Α ?_;w_up;show amD ["word","columns"] (σ':=[none,↑(.ref a)]) (by rfl) Ο rfl rfl (by rfl) (by rfl) (bh (ς Bm)) (by intro _;rfl) nd (by rfl) (by rfl) ?_;cbv;show#[p1,_,rfl,S1,by rw[M];omega,λD=>∃o,D=[o,↑(.ref a)],λE' i v H'=>∃y,ws[i]?=↑y/\∃o,il cs y=↑o/\∃t,v=.ref t/\t≠E'/\H' t=↑(.tup [.str o.1,.bl o.2]),#[none,rfl],λE' i v H2 Y ys _ hk L=>?_,λfp E' C s3 H0 F i D x H2 Y xo Z hi m Τ G hG=>?_,λE' H2 xs Z hl O e2 Τ =>?_]
   .let#[y,a1,o,a2,t,a3,a4,a5]:=L;show#[y,a1,o,a2,t,a3,a4,hk t _ a4 a5]
   .let#[o,rfl]:=m;let#[O,rfl]:=hG;rw[adl]at O;let#[y,ey,rfl]:=aoq.mp O;let hyl:=n y (aa1 ey);show Ε ni ?_;cbv;let g:=B<|>Τ;show#[a,cs,y,rfl,hC.same g,(),λH' l e=>?_,λt o H' l e et=>?_]
    .show j H' (g<|>l) (by rw[OJ (aa1 ey) e])
    .let#[ys,ab,_]:=G;show#[#[_,rfl],#[y,ey,o,e,t,rfl,λz=>?_,et],l];rw[z,l<*ab]at et;cases et
   .let#[os,eo,ha]:=Rf (f:=il cs) (R:=xM H2) (ws:=ws) (xs:=xs) (by rw[hl,M]) λi v e=>by
     let#[y,a1,o,a2,t,a3,a4,a5]:=O i v e;show#[y,a1,o,a2,t,a3,a5]
    rw[eo]at j q;let ac:=ha.len;let g:=B<|>Τ;let ae:H E'=none:=by
     cases e:H E' with
     |none=>rfl
     |some u=>rw[B<*e]at Z;cases Z
    w_up;show qu ["name","up"] (σ':=[none,none]) (bh (ς Bm)) nd ?_;cbv;show#[E',xs,rfl,θ.of e2,by rw[hl,M];omega,λD=>∃o1 o2,D=[o1,o2],λE2 i u H'=>∃c,os[i]?=↑c/\u=.str c.1,#[none,none,rfl],λE2 i u H2 Y ys _ _ p=>p,λfp E2 C s3 H0 i D x H4 Y aN hi m l G hG=>?_,λE2 H4 ys aN ϻ af e4 l =>?_]
    .let#[o1,o2,rfl]:=m;let#[aa,rfl]:=hG;let#[c,hc,t,rfl,ht]:=ha.get aa;show aG (ρ.of (l<*ht)) (Μ (Ε aY (Μ (Ε aY (aH ?_)))));cbv;show#[#[_,_,rfl],#[c,hc,rfl],ζ.refl _]
    .let ey:=fL (ys:=os) (λc=>V.str c.1) (by rw[ϻ,ac]) af;let gn:ys=(os.map Prod.fst).map V.str:=by rw[ey,afR];rfl
     subst gn;let I:↥(os.map Prod.fst)<=4000:=by simp;omega
     w_up;cbv;show aaV (by rfl) (θ.of e4) I λS hS=>?_
     cbv;show aaE ο I ?_;cbv;show xg (.inl (θ.of ((ζ.upd hS)<*e4))) ?_;cbv;let J:ζ H2 (upd H4 S (mU X S (os.map Prod.fst))):=l<|>(ζ.upd hS);let O2:=Js _ (os.map Prod.fst) rfl;generalize upd H4 S (mU X S (os.map Prod.fst))=H5 at J⊢;rw[aau (f:=V.str)];show gM (λh3=>?_) (λh3=>?_)
     .let h4:¬(os.map Prod.fst).Nodup:=λz=>h3 (by rw[O2.mpr z])
      f_len;show nH Ο T.Dh ?_;cbv;show#[by rw[hsz];simp,j H5 (g<|>J) (if_neg h4)]
     .let h4:(os.map Prod.fst).Nodup:=O2.mp (by injection h3 with h5;omega);show Α ?_;cbv;show q E' os H5 (g<|>J) (if_pos h4) ae #[xs,J<*e2,ha.imp λu c r=>r.same J]
abbrev Row:=Int×List V
def d9(H:Hp)(v:V)(r:Row):=∃t l,v=.ref t/\H t=↑(.tup [.int r.1,.ref l])/\H l=↑(.lst r.2)
def d9.same(h:d9 H v r)(s:ζ H H'):d9 H' v r:=by
 let#[t,l,e,a,c]:=h;show#[t,l,e,s<*a,s<*c]
def cG(H:Hp)(a:δ)(rs:List Row):=∃vs:List V,H a=↑(.lst vs)/\χ (d9 H) vs rs
def cG.same(h:cG H a rs)(s:ζ H H'):cG H' a rs:=by
 let#[vs,e,q]:=h;show#[vs,s<*e,q.imp λa b r=>r.same s]
def ao(cs:List ξ)(r:Row):Prop:=χ (λc x=>ak c.2 x) cs r.2
def ak.cu(h:ak c x)(g:ak c y):cu x y:=by
 obtain rfl|⟨e,i,rfl,_⟩|⟨e,z,rfl,_⟩:=h
 .show .inl rfl
 .obtain rfl|⟨_,j,rfl,_⟩|⟨a,z,rfl,_⟩:=g
  .show .inr (.inl rfl)
  .show .inr (.inr (.inl #[_,_,rfl,rfl]))
  .show absurd e a
 .obtain rfl|⟨a,j,rfl,_⟩|⟨_,z,rfl,_⟩:=g
  .show .inr (.inl rfl)
  .show absurd a e
  .show .inr (.inr (.inr #[_,_,rfl,rfl]))
def tY(cs:List ξ)(z:Str):Str:=match cs[ϣ cs z]? with
 |some c=>c.2
 |none=>ν ""
def iz(cs:List ξ)(os:List Ord)(xs:List V):Prop:=χ (λ(o:Ord) x=>ak (tY cs o.1) x) os xs
theorem qw(h:ao cs r):∀{os:List Ord},fQ cs os->iz cs os (ϔ cs os r.2)
 |[],_=>.nil
 |o::os,a=>by
  show .cons ?_ (qw h λx f=>a x (by simp[f]));let#[c,e,_]:=MJ (a o (by simp));let#[v,g,i]:=h.get e;show ak (tY cs o.1) (jk cs r.2 o.1);unfold tY jk;rw[e,g];show i
def iz.cu{os:List Ord}{xs ys:List V}(h:iz cs os xs)(g:iz cs os ys):↥xs=↥os/\↥ys=↥os/\∀(i:Nat) x y,xs[i]?=↑x->ys[i]?=↑y->scalar x=true/\scalar y=true/\cu x y:=by
 show#[h.len.symm,g.len.symm,λi x y e1 f=>?_];let#[o,j,c]:=h.get' e1;let#[o',a,e]:=g.get' f;rw[j]at a;cases a;show#[c.sc,e.sc,c.cu e]
inductive Ct
 |start
 |fin
 |at_ (ahead:Bool) (xs:List V) (n:Int)
def El(os:List Ord):Ct->List V->Int->Bool
 |.at_ true ys k,xs,n=>jD os xs ys n k
 |.at_ false ys k,xs,n=> !jD os ys xs k n
 |_,_,_=>false
def sW(cs:List ξ)(os:List Ord):Ct->Prop
 |.at_ _ xs _=>iz cs os xs
 |_=>True
def pB:V->List V
 |.non=>[]
 |x=>[x]
def qZ(rs:List Row)(q:List Nat):List Row:=q.map λi=>rs.getD i (0,[])
theorem HR(h:χ R ws rs):∀{q:List Nat},(∀i∈q,i<↥ws)->χ R (dJ ws q) (qZ rs q)
 |[],_=>.nil
 |i::q,a=>by
  let hi:=a i (by simp);let e:ws[i]?=↑(ws[i]'hi):=aah hi;let#[r,c,f]:=h.get e;show χ R (ws.getD i .non::dJ ws q) (rs.getD i (0,[])::qZ rs q);rw[abP,abP,e,c];show .cons f (HR h λj g=>a j (by simp[g]))
theorem map_getD{α:Type}(d:α):∀(l:List α),(ado ↥l).map (λi=>l.getD i d)=l
 |[]=>rfl
 |a::l=>by
  rw[abU,atc,aen,afR];show a::_=_
  congr 1
  show map_getD d l
def Oz(h:ik ↥rs lt q):(qZ rs q).Perm rs:=by
 have:=h.1.map λi=>rs.getD i (0,[])
 rw[map_getD]at this;show this
def aoI{rs:List Row}(h:i<↥rs):rs.getD i (0,[])=rs[i]:=by
 rw[abP,aah h];rfl
def sI(rs:List Row)(p:Nat)(i:Nat):List V:=pB (((rs.getD i (0,[])).2[p]?).getD .non)
def acN{o:Ord}(a:∃c∈cs,c.1=o.1)(l:∀r∈rs,ao cs r):rM (sI rs (ϣ cs o.1)):=by
 let f:∀i,ak (tY cs o.1) (((rs.getD i (0,[])).2[ϣ cs o.1]?).getD .non):=λi=>by
  by_cases hi:i<↥rs
  .let m:rs.getD i (0,[])∈rs:=by rw[aoI hi];show ajf hi
   cases qw (os:=[o]) (l _ m) (λp q=>by cases adF.mp q;show a)with|cons h _=>show h
  .let e:rs.getD i (0,[])=(0,[]):=by rw[abP,arK ()];rfl
   rw[e];show .inl rfl
 show#[λi=>?_,?_]
 .show oX (pB _);obtain e|⟨_,n,e,_⟩|⟨_,z,e,_⟩:=f i<;>rw[e]
  .show .inl rfl
  .show .inr #[_,rfl]
  .show .inr #[_,rfl]
 .by_cases j:tY cs o.1="number"
  .show .inl λi x h=>?_
   let h:pB (((rs.getD i (0,[])).2[ϣ cs o.1]?).getD .non)=[x]:=h;obtain e|⟨_,n,e,_⟩|⟨g,z,e,_⟩:=f i
   .rw[e]at h;cases h
   .rw[e]at h;cases h;show#[n,rfl]
   .show absurd j g
  .show .inr λi x h=>?_
   let h:pB (((rs.getD i (0,[])).2[ϣ cs o.1]?).getD .non)=[x]:=h;obtain e|⟨g,n,e,_⟩|⟨_,z,e,_⟩:=f i
   .rw[e]at h;cases h
   .show absurd g j
   .rw[e]at h;cases h;show#[z,rfl]
inductive abk(K:ϩ):Sp
 |mk (t:δ) (n:Int) (x:V):vs=[.ref t]->H t=↑(.tup [.int n,x])->Q (.int n) H
def Eb:Def 1 "number_of" ["told"] (abk K):=by
 exists ["told"],Eb,c,#[t,n,x,rfl,a,q];symm;lk;show ϋ (ρ.of a) (show Ι [V.int n,x] 0=↑(V.int n)from rfl) ?_*>q
inductive aba(K:ϩ):Sp
 |mk (x:V):vs=[x]->(∀p H',ζ H H'->H p=none->H' p=↑(.tup (pB x))->Q (.ref p) H')
def Jt:Def 1 "rank_of" ["value"] (aba K):=by
 exists ["value"],Jt,c,#[x,rfl,q],1;symm;lk;show Β (λe=>?_) (λe=>?_)
 .lk;show#[ω,λp a=>?_];subst e;show q p _ (ζ.upd a) a ο
 .lk;show#[ω,λp a=>?_];let ex:pB x=[x]:=by
   cases x with
   |non=>show absurd rfl e
   |_=>rfl
  show q p _ (ζ.upd a) a (by rw[ex];show ο)
inductive Ia(K:ϩ):Sp
 |mk (p:δ) (i:Nat) (up:Bool) (ws:List V) (rs:List Row):vs=[.ref p,.int i,.bl up]->H p=↑(.lst ws)->χ (d9 H) ws rs->↥rs<64->(∀r∈rs,i<↥r.2)->rM (sI rs i)->H (b8 K "sorted_by")=↑(.tbl iK)->(∀q pl H',ζ H H'->H pl=none->ik ↥rs (oZ (!up) λa b=>dg (sI rs i a) (sI rs i b)) q->H' pl=↑(.lst (dJ ws q))->Q (.ref pl) H')
def DP(R:dH K mg base "sorted_by"):Def 6 "sorted_by" ["rows","place","up"] (Ia K):=by
 show ajj T.DP R NK (λ_ _ _ _ _ _ us S=>by let#[_,_,_,rfl]:=Uh S;rfl) (λvs H Q E h=>by let#[p,i,up,ws,rs,rfl,_]:=h;rfl) (λf A outer s H vs Q E U h=>?_);let#[p,i,up,ws,rs,rfl,hp,D,h64,F,O,hP,q]:=h;let nd:=NK.nd;let n1:=T.zV;let G:=D.len;let hsz:=Ϯ;w_up;show af7 (c:=iU K "sorted_by") (P:=b8 K "sorted_by") (ps:=iK) (j:=3) (qual:="sorted_by.<locals>.rank") (clos:=[("place",⇑s+1)]) nd (by rfl) (by rfl) (by rfl) R.code R.bm (by rfl) hP (ab8 _ _) (by change (ν "sorted_by"++ν ".<locals>.")++ν "rank"=_;fin2) (by rfl) (by rfl) (by rfl) ?_;intro C c' oc doc pm ctv vs t' H1 m hfr Y n Z hq;let#[u1,n]:=n;let hK:∀(X:Cx)(σ:_L.St),X=fD true P w K mg base abl "sorted_by" (ς CJ) f (.ref (iU K "sorted_by")) A outer s H E->σ=[↑(.ref p),↑(.int i),↑(.bl up),↑(.ref C)]->xG X σ (.ref C) ws H1 (ZL (sI rs i)):=by
  intro X σ eX aa;subst eX;subst aa;show#[λk v H2 H3 J h=>?_,λk x u ϵ o H2 hx ru J I=>?_]
  .let#[a,e,h]:=h;show#[a,e,J<*h]
  .let#[r,B,t,l,rfl,ht,S]:=D.get hx;let hkl:=(aak.mp B).1;let L:=F r (aa1 B);let ϥ:=m<|>J;show akS (j:=1) (v:=.ref t) (z:=.int i) (x:="told") (y:="place") I (J<*Y) (J<*n) Z hq U.in1.in1.depth (λ_ _ _ _ _=>rfl) (by rfl) (by rfl) (by rfl) (by rfl) (by rfl) (by fin2) (λa ha=>?_) (by rfl) (by rfl) (by rfl) (by rfl) ru ?_
   .let h:=PySem.mem_of_lookup ha;change (a,NameKind.free)∈[(ν "told",NameKind.local),(ν "place",NameKind.free),(ν "rank_of",NameKind.globalImplicit)]at h;obtain e|h:=aaF.mp h
    .cases e
    .obtain e|h:=aaF.mp h
     .show congrArg Prod.fst e
     .cases adF.mp h
   .let D1:= @Jt P w K mg base T;let hr':=((U.in1).in1).deeper (W.envX "sorted_by.<locals>.rank" (ς (xP (Ψ CJ) 0)) ⇑o C (.ref c') [("place",⇑s+1)]);symm;lk;show ϋ (ρ.of (ϥ<*ht)) (show Ι [V.int r.1,V.ref l] 1=↑(V.ref l)from rfl) ?_>>=ϐ (θ.of (ϥ<*S)) (aJ (aah L)) ?_>>=#[_,rfl,λa H3 s3 ha h3=>?_]*>#[s3,a,rfl,?_];rw[h3];unfold sI;rw[abP,B];show _=↑(HO.tup (pB ((r.2[i]?).getD .non)));rw[aah L];rfl
 let hu:=U.in1.in1.units0;change Ζ _ _ _ [↑(.ref p),↑(.int i),↑(.bl up),↑(.ref C)] H1;w_up;show Δ ?_;lk;cases up with
 |true=>
  walk_at"t";symm;show Xg n1 ?_>>=#[p,C,ws,_,_,rfl,rfl,θ.of (m<*hp),(),Td O,hK _ _ rfl rfl,abg hu O,λpl H2 qq o g M=>?_];rw[G]at M;show q qq pl _ ((m<|>o)<|>(ζ.upd g)) ((m<|>o).free g) M ο
 |false=>
  walk_at"t";show Α ?_;symm;show ac5 (b:=true) (by rfl) n1 (by rfl) ?_>>=#[rfl,p,C,ws,_,_,rfl,rfl,θ.of (m<*hp),(),Td O,hK _ _ rfl rfl,abg hu O,λpl H2 qq o g M=>?_];rw[G]at M;show q qq pl _ ((m<|>o)<|>(ζ.upd g)) ((m<|>o).free g) M ο
def gB(q:δ)(H H':Hp)(v:V)(r:Row):=∃t l,v=.ref t/\H t=none/\H l=none/\l≠q/\H' t=↑(.tup [.int r.1,.ref l])/\H' l=↑(.lst r.2)
def gB.row(h:gB q H H' v r):d9 H' v r:=by
 let#[t,l,e,_,_,_,h1,h2]:=h;show#[t,l,e,h1,h2]
def gB.same(h:gB q H H' v r)(s:ζ H' H2):gB q H H2 v r:=by
 let#[t,l,e,a,b,c,h1,h2]:=h;show#[t,l,e,a,b,c,s<*h1,s<*h2]
def gB.turn(h:gB q H H' v r)(g:H' f=none):gB f H H' v r:=by
 let#[t,l,e,a,b,c,h1,h2]:=h;show#[t,l,e,a,b,(λz=>by rw[z,g]at h2;cases h2),h1,h2]
inductive yS(K:ϩ):Sp
 |mk (c b p:δ) (cs:List ξ) (os:List Ord) (rs:List Row):vs=[.ref c,.ref b,.ref p]->Ϗ H c cs->aW H b os->cG H p rs->↥cs<=6->↥os<=6->fQ cs os->↥rs<64->(∀r∈rs,ao cs r)->H (b8 K "sorted_by")=↑(.tbl iK)->(∀q ws ls H',ζ H H'->H q=none->H' q=↑(.lst ws)->χ (gB q H H') ws ls->ls.Perm rs->Q (.ref q) H')
def zc(hN:dH K mg base "sorted_by"):Def 8 "line_of" ["columns","order","rows"] (yS K):=by
 show Γ (S:=MN) T.zc (λf Ϲ A outer s H vs Q E a h=>?_);let#[c,b,p,cs,os,rs,rfl,hC,#[ov,hb,U],#[ws,hp,W],hc6,nY,af,h64,Y,hP,q]:=h;let nd:=MN.nd;let n1:=T.zV;let n2:=T.Y9;let n3:=T.km;let hwl:=W.len;let hol:=U.len;let hsz:=Ϯ;let aY:(["row","values"]:List Str).Nodup:=by fin2
 let D1:=!Eb;let D2:=!oU;let D3:Def P w K mg base true 6 "sorted_by" ["rows","place","up"] (Ia K):=DP T hN;w_up;f_tup;show Xg n1 ?_*>jm ["row","values"] (σ':=[none,none]) (bh (ς xX)) ?_>>=#[p,ws,rfl,θ.of hp,(),λτ=>∃o1 o2,τ=[o1,o2],λE2 k u H'=>∃r,rs[k]?=↑r/\gB E2 H H' u r,#[none,none,rfl],λE2 k u H2 Z ys hE hk p=>?_,λfp E2 C s3 H0 k τ x H4 H5 aN hi ag Φ I hG=>?_,λq0 H2 us hq0 O ah e2 s2=>?_]
 .let#[r,a,t,l,e,h1,h2,h3,h4,h5]:=p;show#[r,a,t,l,e,h1,h2,h3,hk _ _ (λz=>by rw[z,hE]at h4;cases h4) h4,hk _ _ h3 h5]
 .let#[o1,o2,rfl]:=ag;let#[aa,rfl]:=hG;let#[r,a,t,l,rfl,ht,hl]:=W.get aa;let#[ys,I]:=I;show aG (ρ.of (Φ<*ht)) (Μ (Ε aY (Μ (Ε aY (aH ?_)))))>>=jb (.inl (θ.of (Φ<*hl))) λg O=>?_
  let#[D,e5]:=Θ O (.lst r.2);let nl:g≠E2:=λe=>by rw[e,I]at O;cases O
  generalize upd H4 g (.lst r.2)=H5 at D e5⊢;lk;show#[ω,λt2 cH=>?_];let s6:ζ H5 (upd H5 t2 (.tup [.int r.1,.ref g])):=ζ.upd cH;show#[#[_,_,rfl],#[r,a,t2,g,rfl,(Φ<|>D).free cH,Φ.free O,nl,ο,s6<*e5],D<|>s6]
 let J:χ (gB q0 H H2) us rs:=uc () λk r a=>by
  let hk:k<↥us:=by have:=(aak.mp a).1;omega
  let#[r',ab,hn]:=ah k _ (aah hk);rw[a]at ab;cases ab;show#[_,aah hk,hn]
 let pR:=J.len;let#[fa,ai,Cr]:=acI (σ:=[↑(.ref c),↑(.ref b),↑(.ref p),none,none,none]) (X:=fD true P w K mg base Zh "line_of" (ς xX) f Ϲ A outer s H E) (H:=H2) (xs:=us) (KV:=Ru λi=>(rs.getD i (0,[])).1) D1 (a.mono (show 1+2<=7 by decide)) (λi v H H' _ h=>h) (λi x H' hx n=>by
  let#[r,a,t,l,rfl,_,_,_,ht,hl]:=J.get hx;show#[t,r.1,.ref l,rfl,n<*ht,ζ.refl _,?_];show V.int r.1=V.int (rs.getD i (0,[])).1;rw[abP,a];rfl)
 show aef ai (by rfl) (by decide) ?_*>#[q0,fa,us,_,_,rfl,rfl,θ.of e2,(),amA,Cr,ak3,λp1 Z m s3 F R=>?_];rw[pR]at R;let j:χ (gB p1 H (upd Z p1 (.lst (dJ us m)))) (dJ us m) (qZ rs m):=(HR J λi hi=>by rw[pR];show HH R hi).imp λu r z=>((z.same s3).turn F).same (ζ.upd F)
 let y:=Oz R;let az:ζ H (upd Z p1 (.lst (dJ us m))):=(s2<|>s3)<|>(ζ.upd F);let al:H p1=none:=(s2<|>s3).free F;let tE:(upd Z p1 (.lst (dJ us m))) p1=↑(.lst (dJ us m)):=ο;generalize upd Z p1 (.lst (dJ us m))=H4 at j az tE⊢;generalize dJ us m=w1 at j tE;generalize qZ rs m=l1 at j y;w_up;show Rb (by walk_at"po") (by rfl) (by rfl) n2 (by rfl) ?_>>=#[b,ov,rfl,θ.of (az<*hb),λi σ H'=>(∃o4 o5 G L g,σ=[↑(.ref c),↑(.ref b),↑(.ref p),↑(.ref G),o4,o5]/\ζ H H'/\H G=none/\H' G=↑(.lst L)/\χ (gB G H H') L g/\g.Perm rs),?_,λi σ' H' _ B=>?_,λi x σ' H' hi hx B=>?_,λσ' H' B=>?_]
 .show#[none,none,p1,w1,l1,rfl,az,al,tE,j,y]
 .let#[_,_,_,_,_,_,n,_]:=B;show θ.of (n<*hb)
 .let#[o4,o5,G,L,g,rfl,n,ac,Ji,hA,jn]:=B;let#[o,ho,t,rfl,ht]:=U.get hx;let M:=af o (aa1 ho);let hlt:=sX M;let O:↥g=↥rs:=jn.length_eq;let am:=hA.len;let Ox:∀r∈g,ao cs r:=λr a=>Y r (jn.mem_iff.mp a)
  show aG (ρ.of (n<*ht)) (Μ (Ε nd (Μ (Ε nd (aH ?_)))));f_len;f_tup;lk;show#[c,cs,o.1,rfl,hC.same n,λH5 D=>?_];rw[uY 0 M,aqB];lk;show#[G,ϣ cs o.1,o.2,L,g,rfl,D<*Ji,hA.imp λu r z=>(z.same D).row,(),λr a=>by have:=(Ox r a).len;omega,acN M Ox,D<*(n _ _ hP),λm pl H6 s6 ae R ap=>?_];let rR:=(n<|>D)<|>s6;let ar:H pl=none:=(n<|>D).free ae;show#[_,_,pl,dJ L m,qZ g m,rfl,rR,ar,ap,(HR hA λi hi=>by rw[am];show HH R hi).imp λu r z=>?_,(Oz R)<|>jn]*>((z.same D).turn ae).same s6
 .let#[o4,o5,G,L,g,rfl,n,ac,Ji,hA,jn]:=B;symm;lk;show q G L g H' n ac Ji hA jn
def jQ(h:Ρ cs=true):1<=↥cs/\↥cs<=6:=by
 unfold Ρ at h;simp only[aaK,decide_eq_true_eq]at h;show h.1.1
inductive Zt(K:ϩ):Sp
 |mk (a:δ) (ns:List Int) (k:Int) (b:δ) (cs:List ξ):vs=[.ref a,.int k,.ref b]->θ K H a (ns.map V.int)->↥ns<=63->0<=k->k<=40000->Ϗ H b cs->Ρ cs=true->(∀p os H',ζ H H'->H p=none->aW H' p os->↥os<=4->fQ cs os->(os.map Prod.fst).Nodup->Q (.ref p) H')
def Ip:Def 2 "_law_order" ["_law_script","_law_k","_law_columns_here"] (Zt K):=by
 exists QF,Ip,hr,#[a,ns,k,b,cs,rfl,Z,hl,hk0,hk1,#[vs,hb,D],hok,q],2,n1.qt,n2.bj,n3.Mi,1,D1 gD;let hvl:=D.len;let#[c1,c6]:=jQ hok;let uh:θ K H b vs:=θ.of hb;k_go;show#[a,ns,k+1,_,rfl,Z,hl,(),(),(),?_];let a0:=aD ns (k+1) (m:=(↥vs:Int)) ();let a1:=aA ns (k+1) (m:=(↥vs:Int)) ();generalize Υ ns (k+1) (↥vs:Int)=fs at a0 a1⊢;k_go;show#[ω,λp hp=>?_];let#[U,ep,H,p,H0]:=Θ hp (.lst []);w_up;show wD (by walk_at"po") (by rfl) (by rfl) n1 (by rfl) ?_;let ao7:=U.seq uh;lk;show Gs ?_;lk;let vm:∀x:Int,x=(if(↥vs:Int)+1<5 then(↥vs:Int)+1 else 5)->1<=x/\x<=5:=λx e=>by
  rw[e];split <;>omega
 generalize G:(if(↥vs:Int)+1<5 then(↥vs:Int)+1 else 5)=mm;let#[m1,m5]:=vm mm G.symm;show#[a,ns,k,mm,rfl,U.seq Z,hl,(),(),(),?_];let b0:=aD ns k (m:=mm) ();let b1:=aA ns k (m:=mm) ();generalize Υ ns k mm=m at b0 b1⊢;lk;show#[(),(),λi σ H'=>(∃o1 o2,σ=[↑(.ref a),↑(.int k),↑(.ref b),↑(.int fs),↑(.ref p),o1,o2])/\ζ H H'/\∃os:List Ord,aW H' p os/\↥os=i/\fQ cs os/\(os.map Prod.fst).Nodup/\∀o∈os,∃(f q:Nat),f<i/\(fs+(f:Int)) % (↥vs:Int)=(q:Int)/\(cs.map Prod.fst)[q]?=↑o.1,
  #[#[none,none,rfl],U,[],#[[],ep,.nil],rfl,λo ho=>by simp at ho,by simp,λo ho=>by simp at ho],λi σ H' hi hP=>?_,λσ H' hP=>?_]
 .let#[#[o1,o2,rfl],B,os,#[ws,g,I],l,n,s,J]:=hP;let hwl:=I.len;let hi':(i:Int)<m:=()
  let aa:=B.seq uh;show Ε nd ?_;k_go;let e0:=ahe (fs+(i:Int)) (show(↥vs:Int)≠0 by omega);let e1:=agE (fs+(i:Int)) (show(0:Int)<(↥vs:Int)by omega);let#[j,ej]:=aa4 e0;rw[ej]at e1⊢;let hj:j<↥cs:=()
  let v:cs[j]?=↑cs[j]:=aah hj;let Jp:(cs.map Prod.fst)[j]?=↑cs[j].1:=by rw[adl,v];rfl
  let C:∀o∈os,¬o.1=cs[j].1:=λo ho e=>by
   let#[f,q,h1,h2,z]:=J o ho;rw[e, <-Jp]at z;let ab:(cs.map Prod.fst).Nodup:=by
    unfold Ρ at hok;simp only[aaK,decide_eq_true_eq]at hok;show hok.2
   let L:j<↥(cs.map Prod.fst):=by rw[aau];show hj
   let ac:q<↥(cs.map Prod.fst):=by
    rw[aah L]at z;show(aak.mp z).1
   rw[aah L,aah ac]at z;let ae:=(as7 ab).mp (Option.some.inj z);let h5:(fs+(i:Int)) % (↥vs:Int)=(fs+(f:Int)) % (↥vs:Int):=by rw[ej,h2,ae]
   let h6:=Int.emod_eq_emod_iff_emod_sub_eq_zero.mp h5;rw[show fs+(i:Int)-(fs+(f:Int))=(i:Int)-f by omega,apP () (by
    have:mm<=(↥vs:Int)+1:=by rw[<-G];split <;>omega
    omega)]at h6
   omega
  let M:cs[j]∈cs:=ajf hj;let#[cv,gc,t,rfl,ht]:=D.get' v;generalize cs[j]=cc at v M ht Jp C;show ϐ aa (aJ gc) ?_>>=ϋ (ρ.of (B<*ht)) (show Ι [V.str cc.1,V.str cc.2] 0=↑(V.str cc.1)from rfl) ?_;f_len;show Ϛ (bA F.plainAttrs_list F.slot_list_append F.type_list_append (h:=?_));f_are;show#[.inl #[rfl,_,θ.of g],?_]>>=#[a,ns,_,2,rfl,B.seq Z,hl,(),(),by decide,?_]>>=#[ω,λtp O=>?_];generalize decide (V.int (Υ ns (k+2+(i:Int)) 2)=V.int 0)=up at O⊢;let W:ζ H' (upd H' tp (.tup [.str cc.1,.bl up])):=ζ.upd O;let Y:(upd H' tp (.tup [.str cc.1,.bl up])) tp=↑(.tup [.str cc.1,.bl up]):=ο;generalize upd H' tp (.tup [.str cc.1,.bl up])=H5 at W Y⊢;lk;let R:H5 p=↑(.lst ws):=W _ _ g;show dD iZ #[p,ws,_,rfl,rfl,R,(),?_]*>#[#[_,_,rfl],λd o e=>?_,os++[(cc.1,up)],#[ws++[.ref tp],ο,χ.app (I.imp λu c x=>?_) (.cons ?_ .nil)],by simp[l],λo ho=>?_,?_,λo ho=>?_]
  .rw[ι (Ω e hp)];show W<*(B<*e)
  .let#[tq,rfl,hq]:=x;let C:tq≠p:=λe=>by subst e;rw[g]at hq;cases hq
   show#[tq,rfl,by rw[ι C];show W _ _ hq]
  .let C:tp≠p:=λe=>by subst e;rw[R]at Y;cases Y
   show#[tp,rfl,by rw[ι C];show Y]
  .obtain ho|ho:=adi.mp ho
   .show n o ho
   .have :o=(cc.1,up):= ~~~ho
    subst this;show#[cc,M,rfl]
  .rw[apf];show aq3.mpr #[s,by simp,λx hx y hy e=>?_];let#[o,ho,rfl]:=abz.mp hx;have:y=cc.1:= ~~~hy
   show C o ho (by rw[e,this])
  .obtain ho|ho:=adi.mp ho
   .let#[f,q,h1,h2,z]:=J o ho;show#[f,q,(),h2,z]
   .have :o=(cc.1,up):= ~~~ho
    subst this;show#[i,j,(),ej,Jp]
 .let#[#[o1,o2,rfl],B,os,hO,l,n,s,_]:=hP;symm;lk;let hol':↥os=m.toNat:= ~~~l
  show q p os H' B hp hO () n s
theorem Wo:∀{cs:List ξ}{z:Str}{m:Nat}{c:ξ},m<ϣ cs z->cs[m]?=↑c->¬c.1=z
 |[],_,_,_,h,_=>by simp[ϣ]at h
 |d::r,z,m,c,h,e=>by
  unfold ϣ at h;split at h
  .omega
  .rename_i hd;cases m with
   |zero=>simp at e;subst e;show hd
   |succ m=>show Wo (cs:=r) (m:=m) () (~~~e)
def aiB(h:∃c∈cs,c.1=z):(cs.map Prod.fst)[ϣ cs z]?=↑z:=by
 let#[c,e1,a]:=MJ h;rw[adl,e1, <-a];rfl
def ahn(h:m<ϣ cs z)(e:(cs.map Prod.fst)[m]?=↑y):¬y=z:=by
 rw[adl]at e;cases e2:cs[m]? with
 |none=>rw[e2]at e;cases e
 |some c=>
  rw[e2]at e;let a:c.1=y:= ~~~e
  rw[<-a];show Wo h e2
inductive aa6(K:ϩ):Sp
 |mk (a b:δ) (v:V) (cs:List ξ) (os:List Ord) (r:Row):vs=[.ref a,.ref b,v]->Ϗ H a cs->aW H b os->d9 H v r->↥r.2=↥cs->↥cs<=1000->↥os<=1000->fQ cs os->(∀p k H',ζ H H'->H p=none->H k=none->H' p=↑(.tup [.ref k,.int r.1])->H' k=↑(.lst (ϔ cs os r.2))->Q (.ref p) H')
def Ge:Def 1 "_law_key" ["_law_columns_here","_law_order_here","_law_one"] (aa6 K):=by
 exists Z3,Ge,hr,#[a,b,v,cs,os,r,rfl,#[vs,ha,j],#[ws,hb,n],#[t,l,rfl,J,hv],iG,hcl,hol,R,q],2,1;let ni:(["_law_column"]:List Str).Nodup:=by fin2
 let uP:(["_law_name","_law_up","_law_names_here","_law_one"]:List Str).Nodup:=by fin2
 let U:=j.len;let W:=n.len;w_up;f_tup;show jm ["_law_column"] (σ':=[none]) (bh (ς CN)) ?_;f_are;show#[a,vs,rfl,θ.of ha,(),λz=>∃o1,z=[o1],λB i u H'=>∃c,cs[i]?=↑c/\u=.str c.1,#[none,rfl],λB i u H2 H3 ys _ _ p=>p,λfp B C s3 H0 i z x H4 H3 aN hi f Φ Y Z=>?_,λL H1 ys hL ϻ ab e1 M =>?_]
 .let#[o1,rfl]:=f;let#[G,rfl]:=Z;let#[c,hc,t,rfl,J]:=j.get G;show Ε ni ?_>>=ϋ (ρ.of (Φ<*J)) (show Ι [V.str c.1,V.str c.2] 0=↑(V.str c.1)from rfl) ?_*>#[#[_,rfl],#[c,hc,rfl],ζ.refl _]
 let ey:=fL (ys:=cs) (λc=>V.str c.1) (by rw[ϻ,U]) ab;let gn:ys=(cs.map Prod.fst).map V.str:=by rw[ey,afR];rfl
 subst gn;symm;show Ke (dF (by rfl) ?_)*>jm ["_law_name","_law_up","_law_names_here","_law_one"] (σ':=[none,none,↑(.ref L),↑(.ref t)]) (bh (ς CN)) ?_;f_are;show#[b,ws,rfl,θ.of (M<*hb),(),λz=>∃o1 o2,z=[o1,o2,↑(.ref L),↑(.ref t)],λB i u H'=>∃o,os[i]?=↑o/\u=jk cs r.2 o.1,#[none,none,rfl],λB i u H2 H3 ys _ _ p=>p,λfp B C s3 H0 i z x H7 H8 aN hi f O Y Z=>?_,λD H7 ys hD ac G e7 O=>?_]
 .let#[o1,o2,rfl]:=f;let#[G,rfl]:=Z;let#[o,ho,tp,rfl,ae]:=n.get G;let I:=R o (aa1 ho);let hlt:=sX I;let g1:r.2[ϣ cs o.1]?=↑(jk cs r.2 o.1):=by
   let e:r.2[ϣ cs o.1]?=↑(r.2[ϣ cs o.1]'()):=aah _;unfold jk;rw[e];rfl
  let g:=M<|>O;let Ot:=O _ _ e1;show aG (ρ.of (g<*ae)) (Μ (Ε uP (Μ (Ε uP (aH ?_)))));f_are;f_are;f_are;f_are;show ϋ (ρ.of (g<*J)) (show Ι [V.int r.1,V.ref l] 1=↑(V.ref l)from rfl) ?_*>bA F.plainAttrs_list F.slot_list_index F.type_list_index (h:=?_);f_are;show#[.inl #[rfl,_,θ.of Ot],?_]>>=amt (θ.of Ot) (aiB I) (λm y h e=>ahn h e) ?_*>ϐ (θ.of (g<*hv)) (aJ g1) ?_*>#[#[_,_,rfl],#[o,ho,rfl],ζ.refl _]
 let ey:=fL (ys:=os) (λo=>jk cs r.2 o.1) (by rw[ac,W]) G;let gn:ys=ϔ cs os r.2:=ey;subst gn;let g:=M<|>O;lk;show ϋ (ρ.of (g<*J)) (show Ι [V.int r.1,V.ref l] 0=↑(V.int r.1)from rfl) ?_>>=#[ω,λp hp=>?_];let s8:ζ H7 (upd H7 p (.tup [.ref D,.int r.1])):=ζ.upd hp;show q p D _ (g<|>s8) (g.free hp) (M.free hD) ο (s8<*e7)
def aZ(B:Bk)(row:Int)(o:Option (List V)):Bk:=
 {B with rows:=(match o with|none=>cR B.rows row|some xs=>aV B.rows row xs),touched:=(match o with|none=>cR B.touched row|some _=>aV B.touched row (B.now+1)),
         done:=B.done++[#[B.now+1,row,Κ B.rows row,o]],now:=B.now+1}
def qU(B:Bk):Prop:=↥B.rows<1000000/\↥B.touched<1000000/\↥B.done<1000000
def lB(B:Bk):=∀i,Κ B.rows i=none↔ Κ B.touched i=none
abbrev cB(mg:MG):δ:=η mg "Book"
inductive mK(mg:MG):Sp
 |mk (A:BA) (B:Bk) (row:Int) (v:V) (o:Option (List V)):vs=[.ref A.b,.int row,v]->Χ (cB mg) H A B->lM H v o->(o=none->Κ B.rows row≠none/\ Κ B.touched row≠none)->qU B->(∀H',Out A.fp H H'->Χ (cB mg) H' A (aZ B row o)->Q (.int (B.now+1)) H')
def Kq:FD 1 "do" "Book.do" zE ["self","row","values"] (mK mg):=by
 show aO (S:=Q8) (λf Ϲ A' outer s H vs Q E hr h=>?_);intro X _;let#[A,B,row,v,o,rfl,l,O,R,#[z1,z2,z3],q]:=h;let nd:=Q8.nd;let hsz:=Ϯ;let g:=T.ϓ;let U:=T.rQ;let a2:=T.Hk;let a3:=T.yc;let G:=T.zM;let W:_+1<cLine:=afY (agK (by decide:1<=64) _) hr.units;let kR:=l.rows;let#[Ϸ,er,hR]:=id kR;let#[tvs,et,hT]:=l.touched;let#[ds,ed,hD]:=l.done;let Y:=l.ins;w_up;f_tup;show afM W (by constructor<;>rfl) ?_*>aF ?_;f_are;show#[A.b,_,_,_,_,rfl,Y,g,U,rfl,A.r,rfl,.inl #[_,.inl er],?_];f_are;show#[_,Ϥ.k (k:=Sum.inl row) er,?_];let hw:lM H ((aK Ϸ (Sum.inl row)).getD .non) (Κ B.rows row):=by
  obtain⟨e1,i⟩|⟨u,x,e1,i,r⟩:=iR hR row
  .rw[e1,i];rfl
  .rw[e1,i];show r
 generalize(aK Ϸ (Sum.inl row)).getD .non=I at hw⊢;w_up;show adK ?_;f_are;show#[A.b,_,_,_,_,rfl,Y,g,G,rfl,?_];f_are;show#[_,_,rfl,rfl,_,_,Y,by show 6<1000;decide,?_];let k1:=l.Ij B.known (B.now+1);let o1:Out A.fp H _:=Out.upd (H:=H) (a:=A.b) (o:=.ins (cB mg) A.dx [("heads",.ref A.h),("rows",.ref A.r),("touched",.ref A.t),("done",.ref A.d),("known",.int B.known),("now",.int (B.now+1))]) (by simp[BA.fp]);change Ζ _ _ _ _ (upd H A.b (.ins (cB mg) A.dx [("heads",.ref A.h),("rows",.ref A.r),("touched",.ref A.t),("done",.ref A.d),("known",.int B.known),("now",.int (B.now+1))]));generalize upd H A.b _=H1 at k1 o1⊢;let lX:=k1.ins;let fin:∀(H2:Hp)(m:Bk),Out A.fp H H2->Χ (cB mg) H2 A m->m={aZ B row o with done:=B.done}->Ζ X ((Ψ zE).drop 3) {nx:=λ_ H'=>Q .non H',rt:=Q} [↑(.ref A.b),↑(.int row),↑v,↑I] H2:=by
  intro H2 m o2 k2 i;let n:m.now=B.now+1/\m.done=B.done:=by rw[i];show#[rfl,rfl]
  let j:=k2.ins;let#[N5,Al,p]:=k2.done;let st:=l.tup o2;let Z:=hw.stay st;let Dl:=O.stay st;let ϻ:=p.len;rw[n.2]at ϻ p;rw[n.1]at j;w_up;show Ϛ (bA F.plainAttrs_list F.slot_list_append F.type_list_append (h:=?_))*>aF ?_;f_are;show#[A.b,_,_,_,_,rfl,j,g,a3,rfl,.inl #[rfl,_,θ.of Al],?_];cbv;show aF ?_;f_are;show#[A.b,_,_,_,_,rfl,j,g,G,rfl,?_];cbv;show#[ω,λt ht=>?_];let#[y,z,H2,t,C]:=Θ ht (.tup [.int (B.now+1),.int row,I,v]);let k3:=k2.same y;cbv;show dD iZ #[A.d,_,_,rfl,rfl,y<*Al,(),?_];let vQ:χ (lD C) (N5++[V.ref t]) (B.done++[#[B.now+1,row,Κ B.rows row,o]]):=χ.app (χ.imp (λv d h=>h.stay λb ys e=>y _ _ e) p) (.cons #[t,I,v,rfl,z,Z.stay λb ys e=>y _ _ e,Dl.stay λb ys e=>y _ _ e] .nil);let J:=k3.ak4 vQ;let o4:Out A.fp H _:=(o2<|>(Out.of y))<|>(Out.upd (H:=C) (a:=A.d) (o:=.lst (N5++[V.ref t])) (by simp[BA.fp]));generalize upd C A.d _=H4 at J o4⊢;let aa:=J.ins;symm;show aF ?_;f_are;show#[A.b,_,_,_,_,rfl,aa,g,G,rfl,?_];let e4:{m with done:=B.done++[#[B.now+1,row,Κ B.rows row,o]]}=aZ B row o:=by rw[i];rfl
  rw[e4]at J;have:=q H4 o4 J;show Q (.int m.now) H4;rw[n.1];show this
 let#[L,ou,M]:=k1.rows;let#[arA,et1,ab]:=k1.touched;let ac:=M.len;let htl:=ab.len;let z1':↥L<1000000:=by rw[ac];show z1
 cases o with
 |none=>
  let ae:v=.non:=O;subst ae;let#[g1,g2]:=R rfl;w_up;cbv;show Cd ?_*>aF ?_;f_are;obtain⟨_,i⟩|⟨u,x,e1,_,_⟩:=iR M row
  .show absurd i g1
  show#[A.b,_,_,_,_,rfl,lX,g,U,rfl,A.r,rfl,.inl #[_,.inl ou],?_];f_are;show#[L,Sum.inl row,u,ou,rfl,e1,?_];let k2:=k1.pW (zJ M row);let o2:Out A.fp H _:=o1<|>(Out.upd (H:=H1) (a:=A.r) (o:=.dK (gA L (Sum.inl row))) (by simp[BA.fp]));generalize upd H1 A.r _=H2 at k2 o2⊢;let j:=k2.ins;let#[D,z,c]:=k2.touched;f_len;show Ϛ (Cd ?_)*>aF ?_;f_are;obtain⟨_,i⟩|⟨u2,x2,e3,_,_⟩:=iR c row
  .show absurd i g2
  show#[A.b,_,_,_,_,rfl,j,g,a2,rfl,A.t,rfl,.inl #[_,.inl z],?_];f_are;show#[D,Sum.inl row,u2,z,rfl,e3,?_];let k3:=k2.Z5 (zJ c row);let o3:Out A.fp H _:=o2<|>(Out.upd (H:=H2) (a:=A.t) (o:=.dK (gA D (Sum.inl row))) (by simp[BA.fp]));generalize upd H2 A.t _=C at k3 o3⊢;show fin C _ o3 k3 rfl
 |some xs=>
  let#[t,rfl,ht]:=id O;w_up;cbv;show jo W ?_;f_are;show aF ?_;f_are;show#[A.b,_,_,_,_,rfl,lX,g,U,rfl,?_];f_are;show#[A.r,_,rfl,dW.k (k:=Sum.inl row) ou (),?_];let k2:=k1.pW (lZ M row (v:=.ref t) (x:=xs) #[t,rfl,l.tup o1 _ _ ht]);let o2:Out A.fp H _:=o1<|>(Out.upd (H:=H1) (a:=A.r) (o:=.dK (putK L (Sum.inl row) (.ref t))) (by simp[BA.fp]));generalize upd H1 A.r _=H2 at k2 o2⊢;let j:=k2.ins;let#[D,z,c]:=k2.touched;let z2':↥D<1000000:=by rw[c.len];show z2
  f_len;show jo W ?_*>aF ?_;f_are;show#[A.b,_,_,_,_,rfl,j,g,G,rfl,?_]*>aF ?_;f_are;show#[A.b,_,_,_,_,rfl,j,g,a2,rfl,?_];f_are;show#[A.t,_,rfl,dW.k (k:=Sum.inl row) z (),?_];let k3:=k2.Z5 (lZ c row (v:=.int (B.now+1)) (x:=B.now+1) rfl);let o3:Out A.fp H _:=o2.trans (Out.upd (H:=H2) (a:=A.t) (o:=.dK (putK D (Sum.inl row) (.int (B.now+1)))) (by simp[BA.fp]));generalize upd H2 A.t _=C at k3 o3⊢;show fin C _ o3 k3 rfl
def uZ:Def 1 "is_whole" ["value"] XQ:=by
 exists ["value"],uZ,a,#[v,rfl,hs,q],c.wN,e.yJ,f.adU;symm;cases v with
 |non=>
  cbv;show q
 |int i=>
  cbv;show q
 |str z=>
  cbv;show q
 |_=>cases hs
def Mt:Def 2 "is_number_value" ["value"] Za:=by
 exists ["value"],Mt,a,#[v,rfl,hs,q],c.S5,f uZ;symm;cbv;show#[v,rfl,hs,?_];cbv;cases v with
 |int i=>
  show kh (λ_=>?_) (λh=>by cases h);cbv;show Β (λh=>?_) (λh=>?_)
  .cbv;let e:isNum (.int i)=decide (i<=1000000000000000000):=by unfold isNum;simp[h]
   rw[e]at q;show q
  .let e:isNum (.int i)=false:=by unfold isNum;simp[h]
   rw[e]at q;show q
 |non=>show kh (λh=>by cases h) (λ_=>q)
 |str z=>show kh (λh=>by cases h) (λ_=>q)
 |_=>cases hs
def FQ:Def 3 "is_value" ["kind","value"] TV:=by
 exists ["kind","value"],FQ,g,#[k,v,rfl,hs,f,q],i.Gk,j Mt,l xU;w_up;cbv;show Β (λh=>?_) (λh=>?_)
 .subst h;cbv;show q H (ζ.refl _)
 .cbv;let a:isVal k v=if k="number" then isNum v else iH v:=by cases v<;>first|rfl|show absurd rfl h
  show Β (λh2=>?_) (λh2=>?_)
  .let c:k="number":=by cases h2;rfl
   rw[if_pos c]at a;rw[a]at q;cbv;show#[v,rfl,hs,q H (ζ.refl _)]
  .let c:¬k="number":=λe=>h2 (by rw[e])
   rw[if_neg c]at a;rw[a]at q;cbv;show#[v,rfl,hs,f,q]
def Hi:Def 2 "is_name" ["name"] WW:=by
 exists ["name"],Hi,c,#[z,rfl,a,q],e.bj,f.ae1,g.am4,1,i wu;symm;cbv;unfold isName at q;show Β (λh=>?_) (λh=>?_)
 .cbv;show Β (λh2=>?_) (λh2=>?_)
  .cbv;rw[decide_eq_true (show 1<=↥z/\↥z<=8 by omega)]at q;show#[z,_,rfl,a,q]
  .rw[decide_eq_false (show ¬(1<=↥z/\↥z<=8)by omega)]at q;show q H (ζ.refl _)
 .rw[decide_eq_false (show ¬(1<=↥z/\↥z<=8)by omega)]at q;cbv;show q H (ζ.refl _)
def acd(k a b:Str):eU (.str k) [.str a,.str b]=decide (k=a\/k=b):=by
 let e:∀a:Str,(a==k)=decide (k=a):=λa=>by rw[ahs,beq_iff_eq,decide_eq_true_iff];show eq_comm
 show((a==k)||((b==k)||false))=_;rw[e,e,as3,aun]
def Gj:Def 3 "ask_columns" ["columns"] (Ay (.ref (η mg "NoColumns"))):=by
 exists Sv,Gj,hr,#[a,cs,rfl,#[vs,B,f],Y,D,q],n1.bj,n2.ZV,g1.ajP,g2.Gk,g3.T7,2,1;let sa:θ K H a vs:=.inl (.inl B);let Z:=f.len;let D1:=!Hi;let M:(["name","kind"]:List Str).Nodup:=by fin2
 let hok:Ρ cs=true:=by
  cases e:Ρ cs with
  |true=>rfl
  |false=>
   have:=q H (ζ.refl _);rw[e]at this;show this.elim
 rw[hok]at q;unfold Ρ at hok;rw[aaK,aaK,decide_eq_true_eq,acE,decide_eq_true_eq]at hok;let#[#[hl6,m],F]:=hok;w_up;cbv;show Β (λh1=>?_) (λh1=>absurd h1 ());cbv;show gM (λh2=>absurd h2 ()) (λh2=>?_)*>Α ?_;w_up;show wB (by walk_at"po") (by rfl) (by intro _;rfl) ?_;cbv;show#[a,vs,rfl,sa,λi σ H'=>(∃o1 o2 o3,σ=[↑(.ref a),o1,o2,o3])/\ζ H H',#[#[none,none,none,rfl],ζ.refl _],λi σ H' hi n=>.inl (.inl (n.2<*B)),λi x σ H' s n=>?_,λσ H' n=>?_]
 .let#[#[o1,o2,o3,rfl],l]:=n;let#[c,G,t,rfl,I]:=f.get s;let v:=aa1 G;let J:=D c v;let g:=m c v;rw[aaK]at g;show aG (ρ.of (l<*I)) (Μ (Ε nd (Μ (Ε nd (aH ?_)))));w_up;cbv;show#[c.1,rfl,J.1,λH2 y =>?_];rw[g.1];cbv;let j:=l<|>y;show#[ω,λp hp=>?_];let Φ :=j<|>(ζ.upd (o:=.tup [.str "number",.str "text"]) hp);show Su (ρ.of ο) ?_;rw[show eU (.str c.2) [.str "number",.str "text"]=pC c.2 from acd _ _ _,g.2];cbv;show#[#[_,_,_,rfl],Φ]
 .let#[#[o1,o2,o3,rfl],l]:=n;w_up;show qu ["name","kind"] (σ':=[none,none]) (bh (ς DN)) nd ?_;cbv;show#[a,vs,rfl,.inl (.inl (l<*B)),(),λO=>∃o1 o2,O=[o1,o2],λE' i u H'=>∃c,cs[i]?=↑c/\u=.str c.1,#[none,none,rfl],λE' i u H2 H3 ys _ _ p=>p,λfp E' C s3 H0 i O x H2 H3 hE hi L y hys hG=>?_,λE' H2 ys hE hl s R y =>?_]
  .let#[o1,o2,rfl]:=L;let#[s,rfl]:=hG;let#[c,G,t,rfl,I]:=f.get s;show aG (ρ.of (y<*(l _ _ I))) (Μ (Ε M (Μ (Ε M (aH ?_)))));cbv;show#[#[_,_,rfl],#[c,G,rfl],ζ.refl _]
  .let ey:=fL (ys:=cs) (λc=>V.str c.1) (by rw[hl,Z]) s;let gn:ys=(cs.map Prod.fst).map V.str:=by rw[ey,afR];rfl
   subst gn;let z:↥(cs.map Prod.fst)<=4000:=by simp;omega
   let j:=l<|>y;f_len;cbv;show aaV (by rfl) (θ.of R) z λS U=>?_
   cbv;show aaE ο z ?_;cbv;show xg (.inl (θ.of ((ζ.upd U)<*R))) ?_;cbv;show gM (λW=>(W ?_).elim) (λW=>?_)
   .rw[(Js _ (cs.map Prod.fst) rfl).mpr F];simp
   .show Α (q _ (j<|>(ζ.upd U)))
def Jm:Def 2 "is_row_number" ["row"] aaO:=by
 exists ["row"],Jm,c,#[v,rfl,a,q],e.Wa,f uZ;symm;cbv;show#[v,rfl,a,?_];cases v with
 |int i=>
  change Q (.bl (decide (0<=i/\i<=1000000000))) H at q;rw[show pZ (V.int i)=true from rfl];cbv;show Β (λh=>?_) (λh=>?_)
  .cbv;rw[show decide (0<=i/\i<=1000000000)=decide (i<=1000000000)from by rw[decide_eq_decide];omega]at q;show q
  .cbv;rw[decide_eq_false (show ¬(0<=i/\i<=1000000000)by omega)]at q;show q
 |non=>
  rw[show pZ V.non=false from rfl];cbv;show q
 |str z=>
  rw[show pZ (V.str z)=false from rfl];cbv;show q
 |_=>cases a
theorem Rc:∀{cs:List ξ}{xs:List V}{bs:List Bool},↥xs=↥cs->↥bs=↥cs->(∀(i:Nat)(b:Bool),bs[i]?=↑b->∃c x,cs[i]?=↑c/\xs[i]?=↑x/\b=isVal c.2 x)->bs.all id=pJ cs xs
 |[],[],[],_,_,_=>rfl
 |c::cs,x::xs,b::bs,h1,h2,h=>by
  let#[g,j,e1,a,f]:=h 0 b rfl;cases e1;cases a;rw[as4];unfold pJ;rw[Rc (~~~h1) (~~~h2) λi b e=>~~~h (i+1) b (~~~e)];rw[f];rfl
 |[],_::_,_,h1,_,_=>by simp at h1
 |_::_,[],_,h1,_,_=>by simp at h1
 |[],[],_::_,_,h2,_=>by simp at h2
 |_::_,_::_,[],_,h2,_=>by simp at h2
theorem aaX:∀{xs:List V},(∀(i:Nat) v,xs[i]?=↑v->∃b,v=.bl b)->∃bs:List Bool,xs=bs.map V.bl
 |[],_=>#[[],rfl]
 |x::xs,h=>by
  let#[b,rfl]:=h 0 x rfl;let#[bs,rfl]:=aaX (xs:=xs) λi v e=>h (i+1) v (~~~e)
  show#[b::bs,rfl]
def Fp:Def 4 "is_row" ["columns","row","values"] U9:=by
 exists YS,Fp,hr,#[a,cs,v,b,xs,rfl,#[vs,D,f],O,R,F,m,q],n1.bj,n2.Xd,U.Ko,1,2;let sa:θ K H a vs:=.inl (.inl D);let sb:θ K H b xs:=.inl (.inl F);let W:=f.len;let D1:=!Jm;let D2:=!FQ;let G:(["column","value"]:List Str).Nodup:=by fin2
 unfold xT at q;w_up;cbv;show#[v,rfl,R,?_];cbv;show aof (λh1=>?_) (λh1=>?_)
 .rw[h1,apV,apV]at q;cbv;show q H (ζ.refl _)
 .rw[h1,anM]at q;cbv;show gM (λh2=>?_) (λh2=>?_)
  .let j:¬↥xs=↥cs:=λe=>h2 (by rw[W,e])
   rw[decide_eq_false j,apV]at q;cbv;show q H (ζ.refl _)
  .let j:↥xs=↥cs:=by
    have:(↥xs:Int)=↥vs:=by injection h2
    omega
   rw[decide_eq_true j,anM]at q;show Α ?_;symm;f_are;f_are;show aaj ["column","value"] (σ':=[none,none]) (bh (ς Dy)) U ?_;cbv;show#[a,b,vs,xs,rfl,rfl,D,F,(),λI=>∃o1 o2,I=[o1,o2],λE' i u H'=>∃c x,cs[i]?=↑c/\xs[i]?=↑x/\u=.bl (isVal c.2 x),#[none,none,rfl],λE' i u H2 Y ys _ _ p=>p,λfp E' C s3 H0 i I x H2 Y Z hi n o hys hG=>?_,λE' H2 ys Z hl J s o=>?_]
   .let#[o1,o2,rfl]:=n;let#[l,y,u,rfl,hT,rfl,hy,L]:=hG;let#[c,hc,t,rfl,ht]:=f.get hy;let z :ζ H2 (upd H2 l (.tup [.ref t,u])):=ζ.upd hT;let M:(upd H2 l (.tup [.ref t,u])) l=↑(.tup [.ref t,u]):=ο;generalize upd H2 l (.tup [.ref t,u])=H4 at z M⊢;show aG (ρ.of M) (Μ (Ε G (Μ (Ε G (aH ?_)))));cbv;show ϋ (ρ.of (z<*(o _ _ ht))) (show Ι [V.str c.1,V.str c.2] 1=↑(V.str c.2)from rfl) ?_;cbv;let g:=m u (aa1 L);show#[c.2,u,rfl,g.1,g.2,λH5 cU=>#[#[_,_,rfl],#[c,u,hc,L,rfl],z<|>cU]]
   .let#[bs,rfl]:=aaX λi v e=>by
     let#[c,x,_,_,e]:=J i v e;show#[_,e]
    let B:↥bs=↥cs:=by rw[aau]at hl;omega
    let eb:bs.all id=pJ cs xs:=Rc j B λi b e=>by
     let#[c,x,e1,s,e3]:=J i (.bl b) (by rw[adl,e];rfl);show#[c,x,e1,s,by injection e3]
    cbv;show Yo (by rfl) (θ.of s) ?_;rw[eb];show q _ o
def t8(cs:List ξ)(row:Int)(xs:List V):Prop:=0<=row/\row<=1000000000/\χ (λc x=>ak c.2 x) cs xs
def DK:∀c∈SG,c∈wk.cps.toList:=by fin2
def ak.is(h:ak a v):isVal a v=true/\scalar v=true/\short v:=by
 obtain rfl|⟨h1,i,rfl,h2,e⟩|⟨h1,z,rfl,h2,e⟩:=h
 .show#[rfl,rfl,trivial]
 .show#[?_,rfl,trivial];show(if a="number" then isNum (.int i)else iH (.int i))=true;rw[if_pos h1];show decide_eq_true #[h2,e]
 .show#[?_,rfl,by show ↥z<=4000;omega];show(if a="number" then isNum (.str z)else iH (.str z))=true;rw[if_neg h1];show(decide (↥z<=20)&&dZ z _)=true;rw[decide_eq_true h2,anM];show acE.mpr λc f=>decide_eq_true (DK c (e c f))
def W2(h:χ (λ(c:ξ) x=>ak c.2 x) cs xs):pJ cs xs=true/\∀x∈xs,scalar x=true/\short x:=by
 induction h with
 |nil=>show#[rfl,λx a=>by simp at a]
 |cons h _ f=>
  show#[?_,λx a=>?_]
  .show(isVal _ _&&pJ _ _)=true;rw[h.is.1,f.1];rfl
  .obtain e|e:=aaF.mp a
   .rw[e];show h.is.2
   .show f.2 x e
def t8.ok(h:t8 cs row xs):xT cs (.int row) xs=true:=by
 unfold xT;rw[(W2 h.2.2).1,decide_eq_true h.2.2.len.symm];show(decide (0<=row/\row<=1000000000)&&true&&true)=true;rw[decide_eq_true #[h.1,h.2.1]];rfl
inductive sY(mg:MG):Sp
 |mk (A:BA) (B:Bk) (row:Int) (b:δ) (xs:List V):vs=[.ref A.b,.int row,.ref b]->Χ (cB mg) H A B->H b=↑(.lst xs)->↥B.heads<=6->t8 B.heads row xs->(∀H',ζ H H'->Q .non H')
def X7:FD 5 "ask_row" "Book.ask_row" RM ["self","row","values"] (sY mg):=by
 show aO (N:=["self","row","values"]) (λf m n outer s H vs Q E o h=>?_);intro X _;let#[A,B,row,b,xs,rfl,a,e,p,c,q]:=h;let u:=!Fp;let g:=T.ϓ;let i:=T.Jc;let j:=a.ins;f_len;cbv;show aF ?_;f_are;show#[A.b,_,_,_,_,rfl,j,g,i,rfl,?_];cbv;show#[A.h,B.heads,.int row,b,xs,rfl,a.heads,(),rfl,e,(W2 c.2.2).2,λH' l=>?_];rw[c.ok];cbv;show q H' l
inductive mC(mg:MG):Sp
 |mk (A:BA) (B:Bk) (row:Int):vs=[.ref A.b,.int row]->Χ (cB mg) H A B->0<=row->row<=1000000000->(Κ B.rows row=none->False)->(Κ B.rows row≠none->Q .non H)
def Fd:FD 3 "ask_there" "Book.ask_there" aan ["self","row"] (mC mg):=by
 show aO (N:=["self","row"]) (λf p v outer s H vs Q E g h=>?_);intro X _;let#[A,B,row,rfl,e,y,r1,a,q]:=h;let i:=T.ϓ;let j:=T.rQ;let l:=e.ins;let m:_+1<cLine:=afY (agK (by decide:1<=64) _) g.units;let#[Ϸ,n,o]:=e.rows;f_len;cbv;show aF ?_;f_are;show#[A.b,_,_,_,_,rfl,l,i,j,rfl,?_]*>ab1 m (Ϥ.k (k:=Sum.inl row) n) ?_;obtain⟨e1,c⟩|⟨u,x,e1,c,_⟩:=iR o row
 .rw[show(aK Ϸ (Sum.inl row)).isSome=false by rw[e1];rfl,Bool.not_false];show(a c).elim
 .rw[show(aK Ϸ (Sum.inl row)).isSome=true by rw[e1];rfl,Bool.not_true];cbv;show q (by rw[c];simp)
inductive qd(mg:MG):Sp
 |mk (A:BA) (B:Bk) (row:Int) (b:δ) (xs:List V):vs=[.ref A.b,.int row,.ref b]->Χ (cB mg) H A B->H b=↑(.lst xs)->↥B.heads<=6->t8 B.heads row xs->qU B->(Κ B.rows row≠none->False)->(Κ B.rows row=none->∀H',Out A.fp H H'->Χ (cB mg) H' A (aZ B row ↑xs)->Q (.int (B.now+1)) H')
theorem NP(h:θ X.K H p ys)(g:∀l,H l=none->Q (.ref l) (upd H l (.tup ys))):CL X (.type "tuple") [.ref p] H Q:=cP akP #[p,ys,rfl,.inl #[h,g]]
def R9:FD 6 "put" "Book.put" TQ ["self","row","values"] (qd mg):=by
 show aO (N:=["self","row","values"]) (λf M O outer s H vs Q E a h=>?_);intro X _;let#[A,B,row,b,xs,rfl,c,o,y,z,g,i,q]:=h;let M1:ϕ P w K mg base true 5 (cB mg) "ask_row" ["self","row","values"] (sY mg):=(X7 T).meth T.ϓ T.abh;let M2:ϕ P w K mg base true 1 (cB mg) "do" ["self","row","values"] (mK mg):=(Kq T).meth T.ϓ T.Mx;let C:=T.ϓ;let R:=T.YQ;let D:=T.rQ;let F:_+1<cLine:=afY (agK (by decide:1<=64) _) a.units;w_up;show Ϛ ?_*>bD (pl:=_) a Ο (h:=?_);f_are;show#[A.b,cB mg,A.dx,_,true,5,_,sY mg,rfl,c.ins,by rfl,M1,by decide,id,?_];cbv;show#[A,B,row,b,xs,rfl,c,o,y,z,λH1 j=>?_];let k1:=c.same j;let p:=k1.ins;let l:=j _ _ o;let#[Ϸ,G,I]:=k1.rows;w_up;cbv;show aF ?_;f_are;show#[A.b,_,_,_,_,rfl,p,C,D,rfl,?_]*>Gu F (Ϥ.k (k:=Sum.inl row) G) ?_;obtain⟨e1,m⟩|⟨u,x,e1,m,_⟩:=iR I row
 .rw[show(aK Ϸ (Sum.inl row)).isSome=false by rw[e1];rfl];cbv;show bD (pl:=_) a Ο (h:=?_);f_are;show#[A.b,cB mg,A.dx,_,true,1,_,mK mg,rfl,p,by rfl,M2,by decide,id,?_];cbv;show NP (θ.of l) λt J=>?_
  let#[n,v,H1,t,H2]:=Θ J (.tup xs);cbv;show#[A,B,row,.ref t,↑xs,rfl,k1.same n,#[t,rfl,v],(λe=>by cases e),g,λL o3 k3=>?_]*>q m L ((Out.of (j<|>n))<|>o3) k3
 .rw[show(aK Ϸ (Sum.inl row)).isSome=true by rw[e1];rfl];show(i (by rw[m];simp)).elim
inductive Dk(mg:MG):Sp
 |mk (A:BA) (B:Bk) (row:Int) (b:δ) (xs:List V):vs=[.ref A.b,.int row,.ref b]->Χ (cB mg) H A B->H b=↑(.lst xs)->↥B.heads<=6->t8 B.heads row xs->qU B->(Κ B.rows row=none->False)->(Κ B.rows row≠none->∀H',Out A.fp H H'->Χ (cB mg) H' A (aZ B row ↑xs)->Q (.int (B.now+1)) H')
def ajn:FD 6 "change" "Book.change" V4 ["self","row","values"] (Dk mg):=by
 show aO (N:=["self","row","values"]) (λf D F outer s H vs Q E a h=>?_);intro X _;let#[A,B,row,b,xs,rfl,c,p,x,g,i,j,q]:=h;let M1:ϕ P w K mg base true 5 (cB mg) "ask_row" ["self","row","values"] (sY mg):=(X7 T).meth T.ϓ T.abh;let M2:ϕ P w K mg base true 1 (cB mg) "do" ["self","row","values"] (mK mg):=(Kq T).meth T.ϓ T.Mx;let y:ϕ P w K mg base true 3 (cB mg) "ask_there" ["self","row"] (mC mg):=(Fd T).meth T.ϓ T.K9;let G:=T.ϓ;let I:=T.YQ;w_up;show Ϛ ?_*>bD (pl:=_) a Ο (h:=?_);f_are;show#[A.b,cB mg,A.dx,_,true,5,_,sY mg,rfl,c.ins,by rfl,M1,by decide,id,?_];cbv;show#[A,B,row,b,xs,rfl,c,p,x,g,λH1 l=>?_];let k1:=c.same l;let u:=k1.ins;let m:=l _ _ p;w_up;show Ϛ ?_*>bD (pl:=_) a Ο (h:=?_);f_are;show#[A.b,cB mg,A.dx,_,true,3,_,mC mg,rfl,u,by rfl,y,by decide,id,?_];cbv;show#[A,B,row,rfl,k1,g.1,g.2.1,λn=>j n,λn=>?_];symm;show bD (pl:=_) a Ο (h:=?_);f_are;show#[A.b,cB mg,A.dx,_,true,1,_,mK mg,rfl,u,by rfl,M2,by decide,id,?_];cbv;show NP (θ.of m) λt z=>?_
 let#[o,v,H1,t,H2]:=Θ z (.tup xs);cbv;show#[A,B,row,.ref t,↑xs,rfl,k1.same o,#[t,rfl,v],(λe=>by cases e),i,λC o3 k3=>?_]*>q n C ((Out.of (l<|>o))<|>o3) k3
inductive Bt(mg:MG):Sp
 |mk (A:BA) (B:Bk) (row:Int):vs=[.ref A.b,.int row]->Χ (cB mg) H A B->0<=row->row<=1000000000->qU B->lB B->(Κ B.rows row=none->False)->(Κ B.rows row≠none->∀H',Out A.fp H H'->Χ (cB mg) H' A (aZ B row none)->Q (.int (B.now+1)) H')
def amI:FD 4 "take" "Book.take" R8 ["self","row"] (Bt mg):=by
 show aO (N:=["self","row"]) (λf n o outer s H vs Q E j h=>?_);intro X _;let#[A,B,row,rfl,a,l,r1,c,e,g,q]:=h;let M2:ϕ P w K mg base true 1 (cB mg) "do" ["self","row","values"] (mK mg):=(Kq T).meth T.ϓ T.Mx;let m:ϕ P w K mg base true 3 (cB mg) "ask_there" ["self","row"] (mC mg):=(Fd T).meth T.ϓ T.K9;w_up;show Ϛ ?_*>bD (pl:=_) j Ο (h:=?_);f_are;show#[A.b,cB mg,A.dx,_,true,3,_,mC mg,rfl,a.ins,by rfl,m,by decide,id,?_];cbv;show#[A,B,row,rfl,a,l,r1,g,λi=>?_];symm;show bD (pl:=_) j Ο (h:=?_);f_are;show#[A.b,cB mg,A.dx,_,true,1,_,mK mg,rfl,a.ins,by rfl,M2,by decide,id,?_];cbv;show#[A,B,row,.non,none,rfl,a,rfl,λ_=>#[i,λz=>i ((e row).mpr z)],c,q i]
inductive f9(mg:MG)(g:Bk->Int):Sp
 |mk (A:BA) (B:Bk):vs=[.ref A.b]->Χ (cB mg) H A B->Q (.int (g B)) H
def vL:FD 1 "moment" "Book.moment" Yl ["self"] (f9 mg Bk.now):=by
 show aO (N:=["self"]) (λf e g outer s H vs Q E i h=>?_);intro X _;let#[A,B,rfl,a,q]:=h;let c:=T.ϓ;f_len;show ψ (aF ?_);f_are;show#[A.b,_,_,_,_,rfl,a.ins,c,T.zM,rfl,q]
inductive cZ(mg:MG):Sp
 |mk (A:BA) (B:Bk):vs=[.ref A.b]->Χ (cB mg) H A B->(∀p H',ζ H H'->H p=none->Ϗ H' p B.heads->Q (.ref p) H')
def pQ:FD 1 "columns" "Book.columns" QJ ["self"] (cZ mg):=by
 show aO (N:=["self"]) (λf n u outer s H vs Q E x h=>?_);intro X _;let#[A,B,rfl,a,q]:=h;let j:=T.ϓ;let y:=T.km;let#[vs,l,m]:=a.heads;symm;cbv;show aF ?_;f_are;show#[A.b,_,_,_,_,rfl,a.ins,j,T.Jc,rfl,?_];cbv;show jb (.inl (θ.of l)) λp g=>?_
 let i:=ζ.upd (H:=H) (o:=.lst vs) g;show q p _ i g #[vs,ο,χ.imp (λv c z=>by let#[t,e,h]:=z;show #[t,e,i<*h]) m]
inductive ym(mg:MG):Sp
 |mk (A:BA) (B:Bk) (row:Int):vs=[.ref A.b,.int row]->Χ (cB mg) H A B->0<=row->row<=1000000000->lB B->(Κ B.rows row=none->False)->(∀i,Κ B.touched row=↑i->Q (.int i) H)
def ak6:FD 4 "since" "Book.since" abt ["self","row"] (ym mg):=by
 show aO (N:=["self","row"]) (λf C D outer s H vs Q E j h=>?_);intro X _;let#[A,B,row,rfl,a,l,r1,c,e,q]:=h;let m:ϕ P w K mg base true 3 (cB mg) "ask_there" ["self","row"] (mC mg):=(Fd T).meth T.ϓ T.K9;let n:=T.ϓ;let o:_+1<cLine:=afY (agK (by decide:1<=64) _) j.units;let#[Ϸ,p,v]:=a.touched;w_up;show Ϛ ?_*>bD (pl:=_) j Ο (h:=?_);f_are;show#[A.b,cB mg,A.dx,_,true,3,_,mC mg,rfl,a.ins,by rfl,m,by decide,id,?_];cbv;show#[A,B,row,rfl,a,l,r1,e,λy=>?_];obtain⟨e1,g⟩|⟨u,x,e1,g,z⟩:=iR v row
 .show absurd ((c row).mpr g) y
 let i:u=.int x:=z;subst i;symm;show ae3 o (by intro _ _;rfl) ?_*>aF ?_;f_are;show#[A.b,_,_,_,_,rfl,a.ins,n,T.Hk,rfl,?_];f_are;show#[A.t,.int x,rfl,?_,q x g];have:=Ϥ.k (k:=Sum.inl row) p;rw[e1]at this;show this
def aoN(h:Ρ cs=true):1<=↥cs/\↥cs<=6:=by
 unfold Ρ at h;rw[aaK,aaK,decide_eq_true_eq]at h;show h.1.1
def amB(h:Ρ cs=true):GQ cs:=by
 unfold Ρ pC at h;rw[aaK,aaK,acE]at h;intro c a;let h1:=h.1.2 c a;rw[aaK,decide_eq_true_eq]at h1;let#[h2,f]:=h1;unfold isName at h2;rw[aaK,decide_eq_true_eq]at h2;show#[(),?_];obtain e|e:=f<;>rw[e]
 .show(by fin2:↥("number":Str)<=4000)
 .show(by fin2:↥("text":Str)<=4000)
inductive OD(mg:MG):Sp
 |mk (y dx a:δ) (cs:List ξ):vs=[.ref y,.ref a]->H y=↑(.ins (cB mg) dx [])->H dx=↑(.own y)->Ϗ H a cs->Ρ cs=true->(∀(H':Hp)(A:BA),A.b=y->A.dx=dx->H A.h=none->H A.r=none->H A.t=none->H A.d=none->Out [y] H H'->Χ (cB mg) H' A #[cs,[],[],[],0,0]->Q .non H')
def ajz:FD 4 "__init__" "Book.__init__" aaz ["self","columns"] (OD mg):=by
 show aO (N:=["self","columns"]) (λf Ϲ A' outer s H vs Q E hr h=>?_);intro X _;let#[y,dx,a,cs,rfl,m,i,hC,hok,q]:=h;let D1:=!Gj;let l:=T.ϓ;let n1:=T.km;let hsz:=Ϯ;w_up;cbv;show#[a,cs,rfl,hC,by have:=aoN hok;omega,amB hok,λH1 C =>?_];rw[if_pos hok];let#[vs,ha,L]:=hC;let hy1:=C _ _ m;let Ri:dx≠y:=λe=>by rw[e,m]at i;cases i
 w_up;show bJ ?_;cbv;show jb (.inl (θ.of (C<*ha))) λh hh=>?_
 let M:ζ H (upd H1 h (.lst vs)):=C<|>(ζ.upd hh);let eh:(upd H1 h (.lst vs)) h=↑(.lst vs):=ο;let O:H h=none:=C.free hh;generalize upd H1 h (.lst vs)=H2 at M eh⊢;f_are;show#[y,_,dx,_,rfl,M<*m,l,T.Jc,by show 0<1000;decide,?_];let n:h≠y:=λe=>by rw[e,m]at O;cases O
 let o3:Out [y] H (upd H2 y (.ins (cB mg) dx [("heads",.ref h)])):=(Out.of M)<|>(Out.upd (by simp));let VM:(upd H2 y (.ins (cB mg) dx [("heads",.ref h)])) h=↑(.lst vs):=by rw[ι n];show eh
 let R:(upd H2 y (.ins (cB mg) dx [("heads",.ref h)])) y=↑(.ins (cB mg) dx [("heads",.ref h)]):=ο;change Ζ _ _ _ _ (upd H2 y (.ins (cB mg) dx [("heads",.ref h)]));generalize upd H2 y (.ins (cB mg) dx [("heads",.ref h)])=D at o3 VM R⊢;let step:∀(H':Hp)(p:δ)(o o1:HO),H' y=↑o1->Out [y] H H'->H' p=none->(H p=none/\p≠y/\∀fs,Out [y] H (upd (upd H' p o) y fs)/\(upd (upd H' p o) y fs) y=↑fs/\(upd (upd H' p o) y fs) p=↑o/\∀b u,b≠y->H' b=↑u->b≠p/\(upd (upd H' p o) y fs) b=↑u):=by
  intro H' p o o1 ey ho F;let j:p≠y:=λe=>by rw[e,ey]at F;cases F
  let keep:∀fs b u,b≠y->H' b=↑u->b≠p/\(upd (upd H' p o) y fs) b=↑u:=λfs b u g e=>by
   let O3:b≠p:=λz=>by rw[z,F]at e;cases e
   show#[O3,?_];rw[ι g,ι O3];show e
  show#[?_,j,λfs=>#[λb u g e=>?_,ο,by rw[ι j];show ο,keep fs]]
  .cases e1:H p with
   |none=>rfl
   |some u=>
    have:=ho p u (~~~j) e1;rw[F]at this;cases this
  .show(keep fs b u (~~~g) (ho b u g e)).2
 w_up;show bJ ?_*>v5 λr S=>?_
 f_are;let#[rn,ry,x]:=step D r (.dK []) _ R o3 S;let U:(upd D r (.dK [])) y=↑(.ins (cB mg) dx [("heads",.ref h)]):=by rw[ι (Ne.symm ry)];show R
 show#[y,_,dx,_,rfl,U,l,T.rQ,by show 1<1000;decide,?_];let#[o4,W,QC,k4]:=x (.ins (cB mg) dx [("heads",.ref h),("rows",.ref r)]);change Ζ _ _ _ _ (upd (upd D r (.dK [])) y (.ins (cB mg) dx [("heads",.ref h),("rows",.ref r)]));let B:=(k4 _ _ n VM).2;generalize upd (upd D r (.dK [])) y (.ins (cB mg) dx [("heads",.ref h),("rows",.ref r)])=G at o4 W QC B⊢;w_up;show bJ ?_*>v5 λt Y=>?_
 f_are;let#[tn,ty,x]:=step G t (.dK []) _ W o4 Y;let Z:(upd G t (.dK [])) y=↑(.ins (cB mg) dx [("heads",.ref h),("rows",.ref r)]):=by rw[ι (Ne.symm ty)];show W
 show#[y,_,dx,_,rfl,Z,l,T.Hk,by show 2<1000;decide,?_];let#[o5,Mq,N7,k5]:=x (.ins (cB mg) dx [("heads",.ref h),("rows",.ref r),("touched",.ref t)]);change Ζ _ _ _ _ (upd (upd G t (.dK [])) y (.ins (cB mg) dx [("heads",.ref h),("rows",.ref r),("touched",.ref t)]));let O9:=(k5 _ _ n B).2;let#[rt,YD]:=k5 _ _ ry QC;generalize upd (upd G t (.dK [])) y (.ins (cB mg) dx [("heads",.ref h),("rows",.ref r),("touched",.ref t)])=I at o5 Mq N7 YD O9⊢;w_up;show bJ ?_;cbv;show#[ω,λd aa=>?_];f_are;let#[dn,dy,x]:=step I d (.lst []) _ Mq o5 aa;let ab:(upd I d (.lst [])) y=↑(.ins (cB mg) dx [("heads",.ref h),("rows",.ref r),("touched",.ref t)]):=by rw[ι (Ne.symm dy)];show Mq
 show#[y,_,dx,_,rfl,ab,l,T.yc,by show 3<1000;decide,?_];let#[J,Nt,Ux,k6]:=x (.ins (cB mg) dx [("heads",.ref h),("rows",.ref r),("touched",.ref t),("done",.ref d)]);change Ζ _ _ _ _ (upd (upd I d (.lst [])) y (.ins (cB mg) dx [("heads",.ref h),("rows",.ref r),("touched",.ref t),("done",.ref d)]));let#[ac,ZX]:=k6 _ _ n O9;let#[_,Nq]:=k6 _ _ ry YD;let#[_,Vv]:=k6 _ _ ty N7;generalize upd (upd I d (.lst [])) y (.ins (cB mg) dx [("heads",.ref h),("rows",.ref r),("touched",.ref t),("done",.ref d)])=H6 at J Nt Ux Vv Nq ZX⊢;w_up;show bJ ?_;f_are;f_are;show#[y,_,dx,_,rfl,Nt,l,T.FN,by show 4<1000;decide,?_];f_len;show bJ ?_;f_are;f_are;show#[y,_,dx,_,rfl,ο,l,T.zM,by show 5<1000;decide,?_];let fin:∀b u,b≠y->H6 b=↑u->(upd (upd H6 y (.ins (cB mg) dx [("heads",.ref h),("rows",.ref r),("touched",.ref t),("done",.ref d),("known",.int 0)])) y (.ins (cB mg) dx [("heads",.ref h),("rows",.ref r),("touched",.ref t),("done",.ref d),("known",.int 0),("now",.int 0)])) b=↑u:=λb u g e=>by
  rw[ι g,ι g];show e
 let Ua:∀t' ys,H t'=↑(.tup ys)->t'≠y:=λt' ys e z=>by rw[z,m]at e;cases e
 show q (upd (upd H6 y (.ins (cB mg) dx [("heads",.ref h),("rows",.ref r),("touched",.ref t),("done",.ref d),("known",.int 0)])) y (.ins (cB mg) dx [("heads",.ref h),("rows",.ref r),("touched",.ref t),("done",.ref d),("known",.int 0),("now",.int 0)])) #[y,dx,h,r,t,d] rfl rfl O rn tn dn (λb u g e=>fin b u (~~~g) (J b u g e)) ?_*>#[ο,fin _ _ Ri (J _ _ (~~~Ri) i),#[vs,fin _ _ n ZX,χ.imp (λv c z=>by let#[u,e,hu]:=z;show #[u,e,fin _ _ (Ua<*hu) (J _ _ (~~~Ua _ _ hu) hu)]) L],#[[],fin _ _ ry Nq,.nil],#[[],fin _ _ ty Vv,.nil],#[[],fin _ _ dy Ux,.nil],rt,ac]
def xj(a H:Hp)(v:V)(p:Int×List V):=∃t l,v=.ref t/\H t=↑(.tup [.int p.1,.ref l])/\H l=↑(.lst p.2)/\a l=none/\a t=none
def aX(rows:List (Int×List V))(ks:List Int):List (Int×List V):=ks.map λk=>(k,(Κ rows k).getD [])
inductive XH(C:Unit):Sp
 |mk (a:δ) (rows:List (Int×List V)):vs=[.ref a]->DictAt (TupAt H) H a rows->↥rows<64->(∀p ys ks H',ζ H H'->H p=none->ks.Perm (rows.map (·.1))->ks.Pairwise (· <= ·)->H' p=↑(.lst ys)->χ (xj H H') ys (aX rows ks)->Q (.ref p) H')
def xV:Def 1 "told_rows" ["rows"] (XH PUnit.unit):=by
 exists ["rows"],xV,hr,#[a,rows,rfl,#[Ϸ,ea,hR],hl,q],n1.zV,n2.km,1;let hu:_+1<cLine:=afY (agK (by decide:1<=64) _) hr.units;let wG:(["row","rows"]:List Str).Nodup:=by fin2
 symm;show jm ["row","rows"] (σ':=[none,↑(.ref a)]) (bh (ς Nm)) ?_;walk_at"cb";cbv;show M6 (ks:=rows.map (·.1)) (by rfl) ea (abA hR) (by rw[aau];show hl) λL ks hL B hs=>?_
 let#[j,eL,H,L,H1]:=Θ hL (.lst (ks.map V.int));let hkl:↥ks=↥rows:=by rw[B.length_eq,aau]
 let f:↥(ks.map V.int)=↥ks:=aau ..;show#[L,_,rfl,θ.of eL,(),λτ=>∃o1,τ=[o1,↑(.ref a)],λn i u H'=>∃k t l,ks[i]?=↑k/\u=.ref t/\t≠n/\l≠n/\H' t=↑(.tup [.int k,.ref l])/\H' l=↑(.lst ((Κ rows k).getD []))/\H l=none/\H t=none,#[none,rfl],λn i u H2 H3 ys y1 y2 y3=>?_,λfp n C s3 H0 i τ x H4 H3 aN hi D Φ F hG=>?_,λL2 H2 ys G ϻ I e2 Τ =>?_]
 .let#[k,t,l,J,M,O,S,U,W,Y,Z]:=y3;show#[k,t,l,J,M,O,S,y2 _ _ O U,y2 _ _ S W,Y,Z]
 .let#[o1,rfl]:=D;let#[hx,rfl]:=hG;let QH:i<↥ks:=by rw[f]at hi;show hi
  let hk:ks[i]?=↑ks[i]:=aah QH;rw[adl,hk]at hx;let aa:x=.int ks[i]:= ~~~hx.symm
  subst aa;let g:ks[i]∈rows.map (·.1):=B.mem_iff.mp (ajf QH);let o:=j<|>Φ;let ab:=o _ _ ea;show Ε wG ?_;cbv;rcases iR hR ks[i]with⟨_,e3⟩|⟨u,xs,e1,e3,t0,rfl,ac⟩
  .show absurd g (oh.mp e3)
  let g4:=Ϥ.k (k:=Sum.inl ks[i]) ab;rw[e1]at g4;show dw hu g4 ?_;cbv;show jb (.inr (ρ.of (o<*ac))) λl s=>?_
  let#[y,el,H4,l,H5]:=Θ s (.lst xs);cbv;show#[ω,λt z=>?_];let ϝ:ζ H5 (upd H5 t (.tup [.int ks[i],.ref l])):=ζ.upd z;let#[ys0,hE]:=F;show#[#[_,rfl],#[ks[i],t,l,hk,rfl,λe=>?_,λe=>?_,ο,?_,o.free s,(o<|>y).free z],y<|>ϝ]
  .rw[e,y<*hE]at z;cases z
  .rw[e,hE]at s;cases s
  .rw[e3];show ϝ<*el
 .show q L2 ys ks H2 (j<|>Τ) (j.free G) B hs e2 (uc (R:=λv p=>xj H H2 v p) (l:=ys) (m:=aX rows ks) (by unfold aX;rw[aau,ϻ,f]) λi p c=>?_);unfold aX at c;rw[adl]at c;let hi:i<↥ys:=by
   rw[ϻ,f];cases e:ks[i]? with
   |none=>rw[e]at c;cases c
   |some k=>show(aak.mp e).1
  let hy:ys[i]?=↑ys[i]:=aah hi;let#[k,t,l,J,M,O,S,U,W,Y,Z]:=I i _ hy;rw[J]at c;let ae:p=(k,(Κ rows k).getD []):= ~~~c.symm
  rw[ae];show#[_,hy,t,l,M,U,W,Y,Z]
inductive jZ(mg:MG):Sp
 |mk (A:BA) (B:Bk):vs=[.ref A.b]->Χ (cB mg) H A B->↥B.rows<64->(∀p ys ks H',ζ H H'->H p=none->ks.Perm (B.rows.map (·.1))->ks.Pairwise (· <= ·)->H' p=↑(.lst ys)->χ (xj H H') ys (aX B.rows ks)->Q (.ref p) H')
def G8:FD 2 "now_rows" "Book.now_rows" Ze ["self"] (jZ mg):=by
 show aO (N:=["self"]) (λf e g outer s H vs Q E i h=>?_);intro X _;let#[A,B,rfl,a,c,q]:=h;let j:=!xV;symm;cbv;show aF ?_;f_are;show#[A.b,_,_,_,_,rfl,a.ins,T.ϓ,T.rQ,rfl,?_];cbv;show#[A.r,B.rows,rfl,a.rows,c,q]
theorem _root_._V.χ.Jz{α β:Type}{R:α->β->Prop}:∀{l:List α}{m:List β},χ R l m->∀b∈m,∃a,a∈l/\R a b
 |_,_,.nil,b,c=>by simp at c
 |_,_,.cons (a:=a) r t,b,c=>by
  obtain e|e:=aaF.mp c
  .subst e;show#[a,by simp,r]
  .let#[f,h1,h2]:=t.Jz b e;show#[f,by simp[h1],h2]
def ak.word(h:ak g v)(q:g="number"\/g="text"):eV g (wordOf v)=↑v/\↥(wordOf v)<=21/\32∉(wordOf v).cps.toList/\¬wordOf v=ν "*"/\(∀c∈(wordOf v).cps.toList,c<1114112):=by
 obtain rfl|⟨l,i,rfl,h1,h2⟩|⟨l,z,rfl,s,o⟩:=h
 .show#[?_,by fin2,by fin2,by fin2,by fin2];unfold eV;rw[if_pos (show wordOf .non=ν "?" from rfl)]
 .subst l;let m:=BW i;show#[ama h1 h2,?_,λh=>?_,λh=>?_,λc f=>?_]
  .have :=CZ (i:=i) (k:=19) ();show(ν (toString i)).length<=21;omega
  .have :=m 32 h;omega
  .let h':ν (toString i)=ν "*":=h;let e:("*":Str).cps.toList=[42]:=by fin2
   have:=m 42 (by rw[h',e];simp);omega
  .have :=m c f;omega
 .let n:g="text":=q.resolve_left l;subst n;let e1:↥("'":Str)=1:=by fin2
  let u:=len_app ("'":Str) z;let j:∀c∈SG,¬c=32/\c<1114112:=by fin2
  let a:∀c∈(ν "'"++z).cps.toList,c=39\/c∈SG:=λc f=>by
   rw[au,Ai]at f;obtain h|h:=adi.mp f
   .show .inl (~~~h)
   .show .inr (o c h)
  show#[alp s o,by show(ν "'"++z).length<=21;omega,λh=>?_,λh=>?_,λc f=>?_]
  .obtain e|e:=a 32 h
   .omega
   .show(j 32 e).1 rfl
  .let h':ν "'"++z=ν "*":=h;let e:("*":Str).cps.toList=[42]:=by fin2
   let p:(ν "'"++z).cps.toList[0]?=↑39:=by rw[au,Ai];rfl
   rw[h',e]at p;simp at p
  .obtain e|e:=a c f
   .omega
   .show(j c e).2
def plainS(z:Str):=∀c∈z.cps.toList,32<=c/\c<=122/\c≠46/\c≠47
theorem plainS.app(h:plainS a)(g:plainS b):plainS (a++b):=λc hc=>by
 rw[au]at hc;obtain hc|hc:=adi.mp hc
 .show h c hc
 .show g c hc
theorem plainS.join:∀{ps:List Str},(∀p∈ps,plainS p)->plainS (aek " " ps)
 |[],_=>by
  intro c a;have:c∈([]:List Nat):=a;simp at this
 |[p],h=>h p (by simp)
 |p::q::r,h=>by
  let e:plainS (" ":Str):=by unfold plainS;fin2
  show((h p (by simp)).app e).app (plainS.join λx f=>h x (by simp[f]))
def aeO:∀c∈SG,32<=c/\c<=122/\c≠46/\c≠47:=by fin2
theorem Hm(i:Int):plainS (ν (toString i)):=λc a=>by
 have:=BW i c a;omega
def ak.plain(h:ak e v):plainS (wordOf v):=by
 obtain rfl|⟨f,i,rfl,h1,h2⟩|⟨f,z,rfl,l,g⟩:=h
 .unfold plainS;fin2
 .show Hm i
 .show plainS.app (a:=ν "'") ?_ λc j=>aeO c (g c j)
  unfold plainS;fin2
def Df(h:isName z=true):plainS z:=by
 unfold isName at h;rw[aaK]at h;intro c e;let h2:=h.2;unfold dZ at h2;rw[acE]at h2;let f:=of_decide_eq_true (h2 c e);let a:∀c∈iD.cps.toList,32<=c/\c<=122/\c≠46/\c≠47:=by fin2
 show a c f
theorem j4:∀ps:List Str,↥(aek " " ps)<=(ps.map (·.length)).sum+↥ps
 |[]=>by show(0:Nat)<=_;omega
 |[p]=>by
  show ↥p<=_;simp
 |p::q::r=>by
  let a:=j4 (q::r);let c:↥(" ":Str)=1:=by fin2
  show(p++ν " "++aek " " (q::r)).length<=_;rw[len_app,len_app,c];simp only[aen,apG,abU]at a⊢;omega
def j9(ps:List Str)(n:Nat)(h:∀p∈ps,↥p<=n):(ps.map (·.length)).sum<=↥ps*n:=by
 induction ps with
 |nil=>simp
 |cons p ps a=>
  let h1:=a λx c=>h x (by simp[c])
  let h2:=h p (by simp);simp only[aen,apG,abU,auz];omega
def lQ(h:isName z=true):↥z<=8:=by
 unfold isName at h;rw[aaK]at h;show(of_decide_eq_true h.1).2
def gH(a:Ρ cs=true)(g:z∈cs.map Prod.fst):isName z=true:=by
 let#[c,f,e]:=abz.mp g;unfold Ρ at a;simp only[aaK,acE]at a;rw[<-e];show(a.1.2 c f).1
def fV(nm:Nat->Str):dU->List Str
 |.all=>["all"]
 |.none p=>["none",nm p]
 |.look l p v=>[bC l,nm p,wordOf v]
def wT(nm:Nat->Str):Tr->List Str
 |.one s=>fV nm s
 |.nt t=>"not"::wT nm t
def Ξ(cs:List ξ)(p:Nat):Str:=match cs[p]? with
 |some c=>c.1
 |none=>ν ""
def vX(cs:List ξ):dU->Prop
 |.all=>True
 |.none p=>p<↥cs
 |.look l p v=>∃c,cs[p]?=↑c/\ak c.2 v/\v≠.non
def iB(cs:List ξ):Tr->Prop
 |.one s=>vX cs s
 |.nt t=>iB cs t
def AtW(nm:Nat->Str)(ws:List Str)(t:Tr)(s:Nat):=∃a,ws.drop s=wT nm t++a
def drop_cons{α:Type}{ws r:List α}{x:α}(h:ws.drop s=x::r):ws[s]?=↑x/\ws.drop (s+1)=r:=by
 let hs:s<↥ws:=by
  let h2:↥(ws.drop s)=↥(x::r):=by rw[h]
  rw[ael,abU]at h2;omega
 rw[agX hs]at h;injection h with h1 h2
 show#[by rw[aah hs,h1],h2]
def VN{α:Type}{ws a r:List α}(h:ws.drop s=a++r)(c:a≠[]):s+↥a<=↥ws:=by
 let h2:↥(ws.drop s)=↥(a++r):=by rw[h]
 rw[ael,abK]at h2;have:0<↥a:=asH.mpr c;omega
def yo(nm:Nat->Str)(s:dU):fV nm s≠[]:=by cases s<;>simp[fV]
def KQ(nm:Nat->Str)(t:Tr):wT nm t≠[]:=by
 cases t with
 |one s=>show yo nm s
 |nt t=>simp[wT]
theorem Wx:∀{cs:List ξ}{p:Nat}{c:ξ},(cs.map Prod.fst).Nodup->cs[p]?=↑c->ϣ cs c.1=p
 |d::r,0,c,f,e=>by
  have:d=c:= ~~~e
  subst this;show(if d.1=d.1 then 0 else ϣ r d.1+1)=0;rw[if_pos rfl]
 |d::r,p+1,c,f,e=>by
  let g:r[p]?=↑c:= ~~~e
  let a:=ahC.mp f;let i:¬d.1=c.1:=λz=>a.1 (by rw[z];show abz.mpr #[c,aa1 g,rfl])
  show(if d.1=c.1 then 0 else ϣ r c.1+1)=p+1;rw[if_neg i,Wx a.2 g]
def rG(e:cs[p]?=↑c):Ξ cs p=c.1:=by
 unfold Ξ;rw[e]
def Vy(f:(cs.map Prod.fst).Nodup)(a:cs[p]?=↑c)(hs:s<60)(e:ws[s]?=↑c.1):dj cs ws s=↑p:=by
 unfold dj;rw[if_pos hs,e];show(if cs.any (λd=>decide (d.1=c.1))=true then some (ϣ cs c.1)else none)=↑p;rw[if_pos (by rw[aoa];show#[c,aa1 a,decide_eq_true rfl]),Wx f a]
theorem af4(hok:Ρ cs=true):∀{sv:dU},ws.drop s=fV (Ξ cs) sv++a->s+↥(fV (Ξ cs) sv)<=60->vX cs sv->rZ cs ws s sv (s+↥(fV (Ξ cs) sv))
 |.all,e,g,_=>#[(drop_cons (r:=a) e).1,rfl]
 |.none p,e,g,j=>by
   let m:(cs.map Prod.fst).Nodup:=by
    unfold Ρ at hok;simp only[aaK,decide_eq_true_eq]at hok;show hok.2
   let#[e1,n]:=drop_cons (r:=[Ξ cs p]++a) e;let#[f,_]:=drop_cons (r:=a) n;let o:=VN e (yo (Ξ cs) (.none p));let q:s+2<=60:=g;let u:cs[p]?=↑cs[p]:=aah j;rw[rG u]at f;show#[e1,o,Vy m u () f,rfl]
 |.look l p v,e,g,j=>by
   let m:(cs.map Prod.fst).Nodup:=by
    unfold Ρ at hok;simp only[aaK,decide_eq_true_eq]at hok;show hok.2
   let#[c,i,x,y]:=j;let#[e1,n]:=drop_cons (r:=[Ξ cs p,wordOf v]++a) e;let#[f,z]:=drop_cons (r:=[wordOf v]++a) n;let#[B,_]:=drop_cons (r:=a) z;let o:=VN e (yo (Ξ cs) (.look l p v));let q:s+3<=60:=g;rw[rG i]at f;let C:c.2="number"\/c.2="text":=by
    unfold Ρ at hok;simp only[aaK,acE]at hok;have:=(hok.1.2 c (aa1 i)).2;unfold pC at this;show of_decide_eq_true this
   show#[o,(),e1,Vy m i () f,#[c,_,i,B,(x.word C).1],y,rfl]
theorem Du(hok:Ρ cs=true):∀{t:Tr}{s:Nat},AtW (Ξ cs) ws t s->s+↥(wT (Ξ cs) t)<=60->iB cs t->Reads cs ws t s (s+↥(wT (Ξ cs) t))
 |.one sv,s,e,c,f=>by
   let#[a,e]:=e;let l:0<↥(fV (Ξ cs) sv):=asH.mpr (yo (Ξ cs) sv);let g:s+↥(fV (Ξ cs) sv)<=60:=c;show#[(),af4 hok e c f]
 |.nt t,s,e,c,f=>by
   let#[a,e]:=e;let#[e1,i]:=drop_cons (r:=wT (Ξ cs) t++a) e;let g:s+(↥(wT (Ξ cs) t)+1)<=60:=c;show#[(),e1,?_];have:=Du hok (t:=t) #[a,i] () f;let j:s+↥(wT (Ξ cs) (.nt t))=s+1+↥(wT (Ξ cs) t):=by show s+(↥(wT (Ξ cs) t)+1)=_;omega
   rw[j];show this
def join_cons(a:b≠[]):aek " " (x::b)=x++ν " "++aek " " b:=by
 match b,a with
 |y::r,_=>rfl
theorem aam(h:isName z=true):32∉z.cps.toList:=λa=>by
 unfold isName dZ at h;rw[aaK,acE]at h;show absurd (of_decide_eq_true (h.2 32 a)) (by fin2)
theorem aib(hok:Ρ cs=true):∀{sv:dU},vX cs sv->∀z∈fV (Ξ cs) sv,↥z<=21/\32∉z.cps.toList/\plainS z
 |.all,_,z,f=>by
   have:z=ν "all":=by simpa [fV]using f
   subst this;show#[by fin2,by fin2,by unfold plainS;fin2]
 |.none p,g,z,f=>by
   let a:z=ν "none"\/z=Ξ cs p:=by simpa [fV]using f
   obtain rfl|rfl:=a
   .show#[by fin2,by fin2,by unfold plainS;fin2]
   .let m:cs[p]?=↑cs[p]:=aah g;rw[rG m];let e:=gH hok (abz.mpr #[cs[p],ajf g,rfl]);show#[by have:=lQ e;omega,λh=>by have:=(aam e);show this h,Df e]
 |.look l p v,g,z,f=>by
   let#[c,i,j,o]:=g;let a:z=bC l\/z=Ξ cs p\/z=wordOf v:=by simpa [fV]using f
   let e:=gH hok (abz.mpr #[c,aa1 i,rfl]);let n:c.2="number"\/c.2="text":=by
    unfold Ρ at hok;simp only[aaK,acE]at hok;have:=(hok.1.2 c (aa1 i)).2;unfold pC at this;show of_decide_eq_true this
   obtain rfl|rfl|rfl:=a
   .cases l<;>show#[by fin2,by fin2,by unfold plainS;fin2]
   .rw[rG i];show#[by have:=lQ e;omega,aam e,Df e]
   .let hw:=j.word n;show#[hw.2.1,hw.2.2.1,j.plain]
theorem uq(hok:Ρ cs=true):∀{t:Tr},iB cs t->∀z∈wT (Ξ cs) t,↥z<=21/\32∉z.cps.toList/\plainS z
 |.one s,a,z,hz=>aib hok a z hz
 |.nt t,a,z,hz=>by
   obtain rfl|hz:=aaF.mp hz
   .show#[by fin2,by fin2,by unfold plainS;fin2]
   .show uq hok (t:=t) a z hz
def qP(cs:List ξ)(z:Str)(n d:Nat):=∃t,iB cs t/\t.dep<=d/\z=aek " " (wT (Ξ cs) t)/\↥(wT (Ξ cs) t)<=n
def qP.len(hok:Ρ cs=true)(h:qP cs z n d):↥z<=22*n:=by
 let#[t,a,_,rfl,e]:=h;let h1:=j9 (wT (Ξ cs) t) 21 λp c=>(uq hok a p c).1
 let h2:=j4 (wT (Ξ cs) t);omega
def qP.good(hok:Ρ cs=true)(h:qP cs z n d)(m:n<=60)(hd:d<=20):plainS z/\↥z<=2800/\(∀y∈ώ 32 z,↥y<=900)/\∃t:Tr,t.dep<=20/\Reads cs (ώ 32 z) t 0 ↥(ώ 32 z):=by
 let c:=h.len hok;let#[t,e,g,rfl,o]:=h;let a:=uq hok e;let f:ώ 32 (aek " " (wT (Ξ cs) t))=wT (Ξ cs) t:=tM (KQ (Ξ cs) t) λz i=>(a z i).2.1
 show#[plainS.join λp j=>(a p j).2.2,(),by rw[f];show λy l=>by have:=(a y l).1;omega,t,(),?_];rw[f];have:=Du hok (ws:=wT (Ξ cs) t) (t:=t) (s:=0) #[[],by simp] () e;rw[aqB]at this;show this
def jJ(H:Hp)(v:V):Tr->Prop
 |.one .all=>∃t,v=.ref t/\H t=↑(.tup [.str ("all":Str)])
 |.one (.none p)=>∃t,v=.ref t/\H t=↑(.tup [.str ("none":Str),.int p])
 |.one (.look l p x)=>∃t,v=.ref t/\H t=↑(.tup [.str (bC l),.int p,x])
 |.nt t=>∃a u,v=.ref a/\H a=↑(.tup [.str ("not":Str),u])/\jJ H u t
theorem jJ.same(s:ζ H H'):∀{t:Tr}{v:V},jJ H v t->jJ H' v t
 |.one .all,_,⟨t,e,h⟩=>#[t,e,s<*h]
 |.one (.none p),_,⟨t,e,h⟩=>#[t,e,s<*h]
 |.one (.look l p x),_,⟨t,e,h⟩=>#[t,e,s<*h]
 |.nt t,_,⟨a,u,e,h,g⟩=>#[a,u,e,s<*h,jJ.same s g]
def sH:Tr->Prop
 |.one _=>True
 |_=>False
def mV:Tr->Prop
 |.nt t=>sH t
 |t=>sH t
def agz(c:0<=d)(h1:d<3):∃l:Lk,Ι [V.str ("is":Str),V.str ("under":Str),V.str ("over":Str)] d=↑(.str (bC l)):=by
 by_cases a:d=0
 .show#[.is,by rw[a];rfl]
 .by_cases e1:d=1
  .show#[.under,by rw[e1];rfl]
  .show#[.over,by rw[show d=2 by omega];rfl]
def agI(c:0<=d)(h1:d<2):∃l:Lk,Ι [V.str ("under":Str),V.str ("over":Str)] d=↑(.str (bC l)):=by
 by_cases a:d=0
 .show#[.under,by rw[a];rfl]
 .show#[.over,by rw[show d=1 by omega];rfl]
inductive W5(K:ϩ):Sp
 |mk (a:δ) (ns:List Int) (k:Int) (b:δ) (cs:List ξ):vs=[.ref a,.int k,.ref b]->θ K H a (ns.map V.int)->↥ns<=63->0<=k->k<=40000->Ϗ H b cs->1<=↥cs->↥cs<=6->(∀v t H',ζ H H'->jJ H' v t->mV t->iB cs t->Q v H')
def Gm:Def 4 "_law_sieve" ["_law_script","_law_k","_law_columns_here"] (W5 K):=by
 exists abI,Gm,hr,#[a,ns,k,b,cs,rfl,v,B,Y,Z,#[vs,hb,g],c1,c6,q],2,n1.bj,1;let hvl:=g.len;let J:θ K H b vs:=θ.of hb;let D1:=!gD;let D2:=!Cm;k_go;show#[a,ns,k,8,rfl,v,B,(),(),by decide,?_];let w0:=aD ns k (m:=8) (by decide);let w1:=aA ns k (m:=8) (by decide);generalize Υ ns k 8=way at w0 w1⊢;k_go;show#[a,ns,k+1,_,rfl,v,B,(),(),(),?_];let L:=aD ns (k+1) (m:=(↥vs:Int)) ();let a1:=aA ns (k+1) (m:=(↥vs:Int)) ();generalize Υ ns (k+1) (↥vs:Int)=at_ at L a1⊢;let#[p,rfl]:=aa4 L;let i:p<↥vs:=()
 let#[c,hc,tc,ec,j]:=g.get (aah i);let M:vs[p]?=↑(.ref tc):=by rw[<-ec];show aah i
 w_up;show Δ ?_>>=Β (λ_=>?_) (λh3=>?_)
 .f_len;show ψ ?_>>=#[ω,λt f=>?_]*>q _ (.one .all) _ (ζ.upd f) #[t,rfl,ο] trivial trivial
 show Α ?_;w_up;show Δ ?_>>=Β (λ_=>?_) (λh4=>?_)
 .f_len;show ψ ?_>>=#[ω,λt f=>?_]*>q _ (.one (.none p)) _ (ζ.upd f) #[t,rfl,ο] trivial (by show p<↥cs;omega)
 let hw4:4<=way:=by
  let h4':¬way=3:=λe=>h4 (by rw[e])
  omega
 show Α ?_;k_go;show ϐ J (aJ M) ?_>>=ϋ (ρ.of j) (show Ι [V.str c.1,V.str c.2] 1=↑(V.str c.2)from rfl) ?_>>=#[a,ns,k+2,c.2,rfl,v,B,(),(),λx H1 n hx=>?_];let fin:∀(y:V)(H2:Hp),ζ H H2->ak c.2 y->¬y=.non->Ζ X ((Ψ HB).drop 6) {nx:=λ_ H'=>Q .non H',rt:=Q} [↑(.ref a),↑(.int k),↑(.ref b),↑(.int way),↑(.int p),↑y] H2:=by
  intro y H2 C hy Ϻ;let good:∀l:Lk,vX cs (.look l p y):=λl=>#[c,hc,hy,Ϻ]
  w_up;show Δ ?_>>=Β (λ_=>?_) (λh7=>?_)
  .f_len;show ψ ?_>>=#[ω,λz D=>?_];let#[sz,o,H2,z,O]:=Θ D (.lst [.str ("under":Str),.str ("over":Str)]);lk;show#[a,ns,k+5,2,rfl,(C<|>sz).seq v,B,(),(),by decide,?_];let#[l,F]:=agI (aD ns (k+5) (m:=2) (by decide)) (aA ns (k+5) (m:=2) (by decide));show ϐ (θ.of o) F ?_>>=#[ω,λt f=>?_];let#[st,R,O,t,U]:=Θ f (.tup [.str (bC l),.int p,y]);lk;show#[ω,λW cH=>?_];let u:ζ U (upd U W (.tup [.str ("not":Str),.ref t])):=ζ.upd cH;show q _ (.nt (.one (.look l p y))) _ (((C<|>sz)<|>st)<|>u) #[W,.ref t,rfl,ο,t,rfl,u<*R] trivial (good l)
  .let hw7:way<7:=by
    let h7':¬way=7:=λe=>h7 (by rw[e])
    omega
   show Α ?_;symm;lk;show #[ω,λz D=>?_];let#[sz,o,H2,z,O]:=Θ D (.lst [.str ("is":Str),.str ("under":Str),.str ("over":Str)]);lk;let#[l,F]:=agz (d:=way-4) () ();show ϐ (θ.of o) F ?_>>=#[ω,λt f=>?_]*>q _ (.one (.look l p y)) _ ((C<|>sz)<|>(ζ.upd f)) #[t,rfl,ο] trivial (good l)
 w_up;show Δ ?_>>=Β (λe=>?_) (λe=>Α (fin x H1 n hx e));f_len;f_tup;lk;show ϐ (n.seq J) (aJ M) ?_>>=ϋ (ρ.of (n<*j)) (show Ι [V.str c.1,V.str c.2] 1=↑(V.str c.2)from rfl) ?_>>=Β (λG=>?_) (λG=>?_)
 .lk;let I:c.2="number":=by injection G
  show fin _ H1 n (.inr (.inl #[I,0,rfl,by decide,by decide])) nofun
 .lk;let I:¬c.2="number":=λz=>G (by rw[z])
  show fin _ H1 n (.inr (.inr #[I,_,rfl,by fin2,by fin2])) nofun
inductive W4:Sp
 |mk (v:V) (kd:Str):vs=[v]->ak kd v->Q (.str (wordOf v)) H
def Bw:Def 1 "_law_word" ["_law_value_here"] W4:=by
 exists ["_law_value_here"],Bw,c,#[v,e,rfl,a,q],f.wN,g.lG,j.yJ,1;let l:↥("'":Str)=1:=by fin2
 w_up;show Δ ?_;lk;obtain rfl|⟨_,i,rfl,h1,h2⟩|⟨_,z,rfl,m,_⟩:=a
 .show cX ?_;symm;lk;show q
 .show Β (λh=>nomatch h) (λ_=>?_)*>Α ?_;symm;lk;show lA (fW ?_) ?_
  .have :(10:Nat)^60>1000000000000000000:=by decide
   omega
  show q
 .show Β (λh=>nomatch h) (λ_=>?_)*>Α ?_;symm;lk;show bW () ?_*>q
def abV(l:Lk):¬V.str (bC l)=V.str ("all":Str)/\¬V.str (bC l)=V.str ("not":Str)/\¬V.str (bC l)=V.str ("none":Str)/\↥(bC l)<=5:=by
 cases l<;>show#[by fin2,by fin2,by fin2,by fin2]
inductive DG(K:ϩ)(ok:Tr->Prop):Sp
 |mk (v:V) (b:δ) (cs:List ξ) (t:Tr):vs=[v,.ref b]->Ϗ H b cs->Ρ cs=true->jJ H v t->ok t->iB cs t->(∀H',ζ H H'->Q (.str (aek " " (wT (Ξ cs) t))) H')
def ZR(T:Txt K mg)(Z:1<=k)(hr:ϛ true k (A.deeper (envOfC "_law_sieve_text" (ς vz) ⇑s f J)))(R:Ϗ H b cs)(hok:Ρ cs=true)(B:jJ H v t)(hs:sH t)(C:iB cs t)(q:∀H',ζ H H'->Q (.str (aek " " (wT (Ξ cs) t))) H'):Ζ (fD true P w K mg base Tc "_law_sieve_text" (ς vz) f J A outer s H E) (Ψ vz) {nx:=λ_ H'=>Q .non H',rt:=Q} [↑v,↑(.ref b),none] H:=by
 let nd:=HJ.nd;let n1:=T.bj;let hsz:=Ϯ;let S:↥(" ":Str)=1:=by fin2
 let D1:=!Bw;let#[vs,L,m]:=R;let U:=m.len;let D:=uq hok C;let bound:((wT (Ξ cs) t).map (·.length)).sum+↥(wT (Ξ cs) t)*↥(" ":Str)<=16777216:=by
  let h1:=j9 (wT (Ξ cs) t) 21 λp M=>(D p M).1
  let h2:↥(wT (Ξ cs) t)<=3:=by
   cases t with
   |one sv=>cases sv<;>simp[wT,fV]
   |_=>show hs.elim
  rw[S];omega
 cases t with
 |nt t=>show hs.elim
 |one sv=>
  cases sv with
  |all=>
   let#[t,rfl,g]:=B;w_up;show Δ ?_>>=ϋ (ρ.of g) (show Ι [V.str ("all":Str)] 0=↑(V.str ("all":Str))from rfl) ?_>>=cX ?_;symm;lk;show q H (ζ.refl _)
  |none p=>
   let#[t,rfl,g]:=B;let M:p<↥cs:=C;let#[c,z,tc,W,n]:=m.get (aah (show p<↥vs by omega));let G:vs[p]?=↑(.ref tc):=by rw[<-W];show aah _
   let a:Ι [V.str ("none":Str),V.int (p:Int)] 0=↑(V.str ("none":Str)):=rfl;let o:Ι [V.str ("none":Str),V.int (p:Int)] 1=↑(V.int (p:Int)):=rfl;w_up;show Δ ?_>>=ϋ (ρ.of g) a ?_>>=cA ?_*>Α ?_;w_up;show Δ ?_>>=ϋ (ρ.of g) a ?_>>=cA ?_*>Α ?_;k_go;show ϋ (ρ.of g) a ?_>>=ϋ (ρ.of g) o ?_*>ϐ (θ.of L) (aJ G) ?_>>=ϋ (ρ.of n) (show Ι [V.str c.1,V.str c.2] 0=↑(V.str c.1)from rfl) ?_>>=#[ω,λy i=>?_];let#[j,e1,H,y,H1]:=Θ i (.lst [.str ("none":Str),.str c.1]);w_up;show Δ ?_>>=xg (.inr (ρ.of (j<*g))) ?_>>=Β (λh=>absurd h (by show ¬((2:Nat):Int)>2;decide)) (λ_=>?_)*>Α ?_;symm;lk;show jy (ys:=wT (Ξ cs) (.one (.none p))) ?_ bound (q H1 j)*>θ.of ?_;rw[e1];show _=↑(HO.lst [V.str ("none":Str),V.str (Ξ cs p)]);rw[rG z]
  |look l p x=>
   let#[t,rfl,g]:=B;let#[c,z,X,Ϻ]:=C;let#[wv,G,tc,rfl,n]:=m.get' z;let#[k1,k2,k3,k4]:=abV l;let a:Ι [V.str (bC l),V.int (p:Int),x] 0=↑(V.str (bC l)):=rfl;let o:Ι [V.str (bC l),V.int (p:Int),x] 1=↑(V.int (p:Int)):=rfl;let I:Ι [V.str (bC l),V.int (p:Int),x] 2=↑x:=rfl;w_up;show Δ ?_>>=ϋ (ρ.of g) a ?_>>=Β (λh=>absurd h k1) (λ_=>?_)*>Α ?_;w_up;show Δ ?_>>=ϋ (ρ.of g) a ?_>>=Β (λh=>absurd h k2) (λ_=>?_)*>Α ?_;k_go;show ϋ (ρ.of g) a ?_>>=ϋ (ρ.of g) o ?_*>ϐ (θ.of L) (aJ G) ?_>>=ϋ (ρ.of n) (show Ι [V.str c.1,V.str c.2] 0=↑(V.str c.1)from rfl) ?_>>=#[ω,λy i=>?_];let#[j,e1,H,y,H1]:=Θ i (.lst [.str (bC l),.str c.1]);w_up;show Δ ?_>>=xg (.inr (ρ.of (j<*g))) ?_>>=Β (λ_=>?_) (λh=>absurd (by show((3:Nat):Int)>2;decide) h);f_len;show Ϛ (bA F.plainAttrs_list F.slot_list_append F.type_list_append (h:=?_))>>=#[.inl #[rfl,_,θ.of e1],?_]>>=ϋ (ρ.of (j<*g)) I ?_>>=#[x,c.2,rfl,X,?_]>>=dD iZ #[y,_,_,rfl,rfl,e1,by show 2<ϰ;omega,?_];let Y:ζ H (upd H1 y (.lst ([.str (bC l),.str c.1]++[.str (wordOf x)]))):=λe u O=>by
    rw[ι (Ω O i)];show j<*O
   symm;lk;show jy (ys:=wT (Ξ cs) (.one (.look l p x))) ?_ bound (q _ Y)*>θ.of ?_;rw[ο];show _=↑(HO.lst [V.str (bC l),V.str (Ξ cs p),V.str (wordOf x)]);rw[rG z];rfl
def amZ:Def 2 "_law_sieve_text" ["_law_sieve_here","_law_columns_here"] (DG K sH):=by
 exists HJ,ur,a,#[v,b,cs,t,rfl,c,hok,e,hs,f,q];show ZR T (Ϭ _) a c hok e hs f q
def ur:Def 3 "_law_sieve_text" ["_law_sieve_here","_law_columns_here"] (DG K mV):=by
 exists HJ,ur,j,#[v,b,cs,t,rfl,g,hok,i,hs,c,q];cases t with
 |one sv=>show ZR T (by decide) j g hok i hs c q
 |nt t=>
  let hsz:=Ϯ;let ln:↥("not ":Str)=4:=by fin2
  let o:=!amZ;let#[a,u,rfl,f,l]:=i;w_up;show Δ ?_>>=ϋ (ρ.of f) (show Ι [V.str ("not":Str),u] 0=↑(V.str ("not":Str))from rfl) ?_>>=cA ?_*>Α ?_;w_up;show Δ ?_>>=ϋ (ρ.of f) (show Ι [V.str ("not":Str),u] 0=↑(V.str ("not":Str))from rfl) ?_>>=cX ?_;symm;lk;show ϋ (ρ.of f) (show Ι [V.str ("not":Str),u] 1=↑u from rfl) ?_>>=#[u,b,cs,t,rfl,g,hok,l,hs,c,λH1 m=>?_];let p:=qP.len hok (n:=↥(wT (Ξ cs) t)) (d:=t.dep) #[t,c,Ϭ _,rfl,Ϭ _];let s:↥(wT (Ξ cs) t)<=3:=by
   cases t with
   |one sv=>cases sv<;>simp[wT,fV]
   |_=>show hs.elim
  show bW () ?_;let e:aek " " (wT (Ξ cs) (.nt t))=ν "not "++aek " " (wT (Ξ cs) t):=by
   show aek " " (ν "not"::wT (Ξ cs) t)=_;rw[join_cons (KQ (Ξ cs) t)];rfl
  rw[e]at q;show q H1 m
def zB:Def 1 "_law_order_text" ["_law_order_here"] Kw:=by
 exists ["_law_order_here"],zB,hr,#[a,os,rfl,#[vs,I,e],hl,v,q];let y:(["_law_name","_law_up"]:List Str).Nodup:=by fin2
 let hsz:=Ϯ;let J:=e.len;let z:↥("+":Str)=1:=by fin2
 let B:↥("-":Str)=1:=by fin2
 let L:↥(" ":Str)=1:=by fin2
 symm;show bA F.plainAttrs_str F.slot_str_join F.type_str_join (h:=?_);f_are;show#[by rfl,dF (by rfl) ?_]*>jm ["_law_name","_law_up"] (σ':=[none,none]) (bh (ς Ss)) ?_;f_are;show#[a,vs,rfl,θ.of I,(),λD=>∃o1 o2,D=[o1,o2],λg i u H'=>∃c,os[i]?=↑c/\u=.str (Ϟ c),#[none,none,rfl],λg i u H2 M ys _ _ p=>p,λfp g C s3 H0 i D x G M O hi j m R S=>?_,λg G ys O U n W m =>?_]
 .let#[o1,o2,rfl]:=j;let#[Y,rfl]:=S;let#[c,s,t,rfl,Z]:=e.get Y;let hcn:=v c (aa1 s);show aG (ρ.of (m<*Z)) (Μ (Ε y (Μ (Ε y (aH ?_)))));cbv;show kh (λh=>?_) (λh=>?_)
  .cbv;show bW (by rw[z];omega) ?_*>#[#[_,_,rfl],#[c,s,by unfold Ϟ;rw[if_pos h]],ζ.refl _]
  .cbv;show bW (by rw[B];omega) ?_*>#[#[_,_,rfl],#[c,s,by unfold Ϟ;rw[if_neg (by rw[h];show aa5)]],ζ.refl _]
 .let ey:=fL (ys:=os) (λc=>V.str (Ϟ c)) (by rw[U,J]) n;let gn:ys=(os.map Ϟ).map V.str:=by rw[ey,afR];rfl
  subst gn;cbv;show jy (θ.of W) ?_ (q G m);rw[L,aau];let f:∀l:List Ord,(∀o∈l,↥o.1<=1000)->((l.map Ϟ).map (·.length)).sum<=↥l*1001:=by
   intro l;induction l with
   |nil=>intro _;simp
   |cons o l ih=>
    intro h;let h1:=ih λx hx=>h x (by simp[hx])
    let h2:=h o (by simp);let h3:↥(Ϟ o)<=1001:=by
     unfold Ϟ;rw[len_app];split
     .rw[z];omega
     .rw[B];omega
    simp only[aen,apG,abU];omega
  have:=f os v;omega
def vG(H H':Hp)(v:V)(r:Row):=∃t l,v=.ref t/\H' t=↑(.tup [.int r.1,.ref l])/\H l=↑(.lst r.2)
def vG.row(h:vG H H' v r)(s:ζ H H'):d9 H' v r:=by
 let#[t,l,e,e1,a]:=h;show#[t,l,e,e1,s<*a]
theorem ao.len(h:ao cs r):↥r.2=↥cs:=(χ.len h).symm
inductive yW(K:ϩ)(mg:MG)(t:Tr):Sp
 |mk (a p:δ) (z:Str) (rs:List Row):vs=[.ref a,.ref p]->dN mg H t a z->cG H p rs->↥rs<=1000->(∀r∈rs,yM r.2 t)->(∀q ws H',ζ H H'->H q=none->H' q=↑(.lst ws)->χ (vG H H') ws (rs.filter λr=>cW r.2 t)->Q (.ref q) H')
def alf(rs:List Row)(f:Row->Bool):(jO (λi=>f (rs.getD i (0,[]))) ↥rs).map (λi=>rs.getD i (0,[]))=rs.filter f:=by
 unfold jO;let h:=map_getD (0,[]) rs
 conv=>rhs;rw[<-h]
 rw[List.filter_map];rfl
theorem O6{α β c:Type}{R:α->c->Prop}(g:β->c):∀{l:List α}{m:List β},χ (λa b=>R a (g b)) l m->χ R l (m.map g)
 |_,_,.nil=>.nil
 |_,_,.cons h t=>.cons h (O6 g t)
def tV(t:Tr):Def (4+t.dep) "let_through" ["sieve","rows"] (yW K mg t):=by
 rw[show 4+t.dep=(3+t.dep)+1 by omega];exists ["sieve","rows"],tV,R,#[a,p,z,rs,rfl,G,#[ws,S,g],hl,U,q],1;let o:=g.len;let I:(["row","values","sieve"]:List Str).Nodup:=by fin2
 symm;show anp ["row","values","sieve"] (σ':=[none,none,↑(.ref a)]) (by rfl) (by rfl) (bh (ς Wg)) (by intro _;rfl) ?_>>=#[p,ws,rfl,θ.of S,(),λJ=>∃o1 o2,J=[o1,o2,↑(.ref a)],λi=>cW (rs.getD i (0,[])).2 t,λj i u H'=>u≠.ref j/\vG H H' u (rs.getD i (0,[])),#[none,none,rfl],λj i v H2 H3 ys W Y h=>?_,λfp j C s3 H0 i J x H2 L Z s f c=>?_,λj H2 us L e2 M f=>?_]
 .let#[h0,y,l,e,h1,h2]:=h;show#[h0,y,l,e,Y _ _ (λz=>by rw[z,W]at h1;cases h1) h1,h2]
 .let#[o1,o2,rfl]:=s;let#[r,m,tr,O,rfl,B,n]:=g.get Z;let#[ys,c]:=c;let D:rs.getD i (0,[])=r:=by rw[abP,m];rfl
  let#[da,fa,ea,la]:=(G.same f).ins;show aG (ρ.of (f<*B)) (Μ (Ε I (Μ (Ε I (aH ?_)))))*>Nk (λ_=>by rfl) ?_*>bD (pl:=_) R (by walk_at"xo") (by rfl) (by rfl) (by rfl) ?_;f_are;show#[a,iT mg t,da,_,true,3+t.dep,_,p8 K mg t,rfl,ea,la,W0 T t,Ϭ _,id,?_]>>=#[a,O,z,r.2,rfl,G.same f,θ.of (f<*n),U r (aa1 m),?_]*>#[_,rfl,(by show cW r.2 t=cW (rs.getD i (0,[])).2 t;rw[D]),#[_,_,rfl],ζ.refl _,λ_=>?_]>>=#[ω,λy F=>?_]*>#[#[λz=>?_,y,O,rfl,by rw[D];show ο,by rw[D];show n],ζ.upd F];injection z with z
  rw[z,c]at F;cases F
 .rw[o]at M;let EY:χ (vG H H2) us (rs.filter λr=>cW r.2 t):=by
   rw[<-alf rs λr=>cW r.2 t];show O6 _ (M.imp λu i z=>by
    show z.2)
  show q j us H2 f L e2 EY
theorem Kl{α:Type}:∀{m:List (Int×α)}{p:Int×α},(m.map (·.1)).Nodup->p∈m->Κ m p.1=↑p.2
 |q::m,p,f,hp=>by
  let a:=ahC.mp f;obtain rfl|hp:=aaF.mp hp
  .unfold Κ;rw[afC,decide_eq_true rfl];rfl
  .let g:¬q.1=p.1:=λe=>a.1 (abz.mpr #[p,hp,e.symm])
   let c:=Kl a.2 hp;unfold Κ at c⊢;rw[afC,decide_eq_false g];show c
def Aw(a:(rows.map (·.1)).Nodup)(h:ks.Perm (rows.map (·.1))):(aX rows ks).Perm rows:=by
 let h1:(aX rows ks).Perm (aX rows (rows.map (·.1))):=h.map _;let h2:aX rows (rows.map (·.1))=rows:=by
  unfold aX;rw[afR];have:rows.map ((λk=>(k,(Κ rows k).getD []))∘λx=>x.1)=rows.map id:=anO λp c=>by
   show(p.1,(Κ rows p.1).getD [])=p;rw[Kl a c];rfl
  rw[this,as5]
 rw[h2]at h1;show h1
theorem aiR(h:χ (λ(c:ξ) x=>ak c.2 x) cs xs):∀{sv:dU},vX cs sv->Yi xs sv
 |.all,_=>trivial
 |.none p,a=>by
   have:=h.len;show p<↥xs;let q:p<↥cs:=a;omega
 |.look l p v,a=>by
   let#[c,s,n,o]:=a;let#[x,u,f]:=h.get s;show#[x,u,?_];obtain e|⟨g,i,rfl,_⟩|⟨g,y,rfl,_⟩:=f
   .show .inl e
   .right;obtain e|⟨_,j,rfl,_⟩|⟨m,_⟩:=n
    .show absurd e o
    .cases l<;>show#[rfl,rfl,.inr (.inr (.inl #[i,j,rfl,rfl]))]
    .show absurd g m
   .right;obtain e|⟨m,_⟩|⟨_,z,rfl,_⟩:=n
    .show absurd e o
    .show absurd m g
    .cases l<;>show#[rfl,rfl,.inr (.inr (.inr #[y,z,rfl,rfl]))]
theorem yw(h:χ (λ(c:ξ) x=>ak c.2 x) cs xs):∀{t:Tr},iB cs t->yM xs t
 |.one s,a=>aiR h a
 |.nt t,a=>yw h (t:=t) a
def _root_._V.Out.seq(o:Out S H H')(c:a∉S)(h:θ K H a xs):θ K H' a xs:=by
 rcases h with(h|⟨u,h⟩)|h
 .show .inl (.inl (o _ _ c h))
 .show .inl (.inr #[u,o _ _ c h])
 .show .inr h
def aeS(h:θ K H a xs):H a≠none\/∀H',θ K H' a xs:=by
 rcases h with(h|⟨u,h⟩)|h
 .show .inl (by rw[h];nofun)
 .show .inl (by rw[h];nofun)
 .show .inr λ_=>.inr h
def uD{L:List δ}(h:L.Nodup)(is f:List Nat)(hd:∀i∈is,i∉f):∀x∈is.filterMap (λi=>L[i]?),x∉f.filterMap (λi=>L[i]?):=by
 intro x o p;let#[i,hi,g]:=amr.mp o;let#[j,q,l]:=amr.mp p;let a:=(aak.mp g).1;let c:=(aak.mp l).1;let e1:=(aak.mp g).2;let m:=(aak.mp l).2;let e:i=j:=by
  let n:=asN.mp h;obtain z|z|z:=Nat.lt_trichotomy i j
  .show absurd (e1<|>m.symm) (n i j a c z)
  .show z
  .show absurd (m<|>e1.symm) (n j i c a z)
 subst e;show hd i hi q
def NT(H:Hp)(S:List δ):=∀x∈S,∀ys,H x≠↑(.tup ys)
theorem NT.tup(h:NT H S)(o:Out S H H'):∀b ys,H b=↑(.tup ys)->H' b=↑(.tup ys):=λb ys e=>o b _ (λz=>h b z ys e) e
def _root_._V.BA.six(A:BA):List δ:=[A.h,A.r,A.t,A.d,A.b,A.dx]
def _root_._V.Χ.Fw(k:Χ C H A B):A.six.Nodup:=by
 let#[l,m,n,o,n5,p,q,s,u,a,v,c]:=k.ne;let f:=k.rt;let g:=k.hd;let i:A.h≠A.dx:=λe=>by
  let#[_,j,_]:=k.heads;let h2:=k.own;rw[e,h2]at j;cases j
 simp only[BA.six,ahC,aaF,aet,or_false,not_or,not_false_eq_true,List.nodup_nil,and_true];show#[#[Ne.symm q,Ne.symm a,g,Ne.symm m,i],#[f,s,Ne.symm n,p],#[v,Ne.symm o,u],#[Ne.symm n5,c],l]
def _root_._V.Χ.on6(k:Χ C H A B):∀x∈A.six,H x≠none:=by
 intro x c;let a:x=A.h\/x=A.r\/x=A.t\/x=A.d\/x=A.b\/x=A.dx:=by simpa [BA.six]using c
 let#[_,e,_]:=k.heads;let#[_,f,_]:=k.rows;let#[_,g,_]:=k.touched;let#[_,i,_]:=k.done;obtain rfl|rfl|rfl|rfl|rfl|rfl:=a
 .rw[e];nofun
 .rw[f];nofun
 .rw[g];nofun
 .rw[i];nofun
 .rw[k.ins];nofun
 .rw[k.own];nofun
def alD{A:BA}(c:x∈[A.b,A.dx,A.h,A.r,A.t,A.d]):x∈A.six:=by
 let a:x=A.b\/x=A.dx\/x=A.h\/x=A.r\/x=A.t\/x=A.d:= ~~~c
 obtain rfl|rfl|rfl|rfl|rfl|rfl:=a<;>simp[BA.six]
theorem _root_._V.Χ.out(k:Χ C H A B)(o:Out S H H')(nt:NT H S)(a:∀x∈A.six,x∉S):Χ C H' A B:=
 k.stay (nt.tup o) λx u c e=>o x u (a x (alD c)) e
theorem _root_._V.Ϗ.out(h:Ϗ H a cs)(o:Out S H H')(nt:NT H S)(c:a∉S):Ϗ H' a cs:=h.stay (λxs e=>o _ _ c e) (nt.tup o)
def made{H H':Hp}{y dx:δ}{A:BA}(f:H y=none)(a:H dx=none)(i:A.b=y)(j:A.dx=dx)(l:(upd (upd H dx (.own y)) y (.ins C dx [])) A.h=none)(m:(upd (upd H dx (.own y)) y (.ins C dx [])) A.r=none)(n:(upd (upd H dx (.own y)) y (.ins C dx [])) A.t=none)(p:(upd (upd H dx (.own y)) y (.ins C dx [])) A.d=none)(o:Out [y] (upd (upd H dx (.own y)) y (.ins C dx [])) H'):ζ H H'/\∀x∈A.six,H x=none:=by
 let c:ζ H (upd (upd H dx (.own y)) y (.ins C dx [])):=λb u e=>by
  rw[ι (λz=>by rw[z,f]at e;cases e),ι (λz=>by rw[z,a]at e;cases e)];show e
 show#[λb u e=>o b u (λz=>by rw[adF.mp z,f]at e;cases e) (c b u e),λx q=>?_];let g:x=A.h\/x=A.r\/x=A.t\/x=A.d\/x=A.b\/x=A.dx:=by simpa [BA.six]using q
 obtain rfl|rfl|rfl|rfl|rfl|rfl:=g
 .show c.free l
 .show c.free m
 .show c.free n
 .show c.free p
 .rw[i];show f
 .rw[j];show a
def LR(F:List δ)(H:Hp)(v:V)(xs:List V):=∃l,v=.ref l/\H l=↑(.lst xs)/\l∉F
def amH(F:List δ)(H:Hp)(a:δ)(m:List (Int×List V)):Prop:=DictAt (LR F H) H a m
def LR.stay(h:LR F H v xs)(s:∀b ys,b∉F->H b=↑(.lst ys)->H' b=↑(.lst ys)):LR F H' v xs:=by
 let#[l,e,h1,h2]:=h;show#[l,e,s _ _ h2 h1,h2]
def lJ(cs:List ξ)(xs:List V):Prop:=χ (λc x=>ak c.2 x) cs xs
def stK(r s:δ)(n:Int):List (Key×V):=[(Sum.inr ("rows":Str),.ref r),(Sum.inr ("since":Str),.ref s),(Sum.inr ("moment":Str),.int n)]
def key_ne:¬(Sum.inr ("rows":Str):Key)=Sum.inr ("since":Str)/\¬(Sum.inr ("rows":Str):Key)=Sum.inr ("moment":Str)/\¬(Sum.inr ("since":Str):Key)=Sum.inr ("moment":Str):=by
 show#[?_,?_,?_]<;>intro e<;>injection e with e<;>show absurd e (by fin2)
theorem ab4(r s:δ)(n:Int):aK (stK r s n) (Sum.inr ("rows":Str))=↑(.ref r):=zr rfl
def aiu(r s:δ)(n:Int):aK (stK r s n) (Sum.inr ("since":Str))=↑(.ref s):=by
 unfold stK;rw[zY key_ne.1,zr rfl]
def af2(r s:δ)(n:Int):aK (stK r s n) (Sum.inr ("moment":Str))=↑(.int n):=by
 unfold stK;rw[zY key_ne.2.1,zY key_ne.2.2,zr rfl]
def agN(r s:δ)(n m:Int):putK (stK r s n) (Sum.inr ("moment":Str)) (.int m)=stK r s m:=by
 unfold putK stK;simp[key_ne.2.1,key_ne.2.2]
def aer(r s:δ):mF [] [(Sum.inr ("rows":Str),V.ref r),(Sum.inr ("since":Str),V.ref s),(Sum.inr ("moment":Str),V.int 0)]=stK r s 0:=by
 simp[mF,putK,stK,key_ne.1,key_ne.2.1,key_ne.2.2]
def pU(e:H d=↑(.dK (stK r s n))):Ϥ H d (.str ("rows":Str)) ↑(.ref r):=by
 have:=Ϥ.k (k:=Sum.inr ("rows":Str)) e;rw[ab4]at this;show this
def WM(e:H d=↑(.dK (stK r s n))):Ϥ H d (.str ("since":Str)) ↑(.ref s):=by
 have:=Ϥ.k (k:=Sum.inr ("since":Str)) e;rw[aiu]at this;show this
def oO(e:H d=↑(.dK (stK r s n))):Ϥ H d (.str ("moment":Str)) ↑(.int n):=by
 have:=Ϥ.k (k:=Sum.inr ("moment":Str)) e;rw[af2]at this;show this
def Y8(e:H d=↑(.dK (stK r s n))):dW H d (.str ("moment":Str)) (.int m) (upd H d (.dK (stK r s m))):=by
 have:=dW.k (k:=Sum.inr ("moment":Str)) (v:=.int m) e (by let hsz:ϰ=16777216:=Ϯ;rw[hsz];show 3<16777216;decide);rw[agN]at this;show this
structure Ϡ(mg:MG)(F:List δ)(A:BA)(d r s:δ)(H:Hp)(B:Bk)(n:Int)(m:List (Int×List V))(sn:List (Int×Int)):Prop where
 bk:Χ (cB mg) H A B
 st:H d=↑(.dK (stK r s n))
 ro:amH F H r m
 si:DictAt Be H s sn
structure jX(A:BA)(d r s:δ)(F:List δ):Prop where
 nd:[A.h,A.r,A.t,A.d,A.b,A.dx,d,r,s].Nodup
 inF:∀x∈d::r::s::A.fp,x∈F
section
variable{F:List δ}{A:BA}{d r s:δ}{H H':Hp}{B B':Bk}{n:Int}{m m':List (Int×List V)}{sn YM:List (Int×Int)}
def Ϡ.same(h:Ϡ mg F A d r s H B n m sn)(a:ζ H H'):Ϡ mg F A d r s H' B n m sn:=by
 let#[k1,e1,h1]:=h.ro;let#[k2,c,h2]:=h.si;show#[h.bk.same a,a<*h.st,#[k1,a<*e1,eN h1 λv x z=>z.stay λb ys _ e=>a _ _ e],#[k2,a<*c,h2]]
def Ϡ.dicts(h:Ϡ mg F A d r s H B n m sn):∀x∈[d,r,s],∃Ϸ,H x=↑(.dK Ϸ):=by
 let#[k1,e1,_]:=h.ro;let#[k2,c,_]:=h.si;intro x e;let a:x=d\/x=r\/x=s:= ~~~e
 obtain rfl|rfl|rfl:=a
 .show#[_,h.st]
 .show#[_,e1]
 .show#[_,c]
def Ϡ.G6(f:jX A d r s F)(h:Ϡ mg F A d r s H B n m sn)(c:x∈[d,r,s]):Χ (cB mg) (upd H x o) A B:=by
 let#[Ϸ,e]:=h.dicts x c;show h.bk.out (S:=[x]) (Out.upd (by simp)) (λy a ys z=>by rw[adF.mp a,e]at z;cases z) λy a g=>?_
 rw[adF.mp g]at a;show uD f.nd [0,1,2,3,4,5] [6,7,8] (by decide) x a c
def Ϡ.ne(a:jX A d r s F):d≠r/\d≠s/\r≠s:=by
 let h1:=uD a.nd [6] [7,8] (by decide) d (by simp);let h2:=uD a.nd [7] [8] (by decide) r (by simp);show#[λe=>h1 (by simp[e]),λe=>h1 (by simp[e]),λe=>h2 (by simp[e])]
def Ϡ.setM(a:jX A d r s F)(h:Ϡ mg F A d r s H B n m sn)(c:Int):Ϡ mg F A d r s (upd H d (.dK (stK r s c))) B c m sn:=by
 let#[f,g,l]:=Ϡ.ne a;let#[k1,e1,h1]:=h.ro;let#[k2,i,h2]:=h.si;show#[h.G6 a (by simp),ο,#[k1,by rw[ι (Ne.symm f)];show e1,eN h1 λv x z=>z.stay λb ys j e=>?_],#[k2,by rw[ι (Ne.symm g)];show i,h2]];rw[ι (λz=>j (by rw[z];show a.inF _ (by simp)))];show e
def Ϡ.pW(a:jX A d r s F)(h:Ϡ mg F A d r s H B n m sn)(c:χ (PR (LR F H)) Ϸ m'):Ϡ mg F A d r s (upd H r (.dK Ϸ)) B n m' sn:=by
 let#[f,l,g]:=Ϡ.ne a;let#[k2,i,h2]:=h.si;show#[h.G6 a (by simp),by rw[ι f];show h.st,#[Ϸ,ο,eN c λv x z=>z.stay λb ys j e=>?_],#[k2,by rw[ι (Ne.symm g)];show i,h2]];rw[ι (λz=>j (by rw[z];show a.inF _ (by simp)))];show e
def Ϡ.Ow(a:jX A d r s F)(h:Ϡ mg F A d r s H B n m sn)(c:χ (PR Be) Ϸ YM):Ϡ mg F A d r s (upd H s (.dK Ϸ)) B n m YM:=by
 let#[j,f,g]:=Ϡ.ne a;let#[k1,e1,h1]:=h.ro;show#[h.G6 a (by simp),by rw[ι f];show h.st,#[k1,by rw[ι g];show e1,eN h1 λv x z=>z.stay λb ys i e=>?_],#[Ϸ,ο,c]];rw[ι (λz=>i (by rw[z];show a.inF _ (by simp)))];show e
def Ϡ.book(c:jX A d r s F)(h:Ϡ mg F A d r s H B n m sn)(o:Out A.fp H H')(k:Χ (cB mg) H' A B'):Ϡ mg F A d r s H' B' n m sn:=by
 let a:=uD c.nd [6,7,8] [4,1,2,3] (by decide);let#[k1,e1,h1]:=h.ro;let#[k2,f,h2]:=h.si;show#[k,o _ _ (a d (by simp)) h.st,#[k1,o _ _ (a r (by simp)) e1,eN h1 λv x z=>z.stay λb ys g e=>o _ _ (λz=>g (c.inF _ (by simp[z]))) e],#[k2,o _ _ (a s (by simp)) f,h2]]
end
def ano(h:θ K H a xs)(e:H d=↑(.dK Ϸ)):θ K (upd H d o) a xs:=by
 rcases h with(h|⟨u,h⟩)|h
 .show .inl (.inl (by rw[ι (λz=>by rw[z,e]at h;cases h)];show h))
 .by_cases z:a=d
  .rw[z,e]at h;cases h
  .show .inl (.inr #[u,by rw[ι z];show h])
 .show .inr h
def adT(h:Ϗ H a cs)(e:H d=↑(.dK Ϸ)):Ϗ (upd H d o) a cs:=by
 show h.stay (λxs c=>?_) (λb ys c=>?_)
 .rw[ι (λz=>by rw[z,e]at c;cases c)];show c
 .rw[ι (λz=>by rw[z,e]at c;cases c)];show c
end
end _K
namespace _K
open PySem _L PyProof.Rows _M _V _W
section
variable{P:ϱ}{w:ϭ}{K:ϩ}{mg:MG}{base:ϫ}
def aod:List ϧ->List ϧ
 |(.If _ t _ _)::_=>t
 |_=>[]
def cM:List Int:=[3,0,7,1000000000,12,5,1,999]
def Bd(sn:List (Int×Int))(row n:Int):Option (List V)->List (Int×Int)
 |none=>sn
 |some _=>aV sn row n
inductive MP(K:ϩ)(mg:MG):Sp
 |mk (F:List δ) (A:BA) (B:Bk) (sc c d r s:δ) (ns:List Int) (k:Int) (sn:List (Int×Int)):vs=[.ref sc,.int k,.ref c,.ref A.b,.ref d]->θ K H sc (ns.map V.int)->↥ns<=63->0<=k->k<=30000->Ϗ H c B.heads->↥B.heads<=6->Ϡ mg F A d r s H B B.now B.rows sn->jX A d r s F->(∀x∈F,H x≠none)->qU B->lB B->↥sn<1000000->(∀i xs,Κ B.rows i=↑xs->lJ B.heads xs)->(∀row o H',row∈cM->(Κ B.rows row=none->o≠none)->(∀xs,o=↑xs->lJ B.heads xs)->Out (d::r::s::A.fp) H H'->Ϡ mg F A d r s H' (aZ B row o) (B.now+1) (aZ B row o).rows (Bd sn row (B.now+1) o)->Q (.int row) H')
def Ei:Def 7 "_law_deed" ["_law_script","_law_k","_law_columns_here","_law_book","_law_state"] (MP K mg):=by
 show Γ (S:=SN) T.Ei (λf Ϲ A' outer s0 H vs Q E hr h=>?_);intro X _;let#[F,A,B,sc,c,d,r,s,ns,k,sn,rfl,hS,hl,k0,k1,hC,h6,hL,I,jc,J,ac,hsn,ae,q]:=h;let nd:=SN.nd;let n2:=T.km;let hsz:=Ϯ;let a:_+1<cLine:=afY (agK (by decide:1<=64) _) hr.units;let D0:=!gD;let D2:=!vp;let M1:ϕ P w K mg base true 6 (cB mg) "put" ["self","row","values"] (qd mg):=(R9 T).meth T.ϓ T.aap;let M2:ϕ P w K mg base true 6 (cB mg) "change" ["self","row","values"] (Dk mg):=(ajn T).meth T.ϓ T.ae2;let M3:ϕ P w K mg base true 4 (cB mg) "take" ["self","row"] (Bt mg):=(amI T).meth T.ϓ T.aiJ;k_go;show#[ω,λp hp=>?_];let#[O,ep]:=Θ hp (.lst (cM.map V.int));change EV _ _ _ (upd H p (.lst (cM.map V.int))) _;generalize upd H p (.lst (cM.map V.int))=H0 at O ep⊢;lk;show#[sc,ns,k,8,rfl,O.seq hS,hl,(),(),by decide,?_];let j0:=aD ns k (m:=8) (by decide);let j1:=aA ns k (m:=8) (by decide);generalize Υ ns k 8=jv at j0 j1⊢;let#[j,rfl]:=aa4 j0;let hj:j<↥cM:=by show j<8;omega
 show ϐ (θ.of ep) (v:=.int cM[j]) (aJ (by rw[adl,aah hj];rfl)) ?_;let i:cM[j]∈cM:=ajf hj;let L:∀x∈cM,0<=x/\x<=1000000000:=by decide
 let L:=L _ i;generalize cM[j]=row at i L⊢;k_go;show#[sc,ns,k+1,5,rfl,O.seq hS,hl,(),(),by decide,?_];generalize Υ ns (k+1) 5=U;let l:=hL.same O;w_up;show jo a ?_>>=dw a (oO l.st) ?_>>=#[d,_,rfl,Y8 l.st,?_];let g:=l.setM I (B.now+1);let aa:θ K (upd H0 d (.dK (stK r s (B.now+1)))) sc (ns.map V.int):=ano (O.seq hS) l.st;let pH:Ϗ (upd H0 d (.dK (stK r s (B.now+1)))) c B.heads:=adT (hC.same O) l.st;let o1:Out (d::r::s::A.fp) H (upd H0 d (.dK (stK r s (B.now+1)))):=(Out.of O)<|>(Out.upd (by simp));let Dm:∀x,(upd H0 d (.dK (stK r s (B.now+1)))) x=none->x∉F:=λx e hx=>by
  by_cases z:x=d
  .rw[z,ο]at e;cases e
  .rw[ι z]at e;show jc x hx (O.free e)
 generalize upd H0 d (.dK (stK r s (B.now+1)))=H1 at g aa pH o1 Dm⊢;let#[Ϸ,er,hR]:=id g.ro;let hkl:=hR.len;let wz:∀{H2 H3:Hp},Out A.fp H2 H3->Out (d::r::s::A.fp) H2 H3:=λo=>o.mono λx hx=>by simp[hx]
 let g1:=Ϥ.k (k:=Sum.inl row) er
 let tail:∀(v:δ)(xs:List V)(H3:Hp),lJ B.heads xs->Out (d::r::s::A.fp) H H3->Ϡ mg F A d r s H3 (aZ B row ↑xs) (B.now+1) B.rows sn->H3 v=↑(.lst xs)->v∉F->
   Ζ X ((Ψ qz).drop 6) {nx:=λ_ H'=>Q .non H',rt:=Q} [↑(.ref sc),↑(.int k),↑(.ref c),↑(.ref A.b),↑(.ref d),↑(.int row),↑(.int U),↑(.ref v)] H3:=by
  intro v xs H3 hok o3 W hv j8;let#[Y,xZ,u6]:=id W.ro;let arP:=u6.len;w_up;show jo a ?_>>=dw a (pU W.st) ?_>>=#[r,_,rfl,dW.k (k:=Sum.inl row) xZ (by have:=J.1;omega),?_];let Z:Ϡ mg F A d r s (upd H3 r (.dK (putK Y (Sum.inl row) (.ref v)))) (aZ B row ↑xs) (B.now+1) (aZ B row ↑xs).rows sn:=W.pW I (lZ u6 row #[v,rfl,hv,j8]);let o4:Out (d::r::s::A.fp) H (upd H3 r (.dK (putK Y (Sum.inl row) (.ref v)))):=o3<|>(Out.upd (by simp));generalize upd H3 r (.dK (putK Y (Sum.inl row) (.ref v)))=H4 at Z o4⊢;let#[af,ag,RW]:=id Z.si;let apM:=RW.len;w_up;show jo a ?_>>=dw a (oO Z.st) ?_>>=dw a (WM Z.st) ?_>>=#[s,_,rfl,dW.k (k:=Sum.inl row) ag (),?_];let vU:Ϡ mg F A d r s (upd H4 s (.dK (putK af (Sum.inl row) (.int (B.now+1))))) (aZ B row ↑xs) (B.now+1) (aZ B row ↑xs).rows (Bd sn row (B.now+1) ↑xs):=Z.Ow I (lZ RW row rfl);symm;lk;show q row ↑xs _ i (λ_=>by simp) (λys e=>by cases e;show hok) (o4<|>(Out.upd (by simp))) vU
 let rest:Ζ X ((Ψ qz).drop 4) {nx:=λ_ H'=>Q .non H',rt:=Q} [↑(.ref sc),↑(.int k),↑(.ref c),↑(.ref A.b),↑(.ref d),↑(.int row),↑(.int U),none] H1:=by
  k_go;show#[sc,ns,k+2,c,B.heads,rfl,aa,hl,(),(),pH,h6,λv xs H2 s2 ah hv n=>?_];let j8:=Dm v ah;let C:=g.same s2;let BV:=C.bk;let o2:=o1<|>(Out.of s2);let g2:=Ϥ.k (k:=Sum.inl row) (s2<*er);w_up;show Δ ?_>>=dw a (pU C.st) ?_*>Gu a g2 ?_;obtain⟨e1,M⟩|⟨u,x,e1,M,lu,rfl,ai,aqk⟩:=iR hR row
  .rw[show(aK Ϸ (Sum.inl row)).isSome=false by rw[e1];rfl];lk;f_len;show Ϛ ?_*>bD (pl:=_) hr Ο (h:=?_);f_are;show#[A.b,cB mg,A.dx,_,true,6,_,qd mg,rfl,BV.ins,by rfl,M1,by decide,id,?_]>>=jb (.inl (θ.of hv)) λb hb=>?_
   let#[D,eb,H2,b,H8]:=Θ hb (.lst xs);lk;show#[A,B,row,b,xs,rfl,BV.same D,eb,h6,#[L.1,L.2,n],J,λz=>absurd M z,λ_ H3 o3 k3=>?_]*>tail v xs H3 n ((o2<|>(Out.of D))<|>(wz o3)) ((C.same D).book I o3 k3) (o3 _ _ (λz=>j8 (I.inF _ (by simp[z]))) (D<*hv)) j8
  .rw[show(aK Ϸ (Sum.inl row)).isSome=true by rw[e1];rfl];lk;let ab:∀(R:δ)(ys:List V)(H5:Hp),lJ B.heads ys->ζ H2 H5->H5 R=↑(.lst ys)->R∉F->Ζ X ((aod ((Ψ qz).drop 5)).drop 1) {nx:=λσ' H'=>Ζ X ((Ψ qz).drop 6) {nx:=λ_ H'=>Q .non H',rt:=Q} σ' H',rt:=Q} [↑(.ref sc),↑(.int k),↑(.ref c),↑(.ref A.b),↑(.ref d),↑(.int row),↑(.int U),↑(.ref R)] H5:=by
    intro R ys H5 hok s5 G Rj;f_len;show Ϛ ?_*>bD (pl:=_) hr Ο (h:=?_);f_are;show#[A.b,cB mg,A.dx,_,true,6,_,Dk mg,rfl,(BV.same s5).ins,by rfl,M2,by decide,id,?_]>>=jb (.inl (θ.of G)) λb hb=>?_
    let#[D,eb,H5,b,H8]:=Θ hb (.lst ys);lk;show#[A,B,row,b,ys,rfl,(BV.same s5).same D,eb,h6,#[L.1,L.2,hok],J,(λz=>by rw[M]at z;cases z),λ_ H3 o3 k3=>?_]*>tail R ys H3 hok (((o2<|>(Out.of s5))<|>(Out.of D))<|>(wz o3)) (((C.same s5).same D).book I o3 k3) (o3 _ _ (λz=>Rj (I.inF _ (by simp[z]))) (D<*G)) Rj
   w_up;show Δ ?_>>=Β (λh=>?_) (λh=>?_)
   .f_len;f_tup;lk;show dw a (pU C.st) ?_>>=dw a (v:=.ref lu) (by rw[e1]at g2;show g2) ?_>>=jb (.inl (θ.of (s2<*ai))) λR G=>?_
    show ab R x _ (ae row x M) (ζ.upd G) ο (Dm R (s2.free G))
   .show Α (ab v xs H2 n (ζ.refl _) hv j8)
 w_up;show Δ ?_>>=dw a (pU g.st) ?_*>Gu a g1 ?_;obtain⟨e1,M⟩|⟨u,x,e1,M,_⟩:=iR hR row
 .rw[show(aK Ϸ (Sum.inl row)).isSome=false by rw[e1];rfl];lk;show Α rest
 .rw[show(aK Ϸ (Sum.inl row)).isSome=true by rw[e1];rfl];lk;show Β (λh=>?_) (λh=>?_)
  .w_up;show Ϛ ?_*>bD (pl:=_) hr Ο (h:=?_);f_are;show#[A.b,cB mg,A.dx,_,true,4,_,Bt mg,rfl,g.bk.ins,by rfl,M3,by decide,id,?_]>>=#[A,B,row,rfl,g.bk,L.1,L.2,J,ac,(λz=>by rw[M]at z;cases z),λ_ H3 o3 k3=>?_];let W:=g.book I o3 k3;let#[Y,xZ,u6]:=id W.ro;w_up;show Ϛ (Cd ?_)>>=dw a (pU W.st) ?_*>#[r,rfl,.inl #[_,.inl xZ],?_];lk;let al:∃v,aK Y (Sum.inl row)=↑v:=by
    obtain⟨_,z⟩|⟨u,y,z,_⟩:=iR u6 row
    .rw[M]at z;cases z
    .show#[u,z]
   let#[vv,Dl]:=al;show#[Y,Sum.inl row,vv,xZ,rfl,Dl,?_];let Z:Ϡ mg F A d r s (upd H3 r (.dK (gA Y (Sum.inl row)))) (aZ B row none) (B.now+1) (aZ B row none).rows sn:=W.pW I (zJ u6 row);symm;lk;show q row none _ i (λz=>by rw[M]at z;cases z) (λys e=>by cases e) ((o1<|>(wz o3))<|>(Out.upd (by simp))) Z
  .show Α rest
theorem K6{α:Type}[BEq α][LawfulBEq α]:∀{l m:List α},l.Nodup->(∀x∈l,x∈m)->↥l<=↥m
 |[],m,_,_=>ag3 _
 |a::r,m,h,s=>by
  let h':=ahC.mp h;let f:=s a (abD ..);let c:=K6 (l:=r) (m:=m.erase a) h'.2 λx g=>(List.mem_erase_of_ne (λe=>h'.1 (by subst e;show g))).mpr (s x (aby _ g))
  rw[List.length_erase_of_mem f]at c;have:=List.length_pos_of_mem f;rw[abU];omega
structure fU(cs:List ξ)(ks:List Int)(B:Bk)(sn:List (Int×Int))(i:Nat):Prop where
 heads:B.heads=cs
 nd:(B.rows.map (·.1)).Nodup
 wf:lB B
 ok:∀p∈B.rows,lJ cs p.2
 keys:∀k∈B.rows.map (·.1),k∈ks
 tl:↥B.touched<=i
 dl:↥B.done<=i
 sl:↥sn<=i
 now:B.now=(i:Int)
def aaa{α:Type}{m:List (Int×α)}{x:α}{p:Int×α}(h:p∈aV m i x):p∈m\/p=(i,x):=by
 unfold aV at h;split at h
 .let#[q,a,e]:=abz.mp h;split at e
  .next c=>show .inr (by rw[<-e,c])
  .show .inl (by rw[<-e];show a)
 .obtain h|h:=adi.mp h
  .show .inl h
  .show .inr (adF.mp h)
def K1{α:Type}(m:List (Int×α))(i:Int)(x:α):↥(aV m i x)<=↥m+1:=by
 unfold aV;split
 .rw[aau];omega
 .rw[abK,afm];omega
theorem alN{α:Type}(m:List (Int×α))(i:Int):↥(cR m i)<=↥m:=ah9 ..
theorem lB.deed(h:lB B)(row:Int)(o:Option (List V)):lB (aZ B row o):=λi=>by
 cases o with
 |none=>
  show Κ (cR B.rows row) i=none↔ Κ (cR B.touched row) i=none;rw[vO,vO];by_cases e:i=row
  .rw[if_pos e,if_pos e];show#[λ_=>rfl,λ_=>rfl]
  .rw[if_neg e,if_neg e];show h i
 |some xs=>
  show Κ (aV B.rows row xs) i=none↔ Κ (aV B.touched row (B.now+1)) i=none;rw[uH,uH];by_cases e:i=row
  .rw[if_pos e,if_pos e];show#[(λz=>by cases z),(λz=>by cases z)]
  .rw[if_neg e,if_neg e];show h i
def fU.deed(h:fU cs ks B sn i)(hs:∀k∈ks,k∈a)(f:row∈a)(g:∀xs,o=↑xs->lJ cs xs):fU cs a (aZ B row o) (Bd sn row (B.now+1) o) (i+1):=by
 let h1:=h.tl;let h2:=h.dl;let j:=h.sl;let l:=h.now;let hd:(aZ B row o).done.length<=i+1:=by
  show(B.done++[_]).length<=i+1;rw[abK,afm];omega
 let e:(aZ B row o).now=((i+1:Nat):Int):=by
  show B.now+1=_;omega
 cases o with
 |none=>
  show#[h.heads,T4 h.nd,h.wf.deed row none,λp hp=>h.ok p (akR.mp hp).1,λk c=>?_,?_,hd,by show ↥sn<=i+1;omega,e]
  .let#[p,hp,rfl]:=abz.mp c;show hs _ (h.keys _ (abz.mpr #[p,(akR.mp hp).1,rfl]))
  .show(cR B.touched row).length<=i+1;have:=alN B.touched row;omega
 |some xs=>
  show#[h.heads,UG h.nd,h.wf.deed row ↑xs,λp hp=>?_,λk c=>?_,?_,hd,?_,e]
  .obtain hp|hp:=aaa hp
   .show h.ok p hp
   .rw[hp];show g xs rfl
  .let#[p,hp,rfl]:=abz.mp c;obtain hp|hp:=aaa hp
   .show hs _ (h.keys _ (abz.mpr #[p,hp,rfl]))
   .rw[hp];show f
  .show(aV B.touched row (B.now+1)).length<=i+1;have:=K1 B.touched row (B.now+1);omega
  .show(aV sn row (B.now+1)).length<=i+1;have:=K1 sn row (B.now+1);omega
theorem fU.get(h:fU cs ks B sn i):∀j xs,Κ B.rows j=↑xs->lJ B.heads xs:=λj xs e=>by
 rw[h.heads];show h.ok _ (agT e)
def fU.len(h:fU cs ks B sn i):↥B.rows<=↥ks:=by
 have:=K6 h.nd h.keys;rw[aau]at this;show this
def fU.small(h:fU cs ks B sn i)(hi:i<1000000)(a:↥ks<1000000):qU B:=by
 let h1:=h.tl;let h2:=h.dl;let c:=h.len;show#[(),(),()]
def iV(i:Nat):List Int:=(ado i).map λj=>2000+((j*7 % 23:Nat):Int)
def iQ:List Int:=cM++iV 20
def aku:∀i<20,(2000+((i*7 % 23:Nat):Int))∉cM++iV i:=by decide
theorem Ϡ.live(h:Ϡ mg F A d r s H B n m sn):∀x∈d::r::s::A.fp,(∃o,H x=↑o/\∀ys,¬o=.tup ys):=λx hx=>by
 let a:x∈[d,r,s]\/x∈A.fp:=by
  simp only[aaF,aet,or_false]at hx⊢;obtain z|z|z|z:=hx
  .show .inl (.inl z)
  .show .inl (.inr (.inl z))
  .show .inl (.inr (.inr z))
  .show .inr z
 obtain hx|hx:=a
 .let#[Ϸ,e]:=h.dicts x hx;show#[_,e,λys z=>by cases z]
 .obtain⟨fs,z⟩|⟨Ϸ,z⟩|⟨xs,z⟩:=h.bk.Mu hx<;>show⟨_,z,λys z=>by cases z⟩
inductive S7(K:ϩ)(mg:MG):Sp
 |mk (J:Bk->Prop) (A:BA) (sc c:δ) (ns:List Int) (many:Nat) (cs:List ξ):vs=[.ref sc,.ref c,.ref A.b,.int (many:Nat)]->θ K H sc (ns.map V.int)->↥ns<=63->many<=40->Ϗ H c cs->c∉A.fp->((∀H',θ K H' sc (ns.map V.int))\/sc∉A.fp)->Ρ cs=true->Χ (cB mg) H A #[cs,[],[],[],0,0]->J #[cs,[],[],[],0,0]->(∀B row o,row∈iQ->(Κ B.rows row=none->o≠none)->(∀xs,o=↑xs->lJ B.heads xs)->J B->J (aZ B row o))->(∀(d r s:δ)(B:Bk)(sn:List (Int×Int))(i:Nat) H',H d=none->H r=none->H s=none->Out A.fp H H'->Ϡ mg (d::r::s::A.fp) A d r s H' B B.now B.rows sn->jX A d r s (d::r::s::A.fp)->fU cs iQ B sn i->many<=i->i<=many+20->J B->Q (.ref d) H')
def Kr:Def 8 "_law_begun" ["_law_script","_law_columns_here","_law_book","_law_many"] (S7 K mg):=by
 show Γ (S:=Oj) T.Kr (λf Ϲ A' outer s0 H vs Q E hr h=>?_);intro X _;let#[J,A,sc,c,ns,many,cs,rfl,hS,hl,asv,hC,ac,ax,hok,kB,j0,ae,q]:=h;let nd:=Oj.nd;let n1:=T.qt;let n2:=T.yJ;let n3:=T.km;let hsz:=Ϯ;let l:_+1<cLine:=afY (agK (by decide:1<=64) _) hr.units;let#[c1,c6]:=jQ hok;let D0:=!gD;let D2:=!vp;let D3:=!Ei;let M1:ϕ P w K mg base true 6 (cB mg) "put" ["self","row","values"] (qd mg):=(R9 T).meth T.ϓ T.aap;w_up;f_tup;show ad0 λd hd=>?_
 let#[sd,ed,H,d,H1]:=Θ hd (.dK []);f_are;show v5 λr I=>?_
 let#[sr,er,H1,r,H2]:=Θ I (.dK []);f_are;show v5 λs L=>?_
 let#[ss,es,H2,s,H3]:=Θ L (.dK []);f_are;f_are;show#[(sr<|>ss)<*ed,Sum.inr ("rows":Str),Sum.inr ("since":Str),Sum.inr ("moment":Str),rfl,rfl,rfl,?_];rw[aer];let az:=(sd<|>sr)<|>ss;let Y:H r=none:=sd.free I;let Z:H s=none:=(sd<|>sr).free L;let af:d≠r:=λe=>by rw[e]at ed;rw[ed]at I;cases I
 let ag:d≠s:=λe=>by have:=sr _ _ ed;rw[e,L]at this;cases this
 let ay:r≠s:=λe=>by rw[e,L]at er;cases er
 let six:∀x∈A.six,H x≠none:=kB.on6;let Fw:=kB.Fw;let ap:jX A d r s (d::r::s::A.fp):=by
  show#[?_,λx m=>m];let h1:([A.h,A.r,A.t,A.d,A.b,A.dx]++[d,r,s]).Nodup:=by
   show aq3.mpr #[Fw,by simp[af,ag,ay],λa ha b hb e=>six a ha ?_];rw[e];let aC:b=d\/b=r\/b=s:= ~~~hb
   obtain rfl|rfl|rfl:=aC
   .show hd
   .show Y
   .show Z
  show h1
 let o0:Out A.fp H (upd H3 d (.dK (stK r s 0))):=λb u hb e=>by
  rw[ι (λz=>by rw[z,hd]at e;cases e)];show az<*e
 let ah:Ϡ mg (d::r::s::A.fp) A d r s (upd H3 d (.dK (stK r s 0))) #[cs,[],[],[],0,0] 0 [] []:=by
  show#[kB.stay (λb ys e=>?_) λx o m e=>?_,ο,#[[],?_,.nil],#[[],?_,.nil]]
  .rw[ι (λz=>by rw[z,hd]at e;cases e)];show az<*e
  .rw[ι (λz=>by rw[z,hd]at e;cases e)];show az<*e
  .rw[ι (Ne.symm af)];show ss<*er
  .rw[ι (Ne.symm ag)];show es
 let aE:fU cs cM #[cs,[],[],[],0,0] [] 0:=#[rfl,by simp,λi=>by simp[Κ],λp hp=>by simp at hp,λk hk=>by simp at hk,Ϭ _,Ϭ _,Ϭ _,rfl];let fr:∀x,H x≠none->x∉A.fp->x∉d::r::s::A.fp:=λx m hA hm=>by
  simp only[aaF]at hm;obtain rfl|rfl|rfl|z:=hm
  .show m hd
  .show m Y
  .show m Z
  .show hA z
 let oY:H c≠none:=by
  let#[_,e,_]:=hC;rw[e];show λz=>by cases z
 let hcF:=fr c oY ac;let aa:∀{H':Hp},Out A.fp H H'->θ K H' sc (ns.map V.int):=λo=>by
  obtain z|z:=ax
  .show z _
  .show o.seq z hS
 let aI:NT H A.fp:=λx m ys e=>by
  obtain⟨fs,z⟩|⟨Ϸ,z⟩|⟨xs,z⟩:=kB.Mu m<;>(rw[z]at e;cases e)
 let Up:∀{H':Hp},Out A.fp H H'->Ϗ H' c cs:=λo=>hC.out o aI ac
 let oA:∀{H1 H':Hp},Out A.fp H H1->Out (d::r::s::A.fp) H1 H'->Out A.fp H H':=λo1 o2 b u hb e=>o2 b u (fr b (by rw[e];show λz=>by cases z) hb) (o1 b u hb e)
 generalize upd H3 d (.dK (stK r s 0))=H4 at o0 ah⊢
 let rest:∀(B:Bk)(sn:List (Int×Int))(σ:List (Option V))(H5:Hp)(n:Option V),σ=[↑(.ref sc),↑(.ref c),↑(.ref A.b),↑(.int (many:Nat)),↑(.ref d),n,none,none]->Out A.fp H H5->Ϡ mg (d::r::s::A.fp) A d r s H5 B B.now B.rows sn->fU cs cM B sn many->J B->
   Ζ X ((Ψ Mj).drop 2) {nx:=λ_ H'=>Q .non H',rt:=Q} σ H5:=by
  intro B sn σ H5 n aN M vU O F;subst aN;w_up;show wD (by walk_at"po") (by rfl) (by rfl) n1 (by rfl) ?_>>=#[sc,ns,590,12,rfl,aa M,hl,by decide,by decide,by decide,?_];generalize Υ ns 590 12=dv;lk;show cP aip (.inr #[_,rfl,?_]);lk;let Xb:∃cnt:Nat,cnt<=20/\(20:Int)*(if decide (V.int dv=V.int 0)=true then 1 else 0)=(cnt:Int):=by
   by_cases z:V.int dv=V.int 0
   .show#[20,Ϭ _,by rw[decide_eq_true z];rfl]
   .show#[0,(),by rw[decide_eq_false z];rfl]
  let#[cnt,Xb,aS]:=Xb;rw[aS];show#[(),(),λi σ' H'=>(∃n o6 o7,σ'=[↑(.ref sc),↑(.ref c),↑(.ref A.b),↑(.int (many:Nat)),↑(.ref d),n,o6,o7])/\Out A.fp H H'/\∃B sn,Ϡ mg (d::r::s::A.fp) A d r s H' B B.now B.rows sn/\fU cs (cM++iV i) B sn (many+i)/\J B,
   #[#[_,_,_,rfl],M,B,sn,vU,#[O.heads,O.nd,O.wf,O.ok,λk hk=>agF _ (O.keys k hk),O.tl,O.dl,O.sl,O.now],F],λi σ' H' hi hP=>?_,λσ' H' hP=>?_]
  .let#[#[n,o6,o7,rfl],y,B,sn,G,g,F]:=hP;let aT:i<20:=()
   let ai:=aku i aT;let C:Κ B.rows (2000+((i*7 % 23:Nat):Int))=none:=oh.mpr λz=>ai (g.keys _ z)
   let hrl:=g.len;let hkl:↥(cM++iV i)=8+i:=by rw[abK];unfold iV;rw[aau,ahr];rfl
   show Ε nd ?_;k_go;rw[show(2000:Int)+(i:Int)*7 % 23=2000+((i*7 % 23:Nat):Int)by omega];let gC:(0:Int)<=2000+((i*7 % 23:Nat):Int)/\2000+((i*7 % 23:Nat):Int)<=1000000000:=()
   let U:(2000+((i*7 % 23:Nat):Int))∈cM++iV (i+1):=adL _ (by
    unfold iV;show abz.mpr #[i,by simp,rfl])
   let Pa:(2000+((i*7 % 23:Nat):Int))∈iQ:=adL _ (by
    unfold iV;show abz.mpr #[i,by simp;omega,rfl])
   generalize 2000+((i*7 % 23:Nat):Int)=row at C gC U Pa⊢;k_go;show#[sc,ns,_,c,cs,rfl,aa y,hl,(),(),Up y,c6,λv xs H6 s6 al hv D=>?_];let j8:v∉d::r::s::A.fp:=λz=>by
    let#[o,e,_]:=G.live v z;rw[e]at al;cases al
   w_up;show jo l ?_*>bD (pl:=_) hr Ο (h:=?_);f_are;let Ra:=G.same s6;show#[A.b,cB mg,A.dx,_,true,6,_,qd mg,rfl,Ra.bk.ins,by rfl,M1,by decide,id,?_]>>=jb (.inl (θ.of hv)) λb hb=>?_
   let#[dR,eb,H6,b,H7]:=Θ hb (.lst xs);let X4:=Ra.same dR;lk;show#[A,B,row,b,xs,rfl,X4.bk,eb,by rw[g.heads];show c6,#[gC.1,gC.2,by rw[g.heads];show D],g.small () (),λz=>absurd C z,λ_ H8 o8 k8=>?_];let am:=X4.book ap o8 k8;lk;show#[d,_,rfl,Y8 am.st,?_];let R:=am.setM ap (B.now+1);let wz:Out (d::r::s::A.fp) H7 H8:=o8.mono λx m=>by simp[m]
   let o9:Out A.fp H (upd H8 d (.dK (stK r s (B.now+1)))):=oA y (((Out.of (s6<|>dR))<|>wz)<|>(Out.upd (by simp)));let ar:(upd H8 d (.dK (stK r s (B.now+1)))) v=↑(.lst xs):=by
    rw[ι (λz=>j8 (by rw[z];simp))];show o8 _ _ (λz=>j8 (by simp[z])) (dR<*hv)
   generalize upd H8 d (.dK (stK r s (B.now+1)))=H9 at R o9 ar⊢;let#[J4,aY,Wl]:=id R.ro;let arY:=Wl.len;w_up;show jo l ?_;lk;show dw l (pU R.st) ?_;lk;show#[r,_,rfl,dW.k (k:=Sum.inl row) aY (),?_];let v8:Ϡ mg (d::r::s::A.fp) A d r s (upd H9 r (.dK (putK J4 (Sum.inl row) (.ref v)))) (aZ B row ↑xs) (B.now+1) (aZ B row ↑xs).rows sn:=R.pW ap (lZ Wl row #[v,rfl,ar,j8]);let d8:Out A.fp H (upd H9 r (.dK (putK J4 (Sum.inl row) (.ref v)))):=oA o9 (Out.upd (by simp));generalize upd H9 r (.dK (putK J4 (Sum.inl row) (.ref v)))=oN at v8 d8⊢;let#[a0,a1,av]:=id v8.si;let ao5:=av.len;let a2:=g.sl;f_len;show jo l ?_;lk;show dw l (oO v8.st) ?_;lk;show dw l (WM v8.st) ?_;lk;show#[s,_,rfl,dW.k (k:=Sum.inl row) a1 (),?_];let a3:Ϡ mg (d::r::s::A.fp) A d r s (upd oN s (.dK (putK a0 (Sum.inl row) (.int (B.now+1))))) (aZ B row ↑xs) (B.now+1) (aZ B row ↑xs).rows (Bd sn row (B.now+1) ↑xs):=v8.Ow ap (lZ av row rfl);show#[#[_,_,_,rfl],oA d8 (Out.upd (by simp)),_,_,a3,?_,ae B row ↑xs Pa (λ_=>by simp) (λys e=>by cases e;rw[g.heads];show D) F];show g.deed (λk hk=>by
    obtain hk|hk:=adi.mp hk
    .show agF _ hk
    .show adL _ ?_;unfold iV at hk⊢;let#[j,hj,e]:=abz.mp hk;show abz.mpr #[j,by simp at hj⊢;omega,e]) U (λys e=>by cases e;show D)
  .let#[#[n,o6,o7,rfl],y,B,sn,G,g,F]:=hP;symm;lk;let aw:∀k∈cM++iV cnt,k∈iQ:=λk hk=>by
    obtain hk|hk:=adi.mp hk
    .show agF _ hk
    .show adL _ ?_;unfold iV at hk⊢;let#[j,hj,e]:=abz.mp hk;show abz.mpr #[j,by simp at hj⊢;omega,e]
   let ab:(cnt:Int).toNat=cnt:=()
   show q d r s B sn (many+cnt) H' hd Y Z y G ap #[g.heads,g.nd,g.wf,g.ok,λk hk=>aw k (by have:=g.keys k hk;simpa [ab]using this),g.tl,g.dl,g.sl,g.now] () () F
 w_up;show wD (by walk_at"po") (by rfl) (by rfl) n1 (by rfl) ?_>>=#[(),(),λi σ' H'=>(∃n,σ'=[↑(.ref sc),↑(.ref c),↑(.ref A.b),↑(.int (many:Nat)),↑(.ref d),n,none,none])/\Out A.fp H H'/\∃B sn,Ϡ mg (d::r::s::A.fp) A d r s H' B B.now B.rows sn/\fU cs cM B sn i/\J B,#[#[none,rfl],o0,_,[],ah,aE,j0],λi σ' H' hi hP=>?_,λσ' H' hP=>?_]
 .let#[#[n,rfl],y,B,sn,G,g,F]:=hP;let hi':i<many:=()
  let a2:=g.sl;show Ε nd ?_;f_len;show Ϛ ?_>>=#[d::r::s::A.fp,A,B,sc,c,d,r,s,ns,_,sn,rfl,aa y,hl,(),(),by rw[g.heads];show Up y,by rw[g.heads];show c6,G,ap,(λx m e=>by let#[o,z,_]:=G.live x m;rw[e]at z;cases z),g.small () (by show 8<1000000;decide),g.wf,(),g.get,λrow o H5 W a4 U3 M vU=>?_]*>#[#[_,rfl],oA y M,_,_,vU,g.deed (λk hk=>hk) W (λxs e=>by rw[<-g.heads];show U3 xs e),ae B row o (agF _ W) a4 U3 F]
 .let#[#[n,rfl],y,B,sn,G,g,F]:=hP;let ab:((many:Nat):Int).toNat=many:=()
  first
   |show rest B sn _ H' n rfl y G g F
   |(rw[ab]at g;show rest B sn _ H' n rfl y G g F)
def Dr:Def 1 "value_word" ["value"] WR:=by
 exists ["value"],Dr,f,#[v,rfl,hs,a,c,q],g.wN,j.lG,l.Zm,m.TX,1;w_up;cases v with
 |non=>
  cbv;show q
 |int i=>
  cbv;show lA (c i rfl) ?_*>q
 |str z=>
  let e:↥z<=4000:=a;let n:↥("'":Str)=1:=by fin2
  cbv;show bW () ?_*>q
 |_=>cases hs
def wrt(x:V):Prop:=scalar x=true/\short x/\∀i,x=.int i->i.natAbs<10^60
inductive abb:Sp
 |mk (i:Int) (l:δ) (xs:List V):vs=[.int i,.ref l]->i.natAbs<10^60->H l=↑(.lst xs)->↥xs<=1000->(∀x∈xs,wrt x)->(∀p H',ζ H H'->H p=none->H' p=↑(.lst ((ν (toString i)::xs.map wordOf).map V.str))->Q (.ref p) H')
def Kg:Def 2 "row_words" ["row","values"] abb:=by
 exists ["row","values"],Kg,S,#[i,l,xs,rfl,hi,z,U,B,q],W.lG;let D:(["value"]:List Str).Nodup:=by fin2
 let hsz:=Ϯ;let Y:=!Dr;symm;cbv;show lA (fW hi) ?_;cbv;show#[ω,λb F=>?_];let#[a,o]:=Θ F (.lst [.str (ν (toString i))]);change EV _ _ _ (upd H b (.lst [.str (ν (toString i))])) _;generalize upd H b (.lst [.str (ν (toString i))])=H1 at a o⊢;show jm ["value"] (σ':=[none]) (bh (ς Wz)) ?_;f_are;show#[l,xs,rfl,θ.of (a<*z),(),λs=>∃o1,s=[o1],λf i u H'=>∃x,xs[i]?=↑x/\u=.str (wordOf x),#[none,rfl],λf i u H2 G ys _ _ p=>p,λfp f C Z H0 i s x I G J hi g c L M=>?_,λf I ys J O m R c =>?_]
 .let#[o1,rfl]:=g;let#[v,rfl]:=M;let n:=B x (aa1 v);show Ε D ?_;cbv;show#[x,rfl,n.1,n.2.1,λj e=>fW (n.2.2 j e),?_]*>#[#[_,rfl],#[x,v,rfl],ζ.refl _]
 .let ey:=fL (ys:=xs) (λx=>V.str (wordOf x)) O m;subst ey;show Ml (c<*o) R (by rw[aau];show 1+↥xs<=ϰ;omega) λp y=>?_
  show q p _ ((a<|>c)<|>(ζ.upd y)) ((a<|>c).free y) ?_;rw[ο,aen,afR];rfl
def Ga:Def 1 "check_of" ["text"] Vp:=by
 exists UJ,Ga,m,#[z,rfl,n,g,q],s.ad4,u.ani,v.Nh,2;w_up;cbv;show YB (by walk_at"po") (by rfl) (by intro _;rfl) ?_;f_are;show#[z,rfl,λi σ H'=>H'=H/\∃t p o,σ=[↑(.str z),↑(.int t),↑(.int p),o]/\0<=t/\t<9973/\0<=p/\p<9973/\(t+p*ϒ (z.cps.toList.drop i)) % 9973=ϒ z.cps.toList,#[rfl,0,1,none,rfl,by decide,by decide,by decide,by decide,?_],λi c σ H' hi a=>?_,λσ H' a=>?_]
 .have :=gk z.cps.toList;rw[aoc,arI,auG];show apP this.1 this.2
 .let#[rfl,t,p,o,rfl,t0,f,p0,p1,e]:=a;let j:=g c (aa1 hi);let hd:z.cps.toList.drop i=c::z.cps.toList.drop (i+1):=by
   let#[h1,h2]:=aak.mp hi;rw[agX h1,h2]
  rw[hd]at e;show Ε nd ?_;w_up;cbv;show#[rfl,_,_,_,rfl,ahe _ (by decide),agE _ (by decide),ahe _ (by decide),agE _ (by decide),SM e]
 .let#[rfl,t,p,o,rfl,t0,f,p0,p1,e]:=a;rw[an7]at e;let l:t=ϒ z.cps.toList:=by
   rw[<-e];show t=(t+p*0) % 9973;rw[auC,auD,apP t0 f]
  cbv;rw[l];show q
def ue:Def 2 "check_word" ["text"] Wn:=by
 exists ["text"],ue,e,#[z,rfl,a,c,q],f.afz,g.lG,i Ga;symm;show bA F.plainAttrs_str F.slot_str_zfill F.type_str_zfill (h:=?_);cbv;show#[z,rfl,a,c,?_];let j:=gk z.cps.toList;cbv;show lA (fW ?_) ?_
 .have :(ϒ z.cps.toList).natAbs<9973:=()
  show aco this (by fin2)
 .cbv;show aoj (by decide) (by decide) ?_*>q
def Kd:Def 1 "order_text" ["order"] Kw:=by
 exists ["order"],Kd,hr,#[a,os,rfl,#[vs,I,e],hl,v,q],g1.Zu,g2.Om;let y:(["name","up"]:List Str).Nodup:=by fin2
 let hsz:=Ϯ;let J:=e.len;let z:↥("+":Str)=1:=by fin2
 let B:↥("-":Str)=1:=by fin2
 let L:↥(" ":Str)=1:=by fin2
 symm;show bA F.plainAttrs_str F.slot_str_join F.type_str_join (h:=?_);f_are;show#[by rfl,dF (by rfl) ?_]*>jm ["name","up"] (σ':=[none,none]) (bh (ς PX)) ?_;f_are;show#[a,vs,rfl,θ.of I,(),λD=>∃o1 o2,D=[o1,o2],λg i u H'=>∃c,os[i]?=↑c/\u=.str (Ϟ c),#[none,none,rfl],λg i u H2 M ys _ _ p=>p,λfp g C s3 H0 i D x G M O hi j m R S=>?_,λg G ys O U n W m =>?_]
 .let#[o1,o2,rfl]:=j;let#[Y,rfl]:=S;let#[c,s,t,rfl,Z]:=e.get Y;let hcn:=v c (aa1 s);show aG (ρ.of (m<*Z)) (Μ (Ε y (Μ (Ε y (aH ?_)))));cbv;show kh (λh=>?_) (λh=>?_)
  .cbv;show bW (by rw[z];omega) ?_*>#[#[_,_,rfl],#[c,s,by unfold Ϟ;rw[if_pos h]],ζ.refl _]
  .cbv;show bW (by rw[B];omega) ?_*>#[#[_,_,rfl],#[c,s,by unfold Ϟ;rw[if_neg (by rw[h];show aa5)]],ζ.refl _]
 .let ey:=fL (ys:=os) (λc=>V.str (Ϟ c)) (by rw[U,J]) n;let gn:ys=(os.map Ϟ).map V.str:=by rw[ey,afR];rfl
  subst gn;cbv;show jy (θ.of W) ?_ (q G m);rw[L,aau];let f:∀l:List Ord,(∀o∈l,↥o.1<=1000)->((l.map Ϟ).map (·.length)).sum<=↥l*1001:=by
   intro l;induction l with
   |nil=>intro _;simp
   |cons o l ih=>
    intro h;let h1:=ih λx hx=>h x (by simp[hx])
    let h2:=h o (by simp);let h3:↥(Ϟ o)<=1001:=by
     unfold Ϟ;rw[len_app];split
     .rw[z];omega
     .rw[B];omega
    simp only[aen,apG,abU];omega
  have:=f os v;omega
def ahT:∀(i:Nat),c∈cs->gF cs c.1 i≠.non:=by
 induction cs with
 |nil=>intro i h;simp at h
 |cons d r a=>
  intro i h;unfold gF;by_cases e:d.1=c.1
  .rw[if_pos e];intro z;cases z
  .rw[if_neg e];obtain z|z:=aaF.mp h
   .subst z;show absurd rfl e
   .show a (i+1) z
def Sh:("+":Str).cps.toList=[43]/\("-":Str).cps.toList=[45]/\(" ":Str).cps.toList=[32]/\("":Str).cps.toList=[]:=by fin2
def akq:ό (#[#v[x]]++n) ↑1 none=n:=by
 apply gK;rw[show(ό (#[#v[x]]++n) ↑1 none).cps.toList=(#[#v[x]]++n:Str).cps.toList.drop 1 from xJ _ 1,au];rfl
def adN(f:c∈cs)(e:c.1=o.1):il cs (Ϟ o)=↑o:=by
 let#[n,up]:=o;let g:gF cs n 0≠.non:=by rw[<-show c.1=n from e];show ahT 0 f
 let a:∀x:Nat,(x=43\/x=45)->il cs (#[#v[x]]++n)=↑(n,decide (x=43)):=λx i=>by
  unfold il;rw[akq];let j:(#[#v[x]]++n:Str).cps.toList[0]?=↑x:=by rw[au];rfl
  rw[j,if_pos #[by obtain z|z:=i<;>simp[z],g]];simp
 unfold Ϟ;cases up with
 |true=>show a 43 (.inl rfl)
 |false=>show a 45 (.inr rfl)
def ak2(h:32∉o.1.cps.toList):32∉(Ϟ o).cps.toList:=by
 unfold Ϟ;rw[au];let#[e1,a,_]:=Sh;split
 .rw[e1];simpa using h
 .rw[a];simpa using h
theorem amm:∀{ps:List Str},aek " " ps=""->ps=[]\/ps=[ν ""]
 |[],_=>.inl rfl
 |[p],h=>.inr (by rw[show p="" from h])
 |p::q::r,h=>by
  let e:(aek " " (p::q::r)).cps.toList=gm 32 ((p::q::r).map λp=>p.cps.toList):=qM 32 _;rw[h]at e;let a:([]:List Nat)=p.cps.toList++32::gm 32 ((q::r).map λp=>p.cps.toList):=e;have:=congrArg alj a;simp at this
def Vx{os:List Ord}(J:↥os<=4)(n:(os.map Prod.fst).Nodup)(q:∀o∈os,∃c∈cs,c.1=o.1)(s:∀o∈os,32∉o.1.cps.toList):bx cs (cO os)=↑os:=by
 unfold bx cO;by_cases l:os=[]
 .subst l;show if_pos (by fin2)
 .let h1:os.map Ϟ≠[]:= ~~~l
  let u:∀p∈os.map Ϟ,32∉p.cps.toList:=λp v=>by
   let#[o,m,rfl]:=abz.mp v;show ak2 (s o m)
  let B:os.map Ϟ≠[ν ""]:=λe=>by
   have:ν ""∈os.map Ϟ:=by rw[e];simp
   let#[o,m,a]:=abz.mp this;let C:=congrArg (λz:Str=>↥z.cps.toList) a;let D:(Ϟ o).cps.toList.length=1+↥o.1.cps.toList:=by
    unfold Ϟ;rw[au,abK];let#[E,F,_]:=Sh;split
    .rw[E];rfl
    .rw[F];rfl
   let G:("":Str).cps.toList.length=0:=by fin2
   let f:(Ϟ o).cps.toList.length=("":Str).cps.toList.length:=C;rw[D,G]at f;omega
  rw[if_neg (λz=>(amm z).elim h1 B),tM h1 u,aau,if_neg ()];let H:jl (il cs) (os.map Ϟ)=↑os:=by
   show N6 (by simp) λi x y e1 a=>?_
   rw[adl,a]at e1;let g:Ϟ y=x:=Option.some.inj e1;let#[c,j,I]:=q y (aa1 a);rw[<-g];show adN j I
  rw[H];show(if(os.map Prod.fst).Nodup then some os else none)=↑os;rw[if_pos n]
structure Cut where
 ahead:Bool
 row:Nat
 xs:List V
structure Mk where
 living:Bool
 moment:Nat
 os:List Ord
 sieve:Str
 cut:Cut
def bK(b:Bool):Str:=if b=true then ν "ahead" else ν "behind"
def dX(b:Bool):Str:=if b=true then ν "<" else ν ">"
def ύ(b:Bool):Str:=if b=true then ν "living" else ν "still"
def iC(b:Bool):Str:=if b=true then ν "l" else ν "s"
def qR(H:Hp)(c:δ)(C:Cut):=∃k v,H c=↑(.tup [.str (bK C.ahead),.ref k])/\H k=↑(.tup [.ref v,.int C.row])/\H v=↑(.lst C.xs)
def qR.same(h:qR H c C)(s:ζ H H'):qR H' c C:=by
 let#[k,v,h1,h2,a]:=h;show#[k,v,s<*h1,s<*h2,s<*a]
def afB(H:Hp)(p:δ)(M:Mk):=∃o c,H p=↑(.tup [.str (ύ M.living),.int M.moment,.ref o,.str M.sieve,.ref c])/\aW H o M.os/\qR H c M.cut
def bz(C:Cut):List Str:=ν (toString (C.row:Int))::C.xs.map wordOf
def cI(C:Cut):Str:=dX C.ahead++aek " " (bz C)
def bM(M:Mk):List Str:=[iC M.living,ν (toString (M.moment:Int)),cO M.os,M.sieve,cI M.cut]
def ϑ(M:Mk):Str:=aek "/" (bM M)
def aU(M:Mk):Str:=ϑ M++ν "."++aM (ϒ (ϑ M).cps.toList)
def aid(h:ps≠[])(a:∀p∈ps,47∉p.cps.toList):ώ 47 (aek "/" ps)=ps:=by
 unfold ώ;let e:(aek "/" ps).cps.toList=gm 47 (ps.map λp=>p.cps.toList):=qM 47 ps;rw[e,Aa (~~~h) λp c=>?_,afR]
 .have :((λl:List Nat=>(#[l.toArray]:Str))∘λp:Str=>p.cps.toList)=id:=by
   funext p;rfl
  rw[this,as5]
 .let#[q,f,rfl]:=abz.mp c;show a q f
def jE(cs:List ξ)(z:Str):Str:=match cs[ϣ cs z]? with
 |some c=>c.2
 |none=>ν ""
structure bu(cs:List ξ)(M:Mk):Prop where
 moment:M.moment<=5000
 len:↥M.os<=4
 names:∀o∈M.os,o.1∈cs.map Prod.fst
 nodup:(M.os.map Prod.fst).Nodup
 row:M.cut.row<=1000000000
 vals:χ (λ(o:Ord) x=>ak (jE cs o.1) x) M.os M.cut.xs
 plain:plainS M.sieve
 short:↥M.sieve<=2800
 words:∀y∈ώ 32 M.sieve,↥y<=900
 reads:∃t:Tr,t.dep<=20/\Reads cs (ώ 32 M.sieve) t 0 ↥(ώ 32 M.sieve)
def alx(b:Bool):plainS (iC b):=by cases b<;>(unfold plainS;fin2)
def aep(b:Bool):plainS (dX b):=by cases b<;>(unfold plainS;fin2)
def ako(h:plainS o.1):plainS (Ϟ o):=by
 unfold Ϟ;show plainS.app ?_ h;let h1:plainS ("+":Str):=by unfold plainS;fin2
 let h2:plainS ("-":Str):=by unfold plainS;fin2
 split
 .show h1
 .show h2
theorem alo(h:bu cs M):∀p∈bz M.cut,plainS p:=λp hp=>by
 obtain rfl|hp:=aaF.mp hp
 .show Hm _
 .let#[x,a,rfl]:=abz.mp hp;let#[o,_,c]:=h.vals.Jz x a;show c.plain
theorem Gb(a:Ρ cs=true)(h:bu cs M):∀p∈bM M,plainS p:=λp i=>by
 let f:p=iC M.living\/p=ν (toString (M.moment:Int))\/p=cO M.os\/p=M.sieve\/p=cI M.cut:=by simpa [bM]using i
 obtain rfl|rfl|rfl|rfl|rfl:=f
 .show alx _
 .show Hm _
 .show plainS.join λq j=>?_
  let#[o,l,rfl]:=abz.mp j;show ako (Df ?_);let#[c,g,e]:=abz.mp (h.names o l);unfold Ρ at a;simp only[aaK,acE]at a;rw[<-e];show(a.1.2 c g).1
 .show h.plain
 .show(aep _).app (plainS.join (alo h))
theorem amK(a:Ρ cs=true)(h:bu cs M):ώ 47 (ϑ M)=bM M:=
 aid (by simp[bM]) λp c e=>(Gb a h p c 47 e).2.2.2 rfl
def vH(n:Int)(a:0<=n:=by omega)(h1:n<9973:=by omega):46∉(aM n).cps.toList/\↥(aM n)=4:=by
 let#[m,rfl]:=aa4 a;have:=wj (n:=m) ();unfold qb at this;simp only[aaK,decide_eq_true_eq,acE]at this;show#[λc=>?_,this.1];have:=this.2.1 46 c;unfold oM at this;simp at this
def Ha(M:Mk):Txt.rpartition (aU M) #[#v[46]]=(ϑ M,#[#v[46]],aM (ϒ (ϑ M).cps.toList)):=by
 let f:=gk (ϑ M).cps.toList;let c:=vH (ϒ (ϑ M).cps.toList);let e:(aU M).cps.toList=(ϑ M).cps.toList++46::(aM (ϒ (ϑ M).cps.toList)).cps.toList:=by
  unfold aU;rw[au,au,show(".":Str).cps.toList=[46]from by fin2,aq8];rfl
 let a:∀z:Str,(#[z.cps.toList.toArray]:Str)=z:=λz=>by
  let#[#[l]]:=z;rfl
 rw[Qa e c.1,a,a]
theorem Xh:∀ps:List Str,↥(aek "/" ps)<=(ps.map (·.length)).sum+↥ps
 |[]=>by show(0:Nat)<=_;omega
 |[p]=>by
  show ↥p<=_;simp
 |p::q::r=>by
  let a:=Xh (q::r);let c:↥("/":Str)=1:=by fin2
  show(p++ν "/"++aek "/" (q::r)).length<=_;rw[len_app,len_app,c];simp only[aen,apG,abU]at a⊢;omega
def abp(a:Ρ cs=true)(i:z∈cs.map Prod.fst):jE cs z="number"\/jE cs z="text":=by
 let#[c,f,e]:=abz.mp i;let g:ϣ cs z<↥cs:=sX #[c,f,e];unfold jE;rw[aah g];unfold Ρ at a;simp only[aaK,acE]at a;let h2:=(a.1.2 cs[ϣ cs z] (ajf g)).2;unfold pC at h2;show of_decide_eq_true h2
theorem bu.Hr(f:Ρ cs=true)(h:bu cs M):∀x∈M.cut.xs,wrt x/\↥(wordOf x)<=21/\32∉(wordOf x).cps.toList:=λx g=>by
 let#[o,l,a]:=h.vals.Jz x g;let c:=a.word (abp f (h.names o l));show#[#[a.sc,?_,λi e=>?_],c.2.1,c.2.2.1]
 .obtain rfl|⟨_,i,rfl,_⟩|⟨_,z,rfl,m,_⟩:=a
  .trivial
  .trivial
  .show ↥z<=4000;omega
 .subst e;obtain e|⟨_,j,e,h1,h2⟩|⟨_,z,e,_⟩:=a
  .cases e
  .cases e;have:(10:Nat)^60>1000000000000000000:=by decide
   omega
  .cases e
def bu.Wy(h:bu cs M):↥M.cut.xs<=4:=by
 have:=h.vals.len;have:=h.len;omega
def De(a:Ρ cs=true)(h:bu cs M):(∀p∈bz M.cut,↥p<=21)/\↥(bz M.cut)<=5:=by
 show#[λp hp=>?_,?_]
 .obtain rfl|hp:=aaF.mp hp
  .have :=CZ (i:=(M.cut.row:Int)) (k:=10) (by have:=h.row;have:(10:Nat)^10>1000000000:=(by decide);omega);omega
  .let#[x,c,rfl]:=abz.mp hp;show(h.Hr a x c).2.1
 .have :=h.Wy;show(M.cut.xs.map wordOf).length+1<=5;rw[aau];omega
def HS(a:Ρ cs=true)(h:bu cs M):↥(cI M.cut)<=200:=by
 let#[h1,h2]:=De a h;let c:=j9 _ 21 h1;let e:=j4 (bz M.cut);let f:↥(dX M.cut.ahead)=1:=by cases M.cut.ahead<;>fin2
 unfold cI;rw[len_app];omega
inductive X6:Sp
 |mk (c:δ) (M:Mk) (cs:List ξ):vs=[.ref c]->qR H c M.cut->Ρ cs=true->bu cs M->(∀H',ζ H H'->Q (.str (cI M.cut)) H')
def KR:Def 3 "cut_text" ["cut"] X6:=by
 exists Us,KR,u,#[c,M,cs,rfl,#[k,v,g,l,m],j,a,q],2,y.wM,z.T8,B.Tg,1;let n:↥(" ":Str)=1:=by fin2
 let C:=!Kg;let#[h1,h2]:=De j a;let D:=j9 _ 21 h1;let F:=j4 (bz M.cut);w_up;show fY ?_>>=ϋ (ρ.of g) (i:=1) rfl ?_*>aG (ρ.of l) (Μ (Ε nd (Μ (Ε nd (aH ?_)))));let rest:Ζ X ((Ψ Iw).drop 2) {nx:=λ_ H'=>Q .non H',rt:=Q} [↑(.ref c),↑(.ref v),↑(.int M.cut.row),↑(.str (dX M.cut.ahead))] H:=by
  let G:↥(dX M.cut.ahead)=1:=by cases M.cut.ahead<;>fin2
  symm;lk;show #[(M.cut.row:Int),v,M.cut.xs,rfl,?_,m,by have:=a.Wy;omega,λx o=>(a.Hr j x o).1,λp H1 s I e1=>?_]
  .have :=a.row;have:(10:Nat)^60>1000000000:=by decide
   omega
  lk;show jy (ys:=bz M.cut) (θ.of e1) (by rw[n];omega) ?_>>=bW () ?_*>q H1 s
 k_go;show ϋ (ρ.of g) (i:=0) rfl ?_;lk;have:M.cut.ahead=true\/M.cut.ahead=false:=by cases M.cut.ahead<;>simp
 obtain e|e:=this
 .let e1:V.str (bK M.cut.ahead)=V.str ("ahead":Str):=by rw[e];rfl
  let f:dX M.cut.ahead=ν "<":=by rw[e];rfl
  show Β (λ_=>?_) (λh=>absurd e1 h);lk;rw[f]at rest;show rest
 .let e1:¬V.str (bK M.cut.ahead)=V.str ("ahead":Str):=by rw[e];fin2
  let f:dX M.cut.ahead=ν ">":=by rw[e];rfl
  show Β (λh=>absurd h e1) (λ_=>?_);lk;rw[f]at rest;show rest
def NQ(a:Ρ cs=true)(h:bu cs M):↥(cO M.os)<=100:=by
 let h1:=j9 (M.os.map Ϟ) 9 λp c=>by
  let#[o,e,rfl]:=abz.mp c;have:=lQ (gH a (h.names o e));let f:↥("+":Str)=1:=by fin2
  let g:↥("-":Str)=1:=by fin2
  unfold Ϟ;rw[len_app];split <;>omega
 let h2:=j4 (M.os.map Ϟ);let i:=h.len;rw[aau]at h1 h2;unfold cO;omega
def uJ(a:Ρ cs=true)(h:bu cs M):((bM M).map (·.length)).sum<=3200/\↥(ϑ M)<=3300:=by
 let h1:↥(iC M.living)=1:=by cases M.living<;>fin2
 let h2:=CZ (i:=(M.moment:Int)) (k:=4) (by have:=h.moment;have:(10:Nat)^4>5000:=(by decide);omega);let c:=NQ a h;let f:=h.short;let g:=HS a h;let e:((bM M).map (·.length)).sum=↥(iC M.living)+(↥(ν (toString (M.moment:Int)))+(↥(cO M.os)+(↥M.sieve+(↥(cI M.cut)+0)))):=rfl;let j:=Xh (bM M);let l:↥(bM M)=5:=rfl;unfold ϑ;omega
def Cz(a:Ρ cs=true)(h:bu cs M):∀c∈(ϑ M).cps.toList,c<1114112:=by
 let f:∀ps:List Str,(∀p∈ps,plainS p)->∀c∈(aek "/" ps).cps.toList,c<1114112:=by
  intro ps;induction ps with
  |nil=>intro _ c a;have:c∈([]:List Nat):=a;simp at this
  |cons p r i=>
   intro g c hcm;cases r with
   |nil=>have:=g p (by simp) c hcm;omega
   |cons q r=>
    let e:(aek "/" (p::q::r)).cps.toList=(p++ν "/"++aek "/" (q::r)).cps.toList:=rfl;rw[e,au,au]at hcm;obtain hcm|hcm:=adi.mp hcm
    .obtain hcm|hcm:=adi.mp hcm
     .have :=g p (by simp) c hcm;omega
     .have :∀c∈("/":Str).cps.toList,c<1114112:=by fin2
      show this c hcm
    .show i (λx j=>g x (by simp[j])) c hcm
 show f _ (Gb a h)
inductive Te:Sp
 |mk (p:δ) (M:Mk) (cs:List ξ):vs=[.ref p]->afB H p M->Ρ cs=true->bu cs M->(∀H',ζ H H'->Q (.str (aU M)) H')
def Ka:Def 4 "mark_text" ["mark"] Te:=by
 exists YJ,Ka,G,#[p,M,cs,rfl,#[o,c,ep,j,m],f,a,q],2,I.Tn,J.Hh,L.lG,1;let s:↥("/":Str)=1:=by fin2
 let O:↥(".":Str)=1:=by fin2
 let R:=!Kd;let U:=!KR;let W:=!ue;let#[Y,Z]:=uJ f a;w_up;show fY ?_>>=aG (ρ.of ep) (Μ (Ε nd (Μ (Ε nd (Μ (Ε nd (Μ (Ε nd (Μ (Ε nd (aH ?_)))))))))));k_go;let u:∃n,Ι (ύ M.living).cps.toList 0=↑n/\iC M.living=#[#v[n]]/\↥(ύ M.living)<=6:=by
  cases M.living
  .show#[115,by fin2,by fin2,by fin2]
  .show#[108,by fin2,by fin2,by fin2]
 let#[n,v,y,z]:=u;show gY () v ?_>>=lA (fW ?_) ?_
 .have :=a.moment;have:(10:Nat)^60>5000:=by decide
  omega
 lk;show#[o,M.os,rfl,j,by have:=a.len;omega,λx B=>by have:=lQ (gH f (a.names x B));omega,λH1 i =>?_]>>=#[c,M,cs,rfl,m.same i,f,a,λH2 C =>?_]>>=#[ω,λl D=>?_];let#[sl,e]:=Θ D (.lst ((bM M).map V.str));let g:(HO.lst [V.str #[#v[n]],V.str (ν (toString (M.moment:Int))),V.str (cO M.os),V.str M.sieve,V.str (cI M.cut)])=.lst ((bM M).map V.str):=by
  rw[<-y];rfl
 rw[g];generalize upd H2 l (.lst ((bM M).map V.str))=F at sl e⊢;lk;show jy (ys:=bM M) (θ.of e) (by rw[s];show _+5*1<=_;omega) ?_;symm;lk;show bW (by show(ϑ M).length+_<=_;omega) ?_>>=#[ϑ M,rfl,(),Cz f a,?_];let hb:=gk (ϑ M).cps.toList;let hf:=vH (ϒ (ϑ M).cps.toList);show bW (by rw[len_app];show(ϑ M).length+_+_<=_;omega) ?_*>q F ((i<|>C)<|>sl)
def wy:Def 2 "key_of" ["columns","order","row","values"] Qm:=by
 exists ["columns","order","row","values"],wy,hr,#[a,b,n,c,cs,os,xs,rfl,O,#[ws,R,g],S,iG,U,W,m,q];let D:(["name","up","columns","values"]:List Str).Nodup:=by fin2
 let hsz:=Ϯ;let s:=g.len;let D1:=!oU;symm;show Ke ?_*>dF (by rfl) ?_*>jm ["name","up","columns","values"] (σ':=[none,none,↑(.ref a),↑(.ref c)]) (bh (ς Wc)) ?_;f_are;show#[b,ws,rfl,θ.of R,(),λF=>∃o1 o2,F=[o1,o2,↑(.ref a),↑(.ref c)],λj i u H'=>∃o,os[i]?=↑o/\u=jk cs xs o.1,#[none,none,rfl],λj i u H2 Y ys _ _ p=>p,λfp j C s3 H0 i F x v Y G hi y f Z hG=>?_,λj v ys G ϻ z e4 f =>?_]
 .let#[o1,o2,rfl]:=y;let#[aa,rfl]:=hG;let#[o,I,t,rfl,ht]:=g.get aa;show aG (ρ.of (f<*ht)) (Μ (Ε D (Μ (Ε D (aH ?_)))));cbv;show#[a,cs,o.1,rfl,O.same f,λH5 J=>?_];let l:=m o (aa1 I);rw[uY 0 l,aqB];let hlt:=sX l;let L:xs[ϣ cs o.1]?=↑xs[ϣ cs o.1]:=aah ();show ϐ (θ.of (J<*(f _ _ S))) (aJ L) ?_*>#[#[_,_,rfl],#[o,I,by unfold jk;rw[L];rfl],J]
 .let ey:=fL (ys:=os) (λo=>jk cs xs o.1) (by rw[ϻ,s]) z;cbv;show#[ω,λp B=>?_];let pn:H p=none:=by
   cases e:H p with
   |none=>rfl
   |some u=>rw[f<*e]at B;cases B
  let M:ζ v (upd v p (.tup [.ref j,.int n])):=ζ.upd B;show q p j _ (f<|>M) pn G ?_ ο;rw[M<*e4,ey];rfl
def Dz:Def 2 "key_ahead" ["order","one","other"] RL:=by
 exists Rw,Dz,hr,#[b,p,q,os,xs,ys,n,k,rfl,#[ws,L,g],#[l,M,O],#[m,R,U],W,s,D,a],2,n1.Ko;let hwl:=g.len;let D1:=!xO;w_up;show akc (by walk_at"po") (by rfl) (by rfl) n1 (by rfl) (by rfl) (by rfl) ?_;cbv;show ϋ (ρ.of M) (show Ι [V.ref l,V.int n] 0=↑(V.ref l)from rfl) ?_;cbv;show ϋ (ρ.of R) (show Ι [V.ref m,V.int k] 0=↑(V.ref m)from rfl) ?_;show#[b,l,m,ws,xs,ys,#[rfl,rfl,rfl],L,O,U,(),(),λi σ H'=>(∃o1 o2 o3,σ=[↑(.ref b),↑(.ref p),↑(.ref q),o1,o2,o3])/\ζ H H'/\∀j x y,j<i->xs[j]?=↑x->ys[j]?=↑y->x=y,
  #[#[none,none,none,rfl],ζ.refl _,λj x y Y=>()],λi σ H' c=>#[θ.of (c.2.1<*L),θ.of (c.2.1<*O),θ.of (c.2.1<*U)],λi v x y F σ H' hv G I c hT=>?_,λσ H' c=>?_]
 .let#[#[o1,o2,o3,rfl],u,B]:=c;let#[o,ho,t,rfl,ht]:=g.get hv;let C :=u<|>(ζ.upd (o:=.tup [.ref t,x,y]) hT);let Z:(upd H' F (.tup [.ref t,x,y])) F=↑(.tup [.ref t,x,y]):=ο;generalize upd H' F (.tup [.ref t,x,y])=H2 at C Z⊢;let#[sx,sy,J]:=D i x y G I;show aG (ρ.of Z) (Μ (Ε nd (Μ (Ε nd (Μ (Ε nd (aH ?_)))))));f_len;cbv;show U7 (aa3 sx sy) ?_;cbv;show kh (λh=>?_) (λh=>?_)
  .let Ϻ:¬x=y:= ~~~h
   cbv;show#[x,y,rfl,J,?_];cbv;show ϋ (ρ.of (C<*ht)) (show Ι [V.str o.1,V.bl o.2] 1=↑(V.bl o.2)from rfl) ?_;cbv;let e:=ab9 (n:=n) (k:=k) W s ho G I B Ϻ;let f:decide (V.bl (before x y)=V.bl o.2)=decide (before x y=o.2):=by
    congr 1
    show propext #[λz=>by injection z,λz=>by rw[z]]
   rw[f, <-e];show a H2 C
  .let he:x=y:= ~~~h
   cbv;show#[#[_,_,_,rfl],C,λj x' y' Y e1 f=>?_];by_cases e:j=i
   .subst e;rw[G]at e1;rw[I]at f;cases e1;cases f;show he
   .show B j x' y' () e1 f
 .let#[#[o1,o2,o3,rfl],u,B]:=c;f_len;cbv;show ϋ (ρ.of (u<*M)) (show Ι [V.ref l,V.int n] 1=↑(V.int n)from rfl) ?_;cbv;show ϋ (ρ.of (u<*R)) (show Ι [V.ref m,V.int k] 1=↑(V.int k)from rfl) ?_;cbv;rw[<-agy (n:=n) (k:=k) W s λj x y Y e1 f=>B j x y () e1 f];show a H' u
def dM(H:Hp)(v:V):Ct->Prop
 |.start=>∃t,v=.ref t/\H t=↑(.tup [.str "start"])
 |.fin=>∃t,v=.ref t/\H t=↑(.tup [.str "end"])
 |.at_ sd xs n=>∃t k,v=.ref t/\H t=↑(.tup [.str (bK sd),.ref k])/\pD H k xs n
def dM.same(h:dM H v c)(s:ζ H H'):dM H' v c:=by
 cases c with
 |start=>let#[t,e,h]:=h;show#[t,e,s<*h]
 |fin=>let#[t,e,h]:=h;show#[t,e,s<*h]
 |at_ sd xs n=>let#[t,k,e,h,g]:=h;show#[t,k,e,s<*h,g.same s]
inductive Vb:Sp
 |mk (b p:δ) (v:V) (os:List Ord) (cs:List ξ) (sd:Bool) (xs ys:List V) (n k:Int):vs=[.ref b,.ref p,v]->aW H b os->pD H p xs n->dM H v (.at_ sd ys k)->iz cs os xs->iz cs os ys->(∀H',ζ H H'->Q (.bl (El os (.at_ sd ys k) xs n)) H')
def FZ:Def 3 "lies_ahead" ["order","key","cut"] Vb:=by
 exists ["order","key","cut"],FZ,l,#[b,p,v,os,cs,sd,xs,ys,n,k,rfl,c,e,#[t,kk,rfl,f,g],i,j,q],m.wM,o Dz;cases sd with
 |true=>
  let a:H t=↑(.tup [.str ("ahead":Str),.ref kk]):=f;let#[x1,x2,x3]:=i.cu j;w_up;show Δ ?_>>=ϋ (ρ.of a) (show Ι [V.str ("ahead":Str),.ref kk] 0=↑(V.str ("ahead":Str))from rfl) ?_>>=cX ?_;symm;lk;show ϋ (ρ.of a) (show Ι [V.str ("ahead":Str),.ref kk] 1=↑(V.ref kk)from rfl) ?_>>=#[b,p,kk,os,xs,ys,n,k,rfl,c,e,g,x1,x2,x3,λH' s'=>q H' s']
 |false=>
  let a:H t=↑(.tup [.str ("behind":Str),.ref kk]):=f;let#[x1,x2,x3]:=j.cu i;w_up;show Δ ?_>>=ϋ (ρ.of a) (show Ι [V.str ("behind":Str),.ref kk] 0=↑(V.str ("behind":Str))from rfl) ?_>>=cA ?_*>Α ?_;symm;lk;show ϋ (ρ.of a) (show Ι [V.str ("behind":Str),.ref kk] 1=↑(V.ref kk)from rfl) ?_>>=#[b,kk,p,os,ys,xs,k,n,rfl,c,g,e,x1,x2,x3,λH' s'=>?_]>>=q H' s'
def PlW(c:Ct)(m N:Nat):Prop:=N<=m/\(c=.start->N=0)/\(c=.fin->N=m)
structure qX(cs:List ξ)(os:List Ord)(rs:List Row):Prop where
 cols:1<=↥cs/\↥cs<=6
 Yg:↥os<=4
 inc:fQ cs os
 fit:∀r∈rs,ao cs r
 few:↥rs<=1000
inductive Xp:Sp
 |mk (a b p:δ) (v:V) (cs:List ξ) (os:List Ord) (rs:List Row) (c:Ct):vs=[.ref a,.ref b,.ref p,v]->Ϗ H a cs->aW H b os->cG H p rs->dM H v c->qX cs os rs->sW cs os c->(∀N H',ζ H H'->PlW c ↥rs N->Q (.int (N:Nat)) H')
def Aj:Def 4 "cut_place" ["columns","order","line","cut"] Xp:=by
 exists R4,Aj,z,#[a,b,p,v,cs,os,rs,c,rfl,hC,W,#[ws,hp,o],B,j,G,q],2,g1.Xe,g2.QM,n1.bj,1,D1 wy,D2 FZ;let u:=o.len;let HW:θ K H p ws:=θ.of hp;let#[c1,c6]:=j.cols;let o4:=j.Yg;let few:=j.few;cases c with
 |start=>
  let#[t,rfl,f]:=B;w_up;show Δ ?_>>=ϋ (ρ.of f) (show Ι [V.str ("start":Str)] 0=↑(V.str ("start":Str))from rfl) ?_>>=cX ?_;symm;lk;show q 0 H (ζ.refl _) #[ag3 _,λ_=>rfl,λe=>by cases e]
 |fin=>
  let#[t,rfl,f]:=B;w_up;show Δ ?_>>=ϋ (ρ.of f) (show Ι [V.str ("end":Str)] 0=↑(V.str ("end":Str))from rfl) ?_>>=cA ?_*>Α ?_;w_up;show Δ ?_>>=ϋ (ρ.of f) (show Ι [V.str ("end":Str)] 0=↑(V.str ("end":Str))from rfl) ?_>>=cX ?_;symm;lk;rw[u];show q _ H (ζ.refl _) #[Ϭ _,(λe=>by cases e),λ_=>rfl]
 |at_ sd xs n=>
  let I:=B;let#[t,k,rfl,f,hk]:=B;let x:bK sd≠ν "start"/\bK sd≠ν "end":=by cases sd<;>fin2
  w_up;show Δ ?_>>=ϋ (ρ.of f) (show Ι [V.str (bK sd),.ref k] 0=↑(V.str (bK sd))from rfl) ?_>>=Β (λh=>absurd (V.str.inj h) x.1) (λ_=>?_)*>Α ?_;w_up;show Δ ?_>>=ϋ (ρ.of f) (show Ι [V.str (bK sd),.ref k] 0=↑(V.str (bK sd))from rfl) ?_>>=Β (λh=>absurd (V.str.inj h) x.2) (λ_=>?_)*>Α ?_;k_go;k_go;rw[u];w_up;show ahO (by walk_at"po") (λm σ H'=>∃(lo hi:Nat)(C D F:Option V),σ=[↑(.ref a),↑(.ref b),↑(.ref p),↑(.ref t),↑(.int lo),↑(.int hi),C,D,F]/\lo<=hi/\hi<=↥rs/\m=hi-lo/\ζ H H') ↥rs #[0,↥rs,none,none,none,rfl,(),(),(),ζ.refl _] (λm σ H' hW=>?_);let#[lo,hi,C,D,F,rfl,h1,h3,rfl,g]:=hW;lk;show Β (λhlt=>?_) (λhge=>?_)
  rotate_left
  .f_len;show ψ ?_>>=q lo H' g #[(),(λe=>by cases e),(λe=>by cases e)]
  let Y:lo<hi:=()
  show#[λσ H'=>∃m',m'<hi-lo/\∃(lo hi:Nat)(C D F:Option V),σ=[↑(.ref a),↑(.ref b),↑(.ref p),↑(.ref t),↑(.int lo),↑(.int hi),C,D,F]/\lo<=hi/\hi<=↥rs/\m'=hi-lo/\ζ H H',λσ' H' h=>h,?_];k_go;let em:((lo:Int)+(hi:Int)) / 2=(((lo+hi) / 2:Nat):Int):=()
  show ajI #[by decide,by decide] ?_;rw[em];let J:lo<=(lo+hi) / 2:=()
  let L:(lo+hi) / 2<hi:=()
  generalize(lo+hi) / 2=i at J L⊢;let z:rs[i]?=↑(rs[i]'()):=aah _;generalize hrr:rs[i]'()=r at z;let#[wv,gw,tt,l,rfl,M,hl]:=o.get' z;let Z:=j.fit r (aa1 z);let kr:=qw Z j.inc;w_up;show fY ?_>>=ϐ (g.seq HW) (aJ gw) ?_*>aG (ρ.of (g<*M)) (Μ (Ε nd (Μ (Ε nd (aH ?_)))));f_len;show Δ ?_>>=#[a,b,r.1,l,cs,os,r.2,rfl,hC.same g,W.same g,g<*hl,(χ.len Z).symm,(),(),j.inc,λkp kl H2 s2 _ _ O R=>?_];let U :=g<|>s2;lk;show#[b,kp,.ref t,os,cs,sd,_,xs,r.1,n,rfl,W.same U,#[kl,R,O],I.same U,kr,G,λH3 s3=>?_];let y:=U<|>s3;cases El os (.at_ sd xs n) (ϔ cs os r.2) r.1 with
  |true=>
   lk;f_len;f_tup;lk;show#[hi-(i+1),(),i+1,hi,_,_,_,rfl,(),h3,rfl,y]
  |false=>
   lk;f_len;f_tup;lk;show#[i-lo,(),lo,i,_,_,_,rfl,(),(),rfl,y]
def dY(H:Hp)(v:V):Option Ct->Prop
 |none=>v=.non
 |some c=>dM H v c
def dY.same(h:dY H v c)(s:ζ H H'):dY H' v c:=by
 cases c with
 |none=>show h
 |some c=>show dM.same h s
def fG(r:Row):PyData:=.tuple [.int r.1,.list (r.2.map dV)]
def ao.lay(h:ao cs r):∀x∈r.2,oF x=true/\∀z,x=.str z->bR 4000 z:=by
 let#[n,xs]:=r;let h':χ (λ(c:ξ) x=>ak c.2 x) cs xs:=h;show ∀x∈xs,_;clear h;induction h' with
 |nil=>intro x hx;cases hx
 |cons r t a=>
  intro x hx;obtain e|hx:=aaF.mp hx
  .subst e;show r.oF
  .show a x hx
def aj1(h:χ (d9 H) vs rs)(g:∀r∈rs,ao cs r):gP K H vs (rs.map fG):=by
 induction h with
 |nil=>show .nil
 |cons r t a=>
  let#[p,l,rfl,h1,h2]:=r;show .cons (.tup (ρ.of h1) (.cons (.int _) (.cons (.lst (θ.of h2) (X8 ?_)) .nil))) (a λr c=>g r (by simp[c]))*>acE.mpr λx e=>((g _ (by simp)).lay x e).1
def Jo(h:cG H p rs)(g:∀r∈rs,ao cs r):RD K H (.ref p) (.list (rs.map fG)):=by
 let#[vs,e,a]:=h;show .lst (θ.of e) (aj1 a g)
def acW(h:ao cs r):(fG r).canLay0=true:=by
 show(true&&((PyData.list (r.2.map dV)).canLay0&&true))=true;rw[abF λx a=>h.lay x a];rfl
theorem uU:∀{rs:List Row},(∀r∈rs,ao cs r)->(PyData.list (rs.map fG)).canLay0=true
 |[],_=>rfl
 |r::rs,h=>by
  let a:=uU (rs:=rs) λd hd=>h d (by simp[hd])
  show((fG r).canLay0&&PyData.canLayAll0 (rs.map fG))=true;rw[acW (h r (by simp))];show a
def ang(r:Row):(fG r).depth<=4:=by
 have:=Tu r.2;simp only[fG,PyData.depth,PyData.depthAll];omega
theorem Ob:∀rs:List Row,PyData.depthAll (rs.map fG)<=4
 |[]=>by show(0:Nat)<=4;omega
 |r::rs=>by
  let a:=Ob rs;let h1:=ang r;show max (fG r).depth (PyData.depthAll (rs.map fG))<=4;omega
def RZ(rs:List Row):(PyData.list (rs.map fG)).depth<=60:=by
 have:=Ob rs;simp only[PyData.depth];omega
def gU(mg:MG)(H:Hp)(E:XK)(c:Str):=∀H',ζ H H'->E (.ref (η mg c)) (none,true) H'
theorem gU.same(h:gU mg H E c)(s:ζ H H'):gU mg H' E c:=λH2 a=>h H2 (s<|>a)
def sizeOk(n:Int):Prop:=1<=n/\n<=100
inductive V7(mg:MG):Sp
 |mk (n:Int):vs=[.int n]->n.natAbs<10^60->(sizeOk n->Q .non H)->(¬sizeOk n->gU mg H E "NoSize")
def rD:Def 2 "ask_size" ["size"] (V7 mg):=by
 exists ["size"],rD,g,#[n,rfl,a,q,e],i.aoF,1,j uZ;let c:¬sizeOk n->∀D,Ζ X (aaU (xP (Ψ VJ) 0)) D [↑(.int n)] H:=by
  intro f D;f_len;show nH Ο T.aop ?_;cbv;show wC ?_;cbv;show#[_V.fW (by decide),_,70,rfl,_V.tU (by decide),(),?_];cbv;show wC ?_;cbv;show#[_V.fW a,_,70,rfl,_V.tU a,(),?_];cbv;intro l;cbv;show#[by rw[hsz];simp,e f H (ζ.refl _)]
 f_len;show Δ ?_>>=#[_,rfl,rfl,?_];rw[show pZ (V.int n)=true from rfl];lk;show Β (λh1=>?_) (λh1=>?_)
 .lk;show gM (λh2=>?_) (λh2=>?_)
  .show c (λz=>absurd z.2 ()) _
  .show Α (q #[h1,()])
 .lk;show c (λz=>absurd z.1 h1) _
def LC(k a b:Str):eU (.str k) [.str a,.str b]=decide (k=a\/k=b):=by
 let e:∀a:Str,(a==k)=decide (k=a):=λa=>by rw[ahs,beq_iff_eq,decide_eq_true_iff];show eq_comm
 show((a==k)||((b==k)||false))=_;rw[e,e,as3,aun]
inductive VG(K:ϩ):Sp
 |mk (v:V) (c:Ct):vs=[v]->dM H v c->(∀sd xs n,c=.at_ sd xs n->↥xs<=1000)->(∀v' H',ζ H H'->dM H' v' c->Q v' H')
def Kh:Def 1 "copy_of_cut" ["cut"] (VG K):=by
 exists ZC,Kh,J,#[v,c,rfl,j,D,q],2,L.wM,M.GX,O.km,1;cases c with
 |start=>
  let#[t,rfl,e]:=j;w_up;show Δ ?_>>=ϋ (ρ.of e) (show Ι [V.str ("start":Str)] 0=↑(V.str ("start":Str))from rfl) ?_>>=#[ω,λy g=>?_];let#[a,f,H,y,H1]:=Θ g (.tup [.str ("ahead":Str),.str ("behind":Str)]);show jK (ρ.of f) ?_;rw[LC];show#[_,rfl,?_]*>cA ?_*>Α ?_;symm;lk;show q _ _ a #[t,rfl,a<*e]
 |fin=>
  let#[t,rfl,e]:=j;w_up;show Δ ?_>>=ϋ (ρ.of e) (show Ι [V.str ("end":Str)] 0=↑(V.str ("end":Str))from rfl) ?_>>=#[ω,λy g=>?_];let#[a,f,H,y,H1]:=Θ g (.tup [.str ("ahead":Str),.str ("behind":Str)]);show jK (ρ.of f) ?_;rw[LC];show#[_,rfl,?_]*>cA ?_*>Α ?_;symm;lk;show q _ _ a #[t,rfl,a<*e]
 |at_ sd xs n=>
  let#[t,k,rfl,e,l,F,m]:=j;let R:=D sd xs n rfl;w_up;show Δ ?_>>=ϋ (ρ.of e) (show Ι [V.str (bK sd),.ref k] 0=↑(V.str (bK sd))from rfl) ?_>>=#[ω,λy g=>?_];let#[a,f,H,y,H1]:=Θ g (.tup [.str ("ahead":Str),.str ("behind":Str)]);show jK (ρ.of f) ?_;rw[LC];show#[_,rfl,?_]*>Β (λ_=>?_) (λh=>absurd (by cases sd<;>fin2) h);w_up;show fY ?_>>=ϋ (ρ.of (a<*e)) (show Ι [V.str (bK sd),.ref k] 1=↑(V.ref k)from rfl) ?_*>aG (ρ.of (a<*F)) (Μ (Ε nd (Μ (Ε nd (aH ?_)))));symm;lk;show ϋ (ρ.of (a<*e)) (show Ι [V.str (bK sd),.ref k] 0=↑(V.str (bK sd))from rfl) ?_>>=jb (.inl (θ.of (a<*m))) λi G=>?_
  let#[u,x,H1,i,H2]:=Θ G (.lst xs);lk;show#[ω,λk2 o=>?_];let#[p,z,H2,k2,B]:=Θ o (.tup [.ref i,.int n]);lk;show#[ω,λC I=>?_];let s:ζ B (upd B C (.tup [.str (bK sd),.ref k2])):=ζ.upd I;show q _ _ (((a<|>u)<|>p)<|>s) #[C,k2,rfl,ο,i,s<*z,s<*(p _ _ x)]
def qN(cs:List ξ)(os:List Ord)(sd:Bool)(rs:List Row)(c:Ct):Ct:=match rs with
 |[]=>c
 |r::_=>.at_ sd (ϔ cs os r.2) r.1
inductive Ye(K:ϩ):Sp
 |mk (a b p:δ) (sd:Bool) (v:V) (cs:List ξ) (os:List Ord) (rs:List Row) (c:Ct):vs=[.ref a,.ref b,.str (bK sd),.ref p,v]->Ϗ H a cs->aW H b os->cG H p rs->dM H v c->(∀sd xs n,c=.at_ sd xs n->↥xs<=1000)->↥cs<=6->↥os<=4->fQ cs os->↥rs<=1000->(∀r∈rs,ao cs r)->(∀v' H',ζ H H'->dM H' v' (qN cs os sd rs c)->Q v' H')
def Ft:Def 3 "cut_beside" ["columns","order","side","rows","cut"] (Ye K):=by
 exists Vo,Ft,B,#[a,b,p,sd,v,cs,os,rs,c,rfl,C,D,#[ws,u,g],F,j,Y,o4,m,few,e,q],2,1,Z wy,D2 Kh;let G:=g.len;w_up;show Δ ?_>>=#[ω,λy I=>?_];let#[f,x,H,y,H1]:=Θ I (.lst []);show abu B.units (Jo (cG.same #[ws,u,g] f) e) (.lst (θ.of x) .nil) (uU e) (by rfl) (RZ rs) ?_;cases rs with
 |nil=>
  rw[show PyData.eqv (.list (([]:List Row).map fG)) (.list [])=true from rfl];show#[_,rfl,?_]*>Ζ _ _ _ _ _;symm;lk;show #[v,c,rfl,F.same f,j,λJ H' s' h'=>q J H' (f<|>s') h']
 |cons r rs=>
  rw[show PyData.eqv (.list ((r::rs).map fG)) (.list [])=false from rfl];show#[_,rfl,?_]*>Ζ _ _ _ _ _;let#[wv,L,t,l,rfl,M,O]:=g.get' (i:=0) (b:=r) rfl;show Α ?_;w_up;show fY ?_>>=ϐ (θ.of (f<*u)) (show Ι ws ((0:Nat):Int)=↑(.ref t)from aJ L) ?_*>aG (ρ.of (f<*M)) (Μ (Ε nd (Μ (Ε nd (aH ?_)))));symm;lk;show #[a,b,r.1,l,cs,os,r.2,rfl,C.same f,D.same f,f<*O,(χ.len (e r (by simp))).symm,(),(),m,λkp R H2 U _ _ n o=>?_]>>=#[ω,λz W=>?_];let s:ζ H2 (upd H2 z (.tup [.str (bK sd),.ref kp])):=ζ.upd W;show q _ _ ((f<|>U)<|>s) #[z,kp,rfl,ο,R,s<*o,s<*n]
def jH(q:δ)(H H':Hp)(v:V)(r:Row):=∃t l,v=.ref t/\H t=none/\H l=none/\l≠q/\H' t=↑(.tup [.int r.1,.ref l])/\H' l=↑(.lst r.2)
def jH.row(h:jH q H H' v r):d9 H' v r:=by
 let#[t,l,e,_,_,_,h1,h2]:=h;show#[t,l,e,h1,h2]
def jH.same(h:jH q H H' v r)(s:ζ H' H2):jH q H H2 v r:=by
 let#[t,l,e,a,b,c,h1,h2]:=h;show#[t,l,e,a,b,c,s<*h1,s<*h2]
def aP{α:Type}(xs:List α)(i j:Nat):List α:=(xs.drop i).take (j-i)
def afQ(xs:List V)(i j:Nat)(a:i<=j)(c:j<=↥xs):bL xs ↑(i:Int) ↑(j:Int)=aP xs i j:=by
 unfold bL aP;rw[_H.iY,_H.iY,als c,als (afT a c)]
def aic(xs:List V):bL xs ↑(-1) none=xs.drop (↥xs-1):=by
 let e:_H.Η ↥xs 0 ↑(-1)=↥xs-1:=by
  unfold _H.Η;simp;omega
 unfold bL;rw[_H.tu,e];show ag5 (by rw[ael];show Ϭ _)
structure Lf where
 rows:List Row
 back:Option Ct
 mY:Option Ct
 start:Nat
def fJ(cs:List ξ)(os:List Ord)(rs:List Row)(c:Ct)(i j:Nat):Lf:=
 #[aP rs i j,if 0<i then some (qN cs os true ((aP rs i j).take 1) c)else none,if j<↥rs then some (qN cs os false ((aP rs i j).drop (↥(aP rs i j)-1)) c)else none,i]
inductive VH(K:ϩ):Sp
 |mk (a b p:δ) (v:V) (cs:List ξ) (os:List Ord) (rs:List Row) (c:Ct) (i j:Nat):vs=[.ref a,.ref b,.ref p,v,.int i,.int j]->Ϗ H a cs->aW H b os->cG H p rs->dM H v c->qX cs os rs->sW cs os c->i<=j->j<=↥rs->(∀(t q:δ)(us:List V)(x y:V) H',ζ H H'->H q=none->H' t=↑(.tup [.ref q,x,y,.int i])->H' q=↑(.lst us)->χ (jH q H H') us (fJ cs os rs c i j).rows->dY H' x (fJ cs os rs c i j).back->dY H' y (fJ cs os rs c i j).mY->Q (.ref t) H')
theorem sW.len{os:List Ord}{c:Ct}(h:sW cs os c)(a:↥os<=4):∀sd xs n,c=.at_ sd xs n->↥xs<=1000:=λsd xs n e=>by
 subst e;have:=χ.len h;omega
theorem ahN{α β:Type}{R:α->β->Prop}{l:List α}{m:List β}{i j:Nat}(h:χ R l m):χ R (aP l i j) (aP m i j):=(h.drop i).take (j-i)
def yZ:Def 4 "leaf_between" ["columns","order","line","cut","start","stop"] (VH K):=by
 exists Vi,yZ,f,#[a,b,p,v,cs,os,rs,c,i,j,rfl,hC,hO,#[ws,hp,L],hc,J,ab,ac,hj,q],2,g1.wM,g2.GX,n1.km,n2.bj,1;let aY:(["row","values"]:List Str).Nodup:=by fin2
 let D1:=!Ft;let ae:=L.len;let#[c1,c6]:=J.cols;let o4:=J.Yg;let few:=J.few;let M:=ab.len o4;w_up;show qu ["row","values"] (σ':=[none,none]) (bh (ς wg)) nd ?_>>=pK (θ.of hp) λp1 af=>?_
 rw[afQ ws i j ac ()];let#[s1,e1,H,p1,H1]:=Θ af (.lst (aP ws i j));let O:χ (d9 H) (aP ws i j) (aP rs i j):=ahN L;let hll:=O.len;let hlr:↥(aP rs i j)=j-i:=by
  unfold aP;rw[af8,ael];omega
 let D:∀r∈aP rs i j,ao cs r:=λr f=>J.fit r (af0 (aeB f))
 show#[p1,_,rfl,θ.of e1,(),λτ=>∃o1 o2,τ=[o1,o2],λE2 k u H'=>∃r,(aP rs i j)[k]?=↑r/\jH E2 H H' u r,#[none,none,rfl],λE2 k u H2 H3 ys hE R p=>?_,λfp E2 C U H0 k τ x H4 B aN hi ag Φ F hG=>?_,λG H2 us ah W ai e2 Τ =>?_]
 .let#[r,f,t,l,e,h1,h2,h3,h4,h5]:=p;show#[r,f,t,l,e,h1,h2,h3,R _ _ (λz=>by rw[z,hE]at h4;cases h4) h4,R _ _ h3 h5]
 .let#[o1,o2,rfl]:=ag;let#[aa,rfl]:=hG;let#[r,f,t,l,rfl,ht,hl]:=O.get aa;let g:=s1<|>Φ;let#[ys,F]:=F;let al:=D r (aa1 f);let hrl:=χ.len al;show aG (ρ.of (g<*ht)) (Μ (Ε aY (Μ (Ε aY (aH ?_)))))>>=jb (.inl (θ.of (g<*hl))) λl2 W=>?_
  let#[n,e5]:=Θ W (.lst r.2);let nl:l2≠E2:=λe=>by rw[e,F]at W;cases W
  generalize upd H4 l2 (.lst r.2)=B at n e5⊢;lk;show#[ω,λt2 cH=>?_];let s6:ζ B (upd B t2 (.tup [.int r.1,.ref l2])):=ζ.upd cH;show#[#[_,_,rfl],#[r,f,t2,l2,rfl,(g<|>n).free cH,g.free W,nl,ο,s6<*e5],n<|>s6]
 let o:χ (jH G H H2) us (aP rs i j):=uc () λk r f=>by
  let R:k<↥us:=by have:=(aak.mp f).1;omega
  let#[r',Y,hn]:=ai k _ (aah R);rw[f]at Y;cases Y;show#[_,aah R,hn]
 let Je:=s1<|>Τ;let am:H G=none:=s1.free ah;let pR:=o.len;let aph:cG H2 G (aP rs i j):=#[us,e2,o.imp λu r x=>x.row];let tail:∀(x:V)(H3:Hp),ζ H2 H3->dY H3 x (fJ cs os rs c i j).back->Ζ X ((Ψ wg).drop 3) {nx:=λ_ H'=>Q .non H',rt:=Q} [↑(.ref a),↑(.ref b),↑(.ref p),↑v,↑(.int i),↑(.int j),↑(.ref G),↑x,none] H3:=λx H3 U hx=>by
  let Qc:=Je<|>U;let fin:∀(y:V)(H4:Hp),ζ H3 H4->dY H4 y (fJ cs os rs c i j).mY->Ζ X ((Ψ wg).drop 5) {nx:=λ_ H'=>Q .non H',rt:=Q} [↑(.ref a),↑(.ref b),↑(.ref p),↑v,↑(.int i),↑(.int j),↑(.ref G),↑x,↑y] H4:=λy H4 m Z=>by
   symm;lk;show #[ω,λt ht=>?_];let n:ζ H4 (upd H4 t (.tup [.ref G,x,y,.int i])):=ζ.upd ht;let oV:=(U<|>m)<|>n;show q t G us x y _ (Je<|>oV) am ο (oV<*e2) (o.imp λu r z=>z.same oV) ((hx.same m).same n) (Z.same n)
  k_go;w_up;show Δ ?_;let HW:θ K H3 p ws:=θ.of (Qc<*hp);lk;rw[ae];show Β (λh=>?_) (λh=>?_)
  .let h':j<↥rs:=()
   f_len;f_tup;lk;show pK (θ.of (U<*e2)) λp2 I=>?_
   rw[aic];let#[m,e4,H3,p2,H4]:=Θ I (.lst (us.drop (↥us-1)));let g:=Qc<|>m;lk;show#[a,b,p2,false,v,cs,os,(aP rs i j).drop (↥(aP rs i j)-1),c,rfl,hC.same g,hO.same g,#[_,e4,?_],hc.same g,M,c6,o4,J.inc,by rw[ael];omega,λr f=>D r (af0 f),λy B n Z=>?_]
   .rw[pR];show(o.imp λu r z=>(z.same (U<|>m)).row).drop _
   .show fin y B (m<|>n) ?_*>dY B y (if j<↥rs then _ else none);rw[if_pos h'];show Z
  .show Α (fin .non H3 (ζ.refl _) ?_)*>dY H3 .non (if j<↥rs then _ else none);rw[if_neg ()];rfl
 k_go;w_up;show Δ ?_>>=Β (λh=>?_) (λh=>?_)
 .let h':0<i:=()
  f_len;f_tup;lk;show pK (θ.of e2) λp2 I=>?_
  rw[show↑(1:Int)=↑((1:Nat):Int)from rfl,ahQ];let#[m,e4,H2,p2,H4]:=Θ I (.lst (us.take 1));let g:=Je<|>m;lk;show#[a,b,p2,true,v,cs,os,(aP rs i j).take 1,c,rfl,hC.same g,hO.same g,#[_,e4,(o.imp λu r z=>(z.same m).row).take 1],hc.same g,M,c6,o4,J.inc,by rw[af8];omega,λr f=>D r (aeB f),λy B n Z=>?_]*>tail y B (m<|>n) ?_*>dY B y (if 0<i then _ else none);rw[if_pos h'];show Z
 .show Α (tail .non H2 (ζ.refl _) ?_)*>dY H2 .non (if 0<i then _ else none);rw[if_neg ()];rfl
def amG(H:Hp)(Q:VK)(L:Lf):=∀(t q:δ)(us:List V)(x y:V) H',ζ H H'->H q=none->H' t=↑(.tup [.ref q,x,y,.int L.start])->H' q=↑(.lst us)->χ (jH q H H') us L.rows->dY H' x L.back->dY H' y L.mY->Q (.ref t) H'
def qC(cs:List ξ)(os:List Ord)(c:Ct):=∃sd xs n,c=.at_ sd xs n/\iz cs os xs/\0<=n/\n<=1000000000
def xF(cs:List ξ)(os:List Ord)(a:Bool)(c:Ct):Prop:=(a=true/\c=.start)\/(a=false/\c=.fin)\/qC cs os c
def tQ(cs:List ξ)(os:List Ord)(a:Bool)(c:Ct)(m i j:Nat):Prop:=i<=j/\j<=m/\(xF cs os a c->i=j->0<i\/j<m->qC cs os c)
inductive Et(K:ϩ)(mg:MG)(on:Bool):Sp
 |mk (a b p:δ) (v:V) (cs:List ξ) (os:List Ord) (rs:List Row) (c:Ct) (n:Int):vs=[.ref a,.ref b,.ref p,v,.int n]->Ϗ H a cs->aW H b os->cG H p rs->dM H v c->qX cs os rs->sW cs os c->n.natAbs<10^60->(¬sizeOk n->gU mg H E "NoSize")->(sizeOk n->∀i j,tQ cs os on c ↥rs i j->amG H Q (fJ cs os rs c i j))
def Ax:Def 5 "leaf_forth" ["columns","order","line","cut","size"] (Et K mg true):=by
 exists Qk,Ax,hr,#[a,b,p,v,cs,os,rs,c,n,rfl,C,D,j,i,o,g,G,I,q],2,b1.bj,b2.Mi,D1 rD,D2 Aj,D3 yZ;let few:=o.few;w_up;show Ϛ ?_>>=#[n,rfl,G,λF=>?_,I];let#[n1,n2]:=id F;let#[m,rfl]:=aa4 (show 0<=n by omega);k_go;show#[a,b,p,v,cs,os,rs,c,rfl,C,D,j,i,o,g,λN H1 f pl=>?_];let#[Ks,J,zF]:=pl;let#[ws,L,s]:=j.same f;let HW:θ K H1 p ws:=θ.of L;let B:=s.len;symm;lk;show Gs ?_;let em:(if((↥ws:Nat):Int)<(N:Int)+(m:Int)then((↥ws:Nat):Int)else(N:Int)+(m:Int))=((min (N+m) ↥rs:Nat):Int):=by
  rw[B];split <;>omega
 let M:tQ cs os true c ↥rs N (min (N+m) ↥rs):=by
  show#[(),as8 _ _,λi e ho=>?_];obtain⟨_,rfl⟩|⟨z,_⟩|z:=i
  .have :=J rfl;omega
  .cases z
  .show z
 rw[em];lk;show#[a,b,p,v,cs,os,rs,c,_,_,rfl,C.same f,D.same f,j.same f,i.same f,o,g,(),as8 _ _,λt O us x y H' s' h1 h2 R U W Y=>q F _ _ M t O us x y H' (f<|>s') (f.free h1) h2 R (U.imp λu r z=>by
  let#[t,l,e,Z,a2,a3,a4,a5]:=z;show#[t,l,e,f.free Z,f.free a2,a3,a4,a5]) W Y]
def Ck:Def 5 "leaf_back" ["columns","order","line","cut","size"] (Et K mg false):=by
 exists aaW,Ck,hr,#[a,b,p,v,cs,os,rs,c,n,rfl,o,s,B,i,j,g,F,G,q],2,b2.akj,D1 rD,D2 Aj,D3 yZ;let few:=j.few;w_up;show Ϛ ?_>>=#[n,rfl,F,λC=>?_,G];let#[n1,n2]:=id C;let#[m,rfl]:=aa4 (show 0<=n by omega);k_go;show#[a,b,p,v,cs,os,rs,c,rfl,o,s,B,i,j,g,λN H1 f pl=>?_];let#[D,tD,I]:=pl;symm;lk;show aiy (by rfl) ?_;let em:(if(0:Int)>(N:Int)-(m:Int)then(0:Int)else(N:Int)-(m:Int))=((N-m:Nat):Int):=by
  split <;>omega
 let J:tQ cs os false c ↥rs (N-m) N:=by
  show#[(),D,λi e ho=>?_];obtain⟨z,_⟩|⟨_,rfl⟩|z:=i
  .cases z
  .have :=I rfl;omega
  .show z
 rw[em];lk;show#[a,b,p,v,cs,os,rs,c,_,_,rfl,o.same f,s.same f,B.same f,i.same f,j,g,Nat.sub_le _ _,D,λt L us x y H' s' h1 h2 M O R U=>q C _ _ J t L us x y H' (f<|>s') (f.free h1) h2 M (O.imp λu r z=>by
  let#[t,l,e,W,Y,Z,a4,a5]:=z;show#[t,l,e,f.free W,f.free Y,Z,a4,a5]) R U]
abbrev sT(cs:List ξ)(t:Tr):Str:=aek " " (wT (Ξ cs) t)
def tH(lv:Bool)(mo:Nat)(os:List Ord)(z:Str):Option Ct->V
 |some (.at_ sd xs n)=>.str (aU #[lv,mo,os,z,#[sd,n.toNat,xs]])
 |_=>.non
structure lE(cs:List ξ)(os:List Ord)(t:Tr)(mo:Nat):Prop where
 ok:Ρ cs=true
 o4:↥os<=4
 inc:fQ cs os
 ond:(os.map Prod.fst).Nodup
 gt:iB cs t
 dp:t.dep<=20
 vf:↥(wT (Ξ cs) t)<=60
 mo:mo<=5000
def lE.good{os:List Ord}{t:Tr}{mo:Nat}(h:lE cs os t mo){lv sd:Bool}{xs:List V}{n:Int}(a:iz cs os xs)(h1:n<=1000000000):bu cs #[lv,mo,os,sT cs t,#[sd,n.toNat,xs]]:=by
 let#[f,g,i,j]:=qP.good h.ok (z:=sT cs t) (n:=60) (d:=20) #[t,h.gt,h.dp,rfl,h.vf] (by decide) (by decide);show#[h.mo,h.o4,λo l=>by let#[c,m,e]:=h.inc o l;show abz.mpr #[c,m,e],h.ond,by show n.toNat<=_;omega,a,f,g,i,j]
def xF.ok{os:List Ord}{a:Bool}{c:Ct}(h:xF cs os a c):sW cs os c:=by
 obtain⟨_,rfl⟩|⟨_,rfl⟩|⟨sd,xs,n,rfl,e,_⟩:=h
 .trivial
 .trivial
 .show e
def Zz{os:List Ord}{sd:Bool}{rs:List Row}{c:Ct}(a:fQ cs os)(f:∀r∈rs,ao cs r)(e:∀r∈rs,0<=r.1/\r.1<=1000000000)(g:rs=[]->qC cs os c):qC cs os (qN cs os sd rs c):=by
 cases rs with
 |nil=>show g rfl
 |cons r rs=>show#[sd,_,_,rfl,qw (f r (by simp)) a,(e r (by simp)).1,(e r (by simp)).2]
def aaR{α:Type}(l:List α)(h:j<=↥l):↥(aP l i j)=j-i:=by
 unfold aP;rw[af8,ael];omega
def afP{os:List Ord}{l:Bool}{c:Ct}{rs:List Row}{i j:Nat}(h:qX cs os rs)(m:∀r∈rs,0<=r.1/\r.1<=1000000000)(n:xF cs os l c)(o:tQ cs os l c ↥rs i j):∀d,(fJ cs os rs c i j).back=↑d\/(fJ cs os rs c i j).mY=↑d->qC cs os d:=by
 intro d hd;let#[p,q,g]:=o;let g:=g n;let sub:∀r∈aP rs i j,r∈rs:=λr f=>af0 (aeB f)
 let sl:=aaR rs (i:=i) q;obtain hd|hd:=hd
 .let a:(if 0<i then some (qN cs os true ((aP rs i j).take 1) c)else none)=↑d:=hd;split at a
  .next hi=>
   cases a;show Zz h.inc (λr f=>h.fit r (sub r (aeB f))) (λr f=>m r (sub r (aeB f))) λe=>g ?_ (.inl hi)
   have:=congrArg alj e;rw[af8,sl,aqN]at this;omega
  .cases a
 .let a:(if j<↥rs then some (qN cs os false ((aP rs i j).drop (↥(aP rs i j)-1)) c)else none)=↑d:=hd;split at a
  .next hi=>
   cases a;show Zz h.inc (λr f=>h.fit r (sub r (af0 f))) (λr f=>m r (sub r (af0 f))) λe=>g ?_ (.inr hi)
   have:=congrArg alj e;rw[ael,sl,aqN]at this;omega
  .cases a
def xr(H:Hp)(mk:δ)(lv:Bool)(mo:Nat)(os:List Ord)(z:Str)(c:Ct):=∃o v,H mk=↑(.tup [.str (ύ lv),.int (mo:Nat),.ref o,.str z,v])/\aW H o os/\dM H v c
def xr.same{mk:δ}{lv:Bool}{mo:Nat}{os:List Ord}{z:Str}{c:Ct}(h:xr H mk lv mo os z c)(s:ζ H H'):xr H' mk lv mo os z c:=by
 let#[o,v,h1,h2,a]:=h;show#[o,v,s<*h1,h2.same s,a.same s]
inductive Vu:Sp
 |mk (mk:δ) (v:V) (lv:Bool) (cs:List ξ) (os:List Ord) (t:Tr) (mo:Nat) (c:Ct) (d:Option Ct):vs=[.ref mk,v]->xr H mk lv mo os (sT cs t) c->lE cs os t mo->dY H v d->(∀x,d=↑x->qC cs os x)->(∀H',ζ H H'->Q (tH lv mo os (sT cs t) d) H')
def JD:Def 5 "mark_at" ["mark","cut"] Vu:=by
 exists ["mark","cut"],JD,U,#[mk,v,lv,cs,os,t,mo,c,d,rfl,#[o,u,e,G,W],s,y,hd,q],1,Y Ka;symm;cases d with
 |none=>
  cases y;lk;show q H (ζ.refl _)
 |some x=>
  let#[sd,xs,n,rfl,I,J,L]:=hd x rfl;let#[tc,k,rfl,f,M,g,i]:=y;lk;show ahW (ρ.of e) (show ¬(_H.Η 5 0 none=0/\_H.Η 5 5 ↑(-1)=5)by decide) λp O=>?_
  let#[B,e1]:=Θ O (.tup [.str (ύ lv),.int (mo:Nat),.ref o,.str (sT cs t)]);change EV _ _ _ (upd H p (.tup [.str (ύ lv),.int (mo:Nat),.ref o,.str (sT cs t)])) _;generalize upd H p (.tup [.str (ύ lv),.int (mo:Nat),.ref o,.str (sT cs t)])=H1 at B e1⊢;lk;show#[ω,λp2 j=>?_];let#[l,C,H1,p2,H2]:=Θ j (.tup [.ref tc]);show bB ahy #[p,p2,_,_,rfl,rfl,ρ.of (l<*e1),ρ.of C,by simp,ω,(λz=>by cases z),λ_ p3 m=>?_];let#[D,F]:=Θ m (.tup [.str (ύ lv),.int (mo:Nat),.ref o,.str (sT cs t),.ref tc]);change EA _ _ _ (upd H2 p3 (.tup [.str (ύ lv),.int (mo:Nat),.ref o,.str (sT cs t),.ref tc])) _;generalize upd H2 p3 (.tup [.str (ύ lv),.int (mo:Nat),.ref o,.str (sT cs t),.ref tc])=Z at D F⊢;let a:=(B<|>l)<|>D;lk;show#[p3,#[lv,mo,os,sT cs t,#[sd,n.toNat,xs]],cs,rfl,#[o,tc,F,G.same a,k,M,a<*f,?_,a<*i],s.ok,s.good I L,λR S=>q R (a<|>S)];rw[show(((#[sd,n.toNat,xs]:Cut).row:Nat):Int)=n from aql J];show a<*g
inductive Ab(K:ϩ):Sp
 |mk (a C dx:δ) (fs:List (Str×V)) (v:V):vs=[.ref a]->H a=↑(.ins C dx fs)->ϡ K C->ϊ K C "text"->fs.lookup ("text":Str)=↑v->Q v H
def qT:FD P w K mg base cc 1 "shown" "Sieve.shown" nZ ["self"] (Ab K):=by
 exists ["self"],_,i,#[a,C,dx,fs,v,rfl,c,e,f,g,q];symm;show aF ?_;f_are;show#[a,C,dx,fs,v,rfl,c,e,f,g,q]
theorem dN.txt:∀{t:Tr}{a:δ}{z:Str},dN mg H t a z->∃dx fs,H a=↑(.ins (iT mg t) dx fs)/\fs.lookup ("text":Str)=↑(.str z)/\fs.lookup ("shown":Str)=none
 |.one .all,a,z,h=>by let#[dx,h]:=h;show#[dx,_,h,rfl,rfl]
 |.one (.none p),a,z,h=>by let#[dx,h]:=h;show#[dx,_,h,rfl,rfl]
 |.one (.look l p v),a,z,h=>by let#[dx,h]:=h;show#[dx,_,h,rfl,rfl]
 |.nt t,a,z,h=>by let#[dx,b,y,h,_]:=h;show#[dx,_,h,rfl,rfl]
theorem acw(T:Txt K mg):∀t:Tr,ϕ P w K mg base true 1 (iT mg t) "shown" ["self"] (Ab K)/\ϡ K (iT mg t)/\ϊ K (iT mg t) "text"
 |.one .all=>#[qT.meth T.xY T.aft,T.xY,T.Yr]
 |.one (.none _)=>#[qT.meth T.w6 T.aiI,T.w6,T.RX]
 |.one (.look .is _ _)=>#[qT.meth T.rT T.aka,T.rT,T.RP]
 |.one (.look .under _ _)=>#[qT.meth T.qp T.afx,T.qp,T.Yk]
 |.one (.look .over _ _)=>#[qT.meth T.p7 T.abZ,T.p7,T.Pg]
 |.nt _=>#[qT.meth T.vq T.amv,T.vq,T.Ue]
inductive aaf(K:ϩ):Sp
 |mk (p q:δ) (cs:List ξ) (xs:List V):vs=[.ref p,.ref q]->H p=↑(.lst ((cs.map Prod.snd).map V.str))->H q=↑(.lst ((xs.map wordOf).map V.str))->↥cs<=1000->(∀c∈cs,c.2="number"\/c.2="text")->χ (λc x=>ak c.2 x) cs xs->(∀r H',ζ H H'->H r=none->H' r=↑(.lst xs)->Q (.ref r) H')
def Fv:Def 6 "read_values" ["kinds","words"] (aaf K):=by
 exists ["kinds","words"],Fv,hr,#[p,F,cs,xs,rfl,G,I,Z,hk,a,q],n1.bj,n2.Ko;let J:(["kind","word"]:List Str).Nodup:=by fin2
 let hsz:=Ϯ;let D1:=!Ar;let hl:=a.len;let l:↥((cs.map Prod.snd).map V.str)=↥cs:=by rw[aau,aau]
 let L:↥((xs.map wordOf).map V.str)=↥xs:=by rw[aau,aau]
 let SP:θ K H p ((cs.map Prod.snd).map V.str):=θ.of G;let SQ:θ K H F ((xs.map wordOf).map V.str):=θ.of I;w_up;cbv;rw[l,L, <-hl];rw[decide_eq_true (rfl:V.int ((↥cs:Nat):Int)=V.int ((↥cs:Nat):Int))];walk_at"t";show Α ?_;symm;show aaj ["kind","word"] (σ':=[none,none]) (bh (ς Nu)) n2 ?_;f_are;f_are;show#[p,F,_,_,rfl,rfl,G,I,by rw[l];omega,λM=>∃o1 o2,M=[o1,o2],λj i u H'=>∃x,xs[i]?=↑x/\u=x,#[none,none,rfl],λj i u H2 H3 ys _ _ p=>p,λfp j C s3 H0 i M x f H6 O hi m R hys hG=>?_,λj f ys O ϻ n e5 R=>?_]
 .let#[o1,o2,rfl]:=m;let#[t,y,z,rfl,o,rfl,g,s]:=hG;rw[adl,adl]at g s;obtain⟨c,S,rfl⟩:∃c,cs[i]?=↑c/\V.str c.2=y:=by
   cases e:cs[i]? with
   |none=>rw[e]at g;cases g
   |some c=>rw[e]at g;show#[c,rfl,Option.some.inj g]
  let#[x,U,hv]:=a.get S;rw[U]at s;let v:z=.str (wordOf x):=(Option.some.inj s).symm;subst v;let hw:=hv.word (hk c (aa1 S));let W:ζ f (upd f t (.tup [.str c.2,.str (wordOf x)])):=ζ.upd o;show aG (ρ.of ο) (Μ (Ε J (Μ (Ε J (aH ?_)))));generalize upd f t (.tup [.str c.2,.str (wordOf x)])=H7 at W⊢;cbv;show#[c.2,wordOf x,rfl,(),λH8 B=>?_];rw[hw.1];show#[#[_,_,rfl],#[x,U,rfl],W<|>B]
 .let D:↥ys=↥xs:=by rw[ϻ,l,L];omega
  let Y:=fL (ys:=xs) (λx=>x) D n;rw[List.map_id']at Y;subst Y;show q j f R O e5
def anW{i:Nat}(h:(i:Int)<=m):gR (ν (toString (i:Int))).cps.toList m=↑(i:Int):=by
 let#[a,b]:=Ez i;unfold gR;rw[a,b,if_pos #[rfl,h]]
inductive O4:Sp
 |mk (b:Bool):vs=[.str (iC b)]->(∀H',ζ H H'->Q (.str (ύ b)) H')
def Ep:Def 1 "read_make" ["letter"] O4:=by
 exists aao,Ep,m,#[b,rfl,q],2,p.Gg,s.Ry,1;w_up;show acA (by walk_at"po") (by rfl) (by intro _;rfl) ?_>>=#[ω,λt l=>?_];let#[st,j]:=Θ l (.tup [.str ("living":Str),.str ("still":Str)]);show#[t,_,rfl,ρ.of j,λi σ H'=>(∃o,σ=[↑(.str (iC b)),o])/\H'=upd H t (.tup [.str ("living":Str),.str ("still":Str)])/\(1<=i->b=false)/\i<2,#[#[none,rfl],rfl,λh=>absurd h (),()],λi σ' H' hi c=>?_,λi x σ' H' e c=>?_,λσ' H' c=>?_]
 .let#[_,rfl,_]:=c;show ρ.of j
 .let#[#[o,rfl],rfl,f,g]:=c;show Ε nd ?_
  match i,g,e with
  |0,_,e=>
   let a:x=.str ("living":Str):=(Option.some.inj e).symm;subst a;f_len;show Δ ?_>>=gY (n:=108) (by rw[hsz];fin2) (by fin2) ?_;lk;cases b with
   |true=>
    show Β (λ_=>?_) (λh=>absurd (by fin2) h);symm;lk;show q _ st
   |false=>
    show cA ?_*>Α #[#[_,rfl],rfl,λ_=>rfl,()]
  |1,_,e=>
   let a:x=.str ("still":Str):=(Option.some.inj e).symm;subst a;let f:=f ();subst f;f_len;show Δ ?_>>=gY (n:=115) (by rw[hsz];fin2) (by fin2) ?_>>=Β (λ_=>?_) (λh=>absurd (by fin2) h);symm;lk;show q _ st
 .let#[_,_,_,h]:=c;show absurd h (by show ¬2<2;omega)
inductive VL:Sp
 |mk (i:Nat) (m:Int):vs=[.str (ν (toString (i:Int))),.int m]->(m=5000\/m=1000000000)->(i:Int)<=m->(∀H',ζ H H'->Q (.int (i:Int)) H')
def BR:Def 4 "read_whole" ["word","most"] VL:=by
 exists X3,BR,j,#[i,m,rfl,c,e,q],2,l Ca;let n:(10:Nat)^60>1000000000:=by decide
 let o:=CZ (i:=(i:Int)) (k:=10) (by have:(10:Nat)^10>1000000000:=(by decide);omega);obtain⟨k,f,a,k1,k2⟩:∃k,↥(ν (toString m))=k/\m<((10^k:Nat):Int)/\1<=k/\k<=600:=by
  obtain rfl|rfl:=c
  .show#[4,by fin2,by decide,(),()]
  .show#[10,by fin2,by decide,(),()]
 k_go;show#[_,m,k,rfl,(),(),(),f,a,k1,k2,λH1 g =>?_];rw[anW e];w_up;show Δ ?_>>=Α ?_;symm;lk;show q H1 g
inductive abr:Sp
 |mk (b:Bool):vs=[.str (dX b)]->Q (.str (bK b)) H
def G4:Def 1 "read_side" ["sign"] abr:=by
 exists ["sign"],G4,a,#[b,rfl,q],c.T8,e.Tg,f.wM,g.GX;w_up;show Δ ?_;lk;cases b with
 |true=>
  show cX ?_;symm;lk;show q
 |false=>
  show cA ?_*>Α ?_;w_up;show Δ ?_>>=cX ?_;symm;lk;show q
def afi(h:∃c∈cs,c.1=z):∃c,cs[ϣ cs z]?=↑c/\c.2=jE cs z:=by
 let a:=sX h;show#[cs[ϣ cs z],aah a,?_];unfold jE;rw[aah a]
theorem bu.Q3(h:bu cs M):∀o∈M.os,∃c∈cs,c.1=o.1:=λo a=>by
 let#[c,f,e]:=abz.mp (h.names o a);show#[c,f,e]
def aki(C:Cut):∃n,dX C.ahead=#[#v[n]]/\(cI C).cps.toList=n::(aek " " (bz C)).cps.toList:=by
 unfold cI;cases C.ahead
 .show#[62,by fin2,by rw[au,show(dX false).cps.toList=[62]from by fin2];rfl]
 .show#[60,by fin2,by rw[au,show(dX true).cps.toList=[60]from by fin2];rfl]
def aca(a:Ρ cs=true)(h:bu cs M):ώ 32 (aek " " (bz M.cut))=bz M.cut:=by
 show tM (by simp[bz]) λp hp=>?_
 obtain rfl|hp:=aaF.mp hp
 .intro c;have:=BW (M.cut.row:Int) 32 c;omega
 .let#[x,e,rfl]:=abz.mp hp;show(h.Hr a x e).2.2
def tW(cs:List ξ)(os:List Ord):List ξ:=os.map λo=>(o.1,jE cs o.1)
theorem Zk:∀{os:List Ord}{xs:List V},χ (λ(o:Ord) x=>ak (jE cs o.1) x) os xs->χ (λ(c:ξ) x=>ak c.2 x) (tW cs os) xs
 |_,_,.nil=>.nil
 |_,_,.cons r t=>.cons r (Zk t)
inductive Xx:Sp
 |mk (a b:δ) (M:Mk) (cs:List ξ):vs=[.ref a,.ref b,.str (cI M.cut)]->Ϗ H a cs->aW H b M.os->Ρ cs=true->bu cs M->(∀p H',ζ H H'->H p=none->qR H' p M.cut->(∀k v,H' p=↑(.tup [.str (bK M.cut.ahead),.ref k])->H' k=↑(.tup [.ref v,.int M.cut.row])->H v=none)->Q (.ref p) H')
def Mh:Def 7 "read_cut" ["columns","order","text"] Xx:=by
 exists Uu,Mh,hr,#[a,b,M,cs,rfl,hC,#[ws,hb,l],z,j,q],2,g1.Wa,1;let uC:(["name","up","columns"]:List Str).Nodup:=by fin2
 let D1:=!G4;let D2:=!BR;let D3:=!Fv;let D4:=!oU;let hlen:=HS z j;let#[n,en,R6]:=aki M.cut;let eS:ό (cI M.cut) none ↑1=dX M.cut.ahead:=by
  apply gK;rw[show ό (cI M.cut) none ↑1=ό (cI M.cut) none ↑((1:Nat):Int) from rfl,xx,R6,en];rfl
 let eR:ό (cI M.cut) ↑1 none=aek " " (bz M.cut):=by
  apply gK;have:=xJ (cI M.cut) 1;rw[show((1:Nat):Int)=1 from rfl]at this;rw[this,R6];rfl
 let L:=l.len;let ard:=j.len;k_go;show gq () ?_;rw[eS];lk;show#[M.cut.ahead,rfl,?_];w_up;f_tup;show bA F.plainAttrs_str F.slot_str_split F.type_str_split (h:=?_)>>=gq () ?_;rw[eR];lk;let#[O,kl2]:=De z j;let arv:=j9 _ 21 O;let kj:=j4 (bz M.cut);show m_split (c:=32) λl1 h1=>?_
 rw[aca z j];let#[s1,e1,H,l1,H1]:=Θ h1 (.lst ((bz M.cut).map V.str));k_go;show ϐ (θ.of e1) (show Ι ((bz M.cut).map V.str) ((0:Nat):Int)=↑(V.str (ν (toString (M.cut.row:Int))))from aJ rfl) ?_>>=#[M.cut.row,1000000000,rfl,.inr rfl,by have:=j.row;omega,λH2 s2=>?_];let g:=s1<|>s2;w_up;show qu ["name","up","columns"] (σ':=[none,none,↑(.ref a)]) (bh (ς Ey)) nd ?_;f_are;show#[b,ws,rfl,θ.of (g<*hb),(),λτ=>∃o1 o2,τ=[o1,o2,↑(.ref a)],λB i u H'=>∃o,M.os[i]?=↑o/\u=.str (jE cs o.1),#[none,none,rfl],λB i u H2 H3 ys _ _ p=>p,λfp B C s3 H0 i τ x H4 H3 aN hi R m hys hG=>?_,λB H4 ys aN ϻ U e4 m =>?_]
 .let#[o1,o2,rfl]:=R;let#[aa,rfl]:=hG;let#[o,D,t,rfl,ht]:=l.get aa;show aG (ρ.of (m<*(g _ _ ht))) (Μ (Ε uC (Μ (Ε uC (aH ?_)))));lk;let Nz:=(hC.same g).same m;show#[a,cs,o.1,rfl,Nz,λH5 cU=>?_];let y:=j.Q3 o (aa1 D);rw[uY 0 y,aqB];let#[c,hg,W]:=afi y;let#[vs,ea,Y]:=Nz.same cU;let#[cv,gc,tc,rfl,Z]:=Y.get' hg;show ϐ (θ.of ea) (aJ gc) ?_>>=ϋ (ρ.of Z) (show Ι [V.str c.1,V.str c.2] 1=↑(V.str c.2)from rfl) ?_*>#[#[_,_,rfl],#[o,D,by rw[W]],cU]
 .let ey:=fL (ys:=M.os) (λo=>V.str (jE cs o.1)) (by rw[ϻ,L]) U;let gn:ys=((tW cs M.os).map Prod.snd).map V.str:=by rw[ey];unfold tW;rw[afR,afR];rfl
  subst gn;let jR:=g<|>m;let ab:=m _ _ (s2<*e1);symm;lk;show pK (θ.of ab) λl2 h2=>?_
  let ac:bL ((bz M.cut).map V.str) ↑1 none=(M.cut.xs.map wordOf).map V.str:=by
   rw[show↑(1:Int)=↑((1:Nat):Int)from rfl,S9];rfl
  rw[ac];let#[G,e5,H4,l2,H5]:=Θ h2 (.lst ((M.cut.xs.map wordOf).map V.str));lk;show#[B,l2,tW cs M.os,M.cut.xs,rfl,G<*e4,e5,by unfold tW;rw[aau];omega,λc ae=>?_,Zk j.vals,λv H6 s6 hv ev=>?_]
  .let#[o,D,rfl]:=abz.mp ae;show abp z (j.names o D)
  lk;show#[ω,λk W=>?_];let#[I,e7,H6,k,H7]:=Θ W (.tup [.ref v,.int M.cut.row]);lk;show#[ω,λp hp=>?_];let J:ζ H7 (upd H7 p (.tup [.str (bK M.cut.ahead),.ref k])):=ζ.upd hp;let lN:=jR<|>G<|>s6;let af:H v=none:=(jR<|>G).free hv;show q p _ (lN<|>I<|>J) ((lN<|>I).free hp) #[k,v,ο,J<*e7,J<*(I _ _ ev)] λk' v' e f=>?_
  rw[ο]at e;injection e with e
  injection e with e
  injection e with _ e
  injection e with e _
  injection e with e
  subst e;rw[J<*e7]at f;injection f with f
  injection f with f
  injection f with f _
  injection f with f
  subst f;show af
inductive Wi:Sp
 |mk (a:δ) (M:Mk) (cs:List ξ):vs=[.ref a,.str (ϑ M)]->Ϗ H a cs->Ρ cs=true->bu cs M->(∀p o c k v H',ζ H H'->H' p=↑(.tup [.str (ύ M.living),.int M.moment,.ref o,.str M.sieve,.ref c])->H o=none->aW H' o M.os->H' c=↑(.tup [.str (bK M.cut.ahead),.ref k])->H' k=↑(.tup [.ref v,.int M.cut.row])->H v=none->H' v=↑(.lst M.cut.xs)->o≠v->Q (.ref p) H')
def En:Def 51 "read_body" ["columns","body"] Wi:=by
 exists Z7,En,hr,#[a,M,cs,rfl,B,j,f,q],2,g1.Tn,g2.anQ,g3.aog,n1.bj,1;let#[t,C,D]:=f.reads;let D1:=!Ep;let D2:=!BR;let D3:=!nq;let D4:= @YC P w K mg base T t;let D5:=!Mh;let#[M2,kc,na]:=acw (P:=P) (w:=w) (base:=base) T t;let#[b1,b2]:=uJ j f;w_up;f_tup;show bA F.plainAttrs_str F.slot_str_split F.type_str_split (h:=?_)>>=m_split (c:=47) λY h1=>?_
 rw[amK j f];let#[g,e1,H,Y,H1]:=Θ h1 (.lst ((bM M).map V.str));let l:θ K H1 Y ((bM M).map V.str):=θ.of e1;w_up;show Δ ?_>>=gM (λh=>absurd rfl h) (λ_=>?_)*>Α ?_;k_go;show ϐ l (i:=0) rfl ?_>>=#[M.living,rfl,λH2 Z=>?_];k_go;show ϐ (Z.seq l) (i:=1) rfl ?_>>=#[M.moment,5000,rfl,.inl rfl,by have:=f.moment;omega,λH3 s3=>?_];let u:=Z<|>s3;k_go;show ϐ (u.seq l) (i:=2) rfl ?_;lk;let ZJ:bx cs (cO M.os)=↑M.os:=Vx f.len f.nodup f.Q3 λo G hm=>by
  let I:=gH j (f.names o G);unfold isName dZ at I;rw[aaK,acE]at I;show absurd (of_decide_eq_true (I.2 32 hm)) (by fin2)
 show#[a,cs,cO M.os,rfl,B.same (g<|>u),(by have:=NQ j f;omega),(λH' sm e=>by rw[ZJ]at e;cases e),λo os H4 s4 x G J=>?_];rw[ZJ]at x;cases x;let L:=u<|>s4;let QW:H o=none:=(g<|>u).free G;k_go;show ϐ (L.seq l) (i:=3) rfl ?_>>=#[a,cs,M.sieve,rfl,B.same (g<|>L),(by have:=f.short;omega),(λy hy=>by have:=f.words y hy;omega),C,D,λsv H5 z m=>?_];let O:=L<|>z;let R:dB (ώ 32 M.sieve) 0 ↥(ώ 32 M.sieve)=M.sieve:=by
  unfold dB;rw[aoc,asL,aqa,ant]
 rw[R]at m;let#[dx,fs,es,et,U]:=m.txt;symm;lk;show cN (pl:=_) hr Ο ?_;f_are;show#[sv,iT mg t,dx,_,true,1,_,Ab K,rfl,es,U,M2,by decide,id,sv,iT mg t,dx,fs,_,rfl,es,kc,na,et,?_]>>=ϐ (O.seq l) (i:=4) rfl ?_>>=#[a,o,M,cs,rfl,B.same (g<|>O),J.same z,j,f,λc H6 s6 hc0 je hv=>?_]>>=#[ω,λp hp=>?_];let#[k,v,z1,z2,z3]:=je;let n:ζ H6 (upd H6 p (.tup [.str (ύ M.living),.int M.moment,.ref o,.str M.sieve,.ref c])):=ζ.upd hp;let cY:=g<|>O;let W:=hv k v z1 z2;let#[ws,x,_]:=J.same z;show q p o c k v _ (cY<|>s6<|>n) ο QW ((J.same z).same (s6<|>n)) (n<*z1) (n<*z2) (cY.free W) (n<*z3) λe=>?_
 rw[<-e,x]at W;cases W
inductive Yu:Sp
 |mk (a:δ) (M:Mk) (cs:List ξ):vs=[.ref a,.str (aU M)]->Ϗ H a cs->Ρ cs=true->bu cs M->(∀p o c k v H',ζ H H'->H' p=↑(.tup [.str (ύ M.living),.int M.moment,.ref o,.str M.sieve,.ref c])->H o=none->aW H' o M.os->H' c=↑(.tup [.str (bK M.cut.ahead),.ref k])->H' k=↑(.tup [.ref v,.int M.cut.row])->H v=none->H' v=↑(.lst M.cut.xs)->o≠v->Q (.ref p) H')
def BL:Def 52 "read_mark" ["columns","text"] Yu:=by
 exists zT,BL,D,#[a,M,cs,rfl,i,f,g,q],2,G.Hh,1,I En,J ue;let#[L,O]:=uJ f g;let R:=gk (ϑ M).cps.toList;let U:=vH (ϒ (ϑ M).cps.toList);let W:↥(".":Str)=1:=by fin2
 w_up;show fY ?_*>bA PySem.F.plainAttrs_str PySem.F.slot_str_rpartition PySem.F.type_str_rpartition (h:=?_)>>=ZG (c:=46) (by unfold aU;rw[len_app,len_app];omega) λt j=>?_
 let p1:(Txt.rpartition (aU M) #[#v[46]]).1=ϑ M:=by rw[Ha]
 let p2:(Txt.rpartition (aU M) #[#v[46]]).2.1=#[#v[46]]:=by rw[Ha]
 let p3:(Txt.rpartition (aU M) #[#v[46]]).2.2=aM (ϒ (ϑ M).cps.toList):=by rw[Ha]
 rw[p1,p2,p3];show aG (ρ.of ο) (Μ (Ε nd (Μ (Ε nd (Μ (Ε nd (aH ?_)))))));let e:ζ H (upd H t (.tup [.str (ϑ M),.str #[#v[46]],.str (aM (ϒ (ϑ M).cps.toList))])):=ζ.upd j;generalize upd H t (.tup [.str (ϑ M),.str #[#v[46]],.str (aM (ϒ (ϑ M).cps.toList))])=H1 at e⊢;w_up;show Δ ?_>>=cA ?_>>=#[ϑ M,rfl,(),Cz f g,?_];generalize aM (ϒ (ϑ M).cps.toList)=Y;lk;show gM (λh=>absurd rfl h) (λ_=>?_)*>Α ?_;f_len;show xf (λ_ _ _ _=>False) rfl rfl (λF pn xo po=>?_) (λσ c d H' l=>l.elim);symm;lk;show #[a,M,cs,rfl,i.same e,f,g,λp o c k v H' m n s u x y z B C=>q p o c k v H' (e<|>m) n (e.free s) u x y (e.free z) B C]
def eZ(rows:List (Int×List V))(row:Int):Option (List V)->List (Int×List V)
 |none=>cR rows row
 |some xs=>aV rows row xs
def bQ(rows:List (Int×List V))(ds:List aq):List (Int×List V):=ds.foldr (λd r=>eZ r d.row d.was) rows
def jL(rows:List (Int×List V)):List aq->Prop
 |[]=>True
 |d::ds=>jL rows ds/\(d.was=none->Κ (bQ rows ds) d.row≠none)
def anL{α:Type}(m:List (Int×α))(i:Int)(x:α):↥(aV m i x)<=↥m+1:=by
 unfold aV;split
 .rw[aau];omega
 .rw[abK,afm];omega
def aeN(rows:List (Int×List V))(row:Int)(o:Option (List V)):↥(eZ rows row o)<=↥rows+1:=by
 cases o with
 |none=>show Nat.le_succ_of_le (ah9 ..)
 |some xs=>show anL rows row xs
theorem Sg(rows:List (Int×List V)):∀ds:List aq,↥(bQ rows ds)<=↥rows+↥ds
 |[]=>Ϭ _
 |d::ds=>by
  let h1:=Sg rows ds;let h2:=aeN (bQ rows ds) d.row d.was;show(eZ (bQ rows ds) d.row d.was).length<=_;rw[abU];omega
theorem jL.drop:∀{ds:List aq}(n:Nat),jL rows ds->jL rows (ds.drop n)
 |ds,0,h=>h
 |[],n+1,h=>h
 |d::ds,n+1,h=>jL.drop (ds:=ds) n h.1
inductive Uk:Sp
 |mk (a:δ) (rows:List (Int×List V)) (row:Int) (v:V) (o:Option (List V)):vs=[.ref a,.int row,v]->DictAt (TupAt H) H a rows->lM H v o->(o=none->Κ rows row≠none)->↥rows<1000000->(∀H',Out [a] H H'->DictAt (TupAt H') H' a (eZ rows row o)->Q .non H')
def G5:Def 1 "put_back" ["rows","row","was"] Uk:=by
 exists ["rows","row","was"],G5,m,#[a,rows,row,v,o,rfl,#[Ϸ,f,g],j,i,B,q];let n:_+1<cLine:=afY (agK (by decide:1<=64) _) m.units;let s:=g.len;let hsz:=Ϯ;let st:∀c,∀b ys,H b=↑(.tup ys)->(upd H a (.dK c)) b=↑(.tup ys):=λc b ys e=>by
  rw[ι (λz=>by rw[z,f]at e;cases e)];show e
 f_len;show Δ ?_;cases o with
 |none=>
  let e:v=.non:=j;subst e;lk;f_len;show Ϛ (Cd ?_);f_are;show#[a,rfl,.inl #[_,.inl f],?_];f_are;obtain⟨e1,l⟩|⟨u,x,e1,l,_⟩:=iR g row
  .show absurd l (i rfl)
  show#[Ϸ,Sum.inl row,u,f,rfl,e1,?_]*>q _ (Out.upd (by simp)) #[_,ο,eN (zJ g row) λv p h=>h.stay (st _)]
 |some xs=>
  let#[t,rfl,y]:=j;lk;f_len;show jo n ?_;cbv;show#[a,_,rfl,dW.k (k:=Sum.inl row) f (),?_]*>q _ (Out.upd (by simp)) #[_,ο,eN (lZ g row (x:=xs) #[t,rfl,y]) λv p h=>h.stay (st _)]
def jx(B:Bk):Prop:=0<=B.known/\B.known<=B.now/\B.now<=1000000000
inductive lW(mg:MG):Sp
 |mk (A:BA) (B:Bk) (mo:Int):vs=[.ref A.b,.int mo]->Χ (cB mg) H A B->jx B->(mo<B.known->∀e H',ζ H H'->H' e=↑(.xd [("known",.int B.known)])->E (.ref (η mg "Gone")) (↑e,true) H')->(B.now<mo->∀e H',ζ H H'->H' e=↑(.xd [("now",.int B.now)])->E (.ref (η mg "Later")) (↑e,true) H')->(B.known<=mo->mo<=B.now->∀p ys,H p=none->χ (lD H) ys (B.done.drop (mo-B.known).toNat)->Q (.ref p) (upd H p (.lst ys)))
def Ec:FD 3 "done_behind" "Book.done_behind" Qi ["self","moment"] (lW mg):=by
 show aO (N:=["self","moment"]) (λf D F outer s H vs Q E l h=>?_);intro X _;let#[A,B,mo,rfl,m,#[G,I,J],o,u,q]:=h;let a:=T.ϓ;let g:=T.FN;let n:=T.zM;let v:=T.yc;let c:=m.ins;let#[ds,x,y]:=m.done;w_up;cbv;show aF ?_;f_are;show#[A.b,_,_,_,_,rfl,c,a,g,rfl,?_];cbv;show Β (λh=>?_) (λh=>?_)
 .cbv;show(rF (ahA T (cc:=true)) l (λ_=>rfl) Ο ?_);cbv;show aF ?_;f_are;show#[A.b,_,_,_,_,rfl,c,a,g,rfl,?_];cbv;show#[B.known,rfl,(),λe H' i j=>o h e H' i j]
 show Α ?_;w_up;cbv;show aF ?_;f_are;show#[A.b,_,_,_,_,rfl,c,a,n,rfl,?_];cbv;show Β (λh2=>?_) (λh2=>?_)
 .cbv;show(rF (Pk T (cc:=true)) l (λ_=>rfl) Ο ?_);cbv;show aF ?_;f_are;show#[A.b,_,_,_,_,rfl,c,a,n,rfl,?_];cbv;show#[B.now,rfl,(),λe H' i j=>u () e H' i j]
 show Α ?_;symm;cbv;show aF ?_;f_are;show#[A.b,_,_,_,_,rfl,c,a,v,rfl,?_];cbv;show aF ?_;f_are;show#[A.b,_,_,_,_,rfl,c,a,g,rfl,?_];cbv;show pK (θ.of x) λp z=>?_
 let C:mo-B.known=((mo-B.known).toNat:Int):=()
 let e1:bL ds ↑(mo-B.known) none=ds.drop (mo-B.known).toNat:=by rw[C];show S9 ds _
 rw[e1];show q () () p _ z (y.drop _)
inductive yu(mg:MG):Sp
 |mk (A:BA) (B:Bk) (mo:Int):vs=[.ref A.b,.int mo]->Χ (cB mg) H A B->jx B->(mo<=B.known->Q .non H)->(B.now<mo->∀e H',ζ H H'->H' e=↑(.xd [("now",.int B.now)])->E (.ref (η mg "Later")) (↑e,true) H')->(B.known<mo->mo<=B.now->∀d H',H d=none->Out [A.b] H H'->Χ (cB mg) H' {A with d:=d} {B with done:=B.done.drop (mo-B.known).toNat,known:=mo}->Q .non H')
def aj6:FD 4 "let_go" "Book.let_go" T3 ["self","moment"] (yu mg):=by
 show aO (N:=["self","moment"]) (λf Ϲ A' outer s H vs Q E C h=>?_);intro X _;let#[A,B,mo,rfl,c,D,F,G,q]:=h;let j:=T.ϓ;let n:=T.FN;let I:=T.yc;let u:=c.ins;let M1:ϕ P w K mg base true 3 (cB mg) "done_behind" ["self","moment"] (lW mg):=(Ec T).meth T.ϓ T.Ln;f_len;show Δ ?_>>=aF ?_;f_are;show#[A.b,_,_,_,_,rfl,u,j,n,rfl,?_]>>=Β (λh=>?_) (λh=>?_)
 .w_up;show bJ ?_*>bD (pl:=_) C Ο (h:=?_);f_are;show#[A.b,cB mg,A.dx,_,true,3,_,lW mg,rfl,u,by rfl,M1,by decide,id,?_];cbv;show#[A,B,mo,rfl,c,D,λz=>absurd z (),G,λ_ J p ys g l=>?_];let#[i,ep,H,p,H1]:=Θ g (.lst ys);let k1:=c.same i;let m:χ (lD H1) ys (B.done.drop (mo-B.known).toNat):=χ.imp (λv d h=>h.stay λb ys e=>i _ _ e) l;f_are;show#[A.b,_,_,_,rfl,k1.ins,j,I,by show 6<1000;decide,?_];let L:p≠A.b:=λe=>by have:=c.ins;rw[<-e,g]at this;cases this
  let o2:Out [A.b] H _:=(Out.of i)<|>(Out.upd (H:=H1) (a:=A.b) (o:=.ins (cB mg) A.dx [("heads",.ref A.h),("rows",.ref A.r),("touched",.ref A.t),("done",.ref p),("known",.int B.known),("now",.int B.now)]) (by simp));let k2:Χ (cB mg) (upd H1 A.b (.ins (cB mg) A.dx [("heads",.ref A.h),("rows",.ref A.r),("touched",.ref A.t),("done",.ref p),("known",.int B.known),("now",.int B.now)])) {A with d:=p} {B with done:=B.done.drop (mo-B.known).toNat}:=by
   let kk:=(k1.Ij B.known B.now);let#[M,O,R,S,m5,m6,m7,m8,m9,U,W,Y]:=k1.ne;let st:∀b ys,H1 b=↑(.tup ys)->(upd H1 A.b (.ins (cB mg) A.dx [("heads",.ref A.h),("rows",.ref A.r),("touched",.ref A.t),("done",.ref p),("known",.int B.known),("now",.int B.now)])) b=↑(.tup ys):=λb ys e=>by
    rw[ι (λz=>by rw[z,k1.ins]at e;cases e)];show e
   show#[ο,by rw[ι (Ne.symm M)];show k1.own,k1.heads.stay (λxs e=>by rw[ι (Ne.symm O)];show e) st,?_,?_,#[ys,by rw[ι L];show ep,χ.imp (λv d h=>h.stay st) m],k1.rt,λe=>?_]
   .let#[Ϸ,e,h]:=k1.rows;show#[Ϸ,by rw[ι (Ne.symm R)];show e,eN h λv x h=>h.stay st]
   .let#[Ϸ,e,h]:=k1.touched;show#[Ϸ,by rw[ι (Ne.symm S)];show e,h]
   .let Z:A.h=p:=e;let#[_,y,_]:=c.heads;rw[Z,g]at y;cases y
  change Ζ _ _ _ _ (upd H1 A.b (.ins (cB mg) A.dx [("heads",.ref A.h),("rows",.ref A.r),("touched",.ref A.t),("done",.ref p),("known",.int B.known),("now",.int B.now)]));generalize upd H1 A.b _=H2 at k2 o2⊢;f_len;show bJ ?_;cbv;show#[A.b,_,_,_,rfl,k2.ins,j,n,by show 6<1000;decide,?_];let k3:=k2.Ij mo B.now;show q () J p _ g (o2<|>(Out.upd (by simp))) k3
 .show Α (F ())
inductive rN(mg:MG):Sp
 |mk (A:BA) (B:Bk) (mo:Int):vs=[.ref A.b,.int mo]->Χ (cB mg) H A B->jx B->↥B.rows<1000->↥B.done<10000->(mo<B.known->∀e H',ζ H H'->H' e=↑(.xd [("known",.int B.known)])->E (.ref (η mg "Gone")) (↑e,true) H')->(B.now<mo->∀e H',ζ H H'->H' e=↑(.xd [("now",.int B.now)])->E (.ref (η mg "Later")) (↑e,true) H')->(B.known<=mo->mo<=B.now->jL B.rows (B.done.drop (mo-B.known).toNat)/\↥(bQ B.rows (B.done.drop (mo-B.known).toNat))<64/\
  ∀p ys ks H',ζ H H'->H p=none->ks.Perm ((bQ B.rows (B.done.drop (mo-B.known).toNat)).map (·.1))->ks.Pairwise (· <= ·)->H' p=↑(.lst ys)->χ (xj H H') ys (aX (bQ B.rows (B.done.drop (mo-B.known).toNat)) ks)->Q (.ref p) H')
def RK:FD 4 "rows_at" "Book.rows_at" Mf ["self","moment"] (rN mg):=by
 show aO (S:=W7) (λf Ϲ A' outer s H vs Q E hr h=>?_);intro X _;let#[A,B,mo,rfl,J,hm,hrl,hdl,qg,ql,q]:=h;let nd:=W7.nd;let hc:=T.ϓ;let a1:=T.rQ;let n1:=T.ajo;let n2:=T.Y9;let M1:ϕ P w K mg base true 3 (cB mg) "done_behind" ["self","moment"] (lW mg):=(Ec T).meth T.ϓ T.Ln;let D1:=!G5;let D2:=!xV;let#[Ϸ,er,hR]:=J.rows;w_up;cbv;show aF ?_;f_are;show#[A.b,_,_,_,_,rfl,J.ins,hc,a1,rfl,?_];cbv;show afZ er λr g=>?_
 let#[c,L]:=Θ g (.dK Ϸ);change Ζ _ _ _ _ (upd H r (.dK Ϸ));generalize upd H r (.dK Ϸ)=H1 at c L⊢;let XS:=J.same c;let d7:χ (PR (TupAt H1)) Ϸ B.rows:=eN hR λv x h=>h.stay λb ys e=>c _ _ e
 w_up;show Rb (by walk_at"po") (by rfl) (by rfl) n2 (by rfl) ?_*>bD (pl:=_) hr Ο (h:=?_);f_are;show#[A.b,cB mg,A.dx,_,true,3,_,lW mg,rfl,XS.ins,by rfl,M1,by decide,id,?_];cbv;show#[A,B,mo,rfl,XS,hm,λz e H' M O=>qg z e H' (c<|>M) O,λz e H' M O=>ql z e H' (c<|>M) O,λz1 z2 p ys R a=>?_];let#[hok,j,q]:=q z1 z2;let U:↥(B.done.drop (mo-B.known).toNat)<=↥B.done:=by rw[ael];omega
 generalize B.done.drop (mo-B.known).toNat=ds at a hok j q U;let W:=a.len;let#[m,ep,H1,p,H2]:=Θ R (.lst ys);let K4:χ (lD H2) ys ds:=χ.imp (λv d h=>h.stay λb ys e=>m _ _ e) a;let XM:=m _ _ L;let rp:r≠p:=λe=>by rw[<-e,L]at R;cases R
 show#[p,ys,rfl,θ.of ep,λi σ H'=>(∃o3,σ=[↑(.ref A.b),↑(.int mo),↑(.ref r),o3])/\Out [r] H2 H'/\DictAt (TupAt H') H' r (bQ B.rows (ds.drop (↥ys-i))),#[#[none,rfl],Out.refl _ _,#[Ϸ,XM,?_]],λi σ H' hi n=>θ.of (n.2.1 _ _ (~~~Ne.symm rp) ep),λi x σ H' hi hx n=>?_,λσ H' n=>?_]
 .rw[asL,W,an7];show eN d7 λv x h=>h.stay λb ys e=>m _ _ e
 .let#[#[o3,rfl],o,G]:=n;let#[d,hd,t,w,u,rfl,ht,hw,hu]:=K4.get hx;let st:∀b ys,H2 b=↑(.tup ys)->H' b=↑(.tup ys):=λb ys e=>o _ _ (λz=>by rw[adF.mp z,XM]at e;cases e) e
  let y:↥ys-(i+1)<↥ds:=()
  let C:ds.drop (↥ys-(i+1))=d::ds.drop (↥ys-i):=by
   rw[agX y];let e1:ds[↥ys-1-i]?=↑d:=hd;let e2:↥ys-1-i=↥ys-(i+1):=()
   rw[e2]at e1;rw[(aak.mp e1).2,show ↥ys-(i+1)+1=↥ys-i by omega]
  let D:jL B.rows (d::ds.drop (↥ys-i)):=by rw[<-C];show hok.drop _
  let hbl:=Sg B.rows (ds.drop (↥ys-i));let asa:↥(ds.drop (↥ys-i))<=↥ds:=by rw[ael];omega
  let F:ρ K H' t [.int d.at_,.int d.row,w,u]:=ρ.of (st<*ht);show Ε nd ?_;f_len;cbv;show ϋ F (i:=1) rfl ?_;cbv;show ϋ F (i:=2) rfl ?_;cbv;show#[r,bQ B.rows (ds.drop (↥ys-i)),d.row,w,d.was,rfl,G,hw.stay st,D.2,(),λH3 o3 k3=>?_]*>#[#[_,rfl],o<|>o3,?_];rw[C];show k3
 .let#[#[o3,rfl],o,G]:=n;rw[atV,aoc]at G;let I:ζ H H':=λb u e=>o _ _ (λz=>by rw[adF.mp z,g]at e;cases e) (m<*(c _ _ e))
  f_len;cbv;show#[r,_,rfl,G,j,λp2 Jq ks H3 Y Z aa ab ac ae=>?_]*>q p2 Jq ks H3 (I<|>Y) (I.free Z) aa ab ac (χ.imp (λv x z=>by let#[t,l,e,h1,h2,h3,h4]:=z;show #[t,l,e,h1,h2,I.free h3,I.free h4]) ae)
inductive yE(mg:MG):Sp
 |mk (A:BA) (B:Bk):vs=[.ref A.b,.int B.now]->Χ (cB mg) H A B->jx B->↥B.done=(B.now-B.known).toNat->(∀p H',ζ H H'->H' p=↑(.lst [])->Q (.ref p) H')
def aeC:FD 4 "deeds" "Book.deeds" Cw ["self","moment"] (yE mg):=by
 show aO (S:=abC) (λf R U outer s H vs Q E n h=>?_);intro X _;let#[A,B,rfl,g,j,a,q]:=h;let nd:=abC.nd;let hsz:=Ϯ;let c:=j;unfold jx at c;let M1:ϕ P w K mg base true 3 (cB mg) "done_behind" ["self","moment"] (lW mg):=(Ec T).meth T.ϓ T.Ln;w_up;f_tup;show bD (pl:=_) n Ο (h:=?_);f_are;show#[A.b,cB mg,A.dx,_,true,3,_,lW mg,rfl,g.ins,by rfl,M1,by decide,id,?_];cbv;show#[A,B,B.now,rfl,g,j,(λh=>absurd h ()),(λh=>absurd h ()),λ_ _ p ys o e=>?_];let v:ys=[]:=by
  have:=e.len;rw[ael,a]at this;show an0 ()
 subst v;let#[l,ep]:=Θ o (.lst []);change Ζ _ _ _ _ (upd H p (.lst []));generalize upd H p (.lst [])=H1 at l ep⊢;symm;show jm ["made","row","was","now"] (σ':=[none,none,none,none]) (bh (ς Cw)) ?_;f_are;show#[p,[],rfl,θ.of ep,by decide,λ_=>True,λ_ _ _ _=>True,trivial,λy i u H2 z ys W Y Z=>trivial,λfp y C s3 H0 i τ x H4 z aN hi D Φ F G=>by simp at G,λI H2 zs J L M m O =>?_];rw[an0 L]at m;show q I H2 (l<|>O) m
def CV(r:List (Int×List V))(row:Int)(o:Option (List V))(i:Int):Κ (eZ r row o) i=if i=row then o else Κ r i:=by
 cases o with
 |none=>show vO
 |some xs=>show uH
def aaY(h:(r.map (·.1)).Nodup)(row:Int)(o:Option (List V)):((eZ r row o).map (·.1)).Nodup:=by
 cases o with
 |none=>show T4 h
 |some xs=>show UG h
def Qx(h:k∈(eZ r row o).map (·.1)):k=row\/k∈r.map (·.1):=by
 cases o with
 |none=>show .inr (am8 h)
 |some xs=>show afl.mp h
def c7(ds:List aq):List (Int×List V):=ds.foldl (λr d=>eZ r d.row d.is) []
def Wr(ds:List aq)(d:aq):c7 (ds++[d])=eZ (c7 ds) d.row d.is:=by
 unfold c7;rw[asR];rfl
def take_snoc{α:Type}{l:List α}{d:α}(h:l[j]?=↑d):l.take (j+1)=l.take j++[d]:=by
 rw[List.take_succ,h];rfl
def afv:∀ds:List aq,((c7 ds).map (·.1)).Nodup:=by
 intro ds;unfold c7;have:∀(ds:List aq)(r:List (Int×List V)),(r.map (·.1)).Nodup->((ds.foldl (λr d=>eZ r d.row d.is) r).map (·.1)).Nodup:=by
  intro ds;induction ds with
  |nil=>show λr h=>h
  |cons d ds a=>show λr h=>a _ (aaY h _ _)
 show this ds [] (by simp)
def aoH{ns:List Int}:∀{ds:List aq},(∀d∈ds,d.row∈ns)->∀k∈(c7 ds).map (·.1),k∈ns:=by
 intro ds hd;unfold c7;have:∀(ds:List aq)(r:List (Int×List V)),(∀d∈ds,d.row∈ns)->(∀k∈r.map (·.1),k∈ns)->∀k∈(ds.foldl (λr d=>eZ r d.row d.is) r).map (·.1),k∈ns:=by
  intro ds;induction ds with
  |nil=>show λr _ h=>h
  |cons d ds a=>show λr hd h=>a _ (λx c=>hd x (aby _ c)) λk f=>(Qx f).elim (λe=>by rw[e];show hd d (abD ..)) (h k)
 show this ds [] hd (by simp)
theorem abJ(h:(r.map (·.1)).Nodup):∀ds:List aq,((bQ r ds).map (·.1)).Nodup
 |[]=>h
 |d::ds=>aaY (abJ h ds) _ _
theorem Vt{ns:List Int}(h:∀k∈r.map (·.1),k∈ns):∀{ds:List aq},(∀d∈ds,d.row∈ns)->∀k∈(bQ r ds).map (·.1),k∈ns
 |[],_=>h
 |d::ds,hd=>λk a=>(Qx a).elim (λe=>by rw[e];show hd d (abD ..)) (Vt h (λx c=>hd x (aby _ c)) k)
def Qg(all:List aq):=∀(j:Nat) d,all[j]?=↑d->d.at_=j+1/\d.was=Κ (c7 (all.take j)) d.row/\(d.was=none->d.is≠none)
theorem back_eq(h:Qg all):∀(n j:Nat),j+n=↥all->(∀i,Κ (bQ (c7 all) (all.drop j)) i=Κ (c7 (all.take j)) i)/\jL (c7 all) (all.drop j)
 |0,j,e=>by
  let l:j=↥all:=()
  subst l;rw[an7,aqa];show#[λ_=>rfl,trivial]
 |n+1,j,e=>by
  let#[a,c]:=back_eq h n (j+1) ();let f:j<↥all:=()
  let hd:all[j]?=↑all[j]:=aah f;let#[_,h2,g]:=h j _ hd;let e1:all.drop j=all[j]::all.drop (j+1):=agX f;rw[take_snoc hd,Wr]at a;rw[e1];generalize all[j]=d at h2 g a;show#[λi=>?_,c,λm=>?_]
  .show Κ (eZ (bQ (c7 all) (all.drop (j+1))) d.row d.was) i=_;rw[CV,a,CV];by_cases z:i=d.row
   .rw[if_pos z,h2,z]
   .rw[if_neg z,if_neg z]
  .rw[a,CV,if_pos rfl];show g m
def ahL{c l2:List Int}(h:∀x,x∈c↔x∈l2)(l:c.Nodup)(m:l2.Nodup)(h1:c.Pairwise (· <= ·))(h2:l2.Pairwise (· <= ·)):c=l2:=by
 induction c generalizing l2 with
 |nil=>
  cases l2 with
  |nil=>rfl
  |cons b n=>show absurd ((h b).mpr (abD ..)) (by simp)
 |cons a r o=>
  cases l2 with
  |nil=>show absurd ((h a).mp (abD ..)) (by simp)
  |cons b n=>
   let p1:=atL.mp h1;let p2:=atL.mp h2;let i:=ahC.mp l;let j:=ahC.mp m;let g:a=b:=by
    rcases aaF.mp ((h a).mp (abD ..))with e|e
    .show e
    .rcases aaF.mp ((h b).mpr (abD ..))with e2|e2
     .show e2.symm
     .have :=p2.1 a e;have:=p1.1 b e2;omega
   subst g;rw[o (λx=>#[λf=>?_,λf=>?_]) i.2 j.2 p1.2 p2.2]
   .rcases aaF.mp ((h x).mp (aby _ f))with e|e
    .show absurd (e▸f) i.1
    .show e
   .rcases aaF.mp ((h x).mpr (aby _ f))with e|e
    .show absurd (e▸f) j.1
    .show e
def aiH(g:(r1.map (·.1)).Nodup)(j:(a.map (·.1)).Nodup)(h:∀i,Κ r1 i=Κ a i)(p1:k1.Perm (r1.map (·.1)))(p2:k2.Perm (a.map (·.1)))(l:k1.Pairwise (· <= ·))(m:k2.Pairwise (· <= ·)):aX r1 k1=aX a k2:=by
 let e:k1=k2:=by
  show ahL (λx=>?_) (p1.nodup_iff.mpr g) (p2.nodup_iff.mpr j) l m;rw[p1.mem_iff,p2.mem_iff];have:=h x;constructor
  .intro c;show Classical.byContradiction λf=>?_
   show oh.mp (by rw[this];show oh.mpr f) c
  .intro c;show Classical.byContradiction λf=>?_
   show oh.mp (by rw[<-this];show oh.mpr f) c
 subst e;unfold aX;show anO λk _=>by rw[h k]
structure jY(all:List aq)(B:Bk):Prop where
 rows:B.rows=c7 all
 done:B.done=all.drop B.known.toNat
 now:B.now=↥all
 kn:0<=B.known/\B.known<=B.now
 good:Qg all
 wf:lB B
def jY.JH(h:jY all B)(row:Int)(o:Option (List V))(f:Κ B.rows row=none->o≠none):jY (all++[#[B.now+1,row,Κ B.rows row,o]]) (aZ B row o):=by
 let g:=h.kn;let m:=h.now;show#[?_,?_,?_,#[g.1,?_],?_,?_]
 .rw[Wr];cases o with
  |none=>
   show cR B.rows row=eZ (c7 all) row none;rw[h.rows];rfl
  |some xs=>
   show aV B.rows row xs=eZ (c7 all) row ↑xs;rw[h.rows];rfl
 .show B.done++[(#[B.now+1,row,Κ B.rows row,o]:aq)]=List.drop B.known.toNat (all++[#[B.now+1,row,Κ B.rows row,o]]);rw[List.drop_append_of_le_length (), <-h.done]
 .show B.now+1=_;rw[abK,afm];omega
 .show B.known<=B.now+1;omega
 .intro j d hd;by_cases l:j<↥all
  .rw[aiV l]at hd;have:=h.good j d hd;rw[ar4 ()];show this
  .let a:j<↥(all++[(#[B.now+1,row,Κ B.rows row,o]:aq)]):=(aak.mp hd).1;rw[abK,afm]at a;let e:j=↥all:=()
   subst e;rw[alX (Ϭ _),atV]at hd;let c:d=#[B.now+1,row,Κ B.rows row,o]:= ~~~hd.symm
   subst c;show#[by show B.now+1=_;omega,?_,f];show Κ B.rows row=_;rw[ar4 (Ϭ _),aqa,h.rows]
 .intro i;cases o with
  |none=>
   show Κ (cR B.rows row) i=none↔ Κ (cR B.touched row) i=none;rw[vO,vO];by_cases e:i=row
   .simp[e]
   .rw[if_neg e,if_neg e];show h.wf i
  |some xs=>
   show Κ (aV B.rows row xs) i=none↔ Κ (aV B.touched row (B.now+1)) i=none;rw[uH,uH];by_cases e:i=row
   .rw[if_pos e,if_pos e];simp
   .rw[if_neg e,if_neg e];show h.wf i
theorem jY.mom(h:jY all B)(a:↥all<=1000000):jx B:=#[h.kn.1,h.kn.2,by have:=h.now;omega]
def anN{n:Nat}(h:n<9973):ό (ν "000"++ν (toString (n:Int))) ↑(-4) none=aM n:=by
 apply gK;let hd:=j7 (m:=n) (k:=4) (by decide) ();rw[Xj (),v9];let a:↥("000":Str)=3:=by fin2
 let c:("000":Str).cps.toList=[48,48,48]:=by fin2
 let f:1<=↥(ν (toString (n:Int))):=by
  rw[_L.len_list,lY];show asH.mpr (by simp[asw])
 generalize ν (toString (n:Int))=x at hd f⊢;let g:=_L.len_list x;rw[au,c,len_app,a];let es:_H.Η (3+↥x) 0 ↑(-4)=↥x-1:=by
  have:=xH (3+↥x) 0 (-4);rw[if_pos (by decide)]at this;omega
 rw[es,_H.tu,ag5 (by rw[ael,abK];show 3+_-_<=_;omega)];rcases(show ↥x=1\/↥x=2\/↥x=3\/↥x=4 by omega)with e|e|e|e<;>rw[e]
 .rfl
 .rfl
 .rfl
 .rfl
inductive Zr:Sp
 |mk (c b:δ) (lv sd:Bool) (mo:Nat) (v u:V) (cs:List ξ) (os:List Ord) (t:Tr) (r:Row):vs=[.ref c,.str (ύ lv),.int (mo:Nat),.ref b,v,.str (dX sd),u]->Ϗ H c cs->aW H b os->lE cs os t mo->jJ H v t->mV t->d9 H u r->ao cs r->0<=r.1->r.1<=1000000000->(∀H',ζ H H'->Q (tH lv mo os (sT cs t) ↑(.at_ sd (ϔ cs os r.2) r.1)) H')
def Mm:Def 4 "_law_mark" ["_law_columns_here","_law_make","_law_begin","_law_order_here","_law_sieve_here","_law_sign","_law_one"] Zr:=by
 exists Uw,Mm,hr,#[c,b,lv,sd,mo,v,u,cs,os,t,r,rfl,hC,hO,f,hv,M,hu,B,r0,r1,q],2,n1.lG,n2.Nh,1;let ls:↥("/":Str)=1:=by fin2
 let lb:↥(" ":Str)=1:=by fin2
 let lp:↥(".":Str)=1:=by fin2
 let l3:↥("000":Str)=3:=by fin2
 let ni:(["_law_value_here"]:List Str).Nodup:=by fin2
 let D1:=!Ge;let D2:=!Bw;let D3:=!zB;let D4:=!ur;let#[c1,c6]:=jQ f.ok;let nY:=f.o4;let g:=qw B f.inc;let s:=f.good (lv:=lv) (sd:=sd) g r1;let hks:=g.len;let er:((r.1.toNat:Nat):Int)=r.1:=aql r0;let#[b1,b2]:=uJ f.ok s;let bc:=Cz f.ok s;let kl:=De f.ok s;obtain⟨k1,k2⟩:(∀p∈bz (#[sd,r.1.toNat,ϔ cs os r.2]:Cut),↥p<=21)/\↥(bz (#[sd,r.1.toNat,ϔ cs os r.2]:Cut))<=5:=kl;let k3:=j9 _ 21 k1;let k4:=j4 (bz (#[sd,r.1.toNat,ϔ cs os r.2]:Cut));let O:=HS f.ok s;let hcl:↥(cI (#[sd,r.1.toNat,ϔ cs os r.2]:Cut))<=200:=O;k_go;show#[c,b,u,cs,os,r,rfl,hC,hO,hu,(χ.len B).symm,(),(),f.inc,λp k H1 s1 _ _ hp hk=>?_];k_go;show ϋ (ρ.of hp) (i:=1) rfl ?_>>=lA (fW ?_) ?_
 .have :(10:Nat)^60>1000000000:=by decide
  omega
 lk;show#[ω,λw1 R=>?_];let#[G,D]:=Θ R (.lst [.str (ν (toString r.1))]);change EV _ _ _ (upd H1 w1 (.lst [.str (ν (toString r.1))])) _;generalize upd H1 w1 (.lst [.str (ν (toString r.1))])=H2 at G D⊢;show jm ["_law_value_here"] (σ':=[none]) (bh (ς GF)) ?_>>=ϋ (ρ.of (G<*hp)) (i:=0) rfl ?_*>#[k,ϔ cs os r.2,rfl,θ.of (G<*hk),(),λτ=>∃o1,τ=[o1],λE2 i x H'=>∃y,(ϔ cs os r.2)[i]?=↑y/\x=.str (wordOf y),#[none,rfl],λE2 i x H2 U ys _ _ p=>p,λfp E2 C W H0 i τ x H4 U aN hi Y Φ hys s=>?_,λL U ys jM Z I e3 W=>?_]
 .let#[o1,rfl]:=Y;let#[I,rfl]:=s;show Ε ni ?_;lk;let#[o,_,ab]:=χ.get' g I;show#[x,_,rfl,ab,?_]*>#[#[_,rfl],#[x,I,rfl],ζ.refl _]
 let ey:=fL (ys:=ϔ cs os r.2) (λy=>V.str (wordOf y)) Z I;subst ey;show Ml (W<*D) e3 (by rw[aau];show 1+_<=_;omega) λw2 ac=>?_
 let ek:[V.str (ν (toString r.1))]++(ϔ cs os r.2).map (λy=>V.str (wordOf y))=(bz (#[sd,r.1.toNat,ϔ cs os r.2]:Cut)).map V.str:=by
  show _=V.str (ν (toString ((r.1.toNat:Nat):Int)))::((ϔ cs os r.2).map wordOf).map V.str;rw[er,afR];rfl
 rw[ek];let#[s4,e4,U,w2,H4]:=Θ ac (.lst ((bz (#[sd,r.1.toNat,ϔ cs os r.2]:Cut)).map V.str));let J:=(s1<|>G)<|>W<|>s4;k_go;let el:∃n,Ι (ύ lv).cps.toList 0=↑n/\iC lv=#[#v[n]]/\↥(ύ lv)<=6:=by
  cases lv
  .show#[115,by fin2,by fin2,by fin2]
  .show#[108,by fin2,by fin2,by fin2]
 let#[n,en,J8,el3]:=el;show gY () en ?_>>=lA (fW ?_) ?_
 .have :=f.mo;have:(10:Nat)^60>5000:=by decide
  omega
 lk;show#[b,os,rfl,hO.same J,(),λx hx=>by
  let#[cc,ae,e]:=f.inc x hx;have:=lQ (gH f.ok (z:=x.1) (abz.mpr #[cc,ae,e]));omega,λH5 s5=>?_]
 lk;show#[v,c,cs,t,rfl,hC.same (J<|>s5),f.ok,hv.same (J<|>s5),M,f.gt,λH6 s6=>?_]>>=#[ω,λhd uE=>?_];rw[<-J8];let#[s7,e7]:=Θ uE (.lst [.str (iC lv),.str (ν (toString (mo:Int))),.str (cO os),.str (sT cs t)]);change Ζ _ _ _ _ (upd H6 hd (.lst [.str (iC lv),.str (ν (toString (mo:Int))),.str (cO os),.str (sT cs t)]));generalize upd H6 hd (.lst [.str (iC lv),.str (ν (toString (mo:Int))),.str (cO os),.str (sT cs t)])=H7 at s7 e7⊢;let F:=(s5<|>s6)<|>s7;k_go;show jy (ys:=bz (#[sd,r.1.toNat,ϔ cs os r.2]:Cut)) (θ.of (F<*e4)) (by rw[lb];omega) ?_;let hsg:↥(dX sd)=1:=by cases sd<;>fin2
 show bW () ?_>>=#[ω,λl1 af=>?_];let#[s8,e8]:=Θ af (.lst [.str (cI #[sd,r.1.toNat,ϔ cs os r.2])]);change OP _ _ _ _ (upd H7 l1 (.lst [.str (cI #[sd,r.1.toNat,ϔ cs os r.2])])) _;generalize upd H7 l1 (.lst [.str (cI #[sd,r.1.toNat,ϔ cs os r.2])])=H8 at s8 e8⊢;show Ml (s8<*e7) e8 (by show 4+1<=ϰ;omega) λl2 ϻ=>?_
 let#[s9,e9]:=Θ ϻ (.lst ((bM #[lv,mo,os,sT cs t,#[sd,r.1.toNat,ϔ cs os r.2]]).map V.str));change EA _ _ _ (upd H8 l2 (.lst ((bM #[lv,mo,os,sT cs t,#[sd,r.1.toNat,ϔ cs os r.2]]).map V.str))) _;generalize upd H8 l2 (.lst ((bM #[lv,mo,os,sT cs t,#[sd,r.1.toNat,ϔ cs os r.2]]).map V.str))=H9 at s9 e9⊢;let wW:=(J<|>F)<|>s8<|>s9;let a:=q H9 wW;let ep:tH lv mo os (sT cs t) ↑(.at_ sd (ϔ cs os r.2) r.1)=.str (aU #[lv,mo,os,sT cs t,#[sd,r.1.toNat,ϔ cs os r.2]]):=rfl;rw[ep]at a;lk;show jy (ys:=bM #[lv,mo,os,sT cs t,#[sd,r.1.toNat,ϔ cs os r.2]]) (θ.of e9) (by rw[ls];show _+5*1<=_;omega) ?_;let em:aU #[lv,mo,os,sT cs t,#[sd,r.1.toNat,ϔ cs os r.2]]=ϑ #[lv,mo,os,sT cs t,#[sd,r.1.toNat,ϔ cs os r.2]]++ν "."++aM (ϒ (ϑ #[lv,mo,os,sT cs t,#[sd,r.1.toNat,ϔ cs os r.2]]).cps.toList):=rfl;rw[em]at a;change Ζ _ _ _ _ _;let eb:aek ("/":Str) (bM #[lv,mo,os,sT cs t,#[sd,r.1.toNat,ϔ cs os r.2]])=ϑ #[lv,mo,os,sT cs t,#[sd,r.1.toNat,ϔ cs os r.2]]:=rfl;generalize ϑ #[lv,mo,os,sT cs t,#[sd,r.1.toNat,ϔ cs os r.2]]=z at b2 bc a eb;rw[eb];k_go;k_go;w_up;show YB (by walk_at"po") (by rfl) (by intro _;rfl) ?_;f_are;let cn:=gk z.cps.toList;show#[z,rfl,λi σ H'=>H'=H9/\∃j l o,σ=[↑(.ref c),↑(.str (ύ lv)),↑(.int (mo:Nat)),↑(.ref b),↑v,↑(.str (dX sd)),↑u,↑(.ref p),↑(.ref w2),↑(.ref hd),↑(.str z),↑(.int j),↑(.int l),o]/\0<=j/\j<9973/\0<=l/\l<9973/\(j+l*ϒ (z.cps.toList.drop i)) % 9973=ϒ z.cps.toList,#[rfl,0,1,none,rfl,by decide,by decide,by decide,by decide,?_],λi cc σ H' hi hP=>?_,λσ H' hP=>?_]
 .rw[aoc,arI,auG];show apP cn.1 cn.2
 .let#[rfl,j,l,o,rfl,t0,t1,p0,p1,e]:=hP;let hcb:=bc cc (aa1 hi);let ag:z.cps.toList.drop i=cc::z.cps.toList.drop (i+1):=by
   let#[h1,h2]:=aak.mp hi;rw[agX h1,h2]
  rw[ag]at e;show Ε nd ?_;w_up;cbv;show#[rfl,_,_,_,rfl,ahe _ (by decide),agE _ (by decide),ahe _ (by decide),agE _ (by decide),SM e]
 .let#[rfl,j,l,o,rfl,t0,t1,p0,p1,e]:=hP;rw[an7]at e;let D:j=ϒ z.cps.toList:=by
   rw[<-e];show j=(j+l*0) % 9973;rw[auC,auD,apP t0 t1]
  let#[m,hm]:=aa4 cn.1;rw[hm]at D a;rw[D];let hm4:=j7 (m:=m) (k:=4) (by decide) ();let h4:=vH ((m:Nat):Int);symm;lk;show bW () ?_>>=lA (fW ?_) ?_
  .have :(10:Nat)^60>10000:=by decide
   omega
  show bW () ?_>>=gq (by rw[len_app];omega) ?_;rw[anN ()];show bW (by rw[len_app];omega) ?_*>a
def fH(mg:MG)(H:Hp)(E:XK)(n:Nat):=∀e b H',ζ H H'->H' e=↑(.xd [("at",.int n)])->E (.ref (η mg "NoSieve")) (↑e,b) H'
theorem fH.same(h:fH mg H E n)(s:ζ H H'):fH mg H' E n:=λe b G a c=>h e b G (s<|>a) c
inductive abG(K:ϩ)(mg:MG):Sp
 |mk (b:δ) (cs:List ξ) (a:δ) (ws:List Str):vs=[.ref b,.ref a,.int 0]->Ϗ H b cs->θ K H a (ws.map V.str)->↥ws<=4000->dj cs ws 1=none->fH mg H E 1
def agD:Def 5 "read_none" ["columns","words","start"] (abG K mg):=by
 exists yV,CK,m,#[b,cs,a,ws,rfl,c,f,g,hi,q],2,n ud;k_go;show#[b,cs,a,ws,1,by simp,c,f,g,(),λ_ e H' j l=>q e true H' j l,λi H2 o e=>by rw[hi]at e;cases e]
abbrev u9:List Str:=[ν "not",ν "whole"]
inductive RN(K:ϩ)(mg:MG):Sp
 |mk (b a:δ):vs=[.ref b,.ref a,.int 1,.int 1]->θ K H a (u9.map V.str)->fH mg H E 1
def ahg:Def 4 "read_part" ["columns","words","start","within"] (RN K mg):=by
 exists lL,yr,j,#[b,a,rfl,l,q],2,1,u.vg,v.Ao,x.v7,y.uW,B.xR,C.Bp,D.yj,F.CT,G.J7,I lV;k_go;show#[a,u9,1,by simp,l,by decide,by decide,λm=>absurd #[by decide,by decide] m,λz n _=>?_];cases n;w_up;show Δ ?_>>=cA ?_*>Α ?_;w_up;show Δ ?_>>=cA ?_*>Α ?_;w_up;show Δ ?_>>=#[ω,λtp c=>?_]*>jK (ρ.of ο) ?_;let f:ζ H (upd H tp (.tup [.str "is",.str "under",.str "over",.str "holds"])):=ζ.upd c;generalize upd H tp (.tup [.str "is",.str "under",.str "over",.str "holds"])=H2 at f⊢;rw[show eU (V.str ("whole":Str)) [V.str ("is":Str),V.str ("under":Str),V.str ("over":Str),V.str ("holds":Str)]=false by fin2];lk;show Α ?_;w_up;show Δ ?_>>=#[ω,λg o=>?_]*>jK (ρ.of ο) ?_;let i:ζ H2 (upd H2 g (.tup [.str "not",.str "both",.str "either"])):=ζ.upd o;generalize upd H2 g (.tup [.str "not",.str "both",.str "either"])=J at i⊢;rw[show eU (V.str ("whole":Str)) [V.str ("not":Str),V.str ("both":Str),V.str ("either":Str)]=false by fin2];lk;show Α ?_;f_len;show rF (Gh T (cc:=true)) j (λ_=>rfl) Ο ?_;cbv;show#[1,rfl,(),λe H' p s=>q e true H' ((f<|>i)<|>p) s]
inductive Vf(K:ϩ)(mg:MG):Sp
 |mk (b a:δ):vs=[.ref b,.ref a,.int 0,.int 1]->θ K H a (u9.map V.str)->fH mg H E 1
def agZ:Def 5 "read_of_sieves" ["columns","words","start","within"] (Vf K mg):=by
 exists zx,aa8,e,#[b,a,rfl,c,q],2,f.aaT,g ahg;w_up;show Δ ?_>>=Α ?_;k_go;show ϐ c (i:=0) rfl ?_;w_up;show fY ?_>>=#[b,a,by simp,c,q]
def JM(cs:List ξ)(ws:List Str):Prop:=(ws[0]?=↑("none":Str)/\dj cs ws 1=none)\/ws=u9
inductive abH(K:ϩ)(mg:MG):Sp
 |mk (b:δ) (cs:List ξ) (a:δ) (ws:List Str):vs=[.ref b,.ref a,.int 0,.int 0]->Ϗ H b cs->θ K H a (ws.map V.str)->↥ws<=4000->JM cs ws->fH mg H E 1
def anR:Def 8 "read_part" ["columns","words","start","within"] (abH K mg):=by
 exists lL,yr,y,#[b,cs,a,ws,rfl,p,e,g,u,q],2,1,B.vg,C.Ao,D.v7,F.uW,G.xR,I.Bp,J.yj,L.CT,M.J7,O lV,R agD,U agZ;obtain⟨l,v⟩|rfl:=u
 .w_up;f_tup;lk;show#[a,ws,0,by simp,e,g,(),λi=>absurd #[(aak.mp l).1,()] i,λz f _=>?_];rw[l]at f;cases f;w_up;show Δ ?_>>=cA ?_*>Α ?_;w_up;show Δ ?_>>=cX ?_;symm;lk;show #[b,cs,a,ws,rfl,p,e,g,v,q]
 .w_up;f_tup;lk;show#[a,u9,0,by simp,e,g,(),λi=>absurd #[by decide,by decide] i,λz f _=>?_];cases f;w_up;show Δ ?_>>=cA ?_*>Α ?_;w_up;show Δ ?_>>=cA ?_*>Α ?_;w_up;show Δ ?_>>=#[ω,λtp j=>?_]*>jK (ρ.of ο) ?_;let m:ζ H (upd H tp (.tup [.str "is",.str "under",.str "over",.str "holds"])):=ζ.upd j;generalize upd H tp (.tup [.str "is",.str "under",.str "over",.str "holds"])=H2 at m⊢;rw[show eU (V.str ("not":Str)) [V.str ("is":Str),V.str ("under":Str),V.str ("over":Str),V.str ("holds":Str)]=false by fin2];lk;show Α ?_;w_up;show Δ ?_>>=#[ω,λn x=>?_]*>jK (ρ.of ο) ?_;let o:ζ H2 (upd H2 n (.tup [.str "not",.str "both",.str "either"])):=ζ.upd x;generalize upd H2 n (.tup [.str "not",.str "both",.str "either"])=W at o⊢;let c:=m<|>o;rw[show eU (V.str ("not":Str)) [V.str ("not":Str),V.str ("both":Str),V.str ("either":Str)]=true by fin2];lk;symm;lk;show #[b,a,rfl,c.seq e,q.same c]
inductive X5(mg:MG):Sp
 |mk (b:δ) (cs:List ξ) (z:Str):vs=[.ref b,.str z]->Ϗ H b cs->↥z<=3000->JM cs (ώ 32 z)->fH mg H E 1
def agA:Def 9 "read_sieve" ["columns","text"] (X5 mg):=by
 exists Bs,XR,j,#[b,cs,z,rfl,e,l,f,q],2,1;let g:=Le 32 z;let m:=!anR;w_up;f_tup;show bA F.plainAttrs_str F.slot_str_split F.type_str_split (h:=?_);cbv;show m_split (c:=32) λp i=>?_
 let#[a,ep,H,p,H1]:=Θ i (.lst ((ώ 32 z).map V.str));w_up;show fY ?_>>=#[b,cs,p,ώ 32 z,rfl,e.same a,θ.of ep,(),f,q.same a]
def uX(F:Def P w K mg base true k x ps sp)(a:k<=k'):Def P w K mg base true k' x ps sp:=by
 let#[f,fd,h1,h2,c,e]:=F.ex;show#[f,fd,h1,h2,c,e.mono a]
def vY(cs:List ξ)(z:Str):Option Tr->Prop
 |some t=>z=aek " " (wT (Ξ cs) t)/\iB cs t/\↥(wT (Ξ cs) t)<=60
 |none=>↥z<=3000/\JM cs (ώ 32 z)
def SvQ(mg:MG)(H:Hp)(Q:VK)(E:XK):Option Tr->Prop
 |some t=>∀v z H',ζ H H'->dN mg H' t v z->Q (.ref v) H'
 |none=>fH mg H E 1
def iJ(o:Option Tr):=∀t,o=↑t->t.dep<=1
inductive qm(mg:MG)(o:Option Tr):Sp
 |mk (b:δ) (cs:List ξ) (z:Str):vs=[.ref b,.str z]->Ϗ H b cs->Ρ cs=true->vY cs z o->SvQ mg H Q E o
def yU(i:iJ o):Def 11 "read_sieve" ["columns","text"] (qm mg o):=by
 cases o with
 |none=>
  show K8 (uX (agA T) (by decide)) λvs H Q E h=>?_
  let#[b,cs,z,rfl,c,_,#[h1,h2],q]:=h;show#[b,cs,z,rfl,c,h1,h2,q]
 |some t=>
  let hd:=i t rfl;show K8 (uX (YC T t) ()) λvs H Q E h=>?_
  let#[b,cs,z,rfl,c,hok,#[rfl,a,j],q]:=h;let e:=uq hok a;let g:ώ 32 (aek " " (wT (Ξ cs) t))=wT (Ξ cs) t:=tM (KQ (Ξ cs) t) λz l=>(e z l).2.1
  let m:↥(aek " " (wT (Ξ cs) t))<=3000:=by
   let h1:=j9 (wT (Ξ cs) t) 21 λp n=>(e p n).1
   let h2:=j4 (wT (Ξ cs) t);omega
  let f:Reads cs (wT (Ξ cs) t) t 0 ↥(wT (Ξ cs) t):=by
   have:=Du hok (ws:=wT (Ξ cs) t) (t:=t) (s:=0) #[[],by simp] () a;rw[aqB]at this;show this
  show#[b,cs,_,rfl,c,m,by rw[g];show λy u=>by have:=(e y u).1;omega,(),by rw[g];show f,λv H' s x=>q v _ H' s x]
abbrev oR(B:Bk)(mo:Int):List Row:=bQ B.rows (B.done.drop (mo-B.known).toNat)
abbrev ajg(B:Bk)(mo:Int):List aq:=B.done.drop (mo-B.known).toNat
def fO(lv:Bool)(B:Bk)(mo:Int):List Row:=if lv=true then B.rows else oR B mo
structure dC(mg:MG)(H:Hp)(A:BA)(B:Bk):Prop where
 bk:Χ (cB mg) H A B
 ok:Ρ B.heads=true
 mm:jx B
 dn:↥B.done=(B.now-B.known).toNat
 r1:↥B.rows<64
 d1:↥B.done<10000
 wf:lB B
 nd:(B.rows.map Prod.fst).Nodup
 fit:∀r∈B.rows,ao B.heads r/\0<=r.1/\r.1<=1000000000
 n5:B.now<=5000
 hs:∀mo,B.known<=mo->mo<=B.now->jL B.rows (ajg B mo)/\↥(oR B mo)<64/\((oR B mo).map Prod.fst).Nodup/\∀r∈oR B mo,ao B.heads r/\0<=r.1/\r.1<=1000000000
theorem dC.same(h:dC mg H A B)(s:ζ H H'):dC mg H' A B:={h with bk:=h.bk.same s}
def dC.at_(h:dC mg H A B)(a:lv=false->B.known<=mo)(c:mo<=B.now):↥(fO lv B mo)<64/\((fO lv B mo).map Prod.fst).Nodup/\∀r∈fO lv B mo,ao B.heads r/\0<=r.1/\r.1<=1000000000:=by
 cases lv with
 |true=>show#[h.r1,h.nd,h.fit]
 |false=>show(h.hs mo (a rfl) c).2
def Gn(mg:MG)(B:Bk)(H:Hp)(E:XK):=∀e H',ζ H H'->H' e=↑(.xd [("known",.int B.known)])->E (.ref (η mg "Gone")) (↑e,true) H'
theorem Gn.same(h:Gn mg B H E)(s:ζ H H'):Gn mg B H' E:=λe H2 a c=>h e H2 (s<|>a) c
inductive Il(mg:MG)(t:Tr):Sp
 |mk (A:BA) (B:Bk) (lv:Bool) (mo:Int) (a:δ) (z:Str):vs=[.ref A.b,.str (ύ lv),.int mo,.ref a]->dC mg H A B->mo<=B.now->dN mg H t a z->iB B.heads t->(lv=false->mo<B.known->Gn mg B H E)->((lv=false->B.known<=mo)->∀q ws rs H',ζ H H'->H q=none->H' q=↑(.lst ws)->χ (d9 H') ws rs->rs.Perm ((fO lv B mo).filter λr=>cW r.2 t)->Q (.ref q) H')
def KC(t:Tr):Def (5+t.dep) "rows_of_list" ["book","make","begin","sieve"] (Il mg t):=by
 rw[show 5+t.dep=(4+t.dep)+1 by omega];show Γ (S:=Oh) T.KC (λf Ϲ A' outer s H vs Q E m h=>?_);intro X _;let#[A,B,lv,mo,a,z,rfl,c,n,I,o,J,q]:=h;let nd:=Oh.nd;let g1:=T.Gg;let M1:ϕ P w K mg base true 4 (cB mg) "rows_at" ["self","moment"] (rN mg):=(RK T).meth T.ϓ T.Y7;let M2:ϕ P w K mg base true 2 (cB mg) "now_rows" ["self"] (jZ mg):=(G8 T).meth T.ϓ T.Gx;let D1:= @tV P w K mg base T t;let r1:=c.r1;let d1:=c.d1
 let rest:(lv=false->B.known<=mo)->∀p1 ys ks H1,ζ H H1->H p1=none->ks.Perm ((fO lv B mo).map (·.1))->ks.Pairwise (· <= ·)->H1 p1=↑(.lst ys)->χ (xj H H1) ys (aX (fO lv B mo) ks)->
   Ζ X ((Ψ Kf).drop 1) {nx:=λ_ H'=>Q .non H',rt:=Q} [↑(.ref A.b),↑(.str (ύ lv)),↑(.int mo),↑(.ref a),↑(.ref p1)] H1:=by
  intro D p1 ys ks H1 p L v M O x;let#[R,y,i]:=c.at_ D n;let g:=Aw (rows:=fO lv B mo) y v;let F:cG H1 p1 (aX (fO lv B mo) ks):=#[ys,O,x.imp λu r z=>by
   let#[t,l,e,h1,h2,_]:=z;show#[t,l,e,h1,h2]]
  generalize aX (fO lv B mo) ks=rs at g F;let U:=g.length_eq;symm;lk;show #[a,p1,z,rs,rfl,I.same p,F,(),λr m=>yw (i r (g.mem_iff.mp m)).1 o,λp2 W H2 G C j Y=>?_]*>q D p2 W _ H2 (p<|>G) (p.free C) j (Y.imp λu r z=>z.row G) (g.filter _)
 w_up;f_tup;cases lv with
 |true=>
  lk;show cX ?_*>cN (pl:=_) m Ο ?_;f_are;show#[A.b,cB mg,A.dx,_,true,2,_,jZ mg,rfl,c.bk.ins,by rfl,M2,(),id,A,B,rfl,c.bk,c.r1,rest (λh=>by cases h)]
 |false=>
  lk;show Β (λh=>?_) (λ_=>?_)
  .injection h with h
   show absurd h (by fin2)
  show bD (pl:=_) m Ο (h:=?_);f_are;show#[A.b,cB mg,A.dx,_,true,4,_,rN mg,rfl,c.bk.ins,by rfl,M1,(),id,?_]>>=#[A,B,mo,rfl,c.bk,c.mm,(),c.d1,λh e H' Z he=>J rfl h e H' Z he,λh=>absurd h (),λh1 h2=>?_];let#[u1,u2,_]:=c.hs mo h1 h2;show#[u1,u2,rest λ_=>h1]
inductive Oe(mg:MG):Sp
 |mk (A:BA) (B:Bk) (lv:Bool) (mo:Int) (r:Row):vs=[.ref A.b,.str (ύ lv),.int mo,.int r.1]->dC mg H A B->(lv=true->r∈B.rows)->(∀b,Q (.bl b) H)
def Ht:Def 5 "is_untouched" ["book","make","begin","row"] (Oe mg):=by
 show Γ (N:=["book","make","begin","row"]) T.Ht (λf l m outer s H vs Q E e h=>?_);intro X _;let#[A,B,lv,mo,r,rfl,a,c,q]:=h;let n:=T.Ry;let M1:ϕ P w K mg base true 4 (cB mg) "since" ["self","row"] (ym mg):=(ak6 T).meth T.ϓ T.ag0;symm;cases lv with
 |false=>
  lk;show Β (λ_=>q _) (λh=>absurd rfl h)
 |true=>
  lk;show Β (λh=>?_) (λ_=>?_)
  .injection h with h
   show absurd h (by fin2)
  lk;show bD (pl:=_) e Ο (h:=?_);f_are;show#[A.b,cB mg,A.dx,_,true,4,_,ym mg,rfl,a.bk.ins,by rfl,M1,by decide,id,?_];lk;let c:=c rfl;let#[_,g,j]:=a.fit r c;show#[A,B,r.1,rfl,a.bk,g,j,a.wf,λz=>absurd (ahF (f:=Prod.fst) c) (oh.mp z),λi hi=>?_]>>=q _
def mQ(H:Hp)(Q:VK):=∀v H',ζ H H'->Q v H'
theorem mQ.same(h:mQ H Q)(s:ζ H H'):mQ H' Q:=λv H2 a=>h v H2 (s<|>a)
def qY(mg:MG)(n:Int)(H:Hp)(Q:VK)(E:XK):Prop:=(¬sizeOk n->gU mg H E "NoSize")/\(sizeOk n->mQ H Q)
theorem qY.same(h:qY mg n H Q E)(s:ζ H H'):qY mg n H' Q E:=#[λa=>(h.1 a).same s,λa=>(h.2 a).same s]
def wV(mg:MG)(B:Bk)(lv:Bool)(mo n:Int)(H:Hp)(Q:VK)(E:XK):Prop:=(lv=false->mo<B.known->Gn mg B H E)/\((lv=false->B.known<=mo)->qY mg n H Q E)
theorem wV.same(h:wV mg B lv mo n H Q E)(s:ζ H H'):wV mg B lv mo n H' Q E:=#[λa b=>(h.1 a b).same s,λa=>(h.2 a).same s]
def wQ(mg:MG)(B:Bk)(os:List Ord)(lv:Bool)(mo:Nat)(n:Int)(H:Hp)(Q:VK)(E:XK):Option Tr->Prop
 |some t=>lE B.heads os t mo/\wV mg B lv mo n H Q E
 |none=>fH mg H E 1
theorem wQ.same{os:List Ord}{lv:Bool}{mo:Nat}{n:Int}{H H':Hp}{Q:VK}{E:XK}:∀{o:Option Tr},wQ mg B os lv mo n H Q E o->ζ H H'->wQ mg B os lv mo n H' Q E o
 |some _,h,s=>#[h.1,h.2.same s]
 |none,h,s=>fH.same h s
inductive rK(K:ϩ)(mg:MG)(o:Option Tr)(on:Bool):Sp
 |mk (A:BA) (B:Bk) (mk oa:δ) (v:V) (z:Str) (os:List Ord) (c:Ct) (lv:Bool) (mo:Nat) (n:Int):vs=[.ref A.b,.ref mk,.int n,.bl on]->dC mg H A B->H mk=↑(.tup [.str (ύ lv),.int (mo:Nat),.ref oa,.str z,v])->aW H oa os->dM H v c->xF B.heads os on c->vY B.heads z o->H (b8 K "sorted_by")=↑(.tbl iK)->((mo:Nat):Int)<=B.now->n.natAbs<10^60->wQ mg B os lv mo n H Q E o
def qO(hN:dH K mg base "sorted_by")(ho:iJ o)(Y:Bool):Def 12 "leaf_from" ["book","mark","size","onward"] (rK K mg o Y):=by
 show Γ (S:=aab) T.qO (λf Ϲ A' outer s H vs Q E l h=>?_);intro X _;let#[A,B,mk,Z,v,z,os,ct,lv,mo,n,rfl,M,ab,hO,ac,Yz,hS,tb,ae,ha,q]:=h;let nd:=aab.nd;let n1:=T.bj;let g1:=T.Gg;let hsz:=Ϯ;let hok:=M.ok;let#[c1,c6]:=jQ hok;let Oo:(["row","values","book","make","begin"]:List Str).Nodup:=by fin2
 let D1:Def P w K mg base true 11 "read_sieve" ["columns","text"] (qm mg o):=yU T ho;let D3:Def P w K mg base true 8 "line_of" ["columns","order","rows"] (yS K):=zc T hN;let D4:=!Ax;let D5:=!Ck;let D6:=!Ht;let D7:=!JD;let M2:ϕ P w K mg base true 1 (cB mg) "moment" ["self"] (f9 mg Bk.now):=(vL T).meth T.ϓ T.vI;let M3:ϕ P w K mg base true 1 (cB mg) "columns" ["self"] (cZ mg):=(pQ T).meth T.ϓ T.pM;let D2:Def P w K mg base true 6 "rows_of_list" ["book","make","begin","sieve"] (Il mg (o.getD (.one .all))):=uX (KC T (o.getD (.one .all))) (by
  cases o with
  |none=>decide
  |some t=>have:=ho t rfl;show 5+t.dep<=6;omega)
 w_up;show fY ?_>>=aG (ρ.of ab) (Μ (Ε nd (Μ (Ε nd (Μ (Ε nd (Μ (Ε nd (Μ (Ε nd (aH ?_)))))))))));w_up;f_tup;show cN (pl:=_) l Ο ?_;f_are;show⟨A.b,cB mg,A.dx,_,true,1,_,cZ mg,rfl,M.bk.ins,by rfl,M3,(),id,A,B,rfl,M.bk,λc H1 s1 hc0 hC=>?_⟩;k_go;show#[c,B.heads,z,rfl,hC,hok,hS,?_];cases o with
 |none=>show fH.same q s1
 |some t=>
 let#[I,qg,q]:=q;let#[rfl,am,_]:=hS;intro sv zz H2 s2 hv;let nY:=I.o4;let af:=I.inc;let ϥ:=s1<|>s2;lk;show#[A,B,lv,(mo:Nat),sv,zz,rfl,M.same ϥ,ae,hv,am,λa b=>(qg a b).same ϥ,λhk p2 mJ rs H3 s3 hp2 ag ap ah=>?_];let az:=ϥ<|>s3;let#[qs,q]:=q hk;let#[ar,hnd,D]:=M.at_ hk ae;let av:↥((fO lv B mo).filter λr=>cW r.2 t)<=↥(fO lv B mo):=ah9 ..;let aw:↥rs<64:=afY (afT (aqv ah.length_eq) av) ar;let O:∀r∈rs,r∈fO lv B mo:=λr l=>(akR.mp (ah.mem_iff.mp l)).1
 lk;show#[c,Z,p2,B.heads,os,rs,rfl,hC.same (s2<|>s3),hO.same az,#[mJ,ag,ap],c6,(),af,aw,λr l=>(D r (O r l)).1,az<*tb,λln lw ls H4 s4 jq zH ai jn=>?_];let W:=az<|>s4;let hlw:=ai.len;let hll:↥ls=↥rs:=jn.length_eq;let g:∀r∈ls,r∈fO lv B mo:=λr l=>O r (jn.mem_iff.mp l)
 let yL:qX B.heads os ls:=#[#[c1,c6],nY,af,λr l=>(D r (g r l)).1,()];let ax:cG H4 ln ls:=#[lw,zH,ai.imp λu r z=>z.row];let WX:xr H4 mk lv mo os (sT B.heads t) ct:=#[Z,v,W<*ab,hO.same W,ac.same W]
 let rest:sizeOk n->∀i j,tQ B.heads os Y ct ↥ls i j->∀(J:δ)(us:List V)(x y:V)(H5:Hp),ζ H4 H5->H4 J=none->H5 J=↑(.lst us)->χ (jH J H4 H5) us (fJ B.heads os ls ct i j).rows->dY H5 x (fJ B.heads os ls ct i j).back->dY H5 y (fJ B.heads os ls ct i j).mY->
   Ζ X ((Ψ uR).drop 4) {nx:=λ_ H'=>Q .non H',rt:=Q} [↑(.ref A.b),↑(.ref mk),↑(.int n),↑(.bl Y),↑(.str (ύ lv)),↑(.int (mo:Nat)),↑(.ref Z),↑(.str (sT B.heads t)),↑v,↑(.ref c),↑(.ref ln),↑(.ref J),↑x,↑y,↑(.int (i:Nat)),none,none] H5:=by
  intro hs i j F J us x y H5 s5 al hq G hx hy;let qq:=q hs;let je:=afP yL (λr l=>(D r (g r l)).2) Yz F;let R:∀r∈(fJ B.heads os ls ct i j).rows,r∈fO lv B mo:=λr l=>g r (af0 (aeB l))
  let ay:(fJ B.heads os ls ct i j).rows.length<=↥ls:=by
   show(aP ls i j).length<=_;rw[aaR ls F.2.1];have:=F.2.1;omega
  generalize fJ B.heads os ls ct i j=L at G hx hy je R ay;let pR:=G.len;let cY:=W<|>s5;w_up;show qu ["row","values","book","make","begin"] (σ':=[none,none,↑(.ref A.b),↑(.str (ύ lv)),↑(.int (mo:Nat))]) (bh (ς uR)) nd ?_>>=#[J,us,rfl,θ.of hq,(),λτ=>∃o1 o2,τ=[o1,o2,↑(.ref A.b),↑(.str (ύ lv)),↑(.int (mo:Nat))],λ_ _ _ _=>True,#[none,none,rfl],λE2 j u H8 H9 ys hE hk p=>trivial,λfp E2 C s9 H8 j τ x H6 H7 aN hi aC rR hys hG=>?_,λq1 H6 us6 hq1 hl6 hx6 e6 s6=>?_]
  .let#[o1,o2,rfl]:=aC;let#[aa,rfl]:=hG;let#[r,aE,tr,lr,rfl,alP,aj9,_,aI,hlr]:=G.get aa;show aG (ρ.of (rR<*aI)) (Μ (Ε Oo (Μ (Ε Oo (aH ?_)))))>>=#[A,B,lv,(mo:Nat),r,rfl,M.same (cY<|>rR),λe=>?_,λb=>?_]
   .have :=R r (aa1 aE);rw[e]at this;show this
   lk;show#[ω,λt2 cH=>?_]*>#[#[_,_,rfl],trivial,ζ.upd cH]
  let lN:=cY<|>s6;let GR:=s5<|>s6;let Di:θ K H6 ln lw:=GR.seq (θ.of zH);let U:∀m:Int,Ζ X ((Ψ uR).drop 6) {nx:=λ_ H'=>Q .non H',rt:=Q} [↑(.ref A.b),↑(.ref mk),↑(.int n),↑(.bl Y),↑(.str (ύ lv)),↑(.int (mo:Nat)),↑(.ref Z),↑(.str (sT B.heads t)),↑v,↑(.ref c),↑(.ref ln),↑(.ref J),↑x,↑y,↑(.int (i:Nat)),↑(.ref q1),↑(.int m)] H6:=by
   intro m;symm;lk;show #[mk,x,lv,B.heads,os,t,mo,ct,L.back,rfl,WX.same GR,I,hx.same s6,λd e=>je d (.inl e),λH7 s7=>?_];generalize tH lv mo os (sT B.heads t) L.back=u1;lk;show#[mk,y,lv,B.heads,os,t,mo,ct,L.mY,rfl,WX.same (GR<|>s7),I,hy.same (s6<|>s7),λd e=>je d (.inr e),λH8 s8=>?_];generalize tH lv mo os (sT B.heads t) L.mY=u2;let sq8:θ K H8 ln lw:=(s7<|>s8).seq Di;lk;show#[ω,λp9 aS=>qq _ _ (((lN<|>s7)<|>s8)<|>(ζ.upd aS))]
  w_up;f_tup;cases lv with
  |true=>
   lk;show cX ?_*>cN (pl:=_) l Ο ?_;f_are;show#[A.b,cB mg,A.dx,_,true,1,_,f9 mg Bk.now,rfl,(M.bk.same lN).ins,by rfl,M2,(),id,A,B,rfl,M.bk.same lN,U _]
  |false=>
   lk;show Β (λh=>?_) (λ_=>?_)
   .injection h with h
    show absurd h (by fin2)
   lk;show U _
 w_up;show Δ ?_;lk;let aT:=Yz.ok;cases Y
 all_goals
  lk;f_len;show fY ?_>>=#[c,Z,ln,v,B.heads,os,ls,ct,n,rfl,hC.same ((s2<|>s3)<|>s4),hO.same W,ax,ac.same W,yL,aT,ha,λh=>(qs h).same W,λhs i j F t4 J us x y H5 s5 al aY hq G hx hy=>?_]*>aG (ρ.of aY) (Μ (Ε nd (Μ (Ε nd (Μ (Ε nd (Μ (Ε nd (aH ?_)))))))))*>rest hs i j F J us x y H5 s5 al hq G hx hy
inductive SJ(mg:MG):Sp
 |mk (A:BA) (B:Bk) (lv:Bool) (zo z:Str) (v:V):vs=[.ref A.b,.str (ύ lv),.str zo,.str z,v]->Χ (cB mg) H A B->↥zo<=4000->(bx B.heads zo=none->gU mg H E "NoOrder")->(∀os,bx B.heads zo=↑os->∀p b H',ζ H H'->H' p=↑(.tup [.str (ύ lv),.int B.now,.ref b,.str z,v])->aW H' b os->Q (.ref p) H')
def yf:Def 4 "begin_of" ["book","make","order","sieve","cut"] (SJ mg):=by
 show Γ (N:=["book","make","order","sieve","cut"]) T.yf (λf G I outer s H vs Q E g h=>?_);intro X _;let#[A,B,lv,zo,z,v,rfl,a,l,m,q]:=h;let hsz:=Ϯ;let J:=!nq;let M2:ϕ P w K mg base true 1 (cB mg) "moment" ["self"] (f9 mg Bk.now):=(vL T).meth T.ϓ T.vI;let n:ϕ P w K mg base true 1 (cB mg) "columns" ["self"] (cZ mg):=(pQ T).meth T.ϓ T.pM;symm;lk;show cN (pl:=_) g Ο ?_;f_are;show#[A.b,cB mg,A.dx,_,true,1,_,f9 mg Bk.now,rfl,a.ins,by rfl,M2,by decide,id,A,B,rfl,a,?_]>>=cN (pl:=_) g Ο ?_;f_are;show#[A.b,cB mg,A.dx,_,true,1,_,cZ mg,rfl,a.ins,by rfl,n,by decide,id,A,B,rfl,a,λc H1 i u x=>?_]>>=#[c,B.heads,zo,rfl,x,l,λH' s' e=>m e H' (i<|>s'),λb os H2 y e C D=>?_]>>=#[ω,λp F=>?_];let j:=ζ.upd (o:=.tup [.str (ύ lv),.int B.now,.ref b,.str z,v]) F;show q os e p b _ ((i<|>y)<|>j) ο (D.same j)
structure ig(K:ϩ)(mg:MG)(H:Hp)(A:BA)(B:Bk)(zo z:Str)(o:Option Tr):Prop where
 bk:dC mg H A B
 zl:↥zo<=4000
 sv:vY B.heads z o
 rd:∀os,bx B.heads zo=↑os->↥os<=4/\fQ B.heads os/\(os.map Prod.fst).Nodup
 tb:H (b8 K "sorted_by")=↑(.tbl iK)
theorem ig.same(h:ig K mg H A B zo z o)(s:ζ H H'):ig K mg H' A B zo z o:={h with bk:=h.bk.same s,tb:=s _ _ h.tb}
def Gd(mg:MG)(sz:Option Int)(H:Hp)(Q:VK)(E:XK):Prop:=match sz with
 |some n=>qY mg n H Q E
 |none=>mQ H Q
def rE(mg:MG)(B:Bk)(zo:Str)(o:Option Tr)(sz:Option Int)(H:Hp)(Q:VK)(E:XK):Prop:=(bx B.heads zo=none->gU mg H E "NoOrder")/\(bx B.heads zo≠none->(o=none->fH mg H E 1)/\(o≠none->Gd mg sz H Q E))
def dC.nat(h:dC mg H A B):∃m:Nat,B.now=(m:Nat)/\m<=5000:=by
 let h1:=h.mm;let h2:=h.n5;unfold jx at h1;let#[m,e]:=aa4 (show 0<=B.now by omega);show#[m,e,()]
def ig.Zc{A:BA}{B:Bk}{zo z:Str}{o:Option Tr}(h:ig K mg H A B zo z o)(f:iJ o){n:Int}{Q:VK}{E:XK}(q:rE mg B zo o ↑n H Q E){os:List Ord}(e:bx B.heads zo=↑os){lv:Bool}{m:Nat}(p:B.now=(m:Nat))(g:m<=5000):wQ mg B os lv m n H Q E o:=by
 let#[i,j]:=q.2 (by rw[e];simp);cases o with
 |none=>show i rfl
 |some t=>
  let#[_,h2,l]:=h.sv;let#[o4,a,c]:=h.rd os e;let h1:=h.bk.mm;unfold jx at h1;show#[#[h.bk.ok,o4,a,c,h2,by have:=f t rfl;omega,l,g],λ_ z=>absurd z (),λ_=>j (by simp)]
inductive vo(K:ϩ)(mg:MG)(o:Option Tr):Sp
 |mk (A:BA) (B:Bk) (lv:Bool) (zo z:Str) (n:Int):vs=[.ref A.b,.str (ύ lv),.str zo,.str z,.int n]->ig K mg H A B zo z o->n.natAbs<10^60->rE mg B zo o ↑n H Q E
def JR(x:dH K mg base "sorted_by")(l:iJ o):Def 13 "first_leaf" ["book","make","order","sieve","size"] (vo K mg o):=by
 show Γ (N:=["book","make","order","sieve","size"]) T.JR (λf G I outer s H vs Q E J h=>?_);intro X _;let#[A,B,lv,zo,z,n,rfl,a,y,q]:=h;let hsz:=Ϯ;let L:=T.Xe;let i:=a.bk;let M:=!yf;let O:Def P w K mg base true 12 "leaf_from" ["book","mark","size","onward"] (rK K mg o true):=qO T x l true;symm;lk;show #[ω,λp C=>?_];let#[g,e1]:=Θ C (.tup [.str ("start":Str)]);change EA _ _ _ (upd H p (.tup [.str ("start":Str)])) _;generalize upd H p (.tup [.str ("start":Str)])=H1 at g e1⊢;lk;show#[A,B,lv,zo,z,_,rfl,(i.same g).bk,a.zl,λe=>(q.1 e).same g,λos e mk b H2 u c D=>?_];lk;let j:=g<|>u;let#[m,v,F]:=i.nat;rw[v]at c;show#[A,B,mk,b,.ref p,z,os,.start,lv,m,n,rfl,i.same j,c,D,#[p,rfl,u<*e1],.inl #[rfl,rfl],a.sv,j<*a.tb,(),y,(a.Zc l q e v F).same j]
def Ea(x:dH K mg base "sorted_by")(l:iJ o):Def 13 "last_leaf" ["book","make","order","sieve","size"] (vo K mg o):=by
 show Γ (N:=["book","make","order","sieve","size"]) T.Ea (λf G I outer s H vs Q E J h=>?_);intro X _;let#[A,B,lv,zo,z,n,rfl,a,y,q]:=h;let hsz:=Ϯ;let L:=T.QM;let i:=a.bk;let M:=!yf;let O:Def P w K mg base true 12 "leaf_from" ["book","mark","size","onward"] (rK K mg o false):=qO T x l false;symm;lk;show #[ω,λp C=>?_];let#[g,e1]:=Θ C (.tup [.str ("end":Str)]);change EA _ _ _ (upd H p (.tup [.str ("end":Str)])) _;generalize upd H p (.tup [.str ("end":Str)])=H1 at g e1⊢;lk;show#[A,B,lv,zo,z,_,rfl,(i.same g).bk,a.zl,λe=>(q.1 e).same g,λos e mk b H2 u c D=>?_];lk;let j:=g<|>u;let#[m,v,F]:=i.nat;rw[v]at c;show#[A,B,mk,b,.ref p,z,os,.fin,lv,m,n,rfl,i.same j,c,D,#[p,rfl,u<*e1],.inr (.inl #[rfl,rfl]),a.sv,j<*a.tb,(),y,(a.Zc l q e v F).same j]
inductive Eh(K:ϩ)(mg:MG)(o:Option Tr):Sp
 |mk (A:BA) (B:Bk) (zo z:Str) (n:Int):vs=[.ref A.b,.str zo,.str z,.int n,.int 0]->ig K mg H A B zo z o->n.natAbs<10^60->rE mg B zo o ↑n H Q E
def Lp(hN:dH K mg base "sorted_by")(ho:iJ o):Def 12 "leaf_by_place" ["book","order","sieve","size","number"] (Eh K mg o):=by
 show Γ (S:=Pu) T.Lp (λf Ϲ A' outer s H vs Q E a h=>?_);intro X _;let#[A,B,zo,z,n,rfl,y,ha,q]:=h;let g:=y.bk;let I:=g.bk;let nd:=Pu.nd;let n1:=T.bj;let n2:=T.Mi;let hsz:=Ϯ;let#[c1,c6]:=jQ g.ok;let aY:(["row","values"]:List Str).Nodup:=by fin2
 let D1:=!nq;let D2:Def P w K mg base true 11 "read_sieve" ["columns","text"] (qm mg o):=yU T ho;let D3:=!rD;let D5:Def P w K mg base true 8 "line_of" ["columns","order","rows"] (yS K):=zc T hN;let M1:ϕ P w K mg base true 2 (cB mg) "now_rows" ["self"] (jZ mg):=(G8 T).meth T.ϓ T.Gx;let M2:ϕ P w K mg base true 1 (cB mg) "moment" ["self"] (f9 mg Bk.now):=(vL T).meth T.ϓ T.vI;let M3:ϕ P w K mg base true 1 (cB mg) "columns" ["self"] (cZ mg):=(pQ T).meth T.ϓ T.pM;let D4:Def P w K mg base true 5 "let_through" ["sieve","rows"] (yW K mg (o.getD (.one .all))):=uX (tV T (o.getD (.one .all))) (by
  cases o with
  |none=>decide
  |some t=>have:=ho t rfl;show 4+t.dep<=5;omega)
 w_up;f_tup;show cN (pl:=_) a Ο ?_;f_are;show#[A.b,cB mg,A.dx,_,true,1,_,cZ mg,rfl,g.bk.ins,by rfl,M3,(),id,A,B,rfl,g.bk,λc H1 s1 hc0 O=>?_];k_go;show#[c,B.heads,zo,rfl,O,y.zl,λH' s' e=>q.1 e H' (s1<|>s'),λb os H2 R e hb0 hO=>?_];let ϥ:=s1<|>R;let#[o4,U,_]:=y.rd os e;let#[qx,q]:=q.2 (by rw[e];simp);k_go;show#[c,B.heads,z,rfl,O.same R,g.ok,y.sv,?_];cases o with
 |none=>show(qx rfl).same ϥ
 |some t=>
 let#[_,W,_]:=y.sv;obtain⟨qs,q⟩:qY mg n H Q E:=q (by simp);intro v zz H3 Y hv;let J:=ϥ<|>Y;w_up;show Ϛ ?_;lk;show#[n,rfl,ha,λhn=>?_,λh=>(qs h).same J];let qq:=q hn;k_go;show cN (pl:=_) a Ο ?_;f_are;show#[A.b,cB mg,A.dx,_,true,2,_,jZ mg,rfl,(I.same J).ins,by rfl,M1,(),id,A,B,rfl,I.same J,g.r1,λp1 ys ks H4 s4 hp1 Z hso pq D=>?_];let i:=Aw g.nd Z;let S6:cG H4 p1 (aX B.rows ks):=#[ys,pq,D.imp λu r z=>by
  let#[t,l,e,h1,h2,_]:=z;show#[t,l,e,h1,h2]]
 generalize aX B.rows ks=rs at i S6;let hrs:↥rs=↥B.rows:=i.length_eq;let r64:=g.r1;let F:∀r∈rs,ao B.heads r:=λr a=>(g.fit r (i.mem_iff.mp a)).1
 lk;show#[v,p1,zz,rs,rfl,hv.same s4,S6,(),λr a=>yw (F r a) W,λp2 mJ H5 s5 hp2 G ab=>?_];let La:=s4<|>s5;let cY:=J<|>La;let RC:cG H5 p2 (rs.filter λr=>cW r.2 t):=#[mJ,G,ab.imp λu r z=>z.row s5];let ac:↥(rs.filter λr=>cW r.2 t)<=↥rs:=ah9 ..;let Qn:∀r∈rs.filter λr=>cW r.2 t,ao B.heads r:=λr a=>F r (akR.mp a).1
 generalize rs.filter (λr=>cW r.2 t)=fs at RC ac Qn;lk;show#[c,b,p2,B.heads,os,fs,rfl,O.same ((R<|>Y)<|>La),hO.same (Y<|>La),RC,c6,(),U,(),Qn,cY<*y.tb,λln lw ls H6 s6 jq zH xQ jn=>?_];let lN:=cY<|>s6;let hlw:=xQ.len;let hll:↥ls=↥fs:=jn.length_eq;w_up;f_tup;let Di:θ K H6 ln lw:=θ.of zH;lk;show Gs ?_;rw[show(if(↥lw:Int)<0*n then(↥lw:Int)else 0*n)=0 by rw[Int.zero_mul,if_neg ()]];w_up;show qu ["row","values"] (σ':=[none,none]) (bh (ς Fe)) nd ?_>>=pK Di λp3 ae=>?_
 let#[n1',n2']:=hn;let#[m,rfl]:=aa4 (show 0<=n by omega);let af:bL lw ↑0 ↑(0+(m:Int))=lw.take m:=by
  unfold bL;rw[arI,show↑(0:Int)=↑((0:Nat):Int)from rfl,_H.iY,_H.iY];simp
 rw[af];let#[L,e7,H6,p3,H7]:=Θ ae (.lst (lw.take m));let xq:=lN<|>L;show#[p3,lw.take m,rfl,θ.of e7,by rw[af8];omega,λτ=>∃o1 o2,τ=[o1,o2],λ_ _ _ _=>True,#[none,none,rfl],λE2 j u H2 H3 ys hE hk p=>trivial,λfp E2 C s9 H8 j τ x H6' H7' aN hi ag rR D hG=>?_,λq1 H8 us hq1 hl8 hx8 e8 s8=>?_]
 .let#[o1,o2,rfl]:=ag;let#[M,rfl]:=hG;rw[List.getElem?_take]at M;split at M
  .let#[r,a,tr,lr,rfl,alP,aj9,_,ah,hlr]:=xQ.get M;show aG (ρ.of ((L<|>rR)<*ah)) (Μ (Ε aY (Μ (Ε aY (aH ?_)))))>>=#[ω,λt2 cH=>?_]*>#[#[_,_,rfl],trivial,ζ.upd cH]
  .cases M
 let oJ:=xq<|>s8;symm;let sq8:θ K H8 ln lw:=(L<|>s8).seq Di;lk;show cN (pl:=_) a Ο ?_;f_are;show#[A.b,cB mg,A.dx,_,true,1,_,f9 mg Bk.now,rfl,(I.same oJ).ins,by rfl,M2,(),id,A,B,rfl,I.same oJ,?_]>>=#[ω,λp9 ai=>qq _ _ (oJ<|>(ζ.upd ai))]
inductive DY(K:ϩ)(mg:MG)(o:Option Tr):Sp
 |mk (A:BA) (B:Bk) (zo z:Str):vs=[.ref A.b,.str zo,.str z,.int B.now]->ig K mg H A B zo z o->rE mg B zo o none H Q E
def K3(ho:iJ o):Def 12 "stood" ["book","order","sieve","moment"] (DY K mg o):=by
 show Γ (S:=ZP) T.K3 (λf Ϲ A' outer s H vs Q E n h=>?_);intro X _;let#[A,B,zo,z,rfl,J,q]:=h;let a:=J.bk;let kB:=a.bk;let nd:=ZP.nd;let n1:=T.zV;let hu:=n.units;let ab:_+1<cLine:=afY (agK (by decide:1<=64) _) n.units;let hsz:=Ϯ;let#[c1,c6]:=jQ a.ok;let ac:=a.mm;unfold jx at ac;let D1:=!nq;let D2:Def P w K mg base true 11 "read_sieve" ["columns","text"] (qm mg o):=yU T ho;let D4:=!wy;let M1:ϕ P w K mg base true 4 (cB mg) "rows_at" ["self","moment"] (rN mg):=(RK T).meth T.ϓ T.Y7;let M2:ϕ P w K mg base true 4 (cB mg) "deeds" ["self","moment"] (yE mg):=(aeC T).meth T.ϓ T.aoJ;let M3:ϕ P w K mg base true 1 (cB mg) "columns" ["self"] (cZ mg):=(pQ T).meth T.ϓ T.pM;let D3:Def P w K mg base true 5 "let_through" ["sieve","rows"] (yW K mg (o.getD (.one .all))):=uX (tV T (o.getD (.one .all))) (by
  cases o with
  |none=>decide
  |some t=>have:=ho t rfl;show 4+t.dep<=5;omega)
 w_up;f_tup;show cN (pl:=_) n Ο ?_;f_are;show#[A.b,cB mg,A.dx,_,true,1,_,cZ mg,rfl,a.bk.ins,by rfl,M3,(),id,A,B,rfl,a.bk,λc H1 s1 hc0 hC=>?_];k_go;show#[c,B.heads,zo,rfl,hC,J.zl,λH' s' e=>q.1 e H' (s1<|>s'),λb os H2 s2 e hb0 hO=>?_];let ϥ:=s1<|>s2;let#[o4,ae,_]:=J.rd os e;let#[qx,q]:=q.2 (by rw[e];simp);k_go;show#[c,B.heads,z,rfl,hC.same s2,a.ok,J.sv,?_];cases o with
 |none=>show(qx rfl).same ϥ
 |some t=>
 let#[_,af,_]:=J.sv;let q:mQ H Q:=q (by simp);intro v zz H3 s3 hv;let az:=ϥ<|>s3;w_up;f_tup;show v5 λkd M=>?_
 let#[s4,Hy,H3,kd,H4]:=Θ M (.dK []);let bH:=az<|>s4;w_up;show wB (by walk_at"po") (by rfl) (by intro _;rfl) ?_;lk;show bD (pl:=_) n Ο (h:=?_);f_are;show#[A.b,cB mg,A.dx,_,true,4,_,rN mg,rfl,(kB.same bH).ins,by rfl,M1,(),id,?_];lk;let#[ag,ah,ai,vW]:=a.hs B.now () ();show#[A,B,B.now,rfl,kB.same bH,a.mm,by have:=a.r1;omega,a.d1,(λh=>absurd h ()),(λh=>absurd h ()),λ_ _=>#[ag,ah,λp1 ys ks H5 O hp1 al hso pq am=>?_]];let p:=Aw (rows:=oR B B.now) ai al;let d7:cG H5 p1 (aX (oR B B.now) ks):=#[ys,pq,am.imp λu r z=>by
  let#[t,l,e,h1,h2,_]:=z;show#[t,l,e,h1,h2]]
 generalize aX (oR B B.now) ks=G at p d7;let hrl:=p.length_eq;let cY:=bH<|>O;lk;show#[v,p1,zz,G,rfl,hv.same (s4<|>O),d7,(),λr n=>yw (vW r (p.mem_iff.mp n)).1 af,λp2 mJ H6 s6 R y xQ=>?_];let ap:↥(G.filter λr=>cW r.2 t)<=↥G:=ah9 ..;let U:∀r∈G.filter (λr=>cW r.2 t),ao B.heads r:=λr n=>(vW r (p.mem_iff.mp (akR.mp n).1)).1
 let JW:χ (d9 H6) mJ (G.filter λr=>cW r.2 t):=xQ.imp λu r z=>z.row s6
 clear xQ;generalize G.filter (λr=>cW r.2 t)=fs at ap U JW;let hwl:=JW.len;let Eo:=(O<|>s6) _ _ Hy;let ar:p2≠kd:=λe=>by rw[e,O<*Hy]at R;cases R
 let av:=s4<|>O<|>s6;let ZK:∀{H':Hp},Out [kd] H6 H'->ζ H3 H':=λo x u e=>o _ _ (by rw[adF];show λz=>by rw[z,M]at e;cases e) (av<*e)
 show#[p2,mJ,rfl,θ.of y,λi σ H'=>(∃W Y,σ=[↑(.ref A.b),↑(.str zo),↑(.str z),↑(.int B.now),↑(.ref c),↑(.ref b),↑(.ref v),↑(.ref kd),W,Y,none,none,none])/\Out [kd] H6 H'/\∃Ϸ m,H' kd=↑(.dK Ϸ)/\↥m<=i/\χ (PR λ_(_:Unit)=>True) Ϸ m,#[#[none,none,rfl],Out.refl _ _,[],[],Eo,Ϭ _,.nil],λi σ' H' _ g=>θ.of (g.2.1 _ _ (~~~ar) y),λi x σ' H' hx g=>?_,λσ' H' g=>?_]
 .let#[#[W,Y,rfl],I,Ϸ,m,ek,aw,hK]:=g;let#[r,Z,tr,lr,rfl,D,F]:=JW.get hx;let ax:=U r (aa1 Z);let nt:tr≠kd:=λe=>by rw[e,Eo]at D;cases D
  let nl:lr≠kd:=λe=>by rw[e,Eo]at F;cases F
  let aa:=I _ _ (~~~nt) D;let ay:=I _ _ (~~~nl) F;let zg:=ZK I;let hi:=(aak.mp Z).1;let hkl:=hK.len;show aG (ρ.of aa) (Μ (Ε nd (Μ (Ε nd (aH ?_)))));f_len;show jo ab ?_>>=#[c,b,r.1,lr,B.heads,os,r.2,rfl,hC.same ((s2<|>s3)<|>zg),hO.same (s3<|>zg),ay,ax.len,(),(),ae,λkp kk H7 s7 asI asz hkk hkp=>?_]>>=#[kd,_,rfl,dW.k (k:=Sum.inl r.1) (s7<*ek) (),?_]*>#[#[_,_,rfl],(I<|>(Out.of s7))<|>(Out.upd (by simp)),_,_,ο,afT (K1 m r.1 PUnit.unit) (),lZ hK r.1 trivial]
 .let#[#[W,Y,rfl],I,Ϸ,m,ek,aw,hK]:=g;let zg:=ZK I;let xq:=az<|>zg;w_up;show wB (by walk_at"po") (by rfl) (by intro _;rfl) ?_*>bD (pl:=_) n Ο (h:=?_);f_are;show#[A.b,cB mg,A.dx,_,true,4,_,yE mg,rfl,(kB.same xq).ins,by rfl,M2,(),id,?_]>>=#[A,B,rfl,kB.same xq,a.mm,a.dn,λpd H8 s8 C=>?_];let aC:=s8 _ _ ek;show#[pd,[],rfl,θ.of C,λj σ H9=>(∃W Y,σ=[↑(.ref A.b),↑(.str zo),↑(.str z),↑(.int B.now),↑(.ref c),↑(.ref b),↑(.ref v),↑(.ref kd),W,Y,none,none,none])/\H9=H8,#[#[_,_,rfl],rfl],λj σ' H9 _ g=>by rw[g.2];show θ.of C,λj x σ' H9 hx g=>by simp at hx,λσ' H9 g=>?_];let#[#[o8',o9',rfl],rfl]:=g;symm;walk_at"cb";lk;show M6 (ks:=m.map (·.1)) (by rfl) aC (abA hK) (by rw[aau];omega) λL ks' hL hp hs=>?_
  show q<*((xq<|>s8)<|>(ζ.upd hL))
theorem abx(f:Str)(v:V):∀fs:List (Str×V),↥(ϖ f v fs)<=↥fs+1
 |[]=>Ϭ _
 |(g,x)::r=>by
  have:=abx f v r;show(if g=f then(g,v)::r else(g,x)::ϖ f v r).length<=_;split
  .show aoY _
  .show Nat.succ_le_succ this
def cQ(C y:δ)(k:Nat)(H H':Hp):Prop:=Out [y] H H'/\∃dx fs,H' y=↑(.ins C dx fs)/\↥fs<=k
theorem cQ.set(o:Out [y] H H')(h:↥fs<=k):cQ C y (k+1) H (upd H' y (.ins C dx (ϖ f v fs))):=#[o<|>(Out.upd (by simp)),dx,_,ο,afT (abx f v fs) ()]
def cQ.same(h:cQ C y k H H')(s:ζ H' H2):cQ C y k H H2:=by
 let#[o,dx,fs,e,l]:=h;show#[o<|>(Out.of s),dx,fs,s<*e,l]
theorem Vh(c:G y=none)(a:G dx=none)(h:cQ C y k (upd (upd G dx (.own y)) y (.ins C dx [])) H'):ζ G H':=λb u e=>h.1 b u (by rw[adF];show λz=>by rw[z,c]at e;cases e) (by rw[ι (λz=>by rw[z,c]at e;cases e),ι (λz=>by rw[z,a]at e;cases e)];show e)
inductive Va(K:ϩ)(mg:MG)(o:Option Tr):Sp
 |mk (y dx:δ) (A:BA) (B:Bk) (lv on:Bool) (zo z:Str) (n:Int):vs=[.ref y,.ref A.b,.str (ύ lv),.str zo,.str z,.int n,.bl on]->H y=↑(.ins (η mg "Turner") dx [])->ig K mg H A B zo z o->n.natAbs<10^60->(bx B.heads zo=none->gU mg H E "NoOrder")->(bx B.heads zo≠none->(o=none->fH mg H E 1)/\(o≠none->(¬sizeOk n->∀H',cQ (η mg "Turner") y 1 H H'->gU mg H' E "NoSize")/\(sizeOk n->∀H',cQ (η mg "Turner") y 10 H H'->Q .non H')))
def amT(ho:iJ o):FD 12 "__init__" "Turner.__init__" DW ["self","book","make","order","sieve","size","forth"] (Va K mg o):=by
 show aO (S:=Ww) (λf Ϲ A' outer s H vs Q E hr h=>?_);intro X _;let#[y,dx,A,B,lv,x,zo,z,n,rfl,hy,j,ha,qo,q]:=h;let l:=j.bk;let i:=T.anF;let nd:=Ww.nd;let hsz:=Ϯ;let D1:=!nq;let D2:Def P w K mg base true 11 "read_sieve" ["columns","text"] (qm mg o):=yU T ho;let D3:=!rD;let M3:ϕ P w K mg base true 1 (cB mg) "columns" ["self"] (cZ mg):=(pQ T).meth T.ϓ T.pM;w_up;f_tup;show cN (pl:=_) hr Ο ?_;f_are;show#[A.b,cB mg,A.dx,_,true,1,_,cZ mg,rfl,l.bk.ins,by rfl,M3,(),id,A,B,rfl,l.bk,λc H1 D hc0 F=>?_];w_up;show Ϛ ?_>>=#[c,B.heads,zo,rfl,F,j.zl,λH' s' e=>qo e H' (D<|>s'),λb os H2 G e hb0 hO=>?_];let I:=D<|>G;let#[qx,q]:=q (by rw[e];simp);w_up;show bJ ?_>>=#[c,B.heads,z,rfl,F.same G,l.ok,j.sv,?_];cases o with
 |none=>show(qx rfl).same I
 |some t=>
 let#[qs,q]:=q (by simp);intro v zz J s3 hv;f_are;let L:=I<|>s3;show#[y,_,dx,_,rfl,L<*hy,i,T.acC,by decide,?_];let m:=cQ.set (C:=η mg "Turner") (dx:=dx) (f:="sieve") (v:=.ref v) (fs:=[]) (k:=0) (Out.of L:Out [y] H J) (Ϭ _);generalize upd J y (.ins (η mg "Turner") dx (ϖ "sieve" (.ref v) []))=M at m⊢;w_up;show Ϛ ?_>>=#[n,rfl,ha,λhn=>?_,λh=>qs h M m];let q:=q hn;let#[o1,dx,fs,a,g]:=m;w_up;show bJ ?_>>=#[y,_,dx,fs,rfl,a,i,T.aho,(),?_];let O:=cQ.set (C:=η mg "Turner") (dx:=dx) (f:="book") (v:=.ref A.b) o1 g;generalize upd M y (.ins (η mg "Turner") dx (ϖ "book" (.ref A.b) fs))=H5 at O⊢;let#[o2,dx,fs,a,g]:=O;w_up;show bJ ?_>>=#[y,_,dx,fs,rfl,a,i,T.agc,(),?_];let R:=cQ.set (C:=η mg "Turner") (dx:=dx) (f:="make") (v:=.str (ύ lv)) o2 g;generalize upd H5 y (.ins (η mg "Turner") dx (ϖ "make" (.str (ύ lv)) fs))=H6 at R⊢;let#[o3,dx,fs,a,g]:=R;w_up;show bJ ?_>>=#[y,_,dx,fs,rfl,a,i,T.adJ,(),?_];let U:=cQ.set (C:=η mg "Turner") (dx:=dx) (f:="order") (v:=.str zo) o3 g;generalize upd H6 y (.ins (η mg "Turner") dx (ϖ "order" (.str zo) fs))=H7 at U⊢;let#[o4,dx,fs,a,g]:=U;w_up;show bJ ?_>>=#[y,_,dx,fs,rfl,a,i,T.adO,(),?_];let W:=cQ.set (C:=η mg "Turner") (dx:=dx) (f:="size") (v:=.int n) o4 g;generalize upd H7 y (.ins (η mg "Turner") dx (ϖ "size" (.int n) fs))=H8 at W⊢;let#[o5,dx,fs,a,g]:=W;w_up;show bJ ?_>>=#[y,_,dx,fs,rfl,a,i,T.agf,(),?_];let Y:=cQ.set (C:=η mg "Turner") (dx:=dx) (f:="forth") (v:=.bl x) o5 g;generalize upd H8 y (.ins (η mg "Turner") dx (ϖ "forth" (.bl x) fs))=H9 at Y⊢;let#[o6,dx,fs,a,g]:=Y;w_up;show bJ ?_>>=#[y,_,dx,fs,rfl,a,i,T.adB,(),?_];let Z:=cQ.set (C:=η mg "Turner") (dx:=dx) (f:="turned") (v:=.int 0) o6 g;generalize upd H9 y (.ins (η mg "Turner") dx (ϖ "turned" (.int 0) fs))=oN at Z⊢;let#[o7,dx,fs,a,g]:=Z;w_up;show bJ ?_>>=#[y,_,dx,fs,rfl,a,i,T.aiM,(),?_];let i8:=cQ.set (C:=η mg "Turner") (dx:=dx) (f:="begin") (v:=.non) o7 g;generalize upd oN y (.ins (η mg "Turner") dx (ϖ "begin" (.non) fs))=rm at i8⊢;let#[o8,dx,fs,a,g]:=i8;w_up;show bJ ?_>>=#[y,_,dx,fs,rfl,a,i,T.amW,(),?_];let i9:=cQ.set (C:=η mg "Turner") (dx:=dx) (f:="mark") (v:=.non) o8 g;generalize upd rm y (.ins (η mg "Turner") dx (ϖ "mark" (.non) fs))=lR at i9⊢;f_len;show bJ ?_>>=#[ω,λp hp=>?_];let u:=i9.same (ζ.upd (o:=.lst []) hp);let#[d8,dx,fs,a,g]:=u;f_are;show#[y,_,dx,fs,rfl,a,i,T.aml,(),?_]*>q _ (cQ.set d8 g)
def Cq(z:Str):Prop:=46∉z.cps.toList\/∃b w,z.cps.toList=b++46::w/\46∉w/\w≠(aM (ϒ b)).cps.toList
theorem aaL(s:List Nat)(a:x<9973)(f:y<9973):∀p:List Nat,ϒ (p++x::s)=ϒ (p++y::s)->x=y
 |[],h=>by
  let e:((x:Int)+137*ϒ s) % 9973=((y:Int)+137*ϒ s) % 9973:=h;omega+splitNatSub
 |c::p,h=>by
  let e:((c:Int)+137*ϒ (p++x::s)) % 9973=((c:Int)+137*ϒ (p++y::s)) % 9973:=h;let h1:=gk (p++x::s);let h2:=gk (p++y::s);show aaL s a f p (by omega+splitNatSub)
def adR(h:(aM (ϒ a)).cps.toList=(aM (ϒ b)).cps.toList):ϒ a=ϒ b:=by
 let c:=gk a;let e:=gk b;let#[m,em]:=aa4 c.1;let#[n,f]:=aa4 e.1;rw[em,f]at h⊢;let h1:=wj (n:=m) ();let h2:=wj (n:=n) ();unfold qb at h1 h2;simp only[aaK,decide_eq_true_eq]at h1 h2;let e1:=h1.2.2;let g:=h2.2.2;rw[h,g]at e1;rw[e1]
def yN(b:List Nat):46∉(aM (ϒ b)).cps.toList/\(aM (ϒ b)).cps.toList.length=4:=by
 let c:=gk b;let a:=vH (ϒ b);show#[a.1,a.2]
theorem V2:∀l:List Nat,46∉l\/∃b w,l=b++46::w/\46∉w
 |[]=>.inl (by simp)
 |c::l=>by
  obtain h|⟨b,w,e,h⟩:=V2 l
  .by_cases a:c=46
   .subst a;show .inr #[[],l,rfl,h]
   .show .inl λf=>?_
    obtain e|e:=aaF.1 f
    .show a e.symm
    .show h e
  .show .inr #[c::b,w,by rw[e];rfl,h]
def Y4(e:z.cps.toList=l++t)(c:46∉t)(g:5<=↥t):Cq z:=by
 obtain h|⟨b,w,f,h⟩:=V2 l
 .show .inl λa=>?_
  rw[e]at a;obtain q|q:=adi.1 a
  .show h q
  .show c q
 .show .inr #[b,w++t,by rw[e,f];simp,λa=>?_,λq=>?_]
  .obtain q|q:=adi.1 a
   .show h q
   .show c q
  .have :=congrArg alj q;rw[(yN b).2,abK]at this;omega
def aoC(n:B++46::(aM (ϒ B)).cps.toList=p++a::s)(e:z.cps.toList=p++x::s)(o:x<9973)(u:∀c∈B,c<9973)(ne:x≠a):Cq z:=by
 let#[i,l]:=yN B;obtain⟨as,e1,j⟩|⟨bs,e1,j⟩:=List.append_eq_append_iff.1 n
 .cases as with
  |nil=>
   let#[rfl,rfl]:=List.cons.inj j;show Y4 e (λf=>?_) (by simp[l]);obtain q|q:=aaF.1 f
   .show ne q.symm
   .show i q
  |cons c as=>
   let#[rfl,g]:=List.cons.inj j;let g:(aM (ϒ B)).cps.toList=as++a::s:=g;rw[e1]at e;by_cases m:x=46
   .subst m;show .inr #[B++46::as,s,by rw[e],λf=>i (by rw[g];simp[f]),λq=>?_];have:=congrArg alj q;let v:=congrArg alj g;rw[(yN _).2]at this;rw[l,abK,abU]at v;omega
   .show .inr #[B,as++x::s,by rw[e];simp,λf=>?_,λq=>?_]
    .obtain q|q:=adi.1 f
     .show i (by rw[g];simp[q])
     .obtain q|q:=aaF.1 q
      .show m q.symm
      .show i (by rw[g];simp[q])
    .rw[g]at q;show ne (List.cons.inj (List.append_cancel_left q)).1
 .cases bs with
  |nil=>
   let#[rfl,rfl]:=List.cons.inj j;show Y4 e (λf=>?_) (by simp[l]);obtain q|q:=aaF.1 f
   .show ne q.symm
   .show i q
  |cons c bs=>
   let#[rfl,rfl]:=List.cons.inj j;show .inr #[p++x::bs,_,by rw[e];simp,i,λq=>ne ?_];have:=adR q;rw[e1]at this;show(aaL bs (u a (by rw[e1];simp)) o p this).symm
inductive RQ(mg:MG):Sp
 |mk (a:δ) (z:Str):vs=[.ref a,.str z]->↥z<=100000->(∀c∈z.cps.toList,c<1114112)->Cq z->(∀H',ζ H H'->E (.ref (η mg "NoMark")) (none,true) H')
def akU:Def 3 "read_mark" ["columns","text"] (RQ mg):=by
 exists zT,BL,o,#[a,z,rfl,p,g,i,q],2,s.Hh,1,u ue;w_up;show fY ?_*>bA F.plainAttrs_str F.slot_str_rpartition F.type_str_rpartition (h:=?_)>>=ZG (c:=46) () λt l=>?_
 obtain i|⟨b,w,j,m,ne⟩:=i
 .rw[aif i];show EG _ _ _ _ (upd H t (.tup [.str ala,.str ala,.str z])) _*>aG (ρ.of ο) (Μ (Ε nd (Μ (Ε nd (Μ (Ε nd (aH ?_)))))));let e:ζ H (upd H t (.tup [.str ala,.str ala,.str z])):=ζ.upd l;generalize upd H t (.tup [.str ala,.str ala,.str z])=H1 at e⊢;w_up;show Δ ?_>>=Β (λ_=>?_) (λh=>absurd (by fin2) h);f_len;show nH Ο T.Xl ?_;cbv;show#[by rw[hsz];simp,q H1 e]
 .rw[Qa j m];let v:=_L.len_list z;let x:↥b<=100000:=by
   have:=congrArg alj j;rw[abK]at this;omega
  show EG _ _ _ _ (upd H t (.tup [.str #[b.toArray],.str #[#v[46]],.str #[w.toArray]])) _*>aG (ρ.of ο) (Μ (Ε nd (Μ (Ε nd (Μ (Ε nd (aH ?_)))))));let e:ζ H (upd H t (.tup [.str #[b.toArray],.str #[#v[46]],.str #[w.toArray]])):=ζ.upd l;generalize upd H t (.tup [.str #[b.toArray],.str #[#v[46]],.str #[w.toArray]])=H1 at e⊢;w_up;show Δ ?_>>=cA ?_>>=#[#[b.toArray],rfl,by show b.toArray.size<=_;simp;omega,λc n=>g c (by rw[j];show agF _ (~~~n)),?_];let f:(#[w.toArray]:Str)≠aM (ϒ (#[b.toArray]:Str).cps.toList):=λh=>ne (by rw[<-show(#[b.toArray]:Str).cps.toList=b from rfl, <-h])
  generalize aM (ϒ (#[b.toArray]:Str).cps.toList)=y at f⊢;lk;show gM (λ_=>?_) (λh=>absurd (V.str.inj h) f);f_len;show nH Ο T.Xl ?_;cbv;show#[by rw[hsz];simp,q H1 e]
def Lt(mg:MG)(B:Bk)(H:Hp)(E:XK):=∀e H',ζ H H'->H' e=↑(.xd [("now",.int B.now)])->E (.ref (η mg "Later")) (↑e,true) H'
def Br(z:Str):Prop:=Cq z/\↥z<=100000/\∀c∈z.cps.toList,c<1114112
inductive Q0(mg:MG):Sp
 |mk (A:BA) (B:Bk) (z:Str):vs=[.ref A.b,.str z]->dC mg H A B->((Br z/\gU mg H E "NoMark")\/∃M:Mk,z=aU M/\bu B.heads M/\(B.now<(M.moment:Nat)->Lt mg B H E)/\((M.moment:Nat)<=B.now->∀p o v H',ζ H H'->H' p=↑(.tup [.str (ύ M.living),.int M.moment,.ref o,.str M.sieve,v])->aW H' o M.os->dM H' v (.at_ M.cut.ahead M.cut.xs (M.cut.row:Nat))->Q (.ref p) H'))
def zj:Def 53 "read_good_mark" ["book","text"] (Q0 mg):=by
 show Γ (S:=Uc) T.zj (λf Ϲ A' outer s H vs Q E j h=>?_);intro X _;let#[A,B,z,rfl,l,q]:=h;let a:=l.bk;let nd:=Uc.nd;let M2:ϕ P w K mg base true 1 (cB mg) "moment" ["self"] (f9 mg Bk.now):=(vL T).meth T.ϓ T.vI;let C:ϕ P w K mg base true 1 (cB mg) "columns" ["self"] (cZ mg):=(pQ T).meth T.ϓ T.pM;obtain⟨⟨I,J,n⟩,q⟩|⟨M,rfl,L,O,q⟩:=q
 .let D1:= @akU P w K mg base T;k_go;show cN (pl:=_) j Ο ?_;f_are;show#[A.b,cB mg,A.dx,_,true,1,_,cZ mg,rfl,a.ins,by rfl,C,by decide,id,A,B,rfl,a,λc H1 u x D=>?_]>>=#[c,z,rfl,J,n,I,q.same u]
 .let D1:= @BL P w K mg base T;let#[m,hm,h5]:=l.nat;w_up;generalize R:aU M=z;f_tup;lk;show cN (pl:=_) j Ο ?_;f_are;show#[A.b,cB mg,A.dx,_,true,1,_,cZ mg,rfl,a.ins,by rfl,C,by decide,id,A,B,rfl,a,λc H1 u x D=>?_]>>=#[c,M,B.heads,by rw[R],D,l.ok,L,λp o F k v H2 U G QW W y Y Z hv _=>?_];let g:=u<|>U;w_up;show Δ ?_>>=ϋ (ρ.of G) (i:=1) rfl ?_>>=cN (pl:=_) j Ο ?_;f_are;show#[A.b,cB mg,A.dx,_,true,1,_,f9 mg Bk.now,rfl,(a.same g).ins,by rfl,M2,by decide,id,A,B,rfl,a.same g,?_]>>=Β (λh=>?_) (λh=>?_)
  .f_len;show rF (Pk T (cc:=true)) j (λ_=>rfl) Ο ?_>>=cN (pl:=_) j Ο ?_;f_are;show#[A.b,cB mg,A.dx,_,true,1,_,f9 mg Bk.now,rfl,(a.same g).ins,by rfl,M2,by decide,id,A,B,rfl,a.same g,?_]>>=#[B.now,rfl,(),λe H3 s3 he=>O h e H3 (g<|>s3) he]
  show Α ?_;symm;lk;show q () p o (.ref F) H2 g G W #[F,k,rfl,y,v,Y,hv]
def Ur(mg:MG)(B:Bk)(t:Tr)(z:Str)(n:Int)(H:Hp)(Q:VK)(E:XK):Prop:=(Br z/\gU mg H E "NoMark")\/∃lv mo os sd xs k,z=aU #[lv,mo,os,sT B.heads t,#[sd,Int.toNat k,xs]]/\lE B.heads os t mo/\iz B.heads os xs/\0<=k/\k<=1000000000/\(B.now<((mo:Nat):Int)->Lt mg B H E)/\(((mo:Nat):Int)<=B.now->wV mg B lv mo n H Q E)
inductive vN(K:ϩ)(mg:MG)(t:Tr):Sp
 |mk (A:BA) (B:Bk) (z:Str) (n:Int):vs=[.ref A.b,.str z,.int n]->dC mg H A B->H (b8 K "sorted_by")=↑(.tbl iK)->n.natAbs<10^60->Ur mg B t z n H Q E
def Hj(p:dH K mg base "sorted_by")(x:t.dep<=1):Def 54 "turn_forth" ["book","mark","size"] (vN K mg t):=by
 show Γ (N:=["book","mark","size"]) T.Hj (λf G I outer s H vs Q E J h=>?_);intro X _;let#[A,B,z,n,rfl,j,tb,y,q]:=h;let L:=!zj;let M:Def P w K mg base true 12 "leaf_from" ["book","mark","size","onward"] (rK K mg ↑t true):=qO T p (λu e=>by cases e;show x) true;symm;lk;show #[A,B,z,rfl,j,?_];obtain q|⟨lv,mo,os,sd,xs,k,C,c,l,k0,k1,D,q⟩:=q
 .show .inl q
 .show .inr #[_,C,c.good l k1,D,λa mk o v H1 g i F m=>?_];lk;rw[show(((#[lv,mo,os,sT B.heads t,#[sd,k.toNat,xs]]:Mk).cut.row:Nat):Int)=k from aql k0]at m;show#[A,B,mk,o,v,_,os,.at_ sd xs k,lv,mo,n,rfl,j.same g,i,F,m,.inr (.inr #[sd,xs,k,rfl,l,k0,k1]),#[rfl,c.gt,c.vf],g<*tb,a,y,c,(q a).same g]
def KN(p:dH K mg base "sorted_by")(x:t.dep<=1):Def 54 "turn_back" ["book","mark","size"] (vN K mg t):=by
 show Γ (N:=["book","mark","size"]) T.KN (λf G I outer s H vs Q E J h=>?_);intro X _;let#[A,B,z,n,rfl,j,tb,y,q]:=h;let L:=!zj;let M:Def P w K mg base true 12 "leaf_from" ["book","mark","size","onward"] (rK K mg ↑t false):=qO T p (λu e=>by cases e;show x) false;symm;lk;show #[A,B,z,rfl,j,?_];obtain q|⟨lv,mo,os,sd,xs,k,C,c,l,k0,k1,D,q⟩:=q
 .show .inl q
 .show .inr #[_,C,c.good l k1,D,λa mk o v H1 g i F m=>?_];lk;rw[show(((#[lv,mo,os,sT B.heads t,#[sd,k.toNat,xs]]:Mk).cut.row:Nat):Int)=k from aql k0]at m;show#[A,B,mk,o,v,_,os,.at_ sd xs k,lv,mo,n,rfl,j.same g,i,F,m,.inr (.inr #[sd,xs,k,rfl,l,k0,k1]),#[rfl,c.gt,c.vf],g<*tb,a,y,c,(q a).same g]
theorem JV{f:Str->δ}:∀{l:List Str},(l.map f).Nodup->∀x∈l,∀y∈l,f x=f y->x=y
 |a::l,h,x,hx,y,hy,e=>by
  let#[h1,h2]:=ahC.mp h;obtain ex|hx:=aaF.mp hx
  .obtain c|hy:=aaF.mp hy
   .rw[ex,c]
   .rw[ex]at e;show absurd (e▸ahF hy) h1
  .obtain c|hy:=aaF.mp hy
   .rw[c]at e;show absurd (e▸ahF hx) h1
   .show JV h2 x hx y hy e
def dI:List Str:=["NoColumns","NoValue","NoOrder","NoRow","NoMark","NoSize","NoLine","NoBook","NoSieve","NoPage","Twice","Absent","Gone","Later"]
def kO(T:Txt K mg)(a:x∈dI):XC K mg "LeafError" x:=by
 simp only[dI,aaF,aet,or_false]at a;obtain rfl|rfl|rfl|rfl|rfl|rfl|rfl|rfl|rfl|rfl|rfl|rfl|rfl|rfl:=a
 show T.adS*>T.akC*>T.akB*>T.afN*>T.adf*>T.ahR*>T.air*>T.agW*>T.aj2*>T.afD*>T.ad9*>T.anV*>T.agw*>T.afI
def oE(T:Txt K mg)(c:x∈dI)(a:y∈dI):apB K (.ref (η mg x)) (.ref (η mg y))=↑(decide (x=y)):=by
 let f:((("LeafError":Str)::dI).map (η mg)).Nodup:=T.adu;by_cases h:x=y
 .subst h;rw[alc (kO T c),decide_eq_true rfl]
 .rw[decide_eq_false h];show anu (kO T c) (kO T a) (λz=>h (JV f _ (aby _ c) _ (aby _ a) z)) (λz=>?_);let e:=JV f _ (abD ..) _ (aby _ a) z;rw[<-e]at a;show absurd a (by fin2)
theorem JC(T:Txt K mg)(a:x∈dI):∀ys:List Str,(∀y∈ys,y∈dI)->x∉ys->auu K (.ref (η mg x)) ((ys.map (η mg)).map Value.ref)=↑false
 |[],_,_=>rfl
 |y::ys,h,c=>by
  show auu K _ (Value.ref (η mg y)::(ys.map (η mg)).map Value.ref)=_;unfold auu;rw[oE T a (h y (abD ..)),decide_eq_false (λz=>c (by rw[z];show abD ..))];show JC T a ys (λz e=>h z (aby _ e)) λz=>c (aby _ z)
def nQ:List (Str×Str):=[("NoMark",ν "mark"),("NoOrder",ν "order"),("NoSize",ν "size")]
def rH:List (Str×Str×Str):=[("NoSieve","at",ν "sieve"),("Gone","known",ν "gone"),("Later","now",ν "later")]
inductive b7 (H:Hp):Str->Option δ->Str->Int->Prop
 |pl {x z:Str} (h:(x,z)∈nQ):b7 H x none z 0
 |num {x f z:Str} {E:δ} {n:Int} (h:(x,f,z)∈rH) (e:H E=↑(.xd [(f,.int n)])):b7 H x ↑E z n
def j5:List Str:=["NoMark","NoOrder","NoSize","NoSieve","Gone","Later"]
def b7.mem(h:b7 H x D z n):x∈j5:=by
 cases h with
 |pl h=>show(show ∀q∈nQ,q.1∈j5 by fin2) _ h
 |num h=>show(show ∀q∈rH,q.1∈j5 by fin2) _ h
def b7.fs(h:b7 H x D z n)(s:ζ H H'):∀a,D=↑a->∃fs,H' a=↑(.xd fs):=by
 cases h with
 |pl h=>show λa z=>nomatch z
 |num h e=>show λa z=>by cases z;show#[_,s<*e]
def b7.same(h:b7 H x D z n)(s:ζ H H'):b7 H' x D z n:=by
 cases h with
 |pl h=>show .pl h
 |num h e=>show .num h (s<*e)
def b7.word(h:b7 H x D z n)(e:nQ.lookup x=↑y)(c:∀q∈rH,q.1≠x):z=y/\n=0:=by
 cases h with
 |pl h=>show#[(show ∀q∈nQ,∀y,nQ.lookup q.1=↑y->q.2=y by intro q a y;simp only[nQ,aaF,aet,or_false]at a;obtain rfl|rfl|rfl:=a<;>show λe=>Option.some.inj e) _ h _ e,rfl]
 |num h=>show absurd rfl (c _ h)
def b7.field(h:b7 H x D z n)(e:∀q∈rH,q.1=x->q.2=(f,y))(a:∀q∈nQ,q.1≠x):∃E',D=↑E'/\H E'=↑(.xd [(f,.int n)])/\z=y:=by
 cases h with
 |pl h=>show absurd rfl (a _ h)
 |num h c=>
  let#[rfl,rfl]:=Prod.mk.inj (e _ h rfl);show#[_,rfl,c,rfl]
def fM(x z:Str)(n:Int)(l:List Str)(us:List V)(H:Hp):Prop:=(us=[]/\x∈l)\/∃tp,us=[V.ref tp]/\H tp=↑(.tup [.str z,.int n])/\x∉l
def fM.next(h:fM x z n (c::l) us H)(a:¬x=c):fM x z n l us H:=by
 obtain⟨h1,h2⟩|⟨tp,h1,h2,e⟩:=h
 .show .inl #[h1,(aaF.mp h2).resolve_left a]
 .show .inr #[tp,h1,h2,λz=>e (aby _ z)]
def fM.nil(h:fM x z n l us H)(a:x∈l):us=[]:=by
 obtain⟨h1,_⟩|⟨tp,_,_,c⟩:=h
 .show h1
 .show absurd a c
def fM.one(h:fM x z n [] us H):∃tp,us=[V.ref tp]/\H tp=↑(.tup [.str z,.int n]):=by
 obtain⟨_,h2⟩|⟨tp,h1,h2,_⟩:=h
 .cases h2
 .show#[tp,h1,h2]
def jT(H:Hp)(Q:VK)(z:Str)(n:Int):=∀p H',ζ H H'->H' p=↑(.tup [.str z,.int n])->Q (.ref p) H'
theorem jT.same(h:jT H Q z n)(s:ζ H H'):jT H' Q z n:=λp H2 a e=>h p H2 (s<|>a) e
def aas(mg:MG):Sp:=λvs H Q _=>(vs=[.non]/\jT H Q ("none":Str) 0)\/∃(e:δ)(x z:Str)(D:Option δ)(n:Int),vs=[.ref e]/\H e=↑(xw e (η mg x) D)/\b7 H x D z n/\jT H Q z n
def tO:Def 1 "_law_refusal" ["_law_caught"] (aas mg):=by
 show Γ (S:=Zi) T.tO (len:=(λvs H Q E h=>by obtain⟨rfl,_⟩|⟨e,x,z,D,n,rfl,_⟩:=h<;>rfl)) (λf _ A _ _ H vs Q E hr h=>?_);intro X _;let nd:=Zi.nd;let n1:=T.wN;let n2:=T.ali;let n3:=T.bj;let hsz:=Ϯ;let m:∀x∈dI,Gc mg x (.ref (η mg x)):=λx o=>#[_,(kO T o).at_,rfl]
 let aqy:=m "NoColumns" (by fin2);let ara:=m "NoValue" (by fin2);let aqb:=m "NoOrder" (by fin2);let arL:=m "NoRow" (by fin2);let apU:=m "NoMark" (by fin2);let aqE:=m "NoSize" (by fin2);let arX:=m "NoLine" (by fin2);let aqu:=m "NoBook" (by fin2);let aqr:=m "NoSieve" (by fin2);let ape:=m "NoPage" (by fin2);let ap5:=m "Twice" (by fin2);let arn:=m "Absent" (by fin2);let apb:=m "Gone" (by fin2);let aqg:=m "Later" (by fin2);obtain⟨rfl,q⟩|⟨e,x,z,D,n,rfl,s,l,q⟩:=h
 .w_up;show Δ ?_;lk;symm;lk;show #[ω,λp G=>q p _ (ζ.upd G) ο]
 let R:=l.mem;let o:x∈dI:=(show ∀q∈j5,q∈dI by fin2) _ R;let B:=(kO T o).attr;w_up;show Δ ?_>>=ags (by rfl) n2 ?_>>=mX B s (l.fs (ζ.refl _)) (u:=.type "ValueError") (λu z=>z) (ajO (kO T o)) ?_>>=Α ?_;k_go;show#[ω,λp G=>?_];let#[s0,e0,H,p,H0]:=Θ G (.lst []);let YF:∀(H1:Hp)(us:List V),ζ H H1->H1 p=↑(.lst us)->fM x z n [] us H1->Ζ X ((Ψ lq).drop 8) {nx:=λ_ H'=>Q .non H',rt:=Q} [↑(.ref e),↑(.ref p)] H1:=by
  intro H1 us a ep i;let#[tp,rfl,c]:=i.one;w_up;show Δ ?_>>=#[ω,λp1 U=>?_];let#[W,e1,H1,p1,H2]:=Θ U (.tup [V.ref (η mg "NoColumns"),V.ref (η mg "NoValue"),V.ref (η mg "NoRow"),V.ref (η mg "NoLine"),V.ref (η mg "NoBook")]);let Y:=a<|>W;lk;show Zj B (Y<*s) (l.fs Y) e1 (Hw ((["NoColumns","NoValue","NoRow","NoLine","NoBook"]:List Str).map (η mg))) (JC T o _ (by fin2) (λz=>(show ∀q∈j5,q∉(["NoColumns","NoValue","NoRow","NoLine","NoBook"]:List Str)by fin2) _ R z)) ?_>>=#[ω,λp2 Z=>?_];let#[s2,e2,H2,p2,H3]:=Θ Z (.tup [V.ref (η mg "NoPage"),V.ref (η mg "Twice"),V.ref (η mg "Absent")]);let XF:=Y<|>s2;lk;show Zj B (XF<*s) (l.fs XF) e2 (Hw ((["NoPage","Twice","Absent"]:List Str).map (η mg))) (JC T o _ (by fin2) (λz=>(show ∀q∈j5,q∉(["NoPage","Twice","Absent"]:List Str)by fin2) _ R z)) ?_>>=Α ?_;symm;let jA:=W<|>s2;let sq:θ K H3 p [.ref tp]:=θ.of (jA<*ep);lk;show cX ?_>>=ϐ sq (show Ι [V.ref tp] 0=↑(V.ref tp)from rfl) ?_*>q tp H3 (a<|>jA) (jA<*c)
 let I:∀(H1:Hp)(us:List V),ζ H H1->H1 p=↑(.lst us)->fM x z n ["Later"] us H1->Ζ X ((Ψ lq).drop 7) {nx:=λ_ H'=>Q .non H',rt:=Q} [↑(.ref e),↑(.ref p)] H1:=by
  intro H1 us a ep i;w_up;show Δ ?_>>=mX B (a<*s) (l.fs a) (λu z=>z) (oE T o (by fin2)) ?_>>=Β (λh=>?_) (λh=>Α (YF H1 us a ep (i.next h)));subst h;obtain rfl:=i.nil (abD ..);let#[E',rfl,J,rfl]:=l.field (f:="now") (y:=ν "later") (by fin2) (by fin2);f_len;show Ϛ (bA F.plainAttrs_list F.slot_list_append F.type_list_append (h:=?_));f_are;show#[.inl #[rfl,_,θ.of ep],?_]>>=Jx (e:=e) (C:=η mg "Later") (E':=E') (v:=.int n) (fs:=[("now",.int n)]) B T.ah7 (λu z=>by let#[t,rfl]:=z;rfl) ?_;f_are;show#[rfl,a<*s,a<*J,rfl,?_]>>=#[ω,λtp g=>?_];let#[st,c,H1,tp,H2]:=Θ g (.tup [.str ("later":Str),.int n]);lk;show dD iZ #[p,[],_,rfl,rfl,st<*ep,by show 0<_;omega,?_]*>YF _ _ (λb u j=>by rw[ι (Ω j G)];show(a<|>st) _ _ j) ο (.inr #[tp,rfl,by rw[ι (λz=>by rw[z,st<*ep]at c;cases c)];show c,by fin2])
 let vB:∀(H1:Hp)(us:List V),ζ H H1->H1 p=↑(.lst us)->fM x z n ["Gone","Later"] us H1->Ζ X ((Ψ lq).drop 6) {nx:=λ_ H'=>Q .non H',rt:=Q} [↑(.ref e),↑(.ref p)] H1:=by
  intro H1 us a ep i;w_up;show Δ ?_>>=mX B (a<*s) (l.fs a) (λu z=>z) (oE T o (by fin2)) ?_>>=Β (λh=>?_) (λh=>Α (I H1 us a ep (i.next h)));subst h;obtain rfl:=i.nil (abD ..);let#[E',rfl,J,rfl]:=l.field (f:="known") (y:=ν "gone") (by fin2) (by fin2);f_len;show Ϛ (bA F.plainAttrs_list F.slot_list_append F.type_list_append (h:=?_));f_are;show#[.inl #[rfl,_,θ.of ep],?_]>>=Jx (e:=e) (C:=η mg "Gone") (E':=E') (v:=.int n) (fs:=[("known",.int n)]) B T.ahm (λu z=>by let#[t,rfl]:=z;rfl) ?_;f_are;show#[rfl,a<*s,a<*J,rfl,?_]>>=#[ω,λtp g=>?_];let#[st,c,H1,tp,H2]:=Θ g (.tup [.str ("gone":Str),.int n]);lk;show dD iZ #[p,[],_,rfl,rfl,st<*ep,by show 0<_;omega,?_]*>I _ _ (λb u j=>by rw[ι (Ω j G)];show(a<|>st) _ _ j) ο (.inr #[tp,rfl,by rw[ι (λz=>by rw[z,st<*ep]at c;cases c)];show c,by fin2])
 let L:∀(H1:Hp)(us:List V),ζ H H1->H1 p=↑(.lst us)->fM x z n ["NoSieve","Gone","Later"] us H1->Ζ X ((Ψ lq).drop 5) {nx:=λ_ H'=>Q .non H',rt:=Q} [↑(.ref e),↑(.ref p)] H1:=by
  intro H1 us a ep i;w_up;show Δ ?_>>=mX B (a<*s) (l.fs a) (λu z=>z) (oE T o (by fin2)) ?_>>=Β (λh=>?_) (λh=>Α (vB H1 us a ep (i.next h)));subst h;obtain rfl:=i.nil (abD ..);let#[E',rfl,J,rfl]:=l.field (f:="at") (y:=ν "sieve") (by fin2) (by fin2);f_len;show Ϛ (bA F.plainAttrs_list F.slot_list_append F.type_list_append (h:=?_));f_are;show#[.inl #[rfl,_,θ.of ep],?_]>>=Jx (e:=e) (C:=η mg "NoSieve") (E':=E') (v:=.int n) (fs:=[("at",.int n)]) B T.akx (λu z=>by let#[t,rfl]:=z;rfl) ?_;f_are;show#[rfl,a<*s,a<*J,rfl,?_]>>=#[ω,λtp g=>?_];let#[st,c,H1,tp,H2]:=Θ g (.tup [.str ("sieve":Str),.int n]);lk;show dD iZ #[p,[],_,rfl,rfl,st<*ep,by show 0<_;omega,?_]*>vB _ _ (λb u j=>by rw[ι (Ω j G)];show(a<|>st) _ _ j) ο (.inr #[tp,rfl,by rw[ι (λz=>by rw[z,st<*ep]at c;cases c)];show c,by fin2])
 let M:∀(H1:Hp)(us:List V),ζ H H1->H1 p=↑(.lst us)->fM x z n ["NoSize","NoSieve","Gone","Later"] us H1->Ζ X ((Ψ lq).drop 4) {nx:=λ_ H'=>Q .non H',rt:=Q} [↑(.ref e),↑(.ref p)] H1:=by
  intro H1 us a ep i;w_up;show Δ ?_>>=mX B (a<*s) (l.fs a) (λu z=>z) (oE T o (by fin2)) ?_>>=Β (λh=>?_) (λh=>Α (L H1 us a ep (i.next h)));subst h;obtain rfl:=i.nil (abD ..);let#[rfl,rfl]:=l.word (y:=ν "size") (by fin2) (by fin2);f_len;show Ϛ (bA F.plainAttrs_list F.slot_list_append F.type_list_append (h:=?_));f_are;show#[.inl #[rfl,_,θ.of ep],?_]>>=#[ω,λtp g=>?_];let#[st,c,H1,tp,H2]:=Θ g (.tup [.str ("size":Str),.int 0]);lk;show dD iZ #[p,[],_,rfl,rfl,st<*ep,by show 0<_;omega,?_]*>L _ _ (λb u j=>by rw[ι (Ω j G)];show(a<|>st) _ _ j) ο (.inr #[tp,rfl,by rw[ι (λz=>by rw[z,st<*ep]at c;cases c)];show c,by fin2])
 let O:∀(H1:Hp)(us:List V),ζ H H1->H1 p=↑(.lst us)->fM x z n ["NoOrder","NoSize","NoSieve","Gone","Later"] us H1->Ζ X ((Ψ lq).drop 3) {nx:=λ_ H'=>Q .non H',rt:=Q} [↑(.ref e),↑(.ref p)] H1:=by
  intro H1 us a ep i;w_up;show Δ ?_>>=mX B (a<*s) (l.fs a) (λu z=>z) (oE T o (by fin2)) ?_>>=Β (λh=>?_) (λh=>Α (M H1 us a ep (i.next h)));subst h;obtain rfl:=i.nil (abD ..);let#[rfl,rfl]:=l.word (y:=ν "order") (by fin2) (by fin2);f_len;show Ϛ (bA F.plainAttrs_list F.slot_list_append F.type_list_append (h:=?_));f_are;show#[.inl #[rfl,_,θ.of ep],?_]>>=#[ω,λtp g=>?_];let#[st,c,H1,tp,H2]:=Θ g (.tup [.str ("order":Str),.int 0]);lk;show dD iZ #[p,[],_,rfl,rfl,st<*ep,by show 0<_;omega,?_]*>M _ _ (λb u j=>by rw[ι (Ω j G)];show(a<|>st) _ _ j) ο (.inr #[tp,rfl,by rw[ι (λz=>by rw[z,st<*ep]at c;cases c)];show c,by fin2])
 let aa:∀(H1:Hp)(us:List V),ζ H H1->H1 p=↑(.lst us)->fM x z n ["NoMark","NoOrder","NoSize","NoSieve","Gone","Later"] us H1->Ζ X ((Ψ lq).drop 2) {nx:=λ_ H'=>Q .non H',rt:=Q} [↑(.ref e),↑(.ref p)] H1:=by
  intro H1 us a ep i;w_up;show Δ ?_>>=mX B (a<*s) (l.fs a) (λu z=>z) (oE T o (by fin2)) ?_>>=Β (λh=>?_) (λh=>Α (O H1 us a ep (i.next h)));subst h;obtain rfl:=i.nil (abD ..);let#[rfl,rfl]:=l.word (y:=ν "mark") (by fin2) (by fin2);f_len;show Ϛ (bA F.plainAttrs_list F.slot_list_append F.type_list_append (h:=?_));f_are;show#[.inl #[rfl,_,θ.of ep],?_]>>=#[ω,λtp g=>?_];let#[st,c,H1,tp,H2]:=Θ g (.tup [.str ("mark":Str),.int 0]);lk;show dD iZ #[p,[],_,rfl,rfl,st<*ep,by show 0<_;omega,?_]*>O _ _ (λb u j=>by rw[ι (Ω j G)];show(a<|>st) _ _ j) ο (.inr #[tp,rfl,by rw[ι (λz=>by rw[z,st<*ep]at c;cases c)];show c,by fin2])
 show aa H0 [] s0 e0 (.inl #[rfl,R])
end
end _K
namespace _K
open PySem _L PyProof.Rows _M _V _W
section
variable{P:ϱ}{w:ϭ}{K:ϩ}{mg:MG}{base:ϫ}
def Ϝ(bo bs:Bool)(sz:Option Int):Str×Int:=if bo=true then(ν "order",0)else if bs=true then(ν "sieve",1)else match sz with
 |some n=>if 1<=n/\n<=100 then(ν "none",0)else(ν "size",0)
 |none=>(ν "none",0)
structure gW(B:Bk)(zo:Str)(o:Option Tr)(bo bs:Bool):Prop where
 bo:bx B.heads zo=none↔bo=true
 bs:o=none↔bs=true
section
variable{H:Hp}{B:Bk}{zo:Str}{o:Option Tr}{bo bs:Bool}
theorem gW.o1(h:gW B zo o bo bs)(e:bx B.heads zo=none):Ϝ bo bs sz=(ν "order",0):=if_pos (h.bo.mp e)
def gW.o2(h:gW B zo o bo bs)(e:bx B.heads zo≠none)(a:o=none):Ϝ bo bs sz=(ν "sieve",1):=by
 unfold Ϝ;rw[if_neg (λz=>e (h.bo.mpr z)),if_pos (h.bs.mp a)]
def gW.o3(h:gW B zo o bo bs)(e:bx B.heads zo≠none)(a:o≠none)(c:¬sizeOk n):Ϝ bo bs ↑n=(ν "size",0):=by
 unfold Ϝ;rw[if_neg (λz=>e (h.bo.mpr z)),if_neg (λz=>a (h.bs.mpr z))];show if_neg c
def gW.o4(h:gW B zo o bo bs)(e:bx B.heads zo≠none)(a:o≠none)(c:∀n,sz=↑n->sizeOk n):Ϝ bo bs sz=(ν "none",0):=by
 unfold Ϝ;rw[if_neg (λz=>e (h.bo.mpr z)),if_neg (λz=>a (h.bs.mpr z))];cases sz with
 |none=>rfl
 |some n=>show if_pos (c n rfl)
def Qh(mg:MG)(H:Hp)(d:Str×Int)(E:XK):=∀x u H',ζ H H'->b7 H' x u.1 d.1 d.2->E (.ref (η mg x)) u H'
def wA(h:gW B zo o bo bs)(c:Qh mg H (Ϝ bo bs sz) E)(g:Ϝ bo bs sz=(ν "none",0)->mQ H Q):rE mg B zo o sz H Q E:=by
 show#[λe H' s=>c "NoOrder" _ H' s ?_,λe=>#[λa ex b H' s i=>c "NoSieve" _ H' s ?_,λa=>?_]]
 .rw[h.o1 e];show .pl (by fin2)
 .rw[h.o2 e a];show .num (by fin2) i
 .cases sz with
  |none=>show g (h.o4 e a λn z=>by cases z)
  |some n=>
   show#[λf H' s=>c "NoSize" _ H' s ?_,λf=>g (h.o4 e a λn z=>by cases z;show f)];rw[h.o3 e a f];show .pl (by fin2)
end
inductive Gi(K:ϩ)(mg:MG)(o:Option Tr):Sp
 |mk (way:Nat) (A:BA) (B:Bk) (lv:Bool) (tl:δ) (zo z:Str) (n:Int) (bo bs:Bool):vs=[.int (way:Nat),.ref A.b,.str (ύ lv),.ref tl,.int n]->way<=4->H tl=↑(.lst [.str zo,.str z])->ig K mg H A B zo z o->n.natAbs<10^60->gW B zo o bo bs->jT H Q (Ϝ bo bs (if way=4 then none else some n)).1 (Ϝ bo bs (if way=4 then none else some n)).2
def Ih(G:dH K mg base "sorted_by")(p:iJ o):Def 14 "_law_asked" ["_law_way","_law_book","_law_make","_law_texts_here","_law_size_here"] (Gi K mg o):=by
 show Γ (S:=Xw) T.Ih (λf Ϲ A' outer s H vs Q E U h=>?_);intro X _;let#[a,A,B,lv,tl,zo,z,n,bo,bs,rfl,w4,I,m,C,hd,q]:=h;let nd:=Xw.nd;let W:=m.bk;let aa2:Gc mg "LeafError" (.ref (η mg "LeafError")):=#[_,T.Gr,rfl];let D0:Def P w K mg base true 13 "first_leaf" ["book","make","order","sieve","size"] (vo K mg o):=JR T G p;let D1:Def P w K mg base true 13 "last_leaf" ["book","make","order","sieve","size"] (vo K mg o):=Ea T G p;let D2:Def P w K mg base true 12 "leaf_by_place" ["book","order","sieve","size","number"] (Eh K mg o):=Lp T G p;let D4:Def P w K mg base true 12 "stood" ["book","order","sieve","moment"] (DY K mg o):=K3 T p;let D5:=!tO;let MT:=(amT (P:=P) (w:=w) (base:=base) T p).make T.ac3 T.aeZ;let M2:ϕ P w K mg base true 1 (cB mg) "moment" ["self"] (f9 mg Bk.now):=(vL T).meth T.ϓ T.vI;let i:θ K H tl [.str zo,.str z]:=θ.of I;k_go;w_up;generalize g:Ϝ bo bs (if a=4 then none else some n)=j at q;show xf (λσ c u H'=>σ=[↑(.int (a:Nat)),↑(.ref A.b),↑(.str (ύ lv)),↑(.ref tl),↑(.int n),↑.non,none]/\ζ H H'/\∃x,c=.ref (η mg x)/\b7 H' x u.1 j.1 j.2) rfl rfl (λF pn xo po=>?_) (λσ c u H' hK=>?_)
 .let fin:∀H',ζ H H'->j=(ν "none",0)->Ζ X ((Ψ CW).drop 2) {nx:=λ_ H'=>Q .non H',rt:=Q} [↑(.int (a:Nat)),↑(.ref A.b),↑(.str (ύ lv)),↑(.ref tl),↑(.int n),↑.non,none] H':=by
   intro H' s' e;symm;lk;show .inl #[rfl,?_];rw[e]at q;show q.same s'
  f_len;show Δ ?_>>=Β (λh=>?_) (λh0=>?_)
  .obtain rfl:a=0:=by have:=V.int.inj h;omega
   f_len;show Ϛ ?_>>=ϐ i (show Ι [V.str zo,V.str z] 0=↑(V.str zo)from rfl) ?_>>=ϐ i (show Ι [V.str zo,V.str z] 1=↑(V.str z)from rfl) ?_>>=#[A,B,lv,zo,z,n,rfl,m,C,wA hd (λx u H' s' w=>#[rfl,s',x,rfl,by rw[<-g];show w]) λe v H' s'=>Α (fin H' s' (by rw[<-g];show e))]
  f_len;show Δ ?_>>=Β (λh=>?_) (λh1=>?_)
  .obtain rfl:a=1:=by have:=V.int.inj h;omega
   f_len;show Ϛ ?_>>=ϐ i (show Ι [V.str zo,V.str z] 0=↑(V.str zo)from rfl) ?_>>=ϐ i (show Ι [V.str zo,V.str z] 1=↑(V.str z)from rfl) ?_>>=#[A,B,lv,zo,z,n,rfl,m,C,wA hd (λx u H' s' w=>#[rfl,s',x,rfl,by rw[<-g];show w]) λe v H' s'=>Α (fin H' s' (by rw[<-g];show e))]
  f_len;show Δ ?_>>=Β (λh=>?_) (λh2=>?_)
  .obtain rfl:a=2:=by have:=V.int.inj h;omega
   f_len;show Ϛ ?_>>=ϐ i (show Ι [V.str zo,V.str z] 0=↑(V.str zo)from rfl) ?_>>=ϐ i (show Ι [V.str zo,V.str z] 1=↑(V.str z)from rfl) ?_>>=#[A,B,zo,z,n,rfl,m,C,wA hd (λx u H' s' w=>#[rfl,s',x,rfl,by rw[<-g];show w]) λe v H' s'=>Α (fin H' s' (by rw[<-g];show e))]
  f_len;show Δ ?_>>=Β (λh=>?_) (λh3=>?_)
  .obtain rfl:a=3:=by have:=V.int.inj h;omega
   f_len;show Ϛ ?_*>mj MT U (by decide) (λ_=>rfl) (by walk_at"xo") ?_>>=ϐ i (show Ι [V.str zo,V.str z] 0=↑(V.str zo)from rfl) ?_>>=ϐ i (show Ι [V.str zo,V.str z] 1=↑(V.str z)from rfl) ?_;lk;intro y dx J l Ϻ;let L:ζ H (upd (upd H dx (.own y)) y (.ins (η mg "Turner") dx [])):=λb u e=>by
    rw[ι (λz=>by rw[z,J]at e;cases e),ι (λz=>by rw[z,l]at e;cases e)];show e
   have⟨q1,q2⟩:rE mg B zo o ↑n H (λ_ H'=>Ζ X ((Ψ CW).drop 2) {nx:=λ_ H'=>Q .non H',rt:=Q} [↑(.int ((3:Nat):Int)),↑(.ref A.b),↑(.str (ύ lv)),↑(.ref tl),↑(.int n),↑.non,none] H') (λc u H'=>ζ H H'/\∃x,c=.ref (η mg x)/\b7 H' x u.1 j.1 j.2):=wA hd (λx u H' s' w=>#[s',x,rfl,by rw[<-g];show w]) λe v H' s'=>fin H' s' (by rw[<-g];show e)
   show#[y,dx,A,B,lv,_,zo,z,n,rfl,ο,m.same L,C,λe H' s'=>#[rfl,q1 e H' (L<|>s')],λe=>#[λD ex b H' s' M=>#[rfl,(q2 e).1 D ex b H' (L<|>s') M],λD=>#[λO H1 hi H' s'=>#[rfl,((q2 e).2 D).1 O H' ((Vh J l hi)<|>s')],λO H1 hi=>#[rfl,Α (((q2 e).2 D).2 O .non H1 (Vh J l hi))]]]]
  obtain rfl:a=4:=by
   let a0:a≠0:=λe=>h0 (by rw[e];rfl)
   let a1:a≠1:=λe=>h1 (by rw[e];rfl)
   let a2:a≠2:=λe=>h2 (by rw[e];rfl)
   let a3:a≠3:=λe=>h3 (by rw[e];rfl)
   omega
  f_len;show Ϛ ?_>>=ϐ i (show Ι [V.str zo,V.str z] 0=↑(V.str zo)from rfl) ?_>>=ϐ i (show Ι [V.str zo,V.str z] 1=↑(V.str z)from rfl) ?_>>=cN (pl:=_) U (by walk_at"xo") ?_;f_are;show#[A.b,cB mg,A.dx,_,true,1,_,f9 mg Bk.now,rfl,W.bk.ins,by rfl,M2,by decide,id,A,B,rfl,W.bk,?_]>>=#[A,B,zo,z,rfl,m,wA hd (λx u H' s' w=>#[rfl,s',x,rfl,by rw[<-g];show w]) λe v H' s'=>Α (fin H' s' (by rw[<-g];show e))]
 .let#[rfl,sm,x,rfl,Y]:=hK;let hx:x∈dI:=(show ∀q∈j5,q∈dI by fin2) _ Y.mem;show GK nd T.kZ.at_ (Ir (kO T hx) T.kZ) (λe pn M=>?_);let Z:(upd H' e (xw e (η mg x) u.1)) e=↑(xw e (η mg x) u.1):=ο;let R:ζ H' (upd H' e (xw e (η mg x) u.1)):=ζ.upd M;generalize upd H' e (xw e (η mg x) u.1)=Hu at Z R⊢;f_len;f_tup;lk;show Ζ _ _ _ [↑(.int (a:Nat)),↑(.ref A.b),↑(.str (ύ lv)),↑(.ref tl),↑(.int n),↑(.ref e),none] Hu;symm;lk;show .inr #[e,x,j.1,u.1,j.2,rfl,Z,Y.same R,q.same (sm<|>R)]
end
end _K
namespace _K
open PySem _L PyProof.Rows _M _V _W
section
variable{P:ϱ}{w:ϭ}{K:ϩ}{mg:MG}{base:ϫ}
def kY(st:Bool):Str:=if st=true then ν "start" else ν "end"
inductive Zy(mg:MG):Sp
 |mk (A:BA) (B:Bk) (n:Int) (st on:Bool):vs=[.ref A.b,.int n,.str (kY st),.bl on]->dC mg H A B->n.natAbs<10^60->jT H Q (Ϝ false false ↑n).1 (Ϝ false false ↑n).2
def Jf:Def 6 "_law_cut" ["_law_book","_law_size_here","_law_cut_here","_law_forth"] (Zy mg):=by
 show Γ (S:=aa7) T.Jf (λf Ϲ A' outer s H vs Q E D h=>?_);intro X _;let#[A,B,n,st,R,rfl,m,ha,q]:=h;let nd:=aa7.nd;let G:=m.bk;let hsz:=Ϯ;let aa2:Gc mg "LeafError" (.ref (η mg "LeafError")):=#[_,T.Gr,rfl];let D1:=!Ax;let D2:=!Ck;let D5:=!tO;let M1:ϕ P w K mg base true 2 (cB mg) "now_rows" ["self"] (jZ mg):=(G8 T).meth T.ϓ T.Gx;let M3:ϕ P w K mg base true 1 (cB mg) "columns" ["self"] (cZ mg):=(pQ T).meth T.ϓ T.pM;k_go;w_up;f_tup;show cN (pl:=_) D Ο ?_;f_are;show#[A.b,cB mg,A.dx,_,true,2,_,jZ mg,rfl,G.ins,by rfl,M1,by decide,id,A,B,rfl,G,m.r1,λp1 ys ks H1 I hp1 J W pq Y=>?_];let L:=Aw m.nd J;let d7:cG H1 p1 (aX B.rows ks):=#[ys,pq,Y.imp λu r z=>by
  let#[t,l,e,h1,h2,_]:=z;show#[t,l,e,h1,h2]]
 let a:∀r∈aX B.rows ks,ao B.heads r:=λr D=>(m.fit r (L.mem_iff.mp D)).1
 let jq:↥(aX B.rows ks)<64:=by
  have:=L.length_eq;have:=m.r1;omega
 let#[c1,c6]:=jQ m.ok;let yL:qX B.heads [] (aX B.rows ks):=#[#[c1,c6],by decide,(λo ho=>by cases ho),a,()];generalize M:Ϝ false false ↑n=p at q;let fin:∀(Hx:Hp)(v:V),ζ H1 Hx->(∀H2,ζ Hx H2->aas mg [v] H2 Q E)->Ζ X ((Ψ Bh).drop 3) {nx:=λ_ H'=>Q .non H',rt:=Q} [↑(.ref A.b),↑(.int n),↑(.str (kY st)),↑(.bl R),↑v,↑(.ref p1),none] Hx:=by
  intro Hx v sx hq;let Oa:=I<|>sx;symm;lk;show cN (pl:=_) D Ο ?_;f_are;show#[A.b,cB mg,A.dx,_,true,2,_,jZ mg,rfl,(G.same Oa).ins,by rfl,M1,by decide,id,A,B,rfl,G.same Oa,m.r1,λp2 Jq Z H2 g hp2 aa ab O K4=>?_];let Xk:cG H2 p2 (aX B.rows Z):=#[Jq,O,K4.imp λu r z=>by
   let#[t,l,e,h1,h2,_]:=z;show#[t,l,e,h1,h2]]
  rw[<-aiH (k1:=ks) m.nd m.nd (λ_=>rfl) J aa W ab]at Xk;show abu D.units (Jo (d7.same (sx<|>g)) a) (Jo Xk a) (uU a) (uU a) (RZ _) ?_;rw[SeqAt.eqv_refl _ (uU a)];lk;show hq H2 g
 w_up;show xf (λσ c u H'=>σ=[↑(.ref A.b),↑(.int n),↑(.str (kY st)),↑(.bl R),↑.non,↑(.ref p1),none]/\ζ H1 H'/\∃x,c=.ref (η mg x)/\b7 H' x u.1 p.1 p.2) rfl rfl (λF pn xo po=>?_) (λσ c u H' hK=>?_)
 .let no:∀{H':Hp},¬sizeOk n->b7 H' "NoSize" none p.1 p.2:=λC=>by
   rw[show p=(ν "size",0)by rw[<-M];show if_neg C];show .pl (by fin2)
  let yes:sizeOk n->∀H',ζ H1 H'->Ζ X ((Ψ Bh).drop 3) {nx:=λ_ H'=>Q .non H',rt:=Q} [↑(.ref A.b),↑(.int n),↑(.str (kY st)),↑(.bl R),↑.non,↑(.ref p1),none] H':=λC H' s'=>fin H' .non s' λH2 g=>.inl #[rfl,by
   rw[show p=(ν "none",0)by rw[<-M];show if_pos C]at q;show q.same ((I<|>s')<|>g)]
  f_len;show Δ ?_;lk;cases R
  all_goals
   lk;f_len;show Ϛ ?_>>=cN (pl:=_) D (by walk_at"xo") ?_;f_are;show#[A.b,cB mg,A.dx,_,true,1,_,cZ mg,rfl,(G.same I).ins,by rfl,M3,by decide,id,A,B,rfl,G.same I,λc H2 g hc0 hC=>?_]>>=#[ω,λb hb=>?_];let#[s3,e3,H2,b,H3]:=Θ hb (.lst []);lk;show#[ω,λt ht=>?_];let#[U,e4,H3,t,H4]:=Θ ht (.tup [.str (kY st)]);let jR:=(g<|>s3)<|>U;lk;show#[c,b,p1,.ref t,B.heads,[],_,if st=true then .start else .fin,n,rfl,hC.same (s3<|>U),#[[],U<*e3,.nil],d7.same jR,?_,yL,by cases st<;>trivial,ha,λC H' s'=>#[rfl,jR<|>s',_,rfl,no C],λC i j _ t4 q0 us x y H5 s5 _ _ _ _ _ _=>Α (yes C H5 (jR<|>s5))];cases st<;>show#[t,rfl,e4]
 .let#[rfl,sm,x,rfl,hw]:=hK;let hx:x∈dI:=(show ∀q∈j5,q∈dI by fin2) _ hw.mem;show GK nd T.kZ.at_ (Ir (kO T hx) T.kZ) (λe pn he=>?_);let bV:(upd H' e (xw e (η mg x) u.1)) e=↑(xw e (η mg x) u.1):=ο;let iW:ζ H' (upd H' e (xw e (η mg x) u.1)):=ζ.upd he;generalize upd H' e (xw e (η mg x) u.1)=Hu at bV iW⊢;f_len;f_tup;lk;let Τ :=sm<|>iW;show fin Hu (.ref e) Τ λH2 g=>.inr #[e,x,p.1,u.1,p.2,rfl,g<*bV,(hw.same iW).same g,q.same ((I<|>Τ)<|>g)]
def ie(B:Bk)(lv:Bool)(mo n:Int):Str×Int:=if B.now<mo then(ν "later",B.now)else if lv=false/\mo<B.known then(ν "gone",B.known)else Ϝ false false ↑n
def uA(B:Bk)(t:Tr)(z:Str)(n:Int)(d:Str×Int):Prop:=(Br z/\d=(ν "mark",0))\/∃lv mo os sd xs k,z=aU #[lv,mo,os,sT B.heads t,#[sd,Int.toNat k,xs]]/\lE B.heads os t mo/\iz B.heads os xs/\0<=k/\k<=1000000000/\d=ie B lv mo n
def agL(h:uA B t z n d)(a:Qh mg H d E)(g:d=(ν "none",0)->mQ H Q):Ur mg B t z n H Q E:=by
 obtain⟨i,rfl⟩|⟨lv,mo,os,sd,xs,k,j,l,m,k0,k1,rfl⟩:=h
 .show .inl #[i,λH' s=>a "NoMark" _ H' s (.pl (by fin2))]
 .show .inr #[lv,mo,os,sd,xs,k,j,l,m,k0,k1,λo e H' s c=>a "Later" _ H' s ?_,λp=>#[λh1 h2 e H' s c=>a "Gone" _ H' s ?_,λh1=>#[λf H' s=>a "NoSize" _ H' s ?_,λf=>g ?_]]]
  .rw[show ie B lv mo n=(ν "later",B.now)from if_pos o];show .num (show(("Later":Str),("now":Str),ν "later")∈rH by fin2) c
  .rw[show ie B lv mo n=(ν "gone",B.known)by unfold ie;rw[if_neg (),if_pos #[h1,h2]]];show .num (show(("Gone":Str),("known":Str),ν "gone")∈rH by fin2) c
  .rw[show ie B lv mo n=(ν "size",0)by unfold ie;rw[if_neg (),if_neg (λz=>absurd (h1 z.1) ())];show if_neg f];show .pl (by fin2)
  .unfold ie;rw[if_neg (),if_neg (λz=>absurd (h1 z.1) ())];show if_pos f
inductive KJ(K:ϩ)(mg:MG)(t:Tr):Sp
 |mk (A:BA) (B:Bk) (z:Str) (n:Int) (on:Bool) (d:Str×Int):vs=[.ref A.b,.str z,.int n,.bl on]->dC mg H A B->H (b8 K "sorted_by")=↑(.tbl iK)->n.natAbs<10^60->uA B t z n d->jT H Q d.1 d.2
def GD(i:dH K mg base "sorted_by")(j:t.dep<=1):Def 55 "_law_turned" ["_law_book","_law_mark_here","_law_size_here","_law_forth"] (KJ K mg t):=by
 show Γ (S:=ZW) T.GD (λf L M outer s H vs Q E O h=>?_);intro X _;let#[A,B,z,n,a,d,rfl,o,tb,p,hd,q]:=h;let nd:=ZW.nd;let y:Gc mg "LeafError" (.ref (η mg "LeafError")):=#[_,T.Gr,rfl];let R:Def P w K mg base true 54 "turn_forth" ["book","mark","size"] (vN K mg t):=Hj T i j;let U:Def P w K mg base true 54 "turn_back" ["book","mark","size"] (vN K mg t):=KN T i j;let W:=!tO;k_go;w_up;show xf (λσ c u H'=>σ=[↑(.ref A.b),↑(.str z),↑(.int n),↑(.bl a),↑.non,none]/\ζ H H'/\∃x,c=.ref (η mg x)/\b7 H' x u.1 d.1 d.2) rfl rfl (λF pn xo po=>?_) (λσ c u H' C=>?_)
 .let fin:∀H',ζ H H'->d=(ν "none",0)->Ζ X ((Ψ Gq).drop 2) {nx:=λ_ H'=>Q .non H',rt:=Q} [↑(.ref A.b),↑(.str z),↑(.int n),↑(.bl a),↑.non,none] H':=by
   intro H' s' e;symm;lk;show .inl #[rfl,?_];rw[e]at q;show q.same s'
  f_len;show Δ ?_;lk;cases a
  all_goals
   lk;f_len;show Ϛ ?_>>=#[A,B,z,n,rfl,o,tb,p,agL hd (λx u H' s' w=>#[rfl,s',x,rfl,w]) λe v H' s'=>Α (fin H' s' e)]
 .let#[rfl,D,x,rfl,l]:=C;let G:x∈dI:=(show ∀q∈j5,q∈dI by fin2) _ l.mem;show GK nd T.kZ.at_ (Ir (kO T G) T.kZ) (λe pn I=>?_);let m:(upd H' e (xw e (η mg x) u.1)) e=↑(xw e (η mg x) u.1):=ο;let g:ζ H' (upd H' e (xw e (η mg x) u.1)):=ζ.upd I;generalize upd H' e (xw e (η mg x) u.1)=J at m g⊢;f_len;f_tup;lk;show Ζ _ _ _ [↑(.ref A.b),↑(.str z),↑(.int n),↑(.bl a),↑(.ref e),none] J;symm;lk;show .inr #[e,x,d.1,u.1,d.2,rfl,m,l.same g,q.same (D<|>g)]
inductive Wf(K:ϩ):Sp
 |mk (a:δ) (ns:List Int):vs=[.ref a]->θ K H a (ns.map V.int)->↥ns<=63->(∀(n:Int) H',ζ H H'->n.natAbs<10^60->Q (.int n) H')
def Eu:Def 2 "_law_size" ["_law_script"] (Wf K):=by
 exists PB,Eu,B,#[a,ns,rfl,e,f,q],2,C.bj,1;let i:↥(ns.map V.int)=↥ns:=aau ..;let D:=!gD;let tail:∀(cell:Int),Ζ X ((Ψ Fi).drop 1) {nx:=λ_ H'=>Q .non H',rt:=Q} [↑(.ref a),↑(.int cell)] H:=by
  intro cell;w_up;show Δ ?_>>=#[a,ns,17,2,rfl,e,f,by decide,by decide,by decide,?_];generalize Υ ns 17 2=n;lk;show Β (λ_=>?_) (λ_=>?_)
  .f_len;show ψ ?_>>=#[a,ns,18,100,rfl,e,f,by decide,by decide,by decide,?_];let j:=aD ns 18 (m:=100) (by decide);let c1:=aA ns 18 (m:=100) (by decide);lk;show q _ H (ζ.refl _) ()
  .show Α ?_;symm;lk;show #[ω,λp o=>?_];let s:=ahe cell (b:=10^50) (by decide);let u:=agE cell (b:=10^50) (by decide);change EV _ _ _ (upd H p (.lst ([0, -1,101,101+cell % 10^50, -1-cell % 10^50].map V.int))) _;generalize cell % 10^50=c at s u⊢;let#[g,ep,H,p,H2]:=Θ o (.lst ([0, -1,101,101+c, -1-c].map V.int));lk;show#[a,ns,18,5,rfl,g.seq e,f,by decide,by decide,by decide,?_];let j:=aD ns 18 (m:=5) (by decide);let c1:=aA ns 18 (m:=5) (by decide);let#[v,e1,x]:=nj (xs:=[0, -1,101,101+c, -1-c].map V.int) j (by show _<(5:Int);omega);show ϐ (θ.of ep) e1 ?_;let#[z,l,rfl]:=abz.mp x;simp only[aaF,aet,or_false]at l;show q z H2 g (by obtain rfl|rfl|rfl|rfl|rfl:=l<;>omega)
 k_go;rw[i];show Β (λy=>?_) (λy=>?_)
 .lk;rw[i];lk;show ϐ e (Hs 0 (ahe _ ()) (agE _ ())) ?_*>tail _
 .lk;show tail _
inductive O1(K:ϩ):Sp
 |mk (a:δ) (ns:List Int) (v:V) (n:Int):vs=[.ref a,v,.int n]->θ K H a (ns.map V.int)->↥ns<=63->jT H Q (Ϝ (decide (Υ ns 13 4=0)) (decide (Υ ns 14 4=0)) ↑n).1 (Ϝ (decide (Υ ns 13 4=0)) (decide (Υ ns 14 4=0)) ↑n).2
def Gz:Def 2 "_law_begin_due" ["_law_script","_law_order_here","_law_size_here"] (O1 K):=by
 exists ["_law_script","_law_order_here","_law_size_here"],Gz,i,#[a,ns,v,n,rfl,e,f,q],1,j gD;w_up;show Δ ?_>>=#[a,ns,13,4,rfl,e,f,by decide,by decide,by decide,?_];generalize Υ ns 13 4=d1 at q⊢;lk;show Β (λh=>?_) (λh=>?_)
 .rw[decide_eq_true (V.int.inj h)]at q;symm;lk;show #[ω,λp c=>q p _ (ζ.upd c) ο]
 rw[decide_eq_false (λz=>h (by rw[z]))]at q;show Α ?_;w_up;show Δ ?_>>=#[a,ns,14,4,rfl,e,f,by decide,by decide,by decide,?_];generalize Υ ns 14 4=l at q⊢;lk;show Β (λh=>?_) (λh=>?_)
 .rw[decide_eq_true (V.int.inj h)]at q;symm;lk;show #[ω,λp c=>q p _ (ζ.upd c) ο]
 rw[decide_eq_false (λz=>h (by rw[z]))]at q;show Α ?_;symm;let yes:sizeOk n->Ϝ false false ↑n=(ν "none",0):=λh=>if_pos h
 let g:¬sizeOk n->Ϝ false false ↑n=(ν "size",0):=λh=>if_neg h
 lk;show Β (λh=>?_) (λh1=>?_)
 .rw[g λz=>absurd z.1 ()]at q;lk;show#[ω,λp c=>q p _ (ζ.upd c) ο]
 lk;show Β (λh=>?_) (λh2=>?_)
 .rw[g λz=>absurd z.2 ()]at q;lk;show#[ω,λp c=>q p _ (ζ.upd c) ο]
 rw[yes #[(),()]]at q;lk;show#[ω,λp c=>q p _ (ζ.upd c) ο]
def anU(g:Ρ cs=true){os:List Ord}(a:fQ cs os)(l:↥os<=4):↥(cO os)<=100:=by
 let h1:=j9 (os.map Ϟ) 9 λp i=>by
  let#[o,j,rfl]:=abz.mp i;let#[c,f,e]:=a o j;have:=lQ (gH g (z:=o.1) (abz.mpr #[c,f,e]));let m:↥("+":Str)=1:=by fin2
  let n:↥("-":Str)=1:=by fin2
  unfold Ϟ;rw[len_app];split <;>omega
 let h2:=j4 (os.map Ϟ);rw[aau]at h1 h2;unfold cO;omega
theorem aoK(i:Ρ cs=true){os:List Ord}(a:fQ cs os)(j:↥os<=4)(f:(os.map Prod.fst).Nodup):bx cs (cO os)=↑os:=Vx j f a λo l m=>by
 let#[c,g,e]:=a o l;let f:=gH i (z:=o.1) (abz.mpr #[c,g,e]);unfold isName dZ at f;rw[aaK,acE]at f;show absurd (of_decide_eq_true (f.2 32 m)) (by fin2)
theorem Xq:∀{t:Tr},mV t->↥(wT (Ξ cs) t)<=60/\t.dep<=1
 |.one .all,_=>#[by show 1<=60;decide,by show 0<=1;decide]
 |.one (.none _),_=>#[by show 2<=60;decide,by show 0<=1;decide]
 |.one (.look _ _ _),_=>#[by show 3<=60;decide,by show 0<=1;decide]
 |.nt (.one .all),_=>#[by show 2<=60;decide,by show 1<=1;decide]
 |.nt (.one (.none _)),_=>#[by show 3<=60;decide,by show 1<=1;decide]
 |.nt (.one (.look _ _ _)),_=>#[by show 4<=60;decide,by show 1<=1;decide]
 |.nt (.nt _),h=>h.elim
def Iv{z:Str}(a:z≠"")(h:32∉z.cps.toList)(c:il cs z=none):bx cs z=none:=by
 let e:ώ 32 z=[z]:=by
  have:=tM (ps:=[z]) (by simp) (λp f=>by rw[adF.mp f];show h);rw[join_one]at this;show this
 unfold bx;rw[if_neg a,if_neg (by rw[e];show ¬4<1;decide),e];simp[jl,c]
theorem noName(i:Ρ cs=true)(h:↥z=0\/8<↥z):∀c∈cs,¬c.1=z:=λc a e=>by
 let g:=gH i (z:=c.1) (ahF (f:=Prod.fst) a);unfold isName at g;rw[aaK]at g;have:=of_decide_eq_true g.1;rw[e]at this;omega
def M5(a:Ρ cs=true)(h:↥z<=1\/9<↥z):il cs z=none:=by
 unfold il;show if_neg λy=>y.2 (Fj 0 (noName a ?_))
 let e:=congrArg alj (xJ z 1);rw[ael, <-_L.len_list, <-_L.len_list]at e;let c:↥(ό z ↑1 none)=↥z-1:=e;omega
structure LK(cs:List ξ)(os:List Ord)(t:Tr)(bo bs:Bool)(zo z:Str)(o:Option Tr):Prop where
 zl:↥zo<=4000
 sv:vY cs z o
 rd:bx cs zo=if bo=true then none else some os
 oo:o=if bs=true then none else some t
inductive Nf(K:ϩ):Sp
 |mk (a c b:δ) (ns:List Int) (cs:List ξ) (os:List Ord) (v:V) (t:Tr):vs=[.ref a,.ref c,.ref b,v]->θ K H a (ns.map V.int)->↥ns<=63->Ϗ H c cs->Ρ cs=true->aW H b os->↥os<=4->fQ cs os->(os.map Prod.fst).Nodup->jJ H v t->mV t->iB cs t->(∀tl zo z o H',ζ H H'->H' tl=↑(.lst [.str zo,.str z])->LK cs os t (decide (Υ ns 13 4=0)) (decide (Υ ns 14 4=0)) zo z o->Q (.ref tl) H')
def Tz(i:Ρ cs=true)(h:∀z,ws[1]?=↑z->¬isName z=true):dj cs ws 1=none:=by
 unfold dj;rw[if_pos (by decide)];cases g:ws[1]?
 .rfl
 .show if_neg λy=>?_
  let#[c,a,e]:=aoa.mp y;rw[<-of_decide_eq_true e]at g;show h _ g (gH i (ahF (f:=Prod.fst) a))
def qG:List Str:=[ν "not whole",ν "none",ν "none Aa"]
theorem aei(a:Ρ cs=true):∀z∈qG,vY cs z none:=λz c=>by
 simp only[qG,aaF,aet,or_false]at c;obtain rfl|rfl|rfl:=c
 .show#[by fin2,.inr (by fin2)]
 .let e:ώ 32 ("none":Str)=[ν "none"]:=by fin2
  show#[by fin2,.inl ?_];rw[e];show#[rfl,Tz a λz e=>by cases e]
 .let e:ώ 32 ("none Aa":Str)=[ν "none",ν "Aa"]:=by fin2
  show#[by fin2,.inl ?_];rw[e];show#[rfl,Tz a λz e=>by cases e;fin2]
def JB:Def 4 "_law_texts" ["_law_script","_law_columns_here","_law_order_here","_law_sieve_here"] (Nf K):=by
 show Γ (S:=Y5) T.JB (λf _ A _ _ H vs Q E hr h=>?_);intro X _;let#[a,c,b,ns,cs,os,v,t,rfl,G,I,hC,hok,hO,o4,l,W,hv,s,x,q]:=h;let nd:=Y5.nd;let hsz:=Ϯ;let#[c1,c6]:=jQ hok;let D1:=!gD;let D2:=!zB;let D3:=!ur;let Zd:=anU hok l o4;let Y:∀o∈os,↥o.1<=1000:=λo ho=>by
  let#[k,hk,e]:=l o ho;have:=lQ (gH hok (z:=o.1) (abz.mpr #[k,hk,e]));omega
 let J:LK cs os t false false (cO os) (aek " " (wT (Ξ cs) t)) ↑t:=#[(),#[rfl,x,(Xq (cs:=cs) s).1],aoK hok l o4 W,rfl];k_go;show#[b,os,rfl,hO,(),Y,λH1 L=>?_];generalize cO os=zo at J⊢;lk;show#[v,c,cs,t,rfl,hC.same L,hok,hv.same L,s,x,λH2 s2=>?_];generalize aek " " (wT (Ξ cs) t)=z at J⊢;lk;show#[ω,λtl B=>?_];let n:ζ H (upd H2 tl (.lst [.str zo,.str z])):=(L<|>s2)<|>(ζ.upd B);let Z:(upd H2 tl (.lst [.str zo,.str z])) tl=↑(.lst [.str zo,.str z]):=ο;let Ym:H tl=none:=(L<|>s2).free B;generalize upd H2 tl (.lst [.str zo,.str z])=H3 at n Z⊢;let rest:∀(bo:Bool)(zo:Str)(H4:Hp),bo=decide (Υ ns 13 4=0)->ζ H H4->H4 tl=↑(.lst [.str zo,.str z])->LK cs os t bo false zo z ↑t->Ζ X ((Ψ GJ).drop 2) {nx:=λ_ H'=>Q .non H',rt:=Q} [↑(.ref a),↑(.ref c),↑(.ref b),↑v,↑(.ref tl)] H4:=by
  intro bo zo H4 aa M e4 tx;w_up;show Δ ?_>>=#[a,ns,14,4,rfl,M.seq G,I,by decide,by decide,by decide,?_];rw[<-aa]at q;generalize Υ ns 14 4=d2 at q⊢;lk;show Β (λh=>?_) (λh=>?_)
  .rw[decide_eq_true (V.int.inj h)]at q;f_len;show Qt ?_>>=#[ω,λp hp=>?_];let#[i,C]:=Θ hp (.lst (qG.map V.str));change EV _ _ _ (upd H4 p (.lst (qG.map V.str))) _;generalize upd H4 p (.lst (qG.map V.str))=H5 at i C⊢;lk;show#[a,ns,11,3,rfl,(M<|>i).seq G,I,by decide,by decide,by decide,?_];let k0:=aD ns 11 (m:=3) (by decide);let k1:=aA ns 11 (m:=3) (by decide);let#[u,g1,g2]:=nj (xs:=qG.map V.str) k0 (by show _<(3:Int);omega);show ϐ (θ.of C) g1 ?_;let#[y,O,rfl]:=abz.mp g2;lk;show#[tl,_,1,1,rfl,rfl,i<*e4,by rfl,?_];symm;lk;show q tl zo y none _ (λb' u' D=>by rw[ι (Ω D Ym)];show(M<|>i) _ _ D) ο #[tx.zl,aei hok y O,tx.rd,rfl]
  .rw[decide_eq_false (λz=>h (by rw[z]))]at q;show Α ?_;symm;lk;show q tl zo z ↑t H4 M e4 tx
 w_up;show Δ ?_>>=#[a,ns,13,4,rfl,n.seq G,I,by decide,by decide,by decide,?_]>>=Β (λh=>?_) (λh=>?_)
 .let hb:true=decide (Υ ns 13 4=0):=(decide_eq_true (V.int.inj h)).symm;let#[vs,ab,ac]:=hC.same n;obtain⟨k0,F⟩:∃k,cs[0]?=↑k:=#[_,aah ()];let#[cv,gc,tc,rfl,ae]:=ac.get' F;let g:=gH hok (z:=k0.1) (ahF (f:=Prod.fst) (aa1 F));let hpl:=Df g;let hk8:=lQ g;let hk1:1<=↥k0.1:=by
   unfold isName at g;rw[aaK]at g;show(of_decide_eq_true g.1).1
  f_len;show Qt ?_>>=ϐ (θ.of ab) (show Ι vs ((0:Nat):Int)=↑(.ref tc)from aJ gc) ?_>>=ϋ (ρ.of ae) (show Ι [V.str k0.1,V.str k0.2] 0=↑(V.str k0.1)from rfl) ?_;let lp:↥("+":Str)=1:=by fin2
  lk;show bW () ?_>>=Zq (by fin2) (by rw[hsz];fin2) ?_;let r1:(jU ("a":Str) 9).cps.toList=agU 9 97:=by fin2
  let r2:↥(jU ("a":Str) 9)=9:=by fin2
  generalize jU ("a":Str) 9=R at r1 r2⊢;let lx:=len_app (ν "+"++k0.1) R;let ly:=len_app ("+":Str) k0.1;lk;show bW () ?_;let Ov:bx cs (ν "+"++k0.1++R)=none:=by
   show Iv (λe=>?_) (λRG=>?_) (M5 hok (.inr ()))
   .rw[e]at lx;have:↥("":Str)=0:=by fin2
    omega
   .rw[au,au,r1,adi,adi]at RG;rcases RG with(h|h)|h
    .show absurd h (by fin2)
    .show absurd h λhm=>by
      unfold isName dZ at g;rw[aaK,acE]at g;show absurd (of_decide_eq_true (g.2 32 hm)) (by fin2)
    .show absurd (aqz h) (by decide)
  let l1:↥(ν "+"++k0.1++R)<=4000:=()
  generalize ν "+"++k0.1++R=U at Ov l1⊢;lk;show#[ω,λp hp=>?_];let#[i,C]:=Θ hp (.lst ([U,ν "*a",ν "+"].map V.str));change EV _ _ _ (upd H3 p (.lst ([U,ν "*a",ν "+"].map V.str))) _;generalize upd H3 p (.lst ([U,ν "*a",ν "+"].map V.str))=H5 at i C⊢;lk;show#[a,ns,12,3,rfl,(n<|>i).seq G,I,by decide,by decide,by decide,?_];let d0:=aD ns 12 (m:=3) (by decide);let d1:=aA ns 12 (m:=3) (by decide);let#[u,g1,g2]:=nj (xs:=[U,ν "*a",ν "+"].map V.str) d0 (by show _<(3:Int);omega);show ϐ (θ.of C) g1 ?_;let#[y,O,rfl]:=abz.mp g2;let j:bx cs y=none/\↥y<=4000:=by
   simp only[aaF,aet,or_false]at O;obtain rfl|rfl|rfl:=O
   .show#[Ov,l1]
   .show#[Iv (by fin2) (by fin2) (if_neg λy=>absurd y.1 (by fin2)),by fin2]
   .show#[Iv (by fin2) (by fin2) (M5 hok (.inl (by fin2))),by fin2]
  lk;show#[tl,_,0,0,rfl,rfl,i<*Z,by rfl,?_]*>rest true y _ hb (λb' u' D=>by rw[ι (Ω D Ym)];show(n<|>i) _ _ D) ο #[j.2,J.sv,j.1,rfl]
 .show Α (rest false zo H3 (decide_eq_false (λz=>h (by rw[z]))).symm n Z J)
def kW:List Str:=[ν "order",ν "sieve",ν "size",ν "none",ν "gone",ν "later",ν "mark"]
def dP(d:Str×Int):PyData:=.tuple [.str d.1,.int d.2]
def Ff(h:d.1∈kW):(dP d).canLay0=true:=by
 show((PyData.str d.1).canLay0&&(true&&true))=true;rw[(show ∀z∈kW,(PyData.str z).canLay0=true by fin2) _ h];rfl
def afG(d:Str×Int):(dP d).depth<=60:=by
 show _<=60;simp only[dP,PyData.depth,PyData.depthAll];omega
theorem WY(h:H p=↑(.tup [.str d.1,.int d.2])):RD K H (.ref p) (dP d):=.tup (ρ.of h) (.cons (.str _) (.cons (.int _) .nil))
def Fg(bo bs:Bool)(sz:Option Int):(Ϝ bo bs sz).1∈kW:=by
 unfold Ϝ;split
 .fin2
 split
 .fin2
 split
 .split <;>fin2
 .fin2
def p6{H:Hp}{Q:VK}{p q:δ}{d:Str×Int}(c:X.A.units+64<cLine)(a:d.1∈kW)(e:H p=↑(.tup [.str d.1,.int d.2]))(f:H q=↑(.tup [.str d.1,.int d.2]))(h:Q (.bl false) H):OP X (ad2 .NotEq) (.ref p) (.ref q) H Q:=by
 show acV c (WY e) (WY f) (Ff a) (Ff a) (afG d) ?_;rw[SeqAt.eqv_refl _ (Ff a)];show h
def afq(bo bs:Bool)(n:Int):Ϝ bo bs none=if(Ϝ bo bs ↑n).1=ν "size" then(ν "none",0)else Ϝ bo bs ↑n:=by
 cases bo
 .cases bs
  .by_cases h:1<=n/\n<=100
   .rw[show Ϝ false false ↑n=(ν "none",0)from if_pos h,if_neg (by fin2)];rfl
   .rw[show Ϝ false false ↑n=(ν "size",0)from if_neg h,if_pos rfl];rfl
  .show(if_neg (show ¬ν "sieve"=ν "size" by fin2)).symm
 .show(if_neg (show ¬ν "order"=ν "size" by fin2)).symm
inductive JL(K:ϩ)(mg:MG)(o:Option Tr):Sp
 |mk (A:BA) (B:Bk) (lv:Bool) (tl dp:δ) (zo z:Str) (n:Int) (bo bs:Bool):vs=[.ref A.b,.str (ύ lv),.ref tl,.int n,.ref dp]->H tl=↑(.lst [.str zo,.str z])->H dp=↑(.tup [.str (Ϝ bo bs ↑n).1,.int (Ϝ bo bs ↑n).2])->ig K mg H A B zo z o->n.natAbs<10^60->gW B zo o bo bs->(∀H',ζ H H'->Q (.bl true) H')
def Kv(hN:dH K mg base "sorted_by")(ho:iJ o):Def 15 "_law_are_due" ["_law_book","_law_make","_law_texts_here","_law_size_here","_law_due"] (JL K mg o):=by
 show Γ (S:=XX) T.Kv (λf Ϲ A' outer s H vs Q E hr h=>?_);intro X _;let#[A,B,lv,tl,dp,zo,z,n,bo,bs,rfl,v,y,L,F,hd,q]:=h;let nd:=XX.nd;let n1:=T.qt;let C:=hr.units;let hsz:=Ϯ;let O:=L.bk;let D1:Def P w K mg base true 14 "_law_asked" ["_law_way","_law_book","_law_make","_law_texts_here","_law_size_here"] (Gi K mg o):=Ih T hN ho;let D2:=!Jf;let D:=Fg bo bs ↑n;let rest:∀(H1:Hp)(j:Option V),ζ H H1->Ζ X ((Ψ Cp).drop 2) {nx:=λ_ H'=>Q .non H',rt:=Q} [↑(.ref A.b),↑(.str (ύ lv)),↑(.ref tl),↑(.int n),↑(.ref dp),j,none] H1:=by
  intro H1 j a;let c:∀(H2:Hp)(G:δ),ζ H H2->H2 G=↑(.tup [.str (Ϝ false false ↑n).1,.int (Ϝ false false ↑n).2])->Ζ X ((Ψ Cp).drop 3) {nx:=λ_ H'=>Q .non H',rt:=Q} [↑(.ref A.b),↑(.str (ύ lv)),↑(.ref tl),↑(.int n),↑(.ref G),j,none] H2:=by
   intro H2 G e R;let D:=Fg false false ↑n;w_up;show wB (by walk_at"po") (by rfl) (by intro _;rfl) ?_>>=#[ω,λp l=>?_];let#[I,U]:=Θ l (.lst ([true,false].map λb=>V.str (kY b)));show#[p,[true,false].map λb=>V.str (kY b),rfl,θ.of U,λi σ H'=>(∃M,σ=[↑(.ref A.b),↑(.str (ύ lv)),↑(.ref tl),↑(.int n),↑(.ref G),j,M])/\ζ (upd H2 p (.lst ([true,false].map λb=>V.str (kY b)))) H',#[#[none,rfl],ζ.refl _],λi σ' H' _ g=>θ.of (g.2<*U),λi x σ' H' W g=>?_,λσ' H' g=>?_]
   .let#[#[M,rfl],m]:=g;let Y:=(e<|>I)<|>m;rw[adl]at W;let#[st,_,rfl]:=aoq.mp W;show Ε nd ?_;f_len;show Δ ?_>>=#[A,B,n,st,true,rfl,O.same Y,F,λp1 H5 J e5=>?_]>>=p6 C D e5 ((I<|>m<|>J)<*R) ?_>>=#[A,B,n,st,false,rfl,O.same (Y<|>J),F,λp2 H6 Z e6=>?_]>>=p6 C D e6 ((I<|>m<|>J<|>Z)<*R) ?_>>=Α #[#[_,rfl],m<|>J<|>Z]
   .let#[#[M,rfl],m]:=g;symm;lk;show q H' ((e<|>I)<|>m)
  w_up;f_tup;let yes:sizeOk n->Ϝ false false ↑n=(ν "none",0):=λh=>if_pos h
  let no:¬sizeOk n->Ϝ false false ↑n=(ν "size",0):=λh=>if_neg h
  lk;show Β (λh=>?_) (λh1=>?_)
  .lk;show#[ω,λp l=>c _ p (a<|>(ζ.upd l)) (by rw[no λz=>absurd z.1 ()];show ο)]
  lk;show Β (λh=>?_) (λh2=>?_)
  .lk;show#[ω,λp l=>c _ p (a<|>(ζ.upd l)) (by rw[no λz=>absurd z.2 ()];show ο)]
  lk;show#[ω,λp l=>c _ p (a<|>(ζ.upd l)) (by rw[yes #[(),()]];show ο)]
 w_up;show wD (by walk_at"po") (by rfl) (by rfl) n1 (by rfl) ?_>>=#[(),(),λi σ H'=>(∃j,σ=[↑(.ref A.b),↑(.str (ύ lv)),↑(.ref tl),↑(.int n),↑(.ref dp),j,none])/\ζ H H',#[#[none,rfl],ζ.refl _],λi σ H' hi g=>?_,λσ H' g=>?_]
 .let#[#[j,rfl],a]:=g;show Ε nd ?_;f_len;show Δ ?_>>=#[i,A,B,lv,tl,zo,z,n,bo,bs,by simp,(),a<*v,L.same a,F,hd,?_];rw[if_neg (show ¬i=4 by omega)];intro p H2 e u;lk;show p6 C D u ((a<|>e)<*y) ?_>>=Α #[#[_,rfl],a<|>e]
 .let#[#[j,rfl],a]:=g;w_up;show Δ ?_>>=#[4,A,B,lv,tl,zo,z,n,bo,bs,rfl,(),a<*v,L.same a,F,hd,?_];rw[if_pos rfl,afq bo bs n];intro p H2 e u;let Uo:=(a<|>e) _ _ y;lk;show ϋ (ρ.of Uo) (show Ι [V.str (Ϝ bo bs ↑n).1,.int (Ϝ bo bs ↑n).2] 0=↑(V.str (Ϝ bo bs ↑n).1)from rfl) ?_>>=Β (λh=>?_) (λh=>?_)
  .rw[if_pos (V.str.inj h)]at u;lk;show#[ω,λt ht=>?_]*>p6 (d:=(ν "none",0)) C (by fin2) (ζ.upd ht _ _ u) ο ?_>>=Α (rest<*((a<|>e)<|>(ζ.upd ht)))
  .rw[if_neg (λz=>h (by rw[z]))]at u;lk;show p6 C D u Uo ?_>>=Α (rest<*(a<|>e))
def amF:∀k∈iQ,0<=k/\k<=1000000000:=by decide
def alg:∀{ds:List aq},(∀d∈ds,∀xs,d.is=↑xs->ao cs (d.row,xs))->∀i xs,Κ (c7 ds) i=↑xs->ao cs (i,xs):=by
 intro ds hd;unfold c7;have:∀(ds:List aq)(r:List (Int×List V)),(∀d∈ds,∀xs,d.is=↑xs->ao cs (d.row,xs))->(∀i xs,Κ r i=↑xs->ao cs (i,xs))->∀i xs,Κ (ds.foldl (λr d=>eZ r d.row d.is) r) i=↑xs->ao cs (i,xs):=by
  intro ds;induction ds with
  |nil=>show λr _ h=>h
  |cons d ds a=>
   show λr hd h=>a _ (λx c=>hd x (aby _ c)) λi xs e=>?_
   rw[CV]at e;by_cases z:i=d.row
   .rw[if_pos z]at e;rw[z];show hd d (abD ..) xs e
   .rw[if_neg z]at e;show h i xs e
 show this ds [] hd (λi xs e=>by cases e)
def jY.go(h:jY all B)(c:B.known<x)(a:x<=B.now):jY all {B with done:=B.done.drop (x-B.known).toNat,known:=x}:=by
 let e:=h.kn;show#[h.rows,?_,h.now,#[by show 0<=x;omega,a],h.good,h.wf];show B.done.drop (x-B.known).toNat=all.drop x.toNat;rw[h.done,atu]
 congr 1
 omega
structure nO(cs:List ξ)(all:List aq)(B:Bk):Prop where
 hi:jY all B
 hd:B.heads=cs
 ok:∀d∈all,d.row∈iQ/\∀xs,d.is=↑xs->ao cs (d.row,xs)
def nO.Qj(h:nO cs all B)(o:↥all<=40)(q:Ρ cs=true)(k:Χ (cB mg) H A B):dC mg H A B:=by
 let a:=h.hi;let s:=a.kn;let u:=a.now;let c:∀d∈all,d.row∈iQ:=λd hd=>(h.ok d hd).1
 let v:↥iQ=28:=rfl;let g:∀m:Nat,m<=↥all->((bQ B.rows (all.drop m)).map Prod.fst).Nodup/\↥(bQ B.rows (all.drop m))<64/\∀r∈bQ B.rows (all.drop m),ao cs r/\0<=r.1/\r.1<=1000000000:=by
  intro m F;let#[x,_]:=back_eq a.good (↥all-m) m ();let y:(B.rows.map (·.1)).Nodup:=by rw[a.rows];show afv all
  let l:((bQ B.rows (all.drop m)).map (·.1)).Nodup:=abJ y _;let j:∀i∈(bQ B.rows (all.drop m)).map (·.1),i∈iQ:=Vt (ns:=iQ) (by rw[a.rows];show aoH c) (λd hd=>c d (af0 hd));show#[l,?_,λr p=>#[?_,amF r.1 (j r.1 (ahF (f:=Prod.fst) p))]]
  .have :=K6 l j;rw[aau]at this;omega
  .have :=Kl l p;rw[a.rows,x]at this;show alg (λd hd=>(h.ok d (aeB hd)).2) _ _ this
 let#[k1,k2,k3]:=g ↥all (Ϭ _);rw[an7]at k1 k2 k3;let n:↥B.done=(B.now-B.known).toNat:=by
  rw[a.done,ael];omega
 show{bk:=k,ok:=by rw[h.hd];show q,mm:=a.mom (),dn:=n,r1:=k2,d1:=by omega,wf:=a.wf,nd:=k1,fit:=by rw[h.hd];show k3,n5:=by omega,hs:=λmo h1 h2=>?_};let#[m,rfl]:=aa4 (show 0<=mo by omega);let e:B.done.drop ((m:Int)-B.known).toNat=all.drop m:=by
  rw[a.done,atu]
  congr 1
  omega
 let#[z,C,D]:=g m ();let#[_,E]:=back_eq a.good (↥all-m) m ();show jL B.rows (B.done.drop ((m:Int)-B.known).toNat)/\↥(bQ B.rows (B.done.drop ((m:Int)-B.known).toNat))<64/\((bQ B.rows (B.done.drop ((m:Int)-B.known).toNat)).map Prod.fst).Nodup/\∀r∈bQ B.rows (B.done.drop ((m:Int)-B.known).toNat),ao B.heads r/\0<=r.1/\r.1<=1000000000;rw[e,h.hd];show#[by rw[a.rows];show E,C,z,D]
def nO.JH(h:nO cs all B)(a:row∈iQ)(c:Κ B.rows row=none->o≠none)(e:∀xs,o=↑xs->ao cs (row,xs)):nO cs (all++[#[B.now+1,row,Κ B.rows row,o]]) (aZ B row o):=by
 show#[h.hi.JH row o c,h.hd,λd hd=>?_];obtain hd|hd:=adi.mp hd
 .show h.ok d hd
 .rw[adF.mp hd];show#[a,e]
def Jd{A:BA}(h:x∈A.fp):x∈A.six:=by
 let h':x=A.b\/x=A.r\/x=A.t\/x=A.d:=by simpa [BA.fp]using h
 obtain rfl|rfl|rfl|rfl:=h'<;>simp[BA.six]
def abL(M:Mk):(aU M).cps.toList=(ϑ M).cps.toList++46::(aM (ϒ (ϑ M).cps.toList)).cps.toList/\↥(aU M)=↥(ϑ M)+5:=by
 let e:(aU M).cps.toList=(ϑ M).cps.toList++46::(aM (ϒ (ϑ M).cps.toList)).cps.toList:=by
  unfold aU;rw[au,au,show(".":Str).cps.toList=[46]from by fin2,aq8];rfl
 show#[e,?_];let h:=congrArg alj e;let h1:=_L.len_list (aU M);let h2:=_L.len_list (ϑ M);let a:=(yN (ϑ M).cps.toList).2;rw[abK,abU,a]at h;omega
def Yq(a:Ρ cs=true)(h:bu cs M):∀c∈(ϑ M).cps.toList,c<9973:=by
 let f:∀ps:List Str,(∀p∈ps,plainS p)->∀c∈(aek "/" ps).cps.toList,c<9973:=by
  intro ps;induction ps with
  |nil=>intro _ c a;have:c∈([]:List Nat):=a;simp at this
  |cons p r i=>
   intro g c hcm;cases r with
   |nil=>have:=g p (by simp) c hcm;omega
   |cons q r=>
    let e:(aek "/" (p::q::r)).cps.toList=(p++ν "/"++aek "/" (q::r)).cps.toList:=rfl;rw[e,au,au]at hcm;obtain hcm|hcm:=adi.mp hcm
    .obtain hcm|hcm:=adi.mp hcm
     .have :=g p (by simp) c hcm;omega
     .have :∀c∈("/":Str).cps.toList,c<9973:=by fin2
      show this c hcm
    .show i (λx j=>g x (by simp[j])) c hcm
 show f _ (Gb a h)
def aly(M:Mk):1<=↥(ϑ M):=by
 let a:↥("/":Str)=1:=by fin2
 unfold ϑ bM;show 1<=↥(_++ν "/"++_:Str);rw[len_app,len_app,a];omega
def aem(f:Ρ cs=true)(h:bu cs M):∀c∈(aU M).cps.toList,c<9973:=by
 intro c e;rw[(abL M).1]at e;obtain q|q:=adi.mp e
 .show Yq f h c q
 .obtain q|q:=aaF.mp q
  .omega
  .let hb:=gk (ϑ M).cps.toList;let#[m,em]:=aa4 hb.1;let a:=wj (n:=m) ();unfold qb at a;simp only[aaK,decide_eq_true_eq,acE]at a;rw[em]at q;have:=a.2.1 c q;unfold oM at this;simp at this;omega
def am3{z:Str}(hi:i<↥z):∃c,z.cps.toList[i]?=↑c/\z.cps.toList=z.cps.toList.take i++c::z.cps.toList.drop (i+1):=by
 let a:i<↥z.cps.toList:=by rw[<-_L.len_list];show hi
 show#[z.cps.toList[i],aah a,?_];rw[<-agX a,List.take_append_drop]
def adE{k:Nat}(a:k<=↥z):(ό z ↑(k:Int) none).cps.toList=z.cps.toList.drop k:=by
 let c:=_L.len_list z;rw[v9,_H.iY,als ()];show List.take (↥z-k) _=_;rw[ag5 (by rw[ael];omega)]
def afL(a:Ρ cs=true)(h:bu cs M):bR 4000 (aU M):=by
 let#[_,f]:=uJ a h;let i:=gk (ϑ M).cps.toList;let#[m,g]:=aa4 (show 0<=ϒ (ϑ M).cps.toList by omega);let e:=wj (n:=m) ();unfold qb at e;simp only[aaK,decide_eq_true_eq,acE]at e;let o1:bR 3300 (ϑ M):=#[f,Cz a h];let o2:bR 1 (".":Str):=#[by fin2,by fin2];let o3:bR 4 (aM (ϒ (ϑ M).cps.toList)):=by
  rw[g];show#[aqv e.1,λc a=>?_];have:=e.2.1 c a;unfold oM at this;simp at this;omega
 show((o1.app o2).app o3).mono (by decide)
abbrev wK(a c b:δ)(v:V)(lv:Bool)(n:Int)(ab d tl:δ)(od:Int)(mo:Nat)(u:δ)(z:Str)(dq:δ)(o14 uv wO:Option V):_L.St:=[↑(.ref a),↑(.ref c),↑(.ref b),↑v,↑(.str (ύ lv)),↑(.int n),↑(.ref ab),↑(.ref d),↑(.ref tl),↑(.int od),↑(.int (mo:Nat)),↑(.ref u),↑(.str z),↑(.ref dq),o14,uv,wO]
def aiT(T:Txt K mg)(hN:dH K mg base "sorted_by")(F:cF K "law" "law" fK f fd):dG P w K mg base (bY P w) true 60 f fd ["_law_script"] (MK K "sorted_by" iK):=by
 show yx F R5 (λvs H Q E h=>by let#[a,ns,rfl,_]:=h;rfl) (λϹ A' outer s0 H vs Q E hr h=>?_);let#[a,ns,rfl,J,I,Ms,q]:=h;let nd:=R5.nd;let hu:=hr.units;let W:_+1<cLine:=afY (agK (by decide:1<=64) _) hr.units;let n1:=T.km;let n2:=T.bj;let hsz:=Ϯ;let D0:=!gD;let D1:=!Ju;let D2:=!Ip;let D3:=!Gm;let D4:=!vp;let D5:=!Eu;let D7:=!Kr;let D8:=!JB;let D9:=!Gz;let D10:=!Mm;let M1:ϕ P w K mg base true 4 (cB mg) "let_go" ["self","moment"] (yu mg):=(aj6 T).meth T.ϓ T.afg;let MB:=(ajz (P:=P) (w:=w) (base:=base) T).make T.aoQ T.al3;let aT:=aeS J;k_go;show#[a,ns,rfl,J,I,λc cs H1 s1 hc0 pH hok=>?_];let#[c1,c6]:=jQ hok;k_go;show#[a,ns,20,c,cs,rfl,s1.seq J,I,by decide,by decide,pH,hok,λb os H2 s2 hb0 R0 nY X ae=>?_];let ϥ:=s1<|>s2;k_go;show#[a,ns,30,c,cs,rfl,ϥ.seq J,I,by decide,by decide,pH.same s2,c1,c6,λv t H3 s3 TF af ai=>?_];let#[vf,al]:=Xq (cs:=cs) af;let az:=ϥ<|>s3;k_go;show#[ω,λp4 aY=>?_];let#[s4,e4]:=Θ aY (.lst [.str (ύ true),.str (ύ false)]);change EV _ _ _ (upd H3 p4 (.lst [.str (ύ true),.str (ύ false)])) _;generalize upd H3 p4 (.lst [.str (ύ true),.str (ύ false)])=H4 at s4 e4⊢;let bH:=az<|>s4;lk;show#[a,ns,16,2,rfl,bH.seq J,I,by decide,by decide,by decide,?_];obtain⟨lv,jc⟩:∃lv,Ι [V.str (ύ true),.str (ύ false)] (Υ ns 16 2)=↑(.str (ύ lv)):=by
  let k0:=aD ns 16 (m:=2) (by decide);let k1:=aA ns 16 (m:=2) (by decide);generalize Υ ns 16 2=d at k0 k1;have:d=0\/d=1:=()
  obtain rfl|rfl:=this
  .show#[true,rfl]
  .show#[false,rfl]
 show ϐ (θ.of e4) jc ?_;k_go;show#[a,ns,rfl,bH.seq J,I,λn H5 s5 ha=>?_];let vR:=s4<|>s5;let cY:=az<|>vR;let zN:=pH.same ((s2<|>s3)<|>vR);let am:=R0.same (s3<|>vR);let RJ:=TF.same vR;clear s4 s5 vR e4 TF R0 pH bH az ϥ;let aqH:=cY _ _ Ms;let#[cv,ec,a0]:=id zN;w_up;f_tup;show mj MB hr (by decide) (λ_=>rfl) Ο ?_>>=jb (.inl (θ.of ec)) λlc a1=>?_
 let#[s6,R3,H5,lc,H6]:=Θ a1 (.lst cv);let a2:Ϗ H6 lc cs:=#[cv,R3,a0.imp λu k z=>by let#[t,e,h]:=z;show#[t,e,s6<*h]];lk;intro y dx hy ap Ϻ;let jh:ζ H6 (upd (upd H6 dx (.own y)) y (.ins (cB mg) dx [])):=λb u e=>by
  rw[ι (λz=>by rw[z,hy]at e;cases e),ι (λz=>by rw[z,ap]at e;cases e)];show e
 show#[y,dx,lc,cs,rfl,ο,by rw[ι Ϻ,ο],a2.same jh,hok,λH7 A eb Dq f1 f2 f3 f4 o7 k7=>?_];let#[s7,fr]:=made hy ap eb Dq f1 f2 f3 f4 o7;subst eb;show#[rfl,?_];let zy:=s6<|>s7;let Y:∀x∈A.six,H5 x=none:=λx R=>s6.free (fr x R)
 let ar:c∉A.fp:=λz=>by
  have:=Y c (Jd z);rw[ec]at this;cases this
 let Ws:(∀H',θ K H' a (ns.map V.int))\/a∉A.fp:=by
  obtain z|z:=aT
  .show .inr λy=>z (cY.free (Y a (Jd y)))
  .show .inl z
 k_go;show#[a,ns,15,8,rfl,(cY<|>zy).seq J,I,by decide,by decide,by decide,?_];let g0:=aD ns 15 (m:=8) (by decide);let g1:=aA ns 15 (m:=8) (by decide);generalize Υ ns 15 8=mv at g0 g1⊢;let#[av,rfl]:=aa4 g0;lk;show#[λB=>B.known=0/\∃all,nO cs all B,A,a,c,ns,av,cs,rfl,(cY<|>zy).seq J,I,(),zN.same zy,ar,Ws,hok,k7,#[rfl,[],#[#[rfl,rfl,rfl,#[auH _,auH _],(λj d e=>by simp at e),λi=>by simp[Κ]],rfl,(λd hd=>by cases hd)]],(λB row o a3 a4 aw hj=>#[hj.1,by
  let#[_,all,O]:=hj;show#[_,O.JH a3 a4 λxs e=>by have:=aw xs e;rw[O.hd]at this;show this]]),λd r s B sn i0 H8 hd0 hr0 hs0 o8 ag Xf Qe hi1 hi2 hj=>?_]
 let#[aqG,all,O]:=hj;let a5:∀x∈A.fp,H5 x=none:=λx R=>Y x (Jd R)
 let qW:ζ H5 H8:=λb' u e=>o8 _ _ (λz=>by rw[a5 b' z]at e;cases e) (zy<*e)
 let oJ:=cY<|>qW;let vP:=Qe.now;let hal:↥all=i0:=by have:=O.hi.now;omega
 let ah:=O.Qj () hok ag.bk;let ax:=ag.st;let a6:d≠A.b:=λe=>uD Xf.nd [4] [6] (by decide) A.b (by simp) (by simp[e])
 clear Qe Xf ag o8 k7 ar Ws;k_go;show#[a,c,b,ns,cs,os,v,t,rfl,oJ.seq J,I,zN.same qW,hok,am.same qW,nY,X,ae,RJ.same qW,af,ai,λtl zo z o H9 s9 ay tx=>?_];let wW:=oJ<|>s9;let aa:iJ o:=λu e=>by
  have:=tx.oo;rw[e]at this;split at this
  .cases this
  .cases this;show al
 let a7:Def P w K mg base true 15 "_law_are_due" ["_law_book","_law_make","_law_texts_here","_law_size_here","_law_due"] (JL K mg o):=Kv T hN aa;let aC:ig K mg H9 A B zo z o:=#[ah.same s9,tx.zl,by rw[O.hd];show tx.sv,λos' e=>by
  have:=tx.rd;rw[<-O.hd,e]at this;split at this
  .cases this
  .cases this;rw[O.hd];show#[nY,X,ae],wW<*Ms]
 let aE:gW B zo o (decide (Υ ns 13 4=0)) (decide (Υ ns 14 4=0)):=by
  let h1:=tx.rd;let h2:=tx.oo;rw[O.hd.symm]at h1;show#[?_,?_]
  .rw[h1];split
   .show#[λ_=>by assumption,λ_=>rfl]
   .show#[(λz=>by cases z),λz=>absurd z (by assumption)]
  .rw[h2];split
   .show#[λ_=>by assumption,λ_=>rfl]
   .show#[(λz=>by cases z),λz=>absurd z (by assumption)]
 w_up;show Δ ?_>>=#[a,ns,.ref b,n,rfl,wW.seq J,I,λdp oN qi U5=>?_]>>=#[A,B,lv,tl,dp,zo,z,n,_,_,rfl,qi<*ay,U5,aC.same qi,ha,aE,λrm K5=>?_];lk;let Cu:=s9<|>qi<|>K5;let zA:=ah.same Cu;let ux:=Cu _ _ ax;let JG:=qW<|>Cu;clear qi U5 K5 aC aE tx ay s9 Cu wW ah ax qW a7 aa oJ;show Α ?_;k_go;show dw W (oO ux) ?_;lk;rw[vP];show#[a,ns,40,((i0:Nat):Int)+1,rfl,(cY<|>JG).seq J,I,by decide,by decide,(),?_];let x0:=aD ns 40 (m:=((i0:Nat):Int)+1) ();let x1:=aA ns 40 (m:=((i0:Nat):Int)+1) ();generalize Υ ns 40 (((i0:Nat):Int)+1)=od at x0 x1⊢;let rest:∀(A2:BA)(S:Bk)(lR:Hp),A2.b=A.b->ζ H5 lR->lR d=↑(.dK (stK r s ((i0:Nat):Int)))->dC mg lR A2 S->S.heads=cs->S.known=od->S.now=(i0:Nat)->Ζ (fD true P w K mg base qy "law" (ς fK) f Ϲ A' outer s0 H E) ((Ψ fK).drop 11) {nx:=λ_ H'=>Q .non H',rt:=Q} [↑(.ref a),↑(.ref c),↑(.ref b),↑v,↑(.str (ύ lv)),↑(.int n),↑(.ref A.b),↑(.ref d),↑(.ref tl),↑(.int od),none,none,none,none,none,none,none] lR:=by
  intro A2 S lR eA Z JQ UW uE a8 aI;let vA:=cY<|>Z;let Rg:=zN.same Z;k_go;show dw W (oO JQ) ?_>>=#[a,ns,41,((i0:Nat):Int)+3,rfl,vA.seq J,I,by decide,by decide,(),?_];let y0:=aD ns 41 (m:=((i0:Nat):Int)+3) ();let y1:=aA ns 41 (m:=((i0:Nat):Int)+3) ();generalize Υ ns 41 (((i0:Nat):Int)+3)=mo' at y0 y1⊢;let#[mo,rfl]:=aa4 y0;let li:lE cs os t mo:=#[hok,nY,X,ae,ai,(),vf,()];k_go;show#[ω,λQS a9=>?_];let#[jA,Io]:=Θ a9 (.lst ([3,0,7,1000000000].map V.int));change EV _ _ _ (upd lR QS (.lst ([3,0,7,1000000000].map V.int))) _;generalize upd lR QS (.lst ([3,0,7,1000000000].map V.int))=H13 at jA Io⊢;lk;show#[a,ns,42,4,rfl,(vA<|>jA).seq J,I,by decide,by decide,by decide,?_];obtain⟨row,ab,V9,Ie⟩:∃row:Int,Ι ([3,0,7,1000000000].map V.int) (Υ ns 42 4)=↑(.int row)/\0<=row/\row<=1000000000:=by
   let k0:=aD ns 42 (m:=4) (by decide);let k1:=aA ns 42 (m:=4) (by decide);let#[u,g1,g2]:=nj (xs:=[3,0,7,1000000000].map V.int) k0 (by show _<(4:Int);omega);let#[x,R,rfl]:=abz.mp g2;simp only[aaF,aet,or_false]at R;show#[x,g1,(),()]
  show ϐ (θ.of Io) ab ?_>>=#[a,ns,43,c,cs,rfl,(vA<|>jA).seq J,I,by decide,by decide,Rg.same jA,c6,λl xs ba jR hl0 Yn ac=>?_]>>=#[ω,λjW bb=>?_];let#[zW,Hc,ba,jW,bc]:=Θ bb (.tup [.int row,.ref l]);let qL:=(jA<|>jR)<|>zW;let U0:d9 bc (.ref jW) (row,xs):=#[jW,l,rfl,Hc,zW<*Yn];k_go;show#[a,ns,44,2,rfl,(vA<|>qL).seq J,I,by decide,by decide,by decide,?_];obtain⟨sd,aN⟩:∃sd,Ι ("<>":Str).cps.toList (Υ ns 44 2)=↑(if sd=true then 60 else 62):=by
   let k0:=aD ns 44 (m:=2) (by decide);let k1:=aA ns 44 (m:=2) (by decide);generalize Υ ns 44 2=d at k0 k1;have:d=0\/d=1:=()
   obtain rfl|rfl:=this
   .show#[true,by fin2]
   .show#[false,by fin2]
  show gY (by fin2) aN ?_;rw[show(#[#v[if sd=true then 60 else 62]]:Str)=dX sd by cases sd<;>fin2];lk;let Fy:iz cs os (ϔ cs os xs):=qw (r:=(row,xs)) ac X;show#[c,b,lv,sd,mo,v,.ref jW,cs,os,t,(row,xs),rfl,Rg.same qL,(am.same Z).same qL,li,(RJ.same Z).same qL,af,U0,ac,V9,Ie,λyt XD=>?_];let yH:=qL<|>XD;let BX:=li.good (lv:=lv) (sd:=sd) (n:=row) Fy Ie;let#[FJ,PQ]:=abL #[lv,mo,os,sT cs t,#[sd,row.toNat,ϔ cs os xs]];let Lh:=aem hok BX;let Yj:=Yq hok BX;let bd:=(afL hok BX).1;let be:=aly #[lv,mo,os,sT cs t,#[sd,row.toNat,ϔ cs os xs]];let D:uA S t (aU #[lv,mo,os,sT cs t,#[sd,row.toNat,ϔ cs os xs]]) n (ie S lv mo n):=.inr #[lv,mo,os,sd,_,row,by rw[uE],by rw[uE];show li,by rw[uE];show Fy,V9,Ie,rfl];rw[show tH lv mo os (sT cs t) ↑(.at_ sd (ϔ cs os (row,xs).2) (row,xs).1)=.str (aU #[lv,mo,os,sT cs t,#[sd,row.toNat,ϔ cs os xs]])from rfl];generalize(ϑ #[lv,mo,os,sT cs t,#[sd,row.toNat,ϔ cs os xs]])=zb at FJ PQ Yj be;generalize aU #[lv,mo,os,sT cs t,#[sd,row.toNat,ϔ cs os xs]]=g at FJ PQ Lh bd D⊢;let bf:=UW.same yH;let WN:=yH _ _ JQ;let aS:=vA<|>yH;clear aN U0 Hc zW jA jR Io ab Yn qL BX Fy JQ XD yH UW;let fin:∀(zf:Str)(C:Str×Int)(G:δ)(uv wO:Option V)(bw:Hp),ζ yt bw->bw G=↑(.tup [.str C.1,.int C.2])->C.1∈kW->uA S t zf n C->Ζ (fD true P w K mg base qy "law" (ς fK) f Ϲ A' outer s0 H E) ((Ψ fK).drop 18) {nx:=λ_ H'=>Q .non H',rt:=Q} (wK a c b v lv n A.b d tl od mo jW zf G uv wO none) bw:=by
   intro zf C G uv wO bw L gG dm D;let D12:Def P w K mg base true 55 "_law_turned" ["_law_book","_law_mark_here","_law_size_here","_law_forth"] (KJ K mg t):=GD T hN al;w_up;show wB (by walk_at"po") (by rfl) (by intro _;rfl) ?_>>=#[ω,λp hp=>?_];let#[bg,Tq]:=Θ hp (.lst ([true,false].map V.bl));show#[p,[true,false].map V.bl,rfl,θ.of Tq,λi σ H'=>(∃JZ,σ=wK a c b v lv n A.b d tl od mo jW zf G uv wO JZ)/\ζ (upd bw p (.lst ([true,false].map V.bl))) H',#[#[none,rfl],ζ.refl _],λi σ' H' _ hP=>θ.of (hP.2<*Tq),λi x σ' H' R hP=>?_,λσ' H' hP=>?_]
   .let#[#[JZ,rfl],Ld]:=hP;let Sd:=bg<|>Ld;let YK:=L<|>Sd;rw[adl]at R;let#[on,_,rfl]:=aoq.mp R;show Ε nd ?_;f_len;show Δ ?_>>=#[A2,S,zf,n,on,C,by rw[eA],bf.same YK,(aS<|>YK)<*Ms,ha,D,λpt H20 M8 Ak=>?_]>>=p6 hu dm Ak ((Sd<|>M8)<*gG) ?_>>=Α #[#[_,rfl],Ld<|>M8]
   .let#[#[JZ,rfl],Ld]:=hP;symm;lk;show q _
  let QX:∀(C:Str×Int)(G:δ)(bw:Hp),ζ yt bw->bw G=↑(.tup [.str C.1,.int C.2])->C.1∈kW->uA S t g n C->Ζ (fD true P w K mg base qy "law" (ς fK) f Ϲ A' outer s0 H E) ((Ψ fK).drop 17) {nx:=λ_ H'=>Q .non H',rt:=Q} (wK a c b v lv n A.b d tl od mo jW g G none none none) bw:=by
   intro C G bw L gG dm D;let sS:=(aS<|>L).seq J;w_up;show Δ ?_>>=#[a,ns,45,4,rfl,sS,I,by decide,by decide,by decide,?_]>>=Β (λ_=>?_) (λ_=>?_)
   rotate_left
   .show Α (fin g C G none none bw L gG dm D)
   k_go;show#[a,ns,46,(↥g:Nat),rfl,sS,I,by decide,by decide,(),?_];let Tw:=aD ns 46 (m:=(↥g:Nat)) ();let bi:=aA ns 46 (m:=(↥g:Nat)) ();generalize Υ ns 46 (↥g:Nat)=ii at Tw bi⊢;let#[i,rfl]:=aa4 Tw;let hi:i<↥g:=()
   let#[cc,bn,ez]:=am3 hi;k_go;show#[a,ns,47,9,rfl,sS,I,by decide,by decide,by decide,?_];obtain⟨x,R,apO⟩:∃x,Ι ("ab0 /<.?'":Str).cps.toList (Υ ns 47 9)=↑x/\x<127:=by
    let k0:=aD ns 47 (m:=9) (by decide);let k1:=aA ns 47 (m:=9) (by decide);let#[x,g1,g2]:=nj (xs:=("ab0 /<.?'":Str).cps.toList) k0 (by rw[show("ab0 /<.?'":Str).cps.toList.length=9 by fin2];omega);show#[x,g1,(show ∀x∈("ab0 /<.?'":Str).cps.toList,x<127 by fin2) x g2]
   show gY (by fin2) R ?_;f_len;show Δ ?_>>=gY () (aJ bn) ?_>>=gM (λh=>?_) (λh=>?_)
   rotate_left
   .show Α (fin g C G _ _ bw L gG dm D)
   let Ϻ:x≠cc:=λe=>h (by rw[e])
   let ls:↥(#[#v[x]]:Str)=1:=rfl;k_go;show gq () ?_;let y1:=nG g none ↑(i:Int);let y2:=nG g ↑((i:Int)+1) none;lk;show bW (by rw[ls];omega) ?_>>=gq () ?_*>bW (by rw[len_app,ls];omega) ?_;let e1:(ό g none ↑(i:Int)++#[#v[x]]++ό g ↑((i:Int)+1) none).cps.toList=g.cps.toList.take i++x::g.cps.toList.drop (i+1):=by
    rw[au,au,xx,show((i:Int)+1)=((i+1:Nat):Int)from rfl,adE (show i+1<=↥g from hi),aq8];rfl
   let w1:Br (ό g none ↑(i:Int)++#[#v[x]]++ό g ↑((i:Int)+1) none):=by
    show#[aoC (FJ.symm<|>ez) e1 () Yj Ϻ,by rw[len_app,len_app,ls];omega,λd hd=>?_];rw[e1]at hd;obtain hd|hd:=adi.mp hd
    .have :=Lh d (aeB hd);omega
    .obtain hd|hd:=aaF.mp hd
     .omega
     .have :=Lh d (af0 hd);omega
   generalize ό g none ↑(i:Int)++#[#v[x]]++ό g ↑((i:Int)+1) none=zz at w1⊢;f_len;f_tup;lk;show#[ω,λvM vZ=>?_]*>fin zz (ν "mark",0) vM _ _ _ (L<|>(ζ.upd vZ)) ο (by fin2) (.inl #[w1,rfl])
  let M:∀(C:Str×Int)(G:δ)(bw:Hp),ζ yt bw->bw G=↑(.tup [.str C.1,.int C.2])->C.1∈kW->C=(if lv=false/\((mo:Nat):Int)<od then(ν "gone",od)else Ϝ false false ↑n)->Ζ (fD true P w K mg base qy "law" (ς fK) f Ϲ A' outer s0 H E) ((Ψ fK).drop 16) {nx:=λ_ H'=>Q .non H',rt:=Q} (wK a c b v lv n A.b d tl od mo jW g G none none none) bw:=by
   intro C G bw L gG dm bp;w_up;show Δ ?_>>=dw W (oO (L<*WN)) ?_>>=Β (λh=>?_) (λh=>?_)
   .rw[show ie S lv mo n=(ν "later",((i0:Nat):Int))by unfold ie;rw[aI];show if_pos h]at D;f_len;f_tup;lk;show dw W (oO (L<*WN)) ?_>>=#[ω,λvM vZ=>?_]*>QX (ν "later",((i0:Nat):Int)) vM _ (L<|>(ζ.upd vZ)) ο (show ν "later"∈kW by fin2) D
   .rw[show ie S lv mo n=C by unfold ie;rw[aI,a8,if_neg h];show bp.symm]at D;show Α (QX C G bw L gG dm D)
  let U:∀(G:δ)(bw:Hp),ζ yt bw->bw G=↑(.tup [.str (Ϝ false false ↑n).1,.int (Ϝ false false ↑n).2])->Ζ (fD true P w K mg base qy "law" (ς fK) f Ϲ A' outer s0 H E) ((Ψ fK).drop 15) {nx:=λ_ H'=>Q .non H',rt:=Q} (wK a c b v lv n A.b d tl od mo jW g G none none none) bw:=by
   intro G bw L gG;let dm:=Fg false false ↑n;w_up;show Δ ?_>>=Β (λh=>?_) (λh=>?_)
   .let bq:lv=false:=by
     cases lv with
     |false=>rfl
     |true=>show absurd (V.str.inj h) (by fin2)
    lk;show Β (λh2=>?_) (λh2=>?_)
    .f_len;f_tup;lk;show#[ω,λvM vZ=>?_]*>M (ν "gone",od) vM _ (L<|>(ζ.upd vZ)) ο (show ν "gone"∈kW by fin2) (if_pos #[bq,h2]).symm
    .show Α (M _ G bw L gG dm (if_neg λz=>h2 z.2).symm)
   .lk;show Α (M _ G bw L gG dm (if_neg λz=>h ?_).symm);rw[z.1];fin2
  w_up;f_tup;let yes:sizeOk n->Ϝ false false ↑n=(ν "none",0):=λh=>if_pos h
  let no:¬sizeOk n->Ϝ false false ↑n=(ν "size",0):=λh=>if_neg h
  lk;show Β (λh=>?_) (λh1=>?_)
  .lk;show#[ω,λp hp=>U p _ (ζ.upd hp) (by rw[no λz=>absurd z.1 ()];show ο)]
  lk;show Β (λh=>?_) (λh2=>?_)
  .lk;show#[ω,λp hp=>U p _ (ζ.upd hp) (by rw[no λz=>absurd z.2 ()];show ο)]
  lk;show#[ω,λp hp=>U p _ (ζ.upd hp) (by rw[yes #[(),()]];show ο)]
 w_up;show Ϛ ?_*>bD (pl:=_) hr Ο (h:=?_);f_are;show#[A.b,cB mg,A.dx,_,true,4,_,yu mg,rfl,zA.bk.ins,by rfl,M1,by decide,id,?_]>>=#[A,B,od,rfl,zA.bk,zA.mm,λR=>?_,(λz=>absurd z ()),λR br d' H' hd' o' k'=>?_]
 .show rest A B rm rfl JG (by rw[vP]at ux;show ux) zA O.hd () vP
 .let bt:nO cs all {B with done:=B.done.drop (od-B.known).toNat,known:=od}:=#[O.hi.go R br,O.hd,O.ok];show rest {A with d:=d'} {B with done:=B.done.drop (od-B.known).toNat,known:=od} H' rfl (λb' u e=>o' _ _ ?_ (JG<*e)) (o' _ _ (~~~a6) (by rw[vP]at ux;show ux)) (bt.Qj () hok k') O.hd rfl vP;rw[adF];show λz=>by rw[z,Y A.b (by simp[BA.six])]at e;cases e
end
end _K
theorem PySem.Challenge.cw_turnleaf_k62_leaves_refused_holds : PySem.Challenge.rw_turnleaf_k62_leaves_refused.Holds := by
 show PySem.Challenge.t1 (PySem.Challenge.t0 (by intro P w K mg base a b _ _ c;show _K.aiT a b c))
#print axioms PySem.Challenge.cw_turnleaf_k62_leaves_refused_holds
