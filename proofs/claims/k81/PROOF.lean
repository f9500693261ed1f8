import PyProof.Rows.All
import Wide.All
import KE.KDictOf
import KE.KFromBytes
import KE.KIntText
import KE.KNestM
import Wide.FinOn
import Lean
import PyProof.EqAt
import PyProof.EqKinds
import PyProof.TupleCall
import PyProof.NeData
import PyProof.ZipIter
import PyProof.WalksEnum
import PyProof.Rows.SetFrom
import PyProof.StrLawsTight
import PyProof.StrLawsChain
import PyProof.StrCalls2
import PyProof.ListStr
import PyProof.Rows.StrOrd
import KE.KRevIter
import PyProof.ExcInit
import PyProof.InstStoreFacts
import PyProof.ExcArgs
import PyProof.ExcAttrAll.ValueError
import PyProof.NsDelKeeps
import PyProof.RulesAs
import OpenK.KCls
import PyProof.Rows.TupAssign
import PyProof.StrLawsIn
import KE.KDictSum
import PyProof.DictWalks
import PyProof.Rows.CountFlat
import KE.KTryMore
import KE.KxWritten
import KE.KStrOpen
import KE.KSortTup
import KE.KNest
import PyProof.FString5
import KE.KDictList
import PySem.Challenge.RW_turnleaf_k81_lines_of_a_desk
open PySem renaming Addr->δ,Value->ε,Shared->ν,wpAny->π,wpAny_bind->Ϧ,model->ϧ,Stmt->Ϩ,Expr->Ϫ,Heap->ϫ,World->Ϯ,sizeLine_eq->ϯ,Program->ϰ,sizeLine->ϱ,wpAny_pure->ϲ,starEach->ϳ,Around->ϴ,wpAny_mono->ab9,wpAny_holding->acK,compareOp->adA,wpAny_standAt->ag2,wpAny_truthy_bool->ahM,wpAny_loadPart_at->aiq,Scope->aiZ,FuncData->ajB,wpAny_Call_Name_kw->aky,codeAny_mono->akz,wpAny_field->akC,call_meets->ame,wpAny_setField->amj,codeAny_builtin->anq,SetTable->anT,wpAny_call->aon,ExceptHandler->aot,codeAny_call_builtin->aoR,swapsWith->ao7,wpAny_isSubtype_exc->apg,wpAny_handleBy_cons->api,wpAny_passesOwn->apy,Builtin->apB,assignEach->apW,PassesOwn->ap5,NameKind->aqu
open PySem.Str renaming ofString->μ,join->aep,empty->akU,length->arN
open PySem.W renaming Frag->ϩ,findIn->afk,specialIn->aju,mg_of->alF,mroIn->anK,emptyDict->aod,exmOne->aox,hasDictIn->aoB,keepIn->aoT,kitOne->aoY,kia_one->apj,instObj->aqU,typeIn->arL,plainGet->arM,takerIn->arP,methodCall_KW->arS,codeIn->arV,looks_findIn->arY,takesIn->ar4,readsIn->ar8,findCls->ar9,plainOver->asd,clsIn->ash,fnOf->asx,callWith_K->asz,subIn->asB,any_some->asH,InstAt->asW,plainGet_of->asY,isFn->asZ,looks_clsIn->as3,cellsFrom_some->atq,lookIn->atB,exmAny->atD,methodObj->atF,makesIn->atG,nsIn->atR,Looks->atV,looks_mroIn->atX,callWith_K0->atY,kitAny->atZ,findObj->at5,excIn->at8,notCls->at9
open Nat renaming le_refl->Ϭ,lt_of_lt_of_le->abr,ne_of_lt->acb,le_trans->adQ,lt_of_le_of_lt->agE,zero_le->aht,min_eq_left->ajw,mul_le_mul_right->ajU,add_le_add_left->aki,lt_irrefl->ali,le_add_right->am6,le_succ->aoF,sub_zero->apY,lt_succ_of_lt->aqJ,le_of_lt->aqX,le_of_eq->ark,sub_self->arq,ne_of_gt->arU,zero_add->arW,succ_le_succ->asm,min_eq_right->aso,le_of_ble_eq_true->asu,mul_comm->asA,pow_le_pow_right->asL,toDigits_ne_nil->asQ,mul_assoc->as6,lt_trichotomy->atk,succ_mul->atn,pow_succ->ato,lt_succ_self->atp,min_le_left->atJ,toDigits->at6,min_self->at7
open List renaming length_map->ϭ,getElem?_eq_some_iff->aab,getElem?_eq_getElem->aag,mem_of_getElem?->aan,length_cons->aap,size_toArray->aaq,mem_cons->aaz,mem_singleton->aa0,length_append->aa6,mem_cons_of_mem->abk,all_eq_true->ach,getElem?_map->acj,getD_eq_getElem?_getD->acu,map_cons->acz,mem_append->acL,mem_append_right->adV,mem_cons_self->ad1,mem_map->ad8,getElem?_append_left->aed,take_of_length_le->aet,map_append->aeS,toArray->ae4,range->afd,sublist_cons_self->afo,getElem?_append_right->afZ,length_drop->af0,lookup_cons->af8,map_map->agf,length_singleton->ahi,length_eq_zero_iff->ahE,length_take->ah0,foldl_cons->aiV,mem_map_of_mem->aja,length_filter_le->aji,dropLast_concat_getLast->ajk,lookup->ajp,mem_append_left->ajE,take_length->ajX,take_add_one->aj9,contains_cons->akN,mem_of_mem_drop->ak5,getElem?_of_mem->ak7,replicate->alM,drop_zero->alN,mem_filter->alO,append_nil->alV,nodup_cons->alW,length->alZ,find?_cons->al9,exists_cons_of_ne_nil->amm,not_mem_nil->amv,drop_eq_getElem_cons->anw,ne_nil_of_length_eq_add_one->anz,getElem?_cons_zero->aog,eq_nil_of_length_eq_zero->aoq,getElem?_set_self->aou,getElem?_concat_length->aoM,map_take->ao3,eq_append_cons_of_mem->ao8,mem_of_mem_take->apf,mem_reverse->apl,any_eq_true->apt,getElem_of_mem->apD,all_map->ap4,mem_filterMap->ap9,any_cons->aqd,drop_eq_nil_of_le->aqy,length_eq_one_iff->aqE,any_eq_false->aqG,append_assoc->aqO,count_append->aqR,nodup_nil->aqS,getElem?_eq_none->arp,filter_cons->arw,getElem_mem->arx,getElem?_set_ne->arK,filterMap_cons->arO,forIn_cons->arQ,mem_range->arX,getElem?_zip_eq_some->ar3,length_range->ar6,nodup_append->ar7,mapM_toArray->asa,sublist_append_left->asb,all_cons->ase,map_id->asf,sum_cons->asi,map_drop->asj,getElem_inj->asl,cons_append->asp,drop_of_length_le->asr,range_succ_eq_map->ass,of_mem_zip->asv,length_replicate->asw,length_set->asy,getElem?_reverse->asF,append_inj->asG,forall_mem_cons->asI,count_cons_self->asJ,forIn_nil->asM,replicate_succ->asO,map_congr_left->asR,perm_singleton->asS,reverse_append->asT,length_reverse->asU,zip_cons_cons->as9,count_eq_zero->atb,take_sublist->atc,foldl_append->atf,reverse_perm->ath,reverse_cons->atl,countP_cons->atw,ext_getElem->atx,all_toArray->atz,drop_length->atA,map->atE,length_nil->atH,count_cons->atL,range_succ->atM,nil_append->atN,length_zip->atO,all_append->atP
open PySem.Heap renaming get?_push_of_some->aai,get?_update_other->aaK,get?_push_size->abM,lt_size->abU,get?_update_self->adZ,get?_none_of_le->akO,SameBut->an0,get?_update_ne->apF,size_push->arZ,size_after_update->asq,MadeExcOf->asN,get?_push_at->atg,get?_push_ne->ati,size_update->aty
open Bool renaming false_ne_true->aaP,and_eq_true->aa9,true_and->adF,false_and->afy,eq_iff_iff->agb,eq_false_iff->akc,or_eq_true->anO,false_eq_true->aqh,and_false->ar0,not_eq_true->asn,and_eq_true_iff->asK,or_false->as4,false_or->as7,and_true->ata,not_eq_true'->ate,and_assoc->atQ,or_true->at4
open Option renaming map_eq_some_iff->aeF,isSome_iff_exists->akJ,bind_some->arF,getD_none->atr,getD_some->atu
open Int renaming eq_ofNat_of_zero_le->aeV,emod_lt_of_pos->aoz,emod_nonneg->aql,toNat_natCast->ar5,add_emod->asC,mul_emod->asD,emod_emod->as5,emod_eq_of_lt->atj,zero_add->atm
open Array renaming getElem?_setIfInBounds_ne->agC,getElem?_eq_some_iff->aia,length_toList->an6,getElem?_eq_none->aow,getElem?_toList->aoI,toList_append->arR,perm_iff_toList_perm->arT,find?_toList->asV,forIn_toList->as8,size_append->atd,toList_inj->atv,getD->atU,toList->at3
set_option maxHeartbeats 4000000
set_option Elab.async false
set_option linter.all false
set_option compiler.extract_closed false
set_option maxRecDepth 100000
section
open PySem PySem.W PyProof.Rows
theorem _Y.mp {α β : Type} {f g : α → β} {L : List α} (n : Nat) (h : (L.take n).map f = (L.take n).map g) (i : (L.drop n).map f = (L.drop n).map g) : L.map f = L.map g := by
  rw [← List.take_append_drop n L, List.map_append, List.map_append, h, i]
theorem _Y.al {α : Type} {p : α → Bool} {L : List α} (n : Nat) (h : (L.take n).all p = true) (i : (L.drop n).all p = true) : L.all p = true := by
  rw [← List.take_append_drop n L, List.all_append, h, i]; rfl
def _Y.tk {α : Type} : List α → Nat → List α
  | [], _ => []
  | _ :: _, 0 => []
  | a :: l, n + 1 => a :: _Y.tk l n
def _Y.dr {α : Type} : List α → Nat → List α
  | [], _ => []
  | a :: l, 0 => a :: l
  | _ :: l, n + 1 => _Y.dr l n
theorem _Y.tke {α : Type} : ∀ (L : List α) (n : Nat), _Y.tk L n = L.take n
  | [], n => by rw [List.take_nil]; rfl
  | _ :: _, 0 => rfl
  | a :: l, n + 1 => by rw [List.take_succ_cons, ← _Y.tke l n]; rfl
theorem _Y.dre {α : Type} : ∀ (L : List α) (n : Nat), _Y.dr L n = L.drop n
  | [], n => by rw [List.drop_nil]; rfl
  | _ :: _, 0 => rfl
  | a :: l, n + 1 => by rw [List.drop_succ_cons, ← _Y.dre l n]; rfl
theorem _Y.li {α : Type} {L M : List α} (n : Nat) (h : L.take n = _Y.tk M n) (i : L.drop n = _Y.dr M n) : L = M := by
  rw [← List.take_append_drop n L, h, i, _Y.tke, _Y.dre, List.take_append_drop]
abbrev _Y.q0 (q : Program) : Program := { q with main := { q.main with body := [] } }
abbrev _Y.l0 (q : Program) (l : List Str) : List Str := looseW q l ++ ((recsOf q).map (·.name) ++ ((litsOf q).map (·.1) ++ (clssOf q (looseW q l)).map (·.name)))
theorem _Y.left {p q : Program} {l : List Str} {Xt : Shared → Bool} {β γ : Type} {Yf : Shared → List β × List γ} {Ya : World → List β × List γ} {N : Nat} (h : LeftO p (_Y.q0 q) (_Y.l0 q l) (fun _ => true)
    (fun s => ((((recsOf q).take 45).map fun d => s.heap.shapeAt mainGlobals d.name, ((recsOf q).drop 45).map fun d => s.heap.shapeAt mainGlobals d.name, (ownsOf q).all fun o => s.heap.ownExcOk o.name o.chain o.bm o.newId && s.heap.quietOk o.name), (s.heap.keysOk (looseW q l) ((recsOf q).map (·.name)) ((litsOf q).map (·.1)) ((clssOf q (looseW q l)).map (·.name)), tablesOk q s.heap, Xt s), (((recsOf q).take 45).all fun d => s.heap.tab0Ok d.name, ((recsOf q).drop 45).all fun d => s.heap.tab0Ok d.name, valsOk q s.heap), (pinSeenD q (drecsOf q) s, (plainSeenE q (looseW q l) s).take 15, (plainSeenE q (looseW q l) s).drop 15, plainSeenD q l s, clsSeenW q l s), ((wideSeen q s).1.take 45, (wideSeen q s).1.drop 45, (wideSeen q s).2), ((Yf s).1.take 270, ((Yf s).1.drop 270).take 270, ((Yf s).1.drop 270).drop 270, (Yf s).2)))
    (fun w => ((((recsOf q).take 45).map fun d => some d.shape, ((recsOf q).drop 45).map fun d => some d.shape, true), (true, true, true), (true, true, true), (pinGoodD (drecsOf q), _Y.tk (plainGoodE q (looseW q l)) 15, _Y.dr (plainGoodE q (looseW q l)) 15, plainGoodD q l, clsGoodW q l), (_Y.tk (wideGood q).1 45, _Y.dr (wideGood q).1 45, true), (_Y.tk (Ya w).1 270, _Y.tk (_Y.dr (Ya w).1 270) 270, _Y.dr (_Y.dr (Ya w).1 270) 270, (Ya w).2 ++ []))) N) : LeftO p q l Xt Yf Ya N := by
  intro w
  have h := h w
  cases e : openEnds treeTable p w N with
  | none => rw [e] at h; cases h
  | some s =>
    rw [e] at h
    have h := Option.some.inj h
    simp only [openSeen, openGood, Prod.mk.injEq] at h
    obtain ⟨⟨a1, a2, a3, a4, _⟩, ⟨b1, b2, b3⟩, ⟨c1, c2, c3⟩, ⟨d1, d2, d3⟩, ⟨e1, e2, e6, e3, e5⟩, ⟨e4, e7, e8⟩, f1, f2, f3, f4⟩ := h
    simp only [Bool.and_eq_true, seen, expectedOf, Seen.mk.injEq, tabsOk] at a1 a3 a4
    obtain ⟨_, _, _, g1, g2, g3, g4⟩ := a1
    obtain ⟨⟨⟨⟨⟨⟨_, i1⟩, i2⟩, i3⟩, _⟩, _⟩, i4⟩ := a3
    obtain ⟨⟨⟨_, j1⟩, _⟩, j2⟩ := a4
    have yy : Yf s = Ya w := Prod.ext (_Y.li 270 f1 (_Y.li 270 f2 f3)) (f4.trans (List.append_nil _))
    have y1 : wideSeen q s = wideGood q := Prod.ext (_Y.li 45 e4 e7) e8
    have k1 : (recsOf q).map (fun d => s.heap.shapeAt mainGlobals d.name) = (recsOf q).map fun d => some d.shape := _Y.mp 45 b1 b2
    have k2 := _Y.al 45 d1 d2
    have j3 : s.heap.noSeerOk = true := by
      rcases Bool.or_eq_true_iff.mp j2 with z | z
      · cases z
      · exact z
    show some (openSeen q l _ Xt true s, Yf s) = some (openGood q l, Ya w)
    rw [yy]
    congr 2
    simp only [openSeen, openGood, Prod.mk.injEq]
    refine ⟨?_, a2, ?_, ?_, e1, _Y.li 15 e2 e6, e3, y1, e5⟩
    · unfold seen expectedOf
      simp only [Seen.mk.injEq, List.map_map]
      exact ⟨k1, b3, rfl, g1, g2, by rw [Bool.and_eq_true]; exact g3, g4⟩
    · simp only [Bool.and_eq_true]
      exact ⟨⟨⟨⟨⟨⟨c1, i1⟩, i2⟩, i3⟩, c2⟩, c3⟩, i4⟩
    · unfold tabsOk
      simp only [Bool.and_eq_true, Bool.or_eq_true]
      exact ⟨⟨⟨k2, j1⟩, d3⟩, .inr j3⟩
theorem PySem.Challenge.PySem.W.holds_open {Z : Prop} {r : OpenRow} {q : Program} {loose : List Str} {Xt : Shared → Bool} {XP : (Str → Option Value) → Heap → Prop} {β γ : Type} {Yf : Shared → List β × List γ} {Ya : World → List β × List γ} {YP : World → Heap → Prop} {d : DefRec} {kwd : List (Str × Expr)} {N : Nat} (a : LeftO r.prog (_Y.q0 q) (_Y.l0 q loose) (fun _ => true)
    (fun s => ((((recsOf q).take 45).map fun d => s.heap.shapeAt mainGlobals d.name, ((recsOf q).drop 45).map fun d => s.heap.shapeAt mainGlobals d.name, (ownsOf q).all fun o => s.heap.ownExcOk o.name o.chain o.bm o.newId && s.heap.quietOk o.name), (s.heap.keysOk (looseW q loose) ((recsOf q).map (·.name)) ((litsOf q).map (·.1)) ((clssOf q (looseW q loose)).map (·.name)), tablesOk q s.heap, Xt s), (((recsOf q).take 45).all fun d => s.heap.tab0Ok d.name, ((recsOf q).drop 45).all fun d => s.heap.tab0Ok d.name, valsOk q s.heap), (pinSeenD q (drecsOf q) s, (plainSeenE q (looseW q loose) s).take 15, (plainSeenE q (looseW q loose) s).drop 15, plainSeenD q loose s, clsSeenW q loose s), ((wideSeen q s).1.take 45, (wideSeen q s).1.drop 45, (wideSeen q s).2), ((Yf s).1.take 270, ((Yf s).1.drop 270).take 270, ((Yf s).1.drop 270).drop 270, (Yf s).2)))
    (fun w => ((((recsOf q).take 45).map fun d => some d.shape, ((recsOf q).drop 45).map fun d => some d.shape, true), (true, true, true), (true, true, true), (pinGoodD (drecsOf q), _Y.tk (plainGoodE q (looseW q loose)) 15, _Y.dr (plainGoodE q (looseW q loose)) 15, plainGoodD q loose, clsGoodW q loose), (_Y.tk (wideGood q).1 45, _Y.dr (wideGood q).1 45, true), (_Y.tk (Ya w).1 270, _Y.tk (_Y.dr (Ya w).1 270) 270, _Y.dr (_Y.dr (Ya w).1 270) 270, (Ya w).2 ++ []))) N) (b : ∀ w s, Yf s = Ya w → YP w s.heap) (c : ∀ w h h', YP w h → (∀ b o, h.get? b = some o → h'.get? b = some o) → YP w h') (e : ∀ s, Xt s = true → XP (s.heap.nsMap mainGlobals) s.heap) (f : ∀ mg h h', XP mg h → (∀ b o, h.get? b = some o → h'.get? b = some o) → XP mg h') (g : defOf q r.name = some (d, kwd)) (i : r.prog.theDef r.name = some (d.params, d.body, d.scope)) (j : kwWritten? d.params.kwonlyargs d.params.kw_defaults = some kwd) (k : ∀ s, Xt s = true → RecFacts r.records s.heap) (l : (!r.writes || r.records.isEmpty) = true) (m : Z ∧ r.wellSaid = true) (n : (chainsOk q && opensWell r.prog && (frees r.toRowW && r.within.isEmpty)) = true) (o : r.prog.bare) (p : r.toRowW.promised) (u : Z → WalkO q loose XP YP r.toRowW d kwd fun f v => PySem.call f v) : r.Holds := _root_.PySem.W.holds_open (_Y.left a) b c e f g i j k l m.2 n o p (u m.1)
end
local macro_rules | `(tactic| walk_at "sc") => `(tactic| exact ⟨rfl, rfl, rfl, by decide +kernel, rfl, by decide +kernel, by decide +kernel⟩)
local macro_rules | `(tactic| omega) => `(tactic| lia)
open Lean in
set_option hygiene false in
local macro_rules(kind:=Lean.Parser.Command.declaration)|s=>do
 let d:=s[1]
 let k:=d[0]
 unless k.isAtom&&k.getPos?.isSome&&s[0][1].getArgs.isEmpty&&s[0][3].getArgs.isEmpty do Macro.throwUnsupported
 let a:=k.getAtomVal
 let g(s:Syntax):MacroM Syntax:=do
  let s:=s.rewriteBottomUp λx=>if x.isOfKind ``Parser.Term.basicFun then x.setArg 0 (mkNullNode (x[0].getArgs.map λy=>if y.isOfKind ``Parser.Term.hole then mkIdent `_x else y)) else x
  if (s.find? (·.isOfKind ``Parser.Tactic.renameI)).isSome then `(set_option tactic.hygienic true in $(⟨s⟩):command) else return s
 let z:=d.setArg 0 (mkAtom a)
 let t:=d[2][1]
 if a=="theorem" then return<-g (s.setArg 1 z)
 if a=="def"&&d[3][1].isOfKind ``Parser.Term.byTactic then
  let mut b:=d[2][0]
  let mut t:=t[0]
  if let`($f:ident $x*):=(⟨t[1]⟩:Term) then if (f.getId==`Def&&x.size==4)||(f.getId==`FD&&x.size==6) then
   b:=mkNullNode (#[(<-`(bracketedBinder|(T:Txt K mg))).raw]++b.getArgs)
   t:=t.setArg 1 (<-`($f P w K mg base true $x*))
  return<-g (s.setArg 1 (mkNode ``Parser.Command.theorem #[mkAtom "theorem",d[1],mkNode ``Parser.Command.declSig #[b,t],d[3]]))
 if a=="def"||a=="abbrev" then return(s.setArg 1 z).setArg 0 (s[0].setArg 4 (mkNullNode #[mkNode ``Parser.Command.noncomputable #[mkAtom "noncomputable"]]))
 if a=="inductive"&&t[0][1].getId==`Sp then
  let b:=d[2][0].getArgs
  let mut e:=#[]
  for x in b do if x.isOfKind ``Parser.Term.explicitBinder then e:=e++x[1].getArgs
  let q<-`($(Syntax.mkApp ⟨d[1][0]⟩ (e.map λx=>⟨x⟩)) vs H Q E)
  let rec g:Nat->Syntax->MacroM Syntax
   |0,x=>return x
   |n+1,x=>do if x.isOfKind ``Parser.Term.arrow then return x.setArg 2 (<-g n x[2]) else `($(⟨x⟩)->$q)
  let c:=d[4][0]
  let o:=c[4]
  let y<-g 99 o[1][0][1]
  let p<-`(bracketedBinder|(vs:List V))
  let h<-`(bracketedBinder|(H:Hp))
  let u<-`(bracketedBinder|(Q:VK))
  let w<-`(bracketedBinder|(E:XK))
  let o:=o.setArg 1 (o[1].setArg 0 (o[1][0].setArg 1 y))
  return s.setArg 1 (((z.setArg 2 (d[2].setArg 0 (mkNullNode (b++#[p.raw,h,u,w])) |>.setArg 1 (t.setArg 0 (t[0].setArg 1 (<-`(Prop)))))).setArg 4 (d[4].setArg 0 (c.setArg 4 o))))
 Macro.throwUnsupported
set_option hygiene false in
open Lean in
local macro_rules|`(tactic|exists $es,*)=>do
 let e:=es.getElems
 let S:=e[0]!
 let q:=Syntax.mkApp (mkIdent (if e[1]! matches `(_) then `ϖ else `Ε)) #[]
 let a:=if S.raw.isIdent then mkIdent `S else mkIdent `N
 let mut r:=#[<-(if e[1]! matches `(_) then `(tactic|refine $q ($a:ident:=$S) (λ_ _ A _ s H vs Q E $(e[2]!) h=>?_)) else `(tactic|refine $q ($a:ident:=$S) $(mkIdent (`T++e[1]!.raw.getId)) (λ_ _ A _ s H vs Q E $(e[2]!) h=>?_))),<-`(tactic|intro X _),<-`(tactic|let $(e[3]!):term:=h)]
 for x in e[4:] do
  r:=r.push (<-match x with
   |`(1)=>`(tactic|have hsz:=ϯ)
   |`(2)=>`(tactic|have nd:=$(mkIdent (S.raw.getId++`nd)))
   |`($y:ident $z:ident)=>`(tactic|have $y:ident:= @$z P w K mg base T)
   |_=>let n:=x.raw.getId;`(tactic|have $(mkIdent n.getRoot):ident:=$(mkIdent (`T++n.replacePrefix n.getRoot .anonymous))))
 `(tactic|($r;*))
theorem _Z.e02{p q:Prop}(h:p/\q)(k:p->q->g):(g:Prop):=k h.1 h.2
theorem _Z.e03{p q r:Prop}(h:p/\q/\r)(k:p->q->r->g):(g:Prop):=_Z.e02 h.2 (k h.1)
theorem _Z.e04{p q r s:Prop}(h:p/\q/\r/\s)(k:p->q->r->s->g):(g:Prop):=_Z.e03 h.2 (k h.1)
theorem _Z.e05{p q r s t:Prop}(h:p/\q/\r/\s/\t)(k:p->q->r->s->t->g):(g:Prop):=_Z.e04 h.2 (k h.1)
theorem _Z.e06{p q r s t i:Prop}(h:p/\q/\r/\s/\t/\i)(k:p->q->r->s->t->i->g):(g:Prop):=_Z.e05 h.2 (k h.1)
theorem _Z.e11{p:α->Prop}(h:∃x,p x)(k:∀x,p x->g):(g:Prop):=h.elim k
theorem _Z.e12{p q:α->Prop}(h:∃x,p x/\q x)(k:∀x,p x->q x->g):(g:Prop):=h.elim λx h=>_Z.e02 h (k x)
theorem _Z.e13{p q r:α->Prop}(h:∃x,p x/\q x/\r x)(k:∀x,p x->q x->r x->g):(g:Prop):=h.elim λx h=>_Z.e03 h (k x)
theorem _Z.e14{p q r s:α->Prop}(h:∃x,p x/\q x/\r x/\s x)(k:∀x,p x->q x->r x->s x->g):(g:Prop):=h.elim λx h=>_Z.e04 h (k x)
theorem _Z.e15{p q r s t:α->Prop}(h:∃x,p x/\q x/\r x/\s x/\t x)(k:∀x,p x->q x->r x->s x->t x->g):(g:Prop):=h.elim λx h=>_Z.e05 h (k x)
theorem _Z.e21{p:α->β->Prop}(h:∃x y,p x y)(k:∀x y,p x y->g):(g:Prop):=h.elim λx h=>_Z.e11 h (k x)
theorem _Z.e22{p q:α->β->Prop}(h:∃x y,p x y/\q x y)(k:∀x y,p x y->q x y->g):(g:Prop):=h.elim λx h=>_Z.e12 h (k x)
theorem _Z.e23{p q r:α->β->Prop}(h:∃x y,p x y/\q x y/\r x y)(k:∀x y,p x y->q x y->r x y->g):(g:Prop):=h.elim λx h=>_Z.e13 h (k x)
theorem _Z.e24{p q r s:α->β->Prop}(h:∃x y,p x y/\q x y/\r x y/\s x y)(k:∀x y,p x y->q x y->r x y->s x y->g):(g:Prop):=h.elim λx h=>_Z.e14 h (k x)
theorem _Z.e25{p q r s t:α->β->Prop}(h:∃x y,p x y/\q x y/\r x y/\s x y/\t x y)(k:∀x y,p x y->q x y->r x y->s x y->t x y->g):(g:Prop):=h.elim λx h=>_Z.e15 h (k x)
theorem _Z.e31{p:α->β->γ->Prop}(h:∃x y z,p x y z)(k:∀x y z,p x y z->g):(g:Prop):=h.elim λx h=>_Z.e21 h (k x)
theorem _Z.e32{p q:α->β->γ->Prop}(h:∃x y z,p x y z/\q x y z)(k:∀x y z,p x y z->q x y z->g):(g:Prop):=h.elim λx h=>_Z.e22 h (k x)
theorem _Z.e33{p q r:α->β->γ->Prop}(h:∃x y z,p x y z/\q x y z/\r x y z)(k:∀x y z,p x y z->q x y z->r x y z->g):(g:Prop):=h.elim λx h=>_Z.e23 h (k x)
theorem _Z.e34{p q r s:α->β->γ->Prop}(h:∃x y z,p x y z/\q x y z/\r x y z/\s x y z)(k:∀x y z,p x y z->q x y z->r x y z->s x y z->g):(g:Prop):=h.elim λx h=>_Z.e24 h (k x)
set_option hygiene false in
open Lean Parser.Tactic in
local macro_rules(kind:=Lean.Parser.Tactic.tacticLet__)|s=>do
 match s with
 |`(tactic|let $p:term:=$e)=>do
  if let`($f:ident $_ $o):=e then if let`(#[$s:ident,$a:ident,$h,$j,$g:ident]):=p then if f.getId==`Η then return<-`(tactic|(let #[$s,$a]:=$e;generalize upd $h $j $o=$g at $s:ident $a:ident ⊢))
  let`(#[$x,*]):=p|Macro.throwUnsupported
  let d:=e.raw.isIdent
  let mut i:Array Term:=#[]
  let mut q:=#[]
  let mut r:=#[]
  for y in x.getElems do
   let mut z:=y
   unless y matches `(_)||y.raw.isIdent&&y.raw.getId !=`rfl do
    z:=mkIdent (.mkSimple s!"_{if d then e.raw.getId.toString else ""}{i.size}")
    r:=r.push (<-if y.raw.isIdent then `(tactic|subst $z) else `(tactic|let $y:term:=$z))
   i:=i.push z
   q:=q.push (<-if z.raw.isIdent then `(rcasesPatLo|$(⟨z⟩):ident) else `(rcasesPatLo|_))
  let n:=i.size
  let c<-if d then `(tactic|try clear $e) else `(tactic|skip)
  let f(n:Nat)(i:Array Term):MacroM (TSyntax `tactic):=do
   let mut a:=#[]
   for m in if n<5 then [1,2,0,3] else [2,3,0,1] do if m<n then a:=a.push (<-`(tacticSeq|refine $(mkIdent (.mkStr `_Z s!"e{m}{n-m}")) $e ?_))
   `(tactic|((first $[|$a]*);$c;intro $i*))
  let b:=i.extract 3 n
  let k:=mkIdent `_c
  let j<-if n<5 then `(tactic|fail) else `(tactic|($(<-f 4 ((i.extract 0 3).push k));let #[$b,*]:=$k))
  let t:=#[<-if n<3 then `(tactic|obtain ⟨$q,*⟩:=$e) else `(tactic|first|$(<-f n i):tactic|$j:tactic|obtain ⟨$q,*⟩:=$e)]++r
  `(tactic|($t;*))
 |`(tactic|let $x:ident:=!$f:ident)=>`(tactic|have $x:ident:= @$f P w K mg base T)
 |_=>return(s.setKind ``tacticHave__).setArg 0 (mkAtom "have")
local macro_rules|`(#[$x,*])=>`(⟨$x,*⟩)
local macro_rules|`(#v[$x,*])=>`(List.toArray [$x,*])
local macro_rules|`(tactic|show $e)=>`(tactic|refine $e)
local macro_rules|`(tactic|lk)=>`(tactic|walk_at "ex")
local macro_rules|`(tactic|cbv)=>`(tactic|walk_at "go")
local macro_rules|`(tactic|f_are)=>`(tactic|walk_at "e")
local macro_rules|`(tactic|f_tup)=>`(tactic|walk_at "s")
local macro_rules|`(tactic|k_go)=>`(tactic|walk_at "A")
local macro_rules|`(tactic|room)=>`(tactic|walk_at "sc")
local macro_rules|`(tactic|w_up)=>`(tactic|walk_at "c")
local macro_rules|`(tactic|f_len)=>`(tactic|walk_at "n")
local macro_rules|`(())=>`(by omega)
local macro_rules|`(tactic|fin2)=>`(tactic|decide+kernel)
local macro_rules|`(↑$e)=>`(some $e)
local macro_rules|`(↥$e)=>`(($e).length)
local macro_rules|`($a<|>$b)=>`(($a).trans $b)
local macro_rules|`($a<*$b)=>`($a _ _ $b)
local macro_rules|`(tactic|show $a*>$b)=>`(tactic|(show $a;show $b))
local macro_rules|`(tactic|show $a>>=$b)=>`(tactic|(show $a;lk;show $b))
set_option tactic.hygienic false
local macro_rules|`(⇑$e)=>`(($e).heap.objs.size)
local macro_rules|`(~~~$e)=>`(by simpa using $e)
set_option hygiene false in
local macro_rules|`(tactic|symm)=>`(tactic|(f_len;show ο ?_))
set_option hygiene false in
local macro_rules|`(∅)=>`(ϧ X.prog X.w)
abbrev MG:=PySem.Str->Option PySem.Value
namespace _L
open PySem PySem.Spec PyProof.Rows
abbrev Key:=Sum Int Str
def qt:Key->ε->Bool
 |.inl k,v=>Value.isInt k v
 |.inr x,v=>Value.isStrOf x v
def ac7(w:Ϯ):Key->Int
 |.inl k=>hashInt k
 |.inr x=>hashStr w x
theorem jl:∀{k:Key}{v:ε},qt k v=true->(∃i t,k=Sum.inl i/\v=Value.int i t)\/(∃x t,k=Sum.inr x/\v=Value.str x t)
 |.inl i,v,h=>by
   let#[t,e]:=Value.isInt_shape (k:=i) (v:=v) h;show .inl #[i,t,rfl,e]
 |.inr x,v,h=>by
   let#[t,e]:=Value.isStrOf_shape (x:=x) (v:=v) h;show .inr #[x,t,rfl,e]
def afF(a b:Int):decide ((Sum.inl a:Key)=Sum.inl b)=(a==b):=by
 by_cases e:a=b
 .subst e;simp
 .let h:¬(Sum.inl a:Key)=Sum.inl b:=λq=>e (Sum.inl.inj q)
  rw[decide_eq_false h];show(beq_eq_false_iff_ne.mpr e).symm
def alr(a b:Str):decide ((Sum.inr a:Key)=Sum.inr b)=decide (a=b):=by
 by_cases e:a=b
 .subst e;simp
 .let h:¬(Sum.inr a:Key)=Sum.inr b:=λq=>e (Sum.inr.inj q)
  rw[decide_eq_false h,decide_eq_false e]
theorem ajt(a:Int)(b:Str):decide ((Sum.inl a:Key)=Sum.inr b)=false:=decide_eq_false (λq=>nomatch q)
theorem ad4(a:Str)(b:Int):decide ((Sum.inr a:Key)=Sum.inl b)=false:=decide_eq_false (λq=>nomatch q)
def jn(prog:ϰ)(w:Ϯ):PySem.KeyKind prog w Key where
 is:=qt
 hash:=ac7 w
 inj:=λv a b g f=>by
  obtain⟨i,t,rfl,rfl⟩|⟨x,t,rfl,rfl⟩:=jl g
  .obtain⟨j,u,rfl,e⟩|⟨y,u,rfl,e⟩:=jl f
   .injection e with e1 _;rw[e1]
   .show nomatch e
  .obtain⟨j,u,rfl,e⟩|⟨y,u,rfl,e⟩:=jl f
   .show nomatch e
   .injection e with e1 _;rw[e1]
 byValue:=λk v h=>by
  obtain⟨i,t,rfl,rfl⟩|⟨x,t,rfl,rfl⟩:=jl h<;>rfl
 pyHash:=λc h=>by
  obtain⟨i,t,rfl,rfl⟩|⟨x,t,rfl,rfl⟩:=jl c
  .show wpAny_pyHash_int h
  .show wpAny_pyHash_str h
 eqBool:=λl c h=>by
  obtain⟨i,t,rfl,rfl⟩|⟨x,t,rfl,rfl⟩:=jl l
  .obtain⟨j,u,rfl,rfl⟩|⟨y,u,rfl,rfl⟩:=jl c
   .rw[afF]at h;show wpAny_eqBool_int h
   .rw[ajt]at h;show SeqAt.EqAt.int_str i t y u _ _ _ _ h
  .obtain⟨j,u,rfl,rfl⟩|⟨y,u,rfl,rfl⟩:=jl c
   .rw[ad4]at h;show SeqAt.EqAt.str_int x t j u _ _ _ _ h
   .rw[alr]at h;show wpAny_eqBool_str h
 «strs» :=λk x t v h=>by
  obtain⟨i,u,rfl,e⟩|⟨y,u,rfl,e⟩:=jl h
  .show nomatch e
  .injection e with e1 _
   subst e1;cases v<;>rfl
inductive V where
 |non|bl (b:Bool)|int (i:Int)|str (x:Str)|byt (b:Array UInt8)|flt (b:UInt64)|ref (a:δ)|ty (n:String)
 deriving DecidableEq
def RelV:V->ε->Prop
 |.non,u=>u=Value.none
 |.bl b,u=>u=Value.bool b
 |.int i,u=>∃t,u=Value.int i t
 |.str x,u=>∃t,u=Value.str x t
 |.byt b,u=>∃t,u=Value.bytes b t
 |.flt b,u=>∃t,u=Value.float b t
 |.ref a,u=>u=Value.ref a
 |.ty n,u=>u=Value.type n
abbrev Vals:List V->List ε->Prop:=Paired RelV
def cN:Option V->Option ε->Prop
 |some v,↑u=>RelV v u
 |none,none=>True
 |_,_=>False
def KV{κ:Type}:List (κ×V)->List (κ×ε)->Prop:=Paired λ(p:κ×V)(q:κ×ε)=>p.1=q.1/\RelV p.2 q.2
inductive HO where
 |lst (xs:List V)
 |tup (xs:List V)
 |dK (Ϸ:List (Key×V))
 |ins (C dx:δ) (fs:List (Str×V))
 |own (x:δ)
 |xd (fs:List (Str×V))
 |met (f x:δ)
 |rng (lo hi:Int)
 |frz (o:Obj) (u:HO)
 |tbl (ps:Array ε)
 |ext (φ:ϫ->Prop)
abbrev Hp:=δ->Option HO
section
variable(P:ϰ)(w:Ϯ)
def Ϟ(H:Hp)(h:ϫ)(a:δ):HO->Prop
 |.lst xs=>↥xs<=ϱ/\∃(e:List ε)(n:Nat),Vals xs e/\h.get? a=some {cls:=.type "list",data:=.seq e.toArray n}
 |.tup xs=>↥xs<=ϱ/\∃e:List ε,Vals xs e/\IsTup h a e.toArray
 |.dK Ϸ=>↥Ϸ<=ϱ/\(a==sysModules)=false/\∃vs,KV Ϸ vs/\h.DictOf (jn P w) a vs
 |.ins C dx fs=>H dx=↑(.own a)/\↥fs<=1000/\dx≠a/\h.get? a=↑(aqU C dx)/\
   ∃mA,h.Ns1 dx mA/\(∀f,cN (fs.lookup f) (mA f))/\PySem.Within mA (fs.map (·.1))
 |.own _=>∃o,h.get? a=↑o
 |.xd fs=>∃mA,h.Ns1 a mA/\∀f,cN (fs.lookup f) (mA f)
 |.rng lo hi=>∃t u v,h.get? a=some {cls:=.type "range",data:=.fields #v[.int lo t,.int hi u,.int 1 v]}
 |.frz o u=>h.get? a=↑o/\Ϟ H h a u
 |.tbl ps=>∃g:Array ε,h.get? a=some {cls:=.none,data:=.fields g}/\TriplesOk g.toList/\∀(p:Pos)(i:ε),codeAmong p g.toList=↑i->∃c oc u q t vs t',i=.ref c/\codeAmong p ps.toList=↑(.str q t)/\H c=↑(.frz oc u)/\oc.data=.fields vs/\vs[1]?=↑(.str q t')
 |.met f x=>h.get? a=↑(atF (.ref f) (.ref x))
 |.ext φ=>φ h/\(∃o,h.get? a=↑o)/\∀h1 h2:ϫ,φ h1->(∀o,h1.get? a=↑o->h2.get? a=↑o)->φ h2
def aG(H:Hp)(h:ϫ):=∀a o,H a=↑o->Ϟ P w H h a o
end
def Rd(H:Hp)(a:δ)(u:HO):Prop:=H a=↑u\/∃o,H a=↑(.frz o u)
structure Un(fs ex:List δ)(H H':Hp)(h h':ϫ):Prop where
 keep:∀b o,h.get? b=↑o->H b=none->b∉fs->b∉ex->h'.get? b=↑o
 slot:∀b o,h.get? b=↑o->H b=none->b∈fs->b∉ex->∃sl,h'.get? b=some {o with slots:=sl}
 free:∀b o,h.get? b=↑o->H b=none->b∉ex->H' b=none
 there:∀b o,h.get? b=↑o->b∉ex->∃o',h'.get? b=↑o'
 tups:∀b xs,H b=↑(.tup xs)->H' b=↑(.tup xs)
 frzs:∀b o u,H b=↑(.frz o u)->H' b=↑(.frz o u)
 tbls:∀b ps,H b=↑(.tbl ps)->∃more,H' b=↑(.tbl (ps++more))
def jV(h:ϫ)(H:Hp):List δ:=(afd h.objs.size).filter λa=>(H a).isSome
def jj(h:ϫ)(H:Hp):ϫ:=W.hideAll h (jV h H)
theorem anL(h:ϫ)(H:Hp):(jj h H).objs.size=h.objs.size:=W.hideAll_size _ _
theorem aa8{h:ϫ}{H:Hp}{b:δ}{o:Obj}(e:h.get? b=↑o)(n:H b=none):(jj h H).get? b=↑o:=
 W.hideAll_get _ e λa=>by
  let q:(H b).isSome=true:=(alO.mp a).2;rw[n]at q;simp at q
def amk{h:ϫ}{H:Hp}{b:δ}{o:Obj}(e:(jj h H).get? b=↑o):h.get? b=↑o/\H b=none:=by
 let a:h.get? b=↑o:=W.of_hideAll (jV h H) e;show#[a,?_];cases q:H b with
 |none=>rfl
 |some x=>
  let c:b∈jV h H:=alO.mpr #[arX.mpr (abU a),by simp[q]];let z:(jj h H).get? b=none:=W.hideAll_none (jV h H) c;rw[z]at e;cases e
structure Mod(K:ϩ)(mg:MG)(base:ϫ):Prop where
 kin:K.In base
 glob:base.Ns mainGlobals mg
 blt:∃mb,base.Ns builtinsNs mb/\∀x:Str,x≠"__name__"->mb x=bootBuiltins x
 nolimit:base.NoLimit
def bY(l:List Env):List δ:=l.filterMap (·.frame)
abbrev XK:=ε->Option δ×Bool->Hp->Prop
abbrev VK:=V->Hp->Prop
def θ(K:ϩ)(H:Hp)(a:δ)(xs:List V):Prop:=
 Rd H a (.lst xs)\/
  ∃(o:Obj)(c:Array ε)(n:Nat),K.lookup a=↑o/\o.cls=.type "list"/\o.dict=none/\o.data=.seq c n/\c.size<=ϱ/\Vals xs c.toList
structure Ϙ(K:ϩ)(C:δ):Prop where
 pg:arM K C akU=true
 hd:aoB K C=true
 po:asd K C=true
 sa:afk K (.ref C) "__setattr__"=some ↑(.builtin "object.__setattr__")
def Ο(K:ϩ)(C:δ)(f:Str):Prop:=afk K (.ref C) f=↑none
structure Meth(K:ϩ)(C:δ)(m:Str)(f:δ):Prop where
 at_:afk K (.ref C) m=some ↑(.ref f)
 fn:asZ K (.ref f)=true
 kp:aoT K (.ref f)=true
section
variable{X:Cx}{ϵ:List (δ×Obj)}{σ:St}{H:Hp}{s:ν}{A:ϴ}{E:ε->ν->Prop}{Q:ε->ν->Prop}{c:ε}{b:Bool}
inductive dJ (K:ϩ) (H:Hp):V->ε->Prop where
 |non:dJ K H .non (.type "NoneType")
 |bl (x:Bool):dJ K H (.bl x) (.type "bool")
 |int (i:Int):dJ K H (.int i) (.type "int")
 |str (x:Str):dJ K H (.str x) (.type "str")
 |flt (x:UInt64):dJ K H (.flt x) (.type "float")
 |lst {a:δ} {xs:List V} (e:H a=↑(.lst xs)):dJ K H (.ref a) (.type "list")
 |frz {a:δ} {o:Obj} {xs:List V} (e:H a=↑(.frz o (.lst xs))):dJ K H (.ref a) (.type "list")
 |tup {a:δ} {xs:List V} (e:H a=↑(.tup xs)):dJ K H (.ref a) (.type "tuple")
 |dK {a:δ} {Ϸ:List (Key×V)} (e:H a=↑(.dK Ϸ)):dJ K H (.ref a) (.type "dict")
 |ins {a C dx:δ} {fs:List (Str×V)} (e:H a=↑(.ins C dx fs)) (cl:Ϙ K C) (ha:afk K (.ref C) "__class__"=some ↑(.builtin "object.__class__"))
  (hn:aju K (.builtin "object.__class__") "__get__"=some ↑(.builtin "getset_descriptor.__get__")) (htk:ar4 K (.builtin "object.__class__")=↑true)
  (hm:anK K C (.type "object")=↑true):dJ K H (.ref a) (.ref C)
end
structure ϐ(cc:Bool)(k:Nat)(A:ϴ):Prop where
 hd:cc=true->A.handled=none
 dp:A.depth+3*k+5<recursionLimit
 un:A.units+16*k+200<cLine
abbrev Sp:=List V->Hp->VK->XK->Prop
abbrev fH:=List Env->Hp->ν->XK->ε->ν->Prop
structure ou(P:ϰ)(w:Ϯ)(K:ϩ)(mg:MG)(base:ϫ)(A:ϴ)(outer:List Env)(s:ν)(H:Hp):Prop where
 frames:A.frames=↑outer
 mod:Mod K mg base
 bs:∀b o,base.get? b=↑o->s.heap.get? b=↑o/\H b=none
 bsz:base.objs.size<=⇑s
 funs:s.heap.FunFrames base outer
 frf:∀b∈bY outer,H b=none
 hok:aG P w H s.heap
 bare:AllBare s.gens
def CE(outer:List Env)(P:ϰ)(w:Ϯ)(H:Hp)(s:ν)(Q:VK)(u:ε)(s':ν):Prop:=
 ∃v H',s'.os=s.os/\AllBare s'.gens/\Un (bY outer) [] H H' s.heap s'.heap/\aG P w H' s'.heap/\RelV v u/\Q v H'
def CR(CX:fH)(outer:List Env)(P:ϰ)(w:Ϯ)(H:Hp)(s:ν)(Q:VK)(E:XK)(r:Result)(s':ν):Prop:=
 match r with
 |.ok (.ret u)=>CE outer P w H s Q u s'
 |.ok _=>False
 |.error e=>CX outer H s E e s'
structure cW(P:ϰ)(w:Ϯ)(K:ϩ)(mg:MG)(base:ϫ)(CX:fH)(cc:Bool)(k:Nat)(f:δ)(fd:ajB)(ps:List Str)(sp:Sp):Prop where
 len:∀vs H Q E,sp vs H Q E->↥vs=↥ps
 run:∀(A:ϴ)(outer:List Env)(s:ν)(H:Hp)(args:Args)(us:List ε)(vs:List V)(Q:VK)(E:XK),ϐ cc k A->ou P w K mg base A outer s H->BindsTo s fd args (ps.zip us)->Vals vs us->sp vs H Q E->
  codeAny (ϧ P w) A (.call (.ref f) args) (CR CX outer P w H s Q E) s
section
variable{X:Cx}{CX:fH}{k:Nat}{f C:δ}{fd:ajB}{ps:List Str}{sp:Sp}{dvs:List V}{ds:List ε}{E:XK}{x m:Str}{p pos apos:Pos}{e o:Ϫ}{es:List Ϫ}{ta:TE}{t:TA}
structure Mk(K:ϩ)(C f:δ):Prop where
 makes:atG K C=true
 init:afk K (.ref C) "__init__"=some ↑(.ref f)
 fn:asZ K (.ref f)=true
 kp:aoT K (.ref C)=true
end
end _L
namespace _A
open PySem PySem.W PySem.Calls PyProof.Rows
def acW{P:Params}{h:ϫ}:∀(ns:List Int)(vs:List ε),WellAll P h vs (ns.map WData.int)->IntsAre vs ns:=by
 intro ns;induction ns with
 |nil=>
  intro vs w;rw[List.map_nil]at w;cases w;show .nil
 |cons n ns c=>
  intro vs w;rw[acz]at w;cases w with
  |cons a b=>
   cases a;show .cons _ _ (c _ b)
def aiI{l:OpenLaw}{n:Nat}(s:l.most=↑n){P:Params}{h:ϫ}{args:List WData}{c:List ε}(e:l.row.toRowW.claim.pre args=true)(m:WellAll P h c args):∃a vs ns,c=[Value.ref a]/\args=[WData.list (ns.map WData.int)]/\h.get? a=some {cls:=.type "list",data:=.seq vs.toArray}/\IntsAre vs ns/\↥ns<=n:=by
 let o:WShape.hasAll [] args [.list .int]=true:=(pre_splitW e).1;let p:l.pre.holds [] {args:=args}=true:=(pre_splitW e).2;let#[d,r,rfl,h1,h2]:=hasAllW_cons o;obtain rfl:=hasAllW_nil h2;let#[xs,rfl,u]:=hasW_list h1;let#[ns,rfl]:=items_int u;let f:↥ns<=n:=by
  unfold OpenLaw.pre at p;let i:(WTm.not (.lt (.lit (.int (n:Int))) (.len (.arg 0)))).holds [] {args:=[.list (ns.map .int)]}=true:=by
   let i:=(holds_andW p).1;rw[s]at i;show i
  let j:=condW_of i (w_not (w_lt w_lit (w_len_list (w_arg rfl))));rw[ϭ]at j;show Nat.le_of_not_lt λq=>?_
  let v:(n:Int)<((↥ns:Nat):Int):=()
  first
   |(rw[decide_eq_true v]at j;show absurd j (by decide))
   |(simp at j;omega)
 cases m with
 |cons x y=>
  cases y;cases x with
  |list z g=>show#[_,_,ns,rfl,rfl,z,acW ns _ g,f]
theorem ajg(l:OpenLaw)(args:List WData):l.row.toRowW.claim.post args (.bool true) args=true:=
 postW_of (r:=l.row.toRowW) (X:=(true==true))
  (show WShape.has [] (.bool true) .bool=true by first|rfl|decide|simp[WShape.has,WShape.arms,WShape.armsAll])
  (show(WTm.eq .res (.lit (.bool true))).value [] {args:=args,res:=↑(.bool true),after:=args}=↑(.bool (true==true))from w_eq_bool (w_res rfl) w_lit) rfl
def ab1{l:OpenLaw}{n:Nat}{q:ϰ}{e:List Str}{z:(Str->Option ε)->ϫ->Prop}{B:Ϯ->ϫ->Prop}{d:DefRec}(H:l.most=↑n)(u:d.params.defaults=[])(call:∀(w:Ϯ)(s₀ c:ν)(mg mb:MG)(j:δ)(o:Obj)(pm cd g:ε)(a:δ)(vs:List ε)(ns:List Int),
   Ground q e [] z w s₀ mg mb c.heap->B w c.heap->
   c.heap.get? j=↑o->o.data=.func (docDef d.name d.params d.body d.scope pm cd g)->c.heap.CodeRec cd d.name->mg d.name=↑(.ref j)->
   c.heap.get? a=some {cls:=.type "list",data:=.seq vs.toArray}->IntsAre vs ns->↥ns<=n->c.gens= #v[]->
   codeAny (ϧ l.prog w) callerA (.call (.ref j) #[[.ref a],[]]) (λr s'=>r=.ok (.ret (.bool true))/\OldK c.heap s'.heap/\s'.os=c.os/\AllBare s'.gens) c):WalkO q e z B l.row.toRowW d [] (λf vs=>PySem.call f vs):=by
 intro w s₀ c mg mb G Y j o pm cd g dV kV I hd v C x J D E as m F L y M;obtain rfl:dV=.none:=Dflts.none C u;obtain rfl:kV=.none:=Dflts.noKw C;let#[a,vs,ns,rfl,rfl,p,i,s]:=aiI H m y;show enter_call (akz (call w s₀ c mg mb j o pm cd g a vs ns G Y I (fd_plain hd) v x p i s J) λr s' O=>?_);let#[rfl,h2,P,Q]:=O;show#[.inl #[.bool true,.bool true,[],rfl,λ_=>rfl,.bool true,ajg l _,λ_=>#[List.Pairwise.nil,λ_ R=>(nomatch R)]],h2,P,Q]
end _A
namespace _L
open PySem PySem.Spec PyProof.Rows
theorem Zv:∀{vs:List ε}{ns:List Int},IntsAre vs ns->Vals (ns.map V.int) vs
 |_,_,.nil=>.nil
 |_,_,.cons n t h=>.cons #[t,rfl] (Zv h)
abbrev Mf{K:ϩ}{h:ϫ}(_:K.In h):ϩ:=K
def inClass(s:Ϩ)(j:Nat):Ϩ:=match s with
 |.ClassDef _ _ _ body _ _ _ _ _ _ _=>body.getD j (.Pass #[0,0,0,0])
 |_=>.Pass #[0,0,0,0]
def jk(s:Ϩ):Arguments:=match s with
 |.FunctionDef _ a _ _ _ _ _ _ _ _=>a
 |_=>{posonlyargs:=[],args:=[],vararg:=none,kwonlyargs:=[],kw_defaults:=[],kwarg:=none,defaults:=[]}
def ϕ(s:Ϩ):List Ϩ:=match s with
 |.FunctionDef _ _ b _ _ _ _ _ _ _=>b
 |_=>[]
def ρ(s:Ϩ):aiZ:=match s with
 |.FunctionDef _ _ _ _ _ _ sc _ _ _=>sc
 |_=>{kind:=.function,names:=[],isGenerator:=false,isCoroutine:=false}
structure cG(K:ϩ)(x qual:Str)(st:Ϩ)(f:δ)(fd:ajB):Prop where
 ex:∃(oc:ε)(od:Option δ)(kV doc pm:ε)(an:Option δ)(Ϲ ct:ε)(osl:Array (Option ε)),
  fd=asx x qual (jk st) (ϕ st) (ρ st) .none kV doc pm an Ϲ ct/\K.lookup f=some #[oc,od,.func fd,osl]/\arV K Ϲ qual=true
 kp:aoT K (.ref f)=true
section
variable{P:ϰ}{w:Ϯ}{K:ϩ}{mg:MG}{base:ϫ}
theorem qM{x qual:Str}{st:Ϩ}{f:δ}{oc:ε}{od an:Option δ}{e:Array (Option ε)}{kV a pm g ct:ε}(l:K.lookup f=some #[oc,od,.func (asx x qual (jk st) (ϕ st) (ρ st) .none kV a pm an g ct),e])(c:arV K g qual=true)(k:aoT K (.ref f)=true):cG K x qual st f (asx x qual (jk st) (ϕ st) (ρ st) .none kV a pm an g ct):=#[#[oc,od,kV,a,pm,an,g,ct,e,rfl,l,c],k]
end
def bH(h:ϫ):Option ε->List δ->Prop
 |c,[]=>c=↑.none
 |c,a::r=>c=↑(.ref a)/\∃o vs,h.get? a=↑o/\o.data=.fields vs/\bH h vs[2]? r
def Ctx(h:ϫ)(e:δ)(b:Bool)(c:Option ε):Prop:=(b=true->c=↑.none)/\∃l,bH h c l/\e∉l/\l.Nodup
def aR(h:ϫ)(e:δ)(cls:ε)(d:Option δ×Bool)(tb:Option δ)(f:ε):Prop:=
 ∃a vs,h.get? e=↑a/\a.cls=cls/\a.dict=d.1/\a.data=.fields vs/\vs[1]?=↑(tb.elim Value.none Value.ref)/\2<vs.size/\Ctx h e d.2 vs[2]? /\
  ∀T,tb=↑T->T≠e/\∃c ws,h.get? T=↑c/\c.data=.fields ws/\ws[3]?=↑f
def bQ(P:ϰ)(w:Ϯ):fH:=λouter H s E x s'=>∃e tb cls d H',x=.ref e/\s'.os=s.os/\AllBare s'.gens/\Un (bY outer) [] H H' s.heap s'.heap/\aG P w H' s'.heap/\aR s'.heap e cls d tb .none/\
 (∀b∈e::tb.toList,H' b=none/\s.heap.get? b=none)/\E cls d H'
def bQ.never{P:ϰ}{w:Ϯ}{outer:List Env}{H:Hp}{s s':ν}{e:ε}(h:bQ P w outer H s (λ_ _ _=>False) e s'):False:=by
 let#[_,_,_,_,_,_,_,_,_,_,_,_,z]:=h;show z
section
variable{X:Cx}{a b c e:Ϫ}{es:List Ϫ}{σ:St}{H:Hp}{Q:VK}{QT:Bool->Hp->Prop}{QA:List V->Hp->Prop}{D:Ends}{pos p apos:Pos}{x:Str}{v:V}
def Gc(mg:MG)(x:Str)(v:V):=∃u,mg x=↑u/\RelV v u
end
abbrev dF:List ε:=[.type "ValueError",.type "Exception",.type "BaseException",.type "object"]
def η(mg:MG)(x:Str):δ:=match mg x with
 |some (.ref C)=>C
 |_=>0
def cM{mg:MG}{x:Str}{C:δ}(h:mg x=↑(.ref C)):η mg x=C:=by unfold η;rw[h]
structure eY(K:ϩ)(mg:MG)(x:Str):Prop where
 at_:mg x=↑(.ref (η mg x))
 ex:at8 K (η mg x) dF "ValueError.__new__"=true
def anS{K:ϩ}{mg:MG}{x:Str}{C:δ}(h:mg x=↑(.ref C))(e:at8 K C dF "ValueError.__new__"=true):eY K mg x:=by
 let z:η mg x=C:=by unfold η;rw[h]
 show#[by rw[z];show h,by rw[z];show e]
def Hg(K:ϩ)(C:δ)(i:Option ε):Bool:=match K.lookup C with
 |some ⟨.type "type",_,.cls cd,sl⟩=>(match cd.mro,sl.toList with
  |.ref a::bm,[_,_,_,_,↑(.builtin n),_]=>a==C&&n=="ValueError.__new__"&& !cd.hasDel&&W.tailIn K dF bm&&W.nsOkIn K cd.ns&&atR K cd.ns "__init__"==↑i
  |_,_=>false)
 |_=>false
def jU(K:ϩ)(C L:δ):Bool:=(ash K C).any λcd=>cd.hasDict&&cd.mro==.ref C:: .ref L::dF
abbrev oV(K:ϩ)(C f:δ):Bool:=Hg K C ↑(.ref f)
structure XBase(K:ϩ)(mg:MG)(x:Str):Prop where
 at_:mg x=↑(.ref (η mg x))
 reads:ar8 K (η mg x) (.type "type")=true
 ini:ar9 K (.ref (η mg x)) (.type "type") "__init__"=↑(.val (.builtin "ValueError.__init__"))
 ga:aju K (.ref (η mg x)) "__getattribute__"=some ↑(.builtin "type.__getattribute__")
structure lN(K:ϩ)(mg:MG)(Lx x qual fld:Str)(st:Ϩ):Prop where
 at_:mg x=↑(.ref (η mg x))
 ex:∃f fd,cG K "__init__" qual st f fd/\oV K (η mg x) f=true/\asZ K (.ref f)=true
 sa:afk K (.ref (η mg x)) "__setattr__"=some ↑(.builtin "object.__setattr__")
 tk:arP K (η mg x) fld=↑none
 xc:jU K (η mg x) (η mg Lx)=true
structure sy(K:ϩ)(C:δ):Prop where
 hd:aoB K C=true
 ga:afk K (.ref C) "__getattribute__"=some ↑(.builtin "BaseException.__getattribute__")
 gt:afk K (.ref C) "__getattr__"=↑none
 cl:afk K (.ref C) "__class__"=some ↑(.builtin "object.__class__")
 cg:aju K (.builtin "object.__class__") "__get__"=some ↑(.builtin "getset_descriptor.__get__")
 ct:ar4 K (.builtin "object.__class__")=↑true
 mo:anK K C (.type "object")=↑true
 mb:anK K C (.type "BaseException")=↑true
structure tR(K:ϩ)(mg:MG)(x:Str):Prop extends XBase K mg x where
 ty:arL K (.ref (η mg x))=↑(.type "type")
 mb:anK K (η mg x) (.type "BaseException")=↑true
structure XC(K:ϩ)(mg:MG)(Lx x:Str):Prop where
 at_:mg x=↑(.ref (η mg x))
 xc:jU K (η mg x) (η mg Lx)=true
 ty:arL K (.ref (η mg x))=↑(.type "type")
 attr:sy K (η mg x)
section
variable{K:ϩ}{mg:MG}{Lx x qual fld:Str}{C L f:δ}{st:Ϩ}{fd:ajB}
def acB(h:mg x=↑(.ref C))(a:ar8 K C (.type "type")=true)(c:ar9 K (.ref C) (.type "type") "__init__"=↑(.val (.builtin "ValueError.__init__")))(f:aju K (.ref C) "__getattribute__"=some ↑(.builtin "type.__getattribute__"))(g:arL K (.ref C)=↑(.type "type"))(i:anK K C (.type "BaseException")=↑true):tR K mg x:=by
 let e:=cM h;show{at_:=by rw[e];show h,reads:=by rw[e];show a,ini:=by rw[e];show c,ga:=by rw[e];show f,ty:=by rw[e];show g,mb:=by rw[e];show i}
def ahN(h:mg x=↑(.ref C))(c:mg Lx=↑(.ref L))(f:jU K C L=true)(g:arL K (.ref C)=↑(.type "type"))(i:aoB K C=true)(j:afk K (.ref C) "__getattribute__"=some ↑(.builtin "BaseException.__getattribute__"))(l:afk K (.ref C) "__getattr__"=↑none)(m:afk K (.ref C) "__class__"=some ↑(.builtin "object.__class__"))(n:aju K (.builtin "object.__class__") "__get__"=some ↑(.builtin "getset_descriptor.__get__"))(o:ar4 K (.builtin "object.__class__")=↑true)(p:anK K C (.type "object")=↑true)(a:anK K C (.type "BaseException")=↑true):XC K mg Lx x:=by
 let e:=cM h;let q:=cM c;show#[by rw[e];show h,by rw[e,q];show f,by rw[e];show g,by rw[e];show#[i,j,l,m,n,o,p,a]]
def agY(h:mg x=↑(.ref C))(a:mg Lx=↑(.ref L))(F:cG K "__init__" qual st f fd)(c:oV K C f=true)(g:asZ K (.ref f)=true)(i:afk K (.ref C) "__setattr__"=some ↑(.builtin "object.__setattr__"))(j:arP K C fld=↑none)(l:jU K C L=true):lN K mg Lx x qual fld st:=by
 let e:=cM h;let m:=cM a;show#[by rw[e];show h,#[f,fd,F,by rw[e];show c,g],by rw[e];show i,by rw[e];show j,by rw[e,m];show l]
end
structure OM(K:ϩ)(C:δ)(m qual:Str)(st:Ϩ):Prop where
 ex:∃f fd,cG K m qual st f fd/\Meth K C m f
structure OI(K:ϩ)(C:δ)(qual:Str)(st:Ϩ):Prop where
 ex:∃f fd,cG K "__init__" qual st f fd/\Mk K C f
structure OB(K:ϩ)(C:δ)(m qual:Str)(st:Ϩ):Prop where
 rd:ar8 K C (.type "type")=true
 ga:aju K (.ref C) "__getattribute__"=some ↑(.builtin "type.__getattribute__")
 ex:∃f fd,cG K m qual st f fd/\ar9 K (.ref C) (.type "type") m=↑(.val (.ref f))
section
variable{P:ϰ}{w:Ϯ}{K:ϩ}{mg:MG}{base:ϫ}{cc:Bool}{k:Nat}{x m qual:Str}{C:δ}{st:Ϩ}{ps N:List Str}{sp:Sp}
def agt{f:δ}{fd:ajB}(h:mg x=↑(.ref C))(F:cG K m qual st f fd)(a:afk K (.ref C) m=some ↑(.ref f))(b:asZ K (.ref f)=true):OM K (η mg x) m qual st:=by
 rw[cM h];show#[f,fd,F,a,b,F.kp]
def ahH{f:δ}{fd:ajB}(h:mg x=↑(.ref C))(F:cG K "__init__" qual st f fd)(a:afk K (.ref C) "__init__"=some ↑(.ref f))(b:asZ K (.ref f)=true)(c:atG K C=true)(d:aoT K (.ref C)=true):OI K (η mg x) qual st:=by
 rw[cM h];show#[f,fd,F,c,a,b,d]
def agm{f:δ}{fd:ajB}(h:mg x=↑(.ref C))(F:cG K m qual st f fd)(a:ar9 K (.ref C) (.type "type") m=↑(.val (.ref f)))(b:ar8 K C (.type "type")=true)(c:aju K (.ref C) "__getattribute__"=some ↑(.builtin "type.__getattribute__")):OB K (η mg x) m qual st:=by
 rw[cM h];show#[b,c,f,fd,F,a]
def Ub(h:mg x=↑(.ref C))(a:arM K C akU=true)(b:aoB K C=true)(c:asd K C=true)(d:afk K (.ref C) "__setattr__"=some ↑(.builtin "object.__setattr__")):Ϙ K (η mg x):=by
 rw[cM h];show#[a,b,c,d]
end
structure OT(K:ϩ)(C:δ):Prop where
 ty:∀(H:Hp)(a dx:δ)(fs:List (Str×V)),H a=↑(.ins C dx fs)->dJ K H (.ref a) (.ref C)
def akX{K:ϩ}{mg:MG}{x:Str}{C:δ}(h:mg x=↑(.ref C))(c:Ϙ K (η mg x))(f:afk K (.ref C) "__class__"=some ↑(.builtin "object.__class__"))(g:aju K (.builtin "object.__class__") "__get__"=some ↑(.builtin "getset_descriptor.__get__"))(i:ar4 K (.builtin "object.__class__")=↑true)(j:anK K C (.type "object")=↑true):OT K (η mg x):=by
 rw[cM h]at c⊢;show#[λH a dx fs e=>.ins e c f g i j]
open PySem PySem.Spec PyProof.Rows PySem.W
def BM(mg:MG)(base:ϫ):=∃bm a,mg "__builtins__"=↑(.ref bm)/\bm≠builtinsNs/\base.get? bm=↑a/\a.cls=.type "module"/\a.dict=↑builtinsNs/\a.data=.plain
def iT(K:ϩ)(x:Str):δ:=((tabIn K x).getD (0,0)).1
def bz(K:ϩ)(x:Str):δ:=((tabIn K x).getD (0,0)).2
def Ek(p:Pos)(q:Str):Array ε:= #v[rawInt p.line,rawInt p.col,.str q 0]
def Cz(K:ϩ)(x:Str):Bool:=match tabIn K x with
 |some a=>(K.lookup a.2).isNone
 |none=>false
def ain{K:ϩ}{x:Str}(h:Cz K x=true):tabIn K x=↑(iT K x,bz K x)/\K.lookup (bz K x)=none:=by
 unfold Cz at h;unfold iT bz;cases e:tabIn K x with
 |none=>rw[e]at h;cases h
 |some a=>
  rw[e]at h;show#[rfl,~~~h]
structure cR(K:ϩ)(mg:MG)(base:ϫ)(x:Str):Prop where
 tab:tabIn K x=↑(iT K x,bz K x)
 code:CodeHd base (iT K x) (bz K x)
 bm:BM mg base
 kin:K.In base
 glob:base.Ns mainGlobals mg
def akR{P:ϰ}{w:Ϯ}{K:ϩ}{mg mb:MG}{CX:fH}{k:Nat}{U a:δ}{fd:ajB}{x xn:Str}{sp:Sp}{s₁:ν}{vs:List ε}{ns:List Int}{ps:Array ε}(KX:K.In s₁.heap)(E:s₁.heap.Ns mainGlobals mg)(f:s₁.heap.Ns builtinsNs mb)(W:∀x:Str,x≠"__name__"->mb x=bootBuiltins x)(M:s₁.heap.NoLimit)(hg:s₁.gens= #v[])(L:s₁.heap.get? a=some {cls:=.type "list",data:=.seq vs.toArray})(hi:IntsAre vs ns)(hl:↥ns<=ϱ)(hr:ϐ cc k callerA)(hT:tabIn K xn=↑(iT K xn,bz K xn))(X:CodeHd s₁.heap (iT K xn) (bz K xn))(l:s₁.heap.get? (bz K xn)=↑(tabObj #v[]))(Y:K.lookup (bz K xn)=none)(hB:BM mg s₁.heap)(F:∀base:ϫ,K.In base->base.Ns mainGlobals mg->cR K mg base xn->cW P w K mg base CX cc k U fd [x] sp)(G:∀(s:ν)(u:ε),BindsTo s fd #[[u],[]] [(x,u)])(O:∀H:Hp,θ K H a (ns.map V.int)->H (bz K xn)=↑(.tbl ps)->sp [.ref a] H (λv _=>v=.bl true) λ_ _ _=>False)(Z:∀H e s',CX [] H s₁ (λ_ _ _=>False) e s'->False):codeAny (ϧ P w) callerA (.call (.ref U) #[[.ref a],[]]) (λr s'=>r=.ok (.ret (.bool true))/\OldK s₁.heap s'.heap/\s'.os=s₁.os/\AllBare s'.gens) s₁:=by
 let rv:=Zv hi;let Q:=↥hi;generalize ab:bz K xn=pt at X l Y O;let I:pt≠a:=λz=>by rw[z,L]at l;cases l
 let y:∀H:Hp,θ K H a (ns.map V.int)->H pt=↑(.tbl ps)->aG P w H s₁.heap->(∀b,H b=none\/b=a\/b=pt)->(∀b,H b=none\/K.lookup b=none)->(∀u,H a=↑u->∃o v,u=.frz o v)->
   codeAny (ϧ P w) callerA (.call (.ref U) #[[.ref a],[]]) (λr s'=>r=.ok (.ret (.bool true))/\OldK s₁.heap s'.heap/\s'.os=s₁.os/\AllBare s'.gens) s₁:=by
  intro H hS hH hok hA hK ac;let c:∀{b:δ}{o:Obj},s₁.heap.get? b=↑o->H b=none->(jj s₁.heap H).get? b=↑o:=λe n=>aa8 e n
  let free:∀{b:δ}{o:Obj},s₁.heap.get? b=↑o->o.cls≠.type "list"->o.cls≠.none->H b=none:=λ{b o} e n1 n2=>by
   obtain z|z|z:=hA b
   .show z
   .rw[z,L]at e;cases e;show absurd rfl n1
   .rw[z,l]at e;cases e;show absurd rfl n2
  let ae:∀{b:δ}{o:Obj}{es:Array DictEntry}{ep:Nat},s₁.heap.get? b=↑o->o.data=.dict es ep->H b=none:=λ{b o es ep} e d=>by
   obtain z|z|z:=hA b
   .show z
   .rw[z,L]at e;cases e;let d':Data.seq vs.toArray _=Data.dict es ep:=d;cases d'
   .rw[z,l]at e;cases e;let d':Data.fields #v[]=Data.dict es ep:=d;cases d'
  let i:∀{b:δ}{m:MG},s₁.heap.Ns b m->(jj s₁.heap H).Ns b m:=λ{b m} ⟨o,es,ep,e,d,r⟩=>#[o,es,ep,c e (ae e d),d,r];let J:K.In (jj s₁.heap H):=λb o e=>c (KX b o e) (by
   obtain z|z:=hK b
   .show z
   .rw[z]at e;cases e)
  let hM:Mod K mg (jj s₁.heap H):=#[J,i E,#[mb,i f,W],let⟨mc,h1,h2⟩:=M;#[mc,i h1,h2]];let hN:cR K mg (jj s₁.heap H) xn:=by
   show#[hT,?_,?_,J,i E]
   .rw[ab];let#[o,vs,B,tf,j,tg,R,C,tt,e1,r1,r]:=X;show#[o,vs,B,tf,j,tg,R,C,tt,c e1 (free e1 (by rw[r1];decide) (by rw[r1];decide)),r1,r]
   .let#[bm,S,b1,b2,b3,b4,r]:=hB;show#[bm,S,b1,b2,c b3 (free b3 (by rw[b4];decide) (by rw[b4];decide)),b4,r]
  let e0:ou P w K mg (jj s₁.heap H) callerA [] s₁ H:=#[rfl,hM,λb o e=>amk e,ark (anL _ _),trivial,λb f=>absurd (show b∈([]:List δ)from f) (by simp),hok,.of_eq hg];show akz ((F _ J (i E) hN).run callerA [] s₁ H #[[.ref a],[]] [.ref a] [.ref a] _ _ hr e0 (G s₁ (.ref a)) (.cons rfl .nil) (O H hS hH)) λr s' h=>?_
  cases r with
  |error e=>show(Z H e s' h).elim
  |ok fl=>
   cases fl with
   |next=>show False.elim h
   |brk=>show False.elim h
   |cont=>show False.elim h
   |ret u=>
    let#[v,H',os,bare,un,D,r',q]:=h;let q':v=.bl true:=q;subst q';obtain rfl:u=Value.bool true:=r';let#[T,hm]:=un.tbls pt ps hH;let#[qs,eq,_]:=(D pt _ hm:Ϟ P w H' s'.heap pt (.tbl (ps++T)));let all:∀b o,s₁.heap.get? b=↑o->asItWas s₁.heap s'.heap b o:=λb o e=>by
     obtain z|z|z:=hA b
     .show .inl (un.keep b o e z (by intro z;show absurd (show b∈([]:List δ)from z) (by simp)) (by simp))
     .cases e3:H b with
      |none=>show .inl (un.keep b o e e3 (by intro z;show absurd (show b∈([]:List δ)from z) (by simp)) (by simp))
      |some u=>
       let#[S,v,rfl]:=ac u (by rw[<-z];show e3);let z2:=un.frzs b S _ e3;let#[e1,_]:=(hok b _ e3:Ϟ P w H s₁.heap b (.frz S v));let#[e2,_]:=(D b _ z2:Ϟ P w H' s'.heap b (.frz S v));rw[e]at e1;cases e1;show .inl e2
     .subst z;rw[l]at e;cases e;let#[o,vs,B,tf,j,tg,R,C,tt,e1,r1,r2,r3,_]:=X;show .inr (.inl #[#[_,o,vs,e1,r1,r2,r3],rfl, #v[],qs,rfl,?_]);rw[eq];simp
    show#[rfl,#[all,λb o e=>?_],os,bare]*>un.there b o e (by simp)
 cases hk:K.lookup a with
 |some o=>
  let e:=KX a o hk;rw[L]at e;cases e;show y (λb=>if b=pt then some (.tbl ps)else none) (.inr #[_,vs.toArray,_,hk,rfl,rfl,rfl,by rw[aaq,Q];show hl,~~~rv]) (if_pos rfl) (λb u z=>?_) (λb=>?_) (λb=>?_) λu z=>?_
  .by_cases f:b=pt
   .let z':=(if_pos f).symm.trans z;cases z';subst f;show#[#v[],l,trivial,λp cv h=>by simp[codeAmong]at h]
   .let z':=(if_neg f).symm.trans z;cases z'
  .by_cases f:b=pt
   .show .inr (.inr f)
   .show .inl (if_neg f)
  .by_cases f:b=pt
   .show .inr (by rw[f];show Y)
   .show .inl (if_neg f)
  .let z':=(if_neg (Ne.symm I)).symm.trans z;cases z'
 |none=>
  show y (λb=>if b=pt then some (.tbl ps)else if b=a then some (.frz {cls:=.type "list",data:=.seq vs.toArray} (.lst (ns.map V.int)))else none) (.inl (.inr #[{cls:=.type "list",data:=.seq vs.toArray},(if_neg (Ne.symm I))<|>(if_pos rfl)])) (if_pos rfl) (λb u z=>?_) (λb=>?_) (λb=>?_) λu z=>?_
  .by_cases f:b=pt
   .let z':=(if_pos f).symm.trans z;cases z';subst f;show#[#v[],l,trivial,λp cv h=>by simp[codeAmong]at h]
   .let z':=(if_neg f).symm.trans z;by_cases g:b=a
    .let z2:=(if_pos g).symm.trans z';cases z2;subst g;show#[L,by rw[ϭ];show hl,vs,_,rv,L]
    .let z2:=(if_neg g).symm.trans z';cases z2
  .by_cases f:b=pt
   .show .inr (.inr f)
   .by_cases g:b=a
    .show .inr (.inl g)
    .show .inl (by rw[if_neg f,if_neg g])
  .by_cases f:b=pt
   .show .inr (by rw[f];show Y)
   .by_cases g:b=a
    .show .inr (by rw[g];show hk)
    .show .inl (by rw[if_neg f,if_neg g])
  .let z':=(if_neg (Ne.symm I)).symm.trans z;let z2:=(if_pos rfl).symm.trans z';cases z2;show#[_,_,rfl]
def aiY{l:W.OpenLaw}{n k:Nat}{q:ϰ}{g:List Str}{P:(Str->Option ε)->ϫ->Prop}{M:Ϯ->ϫ->Prop}{d:DefRec}{K:Params->ϩ}{CX:Ϯ->fH}{sp:Ϯ->Sp}{x xn:Str}{ps:Array ε}(Q:l.most=↑n)(B:n<=ϱ)(C:d.params.defaults=[])(R:ϐ cc k callerA)(S:∀(w:Ϯ)(h:ϫ),M w h->(K w.params).In h)(j:((recsOf q).find? (λe=>e.name==xn)).isSome=true)(m:∀w:Ϯ,Cz (K w.params) xn=true)(F:∀(w:Ϯ)(mg:MG)(z:δ)(h:ϫ),(K w.params).In h->h.Ns mainGlobals mg->mg d.name=↑(.ref z)->
   ∃fd:ajB,(∀(s:ν)(u:ε),BindsTo s fd #[[u],[]] [(x,u)])/\
    ∀base:ϫ,(K w.params).In base->base.Ns mainGlobals mg->cR (K w.params) mg base xn->cW l.prog w (K w.params) mg base (CX w) cc k z fd [x] (sp w))(D:∀(w:Ϯ)(H:Hp)(a:δ)(ns:List Int),↥ns<=n->θ (K w.params) H a (ns.map V.int)->H (bz (K w.params) xn)=↑(.tbl ps)->sp w [.ref a] H (λv _=>v=.bl true) λ_ _ _=>False)(E:∀(w:Ϯ)(H:Hp)(s:ν)(e:ε)(s':ν),CX w [] H s (λ_ _ _=>False) e s'->False):W.WalkO q g P M l.row.toRowW d [] (λf vs=>PySem.call f vs):=by
 show _A.ab1 Q C λw s₀ p mg mb z o pm cd T a vs ns G Y ho hd U I y i c X=>?_
 let J:=S w _ Y;let#[fd,Z,hF]:=F w mg z _ J G.T.g I;let#[O,t2]:=ain (m w);let#[d',L]:=akJ.mp j;let#[hC,hP]:=tab_of G.T J L O;show akR J G.T.g G.T.b G.T.builtins G.T.nolimit X y i (adQ c B) R O hC hP t2 G.T.bmain hF Z (λH hS hH=>D w H a ns c hS hH) λH e s'=>E w H p e s'
def Ef(K:ϩ)(x:Str)(ps:Array ε):Sp:=λvs H Q _=>∃(a:δ)(ns:List Int),vs=[.ref a]/\θ K H a (ns.map V.int)/\↥ns<=63/\H (bz K x)=↑(.tbl ps)/\∀H',Q (.bl true) H'
abbrev DX(K:ϩ)(mg:MG)(x:Str)(st:Ϩ):Prop:=∃f fd,cG K x x st f fd/\mg x=↑(.ref f)
section
variable{K:ϩ}{h:ϫ}{mg:MG}(X:K.In h)(G:h.Ns mainGlobals mg){x y m qual fld:Str}{st:Ϩ}{f C D:δ}{od an:Option δ}{sl:Array (Option ε)}{oc kV dc pm cd ct:ε}{t:Tok}
abbrev bU(K:ϩ)(x:Str)(C:δ):Prop:=atR K mainGlobals x=some ↑(.ref C)
abbrev nJ(K:ϩ)(m qual:Str)(st:Ϩ)(f:δ)(od an:Option δ)(sl:Array (Option ε))(oc kV dc pm cd ct:ε):Prop:=K.lookup f=some #[oc,od,.func (asx m qual (jk st) (ϕ st) (ρ st) .none kV dc pm an cd ct),sl]
include X G
theorem alh(a:bU K x f)(l:nJ K x x st f od an sl oc kV dc pm cd ct)(c:arV K cd x=true)(k:aoT K (.ref f)=true):DX K mg x st:=#[_,_,qM (st:=st) l c k,alF X G a]
theorem anD{z:Str}(g:atR K mainGlobals x=some ↑(.str z t)):Gc mg x (.str z):=#[_,alF X G g,_,rfl]
theorem anG{z:Int}(g:atR K mainGlobals x=some ↑(.int z t)):Gc mg x (.int z):=#[_,alF X G g,_,rfl]
theorem ael(z:atR K mainGlobals x=↑none):mg x=none:=W.mg_none_of X G z
def acf(q:bU K x C):mg x=↑(.ref (η mg x)):=by let e:=alF X G q;rw[cM e];show e
theorem aiP(q:bU K x C)(y:at8 K C dF "ValueError.__new__"=true):eY K mg x:=anS (alF X G q) y
def ahS{b:Bool}(q:bU K x C)(r:bU K y D)(v:aox K (.ref C) (.ref D)=↑b):aox K (.ref (η mg x)) (.ref (η mg y))=↑b:=by
 rw[cM (alF X G q),cM (alF X G r)];show v
theorem aoj(q:bU K x C)(a:ar8 K C (.type "type")=true)(c:ar9 K (.ref C) (.type "type") "__init__"=↑(.val (.builtin "ValueError.__init__")))(e:aju K (.ref C) "__getattribute__"=some ↑(.builtin "type.__getattribute__"))(f:arL K (.ref C)=↑(.type "type"))(g:anK K C (.type "BaseException")=↑true):tR K mg x:=acB (alF X G q) a c e f g
theorem ahf(q:bU K x C)(r:bU K y D)(c:jU K C D=true)(e:arL K (.ref C)=↑(.type "type"))(f:aoB K C=true)(g:afk K (.ref C) "__getattribute__"=some ↑(.builtin "BaseException.__getattribute__"))(i:afk K (.ref C) "__getattr__"=↑none)(j:afk K (.ref C) "__class__"=some ↑(.builtin "object.__class__"))(l:aju K (.builtin "object.__class__") "__get__"=some ↑(.builtin "getset_descriptor.__get__"))(m:ar4 K (.builtin "object.__class__")=↑true)(n:anK K C (.type "object")=↑true)(a:anK K C (.type "BaseException")=↑true):XC K mg y x:=ahN (alF X G q) (alF X G r) c e f g i j l m n a
theorem aeL(q:bU K x C)(r:bU K y D)(a:afk K (.ref C) "__init__"=some ↑(.ref f))(l:nJ K "__init__" qual st f od an sl oc kV dc pm cd ct)(c:arV K cd qual=true)(k:aoT K (.ref f)=true)(e:oV K C f=true)(g:asZ K (.ref f)=true)(i:afk K (.ref C) "__setattr__"=some ↑(.builtin "object.__setattr__"))(j:arP K C fld=↑none)(m:jU K C D=true):lN K mg y x qual fld st:=agY (alF X G q) (alF X G r) (qM (st:=st) l c k) e g i j m
def adO(q:bU K x C)(a:afk K (.ref C) fld=↑none):afk K (.ref (η mg x)) fld=↑none:=by rw[cM (alF X G q)];show a
def abw(q:bU K x C)(a:afk K (.ref C) fld=↑none):Ο K (η mg x) fld:=by rw[cM (alF X G q)];show a
theorem t_k(q:bU K x C)(a:arM K C akU=true)(b:aoB K C=true)(c:asd K C=true)(d:afk K (.ref C) "__setattr__"=some ↑(.builtin "object.__setattr__")):Ϙ K (η mg x):=Ub (alF X G q) a b c d
theorem akl(q:bU K x C)(a:afk K (.ref C) "__init__"=some ↑(.ref f))(l:nJ K "__init__" qual st f od an sl oc kV dc pm cd ct)(c:arV K cd qual=true)(k:aoT K (.ref f)=true)(b:asZ K (.ref f)=true)(d:atG K C=true)(e:aoT K (.ref C)=true):OI K (η mg x) qual st:=ahH (alF X G q) (qM (st:=st) l c k) a b d e
theorem ane(q:bU K x C)(a:afk K (.ref C) m=some ↑(.ref f))(l:nJ K m qual st f od an sl oc kV dc pm cd ct)(c:arV K cd qual=true)(k:aoT K (.ref f)=true)(b:asZ K (.ref f)=true):OM K (η mg x) m qual st:=agt (alF X G q) (qM (st:=st) l c k) a b
theorem anc(q:bU K x C)(a:ar9 K (.ref C) (.type "type") m=↑(.val (.ref f)))(l:nJ K m qual st f od an sl oc kV dc pm cd ct)(c:arV K cd qual=true)(k:aoT K (.ref f)=true)(b:ar8 K C (.type "type")=true)(d:aju K (.ref C) "__getattribute__"=some ↑(.builtin "type.__getattribute__")):OB K (η mg x) m qual st:=agm (alF X G q) (qM (st:=st) l c k) a b d
def am4(q:bU K x C)(r:bU K y D)(a:arM K C akU=true)(b:aoB K C=true)(c:asd K C=true)(d:afk K (.ref C) "__setattr__"=some ↑(.builtin "object.__setattr__"))(e:afk K (.ref C) "__class__"=some ↑(.builtin "object.__class__"))(f:aju K (.builtin "object.__class__") "__get__"=some ↑(.builtin "getset_descriptor.__get__"))(g:ar4 K (.builtin "object.__class__")=↑true)(i:anK K C (.type "object")=↑true)(u:aoY K (.ref C) (.ref D)=↑true):OT K (η mg x)/\aoY K (.ref (η mg x)) (.ref (η mg y))=↑true:=by
 show#[akX (alF X G q) (Ub (alF X G q) a b c d) e f g i,?_];rw[cM (alF X G q),cM (alF X G r)];show u
omit X G
inductive j6 (mg:MG):List δ->List δ->Prop
 |nil:j6 mg [] []
 |cons {x:Str} {C:δ} {l m:List δ} (h:mg x=↑(.ref C)) (t:j6 mg l m):j6 mg (η mg x::l) (C::m)
def j6.eq{l m:List δ}(h:j6 mg l m):l=m:=by
 induction h with
 |nil=>rfl
 |cons h _ a=>rw[cM h,a]
include X G
theorem dN{l m:List δ}(q:bU K x C)(t:j6 mg l m):j6 mg (η mg x::l) (C::m):=.cons (alF X G q) t
omit X G
def ai5{l m:List δ}(t:j6 mg l m)(d:m.Nodup):l.Nodup:=by rw[t.eq];show d
end
abbrev Ba(K:ϩ)(mg:MG)(y x:Str)(st:Ϩ):Prop:=∃f fd,cG K x x st f fd/\mg y=↑(.ref f)
section
variable{K:ϩ}{h:ϫ}{mg:MG}(X:K.In h)(G:h.Ns mainGlobals mg){x y:Str}{st:Ϩ}{f:δ}{od an:Option δ}{sl:Array (Option ε)}{oc kV dc pm cd ct:ε}
include X G
theorem anx(a:bU K y f)(l:nJ K x x st f od an sl oc kV dc pm cd ct)(c:arV K cd x=true)(k:aoT K (.ref f)=true):Ba K mg y x st:=#[_,_,qM (st:=st) l c k,alF X G a]
end
end _L
namespace _K
open PySem _L PyProof.Rows
def top(i:Nat):Ϩ:=PySem.Challenge.pw_turnleaf_k81_lines_of_a_desk.main.body.getD i (.Pass #[0,0,0,0])
abbrev Xx:Ϩ:=top 30
abbrev Ea:Ϩ:=top 37
abbrev Dc:Ϩ:=top 38
abbrev Ga:Ϩ:=top 39
abbrev RQ:Ϩ:=top 41
abbrev Gy:Ϩ:=top 47
abbrev Mm:Ϩ:=top 48
abbrev aas:Ϩ:=top 49
abbrev Yl:Ϩ:=top 50
abbrev Hy:Ϩ:=top 52
abbrev Tg:Ϩ:=top 54
abbrev Qi:Ϩ:=top 62
abbrev xR:Ϩ:=top 63
abbrev R9:Ϩ:=top 65
abbrev Ca:Ϩ:=top 74
abbrev Oh:Ϩ:=top 75
abbrev Bw:Ϩ:=top 76
abbrev Js:Ϩ:=top 104
abbrev Dw:Ϩ:=top 106
abbrev Vc:Ϩ:=top 108
abbrev aaU:Ϩ:=top 109
abbrev yJ:Ϩ:=top 110
abbrev aav:Ϩ:=top 111
abbrev LR:Ϩ:=top 112
abbrev Rf:Ϩ:=top 113
abbrev Vi:Ϩ:=top 116
abbrev K8:Ϩ:=top 121
abbrev aau:Ϩ:=top 134
abbrev Om:Ϩ:=top 135
abbrev J9:Ϩ:=top 137
abbrev ZZ:Ϩ:=top 138
abbrev R4:Ϩ:=top 139
abbrev KZ:Ϩ:=top 144
abbrev xP:Ϩ:=top 145
abbrev PB:Ϩ:=top 148
abbrev DW:Ϩ:=top 151
abbrev X3:Ϩ:=top 152
abbrev Xc:Ϩ:=top 153
abbrev Io:Ϩ:=top 155
abbrev JT:Ϩ:=top 157
abbrev uy:Ϩ:=top 160
abbrev RC:Ϩ:=top 164
abbrev Q4:Ϩ:=top 182
abbrev GJ:Ϩ:=top 184
abbrev Ys:Ϩ:=top 186
abbrev Wz:Ϩ:=top 187
abbrev aaf:Ϩ:=top 191
abbrev Sv:Ϩ:=top 193
abbrev JQ:Ϩ:=top 194
abbrev aae:Ϩ:=top 195
abbrev aaD:Ϩ:=top 196
abbrev qd:Ϩ:=top 197
abbrev zc:Ϩ:=top 200
abbrev Bx:Ϩ:=top 201
abbrev Gi:Ϩ:=top 202
abbrev jg:Ϩ:=top 203
abbrev Ti:Ϩ:=inClass (top 11) 0
abbrev RW:Ϩ:=inClass (top 16) 0
abbrev Mr:Ϩ:=inClass (top 14) 0
abbrev VG:Ϩ:=inClass (top 13) 0
abbrev Yx:Ϩ:=inClass (top 15) 0
abbrev XS:Ϩ:=inClass (top 57) 0
abbrev XD:Ϩ:=inClass (top 57) 1
abbrev Qk:Ϩ:=inClass (top 57) 2
abbrev X8:Ϩ:=inClass (top 57) 3
abbrev Av:Ϩ:=inClass (top 57) 4
abbrev Qu:Ϩ:=inClass (top 57) 5
abbrev ZG:Ϩ:=inClass (top 57) 6
abbrev aaV:Ϩ:=inClass (top 57) 7
abbrev Tj:Ϩ:=inClass (top 57) 8
abbrev U0:Ϩ:=inClass (top 57) 11
abbrev aaF:Ϩ:=inClass (top 57) 12
abbrev Vx:Ϩ:=inClass (top 57) 14
abbrev QM:Ϩ:=inClass (top 57) 15
abbrev Fo:Ϩ:=inClass (top 57) 16
abbrev zG:Ϩ:=inClass (top 57) 17
abbrev IV:Ϩ:=inClass (top 80) 0
abbrev M6:Ϩ:=inClass (top 80) 1
abbrev jr:Ϩ:=inClass (top 80) 2
abbrev Mz:Ϩ:=inClass (top 82) 0
abbrev Yj:Ϩ:=inClass (top 82) 1
abbrev uG:Ϩ:=inClass (top 83) 0
abbrev tu:Ϩ:=inClass (top 83) 1
abbrev Ni:Ϩ:=inClass (top 83) 2
abbrev Ui:Ϩ:=inClass (top 85) 0
abbrev N5:Ϩ:=inClass (top 86) 0
abbrev Sw:Ϩ:=inClass (top 87) 0
abbrev Wh:Ϩ:=inClass (top 88) 0
abbrev Ww:Ϩ:=inClass (top 88) 1
abbrev Dk:Ϩ:=inClass (top 89) 0
abbrev YS:Ϩ:=inClass (top 90) 0
abbrev Qn:Ϩ:=inClass (top 91) 0
abbrev UT:Ϩ:=inClass (top 189) 0
abbrev Ii:Ϩ:=inClass (top 189) 1
abbrev Vh:Ϩ:=inClass (top 189) 2
abbrev yX:Ϩ:=inClass (top 189) 3
abbrev Hm:Ϩ:=inClass (top 189) 4
abbrev Ku:Ϩ:=inClass (top 189) 5
abbrev Jv:Ϩ:=inClass (top 189) 6
abbrev Ey:Ϩ:=inClass (top 189) 7
abbrev Gm:Ϩ:=inClass (top 189) 8
abbrev Kh:Ϩ:=inClass (top 189) 9
abbrev Aj:Ϩ:=inClass (top 189) 10
structure Txt(K:ϩ)(mg:MG):Prop where
 wB:DX K mg "is_whole" (top 29)
 wA:DX K mg "made_of" Xx
 Ji:DX K mg "is_number_value" (top 31)
 yM:DX K mg "is_text_value" (top 32)
 Eh:DX K mg "is_value" (top 33)
 Ao:DX K mg "value_before" (top 34)
 Jr:DX K mg "value_word" (top 35)
 JD:DX K mg "are_figures" (top 36)
 vU:DX K mg "read_figures" Ea
 Hz:DX K mg "read_number_word" Dc
 DP:DX K mg "read_text_word" Ga
 vo:DX K mg "read_value" (top 40)
 ahc:DX K mg "read_values" RQ
 Fe:DX K mg "is_name" (top 46)
 Ky:DX K mg "ask_columns" Gy
 pF:DX K mg "place_of" Mm
 HY:DX K mg "kinds_of" aas
 Iv:DX K mg "row_words" Yl
 Hj:DX K mg "is_row_number" (top 51)
 Hi:DX K mg "is_row" Hy
 yD:DX K mg "told_rows" Tg
 CN:DX K mg "told_values" (top 55)
 Iu:DX K mg "put_back" (top 56)
 Iz:DX K mg "read_order_word" Qi
 qN:DX K mg "read_order" xR
 Bs:DX K mg "key_of" R9
 CK:DX K mg "number_of" (top 72)
 Hl:DX K mg "rank_of" (top 73)
 Ff:DX K mg "sorted_by" Ca
 uf:DX K mg "let_through" Oh
 yR:DX K mg "line_of" Bw
 xQ:DX K mg "cut_place" (top 78)
 qY:DX K mg "word_at" Js
 vL:DX K mg "text_between" (top 105)
 qR:Ba K mg "read_column_sifting" "read_column" Dw
 yg:DX K mg "read_word" Vc
 Ae:DX K mg "read_none" aaU
 zY:DX K mg "read_of_value" yJ
 akh:DX K mg "read_of_sieves" aav
 aid:DX K mg "read_part" LR
 rO:DX K mg "read_sieve" Rf
 Ft:DX K mg "key_through" (top 115)
 DR:DX K mg "stood" Vi
 Gs:DX K mg "check_of" K8
 Dl:DX K mg "check_word" (top 122)
 KN:DX K mg "read_make" aau
 Cd:DX K mg "read_whole" Om
 CZ:DX K mg "read_side" (top 136)
 Kq:DX K mg "read_cut" J9
 HS:DX K mg "read_body" ZZ
 Ec:DX K mg "read_mark" R4
 Ke:DX K mg "row_text" KZ
 KD:DX K mg "page_of" xP
 vW:DX K mg "ask_size" PB
 yw:DX K mg "leaf_between" DW
 KH:DX K mg "leaf_forth" X3
 Jp:DX K mg "leaf_back" Xc
 JG:DX K mg "leaf_by_place" Io
 Et:DX K mg "rows_of_list" JT
 Hw:DX K mg "is_untouched" (top 158)
 Jj:DX K mg "mark_at" (top 159)
 rZ:DX K mg "leaf_from" uy
 yj:DX K mg "begin_of" (top 161)
 Gu:DX K mg "first_leaf" (top 162)
 Je:DX K mg "last_leaf" (top 163)
 yW:DX K mg "read_good_mark" RC
 CP:DX K mg "turn_forth" (top 165)
 Ht:DX K mg "turn_back" (top 166)
 jX:DX K mg "ask_words" (top 181)
 mH:DX K mg "read_number" Q4
 Cm:DX K mg "read_only_number" (top 183)
 KJ:Ba K mg "read_column_desk" "read_column" GJ
 Gd:DX K mg "read_row_values" Ys
 vX:DX K mg "read_list" Wz
 uQ:DX K mg "page_text" (top 188)
 oM:DX K mg "_law_draw" aaf
 Gh:DX K mg "_law_number" (top 192)
 Ij:DX K mg "_law_list_words" Sv
 Ja:DX K mg "_law_good" JQ
 Ia:DX K mg "_law_odd" aae
 yP:DX K mg "_law_is_number" aaD
 JC:DX K mg "_law_is_value" qd
 Dr:DX K mg "_law_is_list" (top 198)
 J8:DX K mg "_law_is_put" (top 199)
 KQ:DX K mg "_law_is_line" zc
 Jh:DX K mg "_law_are_columns" Bx
 JS:DX K mg "_law_answer" Gi
 alU:DX K mg "law" jg
 Ep:Gc mg "NUMBER" (.str "number")
 Du:Gc mg "TEXT" (.str "text")
 ak8:Gc mg "FIGURES" (.str "0123456789")
 ak0:Gc mg "LETTERS" (.str "abcdefghijklmnopqrstuvwxyz")
 amf:Gc mg "TEXT_SIGNS" (.str "abcdefghijklmnopqrstuvwxyz0123456789-")
 PQ:Gc mg "LARGEST" (.int 1000000000000000000)
 aec:Gc mg "LONGEST" (.int 20)
 agM:Gc mg "TEN_FIGURES" (.int 9999999999)
 Le:Gc mg "NONE_WORD" (.str "?")
 QW:Gc mg "TEXT_AHEAD" (.str "'")
 ahe:Gc mg "BELOW_AHEAD" (.str "-")
 amS:Gc mg "MOST_COLUMNS" (.int 6)
 abv:Gc mg "LONGEST_NAME" (.int 8)
 Wf:Gc mg "LARGEST_ROW" (.int 1000000000)
 anQ:Gc mg "MOST_IN_ORDER" (.int 4)
 ah7:Gc mg "UP_AHEAD" (.str "+")
 agS:Gc mg "DOWN_AHEAD" (.str "-")
 Rw:Gc mg "START" (.str "start")
 Zw:Gc mg "END" (.str "end")
 aeh:Gc mg "AHEAD" (.str "ahead")
 ahw:Gc mg "BEHIND" (.str "behind")
 ahQ:Gc mg "MOST_WORDS" (.int 60)
 akL:Gc mg "MOST_WITHIN" (.int 20)
 aiG:Gc mg "ALL" (.str "all")
 acO:Gc mg "NONE" (.str "none")
 Yd:Gc mg "IS" (.str "is")
 Zq:Gc mg "UNDER" (.str "under")
 Ra:Gc mg "OVER" (.str "over")
 El:Gc mg "HOLDS" (.str "holds")
 Q5:Gc mg "NOT" (.str "not")
 Uk:Gc mg "BOTH" (.str "both")
 ajz:Gc mg "EITHER" (.str "either")
 al0:Gc mg "BASE" (.int 137)
 ajZ:Gc mg "REST_BY" (.int 9973)
 agj:Gc mg "FIGURES_OF_CHECK" (.int 4)
 Br:Gc mg "LIVING" (.str "living")
 GC:Gc mg "STILL" (.str "still")
 aop:Gc mg "LATEST" (.int 5000)
 abf:Gc mg "PARTS" (.int 5)
 adg:Gc mg "PARTING_marks" (.str "/")
 ae9:Gc mg "STOP" (.str ".")
 ags:Gc mg "AHEAD_SIGN" (.str "<")
 ajv:Gc mg "BEHIND_SIGN" (.str ">")
 acJ:Gc mg "TOUCHED" (.str "*")
 adu:Gc mg "BACK_AHEAD" (.str "back ")
 acM:Gc mg "FORTH_AHEAD" (.str "forth ")
 agr:Gc mg "LARGEST_SIZE" (.int 100)
 Tv:Gc mg "OK" (.str "ok")
 S7:Gc mg "PARTING_desk" (.str ":")
 afX:Gc mg "BOOK" (.str "book")
 VP:Gc mg "PUT" (.str "put")
 am7:Gc mg "CHANGE" (.str "change")
 ahs:Gc mg "TAKE" (.str "take")
 Vz:Gc mg "FIRST" (.str "first")
 abu:Gc mg "LAST" (.str "last")
 Qc:Gc mg "FORTH" (.str "forth")
 aeb:Gc mg "BACK" (.str "back")
 aiC:Gc mg "PLACE" (.str "place")
 afR:Gc mg "LET" (.str "let")
 adK:Gc mg "STOOD" (.str "stood")
 abI:mg "ValueError"=none
 Lh:mg "all"=none
 aj3:mg "bool"=none
 akE:mg "dict"=none
 aeq:mg "enumerate"=none
 xO:mg "int"=none
 zE:mg "isinstance"=none
 aN:mg "len"=none
 qz:mg "list"=none
 adf:mg "max"=none
 WX:mg "min"=none
 ac8:mg "ord"=none
 Uc:mg "range"=none
 Xu:mg "reversed"=none
 Sq:mg "set"=none
 Ci:mg "sorted"=none
 jM:mg "str"=none
 Q8:mg "tuple"=none
 aaT:mg "zip"=none
 ac6:mg "LeafError"=↑(.ref (η mg "LeafError"))
 ack:mg "NoValue"=↑(.ref (η mg "NoValue"))
 adU:mg "Book"=↑(.ref (η mg "Book"))
 yH:mg "Sieve"=↑(.ref (η mg "Sieve"))
 alG:mg "AllSieve"=↑(.ref (η mg "AllSieve"))
 aiv:mg "NoneSieve"=↑(.ref (η mg "NoneSieve"))
 adD:mg "IsSieve"=↑(.ref (η mg "IsSieve"))
 acD:mg "UnderSieve"=↑(.ref (η mg "UnderSieve"))
 ahU:mg "OverSieve"=↑(.ref (η mg "OverSieve"))
 akW:mg "HoldsSieve"=↑(.ref (η mg "HoldsSieve"))
 aly:mg "NotSieve"=↑(.ref (η mg "NotSieve"))
 abS:mg "BothSieve"=↑(.ref (η mg "BothSieve"))
 abT:mg "EitherSieve"=↑(.ref (η mg "EitherSieve"))
 agA:mg "Desk"=↑(.ref (η mg "Desk"))
 Kl:eY K mg "NoValue"
 j9:eY K mg "NoMark"
 uW:eY K mg "NoColumns"
 Bj:eY K mg "NoOrder"
 adm:eY K mg "NoSize"
 mD:eY K mg "NoLine"
 ajm:eY K mg "NoRow"
 agp:eY K mg "NoBook"
 oN:tR K mg "LeafError"
 alJ:XC K mg "LeafError" "NoColumns"
 iK:XC K mg "LeafError" "NoValue"
 mR:XC K mg "LeafError" "NoOrder"
 ae8:XC K mg "LeafError" "NoRow"
 yo:XC K mg "LeafError" "NoMark"
 ahx:XC K mg "LeafError" "NoSize"
 agJ:XC K mg "LeafError" "NoLine"
 amE:XC K mg "LeafError" "NoBook"
 mJ:XC K mg "LeafError" "NoSieve"
 ajb:XC K mg "LeafError" "NoPage"
 alI:XC K mg "LeafError" "Twice"
 acs:XC K mg "LeafError" "Absent"
 ahX:XC K mg "LeafError" "Gone"
 afs:XC K mg "LeafError" "Later"
 xJ:lN K mg "LeafError" "NoSieve" "NoSieve.__init__" "at" Ti
 zu:lN K mg "LeafError" "Later" "Later.__init__" "now" RW
 Bm:lN K mg "LeafError" "Absent" "Absent.__init__" "row" Mr
 Aq:lN K mg "LeafError" "Twice" "Twice.__init__" "row" VG
 xF:lN K mg "LeafError" "Gone" "Gone.__init__" "known" Yx
 Yi:[η mg "LeafError",η mg "NoColumns",η mg "NoValue",η mg "NoOrder",η mg "NoRow",η mg "NoMark",η mg "NoSize",η mg "NoLine",η mg "NoBook",η mg "NoSieve",η mg "NoPage",η mg "Twice",η mg "Absent",η mg "Gone",η mg "Later"].Nodup
 ϔ:Ϙ K (η mg "Book")
 acS:OI K (η mg "Book") "Book.__init__" XS
 RP:OM K (η mg "Book") "ask_row" "Book.ask_row" Qk
 JX:OM K (η mg "Book") "ask_there" "Book.ask_there" X8
 akZ:OM K (η mg "Book") "change" "Book.change" ZG
 qX:OM K (η mg "Book") "columns" "Book.columns" XD
 al5:OM K (η mg "Book") "deeds" "Book.deeds" zG
 Gv:OM K (η mg "Book") "do" "Book.do" Av
 Kz:OM K (η mg "Book") "done_behind" "Book.done_behind" QM
 aix:OM K (η mg "Book") "let_go" "Book.let_go" Vx
 GR:OM K (η mg "Book") "moment" "Book.moment" Tj
 YH:OM K (η mg "Book") "now_rows" "Book.now_rows" aaF
 acH:OM K (η mg "Book") "put" "Book.put" Qu
 U5:OM K (η mg "Book") "rows_at" "Book.rows_at" Fo
 aca:OM K (η mg "Book") "since" "Book.since" U0
 aes:OM K (η mg "Book") "take" "Book.take" aaV
 Hc:Ο K (η mg "Book") "heads"
 rG:Ο K (η mg "Book") "rows"
 CT:Ο K (η mg "Book") "touched"
 yZ:Ο K (η mg "Book") "done"
 GQ:Ο K (η mg "Book") "known"
 Ai:Ο K (η mg "Book") "now"
 Aa:Ϙ K (η mg "AllSieve")
 acI:OI K (η mg "AllSieve") "Sieve.__init__" IV
 ano:OM K (η mg "AllSieve") "lets" "Sieve.lets" M6
 ah4:OM K (η mg "AllSieve") "shown" "Sieve.shown" jr
 Qw:Ο K (η mg "AllSieve") "text"
 uZ:Ϙ K (η mg "NoneSieve")
 af6:OI K (η mg "NoneSieve") "NoneSieve.__init__" Mz
 ad6:OM K (η mg "NoneSieve") "lets" "NoneSieve.lets" Yj
 abY:OM K (η mg "NoneSieve") "shown" "Sieve.shown" jr
 Oc:Ο K (η mg "NoneSieve") "text"
 W6:Ο K (η mg "NoneSieve") "place"
 rA:Ϙ K (η mg "IsSieve")
 alg:OI K (η mg "IsSieve") "ValueSieve.__init__" uG
 abL:OM K (η mg "IsSieve") "fits" "ValueSieve.fits" Ni
 af7:OM K (η mg "IsSieve") "lets" "ValueSieve.lets" tu
 aee:OM K (η mg "IsSieve") "shown" "Sieve.shown" jr
 YZ:Ο K (η mg "IsSieve") "text"
 Oj:Ο K (η mg "IsSieve") "place"
 Uq:Ο K (η mg "IsSieve") "value"
 pW:Ϙ K (η mg "UnderSieve")
 agV:OI K (η mg "UnderSieve") "ValueSieve.__init__" uG
 adh:OM K (η mg "UnderSieve") "fits" "UnderSieve.fits" Ui
 ajM:OM K (η mg "UnderSieve") "lets" "ValueSieve.lets" tu
 aiA:OM K (η mg "UnderSieve") "shown" "Sieve.shown" jr
 Td:Ο K (η mg "UnderSieve") "text"
 Ou:Ο K (η mg "UnderSieve") "place"
 Od:Ο K (η mg "UnderSieve") "value"
 p7:Ϙ K (η mg "OverSieve")
 ana:OI K (η mg "OverSieve") "ValueSieve.__init__" uG
 agD:OM K (η mg "OverSieve") "fits" "OverSieve.fits" N5
 acP:OM K (η mg "OverSieve") "lets" "ValueSieve.lets" tu
 afv:OM K (η mg "OverSieve") "shown" "Sieve.shown" jr
 Rx:Ο K (η mg "OverSieve") "text"
 Ly:Ο K (η mg "OverSieve") "place"
 XQ:Ο K (η mg "OverSieve") "value"
 qH:Ϙ K (η mg "HoldsSieve")
 aeC:OI K (η mg "HoldsSieve") "ValueSieve.__init__" uG
 alo:OM K (η mg "HoldsSieve") "fits" "HoldsSieve.fits" Sw
 agL:OM K (η mg "HoldsSieve") "lets" "ValueSieve.lets" tu
 adR:OM K (η mg "HoldsSieve") "shown" "Sieve.shown" jr
 Ru:Ο K (η mg "HoldsSieve") "text"
 Yk:Ο K (η mg "HoldsSieve") "place"
 aam:Ο K (η mg "HoldsSieve") "value"
 wW:Ϙ K (η mg "NotSieve")
 ab4:OI K (η mg "NotSieve") "NotSieve.__init__" Wh
 ahg:OM K (η mg "NotSieve") "lets" "NotSieve.lets" Ww
 anf:OM K (η mg "NotSieve") "shown" "Sieve.shown" jr
 Uy:Ο K (η mg "NotSieve") "text"
 Nx:Ο K (η mg "NotSieve") "one"
 qC:Ϙ K (η mg "BothSieve")
 aej:OI K (η mg "BothSieve") "PairSieve.__init__" Dk
 abd:OM K (η mg "BothSieve") "lets" "BothSieve.lets" YS
 aol:OM K (η mg "BothSieve") "shown" "Sieve.shown" jr
 aaJ:Ο K (η mg "BothSieve") "text"
 PL:Ο K (η mg "BothSieve") "one"
 Yz:Ο K (η mg "BothSieve") "other"
 qL:Ϙ K (η mg "EitherSieve")
 adk:OI K (η mg "EitherSieve") "PairSieve.__init__" Dk
 amc:OM K (η mg "EitherSieve") "lets" "EitherSieve.lets" Qn
 akp:OM K (η mg "EitherSieve") "shown" "Sieve.shown" jr
 Mg:Ο K (η mg "EitherSieve") "text"
 Mw:Ο K (η mg "EitherSieve") "one"
 QD:Ο K (η mg "EitherSieve") "other"
 cz:Ϙ K (η mg "Desk")
 aeI:OI K (η mg "Desk") "Desk.__init__" UT
 agl:OM K (η mg "Desk") "begin_list" "Desk.begin_list" Jv
 afE:OM K (η mg "Desk") "let_moments_go" "Desk.let_moments_go" Kh
 abp:OM K (η mg "Desk") "new_book" "Desk.new_book" yX
 aga:OM K (η mg "Desk") "put_or_change" "Desk.put_or_change" Hm
 Qz:OM K (η mg "Desk") "say" "Desk.say" Ii
 al6:OM K (η mg "Desk") "show_place" "Desk.show_place" Gm
 alQ:OM K (η mg "Desk") "show_stood" "Desk.show_stood" Aj
 nq:OM K (η mg "Desk") "standing" "Desk.standing" Vh
 am2:OM K (η mg "Desk") "take_out" "Desk.take_out" Ku
 ad9:OM K (η mg "Desk") "turn_list" "Desk.turn_list" Ey
 yU:Ο K (η mg "Desk") "book"
 Bl:OB K (η mg "Sieve") "__init__" "Sieve.__init__" IV
def fL:Array ε:=Ek #[293,4,294,38] "sorted_by.<locals>.rank"
section
variable{P:ϰ}{w:Ϯ}{K:ϩ}{mg:MG}{base:ϫ}
abbrev ab8:Prop:=∀{P:ϰ}{w:Ϯ}{K:ϩ}{mg:MG}{base:ϫ}(T:Txt K mg)(hN:cR K mg base "sorted_by"){f:δ}{fd:ajB}(F:cG K "law" "law" jg f fd),cW P w K mg base (bQ P w) true 90 f fd ["_law_script"] (Ef K "sorted_by" fL)
end
end _K
section
open PySem PySem.W PyProof.Rows
open Lean in
local macro_rules(kind:=Lean.Parser.Command.universe)|s=>do
 let mut r:Array Syntax:=.empty
 for x in s[1].getArgs do
  let n:=x.getId
  let l:=n.toString.toList
  let k:=match l.head! with|'o'=>"o_"|'t'=>"tree_"|'h'=>"heap_"|'s'=>"sts_"|_=>"view_"
  let p:=if n.isAtomic then (String.ofList l.tail!).splitOn "x" |>.map (·.toNat!) else [0]
  for i in [p.head!:p.getLast!+1] do
   let m:=if n.isAtomic then Name.mkStr `PySem.Challenge.t0 s!"{k}{i}" else n
   r:=r.push (<-`(theorem $(mkIdent (`PySem.W.Fast++.mkSimple s!"tw{m.hash}")):ident:True:=⟨⟩))
 return mkNullNode r
universe o4x7 o10x659 o663x1542 h1543 t1542 t1533 h1 t1451 t1362 t1311 t1248 t1180 t1110 t1038 t1009 v1 t987 t965 t936 PySem.Challenge.pw_turnleaf_k81_lines_of_a_desk t914 t892 t870 t855 t819 t790 t775 t731 t574 t659 t434 t372 t290 s1452 t261 t239 t217 s1039 t195 s1181 s1111 s1363 t173 s663 s1249 s435 t151 s291 t136 s373 t121 s1534 t106 s1312 t91 t76 s1010 s732 s262 t61 t46 s820 s937 s791 t31 s966 s240 s174 s152 s196 s218 s988 s871 s893 s10 s915 s32 s47 h7 s107 s122 s92 s62 s77 s137 s856 PySem.Challenge.rw_turnleaf_k81_lines_of_a_desk s776 t8
set_option maxRecDepth 100000 in
set_option maxHeartbeats 0 in
set_option tactic.hygienic true in
theorem PySem.Challenge.t1(g:PySem.Challenge.rw_turnleaf_k81_lines_of_a_desk.row.wellSaid=true→PySem.Challenge.rw_turnleaf_k81_lines_of_a_desk.row.Holds):PySem.Challenge.rw_turnleaf_k81_lines_of_a_desk.Holds:=by
 w_on;o_law;show g (by assumption)
set_option maxRecDepth 100000 in
set_option maxHeartbeats 0 in
set_option tactic.hygienic true in
theorem PySem.Challenge.t0(g:_K.ab8)(G:PySem.Challenge.rw_turnleaf_k81_lines_of_a_desk.row.wellSaid=true):PySem.Challenge.rw_turnleaf_k81_lines_of_a_desk.row.Holds:=by
 have gs:_K.ab8∧PySem.Challenge.rw_turnleaf_k81_lines_of_a_desk.row.wellSaid=true:=⟨g,G⟩;k_head;(case hw=>w_witness2)
 intro g;k_fill
 show _L.aiY (l:=PySem.Challenge.rw_turnleaf_k81_lines_of_a_desk) (n:=63) (k:=90) (x:="_law_script") (xn:="sorted_by") (ps:=_K.fL) (CX:=λw=>_L.bQ PySem.Challenge.rw_turnleaf_k81_lines_of_a_desk.prog w) (cc:=true) (sp:=λw=>_L.Ef _ "sorted_by" _K.fL) rfl (by decide) rfl #[λ_=>rfl,by decide,by decide] (λw h Y=>PySem.W.km_in_of Y) ?R ?B ?F (λ_ _ a ns i j m=>#[a,ns,rfl,j,i,m,λ_=>rfl]) (λ_ _ _ _ _ z=>_L.bQ.never z)
 case R=>kernel_rfl
 case B=>intro w;kernel_rfl
 case F=>
  intro w mg D h c G e;let T:_K.Txt (_L.Mf c) mg:=by
   clear g;dsimp only[_L.Mf];constructor
   all_goals first|refine' _L.alh c G ..|refine' _L.anx c G ..|refine' _L.anD c G ..|refine' _L.anG c G ..|refine' _L.ael c G ..|refine' _L.acf c G ..|refine' _L.aiP c G ..|refine' _L.ahf c G ..|refine' _L.aeL c G ..|refine' _L.t_k c G ..|refine' _L.ane c G ..|refine' _L.abw c G ..|refine' _L.akl c G ..|refine' _L.adO c G ..|refine' _L.ahS c G ..|refine' _L.aoj c G ..|refine' _L.am4 c G ..|refine' _L.anc c G ..|refine' _L.ai5 (mg:=mg) (_L.dN c G ?_ (_L.dN c G ?_ (_L.dN c G ?_ (_L.dN c G ?_ (_L.dN c G ?_ (_L.dN c G ?_ (_L.dN c G ?_ (_L.dN c G ?_ (_L.dN c G ?_ (_L.dN c G ?_ (_L.dN c G ?_ (_L.dN c G ?_ (_L.dN c G ?_ (_L.dN c G ?_ (_L.dN c G ?_ _L.j6.nil))))))))))))))) ?_
   any_goals try delta _L.bU
   any_goals try delta _L.nJ
   any_goals first|k_is|k_exc|kernel_rfl|decide
  let#[f,fd,F,o]:=T.alU;let p:=e.symm<|>o;cases p;let#[oc,od,kV,q,pm,an,E,ct,v,rfl,lk,y]:=id F.ex;show#[_,λs u=>.of_eq rfl,λbase H I C=>g T C F]
end
namespace _L
open PySem PySem.Spec PyProof.Rows
def amd(i:Int)(t:Tok):qt (.inl i) (.int i t)=true:=by simp[qt,Value.isInt]
def aip(x:Str)(t:Tok):qt (.inr x) (.str x t)=true:=by simp[qt,Value.isStrOf]
theorem anm(prog:ϰ)(w:Ϯ)(i:Int)(t:Tok):(jn prog w).is (.inl i) (.int i t)=true:=amd i t
theorem agv(prog:ϰ)(w:Ϯ)(x:Str)(t:Tok):(jn prog w).is (.inr x) (.str x t)=true:=aip x t
theorem Vals.length{xs:List V}{us:List ε}(r:Vals xs us):↥xs=↥us:=Paired.length r
theorem Vals.get:∀{xs:List V}{us:List ε}{i:Nat}{x:V},Vals xs us->xs[i]?=↑x->∃u,us[i]?=↑u/\RelV x u
 |_,_,_,_,.nil,e=>by simp at e
 |_,_,0,_,.cons r _,e=>by simp at e;subst e;show#[_,rfl,r]
 |_,_,i+1,x,.cons _ t,e=>by
  let#[u,h1,h2]:=Vals.get (i:=i) (x:=x) t (~~~e);show#[u,~~~h1,h2]
theorem Vals.set{x:V}{u:ε}(r:RelV x u):∀{xs:List V}{us:List ε}(i:Nat),Vals xs us->Vals (xs.set i x) (us.set i u)
 |_,_,_,.nil=>.nil
 |_,_,0,.cons _ t=>.cons r t
 |_,_,i+1,.cons q t=>.cons q (Vals.set r i t)
theorem Vals.append:∀{xs ys:List V}{us ws:List ε},Vals xs us->Vals ys ws->Vals (xs++ys) (us++ws)
 |_,_,_,_,.nil,s=>s
 |_,_,_,_,.cons r t,s=>.cons r (Vals.append t s)
theorem Vals.take:∀{xs:List V}{us:List ε}(n:Nat),Vals xs us->Vals (xs.take n) (us.take n)
 |_,_,0,_=>.nil
 |_,_,_+1,.nil=>.nil
 |_,_,n+1,.cons r t=>.cons r (Vals.take n t)
theorem Vals.drop:∀{xs:List V}{us:List ε}(n:Nat),Vals xs us->Vals (xs.drop n) (us.drop n)
 |_,_,0,r=>r
 |_,_,_+1,.nil=>.nil
 |_,_,n+1,.cons _ t=>Vals.drop n t
def kV:Key->V
 |.inl i=>.int i
 |.inr x=>.str x
theorem Α{n:Nat}(h:n.ble 1000=true:=by rfl):n<=ϱ:=adQ (asu h) (by rw[ϯ];decide)
def upd(H:Hp)(a:δ)(o:HO):Hp:=λb=>if b=a then some o else H b
def ξ{H:Hp}{a:δ}{o:HO}:upd H a o a=↑o:=by unfold upd;rw[if_pos rfl]
def ι{H:Hp}{a b:δ}{o:HO}(h:b≠a):upd H a o b=H b:=by unfold upd;rw[if_neg h]
def Ξ{H:Hp}{a b:δ}{o:HO}(h:H a=↑o)(h':H b=none):a≠b:=by
 intro e;subst e;rw[h]at h';cases h'
section
variable{P:ϰ}{w:Ϯ}{H H':Hp}{h h':ϫ}{a:δ}{o:HO}
def Ϟ.there(x:Ϟ P w H h a o):∃ob,h.get? a=↑ob:=by
 cases o with
 |lst xs=>let#[_,_,_,_,e]:=x;show#[_,e]
 |tup xs=>let#[_,_,_,ob,e,_]:=x;show#[_,e]
 |dK Ϸ=>let#[_,_,_,_,o,_,_,e,_]:=x;show#[_,e]
 |ins C dx fs=>let#[_,_,_,e,_]:=x;show#[_,e]
 |own y=>let#[_,e]:=x;show#[_,e]
 |xd fs=>let#[_,#[_,_,_,e,_],_]:=x;show#[_,e]
 |rng lo hi=>let#[_,_,_,e]:=x;show#[_,e]
 |frz ob u=>let#[e,_]:=x;show#[_,e]
 |tbl ps=>let#[_,e,_]:=x;show#[_,e]
 |met f y=>show#[_,(show h.get? a=↑_ from x)]
 |ext φ=>let#[_,#[_,e],_]:=x;show#[_,e]
def Ϟ.lt(x:Ϟ P w H h a o):a<h.objs.size:=by
 let#[_,e]:=x.there;show abU e
def Ϟ.stay(x:Ϟ P w H h a o)(k:∀b u,(b=a\/H b=↑(.own a))->h.get? b=↑u->h'.get? b=↑u)(l:∀b,H b=↑(.own a)->H' b=↑(.own a))(I:∀b xs,H b=↑(.tup xs)->H' b=↑(.tup xs))(m:∀b g u,H b=↑(.frz g u)->H' b=↑(.frz g u):=by show λ_ _ _ q=>q):Ϟ P w H' h' a o:=by
 induction o with
 |lst xs=>let#[z,i,n,r,e]:=x;show#[z,i,n,r,k _ _ (.inl rfl) e]
 |tup xs=>let#[z,i,r,g,e,c]:=x;show#[z,i,r,g,k _ _ (.inl rfl) e,c]
 |dK Ϸ=>let#[z,y,vs,r,g,es,ep,e,c]:=x;show#[z,y,vs,r,g,es,ep,k _ _ (.inl rfl) e,c]
 |ins C dx fs=>
  let#[d,z,ne,e,mA,#[od,es,ep,j,c],r]:=x;show#[l _ d,z,ne,k _ _ (.inl rfl) e,mA,#[od,es,ep,k _ _ (.inr d) j,c],r]
 |own y=>let#[g,e]:=x;show#[g,k _ _ (.inl rfl) e]
 |xd fs=>let#[mA,#[od,es,ep,e,c],r]:=x;show#[mA,#[od,es,ep,k _ _ (.inl rfl) e,c],r]
 |rng lo hi=>let#[t,u,v,e]:=x;show#[t,u,v,k _ _ (.inl rfl) e]
 |frz g u s=>let#[e,q]:=x;show#[k _ _ (.inl rfl) e,s q]
 |tbl ps=>
  let#[B,e,tr,z]:=x;show#[B,k _ _ (.inl rfl) e,tr,λp D E=>?_];let#[c,oc,u,q,t,vs,t',e1,j,F,G]:=z p D E;show#[c,oc,u,q,t,vs,t',e1,j,m _ _ _ F,G]
 |met f y=>
  let e:h.get? a=↑(atF (.ref f) (.ref y)):=x;show h'.get? a=↑(atF (.ref f) (.ref y));show k a _ (.inl rfl) e
 |ext φ=>let#[p,#[o,e],st]:=x;show#[st _ _ p λo q=>k _ _ (.inl rfl) q,#[o,k _ _ (.inl rfl) e],st]
theorem aG.lt(x:aG P w H h)(e:H a=↑o):a<h.objs.size:=(x a o e).lt
def aG.fresh(x:aG P w H h)(e:h.objs.size<=a):H a=none:=by
 cases q:H a with
 |none=>rfl
 |some u=>show absurd (abr (x.lt q) e) (ali _)
theorem aG.kept(x:aG P w H h)(k:∀b u,h.get? b=↑u->h'.get? b=↑u):aG P w H h':=λa o e=>
 (x a o e).stay (λb u _ q=>k b u q) (λ_ q=>q) λ_ _ q=>q
theorem aG.laid(x:aG P w H h)(k:∀b u,h.get? b=↑u->h'.get? b=↑u)(i:h.objs.size<=a)(new:Ϟ P w (upd H a o) h' a o):aG P w (upd H a o) h':=λb u e=>by
 let f:=x.fresh i;by_cases g:b=a
 .subst g;rw[ξ]at e;cases e;show new
 .rw[ι g]at e;show(x b u e).stay (λc v _ q=>k c v q) (λc q=>by rw[ι (Ξ q f)];show q) (λc xs q=>by rw[ι (Ξ q f)];show q) λc j v q=>by rw[ι (Ξ q f)];show q
end
def Rd.ok{P:ϰ}{w:Ϯ}{H:Hp}{h:ϫ}{a:δ}{u:HO}(r:Rd H a u)(x:aG P w H h):Ϟ P w H h a u:=by
 obtain r|⟨o,r⟩:=r
 .show x a u r
 .let#[_,q]:=x a _ r;show q
def w6:Option HO->Prop
 |some (.lst _)=>True
 |some (.dK _)=>True
 |some (.ins _ _ _)=>True
 |some (.ext _)=>True
 |_=>False
section
variable{P:ϰ}{w:Ϯ}{H:Hp}{h h':ϫ}{x e:δ}{o':HO}
theorem aG.write(ok:aG P w H h)(g:w6 (H x))(m:e=x\/H e=↑(.own x))(k:∀b u,b≠e->h.get? b=↑u->h'.get? b=↑u)(l:∃u,h'.get? e=↑u)(new:Ϟ P w (upd H x o') h' x o'):aG P w (upd H x o') h':=λb u q=>by
 let f:∀c y,H c=↑(.own y)->c≠x:=λc y r z=>by subst z;rw[r]at g;show g
 let i:∀c xs,H c=↑(.tup xs)->c≠x:=λc xs r z=>by subst z;rw[r]at g;show g
 by_cases j:b=x
 .subst j;rw[ξ]at q;cases q;show new
 .rw[ι j]at q;by_cases a:b=e
  .let n:H b=↑(.own x):=by
    obtain z|z:=m
    .show absurd (a<|>z) j
    .rw[a];show z
   rw[q]at n;cases n;let#[v,o]:=l;show#[v,by rw[a];show o]
  .show(ok b u q).stay (λc v hc r=>k c v ?_ r) (λc r=>by rw[ι (f c b r)];show r) (λc xs r=>by rw[ι (i c xs r)];show r) λc p v r=>by rw[ι (λz=>by subst z;rw[r]at g;show g)];show r
   obtain rfl|hc:=hc
   .show a
   .rintro rfl
    obtain z|z:=m
    .show f c b hc z
    .rw[hc]at z;cases z;show j rfl
end
section
variable{fs fs' ex ex':List δ}{H H1 H2:Hp}{h h1 h2 h':ϫ}{a x e:δ}{o:HO}
def Un.any(u:Un fs ex H H1 h h1){b:δ}{a:Obj}(q:h.get? b=↑a)(n:H b=none)(c:b∉ex):∃sl,h1.get? b=some {a with slots:=sl}:=by
 by_cases e:b∈fs
 .show u.slot b a q n e c
 .show#[a.slots,u.keep b a q n e c]
theorem Un.kept(k:∀b u,h.get? b=↑u->h'.get? b=↑u):Un fs ex H H h h':=
 #[λb a q _ _ _=>k b a q,λb a q _ _ _=>#[a.slots,k b a q],λ_ _ _ n _=>n,λb a q _=>#[a,k b a q],λ_ _ q=>q,λ_ _ _ q=>q,λ_ ps q=>#[#v[],by rw[q];simp]]
theorem Un.refl:Un fs ex H H h h:=Un.kept λ_ _ q=>q
theorem Un.laid(k:∀b u,h.get? b=↑u->h'.get? b=↑u)(e:h.objs.size<=a)(c:H a=none):Un fs ex H (upd H a o) h h' where
 keep:=λb u q _ _ _=>k b u q
 slot:=λb u q _ _ _=>#[u.slots,k b u q]
 free:=λb u q n _=>by rw[ι (acb (abr (abU q) e))];show n
 there:=λb u q _=>#[u,k b u q]
 tups:=λb xs q=>by rw[ι (Ξ q c)];show q
 frzs:=λb u xs q=>by rw[ι (Ξ q c)];show q
 tbls:=λb ps q=>#[#v[],by rw[ι (Ξ q c),q];simp]
def Un.write(c:w6 (H x))(l:e=x\/H e=↑(.own x))(k:∀b u,b≠e->h.get? b=↑u->h'.get? b=↑u)(f:∃u,h'.get? e=↑u):Un fs ex H (upd H x o) h h':=by
 let i:∀b,H b=none->b≠x:=λb n z=>by subst z;rw[n]at c;show c
 let j:∀b,H b=none->b≠e:=λb n z=>by
  subst z;obtain r|r:=l
  .show i b n r
  .rw[n]at r;cases r
 let g:∀b u,H b=↑u->¬w6 ↑u->b≠x:=λb u q nm z=>by subst z;rw[q]at c;show nm c
 show#[λb u q n _ _=>k b u (j b n) q,λb u q n _ _=>#[u.slots,k b u (j b n) q],λb u q n _=>by rw[ι (i b n)];show n,λb u q _=>?_,
  λb xs q=>by rw[ι (g b _ q λz=>z)];show q,λb u xs q=>by rw[ι (g b _ q λz=>z)];show q,λb ps q=>#[#v[],by rw[ι (g b _ q λz=>z),q];simp]]
 by_cases a:b=e
 .subst a;show f
 .show#[u,k b u a q]
end
def ac9(g h:ϫ)(L:δ):List (δ×Obj):=(afd h.objs.size).filterMap λa=>if a=L\/(g.get? a).isSome=true then none else(h.get? a).map λo=>(a,o)
def rest(g h:ϫ)(L d:δ):List (δ×Obj):=(ac9 g h L).filter λp=>decide (p.1≠d)
structure Cx where
 prog:ϰ
 w:Ϯ
 K:ϩ
 mg:Str->Option ε
 base:ϫ
 A:ϴ
 N:List Str
 s₀:ν
 H₀:Hp
 env:Env
 outer:List Env
 stack:List Env
 ex:List δ
 fn:Str->Bool
 calm:Bool
 pn:List (δ×Obj)
 xe:ε->ν->Prop
abbrev Cx.fs(X:Cx):List δ:=bY X.outer
def rF(sc:aiZ)(x:Str):Prop:=sc.names.lookup x=↑.local\/sc.names.lookup x=↑.cell\/sc.names.lookup x=↑.free
def Loc(sc:aiZ)(x:Str):Prop:=sc.names.lookup x=↑.local\/sc.names.lookup x=↑.cell
def Look(env:Env)(h:ϫ)(m:MG)(x:Str)(u:ε):Prop:=
 (env.kindOf x=↑.local/\m x=↑u)\/((env.kindOf x=↑.cell\/env.kindOf x=↑.free)/\∃c,env.cells.lookup x=↑c/\h.IsCell c ↑u)
structure Cx.Ok(X:Cx):Prop where
 mod:Mod X.K X.mg X.base
 kind:X.env.scope.kind=.function
 glob:X.env.globals=mainGlobals
 blt:X.env.builtins=builtinsNs
 above:X.s₀.heap.objs.size<=X.env.locals
 inj:∀x y c,X.env.cells.lookup x=↑c->X.env.cells.lookup y=↑c->x=y
 has:∀x,(X.env.kindOf x=↑.cell\/X.env.kindOf x=↑.free)->∃c,X.env.cells.lookup x=↑c
 cab:∀x c,X.fn x=true->X.env.cells.lookup x=↑c->X.s₀.heap.objs.size<=c
 hd:X.calm=true->X.A.handled=none
 frames:X.A.frames=↑X.stack
 stk:X.stack=X.outer\/(X.stack=X.env::X.outer/\X.env.frame=↑X.env.locals)
 exf:∀b∈X.ex,b≠X.env.locals/\∀x c,X.env.cells.lookup x=↑c->c≠b
 bs:∀b o,X.base.get? b=↑o->X.s₀.heap.get? b=↑o/\X.H₀ b=none
 bsz:X.base.objs.size<=X.s₀.heap.objs.size
 noex:∀b o,X.base.get? b=↑o->b∉X.ex
 exfs:∀b∈X.ex,b∉X.fs
 funs:X.s₀.heap.FunFrames X.base X.outer
 frf:∀b∈X.fs,X.H₀ b=none
structure Inv(X:Cx)(ϵ:List (δ×Obj))(σ:List (Option V))(H:Hp)(s:ν):Prop where
 ok:X.Ok
 os:s.os=X.s₀.os
 bare:AllBare s.gens
 base:Un X.fs X.ex X.H₀ H X.s₀.heap s.heap
 loc:∃m,s.heap.Ns X.env.locals m/\∀(i:Nat)(x:Str)(v:V),X.N[i]?=↑x->σ[i]?=some ↑v->rF X.env.scope x->∃u,RelV v u/\Look X.env s.heap m x u
 cell:∀x c,X.env.cells.lookup x=↑c->∃v,s.heap.IsCell c v
 free:H X.env.locals=none
 freeC:∀x c,X.env.cells.lookup x=↑c->H c=none
 pin:∀p∈X.pn++ϵ,s.heap.get? p.1=↑p.2/\H p.1=none/\p.1≠X.env.locals/\p.1∉X.fs/\∀v,p.2.data≠.cell v
 hok:aG X.prog X.w H s.heap
 len:↥σ=↥X.N
section
variable{X:Cx}{ϵ:List (δ×Obj)}{σ:List (Option V)}{H H':Hp}{s:ν}{h':ϫ}
theorem Cx.Ok.nofr(ok:X.Ok){b:δ}{o:Obj}(e:X.base.get? b=↑o):b∉X.fs:=λa=>by
 have:=(ok.funs.mem a).1;rw[e]at this;cases this
theorem Inv.bs(I:Inv X ϵ σ H s):∀b o,X.base.get? b=↑o->s.heap.get? b=↑o/\H b=none:=λb o e=>
 #[I.base.keep b o (I.ok.bs b o e).1 (I.ok.bs b o e).2 (I.ok.nofr e) (I.ok.noex b o e),I.base.free b o (I.ok.bs b o e).1 (I.ok.bs b o e).2 (I.ok.noex b o e)]
theorem Inv.bk(I:Inv X ϵ σ H s):∀b o,X.base.get? b=↑o->s.heap.get? b=↑o:=λb o e=>(I.bs b o e).1
theorem Inv.mod(I:Inv X ϵ σ H s):Mod X.K X.mg X.base:=I.ok.mod
theorem Inv.kIn(I:Inv X ϵ σ H s):X.K.In s.heap:=I.ok.mod.kin.keeps I.bk
theorem Inv.nolimit(I:Inv X ϵ σ H s):s.heap.NoLimit:=I.ok.mod.nolimit.keeps I.bk
theorem Inv.lt(I:Inv X ϵ σ H s):X.env.locals<⇑s:=let⟨_,hn,_⟩:=I.loc;hn.lt
theorem Inv.sz(I:Inv X ϵ σ H s):X.s₀.heap.objs.size<=⇑s:=adQ I.ok.above (aqX I.lt)
theorem Inv.nofs(I:Inv X ϵ σ H s){a:δ}(h:⇑s<=a):a∉X.fs:=λc=>by
 let#[_,o,e,_]:=I.ok.funs.mem c;show absurd (abr (abU e) (adQ I.sz h)) (ali _)
theorem Inv.cne(I:Inv X ϵ σ H s):∀x c,X.env.cells.lookup x=↑c->c≠X.env.locals:=λx c e z=>by
 let#[v,o,g,hd]:=I.cell x c e;let#[m,#[o',es,ep,a,f,_],_]:=I.loc;rw[z,a]at g;cases g;rw[f]at hd;cases hd
def Inv.funs(I:Inv X ϵ σ H s):s.heap.FunFrames X.base X.outer:=by
 let all:∀(l:List Env),(∀b∈bY l,b∈X.fs)->X.s₀.heap.FunFrames X.base l->s.heap.FunFrames X.base l:=by
  intro l;induction l with
  |nil=>intro _ _;trivial
  |cons env r g=>
   intro hs i;let#[j,#[L,o,a,m,n,hd],p]:=i;let c:L∈X.fs:=hs L (by unfold bY;rw[arO,a];show ad1);let#[sl,e]:=I.base.slot L o n (I.ok.frf L c) c λz=>I.ok.exfs L z c
   show#[j,#[L,_,a,m,e,hd],g (λb f=>hs b (by unfold bY;rw[arO,a];show abk _ f)) p]
 show all X.outer (λ_ f=>f) I.ok.funs
def Inv.stack(I:Inv X ϵ σ H s):s.heap.FunFrames X.base X.stack:=by
 obtain e|⟨e,a⟩:=I.ok.stk
 .rw[e];show I.funs
 .rw[e];let#[m,c,_]:=I.loc;show .cons (by rw[I.ok.kind];decide) a c ?_ I.funs*>akO (adQ I.ok.bsz I.ok.above)
theorem Inv.stkSub(I:Inv X ϵ σ H s):∀b∈bY X.stack,b∈X.env.locals::X.fs:=λb a=>by
 obtain e|⟨e,c⟩:=I.ok.stk
 .rw[e]at a;show abk _ a
 .rw[e]at a;unfold bY at a;rw[arO,c]at a;show a
theorem Inv.stkFree(I:Inv X ϵ σ H s):∀b∈bY X.stack,H b=none:=λb hb=>by
 rcases aaz.mp (I.stkSub b hb)with e|hb
 .rw[e];show I.free
 .let#[_,o,a,_]:=I.ok.funs.mem hb;show I.base.free b o a (I.ok.frf b hb) λz=>I.ok.exfs b z hb
def Inv.step{g':Array GenState}{t':Nat}{d':Drawn}{ch:List δ}(I:Inv X ϵ σ H s)(f:∀b∈ch,(b∈X.ex\/X.s₀.heap.get? b=none)/\b≠X.env.locals/\(∀x c,X.env.cells.lookup x=↑c->c≠b)/\∀p∈X.pn++ϵ,p.1≠b)(keep:∀b o,b≠X.env.locals->b∉X.fs->b∉ch->s.heap.get? b=↑o->H b=none->h'.get? b=↑o)(slot:∀b o,b≠X.env.locals->b∈X.fs->b∉ch->s.heap.get? b=↑o->H b=none->∃sl,h'.get? b=some {o with slots:=sl})(free:∀b o,b∉ch->s.heap.get? b=↑o->H b=none->H' b=none)(there:∀b o,b∉ch->s.heap.get? b=↑o->∃o',h'.get? b=↑o')(tups:∀b xs,H b=↑(.tup xs)->H' b=↑(.tup xs))(frzs:∀b o u,H b=↑(.frz o u)->H' b=↑(.frz o u))(tbls:∀b ps,H b=↑(.tbl ps)->∃D,H' b=↑(.tbl (ps++D)))(ns:∀m,s.heap.Ns X.env.locals m->h'.Ns X.env.locals m)(hok:aG X.prog X.w H' h')(O:AllBare g'):Inv X ϵ σ H' {s with heap:=h',gens:=g',drawn:=d',toks:=t'}:=by
 let E:∀b o,X.s₀.heap.get? b=↑o->b≠X.env.locals:=λb o e=>acb (abr (abU e) I.ok.above)
 let y:∀b o,X.s₀.heap.get? b=↑o->b∉X.ex->b∉ch:=λb o e a B=>by
  rcases(f b B).1 with z|z
  .show a z
  .rw[e]at z;cases z
 let g:∀x c,X.env.cells.lookup x=↑c->∀v,s.heap.IsCell c v->h'.IsCell c v:=λx c e v ⟨o,C,hd⟩=>by
  let j:c∉ch:=λz=>(f c z).2.2.1 x c e rfl
  by_cases J:c∈X.fs
  .let#[sl,q]:=slot c o (I.cne x c e) J j C (I.freeC x c e);show#[_,q,hd]
  .show#[o,keep c o (I.cne x c e) J j C (I.freeC x c e),hd]
 show#[I.ok,I.os,O,#[λb o e n B a=>?_,λb o e n B a=>?_,λb o e n a=>?_,λb o e a=>?_,λb xs e=>tups b xs (I.base.tups b xs e),λb o xs e=>frzs b o xs (I.base.frzs b o xs e),λb ps e=>?_],?_,λx c e=>?_,?_,λx c e=>?_,λp L=>?_,hok,I.len]
 .show keep b o (E b o e) B (y b o e a) (I.base.keep b o e n B a) (I.base.free b o e n a)
 .let#[sl,e1]:=I.base.slot b o e n B a;let#[G,F]:=slot b _ (E b o e) B (y b o e a) e1 (I.base.free b o e n a);show#[G,F]
 .let#[o',e1]:=I.base.there b o e a;show free b o' (y b o e a) e1 (I.base.free b o e n a)
 .let#[o',e1]:=I.base.there b o e a;show there b o' (y b o e a) e1
 .let#[P,e1]:=I.base.tbls b ps e;let#[Q,F]:=tbls b _ e1;show#[P++Q,by rw[F,Array.append_assoc]]
 .let#[m,R,S]:=I.loc;show#[m,ns m R,λi x v e1 F T=>?_];let#[u,r,l]:=S i x v e1 F T;show#[u,r,?_];obtain l|⟨k,c,e,z⟩:=l
  .show .inl l
  .show .inr #[k,c,e,g x c e _ z]
 .let#[v,z]:=I.cell x c e;show#[v,g x c e v z]
 .let#[m,#[o,_,_,C,_],_]:=I.loc;show free _ o (λz=>(f _ z).2.1 rfl) C I.free
 .let#[v,o,C,hd]:=I.cell x c e;show free c o (λz=>(f c z).2.2.1 x c e rfl) C (I.freeC x c e)
 .let#[e,n,ne,M,d]:=I.pin p L;let j:p.1∉ch:=λz=>(f p.1 z).2.2.2 p L rfl
  show#[keep p.1 p.2 ne M j e n,free p.1 p.2 j e n,ne,M,d]
def Inv.un{t':Nat}(I:Inv X ϵ σ H s)(u:Un X.fs [] H H' s.heap h')(hok:aG X.prog X.w H' h'):Inv X ϵ σ H' {s with heap:=h',toks:=t'}:=by
 let#[m,#[o,es,ep,i,r],_]:=id I.loc;let#[sl,j]:=u.any i I.free (by simp);show I.step (g':=s.gens) (d':=s.drawn) (ch:=[]) (λ_ z=>nomatch z) (λb o _ c _ e n=>u.keep b o e n c (by simp)) (λb o _ c _ e n=>u.slot b o e n c (by simp)) (λb o _ e n=>u.free b o e n (by simp)) (λb o _ e=>u.there b o e (by simp)) u.tups u.frzs u.tbls (λm' l=>by
  let#[o',f,g,a,p]:=l;rw[i]at a;cases a;show#[_,f,g,j,p]) hok I.bare
def Inv.call{g':Array GenState}{t':Nat}{d':Drawn}{ch:List δ}(I:Inv X ϵ σ H s)(u:Un (bY X.stack) ch H H' s.heap h')(hok:aG X.prog X.w H' h')(v:AllBare g')(f:∀b∈ch,(b∈X.ex\/X.s₀.heap.get? b=none)/\b≠X.env.locals/\(∀x c,X.env.cells.lookup x=↑c->c≠b)/\∀p∈X.pn++ϵ,p.1≠b):Inv X ϵ σ H' {s with heap:=h',gens:=g',drawn:=d',toks:=t'}:=by
 let#[m,#[o,es,ep,q,r],_]:=id I.loc;let#[sl,i]:=u.any q I.free λz=>(f _ z).2.1 rfl
 show I.step (ch:=ch) f (λb o i y a e n=>u.keep b o e n (λz=>(aaz.mp (I.stkSub b z)).elim i y) a) (λb o _ _ a e n=>u.any e n a) (λb o a e n=>u.free b o e n a) (λb o a e=>u.there b o e a) u.tups u.frzs u.tbls (λm' B=>by
  let#[o',j,l,g,C]:=B;rw[q]at g;cases g;show#[_,j,l,i,C]) hok v
def Inv.turned{t':Nat}{it:δ}(I:Inv X ϵ σ H s)(k:∀b o,b≠it->s.heap.get? b=↑o->h'.get? b=↑o)(i:H it=none)(g:it≠X.env.locals)(h1:it∈X.ex\/X.s₀.heap.get? it=none)(h2:∀x c,X.env.cells.lookup x=↑c->c≠it)(j:∀p∈X.pn++ϵ,p.1≠it):Inv X ϵ σ H {s with heap:=h',toks:=t'}:=by
 let f:∀b u,H b=↑u->b≠it:=λb u e z=>by rw[z,i]at e;cases e
 show I.step (g':=s.gens) (d':=s.drawn) (ch:=[it]) (λb l=>?_) (λb o _ _ a e _=>k b o (λz=>a (by simp[z])) e) (λb o _ _ a e _=>#[o.slots,k b o (λz=>a (by simp[z])) e]) (λ_ _ _ _ n=>n)
  (λb o a e=>#[o,k b o (λz=>a (by simp[z])) e]) (λ_ _ e=>e) (λ_ _ _ e=>e) (λb ps e=>#[#v[],by rw[e];simp]) (λm y=>?_) (λb u e=>?_) I.bare
 .let e:b=it:= ~~~l
  subst e;show#[h1,g,h2,j]
 .let#[o,es,ep,B,r]:=y;show#[o,es,ep,k _ o (Ne.symm g) B,r]
 .show(I.hok b u e).stay (λc v a q=>k c v ?_ q) (λ_ q=>q) λ_ _ q=>q
  obtain z|z:=a
  .rw[z];show f b u e
  .show f c _ z
theorem Inv.tok(I:Inv X ϵ σ H s)(t:Nat):Inv X ϵ σ H {s with toks:=t}:=I.un (h':=s.heap) (t':=t) Un.refl I.hok
theorem Inv.kept{t':Nat}(I:Inv X ϵ σ H s)(k:∀b u,s.heap.get? b=↑u->h'.get? b=↑u):Inv X ϵ σ H {s with heap:=h',toks:=t'}:=I.un (Un.kept k) (I.hok.kept k)
theorem Inv.laid{a:δ}{o:HO}{t':Nat}(I:Inv X ϵ σ H s)(k:∀b u,s.heap.get? b=↑u->h'.get? b=↑u)(c:⇑s<=a)(new:Ϟ X.prog X.w (upd H a o) h' a o):Inv X ϵ σ (upd H a o) {s with heap:=h',toks:=t'}:=I.un (Un.laid k c (I.hok.fresh c)) (I.hok.laid k c new)
theorem Inv.write{x e:δ}{o:HO}{t':Nat}(I:Inv X ϵ σ H s)(c:w6 (H x))(f:e=x\/H e=↑(.own x))(k:∀b u,b≠e->s.heap.get? b=↑u->h'.get? b=↑u)(a:∃u,h'.get? e=↑u)(new:Ϟ X.prog X.w (upd H x o) h' x o):Inv X ϵ σ (upd H x o) {s with heap:=h',toks:=t'}:=I.un (Un.write c f k a) (I.hok.write c f k a new)
theorem Inv.weak{σ':List (Option V)}(I:Inv X ϵ σ H s)(a:↥σ'=↥σ)(w:∀(i:Nat) v,σ'[i]?=some ↑v->σ[i]?=some ↑v):Inv X ϵ σ' H s:=
 #[I.ok,I.os,I.bare,I.base,let⟨m,hn,hl'⟩:=I.loc;#[m,hn,λi x v e1 c e=>hl' i x v e1 (w i v c) e],I.cell,I.free,I.freeC,I.pin,I.hok,a<|>I.len]
theorem Inv.pins_of{pins':List (δ×Obj)}(I:Inv X ϵ σ H s)(h:∀p∈pins',s.heap.get? p.1=↑p.2/\H p.1=none/\p.1≠X.env.locals/\p.1∉X.fs/\∀v,p.2.data≠.cell v):Inv X pins' σ H s:=
 #[I.ok,I.os,I.bare,I.base,I.loc,I.cell,I.free,I.freeC,λp a=>(acL.mp a).elim (λz=>I.pin p (ajE _ z)) (h p),I.hok,I.len]
def GF{N:List Str}(c:N.Nodup){i j:Nat}{x:Str}(a:N[i]?=↑x)(b:N[j]?=↑x):i=j:=by
 let#[h1,e1]:=aab.mp a;let#[h2,e]:=aab.mp b;show(asl c).mp (e1<|>e.symm)
def tK{M:Model}{A:ϴ}{E:ε->ν->Prop}{i:Nat}{x:Str}{v:V}{u:ε}{Q:Unit->ν->Prop}(I:Inv X ϵ σ H s)(hN:X.N.Nodup)(hi:X.N[i]?=↑x)(g:Loc X.env.scope x)(r:RelV v u)(h:∀s',Inv X ϵ (σ.set i ↑v) H s'->(∃a,an0 a s.heap s'.heap/\(a=X.env.locals\/X.env.cells.lookup x=↑a))->Q PUnit.unit s')(hf:X.fn x=true\/X.env.scope.names.lookup x=↑.local:=by first|show .inl rfl|show .inr rfl|assumption):π M A (storeName X.env x u) Q E s:=by
 let#[m,U,hl]:=id I.loc;let J:(X.env.scope.kind==.class||(X.env.scope.kind==.module&&X.env.locals !=X.env.globals))=false:=by rw[I.ok.kind];rfl
 let C:i<↥σ:=by rw[I.len];show(aab.mp hi).1
 let cne:=I.cne;let f:∀{a:δ}{h':ϫ},(∃o,s.heap.get? a=↑o/\H a=none)->an0 a s.heap h'->aG X.prog X.w H h':=λ{a h'} ha hs b ob e=>by
  let#[_,_,l]:=ha;show(I.hok b ob e).stay (λc S hc q=>(hs.2 c ?_).trans q) (λ_ q=>q) λ_ _ q=>q
  rintro rfl
  obtain rfl|hc:=hc
  .rw[l]at e;cases e
  .rw[l]at hc;cases hc
 obtain hk|hk:=g
 .show wpAny_storeName_local hk U (λh' W hs=>?_) J;let#[oL,_,_,Y,_]:=id U;show h _ #[I.ok,I.os,I.bare,#[λb o e n D g=>?_,λb o e n D g=>?_,I.base.free,λb o e g=>?_,I.base.tups,I.base.frzs,I.base.tbls],#[_,W,λj y Z e1 B e3=>?_],λy c e=>?_,I.free,I.freeC,λp hp=>?_,f #[oL,Y,I.free] hs,~~~I.len] #[_,hs,.inl rfl]
  .show(hs.2 b (acb (abr (abU e) I.ok.above))).trans (I.base.keep b o e n D g)
  .let#[sl,e1]:=I.base.slot b o e n D g;show#[sl,(hs.2 b (acb (abr (abU e) I.ok.above)))<|>e1]
  .let#[o',e1]:=I.base.there b o e g;show#[o',(hs.2 b (acb (abr (abU e) I.ok.above)))<|>e1]
  .by_cases F:j=i
   .subst F;rw[hi]at e1;cases e1;rw[aou C]at B;cases B;show#[u,r,.inl #[hk,by simp]]
   .rw[arK (Ne.symm F)]at B;let#[u',r',q]:=hl j y Z e1 B e3;show#[u',r',?_];obtain⟨k,e⟩|⟨k,c,e,z⟩:=q
    .show .inl #[k,?_];have:y≠x:=λe=>F (GF hN e1 (e▸hi))
     simp[this,e]
    .show .inr #[k,c,e,z.sameBut hs (cne y c e)]
  .let#[S,z]:=I.cell y c e;show#[S,z.sameBut hs (cne y c e)]
  .let#[e,n,ne,nf,d]:=I.pin p hp;show#[(hs.2 p.1 ne)<|>e,n,ne,nf,d]
 .let G:X.fn x=true:=by
   obtain z|z:=hf
   .show z
   .rw[z]at hk;cases hk
  let#[c,hc]:=I.ok.has x (.inl hk);let#[S,z]:=I.cell x c hc;show wpAny_storeName_cell I.ok.kind hk hc z (λh' L hs=>?_);let#[oc,O,P]:=id z;show h {s with heap:=h'} #[I.ok,I.os,I.bare,#[λb o e n D g=>?_,λb o e n D g=>?_,I.base.free,λb o e g=>?_,I.base.tups,I.base.frzs,I.base.tbls],#[m,U.sameBut hs (Ne.symm (cne x c hc)),λj y Z e1 B e3=>?_],λy T e=>?_,I.free,I.freeC,λp hp=>?_,f #[oc,O,I.freeC x c hc] hs,~~~I.len] #[c,hs,.inr hc]
  .show(hs.2 b (acb (abr (abU e) (I.ok.cab x c G hc)))).trans (I.base.keep b o e n D g)
  .let#[sl,e1]:=I.base.slot b o e n D g;show#[sl,(hs.2 b (acb (abr (abU e) (I.ok.cab x c G hc))))<|>e1]
  .let#[o',e1]:=I.base.there b o e g;show#[o',(hs.2 b (acb (abr (abU e) (I.ok.cab x c G hc))))<|>e1]
  .by_cases F:j=i
   .subst F;rw[hi]at e1;cases e1;rw[aou C]at B;cases B;show#[u,r,.inr #[.inl hk,c,hc,L]]
   .rw[arK (Ne.symm F)]at B;let#[u',r',q]:=hl j y Z e1 B e3;show#[u',r',?_];obtain q|⟨k,T,e,z'⟩:=q
    .show .inl q
    .show .inr #[k,T,e,z'.sameBut hs ?_]
     rintro rfl
     show F (GF hN e1 (I.ok.inj _ _ _ e hc▸hi))
  .by_cases R:T=c
   .subst R;show#[_,L]
   .let#[w2,z2]:=I.cell y T e;show#[w2,z2.sameBut hs R]
  .let#[e,n,ne,nf,d]:=I.pin p hp;show#[(hs.2 p.1 ?_)<|>e,n,ne,nf,d];intro q;rw[q,O]at e;let q':oc=p.2:=Option.some.inj e;show d S (by rw[<-q'];show P)
theorem ZL{M:Model}{A:ϴ}{E:ε->ν->Prop}{i:Nat}{x:Str}{v:V}{u:ε}{Q:Unit->ν->Prop}(I:Inv X ϵ σ H s)(a:X.N.Nodup)(hi:X.N[i]?=↑x)(c:Loc X.env.scope x)(r:RelV v u)(h:∀s',Inv X ϵ (σ.set i ↑v) H s'->Q PUnit.unit s')(e:X.fn x=true\/X.env.scope.names.lookup x=↑.local:=by first|show .inl rfl|show .inr rfl|assumption):π M A (storeName X.env x u) Q E s:=
 tK I a hi c r (λs' f _=>h s' f) e
def Inv.call'{s':ν}{ch:List δ}(I:Inv X ϵ σ H s)(f:s'.os=s.os)(u:Un (bY X.stack) ch H H' s.heap s'.heap)(hok:aG X.prog X.w H' s'.heap)(g:AllBare s'.gens)(a:∀b∈ch,(b∈X.ex\/X.s₀.heap.get? b=none)/\b≠X.env.locals/\(∀x c,X.env.cells.lookup x=↑c->c≠b)/\∀p∈X.pn++ϵ,p.1≠b):Inv X ϵ σ H' s':=by
 let#[h',g',d',t',o']:=s';let e:o'=s.os:=f;subst e;show I.call (g':=g') (t':=t') (d':=d') u hok g a
end
abbrev St:=List (Option V)
abbrev TE:=St->Hp->VK->Prop
abbrev TT:=St->Hp->(Bool->Hp->Prop)->Prop
abbrev TA:=St->Hp->(List V->Hp->Prop)->Prop
structure Ends where
 nx:St->Hp->Prop
 rt:VK
 bk:St->Hp->Prop:=λ_ _=>False
 ct:St->Hp->Prop:=λ_ _=>False
abbrev TS:=Ends->St->Hp->Prop
def EP(X:Cx)(ϵ:List (δ×Obj))(σ:St)(Q:VK)(u:ε)(s':ν):=∃v H',Inv X ϵ σ H' s'/\RelV v u/\Q v H'
def TP(X:Cx)(ϵ:List (δ×Obj))(σ:St)(Q:Bool->Hp->Prop)(b:Bool)(s':ν):=∃H',Inv X ϵ σ H' s'/\Q b H'
def AP(X:Cx)(ϵ:List (δ×Obj))(σ:St)(Q:List V->Hp->Prop)(us:List ε)(s':ν):=∃vs H',Inv X ϵ σ H' s'/\Vals vs us/\Q vs H'
def SP(X:Cx)(ϵ:List (δ×Obj))(D:Ends)(f:Flow)(s':ν):Prop:=
 match f with
 |.next=>∃σ' H',Inv X ϵ σ' H' s'/\D.nx σ' H'
 |.brk=>∃σ' H',Inv X ϵ σ' H' s'/\D.bk σ' H'
 |.cont=>∃σ' H',Inv X ϵ σ' H' s'/\D.ct σ' H'
 |.ret u=>∃v σ' H',Inv X ϵ σ' H' s'/\RelV v u/\D.rt v H'
def PE(X:Cx)(e:Ϫ)(t:TE):Prop:=
 ∀(ϵ:List (δ×Obj))(s:ν)(σ:St)(H:Hp)(Q:VK),Inv X ϵ σ H s->t σ H Q->π ∅ X.A (eval e X.env) (EP X ϵ σ Q) X.xe s
def PT(X:Cx)(e:Ϫ)(t:TT):Prop:=
 ∀(ϵ:List (δ×Obj))(s:ν)(σ:St)(H:Hp)(Q:Bool->Hp->Prop),Inv X ϵ σ H s->t σ H Q->π ∅ X.A (isTrue e X.env (eval e X.env)) (TP X ϵ σ Q) X.xe s
def PW(X:Cx)(e:Ϫ)(t:TT):Prop:=
 ∀(a:Sem ε)(ϵ:List (δ×Obj))(s:ν)(σ:St)(H:Hp)(Q:Bool->Hp->Prop),Inv X ϵ σ H s->t σ H Q->π ∅ X.A (isTrue e X.env a) (TP X ϵ σ Q) X.xe s
theorem PW.pt{X:Cx}{e:Ϫ}{t:TT}(h:PW X e t):PT X e t:=h _
def PS(X:Cx)(st:Ϩ)(t:TS):Prop:=
 ∀(ϵ:List (δ×Obj))(s:ν)(σ:St)(H:Hp)(D:Ends),Inv X ϵ σ H s->t D σ H->π ∅ X.A (exec st X.env) (SP X ϵ D) X.xe s
def Nr(X:Cx)(st:List Ϩ)(t:TS):Prop:=
 ∀(ϵ:List (δ×Obj))(s:ν)(σ:St)(H:Hp)(D:Ends),Inv X ϵ σ H s->t D σ H->π ∅ X.A (execs st X.env) (SP X ϵ D) X.xe s
theorem υ{α:Type}{t:Sem α}{Q c:α->ν->Prop}{M:Model}{A:ϴ}{E:ε->ν->Prop}{s:ν}(h:π M A t Q E s)(e:∀a s,Q a s->c a s):π M A t c E s:=ab9 h e λ_ _ x=>x
section
variable{X:Cx}
def aie(i:Nat):TE:=λσ H Q=>∃v,σ[i]?=some ↑v/\Q v H
def tC(v:V):TE:=λ_ H Q=>Q v H
def amN{i:Nat}{x:Str}{pos:Pos}(n:X.N[i]?=↑x)(o:rF X.env.scope x)(hd:(x==("__debug__":Str))=false:=by decide)(g:(x==("__classdict__":Str))=false:=by decide):PE X (.Name x pos) (aie i):=by
 intro ϵ s σ H Q I h;let#[v,e,h]:=h;let#[m,p,q]:=I.loc;let#[u,r,l]:=q i x v n e o;let f:EP X ϵ σ Q u s:=#[v,H,I,r,h];obtain⟨hk,y⟩|⟨hk,c,j,a⟩:=l
 .show wpAny_Name (wpAny_loadName_local I.ok.kind hk p y f) hd
 .obtain hk|hk:=hk
  .show wpAny_Name (wpAny_loadName_cell I.ok.kind hk j a f) hd
  .show wpAny_Name (wpAny_loadName_free I.ok.kind hk j a f g) hd
def Gl(X:Cx)(x:Str):Prop:=X.env.kindOf x=↑.globalImplicit
theorem eZ{E:ε->ν->Prop}{ϵ:List (δ×Obj)}{s:ν}{σ:St}{H:Hp}{x:Str}{u:ε}{pos:Pos}{Q:ε->ν->Prop}(I:Inv X ϵ σ H s)(a:Gl X x)(c:X.mg x=↑u)(h:Q u s)(hd:(x==("__debug__":Str))=false:=by decide):π ∅ X.A (eval (.Name x pos) X.env) Q E s:=
 Calls.Name_function_global I.ok.kind a (Calls.loadGlobal_global (by rw[I.ok.glob];show I.mod.glob.keeps I.bk) c h) hd
def jE{E:ε->ν->Prop}{ϵ:List (δ×Obj)}{s:ν}{σ:St}{H:Hp}{x:Str}{u:ε}{pos:Pos}{Q:ε->ν->Prop}(I:Inv X ϵ σ H s)(a:Gl X x)(c:X.mg x=none)(e:bootBuiltins x=↑u)(h:Q u s)(f:x≠"__name__":=by decide)(hd:(x==("__debug__":Str))=false:=by decide):π ∅ X.A (eval (.Name x pos) X.env) Q E s:=by
 let#[mb,h1,h2]:=I.mod.blt;show Calls.Name_function_global I.ok.kind a (Calls.loadGlobal_builtin (by rw[I.ok.glob];show I.mod.glob.keeps I.bk) c (by rw[I.ok.blt];show h1.keeps I.bk) ((h2 x f)<|>e) h) hd
theorem Zz{x:Str}{v:V}{u:ε}{pos:Pos}(a:Gl X x)(c:X.mg x=↑u)(r:RelV v u)(hd:(x==("__debug__":Str))=false:=by decide):PE X (.Name x pos) (tC v):=
 λ_ _ _ H _ I h=>eZ I a c #[v,H,I,r,h] hd
variable{a b:Ϫ}{ta tb:TE}{pos:Pos}
variable{tA tB':TT}{rest:List Ϫ}
end
def ψ(K:ϩ)(H:Hp)(a:δ)(xs:List V):Prop:=
 Rd H a (.tup xs)\/
  ∃(o:Obj)(c:Array ε)(n:Nat),K.lookup a=↑o/\o.cls=.type "tuple"/\o.data=.seq c n/\c.size<=ϱ/\Vals xs c.toList
def ac3:ε->Option V
 |.none=>↑.non
 |.bool b=>↑(.bl b)
 |.int i _=>↑(.int i)
 |.str x _=>↑(.str x)
 |.bytes b _=>↑(.byt b)
 |.float b _=>↑(.flt b)
 |.ref a=>↑(.ref a)
 |.type n=>↑(.ty n)
 |_=>none
def RelV.abs{x:V}{u:ε}(r:RelV x u):ac3 u=↑x:=by
 cases x with
 |non=>cases r;rfl
 |bl _=>cases r;rfl
 |int _=>let#[t,rfl]:=r;rfl
 |str _=>let#[t,rfl]:=r;rfl
 |byt _=>let#[t,rfl]:=r;rfl
 |flt _=>let#[t,rfl]:=r;rfl
 |ref _=>cases r;rfl
 |ty _=>cases r;rfl
theorem RelV.inj{x y:V}{u:ε}(r:RelV x u)(q:RelV y u):x=y:=Option.some.inj (r.abs.symm<|>q.abs)
def Vals.inj{xs ys:List V}{us:List ε}(h:Vals xs us)(g:Vals ys us):xs=ys:=by
 induction h generalizing ys with
 |nil=>cases g;rfl
 |cons r t a=>cases g with|cons c t'=>rw[r.inj c,a t']
section
variable{X:Cx}{ϵ:List (δ×Obj)}{σ:St}{H:Hp}{s:ν}{a:δ}{xs ys:List V}
theorem θ.of{K:ϩ}(h:H a=↑(.lst xs)):θ K H a xs:=.inl (.inl h)
theorem ψ.of{K:ϩ}(h:H a=↑(.tup xs)):ψ K H a xs:=.inl (.inl h)
def Inv.list(I:Inv X ϵ σ H s)(h:θ X.K H a xs):∃c:List ε,Vals xs c/\PlainL s.heap a c.toArray/\↥xs<=ϱ:=by
 obtain h|⟨o,c,n,f,g,hd,hs,i,r⟩:=h
 .let#[z,c,n,r,e]:=h.ok I.hok;show#[c,r,#[_,n,e,rfl,rfl,rfl],z]
 .show#[c.toList,r,#[o,n,I.kIn a o f,g,hd,~~~hs],?_];let e:=↥r;simp only[an6]at e;omega
def Inv.tuple(I:Inv X ϵ σ H s)(h:ψ X.K H a xs):∃c:List ε,Vals xs c/\IsTup s.heap a c.toArray/\↥xs<=ϱ:=by
 obtain h|⟨o,c,n,f,g,hs,i,r⟩:=h
 .let#[z,c,r,p]:=h.ok I.hok;show#[c,r,p,z]
 .show#[c.toList,r,#[o,I.kIn a o f,g,n,~~~hs],?_];let e:=↥r;simp only[an6]at e;omega
def Inv.list_inj(I:Inv X ϵ σ H s)(h:θ X.K H a xs)(h':θ X.K H a ys):xs=ys:=by
 let#[f,r,#[o,n,e,_,_,d],_]:=I.list h;let#[its',g,#[o',i,c,_,_,d'],_]:=I.list h';rw[e]at c;cases c;rw[d]at d';injection d' with d1 _
 have:f=its':= ~~~congrArg at3 d1
 subst this;show r.inj g
def Inv.tuple_inj(I:Inv X ϵ σ H s)(h:ψ X.K H a xs)(h':ψ X.K H a ys):xs=ys:=by
 let#[f,r,#[o,e,_,n,d],_]:=I.tuple h;let#[its',g,#[o',c,_,i,d'],_]:=I.tuple h';rw[e]at c;cases c;rw[d]at d';injection d' with d1 _
 have:f=its':= ~~~congrArg at3 d1
 subst this;show r.inj g
end
section
variable{X:Cx}{st:Ϩ}{rest:List Ϩ}{t u:TS}{e:Ϫ}{te:TE}{pos:Pos}
def Inv.quiet{ϵ:List (δ×Obj)}{σ:St}{H:Hp}{s:ν}(I:Inv X ϵ σ H s):interactive X.env=false:=by simp[interactive,I.ok.kind]
end
abbrev TG:=V->St->Hp->(St->Hp->Prop)->Prop
def PG(X:Cx)(a:Ϫ)(t:TG):Prop:=
 ∀(ϵ:List (δ×Obj))(s:ν)(σ:St)(H:Hp)(v:V)(u:ε)(Q:St->Hp->Prop),Inv X ϵ σ H s->RelV v u->t v σ H Q->
  π ∅ X.A (assign a X.env u) (λ_ s'=>∃σ' H',Inv X ϵ σ' H' s'/\Q σ' H') X.xe s
abbrev xq:=V->V->V->Hp->(Hp->Prop)->Prop
def Z0(X:Cx)(t:xq):Prop:=
 ∀(ϵ:List (δ×Obj))(s:ν)(σ:St)(H:Hp)(o i v:V)(a c u:ε)(Q:Hp->Prop),Inv X ϵ σ H s->RelV o a->RelV i c->RelV v u->t o i v H Q->
  π ∅ X.A (setItem a c u) (λ_ s'=>∃H',Inv X ϵ σ H' s'/\Q H') X.xe s
section
variable{X:Cx}{pos:Pos}
def aiu(to a:TE)(t:xq):TG:=λv σ H Q=>to σ H λo H1=>a σ H1 λi H2=>t o i v H2 λc=>Q σ c
def alK{o i:Ϫ}{to f:TE}{t:xq}(g:PE X o to)(hi:PE X i f)(hs:Z0 X t)(j:∀v,assign (.Subscript o i pos) X.env v=(do
   let a<-holding [v] (eval o X.env);let c<-holding [v,a] (eval i X.env)
   standAt pos
   holding [v,a,c] (setItem a c v)
   release [v,a,c] []):=by intro _;rfl):PG X (.Subscript o i pos) (aiu to f t):=by
 intro ϵ s σ H v u Q I r h;rw[j];show Ϧ (acK (υ (g ϵ s σ H _ I h) λa l e=>?_));let#[x,H1,m,r1,n]:=e;show Ϧ (acK (υ (hi ϵ l σ H1 _ m n) λc p e=>?_));let#[y,H2,q,z,B]:=e;show Ϧ (ag2 (Ϧ (acK (υ (hs ϵ p σ H2 x y v a c u _ q r1 z r B) λ_ F e=>?_))));let#[C,D,E]:=e;show wpAny_release #[σ,C,D,E]
def akT(te:TE)(g:TG):TS:=λD σ H=>te σ H λx H1=>g x σ H1 D.nx
def alX{tg e:Ϫ}{te:TE}{g:TG}(a:PE X e te)(c:PG X tg g)(hs:swapsWithSole [tg] e pos.line X.env=pure false:=by rfl)(f:swappedStores [tg] e X.env=pure none:=by rfl)(h1:(apW [tg] X.env).map (·.2)=[assign tg X.env]:=by rfl):PS X (.Assign [tg] e pos) (akT te g):=by
 intro ϵ s σ H D I h;show wpAny_Assign_stores (υ (a ϵ s σ H _ I h) λv i j=>?_) hs f;let#[x,H1,l,r1,m]:=j;rw[h1];show υ (c ϵ i σ H1 x v _ l r1 m) λ_ n q=>q
end
structure It where
 go:Nat->Hp->Prop
 yld:Nat->Hp->V->Hp->Prop
 stop:Nat->Hp->Prop
def bK(X:Cx)(ϵ:List (δ×Obj))(H:Hp)(b:δ):Prop:=
 H b=none/\b≠X.env.locals/\b∉X.fs/\(b∈X.ex\/X.s₀.heap.get? b=none)/\(∀x c,X.env.cells.lookup x=↑c->c≠b)/\∀p∈X.pn++ϵ,p.1≠b
def Inv.fpOk{X:Cx}{ϵ:List (δ×Obj)}{σ:St}{H H':Hp}{s:ν}{b:δ}(I:Inv X ϵ σ H s)(a:⇑s<=b)(f:H' b=none):bK X ϵ H' b:=by
 show#[f,arU (abr I.lt a),I.nofs a,.inr (akO (adQ I.sz a)),λx c e z=>?_,λp g z=>?_]
 .let#[v,q]:=I.cell x c e;show absurd (abr q.lt (by rw[z];show a)) (ali _)
 .show absurd (abr (abU (I.pin p g).1) (by rw[z];show a)) (ali _)
structure Turn(P:ϰ)(w:Ϯ)(K:ϩ)(tg:Ϫ)(J:It)(fp:List δ)(it:δ)(tn:Nat->ϫ->Prop):Prop where
 mem:it∈fp
 obj:∀i h,tn i h->∀b∈fp,∃o,h.get? b=↑o/\∀v,o.data≠.cell v
 keep:∀i h h',tn i h->(∀b∈fp,∀o,h.get? b=↑o->h'.get? b=↑o)->tn i h'
 item:∀(X:Cx),X.prog=P->X.w=w->X.K=K->X.calm=true->∀(i:Nat)(ϵ:List (δ×Obj))(s:ν)(σ:St)(H:Hp)(E:ε->ν->Prop),Inv X ϵ σ H s->(∀b∈fp,bK X ϵ H b)->tn i s.heap->J.go i H->
  π (ϧ P w) X.A (pyNext (.ref it)) (λr s1=>∃u,r=↑u/\
   π (ϧ P w) X.A (letOwnedTupleGo tg (.ref it) u) (λ_ s2=>∃x H',Inv X ϵ σ H' s2/\RelV x u/\J.yld i H x H'/\tn (i+1) s2.heap/\∀b∈fp,H' b=none) E s1) E s
 done:∀(X:Cx),X.prog=P->X.w=w->X.K=K->X.calm=true->∀(i:Nat)(ϵ:List (δ×Obj))(s:ν)(σ:St)(H:Hp)(E:ε->ν->Prop),Inv X ϵ σ H s->(∀b∈fp,bK X ϵ H b)->tn i s.heap->J.stop i H->
  π (ϧ P w) X.A (pyNext (.ref it)) (λr s1=>r=none/\Inv X ϵ σ H s1) E s
 self:∀(A:ϴ)(i:Nat)(s:ν)(Q:ε->ν->Prop)(E:ε->ν->Prop),tn i s.heap->Q (.ref it) s->π (ϧ P w) A (pyIter (.ref it)) Q E s
abbrev TI:=St->Hp->(It->Hp->Prop)->Prop
def Bq(X:Cx)(ϵ:List (δ×Obj))(σ:St)(tg:Ϫ)(R:It->Hp->Prop)(a:ε)(c:ν):Prop:=
 ∃(it:δ)(fp:List δ)(e:Nat->ϫ->Prop)(J:It)(H':Hp),a=.ref it/\Inv X ϵ σ H' c/\Turn X.prog X.w X.K tg J fp it e/\e 0 c.heap/\(∀b∈fp,bK X ϵ H' b)/\R J H'
def PI(X:Cx)(tg iter:Ϫ)(a:TI):Prop:=
 ∀(ϵ:List (δ×Obj))(s:ν)(σ:St)(H:Hp)(R:It->Hp->Prop),Inv X ϵ σ H s->a σ H R->
  π ∅ X.A (eval iter X.env) (λv c=>π ∅ X.A (pyIter v) (Bq X ϵ σ tg R) X.xe c) X.xe s
def uI{M:Model}{A:ϴ}{E:ε->ν->Prop}{s:ν}{tg:Ϫ}{it:δ}{u:ε}{o:Obj}{n:String}{vs:Array ε}{Q:Unit->ν->Prop}(c:s.heap.get? it=↑o)(e:o.cls=.type n)(hd:o.data=.fields vs)(f:["enumerate","zip","dict_itemiterator","dict_reverseitemiterator","odict_iterator","itertools.zip_longest","itertools.pairwise"].contains n=false)(a:Q PUnit.unit s):π M A (letOwnedTupleGo tg (.ref it) u) Q E s:=by
 unfold letOwnedTupleGo;cases tg<;>first
  |show ϲ a
  |(cases u<;>first
   |show ϲ a
   |(show Ϧ (wpAny_load c ?_)
     rw[e,hd];show π M A (if(["enumerate","zip","dict_itemiterator","dict_reverseitemiterator","odict_iterator","itertools.zip_longest","itertools.pairwise"].contains n&&vs[0]?==↑(rawInt _))=true then _ else _) Q E s;rw[if_neg (by intro h;rw[f,afy]at h;cases h)];show ϲ a))
def j5(K:ϩ)(a:δ):It:=
 #[λi H=>∃xs x,θ K H a xs/\xs[i]?=↑x,λi H x H'=>H'=H/\∀xs,θ K H a xs->xs[i]?=↑x,λi H=>∃xs,θ K H a xs/\↥xs<=i]
def qW(K:ϩ)(a:δ):It:=
 #[λi H=>∃xs x,ψ K H a xs/\xs[i]?=↑x,λi H x H'=>H'=H/\∀xs,ψ K H a xs->xs[i]?=↑x,λi H=>∃xs,ψ K H a xs/\↥xs<=i]
def lD(lo:Int)(n:Nat):It:=#[λi _=>i<n,λi H x H'=>H'=H/\x=.int (lo+i),λi _=>n<=i]
theorem acU{P:ϰ}{w:Ϯ}{K:ϩ}{tg:Ϫ}(a it:δ):Turn P w K tg (j5 K a) [it] it (λi h=>h.IsListIter it a i)where
 mem:=by simp
 obj:=λi h st b f=>by
  let e:b=it:= ~~~f
  subst e;let#[o,e,c,d]:=st;show#[o,e,λv z=>by rw[d]at z;cases z]
 keep:=λi h h' st k=>st.at λo e=>k it (by simp) o e
 item:=by
  intro X m n q M i ϵ s σ H E I j st y;subst m n q;let#[xs,x,l,B]:=y;let#[O,C,p,Q]:=I.list l;let#[u,R,S]:=C.get B;let#[D,F,T,G,J,L]:=j it (by simp);show wpAny_pyNext_list_item st p.isList (x:=u) (~~~R) λh' g U=>?_
  let W:Inv X ϵ σ H {s with heap:=h'}:=I.turned (t':=s.toks) (λb o f e=>(U.2 b f).trans e) D F G J L;let#[o,e,c,d]:=id g;show#[u,rfl,uI (s:={s with heap:=h'}) e c d (by decide) #[x,H,W,S,#[rfl,λys Y=>by rw[I.list_inj Y l];show B],g,λb f=>(j b f).1]]
 done:=by
  intro X m n q M i ϵ s σ H E I j st y;subst m n q;let#[xs,l,B]:=y;let#[O,C,p,Q]:=I.list l;let#[D,F,T,G,J,L]:=j it (by simp);let hl:=↥C;show wpAny_pyNext_list_end (I.ok.hd M) st p.isList (by simp;omega) λh' Z=>#[rfl,I.turned (t':=s.toks) (λb o f e=>Z b o f e) D F G J L]
 self:=λ_ _ _ _ _ st h=>wpAny_pyIter_listiter st h
theorem aeu{P:ϰ}{w:Ϯ}{K:ϩ}{tg:Ϫ}(a it:δ):Turn P w K tg (qW K a) [it] it (λi h=>h.IsTupleIter it a i)where
 mem:=by simp
 obj:=λi h st b f=>by
  let e:b=it:= ~~~f
  subst e;let#[o,e,c,d]:=st;show#[o,e,λv z=>by rw[d]at z;cases z]
 keep:=λi h h' st k=>st.at λo e=>k it (by simp) o e
 item:=by
  intro X m n q O i ϵ s σ H E I j st y;subst m n q;let#[xs,x,l,B]:=y;let#[C,D,p,Q]:=I.tuple l;let#[u,R,S]:=D.get B;let#[F,G,T,J,L,M]:=j it (by simp);show wpAny_pyNext_tuple_item st (show s.heap.IsTuple a C.toArray from p) (x:=u) (~~~R) λh' g U=>?_
  let W:Inv X ϵ σ H {s with heap:=h'}:=I.turned (t':=s.toks) (λb o f e=>(U.2 b f).trans e) F G J L M;let#[o,e,c,d]:=id g;show#[u,rfl,uI (s:={s with heap:=h'}) e c d (by decide) #[x,H,W,S,#[rfl,λys Y=>by rw[I.tuple_inj Y l];show B],g,λb f=>(j b f).1]]
 done:=by
  intro X m n q O i ϵ s σ H E I j st y;subst m n q;let#[xs,l,B]:=y;let#[C,D,p,Q]:=I.tuple l;let#[F,G,T,J,L,M]:=j it (by simp);let hl:=↥D;show wpAny_pyNext_tuple_end (I.ok.hd O) st (show s.heap.IsTuple a C.toArray from p) (by simp;omega) λh' Z=>#[rfl,I.turned (t':=s.toks) (λb o f e=>Z b o f e) F G J L M]
 self:=λ_ _ _ _ _ st h=>wpAny_pyIter_tupleiter st h
theorem abi{P:ϰ}{w:Ϯ}{K:PySem.W.Frag}{tg:Ϫ}(it:δ)(lo:Int)(n:Nat):Turn P w K tg (lD lo n) [it] it (λi h=>IsRangeIter h it (lo+(i:Nat)*1) ((n:Int)-(i:Nat)) 1)where
 mem:=by simp
 obj:=λi h st b a=>by
  let e:b=it:= ~~~a
  subst e;show#[_,st,λv z=>by
   let z':Data.fields _=Data.cell v:=z;cases z']
 keep:=λi h h' st k=>k it (by simp) _ st
 item:=by
  intro X g j l m i ϵ s σ H E I f st p;subst g j l;let#[q,u,C,x,y,B]:=f it (by simp);let W:=Walks.range (prog:=X.prog) (w:=X.w) (I.ok.hd m) it lo 1 n;show W.item i s _ _ p st λv h' tk D c kk=>?_
  let#[t,rfl]:=D;let F:Inv X ϵ σ H {s with heap:=h',toks:=tk}:=I.turned (λb o a e=>kk b o (~~~a) e) q u x y B;show#[_,rfl,uI (s:={s with heap:=h',toks:=tk}) (n:="range_iterator") c rfl rfl (by decide) #[.int (lo+i),H,F,#[t,?_],#[rfl,rfl],c,λb a=>(f b a).1]];rw[Int.mul_one]
 done:=by
  intro X g j l m i ϵ s σ H E I f st p;subst g j l;let#[q,u,C,x,y,B]:=f it (by simp);show wpAny_pyNext_range_end (I.ok.hd m) st (by have:n<=i:=p;omega) λh' G=>#[rfl,I.turned (t':=s.toks) (λb o a e=>G b o a e) q u x y B]
 self:=λ_ _ _ _ _ st h=>wpAny_pyIter_rangeiter st h
section
variable{X:Cx}{tg:Ϫ}
def adG{ϵ:List (δ×Obj)}{σ:St}{H:Hp}{s:ν}{R:It->Hp->Prop}{E:ε->ν->Prop}{lo hi:Int}{t u v:Tok}{tk:Nat}(I:Inv X ϵ σ H s)(h1: -(2^62)<=lo)(h2:lo<2^62)(c: -(2^62)<=hi)(f:hi<2^62)(q:R (lD lo (hi-lo).toNat) H):π ∅ X.A (pyIter (.ref ⇑s)) (Bq X ϵ σ tg R) E {s with heap:=s.heap.push {cls:=.type "range",data:=.fields #v[.int lo t,.int hi u,.int 1 v]},toks:=tk}:=by
 show wpAny_pyIter_range (IsRange.new ..) (small_one h1 h2 c f) ?_;let a:Inv X ϵ σ H {s with heap:=s.heap.push {cls:=.type "range",data:=.fields #v[.int lo t,.int hi u,.int 1 v]},toks:=tk}:=I.kept λb o e=>aai _ e
 show#[(s.heap.push {cls:=.type "range",data:=.fields #v[.int lo t,.int hi u,.int 1 v]}).objs.size,[(s.heap.push {cls:=.type "range",data:=.fields #v[.int lo t,.int hi u,.int 1 v]}).objs.size],_,_,H,rfl,
  a.kept (t':=tk) λb o e=>aai _ e,abi _ lo (hi-lo).toNat,?_,λb g=>?_,q]
 .let e1:lo+((0:Nat):Int)*1=lo:=by simp
  let i:(((hi-lo).toNat:Nat):Int)-((0:Nat):Int)=Builtin.Range.rangeSize lo hi 1:=by rw[rangeSize_one];split <;>omega
  show IsRangeIter _ _ (lo+((0:Nat):Int)*1) ((((hi-lo).toNat:Nat):Int)-((0:Nat):Int)) 1;rw[e1,i];show abM _ rfl
 .let e:b=(s.heap.push {cls:=.type "range",data:=.fields #v[.int lo t,.int hi u,.int 1 v]}).objs.size:= ~~~g
  subst e;show a.fpOk (Ϭ _) (a.hok.fresh (Ϭ _))
def gY(fp:List δ)(h:ϫ):List (δ×Obj):=fp.filterMap λb=>(h.get? b).map λo=>(b,o)
theorem yx{fp:List δ}{h:ϫ}{b:δ}{o:Obj}(a:b∈fp)(e:h.get? b=↑o):(b,o)∈gY fp h:=ap9.mpr #[b,a,by rw[e];rfl]
def acv{fp:List δ}{h:ϫ}{p:δ×Obj}(a:p∈gY fp h):p.1∈fp/\h.get? p.1=↑p.2:=by
 let#[b,c,e]:=ap9.mp a;cases q:h.get? b with
 |none=>rw[q]at e;cases e
 |some o=>
  rw[q]at e;let f:(b,o)=p:=Option.some.inj e;subst f;show#[c,q]
theorem Inv.pinned{ϵ:List (δ×Obj)}{σ:St}{H:Hp}{s:ν}{fp:List δ}(I:Inv X ϵ σ H s)(f:∀b∈fp,bK X ϵ H b)(g:∀b∈fp,∃o,s.heap.get? b=↑o/\∀v,o.data≠.cell v):Inv X (ϵ++gY fp s.heap) σ H s:=
 I.pins_of λp i=>(acL.mp i).elim (λz=>I.pin p (adV _ z)) λz=>by
  let#[a,e]:=acv z;let#[j,l,m,_]:=f p.1 a;let#[o,c,d]:=g p.1 a;rw[e]at c;cases c;show#[e,j,l,m,d]
theorem Inv.unpinned{ϵ pl:List (δ×Obj)}{σ:St}{H:Hp}{s:ν}(I:Inv X (ϵ++pl) σ H s):Inv X ϵ σ H s:=I.pins_of λp a=>I.pin p (adV _ (ajE _ a))
end
def ah1{K:PySem.W.Frag}{a:δ}{xs:List V}{g:TG}{tb:TS}{D:Ends}{σ:St}{H:Hp}(c:Nat->St->Hp->Prop)(l:c 0 σ H)(n:∀i σ H,i<=↥xs->c i σ H->θ K H a xs)(hs:∀i x σ H,xs[i]?=↑x->c i σ H->g x σ H λf H2=>tb {D with nx:=c (i+1),ct:=c (i+1),bk:=D.nx} f H2)(hd:∀σ H,c ↥xs σ H->D.nx σ H):∃W:Nat->Nat->St->Hp->Prop,(∃m,W 0 m σ H)/\∀i m σ H,W i m σ H->
   ((j5 K a).stop i H/\D.nx σ H)\/((j5 K a).go i H/\∃N:St->Hp->Prop,(∀σ' H',N σ' H'->∃m',m'<m/\W (i+1) m' σ' H')/\∀x H',(j5 K a).yld i H x H'->g x σ H' λf H2=>tb {D with nx:=N,ct:=N,bk:=D.nx} f H2):=by
 show#[λi m σ H=>m=↥xs-i/\i<=↥xs/\c i σ H,#[↥xs,by simp,aht _,l],?_]
 rintro i m σ H ⟨rfl,hi,p⟩
 let q:=n i σ H hi p;by_cases j:i<↥xs
 .show .inr #[#[xs,xs[i],q,by simp[j]],c (i+1),λσ' H' p'=>#[↥xs-(i+1),(),rfl,j,p'],λx H' y=>?_];let#[e,y]:=y;subst e;show hs i x σ _ (y xs q) p
 .let e:i=↥xs:=()
  subst e;show .inl #[#[xs,q,Ϭ _],hd σ H p]
def aa7{K:PySem.W.Frag}{a:δ}{xs:List V}{g:TG}{tb:TS}{D:Ends}{σ:St}{H:Hp}(c:Nat->St->Hp->Prop)(l:c 0 σ H)(n:∀i σ H,i<=↥xs->c i σ H->ψ K H a xs)(hs:∀i x σ H,xs[i]?=↑x->c i σ H->g x σ H λf H2=>tb {D with nx:=c (i+1),ct:=c (i+1),bk:=D.nx} f H2)(hd:∀σ H,c ↥xs σ H->D.nx σ H):∃W:Nat->Nat->St->Hp->Prop,(∃m,W 0 m σ H)/\∀i m σ H,W i m σ H->
   ((qW K a).stop i H/\D.nx σ H)\/((qW K a).go i H/\∃N:St->Hp->Prop,(∀σ' H',N σ' H'->∃m',m'<m/\W (i+1) m' σ' H')/\∀x H',(qW K a).yld i H x H'->g x σ H' λf H2=>tb {D with nx:=N,ct:=N,bk:=D.nx} f H2):=by
 show#[λi m σ H=>m=↥xs-i/\i<=↥xs/\c i σ H,#[↥xs,by simp,aht _,l],?_]
 rintro i m σ H ⟨rfl,hi,p⟩
 let q:=n i σ H hi p;by_cases j:i<↥xs
 .show .inr #[#[xs,xs[i],q,by simp[j]],c (i+1),λσ' H' p'=>#[↥xs-(i+1),(),rfl,j,p'],λx H' y=>?_];let#[e,y]:=y;subst e;show hs i x σ _ (y xs q) p
 .let e:i=↥xs:=()
  subst e;show .inl #[#[xs,q,Ϭ _],hd σ H p]
def amo{lo:Int}{n:Nat}{g:TG}{tb:TS}{D:Ends}{σ:St}{H:Hp}(a:Nat->St->Hp->Prop)(j:a 0 σ H)(hs:∀i σ H,i<n->a i σ H->g (.int (lo+i)) σ H λc H2=>tb {D with nx:=a (i+1),ct:=a (i+1),bk:=D.nx} c H2)(hd:∀σ H,a n σ H->D.nx σ H):∃W:Nat->Nat->St->Hp->Prop,(∃m,W 0 m σ H)/\∀i m σ H,W i m σ H->
   ((lD lo n).stop i H/\D.nx σ H)\/((lD lo n).go i H/\∃N:St->Hp->Prop,(∀σ' H',N σ' H'->∃m',m'<m/\W (i+1) m' σ' H')/\∀x H',(lD lo n).yld i H x H'->g x σ H' λc H2=>tb {D with nx:=N,ct:=N,bk:=D.nx} c H2):=by
 show#[λi m σ H=>m=n-i/\i<=n/\a i σ H,#[n,by simp,aht _,j],?_]
 rintro i m σ H ⟨rfl,hi,p⟩
 by_cases f:i<n
 .show .inr #[f,a (i+1),λσ' H' p'=>#[n-(i+1),(),rfl,f,p'],λx H' y=>?_];let#[e,y]:=y;subst e y;show hs i σ _ f p
 .let e:i=n:=()
  subst e;show .inl #[Ϭ _,hd σ H p]
abbrev R2:=V->V->Hp->VK->Prop
def aV(X:Cx)(f:ε->ε->Sem ε)(r:R2):Prop:=
 ∀(ϵ:List (δ×Obj))(s:ν)(σ:St)(H:Hp)(x y:V)(v u:ε)(Q:VK),Inv X ϵ σ H s->RelV x v->RelV y u->r x y H Q->
  π ∅ X.A (f v u) (EP X ϵ σ Q) X.xe s
def zy(X:Cx)(f:ε->Sem ε)(r:V->Hp->VK->Prop):Prop:=
 ∀(ϵ:List (δ×Obj))(s:ν)(σ:St)(H:Hp)(x:V)(v:ε)(Q:VK),Inv X ϵ σ H s->RelV x v->r x H Q->
  π ∅ X.A (f v) (EP X ϵ σ Q) X.xe s
def iY(X:Cx)(f:ε)(r:List V->Hp->VK->Prop):Prop:=
 ∀(ϵ:List (δ×Obj))(s:ν)(σ:St)(H:Hp)(xs:List V)(us:List ε)(Q:VK),Inv X ϵ σ H s->Vals xs us->r xs H Q->
  π ∅ X.A (call f us) (EP X ϵ σ Q) X.xe s
def agW(X:Cx)(r:V->Hp->(Bool->Hp->Prop)->Prop):Prop:=
 ∀(ϵ:List (δ×Obj))(s:ν)(σ:St)(H:Hp)(x:V)(v:ε)(Q:Bool->Hp->Prop),Inv X ϵ σ H s->RelV x v->r x H Q->
  π ∅ X.A (truthy v) (TP X ϵ σ Q) X.xe s
def rI(C:Int->Int->Prop)(g:Int->Int->V):R2:=λx y H Q=>∃i j,x=.int i/\y=.int j/\C i j/\Q (g i j) H
def lA(g:Int->Int->V):R2:=λx y H Q=>∃i j,x=.int i/\y=.int j/\Q (g i j) H
def rU(g:Int->V):V->Hp->VK->Prop:=λx H Q=>∃i,x=.int i/\Q (g i) H
section
variable{X:Cx}{a b c:Ϫ}{ta tb tc:TE}{pos:Pos}
def JM(j:PE X a ta)(l:PE X b tb){ϵ:List (δ×Obj)}{s:ν}{σ:St}{H:Hp}{R:V->V->Hp->Prop}(I:Inv X ϵ σ H s)(h:ta σ H λx H1=>tb σ H1 λy H2=>R x y H2){Q:ε->ν->Prop}{f:ε->ε->Sem ε}(m:∀v u g x y H2,Inv X ϵ σ H2 g->RelV x v->RelV y u->R x y H2->π ∅ X.A (f v u) Q X.xe g):π ∅ X.A (eval a X.env) (λv c=>π ∅ X.A (eval b X.env) (λu e=>π ∅ X.A (f v u) Q X.xe e) X.xe c) X.xe s:=by
 show υ (j ϵ s σ H _ I h) λv n i=>?_
 let#[x,H1,o,r1,p]:=i;show υ (l ϵ n σ H1 _ o p) λu g i=>?_
 let#[y,H2,q,z,B]:=i;show m v u g x y H2 q r1 z B
def Kw{f:ε->ε->Sem ε}{C:Int->Int->Prop}{g:Int->Int->Int}(rule:∀(i j:Int)(t u:Tok)(s:ν)(Q:ε->ν->Prop)(E:ε->ν->Prop),C i j->Q (.int (g i j) s.toks) {s with toks:=s.toks+1}->π ∅ X.A (f (.int i t) (.int j u)) Q E s):aV X f (rI C λi j=>.int (g i j)):=by
 intro ϵ s σ H x y v u Q I rx ry h;let#[i,j,rfl,rfl,a,q]:=h;let#[t,rfl]:=rx;let#[t',rfl]:=ry;show rule i j t t' s _ _ a #[.int (g i j),H,I.tok _,#[_,rfl],q]
def Lp{f:ε->ε->Sem ε}{g:Int->Int->Int}(rule:∀(i j:Int)(t u:Tok)(s:ν)(Q:ε->ν->Prop)(E:ε->ν->Prop),Q (.int (g i j) s.toks) {s with toks:=s.toks+1}->π ∅ X.A (f (.int i t) (.int j u)) Q E s):aV X f (lA λi j=>.int (g i j)):=by
 intro ϵ s σ H x y v u Q I rx ry h;let#[i,j,rfl,rfl,q]:=h;let#[t,rfl]:=rx;let#[t',rfl]:=ry;show rule i j t t' s _ _ #[.int (g i j),H,I.tok _,#[_,rfl],q]
def yV{f:ε->ε->Sem ε}{g:Int->Int->Bool}(rule:∀(i j:Int)(t u:Tok)(s:ν)(Q:ε->ν->Prop)(E:ε->ν->Prop),Q (.bool (g i j)) s->π ∅ X.A (f (.int i t) (.int j u)) Q E s):aV X f (lA λi j=>.bl (g i j)):=by
 intro ϵ s σ H x y v u Q I rx ry h;let#[i,j,rfl,rfl,q]:=h;let#[t,rfl]:=rx;let#[t',rfl]:=ry;show rule i j t t' s _ _ #[.bl (g i j),H,I,rfl,q]
def Uo(i j:Int):Prop:=0<=j/\j<=1000000/\i.natAbs<2^64
def yc(i j:Int):Prop:=(-(2^64)<i/\i<2^64)\/(-(2^64)<j/\j<2^64)
def yc.ok{i j:Int}(h:yc i j):IntMulOk i j:=by
 obtain⟨h1,h2⟩|⟨h1,h2⟩:=h
 .show .of_left (intBits_le_64 h1 h2)
 .show .of_right (intBits_le_64 h1 h2)
theorem al3:aV X (binaryOp .Add) (lA λi j=>.int (i+j)):=Lp λ_ _ _ _ _ _ _ q=>add_int q
theorem ahp:aV X (binaryOp .Sub) (lA λi j=>.int (i-j)):=Lp λ_ _ _ _ _ _ _ q=>sub_int q
theorem afN:aV X (binaryOp .Mult) (rI yc λi j=>.int (i*j)):=Kw λ_ _ _ _ _ _ _ a q=>mul_int q a.ok
theorem adJ:aV X (binaryOp .Mod) (rI (λ_ j=>0<j) λi j=>.int (i % j)):=Kw λi j _ _ _ _ _ a q=>by
 let h1:(0:Int)<j:=a;show mod_int' () (by rw[Int.fmod_eq_emod_of_nonneg i ()];show q)
theorem agg:aV X (binaryOp .Pow) (rI Uo λi j=>.int (i^j.toNat)):=Kw λ_ _ _ _ _ _ _ a q=>pow_int_small a.1 a.2.1 a.2.2 q
def unI{f:ε->Sem ε}{g:Int->Int}(rule:∀(i:Int)(t:Tok)(s:ν)(Q:ε->ν->Prop)(E:ε->ν->Prop),Q (.int (g i) s.toks) {s with toks:=s.toks+1}->π ∅ X.A (f (.int i t)) Q E s):zy X f (rU λi=>.int (g i)):=by
 intro ϵ s σ H x v Q I rx h;let#[i,rfl,q]:=h;let#[t,rfl]:=rx;show rule i t s _ _ #[.int (g i),H,I.tok _,#[_,rfl],q]
theorem aeN:zy X (unaryOp .USub) (rU λi=>.int (-i)):=unI λ_ _ _ _ _ q=>neg_int q
end
def wL:V->V->Bool
 |.non,.non=>true|.non,.int _=>true|.int _,.non=>true|.non,.bl _=>true|.bl _,.non=>true|.non,.str _=>true|.str _,.non=>true
 |.int _,.int _=>true|.bl _,.bl _=>true|.str _,.str _=>true|.byt _,.byt _=>true
 |.int _,.str _=>true|.str _,.int _=>true|.bl _,.str _=>true|.str _,.bl _=>true
 |_,_=>false
def rEq:R2:=λx y H Q=>wL x y=true/\Q (.bl (decide (x=y))) H
def rNe:R2:=λx y H Q=>wL x y=true/\Q (.bl (!decide (x=y))) H
def Ve{i j:Int}:decide (V.int i=V.int j)=(i==j):=by
 rw[agb];simp
def O5{i j:Bool}:decide (V.bl i=V.bl j)=(i==j):=by
 rw[agb];simp
def Wo{i j:Str}:decide (V.str i=V.str j)=(i==j):=by
 rw[agb];simp
def Rm{i j:Array UInt8}:decide (V.byt i=V.byt j)=(i.toList==j.toList):=by
 rw[agb];cases i;cases j;simp
section
variable{X:Cx}{a b c:Ϫ}{ta tb tc:TE}{pos:Pos}
def ϡ{ϵ:List (δ×Obj)}{σ:St}{H:Hp}{s:ν}{Q:VK}{k k':Bool}(I:Inv X ϵ σ H s)(q:Q (.bl k) H)(e:k=k'):EP X ϵ σ Q (.bool k') s:=by
 subst e;show#[.bl k,H,I,rfl,q]
def aoa:aV X (adA .Eq) rEq:=by
 intro ϵ s σ H x y v u Q I rx ry h;let#[hs,q]:=h;cases x with
 |non=>
  cases rx;cases y with
  |non=>cases ry;show PySem.EqNone.eq_none_none (ϡ I q (by simp))
  |bl j=>cases ry;show PySem.EqNone.eq_none_bool (ϡ I q (by simp))
  |int j=>let#[t',rfl]:=ry;show PySem.EqNone.eq_none_int (ϡ I q (by simp))
  |str j=>let#[t',rfl]:=ry;show PySem.EqNone.eq_none_str (ϡ I q (by simp))
  |_=>show absurd (show false=true from hs) aaP
 |bl i=>
  cases rx;cases y with
  |non=>cases ry;show PySem.EqNone.eq_bool_none (ϡ I q (by simp))
  |bl j=>cases ry;show eq_bool (ϡ I q O5)
  |str j=>let#[t',rfl]:=ry;show PySem.EqMixed.eq_bool_str (ϡ I q (by simp))
  |_=>show absurd (show false=true from hs) aaP
 |int i=>
  let#[t,rfl]:=rx;cases y with
  |non=>cases ry;show PySem.EqNone.eq_int_none (ϡ I q (by simp))
  |int j=>let#[t',rfl]:=ry;show eq_int (ϡ I q Ve)
  |str j=>let#[t',rfl]:=ry;show PySem.EqMixed.eq_int_str (ϡ I q (by simp))
  |_=>show absurd (show false=true from hs) aaP
 |str i=>
  let#[t,rfl]:=rx;cases y with
  |non=>cases ry;show PySem.EqNone.eq_str_none (ϡ I q (by simp))
  |bl j=>cases ry;show PySem.EqMixed.eq_str_bool (ϡ I q (by simp))
  |int j=>let#[t',rfl]:=ry;show PySem.EqMixed.eq_str_int (ϡ I q (by simp))
  |str j=>let#[t',rfl]:=ry;show eq_str (ϡ I q Wo)
  |_=>show absurd (show false=true from hs) aaP
 |byt i=>
  let#[t,rfl]:=rx;cases y with
  |byt j=>let#[t',rfl]:=ry;show W.eq_bytes (ϡ I q Rm)
  |_=>show absurd (show false=true from hs) aaP
 |_=>cases y<;>show absurd (show false=true from hs) aaP
def afg:aV X (adA .NotEq) rNe:=by
 intro ϵ s σ H x y v u Q I rx ry h;let#[hs,q]:=h;cases x with
 |non=>
  cases rx;cases y with
  |non=>cases ry;show PySem.EqNone.ne_none_none (ϡ I q (by simp))
  |bl j=>cases ry;show PySem.EqNone.ne_none_bool (ϡ I q (by simp))
  |int j=>let#[t',rfl]:=ry;show PySem.EqNone.ne_none_int (ϡ I q (by simp))
  |str j=>let#[t',rfl]:=ry;show PySem.EqNone.ne_none_str (ϡ I q (by simp))
  |_=>show absurd (show false=true from hs) aaP
 |bl i=>
  cases rx;cases y with
  |non=>cases ry;show PySem.EqNone.ne_bool_none (ϡ I q (by simp))
  |bl j=>cases ry;show ne_bool (ϡ I q (congrArg not O5))
  |str j=>let#[t',rfl]:=ry;show PySem.EqMixed.ne_bool_str (ϡ I q (by simp))
  |_=>show absurd (show false=true from hs) aaP
 |int i=>
  let#[t,rfl]:=rx;cases y with
  |non=>cases ry;show PySem.EqNone.ne_int_none (ϡ I q (by simp))
  |int j=>let#[t',rfl]:=ry;show ne_int (ϡ I q (congrArg not Ve))
  |str j=>let#[t',rfl]:=ry;show PySem.EqMixed.ne_int_str (ϡ I q (by simp))
  |_=>show absurd (show false=true from hs) aaP
 |str i=>
  let#[t,rfl]:=rx;cases y with
  |non=>cases ry;show PySem.EqNone.ne_str_none (ϡ I q (by simp))
  |bl j=>cases ry;show PySem.EqMixed.ne_str_bool (ϡ I q (by simp))
  |int j=>let#[t',rfl]:=ry;show PySem.EqMixed.ne_str_int (ϡ I q (by simp))
  |str j=>let#[t',rfl]:=ry;show ne_str (ϡ I q (congrArg not Wo))
  |_=>show absurd (show false=true from hs) aaP
 |byt i=>
  let#[t,rfl]:=rx;cases y with
  |byt j=>let#[t',rfl]:=ry;show W.ne_bytes (ϡ I q (congrArg not Rm))
  |_=>show absurd (show false=true from hs) aaP
 |_=>cases y<;>show absurd (show false=true from hs) aaP
theorem aeA:aV X (adA .Lt) (lA λi j=>.bl (decide (i<j))):=yV λ_ _ _ _ _ _ _ q=>lt_int q
theorem anH:aV X (adA .LtE) (lA λi j=>.bl (decide (i<=j))):=yV λ_ _ _ _ _ _ _ q=>le_int q
theorem amK:aV X (adA .Gt) (lA λi j=>.bl (decide (j<i))):=yV λ_ _ _ _ _ _ _ q=>gt_int q
theorem ak2:aV X (adA .GtE) (lA λi j=>.bl (decide (j<=i))):=yV λ_ _ _ _ _ _ _ q=>ge_int q
def aje:aV X (adA .Lt) (λx y H Q=>∃i j,x=.str i/\y=.str j/\Q (.bl (decide (i.cps.toList<j.cps.toList))) H):=by
 intro ϵ s σ H x y v u Q I rx ry h;let#[i,j,rfl,rfl,q]:=h;let#[t,rfl]:=rx;let#[t',rfl]:=ry;show lt_str (ϡ I q rfl)
def alS:aV X (adA .In) (λx y H Q=>∃i j,x=.str i/\y=.str j/\Q (.bl (!(Builtin.Str.occurrences j i 0 ↥j 1).isEmpty)) H):=by
 intro ϵ s σ H x y v u Q I rx ry h;let#[i,j,rfl,rfl,q]:=h;let#[t,rfl]:=rx;let#[t',rfl]:=ry;show in_str (ϡ I q rfl)
def anF:aV X (adA .Is) (λx y H Q=>y=.non/\Q (.bl (decide (x=.non))) H):=by
 intro ϵ s σ H x y v u Q I rx ry h;let#[rfl,q]:=h;cases ry;show is_none_gen (ϡ I q ?_);cases x<;>first
  |(cases rx;rfl)
  |(let#[t,rfl]:=rx;rfl)
def akV:aV X (adA .IsNot) (λx y H Q=>y=.non/\Q (.bl (!decide (x=.non))) H):=by
 intro ϵ s σ H x y v u Q I rx ry h;let#[rfl,q]:=h;cases ry;show isnot_none_gen (ϡ I q ?_);cases x<;>first
  |(cases rx;rfl)
  |(let#[t,rfl]:=rx;rfl)
def afl:aV X (adA .NotIn) (λx y H Q=>∃i j,x=.str i/\y=.str j/\Q (.bl (!(!(Builtin.Str.occurrences j i 0 ↥j 1).isEmpty))) H):=by
 intro ϵ s σ H x y v u Q I rx ry h;let#[i,j,rfl,rfl,q]:=h;let#[t,rfl]:=rx;let#[t',rfl]:=ry;show notIn_str (ϡ I q rfl)
def Xj(b:Ϫ){op:CmpOp}(h:op≠ .In:=by decide)(h2:op≠ .NotIn:=by decide):behindInMarks op b=false:=by
 let e1:(op==CmpOp.In)=false:=by cases op<;>first|rfl|show absurd rfl h
 let a:(op==CmpOp.NotIn)=false:=by cases op<;>first|rfl|show absurd rfl h2
 cases b<;>simp[behindInMarks,e1,a]
def Kd(K:ϩ)(x:V)(H:Hp)(k:Bool):Prop:=
 match x with
 |.non=>k=false
 |.bl b=>k=b
 |.int i=>k=(i !=0)
 |.str y=>↥y<=ϱ/\k=((↥y:Int) !=0)
 |.byt y=>y.size<=ϱ/\k=((y.size:Int) !=0)
 |.ref p=>(∃xs,θ K H p xs/\k= !xs.isEmpty)\/(∃xs,ψ K H p xs/\k= !xs.isEmpty)\/∃Ϸ,H p=↑(.dK Ϸ)/\k= !Ϸ.isEmpty
 |_=>False
def abJ{κ:Type}{Ϸ:List (κ×V)}{vs:List (κ×ε)}(r:KV Ϸ vs):(!vs.isEmpty)= !Ϸ.isEmpty:=by
 cases r<;>rfl
def Yo{xs:List V}{a:List ε}(r:Vals xs a):(!a.toArray.isEmpty)= !xs.isEmpty:=by
 cases r<;>simp
def pC:(ϱ:Nat)<2^63:=by rw[ϯ];decide
def aez:agW X (λx H Q=>∃k,Kd X.K x H k/\Q k H):=by
 intro ϵ s σ H x v Q I rx h;let#[k,e,q]:=h;let o:=pC;let hs:ϱ=16777216:=ϯ;cases x with
 |non=>
  cases rx;let a:k=false:=e;subst a;show truthy_none #[H,I,q]
 |bl b=>
  cases rx;let a:k=b:=e;subst a;show ahM #[H,I,q]
 |int i=>
  let#[t,rfl]:=rx;let a:k=(i !=0):=e;subst a;show PySem.P.truthy_int #[H,I,q]
 |str y=>
  let#[t,rfl]:=rx;obtain⟨j,a⟩:↥y<=ϱ/\k=((↥y:Int) !=0):=e;subst a;show PySem.P.truthy_str () #[H,I.tok _,q]
 |byt y=>
  let#[t,rfl]:=rx;obtain⟨j,a⟩:y.size<=ϱ/\k=((y.size:Int) !=0):=e;subst a;show W.truthy_bytes () #[H,I.tok _,q]
 |ref p=>
  cases rx;let a:(∃xs,θ X.K H p xs/\k= !xs.isEmpty)\/(∃xs,ψ X.K H p xs/\k= !xs.isEmpty)\/∃Ϸ,H p=↑(.dK Ϸ)/\k= !Ϸ.isEmpty:=e;obtain⟨xs,f,a⟩|⟨xs,f,a⟩|⟨Ϸ,f,a⟩:=a
  .subst a;let#[l,r,pl,g]:=I.list f;let c:=↥r;show wpAny_truthy_list pl.isList (by simp only[aaq];omega) #[H,I.tok _,by rw[Yo r];show q]
  .subst a;let#[l,r,pl,g]:=I.tuple f;let c:=↥r;show truthy_tuple pl (by simp only[aaq];omega) #[H,I.tok _,by rw[Yo r];show q]
  .subst a;obtain⟨g,n,vs,r,m⟩:↥Ϸ<=ϱ/\(p==sysModules)=false/\∃vs,KV Ϸ vs/\s.heap.DictOf (jn X.prog X.w) p vs:=I.hok p _ f;let c:↥Ϸ=↥vs:=Paired.length r;show wpAny_truthy_dict n m () #[H,I.tok _,by rw[abJ r];show q]
 |_=>show(show False from e).elim
def ajH:aV X (binaryOp .Add) (λx y H Q=>∃i j,x=.str i/\y=.str j/\↥i+↥j<=ϱ/\Q (.str (i++j)) H):=by
 intro ϵ s σ H x y v u Q I rx ry h;let#[i,j,rfl,rfl,a,q]:=h;let#[t,rfl]:=rx;let#[t',rfl]:=ry;show add_str (λt' tk=>#[.str (i++j),H,I.tok _,#[_,rfl],q]) a
def vals1{x:V}{us:List ε}(r:Vals [x] us):∃u,us=[u]/\RelV x u:=by
 cases r with
 |cons r1 a=>cases a;show#[_,rfl,r1]
def vals2{x y:V}{us:List ε}(r:Vals [x,y] us):∃u w',us=[u,w']/\RelV x u/\RelV y w':=by
 cases r with
 |cons r1 a=>
  cases a with
  |cons c e=>cases e;show#[_,_,rfl,r1,c]
def aiH(c:X.calm=true):iY X (.builtin "max") (λxs H Q=>∃i j,xs=[.int i,.int j]/\Q (.int (if j>i then j else i)) H):=by
 intro ϵ s σ H xs us Q I r h;let#[i,j,rfl,q]:=h;let#[u,e,rfl,#[t,rfl],#[t',rfl]]:=vals2 r;show max_two_ints (I.ok.hd c) λh' tk k=>#[_,H,I.kept k,?_,q]
 by_cases a:j>i
 .rw[if_pos a,if_pos a];show#[_,rfl]
 .rw[if_neg a,if_neg a];show#[_,rfl]
def afH(c:X.calm=true):iY X (.builtin "min") (λxs H Q=>∃i j,xs=[.int i,.int j]/\Q (.int (if j<i then j else i)) H):=by
 intro ϵ s σ H xs us Q I r h;let#[i,j,rfl,q]:=h;let#[u,e,rfl,#[t,rfl],#[t',rfl]]:=vals2 r;show min_two_ints (I.ok.hd c) λh' tk k=>#[_,H,I.kept k,?_,q]
 by_cases a:j<i
 .rw[if_pos a,if_pos a];show#[_,rfl]
 .rw[if_neg a,if_neg a];show#[_,rfl]
def Uu:iY X (.type "int") (λxs H Q=>(∃i,xs=[.int i]/\Q (.int i) H)\/∃k,xs=[.bl k]/\Q (.int (if k then 1 else 0)) H):=by
 intro ϵ s σ H xs us Q I r h;obtain⟨i,rfl,q⟩|⟨k,rfl,q⟩:=h
 .let#[u,rfl,t,rfl]:=vals1 r;show call_int_int #[.int i,H,I,#[_,rfl],q]
 .let#[u,rfl,r1]:=vals1 r;cases r1;show call_int_bool #[.int (if k then 1 else 0),H,I.tok _,#[_,rfl],q]
def aj0:iY X (.type "str") (λxs H Q=>∃i,xs=[.int i]/\i.natAbs.log2<1920/\Q (.str (toString i)) H):=by
 intro ϵ s σ H xs us Q I r h;let#[i,rfl,a,q]:=h;let#[u,rfl,t,rfl]:=vals1 r;show PySem.P.str_of_int a #[.str _,H,I.tok _,#[_,rfl],q]
end
structure pR(h:ϫ)(x dx C:δ)(mA:MG):Prop where
 obj:h.get? x=↑(aqU C dx)
 ns:h.Ns1 dx mA
 ne:dx≠x
def aaC{h:ϫ}{dx:δ}{mA:MG}(n:h.Ns1 dx mA):∃od,h.get? dx=↑od/\∀name,atB name od=↑(mA name):=by
 let#[o,es,ep,f,hd,g,_,i]:=n;show#[o,f,λname=>?_];let e:=i name;unfold nsFind findBy at e;rw[<-asV]at e;unfold atB;rw[hd];dsimp only;split
 .rename_i y q;rw[q]at e;show congrArg some e
 .rename_i q;rw[q]at e;let a:es.toList.any (·.refKey)=false:=by
   rw[aqG];intro y j;let#[z,t,c]:=g y (Array.mem_toList_iff.mp j);simp[DictEntry.refKey,c]
  let l:¬es.toList.any (·.refKey)=true:=by rw[a];show aaP
  rw[if_neg l];show congrArg some e
theorem pR.look{h:ϫ}{x dx C:δ}{mA:MG}(I:pR h x dx C mA):∃od,asW h x (aqU C dx) C ↑od/\∀name,atB name od=↑(mA name):=
 let⟨od,ho,hl⟩:=aaC I.ns
 #[od,#[I.obj,rfl,rfl,ho],hl]
section
variable{prog:ϰ}{w:Ϯ}{A:ϴ}{E:ε->ν->Prop}{s:ν}{K:ϩ}{x dx C f:δ}{mA:MG}{name:Str}{v:ε}
def get_map{a:Bool}{Q:ε->ν->Prop}(X:K.In s.heap)(I:pR s.heap x dx C mA)(e:arM K C name=true)(f:aoB K C=true)(g:afk K (.ref C) name=↑none)(i:mA name=↑v)(c:W.handedIn v=true)(h:Q v {s with toks:=s.toks+1}):π (ϧ prog w) A (getAttr (.ref x) name a) Q E s:=by
 let#[od,J,j]:=I.look;show W.get_value X J (asY e).1 (W.findObj_own f g rfl (by rw[j,i])) c h
def acn{pl:Sem Bool}{Q:ε×List ε->ν->Prop}(X:K.In s.heap)(I:pR s.heap x dx C mA)(a:arM K C name=true)(c:afk K (.ref C) name=some ↑(.ref f))(e:asZ K (.ref f)=true)(g:mA name=none)(h:Q (.ref f,[.ref x]) s):π (ϧ prog w) A (getMethod (.ref x) name pl) Q E s:=by
 let#[od,J,i]:=I.look;show W.method_fn X J (asY a).1 (asY a).2 c (beq_iff_eq.mp e) (by show(atB name od).map (·.isSome)=↑false;rw[i,g];rfl) h
def anE{ns:List Str}{Q:Unit->ν->Prop}(X:K.In s.heap)(I:pR s.heap x dx C mA)(hs:afk K (.ref C) "__setattr__"=some ↑(.builtin "object.__setattr__"))(l:asd K C=true)(m:arP K C name=↑none)(n:aoB K C=true)(o:PySem.Within mA ns)(hsz:↥ns<=ϱ)(h:∀h',pR h' x dx C (λy=>if y=name then some v else mA y)->an0 dx s.heap h'->Q PUnit.unit {s with heap:=h',toks:=s.toks+2}):π (ϧ prog w) A (setAttr (.ref x) name v) Q E s:=by
 let#[od,J,B]:=I.look;show W.set_plain X J hs (W.osa_open (s:={s with toks:=s.toks+1}) (r:=none) X J l m λb=>?_);let#[cd,p,f]:=asH n;let q:s.heap.get? x=some #[.ref C,↑dx,.plain, #v[]]:=I.obj;show Ϧ (ϲ (Ϧ (Ϧ (wpAny_loadPart q (Ϧ (W.Looks.here (s:={s with toks:=s.toks+1}) (as3 X p) ?_))))));rw[f];show ϲ (a:=↑dx) (Ϧ (ϲ (Ϧ ?_)))*>wpAny_nsSet1 (s:={s with toks:=s.toks+1}) I.ns λh' c e=>?_
 let#[D,u,z,g,i,j]:=c.count (PySem.Within.cons name v o);show Ϧ (wpAny_lookBehind g (by rw[i];show pastItsLine_dict (adQ j (by rw[aap];omega))) ?_)*>ϲ (h _ #[(e.2 _ (Ne.symm I.ne))<|>I.obj,c,I.ne] e)
def amM{R:Result->ν->Prop}{vs:List ε}{kw:List (Str×ε)}(X:K.In s.heap)(a:atG K C=true)(hi:afk K (.ref C) "__init__"=some ↑(.ref f))(c:arL K (.ref f)=↑(.type "function"))(h:codeAny (ϧ prog w) (A.under (.builtin "type.__call__" #[.ref C::vs,kw])) (.call (.ref f) #[.ref (⇑s+1)::vs,kw]) (W.InitBack (⇑s+1) R)
   {s with heap:=(s.heap.push aod).push (aqU C ⇑s)}):codeAny (ϧ prog w) A (.call (.ref C) #[vs,kw]) R s:=by
 let#[e,g,d,t,os]:=s;show W.make_core (W.makes_of X a) (arY X hi) (λself=>W.bind_fn X self c) (.inl rfl) h
end
def ϥ(f:Str)(v:V):List (Str×V)->List (Str×V)
 |[]=>[(f,v)]
 |(g,x)::r=>if g=f then(g,v)::r else(g,x)::ϥ f v r
theorem R3(f g:Str)(v:V):∀fs:List (Str×V),(ϥ f v fs).lookup g=if g=f then some v else fs.lookup g
 |[]=>by
  show ajp g [(f,v)]=_;by_cases h:g=f
  .let a:(g==f)=true:=beq_iff_eq.mpr h;simp only[ajp,a,if_pos h]
  .let a:(g==f)=false:=beq_eq_false_iff_ne.mpr h;simp only[ajp,a,if_neg h]
 |(k,x)::r=>by
  let i:=R3 f g v r;rw[show ϥ f v ((k,x)::r)=(if k=f then(k,v)::r else(k,x)::ϥ f v r)from rfl];by_cases c:k=f
  .rw[if_pos c];by_cases h:g=k
   .let a:(g==k)=true:=beq_iff_eq.mpr h;simp only[ajp,a,if_pos (h<|>c)]
   .let a:(g==k)=false:=beq_eq_false_iff_ne.mpr h;simp only[ajp,a,if_neg (λe:g=f=>h (e<|>c.symm))]
  .rw[if_neg c];by_cases h:g=k
   .let a:(g==k)=true:=beq_iff_eq.mpr h;simp only[ajp,a,if_neg (λe:g=f=>c (h.symm<|>e))]
   .let a:(g==k)=false:=beq_eq_false_iff_ne.mpr h;simp only[ajp,a];show i
theorem Gz(f:Str)(v:V):∀fs:List (Str×V),f∈(ϥ f v fs).map (·.1)/\∀g,g∈fs.map (·.1)->g∈(ϥ f v fs).map (·.1)
 |[]=>#[by simp[ϥ],λg h=>by simp at h]
 |(k,x)::r=>by
  let#[c,i]:=Gz f v r;rw[show ϥ f v ((k,x)::r)=(if k=f then(k,v)::r else(k,x)::ϥ f v r)from rfl];by_cases a:k=f
  .rw[if_pos a];subst a;show#[by simp,λg h=>~~~h]
  .rw[if_neg a];show#[?_,λg h=>?_]
   .rw[acz];show abk _ c
   .rw[acz]at h⊢;obtain e|e:=aaz.mp h
    .show aaz.mpr (.inl e)
    .show abk _ (i g e)
theorem lg(f:Str)(v:V):∀fs:List (Str×V),↥(ϥ f v fs)<=↥fs+1
 |[]=>by simp[ϥ]
 |(k,x)::r=>by
  let c:=lg f v r;rw[show ϥ f v ((k,x)::r)=(if k=f then(k,v)::r else(k,x)::ϥ f v r)from rfl];by_cases a:k=f
  .rw[if_pos a,aap,aap];omega
  .rw[if_neg a,aap,aap];omega
def cN.some_of{v:V}{o:Option ε}(r:cN ↑v o):∃u,o=↑u/\RelV v u:=by
 cases o with
 |none=>show(show False from r).elim
 |some u=>show#[u,rfl,r]
def cN.none_of{o:Option ε}(r:cN none o):o=none:=by
 cases o with
 |none=>rfl
 |some u=>show(show False from r).elim
def anI{v:V}{u:ε}(r:RelV v u):W.handedIn u=true:=by
 cases v with
 |non=>cases(show u=Value.none from r);rfl
 |bl b=>cases(show u=Value.bool b from r);rfl
 |int i=>let#[t,e]:=(show ∃t,u=Value.int i t from r);cases e;rfl
 |str x=>let#[t,e]:=(show ∃t,u=Value.str x t from r);cases e;rfl
 |byt b=>let#[t,e]:=(show ∃t,u=Value.bytes b t from r);cases e;rfl
 |flt b=>let#[t,e]:=(show ∃t,u=Value.float b t from r);cases e;rfl
 |ref a=>cases(show u=Value.ref a from r);rfl
 |ty n=>cases(show u=Value.type n from r);rfl
section
variable{P:ϰ}{w:Ϯ}{H H':Hp}{h h':ϫ}{a C dx:δ}{fs fs':List (Str×V)}
def zR(hok:aG P w H h)(e:H a=↑(.ins C dx fs)):∃mA,pR h a dx C mA/\(∀f,cN (fs.lookup f) (mA f))/\PySem.Within mA (fs.map (·.1))/\↥fs<=1000/\H dx=↑(.own a):=by
 let#[d,z,ne,c,mA,n,r,q]:=(show Ϟ P w H h a (.ins C dx fs)from hok a _ e);show#[mA,#[c,n,ne],r,q,z,d]
end
theorem Ϙ.get{K:ϩ}{C:δ}(c:Ϙ K C)(f:Str):arM K C f=true:=c.pg
def Ο.taker{K:ϩ}{C:δ}{f:Str}(n:Ο K C f):arP K C f=↑none:=by
 unfold arP;rw[show afk K (.ref C) f=↑none from n];rfl
section
variable{X:Cx}{ϵ:List (δ×Obj)}{σ:St}{H:Hp}{s:ν}{a C dx:δ}{fs:List (Str×V)}{f:Str}{v:V}{A:ϴ}{E:ε->ν->Prop}
def O7{b:Bool}{Q:ε->ν->Prop}(I:Inv X ϵ σ H s)(e:H a=↑(.ins C dx fs))(c:Ϙ X.K C)(n:Ο X.K C f)(l:fs.lookup f=↑v)(h:∀u s',Inv X ϵ σ H s'->RelV v u->Q u s'):π ∅ A (getAttr (.ref a) f b) Q E s:=by
 let#[mA,O,r,_,_,_]:=zR I.hok e;let#[u,i,g]:=cN.some_of (v:=v) (o:=mA f) (by rw[<-l];show r f);show get_map I.kIn O (c.get f) c.hd n i (anI g) (h u _ (I.tok _) g)
def Lj{m:Str}{g:δ}{pl:Sem Bool}{Q:ε×List ε->ν->Prop}(I:Inv X ϵ σ H s)(e:H a=↑(.ins C dx fs))(c:Ϙ X.K C)(k:Meth X.K C m g)(l:fs.lookup m=none)(h:Q (.ref g,[.ref a]) s):π ∅ A (getMethod (.ref a) m pl) Q E s:=by
 let#[mA,O,r,_,_,_]:=zR I.hok e;let f:mA m=none:=cN.none_of (by rw[<-l];show r m);show acn I.kIn O (c.get m) k.at_ k.fn f h
def Zg{y:V}{u:ε}{Q:Unit->ν->Prop}(I:Inv X ϵ σ H s)(e:H a=↑(.ins C dx fs))(c:Ϙ X.K C)(n:Ο X.K C f)(D:↥fs<1000)(ry:RelV y u)(h:∀s',Inv X ϵ σ (upd H a (.ins C dx (ϥ f y fs))) s'->Q PUnit.unit s'):π ∅ A (setAttr (.ref a) f u) Q E s:=by
 let#[mA,O,r,j,_,l]:=zR I.hok e;let m:(fs.map (·.1)).length<=ϱ:=by rw[ϭ,ϯ];omega
 show anE I.kIn O c.sa c.po n.taker c.hd j m λh' i p=>h _ ?_
 let hd:∃o,h'.get? dx=↑o:=let⟨o,_,_,e',_⟩:=i.ns;#[o,e'];show I.write (x:=a) (e:=dx) (by rw[e];show True.intro) (.inr l) (λb q v z=>(p.2 b v).trans z) hd ?_*>#[by rw[ι O.ne];show l,?_,O.ne,i.obj,_,i.ns,λg=>?_,λg B=>?_]
 .have :=lg f y fs;omega
 .show cN ((ϥ f y fs).lookup g) (if g=f then some u else mA g);rw[R3];by_cases q:g=f
  .rw[if_pos q,if_pos q];show ry
  .rw[if_neg q,if_neg q];show r g
 .by_cases q:g=f
  .rw[q];show(Gz f y fs).1
  .show(Gz f y fs).2 g (j g λz=>B ?_);show(if g=f then some u else mA g)=none;rw[if_neg q];show z
def Inv.made(I:Inv X ϵ σ H s):Inv X ϵ σ (upd (upd H ⇑s (.own (⇑s+1))) (⇑s+1) (.ins C ⇑s []))
  {s with heap:=(s.heap.push aod).push (aqU C ⇑s)}:=by
 let e1:(s.heap.push aod).get? ⇑s=↑aod:=abM s.heap rfl;let c:((s.heap.push aod).push (aqU C ⇑s)).get? (⇑s+1)=↑(aqU C ⇑s):=by
  have:=abM (s.heap.push aod) (o:=aqU C ⇑s) rfl
  rwa [arZ]at this
 let f:(s.heap.push aod).Ns ⇑s (λ_=>none):=#[aod, #v[],_,e1,rfl,(λe g=>absurd g (by simp)),λ_=>rfl];let i:=I.laid (a:=⇑s) (o:=.own (⇑s+1)) (h':=s.heap.push aod) (t':=s.toks) (λb u q=>aai _ q) (Ϭ _) #[_,e1];show i.laid (a:=⇑s+1) (o:=.ins C ⇑s []) (t':=s.toks) (λb u q=>aai _ q) (ark (arZ _ _)) ?_;let ne:⇑s≠⇑s+1:=acb (atp _);show#[by rw[ι ne,ξ],aht _,ne,c,λ_=>none,(Heap.Ns1.of_empty f).at λo q=>aai _ q,λ_=>True.intro,λy j=>absurd rfl j]
theorem anJ{prog:ϰ}{w:Ϯ}{env:Env}{e:Ϫ}{f:Str}{pos:Pos}{s:ν}{Q:ε->ν->Prop}(c:attributeBase e f env (eval e env)=eval e env)(h:π (ϧ prog w) A (eval e env) (λo a=>π (ϧ prog w) A (getAttr o f true) Q E a) E s):π (ϧ prog w) A (eval (.Attribute e f pos) env) Q E s:=
 Attribute_any_ h (by rw[arm_eval_Attribute,c])
end
def adC(K:ϩ)(ta tv:TE)(f:Str):TS:=λD σ H=>tv σ H λy H1=>ta σ H1 λx H2=>∃a C dx fs,x=.ref a/\H2 a=↑(.ins C dx fs)/\Ϙ K C/\ Ο K C f/\↥fs<1000/\
 D.nx σ (upd H2 a (.ins C dx (ϥ f y fs)))
def Zn(X:Cx)(op:Operator)(rd:V->V->Hp->VK->Prop):Prop:=
 ∀(ϵ:List (δ×Obj))(s:ν)(σ:St)(H:Hp)(x y:V)(u v:ε)(Q:VK),Inv X ϵ σ H s->RelV x u->RelV y v->rd x y H Q->π ∅ X.A (inplaceOp op u v) (EP X ϵ σ Q) X.xe s
def ah6(K:ϩ)(ta tv:TE)(rd:V->V->Hp->VK->Prop)(f:Str):TS:=λD σ H=>ta σ H λx H1=>∃a C dx fs v,x=.ref a/\H1 a=↑(.ins C dx fs)/\Ϙ K C/\ Ο K C f/\fs.lookup f=↑v/\
 tv σ H1 λy H2=>rd v y H2 λz e=>∃c fs',e a=↑(.ins C c fs')/\↥fs'<1000/\D.nx σ (upd e a (.ins C c (ϥ f z fs')))
section
variable{X:Cx}{o e value:Ϫ}{f:Str}{pos pos' tpos:Pos}{ta tv:TE}
def an7(e:PE X o ta)(g:PE X value tv)(hs:ao7 value ↑(.Attribute o f pos') pos.line X.env=pure false):PS X (.Assign [.Attribute o f pos'] value pos) (adC X.K ta tv f):=by
 intro ϵ s σ H D I h;show plainObj_wpAny_Assign_Attribute (υ (g ϵ s σ H _ I h) λu i _u=>_Z.e23 _u λy H1 j ry q=>υ (e ϵ i σ H1 _ j q) λm F p=>?_) hs;let#[x,H2,v,rx,a,C,dx,fs,ex,z,c,n,l,B]:=p;subst ex;obtain rfl:m=Value.ref a:=rx;show Zg v z c n l ry λG E=>#[σ,_,E,B]
def ae7{op:Operator}{rd:V->V->Hp->VK->Prop}(j:PE X o ta)(m:PE X value tv)(e:Zn X op rd):PS X (.AugAssign (.Attribute o f tpos) op value pos) (ah6 X.K ta tv rd f):=by
 intro ϵ s σ H D I h;show wpAny_AugAssign_AttributeAny (υ (j ϵ s σ H _ I h) λp W g=>?_);let#[x,H1,B,rx,a,C,dx,fs,v,ex,E,c,n,l,q]:=g;subst ex;obtain rfl:p=Value.ref a:=rx;show O7 B E c n l λu F G J=>υ (m ϵ F σ H1 _ G q) λL M _u=>_Z.e23 _u λy H2 O ry P=>υ (e ϵ M σ H2 v y u L _ O J ry P) λY Z g=>?_
 let#[z,H3,Q,R,S,fs',i,l',T]:=g;show Zg Q i c n l' R λs5 U=>#[σ,_,U,T]
def QX:V->V->Hp->VK->Prop:=λx y H Q=>∃i j,x=.int i/\y=.int j/\Q (.int (i+j)) H
def adX:Zn X .Add QX:=by
 rintro ϵ s σ H x y u v Q I rx ry ⟨i,j,rfl,rfl,q⟩
 let#[t,rfl]:=(show ∃t,u=Value.int i t from rx);let#[t',rfl]:=(show ∃t',v=Value.int j t' from ry);show PyProof.Rows.iadd_int #[.int (i+j),H,I.tok _,#[_,rfl],q]
end
section
variable{X:Cx}{ϵ:List (δ×Obj)}{σ:St}{H:Hp}{s:ν}{A:ϴ}{E:ε->ν->Prop}{Q:ε->ν->Prop}{c:ε}{b:Bool}
def anb{x:V}{u t:ε}(I:Inv X ϵ σ H s)(rx:RelV x u)(ty:dJ X.K H x t)(e:aoY X.K t c=↑b)(h:∀tk,Q (.bool b) {s with toks:=tk}):π ∅ A (call (.builtin "isinstance") [u,c]) Q E s:=by
 cases ty with
 |non=>cases(show u=Value.none from rx);show apj W.kitx_none I.kIn True.intro e (λz=>nomatch z) h
 |bl y=>cases(show u=Value.bool y from rx);show apj W.kitx_bool I.kIn True.intro e (λz=>nomatch z) h
 |int i=>let#[t,q]:=(show ∃t,u=Value.int i t from rx);cases q;show apj W.kitx_int I.kIn True.intro e (λz=>nomatch z) h
 |str y=>let#[t,q]:=(show ∃t,u=Value.str y t from rx);cases q;show apj W.kitx_str I.kIn True.intro e (λz=>nomatch z) h
 |flt y=>let#[t,q]:=(show ∃t,u=Value.float y t from rx);cases q;show apj W.kitx_float I.kIn True.intro e (λz=>nomatch z) h
 | @lst a xs f=>
   cases(show u=Value.ref a from rx);let#[_,_,n,_,h1]:=(show Ϟ X.prog X.w H s.heap a (.lst xs)from I.hok a _ f);show apj W.kitx_list I.kIn #[_,h1,rfl] e (λz=>nomatch z) h
 | @frz a j xs f=>
   cases(show u=Value.ref a from rx);let#[_,_,_,n,_,h1]:=(show Ϟ X.prog X.w H s.heap a (.frz j (.lst xs))from I.hok a _ f);show apj W.kitx_list I.kIn #[_,h1,rfl] e (λz=>nomatch z) h
 | @tup a xs f=>
   cases(show u=Value.ref a from rx);let#[_,_,_,p]:=(show Ϟ X.prog X.w H s.heap a (.tup xs)from I.hok a _ f);let#[o,h1,h2,_]:=p;show apj W.kitx_tuple I.kIn #[o,h1,h2] e (λz=>nomatch z) h
 | @dK a Ϸ f=>
   cases(show u=Value.ref a from rx);let#[_,_,vs,_,p]:=(show Ϟ X.prog X.w H s.heap a (.dK Ϸ)from I.hok a _ f);let#[o,es,ep,h1,h2,_]:=p;show apj W.kitx_dict I.kIn #[o,h1,h2.1] e (λz=>nomatch z) h
 | @ins a C dx fs f cl l m g v=>
   cases(show u=Value.ref a from rx);let#[mA,O,_]:=zR I.hok f;let#[od,J,_]:=O.look;show apj (W.kitx_own (cl.get _) cl.hd l m g v) I.kIn J e (λz=>nomatch z) h
end
theorem ϐ.mono{j k:Nat}{A:ϴ}(r:ϐ cc k A)(h:j<=k):ϐ cc j A:=#[r.hd,by have:=r.dp;omega,by have:=r.un;omega]
theorem ϐ.deeper{k:Nat}{A:ϴ}(r:ϐ cc (k+1) A)(env:Env):ϐ cc k (A.deeper env):=
 #[r.hd,by have:=r.dp;show A.depth+1+3*k+5<_;omega,by have:=r.un;show A.units+3+16*k+200<_;omega]
theorem ϐ.in1{k:Nat}{A:ϴ}(r:ϐ cc (k+1) A):ϐ cc k A.in1:=
 #[r.hd,by have:=r.dp;show A.depth+3*k+5<_;omega,by have:=r.un;show A.units+1+16*k+200<_;omega]
def ang{A:ϴ}{C:δ}{us:List ε}{kw:List (Str×ε)}:(A.under (.builtin "type.__call__" #[.ref C::us,kw])).depth=A.depth+1:=by
 first|rfl|simp[Around.under,Code.weight,Code.isCreation,Code.isGuard,Code.isCaller,Code.frames,Code.isFrame,guardIds]
def aba{A:ϴ}{C:δ}{us:List ε}{kw:List (Str×ε)}:(A.under (.builtin "type.__call__" #[.ref C::us,kw])).units=A.units+1:=by
 first|rfl|simp[Around.under,Code.cUnits,Code.frames,Code.isFrame]
theorem ϐ.make{k:Nat}{A:ϴ}(r:ϐ cc (k+1) A)(C:δ)(us:List ε)(kw:List (Str×ε)):ϐ cc k (A.under (.builtin "type.__call__" #[.ref C::us,kw])):=
 #[r.hd,by have:=r.dp;rw[ang];omega,by have:=r.un;rw[aba];omega]
def ϐ.depth{k:Nat}{A:ϴ}(r:ϐ cc k A):A.depth<recursionLimit:=by have:=r.dp;omega
def ϐ.units{k:Nat}{A:ϴ}(r:ϐ cc k A):A.units+64<cLine:=by have:=r.un;omega
def ϐ.units0{k:Nat}{A:ϴ}(r:ϐ cc k A):A.units<cLine:=by have:=r.un;omega
theorem cW.mono{P:ϰ}{w:Ϯ}{K:ϩ}{mg:MG}{base:ϫ}{CX:fH}{j k:Nat}{f:δ}{fd:ajB}{ps:List Str}{sp:Sp}(F:cW P w K mg base CX cc j f fd ps sp)(h:j<=k):cW P w K mg base CX cc k f fd ps sp:=#[F.len,λA outer s H a us vs Q E c=>F.run A outer s H a us vs Q E (c.mono h)]
theorem ou.make{P:ϰ}{w:Ϯ}{K:ϩ}{mg:MG}{base:ϫ}{A:ϴ}{outer:List Env}{s:ν}{H:Hp}(e:ou P w K mg base A outer s H)(C:δ)(us:List ε)(kw:List (Str×ε)):ou P w K mg base (A.under (.builtin "type.__call__" #[.ref C::us,kw])) outer s H:=#[by first|show e.frames|(simpa [Around.under,Code.envs,Code.isFrame,pushEnvs]using e.frames),e.mod,e.bs,e.bsz,e.funs,e.frf,e.hok,e.bare]
section
variable{X:Cx}{ϵ:List (δ×Obj)}{σ:St}{H:Hp}{s s':ν}
theorem Inv.env0(I:Inv X ϵ σ H s):ou X.prog X.w X.K X.mg X.base X.A X.stack s H:=
 #[I.ok.frames,I.ok.mod,I.bs,adQ I.ok.bsz I.sz,I.stack,I.stkFree,I.hok,I.bare]
def Inv.after{Q:VK}{u:ε}(I:Inv X ϵ σ H s)(h:CE X.stack X.prog X.w H s Q u s'):EP X ϵ σ Q u s':=by
 let#[v,H',os,bare,un,hok,r,q]:=h;let#[c,g,d,t,a]:=s';obtain rfl:a=s.os:=os;show#[v,H',I.call (h':=c) (g':=g) (d':=d) (t':=t) (ch:=[]) un hok bare (λb z=>absurd z (by simp)),r,q]
end
def Binds(K:ϩ)(fd:ajB)(ps:List Str)(ds:List ε):Prop:=
 ∀(s:ν)(us:List ε),K.In s.heap->↥(us++ds)=↥ps->BindsTo s fd #[us,[]] (ps.zip (us++ds))
theorem Binds.all{K:ϩ}{fd:ajB}{ps:List Str}(h:∀us:List ε,↥us=↥ps->bindArgs fd #[us,[]]=pure (ps.zip us)):Binds K fd ps []:=λs us _ a=>by
 rw[alV]at a⊢;show .of_eq (h us a)
structure Μ(N P:List Str)(sc:aiZ):Prop where
 kind:sc.kind=.function
 co:sc.isCoroutine=false
 gen:sc.isGenerator=false
 nd:N.Nodup
 pre:N.take ↥P=P
 par:∀x∈P,sc.names.lookup x=↑.local\/sc.names.lookup x=↑.cell
 nofree:∀y∈sc.names,y.2≠.free
theorem Va{kindOf:Str->Option aqu}{x:Str}:∀{binds:List (Str×ε)}{m:MG},(∀v,(x,v)∉binds)->bindL kindOf binds m x=m x
 |[],_,_=>rfl
 |(n,v)::r,m,h=>by
  unfold bindL;rw[Va λw a=>h w (abk _ a)];split
  .have :x≠n:=by rintro rfl;show h v ad1
   simp[this]
  .rfl
theorem Zu{kindOf:Str->Option aqu}{x:Str}:∀{binds:List (Str×ε)}{m:MG},(∀v,(x,v)∉binds)->bindC kindOf binds m x=m x
 |[],_,_=>rfl
 |(n,v)::r,m,h=>by
  unfold bindC;rw[Zu λw a=>h w (abk _ a)];split
  .rfl
  .have :x≠n:=by rintro rfl;show h v ad1
   simp[this]
theorem Ri{kindOf:Str->Option aqu}{x:Str}{v:ε}:∀{P:List Str}{vs:List ε}{i:Nat}{m:MG},P.Nodup->P[i]?=↑x->vs[i]?=↑v->kindOf x=↑.local->
  bindL kindOf (P.zip vs) m x=↑v
 |[],_,_,_,_,h,_,_=>by simp at h
 |_::_,[],_,_,_,_,h,_=>by simp at h
 |p::P,w::vs,0,m,nd,h1,h2,a=>by
  simp at h1 h2;subst h1;subst h2;show bindL kindOf ((p,w)::P.zip vs) m p=_;unfold bindL;rw[Va λv c=>(alW.mp nd).1 (asv c).1,if_pos a];simp
 |p::P,w::vs,i+1,m,nd,h1,h2,a=>by
  show bindL kindOf ((p,w)::P.zip vs) m x=_;unfold bindL;show Ri (i:=i) (alW.mp nd).2 (~~~h1) (~~~h2) a
theorem Tf{kindOf:Str->Option aqu}{x:Str}{v:ε}:∀{P:List Str}{vs:List ε}{i:Nat}{m:MG},P.Nodup->P[i]?=↑x->vs[i]?=↑v->kindOf x≠↑.local->
  bindC kindOf (P.zip vs) m x=↑v
 |[],_,_,_,_,h,_,_=>by simp at h
 |_::_,[],_,_,_,_,h,_=>by simp at h
 |p::P,w::vs,0,m,nd,h1,h2,a=>by
  simp at h1 h2;subst h1;subst h2;show bindC kindOf ((p,w)::P.zip vs) m p=_;unfold bindC;rw[Zu λv c=>(alW.mp nd).1 (asv c).1,if_neg a];simp
 |p::P,w::vs,i+1,m,nd,h1,h2,a=>by
  show bindC kindOf ((p,w)::P.zip vs) m x=_;unfold bindC;show Tf (i:=i) (alW.mp nd).2 (~~~h1) (~~~h2) a
def start(N:List Str)(vs:List V):St:=vs.map some++alM (↥N-↥vs) none
def lY(cc:Bool)(CX:fH)(P:ϰ)(w:Ϯ)(K:ϩ)(mg:MG)(base:ϫ)(N:List Str)(qual:Str)(scope:aiZ)(f:δ)(cd:ε)(A:ϴ)(outer:List Env)(s:ν)(H:Hp)(E:XK):Cx where
 prog:=P
 w:=w
 K:=K
 mg:=mg
 base:=base
 A:=A.deeper (envOfC qual scope ⇑s f cd)
 N:=N
 s₀:=s
 H₀:=H
 env:=envOfC qual scope ⇑s f cd
 outer:=outer
 stack:=envOfC qual scope ⇑s f cd::outer
 ex:=[]
 calm:=cc
 fn:=λ_=>true
 pn:=[]
 xe:=λe s'=>π (ϧ P w) (A.deeper (envOfC qual scope ⇑s f cd)) (leaving (envOfC qual scope ⇑s f cd) e) (λ_ a=>CX outer H s E e a) (λc a=>CX outer H s E c a) s'
def Wt{sc:aiZ}{n:Nat}{x:Str}(h:sc.names.lookup x=↑.cell):∃c,(cellsFrom n sc.names []).lookup x=↑c:=by
 let q:=atq sc.names n [] (.inl h);show akJ.mp q
def acF{CX:fH}{P:ϰ}{w:Ϯ}{K:ϩ}{mg:MG}{base:ϫ}{N ps:List Str}{qual:Str}{scope:aiZ}{f:δ}{cd:ε}{A:ϴ}{outer:List Env}{s s1:ν}{H:Hp}{E:XK}{us:List ε}{vs:List V}(S:Μ N ps scope)(hd:cc=true->A.handled=none)(g:ou P w K mg base A outer s H)(G:↥vs=↥ps)(r:Vals vs us)(x:InCallC s ⇑s (bindL (envOfC qual scope ⇑s f cd).kindOf (ps.zip us) λ_=>none) (cellsFrom (⇑s+1) scope.names []) (bindC (envOfC qual scope ⇑s f cd).kindOf (ps.zip us) λ_=>none) s1):Inv (lY cc CX P w K mg base N qual scope f cd A outer s H E) [] (start N vs) H s1:=by
 let C:↥ps<=↥N:=by have:=congrArg alZ S.pre;rw[ah0]at this;omega
 let#[h1,tk,rfl,o]:=x.done;let j:∀b:δ,b∉(lY cc CX P w K mg base N qual scope f cd A outer s H E).ex:=λb z=>absurd (show b∈([]:List δ)from z) (by simp)
 show#[#[g.mod,S.kind,rfl,rfl,Ϭ _,λy z c h1 h2=>?_,λy hy=>?_,λy c _ h=>?_,hd,Around.frames_deeper g.frames,.inr #[rfl,rfl],λb z=>absurd z (j b),g.bs,g.bsz,λb _ _=>j b,λb z=>absurd z (j b),g.funs,g.frf],
  rfl,g.bare,Un.kept o,#[_,x.toInCall.ns,λi y v h1 h2 I=>?_],λy c h=>#[_,x.cell y c h],g.hok.fresh (Ϭ _),λy c h=>?_,λp l=>absurd (show p∈([]:List (δ×Obj))from l) (by simp),g.hok.kept o,?_]
 .show name_of_addr x.apart (PySem.mem_of_lookup h1) (PySem.mem_of_lookup h2)
 .let hy:scope.names.lookup y=↑.cell\/scope.names.lookup y=↑.free:=hy;obtain hy|hy:=hy
  .show Wt hy
  .show absurd rfl (S.nofree _ (PySem.mem_of_lookup hy))
 .show aqX (x.above y c (PySem.mem_of_lookup h))
 .let hi:i<↥vs:=by
   unfold start at h2;by_cases hi:i<↥vs
   .show hi
   .rw[afZ (~~~hi)]at h2;rw[List.getElem?_replicate]at h2;split at h2<;>cases h2
  let D:vs[i]?=↑v:=by
   unfold start at h2;rw[aed (~~~hi),acj]at h2;cases e:vs[i]? with
   |none=>rw[e]at h2;cases h2
   |some a=>rw[e]at h2;cases h2;rfl
  let#[u,B,F]:=r.get D;let l:ps[i]?=↑y:=by
   rw[<-S.pre,List.getElem?_take_of_lt ()];show h1
  let m:ps.Nodup:=by rw[<-S.pre];show S.nd.sublist (atc _ _)
  show#[u,F,?_];rcases S.par y (aan l)with k|k
  .show .inl #[k,Ri m l B k]
  .let#[c,e]:=Wt (n:=⇑s+1) k;show .inr #[.inl k,c,e,?_];let q:=x.cell y c e;rw[Tf m l B (by show scope.names.lookup y≠_;rw[k];decide)]at q;show q
 .show g.hok.fresh (aqX (x.above y c (PySem.mem_of_lookup h)))
 .unfold start;show _=↥N;rw[aa6,ϭ,asw];omega
def ZS{CX:fH}{P:ϰ}{w:Ϯ}{K:ϩ}{mg:MG}{base:ϫ}{k:Nat}{f:δ}{name qual:Str}{a:Arguments}{body:List Ϩ}{scope:aiZ}{dV kV j pm c ct oc:ε}{an od:Option δ}{z:Array (Option ε)}{N ps:List Str}{sp:Sp}(lk:K.lookup f=some #[oc,od,.func (asx name qual a body scope dV kV j pm an c ct),z])(B:arV K c qual=true)(S:Μ N ps scope)(len:∀vs H Q E,sp vs H Q E->↥vs=↥ps)(g:∀(A:ϴ)(outer:List Env)(s:ν)(H:Hp)(vs:List V)(Q:VK)(E:XK),ϐ cc k (A.deeper (envOfC qual scope ⇑s f c))->sp vs H Q E->
   ∃t,Nr (lY cc CX P w K mg base N qual scope f c A outer s H E) body t/\t {nx:=λ_ H'=>Q .non H',rt:=Q} (start N vs) H):cW P w K mg base CX cc (k+1) f (asx name qual a body scope dV kV j pm an c ct) ps sp:=by
 show#[len,λA outer s H G us vs Q E C l M r m=>?_];let O:=len _ _ _ _ m;let L:K.In s.heap:=l.mod.kin.keeps λb o e=>(l.bs b o e).1
 let D:s.heap.NoLimit:=l.mod.nolimit.keeps λb o e=>(l.bs b o e).1
 let i:∀y∈ps.zip us,scope.names.lookup y.1=↑.local\/(scope.names.lookup y.1=↑.cell/\((cellsFrom (⇑s+1) scope.names []).lookup y.1).isSome=true):=λ⟨n,v⟩ R=>by
  obtain q|q:=S.par n (asv R).1
  .show .inl q
  .show .inr #[q,atq _ _ _ (.inl q)]
 show codeAny_call_function C.depth (L<*lk) rfl S.co S.gen rfl (W.codeRec_of L B) (M _ _ _ _ ?_)*>wpAny_newFunctionEnv_cells S.kind i λenv T s1 x=>?_
 subst T;show#[D.keeps x.toInCall.keep,codeAny_func ?_];let#[t,U,X]:=g A outer s H vs Q E (C.deeper _) m;let I:Inv (lY cc CX P w K mg base N qual scope f c A outer s H E) [] (start N vs) H s1:=acF S C.hd l O r x;show ab9 (U [] s1 (start N vs) H _ I X) (λY s' hs=>?_) λe s' hs=>hs
 let p:∀{σ':St}{H':Hp}{v:V}{u:ε},Inv (lY cc CX P w K mg base N qual scope f c A outer s H E) [] σ' H' s'->RelV v u->Q v H'->CE outer P w H s Q u s':=
  λ{σ' H' v u} J F q=>#[v,H',J.os,J.bare,J.base,J.hok,F,q]
 cases Y with
 |ret u=>
  let#[v,σ',H',J,F,q]:=hs;show p J F q
 |next=>
  let#[σ',H',J,q]:=hs;show p (v:=V.non) (u:=Value.none) J rfl q
 |brk=>
  let#[_,_,_,q]:=hs;show False.elim q
 |cont=>
  let#[_,_,_,q]:=hs;show False.elim q
end _L
namespace _H
open PySem PyProof.Rows
section
variable{prog:ϰ}{w:Ϯ}{A:ϴ}{E:ε->ν->Prop}{s:ν}
def ϊ(n d:Nat):Option Int->Nat
 |none=>d
 |some v=>if v<0 then(v+(n:Int)).toNat else min v.toNat n
theorem zU(n d:Nat):ϊ n d none=d:=rfl
def gA(n d k:Nat):ϊ n d ↑(k:Int)=min k n:=by
 show(if(k:Int)<0 then((k:Int)+(n:Int)).toNat else min (k:Int).toNat n)=min k n;rw[if_neg (),ar5]
def Uh(n d:Nat)(hd:d<=n)(o:Option Int):ϊ n d o<=n:=by
 cases o with
 |none=>show hd
 |some v=>
  show(if v<0 then(v+(n:Int)).toNat else min v.toNat n)<=n;by_cases a:v<0
  .rw[if_pos a];omega
  .rw[if_neg a];show Nat.min_le_right _ _
def ad5(v:Int)(n d:Nat):(if v<0 then max (v+(n:Int)) 0 else min v (n:Int))=((ϊ n d ↑v:Nat):Int):=by
 show(if v<0 then max (v+(n:Int)) 0 else min v (n:Int))=(((if v<0 then(v+(n:Int)).toNat else min v.toNat n):Nat):Int);by_cases a:v<0
 .simp only[if_pos a];omega
 .simp only[if_neg a];omega
end
end _H
namespace _L
open PySem PySem.Spec PyProof.Rows
abbrev TO:=St->Hp->(Option Int->Hp->Prop)->Prop
def PO(X:Cx)(e:Option Ϫ)(t:TO):Prop:=
 ∀(ϵ:List (δ×Obj))(s:ν)(σ:St)(H:Hp)(Q:Option Int->Hp->Prop),Inv X ϵ σ H s->t σ H Q->
  π ∅ X.A (evalPart e X.env) (λu s'=>∃o H',Inv X ϵ σ H' s'/\IsPart u o/\Q o H') X.xe s
def ai2:TO:=λ_ H Q=>Q none H
def aeW(t:TE):TO:=λσ H Q=>t σ H λx H1=>∃i,x=.int i/\Q ↑i H1
section
variable{X:Cx}{e:Ϫ}{te:TE}{lo hi:Option Ϫ}{tl th:TO}{pos p2:Pos}
def anP:PO X none ai2:=by
 intro ϵ s σ H Q I h;rw[evalPart_none];show ϲ #[none,H,I,.none,h]
def aef(h:PE X e te):PO X ↑e (aeW te):=by
 intro ϵ s σ H Q I a;rw[evalPart_some];show υ (h ϵ s σ H _ I a) λu j c=>?_
 let#[x,H1,f,r1,g]:=c;let#[i,rfl,q]:=g;let#[t,rfl]:=r1;show#[↑i,H1,f,.int i t,q]
def Ax(X:Cx)(r:V->Option Int->Option Int->Hp->VK->Prop):Prop:=
 ∀(ϵ:List (δ×Obj))(s:ν)(σ:St)(H:Hp)(x:V)(v a c:ε)(lo hi:Option Int)(sl:δ)(Q:VK),Inv X ϵ σ H s->RelV x v->s.heap.IsSliceOf sl a c .none->IsPart a lo->IsPart c hi->r x lo hi H Q->
  ∃T id,typeLookup (.type T) "__getitem__"=pure ↑(.builtin id)/\s.TypeIs v T/\π ∅ X.A (getItem v (.ref sl)) (EP X ϵ σ Q) X.xe s
def aq(xs:List V)(lo hi:Option Int):List V:=(xs.drop (_H.ϊ ↥xs 0 lo)).take (_H.ϊ ↥xs ↥xs hi-_H.ϊ ↥xs 0 lo)
def Ry(xs:List V)(lo hi:Option Int):↥(aq xs lo hi)<=↥xs:=by
 unfold aq;rw[ah0,af0];omega
end
def jt(n:Nat)(i:Int):Option Nat:=if 0<=i then(if i<n then some i.toNat else none)else if -(n:Int)<=i then some (i+n).toNat else none
def ύ{α:Type}(xs:List α)(i:Int):Option α:=(jt ↥xs i).bind λj=>xs[j]?
def SN{n:Nat}{i:Int}{j:Nat}(h:jt n i=↑j):seqIndex? i n=↑j/\j<n/\ -(n:Int)<=i/\i<n:=by
 unfold jt at h;by_cases a:0<=i
 .rw[if_pos a]at h;by_cases h1:i<n
  .rw[if_pos h1]at h;let e:i.toNat=j:=Option.some.inj h;show#[by rw[seqIndex_of a h1,e],(),(),h1]
  .rw[if_neg h1]at h;cases h
 .rw[if_neg a]at h;by_cases h1: -(n:Int)<=i
  .rw[if_pos h1]at h;let e:(i+n).toNat=j:=Option.some.inj h;show#[by rw[seqIndex_neg () h1,e],(),h1,()]
  .rw[if_neg h1]at h;cases h
def Am{α:Type}{xs:List α}{i:Int}{v:α}(h:ύ xs i=↑v):∃j,seqIndex? i ↥xs=↑j/\xs[j]?=↑v/\j<↥xs/\ -(↥xs:Int)<=i/\i<↥xs:=by
 unfold ύ at h;cases e:jt ↥xs i with
 |none=>rw[e]at h;cases h
 |some j=>
  rw[e]at h;let#[h1,h2,a,c]:=SN e;show#[j,h1,h,h2,a,c]
def ϛ{α:Type}{xs:List α}{j:Nat}{v:α}(h:xs[j]?=↑v):ύ xs (j:Int)=↑v:=by
 let a:j<↥xs:=(aab.mp h).1;let e:jt ↥xs (j:Int)=↑j:=by
  unfold jt;rw[if_pos (),if_pos ()];simp
 unfold ύ;rw[e];show h
def ae0(b:Ϫ):=∀o i,subscripted b false o i=operate [o,i] (getItem o i)
def qO(X:Cx)(r:R2):Prop:=
 ∀(value a:Ϫ)(ϵ:List (δ×Obj))(s:ν)(σ:St)(H:Hp)(x y:V)(v u:ε)(Q:VK),Inv X ϵ σ H s->RelV x v->RelV y u->r x y H Q->
  subscripted a false v u=operate [v,u] (getItem v u)->π ∅ X.A (subscriptTail value a v u) (EP X ϵ σ Q) X.xe s
def HX(X:Cx)(id:String)(r:V->List V->Hp->VK->Prop):Prop:=
 ∀(ϵ:List (δ×Obj))(s:ν)(σ:St)(H:Hp)(x:V)(xs:List V)(v:ε)(us:List ε)(Q:VK),Inv X ϵ σ H s->RelV x v->Vals xs us->r x xs H Q->
  π ∅ X.A (call (.builtin id) (v::us)) (EP X ϵ σ Q) X.xe s
section
variable{X:Cx}{a b:Ϫ}{ta tb:TE}{pos:Pos}
def O4(K:ϩ):R2:=λx y H Q=>∃p xs i v,x=.ref p/\y=.int i/\θ K H p xs/\ύ xs i=↑v/\Q v H
def QS(K:ϩ):R2:=λx y H Q=>∃p xs i v,x=.ref p/\y=.int i/\ψ K H p xs/\ύ xs i=↑v/\Q v H
def Ow:R2:=λx y H Q=>∃z i c,x=.str z/\y=.int i/\↥z<=ϱ/\ύ z.cps.toList i=↑c/\Q (.str #[#v[c]]) H
def acX:qO X (O4 X.K):=by
 intro value c ϵ s σ H x y v u Q I rx ry h hs;let#[p,xs,i,z,rfl,rfl,m,n,q]:=h;cases rx;let#[t,rfl]:=ry;let#[o,r,pl,E]:=I.list m;let#[j,h1,h2,F,B,C]:=Am n;let#[w,g,e]:=r.get h2;let D:=↥r;let G:=pC;let a:EP X ϵ σ Q w s:=#[z,H,I,e,q];by_cases l:0<=i
 .let f:i.toNat=j:=by
   rw[seqIndex_of l C]at h1;show Option.some.inj h1
  show item_listR pl.isList l () (by rw[f];simpa using g) a hs
 .let f:(i+(o.toArray.size:Int)).toNat=j:=by
   rw[seqIndex_neg () B]at h1;rw[aaq, <-D];show Option.some.inj h1
  show subscriptTail_builtinR (x:=w) pl.isList.typeIs slot_list_getitem.lookup
   (wpAny_getItem_list_neg (Q:=λr s'=>r=w/\EP X ϵ σ Q r s') pl.isList () (by rw[aaq]<;>omega) () (by rw[f];simpa using g) #[rfl,a]) hs
def abl:qO X (QS X.K):=by
 intro value a ϵ s σ H x y v u Q I rx ry h hs;let#[p,xs,i,z,rfl,rfl,f,g,q]:=h;cases rx;let#[t,rfl]:=ry;let#[n,r,pl,o]:=I.tuple f;let#[j,h1,h2,B,C,D]:=Am g;let#[w,l,c]:=r.get h2;let m:=↥r;let E:=pC;let e:EP X ϵ σ Q w s:=#[z,H,I,c,q];show subscriptTail_builtinR (x:=w) pl.typeIs slot_tuple_getitem.lookup
  (getItem_tuple (j:=j) (Q:=λr s'=>r=w/\EP X ϵ σ Q r s') pl () () (by rw[aaq, <-m];show h1) (~~~l) #[rfl,e]) hs
def ais:qO X Ow:=by
 intro value a ϵ s σ H x y v u Q I rx ry h hs;let#[z,i,c,rfl,rfl,n,e,q]:=h;let#[t,rfl]:=rx;let#[t',rfl]:=ry;let#[j,h1,h2,o,f,g]:=Am e;let l:↥z.cps.toList=↥z:=by simp[arN]
 rw[l]at h1 f g;let p:=pC;show tail_any (typeIs_str s z t) slot_str_getitem.lookup (getItem_str (c:=c) (by
  let e1:decide (i< -(2^63:Int))=false:=decide_eq_false ();let m:decide (i≥2^63)=false:=decide_eq_false ();rw[e1,m,as4]) (by rw[h1];simpa using h2) #[.str #[#v[c]],H,I.tok _,#[_,rfl],q]) hs
def abD(a:List ε)(n j:Nat)(u:ε):Obj.mapSeq (·.setIfInBounds j u) {cls:=.type "list",data:=.seq a.toArray n}={cls:=.type "list",data:=.seq (a.set j u).toArray n}:=by
 simp[Obj.mapSeq]
def Inv.lst{ϵ:List (δ×Obj)}{σ:St}{H:Hp}{s:ν}{p:δ}{xs:List V}(I:Inv X ϵ σ H s)(h:H p=↑(.lst xs)):∃(a:List ε)(n:Nat),Vals xs a/\s.heap.get? p=some {cls:=.type "list",data:=.seq a.toArray n}/\↥xs<=ϱ:=by
 let#[z,a,n,r,e]:=I.hok p _ h;show#[a,n,r,e,z]
def Inv.lstUpd{ϵ:List (δ×Obj)}{σ:St}{H:Hp}{s:ν}{p:δ}{xs ys:List V}{c its':List ε}{n a:Nat}{f:Obj->Obj}(I:Inv X ϵ σ H s)(h:H p=↑(.lst xs))(i:s.heap.get? p=some {cls:=.type "list",data:=.seq c.toArray n})(g:f {cls:=.type "list",data:=.seq c.toArray n}={cls:=.type "list",data:=.seq its'.toArray a})(r:Vals ys its')(j:↥ys<=ϱ)(t:Nat):Inv X ϵ σ (upd H p (.lst ys)) {s with heap:=s.heap.update p f,toks:=t}:=by
 let e:(s.heap.update p f).get? p=some {cls:=.type "list",data:=.seq its'.toArray a}:=by
  rw[adZ f i (by rw[g]<;>rfl),g]
 show I.write (x:=p) (e:=p) (by rw[h];trivial) (.inl rfl) (λb u l q=>(aaK<*(Ne.symm l)).trans q) #[_,e] ?_*>#[j,its',a,r,e]
def anB:V->V->V->Hp->(Hp->Prop)->Prop:=λo i v H Q=>∃p xs k j,o=.ref p/\i=.int k/\H p=↑(.lst xs)/\jt ↥xs k=↑j/\Q (upd H p (.lst (xs.set j v)))
def set_list:Z0 X anB:=by
 intro ϵ s σ H o i v F G u Q I z B C h;let#[p,xs,k,j,rfl,rfl,f,D,q]:=h;cases z;let#[t,rfl]:=B;let#[g,n,r,a,E]:=I.lst f;let#[h1,h2,l,m]:=SN D;let c:=↥r;let J:=pC;let x:Inv X ϵ σ (upd H p (.lst (xs.set j v))) {s with heap:=s.heap.update p (Obj.mapSeq (·.setIfInBounds j u))}:=
  I.lstUpd f a (abD g n j u) (r.set C j) (by rw[asy];show E) s.toks
 by_cases y:0<=k
 .let e:k.toNat=j:=by
   rw[seqIndex_of y m]at h1;show Option.some.inj h1
  show W.ki_setAt a y () (by rw[aaq, <-c];show m) (by rw[e];show#[_,x,q])
 .let e:(k+(g.toArray.size:Int)).toNat=j:=by
   rw[seqIndex_neg () l]at h1;rw[aaq, <-c];show Option.some.inj h1
  show W.ki_setBack a () (by rw[aaq, <-c];show l) () (by rw[e];show#[_,x,q])
def anj(lo hi:Option Int)(n:Nat):(sliceBounds lo hi none n).1=((_H.ϊ n 0 lo:Nat):Int)/\(sliceBounds lo hi none n).2.1=((_H.ϊ n n hi:Nat):Int)/\(sliceBounds lo hi none n).2.2=1:=by
 show#[?_,?_,rfl]
 .cases lo with
  |none=>simp[sliceBounds,_H.ϊ]
  |some i=>
   simp only[sliceBounds,_H.ϊ,atr,show(1:Int)>0 by decide,if_true];by_cases h:i<0
   .simp only[h,if_true]<;>omega
   .simp only[h,if_false]<;>omega
 .cases hi with
  |none=>simp[sliceBounds,_H.ϊ]
  |some i=>
   simp only[sliceBounds,_H.ϊ,atr,show(1:Int)>0 by decide,if_true];by_cases h:i<0
   .simp only[h,if_true]<;>omega
   .simp only[h,if_false]<;>omega
def adT(a:List ε)(lo hi:Option Int):slicePick a.toArray lo hi none=((a.drop (_H.ϊ ↥a 0 lo)).take (_H.ϊ ↥a ↥a hi-_H.ϊ ↥a 0 lo)).toArray:=by
 let#[h1,h2,c]:=anj lo hi a.toArray.size;unfold slicePick;rw[h1,h2,c];simp only[sliceRange_one,pick_run,aaq]<;>rfl
def ahF(K:ϩ):V->Option Int->Option Int->Hp->VK->Prop:=λx lo hi H Q=>∃a xs,x=.ref a/\θ K H a xs/\∀p,H p=none->Q (.ref p) (upd H p (.lst (aq xs lo hi)))
def acC:Ax X (ahF X.K):=by
 intro ϵ s σ H x v j l lo hi sl Q I rx hs pl f h;let#[a,xs,rfl,g,q]:=h;cases rx;let#[m,r,e,i]:=I.list g;let c:=↥r;show#["list",_,slot_list_getitem.lookup,e.isList.typeIs,?_]*>wpAny_getItem_list_slice e.isList hs pl f .none (by simp) ?_ (by rw[aaq]<;>omega);rw[adT, <-c];show#[.ref ⇑s,_,I.laid (t':=s.toks) (o:=.lst (aq xs lo hi)) (λb n q=>aai _ q) (Ϭ _) ?_,rfl,q _ (I.hok.fresh (Ϭ _))]*>#[adQ (Ry xs lo hi) i,_,0,(r.drop (_H.ϊ ↥xs 0 lo)).take (_H.ϊ ↥xs ↥xs hi-_H.ϊ ↥xs 0 lo),abM _ rfl]
def d8:V->Bool
 |.non=>true
 |.bl _=>true
 |.int _=>true
 |.str _=>true
 |_=>false
def cF:V->V->Bool
 |.non,.non=>true
 |.bl a,.bl b=>a==b
 |.bl a,.int b=>(if a then 1 else 0)==b
 |.int a,.bl b=>a==(if b then 1 else 0)
 |.int a,.int b=>a==b
 |.str a,.str b=>a==b
 |_,_=>false
def afq{A:ϴ}{s:ν}{y x:V}{u v:ε}(ry:RelV y u)(rx:RelV x v)(e:d8 y=true)(c:d8 x=true):SeqAt.EqAt A s u v (cF y x):=by
 cases y with
 |non=>
  cases ry;cases x with
  |non=>cases rx;show SeqAt.EqAt.same _
  |bl b=>cases rx;show SeqAt.EqAt.none_bool b
  |int b=>let#[t,rfl]:=rx;show SeqAt.EqAt.none_int b t
  |str b=>let#[t,rfl]:=rx;show SeqAt.EqAt.none_str b t
  |_=>show absurd (show false=true from c) aaP
 |bl a=>
  cases ry;cases x with
  |non=>cases rx;show SeqAt.EqAt.bool_none a
  |bl b=>cases rx;show SeqAt.EqAt.bool_bool a b
  |int b=>let#[t,rfl]:=rx;show SeqAt.EqAt.bool_int a b t
  |str b=>let#[t,rfl]:=rx;show SeqAt.EqAt.bool_str a b t
  |_=>show absurd (show false=true from c) aaP
 |int a=>
  let#[t',rfl]:=ry;cases x with
  |non=>cases rx;show SeqAt.EqAt.int_none a t'
  |bl b=>cases rx;show SeqAt.EqAt.int_bool a t' b
  |int b=>let#[t,rfl]:=rx;show SeqAt.EqAt.int_int a t' b t
  |str b=>let#[t,rfl]:=rx;show SeqAt.EqAt.int_str a t' b t
  |_=>show absurd (show false=true from c) aaP
 |str a=>
  let#[t',rfl]:=ry;cases x with
  |non=>cases rx;show SeqAt.EqAt.str_none a t'
  |bl b=>cases rx;show SeqAt.EqAt.str_bool a t' b
  |int b=>let#[t,rfl]:=rx;show SeqAt.EqAt.str_int a t' b t
  |str b=>let#[t,rfl]:=rx;show SeqAt.EqAt.str_str a t' b t
  |_=>show absurd (show false=true from c) aaP
 |_=>show absurd (show false=true from e) aaP
def dG(x:V)(u:ε):Bool:=match u with
 |.none=>cF .non x
 |.bool b=>cF (.bl b) x
 |.int i _=>cF (.int i) x
 |.str z _=>cF (.str z) x
 |_=>false
def Uv{x y:V}{u:ε}(r:RelV y u)(f:d8 y=true):dG x u=cF y x:=by
 cases y with
 |non=>cases r;rfl
 |bl b=>cases r;rfl
 |int i=>let#[t,rfl]:=r;rfl
 |str z=>let#[t,rfl]:=r;rfl
 |_=>show absurd (show false=true from f) aaP
theorem wG{x:V}:∀{xs:List V}{us:List ε},Vals xs us->xs.all d8=true->us.any (dG x)=xs.any λy=>cF y x
 |_,_,.nil,_=>rfl
 |y::xs,u::us,.cons r t,f=>by
  rw[ase,aa9]at f;rw[aqd,aqd,Uv r f.1,wG t f.2]
theorem ue{A:ϴ}{s:ν}{x:V}{v:ε}(rx:RelV x v)(a:d8 x=true):∀{xs:List V}{us:List ε},Vals xs us->xs.all d8=true->∀u∈us,SeqAt.EqAt A s u v (dG x u)
 |_,_,.nil,_=>λu hu=>by cases hu
 |y::xs,u::us,.cons r t,f=>λc hu=>by
  rw[ase,aa9]at f;obtain rfl|hu:=aaz.mp hu
  .rw[Uv r f.1];show afq r rx f.1 a
  .show ue rx a t f.2 c hu
def bc(x:V)(xs:List V):Bool:=xs.any λy=>cF y x
def ZV(K:ϩ)(a:Bool):R2:=λx y H Q=>∃p xs,y=.ref p/\(θ K H p xs\/ψ K H p xs)/\d8 x=true/\xs.all d8=true/\Q (.bl (if a then !bc x xs else bc x xs)) H
def agB:aV X (adA .In) (ZV X.K false):=by
 intro ϵ s σ H x y v u Q I rx ry h;let#[p,xs,rfl,hq,e,fs,q]:=h;cases ry;obtain hq|hq:=hq
 .let#[a,r,pl,f]:=I.list hq;show SeqAt.in_listAt (dG x) pl.isList (λw c=>ue rx e r fs w (~~~c)) #[.bl _,H,I,rfl,?_];rw[show a.toArray.any (dG x)=a.any (dG x)by simp,wG r fs];show q
 .let#[a,r,pl,f]:=I.tuple hq;show SeqAt.in_tupleAt (dG x) pl (λw c=>ue rx e r fs w (~~~c)) #[.bl _,H,I,rfl,?_];rw[show a.toArray.any (dG x)=a.any (dG x)by simp,wG r fs];show q
def Og:aV X (adA .NotIn) (ZV X.K true):=by
 intro ϵ s σ H x y v u Q I rx ry h;let#[p,xs,rfl,hq,e,fs,q]:=h;cases ry;obtain hq|hq:=hq
 .let#[a,r,pl,f]:=I.list hq;show SeqAt.notIn_listAt (dG x) pl.isList (λw c=>ue rx e r fs w (~~~c)) #[.bl _,H,I,rfl,?_];rw[show a.toArray.any (dG x)=a.any (dG x)by simp,wG r fs];show q
 .let#[a,r,pl,f]:=I.tuple hq;show SeqAt.notIn_tupleAt (dG x) pl (λw c=>ue rx e r fs w (~~~c)) #[.bl _,H,I,rfl,?_];rw[show a.toArray.any (dG x)=a.any (dG x)by simp,wG r fs];show q
def amB:iY X (.builtin "len") (λxs H Q=>∃p ys,xs=[.ref p]/\(θ X.K H p ys\/ψ X.K H p ys)/\Q (.int ↥ys) H):=by
 intro ϵ s σ H xs us Q I r h;let#[p,ys,rfl,hq,q]:=h;let#[u,rfl,rx]:=vals1 r;cases rx;let g:=pC;obtain hq|hq:=hq
 .let#[e,c,pl,f]:=I.list hq;let a:=↥c;show Calls.call_len_list pl.isList (by simp only[aaq]<;>omega) #[.int ↥ys,H,I.tok _,#[s.toks+1,by rw[aaq,a]],q]
 .let#[e,c,pl,f]:=I.tuple hq;let a:=↥c;show len_tuple pl (by simp only[aaq]<;>omega) #[.int ↥ys,H,I.tok _,#[s.toks+1,by rw[aaq,a]],q]
def ajx:iY X (.builtin "len") (λxs H Q=>∃z,xs=[.str z]/\↥z<=ϱ/\Q (.int ↥z) H):=by
 intro ϵ s σ H xs us Q I r h;let#[z,rfl,a,q]:=h;let#[u,rfl,t,rfl]:=vals1 r;let c:=pC;show len_str () #[.int ↥z,H,I.tok _,#[_,rfl],q]
def akG:iY X (.type "list") (λxs H Q=>∃p ys,xs=[.ref p]/\(θ X.K H p ys\/ψ X.K H p ys)/\∀l,H l=none->Q (.ref l) (upd H l (.lst ys))):=by
 intro ϵ s σ H xs us Q I r h;let#[p,ys,rfl,hq,q]:=h;let#[u,rfl,rx]:=vals1 r;cases rx
 let g:∀(a:List ε),Vals ys a->↥ys<=ϱ->∀(h':ϫ)(c:Nat),(∀b o',s.heap.get? b=↑o'->h'.get? b=↑o')->
   h'.get? ⇑s=some {cls:=.type "list",dict:=none,data:=.seq a.toArray c,slots:= #v[]}->EP X ϵ σ Q (.ref ⇑s) {s with heap:=h'}:=λa f i h' c kp e=>
  #[.ref ⇑s,_,I.laid (t':=s.toks) kp (Ϭ _) (show Ϟ X.prog X.w _ h' _ (.lst ys)from#[i,a,c,f,e]),rfl,q _ (I.hok.fresh (Ϭ _))]
 obtain hq|hq:=hq
 .let#[a,f,pl,i]:=I.list hq;let j:=↥f;let#[o,m,v,n,hd]:=pl.isList;show call_list_seq p (.inl rfl) m v hd (λh' c kp e=>g a f i h' c kp e) (by simp only[aaq]<;>omega)
 .let#[a,f,pl,i]:=I.tuple hq;let j:=↥f;let#[o,m,v,n,hd]:=pl;show call_list_seq p (.inr rfl) m v hd (λh' c kp e=>g a f i h' c kp e) (by simp only[aaq]<;>omega)
def agF:iY X (.type "tuple") (λxs H Q=>∃p ys,xs=[.ref p]/\((θ X.K H p ys/\∀l,H l=none->Q (.ref l) (upd H l (.tup ys)))\/(ψ X.K H p ys/\Q (.ref p) H))):=by
 intro ϵ s σ H xs us Q I r h;let#[p,ys,rfl,h]:=h;let#[u,rfl,rx]:=vals1 r;cases rx;obtain⟨a,q⟩|⟨a,q⟩:=h
 .let#[c,f,pl,g]:=I.list a;let i:=↥f;show call_tuple_list pl.isList (λh' kp=>?_) (by simp only[aaq]<;>omega);let j:Inv X ϵ σ H {s with heap:=h'}:=I.kept (t':=s.toks) kp;let m:Inv X ϵ σ (upd H h'.objs.size (.tup ys)) {s with heap:=h'.push {cls:=.type "tuple",data:=.seq c.toArray}}:=
   j.laid (t':=s.toks) (λb o e=>aai _ e) (Ϭ _) (show Ϟ X.prog X.w _ _ _ (.tup ys)from#[g,c,f,IsTup.new _ _])
  show#[.ref h'.objs.size,_,m,rfl,q _ (j.hok.fresh (Ϭ _))]
 .let#[c,f,pl,g]:=I.tuple a;show call_tuple_same pl #[.ref p,H,I,rfl,q]
def v7(K:ϩ)(T:String)(x:V)(H:Hp):Prop:=match x with
 |.str _=>T="str"
 |.int _=>T="int"
 |.ref p=>(T="list"/\∃xs,θ K H p xs)\/(T="tuple"/\∃o,K.lookup p=↑o/\o.cls=.type "tuple"/\o.dict=none)\/
   (T="dict"/\((∃Ϸ,H p=↑(.dK Ϸ))\/False))\/(T="set"/\False)
 |_=>False
def acw{ϵ:List (δ×Obj)}{σ:St}{H:Hp}{s:ν}{T:String}{x:V}{v:ε}(I:Inv X ϵ σ H s)(r:RelV x v)(ty:v7 X.K T x H):s.TypeIs v T/\∀a,v=.ref a->∃f,s.heap.get? a=↑f/\f.dict=none:=by
 cases x with
 |str z=>
  let#[t,rfl]:=r;cases(show T="str" from ty);show#[typeIs_str s z t,λ_ e=>nomatch e]
 |int i=>
  let#[t,rfl]:=r;cases(show T="int" from ty);show#[typeIs_int s i t,λ_ e=>nomatch e]
 |ref p=>
  cases r;obtain⟨rfl,xs,g⟩|⟨rfl,o,hk,j,hd⟩|⟨rfl,hk⟩|⟨_,hk⟩:=ty
  .let#[m,_,pl,_]:=I.list g;show#[pl.isList.typeIs,λa e=>?_];cases e;let#[o,n,e,c,hd,_]:=pl;show#[o,e,hd]
  .show#[#[o,I.kIn p o hk,j],λa e=>?_];cases e;show#[o,I.kIn _ o hk,hd]
  .let z:∃o,s.heap.get? p=↑o/\o.ExactDict:=by
    obtain⟨Ϸ,hk⟩|hk:=hk
    .let#[_,_,_,_,o,_,_,e,ex,_]:=I.hok p _ hk;show#[o,e,ex]
    .show hk.elim
   let#[o,e,ex]:=z;show#[#[o,e,ex.1],λa l=>?_];cases l;show#[o,e,ex.2.1]
  .show hk.elim
 |_=>show False.elim ty
variable{o e:Ϫ}{es:List Ϫ}{to:TE}{t:TA}{name:Str}{apos cpos:Pos}{T id:String}{r:V->List V->Hp->VK->Prop}
end
def Fv(X:Cx)(id:String)(r:V->List V->Hp->VK->Prop):Prop:=
 ∀(ϵ:List (δ×Obj))(s:ν)(σ:St)(H:Hp)(x:V)(xs:List V)(v:ε)(us:List ε)(Q:VK),Inv X ϵ σ H s->RelV x v->Vals xs us->r x xs H Q->
  π ∅ X.A (call (.builtin id) (v::us)) (EP X ϵ σ Q) X.xe s
theorem Vals.one{x:V}{us:List ε}(h:Vals [x] us):∃u,us=[u]/\RelV x u:=vals1 h
theorem Vals.two{x y:V}{us:List ε}(h:Vals [x,y] us):∃u v,us=[u,v]/\RelV x u/\RelV y v:=vals2 h
theorem Vals.zero:∀{us:List ε},Vals [] us->us=[]
 |_,.nil=>rfl
theorem Vals.eraseIdx:∀{xs:List V}{us:List ε}(i:Nat),Vals xs us->Vals (xs.eraseIdx i) (us.eraseIdx i)
 |_,_,_,.nil=>.nil
 |_,_,0,.cons _ t=>t
 |_,_,i+1,.cons r t=>.cons r (Vals.eraseIdx i t)
theorem R0{α:Type}:∀(l:List α)(i:Nat),↥(l.eraseIdx i)<=↥l
 |[],_=>Ϭ _
 |_::_,0=>aoF _
 |_::r,i+1=>asm (R0 r i)
section
variable{X:Cx}{ϵ:List (δ×Obj)}{σ:St}{H:Hp}{s:ν}{l b:δ}{xs ys zs:List V}
def Inv.lset{a its':List ε}{n:Nat}{f:Array ε->Array ε}{t':Nat}(I:Inv X ϵ σ H s)(c:H l=↑(.lst xs))(e:s.heap.get? l=some {cls:=.type "list",data:=.seq a.toArray n})(g:f a.toArray=its'.toArray)(i:Vals ys its')(j:↥ys<=ϱ):Inv X ϵ σ (upd H l (.lst ys)) {s with heap:=s.heap.update l (Obj.mapSeq f),toks:=t'}:=by
 let q:=PySem.IsL.update e f;rw[g]at q;show I.write (x:=l) (e:=l) (by rw[c];show trivial) (.inl rfl) (λp u m o=>(aaK s.heap (Obj.mapSeq f) (Ne.symm m)).trans o) #[_,q] ?_*>#[j,its',_,i,q]
theorem Inv.lnew{a:List ε}{t':Nat}(I:Inv X ϵ σ H s)(c:Vals ys a)(e:↥ys<=ϱ):Inv X ϵ σ (upd H ⇑s (.lst ys)) {s with heap:=s.heap.push {cls:=.type "list",data:=.seq a.toArray},toks:=t'}:=
 I.laid (λ_ _ q=>aai _ q) (Ϭ _) #[e,a,0,c,abM _ rfl]
theorem Inv.fresh(I:Inv X ϵ σ H s):H ⇑s=none:=I.hok.fresh (Ϭ _)
def Inv.lstM(I:Inv X ϵ σ H s)(c:H l=↑(.lst xs)):↥xs<=ϱ/\∃(a:List ε)(n:Nat),Vals xs a/\↥xs=↥a/\s.heap.get? l=some {cls:=.type "list",data:=.seq a.toArray n}:=by
 let#[z,a,n,r,e]:=I.hok l _ c;show#[z,a,n,r,↥r,e]
end
section
variable{X:Cx}
def adP:V->List V->Hp->VK->Prop:=λx vs H Q=>∃l xs y,x=.ref l/\vs=[y]/\H l=↑(.lst xs)/\↥xs<ϱ/\Q .non (upd H l (.lst (xs++[y])))
def lL:Fv X "list.append" adP:=by
 intro ϵ s σ H x vs v us Q I rx f h;let#[l,xs,y,rfl,rfl,a,i,q]:=h;cases rx;let#[u,rfl,g]:=f.one;let#[z,c,n,r,j,e]:=I.lstM a;show ame F.slot_list_append #[_,e,rfl] F.entry_list_append (F.args_list_append_2 _ _) (PySem.list_append l c.toArray n u (by rw[aaq];omega)) #[e,?_]*>#[.non,_,I.lset (its':=c++[u]) a e (by simp) (r.append (.cons g .nil)) ?_,rfl,q];rw[aa6,ahi];omega
def af1:V->List V->Hp->VK->Prop:=λx vs H Q=>∃l xs i k y,x=.ref l/\vs=[.int i]/\H l=↑(.lst xs)/\ -(2^63)<=i/\i<2^63/\seqIndex? i ↥xs=↑k/\xs[k]?=↑y/\Q y (upd H l (.lst (xs.eraseIdx k)))
def ahh:Fv X "list.pop" af1:=by
 intro ϵ s σ H x vs v us Q I rx g h;let#[l,xs,i,k,y,rfl,rfl,f,h1,h2,j,m,q]:=h;cases rx;let#[u,rfl,o]:=g.one;let#[t,rfl]:=o;let#[z,a,n,r,p,e]:=I.lstM f;let#[w,B,c]:=r.get m;show ame F.slot_list_pop #[_,e,rfl] F.entry_list_pop (F.args_list_pop_2 _ _)
  (MeetsSeq.list_pop_at l a.toArray n i t k w (fitsIndex_both h1 h2) (by rw[aaq, <-p];show j) (by rw[<-aoI];show B) (by rw[aaq];omega)) #[e,?_]
 show#[y,_,I.lset (its':=a.eraseIdx k) f e ?_ (r.eraseIdx k) ?_,c,q]
 .show a.toArray.eraseIdxIfInBounds k=(a.eraseIdx k).toArray;rw[List.eraseIdxIfInBounds_toArray]
 .have :=R0 xs k;omega
def afW:R2:=λx y H Q=>∃l b xs zs,x=.ref l/\y=.ref b/\H l=↑(.lst xs)/\H b=↑(.lst zs)/\↥xs+↥zs<=ϱ/\∀p,H p=none->Q (.ref p) (upd H p (.lst (xs++zs)))
def abX:aV X (binaryOp .Add) afW:=by
 intro ϵ s σ H x y v u Q I rx ry h;let#[l,b,xs,zs,rfl,rfl,f,g,p,q]:=h;cases rx;cases ry;let#[z,c,n,r,B,e]:=I.lstM f;let#[C,a,D,i,j,m]:=I.lstM g;show PySem.P.add_list e m ?_ (by rw[aaq,aaq];omega);let o:c.toArray++a.toArray=(c++a).toArray:=by simp
 rw[o];show#[.ref _,_,I.lnew (t':=s.toks) (r.append i) (by rw[aa6];omega),rfl,q _ I.fresh]
end
section
variable{κ:Type} [DecidableEq κ]
def aX(Ϸ:List (κ×V))(k:κ):Option V:=(Ϸ.find? λa=>decide (a.1=k)).map (·.2)
def putK(Ϸ:List (κ×V))(k:κ)(v:V):List (κ×V):=
 if(Ϸ.any λa=>decide (a.1=k))=true then Ϸ.map (λa=>if a.1=k then(a.1,v)else a)else Ϸ++[(k,v)]
def gW(Ϸ:List (κ×V))(k:κ):List (κ×V):=Ϸ.filter λa=>decide (a.1≠k)
def akx{p:κ×V}{r:List (κ×V)}{k:κ}(e:p.1=k):aX (p::r) k=↑p.2:=by simp[aX,al9,e]
def ajn{p:κ×V}{r:List (κ×V)}{k:κ}(e:¬p.1=k):aX (p::r) k=aX r k:=by simp[aX,al9,e]
def aev(Ϸ:List (κ×V))(k:κ)(v:V):↥(putK Ϸ k v)<=↥Ϸ+1:=by
 unfold putK;split
 .rw[ϭ];omega
 .rw[aa6,aap,atH];omega
def cN.isSome_eq{o:Option V}{u:Option ε}(r:cN o u):o.isSome=u.isSome:=by
 cases o with
 |none=>cases u with
  |none=>rfl
  |some _=>show(show False from r).elim
 |some _=>cases u with
  |none=>show(show False from r).elim
  |some _=>rfl
def cN.getD{o:Option V}{u:Option ε}{d:V}{d':ε}(r:cN o u)(rd:RelV d d'):RelV (o.getD d) (u.getD d'):=by
 cases o with
 |none=>cases u with
  |none=>show rd
  |some _=>show(show False from r).elim
 |some _=>cases u with
  |none=>show(show False from r).elim
  |some _=>show r
def KV.val{Ϸ:List (κ×V)}{vs:List (κ×ε)}(r:KV Ϸ vs)(k:κ):cN (aX Ϸ k) (valueAt vs k):=by
 unfold KV at r;induction r with
 |nil=>show True.intro
 | @cons p q ps a h t f=>
   let#[h1,h2]:=h;by_cases e:p.1=k
   .let c:q.1=k:=h1.symm<|>e;let b:valueAt (q::a) k=↑q.2:=by simp[valueAt,al9,c]
    rw[akx e,b];show h2
   .let c:¬q.1=k:=λz=>e (h1<|>z)
    let b:valueAt (q::a) k=valueAt a k:=by simp[valueAt,al9,c]
    rw[ajn e,b];show f
def KV.any{Ϸ:List (κ×V)}{vs:List (κ×ε)}(r:KV Ϸ vs)(k:κ):(Ϸ.any λa=>decide (a.1=k))=vs.any λa=>decide (a.1=k):=by
 unfold KV at r;induction r with
 |nil=>rfl
 |cons h t c=>rw[aqd,aqd,c,h.1]
def KV.repl{Ϸ:List (κ×V)}{vs:List (κ×ε)}(r:KV Ϸ vs)(k:κ){y:V}{u:ε}(ry:RelV y u):KV (Ϸ.map λa=>if a.1=k then(a.1,y)else a) (vs.map λa=>if a.1=k then(a.1,u)else a):=by
 unfold KV at r⊢;induction r with
 |nil=>show .nil
 | @cons p q ps f h t c=>
   rw[acz,acz];show .cons ?_ c;let#[h1,h2]:=h;by_cases e:p.1=k
   .rw[if_pos e,if_pos (h1.symm<|>e)];show#[h1,ry]
   .rw[if_neg e,if_neg (λz=>e (h1<|>z))];show#[h1,h2]
def KV.put{Ϸ:List (κ×V)}{vs:List (κ×ε)}(r:KV Ϸ vs)(k:κ){y:V}{u:ε}(ry:RelV y u):KV (putK Ϸ k y) (stored vs k u):=by
 unfold putK stored;rw[r.any k];by_cases e:(vs.any λa=>decide (a.1=k))=true
 .rw[if_pos e,if_pos e];show r.repl k ry
 .rw[if_neg e,if_neg e];show Paired.snoc r #[rfl,ry]
def KV.drop{Ϸ:List (κ×V)}{vs:List (κ×ε)}(r:KV Ϸ vs)(k:κ):KV (gW Ϸ k) (without vs k):=by
 unfold KV at r⊢;unfold gW without;induction r with
 |nil=>show .nil
 | @cons p q ps g h t c=>
   let#[h1,h2]:=h;rw[arw,arw];by_cases e:p.1=k
   .let a:¬decide (p.1≠k)=true:=by simp[e]
    let b:¬decide (q.1≠k)=true:=by simp[h1.symm<|>e]
    rw[if_neg a,if_neg b];show c
   .let f:¬q.1=k:=λz=>e (h1<|>z)
    let a:decide (p.1≠k)=true:=by simp[e]
    let b:decide (q.1≠k)=true:=by simp[f]
    rw[if_pos a,if_pos b];show .cons #[h1,h2] c
def KV.keys{Ϸ:List (κ×V)}{vs:List (κ×ε)}(r:KV Ϸ vs):Ϸ.map (·.1)=vs.map (·.1):=by
 unfold KV at r;induction r with
 |nil=>rfl
 |cons h t a=>rw[acz,acz,a,h.1]
theorem KV.length{Ϸ:List (κ×V)}{vs:List (κ×ε)}(r:KV Ϸ vs):↥Ϸ=↥vs:=Paired.length r
theorem aeY(Ϸ:List (κ×V))(k:κ):↥(gW Ϸ k)<=↥Ϸ:=aji _ _
end
def qi{P:ϰ}{w:Ϯ}{k:Key}{u:ε}(r:RelV (kV k) u):(jn P w).is k u=true:=by
 cases k with
 |inl i=>let#[t,e]:=(show ∃t,u=Value.int i t from r);subst e;show anm P w i t
 |inr x=>let#[t,e]:=(show ∃t,u=Value.str x t from r);subst e;show agv P w x t
section
variable{P:ϰ}{w:Ϯ}{H:Hp}{h:ϫ}{a:δ}
theorem ake{u:HO}(ok:aG P w H h)(e:Rd H a u):Ϟ P w H h a u:=e.ok ok
theorem mV{Ϸ:List (Key×V)}(ok:aG P w H h)(e:Rd H a (.dK Ϸ)):↥Ϸ<=ϱ/\(a==sysModules)=false/\∃vs,KV Ϸ vs/\h.DictOf (jn P w) a vs:=
 show Ϟ P w H h a (.dK Ϸ)from ake ok e
theorem Ew{Ϸ:List (Key×V)}(ok:aG P w H h)(e:H a=↑(.dK Ϸ)):↥Ϸ<=ϱ/\(a==sysModules)=false/\∃vs,KV Ϸ vs/\h.DictOf (jn P w) a vs:=mV ok (.inl e)
end
def aQ(H:Hp)(a:δ)(y:V)(r:Option V):Prop:=
 (∃Ϸ k,Rd H a (.dK Ϸ)/\y=kV k/\r=aX Ϸ k)\/False
def jD(H:Hp)(a:δ)(y v:V)(H':Hp):Prop:=
 (∃Ϸ k,H a=↑(.dK Ϸ)/\y=kV k/\↥Ϸ<ϱ/\H'=upd H a (.dK (putK Ϸ k v)))\/False
theorem aQ.k{H:Hp}{a:δ}{Ϸ:List (Key×V)}{k:Key}(e:H a=↑(.dK Ϸ)):aQ H a (kV k) (aX Ϸ k):=.inl #[Ϸ,k,.inl e,rfl,rfl]
theorem jD.k{H:Hp}{a:δ}{Ϸ:List (Key×V)}{k:Key}{v:V}(e:H a=↑(.dK Ϸ))(c:↥Ϸ<ϱ):jD H a (kV k) v (upd H a (.dK (putK Ϸ k v))):=.inl #[Ϸ,k,e,rfl,c,rfl]
section
variable{X:Cx}{ϵ:List (δ×Obj)}{σ:St}{H:Hp}{s:ν}{a:δ}{y v:V}{u r:ε}{o:Option V}{A:ϴ}{E:ε->ν->Prop}
def Inv.big(I:Inv X ϵ σ H s):sysModules<⇑s:=by
 let h:mainGlobals<⇑s:=(I.mod.glob.keeps I.bk).lt;show Nat.lt_trans (by decide) h
def Ob{Q:ε->ν->Prop}(n:A.units+1<cLine)(I:Inv X ϵ σ H s)(g:aQ H a y ↑v)(ry:RelV y u)(h:∀c s',Inv X ϵ σ H s'->RelV v c->Q c s'):π ∅ A (getItem (.ref a) u) Q E s:=by
 obtain⟨Ϸ,k,e,j,l⟩|hF:=g
 .subst j;let#[z,hd,vs,f,dd]:=mV I.hok e;let#[c,m,i]:=cN.some_of (v:=v) (o:=valueAt vs k) (by rw[l];show f.val k);show wpAny_getItem_of (qi ry) dd.mapOf m (h c _ (I.tok _) i)
 .show hF.elim
def abt{Q:ε->ν->Prop}(i:A.units+1<cLine)(I:Inv X ϵ σ H s)(g:aQ H a y o)(ry:RelV y u)(h:∀s',Inv X ϵ σ H s'->Q (.bool o.isSome) s'):π ∅ A (adA .In u (.ref a)) Q E s:=by
 obtain⟨Ϸ,k,e,f,l⟩|hF:=g
 .subst f;let#[z,hd,vs,c,dd]:=mV I.hok e;show wpAny_in_of (qi ry) hd dd.mapOf ?_;rw[<-(c.val k).isSome_eq, <-l];show h _ (I.tok _)
 .show hF.elim
def acG{Q:ε->ν->Prop}(i:A.units+1<cLine)(I:Inv X ϵ σ H s)(g:aQ H a y o)(ry:RelV y u)(h:∀s',Inv X ϵ σ H s'->Q (.bool (!o.isSome)) s'):π ∅ A (adA .NotIn u (.ref a)) Q E s:=by
 obtain⟨Ϸ,k,e,f,l⟩|hF:=g
 .subst f;let#[z,hd,vs,c,dd]:=mV I.hok e;show wpAny_notIn_of (qi ry) hd dd.mapOf ?_;rw[<-(c.val k).isSome_eq, <-l];show h _ (I.tok _)
 .show hF.elim
theorem Zc{h':ϫ}{t':Nat}{c:HO}(I:Inv X ϵ σ H s)(f:w6 (H a))(hs:an0 a s.heap h')(g:∃q,h'.get? a=↑q)(new:Ϟ X.prog X.w (upd H a c) h' a c):Inv X ϵ σ (upd H a c) {s with heap:=h',toks:=t'}:=
 I.write (x:=a) (e:=a) f (.inl rfl) (λb q i z=>(hs.2 b i).trans z) g new
theorem HF{P:ϰ}{w:Ϯ}{H':Hp}{h':ϫ}{Ϸ:List (Key×V)}{vs:List (Key×ε)}(z:↥Ϸ<=ϱ)(hd:(a==sysModules)=false)(c:KV Ϸ vs)(dd:h'.DictOf (jn P w) a vs):Ϟ P w H' h' a (.dK Ϸ):=#[z,hd,vs,c,dd]
def ah5{H':Hp}{Q:Unit->ν->Prop}(x:A.units+1<cLine)(I:Inv X ϵ σ H s)(g:jD H a y v H')(ry:RelV y u)(i:RelV v r)(h:∀s',Inv X ϵ σ H' s'->Q PUnit.unit s'):π ∅ A (setItem (.ref a) u r) Q E s:=by
 obtain⟨Ϸ,k,e,j,l,m⟩|hF:=g
 .subst j m;let#[z,hd,vs,c,dd]:=Ew I.hok e;let n:↥vs<=ϱ:=by rw[<-↥c];show z
  let o:↥(putK Ϸ k v)<=ϱ:=by have:=aev Ϸ k v;omega
  show wpAny_setItem_pairs (hsz:=n) (qi ry) dd λh' f hs=>h _ ?_
  let p:∃q,h'.get? a=↑q:=let⟨q,_,_,hq,_⟩:=f;#[q,hq];show Zc I (by rw[e];show True.intro) hs p (HF o hd (c.put k i) f)
 .show hF.elim
end
section
variable{X:Cx}{ϵ:List (δ×Obj)}{σ:St}{H:Hp}{s:ν}{a:δ}{Ϸ:List (Key×V)}{k:Key}{u:ε}{A:ϴ}{E:ε->ν->Prop}
def aeK{v:V}{c:List ε}{Q:ε->ν->Prop}(I:Inv X ϵ σ H s)(e:H a=↑(.dK Ϸ))(ry:RelV (kV k) u)(l:aX Ϸ k=↑v)(n:c=[]\/∃x,c=[x])(h:∀g s',Inv X ϵ σ (upd H a (.dK (gW Ϸ k))) s'->RelV v g->Q g s'):π ∅ A (call (.builtin "dict.pop") (.ref a::u::c)) Q E s:=by
 let#[z,hd,vs,f,dd]:=Ew I.hok e;let#[g,p,m]:=cN.some_of (v:=v) (o:=valueAt vs k) (by rw[<-l];show f.val k);let y:(keyPart u).isSome=true:=by
  cases k with
  |inl i=>let#[t,q]:=(show ∃t,u=Value.int i t from ry);subst q;rfl
  |inr x=>let#[t,q]:=(show ∃t,u=Value.str x t from ry);subst q;rfl
 let B:argsOk "dict.pop" #[.ref a::u::c,[]]:=by
  obtain q|⟨x,q⟩:=n
  .subst q;show F.args_dict_pop_2 _ _
  .subst q;show F.args_dict_pop_3<*_
 show call_meetsIn F.slot_dict_pop dd.typeIs F.entry_dict_pop B (meets_dict_pop_there (jn X.prog X.w) a (qi ry) c n y)
  #[vs,g,dd,by rw[<-↥f];show z,p,λh' j hs=>h g _ ?_ m]
 let C:∃q,h'.get? a=↑q:=let⟨q,_,_,hq,_⟩:=j;#[q,hq];show Zc I (by rw[e];show True.intro) hs C (HF (adQ (aeY Ϸ k) z) hd (f.drop k) j)
end
def Wd(i:Ϫ):=∀a c,subscripted i false a c=operate [a,c] (getItem a c)
def alf{prog:ϰ}{w:Ϯ}{A:ϴ}{E:ε->ν->Prop}{s:ν}{env:Env}{value a:Ϫ}{pos:Pos}{T id:String}{Q:ε->ν->Prop}(m:typeLookup (.type T) "__getitem__"=pure ↑(.builtin id))(hs:Wd a)(h:π (ϧ prog w) A (eval value env) (λo e=>π (ϧ prog w) A (eval a env) (λi s₂=>s₂.TypeIs o T/\π (ϧ prog w) A (getItem o i) Q E s₂) E e) E s):π (ϧ prog w) A (eval (.Subscript value a pos) env) Q E s:=by
 show Subscript_ (ab9 h (λo e h₁=>ab9 h₁ (λi s₂ c=>?_) λ_ _ x=>x) λ_ _ x=>x);let#[l,c]:=c;unfold subscriptTail;show Ϧ ?_;rw[getitemInPython_of_ne l.not_modules];show Ϧ (wpAny_specialOf l m ?_);let g:π (ϧ prog w) A (subscripted a false o i) (λr f=>π (ϧ prog w) A (letTemporaryGo value o r>>=λ_=>pure r) Q E f) E s₂:=by
  rw[hs o i];show wpAny_operating (ab9 c (λr f j=>Ϧ (wpAny_letTemporaryGo (ϲ j))) λ_ _ x=>x)
 first
  |show ϲ (Ϧ g)
  |show Ϧ (ϲ (Ϧ g))
  |show Ϧ g
def RV{X:Cx}{ϵ:List (δ×Obj)}{σ:St}{H:Hp}{s:ν}{a:δ}{y:V}{o:Option V}(I:Inv X ϵ σ H s)(g:aQ H a y o):s.TypeIs (.ref a) "dict":=by
 obtain⟨Ϸ,k,e,_,_⟩|hF:=g
 .let#[_,_,vs,_,dd]:=mV I.hok e;show dd.typeIs
 .show hF.elim
theorem abe{P:ϰ}{w:Ϯ}{H:Hp}(h:ϫ)(a:sysModules<h.objs.size):Ϟ P w H (h.push {cls:=.type "dict",data:=.dict #v[]}) h.objs.size (.dK []):=
 #[aht _,beq_eq_false_iff_ne.mpr (Ne.symm (acb a)),[],.nil,Heap.DictOf.new h]
def aby:TE:=λ_ H Q=>∀p,H p=none->Q (.ref p) (upd H p (.dK []))
section
variable{X:Cx}{pos:Pos}
theorem aiO:PE X (.Dict [] [] pos) aby:=λϵ s σ H Q I h=>
 wpAny_Dict_empty #[.ref ⇑s,_,I.laid (a:=⇑s) (o:=.dK []) (t':=s.toks) (λ_ _ q=>aai _ q) (Ϭ _) (abe s.heap I.big),rfl,h _ (I.hok.fresh (Ϭ _))]
end
structure M1(X:Cx)(o:Ϫ)(m:Str)(apos:Pos)(e:Ϫ)(cpos:Pos):Prop where
 base:attributeBase o m X.env (eval o X.env)=eval o X.env
 few:((backTo cpos (ϳ [e] X.env)).all (λx=> !x.1)&&(backToKw cpos (keywordEach [] X.env)).all (λx=>x.1.isSome)
  &&decide (↥([e]:List Ϫ)+↥([]:List Keyword)+(if([]:List Keyword).isEmpty then 0 else 1)<30))=true
 line:(apos.endLine==cpos.line)=true
 trees:backTo cpos (ϳ [e] X.env)=[(false,eval e X.env)]
structure M2(X:Cx)(o:Ϫ)(m:Str)(apos:Pos)(e f:Ϫ)(cpos:Pos):Prop where
 base:attributeBase o m X.env (eval o X.env)=eval o X.env
 few:((backTo cpos (ϳ [e,f] X.env)).all (λx=> !x.1)&&(backToKw cpos (keywordEach [] X.env)).all (λx=>x.1.isSome)
  &&decide (↥([e,f]:List Ϫ)+↥([]:List Keyword)+(if([]:List Keyword).isEmpty then 0 else 1)<30))=true
 line:(apos.endLine==cpos.line)=true
 trees:backTo cpos (ϳ [e,f] X.env)=[(false,eval e X.env),(false,eval f X.env)]
def pB(H:Hp)(a:δ):Prop:=(∃Ϸ,Rd H a (.dK Ϸ))\/False
def Xb{X:Cx}{ϵ:List (δ×Obj)}{σ:St}{H:Hp}{s:ν}{a:δ}(I:Inv X ϵ σ H s)(d:pB H a):s.TypeIs (.ref a) "dict"/\(∀b,Value.ref a=.ref b->∃c,s.heap.get? b=↑c/\c.dict=none)/\(a==sysModules)=false:=by
 obtain⟨Ϸ,e⟩|hF:=d
 .let#[_,hd,vs,_,dd]:=mV I.hok e;show#[dd.typeIs,λb q=>?_,hd];cases q;let#[c,_,_,h1,h2,_]:=dd;show#[c,h1,h2.2.1]
 .show hF.elim
section
variable{X:Cx}{ϵ:List (δ×Obj)}{σ:St}{H:Hp}{s:ν}{a:δ}{y d:V}{u r:ε}{o:Option V}{A:ϴ}{E:ε->ν->Prop}
def adq{Q:ε->ν->Prop}(j:A.units+1<cLine)(I:Inv X ϵ σ H s)(g:aQ H a y o)(ry:RelV y u)(h:∀f s',Inv X ϵ σ H s'->RelV (o.getD .non) f->Q f s'):π ∅ A (call (.builtin "dict.get") [.ref a,u]) Q E s:=by
 obtain⟨Ϸ,k,e,i,l⟩|hF:=g
 .subst i;let#[z,hd,vs,c,dd]:=mV I.hok e;show call_meetsIn F.slot_dict_get dd.typeIs F.entry_dict_get (F.args_dict_get_2 _ _) (meets_dict_get (jn X.prog X.w) a (qi ry) hd) #[_,dd.mapOf,h _ _ (I.tok _) ?_];rw[l];show(c.val k).getD rfl
 .show hF.elim
end
section
variable{X:Cx}{ϵ:List (δ×Obj)}{σ:St}{H:Hp}{s:ν}{a:δ}{Ϸ:List (Key×V)}{A:ϴ}{E:ε->ν->Prop}
def anA{Q:ε->ν->Prop}(I:Inv X ϵ σ H s)(e:Rd H a (.dK Ϸ))(h:∀p s',H p=none->Inv X ϵ σ (upd H p (.dK Ϸ)) s'->Q (.ref p) s'):π ∅ A (call (.type "dict") [.ref a]) Q E s:=by
 let#[z,hd,vs,c,dd]:=mV I.hok e;show kt_call_dict hd dd (by rw[<-↥c];show z) λh' f hs=>?_
 show h _ _ (I.hok.fresh (Ϭ _)) (I.laid (a:=⇑s) (o:=.dK Ϸ) (t':=s.toks) (λb q g=>?_) (Ϭ _) (HF z (beq_eq_false_iff_ne.mpr (Ne.symm (acb I.big))) c f))*>(hs.2 b (acb (abU g))).trans (aai _ g)
end
end _L
namespace _L
open PySem PySem.Spec PyProof.Rows
section
variable{P:ϰ}{w:Ϯ}{K:ϩ}{mg:MG}{base:ϫ}
def cG.binds{x qual:Str}{st:Ϩ}{f:δ}{fd:ajB}{ps:List Str}(F:cG K x qual st f fd)(h:∀(kV a pm:ε)(an:Option δ)(c ct:ε)(us:List ε),↥us=↥ps->bindArgs (asx x qual (jk st) (ϕ st) (ρ st) .none kV a pm an c ct) #[us,[]]=pure (ps.zip us)):Binds K fd ps []:=by
 let#[oc,od,kV,a,pm,an,c,ct,e,rfl,lk,g]:=F.ex;show .all (h kV a pm an c ct)
end
def ajY{A B:Prop}(h:B):if false=true then A else B:=by
 rw[if_neg aaP];show h
def amO{A B:Prop}(h:A):if true=true then A else B:=by
 rw[if_pos rfl];show h
def ζ(H H':Hp):=∀b o,H b=↑o->H' b=↑o
theorem ζ.refl(H:Hp):ζ H H:=λ_ _ h=>h
theorem ζ.trans{H H1 H2:Hp}(a:ζ H H1)(b:ζ H1 H2):ζ H H2:=λc o h=>b c o (a c o h)
def ζ.free{H H':Hp}(e:ζ H H'){l:δ}(h:H' l=Option.none):H l=Option.none:=by
 cases q:H l with
 |none=>rfl
 |some o=>
  rw[e l o q]at h;cases h
def ζ.seq{K:ϩ}{H H':Hp}{a:δ}{xs:List V}(e:ζ H H')(h:θ K H a xs):θ K H' a xs:=by
 rcases h with(h|⟨o,h⟩)|h
 .show .inl (.inl (e<*h))
 .show .inl (.inr #[o,e<*h])
 .show .inr h
theorem bH.stay{h h':ϫ}{e:δ}(k:∀v o ws,v≠e->h.get? v=↑o->o.data=.fields ws->∃o' f,h'.get? v=↑o'/\o'.data=.fields f/\f[2]?=ws[2]?):∀{l:List δ}{c:Option ε},bH h c l->e∉l->bH h' c l
 |[],_,q,_=>q
 |a::r,c,⟨g,o,vs,i,j,m⟩,n=>by
  let#[o',f,k1,k2,k3]:=k a o vs (λz=>n (by simp[z])) i j;show#[g,o',f,k1,k2,?_];rw[k3];show bH.stay k m λz=>n (by simp[z])
theorem Ctx.yes{h:ϫ}{e:δ}{c:Option ε}(q:c=↑.none):Ctx h e true c:=#[λ_=>q,[],q,by simp,.nil]
def Ctx.stay{h h':ϫ}{e:δ}{b:Bool}{c:Option ε}(q:Ctx h e b c)(k:∀v o ws,v≠e->h.get? v=↑o->o.data=.fields ws->∃o' a,h'.get? v=↑o'/\o'.data=.fields a/\a[2]?=ws[2]?):Ctx h' e b c:=by
 let#[g,l,i,f,j]:=q;show#[g,l,i.stay k f,f,j]
def aG.free{P:ϰ}{w:Ϯ}{H:Hp}{h:ϫ}{a:δ}(x:aG P w H h)(e:h.get? a=none):H a=none:=by
 cases q:H a with
 |none=>rfl
 |some u=>
  let#[c,z]:=(x a u q).there;rw[e]at z;cases z
section
variable{M:Model}{A:ϴ}{E:ε->ν->Prop}{s:ν}
def ZK{base:ϫ}{env:Env}{outer:List Env}{L e:δ}{oe:Obj}{vs:Array ε}{head:ε}{c:Bool}{Q:Unit->ν->Prop}(i:A.frames=↑(env::outer))(p:s.heap.FunFrames base (env::outer))(z:env.frame=↑L)(u:s.heap.get? e=↑oe)(hd:oe.data=.fields vs)(hsz:1<vs.size)(k:∀(h':ϫ)(T:δ)(v:Obj)(ws:Array ε),⇑s<=h'.objs.size->(∀b o,s.heap.get? b=↑o->b≠e->b∉bY (env::outer)->h'.get? b=↑o)->
   (∀b o,s.heap.get? b=↑o->b≠e->∃sl,h'.get? b=some {o with slots:=sl})->⇑s<=T->h'.get? e=↑(oe.mapFields (·.setIfInBounds 1 (.ref T)))->
   h'.get? T=↑v->v.data=.fields ws->ws[3]?=↑(rawInt L)->Q PUnit.unit {s with heap:=h'}):π M A (do
   let a<-frameOf env;let pl<-entryPlaceOf L c;let b<-EntryCells.newEntry head a .none (rawInt L) .none pl
   setField (.ref e) 1 b) Q E s:=by
 let B:e∉(env::outer).filterMap (·.frame):=λm=>by
  let#[_,o,x,C]:=p.mem m;rw[u]at x;cases x;show C vs hd
 show Ϧ (wpAny_frameOf_fun i p z λh1 g=>Ϧ (wpAny_entryPlaceOf λpl y=>?_));unfold EntryCells.newEntry newFields;show Ϧ (wpAny_newObj_type ?_ (y.sizeOk5 _ _ _ _ _));let e1:h1.get? e=↑oe:=(g.2.1 e B)<|>u;let j:e≠h1.objs.size:=acb (abU e1);show amj (aai _ e1) hd hsz (k _ h1.objs.size {cls:=.type "traceback",dict:=none,data:=.fields (([head,.ref L,.none,rawInt L,.none]:List ε)++(if pl.isEmpty then alM 6 Value.none else pl)).toArray} (([head,.ref L,.none,rawInt L,.none]:List ε)++(if pl.isEmpty then alM 6 Value.none else pl)).toArray ?_ (λb o l f n=>?_) (λb o l f=>?_) (ark g.1.symm) ?_ ?_ ?_ ?_)
 .rw[asq,arZ,g.1];show aoF _
 .rw[aaK<*(Ne.symm f)];show aai _ ((g.2.1 b n)<|>l)
 .let#[sl,q]:=g.2.2 b o l;show#[sl,by rw[aaK<*(Ne.symm f)];show aai _ q]
 .show adZ _ (aai _ e1) (Obj.isFreed_of_fields (Obj.data_mapFields hd _))
 .rw[aaK<*j];show abM h1 rfl
 .show rfl
 .first
   |(simp;done)
   |(obtain rfl|⟨_,_,_,_,_,_,_,rfl⟩:=y<;>simp)
structure jW(h h':ϫ)(ch fs:List δ):Prop where
 keep:∀b o,h.get? b=↑o->b∉fs->b∉ch->h'.get? b=↑o
 slot:∀b o,h.get? b=↑o->b∉ch->∃sl,h'.get? b=some {o with slots:=sl}
 there:∀b o,h.get? b=↑o->∃o',h'.get? b=↑o'
def aao{base:ϫ}{env:Env}{outer:List Env}{L e:δ}{cls:ε}{d:Option δ×Bool}{tb:Option δ}{fl:ε}{Q:Unit->ν->Prop}(n:A.frames=↑(env::outer))(hl:s.heap.FunFrames base (env::outer))(I:env.frame=↑L)(F:aR s.heap e cls d tb fl)(J:(fl==rawInt L)=false)(k:∀(h':ϫ)(T:δ),jW s.heap h' (e::tb.toList) (bY (env::outer))->⇑s<=T->aR h' e cls d ↑T (rawInt L)->Q PUnit.unit {s with heap:=h'}):π M A (noteFrame (.ref e) env) Q E s:=by
 let#[O,vs,l,hc,P,hd,h1,hz,h2,ht]:=F
 let p:∀{R:ϫ}{h':ϫ}{T:δ}{m:Obj}{ws:Array ε},(∀v o ws,v≠e->s.heap.get? v=↑o->o.data=.fields ws->∃o' u,h'.get? v=↑o'/\o'.data=.fields u/\u[2]?=ws[2]?)->R.get? e=↑O->R.objs.size<=T->h'.get? e=↑(O.mapFields (·.setIfInBounds 1 (.ref T)))->h'.get? T=↑m->m.data=.fields ws->
   ws[3]?=↑(rawInt L)->aR h' e cls d ↑T (rawInt L):=λ{R h' T m ws} kk e0 hT a f c q4=>by
  let S:=Obj.data_mapFields hd (·.setIfInBounds 1 (Value.ref T));show#[_,_,a,(Obj.cls_mapFields _ _)<|>hc,?_,S,?_,~~~hz,?_,λT' eT=>?_]
  .let#[c0,d0,dt,sl]:=O;cases hd;show P
  .have :1<vs.size:=()
   simp[this]
  .rw[agC (by decide)];show h2.stay kk
  .cases eT;show#[λz=>ali _ (abr (abU e0) (z▸hT)),m,ws,f,c,q4]
 unfold noteFrame;simp only[I];cases tb with
 |none=>
  let j:vs[1]?=↑Value.none:=h1;show Ϧ (akC l hd j ?_);rw[if_neg (by decide)];show ZK n hl I l hd () λh' T m ws a1 U i x y W X Y=>k h' T #[λb o a f c=>U b o a (λz=>c (by simp[z])) f,λb o a c=>i b o a λz=>c (by simp[z]),λb o a=>?_] x (p (λv o ws G a f=>by let#[sl,q]:=i v o a G;show#[_,ws,q,f,rfl]) l x y W X Y)
  by_cases z:b=e
  .subst z;show#[_,y]
  .let#[sl,q]:=i b o a z;show#[_,q]
 |some g=>
  let#[Ϻ,oT0,yr,B,H,t3]:=ht g rfl;let j:vs[1]?=↑(Value.ref g):=h1;show Ϧ (akC l hd j ?_);rw[if_pos (show(Value.ref g !=Value.none)=true from by simp)];show Ϧ (akC B H t3 ?_);rw[if_neg (by rw[J];show aaP)];show Ϧ (amj B H (aia.mp t3).1 ?_);let oth:∀b,b≠g->(s.heap.update g (Obj.mapFields (·.setIfInBounds 3 Value.none))).get? b=s.heap.get? b:=λb C=>aaK _ _ (Ne.symm C)
  let jw:=adZ (Obj.mapFields (·.setIfInBounds 3 Value.none)) B (Obj.isFreed_of_fields (Obj.data_mapFields H _));let hsz:(s.heap.update g (Obj.mapFields (·.setIfInBounds 3 Value.none))).objs.size=⇑s:=asq ..;let Z:(s.heap.update g (Obj.mapFields (·.setIfInBounds 3 Value.none))).FunFrames base (env::outer):=hl.of_keeps λb o C nf=>#[o,(oth b λz=>by
   subst z;rw[B]at C;cases C;show nf yr H).trans C,rfl]
  show ZK (s:={s with heap:=s.heap.update g (Obj.mapFields (·.setIfInBounds 3 Value.none))}) n Z I ((oth e (Ne.symm Ϻ))<|>l) hd () λh' T m ws a1 U i x y W X Y=>
   k h' T #[λb o a f c=>U b o ((oth b λz=>c (by simp[z]))<|>a) (λz=>c (by simp[z])) f,λb o a c=>i b o ((oth b λz=>c (by simp[z]))<|>a) λz=>c (by simp[z]),λb o a=>?_] (hsz▸x) (p (λv o ws G a f=>by
     by_cases D:v=g
     .subst D;let#[sl,q]:=i v _ jw G;rw[B]at a;cases a;show#[_,_,q,Obj.data_mapFields f _,by rw[agC (by decide)]]
     .let#[sl,q]:=i v o ((oth v D)<|>a) G;show#[_,ws,q,f,rfl]) ((oth e (Ne.symm Ϻ))<|>l) x y W X Y)
  by_cases z:b=e
  .subst z;show#[_,y]
  .by_cases D:b=g
   .subst D;let#[sl,q]:=i b _ jw z;show#[_,q]
   .let#[sl,q]:=i b o ((oth b D)<|>a) z;show#[_,q]
theorem aij{base:ϫ}{env:Env}{outer:List Env}{L e:δ}{cls:ε}{d:Option δ×Bool}{tb:Option δ}{Q:Unit->ν->Prop}(a:A.frames=↑(env::outer))(c:s.heap.FunFrames base (env::outer))(f:env.frame=↑L)(F:aR s.heap e cls d tb .none)(k:∀(h':ϫ)(T:δ),jW s.heap h' (e::tb.toList) (bY (env::outer))->⇑s<=T->aR h' e cls d ↑T (rawInt L)->Q PUnit.unit {s with heap:=h'}):π M A (noteFrame (.ref e) env) Q E s:=
 aao a c f F (by simp[rawInt]) k
def acq{env:Env}{L e:δ}{cls:ε}{d:Option δ×Bool}{tb:Option δ}{Q:Unit->ν->Prop}(a:env.frame=↑L)(F:aR s.heap e cls d tb (rawInt L))(c:tb.isSome=true)(k:Q PUnit.unit s):π M A (noteFrame (.ref e) env) Q E s:=by
 let#[n,vs,f,o,g,hd,h1,p,h2,i]:=F;cases tb with
 |none=>cases c
 |some T=>
  let#[_,q,ws,j,l,m]:=i T rfl;show wpAny_noteFrame_inFlight a f hd h1 j l m k
def adt{e T:δ}{cls:ε}{d:Option δ×Bool}{p:ε}{Q:Unit->ν->Prop}(F:aR s.heap e cls d ↑T p)(k:∀h',jW s.heap h' [T] []->aR h' e cls d ↑T .none->Q PUnit.unit {s with heap:=h'}):π M A (setFlight (.ref e) none) Q E s:=by
 let#[u,vs,i,x,f,hd,h1,y,h2,B]:=F;let#[j,G,ws,a,c,C]:=B T rfl;let l:3<ws.size:=(aia.mp C).1;show wpAny_setFlight_none i hd h1 a c l (k _ #[λb o q _ n=>?_,λb o q n=>#[o.slots,?_],λb o q=>?_] ?_)
 .rw[aaK<*(λz=>n (by simp[z]))];show q
 .rw[aaK<*(λz=>n (by simp[z]))];show q
 .by_cases z:b=T
  .subst z;show#[_,adZ _ a (Obj.isFreed_of_fields (Obj.data_mapFields c _))]
  .show#[o,by rw[aaK<*(Ne.symm z)];show q]
 .show#[u,vs,?_,x,f,hd,h1,y,h2.stay λv o ws H g m=>?_,λI D=>?_]
  .rw[aaK<*j];show i
  .by_cases z:v=T
   .subst z;rw[a]at g;cases g;show#[_,_,adZ _ a (Obj.isFreed_of_fields (Obj.data_mapFields c _)),Obj.data_mapFields m _,by rw[agC (by decide)]]
   .show#[o,ws,by rw[aaK<*(Ne.symm z)];show g,m,rfl]
  .cases D;show#[j,_,_,adZ _ a (Obj.isFreed_of_fields (Obj.data_mapFields c _)),Obj.data_mapFields c _,by simp[l]]
end
section
variable{X:Cx}{ϵ:List (δ×Obj)}{σ:St}{H H':Hp}{s s':ν}
def Ch(X:Cx)(ϵ:List (δ×Obj))(b:δ):Prop:=(b∈X.ex\/X.s₀.heap.get? b=none)/\b≠X.env.locals/\(∀x c,X.env.cells.lookup x=↑c->c≠b)/\∀p∈X.pn++ϵ,p.1≠b
def Inv.ch(I:Inv X ϵ σ H s){b:δ}(h:s.heap.get? b=none):Ch X ϵ b:=by
 show#[?_,λz=>?_,λx c q z=>?_,λp g z=>?_]
 .by_cases e:b∈X.ex
  .show .inl e
  .show .inr ?_;cases q:X.s₀.heap.get? b with
   |none=>rfl
   |some o=>
    let#[o',f]:=I.base.there b o q e;rw[h]at f;cases f
 .let#[_,#[o,_,_,a,_],_]:=I.loc;rw[<-z,h]at a;cases a
 .let#[_,o,a,_]:=I.cell x c q;rw[z,h]at a;cases a
 .have :=(I.pin p g).1;rw[z,h]at this;cases this
def Inv.noted{ch:List δ}{h':ϫ}(I:Inv X ϵ σ H s)(N:jW s.heap h' ch (bY X.stack))(i:∀b∈ch,H b=none/\Ch X ϵ b):Inv X ϵ σ H {s with heap:=h'}:=by
 let jV:∀b u,H b=↑u->b∉bY X.stack/\b∉ch:=λb u e=>#[(λz=>by rw[I.stkFree b z]at e;cases e),(λz=>by rw[(i b z).1]at e;cases e)]
 show I.call (g':=s.gens) (d':=s.drawn) (t':=s.toks) (ch:=ch) (h':=h') #[λb o e _ a f=>N.keep b o e a f,λb o e _ _ f=>N.slot b o e f,λ_ _ _ n _=>n,λb o e _=>N.there b o e,λ_ _ e=>e,λ_ _ _ e=>e,λb ps e=>#[#v[],by rw[e];simp]] ?_ I.bare λb a=>(i b a).2
 intro b u e;show(I.hok b u e).stay (λc v g q=>?_) (λ_ q=>q) λ_ _ q=>q
 obtain z|z:=g
 .subst z;show N.keep c v q (jV c u e).1 (jV c u e).2
 .show N.keep c v q (jV c _ z).1 (jV c _ z).2
def nu(X:Cx)(ϵ:List (δ×Obj))(σ:St)(H:Hp)(s:ν)(e:δ)(cls:ε)(d:Option δ×Bool):Prop:=
 Inv X ϵ σ H s/\∃tb a,aR s.heap e cls d tb a/\(a=.none\/(a=rawInt X.env.locals/\tb.isSome=true))/\∀b∈e::tb.toList,H b=none/\Ch X ϵ b
def ak(X:Cx)(Kx:St->XK):=∀(ϵ:List (δ×Obj))(σ:St)(H:Hp)(s:ν)(e:δ)(cls:ε)(d:Option δ×Bool),nu X ϵ σ H s e cls d->Kx σ cls d H->X.xe (.ref e) s
def Inv.flown{E:XK}{x:ε}(I:Inv X ϵ σ H s)(c:bQ X.prog X.w X.stack H s E x s'):∃e cls d H',x=.ref e/\nu X ϵ σ H' s' e cls d/\E cls d H':=by
 let#[e,tb,cls,d,H',rfl,os,bare,un,hok,F,ch,q]:=c;let f:Inv X ϵ σ H' s':=I.call' (ch:=[]) os un hok bare λb z=>absurd z (by simp)
 show#[e,cls,d,H',rfl,#[f,tb,.none,F,.inl rfl,λb a=>#[(ch b a).1,I.ch (ch b a).2]],q]
theorem Pg(h:X.xe=λ_ _=>False):ak X (λ_ _ _ _=>False):=λ_ _ _ _ _ _ _ _ z=>z.elim
def nu.note{M:Model}{E:ε->ν->Prop}{e:δ}{cls:ε}{d:Option δ×Bool}{Q:Unit->ν->Prop}(x:nu X ϵ σ H s e cls d)(a:X.stack=X.env::X.outer)(f:X.env.frame=↑X.env.locals)(k:∀s' T,Inv X ϵ σ H s'->aR s'.heap e cls d ↑T (rawInt X.env.locals)->(∀b∈[e,T],H b=none/\Ch X ϵ b)->Q PUnit.unit s'):π M X.A (noteFrame (.ref e) X.env) Q E s:=by
 let#[I,tb,n,F,c,ch]:=x;obtain z|⟨z,j⟩:=c
 .subst z;let g:=I.stack;rw[a]at g;show aij (base:=X.base) (I.ok.frames<|>(by rw[a])) g f F λh' T N i l=>k _ T (I.noted (by rw[a];show N) ch) l λb m=>?_
  obtain z|z:=aaz.mp m
  .subst z;show ch _ ad1
  .let z':b=T:= ~~~z
   subst z';show#[I.hok.fresh i,I.ch (akO i)]
 .subst z;cases tb with
  |none=>cases j
  |some T=>show acq f F rfl (k s T I F ch)
def Inv.off{M:Model}{E:ε->ν->Prop}{e T:δ}{cls:ε}{d:Option δ×Bool}{a:ε}{Q:Unit->ν->Prop}(I:Inv X ϵ σ H s)(F:aR s.heap e cls d ↑T a)(c:∀b∈[e,T],H b=none/\Ch X ϵ b)(k:∀s',Inv X ϵ σ H s'->aR s'.heap e cls d ↑T .none->Q PUnit.unit s'){A:ϴ}:π M A (setFlight (.ref e) none) Q E s:=by
 show adt F λh' N f=>k _ (I.noted (ch:=[T]) #[λb o q _ n=>N.keep b o q (by simp) n,N.slot,N.there] λb g=>?_) f
 let z:b=T:= ~~~g
 subst z;show c b (by simp)
end
def ς{cc:Bool}{P:ϰ}{w:Ϯ}{K:ϩ}{mg:MG}{base:ϫ}{N:List Str}{qual:Str}{scope:aiZ}{f:δ}{cd:ε}{A:ϴ}{outer:List Env}{s₀:ν}{H₀:Hp}{E:XK}:ak (lY cc (bQ P w) P w K mg base N qual scope f cd A outer s₀ H₀ E) (λ_=>E):=by
 intro ϵ σ H s e cls d x q;show π _ _ (leaving _ _) _ _ s;unfold leaving;show Ϧ (x.note rfl rfl λl T c g c1=>?_)*>c.off g c1 λm a i=>?_
 show#[e,↑T,cls,d,H,rfl,a.os,a.bare,a.base,a.hok,i,λb j=>?_,q];let z:=c1 b (~~~j);show#[z.1,?_];obtain y|y:=z.2.1
 .show absurd (show b∈([]:List δ)from y) (by simp)
 .show y
theorem afG{cc:Bool}{P:ϰ}{w:Ϯ}{K:ϩ}{mg:MG}{base:ϫ}{N:List Str}{qual:Str}{scope:aiZ}{f:δ}{cd:ε}{A:ϴ}{outer:List Env}{s₀:ν}{H₀:Hp}{E:XK}:ap5 (ϧ P w) (A.deeper (envOfC qual scope ⇑s₀ f cd)) (envOfC qual scope ⇑s₀ f cd) (lY cc (bQ P w) P w K mg base N qual scope f cd A outer s₀ H₀ E).xe:=PassesOwn.leaving
section
variable{X:Cx}{Kx:St->XK}{cc:Bool}{k k':Nat}{f C:δ}{fd:ajB}{ps:List Str}{sp:Sp}{x m:Str}{p pos apos:Pos}{e o:Ϫ}{es:List Ϫ}{σ:St}{H:Hp}{Q:VK}
def vI{ϵ:List (δ×Obj)}{s:ν}{us:List ε}{vs:List V}(F:cW X.prog X.w X.K X.mg X.base (bQ X.prog X.w) cc k f fd ps sp)(i:ϐ cc k X.A)(j:Binds X.K fd ps [])(l:ak X Kx)(I:Inv X ϵ σ H s)(r:Vals vs us)(h:sp vs H Q (Kx σ)):π ∅ X.A (call (.ref f) us) (EP X ϵ σ Q) X.xe s:=by
 let m:↥us=↥ps:=by rw[<-↥r];show F.len _ _ _ _ h
 let c:=j s us I.kIn (~~~m);rw[alV]at c;show aon (akz (F.run X.A X.stack s H #[us,[]] us vs Q (Kx σ) i I.env0 c r h) λr s' g=>?_);cases r with
 |error e=>
  let#[a,cls,d,H',rfl,n,q]:=I.flown g;show l ϵ σ H' s' a cls d n q
 |ok o=>
  cases o with
  |ret u=>show I.after g
  |next=>show False.elim g
  |brk=>show False.elim g
  |cont=>show False.elim g
end
def EV(X:Cx)(e:Ϫ)(σ:St)(H:Hp)(Q:VK):Prop:=
 ∀(ϵ:List (δ×Obj))(s:ν),Inv X ϵ σ H s->π ∅ X.A (eval e X.env) (EP X ϵ σ Q) X.xe s
def ET(X:Cx)(e:Ϫ)(σ:St)(H:Hp)(Q:Bool->Hp->Prop):Prop:=
 ∀(ϵ:List (δ×Obj))(s:ν),Inv X ϵ σ H s->π ∅ X.A (isTrue e X.env (eval e X.env)) (TP X ϵ σ Q) X.xe s
def EW(X:Cx)(e:Ϫ)(σ:St)(H:Hp)(Q:Bool->Hp->Prop):Prop:=
 ∀(a:Sem ε)(ϵ:List (δ×Obj))(s:ν),Inv X ϵ σ H s->π ∅ X.A (isTrue e X.env a) (TP X ϵ σ Q) X.xe s
def EA(X:Cx)(es:List Ϫ)(σ:St)(H:Hp)(Q:List V->Hp->Prop):Prop:=
 ∀(pos:Pos)(ϵ:List (δ×Obj))(s:ν),Inv X ϵ σ H s->π ∅ X.A (spliced (backTo pos (ϳ es X.env))) (AP X ϵ σ Q) X.xe s
def EO(X:Cx)(e:Option Ϫ)(σ:St)(H:Hp)(Q:Option Int->Hp->Prop):=∃t,PO X e t/\t σ H Q
def SX(X:Cx)(st:Ϩ)(D:Ends)(σ:St)(H:Hp):Prop:=
 ∀(ϵ:List (δ×Obj))(s:ν),Inv X ϵ σ H s->π ∅ X.A (exec st X.env) (SP X ϵ D) X.xe s
def Ι(X:Cx)(st:List Ϩ)(D:Ends)(σ:St)(H:Hp):Prop:=
 ∀(ϵ:List (δ×Obj))(s:ν),Inv X ϵ σ H s->π ∅ X.A (execs st X.env) (SP X ϵ D) X.xe s
def EG(X:Cx)(tg:Ϫ)(v:V)(σ:St)(H:Hp)(Q:St->Hp->Prop):Prop:=
 ∀(ϵ:List (δ×Obj))(s:ν)(u:ε),Inv X ϵ σ H s->RelV v u->π ∅ X.A (assign tg X.env u) (λ_ s'=>∃σ' H',Inv X ϵ σ' H' s'/\Q σ' H') X.xe s
def wk(X:Cx)(a:List Ϫ)(vs:List V)(σ:St)(H:Hp)(Q:St->Hp->Prop):Prop:=
 ∀(ϵ:List (δ×Obj))(s:ν)(us:List ε),Inv X ϵ σ H s->Vals vs us->π ∅ X.A (assignInOrder ((apW a X.env).map (·.2)) us) (λ_ s'=>∃σ' H',Inv X ϵ σ' H' s'/\Q σ' H') X.xe s
def EI(X:Cx)(tg iter:Ϫ)(σ:St)(H:Hp)(R:It->Hp->Prop):Prop:=
 ∀(ϵ:List (δ×Obj))(s:ν),Inv X ϵ σ H s->
  π ∅ X.A (eval iter X.env) (λv a=>π ∅ X.A (pyIter v) (Bq X ϵ σ tg R) X.xe a) X.xe s
def OP(X:Cx)(f:ε->ε->Sem ε)(x y:V)(H:Hp)(Q:VK):=∃r,aV X f r/\r x y H Q
def UN(X:Cx)(f:ε->Sem ε)(x:V)(H:Hp)(Q:VK):=∃r,zy X f r/\r x H Q
def CL(X:Cx)(f:ε)(xs:List V)(H:Hp)(Q:VK):=∃r,iY X f r/\r xs H Q
def IX(X:Cx)(x y:V)(H:Hp)(Q:VK):=∃r,qO X r/\r x y H Q
def SL(X:Cx)(x:V)(lo hi:Option Int)(H:Hp)(Q:VK):=∃r,Ax X r/\r x lo hi H Q
def MT(X:Cx)(id:String)(x:V)(xs:List V)(H:Hp)(Q:VK):=∃r,HX X id r/\r x xs H Q
section
variable{X:Cx}{a b c e:Ϫ}{es:List Ϫ}{σ:St}{H:Hp}{Q:VK}{QT:Bool->Hp->Prop}{QA:List V->Hp->Prop}{D:Ends}{pos p apos:Pos}{x:Str}{v:V}
theorem dZ:PE X e (EV X e):=λϵ s _ _ _ I h=>h ϵ s I
theorem aku:PW X e (EW X e):=λa ϵ s _ _ _ I h=>h a ϵ s I
theorem YT{o:Option Ϫ}:PO X o (EO X o):=λϵ s σ H Q I z=>by let#[_,h,q]:=z;show h ϵ s σ H Q I q
theorem Wm{st:List Ϩ}:Nr X st (Ι X st):=λϵ s _ _ _ I h=>h ϵ s I
theorem oY{f:ε->ε->Sem ε}:aV X f (OP X f):=λϵ s σ H x y v u Q I rx ry z=>by let#[_,h,q]:=z;show h ϵ s σ H x y v u Q I rx ry q
theorem ac5{f:ε->Sem ε}:zy X f (UN X f):=λϵ s σ H x v Q I rx z=>by let#[_,h,q]:=z;show h ϵ s σ H x v Q I rx q
theorem Ls{f:ε}:iY X f (CL X f):=λϵ s σ H xs us Q I rx z=>by let#[_,h,q]:=z;show h ϵ s σ H xs us Q I rx q
theorem ac0:qO X (IX X):=λa sl ϵ s σ H x y v u Q I rx ry z hs=>by let#[_,h,q]:=z;show h a sl ϵ s σ H x y v u Q I rx ry q hs
theorem akM:Ax X (SL X):=λϵ s σ H x v a c lo hi sl Q I rx hs pl e z=>by let#[_,h,q]:=z;show h ϵ s σ H x v a c lo hi sl Q I rx hs pl e q
theorem ahm{id:String}:HX X id (MT X id):=λϵ s σ H x xs v us Q I rx a z=>by let#[_,h,q]:=z;show h ϵ s σ H x xs v us Q I rx a q
theorem zm{t:TE}(h:PE X e t)(q:t σ H Q):EV X e σ H Q:=λϵ s I=>h ϵ s σ H Q I q
theorem ajN{t:TT}(h:PT X e t)(q:t σ H QT):ET X e σ H QT:=λϵ s I=>h ϵ s σ H QT I q
def fG:List Str->St->Str->Option V
 |n::N,o::σ,x=>if n=x then o else fG N σ x
 |_,_,_=>none
theorem K3:∀{N:List Str}{σ:St}{x:Str}{v:V},fG N σ x=↑v->∃i:Nat,N[i]?=↑x/\σ[i]?=some ↑v
 |n::N,o::σ,x,v,h=>by
  unfold fG at h;split at h
  .rename_i e;show#[0,by simp[e],by simp[h]]
  .let#[i,h1,h2]:=K3 h;show#[i+1,~~~h1,~~~h2]
 |[],_,_,_,h=>by simp[fG]at h
 |_::_,[],_,_,h=>by simp[fG]at h
def nameAt:List Str->Str->Option Nat
 |n::N,x=>if n=x then some 0 else(nameAt N x).map (· +1)
 |[],_=>none
theorem lE:∀{N:List Str}{x:Str}{i:Nat},nameAt N x=↑i->N[i]?=↑x
 |n::N,x,i,h=>by
  unfold nameAt at h;split at h
  .rename_i e;cases h;simp[e]
  .cases q:nameAt N x with
   |none=>rw[q]at h;cases h
   |some j=>
    rw[q]at h;cases h;simpa using lE q
 |[],_,_,h=>by simp[nameAt]at h
def akP(c:fG X.N σ x=↑v)(e:rF X.env.scope x)(q:Q v H)(hd:(x==("__debug__":Str))=false)(a:(x==("__classdict__":Str))=false):EV X (.Name x pos) σ H Q:=by
 let#[i,h1,h2]:=K3 c;show zm (amN h1 e hd a) #[v,h2,q]
def aib(g:Gc X.mg x v)(a:Gl X x)(q:Q v H)(hd:(x==("__debug__":Str))=false):EV X (.Name x pos) σ H Q:=by
 let#[u,h1,h2]:=g;show zm (Zz a h1 h2 hd) q
theorem Y4{T:String}(a:Gl X x)(c:X.mg x=none)(e:bootBuiltins x=↑(.type T))(q:Q (.ty T) H)(f:x≠"__name__")(hd:(x==("__debug__":Str))=false):EV X (.Name x pos) σ H Q:=λϵ s I=>jE I a c e #[(.ty T),H,I,rfl,q] f hd
theorem aa4{i:Int}{j}(q:Q (.int i) H):EV X (.Constant (.int i) j pos) σ H Q:=λϵ s I=>wpAny_Constant_int #[.int i,H,I.tok _,#[_,rfl],q]
theorem alc{i:Bool}{j}(q:Q (.bl i) H):EV X (.Constant (.bool i) j pos) σ H Q:=λϵ s I=>Constant_bool #[.bl i,H,I,rfl,q]
theorem akD{j}(q:Q .non H):EV X (.Constant .none j pos) σ H Q:=λϵ s I=>Constant_none #[.non,H,I,rfl,q]
theorem uB{i:Str}{j}(q:Q (.str i) H):EV X (.Constant (.str i) j pos) σ H Q:=λϵ s I=>Calls.Constant_str #[.str i,H,I.tok _,#[_,rfl],q]
def amT{op:Operator}(h:EV X a σ H λx H1=>EV X b σ H1 λy H2=>OP X (binaryOp op) x y H2 Q):EV X (.BinOp a op b pos) σ H Q:=by
 intro ϵ s I;show wpAny_BinOp (JM dZ dZ I h λv u c x y H2 e rx ry q=>oY ϵ c σ H2 x y v u Q e rx ry q)
def ag4{op:UnaryOp}(h:EV X a σ H λx H1=>UN X (unaryOp op) x H1 Q):EV X (.UnaryOp op a pos) σ H Q:=by
 intro ϵ s I;show UnaryOp_ (υ (h ϵ s I) λv c z=>by let#[x,H1,e,r1,f]:=z;show ac5 ϵ c σ H1 x v Q e r1 f)
def amD{op:CmpOp}(c:behindInMarks op b=false)(h:EV X a σ H λx H1=>EV X b σ H1 λy H2=>OP X (adA op) x y H2 Q):EV X (.Compare a [op] [b] pos) σ H Q:=by
 intro ϵ s I;show wpAny_Compare1 (JM dZ dZ I h λv u e x y H2 f rx ry q=>oY ϵ e σ H2 x y v u Q f rx ry q) c
def agy{op:CmpOp}(g:behindInMarks op b=false)(h:EV X a σ H λx H1=>EV X b σ H1 λy H2=>OP X (adA op) x y H2 λz f=>∃k,z=.bl k/\QT k f):ET X (.Compare a [op] [b] pos) σ H QT:=by
 intro ϵ s I;show wpAny_isTrue_Compare1 (υ (h ϵ s I) λv i _u=>_Z.e23 _u λx H1 j r1 l=>υ (l ϵ i j) λu m _u=>_Z.e23 _u λy H2 n o p=>
  υ (oY ϵ m σ H2 x y v u _ n r1 o p) λc D ⟨z,f,q,B,k,e,C⟩=>?_) g
 subst e;cases B;show ahM #[f,q,C]
def anv{op f:CmpOp}(o:lastMarks [op,f] [b,c]=false)(h:EV X a σ H λx H1=>EV X b σ H1 λy H2=>OP X (adA op) x y H2 λz g=>∃k,z=.bl k/\(if k=true then EV X c σ g λi j=>OP X (adA f) y i j Q else Q (.bl false) g)):EV X (.Compare a [op,f] [b,c] pos) σ H Q:=by
 intro ϵ s I;show Compare_chain (υ (h ϵ s I) λv p _u=>_Z.e23 _u λx H1 q r1 B=>chain_link (υ (B ϵ p q) λu C _u=>_Z.e23 _u λy H2 D l E=>
  υ (oY ϵ C σ H2 x y v u _ D r1 l E) λd F ⟨z,g,m,G,k,e,n⟩=>?_)) o
 subst e;cases G;show ahM ?_;cases k with
 |false=>show ite_ff #[.bl false,g,m,rfl,n]
 |true=>show ite_tt (chain_last (υ (n ϵ F m) λi J z=>by let#[z',j,L,M,O]:=z;show oY ϵ J σ j y z' u i Q L l M O))
def aen{op f:CmpOp}(p:lastMarks [op,f] [b,c]=false)(h:EV X a σ H λx H1=>EV X b σ H1 λy H2=>OP X (adA op) x y H2 λz g=>∃k,z=.bl k/\(if k=true then EV X c σ g λi j=>OP X (adA f) y i j λz' l=>∃k',z'=.bl k'/\QT k' l else ∃k',V.bl false=.bl k'/\QT k' g)):ET X (.Compare a [op,f] [b,c] pos) σ H QT:=by
 intro ϵ s I;show isTrue_chain (υ (h ϵ s I) λv q _u=>_Z.e23 _u λx H1 B r1 C=>test_link (υ (C ϵ q B) λu D _u=>_Z.e23 _u λy H2 E m F=>
  υ (oY ϵ D σ H2 x y v u _ E r1 m F) λd G ⟨z,g,n,J,k,e,o⟩=>?_)) p
 subst e;cases J;show ahM ?_;cases k with
 |false=>
  let#[k',L,M]:=o;cases L;show ite_ff #[g,n,M]
 |true=>
  show ite_tt (test_last (υ (o ϵ G n) λi O _u=>_Z.e23 _u λz' j P Q R=>υ (oY ϵ O σ j y z' u i _ P m Q R) λd' Z S=>?_));let#[z2,l,T,U,k2,W,Y]:=S;subst W;cases U;show ahM #[l,T,Y]
def aat(c:∀a,isTrue e X.env a=(do let v<-a;standAt e.pos;holding [v] (truthy v)))(h:EV X e σ H λx H'=>∃k,Kd X.K x H' k/\QT k H'):ET X e σ H QT:=by
 intro ϵ s I;show isTrue_plain (υ (h ϵ s I) λv f z=>by let#[x,H1,g,r1,i]:=z;show aez ϵ f σ H1 x v QT g r1 i) (c _)
def aoe(h:ET X a σ H λk H1=>QT (!k) H1):ET X (.UnaryOp .Not a pos) σ H QT:=by
 intro ϵ s I;show isTrue_not (h ϵ s I)
theorem alz(h:EW X e σ H QT):ET X e σ H QT:=ajN aku.pt h
def am5{rest:List Ϫ}(h:ET X a σ H λk H1=>if k=true then EW X (.BoolOp .And (b::rest) pos) σ H1 QT else QT false H1):EW X (.BoolOp .And (a::b::rest) pos) σ H QT:=by
 intro g ϵ s I;show isTrue_and (υ (h ϵ s I) λc i j=>?_);let#[H1,e,f]:=j;cases c with
 |true=>show f g ϵ i e
 |false=>show#[H1,e,f]
def aiW{rest:List Ϫ}(h:ET X a σ H λk H1=>if k=true then QT true H1 else EW X (.BoolOp .Or (b::rest) pos) σ H1 QT):EW X (.BoolOp .Or (a::b::rest) pos) σ H QT:=by
 intro g ϵ s I;show isTrue_or (υ (h ϵ s I) λc i j=>?_);let#[H1,e,f]:=j;cases c with
 |true=>show#[H1,e,f]
 |false=>show f g ϵ i e
def ai4(h:ET X a σ H QT):EW X (.BoolOp .And [a] pos) σ H QT:=by
 intro f ϵ s I;show isTrue_and (υ (h ϵ s I) λc g e=>?_);cases c with
 |true=>show isTrue_and_nil e
 |false=>show e
def ahB(h:ET X a σ H QT):EW X (.BoolOp .Or [a] pos) σ H QT:=by
 intro f ϵ s I;show isTrue_or (υ (h ϵ s I) λc g e=>?_);cases c with
 |false=>show isTrue_or_nil e
 |true=>show e
theorem aah{op}(h:EV X a σ H Q):EV X (.BoolOp op [a] pos) σ H Q:=λϵ s I=>BoolOp_one (h ϵ s I)
def aho{rest:List Ϫ}(h:EV X a σ H λx H1=>∃k,x=.bl k/\if k=true then EV X (.BoolOp .And (b::rest) pos) σ H1 Q else Q (.bl false) H1):EV X (.BoolOp .And (a::b::rest) pos) σ H Q:=by
 intro ϵ s I;show BoolOp_and (υ (h ϵ s I) λv g i=>?_);let#[x,H1,f,r1,e]:=i;let#[c,rfl,e]:=e;cases r1;show ahM ?_;cases c with
 |true=>show e ϵ g f
 |false=>show#[.bl false,H1,f,rfl,e]
def anh{rest:List Ϫ}(h:EV X a σ H λx H1=>∃k,x=.bl k/\if k=true then Q (.bl true) H1 else EV X (.BoolOp .Or (b::rest) pos) σ H1 Q):EV X (.BoolOp .Or (a::b::rest) pos) σ H Q:=by
 intro ϵ s I;show BoolOp_or (υ (h ϵ s I) λv g i=>?_);let#[x,H1,f,r1,e]:=i;let#[c,rfl,e]:=e;cases r1;show ahM ?_;cases c with
 |false=>show e ϵ g f
 |true=>show#[.bl true,H1,f,rfl,e]
def abH(h:EV X a σ H λx H1=>∃k,x=.bl k/\Q (.bl (!k)) H1):EV X (.UnaryOp .Not a pos) σ H Q:=by
 intro ϵ s I;show UnaryOp_ (υ (h ϵ s I) λv i f=>?_);let#[x,H1,g,r1,e]:=f;let#[c,rfl,e]:=e;cases r1;show not_of (ahM #[.bl (!c),H1,g,rfl,e])
def akv(h:ET X c σ H λk H1=>if k=true then EV X a σ H1 Q else EV X b σ H1 Q):EV X (.IfExp c a b pos) σ H Q:=by
 intro ϵ s I;show wpAny_IfExp (υ (h ϵ s I) λd e i=>?_);let#[H1,f,g]:=i;cases d with
 |true=>show g ϵ e f
 |false=>show g ϵ e f
theorem dH(q:QA [] H):EA X [] σ H QA:=λpos ϵ s I=>Calls.spliced_nil #[[],H,I,.nil,q]
def gQ(hs:ϳ (e::es) X.env=(false,eval e X.env)::ϳ es X.env)(h:EV X e σ H λx H1=>EA X es σ H1 λxs H2=>QA (x::xs) H2):EA X (e::es) σ H QA:=by
 intro pos ϵ s I;rw[hs];show π _ _ (spliced ((false,eval e X.env)::backTo pos (ϳ es X.env))) _ _ s*>Calls.spliced_cons (υ (h ϵ s I) λu a c=>?_);let#[x,H1,f,r1,g]:=c;show υ (g pos ϵ a f) λus m z=>by let#[xs,H2,i,j,l]:=z;show #[x::xs,H2,i,.cons r1 j,l]
def Uw{x1}(h:EA X es σ H λxs H1=>↥xs<=ϱ/\∀p,H1 p=none->Q (.ref p) (upd H1 p (.tup xs))):EV X (.Tuple es x1 pos) σ H Q:=by
 intro ϵ s I;show wpAny_Tuple_spliced (υ (h pos ϵ s I) λus a ⟨xs,H1,c,r,z,q⟩=>#[by rw[<-↥r];show z,?_]);let f:H1 ⇑a=none:=c.hok.fresh (Ϭ _);show#[.ref ⇑a,upd H1 ⇑a (.tup xs),c.laid (t':=a.toks) (λb u e=>aai _ e) (Ϭ _) ?_,rfl,q _ f]*>#[z,us,r,#[_,abM _ rfl,rfl,_,rfl]]
def agu(h:EA X es σ H λxs H1=>↥xs<=ϱ/\∀p,H1 p=none->Q (.ref p) (upd H1 p (.lst xs))):EV X (.List es pos) σ H Q:=by
 intro ϵ s I;show wpAny_List_spliced (υ (h pos ϵ s I) λus a ⟨xs,H1,c,r,z,q⟩=>#[by rw[<-↥r];show z,?_]);let f:H1 ⇑a=none:=c.hok.fresh (Ϭ _);show#[.ref ⇑a,upd H1 ⇑a (.lst xs),c.laid (t':=a.toks) (λb u e=>aai _ e) (Ϭ _) ?_,rfl,q _ f]*>#[z,us,0,r,abM _ rfl]
def ah3{id:String}(f:Gl X x)(g:X.mg x=none)(i:bootBuiltins x=↑(.builtin id))(j:x≠"__name__")(a:(x==("__debug__":Str))=false)(l:ϳ (e::es) X.env=(false,eval e X.env)::ϳ es X.env)(c:(backTo pos (ϳ es X.env)).any (·.1)=false)(h:EA X (e::es) σ H λvs H1=>CL X (.builtin id) vs H1 Q):EV X (.Call (.Name x p) (e::es) [] pos) σ H Q:=by
 intro ϵ s I;show aky (jE I f g i ?_ j a)*>PyProof.Rows.callWith_builtin1 (υ (h pos ϵ s I) λus m z=>by let#[vs,H1,n,r1,o]:=z;show Ls ϵ m σ H1 vs us Q n r1 o) l c
def alP{T:String}(f:Gl X x)(g:X.mg x=none)(i:bootBuiltins x=↑(.type T))(j:x≠"__name__")(a:(x==("__debug__":Str))=false)(l:ϳ (e::es) X.env=(false,eval e X.env)::ϳ es X.env)(c:(backTo pos (ϳ es X.env)).any (·.1)=false)(h:EA X (e::es) σ H λvs H1=>CL X (.type T) vs H1 Q):EV X (.Call (.Name x p) (e::es) [] pos) σ H Q:=by
 intro ϵ s I;show aky (jE I f g i ?_ j a)*>PyProof.Rows.callWith_type1 (υ (h pos ϵ s I) λus m z=>by let#[vs,H1,n,r1,o]:=z;show Ls ϵ m σ H1 vs us Q n r1 o) l c
structure Def(P:ϰ)(w:Ϯ)(K:ϩ)(mg:MG)(base:ϫ)(cc:Bool)(k:Nat)(x:Str)(ps:List Str)(sp:Sp):Prop where
 ex:∃f fd,mg x=↑(.ref f)/\aoT K (.ref f)=true/\Binds K fd ps []/\cW P w K mg base (bQ P w) cc k f fd ps sp
theorem ϐ.oO{cc aU:Bool}{k:Nat}{A:ϴ}(r:ϐ cc k A)(h:aU=true->cc=true):ϐ aU k A:=#[λz=>r.hd (h z),r.dp,r.un]
def acN{Kx:St->XK}{cc aU:Bool}{k k':Nat}{ps:List Str}{sp:Sp}(F:Def X.prog X.w X.K X.mg X.base aU k x ps sp)(j:ϐ cc k' X.A)(l:k<=k')(a:aU=true->cc=true)(m:Gl X x)(n:ak X Kx)(c:(x==("__debug__":Str))=false)(o:ϳ (e::es) X.env=(false,eval e X.env)::ϳ es X.env)(g:(backTo pos (ϳ es X.env)).any (·.1)=false)(h:EA X (e::es) σ H λvs H1=>sp vs H1 Q (Kx σ)):EV X (.Call (.Name x p) (e::es) [] pos) σ H Q:=by
 let#[f,fd,h1,h2,u,v]:=F.ex;intro ϵ s I;show aky (eZ I m h1 ?_ c)*>asz (h₀:=X.base) I.ok.mod.kin h2 (υ (h pos ϵ s I) λus y _u=>_Z.e23 _u λvs H1 i r q=>#[i.kIn,?_]) o g*>vI v ((j.mono l).oO a) u n i r q
def acR(hs:ae0 b)(h:EV X a σ H λx H1=>EV X b σ H1 λy H2=>IX X x y H2 Q):EV X (.Subscript a b pos) σ H Q:=by
 intro ϵ s I;show Subscript_ (JM dZ dZ I h λv u c x y H2 e rx ry q=>ac0 a b ϵ c σ H2 x y v u Q e rx ry q (hs _ _))
theorem alH{QO:Option Int->Hp->Prop}(q:QO none H):EO X none σ H QO:=#[_,anP,q]
theorem adI{QO:Option Int->Hp->Prop}(q:EV X e σ H λx H1=>∃i,x=.int i/\QO ↑i H1):EO X ↑e σ H QO:=#[_,aef dZ,q]
def aoi{lo hi:Option Ϫ}{p2:Pos}(h:EV X a σ H λx H1=>EO X lo σ H1 λl H2=>EO X hi σ H2 λu e=>SL X x l u e Q):EV X (.Subscript a (.Slice lo hi none p2) pos) σ H Q:=by
 intro ϵ s I;show Subscript_ (υ (h ϵ s I) λv j i=>?_);let#[x,H1,m,r1,n]:=i;show wpAny_Slice (υ (YT ϵ j σ H1 _ m n) λf o _u=>_Z.e23 _u λl H2 p pl y=>υ (YT ϵ o σ H2 _ p y) λg c i=>?_);let#[u,e,z,B,C]:=i;rw[evalPart_none];show ϲ ?_;let D:Inv X ϵ σ e {c with heap:=c.heap.push {cls:=.type "slice",data:=.fields #v[f,g,.none]}}:=z.kept (t':=c.toks) λb J q=>aai _ q
 let#[T,id,E,F,G]:=akM ϵ {c with heap:=c.heap.push {cls:=.type "slice",data:=.fields #v[f,g,.none]}} σ e x v f g l u ⇑c Q D r1 (Heap.IsSliceOf.new ..) pl B C;show π ∅ X.A (subscriptTail a (.Slice lo hi none p2) v (.ref ⇑c)) (EP X ϵ σ Q) X.xe {c with heap:=c.heap.push {cls:=.type "slice",data:=.fields #v[f,g,.none]}}*>tail_any (ops:=[.ref ⇑c,v]) F E G (by with_unfolding_all rfl)
def au{T id:String}{name:Str}(n:PlainAttrs T)(slot:Slot T name id)(j:typeOf (.builtin id)=pure (.type "method_descriptor"))(f:attributeBase a name X.env (eval a X.env)=eval a X.env:=by rfl)(i:((backTo pos (ϳ (e::es) X.env)).all (λx=> !x.1)&&(backToKw pos (keywordEach [] X.env)).all (λx=>x.1.isSome)
   &&decide (↥(e::es)+↥([]:List Keyword)+(if([]:List Keyword).isEmpty then 0 else 1)<30))=true:=by rfl)(g:(apos.endLine==pos.line)=true:=by rfl)(hs:ϳ (e::es) X.env=(false,eval e X.env)::ϳ es X.env:=by rfl)(c:(backTo pos (ϳ es X.env)).any (·.1)=false:=by rfl)(h:EV X a σ H λx H1=>v7 X.K T x H1/\EA X (e::es) σ H1 λxs H2=>MT X id x xs H2 Q):EV X (.Call (.Attribute a name apos) (e::es) [] pos) σ H Q:=by
 intro ϵ s I;show wpAny_Call_method_late f i g rfl (υ (h ϵ s I) λv o p=>?_);let#[x,H1,l,r1,ty,q]:=p;let#[h1,h2]:=acw l r1 ty;show#[T,id,n,slot,j,h1,h2,?_];let m:=q pos ϵ o l;rw[hs]at m⊢;show Calls.callWith_builtin (by show(false||(backTo pos (ϳ es X.env)).any (·.1))=false;rw[c]<;>rfl) (Calls.evalArgs_plain ?_)*>υ m λus u z1=>by let#[vs,H2,y,z,B]:=z1;show ahm ϵ u σ H2 x vs v us Q y r1 z B
theorem χ(q:D.nx σ H):Ι X [] D σ H:=λϵ s I=>wpAny_execs_nil #[σ,H,I,q]
def rE{st:Ϩ}{rest:List Ϩ}(h:SX X st {D with nx:=λσ' H'=>Ι X rest D σ' H'} σ H):Ι X (st::rest) D σ H:=by
 intro ϵ s I;show wpAny_execs_cons (υ (h ϵ s I) λf a q=>?_);cases f with
 |next=>
  let#[σ',H',c,q]:=q;show q ϵ a c
 |ret v=>show q
 |brk=>show q
 |cont=>show q
def pP{st:Ϩ}(h:SX X st D σ H):Ι X [st] D σ H:=by
 intro ϵ s I;show wpAny_execs_cons (υ (h ϵ s I) λf a q=>?_);cases f with
 |next=>show wpAny_execs_nil q
 |ret v=>show q
 |brk=>show q
 |cont=>show q
def Ϝ(h:EV X e σ H λ_ H1=>D.nx σ H1)(hs:ao7 e none pos.line X.env=pure false:=by rfl):SX X (.Expr e pos) D σ H:=by
 intro ϵ s I;show wpAny_Expr_any (υ (h ϵ s I) λv f z=>by let#[x,H1,a,r1,c]:=z;show #[σ,H1,a,c]) I.quiet hs
def ο(h:EV X e σ H D.rt):SX X (.Return ↑e pos) D σ H:=by
 intro ϵ s I;show wpAny_Return_some (υ (h ϵ s I) λv f z=>by let#[x,H1,a,r1,c]:=z;show #[x,σ,H1,a,r1,c])
def Δ{t u:List Ϩ}(h:ET X c σ H λk H1=>if k=true then Ι X t D σ H1 else Ι X u D σ H1):SX X (.If c t u pos) D σ H:=by
 intro ϵ s I;show wpAny_If (υ (h ϵ s I) λd a g=>?_);let#[H1,e,f]:=g;cases d with
 |true=>show f ϵ a e
 |false=>show f ϵ a e
def Ar{i:Nat}{p':Pos}(a:X.N.Nodup)(hi:nameAt X.N x=↑i)(c:Loc X.env.scope x)(hs:ao7 e ↑(.Name x p') pos.line X.env=pure false)(f:X.fn x=true\/X.env.scope.names.lookup x=↑.local)(h:EV X e σ H λv H1=>D.nx (σ.set i ↑v) H1):SX X (.Assign [.Name x p'] e pos) D σ H:=by
 intro ϵ s I;show wpAny_Assign_Name (υ (h ϵ s I) λv n g=>?_) hs;let#[y,H1,j,r1,l]:=g;show ZL j a (lE hi) c r1 (λo m=>#[_,H1,m,l]) f
def Γ{i:Nat}{QG:St->Hp->Prop}(a:X.N.Nodup)(q:QG (σ.set i ↑v) H)(hi:nameAt X.N x=↑i:=by rfl)(c:Loc X.env.scope x:=by first|show Or.inl rfl|show Or.inr rfl)(e:X.fn x=true\/X.env.scope.names.lookup x=↑.local:=by first|show Or.inl rfl|show Or.inr rfl):EG X (.Name x pos) v σ H QG:=by
 intro ϵ s u I r;show wpAny_assign_Name (ZL I a (lE hi) c r (λs' f=>#[_,H,f,q]) e)
def aF{QG:St->Hp->Prop}(q:QG σ H):wk X [] [] σ H QG:=by
 intro ϵ s us I r;cases r;show assignInOrder_nil #[σ,H,I,q]
def Κ{a:List Ϫ}{vs:List V}{QG:St->Hp->Prop}(h:EG X e v σ H λσ' H'=>wk X a vs σ' H' QG)(hs:(apW (e::a) X.env).map (·.2)=assign e X.env::(apW a X.env).map (·.2):=by rfl):wk X (e::a) (v::vs) σ H QG:=by
 intro ϵ s us I r;cases r with
 |cons r c=>
  rw[hs];show assignInOrder_cons (υ (h ϵ s _ I r) λ_ f g=>?_);let#[i,H1,j,l]:=g;show l ϵ f _ j c
def aJ{n:Nat}{k:Nat}{QG:St->Hp->Prop}{q:δ}{xs:List V}(a:ψ X.K H q xs)(h:wk X es xs σ H QG)(f:X.calm=true:=by rfl)(g:↥(apW es X.env)=n:=by rfl)(i:(apW es X.env).findIdx? (·.1)=none:=by rfl)(j:↥xs=n:=by rfl):EG X (.Tuple es k pos) (.ref q) σ H QG:=by
 intro ϵ s u I r;cases r;let#[p,c,a,v]:=I.tuple a;show assign_Tuple_tuple (I.ok.hd f) a (by simp[g, <-j,↥c]) i λh' l=>?_
 let m:Inv X ϵ σ H {s with heap:=h'}:=I.kept (t':=s.toks) λb o e=>l b o (acb (abU e)) e
 show h ϵ _ _ m (~~~c)
def sV{tg iter:Ϫ}{body:List Ϩ}(B:ap5 ∅ X.A X.env X.xe)(S:X.calm=true)(hs:∀x,foldedSetIterable iter X.env x=pure x)(h:EI X tg iter σ H λJ H1=>∃W:Nat->Nat->St->Hp->Prop,(∃m,W 0 m σ H1)/\∀i m σ H,W i m σ H->
   (J.stop i H/\D.nx σ H)\/(J.go i H/\∃N:St->Hp->Prop,(∀σ' H',N σ' H'->∃m',m'<m/\W (i+1) m' σ' H')/\∀x H',J.yld i H x H'->EG X tg x σ H' λL H2=>Ι X body {D with nx:=N,ct:=N,bk:=D.nx} L H2)):SX X (.For tg iter body [] pos) D σ H:=by
 intro ϵ s I;show wpAny_For (υ (h ϵ s I) λv s1 h1=>υ h1 λitv s2 h2=>?_) hs;let#[it,fp,U,J,H2,e,I2,T,M,Y,W,#[m0,w0],turn]:=h2;subst e;let c:∀{H':Hp},(∀b∈fp,H' b=none)->∀b∈fp,bK X ϵ H' b:=λhn b l=>#[hn b l,(Y b l).2]
 show codeAny_forLoop_any (λn s'=>∃i σ' H',Inv X ϵ σ' H' s'/\U i s'.heap/\(∀b∈fp,H' b=none)/\W i n σ' H') ?_ m0 #[0,σ,H2,I2,M,λb l=>(Y b l).1,w0]
 rintro n Z ⟨i,p,G,I3,C,E,w3⟩
 obtain⟨stop,qn⟩|⟨go,N,hN,step⟩:=turn i n p G w3
 .show apy B (υ (T.done X rfl rfl rfl S i ϵ Z p G X.xe I3 (c E) C stop) λr s4 y=>?_);let#[O,I4]:=y;subst O;show wpAny_execs_nil #[p,G,I4,qn]
 .show apy B (υ (T.item X rfl rfl rfl S i ϵ Z p G X.xe I3 (c E) C go) λr s4 y=>?_);let#[u,O,h4]:=y;subst O;show apy B (υ h4 λ_ s5 y=>?_);let#[x,H5,I5,r5,y5,z,P]:=y;let Q:=I5.pinned (c P) (T.obj<*z);show apy B (υ ((step x H5 y5) _ s5 u Q r5) λ_ s6 y=>?_);let#[σ6,H6,I6,q6]:=y;show apy B (υ (q6 _ s6 I6) λf R q=>?_);let again:∀{a:St}{g:Hp},Inv X (ϵ++gY fp s5.heap) a g R->N a g->∃m,m<n/\∃i σ' H',Inv X ϵ σ' H' R/\U i R.heap/\(∀b∈fp,H' b=none)/\W i m σ' H':=λ{a g} j F=>by
   let#[m',hm,w7]:=hN a g F;show#[m',hm,i+1,a,g,j.unpinned,T.keep _ _ _ z λb l o e=>(j.pin (b,o) (adV _ (adV _ (yx l e)))).1,λb l=>?_,w7];let#[o,e,d]:=T.obj _ _ z b l;show(j.pin (b,o) (adV _ (adV _ (yx l e)))).2.1
  cases f with
  |next=>let#[a,g,j,F]:=q;show again j F
  |cont=>let#[a,g,j,F]:=q;show again j F
  |brk=>let#[a,g,j,q]:=q;show#[a,g,j.unpinned,q]
  |ret v=>let#[x7,a,g,j,r7,q]:=q;show#[x7,a,g,j.unpinned,r7,q]
def tH{tg l:Ϫ}{R:It->Hp->Prop}(h:EV X l σ H λx H1=>∃a,x=.ref a/\(∃xs,θ X.K H1 a xs)/\R (j5 X.K a) H1):EI X tg l σ H R:=by
 intro ϵ s I;show υ (h ϵ s I) λv c g=>?_
 let#[x,H1,f,r1,i]:=g;let#[a,e,#[xs,j],q]:=i;subst e;cases r1;let#[n,u,p,y]:=f.list j;show wpAny_pyIter_list p.isList ?_*>#[⇑c,[⇑c],_,_,H1,rfl,f.kept (t':=c.toks) λb o e=>aai _ e,acU a _,#[_,abM _ rfl,rfl,rfl],λb m=>?_,q];let e:b=⇑c:= ~~~m
 subst e;show f.fpOk (Ϭ _) (f.hok.fresh (Ϭ _))
def age{tg l:Ϫ}{R:It->Hp->Prop}(h:EV X l σ H λx H1=>∃a,x=.ref a/\(∃xs,ψ X.K H1 a xs)/\R (qW X.K a) H1):EI X tg l σ H R:=by
 intro ϵ s I;show υ (h ϵ s I) λv c g=>?_
 let#[x,H1,f,r1,i]:=g;let#[a,e,#[xs,j],q]:=i;subst e;cases r1;let#[m,u,p,y]:=f.tuple j;show wpAny_pyIter_tuple (show c.heap.IsTuple a m.toArray from p) ?_*>#[⇑c,[⇑c],_,_,H1,rfl,f.kept (t':=c.toks) λb o e=>aai _ e,aeu a _,#[_,abM _ rfl,rfl,rfl],λb n=>?_,q];let e:b=⇑c:= ~~~n
 subst e;show f.fpOk (Ϭ _) (f.hok.fresh (Ϭ _))
def Xf{tg:Ϫ}{R:It->Hp->Prop}(f:Gl X "range")(g:X.mg "range"=none)(hs:ϳ [a] X.env=[(false,eval a X.env)])(h:EA X [a] σ H λvs H1=>∃j:Int,vs=[.int j]/\ -(2^62)<=j/\j<2^62/\R (lD 0 j.toNat) H1):EI X tg (.Call (.Name "range" p) [a] [] pos) σ H R:=by
 intro ϵ s I;show Call_ (jE I f g boot_range (PyProof.Rows.callWith_type1 (υ (h pos ϵ s I) λus o i=>?_) hs rfl));let#[vs,H1,l,r1,c]:=i;let#[j,e,c,m,q]:=c;subst e;cases r1 with
 |cons r n=>
  cases n;let#[t,rfl]:=r;show call_range_1 (adG l () () c m (~~~q))
theorem aP{Q':VK}(h:EV X e σ H Q)(m:∀v H',Q v H'->Q' v H'):EV X e σ H Q':=λϵ s I=>υ (h ϵ s I) λ_ _ z=>by let#[v,H',a,r,q]:=z;show #[v,H',a,r,m v H' q]
theorem xg{st:Ϩ}{c:Ends}(h:SX X st D σ H)(e:∀σ H,D.nx σ H->c.nx σ H)(g:∀v H,D.rt v H->c.rt v H)(i:∀σ H,D.bk σ H->c.bk σ H)(j:∀σ H,D.ct σ H->c.ct σ H):SX X st c σ H:=λϵ s I=>υ (h ϵ s I) λf _ q=>by
 cases f with
 |next=>let#[σ',H',a,q]:=q;show#[σ',H',a,e<*q]
 |brk=>let#[σ',H',a,q]:=q;show#[σ',H',a,i<*q]
 |cont=>let#[σ',H',a,q]:=q;show#[σ',H',a,j<*q]
 |ret u=>let#[v,σ',H',a,r,q]:=q;show#[v,σ',H',a,r,g<*q]
theorem bj{f:ε->ε->Sem ε}{r:R2}{y z:V}(h:aV X f r)(q:r y z H Q):OP X f y z H Q:=#[r,h,q]
variable{i j:Int}{k k':Bool}{z z':Str}
theorem agP(q:Q (.int (i+j)) H):OP X (binaryOp .Add) (.int i) (.int j) H Q:=bj al3 #[i,j,rfl,rfl,q]
theorem am8(q:Q (.int (i-j)) H):OP X (binaryOp .Sub) (.int i) (.int j) H Q:=bj ahp #[i,j,rfl,rfl,q]
theorem amt(c:yc i j)(q:Q (.int (i*j)) H):OP X (binaryOp .Mult) (.int i) (.int j) H Q:=bj afN #[i,j,rfl,rfl,c,q]
theorem aeR(c:0<j)(q:Q (.int (i % j)) H):OP X (binaryOp .Mod) (.int i) (.int j) H Q:=bj adJ #[i,j,rfl,rfl,c,q]
theorem IK(c:Uo i j)(q:Q (.int (i^j.toNat)) H):OP X (binaryOp .Pow) (.int i) (.int j) H Q:=bj agg #[i,j,rfl,rfl,c,q]
theorem ajd(q:Q (.bl (decide (i<j))) H):OP X (adA .Lt) (.int i) (.int j) H Q:=bj aeA #[i,j,rfl,rfl,q]
theorem afP(q:Q (.bl (decide (i<=j))) H):OP X (adA .LtE) (.int i) (.int j) H Q:=bj anH #[i,j,rfl,rfl,q]
theorem aeP(q:Q (.bl (decide (j<i))) H):OP X (adA .Gt) (.int i) (.int j) H Q:=bj amK #[i,j,rfl,rfl,q]
theorem amu(q:Q (.bl (decide (j<=i))) H):OP X (adA .GtE) (.int i) (.int j) H Q:=bj ak2 #[i,j,rfl,rfl,q]
theorem ZJ{y z:V}(s:wL y z=true)(q:Q (.bl (decide (y=z))) H):OP X (adA .Eq) y z H Q:=bj aoa #[s,q]
theorem acV{y z:V}(s:wL y z=true)(q:Q (.bl (!decide (y=z))) H):OP X (adA .NotEq) y z H Q:=bj afg #[s,q]
theorem al4(q:Q (.bl (decide (z.cps.toList<z'.cps.toList))) H):OP X (adA .Lt) (.str z) (.str z') H Q:=bj aje #[z,z',rfl,rfl,q]
theorem ajj(q:Q (.bl (!(Builtin.Str.occurrences z' z 0 ↥z' 1).isEmpty)) H):OP X (adA .In) (.str z) (.str z') H Q:=bj alS #[z,z',rfl,rfl,q]
theorem ae2(q:Q (.bl (!(!(Builtin.Str.occurrences z' z 0 ↥z' 1).isEmpty))) H):OP X (adA .NotIn) (.str z) (.str z') H Q:=bj afl #[z,z',rfl,rfl,q]
theorem agU{y:V}(q:Q (.bl (decide (y=.non))) H):OP X (adA .Is) y .non H Q:=bj anF #[rfl,q]
theorem alq{y:V}(q:Q (.bl (!decide (y=.non))) H):OP X (adA .IsNot) y .non H Q:=bj akV #[rfl,q]
theorem tU(c:↥z+↥z'<=ϱ)(q:Q (.str (z++z')) H):OP X (binaryOp .Add) (.str z) (.str z') H Q:=bj ajH #[z,z',rfl,rfl,c,q]
theorem ajl(q:Q (.int (-i)) H):UN X (unaryOp .USub) (.int i) H Q:=#[_,aeN,i,rfl,q]
theorem cI{f:ε}{r:List V->Hp->VK->Prop}{vs:List V}(h:iY X f r)(q:r vs H Q):CL X f vs H Q:=#[r,h,q]
theorem Km{q:δ}{ys:List V}(h:θ X.K H q ys\/ψ X.K H q ys)(g:Q (.int ↥ys) H):CL X (.builtin "len") [.ref q] H Q:=cI amB #[q,ys,rfl,h,g]
theorem ab6(h:↥z<=ϱ)(g:Q (.int ↥z) H):CL X (.builtin "len") [.str z] H Q:=cI ajx #[z,rfl,h,g]
theorem Rc(a:X.calm=true)(g:Q (.int (if j<i then j else i)) H):CL X (.builtin "min") [.int i,.int j] H Q:=cI (afH a) #[i,j,rfl,g]
theorem afI(a:X.calm=true)(g:Q (.int (if j>i then j else i)) H):CL X (.builtin "max") [.int i,.int j] H Q:=cI (aiH a) #[i,j,rfl,g]
theorem lq(h:i.natAbs.log2<1920)(g:Q (.str (toString i)) H):CL X (.type "str") [.int i] H Q:=cI aj0 #[i,rfl,h,g]
theorem rK{q:δ}{ys:List V}(h:θ X.K H q ys\/ψ X.K H q ys)(g:∀l,H l=none->Q (.ref l) (upd H l (.lst ys))):CL X (.type "list") [.ref q] H Q:=cI akG #[q,ys,rfl,h,g]
theorem zF{r:R2}{y z:V}(h:qO X r)(q:r y z H Q):IX X y z H Q:=#[r,h,q]
theorem Φ{q:δ}{xs:List V}(h:θ X.K H q xs)(e:ύ xs i=↑v)(g:Q v H):IX X (.ref q) (.int i) H Q:=zF acX #[q,xs,i,v,rfl,rfl,h,e,g]
theorem gH{q:δ}{xs:List V}(h:ψ X.K H q xs)(e:ύ xs i=↑v)(g:Q v H):IX X (.ref q) (.int i) H Q:=zF abl #[q,xs,i,v,rfl,rfl,h,e,g]
theorem um{n:Nat}(h:↥z<=ϱ)(e:ύ z.cps.toList i=↑n)(g:Q (.str #[#v[n]]) H):IX X (.str z) (.int i) H Q:=zF ais #[z,i,n,rfl,rfl,h,e,g]
theorem bw{q:δ}{xs:List V}{lo hi:Option Int}(h:θ X.K H q xs)(g:∀p,H p=none->Q (.ref p) (upd H p (.lst (aq xs lo hi)))):SL X (.ref q) lo hi H Q:=#[_,acC,q,xs,rfl,h,g]
def ada{y:V}{t:ε}{T:String}(ty:dJ X.K H y t)(e:aoY X.K t (.type T)=↑k)(g:Q (.bl k) H):CL X (.builtin "isinstance") [y,.ty T] H Q:=by
 show#[λxs H Q=>∃y t T k,xs=[y,.ty T]/\dJ X.K H y t/\aoY X.K t (.type T)=↑k/\Q (.bl k) H,?_,y,t,T,k,rfl,ty,e,g];intro ϵ s σ H xs us Q I r h;let#[y,t,T,k,rfl,ty,e,g]:=h;let#[f,a,rfl,r1,c]:=vals2 r;cases(show a=Value.type T from c);show anb I r1 ty e λtk=>#[.bl k,H,I.tok tk,rfl,g]
end
def Ln(x:Str):It:=#[λi _=>i<x.cps.size,λi H v H'=>H'=H/\∃c,x.cps[i]?=↑c/\v=.str #[#v[c]],λi _=>x.cps.size<=i]
theorem agH{P:ϰ}{w:Ϯ}{K:PySem.W.Frag}{tg:Ϫ}{T:String}(l:T="str_ascii_iterator"\/T="str_iterator")(it:δ)(x:Str)(t:Tok):Turn P w K tg (Ln x) [it] it (λi h=>h.IsStrIter it T x t i)where
 mem:=by simp
 obj:=λi h st b a=>by
  let e:b=it:= ~~~a
  subst e;let#[o,e,c,d]:=st;show#[o,e,λv z=>by rw[d]at z;cases z]
 keep:=λi h h' st k=>by
  let#[o,e,c,d]:=st;show#[o,k it (by simp) o e,c,d]
 item:=by
  intro X D F G g i ϵ s σ H E I m st J;subst D F G;let#[p,q,M,y,B,C]:=m it (by simp);let f:i<x.cps.size:=J;let O:∃W:Nat->ϫ->Prop,Walks X.prog X.w X.A it [it] [it] x.cps.size (SignAt x) W/\W=λi h=>h.IsStrIter it T x t i:=by
   obtain rfl|rfl:=l
   .show#[_,Walks.strAscii (I.ok.hd g) it x t,rfl]
   .show#[_,Walks.strWide (I.ok.hd g) it x t,rfl]
  let#[_,W,rfl]:=O;show W.item i s _ _ f st λv h' tk Q j kk=>?_
  let#[c,u,e1,rfl]:=Q;let R:Inv X ϵ σ H {s with heap:=h',toks:=tk}:=I.turned (λb o a e=>kk b o (~~~a) e) p q y B C;let#[o,e,S,d]:=id j;show#[_,rfl,uI (s:={s with heap:=h',toks:=tk}) (n:=T) e S d (by obtain rfl|rfl:=l<;>decide) ⟨.str ⟨#v[c]⟩,H,R,⟨u,rfl⟩,⟨rfl,c,e1,rfl⟩,j,λb a=>(m b a).1⟩]
 done:=by
  intro X D F G g i ϵ s σ H E I m st J;subst D F G;let#[p,q,M,y,B,C]:=m it (by simp);let f:x.cps[i]?=none:=aow J;obtain rfl|rfl:=l
  .show wpAny_pyNext_ascii_end (I.ok.hd g) st f λh' L=>#[rfl,I.turned (t':=s.toks) (λb o a e=>L b o a e) p q y B C]
  .show wpAny_pyNext_wide_end (I.ok.hd g) st f λh' L=>#[rfl,I.turned (t':=s.toks) (λb o a e=>L b o a e) p q y B C]
 self:=λ_ _ _ _ _ st h=>by
  obtain rfl|rfl:=l
  .show wpAny_pyIter_striter_ascii st h
  .show wpAny_pyIter_striter_wide st h
section
variable{X:Cx}{tg l:Ϫ}{σ:St}{H:Hp}{R:It->Hp->Prop}
def Tc(h:EV X l σ H λx H1=>∃z,x=.str z/\R (Ln z) H1):EI X tg l σ H R:=by
 intro ϵ s I;show υ (h ϵ s I) λv a g=>?_
 let#[x,H1,f,r1,z,e,q]:=g;subst e;let#[t,rfl]:=r1
 let c:∀T:String,(T="str_ascii_iterator"\/T="str_iterator")->
   Bq X ϵ σ tg R (.ref ⇑a) {a with heap:=a.heap.push {cls:=.type T,data:=.fields #v[.str z t,.int 0 0]}}:=λT i=>by
  show#[⇑a,[⇑a],_,_,H1,rfl,f.kept (t':=a.toks) λb o e=>aai _ e,agH i _ z t,#[_,abM _ rfl,rfl,rfl],λb j=>?_,q];let e:b=⇑a:= ~~~j
  subst e;show f.fpOk (Ϭ _) (f.hok.fresh (Ϭ _))
 cases ha:z.cps.all (· <128)
 .show wpAny_pyIter_wide ha (c _ (.inr rfl))
 .show wpAny_pyIter_ascii ha (c _ (.inl rfl))
end
def bN(N' N:List Str)(σ:St)(scope:aiZ):St:=N'.map λx=>if scope.names.lookup x=↑.free then fG N σ x else none
def bW(X:Cx)(N':List Str)(scope:aiZ)(cl:List (Str×δ))(C:δ)(s:ν)(H:Hp)(fp:List δ):Cx:=
 {X with N:=N',s₀:=s,H₀:=H,env:=compEnvC scope cl C X.env,outer:=X.stack,stack:=X.stack,ex:=fp,fn:=λ_=>false,pn:=[],xe:=λ_ _=>False}
def Ko(X:Cx)(ifs:List Ϫ)(σ:St)(H:Hp)(Q:Bool->Hp->Prop):Prop:=
 ∀(ϵ:List (δ×Obj))(s:ν),Inv X ϵ σ H s->
  π ∅ X.A (forIn ifs true λc r=>if r=true then do let ok<-isTrue c X.env (eval c X.env);pure (ForInStep.yield ok)else pure (ForInStep.yield r)) (TP X ϵ σ Q) X.xe s
theorem Hv(env:Env):∀(f:List (Str×aqu))(cs:List (Str×δ)),(∀y∈f,y.2=.free->∃c,env.cells.lookup y.1=↑c)->
  (forIn f cs (λ(x:Str×aqu)(r:List (Str×δ))=>if(x.2==NameKind.free)=true then do let a<-cellOf env x.1;pure (ForInStep.yield ((x.1,a)::r))else pure (ForInStep.yield r)):Sem (List (Str×δ)))=
   pure (f.foldl (λcs y=>if y.2==.free then(y.1,(env.cells.lookup y.1).getD 0)::cs else cs) cs)
 |[],cs,_=>by simp
 |(n,k)::r,cs,h=>by
  rw[arQ];by_cases j:k=.free
  .subst j;let#[c,e]:=h (n,.free) ad1 rfl;let m:cellOf env n=pure c:=by
    unfold cellOf;let g:env.cells.lookup n=↑c:=e;rw[g]
   simp only[beq_self_eq_true,if_true,m,pure_bind];let g:env.cells.lookup n=↑c:=e;rw[Hv env r _ λy i=>h y (abk _ i),aiV];simp only[beq_self_eq_true,if_true,g,atu]
  .let l:(k==NameKind.free)=false:= ~~~j
   simp only[l,aqh,if_false,pure_bind];rw[Hv env r _ λy i=>h y (abk _ i),aiV];simp only[l,aqh,if_false]
def ώ(scope:aiZ)(env:Env):List (Str×δ):=scope.names.foldl (λcs y=>if y.2==.free then(y.1,(env.cells.lookup y.1).getD 0)::cs else cs) []
def xG{scope:aiZ}{env:Env}(h:∀y∈scope.names,y.2=.free->∃c,env.cells.lookup y.1=↑c):closureFor scope env=pure (ώ scope env):=by
 have:=Hv env scope.names [] h;unfold closureFor ώ;rw[<-this];simp
theorem Rb{env:Env}:∀(a:List (Str×aqu))(cs:List (Str×δ)),(∀y∈a,y.2=.free->∃c,env.cells.lookup y.1=↑c)->
  ∀x c,(a.foldl (λcs y=>if y.2==.free then(y.1,(env.cells.lookup y.1).getD 0)::cs else cs) cs).lookup x=↑c->(env.cells.lookup x=↑c\/cs.lookup x=↑c)
 |[],cs,_,x,c,e=>.inr e
 |(n,k)::r,cs,h,x,c,e=>by
  rw[aiV]at e;rcases Rb r _ (λy j=>h y (abk _ j)) x c e with q|q
  .show .inl q
  .by_cases g:k=.free
   .subst g;let#[c',l]:=h (n,.free) ad1 rfl;let i:env.cells.lookup n=↑c':=l;simp only[beq_self_eq_true,if_true,i,atu,af8]at q;cases hx:x==n with
    |true=>
     rw[hx]at q;let f:x=n:= ~~~hx
     subst f;show .inl (i<|>q)
    |false=>rw[hx]at q;show .inr q
   .let m:(k==NameKind.free)=false:= ~~~g
    rw[if_neg (by simp[m])]at q;show .inr q
theorem JN{env:Env}:∀(a:List (Str×aqu))(cs:List (Str×δ))(x:Str),((x,NameKind.free)∈a\/∃c,cs.lookup x=↑c)->
  ∃c,(a.foldl (λcs y=>if y.2==.free then(y.1,(env.cells.lookup y.1).getD 0)::cs else cs) cs).lookup x=↑c
 |[],cs,x,h=>by
  obtain h|h:=h
  .cases h
  .show h
 |(n,k)::r,cs,x,h=>by
  rw[aiV];show JN r _ x ?_;by_cases e:k=.free
  .subst e;simp only[beq_self_eq_true,if_true,af8];cases hx:x==n with
   |true=>show .inr #[_,rfl]
   |false=>
    obtain h|h:=h
    .obtain h|h:=aaz.mp h
     .cases h;simp at hx
     .show .inl h
    .show .inr h
  .let f:(k==NameKind.free)=false:= ~~~e
   rw[if_neg (by simp[f])];obtain h|h:=h
   .obtain h|h:=aaz.mp h
    .cases h;show absurd rfl e
    .show .inl h
   .show .inr h
theorem S6{env:Env}{x:Str}:∀{a:List (Str×aqu)},a.lookup x=↑.free->
  (a.map λ(n,k)=>if(k==NameKind.free&&env.scope.kind==.function&&env.kindOf n==↑.cell)then(n,NameKind.cell)else(n,k)).lookup x=↑.cell\/
  (a.map λ(n,k)=>if(k==NameKind.free&&env.scope.kind==.function&&env.kindOf n==↑.cell)then(n,NameKind.cell)else(n,k)).lookup x=↑.free
 |[],h=>by simp at h
 |(n,k')::r,h=>by
  let e:= @S6 env x r;show ajp x ((if(k'==NameKind.free&&env.scope.kind==.function&&env.kindOf n==↑.cell)=true then(n,NameKind.cell)else(n,k'))::_)=_\/ajp x ((if(k'==NameKind.free&&env.scope.kind==.function&&env.kindOf n==↑.cell)=true then(n,NameKind.cell)else(n,k'))::_)=_;cases hx:x==n with
  |true=>
   simp only[af8,hx]at h;cases h;by_cases c:(NameKind.free==NameKind.free&&env.scope.kind==.function&&env.kindOf n==↑.cell)=true
   .rw[if_pos c];left;simp only[af8,hx]
   .rw[if_neg c];right;simp only[af8,hx]
  |false=>
   simp only[af8,hx]at h;by_cases c:(k'==NameKind.free&&env.scope.kind==.function&&env.kindOf n==↑.cell)=true
   .rw[if_pos c];simp only[af8,hx];show e h
   .rw[if_neg c];simp only[af8,hx];show e h
theorem aa3{env:Env}{x:Str}:∀{a:List (Str×aqu)},(∀y∈a,y.2≠.cell)->
  ((a.map λ(n,k)=>if(k==NameKind.free&&env.scope.kind==.function&&env.kindOf n==↑.cell)then(n,NameKind.cell)else(n,k)).lookup x=↑.cell\/
  (a.map λ(n,k)=>if(k==NameKind.free&&env.scope.kind==.function&&env.kindOf n==↑.cell)then(n,NameKind.cell)else(n,k)).lookup x=↑.free)->(x,NameKind.free)∈a
 |[],_,h=>by simp at h
 |(n,k')::r,e,h=>by
  let g:= @aa3 env x r λy i=>e y (abk _ i)
  let h':ajp x ((if(k'==NameKind.free&&env.scope.kind==.function&&env.kindOf n==↑.cell)=true then(n,NameKind.cell)else(n,k'))::(r.map λ(n,k)=>if(k==NameKind.free&&env.scope.kind==.function&&env.kindOf n==↑.cell)then(n,NameKind.cell)else(n,k)))=↑.cell\/
   ajp x ((if(k'==NameKind.free&&env.scope.kind==.function&&env.kindOf n==↑.cell)=true then(n,NameKind.cell)else(n,k'))::(r.map λ(n,k)=>if(k==NameKind.free&&env.scope.kind==.function&&env.kindOf n==↑.cell)then(n,NameKind.cell)else(n,k)))=↑.free:=h
  cases hx:x==n with
  |true=>
   let f:x=n:= ~~~hx
   subst f;by_cases c:(k'==NameKind.free&&env.scope.kind==.function&&env.kindOf x==↑.cell)=true
   .have :k'=.free:=by simp only[aa9]at c;simpa using c.1.1
    subst this;show ad1
   .rw[if_neg c]at h';simp only[af8,hx]at h';obtain h'|h':=h'
    .cases h';show absurd rfl (e (x,.cell) ad1)
    .cases h';show ad1
  |false=>
   show abk _ (g ?_);by_cases c:(k'==NameKind.free&&env.scope.kind==.function&&env.kindOf n==↑.cell)=true
   .rw[if_pos c]at h';simpa only[af8,hx]using h'
   .rw[if_neg c]at h';simpa only[af8,hx]using h'
theorem akH{prog:ϰ}{w:Ϯ}{A:ϴ}{R:Result->ν->Prop}{s:ν}{elt a iter:Ϫ}{ifs:List Ϫ}{scope:aiZ}{pos:Pos}{it p:ε}{env:Env}(I:Nat->ν->Prop){Er:ε->ν->Prop}(u:∀x s,Er x s->notedBy (ϧ prog w) A env (λx s'=>R (.error x) s') x s)(turn:∀n s,I n s->π (ϧ prog w) A (pyNext it) (λr e=>match r with
   |none=>R (.ok .next) e
   |some v=>π (ϧ prog w) A (letOwnedTupleGo a it v) (λ_ f=>π (ϧ prog w) A (assign a env v) (λ_ i=>
    π (ϧ prog w) A (forIn ifs true λc r=>if r=true then do let ok<-isTrue c env (eval c env);pure (ForInStep.yield ok)else pure (ForInStep.yield r)) (λok g=>
     if ok=true then π (ϧ prog w) A (eval elt env) (λx j=>
      π (ϧ prog w) A (call (.builtin "list.append") [p,x]) (λ_ l=>∃m,m<n/\I m l) Er j) Er g
     else ∃m,m<n/\I m g) Er i) Er f) Er e) Er s)(n:Nat)(h:I n s):codeAny (ϧ prog w) A (.compLoop (.ListComp elt [#[a,iter,ifs,0]] scope pos) 0 it p env) R s:=by
 show codeAny_loop rfl I (λn s C=>?_) n h*>π _ A ((compTurn (.ListComp elt [#[a,iter,ifs,0]] scope pos) 0 it p env).onRaise (λx=>do noteFrame x env;theTreesLotGoes x)) _ _ s*>wpAny_noted ?_;rw[compTurn_list];show Ϧ (ag2 (Ϧ (ab9 (turn n s C) (λr e h₁=>?_) u)));cases r with
 |none=>show ϲ h₁
 |some v=>
  show Ϧ (ab9 h₁ (λ_ f q=>?_) u)*>Ϧ (ab9 q (λ_ i y=>Ϧ (ab9 y (λok g o=>?_) u)) u);cases ok with
  |false=>show ϲ #[rfl,o]
  |true=>
   show Ϧ (Ϧ (ab9 o (λx j z=>Ϧ (ab9 z (λ_ l B=>ϲ (ϲ #[rfl,B])) u)) u))
def tG(M:Model)(A:ϴ)(E:ε->ν->Prop)(use:Option (ε->Sem Unit))(Q:ε->ν->Prop)(c:ε)(C:Env)(r:Result)(s':ν):Prop:=
 match r,use with
 |.ok _,none=>∃m,s'.heap.Ns C.locals m/\∀h',an0 C.locals s'.heap h'->Q c {s' with heap:=h'}
 |.ok _,↑u=>π M A (u c) (λ_ a=>∃m,a.heap.Ns C.locals m/\∀h',an0 C.locals a.heap h'->Q .none {a with heap:=h'}) E s'
 |.error x,_=>∃m,s'.heap.Ns C.locals m/\∀h',an0 C.locals s'.heap h'->π M A (passOn "comprehension.variables-let-go" x C:Sem ε) (λ_ _=>False) E {s' with heap:=h'}
def zN{M:Model}{A:ϴ}{E:ε->ν->Prop}{s:ν}{env:Env}{e:Ϫ}{scope:aiZ}{pos:Pos}{c first:Sem ε}{g:Comprehension}{P:List Comprehension}{cl:List (Str×δ)}{use:Option (ε->Sem Unit)}{Q:ε->ν->Prop}(J:clausesOf e=g::P)(hs:∀x,foldedSetIterable g.iter env x=pure x)(q:closureFor scope env=pure cl)(a:scope.kind=.function)(j:∀x∈scope.names,x.2=.local->scope.names.lookup x.1=↑.local)(h:π M A first (λx l=>π M A (pyIter x) (λit n=>π M A c (λv o=>π M A (newFunctionEnv scope env.globals cl [] env.qual none .none ↑env) (λcenv p=>
   codeAny M A (.compStart e 0 it v {cenv with scope:=relabel scope env}) (tG M A E use Q v {cenv with scope:=relabel scope env}) p) E o) E n) E l) E s):π M A (comprehension e scope env pos c false first use) Q E s:=by
 unfold comprehension;rw[q,J];show Ϧ (ab9 h (λx l h₁=>Ϧ (ag2 (Ϧ (wpAny_of_eq (hs x) (Ϧ (acK (ab9 h₁ (λit n C=>wpAny_standIf (Ϧ (ab9 C (λv o D=>
  Ϧ (ϲ (Ϧ (ab9 D (λcenv p F=>?_) λ_ _ z=>z)))) λ_ _ z=>z))) λ_ _ z=>z))))))) λ_ _ z=>z)
 dsimp only;let H:∀x∈(scope.names.filter λx=>(x.2==.local||x.2==.cell)&&x.1 !=(".0":Str)).reverse,x.2=.local->Env.kindOf {cenv with scope:=relabel scope env} x.1=↑.local:=
  λx L I=>lookup_relabel_local (j x (alO.mp (apl.mp L)).1 I)
 let R:∀x∈(scope.names.filter λx=>(x.2==.local||x.2==.cell)&&x.1 !=(".0":Str)).reverse.drop 1++(scope.names.filter λx=>(x.2==.local||x.2==.cell)&&x.1 !=(".0":Str)).reverse.take 1,x.2=.local->Env.kindOf {cenv with scope:=relabel scope env} x.1=↑.local:=λx L I=>by
  obtain z|z:=acL.mp L
  .show H x (ak5 z) I
  .show H x (apf z) I
 show acK (Ϧ (wpAny_attempt (acK (wpAny_run (akz F λr s' B=>?_)))));cases r with
 |ok f=>
  cases use with
  |none=>
   let#[m,G,B]:=B;show Ϧ (acK (wpAny_comp_letGo (cenv:={cenv with scope:=relabel scope env}) a _ s' m H G λh' m' _ z=>ϲ (B h' z)))
  |some u=>
   show Ϧ (wpAny_rule (Ϧ (acK (ab9 B (λ_ O i=>?_) λ_ _ z=>z))));let#[m,G,i]:=i;show Ϧ (wpAny_comp_letGo (cenv:={cenv with scope:=relabel scope env}) a _ O m R G λh' m' _ z=>ϲ (i h' z))
 |error x=>
  let i:∃m,s'.heap.Ns cenv.locals m/\∀h',an0 cenv.locals s'.heap h'->π M A (passOn "comprehension.variables-let-go" x {cenv with scope:=relabel scope env}:Sem ε) (λ_ _=>False) E {s' with heap:=h'}:=by cases use<;>show B
  let#[m,G,B]:=i;show Ϧ (acK (wpAny_comp_letGo (cenv:={cenv with scope:=relabel scope env}) a _ s' m H G λh' m' _ z=>ab9 (B h' z) (λ_ _ f=>f.elim) λ_ _ y=>y))
abbrev Cx.tri(X:Cx)(F:ε->ν->Prop)(pn:List (δ×Obj)):Cx:={X with xe:=F,pn:=pn}
section
variable{X:Cx}{ϵ pins':List (δ×Obj)}{σ:St}{H:Hp}{s:ν}{F:ε->ν->Prop}
theorem Cx.Ok.tri(ok:X.Ok)(pn:List (δ×Obj)):(X.tri F pn).Ok:=
 #[ok.mod,ok.kind,ok.glob,ok.blt,ok.above,ok.inj,ok.has,ok.cab,ok.hd,ok.frames,ok.stk,ok.exf,ok.bs,ok.bsz,ok.noex,ok.exfs,ok.funs,ok.frf]
theorem Inv.tri(I:Inv X ϵ σ H s):Inv (X.tri F (X.pn++ϵ)) [] σ H s:=
 #[I.ok.tri _,I.os,I.bare,I.base,I.loc,I.cell,I.free,I.freeC,λp a=>I.pin p (~~~a),I.hok,I.len]
theorem Inv.lX(ok:X.Ok)(I:Inv (X.tri F (X.pn++ϵ)) pins' σ H s):Inv X ϵ σ H s:=
 #[ok,I.os,I.bare,I.base,I.loc,I.cell,I.free,I.freeC,λp a=>I.pin p (ajE _ a),I.hok,I.len]
end
abbrev cX(X:Cx)(N':List Str)(scope:aiZ)(cl:List (Str×δ))(C:δ)(s:ν)(H:Hp)(fp:List δ)(F:ε->ν->Prop):Cx:=(bW X N' scope cl C s H fp).tri F []
section
variable{X:Cx}{ϵ:List (δ×Obj)}{σ:St}{H H':Hp}{s s':ν}{scope:aiZ}{fp:List δ}{N':List Str}
structure bO(env:Env)(scope:aiZ):Prop where
 kind:scope.kind=.function
 free:∀y∈scope.names,y.2=.free->env.kindOf y.1=↑.cell\/env.kindOf y.1=↑.free
 cell:∀y∈scope.names,y.2≠.cell
 loc:∀y∈scope.names,y.2=.local->scope.names.lookup y.1=↑.local
theorem bO.has(S:bO X.env scope)(I:Inv X ϵ σ H s):∀y∈scope.names,y.2=.free->∃c,X.env.cells.lookup y.1=↑c:=λy a e=>I.ok.has y.1 (S.free y a e)
def bO.cl(S:bO X.env scope)(I:Inv X ϵ σ H s){x:Str}{c:δ}(h:(ώ scope X.env).lookup x=↑c):X.env.cells.lookup x=↑c:=by
 obtain q|q:=Rb scope.names [] (S.has I) x c h
 .show q
 .simp at q
theorem acg(S:bO X.env scope)(I:Inv X ϵ σ H s)(f:∀b∈fp,bK X ϵ H b)(g:∀b∈fp,b<⇑s):(bW X N' scope (ώ scope X.env) ⇑s s H fp).Ok where
 mod:=I.ok.mod
 kind:=S.kind
 glob:=I.ok.glob
 blt:=I.ok.blt
 above:=Ϭ _
 inj:=λx y c h1 h2=>I.ok.inj x y c (S.cl I h1) (S.cl I h2)
 has:=λx i=>JN (env:=X.env) scope.names [] x (.inl (aa3 S.cell i))
 cab:=λx c h _=>by cases h
 hd:=I.ok.hd
 frames:=I.ok.frames
 stk:=.inl rfl
 exf:=λb a=>#[acb (g b a),λx c h=>(f b a).2.2.2.2.1 x c (S.cl I h)]
 bs:=I.bs
 bsz:=adQ I.ok.bsz I.sz
 noex:=λb o e a=>by
  rcases(f b a).2.2.2.1 with z|z
  .show I.ok.noex b o e z
  .rw[(I.ok.bs b o e).1]at z;cases z
 exfs:=λb a z=>by
  rcases aaz.mp (I.stkSub b z)with e|e
  .show(f b a).2.1 e
  .show(f b a).2.2.1 e
 funs:=I.stack
 frf:=I.stkFree
def aob{N:List Str}{i:Nat}{x:Str}{v:V}(h1:N'[i]?=↑x)(h2:(bN N' N σ scope)[i]?=some ↑v):scope.names.lookup x=↑.free/\fG N σ x=↑v:=by
 unfold bN at h2;rw[acj,h1]at h2;let a:(if scope.names.lookup x=↑.free then fG N σ x else none)=↑v:= ~~~h2
 split at a
 .rename_i e;show#[e,a]
 .cases a
theorem ac2(S:bO X.env scope)(I:Inv X ϵ σ H s)(D:∀b∈fp,bK X ϵ H b)(g:∀b∈fp,b<⇑s){h₁:ϫ}{m:MG}{tk:Nat}(l:h₁.Ns ⇑s m)(a:∀b o,s.heap.get? b=↑o->h₁.get? b=↑o):Inv (bW X N' scope (ώ scope X.env) ⇑s s H fp) [] (bN N' X.N σ scope) H {s with heap:=h₁,toks:=tk}where
 ok:=acg S I D g
 os:=rfl
 bare:=I.bare
 base:=Un.kept a
 loc:=by
  show#[m,l,λi x v h1 h2 O=>?_];let#[e1,E]:=aob h1 h2;let#[j,F,G]:=K3 E;let y:(x,NameKind.free)∈scope.names:=PySem.mem_of_lookup e1;let hk:=S.free _ y rfl;let#[P,_,J]:=I.loc;let n:rF X.env.scope x:=.inr hk;let#[u,r,lk]:=J j x v F G n;show#[u,r,.inr #[S6 (env:=X.env) e1,?_]];obtain⟨k,_⟩|⟨_,c,e,z⟩:=lk
  .obtain hk|hk:=hk
   .let f:X.env.kindOf x=↑.cell:=hk;rw[f]at k;cases k
   .let f:X.env.kindOf x=↑.free:=hk;rw[f]at k;cases k
  .let#[L,B]:=JN (env:=X.env) scope.names [] x (.inl y);let C:=S.cl I (x:=x) (c:=L) B;rw[e]at C;cases C;let#[o,q,hd]:=z;show#[c,B,o,a<*q,hd]
 cell:=λx c h=>by
  let#[v,o,q,hd]:=I.cell x c (S.cl I h);show#[v,o,a<*q,hd]
 free:=I.hok.fresh (Ϭ _)
 freeC:=λx c h=>I.freeC x c (S.cl I h)
 pin:=λp M=>absurd (show p∈([]:List (δ×Obj))from M) (by simp)
 hok:=I.hok.kept a
 len:=by show(bN N' X.N σ scope).length=↥N';unfold bN;rw[ϭ]
def afa{i:St}(I:Inv X ϵ σ H s)(a:∀b∈fp,bK X ϵ H b)(J:Inv (bW X N' scope (ώ scope X.env) ⇑s s H fp) [] i H' s'):Inv X ϵ σ H' s':=by
 let#[j,g,d,t,f]:=s';let e:f=s.os:=J.os;subst e;show I.call (h':=j) (g':=g) (d':=d) (t':=t) (ch:=fp) J.base J.hok J.bare λb c=>#[(a b c).2.2.2.1,(a b c).2.1,(a b c).2.2.2.2.1,(a b c).2.2.2.2.2]
variable{elt iter tg:Ϫ}{ifs:List Ϫ}{pos:Pos}
def jz(X Y:Cx)(tg elt:Ϫ)(ifs:List Ϫ)(J:It)(D:δ)(σ':St)(H:Hp)(Q:Hp->Prop):Prop:=
 ∃W:Nat->Nat->St->Hp->Prop,(∃m,W 0 m σ' (upd H D (.lst [])))/\∀i m e H,W i m e H->
  (J.stop i H/\Q H)\/(J.go i H/\∃N:St->Hp->Prop,(∀c H',N c H'->∃m',m'<m/\W (i+1) m' c H')/\∀x H',J.yld i H x H'->
   EG Y tg x e H' λa H2=>Ko Y ifs a H2 λk f=>if k=true then EV Y elt a f λy g=>∃xs,g D=↑(.lst xs)/\↥xs<ϱ/\N a (upd g D (.lst (xs++[y])))else N a f)
def Ab{R:ε->Env->Result->ν->Prop}{it:δ}{U:Nat->ϫ->Prop}{J:It}{E:ε->ν->Prop}{Q:δ->Hp->Prop}(Fx:δ->Env->ε->ν->Prop)(hc:X.calm=true)(S:bO X.env scope)(I:Inv X ϵ σ H s)(T:Turn X.prog X.w X.K tg J fp it U)(st:U 0 s.heap)(hf:∀b∈fp,bK X ϵ H b)(ao:∀D C x s',Fx D C x s'->notedBy ∅ X.A C (λx s'=>R (.ref D) C (.error x) s') x s')(h:∀(D:δ)(s3:ν),H D=none->Inv X ϵ σ (upd H D (.lst [])) s3->(∀b∈fp,bK X ϵ (upd H D (.lst [])) b)->
   (∀{pins':List (δ×Obj)}{j:St}{H':Hp}{s':ν},Inv (cX X N' scope (ώ scope X.env) ⇑s3 s3 (upd H D (.lst [])) fp (Fx D (compEnvC scope (ώ scope X.env) ⇑s3 X.env))) pins' j H' s'->Inv X ϵ σ H' s')->
   jz X (cX X N' scope (ώ scope X.env) ⇑s3 s3 (upd H D (.lst [])) fp (Fx D (compEnvC scope (ώ scope X.env) ⇑s3 X.env))) tg elt ifs J D (bN N' X.N σ scope) H (Q D))(hR:∀(D:δ)(C:Env)(H':Hp)(s':ν),H D=none->Q D H'->Inv X ϵ σ H' s'->bK X ϵ H' C.locals->(∃m,s'.heap.Ns C.locals m)->R (.ref D) C (.ok .next) s'):π ∅ X.A (newList []) (λZ ab=>π ∅ X.A (newFunctionEnv scope X.env.globals (ώ scope X.env) [] X.env.qual none .none ↑X.env) (λcenv ac=>
   codeAny ∅ X.A (.compStart (.ListComp elt [#[tg,iter,ifs,0]] scope pos) 0 (.ref it) Z {cenv with scope:=relabel scope X.env}) (R Z {cenv with scope:=relabel scope X.env}) ac) E ab) E s:=by
 show wpAny_newObj_type ?_;let hD:H ⇑s=none:=I.hok.fresh (Ϭ _);generalize P:({s with heap:=s.heap.push {cls:=.type "list",dict:=none,data:=.seq ([]:List ε).toArray}}:ν)=s3;let Y:Inv X ϵ σ (upd H ⇑s (.lst [])) s3:=by
  subst P;show I.laid (t':=s.toks) (λb u e=>aai _ e) (Ϭ _) #[aht _,[],0,.nil,abM _ rfl]
 let hsz:⇑s3=⇑s+1:=by subst P;show arZ ..
 let ae:∀b o,s.heap.get? b=↑o->s3.heap.get? b=↑o:=λb o e=>by subst P;show aai _ e
 let K7:∀b∈fp,b<⇑s:=λb a=>by
  let#[o,e,_]:=T.obj _ _ st b a;show abU e
 let pG:∀b∈fp,bK X ϵ (upd H ⇑s (.lst [])) b:=λb a=>#[by rw[ι (acb (K7 b a))];show(hf b a).1,(hf b a).2]
 let ap:U 0 s3.heap:=T.keep _ _ _ st λb _ o e=>ae b o e
 let Nq:∀b∈fp,b<⇑s3:=λb a=>by rw[hsz];show aqJ (K7 b a)
 show wpAny_newFunctionEnv S.cell (by intro y hy;simp at hy) (λh₁ ar av=>?_) S.kind;let af:∀b o,s3.heap.get? b=↑o->h₁.get? b=↑o:=λb o e=>av.extBut b o (acb (abU e)) (aai _ e)
 let L:=h ⇑s s3 hD Y pG;generalize jO:compEnvC scope (ώ scope X.env) ⇑s3 X.env=Ce at L;generalize hF:Fx ⇑s Ce=F at L;let uF:Ce.locals=⇑s3:=by rw[<-jO];rfl
 generalize l:bW X N' scope (ώ scope X.env) ⇑s3 s3 (upd H ⇑s (.lst [])) fp=B;generalize Yp:({s3 with heap:=h₁,toks:=s3.toks+↥([]:List (Str×ε))}:ν)=s4;let Xv:Inv B [] (bN N' X.N σ scope) (upd H ⇑s (.lst [])) s4:=by
  subst Yp;rw[<-l];show ac2 S Y pG Nq ar af
 let ag:B.pn=[]:=by rw[<-l];rfl
 let ah:∀{pins':List (δ×Obj)}{j:St}{H':Hp}{s':ν},Inv (B.tri F []) pins' j H' s'->Inv X ϵ σ H' s':=λ{pins' j H' s'} J=>by
  let J2:Inv B [] j H' s':=Inv.lX (X:=B) (ϵ:=[]) (F:=F) (pins':=pins') Xv.ok (by rw[ag];show J);rw[<-l]at J2;show afa Y pG J2
 let hP:(B.tri F []).prog=X.prog:=by rw[<-l];rfl
 let hw:(B.tri F []).w=X.w:=by rw[<-l];rfl
 let hK:(B.tri F []).K=X.K:=by rw[<-l];rfl
 let hA:(B.tri F []).A=X.A:=by rw[<-l];rfl
 let Xg:(B.tri F []).calm=true:=by rw[<-l];show hc
 let ai:(B.tri F []).env=Ce:=by rw[<-l, <-jO];rfl
 let O:(B.tri F []).env.locals=⇑s3:=by rw[ai,uF]
 rw[show cX X N' scope (ώ scope X.env) ⇑s3 s3 (upd H ⇑s (.lst [])) fp F=B.tri F []from by rw[<-l]]at L;let#[W,#[m0,w0],turn]:=L ah;let I4:Inv (B.tri F []) [] (bN N' X.N σ scope) (upd H ⇑s (.lst [])) s4:=by
  have:=Xv.tri (F:=F);rw[ag]at this;show this
 let qU:U 0 s4.heap:=by
  subst Yp;show T.keep _ _ _ ap λb _ o e=>af b o e
 let DK:∀b∈fp,∀H':Hp,H' b=none->bK (B.tri F []) [] H' b:=λb a H' e=>by
  rw[<-l];show#[e,acb (Nq b a),λz=>?_,.inl a,λx c q=>(pG b a).2.2.2.2.1 x c (S.cl Y q),λp hp=>absurd (show p∈([]:List (δ×Obj))from hp) (by simp)];rcases aaz.mp (Y.stkSub b z)with e|e
  .show(hf b a).2.1 e
  .show(hf b a).2.2.1 e
 let G:codeAny ∅ X.A (.compLoop (.ListComp elt [#[tg,iter,ifs,0]] scope pos) 0 (.ref it) (.ref ⇑s) Ce) (R (.ref ⇑s) Ce) s4:=by
  show akH (Er:=F) (λn s'=>∃i j H',Inv (B.tri F []) [] j H' s'/\U i s'.heap/\(∀b∈fp,H' b=none)/\W i n j H') (λx s z=>ao _ _ x s (by rw[hF];show z)) ?_ m0 #[0,_,_,I4,qU,λb a=>(pG b a).1,w0]
  rintro n s5 ⟨i,j,H5,I5,al,am,w5⟩
  let M:∀{α:Type}{t:Sem α}{Q:α->ν->Prop}{s:ν},π (ϧ (B.tri F []).prog (B.tri F []).w) (B.tri F []).A t Q (B.tri F []).xe s->π ∅ X.A t Q F s:=λh=>by
   rw[hP,hw,hA]at h;show h
  rw[<-ai];obtain⟨stop,qn⟩|⟨go,N,hN,step⟩:=turn i n j H5 w5
  .let q:=T.done (B.tri F []) hP hw hK Xg i [] s5 j H5 F I5 (λb a=>DK b a _ (am b a)) al stop;rw[hA]at q;show υ q λr s6 f=>?_
   let#[hr,I6]:=f;subst hr;show hR _ _ H5 s6 hD qn (ah I6) ?_ ?_
   .rw[O];show Y.fpOk (Ϭ _) ?_;have:=I6.free;rw[O]at this;show this
   .let#[m,hn,_]:=I6.loc;show#[m,hn]
  .let q:=T.item (B.tri F []) hP hw hK Xg i [] s5 j H5 F I5 (λb a=>DK b a _ (am b a)) al go;rw[hA]at q;show υ q λr s6 f=>?_
   let#[u,hr,h6]:=f;subst hr;show υ h6 λ_ s7 f=>?_
   let#[x,H7,I7,r7,y7,GX,aw]:=f;let ax:=I7.pinned (λb a=>DK b a _ (aw b a)) (T.obj<*GX);let Qx:∀{an:St}{H8:Hp}{s8:ν},Inv (B.tri F []) ([]++gY fp s7.heap) an H8 s8->U (i+1) s8.heap/\∀b∈fp,H8 b=none:=λ{an H8 s8} I8=>by
    show#[T.keep _ _ _ GX λb a o e=>(I8.pin (b,o) (adV _ (adV _ (yx a e)))).1,λb a=>?_];let#[o,e,d]:=T.obj _ _ GX b a;show(I8.pin (b,o) (adV _ (adV _ (yx a e)))).2.1
   show M (υ (step x H7 y7 _ s7 u ax r7) λ_ s8 f=>?_);let#[g,H8,I8,q8]:=f;show M (υ (q8 _ s8 I8) λok s9 f=>?_);let#[H9,I9,q9]:=f;cases ok with
   |false=>
    let Ju:N g H9:= ~~~q9
    let#[m',hm,w9]:=hN _ _ Ju;let#[k1,k2]:=Qx I9;show ∃m,_;show#[m',hm,i+1,g,H9,I9.unpinned,k1,k2,w9]
   |true=>
    let Ju:EV (B.tri F []) elt g H9 λy H4=>∃xs,H4 ⇑s=↑(.lst xs)/\↥xs<ϱ/\N g (upd H4 ⇑s (.lst (xs++[y]))):= ~~~q9
    show π _ _ _ _ _ _*>M (υ (Ju _ s9 I9) λz my f=>?_);let#[y,zL,ay,az,xs,aA,aB,aC]:=f;show M (υ (lL _ my g zL (.ref ⇑s) [y] _ [z] (λv Rr=>v=.non/\Rr=upd zL ⇑s (.lst (xs++[y]))) ay rfl (.cons az .nil) #[_,xs,y,rfl,rfl,aA,aB,rfl,rfl]) λ_ s11 f=>?_);let#[_,Rr,Yq,_,_,aE]:=f;subst aE;let#[m',hm,aI]:=hN _ _ aC;let#[k1,k2]:=Qx Yq;show#[m',hm,i+1,g,_,Yq.unpinned,k1,k2,aI]
 rw[<-jO]at G;show codeAny_compStart_list G (T.self X.A 0 s4 _ _ qU G)
def vD{Q:VK}(l:X.calm=true)(S:bO X.env scope)(hs:∀x,foldedSetIterable iter X.env x=pure x)(h:EI X tg iter σ H λJ H1=>∀(fp:List δ)(D C:δ)(a:ν),H1 D=none->jz X (bW X N' scope (ώ scope X.env) C a (upd H1 D (.lst [])) fp) tg elt ifs J D (bN N' X.N σ scope) H1 (λH'=>Q (.ref D) H')):EV X (.ListComp elt [#[tg,iter,ifs,0]] scope pos) σ H Q:=by
 intro ϵ s I;rw[eval_ListComp];show zN (use:=none) rfl hs (xG (S.has I)) S.kind S.loc (υ (h ϵ s I) λv P h1=>υ h1 λn U h2=>?_);let#[it,fp,W,J,H2,e,p,T,c,q,u]:=h2;subst e;show Ab (λ_ _ _ _=>False) (R:=λf C=>tG ∅ X.A X.xe none (EP X ϵ σ Q) f C) (Q:=λD H'=>Q (.ref D) H') l S p T c q (λ_ _ _ _ z=>z.elim) (λD a j _ _ _=>u fp D _ a j) λD C H' s' j y IX B g=>?_
 let#[m,g]:=g;let#[E,F,Y,G,L,M]:=B;show#[m,g,λh' i=>#[.ref D,H',IX.turned (t':=s'.toks) (λb o O e=>i.extBut b o O e) E F G L M,rfl,y]]
def amz{D:Ends}{y:Str}{py spos:Pos}{j:Nat}(c:ao7 (.ListComp elt [#[tg,iter,ifs,0]] scope pos) ↑(.Name y py) spos.line X.env=pure true)(L:X.calm=true)(S:bO X.env scope)(hs:∀x,foldedSetIterable iter X.env x=pure x)(M:X.N.Nodup)(hi:nameAt X.N y=↑j)(u:X.env.scope.names.lookup y=↑.local)(h:EI X tg iter σ H λJ H1=>∀(fp:List δ)(E C:δ)(f:ν),H1 E=none->jz X (bW X N' scope (ώ scope X.env) C f (upd H1 E (.lst [])) fp) tg elt ifs J E (bN N' X.N σ scope) H1 (λH'=>D.nx (σ.set j ↑(.ref E)) H')):SX X (.Assign [.Name y py] (.ListComp elt [#[tg,iter,ifs,0]] scope pos) spos) D σ H:=by
 intro ϵ s I;rw[exec_Assign_Name_used _ _ _ _ c];show Ϧ (ag2 (Ϧ ?_));show π _ X.A (do let _<-comprehension (.ListComp elt [#[tg,iter,ifs,0]] scope pos) scope X.env _ (newList []) false (eval iter X.env) ↑(assign (.Name y py) X.env)) _ _ s;show Ϧ (ab9 (zN (use:=↑(assign (.Name y py) X.env)) (Q:=λ_ s'=>SP X ϵ D .next s') rfl hs (xG (S.has I)) S.kind S.loc
  (υ (h ϵ s I) λv s1 h1=>υ h1 λO s2 h2=>?_)) (λ_ s' P=>ϲ (ϲ P)) λ_ _ e=>e)
 let#[it,fp,tn,J,H2,e,U,T,g,W,Y]:=h2;subst e;show Ab (λ_ _ _ _=>False) (R:=λi C=>tG ∅ X.A X.xe ↑(assign (.Name y py) X.env) (λ_ s'=>SP X ϵ D .next s') i C) (Q:=λE H'=>D.nx (σ.set j ↑(.ref E)) H') L S U T g W (λ_ _ _ _ z=>z.elim) (λE f B _ _ _=>Y fp E _ f B) λE C H' s' B Z IX fC l=>?_
 let#[m,l]:=l;let#[f0,F,HR,f3,G,f5]:=fC;show π _ _ (assign (.Name y py) X.env (.ref E)) _ _ _*>wpAny_assign_Name (tK IX M (lE hi) (.inl u) (v:=.ref E) rfl (λn Fg p=>?_) (.inr u));let#[a,sb,ha]:=p;let Eu:C.locals≠a:=by
  obtain ha|ha:=ha
  .rw[ha];show F
  .intro z;show G y a ha z.symm
 show#[m,l.sameBut sb Eu,λh' q=>#[σ.set j ↑(.ref E),H',Fg.turned (t':=n.toks) (λb o p e=>q.extBut b o p e) f0 F f3 G f5,Z]]
theorem V5{Q:Bool->Hp->Prop}(q:Q true H):Ko X [] σ H Q:=λϵ s I=>by
 rw[asM];show ϲ #[H,I,q]
theorem ajf{c:Ϫ}{Q:Bool->Hp->Prop}(h:ET X c σ H Q):Ko X [c] σ H Q:=λϵ s I=>by
 rw[arQ];simp only[if_true];show Ϧ (Ϧ (υ (h ϵ s I) λk a q=>ϲ ?_));dsimp only;rw[asM];show ϲ q
end
def Ζ{c A B:Prop}[Decidable c](h1:c->A)(h2:¬c->B):if decide c=true then A else B:=by
 by_cases h:c
 .rw[if_pos (decide_eq_true h)];show h1 h
 .rw[if_neg (~~~h)];show h2 h
theorem fM{c A B:Prop}[Decidable c](q:B)(h:¬c:=by fin2):if decide c=true then A else B:=Ζ (λz=>absurd z h) λ_=>q
theorem iy{c A B:Prop}[Decidable c](q:A)(h:c:=by rfl):if decide c=true then A else B:=Ζ (λ_=>q) λz=>absurd h z
def cC{c A B:Prop}[Decidable c](h1:¬c->A)(h2:c->B):if(!decide c)=true then A else B:=by
 by_cases h:c
 .rw[if_neg (by simp[h])];show h2 h
 .rw[if_pos (by simp[h])];show h1 h
def rQ{k:Bool}{A B:Prop}(h1:k=true->A)(h2:k=false->B):if k=true then A else B:=by
 cases k with
 |true=>rw[if_pos rfl];show h1 rfl
 |false=>rw[if_neg aaP];show h2 rfl
def Cv{k:Bool}{A B:Prop}(h1:k=false->A)(h2:k=true->B):if(!k)=true then A else B:=by
 cases k with
 |true=>rw[if_neg (by decide)];show h2 rfl
 |false=>rw[if_pos (by decide)];show h1 rfl
def ady{A B:Prop}(h:B):if(!true)=true then A else B:=by rw[if_neg (by decide)];show h
def acy{A B:Prop}(h:A):if(!false)=true then A else B:=by rw[if_pos (by decide)];show h
theorem ζ.upd{H:Hp}{p:δ}{o:HO}(h:H p=none):ζ H (_L.upd H p o):=λb u e=>by rw[ι (Ξ e h)];show e
theorem Η{H:Hp}{p:δ}(h:H p=none)(o:HO):ζ H (upd H p o)/\(upd H p o) p=↑o:=#[ζ.upd h,ξ]
section
variable{X:Cx}{a e:Ϫ}{σ:St}{H:Hp}{Q:VK}{D:Ends}{pos p p':Pos}
def af3{tg:Ϫ}{body:List Ϩ}(f:ap5 ∅ X.A X.env X.xe)(j:X.calm=true)(l:Gl X "range")(m:X.mg "range"=none)(hs:ϳ [a] X.env=[(false,eval a X.env)])(h:EV X a σ H λv H1=>∃n:Int,v=.int n/\ -(2^62)<=n/\n<2^62/\∃c:Nat->St->Hp->Prop,c 0 σ H1/\
   (∀i σ' H',i<n.toNat->c i σ' H'->EG X tg (.int i) σ' H' λe H2=>Ι X body {D with nx:=c (i+1),ct:=c (i+1),bk:=D.nx} e H2)/\∀σ' H',c n.toNat σ' H'->D.nx σ' H'):SX X (.For tg (.Call (.Name "range" p) [a] [] p') body [] pos) D σ H:=by
 show sV f j (by intro _;rfl) (Xf l m hs (gQ hs (aP h λv H1 q=>?_)));let#[n,rfl,h1,h2,c,o,s,hd]:=q;show dH #[n,rfl,h1,h2,?_]*>amo (g:=EG X tg) (tb:=Ι X body) c o (λi σ' H' hi u=>by rw[atm];show s i σ' H' hi u) hd
def uw{tg:Ϫ}{body:List Ϩ}(f:ap5 ∅ X.A X.env X.xe)(j:X.calm=true)(hs:∀x,foldedSetIterable e X.env x=pure x)(h:EV X e σ H λv H1=>∃q xs,v=.ref q/\θ X.K H1 q xs/\∃a:Nat->St->Hp->Prop,a 0 σ H1/\(∀i σ' H',i<=↥xs->a i σ' H'->θ X.K H' q xs)/\
   (∀i x σ' H',xs[i]?=↑x->a i σ' H'->EG X tg x σ' H' λc H2=>Ι X body {D with nx:=a (i+1),ct:=a (i+1),bk:=D.nx} c H2)/\∀σ' H',a ↥xs σ' H'->D.nx σ' H'):SX X (.For tg e body [] pos) D σ H:=by
 show sV f j hs (tH (aP h λv H1 q=>?_));let#[q,xs,rfl,l,a,m,n,o,hd]:=q;show#[q,rfl,#[xs,l],ah1 (g:=EG X tg) (tb:=Ι X body) a m n o hd]
def wO{tg:Ϫ}{body:List Ϩ}(j:ap5 ∅ X.A X.env X.xe)(l:X.calm=true)(hs:∀x,foldedSetIterable e X.env x=pure x)(h:EV X e σ H λv H1=>∃z:Str,v=.str z/\∃a:Nat->St->Hp->Prop,a 0 σ H1/\
   (∀i c σ' H',z.cps.toList[i]?=↑c->a i σ' H'->EG X tg (.str #[#v[c]]) σ' H' λf H2=>Ι X body {D with nx:=a (i+1),ct:=a (i+1),bk:=D.nx} f H2)/\∀σ' H',a ↥z.cps.toList σ' H'->D.nx σ' H'):SX X (.For tg e body [] pos) D σ H:=by
 show sV j l hs (Tc (aP h λv H1 q=>?_));let#[z,rfl,a,n,o,hd]:=q;show#[z,rfl,λi m σ H=>m=z.cps.size-i/\i<=z.cps.size/\a i σ H,#[z.cps.size,by simp,aht _,n],?_]
 rintro i m σ' H' ⟨rfl,hi,p⟩
 by_cases g:i<z.cps.size
 .show .inr #[g,a (i+1),λf H2 p2=>#[z.cps.size-(i+1),(),rfl,g,p2],λx H2 y=>?_];let#[e1,c,s,u]:=y;subst e1 u;show o i c σ' _ (~~~s) p
 .let e:i=z.cps.size:=()
  subst e;show .inl #[Ϭ _,hd σ' H' (~~~p)]
def NQ{Y:Cx}{elt:Ϫ}{J:It}{E:δ}{f:St}{Q:Hp->Prop}{y:Str}{py:Pos}{j:Nat}(U:Y.N.Nodup)(W:nameAt Y.N y=↑j)(M:Y.env.scope.names.lookup y=↑.local)(n:Nat)(hn:n<=ϱ)(q:Nat->V->Prop)(It:Nat->V->Prop)(O:H E=none)(go:∀i H1,ζ (upd H E (.lst [])) (upd H1 E (.lst []))->i<n->J.go i H1)(stop:∀H1,ζ (upd H E (.lst [])) (upd H1 E (.lst []))->J.stop n H1)(yld:∀i H1 x H2,i<n->ζ (upd H E (.lst [])) (upd H1 E (.lst []))->J.yld i H1 x H2->It i x/\H2=H1)(step:∀i x H1,i<n->It i x->ζ H H1->EV Y elt (f.set j ↑x) H1 λv H2=>q i v/\ζ H1 H2)(C:∀H1 xs,↥xs=n->(∀i v,xs[i]?=↑v->q i v)->H1 E=↑(.lst xs)->ζ H H1->Q H1):jz X Y (.Name y py) elt [] J E f H Q:=by
 let D:∀{H1:Hp},ζ H H1->ζ (upd H E (.lst [])) (upd H1 E (.lst [])):=λ{H1} s b o e=>by
  by_cases P:b=E
  .subst P;rw[ξ]at e⊢;show e
  .rw[ι P]at e⊢;show s b o e
 show#[λi m B H1=>m=n-i/\i<=n/\ζ H H1/\(B=f\/∃x,B=f.set j ↑x)/\∃xs,H1 E=↑(.lst xs)/\↥xs=i/\∀k v,xs[k]?=↑v->q k v,#[n,by simp,aht _,ζ.upd O,.inl rfl,[],ξ,rfl,λk v e=>by simp at e],?_]
 rintro i m B H1 ⟨rfl,hi,p,F,xs,R,G,S⟩
 by_cases g:i<n
 .show .inr #[go i H1 (D p) g,λl H'=>ζ H H'/\(l=f\/∃x,l=f.set j ↑x)/\∃xs,H' E=↑(.lst xs)/\↥xs=i+1/\∀k v,xs[k]?=↑v->q k v,λl H' z=>by let#[a,b,c]:=z;show #[n-(i+1),(),rfl,g,a,b,c],λx H2 y=>?_];let#[Z,e2]:=yld i H1 x H2 g (D p) y;subst e2;show Γ U (V5 ?_) W (.inl M) (.inr M);rw[if_pos rfl];let I:B.set j ↑x=f.set j ↑x:=by
   obtain e|⟨z,e⟩:=F
   .rw[e]
   .rw[e,List.set_set]
  rw[I];show aP (step i x H2 g Z p) λv H3 ⟨pv,T⟩=>#[xs,T<*R,(),?_]
  show#[λb o e=>?_,.inr #[x,rfl],xs++[v],ξ,by simp[G],λk u e=>?_]
  .rw[ι (Ξ e O)];show T<*(p<*e)
  .by_cases hk:k<↥xs
   .rw[aed hk]at e;show S k u e
   .let L:k=i:=by
     have:=(aab.mp e).1;rw[aa6,ahi]at this;omega
    subst L;rw[<-G,aoM]at e;cases e;show pv
 .let e:i=n:=()
  subst e;show .inl #[stop H1 (D p),C H1 xs G S R p]
def am9{elt:Ϫ}{scope:aiZ}{y:Str}{py:Pos}{j:Nat}(N':List Str){σ':St}(g:bN N' X.N σ scope=σ')(o:X.calm=true)(S:bO X.env scope)(u:N'.Nodup)(z:nameAt N' y=↑j)(B:scope.names.lookup y=↑.local)(D:Gl X "range")(F:X.mg "range"=none)(hs:ϳ [a] X.env=[(false,eval a X.env)])(h:EV X a σ H λv H1=>∃n:Int,v=.int n/\ -(2^62)<=n/\n.toNat<=ϱ/\∃e:Nat->V->Prop,
   (∀(fp:List δ)(E C:δ)(f:ν)(G:Hp)(i:Nat)(H2:Hp),i<n.toNat->ζ H1 H2->EV (bW X N' scope (ώ scope X.env) C f G fp) elt (σ'.set j ↑(.int i)) H2 λv I=>e i v/\ζ H2 I)/\
   ∀(E:δ)(H2:Hp)(xs:List V),H1 E=none->↥xs=n.toNat->(∀i v,xs[i]?=↑v->e i v)->H2 E=↑(.lst xs)->ζ H1 H2->Q (.ref E) H2):EV X (.ListComp elt [#[.Name y py,.Call (.Name "range" p) [a] [] p',[],0]] scope pos) σ H Q:=by
 show vD (N':=N') o S (by intro _;rfl) (Xf D F hs (gQ hs (aP h λv H1 q=>?_)));let#[n,rfl,h1,h2,e,J,c]:=q;let hsz:(ϱ:Nat)<2^62:=by rw[ϯ];decide
 show dH #[n,rfl,h1,(),λfp E C f m=>?_];rw[g];show NQ (Y:=bW X N' scope (ώ scope X.env) C f (upd H1 E (.lst [])) fp) u z (lookup_relabel_local B) n.toNat h2 e (λi x=>x=.int i) m (λi _ _ hi=>hi) (λ_ _=>Ϭ _) (λi H1 x H2 _ _ L=>?_) (λi x H2 hi ex s=>?_) (λH2 xs l M O s=>c E H2 xs m l M O s)
 .let#[e1,P]:=L;show#[by rw[P,atm],e1]
 .subst ex;show J fp E C f _ i H2 hi s
def agX{elt:Ϫ}{scope:aiZ}{y:Str}{py:Pos}{j:Nat}(N':List Str){σ':St}(m:bN N' X.N σ scope=σ')(p:X.calm=true)(S:bO X.env scope)(u:N'.Nodup)(B:nameAt N' y=↑j)(D:scope.names.lookup y=↑.local)(hs:∀x,foldedSetIterable e X.env x=pure x)(h:EV X e σ H λv H1=>∃z:Str,v=.str z/\z.cps.size<=ϱ/\∃f:Nat->V->Prop,
   (∀(fp:List δ)(E C:δ)(g:ν)(F:Hp)(i c:Nat)(H2:Hp),z.cps.toList[i]?=↑c->ζ H1 H2->EV (bW X N' scope (ώ scope X.env) C g F fp) elt (σ'.set j ↑(.str #[#v[c]])) H2 λv G=>f i v/\ζ H2 G)/\
   ∀(E:δ)(H2:Hp)(xs:List V),H1 E=none->↥xs=z.cps.size->(∀i v,xs[i]?=↑v->f i v)->H2 E=↑(.lst xs)->ζ H1 H2->Q (.ref E) H2):EV X (.ListComp elt [#[.Name y py,e,[],0]] scope pos) σ H Q:=by
 show vD (N':=N') p S hs (Tc (aP h λv H1 q=>?_));let#[z,rfl,h2,f,I,a]:=q;show#[z,rfl,λfp E C g o=>?_];rw[m];show NQ (Y:=bW X N' scope (ώ scope X.env) C g (upd H1 E (.lst [])) fp) u B (lookup_relabel_local D) z.cps.size h2 f (λi x=>∃c,z.cps.toList[i]?=↑c/\x=.str #[#v[c]]) o (λi _ _ hi=>hi) (λ_ _=>Ϭ _) (λi H1 x H2 _ _ J=>?_) (λi x H2 hi ex s=>?_) (λH2 xs l L M s=>a E H2 xs o l L M s)
 .let#[e1,c,n,O]:=J;show#[#[c,~~~n,O],e1]
 .let#[c,e1,n]:=ex;subst n;show I fp E C g _ i c H2 e1 s
end
section
variable{P:ϰ}{w:Ϯ}{K:ϩ}{mg:MG}{base:ϫ}{cc:Bool}
abbrev gR(cc:Bool)(P:ϰ)(w:Ϯ)(K:ϩ)(mg:MG)(base:ϫ)(N:List Str)(qual:Str)(scope:aiZ)(f:δ)(cd:ε)(A:ϴ)(outer:List Env)(s:ν)(H:Hp)(E:XK):Cx:=
 lY cc (bQ P w) P w K mg base N qual scope f cd A outer s H E
def v8{x qual:Str}{st:Ϩ}{ps N:List Str}{k:Nat}{sp:Sp}{f:δ}{fd:ajB}(F:cG K x qual st f fd)(S:Μ N ps (ρ st))(len:∀vs H Q E,sp vs H Q E->↥vs=↥ps)(body:∀(a:ε)(A:ϴ)(outer:List Env)(s:ν)(H:Hp)(vs:List V)(Q:VK)(E:XK),ϐ cc k (A.deeper (envOfC qual (ρ st) ⇑s f a))->sp vs H Q E->
   Ι (gR cc P w K mg base N qual (ρ st) f a A outer s H E) (ϕ st) {nx:=λ_ H'=>Q .non H',rt:=Q} (start N vs) H):cW P w K mg base (bQ P w) cc (k+1) f fd ps sp:=by
 let#[oc,od,kV,e,pm,an,a,ct,g,rfl,lk,c]:=id F.ex;show ZS lk c S len λA outer s H vs Q E i h=>#[_,Wm,body a A outer s H vs Q E i h]
def Ε{x:Str}{st:Ϩ}{ps N:List Str}{k:Nat}{sp:Sp}(F:∃f fd,cG K x x st f fd/\mg x=↑(.ref f))(body:∀(f:δ)(a:ε)(A:ϴ)(outer:List Env)(s:ν)(H:Hp)(vs:List V)(Q:VK)(E:XK),ϐ cc k (A.deeper (envOfC x (ρ st) ⇑s f a))->sp vs H Q E->
   let X:=gR cc P w K mg base N x (ρ st) f a A outer s H E;let D:Ends:={nx:=λ_ H'=>Q .non H',rt:=Q};Ι X (ϕ st) D (start N vs) H)(S:Μ N ps (ρ st):=by room)(e:∀(kV c pm:ε)(an:Option δ)(a ct:ε)(us:List ε),↥us=↥ps->bindArgs (asx x x (jk st) (ϕ st) (ρ st) .none kV c pm an a ct) #[us,[]]=pure (ps.zip us):=by walk_at"bb")(len:∀vs H Q E,sp vs H Q E->↥vs=↥ps:=by walk_at"ln"):Def P w K mg base cc (k+1) x ps sp:=by
 let#[f,fd,F,g]:=F;show#[f,fd,g,F.kp,F.binds e,v8 F S len λa A outer s H vs Q E i h=>body f a A outer s H vs Q E i h]
end
def Ω(z:Str)(lo hi:Option Int):Str:=#[((z.cps.toList.drop (_H.ϊ ↥z 0 lo)).take (_H.ϊ ↥z ↥z hi-_H.ϊ ↥z 0 lo)).toArray]
def BK(n d:Nat)(v:Int):max 0 (min (if v<0 then v+(n:Int)else v) (n:Int))=((_H.ϊ n d ↑v:Nat):Int):=by
 rw[<-_H.ad5];split <;>omega
def O3(lo hi:Option Int)(n:Nat):Builtin.Str.strSliceIndices lo hi 1 n=(afd (_H.ϊ n n hi-_H.ϊ n 0 lo)).map (λm=>_H.ϊ n 0 lo+m):=by
 let e:Builtin.Str.strSliceIndices lo hi 1 n=sliceRange ((_H.ϊ n 0 lo:Nat):Int) ((_H.ϊ n n hi:Nat):Int) 1:=by
  cases lo with
  |none=>
   cases hi with
   |none=>rfl
   |some v=>rw[<-BK n n v];rfl
  |some u=>
   cases hi with
   |none=>rw[<-BK n 0 u];rfl
   |some v=>rw[<-BK n 0 u, <-BK n n v];rfl
 rw[e];generalize _H.ϊ n 0 lo=a;generalize _H.ϊ n n hi=b;by_cases h:a<=b
 .have :=StrLaws.strSliceIndices_plain (len:=b) h (Ϭ b);rw[<-this];let c:Builtin.Str.strSliceIndices ↑(a:Int) ↑(b:Int) 1 b=sliceRange (a:Int) (b:Int) 1:=by
   let h1:¬((a:Int)<0):=()
   let h2:¬((b:Int)<0):=()
   let e1:max (0:Int) (min (a:Int) (b:Int))=a:=()
   let c:max (0:Int) (min (b:Int) (b:Int))=b:=()
   simp only[Builtin.Str.strSliceIndices,h1,h2,if_false,e1,c,show((1:Int)>0)=True from by simp,if_true]
  rw[c]
 .let f:b-a=0:=()
  rw[f];have:¬((a:Int)<b):=()
  simp[sliceRange,this]
def adB(z:Str)(lo hi:Option Int):(#[((Builtin.Str.strSliceIndices lo hi 1 ↥z).filterMap (z.cps[·]?)).toArray]:Str)=Ω z lo hi:=by
 rw[O3];unfold Ω;let h1:=_H.Uh ↥z ↥z (Ϭ _) hi;let c:↥z.cps.toList=↥z:=by simp[arN]
 by_cases h:_H.ϊ ↥z 0 lo<=_H.ϊ ↥z ↥z hi
 .have :=StrLaws.picks z.cps.toList (_H.ϊ ↥z ↥z hi-_H.ϊ ↥z 0 lo) (_H.ϊ ↥z 0 lo) ();rw[<-this];simp
 .let a:_H.ϊ ↥z ↥z hi-_H.ϊ ↥z 0 lo=0:=()
  rw[a];simp
def Ny{v:ε}{o:Option Int}(h:IsPart v o):∃l:Option (Int×Tok),v=partValue l/\l.map (·.1)=o:=by
 cases h with
 |none=>show#[none,rfl,rfl]
 |int i t=>show#[↑(i,t),rfl,rfl]
def adv{X:Cx}:Ax X (λx lo hi H Q=>∃z,x=.str z/\↥z<=ϱ/\Q (.str (Ω z lo hi)) H):=by
 intro ϵ s σ H x v E G lo hi sl Q I rx hs pl n h;let#[z,rfl,J,q]:=h;let#[t,rfl]:=rx;show#["str",_,F.slot_str_getitem.lookup,typeIs_str s z t,?_];let#[l,rfl,rfl]:=Ny pl;let#[u,rfl,rfl]:=Ny n;let g:s.heap.IsSlice sl l u none:=by
  let#[o,p,y,hd]:=hs;show#[o,p,y,hd]
 show wpAny_getItem_str_slice g rfl ?_;let e:(slicePicked z l u none)=Builtin.Str.strSliceIndices (l.map (·.1)) (u.map (·.1)) 1 ↥z:=rfl;unfold sliceMade;let i:(#[((slicePicked z l u none).filterMap (z.cps[·]?)).toArray]:Str)=Ω z (l.map (·.1)) (u.map (·.1)):=by rw[e];show adB z _ _
 split
 .rename_i j;let f:↥(slicePicked z l u none)=↥z:=by
   simp only[aa9,beq_iff_eq]at j;show j.2
  let a:Ω z (l.map (·.1)) (u.map (·.1))=z:=by
   rw[e,O3,ϭ,ar6]at f;let h1:=_H.Uh ↥z ↥z (Ϭ _) (u.map (·.1));let L:↥z.cps.toList=↥z:=by simp[arN]
   unfold Ω;by_cases B:↥z=0
   .have :z.cps.toList=[]:=aoq ();rw[this];let m:z.cps= #v[]:=by
     have:=congrArg ae4 this;simpa using this
    let#[c]:=z;simp at m;subst m;simp
   .let C:_H.ϊ ↥z 0 (l.map (·.1))=0:=()
    let D:_H.ϊ ↥z ↥z (u.map (·.1))=↥z:=()
    rw[C,D,alN,apY,aet ()]
  show#[.str (Ω z (l.map (·.1)) (u.map (·.1))),H,I,#[t,by rw[a]],q]
 .rw[i];show#[?_,.str (Ω z (l.map (·.1)) (u.map (·.1))),H,I.tok _,#[_,rfl],q];have:(Ω z (l.map (·.1)) (u.map (·.1))).length<=↥z:=by
   unfold Ω arN;simp;omega
  omega
section
variable{X:Cx}{H:Hp}{Q:VK}{z y:Str}
theorem iw{lo hi:Option Int}(g:Q (.str (Ω z lo hi)) H)(h:↥z<=ϱ:=by omega):SL X (.str z) lo hi H Q:=#[_,adv,z,rfl,h,g]
theorem bZ{id:String}{r:V->List V->Hp->VK->Prop}{x:V}{xs:List V}(h:HX X id r)(q:r x xs H Q):MT X id x xs H Q:=#[r,h,q]
def VN{ys:List Str}:∀{us:List ε},Vals (ys.map V.str) us->StrsAre us ys:=by
 induction ys with
 |nil=>intro us r;cases r;show .nil
 |cons y ys a=>
  intro us r;cases r with
  |cons r c=>
   let#[t,rfl]:=r;show .cons y t (a c)
def lM{q:δ}{ys:List Str}(h:θ X.K H q (ys.map V.str))(a:(ys.map (·.length)).sum+↥ys*↥z<=16777216)(g:Q (.str (aep z ys)) H):MT X "str.join" (.str z) [.ref q] H Q:=by
 show bZ (r:=λx xs H Q=>∃z q ys,x=.str z/\xs=[.ref q]/\θ X.K H q (ys.map V.str)/\(ys.map (·.length)).sum+↥ys*↥z<=16777216/\Q (.str (aep z ys)) H) ?_ #[z,q,ys,rfl,rfl,h,a,g];intro ϵ s σ H x xs v us Q I rx c h;let#[z,q,ys,rfl,rfl,h,a,g]:=h;let#[t,rfl]:=rx;let#[u,rfl,f]:=vals1 c;cases(show u=Value.ref q from f);let#[j,i,pl,_]:=I.list h;show join_list pl.isList (~~~VN i) a λt' k=>#[.str (aep z ys),H,I.tok k,#[t',?_],g]
 let e:Txt.join z ys=aep z ys:=by
  unfold Txt.join;cases ys with
  |nil=>rfl
  |cons y r=>show StrLaws.glued_cons z r y
 rw[e]
def Vd(g:Q (.bl (Txt.startswith z y)) H):MT X "str.startswith" (.str z) [.str y] H Q:=by
 show bZ (r:=λx xs H Q=>∃z y,x=.str z/\xs=[.str y]/\Q (.bl (Txt.startswith z y)) H) ?_ #[z,y,rfl,rfl,g];intro ϵ s σ H x xs v us Q I rx a h;let#[z,y,rfl,rfl,g]:=h;let#[t,rfl]:=rx;let#[u,rfl,c]:=vals1 a;let#[t',rfl]:=c;show SC.startswith #[.bl _,H,I,rfl,g]
def Ro{q:δ}{bs:List Bool}(z:X.calm=true)(h:θ X.K H q (bs.map V.bl))(g:Q (.bl (bs.all id)) H):CL X (.builtin "all") [.ref q] H Q:=by
 show cI (r:=λxs H Q=>∃q bs,xs=[.ref q]/\θ X.K H q (bs.map V.bl)/\Q (.bl (bs.all id)) H) ?_ #[q,bs,rfl,h,g];intro ϵ s σ H xs us Q I r h;let#[q,bs,rfl,h,g]:=h;let#[u,rfl,B]:=vals1 r;cases(show u=Value.ref q from B);let#[c,y,pl,J]:=I.list h;show call_all_walk (wpAny_pyIter_list pl.isList ?_);let m:q<⇑s:=by
  let#[o,n,_]:=pl.isList;show abU n
 let a:↥c=↥bs:=by have:=↥y;rw[ϭ]at this;show this.symm
 show#[⇑s,[⇑s,q],[⇑s],c.toArray.size,(λi v=>c.toArray[i]?=↑v),(λi h=>h.IsListIter ⇑s q i/\h.IsList q c.toArray),λi=>bs.getD i true,rfl,Walks.list (A:=X.A.in1) (show X.A.in1.handled=none from I.ok.hd z) ⇑s q (acb m) c.toArray,#[#[_,abM _ rfl,rfl,rfl],?_],?_,λh' tk C=>?_]
 .let#[o,n,r]:=pl.isList;show#[o,aai _ n,r]
 .intro i v s Q E D m;let f:c[i]?=↑v:= ~~~D
  let hi:i<↥bs:=by rw[<-a];show(aab.mp f).1
  let#[u,e1,F]:=y.get (i:=i) (x:=V.bl bs[i]) (by simp[hi]);rw[f]at e1;cases e1;cases(show v=Value.bool bs[i]from F);show ahM ?_;have:bs.getD i true=bs[i]:=by simp[hi]
  let j:Q (bs.getD i true) s:=m;rw[this]at j;show j
 .let e:(afd c.toArray.size).all (λi=>bs.getD i true)=bs.all id:=by
   rw[aaq,a,agb,ach,ach];constructor
   .intro h b p;let#[i,hi,e]:=apD p;have:=h i (~~~hi);simpa [hi,e]using this
   .intro h i hi;let l:i<↥bs:= ~~~hi
    have:=h bs[i] (arx l);simpa [l]using this
  rw[e];let fp:=I.fpOk (Ϭ _) (I.hok.fresh (Ϭ _));let G:Inv X ϵ σ H {s with heap:=s.heap.push {cls:=.type "list_iterator",data:=.fields #v[.ref q,.int 0 0]}}:=I.kept (t':=s.toks) λb o e=>aai _ e
  show#[.bl _,H,G.turned (it:=⇑s) (λb o p e=>C b o (~~~p) e) (I.hok.fresh (Ϭ _)) fp.2.1 fp.2.2.2.1 fp.2.2.2.2.1 fp.2.2.2.2.2,rfl,g]
end
def bD{env:Env}{scope:aiZ}(sc:aiZ)(c:env.scope=sc:=by rfl)(f:scope.kind=.function:=by rfl)(h:(scope.names.all λy=>(if y.2==.free then(sc.names.lookup y.1==↑.cell||sc.names.lookup y.1==↑.free)else true)&&y.2 !=.cell&&(if y.2==.local then scope.names.lookup y.1==↑.local else true))=true:=by fin2):bO env scope:=by
 let h':=ach.mp h;show#[f,λy a e=>?_,λy a e=>?_,λy a e=>?_]
 .let q:=h' y a;simp only[e,beq_self_eq_true,if_true,aa9,anO,beq_iff_eq]at q;show env.scope.names.lookup y.1=_\/env.scope.names.lookup y.1=_;rw[c];show q.1.1
 .let q:=h' y a;rw[e]at q;simp at q
 .let q:=h' y a;simp only[e,aa9,beq_iff_eq,beq_self_eq_true,if_true]at q;show q.2
def jc{α:Type}{xs:List V}{ys:List α}(f:α->V)(g:↥xs=↥ys)(h:∀(i:Nat) v,xs[i]?=↑v->∃c,ys[i]?=↑c/\v=f c):xs=ys.map f:=by
 apply List.ext_getElem?;intro i;rw[acj];cases e:xs[i]? with
 |none=>
  have:↥xs<=i:=List.getElem?_eq_none_iff.mp e;rw[arp ()];rfl
 |some v=>
  let#[c,e1,a]:=h i v e;rw[e1,a];rfl
section
variable{X:Cx}{H:Hp}{Q:VK}
theorem amh(q:Q (.int 1000000000) H):OP X (binaryOp .Pow) (.int 10) (.int 9) H Q:=IK #[by decide,by decide,by decide] (show Q (.int (10^(9:Int).toNat)) H from(show(10:Int)^(9:Int).toNat=1000000000 from by decide)▸q)
theorem ag5(q:Q (.int 1000000000000000000) H):OP X (binaryOp .Pow) (.int 10) (.int 18) H Q:=IK #[by decide,by decide,by decide] (show Q (.int (10^(18:Int).toNat)) H from(show(10:Int)^(18:Int).toNat=1000000000000000000 from by decide)▸q)
end
def EJ(X:Cx)(vs:List Ϫ)(out:Str)(σ:St)(H:Hp)(Q:VK):Prop:=
 ∀(ϵ:List (δ×Obj))(s:ν),Inv X ϵ σ H s->π ∅ X.A (joinParts out (evalEach vs X.env)) (EP X ϵ σ Q) X.xe s
section
variable{X:Cx}{σ:St}{H:Hp}{Q:VK}{v v₁ v₂:Ϫ}{rest:List Ϫ}{pos:Pos}{out:Str}
theorem aaO(h:EJ X (v₁::v₂::rest) akU σ H Q):EV X (.JoinedStr (v₁::v₂::rest) pos) σ H Q:=λϵ s I=>h ϵ s I
theorem aaw(a:↥out<=ϱ)(q:Q (.str out) H):EJ X [] out σ H Q:=λϵ s I=>joinParts_nil #[.str out,H,I.tok _,#[_,rfl],q] a
theorem lR(h:EV X v σ H λx H1=>∃y,x=.str y/\↥(out++y)<=ϱ/\EJ X rest (out++y) σ H1 Q):EJ X (v::rest) out σ H Q:=λϵ s I=>by
 show joinParts_cons (υ (h ϵ s I) λu a c=>?_);let#[x,H1,f,r,y,e,g,q]:=c;subst e;let#[t,rfl]:=r;show#[g,q ϵ a f]
theorem fJ(h:EV X v σ H λx H1=>∃z,x=.str z/\↥z<=ϱ/\Q (.str z) H1):EV X (.FormattedValue v (-1) none pos) σ H Q:=λϵ s I=>by
 show FormattedValue_plain (υ (h ϵ s I) λu g a=>?_);let#[x,H1,c,r,z,e,f,q]:=a;subst e;let#[t,rfl]:=r;show formatField_str (λt' tk=>#[.str z,H1,c.tok tk,#[t',rfl],q]) f
theorem fY(h:EV X v σ H λx H1=>∃i,x=.int i/\i.natAbs.log2<1920/\Q (.str (toString i)) H1):EV X (.FormattedValue v (-1) none pos) σ H Q:=λϵ s I=>by
 show FormattedValue_plain (υ (h ϵ s I) λu g a=>?_);let#[x,H1,c,r,z,e,f,q]:=a;subst e;let#[t,rfl]:=r;show formatField_int_small f #[.str (toString z),H1,c.tok _,#[_,rfl],q]
end
def mj(X:Cx)(vs:List Ϫ)(n:Nat)(σ:St)(H:Hp)(R:Hp->Prop):=∀out:Str,↥out<=n->∀Q:VK,(∀z H',R H'->Q (.str z) H')->EJ X vs out σ H Q
def Zm(x y:Str):↥(x++y)=↥x+↥y:=by
 show(x.cps++y.cps).size=_;rw[atd];rfl
section
variable{X:Cx}{σ:St}{H:Hp}{Q:VK}{R:Hp->Prop}{v v₁ v₂:Ϫ}{rest:List Ϫ}{pos:Pos}{n:Nat}
theorem ahv(h:mj X (v₁::v₂::rest) 0 σ H λH'=>∀z,Q (.str z) H'):EV X (.JoinedStr (v₁::v₂::rest) pos) σ H Q:=aaO (h akU (Ϭ _) Q λz H' r=>r z)
theorem agc(a:n<=ϱ)(r:R H):mj X [] n σ H R:=λout c Q k=>aaw (adQ c a) (k out H r)
theorem Y7(h:EV X v σ H λx H1=>∃y m,x=.str y/\↥y<=m/\n+m<=ϱ/\mj X rest (n+m) σ H1 R):mj X (v::rest) n σ H R:=λout a Q k=>
 lR (aP h λx H1 z=>by let#[y,m,e,c,f,q]:=z;show #[y,e,by rw[Zm];omega,q (out++y) (by rw[Zm];omega) Q k])
end
def ajC{K:ϩ}{h:ϫ}{N:δ}{mg:MG}{n:Str}{v:ε}(X:K.In h)(G:h.Ns N mg)(e:atR K N n=some ↑v):mg n=↑v:=by
 let#[o,es,ep,a,hd,_,f]:=G;unfold atR at e;split at e
 .rename_i c d g j sl q;have:=X _ _ q;rw[a]at this;cases this;cases hd;split at e
  .rename_i l i;cases e;rw[<-f];unfold nsFind findBy;rw[<-asV,i];rfl
  .split at e<;>cases e
 .cases e
def Wa{K:ϩ}{C:δ}{h:ϫ}{i:Option ε}(kin:K.In h)(e:Hg K C i=true):∃bm N nm q bs hdct sn sub ab col dd k0 k1 k2 k3 k5 mN,h.get? C=↑(excClassObj nm q C N bs bm hdct sn sub ab col dd k0 k1 k2 k3 k5 "ValueError.__new__")/\h.Ns N mN/\mN "__init__"=i/\OwnTail h dF bm:=by
 unfold Hg at e;split at e
 .rename_i dd cd sl m;split at e
  .rename_i z bm k0 k1 k2 k3 n k5 f hs;simp only[aa9,beq_iff_eq,ate]at e;let#[#[#[#[#[e1,o],g],p],a],c]:=e;subst e1 o;let#[nm,bs,s,ns,u,hd,sn,sub,ab,col,x]:=cd;dsimp only at f g a c;subst f g;let y:sl= #v[k0,k1,k2,k3,↑(.builtin "ValueError.__new__"),k5]:=by
    let#[l]:=sl;simp only at hs;rw[hs]
   subst y;let j:h.Ns ns (h.nsMap ns):=.of_isNs (W.isNs_of_in kin a);show#[bm,ns,nm,u,bs,hd,sn,sub,ab,col,dd,k0,k1,k2,k3,k5,_,kin<*m,j,?_,W.tail_of_in kin p];cases i with
   |none=>show W.nsMap_none_of_in kin a c
   |some v=>show ajC kin j c
  .cases e
 .cases e
theorem Ol{K:ϩ}{C:δ}{h:ϫ}(kin:K.In h)(e:at8 K C dF "ValueError.__new__"=true):∃bm N nm q bs hdct sn sub ab col dd k0 k1 k2 k3 k5 mN,h.get? C=↑(excClassObj nm q C N bs bm hdct sn sub ab col dd k0 k1 k2 k3 k5 "ValueError.__new__")/\h.Ns N mN/\mN "__init__"=none/\OwnTail h dF bm:=Wa kin e
section
variable{X:Cx}{Kx:St->XK}{D:Ends}{σ:St}{H:Hp}{x:Str}{np cpos pos:Pos}{e:Ϫ}{es:List Ϫ}
def aM(j:ak X Kx)(O:eY X.K X.mg x)(h:EA X (e::es) σ H λvs H1=>↥vs<=ϱ/\Kx σ (.ref (η X.mg x)) (none,true) H1)(l:X.calm=true:=by rfl)(m:Gl X x:=by rfl)(hd:(x==("__debug__":Str))=false:=by decide)(i:ϳ (e::es) X.env=(false,eval e X.env)::ϳ es X.env:=by rfl)(f:(backTo cpos (ϳ es X.env)).any (·.1)=false:=by rfl):SX X (.Raise ↑(.Call (.Name x np) (e::es) [] cpos) none pos) D σ H:=by
 intro ϵ s I;let#[bm,N,nm,q,bs,hdct,sn,sub,ab,col,dd,k0,k1,k2,k3,k5,mN,n,o,g,T]:=Ol I.ok.mod.kin O.ex;show wpAny_Raise_call_subT (C:=η X.mg x) (nm:=nm) (q:=q) (N:=N) (bs:=bs) (bm:=bm) (hdct:=hdct) (sn:=sn) (sub:=sub) (ab:=ab) (col:=col) (dd:=dd) (k0:=k0) (k1:=k1) (k2:=k2) (k3:=k3) (k5:=k5)
  F.excBase_ValueError (mN:=mN) (T.hasType (by fin2)) (I.ok.hd l) ?_ g (eZ I m O.at_ #[rfl,?_] hd)
 .rw[i];show(false||(backTo cpos (ϳ es X.env)).any (·.1))=false;rw[f];rfl
 .let h':=h cpos ϵ s I;rw[i]at h'⊢;show Calls.evalArgs_plain (υ h' λus p ⟨vs,H1,c,r,u,v⟩=>#[rfl,by rw[<-↥r];show u,c.bk<*n,o.keeps c.bk,T.keeps c.bk,λE a M=>?_]);let#[t,y,G,J]:=M.there;show j ϵ σ H1 _ a _ (none,true) #[c.kept (t':=p.toks) M.keeps,none,.none,#[_,_,y,rfl,rfl,rfl,rfl,by simp,Ctx.yes rfl,λT z=>nomatch z],.inl rfl,λb B=>?_] v;let z:b=a:= ~~~B
  subst z;show#[c.hok.free M.new,c.ch M.new]
end
abbrev Cx.bu(X:Cx)(e:ε)(F:ε->ν->Prop)(pn:List (δ×Obj)):Cx:={X with A:=X.A.mark ↑e,calm:=false,xe:=F,pn:=pn}
section
variable{X:Cx}{ϵ pins':List (δ×Obj)}{σ:St}{H:Hp}{s:ν}{F:ε->ν->Prop}{e:ε}
theorem Cx.Ok.bu(ok:X.Ok)(pn:List (δ×Obj)):(X.bu e F pn).Ok:=
 #[ok.mod,ok.kind,ok.glob,ok.blt,ok.above,ok.inj,ok.has,ok.cab,(λz=>nomatch z),ok.frames,ok.stk,ok.exf,ok.bs,ok.bsz,ok.noex,ok.exfs,ok.funs,ok.frf]
theorem Inv.bu(I:Inv X ϵ σ H s):Inv (X.bu e F (X.pn++ϵ)) [] σ H s:=
 #[I.ok.bu _,I.os,I.bare,I.base,I.loc,I.cell,I.free,I.freeC,λp a=>I.pin p (~~~a),I.hok,I.len]
theorem Inv.pq(ok:X.Ok)(I:Inv (X.bu e F (X.pn++ϵ)) pins' σ H s):Inv X ϵ σ H s:=
 #[ok,I.os,I.bare,I.base,I.loc,I.cell,I.free,I.freeC,λp a=>I.pin p (ajE _ a),I.hok,I.len]
theorem Ch.lX{b:δ}(c:Ch (X.tri F (X.pn++ϵ)) pins' b):Ch X ϵ b:=#[c.1,c.2.1,c.2.2.1,λp a=>c.2.2.2 p (ajE _ a)]
end
def EH(X:Cx)(hs:List aot)(D:Ends)(σ:St)(cls:ε)(d:Option δ×Bool)(H:Hp):Prop:=
 ∀(ϵ:List (δ×Obj))(s:ν)(e T:δ),Inv X ϵ σ H s->aR s.heap e cls d ↑T .none->(∀b∈[e,T],H b=none/\Ch X ϵ b)->
  π ∅ X.A (handleBy (.ref e) X.env hs) (SP X ϵ D) X.xe s
section
variable{X:Cx}{D:Ends}{σ:St}{H:Hp}{h₀:aot}{hs rest:List aot}{body orelse suite:List Ϩ}{b₀:Ϩ}{pos np:Pos}{x n:Str}{cls c:ε}{d:Option δ×Bool}
def uU(Kx:St->XK)(j:X.stack=X.env::X.outer)(l:X.env.frame=↑X.env.locals)(a:∀F pn,ak (X.tri F pn) Kx->ap5 ∅ X.A X.env F->Ι (X.tri F pn) body {D with nx:=λσ' H'=>Ι X orelse D σ' H'} σ H)(m:∀σ' cls d H',Kx σ' cls d H'->EH X (h₀::hs) D σ' cls d H'):SX X (.Try body (h₀::hs) orelse [] pos) D σ H:=by
 intro ϵ s I;show wpAny_Try_except ?_;show ab9 (a (λe c=>π ∅ X.A (noteFrame e X.env) (λ_ i=>π ∅ X.A (setFlight e none) (λ_ n=>π ∅ X.A (handleBy e X.env (h₀::hs)) (SP X ϵ D) X.xe n) X.xe i) X.xe c)
  (X.pn++ϵ) ?_ PassesOwn.looking [] s I.tri) (λf c q=>?_) λ_ _ q=>q
 .intro pins' σ' H' s' e cls d o q;let#[p,tb,x,y,g,ch]:=o;let z:=Inv.lX I.ok p;show nu.note (X:=X) (ϵ:=ϵ) #[z,tb,x,y,g,λb a=>#[(ch b a).1,(ch b a).2.lX]] j l λi T B F3 c3=>?_
  show B.off F3 c3 λC E G=>m σ' cls d H' q ϵ C e T E G c3
 .cases f with
  |next=>
   let#[σ',H',J,q]:=q;show q ϵ c (Inv.lX I.ok J)
  |brk=>
   let#[σ',H',J,q]:=q;show#[σ',H',Inv.lX I.ok J,q]
  |cont=>
   let#[σ',H',J,q]:=q;show#[σ',H',Inv.lX I.ok J,q]
  |ret u=>
   let#[v,σ',H',J,r,q]:=q;show#[v,σ',H',Inv.lX I.ok J,r,q]
def aR.ty{M:Model}{h:ϫ}{e:δ}{tb:Option δ}{a:ε}(F:aR h e cls d tb a):atV M h (typeOf (.ref e)) cls:=by
 let#[g,vs,c,f,_]:=F;subst f;show(W.Looks.ld c).andThen .now
def Gb{X:Cx}{ϵ:List (δ×Obj)}{s:ν}{e:δ}{tb:Option δ}{a:ε}{k:Bool}{R:Result->ν->Prop}(I:Inv X ϵ σ H s)(F:aR s.heap e cls d tb a)(f:Gl X x)(g:X.mg x=↑c)(hd:(x==("__debug__":Str))=false)(ex:aox X.K cls c=↑k)(h:R (.ok (if k then .brk else .next)) s):codeAny ∅ (X.A.mark ↑(.ref e)) (.handlers (.ref e) [.ExceptHandler ↑(.Name x np) none [] pos] X.env) R s:=by
 show codeAny_handlers_test ?_;let J:Inv (X.bu (.ref e) X.xe (X.pn++ϵ)) [] σ H s:=I.bu;show eZ (X:=X.bu (.ref e) X.xe (X.pn++ϵ)) J f g ((W.exm_one I.kIn F.ty ex).here h) hd
end
mutual
inductive RD (K:ϩ) (H:Hp):V->PyData->Prop
 |non:RD K H .non .none
 |bl (b:Bool):RD K H (.bl b) (.bool b)
 |int (i:Int):RD K H (.int i) (.int i)
 |str (x:Str):RD K H (.str x) (.str x)
 |lst {a:δ} {xs:List V} {ds:List PyData} (h:θ K H a xs) (r:iV K H xs ds):RD K H (.ref a) (.list ds)
 |tup {a:δ} {xs:List V} {ds:List PyData} (h:ψ K H a xs) (r:iV K H xs ds):RD K H (.ref a) (.tuple ds)
inductive iV (K:ϩ) (H:Hp):List V->List PyData->Prop
 |nil:iV K H [] []
 |cons {x:V} {d:PyData} {xs:List V} {ds:List PyData} (h:RD K H x d) (r:iV K H xs ds):iV K H (x::xs) (d::ds)
end
mutual
theorem RD.reads{X:Cx}{ϵ:List (δ×Obj)}{σ:St}{H:Hp}{s:ν}(I:Inv X ϵ σ H s):∀{v:V}{d:PyData}{u:ε},RD X.K H v d->RelV v u->∃as,Reads s.heap u d as
 |_,_,_,.non,e=>by cases(show _=Value.none from e);show#[_,.none]
 |_,_,_,.bl b,e=>by cases(show _=Value.bool b from e);show#[_,.bool b]
 |_,_,_,.int i,e=>by let#[t,rfl]:=e;show#[_,.int i t]
 |_,_,_,.str x,e=>by let#[t,rfl]:=e;show#[_,.str x t]
 |_,_,_,.lst h r,e=>by
  cases(show _=Value.ref _ from e);let#[g,a,pl,_]:=I.list h;let#[as,q]:=iV.reads I r a;let#[o,c,f,n,hd]:=pl.isList;show#[_,.list c f hd (~~~q)]
 |_,_,_,.tup h r,e=>by
  cases(show _=Value.ref _ from e);let#[g,a,tp,_]:=I.tuple h;let#[as,q]:=iV.reads I r a;let#[o,c,f,n,hd]:=tp;show#[_,.tuple c f hd (~~~q)]
theorem iV.reads{X:Cx}{ϵ:List (δ×Obj)}{σ:St}{H:Hp}{s:ν}(I:Inv X ϵ σ H s):∀{vs:List V}{ds:List PyData}{us:List ε},iV X.K H vs ds->Vals vs us->∃as,ReadsAll s.heap us ds as
 |_,_,_,.nil,.nil=>#[_,.nil]
 |_,_,_,.cons h r,.cons e t=>by
  let#[as,q]:=RD.reads I h e;let#[bs,a]:=iV.reads I r t;show#[_,.cons q a]
end
section
variable{X:Cx}{H:Hp}{Q:VK}{x y:V}{d d':PyData}
def Bo(f:X.A.units+64<cLine)(a:RD X.K H x d)(c:RD X.K H y d')(h1:d.canLay0=true)(h2:d'.canLay0=true)(hd:d.depth<=60)(q:Q (.bl (PyData.eqv d d')) H):OP X (adA .Eq) x y H Q:=by
 show#[λx y H Q=>RD X.K H x d/\RD X.K H y d'/\Q (.bl (PyData.eqv d d')) H,?_,a,c,q];intro ϵ s σ H x y v u Q I rx ry ⟨a,c,q⟩;let#[as,r1]:=RD.reads I a rx;let#[bs,e]:=RD.reads I c ry;show SeqAt.rcAt_reads r1 e h1 h2 (by have:=atJ d.depth d'.depth;omega) X.prog X.w X.xe _ #[.bl _,H,I,rfl,q]
def Ma(f:X.A.units+64<cLine)(a:RD X.K H x d)(c:RD X.K H y d')(h1:d.canLay0=true)(h2:d'.canLay0=true)(hd:d.depth<=60)(q:Q (.bl (!PyData.eqv d d')) H):OP X (adA .NotEq) x y H Q:=by
 show#[λx y H Q=>RD X.K H x d/\RD X.K H y d'/\Q (.bl (!PyData.eqv d d')) H,?_,a,c,q];intro ϵ s σ H x y v u Q I rx ry ⟨a,c,q⟩;let#[as,r1]:=RD.reads I a rx;let#[bs,e]:=RD.reads I c ry;show SeqAt.rcNeAt_reads r1 e h1 h2 (by have:=atJ d.depth d'.depth;omega) X.prog X.w X.xe _ #[.bl _,H,I,rfl,q]
end
def nW(l:List Ϩ)(i:Nat):Ϩ:=l.getD i (.Pass #[0,0,0,0])
def yO(s:Ϩ):List Ϩ:=match s with
 |.If _ b _ _=>b
 |_=>[]
def ade{A B:Prop}(h:A):if decide (V.non=V.non)=true then A else B:=by rw[if_pos (by decide)];show h
def agh{A B:Prop}{i:Int}(h:B):if decide (V.int i=V.non)=true then A else B:=by rw[if_neg (by simp)];show h
def ag9{A B:Prop}{i:Str}(h:B):if decide (V.str i=V.non)=true then A else B:=by rw[if_neg (by simp)];show h
def alA{A B:Prop}{i:δ}(h:B):if decide (V.ref i=V.non)=true then A else B:=by rw[if_neg (by simp)];show h
def aoh{A B:Prop}(h:B):if(!decide (V.non=V.non))=true then A else B:=by rw[if_neg (by decide)];show h
def ah9{A B:Prop}{i:Str}(h:A):if(!decide (V.str i=V.non))=true then A else B:=by rw[if_pos (by simp)];show h
def VB{X:Cx}{H:Hp}{Q:VK}{z:Str}{n:Int}(a:intText? z=↑n)(c:↥z<=640)(q:Q (.int n) H):CL X (.type "int") [.str z] H Q:=by
 show cI (r:=λxs H Q=>∃z n,xs=[.str z]/\intText? z=↑n/\↥z<=640/\Q (.int n) H) ?_ #[z,n,rfl,a,c,q];intro ϵ s σ H xs us Q I r h;let#[z,n,rfl,a,c,q]:=h;let#[u,rfl,e]:=vals1 r;let#[t,rfl]:=e;show W.KIN.call_text a c #[.int n,H,I.tok _,#[_,rfl],q]
def zg(x:Str)(n:Int):Str:=#[(alM n.toNat x.cps).foldl (· ++ ·) #v[]]
def ahC{X:Cx}{H:Hp}{Q:VK}{z:Str}{n:Int}(h1:2<=n)(h2:n<1000000)(e:0<↥z)(c:↥z*n.toNat<=ϱ)(q:Q (.str (zg z n)) H):OP X (binaryOp .Mult) (.str z) (.int n) H Q:=by
 show bj (r:=λx y H Q=>∃z n,x=.str z/\y=.int n/\2<=n/\n<1000000/\0<↥z/\↥z*n.toNat<=ϱ/\Q (.str (zg z n)) H) ?_ #[z,n,rfl,rfl,h1,h2,e,c,q];intro ϵ s σ H x y v u Q I rx ry h;let#[z,n,rfl,rfl,h1,h2,e,c,q]:=h;let#[t,rfl]:=rx;let#[t',rfl]:=ry;let hsz:=ϯ;let e1:(n==1||↥z==0)=false:=by
  rw[Bool.or_eq_false_iff,beq_eq_false_iff_ne,beq_eq_false_iff_ne];omega
 let f:↥z<=16777216:=by
  have:↥z*1<=↥z*n.toNat:=Nat.mul_le_mul_left _ ();omega
 show PySem.P.mul_str (by rw[decide_eq_false (),decide_eq_false ()];rfl) (λ_ _ j=>?_) (λ_ _=>?_) ?_
 .let l:(2^63-1) / 1000000<=(2^63-1:Int) / n:=by
   apply Int.le_ediv_of_mul_le ();have:(2^63-1:Int) / 1000000*n<=(2^63-1) / 1000000*1000000:=Int.mul_le_mul_of_nonneg_left () (by decide);omega
  omega
 .unfold Builtin.Str.tooLong;rw[decide_eq_false];omega
 .rw[if_neg (),e1];show#[by
   let g:∀(k:Nat)(a:Array Nat),((alM k z.cps).foldl (· ++ ·) a).size=a.size+k*z.cps.size:=by
    intro k;induction k with
    |zero=>intro a;simp
    |succ k i=>
     intro a;rw[asO,aiV,i,atd,atn];omega
   show((alM n.toNat z.cps).foldl (· ++ ·) #v[]).size<=ϱ;rw[g];have:z.cps.size=↥z:=rfl;rw[this,asA];simpa using c,.str (zg z n),H,I.tok _,#[_,rfl],q]
section
variable{X:Cx}{e:Ϫ}{es:List Ϫ}{σ:St}{H:Hp}{Q:VK}{pos p:Pos}
def Hq:List (Str×String):=[("len","len"),("isinstance","isinstance"),("all","all"),("any","any"),("min","min"),("max","max"),("abs","abs"),("sum","sum"),("sorted","sorted"),("ord","ord"),("divmod","divmod")]
def zb:List (Str×String):=[("str","str"),("list","list"),("tuple","tuple"),("int","int"),("set","set"),("bool","bool"),("dict","dict")]
theorem Ac{x:Str}{i:String}{P:Str×String->Prop}:∀{l:List (Str×String)},l.lookup x=↑i->(∀p∈l,P p)->P (x,i)
 |[],e,_=>by cases e
 |(y,k)::l,e,h=>by
  rw[af8]at e;split at e
  .next q=>cases e;rw[beq_iff_eq.mp q];show h _ (by simp)
  .show Ac e λp a=>h p (by simp[a])
def ajA:∀p∈Hq,bootBuiltins p.1=↑(.builtin p.2)/\p.1≠"__name__"/\(p.1==("__debug__":Str))=false:=by
 simp only[Hq,asI];show#[#[PySem.boot_len,by decide,by decide],#[PyProof.Rows.boot_isinstance,by decide,by decide],#[PyProof.Rows.boot_all,by decide,by decide],#[PyProof.Rows.boot_any,by decide,by decide],#[PyProof.Rows.boot_min,by decide,by decide],#[PyProof.Rows.boot_max,by decide,by decide],#[PyProof.Rows.boot_abs,by decide,by decide],#[PyProof.Rows.boot_sum,by decide,by decide],#[PyProof.Rows.boot_sorted,by decide,by decide],#[PyProof.Rows.boot_ord,by decide,by decide],#[PyProof.Rows.boot_divmod,by decide,by decide],(λ_ h=>by cases h)]
def MF:∀p∈zb,bootBuiltins p.1=↑(.type p.2)/\p.1≠"__name__"/\(p.1==("__debug__":Str))=false:=by
 simp only[zb,asI];show#[#[PyProof.Rows.boot_str,by decide,by decide],#[PyProof.Rows.boot_list,by decide,by decide],#[PyProof.Rows.boot_tuple,by decide,by decide],#[PyProof.Rows.boot_int,by decide,by decide],#[PyProof.Rows.boot_set,by decide,by decide],#[PyProof.Rows.boot_bool,by decide,by decide],#[PyProof.Rows.boot_dict,by decide,by decide],(λ_ h=>by cases h)]
variable{x:Str}{i:String}
def ahA(g:Hq.lookup x=↑i)(j:Gl X x)(l:X.mg x=none)(m:ϳ (e::es) X.env=(false,eval e X.env)::ϳ es X.env)(f:(backTo pos (ϳ es X.env)).any (·.1)=false)(h:EA X (e::es) σ H λvs H1=>CL X (.builtin i) vs H1 Q):EV X (.Call (.Name x p) (e::es) [] pos) σ H Q:=by
 let#[a,b,c]:=Ac g ajA;show ah3 j l a b c m f h
def alu(g:zb.lookup x=↑i)(j:Gl X x)(l:X.mg x=none)(m:ϳ (e::es) X.env=(false,eval e X.env)::ϳ es X.env)(f:(backTo pos (ϳ es X.env)).any (·.1)=false)(h:EA X (e::es) σ H λvs H1=>CL X (.type i) vs H1 Q):EV X (.Call (.Name x p) (e::es) [] pos) σ H Q:=by
 let#[a,b,c]:=Ac g MF;show alP j l a b c m f h
def aj1(e:zb.lookup x=↑i)(f:Gl X x)(g:X.mg x=none)(q:Q (.ty i) H):EV X (.Name x pos) σ H Q:=by
 let#[a,b,c]:=Ac e MF;show Y4 f g a q b c
def tyO:V->Option ε
 |.non=>↑(.type "NoneType")|.bl _=>↑(.type "bool")|.int _=>↑(.type "int")|.str _=>↑(.type "str")|_=>none
def akY{K:ϩ}{y:V}{t:ε}(h:tyO y=↑t):dJ K H y t:=by
 cases y<;>cases h
 .show .non
 .show .bl _
 .show .int _
 .show .str _
theorem X6{y:V}{t:ε}{T:String}{k:Bool}(q:Q (.bl k) H)(h:tyO y=↑t:=by rfl)(e:aoY X.K t (.type T)=↑k:=by rfl):CL X (.builtin "isinstance") [y,.ty T] H Q:=ada (akY h) e q
def YG(X:Cx)(x:Str)(σ:St):Option V:=match X.env.scope.names.lookup x with
 |some .local=>if(x==("__debug__":Str))||(x==("__classdict__":Str))then none else fG X.N σ x
 |some .cell=>if(x==("__debug__":Str))||(x==("__classdict__":Str))then none else fG X.N σ x
 |some .free=>if(x==("__debug__":Str))||(x==("__classdict__":Str))then none else fG X.N σ x
 |_=>none
def ajo{v:V}(h:YG X x σ=↑v)(q:Q v H):EV X (.Name x pos) σ H Q:=by
 let a:rF X.env.scope x->(if(x==("__debug__":Str))||(x==("__classdict__":Str))then none else fG X.N σ x)=↑v->EV X (.Name x pos) σ H Q:=λe h=>by
  split at h
  .cases h
  .next c=>
   rw[anO,not_or,asn,asn]at c;show akP h e q c.1 c.2
 unfold YG at h;split at h
 .show a (.inl ‹_›) h
 .show a (.inr (.inl ‹_›)) h
 .show a (.inr (.inr ‹_›)) h
 .cases h
end
section
variable{X:Cx}{ϵ:List (δ×Obj)}{σ:St}{H:Hp}{s:ν}
def Inv.OD{ch:List δ}{T:δ}{xs:List V}{us:List ε}{h':ϫ}{tk:Nat}(I:Inv X ϵ σ H s)(g:∀b∈ch,bK X ϵ H b)(l:⇑s<=T)(k:∀b o,b∉ch->s.heap.get? b=↑o->h'.get? b=↑o)(m:↥xs<=ϱ)(p:Vals xs us)(tp:IsTup h' T us.toArray):Inv X ϵ σ (upd H T (.tup xs)) {s with heap:=h',toks:=tk}:=by
 let f:=I.hok.fresh l;let neT:∀b o,s.heap.get? b=↑o->b≠T:=λb o e z=>ali _ (abr (abU e) (z▸l))
 let i:∀b u,H b=↑u->b∉ch:=λb u e z=>by rw[(g b z).1]at e;cases e
 show I.call (g':=s.gens) (d':=s.drawn) (t':=tk) (ch:=ch) (h':=h') #[λb o e _ _ j=>k b o j e,λb o e _ _ j=>#[o.slots,k b o j e],λb o e n _=>?_,λb o e j=>#[o,k b o j e],λb ys e=>?_,λb o u e=>?_,λb ps e=>#[#v[],?_]] ?_ I.bare
  λb a=>#[(g b a).2.2.2.1,(g b a).2.1,(g b a).2.2.2.2.1,(g b a).2.2.2.2.2]
 .rw[ι (neT b o e)];show n
 .rw[ι (Ξ e f)];show e
 .rw[ι (Ξ e f)];show e
 .rw[ι (Ξ e f),e];simp
 .intro b u e;by_cases a:b=T
  .subst a;rw[ξ]at e;cases e;show#[m,us,p,tp]
  .rw[ι a]at e;show(I.hok b u e).stay (λc v x q=>k c v ?_ q) (λc q=>by rw[ι (Ξ q f)];show q) (λc ys q=>by rw[ι (Ξ q f)];show q) λc y v q=>by rw[ι (Ξ q f)];show q
   obtain z|z:=x
   .subst z;show i c u e
   .show i c _ z
end
def JB(K:ϩ)(l:δ):It:=
 #[λi H=>∃xs x,θ K H l xs/\xs[i]?=↑x,λi H v H'=>∃T x,v=.ref T/\H T=none/\H'=upd H T (.tup [.int i,x])/\∀xs,θ K H l xs->xs[i]?=↑x,λi H=>∃xs,θ K H l xs/\↥xs<=i]
theorem afV{P:ϰ}{w:Ϯ}{K:PySem.W.Frag}{elts:List Ϫ}{k:Nat}{pos:Pos}(l e it:δ)(G:e≠it)(J:l≠e)(L:l≠it):Turn P w K (.Tuple elts k pos) (JB K l) [e,it] e (λi h=>(∃a,IsEnum h e it i a)/\h.IsListIter it l i)where
 mem:=by simp
 obj:=λi h st b f=>by
  let#[#[a,c],o,g,_,hd]:=st;obtain z|z:=aaz.mp f
  .subst z;show#[_,c,λv z=>by cases z]
  .let z':b=it:= ~~~z
   subst z';show#[o,g,λv z=>by rw[hd]at z;cases z]
 keep:=λi h h' st kk=>by
  let#[#[a,c],o,g,r]:=st;show#[#[a,kk e (by simp) _ c],o,kk it (by simp) _ g,r]
 item:=by
  intro X M O R S i ϵ s σ H E I C st U;subst M O R;let#[#[a,c],j]:=st;let#[xs,x,D,m]:=U;let#[n,F,pl,hz]:=I.list D;let W:=WalksT.enumerate (prog:=X.prog) (w:=X.w) (A:=X.A) (I.ok.hd S) e it l G J L n.toArray;let hi:i<n.toArray.size:=by
   rw[aaq, <-↥F];show(aab.mp m).1
  let#[u,hu,ru]:=F.get m;show W.item i s _ _ hi #[#[a,c],j,pl.isList] λT vals h1 tk hp Y tup p keep=>#[.ref T,rfl,?_]
  let#[t,y,ey,rfl]:=hp;let Z:y=u:=by
   have:n[i]?=↑y:= ~~~ey
   rw[hu]at this;show(Option.some.inj this).symm
  subst Z;show W.go elts k pos i T {s with heap:=h1,toks:=tk} _ _ p λh2 ab nY=>?_
  let#[#[ac,ae],B,_]:=ab;let Hs:IsTup h2 T [Value.int i t,y].toArray:=by
   let#[o,g,r]:=tup;show#[o,nY T o (W.apart i T h1 p) g,r]
  show#[.ref T,upd H T (.tup [.int i,x]),I.OD (ch:=[e,it]) (tk:=tk) C Y (λb o f q=>nY b o f (keep b o f q)) Α (.cons #[t,rfl] (.cons ru .nil)) Hs,rfl,?_,?_,λb f=>?_]
  .show#[T,x,rfl,I.hok.fresh Y,rfl,λys hy=>?_];rw[<-I.list_inj D hy];show m
  .show#[#[ac,~~~ae],B]
  .have :b≠T:=λz=>by
    obtain⟨o,g,_⟩:∃o,s.heap.get? b=↑o/\True:=by
     obtain z|z:=aaz.mp f
     .subst z;show#[_,c,trivial]
     .let z':b=it:= ~~~z
      subst z';let#[o,g,_]:=j;show#[o,g,trivial]
    show ali _ (abr (abU g) (z▸Y))
   rw[ι this];show(C b f).1
 done:=by
  intro X M O R S i ϵ s σ H E I C st U;subst M O R;let#[#[a,c],j]:=st;let#[xs,D,m]:=U;let#[n,F,pl,hz]:=I.list D;let hn:n.toArray[i]?=none:=aow (by rw[aaq, <-↥F];show m);show wpAny_pyNext_enum_end (I.ok.hd S) c j pl.isList hn λh' hk=>#[rfl,?_]
  let#[f0,f1,f2,f3,f4,f5]:=C it (by simp);show I.turned (t':=s.toks) (it:=it) (λb o f q=>hk b o f q) f0 f1 f3 f4 f5
 self:=λA i s Q E st h=>by
  let#[#[a,c],_]:=st;show wpAny_pyIter_enum c h
section
variable{X:Cx}{σ:St}{H:Hp}{a b:Ϫ}{elts:List Ϫ}{k:Nat}{tp p pos:Pos}{R:It->Hp->Prop}
def anr(x:Gl X "enumerate")(y:X.mg "enumerate"=none)(hs:ϳ [a] X.env=[(false,eval a X.env)])(h:EV X a σ H λv H1=>∃l xs,v=.ref l/\H1 l=↑(.lst xs)/\R (JB X.K l) H1):EI X (.Tuple elts k tp) (.Call (.Name "enumerate" p) [a] [] pos) σ H R:=by
 intro ϵ s I;show Call_ (jE I x y boot_enumerate (PyProof.Rows.callWith_type1 (υ (gQ (es:=[]) (QA:=λvs H1=>∃l xs,vs=[.ref l]/\H1 l=↑(.lst xs)/\R (JB X.K l) H1) hs (aP h λv H1 z=>by let#[l,xs,e,B,C]:=z;show dH #[l,xs,by rw[e],B,C]) pos ϵ s I) λus c D=>?_) hs rfl));let#[vs,H1,f,r1,l,xs,e,E,q]:=D;subst e;let#[u,rfl,F]:=vals1 r1;cases(show u=Value.ref l from F);let#[L,M,n,O,m]:=f.hok l _ E;show call_enumerate_1 m λh' o i hsz G=>?_
 show wpAny_pyIter_enum o ?_;let g:l<⇑c:=abU m;show#[⇑c+1,[⇑c+1,⇑c],_,_,H1,rfl,f.kept (t':=c.toks) G,afV l _ _ (Nat.succ_ne_self _) (acb (aqJ g)) (acb g),#[#[_,o],i],λb J=>?_,q];let j:b=⇑c+1\/b=⇑c:= ~~~J
 obtain z|z:=j<;>subst z
 .show f.fpOk (aoF _) (f.hok.fresh (aoF _))
 .show f.fpOk (Ϭ _) (f.hok.fresh (Ϭ _))
end
section
variable{X:Cx}{ϵ:List (δ×Obj)}{σ:St}{H:Hp}{s:ν}
def Inv.acr{ch:List δ}{h':ϫ}{tk:Nat}(I:Inv X ϵ σ H s)(a:∀b∈ch,bK X ϵ H b)(k:∀b o,b∉ch->s.heap.get? b=↑o->h'.get? b=↑o):Inv X ϵ σ H {s with heap:=h',toks:=tk}:=by
 let f:∀b u,H b=↑u->b∉ch:=λb u e z=>by rw[(a b z).1]at e;cases e
 show I.call (g':=s.gens) (d':=s.drawn) (t':=tk) (ch:=ch) (h':=h') #[λb o e _ _ g=>k b o g e,λb o e _ _ g=>#[o.slots,k b o g e],λb o e n _=>n,λb o e g=>#[o,k b o g e],λb ys e=>e,λb o u e=>e,λb ps e=>#[#v[],?_]] ?_ I.bare
  λb i=>#[(a b i).2.2.2.1,(a b i).2.1,(a b i).2.2.2.2.1,(a b i).2.2.2.2.2]
 .rw[e];simp
 .intro b u e;show(I.hok b u e).stay (λc v j q=>k c v ?_ q) (λc q=>q) λc ys q=>q
  obtain z|z:=j
  .subst z;show f c u e
  .show f c _ z
end
def Jw(K:ϩ)(l m:δ):It:=
 #[λi H=>∃xs ys x y,θ K H l xs/\θ K H m ys/\xs[i]?=↑x/\ys[i]?=↑y,
  λi H v H'=>∃T x y,v=.ref T/\H T=none/\H'=upd H T (.tup [x,y])/\(∀xs,θ K H l xs->xs[i]?=↑x)/\∀ys,θ K H m ys->ys[i]?=↑y,
  λi H=>∃xs ys,θ K H l xs/\θ K H m ys/\min ↥xs ↥ys<=i]
theorem aer{P:ϰ}{w:Ϯ}{K:PySem.W.Frag}{elts:List Ϫ}{k:Nat}{pos:Pos}(z TI TO j n l m:δ)(D:ZipApart z TI TO j n l m):Turn P w K (.Tuple elts k pos) (Jw K l m) [z,TI,TO,j,n] z (λi h=>IsZip h z TI TO .none/\IsPair h TI (.ref j) (.ref n)/\(∃a b,IsPair h TO a b)/\h.IsListIter j l i/\h.IsListIter n m i)where
 mem:=by simp
 obj:=λi h st b g=>by
  let#[C,f,#[a,Z,c],#[o1,h1,_,d1],#[o2,h2,_,d2]]:=st;simp only[aaz,amv,or_false]at g;obtain e|e|e|e|e:=g<;>subst e
  .show#[_,C,λv z=>by cases z]
  .show#[_,f,λv z=>by cases z]
  .show#[_,c,λv z=>by cases z]
  .show#[_,h1,λv z=>by rw[d1]at z;cases z]
  .show#[_,h2,λv z=>by rw[d2]at z;cases z]
 keep:=λi h h' st kk=>by
  let#[C,f,#[a,Z,c],#[o1,h1,r1],#[o2,h2,r2]]:=st;show#[kk z (by simp) _ C,kk TI (by simp) _ f,#[a,Z,kk TO (by simp) _ c],#[o1,kk j (by simp) _ h1,r1],#[o2,kk n (by simp) _ h2,r2]]
 item:=by
  intro X hP hw hK hc i ϵ s σ H E I R st hg;subst hP hw hK;let#[C,f,c,h1,h2]:=st;let#[xs,ys,x,y,S,p,U,hy]:=hg;let#[F,Y,pl,hsz]:=I.list S;let#[its',B,Fd,G]:=I.list p;let W:=WalksT.zip2 (prog:=X.prog) (w:=X.w) (A:=X.A) (I.ok.hd hc) z TI TO j n l m D F.toArray its'.toArray;let hi:i<min F.toArray.size its'.toArray.size:=by
   rw[aaq, <-↥Y,aaq, <-↥B];show Nat.lt_min.mpr #[(aab.mp U).1,(aab.mp hy).1]
  let#[u,hu,ru]:=Y.get U;let#[u',ab,Hk]:=B.get hy;show W.item i s _ _ hi #[C,f,c,h1,h2,pl.isList,Fd.isList] λT vals hh tk hp hT tup J keep=>#[.ref T,rfl,?_]
  let#[v,v',ev,ac,rfl]:=hp;let e1:v=u:=by
   have:F[i]?=↑v:= ~~~ev
   rw[hu]at this;show(Option.some.inj this).symm
  let e2:v'=u':=by
   have:its'[i]?=↑v':= ~~~ac
   rw[ab]at this;show(Option.some.inj this).symm
  subst e1 e2;show W.go elts k pos i T {s with heap:=hh,toks:=tk} _ _ J λh3 ae nY=>?_
  let#[gz,af,ag,g1,g2,_]:=ae;let L:∀b,b∉[z,TI,TO,j,n]->b∉[z,TO,j,n]:=λb g M=>g (by simp at M⊢;obtain e|e|e|e:=M<;>simp[e])
  let Hs:IsTup h3 T [v,v'].toArray:=by
   let#[o,ho,r]:=tup;show#[o,nY T o (W.apart i T hh J) ho,r]
  show#[.ref T,upd H T (.tup [x,y]),I.OD (ch:=[z,TI,TO,j,n]) (tk:=tk) R hT (λb o g q=>nY b o (L b g) (keep b o (L b g) q)) Α (.cons ru (.cons Hk .nil)) Hs,rfl,?_,#[gz,af,ag,g1,g2],λb g=>?_]
  .show#[T,x,y,rfl,I.hok.fresh hT,rfl,λa ha=>?_,λa ha=>?_]
   .rw[<-I.list_inj S ha];show U
   .rw[<-I.list_inj p ha];show hy
  .have :b≠T:=λq=>by
    obtain⟨o,ho⟩:∃o,s.heap.get? b=↑o:=by
     let#[a,Z,c]:=c;let#[o1,h1,_]:=h1;let#[o2,h2,_]:=h2;simp only[aaz,amv,or_false]at g;obtain e|e|e|e|e:=g<;>subst e
     .show#[_,C]
     .show#[_,f]
     .show#[_,c]
     .show#[_,h1]
     .show#[_,h2]
    show ali _ (abr (abU ho) (q▸hT))
   rw[ι this];show(R b g).1
 done:=by
  intro X hP hw hK hc i ϵ s σ H E I R st hg;subst hP hw hK;let#[C,f,#[a,b,c],h1,h2]:=st;let#[xs,ys,S,p,U]:=hg;let#[F,Y,pl,hsz]:=I.list S;let#[its',B,Fd,G]:=I.list p;let O:F.toArray[i]?=none\/its'.toArray[i]?=none:=by
   by_cases q:↥xs<=i
   .show .inl (aow (by rw[aaq, <-↥Y];show q))
   .show .inr (aow (by rw[aaq, <-↥B];omega))
  show wpAny_pyNext_zip_end (I.ok.hd hc) D C f c h1 h2 pl.isList Fd.isList O λh' hk=>#[rfl,?_]
  show I.acr (tk:=s.toks) R λb o g q=>hk b o (λe=>g (by simp[e])) (λe=>g (by simp[e])) (λe=>g (by simp[e])) (λe=>g (by simp[e])) q
 self:=λA i s Q E st h=>wpAny_pyIter_zip st.1 h
def aka(n l m:Nat)(h1:l<n)(h2:m<n):ZipApart (n+4) (n+2) (n+3) n (n+1) l m:=by
 constructor<;>(intro e;let a:(_:Nat)=_:=e;omega)
section
variable{X:Cx}{σ:St}{H:Hp}{a b:Ϫ}{elts:List Ϫ}{k:Nat}{tp p pos:Pos}{R:It->Hp->Prop}
def Za(B:Gl X "zip")(C:X.mg "zip"=none)(hs:ϳ [a,b] X.env=[(false,eval a X.env),(false,eval b X.env)])(c:ϳ [b] X.env=[(false,eval b X.env)])(h:EV X a σ H λv H1=>EV X b σ H1 λx H2=>∃l m xs ys,v=.ref l/\x=.ref m/\H2 l=↑(.lst xs)/\H2 m=↑(.lst ys)/\R (Jw X.K l m) H2):EI X (.Tuple elts k tp) (.Call (.Name "zip" p) [a,b] [] pos) σ H R:=by
 intro ϵ s I;show Call_ (jE I B C boot_zip (PyProof.Rows.callWith_type1 (υ (gQ (es:=[b]) (QA:=λvs H1=>∃l m xs ys,vs=[.ref l,.ref m]/\H1 l=↑(.lst xs)/\H1 m=↑(.lst ys)/\R (Jw X.K l m) H1) (by rw[hs,c]) (aP h λv H1 q=>gQ (es:=[]) c (aP q λx H2 z=>by let#[l,m,xs,ys,e,D,E,F,G]:=z;show dH #[l,m,xs,ys,by rw[e,D],E,F,G])) pos ϵ s I) λus f J=>?_) (by rw[hs,c]) (by rw[c];rfl)));let#[vs,H1,g,r1,l,m,xs,ys,e,L,o,q]:=J;subst e;let#[u,M,rfl,O,P]:=vals2 r1;cases(show u=Value.ref l from O);cases(show M=Value.ref m from P);let#[hz,Q,n,rv,y]:=g.hok l _ L;let#[S,its',n',T,i]:=g.hok m _ o;show call_zip_2 (xs:=Q.toArray) (ys:=its'.toArray) #[_,y,rfl,_,rfl] #[_,i,rfl,_,rfl] λh' h1 h2 U W Y hsz Z=>?_
 show wpAny_pyIter_zip h1 ?_*>#[⇑f+4,[⇑f+4,⇑f+2,⇑f+3,⇑f,⇑f+1],_,_,H1,rfl,g.kept (t':=f.toks) Z,aer _ _ _ _ _ l m (aka _ _ _ (abU y) (abU i)),#[h1,h2,#[_,_,U],W,Y],λb z=>?_,q];let j:⇑f<=b:=by
  simp only[aaz,amv,or_false]at z;obtain e|e|e|e|e:=z<;>subst e
  .show am6 _ _
  .show am6 _ _
  .show am6 _ _
  .show Ϭ _
  .show am6 _ _
 show g.fpOk j (g.hok.fresh j)
end
section
variable{X:Cx}{a e:Ϫ}{σ:St}{H:Hp}{Q:VK}{D:Ends}{pos p p':Pos}
def O2{Y:Cx}{tg elt:Ϫ}{J:It}{E:δ}{z:St}{Q:Hp->Prop}(n:Nat)(hn:n<=ϱ)(B:St->Prop)(Z:B z)(f:Nat->V->Hp->Prop)(W:H E=none)(mono:∀i v H1 H2 ys,H1 E=↑(.lst ys)->(∀b o,b≠E->H1 b=↑o->H2 b=↑o)->f i v H1->f i v H2)(go:∀i H1,ζ H H1->i<n->J.go i H1)(stop:∀H1,ζ H H1->J.stop n H1)(step:∀i l x H1 H2,i<n->B l->ζ H H1->(∃ys,H1 E=↑(.lst ys)/\↥ys=i/\∀k v,ys[k]?=↑v->f k v H1)->J.yld i H1 x H2->EG Y tg x l H2 λg O=>EV Y elt g O λv p=>B g/\f i v p/\ζ H1 p)(P:∀H1 xs,↥xs=n->(∀i v,xs[i]?=↑v->f i v H1)->H1 E=↑(.lst xs)->ζ H H1->Q H1):jz X Y tg elt [] J E z H Q:=by
 show#[λi m l H1=>m=n-i/\i<=n/\ζ H H1/\B l/\∃xs,H1 E=↑(.lst xs)/\↥xs=i/\∀k v,xs[k]?=↑v->f k v H1,#[n,by simp,aht _,ζ.upd W,Z,[],ξ,rfl,λk v e=>by simp at e],?_]
 rintro i m l H1 ⟨rfl,hi,C,R,xs,D,G,S⟩
 by_cases j:i<n
 .show .inr #[go i H1 C j,λF H'=>ζ H H'/\B F/\∃xs,H' E=↑(.lst xs)/\↥xs=i+1/\∀k v,xs[k]?=↑v->f k v H',λF H' z=>by let#[a,b,c]:=z;show #[n-(i+1),(),rfl,j,a,b,c],λx H2 y=>?_];intro ϵ s u I r;show υ (step i l x H1 H2 j R C #[xs,D,G,S] y ϵ s u I r) λ_ s' ⟨g,O,I3,q3⟩=>#[g,O,I3,V5 ?_]
  rw[if_pos rfl];show aP q3 λv p ⟨t2,pv,L⟩=>#[xs,L<*D,(),?_]
  let mm:∀k M,f k M p->f k M (upd p E (.lst (xs++[v]))):=λk M q=>mono k M p _ xs (L<*D) (λb o T e=>by rw[ι T];show e) q
  show#[λb o e=>?_,t2,xs++[v],ξ,by simp[G],λk u e=>?_]
  .rw[ι (Ξ e W)];show L<*(C<*e)
  .by_cases hk:k<↥xs
   .rw[aed hk]at e;show mono k u H1 _ xs D (λb o T e=>?_) (S k u e);rw[ι T];show L<*e
   .let U:k=i:=by
     have:=(aab.mp e).1;rw[aa6,ahi]at this;omega
    subst U;rw[<-G,aoM]at e;cases e;show mm<*pv
 .let e:i=n:=()
  subst e;show .inl #[stop H1 C,P H1 xs G S D C]
variable{tg elt iter:Ϫ}{scope:aiZ}{σ':St}
def zK(X:Cx)(N':List Str)(scope:aiZ)(tg elt:Ϫ)(σ':St)(H1:Hp)(Q:VK)(n:Nat)(G:Nat->Hp->V->Hp->Prop):Prop:=
 ∃(f:St->Prop)(e:δ->Nat->V->Hp->Prop),f σ'/\
  (∀E i v H2 a ys,H2 E=↑(.lst ys)->(∀b o,b≠E->H2 b=↑o->a b=↑o)->e E i v H2->e E i v a)/\
  (∀(fp:List δ)(E C:δ)(g:ν)(j:Hp)(i:Nat)(l:St)(x:V)(H2 a:Hp),H1 E=none->i<n->f l->ζ H1 H2->(∃ys,H2 E=↑(.lst ys))->G i H2 x a->
   EG (bW X N' scope (ώ scope X.env) C g j fp) tg x l a λc p=>EV (bW X N' scope (ώ scope X.env) C g j fp) elt c p λv m=>f c/\e E i v m/\ζ H2 m)/\
  ∀(E:δ)(H2:Hp)(xs:List V),H1 E=none->↥xs=n->(∀i v,xs[i]?=↑v->e E i v H2)->H2 E=↑(.lst xs)->ζ H1 H2->Q (.ref E) H2
def Fy{N':List Str}{J:It}{n:Nat}{G:Nat->Hp->V->Hp->Prop}(g:n<=ϱ)(go:∀i H2,ζ H H2->i<n->J.go i H2)(stop:∀H2,ζ H H2->J.stop n H2)(j:∀i H2 x f,i<n->ζ H H2->J.yld i H2 x f->G i H2 x f)(h:zK X N' scope tg elt σ' H Q n G):∀(fp:List δ)(D C:δ)(a:ν),H D=none->jz X (bW X N' scope (ώ scope X.env) C a (upd H D (.lst [])) fp) tg elt [] J D σ' H (λH'=>Q (.ref D) H'):=by
 intro fp E C a c;let#[m,o,t0,mono,step,e]:=h;show O2 n g m t0 (o E) c (λi v H1 H2 ys=>mono E i v H1 H2 ys) go stop (λi p x H1 H2 hi q hs u y=>step fp E C a _ i p x H1 H2 c hi q hs (u.imp λ_ z=>z.1) (j i H1 x H2 hi hs y)) λH1 xs l B F s=>e E H1 xs c l B F s
def lQ(N':List Str)(S:bO X.env scope)(h:EV X e σ H λv H1=>∃l xs,v=.ref l/\θ X.K H1 l xs/\↥xs<=ϱ/\zK X N' scope tg elt σ' H1 Q ↥xs λi H2 x f=>xs[i]?=↑x/\H2=f)(c:bN N' X.N σ scope=σ':=by rfl)(g:X.calm=true:=by rfl)(hs:∀x,foldedSetIterable e X.env x=pure x:=by intro _;rfl):EV X (.ListComp elt [#[tg,e,[],0]] scope pos) σ H Q:=by
 show vD (N':=N') g S hs (tH (aP h λv H1 q=>?_));let#[l,xs,rfl,a,j,m]:=q;show#[l,rfl,#[xs,a],?_];rw[c];show Fy j (λi H2 s hi=>#[xs,xs[i],ζ.seq s a,aag hi]) (λH2 s=>#[xs,ζ.seq s a,Ϭ _]) (λi H2 x f hi s y=>#[y.2 xs (ζ.seq s a),y.1.symm]) m
def abx{b:Ϫ}{elts:List Ϫ}{k:Nat}{tp:Pos}(N':List Str)(f:bN N' X.N σ scope=σ')(D:X.calm=true)(S:bO X.env scope)(E:Gl X "zip")(F:X.mg "zip"=none)(hs:ϳ [a,b] X.env=[(false,eval a X.env),(false,eval b X.env)])(g:ϳ [b] X.env=[(false,eval b X.env)])(h:EV X a σ H λv H1=>EV X b σ H1 λo H2=>∃l m xs ys,v=.ref l/\o=.ref m/\H2 l=↑(.lst xs)/\H2 m=↑(.lst ys)/\min ↥xs ↥ys<=ϱ/\
   zK X N' scope (.Tuple elts k tp) elt σ' H2 Q (min ↥xs ↥ys) λi c x B=>∃T y z,x=.ref T/\c T=none/\B=upd c T (.tup [y,z])/\xs[i]?=↑y/\ys[i]?=↑z):EV X (.ListComp elt [#[.Tuple elts k tp,.Call (.Name "zip" p) [a,b] [] p',[],0]] scope pos) σ H Q:=by
 show vD (N':=N') D S (by intro _;rfl) (Za E F hs g (aP h λv H1 q=>aP q λo H2 q=>?_));let#[l,m,xs,ys,e1,G,C,e,h2,I]:=q;show#[l,m,xs,ys,e1,G,C,e,?_];rw[f];let j:θ X.K H2 l xs:=.inl (.inl C);let n:θ X.K H2 m ys:=.inl (.inl e);show Fy h2 (λi c s hi=>#[xs,ys,xs[i]'(),ys[i]'(),ζ.seq s j,ζ.seq s n,aag _,aag _]) (λc s=>#[xs,ys,ζ.seq s j,ζ.seq s n,Ϭ _]) (λi c x B hi s y=>?_) I;let#[T,u,J,L,M,O,P,R]:=y;show#[T,u,J,L,M,O,P xs (ζ.seq s j),R ys (ζ.seq s n)]
def abV{elts:List Ϫ}{k:Nat}{tp:Pos}{body:List Ϩ}(n:ap5 ∅ X.A X.env X.xe)(o:X.calm=true)(s:Gl X "enumerate")(z:X.mg "enumerate"=none)(hs:ϳ [a] X.env=[(false,eval a X.env)])(h:EV X a σ H λv H1=>∃l xs,v=.ref l/\H1 l=↑(.lst xs)/\∃c:Nat->St->Hp->Prop,c 0 σ H1/\(∀i σ' H',i<=↥xs->c i σ' H'->θ X.K H' l xs)/\
   (∀i x T σ' H',xs[i]?=↑x->c i σ' H'->H' T=none->EG X (.Tuple elts k tp) (.ref T) σ' (upd H' T (.tup [.int i,x])) λf H2=>Ι X body {D with nx:=c (i+1),ct:=c (i+1),bk:=D.nx} f H2)/\∀σ' H',c ↥xs σ' H'->D.nx σ' H'):SX X (.For (.Tuple elts k tp) (.Call (.Name "enumerate" p) [a] [] p') body [] pos) D σ H:=by
 show sV n o (by intro _;rfl) (anr s z hs (aP h λv H1 q=>?_));let#[l,xs,rfl,B,c,C,E,F,hd]:=q;show#[l,xs,rfl,B,λi m σ H=>m=↥xs-i/\i<=↥xs/\c i σ H,#[↥xs,by simp,aht _,C],?_]
 rintro i m σ' H' ⟨rfl,hi,p⟩
 let j:=E i σ' H' hi p;by_cases g:i<↥xs
 .show .inr #[#[xs,xs[i],j,aag g],c (i+1),λf H2 p2=>#[↥xs-(i+1),(),rfl,g,p2],λx H2 y=>?_];let#[T,u,e1,G,I,J]:=y;subst e1 I;show F i u T σ' H' (J xs j) p G
 .let e:i=↥xs:=()
  subst e;show .inl #[#[xs,j,Ϭ _],hd σ' H' p]
end
section
variable{Kt:Type} [DecidableEq Kt] [BEq Kt] [LawfulBEq Kt]
def c7(ks:List Kt):List Kt:=ks.foldl (λa k=>if k∈a then a else a++[k]) []
def vG(ks:List Kt)(k:Kt):c7 (ks++[k])=if k∈c7 ks then c7 ks else c7 ks++[k]:=by
 unfold c7;rw[atf];rfl
theorem BV:∀n (ks:List Kt),↥ks=n->↥(c7 ks)<=↥ks
 |0,ks,h=>by rw[ahE.mp h];show Ϭ _
 |n+1,ks,h=>by
  obtain⟨l,k,rfl⟩:∃l k,ks=l++[k]:=#[_,_,(ajk (anz h)).symm];let a:↥l=n:= ~~~h
  let c:=BV n l a;rw[vG];split <;>simp <;>omega
theorem Nz:∀n (ks:List Kt),↥ks=n->∀k,k∈c7 ks↔k∈ks
 |0,ks,h=>by rw[ahE.mp h];intro k;show Iff.rfl
 |n+1,ks,h=>by
  obtain⟨l,x,rfl⟩:∃l k,ks=l++[k]:=#[_,_,(ajk (anz h)).symm];let c:↥l=n:= ~~~h
  let a:=Nz n l c;intro k;rw[vG,acL,aa0];split
  .rename_i f;rw[a];constructor
   .show .inl
   .rintro(e|e)
    .show e
    .rw[e];show(a x).mp f
  .rw[acL,aa0,a]
theorem Kv:∀n (ks:List Kt),↥ks=n->(↥(c7 ks)=↥ks↔ks.Nodup)
 |0,ks,h=>by rw[ahE.mp h];simp[c7]
 |n+1,ks,h=>by
  obtain⟨l,x,rfl⟩:∃l k,ks=l++[k]:=#[_,_,(ajk (anz h)).symm];let c:↥l=n:= ~~~h
  let g:=Kv n l c;let le:=BV n l c;let i:=Nz n l c x;rw[vG,ar7];split
  .rename_i f;constructor
   .intro e;simp at e;omega
   .intro e;show absurd rfl (e.2.2 x (i.mp f) x (by simp))
  .rename_i f;rw[aa6,aa6,ahi];constructor
   .intro e;show#[g.mp (),by simp,λa j b m=>?_];rw[aa0.mp m];intro o;show f (i.mpr (o▸j))
   .intro e;rw[g.mpr e.1]
end
section
variable{prog:ϰ}{w:Ϯ}{A:ϴ}{E:ε->ν->Prop}{s:ν}{zs:List Str}{us:Array ε}
def strAt(us:Array ε)(zs:List Str):=∀(i:Nat)(v:ε),us[i]?=↑v->∃t z,v=.str z t/\zs[i]?=↑z
def jB(prog:ϰ)(w:Ϯ)(h:ϫ)(S:δ)(zs:List Str):Prop:=h.SetOf (strKind prog w) S (λk=>decide (k∈c7 zs)) ↥(c7 zs)
def jB.stay{h h':ϫ}{S:δ}(x:jB prog w h S zs)(k:∀o,h.get? S=↑o->h'.get? S=↑o):jB prog w h' S zs:=by
 let#[o,es,ep,t,a,rest]:=x;show#[o,es,ep,t,k _ a,rest]
def abO{R:Result->ν->Prop}{it:δ}{fp wr:List δ}{G:Array GenState->Array GenState->Prop}{St:Nat->ν->Prop}(W:WalksS prog w A.in1 it fp wr G us.size (λi v=>us[i]?=↑v) St)(S:δ)(D:S∉fp)(I:strAt us zs)(J:us.size=↥zs)(a:us.size+1<scanBound)(d:Nat):∀(i:Nat)(s:ν),d+i=us.size->St i s->jB prog w s.heap S (zs.take i)->
   (∀s',Moved (S::wr) G s s'->jB prog w s'.heap S zs->R (.ok (.ret .none)) s')->codeAny (ϧ prog w) A (.builtin "set.update.loop" #[[.ref S,.ref it],[]]) R s:=by
 let c:S∉wr:=λh=>D (W.sub _ h)
 let up:∀b∈wr,b∈S::wr:=λb a=>abk _ a
 induction d with
 |zero=>
  intro i s hi st j n;let e:i=us.size:=()
  subst e;show anq F.entry_set_update_loop ?_;rw[Around.under_plainId F.plain_set_update_loop _];show Ϧ (m:=pyNext (.ref it)) (W.done s _ _ st λs' f=>?_)*>ϲ (n s' (f.mono up) ?_);rw[J,ajX]at j;show j.stay λo p=>f.heap S o c p
 |succ d L=>
  intro i s hi st j n;show anq F.entry_set_update_loop ?_;rw[Around.under_plainId F.plain_set_update_loop _];show Ϧ (m:=pyNext (.ref it)) (W.item i s _ _ () st λv s' M q f=>?_);let#[t,z,rfl,O]:=I i v M;let u:=j.stay (h':=s'.heap) λo p=>f.heap S o c p
  show π _ A.in1 (holding [Value.str z t] (setAdd S (.str z t))>>=_) _ _ s'*>Ϧ (acK ?_);unfold setAdd;show acK (Ϧ ((strKind prog w).pyHash (k:=z) (strKind_is _ _ _ _) ?_));let E:zs.take (i+1)=zs.take i++[z]:=by rw[aj9,O];rfl
  let g:↥(c7 (zs.take i))+1<scanBound:=by
   have:=BV _ (zs.take i) rfl;have:↥(zs.take i)<=↥zs:=by simp;omega
   omega
  show wpAny_setAddHashed_of (knd:=strKind prog w) (s:={s' with toks:=s'.toks+1}) (strKind_is _ _ _ _) rfl u g λh' H x=>?_
  let y:jB prog w h' S (zs.take (i+1)):=by
   show SetOf_congr x (λk=>?_) ?_
   .rw[E,vG];split
    .rename_i l;by_cases e:k=z
     .subst e;simp[l]
     .simp[e]
    .by_cases e:k=z
     .subst e;simp
     .simp[e]
   .rw[E,vG];by_cases l:z∈c7 (zs.take i)
    .simp[l]
    .simp[l]
  show ϲ #[plainId_quiet F.plain_set_update_loop _,L (i+1) _ () (W.frame _ s' _ _ q (aoF _) λb a o e=>?_) y λP B C=>?_]
  .rw[H.2 b (λh:b=S=>D (h▸a))];show e
  .show n P (Moved.trans W.gtrans ((f.mono up).then_heap (aoF _) λb o a e=>?_) B) C;rw[H.2 b (λh:b=S=>a (h▸ad1))];show e
abbrev newSet(h:ϫ)(led:Bool):ϫ:=h.push {cls:=.type "set",dict:=none,data:=.set #v[] 0 (.fresh 0 0 led)}
set_option maxRecDepth 100000 in
def alk{l S:δ}{Q:ε->ν->Prop}(y:A.handled=none)(v:s.heap.IsList l us)(f:∃a,s.heap.get? S=some {cls:=.type "set",dict:=none,data:=.set #v[] 0 (.fresh 0 0 a)})(z:strAt us zs)(B:us.size=↥zs)(j:us.size+1<scanBound)(h:∀(h':ϫ)(tk:Nat),jB prog w h' S zs->(∀b o,b≠S->s.heap.get? b=↑o->h'.get? b=↑o)->Q .none {s with heap:=h',toks:=tk}):codeAny (ϧ prog w) A (.call (.builtin "set.__init__") #[[.ref S,.ref l],[]]) (wants Q E) s:=by
 let#[a,f]:=f;let C:s.TypeIs (.ref S) "set":=#[_,f,rfl];show aoR F.called_set.init.plain F.entry_set_init (check_set_init_1 C ?_);let g:=v;let#[#[oc,od,m,os],c,x,nl,hd]:=v;simp only at x hd;subst x hd;let O:=F.sub_list_set;let P:=F.sub_list_frozenset;let R:(Value.type "list"==Value.type "dict")=false:=by decide
 unfold apB.«set.__init__» noKeywords Builtin.Frozenset.updateFrom;generalize n:pyIter=PI
 wp_walk
 subst n;show wpAny_pyIter_list g (Ϧ (wpAny_runValue ?_));let D:S<⇑s:=abU f;let G:l<⇑s:=abU c;let H:A.in1.in1.handled=none:=by simp[y]
 let p:S≠l:=λe=>by subst e;rw[f]at c;simp at c
 show abO (us:=us) ((Walks.list H _ l (acb G) us).toS) S (by simp only[aaz,amv,or_false,not_or];show#[acb D,p]) z B j us.size 0 {s with heap:=s.heap.push {cls:=.type "list_iterator",data:=.fields #v[.ref l,.int 0 0]}} ()
  #[#[_,abM _ rfl,rfl,rfl],(g.push _)] ?_ ?_
 .let hget:=aai {cls:=.type "list_iterator",data:=.fields #v[.ref l,.int 0 0]} f;show SetOf_congr ((setObjOf_fresh (knd:=strKind prog w) a).setOf hget (by unfold scanBound;omega)) (λ_=>rfl) rfl
 .intro s' i I;let#[h',g',d',q,u]:=s';let J:g'=s.gens:=i.gens;let L:d'=s.drawn:=i.drawn;let M:u=s.os:=i.os;subst J L M;show ϲ ?_*>π _ _ (ret Value.none) _ _ _*>ϲ (h h' q I λb o j e=>?_)*>i.heap b o ?_ (aai _ e);simp only[aaz,amv,or_false,not_or];show#[j,acb (abU e)]
set_option maxRecDepth 100000 in
def aim{l:δ}{Q:ε->ν->Prop}(x:A.handled=none)(y:s.heap.IsList l us)(z:strAt us zs)(B:us.size=↥zs)(C:us.size+1<scanBound)(h:∀(h':ϫ)(tk:Nat),jB prog w h' ⇑s zs->(∀b o,s.heap.get? b=↑o->h'.get? b=↑o)->Q (.ref ⇑s) {s with heap:=h',toks:=tk}):π (ϧ prog w) A (call (.type "set") [.ref l]) Q E s:=by
 let#[c,tl,q]:=F.called_set.mro;let m:=F.called_set.made;let u:=F.called_set.sub;let h1:=F.called_set.notType;let h2:=F.called_set.canCreate;let D:=F.typeCall_set_1 (.ref l);show aon (codeAny_of_tree ?_)*>π _ _ (callAny (.type "set") _) _ _ _*>ϲ #[Code.quiet_builtin _ (by fin2),anq F.entry_type_call ?_];rw[Around.under_plain (weight_type_call_type "set" [.ref l] []) rfl]
 repeat (any_goals (first|with_reducible assumption|wp_step))
 show akz (code_set_new_1 (.ref l) (E:=E) (Q₁:=λobj g=>∃a:Bool,obj=.ref ⇑s/\g={s with heap:=newSet s.heap a}) λa=>#[a,rfl,rfl]) λr g n=>?_
 rcases r with e|(_|_|_|obj)
 all_goals first|show n|show n.elim|skip
 let#[a,rfl,rfl]:=n;let v:(newSet s.heap a).get? ⇑s=some {cls:=.type "set",dict:=none,data:=.set #v[] 0 (.fresh 0 0 a)}:=abM _ rfl;let I:Shared.TypeIs {s with heap:=newSet s.heap a} (.ref ⇑s) "set":=#[_,v,rfl];let G:=F.called_set.init.lookup;let H:=F.called_set.init.bind (.ref ⇑s)
 repeat (any_goals (first|with_reducible assumption|wp_step))
 show akz (alk (E:=E) (s:={s with heap:=newSet s.heap a}) (Q:=λr i=>r=.none/\∃h' tk,i={s with heap:=h',toks:=tk}/\jB prog w h' ⇑s zs/\∀b o,s.heap.get? b=↑o->h'.get? b=↑o) (by simp[x]) (y.push _) #[a,v] z B C λh' tk p k=>#[rfl,h',tk,rfl,p,λb o e=>k b o (acb (abU e)) (aai _ e)]) λj i f=>?_
 rcases j with e|(_|_|_|r)
 all_goals first|show f|show f.elim|skip
 let#[rfl,h',tk,rfl,p,k]:=f
 repeat (any_goals (first|with_reducible assumption|wp_step))
 show h _ _ p k
end
section
variable{X:Cx}{H:Hp}{Q:VK}{v:V}
def lO(X:Cx)(S:δ)(zs:List Str):HO:=.ext λh=>jB X.prog X.w h S zs
def Mu{q:δ}{zs:List Str}(p:X.calm=true)(h:θ X.K H q (zs.map V.str))(j:↥zs<=4000)(g:∀S,H S=none->Q (.ref S) (upd H S (lO X S zs))):CL X (.type "set") [.ref q] H Q:=by
 show cI (r:=λxs H Q=>∃q zs,xs=[.ref q]/\θ X.K H q (zs.map V.str)/\↥zs<=4000/\∀S,H S=none->Q (.ref S) (upd H S (lO X S zs))) ?_ #[q,zs,rfl,h,j,g];intro ϵ s σ H xs us Q I r h;let#[q,zs,rfl,h,j,g]:=h;let#[u,rfl,y]:=vals1 r;cases(show u=Value.ref q from y);let#[c,l,pl,_]:=I.list h;let m:↥c=↥zs:=by have:=↥l;rw[ϭ]at this;show this.symm
 let f:strAt c.toArray zs:=λi v e=>by
  let n:c[i]?=↑v:= ~~~e
  let hi:i<↥zs:=by rw[<-m];show(aab.mp n).1
  let#[u,e1,z]:=l.get (i:=i) (x:=V.str zs[i]) (by simp[hi]);rw[n]at e1;cases e1;let#[t,rfl]:=z;show#[t,zs[i],rfl,aag hi]
 show aim (I.ok.hd p) pl.isList f (~~~m) (by show _<4096;simp;omega) λh' tk a k=>?_
 show#[.ref ⇑s,_,I.laid (t':=tk) (o:=lO X ⇑s zs) k (Ϭ _) #[a,?_,λh1 h2 a B=>a.stay B],rfl,g _ (I.hok.fresh (Ϭ _))];let#[o,es,ep,t,C,_]:=a;show#[o,C]
def U7{S:δ}{zs:List Str}(h:H S=↑(lO X S zs))(c:↥zs<=4000)(g:Q (.int ↥(c7 zs)) H):CL X (.builtin "len") [.ref S] H Q:=by
 show cI (r:=λxs H Q=>∃S zs,xs=[.ref S]/\H S=↑(lO X S zs)/\↥zs<=4000/\Q (.int ↥(c7 zs)) H) ?_ #[S,zs,rfl,h,c,g];intro ϵ s σ H xs us Q I r h;let#[S,zs,rfl,h,c,g]:=h;let#[u,rfl,e]:=vals1 r;cases(show u=Value.ref S from e);let#[#[o,es,ep,t,f,a,hd,i,m,n,j,l],_]:=I.hok S _ h;let le:=BV _ zs rfl;show call_len_set f a hd j () #[.int es.size,H,I.tok _,#[_,rfl],?_];rw[l];show g
theorem FW{x:V}{p:δ}{xs:List V}(h:ψ X.K H p xs)(q:Q (.bl (!bc x xs)) H)(f:d8 x=true:=by rfl)(fs:xs.all d8=true:=by rfl):OP X (adA .NotIn) x (.ref p) H Q:=bj Og #[p,xs,rfl,.inr h,f,fs,q]
theorem dw{x:V}{p:δ}{xs:List V}(h:ψ X.K H p xs)(q:Q (.bl (bc x xs)) H)(f:d8 x=true:=by rfl)(fs:xs.all d8=true:=by rfl):OP X (adA .In) x (.ref p) H Q:=bj agB #[p,xs,rfl,.inr h,f,fs,q]
theorem IW{x:V}{p:δ}{xs:List V}(h:θ X.K H p xs)(fs:xs.all d8=true)(q:Q (.bl (!bc x xs)) H)(f:d8 x=true:=by rfl):OP X (adA .NotIn) x (.ref p) H Q:=bj Og #[p,xs,rfl,.inl h,f,fs,q]
theorem ye{l b:δ}{xs zs:List V}(h1:H l=↑(.lst xs))(h2:H b=↑(.lst zs))(a:↥xs+↥zs<=ϱ)(q:∀p,H p=none->Q (.ref p) (upd H p (.lst (xs++zs)))):OP X (binaryOp .Add) (.ref l) (.ref b) H Q:=bj abX #[l,b,xs,zs,rfl,rfl,h1,h2,a,q]
end
section
variable{X:Cx}{H:Hp}{D:Ends}{σ σ':St}{e a elt tg:Ϫ}{scope:aiZ}{pos spos py p p':Pos}{y:Str}{j:Nat}
def oU(N':List Str)(S:bO X.env scope)(m:X.N.Nodup)(h:EV X e σ H λv H1=>∃l xs,v=.ref l/\θ X.K H1 l xs/\↥xs<=ϱ/\zK X N' scope tg elt σ' H1 (λv H'=>D.nx (σ.set j ↑v) H') ↥xs λi H2 x g=>xs[i]?=↑x/\H2=g)(c:bN N' X.N σ scope=σ':=by rfl)(f:ao7 (.ListComp elt [#[tg,e,[],0]] scope pos) ↑(.Name y py) spos.line X.env=pure true:=by rfl)(n:X.calm=true:=by rfl)(hs:∀x,foldedSetIterable e X.env x=pure x:=by intro _;rfl)(hi:nameAt X.N y=↑j:=by rfl)(o:X.env.scope.names.lookup y=↑.local:=by rfl):SX X (.Assign [.Name y py] (.ListComp elt [#[tg,e,[],0]] scope pos) spos) D σ H:=by
 show amz (N':=N') f n S hs m hi o (tH (aP h λv H1 q=>?_));let#[l,xs,rfl,a,p,u]:=q;show#[l,rfl,#[xs,a],?_];rw[c];show Fy (J:=j5 X.K l) p (λi H2 s hi=>#[xs,xs[i],ζ.seq s a,aag hi]) (λH2 s=>#[xs,ζ.seq s a,Ϭ _]) (λi H2 x g hi s y=>#[y.2 xs (ζ.seq s a),y.1.symm]) u
end
def cutAt(c:Nat):List Nat->List (List Nat)
 |[]=>[[]]
 |x::r=>if x=c then[]::cutAt c r else match cutAt c r with
  |[]=>[[x]]
  |h::t=>(x::h)::t
def cT(c:Nat):List (List Nat)->List Nat
 |[]=>[]
 |[p]=>p
 |p::q::r=>p++c::cT c (q::r)
theorem wJ(c:Nat):∀l,cutAt c l≠[]
 |[]=>by simp[cutAt]
 |x::r=>by
  unfold cutAt;split
  .simp
  .split <;>simp
theorem yq{c:Nat}:∀{p:List Nat},c∉p->cutAt c p=[p]
 |[],_=>rfl
 |x::r,h=>by
  let a:=yq (c:=c) (p:=r) λz=>h (by simp[z])
  unfold cutAt;rw[if_neg (λz=>h (by simp[z])),a]
theorem UW{c:Nat}{l:List Nat}:∀{p:List Nat},c∉p->cutAt c (p++c::l)=p::cutAt c l
 |[],_=>by
  show cutAt c (c::l)=_;rw[cutAt,if_pos rfl]
 |x::r,h=>by
  let a:=UW (c:=c) (l:=l) (p:=r) λz=>h (by simp[z])
  show cutAt c (x::(r++c::l))=_;rw[cutAt,if_neg (λz=>h (by simp[z])),a]
theorem Jg{c:Nat}:∀{ps:List (List Nat)},ps≠[]->(∀p∈ps,c∉p)->cutAt c (cT c ps)=ps
 |[],h,_=>absurd rfl h
 |[p],_,h=>yq (h p (by simp))
 |p::q::r,_,h=>by
  show cutAt c (p++c::cT c (q::r))=_;rw[UW (h p (by simp)),Jg (by simp) λx a=>h x (abk _ a)]
theorem Eg(c:Nat):∀l,↥(cutAt c l)<=↥l+1
 |[]=>by simp[cutAt]
 |x::r=>by
  let a:=Eg c r;unfold cutAt;split
  .simp;show a
  .split
   .simp
   .rename_i h t e;rw[e]at a;simp at a⊢;omega
theorem EY(c:Nat):∀l,cT c (cutAt c l)=l
 |[]=>rfl
 |x::r=>by
  let a:=EY c r;unfold cutAt;split
  .rename_i h;cases e:cutAt c r with
   |nil=>show absurd e (wJ c r)
   |cons p q=>
    rw[e]at a;show[]++c::cT c (p::q)=_;rw[a,h];rfl
  .cases e:cutAt c r with
   |nil=>show absurd e (wJ c r)
   |cons p q=>
    rw[e]at a;simp only;cases q with
    |nil=>
     show x::p=_;rw[show p=r from a]
    |cons y q=>
     show(x::p)++c::cT c (y::q)=_;rw[<-a];rfl
theorem qK(c:Nat):∀ps:List Str,(aep #[#v[c]] ps).cps.toList=cT c (ps.map λp=>p.cps.toList)
 |[]=>rfl
 |[p]=>rfl
 |p::q::r=>by
  let a:=qK c (q::r);let e:aep #[#v[c]] (p::q::r)=p++#[#v[c]]++aep #[#v[c]] (q::r):=rfl;rw[e];show((p.cps++ #v[c])++(aep #[#v[c]] (q::r)).cps).toList=_;simp only[arR];rw[a];simp[cT]
def amR(x:Str)(c:Nat):Txt.split x #[#v[c]]≠[]:=by
 unfold Txt.split;split
 .simp
 .split
  .simp
  .unfold Builtin.Str.partsBetween;simp
def split_list(x:Str)(c:Nat):(Txt.split x #[#v[c]]).map (λp=>p.cps.toList)=cutAt c x.cps.toList:=by
 let h1:(aep #[#v[c]] (Txt.split x #[#v[c]])).cps.toList=x.cps.toList:=by rw[StrLaws.join_split]
 rw[qK]at h1;rw[<-h1];show(Jg (~~~amR x c) λp a=>?_).symm;let#[q,e,rfl]:=ad8.mp a;show StrLaws.split_free x c q e
def Λ(c:Nat)(x:Str):List Str:=(cutAt c x.cps.toList).map λl=>#[l.toArray]
def vZ(x:Str)(c:Nat):Txt.split x #[#v[c]]=Λ c x:=by
 unfold Λ;rw[<-split_list,agf];have:((λl:List Nat=>(#[l.toArray]:Str))∘λp:Str=>p.cps.toList)=id:=by
  funext p;rfl
 rw[this,asf]
section
variable{X:Cx}{H:Hp}{Q:VK}{z y:Str}{v:V}
theorem Vp:∀l:List (Str×Tok),Vals ((l.map (·.1)).map V.str) (strValues l)
 |[]=>.nil
 |p::l=>.cons #[p.2,rfl] (Vp l)
def m_split{c:Nat}(g:∀p,H p=none->Q (.ref p) (upd H p (.lst ((Λ c z).map V.str))))(i:↥z<=100000:=by omega):MT X "str.split" (.str z) [.str #[#v[c]]] H Q:=by
 show bZ (r:=λx xs H Q=>∃z c,x=.str z/\xs=[.str #[#v[c]]]/\↥z<=100000/\∀p,H p=none->Q (.ref p) (upd H p (.lst ((Λ c z).map V.str)))) ?_ #[z,c,rfl,rfl,i,g];intro ϵ s σ H x xs v us Q I rx j h;let#[z,c,rfl,rfl,i,g]:=h;let#[t,rfl]:=rx;let#[u,rfl,m]:=vals1 j;let#[t',rfl]:=m;let n:↥(Λ c z)<=↥z+1:=by
  let h1:=Eg c z.cps.toList;unfold Λ;rw[ϭ];let h2:↥z.cps.toList=↥z:=rfl;omega
 let hsz:=ϯ;let a:∀(l:List (Str×Tok))(tk:Nat),l.map (·.1)=Λ c z->EP X ϵ σ Q (.ref ⇑s) {s with toks:=tk,heap:=s.heap.push {cls:=.type "list",data:=.seq (strValues l).toArray}}:=λl tk e=>
  #[.ref ⇑s,_,I.laid (t':=tk) (o:=.lst ((Λ c z).map V.str)) (λb o q=>aai _ q) (Ϭ _) #[by rw[ϭ];omega,strValues l,_,by rw[<-e];show Vp l,abM _ rfl],rfl,g _ (I.hok.fresh (Ϭ _))]
 cases h1:(decide (↥z<↥(#[#v[c]]:Str))||decide (Builtin.Str.strKind z<Builtin.Str.strKind #[#v[c]]))
 .cases hf:(Builtin.Str.occurrences z #[#v[c]] 0 ↥z (↥z+1)).isEmpty
  .let e:Txt.split z #[#v[c]]=Builtin.Str.partsBetween z (Builtin.Str.occurrences z #[#v[c]] 0 ↥z (↥z+1)) ↥(#[#v[c]]:Str):=by
    unfold Txt.split;rw[if_neg (by rw[h1];decide),if_neg (by rw[hf];decide)]
   let f:=n;rw[<-vZ,e]at f;show ame F.slot_str_split (typeIs_str<*_) F.entry_str_split (F.args_str_split_2 _ _) (meets_str_split_sep z #[#v[c]] t t' h1 rfl hf () ()) ?_;have:=a (numbered s.toks (Txt.split z #[#v[c]])) (s.toks+↥(Builtin.Str.partsBetween z (Builtin.Str.occurrences z #[#v[c]] 0 ↥z (↥z+1)) (#[#v[c]]:Str).length)) (by rw[numbered_texts,vZ]);rw[<-strsFrom_eq,e]at this;show this
  .let e:Txt.split z #[#v[c]]=[z]:=by
    unfold Txt.split;rw[if_neg (by rw[h1];decide),if_pos hf]
   show ame F.slot_str_split (typeIs_str<*_) F.entry_str_split (F.args_str_split_2 _ _) (meets_str_split_not_found z #[#v[c]] t t' h1 rfl hf) (a [(z,t)] s.toks (by rw[<-vZ,e];rfl))
 .let e:Txt.split z #[#v[c]]=[z]:=by
   unfold Txt.split;rw[if_pos h1]
  show ame F.slot_str_split (typeIs_str<*_) F.entry_str_split (F.args_str_split_2 _ _) (meets_str_split_cannot_occur z #[#v[c]] t t' h1) (a [(z,t)] s.toks (by rw[<-vZ,e];rfl))
def ahR{c:Nat}(q:Q (.int c) H):CL X (.builtin "ord") [.str #[#v[c]]] H Q:=by
 show cI (r:=λxs H Q=>∃c:Nat,xs=[.str #[#v[c]]]/\Q (.int c) H) ?_ #[c,rfl,q];intro ϵ s σ H xs us Q I r h;let#[c,rfl,q]:=h;let#[u,rfl,a]:=vals1 r;let#[t,rfl]:=a;show P.ord_of_char #[.int c,H,I.tok _,#[_,rfl],q]
def abn{i:Int}(hi:0<=i)(a:i<1000)(g:Q (.str (Txt.zfill z i)) H):MT X "str.zfill" (.str z) [.int i] H Q:=by
 show bZ (r:=λx xs H Q=>∃z i,x=.str z/\xs=[.int i]/\0<=i/\i<1000/\Q (.str (Txt.zfill z i)) H) ?_ #[z,i,rfl,rfl,hi,a,g];intro ϵ s σ H x xs v us Q I rx c h;let#[z,i,rfl,rfl,hi,a,g]:=h;let#[t,rfl]:=rx;let#[u,rfl,e]:=vals1 c;let#[t',rfl]:=e;show SC.zfill ?_ λf k=>#[.str _,H,I.tok k,#[f,rfl],g]
 show padOk_of () ()
end
def JR(K:ϩ)(l:δ)(n:Nat):It:=
 #[λi H=>i<n/\∃xs,θ K H l xs/\↥xs=n,λi H x H'=>H'=H/\∀xs,θ K H l xs->xs[n-1-i]?=↑x,λi _=>i=n]
theorem akQ{P:ϰ}{w:Ϯ}{K:ϩ}{tg:Ϫ}(l it:δ)(n:Nat):Turn P w K tg (JR K l n) [it] it (λi h=>h.IsRevIter it l ((n:Int)-1-(i:Int)))where
 mem:=by simp
 obj:=λi h st b a=>by
  let e:b=it:= ~~~a
  subst e;let#[o,e,c,d]:=st;show#[o,e,λv z=>by rw[d]at z;cases z]
 keep:=λi h h' st k=>st.at λo e=>k it (by simp) o e
 item:=by
  intro X m q y M i ϵ s σ H E I j st B;subst m q y;let#[hi,xs,O,hx]:=B;let#[ϸ,Q,p,hz]:=I.list O;let f:n-1-i<↥xs:=()
  let#[u,R,S]:=Q.get (aag f);let#[C,D,T,F,G,J]:=j it (by simp);let ei:((n:Int)-1-(i:Int))=((n-1-i:Nat):Int):=()
  rw[ei]at st;show wpAny_pyNext_rev_item st p.isList (x:=u) (~~~R) λh' g U=>?_
  let W:Inv X ϵ σ H {s with heap:=h'}:=I.turned (t':=s.toks) (λb o a e=>(U.2 b a).trans e) C D F G J;let#[o,e,c,d]:=id g;show#[u,rfl,uI (s:={s with heap:=h'}) e c d (by decide) #[_,H,W,S,#[rfl,λys Y=>?_],?_,λb a=>(j b a).1]]
  .rw[I.list_inj Y O];show aag f
  .let L:((n:Int)-1-((i+1:Nat):Int))=((n-1-i:Nat):Int)-1:=()
   rw[L];show g
 done:=by
  intro X m q y M i ϵ s σ H E I j st B;subst m q y;let#[C,D,T,F,G,J]:=j it (by simp);let e:i=n:=B;let L:((n:Int)-1-(i:Int))= -1:=()
  rw[L]at st;show wpAny_pyNext_rev_end (I.ok.hd M) st λh' Z=>#[rfl,I.turned (t':=s.toks) (λb o a e=>Z b o a e) C D F G J]
 self:=λ_ _ _ _ _ st h=>wpAny_pyIter_revIter st h
section
variable{X:Cx}{σ:St}{H:Hp}{a:Ϫ}{tg:Ϫ}{p pos p':Pos}{R:It->Hp->Prop}{D:Ends}
def ae6(m:Gl X "reversed")(n:X.mg "reversed"=none)(hs:ϳ [a] X.env=[(false,eval a X.env)])(h:EV X a σ H λv H1=>∃l xs,v=.ref l/\θ X.K H1 l xs/\R (JR X.K l ↥xs) H1):EI X tg (.Call (.Name "reversed" p) [a] [] pos) σ H R:=by
 intro ϵ s I;show Call_ (jE I m n boot_reversed (PyProof.Rows.callWith_type1 (υ (gQ (es:=[]) (QA:=λvs H1=>∃l xs,vs=[.ref l]/\θ X.K H1 l xs/\R (JR X.K l ↥xs) H1) hs (aP h λv H1 z=>by let#[l,xs,e,x,y]:=z;show dH #[l,xs,by rw[e],x,y]) pos ϵ s I) λus c z=>?_) hs rfl));let#[vs,H1,g,r1,l,xs,e,B,q]:=z;subst e;let#[u,rfl,C]:=vals1 r1;cases(show u=Value.ref l from C);let#[i,D,pl,F]:=g.list B;let j:=↥D;show call_reversed_list pl.isList ?_;let f:(c.heap.push (revObj l ((i.toArray.size:Int)-1))).IsRevIter ⇑c l ((i.toArray.size:Int)-1):=#[_,abM _ rfl,rfl,rfl];show wpAny_pyIter_revIter f ?_*>#[⇑c,[⇑c],_,_,H1,rfl,g.kept (t':=c.toks) λb o e=>aai _ e,akQ l _ ↥xs,?_,λb E=>?_,q]
 .let e:((↥xs:Int)-1-((0:Nat):Int))=(i.toArray.size:Int)-1:=by simp;omega
  rw[e];show f
 .let e:b=⇑c:= ~~~E
  subst e;show g.fpOk (Ϭ _) (g.hok.fresh (Ϭ _))
def XR{body:List Ϩ}(l:ap5 ∅ X.A X.env X.xe)(n:X.calm=true)(o:Gl X "reversed")(s:X.mg "reversed"=none)(hs:ϳ [a] X.env=[(false,eval a X.env)])(h:EV X a σ H λv H1=>∃q xs,v=.ref q/\θ X.K H1 q xs/\∃c:Nat->St->Hp->Prop,c 0 σ H1/\(∀i σ' H',i<=↥xs->c i σ' H'->θ X.K H' q xs)/\
   (∀i x σ' H',i<↥xs->xs[↥xs-1-i]?=↑x->c i σ' H'->EG X tg x σ' H' λg H2=>Ι X body {D with nx:=c (i+1),ct:=c (i+1),bk:=D.nx} g H2)/\∀σ' H',c ↥xs σ' H'->D.nx σ' H'):SX X (.For tg (.Call (.Name "reversed" p) [a] [] p') body [] pos) D σ H:=by
 show sV l n (by intro _;rfl) (ae6 o s hs (aP h λv H1 q=>?_));let#[q,xs,rfl,u,c,z,j,B,hd]:=q;show#[q,xs,rfl,u,λi m σ H=>m=↥xs-i/\i<=↥xs/\c i σ H,#[↥xs,by simp,aht _,z],?_]
 rintro i m σ' H' ⟨rfl,hi,p⟩
 by_cases f:i<↥xs
 .show .inr #[#[f,xs,j i σ' H' hi p,rfl],c (i+1),λg H2 p2=>#[↥xs-(i+1),(),rfl,f,p2],λx H2 y=>?_];let#[rfl,e]:=y;show B i x σ' _ f (e xs (j i σ' _ hi p)) p
 .let e:i=↥xs:=()
  show .inl #[e,?_];subst e;show hd σ' H' p
end
def ahj{M:Model}{A:ϴ}{E:ε->ν->Prop}{s:ν}{α:Type}{e T L:δ}{cls:ε}{d:Option δ×Bool}{x:ε}{a:String}{env:Env}{Q:α->ν->Prop}(y:env.frame=↑L)(F:aR s.heap e cls d ↑T x)(k:∀h',jW s.heap h' [T] []->aR h' e cls d ↑T (rawInt L)->E (.ref e) {s with heap:=h'}):π M A (passOn a (.ref e) env) Q E s:=by
 let#[B,vs,i,C,j,hd,h1,D,h2,G]:=F;let#[m,J,ws,c,f,H]:=G T rfl;let p:3<ws.size:=(aia.mp H).1;let g:vs[1]?=↑(Value.ref T):=h1;unfold PySem.passOn;show Ϧ (akC i hd g ?_);rw[if_neg (show ¬((Value.ref T==Value.none)=true)from by simp)];show Ϧ ?_;unfold setFlight;show Ϧ (akC i hd g ?_);rw[if_pos (show(Value.ref T !=Value.none)=true from by simp),y];show amj c f p (wpAny_throw (k _ #[λb o q _ n=>?_,λb o q n=>#[o.slots,?_],λb o q=>?_] ?_))
 .rw[aaK<*(λz=>n (by simp[z]))];show q
 .rw[aaK<*(λz=>n (by simp[z]))];show q
 .by_cases z:b=T
  .subst z;show#[_,adZ _ c (Obj.isFreed_of_fields (Obj.data_mapFields f _))]
  .show#[o,by rw[aaK<*(Ne.symm z)];show q]
 .show#[B,vs,?_,C,j,hd,h1,D,h2.stay λv o ws O l u=>?_,λP I=>?_]
  .rw[aaK<*m];show i
  .by_cases z:v=T
   .subst z;rw[c]at l;cases l;show#[_,_,adZ _ c (Obj.isFreed_of_fields (Obj.data_mapFields f _)),Obj.data_mapFields u _,by rw[agC (by decide)]]
   .show#[o,ws,by rw[aaK<*(Ne.symm z)];show l,u,rfl]
  .cases I;show#[m,_,_,adZ _ c (Obj.isFreed_of_fields (Obj.data_mapFields f _)),Obj.data_mapFields f _,by simp[p]]
section
variable{X:Cx}{ϵ:List (δ×Obj)}{σ:St}{H:Hp}{s:ν}{scope:aiZ}{N':List Str}{fp:List δ}{elt iter tg:Ϫ}{ifs:List Ϫ}{pos:Pos}{Kx:St->XK}
def YD{G:ε->ν->Prop}{a:Env}(n:compEnvC scope (ώ scope X.env) ⇑s X.env=a)(l:X.stack=X.env::X.outer)(g:X.env.frame=↑X.env.locals)(f:Inv X ϵ σ H s)(F:∀b∈fp,bK X ϵ H b)(p:∀{pins':List (δ×Obj)}{B:St}{H':Hp}{s':ν},Inv (cX X N' scope (ώ scope X.env) ⇑s s H fp (notedBy ∅ X.A a G)) pins' B H' s'->Inv X ϵ σ H' s')(u:∀(H':Hp)(s':ν)(e t:δ)(cls:ε)(d:Option δ×Bool),a.frame=↑X.env.locals->Inv X ϵ σ H' s'->bK X ϵ H' a.locals->(∃m,s'.heap.Ns a.locals m)->aR s'.heap e cls d ↑t (rawInt X.env.locals)->
   (∀b∈[e,t],(H' b=none/\Ch X ϵ b)/\b≠a.locals)->Kx σ cls d H'->G (.ref e) s'):ak (cX X N' scope (ώ scope X.env) ⇑s s H fp (notedBy ∅ X.A a G)) (λ_=>Kx σ):=by
 let v:a.locals=⇑s:=by rw[<-n];rfl
 intro pins' B H' s' e cls d I q;let#[J,tb,L,M,x,ch]:=I;let IX:=p J;let c:∀b∈e::tb.toList,(H' b=none/\Ch X ϵ b)/\b≠⇑s:=λb i=>by
  let#[O,c1,c2,c3]:=ch b i;show#[#[O,?_],c2];obtain z|z:=c1
  .let#[_,P,_,Q,R,S]:=F b z;show#[Q,P,R,S]
  .show f.ch z
 let j:(L==rawInt X.env.locals)=false:=by
  obtain z|⟨z,_⟩:=x
  .rw[z];simp[rawInt]
  .rw[z,beq_eq_false_iff_ne];intro C;simp only[rawInt]at C;let T:((⇑s:Nat):Int)=((X.env.locals:Nat):Int):=by injection C
   show arU f.lt (Int.ofNat.inj T)
 let D:=IX.stack;rw[l]at D;show π _ _ (noteFrame (.ref e) a) _ _ _;rw[show noteFrame (.ref e) a=noteFrame (.ref e) X.env by rw[<-n];rfl];show aao (base:=X.base) (IX.ok.frames<|>(by rw[l])) D g M j λh' t N y U=>?_
 let#[m,E,_]:=J.loc;show u H' _ e t cls d (by rw[<-n];show g) (IX.noted (by rw[l];show N) λb i=>(c b i).1) (by rw[v];show f.fpOk (Ϭ _) J.free) #[m,?_] U (λb i=>?_) q
 .rw[v];let#[o,W,Y,Z,hr]:=E;show#[o,W,Y,N.keep _ _ Z (λz=>?_) (λz=>(c _ z).2 rfl),hr];rw[<-l]at z;rcases aaz.mp (f.stkSub _ z)with e|e
  .show ali _ (e▸f.lt)
  .show f.nofs (Ϭ _) e
 .rw[v];obtain z|z:=aaz.mp i
  .subst z;show c _ ad1
  .let z':b=t:= ~~~z
   subst z';show#[#[IX.hok.fresh y,IX.ch (akO y)],λz=>ali _ (abr E.lt (z▸y))]
def U4{Q:ε->ν->Prop}{use:Option (ε->Sem Unit)}(B:ak X Kx){j:ε}{C:Env}{H':Hp}{s':ν}{e t:δ}{cls:ε}{d:Option δ×Bool}(l:C.frame=↑X.env.locals)(I:Inv X ϵ σ H' s')(D:bK X ϵ H' C.locals)(i:∃m,s'.heap.Ns C.locals m)(F:aR s'.heap e cls d ↑t (rawInt X.env.locals))(ch:∀b∈[e,t],(H' b=none/\Ch X ϵ b)/\b≠C.locals)(q:Kx σ cls d H'):tG ∅ X.A X.xe use Q j C (.error (.ref e)) s':=by
 let#[m,i]:=i;let#[E,G,f2,H,J,L]:=D;let c:∃m,s'.heap.Ns C.locals m/\∀h',an0 C.locals s'.heap h'->π ∅ X.A (passOn "comprehension.variables-let-go" (.ref e) C:Sem ε) (λ_ _=>False) X.xe {s' with heap:=h'}:=by
  show#[m,i,λh' a=>?_];let M:Inv X ϵ σ H' {s' with heap:=h'}:=I.turned (t':=s'.toks) (λb o f e=>a.extBut b o f e) E G H J L;let O:aR h' e cls d ↑t (rawInt X.env.locals):=by
   let#[P,vs,R,S,p,hd,h1,U,h2,W]:=F;show#[P,vs,a.extBut _ _ (ch e (by simp)).2 R,S,p,hd,h1,U,h2.stay (λv o ws hv u x=>#[o,ws,a.extBut _ _ (λz=>by
    let#[_,_,_,y,g,_]:=i;rw[<-z,u]at y;cases y;rw[x]at g;cases g) u,x,rfl]),λT Y=>?_]
   cases Y;let#[Z,oT,ws,t1,t2,t3]:=W t rfl;show#[Z,oT,ws,a.extBut _ _ (ch t (by simp)).2 t1,t2,t3]
  show ahj (s:={s' with heap:=h'}) l O λh2 N F3=>?_
  show B ϵ σ H' _ e cls d #[M.noted (ch:=[t]) #[λb o q _ n=>N.keep b o q (by simp) n,N.slot,N.there] λb f=>?_,↑t,_,F3,.inr #[rfl,rfl],λb f=>(ch b (~~~f)).1] q;let z:b=t:= ~~~f
  subst z;show(ch b (by simp)).1
 cases use<;>show c
def ZC{Q:VK}(y:ak X Kx)(B:X.stack=X.env::X.outer)(f:X.env.frame=↑X.env.locals)(E:X.calm=true)(S:bO X.env scope)(hs:∀x,foldedSetIterable iter X.env x=pure x)(h:EI X tg iter σ H λJ H1=>∀(fp:List δ)(D C:δ)(c:ν)(F:ε->ν->Prop),H1 D=none->ak (cX X N' scope (ώ scope X.env) C c (upd H1 D (.lst [])) fp F) (λ_=>Kx σ)->jz X (cX X N' scope (ώ scope X.env) C c (upd H1 D (.lst [])) fp F) tg elt ifs J D (bN N' X.N σ scope) H1 (λH'=>Q (.ref D) H')):EV X (.ListComp elt [#[tg,iter,ifs,0]] scope pos) σ H Q:=by
 intro ϵ s I;rw[eval_ListComp];show zN (use:=none) rfl hs (xG (S.has I)) S.kind S.loc (υ (h ϵ s I) λv s1 h1=>υ h1 λG s2 h2=>?_);let#[it,fp,tn,J,H2,e,L,T,g,M,O]:=h2;subst e;show Ab _ (R:=λi C=>tG ∅ X.A X.xe none (EP X ϵ σ Q) i C) (Q:=λD H'=>Q (.ref D) H') E S L T g M (λ_ _ _ _ z=>z) (λD c u P j U=>O fp D _ c _ u (YD rfl B f P j U λH' s' e t cls d l IX n a F ch q=>U4 y l IX n a F ch q)) λD C H' s' u W IX n a=>?_
 let#[m,a]:=a;let#[Y,Z,HR,j,f4,f5]:=n;show#[m,a,λh' p=>#[.ref D,H',IX.turned (t':=s'.toks) (λb o hb e=>p.extBut b o hb e) Y Z j f4 f5,rfl,W]]
def amJ{D:Ends}{y:Str}{py spos:Pos}{j:Nat}(g:ak X Kx)(Z:X.stack=X.env::X.outer)(i:X.env.frame=↑X.env.locals)(l:ao7 (.ListComp elt [#[tg,iter,ifs,0]] scope pos) ↑(.Name y py) spos.line X.env=pure true)(hc:X.calm=true)(S:bO X.env scope)(hs:∀x,foldedSetIterable iter X.env x=pure x)(hN:X.N.Nodup)(hi:nameAt X.N y=↑j)(P:X.env.scope.names.lookup y=↑.local)(h:EI X tg iter σ H λJ H1=>∀(fp:List δ)(E C:δ)(f:ν)(F:ε->ν->Prop),H1 E=none->ak (cX X N' scope (ώ scope X.env) C f (upd H1 E (.lst [])) fp F) (λ_=>Kx σ)->jz X (cX X N' scope (ώ scope X.env) C f (upd H1 E (.lst [])) fp F) tg elt ifs J E (bN N' X.N σ scope) H1 (λH'=>D.nx (σ.set j ↑(.ref E)) H')):SX X (.Assign [.Name y py] (.ListComp elt [#[tg,iter,ifs,0]] scope pos) spos) D σ H:=by
 intro ϵ s I;rw[exec_Assign_Name_used _ _ _ _ l];show Ϧ (ag2 (Ϧ ?_));show π _ X.A (do let _<-comprehension (.ListComp elt [#[tg,iter,ifs,0]] scope pos) scope X.env _ (newList []) false (eval iter X.env) ↑(assign (.Name y py) X.env)) _ _ s;show Ϧ (ab9 (zN (use:=↑(assign (.Name y py) X.env)) (Q:=λ_ s'=>SP X ϵ D .next s') rfl hs (xG (S.has I)) S.kind S.loc
  (υ (h ϵ s I) λv s1 h1=>υ h1 λitv s2 h2=>?_)) (λ_ s' hq=>ϲ (ϲ hq)) λ_ _ e=>e)
 let#[it,fp,tn,J,H2,e,I2,T,n,f2,q2]:=h2;subst e;show Ab _ (R:=λp C=>tG ∅ X.A X.xe ↑(assign (.Name y py) X.env) (λ_ s'=>SP X ϵ D .next s') p C) (Q:=λE H'=>D.nx (σ.set j ↑(.ref E)) H') hc S I2 T n f2 (λ_ _ _ _ z=>z) (λE f U I3 u tX=>q2 fp E _ f _ U (YD rfl Z i I3 u tX λH' s' e t cls d B IX G c F ch q=>U4 g B IX G c F ch q)) λE C H' s' U qD IX G c=>?_
 let#[m,c]:=c;let#[f0,W,HR,u,Y,f5]:=G;show π _ _ (assign (.Name y py) X.env (.ref E)) _ _ _*>wpAny_assign_Name (tK IX hN (lE hi) (.inl P) (v:=.ref E) rfl (λL Fg M=>?_) (.inr P));let#[a,sb,ha]:=M;let Eu:C.locals≠a:=by
  obtain ha|ha:=ha
  .rw[ha];show W
  .intro z;show Y y a ha z.symm
 show#[m,c.sameBut sb Eu,λh' O=>#[σ.set j ↑(.ref E),H',Fg.turned (t':=L.toks) (λb o M e=>O.extBut b o M e) f0 W u Y f5,qD]]
end
section
variable{X:Cx}{a e:Ϫ}{σ σ':St}{H:Hp}{Q:VK}{D:Ends}{pos spos py p p':Pos}{tg elt iter:Ϫ}{scope:aiZ}{Kx:St->XK}{y:Str}{j:Nat}
def zr(X:Cx)(N':List Str)(scope:aiZ)(tg elt:Ϫ)(σ σ':St)(Kx:St->XK)(H1:Hp)(Q:VK)(n:Nat)(G:Nat->Hp->V->Hp->Prop):Prop:=
 ∃(f:St->Prop)(a:δ->Nat->V->Hp->Prop),f σ'/\
  (∀E i v H2 c ys,H2 E=↑(.lst ys)->(∀b o,b≠E->H2 b=↑o->c b=↑o)->a E i v H2->a E i v c)/\
  (∀(fp:List δ)(E C:δ)(g:ν)(j:Hp)(F:ε->ν->Prop)(i:Nat)(l:St)(x:V)(H2 c:Hp),ak (cX X N' scope (ώ scope X.env) C g j fp F) (λ_=>Kx σ)->H1 E=none->i<n->f l->ζ H1 H2->(∃ys,H2 E=↑(.lst ys)/\↥ys=i/\∀k v,ys[k]?=↑v->a E k v H2)->G i H2 x c->
   EG (cX X N' scope (ώ scope X.env) C g j fp F) tg x l c λe p=>EV (cX X N' scope (ώ scope X.env) C g j fp F) elt e p λv m=>f e/\a E i v m/\ζ H2 m)/\
  ∀(E:δ)(H2:Hp)(xs:List V),H1 E=none->↥xs=n->(∀i v,xs[i]?=↑v->a E i v H2)->H2 E=↑(.lst xs)->ζ H1 H2->Q (.ref E) H2
def G9{N':List Str}{J:It}{n:Nat}{G:Nat->Hp->V->Hp->Prop}(g:n<=ϱ)(go:∀i H2,ζ H H2->i<n->J.go i H2)(stop:∀H2,ζ H H2->J.stop n H2)(j:∀i H2 x f,i<n->ζ H H2->J.yld i H2 x f->G i H2 x f)(h:zr X N' scope tg elt σ σ' Kx H Q n G):∀(fp:List δ)(D C:δ)(a:ν)(F:ε->ν->Prop),H D=none->ak (cX X N' scope (ώ scope X.env) C a (upd H D (.lst [])) fp F) (λ_=>Kx σ)->jz X (cX X N' scope (ώ scope X.env) C a (upd H D (.lst [])) fp F) tg elt [] J D σ' H (λH'=>Q (.ref D) H'):=by
 intro fp E C a F c xo;let#[m,o,t0,mono,step,e]:=h;show O2 n g m t0 (o E) c (λi v H1 H2 ys=>mono E i v H1 H2 ys) go stop (λi p x H1 H2 hi q hs u y=>step fp E C a _ F i p x H1 H2 xo c hi q hs u (j i H1 x H2 hi hs y)) λH1 xs l z B s=>e E H1 xs c l z B s
def aiX(N':List Str)(c:bN N' X.N σ scope=σ')(j:ak X Kx)(m:X.stack=X.env::X.outer)(f:X.env.frame=↑X.env.locals)(n:X.calm=true)(S:bO X.env scope)(hs:∀x,foldedSetIterable e X.env x=pure x)(h:EV X e σ H λv H1=>∃l xs,v=.ref l/\θ X.K H1 l xs/\↥xs<=ϱ/\zr X N' scope tg elt σ σ' Kx H1 Q ↥xs λi H2 x g=>xs[i]?=↑x/\H2=g):EV X (.ListComp elt [#[tg,e,[],0]] scope pos) σ H Q:=by
 show ZC (N':=N') j m f n S hs (tH (aP h λv H1 q=>?_));let#[l,xs,rfl,a,o,p]:=q;show#[l,rfl,#[xs,a],?_];rw[c];show G9 o (λi H2 s hi=>#[xs,xs[i],ζ.seq s a,aag hi]) (λH2 s=>#[xs,ζ.seq s a,Ϭ _]) (λi H2 x g hi s y=>#[y.2 xs (ζ.seq s a),y.1.symm]) p
def ahK(N':List Str)(c:bN N' X.N σ scope=σ')(f:ak X Kx)(o:X.stack=X.env::X.outer)(g:X.env.frame=↑X.env.locals)(m:ao7 (.ListComp elt [#[tg,e,[],0]] scope pos) ↑(.Name y py) spos.line X.env=pure true)(p:X.calm=true)(S:bO X.env scope)(hs:∀x,foldedSetIterable e X.env x=pure x)(u:X.N.Nodup)(hi:nameAt X.N y=↑j)(z:X.env.scope.names.lookup y=↑.local)(h:EV X e σ H λv H1=>∃l xs,v=.ref l/\θ X.K H1 l xs/\↥xs<=ϱ/\zr X N' scope tg elt σ σ' Kx H1 (λv H'=>D.nx (σ.set j ↑v) H') ↥xs λi H2 x n=>xs[i]?=↑x/\H2=n):SX X (.Assign [.Name y py] (.ListComp elt [#[tg,e,[],0]] scope pos) spos) D σ H:=by
 show amJ (N':=N') f o g m p S hs u hi z (tH (aP h λv H1 q=>?_));let#[l,xs,rfl,a,B,C]:=q;show#[l,rfl,#[xs,a],?_];rw[c];show G9 (J:=j5 X.K l) (Q:=λv H'=>D.nx (σ.set j ↑v) H') B (λi H2 s hi=>#[xs,xs[i],ζ.seq s a,aag hi]) (λH2 s=>#[xs,ζ.seq s a,Ϭ _]) (λi H2 x n hi s y=>#[y.2 xs (ζ.seq s a),y.1.symm]) C
end
def Ha{K:ϩ}{C L:δ}(h:jU K C L=true):∃cd,ash K C=↑cd/\cd.hasDict=true/\cd.mro=.ref C:: .ref L::dF:=by
 let#[cd,h1,h2]:=asH h;rw[aa9,beq_iff_eq]at h2;show#[cd,h1,h2.1,h2.2]
section
variable{prog:ϰ}{w:Ϯ}{A:ϴ}{E:ε->ν->Prop}{s:ν}{K:ϩ}{x C L:δ}{ox:Obj}{vs:Array ε}{name:Str}{v:ε}
def amP{Q:Unit->ν->Prop}(X:K.In s.heap)(n:s.heap.get? x=↑ox)(q:ox.cls=.ref C)(u:ox.data=.fields vs)(hd:ox.dict=none)(hs:afk K (.ref C) "__setattr__"=some ↑(.builtin "object.__setattr__"))(R:jU K C L=true)(S:arP K C name=↑none)(h:∀h' tk,h'.get? x=some {ox with dict:=↑⇑s}->h'.Ns1 ⇑s (λy=>if y=name then some v else none)->(∀b o,b≠x->s.heap.get? b=↑o->h'.get? b=↑o)->Q PUnit.unit {s with heap:=h',toks:=tk}):π (ϧ prog w) A (setAttr (.ref x) name v) Q E s:=by
 let#[cd,g,z,f]:=Ha R;let I:asW s.heap x ox C none:=#[n,q,by unfold at9;rw[u],by rw[hd];trivial];show W.set_plain X I hs ?_;let i:=F.store_object;let sub:atV (ϧ prog w) s.heap (isInstance (.ref x) (.type "object")) true:=I.type.andThen (atX X (by unfold anK;rw[g,arF,f];rfl));show aoR i.slot.plain i.entry (@W.check_slot (ϧ prog w) _ _ {s with toks:=s.toks+1} "object.__setattr__" "object" "__setattr__" (.ref x) [.str name s.toks,v] [] _ i.kind i.split sub (i.args (.ref x) (.str name s.toks) v) ?_);let#[attr,T,U]:=Option.bind_eq_some_iff.mp S;let B:atV (ϧ prog w) s.heap (mroOf (.ref C)) cd.mro:=(as3 X g).andThen .now;let Y:atV (ϧ prog w) s.heap (Builtin.ObjectAttr.storeTaker? attr) none:=by
  cases attr with
  |none=>show .now
  |some a=>
   let#[b,p,e]:=aeF.mp U;show(W.looks_takesIn X p).andThen ?_;cases b
   .show .now
   .cases e
 rw[W.osa_eq,refuse_eq];show Ϧ (Ϧ (W.Looks.here (s:={s with toks:=s.toks+1}) I.type (Ϧ (W.Looks.here (s:={s with toks:=s.toks+1}) B ?_))));rw[f,refuseLoop_ref,refuseLoop_ref,F.store_ValueError.passes];show ϲ (Ϧ (W.Looks.here (s:={s with toks:=s.toks+1}) I.type (Ϧ (W.Looks.here (s:={s with toks:=s.toks+1}) (arY X T) (Ϧ (W.Looks.here (s:={s with toks:=s.toks+1}) Y ?_))))));let#[oc,od,Z,D]:=ox;dsimp only at q u hd;subst q u hd;show Ϧ (ϲ (Ϧ (Ϧ (wpAny_loadPart (s:={s with toks:=s.toks+1}) n (Ϧ (W.Looks.here (s:={s with toks:=s.toks+1}) (as3 X g) ?_))))));rw[z];rw[if_neg (by decide)];show π _ _ (if(!true|| !typeHasDict (Value.ref C))=true then pure none else(alloc {cls:=.type "dict",data:=.dict #v[]}>>=λd=>update x (λo=>{o with dict:=↑d})>>=λ_=>dictMade (Value.ref C) x d)) _ _ _;rw[if_neg (by simp[typeHasDict])];let c:(s.heap.push {cls:=.type "dict",data:=.dict #v[]}).get? x=some {cls:=.ref C,data:=.fields vs,slots:=D}:=aai _ n;let j:x≠⇑s:=acb (abU n);show Ϧ (wpAny_alloc (s:={s with toks:=s.toks+1}) ?_)*>Ϧ (wpAny_update (s:={s with heap:=s.heap.push {cls:=.type "dict",data:=.dict #v[]},toks:=s.toks+1}) c ?_)*>ϲ ?_;let G:((s.heap.push {cls:=.type "dict",data:=.dict #v[]}).update x λo=>{o with dict:=↑⇑s}).get? ⇑s=some {cls:=.type "dict",data:=.dict #v[]}:=
  (apF _ _ _ _ j.symm).trans (atg rfl rfl)
 let H:((s.heap.push {cls:=.type "dict",data:=.dict #v[]}).update x λo=>{o with dict:=↑⇑s}).Ns ⇑s (λ_=>none):=
  #[_, #v[],_,G,rfl,λe he=>absurd he (by simp),λ_=>rfl]
 show π _ _ (Builtin.ObjectAttr.storeInDict ⇑s (.str name s.toks) name v) _ _ _;unfold Builtin.ObjectAttr.storeInDict Builtin.ObjectAttr.newKeyGuard;show Ϧ (ϲ (Ϧ (wpAny_nsSet1 (s:={s with heap:=(s.heap.push {cls:=.type "dict",data:=.dict #v[]}).update x λo=>{o with dict:=↑⇑s},toks:=s.toks+1}) (Heap.Ns1.of_empty H) λh' l m=>?_)));let#[oD,esD,epD,J,M,O]:=l.count (Within.cons name v Within.nil);show Ϧ (wpAny_lookBehind J (by rw[M];show pastItsLine_dict (adQ O (by rw[aap,atH,ϯ];omega))) ?_)*>ϲ (h h' _ ?_ l λb ob P p=>?_)
 .show(m.2 x j).trans (adZ _ c rfl)
 .show(m.2 b (acb (abU p))).trans ((apF _ _ _ _ P)<|>(aai _ p))
end
theorem Ir{K:ϩ}{C f:δ}{h:ϫ}(kin:K.In h)(e:oV K C f=true):∃bm N nm q bs hdct sn sub ab col dd k0 k1 k2 k3 k5 mN,h.get? C=↑(excClassObj nm q C N bs bm hdct sn sub ab col dd k0 k1 k2 k3 k5 "ValueError.__new__")/\h.Ns N mN/\mN "__init__"=↑(.ref f)/\OwnTail h dF bm:=Wa kin e
section
variable{prog:ϰ}{w:Ϯ}{A:ϴ}{E:ε->ν->Prop}{h:ϫ}{g:Array GenState}{d:Drawn}{t:Nat}{os:OsState}
variable{nm q:Str}{C N x:δ}{bs bm:List ε}{hdct:Bool}{sn:List Str}{sub:List ε}{ab:Bool}{col:Option Bool}{dd:Option δ}{k0 k1 k2 k3 k5:Option ε}{ox:Obj}{vs:Array ε}{v:ε}
def ahY{t0:δ}{Q:ε->ν->Prop}(T:OwnTail h dF bm)(e:h.get? C=↑(excClassObj nm q C N bs bm hdct sn sub ab col dd k0 k1 k2 k3 k5 "ValueError.__new__"))(c:h.get? x=some {cls:=.ref C,data:=.fields #v[.ref t0,.none,.none,.none,.bool false,.none]})(f:∀h' i,h'.get? x=some {cls:=.ref C,data:=.fields #v[.ref i,.none,.none,.none,.bool false,.none]}->(∀b o,b≠x->h.get? b=↑o->h'.get? b=↑o)->Q .none #[h',g,d,t,os]):π (ϧ prog w) A (call (.builtin "ValueError.__init__") [.ref x,v]) Q E #[h,g,d,t,os]:=by
 let a:=F.excBase_ValueError;show aon (aoR a.init.plain a.initEntry (wpAny_check_init_subT a T e c rfl ?_))
 wp_walk
 show f _ h.objs.size ?_ λb o j q=>?_
 .rw[adZ _ (aai _ c) rfl];rfl
 .rw[aaK<*(Ne.symm j)];show aai _ q
def ak9{mN:MG}{rest:List ε}{fI:δ}{oI:Obj}{Q:Fin->ν->Prop}(T:OwnTail h dF bm)(l:h.get? C=↑(excClassObj nm q C N bs bm hdct sn sub ab col dd k0 k1 k2 k3 k5 "ValueError.__new__"))(v:h.Ns N mN)(hi:mN "__init__"=↑(.ref fI))(p:h.get? fI=↑oI)(s:oI.cls=.type "function")(y:∀h' e,asN h h' e (.ref C) rest->π (ϧ prog w) A (call (.ref fI) (.ref e::rest)) (λr s'=>r=.none/\Q (.done (.ret (.ref e))) s') E #[h',g,d,t,os])(hrest:↥rest<=ϱ):π (ϧ prog w) A (apB.«type.__call__» #[.ref C::rest,[]]) Q E #[h,g,d,t,os]:=by
 let m:=F.excBase_ValueError
 repeat (first|with_reducible show aiq l ?_|with_reducible show wpAny_madeBy_exc l ?_|wp_step)
 show codeAny_call_builtin_code (Code.quiet_builtin _ m.quiet) (wpAny_check_new_subT m T l ?_)*>codeAny_exc_new_subT m T l ?_ hrest*>π _ _ _ _ _ _;generalize i:(h.push {cls:=.type "tuple",data:=.seq rest.toArray}).push {cls:=.ref C,data:=.fields #v[.ref h.objs.size,.none,.none,.none,.bool false,.none]}=h1;let a:∀b o,h.get? b=↑o->h1.get? b=↑o:=λb o e=>by rw[<-i];show aai _ (aai _ e)
 let c:=a _ _ l;let j:h1.Ns N mN:=let⟨o,es,ep,e,r⟩:=v;#[o,es,ep,a<*e,r];let f:h1.get? (h.objs.size+1)=some {cls:=.ref C,data:=.fields #v[.ref h.objs.size,.none,.none,.none,.bool false,.none]}:=by rw[<-i];heap_get
 let u:(Value.ref C::bm).contains (.ref C)=true:=by simp
 let n:=T.keeps a;unfold isInstance
 repeat (first|with_reducible show aiq f ?_|(with_reducible show apg c ?_;rw[u])|wp_step)
 show π _ _ (typeLookup (.ref C) _) _ _ _*>wpAny_typeLookup_tail c j n m.mroIs m.init.lookup ?_;rw[hi];show acK (Ϧ ?_);unfold bindSpecial;show Ϧ (wpAny_typeOf (T:="function") #[_,a<*p,s] ?_);rw[if_pos (by decide)];show ϲ (Ϧ (ab9 (y h1 (h.objs.size+1) #[a,akO (aoF _),h.objs.size,f,akO (Ϭ _),?_]) (λr s' z=>?_) λ_ _ x=>x))
 .rw[<-i];show aai _ (atg rfl rfl)
 .let#[rfl,B]:=z
  wp_walk
  show B
def Yb{mN:MG}{rest:List ε}{fI:δ}{oI:Obj}{Q:ε->ν->Prop}(T:OwnTail h dF bm)(a:h.get? C=↑(excClassObj nm q C N bs bm hdct sn sub ab col dd k0 k1 k2 k3 k5 "ValueError.__new__"))(i:h.Ns N mN)(hi:mN "__init__"=↑(.ref fI))(c:h.get? fI=↑oI)(f:oI.cls=.type "function")(j:∀h' e,asN h h' e (.ref C) rest->π (ϧ prog w) (A.under (.builtin "type.__call__" #[.ref C::rest,[]])) (call (.ref fI) (.ref e::rest)) (λr s'=>r=.none/\Q (.ref e) s') E #[h',g,d,t,os])(hrest:↥rest<=ϱ):π (ϧ prog w) A (call (.ref C) rest) Q E #[h,g,d,t,os]:=by
 let l:=tc_lookup;let m:=tc_bind (.ref C);let n:(#[h,g,d,t,os]:ν).TypeIs (.ref C) "type":=#[_,a,rfl];show aon (codeAny_of_tree ?_)*>π _ _ (callAny (.ref C) _) _ _ _
 repeat (any_goals (first|assumption|with_reducible show aiq a ?_|wp_step))
 show#[rfl,?_]*>codeAny_call_builtin_at (Code.quiet_builtin _ (by fin2)) entry_typeCall (wpAny_check_type_call_sub a (ak9 T a i hi c f j hrest))
end
section
variable{prog:ϰ}{w:Ϯ}{A:ϴ}{E:ε->ν->Prop}{s:ν}{env:Env}
variable{nm q:Str}{C N:δ}{bs bm:List ε}{hdct:Bool}{sn:List Str}{sub:List ε}{ab:Bool}{col:Option Bool}{dd:Option δ}{k0 k1 k2 k3 k5:Option ε}
def agR{M:Model}{x:Sem ε}{Q:Flow->ν->Prop}(c:bm.contains (.type "BaseException")=true)(j:A.handled=none)(h:π M A x (λv a=>∃e t D,v=.ref e/\a.heap.get? C=↑(excClassObj nm q C N bs bm hdct sn sub ab col dd k0 k1 k2 k3 k5 "ValueError.__new__")/\
   a.heap.get? e=some {cls:=.ref C,dict:=D,data:=.fields #v[.ref t,.none,.none,.none,.bool false,.none]}/\E (.ref e) a) E s):π M A (raiseStmt env ↑x none) Q E s:=by
 let f:(Value.ref C::bm).contains (.type "BaseException")=true:=by rw[akN,c,at4]
 unfold raiseStmt;show Ϧ (ab9 h (λv a h₁=>?_) λ_ _ x=>x);let#[e,t,D,rfl,i,l,m]:=h₁;let#[n,g,d,tk,os]:=a
 repeat (first|with_reducible show aiq l ?_|with_reducible show aiq i ?_|(with_reducible show apg i ?_;rw[f])|wp_step)
 show wpAny_raiseNew_none j m
end
def xo(e C:δ)(D:Option δ):HO:=.ext λh=>∃t,h.get? e=some {cls:=.ref C,dict:=D,data:=.fields #v[.ref t,.none,.none,.none,.bool false,.none]}
def gG(H:Hp)(e:δ):Hp:=λb=>if b=e then none else H b
def gU{H:Hp}{e b:δ}(h:b≠e):gG H e b=H b:=by unfold gG;rw[if_neg h]
def BW{H:Hp}{e:δ}:gG H e e=none:=by unfold gG;rw[if_pos rfl]
theorem yQ{P:ϰ}{w:Ϯ}{H:Hp}{h:ϫ}{e C t:δ}{D:Option δ}(q:h.get? e=some {cls:=.ref C,dict:=D,data:=.fields #v[.ref t,.none,.none,.none,.bool false,.none]}):Ϟ P w H h e (xo e C D):=
 #[#[t,q],#[_,q],λh1 h2 z k=>by let#[t,q]:=z;show #[t,k _ q]]
section
variable{X:Cx}{ϵ:List (δ×Obj)}{σ:St}{H:Hp}{s:ν}{e:δ}{φ:ϫ->Prop}
def Inv.adopt(I:Inv X ϵ σ H s)(a:H e=none)(c:Ch X ϵ e)(ok:Ϟ X.prog X.w (upd H e (.ext φ)) s.heap e (.ext φ)):Inv X ϵ σ (upd H e (.ext φ)) s:=by
 let ne:∀b u,H b=↑u->b≠e:=λb u q=>Ξ q a
 have:=I.step (h':=s.heap) (H':=upd H e (.ext φ)) (g':=s.gens) (d':=s.drawn) (t':=s.toks) (ch:=[e]) (λb f=>?_) (λb o _ _ _ q _=>q) (λb o _ _ _ q _=>#[o.slots,q]) (λb o g _ n=>?_) (λb o _ q=>#[o,q]) (λb xs q=>?_) (λb o u q=>?_) (λb ps q=>?_) (λm q=>q) (λb u q=>?_) I.bare
 .show this
 .let z:b=e:= ~~~f
  subst z;show c
 .rw[ι (λz=>g (by simp[z]))];show n
 .rw[ι (ne<*q)];show q
 .rw[ι (ne<*q)];show q
 .show#[#v[],by rw[ι (ne<*q),q];simp]
 .by_cases z:b=e
  .subst z;rw[ξ]at q;cases q;show ok
  .rw[ι z]at q;show(I.hok b u q).stay (λ_ _ _ r=>r) (λc r=>by rw[ι (ne<*r)];show r) (λc xs r=>by rw[ι (ne<*r)];show r) λc i v r=>by rw[ι (ne<*r)];show r
def Inv.forget(I:Inv X ϵ σ H s)(a:H e=↑(.ext φ))(c:Ch X ϵ e):Inv X ϵ σ (gG H e) s:=by
 have:=I.step (h':=s.heap) (H':=gG H e) (g':=s.gens) (d':=s.drawn) (t':=s.toks) (ch:=[e]) (λb f=>?_) (λb o _ _ _ q _=>q) (λb o _ _ _ q _=>#[o.slots,q]) (λb o g _ n=>?_) (λb o _ q=>#[o,q]) (λb xs q=>?_) (λb o u q=>?_) (λb ps q=>?_) (λm q=>q) (λb u q=>?_) I.bare
 .show this
 .let z:b=e:= ~~~f
  subst z;show c
 .rw[gU (λz=>g (by simp[z]))];show n
 .rw[gU (λz=>by rw[z,a]at q;cases q)];show q
 .rw[gU (λz=>by rw[z,a]at q;cases q)];show q
 .show#[#v[],by rw[gU (λz=>by rw[z,a]at q;cases q),q];simp]
 .by_cases z:b=e
  .subst z;rw[BW]at q;cases q
  .rw[gU z]at q;show(I.hok b u q).stay (λ_ _ _ r=>r) (λc r=>by rw[gU (λz=>by rw[z,a]at r;cases r)];show r) (λc xs r=>by rw[gU (λz=>by rw[z,a]at r;cases r)];show r) λc i v r=>by rw[gU (λz=>by rw[z,a]at r;cases r)];show r
end
def BX(C:δ)(fld:Str):Sp:=λvs H Q _=>∃e n,vs=[.ref e,.int n]/\n.natAbs<10^60/\H e=↑(xo e C none)/\
 ∀D H',D≠e->H D=none->(∀b o,b≠e->H b=↑o->H' b=↑o)->H' e=↑(xo e C ↑D)->H' D=↑(.xd [(fld,.int n)])->Q .non H'
section
variable{X:Cx}{σ:St}{H:Hp}{Q:VK}{D:Ends}{Lx x f fld:Str}{np apos pos pos' cpos:Pos}{a o value:Ϫ}{es:List Ϫ}{Kx:St->XK}
def vy{pl:Sem Bool}(B:XBase X.K X.mg Lx)(h:EA X (a::es) σ H λvs H1=>CL X (.builtin "ValueError.__init__") vs H1 Q)(i:Gl X Lx:=by rfl)(hd:(Lx==("__debug__":Str))=false:=by decide)(j:ϳ (a::es) X.env=(false,eval a X.env)::ϳ es X.env:=by rfl)(e:(backTo pos (ϳ es X.env)).any (·.1)=false:=by rfl)(l:eval (.Call (.Attribute (.Name Lx np) "__init__" apos) (a::es) [] pos) X.env=(do
   let g<-eval (.Name Lx np) X.env
   standAt apos.atName
   let(f,first)<-holding [g] (getMethod g "__init__" pl)
   callWith pos f first (backTo pos (ϳ (a::es) X.env)) (backToKw pos (keywordEach [] X.env))):=by rfl):EV X (.Call (.Attribute (.Name Lx np) "__init__" apos) (a::es) [] pos) σ H Q:=by
 intro ϵ s I;show arS (pl:=pl) (eZ I i B.at_ ?_ hd) l*>W.method_cls I.kIn B.ga (W.cls_value I.kIn B.reads B.ini (by fin2) ?_);let m:=I.tok (s.toks+1);let h':=h pos ϵ _ m;rw[j]at h'⊢;show Calls.callWith_builtin (by show(false||(backTo pos (ϳ es X.env)).any (·.1))=false;rw[e];rfl) (Calls.evalArgs_plain ?_)*>υ h' λus n o=>?_
 let#[vs,H2,p,q,c,h1,u]:=o;show h1 ϵ n σ H2 vs us Q p q u
def uE{C i:δ}{e:δ}{v:V}(hi:oV X.K C i=true)(a:H e=↑(xo e C none))(q:Q .non H):CL X (.builtin "ValueError.__init__") [.ref e,v] H Q:=by
 show cI (r:=λxs H Q=>∃e v,xs=[.ref e,v]/\H e=↑(xo e C none)/\Q .non H) ?_ #[e,v,rfl,a,q];intro ϵ s σ H xs us Q I r h;let#[e,v,rfl,a,q]:=h;let#[j,y,rfl,r1,B]:=vals2 r;cases(show j=Value.ref e from r1);let#[bm,N,nm,D,bs,hdct,sn,sub,ab,col,dd,k0,k1,k2,k3,k5,mN,l,E,m,T]:=Ir I.kIn hi;let#[#[t,p],_,_]:=I.hok e _ a;let#[F,g,d,tk,os]:=s;show ahY T l p λh' G h1 k=>?_
 let f:=I.write (x:=e) (e:=e) (o:=xo e C none) (h':=h') (t':=tk) (by rw[a];trivial) (.inl rfl) (λb u n q=>k b u n q) #[_,h1] (yQ h1);let c:upd H e (xo e C none)=H:=by
  funext b;unfold upd;split
  .rename_i z;rw[z,a]
  .rfl
 rw[c]at f;show#[.non,H,f,rfl,q]
def vP{C L:δ}(hs:afk X.K (.ref C) "__setattr__"=some ↑(.builtin "object.__setattr__"))(P:jU X.K C L=true)(Q:arP X.K C f=↑none)(h:EV X value σ H λy H1=>EV X o σ H1 λx H2=>∃e,x=.ref e/\H2 e=↑(xo e C none)/\∀p,H2 p=none->p≠e->D.nx σ (upd (upd H2 p (.xd [(f,y)])) e (xo e C ↑p)))(E:ao7 value ↑(.Attribute o f pos') pos.line X.env=pure false:=by rfl):SX X (.Assign [.Attribute o f pos'] value pos) D σ H:=by
 intro ϵ s I;show plainObj_wpAny_Assign_Attribute (υ (h ϵ s I) λu R _u=>_Z.e23 _u λy H1 S ry q=>υ (q ϵ R S) λT g U=>?_) E;let#[x,H2,i,rx,e,ex,a,W]:=U;subst ex;obtain rfl:T=Value.ref e:=rx;let#[#[t,F],_,_]:=i.hok e _ a;show amP i.kIn F rfl rfl rfl hs P Q λh' tk M Y l=>?_
 let B:H2 ⇑g=none:=i.hok.fresh (Ϭ _);let Z:⇑g≠e:=λz=>by rw[z]at B;rw[B]at a;cases a
 let ne:∀b u,H2 b=↑u->u≠xo e C none->b≠e:=λb u q n z=>by rw[z,a]at q;cases q;show n rfl
 let j:∀b u,H2 b=↑u->b≠⇑g:=λb u q=>Ξ q B
 show#[σ,_,?_,W ⇑g B Z]*>i.step (h':=h') (g':=g.gens) (d':=g.drawn) (t':=tk) (ch:=[]) (λb hb=>absurd hb (by simp)) (λb o _ _ _ q n=>l b o (λz=>by rw[z,a]at n;cases n) q) (λb o _ _ _ q n=>#[o.slots,l b o (λz=>by rw[z,a]at n;cases n) q]) (λb o _ q n=>?_) (λb o _ q=>?_) (λb xs q=>?_) (λb o u q=>?_) (λb ps q=>?_) (λm G=>?_) (λb u q=>?_) i.bare
 .rw[ι (λz=>by rw[z,a]at n;cases n),ι (acb (abU q))];show n
 .by_cases z:b=e
  .subst z;show#[_,M]
  .show#[o,l b o z q]
 .rw[ι (ne _ _ q (λz=>nomatch z)),ι (j<*q)];show q
 .rw[ι (ne _ _ q (λz=>nomatch z)),ι (j<*q)];show q
 .show#[#v[],by rw[ι (ne _ _ q (λz=>nomatch z)),ι (j<*q),q];simp]
 .let#[o,es,ep,ho,r]:=G;show#[o,es,ep,l _ _ (λz=>by have:=i.free;rw[z,a]at this;cases this) ho,r]
 .by_cases z:b=e
  .subst z;rw[ξ]at q;cases q;show yQ M
  .rw[ι z]at q;by_cases O:b=⇑g
   .subst O;rw[ξ]at q;cases q;show#[_,Y,λn=>?_];by_cases J:n=f
    .subst J;simp only[if_true,af8,beq_self_eq_true];show ry
    .rw[if_neg J,af8,beq_eq_false_iff_ne.mpr J];trivial
   .rw[ι O]at q;show(i.hok b u q).stay (λc v hc r=>l c v ?_ r) (λc r=>?_) (λc xs r=>?_) λc ob v r=>?_
    .obtain y|y:=hc
     .rw[y];show z
     .show ne _ _ y (λz=>nomatch z)
    .rw[ι (ne _ _ r (λz=>nomatch z)),ι (j<*r)];show r
    .rw[ι (ne _ _ r (λz=>nomatch z)),ι (j<*r)];show r
    .rw[ι (ne _ _ r (λz=>nomatch z)),ι (j<*r)];show r
end
structure mX(P:ϰ)(w:Ϯ)(K:ϩ)(mg:MG)(base:ϫ)(cc:Bool)(k:Nat)(x fld:Str):Prop where
 at_:mg x=↑(.ref (η mg x))
 ex:∃f fd ps oc od osl,cW P w K mg base (bQ P w) cc k f fd ps (BX (η mg x) fld)/\Binds K fd ps []/\oV K (η mg x) f=true/\K.lookup f=some #[oc,od,.func fd,osl]/\oc=.type "function"
section
variable{prog:ϰ}{w:Ϯ}{A:ϴ}{E:ε->ν->Prop}{s:ν}{env:Env}
variable{nm q:Str}{C N:δ}{bs bm:List ε}{hdct:Bool}{sn:List Str}{sub:List ε}{ab:Bool}{col:Option Bool}{dd:Option δ}{k0 k1 k2 k3 k5:Option ε}
def adl{mN:MG}{fI:δ}{oI:Obj}{x:Str}{np cpos pos:Pos}{i:List Ϫ}{Q:Flow->ν->Prop}(n:bm.contains (.type "BaseException")=true)(J:A.handled=none)(l:(backTo cpos (ϳ i env)).any (·.1)=false)(hi:mN "__init__"=↑(.ref fI))(u:oI.cls=.type "function")(h:π (ϧ prog w) A (eval (.Name x np) env) (λf m=>f=.ref C/\π (ϧ prog w) A (evalArgs (.ref C) true (backTo cpos (ϳ i env)) [])
   (λa c=>a.kw=[]/\↥a.pos<=ϱ/\c.heap.get? C=↑(excClassObj nm q C N bs bm hdct sn sub ab col dd k0 k1 k2 k3 k5 "ValueError.__new__")/\c.heap.Ns N mN/\OwnTail c.heap dF bm/\c.heap.get? fI=↑oI/\
    ∀h' e,asN c.heap h' e (.ref C) a.pos->π (ϧ prog w) (A.under (.builtin "type.__call__" #[.ref C::a.pos,[]])) (call (.ref fI) (.ref e::a.pos))
     (λr s'=>r=.none/\∃t D,s'.heap.get? C=↑(excClassObj nm q C N bs bm hdct sn sub ab col dd k0 k1 k2 k3 k5 "ValueError.__new__")/\
      s'.heap.get? e=some {cls:=.ref C,dict:=D,data:=.fields #v[.ref t,.none,.none,.none,.bool false,.none]}/\E (.ref e) s') E {c with heap:=h'}) E m) E s):π (ϧ prog w) A (exec (.Raise ↑(.Call (.Name x np) i [] cpos) none pos) env) Q E s:=by
 rw[arm_exec_Raise];show Ϧ (ag2 (agR (C:=C) (nm:=nm) (q:=q) (N:=N) (bs:=bs) (bm:=bm) (hdct:=hdct) (sn:=sn) (sub:=sub) (ab:=ab) (col:=col) (dd:=dd) (k0:=k0) (k1:=k1) (k2:=k2) (k3:=k3) (k5:=k5) n J ?_))*>Ϧ (ab9 (wpAny_Call_ofName (ab9 h (λf m h₁=>?_) λ_ _ x=>x)) (λv G o=>Ϧ (ag2 (ϲ o))) λ_ _ x=>x);let#[rfl,h₁]:=h₁;unfold callWith;show Ϧ (acK (ab9 h₁ (λa c j=>Ϧ (ag2 ?_)) λ_ _ x=>x));let#[apos,y]:=a;let#[B,p,H,L,T,F,j]:=j;obtain rfl:y=[]:=B;let#[S,g,d,tk,os]:=c;simp only[l];show Ϧ (wpAny_keeperOf_exc H ?_)*>Ϧ (Yb T H L hi F u (λh' e M=>?_) p)*>ab9 (j h' e M) (λr s' I=>#[I.1,?_]) λ_ _ z=>z
 let#[t,D,O,P,R]:=I.2;show Ϧ (acK (wpAny_point (ϲ #[e,t,D,rfl,O,P,R])))
end
section
variable{X:Cx}{Kx:St->XK}{D:Ends}{σ:St}{H:Hp}{x fld:Str}{np cpos pos:Pos}{e:Ϫ}{es:List Ϫ}{cc aU:Bool}{k k':Nat}
def ie(O:mX X.prog X.w X.K X.mg X.base aU k x fld)(hr:ϐ cc k' X.A)(hk:k+1<=k')(J:aU=true->cc=true)(hx:ak X Kx)(h:EA X (e::es) σ H λvs H1=>∃n,vs=[.int n]/\n.natAbs<10^60/\∀c H',ζ H1 H'->H' c=↑(.xd [(fld,.int n)])->Kx σ (.ref (η X.mg x)) (↑c,true) H')(hc:X.calm=true:=by rfl)(hg:Gl X x:=by rfl)(hd:(x==("__debug__":Str))=false:=by decide)(he:ϳ (e::es) X.env=(false,eval e X.env)::ϳ es X.env:=by rfl)(L:(backTo cpos (ϳ es X.env)).any (·.1)=false:=by rfl):SX X (.Raise ↑(.Call (.Name x np) (e::es) [] cpos) none pos) D σ H:=by
 intro ϵ s I;let#[f,fd,ps,oc,od,P,Fn,l,hi,Q,R]:=O.ex;let#[bm,N,nm,q,bs,hdct,sn,sub,ab,col,dd,k0,k1,k2,k3,k5,mN,hC,hN,S,T]:=Ir I.ok.mod.kin hi;let U:ϐ aU (k+1) X.A:=(hr.mono hk).oO J;show adl (C:=η X.mg x) (nm:=nm) (q:=q) (N:=N) (bs:=bs) (bm:=bm) (hdct:=hdct) (sn:=sn) (sub:=sub) (ab:=ab) (col:=col) (dd:=dd) (k0:=k0) (k1:=k1) (k2:=k2) (k3:=k3) (k5:=k5) (mN:=mN) (fI:=f) (oI:=#[oc,od,.func fd,P])
  (T.hasType (by fin2)) (I.ok.hd hc) ?_ S R (eZ I hg O.at_ #[rfl,?_] hd)
 .rw[he];show(false||(backTo cpos (ϳ es X.env)).any (·.1))=false;rw[L];rfl
 .let h':=h cpos ϵ s I;rw[he]at h'⊢;show Calls.evalArgs_plain (υ h' λus m hZ=>?_);let#[vs,H1,i,r,n,W,hn,kq]:=hZ;subst W;let#[u,rfl,ru]:=vals1 r;show#[rfl,Α,i.bk<*hC,hN.keeps i.bk,T.keeps i.bk,i.kIn<*Q,λG a M=>?_];let#[t,m1,m2,m3]:=M.there;let g:H1 a=none:=i.hok.free M.new;let j:Ch X ϵ a:=i.ch M.new;let I3:Inv X ϵ σ H1 {m with heap:=G}:=i.kept (t':=m.toks) M.keeps;let Y:Inv X ϵ σ (upd H1 a (xo a (η X.mg x) none)) {m with heap:=G}:=I3.adopt g j (yQ m1);let rv:Vals [V.ref a,.int n] [Value.ref a,u]:=.cons rfl (.cons ru .nil);let p:BX (η X.mg x) fld [V.ref a,.int n] (upd H1 a (xo a (η X.mg x) none)) (λv H'=>v=.non/\∃c,H' a=↑(xo a (η X.mg x) ↑c)/\H' c=↑(.xd [(fld,.int n)])/\c≠a/\∀b o,b≠a->H1 b=↑o->H' b=↑o) (λ_ _ _=>False):=
   #[a,n,rfl,hn,ξ,λc H' h1 h2 Z h4 h5=>#[rfl,c,h4,h5,h1,λb o l q=>Z b o l (by rw[ι l];show q)]]
  let hl:↥([Value.ref a,u]:List ε)=↥ps:=by rw[<-↥rv];show Fn.len _ _ _ _ p
  let y:=l {m with heap:=G} [Value.ref a,u] Y.kIn (~~~hl);rw[alV]at y;show aon (akz (Fn.run (X.A.under (.builtin "type.__call__" #[.ref (η X.mg x)::[u],[]])) X.stack {m with heap:=G} _ #[[Value.ref a,u],[]] [Value.ref a,u] [V.ref a,.int n] _ (λ_ _ _=>False) (U.make (η X.mg x) [u] [])
   (Y.env0.make (η X.mg x) [u] []) y rv p) λr s' B=>?_)
  cases r with
  |error e=>show(bQ.never B).elim
  |ok fl=>
   cases fl with
   |ret v=>
    let#[v',H',I5,rr,W,c,g1,g2,g3,g4]:=Y.after B;subst W;let#[#[t',E],_,_]:=I5.hok a _ g1;let I6:=I5.forget g1 j;show#[rr,t',↑c,I5.bk<*hC,E,?_]*>hx ϵ σ _ s' a _ (↑c,true) #[I6,none,.none,#[_,_,E,rfl,rfl,rfl,rfl,by simp,Ctx.yes rfl,λT z=>nomatch z],.inl rfl,λb l=>?_] (kq c _ (λb o q=>?_) ?_)
    .let z:b=a:= ~~~l
     subst z;show#[BW,j]
    .let F:b≠a:=Ξ q g;rw[gU F];show g4 b o F q
    .rw[gU g3];show g2
   |next=>show False.elim B
   |brk=>show False.elim B
   |cont=>show False.elim B
end
section
variable{prog:ϰ}{w:Ϯ}{A:ϴ}{E:ε->ν->Prop}{s:ν}{K:ϩ}{x C:δ}{ox:Obj}{od:Option Obj}{name:Str}{v:ε}
theorem alm{tk:Tok}{fill a:Bool}{Q:ε->ν->Prop}(X:K.In s.heap)(I:asW s.heap x ox C od)(c:sy K C)(h:π (ϧ prog w) A.in1 (apB.«object.__getattribute__» #[[.ref x,.str name tk],[]]) (λe s'=>match e with
   |.done (.ret v)=>π (ϧ prog w) A (handedOut v) Q E s'
   |_=>False) (λ_ _=>False) s):π (ϧ prog w) A (getAttrBy (.ref x) (.str name tk) fill a) Q E s:=by
 let FB:=F.attrBase_ValueError;let sub:atV (ϧ prog w) s.heap (isInstance (.ref x) (.type "BaseException")) true:=I.type.andThen (atX X c.mb);unfold getAttrBy;show acK (Ϧ (I.type.here (Ϧ ((arY X c.ga).here ?_))));dsimp only;let f:(Value.builtin "BaseException.__getattribute__"==Value.builtin "object.__getattribute__")=false:=by fin2
 rw[if_neg (by rw[f,ar0];show aaP)];unfold getAttrByItsOwn hookBefore;rw[if_pos (show onTheHeap (Value.ref C)=true from rfl)];show Ϧ ((arY X c.gt).here ?_)*>Ϧ (wpAny_attempt (acK ?_));unfold callGetattribute;rw[if_neg (by cases a<;>show aaP)];unfold boundAndCalled;rw[FB.ga.bind];show Ϧ (ϲ (aon (aoR FB.ga.plain F.entry_bexc_ga (@W.check_slot (ϧ prog w) _ _ s "BaseException.__getattribute__" "BaseException" "__getattribute__" (.ref x) [.str name tk] [] _ (by fin2) (by fin2) sub (F.args_bexc_ga _ _) ?_))))*>ab9 h (λe s' z=>?_) λ_ _ z=>z.elim
 rcases e with(_|_|_|_)|_<;>first|show z|show z.elim
def adH{a g:ε}(c:(ash K C).isSome=true)(e:afk K (.ref C) name=some ↑a)(f:aju K a "__get__"=some ↑g)(i:ar4 K a=↑true):at5 K C od name=↑(.bind g a):=by
 let#[cd,c]:=akJ.mp c;unfold at5;rw[c,arF,e,arF];simp[f,i]
def akK{Q:Option ε->ν->Prop}(X:K.In s.heap)(I:asW s.heap x ox C od)(c:sy K C)(h:Q ↑(.ref C) {s with toks:=s.toks+1}):π (ϧ prog w) A (getAttr? (.ref x) "__class__") Q E s:=by
 let a:at5 K C od "__class__"=↑(.bind (.builtin "getset_descriptor.__get__") (.builtin "object.__class__")):=adH (by let#[cd,e,_]:=asH c.hd;rw[e];rfl) c.cl c.cg c.ct;let f:=W.looks_find (M:=ϧ prog w) X I a;unfold getAttr? getAttrBy?;show Ϧ (wpAny_mkText (Ϧ (wpAny_attempt (alm (s:={s with toks:=s.toks+1}) X I c ?_))));unfold apB.«object.__getattribute__»;show Ϧ (ϲ ?_);dsimp only;show Ϧ (ϲ (Ϧ (W.Looks.here (s:={s with toks:=s.toks+1}) I.type (Ϧ (W.Looks.here (s:={s with toks:=s.toks+1}) f ?_)))))*>π _ _ (holding [.builtin "object.__class__"] (call (.builtin "getset_descriptor.__get__") [.builtin "object.__class__",.ref x,.ref C])>>=ret) _ _ _*>Ϧ (acK (aon (W.class_get (s:={s with toks:=s.toks+1}) X I c.mo (ϲ ?_))))*>W.handed_on rfl (ϲ h)
theorem QQ(c:sy K C):W.KitX K (.ref x) (.ref C) (λh=>∃ox od,asW h x ox C od)where
 ty:=λ_ _ _ ⟨_,_,I⟩=>I.type
 it:=λ_ _ X _=>by
  let#[f,a,_]:=asH c.hd;unfold ash at a;split at a
  .rename_i m d' g i j;intro o p s s' k q;unfold isType loadHead;show Ϧ (wpAny_loadPart (k<*(X _ _ j)) (ϲ q))
  .cases a
 ne:=λh tp dd u n sl X l=>by
  let#[f,a,_]:=asH c.hd;show akc.mpr λq=>?_
  let e:C=tp:=Value.ref.inj (beq_iff_eq.mp q);subst e;unfold ash at a;split at a
  .rename_i m d' g i j;let z:=(X<*j).symm.trans l;cases z
  .cases a
 ca:=λX z k=>by let#[_,_,I]:=z;show akK X I c k
end
def xw(e C:δ)(D:Option δ):HO:=.ext λh=>∃a vs,h.get? e=↑a/\a.cls=.ref C/\a.dict=D/\a.data=.fields vs
theorem ak3{P:ϰ}{w:Ϯ}{H:Hp}{h:ϫ}{e C:δ}{D:Option δ}{a:Obj}{vs:Array ε}(q:h.get? e=↑a)(c:a.cls=.ref C)(hd:a.dict=D)(f:a.data=.fields vs):Ϟ P w H h e (xw e C D):=
 #[#[a,vs,q,c,hd,f],#[_,q],λh1 h2 z k=>by let#[a,vs,q,r]:=z;show #[a,vs,k _ q,r]]
section
variable{X:Cx}{σ:St}{H:Hp}{Q:VK}{e C:δ}{D:Option δ}{k:Bool}
def Inv.inst{ϵ:List (δ×Obj)}{s:ν}(I:Inv X ϵ σ H s)(p:H e=↑(xw e C D))(hd:∀a,D=↑a->∃fs,H a=↑(.xd fs)):∃ox od,asW s.heap e ox C od/\∀a fs,D=↑a->H a=↑(.xd fs)->∃o,od=↑o/\∃mA:Str->Option ε,(∀f,cN (fs.lookup f) (mA f))/\∀n,atB n o=↑(mA n):=by
 let#[#[i,vs,q,j,c,l],_,_]:=I.hok e _ p;cases D with
 |none=>show#[i,none,#[q,j,by unfold at9;rw[l],by rw[c];trivial],λa fs z=>nomatch z]
 |some a=>
  let#[fs,h1]:=hd a rfl;let#[mA,g,u]:=I.hok a _ h1;let#[o,v,x]:=aaC g;show#[i,↑o,#[q,j,by unfold at9;rw[l],by rw[c];show v],λB y z m=>?_];cases z;rw[h1]at m;cases m;show#[o,rfl,mA,u,x]
def vz{c:V}{u:ε}(i:sy X.K C)(f:H e=↑(xw e C D))(hd:∀a,D=↑a->∃fs,H a=↑(.xd fs))(j:∀g,RelV c g->g=u)(l:aoY X.K (.ref C) u=↑k)(q:Q (.bl k) H):CL X (.builtin "isinstance") [.ref e,c] H Q:=by
 show cI (r:=λxs H Q=>xs=[.ref e,c]/\H e=↑(xw e C D)/\(∀a,D=↑a->∃fs,H a=↑(.xd fs))/\Q (.bl k) H) ?_ #[rfl,f,hd,q];intro ϵ s σ H xs us Q I r h;let#[rfl,f,hd,q]:=h;let#[m,n,rfl,r1,o]:=vals2 r;cases(show m=Value.ref e from r1);rw[j n o];let#[ox,od,J,_]:=I.inst f hd;show apj (QQ i) I.kIn #[ox,od,J] l (λz=>nomatch z) λtk=>#[.bl k,H,I.tok tk,rfl,q]
end
section
variable{X:Cx}{ϵ:List (δ×Obj)}{σ:St}{H:Hp}{s:ν}{h':ϫ}
def Inv.akk{n:Str}{i:Nat}{m m':MG}{t':Nat}(I:Inv X ϵ σ H s)(E:X.N.Nodup)(hi:X.N[i]?=↑n)(B:σ[i]?=↑none)(F:∀(i:Nat)(x:Str)(v:V),X.N[i]?=↑x->σ[i]?=some ↑v->rF X.env.scope x->∃u,RelV v u/\Look X.env s.heap m x u)(G:h'.Ns X.env.locals m')(J:∀x,x≠n->m' x=m x)(g:∀b o,b≠X.env.locals->s.heap.get? b=↑o->h'.get? b=↑o)(S:∃o,h'.get? X.env.locals=↑o):Inv X ϵ σ H {s with heap:=h',toks:=t'}:=by
 let f:∀b o,X.s₀.heap.get? b=↑o->b≠X.env.locals:=λb o e=>acb (abr (abU e) I.ok.above)
 let a:∀x c,X.env.cells.lookup x=↑c->∀v,s.heap.IsCell c v->h'.IsCell c v:=λx c e v ⟨o,L,hd⟩=>#[o,g c o (I.cne x c e) L,hd]
 show#[I.ok,I.os,I.bare,#[λb o e n C y=>g b o (f b o e) (I.base.keep b o e n C y),λb o e n C y=>?_,I.base.free,λb o e y=>?_,I.base.tups,I.base.frzs,I.base.tbls],#[m',G,λj x v e1 D M=>?_],λx c e=>?_,I.free,I.freeC,λp O=>?_,λb u e=>?_,I.len]
 .let#[sl,e1]:=I.base.slot b o e n C y;show#[sl,g b _ (f b o e) e1]
 .let#[o',e1]:=I.base.there b o e y;show#[o',g b o' (f b o e) e1]
 .let#[u,r,l]:=F j x v e1 D M;show#[u,r,?_];let P:x≠n:=λz=>by
   subst z;have:=GF E e1 hi;subst this;rw[B]at D;cases D
  obtain l|⟨k,c,e,z⟩:=l
  .show .inl #[l.1,by rw[J x P];show l.2]
  .show .inr #[k,c,e,a x c e _ z]
 .let#[v,z]:=I.cell x c e;show#[v,a x c e v z]
 .let#[e,n,ne,Q,d]:=I.pin p O;show#[g _ _ ne e,n,ne,Q,d]
 .show(I.hok b u e).stay (λc v R q=>g c v ?_ q) (λ_ q=>q) λ_ _ q=>q
  obtain z|z:=R
  .rw[z];show Ξ e I.free
  .show Ξ z I.free
end
section
variable{K:ϩ}{mg:MG}{Lx x y:Str}
def wD(h:XC K mg Lx x)(v:ε):anK K (η mg x) v=↑((Value.ref (η mg x):: .ref (η mg Lx)::dF).contains v):=by
 let#[cd,h1,_,h2]:=Ha h.xc;unfold anK;rw[h1,arF,h2];rfl
def XC.cls(h:XC K mg Lx x):(ash K (η mg x)).isSome=true:=by
 let#[cd,h1,_,h2]:=Ha h.xc;rw[h1];rfl
def tR.cls(h:tR K mg x):(ash K (η mg x)).isSome=true:=by
 have:=h.mb;unfold anK at this;cases e:ash K (η mg x)with
 |none=>rw[e]at this;cases this
 |some cd=>rfl
def Gw{C:δ}(t:ε)(h1:(ash K C).isSome=true)(h2:arL K (.ref C)=↑(.type "type")):W.kitCls K t (.ref C)=asB K t (.ref C):=by
 show(if((ash K C).isSome&&arL K (.ref C)==↑(.type "type"))=true then asB K t (.ref C)else none)=_;rw[if_pos];rw[h1,h2];rfl
def Xk(h:XC K mg Lx x)(g:XC K mg Lx y)(ne:η mg x≠η mg y)(nl:η mg Lx≠η mg y):asB K (.ref (η mg x)) (.ref (η mg y))=↑false:=by
 show anK K (η mg x) (.ref (η mg y))=↑false;rw[wD h];let e1:(Value.ref (η mg y)==Value.ref (η mg x))=false:=beq_eq_false_iff_ne.mpr λz=>ne (Value.ref.inj z).symm
 let a:(Value.ref (η mg y)==Value.ref (η mg Lx))=false:=beq_eq_false_iff_ne.mpr λz=>nl (Value.ref.inj z).symm
 rw[akN,e1,akN,a];rfl
def ad7(h:XC K mg Lx x):asB K (.ref (η mg x)) (.ref (η mg x))=↑true:=by
 show anK K (η mg x) (.ref (η mg x))=↑true;rw[wD h,akN,beq_self_eq_true];rfl
def aj7(h:XC K mg Lx x):asB K (.ref (η mg x)) (.ref (η mg Lx))=↑true:=by
 show anK K (η mg x) (.ref (η mg Lx))=↑true;rw[wD h,akN,akN,beq_self_eq_true];cases(Value.ref (η mg Lx)==Value.ref (η mg x))<;>rfl
def aiM(h:XC K mg Lx x)(g:XC K mg Lx y)(ne:η mg x≠η mg y)(nl:η mg Lx≠η mg y):aoY K (.ref (η mg x)) (.ref (η mg y))=↑false:=by
 unfold aoY;rw[if_neg (by rw[beq_eq_false_iff_ne.mpr λz=>ne (Value.ref.inj z)];show aaP),Gw _ g.cls g.ty];show Xk h g ne nl
def ajR(h:XC K mg Lx x):aoY K (.ref (η mg x)) (.ref (η mg x))=↑true:=by
 unfold aoY;rw[if_pos (beq_self_eq_true _)]
def VD(h:XC K mg Lx x):aoY K (.ref (η mg x)) (.type "ValueError")=↑true:=by
 unfold aoY;rw[if_neg (by rw[beq_eq_false_iff_ne.mpr λz=>by cases z];show aaP)];show(if W.kitMeta "ValueError"=true then asB K (.ref (η mg x)) (.type "ValueError")else none)=↑true;rw[if_pos (by fin2)];show anK K (η mg x) (.type "ValueError")=↑true;rw[wD h];rfl
def aal(g:XC K mg Lx y)(v:ε):aox K v (.ref (η mg y))=asB K v (.ref (η mg y)):=by
 unfold aox;let e:asB K (.ref (η mg y)) (.type "BaseException")=↑true:=by
  show anK K (η mg y) (.type "BaseException")=↑true;rw[wD g];rfl
 rw[e,if_pos (by decide),Gw _ g.cls g.ty]
def uD(h:XC K mg Lx x):aox K (.ref (η mg x)) (.ref (η mg x))=↑true:=by rw[aal h];show ad7 h
def j4(h:XC K mg Lx x)(g:XC K mg Lx y)(ne:η mg x≠η mg y)(nl:η mg Lx≠η mg y):aox K (.ref (η mg x)) (.ref (η mg y))=↑false:=by rw[aal g];show Xk h g ne nl
def ahT(h:XC K mg Lx x)(b:tR K mg Lx):aox K (.ref (η mg x)) (.ref (η mg Lx))=↑true:=by
 unfold aox;let e:asB K (.ref (η mg Lx)) (.type "BaseException")=↑true:=b.mb;rw[e,if_pos (by decide),Gw _ b.cls b.ty];show aj7 h
end
def wj{P:ϰ}{w:Ϯ}{K:ϩ}{mg:MG}{base:ϫ}{cc:Bool}{k:Nat}{Lx x qual fld:Str}{st:Ϩ}{ps N:List Str}(O:lN K mg Lx x qual fld st)(S:Μ N ps (ρ st))(l:∀(kV g pm:ε)(an:Option δ)(c ct:ε)(us:List ε),↥us=↥ps->bindArgs (asx "__init__" qual (jk st) (ϕ st) (ρ st) .none kV g pm an c ct) #[us,[]]=pure (ps.zip us))(len:↥ps=2)(body:∀(f:δ)(c:ε)(A:ϴ)(outer:List Env)(s:ν)(H:Hp)(vs:List V)(Q:VK)(E:XK),oV K (η mg x) f=true->ϐ cc k (A.deeper (envOfC qual (ρ st) ⇑s f c))->BX (η mg x) fld vs H Q E->
   Ι (gR cc P w K mg base N qual (ρ st) f c A outer s H E) (ϕ st) {nx:=λ_ H'=>Q .non H',rt:=Q} (start N vs) H):mX P w K mg base cc (k+1) x fld:=by
 let#[f,fd,F,h1,h2]:=O.ex;let#[oc,od,kV,g,pm,an,c,ct,i,e,lk,m]:=id F.ex;show#[O.at_,f,fd,ps,oc,od,i,v8 F S (λvs H Q E h=>by let#[a,n,rfl,_]:=h;show len.symm) λc A outer s H vs Q E o h=>body f c A outer s H vs Q E h1 o h,F.binds l,h1,lk,?_];let p:arL K (.ref f)=↑(.type "function"):=beq_iff_eq.mp h2;let j:Option.map (λx:Obj=>x.cls) (ajp f K)=↑(.type "function"):=p;rw[lk]at j;show Option.some.inj j
theorem Qa{X:Cx}{σ:St}{H:Hp}{Q:VK}{pos:Pos}(a:Gl X "ValueError")(c:X.mg "ValueError"=none)(q:Q (.ty "ValueError") H):EV X (.Name "ValueError" pos) σ H Q:=Y4 a c (by fin2) q (by decide) (by decide)
theorem Dj:∀{us:List ε}{ys:List Str}{m:Nat}{u:ε},StrsAre us ys->us[m]?=↑u->∃y t,ys[m]?=↑y/\u=.str y t
 |_,_,_,_,.nil,e=>by simp at e
 |_,_,0,u,.cons y t h,e=>by
  simp at e;show#[y,t,rfl,e.symm]
 |_,_,m+1,u,.cons y t h,e=>by
  let#[a,t',e1,c]:=Dj h (~~~e);show#[a,t',~~~e1,c]
section
variable{X:Cx}{H:Hp}{Q:VK}
def aaZ{a:δ}{zs:List Str}{z:Str}{j:Nat}(h:θ X.K H a (zs.map V.str))(f:zs[j]?=↑z)(c:∀m y,m<j->zs[m]?=↑y->¬y=z)(g:Q (.int j) H):MT X "list.index" (.ref a) [.str z] H Q:=by
 show bZ (r:=λx xs H Q=>∃a zs z j,x=.ref a/\xs=[.str z]/\θ X.K H a (zs.map V.str)/\zs[j]?=↑z/\(∀m y,m<j->zs[m]?=↑y->¬y=z)/\Q (.int (j:Nat)) H) ?_ #[a,zs,z,j,rfl,rfl,h,f,c,g];intro ϵ s σ H x xs v us Q I rx D h;let#[a,zs,z,j,rfl,rfl,h,f,c,g]:=h;cases rx;let#[u,rfl,E]:=vals1 D;let#[t,rfl]:=E;let#[i,r,#[#[cls,dd,B,sl],n,e,C,hd,hs],G]:=I.list h;simp only at C hd hs;subst C hd hs;let o:=VN r;let l:↥i=↥zs:=by have:=↥r;rw[ϭ]at this;show this.symm
 let p:j<i.toArray.size:=by
  rw[aaq,l];show(aab.mp f).1
 rw[ϭ]at G;let hsz:=ϯ;let M:j<↥zs:=(aab.mp f).1;show ame F.slot_list_index #[_,e,rfl] F.entry_list_index (F.args_list_index_2 _ _) (SeqAt.list_indexAt a i.toArray n _ sl (.str z t) (isStrOf z) j p () ?_ ?_) #[e,λy J=>(eq_isStrOf z t o y (~~~J)).at _ _,?_]
 .let#[y,t',e1,q]:=Dj (m:=j) (u:=i.toArray[j]) o (by simp);rw[q];rw[f]at e1;cases e1;show(z==z)=true;show beq_self_eq_true z
 .intro m O L;let#[y,t',e1,q]:=Dj (m:=m) (u:=i.toArray[m]) o (by simp);rw[q];show(y==z)=false;show beq_eq_false_iff_ne.mpr (c m y L e1)
 .show#[.int j,H,I.tok _,#[_,rfl],g]
def ltV:V->V->Bool
 |.int i,.int j=>decide (i<j)
 |.str x,.str y=>decide (x.cps.toList<y.cps.toList)
 |_,_=>false
end
structure Υ(P:ϰ)(w:Ϯ)(K:ϩ)(mg:MG)(base:ϫ)(cc:Bool)(k:Nat)(C:δ)(m:Str)(ps:List Str)(sp:Sp):Prop where
 cls:Ϙ K C
 ex:∃f fd,Meth K C m f/\Binds K fd ps []/\cW P w K mg base (bQ P w) cc k f fd ps sp
structure fV(P:ϰ)(w:Ϯ)(K:ϩ)(mg:MG)(base:ϫ)(cc:Bool)(k:Nat)(x:Str)(C:δ)(ps:List Str)(sp:Sp):Prop where
 at_:mg x=↑(.ref C)
 ex:∃f fd,Mk K C f/\Binds K fd ps []/\cW P w K mg base (bQ P w) cc k f fd ps sp
structure pZ(P:ϰ)(w:Ϯ)(K:ϩ)(mg:MG)(base:ϫ)(cc:Bool)(k:Nat)(x m:Str)(ps:List Str)(sp:Sp):Prop where
 ex:∃C f fd,mg x=↑(.ref C)/\ar8 K C (.type "type")=true/\ar9 K (.ref C) (.type "type") m=↑(.val (.ref f))/\
  aju K (.ref C) "__getattribute__"=some ↑(.builtin "type.__getattribute__")/\aoT K (.ref f)=true/\Binds K fd ps []/\cW P w K mg base (bQ P w) cc k f fd ps sp
section
variable{X:Cx}{σ:St}{H:Hp}{Q:VK}{D:Ends}{x f m:Str}{p np apos pos pos' tpos:Pos}{a e o value:Ϫ}{es:List Ϫ}{Kx:St->XK}{cc:Bool}{k':Nat}
def ϝ(h:EV X e σ H λx H1=>∃a C dx fs v,x=.ref a/\H1 a=↑(.ins C dx fs)/\Ϙ X.K C/\ Ο X.K C f/\fs.lookup f=↑v/\Q v H1)(g:attributeBase e f X.env (eval e X.env)=eval e X.env:=by rfl):EV X (.Attribute e f pos) σ H Q:=by
 intro ϵ s I;show anJ g (υ (h ϵ s I) λu y i=>?_);let#[x,H1,j,rx,a,C,dx,fs,v,ex,m,c,n,l,q]:=i;subst ex;obtain rfl:u=Value.ref a:=rx;show O7 j m c n l λz B o p=>#[v,H1,o,p,q]
theorem cZ(h:EV X value σ H λy H1=>EV X o σ H1 λx H2=>∃a C dx fs,x=.ref a/\H2 a=↑(.ins C dx fs)/\Ϙ X.K C/\ Ο X.K C f/\↥fs<1000/\D.nx σ (upd H2 a (.ins C dx (ϥ f y fs))))(hs:ao7 value ↑(.Attribute o f pos') pos.line X.env=pure false:=by rfl):SX X (.Assign [.Attribute o f pos'] value pos) D σ H:=
 λϵ s I=>an7 dZ dZ hs ϵ s σ H D I h
theorem akb(h:EV X o σ H λx H1=>∃a C dx fs v,x=.ref a/\H1 a=↑(.ins C dx fs)/\Ϙ X.K C/\ Ο X.K C f/\fs.lookup f=↑v/\
   EV X value σ H1 λy H2=>QX v y H2 λz e=>∃c fs',e a=↑(.ins C c fs')/\↥fs'<1000/\D.nx σ (upd e a (.ins C c (ϥ f z fs')))):SX X (.AugAssign (.Attribute o f tpos) .Add value pos) D σ H:=
 λϵ s I=>ae7 dZ dZ adX ϵ s σ H D I h
def Ϛ{pl:Sem Bool}(p:ϐ cc k' X.A)(v:ak X Kx)(y:ϳ (e::es) X.env=(false,eval e X.env)::ϳ es X.env:=by rfl)(c:(backTo pos (ϳ es X.env)).any (·.1)=false:=by rfl)(z:eval (.Call (.Attribute o m apos) (e::es) [] pos) X.env=(do
   let i<-eval o X.env
   standAt apos.atName
   let(f,first)<-holding [i] (getMethod i m pl)
   callWith pos f first (backTo pos (ϳ (e::es) X.env)) (backToKw pos (keywordEach [] X.env))):=by rfl)(h:EV X o σ H λx H1=>∃a C dx fs aU k ps sp,x=.ref a/\H1 a=↑(.ins C dx fs)/\fs.lookup m=none/\ Υ X.prog X.w X.K X.mg X.base aU k C m ps sp/\k<=k'/\(aU=true->cc=true)/\EA X (e::es) σ H1 λvs H2=>sp (x::vs) H2 Q (Kx σ)):EV X (.Call (.Attribute o m apos) (e::es) [] pos) σ H Q:=by
 intro ϵ s I;show arS (pl:=pl) (υ (h ϵ s I) λu B D=>?_) z;let#[x,H1,j,rx,a,C,dx,fs,aU,k,ps,sp,ex,E,G,M,J,g,q]:=D;subst ex;cases(show u=Value.ref a from rx);let#[f,fd,l,L,F]:=M.ex;show Lj j E M.cls l G ?_*>asz (first:=[.ref a]) (h₀:=X.base) I.ok.mod.kin l.kp (υ (q pos ϵ B j) λus P _u=>_Z.e23 _u λvs H2 n r O=>#[n.kIn,?_]) y c*>vI (us:=.ref a::us) (vs:=.ref a::vs) F ((p.mono J).oO g) L v n (.cons rfl r) O
def bV{pl:Sem Bool}(j:ϐ cc k' X.A)(l:ak X Kx)(h:EV X o σ H λx H1=>∃a C dx fs aU k ps sp,x=.ref a/\H1 a=↑(.ins C dx fs)/\fs.lookup m=none/\ Υ X.prog X.w X.K X.mg X.base aU k C m ps sp/\k<=k'/\(aU=true->cc=true)/\sp [x] H1 Q (Kx σ))(n:eval (.Call (.Attribute o m apos) [] [] pos) X.env=(do
   let g<-eval o X.env
   standAt apos.atName
   let(f,first)<-holding [g] (getMethod g m pl)
   callWith pos f first (backTo pos (ϳ [] X.env)) (backToKw pos (keywordEach [] X.env))):=by rfl):EV X (.Call (.Attribute o m apos) [] [] pos) σ H Q:=by
 intro ϵ s I;show arS (pl:=pl) (υ (h ϵ s I) λu D p=>?_) n;let#[x,H1,c,rx,a,C,dx,fs,aU,k,ps,sp,ex,v,y,M,z,e,q]:=p;subst ex;cases(show u=Value.ref a from rx);let#[f,fd,i,B,F]:=M.ex;show Lj c v M.cls i y ?_*>atY (first:=[.ref a]) c.kIn i.kp (vI (us:=[.ref a]) (vs:=[.ref a]) F ((j.mono z).oO e) B l c (.cons rfl .nil) q)
def Bc{pl:Sem Bool}{aU:Bool}{k:Nat}{ps:List Str}{sp:Sp}(B:pZ X.prog X.w X.K X.mg X.base aU k x m ps sp)(o:ϐ cc k' X.A)(a:aU=true->cc=true)(p:ak X Kx)(h:EA X (e::es) σ H λvs H1=>sp vs H1 Q (Kx σ))(q:k<=k':=by decide)(u:Gl X x:=by rfl)(hd:(x==("__debug__":Str))=false:=by decide)(v:ϳ (e::es) X.env=(false,eval e X.env)::ϳ es X.env:=by rfl)(c:(backTo pos (ϳ es X.env)).any (·.1)=false:=by rfl)(y:eval (.Call (.Attribute (.Name x np) m apos) (e::es) [] pos) X.env=(do
   let l<-eval (.Name x np) X.env
   standAt apos.atName
   let(f,first)<-holding [l] (getMethod l m pl)
   callWith pos f first (backTo pos (ϳ (e::es) X.env)) (backToKw pos (keywordEach [] X.env))):=by rfl):EV X (.Call (.Attribute (.Name x np) m apos) (e::es) [] pos) σ H Q:=by
 let#[C,f,fd,z,g,D,i,j,E,F]:=B.ex;intro ϵ s I;show arS (pl:=pl) (eZ I u z ?_ hd) y*>W.method_cls I.kIn i (W.cls_value I.kIn g D (by rfl) ?_);let G:=I.tok (s.toks+1);show asz (first:=[]) (h₀:=X.base) I.ok.mod.kin j (υ (h pos ϵ _ G) λus L _u=>_Z.e23 _u λvs H2 n r J=>#[n.kIn,?_]) v c*>vI F ((o.mono q).oO a) E p n r J
def Nm{cc:Bool}{k:Nat}{C g:δ}{fd:ajB}{ps:List Str}{sp:Sp}{ϵ:List (δ×Obj)}{s:ν}{us:List ε}{vs:List V}(M:Mk X.K C g)(F:cW X.prog X.w X.K X.mg X.base (bQ X.prog X.w) cc k g fd ps sp)(m:ϐ cc (k+1) X.A)(n:Binds X.K fd ps [])(o:ak X Kx)(I:Inv X ϵ σ H s)(r:Vals vs us)(h:∀y dx,H y=none->H dx=none->dx≠y->sp (.ref y::vs) (upd (upd H dx (.own y)) y (.ins C dx [])) (λv H2=>v=.non/\Q (.ref y) H2) (Kx σ)):π ∅ X.A (call (.ref C) us) (EP X ϵ σ Q) X.xe s:=by
 let p:H (⇑s+1)=none:=I.hok.fresh (aoF _);let i:H ⇑s=none:=I.hok.fresh (Ϭ _);let q:=h _ _ p i (acb (atp _));let e:=Inv.made (C:=C) I;let l:Vals (V.ref (⇑s+1)::vs) (Value.ref (⇑s+1)::us):=.cons rfl r;let x:↥(Value.ref (⇑s+1)::us)=↥ps:=by rw[<-↥l];show F.len _ _ _ _ q
 let c:=n {s with heap:=(s.heap.push aod).push (aqU C ⇑s)} (Value.ref (⇑s+1)::us) e.kIn (~~~x);rw[alV]at c;show aon (amM (f:=g) I.kIn M.makes M.init (beq_iff_eq.mp M.fn) (akz (F.run _ X.stack _ _ #[Value.ref (⇑s+1)::us,[]] _ _ _ (Kx σ) (m.make C us []) (e.env0.make C us []) c l q) λj s' a=>?_))
 match j,a with
 |.error z,a=>
   let#[b,cls,d,H',rfl,B,w]:=e.flown a;show o ϵ σ H' s' b cls d B w
 |.ok (.ret u),a=>
   let#[v,H',D,E,G,J]:=e.after a;subst G;show#[E,#[V.ref (⇑s+1),H',D,rfl,J]]
 |.ok .next,a=>show False.elim a
 |.ok .brk,a=>show False.elim a
 |.ok .cont,a=>show False.elim a
def jh{aU:Bool}{k:Nat}{C:δ}{ps:List Str}{sp:Sp}(M:fV X.prog X.w X.K X.mg X.base aU k x C ps sp)(j:ϐ cc k' X.A)(l:k+1<=k')(a:aU=true->cc=true)(m:ak X Kx)(h:EA X (e::es) σ H λvs H1=>∀y dx,H1 y=none->H1 dx=none->dx≠y->sp (.ref y::vs) (upd (upd H1 dx (.own y)) y (.ins C dx [])) (λv H2=>v=.non/\Q (.ref y) H2) (Kx σ))(n:Gl X x:=by rfl)(hd:(x==("__debug__":Str))=false:=by decide)(o:ϳ (e::es) X.env=(false,eval e X.env)::ϳ es X.env:=by rfl)(c:(backTo pos (ϳ es X.env)).any (·.1)=false:=by rfl):EV X (.Call (.Name x p) (e::es) [] pos) σ H Q:=by
 let#[f,fd,g,u,F]:=M.ex;intro ϵ s I;show aky (eZ I n M.at_ ?_ hd)*>asz (h₀:=X.base) I.ok.mod.kin g.kp (υ (h pos ϵ s I) λus z _u=>_Z.e23 _u λvs H1 i r q=>#[i.kIn,?_]) o c*>Nm g F ((j.mono l).oO a) u m i r q
end
def FD(P:ϰ)(w:Ϯ)(K:ϩ)(mg:MG)(base:ϫ)(cc:Bool)(k:Nat)(m qual:Str)(st:Ϩ)(ps:List Str)(sp:Sp):Prop:=
 ∀f fd,cG K m qual st f fd->Binds K fd ps []/\cW P w K mg base (bQ P w) cc k f fd ps sp
section
variable{P:ϰ}{w:Ϯ}{K:ϩ}{mg:MG}{base:ϫ}{cc:Bool}{k:Nat}{x m qual:Str}{C:δ}{st:Ϩ}{ps N:List Str}{sp:Sp}
theorem ϖ(body:∀(f:δ)(a:ε)(A:ϴ)(outer:List Env)(s:ν)(H:Hp)(vs:List V)(Q:VK)(E:XK),ϐ cc k (A.deeper (envOfC qual (ρ st) ⇑s f a))->sp vs H Q E->
   let X:=gR cc P w K mg base N qual (ρ st) f a A outer s H E;let D:Ends:={nx:=λ_ H'=>Q .non H',rt:=Q};Ι X (ϕ st) D (start N vs) H)(S:Μ N ps (ρ st):=by room)(e:∀(kV c pm:ε)(an:Option δ)(a ct:ε)(us:List ε),↥us=↥ps->bindArgs (asx m qual (jk st) (ϕ st) (ρ st) .none kV c pm an a ct) #[us,[]]=pure (ps.zip us):=by walk_at"bb")(len:∀vs H Q E,sp vs H Q E->↥vs=↥ps:=by walk_at"ln"):FD P w K mg base cc (k+1) m qual st ps sp:=
 λf fd F=>#[F.binds e,v8 F S len λa A outer s H vs Q E g h=>body f a A outer s H vs Q E g h]
def FD.meth(F:FD P w K mg base cc k m qual st ps sp)(c:Ϙ K C)(O:OM K C m qual st):Υ P w K mg base cc k C m ps sp:=by
 let#[f,fd,h1,h2]:=O.ex;show#[c,f,fd,h2,F f fd h1]
def FD.make(F:FD P w K mg base cc k "__init__" qual st ps sp)(a:mg x=↑(.ref C))(O:OI K C qual st):fV P w K mg base cc k x C ps sp:=by
 let#[f,fd,h1,h2]:=O.ex;show#[a,f,fd,h2,F f fd h1]
def FD.asked(F:FD P w K mg base cc k m qual st ps sp)(a:mg x=↑(.ref C))(O:OB K C m qual st):pZ P w K mg base cc k x m ps sp:=by
 let#[f,fd,h1,h2]:=O.ex;let#[c,e]:=F f fd h1;show#[C,f,fd,a,O.rd,h2,O.ga,h1.kp,c,e]
end
def jo{X:Cx}{σ:St}{H:Hp}{D:Ends}{elts:List Ϫ}{k:Nat}{tp pos:Pos}{value:Ϫ}(h:EV X value σ H λv H1=>EG X (.Tuple elts k tp) v σ H1 λσ' H'=>D.nx σ' H')(hs:swapsWithSole [.Tuple elts k tp] value pos.line X.env=pure false:=by rfl)(a:swappedStores [.Tuple elts k tp] value X.env=pure none:=by rfl):SX X (.Assign [.Tuple elts k tp] value pos) D σ H:=by
 intro ϵ s I;show Assign_Tuple (υ (h ϵ s I) λu c e=>?_) hs a;let#[v,H1,f,r1,g]:=e;show υ (g ϵ c u f r1) λ_ l z=>by let#[σ',H',i,j]:=z;show #[σ',H',i,j]
section
variable{X:Cx}{σ:St}{H:Hp}{Q:VK}{D:Ends}{pos tpos:Pos}{o i value:Ϫ}
theorem aeH(hs:swapsWithSole [.Subscript o i tpos] value pos.line X.env=pure false)(f:swappedStores [.Subscript o i tpos] value X.env=pure none)(h1:(apW [.Subscript o i tpos] X.env).map (·.2)=[assign (.Subscript o i tpos) X.env])(g:∀v,assign (.Subscript o i tpos) X.env v=(do
   let a<-holding [v] (eval o X.env);let c<-holding [v,a] (eval i X.env)
   standAt tpos
   holding [v,a,c] (setItem a c v)
   release [v,a,c] []))(h:EV X value σ H λv H1=>EV X o σ H1 λa H2=>EV X i σ H2 λc e=>∃p xs k j,a=.ref p/\c=.int k/\e p=↑(.lst xs)/\jt ↥xs k=↑j/\D.nx σ (upd e p (.lst (xs.set j v)))):SX X (.Assign [.Subscript o i tpos] value pos) D σ H:=
 λϵ s I=>alX (X:=X) dZ (alK dZ dZ set_list g) hs f h1 ϵ s σ H D I h
end
def ajT{n j:Nat}(h:j<n):jt n (j:Int)=↑j:=by
 unfold jt;rw[if_pos (Int.natCast_nonneg j),if_pos (),ar5]
section
variable{X:Cx}{σ:St}{H:Hp}{Q:VK}{D:Ends}{pos pos' tpos apos cpos:Pos}{o i e f value:Ϫ}{y v:V}{a:δ}{r:Option V}
theorem Ds(h:∀p,H p=none->Q (.ref p) (upd H p (.dK []))):EV X (.Dict [] [] pos) σ H Q:=zm aiO h
def ai1(f:X.A.units+1<cLine)(hs:Wd i)(h:EV X o σ H λx H1=>EV X i σ H1 λy H2=>∃a v,x=.ref a/\aQ H2 a y ↑v/\Q v H2):EV X (.Subscript o i pos) σ H Q:=by
 intro ϵ s I;show alf F.slot_dict_getitem.lookup hs (υ (h ϵ s I) λu j _u=>_Z.e23 _u λx H1 l rx m=>υ (m ϵ j l) λz B n=>?_);let#[y,H2,e,ry,a,v,ex,g,p]:=n;subst ex;obtain rfl:u=Value.ref a:=rx;show#[RV e g,Ob f e g ry λC D q c=>#[v,H2,q,c,p]]
def Lr(c:X.A.units+1<cLine)(g:aQ H a y r)(q:Q (.bl r.isSome) H):OP X (adA .In) y (.ref a) H Q:=by
 show bj (r:=λx z H Q=>∃a o,z=.ref a/\aQ H a x o/\Q (.bl o.isSome) H) ?_ #[a,r,rfl,g,q];intro ϵ s σ H x z v u Q I rx e h;let#[a,o,rfl,g,q]:=h;cases(show u=Value.ref a from e);show abt c I g rx λs' f=>#[.bl o.isSome,H,f,rfl,q]
def amZ(c:X.A.units+1<cLine)(g:aQ H a y r)(q:Q (.bl (!r.isSome)) H):OP X (adA .NotIn) y (.ref a) H Q:=by
 show bj (r:=λx z H Q=>∃a o,z=.ref a/\aQ H a x o/\Q (.bl (!o.isSome)) H) ?_ #[a,r,rfl,g,q];intro ϵ s σ H x z v u Q I rx e h;let#[a,o,rfl,g,q]:=h;cases(show u=Value.ref a from e);show acG c I g rx λs' f=>#[.bl (!o.isSome),H,f,rfl,q]
def zB(f:X.A.units+1<cLine)(h:EV X value σ H λv H1=>EV X o σ H1 λx H2=>EV X i σ H2 λy e=>∃a c,x=.ref a/\jD e a y v c/\D.nx σ c)(hs:ao7 value ↑(.Subscript o i pos') pos.line X.env=pure false:=by rfl):SX X (.Assign [.Subscript o i pos'] value pos) D σ H:=by
 intro ϵ s I;show wpAny_Assign_Subscript (υ (h ϵ s I) λr j _u=>_Z.e23 _u λv H1 l m n=>υ (n ϵ j l) λu p _u=>_Z.e23 _u λx H2 q rx z=>υ (z ϵ p q) λG J B=>?_) hs;let#[y,e,C,ry,a,c,ex,g,E]:=B;subst ex;obtain rfl:u=Value.ref a:=rx;show ah5 f C g ry m λL F=>#[σ,c,F,E]
def ahG(i:X.A.units+1<cLine)(m:M1 X o "get" apos e cpos)(h:EV X o σ H λx H1=>∃a,x=.ref a/\pB H1 a/\EV X e σ H1 λy H2=>∃o,aQ H2 a y o/\Q (o.getD .non) H2):EV X (.Call (.Attribute o "get" apos) [e] [] cpos) σ H Q:=by
 intro ϵ s I;show wpAny_Call_method m.base m.few m.line F.plainAttrs_dict F.slot_dict_get F.type_dict_get (υ (h ϵ s I) λu j l=>?_);let#[x,H1,f,rx,a,ex,d,n]:=l;subst ex;obtain rfl:u=Value.ref a:=rx;let#[p,q,_]:=Xb f d;show#[p,q,?_];rw[m.trees];show Calls.callWith_builtin rfl (Calls.evalArgs_plain (Calls.spliced_cons (υ (n ϵ j f) λC D ⟨y,H2,v,ry,E,g,z⟩=>Calls.spliced_nil ?_)))*>adq i v g ry λG J B c=>#[_,H2,B,c,z]
def zP(h:EV X o σ H λx H1=>∃a,x=.ref a/\pB H1 a/\EV X e σ H1 λy H2=>∃Ϸ k v,H2 a=↑(.dK Ϸ)/\y=kV k/\aX Ϸ k=↑v/\Q v (upd H2 a (.dK (gW Ϸ k))))(m:M1 X o "pop" apos e cpos:=by constructor<;>rfl):EV X (.Call (.Attribute o "pop" apos) [e] [] cpos) σ H Q:=by
 intro ϵ s I;show wpAny_Call_method m.base m.few m.line F.plainAttrs_dict F.slot_dict_pop F.type_dict_pop (υ (h ϵ s I) λu g i=>?_);let#[x,H1,f,rx,a,ex,d,j]:=i;subst ex;obtain rfl:u=Value.ref a:=rx;let#[n,p,_]:=Xb f d;show#[n,p,?_];rw[m.trees];show Calls.callWith_builtin rfl (Calls.evalArgs_plain (Calls.spliced_cons (υ (j ϵ g f) λE G ⟨y,H2,q,ry,Ϸ,k,v,z,B,l,C⟩=>Calls.spliced_nil ?_)));subst B;show aeK q z ry l (.inl rfl) λJ L D c=>#[v,_,D,c,C]
def ait{Ϸ:List (Key×V)}(e:H a=↑(.dK Ϸ))(q:∀p,H p=none->Q (.ref p) (upd H p (.dK Ϸ))):CL X (.type "dict") [.ref a] H Q:=by
 show cI (r:=λxs H Q=>∃a Ϸ,xs=[V.ref a]/\H a=↑(.dK Ϸ)/\∀p,H p=none->Q (.ref p) (upd H p (.dK Ϸ))) ?_ #[a,Ϸ,rfl,e,q];intro ϵ s σ H xs us Q I r h;let#[a,Ϸ,rfl,e,q]:=h;let#[u,rfl,c]:=vals1 r;cases(show u=Value.ref a from c);show anA I (.inl e) λp s' f g=>#[.ref p,_,g,rfl,q p f]
end
end _L
namespace _M
open PySem
abbrev SGs:Str:=μ "-0123456789abcdefghijklmnopqrstuvwxyz"
abbrev wQ:Str:=μ "abcdefghijklmnopqrstuvwxyz0123456789-"
def SG:List Nat:=SGs.cps.toList
def TS:List Nat:=wQ.cps.toList
def xT:∀c∈SG,c∈TS:=by fin2
def agZ:∀c∈TS,c∈SG:=by fin2
def tb:List Nat->List Nat->Bool
 |[],[]=>false
 |[],_::_=>true
 |_::_,[]=>false
 |x::xs,y::ys=>if x=y then tb xs ys else decide (SG.idxOf x<SG.idxOf y)
end _M
namespace _L
open PySem PySem.Spec PyProof.Rows
def amX{α:Type}{xs:List α}{f:α->V}{i:Int}(d:α)(c:0<=i)(h1:i<↥xs):ύ (xs.map f) i=↑(f (xs.getD i.toNat d)):=by
 let e:i=((i.toNat:Nat):Int):=()
 let a:i.toNat<↥xs:=()
 let h2:(xs.map f)[i.toNat]?=↑(f (xs.getD i.toNat d)):=by
  rw[acj,aag a];simp[a]
 have:=ϛ h2;rw[<-e]at this;show this
def iD{x y:Str}(h:x.cps.toList=y.cps.toList):x=y:=by
 let#[#[a]]:=x;let#[#[b]]:=y;simp only at h;rw[h]
def jY(x y:Str):(x++y).cps.toList=x.cps.toList++y.cps.toList:=by
 show(x.cps++y.cps).toList=_;simp
theorem Xm(c:Nat):(#[#v[c]]:Str).cps.toList=[c]:=rfl
def len_list(z:Str):↥z=↥z.cps.toList:=by simp[arN]
def len_app(x y:Str):↥(x++y)=↥x+↥y:=by rw[len_list,jY,aa6,len_list,len_list]
def uP(z:Str)(lo hi:Option Int):↥(Ω z lo hi)<=↥z:=by
 unfold Ω arN;simp;omega
def Zi(z:Str)(lo hi:Option Int):(Ω z lo hi).cps.toList=(z.cps.toList.drop (_H.ϊ ↥z 0 lo)).take (_H.ϊ ↥z ↥z hi-_H.ϊ ↥z 0 lo):=by
 unfold Ω;simp
def xV(z:Str)(k:Nat):(Ω z ↑(k:Int) none).cps.toList=z.cps.toList.drop k:=by
 rw[Zi,_H.gA,_H.zU];let a:=len_list z;by_cases h:k<=↥z
 .rw[ajw h,aet (by rw[af0];omega)]
 .let h':↥z<=k:=()
  rw[aso h',asr (),asr ()];simp
def X5(z:Str)(k:Nat):(Ω z none ↑(k:Int)).cps.toList=z.cps.toList.take k:=by
 rw[Zi,_H.gA,_H.zU,alN,apY];let a:=len_list z;by_cases h:k<=↥z
 .rw[ajw h]
 .let h':↥z<=k:=()
  rw[aso h',aet (),aet ()]
def Mq(z:Str)(c:Nat):Txt.startswith z #[#v[c]]=decide (z.cps.toList[0]?=↑c):=by
 rw[agb,decide_eq_true_eq, <-StrLaws.subAt_one];unfold Txt.startswith
 rw[aa9,decide_eq_true_eq]
def tL(x y:Str):decide (V.str x=V.str y)=decide (x.cps.toList=y.cps.toList):=by
 rw[decide_eq_decide];constructor
 .intro h;cases h;rfl
 .intro h;rw[iD h]
end _L
namespace _V
open PySem _L PyProof.Rows _M NumText
def scalar:V->Bool
 |.non|.int _|.str _=>true
 |_=>false
def lJ:V->Bool
 |.int _=>true
 |_=>false
def isNum:V->Bool
 |.int i=>decide (-1000000000000000000<=i/\i<=1000000000000000000)
 |_=>false
def gb(z g:Str):Bool:=z.cps.toList.all λc=>decide (c∈g.cps.toList)
def dO:V->Bool
 |.str z=>decide (↥z<=20)&&gb z wQ
 |_=>false
def isVal(kind:Str):V->Bool
 |.non=>true
 |v=>if kind="number" then isNum v else dO v
def before:V->V->Bool
 |_,.non=>false
 |.non,_=>true
 |.int i,.int j=>decide (i<j)
 |.str x,.str y=>decide (x.cps.toList<y.cps.toList)
 |_,_=>false
def short:V->Prop
 |.str z=>↥z<=4000
 |_=>True
inductive Xh:Sp
 |mk (v):vs=[v]->scalar v=true->Q (.bl (lJ v)) H
inductive Qm:Sp
 |mk (z g:Str):vs=[.str z,.str g]->↥z<=4000->(∀H',ζ H H'->Q (.bl (gb z g)) H')
inductive RB:Sp
 |mk (v):vs=[v]->scalar v=true->Q (.bl (isNum v)) H
inductive K9:Sp
 |mk (v):vs=[v]->scalar v=true->short v->(∀H',ζ H H'->Q (.bl (dO v)) H')
inductive Ld:Sp
 |mk (k:Str) (v:V):vs=[.str k,v]->scalar v=true->short v->(∀H',ζ H H'->Q (.bl (isVal k v)) H')
inductive Ux:Sp
 |mk (x y:V):vs=[x,y]->(x=.non\/y=.non\/(∃i j,x=.int i/\y=.int j)\/∃i j,x=.str i/\y=.str j)->Q (.bl (before x y)) H
def nO(c:Nat):Bool:=decide (48<=c/\c<=57)
abbrev Ie:Str:=μ "0123456789"
def uN:∀c:Nat,c∈Ie.cps.toList↔(48<=c/\c<=57):=by
 intro c;let e:Ie.cps.toList=List.range' 48 10:=by fin2
 rw[e,List.mem_range'_1];omega
def adw(z:Str):gb z Ie=z.cps.toList.all nO:=by
 unfold gb nO
 congr 1
 funext c;rw[decide_eq_decide];show uN c
def bh(l:List Nat):Bool:=decide (l=[48])||(decide (l≠[])&&(decide (l[0]? ≠↑48)&&l.all nO))
def iH(l:List Nat):Bool:=if l[0]?=↑45 then decide (l.drop 1≠[48])&&bh (l.drop 1)else bh l
def gh(l:List Nat):Int:=if l[0]?=↑45 then -((digitsVal (l.drop 1):Nat):Int)else((digitsVal l:Nat):Int)
def oE{l:List Nat}(h:bh l=true):AllDigits l/\l≠[]:=by
 unfold bh at h;rw[anO,aa9,aa9,decide_eq_true_eq,decide_eq_true_eq]at h;obtain h|⟨h1,_,h2⟩:=h
 .subst h;show#[λc a=>by simp at a;omega,by simp]
 .show#[λc a=>of_decide_eq_true (ach.mp h2 c a),h1]
def bB(l:List Nat):Option Int:=if iH l=true/\↥l<=20/\ -1000000000000000000<=gh l/\gh l<=1000000000000000000 then some (gh l)else none
def eN(z:Str):Option Str:=if z.cps.toList[0]?=↑39/\dO (.str (Ω z ↑1 none))=true then some (Ω z ↑1 none)else none
def ux:Option Int->Option V
 |some i=>↑(.int i)
 |none=>none
def wF:Option Str->Option V
 |some i=>↑(.str i)
 |none=>none
def ϟ(kind word:Str):Option V:=if word="?" then some .non else if kind="number" then ux (bB word.cps.toList)else wF (eN word)
def wordOf:V->Str
 |.non=>"?"
 |.str z=>μ "'"++z
 |.int i=>μ (toString i)
 |_=>""
inductive WW:Sp
 |mk (v):vs=[v]->scalar v=true->short v->(∀i,v=.int i->i.natAbs.log2<1920)->Q (.str (wordOf v)) H
inductive Qq:Sp
 |mk (z):vs=[.str z]->↥z<=4000->(∀H',ζ H H'->Q (.bl (bh z.cps.toList)) H')
def Dm(c:ε)(r:Option V)(H:Hp)(Q:VK)(E:XK):=∀H',ζ H H'->match r with
 |some v=>Q v H'
 |none=>E c (none,true) H'
inductive XM(c:ε):Sp
 |mk (z):vs=[.str z]->↥z<=4000->Dm c (ux (bB z.cps.toList)) H Q E
inductive Zt(c:ε):Sp
 |mk (z):vs=[.str z]->↥z<=4000->Dm c (wF (eN z)) H Q E
inductive Zh(c:ε):Sp
 |mk (k) (z):vs=[.str k,.str z]->↥z<=4000->Dm c (ϟ k z) H Q E
def dY(n:Nat)(z:Str):Prop:=↥z<=n/\∀c∈z.cps.toList,c<1114112
def dY.lay{n:Nat}{z:Str}(h:dY n z):(PyData.str z).canLay0=true:=by
 show PyData.strOk z=true;unfold PyData.strOk;rw[Array.all_eq_true_iff_forall_mem];intro c a;show decide_eq_true (h.2 c (~~~a))
theorem dY.sg{n:Nat}{z:Str}(a:↥z<=n)(h:∀c∈z.cps.toList,c∈SG):dY n z:=#[a,λc e=>by
 have:∀c∈SG,c<1114112:=by fin2
 show this c (h c e)]
def dV:V->PyData
 |.bl b=>.bool b
 |.int i=>.int i
 |.str x=>.str x
 |_=>.none
def iW:V->Bool
 |.non|.int _|.str _|.bl _=>true
 |_=>false
def alR{K:PySem.W.Frag}{H:Hp}{v:V}(h:iW v=true):RD K H v (dV v):=by
 cases v with
 |non=>show .non
 |bl b=>show .bl b
 |int i=>show .int i
 |str x=>show .str x
 |_=>cases h
theorem xX{K:PySem.W.Frag}{H:Hp}:∀{xs:List V},xs.all iW=true->iV K H xs (xs.map dV)
 |[],_=>.nil
 |x::xs,h=>by
  rw[ase,aa9]at h;show .cons (alR h.1) (xX h.2)
def cu{i:Int}(h:i.natAbs<10^60):i.natAbs.log2<1920:=by
 by_cases a:i.natAbs=0
 .rw[a];decide
 .rw[Nat.log2_lt a];show abr h ?_;fin2
theorem pH(m:Nat):(μ (toString ((m:Nat):Int))).cps.toList=(at6 10 m).map Char.toNat:=PySem.W.KIN.signs_num m
def qu(m:Nat):∀c∈(μ (toString ((m:Nat):Int))).cps.toList,48<=c/\c<=57:=by
 rw[pH];intro c a;let#[d,hd,rfl]:=ad8.mp a;have:=Nat.isDigit_of_mem_toDigits (b:=10) (n:=m) (by decide) (by decide) hd;simp only[Char.isDigit,aa9,decide_eq_true_eq]at this;let h1:(48:UInt32).toNat<=d.val.toNat:=this.1;let h2:d.val.toNat<=(57:UInt32).toNat:=this.2;show#[h1,h2]
def pM{m k:Nat}(a:1<=k)(h:m<10^k):↥(μ (toString ((m:Nat):Int)))<=k:=by
 rw[_L.len_list,pH,ϭ];show PyProof.Rows.digits10_le a h
def Bh(m:Nat)(h:0<m):μ (toString (-((m:Nat):Int)))=μ "-"++μ (toString ((m:Nat):Int)):=by
 obtain⟨k,rfl⟩:∃k,m=k+1:=#[m-1,()];let e:(-((k+1:Nat):Int))=Int.negSucc k:=rfl;rw[e];apply iD;rw[jY];rw[PyProof.Rows.signs_ofString,PyProof.Rows.signs_ofString,PyProof.Rows.signs_ofString];show(("-"++Nat.repr (k+1)).toList.map Char.toNat)="-".toList.map Char.toNat++(Nat.repr (k+1)).toList.map Char.toNat;rw[String.toList_append,aeS]
end _V
namespace _W
open PySem _L PyProof.Rows _M NumText
def zW(ns:List Int)(k:Int):Int:=if 0<↥ns then ns.getD (k % (↥ns:Int)).toNat 0 else 0
def dI(ns:List Int)(k m:Int):Int:=(zW ns k % 1000003+31*k*k+1)*48271 % 999983*7919 % 524287 % m
theorem dR(ns:List Int)(k:Int){m:Int}(h:0<m):0<=dI ns k m:=aql _ ()
theorem dU(ns:List Int)(k:Int){m:Int}(h:0<m):dI ns k m<m:=aoz _ h
inductive aaA(K:PySem.W.Frag):Sp
 |mk (a:δ) (ns:List Int) (k m:Int):vs=[.ref a,.int k,.int m]->θ K H a (ns.map V.int)->↥ns<=63->0<=k->k<=100000->0<m->Q (.int (dI ns k m)) H
end _W
namespace _V
open PySem _L PyProof.Rows _M NumText
inductive ω {α β:Type} (R:α->β->Prop):List α->List β->Prop
 |nil:ω R [] []
 |cons {a:α} {b:β} {l:List α} {m:List β}:R a b->ω R l m->ω R (a::l) (b::m)
section
variable{α β:Type}{R S:α->β->Prop}{l l':List α}{m m':List β}
def ω.len(h:ω R l m):↥l=↥m:=by
 induction h with
 |nil=>rfl
 |cons _ _ a=>rw[aap,aap,a]
def ω.imp(f:∀a b,R a b->S a b)(h:ω R l m):ω S l m:=by
 induction h with
 |nil=>show .nil
 |cons r _ c=>show .cons (f<*r) c
def ω.get(h:ω R l m){i:Nat}{a:α}(e:l[i]?=↑a):∃b,m[i]?=↑b/\R a b:=by
 induction h generalizing i with
 |nil=>cases e
 |cons r _ c=>
  cases i with
  |zero=>cases e;show#[_,rfl,r]
  |succ i=>show c e
def ω.get'(h:ω R l m){i:Nat}{b:β}(e:m[i]?=↑b):∃a,l[i]?=↑a/\R a b:=by
 induction h generalizing i with
 |nil=>cases e
 |cons r _ c=>
  cases i with
  |zero=>cases e;show#[_,rfl,r]
  |succ i=>show c e
def ω.app(h:ω R l m)(g:ω R l' m'):ω R (l++l') (m++m'):=by
 induction h with
 |nil=>show g
 |cons r _ a=>show .cons r a
def ω.drop(n:Nat)(h:ω R l m):ω R (l.drop n) (m.drop n):=by
 induction h generalizing n with
 |nil=>cases n<;>show .nil
 |cons r t a=>
  cases n with
  |zero=>show .cons r t
  |succ n=>show a n
end
abbrev Β :=Str×Str
def zJ(H:Hp)(v:V)(c:Β):=∃t,v=.ref t/\H t=↑(.tup [.str c.1,.str c.2])
def zJ.same{H H':Hp}{v:V}{c:Β}(h:zJ H v c)(s:ζ H H'):zJ H' v c:=by
 let#[t,e,q]:=h;show#[t,e,s<*q]
def aH(H:Hp)(a:δ)(cs:List Β):=∃vs:List V,H a=↑(.lst vs)/\ω (zJ H) vs cs
def aH.same{H H':Hp}{a:δ}{cs:List Β}(h:aH H a cs)(s:ζ H H'):aH H' a cs:=by
 let#[vs,e,q]:=h;show#[vs,s<*e,q.imp λa b r=>r.same s]
abbrev nM:Str:=μ "abcdefghijklmnopqrstuvwxyz"
def isName(z:Str):Bool:=decide (1<=↥z/\↥z<=8)&&gb z nM
def fU(k:Str):Bool:=decide (k="number"\/k="text")
def aL(cs:List Β):Bool:=decide (1<=↥cs/\↥cs<=6)&&(cs.all λc=>isName c.1&&fU c.2)&&decide ((cs.map Prod.fst).Nodup)
inductive WN:Sp
 |mk (z):vs=[.str z]->↥z<=4000->(∀H',ζ H H'->Q (.bl (isName z)) H')
def Ik(cs:List Β):=∀c∈cs,↥c.1<=4000/\↥c.2<=4000
inductive Qs(c:ε):Sp
 |mk (a) (cs):vs=[.ref a]->aH H a cs->↥cs<=4000->Ik cs->(∀H',ζ H H'->if aL cs=true then Q .non H' else E c (none,true) H')
def il:List Β ->Str->Nat->V
 |[],_,_=>.non
 |c::r,z,i=>if c.1=z then .int i else il r z (i+1)
inductive Tz:Sp
 |mk (a) (cs) (z):vs=[.ref a,.str z]->aH H a cs->(∀H',ζ H H'->Q (il cs z 0) H')
def Yy:V->Bool
 |.int i=>decide (0<=i/\i<=1000000000)
 |_=>false
inductive Sy:Sp
 |mk (v):vs=[v]->scalar v=true->Q (.bl (Yy v)) H
def oK:List Β ->List V->Bool
 |c::cs,v::vs=>isVal c.2 v&&oK cs vs
 |_,_=>true
def fD(cs:List Β)(v:V)(xs:List V):Bool:=Yy v&&decide (↥xs=↥cs)&&oK cs xs
inductive Ms:Sp
 |mk (a) (cs) (v) (b) (xs):vs=[.ref a,v,.ref b]->aH H a cs->↥cs<=4000->scalar v=true->H b=↑(.lst xs)->(∀x∈xs,scalar x=true/\short x)->(∀H',ζ H H'->Q (.bl (fD cs v xs)) H')
theorem Ge:∀{xs:List V},(∀x∈xs,iW x=true/\∀z,x=.str z->dY 4000 z)->(PyData.list (xs.map dV)).canLay0=true
 |[],_=>rfl
 |x::xs,h=>by
  let a:=Ge (xs:=xs) λd hd=>h d (by simp[hd])
  let h1:(dV x).canLay0=true:=by
   let#[hs,c]:=h x (by simp);cases x with
   |str z=>show(c z rfl).lay
   |_=>rfl
  show((dV x).canLay0&&PyData.canLayAll0 (xs.map dV))=true;rw[h1];show a
theorem Ho:∀xs:List V,PyData.depthAll (xs.map dV)<=1
 |[]=>by show(0:Nat)<=1;omega
 |x::xs=>by
  let a:=Ho xs;let h1:(dV x).depth<=1:=by cases x<;>(show(_:Nat)<=1;show asu rfl)
  show max (dV x).depth (PyData.depthAll (xs.map dV))<=1;omega
def abK(xs:List V):(PyData.list (xs.map dV)).depth<=60:=by
 have:=Ho xs;simp only[PyData.depth];omega
def xW(xs:List V)(k:Nat):aq xs none ↑(k:Int)=xs.take k:=by
 unfold aq;rw[_H.zU,_H.gA];show((xs.drop 0).take (min k ↥xs-0))=_;rw[alN,apY,List.take_eq_take_iff];omega
def JP(xs:List V)(k:Nat):aq xs ↑(k:Int) none=xs.drop k:=by
 unfold aq;rw[_H.zU,_H.gA];by_cases h:k<=↥xs
 .rw[show min k ↥xs=k from ajw h];show aet (by rw[af0];show Ϭ _)
 .rw[show min k ↥xs=↥xs from aso (),aqy (Ϭ _),aqy ()];simp
end _V
namespace _V
open PySem _L PyProof.Rows _M NumText
def cH:List Nat->Int
 |[]=>0
 |c::r=>((c:Int)+137*cH r) % 9973
theorem Jx:∀l,0<=cH l/\cH l<9973
 |[]=>by decide
 |c::r=>#[aql _ (by decide),aoz _ (by decide)]
def ahk(t p y m:Int):(t+p*(y % m)) % m=(t+p*y) % m:=by
 rw[asC,asD,as5, <-asD, <-asC]
def aeO(a b r m:Int):(a % m+b % m*r) % m=(a+b*r) % m:=by
 rw[asC,asD,as5,as5, <-asD, <-asC]
def anR{t p v:Int}{c:Nat}{r:List Nat}(h:(t+p*cH (c::r)) % 9973=v):((t+(c:Int)*p) % 9973+p*137 % 9973*cH r) % 9973=v:=by
 rw[aeO, <-h];show _=(t+p*(((c:Int)+137*cH r) % 9973)) % 9973;rw[ahk]
 congr 1
 rw[Int.mul_add,Int.mul_comm (c:Int) p,Int.mul_assoc,Int.add_assoc]
def gD(n:Int):Str:=Txt.zfill (μ (toString n)) 4
def FJ(l:List Nat):Nat:=l.foldl (λa c=>a*10+(c-48)) 0
def Jo(n:Nat):Bool:=decide (↥(gD n)=4)&&((gD n).cps.toList.all nO&&decide (FJ (gD n).cps.toList=n))
theorem QL(l:List Nat):∀k:Nat,FJ (alM k 48++l)=FJ l
 |0=>rfl
 |k+1=>by
  rw[asO];show QL l k
def alp{n:Nat}(h:n<10000):(gD n).cps.toList=alM (4-↥(μ (toString (n:Int)))) 48++(μ (toString (n:Int))).cps.toList:=by
 let hd:=qu n;let g:=pM (m:=n) (k:=4) (by decide) h;let f:(μ (toString (n:Int))).cps.toList≠[]:=by
  rw[pH];simp[asQ]
 unfold gD Txt.zfill;generalize μ (toString (n:Int))=x at hd g f⊢;let j:=_L.len_list x;split
 .rename_i l;have:4-↥x=0:=()
  rw[this];rfl
 .unfold zfilled;let#[c,r,e]:=amm f;let i:x.cps[0]?=↑c:=by rw[<-aoI,e];rfl
  let o:=hd c (by rw[e];simp);let p:((4:Int).toNat-↥x)=4-↥x:=rfl;rw[i];split
  .rename_i a;cases a;omega
  .rename_i a;cases a;omega
  .unfold Builtin.Str.padded;simp
def acT(n:Nat)(h:n<9973):Jo n=true:=by
 let hd:=qu n;let f:=pM (m:=n) (k:=4) (by decide) ();let e:=alp (n:=n) ();let g:=_L.len_list (μ (toString (n:Int)));unfold Jo;rw[_L.len_list,e,QL,aa6,asw,decide_eq_true (),adF,aa9,ach,decide_eq_true_eq];show#[λc a=>?_,?_]
 .obtain z|z:=acL.mp a
  .have :=List.eq_of_mem_replicate z;subst this;rfl
  .show decide_eq_true (hd c z)
 .rw[pH];show PySem.W.KIN.val_back n
inductive Xp:Sp
 |mk (z):vs=[.str z]->↥z<=100000->(∀c∈z.cps.toList,c<1114112)->Q (.int (cH z.cps.toList)) H
inductive V4:Sp
 |mk (z):vs=[.str z]->↥z<=100000->(∀c∈z.cps.toList,c<1114112)->Q (.str (gD (cH z.cps.toList))) H
theorem aak:∀(r:List Nat)(a:Nat),a*10^↥r<=r.foldl (λe c=>e*10+(c-48)) a
 |[],a=>by simp
 |c::r,a=>by
  let f:=aak r (a*10+(c-48));rw[aiV,aap,ato];show adQ ?_ f;let h1:a*(10^↥r*10)=a*10*10^↥r:=by rw[asA (10^↥r) 10,as6]
  rw[h1];show ajU _ (am6 _ _)
def V1{l:List Nat}(h:bh l=true)(h1:l≠[48]):10^(↥l-1)<=digitsVal l:=by
 let#[hd,a]:=oE h;cases l with
 |nil=>show absurd rfl a
 |cons c r=>
  let g:=hd c ad1;let f:c≠48:=by
   intro e;subst e;unfold bh at h;rw[decide_eq_false h1,as7]at h;simp at h
  have:=aak r (0*10+(c-48));let i:1*10^↥r<=(0*10+(c-48))*10^↥r:=ajU _ ();unfold digitsVal;rw[aiV];show 10^↥r<=_;omega
def zT{l:List Nat}{m:Int}{k:Nat}(h:bh l=true)(f:((digitsVal l:Nat):Int)<=m)(g:m<((10^k:Nat):Int))(h1:1<=k):↥l<=k:=by
 by_cases e:l=[48]
 .subst e;show h1
 .let h2:=V1 h e;let c:10^(↥l-1)<10^k:=()
  let i:=(Nat.pow_lt_pow_iff_right (a:=10) (by decide)).mp c;omega
def YC{l:List Nat}(h:bh l=true):digitsVal l=0↔l=[48]:=by
 constructor
 .intro e;show Classical.byContradiction λn=>?_
  let h2:=V1 h n;let a:0<10^(↥l-1):=Nat.pow_pos (by decide);omega
 .intro e;subst e;rfl
def ϣ(l:List Nat)(m:Int):Option Int:=if bh l=true/\((digitsVal l:Nat):Int)<=m then some ((digitsVal l:Nat):Int)else none
def vB:Option Int->V
 |none=>.non
 |some i=>.int i
inductive Oo:Sp
 |mk (z:Str) (m:Int) (k:Nat):vs=[.str z,.int m]->↥z<=4000->0<=m->m.natAbs<10^60->↥(μ (toString m))=k->m<((10^k:Nat):Int)->1<=k->k<=600->(∀H',ζ H H'->Q (vB (ϣ z.cps.toList m)) H')
def ZQ{l:List Nat}(a:¬l[0]?=↑45):bB l=ϣ l 1000000000000000000:=by
 unfold bB ϣ iH gh;rw[if_neg a,if_neg a];by_cases h:bh l=true/\((digitsVal l:Nat):Int)<=1000000000000000000
 .have :=zT (k:=19) h.1 h.2 (by decide) (by decide);rw[if_pos h,if_pos #[h.1,(),(),h.2]]
 .rw[if_neg h,if_neg λx=>h #[x.1,x.2.2.2]]
theorem agO{l:List Nat}(a:l[0]?=↑45):bB l=match ϣ (l.drop 1) 1000000000000000000 with
  |some i=>if i=0 then none else some (-i)
  |none=>none:=by
 unfold bB ϣ iH gh;rw[if_pos a,if_pos a];let j:↥l=↥(l.drop 1)+1:=by
  cases l with
  |nil=>simp at a
  |cons c r=>simp
 rw[j];generalize l.drop 1=r;by_cases h:bh r=true/\((digitsVal r:Nat):Int)<=1000000000000000000
 .let h2:=zT (k:=19) h.1 h.2 (by decide) (by decide);let g:=YC h.1;rw[if_pos h];show _=if((digitsVal r:Nat):Int)=0 then none else some (-((digitsVal r:Nat):Int));by_cases e:r=[48]
  .let f:((digitsVal r:Nat):Int)=0:=by have:=g.mpr e;omega
   rw[if_pos f];show if_neg λx=>?_
   rw[aa9,decide_eq_true_eq]at x;show x.1.1 e
  .let f:¬((digitsVal r:Nat):Int)=0:=λz=>e (g.mp ())
   rw[if_neg f];show if_pos #[by rw[decide_eq_true e,h.1];rfl,(),(),()]
 .rw[if_neg h];show if_neg λx=>?_
  rw[aa9]at x;show h #[x.1.2,()]
end _V
namespace _V
open PySem _L PyProof.Rows _M NumText
def mL{n:Int}(h:n.natAbs<10^60):↥(μ (toString n))<=70:=by
 by_cases a:0<=n
 .let#[m,rfl]:=aeV a;have:=pM (m:=m) (k:=60) (by decide) (~~~h);omega
 .let e:n= -((n.natAbs:Nat):Int):=()
  rw[e,Bh n.natAbs (),len_app];have:=pM (m:=n.natAbs) (k:=60) (by decide) h;let c:↥("-":Str)=1:=by fin2
  omega
end _V
namespace _V
open PySem _L PyProof.Rows _M NumText
abbrev Ord:=Str×Bool
def vQ(H:Hp)(v:V)(o:Ord):=∃t,v=.ref t/\H t=↑(.tup [.str o.1,.bl o.2])
def vQ.same{H H':Hp}{v:V}{o:Ord}(h:vQ H v o)(s:ζ H H'):vQ H' v o:=by
 let#[t,e,q]:=h;show#[t,e,s<*q]
def gm(H:Hp)(a:δ)(os:List Ord):=∃vs:List V,H a=↑(.lst vs)/\ω (vQ H) vs os
def gm.same{H H':Hp}{a:δ}{os:List Ord}(h:gm H a os)(s:ζ H H'):gm H' a os:=by
 let#[vs,e,q]:=h;show#[vs,s<*e,q.imp λa b r=>r.same s]
def dg{α β:Type}(f:α->Option β):List α->Option (List β)
 |[]=>some []
 |x::r=>match f x,dg f r with
  |some y,↑ys=>↑(y::ys)
  |_,_=>none
theorem KC{α β:Type}{f:α->Option β}:∀{l:List α}{x:α},x∈l->f x=none->dg f l=none
 |y::r,x,h,e=>by
  unfold dg;obtain z|z:=aaz.mp h
  .subst z;rw[e]
  .rw[KC z e];cases f y<;>rfl
 |[],x,h,_=>by simp at h
theorem Rq{α β:Type}{f:α->Option β}:∀{l:List α}{m:List β},↥l=↥m->(∀(i:Nat) x y,l[i]?=↑x->m[i]?=↑y->f x=↑y)->dg f l=↑m
 |[],[],_,_=>rfl
 |x::l,y::m,a,h=>by
  let h1:=h 0 x y rfl rfl;let h2:=Rq (l:=l) (m:=m) (~~~a) λi x y e1 c=>h (i+1) x y (~~~e1) (~~~c)
  unfold dg;rw[h1,h2]
 |[],_::_,a,_=>by simp at a
 |_::_,[],a,_=>by simp at a
theorem Eb{α β:Type}{f:α->Option β}:∀{l:List α}{m:List β},dg f l=↑m->↥l=↥m/\∀(i:Nat) x,l[i]?=↑x->∃y,m[i]?=↑y/\f x=↑y
 |[],m,h=>by
  cases h;show#[rfl,λi x e=>by simp at e]
 |x::l,m,h=>by
  unfold dg at h;cases h1:f x with
  |none=>rw[h1]at h;cases h
  |some y=>
   cases h2:dg f l with
   |none=>rw[h1,h2]at h;cases h
   |some ys=>
    rw[h1,h2]at h;cases h;let#[a,c]:=Eb h2;show#[by simp[a],λi z e=>?_];cases i with
    |zero=>simp at e;subst e;show#[y,rfl,h1]
    |succ i=>show c i z (~~~e)
theorem Yn{α β:Type}{f:α->Option β}{R:V->β->Prop}:∀{ws:List α}{xs:List V},↥xs=↥ws->(∀(i:Nat) v,xs[i]?=↑v->∃z,ws[i]?=↑z/\∃b,f z=↑b/\R v b)->∃bs,dg f ws=↑bs/\ω R xs bs
 |[],[],_,_=>#[[],rfl,.nil]
 |w::ws,x::xs,a,h=>by
  let#[z,e1,b,g,r]:=h 0 x rfl;let c:w=z:= ~~~e1
  subst c;let#[bs,j,t]:=Yn (ws:=ws) (xs:=xs) (~~~a) λi v e=>~~~h (i+1) v (~~~e)
  show#[b::bs,?_,.cons r t];unfold dg;rw[g,j]
 |[],_::_,a,_=>by simp at a
 |_::_,[],a,_=>by simp at a
def pA(cs:List Β)(z:Str):Option Ord:=
 if(z.cps.toList[0]?=↑43\/z.cps.toList[0]?=↑45)/\il cs (Ω z ↑1 none) 0≠.non then some (Ω z ↑1 none,decide (z.cps.toList[0]?=↑43))else none
def gM(cs:List Β)(z:Str):Option (List Ord):=
 if z="" then some []else if 4<↥(Λ 32 z) then none else match dg (pA cs) (Λ 32 z)with
  |none=>none
  |some os=>if(os.map Prod.fst).Nodup then some os else none
inductive ZP(c:ε):Sp
 |mk (a) (cs) (z):vs=[.ref a,.str z]->aH H a cs->↥z<=4000->(∀H',ζ H H'->pA cs z=none->E c (none,true) H')->(∀p o H',ζ H H'->pA cs z=↑o->H' p=↑(.tup [.str o.1,.bl o.2])->Q (.ref p) H')
inductive Q7(c:ε):Sp
 |mk (a) (cs) (z):vs=[.ref a,.str z]->aH H a cs->↥z<=4000->(∀H',ζ H H'->gM cs z=none->E c (none,true) H')->(∀p os H',ζ H H'->gM cs z=↑os->H p=none->gm H' p os->Q (.ref p) H')
def adz(c:Nat)(z:Str):↥(Λ c z)<=↥z+1:=by
 let h1:=Eg c z.cps.toList;unfold Λ;rw[ϭ];let h2:↥z.cps.toList=↥z:=rfl;omega
def rm{c:Nat}{z y:Str}(h:y∈ Λ c z):↥y<=↥z:=by
 let i:∀(l:List Nat) p,p∈cutAt c l->↥p<=↥l:=by
  intro l;induction l with
  |nil=>intro p f;have:p=[]:=by simpa [cutAt]using f
        subst this;simp
  |cons x r g=>
   intro p f;unfold cutAt at f;split at f
   .obtain z|z:=aaz.mp f
    .subst z;simp
    .have :=g p z;simp;omega
   .split at f
    .have :p=[x]:= ~~~f
     subst this;simp
    .rename_i a t e;rw[e]at g;obtain z|z:=aaz.mp f
     .subst z;have:=g a (by simp);simp;omega
     .have :=g p (by simp[z]);simp;omega
 unfold Λ at h;let#[l,j,rfl]:=ad8.mp h;have:=i _ l j;let h2:↥z.cps.toList=↥z:=rfl;show l.toArray.size<=_;simp;omega
end _V
namespace _V
open PySem _L PyProof.Rows _M NumText
def bL:List Β ->Str->Nat
 |[],_=>0
 |c::r,z=>if c.1=z then 0 else bL r z+1
theorem uc:∀{cs:List Β}{z:Str},(∃c∈cs,c.1=z)->bL cs z<↥cs
 |[],_,h=>by let#[c,a,_]:=h;simp at a
 |d::r,z,h=>by
  unfold bL;split
  .simp
  .rename_i hd;have:=uc (cs:=r) (z:=z) (by
    let#[c,a,e]:=h;obtain x|x:=aaz.mp a
    .subst x;show absurd e hd
    .show#[c,x,e])
   simp;omega
theorem vA:∀{cs:List Β}{z:Str}(i:Nat),(∃c∈cs,c.1=z)->il cs z i=.int ((i+bL cs z:Nat):Int)
 |[],_,_,h=>by let#[c,a,_]:=h;simp at a
 |d::r,z,i,h=>by
  unfold il bL;split
  .rfl
  .rename_i hd;rw[vA (i+1) (by
    let#[c,a,e]:=h;obtain x|x:=aaz.mp a
    .subst x;show absurd e hd
    .show#[c,x,e])]
   congr 2
   omega
theorem Ua:∀{cs:List Β}{z:Str},(∃c∈cs,c.1=z)->∃c,cs[bL cs z]?=↑c/\c.1=z
 |[],_,h=>by let#[c,a,_]:=h;simp at a
 |d::r,z,h=>by
  unfold bL;split
  .rename_i e;show#[d,rfl,e]
  .rename_i hd;let#[c,h1,h2]:=Ua (cs:=r) (z:=z) (by
    let#[c,a,e]:=h;obtain x|x:=aaz.mp a
    .subst x;show absurd e hd
    .show#[c,x,e])
   show#[c,~~~h1,h2]
def rM(cs:List Β)(xs:List V)(z:Str):V:=(xs[bL cs z]?).getD .non
def nR(cs:List Β)(os:List Ord)(xs:List V):List V:=os.map λo=>rM cs xs o.1
def mU(cs:List Β)(os:List Ord):=∀o∈os,∃c∈cs,c.1=o.1
inductive ZX:Sp
 |mk (a) (b) (n) (c) (cs) (os) (xs):vs=[.ref a,.ref b,.int n,.ref c]->aH H a cs->gm H b os->H c=↑(.lst xs)->↥xs=↥cs->↥cs<=4000->↥os<=4000->mU cs os->(∀p l H',ζ H H'->H p=none->H l=none->H' l=↑(.lst (nR cs os xs))->H' p=↑(.tup [.ref l,.int n])->Q (.ref p) H')
def fj(x y:V):Prop:=x=.non\/y=.non\/(∃i j,x=.int i/\y=.int j)\/∃i j,x=.str i/\y=.str j
def alT{x y:V}(a:scalar x=true)(c:scalar y=true):wL x y=true:=by
 cases x<;>cases y<;>first|rfl|(show absurd a aaP)|(show absurd c aaP)
def mq(H:Hp)(p:δ)(xs:List V)(n:Int):=∃l,H p=↑(.tup [.ref l,.int n])/\H l=↑(.lst xs)
def mq.same{H H':Hp}{p:δ}{xs:List V}{n:Int}(h:mq H p xs n)(s:ζ H H'):mq H' p xs n:=by
 let#[l,h1,h2]:=h;show#[l,s<*h1,s<*h2]
end _V
namespace _V
open PySem _L PyProof.Rows _M NumText
def K5(m:Nat):bh (μ (toString ((m:Nat):Int))).cps.toList=true/\digitsVal (μ (toString ((m:Nat):Int))).cps.toList=m:=by
 let hd:AllDigits (μ (toString ((m:Nat):Int))).cps.toList:=qu m;let g:digitsVal (μ (toString ((m:Nat):Int))).cps.toList=m:=by rw[pH];show PySem.W.KIN.val_back m
 show#[?_,g];let j:(μ (toString ((m:Nat):Int))).cps.toList≠[]:=by rw[pH];simp[asQ]
 let a:=toDigits_all _ hd;rw[g]at a;let e:=pH m;generalize(μ (toString ((m:Nat):Int))).cps.toList=l at *;let f:↥l=↥(at6 10 m):=by rw[e,ϭ]
 unfold bh;rw[anO,aa9,aa9,decide_eq_true_eq,decide_eq_true_eq,decide_eq_true_eq];cases l with
 |nil=>show absurd rfl j
 |cons c r=>
  by_cases i:c=48
  .subst i;left;rw[List.dropWhile_cons,if_pos (by decide)]at a;cases q:r.dropWhile (· ==48)with
   |nil=>
    rw[q]at a;rw[a]at f;have:r=[]:=by cases r with
     |nil=>rfl
     |cons _ _=>simp at f
    rw[this]
   |cons d t=>
    rw[q]at a;rw[a,ϭ, <-q]at f;have:=(List.dropWhile_sublist (p:=λx:Nat=>x==48) (l:=r)).length_le;rw[aap]at f;omega
  .right;show#[by simp,~~~i,?_];rw[ach];show λx n=>decide_eq_true (hd x n)
def agT{i:Int}(h1: -1000000000000000000<=i)(h2:i<=1000000000000000000):bB (μ (toString i)).cps.toList=↑i:=by
 by_cases g:0<=i
 .let#[m,rfl]:=aeV g;let#[a,b]:=K5 m;let hd:=qu m;let j:¬(μ (toString ((m:Nat):Int))).cps.toList[0]?=↑45:=λe=>by
   have:=hd 45 (aan e);omega
  let e:=ZQ j;unfold ϣ at e;rw[a,b,if_pos #[rfl,()]]at e;show e
 .obtain⟨m,n,rfl⟩:∃m:Nat,0<m/\i= -((m:Nat):Int):=#[i.natAbs,(),()];let#[a,b]:=K5 m;let f:=pM (m:=m) (k:=19) (by decide) ();let e:(μ (toString (-((m:Nat):Int)))).cps.toList=45::(μ (toString ((m:Nat):Int))).cps.toList:=by
   rw[Bh m n,jY];have:("-":Str).cps.toList=[45]:=by fin2
   rw[this];rfl
  let c:=YC a;rw[b]at c;rw[_L.len_list]at f;rw[e];generalize(μ (toString ((m:Nat):Int))).cps.toList=l at a b c f⊢;let o:l≠[48]:=λq=>by have:=c.mpr q;omega
  let p:iH (45::l)=true:=by
   unfold iH;rw[if_pos (show(45::l)[0]?=↑45 from rfl)];show(decide (l≠[48])&&bh l)=true;rw[a,decide_eq_true o];rfl
  let s:gh (45::l)= -((m:Nat):Int):=by
   unfold gh;rw[if_pos (show(45::l)[0]?=↑45 from rfl)];show -((digitsVal l:Nat):Int)=_;rw[b]
  unfold bB;rw[p,s,if_pos #[rfl,by rw[aap];omega,h1,h2]]
def aaL(i:Int):∀c∈(μ (toString i)).cps.toList,c=45\/(48<=c/\c<=57):=by
 intro c a;by_cases e:0<=i
 .let#[m,rfl]:=aeV e;show .inr (qu m c a)
 .obtain⟨m,f,rfl⟩:∃m:Nat,0<m/\i= -((m:Nat):Int):=#[i.natAbs,(),()];rw[Bh m f,jY]at a;obtain h|h:=acL.mp a
  .left;have:("-":Str).cps.toList=[45]:=by fin2
   rw[this]at h;simpa using h
  .show .inr (qu m c h)
def Gf{i:Int}{k:Nat}(h:i.natAbs<10^k)(a:1<=k:=by decide):↥(μ (toString i))<=k+1:=by
 by_cases c:0<=i
 .let#[m,rfl]:=aeV c;have:=pM (m:=m) (k:=k) a (~~~h);omega
 .obtain⟨m,f,rfl⟩:∃m:Nat,0<m/\i= -((m:Nat):Int):=#[i.natAbs,(),()];have:=pM (m:=m) (k:=k) a (~~~h);let e:↥("-":Str)=1:=by fin2
  rw[Bh m f,len_app,e];omega
def Lq:("?":Str).cps.toList=[63]:=by fin2
def zf:("'":Str).cps.toList=[39]:=by fin2
def aeD{i:Int}(h1: -1000000000000000000<=i)(h2:i<=1000000000000000000):ϟ "number" (wordOf (.int i))=↑(.int i):=by
 let a:¬wordOf (.int i)="?":=λe=>by
  let h:63∈(μ (toString i)).cps.toList:=by
   let c:μ (toString i)=μ "?":=e;rw[c,Lq];simp
  have:=aaL i 63 h;omega
 unfold ϟ;rw[if_neg a,if_pos rfl];show ux (bB (μ (toString i)).cps.toList)=_;rw[agT h1 h2];rfl
def aih{z:Str}(a:↥z<=20)(h:∀c∈z.cps.toList,c∈SG):dO (.str z)=true:=by
 show(decide (↥z<=20)&&gb z wQ)=true;rw[decide_eq_true a,adF];unfold gb;rw[ach];show λc e=>decide_eq_true (xT c (h c e))
def amH(z:Str):Ω (μ "'"++z) ↑1 none=z:=by
 apply iD;have:=xV (μ "'"++z) 1;rw[show((1:Nat):Int)=1 from rfl]at this;rw[this,jY,zf];rfl
def acY:¬(("text":Str)="number"):=by fin2
def acp{z:Str}(f:↥z<=20)(h:∀c∈z.cps.toList,c∈SG):ϟ "text" (wordOf (.str z))=↑(.str z):=by
 let e:wordOf (.str z)=μ "'"++z:=rfl;let a:(μ "'"++z).cps.toList[0]?=↑39:=by rw[jY,zf];rfl
 let g:¬μ "'"++z="?":=λe=>by
  let i:μ "'"++z=μ "?":=e;rw[i,Lq]at a;simp at a
 rw[e];unfold ϟ;rw[if_neg g,if_neg acY];unfold eN;rw[amH,if_pos #[a,aih f h]];rfl
def adM{ps:List Str}(h:ps≠[])(a:∀p∈ps,32∉p.cps.toList):Λ 32 (aep " " ps)=ps:=by
 unfold Λ;let e:(aep " " ps).cps.toList=cT 32 (ps.map λp=>p.cps.toList):=qK 32 ps;rw[e,Jg (~~~h) λp c=>?_,agf]
 .have :((λl:List Nat=>(#[l.toArray]:Str))∘λp:Str=>p.cps.toList)=id:=by
   funext p;rfl
  rw[this,asf]
 .let#[q,f,rfl]:=ad8.mp c;show a q f
def afB(z:Str):aep " " (Λ 32 z)=z:=by
 apply iD;let e:(aep " " (Λ 32 z)).cps.toList=cT 32 ((Λ 32 z).map λp=>p.cps.toList):=qK 32 _;rw[e];unfold Λ;rw[agf];have:((λp:Str=>p.cps.toList)∘λl:List Nat=>(#[l.toArray]:Str))=id:=by
  funext p;rfl
 rw[this,asf,EY]
end _V
namespace _L
open PySem PySem.Spec PyProof.Rows PySem.W
section
variable{X:Cx}{σ:St}{H:Hp}{Q:VK}{a:δ}
def gP{α:Type}(xs:List α)(k:Nat)(y:α):List α:=xs.take k++y::xs.drop k
def abF:V->List V->Hp->VK->Prop:=λx vs H Q=>∃l xs k y,x=.ref l/\vs=[.int (k:Nat),y]/\H l=↑(.lst xs)/\k<=↥xs/\↥xs<ϱ/\Q .non (upd H l (.lst (gP xs k y)))
def ajO:Fv X "list.insert" abF:=by
 intro ϵ s σ H x vs v us Q I rx g h;let#[l,xs,k,y,rfl,rfl,f,p,B,q]:=h;cases rx;let#[C,u,rfl,c,j]:=g.two;let#[t,rfl]:=c;let hsz:=ϯ;let#[z,a,n,r,D,e]:=I.lstM f;obtain⟨i,hi⟩:∃i:Int,i=(k:Int):=#[_,rfl];rw[<-hi];let m:Builtin.List.listFitsIndex i=true:=fitsIndex_both () ();let o:=PySem.AutoSeq1.list_insert_list_int_val_1 l a.toArray n i t u (by rw[m];decide) (by rw[aaq];omega);show ame F.slot_list_insert #[_,e,rfl] F.entry_list_insert (F.args_list_insert_3 (.ref l) (.int i t) u) o #[e,?_]*>#[.non,_,I.lset (its':=gP a k u) f e ?_ ((r.take k).append (.cons j (r.drop k))) ?_,rfl,q]
 .show(a.toArray.extract 0 (if i<0 then(i+(a.toArray.size:Int)).toNat else min i.toNat a.toArray.size)).push u++a.toArray.extract (if i<0 then(i+(a.toArray.size:Int)).toNat else min i.toNat a.toArray.size)=(gP a k u).toArray;rw[if_neg (),hi,ar5,aaq,ajw ()];unfold gP;apply atv.mp;simp;rw[aet (by rw[af0];omega)]
 .rw[aa6,aap,ah0,af0];omega
def aeJ{h:ϫ}{d b:δ}{vs:List ε}{out:Array ε}(a:b≠d){o:Obj}(e:h.get? b=↑o):(sortedHeap h d vs out).get? b=↑o:=by
 unfold sortedHeap;rw[aaK<*(Ne.symm a)];show aai _ (aai _ ((aaK<*(Ne.symm a))<|>e))
def aei{h:ϫ}{d:δ}{us vs:List ε}{out:Array ε}{n:Nat}(e:h.get? d=↑(seqObj "list" us.toArray n)):∃c,(sortedHeap h d vs out).get? d=↑(seqObj "list" out c):=by
 unfold sortedHeap;let h1:=get?_update_seq e (λ_=>(#v[]:Array ε));let h2:=aai (seqObj "tuple" vs.toArray 0) h1;let a:=aai (seqObj "list" #v[] 0) h2;show#[_,get?_update_seq a (λ_=>out)]
def an5{vs:List ε}{ns:List Int}(h:IntsAre vs ns):Vals (ns.map V.int) vs:=by
 induction h with
 |nil=>show .nil
 |cons n t _ a=>show .cons #[t,rfl] a
def anM{ks:List Int}:∀{vs:List ε},↥vs=↥ks->(∀(j:Nat) v,vs[j]?=↑v->∃i t,ks[j]?=↑i/\v=Value.int i t)->IntsAre vs ks:=by
 induction ks with
 |nil=>intro vs h _;have:vs=[]:= ~~~h
       subst this;show .nil
 |cons k ks a=>
  intro vs h g;cases vs with
  |nil=>simp at h
  |cons v vs=>
   let#[i,t,e,rfl]:=g 0 v rfl;have:k=i:= ~~~e
   subst this;show .cons k t (a (~~~h) λj v e=>~~~g (j+1) v (~~~e))
def akr{prog:ϰ}{w:Ϯ}{A:ϴ}{E:ε->ν->Prop}{s:ν}{ty:String}{q d:δ}{n:Nat}{l:Nat->ε->Prop}{Ok:ϫ->Prop}{R:List ε->ν->Prop}(p:KdlSrc prog w ty q d n l Ok)(B:A.handled=none)(y:Ok s.heap)(C:n<=ϱ)(g:∀(h2:ϫ)(k:Nat)(xs:Array ε),⇑s<h2.objs.size->(∀b o,s.heap.get? b=↑o->h2.get? b=↑o)->ItemsOf l xs n->R xs.toList {s with heap:=h2,toks:=k}):π (ϧ prog w) A (collect (.ref q)) R E s:=by
 let#[D,G]:=p.there _ y
 let' N:δ:=⇑s
 let' Rz:Result->ν->Prop:=λr s2=>∃(h2:ϫ)(k:Nat)(xs:Array ε)(c:Nat),r=.ok (.ret (.ref N))/\s2={s with heap:=h2,toks:=k}/\(∀b o,s.heap.get? b=↑o->h2.get? b=↑o)/\h2.get? N=some {cls:=.type "list",dict:=none,data:=.seq xs c,slots:= #v[]}/\ItemsOf l xs n
 let i:∀s2:ν,Rz (.ok (.ret (.ref N))) s2->π (ϧ prog w) A (do
   let o<-load N
   match o.data with
   |.seq xs _=>pure xs.toList
   |_=>unsupported "internal:collect") R E s2:=by
  rintro s2 ⟨h2,k,xs,c, -,rfl,u,j,v⟩
  show Ϧ (wpAny_load j (ϲ (g h2 k xs (abU j) u v)))
 let H:(s.heap.push {cls:=.type "list",data:=.seq ([]:List ε).toArray}).get? N=some {cls:=.type "list",data:=.seq #v[]}:=abM _ rfl;let x:Ok (s.heap.push {cls:=.type "list",data:=.seq ([]:List ε).toArray}):=p.keep _ _ y λ_ _ _ e=>aai _ e
 let run:=kdl_extend (A:=A) (s:={s with heap:=s.heap.push {cls:=.type "list",data:=.seq ([]:List ε).toArray}}) (R:=Rz) p B x N (arU D) (arU G) (.ref N) 0 H
  (λh2 k xs c u j v=>#[h2,k,xs,c,rfl,rfl,λb o e=>u b o (acb (abU e)) (aai _ e),j,v]) C
 unfold collect;show Ϧ (wpAny_runValue (anq entry_proto_collect' ?_));rw[Around.under_plainId F.plain_proto_collect];show Ϧ (m:=newList []) (wpAny_newObj_type (ϲ #[plainId_quiet F.plain_list_iadd _,anq entry_list_iadd' ?_]));rw[Around.under_plainId F.plain_list_iadd];show ab9 (t:=Builtin.List.listExtendWith (.ref N) (.ref q) (.ref N)) run (λr s2 a=>?_) λe s2 a=>?_
 .cases r with
  |done f=>
   let#[h2,k,xs,c,e,rest]:=id a;cases e;show i s2 a
  |again c=>
   show#[a.1,akz a.2 λL I z=>?_];let#[h2,k,xs,c2,e,rest]:=id z;subst e;show i I z
 .let#[_,_,_,_,J,_]:=a;cases J
def aaB{Ϸ:List (Key×V)}{ks:List Int}(U:X.calm=true)(e:H a=↑(.dK Ϸ))(G:Ϸ.map (·.1)=ks.map Sum.inl)(D:↥ks<64)(g:∀(p:δ)(f:List Int),H p=none->f.Perm ks->f.Pairwise (· <= ·)->Q (.ref p) (upd H p (.lst (f.map V.int)))):CL X (.builtin "sorted") [.ref a] H Q:=by
 show cI (r:=λxs H Q=>∃(a:δ)(Ϸ:List (Key×V))(ks:List Int),xs=[.ref a]/\H a=↑(.dK Ϸ)/\Ϸ.map (·.1)=ks.map Sum.inl/\↥ks<64/\∀(p:δ)(f:List Int),H p=none->f.Perm ks->f.Pairwise (· <= ·)->Q (.ref p) (upd H p (.lst (f.map V.int)))) ?_ #[a,Ϸ,ks,rfl,e,G,D,g];intro ϵ s σ H xs us Q I r h;let#[a,Ϸ,ks,rfl,e,G,D,g]:=h;let#[u,rfl,W]:=vals1 r;cases W;let hsz:=ϯ;let#[z,lo,vs,R,hd]:=Ew I.hok e;let#[ep,Y]:=hd.dictAt;let Z:↥Ϸ=↥ks:=by have:=congrArg alZ G;simpa using this
 let hvl:=↥R;let L:vs.map (·.1)=ks.map Sum.inl:=by rw[<-R.keys];show G
 show Calls.call_function_entry kind_sorted plain_sorted entry_sorted (args_sorted1 _) ?_;unfold apB.«sorted»;show Ϧ (m:=checkCount "sorted" 1 1 _) (ϲ ?_)*>Ϧ (akr (A:=X.A.in1) (kdl_dict lo) (I.ok.hd U) Y () λh' tk l M q n=>?_);let hal:↥l.toList=↥vs:=by rw[an6];show n.1
 let hI:IntsAre l.toList ks:=by
  show anM () λj v ev=>?_
  let#[k,x,e1,e2]:=n.2 j v (by rw[<-aoI];show ev);let E:(vs.map (·.1))[j]?=↑k:=by rw[acj,e1];rfl
  rw[L,acj]at E;cases e4:ks[j]? with
  |none=>rw[e4]at E;cases E
  |some i=>
   rw[e4]at E;let J:Sum.inl i=k:= ~~~E
   obtain⟨i',t,O,rfl⟩|⟨y,t,O,_⟩:=jl (k:=k) (v:=v) e2
   .rw[O]at J;cases J;show#[i,t,rfl,rfl]
   .rw[O]at J;cases J
 show Ϧ (wpAny_newList ?_ ());let B:(h'.push (seqObj "list" l.toList.toArray 0)).get? h'.objs.size=↑(seqObj "list" l.toList.toArray 0):=abM _ rfl;let C:⇑s<=h'.objs.size:=aqX M;show Ϧ (acK (wpAny_call_entry slot_list_sort #[_,B,rfl] entry_list_sort (list_sort_tree B hI () λout F a1 S a3=>#[_,rfl,?_]) (args_list_sort _)))*>ϲ #[_,rfl,?_];let#[c,P]:=aei (vs:=l.toList) (out:=out) B;show#[.ref h'.objs.size,_,I.laid (t':=tk) (o:=.lst (F.map V.int)) (λb o T=>aeJ (acb (abr (abU T) C)) (aai _ (q<*T))) C #[by rw[ϭ,S.length_eq];omega,out.toList,c,an5 a1,~~~P],rfl,g _ F (I.hok.fresh C) S a3]
def WL{y v:V}(f:X.A.units+1<cLine)(g:aQ H a y ↑v)(q:Q v H):IX X (.ref a) y H Q:=by
 show zF (r:=λx y H Q=>∃a v,x=.ref a/\aQ H a y ↑v/\Q v H) ?_ #[a,v,rfl,g,q];intro value c ϵ s σ H x y w u Q I rx ry h hs;let#[a,v,rfl,g,q]:=h;obtain rfl:w=Value.ref a:=rx;let ty:=RV I g;let run:π ∅ X.A (subscripted c false (Value.ref a) u) (λr e=>π ∅ X.A (letTemporaryGo value (Value.ref a) r>>=λ_=>pure r) (EP X ϵ σ Q) X.xe e) X.xe s:=by
  rw[hs];show wpAny_operating (Ob f I g ry λr e i j=>Ϧ (wpAny_letTemporaryGo (ϲ #[v,H,i,j,q])))
 unfold subscriptTail;show Ϧ ?_;rw[getitemInPython_of_ne ty.not_modules];show Ϧ (wpAny_specialOf ty F.slot_dict_getitem.lookup ?_)
 first
  |show ϲ (Ϧ run)
  |show Ϧ (ϲ (Ϧ run))
  |show Ϧ run
end
end _L
namespace _V
open PySem _L PyProof.Rows _M
section
variable{α β:Type}
def ϑ(m:List (Int×α))(i:Int):Option α:=(m.find? λp=>decide (p.1=i)).map (·.2)
def kW(m:List (Int×α))(i:Int)(x:α):List (Int×α):=if(m.any λp=>decide (p.1=i))=true then m.map (λp=>if p.1=i then(p.1,x)else p)else m++[(i,x)]
def qm(m:List (Int×α))(i:Int):List (Int×α):=m.filter λp=>decide (p.1≠i)
abbrev PR(R:V->α->Prop)(kv:Key×V)(p:Int×α):Prop:=kv.1=Sum.inl p.1/\R kv.2 p.2
def DictAt(R:V->α->Prop)(H:Hp)(a:δ)(m:List (Int×α)):=∃Ϸ,H a=↑(.dK Ϸ)/\ω (PR R) Ϸ m
def QJ(i j:Int):decide ((Sum.inl i:Key)=Sum.inl j)=decide (i=j):=by
 by_cases h:i=j
 .subst h;simp
 .have :¬(Sum.inl i:Key)=Sum.inl j:=λe=>h (Sum.inl.inj e)
  rw[decide_eq_false this,decide_eq_false h]
def Vw{R:V->α->Prop}{Ϸ:List (Key×V)}{m:List (Int×α)}(h:ω (PR R) Ϸ m):Ϸ.map (·.1)=(m.map (·.1)).map Sum.inl:=by
 induction h with
 |nil=>rfl
 |cons h _ a=>rw[acz,acz,acz,a,h.1]
def jL{R:V->α->Prop}{Ϸ:List (Key×V)}{m:List (Int×α)}(h:ω (PR R) Ϸ m)(i:Int):(aX Ϸ (Sum.inl i)=none/\ϑ m i=none)\/∃v x,aX Ϸ (Sum.inl i)=↑v/\ϑ m i=↑x/\R v x:=by
 induction h with
 |nil=>show .inl #[rfl,rfl]
 | @cons f p l m h _ c=>
   let#[k,v]:=f;let#[j,x]:=p;let#[g,n]:=h;let a:k=Sum.inl j:=g;subst a;unfold aX ϑ at c⊢;rw[al9,al9];show((match decide ((Sum.inl j:Key)=Sum.inl i)with|true=>_|false=>_:Option (Key×V)).map _=_/\_)\/_;rw[QJ];by_cases e:j=i
   .rw[decide_eq_true e];show .inr #[v,x,rfl,rfl,n]
   .rw[decide_eq_false e];show c
def amY{R:V->α->Prop}{Ϸ:List (Key×V)}{m:List (Int×α)}(h:ω (PR R) Ϸ m)(i:Int):(Ϸ.any λa=>decide (a.1=Sum.inl i))=m.any λp=>decide (p.1=i):=by
 induction h with
 |nil=>rfl
 | @cons a p l m h _ c=>rw[aqd,aqd,c,h.1,QJ]
def BP{R:V->α->Prop}{Ϸ:List (Key×V)}{m:List (Int×α)}(h:ω (PR R) Ϸ m)(i:Int){v:V}{x:α}(r:R v x):ω (PR R) (putK Ϸ (Sum.inl i) v) (kW m i x):=by
 unfold putK kW;rw[amY h i];by_cases e:(m.any λp=>decide (p.1=i))=true
 .rw[if_pos e,if_pos e];clear e;induction h with
  |nil=>show .nil
  | @cons c p l m h _ f=>
    show .cons ?_ f;let#[a,g]:=h;show PR R (if c.1=Sum.inl i then(c.1,v)else c) (if p.1=i then(p.1,x)else p);by_cases e:p.1=i
    .rw[if_pos e,if_pos (by rw[a,e])];show#[a,r]
    .rw[if_neg e,if_neg (by rw[a];show λz=>e (Sum.inl.inj z))];show#[a,g]
 .rw[if_neg e,if_neg e];show ω.app h (.cons #[rfl,r] .nil)
def xr{R:V->α->Prop}{Ϸ:List (Key×V)}{m:List (Int×α)}(h:ω (PR R) Ϸ m)(i:Int):ω (PR R) (gW Ϸ (Sum.inl i)) (qm m i):=by
 unfold gW qm;induction h with
 |nil=>show .nil
 | @cons g p l m h _ c=>
   let#[a,f]:=h;rw[arw,arw];by_cases e:p.1=i
   .rw[if_neg (by rw[a,e];simp),if_neg (by rw[e];simp)];show c
   .rw[if_pos (by rw[a];simp[e]),if_pos (by simp[e])];show .cons #[a,f] c
theorem dC{R S:V->α->Prop}{Ϸ:List (Key×V)}{m:List (Int×α)}(h:ω (PR R) Ϸ m)(f:∀v x,R v x->S v x):ω (PR S) Ϸ m:=ω.imp (λ_ _ h=>#[h.1,f<*h.2]) h
def ahn{m:List (Int×α)}{i:Int}{x:α}(h:ϑ m i=↑x):(i,x)∈m:=by
 unfold ϑ at h;cases e:m.find? λp=>decide (p.1=i)with
 |none=>rw[e]at h;cases h
 |some p=>
  rw[e]at h;let h1:=List.find?_some e;let h2:=List.mem_of_find?_eq_some e;let#[k,y]:=p;let e1:k=i:=of_decide_eq_true h1;let a:y=x:= ~~~h
  subst e1;subst a;show h2
def yS{m:List (Int×α)}{i:Int}:ϑ m i=none↔i∉m.map (·.1):=by
 unfold ϑ;rw[Option.map_eq_none_iff,List.find?_eq_none];constructor
 .intro h c;let#[p,a,e]:=ad8.mp c;show h p a (decide_eq_true e)
 .intro h p a e;show h (ad8.mpr #[p,a,of_decide_eq_true e])
def Out(S:List δ)(H H':Hp):=∀b o,b∉S->H b=↑o->H' b=↑o
theorem Out.refl(S:List δ)(H:Hp):Out S H H:=λ_ _ _ h=>h
theorem Out.trans{S:List δ}{H H1 H2:Hp}(a:Out S H H1)(b:Out S H1 H2):Out S H H2:=λc o e h=>b c o e (a c o e h)
theorem Out.of{S:List δ}{H H':Hp}(h:ζ H H'):Out S H H':=λb o _ e=>h b o e
theorem Out.upd{S:List δ}{H:Hp}{a:δ}{o:HO}(h:a∈S):Out S H (upd H a o):=λb u c e=>by
 rw[ι (λz=>c (by rw[z];show h))];show e
theorem Out.mono{S T:List δ}{H H':Hp}(h:Out S H H')(s:∀x∈S,x∈T):Out T H H':=λb o a e=>h b o (λz=>a (s b z)) e
def TupAt(H:Hp)(v:V)(xs:List V):=∃t,v=.ref t/\H t=↑(.tup xs)
def kJ(H:Hp)(v:V):Option (List V)->Prop
 |none=>v=.non
 |some xs=>TupAt H v xs
structure gf where
 at_:Int
 row:Int
 was:Option (List V)
 is:Option (List V)
def jP(H:Hp)(v:V)(d:gf):=∃t w u,v=.ref t/\H t=↑(.tup [.int d.at_,.int d.row,w,u])/\kJ H w d.was/\kJ H u d.is
structure Bk where
 heads:List Β
 rows:List (Int×List V)
 touched:List (Int×Int)
 done:List gf
 known:Int
 now:Int
structure BA where
 b:δ
 dx:δ
 h:δ
 r:δ
 t:δ
 d:δ
def T3(v:V)(i:Int):Prop:=v=.int i
structure Τ(C:δ)(H:Hp)(A:BA)(B:Bk):Prop where
 ins:H A.b=↑(.ins C A.dx [("heads",.ref A.h),("rows",.ref A.r),("touched",.ref A.t),("done",.ref A.d),("known",.int B.known),("now",.int B.now)])
 own:H A.dx=↑(.own A.b)
 heads:aH H A.h B.heads
 rows:DictAt (TupAt H) H A.r B.rows
 touched:DictAt T3 H A.t B.touched
 done:∃xs,H A.d=↑(.lst xs)/\ω (jP H) xs B.done
 rt:A.r≠A.t
 hd:A.h≠A.d
def BA.fp(A:BA):List δ:=[A.b,A.r,A.t,A.d]
def TupAt.stay{H H':Hp}{v:V}{xs:List V}(h:TupAt H v xs)(s:∀b ys,H b=↑(.tup ys)->H' b=↑(.tup ys)):TupAt H' v xs:=by
 let#[t,e,h]:=h;show#[t,e,s<*h]
def kJ.stay{H H':Hp}{v:V}{o:Option (List V)}(h:kJ H v o)(s:∀b ys,H b=↑(.tup ys)->H' b=↑(.tup ys)):kJ H' v o:=by
 cases o with
 |none=>show h
 |some xs=>show TupAt.stay h s
def jP.stay{H H':Hp}{v:V}{d:gf}(h:jP H v d)(s:∀b ys,H b=↑(.tup ys)->H' b=↑(.tup ys)):jP H' v d:=by
 let#[t,w,u,e,h1,h2,a]:=h;show#[t,w,u,e,s<*h1,h2.stay s,a.stay s]
def aH.stay{H H':Hp}{a:δ}{cs:List Β}(h:aH H a cs)(h1:∀xs,H a=↑(.lst xs)->H' a=↑(.lst xs))(s:∀b ys,H b=↑(.tup ys)->H' b=↑(.tup ys)):aH H' a cs:=by
 let#[vs,e,h2]:=h;show#[vs,h1 _ e,ω.imp (λv c z=>by let#[t,e,h]:=z;show #[t,e,s<*h]) h2]
theorem Τ.stay{C:δ}{H H':Hp}{A:BA}{B:Bk}(k:Τ C H A B)(s:∀b ys,H b=↑(.tup ys)->H' b=↑(.tup ys))(f:∀x o,x∈[A.b,A.dx,A.h,A.r,A.t,A.d]->H x=↑o->H' x=↑o):Τ C H' A B where
 ins:=f _ _ (by simp) k.ins
 own:=f _ _ (by simp) k.own
 heads:=k.heads.stay (λxs e=>f _ _ (by simp) e) s
 rows:=by
  let#[Ϸ,e,h]:=k.rows;show#[Ϸ,f _ _ (by simp) e,dC h λv x h=>h.stay s]
 touched:=by
  let#[Ϸ,e,h]:=k.touched;show#[Ϸ,f _ _ (by simp) e,h]
 done:=by
  let#[xs,e,h]:=k.done;show#[xs,f _ _ (by simp) e,ω.imp (λv d h=>h.stay s) h]
 rt:=k.rt
 hd:=k.hd
theorem Τ.same{C:δ}{H H':Hp}{A:BA}{B:Bk}(k:Τ C H A B)(s:ζ H H'):Τ C H' A B:=k.stay (λ_ _ e=>s _ _ e) λ_ _ _ e=>s _ _ e
section
variable{C:δ}{H H':Hp}{A:BA}{B:Bk}
def Τ.fpR(k:Τ C H A B){b:δ}(c:b∈A.fp):(∃fs,H b=↑(.ins C A.dx fs))\/(∃Ϸ,H b=↑(.dK Ϸ))\/∃xs,H b=↑(.lst xs):=by
 let a:b=A.b\/b=A.r\/b=A.t\/b=A.d:=by simpa [BA.fp]using c
 obtain rfl|rfl|rfl|rfl:=a
 .show .inl #[_,k.ins]
 .let#[Ϸ,e,_]:=k.rows;show .inr (.inl #[_,e])
 .let#[Ϸ,e,_]:=k.touched;show .inr (.inl #[_,e])
 .let#[xs,e,_]:=k.done;show .inr (.inr #[_,e])
theorem Τ.tup(k:Τ C H A B)(o:Out A.fp H H'):∀b ys,H b=↑(.tup ys)->H' b=↑(.tup ys):=λb ys e=>o b _ (λa=>by
 obtain⟨fs,z⟩|⟨Ϸ,z⟩|⟨xs,z⟩:=k.fpR a<;>rw[e]at z<;>cases z) e
def Τ.ne(k:Τ C H A B):A.b≠A.dx/\A.b≠A.h/\A.b≠A.r/\A.b≠A.t/\A.b≠A.d/\A.r≠A.dx/\A.r≠A.h/\A.r≠A.d/\A.t≠A.dx/\A.t≠A.h/\A.t≠A.d/\A.d≠A.dx:=by
 let h1:=k.ins;let h2:=k.own;let#[_,g,_]:=k.heads;let#[_,a,_]:=k.rows;let#[_,c,_]:=k.touched;let#[_,f,_]:=k.done;show#[?_,?_,?_,?_,?_,?_,?_,?_,?_,?_,?_,?_]<;>intro e
 .rw[e,h2]at h1;cases h1
 .rw[e,g]at h1;cases h1
 .rw[e,a]at h1;cases h1
 .rw[e,c]at h1;cases h1
 .rw[e,f]at h1;cases h1
 .rw[e,h2]at a;cases a
 .rw[e,g]at a;cases a
 .rw[e,f]at a;cases a
 .rw[e,h2]at c;cases c
 .rw[e,g]at c;cases c
 .rw[e,f]at c;cases c
 .rw[e,h2]at f;cases f
def Τ.CJ(k:Τ C H A B)(a c:Int):Τ C (upd H A.b (.ins C A.dx [("heads",.ref A.h),("rows",.ref A.r),("touched",.ref A.t),("done",.ref A.d),("known",.int a),("now",.int c)])) A {B with known:=a,now:=c}:=by
 let#[f,g,i,j,n5,_]:=k.ne;let st:∀b ys,H b=↑(.tup ys)->(upd H A.b (.ins C A.dx [("heads",.ref A.h),("rows",.ref A.r),("touched",.ref A.t),("done",.ref A.d),("known",.int a),("now",.int c)])) b=↑(.tup ys):=k.tup (Out.upd (by simp[BA.fp]));show#[ξ,?_,k.heads.stay (λxs e=>?_) st,?_,?_,?_,k.rt,k.hd]
 .rw[ι (Ne.symm f)];show k.own
 .rw[ι (Ne.symm g)];show e
 .let#[Ϸ,e,h]:=k.rows;show#[Ϸ,by rw[ι (Ne.symm i)];show e,dC h λv x h=>h.stay st]
 .let#[Ϸ,e,h]:=k.touched;show#[Ϸ,by rw[ι (Ne.symm j)];show e,h]
 .let#[xs,e,h]:=k.done;show#[xs,by rw[ι (Ne.symm n5)];show e,ω.imp (λv d h=>h.stay st) h]
def Τ.Lz{Ϸ:List (Key×V)}{m:List (Int×List V)}(k:Τ C H A B)(h:ω (PR (TupAt H)) Ϸ m):Τ C (upd H A.r (.dK Ϸ)) A {B with rows:=m}:=by
 let#[i,j,a,l,n5,c,f,g,_]:=k.ne;let st:∀b ys,H b=↑(.tup ys)->(upd H A.r (.dK Ϸ)) b=↑(.tup ys):=k.tup (Out.upd (by simp[BA.fp]));show#[?_,?_,k.heads.stay (λxs e=>?_) st,#[Ϸ,ξ,dC h λv x h=>h.stay st],?_,?_,k.rt,k.hd]
 .rw[ι a];show k.ins
 .rw[ι (Ne.symm c)];show k.own
 .rw[ι (Ne.symm f)];show e
 .let#[Ϸ,e,h]:=k.touched;show#[Ϸ,by rw[ι (Ne.symm k.rt)];show e,h]
 .let#[xs,e,h]:=k.done;show#[xs,by rw[ι (Ne.symm g)];show e,ω.imp (λv d h=>h.stay st) h]
def Τ.aaM{Ϸ:List (Key×V)}{m:List (Int×Int)}(k:Τ C H A B)(h:ω (PR T3) Ϸ m):Τ C (upd H A.t (.dK Ϸ)) A {B with touched:=m}:=by
 let#[i,j,l,c,n5,n,o,p,f,a,g,_]:=k.ne;let st:∀b ys,H b=↑(.tup ys)->(upd H A.t (.dK Ϸ)) b=↑(.tup ys):=k.tup (Out.upd (by simp[BA.fp]));show#[?_,?_,k.heads.stay (λxs e=>?_) st,?_,#[Ϸ,ξ,h],?_,k.rt,k.hd]
 .rw[ι c];show k.ins
 .rw[ι (Ne.symm f)];show k.own
 .rw[ι (Ne.symm a)];show e
 .let#[Ϸ,e,h]:=k.rows;show#[Ϸ,by rw[ι k.rt];show e,dC h λv x h=>h.stay st]
 .let#[xs,e,h]:=k.done;show#[xs,by rw[ι (Ne.symm g)];show e,ω.imp (λv d h=>h.stay st) h]
def Τ.adi{xs:List V}{ds:List gf}(k:Τ C H A B)(h:ω (jP H) xs ds):Τ C (upd H A.d (.lst xs)) A {B with done:=ds}:=by
 let#[i,j,l,m,n5,n,o,c,p,f,g,a]:=k.ne;let st:∀b ys,H b=↑(.tup ys)->(upd H A.d (.lst xs)) b=↑(.tup ys):=k.tup (Out.upd (by simp[BA.fp]));show#[?_,?_,k.heads.stay (λxs e=>?_) st,?_,?_,#[xs,ξ,ω.imp (λv d h=>h.stay st) h],k.rt,k.hd]
 .rw[ι n5];show k.ins
 .rw[ι (Ne.symm a)];show k.own
 .rw[ι k.hd];show e
 .let#[Ϸ,e,h]:=k.rows;show#[Ϸ,by rw[ι c];show e,dC h λv x h=>h.stay st]
 .let#[Ϸ,e,h]:=k.touched;show#[Ϸ,by rw[ι g];show e,h]
end
end
end _V
namespace _L
open PySem PySem.Spec PyProof.Rows PySem.W
section
variable{X:Cx}{σ:St}{H:Hp}{Q:VK}{D:Ends}{o e f:Ϫ}{apos cpos pos:Pos}
def anV{tg:Ϫ}{body:List Ϩ}(f:ap5 ∅ X.A X.env X.xe)(j:X.calm=true)(hs:∀x,foldedSetIterable e X.env x=pure x)(h:EV X e σ H λv H1=>∃q xs,v=.ref q/\ψ X.K H1 q xs/\∃a:Nat->St->Hp->Prop,a 0 σ H1/\(∀i σ' H',i<=↥xs->a i σ' H'->ψ X.K H' q xs)/\
   (∀i x σ' H',xs[i]?=↑x->a i σ' H'->EG X tg x σ' H' λc H2=>Ι X body {D with nx:=a (i+1),ct:=a (i+1),bk:=D.nx} c H2)/\∀σ' H',a ↥xs σ' H'->D.nx σ' H'):SX X (.For tg e body [] pos) D σ H:=by
 show sV f j hs (age (aP h λv H1 q=>?_));let#[q,xs,rfl,l,a,m,n,o,hd]:=q;show#[q,rfl,#[xs,l],aa7 (g:=EG X tg) (tb:=Ι X body) a m n o hd]
end
section
variable{X:Cx}{H:Hp}{Q:VK}{e C:δ}{D:Option δ}{k:Bool}
def Vg{p:δ}{as:List V}{us:List ε}(l:sy X.K C)(g:H e=↑(xw e C D))(hd:∀c,D=↑c->∃fs,H c=↑(.xd fs))(i:H p=↑(.tup as))(m:∀vs,Vals as vs->vs=us)(o:atZ X.K (.ref C) us=↑k)(q:Q (.bl k) H):CL X (.builtin "isinstance") [.ref e,.ref p] H Q:=by
 show cI (r:=λxs H Q=>xs=[.ref e,.ref p]/\H e=↑(xw e C D)/\(∀c,D=↑c->∃fs,H c=↑(.xd fs))/\H p=↑(.tup as)/\Q (.bl k) H) ?_ #[rfl,g,hd,i,q];intro ϵ s σ H xs u Q I r h;let#[rfl,g,hd,i,q]:=h;let#[v,x,rfl,r1,y]:=vals2 r;cases(show v=Value.ref e from r1);cases(show x=Value.ref p from y);let#[ox,od,J,_]:=I.inst g hd;let#[_,B,E,F,j,f,a]:=I.hok p _ i;rw[m B E]at a;let#[n,a]:=a;let#[oc,G,L,M]:=F;dsimp only at f a;subst f a;show W.kia_tup (QQ l) I.kIn #[ox,od,J] j o (λz=>nomatch z) λtk=>#[.bl k,H,I.tok tk,rfl,q]
theorem Fz:∀(as:List δ)(vs:List ε),Vals (as.map V.ref) vs->vs=as.map Value.ref
 |[],_,.nil=>rfl
 |a::as,_,.cons r t=>by
  cases(show _=Value.ref a from r);rw[Fz as _ t];rfl
end
theorem HH:∀{bs:List Bool}{us:List ε},Vals (bs.map V.bl) us->us=bs.map Value.bool
 |[],_,.nil=>rfl
 |b::bs,_,.cons r t=>by
  cases(show _=Value.bool b from r);rw[HH t];rfl
theorem aaX(k:Bool):∀bs:List Bool,(bs.map Value.bool).countP (isBoolOf k)=bs.count k
 |[]=>rfl
 |b::bs=>by
  rw[acz,atw,atL,aaX k bs];rfl
section
variable{X:Cx}{H:Hp}{Q:VK}
def anl{a:δ}{bs:List Bool}{k:Bool}(h:θ X.K H a (bs.map V.bl))(g:Q (.int (bs.count k:Nat)) H):MT X "list.count" (.ref a) [.bl k] H Q:=by
 show bZ (r:=λx xs H Q=>∃a bs k,x=.ref a/\xs=[.bl k]/\θ X.K H a (bs.map V.bl)/\Q (.int (bs.count k:Nat)) H) ?_ #[a,bs,k,rfl,rfl,h,g];intro ϵ s σ H x xs v us Q I rx j h;let#[a,bs,k,rfl,rfl,h,g]:=h;cases rx;let#[u,rfl,l]:=vals1 j;cases(show u=Value.bool k from l);let#[o,r,#[#[cls,dd,f,sl],n,e,i,hd,hs],p]:=I.list h;simp only at i hd hs;subst i hd hs;obtain rfl:=HH r;show ame F.slot_list_count #[_,e,rfl] F.entry_list_count (F.args_list_count_2 _ _) (SeqAt.list_countAt a (bs.map Value.bool).toArray n _ sl (.bool k) (isBoolOf k)) #[e,λy m=>?_,?_]
 .let c:y∈bs.map Value.bool:= ~~~m
  let#[b,_,rfl]:=ad8.mp c;show SeqAt.EqAt.bool_bool b k
 .rw[show(bs.map Value.bool).toArray.toList=bs.map Value.bool from rfl,aaX];show#[.int _,H,I.tok _,#[_,rfl],g]
end
end _L
namespace _L
open PySem PySem.Spec PyProof.Rows
def amb:Option δ->ε
 |none=>.none
 |some b=>.ref b
theorem bH.nodes{h:ϫ}:∀{L:List δ}{c:Option ε},bH h c L->∀{i:Nat}{a:δ},L[i]?=↑a->∃o vs,h.get? a=↑o/\o.data=.fields vs/\vs[2]?=↑(amb L[i+1]?)
 |[],_,_,i,a,e=>by simp at e
 |b::r,c,⟨_,o,vs,j,l,f⟩,0,a,e=>by
  let z:b=a:= ~~~e
  subst z;show#[o,vs,j,l,?_];cases r with
  |nil=>show f
  |cons x r=>show f.1
 |b::r,c,⟨_,o,vs,j,l,f⟩,i+1,a,e=>by
  let m:r[i]?=↑a:= ~~~e
  let#[o',g,k1,k2,k3]:=f.nodes m;show#[o',g,k1,k2,~~~k3]
section
variable{prog:ϰ}{w:Ϯ}{A:ϴ}{E:ε->ν->Prop}{s:ν}{env:Env}
theorem aaW:entryFor table "proto.unchain"=↑apB.«proto.unchain» :=entryFor_of_tree (by kernel_rfl)
theorem HQ{e:δ}{R:Result->ν->Prop}{L:List δ}{c:Option ε}(f:bH s.heap c L)(m:L.Nodup)(p:e∉L)(k:R (.ok (.ret .none)) s):∀(n i j:Nat)(o sl:δ)(tg:Bool),↥L-i=n->L[i]?=↑o->L[j]?=↑sl->j<=i->codeAny (ϧ prog w) A (.builtin "proto.unchain" #[[.ref e,.ref o,.ref sl,.bool tg],[]]) R s
 |0,i,j,o,sl,tg,q,hi,g,u=>by
  have:=(aab.mp hi).1;omega
 |n+1,i,j,o,sl,tg,q,hi,g,u=>by
  let#[J,vs,C,D,l]:=f.nodes hi;cases hb:L[i+1]? with
  |none=>
   rw[hb]at l;show anq aaW ?_;unfold apB.«proto.unchain»;show Ϧ (akC (x:=Value.none) C D l ?_);rw[if_pos (by rfl)];show ϲ k
  |some b=>
   rw[hb]at l;show anq aaW ?_;unfold apB.«proto.unchain»;show Ϧ (akC (x:=Value.ref b) C D l ?_);let v:b∈L:=aan hb;let y:b≠e:=λz=>p (z▸v)
   let B:b≠sl:=λz=>by
    let#[p1,r1]:=aab.mp hb;let#[p2,F]:=aab.mp g;have:=(asl m (h₀:=p1) (h₁:=p2)).mp (r1<|>z<|>F.symm);omega
   rw[if_neg (show ¬((Value.ref b==Value.none)=true)from by simp)];rw[if_neg (show ¬((Value.ref b==Value.ref e)=true)from ~~~y)];rw[if_neg (show ¬((Value.ref b==Value.ref sl)=true)from ~~~B)];let G:=(aab.mp hb).1;cases tg with
   |false=>
    show Ϧ (ϲ ?_)*>ϲ #[Code.quiet_builtin _ (by fin2),?_]*>HQ f m p k n (i+1) j b sl true () hb g ()
   |true=>
    let#[os,ws,H,I,E]:=f.nodes g;let a:j+1<↥L:=()
    rw[aag a]at E;show Ϧ (akC (x:=Value.ref L[j+1]) H I E ?_)*>ϲ #[Code.quiet_builtin _ (by fin2),?_]*>HQ f m p k n (i+1) (j+1) b _ false () hb (aag a) ()
def ai0{e h:δ}{b:Bool}{a:Obj}{vs:Array ε}{Q:ε->ν->Prop}(g:s.heap.get? h=↑a)(hd:a.data=.fields vs)(i:Ctx s.heap h b vs[2]?)(c:∀l,bH s.heap vs[2]? l->e∉l)(j:h≠e)(k:Q .none s):π (ϧ prog w) A (runValue (.builtin "proto.unchain" #[[.ref e,.ref h,.ref h,.bool false],[]])) Q E s:=by
 show wpAny_runValue ?_;let#[_,l,f,m,n]:=i;let o:bH s.heap ↑(.ref h) (h::l):=#[rfl,a,vs,g,hd,f];show HQ o (alW.mpr #[m,n]) (λz=>?_) k (↥l+1) 0 0 h h false rfl rfl rfl (Ϭ _);obtain z|z:=aaz.mp z
 .show j z.symm
 .show c l f z
end
section
variable{prog:ϰ}{w:Ϯ}{A:ϴ}{E:ε->ν->Prop}{s:ν}{env:Env}
variable{nm q:Str}{C N:δ}{bs bm:List ε}{hdct:Bool}{sn:List Str}{sub:List ε}{ab:Bool}{col:Option Bool}{dd:Option δ}{k0 k1 k2 k3 k5:Option ε}
def JW{h:ϫ}{e:δ}{o:Obj}{vs:Array ε}{i:Nat}{x:ε}(a:h.get? e=↑o)(hd:o.data=.fields vs):(h.update e (Obj.mapFields (·.setIfInBounds i x))).get? e=some {o with data:=.fields (vs.setIfInBounds i x)}:=by
 rw[adZ _ a (Obj.isFreed_of_fields (Obj.data_mapFields hd _))];let#[c,d,f,sl]:=o;cases hd;rfl
def abq{M:Model}{a:δ}{o:Obj}{vs:Array ε}{i:Nat}{x:ε}{Q:Unit->ν->Prop}(c:s.heap.get? a=↑o)(hd:o.data=.fields vs)(hi:i<vs.size)(h:Q PUnit.unit {s with heap:=s.heap.update a (Obj.mapFields (·.setIfInBounds i x))}):π M A (updateField a i x) Q E s:=by
 have:=amj (M:=M) (A:=A) (E:=E) (i:=i) (x:=x) c hd hi h;show this
def Tu{h:δ}{x c:Sem ε}{Q:Flow->ν->Prop}(n:bm.contains (.type "BaseException")=true)(hh:A.handled=↑(.ref h))(hc:∀(P:ε->ν->Prop) s',P .none s'->π (ϧ prog w) A c P E s')(hx:π (ϧ prog w) A x (λv a=>∃e t D R vs b,v=.ref e/\a.heap.get? C=↑(excClassObj nm q C N bs bm hdct sn sub ab col dd k0 k1 k2 k3 k5 "ValueError.__new__")/\
   a.heap.get? e=some {cls:=.ref C,dict:=D,data:=.fields #v[.ref t,.none,.none,.none,.bool false,.none]}/\h≠e/\a.heap.get? h=↑R/\R.data=.fields vs/\Ctx a.heap h b vs[2]? /\(∀l,bH a.heap vs[2]? l->e∉l)/\
   ∀h',(∀b,b≠e->h'.get? b=a.heap.get? b)->h'.get? e=some {cls:=.ref C,dict:=D,data:=.fields #v[.ref t,.none,.ref h,.none,.bool true,.none]}->E (.ref e) {a with heap:=h'}) E s):π (ϧ prog w) A (raiseStmt env ↑x ↑c) Q E s:=by
 let F:(Value.ref C::bm).contains (.type "BaseException")=true:=by rw[akN,n,at4]
 unfold raiseStmt;show Ϧ (ab9 hx (λv a h₁=>?_) λ_ _ x=>x);let#[e,t,D,R,vs,b,rfl,G,M,S,T,U,H,I,hE]:=h₁;let#[m,g,d,tk,os]:=a;let jO:C≠e:=λz=>by rw[z,M]at G;cases G
 let ex:∀(P:ε->ν->Prop),P (.ref e) #[m,g,d,tk,os]->π (ϧ prog w) A (excFromValue (.ref e) "exceptions must derive from BaseException") P E #[m,g,d,tk,os]:=by
  intro P W;unfold excFromValue
  repeat (first|with_reducible show aiq M ?_|with_reducible show aiq G ?_|(with_reducible show apg G ?_;rw[F])|wp_step)
  show W
 show Ϧ (acK (hc _ _ ?_))*>Ϧ (ϲ ?_)*>Ϧ (acK (ex _ ?_));dsimp only;rw[if_pos (by rfl)];show Ϧ (ϲ ?_)*>Ϧ (amj M rfl (by simp) ?_);let e1:=JW (i:=3) (x:=Value.none) M rfl;let o1:∀b,b≠e->(m.update e (Obj.mapFields (·.setIfInBounds 3 Value.none))).get? b=m.get? b:=λb p=>aaK _ _ (Ne.symm p)
 generalize m.update e (Obj.mapFields (·.setIfInBounds 3 Value.none))=J at e1 o1⊢;show Ϧ (amj e1 rfl (by simp) ?_);let e2:=JW (i:=4) (x:=Value.bool true) e1 rfl;let B:∀b,b≠e->(J.update e (Obj.mapFields (·.setIfInBounds 4 (Value.bool true)))).get? b=m.get? b:=λb p=>(aaK<*(Ne.symm p)).trans (o1 b p)
 dsimp only;generalize J.update e (Obj.mapFields (·.setIfInBounds 4 (Value.bool true)))=f at e2 B⊢;let u:f.get? e=some {cls:=.ref C,dict:=D,data:=.fields #v[.ref t,.none,.none,.none,.bool true,.none]}:=e2;let sY:=(B C jO)<|>G
 let step:∀(P:Flow->ν->Prop),π (ϧ prog w) A (raiseNew (.ref e)) P E #[f,g,d,tk,os]->π (ϧ prog w) A (do
   let e<-if <-isType (.ref e)then holding [.ref e] (raisedFor (.ref e) (.ref e))else raisedInstance (.ref e)
   setFlight e none
   raiseNew e) P E #[f,g,d,tk,os]:=by
  intro P W
  repeat (first|with_reducible show aiq u ?_|with_reducible show aiq sY ?_|(with_reducible show apg sY ?_;rw[F])|wp_step)
  show W
 show step _ ?_;unfold raiseNew;show Ϧ (wpAny_handled ?_);rw[hh];dsimp only;rw[if_pos (show(Value.ref h !=Value.ref e)=true from ~~~S)];let kk:∀v o ws,v≠e->m.get? v=↑o->o.data=.fields ws->∃o' j,f.get? v=↑o'/\o'.data=.fields j/\j[2]?=ws[2]? :=λv o ws X Y Z=>#[o,ws,(B v X)<|>Y,Z,rfl]
 let kb:∀v o ws,v≠e->f.get? v=↑o->o.data=.fields ws->∃o' j,m.get? v=↑o'/\o'.data=.fields j/\j[2]?=ws[2]? :=λv o ws X Y Z=>#[o,ws,(B v X).symm.trans Y,Z,rfl]
 let ac:Ctx f h b vs[2]? :=by
  let#[c1,l,c2,c3,c4]:=H;show#[c1,l,c2.stay kk (I l c2),c3,c4]
 let ae:∀l,bH f vs[2]? l->e∉l:=by
  intro l hl;let#[_,l',c2,_,_]:=H;let n1:=I l' c2;let af:=c2.stay kk n1;let uniq:∀(l l':List δ)(c:Option ε),bH f c l->bH f c l'->l=l':=by
   intro l;induction l with
   |nil=>
    intro l' c L O;cases l' with
    |nil=>rfl
    |cons y l'=>rw[O.1]at L;cases L
   |cons y l ih=>
    intro l' c L O;cases l' with
    |nil=>let z:=L.1;rw[show c=_ from O]at z;cases z
    |cons y' l'=>
     let#[b1,o,ws,b2,b3,b4]:=L;let#[ug,o',j,vY,iQ,Gk]:=O;rw[b1]at ug;cases ug;rw[b2]at vY;cases vY;rw[b3]at iQ;cases iQ;rw[ih l' _ b4 Gk]
  rw[uniq l l' _ hl af];show n1
 show Ϧ (acK (ai0 (s:=#[f,g,d,tk,os]) ((B h S)<|>T) U ac ae S ?_))*>Ϧ (abq (i:=2) (x:=Value.ref h) u rfl (by simp) ?_)*>wpAny_throw (hE _ (λb p=>?_) ?_)
 .show(aaK<*(Ne.symm p)).trans (B b p)
 .show JW u rfl
end
section
variable{X:Cx}{Kx:St->XK}{D:Ends}{σ:St}{H:Hp}{rest:List aot}{pos np wH cpos rpos p0:Pos}{x y fld:Str}{cls c:ε}{d:Option δ×Bool}{a:Ϫ}{as:List Ϫ}{cc:Bool}{k k' j0:Nat}
theorem Ch.pq{e:ε}{F:ε->ν->Prop}{ϵ pins':List (δ×Obj)}{b:δ}(c:Ch (X.bu e F (X.pn++ϵ)) pins' b):Ch X ϵ b:=#[c.1,c.2.1,c.2.2.1,λp a=>c.2.2.2 p (ajE _ a)]
def TQ{F:ε->ν->Prop}{ϵ pins':List (δ×Obj)}{s:ν}{h:ε}{e:δ}(D:ak X Kx)(E:X.stack=X.env::X.outer)(x:X.env.frame=↑X.env.locals)(ok:X.Ok)(G:nu (X.bu h F (X.pn++ϵ)) pins' σ H s e cls d)(q:Kx σ cls d H):notedBy ∅ (X.A.mark ↑h) X.env (cameBackBy ∅ X.A X.env X.xe) (.ref e) s:=by
 unfold notedBy;show nu.note (X:=X.bu h F (X.pn++ϵ)) G E x λf T I J c1=>?_
 let#[L,vs,g,M,i,hd,h1,O,h2,P]:=id J;let#[y,U,ws,j,l,Q]:=P T rfl;let B:3<ws.size:=(aia.mp Q).1;let c:vs[1]?=↑(Value.ref T):=h1;unfold cameBackBy;show Ϧ (akC g hd c ?_);rw[if_neg (show ¬((Value.ref T==Value.none)=true)from by simp)];unfold setFlight;show Ϧ (akC g hd c ?_);rw[if_pos (show(Value.ref T !=Value.none)=true from by simp),x];show amj j l B ?_;let R:=Inv.pq ok I;let oth:∀b,b≠T->(f.heap.update T (Obj.mapFields (·.setIfInBounds 3 (rawInt X.env.locals)))).get? b=f.heap.get? b:=λb a=>aaK _ _ (Ne.symm a)
 let m:=adZ (Obj.mapFields (·.setIfInBounds 3 (rawInt X.env.locals))) j (Obj.isFreed_of_fields (Obj.data_mapFields l _));let N:jW f.heap (f.heap.update T (Obj.mapFields (·.setIfInBounds 3 (rawInt X.env.locals)))) [T] (bY X.stack):=by
  show#[λb o q _ n=>(oth b (λz=>n (by simp[z]))).trans q,λb o q n=>#[o.slots,(oth b (λz=>n (by simp[z])))<|>q],λb o q=>?_];by_cases z:b=T
  .subst z;show#[_,m]
  .show#[o,(oth b z)<|>q]
 let ch:∀b∈[e,T],H b=none/\Ch X ϵ b:=λb a=>#[(c1 b a).1,(c1 b a).2.pq]
 show D ϵ σ H _ e cls d #[R.noted N λb a=>?_,↑T,rawInt X.env.locals,#[L,vs,(oth e (Ne.symm y))<|>g,M,i,hd,h1,O,h2.stay λv o p W u C=>?_,λY S=>?_],.inr #[rfl,rfl],λb a=>ch b (~~~a)] q
 .let z:b=T:= ~~~a
  subst z;show ch b (by simp)
 .by_cases z:v=T
  .subst z;rw[j]at u;cases u;show#[_,_,m,Obj.data_mapFields C _,by rw[agC (by decide)]]
  .show#[o,p,(oth v z)<|>u,C,rfl]
 .cases S;show#[y,_,_,m,Obj.data_mapFields l _,by simp[B]]
theorem acQ{ϵ:List (δ×Obj)}{s:ν}(I:Inv X ϵ σ H s){e:δ}{a:Obj}{vs:Array ε}(f:s.heap.get? e=↑a)(hd:a.data=.fields vs):e∉X.fs:=λm=>by
 let#[_,o,c,g]:=I.funs.mem m;rw[f]at c;cases c;show g vs hd
theorem T4{M:Model}{A:ϴ}{E:ε->ν->Prop}{env:Env}{p p':Pos}{j:Nat}(P:ε->ν->Prop)(s:ν)(h:P .none s):π M A (do let v<-eval (.Constant .none j p) env;standAt p';pure v) P E s:=
 Ϧ (Constant_none (Ϧ (ag2 (ϲ h))))
def ag6(hx:ak X Kx)(ϻ:X.stack=X.env::X.outer)(hf:X.env.frame=↑X.env.locals)(hg:Gl X x)(hm:X.mg x=↑c)(hd:(x==("__debug__":Str))=false)(ex:aox X.K cls c=↑true)(ah:d.2=true)(O:mX X.prog X.w X.K X.mg X.base false k y fld)(hr:ϐ cc k' X.A)(hk:k+1<=k')(oW:Gl X y)(iM:(y==("__debug__":Str))=false)(he:ϳ (a::as) X.env=(false,eval a X.env)::ϳ as X.env)(ai:(backTo cpos (ϳ as X.env)).any (·.1)=false)(h:∀e pn,EA (X.bu (.ref e) (λ_ _=>False) pn) (a::as) σ H λvs H1=>∃n,vs=[.int n]/\n.natAbs<10^60/\∀j H',ζ H1 H'->H' j=↑(.xd [(fld,.int n)])->Kx σ (.ref (η X.mg y)) (↑j,false) H'):EH X (.ExceptHandler ↑(.Name x np) none [.Raise ↑(.Call (.Name y wH) (a::as) [] cpos) ↑(.Constant .none j0 p0) rpos] pos::rest) D σ cls d H:=by
 intro ϵ s e T I F ch;show api (Gb I F hg hm hd ex ?_) (by intro q;cases q)*>codeAny_handlers_suite (I.off F ch λs2 I2 F2=>?_);let#[m,jZ,U,hcl,hdx,G,_,hsz2,Ad,_]:=F2;let#[f,fd,ps,oc,od,osl,Fn,hb,hi,al,am]:=O.ex;let#[bm,N,nm,q,bs,hdct,sn,sub,ab,col,dd,k0,k1,k2,k3,k5,mN,hC,hN,an,T']:=Ir I.ok.mod.kin hi;let#[c0,c1]:=ch e (by simp)
 let' Y:Cx:=X.bu (.ref e) (λ_ _=>False) (X.pn++ϵ)
 let J0:Inv Y [] σ H s2:=I2.bu;let J:Inv Y [(e,m)] σ H s2:=J0.pins_of λp hp=>by
  let z:p=(e,m):= ~~~hp
  subst z;show#[U,c0,c1.2.1,acQ I2 U G,λv z=>by rw[G]at z;cases z]
 let ao:ϐ false (k+1) Y.A:=#[(λz=>nomatch z),(hr.mono hk).dp,(hr.mono hk).un];show wpAny_execs_cons (ab9 (Q:=λ_ _=>False) (E:=notedBy ∅ (X.A.mark ↑(.ref e)) X.env (cameBackBy ∅ X.A X.env X.xe)) ?_ (λ_ _ z=>z.elim) λ_ _ z=>z);rw[arm_exec_Raise];show Ϧ (ag2 (Tu (h:=e) (C:=η X.mg y) (nm:=nm) (q:=q) (N:=N) (bs:=bs) (bm:=bm) (hdct:=hdct) (sn:=sn) (sub:=sub) (ab:=ab) (col:=col) (dd:=dd) (k0:=k0) (k1:=k1) (k2:=k2) (k3:=k3) (k5:=k5) (T'.hasType (by fin2)) rfl (λP s' hP=>T4 P s' hP) ?_))*>Ϧ (ab9 (wpAny_Call_ofName (eZ (X:=Y) J oW O.at_ ?_ iM)) (λv s₃ W=>Ϧ (ag2 (ϲ W))) λ_ _ x=>x);unfold callWith;let h':=h e (X.pn++ϵ) cpos [(e,m)] s2 J;let ap:ϳ (a::as) Y.env=(false,eval a Y.env)::ϳ as Y.env:=he;show π _ _ (holding _ (evalArgs _ _ (backTo cpos (ϳ (a::as) Y.env)) _)>>=_) _ _ _;rw[ap]at h'⊢;show Ϧ (acK (Calls.evalArgs_plain (ab9 h' (λus s3 hu=>Ϧ (ag2 ?_)) λ_ _ z=>z.elim)));let#[vs,H1,R,r,n,ev,hn,kq]:=hu;subst ev;let#[u,rfl,ru]:=vals1 r;let#[hp,g,d3,tk,os]:=s3;let Z:(backTo cpos ((false,eval a Y.env)::ϳ as Y.env)).any (·.1)=false:=by
  show(false||(backTo cpos (ϳ as X.env)).any (·.1))=false;rw[ai];rfl
 simp only[Z];let ac:=R.bk _ _ hC;show Ϧ (wpAny_keeperOf_exc ac ?_)*>Ϧ (Yb (T'.keeps R.bk) ac (hN.keeps R.bk) an (R.kIn<*al) am (λh3 b M=>?_) Α);let#[t,m1,m2,m3]:=M.there;let B:H1 b=none:=R.hok.free M.new;let L:Ch Y [(e,m)] b:=R.ch M.new;let J3:Inv Y [(e,m)] σ H1 #[h3,g,d3,tk,os]:=R.kept (t':=tk) M.keeps;let J4:Inv Y [(e,m)] σ (upd H1 b (xo b (η X.mg y) none)) #[h3,g,d3,tk,os]:=J3.adopt B L (yQ m1);let rv:Vals [V.ref b,.int n] [Value.ref b,u]:=.cons rfl (.cons ru .nil);let ae:BX (η X.mg y) fld [V.ref b,.int n] (upd H1 b (xo b (η X.mg y) none)) (λv H'=>v=.non/\∃j,H' b=↑(xo b (η X.mg y) ↑j)/\H' j=↑(.xd [(fld,.int n)])/\j≠b/\∀c o,c≠b->H1 c=↑o->H' c=↑o) (λ_ _ _=>False):=
  #[b,n,rfl,hn,ξ,λj H' h1 h2 ar h4 h5=>#[rfl,j,h4,h5,h1,λc o hb q=>ar c o hb (by rw[ι hb];show q)]]
 let hl:↥([Value.ref b,u]:List ε)=↥ps:=by rw[<-↥rv];show Fn.len _ _ _ _ ae
 let af:=hb #[h3,g,d3,tk,os] [Value.ref b,u] J4.kIn (~~~hl);rw[alV]at af;show aon (akz (Fn.run (Y.A.under (.builtin "type.__call__" #[.ref (η X.mg y)::[u],[]])) Y.stack #[h3,g,d3,tk,os] _ #[[Value.ref b,u],[]] [Value.ref b,u] [V.ref b,.int n] _ (λ_ _ _=>False) (ao.make (η X.mg y) [u] [])
  (J4.env0.make (η X.mg y) [u] []) af rv ae) λr s' hq=>?_)
 cases r with
 |error e=>show(bQ.never hq).elim
 |ok fl=>
  cases fl with
  |ret v=>
   let#[v',H',J5,rr,ev,j,g1,g2,g3,g4]:=J4.after hq;subst ev;show#[rr,?_];let#[#[t',av],_,_]:=J5.hok b _ g1;let J6:=J5.forget g1 L;let pe:=J6.pin (e,m) (adV _ (aa0.mpr rfl));let S:e≠b:=λz=>by
    let h0:=(R.pin (e,m) (adV _ (aa0.mpr rfl))).1;rw[z]at h0;rw[show hp.get? b=none from M.new]at h0;cases h0
   let i:jZ[2]?=↑Value.none:=Ad.1 ah;show Ϧ (acK (wpAny_point (ϲ #[b,t',↑j,m,jZ,true,rfl,J5.bk<*hC,av,S,pe.1,G,Ctx.yes i,λl hl z=>?_,λh7 o7 e7=>?_])))
   .rw[i]at hl;cases l with
    |nil=>simp at z
    |cons y l=>show absurd hl.1 (by simp)
   .let N7:jW s'.heap h7 [b] (bY Y.stack):=by
     show#[λc o q _ n=>(o7 c λz=>n (by simp[z])).trans q,λc o q n=>#[o.slots,(o7 c λz=>n (by simp[z]))<|>q],λc o q=>?_];by_cases z:c=b
     .subst z;show#[_,e7]
     .show#[o,(o7 c z)<|>q]
    let J7:Inv Y [(e,m)] σ (gG H' b) {s' with heap:=h7}:=J6.noted N7 λc hc=>by
     let z:c=b:= ~~~hc
     subst z;show#[BW,L]
    show TQ (F:=λ_ _=>False) (ϵ:=ϵ) (pins':=[(e,m)]) (σ:=σ) (H:=gG H' b) (cls:=.ref (η X.mg y)) (d:=(↑j,false)) hx ϻ hf I.ok #[J7,none,.none,#[_,_,e7,rfl,rfl,rfl,rfl,by simp,#[(λz=>nomatch z),[e],#[rfl,m,jZ,(o7 e S)<|>pe.1,G,i],~~~Ne.symm S,by simp],(λT z=>nomatch z)],.inl rfl,λc hc=>?_] (kq j _ (λc o q=>?_) ?_)
    .let z:c=b:= ~~~hc
     subst z;show#[BW,L]
    .let ag:c≠b:=Ξ q B;rw[gU ag];show g4 c o ag q
    .rw[gU g3];show g2
  |next=>show False.elim hq
  |brk=>show False.elim hq
  |cont=>show False.elim hq
end
end _L
namespace _L
open PySem PySem.Spec PyProof.Rows PySem.Builtin PySem.Builtin.Str
def ur(p:Nat->Bool):Nat->Option Nat
 |0=>none
 |n+1=>if p n=true then some n else ur p n
theorem Yg(p:Nat->Bool):∀n,(afd n).foldl (λa i=>if p i=true then some i else a) none=ur p n
 |0=>rfl
 |n+1=>by
  rw[atM,atf,Yg p n];rfl
theorem Q0(p:Nat->Prop)[DecidablePred p]:∀(l:List Nat)(b:Option Nat),(forIn (m:=Id) l b λi s=>if p i then pure (ForInStep.yield ↑i)else pure (ForInStep.yield s)).run=l.foldl (λc i=>if p i then some i else c) b
 |[],b=>rfl
 |a::l,b=>by
  rw[arQ,aiV, <-Q0 p l];by_cases h:p a
  .simp only[if_pos h];rfl
  .simp only[if_neg h];rfl
def aaH(x y:Str):lastOccurrence x y 0 ↥x=ur (λi=>decide (i+↥y<=↥x)&&subAt x y i) (↥x+1):=by
 unfold lastOccurrence;rw[<-Yg];simp[List.range_eq_range'];show Q0 (λi=>i+↥y<=↥x/\subAt x y i=true) _ none
theorem UG{p:Nat->Bool}:∀{n:Nat},(∀i,i<n->p i=false)->ur p n=none
 |0,_=>rfl
 |n+1,h=>by
  show(if p n=true then _ else _)=_;rw[if_neg (by rw[h n ()];decide)];show UG λi hi=>h i ()
theorem YF{p:Nat->Bool}{k:Nat}:∀{n:Nat},k<n->p k=true->(∀i,k<i->i<n->p i=false)->ur p n=↑k
 |n+1,c,a,h=>by
  show(if p n=true then _ else _)=_;by_cases e:k=n
  .subst e;rw[if_pos a]
  .rw[if_neg (by rw[h n () ()];decide)];show YF () a λi h1 h2=>h i h1 ()
def DN(x:Str)(c i:Nat):(decide (i+↥(#[#v[c]]:Str)<=↥x)&&subAt x #[#v[c]] i)=decide (x.cps.toList[i]?=↑c):=by
 rw[agb,aa9,decide_eq_true_iff,decide_eq_true_iff];show StrLaws.subAt_one x c i
def als{z:Str}{c:Nat}{b w:List Nat}(h:z.cps.toList=b++c::w)(g:c∉w):Txt.rpartition z #[#v[c]]=(#[b.toArray],#[#v[c]],#[w.toArray]):=by
 let a:↥z=↥b+1+↥w:=by
  have:↥z.cps.toList=↥z:=rfl;rw[<-this,h,aa6,aap];omega
 let m:lastOccurrence z #[#v[c]] 0 ↥z=↑↥b:=by
  rw[aaH];show YF () ?_ λi h1 h2=>?_
  .rw[DN,h,decide_eq_true_iff,afZ (Ϭ _),arq];rfl
  .rw[DN,h,decide_eq_false_iff_not,afZ ()];intro e;obtain⟨j,n⟩:∃j,i-↥b=j+1:=#[i-↥b-1,()];rw[n,List.getElem?_cons_succ]at e;show g (aan e)
 let f:z=#[(b++c::w).toArray]:=by
  let#[#[l]]:=z;have:l=b++c::w:=h;rw[this]
 let e1:strSub z 0 ↥b=#[b.toArray]:=by
  unfold strSub;rw[f];simp
 let o:strSub z (↥b+↥(#[#v[c]]:Str)) ↥z=#[w.toArray]:=by
  let p:↥(#[#v[c]]:Str)=1:=rfl;rw[p,a];unfold strSub;rw[f];simp[List.extract_eq_take_drop,List.drop_append];rw[aqy (),atN,ajX]
 let un:Txt.rpartition z #[#v[c]]=(match lastOccurrence z #[#v[c]] 0 ↥z with
  |some i=>(strSub z 0 i,#[#v[c]],strSub z (i+↥(#[#v[c]]:Str)) ↥z)
  |none=>(akU,akU,z)):=rfl
 rw[un,m];show(strSub z 0 ↥b,_,strSub z (↥b+↥(#[#v[c]]:Str)) ↥z)=_;rw[e1,o]
def aeB{z:Str}{c:Nat}(h:c∉z.cps.toList):Txt.rpartition z #[#v[c]]=(akU,akU,z):=by
 let a:lastOccurrence z #[#v[c]] 0 ↥z=none:=by
  rw[aaH];show UG λi hi=>?_
  rw[DN,decide_eq_false_iff_not];show λe=>h (aan e)
 unfold Txt.rpartition;rw[a]
section
variable{X:Cx}{H:Hp}{Q:VK}{z:Str}
def ajI{c:Nat}(j:↥z<=100000)(g:∀p,H p=none->Q (.ref p) (upd H p (.tup [.str (Txt.rpartition z #[#v[c]]).1,.str (Txt.rpartition z #[#v[c]]).2.1,.str (Txt.rpartition z #[#v[c]]).2.2]))):MT X "str.rpartition" (.str z) [.str #[#v[c]]] H Q:=by
 show bZ (r:=λx xs H Q=>∃z c,x=.str z/\xs=[.str #[#v[c]]]/\↥z<=100000/\∀p,H p=none->Q (.ref p) (upd H p (.tup [.str (Txt.rpartition z #[#v[c]]).1,.str (Txt.rpartition z #[#v[c]]).2.1,.str (Txt.rpartition z #[#v[c]]).2.2]))) ?_ #[z,c,rfl,rfl,j,g];intro ϵ s σ H x xs v us Q I rx l h;let#[z,c,rfl,rfl,j,g]:=h;let#[t,rfl]:=rx;let#[u,rfl,m]:=vals1 l;let#[t',rfl]:=m;let hsz:=ϯ;let e:∀(a b f:Str)(ta tb tc:Tok)(tk:Nat),a=(Txt.rpartition z #[#v[c]]).1->b=(Txt.rpartition z #[#v[c]]).2.1->f=(Txt.rpartition z #[#v[c]]).2.2->EP X ϵ σ Q (.ref ⇑s) {s with toks:=tk,heap:=s.heap.push {cls:=.type "tuple",data:=.seq [Value.str a ta,.str b tb,.str f tc].toArray}}:=λa b f ta tb tc tk n y B=>by
  subst n y B;show#[.ref ⇑s,_,I.laid (t':=tk) (o:=.tup [.str (Txt.rpartition z #[#v[c]]).1,.str (Txt.rpartition z #[#v[c]]).2.1,.str (Txt.rpartition z #[#v[c]]).2.2]) (λb o q=>aai _ q) (Ϭ _) ?_,rfl,g _ (I.hok.fresh (Ϭ _))]*>#[Α,_,.cons #[ta,rfl] (.cons #[tb,rfl] (.cons #[tc,rfl] .nil)),IsTup.new _ _]
 show ame F.slot_str_rpartition (typeIs_str<*_) F.entry_str_rpartition (F.args_str_rpartition_2 _ _) (meets_str_rpartition z #[#v[c]] t t' rfl ()) ?_;let h':=e;unfold Txt.rpartition at h';revert h';cases lastOccurrence z #[#v[c]] 0 ↥z with
 |none=>intro h';show h' _ _ _ _ _ _ _ rfl rfl rfl
 |some i=>intro h';show h' _ _ _ _ _ _ _ rfl rfl rfl
end
end _L
namespace _L
open PySem PySem.Spec PyProof.Rows
def aR.keeps{h h':ϫ}{e:δ}{cls:ε}{d:Option δ×Bool}{tb:Option δ}{fl:ε}(F:aR h e cls d tb fl)(k:∀b o,h.get? b=↑o->h'.get? b=↑o):aR h' e cls d tb fl:=by
 let#[c,vs,f,g,a,hd,h1,i,j,l]:=F;show#[c,vs,k<*f,g,a,hd,h1,i,j.stay λv o ws _ m n=>#[o,ws,k<*m,n,rfl],λT e=>?_];let#[p,q,ws,s,u,x]:=l T e;show#[p,q,ws,k<*s,u,x]
theorem bH.uniq{h:ϫ}:∀(l l':List δ)(c:Option ε),bH h c l->bH h c l'->l=l'
 |[],[],_,_,_=>rfl
 |[],y::l',c,a,e=>by rw[e.1]at a;cases a
 |y::l,[],c,a,e=>by let z:=a.1;rw[show c=_ from e]at z;cases z
 |y::l,u::l',c,a,e=>by
  let#[j,o,ws,m,n,p]:=a;let#[f,o',q,g,i,s]:=e;rw[j]at f;cases f;rw[m]at g;cases g;rw[n]at i;cases i;rw[bH.uniq l l' _ p s]
section
variable{X:Cx}{Kx:St->XK}{D:Ends}{σ:St}{H:Hp}{rest:List aot}{pos wH cpos rpos p0 p1 p2 p3 tpos zp:Pos}{x1 x2 x3 y z:Str}{cls c1 c2 c3:ε}{d:Option δ×Bool}{kk j0 j1:Nat}{name:Option Str}{body:List Ϩ}
def Uj{ϵ:List (δ×Obj)}{s:ν}{e:δ}{tb:Option δ}{l:ε}{k:Bool}{R:Result->ν->Prop}(I:Inv X ϵ σ H s)(F:aR s.heap e cls d tb l)(a:Gl X x1)(c:X.mg x1=↑c1)(f:(x1==("__debug__":Str))=false)(g:Gl X x2)(i:X.mg x2=↑c2)(j:(x2==("__debug__":Str))=false)(m:Gl X x3)(n:X.mg x3=↑c3)(p:(x3==("__debug__":Str))=false)(ex:atD X.K cls [c1,c2,c3]=↑k)(h:∀h',(∀q o,s.heap.get? q=↑o->h'.get? q=↑o)->R (.ok (if k then .brk else .next)) {s with heap:=h'}):codeAny ∅ (X.A.mark ↑(.ref e)) (.handlers (.ref e) [.ExceptHandler ↑(.Tuple [.Name x1 p1,.Name x2 p2,.Name x3 p3] kk tpos) none [] pos] X.env) R s:=by
 show codeAny_handlers_test ?_;let J:Inv (X.bu (.ref e) X.xe (X.pn++ϵ)) [] σ H s:=I.bu;show wpAny_Tuple ?_*>wpAny_items_cons (eZ (X:=X.bu (.ref e) X.xe (X.pn++ϵ)) J a c ?_ f)*>wpAny_items_cons (eZ (X:=X.bu (.ref e) X.xe (X.pn++ϵ)) J g i ?_ j)*>wpAny_items_cons (eZ (X:=X.bu (.ref e) X.xe (X.pn++ϵ)) J m n ?_ p)*>wpAny_items_nil #[by size_fits,?_];let kp:∀q o,s.heap.get? q=↑o->(s.heap.push {cls:=.type "tuple",data:=.seq [c1,c2,c3].toArray}).get? q=↑o:=λ_ _ z=>aai _ z
 show(W.exm_tup3 (I.kIn.keeps kp) (F.ty.keeps kp) (abM s.heap rfl) ex).here (h _ kp)
def aiL(a:Gl X x1)(c:X.mg x1=↑c1)(f:(x1==("__debug__":Str))=false)(g:Gl X x2)(i:X.mg x2=↑c2)(j:(x2==("__debug__":Str))=false)(l:Gl X x3)(m:X.mg x3=↑c3)(n:(x3==("__debug__":Str))=false)(ex:atD X.K cls [c1,c2,c3]=↑false)(h:EH X rest D σ cls d H):EH X (.ExceptHandler ↑(.Tuple [.Name x1 p1,.Name x2 p2,.Name x3 p3] kk tpos) name body pos::rest) D σ cls d H:=by
 intro ϵ s e T I F ch;show api (Uj I F a c f g i j l m n ex λh' kp=>?_) (by intro q;cases q)*>h ϵ _ e T (I.kept (t':=s.toks) kp) (F.keeps kp) ch
def Ws{ty:Ϫ}(hx:ak X Kx)(ϻ:X.stack=X.env::X.outer)(hf:X.env.frame=↑X.env.locals)(ht:∀(ϵ:List (δ×Obj))(s:ν)(e T:δ)(R:Result->ν->Prop),Inv X ϵ σ H s->aR s.heap e cls d ↑T .none->(∀h',(∀q o,s.heap.get? q=↑o->h'.get? q=↑o)->R (.ok .brk) {s with heap:=h'})->codeAny ∅ (X.A.mark ↑(.ref e)) (.handlers (.ref e) [.ExceptHandler ↑ty none [] pos] X.env) R s)(O:eY X.K X.mg y)(oW:Gl X y)(iM:(y==("__debug__":Str))=false)(kq:Kx σ (.ref (η X.mg y)) (none,false) H):EH X (.ExceptHandler ↑ty none [.Raise ↑(.Call (.Name y wH) [.Constant (.str z) j1 zp] [] cpos) ↑(.Constant .none j0 p0) rpos] pos::rest) D σ cls d H:=by
 intro ϵ s e T I F ch;show api (ht ϵ s e T _ I F λh' kp=>?_) (by intro q;cases q)*>codeAny_handlers_suite ((I.kept (t':=s.toks) kp).off (F.keeps kp) ch λs2 I2 F2=>?_);let#[oe,p,a,hcl,hdx,u,_,hsz2,Ad,_]:=F2;let#[bm,N,nm,q,bs,hdct,sn,sub,ab,col,dd,k0,k1,k2,k3,k5,mN,hC,hN,ac,T']:=Ol I2.ok.mod.kin O.ex
 let' Y:Cx:=X.bu (.ref e) (λ_ _=>False) (X.pn++ϵ)
 let J:Inv Y [] σ H s2:=I2.bu;show wpAny_execs_cons (ab9 (Q:=λ_ _=>False) (E:=notedBy ∅ (X.A.mark ↑(.ref e)) X.env (cameBackBy ∅ X.A X.env X.xe)) ?_ (λ_ _ z=>z.elim) λ_ _ z=>z);rw[arm_exec_Raise];show Ϧ (ag2 (Tu (h:=e) (C:=η X.mg y) (nm:=nm) (q:=q) (N:=N) (bs:=bs) (bm:=bm) (hdct:=hdct) (sn:=sn) (sub:=sub) (ab:=ab) (col:=col) (dd:=dd) (k0:=k0) (k1:=k1) (k2:=k2) (k3:=k3) (k5:=k5) (T'.hasType (by fin2)) rfl (λP s' hP=>T4 P s' hP) ?_))*>Ϧ (ab9 (wpAny_Call_ofName (eZ (X:=Y) J oW O.at_ ?_ iM)) (λv s₃ B=>Ϧ (ag2 (ϲ B))) λ_ _ x=>x);unfold callWith;show Ϧ (acK (Calls.evalArgs_plain (Calls.spliced_cons (Calls.Constant_str (k:=j1) (pos:=zp) (Calls.spliced_nil (Ϧ (ag2 ?_)))))));let sY:=J.bk _ _ hC;let ae:=hN.keeps J.bk;let T2:=T'.keeps J.bk;let#[hp,g,d3,tk,os]:=s2;let G:(backTo cpos (ϳ [Expr.Constant (Const.str z) j1 zp] X.env)).any (·.1)=false:=rfl;simp only[G];show Ϧ (wpAny_keeperOf_exc sY ?_)*>Ϧ (wpAny_call_exc_subT (hrest:=Α) PySem.F.excBase_ValueError T2 sY ae ac λL b M=>Ϧ (acK (wpAny_point (ϲ ?_))));let#[t,m1,m2,m3]:=M.there;let f:e≠b:=λw=>by
  let h0:=a;rw[w,show hp.get? b=none from M.new]at h0;cases h0
 let J3:Inv Y [] σ H #[L,g,d3,tk+1,os]:=J.kept (t':=tk+1) M.keeps;let Z7:∀v o ws,v≠e->hp.get? v=↑o->o.data=.fields ws->∃o' S,L.get? v=↑o'/\o'.data=.fields S/\S[2]?=ws[2]? :=λv o ws _ m q2=>#[o,ws,M.keeps<*m,q2,rfl]
 let Nb:Ctx L e d.2 p[2]? :=Ad.stay Z7;let U:∀l,bH L p[2]? l->b∉l:=by
  intro l hl Z;let#[_,l',c2,c3,_]:=Ad;rw[bH.uniq l l' _ hl (c2.stay Z7 c3)]at Z;let#[i,hi,ei]:=apD Z;let#[o,vs,m,_]:=c2.nodes (aab.mpr #[hi,ei]);rw[show hp.get? b=none from M.new]at m;cases m
 let j:H b=none:=J.hok.free M.new;let af:Ch Y [] b:=J.ch M.new;show#[b,t,none,oe,p,d.2,rfl,M.keeps<*sY,m1,f,M.keeps<*a,u,Nb,U,λh7 W e7=>?_];let N7:jW L h7 [b] (bY Y.stack):=by
  show#[λc o q _ n=>(W c λz=>n (by simp[z])).trans q,λc o q n=>#[o.slots,(W c λz=>n (by simp[z]))<|>q],λc o q=>?_];by_cases z:c=b
  .subst z;show#[_,e7]
  .show#[o,(W c z)<|>q]
 let one:∀c∈[b],H c=none/\Ch Y [] c:=λc hc=>by
  let z:c=b:= ~~~hc
  subst z;show#[j,af]
 let J7:Inv Y [] σ H #[h7,g,d3,tk+1,os]:=J3.noted N7 one;let#[_,l,c2,c3,c4]:=Nb;let nb:=U l c2;let c5:bH h7 p[2]? l:=c2.stay (e:=b) (λv o ws hv m q2=>#[o,ws,(W v hv)<|>m,q2,rfl]) nb;show TQ (F:=λ_ _=>False) (ϵ:=ϵ) (pins':=[]) (σ:=σ) (H:=H) (cls:=.ref (η X.mg y)) (d:=(none,false)) hx ϻ hf I.ok #[J7,none,.none,#[_,_,e7,rfl,rfl,rfl,rfl,by simp,#[(λz=>nomatch z),e::l,#[rfl,oe,p,(W e f)<|>(M.keeps<*a),u,c5],λZ=>?_,alW.mpr #[c3,c4]],(λT z=>nomatch z)],.inl rfl,one] kq;obtain h|h:=aaz.mp Z
 .show f h.symm
 .show nb h
theorem Ei(l:ak X Kx)(m:X.stack=X.env::X.outer)(n:X.env.frame=↑X.env.locals)(a:X.mg x1=↑c1)(c:X.mg x2=↑c2)(o:X.mg x3=↑c3)(ex:atD X.K cls [c1,c2,c3]=↑true)(O:eY X.K X.mg y)(p:Kx σ (.ref (η X.mg y)) (none,false) H)(f:Gl X x1:=by rfl)(g:(x1==("__debug__":Str))=false:=by decide)(i:Gl X x2:=by rfl)(j:(x2==("__debug__":Str))=false:=by decide)(q:Gl X x3:=by rfl)(u:(x3==("__debug__":Str))=false:=by decide)(v:Gl X y:=by rfl)(x:(y==("__debug__":Str))=false:=by decide):EH X (.ExceptHandler ↑(.Tuple [.Name x1 p1,.Name x2 p2,.Name x3 p3] kk tpos) none [.Raise ↑(.Call (.Name y wH) [.Constant (.str z) j1 zp] [] cpos) ↑(.Constant .none j0 p0) rpos] pos::rest) D σ cls d H:=Ws l m n (λϵ s e T R I F h=>Uj I F f a g i c j q o u ex h) O v x p
theorem alj{np:Pos}(g:ak X Kx)(i:X.stack=X.env::X.outer)(j:X.env.frame=↑X.env.locals)(a:Gl X x1)(c:X.mg x1=↑c1)(f:(x1==("__debug__":Str))=false)(ex:aox X.K cls c1=↑true)(O:eY X.K X.mg y)(l:Gl X y)(m:(y==("__debug__":Str))=false)(n:Kx σ (.ref (η X.mg y)) (none,false) H):EH X (.ExceptHandler ↑(.Name x1 np) none [.Raise ↑(.Call (.Name y wH) [.Constant (.str z) j1 zp] [] cpos) ↑(.Constant .none j0 p0) rpos] pos::rest) D σ cls d H:=
 Ws g i j (λϵ s e T R I F h=>Gb I F a c f ex (h s.heap λ_ _ z=>z)) O l m n
end
section
variable{X:Cx}{a e:Ϫ}{σ σ':St}{H:Hp}{Q:VK}{D:Ends}{pos spos py p p':Pos}{tg elt iter:Ϫ}{scope:aiZ}{Kx:St->XK}{y:Str}{j:Nat}
def aeo{b:Ϫ}{elts:List Ϫ}{k:Nat}{tp:Pos}(N':List Str)(f:bN N' X.N σ scope=σ')(E:ak X Kx)(F:X.stack=X.env::X.outer)(g:X.env.frame=↑X.env.locals)(G:X.calm=true)(S:bO X.env scope)(I:Gl X "zip")(J:X.mg "zip"=none)(hs:ϳ [a,b] X.env=[(false,eval a X.env),(false,eval b X.env)])(j:ϳ [b] X.env=[(false,eval b X.env)])(h:EV X a σ H λv H1=>EV X b σ H1 λB H2=>∃l m xs ys,v=.ref l/\B=.ref m/\H2 l=↑(.lst xs)/\H2 m=↑(.lst ys)/\min ↥xs ↥ys<=ϱ/\
   zr X N' scope (.Tuple elts k tp) elt σ σ' Kx H2 Q (min ↥xs ↥ys) λi c x C=>∃T y z,x=.ref T/\c T=none/\C=upd c T (.tup [y,z])/\xs[i]?=↑y/\ys[i]?=↑z):EV X (.ListComp elt [#[.Tuple elts k tp,.Call (.Name "zip" p) [a,b] [] p',[],0]] scope pos) σ H Q:=by
 show ZC (N':=N') E F g G S (by intro _;rfl) (Za I J hs j (aP h λv H1 q=>aP q λB H2 q=>?_));let#[l,m,xs,ys,e1,L,D,e,h2,M]:=q;show#[l,m,xs,ys,e1,L,D,e,?_];rw[f];let n:θ X.K H2 l xs:=.inl (.inl D);let o:θ X.K H2 m ys:=.inl (.inl e);show G9 h2 (λi c s hi=>#[xs,ys,xs[i]'(),ys[i]'(),ζ.seq s n,ζ.seq s o,aag _,aag _]) (λc s=>#[xs,ys,ζ.seq s n,ζ.seq s o,Ϭ _]) (λi c x C hi s y=>?_) M;let#[T,u,O,P,R,U,W,Y]:=y;show#[T,u,O,P,R,U,W xs (ζ.seq s n),Y ys (ζ.seq s o)]
end
section
variable{X:Cx}{Kx:St->XK}{D:Ends}{σ:St}{H:Hp}{cls:ε}{d:Option δ×Bool}
def aft(B:ak X Kx)(C:X.env.frame=↑X.env.locals)(q:Kx σ cls d H):EH X [] D σ cls d H:=by
 intro ϵ f e T E F ch;show wpAny_handleBy_nil ?_;let#[G,vs,g,I,i,hd,h1,J,h2,L]:=id F;let#[u,P,ws,j,l,M]:=L T rfl;let x:3<ws.size:=(aia.mp M).1;let a:vs[1]?=↑(Value.ref T):=h1;unfold PySem.passOn;show Ϧ (akC g hd a ?_);rw[if_neg (show ¬((Value.ref T==Value.none)=true)from by simp)];show Ϧ ?_;unfold setFlight;show Ϧ (akC g hd a ?_);rw[if_pos (show(Value.ref T !=Value.none)=true from by simp),C];show amj j l x ?_;let oth:∀b,b≠T->(f.heap.update T (Obj.mapFields (·.setIfInBounds 3 (rawInt X.env.locals)))).get? b=f.heap.get? b:=λb c=>aaK _ _ (Ne.symm c)
 let m:=adZ (Obj.mapFields (·.setIfInBounds 3 (rawInt X.env.locals))) j (Obj.isFreed_of_fields (Obj.data_mapFields l _));let N:jW f.heap (f.heap.update T (Obj.mapFields (·.setIfInBounds 3 (rawInt X.env.locals)))) [T] (bY X.stack):=by
  show#[λb o q _ n=>(oth b (λz=>n (by simp[z]))).trans q,λb o q n=>#[o.slots,(oth b (λz=>n (by simp[z])))<|>q],λb o q=>?_];by_cases z:b=T
  .subst z;show#[_,m]
  .show#[o,(oth b z)<|>q]
 show wpAny_throw (B ϵ σ H _ e cls d #[E.noted N λb c=>?_,↑T,rawInt X.env.locals,#[G,vs,(oth e (Ne.symm u))<|>g,I,i,hd,h1,J,h2.stay λv o p Q s y=>?_,λR O=>?_],.inr #[rfl,rfl],λb c=>ch b (~~~c)] q)
 .let z:b=T:= ~~~c
  subst z;show ch b (by simp)
 .by_cases z:v=T
  .subst z;rw[j]at s;cases s;show#[_,_,m,Obj.data_mapFields y _,by rw[agC (by decide)]]
  .show#[o,p,(oth v z)<|>s,y,rfl]
 .cases O;show#[u,_,_,m,Obj.data_mapFields l _,by simp[x]]
end
end _L
namespace _L
open PySem PySem.Spec PyProof.Rows PySem.W
def pw{α:Type}(lt:Nat->Nat->Bool)(n:Nat):KasT α->(α->Prop)->Prop
 |.ret a,Q=>Q a
 |.ask i j k,Q=>i<n/\j<n/\pw lt n (k (lt i j)) Q
theorem sJ{α β:Type}{lt:Nat->Nat->Bool}{n:Nat}{f:α->KasT β}{Q:β->Prop}:∀(t:KasT α),pw lt n t (λa=>pw lt n (f a) Q)->pw lt n (t.bind f) Q
 |.ret a,h=>h
 |.ask i j k,h=>#[h.1,h.2.1,sJ (k (lt i j)) h.2.2]
theorem iR{α:Type}{lt:Nat->Nat->Bool}{n:Nat}{Q c:α->Prop}(e:∀a,Q a->c a):∀(t:KasT α),pw lt n t Q->pw lt n t c
 |.ret a,h=>e a h
 |.ask i j k,h=>#[h.1,h.2.1,iR e (k (lt i j)) h.2.2]
theorem TX{α:Type}{lt:Nat->Nat->Bool}{n:Nat}{c:Nat->Nat->(Bool->ν->Prop)->ν->Prop}{I:ν->Prop}{G:α->ν->Prop}(f:∀i j C s,i<n->j<n->I s->(∀s',I s'->C (lt i j) s')->c i j C s):∀(t:KasT α)(s:ν),I s->pw lt n t (λa=>∀s,I s->G a s)->t.kasWp c G s
 |.ret a,s,hs,h=>h s hs
 |.ask i j k,s,hs,h=>f i j _ s h.1 h.2.1 hs λs' e=>TX f (k (lt i j)) s' e h.2.2
structure aO(lt:Nat->Nat->Bool):Prop where
 ir:∀i,lt i i=false
 tr:∀i j k,lt i j=true->lt j k=true->lt i k=true
 nt:∀i j k,lt i k=true->lt i j=true\/lt j k=true
section
variable{lt:Nat->Nat->Bool}{n:Nat}(W:aO lt)
def aO.as(W:aO lt){i j:Nat}(h:lt i j=true):lt j i=false:=by
 rw[akc];intro h2;have:=W.tr i j i h h2;rw[W.ir]at this;cases this
def Rk(lt:Nat->Nat->Bool)(i j:Nat):Prop:=lt i j=true\/(lt j i=false/\i<j)
def aO.sO(W:aO lt){a b c:Nat}(h:lt a b=true)(h2:lt c b=false):lt a c=true:=by
 obtain h|h:=W.nt a c b h
 .show h
 .rw[h2]at h;cases h
def aO.VH(W:aO lt){a b c:Nat}(h:lt b c=true)(h2:lt b a=false):lt a c=true:=by
 obtain h|h:=W.nt b a c h
 .rw[h2]at h;cases h
 .show h
def aO.rtr(W:aO lt){i j k:Nat}(h:Rk lt i j)(h2:Rk lt j k):Rk lt i k:=by
 obtain h|⟨h,h'⟩:=h
 .obtain h2|⟨h2,a⟩:=h2
  .show .inl (W.tr _ _ _ h h2)
  .show .inl (W.sO h h2)
 .obtain h2|⟨h2,a⟩:=h2
  .show .inl (W.VH h2 h)
  .show .inr #[?_,()];rw[akc];intro c;obtain h4|h4:=W.nt k j i c
   .rw[h2]at h4;cases h4
   .rw[h]at h4;cases h4
abbrev gt(p:Array Nat)(k:Nat):Nat:=p.getD k 0
def yG{p:Array Nat}{k v:Nat}(h:p[k]?=↑v):gt p k=v:=by
 let#[a,e]:=aia.mp h;show p.getD k 0=v;simp[atU,a,e]
def tY{p:Array Nat}{k:Nat}(h:k<p.size):p[k]?=↑(gt p k):=by
 show p[k]?=↑(p.getD k 0);simp[atU,h]
def gJ{p:Array Nat}{i j k:Nat}(a:j<=p.size)(c:k<p.size:=by omega):gt (kas_rev p i j) k=if i<=k/\k<j then gt p (i+j-1-k)else gt p k:=by
 apply yG;unfold kas_rev;rw[getElem?_mirror_all a];by_cases h:i<=k/\k<j
 .rw[if_pos h,if_pos h];show tY ()
 .rw[if_neg h,if_neg h];show tY c
theorem afw{p:Array Nat}{i j:Nat}:(kas_rev p i j).size=p.size:=mirror_size _ _ _ _
def agI{p:Array Nat}{k d j:Nat}(a:k<p.size)(hd:d<=k)(c:j<p.size):gt (bubble p k d) j=if j=k-d then gt p k else if k-d<j/\j<=k then gt p (j-1)else gt p j:=by
 apply yG;rw[getElem?_bubble a d hd];by_cases h1:j=k-d
 .rw[if_pos h1,if_pos h1];show tY a
 .rw[if_neg h1,if_neg h1];by_cases h2:k-d<j/\j<=k
  .rw[if_pos h2,if_pos h2];show tY ()
  .rw[if_neg h2,if_neg h2];show tY c
structure Pl(n:Nat)(p:Array Nat)(m:Nat):Prop where
 size:p.size=n
 low:∀i,i<m->gt p i<m
 tail:∀k,m<=k->k<n->gt p k=k
 pm:p.toList.Perm (afd n)
def Pl.all{p:Array Nat}{m:Nat}(h:Pl n p m)(a:m<=n){i:Nat}(hi:i<n):gt p i<n:=by
 by_cases h1:i<m
 .have :=h.low i h1;omega
 .rw[h.tail i () hi];show hi
def Pl.up{p:Array Nat}{m:Nat}(h:Pl n p m)(a:m<n):Pl n p (m+1):=by
 show#[h.size,λi hi=>?_,λk h1 h2=>h.tail k () h2,h.pm];by_cases h1:i<m
 .have :=h.low i h1;omega
 .let e:i=m:=()
  subst e;rw[h.tail i (Ϭ _) a];omega
def Pl.rev{p:Array Nat}{m i j:Nat}(h:Pl n p m)(c:m<=n)(e:j<=m):Pl n (kas_rev p i j) m:=by
 let hs:=h.size;show#[by rw[afw];show hs,λk a=>?_,λk h1 h2=>?_,(arT.mp (mirror_perm p i j ((j-i) / 2)))<|>h.pm]
 .rw[gJ ()];split
  .show h.low _ ()
  .show h.low _ a
 .rw[gJ (),if_neg ()];show h.tail k h1 h2
def fK(lt:Nat->Nat->Bool)(p:Array Nat)(m:Nat):=∀i j,i<j->j<m->Rk lt (gt p i) (gt p j)
def jb(lt:Nat->Nat->Bool)(p:Array Nat)(m:Nat):=∀i j,i<j->j<m->Rk lt (gt p j) (gt p i)
def jb.rev{p:Array Nat}{m:Nat}(h:jb lt p m)(a:m<=p.size):fK lt (kas_rev p 0 m) m:=by
 intro i j c e;rw[gJ a,gJ a,if_pos (),if_pos ()];show h _ _ () ()
theorem CG(W:aO lt){p:Array Nat}:∀(f m:Nat),1<=m->m+f<=n->Pl n p m->fK lt p m->pw lt n (kas_asc p f m) λm'=>m<=m'/\m'<=m+f/\Pl n p m'/\fK lt p m'/\(m'<m+f->lt (gt p m') (gt p (m'-1))=true)
 |0,m,h1,q,a,c=>#[Ϭ _,Ϭ _,a,c,λh=>absurd h ()]
 |f+1,m,h1,q,a,c=>by
  show#[a.all () (),a.all () (),?_];cases e:lt (gt p m) (gt p (m-1))with
  |true=>
   show pw lt n (if true=true then _ else _) _;rw[if_pos rfl];show#[Ϭ _,(),a,c,λ_=>e]
  |false=>
   show pw lt n (if false=true then _ else _) _;rw[if_neg (by decide)];let o:Rk lt (gt p (m-1)) (gt p m):=.inr #[e,by rw[a.tail m (Ϭ _) ()];show a.low _ ()];show iR (λm' h=>#[(),(),h.2.2.1,h.2.2.2.1,λh2=>h.2.2.2.2 ()]) _ (CG W f (m+1) () () (a.up ()) λi j g v=>?_);by_cases s:j<m
   .show c i j g s
   .let u:j=m:=()
    subst u;by_cases l:i=j-1
    .rw[l];show o
    .show W.rtr (c i (j-1) () ()) o
structure Dn(lt:Nat->Nat->Bool)(p:Array Nat)(m q:Nat):Prop where
 few:q+1<=m
 ahead:∀i j,i<j->j<m-(q+1)->Rk lt (gt p j) (gt p i)
 drop:∀i j,i<m-(q+1)->m-(q+1)<=j->j<m->lt (gt p j) (gt p i)=true
 fj:∀i j,m-(q+1)<=i->i<j->j<m->lt (gt p i) (gt p j)=false/\lt (gt p j) (gt p i)=false/\gt p i<gt p j
def Dn.done{p:Array Nat}{m q:Nat}(h:Dn lt p m q)(e:m<=p.size):jb lt (if q>0 then kas_rev p (m-(q+1)) m else p) m:=by
 let h1:=h.few;by_cases f:q>0
 .rw[if_pos f];intro i j a g;rw[gJ e,gJ e];by_cases hi:m-(q+1)<=i
  .rw[if_pos (),if_pos ()];have:=h.fj (m-(q+1)+m-1-j) (m-(q+1)+m-1-i) () () ();show .inr #[this.2.1,this.2.2]
  .rw[if_neg (show ¬(m-(q+1)<=i/\i<m)by omega)];by_cases c:m-(q+1)<=j
   .rw[if_pos ()];show .inl (h.drop _ _ () () ())
   .rw[if_neg ()];show h.ahead i j a ()
 .rw[if_neg f];intro i j a g;by_cases c:m-(q+1)<=j
  .show .inl (h.drop _ _ () c g)
  .show h.ahead i j a ()
def jb.next(W:aO lt){p:Array Nat}{m:Nat}(h:jb lt p m)(h1:1<=m)(g:∀i,i<m->lt (gt p m) (gt p i)=true):Dn lt p (m+1) 0:=by
 show#[(),λi j f l=>h i j f (),λi j hi l n=>?_,λi j a b c=>absurd b ()];let e:j=m:=()
 subst e;show g i ()
def jb.low(W:aO lt){p:Array Nat}{m x:Nat}(h:jb lt p m)(h1:1<=m)(a:lt x (gt p (m-1))=true):∀i,i<m->lt x (gt p i)=true:=by
 intro i hi;by_cases e:i=m-1
 .rw[e];show a
 .rcases h i (m-1) () ()with h2|⟨h2,_⟩
  .show W.tr _ _ _ a h2
  .show W.sO a h2
theorem za(W:aO lt):∀(f:Nat)(p:Array Nat)(m q:Nat),m+f<=n->Pl n p m->Dn lt p m q->pw lt n (kas_desc f p m q) λr=>m<=r.2.1/\r.2.1<=m+f/\Pl n r.1 r.2.1/\Dn lt r.1 r.2.1 r.2.2
 |0,p,m,q,D,a,hd=>#[Ϭ _,Ϭ _,a,hd]
 |f+1,p,m,q,D,a,hd=>by
  let z:=hd.few;let hsz:=a.size;show#[a.all () (),a.all () (),?_];cases e:lt (gt p m) (gt p (m-1))with
  |true=>
   show pw lt n (if true=true then _ else _) _;rw[if_pos rfl];let l:=hd.done ();by_cases B:q>0
   .rw[if_pos B]at l⊢;let s:=a.rev (i:=m-(q+1)) (j:=m) () (Ϭ _);let em:gt (kas_rev p (m-(q+1)) m) m=gt p m:=by rw[gJ (),if_neg ()]
    let E:gt (kas_rev p (m-(q+1)) m) (m-1)=gt p (m-(q+1)):=by
     rw[gJ (),if_pos ()]
     congr 1
     omega
    let F:lt (gt p m) (gt p (m-(q+1)))=true:=W.sO e (hd.fj (m-(q+1)) (m-1) (Ϭ _) () ()).1;show iR (λr h=>#[(),(),h.2.2]) _ (za W f _ (m+1) 0 () (s.up ()) (l.next W () λi hi=>?_));rw[em];show l.low W () (by rw[E];show F) i hi
   .rw[if_neg B]at l⊢;show iR (λr h=>#[(),(),h.2.2]) _ (za W f _ (m+1) 0 () (a.up ()) (l.next W () (l.low W () e)))
  |false=>
   show pw lt n (if false=true then _ else _) _;rw[if_neg (by decide)];show#[a.all () (),a.all () (),?_];cases e2:lt (gt p (m-1)) (gt p m)with
   |true=>
    show pw lt n (if true=true then _ else _) _;rw[if_pos rfl];show#[Ϭ m,show m<=m+(f+1)by omega,a,hd]
   |false=>
    show pw lt n (if false=true then _ else _) _;rw[if_neg (by decide)];let u:=a.tail m (Ϭ _) ();show iR (λr h=>#[(),(),h.2.2]) _ (za W f p (m+1) (q+1) () (a.up ()) #[(),λi j g C=>hd.ahead i j g (),λi j hi C G=>?_,λi j hi g C=>?_])
    .by_cases v:j<m
     .show hd.drop i j () () v
     .let x:j=m:=()
      subst x;show W.VH (hd.drop i (j-1) () () ()) e2
    .by_cases v:j<m
     .show hd.fj i j () g v
     .let x:j=m:=()
      subst x;let c:gt p i<gt p j:=by rw[u];show a.low i ()
      by_cases o:i=j-1
      .rw[o];rw[o]at c;show#[e2,e,c]
      .let h3:=hd.fj i (j-1) () () ();show#[?_,?_,c]
       .rw[akc];intro y;obtain h5|h5:=W.nt _ (gt p (j-1)) _ y
        .rw[h3.1]at h5;cases h5
        .rw[e2]at h5;cases h5
       .rw[akc];intro y;obtain h5|h5:=W.nt _ (gt p (j-1)) _ y
        .rw[e]at h5;cases h5
        .rw[h3.2.1]at h5;cases h5
def NP(W:aO lt){p:Array Nat}{m:Nat}(a:Pl n p m)(hd:jb lt p m)(h1:1<=m:=by omega)(c:m<=n:=by omega):pw lt n (kas_tail3 m n p) λr=>1<=r.1/\r.1<=n/\Pl n r.2 r.1/\fK lt r.2 r.1:=by
 let hsz:=a.size;show sJ _ (iR (λm' h=>#[by show 1<=m';omega,by show m'<=n;omega,h.2.2.1,h.2.2.2.1]) _ (CG W (n-m) m h1 () (a.rev c (Ϭ _)) (hd.rev ())))
def MJ(W:aO lt){p:Array Nat}{m:Nat}(h1:1<=m)(f:m<n)(g:Pl n p m)(hd:jb lt p m)(i:lt (gt p m) (gt p (m-1))=true):pw lt n (kas_descPart m n p) λr=>1<=r.1/\r.1<=n/\Pl n r.2 r.1/\fK lt r.2 r.1:=by
 show sJ _ (iR (λr h=>?_) _ (za W (n-(m+1)) p (m+1) 0 () (g.up f) (hd.next W h1 (hd.low W h1 i))));let#[l,o,c,j]:=h;let hsz:=c.size;let a:=j.done ();show pw lt n (if r.2.2>0 then _ else _) _;by_cases e:r.2.2>0
 .rw[if_pos e]at a⊢;show NP W (c.rev () (Ϭ _)) a
 .rw[if_neg e]at a⊢;show NP W c a
def afc:Pl n (ae4 (afd n)) 1:=by
 let a:∀k,k<n->gt (ae4 (afd n)) k=k:=λk c=>yG (by simp[c])
 show#[by simp,λi hi=>?_,λk _ h2=>a k h2,by simp];by_cases h:i<n
 .rw[a i h];show hi
 .show(ae4 (afd n)).getD i 0<1;simp[atU,h]
def ab2(W:aO lt)(h1:1<=n):pw lt n (kas_count n (ae4 (afd n))) λr=>1<=r.1/\r.1<=n/\Pl n r.2 r.1/\fK lt r.2 r.1:=by
 show sJ _ (iR (λm h=>?_) _ (CG W (n-1) 1 (Ϭ _) () afc λi j a b=>absurd a ()));let#[x,C,c,g,y]:=h;let hsz:=c.size;show pw lt n (if(m==n)=true then _ else _) _;by_cases l:m=n
 .rw[if_pos (by rw[beq_iff_eq];show l)];show#[by show 1<=m;omega,by show m<=n;omega,c,g]
 .rw[if_neg (by rw[beq_iff_eq];show l)];let f:=y ();by_cases o:m>1
  .rw[if_pos o];show#[c.all () (),c.all () (),?_];cases e:lt (gt (ae4 (afd n)) 0) (gt (ae4 (afd n)) (m-1))with
   |true=>
    show pw lt n (if true=true then _ else _) _;rw[if_pos rfl];show#[by show 1<=m;omega,by show m<=n;omega,c,g]
   |false=>
    show pw lt n (if false=true then _ else _) _;rw[if_neg (by decide)];generalize ae4 (afd n)=p at c g f e hsz⊢;let q:∀i,i<m->lt (gt p i) (gt p 0)=false:=λi hi=>by
     by_cases s:i=0
     .rw[s];show W.ir _
     .rcases g 0 i () hi with h|h
      .show W.as h
      .show h.1
    let u:∀j,j<m->lt (gt p (m-1)) (gt p j)=false:=λj v=>by
     by_cases s:j=m-1
     .rw[s];show W.ir _
     .rcases g j (m-1) () ()with h|h
      .show W.as h
      .show h.1
    let fj:∀i j,i<m->j<m->lt (gt p i) (gt p j)=false:=λi j hi v=>by
     rw[akc];intro h;obtain h2|h2:=W.nt _ (gt p 0) _ h
     .rw[q i hi]at h2;cases h2
     .obtain h3|h3:=W.nt _ (gt p (m-1)) _ h2
      .rw[e]at h3;cases h3
      .rw[u j v]at h3;cases h3
    let z:jb lt (kas_rev p 0 m) m:=λi j B v=>by
     rw[gJ (),gJ (),if_pos (),if_pos ()];show .inr #[fj _ _ () (),?_];rcases g (0+m-1-j) (0+m-1-i) () ()with h|h
     .rw[fj _ _ () ()]at h;cases h
     .show h.2
    show MJ W x () (c.rev () (Ϭ _)) z ?_;rw[gJ (),gJ (),if_neg (),if_pos ()];show W.sO f (fj _ _ () ())
  .rw[if_neg o];let em:m=1:=()
   subst em;show MJ W x () c (λi j a b=>absurd a ()) f
theorem Gp(W:aO lt){p:Array Nat}{k:Nat}(j:k<n)(c:Pl n p k)(g:fK lt p k):∀(f l r:Nat),r-l<=f->l<=r->r<=k->(∀i,i<l->lt (gt p k) (gt p i)=false)->(∀i,r<=i->i<k->lt (gt p k) (gt p i)=true)->
  pw lt n (kas_place p k f l r) λl'=>l'<=k/\(∀i,i<l'->lt (gt p k) (gt p i)=false)/\∀i,l'<=i->i<k->lt (gt p k) (gt p i)=true
 |0,l,r,u,m,o,h1,h2=>#[(),h1,λi a b=>h2 i () b]
 |f+1,l,r,u,m,o,h1,h2=>by
  show pw lt n (if l≥r then _ else _) _;by_cases h:l≥r
  .rw[if_pos h];show#[(),h1,λi a b=>h2 i () b]
  .rw[if_neg h];let q:(l+r) / 2<r/\l<=(l+r) / 2:=()
   show#[c.all () j,c.all () (),?_];cases e:lt (gt p k) (gt p ((l+r) / 2))with
   |true=>
    show pw lt n (if true=true then _ else _) _;rw[if_pos rfl];show Gp W j c g f l ((l+r) / 2) () () () h1 λi a b=>?_
    by_cases hi:i=(l+r) / 2
    .rw[hi];show e
    .rcases g ((l+r) / 2) i () b with h3|h3
     .show W.tr _ _ _ e h3
     .show W.sO e h3.1
   |false=>
    show pw lt n (if false=true then _ else _) _;rw[if_neg (by decide)];show Gp W j c g f ((l+r) / 2+1) r () () o (λi a=>?_) h2;by_cases hi:i=(l+r) / 2
    .rw[hi];show e
    .rw[akc];intro s;rcases g i ((l+r) / 2) () ()with h3|h3
     .have :=W.tr _ _ _ s h3;rw[e]at this;cases this
     .have :=W.sO s h3.1;rw[e]at this;cases this
theorem UL(W:aO lt):∀(f:Nat)(p:Array Nat)(k:Nat),k+f=n->Pl n p k->fK lt p k->pw lt n (kas_bin f p k) λp'=>Pl n p' n/\fK lt p' n
 |0,p,k,x,c,g=>by
  let e:k=n:=()
  subst e;show#[c,g]
 |f+1,p,k,x,c,g=>by
  let hsz:=c.size;show sJ _ (iR (λl h=>?_) _ (Gp W () c g k 0 k () () (Ϭ _) (λi hi=>absurd hi ()) λi a b=>absurd a ()));let#[z,h1,h2]:=h;let o:∀j,j<n->gt (bubble p k (k-l)) j=if j=l then gt p k else if l<j/\j<=k then gt p (j-1)else gt p j:=λj y=>by
   rw[agI () () (),show k-(k-l)=l by omega]
  let u:=c.tail k (Ϭ _) ();show UL W f _ (k+1) () #[by rw[bubble_size];show hsz,λi hi=>?_,λi a b=>?_,(arT.mp (bubble_perm p k (k-l)))<|>c.pm] λi j q y=>?_
  .rw[o i ()];split
   .rw[u];omega
   .split
    .have :=c.low (i-1) ();omega
    .have :=c.low i ();omega
  .rw[o i b,if_neg (),if_neg ()];show c.tail i () b
  .rw[o i (),o j ()];by_cases s:i<l
   .rw[if_neg (),if_neg ()];by_cases m:j=l
    .rw[if_pos m];show .inr #[h1 i s,by rw[u];show c.low i ()]
    .rw[if_neg m];split
     .show g i (j-1) () ()
     .show g i j q ()
   .by_cases v:i=l
    .rw[if_pos v,if_neg (),if_pos ()];show .inl (h2 (j-1) () ())
    .rw[if_neg v,if_pos (),if_neg (),if_pos ()];show g (i-1) (j-1) () ()
def alw(W:aO lt)(h1:1<=n):pw lt n (kas_sort n) λp=>Pl n p n/\fK lt p n:=by
 show sJ _ (iR (λr h=>?_) _ (ab2 W h1));let#[f,g,a,c]:=h;show pw lt n (if r.1<n then _ else _) _;by_cases h:r.1<n
 .rw[if_pos h,show max r.1 1=r.1 by omega];show UL W (n-r.1) r.2 r.1 () a c
 .rw[if_neg h];let e:r.1=n:=()
  rw[e]at a c;show#[a,c]
end
abbrev Cx.Ϗ(X:Cx):Cx:={X with A:=X.A.in1.in1}
section
variable{X:Cx}{ϵ:List (δ×Obj)}{σ:St}{H:Hp}{s:ν}
theorem Cx.Ok.Ϗ(ok:X.Ok):X.Ϗ.Ok:=
 #[ok.mod,ok.kind,ok.glob,ok.blt,ok.above,ok.inj,ok.has,ok.cab,ok.hd,ok.frames,ok.stk,ok.exf,ok.bs,ok.bsz,ok.noex,ok.exfs,ok.funs,ok.frf]
theorem Inv.Ϗ(I:Inv X ϵ σ H s):Inv X.Ϗ ϵ σ H s:=#[I.ok.Ϗ,I.os,I.bare,I.base,I.loc,I.cell,I.free,I.freeC,I.pin,I.hok,I.len]
theorem Inv.un2(ok:X.Ok)(I:Inv X.Ϗ ϵ σ H s):Inv X ϵ σ H s:=#[ok,I.os,I.bare,I.base,I.loc,I.cell,I.free,I.freeC,I.pin,I.hok,I.len]
def Inv.afJ{e:δ}{o:HO}(I:Inv X ϵ σ H s)(a:H e=none)(c:Ch X ϵ e)(ok:Ϟ X.prog X.w (upd H e o) s.heap e o):Inv X ϵ σ (upd H e o) s:=by
 let ne:∀b u,H b=↑u->b≠e:=λb u q=>Ξ q a
 have:=I.step (h':=s.heap) (H':=upd H e o) (g':=s.gens) (d':=s.drawn) (t':=s.toks) (ch:=[e]) (λb f=>?_) (λb o _ _ _ q _=>q) (λb o _ _ _ q _=>#[o.slots,q]) (λb o g _ n=>?_) (λb o _ q=>#[o,q]) (λb xs q=>?_) (λb o u q=>?_) (λb ps q=>?_) (λm i=>i) (λb u q=>?_) I.bare
 .show this
 .let z:b=e:= ~~~f
  subst z;show c
 .rw[ι (λz=>g (by simp[z]))];show n
 .rw[ι (ne<*q)];show q
 .rw[ι (ne<*q)];show q
 .show#[#v[],by rw[ι (ne<*q),q];simp]
 .by_cases z:b=e
  .subst z;rw[ξ]at q;cases q;show ok
  .rw[ι z]at q;show(I.hok b u q).stay (λ_ _ _ r=>r) (λc r=>by rw[ι (ne<*r)];show r) (λc xs r=>by rw[ι (ne<*r)];show r) λc j v r=>by rw[ι (ne<*r)];show r
theorem bK.ch{b:δ}(f:bK X ϵ H b):Ch X ϵ b:=#[f.2.2.2.1,f.2.1,f.2.2.2.2.1,f.2.2.2.2.2]
def aa(X:Cx)(ϵ:List (δ×Obj))(H:Hp)(s:ν)(b:δ)(vs:List ε)(e:Nat):Prop:=s.heap.get? b=↑(seqObj "list" vs.toArray e)/\bK X ϵ H b
theorem Ul{c:String}{xs:Array ε}{e:Nat}:∀v,(seqObj c xs e).data≠.cell v:=λv h=>by cases h
def aa.set{b c:δ}{vs us ws:List ε}{e ec:Nat}{g:Array ε->Array ε}(I:Inv X ϵ σ H s)(h:aa X ϵ H s b vs e)(a:aa X ϵ H s c ws ec)(p:c≠b)(u:g vs.toArray=us.toArray):∃v,Inv X ϵ σ H {s with heap:=s.heap.update b (Obj.mapSeq g)}/\aa X ϵ H {s with heap:=s.heap.update b (Obj.mapSeq g)} b us v/\aa X ϵ H {s with heap:=s.heap.update b (Obj.mapSeq g)} c ws ec:=by
 let#[h1,f,i,y,j,l,m]:=h;let hs:=Heap.SameBut.update s.heap b (Obj.mapSeq g);let n:=get?_update_seq h1 g;rw[u]at n;show#[_,I.turned (t':=s.toks) (it:=b) (λx o z q=>(hs.2 x z).trans q) f i j l m,#[n,f,i,y,j,l,m],#[(hs.2 c p)<|>a.1,a.2]]
theorem aa.pin{kS D:δ}{vs ws:List ε}{e f:Nat}(I:Inv X ϵ σ H s)(h:aa X ϵ H s kS vs e)(c:aa X ϵ H s D ws f):Inv X (ϵ++gY [kS,D] s.heap) σ H s:=
 I.pinned (λb a=>by
  obtain z|z:=aaz.mp a
  .rw[z];show h.2
  .let z:b=D:= ~~~z
   rw[z];show c.2) λb a=>by
  obtain z|z:=aaz.mp a
  .rw[z];show#[_,h.1,Ul]
  .let z:b=D:= ~~~z
   rw[z];show#[_,c.1,Ul]
def aa.SJ{kS D:δ}{vs ws:List ε}{e ec:Nat}{H':Hp}{s':ν}(h:aa X ϵ H s kS vs e)(a:aa X ϵ H s D ws ec)(I:Inv X (ϵ++gY [kS,D] s.heap) σ H' s'):Inv X ϵ σ H' s'/\aa X ϵ H' s' kS vs e/\aa X ϵ H' s' D ws ec:=by
 let one:∀(b:δ)(us:List ε)(eb:Nat),b∈[kS,D]->aa X ϵ H s b us eb->aa X ϵ H' s' b us eb:=λb us eb c o=>by
  let f:(b,seqObj "list" us.toArray eb)∈X.pn++(ϵ++gY [kS,D] s.heap):=by
   show adV _ (adV _ ?_);unfold gY;show ap9.mpr #[b,c,by rw[o.1];rfl]
  let#[p1,p2,p3,g,i]:=I.pin _ f;show#[p1,p2,o.2.2.1,o.2.2.2.1,o.2.2.2.2.1,o.2.2.2.2.2.1,o.2.2.2.2.2.2]
 show#[I.unpinned,one kS vs e (by simp) h,one D ws ec (by simp) a]
structure ym(X:Cx)(σ:St)(f:ε)(vs:List ε)(H₁:Hp)(Kp:Nat->ε->Hp->Prop):Prop where
 mono:∀i k H H',ζ H H'->Kp i k H->Kp i k H'
 call:∀i v ϵ s H,vs[i]?=↑v->ζ H₁ H->Inv X.Ϗ ϵ σ H s->π ∅ X.A.in1.in1 (call f [v]) (λk s'=>∃H',Inv X.Ϗ ϵ σ H' s'/\ζ H H'/\Kp i k H') (λ_ _=>False) s
def JH(X:Cx)(σ:St)(H:Hp)(ks:List ε)(lt:Nat->Nat->Bool)(κ:SortKind):Prop:=
 ∀i j a c ϵ s,ks[i]?=↑a->ks[j]?=↑c->Inv X.Ϗ ϵ σ H s->π ∅ X.A.in1.in1 (keyLt' κ a c) (λr s'=>r=lt i j/\Inv X.Ϗ ϵ σ H s') (λ_ _=>False) s
structure nF(X:Cx)(σ:St)(n:Nat)(Kp:Nat->ε->Hp->Prop)(lt:Nat->Nat->Bool):Prop where
 kind:∀ϵ s H ks,Inv X.Ϗ ϵ σ H s->↥ks=n->2<=n->(∀(i:Nat) k,ks[i]?=↑k->Kp i k H)->
  π ∅ X.A.in1.in1 (keyKind' (ae4 ks)) (λκ s'=>Inv X.Ϗ ϵ σ H s'/\JH X σ H ks lt κ) (λ_ _=>False) s
def mY(b:Bool)(lt:Nat->Nat->Bool)(i j:Nat):Bool:=if b=true then lt j i else lt i j
def gK(n:Nat)(lt:Nat->Nat->Bool)(q:List Nat):Prop:=q.Perm (afd n)/\q.Pairwise (Rk lt)
theorem Xy{p:Array Nat}{i v:Nat}(h:p.toList[i]?=↑v):gt p i=v:=yG (by rw[<-aoI];show h)
def aea{n:Nat}{lt:Nat->Nat->Bool}{p:Array Nat}(h:Pl n p n)(a:fK lt p n):gK n lt p.toList:=by
 show#[h.pm,?_];let f:↥p.toList=n:=by rw[an6];show h.size
 rw[List.pairwise_iff_getElem];intro i j hi e c;let h1:=Xy (aag hi);let h2:=Xy (aag e);rw[<-h1, <-h2];show a i j c ()
def amU{n:Nat}{lt:Nat->Nat->Bool}{q:List Nat}(h:gK n (λi j=>lt (n-1-i) (n-1-j)) q):gK n (mY true lt) (q.map (n-1- ·)).reverse:=by
 let#[f,g]:=h;let a:∀x∈q,x<n:=λx c=>arX.mp (f.subset c)
 show#[?_,?_]
 .show(ath _).trans ((f.map _).trans ?_);let e:(afd n).map (n-1- ·)=(afd n).reverse:=by
   apply atx
   .simp
   .intro i h1 h2;simp at h1;simp
  rw[e];show ath _
 .rw[List.pairwise_reverse,List.pairwise_map];show g.imp_of_mem λ{x y} c l r=>?_;let h1:=a x c;let h2:=a y l;obtain r|⟨r,m⟩:=r
  .show .inl r
  .show .inr #[r,()]
end
section
variable{X:Cx}{ϵ:List (δ×Obj)}{σ:St}{H H₁:Hp}{s:ν}{vs:List ε}{f:ε}{b:Bool}{Kp:Nat->ε->Hp->Prop}{lt:Nat->Nat->Bool}{kS D:δ}{e1:Nat}
def akn(X:Cx)(ϵ:List (δ×Obj))(σ:St)(H₁:Hp)(Kp:Nat->ε->Hp->Prop)(kS D:δ)(e1:Nat)(ks:List ε)(s:ν):Prop:=
 ∃H' e,Inv X.Ϗ ϵ σ H' s/\ζ H₁ H'/\aa X.Ϗ ϵ H' s kS ks e/\aa X.Ϗ ϵ H' s D [] e1/\∀(i:Nat) k,ks[i]?=↑k->Kp i k H'
theorem ZR{body:ε->PUnit->Sem (ForInStep PUnit)}{A:ϴ}{E:ε->ν->Prop}{R:List ε->ν->Prop}(e:∀i v ks s,vs[i]?=↑v->↥ks=i->R ks s->π ∅ A (body v #[]) (λr s'=>r=.yield #[]/\∃k,R (ks++[k]) s') E s):∀(r ks:List ε)(s:ν),vs.drop ↥ks=r->R ks s->π ∅ A (forIn r PUnit.unit body) (λ_ s'=>∃ks,↥ks=↥vs/\R ks s') E s\/↥vs<↥ks
 |[],ks,s,a,h=>by
  by_cases g:↥vs<↥ks
  .show .inr g
  .left;rw[asM];have:=List.drop_eq_nil_iff.mp a;show ϲ #[ks,(),h]
 |v::r,ks,s,a,h=>by
  left;let f:vs[↥ks]?=↑v:=by
   have:=congrArg (λl=>l[0]?) a;simp only[List.getElem?_drop,Nat.add_zero]at this;simpa using this
  let j:=(aab.mp f).1;rw[arQ];show Ϧ (ab9 (e ↥ks v ks s f rfl h) (λq s' m=>?_) λ_ _ x=>x);let#[rfl,k,h2]:=m;show π ∅ A (forIn r PUnit.unit body) _ E s';let c:vs.drop ↥(ks++[k])=r:=by
   rw[aa6,ahi, <-List.drop_drop,a];rfl
  obtain h3|h3:=ZR e r (ks++[k]) s' c h2
  .show h3
  .rw[aa6,ahi]at h3;omega
def Pu{P:PySem.Fin->ν->Prop}{E:ε->ν->Prop}{st:SortSt}{ks out:List ε}{e:Nat}(j:D≠kS)(I:Inv X.Ϗ ϵ σ H s)(l:aa X.Ϗ ϵ H s kS ks e)(m:aa X.Ϗ ϵ H s D [] e1)(c:(arrOf st).map (·.2)=ae4 out)(y:↥out<64)(n:↥ks<64)(o:failedOf st=none)(h:∀s' p,Inv X.Ϗ ϵ σ H s'->aa X.Ϗ ϵ H s' D (katRev b out) p->P (.done (.ret .none)) s'):π ∅ X.A.in1.in1 (ksk_tail D b e1 (.ref kS) st) P E s:=by
 let#[z,q,f,a]:=aa.set (us:=[]) (g:=λ_=> #v[]) I l m j rfl;let#[u,v,i,x]:=aa.set (us:=katRev b out) (g:=λ_=>ae4 (katRev b out)) q a f (Ne.symm j) rfl;let hsz:(ae4 (katRev b out)).size=↥out:=by rw[aaq,kat_len]
 unfold ksk_tail
 try dsimp only
 rw[c,kat_outs];show Ϧ (listUpdate_at l.1 rfl ?_ (by rw[aaq,ϯ];omega) (aht _))*>Ϧ (wpAny_letGo ?_)*>Ϧ (seqEpoch_at a.1 rfl ?_)*>Ϧ (listUpdate_at a.1 rfl ?_ (aht _) (adQ (ark hsz) (by rw[ϯ];omega)));rw[o];simp only[bne_self_eq_false,aqh,if_false];show ϲ (h _ u v i)
def jd(vs:List ε)(q:List Nat):List ε:=q.map λi=>vs.getD i Value.none
def aiD{P:PySem.Fin->ν->Prop}{E:ε->ν->Prop}{ks:List ε}{e:Nat}(W:aO lt)(C:nF X σ ↥vs Kp lt)(Ϻ:D≠kS)(g:↥vs<64)(m:↥ks=↥vs)(I:Inv X.Ϗ ϵ σ H s)(M:aa X.Ϗ ϵ H s kS ks e)(O:aa X.Ϗ ϵ H s D [] e1)(hK:∀(i:Nat) k,ks[i]?=↑k->Kp i k H)(h:∀s' R q,Inv X.Ϗ ϵ σ H s'->gK ↥vs (mY b lt) q->aa X.Ϗ ϵ H s' D (jd vs q) R->P (.done (.ret .none)) s'):π ∅ X.A.in1.in1 (ksk_end D b vs.toArray e1 (.ref kS) (ae4 ks)) P E s:=by
 let step:∀t:Sem PySem.Fin,π ∅ X.A.in1.in1 t P E s->π ∅ X.A.in1.in1 (if b=true then(do let _<-rule "list.sort.reverse";t)else t) P E s:=by
  intro t ht;split
  .show Ϧ (wpAny_rule ht)
  .show ht
 let B:↥(katRev b ks)=↥(katRev b vs):=by rw[kat_len,kat_len,m]
 unfold ksk_end
 try dsimp only
 show step _ ?_;by_cases o:↥vs<2
 .let a:vs.toArray.size<2:=by rw[aaq];omega
  rw[if_pos a,if_pos a];show Ϧ (ϲ ?_)*>Ϧ (ϲ ?_)
  try dsimp only
  let u:∀{α:Type}(l:List α),↥l<2->katRev b l=l:=λl m=>by
   unfold katRev
   match l,m with
   |[],_=>simp
   |[x],_=>simp
  rw[kat_pairs b m,u ks (),u vs o];let v:(arrOf (SortSt.mk' general' ((ae4 ks).zip vs.toArray) #v[] 7 none)).map (·.2)=ae4 vs:=by
   show((ae4 ks).zip vs.toArray).map (·.2)=ae4 vs;apply atv.mp;rw[Array.toList_map,ksk_zip];show(ks.zip vs).map Prod.snd=vs;rw[List.map_snd_zip ()]
  show Pu Ϻ I M O v g () rfl λs' R I' F=>?_
  rw[u vs o]at F;show h s' R (afd ↥vs) I' #[List.Perm.refl _,?_] ?_
  .match ↥vs,o with
   |0,_=>show List.Pairwise.nil
   |1,_=>show List.pairwise_singleton _ _
  .let S:jd vs (afd ↥vs)=vs:=by
    unfold jd;apply atx
    .simp
    .intro i h1 h2;simp[h2]
   rw[S];show F
 .let a:¬vs.toArray.size<2:=by rw[aaq];omega
  rw[if_neg a,if_neg a];show Ϧ (ab9 (C.kind _ s H ks (M.pin I O) m () hK) (λκ s0 T=>?_) λ_ _ x=>x.elim);let#[I0,G]:=T;rw[kat_pairs b m];let f:∀i,i<↥vs->(katRev b ks).getD i Value.none=ks.getD (if b=true then ↥vs-1-i else i) Value.none:=λi hi=>by
   cases b with
   |false=>rfl
   |true=>
    show ks.reverse.getD i Value.none=ks.getD (↥vs-1-i) Value.none;rw[acu,acu,asF (),m]
  let W':aO (λi j=>lt (if b=true then ↥vs-1-i else i) (if b=true then ↥vs-1-j else j)):=#[λi=>W.ir _,λi j k=>W.tr _ _ _,λi j k=>W.nt _ _ _];let J:(kas_sort ↥(katRev b vs)).kasWp (kas_ask X.prog X.w X.A.in1.in1 κ (katRev b ks)) (λp y=>Inv X.Ϗ (ϵ++gY [kS,D] s.heap) σ H y/\Pl ↥vs p ↥vs/\fK (λi j=>lt (if b=true then ↥vs-1-i else i) (if b=true then ↥vs-1-j else j)) p ↥vs) s0:=by
   rw[kat_len];show TX (lt:=λi j=>lt (if b=true then ↥vs-1-i else i) (if b=true then ↥vs-1-j else j)) (n:=↥vs) (I:=λy=>Inv X.Ϗ (ϵ++gY [kS,D] s.heap) σ H y) (λi j C' s1 hi hj U hC=>?_) _ s0 I0 (iR (λp L s1 U=>#[U,L.1,L.2]) _ (alw W' ()));unfold kas_ask;rw[f i hi,f j hj];let Y:(if b=true then ↥vs-1-i else i)<↥ks:=by split <;>omega
   let Z:(if b=true then ↥vs-1-j else j)<↥ks:=by split <;>omega
   let gi:ks[if b=true then ↥vs-1-i else i]?=↑(ks.getD (if b=true then ↥vs-1-i else i) Value.none):=by
    rw[acu,aag Y];rfl
   let gj:ks[if b=true then ↥vs-1-j else j]?=↑(ks.getD (if b=true then ↥vs-1-j else j) Value.none):=by
    rw[acu,aag Z];rfl
   show ab9 (G _ _ _ _ _ s1 gi gj U) (λr s2 hr=>?_) λ_ _ x=>x
   let#[rfl,I2]:=hr;show hC s2 I2
  show Ϧ (ab9 (kat_run (Q:=λc s'=>∃p:Array Nat,p.size=↥(katRev b vs)/\arrOf c=p.map (kas_item ((ae4 (katRev b ks)).zip (ae4 (katRev b vs))))/\failedOf c=none/\
    Inv X.Ϗ (ϵ++gY [kS,D] s.heap) σ H s'/\Pl ↥vs p ↥vs/\fK (λi j=>lt (if b=true then ↥vs-1-i else i) (if b=true then ↥vs-1-j else j)) p ↥vs)
   B (by rw[kat_len];omega) (by rw[kat_len];show g) (λp' c s' a1 a2 a3 a4=>#[p',a1,a2,a3,a4]) J) ?_ λ_ _ x=>x)
  rintro⟨⟨⟩,c⟩ s' ⟨p,L,v,hf,I2,ab,ac⟩
  try dsimp only
  let#[I3,ae,wy]:=aa.SJ M O I2;show Pu Ϻ I3 ae wy (kat_snds B v) (by rw[ϭ,an6,L,kat_len];show g) () hf λs4 e4 I4 uR=>?_
  let z:=aea ab ac;let af:∀x∈p.toList,x<↥vs:=λx hx=>arX.mp (z.1.subset hx)
  cases b with
  |false=>
   show h s4 e4 p.toList I4 z ?_*>uR
  |true=>
   show h s4 e4 _ I4 (amU z) ?_;let S:katRev true (p.toList.map λi=>(katRev true vs).getD i Value.none)=jd vs (p.toList.map (↥vs-1- ·)).reverse:=by
    show(p.toList.map λi=>vs.reverse.getD i Value.none).reverse=_;unfold jd;rw[List.map_reverse,agf]
    congr 1
    show asR λi hi=>?_
    show vs.reverse.getD i Value.none=vs.getD (↥vs-1-i) Value.none;rw[acu,acu,asF (af i hi)]
   rw[S]at uR;show uR
def afb{P:PySem.Fin->ν->Prop}{E:ε->ν->Prop}(W:aO lt)(F:ym X σ f vs H₁ Kp)(C:nF X σ ↥vs Kp lt)(M:D≠kS)(o:↥vs<64)(I:Inv X.Ϗ ϵ σ H s)(sm:ζ H₁ H)(T:aa X.Ϗ ϵ H s kS [] 0)(U:aa X.Ϗ ϵ H s D [] e1)(h:∀s' H' p q,Inv X.Ϗ ϵ σ H' s'->ζ H₁ H'->gK ↥vs (mY b lt) q->aa X.Ϗ ϵ H' s' D (jd vs q) p->P (.done (.ret .none)) s'):π ∅ X.A.in1.in1 (ksk_rest D f b vs.toArray e1 (.ref kS)) P E s:=by
 unfold ksk_rest;show Ϧ (wpAny_rule ?_)
 first
  |rw[List.forIn_toArray]
  |(rw[<-as8];simp only[List.toList_toArray])
  |rw[<-as8]
 show Ϧ (ab9 ((ZR (X:=X) (vs:=vs) (R:=akn X ϵ σ H₁ Kp kS D e1) (λi v ks s' O hi Y=>?_) vs [] s (by simp) #[H,0,I,sm,T,U,λi k e=>by simp at e]).resolve_right (by simp)) (λ_ s' hd=>?_) λ_ _ x=>x)
 .let#[H',e,u,c,a,l,y]:=Y;let Z:=(aab.mp O).1;show Ϧ (wpAny_attempt (ab9 (F.call i v _ s' H' O c (a.pin u l)) (λk Q hq=>?_) λ_ _ hF=>hF.elim));let#[H2,z,S,B]:=hq;let#[I3,m,wy]:=aa.SJ a l z;let ea:(ae4 ks).push k=ae4 (ks++[k]):=by simp
  let#[p,I4,G,uR]:=aa.set (us:=ks++[k]) (g:=(·.push k)) I3 m wy M ea
  try dsimp only
  show Ϧ (listUpdate_at m.1 rfl ?_ (by rw[aaq,ϯ];omega) (adQ (ark (Array.size_push ..)) (by rw[aaq,ϯ];omega)))*>ϲ #[rfl,k,H2,p,I4,c<|>S,G,uR,λj kj n=>?_];by_cases J:j<↥ks
  .rw[aed J]at n;show F.mono _ _ _ _ S (y j kj n)
  .let hj2:=(aab.mp n).1;rw[aa6,ahi]at hj2;let ej:j=↥ks:=()
   subst ej;rw[aoM]at n;cases n;rw[hi];show B
 .let#[ks,hl,H',e,u,c,a,l,y]:=hd
  try dsimp only
  show Ϧ (listItems_at a.1 rfl ?_)*>aiD W C M o hl u a l y λQ e2 q z hs L=>h Q H' e2 q z c hs L
end
section
variable{X:Cx}{ϵ:List (δ×Obj)}{σ:St}{H:Hp}{s:ν}{vs:List ε}{f:ε}{b:Bool}{Kp:Nat->ε->Hp->Prop}{lt:Nat->Nat->Bool}{l:δ}
def ad0{kw:List (Str×ε)}{Q:ε->ν->Prop}{E:ε->ν->Prop}(W:aO lt)(F:ym X σ f vs H Kp)(C:nF X σ ↥vs Kp lt)(u:↥vs<64)(I:Inv X ϵ σ H s)(G:s.heap.IsList l vs.toArray)(v:argsOk "sorted" #[[.ref l],kw])(y:∀x,argsOk "list.sort" #[[.ref x],kw])(J:∀x,apB.«list.sort» #[[.ref x],kw]=ksk_tree x f b)(h:∀D s' H' z q,Inv X ϵ σ H' s'->ζ H H'->gK ↥vs (mY b lt) q->aa X.Ϗ ϵ H' s' D (jd vs q) z->Q (.ref D) s'):π ∅ X.A (call (.builtin "sorted") [.ref l] kw) Q E s:=by
 show call_function_entry_kw kind_sorted plain_sorted entry_sorted v ?_;unfold apB.«sorted»;show Ϧ (m:=checkCount "sorted" 1 1 _) (ϲ ?_)*>Ϧ (collect_list G ?_ (by rw[ϯ];omega))*>Ϧ (wpAny_newList ?_ (by rw[ϯ];omega));let hsz:((s.heap.push (seqObj "list" #v[] 0)).update ⇑s (Obj.mapSeq (· ++vs.toArray))).objs.size=⇑s+1:=by
  rw[aty,size_push']
 let c:(((s.heap.push (seqObj "list" #v[] 0)).update ⇑s (Obj.mapSeq (· ++vs.toArray))).push (seqObj "list" vs.toArray 0)).get? (⇑s+1)=↑(seqObj "list" vs.toArray 0):=by
  rw[<-hsz];show abM _ rfl
 let keep:∀b o,s.heap.get? b=↑o->(((s.heap.push (seqObj "list" #v[] 0)).update ⇑s (Obj.mapSeq (· ++vs.toArray))).push (seqObj "list" vs.toArray 0)).get? b=↑o:=λb o q=>by
  let e:b<⇑s:=abU q;rw[ati _ _ _ (by rw[hsz];show acb (aqJ e)),apF _ _ _ _ (acb e),ati _ _ _ (acb e)];show q
 show π _ _ _ _ _ {s with heap:=((s.heap.push (seqObj "list" #v[] 0)).update ⇑s (Obj.mapSeq (· ++vs.toArray))).push (seqObj "list" vs.toArray 0)};rw[hsz];let g:(((s.heap.push (seqObj "list" #v[] 0)).update ⇑s (Obj.mapSeq (· ++vs.toArray))).push (seqObj "list" vs.toArray 0)).objs.size=⇑s+2:=by rw[size_push',hsz]
 generalize((s.heap.push (seqObj "list" #v[] 0)).update ⇑s (Obj.mapSeq (· ++vs.toArray))).push (seqObj "list" vs.toArray 0)=h2 at c keep g⊢;show Ϧ (acK (wpAny_call_entry_kw slot_list_sort #[_,c,rfl] entry_list_sort ?body (y _)))
 case body=>
  show π ∅ X.A.in1.in1 (apB.«list.sort» #[[.ref (⇑s+1)],kw]) _ _ _;rw[J];let i:⇑s<=⇑s+1:=aoF _;generalize ⇑s+1=a at c i⊢;obtain⟨e1,j⟩:∃e1,(h2.update a (Obj.mapSeq λ_=>(#v[]:Array ε))).get? a=↑(seqObj "list" #v[] e1):=#[_,get?_update_seq c λ_=> #v[]];let n:((h2.update a (Obj.mapSeq λ_=>(#v[]:Array ε))).push (seqObj "tuple" vs.toArray 0)).objs.size=⇑s+3:=by rw[size_push',aty,g]
  let L:∀b o,s.heap.get? b=↑o->(((h2.update a (Obj.mapSeq λ_=>(#v[]:Array ε))).push (seqObj "tuple" vs.toArray 0)).push (seqObj "list" #v[] 0)).get? b=↑o:=λb o q=>by
   let e:b<⇑s:=abU q;show aai _ (aai _ ?_);rw[apF _ _ _ _ (acb (abr e i))];show keep b o q
  let B:((h2.update a (Obj.mapSeq λ_=>(#v[]:Array ε))).push (seqObj "tuple" vs.toArray 0)).objs.size≠a:=by
   have:=abU c;rw[n];rw[g]at this;show arU (aqJ this)
  unfold ksk_tree;show Ϧ (listItems_at c rfl ?_)*>Ϧ (listUpdate_at c rfl ?_ (by rw[aaq,ϯ];omega) (aht _))*>Ϧ (seqEpoch_at j rfl ?_)*>Ϧ (wpAny_newTuple ?_ (by show ↥vs<=_;rw[ϯ];omega))*>Ϧ (wpAny_newList ?_ (aht _))*>acK ?_;let M:Inv X.Ϗ ϵ σ H {s with heap:=((h2.update a (Obj.mapSeq λ_=>(#v[]:Array ε))).push (seqObj "tuple" vs.toArray 0)).push (seqObj "list" #v[] 0)}:=I.Ϗ.kept (t':=s.toks) L;let p:⇑s<=((h2.update a (Obj.mapSeq λ_=>(#v[]:Array ε))).push (seqObj "tuple" vs.toArray 0)).objs.size:=by rw[n];show am6 _ _
  show afb (X:=X) (ϵ:=ϵ) (σ:=σ) (H:=H) (H₁:=H) (kS:=((h2.update a (Obj.mapSeq λ_=>(#v[]:Array ε))).push (seqObj "tuple" vs.toArray 0)).objs.size) (D:=a) (e1:=e1) W F C (Ne.symm B) u M (ζ.refl _) #[abM _ rfl,I.Ϗ.fpOk p (I.hok.fresh p)] #[aai _ (aai _ j),I.Ϗ.fpOk i (I.hok.fresh i)] λs' H' z q O sm P R=>#[_,rfl,?_]
  show ϲ #[_,rfl,h a s' H' z q (Inv.un2 I.ok O) sm P R]
def dm(xs:List V)(q:List Nat):List V:=q.map λi=>xs.getD i .non
theorem RX{xs:List V}{vs:List ε}(r:Vals xs vs):∀{q:List Nat},(∀i∈q,i<↥xs)->Vals (dm xs q) (jd vs q)
 |[],_=>.nil
 |i::q,h=>by
  let hil:=h i (by simp);let hi:xs[i]?=↑(xs[i]'hil):=aag hil;let#[u,e,a]:=r.get hi;show Vals (xs.getD i .non::dm xs q) (vs.getD i Value.none::jd vs q);rw[acu,acu,hi,e];show .cons a (RX r λj c=>h j (by simp[c]))
theorem GD{n:Nat}{lt:Nat->Nat->Bool}{q:List Nat}(h:gK n lt q){i:Nat}(hi:i∈q):i<n:=arX.mp (h.1.mem_iff.mp hi)
def ajL{n:Nat}{lt:Nat->Nat->Bool}{q:List Nat}(h:gK n lt q):↥q=n:=by rw[h.1.length_eq,ar6]
def Yv{kw:List (Str×ε)}{Q:VK}{E:ε->ν->Prop}{xs:List V}(W:aO lt)(hs:θ X.K H l xs)(y:↥xs<64)(z:∀vs,Vals xs vs->ym X σ f vs H Kp/\nF X σ ↥xs Kp lt)(I:Inv X ϵ σ H s)(m:argsOk "sorted" #[[.ref l],kw])(u:∀x,argsOk "list.sort" #[[.ref x],kw])(B:∀x,apB.«list.sort» #[[.ref x],kw]=ksk_tree x f b)(h:∀p H' q,ζ H H'->H' p=none->gK ↥xs (mY b lt) q->Q (.ref p) (upd H' p (.lst (dm xs q)))):π ∅ X.A (call (.builtin "sorted") [.ref l] kw) (EP X ϵ σ Q) E s:=by
 let#[vs,r,pl,M]:=I.list hs;let a:=↥r;let#[C,v]:=z vs r;rw[a]at v;let#[o,n,e,c,d,F]:=pl;show ad0 (b:=b) W C v () I #[o,e,c,n,F] m u B λD s' H' G q J sm g j=>?_
 rw[<-a]at g;let L:=ajL g;show#[.ref D,_,J.afJ (e:=D) (o:=.lst (dm xs q)) j.2.1 j.2.ch #[?_,jd vs q,G,RX r λi hi=>GD g hi,j.1],rfl,h D H' q sm j.2.1 g];show(q.map _).length<=_;rw[ϭ];omega
end
def wC(A:ϴ)(s:ν)(a:Bool):List ε->List ε->Bool->Prop
 |x::xs,y::ys,r=>∃e,SeqAt.EqAt A s x y e/\(e=true->wC A s a xs ys r)/\(e=false->∀(prog:ϰ)(w:Ϯ)(E:ε->ν->Prop)(Q:ε->ν->Prop),Q (.bool r) s->π (ϧ prog w) A (richCompare .Lt x y) Q E s)
 |_,_,r=>r=a
open PySem.AutoSeq1 (wpAny_loadPart') in
theorem Wc(l b:δ)(c a:Array ε)(n F:Nat)(dd m:Option δ)(sl o:Array (Option ε))(r:Bool):Meets (apB.«tuple.__lt__» #[[.ref l,.ref b],[]])
   (λA R s=>s.heap.get? l=some {cls:=.type "tuple",dict:=dd,data:=.seq c n,slots:=sl}/\s.heap.get? b=some {cls:=.type "tuple",dict:=m,data:=.seq a F,slots:=o}/\
    wC A.in1 s (decide (c.size<a.size)) c.toList a.toList r/\R (.ok (.ret (.bool r))) s):=
 .of_wp λprog w A R s h=>by
  let#[C,g,d,tk,os]:=s;let#[h1,h2,f,D]:=h;let E:=AutoSeq1.sub_tuple_tuple
  wp_walk using wpAny_loadPart' h1,wpAny_loadPart' h2,wpAny_forIn_list _ (λleft j s'=>j.1=none/\s'=#[C,g,d,tk,os]/\∃p q,left=List.zip p q/\wC A.in1 #[C,g,d,tk,os] (decide (c.size<a.size)) p q r) _
  case turn=>
   rintro⟨x,y⟩ left j s' ⟨u,rfl,p,q,i,f⟩
   match p,q,f with
   |[],_,_=>cases i
   |_::_,[],_=>cases i
   |x'::p,G::q,f=>
    rw[as9]at i;injection i with v hrest
    injection v with ex H
    subst ex H;let#[e,I,J,L]:=f;show Ϧ (I prog w _ _ ?_);cases e with
    |true=>
     wp_walk
     show#[rfl,rfl,p,q,hrest,J rfl]
    |false=>
     let z:=L rfl prog w
     wp_walk using z
     show#[_,rfl,~~~D]
  case fin=>
   rintro⟨M,O⟩ s' ⟨u,rfl,p,q,i,f⟩
   simp only at u;subst u;let B:r=decide (c.size<a.size):=by
    match p,q,f with
    |[],[],f=>show f
    |[],_::_,f=>show f
    |_::_,[],f=>show f
    |x'::p,G::q,f=>rw[as9]at i;cases i
   subst B
   wp_walk
   show#[_,rfl,by simpa [Builtin.Tuple.tupleCompareSizes]using D]
  case h=>
   show#[rfl,rfl,c.toList,a.toList,rfl,f]
def cY:List V->List V->Bool
 |[],[]=>false
 |[],_::_=>true
 |_::_,[]=>false
 |x::_,y::_=>ltV x y
def jC(x y:V):Prop:=(∃m n,x=.int m/\y=.int n)\/∃m n,x=.str m/\y=.str n
def oA(r:List V):Prop:=r=[]\/∃x,r=[x]
def Ip(x:V):ltV x x=false:=by
 cases x with
 |int i=>show decide_eq_false ()
 |str z=>show decide_eq_false (List.lt_irrefl _)
 |_=>rfl
section
variable{prog:ϰ}{w:Ϯ}{A:ϴ}{E:ε->ν->Prop}{s:ν}{x y:V}{u v:ε}
def Y6(h:jC x y)(c:RelV x u)(f:RelV y v):∃e,SeqAt.EqAt A s u v e/\(e=true↔x=y):=by
 obtain⟨m,n,rfl,rfl⟩|⟨m,n,rfl,rfl⟩:=h
 .let#[t,rfl]:=c;let#[a,rfl]:=f;show#[_,SeqAt.EqAt.int_int m t n a,by simp]
 .let#[t,rfl]:=c;let#[a,rfl]:=f;show#[_,SeqAt.EqAt.str_str m t n a,by simp]
def ale{Q:ε->ν->Prop}(h:jC x y)(a:RelV x u)(c:RelV y v)(q:Q (.bool (ltV x y)) s):π (ϧ prog w) A (richCompare .Lt u v) Q E s:=by
 obtain⟨m,n,rfl,rfl⟩|⟨m,n,rfl,rfl⟩:=h
 .let#[t,rfl]:=a;let#[e,rfl]:=c;show lt_int q
 .let#[t,rfl]:=a;let#[e,rfl]:=c;show lt_str q
def ahl{Q:Bool->ν->Prop}(h:jC x y)(a:RelV x u)(c:RelV y v)(q:Q (ltV x y) s):π (ϧ prog w) A (oneLt' true u v) Q E s:=by
 obtain⟨m,n,rfl,rfl⟩|⟨m,n,rfl,rfl⟩:=h
 .let#[t,rfl]:=a;let#[e,rfl]:=c;show oneLt_int q
 .let#[t,rfl]:=a;let#[e,rfl]:=c;show oneLt_str q
def aa5{rx ry:List V}{us ws:List ε}(i:oA rx)(c:oA ry)(j:∀x y,rx=[x]->ry=[y]->jC x y)(f:Vals rx us)(a:Vals ry ws):wC A s (decide (↥us<↥ws)) us ws (cY rx ry):=by
 obtain rfl|⟨x,rfl⟩:=i
 .cases Vals.zero f;obtain rfl|⟨y,rfl⟩:=c
  .cases Vals.zero a;rfl
  .let#[v,rfl,_]:=Vals.one a;rfl
 .let#[u,rfl,r1]:=Vals.one f;obtain rfl|⟨y,rfl⟩:=c
  .cases Vals.zero a;rfl
  .let#[v,rfl,g]:=Vals.one a;let lk:=j x y rfl rfl;let#[e,l,hi]:=Y6 (A:=A) (s:=s) lk r1 g;show#[e,l,λh=>?_,λh prog w E Q q=>ale lk r1 g q];have:x=y:=hi.mp h;subst this;show ltV x x=decide (1<1);rw[Ip];rfl
end
section
variable{X:Cx}{ϵ:List (δ×Obj)}{σ:St}{H:Hp}{s:ν}{a b:δ}{rx ry:List V}
def Hd(I:Inv X ϵ σ H s)(h:H a=↑(.tup rx)):∃(f:List ε)(n:Nat)(dd:Option δ)(sl:Array (Option ε)),Vals rx f/\s.heap.get? a=some {cls:=.type "tuple",dict:=dd,data:=.seq f.toArray n,slots:=sl}:=by
 let#[_,f,r,#[cls,dd,data,sl],e,c,n,d]:=(I.hok a _ h:Ϟ X.prog X.w H s.heap a (.tup rx));simp only at c d;subst c d;show#[f,n,dd,sl,r,e]
def aj4{A:ϴ}{E:ε->ν->Prop}{κ:SortKind}{Q:Bool->ν->Prop}(l:A.units<cLine)(I:Inv X ϵ σ H s)(M:H a=↑(.tup rx))(O:H b=↑(.tup ry))(m:oA rx)(o:oA ry)(p:∀x y,rx=[x]->ry=[y]->jC x y)(j:κ=general'\/κ=oneType'\/(κ=tuples' true/\rx≠[]/\ry≠[]))(q:Q (cY rx ry) s):π ∅ A (keyLt' κ (.ref a) (.ref b)) Q E s:=by
 let#[us,n,dd,sl,B,c]:=Hd I M;let#[ws,C,f,g,D,i]:=Hd I O;let G:wC A.in1 s (decide (us.toArray.size<ws.toArray.size)) us.toArray.toList ws.toArray.toList (cY rx ry):=by
  simpa using aa5 m o p B D
 obtain rfl|rfl|⟨rfl,h1,h2⟩:=j
 .show π _ _ (oneLt' false (.ref a) (.ref b)) _ _ _*>kat_one _ _ ?_*>richCompare_meets_room (op:=.Lt) #[_,c,rfl] #[_,i,rfl] F.slot_tuple_lt F.entry_tuple_lt (F.args_tuple_lt_2 _ _) (Wc a b us.toArray ws.toArray n C dd f sl g (cY rx ry)) #[c,i,G,(λz=>nomatch z),q] l
 .show π _ _ (oneLt' true (.ref a) (.ref b)) _ _ _;rw[oneLt'_eq];simp only[if_true];show Ϧ (wpAny_cRoomFor l ?_)*>Ϧ (wpAny_callSpecialIfBound?_slot (T:="tuple") #[_,c,rfl] F.slot_tuple_lt ?_)*>ame F.slot_tuple_lt #[_,c,rfl] F.entry_tuple_lt (F.args_tuple_lt_2 _ _) (Wc a b us.toArray ws.toArray n C dd f sl g (cY rx ry)) #[c,i,G,?_]*>ahM q
 .obtain rfl|⟨x,rfl⟩:=m
  .show absurd rfl h1
  obtain rfl|⟨y,rfl⟩:=o
  .show absurd rfl h2
  let#[u,rfl,r1]:=Vals.one B;let#[v,rfl,J]:=Vals.one D;let lk:=p x y rfl rfl;show kat_lt c rfl i rfl ?_;let#[e,P,hi]:=Y6 (A:=A) (s:=s) lk r1 J;show kat_cons (P X.prog X.w _ _ ?_)*>kat_go (λh=>?_) λh=>?_
  .have :x=y:=hi.mp h;subst this;show kat_yes (kat_nil ?_);let L:Q (ltV x x) s:=q;rw[Ip]at L;show L
  .show kat_no (ahl lk r1 J q)
end
section
variable{M:Model}{A:ϴ}{E:ε->ν->Prop}{s:ν}
def wZ(h:ϫ):List ε->List (Option ε)->Prop
 |[],[]=>True
 |v::vs,f::fs=>(∃a o xs n,v=.ref a/\h.get? a=↑o/\o.cls=.type "tuple"/\o.data=.seq xs n/\xs[0]?=f)/\wZ h vs fs
 |_,_=>False
theorem ZW:∀(vs:List ε)(fs:List (Option ε)){Q:List (Option ε)->ν->Prop},wZ s.heap vs fs->Q fs s->π M A (vs.mapM firstOfTuple') Q E s
 |[],[],_,_,h=>by rw[List.mapM_nil];show ϲ h
 |[],_::_,_,t,_=>t.elim
 |_::_,[],_,t,_=>t.elim
 |v::vs,f::fs,Q,t,h=>by
  let#[#[a,o,xs,n,rfl,c,e,hd,g],t]:=t;rw[List.mapM_cons];show Ϧ ?_;rw[kas_first_eq];show Ϧ (Looks.here (show Looks M s.heap (typeOf (.ref a)) o.cls from(Looks.ld c).andThen .now) ?_);rw[e,if_neg (by first|decide|simp)];show Ϧ (listItems_at c hd (ϲ ?_));rw[g];show Ϧ (ZW vs fs (Q:=λbs s'=>π M A (pure (f::bs)) Q E s') t (ϲ h))
theorem Vy:∀{vs:List ε}{fs:List (Option ε)},wZ s.heap vs fs->∀v∈vs,Looks M s.heap (typeOf v) (.type "tuple")
 |v::vs,f::fs,t,u,hu=>by
  let#[#[a,o,xs,n,rfl,c,e,hd,g],t]:=t;obtain rfl|hu:=aaz.mp hu
  .rw[<-e];show(Looks.ld c).andThen .now
  .show Vy t u hu
def kind_any{vs:List ε}{fs:List (Option ε)}{T:ε}{Q:SortKind->ν->Prop}(t:wZ s.heap vs fs)(B:0<↥vs)(C:∀v,↑v∈fs->Looks M s.heap (typeOf v) T)(m:(T==T)=true)(n:(T !=Value.type "tuple")=true)(h1:(∀f∈fs,f.isSome=true)->Q (tuples' true) s)(h2:Q general' s)(G:Q oneType' s):π M A (keyKind' vs.toArray) Q E s:=by
 rw[kat_kind_eq,asa,map_eq_pure_bind];show Ϧ (Ϧ (ZW vs _ t (ϲ ?_)));by_cases i:(fs.toArray.all λx=>x.isSome)=true
 .rw[if_pos i];let a:∀f∈fs,f.isSome=true:= ~~~i
  show Ϧ (wpAny_rule ?_);let p:↥fs=↥vs:=by
   clear C h1 i a B;induction vs generalizing fs with
   |nil=>cases fs with
    |nil=>rfl
    |cons _ _=>show t.elim
   |cons v vs H=>cases fs with
    |nil=>show t.elim
    |cons f fs=>simp[H t.2]
  let q:fs.toArray.filterMap id=(fs.filterMap id).toArray:=by simp
  let D:fs.filterMap id≠[]:=by
   intro z
   match fs,p with
   |[],e=>simp at e;omega
   |f::fs,_=>
    let#[v,rfl]:=akJ.mp (a f (by simp));simp at z
  rw[q,oneTypeOnly'_eq,asa,map_eq_pure_bind];let j:∀v∈fs.filterMap id,Looks M s.heap (typeOf v) T:=λv l=>by
   let#[o,I,e]:=ap9.mp l;let J:o=↑v:=e;show C v (J▸I)
  generalize fs.filterMap id=F at D j;show Ϧ (Ϧ (Ϧ (kas_mapM (r:=T) _ (λv l L u=>(j v l).here u) (ϲ ?_))));obtain⟨g,gr,rfl⟩:∃g gr,F=g::gr:=by
   match F,D with
   |[],z=>show absurd rfl z
   |g::gr,_=>show#[g,gr,rfl]
  let c:((atE (λ_=>T) (g::gr)).toArray.all λx=>x==T)=true:=by
   simp only[atz,ap4,ach];intro _ _;show m
  let y:(atE (λ_=>T) (g::gr)).toArray[0]?=↑T:=by simp
  rw[y];simp only[c,if_true];show ϲ (ϲ ?_);let e:(↑T).any (λx=>x !=Value.type "tuple")=true:=n;rw[e];show h1 a
 .rw[if_neg i];split
  .show ϲ h2
  .rw[oneTypeOnly'_eq,asa,map_eq_pure_bind];show Ϧ (Ϧ (Ϧ (kas_mapM (r:=Value.type "tuple") _ (λv l L u=>(Vy t v l).here u) (ϲ ?_))));obtain⟨g,gr,rfl⟩:∃g gr,vs=g::gr:=by
    match vs,B with
    |g::gr,_=>show#[g,gr,rfl]
   let c:((atE (λ_=>Value.type "tuple") (g::gr)).toArray.all λx=>x==Value.type "tuple")=true:=by
    simp only[atz,ap4,ach];intro _ _;show(Value.type "tuple"==Value.type "tuple")=true;decide
   let y:(atE (λ_=>Value.type "tuple") (g::gr)).toArray[0]?=↑(Value.type "tuple"):=by simp
   rw[y];simp only[c,if_true];show ϲ (ϲ G)
end
structure tW(X:Cx)(σ:St)(f:ε)(xs:List V)(H₁:Hp)(KV:Nat->V->Hp->Prop):Prop where
 mono:∀i v H H',ζ H H'->KV i v H->KV i v H'
 call:∀i x u ϵ s H,xs[i]?=↑x->RelV x u->ζ H₁ H->Inv X.Ϗ ϵ σ H s->π ∅ X.A.in1.in1 (call f [u]) (EP X.Ϗ ϵ σ λk H'=>ζ H H'/\KV i k H') (λ_ _=>False) s
def yF(KV:Nat->V->Hp->Prop)(i:Nat)(k:ε)(H:Hp):=∃v,RelV v k/\KV i v H
theorem tW.fn{X:Cx}{σ:St}{f:ε}{xs:List V}{vs:List ε}{H₁:Hp}{KV:Nat->V->Hp->Prop}(h:tW X σ f xs H₁ KV)(r:Vals xs vs):ym X σ f vs H₁ (yF KV)where
 mono:=λi k H H' sm ⟨v,a,q⟩=>#[v,a,h.mono i v H H' sm q]
 call:=λi u ϵ s H c sm I=>by
  let o:=↥r;let hi:=(aab.mp c).1;let g:xs[i]?=↑(xs[i]'()):=aag _;let#[p,e,j]:=r.get g;rw[c]at e;cases e;show ab9 (h.call i _ u ϵ s H g j sm I) (λk s' z=>by let#[v,H',l,a,m,n]:=z;show #[H',l,m,v,a,n]) λ_ _ z=>z
def Y8(f:Nat->Int)(i:Nat)(v:V)(_:Hp):Prop:=v=.int (f i)
section
variable{X:Cx}{σ:St}{n:Nat}
theorem NZ:∀{ks:List ε}{f:Nat->Int},(∀(i:Nat) k,ks[i]?=↑k->∃t,k=.int (f i) t)->IntsAre ks ((afd ↥ks).map f)
 |[],_,_=>.nil
 |k::ks,f,h=>by
  let#[t,rfl]:=h 0 k rfl;have:=NZ (ks:=ks) (f:=λi=>f (i+1)) λi k e=>h (i+1) k (~~~e)
  rw[aap,ass,acz,agf];show .cons _ t this
theorem aiE{f:Nat->Int}:nF X σ n (yF (Y8 f)) (λi j=>decide (f i<f j))where
 kind:=λϵ s H ks I q h2 c=>by
  let a:∀(i:Nat) k,ks[i]?=↑k->∃t,k=.int (f i) t:=λi k e=>by
   let#[v,g,rfl]:=c i k e;let#[t,rfl]:=g;show#[t,rfl]
  rw[ksk_kind (keys:=ks.toArray) (kz:=(afd ↥ks).map f) (~~~NZ a) (by rw[aaq];omega)];show ϲ #[I,λi j l m ϵ s hi o p=>?_];let#[t,rfl]:=a i l hi;let#[u,rfl]:=a j m o;rw[keyLt'_oneType];show oneLt_int #[rfl,p]
theorem ahZ{f:Nat->Int}:aO λi j=>decide (f i<f j):=#[λi=>decide_eq_false (),λi j k h1 h2=>decide_eq_true (by have:=of_decide_eq_true h1;have:=of_decide_eq_true h2;omega),λi j k h=>by
 have:=of_decide_eq_true h;by_cases h2:f i<f j
 .show .inl (decide_eq_true h2)
 .show .inr (decide_eq_true ())]
def Wl(rk:Nat->List V)(i:Nat)(v:V)(H:Hp):=∃a,v=.ref a/\H a=↑(.tup (rk i))
def sI(rk:Nat->List V):Prop:=(∀i,oA (rk i))/\((∀i x,rk i=[x]->∃m,x=.int m)\/∀i x,rk i=[x]->∃m,x=.str m)
def sI.lk{rk:Nat->List V}(h:sI rk){i j:Nat}{x y:V}(a:rk i=[x])(c:rk j=[y]):jC x y:=by
 obtain h|h:=h.2
 .let#[m,rfl]:=h i x a;let#[n,rfl]:=h j y c;show .inl #[m,n,rfl,rfl]
 .let#[m,rfl]:=h i x a;let#[n,rfl]:=h j y c;show .inr #[m,n,rfl,rfl]
theorem Z8{ϵ:List (δ×Obj)}{s:ν}{H:Hp}(I:Inv X ϵ σ H s):∀{ks:List ε}{rk:Nat->List V},(∀i,oA (rk i))->(∀(i:Nat) k,ks[i]?=↑k->∃a,k=.ref a/\H a=↑(.tup (rk i)))->
  ∃fs,wZ s.heap ks fs/\(∀f∈fs,(∃i,(f=none/\rk i=[])\/∃x v,f=↑v/\rk i=[x]/\RelV x v))/\∀i,i<↥ks->rk i=[]->none∈fs
 |[],rk,_,_=>#[[],trivial,λf hf=>by simp at hf,λi hi=>by simp at hi]
 |k::ks,rk,j,h=>by
  let#[a,rfl,p]:=h 0 k rfl;let#[fs,h1,h2,l]:=Z8 I (ks:=ks) (rk:=λi=>rk (i+1)) (λi=>j (i+1)) λi k e=>h (i+1) k (~~~e)
  let#[us,n,dd,sl,g,m]:=Hd I p;let o:=j 0;generalize c:rk 0=y at o g;obtain rfl|⟨x,rfl⟩:=o
  .cases Vals.zero g;show#[none::fs,#[#[a,_,_,n,rfl,m,rfl,rfl,rfl],h1],λf hf=>?_,λi hi z=>?_];obtain rfl|hf:=aaz.mp hf
   .show#[0,.inl #[rfl,c]]
   .let#[i,q]:=h2 f hf;show#[i+1,q]
   .cases i with
    |zero=>simp
    |succ i=>show abk _ (l i (~~~hi) z)
  .let#[u,rfl,r1]:=Vals.one g;show#[↑u::fs,#[#[a,_,_,n,rfl,m,rfl,rfl,rfl],h1],λf hf=>?_,λi hi z=>?_];obtain rfl|hf:=aaz.mp hf
   .show#[0,.inr #[x,u,rfl,c,r1]]
   .let#[i,q]:=h2 f hf;show#[i+1,q]
   .cases i with
    |zero=>rw[c]at z;cases z
    |succ i=>show abk _ (l i (~~~hi) z)
theorem Vu{rk:Nat->List V}(G:X.A.in1.in1.units<cLine)(f:sI rk):nF X σ n (yF (Wl rk)) (λi j=>cY (rk i) (rk j))where
 kind:=λϵ s H ks I Z h2 J=>by
  let c:∀(i:Nat) k,ks[i]?=↑k->∃a,k=.ref a/\H a=↑(.tup (rk i)):=λi k e=>by
   let#[v,g,a,rfl,q]:=J i k e;cases g;show#[a,rfl,q]
  let#[fs,t,C,L]:=Z8 I f.1 c;let any:∀κ,(κ=general'\/κ=oneType'\/(κ=tuples' true/\∀i,i<n->rk i≠[]))->JH X σ H ks (λi j=>cY (rk i) (rk j)) κ:=λκ u i j M O ϵ s hi D E=>by
   let#[a,rfl,q]:=c i M hi;let#[b,rfl,P]:=c j O D;let Q:=(aab.mp hi).1;let R:=(aab.mp D).1;show aj4 (X:=X.Ϗ) G E q P (f.1 i) (f.1 j) (λx y e1 l=>f.lk e1 l) ?_ #[rfl,E];obtain h|h|⟨h,F⟩:=u
   .show .inl h
   .show .inr (.inl h)
   .show .inr (.inr #[h,F i (),F j ()])
  let o:∀(T:ε),(T==T)=true->(T !=Value.type "tuple")=true->(∀v,↑v∈fs->Looks ∅ s.heap (typeOf v) T)->π ∅ X.A.in1.in1 (keyKind' (ae4 ks)) (λκ s'=>Inv X.Ϗ ϵ σ H s'/\JH X σ H ks (λi j=>cY (rk i) (rk j)) κ) (λ_ _=>False) s:=λT S U W=>
   kind_any t () W S U (λp=>#[I,any _ (.inr (.inr #[rfl,λi hi z=>absurd (p _ (L i () z)) (by decide)]))]) #[I,any _ (.inl rfl)] #[I,any _ (.inr (.inl rfl))]
  obtain hk|hk:=f.2
  .show o (.type "int") (by decide) (by decide) λv B=>?_
   obtain⟨i,⟨e,_⟩|⟨x,Y,e,l,g⟩⟩:=C _ B
   .cases e
   .cases e;let#[m,rfl]:=hk i x l;let#[t,rfl]:=g;show .now
  .show o (.type "str") (by decide) (by decide) λv B=>?_
   obtain⟨i,⟨e,_⟩|⟨x,Y,e,l,g⟩⟩:=C _ B
   .cases e
   .cases e;let#[m,rfl]:=hk i x l;let#[t,rfl]:=g;show .now
def aeU{x y z:V}(h1:jC x y)(h2:jC y z)(a:ltV x y=true)(b:ltV y z=true):ltV x z=true:=by
 obtain⟨m,n,rfl,rfl⟩|⟨m,n,rfl,rfl⟩:=h1
 .obtain⟨c,k,e,rfl⟩|⟨_,_,e,_⟩:=h2
  .cases e;show decide_eq_true (by have:=of_decide_eq_true a;have:=of_decide_eq_true b;omega)
  .cases e
 .obtain⟨_,_,e,_⟩|⟨c,k,e,rfl⟩:=h2
  .cases e
  .cases e;show decide_eq_true (List.lt_trans (of_decide_eq_true a) (of_decide_eq_true b))
def ab0{x y z:V}(h1:jC x y)(h2:jC y z)(a:ltV x z=true):ltV x y=true\/ltV y z=true:=by
 obtain⟨m,n,rfl,rfl⟩|⟨m,n,rfl,rfl⟩:=h1
 .obtain⟨f,k,e,rfl⟩|⟨_,_,e,_⟩:=h2
  .cases e;have:=of_decide_eq_true a;by_cases h:m<n
   .show .inl (decide_eq_true h)
   .show .inr (decide_eq_true ())
  .cases e
 .obtain⟨_,_,e,_⟩|⟨f,k,e,rfl⟩:=h2
  .cases e
  .cases e;by_cases h:m.cps.toList<n.cps.toList
   .show .inl (decide_eq_true h)
   .show .inr (decide_eq_true ?_);let c:n.cps.toList<=m.cps.toList:=List.not_lt.mp h;show List.lt_of_le_of_lt c (of_decide_eq_true a)
theorem RM{rk:Nat->List V}(a:sI rk):aO λi j=>cY (rk i) (rk j)where
 ir:=λi=>by
  show cY (rk i) (rk i)=false;obtain e|⟨x,e⟩:=a.1 i
  .rw[e];rfl
  .rw[e];show Ip x
 tr:=λi j k h1 h2=>by
  let h1:cY (rk i) (rk j)=true:=h1;let h2:cY (rk j) (rk k)=true:=h2;show cY (rk i) (rk k)=true;obtain ei|⟨x,ei⟩:=a.1 i<;>obtain c|⟨y,c⟩:=a.1 j<;>obtain f|⟨z,f⟩:=a.1 k<;>rw[ei]at h1⊢ <;>rw[c]at h1 h2<;>rw[f]at h2⊢ <;>first|(cases h1;done)|(cases h2;done)|rfl|show aeU (a.lk ei c) (a.lk c f) h1 h2
 nt:=λi j k h=>by
  let h:cY (rk i) (rk k)=true:=h;show cY (rk i) (rk j)=true\/cY (rk j) (rk k)=true;obtain ei|⟨x,ei⟩:=a.1 i<;>obtain c|⟨y,c⟩:=a.1 j<;>obtain f|⟨z,f⟩:=a.1 k<;>rw[ei,f]at h<;>rw[ei,c,f]<;>first|(cases h;done)|show .inl rfl|show .inr rfl|show ab0 (a.lk ei c) (a.lk c f) h
end
section
variable{X:Cx}{σ:St}{H:Hp}{Q:VK}{e ke re:Ϫ}{p pos kp rp:Pos}
def xH(X:Cx)(σ:St)(b:Bool)(v a:V)(H:Hp)(Q:VK):=∃(l f:δ)(xs:List V)(KV:Nat->V->Hp->Prop)(lt:Nat->Nat->Bool),v=.ref l/\a=.ref f/\θ X.K H l xs/\↥xs<64/\aO lt/\tW X σ (.ref f) xs H KV/\nF X σ ↥xs (yF KV) lt/\
 ∀p H' q,ζ H H'->H' p=none->gK ↥xs (mY b lt) q->Q (.ref p) (upd H' p (.lst (dm xs q)))
def Nu(j:X.mg "sorted"=none)(h:EV X e σ H λv H1=>EV X ke σ H1 λa H2=>xH X σ false v a H2 Q)(m:Gl X "sorted":=by rfl)(c:ϳ [e] X.env=[(false,eval e X.env)]:=by rfl):EV X (.Call (.Name "sorted" p) [e] [#[some "key",ke,kp]] pos) σ H Q:=by
 intro ϵ s I;show aky (jE I m j PyProof.Rows.boot_sorted ?_ (by decide) (by decide));let n:EA X [e] σ H (λvs H1=>∃v,vs=[v]/\EV X ke σ H1 λa H2=>xH X σ false v a H2 Q):=gQ c (aP h λv H1 q=>dH #[v,rfl,q]);show callWith_kw (υ (n pos ϵ s I) λus o y=>?_) (by rw[c];rfl) (by rw[c];rfl);let#[vs,H1,z,r1,v,B,C]:=y;subst B;let#[u,rfl,D]:=Vals.one r1;show kws_cons (υ (C ϵ o z) λM O _u=>_Z.e23 _u λa H2 E F G=>kws_nil ?_);let#[l,f,xs,KV,lt,rfl,rfl,hs,i,W,J,L,g]:=G;cases D;cases F;show Yv (kw:=[(μ "key",.ref f)]) W hs i (λvs r=>#[J.fn r,L]) E (ksk_s1 _ _) (λx=>ksk_l1 _ _) (λx=>ksk_t1 f x) g
def ad3{b:Bool}(o:Gl X "sorted")(y:X.mg "sorted"=none)(j:ϳ [e] X.env=[(false,eval e X.env)])(h:EV X e σ H λv H1=>EV X ke σ H1 λa H2=>EV X re σ H2 λc i=>c=.bl b/\xH X σ b v a i Q):EV X (.Call (.Name "sorted" p) [e] [#[some "key",ke,kp],#[some "reverse",re,rp]] pos) σ H Q:=by
 intro ϵ s I;show aky (jE I o y PyProof.Rows.boot_sorted ?_ (by decide) (by decide));let z:EA X [e] σ H (λvs H1=>∃v,vs=[v]/\EV X ke σ H1 λa H2=>EV X re σ H2 λc i=>c=.bl b/\xH X σ b v a i Q):=gQ j (aP h λv H1 q=>dH #[v,rfl,q]);show callWith_kw (υ (z pos ϵ s I) λus B C=>?_) (by rw[j];rfl) (by rw[j];rfl);let#[vs,H1,D,r1,v,E,F]:=C;subst E;let#[u,rfl,G]:=Vals.one r1;show kws_cons (υ (F ϵ B D) λY J _u=>_Z.e23 _u λa H2 L M O=>kws_cons (υ (O ϵ J L) λZ s3 ⟨c,i,P,R,m,S⟩=>kws_nil ?_));let#[l,f,xs,KV,lt,rfl,rfl,hs,n,W,T,U,g]:=S;subst m;cases G;cases M;cases R;show Yv (kw:=[(μ "key",.ref f),(μ "reverse",.bool b)]) W hs n (λvs r=>#[T.fn r,U]) P (ksk_s2<*_) (λx=>ksk_l2 _ _ _) (λx=>ksk_t2 f x b) g
abbrev Cx.uX(X:Cx):Cx:={X.Ϗ with xe:=λ_ _=>False}
theorem Inv.uX{ϵ:List (δ×Obj)}{s:ν}(I:Inv X.Ϗ ϵ σ H s):Inv X.uX ϵ σ H s:=
 #[#[I.ok.mod,I.ok.kind,I.ok.glob,I.ok.blt,I.ok.above,I.ok.inj,I.ok.has,I.ok.cab,I.ok.hd,I.ok.frames,I.ok.stk,I.ok.exf,I.ok.bs,I.ok.bsz,I.ok.noex,I.ok.exfs,I.ok.funs,I.ok.frf],I.os,I.bare,I.base,I.loc,I.cell,I.free,I.freeC,I.pin,I.hok,I.len]
theorem Inv.unX{ϵ:List (δ×Obj)}{s:ν}(I:Inv X.uX ϵ σ H s):Inv X.Ϗ ϵ σ H s:=
 #[#[I.ok.mod,I.ok.kind,I.ok.glob,I.ok.blt,I.ok.above,I.ok.inj,I.ok.has,I.ok.cab,I.ok.hd,I.ok.frames,I.ok.stk,I.ok.exf,I.ok.bs,I.ok.bsz,I.ok.noex,I.ok.exfs,I.ok.funs,I.ok.frf],I.os,I.bare,I.base,I.loc,I.cell,I.free,I.freeC,I.pin,I.hok,I.len]
def aok{cc:Bool}{k:Nat}{x:Str}{ps:List Str}{sp:Sp}{xs:List V}{KV:Nat->V->Hp->Prop}(F:Def X.prog X.w X.K X.mg X.base cc k x ps sp)(c:ϐ cc (k+2) X.A)(a:∀i v H H',ζ H H'->KV i v H->KV i v H')(h:∀(i:Nat) x H',xs[i]?=↑x->ζ H H'->sp [x] H' (λv H2=>ζ H' H2/\KV i v H2) (λ_ _ _=>False)):∃f:δ,X.mg x=↑(.ref f)/\tW X σ (.ref f) xs H KV:=by
 let#[f,fd,h1,h2,e,g]:=F.ex;show#[f,h1,a,λi x u ϵ s H' j l sm I=>?_];have:=vI (X:=X.uX) (us:=[u]) (vs:=[x]) (Kx:=λ_ _ _ _=>False) g c.in1.in1 e (Pg rfl) I.uX (.cons l .nil) (h i x H' j sm);show ab9 this (λw s' z=>by let#[v,H2,m,n,q]:=z;show #[v,H2,m.unX,n,q]) λ_ _ z=>z
theorem akg{x:Str}{f:δ}(h:X.mg x=↑(.ref f))(a:Gl X x)(hd:(x==("__debug__":Str))=false)(q:Q (.ref f) H):EV X (.Name x p) σ H Q:=zm (Zz (v:=.ref f) a h rfl hd) q
end
def ag3{p p':Pos}(h1:p.line=p'.line)(h2:p.col=p'.col)(l:List ε):codeAmong p l=codeAmong p' l:=by
 fun_induction codeAmong p l with
 |case1 a t b u c rest h=>unfold codeAmong;rw[<-h1, <-h2,if_pos h]
 |case2 a t b u c rest h e=> rw[e];conv=>rhs;unfold codeAmong
                             rw[<-h1, <-h2,if_neg h]
 |case3 l h=>unfold codeAmong;split <;>first|rfl|(exfalso;show h _ _ _ _ _ _ rfl)
def abm{p a:Pos}{c g:ε}(l:List ε)(h:TriplesOk l)(e:codeAmong p (l++[rawInt a.line,rawInt a.col,c])=↑g):codeAmong p l=↑g\/(g=c/\a.line=p.line/\a.col=p.col):=by
 fun_induction TriplesOk l with
 |case1=>
  simp only[atN,rawInt,codeAmong]at e;split at e
  .rename_i f;cases e;simp only[aa9,beq_iff_eq]at f;show .inr #[rfl,(),()]
  .cases e
 |case2 x t y u z rest i=>
  simp only[asp,codeAmong]at e⊢;split at e
  .rename_i f;rw[if_pos f];show .inl e
  .rename_i f;rw[if_neg f];show i h e
 |case3 l h1 h2=>show h.elim
abbrev uT:HO:=.ext λ_=>True
theorem Jb{P:ϰ}{w:Ϯ}{H:Hp}{h:ϫ}{a:δ}{o:Obj}(e:h.get? a=↑o):Ϟ P w H h a (.frz o uT):=#[e,trivial,#[o,e],λ_ _ _ _=>trivial]
section
variable{X:Cx}{σ:St}{H:Hp}{D:Ends}
def adn{name qual:Str}{g:Arguments}{body:List Ϩ}{scope:aiZ}{pos:Pos}{clos:List (Str×δ)}{c P:δ}{ps:Array ε}{t:Tok}{j:Nat}(hN:X.N.Nodup)(hj:X.N[j]?=↑name)(U:X.env.scope.names.lookup name=↑.local)(y:X.env.code=.ref c)(C:CodeHd X.base c P)(B:BM X.mg X.base)(J:closureFor scope X.env=pure clos)(L:H P=↑(.tbl ps))(M:codeAmong pos ps.toList=↑(.str qual t))(hq:qualnameIn X.env name name=qual)(ab:g.defaults=[])(ac:g.kw_defaults=[])(ha:annTrees g none X.env=[])(h:∀(f m:δ)(oc:Obj)(i pm l:ε)(vs:Array ε)(t':Tok)(H':Hp),ζ H H'->H f=none->H' f=↑(.frz (fnMade name qual g body scope clos i pm m l) uT)->(∃u,H' m=↑(.frz oc u))->oc.data=.fields vs->vs[1]?=↑(.str qual t')->D.nx (σ.set j ↑(.ref f)) H'):SX X (.FunctionDef name g body [] none [] scope none name pos) D σ H:=by
 intro ϵ s I;show nestDef_K ab ac ha ?_;rw[hq];let#[qs,W,tr,z]:=(I.hok P _ L:Ϟ X.prog X.w H s.heap P (.tbl ps));let Y:s.heap.Ns mainGlobals X.mg:=I.mod.glob.keeps I.bk;let#[bm,ob,b1,b2,b3,b4,b5,b6]:=B;let O:=I.bk _ _ b3;let ae:mainGlobals≠P:=λq=>by
  let#[o,es,ep,e,hd,_]:=Y;rw[q,W]at e;cases e;cases hd
 let af:bm≠P:=λq=>by rw[q,W]at O;cases O;cases b4
 let ag:bm≠mainGlobals:=λq=>by
  let#[o,es,ep,e,hd,_]:=Y;rw[q,e]at O;cases O;rw[hd]at b6;cases b6
 let F:s.heap.BuiltinsAt X.mg P:=#[bm,ob,b1,b2,ag,af,O,b4,b5,b6];let CC:=C.keeps I.bk;cases hf:codeAmong pos qs.toList with
 |some cv=>
  let#[m,oc,u,q,t2,vs,t',rfl,Z,e3,e4,e5]:=z pos cv hf;rw[M]at Z;cases Z;show makeFunction_hit J I.ok.glob Y y CC W tr hf F λl i h' tk hk hsz=>?_
  let I1:=I.laid (a:=h'.objs.size) (o:=.frz (fnMade name qual g body scope clos i ((X.mg "__name__").getD .none) m l) uT) (t':=tk) (h':=h'.push (fnMade name qual g body scope clos i ((X.mg "__name__").getD .none) m l)) (λb o e=>aai _ (hk b o e)) hsz (Jb (abM _ rfl));let Q:=I.hok.fresh hsz;let sm:ζ H (upd H h'.objs.size (.frz (fnMade name qual g body scope clos i ((X.mg "__name__").getD .none) m l) uT)):=ζ.upd Q;show tK (v:=.ref h'.objs.size) I1 hN hj (.inl U) rfl (λs' I' _=>?_) (.inr U)*>#[_,_,I',h _ m oc i _ l vs t' _ sm Q ξ #[u,sm<*e3] e4 e5]
 |none=>
  show makeFunction_K J I.ok.glob Y y CC W tr hf ae F λm l i h' tk ah E G R S=>?_
  let#[c₂,oc,vs,t',Z,ai,hd,hv]:=R;cases Z;let al:H m=none:=I.hok.fresh E;let T:H h'.objs.size=none:=I.hok.fresh (aqX (agE E G));let Ϻ:m≠h'.objs.size:=acb G;let hPlt:=I.hok.lt L;let x:∀b u,H b=↑u->(upd (upd H m (.frz oc uT)) h'.objs.size (.frz (fnMade name qual g body scope clos i ((X.mg "__name__").getD .none) m l) uT)) b=↑u:=λb u e=>by
   rw[ι (Ξ e T),ι (Ξ e al)];show e
  let nP:∀b,H b=none->b≠P:=λb e z=>by rw[z,L]at e;cases e
  let lt':∀b o,s.heap.get? b=↑o->b≠m/\b≠h'.objs.size:=λb o e=>by
   have:=abU e;show#[acb (abr this E),acb (abr this (aqX (agE E G)))]
  let kp:∀b o,b≠P->s.heap.get? b=↑o->(h'.push (fnMade name qual g body scope clos i ((X.mg "__name__").getD .none) m l)).get? b=↑o:=λb o F e=>aai _ (ah b o F e)
  let I1:Inv X ϵ σ (upd (upd H m (.frz oc uT)) h'.objs.size (.frz (fnMade name qual g body scope clos i ((X.mg "__name__").getD .none) m l) uT)) {s with heap:=h'.push (fnMade name qual g body scope clos i ((X.mg "__name__").getD .none) m l),toks:=tk}:=by
   show I.un (t':=tk) #[λb o e n _ _=>kp b o (nP b n) e,λb o e n _ _=>#[o.slots,kp b o (nP b n) e],λb o e n _=>?_,λb o e _=>?_,λb xs q=>x _ _ q,λb o u q=>x _ _ q,λb ps' q=>#[#v[],by rw[x<*q];simp]] λb u e=>?_
   .rw[ι (lt' b o e).2,ι (lt' b o e).1];show n
   .by_cases F:b=P
    .show#[_,by rw[F];show aai _ S]
    .show#[_,kp b o F e]
   .by_cases h1:b=h'.objs.size
    .subst h1;rw[ξ]at e;cases e;show Jb (abM _ rfl)
    .rw[ι h1]at e;by_cases h2:b=m
     .subst h2;rw[ξ]at e;cases e;show Jb (aai _ ai)
     .rw[ι h2]at e;by_cases h3:b=P
      .subst h3;rw[L]at e;cases e;show#[_,aai _ S,?_,λp cv hc=>?_]
       .rw[arR];show TriplesOk_snoc _ _ _ _ tr
       .rw[arR]at hc;obtain h4|⟨rfl,h5,h6⟩:=abm _ tr hc
        .let#[c2,am,u2,q2,t2,an,t3,g1,g2,g3,g4]:=z p cv h4;show#[c2,am,u2,q2,t2,an,t3,g1,g2,x<*g3,g4]
        .show#[m,oc,uT,qual,t,vs,t',rfl,?_,?_,hd,hv]
         .rw[<-ag3 h5 h6];show M
         .rw[ι Ϻ,ξ]
      .show(I.hok b u e).stay (λa v ha q=>kp a v ?_ q) (λa q=>x _ _ q) (λa xs q=>x _ _ q) λa ob v q=>x _ _ q
       obtain rfl|ha:=ha
       .show h3
       .intro z2;rw[z2,L]at ha;cases ha
  let sm:ζ H (upd (upd H m (.frz oc uT)) h'.objs.size (.frz (fnMade name qual g body scope clos i ((X.mg "__name__").getD .none) m l) uT)):=x;show tK (v:=.ref h'.objs.size) I1 hN hj (.inl U) rfl (λs' I' _=>?_) (.inr U)*>#[_,_,I',h _ m oc i _ l vs t' _ sm T ξ #[uT,by rw[ι Ϻ,ξ]] hd hv]
abbrev Cy(X:Cx)(qual:Str)(scope:aiZ)(f:δ)(cd:ε)(cl:List (Str×δ))(N:List Str)(s:ν)(H:Hp):Cx where
 prog:=X.prog
 w:=X.w
 K:=X.K
 mg:=X.mg
 base:=X.base
 A:=X.A.deeper (envX qual scope ⇑s f cd cl)
 N:=N
 s₀:=s
 H₀:=H
 env:=envX qual scope ⇑s f cd cl
 outer:=X.stack
 stack:=envX qual scope ⇑s f cd cl::X.stack
 ex:=[]
 fn:=λ_=>false
 calm:=X.calm
 pn:=[]
 xe:=λ_ _=>False
def af2{ϵ:List (δ×Obj)}{s:ν}{f n c:δ}{name qual x y:Str}{g:Arguments}{body:List Ϩ}{scope:aiZ}{o pm B u:ε}{u0 u1:HO}{oc:Obj}{vs:Array ε}{t':Tok}{v z:V}{j:Nat}{Q:VK}{E:ε->ν->Prop}(I:Inv X ϵ σ H s)(hf:H f=↑(.frz (fnMade name qual g body scope [(y,c)] o pm n B) u0))(Y:H n=↑(.frz oc u1))(Z:oc.data=.fields vs)(D:vs[1]?=↑(.str qual t'))(F:X.A.depth<recursionLimit)(hb:∀o pm n B (u:ε),bindArgs (fnX name qual g body scope [(y,c)] .none .none o pm none (.ref n) B) #[[u],[]]=pure [(x,u)])(hk:scope.kind=.function)(ab:scope.isCoroutine=false)(L:scope.isGenerator=false)(W:scope.names.lookup x=↑.local)(M:scope.names.lookup y=↑.free)(O:∀a∈scope.names,a.2≠.cell)(ac:∀a,scope.names.lookup a=↑.free->a=y)(hj:X.N[j]?=↑y)(ae:σ[j]?=some ↑z)(P:X.env.scope.names.lookup y=↑.cell)(S:X.env.cells.lookup y=↑c)(T:RelV v u)(h:Ι (Cy X qual scope f (.ref n) [(y,c)] [x,y] s H) body {nx:=λ_ H'=>Q .non H',rt:=Q} [↑v,↑z] H):π ∅ X.A (call (.ref f) [u]) (EP X ϵ σ Q) E s:=by
 let C:=I.env0;let#[ef,_]:=(I.hok f _ hf:Ϟ X.prog X.w H s.heap f (.frz _ u0));let#[ec,_]:=(I.hok n _ Y:Ϟ X.prog X.w H s.heap n (.frz oc u1));let af:s.heap.CodeRec (.ref n) qual:=#[n,oc,vs,t',rfl,ec,Z,D];let hxy:x≠y:=λe=>by rw[e,M]at W;cases W
 let#[m,hm,hl]:=id I.loc;let#[uz,rz,lk]:=hl j y z hj ae (.inr (.inl P));obtain⟨Z3⟩:Nonempty (s.heap.IsCell c ↑uz):=by
  obtain⟨k,_⟩|⟨_,c2,e,q⟩:=lk
  .rw[show X.env.kindOf y=X.env.scope.names.lookup y from rfl,P]at k;cases k
  .rw[S]at e;cases e;show#[q]
 show aon (akz (codeAny_call_def (R:=λr s'=>match r with|.ok (.ret u)=>CE X.stack X.prog X.w H s Q u s'|.ok _=>False|.error _=>False) (fd:=fnX name qual g body scope [(y,c)] .none .none o pm none (.ref n) B) (body:=body) (binds:=[(x,u)]) F ef rfl I.nolimit af rfl (.of_eq (hb o pm n B u)) O (λa ha=>by cases aa0.mp ha;show W) (λh₁ ag l=>?_) ab L hk) λr s' D=>?_)
 .let I1:Inv (Cy X qual scope f (.ref n) [(y,c)] [x,y] s H) [] [↑v,↑z] H {s with heap:=h₁,toks:=s.toks+[(x,u)].length}:=by
   let G:∀b:δ,b∉(Cy X qual scope f (.ref n) [(y,c)] [x,y] s H).ex:=λb z=>absurd (show b∈([]:List δ)from z) (by simp)
   show#[#[C.mod,hk,rfl,rfl,Ϭ _,λa b d h1 h2=>?_,λa ha=>?_,λa d h1=>(by cases h1),I.ok.hd,Around.frames_deeper C.frames,.inr #[rfl,rfl],λb z=>absurd z (G b),C.bs,C.bsz,λb _ _=>G b,λb z=>absurd z (G b),C.funs,C.frf],
    rfl,C.bare,Un.kept l,#[_,ag,λi a b h1 h2 h3=>?_],λa d h1=>?_,C.hok.fresh (Ϭ _),λa d h1=>?_,λp hp=>absurd (show p∈([]:List (δ×Obj))from hp) (by simp),C.hok.kept l,rfl]
   .let h1:([(y,c)]:List (Str×δ)).lookup a=↑d:=h1;let h2:([(y,c)]:List (Str×δ)).lookup b=↑d:=h2;let e1:=PySem.mem_of_lookup h1;let e2:=PySem.mem_of_lookup h2;rw[aa0]at e1 e2;cases e1;cases e2;rfl
   .let ha:scope.names.lookup a=↑.cell\/scope.names.lookup a=↑.free:=ha;obtain ha|ha:=ha
    .show absurd rfl (O _ (PySem.mem_of_lookup ha))
    .cases ac a ha;show#[c,by show([(y,c)]:List (Str×δ)).lookup y=↑c;simp[ajp]]
   .match i,h1,h2 with
    |0,h1,h2=>
     cases h1;cases h2;show#[u,T,.inl #[W,by simp[ajp]]]
    |1,h1,h2=>
     cases h1;cases h2;show#[uz,rz,.inr #[.inr M,c,by show([(y,c)]:List (Str×δ)).lookup y=↑c;simp[ajp],Z3.keeps l]]
    |i+2,h1,h2=>simp at h1
   .let e1:=PySem.mem_of_lookup (show([(y,c)]:List (Str×δ)).lookup a=↑d from h1);rw[aa0]at e1;cases e1;show#[_,Z3.keeps l]
   .let e1:=PySem.mem_of_lookup (show([(y,c)]:List (Str×δ)).lookup a=↑d from h1);rw[aa0]at e1;cases e1;show I.freeC y c S
  show ab9 (h [] _ I1) (λfl s' hs=>?_) λ_ _ z=>z.elim
  let U:∀{σ':St}{H':Hp}{v:V}{u:ε},Inv (Cy X qual scope f (.ref n) [(y,c)] [x,y] s H) [] σ' H' s'->RelV v u->Q v H'->CE X.stack X.prog X.w H s Q u s':=
   λ{σ' H' v u} J T q=>#[v,H',J.os,J.bare,J.base,J.hok,T,q]
  cases fl with
  |ret u=>
   let#[v,σ',H',J,T,q]:=hs;show U J T q
  |next=>
   let#[σ',H',J,q]:=hs;show U (v:=V.non) (u:=Value.none) J rfl q
  |brk=>
   let#[_,_,_,q]:=hs;show False.elim q
  |cont=>
   let#[_,_,_,q]:=hs;show False.elim q
 .cases r with
  |error e=>show D.elim
  |ok fl=>
   cases fl with
   |ret u=>show I.after D
   |next=>show False.elim D
   |brk=>show False.elim D
   |cont=>show False.elim D
end
def aic(p:Pos)(q:Str):codeAmong p (Ek p q).toList=↑(.str q 0):=by simp[Ek,codeAmong,rawInt]
def afh{P:ϰ}{w:Ϯ}{K:ϩ}{mg:MG}{base:ϫ}{x:Str}{st:Ϩ}{ps N:List Str}{k:Nat}{sp:Sp}(F:∃f fd,cG K x x st f fd/\mg x=↑(.ref f))(i:cR K mg base x)(S:Μ N ps (ρ st))(n:∀(kV a pm:ε)(an:Option δ)(j ct:ε)(us:List ε),↥us=↥ps->bindArgs (asx x x (jk st) (ϕ st) (ρ st) .none kV a pm an j ct) #[us,[]]=pure (ps.zip us))(len:∀vs H Q E,sp vs H Q E->↥vs=↥ps)(body:∀(f:δ)(A:ϴ)(outer:List Env)(s:ν)(H:Hp)(vs:List V)(Q:VK)(E:XK),ϐ cc k (A.deeper (envOfC x (ρ st) ⇑s f (.ref (iT K x))))->sp vs H Q E->
   Ι (gR cc P w K mg base N x (ρ st) f (.ref (iT K x)) A outer s H E) (ϕ st) {nx:=λ_ H'=>Q .non H',rt:=Q} (start N vs) H):Def P w K mg base cc (k+1) x ps sp:=by
 let#[f,fd,F,m]:=F;show#[f,fd,m,F.kp,F.binds n,?_];let#[oc,od,kV,a,pm,an,j,ct,o,rfl,lk,l]:=id F.ex;let e:=i.tab;unfold tabIn at e;split at e
 .rename_i v p;let g:=alF i.kin i.glob p;rw[m]at g;cases g;simp only[lk]at e;cases j with
  |ref c=>
   let q:c=iT K x:=by
    dsimp only at e;split at e
    .split at e
     .have :=Option.some.inj e;show congrArg Prod.fst this
     .cases e
    .cases e
   subst q;show ZS lk l S len λA outer s H vs Q E u h=>#[_,Wm,body f A outer s H vs Q E u h]
  |_=>cases e
 .cases e
def jJ(keep:Nat->Bool)(n:Nat):List Nat:=(afd n).filter keep
def ai7(keep:Nat->Bool)(n:Nat):jJ keep (n+1)=jJ keep n++(if keep n=true then[n]else[]):=by
 unfold jJ;rw[atM,List.filter_append];by_cases h:keep n=true
 .simp[h]
 .let h':keep n=false:= ~~~h
  simp[h']
def alD(keep:Nat->Bool)(n:Nat):↥(jJ keep n)<=n:=by
 have:=aji keep (afd n);rw[ar6]at this;show this
section
variable{X:Cx}{e c:Ϫ}{σ σ':St}{H:Hp}{Q:VK}{D:Ends}{pos:Pos}{tg elt:Ϫ}{scope:aiZ}
def V2(X:Cx)(N':List Str)(scope:aiZ)(tg elt c:Ϫ)(σ':St)(H1:Hp)(Q:VK)(xs:List V):Prop:=
 ∃(g:St->Prop)(keep:Nat->Bool)(e:δ->Nat->V->Hp->Prop),g σ'/\
  (∀E i v H2 f ys,H2 E=↑(.lst ys)->(∀b o,b≠E->H2 b=↑o->f b=↑o)->e E i v H2->e E i v f)/\
  (∀(fp:List δ)(E C:δ)(j:ν)(l:Hp)(i:Nat)(n:St)(x:V)(H2:Hp),H1 E=none->xs[i]?=↑x->g n->ζ H1 H2->(∃ys,H2 E=↑(.lst ys))->
   EG (bW X N' scope (ώ scope X.env) C j l fp) tg x n H2 λa f=>ET (bW X N' scope (ώ scope X.env) C j l fp) c a f λk m=>k=keep i/\g a/\ζ H2 m/\(k=true->EV (bW X N' scope (ώ scope X.env) C j l fp) elt a m λv p=>e E i v p/\ζ m p))/\
  ∀(E:δ)(H2:Hp)(us:List V),H1 E=none->H2 E=↑(.lst us)->_V.ω (λu i=>e E i u H2) us (jJ keep ↥xs)->ζ H1 H2->Q (.ref E) H2
def aeZ{N':List Str}{l:δ}{xs:List V}(hn:↥xs<=ϱ)(M:θ X.K H l xs)(h:V2 X N' scope tg elt c σ' H Q xs):∀(fp:List δ)(E C:δ)(O:ν),H E=none->jz X (bW X N' scope (ώ scope X.env) C O (upd H E (.lst [])) fp) tg elt [c] (j5 X.K l) E σ' H (λH'=>Q (.ref E) H'):=by
 intro fp E C O F;let#[U,keep,W,t0,mono,step,P]:=h;show#[λi m R H1=>m=↥xs-i/\i<=↥xs/\ζ H H1/\U R/\∃us,H1 E=↑(.lst us)/\_V.ω (λu i=>W E i u H1) us (jJ keep i),#[↥xs,by simp,aht _,ζ.upd F,t0,[],ξ,.nil],?_]
 rintro i m R H1 ⟨rfl,hi,y,S,us,g,G⟩
 by_cases z:i<↥xs
 .show .inr #[#[xs,xs[i],ζ.seq y M,aag z],λB H'=>ζ H H'/\U B/\∃us,H' E=↑(.lst us)/\_V.ω (λu i=>W E i u H') us (jJ keep (i+1)),λB H' z1=>by let#[a,b,d]:=z1;show #[↥xs-(i+1),(),rfl,z,a,b,d],λx H2 Y=>?_];let hx:xs[i]?=↑x:=Y.2 xs (ζ.seq y M);let hH:H2=H1:=Y.1;subst hH;intro ϵ s u I r;show υ (step fp E C O _ i R x _ F hx S y #[us,g] ϵ s u I r) λ_ s' ⟨T,H3,I3,q3⟩=>#[T,H3,I3,ajf ?_]
  show λϵ s I=>υ (q3 ϵ s I) λk s' ⟨H4,I4,hk,Z,n,q⟩=>#[H4,I4,?_]
  subst hk;let J:=ai7 keep i;let hkl:=alD keep i;let sS:=G.len;by_cases f:keep i=true
  .rw[if_pos f];rw[if_pos f]at J;show aP (q f) λv L ⟨pv,D⟩=>#[us,D<*(n _ _ g),(),?_]
   let up:∀b o,b≠E->L b=↑o->(upd L E (.lst (us++[v]))) b=↑o:=λb o hb e=>by rw[ι hb];show e
   show#[λb o e=>?_,Z,us++[v],ξ,?_]
   .rw[ι (Ξ e F)];show D<*(n<*(y _ _ e))
   .rw[J];show _V.ω.app (G.imp λu j p=>?_) (.cons (mono E i v L _ us (D<*(n _ _ g)) up pv) .nil)*>mono E j u L _ us (D<*(n _ _ g)) up (mono E j u H2 _ us g (λb o _ e=>D _ _ (n<*e)) p)
  .rw[if_neg f];rw[if_neg f,alV]at J;show#[y<|>n,Z,us,n<*g,?_];rw[J];show G.imp λu j p=>mono E j u H2 _ us g (λb o _ e=>n _ _ e) p
 .let e:i=↥xs:=()
  subst e;show .inl #[#[xs,ζ.seq y M,Ϭ _],P E H1 us F g G y]
def aj6(N':List Str)(a:bN N' X.N σ scope=σ')(g:X.calm=true)(S:bO X.env scope)(hs:∀x,foldedSetIterable e X.env x=pure x)(h:EV X e σ H λv H1=>∃l xs,v=.ref l/\θ X.K H1 l xs/\↥xs<=ϱ/\V2 X N' scope tg elt c σ' H1 Q xs):EV X (.ListComp elt [#[tg,e,[c],0]] scope pos) σ H Q:=by
 show vD (N':=N') g S hs (tH (aP h λv H1 q=>?_));let#[l,xs,rfl,f,i,j]:=q;show#[l,rfl,#[xs,f],?_];rw[a];show aeZ i f j
end
section
variable{X:Cx}{D:Ends}{σ:St}{H:Hp}{rest:List aot}{suite:List Ϩ}{b₀:Ϩ}{pos np:Pos}{x n:Str}{c:ε}{C:δ}{d:Option δ×Bool}{i:Nat}
abbrev abG(D:Ends)(i:Nat):Ends:=
 {nx:=λσ' H'=>D.nx (σ'.set i none) H',rt:=D.rt,bk:=λσ' H'=>D.bk (σ'.set i none) H',ct:=λσ' H'=>D.ct (σ'.set i none) H'}
def al2(hN:X.N.Nodup)(hi:nameAt X.N n=↑i)(l:X.env.scope.names.lookup n=↑.local)(hg:Gl X x)(hm:X.mg x=↑c)(hd:(x==("__debug__":Str))=false)(ex:aox X.K (.ref C) c=↑true)(h:∀e pn,H e=none->Ι (X.bu (.ref e) (λ_ _=>False) pn) (b₀::suite) (abG D i) (σ.set i ↑(.ref e)) (upd H e (xw e C d.1))):EH X (.ExceptHandler ↑(.Name x np) ↑n (b₀::suite) pos::rest) D σ (.ref C) d H:=by
 intro ϵ s e T I F ch;let p:(X.env.scope.kind==.class||(X.env.scope.kind==.module&&X.env.locals !=X.env.globals))=false:=by rw[I.ok.kind];rfl
 let L:i<↥X.N:=(aab.mp (lE hi)).1;let#[Up,P]:=ch e (by simp);show api (Gb I F hg hm hd ex ?_) (by intro q;cases q)*>codeAny_handlers_suite_as (I.off F ch λs2 I2 F2=>?_)*>tK I2 hN (lE hi) (.inl l) (v:=.ref e) rfl (λs3 I3 R=>?_) (.inr l);let#[a,sb,ha]:=R;let S:e≠a:=by
  obtain z|z:=ha
  .rw[z];show P.2.1
  .show λy=>P.2.2.1 n a z y.symm
 let#[oe,vs,he,U,W,Y,_]:=F2;let Z:s3.heap.get? e=↑oe:=(sb.2 e S)<|>he;let I4:=I3.adopt Up P (φ:=λh=>∃oe vs,h.get? e=↑oe/\oe.cls=.ref C/\oe.dict=d.1/\oe.data=.fields vs) (ak3 Z U W Y);show ab9 (h e (X.pn++ϵ) Up [] s3 I4.bu) (λf s4 q=>?_) λ_ _ q=>q.elim
 let g:∀{σ':St}{H':Hp}{Q:Unit->ν->Prop},Inv X ϵ σ' H' s4->(∀G,Inv X ϵ (σ'.set i none) H' G->Q PUnit.unit G)->π ∅ X.A (do bindName X.env n .none;unbindBehindTheSuite X.env n pos) Q X.xe s4:=λ{σ' H' Q} J k=>by
  let J3:Inv X ϵ (σ'.set i none) H' s4:=J.weak (by simp) λj v O=>by
   by_cases z:j=i
   .subst z;rw[aou (by rw[J.len];show L)]at O;cases O
   .rw[arK (Ne.symm z)]at O;show O
  let#[m,hn,hl]:=id J3.loc;show wpAny_nameGoes_keeps (show X.env.kindOf n=↑.local from l) hn p λh' v M ab=>k _ ?_
  show J3.akk (m:=m) (m':=λx=>if x=n then v else m x) hN (lE hi) (aou (by rw[J.len];show L)) hl M (λx hx=>by rw[if_neg hx]) (λb o R q=>(ab.2 b R).trans q) ?_;let#[o,_,_,ho,_]:=M;show#[o,ho]
 cases f with
 |next=>
  let#[σ',H',J,B]:=q;show g (Inv.pq I.ok J) λG E=>#[_,_,E,B]
 |brk=>
  let#[σ',H',J,B]:=q;show g (Inv.pq I.ok J) λG E=>#[_,_,E,B]
 |cont=>
  let#[σ',H',J,B]:=q;show g (Inv.pq I.ok J) λG E=>#[_,_,E,B]
 |ret u=>
  let#[v,σ',H',J,r,B]:=q;show g (Inv.pq I.ok J) λG E=>#[v,_,_,E,r,B]
end
end _L
namespace _L
open PySem PySem.Spec PyProof.Rows
abbrev LN(sp:Sp)(n:Nat):Prop:=∀vs H Q E,sp vs H Q E->↥vs=n
abbrev BD(cc:Bool)(P:ϰ)(w:Ϯ)(K:ϩ)(mg:MG)(base:ϫ)(k:Nat)(N:List Str)(x:Str)(st:Ϩ)(sp:Sp):Prop:=
 ∀(f:δ)(Ϲ:ε)(A:ϴ)(outer:List Env)(s:ν)(H:Hp)(vs:List V)(Q:VK)(E:XK),ϐ cc k (A.deeper (envOfC x (ρ st) ⇑s f Ϲ))->sp vs H Q E->let X:=gR cc P w K mg base N x (ρ st) f Ϲ A outer s H E;let D:Ends:={nx:=λ_ H'=>Q .non H',rt:=Q};Ι X (ϕ st) D (start N vs) H
section
variable{K:ϩ}{h:ϫ}{mg:MG}(X:K.In h)(G:h.Ns mainGlobals mg){x y m qual fld:Str}{st:Ϩ}{f C D:δ}{od an:Option δ}{sl:Array (Option ε)}{oc kV dc pm cd ct:ε}{t:Tok}
include X G
omit X G
include X G
omit X G
end
theorem aad{X:Cx}{st:Ϩ}{rest:List Ϩ}{D:Ends}{σ:St}{H:Hp}(h:let σ':=σ;let a:Ends:={D with nx:=λσ' H'=>Ι X rest D σ' H'};SX X st a σ' H):Ι X (st::rest) D σ H:=rE h
theorem aaG{X:Cx}{st:Ϩ}{D:Ends}{σ:St}{H:Hp}(h:let σ':=σ;SX X st D σ' H):Ι X [st] D σ H:=pP h
def abP(z:Str):1<=Builtin.Str.strKind z:=by
 unfold Builtin.Str.strKind;split
 .show Ϭ _
 .split <;>decide
theorem ahu{c:Nat}:∀n,Builtin.Str.occurrences #[#v[]] #[#v[c]] 0 0 n=[]:=λn=>by
 simp[Builtin.Str.occurrences,Builtin.Str.subAt,arN,Id.run];rfl
def ai9{c:Nat}(k1:Builtin.Str.strKind #[#v[c]]=1)(z:Str):(↥(Λ c z):Int)=Txt.count z #[#v[c]]+1:=by
 rw[<-vZ];unfold Txt.split Txt.count;let f:↥(#[#v[c]]:Str)=1:=rfl;let kz:=abP z;rw[k1,f];by_cases h:↥z<1
 .rw[if_pos (by simp[h])];let g:z=#[#v[]]:=by
   apply iD;have:↥z.cps.toList=0:=by let e:↥z.cps.toList=↥z:=rfl;omega
   rw[aoq this]
  subst g;rw[show(#[#v[]]:Str).length=0 from rfl,ahu];rfl
 .rw[if_neg (by simp only[anO,decide_eq_true_eq,not_or];show#[h,()])];generalize Builtin.Str.occurrences z #[#v[c]] 0 ↥z (↥z+1)=oc;cases oc with
  |nil=>rfl
  |cons a r=>
   rw[if_neg (by simp)];unfold Builtin.Str.partsBetween;simp
section
variable{X:Cx}{H:Hp}{Q:VK}{z y:Str}
def aiz(g:Q (.int (Txt.count z y)) H):MT X "str.count" (.str z) [.str y] H Q:=by
 show bZ (r:=λx xs H Q=>∃z y,x=.str z/\xs=[.str y]/\Q (.int (Txt.count z y)) H) ?_ #[z,y,rfl,rfl,g];intro ϵ s σ H x xs v us Q I rx a h;let#[z,y,rfl,rfl,g]:=h;let#[t,rfl]:=rx;let#[u,rfl,c]:=vals1 a;let#[t',rfl]:=c;show SC.count #[.int _,H,I.tok _,#[_,rfl],g]
end
end _L
namespace _L
open PySem PySem.Spec PyProof.Rows PySem.W
def lJ(k:Int):ε->Bool
 |.int i _=>i==k
 |_=>false
theorem Rj:∀{ns:List Int}{us:List ε},Vals (ns.map V.int) us->(∀u∈us,∃i t,u=Value.int i t)/\∀k,us.countP (lJ k)=ns.count k
 |[],_,.nil=>#[λu h=>by simp at h,λk=>rfl]
 |n::ns,_,.cons r t=>by
  let#[tk,rfl]:=(show ∃t,_=Value.int n t from r);let#[h1,h2]:=Rj t;show#[λu hu=>?_,λk=>?_]
  .obtain rfl|hu:=aaz.mp hu
   .show#[_,_,rfl]
   .show h1 u hu
  .rw[atw,atL,h2 k];rfl
section
variable{X:Cx}{H:Hp}{Q:VK}
def aiB{a:δ}{ns:List Int}{k:Int}(h:θ X.K H a (ns.map V.int))(g:Q (.int (ns.count k:Nat)) H):MT X "list.count" (.ref a) [.int k] H Q:=by
 show bZ (r:=λx xs H Q=>∃a ns k,x=.ref a/\xs=[.int k]/\θ X.K H a (ns.map V.int)/\Q (.int (ns.count k:Nat)) H) ?_ #[a,ns,k,rfl,rfl,h,g];intro ϵ s σ H x xs v us Q I rx l h;let#[a,ns,k,rfl,rfl,h,g]:=h;cases rx;let#[u,rfl,m]:=vals1 l;let#[tk,rfl]:=(show ∃t,u=Value.int k t from m);let#[c,r,#[#[cls,dd,f,sl],n,e,j,hd,hs],p]:=I.list h;simp only at j hd hs;subst j hd hs;let#[h1,h2]:=Rj r;show ame F.slot_list_count #[_,e,rfl] F.entry_list_count (F.args_list_count_2 _ _) (SeqAt.list_countAt a c.toArray n _ sl (.int k tk) (lJ k)) #[e,λy o=>?_,?_]
 .let#[i,t,rfl]:=h1 y (~~~o);show SeqAt.EqAt.int_int i t k tk
 .rw[show c.toArray.toList=c from rfl,h2];show#[.int _,H,I.tok _,#[_,rfl],g]
end
end _L
namespace _L
open PySem PySem.Spec PyProof.Rows
section
variable{P:ϰ}{w:Ϯ}{K:ϩ}{mg:MG}{base:ϫ}{cc:Bool}
def Ot{x y:Str}{st:Ϩ}{ps N:List Str}{k:Nat}{sp:Sp}(F:Ba K mg y x st)(S:Μ N ps (ρ st))(e:∀(kV c pm:ε)(an:Option δ)(a ct:ε)(us:List ε),↥us=↥ps->bindArgs (asx x x (jk st) (ϕ st) (ρ st) .none kV c pm an a ct) #[us,[]]=pure (ps.zip us))(len:∀vs H Q E,sp vs H Q E->↥vs=↥ps)(body:∀(f:δ)(a:ε)(A:ϴ)(outer:List Env)(s:ν)(H:Hp)(vs:List V)(Q:VK)(E:XK),ϐ cc k (A.deeper (envOfC x (ρ st) ⇑s f a))->sp vs H Q E->
   let X:=gR cc P w K mg base N x (ρ st) f a A outer s H E;let D:Ends:={nx:=λ_ H'=>Q .non H',rt:=Q};Ι X (ϕ st) D (start N vs) H):Def P w K mg base cc (k+1) y ps sp:=by
 let#[f,fd,F,g]:=F;show#[f,fd,g,F.kp,F.binds e,v8 F S len λa A outer s H vs Q E i h=>body f a A outer s H vs Q E i h]
end
end _L
namespace _L
open PySem PySem.Spec PyProof.Rows PySem.W
section
variable{X:Cx}{H:Hp}{Q:VK}
def aiy{a:δ}{bs:List Bool}{k:Bool}{j:Nat}(h:θ X.K H a (bs.map V.bl))(i:bs[j]?=↑k)(f:∀m b,m<j->bs[m]?=↑b->b≠k)(g:Q (.int j) H):MT X "list.index" (.ref a) [.bl k] H Q:=by
 show bZ (r:=λx xs H Q=>∃a bs k j,x=.ref a/\xs=[.bl k]/\θ X.K H a (bs.map V.bl)/\bs[j]?=↑k/\(∀m b,m<j->bs[m]?=↑b->b≠k)/\Q (.int (j:Nat)) H) ?_ #[a,bs,k,j,rfl,rfl,h,i,f,g];intro ϵ s σ H x xs v us Q I rx D h;let#[a,bs,k,j,rfl,rfl,h,i,f,g]:=h;cases rx;let#[u,rfl,E]:=vals1 D;cases(show u=Value.bool k from E);let#[M,r,#[#[cls,dd,z,sl],n,e,B,hd,hs],G]:=I.list h;simp only at B hd hs;subst B hd hs;obtain rfl:=HH r;rw[ϭ]at G;let hsz:=ϯ;let C:j<↥bs:=(aab.mp i).1;let c:∀(m:Nat)(l:m<(bs.map Value.bool).toArray.size),∃b,bs[m]?=↑b/\(bs.map Value.bool).toArray[m]=.bool b:=λm l=>by
  let o:m<↥bs:= ~~~l
  show#[bs[m],aag o,by simp]
 show ame F.slot_list_index #[_,e,rfl] F.entry_list_index (F.args_list_index_2 _ _) (SeqAt.list_indexAt a (bs.map Value.bool).toArray n _ sl (.bool k) (isBoolOf k) j (~~~C) () ?_ ?_) #[e,λy J=>?_,?_]
 .let#[b,e1,p]:=c j (~~~C);rw[p];rw[i]at e1;cases e1;show(k==k)=true;show beq_self_eq_true k
 .intro m l L;let#[b,e1,p]:=c m l;rw[p];show(b==k)=false;show beq_eq_false_iff_ne.mpr (f m b L e1)
 .let q:y∈bs.map Value.bool:= ~~~J
  let#[b,_,rfl]:=ad8.mp q;show SeqAt.EqAt.bool_bool b k
 .show#[.int j,H,I.tok _,#[_,rfl],g]
end
end _L
namespace _L
open PySem PySem.Spec PyProof.Rows PySem.W
section
variable{X:Cx}{σ:St}{H:Hp}{Q:VK}{x:Str}{p pos:Pos}{Kx:St->XK}{cc:Bool}{k':Nat}
def abg{aU:Bool}{k:Nat}{C:δ}{ps:List Str}{sp:Sp}(M:fV X.prog X.w X.K X.mg X.base aU k x C ps sp)(e:ϐ cc k' X.A)(g:k+1<=k')(a:aU=true->cc=true)(i:ak X Kx)(j:Gl X x)(hd:(x==("__debug__":Str))=false)(h:∀y dx,H y=none->H dx=none->dx≠y->sp [.ref y] (upd (upd H dx (.own y)) y (.ins C dx [])) (λv H2=>v=.non/\Q (.ref y) H2) (Kx σ)):EV X (.Call (.Name x p) [] [] pos) σ H Q:=by
 let#[f,fd,c,l,F]:=M.ex;intro ϵ s I;show aky (eZ I j M.at_ ?_ hd)*>atY I.kIn c.kp (Nm (us:=[]) c F ((e.mono g).oO a) l i I .nil h)
end
end _L
namespace _L
open PySem PySem.Spec PyProof.Rows
section
variable{X:Cx}{H:Hp}{Q:VK}{z y:Str}
def m_strip(a:↥z<=100000)(g:Q (.str (Txt.stripChars z y)) H):MT X "str.strip" (.str z) [.str y] H Q:=by
 show bZ (r:=λx xs H Q=>∃z y,x=.str z/\xs=[.str y]/\↥z<=100000/\Q (.str (Txt.stripChars z y)) H) ?_ #[z,y,rfl,rfl,a,g];intro ϵ s σ H x xs v us Q I rx c h;let#[z,y,rfl,rfl,a,g]:=h;let#[t,rfl]:=rx;let#[u,rfl,e]:=vals1 c;let#[t',rfl]:=e;show SC.stripChars (λf k=>#[.str _,H,I.tok k,#[f,rfl],g]) (by rw[ϯ];omega)
end
end _L
set_option compiler.extract_closed false
seal _L.EV _L.ET _L.EW _L.EA _L.SX _L.Ι _L.EG _L.wk _L.EI _L.OP _L.UN _L.CL _L.IX _L.SL _L.MT _L.EJ _L.mj _L.EH
section
open Lean
protected def _Z.q:Term:=⟨mkNode ``Parser.Term.hole #v[mkAtom "_"]⟩
protected def _Z.h (k:Name) (n:Nat):Term:=Syntax.mkApp (mkIdent k) (Array.replicate n _Z.q)
protected def _Z.t (l:List (MacroM (TSyntax `tactic))):MacroM (TSyntax `tactic):=do
 let a<-l.toArray.mapM id
 `(tactic|first $[| $a:tactic]*)
protected def _Z.r (l:List Name):MacroM (TSyntax `tactic):=do
 let a<-l.toArray.mapM λn=>`(tactic|refine $(mkIdent n) ?_)
 `(tactic|with_reducible first $[| $a:tactic]*)
protected def _Z.w (s:String):MacroM (TSyntax `tactic):=`(tactic|walk_at $(Syntax.mkStrLit s))
protected def _Z.b (t:MacroM (TSyntax `tactic)):MacroM Term:=do `(by $(← t):tactic)
protected def _Z.x (n:Name) (l:List Char) (f:Char → MacroM Term):MacroM (TSyntax `tactic):=do `(tactic|exact $(mkIdent n) $(← l.toArray.mapM f)*)
protected def _Z.a0:Char → MacroM Term
 |'r'=>_Z.b `(tactic|rfl)
 |'a'=>_Z.b `(tactic|assumption)
 |'d'=>_Z.b `(tactic|decide)
 |'o'=>_Z.b `(tactic|omega)
 |'q'=>`(?_)
 |'R'=>`(rfl)
 |'D'=>`(⟨by decide,by decide⟩)
 |'O'=>`(⟨by omega,by omega⟩)
 |_=>`(_)
protected def _Z.a:Char → MacroM Term
 |'u'=>_Z.b `(tactic|with_unfolding_all rfl)
 |'x'=>_Z.b (_Z.w "xo")
 |'f'=>_Z.b (_Z.t [`(tactic|decide),`(tactic|omega)])
 |'e'=>_Z.b (_Z.t [_Z.x ``Or.inl ['R'] _Z.a0,_Z.x ``Or.inr ['R'] _Z.a0])
 |'n'=>_Z.b (_Z.t [_Z.x `_L.Xj ['_','d','d'] _Z.a0,`(tactic|rfl)])
 |'i'=>do `(λ_ _=>$(← _Z.a0 'r'))
 |'j'=>do `(λ_=>$(← _Z.a0 'r'))
 |'l'=>do `(Or.inl $(← _Z.a0 'a'))
 |'m'=>_Z.b (_Z.t [_Z.x ``Or.inr ['D'] _Z.a0,_Z.x ``Or.inl ['D'] _Z.a0,_Z.x ``Or.inl ['O'] _Z.a0,_Z.x ``Or.inr ['O'] _Z.a0])
 |'p'=>`(⟨by decide,by decide,by decide⟩)
 |'s'=>`(_L.uB ⟨_,200,rfl,by decide +kernel,by omega,?_⟩)
 |c=>_Z.a0 c
protected def _Z.f (n:Name) (s:String):MacroM (TSyntax `tactic):=do
 let a<-s.toList.toArray.mapM _Z.a
 `(tactic|refine $(mkIdent n) $a*)
protected def _Z.c (j:Name) (l:List Term) (n:Nat) (t:MacroM (TSyntax `tactic)):MacroM (TSyntax `tactic):=do
 let c:=Syntax.mkApp (mkIdent j) (#v[_Z.q] ++ l.toArray ++ Array.replicate n _Z.q)
 `(tactic|((with_reducible change $c); $(← t)))
end
section
open Lean
protected def _Z.B (a b:Name):MacroM (TSyntax `tactic):=do
 `(tactic|refine _L.au PySem.F.plainAttrs_str $(mkIdent a) $(mkIdent b) (h:=?_))
protected def _Z.E:MacroM (TSyntax `tactic):=do
 let c1<-`((PySem.Expr.Compare _ [_] [_] _))
 let c2<-`((PySem.Expr.Compare _ [_,_] [_,_] _))
 let cl:=_Z.h ``PySem.Expr.Call 4
 let nm:=_Z.h ``PySem.Expr.Name 2
 let sb:=_Z.h ``PySem.Expr.Subscript 3
 let k1<-`(($(_Z.h ``PySem.Expr.Constant 3) :: _))
 let k2<-`(($(_Z.h ``PySem.Expr.FormattedValue 4) :: _))
 _Z.t [
  _Z.c `_L.EV [] 4 (_Z.t [
   _Z.c `_L.EV [nm] 3 (_Z.t [_Z.f `_L.ajo "rq",_Z.f `_L.aib "arqd",_Z.f `_L.aj1 "rraq"]),
   _Z.r [`_L.aa4,`_L.uB,`_L.amT],
   _Z.c `_L.EV [cl] 3 (_Z.t [
    _Z.c `_L.EV [Syntax.mkApp (mkIdent ``PySem.Expr.Call) #v[nm,_Z.q,_Z.q,_Z.q]] 3 (_Z.t [_Z.f `_L.ahA "rrarrq",_Z.f `_L.alu "rrarrq",_Z.f `_L.acN "aafdrxdrrq",_Z.f `_L.ap8 "aafdrxdq"]),
    _Z.B ``PySem.F.slot_str_join ``PySem.F.type_str_join,_Z.B ``PySem.F.slot_str_index ``PySem.F.type_str_index,_Z.B ``PySem.F.slot_str_startswith ``PySem.F.type_str_startswith]),
   _Z.c `_L.EV [c1] 3 (_Z.f `_L.amD "nq"),
   _Z.c `_L.EV [c2] 3 (_Z.f `_L.anv "uq"),
   _Z.r [`_L.alc,`_L.akD,`_L.aoi],
   _Z.c `_L.EV [sb] 3 (_Z.f `_L.acR "iq"),
   _Z.r [`_L.aah,`_L.aho,`_L.anh,`_L.abH,`_L.ag4,`_L.akv,`_L.Uw,`_L.agu,`_L.ahv]]),
  _Z.c `_L.EA [] 4 (_Z.t [_Z.r [`_L.dH],_Z.f `_L.gQ "rq"]),
  _Z.c `_L.ET [] 4 (_Z.t [
   _Z.c `_L.ET [c1] 3 (_Z.f `_L.agy "nq"),
   _Z.c `_L.ET [c2] 3 (_Z.f `_L.aen "uq"),
   _Z.r [`_L.aoe],
   _Z.c `_L.ET [_Z.h ``PySem.Expr.BoolOp 3] 3 (_Z.f `_L.alz "q"),
   _Z.c `_L.ET [nm] 3 (_Z.f `_L.aat "jq"),_Z.c `_L.ET [cl] 3 (_Z.f `_L.aat "jq"),_Z.c `_L.ET [sb] 3 (_Z.f `_L.aat "jq"),_Z.c `_L.ET [_Z.h ``PySem.Expr.Constant 3] 3 (_Z.f `_L.aat "jq")]),
  _Z.c `_L.EW [] 4 (_Z.r [`_L.ai4,`_L.ahB,`_L.am5,`_L.aiW]),
  _Z.c `_L.EO [] 4 (_Z.r [`_L.alH,`_L.adI]),
  _Z.c `_L.mj [] 5 (_Z.t [
   _Z.c `_L.mj [k1] 4 (_Z.f `_L.Y7 "s"),
   _Z.c `_L.mj [k2] 4 (_Z.f `_L.Y7 "q"),
   _Z.f `_L.agc "oq"])]
protected def _Z.O:MacroM (TSyntax `tactic):=_Z.r [`_L.agP,`_L.am8,`_L.ajd,`_L.afP,`_L.aeP,`_L.amu,`_L.agU,`_L.alq,`_L.al4,`_L.ajj,`_L.ae2,`_L.ajl,`_L.ag5,`_L.amh,`_L.apA,`_L.aqZ]
protected def _Z.P:MacroM (TSyntax `tactic):=do
 let i:=_Z.h `_L.V.int 1
 let c (n:Name):Term:=Syntax.mkApp (mkIdent ``PySem.compareOp) #v[mkIdent n]
 let b (n:Name):Term:=Syntax.mkApp (mkIdent ``PySem.binaryOp) #v[mkIdent n]
 let v (s:String):Term:=Syntax.mkApp (mkIdent ``PySem.Value.builtin) #v[Syntax.mkStrLit s]
 let r<-`([_L.V.ref _])
 let z<-`([_L.V.str _])
 _Z.t [
  _Z.c `_L.OP [c ``PySem.CmpOp.Eq] 4 (_Z.f `_L.ZJ "rq"),
  _Z.c `_L.OP [c ``PySem.CmpOp.NotEq] 4 (_Z.f `_L.acV "rq"),
  _Z.c `_L.OP [b ``PySem.Operator.Mod,i,i] 2 (_Z.f `_L.aeR "fq"),
  _Z.c `_L.OP [b ``PySem.Operator.Mult,i,i] 2 (_Z.f `_L.amt "mq"),
  _Z.c `_L.OP [b ``PySem.Operator.Pow,i,i] 2 (_Z.f `_L.IK "pq"),
  _Z.c `_L.CL [v "len",r] 2 (_Z.f `_L.Km "lq"),
  _Z.c `_L.CL [v "len",z] 2 (_Z.f `_L.ab6 "oq"),
  _Z.c `_L.CL [v "ord",z] 2 (_Z.f `_L.ahR "q"),
  _Z.c `_L.CL [v "isinstance"] 3 (_Z.t [`(tactic|refine _L.X6 (k:=false) ?_),`(tactic|refine _L.X6 (k:=true) ?_)])]
protected def _Z.T:MacroM (TSyntax `tactic):=do
 let f (c:Term):MacroM (TSyntax `tactic):=`(tactic|((with_reducible change $c); refine ⟨_,rfl,?_⟩))
 _Z.t [_Z.r [`_L.amO],_Z.r [`_L.ajY],_Z.r [`_L.ady],_Z.r [`_L.acy],
  _Z.r [`_L.ade,`_L.agh,`_L.ag9,`_L.alA,`_L.apo,`_L.aoh,`_L.ao6,`_L.ah9,`_L.aov,`_L.ao2],
  do f (← `(∃ k,_L.V.bl _ = _L.V.bl k ∧ _)),do f (← `(∃ k,_L.Kd _ (_L.V.bl _) _ k ∧ _)),do f (← `(∃ i,_L.V.int _ = _L.V.int i ∧ _)),
  `(tactic|((with_reducible change _L.v7 _ _ (_L.V.str _) _ ∧ _); refine ⟨by rfl,?_⟩))]
protected def _Z.S:MacroM (TSyntax `tactic):=do
 let a<-`((PySem.Stmt.Assign [PySem.Expr.Name _ _] _ _))
 _Z.t [_Z.r [`_L.χ],`(tactic|((with_reducible refine _L.aaG ?_); intro _)),`(tactic|((with_reducible refine _L.aad ?_); intro _ _)),
  _Z.r [`_L.ο,`_L.ap2,`_L.aq3,`_L.Δ],
  _Z.c `_L.SX [a] 3 (_Z.f `_L.Ar "arereq"),
  _Z.c `_L.SX [_Z.h ``PySem.Stmt.Expr 2] 3 (_Z.f `_L.Ϝ "q")]
end
local macro_rules|`(tactic|walk_at "xo")=>`(tactic|first|exact _L.ς|assumption|exact _L.Pg rfl)
local macro_rules|`(tactic|walk_at "po")=>`(tactic|first|exact _L.afG|assumption|exact PySem.PassesOwn.never)
local macro_rules|`(tactic|walk_at "cb")=>_Z.f `_L.ahA "rrarrq"
local macro_rules|`(tactic|walk_at "o")=>_Z.O
local macro_rules|`(tactic|walk_at "o2")=>_Z.P
local macro_rules|`(tactic|walk_at "e")=>_Z.E
local macro_rules|`(tactic|walk_at "t")=>_Z.T
local macro_rules|`(tactic|walk_at "c")=>`(tactic|(refine _L.aad ?_; intro _ _))
local macro_rules|`(tactic|walk_at "n")=>`(tactic|(refine _L.aaG ?_; intro _))
local macro_rules|`(tactic|walk_at "s")=>_Z.S
local macro_rules|`(tactic|walk_at "go")=>do
 let x<-_Z.t [_Z.E,_Z.O,_Z.P,_Z.T,_Z.S]
 `(tactic|repeat' ($x:tactic))
local macro_rules|`(tactic|walk_at "ex")=>do
 let x<-_Z.t [_Z.E,_Z.O,_Z.P,_Z.T]
 `(tactic|repeat' ($x:tactic))
namespace _L
theorem ad2{α:Type}{us:List α}(h:↥us=1):∃a,us=[a]:=match us,h with|[a],_=>#[a,rfl]
theorem aeM{α:Type}{us:List α}(h:↥us=2):∃a b,us=[a,b]:=match us,h with|[a,b],_=>#[a,b,rfl]
theorem Pa{α:Type}{us:List α}(h:↥us=3):∃a b c,us=[a,b,c]:=match us,h with|[a,b,c],_=>#[a,b,c,rfl]
theorem akt{α:Type}{us:List α}(h:↥us=4):∃a b c d,us=[a,b,c,d]:=match us,h with|[a,b,c,d],_=>#[a,b,c,d,rfl]
theorem amI{α:Type}{us:List α}(h:↥us=5):∃a b c d e,us=[a,b,c,d,e]:=match us,h with|[a,b,c,d,e],_=>#[a,b,c,d,e,rfl]
theorem alC{α:Type}{us:List α}(h:↥us=6):∃a b c d e f,us=[a,b,c,d,e,f]:=match us,h with|[a,b,c,d,e,f],_=>#[a,b,c,d,e,f,rfl]
end _L
open Lean Parser.Tactic in
local macro_rules|`(tactic|walk_at "bb")=>_Z.t ([(1,`_L.ad2),(2,`_L.aeM),(3,`_L.Pa),(4,`_L.akt),(5,`_L.amI),(6,`_L.alC)].map λ(n,x)=>do
 let p<-`(rcasesPatLo|_)
 let q:=Array.replicate n p
 `(tactic|(intro _ _ _ _ _ _ us hl;obtain ⟨$q,*,e⟩:=$(mkIdent x) hl;subst e;rfl)))
local macro_rules | `(tactic| walk_at "ln") => `(tactic| (intro _ _ _ _ h; cases h; first | (subst_vars; rfl) | (rename_i h; cases h; subst_vars; rfl)))
local macro_rules | `(tactic| walk_at "A") => `(tactic| (walk_at "c"; walk_at "s"; walk_at "ex"))
namespace _K
open PySem _L PyProof.Rows
abbrev ah8:List Str:=["self","row","values","was"]
def Nf:Μ ah8 ["self","row","values"] (ρ Av):=by room
abbrev ani:List Str:=["self","moment","rows","deed"]
def Yr:Μ ani ["self","moment"] (ρ Fo):=by room
abbrev al1:List Str:=["self","moment","behind"]
def Mt:Μ al1 ["self","moment"] (ρ zG):=by room
abbrev agK:List Str:=["self","values","value"]
def Tn:Μ agK ["self","values"] (ρ tu):=by room
abbrev ajV:List Str:=["self","row","verb","words"]
def YL:Μ ajV ["self","row"] (ρ Ii):=by room
abbrev afQ:List Str:=["self","words"]
def XX:Μ afQ ["self","words"] (ρ yX):=by room
abbrev adL:List Str:=["self","verb","words","row","book","values"]
def VJ:Μ adL ["self","verb","words"] (ρ Hm):=by room
abbrev afC:List Str:=["self","words","row"]
def Vs:Μ afC ["self","words"] (ρ Ku):=by room
abbrev aiK:List Str:=["self","verb","words","make","size","order","sieve"]
def aay:Μ aiK ["self","verb","words"] (ρ Jv):=by room
abbrev ama:List Str:=["self","verb","words","size","mark"]
def Wv:Μ ama ["self","verb","words"] (ρ Ey):=by room
abbrev ae1:List Str:=["self","words","size","number","order","sieve"]
def aa1:Μ ae1 ["self","words"] (ρ Gm):=by room
abbrev aof:List Str:=["self","words","moment"]
def Vq:Μ aof ["self","words"] (ρ Kh):=by room
abbrev aln:List Str:=["self","words","moment","order","sieve"]
def R7:Μ aln ["self","words"] (ρ Aj):=by room
abbrev afM:List Str:=["self","at"]
def alx:Μ afM ["self","at"] (ρ Ti):=by room
abbrev ajD:List Str:=["self","now"]
def amF:Μ ajD ["self","now"] (ρ RW):=by room
abbrev agx:List Str:=["self","row"]
def ac4:Μ agx ["self","row"] (ρ Mr):=by room
abbrev ajW:List Str:=["self","row"]
def abo:Μ ajW ["self","row"] (ρ VG):=by room
abbrev ac1:List Str:=["self","known"]
def aoo:Μ ac1 ["self","known"] (ρ Yx):=by room
abbrev amn:List Str:=["word","most","number"]
def Qd:Μ amn ["word","most"] (ρ Ea):=by room
abbrev aem:List Str:=["word","below","number"]
def TJ:Μ aem ["word"] (ρ Dc):=by room
abbrev aif:List Str:=["word"]
def VF:Μ aif ["word"] (ρ Ga):=by room
abbrev aiT:List Str:=["columns","name","kind","names"]
def Oi:Μ aiT ["columns"] (ρ Gy):=by room
abbrev ajP:List Str:=["columns","name","place","column"]
def R8:Μ ajP ["columns","name"] (ρ Mm):=by room
abbrev ajh:List Str:=["columns","row","values"]
def U8:Μ ajh ["columns","row","values"] (ρ Hy):=by room
abbrev ace:List Str:=["columns","word","sign","name"]
def aac:Μ ace ["columns","word"] (ρ Qi):=by room
abbrev ak1:List Str:=["columns","text","words","order","names"]
def Q9:Μ ak1 ["columns","text"] (ρ xR):=by room
abbrev V7:List Str:=["rows","place","up","rank"]
def Wx:Μ V7 ["rows","place","up"] (ρ Ca):=by room
abbrev Z4:List Str:=["columns","order","rows","line","name","up"]
def TV:Μ Z4 ["columns","order","rows"] (ρ Bw):=by room
abbrev Vr:List Str:=["columns","words","place","column"]
def Xe:Μ Vr ["columns","words","place"] (ρ Dw):=by room
abbrev amq:List Str:=["kind","words","place","word","value"]
def Cp:Μ amq ["kind","words","place"] (ρ Vc):=by room
abbrev afp:List Str:=["columns","words","start","column"]
def yp:Μ afp ["columns","words","start"] (ρ aaU):=by room
abbrev aeT:List Str:=["columns","words","start","word","column","kind","value","text"]
def xM:Μ aeT ["columns","words","start"] (ρ yJ):=by room
abbrev aio:List Str:=["columns","words","start","within","word","one","behind","other","text"]
def M5:Μ aio ["columns","words","start","within"] (ρ aav):=by room
abbrev ab7:List Str:=["columns","words","start","within","word"]
def Mp:Μ ab7 ["columns","words","start","within"] (ρ LR):=by room
abbrev ai6:List Str:=["columns","text","words","sieve","behind"]
def Ug:Μ ai6 ["columns","text"] (ρ Rf):=by room
abbrev ami:List Str:=["book","order","sieve","moment","columns","ordered","through","keys","row","values","made","was","now"]
def VR:Μ ami ["book","order","sieve","moment"] (ρ Vi):=by room
abbrev aco:List Str:=["text","total","power","sign"]
def X7:Μ aco ["text"] (ρ K8):=by room
abbrev acd:List Str:=["letter","make"]
def Vb:Μ acd ["letter"] (ρ aau):=by room
abbrev aj8:List Str:=["word","most","number"]
def aaS:Μ aj8 ["word","most"] (ρ Om):=by room
abbrev aeG:List Str:=["columns","order","text","side","words","row","kinds"]
def Mj:Μ aeG ["columns","order","text"] (ρ J9):=by room
abbrev ahd:List Str:=["columns","body","parts","make","moment","order","sieve"]
def WT:Μ ahd ["columns","body"] (ρ ZZ):=by room
abbrev aiN:List Str:=["columns","text","body","stop","check"]
def Sh:Μ aiN ["columns","text"] (ρ R4):=by room
abbrev alE:List Str:=["row","values","untouched","words"]
def Sx:Μ alE ["row","values","untouched"] (ρ KZ):=by room
abbrev anu:List Str:=["leaf","rows","back","forth","many","ahead","moment","here","page","row","values","untouched"]
def aaQ:Μ anu ["leaf"] (ρ xP):=by room
abbrev alL:List Str:=["columns","order","line","cut","start","stop","here","back","forth"]
def Ph:Μ alL ["columns","order","line","cut","start","stop"] (ρ DW):=by room
abbrev aeg:List Str:=["columns","order","line","cut","size","start"]
def Rt:Μ aeg ["columns","order","line","cut","size"] (ρ X3):=by room
abbrev agn:List Str:=["columns","order","line","cut","size","stop"]
def MK:Μ agn ["columns","order","line","cut","size"] (ρ Xc):=by room
abbrev ai8:List Str:=["book","order","sieve","size","number","columns","ordered","through","line","ahead","rows"]
def Vf:Μ ai8 ["book","order","sieve","size","number"] (ρ Io):=by room
abbrev adW:List Str:=["book","make","begin","sieve","rows"]
def Vj:Μ adW ["book","make","begin","sieve"] (ρ JT):=by room
abbrev aik:List Str:=["book","mark","size","onward","make","begin","order","text","cut","columns","line","here","back","forth","ahead","rows","moment"]
def Qe:Μ aik ["book","mark","size","onward"] (ρ uy):=by room
abbrev abj:List Str:=["book","text","mark"]
def O1:Μ abj ["book","text"] (ρ RC):=by room
abbrev ag7:List Str:=["word","number"]
def Zk:Μ ag7 ["word"] (ρ Q4):=by room
abbrev Xa:List Str:=["word","parts"]
def YJ:Μ Xa ["word"] (ρ GJ):=by room
abbrev ajc:List Str:=["columns","words"]
def Xo:Μ ajc ["columns","words"] (ρ Ys):=by room
abbrev ahb:List Str:=["words","place"]
def WK:Μ ahb ["words"] (ρ Wz):=by room
abbrev anp:List Str:=["_law_script","_law_k","_law_many","_law_cell","_law_seed"]
def O8:Μ anp ["_law_script","_law_k","_law_many"] (ρ aaf):=by room
abbrev aeE:List Str:=["_law_script","_law_k","_law_order","_law_some"]
def Pz:Μ aeE ["_law_script","_law_k"] (ρ Sv):=by room
abbrev afe:List Str:=["_law_script","_law_heads","_law_head","_law_some","_law_values","_law_make","_law_mark"]
def Wu:Μ afe ["_law_script"] (ρ JQ):=by room
abbrev abE:List Str:=["_law_script","_law_k","_law_some"]
def Qh:Μ abE ["_law_script","_law_k"] (ρ aae):=by room
abbrev ajJ:List Str:=["_law_word","_law_sign"]
def Nv:Μ ajJ ["_law_word"] (ρ aaD):=by room
abbrev afm:List Str:=["_law_kind","_law_word","_law_sign","_law_figures"]
def Nk:Μ afm ["_law_kind","_law_word"] (ρ qd):=by room
abbrev amw:List Str:=["_law_parts","_law_ahead","_law_head","_law_numbers"]
def QZ:Μ amw ["_law_parts","_law_ahead"] (ρ zc):=by room
abbrev ahD:List Str:=["_law_parts","_law_names","_law_part","_law_halves","_law_good_here","_law_sign"]
def Mv:Μ ahD ["_law_parts"] (ρ Bx):=by room
abbrev aj2:List Str:=["_law_desk","_law_row","_law_told","_law_caught","e","_law_marks","_law_others"]
def Q6:Μ aj2 ["_law_desk","_law_row"] (ρ Gi):=by room
abbrev Bp:List Str:=["_law_script","_law_parts","_law_k","_law_at","_law_way","_law_desk","_law_ahead","_law_found"]
def aaI:Μ Bp ["_law_script"] (ρ jg):=by room
section
variable{P:ϰ}{w:Ϯ}{K:ϩ}{mg:MG}{base:ϫ}{cc:Bool}{k:Nat}{sp:Sp}
theorem ahW(T:Txt K mg)(l:LN sp 3)(b:BD cc P w K mg base k Vr "read_column" Dw sp):Def P w K mg base cc (k+1) "read_column_sifting" ["columns","words","place"] sp:=Ot T.qR Xe (by walk_at"bb") l (by assumption)
theorem adE(T:Txt K mg)(l:LN sp 1)(b:BD cc P w K mg base k Xa "read_column" GJ sp):Def P w K mg base cc (k+1) "read_column_desk" ["word"] sp:=Ot T.KJ YJ (by walk_at"bb") l (by assumption)
def lB(T:Txt K mg){cc:Bool}:mX P w K mg base cc 1 "NoSieve" "at":=by
 show wj T.xJ alx (by walk_at"bb") rfl (λf l A outer s H vs Q E hi m h=>?_);let#[e,n,rfl,a,c,q]:=h;let hsz:=ϯ;show rE (Ϝ ?_)*>vy (pl:=_) T.oN.toXBase ?_;cbv;show fY ?_;f_are;show#[n,rfl,_V.cu a,_,70,rfl,_V.mL a,(),?_];cbv;intro p;show dH (uE hi c ?_)*>pP (vP T.xJ.sa T.xJ.xc T.xJ.tk ?_);f_are;f_are;show#[e,rfl,c,λD g i=>q D _ i g (λb o j r=>?_) ξ ?_]
 .rw[ι j,ι (Ξ r g)];show r
 .rw[ι i,ξ]
def ank(T:Txt K mg){cc:Bool}:mX P w K mg base cc 1 "Later" "now":=by
 show wj T.zu amF (by walk_at"bb") rfl (λf l A outer s H vs Q E hi m h=>?_);let#[e,n,rfl,a,c,q]:=h;let hsz:=ϯ;show rE (Ϝ ?_)*>vy (pl:=_) T.oN.toXBase ?_;cbv;show fY ?_;f_are;show#[n,rfl,_V.cu a,_,70,rfl,_V.mL a,(),?_];cbv;intro p;show dH (uE hi c ?_)*>pP (vP T.zu.sa T.zu.xc T.zu.tk ?_);f_are;f_are;show#[e,rfl,c,λD g i=>q D _ i g (λb o j r=>?_) ξ ?_]
 .rw[ι j,ι (Ξ r g)];show r
 .rw[ι i,ξ]
def agq(T:Txt K mg){cc:Bool}:mX P w K mg base cc 1 "Absent" "row":=by
 show wj T.Bm ac4 (by walk_at"bb") rfl (λf l A outer s H vs Q E hi m h=>?_);let#[e,n,rfl,a,c,q]:=h;let hsz:=ϯ;show rE (Ϝ ?_)*>vy (pl:=_) T.oN.toXBase ?_;cbv;show fY ?_;f_are;show#[n,rfl,_V.cu a,_,70,rfl,_V.mL a,(),?_];cbv;intro p;show dH (uE hi c ?_)*>pP (vP T.Bm.sa T.Bm.xc T.Bm.tk ?_);f_are;f_are;show#[e,rfl,c,λD g i=>q D _ i g (λb o j r=>?_) ξ ?_]
 .rw[ι j,ι (Ξ r g)];show r
 .rw[ι i,ξ]
def aom(T:Txt K mg){cc:Bool}:mX P w K mg base cc 1 "Twice" "row":=by
 show wj T.Aq abo (by walk_at"bb") rfl (λf l A outer s H vs Q E hi m h=>?_);let#[e,n,rfl,a,c,q]:=h;let hsz:=ϯ;show rE (Ϝ ?_)*>vy (pl:=_) T.oN.toXBase ?_;cbv;show fY ?_;f_are;show#[n,rfl,_V.cu a,_,70,rfl,_V.mL a,(),?_];cbv;intro p;show dH (uE hi c ?_)*>pP (vP T.Aq.sa T.Aq.xc T.Aq.tk ?_);f_are;f_are;show#[e,rfl,c,λD g i=>q D _ i g (λb o j r=>?_) ξ ?_]
 .rw[ι j,ι (Ξ r g)];show r
 .rw[ι i,ξ]
def abW(T:Txt K mg){cc:Bool}:mX P w K mg base cc 1 "Gone" "known":=by
 show wj T.xF aoo (by walk_at"bb") rfl (λf l A outer s H vs Q E hi m h=>?_);let#[e,n,rfl,a,c,q]:=h;let hsz:=ϯ;show rE (Ϝ ?_)*>vy (pl:=_) T.oN.toXBase ?_;cbv;show fY ?_;f_are;show#[n,rfl,_V.cu a,_,70,rfl,_V.mL a,(),?_];cbv;intro p;show dH (uE hi c ?_)*>pP (vP T.xF.sa T.xF.xc T.xF.tk ?_);f_are;f_are;show#[e,rfl,c,λD g i=>q D _ i g (λb o j r=>?_) ξ ?_]
 .rw[ι j,ι (Ξ r g)];show r
 .rw[ι i,ξ]
end
end _K
namespace _K
open PySem _L PyProof.Rows _M _V _W
section
variable{P:ϰ}{w:Ϯ}{K:ϩ}{mg:MG}{base:ϫ}
def oM:Def 1 "_law_draw" ["_law_script","_law_k","_law_many"] (aaA K):=by
 exists O8,oM,n,#[a,ns,k,m,rfl,i,o,j,l,p,q],s.aN,2;let g:↥(ns.map V.int)=↥ns:=ϭ ..;w_up;cbv;rw[g];let f:∀c:Int,c=zW ns k->Q (.int ((c % 1000003+31*k*k+1)*48271 % 999983*7919 % 524287 % m)) H:=λc e=>by rw[e];show q
 show Ζ (λh=>?_) (λh=>?_)
 .cbv;rw[g];cbv;show Φ i (amX 0 (aql _ ()) (aoz _ ())) ?_;cbv;show f _ (by unfold zW;rw[if_pos ()])
 .cbv;show f _ (by unfold zW;rw[if_neg ()])
inductive W0(K:ϩ)(mg:MG):Sp
 |mk (a:δ) (ws:List Str) (p:Nat):vs=[.ref a,.int p]->θ K H a (ws.map V.str)->↥ws<=4000->p<=100000->(¬(p<↥ws/\p<60)->∀e H',ζ H H'->H' e=↑(.xd [("at",.int p)])->E (.ref (η mg "NoSieve")) (↑e,true) H')->(∀z,ws[p]?=↑z->p<60->Q (.str z) H)
def qY:Def 3 "word_at" ["words","place"] (W0 K mg):=by
 exists ["words","place"],qY,g,#[a,ws,p,rfl,i,n,o,bad,q],s.aN,u.ahQ;let j:↥(ws.map V.str)=↥ws:=ϭ ..;let rest:¬(p<↥ws/\p<60)->Ι X [nW (yO (nW (ϕ Js) 0)) 0] {nx:=λσ' H'=>Ι X ((ϕ Js).drop 1) {nx:=λ_ H'=>Q .non H',rt:=Q} σ' H',rt:=Q} [↑(.ref a),↑(.int p)] H:=by
  intro l;f_len;show ie (lB T (cc:=true)) g (by decide) (λ_=>rfl) ς ?_;cbv;show#[p,rfl,(),λe H' sm m=>bad l e H' sm m]
 w_up;cbv;rw[j];show Ζ (λh=>?_) (λh=>?_)
 .show rest ()
 .cbv;show Ζ (λh2=>?_) (λh2=>?_)
  .show rest ()
  .cbv;let c:p<↥ws:=()
   let f:ws[p]?=↑ws[p]:=aag c;show Φ i (ϛ (by rw[acj,f];rfl)) ?_*>q _ f ()
def dh(ws:List Str)(s b:Nat):Str:=aep " " ((ws.drop s).take (b-s))
inductive aaa(K:ϩ):Sp
 |mk (a:δ) (ws:List Str) (s b:Nat):vs=[.ref a,.int s,.int b]->θ K H a (ws.map V.str)->↥ws<=4000->(∀z∈ws,↥z<=1000)->s<=b->b<=↥ws->(∀H',ζ H H'->Q (.str (dh ws s b)) H')
theorem pQ:∀{l:List Str},(∀z∈l,↥z<=1000)->(l.map (·.length)).sum<=↥l*1000
 |[],_=>by simp
 |z::l,h=>by
  let h1:=pQ (l:=l) λy a=>h y (by simp[a])
  let h2:=h z (by simp);simp only[acz,asi,aap];omega
def vL:Def 1 "text_between" ["words","start","behind"] (aaa K):=by
 exists ["words","start","behind"],vL,u,#[a,ws,i,j,rfl,f,v,g,m,x,q];let n:↥(" ":Str)=1:=by fin2
 let hsz:=ϯ;symm;cbv;show bw f λp o=>?_
 let e:aq (ws.map V.str) ↑(i:Int) ↑(j:Int)=((ws.drop i).take (j-i)).map V.str:=by
  unfold aq;let c:↥(ws.map V.str)=↥ws:=ϭ ..;let e1:_H.ϊ ↥(ws.map V.str) 0 ↑(i:Int)=i:=by
   rw[c];unfold _H.ϊ;split
   .rename_i h;cases h
   .rename_i h;cases h;rw[if_neg ()];omega
  let s:_H.ϊ ↥(ws.map V.str) ↥(ws.map V.str) ↑(j:Int)=j:=by
   rw[c];unfold _H.ϊ;split
   .rename_i h;cases h
   .rename_i h;cases h;rw[if_neg ()];omega
  rw[e1,s, <-asj, <-ao3]
 rw[e];let#[sm,ep,H,p,H2]:=Η o (.lst (((ws.drop i).take (j-i)).map V.str));cbv;show lM (θ.of ep) ?_ (q H2 sm);let h1:=pQ (l:=(ws.drop i).take (j-i)) λz h=>g z (ak5 (apf h))
 let h2:↥((ws.drop i).take (j-i))<=4000:=by
  rw[ah0,af0];omega
 rw[n];omega
def alY{cs:List Β}{z:Str}:∀{i:Nat}{c:Β}(j:Nat),cs[i]?=↑c->(∀k c,k<i->cs[k]?=↑c->¬c.1=z)->c.1=z->il cs z j=.int ((j+i:Nat):Int):=by
 induction cs with
 |nil=>intro i c j e;simp at e
 |cons d r f=>
  intro i c j e h a;unfold il;cases i with
  |zero=>
   simp at e;subst e;rw[if_pos a];rfl
  |succ i=>
   rw[if_neg (h 0 d () rfl)];rw[f (j+1) (~~~e) (λk c l g=>h (k+1) c () (~~~g)) a]
   congr 2
   omega
def SM{cs:List Β}{z:Str}:∀(j:Nat),(∀c∈cs,¬c.1=z)->il cs z j=.non:=by
 induction cs with
 |nil=>intro j h;rfl
 |cons d r a=>
  intro j h;unfold il;rw[if_neg (h d (by simp)),a (j+1) λc e=>h c (by simp[e])]
def pF:Def 1 "place_of" ["columns","name"] Tz:=by
 exists R8,pF,I,#[a,cs,z,rfl,#[vs,y,f],q],C.aeq,2;w_up;show abV (by walk_at"po") (by rfl) (by rfl) C (by rfl) ?_;cbv;show#[a,vs,rfl,y,λi σ H'=>(∃p s,σ=[↑(.ref a),↑(.str z),p,s])/\ζ H H'/\∀k c,k<i->cs[k]?=↑c->¬c.1=z,#[#[none,none,rfl],ζ.refl _,λk c j=>()],λi σ H' hi g=>.inl (.inl (g.2.1<*y)),λi x u σ H' D g F=>?_,λσ H' g=>?_]
 .let#[#[p,s,rfl],sm,l]:=g;let#[c,m,t,rfl,G]:=f.get D;let n :=sm<|>(ζ.upd (o:=.tup [.int i,.ref t]) F);let B:(upd H' u (.tup [.int i,.ref t])) u=↑(.tup [.int i,.ref t]):=ξ;generalize upd H' u (.tup [.int i,.ref t])=H2 at n B⊢;show aJ (ψ.of B) (Κ (Γ nd (Κ (Γ nd (aF ?_)))));f_len;cbv;show gH (ψ.of (n<*G)) (show ύ [V.str c.1,V.str c.2] 0=↑(V.str c.1)from rfl) ?_;cbv;show Ζ (λh=>?_) (λh=>?_)
  .let v:c.1=z:=by injection h
   cbv;have:=alY 0 m l v;rw[arW]at this;rw[<-this];show q H2 n
  .let v:¬c.1=z:=λe=>h (by rw[e])
   cbv;show#[#[_,_,rfl],n,λk d j hd=>?_];by_cases e:k=i
   .subst e;rw[m]at hd;cases hd;show v
   .show l k d () hd
 .let#[#[p,s,rfl],sm,l]:=g;f_len;cbv;have:=SM (cs:=cs) (z:=z) 0 λc m=>by
   let#[k,j,e]:=apD m;show l k c (by rw[f.len];show j) (by rw[<-e];show aag j)
  rw[<-this];show q H' sm
def dD(cs:List Β)(ws:List Str)(p:Nat):Option Nat:=if p<60 then match ws[p]? with
 |none=>none
 |some z=>if cs.any (λc=>decide (c.1=z))=true then some (bL cs z)else none
 else none
inductive M7(K:ϩ)(mg:MG):Sp
 |mk (b:δ) (cs:List Β) (a:δ) (ws:List Str) (p:Nat):vs=[.ref b,.ref a,.int p]->aH H b cs->θ K H a (ws.map V.str)->↥ws<=4000->p<=100000->(dD cs ws p=none->∀e H',ζ H H'->H' e=↑(.xd [("at",.int p)])->E (.ref (η mg "NoSieve")) (↑e,true) H')->(∀i H',ζ H H'->dD cs ws p=↑i->Q (.int (i:Nat)) H')
def qR:Def 4 "read_column_sifting" ["columns","words","place"] (M7 K mg):=by
 show ahW T (λvs H Q E h=>by let#[b,cs,a,ws,p,rfl,_]:=h;rfl) (λ_ _ _ _ _ H vs Q E n h=>?_);intro X _;let#[b,cs,a,ws,p,rfl,o,s,u,v,bad,q]:=h;let nd:=Xe.nd;let y:=!pF;let B:=!qY;w_up;cbv;show#[a,ws,p,rfl,s,u,v,λC e H' sm j=>bad ?_ e H' sm j,λz m g=>?_]
 .unfold dD;by_cases g:p<60
  .rw[if_pos g,arp ()]
  .rw[if_neg g]
 .cbv;show#[b,cs,z,rfl,o,λH2 sm=>?_];by_cases f:∃c∈cs,c.1=z
  .let e:dD cs ws p=↑(bL cs z):=by
    unfold dD;rw[if_pos g,m];show if_pos (by rw[apt];let#[c,i,e]:=f;show#[c,i,decide_eq_true e])
   rw[vA 0 f,arW];cbv;show q _ H2 sm e
  .let e:dD cs ws p=none:=by
    unfold dD;rw[if_pos g,m];show if_neg (by rw[apt];rintro⟨c,i,e⟩;show f #[c,i,of_decide_eq_true e])
   rw[SM 0 λc i e=>f #[c,i,e]];w_up;cbv;show ie (lB T (cc:=true)) n (by decide) (λ_=>rfl) ς ?_;cbv;show#[p,rfl,(),λx H' l j=>bad e x H' (sm<|>l) j]
def Ao:Def 1 "value_before" ["one","other"] Ux:=by
 exists ["one","other"],Ao,a,#[x,y,rfl,hs,q];w_up;cbv;show Ζ (λh=>?_) (λh=>?_)
 .subst h;cbv;let e:before x .non=false:=by cases x<;>rfl
  rw[e]at q;show q
 .cbv;show Ζ (λh2=>?_) (λh2=>?_)
  .subst h2;cbv;let e:before .non y=true:=by cases y<;>first|rfl|show absurd rfl h
   rw[e]at q;show q
  .obtain e|e|⟨i,j,rfl,rfl⟩|⟨i,j,rfl,rfl⟩:=hs
   .show absurd e h2
   .show absurd e h
   .cbv;show q
   .cbv;show q
inductive pL(K:ϩ):Sp
 |mk (a C dx:δ) (fs:List (Str×V)) (z:Str):vs=[.ref a,.str z]->H a=↑(.ins C dx fs)->Ϙ K C->Ο K C "text"->↥fs<900->Q .non (upd H a (.ins C dx (ϥ "text" (.str z) fs)))
def vq{cc:Bool}:FD P w K mg base cc 1 "__init__" "Sieve.__init__" IV ["self","text"] (pL K):=by
 exists ["self","text"],_,g,#[a,C,dx,fs,z,rfl,c,e,f,i,q];f_len;show cZ ?_;f_are;f_are;show#[a,C,dx,fs,rfl,c,e,f,(),q]
inductive Jk(K:ϩ):Sp
 |mk (a C dx:δ) (fs:List (Str×V)) (z:Str) (p:V):vs=[.ref a,.str z,p]->H a=↑(.ins C dx fs)->Ϙ K C->Ο K C "text"->Ο K C "place"->↥fs<800->Q .non (upd (upd H a (.ins C dx (ϥ "text" (.str z) fs))) a (.ins C dx (ϥ "place" p (ϥ "text" (.str z) fs))))
def akf(T:Txt K mg){cc:Bool}:FD P w K mg base cc 2 "__init__" "NoneSieve.__init__" Mz ["self","text","place"] (Jk K):=by
 exists ["self","text","place"],_,f,#[a,C,dx,fs,z,p,rfl,g,e,i,c,j,q];let B:pZ P w K mg base cc 1 "Sieve" "__init__" ["self","text"] (pL K):=vq.asked T.yH T.Bl;let l:=lg "text" (V.str z) fs;w_up;show Ϝ ?_*>Bc (pl:=_) B f id ς ?_;cbv;show#[a,C,dx,fs,z,rfl,g,e,i,(),?_];f_len;show cZ ?_;f_are;f_are;show#[a,C,dx,_,rfl,ξ,e,c,(),q]
inductive qj(K:ϩ):Sp
 |mk (a C dx:δ) (fs:List (Str×V)) (z:Str) (p v:V):vs=[.ref a,.str z,p,v]->H a=↑(.ins C dx fs)->Ϙ K C->Ο K C "text"->Ο K C "place"->Ο K C "value"->↥fs<800->(∀H',H' a=some (.ins C dx (ϥ "value" v (ϥ "place" p (ϥ "text" (.str z) fs))))->(∀b o,b≠a->H b=↑o->H' b=↑o)->Q .non H')
def zQ(T:Txt K mg){cc:Bool}:FD P w K mg base cc 2 "__init__" "ValueSieve.__init__" uG ["self","text","place","value"] (qj K):=by
 exists ["self","text","place","value"],_,i,#[a,C,dx,fs,z,p,v,rfl,j,c,l,f,m,s,q];let B:pZ P w K mg base cc 1 "Sieve" "__init__" ["self","text"] (pL K):=vq.asked T.yH T.Bl;let u:=lg "text" (V.str z) fs;let n:=lg "place" p (ϥ "text" (V.str z) fs);w_up;show Ϝ ?_*>Bc (pl:=_) B i id ς ?_;cbv;show#[a,C,dx,fs,z,rfl,j,c,l,(),?_];w_up;show cZ ?_;f_are;f_are;show#[a,C,dx,_,rfl,ξ,c,f,(),?_];f_len;show cZ ?_;f_are;f_are;show#[a,C,dx,_,rfl,ξ,c,m,(),q _ ξ λb o g e=>?_];rw[ι g,ι g,ι g];show e
inductive Lk|is|under|over|holds
def xY:Lk->V->V->Bool
 |.is,x,v=>decide (x=v)
 |.under,x,v=>before x v
 |.over,x,v=>before v x
 |.holds,.str x,.str v=> !(Builtin.Str.occurrences x v 0 ↥x 1).isEmpty
 |.holds,_,_=>false
abbrev F3(z:Str)(p:Nat)(v:V):List (Str×V):=[("text",.str z),("place",.int p),("value",v)]
def Dh:Lk->V->V->Prop
 |.holds,x,v=>∃y z,x=.str y/\v=.str z
 |_,x,v=>scalar x=true/\scalar v=true/\fj x v
inductive qQ(l:Lk)(C:δ):Sp
 |mk (a dx:δ) (z:Str) (p:Nat) (x v:V):vs=[.ref a,x]->H a=↑(.ins C dx (F3 z p v))->Dh l x v->Q (.bl (xY l x v)) H
def adb{cc:Bool}{C:δ}(c:Ϙ K C)(n:Ο K C "value"):FD P w K mg base cc 2 "fits" "ValueSieve.fits" Ni ["self","value"] (qQ .is C):=by
 exists ["self","value"],_,g,#[a,dx,z,p,x,v,rfl,e,#[f,sv,i],q];symm;f_are;f_are;show ϝ ?_;f_are;show#[a,C,dx,_,v,rfl,e,c,n,rfl,?_]*>ZJ (alT f sv) ?_*>q
def abN{x y:V}(h:fj x y):fj y x:=by
 obtain h|h|⟨i,j,a,b⟩|⟨i,j,a,b⟩:=h
 .show .inr (.inl h)
 .show .inl h
 .show .inr (.inr (.inl #[j,i,b,a]))
 .show .inr (.inr (.inr #[j,i,b,a]))
def abB{C:δ}(c:Ϙ K C)(n:Ο K C "value"):FD 2 "fits" "UnderSieve.fits" Ui ["self","value"] (qQ .under C):=by
 exists ["self","value"],_,g,#[a,dx,z,p,x,v,rfl,e,#[i,sv,f],q],j Ao;symm;cbv;show ϝ ?_;f_are;show#[a,C,dx,_,v,rfl,e,c,n,rfl,?_];cbv;show#[x,v,rfl,f,q]
def ag1{C:δ}(c:Ϙ K C)(n:Ο K C "value"):FD 2 "fits" "OverSieve.fits" N5 ["self","value"] (qQ .over C):=by
 exists ["self","value"],_,g,#[a,dx,z,p,x,v,rfl,e,#[i,sv,f],q],j Ao;symm;cbv;show ϝ ?_;f_are;show#[a,C,dx,_,v,rfl,e,c,n,rfl,?_];cbv;show#[v,x,rfl,abN f,q]
def amg{cc:Bool}{C:δ}(c:Ϙ K C)(n:Ο K C "value"):FD P w K mg base cc 2 "fits" "HoldsSieve.fits" Sw ["self","value"] (qQ .holds C):=by
 exists ["self","value"],_,f,#[a,dx,z,p,x,v,rfl,e,#[y,u,rfl,rfl],q];symm;f_are;show ϝ ?_;f_are;show#[a,C,dx,_,_,rfl,e,c,n,rfl,?_];cbv;show q
inductive Jm(K:ϩ)(l:Lk)(C:δ):Sp
 |mk (a dx:δ) (z:Str) (p:Nat) (v:V) (b:δ) (xs:List V) (x:V):vs=[.ref a,.ref b]->H a=↑(.ins C dx (F3 z p v))->θ K H b xs->xs[p]?=↑x->(x=.non\/Dh l x v)->Q (.bl (!decide (x=.non)&&xY l x v)) H
def Bu{l:Lk}{C:δ}(M:Υ P w K mg base true 2 C "fits" ["self","value"] (qQ l C))(n:Ο K C "place"):FD P w K mg base true 3 "lets" "ValueSieve.lets" tu ["self","values"] (Jm K l C):=by
 exists Tn,_,f,#[a,dx,z,p,v,b,xs,x,rfl,c,g,i,j,q],2;w_up;cbv;show ϝ ?_;f_are;show#[a,C,dx,_,_,rfl,c,M.cls,n,rfl,?_]*>Φ g (ϛ i) ?_;cbv;show rQ (λh=>?_) (λh=>?_)
 .let e:¬x=.non:= ~~~h
  show aah ?_*>Ϛ (pl:=_) f ς (h:=?_);f_are;show#[a,C,dx,_,_,_,_,_,rfl,c,rfl,M,by decide,λ_=>rfl,?_];cbv;show#[a,dx,z,p,x,v,rfl,c,j.resolve_left e,?_];rw[h,adF]at q;show q
 .rw[h]at q;show q
def wA:Def 1 "made_of" ["text","signs"] Qm:=by
 exists ["text","signs"],wA,o,#[z,g,rfl,p,q],s.Lh;symm;f_are;f_are;show agX ["sign","signs"] (σ':=[none,↑(.str g)]) (by rfl) (by rfl) (bD (ρ Xx)) (by fin2) (by rfl) (by rfl) (by intro _;rfl) ?_;f_are;show#[z,rfl,?_,λi v=>∃c,z.cps.toList[i]?=↑c/\v=.bl (decide (c∈g.cps.toList)),λfp e C u x i c H2 f sm=>?_,λe H2 xs y j l m sm=>?_]
 .have :z.cps.size=↥z:=rfl;let h2:ϱ=16777216:=ϯ;omega
 .cbv;show#[#[c,f,by rw[StrLaws.found_one]],ζ.refl _]
 .let ex:=jc (ys:=z.cps.toList) (λc=>V.bl (decide (c∈g.cps.toList))) (by rw[j];simp) l;let a:xs=(z.cps.toList.map λc=>decide (c∈g.cps.toList)).map V.bl:=by rw[ex,agf];rfl
  subst a;cbv;show Ro (by rfl) (θ.of m) ?_;let n:(z.cps.toList.map λc=>decide (c∈g.cps.toList)).all id=gb z g:=by rw[ap4];rfl
  rw[n];show q _ sm
def yM:Def 2 "is_text_value" ["value"] K9:=by
 exists ["value"],yM,f,#[v,rfl,hs,c,q],g.aec,j.amf,l.zE,m.jM,n.aN,o wA,1;symm;cases v with
 |int i=>
  cbv;show q H (ζ.refl _)
 |non=>
  cbv;show q H (ζ.refl _)
 |str z=>
  let a:↥z<=4000:=c;cbv;show Ζ (λh=>?_) (λh=>?_)
  .cbv;show#[z,_,rfl,a,λH' sm=>?_];let e:dO (.str z)=gb z wQ:=by
    let h':↥z<=20:=()
    unfold dO;simp[h']
   rw[e]at q;show q H' sm
  .let e:dO (.str z)=false:=by
    let h':¬↥z<=20:=()
    unfold dO;simp[h']
   rw[e]at q;show q H (ζ.refl _)
 |_=>cases hs
def JD:Def 2 "are_figures" ["word"] Qq:=by
 exists ["word"],JD,p,#[z,rfl,n,q],s.ak8,u wA,1;let i:("0":Str).cps.toList=[48]:=by fin2
 let e1:("":Str).cps.toList=[]:=by fin2
 unfold bh at q;symm;cbv;show Ζ (λh=>?_) (λh=>?_)
 .let h':z.cps.toList=[48]:=by cases h;show i
  rw[h']at q;show q H (ζ.refl _)
 .let h':¬z.cps.toList=[48]:=λh2=>h (by rw[iD (h2<|>i.symm)])
  rw[decide_eq_false h',as7]at q;cbv;show cC (λh2=>?_) (λh2=>?_)
  .let a:z.cps.toList≠[]:=λe=>h2 (by rw[iD (e<|>e1.symm)])
   rw[decide_eq_true a,adF]at q;let#[c,r,o]:=amm a;let g:z.cps.toList[0]?=↑c:=by rw[o];rfl
   cbv;show um () (ϛ (j:=0) g) ?_;cbv;rw[g]at q;show cC (λe=>?_) (λe=>?_)
   .let f:↑c≠↑48:=λl=>e (by cases l;show congrArg V.str (iD i.symm))
    rw[decide_eq_true f,adF]at q;cbv;show#[z,_,rfl,n,λH' sm=>?_];rw[adw];show q H' sm
   .let f:¬(↑c≠↑48):=λl=>l (by
     have:=congrArg (λv:V=>match v with|.str x=>x.cps.toList|_=>[]) e;let m:[c]=("0":Str).cps.toList:=this;rw[i]at m;cases m;rfl)
    rw[decide_eq_false f,afy]at q;show q H (ζ.refl _)
  .let a:¬z.cps.toList≠[]:=λe=>e (by cases h2;show e1)
   rw[decide_eq_false a,afy]at q;show q H (ζ.refl _)
def vU:Def 3 "read_figures" ["word","most"] Oo:=by
 exists Qd,vU,n,#[z,m,k,rfl,g,p,i,j,c,k1,k2,q],s.aN,u.jM,v.xO,2,y JD,1;let B:=_L.len_list z;let out:∀(H1:Hp)(o:Option V),ζ H H1->ϣ z.cps.toList m=none->Ι X ((ϕ Ea).drop 1) {nx:=λ_ H'=>Q .non H',rt:=Q} [↑(.str z),↑(.int m),o] H1:=by
  intro H1 o sm e;let q1:=q H1 sm;rw[e]at q1;f_len;cbv;show q1
 w_up;cbv;show#[z,rfl,g,λH1 a =>?_];cbv;show rQ (λh1=>?_) (λh1=>?_)
 .cbv;show lq (cu i) ?_;cbv;rw[j];show Ζ (λh2=>?_) (λh2=>?_)
  .cbv;let#[hd,l]:=oE h1;show VB (intText_digits hd l ()) () ?_;cbv;show Ζ (λf=>?_) (λf=>?_)
   .let q1:=q H1 a;let e:ϣ z.cps.toList m=↑_:=if_pos #[h1,f];rw[e]at q1;cbv;show q1
   .show χ (out H1 _ a (if_neg λx=>f x.2))
  .show χ (out H1 _ a (if_neg λx=>h2 ?_));have:=zT x.1 x.2 c k1;omega
 .show χ (out H1 _ a (if_neg λx=>by rw[h1]at x;show aaP x.1))
def Hz:Def 4 "read_number_word" ["word"] (XM (.ref (η mg "NoValue"))):=by
 exists TJ,Hz,x,#[z,rfl,p,q],y.ahe,B.PQ,2,C vU,1;let l:↥(μ (toString (1000000000000000000:Int)))=19:=by fin2
 let g:bB z.cps.toList=none->∀H1,ζ H H1->∀m n D,SX X (nW (yO (nW (ϕ Dc) 2)) 0) D [↑(.str z),m,n] H1:=by
  intro s H1 sm m n D;show aM ς T.Kl ?_;cbv;show fJ ?_;f_are;show#[z,rfl,(),_,4000,rfl,p,(),?_];cbv;intro F;cbv;let c:=q H1 sm;rw[s]at c;show#[by rw[hsz];simp,c]
 w_up;cbv;show Vd ?_;rw[show Txt.startswith z "-"=decide (z.cps.toList[0]?=↑45)from Mq z 45];generalize o:decide (z.cps.toList[0]?=↑45)=u;cbv;cases u with
 |true=>
  let j:=of_decide_eq_true o;cbv;show iw ?_;cbv;let v:=uP z ↑1 none;show#[_,_,19,rfl,(),by decide,by decide,l,by decide,by decide,by decide,λH1 f =>?_];rw[show(Ω z ↑1 none).cps.toList=z.cps.toList.drop 1 from xV z 1];let a:=agO j;cases e:ϣ (z.cps.toList.drop 1) 1000000000000000000 with
  |none=>
   rw[e]at a;simp only[vB];cbv;show g a H1 f _ _ _
  |some i=>
   rw[e]at a;dsimp only at a;simp only[vB];cbv;show Ζ (λh1=>?_) (λh1=>?_)
   .let h2:i=0:=by injection h1
    rw[if_pos h2]at a;show pP (g a H1 f _ _ _)
   .let h2:¬i=0:=λe=>h1 (by rw[e])
    rw[if_neg h2]at a;let c:=q H1 f;rw[a]at c;show χ ?_;cbv;show c
 |false=>
  let j:=of_decide_eq_false o;cbv;show#[_,_,19,rfl,(),by decide,by decide,l,by decide,by decide,by decide,λH1 f =>?_];let a:=ZQ j;cases e:ϣ z.cps.toList 1000000000000000000 with
  |none=>
   rw[e]at a;simp only[vB];cbv;show g a H1 f _ _ _
  |some i=>
   rw[e]at a;simp only[vB];let c:=q H1 f;rw[a]at c;cbv;show c
def DP:Def 3 "read_text_word" ["word"] (Zt (.ref (η mg "NoValue"))):=by
 exists VF,DP,l,#[z,rfl,g,q],m.QW,2,n yM,1;let e1:μ "'"=#[#v[39]]:=by fin2
 let o:=uP z ↑1 none;let e:eN z=none->∀H1,ζ H H1->Ι X ((ϕ Ga).drop 1) {nx:=λ_ H'=>Q .non H',rt:=Q} [↑(.str z)] H1:=by
  intro i H1 sm;f_len;show aM ς T.Kl ?_;cbv;show fJ ?_;f_are;show#[z,rfl,(),_,4000,rfl,g,(),?_];cbv;intro p;cbv;let a:=q H1 sm;rw[i]at a;show#[by rw[hsz];simp,a]
 w_up;cbv;show Vd ?_;cbv;rw[e1,Mq];show Ζ (λh1=>?_) (λh1=>?_)
 .cbv;show iw ?_;cbv;show#[_,rfl,rfl,(show(Ω z ↑1 none).length<=4000 by omega),λH1 f =>?_];cbv;show rQ (λh2=>?_) (λh2=>?_)
  .cbv;show iw ?_;let a:=q H1 f;let j:eN z=↑(Ω z ↑1 none):=by
    unfold eN;rw[if_pos #[h1,h2]]
   rw[j]at a;show a
  .show χ (e ?_ H1 f);unfold eN;rw[if_neg λc=>by rw[h2]at c;show aaP c.2]
 .show χ (e ?_ H (ζ.refl _));unfold eN;rw[if_neg λc=>h1 c.1]
def vo:Def 5 "read_value" ["kind","word"] (Zh (.ref (η mg "NoValue"))):=by
 exists ["kind","word"],vo,j,#[k,z,rfl,g,q],l.Le,m.Ep,n Hz,o DP;w_up;cbv;show Ζ (λh1=>?_) (λh1=>?_)
 .let h2:z="?":=by cases h1;rfl
  let i:=q H (ζ.refl _);let a:ϟ k z=↑.non:=by unfold ϟ;rw[if_pos h2]
  rw[a]at i;cbv;show i
 .let h2:¬z="?":=λe=>h1 (by rw[e])
  let a:ϟ k z=if k="number" then ux (bB z.cps.toList)else wF (eN z):=by unfold ϟ;rw[if_neg h2]
  rw[a]at q;cbv;show Ζ (λc=>?_) (λc=>?_)
  .let f:k="number":=by cases c;rfl
   rw[if_pos f]at q;cbv;show#[z,rfl,g,q]
  .let f:¬k="number":=λe=>c (by rw[e])
   rw[if_neg f]at q;cbv;show#[z,rfl,g,q]
inductive T5(K:ϩ):Sp
 |mk (kd:Str) (a:δ) (ws:List Str) (p:Nat) (z:Str) (v:V):vs=[.str kd,.ref a,.int p]->θ K H a (ws.map V.str)->↥ws<=4000->ws[p]?=↑z->p<60->↥z<=4000->ϟ kd z=↑v->¬v=.non->(∀H',ζ H H'->Q v H')
def yg:Def 6 "read_word" ["kind","words","place"] (T5 K):=by
 exists Cp,yg,y,#[i,a,ws,p,z,v,rfl,j,l,g,m,n,o,s,q],2,B qY,C vo;let f:=(aab.mp g).1;w_up;cbv;show#[a,ws,p,rfl,j,l,(),λu=>absurd #[f,m] u,λz' e _=>?_];rw[g]at e;cases e;w_up;show uU (λ_ _ _ _=>False) rfl rfl (λF pn xo po=>?_) (λσ c d H' x=>x.elim);f_len;cbv;show#[i,z,rfl,n,λH' sm=>?_];rw[o];show χ ?_;w_up;cbv;rw[decide_eq_false s];cbv;show q H' sm
inductive mC|all|none (p:Nat)|look (l:Lk) (p:Nat) (v:V)
def zV(mg:MG):Lk->δ
 |.is=>η mg "IsSieve"
 |.under=>η mg "UnderSieve"
 |.over=>η mg "OverSieve"
 |.holds=>η mg "HoldsSieve"
def rB(mg:MG)(H:Hp)(a:δ):mC->Str->Prop
 |.all,z=>∃dx,H a=↑(.ins (η mg "AllSieve") dx [("text",.str z)])
 |.none p,z=>∃dx,H a=↑(.ins (η mg "NoneSieve") dx [("text",.str z),("place",.int p)])
 |.look l p v,z=>∃dx,H a=↑(.ins (zV mg l) dx (F3 z p v))
def rB.same{mg:MG}{H H':Hp}{a:δ}{s:mC}{z:Str}(h:rB mg H a s z)(e:ζ H H'):rB mg H' a s z:=by
 cases s<;>let#[dx,h]:=h<;>show#[dx,e<*h]
def Rh(mg:MG)(H:Hp)(p:δ)(s:mC)(z:Str)(n:Nat):=∃t,H p=↑(.tup [.ref t,.int n])/\rB mg H t s z
inductive Ml(K:ϩ)(mg:MG):Sp
 |mk (b:δ) (cs:List Β) (a:δ) (ws:List Str) (s i:Nat):vs=[.ref b,.ref a,.int s]->aH H b cs->θ K H a (ws.map V.str)->↥ws<=4000->(∀z∈ws,↥z<=1000)->s+2<=↥ws->dD cs ws (s+1)=↑i->(∀p H',ζ H H'->Rh mg H' p (.none i) (dh ws s (s+2)) (s+2)->Q (.ref p) H')
def Ae:Def 5 "read_none" ["columns","words","start"] (Ml K mg):=by
 exists yp,Ae,C,#[b,cs,a,ws,f,i,rfl,D,n,s,F,g,hi,q],2,1,L qR,O vL;let M:fV P w K mg base true 2 "NoneSieve" (η mg "NoneSieve") ["self","text","place"] (Jk K):=(akf T).make T.aiv T.af6;w_up;cbv;show#[b,cs,a,ws,f+1,by simp,D,n,s,(),λe=>(by rw[hi]at e;cases e),λR H2 u e=>?_];rw[hi]at e;cases e;cbv;show jh M C (by decide) (λ_=>rfl) ς ?_;cbv;show#[a,ws,f,f+2,by simp,u.seq n,s,F,(),g,λv j=>?_];cbv;intro y dx l m U;show#[y,_,dx,[],dh ws f (f+2),_,rfl,ξ,T.uZ,T.Oc,T.W6,by simp,rfl,?_];cbv;show#[Α,λp x=>?_];generalize z:upd (upd (upd (upd v dx (.own y)) y (.ins (η mg "NoneSieve") dx [])) y _) y _=G at x⊢;let I:ζ v G:=λc o e=>by
  rw[<-z,ι (Ξ e l),ι (Ξ e l),ι (Ξ e l),ι (Ξ e m)];show e
 let J:G y=↑(.ins (η mg "NoneSieve") dx [("text",.str (dh ws f (f+2))),("place",.int i)]):=by
  rw[<-z];show ξ
 let B:ζ G (upd G p (.tup [.ref y,.int (f+2)])):=ζ.upd x;show q p _ (((u<|>j)<|>I)<|>B) #[y,ξ,dx,B<*J]
def vM:Lk->Str
 |.is=>"is"
 |.under=>"under"
 |.over=>"over"
 |.holds=>"holds"
inductive QH(K:ϩ)(mg:MG):Sp
 |mk (l:Lk) (b:δ) (cs:List Β) (a:δ) (ws:List Str) (s i:Nat) (c:Β) (z:Str) (v:V):vs=[.ref b,.ref a,.int s]->aH H b cs->θ K H a (ws.map V.str)->↥ws<=4000->(∀z∈ws,↥z<=1000)->s+3<=↥ws->s+2<60->ws[s]?=↑(vM l)->dD cs ws (s+1)=↑i->cs[i]?=↑c->(l=.holds->c.2="text")->ws[s+2]?=↑z->ϟ c.2 z=↑v->¬v=.non->(∀p H',ζ H H'->Rh mg H' p (.look l i v) (dh ws s (s+3)) (s+3)->Q (.ref p) H')
def zY:Def 7 "read_of_value" ["columns","words","start"] (QH K mg):=by
 exists xM,zY,W,#[l,b,cs,a,ws,f,i,c,z,v,rfl,hC,x,B,D,C,Y,hw,hi,hc,hh,F,Z,Ϻ,q],2,1,g1.El,g2.Du,g3.Yd,g4.Zq,g5.Ra,D1 qR,D2 vL,D3 yg;w_up;cbv;show Φ x (ϛ (by rw[acj,hw];rfl)) ?_;cbv;show#[b,cs,a,ws,f+1,by simp,hC,x,B,(),λe=>(by rw[hi]at e;cases e),λi' H2 m e=>?_];rw[hi]at e;cases e;let#[vs,hb,ab]:=hC.same m;let#[cv,gc,t,rfl,ht]:=ab.get' hc;w_up;cbv;show Φ (θ.of hb) (ϛ gc) ?_;cbv;show gH (ψ.of ht) (show ύ [V.str c.1,V.str c.2] 1=↑(V.str c.2)from rfl) ?_;cases l with
 |is=>
  let M:fV P w K mg base true 2 "IsSieve" (η mg "IsSieve") ["self","text","place","value"] (qj K):=(zQ T).make T.adD T.alg;w_up;cbv;show fM ?_*>χ ?_;w_up;cbv;show#[c.2,a,ws,f+2,z,v,by simp,m.seq x,B,F,Y,by have:=D z (aan F);omega,Z,Ϻ,λH3 g=>?_];cbv;show#[a,ws,f,f+3,by simp,(m<|>g).seq x,B,D,(),C,λI J =>?_];w_up;cbv;show iy ?_;cbv;show jh M W (by decide) (λ_=>rfl) ς ?_;cbv;intro y dx n j s;show#[y,_,dx,[],dh ws f (f+3),_,v,rfl,ξ,T.rA,T.YZ,T.Oj,T.Uq,by simp,λG L O=>#[rfl,?_]];cbv;show#[Α,λp R=>?_];let U:ζ I G:=λc o e=>O c o (Ξ e n) (by rw[ι (Ξ e n),ι (Ξ e j)];show e)
  let u:ζ G (upd G p (.tup [.ref y,.int (f+3)])):=ζ.upd R;show q p _ ((((m<|>g)<|>J)<|>U)<|>u) #[y,ξ,dx,u<*L]
 |under=>
  let M:fV P w K mg base true 2 "UnderSieve" (η mg "UnderSieve") ["self","text","place","value"] (qj K):=(zQ T).make T.acD T.agV;w_up;cbv;show fM ?_*>χ ?_;w_up;cbv;show#[c.2,a,ws,f+2,z,v,by simp,m.seq x,B,F,Y,by have:=D z (aan F);omega,Z,Ϻ,λH3 g=>?_];cbv;show#[a,ws,f,f+3,by simp,(m<|>g).seq x,B,D,(),C,λI J =>?_];w_up;cbv;show fM ?_*>χ ?_;w_up;cbv;show iy ?_;cbv;show jh M W (by decide) (λ_=>rfl) ς ?_;cbv;intro y dx n j s;show#[y,_,dx,[],dh ws f (f+3),_,v,rfl,ξ,T.pW,T.Td,T.Ou,T.Od,by simp,λG L O=>#[rfl,?_]];cbv;show#[Α,λp R=>?_];let U:ζ I G:=λc o e=>O c o (Ξ e n) (by rw[ι (Ξ e n),ι (Ξ e j)];show e)
  let u:ζ G (upd G p (.tup [.ref y,.int (f+3)])):=ζ.upd R;show q p _ ((((m<|>g)<|>J)<|>U)<|>u) #[y,ξ,dx,u<*L]
 |over=>
  let M:fV P w K mg base true 2 "OverSieve" (η mg "OverSieve") ["self","text","place","value"] (qj K):=(zQ T).make T.ahU T.ana;w_up;cbv;show fM ?_*>χ ?_;w_up;cbv;show#[c.2,a,ws,f+2,z,v,by simp,m.seq x,B,F,Y,by have:=D z (aan F);omega,Z,Ϻ,λH3 g=>?_];cbv;show#[a,ws,f,f+3,by simp,(m<|>g).seq x,B,D,(),C,λI J =>?_];w_up;cbv;show fM ?_*>χ ?_;w_up;cbv;show fM ?_*>χ ?_;w_up;cbv;show iy ?_;cbv;show jh M W (by decide) (λ_=>rfl) ς ?_;cbv;intro y dx n j s;show#[y,_,dx,[],dh ws f (f+3),_,v,rfl,ξ,T.p7,T.Rx,T.Ly,T.XQ,by simp,λG L O=>#[rfl,?_]];cbv;show#[Α,λp R=>?_];let U:ζ I G:=λc o e=>O c o (Ξ e n) (by rw[ι (Ξ e n),ι (Ξ e j)];show e)
  let u:ζ G (upd G p (.tup [.ref y,.int (f+3)])):=ζ.upd R;show q p _ ((((m<|>g)<|>J)<|>U)<|>u) #[y,ξ,dx,u<*L]
 |holds=>
  let M:fV P w K mg base true 2 "HoldsSieve" (η mg "HoldsSieve") ["self","text","place","value"] (qj K):=(zQ T).make T.akW T.aeC;w_up;cbv;show iy ?_;cbv;rw[hh rfl,decide_eq_true rfl];walk_at"t";show χ ?_;w_up;cbv;show#[c.2,a,ws,f+2,z,v,by simp,m.seq x,B,F,Y,by have:=D z (aan F);omega,Z,Ϻ,λH3 g=>?_];cbv;show#[a,ws,f,f+3,by simp,(m<|>g).seq x,B,D,(),C,λI J =>?_];w_up;cbv;show fM ?_*>χ ?_;w_up;cbv;show fM ?_*>χ ?_;w_up;cbv;show fM ?_;cbv;show jh M W (by decide) (λ_=>rfl) ς ?_;cbv;intro y dx n j s;show#[y,_,dx,[],dh ws f (f+3),_,v,rfl,ξ,T.qH,T.Ru,T.Yk,T.aam,by simp,λG L O=>#[rfl,?_]];cbv;show#[Α,λp R=>?_];let U:ζ I G:=λc o e=>O c o (Ξ e n) (by rw[ι (Ξ e n),ι (Ξ e j)];show e)
  let u:ζ G (upd G p (.tup [.ref y,.int (f+3)])):=ζ.upd R;show q p _ ((((m<|>g)<|>J)<|>U)<|>u) #[y,ξ,dx,u<*L]
inductive Tr
 |one (s:mC)
 |nt (t:Tr)
 |bo (t u:Tr)
 |ei (t u:Tr)
def Tr.dep:Tr->Nat
 |.one _=>0
 |.nt t=>t.dep+1
 |.bo t u=>max t.dep u.dep+1
 |.ei t u=>max t.dep u.dep+1
def bA(mg:MG)(H:Hp):Tr->δ->Str->Prop
 |.one s,a,z=>rB mg H a s z
 |.nt t,a,z=>∃dx b y,H a=↑(.ins (η mg "NotSieve") dx [("text",.str z),("one",.ref b)])/\bA mg H t b y
 |.bo t u,a,z=>∃dx b c y x,H a=↑(.ins (η mg "BothSieve") dx [("text",.str z),("one",.ref b),("other",.ref c)])/\bA mg H t b y/\bA mg H u c x
 |.ei t u,a,z=>∃dx b c y x,H a=↑(.ins (η mg "EitherSieve") dx [("text",.str z),("one",.ref b),("other",.ref c)])/\bA mg H t b y/\bA mg H u c x
theorem bA.same{mg:MG}{H H':Hp}(e:ζ H H'):∀{t:Tr}{a:δ}{z:Str},bA mg H t a z->bA mg H' t a z
 |.one s,a,z,h=>rB.same h e
 |.nt t,a,z,h=>by
   let#[dx,b,y,h1,h2]:=h;show#[dx,b,y,e<*h1,bA.same e h2]
 |.bo t u,a,z,h=>by
   let#[dx,b,c,y,x,h1,h2,f]:=h;show#[dx,b,c,y,x,e<*h1,bA.same e h2,bA.same e f]
 |.ei t u,a,z,h=>by
   let#[dx,b,c,y,x,h1,h2,f]:=h;show#[dx,b,c,y,x,e<*h1,bA.same e h2,bA.same e f]
inductive Dg(K:ϩ):Sp
 |mk (a C dx:δ) (fs:List (Str×V)) (z:Str) (p:V):vs=[.ref a,.str z,p]->H a=↑(.ins C dx fs)->Ϙ K C->Ο K C "text"->Ο K C "one"->↥fs<800->Q .non (upd (upd H a (.ins C dx (ϥ "text" (.str z) fs))) a (.ins C dx (ϥ "one" p (ϥ "text" (.str z) fs))))
def aci(T:Txt K mg){cc:Bool}:FD P w K mg base cc 2 "__init__" "NotSieve.__init__" Wh ["self","text","one"] (Dg K):=by
 exists ["self","text","one"],_,f,#[a,C,dx,fs,z,p,rfl,g,e,i,c,j,q];let B:pZ P w K mg base cc 1 "Sieve" "__init__" ["self","text"] (pL K):=vq.asked T.yH T.Bl;let l:=lg "text" (V.str z) fs;w_up;show Ϝ ?_*>Bc (pl:=_) B f id ς ?_;cbv;show#[a,C,dx,fs,z,rfl,g,e,i,(),?_];f_len;show cZ ?_;f_are;f_are;show#[a,C,dx,_,rfl,ξ,e,c,(),q]
inductive By(K:ϩ):Sp
 |mk (a C dx:δ) (fs:List (Str×V)) (z:Str) (p v:V):vs=[.ref a,.str z,p,v]->H a=↑(.ins C dx fs)->Ϙ K C->Ο K C "text"->Ο K C "one"->Ο K C "other"->↥fs<800->(∀H',H' a=some (.ins C dx (ϥ "other" v (ϥ "one" p (ϥ "text" (.str z) fs))))->(∀b o,b≠a->H b=↑o->H' b=↑o)->Q .non H')
def X4(T:Txt K mg){cc:Bool}:FD P w K mg base cc 2 "__init__" "PairSieve.__init__" Dk ["self","text","one","other"] (By K):=by
 exists ["self","text","one","other"],_,i,#[a,C,dx,fs,z,p,v,rfl,j,c,l,f,m,s,q];let B:pZ P w K mg base cc 1 "Sieve" "__init__" ["self","text"] (pL K):=vq.asked T.yH T.Bl;let u:=lg "text" (V.str z) fs;let n:=lg "one" p (ϥ "text" (V.str z) fs);w_up;show Ϝ ?_*>Bc (pl:=_) B i id ς ?_;cbv;show#[a,C,dx,fs,z,rfl,j,c,l,(),?_];w_up;show cZ ?_;f_are;f_are;show#[a,C,dx,_,rfl,ξ,c,f,(),?_];f_len;show cZ ?_;f_are;f_are;show#[a,C,dx,_,rfl,ξ,c,m,(),q _ ξ λb o g e=>?_];rw[ι g,ι g,ι g];show e
def d9(mg:MG)(H:Hp)(E:XK):=∀e b (n:Int) H',ζ H H'->H' e=↑(.xd [("at",.int n)])->E (.ref (η mg "NoSieve")) (↑e,b) H'
theorem d9.same{H H':Hp}{E:XK}(h:d9 mg H E)(s:ζ H H'):d9 mg H' E:=λe b n G sm a=>h e b n G (s<|>sm) a
def zq(cs:List Β):=∀c∈cs,c.2="number"\/c.2="text"
inductive W7(K:ϩ)(mg:MG):Sp
 |mk (kd:Str) (a:δ) (ws:List Str) (p:Nat):vs=[.str kd,.ref a,.int p]->θ K H a (ws.map V.str)->↥ws<=4000->(∀z∈ws,↥z<=1000)->p<=1000->(∀z v,ws[p]?=↑z->p<60->ϟ kd z=↑v->v=.non)->d9 mg H E
def abC:Def 6 "read_word" ["kind","words","place"] (W7 K mg):=by
 exists Cp,yg,l,#[g,a,ws,p,rfl,o,u,i,B,m,q],2,C qY,D vo;k_go;show#[a,ws,p,rfl,o,u,(),λm e H' sm f=>q e true p H' sm f,λz n x=>?_];let G:=i z (aan n);w_up;show uU (λσ c d H'=>σ=[↑(.str g),↑(.ref a),↑(.int p),↑(.str z),none]/\c=.ref (η mg "NoValue")/\d=(none,true)/\ζ H H') rfl rfl (λF pn xo po=>?_) (λσ c d H' y=>?_)
 .f_len;f_tup;lk;show#[g,z,rfl,(),λH' sm=>?_];cases hv:ϟ g z with
  |none=>show#[rfl,rfl,rfl,sm]
  |some v=>
   obtain rfl:=m z v n x hv;show χ ?_;w_up;show Δ ?_;lk;f_len;show ie (lB T (cc:=true)) l (by decide) (λ_=>rfl) ς ?_>>=#[p,rfl,(),λe H2 j f=>q e true p H2 (sm<|>j) f]
 .let#[rfl,rfl,rfl,sm]:=y;show ag6 (k:=1) ς rfl rfl (by rfl) T.ack (by decide) (uD T.iK) rfl (lB T (cc:=false)) l (by decide) (by rfl) (by decide) (by rfl) (by rfl) (λe pn=>?_)>>=#[p,rfl,(),λe H2 j f=>q e false p H2 (sm<|>j) f]
def Wq{cs:List Β}{ws:List Str}{p i:Nat}(h:dD cs ws p=↑i):i<↥cs:=by
 unfold dD at h;by_cases f:p<60
 .rw[if_pos f]at h;cases hz:ws[p]? with
  |none=>rw[hz]at h;cases h
  |some z=>
   rw[hz]at h;let h:(if cs.any (λc=>decide (c.1=z))=true then some (bL cs z)else none)=↑i:=h;by_cases a:cs.any (λc=>decide (c.1=z))=true
   .rw[if_pos a]at h;cases h;let#[c,g,e]:=apt.mp a;show uc #[c,g,of_decide_eq_true e]
   .rw[if_neg a]at h;cases h
 .rw[if_neg f]at h;cases h
inductive aaj(K:ϩ)(mg:MG):Sp
 |mk (b:δ) (cs:List Β) (a:δ) (ws:List Str) (s:Nat):vs=[.ref b,.ref a,.int s]->aH H b cs->θ K H a (ws.map V.str)->↥ws<=4000->s<=1000->dD cs ws (s+1)=none->d9 mg H E
def anU:Def 5 "read_none" ["columns","words","start"] (aaj K mg):=by
 exists yp,Ae,m,#[b,cs,a,ws,c,rfl,f,g,j,hs,hi,q],2,n qR;k_go;show#[b,cs,a,ws,c+1,by simp,f,g,j,(),λ_ e H' sm l=>q e true _ H' sm l,λi H2 o e=>by rw[hi]at e;cases e]
def Zb(cs:List Β)(ws:List Str)(s:Nat)(l:Lk)(i:Nat)(c:Β)(z:Str)(v:V):Prop:=dD cs ws (s+1)=↑i/\cs[i]?=↑c/\(l=.holds->c.2="text")/\s+2<60/\ws[s+2]?=↑z/\ϟ c.2 z=↑v/\¬v=.non
inductive V8(K:ϩ)(mg:MG):Sp
 |mk (l:Lk) (b:δ) (cs:List Β) (a:δ) (ws:List Str) (s:Nat):vs=[.ref b,.ref a,.int s]->aH H b cs->θ K H a (ws.map V.str)->↥ws<=4000->(∀z∈ws,↥z<=1000)->s<60->ws[s]?=↑(vM l)->(∀i c z v,¬Zb cs ws s l i c z v)->d9 mg H E
def ak4:Def 7 "read_of_value" ["columns","words","start"] (V8 K mg):=by
 exists xM,zY,B,#[l,b,cs,a,ws,g,rfl,x,m,y,n,hs,C,o,q],2,W.El,Y.Du,Z qR,D3 abC;k_go;show Φ m (ϛ (by rw[acj,C];rfl)) ?_;k_go;show#[b,cs,a,ws,g+1,by simp,x,m,y,(),λ_ e H' sm p=>q e true _ H' sm p,λi H2 j hi=>?_];let s:=Wq hi;let f:cs[i]?=↑cs[i]:=aag s;generalize cs[i]=c at f;let#[vs,F,u]:=x.same j;let#[cv,G,t,rfl,I]:=u.get' f;k_go;show Φ (θ.of F) (ϛ G) ?_>>=gH (ψ.of I) (show ύ [V.str c.1,V.str c.2] 1=↑(V.str c.2)from rfl) ?_;let J:∀D,Ι X (yO (nW (ϕ yJ) 3)) D [↑(.ref b),↑(.ref a),↑(.int g),↑(.str (vM l)),↑(.int (i:Nat)),↑(.str c.2),none,none] H2:=by
  intro D;f_len;show ie (lB T (cc:=true)) B (by decide) (λ_=>rfl) ς ?_>>=#[_,rfl,(),λe H' sm p=>q e true _ H' (j<|>sm) p]
 let go:(l=.holds->c.2="text")->Ι X ((ϕ yJ).drop 4) {nx:=λ_ H'=>Q .non H',rt:=Q} [↑(.ref b),↑(.ref a),↑(.int g),↑(.str (vM l)),↑(.int (i:Nat)),↑(.str c.2),none,none] H2:=by
  intro L;k_go;show#[c.2,a,ws,g+2,by simp,j.seq m,y,n,(),λz v M O R=>Classical.byContradiction λU=>o i c z v #[hi,f,L,O,M,R,U],q.same j]
 w_up;show Δ ?_>>=Ζ (λh=>?_) (λh=>?_)
 .lk;show cC (λh2=>J _) (λh2=>χ (go λ_=>V.str.inj h2))
 .lk;show χ (go λe=>absurd (by rw[e];rfl) h)
def bR(a:Str)(v:V):Prop:=v=.non\/(a="number"/\∃i,v=.int i/\ -1000000000000000000<=i/\i<=1000000000000000000)\/(¬a="number"/\∃z,v=.str z/\↥z<=20/\∀c∈z.cps.toList,c∈SG)
def bR.sc{a:Str}{v:V}(h:bR a v):scalar v=true:=by
 obtain rfl|⟨_,i,rfl,_⟩|⟨_,z,rfl,_⟩:=h<;>rfl
def bR.iW{a:Str}{v:V}(h:bR a v):iW v=true/\∀z,v=.str z->dY 4000 z:=by
 obtain rfl|⟨_,i,rfl,_⟩|⟨_,z,rfl,f,c⟩:=h
 .show#[rfl,λz e=>by cases e]
 .show#[rfl,λz e=>by cases e]
 .show#[rfl,λy e=>by cases e;show dY.sg () c]
theorem pN{α β:Type}{R:α->β->Prop}:∀{l:List α}{m:List β},↥m=↥l->(∀(i:Nat) b,m[i]?=↑b->∃a,l[i]?=↑a/\R a b)->ω R l m
 |[],[],_,_=>.nil
 |[],_::_,h,_=>by simp at h
 |_::_,[],h,_=>by simp at h
 |a::l,b::m,h,g=>by
  let#[a',e,r]:=g 0 b rfl;have:a=a':= ~~~e
  subst this;show .cons r (pN (~~~h) λi x e=>~~~g (i+1) x (~~~e))
abbrev Row:=Int×List V
def sW(H:Hp)(v:V)(r:Row):=∃t l,v=.ref t/\H t=↑(.tup [.int r.1,.ref l])/\H l=↑(.lst r.2)
def jN(H:Hp)(a:δ)(c:List Row):=∃vs:List V,H a=↑(.lst vs)/\ω (sW H) vs c
def cJ(cs:List Β)(r:Row):Prop:=ω (λc x=>bR c.2 x) cs r.2
def sX(cs:List Β)(z:Str):Str:=match cs[bL cs z]? with
 |some c=>c.2
 |none=>μ ""
def nZ(cs:List Β)(os:List Ord)(xs:List V):Prop:=ω (λ(o:Ord) x=>bR (sX cs o.1) x) os xs
theorem Bf{cs:List Β}{r:Row}(h:cJ cs r):∀{os:List Ord},mU cs os->nZ cs os (nR cs os r.2)
 |[],_=>.nil
 |o::os,a=>by
  show .cons ?_ (Bf h λx f=>a x (by simp[f]));let#[c,e,_]:=Ua (a o (by simp));let#[v,g,i]:=h.get e;show bR (sX cs o.1) (rM cs r.2 o.1);unfold sX rM;rw[e,g];show i
def oG:V->List V
 |.non=>[]
 |x=>[x]
def qJ(a:List Row)(q:List Nat):List Row:=q.map λi=>a.getD i (0,[])
theorem Es{R:V->Row->Prop}{ws:List V}{a:List Row}(h:ω R ws a):∀{q:List Nat},(∀i∈q,i<↥ws)->ω R (dm ws q) (qJ a q)
 |[],_=>.nil
 |i::q,c=>by
  let hi:=c i (by simp);let e:ws[i]?=↑(ws[i]'hi):=aag hi;let#[r,f,g]:=h.get e;show ω R (ws.getD i .non::dm ws q) (a.getD i (0,[])::qJ a q);rw[acu,acu,e,f];show .cons g (Es h λj l=>c j (by simp[l]))
theorem map_getD{α:Type}(d:α):∀(l:List α),(afd ↥l).map (λi=>l.getD i d)=l
 |[]=>rfl
 |a::l=>by
  rw[aap,ass,acz,agf];show a::_=_
  congr 1
  show map_getD d l
def aaN{rs:List Row}{lt:Nat->Nat->Bool}{q:List Nat}(h:gK ↥rs lt q):(qJ rs q).Perm rs:=by
 have:=h.1.map λi=>rs.getD i (0,[])
 rw[map_getD]at this;show this
def ald{a:List Row}{i:Nat}(h:i<↥a):a.getD i (0,[])=a[i]:=by
 rw[acu,aag h];rfl
def tO(a:List Row)(p:Nat)(i:Nat):List V:=oG (((a.getD i (0,[])).2[p]?).getD .non)
def acA{cs:List Β}{o:Ord}{rs:List Row}(a:∃c∈cs,c.1=o.1)(l:∀r∈rs,cJ cs r):sI (tO rs (bL cs o.1)):=by
 let f:∀i,bR (sX cs o.1) (((rs.getD i (0,[])).2[bL cs o.1]?).getD .non):=λi=>by
  by_cases hi:i<↥rs
  .let m:rs.getD i (0,[])∈rs:=by rw[ald hi];show arx hi
   cases Bf (os:=[o]) (l _ m) (λp q=>by cases aa0.mp q;show a)with|cons h _=>show h
  .let e:rs.getD i (0,[])=(0,[]):=by rw[acu,arp ()];rfl
   rw[e];show .inl rfl
 show#[λi=>?_,?_]
 .show oA (oG _);obtain e|⟨_,n,e,_⟩|⟨_,z,e,_⟩:=f i<;>rw[e]
  .show .inl rfl
  .show .inr #[_,rfl]
  .show .inr #[_,rfl]
 .by_cases j:sX cs o.1="number"
  .show .inl λi x h=>?_
   let h:oG (((rs.getD i (0,[])).2[bL cs o.1]?).getD .non)=[x]:=h;obtain e|⟨_,n,e,_⟩|⟨g,z,e,_⟩:=f i
   .rw[e]at h;cases h
   .rw[e]at h;cases h;show#[n,rfl]
   .show absurd j g
  .show .inr λi x h=>?_
   let h:oG (((rs.getD i (0,[])).2[bL cs o.1]?).getD .non)=[x]:=h;obtain e|⟨g,n,e,_⟩|⟨_,z,e,_⟩:=f i
   .rw[e]at h;cases h
   .show absurd g j
   .rw[e]at h;cases h;show#[z,rfl]
def Cj(z:Str):dO (.str z)=true↔↥z<=20/\∀c∈z.cps.toList,c∈SG:=by
 unfold dO gb;rw[aa9,decide_eq_true_eq,ach];constructor
 .rintro⟨h1,h2⟩
  show#[h1,λc a=>agZ c (of_decide_eq_true (h2 c a))]
 .rintro⟨h1,h2⟩
  show#[h1,λc a=>decide_eq_true (xT c (h2 c a))]
theorem Ih:∀ps:List Str,↥(aep " " ps)<=(ps.map (·.length)).sum+↥ps
 |[]=>by show(0:Nat)<=_;omega
 |[p]=>by
  show ↥p<=_;simp
 |p::q::r=>by
  let a:=Ih (q::r);let c:↥(" ":Str)=1:=by fin2
  show(p++μ " "++aep " " (q::r)).length<=_;rw[len_app,len_app,c];simp only[acz,asi,aap]at a⊢;omega
def abQ(ps:List Str)(n:Nat)(h:∀p∈ps,↥p<=n):(ps.map (·.length)).sum<=↥ps*n:=by
 induction ps with
 |nil=>simp
 |cons p ps a=>
  let h1:=a λx c=>h x (by simp[c])
  let h2:=h p (by simp);simp only[acz,asi,aap,atn];omega
def Su(cs:List Β):mC->Prop
 |.all=>True
 |.none p=>p<↥cs
 |.look l p v=>∃c,cs[p]?=↑c/\bR c.2 v/\v≠.non/\(l=.holds->c.2="text")
def je(cs:List Β):Tr->Prop
 |.one s=>Su cs s
 |.nt t=>je cs t
 |.bo t u=>je cs t/\je cs u
 |.ei t u=>je cs t/\je cs u
def uV(mg:MG)(cs:List Β)(ws:List Str)(s m:Nat)(H:Hp)(Q:VK):=∀(p v:δ)(t:Tr)(z:Str)(n:Nat) H',ζ H H'->H' p=↑(.tup [.ref v,.int (n:Nat)])->bA mg H' t v z->je cs t->t.dep<=m->z=dh ws s n->(ws[s]?=↑("all":Str)->t=.one .all)->s<n->n<=↥ws->Q (.ref p) H'
theorem uV.same{cs:List Β}{ws:List Str}{s m:Nat}{H H':Hp}{Q:VK}(h:uV mg cs ws s m H Q)(e:ζ H H'):uV mg cs ws s m H' Q:=λp v t z n H2 a=>h p v t z n H2 (e<|>a)
structure vH(K:ϩ)(H:Hp)(b a:δ)(cs:List Β)(ws:List Str):Prop where
 co:aH H b cs
 kc:zq cs
 sq:θ K H a (ws.map V.str)
 len:↥ws<=60
 sh:∀z∈ws,↥z<=1000
theorem vH.same{H H':Hp}{b a:δ}{cs:List Β}{ws:List Str}(h:vH K H b a cs ws)(s:ζ H H'):vH K H' b a cs ws:={h with co:=h.co.same s,sq:=s.seq h.sq}
inductive Cg(K:ϩ)(mg:MG)(m:Nat):Sp
 |mk (b a:δ) (cs:List Β) (ws:List Str) (s k:Nat):vs=[.ref b,.ref a,.int (s:Nat),.int (k:Nat)]->vH K H b a cs ws->s<=60->k<=20->20<=k+m->(ws[s]? ≠↑("all":Str)->d9 mg H E)->uV mg cs ws s m H Q
inductive Jt(K:ϩ)(mg:MG)(m:Nat):Sp
 |mk (b a:δ) (cs:List Β) (ws:List Str) (s k:Nat) (z:Str):vs=[.ref b,.ref a,.int (s:Nat),.int (k:Nat)]->vH K H b a cs ws->s<60->ws[s]?=↑z->z≠μ "all"->k<=21->21<=k+m->d9 mg H E->uV mg cs ws s m H Q
def adp{ws:List Str}{s:Nat}{z:Str}(h:ws[s]?=↑z):dh ws s (s+1)=z:=by
 let#[h1,rfl]:=aab.mp h;unfold dh;rw[show s+1-s=1 by omega,anw h1];rfl
def QV{c z:Str}{v:V}(h:ϟ c z=↑v):bR c v:=by
 unfold ϟ at h;by_cases h1:z="?"
 .rw[if_pos h1]at h;cases h;show .inl rfl
 rw[if_neg h1]at h;by_cases h2:c="number"
 .rw[if_pos h2]at h;unfold bB at h;by_cases a:iH z.cps.toList=true/\↥z.cps.toList<=20/\ -1000000000000000000<=gh z.cps.toList/\gh z.cps.toList<=1000000000000000000
  .rw[if_pos a]at h;cases h;show .inr (.inl #[h2,_,rfl,a.2.2.1,a.2.2.2])
  .rw[if_neg a]at h;cases h
 .rw[if_neg h2]at h;unfold eN at h;by_cases a:z.cps.toList[0]?=↑39/\dO (.str (Ω z ↑1 none))=true
  .rw[if_pos a]at h;cases h;show .inr (.inr #[h2,_,rfl,(Cj _).mp a.2])
  .rw[if_neg a]at h;cases h
def ajr{cs:List Β}{ws:List Str}{p i:Nat}(h:dD cs ws p=↑i):p<↥ws:=by
 unfold dD at h;by_cases a:p<60
 .rw[if_pos a]at h;cases hz:ws[p]? with
  |none=>rw[hz]at h;cases h
  |some z=>show(aab.mp hz).1
 .rw[if_neg a]at h;cases h
def afO{z:Str}(h:bc (V.str z) [V.str ("is":Str),V.str ("under":Str),V.str ("over":Str),V.str ("holds":Str)]=true):∃l,z=vM l:=by
 let e:∀a:Str,(a==z)=decide (z=a):=λa=>by rw[agb,beq_iff_eq,decide_eq_true_iff];show eq_comm
 let h:((μ "is"==z)||((μ "under"==z)||((μ "over"==z)||((μ "holds"==z)||false))))=true:=h;simp only[e,anO,decide_eq_true_eq,aqh,or_false]at h;obtain h|h|h|h:=h
 .show#[.is,h]
 .show#[.under,h]
 .show#[.over,h]
 .show#[.holds,h]
def V0(m:Nat)(D:∀m',m=m'+1->Def P w K mg base true (8+2*m') "read_part" ["columns","words","start","within"] (Cg K mg m')):Def (7+2*m) "read_of_sieves" ["columns","words","start","within"] (Jt K mg m):=by
 rw[show 7+2*m=(6+2*m)+1 by omega];exists M5,akh,hr,#[b,a,cs,ws,g,k,z,rfl,J,hs,hw,ac,hk1,hk2,qx,q];let na:∀{t:Tr},ws[g]?=↑("all":Str)->t=.one .all:=λe=>absurd (Option.some.inj (hw.symm<|>e)) ac
 let nd:=M5.nd;let hsz:=ϯ;let g1:=T.akL;let g2:=T.Q5;let g3:=T.Uk;let DB:=!vL;let hl:=J.len;let hz:=J.sh;let hS:=J.sq;let e1:(g:Int)+1=((g+1:Nat):Int):=()
 w_up;show Δ ?_>>=Ζ (λh=>?_) (λh=>?_)
 .f_len;show ie (lB T (cc:=true)) hr () (λ_=>rfl) ς ?_>>=#[_,rfl,(),λe H' sm he=>qx e true _ H' sm he]
 obtain⟨m',rfl⟩:∃m',m=m'+1:=#[m-1,()];let D1:=D m' rfl;show χ ?_;k_go;show Φ hS (v:=.str z) (ϛ (by rw[acj,hw];rfl)) ?_;w_up;show jo ?_;lk;rw[e1];show#[b,a,cs,ws,g+1,k,rfl,J,(),(),(),(λ_=>qx),λp1 B t1 z1 L H1 O ae n s R _ _ hn1 af=>?_]*>aJ (ψ.of ae) (Κ (Γ nd (Κ (Γ nd (aF ?_)))));w_up;show Δ ?_>>=Ζ (λ_=>?_) (λ_=>?_)
 .f_len;show ο ?_;let M:fV P w K mg base true 2 "NotSieve" (η mg "NotSieve") ["self","text","one"] (Dg K):=(aci T).make T.aly T.ab4;lk;show jh M hr () (λ_=>rfl) ς ?_>>=#[a,ws,g,L,rfl,O.seq hS,(),hz,(),(),λH2 C =>?_];lk;intro y dx i f Ϻ;show#[y,_,dx,[],_,_,rfl,ξ,T.wW,T.Uy,T.Nx,by simp,rfl,?_]>>=#[Α,λp F=>?_];generalize hG:upd (upd (upd (upd H2 dx (.own y)) y (.ins (η mg "NotSieve") dx [])) y _) y _=G at F⊢;let I:ζ H2 G:=λc o e=>by
   rw[<-hG,ι (Ξ e i),ι (Ξ e i),ι (Ξ e i),ι (Ξ e f)];show e
  let j:G y=↑(.ins (η mg "NotSieve") dx [("text",.str (dh ws g L)),("one",.ref B)]):=by
   rw[<-hG];show ξ
  let l:ζ G (upd G p (.tup [.ref y,.int L])):=ζ.upd F;show q p y (.nt t1) _ L _ (((O<|>C)<|>I)<|>l) ξ #[dx,B,_,l<*j,((n.same C).same I).same l] s (asm R) rfl na () af
 show χ ?_;w_up;show jo ?_>>=#[b,a,cs,ws,L,k,rfl,J.same O,(),(),(),(λ_=>qx.same O),λp2 v2 t2 z2 u H2 C ag U W ah _ _ hn2 Y=>?_]*>aJ (ψ.of ag) (Κ (Γ nd (Κ (Γ nd (aF ?_)))));let Ig:=O<|>C;k_go;show#[a,ws,g,u,rfl,Ig.seq hS,(),hz,(),(),λH3 Z=>?_];let MB:fV P w K mg base true 2 "BothSieve" (η mg "BothSieve") ["self","text","one","other"] (By K):=(X4 T).make T.abS T.aej;let ME:fV P w K mg base true 2 "EitherSieve" (η mg "EitherSieve") ["self","text","one","other"] (By K):=(X4 T).make T.abT T.adk;let ab:max t1.dep t2.dep+1<=m'+1:=asm (Nat.max_le.mpr #[R,ah]);w_up;show Δ ?_>>=Ζ (λ_=>?_) (λ_=>?_)
 .f_len;show ο ?_>>=jh MB hr () (λ_=>rfl) ς ?_;lk;intro y dx i f Ϻ;show#[y,_,dx,[],_,_,_,rfl,ξ,T.qC,T.aaJ,T.PL,T.Yz,by simp,λG j keep=>#[rfl,?_]]>>=#[Α,λp F=>?_];let I:ζ H3 G:=λc o e=>keep _ _ (Ξ e i) (by rw[ι (Ξ e i),ι (Ξ e f)];show e)
  let j:G y=↑(.ins (η mg "BothSieve") dx [("text",.str (dh ws g u)),("one",.ref B),("other",.ref v2)]):=j;let l:ζ G (upd G p (.tup [.ref y,.int u])):=ζ.upd F;let x:=(Z<|>I)<|>l;show q p y (.bo t1 t2) _ u _ (Ig<|>x) ξ #[dx,B,v2,_,_,l<*j,(n.same C).same x,U.same x] #[s,W] ab rfl na () Y
 show χ ?_;symm;lk;show jh ME hr () (λ_=>rfl) ς ?_;lk;intro y dx i f Ϻ;show#[y,_,dx,[],_,_,_,rfl,ξ,T.qL,T.Mg,T.Mw,T.QD,by simp,λG j keep=>#[rfl,?_]]>>=#[Α,λp F=>?_];let I:ζ H3 G:=λc o e=>keep _ _ (Ξ e i) (by rw[ι (Ξ e i),ι (Ξ e f)];show e)
 let j:G y=↑(.ins (η mg "EitherSieve") dx [("text",.str (dh ws g u)),("one",.ref B),("other",.ref v2)]):=j;let l:ζ G (upd G p (.tup [.ref y,.int u])):=ζ.upd F;let x:=(Z<|>I)<|>l;show q p y (.ei t1 t2) _ u _ (Ig<|>x) ξ #[dx,B,v2,_,_,l<*j,(n.same C).same x,U.same x] #[s,W] ab rfl na () Y
def WR(m:Nat)(D4:Def P w K mg base true (7+2*m) "read_of_sieves" ["columns","words","start","within"] (Jt K mg m)):Def (8+2*m) "read_part" ["columns","words","start","within"] (Cg K mg m):=by
 rw[show 8+2*m=(7+2*m)+1 by omega];exists Mp,aid,W,#[b,a,cs,ws,f,k,rfl,B,hs,hk1,hk2,s,q],2,1,g1.El,g2.aiG,g3.Yd,g4.Zq,g5.Ra,g6.acO,g7.Q5,g8.Uk,g9.ajz;let hl:=B.len;let F:=B.co;let I:=B.sh;let C:=B.sq;let D1:=!qY;let M:fV P w K mg base true 1 "AllSieve" (η mg "AllSieve") ["self","text"] (pL K):=vq.make T.alG T.acI;k_go;show#[a,ws,f,rfl,C,(),(),λhb e H' sm J=>s (λz=>hb #[(aab.mp z).1,by have:=(aab.mp z).1;omega]) e true _ H' sm J,λz j cj=>?_];let hlt:=(aab.mp j).1;let oF:=I z (aan j);w_up;show Δ ?_>>=Ζ (λ_=>?_) (λu=>?_)
 .f_len;show ο ?_>>=jh M W () (λ_=>rfl) ς ?_;lk;intro y dx Y L Ϻ;show#[y,_,dx,[],_,rfl,ξ,T.Aa,T.Qw,by simp,rfl,?_]>>=#[Α,λp x=>?_];generalize Z:upd (upd (upd H dx (.own y)) y (.ins (η mg "AllSieve") dx [])) y _=G at x⊢;let cO:ζ H G:=λc o e=>by
   rw[<-Z,ι (Ξ e Y),ι (Ξ e Y),ι (Ξ e L)];show e
  let ey:G y=↑(.ins (η mg "AllSieve") dx [("text",.str z)]):=by
   rw[<-Z];show ξ
  let ό:ζ G (upd G p (.tup [.ref y,.int ((f+1:Nat):Int)])):=ζ.upd x;show q p y (.one .all) z (f+1) _ (cO<|>ό) ξ #[dx,ό<*ey] trivial (aht _) (adp j).symm (λ_=>rfl) () ()
 let na:∀{t:Tr},ws[f]?=↑("all":Str)->t=.one .all:=λe=>absurd (by rw[Option.some.inj (j.symm<|>e)]) u
 let s:=s λe=>u (by rw[Option.some.inj (j.symm<|>e)])
 show χ ?_;w_up;show Δ ?_>>=Ζ (λ_=>?_) (λ_=>?_)
 .f_len;show ο ?_;cases hc:dD cs ws (f+1)with
  |none=>
   let D2:=!anU;lk;show#[b,cs,a,ws,f,rfl,F,C,(),(),hc,s]
  |some i=>
   let D2:=!Ae;let h2:=ajr hc;lk;show#[b,cs,a,ws,f,i,rfl,F,C,(),I,(),hc,λp H' sm x=>?_];let#[t,e,O]:=x;show q p t (.one (.none i)) _ (f+2) H' sm e O (Wq hc) (aht _) rfl na () ()
 show χ ?_;w_up;show Δ ?_>>=#[Α,λtp R=>?_]*>dw (ψ.of ξ) ?_;let n:ζ H (upd H tp (.tup [.str "is",.str "under",.str "over",.str "holds"])):=ζ.upd R;generalize upd H tp (.tup [.str "is",.str "under",.str "over",.str "holds"])=H2 at n⊢;show#[_,rfl,?_];cases hin:bc (V.str z) [V.str ("is":Str),V.str ("under":Str),V.str ("over":Str),V.str ("holds":Str)]with
 |true=>
  let#[l,rfl]:=afO hin;symm;by_cases D:∃i c y v,Zb cs ws f l i c y v
  .let#[i,c,y,v,h1,h2,h3,h4,h5,h6,h7]:=D;let D3:=!zY;let h8:=(aab.mp h5).1;lk;show#[l,b,cs,a,ws,f,i,c,y,v,rfl,F.same n,n.seq C,(),I,(),(),j,h1,h2,h3,h5,h6,h7,λp H' sm x=>?_];let#[t,e,O]:=x;show q p t (.one (.look l i v)) _ (f+3) H' (n<|>sm) e O #[c,h2,QV h6,h7,h3] (aht _) rfl na () ()
  .let D3:= @ak4 P w K mg base T;lk;show#[l,b,cs,a,ws,f,rfl,F.same n,n.seq C,(),I,(),j,λi c y v h=>D #[i,c,y,v,h],s.same n]
 |false=>
  show χ ?_;w_up;show Δ ?_>>=#[Α,λtq U=>?_]*>dw (ψ.of ξ) ?_;let Wk:ζ H2 (upd H2 tq (.tup [.str "not",.str "both",.str "either"])):=ζ.upd U;generalize upd H2 tq (.tup [.str "not",.str "both",.str "either"])=H3 at Wk⊢;let g:=n<|>Wk;show#[_,rfl,?_];cases bc (V.str z) [V.str ("not":Str),V.str ("both":Str),V.str ("either":Str)]with
  |true=>
   symm;lk;show #[b,a,cs,ws,f,k+1,z,by simp,B.same g,cj,j,λe=>u (by rw[e]),(),(),s.same g,q.same g]
  |false=>
   show χ ?_;f_len;show ie (lB T (cc:=true)) W () (λ_=>rfl) ς ?_>>=#[_,rfl,(),λe H' sm J=>s e true _ H' (g<|>sm) J]
theorem R5(T:Txt K mg):∀m:Nat,Def P w K mg base true (8+2*m) "read_part" ["columns","words","start","within"] (Cg K mg m)
 |0=>WR T 0 (V0 T 0 λm' e=>())
 |m+1=>WR T (m+1) (V0 T (m+1) λm' e=>by
  obtain rfl:m=m':=()
  show R5 T m)
def SvQ(mg:MG)(cs:List Β)(z:Str)(H:Hp)(Q:VK):=∀v t y H',ζ H H'->bA mg H' t v y->je cs t->t.dep<=20->y=z/\(z=μ "all"->t=.one .all)->Q (.ref v) H'
inductive Ue(mg:MG):Sp
 |mk (b:δ) (cs:List Β) (z:Str):vs=[.ref b,.str z]->aH H b cs->zq cs->↥z<=1000->↥(Λ 32 z)<=60->(z≠μ "all"->d9 mg H E)->SvQ mg cs z H Q
def rO:Def 49 "read_sieve" ["columns","text"] (Ue mg):=by
 exists Ug,rO,J,#[b,cs,z,rfl,L,M,hz,x,B,q],2,n1.aN,1;let D1:= @R5 P w K mg base T 20;w_up;f_tup;show au F.plainAttrs_str F.slot_str_split F.type_str_split (h:=?_);cbv;show m_split (c:=32) λp O=>?_
 let f:∀y∈ Λ 32 z,↥y<=1000:=λy j=>by
  have:=rm j;omega
 let#[i,ep,H,p,H1]:=Η O (.lst ((Λ 32 z).map V.str));let C:aep " " (Λ 32 z)=z:=afB z;let a:z=μ "all"->(Λ 32 z)[0]?=↑("all":Str):=λe=>by rw[e];fin2
 let g:z=μ "all"->↥(Λ 32 z)=1:=λe=>by rw[e];fin2
 generalize Λ 32 z=ws at f x ep C a g;let D:θ K H1 p (ws.map V.str):=θ.of ep;w_up;show jo ?_>>=#[b,p,cs,ws,0,0,rfl,#[L.same i,M,D,x,f],(),(),(),(λh=>(B λe=>h (a e)).same i),λp2 v t y n H2 G l R U hd j W h0 hn=>?_]*>aJ (ψ.of l) (Κ (Γ nd (Κ (Γ nd (aF ?_)))));let Y:θ K H2 p (ws.map V.str):=G.seq D;let I:=i<|>G;w_up;show Δ ?_>>=Ζ (λm=>?_) (λo=>?_)
 .f_len;show ie (lB T (cc:=true)) J (by decide) (λ_=>rfl) ς ?_>>=#[_,rfl,(),λe H' sm Z=>B (λz=>by rw[ϭ]at m;have:=g z;omega) e true _ H' (I<|>sm) Z]
 .show χ ?_;symm;lk;show q v t y H2 I R U hd #[?_,λe=>W (a e)];let u:n=↥ws:=by rw[ϭ]at o;omega
  rw[j,u, <-C];unfold dh;rw[alN,apY,ajX]
inductive LK:Sp
 |mk (x) (y):vs=[x,y]->Q (.bl true) H
def afU{cc:Bool}:FD P w K mg base cc 1 "lets" "Sieve.lets" M6 ["self","values"] LK:=by
 exists ["self","values"],_,a,#[x,y,rfl,q];f_len;cbv;show q
inductive Yt(K:ϩ):Sp
 |mk (a C dx:δ) (fs:List (Str×V)) (p:Nat) (b:δ) (xs:List V) (x:V):vs=[.ref a,.ref b]->H a=↑(.ins C dx fs)->Ϙ K C->Ο K C "place"->fs.lookup ("place":Str)=↑(V.int p)->θ K H b xs->xs[p]?=↑x->Q (.bl (decide (x=.non))) H
def akA{cc:Bool}:FD P w K mg base cc 1 "lets" "NoneSieve.lets" Yj ["self","values"] (Yt K):=by
 exists ["self","values"],_,l,#[a,C,dx,fs,p,b,xs,x,rfl,c,e,f,g,i,j,q];symm;cbv;show ϝ ?_;f_are;show#[a,C,dx,fs,_,rfl,c,e,f,g,?_]*>Φ i (ϛ j) ?_;cbv;show q
def Iz:Def 2 "read_order_word" ["columns","word"] (ZP (.ref (η mg "NoOrder"))):=by
 exists aac,Iz,F,#[a,cs,z,rfl,m,n,g,q],G.ah7,I.agS,2,J pF,1;let o:=uP z ↑1 none;let e1:("+":Str).cps.toList=[43]:=by fin2
 let i:("-":Str).cps.toList=[45]:=by fin2
 let es:(Ω z none ↑1).cps.toList=z.cps.toList.take 1:=X5 z 1;let e:∀c:Nat,z.cps.toList.take 1=[c]↔z.cps.toList[0]?=↑c:=λc=>by
  cases z.cps.toList with
  |nil=>simp
  |cons x r=>simp
 let k1:V.str (Ω z none ↑1)=V.str "+"↔z.cps.toList[0]?=↑43:=by
  rw[<-e];constructor
  .intro h;let h2:Ω z none ↑1=μ "+":=by injection h
   rw[<-es,h2,e1]
  .intro h;let h2:Ω z none ↑1=μ "+":=iD (by rw[es,h,e1]);rw[h2]
 let k2:V.str (Ω z none ↑1)=V.str "-"↔z.cps.toList[0]?=↑45:=by
  rw[<-e];constructor
  .intro h;let h2:Ω z none ↑1=μ "-":=by injection h
   rw[<-es,h2,i]
  .intro h;let h2:Ω z none ↑1=μ "-":=iD (by rw[es,h,i]);rw[h2]
 w_up;cbv;show iw ?_;cbv;show iw ?_;cbv;show#[Α,λp s=>?_];let#[f,ep,H,p,u]:=Η s (.tup [.str "+",.str "-"]);show FW (ψ.of ep) ?_;let ei:bc (V.str (Ω z none ↑1)) [.str "+",.str "-"]=decide (z.cps.toList[0]?=↑43\/z.cps.toList[0]?=↑45):=by
  let j:∀y:Str,cF (V.str y) (V.str (Ω z none ↑1))=decide (V.str (Ω z none ↑1)=V.str y):=λy=>by
   rw[agb,decide_eq_true_eq];constructor
   .intro h;have:V.str y=V.str (Ω z none ↑1):=by simpa [cF]using h
    show this.symm
   .intro h;rw[h];simp[cF]
  rw[agb,decide_eq_true_eq, <-k1, <-k2];show((cF _ _||(cF _ _||false))=true)↔_;rw[j,j,as4,anO,decide_eq_true_eq,decide_eq_true_eq]
 rw[ei];cbv;show cC (λh=>?_) (λh=>?_)
 .f_len;show aM ς T.Bj ?_;cbv;show fJ ?_;f_are;show#[z,rfl,(),_,4000,rfl,n,(),?_];cbv;intro v;cbv;show#[by rw[hsz];simp,g u f (if_neg λx=>h x.1)]
 .show χ ?_;cbv;show#[a,cs,_,rfl,m.same f,λH1 B =>?_];let l :=f<|>B;cbv;show Ζ (λh2=>?_) (λh2=>?_)
  .f_len;show aM ς T.Bj ?_;cbv;show fJ ?_;f_are;show#[_,rfl,(),_,4000,rfl,(),(),?_];cbv;intro v;cbv;show#[by rw[hsz];simp,g H1 l (if_neg λx=>x.2 h2)]
  .show χ ?_;cbv;show#[Α,λt C=>?_]*>q t _ _ (l<|>(ζ.upd C)) (if_pos #[h,h2]) ?_;rw[ξ];let D:decide (V.str (Ω z none ↑1)=V.str ("+":Str))=decide (z.cps.toList[0]?=↑43):=decide_eq_decide.mpr k1;rw[D]
def qN:Def 3 "read_order" ["columns","text"] (Q7 (.ref (η mg "NoOrder"))):=by
 show Ε (S:=Q9) T.qN (λf _ _ _ s H vs Q E hr h=>?_);intro X _;let#[a,cs,z,rfl,hC,hz,j,q]:=h;let g1:=T.anQ;let n1:=T.aN;let n2:=T.Sq;let nd:=Q9.nd;let tQ:(["word","columns"]:List Str).Nodup:=by fin2
 let aY:(["name","up"]:List Str).Nodup:=by fin2
 let D1:=!Iz;let hsz:=ϯ;unfold gM at j q;w_up;cbv;show Ζ (λh=>?_) (λh=>?_)
 .let h':z="":=by injection h
  cbv;show#[Α,λp M=>?_]*>q p [] _ (ζ.upd M) (if_pos h') M #[[],ξ,.nil]
 .let h':¬z="":=λe=>h (by rw[e])
  rw[if_neg h']at j q;show χ ?_;w_up;f_tup;show au PySem.F.plainAttrs_str PySem.F.slot_str_split PySem.F.type_str_split (h:=?_);cbv;show m_split (c:=32) λp1 W=>?_
  let Y:=adz 32 z;let B:=λy=> @rm 32 z y
  generalize Λ 32 z=ws at j q Y B⊢;let#[D,f9,H,p1,H1]:=Η W (.lst (ws.map V.str));let O:↥(ws.map V.str)=↥ws:=ϭ ..;let S1:θ K H1 p1 (ws.map V.str):=θ.of f9;cbv;rw[O];show Ζ (λh2=>?_) (λh2=>?_)
  .f_len;show aM ς T.Bj ?_;cbv;show#[by rw[hsz];simp,j H1 D (if_pos ())]
  .rw[if_neg ()]at j q;show χ ?_;w_up;show ahK ["word","columns"] (σ':=[none,↑(.ref a)]) (by rfl) ς rfl rfl (by rfl) (by rfl) (bD (ρ xR)) (by intro _;rfl) nd (by rfl) (by rfl) ?_;cbv;show#[p1,_,rfl,S1,by rw[O];omega,λG=>∃o,G=[o,↑(.ref a)],λl i v H'=>∃y,ws[i]?=↑y/\∃o,pA cs y=↑o/\∃t,v=.ref t/\t≠l/\H' t=↑(.tup [.str o.1,.bl o.2]),#[none,rfl],λl i v H2 Z ys _ hk M=>?_,λfp l C s3 H0 F i G x H2 Z xo hE hi n Θ I hG=>?_,λl H2 xs hE hl U e2 Θ =>?_]
   .let#[y,a1,o,a2,t,a3,a4,a5]:=M;show#[y,a1,o,a2,t,a3,a4,hk t _ a4 a5]
   .let#[o,rfl]:=n;let#[U,rfl]:=hG;rw[acj]at U;let#[y,ey,rfl]:=aeF.mp U;let hyl:=B y (aan ey);show Γ tQ ?_;cbv;let g:=D<|>Θ;show#[a,cs,y,rfl,hC.same g,(),λH' m e=>?_,λt o H' m e et=>?_]
    .show j H' (g<|>m) (by rw[KC (aan ey) e])
    .let#[ys,ab,_]:=I;show#[#[_,rfl],#[y,ey,o,e,t,rfl,λz=>?_,et],m];rw[z,m<*ab]at et;cases et
   .let#[os,eo,ha]:=Yn (f:=pA cs) (R:=vQ H2) (ws:=ws) (xs:=xs) (by rw[hl,O]) λi v e=>by
     let#[y,a1,o,a2,t,a3,a4,a5]:=U i v e;show#[y,a1,o,a2,t,a3,a5]
    rw[eo]at j q;let ac:=ha.len;let g:=D<|>Θ;let ae:H l=none:=by
     cases e:H l with
     |none=>rfl
     |some u=>rw[D<*e]at hE;cases hE
    w_up;show oU ["name","up"] (σ':=[none,none]) (bD (ρ xR)) nd ?_;cbv;show#[l,xs,rfl,θ.of e2,by rw[hl,O];omega,λG=>∃o1 o2,G=[o1,o2],λE2 i u H'=>∃c,os[i]?=↑c/\u=.str c.1,#[none,none,rfl],λE2 i u H2 Z ys _ _ p=>p,λfp E2 C s3 H0 i G x H4 Z aA hi n m I hG=>?_,λE2 H4 ys aA af ag e4 m =>?_]
    .let#[o1,o2,rfl]:=n;let#[aB,rfl]:=hG;let#[c,hc,t,rfl,ht]:=ha.get aB;show aJ (ψ.of (m<*ht)) (Κ (Γ aY (Κ (Γ aY (aF ?_)))));cbv;show#[#[_,_,rfl],#[c,hc,rfl],ζ.refl _]
    .let ey:=jc (ys:=os) (λc=>V.str c.1) (by rw[af,ac]) ag;let mZ:ys=(os.map Prod.fst).map V.str:=by rw[ey,agf];rfl
     subst mZ;let J:↥(os.map Prod.fst)<=4000:=by simp;omega
     w_up;cbv;show Mu (by rfl) (θ.of e4) J λS hS=>?_
     cbv;show U7 ξ J ?_;cbv;show Km (.inl (θ.of ((ζ.upd hS)<*e4))) ?_;cbv;let L:ζ H2 (upd H4 S (lO X S (os.map Prod.fst))):=m<|>(ζ.upd hS);let Pk:=Kv _ (os.map Prod.fst) rfl;generalize upd H4 S (lO X S (os.map Prod.fst))=H5 at L⊢;rw[ϭ (f:=V.str)];show cC (λh3=>?_) (λh3=>?_)
     .let h4:¬(os.map Prod.fst).Nodup:=λz=>h3 (by rw[Pk.mpr z])
      f_len;show aM ς T.Bj ?_;cbv;show#[by rw[hsz];simp,j H5 (g<|>L) (if_neg h4)]
     .let h4:(os.map Prod.fst).Nodup:=Pk.mp (by injection h3 with h5;omega);show χ ?_;cbv;show q l os H5 (g<|>L) (if_pos h4) ae #[xs,L<*e2,ha.imp λu c r=>r.same L]
def jH(B:Bk)(row:Int)(o:Option (List V)):Bk:=
 {B with rows:=(match o with|none=>qm B.rows row|some xs=>kW B.rows row xs),touched:=(match o with|none=>qm B.touched row|some _=>kW B.touched row (B.now+1)),
         done:=B.done++[#[B.now+1,row,ϑ B.rows row,o]],now:=B.now+1}
def uM(B:Bk):Prop:=↥B.rows<1000000/\↥B.touched<1000000/\↥B.done<1000000
def xK(B:Bk):=∀i,ϑ B.rows i=none↔ϑ B.touched i=none
abbrev cB(mg:MG):δ:=η mg "Book"
inductive lC(mg:MG):Sp
 |mk (A:BA) (B:Bk) (row:Int) (v:V) (o:Option (List V)):vs=[.ref A.b,.int row,v]->Τ (cB mg) H A B->kJ H v o->(o=none->ϑ B.rows row≠none/\ϑ B.touched row≠none)->uM B->(∀H',Out A.fp H H'->Τ (cB mg) H' A (jH B row o)->Q (.int (B.now+1)) H')
def CV:FD 1 "do" "Book.do" Av ["self","row","values"] (lC mg):=by
 show ϖ (S:=Nf) (λf Ϲ A' outer s H vs Q E hr h=>?_);intro X _;let#[A,B,row,v,o,rfl,m,Y,Z,#[z1,z2,z3],q]:=h;let nd:=Nf.nd;let hsz:=ϯ;let g:=T.ϔ;let a1:=T.rG;let a2:=T.CT;let a3:=T.yZ;let L:=T.Ai;let hu:_+1<cLine:=agE (aki (by decide:1<=64) _) hr.units;let kR:=m.rows;let#[Ϸ,er,hR]:=id kR;let#[tvs,et,hT]:=m.touched;let#[ds,ed,hD]:=m.done;let kI:=m.ins;w_up;f_tup;show ahG hu (by constructor<;>rfl) ?_*>ϝ ?_;f_are;show#[A.b,_,_,_,_,rfl,kI,g,a1,rfl,A.r,rfl,.inl #[_,.inl er],?_];f_are;show#[_,aQ.k (k:=Sum.inl row) er,?_];let hw:kJ H ((aX Ϸ (Sum.inl row)).getD .non) (ϑ B.rows row):=by
  obtain⟨e1,i⟩|⟨u,x,e1,i,r⟩:=jL hR row
  .rw[e1,i];rfl
  .rw[e1,i];show r
 generalize(aX Ϸ (Sum.inl row)).getD .non=M at hw⊢;w_up;show akb ?_;f_are;show#[A.b,_,_,_,_,rfl,kI,g,L,rfl,?_];f_are;show#[_,_,rfl,rfl,_,_,kI,by show 6<1000;decide,?_];let k1:=m.CJ B.known (B.now+1);let O:Out A.fp H _:=Out.upd (H:=H) (a:=A.b) (o:=.ins (cB mg) A.dx [("heads",.ref A.h),("rows",.ref A.r),("touched",.ref A.t),("done",.ref A.d),("known",.int B.known),("now",.int (B.now+1))]) (by simp[BA.fp]);change Ι _ _ _ _ (upd H A.b (.ins (cB mg) A.dx [("heads",.ref A.h),("rows",.ref A.r),("touched",.ref A.t),("done",.ref A.d),("known",.int B.known),("now",.int (B.now+1))]));generalize upd H A.b _=H1 at k1 O⊢;let lz:=k1.ins;let G:∀(H2:Hp)(n:Bk),Out A.fp H H2->Τ (cB mg) H2 A n->n={jH B row o with done:=B.done}->Ι X ((ϕ Av).drop 3) {nx:=λ_ H'=>Q .non H',rt:=Q} [↑(.ref A.b),↑(.int row),↑v,↑M] H2:=by
  intro H2 n j k2 i;let p:n.now=B.now+1/\n.done=B.done:=by rw[i];show#[rfl,rfl]
  let l:=k2.ins;let#[O6,Y5,y]:=k2.done;let st:=m.tup j;let ab:=hw.stay st;let ac:=Y.stay st;let ae:=y.len;rw[p.2]at ae y;rw[p.1]at l;w_up;show Ϝ (au F.plainAttrs_list F.slot_list_append F.type_list_append (h:=?_))*>ϝ ?_;f_are;show#[A.b,_,_,_,_,rfl,l,g,a3,rfl,.inl #[rfl,_,θ.of Y5],?_];cbv;show ϝ ?_;f_are;show#[A.b,_,_,_,_,rfl,l,g,L,rfl,?_];cbv;show#[Α,λt ht=>?_];let#[z,C,H2,t,D]:=Η ht (.tup [.int (B.now+1),.int row,M,v]);let k3:=k2.same z;cbv;show bZ lL #[A.d,_,_,rfl,rfl,z<*Y5,(),?_];let wy:ω (jP D) (O6++[V.ref t]) (B.done++[#[B.now+1,row,ϑ B.rows row,o]]):=ω.app (ω.imp (λv d h=>h.stay λb ys e=>z _ _ e) y) (.cons #[t,M,v,rfl,C,ab.stay λb ys e=>z _ _ e,ac.stay λb ys e=>z _ _ e] .nil);let R:=k3.adi wy;let o4:Out A.fp H _:=(j<|>(Out.of z))<|>(Out.upd (H:=D) (a:=A.d) (o:=.lst (O6++[V.ref t])) (by simp[BA.fp]));generalize upd D A.d _=H4 at R o4⊢;let af:=R.ins;symm;show ϝ ?_;f_are;show#[A.b,_,_,_,_,rfl,af,g,L,rfl,?_];let e4:{n with done:=B.done++[#[B.now+1,row,ϑ B.rows row,o]]}=jH B row o:=by rw[i];rfl
  rw[e4]at R;have:=q H4 o4 R;show Q (.int n.now) H4;rw[p.1];show this
 let#[U,pK,W]:=k1.rows;let#[apR,et1,ag]:=k1.touched;let ah:=W.len;let htl:=ag.len;let z1':↥U<1000000:=by rw[ah];show z1
 cases o with
 |none=>
  let ai:v=.non:=Y;subst ai;let#[g1,g2]:=Z rfl;w_up;cbv;show zP ?_*>ϝ ?_;f_are;obtain⟨_,i⟩|⟨u,x,e1,_,_⟩:=jL W row
  .show absurd i g1
  show#[A.b,_,_,_,_,rfl,lz,g,a1,rfl,A.r,rfl,.inl #[_,.inl pK],?_];f_are;show#[U,Sum.inl row,u,pK,rfl,e1,?_];let k2:=k1.Lz (xr W row);let j:Out A.fp H _:=O<|>(Out.upd (H:=H1) (a:=A.r) (o:=.dK (gW U (Sum.inl row))) (by simp[BA.fp]));generalize upd H1 A.r _=H2 at k2 j⊢;let l:=k2.ins;let#[I,C,c]:=k2.touched;f_len;show Ϝ (zP ?_)*>ϝ ?_;f_are;obtain⟨_,i⟩|⟨u2,x2,e3,_,_⟩:=jL c row
  .show absurd i g2
  show#[A.b,_,_,_,_,rfl,l,g,a2,rfl,A.t,rfl,.inl #[_,.inl C],?_];f_are;show#[I,Sum.inl row,u2,C,rfl,e3,?_];let k3:=k2.aaM (xr c row);let J:Out A.fp H _:=j<|>(Out.upd (H:=H2) (a:=A.t) (o:=.dK (gW I (Sum.inl row))) (by simp[BA.fp]));generalize upd H2 A.t _=D at k3 J⊢;show G D _ J k3 rfl
 |some xs=>
  let#[t,rfl,ht]:=id Y;w_up;cbv;show zB hu ?_;f_are;show ϝ ?_;f_are;show#[A.b,_,_,_,_,rfl,lz,g,a1,rfl,?_];f_are;show#[A.r,_,rfl,jD.k (k:=Sum.inl row) pK (),?_];let k2:=k1.Lz (BP W row (v:=.ref t) (x:=xs) #[t,rfl,m.tup O _ _ ht]);let j:Out A.fp H _:=O<|>(Out.upd (H:=H1) (a:=A.r) (o:=.dK (putK U (Sum.inl row) (.ref t))) (by simp[BA.fp]));generalize upd H1 A.r _=H2 at k2 j⊢;let l:=k2.ins;let#[I,C,c]:=k2.touched;let z2':↥I<1000000:=by rw[c.len];show z2
  f_len;show zB hu ?_*>ϝ ?_;f_are;show#[A.b,_,_,_,_,rfl,l,g,L,rfl,?_]*>ϝ ?_;f_are;show#[A.b,_,_,_,_,rfl,l,g,a2,rfl,?_];f_are;show#[A.t,_,rfl,jD.k (k:=Sum.inl row) C (),?_];let k3:=k2.aaM (BP c row (v:=.int (B.now+1)) (x:=B.now+1) rfl);let J:Out A.fp H _:=j.trans (Out.upd (H:=H2) (a:=A.t) (o:=.dK (putK I (Sum.inl row) (.int (B.now+1)))) (by simp[BA.fp]));generalize upd H2 A.t _=D at k3 J⊢;show G D _ J k3 rfl
def wB:Def 1 "is_whole" ["value"] Xh:=by
 exists ["value"],wB,a,#[v,rfl,hs,q],c.zE,e.xO,f.aj3;symm;cases v with
 |non=>
  cbv;show q
 |int i=>
  cbv;show q
 |str z=>
  cbv;show q
 |_=>cases hs
def Ji:Def 2 "is_number_value" ["value"] RB:=by
 exists ["value"],Ji,a,#[v,rfl,hs,q],c.PQ,f wB;symm;cbv;show#[v,rfl,hs,?_];cbv;cases v with
 |int i=>
  show rQ (λ_=>?_) (λh=>by cases h);cbv;show Ζ (λh=>?_) (λh=>?_)
  .cbv;let e:isNum (.int i)=decide (i<=1000000000000000000):=by unfold isNum;simp[h]
   rw[e]at q;show q
  .let e:isNum (.int i)=false:=by unfold isNum;simp[h]
   rw[e]at q;show q
 |non=>show rQ (λh=>by cases h) (λ_=>q)
 |str z=>show rQ (λh=>by cases h) (λ_=>q)
 |_=>cases hs
def Eh:Def 3 "is_value" ["kind","value"] Ld:=by
 exists ["kind","value"],Eh,g,#[k,v,rfl,hs,f,q],i.Ep,j Ji,l yM;w_up;cbv;show Ζ (λh=>?_) (λh=>?_)
 .subst h;cbv;show q H (ζ.refl _)
 .cbv;let a:isVal k v=if k="number" then isNum v else dO v:=by cases v<;>first|rfl|show absurd rfl h
  show Ζ (λh2=>?_) (λh2=>?_)
  .let c:k="number":=by cases h2;rfl
   rw[if_pos c]at a;rw[a]at q;cbv;show#[v,rfl,hs,q H (ζ.refl _)]
  .let c:¬k="number":=λe=>h2 (by rw[e])
   rw[if_neg c]at a;rw[a]at q;cbv;show#[v,rfl,hs,f,q]
def Fe:Def 2 "is_name" ["name"] WN:=by
 exists ["name"],Fe,c,#[z,rfl,a,q],e.aN,f.abv,g.ak0,1,i wA;symm;cbv;unfold isName at q;show Ζ (λh=>?_) (λh=>?_)
 .cbv;show Ζ (λh2=>?_) (λh2=>?_)
  .cbv;rw[decide_eq_true (show 1<=↥z/\↥z<=8 by omega)]at q;show#[z,_,rfl,a,q]
  .rw[decide_eq_false (show ¬(1<=↥z/\↥z<=8)by omega)]at q;show q H (ζ.refl _)
 .rw[decide_eq_false (show ¬(1<=↥z/\↥z<=8)by omega)]at q;cbv;show q H (ζ.refl _)
def gB(k a b:Str):bc (.str k) [.str a,.str b]=decide (k=a\/k=b):=by
 let e:∀a:Str,(a==k)=decide (k=a):=λa=>by rw[agb,beq_iff_eq,decide_eq_true_iff];show eq_comm
 show((a==k)||((b==k)||false))=_;rw[e,e,as4,Bool.decide_or]
def Ky:Def 3 "ask_columns" ["columns"] (Qs (.ref (η mg "NoColumns"))):=by
 exists Oi,Ky,hr,#[a,cs,rfl,#[vs,G,g],hcl,I,q],n1.aN,n2.Sq,g1.amS,g2.Ep,g3.Du,2,1;let sa:θ K H a vs:=.inl (.inl G);let lU:=g.len;let D1:=!Fe;let aY:(["name","kind"]:List Str).Nodup:=by fin2
 let bad:aL cs=false->∀H',ζ H H'->E (.ref (η mg "NoColumns")) (none,true) H':=λe H' sm=>by
  have:=q H' sm;rw[e]at this;show this
 w_up;cbv;let Yh:¬(1<=↥cs/\↥cs<=6)->aL cs=false:=λh=>by
  unfold aL;rw[decide_eq_false h];rfl
 show Ζ (λh1=>?_) (λh1=>?_)
 .cbv;show cC (λh2=>?_) (λh2=>?_)
  .f_len;show aM ς T.uW ?_;cbv;show#[by rw[hsz];simp,bad (Yh ()) H (ζ.refl _)]
  .show χ ?_;w_up;show uw (by walk_at"po") (by rfl) (by intro _;rfl) ?_;cbv;show#[a,vs,rfl,sa,λi σ H'=>(∃j l J,σ=[↑(.ref a),j,l,J])/\ζ H H'/\∀k c,k<i->cs[k]?=↑c->isName c.1=true/\fU c.2=true,#[#[none,none,none,rfl],ζ.refl _,λk c F=>()],λi σ H' hi n=>.inl (.inl (n.2.1<*G)),λi x σ H' s n=>?_,λσ H' n=>?_]
   .let#[#[j,l,J,rfl],sm,L]:=n;let#[c,m,t,rfl,M]:=g.get s;let v:=aan m;let O:=I c v;let XJ:¬(isName c.1&&fU c.2)=true->aL cs=false:=λh=>by
     unfold aL;have:(cs.all λc=>isName c.1&&fU c.2)=false:=by
      rw[akc];intro e;show h (ach.mp e c v)
     rw[this,ar0,afy]
    show aJ (ψ.of (sm<*M)) (Κ (Γ nd (Κ (Γ nd (aF ?_)))));w_up;cbv;show#[c.1,rfl,O.1,λH2 y =>?_];cbv;let f:=sm<|>y;show Cv (λR=>?_) (λR=>?_)
    .f_len;show aM ς T.uW ?_;cbv;show fJ ?_;f_are;show#[c.1,rfl,(),_,4000,rfl,O.1,(),?_];cbv;intro zz;cbv;show#[by rw[hsz];simp,bad (XJ (by rw[R];simp)) H2 f]
    .show χ ?_;f_len;cbv;show#[Α,λp hp=>?_];let z :=f<|>(ζ.upd (o:=.tup [.str "number",.str "text"]) hp);show FW (ψ.of ξ) ?_;cbv;let ek:bc (.str c.2) [.str "number",.str "text"]=fU c.2:=gB _ _ _;rw[ek];show Cv (λU=>?_) (λU=>?_)
     .f_len;show aM ς T.uW ?_;cbv;show fJ ?_;f_are;show#[c.2,rfl,(),_,4000,rfl,O.2,(),?_];cbv;intro zz;cbv;show#[by rw[hsz];simp,bad (XJ (by rw[U];simp)) _ z]
     .show χ #[#[_,_,_,rfl],z,λk d F hd=>?_];by_cases e:k=i
      .subst e;rw[m]at hd;cases hd;show#[R,U]
      .show L k d () hd
   .let#[#[j,l,J,rfl],sm,L]:=n;let B:(cs.all λc=>isName c.1&&fU c.2)=true:=ach.mpr λc m=>by
     let#[k,F,e]:=apD m;have:=L k c (by rw[lU];show F) (by rw[<-e];show aag F);rw[this.1,this.2];rfl
    let Z1:aL cs=decide ((cs.map Prod.fst).Nodup):=by
     unfold aL;rw[B,decide_eq_true (show 1<=↥cs/\↥cs<=6 by omega)];rfl
    w_up;show oU ["name","kind"] (σ':=[none,none]) (bD (ρ Gy)) nd ?_;cbv;show#[a,vs,rfl,.inl (.inl (sm<*G)),(),λτ=>∃j l,τ=[j,l],λW i u H'=>∃c,cs[i]?=↑c/\u=.str c.1,#[none,none,rfl],λW i u H2 H3 ys _ _ p=>p,λfp W C s3 H0 i τ x H2 H3 hE hi Y y hys hG=>?_,λW H2 ys hE hl s e2 y =>?_]
    .let#[j,l,rfl]:=Y;let#[s,rfl]:=hG;let#[c,m,t,rfl,M]:=g.get s;show aJ (ψ.of (y<*(sm _ _ M))) (Κ (Γ aY (Κ (Γ aY (aF ?_)))));cbv;show#[#[_,_,rfl],#[c,m,rfl],ζ.refl _]
    .let ey:=jc (ys:=cs) (λc=>V.str c.1) (by rw[hl,lU]) s;let mZ:ys=(cs.map Prod.fst).map V.str:=by rw[ey,agf];rfl
     subst mZ;let D:↥(cs.map Prod.fst)<=4000:=by simp;omega
     let f:=sm<|>y;f_len;cbv;show Mu (by rfl) (θ.of e2) D λS hS=>?_
     cbv;show U7 ξ D ?_;cbv;show Km (.inl (θ.of ((ζ.upd hS)<*e2))) ?_;cbv;let z :=f<|>(ζ.upd (o:=lO X S (cs.map Prod.fst)) hS);let RK:=Kv _ (cs.map Prod.fst) rfl;show cC (λZ=>?_) (λZ=>?_)
     .f_len;show aM ς T.uW ?_;cbv;show#[by rw[hsz];simp,bad ?_ _ z];rw[Z1];show decide_eq_false λhd=>Z ?_
      rw[RK.mpr hd];simp
     .show χ ?_;have:=q _ z;rw[Z1,if_pos]at this
      .show this
      .show decide_eq_true (RK.mp ?_);let h6:(↥(c7 (cs.map Prod.fst)):Int)=↥((cs.map Prod.fst).map V.str):=by injection Z
       rw[ϭ]at h6;omega
 .cbv;show(aM ς T.uW ?_);cbv;show#[by rw[hsz];simp,bad (Yh ()) H (ζ.refl _)]
def Hj:Def 2 "is_row_number" ["row"] Sy:=by
 exists ["row"],Hj,c,#[v,rfl,a,q],e.Wf,f wB;symm;cbv;show#[v,rfl,a,?_];cases v with
 |int i=>
  change Q (.bl (decide (0<=i/\i<=1000000000))) H at q;rw[show lJ (V.int i)=true from rfl];cbv;show Ζ (λh=>?_) (λh=>?_)
  .cbv;rw[show decide (0<=i/\i<=1000000000)=decide (i<=1000000000)from by rw[decide_eq_decide];omega]at q;show q
  .cbv;rw[decide_eq_false (show ¬(0<=i/\i<=1000000000)by omega)]at q;show q
 |non=>
  rw[show lJ V.non=false from rfl];cbv;show q
 |str z=>
  rw[show lJ (V.str z)=false from rfl];cbv;show q
 |_=>cases a
theorem Lb:∀{cs:List Β}{xs:List V}{bs:List Bool},↥xs=↥cs->↥bs=↥cs->(∀(i:Nat)(b:Bool),bs[i]?=↑b->∃c x,cs[i]?=↑c/\xs[i]?=↑x/\b=isVal c.2 x)->bs.all id=oK cs xs
 |[],[],[],_,_,_=>rfl
 |c::cs,x::xs,b::bs,h1,h2,h=>by
  let#[g,j,e1,a,f]:=h 0 b rfl;cases e1;cases a;rw[ase];unfold oK;rw[Lb (~~~h1) (~~~h2) λi b e=>~~~h (i+1) b (~~~e)];rw[f];rfl
 |[],_::_,_,h1,_,_=>by simp at h1
 |_::_,[],_,h1,_,_=>by simp at h1
 |[],[],_::_,_,h2,_=>by simp at h2
 |_::_,_::_,[],_,h2,_=>by simp at h2
theorem RT:∀{xs:List V},(∀(i:Nat) v,xs[i]?=↑v->∃b,v=.bl b)->∃bs:List Bool,xs=bs.map V.bl
 |[],_=>#[[],rfl]
 |x::xs,h=>by
  let#[b,rfl]:=h 0 x rfl;let#[bs,rfl]:=RT (xs:=xs) λi v e=>h (i+1) v (~~~e)
  show#[b::bs,rfl]
def Hi:Def 4 "is_row" ["columns","row","values"] Ms:=by
 exists U8,Hi,hr,#[a,cs,v,b,xs,rfl,#[vs,B,f],R,U,D,m,q],n1.aN,n2.Lh,W.aaT,1,2;let sa:θ K H a vs:=.inl (.inl B);let sb:θ K H b xs:=.inl (.inl D);let Y:=f.len;let D1:=!Hj;let D2:=!Eh;let F:(["column","value"]:List Str).Nodup:=by fin2
 unfold fD at q;w_up;cbv;show#[v,rfl,U,?_];cbv;show Cv (λh1=>?_) (λh1=>?_)
 .rw[h1,afy,afy]at q;cbv;show q H (ζ.refl _)
 .rw[h1,adF]at q;cbv;show cC (λh2=>?_) (λh2=>?_)
  .let j:¬↥xs=↥cs:=λe=>h2 (by rw[Y,e])
   rw[decide_eq_false j,afy]at q;cbv;show q H (ζ.refl _)
  .let j:↥xs=↥cs:=by
    have:(↥xs:Int)=↥vs:=by injection h2
    omega
   rw[decide_eq_true j,adF]at q;show χ ?_;symm;f_are;f_are;show abx ["column","value"] (σ':=[none,none]) (by rfl) (by rfl) (bD (ρ Hy)) (by rfl) W (by rfl) (by rfl) ?_;cbv;show#[a,b,vs,xs,rfl,rfl,B,D,(),λG=>∃I J,G=[I,J],λn i u H'=>∃c x,cs[i]?=↑c/\xs[i]?=↑x/\u=.bl (isVal c.2 x),#[none,none,rfl],λn i u H2 Z ys _ _ p=>p,λfp n C s3 H0 i G x H2 Z hE hi o sm hys hG=>?_,λn H2 ys hE hl L s sm=>?_]
   .let#[I,J,rfl]:=o;let#[l,y,u,rfl,hT,rfl,hy,M]:=hG;let#[c,hc,t,rfl,ht]:=f.get hy;let z :ζ H2 (upd H2 l (.tup [.ref t,u])):=ζ.upd hT;let O:(upd H2 l (.tup [.ref t,u])) l=↑(.tup [.ref t,u]):=ξ;generalize upd H2 l (.tup [.ref t,u])=H4 at z O⊢;show aJ (ψ.of O) (Κ (Γ F (Κ (Γ F (aF ?_)))));cbv;show gH (ψ.of (z<*(sm _ _ ht))) (show ύ [V.str c.1,V.str c.2] 1=↑(V.str c.2)from rfl) ?_;cbv;let g:=m u (aan M);show#[c.2,u,rfl,g.1,g.2,λH5 bF=>#[#[_,_,rfl],#[c,u,hc,M,rfl],z<|>bF]]
   .let#[bs,rfl]:=RT λi v e=>by
     let#[c,x,_,_,e]:=L i v e;show#[_,e]
    let Iw:↥bs=↥cs:=by rw[ϭ]at hl;omega
    let eb:bs.all id=oK cs xs:=Lb j Iw λi b e=>by
     let#[c,x,e1,s,e3]:=L i (.bl b) (by rw[acj,e];rfl);show#[c,x,e1,s,by injection e3]
    cbv;show Ro (by rfl) (θ.of s) ?_;rw[eb];show q _ sm
def xT:∀c∈SG,c∈wQ.cps.toList:=by fin2
def bR.is{a:Str}{v:V}(h:bR a v):isVal a v=true/\scalar v=true/\short v:=by
 obtain rfl|⟨h1,i,rfl,h2,e⟩|⟨h1,z,rfl,h2,e⟩:=h
 .show#[rfl,rfl,trivial]
 .show#[?_,rfl,trivial];show(if a="number" then isNum (.int i)else dO (.int i))=true;rw[if_pos h1];show decide_eq_true #[h2,e]
 .show#[?_,rfl,by show ↥z<=4000;omega];show(if a="number" then isNum (.str z)else dO (.str z))=true;rw[if_neg h1];show(decide (↥z<=20)&&gb z _)=true;rw[decide_eq_true h2,adF];show ach.mpr λc f=>decide_eq_true (xT c (e c f))
def aex{cs:List Β}{xs:List V}(h:ω (λ(c:Β) x=>bR c.2 x) cs xs):oK cs xs=true/\∀x∈xs,scalar x=true/\short x:=by
 induction h with
 |nil=>show#[rfl,λx a=>by simp at a]
 |cons h _ f=>
  show#[?_,λx a=>?_]
  .show(isVal _ _&&oK _ _)=true;rw[h.is.1,f.1];rfl
  .obtain e|e:=aaz.mp a
   .rw[e];show h.is.2
   .show f.2 x e
inductive tM(mg:MG):Sp
 |mk (A:BA) (B:Bk) (row:Int) (b:δ) (xs:List V):vs=[.ref A.b,.int row,.ref b]->Τ (cB mg) H A B->H b=↑(.lst xs)->↥B.heads<=6->(∀x∈xs,scalar x=true/\short x)->row.natAbs<10^60->(fD B.heads (.int row) xs=true->∀H',ζ H H'->Q .non H')->(fD B.heads (.int row) xs=false->∀H',ζ H H'->E (.ref (η mg "NoRow")) (none,true) H')
def WM:FD 5 "ask_row" "Book.ask_row" Qk ["self","row","values"] (tM mg):=by
 show ϖ (N:=["self","row","values"]) (λf n o outer s H vs Q E p h=>?_);intro X _;let#[A,B,row,b,xs,rfl,e,g,u,c,a,q,i]:=h;let v:=!Hi;let j:=T.ϔ;let l:=T.Hc;let m:=e.ins;let hsz:=ϯ;f_len;cbv;show ϝ ?_;f_are;show#[A.b,_,_,_,_,rfl,m,j,l,rfl,?_];cbv;show#[A.h,B.heads,.int row,b,xs,rfl,e.heads,(),rfl,g,c,λH' sm=>?_];cases e3:fD B.heads (.int row) xs with
 |false=>
  cbv;show aM ς T.ajm ?_;cbv;show fY ?_;f_are;show#[row,rfl,_V.cu a,_,70,rfl,_V.mL a,(),?_];cbv;intro x;cbv;show#[by rw[hsz];simp,i e3 H' sm]
 |true=>
  cbv;show q e3 H' sm
inductive lu(mg:MG):Sp
 |mk (A:BA) (B:Bk) (row:Int):vs=[.ref A.b,.int row]->Τ (cB mg) H A B->row.natAbs<10^60->(ϑ B.rows row=none->∀e H',ζ H H'->H' e=↑(.xd [("row",.int row)])->E (.ref (η mg "Absent")) (↑e,true) H')->(ϑ B.rows row≠none->Q .non H)
def Fw:FD 3 "ask_there" "Book.ask_there" X8 ["self","row"] (lu mg):=by
 show ϖ (N:=["self","row"]) (λf y z outer s H vs Q E c h=>?_);intro X _;let#[A,B,row,rfl,g,i,bad,q]:=h;let j:=T.ϔ;let l:=T.rG;let m:=g.ins;let n:_+1<cLine:=agE (aki (by decide:1<=64) _) c.units;let#[Ϸ,o,p]:=g.rows;f_len;cbv;show ϝ ?_;f_are;show#[A.b,_,_,_,_,rfl,m,j,l,rfl,?_]*>amZ n (aQ.k (k:=Sum.inl row) o) ?_;obtain⟨e1,a⟩|⟨u,x,e1,a,_⟩:=jL p row
 .rw[show(aX Ϸ (Sum.inl row)).isSome=false by rw[e1];rfl,Bool.not_false];cbv;show(ie (agq T (cc:=true)) c (by decide) (λ_=>rfl) ς ?_);cbv;show#[row,rfl,i,λe H' sm v=>bad a e H' sm v]
 .rw[show(aX Ϸ (Sum.inl row)).isSome=true by rw[e1];rfl,Bool.not_true];cbv;show q (by rw[a];simp)
inductive xZ(mg:MG):Sp
 |mk (A:BA) (B:Bk) (row:Int) (b:δ) (xs:List V):vs=[.ref A.b,.int row,.ref b]->Τ (cB mg) H A B->H b=↑(.lst xs)->↥B.heads<=6->(∀x∈xs,scalar x=true/\short x)->row.natAbs<10^60->uM B->(fD B.heads (.int row) xs=false->∀H',ζ H H'->E (.ref (η mg "NoRow")) (none,true) H')->(fD B.heads (.int row) xs=true->ϑ B.rows row≠none->∀e H',ζ H H'->H' e=↑(.xd [("row",.int row)])->E (.ref (η mg "Twice")) (↑e,true) H')->(fD B.heads (.int row) xs=true->ϑ B.rows row=none->∀H',Out A.fp H H'->Τ (cB mg) H' A (jH B row ↑xs)->Q (.int (B.now+1)) H')
theorem N8{X:Cx}{H:Hp}{Q:VK}{p:δ}{ys:List V}(h:θ X.K H p ys)(g:∀l,H l=none->Q (.ref l) (upd H l (.tup ys))):CL X (.type "tuple") [.ref p] H Q:=cI agF #[p,ys,rfl,.inl #[h,g]]
def agN:FD 6 "put" "Book.put" Qu ["self","row","values"] (xZ mg):=by
 show ϖ (N:=["self","row","values"]) (λf U W outer s H vs Q E c h=>?_);intro X _;let#[A,B,row,b,xs,rfl,g,p,z,i,a,j,C,bad,q]:=h;let M1:Υ P w K mg base true 5 (cB mg) "ask_row" ["self","row","values"] (tM mg):=(WM T).meth T.ϔ T.RP;let M2:Υ P w K mg base true 1 (cB mg) "do" ["self","row","values"] (lC mg):=(CV T).meth T.ϔ T.Gv;let D:=T.ϔ;let Y:=T.Q8;let F:=T.rG;let G:_+1<cLine:=agE (aki (by decide:1<=64) _) c.units;w_up;show Ϝ ?_*>Ϛ (pl:=_) c ς (h:=?_);f_are;show#[A.b,cB mg,A.dx,_,true,5,_,tM mg,rfl,g.ins,by rfl,M1,by decide,id,?_];cbv;show#[A,B,row,b,xs,rfl,g,p,z,i,a,λhok H1 sm=>?_,λl H1 sm=>C l H1 sm];let k1:=g.same sm;let v:=k1.ins;let m:=sm _ _ p;let#[Ϸ,I,J]:=k1.rows;w_up;cbv;show ϝ ?_;f_are;show#[A.b,_,_,_,_,rfl,v,D,F,rfl,?_]*>Lr G (aQ.k (k:=Sum.inl row) I) ?_;obtain⟨e1,n⟩|⟨u,x,e1,n,_⟩:=jL J row
 .rw[show(aX Ϸ (Sum.inl row)).isSome=false by rw[e1];rfl];cbv;show Ϛ (pl:=_) c ς (h:=?_);f_are;show#[A.b,cB mg,A.dx,_,true,1,_,lC mg,rfl,v,by rfl,M2,by decide,id,?_];cbv;show N8 (θ.of m) λt L=>?_
  let#[o,y,H1,t,H2]:=Η L (.tup xs);cbv;show#[A,B,row,.ref t,↑xs,rfl,k1.same o,#[t,rfl,y],(λe=>by cases e),j,λM O k3=>?_]*>q hok n M ((Out.of (sm<|>o))<|>O) k3
 .rw[show(aX Ϸ (Sum.inl row)).isSome=true by rw[e1];rfl];cbv;show(ie (aom T (cc:=true)) c (by decide) (λ_=>rfl) ς ?_);cbv;show#[row,rfl,a,λe H' R S=>bad hok (by rw[n];simp) e H' (sm<|>R) S]
inductive Bb(mg:MG):Sp
 |mk (A:BA) (B:Bk) (row:Int) (b:δ) (xs:List V):vs=[.ref A.b,.int row,.ref b]->Τ (cB mg) H A B->H b=↑(.lst xs)->↥B.heads<=6->(∀x∈xs,scalar x=true/\short x)->row.natAbs<10^60->uM B->(fD B.heads (.int row) xs=false->∀H',ζ H H'->E (.ref (η mg "NoRow")) (none,true) H')->(fD B.heads (.int row) xs=true->ϑ B.rows row=none->∀e H',ζ H H'->H' e=↑(.xd [("row",.int row)])->E (.ref (η mg "Absent")) (↑e,true) H')->(fD B.heads (.int row) xs=true->ϑ B.rows row≠none->∀H',Out A.fp H H'->Τ (cB mg) H' A (jH B row ↑xs)->Q (.int (B.now+1)) H')
def agQ:FD 6 "change" "Book.change" ZG ["self","row","values"] (Bb mg):=by
 show ϖ (N:=["self","row","values"]) (λf J L outer s H vs Q E c h=>?_);intro X _;let#[A,B,row,b,xs,rfl,g,p,x,i,a,j,y,bad,q]:=h;let M1:Υ P w K mg base true 5 (cB mg) "ask_row" ["self","row","values"] (tM mg):=(WM T).meth T.ϔ T.RP;let M2:Υ P w K mg base true 1 (cB mg) "do" ["self","row","values"] (lC mg):=(CV T).meth T.ϔ T.Gv;let z:Υ P w K mg base true 3 (cB mg) "ask_there" ["self","row"] (lu mg):=(Fw T).meth T.ϔ T.JX;let M:=T.ϔ;let O:=T.Q8;w_up;show Ϝ ?_*>Ϛ (pl:=_) c ς (h:=?_);f_are;show#[A.b,cB mg,A.dx,_,true,5,_,tM mg,rfl,g.ins,by rfl,M1,by decide,id,?_];cbv;show#[A,B,row,b,xs,rfl,g,p,x,i,a,λhok H1 sm=>?_,λl H1 sm=>y l H1 sm];let k1:=g.same sm;let u:=k1.ins;let m:=sm _ _ p;w_up;show Ϝ ?_*>Ϛ (pl:=_) c ς (h:=?_);f_are;show#[A.b,cB mg,A.dx,_,true,3,_,lu mg,rfl,u,by rfl,z,by decide,id,?_];cbv;show#[A,B,row,rfl,k1,a,λn e H' C D=>bad hok n e H' (sm<|>C) D,λn=>?_];symm;show Ϛ (pl:=_) c ς (h:=?_);f_are;show#[A.b,cB mg,A.dx,_,true,1,_,lC mg,rfl,u,by rfl,M2,by decide,id,?_];cbv;show N8 (θ.of m) λt F=>?_
 let#[o,v,H1,t,H2]:=Η F (.tup xs);cbv;show#[A,B,row,.ref t,↑xs,rfl,k1.same o,#[t,rfl,v],(λe=>by cases e),j,λG I k3=>?_]*>q hok n G ((Out.of (sm<|>o))<|>I) k3
inductive BR(mg:MG):Sp
 |mk (A:BA) (B:Bk) (row:Int):vs=[.ref A.b,.int row]->Τ (cB mg) H A B->row.natAbs<10^60->uM B->xK B->(ϑ B.rows row=none->∀e H',ζ H H'->H' e=↑(.xd [("row",.int row)])->E (.ref (η mg "Absent")) (↑e,true) H')->(ϑ B.rows row≠none->∀H',Out A.fp H H'->Τ (cB mg) H' A (jH B row none)->Q (.int (B.now+1)) H')
def ajQ:FD 4 "take" "Book.take" aaV ["self","row"] (BR mg):=by
 show ϖ (N:=["self","row"]) (λf m n outer s H vs Q E i h=>?_);intro X _;let#[A,B,row,rfl,a,j,c,e,bad,q]:=h;let M2:Υ P w K mg base true 1 (cB mg) "do" ["self","row","values"] (lC mg):=(CV T).meth T.ϔ T.Gv;let l:Υ P w K mg base true 3 (cB mg) "ask_there" ["self","row"] (lu mg):=(Fw T).meth T.ϔ T.JX;w_up;show Ϝ ?_*>Ϛ (pl:=_) i ς (h:=?_);f_are;show#[A.b,cB mg,A.dx,_,true,3,_,lu mg,rfl,a.ins,by rfl,l,by decide,id,?_];cbv;show#[A,B,row,rfl,a,j,bad,λg=>?_];symm;show Ϛ (pl:=_) i ς (h:=?_);f_are;show#[A.b,cB mg,A.dx,_,true,1,_,lC mg,rfl,a.ins,by rfl,M2,by decide,id,?_];cbv;show#[A,B,row,.non,none,rfl,a,rfl,λ_=>#[g,λz=>g ((e row).mpr z)],c,q g]
inductive lZ(mg:MG)(g:Bk->Int):Sp
 |mk (A:BA) (B:Bk):vs=[.ref A.b]->Τ (cB mg) H A B->Q (.int (g B)) H
def En:FD 1 "moment" "Book.moment" Tj ["self"] (lZ mg Bk.now):=by
 show ϖ (N:=["self"]) (λf e g outer s H vs Q E i h=>?_);intro X _;let#[A,B,rfl,a,q]:=h;let c:=T.ϔ;f_len;show ο (ϝ ?_);f_are;show#[A.b,_,_,_,_,rfl,a.ins,c,T.Ai,rfl,q]
inductive eV(mg:MG):Sp
 |mk (A:BA) (B:Bk):vs=[.ref A.b]->Τ (cB mg) H A B->(∀p H',ζ H H'->H p=none->aH H' p B.heads->Q (.ref p) H')
def su:FD 1 "columns" "Book.columns" XD ["self"] (eV mg):=by
 show ϖ (N:=["self"]) (λf m n outer s H vs Q E u h=>?_);intro X _;let#[A,B,rfl,a,q]:=h;let i:=T.ϔ;let x:=T.qz;let#[vs,j,l]:=a.heads;symm;cbv;show ϝ ?_;f_are;show#[A.b,_,_,_,_,rfl,a.ins,i,T.Hc,rfl,?_];cbv;show rK (.inl (θ.of j)) λp g=>?_
 let sm:=ζ.upd (H:=H) (o:=.lst vs) g;show q p _ sm g #[vs,ξ,ω.imp (λv c z=>by let#[t,e,h]:=z;show #[t,e,sm<*h]) l]
inductive zX(mg:MG):Sp
 |mk (A:BA) (B:Bk) (row:Int):vs=[.ref A.b,.int row]->Τ (cB mg) H A B->row.natAbs<10^60->xK B->(ϑ B.rows row=none->∀e H',ζ H H'->H' e=↑(.xd [("row",.int row)])->E (.ref (η mg "Absent")) (↑e,true) H')->(∀i,ϑ B.touched row=↑i->Q (.int i) H)
def ae5:FD 4 "since" "Book.since" U0 ["self","row"] (zX mg):=by
 show ϖ (N:=["self","row"]) (λf z C outer s H vs Q E i h=>?_);intro X _;let#[A,B,row,rfl,a,j,c,bad,q]:=h;let l:Υ P w K mg base true 3 (cB mg) "ask_there" ["self","row"] (lu mg):=(Fw T).meth T.ϔ T.JX;let m:=T.ϔ;let n:_+1<cLine:=agE (aki (by decide:1<=64) _) i.units;let#[Ϸ,o,p]:=a.touched;w_up;show Ϝ ?_*>Ϛ (pl:=_) i ς (h:=?_);f_are;show#[A.b,cB mg,A.dx,_,true,3,_,lu mg,rfl,a.ins,by rfl,l,by decide,id,?_];cbv;show#[A,B,row,rfl,a,j,bad,λv=>?_];obtain⟨e1,e⟩|⟨u,x,e1,e,y⟩:=jL p row
 .show absurd ((c row).mpr e) v
 let g:u=.int x:=y;subst g;symm;show ai1 n (by intro _ _;rfl) ?_*>ϝ ?_;f_are;show#[A.b,_,_,_,_,rfl,a.ins,m,T.CT,rfl,?_];f_are;show#[A.t,.int x,rfl,?_,q x e];have:=aQ.k (k:=Sum.inl row) o;rw[e1]at this;show this
inductive Ib(mg:MG):Sp
 |mk (y dx a:δ) (cs:List Β):vs=[.ref y,.ref a]->H y=↑(.ins (cB mg) dx [])->H dx=↑(.own y)->aH H a cs->↥cs<=4000->Ik cs->(aL cs=false->∀H',ζ H H'->E (.ref (η mg "NoColumns")) (none,true) H')->(aL cs=true->∀(H':Hp)(A:BA),A.b=y->A.dx=dx->H A.h=none->H A.r=none->H A.t=none->H A.d=none->Out [y] H H'->Τ (cB mg) H' A #[cs,[],[],[],0,0]->Q .non H')
def ahr:FD 4 "__init__" "Book.__init__" XS ["self","columns"] (Ib mg):=by
 show ϖ (N:=["self","columns"]) (λf Ϲ A' outer s H vs Q E hr h=>?_);intro X _;let#[y,dx,a,cs,rfl,n,j,hC,rW,S,nr,q]:=h;let D1:=!Ky;let m:=T.ϔ;let n1:=T.qz;let hsz:=ϯ;w_up;cbv;show#[a,cs,rfl,hC,rW,S,λH1 x =>?_];by_cases hok:aL cs=true
 rotate_left
 .rw[if_neg hok];show nr (~~~hok) H1 x
 rw[if_pos hok]
 replace q:=q hok
 let#[vs,ha,U]:=hC;let hy1:=x _ _ n;let zO:dx≠y:=λe=>by rw[e,n]at j;cases j
 w_up;show cZ ?_;cbv;show rK (.inl (θ.of (x<*ha))) λh hh=>?_
 let W:ζ H (upd H1 h (.lst vs)):=x<|>(ζ.upd hh);let eh:(upd H1 h (.lst vs)) h=↑(.lst vs):=ξ;let Y:H h=none:=x.free hh;generalize upd H1 h (.lst vs)=H2 at W eh⊢;f_are;show#[y,_,dx,_,rfl,W<*n,m,T.Hc,by show 0<1000;decide,?_];let B:h≠y:=λe=>by rw[e,n]at Y;cases Y
 let o3:Out [y] H (upd H2 y (.ins (cB mg) dx [("heads",.ref h)])):=(Out.of W)<|>(Out.upd (by simp));let C:(upd H2 y (.ins (cB mg) dx [("heads",.ref h)])) h=↑(.lst vs):=by rw[ι B];show eh
 let Z:(upd H2 y (.ins (cB mg) dx [("heads",.ref h)])) y=↑(.ins (cB mg) dx [("heads",.ref h)]):=ξ;change Ι _ _ _ _ (upd H2 y (.ins (cB mg) dx [("heads",.ref h)]));generalize upd H2 y (.ins (cB mg) dx [("heads",.ref h)])=J at o3 C Z⊢;let step:∀(H':Hp)(p:δ)(o o1:HO),H' y=↑o1->Out [y] H H'->H' p=none->(H p=none/\p≠y/\∀fs,Out [y] H (upd (upd H' p o) y fs)/\(upd (upd H' p o) y fs) y=↑fs/\(upd (upd H' p o) y fs) p=↑o/\∀b u,b≠y->H' b=↑u->b≠p/\(upd (upd H' p o) y fs) b=↑u):=by
  intro H' p o o1 ey ho L;let l:p≠y:=λe=>by rw[e,ey]at L;cases L
  let keep:∀fs b u,b≠y->H' b=↑u->b≠p/\(upd (upd H' p o) y fs) b=↑u:=λfs b u i e=>by
   let D:b≠p:=λz=>by rw[z,L]at e;cases e
   show#[D,?_];rw[ι i,ι D];show e
  show#[?_,l,λfs=>#[λb u i e=>?_,ξ,by rw[ι l];show ξ,keep fs]]
  .cases e1:H p with
   |none=>rfl
   |some u=>
    have:=ho p u (~~~l) e1;rw[L]at this;cases this
  .show(keep fs b u (~~~i) (ho b u i e)).2
 w_up;show cZ ?_*>Ds λr ab=>?_
 f_are;let#[rn,ry,F]:=step J r (.dK []) _ Z o3 ab;let ac:(upd J r (.dK [])) y=↑(.ins (cB mg) dx [("heads",.ref h)]):=by rw[ι (Ne.symm ry)];show Z
 show#[y,_,dx,_,rfl,ac,m,T.rG,by show 1<1000;decide,?_];let#[o4,JV,N6,k4]:=F (.ins (cB mg) dx [("heads",.ref h),("rows",.ref r)]);change Ι _ _ _ _ (upd (upd J r (.dK [])) y (.ins (cB mg) dx [("heads",.ref h),("rows",.ref r)]));let G:=(k4 _ _ B C).2;generalize upd (upd J r (.dK [])) y (.ins (cB mg) dx [("heads",.ref h),("rows",.ref r)])=M at o4 JV N6 G⊢;w_up;show cZ ?_*>Ds λt ae=>?_
 f_are;let#[tn,ty,F]:=step M t (.dK []) _ JV o4 ae;let af:(upd M t (.dK [])) y=↑(.ins (cB mg) dx [("heads",.ref h),("rows",.ref r)]):=by rw[ι (Ne.symm ty)];show JV
 show#[y,_,dx,_,rfl,af,m,T.CT,by show 2<1000;decide,?_];let#[o5,Dv,Oz,k5]:=F (.ins (cB mg) dx [("heads",.ref h),("rows",.ref r),("touched",.ref t)]);change Ι _ _ _ _ (upd (upd M t (.dK [])) y (.ins (cB mg) dx [("heads",.ref h),("rows",.ref r),("touched",.ref t)]));let Yu:=(k5 _ _ B G).2;let#[rt,Wy]:=k5 _ _ ry N6;generalize upd (upd M t (.dK [])) y (.ins (cB mg) dx [("heads",.ref h),("rows",.ref r),("touched",.ref t)])=O at o5 Dv Oz Wy Yu⊢;w_up;show cZ ?_;cbv;show#[Α,λd ag=>?_];f_are;let#[dn,dy,F]:=step O d (.lst []) _ Dv o5 ag;let ah:(upd O d (.lst [])) y=↑(.ins (cB mg) dx [("heads",.ref h),("rows",.ref r),("touched",.ref t)]):=by rw[ι (Ne.symm dy)];show Dv
 show#[y,_,dx,_,rfl,ah,m,T.yZ,by show 3<1000;decide,?_];let#[R,Wj,Xw,k6]:=F (.ins (cB mg) dx [("heads",.ref h),("rows",.ref r),("touched",.ref t),("done",.ref d)]);change Ι _ _ _ _ (upd (upd O d (.lst [])) y (.ins (cB mg) dx [("heads",.ref h),("rows",.ref r),("touched",.ref t),("done",.ref d)]));let#[ai,YM]:=k6 _ _ B Yu;let#[_,I]:=k6 _ _ ry Wy;let#[_,Sg]:=k6 _ _ ty Oz;generalize upd (upd O d (.lst [])) y (.ins (cB mg) dx [("heads",.ref h),("rows",.ref r),("touched",.ref t),("done",.ref d)])=H6 at R Wj Xw Sg I YM⊢;w_up;show cZ ?_;f_are;f_are;show#[y,_,dx,_,rfl,Wj,m,T.GQ,by show 4<1000;decide,?_];f_len;show cZ ?_;f_are;f_are;show#[y,_,dx,_,rfl,ξ,m,T.Ai,by show 5<1000;decide,?_];let g:∀b u,b≠y->H6 b=↑u->(upd (upd H6 y (.ins (cB mg) dx [("heads",.ref h),("rows",.ref r),("touched",.ref t),("done",.ref d),("known",.int 0)])) y (.ins (cB mg) dx [("heads",.ref h),("rows",.ref r),("touched",.ref t),("done",.ref d),("known",.int 0),("now",.int 0)])) b=↑u:=λb u i e=>by
  rw[ι i,ι i];show e
 let PN:∀t' ys,H t'=↑(.tup ys)->t'≠y:=λt' ys e z=>by rw[z,n]at e;cases e
 show q (upd (upd H6 y (.ins (cB mg) dx [("heads",.ref h),("rows",.ref r),("touched",.ref t),("done",.ref d),("known",.int 0)])) y (.ins (cB mg) dx [("heads",.ref h),("rows",.ref r),("touched",.ref t),("done",.ref d),("known",.int 0),("now",.int 0)])) #[y,dx,h,r,t,d] rfl rfl Y rn tn dn (λb u i e=>g b u (~~~i) (R b u i e)) ?_*>#[ξ,g _ _ zO (R _ _ (~~~zO) j),#[vs,g _ _ B YM,ω.imp (λv c z=>by let#[u,e,hu]:=z;show #[u,e,g _ _ (PN<*hu) (R _ _ (~~~PN _ _ hu) hu)]) U],#[[],g _ _ ry I,.nil],#[[],g _ _ ty Sg,.nil],#[[],g _ _ dy Xw,.nil],rt,ai]
def wX(a H:Hp)(v:V)(p:Int×List V):=∃t l,v=.ref t/\H t=↑(.tup [.int p.1,.ref l])/\H l=↑(.lst p.2)/\a l=none/\a t=none
def cP(rows:List (Int×List V))(ks:List Int):List (Int×List V):=ks.map λk=>(k,(ϑ rows k).getD [])
inductive Zd(C:Unit):Sp
 |mk (a:δ) (rows:List (Int×List V)):vs=[.ref a]->DictAt (TupAt H) H a rows->↥rows<64->(∀p ys ks H',ζ H H'->H p=none->ks.Perm (rows.map (·.1))->ks.Pairwise (· <= ·)->H' p=↑(.lst ys)->ω (wX H H') ys (cP rows ks)->Q (.ref p) H')
def yD:Def 1 "told_rows" ["rows"] (Zd PUnit.unit):=by
 exists ["rows"],yD,hr,#[a,rows,rfl,#[Ϸ,ea,hR],hl,q],n1.Ci,n2.qz,1;let hu:_+1<cLine:=agE (aki (by decide:1<=64) _) hr.units;let sZ:(["row","rows"]:List Str).Nodup:=by fin2
 symm;show lQ ["row","rows"] (σ':=[none,↑(.ref a)]) (bD (ρ Tg)) ?_;walk_at"cb";cbv;show aaB (ks:=rows.map (·.1)) (by rfl) ea (Vw hR) (by rw[ϭ];show hl) λL ks hL D hs=>?_
 let#[n,eL,H,L,H1]:=Η hL (.lst (ks.map V.int));let hkl:↥ks=↥rows:=by rw[D.length_eq,ϭ]
 let f:↥(ks.map V.int)=↥ks:=ϭ ..;show#[L,_,rfl,θ.of eL,(),λτ=>∃o1,τ=[o1,↑(.ref a)],λo i u H'=>∃k t l,ks[i]?=↑k/\u=.ref t/\t≠o/\l≠o/\H' t=↑(.tup [.int k,.ref l])/\H' l=↑(.lst ((ϑ rows k).getD []))/\H l=none/\H t=none,#[none,rfl],λo i u H2 H3 ys y1 y2 y3=>?_,λfp o C s3 H0 i τ x H4 H3 aA hi F Ρ G hG=>?_,λL2 H2 ys I g J e2 Θ =>?_]
 .let#[k,t,l,M,O,S,U,W,Y,Z,z8]:=y3;show#[k,t,l,M,O,S,U,y2 _ _ S W,y2 _ _ U Y,Z,z8]
 .let#[o1,rfl]:=F;let#[hx,rfl]:=hG;let Nt:i<↥ks:=by rw[f]at hi;show hi
  let hk:ks[i]?=↑ks[i]:=aag Nt;rw[acj,hk]at hx;let ab:x=.int ks[i]:= ~~~hx.symm
  subst ab;let j:ks[i]∈rows.map (·.1):=D.mem_iff.mp (arx Nt);let s:=n<|>Ρ;let ac:=s _ _ ea;show Γ sZ ?_;cbv;rcases jL hR ks[i]with⟨_,e3⟩|⟨u,xs,e1,e3,t0,rfl,ae⟩
  .show absurd j (yS.mp e3)
  let g4:=aQ.k (k:=Sum.inl ks[i]) ac;rw[e1]at g4;show WL hu g4 ?_;cbv;show rK (.inr (ψ.of (s<*ae))) λl y=>?_
  let#[z,el,H4,l,H5]:=Η y (.lst xs);cbv;show#[Α,λt B=>?_];let Ϡ:ζ H5 (upd H5 t (.tup [.int ks[i],.ref l])):=ζ.upd B;let#[ys0,hE]:=G;show#[#[_,rfl],#[ks[i],t,l,hk,rfl,λe=>?_,λe=>?_,ξ,?_,s.free y,(s<|>z).free B],z<|>Ϡ]
  .rw[e,z<*hE]at B;cases B
  .rw[e,hE]at y;cases y
  .rw[e3];show Ϡ<*el
 .show q L2 ys ks H2 (n<|>Θ) (n.free I) D hs e2 (pN (R:=λv p=>wX H H2 v p) (l:=ys) (m:=cP rows ks) (by unfold cP;rw[ϭ,g,f]) λi p c=>?_);unfold cP at c;rw[acj]at c;let hi:i<↥ys:=by
   rw[g,f];cases e:ks[i]? with
   |none=>rw[e]at c;cases c
   |some k=>show(aab.mp e).1
  let hy:ys[i]?=↑ys[i]:=aag hi;let#[k,t,l,M,O,S,U,W,Y,Z,z8]:=J i _ hy;rw[M]at c;let af:p=(k,(ϑ rows k).getD []):= ~~~c.symm
  rw[af];show#[_,hy,t,l,O,W,Y,Z,z8]
inductive rN(mg:MG):Sp
 |mk (A:BA) (B:Bk):vs=[.ref A.b]->Τ (cB mg) H A B->↥B.rows<64->(∀p ys ks H',ζ H H'->H p=none->ks.Perm (B.rows.map (·.1))->ks.Pairwise (· <= ·)->H' p=↑(.lst ys)->ω (wX H H') ys (cP B.rows ks)->Q (.ref p) H')
def W3:FD 2 "now_rows" "Book.now_rows" aaF ["self"] (rN mg):=by
 show ϖ (N:=["self"]) (λf e g outer s H vs Q E i h=>?_);intro X _;let#[A,B,rfl,a,c,q]:=h;let j:=!yD;symm;cbv;show ϝ ?_;f_are;show#[A.b,_,_,_,_,rfl,a.ins,T.ϔ,T.rG,rfl,?_];cbv;show#[A.r,B.rows,rfl,a.rows,c,q]
def uY(rows:List (Int×List V))(row:Int):Option (List V)->List (Int×List V)
 |none=>qm rows row
 |some xs=>kW rows row xs
def iJ(rows:List (Int×List V))(ds:List gf):List (Int×List V):=ds.foldr (λd r=>uY r d.row d.was) rows
def kZ(rows:List (Int×List V)):List gf->Prop
 |[]=>True
 |d::ds=>kZ rows ds/\(d.was=none->ϑ (iJ rows ds) d.row≠none)
def QC{α:Type}(m:List (Int×α))(i:Int)(x:α):↥(kW m i x)<=↥m+1:=by
 unfold kW;split
 .rw[ϭ];omega
 .rw[aa6,ahi];omega
def abZ(rows:List (Int×List V))(row:Int)(o:Option (List V)):↥(uY rows row o)<=↥rows+1:=by
 cases o with
 |none=>show Nat.le_succ_of_le (aji ..)
 |some xs=>show QC rows row xs
theorem Qt(rows:List (Int×List V)):∀ds:List gf,↥(iJ rows ds)<=↥rows+↥ds
 |[]=>Ϭ _
 |d::ds=>by
  let h1:=Qt rows ds;let h2:=abZ (iJ rows ds) d.row d.was;show(uY (iJ rows ds) d.row d.was).length<=_;rw[aap];omega
theorem kZ.drop{rows:List (Int×List V)}:∀{ds:List gf}(n:Nat),kZ rows ds->kZ rows (ds.drop n)
 |ds,0,h=>h
 |[],n+1,h=>h
 |d::ds,n+1,h=>kZ.drop (ds:=ds) n h.1
def jf(a H:Hp)(v:V):Option (List V)->Prop
 |none=>v=.non
 |some xs=>∃l,v=.ref l/\H l=↑(.lst xs)/\a l=none
def Pj(a H:Hp)(v:V)(d:gf):=∃t w u,v=.ref t/\H t=↑(.tup [.int d.at_,.int d.row,w,u])/\jf a H w d.was/\jf a H u d.is/\a t=none
def jf.stay{a H H':Hp}{v:V}{o:Option (List V)}(h:jf a H v o)(s:∀l ys,v=.ref l->H l=↑(.lst ys)->H' l=↑(.lst ys)):jf a H' v o:=by
 cases o with
 |none=>show h
 |some xs=>
  let#[l,e,h1,h2]:=h;show#[l,e,s _ _ e h1,h2]
inductive Xd:Sp
 |mk (v:V) (o:Option (List V)):vs=[v]->kJ H v o->(∀v' H',ζ H H'->jf H H' v' o->Q v' H')
def CN:Def 1 "told_values" ["values"] Xd:=by
 exists ["values"],CN,g,#[v,o,rfl,a,q],i.qz;symm;cases o with
 |none=>
  let e:v=.non:=a;subst e;cbv;show q _ _ (ζ.refl _) rfl
 |some xs=>
  let#[t,rfl,f]:=a;cbv;show rK (.inr (ψ.of f)) λp c=>q _ _ (ζ.upd c) #[p,rfl,ξ,c]
inductive Xq:Sp
 |mk (a:δ) (rows:List (Int×List V)) (row:Int) (v:V) (o:Option (List V)):vs=[.ref a,.int row,v]->DictAt (TupAt H) H a rows->kJ H v o->(o=none->ϑ rows row≠none)->↥rows<1000000->(∀H',Out [a] H H'->DictAt (TupAt H') H' a (uY rows row o)->Q .non H')
def Iu:Def 1 "put_back" ["rows","row","was"] Xq:=by
 exists ["rows","row","was"],Iu,m,#[a,rows,row,v,o,rfl,#[Ϸ,f,g],j,i,B,q];let n:_+1<cLine:=agE (aki (by decide:1<=64) _) m.units;let s:=g.len;let hsz:=ϯ;let st:∀c,∀b ys,H b=↑(.tup ys)->(upd H a (.dK c)) b=↑(.tup ys):=λc b ys e=>by
  rw[ι (λz=>by rw[z,f]at e;cases e)];show e
 f_len;show Δ ?_;cases o with
 |none=>
  let e:v=.non:=j;subst e;lk;f_len;show Ϝ (zP ?_);f_are;show#[a,rfl,.inl #[_,.inl f],?_];f_are;obtain⟨e1,l⟩|⟨u,x,e1,l,_⟩:=jL g row
  .show absurd l (i rfl)
  show#[Ϸ,Sum.inl row,u,f,rfl,e1,?_]*>q _ (Out.upd (by simp)) #[_,ξ,dC (xr g row) λv p h=>h.stay (st _)]
 |some xs=>
  let#[t,rfl,y]:=j;lk;f_len;show zB n ?_;cbv;show#[a,_,rfl,jD.k (k:=Sum.inl row) f (),?_]*>q _ (Out.upd (by simp)) #[_,ξ,dC (BP g row (x:=xs) #[t,rfl,y]) λv p h=>h.stay (st _)]
def iu(B:Bk):Prop:=0<=B.known/\B.known<=B.now/\B.now<=1000000000
inductive lG(mg:MG):Sp
 |mk (A:BA) (B:Bk) (mo:Int):vs=[.ref A.b,.int mo]->Τ (cB mg) H A B->iu B->(mo<B.known->∀e H',ζ H H'->H' e=↑(.xd [("known",.int B.known)])->E (.ref (η mg "Gone")) (↑e,true) H')->(B.now<mo->∀e H',ζ H H'->H' e=↑(.xd [("now",.int B.now)])->E (.ref (η mg "Later")) (↑e,true) H')->(B.known<=mo->mo<=B.now->∀p ys,H p=none->ω (jP H) ys (B.done.drop (mo-B.known).toNat)->Q (.ref p) (upd H p (.lst ys)))
def JZ:FD 3 "done_behind" "Book.done_behind" QM ["self","moment"] (lG mg):=by
 show ϖ (N:=["self","moment"]) (λf C D outer s H vs Q E j h=>?_);intro X _;let#[A,B,mo,rfl,l,#[F,G,I],n,o,q]:=h;let a:=T.ϔ;let g:=T.GQ;let m:=T.Ai;let u:=T.yZ;let c:=l.ins;let#[ds,v,x]:=l.done;w_up;cbv;show ϝ ?_;f_are;show#[A.b,_,_,_,_,rfl,c,a,g,rfl,?_];cbv;show Ζ (λh=>?_) (λh=>?_)
 .cbv;show(ie (abW T (cc:=true)) j (by decide) (λ_=>rfl) ς ?_);cbv;show ϝ ?_;f_are;show#[A.b,_,_,_,_,rfl,c,a,g,rfl,?_];cbv;show#[B.known,rfl,(),λe H' sm i=>n h e H' sm i]
 show χ ?_;w_up;cbv;show ϝ ?_;f_are;show#[A.b,_,_,_,_,rfl,c,a,m,rfl,?_];cbv;show Ζ (λh2=>?_) (λh2=>?_)
 .cbv;show(ie (ank T (cc:=true)) j (by decide) (λ_=>rfl) ς ?_);cbv;show ϝ ?_;f_are;show#[A.b,_,_,_,_,rfl,c,a,m,rfl,?_];cbv;show#[B.now,rfl,(),λe H' sm i=>o () e H' sm i]
 show χ ?_;symm;cbv;show ϝ ?_;f_are;show#[A.b,_,_,_,_,rfl,c,a,u,rfl,?_];cbv;show ϝ ?_;f_are;show#[A.b,_,_,_,_,rfl,c,a,g,rfl,?_];cbv;show bw (θ.of v) λp y=>?_
 let z:mo-B.known=((mo-B.known).toNat:Int):=()
 let e1:aq ds ↑(mo-B.known) none=ds.drop (mo-B.known).toNat:=by rw[z];show JP ds _
 rw[e1];show q () () p _ y (x.drop _)
inductive yE(mg:MG):Sp
 |mk (A:BA) (B:Bk) (mo:Int):vs=[.ref A.b,.int mo]->Τ (cB mg) H A B->iu B->(mo<=B.known->Q .non H)->(B.now<mo->∀e H',ζ H H'->H' e=↑(.xd [("now",.int B.now)])->E (.ref (η mg "Later")) (↑e,true) H')->(B.known<mo->mo<=B.now->∀d H',H d=none->Out [A.b] H H'->Τ (cB mg) H' {A with d:=d} {B with done:=B.done.drop (mo-B.known).toNat,known:=mo}->Q .non H')
def ajy:FD 4 "let_go" "Book.let_go" Vx ["self","moment"] (yE mg):=by
 show ϖ (N:=["self","moment"]) (λf Ϲ A' outer s H vs Q E D h=>?_);intro X _;let#[A,B,mo,rfl,c,F,G,I,q]:=h;let j:=T.ϔ;let n:=T.GQ;let J:=T.yZ;let u:=c.ins;let M1:Υ P w K mg base true 3 (cB mg) "done_behind" ["self","moment"] (lG mg):=(JZ T).meth T.ϔ T.Kz;f_len;show Δ ?_>>=ϝ ?_;f_are;show#[A.b,_,_,_,_,rfl,u,j,n,rfl,?_]>>=Ζ (λh=>?_) (λh=>?_)
 .w_up;show cZ ?_*>Ϛ (pl:=_) D ς (h:=?_);f_are;show#[A.b,cB mg,A.dx,_,true,3,_,lG mg,rfl,u,by rfl,M1,by decide,id,?_];cbv;show#[A,B,mo,rfl,c,F,λz=>absurd z (),I,λ_ L p ys g l=>?_];let#[i,ep,H,p,H1]:=Η g (.lst ys);let k1:=c.same i;let m:ω (jP H1) ys (B.done.drop (mo-B.known).toNat):=ω.imp (λv d h=>h.stay λb ys e=>i _ _ e) l;f_are;show#[A.b,_,_,_,rfl,k1.ins,j,J,by show 6<1000;decide,?_];let M:p≠A.b:=λe=>by have:=c.ins;rw[<-e,g]at this;cases this
  let y:Out [A.b] H _:=(Out.of i)<|>(Out.upd (H:=H1) (a:=A.b) (o:=.ins (cB mg) A.dx [("heads",.ref A.h),("rows",.ref A.r),("touched",.ref A.t),("done",.ref p),("known",.int B.known),("now",.int B.now)]) (by simp));let k2:Τ (cB mg) (upd H1 A.b (.ins (cB mg) A.dx [("heads",.ref A.h),("rows",.ref A.r),("touched",.ref A.t),("done",.ref p),("known",.int B.known),("now",.int B.now)])) {A with d:=p} {B with done:=B.done.drop (mo-B.known).toNat}:=by
   let kk:=(k1.CJ B.known B.now);let#[O,R,S,U,m5,m6,m7,m8,m9,W,Y,Z]:=k1.ne;let st:∀b ys,H1 b=↑(.tup ys)->(upd H1 A.b (.ins (cB mg) A.dx [("heads",.ref A.h),("rows",.ref A.r),("touched",.ref A.t),("done",.ref p),("known",.int B.known),("now",.int B.now)])) b=↑(.tup ys):=λb ys e=>by
    rw[ι (λz=>by rw[z,k1.ins]at e;cases e)];show e
   show#[ξ,by rw[ι (Ne.symm O)];show k1.own,k1.heads.stay (λxs e=>by rw[ι (Ne.symm R)];show e) st,?_,?_,#[ys,by rw[ι M];show ep,ω.imp (λv d h=>h.stay st) m],k1.rt,λe=>?_]
   .let#[Ϸ,e,h]:=k1.rows;show#[Ϸ,by rw[ι (Ne.symm S)];show e,dC h λv x h=>h.stay st]
   .let#[Ϸ,e,h]:=k1.touched;show#[Ϸ,by rw[ι (Ne.symm U)];show e,h]
   .let e':A.h=p:=e;let#[_,C,_]:=c.heads;rw[e',g]at C;cases C
  change Ι _ _ _ _ (upd H1 A.b (.ins (cB mg) A.dx [("heads",.ref A.h),("rows",.ref A.r),("touched",.ref A.t),("done",.ref p),("known",.int B.known),("now",.int B.now)]));generalize upd H1 A.b _=H2 at k2 y⊢;f_len;show cZ ?_;cbv;show#[A.b,_,_,_,rfl,k2.ins,j,n,by show 6<1000;decide,?_];let k3:=k2.CJ mo B.now;show q () L p _ g (y<|>(Out.upd (by simp))) k3
 .show χ (G ())
inductive rJ(mg:MG):Sp
 |mk (A:BA) (B:Bk) (mo:Int):vs=[.ref A.b,.int mo]->Τ (cB mg) H A B->iu B->↥B.rows<1000->↥B.done<10000->(mo<B.known->∀e H',ζ H H'->H' e=↑(.xd [("known",.int B.known)])->E (.ref (η mg "Gone")) (↑e,true) H')->(B.now<mo->∀e H',ζ H H'->H' e=↑(.xd [("now",.int B.now)])->E (.ref (η mg "Later")) (↑e,true) H')->(B.known<=mo->mo<=B.now->kZ B.rows (B.done.drop (mo-B.known).toNat)/\↥(iJ B.rows (B.done.drop (mo-B.known).toNat))<64/\
  ∀p ys ks H',ζ H H'->H p=none->ks.Perm ((iJ B.rows (B.done.drop (mo-B.known).toNat)).map (·.1))->ks.Pairwise (· <= ·)->H' p=↑(.lst ys)->ω (wX H H') ys (cP (iJ B.rows (B.done.drop (mo-B.known).toNat)) ks)->Q (.ref p) H')
def YQ:FD 4 "rows_at" "Book.rows_at" Fo ["self","moment"] (rJ mg):=by
 show ϖ (S:=Yr) (λf Ϲ A' outer s H vs Q E hr h=>?_);intro X _;let#[A,B,mo,rfl,L,hm,hrl,hdl,qg,ql,q]:=h;let nd:=Yr.nd;let hc:=T.ϔ;let a1:=T.rG;let n1:=T.akE;let n2:=T.Xu;let M1:Υ P w K mg base true 3 (cB mg) "done_behind" ["self","moment"] (lG mg):=(JZ T).meth T.ϔ T.Kz;let D1:=!Iu;let D2:=!yD;let#[Ϸ,er,hR]:=L.rows;w_up;cbv;show ϝ ?_;f_are;show#[A.b,_,_,_,_,rfl,L.ins,hc,a1,rfl,?_];cbv;show ait er λr g=>?_
 let#[c,M]:=Η g (.dK Ϸ);change Ι _ _ _ _ (upd H r (.dK Ϸ));generalize upd H r (.dK Ϸ)=H1 at c M⊢;let wu:=L.same c;let gw:ω (PR (TupAt H1)) Ϸ B.rows:=dC hR λv x h=>h.stay λb ys e=>c _ _ e
 w_up;show XR (by walk_at"po") (by rfl) (by rfl) n2 (by rfl) ?_*>Ϛ (pl:=_) hr ς (h:=?_);f_are;show#[A.b,cB mg,A.dx,_,true,3,_,lG mg,rfl,wu.ins,by rfl,M1,by decide,id,?_];cbv;show#[A,B,mo,rfl,wu,hm,λz e H' sm O=>qg z e H' (c<|>sm) O,λz e H' sm O=>ql z e H' (c<|>sm) O,λz1 z2 p ys R a=>?_];let#[hok,j,q]:=q z1 z2;let U:↥(B.done.drop (mo-B.known).toNat)<=↥B.done:=by rw[af0];omega
 generalize B.done.drop (mo-B.known).toNat=ds at a hok j q U;let W:=a.len;let#[m,ep,H1,p,H2]:=Η R (.lst ys);let Y:ω (jP H2) ys ds:=ω.imp (λv d h=>h.stay λb ys e=>m _ _ e) a;let VL:=m _ _ M;let rp:r≠p:=λe=>by rw[<-e,M]at R;cases R
 show#[p,ys,rfl,θ.of ep,λi σ H'=>(∃n,σ=[↑(.ref A.b),↑(.int mo),↑(.ref r),n])/\Out [r] H2 H'/\DictAt (TupAt H') H' r (iJ B.rows (ds.drop (↥ys-i))),#[#[none,rfl],Out.refl _ _,#[Ϸ,VL,?_]],λi σ H' hi y=>θ.of (y.2.1 _ _ (~~~Ne.symm rp) ep),λi x σ H' hi hx y=>?_,λσ H' y=>?_]
 .rw[apY,W,atA];show dC gw λv x h=>h.stay λb ys e=>m _ _ e
 .let#[#[n,rfl],o,I]:=y;let#[d,hd,t,w,u,rfl,ht,hw,hu]:=Y.get hx;let st:∀b ys,H2 b=↑(.tup ys)->H' b=↑(.tup ys):=λb ys e=>o _ _ (λz=>by rw[aa0.mp z,VL]at e;cases e) e
  let C:↥ys-(i+1)<↥ds:=()
  let D:ds.drop (↥ys-(i+1))=d::ds.drop (↥ys-i):=by
   rw[anw C];let e1:ds[↥ys-1-i]?=↑d:=hd;let e2:↥ys-1-i=↥ys-(i+1):=()
   rw[e2]at e1;rw[(aab.mp e1).2,show ↥ys-(i+1)+1=↥ys-i by omega]
  let F:kZ B.rows (d::ds.drop (↥ys-i)):=by rw[<-D];show hok.drop _
  let Iw:=Qt B.rows (ds.drop (↥ys-i));let arG:↥(ds.drop (↥ys-i))<=↥ds:=by rw[af0];omega
  let G:ψ K H' t [.int d.at_,.int d.row,w,u]:=ψ.of (st<*ht);show Γ nd ?_;f_len;cbv;show gH G (i:=1) rfl ?_;cbv;show gH G (i:=2) rfl ?_;cbv;show#[r,iJ B.rows (ds.drop (↥ys-i)),d.row,w,d.was,rfl,I,hw.stay st,F.2,(),λH3 n k3=>?_]*>#[#[_,rfl],o<|>n,?_];rw[D];show k3
 .let#[#[n,rfl],o,I]:=y;rw[arq,alN]at I;let J:ζ H H':=λb u e=>o _ _ (λz=>by rw[aa0.mp z,g]at e;cases e) (m<*(c _ _ e))
  f_len;cbv;show#[r,_,rfl,I,j,λp2 Z ks H3 ab ac ae af aW ag=>?_]*>q p2 Z ks H3 (J<|>ab) (J.free ac) ae af aW (ω.imp (λv x z=>by let#[t,l,e,h1,h2,h3,h4]:=z;show #[t,l,e,h1,h2,J.free h3,J.free h4]) ag)
inductive Af(mg:MG):Sp
 |mk (A:BA) (B:Bk) (mo:Int):vs=[.ref A.b,.int mo]->Τ (cB mg) H A B->iu B->↥B.done<10000->(mo<B.known->∀e H',ζ H H'->H' e=↑(.xd [("known",.int B.known)])->E (.ref (η mg "Gone")) (↑e,true) H')->(B.now<mo->∀e H',ζ H H'->H' e=↑(.xd [("now",.int B.now)])->E (.ref (η mg "Later")) (↑e,true) H')->(B.known<=mo->mo<=B.now->∀p ys H',ζ H H'->H p=none->H' p=↑(.lst ys)->ω (Pj H H') ys (B.done.drop (mo-B.known).toNat)->Q (.ref p) H')
def anZ:FD 4 "deeds" "Book.deeds" zG ["self","moment"] (Af mg):=by
 show ϖ (S:=Mt) (λf Ϲ A' outer s H vs Q E hr h=>?_);intro X _;let#[A,B,mo,rfl,kB,hm,hdl,qg,ql,q]:=h;let nd:=Mt.nd;let hsz:=ϯ;let J:(["made","row","was","now"]:List Str).Nodup:=by fin2
 let M1:Υ P w K mg base true 3 (cB mg) "done_behind" ["self","moment"] (lG mg):=(JZ T).meth T.ϔ T.Kz;let D1:=!CN;w_up;f_tup;show Ϛ (pl:=_) hr ς (h:=?_);f_are;show#[A.b,cB mg,A.dx,_,true,3,_,lG mg,rfl,kB.ins,by rfl,M1,by decide,id,?_];cbv;show#[A,B,mo,rfl,kB,hm,qg,ql,λo y p ys hp j=>?_];let q:=q o y;let ab:↥(B.done.drop (mo-B.known).toNat)<=↥B.done:=by rw[af0];omega
 generalize B.done.drop (mo-B.known).toNat=ds at j q ab;let D:=j.len;let#[L,ep]:=Η hp (.lst ys);change Ι _ _ _ _ (upd H p (.lst ys));generalize upd H p (.lst ys)=H1 at L ep⊢;symm;show lQ ["made","row","was","now"] (σ':=[none,none,none,none]) (bD (ρ zG)) ?_;f_are;show#[p,ys,rfl,θ.of ep,(),λτ=>∃o1 o2 o3 o4,τ=[o1,o2,o3,o4],λF i u H'=>∃d t w v,ds[i]?=↑d/\u=.ref t/\t≠F/\H' t=↑(.tup [.int d.at_,.int d.row,w,v])/\jf H H' w d.was/\jf H H' v d.is/\H t=none/\(∀l,w=.ref l->l≠F)/\∀l,v=.ref l->l≠F,#[none,none,none,none,rfl],λF i u H2 H3 ys y1 y2 y3=>?_,λfp F C s3 H0 i τ x H4 H3 aA hi ac Ρ ae hG=>?_,λL2 H2 zs af G ag n Θ =>?_]
 .let#[d,t,w,v,o,y,z3,z4,z5,z6,z7,z8,z9]:=y3;show#[d,t,w,v,o,y,z3,y2 _ _ z3 z4,z5.stay λl ys e h=>y2 _ _ (z8 l e) h,z6.stay λl ys e h=>y2 _ _ (z9 l e) h,z7,z8,z9]
 .let#[o1,o2,o3,o4,rfl]:=ac;let#[hx,rfl]:=hG;let#[d,hd,t0,w0,u0,rfl,ah,UJ,ai]:=j.get hx;let M:=L<|>Ρ;let qU:∀b ys,H b=↑(.tup ys)->H4 b=↑(.tup ys):=λb ys e=>M _ _ e
  let#[ys0,hE]:=ae;show aJ (ψ.of (qU<*ah)) (Κ (Γ J (Κ (Γ J (Κ (Γ J (Κ (Γ J (aF ?_)))))))));cbv;show#[w0,d.was,rfl,UJ.stay qU,λO H5 U a=>?_];cbv;show#[u0,d.is,rfl,ai.stay λb ys e=>U _ _ (qU<*e),λW Y j8 c=>?_];cbv;show#[Α,λt Z=>?_];let Ϡ:ζ Y (upd Y t (.tup [.int d.at_,.int d.row,O,W])):=ζ.upd Z;let DG:=U<|>j8;let fw:jf H Y O d.was:=by
   cases e:d.was with
   |none=>rw[e]at a;show a
   |some xs=>
    rw[e]at a;let#[l,e1,n,g]:=a;show#[l,e1,j8<*n,M.free g]
  let fu:jf H Y W d.is:=by
   cases e:d.is with
   |none=>rw[e]at c;show c
   |some xs=>
    rw[e]at c;let#[l,e1,n,g]:=c;show#[l,e1,n,(M<|>U).free g]
  show#[#[_,_,_,_,rfl],#[d,t,O,W,hd,rfl,λe=>?_,ξ,fw.stay λl ys _ h=>Ϡ _ _ h,fu.stay λl ys _ h=>Ϡ _ _ h,(M<|>DG).free Z,λl e=>?_,λl e=>?_],DG<|>Ϡ]
  .rw[e,DG<*hE]at Z;cases Z
  .cases g:d.was with
   |none=>rw[g]at a;let al:O=.non:=a;rw[al]at e;cases e
   |some xs=>
    rw[g]at a;let#[l',e1,n,I]:=a;rw[e1]at e;cases e;intro z;rw[z,hE]at I;cases I
  .cases g:d.is with
   |none=>rw[g]at c;let am:W=.non:=c;rw[am]at e;cases e
   |some xs=>
    rw[g]at c;let#[l',e1,n,I]:=c;rw[e1]at e;cases e;intro z;rw[z,U<*hE]at I;cases I
 .show q L2 zs H2 (L<|>Θ) (L.free af) n (pN (R:=λv d=>Pj H H2 v d) (l:=zs) (m:=ds) (by rw[G,D]) λi d hd=>?_);let hi:i<↥zs:=by rw[G,D];show(aab.mp hd).1
  let hy:zs[i]?=↑zs[i]:=aag hi;let#[d',t,w,v,o,y,z3,z4,z5,z6,z7,_]:=ag i _ hy;rw[hd]at o;cases o;show#[_,hy,t,w,v,y,z4,z5,z6,z7]
def Fi{k k':Nat}{C:δ}{x:Str}{ps:List Str}{sp sp':Sp}(F:Υ P w K mg base true k C x ps sp)(e:k<=k')(h:∀vs H Q E,sp' vs H Q E->sp vs H Q E):Υ P w K mg base true k' C x ps sp':=by
 let#[f,fd,h1,h2,c]:=F.ex;let c:=c.mono e;show#[F.cls,f,fd,h1,h2,#[λvs H Q E z=>c.len vs H Q E (h vs H Q E z),λA outer s H a us vs Q E g i j r z=>c.run A outer s H a us vs Q E g i j r (h vs H Q E z)]]
def ak6(xs:List V):mC->Bool
 |.all=>true
 |.none p=>decide ((xs[p]?).getD .non=.non)
 |.look l p v=> !decide ((xs[p]?).getD .non=.non)&&xY l ((xs[p]?).getD .non) v
def O9(xs:List V):mC->Prop
 |.all=>True
 |.none p=>p<↥xs
 |.look l p v=>∃x,xs[p]?=↑x/\(x=.non\/Dh l x v)
def aD(xs:List V):Tr->Bool
 |.one s=>ak6 xs s
 |.nt t=> !aD xs t
 |.bo t u=>aD xs t&&aD xs u
 |.ei t u=>aD xs t||aD xs u
def lH(xs:List V):Tr->Prop
 |.one s=>O9 xs s
 |.nt t=>lH xs t
 |.bo t u=>lH xs t/\lH xs u
 |.ei t u=>lH xs t/\lH xs u
def b8(mg:MG):Tr->δ
 |.one .all=>η mg "AllSieve"
 |.one (.none _)=>η mg "NoneSieve"
 |.one (.look l _ _)=>zV mg l
 |.nt _=>η mg "NotSieve"
 |.bo _ _=>η mg "BothSieve"
 |.ei _ _=>η mg "EitherSieve"
inductive cU(K:ϩ)(mg:MG)(t:Tr):Sp
 |mk (a b:δ) (z:Str) (xs:List V):vs=[.ref a,.ref b]->bA mg H t a z->θ K H b xs->lH xs t->Q (.bl (aD xs t)) H
theorem bA.ins{mg:MG}{H:Hp}:∀{t:Tr}{a:δ}{z:Str},bA mg H t a z->∃dx fs,H a=↑(.ins (b8 mg t) dx fs)/\fs.lookup ("lets":Str)=none
 |.one .all,a,z,h=>by let#[dx,h]:=h;show#[dx,_,h,rfl]
 |.one (.none p),a,z,h=>by let#[dx,h]:=h;show#[dx,_,h,rfl]
 |.one (.look l p v),a,z,h=>by let#[dx,h]:=h;show#[dx,_,h,rfl]
 |.nt t,a,z,h=>by let#[dx,b,y,h,_]:=h;show#[dx,_,h,rfl]
 |.bo t u,a,z,h=>by let#[dx,b,c,y,x,h,_]:=h;show#[dx,_,h,rfl]
 |.ei t u,a,z,h=>by let#[dx,b,c,y,x,h,_]:=h;show#[dx,_,h,rfl]
def amy(T:Txt K mg)(l:Lk)(p:Nat)(v:V):Υ P w K mg base true 3 (zV mg l) "lets" ["self","values"] (Jm K l (zV mg l)):=by
 cases l with
 |is=>show(Bu ((adb T.rA T.Uq).meth T.rA T.abL) T.Oj).meth T.rA T.af7
 |under=>show(Bu ((abB T T.pW T.Od).meth T.pW T.adh) T.Ou).meth T.pW T.ajM
 |over=>show(Bu ((ag1 T T.p7 T.XQ).meth T.p7 T.agD) T.Ly).meth T.p7 T.acP
 |holds=>show(Bu ((amg T.qH T.aam).meth T.qH T.alo) T.Yk).meth T.qH T.agL
def aiF{t:Tr}{lv:Nat}(M:Υ P w K mg base true lv (b8 mg t) "lets" ["self","values"] (cU K mg t)):FD (lv+1) "lets" "NotSieve.lets" Ww ["self","values"] (cU K mg (.nt t)):=by
 exists ["self","values"],_,f,#[a,b,z,xs,rfl,#[dx,c,y,g,e],i,j,q];let#[dc,n,l,m]:=e.ins;symm;lk;show Ϛ (pl:=_) f ς (h:=?_)*>ϝ ?_;f_are;show#[a,_,_,_,_,rfl,g,T.wW,T.Nx,rfl,?_]*>#[c,b8 mg t,dc,_,true,lv,_,cU K mg t,rfl,l,m,M,Ϭ _,id,?_]>>=#[c,b,y,xs,rfl,e,i,j,?_]>>=q
def amW{t u:Tr}{lv e f:Nat}(M1:Υ P w K mg base true e (b8 mg t) "lets" ["self","values"] (cU K mg t))(h1:e<=lv)(M2:Υ P w K mg base true f (b8 mg u) "lets" ["self","values"] (cU K mg u))(h2:f<=lv):FD (lv+1) "lets" "BothSieve.lets" YS ["self","values"] (cU K mg (.bo t u)):=by
 exists ["self","values"],_,g,#[a,b,z,xs,rfl,#[dx,c,d,y,x,i,j,hd],l,m,q];let#[dc,v,n,o]:=j.ins;let#[dd,fd,p,ld]:=hd.ins;symm;lk;show Ϛ (pl:=_) g ς (h:=?_)*>ϝ ?_;f_are;show#[a,_,_,_,_,rfl,i,T.qC,T.PL,rfl,?_]*>#[c,b8 mg t,dc,_,true,e,_,cU K mg t,rfl,n,o,M1,h1,id,?_]>>=#[c,b,y,xs,rfl,j,l,m.1,?_];let q:Q (.bl (aD xs t&&aD xs u)) H:=q;generalize aD xs t=s at q⊢;cases s with
 |true=>
  lk;show Ϛ (pl:=_) g ς (h:=?_)*>ϝ ?_;f_are;show#[a,_,_,_,_,rfl,i,T.qC,T.Yz,rfl,?_]*>#[d,b8 mg u,dd,_,true,f,_,cU K mg u,rfl,p,ld,M2,h2,id,?_]>>=#[d,b,x,xs,rfl,hd,l,m.2,?_]*>q
 |false=>
  lk;show q
def abb{t u:Tr}{lv e f:Nat}(M1:Υ P w K mg base true e (b8 mg t) "lets" ["self","values"] (cU K mg t))(h1:e<=lv)(M2:Υ P w K mg base true f (b8 mg u) "lets" ["self","values"] (cU K mg u))(h2:f<=lv):FD (lv+1) "lets" "EitherSieve.lets" Qn ["self","values"] (cU K mg (.ei t u)):=by
 exists ["self","values"],_,g,#[a,b,z,xs,rfl,#[dx,c,d,y,x,i,j,hd],l,m,q];let#[dc,v,n,o]:=j.ins;let#[dd,fd,p,ld]:=hd.ins;symm;lk;show Ϛ (pl:=_) g ς (h:=?_)*>ϝ ?_;f_are;show#[a,_,_,_,_,rfl,i,T.qL,T.Mw,rfl,?_]*>#[c,b8 mg t,dc,_,true,e,_,cU K mg t,rfl,n,o,M1,h1,id,?_]>>=#[c,b,y,xs,rfl,j,l,m.1,?_];let q:Q (.bl (aD xs t||aD xs u)) H:=q;generalize aD xs t=s at q⊢;cases s with
 |false=>
  lk;show Ϛ (pl:=_) g ς (h:=?_)*>ϝ ?_;f_are;show#[a,_,_,_,_,rfl,i,T.qL,T.QD,rfl,?_]*>#[d,b8 mg u,dd,_,true,f,_,cU K mg u,rfl,p,ld,M2,h2,id,?_]>>=#[d,b,x,xs,rfl,hd,l,m.2,?_]*>q
 |true=>
  lk;show q
theorem nA(T:Txt K mg):∀t:Tr,Υ P w K mg base true (3+t.dep) (b8 mg t) "lets" ["self","values"] (cU K mg t)
 |.one .all=>Fi (afU.meth T.Aa T.ano) (by decide) λvs H Q E h=>by
   let#[a,b,z,xs,rfl,_,_,_,q]:=h;show#[_,_,rfl,q]
 |.one (.none p)=>Fi (akA.meth T.uZ T.ad6) (by show 1<=3+0;decide) λvs H Q E h=>by
   let#[a,b,z,xs,rfl,#[dx,c],f,g,q]:=h;let j:p<↥xs:=g;let e:xs[p]?=↑xs[p]:=aag j;show#[a,_,dx,_,p,b,xs,xs[p],rfl,c,T.uZ,T.W6,rfl,f,e,?_];let q:Q (.bl (decide ((xs[p]?).getD .non=.non))) H:=q;rw[e]at q;show q
 |.one (.look l p v)=>Fi (amy T l p v) (by show 3<=3+0;decide) λvs H Q E h=>by
   let#[a,b,z,xs,rfl,#[dx,c],f,#[x,i,g],q]:=h;show#[a,dx,z,p,v,b,xs,x,rfl,c,f,i,g,?_];let q:Q (.bl (!decide ((xs[p]?).getD .non=.non)&&xY l ((xs[p]?).getD .non) v)) H:=q;rw[i]at q;show q
 |.nt t=>(aiF T (nA T t)).meth T.wW T.ahg
 |.bo t u=>(amW T (lv:=3+max t.dep u.dep) (nA T t) () (nA T u) ()).meth T.qC T.abd
 |.ei t u=>(abb T (lv:=3+max t.dep u.dep) (nA T t) () (nA T u) ()).meth T.qL T.amc
def wg(H H':Hp)(v:V)(r:Row):=∃t l,v=.ref t/\H' t=↑(.tup [.int r.1,.ref l])/\H l=↑(.lst r.2)
def wg.row{H H':Hp}{v:V}{r:Row}(h:wg H H' v r)(s:ζ H H'):sW H' v r:=by
 let#[t,l,e,e1,a]:=h;show#[t,l,e,e1,s<*a]
theorem cJ.len{cs:List Β}{r:Row}(h:cJ cs r):↥r.2=↥cs:=(ω.len h).symm
inductive QF(K:ϩ)(mg:MG)(t:Tr):Sp
 |mk (a p:δ) (z:Str) (rs:List Row):vs=[.ref a,.ref p]->bA mg H t a z->jN H p rs->↥rs<=1000->(∀r∈rs,lH r.2 t)->(∀q ws H',ζ H H'->H q=none->H' q=↑(.lst ws)->ω (wg H H') ws (rs.filter λr=>aD r.2 t)->Q (.ref q) H')
def afn(a:List Row)(f:Row->Bool):(jJ (λi=>f (a.getD i (0,[]))) ↥a).map (λi=>a.getD i (0,[]))=a.filter f:=by
 unfold jJ;let h:=map_getD (0,[]) a
 conv=>rhs;rw[<-h]
 rw[List.filter_map];rfl
theorem Ur{α β c:Type}{R:α->c->Prop}(g:β->c):∀{l:List α}{m:List β},ω (λa b=>R a (g b)) l m->ω R l (m.map g)
 |_,_,.nil=>.nil
 |_,_,.cons h t=>.cons h (Ur g t)
inductive Zj(K:ϩ)(mg:MG):Sp
 |mk (t:Tr):t.dep<=20->QF K mg t vs H Q E
def uf:Def 24 "let_through" ["sieve","rows"] (Zj K mg):=by
 exists ["sieve","rows"],uf,U,#[t,ht,a,p,z,f,rfl,G,#[ws,W,g],hl,Y,q],1;let o:=g.len;let I:(["row","values","sieve"]:List Str).Nodup:=by fin2
 symm;show aj6 ["row","values","sieve"] (σ':=[none,none,↑(.ref a)]) (by rfl) (by rfl) (bD (ρ Oh)) (by intro _;rfl) ?_>>=#[p,ws,rfl,θ.of W,(),λJ=>∃L M,J=[L,M,↑(.ref a)],λi=>aD (f.getD i (0,[])).2 t,λj i u H'=>u≠.ref j/\wg H H' u (f.getD i (0,[])),#[none,none,rfl],λj i v H2 H3 ys Z hk h=>?_,λfp j C s3 H0 i J x H2 O hx s sm c=>?_,λj H2 us O e2 R sm=>?_]
 .let#[h0,y,l,e,h1,h2]:=h;show#[h0,y,l,e,hk _ _ (λz=>by rw[z,Z]at h1;cases h1) h1,h2]
 .let#[L,M,rfl]:=s;let#[r,m,tr,S,rfl,B,n]:=g.get hx;let#[ys,c]:=c;let D:f.getD i (0,[])=r:=by rw[acu,m];rfl
  let#[da,fa,ea,la]:=(G.same sm).ins;show aJ (ψ.of (sm<*B)) (Κ (Γ I (Κ (Γ I (aF ?_)))))*>aat (λ_=>by rfl) ?_*>Ϛ (pl:=_) U (by walk_at"xo") (by rfl) (by rfl) (by rfl) ?_;f_are;show#[a,b8 mg t,da,_,true,3+t.dep,_,cU K mg t,rfl,ea,la,nA T t,(),id,?_]>>=#[a,S,z,r.2,rfl,G.same sm,θ.of (sm<*n),Y r (aan m),?_]*>#[_,rfl,(by show aD r.2 t=aD (f.getD i (0,[])).2 t;rw[D]),#[_,_,rfl],ζ.refl _,λ_=>?_]>>=#[Α,λy F=>?_]*>#[#[λz=>?_,y,S,rfl,by rw[D];show ξ,by rw[D];show n],ζ.upd F];injection z with z
  rw[z,c]at F;cases F
 .rw[o]at R;let JK:ω (wg H H2) us (f.filter λr=>aD r.2 t):=by
   rw[<-afn f λr=>aD r.2 t];show Ur _ (R.imp λu i z=>by
    show z.2)
  show q j us H2 sm O e2 JK
theorem afT{cs:List Β}{xs:List V}(h:ω (λ(c:Β) x=>bR c.2 x) cs xs):∀{sv:mC},Su cs sv->O9 xs sv
 |.all,_=>trivial
 |.none p,f=>by
   have:=h.len;show p<↥xs;let q:p<↥cs:=f;omega
 |.look l p v,f=>by
   let#[c,s,n,o,u]:=f;let#[x,B,g]:=h.get s;show#[x,B,?_];obtain e|⟨a,i,rfl,_⟩|⟨a,y,rfl,_⟩:=g
   .show .inl e
   .right;obtain e|⟨_,j,rfl,_⟩|⟨m,_⟩:=n
    .show absurd e o
    .cases l with
     |holds=>rw[u rfl]at a;show absurd a (by fin2)
     |is=>show#[rfl,rfl,.inr (.inr (.inl #[i,j,rfl,rfl]))]
     |under=>show#[rfl,rfl,.inr (.inr (.inl #[i,j,rfl,rfl]))]
     |over=>show#[rfl,rfl,.inr (.inr (.inl #[i,j,rfl,rfl]))]
    .show absurd a m
   .right;obtain e|⟨m,_⟩|⟨_,z,rfl,_⟩:=n
    .show absurd e o
    .show absurd m a
    .cases l with
     |holds=>show#[y,z,rfl,rfl]
     |is=>show#[rfl,rfl,.inr (.inr (.inr #[y,z,rfl,rfl]))]
     |under=>show#[rfl,rfl,.inr (.inr (.inr #[y,z,rfl,rfl]))]
     |over=>show#[rfl,rfl,.inr (.inr (.inr #[y,z,rfl,rfl]))]
theorem km{cs:List Β}{xs:List V}(h:ω (λ(c:Β) x=>bR c.2 x) cs xs):∀{t:Tr},je cs t->lH xs t
 |.one s,a=>afT h a
 |.nt t,a=>km h (t:=t) a
 |.bo t u,a=>#[km h a.1,km h a.2]
 |.ei t u,a=>#[km h a.1,km h a.2]
inductive W2(K:ϩ):Sp
 |mk (t:δ) (n:Int) (x:V):vs=[.ref t]->H t=↑(.tup [.int n,x])->Q (.int n) H
def CK:Def 1 "number_of" ["told"] (W2 K):=by
 exists ["told"],CK,c,#[t,n,x,rfl,a,q];symm;lk;show gH (ψ.of a) (show ύ [V.int n,x] 0=↑(V.int n)from rfl) ?_*>q
inductive Um(K:ϩ):Sp
 |mk (x:V):vs=[x]->(∀p H',ζ H H'->H p=none->H' p=↑(.tup (oG x))->Q (.ref p) H')
def Hl:Def 1 "rank_of" ["value"] (Um K):=by
 exists ["value"],Hl,c,#[x,rfl,q],1;symm;lk;show Ζ (λe=>?_) (λe=>?_)
 .lk;show#[Α,λp a=>?_];subst e;show q p _ (ζ.upd a) a ξ
 .lk;show#[Α,λp a=>?_];let ex:oG x=[x]:=by
   cases x with
   |non=>show absurd rfl e
   |_=>rfl
  show q p _ (ζ.upd a) a (by rw[ex];show ξ)
inductive Dd(K:ϩ):Sp
 |mk (p:δ) (i:Nat) (up:Bool) (ws:List V) (rs:List Row):vs=[.ref p,.int i,.bl up]->H p=↑(.lst ws)->ω (sW H) ws rs->↥rs<64->(∀r∈rs,i<↥r.2)->sI (tO rs i)->H (bz K "sorted_by")=↑(.tbl fL)->(∀q pl H',ζ H H'->H pl=none->gK ↥rs (mY (!up) λa b=>cY (tO rs i a) (tO rs i b)) q->H' pl=↑(.lst (dm ws q))->Q (.ref pl) H')
def Ff(O:cR K mg base "sorted_by"):Def 6 "sorted_by" ["rows","place","up"] (Dd K):=by
 show afh T.Ff O Wx (λ_ _ _ _ _ _ us R=>by let#[_,_,_,rfl]:=Pa R;rfl) (λvs H Q E h=>by let#[p,i,up,ws,rs,rfl,_]:=h;rfl) (λf A outer s H vs Q E S h=>?_);let#[p,i,up,ws,rs,rfl,hp,D,h64,F,M,hP,q]:=h;let nd:=Wx.nd;let n1:=T.Ci;let G:=D.len;let hsz:=ϯ;w_up;show adn (c:=iT K "sorted_by") (P:=bz K "sorted_by") (ps:=fL) (j:=3) (qual:="sorted_by.<locals>.rank") (clos:=[("place",⇑s+1)]) nd (by rfl) (by rfl) (by rfl) O.code O.bm (by rfl) hP (aic _ _) (by change (μ "sorted_by"++μ ".<locals>.")++μ "rank"=_;fin2) (by rfl) (by rfl) (by rfl) ?_;intro C c' oc doc pm ctv vs t' H1 m hfr U n Y hq;let#[u1,n]:=n;let hK:∀(X:Cx)(σ:_L.St),X=gR true P w K mg base V7 "sorted_by" (ρ Ca) f (.ref (iT K "sorted_by")) A outer s H E->σ=[↑(.ref p),↑(.int i),↑(.bl up),↑(.ref C)]->tW X σ (.ref C) ws H1 (Wl (tO rs i)):=by
  intro X σ eX Z;subst eX;subst Z;show#[λk v H2 H3 sm h=>?_,λk x u ϵ o H2 hx ru sm I=>?_]
  .let#[a,e,h]:=h;show#[a,e,sm<*h]
  .let#[r,B,t,l,rfl,ht,R]:=D.get hx;let hkl:=(aab.mp B).1;let J:=F r (aan B);let Ϣ:=m<|>sm;show af2 (j:=1) (v:=.ref t) (z:=.int i) (x:="told") (y:="place") I (sm<*U) (sm<*n) Y hq S.in1.in1.depth (λ_ _ _ _ _=>rfl) (by rfl) (by rfl) (by rfl) (by rfl) (by rfl) (by fin2) (λa ha=>?_) (by rfl) (by rfl) (by rfl) (by rfl) ru ?_
   .let h:=PySem.mem_of_lookup ha;change (a,NameKind.free)∈[(μ "told",NameKind.local),(μ "place",NameKind.free),(μ "rank_of",NameKind.globalImplicit)]at h;obtain e|h:=aaz.mp h
    .cases e
    .obtain e|h:=aaz.mp h
     .show congrArg Prod.fst e
     .cases aa0.mp h
   .let D1:= @Hl P w K mg base T;let hr':=((S.in1).in1).deeper (W.envX "sorted_by.<locals>.rank" (ρ (nW (ϕ Ca) 0)) ⇑o C (.ref c') [("place",⇑s+1)]);symm;lk;show gH (ψ.of (Ϣ<*ht)) (show ύ [V.int r.1,V.ref l] 1=↑(V.ref l)from rfl) ?_>>=Φ (θ.of (Ϣ<*R)) (ϛ (aag J)) ?_>>=#[_,rfl,λa H3 s3 ha h3=>?_]*>#[s3,a,rfl,?_];rw[h3];unfold tO;rw[acu,B];show _=↑(HO.tup (oG ((r.2[i]?).getD .non)));rw[aag J];rfl
 let hu:=S.in1.in1.units0;change Ι _ _ _ [↑(.ref p),↑(.int i),↑(.bl up),↑(.ref C)] H1;w_up;show Δ ?_;lk;cases up with
 |true=>
  walk_at"t";symm;show Nu n1 ?_>>=#[p,C,ws,_,_,rfl,rfl,θ.of (m<*hp),(),RM M,hK _ _ rfl rfl,Vu hu M,λpl H2 qq o g L=>?_];rw[G]at L;show q qq pl _ ((m<|>o)<|>(ζ.upd g)) ((m<|>o).free g) L ξ
 |false=>
  walk_at"t";show χ ?_;symm;show ad3 (b:=true) (by rfl) n1 (by rfl) ?_>>=#[rfl,p,C,ws,_,_,rfl,rfl,θ.of (m<*hp),(),RM M,hK _ _ rfl rfl,Vu hu M,λpl H2 qq o g L=>?_];rw[G]at L;show q qq pl _ ((m<|>o)<|>(ζ.upd g)) ((m<|>o).free g) L ξ
def fO(q:δ)(H H':Hp)(v:V)(r:Row):=∃t l,v=.ref t/\H t=none/\H l=none/\l≠q/\H' t=↑(.tup [.int r.1,.ref l])/\H' l=↑(.lst r.2)
def fO.row{q:δ}{H H':Hp}{v:V}{r:Row}(h:fO q H H' v r):sW H' v r:=by
 let#[t,l,e,_,_,_,h1,h2]:=h;show#[t,l,e,h1,h2]
def fO.same{q:δ}{H H' H2:Hp}{v:V}{r:Row}(h:fO q H H' v r)(s:ζ H' H2):fO q H H2 v r:=by
 let#[t,l,e,a,b,c,h1,h2]:=h;show#[t,l,e,a,b,c,s<*h1,s<*h2]
def fO.turn{q f:δ}{H H':Hp}{v:V}{r:Row}(h:fO q H H' v r)(g:H' f=none):fO f H H' v r:=by
 let#[t,l,e,a,b,c,h1,h2]:=h;show#[t,l,e,a,b,(λz=>by rw[z,g]at h2;cases h2),h1,h2]
inductive Ak(K:ϩ):Sp
 |mk (c b p:δ) (cs:List Β) (os:List Ord) (rs:List Row):vs=[.ref c,.ref b,.ref p]->aH H c cs->gm H b os->jN H p rs->↥cs<=6->↥os<=6->mU cs os->↥rs<64->(∀r∈rs,cJ cs r)->H (bz K "sorted_by")=↑(.tbl fL)->(∀q ws ls H',ζ H H'->H q=none->H' q=↑(.lst ws)->ω (fO q H H') ws ls->ls.Perm rs->Q (.ref q) H')
def yR(hN:cR K mg base "sorted_by"):Def 8 "line_of" ["columns","order","rows"] (Ak K):=by
 show Ε (S:=TV) T.yR (λf Ϲ A outer s H vs Q E a h=>?_);let#[c,b,p,cs,os,rs,rfl,hC,#[ov,hb,R],#[ws,hp,U],hc6,Em,af,h64,W,hP,q]:=h;let nd:=TV.nd;let n1:=T.Ci;let n2:=T.Xu;let n3:=T.qz;let hwl:=U.len;let hol:=R.len;let hsz:=ϯ;let aY:(["row","values"]:List Str).Nodup:=by fin2
 let D1:=!CK;let D2:=!pF;let D3:Def P w K mg base true 6 "sorted_by" ["rows","place","up"] (Dd K):=Ff T hN;w_up;f_tup;show Nu n1 ?_*>lQ ["row","values"] (σ':=[none,none]) (bD (ρ Bw)) ?_>>=#[p,ws,rfl,θ.of hp,(),λτ=>∃o1 o2,τ=[o1,o2],λE2 k u H'=>∃r,rs[k]?=↑r/\fO E2 H H' u r,#[none,none,rfl],λE2 k u H2 Y ys hE Z p=>?_,λfp E2 C s3 H0 k τ x H4 H5 aA hi ag Ρ I hG=>?_,λq0 H2 us hq0 m ah e2 s2=>?_]
 .let#[r,a,t,l,e,h1,h2,h3,h4,h5]:=p;show#[r,a,t,l,e,h1,h2,h3,Z _ _ (λz=>by rw[z,hE]at h4;cases h4) h4,Z _ _ h3 h5]
 .let#[o1,o2,rfl]:=ag;let#[aB,rfl]:=hG;let#[r,a,t,l,rfl,ht,hl]:=U.get aB;let#[ys,I]:=I;show aJ (ψ.of (Ρ<*ht)) (Κ (Γ aY (Κ (Γ aY (aF ?_)))))>>=rK (.inl (θ.of (Ρ<*hl))) λg m=>?_
  let#[D,e5]:=Η m (.lst r.2);let nl:g≠E2:=λe=>by rw[e,I]at m;cases m
  generalize upd H4 g (.lst r.2)=H5 at D e5⊢;lk;show#[Α,λt2 dB=>?_];let s6:ζ H5 (upd H5 t2 (.tup [.int r.1,.ref g])):=ζ.upd dB;show#[#[_,_,rfl],#[r,a,t2,g,rfl,(Ρ<|>D).free dB,Ρ.free m,nl,ξ,s6<*e5],D<|>s6]
 let J:ω (fO q0 H H2) us rs:=pN () λk r a=>by
  let Z:k<↥us:=by have:=(aab.mp a).1;omega
  let#[r',ab,hn]:=ah k _ (aag Z);rw[a]at ab;cases ab;show#[_,aag Z,hn]
 let sS:=J.len;let#[fa,ai,xu]:=aok (σ:=[↑(.ref c),↑(.ref b),↑(.ref p),none,none,none]) (X:=gR true P w K mg base Z4 "line_of" (ρ Bw) f Ϲ A outer s H E) (H:=H2) (xs:=us) (KV:=Y8 λi=>(rs.getD i (0,[])).1) D1 (a.mono (show 1+2<=7 by decide)) (λi v H H' _ h=>h) (λi x H' hx sm=>by
  let#[r,a,t,l,rfl,_,_,_,ht,hl]:=J.get hx;show#[t,r.1,.ref l,rfl,sm<*ht,ζ.refl _,?_];show V.int r.1=V.int (rs.getD i (0,[])).1;rw[acu,a];rfl)
 show akg ai (by rfl) (by decide) ?_*>#[q0,fa,us,_,_,rfl,rfl,θ.of e2,(),ahZ,xu,aiE,λp1 Y n s3 F O=>?_];rw[sS]at O;let j:ω (fO p1 H (upd Y p1 (.lst (dm us n)))) (dm us n) (qJ rs n):=(Es J λi hi=>by rw[sS];show GD O hi).imp λu r z=>((z.same s3).turn F).same (ζ.upd F)
 let y:=aaN O;let ϓ:ζ H (upd Y p1 (.lst (dm us n))):=(s2<|>s3)<|>(ζ.upd F);let al:H p1=none:=(s2<|>s3).free F;let f9:(upd Y p1 (.lst (dm us n))) p1=↑(.lst (dm us n)):=ξ;generalize upd Y p1 (.lst (dm us n))=H4 at j ϓ f9⊢;generalize dm us n=w1 at j f9;generalize qJ rs n=l1 at j y;w_up;show XR (by walk_at"po") (by rfl) (by rfl) n2 (by rfl) ?_>>=#[b,ov,rfl,θ.of (ϓ<*hb),λi σ H'=>(∃o4 o5 G L g,σ=[↑(.ref c),↑(.ref b),↑(.ref p),↑(.ref G),o4,o5]/\ζ H H'/\H G=none/\H' G=↑(.lst L)/\ω (fO G H H') L g/\g.Perm rs),?_,λi σ' H' _ B=>?_,λi x σ' H' hi hx B=>?_,λσ' H' B=>?_]
 .show#[none,none,p1,w1,l1,rfl,ϓ,al,f9,j,y]
 .let#[_,_,_,_,_,_,sm,_]:=B;show θ.of (sm<*hb)
 .let#[o4,o5,G,L,g,rfl,sm,ac,Jd,hA,fZ]:=B;let#[o,ho,t,rfl,ht]:=R.get hx;let M:=af o (aan ho);let hlt:=uc M;let m:↥g=↥rs:=fZ.length_eq;let zx:=hA.len;let T7:∀r∈g,cJ cs r:=λr a=>W r (fZ.mem_iff.mp a)
  show aJ (ψ.of (sm<*ht)) (Κ (Γ nd (Κ (Γ nd (aF ?_)))));f_len;f_tup;lk;show#[c,cs,o.1,rfl,hC.same sm,λH5 D=>?_];rw[vA 0 M,arW];lk;show#[G,bL cs o.1,o.2,L,g,rfl,D<*Jd,hA.imp λu r z=>(z.same D).row,(),λr a=>by have:=(T7 r a).len;omega,acA M T7,D<*(sm _ _ hP),λn pl H6 s6 ae O am=>?_];let j8:=(sm<|>D)<|>s6;let an:H pl=none:=(sm<|>D).free ae;show#[_,_,pl,dm L n,qJ g n,rfl,j8,an,am,(Es hA λi hi=>by rw[zx];show GD O hi).imp λu r z=>?_,(aaN O)<|>fZ]*>((z.same D).turn ae).same s6
 .let#[o4,o5,G,L,g,rfl,sm,ac,Jd,hA,fZ]:=B;symm;lk;show q G L g H' sm ac Jd hA fZ
def Bs:Def 2 "key_of" ["columns","order","row","values"] ZX:=by
 exists ["columns","order","row","values"],Bs,hr,#[a,b,n,c,cs,os,xs,rfl,U,#[ws,W,g],Y,rH,Z,hol,m,q];let F:(["name","up","columns","values"]:List Str).Nodup:=by fin2
 let hsz:=ϯ;let s:=g.len;let D1:=!pF;symm;show Uw ?_*>gQ (by rfl) ?_*>lQ ["name","up","columns","values"] (σ':=[none,none,↑(.ref a),↑(.ref c)]) (bD (ρ R9)) ?_;f_are;show#[b,ws,rfl,θ.of W,(),λG=>∃I J,G=[I,J,↑(.ref a),↑(.ref c)],λj i u H'=>∃o,os[i]?=↑o/\u=rM cs xs o.1,#[none,none,rfl],λj i u H2 H3 ys _ _ p=>p,λfp j C s3 H0 i G x v H3 L hi y f hys hG=>?_,λj v ys L z B e4 f =>?_]
 .let#[I,J,rfl]:=y;let#[aB,rfl]:=hG;let#[o,M,t,rfl,ht]:=g.get aB;show aJ (ψ.of (f<*ht)) (Κ (Γ F (Κ (Γ F (aF ?_)))));cbv;show#[a,cs,o.1,rfl,U.same f,λH5 O=>?_];let l:=m o (aan M);rw[vA 0 l,arW];let hlt:=uc l;let R:xs[bL cs o.1]?=↑xs[bL cs o.1]:=aag ();show Φ (θ.of (O<*(f _ _ Y))) (ϛ R) ?_*>#[#[_,_,rfl],#[o,M,by unfold rM;rw[R];rfl],O]
 .let ey:=jc (ys:=os) (λo=>rM cs xs o.1) (by rw[z,s]) B;cbv;show#[Α,λp D=>?_];let pn:H p=none:=by
   cases e:H p with
   |none=>rfl
   |some u=>rw[f<*e]at D;cases D
  let S:ζ v (upd v p (.tup [.ref j,.int n])):=ζ.upd D;show q p j _ (f<|>S) pn L ?_ ξ;rw[S<*e4,ey];rfl
theorem Xn{α:Type}:∀{m:List (Int×α)}{p:Int×α},(m.map (·.1)).Nodup->p∈m->ϑ m p.1=↑p.2
 |q::m,p,f,hp=>by
  let a:=alW.mp f;obtain rfl|hp:=aaz.mp hp
  .unfold ϑ;rw[al9,decide_eq_true rfl];rfl
  .let g:¬q.1=p.1:=λe=>a.1 (ad8.mpr #[p,hp,e.symm])
   let c:=Xn a.2 hp;unfold ϑ at c⊢;rw[al9,decide_eq_false g];show c
def Ks{rows:List (Int×List V)}{ks:List Int}(a:(rows.map (·.1)).Nodup)(h:ks.Perm (rows.map (·.1))):(cP rows ks).Perm rows:=by
 let h1:(cP rows ks).Perm (cP rows (rows.map (·.1))):=h.map _;let h2:cP rows (rows.map (·.1))=rows:=by
  unfold cP;rw[agf];have:rows.map ((λk=>(k,(ϑ rows k).getD []))∘λx=>x.1)=rows.map id:=asR λp c=>by
   show(p.1,(ϑ rows p.1).getD [])=p;rw[Xn a c];rfl
  rw[this,asf]
 rw[h2]at h1;show h1
def wN(xs:List V)(n:Int):PyData:=.tuple [.list (xs.map dV),.int n]
def nZ.lay{cs:List Β}{os:List Ord}{xs:List V}(h:nZ cs os xs):∀x∈xs,scalar x=true/\iW x=true/\∀z,x=.str z->dY 4000 z:=by
 let h':ω (λ(o:Ord) x=>bR (sX cs o.1) x) os xs:=h;clear h;induction h' with
 |nil=>intro x hx;cases hx
 |cons r t a=>
  intro x hx;obtain e|hx:=aaz.mp hx
  .subst e;show#[r.sc,r.iW]
  .show a x hx
def Z9{H:Hp}{p:δ}{xs:List V}{n:Int}(h:mq H p xs n)(hs:∀x∈xs,scalar x=true/\iW x=true/\∀z,x=.str z->dY 4000 z):RD K H (.ref p) (wN xs n):=by
 let#[l,h1,h2]:=h;show .tup (ψ.of h1) (.cons (.lst (θ.of h2) (xX (ach.mpr λx a=>(hs x a).2.1))) (.cons (.int _) .nil))
def OJ{xs:List V}{n:Int}(h:∀x∈xs,scalar x=true/\iW x=true/\∀z,x=.str z->dY 4000 z):(wN xs n).canLay0=true:=by
 show((PyData.list (xs.map dV)).canLay0&&(true&&true))=true;rw[Ge λx a=>(h x a).2];rfl
def amr(xs:List V)(n:Int):(wN xs n).depth<=4:=by
 have:=Ho xs;simp only[wN,PyData.depth,PyData.depthAll];omega
theorem _root_._V.ω.Ss{α β:Type}{R:α->β->Prop}:∀{l:List α}{m:List β},ω R l m->∀b∈m,∃a,a∈l/\R a b
 |_,_,.nil,b,c=>by simp at c
 |_,_,.cons (a:=a) r t,b,c=>by
  obtain e|e:=aaz.mp c
  .subst e;show#[a,by simp,r]
  .let#[f,h1,h2]:=t.Ss b e;show#[f,by simp[h1],h2]
def bR.word{g:Str}{v:V}(h:bR g v)(q:g="number"\/g="text"):ϟ g (wordOf v)=↑v/\↥(wordOf v)<=21/\32∉(wordOf v).cps.toList/\¬wordOf v=μ "*"/\(∀c∈(wordOf v).cps.toList,c<1114112):=by
 obtain rfl|⟨l,i,rfl,h1,h2⟩|⟨l,z,rfl,s,o⟩:=h
 .show#[?_,by fin2,by fin2,by fin2,by fin2];unfold ϟ;rw[if_pos (show wordOf .non=μ "?" from rfl)]
 .subst l;let m:=aaL i;show#[aeD h1 h2,?_,λh=>?_,λh=>?_,λc f=>?_]
  .have :=Gf (i:=i) (k:=19) ();show(μ (toString i)).length<=21;omega
  .have :=m 32 h;omega
  .let h':μ (toString i)=μ "*":=h;let e:("*":Str).cps.toList=[42]:=by fin2
   have:=m 42 (by rw[h',e];simp);omega
  .have :=m c f;omega
 .let n:g="text":=q.resolve_left l;subst n;let e1:↥("'":Str)=1:=by fin2
  let u:=len_app ("'":Str) z;let j:∀c∈SG,¬c=32/\c<1114112:=by fin2
  let a:∀c∈(μ "'"++z).cps.toList,c=39\/c∈SG:=λc f=>by
   rw[jY,zf]at f;obtain h|h:=acL.mp f
   .show .inl (~~~h)
   .show .inr (o c h)
  show#[acp s o,by show(μ "'"++z).length<=21;omega,λh=>?_,λh=>?_,λc f=>?_]
  .obtain e|e:=a 32 h
   .omega
   .show(j 32 e).1 rfl
  .let h':μ "'"++z=μ "*":=h;let e:("*":Str).cps.toList=[42]:=by fin2
   let p:(μ "'"++z).cps.toList[0]?=↑39:=by rw[jY,zf];rfl
   rw[h',e]at p;simp at p
  .obtain e|e:=a c f
   .omega
   .show(j c e).2
def Jr:Def 1 "value_word" ["value"] WW:=by
 exists ["value"],Jr,f,#[v,rfl,hs,a,c,q],g.zE,j.jM,l.Le,m.QW,1;w_up;cases v with
 |non=>
  cbv;show q
 |int i=>
  cbv;show lq (c i rfl) ?_*>q
 |str z=>
  let e:↥z<=4000:=a;let n:↥("'":Str)=1:=by fin2
  cbv;show tU () ?_*>q
 |_=>cases hs
abbrev ig:=Int×List V×Bool
def Hr(H:Hp)(v:V)(r:ig):=∃t l,v=.ref t/\H t=↑(.tup [.int r.1,.ref l,.bl r.2.2])/\H l=↑(.lst r.2.1)
structure bJ where
 rows:List ig
 back:V
 iU:V
 many:Int
 ahead:Int
 moment:Int
def aek(H:Hp)(q:δ)(a:List ig):=∃vs,H q=↑(.lst vs)/\ω (Hr H) vs a
def Fp(H:Hp)(p:δ)(L:bJ):=∃q,H p=↑(.tup [.ref q,L.back,L.iU,.int L.many,.int L.ahead,.int L.moment])/\aek H q L.rows
abbrev Χ(i:Int):Str:=μ (toString i)
def p8(r:ig):List Str:=Χ r.1::(r.2.1.map wordOf++(if r.2.2=true then[]else[μ "*"]))
def jy(r:ig):Str:=aep " " (p8 r)
def eO(L:bJ):Str:=Χ L.ahead++μ "+"++ Χ ((↥L.rows:Nat):Int)++μ " of "++ Χ L.many++μ " at "++ Χ L.moment
def markL(w:Str):V->List Str
 |.str z=>[w++z]
 |_=>[]
def eQ(L:bJ):List Str:=eO L::(L.rows.map jy++(markL ("back ":Str) L.back++markL ("forth ":Str) L.iU))
inductive Yw:Sp
 |mk (b:δ) (cs:List Β):vs=[.ref b]->aH H b cs->↥cs<=4000->(∀p H',ζ H H'->H p=none->H' p=↑(.lst ((cs.map Prod.snd).map V.str))->Q (.ref p) H')
def HY:Def 1 "kinds_of" ["columns"] Yw:=by
 exists ["columns"],HY,R,#[b,cs,rfl,#[vs,z,a],S,q];let m:(["name","kind"]:List Str).Nodup:=by fin2
 let hsz:=ϯ;let B:=a.len;symm;show lQ ["name","kind"] (σ':=[none,none]) (bD (ρ aas)) ?_;f_are;show#[b,vs,rfl,θ.of z,(),λn=>∃o s,n=[o,s],λe i u H'=>∃c,cs[i]?=↑c/\u=.str c.2,#[none,none,rfl],λe i u H2 D ys _ _ p=>p,λfp e C U W i n x v D y hi f g F G=>?_,λe v ys y j l I g =>?_]
 .let#[o,s,rfl]:=f;let#[J,rfl]:=G;let#[c,L,t,rfl,M]:=a.get J;show aJ (ψ.of (g<*M)) (Κ (Γ m (Κ (Γ m (aF ?_)))));cbv;show#[#[_,_,rfl],#[c,L,rfl],ζ.refl _]
 .let ey:=jc (ys:=cs) (λc=>V.str c.2) (by rw[j,B]) l;let O:ys=(cs.map Prod.snd).map V.str:=by rw[ey,agf];rfl
  subst O;show q e v g y I
def Y0(x:V):Prop:=scalar x=true/\short x/\∀i,x=.int i->i.natAbs<10^60
inductive Zo:Sp
 |mk (i:Int) (l:δ) (xs:List V):vs=[.int i,.ref l]->i.natAbs<10^60->H l=↑(.lst xs)->↥xs<=1000->(∀x∈xs,Y0 x)->(∀p H',ζ H H'->H p=none->H' p=↑(.lst ((μ (toString i)::xs.map wordOf).map V.str))->Q (.ref p) H')
def Iv:Def 2 "row_words" ["row","values"] Zo:=by
 exists ["row","values"],Iv,U,#[i,l,xs,rfl,hi,D,W,F,q],Y.jM;let G:(["value"]:List Str).Nodup:=by fin2
 let hsz:=ϯ;let Z:=!Jr;symm;cbv;show lq (cu hi) ?_;cbv;show#[Α,λb I=>?_];let#[a,s]:=Η I (.lst [.str (μ (toString i))]);change EV _ _ _ (upd H b (.lst [.str (μ (toString i))])) _;generalize upd H b (.lst [.str (μ (toString i))])=H1 at a s⊢;show lQ ["value"] (σ':=[none]) (bD (ρ Yl)) ?_;f_are;show#[l,xs,rfl,θ.of (a<*D),(),λv=>∃y,v=[y],λf i u H'=>∃x,xs[i]?=↑x/\u=.str (wordOf x),#[none,rfl],λf i u H2 J ys _ _ p=>p,λfp f C s3 H0 i v x L J M hi g c O R=>?_,λf L ys M m n S c =>?_]
 .let#[y,rfl]:=g;let#[z,rfl]:=R;let o:=F x (aan z);show Γ G ?_;cbv;show#[x,rfl,o.1,o.2.1,λj e=>cu (o.2.2 j e),?_]*>#[#[_,rfl],#[x,z,rfl],ζ.refl _]
 .let ey:=jc (ys:=xs) (λx=>V.str (wordOf x)) m n;subst ey;show ye (c<*s) S (by rw[ϭ];show 1+↥xs<=ϱ;omega) λp B=>?_
  show q p _ ((a<|>c)<|>(ζ.upd B)) ((a<|>c).free B) ?_;rw[ξ,acz,agf];rfl
def KY(ps:List Str)(n:Nat)(h:∀p∈ps,↥p<=n):(ps.map (·.length)).sum<=↥ps*n:=by
 induction ps with
 |nil=>simp
 |cons p ps a=>
  let h1:=a λx c=>h x (by simp[c])
  let h2:=h p (by simp);simp only[acz,asi,aap,atn];omega
def goodW(r:ig):Prop:=r.1.natAbs<10^18/\↥r.2.1<=6/\∀x∈r.2.1,Y0 x/\↥(wordOf x)<=21
inductive LQ:Sp
 |mk (l:δ) (r:ig):vs=[.int r.1,.ref l,.bl r.2.2]->H l=↑(.lst r.2.1)->goodW r->(∀H',ζ H H'->Q (.str (jy r)) H')
theorem iG{i:Int}(h:i.natAbs<10^18):↥(Χ i)<=19:=Gf (k:=18) h
def Ke:Def 3 "row_text" ["row","values","untouched"] LQ:=by
 exists Sx,Ke,I,#[l,#[i,xs,un],rfl,u,#[hi,C,n],q];simp only at u hi C n q;let nd:=Sx.nd;let J:=T.acJ;let hsz:=ϯ;let D:↥(" ":Str)=1:=by fin2
 let L:=!Iv;let G:=iG hi;let f:∀(ws:List Str)(p:δ)(H1:Hp),ζ H H1->H1 p=↑(.lst (ws.map V.str))->ws=p8 (i,xs,un)->Ι X ((ϕ KZ).drop 2) {nx:=λ_ H'=>Q .non H',rt:=Q} [↑(.int i),↑(.ref l),↑(.bl un),↑(.ref p)] H1:=by
  intro ws p H1 m g a;f_len;cbv;let v:↥ws<=8:=by
   rw[a];show(Χ i::(xs.map wordOf++_)).length<=8;rw[aap,aa6,ϭ];split
   .show ↥xs+0+1<=8;omega
   .show ↥xs+1+1<=8;omega
  let j:∀z∈ws,↥z<=21:=λz y=>by
   rw[a]at y;obtain e|e:=aaz.mp y
   .rw[e];show(Χ i).length<=21;omega
   .obtain e|e:=acL.mp e
    .let#[x,c,rfl]:=ad8.mp e;show(n x c).2
    .split at e
     .simp at e
     .have :z=μ "*":= ~~~e
      rw[this];fin2
  let B:=KY ws 21 j;show lM (θ.of g) (by rw[D];omega) ?_;rw[a];show q H1 m
 w_up;cbv;show#[i,l,xs,rfl,(),u,(),λx c=>(n x c).1,λp H1 m s g=>?_];w_up;cbv;show Cv (λh=>?_) (λh=>?_)
 .subst h;f_len;show Ϝ (au F.plainAttrs_list F.slot_list_append F.type_list_append (h:=?_));cbv;show#[.inl #[rfl,_,θ.of g],?_];cbv;show bZ lL #[p,_,_,rfl,rfl,g,by rw[ϭ,aap,ϭ];omega,?_]*>f (Χ i::xs.map wordOf++[μ "*"]) p _ (λb o e=>?_) ?_ rfl
  .rw[ι (Ξ e s)];show m<*e
  .rw[ξ,aeS];rfl
 .subst h;show χ ?_*>f (Χ i::xs.map wordOf) p H1 m g (by show _=Χ i::(xs.map wordOf++[]);rw[alV])
def T8(L:bJ):Prop:=(∀r∈L.rows,goodW r)/\↥L.rows<=100/\(L.back=.non\/∃z,L.back=.str z/\↥z<=4000)/\(L.iU=.non\/∃z,L.iU=.str z/\↥z<=4000)/\L.many.natAbs<10^18/\L.ahead.natAbs<10^18/\L.moment.natAbs<10^18
inductive aa2:Sp
 |mk (p:δ) (L:bJ):vs=[.ref p]->Fp H p L->T8 L->(∀q H',ζ H H'->H q=none->H' q=↑(.lst ((eQ L).map V.str))->Q (.ref q) H')
def KD:Def 4 "page_of" ["leaf"] aa2:=by
 exists aaQ,KD,hr,#[p,#[a,bk,g,f,c,mo],rfl,#[b,hp,vs,hb,m],#[v,B,lW,C,D,vg,G],q];simp only at hp m v B lW C D vg G;let nd:=aaQ.nd;let n1:=T.aN;let g1:=T.adu;let g2:=T.acM;let hsz:=ϯ;let D1:=!Ke;let I:=m.len;let Sb:θ K H b vs:=θ.of hb;w_up;show jo ?_;cbv;show aJ (ψ.of hp) (Κ (Γ nd (Κ (Γ nd (Κ (Γ nd (Κ (Γ nd (Κ (Γ nd (Κ (Γ nd (aF ?_)))))))))))));k_go;rw[I];let e1:↥("+":Str)=1:=by fin2
 let u:↥(" of ":Str)=4:=by fin2
 let e3:↥(" at ":Str)=4:=by fin2
 let l1:=iG vg;let l2:=iG (i:=((↥a:Nat):Int)) ();let l3:=iG D;let l4:=iG G;let a1:=len_app (Χ c) ("+":Str);let a2:=len_app (Χ c++μ "+") (Χ ((↥a:Nat):Int));let a3:=len_app (Χ c++μ "+"++ Χ ((↥a:Nat):Int)) (" of ":Str);let a4:=len_app (Χ c++μ "+"++ Χ ((↥a:Nat):Int)++μ " of ") (Χ f);let a5:=len_app (Χ c++μ "+"++ Χ ((↥a:Nat):Int)++μ " of "++ Χ f) (" at ":Str);let a6:=len_app (Χ c++μ "+"++ Χ ((↥a:Nat):Int)++μ " of "++ Χ f++μ " at ") (Χ mo);let e0:∀z:Str,akU++z=z:=λz=>iD (by rw[jY];rfl)
 w_up;f_tup;f_are;show gQ (by rfl) ?_;show aaO (lR ?_);show fY ?_;cbv;show#[cu (),_,rfl,by rw[e0];show(Χ c).length<=_;omega,?_];rw[e0];show lR (uB #[_,rfl,by show(Χ c++μ "+").length<=_;omega,?_]);show lR (fY ?_);cbv;show#[cu (),_,rfl,by show(Χ c++μ "+"++ Χ ((↥a:Nat):Int)).length<=_;omega,?_];show lR (uB #[_,rfl,by show(Χ c++μ "+"++ Χ ((↥a:Nat):Int)++μ " of ").length<=_;omega,?_]);show lR (fY ?_);cbv;show#[cu (),_,rfl,by show(Χ c++μ "+"++ Χ ((↥a:Nat):Int)++μ " of "++ Χ f).length<=_;omega,?_];show lR (uB #[_,rfl,by show(Χ c++μ "+"++ Χ ((↥a:Nat):Int)++μ " of "++ Χ f++μ " at ").length<=_;omega,?_]);show lR (fY ?_);cbv;show#[cu (),_,rfl,by show(Χ c++μ "+"++ Χ ((↥a:Nat):Int)++μ " of "++ Χ f++μ " at "++ Χ mo).length<=_;omega,?_];show aaw (by show(Χ c++μ "+"++ Χ ((↥a:Nat):Int)++μ " of "++ Χ f++μ " at "++ Χ mo).length<=_;omega) ?_;show dH #[Α,λy J=>?_];let Z :ζ H (upd H y (.lst [.str (eO #[a,bk,g,f,c,mo])])):=ζ.upd J;let ey:(upd H y (.lst [.str (eO #[a,bk,g,f,c,mo])])) y=↑(.lst ([eO #[a,bk,g,f,c,mo]].map V.str)):=ξ;change Ι _ _ _ _ (upd H y (.lst [.str (eO #[a,bk,g,f,c,mo])]));generalize upd H y (.lst [.str (eO #[a,bk,g,f,c,mo])])=H1 at Z ey⊢;w_up;show uw (by walk_at"po") (by rfl) (by intro _;rfl) ?_;cbv;show#[b,vs,rfl,Z.seq Sb,λi σ H'=>(∃L M O,σ=[↑(.ref p),↑(.ref b),↑bk,↑g,↑(.int f),↑(.int c),↑(.int mo),↑(.int (↥a:Nat)),↑(.ref y),L,M,O])/\ζ H H'/\H' y=↑(.lst ((eO #[a,bk,g,f,c,mo]::(a.take i).map jy).map V.str)),
  #[#[none,none,none,rfl],Z,ey],λi σ H' _ R=>R.2.1.seq Sb,λi x σ H' hx R=>?_,λσ H' R=>?_]
 .let#[#[L,M,O,rfl],sm,j]:=R;let#[r,U,t,l,rfl,ht,ab]:=m.get hx;let ac:=v r (aan U);let hil:=(aab.mp hx).1;show aJ (ψ.of (sm<*ht)) (Κ (Γ nd (Κ (Γ nd (Κ (Γ nd (aF ?_)))))));f_len;show Ϝ (au F.plainAttrs_list F.slot_list_append F.type_list_append (h:=?_));cbv;show#[.inl #[rfl,_,θ.of j],?_];cbv;show#[l,r,rfl,sm<*ab,ac,λH2 n =>?_];cbv;show bZ lL #[y,_,_,rfl,rfl,n<*j,by rw[ϭ,aap,ϭ,ah0];omega,?_]*>#[#[_,_,_,rfl],λd o e=>?_,?_]
  .rw[ι (Ξ e J)];show n<*(sm<*e)
  .rw[ξ,List.take_succ,U,aeS,acz,acz,aeS];rfl
 .let#[#[L,M,O,rfl],sm,j]:=R;rw[I,ajX]at j;let hrl:↥((eO #[a,bk,g,f,c,mo]::a.map jy).map V.str)=↥a+1:=by rw[ϭ,aap,ϭ]
  let ret:∀(H2:Hp),ζ H H2->H2 y=↑(.lst ((eQ #[a,bk,g,f,c,mo]).map V.str))->Ι X ((ϕ xP).drop 6) {nx:=λ_ H'=>Q .non H',rt:=Q} [↑(.ref p),↑(.ref b),↑bk,↑g,↑(.int f),↑(.int c),↑(.int mo),↑(.int (↥a:Nat)),↑(.ref y),L,M,O] H2:=by
   intro H2 n u;f_len;cbv;show q y H2 n J u
  let W:∀(ws:List Str)(H2:Hp),↥ws<=110->ζ H H2->H2 y=↑(.lst (ws.map V.str))->ws++markL ("forth ":Str) g=eQ #[a,bk,g,f,c,mo]->Ι X ((ϕ xP).drop 5) {nx:=λ_ H'=>Q .non H',rt:=Q} [↑(.ref p),↑(.ref b),↑bk,↑g,↑(.int f),↑(.int c),↑(.int mo),↑(.int (↥a:Nat)),↑(.ref y),L,M,O] H2:=by
   intro ws H2 hwl n u Y;let hwm:↥(ws.map V.str)=↥ws:=ϭ ..;w_up;obtain rfl|⟨z,rfl,hz⟩:=C
   .f_tup;lk;show χ (ret H2 n ?_);let ae:ws=eQ #[a,bk,.non,f,c,mo]:=by rw[<-Y];show(alV ws).symm
    rw[<-ae];show u
   .let lf:↥("forth ":Str)=6:=by fin2
    f_tup;lk;f_len;show Ϝ (au F.plainAttrs_list F.slot_list_append F.type_list_append (h:=?_));cbv;show#[.inl #[rfl,_,θ.of u],?_];cbv;show tU () ?_;cbv;show bZ lL #[y,_,_,rfl,rfl,u,(),?_]*>ret _ (λd o e=>?_) ?_
    .rw[ι (Ξ e J)];show n<*e
    .rw[ξ, <-Y,aeS];rfl
  w_up;obtain rfl|⟨z,rfl,hz⟩:=lW
  .f_tup;lk;show χ ?_*>W (eO #[a,.non,g,f,c,mo]::a.map jy) H' (by rw[aap,ϭ];omega) sm j rfl
  .let lf:↥("back ":Str)=5:=by fin2
   f_tup;lk;f_len;show Ϝ (au F.plainAttrs_list F.slot_list_append F.type_list_append (h:=?_));cbv;show#[.inl #[rfl,_,θ.of j],?_];cbv;show tU () ?_;cbv;show bZ lL #[y,_,_,rfl,rfl,j,(),?_]*>W (eO #[a,.str z,g,f,c,mo]::a.map jy++[μ "back "++z]) _ (by rw[aa6,aap,ϭ,ahi];omega) (λd o e=>?_) ?_ ?_
   .rw[ι (Ξ e J)];show sm<*e
   .rw[ξ,aeS];rfl
   .show _=eO _::(a.map jy++([μ "back "++z]++_));rw[asp,asp,aqO]
def Gs:Def 1 "check_of" ["text"] Xp:=by
 exists X7,Gs,m,#[z,rfl,n,g,q],s.al0,u.ajZ,v.ac8,2;w_up;cbv;show wO (by walk_at"po") (by rfl) (by intro _;rfl) ?_;f_are;show#[z,rfl,λi σ H'=>H'=H/\∃t p o,σ=[↑(.str z),↑(.int t),↑(.int p),o]/\0<=t/\t<9973/\0<=p/\p<9973/\(t+p*cH (z.cps.toList.drop i)) % 9973=cH z.cps.toList,#[rfl,0,1,none,rfl,by decide,by decide,by decide,by decide,?_],λi c σ H' hi a=>?_,λσ H' a=>?_]
 .have :=Jx z.cps.toList;rw[alN,atm,Int.one_mul];show atj this.1 this.2
 .let#[rfl,t,p,o,rfl,t0,f,p0,p1,e]:=a;let j:=g c (aan hi);let hd:z.cps.toList.drop i=c::z.cps.toList.drop (i+1):=by
   let#[h1,h2]:=aab.mp hi;rw[anw h1,h2]
  rw[hd]at e;show Γ nd ?_;w_up;cbv;show#[rfl,_,_,_,rfl,aql _ (by decide),aoz _ (by decide),aql _ (by decide),aoz _ (by decide),anR e]
 .let#[rfl,t,p,o,rfl,t0,f,p0,p1,e]:=a;rw[atA]at e;let l:t=cH z.cps.toList:=by
   rw[<-e];show t=(t+p*0) % 9973;rw[Int.mul_zero,Int.add_zero,atj t0 f]
  cbv;rw[l];show q
def Dl:Def 2 "check_word" ["text"] V4:=by
 exists ["text"],Dl,e,#[z,rfl,a,c,q],f.agj,g.jM,i Gs;symm;show au F.plainAttrs_str F.slot_str_zfill F.type_str_zfill (h:=?_);cbv;show#[z,rfl,a,c,?_];let j:=Jx z.cps.toList;cbv;show lq (cu ?_) ?_
 .have :(cH z.cps.toList).natAbs<9973:=()
  show abr this (by fin2)
 .cbv;show abn (by decide) (by decide) ?_*>q
def bx(mg:MG)(H:Hp)(E:XK)(c:Str):=∀H',ζ H H'->E (.ref (η mg c)) (none,true) H'
theorem bx.same{H H':Hp}{E:XK}{c:Str}(h:bx mg H E c)(s:ζ H H'):bx mg H' E c:=λH2 a=>h H2 (s<|>a)
def sizeOk(n:Int):Prop:=1<=n/\n<=100
inductive Pb(mg:MG):Sp
 |mk (n:Int):vs=[.int n]->n.natAbs<10^60->(sizeOk n->Q .non H)->(¬sizeOk n->bx mg H E "NoSize")
def vW:Def 2 "ask_size" ["size"] (Pb mg):=by
 exists ["size"],vW,g,#[n,rfl,a,q,e],i.agr,1,j wB;let c:¬sizeOk n->∀D,Ι X (yO (nW (ϕ PB) 0)) D [↑(.int n)] H:=by
  intro f D;f_len;show aM ς T.adm ?_;cbv;show fY ?_;cbv;show#[_V.cu (by decide),_,70,rfl,_V.mL (by decide),(),?_];cbv;show fY ?_;cbv;show#[_V.cu a,_,70,rfl,_V.mL a,(),?_];cbv;intro l;cbv;show#[by rw[hsz];simp,e f H (ζ.refl _)]
 f_len;show Δ ?_>>=#[_,rfl,rfl,?_];rw[show lJ (V.int n)=true from rfl];lk;show Ζ (λh1=>?_) (λh1=>?_)
 .lk;show cC (λh2=>?_) (λh2=>?_)
  .show c (λz=>absurd z.2 ()) _
  .show χ (q #[h1,()])
 .lk;show c (λz=>absurd z.1 h1) _
def du(b:Bool):Str:=if b=true then μ "living" else μ "still"
def uO(a:Bool):Str:=if a=true then μ "start" else μ "end"
def tE(H:Hp)(v:V)(a:Bool):=∃t,v=.ref t/\H t=↑(.tup [.str (uO a)])
def tE.same{H H':Hp}{v:V}{on:Bool}(h:tE H v on)(s:ζ H H'):tE H' v on:=by
 let#[t,e,h]:=h;show#[t,e,s<*h]
inductive RG(K:ϩ):Sp
 |mk (a b p:δ) (v:V) (on:Bool) (ws:List V):vs=[.ref a,.ref b,.ref p,v]->θ K H p ws->tE H v on->Q (.int ((if on=true then 0 else ↥ws:Nat):Int)) H
def xQ:Def 1 "cut_place" ["columns","order","line","cut"] (RG K):=by
 exists ["columns","order","line","cut","low","high","middle","row","values"],xQ,f,#[a,b,p,v,c,ws,rfl,g,#[t,rfl,e],q],i.Rw,j.Zw,l.aN;w_up;show Δ ?_>>=gH (ψ.of e) (show ύ [V.str (uO c)] 0=↑(V.str (uO c))from rfl) ?_;lk;cases c with
 |true=>
  show iy ?_;symm;lk;show q
 |false=>
  show Ζ (λh=>absurd h (by fin2)) (λ_=>χ ?_);w_up;show Δ ?_>>=gH (ψ.of e) (show ύ [V.str (uO false)] 0=↑(V.str (uO false))from rfl) ?_>>=iy ?_;symm;lk;show q
def Ed(q:δ)(H H':Hp)(v:V)(r:Row):=∃t l,v=.ref t/\l≠q/\H' t=↑(.tup [.int r.1,.ref l])/\H' l=↑(.lst r.2)
def Tq(H:Hp)(Q:VK)(a:List Row):=∀(t q:δ)(us:List V) H',ζ H H'->H' t=↑(.tup [.ref q,.non,.non,.int 0])->H' q=↑(.lst us)->ω (Ed q H H') us a->Q (.ref t) H'
inductive YK(K:ϩ):Sp
 |mk (a b p:δ) (v:V) (rs:List Row):vs=[.ref a,.ref b,.ref p,v,.int 0,.int (↥rs:Nat)]->jN H p rs->↥rs<=1->Tq H Q rs
def yw:Def 4 "leaf_between" ["columns","order","line","cut","start","stop"] (YK K):=by
 exists Ph,yw,f,#[a,b,p,v,O,rfl,#[ws,R,j],hr1,q],2,n1.qz,n2.aN,1;let U:(["row","values"]:List Str).Nodup:=by fin2
 let D:=j.len;w_up;show oU ["row","values"] (σ':=[none,none]) (bD (ρ DW)) nd ?_>>=bw (θ.of R) λp1 F=>?_
 let ec:aq ws ↑0 ↑((↥O:Nat):Int)=ws:=by
  unfold aq;rw[show↑(0:Int)=↑((0:Nat):Int)from rfl,_H.gA,_H.gA, <-D,at7,Nat.zero_min,alN,apY,ajX]
 rw[ec];let#[s,e1,H,p1,H1]:=Η F (.lst ws);show#[p1,_,rfl,θ.of e1,(),λW=>∃Y Z,W=[Y,Z],λE2 k u H'=>∃r,O[k]?=↑r/\Ed E2 H H' u r,#[none,none,rfl],λE2 k u H2 H3 ys hE m p=>?_,λfp E2 C s3 H0 k W x H4 G aA hi I Ρ g hG=>?_,λq0 H2 us hq0 c J e2 Θ =>?_]
 .let#[r,f,t,l,e,y,n,L]:=p;show#[r,f,t,l,e,y,m _ _ (λz=>by rw[z,hE]at n;cases n) n,m _ _ y L]
 .let#[Y,Z,rfl]:=I;let#[aB,rfl]:=hG;let#[r,f,t,l,rfl,M,hl]:=j.get aB;let Us:=s<|>Ρ;let#[ys,g]:=g;show aJ (ψ.of (Us<*M)) (Κ (Γ U (Κ (Γ U (aF ?_)))))>>=rK (.inl (θ.of (Us<*hl))) λB c=>?_
  let#[i,e5]:=Η c (.lst r.2);let nl:B≠E2:=λe=>by rw[e,g]at c;cases c
  generalize upd H4 B (.lst r.2)=G at i e5⊢;lk;show#[Α,λt2 dB=>?_];let s6:ζ G (upd G t2 (.tup [.int r.1,.ref B])):=ζ.upd dB;show#[#[_,_,rfl],#[r,f,t2,B,rfl,nl,ξ,s6<*e5],i<|>s6]
 let Jz:θ K H2 p ws:=(s<|>Θ).seq (θ.of R);k_go;w_up;show Δ ?_>>=χ ?_;k_go;w_up;show Δ ?_>>=Ζ (λh=>absurd h ()) (λ_=>χ ?_);symm;lk;show #[Α,λt M=>?_];let i:ζ H2 (upd H2 t (.tup [.ref q0,.non,.non,.int 0])):=ζ.upd M;show q t q0 us _ ((s<|>Θ)<|>i) ξ (i<*e2) (pN () λk r f=>?_);let m:k<↥us:=by have:=(aab.mp f).1;omega
 let#[r',o,t,l,e,y,n,L]:=J k _ (aag m);rw[f]at o;cases o;show#[_,aag m,t,l,e,y,i<*n,i<*L]
inductive Dq(K:ϩ)(mg:MG)(on:Bool):Sp
 |mk (a b p:δ) (v:V) (rs:List Row) (n:Int):vs=[.ref a,.ref b,.ref p,v,.int n]->jN H p rs->tE H v on->↥rs<=1->n.natAbs<10^60->(¬sizeOk n->bx mg H E "NoSize")->(sizeOk n->Tq H Q rs)
def KH:Def 5 "leaf_forth" ["columns","order","line","cut","size"] (Dq K mg true):=by
 exists Rt,KH,x,#[a,b,p,v,f,n,rfl,g,j,c,l,m,q],2,y.aN,z.WX,B vW,C xQ,D yw;let#[ws,o,e]:=id g;let s:θ K H p ws:=θ.of o;let u:=e.len;w_up;show Ϝ ?_>>=#[n,rfl,l,λi=>?_,m];let#[F,G]:=id i;k_go;show#[a,b,p,v,true,ws,rfl,s,j,?_];symm;lk;show Rc (by rfl) ?_;let em:(if((↥ws:Nat):Int)<((0:Nat):Int)+n then((↥ws:Nat):Int)else((0:Nat):Int)+n)=((↥f:Nat):Int):=by
  split <;>omega
 rw[if_pos (show true=true from rfl),em];lk;show#[a,b,p,v,f,rfl,g,c,q i]
def Jp:Def 5 "leaf_back" ["columns","order","line","cut","size"] (Dq K mg false):=by
 exists MK,Jp,u,#[a,b,p,v,e,n,rfl,i,l,f,m,o,q],2,x.adf,y vW,z xQ,B yw;let#[ws,s,g]:=id i;let c:=g.len;w_up;show Ϝ ?_>>=#[n,rfl,m,λj=>?_,o];let#[C,D]:=id j;k_go;show#[a,b,p,v,false,ws,rfl,θ.of s,l,?_];symm;lk;show afI (by rfl) ?_;rw[if_neg (show ¬(false=true)by decide),c];let em:(if(0:Int)>((↥e:Nat):Int)-n then(0:Int)else((↥e:Nat):Int)-n)=0:=by
  split <;>omega
 rw[em];lk;show#[a,b,p,v,e,by rw[if_neg (show ¬(false=true)by decide),c],i,f,q j]
inductive Xz:Sp
 |mk (v:V):vs=[v,.non]->Q .non H
def Jj:Def 1 "mark_at" ["mark","cut"] Xz:=by
 exists ["mark","cut"],Jj,a,#[v,rfl,q];symm;lk;show q
abbrev iB(B:Bk)(mo:Int):List Row:=iJ B.rows (B.done.drop (mo-B.known).toNat)
abbrev vd(B:Bk)(mo:Int):List gf:=B.done.drop (mo-B.known).toNat
def dW(lv:Bool)(B:Bk)(mo:Int):List Row:=if lv=true then B.rows else iB B mo
structure dq(mg:MG)(H:Hp)(A:BA)(B:Bk):Prop where
 bk:Τ (cB mg) H A B
 ok:aL B.heads=true
 mm:iu B
 dn:↥B.done=(B.now-B.known).toNat
 r1:↥B.rows<=1
 d1:↥B.done<10000
 wf:xK B
 nd:(B.rows.map Prod.fst).Nodup
 fit:∀r∈B.rows,cJ B.heads r/\0<=r.1/\r.1<=1000000000
 n5:B.now<=5000
 hs:∀mo,B.known<=mo->mo<=B.now->kZ B.rows (vd B mo)/\↥(iB B mo)<=1/\((iB B mo).map Prod.fst).Nodup/\∀r∈iB B mo,cJ B.heads r/\0<=r.1/\r.1<=1000000000
theorem dq.same{H H':Hp}{A:BA}{B:Bk}(h:dq mg H A B)(s:ζ H H'):dq mg H' A B:={h with bk:=h.bk.same s}
def dq.at_{H:Hp}{A:BA}{B:Bk}(h:dq mg H A B){lv:Bool}{mo:Int}(a:lv=false->B.known<=mo)(c:mo<=B.now):↥(dW lv B mo)<=1/\((dW lv B mo).map Prod.fst).Nodup/\∀r∈dW lv B mo,cJ B.heads r/\0<=r.1/\r.1<=1000000000:=by
 cases lv with
 |true=>show#[h.r1,h.nd,h.fit]
 |false=>show(h.hs mo (a rfl) c).2
def Gn(mg:MG)(B:Bk)(H:Hp)(E:XK):=∀e H',ζ H H'->H' e=↑(.xd [("known",.int B.known)])->E (.ref (η mg "Gone")) (↑e,true) H'
theorem Gn.same{B:Bk}{H H':Hp}{E:XK}(h:Gn mg B H E)(s:ζ H H'):Gn mg B H' E:=λe H2 a c=>h e H2 (s<|>a) c
inductive Wi(mg:MG)(t:Tr):Sp
 |mk (A:BA) (B:Bk) (lv:Bool) (mo:Int) (a:δ) (z:Str):vs=[.ref A.b,.str (du lv),.int mo,.ref a]->dq mg H A B->mo<=B.now->bA mg H t a z->je B.heads t->(lv=false->mo<B.known->Gn mg B H E)->((lv=false->B.known<=mo)->∀q ws rs H',ζ H H'->H q=none->H' q=↑(.lst ws)->ω (sW H') ws rs->rs.Perm ((dW lv B mo).filter λr=>aD r.2 t)->Q (.ref q) H')
inductive W5(mg:MG):Sp
 |mk (t:Tr):t.dep<=20->Wi mg t vs H Q E
def Et:Def 25 "rows_of_list" ["book","make","begin","sieve"] (W5 mg):=by
 show Ε (S:=Vj) T.Et (λf Ϲ A' outer s H vs Q E m h=>?_);intro X _;let#[t,I,A,B,lv,mo,a,z,rfl,c,n,J,o,L,q]:=h;let nd:=Vj.nd;let g1:=T.Br;let M1:Υ P w K mg base true 4 (cB mg) "rows_at" ["self","moment"] (rJ mg):=(YQ T).meth T.ϔ T.U5;let M2:Υ P w K mg base true 2 (cB mg) "now_rows" ["self"] (rN mg):=(W3 T).meth T.ϔ T.YH;let D1:=!uf;let r1:=c.r1;let d1:=c.d1
 let rest:(lv=false->B.known<=mo)->∀p1 ys ks H1,ζ H H1->H p1=none->ks.Perm ((dW lv B mo).map (·.1))->ks.Pairwise (· <= ·)->H1 p1=↑(.lst ys)->ω (wX H H1) ys (cP (dW lv B mo) ks)->
   Ι X ((ϕ JT).drop 1) {nx:=λ_ H'=>Q .non H',rt:=Q} [↑(.ref A.b),↑(.str (du lv)),↑(.int mo),↑(.ref a),↑(.ref p1)] H1:=by
  intro D p1 ys ks H1 p M v O R x;let#[U,y,i]:=c.at_ D n;let g:=Ks (rows:=dW lv B mo) y v;let F:jN H1 p1 (cP (dW lv B mo) ks):=#[ys,R,x.imp λu r z=>by
   let#[t,l,e,h1,h2,_]:=z;show#[t,l,e,h1,h2]]
  generalize cP (dW lv B mo) ks=W at g F;let Y:=g.length_eq;symm;lk;show #[t,I,a,p1,z,W,rfl,J.same p,F,(),λr m=>km (i r (g.mem_iff.mp m)).1 o,λp2 Z H2 G C j JK=>?_]*>q D p2 Z _ H2 (p<|>G) (p.free C) j (JK.imp λu r z=>z.row G) (g.filter _)
 w_up;f_tup;cases lv with
 |true=>
  lk;show iy ?_*>bV (pl:=_) m ς ?_;f_are;show#[A.b,cB mg,A.dx,_,true,2,_,rN mg,rfl,c.bk.ins,by rfl,M2,(),id,A,B,rfl,c.bk,(),rest (λh=>by cases h)]
 |false=>
  lk;show Ζ (λh=>?_) (λ_=>?_)
  .injection h with h
   show absurd h (by fin2)
  show Ϛ (pl:=_) m ς (h:=?_);f_are;show#[A.b,cB mg,A.dx,_,true,4,_,rJ mg,rfl,c.bk.ins,by rfl,M1,(),id,?_]>>=#[A,B,mo,rfl,c.bk,c.mm,(),c.d1,λh e H' sm he=>L rfl h e H' sm he,λh=>absurd h (),λh1 h2=>?_];let#[u1,u2,_]:=c.hs mo h1 h2;show#[u1,agE u2 (by decide),rest λ_=>h1]
inductive Wb(mg:MG):Sp
 |mk (A:BA) (B:Bk) (lv:Bool) (mo:Int) (r:Row):vs=[.ref A.b,.str (du lv),.int mo,.int r.1]->dq mg H A B->(lv=true->r∈B.rows)->(∀b,(lv=true->∀i,ϑ B.touched r.1=↑i->b=decide (i<=mo))->Q (.bl b) H)
def Hw:Def 5 "is_untouched" ["book","make","begin","row"] (Wb mg):=by
 show Ε (N:=["book","make","begin","row"]) T.Hw (λf g j outer s H vs Q E e h=>?_);intro X _;let#[A,B,lv,mo,r,rfl,a,c,q]:=h;let l:=T.GC;let M1:Υ P w K mg base true 4 (cB mg) "since" ["self","row"] (zX mg):=(ae5 T).meth T.ϔ T.aca;symm;cases lv with
 |false=>
  lk;show Ζ (λ_=>q _ λz=>nomatch z) (λh=>absurd rfl h)
 |true=>
  lk;show Ζ (λh=>?_) (λ_=>?_)
  .injection h with h
   show absurd h (by fin2)
  lk;show Ϛ (pl:=_) e ς (h:=?_);f_are;show#[A.b,cB mg,A.dx,_,true,4,_,zX mg,rfl,a.bk.ins,by rfl,M1,by decide,id,?_];lk;let c:=c rfl;let#[_,m,n]:=a.fit r c;show#[A,B,r.1,rfl,a.bk,by have:(10:Nat)^60>1000000000:=(by decide);omega,a.wf,λz=>absurd (aja (f:=Prod.fst) c) (yS.mp z),λi hi=>?_]>>=q _ λ_ o h'=>by rw[hi]at h';cases h';rfl
def wz{cs:List Β}(h:aL cs=true):1<=↥cs/\↥cs<=6:=by
 unfold aL at h;simp only[aa9,decide_eq_true_eq]at h;show h.1.1
def wY{cs:List Β}(h:aL cs=true){c:Β}(a:c∈cs):c.2="number"\/c.2="text":=by
 unfold aL at h;simp only[aa9,ach]at h;have:=(h.1.2 c a).2;unfold fU at this;show of_decide_eq_true this
theorem K6{α β:Type}{R:α->β->Prop}{p:β->Prop}:∀{l:List α},(∀a∈l,∃b,R a b/\p b)->∃m,ω R l m/\∀b∈m,p b
 |[],_=>#[[],.nil,λb c=>by simp at c]
 |a::l,h=>by
  let#[b,h1,h2]:=h a (by simp);let#[m,f,g]:=K6 (l:=l) λx i=>h x (by simp[i])
  show#[b::m,.cons h1 f,λy j=>?_];obtain e|e:=aaz.mp j
  .rw[e];show h2
  .show g y e
def Np{cs:List Β}(g:aL cs=true){r:Row}(h:cJ cs r)(n:0<=r.1/\r.1<=1000000000)(b:Bool):goodW (r.1,r.2,b):=by
 show#[by have:(10:Nat)^18>1000000000:=(by decide);show r.1.natAbs<_;omega,?_,λx l=>?_]
 .let h1:=h.len;let h2:=(wz g).2;show ↥r.2<=6;omega
 .let#[c,f,a]:=h.Ss x l;let m:=a.word (wY g f);show#[#[a.sc,?_,λi e=>?_],m.2.1]
  .obtain rfl|⟨_,i,rfl,_⟩|⟨_,z,rfl,o,_⟩:=a
   .trivial
   .trivial
   .show ↥z<=4000;omega
  .subst e;obtain e|⟨_,j,e,h1,h2⟩|⟨_,z,e,_⟩:=a
   .cases e
   .cases e;have:(10:Nat)^60>1000000000000000000:=by decide
    omega
   .cases e
structure sE(L:bJ):Prop where
 rows:∀r∈L.rows,goodW r
 few:↥L.rows<=1
 back:L.back=.non
 iU:L.iU=.non
 many:L.many.natAbs<10^18
 ahead:L.ahead.natAbs<10^18
 moment:L.moment.natAbs<10^18
def Bt(I:bJ->Prop)(H:Hp)(Q:VK):=∀p L H',ζ H H'->Fp H' p L->sE L->I L->Q (.ref p) H'
def Jy(B:Bk)(z:Str)(lv:Bool)(mo:Int)(L:bJ):=∀r i,z=μ "all"->lv=true->B.rows=[r]->ϑ B.touched r.1=↑i->i<=mo->L=#[[(r.1,r.2,true)],.non,.non,1,0,B.now]
theorem Bt.same{I:bJ->Prop}{H H':Hp}{Q:VK}(h:Bt I H Q)(s:ζ H H'):Bt I H' Q:=λp L H2 a=>h p L H2 (s<|>a)
def wK(mg:MG)(n:Int)(I:bJ->Prop)(H:Hp)(Q:VK)(E:XK):Prop:=(¬sizeOk n->bx mg H E "NoSize")/\(sizeOk n->Bt I H Q)
theorem wK.same{n:Int}{I:bJ->Prop}{H H':Hp}{Q:VK}{E:XK}(h:wK mg n I H Q E)(s:ζ H H'):wK mg n I H' Q E:=#[λa=>(h.1 a).same s,λa=>(h.2 a).same s]
def vf(mg:MG)(B:Bk)(lv:Bool)(mo n:Int)(I:bJ->Prop)(H:Hp)(Q:VK)(E:XK):Prop:=(lv=false->mo<B.known->Gn mg B H E)/\((lv=false->B.known<=mo)->wK mg n I H Q E)
theorem vf.same{B:Bk}{lv:Bool}{mo n:Int}{I:bJ->Prop}{H H':Hp}{Q:VK}{E:XK}(h:vf mg B lv mo n I H Q E)(s:ζ H H'):vf mg B lv mo n I H' Q E:=#[λa b=>(h.1 a b).same s,λa=>(h.2 a).same s]
structure zH(z:Str):Prop where
 len:↥z<=1000
 words:↥(Λ 32 z)<=60
 codes:∀c∈z.cps.toList,c<1114112
inductive sH(K:ϩ)(mg:MG)(on:Bool):Sp
 |mk (A:BA) (B:Bk) (mk oa:δ) (v:V) (z:Str) (os:List Ord) (lv:Bool) (mo:Nat) (n:Int):vs=[.ref A.b,.ref mk,.int n,.bl on]->dq mg H A B->H mk=↑(.tup [.str (du lv),.int (mo:Nat),.ref oa,.str z,v])->gm H oa os->tE H v on->zH z->H (bz K "sorted_by")=↑(.tbl fL)->((mo:Nat):Int)<=B.now->n.natAbs<10^60->↥os<=4->mU B.heads os->(z≠μ "all"->d9 mg H E)->vf mg B lv mo n (Jy B z lv mo) H Q E
def rZ(hN:cR K mg base "sorted_by")(on:Bool):Def 50 "leaf_from" ["book","mark","size","onward"] (sH K mg on):=by
 show Ε (S:=Qe) T.rZ (λf Ϲ A' outer s H vs Q E g h=>?_);intro X _;let#[A,B,mk,oa,v,z,os,lv,mo,n,rfl,y,ag,hO,ah,hS,tb,Z,ha,Em,ai,qx,qg,q]:=h;let nd:=Qe.nd;let n1:=T.aN;let g1:=T.Br;let hsz:=ϯ;let hok:=y.ok;let#[c1,c6]:=wz hok;let ab:(["row","values","book","make","begin"]:List Str).Nodup:=by fin2
 let D1:=!rO;let D3:Def P w K mg base true 8 "line_of" ["columns","order","rows"] (Ak K):=yR T hN;let D4:=!KH;let D5:=!Jp;let D6:=!Hw;let D7:=!Jj;let M2:Υ P w K mg base true 1 (cB mg) "moment" ["self"] (lZ mg Bk.now):=(En T).meth T.ϔ T.GR;let M3:Υ P w K mg base true 1 (cB mg) "columns" ["self"] (eV mg):=(su T).meth T.ϔ T.qX;let D2:=!Et;w_up;show jo ?_>>=aJ (ψ.of ag) (Κ (Γ nd (Κ (Γ nd (Κ (Γ nd (Κ (Γ nd (Κ (Γ nd (aF ?_)))))))))));w_up;f_tup;show bV (pl:=_) g ς ?_;f_are;show⟨A.b,cB mg,A.dx,_,true,1,_,eV mg,rfl,y.bk.ins,by rfl,M3,(),id,A,B,rfl,y.bk,λc H1 s1 hc0 hC=>?_⟩;k_go;show#[c,B.heads,z,rfl,hC,λ_ h=>wY hok h,hS.len,hS.words,(λh=>(qx h).same s1),λsv t zz H2 s2 hv al ht dM=>?_];let#[_,Fb]:=dM;let Ϣ:=s1<|>s2;lk;show#[t,ht,A,B,lv,(mo:Nat),sv,zz,rfl,y.same Ϣ,Z,hv,al,λa b=>(qg a b).same Ϣ,λY p2 j7 rs H3 s3 hp2 ac am M=>?_];let ϓ:=Ϣ<|>s3;let#[qs,q]:=q Y;let#[an,hnd,D]:=y.at_ Y Z;let ao:↥((dW lv B mo).filter λr=>aD r.2 t)<=↥(dW lv B mo):=aji ..;let hrl:↥rs<=1:=adQ (adQ (ark M.length_eq) ao) an;let I:∀r∈rs,r∈dW lv B mo:=λr g=>(alO.mp (M.mem_iff.mp g)).1
 lk;show#[c,oa,p2,B.heads,os,rs,rfl,hC.same (s2<|>s3),hO.same ϓ,#[j7,ac,am],c6,(),ai,(),λr g=>(D r (I r g)).1,ϓ<*tb,λln lw ls H4 s4 hln Az Lg fZ=>?_];let d7:=ϓ<|>s4;let Hh:=Lg.len;let hll:↥ls=↥rs:=fZ.length_eq;let F:∀r∈ls,r∈dW lv B mo:=λr g=>I r (fZ.mem_iff.mp g)
 let ap:jN H4 ln ls:=#[lw,Az,Lg.imp λu r z=>z.row];let ae:∀r,z=μ "all"->lv=true->B.rows=[r]->ls=[r]:=λr e1 O e5=>by
  let ar:rs=[r]:=by
   let h:=M;rw[Fb e1,O]at h;unfold dW at h;rw[if_pos rfl,e5]at h;show asS.mp h
  rw[ar]at fZ;show asS.mp fZ
 let rest:sizeOk n->∀(J:δ)(us:List V)(H5:Hp),ζ H4 H5->H5 J=↑(.lst us)->ω (Ed J H4 H5) us ls->
   Ι X ((ϕ uy).drop 4) {nx:=λ_ H'=>Q .non H',rt:=Q} [↑(.ref A.b),↑(.ref mk),↑(.int n),↑(.bl on),↑(.str (du lv)),↑(.int (mo:Nat)),↑(.ref oa),↑(.str z),↑v,↑(.ref c),↑(.ref ln),↑(.ref J),↑.non,↑.non,↑(.int 0),none,none] H5:=by
  intro hs J us H5 s5 hq G;let qq:=q hs;let sS:=G.len;let jq:=d7<|>s5;w_up;show oU ["row","values","book","make","begin"] (σ':=[none,none,↑(.ref A.b),↑(.str (du lv)),↑(.int (mo:Nat))]) (bD (ρ uy)) nd ?_>>=#[J,us,rfl,θ.of hq,(),λτ=>∃o1 o2,τ=[o1,o2,↑(.ref A.b),↑(.str (du lv)),↑(.int (mo:Nat))],λE2 j u H'=>u≠.ref E2/\∃(b:Bool)(r:Row)(t l:δ),(r∈dW lv B mo/\ls[j]?=↑r/\(lv=true->∀i,ϑ B.touched r.1=↑i->b=decide (i<=((mo:Nat):Int))))/\u=.ref t/\H' t=↑(.tup [.int r.1,.ref l,.bl b])/\H5 l=↑(.lst r.2),#[none,none,rfl],λE2 j u H8 H9 ys hE Y p=>?_,λfp E2 C s9 H8 j τ x H6 H7 aA hi av j8 U hG=>?_,λq1 H6 Zr hq1 aw uq e6 s6=>?_]
  .let#[h0,b,r,t,l,g,e,h1,h3]:=p;show#[h0,b,r,t,l,g,e,Y _ _ (λz=>h0 (by rw[e,z])) h1,h3]
  .let#[o1,o2,rfl]:=av;let#[ys,U]:=U;let#[aB,rfl]:=hG;let#[r,W,tr,lr,rfl,_,ax,ay]:=G.get aB;show aJ (ψ.of (j8<*ax)) (Κ (Γ ab (Κ (Γ ab (aF ?_)))))>>=#[A,B,lv,(mo:Nat),r,rfl,y.same (jq<|>j8),λe=>?_,λb=>?_]
   .have :=F r (aan W);rw[e]at this;show this
   intro hb;lk;show#[Α,λt2 dB=>?_]*>#[#[_,_,rfl],#[λz=>?_,b,r,t2,lr,#[F r (aan W),W,hb],rfl,ξ,ay],ζ.upd dB];injection z with z
   rw[z,U]at dB;cases dB
  let pY:=jq<|>s6;let az:=s5<|>s6;let De:θ K H6 ln lw:=az.seq (θ.of Az);let L:∀m:Int,m.natAbs<=5000->(lv=true->m=B.now)->Ι X ((ϕ uy).drop 6) {nx:=λ_ H'=>Q .non H',rt:=Q} [↑(.ref A.b),↑(.ref mk),↑(.int n),↑(.bl on),↑(.str (du lv)),↑(.int (mo:Nat)),↑(.ref oa),↑(.str z),↑v,↑(.ref c),↑(.ref ln),↑(.ref J),↑.non,↑.non,↑(.int 0),↑(.ref q1),↑(.int m)] H6:=by
   intro m QR aC;symm;lk;show #[_,rfl,?_]>>=#[_,rfl,?_]>>=#[Α,λp9 aE=>?_];let s9:=ζ.upd (o:=.tup [.ref q1,.non,.non,.int (↥lw:Nat),.int 0,.int m]) aE;let BL:=s9;let#[rows,hA,hW]:=K6 (R:=Hr (upd H6 p9 (.tup [.ref q1,.non,.non,.int (↥lw:Nat),.int 0,.int m]))) (p:=λx=>goodW x/\∀r i,ls=[r]->lv=true->ϑ B.touched r.1=↑i->i<=((mo:Nat):Int)->x=(r.1,r.2,true)) (l:=Zr) λu hu=>by
    let#[k,Y]:=ak7 hu;let#[_,b,r,t2,l2,#[g,af,hb],e,h1,h3]:=uq k u Y;show#[(r.1,r.2,b),#[t2,l2,e,BL<*h1,(s6<|>BL)<*h3],Np hok (D r g).1 (D r g).2 b,λr' i' e1 e2 O e4=>?_];let er:r=r':=by rw[e1]at af;show aa0.mp (aan af)
    subst er;rw[hb e2 i' O,decide_eq_true e4]
   let zx:=hA.len;let Py:(10:Nat)^18>100000:=by decide
   show qq p9 #[rows,.non,.non,(↥lw:Nat),0,m] _ (pY<|>BL) #[q1,ξ,Zr,BL<*e6,hA] #[λx hx=>(hW x hx).1,by show ↥rows<=1;omega,rfl,rfl,by show((↥lw:Nat):Int).natAbs<_;omega,by show(0:Int).natAbs<10^18;decide,by show m.natAbs<_;omega] λr i' e1 O e5 e6 e7=>?_
   let o3:=ae r e1 O e5;rw[o3]at Hh sS;let#[x,rfl]:=aqE.mp (show ↥rows=1 by rw[<-zx,aw,sS];rfl);rw[aC O,(hW x (by simp)).2 r i' o3 O e6 e7,show ↥lw=1 by rw[Hh];rfl];rfl
  w_up;f_tup;cases lv with
  |true=>
   lk;show iy ?_*>bV (pl:=_) g ς ?_;f_are;show#[A.b,cB mg,A.dx,_,true,1,_,lZ mg Bk.now,rfl,(y.bk.same pY).ins,by rfl,M2,(),id,A,B,rfl,y.bk.same pY,L _ (by let h1:=y.mm;let h2:=y.n5;unfold iu at h1;omega) (λ_=>rfl)]
  |false=>
   lk;show Ζ (λh=>?_) (λ_=>?_)
   .injection h with h
    show absurd h (by fin2)
   lk;show L _ (by let h2:=y.n5;omega) (λz=>nomatch z)
 w_up;show Δ ?_;lk;cases on
 all_goals
  lk;f_len;show jo ?_>>=#[c,oa,ln,v,ls,n,rfl,ap,ah.same d7,(),ha,λh=>(qs h).same d7,λhs t4 J us H5 s5 aI hq G=>?_]*>aJ (ψ.of aI) (Κ (Γ nd (Κ (Γ nd (Κ (Γ nd (Κ (Γ nd (aF ?_)))))))))*>rest hs J us H5 s5 hq G
inductive Qv(mg:MG):Sp
 |mk (A:BA) (B:Bk) (lv:Bool) (zo z:Str) (v:V):vs=[.ref A.b,.str (du lv),.str zo,.str z,v]->Τ (cB mg) H A B->↥zo<=4000->(gM B.heads zo=none->bx mg H E "NoOrder")->(∀os,gM B.heads zo=↑os->∀p b H',ζ H H'->H' p=↑(.tup [.str (du lv),.int B.now,.ref b,.str z,v])->gm H' b os->Q (.ref p) H')
def yj:Def 4 "begin_of" ["book","make","order","sieve","cut"] (Qv mg):=by
 show Ε (N:=["book","make","order","sieve","cut"]) T.yj (λf I J outer s H vs Q E g h=>?_);intro X _;let#[A,B,lv,l,z,v,rfl,a,m,n,q]:=h;let hsz:=ϯ;let L:=!qN;let M2:Υ P w K mg base true 1 (cB mg) "moment" ["self"] (lZ mg Bk.now):=(En T).meth T.ϔ T.GR;let u:Υ P w K mg base true 1 (cB mg) "columns" ["self"] (eV mg):=(su T).meth T.ϔ T.qX;symm;lk;show bV (pl:=_) g ς ?_;f_are;show#[A.b,cB mg,A.dx,_,true,1,_,lZ mg Bk.now,rfl,a.ins,by rfl,M2,by decide,id,A,B,rfl,a,?_]>>=bV (pl:=_) g ς ?_;f_are;show#[A.b,cB mg,A.dx,_,true,1,_,eV mg,rfl,a.ins,by rfl,u,by decide,id,A,B,rfl,a,λc H1 i x y=>?_]>>=#[c,B.heads,l,rfl,y,m,λH' s' e=>n e H' (i<|>s'),λb os H2 C e D F=>?_]>>=#[Α,λp G=>?_];let j:=ζ.upd (o:=.tup [.str (du lv),.int B.now,.ref b,.str z,v]) G;show q os e p b _ ((i<|>C)<|>j) ξ (F.same j)
structure rC(K:ϩ)(mg:MG)(H:Hp)(A:BA)(B:Bk)(zo z:Str):Prop where
 bk:dq mg H A B
 zl:↥zo<=4000
 sv:zH z
 rd:∀os,gM B.heads zo=↑os->↥os<=4/\mU B.heads os/\(os.map Prod.fst).Nodup
 tb:H (bz K "sorted_by")=↑(.tbl fL)
structure Hf(mg:MG)(B:Bk)(zo z:Str)(n:Int)(I:bJ->Prop)(H:Hp)(Q:VK)(E:XK):Prop where
 no:gM B.heads zo=none->bx mg H E "NoOrder"
 sv:z≠μ "all"->d9 mg H E
 sz:wK mg n I H Q E
def dq.nat{H:Hp}{A:BA}{B:Bk}(h:dq mg H A B):∃m:Nat,B.now=(m:Nat)/\m<=5000:=by
 let h1:=h.mm;let h2:=h.n5;unfold iu at h1;let#[m,e]:=aeV (show 0<=B.now by omega);show#[m,e,()]
def rC.ends{H:Hp}{A:BA}{B:Bk}{a z:Str}(h:rC K mg H A B a z){n:Int}{I:bJ->Prop}{Q:VK}{E:XK}(q:Hf mg B a z n I H Q E){lv:Bool}{m:Nat}(c:B.now=(m:Nat)):vf mg B lv m n I H Q E:=by
 let h1:=h.bk.mm;unfold iu at h1;show#[λ_ z=>absurd z (),λ_=>q.sz]
inductive uH(K:ϩ)(mg:MG):Sp
 |mk (A:BA) (B:Bk) (lv:Bool) (zo z:Str) (n:Int):vs=[.ref A.b,.str (du lv),.str zo,.str z,.int n]->rC K mg H A B zo z->n.natAbs<10^60->Hf mg B zo z n (Jy B z lv B.now) H Q E
def Gu(v:cR K mg base "sorted_by"):Def 51 "first_leaf" ["book","make","order","sieve","size"] (uH K mg):=by
 show Ε (N:=["book","make","order","sieve","size"]) T.Gu (λf G I outer s H vs Q E J h=>?_);intro X _;let#[A,B,lv,x,z,n,rfl,a,y,q]:=h;let hsz:=ϯ;let L:=T.Rw;let j:=a.bk;let M:=!yj;let O:Def P w K mg base true 50 "leaf_from" ["book","mark","size","onward"] (sH K mg true):=rZ T v true;symm;lk;show #[Α,λp C=>?_];let#[g,e1]:=Η C (.tup [.str ("start":Str)]);change EA _ _ _ (upd H p (.tup [.str ("start":Str)])) _;generalize upd H p (.tup [.str ("start":Str)])=H1 at g e1⊢;lk;show#[A,B,lv,x,z,_,rfl,(j.same g).bk,a.zl,λe=>(q.no e).same g,λos e mk b H2 o c D=>?_];lk;let i:=g<|>o;let#[m,u,R]:=j.nat;rw[u]at c q;let#[F,l,_]:=a.rd os e;show#[A,B,mk,b,.ref p,z,os,lv,m,n,rfl,j.same i,c,D,#[p,rfl,o<*e1],a.sv,i<*a.tb,(),y,F,l,(λe=>(q.sv e).same i),(a.ends q u).same i]
def Je(v:cR K mg base "sorted_by"):Def 51 "last_leaf" ["book","make","order","sieve","size"] (uH K mg):=by
 show Ε (N:=["book","make","order","sieve","size"]) T.Je (λf G I outer s H vs Q E J h=>?_);intro X _;let#[A,B,lv,x,z,n,rfl,a,y,q]:=h;let hsz:=ϯ;let L:=T.Zw;let j:=a.bk;let M:=!yj;let O:Def P w K mg base true 50 "leaf_from" ["book","mark","size","onward"] (sH K mg false):=rZ T v false;symm;lk;show #[Α,λp C=>?_];let#[g,e1]:=Η C (.tup [.str ("end":Str)]);change EA _ _ _ (upd H p (.tup [.str ("end":Str)])) _;generalize upd H p (.tup [.str ("end":Str)])=H1 at g e1⊢;lk;show#[A,B,lv,x,z,_,rfl,(j.same g).bk,a.zl,λe=>(q.no e).same g,λos e mk b H2 o c D=>?_];lk;let i:=g<|>o;let#[m,u,R]:=j.nat;rw[u]at c q;let#[F,l,_]:=a.rd os e;show#[A,B,mk,b,.ref p,z,os,lv,m,n,rfl,j.same i,c,D,#[p,rfl,o<*e1],a.sv,i<*a.tb,(),y,F,l,(λe=>(q.sv e).same i),(a.ends q u).same i]
theorem sE.page{L:bJ}(h:sE L):T8 L:=#[h.rows,by have:=h.few;omega,.inl h.back,.inl h.iU,h.many,h.ahead,h.moment]
theorem amA{xs:List V}{lo hi:Option Int}{x:V}(h:x∈aq xs lo hi):x∈xs:=ak5 (apf h)
inductive Jc(K:ϩ)(mg:MG):Sp
 |mk (A:BA) (B:Bk) (zo z:Str) (n k:Int):vs=[.ref A.b,.str zo,.str z,.int n,.int k]->rC K mg H A B zo z->n.natAbs<10^60->0<=k->k<=1000000000000000000->Hf mg B zo z n (λ_=>True) H Q E
def JG(hN:cR K mg base "sorted_by"):Def 50 "leaf_by_place" ["book","order","sieve","size","number"] (Jc K mg):=by
 show Ε (S:=Vf) T.JG (λf Ϲ A' outer s H vs Q E g h=>?_);intro X _;let#[A,B,zo,z,n,k,rfl,F,ha,k0,k1,q]:=h;let i:=F.bk;let O:=i.bk;let nd:=Vf.nd;let n1:=T.aN;let n2:=T.WX;let hsz:=ϯ;let#[c1,c6]:=wz i.ok;let aY:(["row","values"]:List Str).Nodup:=by fin2
 let D1:=!qN;let D2:=!rO;let D3:=!vW;let D5:Def P w K mg base true 8 "line_of" ["columns","order","rows"] (Ak K):=yR T hN;let M1:Υ P w K mg base true 2 (cB mg) "now_rows" ["self"] (rN mg):=(W3 T).meth T.ϔ T.YH;let M2:Υ P w K mg base true 1 (cB mg) "moment" ["self"] (lZ mg Bk.now):=(En T).meth T.ϔ T.GR;let M3:Υ P w K mg base true 1 (cB mg) "columns" ["self"] (eV mg):=(su T).meth T.ϔ T.qX;let D4:=!uf;w_up;f_tup;show bV (pl:=_) g ς ?_;f_are;show#[A.b,cB mg,A.dx,_,true,1,_,eV mg,rfl,i.bk.ins,by rfl,M3,(),id,A,B,rfl,i.bk,λc H1 s1 hc0 W=>?_];k_go;show#[c,B.heads,zo,rfl,W,F.zl,λH' s' e=>q.no e H' (s1<|>s'),λb os H2 Y e hb0 hO=>?_];let Ϣ:=s1<|>Y;let#[o4,Z,_]:=F.rd os e;k_go;let hB5:=i.n5;let ab:=i.mm;unfold iu at ab;let#[_,qx,qs,q]:=q;show#[c,B.heads,z,rfl,W.same Y,λ_ h=>wY i.ok h,F.sv.len,F.sv.words,(λe=>(qx e).same Ϣ),λv t zz H3 s3 hv ac ht dM=>?_];let U:=Ϣ<|>s3;w_up;show Ϝ ?_;lk;show#[n,rfl,ha,λhn=>?_,λh=>(qs h).same U];let qq:=q hn;k_go;show bV (pl:=_) g ς ?_;f_are;show#[A.b,cB mg,A.dx,_,true,2,_,rN mg,rfl,(O.same U).ins,by rfl,M1,(),id,A,B,rfl,O.same U,(by have:=i.r1;omega),λp1 ys ks H4 s4 hp1 ae hso xm m=>?_];let y:=Ks i.nd ae;let PJ:jN H4 p1 (cP B.rows ks):=#[ys,xm,m.imp λu r z=>by
  let#[t,l,e,h1,h2,_]:=z;show#[t,l,e,h1,h2]]
 generalize cP B.rows ks=D at y PJ;let hrs:↥D=↥B.rows:=y.length_eq;let r64:=i.r1;let G:∀r∈D,cJ B.heads r:=λr g=>(i.fit r (y.mem_iff.mp g)).1
 lk;show#[t,ht,v,p1,zz,D,rfl,hv.same s4,PJ,(),λr g=>km (G r g) ac,λp2 j7 H5 s5 hp2 I af=>?_];let CQ:=s4<|>s5;let jq:=U<|>CQ;let Q3:jN H5 p2 (D.filter λr=>aD r.2 t):=#[j7,I,af.imp λu r z=>z.row s5];let ag:↥(D.filter λr=>aD r.2 t)<=↥D:=aji ..;let ZF:∀r∈D.filter λr=>aD r.2 t,cJ B.heads r:=λr g=>G r (alO.mp g).1
 let Tt:∀r∈D.filter λr=>aD r.2 t,r∈B.rows:=λr g=>y.mem_iff.mp (alO.mp g).1
 generalize D.filter (λr=>aD r.2 t)=fs at Q3 ag ZF Tt;lk;show#[c,b,p2,B.heads,os,fs,rfl,W.same ((Y<|>s3)<|>CQ),hO.same (s3<|>CQ),Q3,c6,(),Z,(),ZF,jq<*F.tb,λln lw ls H6 s6 hln Az wV fZ=>?_];let pY:=jq<|>s6;let Hh:=wV.len;let hll:↥ls=↥fs:=fZ.length_eq;w_up;f_tup;let De:θ K H6 ln lw:=θ.of Az;lk;show Rc (by rfl) ?_;let#[n1',n2']:=hn;let ah:0<=(if(↥lw:Int)<k*n then(↥lw:Int)else k*n)/\(if(↥lw:Int)<k*n then(↥lw:Int)else k*n)<=100000:=by
  let hkn:0<=k*n:=Int.mul_nonneg k0 ();split
  .omega
  .omega
 generalize(if(↥lw:Int)<k*n then(↥lw:Int)else k*n)=a at ah;w_up;show oU ["row","values"] (σ':=[none,none]) (bD (ρ Io)) nd ?_>>=bw De λp3 ai=>?_
 let al:=Ry lw ↑a ↑(a+n);let J:∀x∈aq lw ↑a ↑(a+n),x∈lw:=λx hx=>amA hx
 generalize aq lw ↑a ↑(a+n)=cw at al J;let#[L,e7,H6,p3,H7]:=Η ai (.lst cw);let zZ:=pY<|>L;show#[p3,cw,rfl,θ.of e7,(),λτ=>∃o1 o2,τ=[o1,o2],λE2 _ u H'=>u≠.ref E2/\∃(r:Row)(t l:δ),r∈B.rows/\u=.ref t/\H' t=↑(.tup [.int r.1,.ref l,.bl true])/\H7 l=↑(.lst r.2),#[none,none,rfl],λE2 j u H2 H3 ys hE hk p=>?_,λfp E2 C M H8 j τ x H6' H7' aA hi am j8 m hG=>?_,λq1 H8 us hq1 hl8 an e8 s8=>?_]
 .let#[h0,r,t,l,g,e,h1,h3]:=p;show#[h0,r,t,l,g,e,hk _ _ (λz=>h0 (by rw[e,z])) h1,h3]
 .let#[o1,o2,rfl]:=am;let#[ys,m]:=m;let#[aB,rfl]:=hG;let#[kx,ao]:=ak7 (J _ (aan aB));let#[r,g,tr,lr,rfl,apH,apr,_,ap,ar]:=wV.get ao;show aJ (ψ.of ((L<|>j8)<*ap)) (Κ (Γ aY (Κ (Γ aY (aF ?_)))))>>=#[Α,λt2 dB=>?_]*>#[#[_,_,rfl],#[λz=>?_,r,t2,lr,Tt r (fZ.mem_iff.mp (aan g)),rfl,ξ,L<*ar],ζ.upd dB];injection z with z
  rw[z,m]at dB;cases dB
 let HW:=zZ<|>s8;symm;let sq8:θ K H8 ln lw:=(L<|>s8).seq De;lk;show bV (pl:=_) g ς ?_;f_are;show#[A.b,cB mg,A.dx,_,true,1,_,lZ mg Bk.now,rfl,(O.same HW).ins,by rfl,M2,(),id,A,B,rfl,O.same HW,?_]>>=#[Α,λp9 av=>?_];let M:=ζ.upd (o:=.tup [.ref q1,.non,.non,.int (↥lw:Nat),.int a,.int B.now]) av;let#[rows,hA,hW]:=K6 (R:=Hr (upd H8 p9 (.tup [.ref q1,.non,.non,.int (↥lw:Nat),.int a,.int B.now]))) (p:=goodW) (l:=us) λu hu=>by
  let#[j,hj]:=ak7 hu;let#[_,r,t2,l2,g,e,h1,h3]:=an j u hj;show#[(r.1,r.2,true),#[t2,l2,e,M<*h1,(s8<|>M)<*h3],Np i.ok (i.fit r g).1 (i.fit r g).2 true]
 let zx:=hA.len;let Py:(10:Nat)^18>100000:=by decide
 show qq p9 #[rows,.non,.non,(↥lw:Nat),a,B.now] _ (HW<|>M) #[q1,ξ,us,M<*e8,hA] #[hW,by show ↥rows<=1;omega,rfl,rfl,by show((↥lw:Nat):Int).natAbs<_;omega,by show a.natAbs<_;omega,by show B.now.natAbs<_;omega] trivial
def MN:List Ϩ->List Ϩ
 |(.For _ _ b _ _)::_=>b
 |_=>[]
def TF:List Ϩ->List Ϩ
 |(.If _ t _ _)::_=>t
 |_=>[]
def ZD(H:Hp)(v:V):Option (List V)->Prop
 |none=>v=.non
 |some xs=>∃l,v=.ref l/\H l=↑(.lst xs)
def KyV(cs:List Β)(os:List Ord)(H:Hp)(v:V):Prop:=v=.non\/∃p ks row,v=.ref p/\mq H p ks row/\nZ cs os ks
inductive NK(K:ϩ)(mg:MG)(t:Tr):Sp
 |mk (c b a:δ) (row:Int) (v:V) (cs:List Β) (os:List Ord) (z:Str) (o:Option (List V)):vs=[.ref c,.ref b,.ref a,.int row,v]->aH H c cs->↥cs<=6->gm H b os->↥os<=4->mU cs os->bA mg H t a z->je cs t->ZD H v o->(∀xs,o=↑xs->cJ cs (row,xs))->(∀v' H',ζ H H'->KyV cs os H' v'->Q v' H')
inductive Nj(K:ϩ)(mg:MG):Sp
 |mk (t:Tr):t.dep<=20->NK K mg t vs H Q E
def Ft:Def 24 "key_through" ["columns","order","sieve","row","values"] (Nj K mg):=by
 exists ["columns","order","sieve","row","values"],Ft,s,#[t,F,c,b,a,row,v,cs,os,z,o,rfl,u,G,x,I,f,n,i,g,y,q],J Bs;w_up;show Δ ?_;cases o with
 |none=>
  cases g;lk;symm;lk;show q .non H (ζ.refl _) (.inl rfl)
 |some xs=>
  let#[l,rfl,g]:=g;let e:=y xs rfl;let#[B,L,C,D]:=n.ins;lk;show Ϛ (pl:=_) s ς (h:=?_);f_are;show#[a,b8 mg t,B,_,true,3+t.dep,_,cU K mg t,rfl,C,D,nA T t,(),id,?_]>>=#[a,l,z,xs,rfl,n,θ.of g,km e i,?_];cases aD xs t with
  |false=>
   lk;symm;lk;show q .non H (ζ.refl _) (.inl rfl)
  |true=>
   lk;show χ ?_;symm;lk;show #[c,b,row,l,cs,os,xs,rfl,u,x,g,e.len,(),(),f,λp k H' s' M O j m=>?_]*>q (.ref p) H' s' (.inr #[p,_,row,rfl,#[k,m,j],Bf e f])
def nG(H:Hp)(v:V)(x:Int×List V):=∃p,v=.ref p/\mq H p x.2 x.1
def nG.same{H H':Hp}{v:V}{x:Int×List V}(h:nG H v x)(s:ζ H H'):nG H' v x:=by
 let#[p,e,h]:=h;show#[p,e,h.same s]
def nG.upd{H:Hp}{d:δ}{Ϸ:List (Key×V)}{o:HO}{v:V}{x:Int×List V}(h:nG H v x)(e:H d=↑(.dK Ϸ)):nG (upd H d o) v x:=by
 let#[p,rfl,l,h1,h2]:=h;show#[p,rfl,l,by rw[ι (λz=>by rw[z,e]at h1;cases h1)];show h1,by rw[ι (λz=>by rw[z,e]at h2;cases h2)];show h2]
structure Mx(cs:List Β)(os:List Ord)(kd:δ)(n:Nat)(H:Hp):Prop where
 ex:∃Ϸ m,H kd=↑(.dK Ϸ)/\ω (PR (nG H)) Ϸ m/\↥m<=n/\∀x∈m,x.1.natAbs<10^18/\nZ cs os x.2.2
inductive Rn(K:ϩ)(mg:MG):Sp
 |mk (A:BA) (B:Bk) (zo z:Str) (mo:Int):vs=[.ref A.b,.str zo,.str z,.int mo]->rC K mg H A B zo z->(∀d∈B.done,∀xs,d.is=↑xs->cJ B.heads (d.row,xs))->bx mg H E "NoOrder"->d9 mg H E->(mo<B.known->∀e H',ζ H H'->H' e=↑(.xd [("known",.int B.known)])->E (.ref (η mg "Gone")) (↑e,true) H')->(B.now<mo->∀e H',ζ H H'->H' e=↑(.xd [("now",.int B.now)])->E (.ref (η mg "Later")) (↑e,true) H')->(∀(p:δ)(ks:List Int)(H':Hp),ζ H H'->H' p=↑(.lst (ks.map V.int))->↥ks<=64->(∀k∈ks,k.natAbs<10^18)->Q (.ref p) H')
def DR:Def 50 "stood" ["book","order","sieve","moment"] (Rn K mg):=by
 show Ε (S:=VR) T.DR (λf Ϲ A' outer s H vs Q E C h=>?_);intro X _;let#[A,B,zo,z,mo,rfl,hS,ao,qn,qx,ap,ar,q]:=h;let G:=hS.bk;let nd:=VR.nd;let n1:=T.Ci;let hu:=C.units;let O:_+1<cLine:=agE (aki (by decide:1<=64) _) C.units;let hsz:=ϯ;let hok:=G.ok;let Z:=G.bk;let#[c1,c6]:=wz hok;let D1:=!qN;let D2:=!rO;let D3:=!uf;let D4:=!Bs;let D5:=!Ft;let M1:Υ P w K mg base true 4 (cB mg) "rows_at" ["self","moment"] (rJ mg):=(YQ T).meth T.ϔ T.U5;let M2:Υ P w K mg base true 4 (cB mg) "deeds" ["self","moment"] (Af mg):=(anZ T).meth T.ϔ T.al5;let M3:Υ P w K mg base true 1 (cB mg) "columns" ["self"] (eV mg):=(su T).meth T.ϔ T.qX;w_up;f_tup;show bV (pl:=_) C ς ?_;f_are;show#[A.b,cB mg,A.dx,_,true,1,_,eV mg,rfl,Z.ins,by rfl,M3,(),id,A,B,rfl,Z,λc H1 s1 hc0 hC=>?_];k_go;show#[c,B.heads,zo,rfl,hC,hS.zl,(λH' s' _=>qn H' (s1<|>s')),λb os H2 s2 e hb0 hO=>?_];let#[Em,R,_]:=hS.rd os e;let Ϣ:=s1<|>s2;k_go;show#[c,B.heads,z,rfl,hC.same s2,λ_ h=>wY hok h,hS.sv.len,hS.sv.words,(λ_=>qx.same Ϣ),λv t zz H3 s3 hv ab ht dM=>?_];let ϓ:=Ϣ<|>s3;w_up;f_tup;show Ds λkd p=>?_
 let#[s4,Gx,H3,kd,H4]:=Η p (.dK []);let d7:=ϓ<|>s4;let apd:H kd=none:=ϓ.free p;w_up;show uw (by walk_at"po") (by rfl) (by intro _;rfl) ?_>>=Ϛ (pl:=_) C ς (h:=?_);f_are;show#[A.b,cB mg,A.dx,_,true,4,_,rJ mg,rfl,(Z.same d7).ins,by rfl,M1,(),id,?_]>>=#[A,B,mo,rfl,Z.same d7,G.mm,(by have:=G.r1;omega),G.d1,(λh e H' s' g=>ap h e H' (d7<|>s') g),(λh e H' s' g=>ar h e H' (d7<|>s') g),λav aw=>?_];let#[ax,ay,az,Sd]:=G.hs mo av aw;let aA:∀r∈iB B mo,cJ B.heads r:=λr C=>(Sd r C).1
 show#[ax,agE ay (by decide),λp1 ys ks H5 s5 hp1 aB hso xm aC=>?_];let F:=Ks (rows:=iB B mo) az aB;let gw:jN H5 p1 (cP (iB B mo) ks):=#[ys,xm,aC.imp λu r z=>by
  let#[t,l,e,h1,h2,_]:=z;show#[t,l,e,h1,h2]]
 generalize cP (iB B mo) ks=rT at F gw;let hrl:=F.length_eq;let jq:=d7<|>s5;lk;show#[t,ht,v,p1,zz,rT,rfl,hv.same (s4<|>s5),gw,(),λr C=>km (aA r (F.mem_iff.mp C)) ab,λp2 j7 H6 s6 ac I wV=>?_];let pY:=jq<|>s6;let aE:↥(rT.filter λr=>aD r.2 t)<=↥rT:=aji ..;let ae:∀r∈rT.filter (λr=>aD r.2 t),cJ B.heads r/\0<=r.1/\r.1<=1000000000:=λr C=>Sd r (F.mem_iff.mp (alO.mp C).1)
 let Il:ω (sW H6) j7 (rT.filter λr=>aD r.2 t):=wV.imp λu r z=>z.row s6
 clear wV;generalize rT.filter (λr=>aD r.2 t)=fs at aE ae Il;let hwl:=Il.len;let GK:=(s5<|>s6) _ _ Gx;let aI:p2≠kd:=λe=>by rw[e,s5<*Gx]at ac;cases ac
 show#[p2,j7,rfl,θ.of I,λi σ H'=>(∃o8 n,σ=[↑(.ref A.b),↑(.str zo),↑(.str z),↑(.int mo),↑(.ref c),↑(.ref b),↑(.ref v),↑(.ref kd),o8,n,none,none,none])/\Out [kd] H6 H'/\Mx B.heads os kd i H',#[#[none,none,rfl],Out.refl _ _,[],[],GK,.nil,Ϭ _,λx hx=>nomatch hx],λi σ' H' _ D=>θ.of (D.2.1 _ _ (~~~aI) I),λi x σ' H' hx D=>?_,λσ' H' D=>?_]
 .let#[#[o8,n,rfl],o7,Ϸ,m,J,hK,Vo,a]:=D;let#[r,af,tr,lr,rfl,U,W]:=Il.get hx;let#[ag,r0,r1]:=ae r (aan af);let nt:tr≠kd:=λe=>by rw[e,GK]at U;cases U
  let nl:lr≠kd:=λe=>by rw[e,GK]at W;cases W
  let ah:=o7 _ _ (~~~nt) U;let aK:=o7 _ _ (~~~nl) W;let qG:ζ H3 H':=λx o e=>o7 _ _ (by rw[aa0];show λz=>by rw[z,p]at e;cases e) ((s4<|>s5<|>s6)<*e)
  let hkl:=hK.len;let hi:=(aab.mp af).1;show aJ (ψ.of ah) (Κ (Γ nd (Κ (Γ nd (aF ?_)))));f_len;show zB O ?_>>=#[c,b,r.1,lr,B.heads,os,r.2,rfl,hC.same ((s2<|>s3)<|>qG),hO.same (s3<|>qG),aK,ag.len,(),(),R,λkp kk H7 s7 aq1 aoE aS Y=>?_]>>=#[kd,_,rfl,jD.k (k:=Sum.inl r.1) (s7<*J) (),?_]*>#[#[_,_,rfl],(o7<|>(Out.of s7))<|>(Out.upd (by simp)),_,kW m r.1 (r.1,nR B.heads os r.2),ξ,dC (BP (dC hK λu x z=>z.same s7) r.1 (v:=.ref kp) #[kp,rfl,kk,Y,aS]) λu x z=>z.upd (s7<*J),by have:=QC m r.1 (r.1,nR B.heads os r.2);omega,λx hx=>?_];unfold kW at hx;let hk:=Bf ag R;split at hx
  .let#[y,hy,e]:=ad8.mp hx;split at e
   .rw[<-e];show#[(a y hy).1,hk]
   .rw[<-e];show a y hy
  .obtain hx|hx:=acL.mp hx
   .show a x hx
   .rw[aa0.mp hx];show#[by show r.1.natAbs<_;omega,hk]
 .let#[#[o8,n,rfl],o7,aT]:=D;let qG:ζ H3 H':=λx o e=>o7 _ _ (by rw[aa0];show λz=>by rw[z,p]at e;cases e) ((s4<|>s5<|>s6)<*e)
  let zZ:=ϓ<|>qG;let#[Ϸ,m,J,hK,Vo,a]:=aT;w_up;show uw (by walk_at"po") (by rfl) (by intro _;rfl) ?_*>Ϛ (pl:=_) C ς (h:=?_);f_are;show#[A.b,cB mg,A.dx,_,true,4,_,Af mg,rfl,(Z.same zZ).ins,by rfl,M2,(),id,?_]>>=#[A,B,mo,rfl,Z.same zZ,G.mm,G.d1,(λh=>absurd h ()),(λh=>absurd h ()),λ_ _ pd yd H8 s8 ai M aU=>?_];let aW:pd≠kd:=λe=>by rw[e,J]at ai;cases ai
  show#[pd,yd,rfl,θ.of M,λj σ H9=>(∃o8 n kh jR Dz,σ=[↑(.ref A.b),↑(.str zo),↑(.str z),↑(.int mo),↑(.ref c),↑(.ref b),↑(.ref v),↑(.ref kd),o8,n,kh,jR,Dz])/\Out [kd] H8 H9/\Mx B.heads os kd ↥j7 H9,#[#[_,_,none,none,none,rfl],Out.refl _ _,Ϸ,m,s8<*J,dC hK λu x z=>z.same s8,Vo,a],λj σ' H9 _ D=>θ.of (D.2.1 _ _ (~~~aW) M),λj x σ' H9 hx D=>?_,λσ' H9 D=>?_]
  .let#[#[aY,a0,kh,jR,Dz,rfl],n,qw,m9,wM,rP,Bv,tD]:=D;let#[d,a1,td,wd,ud,rfl,a2,fB,Bd,V6]:=aU.get hx;let a3:=ao d (ak5 (aan a1));let a4:td≠kd:=λe=>by rw[e,J]at V6;cases V6
   let a5:=n _ _ (~~~a4) a2;let vm:ζ H3 H9:=λx o e=>n _ _ (by rw[aa0];show λz=>by rw[z,p]at e;cases e) ((qG<|>s8)<*e)
   let a6:ZD H9 ud d.is:=by
    cases hio:d.is with
    |none=>rw[hio]at Bd;show Bd
    |some xs=>
     rw[hio]at Bd;let#[l,e,h1,h2]:=Bd;show#[l,e,n _ _ (by rw[aa0];show λz=>by first|(rw[z,J]at h2;cases h2)|(rw[z,J]at h1;cases h1)) (by first|show h1|show h2)]
   show aJ (ψ.of a5) (Κ (Γ nd (Κ (Γ nd (Κ (Γ nd (Κ (Γ nd (aF ?_)))))))));let g9:=aQ.k (k:=Sum.inl d.row) wM;f_len;show Δ ?_>>=Lr O g9 ?_;obtain⟨e1,e2⟩|⟨u,x,e1,e2,kp,rfl,Y⟩:=jL rP d.row
   .rw[show(aX qw (Sum.inl d.row)).isSome=false by rw[e1];rfl];lk;show χ #[#[_,_,_,_,_,rfl],n,qw,m9,wM,rP,Bv,tD]
   .rw[show(aX qw (Sum.inl d.row)).isSome=true by rw[e1];rfl];let al:nZ B.heads os x.2:=(tD _ (ahn e2)).2;lk;show WL O (v:=.ref kp) (by rw[e1]at g9;show g9) ?_>>=#[t,ht,c,b,v,d.row,ud,B.heads,os,zz,d.is,rfl,hC.same ((s2<|>s3)<|>vm),c6,hO.same (s3<|>vm),Em,R,hv.same vm,ab,a6,a3,λv' zL my a7=>?_];let yz:=my _ _ wM;obtain⟨dk,a8,dl⟩:∃dk,RD K zL v' dk/\dk.canLay0=true:=by
     obtain rfl|⟨kq,ks,row,rfl,a9,am⟩:=a7
     .show#[_,.non,rfl]
     .show#[_,Z9 a9 am.lay,OJ am.lay]
    lk;show Ma hu (Z9 (Y.same my) al.lay) a8 (OJ al.lay) dl (by have:=amr x.2 x.1;omega) ?_;generalize PyData.eqv (wN x.2 x.1) dk=be;cases be with
    |true=>
     lk;show χ #[#[_,_,_,_,_,rfl],n<|>(Out.of my),qw,m9,yz,dC rP λu x z=>z.same my,Bv,tD]
    |false=>
     lk;f_len;show Ϝ (zP ?_)>>=#[kd,rfl,.inl #[_,.inl yz],?_]>>=#[qw,Sum.inl d.row,_,yz,rfl,e1,?_]*>#[#[_,_,_,_,_,rfl],(n<|>(Out.of my))<|>(Out.upd (by simp)),_,qm m9 d.row,ξ,dC (xr (dC rP λu x z=>z.same my) d.row) λu x z=>z.upd yz,adQ (aji ..) Bv,λx hx=>tD x (alO.mp hx).1]
  .let#[#[aY,a0,kh,jR,Dz,rfl],n,qw,m9,wM,rP,Bv,tD]:=D;let vm:ζ H3 H9:=λx o e=>n _ _ (by rw[aa0];show λz=>by rw[z,p]at e;cases e) ((qG<|>s8)<*e)
   symm;walk_at"cb";lk;show aaB (ks:=m9.map (·.1)) (by rfl) wM (Vw rP) (by rw[ϭ];omega) λL an hL hp hs=>?_
   let sl:=ζ.upd (o:=.lst (an.map V.int)) hL;show q L an _ ((ϓ<|>vm)<|>sl) ξ (by rw[hp.length_eq,ϭ];omega) λk hk=>?_
   let#[x,hx,rfl]:=ad8.mp (hp.mem_iff.mp hk);show(tD x hx).1
inductive V3(K:ϩ)(mg:MG):Sp
 |mk (a:δ) (ws:List V) (n:Nat):vs=[.ref a,.int (n:Nat)]->θ K H a ws->(n<=↥ws->Q .non H)->(↥ws<n->bx mg H E "NoLine")
def jX:Def 1 "ask_words" ["words","least"] (V3 K mg):=by
 exists ["words","least"],jX,f,#[a,ws,n,rfl,g,q,c],i.aN,1;f_len;show Δ ?_;lk;by_cases e:↥ws<n
 .rw[decide_eq_true (show((↥ws:Nat):Int)<((n:Nat):Int)by omega)];f_len;show aM ς T.mD ?_;cbv;show#[by rw[hsz];simp,c e H (ζ.refl _)]
 .rw[decide_eq_false (show ¬((↥ws:Nat):Int)<((n:Nat):Int)by omega)];show χ (q ())
inductive aaR(mg:MG):Sp
 |mk (z:Str):vs=[.str z]->↥z<=4000->(∀i,ϣ z.cps.toList 9999999999=↑i->∀H',ζ H H'->Q (.int i) H')->(ϣ z.cps.toList 9999999999=none->bx mg H E "NoLine")
def mH:Def 4 "read_number" ["word"] (aaR mg):=by
 exists Zk,mH,g,#[z,rfl,c,q,f],2,1,j.agM,l vU;k_go;show#[z,9999999999,10,rfl,(),by decide,by decide,by fin2,by decide,by decide,by decide,λH1 a=>?_];cases e:ϣ z.cps.toList 9999999999 with
 |none=>
  show Ι _ _ _ [↑_,↑.non] _;w_up;show Δ ?_;lk;f_len;show aM ς T.mD ?_;cbv;show fJ ?_;cbv;show#[z,rfl,(),z,4000,rfl,c,(),?_];cbv;intro m;cbv;show#[by rw[hsz];simp,f e H1 a]
 |some i=>
  show Ι _ _ _ [↑_,↑(.int i)] _;w_up;show Δ ?_>>=χ ?_;symm;lk;show q i e H1 a
inductive RJ(K:ϩ)(mg:MG):Sp
 |mk (a:δ) (ws:List Str):vs=[.ref a]->θ K H a (ws.map V.str)->(∀z∈ws,↥z<=4000)->(∀z i,ws=[z]->ϣ z.cps.toList 9999999999=↑i->∀H',ζ H H'->Q (.int i) H')->((∀z i,ws=[z]->ϣ z.cps.toList 9999999999≠↑i)->bx mg H E "NoLine")
def Cm:Def 5 "read_only_number" ["words"] (RJ K mg):=by
 exists ["words"],Cm,m,#[a,ws,rfl,j,l,q,c],n.aN,1,o mH;w_up;show Δ ?_;lk;by_cases f:↥ws=1
 .let#[z,rfl]:=aqE.mp f;lk;show χ ?_;symm;lk;show Φ j (show ύ [V.str z] 0=↑(.str z)from rfl) ?_>>=#[z,rfl,l z (by simp),λi e=>q z i rfl e,λe=>c λz' i e1 g=>?_];cases e1;rw[e]at g;cases g
 .let e:¬V.int ((↥(ws.map V.str):Nat):Int)=V.int 1:=λz=>by
   injection z with z
   rw[ϭ]at z;omega
  rw[decide_eq_false e];show Ι _ _ _ _ _;f_len;show aM ς T.mD ?_;cbv;show#[by rw[hsz];simp,c (λz i e1=>absurd (by rw[e1];rfl) f) H (ζ.refl _)]
abbrev cD(mg:MG):δ:=η mg "Desk"
structure gZ(mg:MG)(H:Hp)(d dx:δ)(v:V):Prop where
 ins:H d=↑(.ins (cD mg) dx [("book",v)])
 own:H dx=↑(.own d)
theorem gZ.same{H H':Hp}{d dx:δ}{v:V}(h:gZ mg H d dx v)(s:ζ H H'):gZ mg H' d dx v:=#[s<*h.ins,s<*h.own]
inductive cQ(mg:MG):Sp
 |mk (d dx:δ) (v:V):vs=[.ref d]->gZ mg H d dx v->((v=.non/\bx mg H E "NoBook")\/∃b,v=.ref b/\Q (.ref b) H)
def ph:FD 1 "standing" "Desk.standing" Vh ["self"] (cQ mg):=by
 show ϖ (N:=["self"]) (λf e g outer s H vs Q E i h=>?_);intro X _;let#[d,dx,v,rfl,hd,q]:=h;let a:=T.cz;let hsz:=ϯ;w_up;show Δ ?_>>=ϝ ?_;f_are;show#[d,_,_,_,_,rfl,hd.ins,a,T.yU,rfl,?_];obtain⟨rfl,c⟩|⟨b,rfl,q⟩:=q
 .lk;f_len;show aM ς T.agp ?_;cbv;show#[by rw[hsz];simp,c H (ζ.refl _)]
 .lk;show χ ?_;f_len;show ο (ϝ ?_);f_are;show#[d,_,_,_,_,rfl,hd.ins,a,T.yU,rfl,q]
def agz{r:ig}(h:goodW r):↥(jy r)<=200:=by
 let#[hi,i,c]:=h;let f:=iG hi;let h1:∀z∈p8 r,↥z<=21:=λz g=>by
  obtain e|e:=aaz.mp g
  .rw[e];omega
  .obtain e|e:=acL.mp e
   .let#[x,a,rfl]:=ad8.mp e;show(c x a).2
   .split at e
    .simp at e
    .have :z=μ "*":= ~~~e
     rw[this];fin2
 let h2:↥(p8 r)<=8:=by
  show(Χ r.1::(r.2.1.map wordOf++_)).length<=8;rw[aap,aa6,ϭ];split
  .show ↥r.2.1+0+1<=8;omega
  .show ↥r.2.1+1+1<=8;omega
 let j:=KY (p8 r) 21 h1;let l:=Ih (p8 r);unfold jy;omega
def abR{L:bJ}(h:sE L):↥(eO L)<=100:=by
 let h1:=iG h.many;let h2:=iG h.ahead;let a:=iG h.moment;let c:(10:Nat)^18>100000:=by decide
 let e:=iG (i:=((↥L.rows:Nat):Int)) (by have:=h.few;omega);let e1:↥("+":Str)=1:=by fin2
 let f:↥(" of ":Str)=4:=by fin2
 let g:↥(" at ":Str)=4:=by fin2
 unfold eO;rw[len_app,len_app,len_app,len_app,len_app,len_app];omega
def aor{L:bJ}(h:sE L):↥(eQ L)<=100/\∀z∈eQ L,↥z<=4006:=by
 let f:=h.few;let e:eQ L=eO L::(L.rows.map jy++([]++[])):=by
  unfold eQ;rw[h.back,h.iU];rfl
 rw[e];show#[by rw[aap,aa6,ϭ];show _+0+1<=_;omega,λz a=>?_];obtain e|e:=aaz.mp a
 .have :=abR h;rw[e];omega
 .obtain e|e:=acL.mp e
  .let#[r,c,rfl]:=ad8.mp e;have:=agz (h.rows r c);omega
  .simp at e
inductive Pq:Sp
 |mk (p:δ) (L:bJ):vs=[.ref p]->Fp H p L->sE L->(∀H',ζ H H'->Q (.str (aep "\n" (eQ L))) H')
def uQ:Def 5 "page_text" ["leaf"] Pq:=by
 exists ["leaf"],uQ,m,#[p,L,rfl,f,e,q];let g:↥("\n":Str)=1:=by fin2
 let hsz:=ϯ;let#[a,c]:=aor e;let j1:=KY (eQ L) 4006 c;let n:↥(eQ L)*4006<=100*4006:=ajU _ a;let o:=!KD;symm;lk;show #[p,L,rfl,f,e.page,λs H1 i j l=>?_]>>=lM (θ.of l) (by rw[g];omega) (q H1 i)
inductive YB(K:ϩ)(mg:MG):Sp
 |mk (a:δ) (ws:List Str):vs=[.ref a]->θ K H a (ws.map V.str)->↥ws<=1000->(∀z∈ws,↥z<=1000)->(∀os ss,ws=os++μ ":"::ss->μ ":"∉os->1<=↥ss->∀p H',ζ H H'->H' p=↑(.tup [.str (aep " " os),.str (aep " " ss)])->Q (.ref p) H')->((∀os ss,ws=os++μ ":"::ss->μ ":"∉os->ss=[])->bx mg H E "NoLine")
def vX:Def 2 "read_list" ["words"] (YB K mg):=by
 exists WK,vX,hr,#[a,ws,rfl,o,M,u,q,O],2,g1.S7,1;let R:↥(" ":Str)=1:=by fin2
 let D1:=!jX;w_up;show Δ ?_>>=IW o (by rw[ap4];show ach.mpr λ_ _=>rfl) ?_;by_cases B:μ ":"∈ws
 case neg=>
  let i:bc (.str (":":Str)) (ws.map V.str)=false:=by
   unfold bc;show aqG.mpr λx Z z=>?_
   let#[y,hy,rfl]:=ad8.mp Z;have:y=μ ":":=by simpa [cF]using z
   show B (this▸hy)
  rw[i];lk;f_len;show aM ς T.mD ?_;cbv;show#[by rw[hsz];simp,O (λos g e _=>absurd (by rw[e];simp) B) H (ζ.refl _)]
 let#[os,g,f,j]:=ao8 B;let U:ws[↥os]?=↑(":":Str):=by rw[f];simp
 let i:bc (.str (":":Str)) (ws.map V.str)=true:=by
  unfold bc;show apt.mpr #[_,aja (aan U),by simp[cF]]
 rw[i];lk;show χ ?_;w_up;f_tup;show au F.plainAttrs_list F.slot_list_index F.type_list_index (h:=?_);f_are;show#[.inl #[rfl,_,o],?_]>>=aaZ o U (λm y h e z=>?_) ?_
 .rw[f,aed h]at e;show j (z▸aan e)
 let hwl:↥ws=↥os+1+↥g:=by rw[f];simp;omega
 w_up;show Ϝ ?_>>=#[a,_,↥os+2,by simp,o,λC=>?_,λD=>O λn ss' v n'=>?_]
 case refine_2=>
  rw[ϭ]at D;let h0:g=[]:=ahE.mp ();rw[f,h0]at v;let G:↥os=↥n:=by
   obtain c|c|c:=atk ↥os ↥n
   .let z:=congrArg (λl=>l[↥os]?) v;simp only[aed c,afZ (Ϭ _),arq,aog]at z;show absurd (aan z.symm) n'
   .show c
   .let z:=congrArg (λl=>l[↥n]?) v;simp only[aed c,afZ (Ϭ _),arq,aog]at z;show absurd (aan z) j
  let z:=(asG v G).2;injection z with _ z
  show z.symm
 rw[ϭ]at C;symm;lk;show bw o λp1 I=>?_
 let c1:aq (ws.map V.str) none ↑((↥os:Nat):Int)=os.map V.str:=by
  unfold aq;rw[_H.gA,ajw (by rw[ϭ];omega),f];show((os++μ ":"::g).map V.str).take (↥os-0)=_;rw[apY,aeS];show List.take_left' (by simp)
 rw[c1];let#[J,e1,H,p1,H1]:=Η I (.lst (os.map V.str));lk;let j1:=pQ (l:=os) λz h=>u z (by rw[f];show ajE _ h)
 let j2:=pQ (l:=g) λz h=>u z (by rw[f];show adV _ (abk _ h))
 show lM (θ.of e1) (by rw[R];omega) ?_>>=bw (J.seq o) λp2 L=>?_
 let c2:aq (ws.map V.str) ↑(((↥os:Nat):Int)+1) none=g.map V.str:=by
  unfold aq;rw[show((↥os:Nat):Int)+1=((↥os+1:Nat):Int)by omega,_H.gA,ajw (by rw[ϭ];omega),f];show(((os++μ ":"::g).map V.str).drop (↥os+1)).take (↥((os++μ ":"::g).map V.str)-(↥os+1))=_;rw[show(os++μ ":"::g).map V.str=((os++[μ ":"]).map V.str)++g.map V.str by simp,List.drop_left' (by simp)];show aet (by simp;omega)
 rw[c2];let#[W,Y,H1,p2,H2]:=Η L (.lst (g.map V.str));lk;show lM (θ.of Y) (by rw[R];omega) ?_>>=#[Α,λp hp=>?_]*>q os g f j () p _ ((J<|>W)<|>(ζ.upd hp)) ξ
inductive Xl(mg:MG):Sp
 |mk (z:Str):vs=[.str z]->↥z<=4000->(∀x y,Λ 58 z=[x,y]->∀p H',ζ H H'->H p=none->H' p=↑(.tup [.str x,.str y])->Q (.ref p) H')->(↥(Λ 58 z)≠2->bx mg H E "NoLine")
def KJ:Def 1 "read_column_desk" ["word"] (Xl mg):=by
 show adE T (λvs H Q E h=>by let#[z,rfl,_]:=h;rfl) (λ_ _ _ _ s H vs Q E n h=>?_);intro X _;let#[z,rfl,m,q,f]:=h;let nd:=YJ.nd;let o:=T.S7;let u:=T.aN;let hsz:=ϯ;w_up;f_tup;show au F.plainAttrs_str F.slot_str_split F.type_str_split (h:=?_)>>=m_split (c:=58) λg h1=>?_
 generalize Λ 58 z=ps at q f⊢;let#[a,e1,H,g,H1]:=Η h1 (.lst (ps.map V.str));let i:θ K H1 g (ps.map V.str):=θ.of e1;w_up;show Δ ?_;lk;by_cases j:↥ps=2
 .obtain⟨x,y,rfl⟩:∃x y,ps=[x,y]:=by
   match ps,j with
   |[x,y],_=>show#[x,y,rfl]
  lk;show χ ?_;symm;lk;show Φ i (show ύ [V.str x,V.str y] 0=↑(V.str x)from rfl) ?_>>=Φ i (show ύ [V.str x,V.str y] 1=↑(V.str y)from rfl) ?_>>=#[Α,λp l=>?_]*>q x y rfl p _ (a<|>(ζ.upd l)) (a.free l) ξ
 .let e:¬V.int ((↥(ps.map V.str):Nat):Int)=V.int 2:=λz=>by
   injection z with z
   rw[ϭ]at z;omega
  rw[decide_eq_false e];show Ι _ _ _ _ _;f_len;show aM ς T.mD ?_;cbv;show fJ ?_;cbv;show#[z,rfl,(),z,4000,rfl,m,(),?_];cbv;intro v;cbv;show#[by rw[hsz];simp,f j H1 a]
theorem Mi:∀{cs:List Β}{z:Str}{i:Nat},il cs z i≠.non->∃c∈cs,c.1=z
 |[],_,_,h=>absurd rfl h
 |d::r,z,i,h=>by
  by_cases e:d.1=z
  .show#[d,by simp,e]
  .let#[c,a,f]:=Mi (cs:=r) (z:=z) (i:=i+1) (by unfold il at h;rw[if_neg e]at h;show h);show#[c,by simp[a],f]
def Ox{cs:List Β}{z:Str}{os:List Ord}(h:gM cs z=↑os):↥os<=4/\mU cs os/\(os.map Prod.fst).Nodup:=by
 unfold gM at h;by_cases j:z=""
 .rw[if_pos j]at h;cases h;show#[aht _,(λo f=>by cases f),aqS]
 rw[if_neg j]at h;by_cases l:4<↥(Λ 32 z)
 .rw[if_pos l]at h;cases h
 rw[if_neg l]at h;cases e:dg (pA cs) (Λ 32 z)with
 |none=>rw[e]at h;cases h
 |some a=>
  rw[e]at h;let h:(if(a.map Prod.fst).Nodup then some a else none)=↑os:=h;by_cases g:(a.map Prod.fst).Nodup
  .rw[if_pos g]at h;cases h;let#[s,n]:=Eb e;show#[(),λo f=>?_,g];let#[i,hi]:=ak7 f;let p:=(aab.mp hi).1;let#[y,m,c]:=n i _ (aag ());rw[hi]at m;cases m;unfold pA at c;split at c
   .rename_i q;cases c;show Mi q.2
   .cases c
  .rw[if_neg g]at h;cases h
theorem Zf{c:Nat}:∀(l:List Nat)(p:List Nat),p∈cutAt c l->p.Sublist l
 |[],p,h=>by
  have:p=[]:=by simpa [cutAt]using h
  rw[this];show List.Sublist.slnil
 |x::r,p,h=>by
  let f:=Zf (c:=c) r;unfold cutAt at h;by_cases g:x=c
  .rw[if_pos g]at h;obtain z|z:=aaz.mp h
   .rw[z];show List.nil_sublist _
   .show(f p z).cons _
  .rw[if_neg g]at h;cases e:cutAt c r with
   |nil=>show absurd e (wJ c r)
   |cons a t=>
    rw[e]at h f;obtain z|z:=aaz.mp h
    .rw[z];show(f a (by simp)).cons₂ _
    .show(f p (by simp[z])).cons _
theorem xj(c:Nat):∀l:List Nat,↥(cutAt c l)=l.count c+1
 |[]=>rfl
 |x::r=>by
  let g:=xj c r;unfold cutAt;by_cases f:x=c
  .rw[if_pos f,aap,g,f,asJ]
  .rw[if_neg f,List.count_cons_of_ne f];cases e:cutAt c r with
   |nil=>show absurd e (wJ c r)
   |cons a t=>rw[e]at g;show g
def ado(c:Nat)(z:Str):0<↥(Λ c z):=by
 unfold Λ;rw[ϭ,xj];omega
structure dX(z:List Nat):Prop where
 len:↥z<=1000
 codes:∀c∈z,c<1114112
 few:z.count 32<=59
theorem dX.sub{z y:List Nat}(h:dX z)(s:y.Sublist z):dX y:=#[adQ s.length_le h.len,λc a=>h.codes c (s.subset a),adQ (s.count_le 32) h.few]
def dX.cut{z y:Str}{c:Nat}(h:dX z.cps.toList)(a:y∈ Λ c z):dX y.cps.toList:=by
 unfold Λ at a;let#[l,e,rfl]:=ad8.mp a;show h.sub (Zf<*e)
theorem dX.sv{z:Str}(h:dX z.cps.toList):zH z:=#[h.len,by unfold Λ;rw[ϭ,xj];have:=h.few;omega,h.codes]
def WQ(b:Bool):Str:=if b=true then μ "l" else μ "s"
def U3(b:Bool):Str:=if b=true then μ "ahead" else μ "behind"
def v5(cs:List Β)(z:Str):Str:=match cs[bL cs z]? with
 |some c=>c.2
 |none=>μ ""
def gC(mg:MG)(H:Hp)(E:XK):=∀d H',ζ H H'->d.1=none->E (.ref (η mg "NoMark")) d H'
theorem gC.same{H H':Hp}{E:XK}(h:gC mg H E)(s:ζ H H'):gC mg H' E:=λd H2 a hd=>h d H2 (s<|>a) hd
inductive Oa(mg:MG):Sp
 |mk (z:Str):vs=[.str z]->↥z<=4000->gC mg H E->(∀b H',z=WQ b->ζ H H'->Q (.str (du b)) H')
def KN:Def 1 "read_make" ["letter"] (Oa mg):=by
 exists Vb,KN,m,#[z,rfl,g,j,q],2,p.Br,s.GC,1;w_up;show anV (by walk_at"po") (by rfl) (by intro _;rfl) ?_>>=#[Α,λt l=>?_];let#[st,f]:=Η l (.tup [.str ("living":Str),.str ("still":Str)]);show#[t,_,rfl,ψ.of f,λi σ H'=>(∃o,σ=[↑(.str z),o])/\H'=upd H t (.tup [.str ("living":Str),.str ("still":Str)]),#[#[none,rfl],rfl],λi σ' H' hi e=>?_,λi x σ' H' a e=>?_,λσ' H' e=>?_]
 .let#[_,rfl]:=e;show ψ.of f
 .let#[#[o,rfl],rfl]:=e;show Γ nd ?_
  match i,a with
  |0,a=>
   let c:x=.str ("living":Str):=(Option.some.inj a).symm;subst c;f_len;show Δ ?_>>=um (n:=108) (by rw[hsz];fin2) (by fin2) ?_>>=Ζ (λh=>?_) (λ_=>χ #[#[_,rfl],rfl]);symm;lk;show q true _ ((V.str.inj h)<|>(by fin2)) st
  |1,a=>
   let c:x=.str ("still":Str):=(Option.some.inj a).symm;subst c;f_len;show Δ ?_>>=um (n:=115) (by rw[hsz];fin2) (by fin2) ?_>>=Ζ (λh=>?_) (λ_=>χ #[#[_,rfl],rfl]);symm;lk;show q false _ ((V.str.inj h)<|>(by fin2)) st
  |i+2,a=>simp at a
 .let#[#[o,rfl],rfl]:=e;f_len;show aM ς T.j9 ?_;cbv;show fJ ?_;f_are;show#[z,rfl,(),_,4000,rfl,g,(),?_];cbv;intro u;cbv;show#[by rw[hsz];simp,j _ _ st rfl]
inductive Te(mg:MG):Sp
 |mk (z:Str) (m:Int):vs=[.str z,.int m]->(m=5000\/m=1000000000)->↥z<=4000->gC mg H E->(∀(i:Nat) H',(i:Int)<=m->ζ H H'->Q (.int (i:Int)) H')
def Cd:Def 4 "read_whole" ["word","most"] (Te mg):=by
 exists aaS,Cd,o,#[z,m,rfl,c,g,j,q],2,1,p vU;obtain⟨k,l,a,k1,k2⟩:∃k,↥(μ (toString m))=k/\m<((10^k:Nat):Int)/\1<=k/\k<=600:=by
  obtain rfl|rfl:=c
  .show#[4,by fin2,by decide,(),()]
  .show#[10,by fin2,by decide,(),()]
 k_go;show#[_,m,k,rfl,(),(),(),l,a,k1,k2,λH1 f =>?_];cases e:ϣ z.cps.toList m with
 |none=>
  show Ι _ _ _ [↑_,↑_,↑.non] _;w_up;show Δ ?_;lk;f_len;show aM ς T.j9 ?_;cbv;show fY ?_;f_are;show#[m,rfl,by obtain rfl|rfl:=c<;>fin2,_,600,rfl,(),(),?_];cbv;show fJ ?_;f_are;show#[z,rfl,(),_,4000,rfl,g,(),?_];cbv;intro s;cbv;show#[by rw[hsz];simp,j _ _ f rfl]
 |some i=>
  show Ι _ _ _ [↑_,↑_,↑(.int i)] _;w_up;show Δ ?_>>=χ ?_;symm;lk;unfold ϣ at e;split at e
  .rename_i n;cases e;show q _ H1 n.2 f
  .cases e
inductive Rp(mg:MG):Sp
 |mk (z:Str):vs=[.str z]->↥z<=4000->gC mg H E->(∀b,Q (.str (U3 b)) H)
def CZ:Def 1 "read_side" ["sign"] (Rp mg):=by
 exists ["sign"],CZ,e,#[z,rfl,a,c,q],f.ags,g.ajv,i.aeh,j.ahw,1;w_up;show Δ ?_>>=Ζ (λ_=>?_) (λ_=>?_)
 .f_len;show ο ?_>>=q true
 show χ ?_;w_up;show Δ ?_>>=Ζ (λ_=>?_) (λ_=>?_)
 .f_len;show ο ?_>>=q false
 show χ ?_;f_len;show aM ς T.j9 ?_;cbv;show fJ ?_;f_are;show#[z,rfl,(),_,4000,rfl,a,(),?_];cbv;intro l;cbv;show#[by rw[hsz];simp,c _ _ (ζ.refl _) rfl]
def bM(cs:List Β)(ws:List Str):Option (List V):=if ↥ws=↥cs then dg (λp:Β ×Str=>ϟ p.1.2 p.2) (cs.zip ws)else none
inductive Ym(mg:MG):Sp
 |mk (p q:δ) (cs:List Β) (zs:List Str):vs=[.ref p,.ref q]->H p=↑(.lst ((cs.map Prod.snd).map V.str))->H q=↑(.lst (zs.map V.str))->↥cs<=1000->(∀z∈zs,↥z<=4000)->(bM cs zs=none->∀H',ζ H H'->E (.ref (η mg "NoValue")) (none,true) H')->(∀xs l H',bM cs zs=↑xs->ζ H H'->H l=none->H' l=↑(.lst xs)->Q (.ref l) H')
def Xi:Def 6 "read_values" ["kinds","words"] (Ym mg):=by
 exists ["kinds","words"],ahc,hr,#[p,G,cs,zs,rfl,I,J,hkl,oF,bad,q],n1.aN,n2.aaT;let L:(["kind","word"]:List Str).Nodup:=by fin2
 let hsz:=ϯ;let D1:=!vo;let g:↥((cs.map Prod.snd).map V.str)=↥cs:=by rw[ϭ,ϭ]
 let M:↥(zs.map V.str)=↥zs:=by rw[ϭ]
 let SP:θ K H p ((cs.map Prod.snd).map V.str):=θ.of I;let SQ:θ K H G (zs.map V.str):=θ.of J;w_up;show Δ ?_;cbv;rw[g,M];show cC (λϺ=>?_) (λhe=>?_)
 .f_len;show aM ς T.Kl ?_;cbv;show#[by rw[hsz];simp,bad (if_neg λe=>Ϻ (by rw[e])) H (ζ.refl _)]
 let j:↥zs=↥cs:=by
  have:=V.int.inj he;omega
 let eF:bM cs zs=dg (λp:Β ×Str=>ϟ p.1.2 p.2) (cs.zip zs):=if_pos j;rw[eF]at bad q;let l:∀(i:Nat)(k:Str)(z:Str),(cs.map Prod.snd)[i]?=↑k->zs[i]?=↑z->∃c,(cs.zip zs)[i]?=↑(c,z)/\c.2=k:=λi k z h1 h2=>by
  rw[acj]at h1;let#[c,hc,rfl]:=aeF.mp h1;show#[c,by rw[ar3];show#[hc,h2],rfl]
 show χ ?_;symm;show aeo ["kind","word"] (σ':=[none,none]) (by rfl) ς rfl rfl (by rfl) (bD (ρ RQ)) (by rfl) n2 (by rfl) (by rfl) ?_;f_are;f_are;show#[p,G,_,_,rfl,rfl,I,J,by rw[g];omega,λO=>∃R S,O=[R,S],λf i u H'=>∃c z,(cs.zip zs)[i]?=↑(c,z)/\ϟ c.2 z=↑u,#[none,none,rfl],λf i u H2 H3 ys _ _ p=>p,λfp f C s3 H0 F i O x a H6 xo U hi m n hys hG=>?_,λf a ys U o s e5 n=>?_]
 .let#[R,S,rfl]:=m;let#[t,y,z,rfl,B,rfl,W,Y]:=hG;rw[acj]at W Y;let#[k,hk,rfl]:=aeF.mp W;let#[z,Z,rfl]:=aeF.mp Y;let#[c,M9,rfl]:=l i k z hk Z;let D:ζ a (upd a t (.tup [.str c.2,.str z])):=ζ.upd B;show aJ (ψ.of ξ) (Κ (Γ L (Κ (Γ L (aF ?_)))));generalize upd a t (.tup [.str c.2,.str z])=H7 at D⊢;cbv;show#[c.2,z,rfl,oF z (aan Z),λH8 R6=>?_];cases e:ϟ c.2 z with
  |some v=>show#[#[_,_,rfl],#[c,z,M9,e],D<|>R6]
  |none=>show bad (KC (x:=(c,z)) (aan M9) e) _ ((n<|>D)<|>R6)
 .show q ys f a (Rq ?_ λi x y h1 h2=>?_) n U e5
  .rw[o,atO,g,M]
  .let#[c,z,g1,g2]:=s i y h2;rw[h1]at g1;cases g1;show g2
def ala{cs:List Β}{ws:List Str}{xs:List V}(h:bM cs ws=↑xs):ω (λ(c:Β) x=>bR c.2 x) cs xs:=by
 unfold bM at h;by_cases a:↥ws=↥cs
 .rw[if_pos a]at h;let#[h1,h2]:=Eb h;rw[atO,a,at7]at h1;show pN h1.symm λj b g=>?_
  let m:=(aab.mp g).1;let i:j<↥cs:=()
  let f:j<↥ws:=()
  let#[y,l,e]:=h2 j (cs[j],ws[j]) (by rw[ar3];show#[aag i,aag f]);rw[g]at l;cases l;show#[_,aag i,QV e]
 .rw[if_neg a]at h;cases h
inductive Cr(K:ϩ):Sp
 |mk (a C dx:δ) (fs:List (Str×V)) (v:V):vs=[.ref a]->H a=↑(.ins C dx fs)->Ϙ K C->Ο K C "text"->fs.lookup ("text":Str)=↑v->Q v H
def jF{cc:Bool}:FD P w K mg base cc 1 "shown" "Sieve.shown" jr ["self"] (Cr K):=by
 exists ["self"],_,i,#[a,C,dx,fs,v,rfl,c,e,f,g,q];symm;show ϝ ?_;f_are;show#[a,C,dx,fs,v,rfl,c,e,f,g,q]
theorem bA.txt{mg:MG}{H:Hp}:∀{t:Tr}{a:δ}{z:Str},bA mg H t a z->∃dx fs,H a=↑(.ins (b8 mg t) dx fs)/\fs.lookup ("text":Str)=↑(.str z)/\fs.lookup ("shown":Str)=none
 |.one .all,a,z,h=>by let#[dx,h]:=h;show#[dx,_,h,rfl,rfl]
 |.one (.none p),a,z,h=>by let#[dx,h]:=h;show#[dx,_,h,rfl,rfl]
 |.one (.look l p v),a,z,h=>by let#[dx,h]:=h;show#[dx,_,h,rfl,rfl]
 |.nt t,a,z,h=>by let#[dx,b,y,h,_]:=h;show#[dx,_,h,rfl,rfl]
 |.bo t u,a,z,h=>by let#[dx,b,c,y,x,h,_]:=h;show#[dx,_,h,rfl,rfl]
 |.ei t u,a,z,h=>by let#[dx,b,c,y,x,h,_]:=h;show#[dx,_,h,rfl,rfl]
theorem ag0(T:Txt K mg):∀t:Tr,Υ P w K mg base true 1 (b8 mg t) "shown" ["self"] (Cr K)/\Ϙ K (b8 mg t)/\ Ο K (b8 mg t) "text"
 |.one .all=>#[jF.meth T.Aa T.ah4,T.Aa,T.Qw]
 |.one (.none _)=>#[jF.meth T.uZ T.abY,T.uZ,T.Oc]
 |.one (.look .is _ _)=>#[jF.meth T.rA T.aee,T.rA,T.YZ]
 |.one (.look .under _ _)=>#[jF.meth T.pW T.aiA,T.pW,T.Td]
 |.one (.look .over _ _)=>#[jF.meth T.p7 T.afv,T.p7,T.Rx]
 |.one (.look .holds _ _)=>#[jF.meth T.qH T.adR,T.qH,T.Ru]
 |.nt _=>#[jF.meth T.wW T.anf,T.wW,T.Uy]
 |.bo _ _=>#[jF.meth T.qC T.aol,T.qC,T.aaJ]
 |.ei _ _=>#[jF.meth T.qL T.akp,T.qL,T.Mg]
def afK{cs:List Β}{z:Str}(h:∃c∈cs,c.1=z):∃c,cs[bL cs z]?=↑c/\c.2=v5 cs z:=by
 let a:=uc h;show#[cs[bL cs z],aag a,?_];unfold v5;rw[aag a]
def rR(cs:List Β)(os:List Ord):List Β :=os.map λo=>(o.1,v5 cs o.1)
inductive Pn(mg:MG):Sp
 |mk (a b:δ) (z:Str) (cs:List Β) (os:List Ord):vs=[.ref a,.ref b,.str z]->↥z<=1000->aH H a cs->gm H b os->mU cs os->↥os<=4->gC mg H E->bx mg H E "NoValue"->((∃w r,Λ 32 (Ω z ↑1 none)=w::r/\↥r=↥os)->∀p H',ζ H H'->Q (.ref p) H')
def Kq:Def 7 "read_cut" ["columns","order","text"] (Pn mg):=by
 exists Mj,Kq,hr,#[a,b,z,cs,os,rfl,hz,hC,#[ws,hb,j],D,hol,qx,qv,q],2,g1.Wf,1;let vR:(["name","up","columns"]:List Str).Nodup:=by fin2
 let D1:=!CZ;let D2:=!Cd;let D3:=!Xi;let D4:=!pF;let G:=j.len;let lz1:=uP z none ↑1;let lz2:=uP z ↑1 none;k_go;show iw ?_>>=#[_,rfl,(),qx,λsd=>?_];w_up;f_tup;show au F.plainAttrs_str F.slot_str_split F.type_str_split (h:=?_)>>=iw ?_;lk;let I:∀y∈ Λ 32 (Ω z ↑1 none),↥y<=4000:=λy J=>by
  have:=rm J;omega
 let l:=ado 32 (Ω z ↑1 none);show m_split (c:=32) λl1 h1=>?_
 generalize Λ 32 (Ω z ↑1 none)=wl at I l q⊢;obtain⟨g,r,rfl⟩:∃w0 wr,wl=w0::wr:=by
  cases wl with
  |nil=>simp at l
  |cons a r=>show#[a,r,rfl]
 let#[L,e1,H,l1,H1]:=Η h1 (.lst ((g::r).map V.str));k_go;show Φ (θ.of e1) (show ύ ((g::r).map V.str) ((0:Nat):Int)=↑(V.str g)from ϛ rfl) ?_>>=#[g,1000000000,rfl,.inr rfl,I g (by simp),qx.same L,λrow H2 hrow s2=>?_];let f:=L<|>s2;w_up;show oU ["name","up","columns"] (σ':=[none,none,↑(.ref a)]) (bD (ρ J9)) nd ?_;f_are;show#[b,ws,rfl,θ.of (f<*hb),(),λτ=>∃o1 o2,τ=[o1,o2,↑(.ref a)],λB i u H'=>∃o,os[i]?=↑o/\u=.str (v5 cs o.1),#[none,none,rfl],λB i u H2 H3 ys _ _ p=>p,λfp B C s3 H0 i τ x H4 H3 aA hi M m hys hG=>?_,λB H4 ys aA O R e4 m =>?_]
 .let#[o1,o2,rfl]:=M;let#[aB,rfl]:=hG;let#[o,ho,t,rfl,ht]:=j.get aB;show aJ (ψ.of (m<*(f _ _ ht))) (Κ (Γ vR (Κ (Γ vR (aF ?_)))));lk;let Wg:=(hC.same f).same m;show#[a,cs,o.1,rfl,Wg,λH5 bF=>?_];let n:=D o (aan ho);rw[vA 0 n,arW];let#[c,hg,U]:=afK n;let#[vs,ea,W]:=Wg.same bF;let#[cv,gc,tc,rfl,Y]:=W.get' hg;show Φ (θ.of ea) (ϛ gc) ?_>>=gH (ψ.of Y) (show ύ [V.str c.1,V.str c.2] 1=↑(V.str c.2)from rfl) ?_*>#[#[_,_,rfl],#[o,ho,by rw[U]],bF]
 .let ey:=jc (ys:=os) (λo=>V.str (v5 cs o.1)) (by rw[O,G]) R;let mZ:ys=((rR cs os).map Prod.snd).map V.str:=by rw[ey];unfold rR;rw[agf,agf];rfl
  subst mZ;let Be:=f<|>m;let Z:=m _ _ (s2<*e1);symm;lk;show bw (θ.of Z) λl2 h2=>?_
  let ab:aq ((g::r).map V.str) ↑1 none=r.map V.str:=by
   rw[show↑(1:Int)=↑((1:Nat):Int)from rfl,JP];rfl
  rw[ab];let#[s5,e5,H4,l2,H5]:=Η h2 (.lst (r.map V.str));let rD:=Be<|>s5;lk;show#[B,l2,rR cs os,r,rfl,s5<*e4,e5,by unfold rR;rw[ϭ];omega,λy J=>I y (by simp[J]),λ_=>qv.same rD,λxs v H6 hx s6 hv ev=>?_]>>=#[Α,λk U=>?_];let#[s7,e7,H6,k,H7]:=Η U (.tup [.ref v,.int row]);lk;show#[Α,λp hp=>?_];let s8:ζ H7 (upd H7 p (.tup [.str (U3 sd),.ref k])):=ζ.upd hp;show q #[g,r,rfl,Classical.byContradiction λϺ=>?_] p _ (rD<|>s6<|>s7<|>s8);let hn:bM (rR cs os) r=none:=if_neg λe=>Ϻ (by rw[e];unfold rR;rw[ϭ])
  rw[hn]at hx;cases hx
def zj(cs:List Β)(z:Str):=∃p0 p1 p2 p3 a b os w r,Λ 47 z=[p0,p1,p2,p3,a]/\p0=WQ b/\gM cs p2=↑os/\ Λ 32 (Ω a ↑1 none)=w::r/\↥r=↥os
inductive TY(mg:MG):Sp
 |mk (a:δ) (z:Str) (cs:List Β):vs=[.ref a,.str z]->dX z.cps.toList->aH H a cs->zq cs->gC mg H E->bx mg H E "NoOrder"->d9 mg H E->bx mg H E "NoValue"->¬zj cs z
def HS:Def 51 "read_body" ["columns","body"] (TY mg):=by
 exists WT,HS,Z,#[a,z,cs,rfl,L,n,hk,m,qo,qs,qv,f],2,g1.adg,g2.abf,g3.aop,n1.aN,1;let oF:↥z<=1000:=L.len;let D1:=!KN;let D2:=!Cd;let D3:=!qN;let D4:=!rO;let D5:=!Kq;w_up;f_tup;show au F.plainAttrs_str F.slot_str_split F.type_str_split (h:=?_)>>=m_split (c:=47) λp h1=>?_
 let j:∀y∈ Λ 47 z,dX y.cps.toList:=λy q=>L.cut q
 unfold zj at f;generalize Λ 47 z=ps at j f⊢;let#[g,e1,H,p,H1]:=Η h1 (.lst (ps.map V.str));let l:θ K H1 p (ps.map V.str):=θ.of e1;w_up;show Δ ?_>>=cC (λ_=>?_) (λh=>?_)
 .f_len;show aM ς T.j9 ?_;cbv;show#[by rw[hsz];simp,m _ _ g rfl]
 obtain⟨p0,p1,p2,p3,e,rfl⟩:∃p0 p1 p2 p3 e,ps=[p0,p1,p2,p3,e]:=by
  let h5:↥ps=5:=by
   have:=V.int.inj h;rw[ϭ]at this;omega
  match ps,h5 with
  |[p0,p1,p2,p3,e],_=>show#[p0,p1,p2,p3,e,rfl]
 let l0:↥p0<=1000:=(j p0 (by simp)).len;let p:↥p1<=1000:=(j p1 (by simp)).len;let l2:↥p2<=1000:=(j p2 (by simp)).len;let l4:↥e<=1000:=(j e (by simp)).len;let M:=(j p3 (by simp)).sv;show χ ?_;k_go;show Φ l (i:=0) rfl ?_>>=#[_,rfl,(),m.same g,λlv H2 lU u=>?_];k_go;show Φ (u.seq l) (i:=1) rfl ?_>>=#[_,5000,rfl,.inl rfl,(),m.same (g<|>u),λmo H3 hmo s3=>?_];let v:=u<|>s3;let O:=g<|>v;k_go;show Φ (v.seq l) (i:=2) rfl ?_>>=#[a,cs,p2,rfl,n.same O,(),λH' sm _=>qo H' (O<|>sm),λo os H4 s4 R ho hO=>?_];let#[o4,x,ond]:=Ox R;let B:=v<|>s4;let U:=g<|>B;k_go;show Φ (B.seq l) (i:=3) rfl ?_>>=#[a,cs,p3,rfl,n.same U,hk,M.len,M.words,(λ_=>qs.same U),λsv t y H5 W C _ _ q=>?_];let#[rfl,_]:=q;let Y:=B<|>W;let D:=g<|>Y;let#[M2,kc,na]:=ag0 (P:=P) (w:=w) (base:=base) T t;let#[dx,fs,es,et,G]:=C.txt;symm;lk;show bV (pl:=_) Z ς ?_;f_are;show#[sv,b8 mg t,dx,_,true,1,_,Cr K,rfl,es,G,M2,by decide,id,sv,b8 mg t,dx,fs,_,rfl,es,kc,na,et,?_]>>=Φ (Y.seq l) (i:=4) rfl ?_>>=#[a,o,e,cs,os,rfl,l4,n.same D,hO.same W,x,o4,m.same D,qv.same D,λhc=>absurd ?_ f];let#[wd,r,I,J]:=hc;show#[p0,p1,p2,y,e,lv,os,wd,r,rfl,lU,R,I,J]
def yN{c1 c2 c3 cls:ε}{a c e:Bool}(h1:aox K cls c1=↑a)(h2:aox K cls c2=↑c)(f:aox K cls c3=↑e):atD K cls [c1,c2,c3]=↑(a||(c||(e||false))):=by
 simp only[atD,h1,h2,f]
theorem gF(T:Txt K mg)(i j:Nat){x y:δ}(c:[η mg "LeafError",η mg "NoColumns",η mg "NoValue",η mg "NoOrder",η mg "NoRow",η mg "NoMark",η mg "NoSize",η mg "NoLine",η mg "NoBook",η mg "NoSieve",η mg "NoPage",η mg "Twice",η mg "Absent",η mg "Gone",η mg "Later"][i]?=↑x)(f:[η mg "LeafError",η mg "NoColumns",η mg "NoValue",η mg "NoOrder",η mg "NoRow",η mg "NoMark",η mg "NoSize",η mg "NoLine",η mg "NoBook",η mg "NoSieve",η mg "NoPage",η mg "Twice",η mg "Absent",η mg "Gone",η mg "Later"][j]?=↑y)(a:i≠j:=by decide):x≠y:=λe=>by
 let g:=(aab.mp c);let l:=(aab.mp f);let#[p1,r1]:=g;let#[p2,m]:=l;show a ((asl T.Yi (h₀:=p1) (h₁:=p2)).mp (r1<|>e<|>m.symm))
def ajG{z:List Nat}(h:46∈z):∃b w,z=b++46::w/\46∉w:=by
 let#[s,t,e,h1]:=List.append_of_mem (apl.mpr h)|>λ_=>ao8 (apl.mpr h)
 show#[t.reverse,s.reverse,?_,λz=>h1 (apl.mp z)];have:=congrArg List.reverse e;rw[List.reverse_reverse,asT,atl,aqO]at this;show this
def qZ(cs:List Β)(z:List Nat):=∃b w,z=b++46::w/\46∉w/\w=(gD (cH b)).cps.toList/\zj cs #[b.toArray]
inductive Rv(mg:MG):Sp
 |mk (a:δ) (z:Str) (cs:List Β):vs=[.ref a,.str z]->dX z.cps.toList->aH H a cs->zq cs->gC mg H E->¬qZ cs z.cps.toList
def Ec:Def 52 "read_mark" ["columns","text"] (Rv mg):=by
 exists Sh,Ec,R,#[a,z,cs,rfl,C,J,L,p,q],2,U.ae9,1,W HS,Y Dl;let Z:↥z<=1000:=C.len;w_up;show jo ?_*>au PySem.F.plainAttrs_str PySem.F.slot_str_rpartition PySem.F.type_str_rpartition (h:=?_)>>=ajI (c:=46) () λt D=>?_
 by_cases G:46∈z.cps.toList
 case neg=>
  rw[aeB G];show EG _ _ _ _ (upd H t (.tup [.str akU,.str akU,.str z])) _*>aJ (ψ.of ξ) (Κ (Γ nd (Κ (Γ nd (Κ (Γ nd (aF ?_)))))));let g:ζ H (upd H t (.tup [.str akU,.str akU,.str z])):=ζ.upd D;generalize upd H t (.tup [.str akU,.str akU,.str z])=H1 at g⊢;w_up;show Δ ?_>>=Ζ (λ_=>?_) (λh=>absurd (by fin2) h);f_len;show aM ς T.j9 ?_;cbv;show#[by rw[hsz];simp,p _ H1 g rfl]
 let#[b,j,s,I]:=ajG G;rw[als s I];let i:dX b:=C.sub (by rw[s];show asb _ _);let Iw:=i.len;show EG _ _ _ _ (upd H t (.tup [.str #[b.toArray],.str #[#v[46]],.str #[j.toArray]])) _*>aJ (ψ.of ξ) (Κ (Γ nd (Κ (Γ nd (Κ (Γ nd (aF ?_)))))));let g:ζ H (upd H t (.tup [.str #[b.toArray],.str #[#v[46]],.str #[j.toArray]])):=ζ.upd D;generalize upd H t (.tup [.str #[b.toArray],.str #[#v[46]],.str #[j.toArray]])=H1 at g⊢;w_up;show Δ ?_>>=fM ?_>>=#[#[b.toArray],rfl,by show b.toArray.size<=_;simp;omega,i.codes,?_];let f:(#[j.toArray]:Str)=gD (cH b)->¬zj cs #[b.toArray]:=λe M=>q #[b,j,s,I,by rw[<-e],M]
 change OP _ _ _ (.str (gD (cH b))) _ _;generalize gD (cH b)=fz at f⊢;lk;show cC (λ_=>?_) (λu=>?_)
 .f_len;show aM ς T.j9 ?_;cbv;show#[by rw[hsz];simp,p _ H1 g rfl]
 show χ ?_;f_len;show uU (λ_ cls d H'=>ζ H1 H'/\((cls=.ref (η mg "NoMark")/\d.1=none)\/cls=.ref (η mg "NoOrder")\/cls=.ref (η mg "NoSieve")\/cls=.ref (η mg "NoValue"))) rfl rfl (λF pn xo po=>?_) (λσ cls d H' O=>?_)
 .f_len;show ο ?_>>=#[a,_,cs,rfl,i,J.same g,L,λd H' sm hd=>#[sm,.inl #[rfl,hd]],λH' sm=>#[sm,.inr (.inl rfl)],λe b n H' sm he=>#[sm,.inr (.inr (.inl rfl))],λH' sm=>#[sm,.inr (.inr (.inr rfl))],f (V.str.inj u)]
 let#[sm,v]:=O;let l:mg "NoOrder"=↑(.ref (η mg "NoOrder")):=T.mR.at_;let m:mg "NoSieve"=↑(.ref (η mg "NoSieve")):=T.mJ.at_;let gV:mg "NoValue"=↑(.ref (η mg "NoValue")):=T.iK.at_;let x:=gF T 0 3 rfl rfl;let y:=gF T 0 9 rfl rfl;let B:=gF T 0 2 rfl rfl;let o:∀d,d.1=none->E (.ref (η mg "NoMark")) d H':=λd hd=>p d H' (g<|>sm) hd
 obtain⟨rfl,hd⟩|rfl|rfl|rfl:=v
 .show aiL (by rfl) l (by decide) (by rfl) m (by decide) (by rfl) gV (by decide) (yN (j4 T.yo T.mR (gF T 5 3 rfl rfl) x) (j4 T.yo T.mJ (gF T 5 9 rfl rfl) y) (j4 T.yo T.iK (gF T 5 2 rfl rfl) B)) ?_*>aft ς rfl ?_*>o _ hd
 .show Ei ς rfl rfl l m gV (yN (uD T.mR) (j4 T.mR T.mJ (gF T 3 9 rfl rfl) y) (j4 T.mR T.iK (gF T 3 2 rfl rfl) B)) T.j9 ?_*>o _ rfl
 .show Ei ς rfl rfl l m gV (yN (j4 T.mJ T.mR (gF T 9 3 rfl rfl) x) (uD T.mJ) (j4 T.mJ T.iK (gF T 9 2 rfl rfl) B)) T.j9 ?_*>o _ rfl
 .show Ei ς rfl rfl l m gV (yN (j4 T.iK T.mR (gF T 2 3 rfl rfl) x) (j4 T.iK T.mJ (gF T 2 9 rfl rfl) y) (uD T.iK)) T.j9 ?_*>o _ rfl
inductive R1(mg:MG):Sp
 |mk (A:BA) (B:Bk) (z:Str):vs=[.ref A.b,.str z]->dq mg H A B->dX z.cps.toList->gC mg H E->¬qZ B.heads z.cps.toList
def yW:Def 53 "read_good_mark" ["book","text"] (R1 mg):=by
 show Ε (S:=O1) T.yW (λf q u outer s H vs Q E i h=>?_);intro X _;let#[A,B,z,rfl,e,j,l,a]:=h;let g:=e.bk;let nd:=O1.nd;let m:Υ P w K mg base true 1 (cB mg) "columns" ["self"] (eV mg):=(su T).meth T.ϔ T.qX;let v:=!Ec;k_go;show bV (pl:=_) i ς ?_;f_are;show#[A.b,cB mg,A.dx,_,true,1,_,eV mg,rfl,g.ins,by rfl,m,by decide,id,A,B,rfl,g,λc H1 n o p=>?_]>>=#[c,z,B.heads,rfl,j,p,λ_ h=>wY e.ok h,l.same n,a]
inductive uK(mg:MG):Sp
 |mk (A:BA) (B:Bk) (z:Str) (n:Int):vs=[.ref A.b,.str z,.int n]->dq mg H A B->dX z.cps.toList->gC mg H E->¬qZ B.heads z.cps.toList
def CP(a:cR K mg base "sorted_by"):Def 54 "turn_forth" ["book","mark","size"] (uK mg):=by
 show Ε (N:=["book","mark","size"]) T.CP (λf g i outer s H vs Q E j h=>?_);intro X _;let#[A,B,z,n,rfl,h1,h2,c,e]:=h;let l:Def P w K mg base true 50 "leaf_from" ["book","mark","size","onward"] (sH K mg true):=rZ T a true;let m:=!yW;symm;lk;show #[A,B,z,rfl,h1,h2,c,e]
def Ht(a:cR K mg base "sorted_by"):Def 54 "turn_back" ["book","mark","size"] (uK mg):=by
 show Ε (N:=["book","mark","size"]) T.Ht (λf g i outer s H vs Q E j h=>?_);intro X _;let#[A,B,z,n,rfl,h1,h2,c,e]:=h;let l:Def P w K mg base true 50 "leaf_from" ["book","mark","size","onward"] (sH K mg true):=rZ T a true;let m:=!yW;symm;lk;show #[A,B,z,rfl,h1,h2,c,e]
structure ϒ(ws:List Str):Prop where
 len:↥ws<=20
 sh:∀z∈ws,↥z<=40
 cd:∀z∈ws,∀c∈z.cps.toList,c<1114112/\c≠32
theorem ϒ.sub{ws vs:List Str}(h:ϒ ws)(s:vs.Sublist ws):ϒ vs:=#[adQ s.length_le h.len,λz a=>h.sh z (s.subset a),λz a=>h.cd z (s.subset a)]
theorem ϒ.bC{ws:List Str}(h:ϒ ws){n:Nat}(a:40<=n):∀z∈ws,↥z<=n:=λz c=>adQ (h.sh z c) a
def ϒ.join{ws:List Str}(h:ϒ ws):↥(aep " " ws)<=900:=by
 let h1:=abQ ws 40 h.sh;let h2:=Ih ws;let a:=h.len;let c:↥ws*40<=20*40:=ajU _ a;omega
theorem ϒ.cut{ws:List Str}(h:ϒ ws)(h1:ws≠[]):Λ 32 (aep " " ws)=ws:=adM h1 λp a c=>(h.cd p a 32 c).2 rfl
theorem ϒ.codes{ws:List Str}(h:ϒ ws):∀c∈(aep " " ws).cps.toList,c<1114112:=λc a=>by
 let e:(aep " " ws).cps.toList=cT 32 (ws.map λp=>p.cps.toList):=qK 32 ws;rw[e]at a;let f:∀l:List (List Nat),∀c∈cT 32 l,c=32\/∃p∈l,c∈p:=by
  intro l;induction l with
  |nil=>intro c a;cases a
  |cons p r i=>
   cases r with
   |nil=>intro c a;show .inr #[p,by simp,a]
   |cons q r=>
    intro c a;rcases acL.mp (show c∈p++32::cT 32 (q::r)from a)with z|z
    .show .inr #[p,by simp,z]
    .obtain z|z:=aaz.mp z
     .show .inl z
     .obtain z|⟨y,g,z⟩:=i c z
      .show .inl z
      .show .inr #[y,abk _ g,z]
 obtain z|⟨p,j,z⟩:=f _ c a
 .omega
 .let#[y,g,rfl]:=ad8.mp j;show(h.cd y g c z).1
def ϒ.txt{ws:List Str}(h:ϒ ws)(h1:ws≠[]):dX (aep " " ws).cps.toList:=by
 show#[adQ h.join (by decide),h.codes,?_];let e:=congrArg alZ (h.cut h1);unfold Λ at e;rw[ϭ,xj]at e;have:=h.len;omega
theorem ϒ.sv{ws:List Str}(h:ϒ ws)(h1:ws≠[]):zH (aep " " ws):=(h.txt h1).sv
structure pI(K:ϩ)(mg:MG)(H:Hp)(A:BA)(B:Bk):Prop where
 b:dq mg H A B
 tb:H (bz K "sorted_by")=↑(.tbl fL)
 df:∀d∈B.done,∀xs,d.is=↑xs->cJ B.heads (d.row,xs)
 sm:uM B
theorem pI.same{H H':Hp}{A:BA}{B:Bk}(h:pI K mg H A B)(s:ζ H H'):pI K mg H' A B:={h with b:=h.b.same s,tb:=s _ _ h.tb}
def vO:Option (BA×Bk)->V
 |none=>.non
 |some x=>.ref x.1.b
structure fQ(K:ϩ)(mg:MG)(H:Hp)(d dx:δ)(o:Option (BA×Bk)):Prop where
 dk:gZ mg H d dx (vO o)
 bk:∀A B,o=↑(A,B)->pI K mg H A B
theorem fQ.same{H H':Hp}{d dx:δ}{o:Option (BA×Bk)}(h:fQ K mg H d dx o)(s:ζ H H'):fQ K mg H' d dx o:=#[h.dk.same s,λA B e=>(h.bk A B e).same s]
def uJ:List Str:=["NoValue","NoOrder","NoRow","NoMark","NoSize","NoSieve","NoPage","Twice","Absent","Gone","Later"]
theorem oR{fp:List δ}{H H1 H2:Hp}(s:ζ H H1)(o:Out fp H1 H2):Out fp H H2:=λb u a e=>o b u a (s<*e)
theorem mQ{fp:List δ}{H H1:Hp}(s:ζ H H1):Out fp H H1:=λb u _ e=>s _ _ e
def iI:Option (BA×Bk)->List δ
 |none=>[]
 |some x=>x.1.fp
structure fW(mg:MG)(fp:List δ)(R:Prop)(I:Str->Hp->Prop)(H:Hp)(Q:VK)(E:XK):Prop where
 told:∀z H',Out fp H H'->I z H'->Q (.str z) H'
 oth:R->∀x∈uJ,∀d H',Out fp H H'->(∀e,d.1=↑e->∃fs,H' e=↑(.xd fs))->E (.ref (η mg x)) d H'
section
variable{fp:List δ}{R:Prop}{I:Str->Hp->Prop}{H H':Hp}{Q:VK}{E:XK}
theorem fW.same(h:fW mg fp R I H Q E)(s:ζ H H'):fW mg fp R I H' Q E:=#[λz G o=>h.told z G (oR s o),λr x a d G o=>h.oth r x a d G (oR s o)]
theorem fW.no(h:fW mg fp R I H Q E)(r:R){x:Str}(a:x∈uJ):bx mg H E x:=λG s=>h.oth r x a _ G (mQ s) λe z=>nomatch z
theorem fW.nm(h:fW mg fp R I H Q E)(r:R):gC mg H E:=λd G s hd=>h.oth r "NoMark" (by fin2) d G (mQ s) λe z=>by rw[hd]at z;cases z
theorem fW.num(h:fW mg fp R I H Q E)(r:R){x f:Str}(a:x∈uJ){e:δ}{b:Bool}{v:V}(s:ζ H H')(c:H' e=↑(.xd [(f,v)])):E (.ref (η mg x)) (↑e,b) H':=h.oth r x a _ H' (mQ s) λg z=>by cases z;show#[_,c]
theorem fW.sv(h:fW mg fp R I H Q E)(r:R):d9 mg H E:=λe b n G s a=>h.num r (by fin2) s a
end
def ji(mg:MG)(H:Hp)(E:XK):=∀d H',ζ H H'->d.1=none->E (.ref (η mg "NoLine")) d H'
theorem ji.same{H H':Hp}{E:XK}(h:ji mg H E)(s:ζ H H'):ji mg H' E:=λd H2 a hd=>h d H2 (s<|>a) hd
theorem ji.no{H H':Hp}{E:XK}(h:ji mg H E)(s:ζ H H'):bx mg H' E "NoLine":=λH2 a=>h _ H2 (s<|>a) rfl
structure nH(mg:MG)(p nb:Bool)(fp:List δ)(R:Prop)(I:Str->Hp->Prop)(H:Hp)(Q:VK)(E:XK):Prop where
 nl:p=false->ji mg H E
 nk:p=true->nb=true->bx mg H E "NoBook"
 ok:p=true->nb=false->fW mg fp R I H Q E
def Ψ(z:Str):Bool:=(ϣ z.cps.toList 9999999999).isSome
def mO{l:List Nat}{m i:Int}(h:ϣ l m=↑i):0<=i/\i<=m:=by
 unfold ϣ at h;split at h
 .rename_i a;cases h;show#[(),a.2]
 .cases h
def jK{z:Str}{i:Int}(h:ϣ z.cps.toList 9999999999=↑i):Ψ z=true:=by unfold Ψ;rw[h];rfl
def oX{z:Str}(h:ϣ z.cps.toList 9999999999=none):Ψ z=false:=by unfold Ψ;rw[h];rfl
def vp(ws:List Str):Bool:=decide (ws.map Ψ =[true])
def Qo{ws:List Str}(h:∀z i,ws=[z]->ϣ z.cps.toList 9999999999≠↑i):vp ws=false:=by
 show decide_eq_false λe=>?_
 let a:=congrArg alZ e;rw[ϭ]at a;let#[z,rfl]:=aqE.mp a;let e:Ψ z=true:= ~~~e
 unfold Ψ at e;let#[i,hi]:=akJ.mp e;show h z i rfl hi
theorem Qg{z:Str}{i:Int}(h:ϣ z.cps.toList 9999999999=↑i):vp [z]=true:=decide_eq_true (by show[Ψ z]=[true];rw[jK h])
inductive Di(K:ϩ)(mg:MG):Sp
 |mk (d dx a:δ) (o:Option (BA×Bk)) (ws:List Str):vs=[.ref d,.ref a]->θ K H a (ws.map V.str)->ϒ ws->fQ K mg H d dx o->nH mg (vp ws) o.isNone (iI o) True (λ_ _=>True) H Q E
def aoc:FD 6 "take_out" "Desk.take_out" Ku ["self","words"] (Di K mg):=by
 show ϖ (S:=Vs) (λf y C outer s H vs Q E m h=>?_);intro X _;let#[d,dx,a,o,ws,rfl,p,u,hd,q]:=h;let nd:=Vs.nd;let D:=T.jM;let F:=!Cm;let M1:Υ P w K mg base true 1 (cD mg) "standing" ["self"] (cQ mg):=(ph T).meth T.cz T.nq;let M2:Υ P w K mg base true 4 (cB mg) "take" ["self","row"] (BR mg):=(ajQ T).meth T.ϔ T.aes;k_go;show#[a,ws,rfl,p,u.bC (by decide),λz i e hi H1 l=>?_,λh=>(q.nl (Qo h)).no (ζ.refl _)];subst e;let g:=Qg hi;let#[G,I]:=mO hi;let c:=hd.same l;symm;lk;show Ϛ (pl:=_) m ς (h:=?_)*>bV (pl:=_) m ς ?_;f_are;show#[d,cD mg,dx,_,true,1,_,cQ mg,rfl,c.dk.ins,by rfl,M1,by decide,id,d,dx,_,rfl,c.dk,?_];cases o with
 |none=>show .inl #[rfl,(q.nk g rfl).same l]
 |some x=>
  let#[A,B]:=x;let j:=c.bk A B rfl;let n:=(q.ok g rfl).same l;show .inr #[A.b,rfl,?_]*>#[A.b,cB mg,A.dx,_,true,4,_,BR mg,rfl,j.b.bk.ins,by rfl,M2,by decide,id,?_]>>=#[A,B,i,rfl,j.b.bk,(),j.sm,j.b.wf,λh e H' s' v=>n.num trivial (by fin2) s' v,λh H' o J=>?_]>>=lq (_V.cu (by have:=j.b.mm;unfold iu at this;omega)) (n.told _ _ o trivial)
def agw:FD 6 "let_moments_go" "Desk.let_moments_go" Kh ["self","words"] (Di K mg):=by
 show ϖ (S:=Vq) (λf D F outer s H vs Q E n h=>?_);intro X _;let#[d,dx,a,o,ws,rfl,p,u,hd,q]:=h;let nd:=Vq.nd;let G:=T.Tv;let I:=!Cm;let M1:Υ P w K mg base true 1 (cD mg) "standing" ["self"] (cQ mg):=(ph T).meth T.cz T.nq;let M2:Υ P w K mg base true 4 (cB mg) "let_go" ["self","moment"] (yE mg):=(ajy T).meth T.ϔ T.aix;k_go;show#[a,ws,rfl,p,u.bC (by decide),λz i e hi H1 j=>?_,λh=>(q.nl (Qo h)).no (ζ.refl _)];subst e;let g:=Qg hi;let#[J,L]:=mO hi;let c:=hd.same j;w_up;show Ϝ ?_*>Ϛ (pl:=_) n ς (h:=?_)*>bV (pl:=_) n ς ?_;f_are;show#[d,cD mg,dx,_,true,1,_,cQ mg,rfl,c.dk.ins,by rfl,M1,by decide,id,d,dx,_,rfl,c.dk,?_];cases o with
 |none=>show .inl #[rfl,(q.nk g rfl).same j]
 |some x=>
  let#[A,B]:=x;let l:=c.bk A B rfl;let m:=(q.ok g rfl).same j;show .inr #[A.b,rfl,?_]*>#[A.b,cB mg,A.dx,_,true,4,_,yE mg,rfl,l.b.bk.ins,by rfl,M2,by decide,id,?_]>>=#[A,B,i,rfl,l.b.bk,l.b.mm,λh=>?_,λh e H' s' v=>m.num trivial (by fin2) s' v,λh1 h2 dd H' y o M=>?_]
  .f_len;show ο ?_>>=m.told _ _ (mQ (ζ.refl _)) trivial
  .f_len;show ο ?_>>=m.told _ _ (o.mono λx C=>by rw[aa0.mp C];simp[iI,BA.fp]) trivial
end
end _K
namespace _K
open PySem _L PyProof.Rows _M _V _W
section
variable{P:ϰ}{w:Ϯ}{K:ϩ}{mg:MG}{base:ϫ}
inductive Qp(mg:MG):Sp
 |mk (p q:δ) (cs:List Β) (zs:List Str):vs=[.ref p,.ref q]->aH H p cs->H q=↑(.lst (zs.map V.str))->↥cs<=1000->(∀z∈zs,↥z<=4000)->(bM cs zs=none->ji mg H E)->(∀xs r H',bM cs zs=↑xs->ζ H H'->H r=none->H' r=↑(.lst xs)->Q (.ref r) H')
def Gd:Def 7 "read_row_values" ["columns","words"] (Qp mg):=by
 exists Xo,Gd,y,#[p,i,cs,zs,rfl,j,l,f,m,n,q],2,z HY,B Xi;f_len;show uU (λσ c d H'=>c=.ref (η mg "NoValue")/\ζ H H'/\bM cs zs=none) rfl rfl (λF pn xo po=>?_) (λσ c d H' o=>?_)
 .f_len;show ο ?_>>=#[p,cs,rfl,j,(),λr H1 a s g=>?_]>>=#[r,i,cs,zs,rfl,g,a<*l,f,m,λe H' s'=>#[rfl,a<|>s',e],λxs u H2 e v x h1=>q xs u H2 e (a<|>v) (a.free x) h1]
 .let#[rfl,sm,e]:=o;show alj ς rfl rfl (by rfl) T.iK.at_ (by decide) (uD T.iK) T.mD (by rfl) (by decide) ?_*>n e _ H' sm rfl
def qb(x:V)(l:List V):aq (x::l) ↑1 none=l:=by
 unfold aq;rw[show↑(1:Int)=↑((1:Nat):Int)from rfl,_H.gA,ajw (by simp)];show(l.drop 0).take (↥(x::l)-1)=l;rw[alN];show aet (by simp)
def FN(o:Option (BA×Bk))(ws:List Str):Bool:=match o with
 |none=>true
 |some x=>(bM x.2.heads ws).isSome
def iZ(o:Option (BA×Bk))(ws:List Str):Bool:=decide (2<=↥ws)&& Ψ (ws.getD 0 ("":Str))&&FN o (ws.drop 1)
def YW(mg:MG)(pt:Bool)(o:Option (BA×Bk))(ws:List Str)(H:Hp)(z:Str)(H':Hp):=∀A B i xs,o=↑(A,B)->pt=true->ϣ (ws.getD 0 ("":Str)).cps.toList 9999999999=↑i->bM B.heads (ws.drop 1)=↑xs->z=Χ (B.now+1)/\Out A.fp H H'/\ Τ (cB mg) H' A (jH B i ↑xs)
def Cu(pt:Bool)(o:Option (BA×Bk))(ws:List Str):=∀A B i xs,o=↑(A,B)->pt=true->ϣ (ws.getD 0 ("":Str)).cps.toList 9999999999=↑i->bM B.heads (ws.drop 1)=↑xs->¬(fD B.heads (.int i) xs=true/\ϑ B.rows i=none)
inductive Vk(K:ϩ)(mg:MG):Sp
 |mk (d dx a:δ) (o:Option (BA×Bk)) (ws:List Str) (pt:Bool):vs=[.ref d,.str (if pt then "put" else "change"),.ref a]->θ K H a (ws.map V.str)->ϒ ws->fQ K mg H d dx o->nH mg (iZ o ws) o.isNone (iI o) (Cu pt o ws) (YW mg pt o ws H) H Q E
def aii:FD 8 "put_or_change" "Desk.put_or_change" Hm ["self","verb","words"] (Vk K mg):=by
 show ϖ (S:=VJ) (λf Ϲ A' outer s H vs Q E I h=>?_);intro X _;let#[d,dx,a,o,ws,pt,rfl,R,hW,hd,q]:=h;let nd:=VJ.nd;let g1:=T.VP;let n1:=T.jM;let D0:=!jX;let D1:=!mH;let D2:=!Gd;let M1:Υ P w K mg base true 1 (cD mg) "standing" ["self"] (cQ mg):=(ph T).meth T.cz T.nq;let M2:Υ P w K mg base true 6 (cB mg) "put" ["self","row","values"] (xZ mg):=(agN T).meth T.ϔ T.acH;let M3:Υ P w K mg base true 6 (cB mg) "change" ["self","row","values"] (Bb mg):=(agQ T).meth T.ϔ T.akZ;let M4:Υ P w K mg base true 1 (cB mg) "columns" ["self"] (eV mg):=(su T).meth T.ϔ T.qX;generalize hv:(if pt then μ "put" else μ "change")=vb;w_up;show Ϝ ?_>>=#[a,_,2,rfl,R,λn=>?_,λU=>(q.nl ?_).no (ζ.refl _)]
 case refine_2=>
  rw[ϭ]at U;unfold iZ;rw[decide_eq_false ()];rfl
 rw[ϭ]at n;obtain⟨j,wr,rfl⟩:∃w0 wr,ws=w0::wr:=by
  cases ws with
  |nil=>simp at n
  |cons a r=>show#[a,r,rfl]
 let W:∀z∈wr,↥z<=4000:=λz hz=>hW.bC (by decide) z (abk _ hz)
 let eB:iZ o (j::wr)=(Ψ j&&FN o wr):=by
  unfold iZ;rw[decide_eq_true n];rfl
 rw[eB]at q;k_go;show Φ R (show ύ ((j::wr).map V.str) ((0:Nat):Int)=↑(.str j)from ϛ rfl) ?_>>=#[j,rfl,hW.bC (by decide) j (by simp),λi hi H1 J=>?_,λh=>(q.nl (by rw[oX h];rfl)).no (ζ.refl _)];rw[jK hi,adF]at q;let#[i0,i1]:=mO hi;let p:=hd.same J;w_up;f_tup;show bV (pl:=_) I ς ?_;f_are;show#[d,cD mg,dx,_,true,1,_,cQ mg,rfl,p.dk.ins,by rfl,M1,by decide,id,d,dx,_,rfl,p.dk,?_];cases o with
 |none=>show .inl #[rfl,(q.nk rfl rfl).same J]
 |some x=>
  let#[A,B]:=x;let u:=p.bk A B rfl;let wu:=u.b.bk;let#[c1,c6]:=wz u.b.ok;show .inr #[A.b,rfl,?_];k_go;show bV (pl:=_) I ς ?_;f_are;show#[A.b,cB mg,A.dx,_,true,1,_,eV mg,rfl,wu.ins,by rfl,M4,by decide,id,A,B,rfl,wu,λc H2 s2 hc0 hC=>?_]>>=bw ((J<|>s2).seq R) λp1 Y=>?_
  rw[acz,qb];let#[Z,g,H2,p1,H3]:=Η Y (.lst (wr.map V.str));let ϓ:=(J<|>s2)<|>Z;lk;show#[c,p1,B.heads,wr,rfl,hC.same Z,g,(),W,λe=>(q.nl (by show(bM B.heads wr).isSome=false;rw[e];rfl)).same ϓ,λxs r H4 l s4 hr0 XN=>?_];let qo:=q.ok (by show(bM B.heads wr).isSome=true;rw[l];rfl) rfl;let v:=ala l;let h6:↥B.heads<=6:=c6;let y:=(aex v).2;let L:=ϓ<|>s4;let M:=(hd.bk A B rfl).b.bk.same L;let O:=qo.same L;let C:i.natAbs<10^60:=()
  let hm:=u.b.mm;let D:∀H',Out A.fp H4 H'->Τ (cB mg) H' A (jH B i ↑xs)->CL X (.type "str") [.int (B.now+1)] H' Q:=λH' o F=>lq (_V.cu (by unfold iu at hm;omega)) (qo.told _ _ (oR L o) λA2 B2 i2 K4 e1 e2 g m=>by
   cases e1;let g:ϣ j.cps.toList 9999999999=↑i2:=g;let m:bM B.heads wr=↑K4:=m;rw[hi]at g;rw[l]at m;cases g;cases m;show#[rfl,oR L o,F])
  w_up;show Δ ?_;lk;cases pt with
  |true=>
   cases hv;let G:¬(fD B.heads (.int i) xs=true/\ϑ B.rows i=none)->Cu true ↑(A,B) (j::wr):=λh A2 B2 i2 K4 e1 _ g m=>by
    cases e1;let g:ϣ j.cps.toList 9999999999=↑i2:=g;let m:bM B.heads wr=↑K4:=m;rw[hi]at g;rw[l]at m;cases g;cases m;show h
   show iy ?_;symm;lk;show Ϛ (pl:=_) I ς (h:=?_);f_are;show#[A.b,cB mg,A.dx,_,true,6,_,xZ mg,rfl,M.ins,by rfl,M2,by decide,id,?_]>>=#[A,B,i,r,xs,rfl,M,XN,h6,y,C,u.sm,λh=>O.no (G λx=>by rw[h]at x;cases x.1) (by fin2),λh1 h2 e H' s' he=>O.num (G λx=>h2 x.2) (by fin2) s' he,λh1 h2 H' o F=>?_]>>=D H' o F
  |false=>
   cases hv;let G:Cu false ↑(A,B) (j::wr):=λ_ _ _ _ _ e=>by cases e
   show fM ?_*>χ ?_;symm;lk;show Ϛ (pl:=_) I ς (h:=?_);f_are;show#[A.b,cB mg,A.dx,_,true,6,_,Bb mg,rfl,M.ins,by rfl,M3,by decide,id,?_]>>=#[A,B,i,r,xs,rfl,M,XN,h6,y,C,u.sm,λh=>O.no G (by fin2),λh1 h2 e H' s' he=>O.num G (by fin2) s' he,λh1 h2 H' o F=>?_]>>=D H' o F
def yf{ws:List Str}(h:2<=↥ws):∃a b r,ws=a::b::r:=by
 match ws,h with
 |a::b::r,_=>show#[a,b,r,rfl]
def cA:List Str->Bool
 |[]=>false
 |z::r=>if z=μ ":" then decide (r≠[])else cA r
theorem uL:∀{os a:List Str},μ ":"∉os->1<=↥a->cA (os++μ ":"::a)=true
 |[],a,_,h=>by
  show(if μ ":"=μ ":" then decide (a≠[])else cA a)=true;rw[if_pos rfl];show decide_eq_true λz=>by rw[z]at h;simp at h
 |o::os,a,c,h=>by
  show(if o=μ ":" then _ else cA (os++μ ":"::a))=true;rw[if_neg λz=>c (by simp[z])];show uL (λz=>c (by simp[z])) h
theorem NB:∀{ws:List Str},cA ws=true->∃os a,ws=os++μ ":"::a/\μ ":"∉os/\a≠[]
 |z::r,h=>by
  unfold cA at h;by_cases e:z=μ ":"
  .rw[if_pos e]at h;show#[[],r,by rw[e];rfl,by simp,of_decide_eq_true h]
  .rw[if_neg e]at h;let#[os,a,h1,h2,c]:=NB h;show#[z::os,a,by rw[h1];rfl,λm=>?_,c];obtain m|m:=aaz.mp m
   .show e m.symm
   .show h2 m
def u9{ws:List Str}(h:∀os a,ws=os++μ ":"::a->μ ":"∉os->a=[]):cA ws=false:=by
 cases e:cA ws with
 |false=>rfl
 |true=>
  let#[os,a,h1,h2,c]:=NB e;show absurd (h os a h1 h2) c
def ϒ.Al{H:Hp}{A:BA}{B:Bk}{ws os ss:List Str}(a:ϒ ws)(c:pI K mg H A B)(e:ws=os++μ ":"::ss)(h1:1<=↥ss):rC K mg H A B (aep " " os) (aep " " ss):=by
 let f:ϒ os:=a.sub (by rw[e];show asb _ _);let g:ϒ ss:=a.sub (by rw[e];show((afo _ _)<|>(List.sublist_append_right _ _)));show#[c.b,by have:=f.join;omega,g.sv (λz=>by rw[z]at h1;simp at h1),λos h=>Ox h,c.tb]
def pJ(ws:List Str):Bool:=decide (((ws.map Ψ).drop 1).take 1=[true])&&(decide (ws.getD 0 ("":Str)=μ "living"\/ws.getD 0 ("":Str)=μ "still")&&cA (ws.drop 2))
def Ex(z:Str):decide ([Ψ z]=[true])=Ψ z:=by cases Ψ z<;>rfl
def amV(m z:Str)(wr:List Str):pJ (m::z::wr)=(Ψ z&&(decide (m=μ "living"\/m=μ "still")&&cA wr)):=by
 unfold pJ;rw[show((((m::z::wr).map Ψ).drop 1).take 1)=[Ψ z]from rfl,Ex];rfl
def Im(a:Bool)(o:Option (BA×Bk))(ws:List Str)(z:Str)(_:Hp):=∀A B r i,a=true->ws=[μ "living",μ "9",μ ":",μ "all"]->o=↑(A,B)->B.rows=[r]->ϑ B.touched r.1=↑i->i<=B.now->z=aep "\n" (eQ #[[(r.1,r.2,true)],.non,.non,1,0,B.now])
def Vm(x y:V)(l:List V):aq (x::y::l) ↑2 none=l:=by
 unfold aq;rw[show↑(2:Int)=↑((2:Nat):Int)from rfl,_H.gA,ajw (by simp)];show(l.drop 0).take (↥(x::y::l)-2)=l;rw[alN];show aet (by simp)
def Bg{mk f:Str}{wr os g:List Str}(c:mk::f::wr=[μ "living",μ "9",μ ":",μ "all"])(i:wr=os++μ ":"::g)(e:μ ":"∉os):aep " " os=μ ""/\aep " " g=μ "all"/\f=μ "9":=by
 injection c with _ c
 injection c with j c
 rw[i]at c;cases os with
 |nil=>
  injection c with _ c
  rw[c];show#[by fin2,by fin2,j]
 |cons a t=>
  injection c with l _
  show absurd (by rw[<-l];simp) e
theorem PX{g lv:Bool}{o:Option (BA×Bk)}{A:BA}{B:Bk}{j:Str}{wr os c:List Str}{L:bJ}{H:Hp}(l:o=↑(A,B))(m:wr=os++μ ":"::c)(a:μ ":"∉os)(h:Jy B (aep " " c) lv B.now L):Im g o (du lv::j::wr) (aep "\n" (eQ L)) H:=λv x r i e1 e f n p q=>by
 rw[l]at f;cases f;let s:lv=true:=by
  cases lv with
  |true=>rfl
  |false=>injection e with u _;show absurd u (by fin2)
 rw[h r i (Bg e m a).2.1 s n p q]
def W8(a:Bool)(ws:List Str):Prop:=¬(a=true/\ws=[μ "living",μ "9",μ ":",μ "all"])
inductive Tw(K:ϩ)(mg:MG):Sp
 |mk (d dx a:δ) (o:Option (BA×Bk)) (ws:List Str) (on:Bool):vs=[.ref d,.str (if on then "first" else "last"),.ref a]->θ K H a (ws.map V.str)->ϒ ws->fQ K mg H d dx o->nH mg (pJ ws) o.isNone (iI o) (W8 on ws) (Im on o ws) H Q E
def agd(hN:cR K mg base "sorted_by"):FD 54 "begin_list" "Desk.begin_list" Jv ["self","verb","words"] (Tw K mg):=by
 show ϖ (S:=aay) (λf Ϲ A' outer s H vs Q E hr h=>?_);intro X _;let#[d,dx,a,o,ws,on,rfl,J,F,hd,q]:=h;let nd:=aay.nd;let g1:=T.Vz;let g2:=T.Br;let g3:=T.GC;let hsz:=ϯ;let D0:=!jX;let D1:=!mH;let D2:=!vX;let D3:=!uQ;let M1:Υ P w K mg base true 1 (cD mg) "standing" ["self"] (cQ mg):=(ph T).meth T.cz T.nq;let D4:Def P w K mg base true 51 "first_leaf" ["book","make","order","sieve","size"] (uH K mg):=Gu T hN;let D5:Def P w K mg base true 51 "last_leaf" ["book","make","order","sieve","size"] (uH K mg):=Je T hN;generalize hv:(if on then μ "first" else μ "last")=vb;w_up;show Ϝ ?_>>=#[a,_,2,rfl,J,λu=>?_,λM=>(q.nl ?_).no (ζ.refl _)]
 case refine_2=>
  rw[ϭ]at M;unfold pJ;rw[decide_eq_false λz=>by
   have:=congrArg alZ z;rw[ah0,af0,ϭ]at this;simp at this;omega]
  rfl
 rw[ϭ]at u;obtain⟨mk,v,wr,rfl⟩:∃w0 w1 wr,ws=w0::w1::wr:=yf u;rw[amV]at q;k_go;show Φ J (show ύ ((mk::v::wr).map V.str) ((0:Nat):Int)=↑(.str mk)from ϛ rfl) ?_;w_up;show Δ ?_>>=#[Α,λy hy=>?_];let#[C,ey,H,y,H0]:=Η hy (.tup [.str ("living":Str),.str ("still":Str)]);let Sa:=C.seq J;show FW (ψ.of ey) ?_;rw[gB];by_cases i:mk=μ "living"\/mk=μ "still"
 case neg=>
  rw[decide_eq_false i];lk;f_len;show aM ς T.mD ?_;cbv;show fJ ?_;cbv;show#[mk,rfl,by have:=F.sh mk (by simp);omega,mk,4000,rfl,F.bC (by decide) mk (by simp),(),?_];cbv;intro zz;cbv;show#[by rw[hsz];simp,q.nl (by rw[decide_eq_false i,afy,ar0]) _ _ C rfl]
 rw[decide_eq_true i,adF]at q;rw[decide_eq_true i];obtain⟨lv,rfl⟩:∃lv,mk=du lv:=by
  obtain h|h:=i
  .show#[true,h]
  .show#[false,h]
 lk;show χ ?_;k_go;show Φ Sa (show ύ ((du lv::v::wr).map V.str) ((1:Nat):Int)=↑(.str v)from ϛ rfl) ?_>>=#[v,rfl,F.bC (by decide) v (by simp),λn G H1 s1=>?_,λh=>(q.nl (by rw[oX h];rfl)).no C];rw[jK G,adF]at q;let#[n0,n1]:=mO G;w_up;show jo ?_>>=bw (s1.seq Sa) λp1 O=>?_
 rw[acz,acz,Vm];let#[s2,e2,H1,p1,H2]:=Η O (.lst (wr.map V.str));let I:ϒ wr:=F.sub ((afo _ _)<|>(afo _ _));let Ϣ:=C<|>s1<|>s2;lk;show#[p1,wr,rfl,θ.of e2,by have:=I.len;omega,I.bC (by decide),λos ss c g h1 p2 H3 s3 R=>?_,λh=>(q.nl (u9 h)).no Ϣ];let j:cA wr=true:=by rw[c];show uL g h1
 let D:=Ϣ<|>s3;show aJ (ψ.of R) (Κ (Γ nd (Κ (Γ nd (aF ?_)))));let m:=hd.same D;w_up;show Δ ?_;lk;cases on with
 |true=>
  cases hv;show iy ?_;symm;lk;show bV (pl:=_) hr ς ?_;f_are;show#[d,cD mg,dx,_,true,1,_,cQ mg,rfl,m.dk.ins,by rfl,M1,by decide,id,d,dx,_,rfl,m.dk,?_];cases o with
  |none=>show .inl #[rfl,(q.nk j rfl).same D]
  |some x=>
   let#[A,B]:=x;let l:=(q.ok j rfl).same D;show .inr #[A.b,rfl,?_]>>=#[A,B,lv,_,_,n,rfl,I.Al (m.bk A B rfl) c h1,(),(λe=>l.no (λz=>by let#[r1,_,_]:=Bg z.2 c g;rw[r1]at e;cases e) (by fin2)),(λe=>l.sv λz=>e (Bg z.2 c g).2.1),(λe=>l.no (λz=>e (by have:=(Bg z.2 c g).2.2;rw[this]at G;rw[Option.some.inj (G.symm<|>(show ϣ ("9":Str).cps.toList 9999999999=↑9 by fin2))];show#[by decide,by decide])) (by fin2)),λ_ p L H4 U W Y Z=>?_]>>=#[p,L,rfl,W,Y,λH5 s5=>l.told _ _ (mQ (U<|>s5)) (PX rfl c g Z)]
 |false=>
  cases hv;show fM ?_*>χ ?_;symm;lk;show bV (pl:=_) hr ς ?_;f_are;show#[d,cD mg,dx,_,true,1,_,cQ mg,rfl,m.dk.ins,by rfl,M1,by decide,id,d,dx,_,rfl,m.dk,?_];cases o with
  |none=>show .inl #[rfl,(q.nk j rfl).same D]
  |some x=>
   let#[A,B]:=x;let l:=(q.ok j rfl).same D;show .inr #[A.b,rfl,?_]>>=#[A,B,lv,_,_,n,rfl,I.Al (m.bk A B rfl) c h1,(),(λ_=>l.no (λz=>by cases z.1) (by fin2)),(λ_=>l.sv λz=>by cases z.1),(λ_=>l.no (λz=>by cases z.1) (by fin2)),λ_ p L H4 U W Y Z=>?_]>>=#[p,L,rfl,W,Y,λH5 s5=>l.told _ _ (mQ (U<|>s5)) (PX rfl c g Z)]
def nQ(ws:List Str):Bool:=decide ((ws.map Ψ).take 1=[true])&&decide (2<=↥ws)
def aj5(z:Str)(wr:List Str):nQ (z::wr)=(Ψ z&&decide (1<=↥wr)):=by
 unfold nQ;rw[show(((z::wr).map Ψ).take 1)=[Ψ z]from rfl,Ex]
 congr 1
 show decide_eq_decide.mpr #[λh=>by rw[aap]at h;omega,λh=>by rw[aap];omega]
inductive Ut(K:ϩ)(mg:MG):Sp
 |mk (d dx a:δ) (o:Option (BA×Bk)) (ws:List Str) (on:Bool):vs=[.ref d,.str (if on then "forth" else "back"),.ref a]->θ K H a (ws.map V.str)->ϒ ws->(∀A B,o=↑(A,B)->¬qZ B.heads (aep " " (ws.drop 1)).cps.toList)->fQ K mg H d dx o->nH mg (nQ ws) o.isNone (iI o) True (λ_ _=>True) H Q E
def ahP(C:cR K mg base "sorted_by"):FD 56 "turn_list" "Desk.turn_list" Ey ["self","verb","words"] (Ut K mg):=by
 show ϖ (S:=Wv) (λf Z A' outer s H vs Q E D h=>?_);intro X _;let#[d,dx,a,o,ws,F,rfl,l,G,I,hd,q]:=h;let nd:=Wv.nd;let g1:=T.Qc;let W:↥(" ":Str)=1:=by fin2
 let hsz:=ϯ;let D0:=!jX;let D1:=!mH;let D3:=!uQ;let M1:Υ P w K mg base true 1 (cD mg) "standing" ["self"] (cQ mg):=(ph T).meth T.cz T.nq;let D4:Def P w K mg base true 54 "turn_forth" ["book","mark","size"] (uK mg):=CP T C;let D5:Def P w K mg base true 54 "turn_back" ["book","mark","size"] (uK mg):=Ht T C;generalize J:(if F then μ "forth" else μ "back")=vb;w_up;show Ϝ ?_>>=#[a,_,2,rfl,l,λc=>?_,λm=>(q.nl ?_).no (ζ.refl _)]
 case refine_2=>
  rw[ϭ]at m;unfold nQ;rw[decide_eq_false (show ¬2<=↥ws by omega),ar0]
 rw[ϭ]at c;obtain⟨j,wr,rfl⟩:∃Y wr,ws=Y::wr:=by
  cases ws with
  |nil=>simp at c
  |cons a r=>show#[a,r,rfl]
 rw[aap]at c;rw[aj5,decide_eq_true (show 1<=↥wr by omega),ata]at q;let p:ϒ wr:=G.sub (afo _ _);let L:=p.txt (λz=>by rw[z]at c;simp at c);k_go;show Φ l (show ύ ((j::wr).map V.str) ((0:Nat):Int)=↑(.str j)from ϛ rfl) ?_>>=#[j,rfl,G.bC (by decide) j (by simp),λn M H1 O=>?_,λh=>(q.nl (oX h)).no (ζ.refl _)];let e:=jK M;let#[n0,n1]:=mO M;k_go;show bw (O.seq l) λp1 u=>?_
 rw[acz,qb];let#[R,U,H1,p1,H2]:=Η u (.lst (wr.map V.str));let j1:=pQ (p.bC (show 40<=1000 by decide));let j2:=p.len;lk;show lM (θ.of U) (by rw[W];omega) ?_;let i:=O<|>R;let g:=hd.same i;w_up;show Δ ?_;lk;cases F with
 |true=>
  cases J;show iy ?_;symm;lk;show bV (pl:=_) D ς ?_;f_are;show#[d,cD mg,dx,_,true,1,_,cQ mg,rfl,g.dk.ins,by rfl,M1,by decide,id,d,dx,_,rfl,g.dk,?_];cases o with
  |none=>show .inl #[rfl,(q.nk e rfl).same i]
  |some x=>
   let#[A,B]:=x;let v:=(q.ok e rfl).same i;let y:=g.bk A B rfl;show .inr #[A.b,rfl,?_]>>=#[A,B,_,n,rfl,y.b,L,v.nm trivial,I A B rfl]
 |false=>
  cases J;show fM ?_*>χ ?_;symm;lk;show bV (pl:=_) D ς ?_;f_are;show#[d,cD mg,dx,_,true,1,_,cQ mg,rfl,g.dk.ins,by rfl,M1,by decide,id,d,dx,_,rfl,g.dk,?_];cases o with
  |none=>show .inl #[rfl,(q.nk e rfl).same i]
  |some x=>
   let#[A,B]:=x;let v:=(q.ok e rfl).same i;let y:=g.bk A B rfl;show .inr #[A.b,rfl,?_]>>=#[A,B,_,n,rfl,y.b,L,v.nm trivial,I A B rfl]
def oH(ws:List Str):Bool:=decide ((ws.map Ψ).take 2=[true,true])&&cA (ws.drop 2)
def ajS(y z:Str)(wr:List Str):oH (y::z::wr)=(Ψ y&&(Ψ z&&cA wr)):=by
 unfold oH;rw[show(((y::z::wr).map Ψ).take 2)=[Ψ y,Ψ z]from rfl];show(_&&cA wr)=_;cases Ψ y<;>cases Ψ z<;>rfl
inductive Px(K:ϩ)(mg:MG):Sp
 |mk (d dx a:δ) (o:Option (BA×Bk)) (ws:List Str):vs=[.ref d,.ref a]->θ K H a (ws.map V.str)->ϒ ws->fQ K mg H d dx o->nH mg (oH ws) o.isNone (iI o) True (λ_ _=>True) H Q E
def aiJ(Z:cR K mg base "sorted_by"):FD 54 "show_place" "Desk.show_place" Gm ["self","words"] (Px K mg):=by
 show ϖ (S:=aa1) (λf Ϲ A' outer s H vs Q E hr h=>?_);intro X _;let#[d,dx,a,o,ws,rfl,l,v,hd,q]:=h;let nd:=aa1.nd;let D0:=!jX;let D1:=!mH;let D2:=!vX;let D3:=!uQ;let D4:Def P w K mg base true 50 "leaf_by_place" ["book","order","sieve","size","number"] (Jc K mg):=JG T Z;let M1:Υ P w K mg base true 1 (cD mg) "standing" ["self"] (cQ mg):=(ph T).meth T.cz T.nq;w_up;show Ϝ ?_>>=#[a,_,2,rfl,l,λc=>?_,λy=>(q.nl ?_).no (ζ.refl _)]
 case refine_2=>
  rw[ϭ]at y;unfold oH;rw[decide_eq_false λz=>by
   have:=congrArg alZ z;rw[ah0,ϭ]at this;simp at this;omega]
  rfl
 rw[ϭ]at c;obtain⟨e,g,wr,rfl⟩:∃w0 w1 wr,ws=w0::w1::wr:=yf c;rw[ajS]at q;k_go;show Φ l (show ύ ((e::g::wr).map V.str) ((0:Nat):Int)=↑(.str e)from ϛ rfl) ?_>>=#[e,rfl,v.bC (by decide) e (by simp),λn M H0 m=>?_,λh=>(q.nl (by rw[oX h];rfl)).no (ζ.refl _)];rw[jK M,adF]at q;let#[n0,n1]:=mO M;k_go;show Φ (m.seq l) (show ύ ((e::g::wr).map V.str) ((1:Nat):Int)=↑(.str g)from ϛ rfl) ?_>>=#[g,rfl,v.bC (by decide) g (by simp),λk O H1 R=>?_,λh=>(q.nl (by rw[oX h];rfl)).no m];rw[jK O,adF]at q;let#[k0,k1]:=mO O;w_up;show jo ?_>>=bw ((m<|>R).seq l) λp1 C=>?_
 rw[acz,acz,Vm];let#[U,W,H1,p1,H2]:=Η C (.lst (wr.map V.str));let D:ϒ wr:=v.sub ((afo _ _)<|>(afo _ _));let Y:=m<|>R<|>U;lk;show#[p1,wr,rfl,θ.of W,by have:=D.len;omega,D.bC (by decide),λos ss i F h1 p2 H3 s3 G=>?_,λh=>(q.nl (u9 h)).no Y];let j:cA wr=true:=by rw[i];show uL F h1
 let I:=Y<|>s3;show aJ (ψ.of G) (Κ (Γ nd (Κ (Γ nd (aF ?_)))));let J:=hd.same I;symm;lk;show bV (pl:=_) hr ς ?_;f_are;show#[d,cD mg,dx,_,true,1,_,cQ mg,rfl,J.dk.ins,by rfl,M1,by decide,id,d,dx,_,rfl,J.dk,?_];cases o with
 |none=>show .inl #[rfl,(q.nk j rfl).same I]
 |some x=>
  let#[A,B]:=x;let u:=(q.ok j rfl).same I;show .inr #[A.b,rfl,?_]>>=#[A,B,_,_,n,k,rfl,D.Al (J.bk A B rfl) i h1,(),k0,(),(λ_=>u.no trivial (by fin2)),(λ_=>u.sv trivial),λ_=>u.no trivial (by fin2),λ_ p L H4 s4 hL hg hI=>?_]>>=#[p,L,rfl,hL,hg,λH5 s5=>u.told _ _ (mQ (s4<|>s5)) trivial]
def qI(ws:List Str):Bool:=decide ((ws.map Ψ).take 1=[true])&&cA (ws.drop 1)
def an8(z:Str)(wr:List Str):qI (z::wr)=(Ψ z&&cA wr):=by
 unfold qI;rw[show(((z::wr).map Ψ).take 1)=[Ψ z]from rfl,Ex];rfl
inductive W4(K:ϩ)(mg:MG):Sp
 |mk (d dx a:δ) (o:Option (BA×Bk)) (ws:List Str):vs=[.ref d,.ref a]->θ K H a (ws.map V.str)->ϒ ws->fQ K mg H d dx o->nH mg (qI ws) o.isNone (iI o) True (λ_ _=>True) H Q E
def aiw:FD 54 "show_stood" "Desk.show_stood" Aj ["self","words"] (W4 K mg):=by
 show ϖ (S:=R7) (λf Ϲ A' outer s H vs Q E hr h=>?_);intro X _;let#[d,dx,a,o,ws,rfl,F,hW,hd,q]:=h;let nd:=R7.nd;let n1:=T.jM;let hsz:=ϯ;let lb:↥(" ":Str)=1:=by fin2
 let D0:=!jX;let D1:=!mH;let D2:=!vX;let D4:=!DR;let M1:Υ P w K mg base true 1 (cD mg) "standing" ["self"] (cQ mg):=(ph T).meth T.cz T.nq;w_up;show Ϝ ?_>>=#[a,_,1,rfl,F,λc=>?_,λG=>(q.nl ?_).no (ζ.refl _)]
 case refine_2=>
  rw[ϭ]at G;rw[ahE.mp (show ↥ws=0 by omega)];rfl
 rw[ϭ]at c;obtain⟨v,wr,rfl⟩:∃w0 wr,ws=w0::wr:=by
  cases ws with
  |nil=>simp at c
  |cons a r=>show#[a,r,rfl]
 rw[an8]at q;k_go;show Φ F (show ύ ((v::wr).map V.str) ((0:Nat):Int)=↑(.str v)from ϛ rfl) ?_>>=#[v,rfl,hW.bC (by decide) v (by simp),λmo hn H1 s1=>?_,λh=>(q.nl (by rw[oX h];rfl)).no (ζ.refl _)];rw[jK hn,adF]at q;let#[m0,m1]:=mO hn;w_up;show jo ?_>>=bw (s1.seq F) λp1 I=>?_
 rw[acz,qb];let#[s2,e2,H1,p1,H2]:=Η I (.lst (wr.map V.str));let J:ϒ wr:=hW.sub (afo _ _);let Ϣ:=s1<|>s2;lk;show#[p1,wr,rfl,θ.of e2,by have:=J.len;omega,J.bC (by decide),λos ss g L h1 p2 H3 s3 M=>?_,λh=>(q.nl (u9 h)).no Ϣ];let j:cA wr=true:=by rw[g];show uL L h1
 let O:=Ϣ<|>s3;show aJ (ψ.of M) (Κ (Γ nd (Κ (Γ nd (aF ?_)))));let R:=hd.same O;symm;lk;show lQ ["row"] (σ':=[none]) (bD (ρ Aj)) ?_>>=bV (pl:=_) hr ς ?_;f_are;show#[d,cD mg,dx,_,true,1,_,cQ mg,rfl,R.dk.ins,by rfl,M1,by decide,id,d,dx,_,rfl,R.dk,?_];cases o with
 |none=>show .inl #[rfl,(q.nk j rfl).same O]
 |some x=>
  let#[A,B]:=x;let m:=(q.ok j rfl).same O;let hB:=R.bk A B rfl;show .inr #[A.b,rfl,?_]>>=#[A,B,_,_,mo,rfl,J.Al hB g h1,hB.df,m.no trivial (by fin2),m.sv trivial,λh e H' s' U=>m.num trivial (by fin2) s' U,λh e H' s' U=>m.num trivial (by fin2) s' U,λp ks H4 s4 hp hkl n=>?_];let lk:↥(ks.map V.int)=↥ks:=ϭ ..;show#[p,_,rfl,θ.of hp,(),λτ=>∃o1,τ=[o1],λy i u H'=>∃k,ks[i]?=↑k/\u=.str (Χ k),#[none,rfl],λy i u H2 H3 ys _ _ p=>p,λfp y C s3 H0 i τ x H4 H3 aA hi W Ρ hys hG=>?_,λy H5 ys aA Y Z e5 s5=>?_]
  .let#[o1,rfl]:=W;let#[aB,rfl]:=hG;rw[acj]at aB;let#[k,D,rfl]:=aeF.mp aB;show Γ (show(["row"]:List Str).Nodup by fin2) ?_;lk;have:=n k (aan D);show lq (_V.cu ()) ?_*>#[#[_,rfl],#[k,D,rfl],ζ.refl _]
  let ey:=jc (ys:=ks) (λk=>V.str (Χ k)) (by rw[Y,lk]) Z;subst ey;let e6:H5 y=↑(.lst ((ks.map Χ).map V.str)):=by rw[e5,agf];rfl
  lk;show lM (θ.of e6) ?_ (m.told _ _ (mQ (s4<|>s5)) trivial);let j1:=pQ (l:=ks.map Χ) λz hz=>by
   let#[k,D,rfl]:=ad8.mp hz;have:=iG (n k D);omega
  rw[ϭ]at j1;rw[lb,ϭ];omega
inductive Mh(mg:MG):Sp
 |mk (y dx:δ):vs=[.ref y]->H y=↑(.ins (cD mg) dx [])->(∀H',Out [y] H H'->H' y=↑(.ins (cD mg) dx [("book",.non)])->Q .non H')
def ab5:FD 1 "__init__" "Desk.__init__" UT ["self"] (Mh mg):=by
 show ϖ (N:=["self"]) (λf i j outer s H vs Q E l h=>?_);intro X _;let#[y,dx,rfl,a,q]:=h;let c:=T.cz;f_len;show cZ ?_>>=#[y,_,dx,[],rfl,a,c,T.yU,by simp,?_]*>q _ (λb o g e=>by rw[ι (λz=>g (by rw[z];simp))];show e) ξ
def ϋ(z:Str):Β :=((Λ 58 z).getD 0 ("":Str),(Λ 58 z).getD 1 ("":Str))
def fX(ws:List Str):Bool:=decide (ws≠[])&&ws.all λz=>decide (↥(Λ 58 z)=2)
def Hn{z:Str}(h:↥(Λ 58 z)=2):Λ 58 z=[(ϋ z).1,(ϋ z).2]:=by
 unfold ϋ
 match Λ 58 z,h with
 |[x,y],_=>rfl
def aha{ws:List Str}{z:Str}(a:z∈ws)(h:↥(Λ 58 z)≠2):fX ws=false:=by
 unfold fX;rw[Bool.and_eq_false_iff];show .inr (List.all_eq_false.mpr #[z,a,by rw[decide_eq_false h];decide])
inductive Zy(K:ϩ)(mg:MG):Sp
 |mk (d dx a:δ) (v:V) (ws:List Str):vs=[.ref d,.ref a]->θ K H a (ws.map V.str)->ϒ ws->gZ mg H d dx v->(fX ws=false->ji mg H E)->(fX ws=true->aL (ws.map ϋ)=false->bx mg H E "NoColumns")->(fX ws=true->aL (ws.map ϋ)=true->∀(H':Hp)(A:BA),H A.b=none->H A.dx=none->H A.h=none->H A.r=none->H A.t=none->H A.d=none->Out [d] H H'->gZ mg H' d dx (.ref A.b)->Τ (cB mg) H' A #[ws.map ϋ,[],[],[],0,0]->Q (.str "ok") H')
def ant:FD 6 "new_book" "Desk.new_book" yX ["self","words"] (Zy K mg):=by
 show ϖ (S:=XX) (λf Ϲ A' outer s H vs Q E hr h=>?_);intro X _;let#[d,dx,a,v,ws,rfl,Sa,hW,hd,ql,qx,q]:=h;let nd:=XX.nd;let hc:=T.cz;let g1:=T.Tv;let hsz:=ϯ;let D0:=!jX;let D1:=!KJ;let MB:fV P w K mg base true 4 "Book" (cB mg) ["self","columns"] (Ib mg):=(ahr T).make T.adU T.acS;let la:↥(ws.map V.str)=↥ws:=ϭ ..;let w20:=hW.len;w_up;show Ϝ ?_>>=#[a,_,1,rfl,Sa,λG=>?_,λg=>(ql ?_).no (ζ.refl _)]
 case refine_2=>
  rw[ahE.mp (show ↥ws=0 by omega)];rfl
 let I:ws≠[]:=λz=>by rw[z]at G;simp at G
 w_up;show cZ ?_*>jh MB hr (by decide) (λ_=>rfl) ς ?_*>gQ (by rfl) ?_*>aiX ["word"] (σ':=[none]) (by rfl) ς rfl rfl (by rfl) (bD (ρ yX)) (by intro _;rfl) ?_>>=#[a,_,rfl,Sa,(),λτ=>∃o1,τ=[o1],λD i u H'=>u≠.ref D/\∃z t,ws[i]?=↑z/\↥(Λ 58 z)=2/\u=.ref t/\H' t=↑(.tup [.str (ϋ z).1,.str (ϋ z).2]),#[none,rfl],λD i u H2 H3 ys hE hk p=>?_,λfp D C s3 H0 F i τ x H4 H3 xo aA hi ab Ρ m hG=>?_,λD W ys aA hl2 J e5 n=>?_]
 .let#[h0,c,t,h1,h2,e,h3]:=p;show#[h0,c,t,h1,h2,e,hk _ _ (λz=>h0 (by rw[e,z])) h3]
 .let#[o1,rfl]:=ab;let#[aB,rfl]:=hG;rw[acj]at aB;let#[c,L,rfl]:=aeF.mp aB;let#[ys,m,_]:=m;let M:=aan L;show Γ (show(["word"]:List Str).Nodup by fin2) ?_>>=#[c,rfl,hW.bC (by decide) c M,λx y e p H6 s6 O hp=>?_,λh=>(ql (aha M h)).no Ρ];let h2:↥(Λ 58 c)=2:=by rw[e];rfl
  let Y:=Hn h2;rw[e]at Y;injection Y with e3 Y
  injection Y with e4 _
  rw[e3,e4]at hp;show#[#[_,rfl],#[λz=>?_,c,p,L,h2,rfl,hp],s6];injection z with z
  rw[z,m]at O;cases O
 let lW:fX ws=true:=by
  unfold fX;rw[decide_eq_true I,adF];show ach.mpr λz B=>decide_eq_true ?_
  let#[j,R]:=ak7 B;let g:j<↥ys:=by have:=(aab.mp R).1;omega
  let#[_,c',t,h1,h2,_]:=J j _ (aag g);rw[R]at h1;cases h1;show h2
 let hC:aH W D (ws.map ϋ):=#[ys,e5,pN (by rw[ϭ];omega) λj c R=>by
  rw[acj]at R;let#[z,B,rfl]:=aeF.mp R;let g:j<↥ys:=by have:=(aab.mp B).1;omega
  let#[_,c',t,h1,_,e,h3]:=J j _ (aag g);rw[B]at h1;cases h1;show#[_,aag g,t,e,h3]]
 let ac:Ik (ws.map ϋ):=λc hc=>by
  let#[z,B,rfl]:=ad8.mp hc;let h2:↥(Λ 58 z)=2:=of_decide_eq_true (ach.mp (asK.mp lW).2 z B);let e:=Hn h2;let air:=hW.sh z B;let l1:=rm (c:=58) (z:=z) (y:=(ϋ z).1) (by rw[e];simp);let l2:=rm (c:=58) (z:=z) (y:=(ϋ z).2) (by rw[e];simp);show#[(),()]
 let qx:=qx lW;let q:=q lW;show dH λy dy U iM Ϻ=>?_
 let RZ:ζ W (upd (upd W dy (.own y)) y (.ins (cB mg) dy [])):=λb u e=>by
  rw[ι (λz=>by rw[z,U]at e;cases e),ι (λz=>by rw[z,iM]at e;cases e)];show e
 let l:=n<|>RZ;show#[y,dy,D,ws.map ϋ,rfl,ξ,by rw[ι Ϻ,ξ],hC.same RZ,by rw[ϭ];omega,ac,λh H' s'=>qx h H' (l<|>s'),λh H6 A eb ae f1 f2 f3 f4 o6 k6=>#[rfl,?_]];let yd:d≠y:=λz=>by have:=n _ _ hd.ins;rw[z,U]at this;cases this
 let zO:dx≠y:=λz=>by have:=n _ _ hd.own;rw[z,U]at this;cases this
 let GZ:H6 d=↑(.ins (cD mg) dx [("book",v)]):=o6 _ _ (~~~yd) (l<*hd.ins);let uq:H6 dx=↑(.own d):=o6 _ _ (~~~zO) (l<*hd.own);lk;show#[d,_,dx,_,rfl,GZ,hc,T.yU,by simp,?_];let af:A.b=y:=eb;subst af;let ag:A.dx=dy:=ae;subst ag;let ah:=l _ _ hd.ins;let Z:∀x,(upd (upd W A.dx (.own A.b)) A.b (.ins (cB mg) A.dx [])) x=none->x≠d:=λx e z=>by rw[z,ah]at e;cases e
 let ai:A.dx≠d:=λz=>by have:=n _ _ hd.ins;rw[<-z,iM]at this;cases this
 symm;lk;show q h _ A (n.free U) (n.free iM) (l.free f1) (l.free f2) (l.free f3) (l.free f4) (λb o hb e=>?_) #[ξ,?_] (k6.stay (λb zs e=>?_) λx o hx e=>?_)
 .rw[ι (λz=>hb (by rw[z];simp))];show o6 _ _ (λz=>?_) (l<*e);rw[aa0.mp z]at e;have:=n _ _ e;rw[U]at this;cases this
 .rw[ι (λz=>by rw[z,GZ]at uq;cases uq)];show uq
 .rw[ι (λz=>by rw[z,GZ]at e;cases e)];show e
 .rw[ι]
  .show e
  .simp only[aaz,amv,or_false]at hx;obtain rfl|rfl|rfl|rfl|rfl|rfl:=hx
   .show Ne.symm yd
   .show ai
   .show Z _ f1
   .show Z _ f2
   .show Z _ f3
   .show Z _ f4
abbrev VM:=Option (Str×Bool)
inductive yK(mg:MG)(v:Str)(m:VM)(sp:Sp):Sp
 |mk (d dx:δ) (b:V) (z:Str) (ws:List Str):vs=[.ref d,.str z]->↥z<=4000->↥v<=4000->Λ 32 z=v::ws->gZ mg H d dx b->(m=none->ji mg H E)->(∀n vb,m=↑(n,vb)->∀a H',ζ H H'->H' a=↑(.lst (ws.map V.str))->sp (if vb=true then[.ref d,.str v,.ref a]else[.ref d,.ref a]) H' Q E)
def vN(v:Str):Option (Str×Bool):=if v=μ "book" then some ("new_book",false)else if v=μ "put"\/v=μ "change" then some ("put_or_change",true)else if v=μ "take" then some ("take_out",false)else if v=μ "first"\/v=μ "last" then some ("begin_list",true)else if v=μ "forth"\/v=μ "back" then some ("turn_list",true)else if v=μ "place" then some ("show_place",false)else if v=μ "let" then some ("let_moments_go",false)else if v=μ "stood" then some ("show_stood",false)else none
def We{k:Nat}{sp:Sp}{v:Str}{m:VM}(e:vN v=m)(M:∀n vb,m=↑(n,vb)->Υ P w K mg base true k (cD mg) n (if vb=true then["self","verb","words"]else["self","words"]) sp):FD (k+1) "say" "Desk.say" Ii ["self","row"] (yK mg v m sp):=by
 show ϖ (S:=YL) (λf Ϲ A' outer s H vs Q E l h=>?_);intro X _;let#[d,dx,b,z,ws,rfl,hz,x,C,hd,L,q]:=h;unfold vN at e;let nd:=YL.nd;let g0:=T.afX;let g1:=T.VP;let g2:=T.am7;let g3:=T.ahs;let g4:=T.Vz;let g5:=T.abu;let g6:=T.Qc;let g7:=T.aeb;let g8:=T.aiC;let g9:=T.afR;let O:=T.adK;let hsz:=ϯ;k_go;show au F.plainAttrs_str F.slot_str_split F.type_str_split (h:=?_)>>=m_split (c:=32) λR h1=>?_
 rw[C];let#[D,e1,H,R,H1]:=Η h1 (.lst ((v::ws).map V.str));lk;show Φ (θ.of e1) (show ύ ((v::ws).map V.str) ((0:Nat):Int)=↑(.str v)from ϛ rfl) ?_;k_go;show au F.plainAttrs_str F.slot_str_split F.type_str_split (h:=?_)>>=m_split (c:=32) λU h2=>?_
 rw[C];let#[G,I,H1,U,H2]:=Η h2 (.lst ((v::ws).map V.str));lk;show bw (θ.of I) λa W=>?_
 rw[acz,qb];let#[J,g,H2,a,Y]:=Η W (.lst (ws.map V.str));let t0:=(D<|>G)<|>J;w_up;show Δ ?_>>=Ζ (λh=>?_) (λh=>χ ?_)
 .rw[if_pos (V.str.inj h)]at e;subst e;symm;show Ϛ (pl:=_) l ς (h:=?_);f_are;show#[d,cD mg,dx,_,true,k,_,sp,rfl,(hd.same t0).ins,by rfl,M<*rfl,Ϭ _,id,?_]>>=q _ _ rfl a _ t0 g
 rw[if_neg λz=>h (by rw[z])]at e;w_up;show Δ ?_>>=#[Α,λy o=>?_];let#[u,i,Y,y,Z]:=Η o (.tup [.str ("put":Str),.str ("change":Str)]);let p:=t0<|>u;let g:=u _ _ g;show dw (ψ.of i) ?_;rw[gB];clear u i;by_cases h:v=μ "put"\/v=μ "change"
 .rw[decide_eq_true h];rw[if_pos h]at e;subst e;lk;symm;show Ϛ (pl:=_) l ς (h:=?_);f_are;show#[d,cD mg,dx,_,true,k,_,sp,rfl,(hd.same p).ins,by rfl,M<*rfl,Ϭ _,id,?_]>>=q _ _ rfl a _ p g
 rw[decide_eq_false h];rw[if_neg h]at e;lk;show χ ?_;w_up;show Δ ?_>>=Ζ (λh=>?_) (λh=>χ ?_)
 .rw[if_pos (V.str.inj h)]at e;subst e;symm;show Ϛ (pl:=_) l ς (h:=?_);f_are;show#[d,cD mg,dx,_,true,k,_,sp,rfl,(hd.same p).ins,by rfl,M<*rfl,Ϭ _,id,?_]>>=q _ _ rfl a _ p g
 rw[if_neg λz=>h (by rw[z])]at e;w_up;show Δ ?_>>=#[Α,λy o=>?_];let#[u,i,Z,y,G2]:=Η o (.tup [.str ("first":Str),.str ("last":Str)]);let B:=p<|>u;let g:=u _ _ g;show dw (ψ.of i) ?_;rw[gB];clear u i;by_cases h:v=μ "first"\/v=μ "last"
 .rw[decide_eq_true h];rw[if_pos h]at e;subst e;lk;symm;show Ϛ (pl:=_) l ς (h:=?_);f_are;show#[d,cD mg,dx,_,true,k,_,sp,rfl,(hd.same B).ins,by rfl,M<*rfl,Ϭ _,id,?_]>>=q _ _ rfl a _ B g
 rw[decide_eq_false h];rw[if_neg h]at e;lk;show χ ?_;w_up;show Δ ?_>>=#[Α,λy o=>?_];let#[u,i,G2,y,G3]:=Η o (.tup [.str ("forth":Str),.str ("back":Str)]);let j:=B<|>u;let g:=u _ _ g;show dw (ψ.of i) ?_;rw[gB];clear u i;by_cases h:v=μ "forth"\/v=μ "back"
 .rw[decide_eq_true h];rw[if_pos h]at e;subst e;lk;symm;show Ϛ (pl:=_) l ς (h:=?_);f_are;show#[d,cD mg,dx,_,true,k,_,sp,rfl,(hd.same j).ins,by rfl,M<*rfl,Ϭ _,id,?_]>>=q _ _ rfl a _ j g
 rw[decide_eq_false h];rw[if_neg h]at e;lk;show χ ?_;w_up;show Δ ?_>>=Ζ (λh=>?_) (λh=>χ ?_)
 .rw[if_pos (V.str.inj h)]at e;subst e;symm;show Ϛ (pl:=_) l ς (h:=?_);f_are;show#[d,cD mg,dx,_,true,k,_,sp,rfl,(hd.same j).ins,by rfl,M<*rfl,Ϭ _,id,?_]>>=q _ _ rfl a _ j g
 rw[if_neg λz=>h (by rw[z])]at e;w_up;show Δ ?_>>=Ζ (λh=>?_) (λh=>χ ?_)
 .rw[if_pos (V.str.inj h)]at e;subst e;symm;show Ϛ (pl:=_) l ς (h:=?_);f_are;show#[d,cD mg,dx,_,true,k,_,sp,rfl,(hd.same j).ins,by rfl,M<*rfl,Ϭ _,id,?_]>>=q _ _ rfl a _ j g
 rw[if_neg λz=>h (by rw[z])]at e;w_up;show Δ ?_>>=Ζ (λh=>?_) (λh=>χ ?_)
 .rw[if_pos (V.str.inj h)]at e;subst e;symm;show Ϛ (pl:=_) l ς (h:=?_);f_are;show#[d,cD mg,dx,_,true,k,_,sp,rfl,(hd.same j).ins,by rfl,M<*rfl,Ϭ _,id,?_]>>=q _ _ rfl a _ j g
 rw[if_neg λz=>h (by rw[z])]at e;subst e;f_len;show aM ς T.mD ?_;cbv;show fJ ?_;cbv;show#[v,rfl,(),v,4000,rfl,x,(),?_];cbv;intro zz;cbv;show#[by rw[hsz];simp,L rfl _ _ j rfl]
def aZ(o:Option (BA×Bk))(v:Str)(ws:List Str):Bool:=
 if v=μ "book" then fX ws else if v=μ "put"\/v=μ "change" then iZ o ws else if v=μ "take"\/v=μ "let" then vp ws else if v=μ "first"\/v=μ "last" then pJ ws else if v=μ "forth"\/v=μ "back" then nQ ws else if v=μ "place" then oH ws else decide (v=μ "stood")&&qI ws
def Dt(mg:MG)(o:Option (BA×Bk))(v:Str)(ws:List Str)(H:Hp)(z:Str)(H':Hp):Prop:=(v=μ "put"->YW mg true o ws H z H')/\(v=μ "first"->Im true o ws z H')
def U9(o:Option (BA×Bk))(v:Str)(ws:List Str):Prop:=(v=μ "put"->Cu true o ws)/\(v=μ "first"->W8 true ws)
structure oJ(mg:MG)(o:Option (BA×Bk))(v:Str)(ws:List Str)(d dx:δ)(H:Hp)(Q:VK)(E:XK):Prop where
 nl:aZ o v ws=false->ji mg H E
 bad:aZ o v ws=true->v=μ "book"->aL (ws.map ϋ)=false->bx mg H E "NoColumns"
 new:aZ o v ws=true->v=μ "book"->aL (ws.map ϋ)=true->∀(H':Hp)(A:BA),H A.b=none->H A.dx=none->H A.h=none->H A.r=none->H A.t=none->H A.d=none->Out [d] H H'->gZ mg H' d dx (.ref A.b)->Τ (cB mg) H' A #[ws.map ϋ,[],[],[],0,0]->Q (.str "ok") H'
 nk:aZ o v ws=true->v≠μ "book"->o.isNone=true->bx mg H E "NoBook"
 ok:aZ o v ws=true->v≠μ "book"->o.isNone=false->fW mg (iI o) (U9 o v ws) (Dt mg o v ws H) H Q E
theorem oJ.same{o:Option (BA×Bk)}{v:Str}{ws:List Str}{d dx:δ}{H H':Hp}{Q:VK}{E:XK}(h:oJ mg o v ws d dx H Q E)(s:ζ H H'):oJ mg o v ws d dx H' Q E where
 nl:=λe=>(h.nl e).same s
 bad:=λa b c=>(h.bad a b c).same s
 new:=λa b c G A j l m n p q f=>h.new a b c G A (s.free j) (s.free l) (s.free m) (s.free n) (s.free p) (s.free q) (oR s f)
 nk:=λa b c=>(h.nk a b c).same s
 ok:=λa b c=>#[λz G f g=>(h.ok a b c).told z G (oR s f) #[λe A B i xs e1 u x y=>by
  let#[x1,x2,x3]:=g.1 e A B i xs e1 u x y;show#[x1,oR s x2,x3],g.2],((h.ok a b c).same s).oth]
theorem oJ.due{o:Option (BA×Bk)}{v:Str}{ws:List Str}{d dx:δ}{H:Hp}{Q:VK}{E:XK}{p:Bool}{R:Prop}{I:Str->Hp->Prop}(h:oJ mg o v ws d dx H Q E)(c:v≠μ "book")(a:aZ o v ws=p)(i:R->U9 o v ws)(j:∀z H',I z H'->Dt mg o v ws H z H'):nH mg p o.isNone (iI o) R I H Q E where
 nl:=λe=>h.nl (a<|>e)
 nk:=λe=>h.nk (a<|>e) c
 ok:=λe f=>#[λz G l g=>(h.ok (a<|>e) c f).told z G l (j z G g),λr=>(h.ok (a<|>e) c f).oth (i r)]
def aar(P:ϰ)(w:Ϯ)(K:ϩ)(mg:MG)(base:ϫ)(o:Option (BA×Bk))(v:Str)(ws:List Str):=∃(k:Nat)(sp:Sp),1<=k/\k<=60/\ Υ P w K mg base true k (cD mg) "say" ["self","row"] sp/\∀(H:Hp)(Q:VK)(E:XK)(d dx:δ),fQ K mg H d dx o->oJ mg o v ws d dx H Q E->sp [.ref d,.str (aep " " (v::ws))] H Q E
theorem lF(T:Txt K mg){o:Option (BA×Bk)}{v n:Str}{ws:List Str}{vb:Bool}{k:Nat}{sp:Sp}(c:ϒ (v::ws))(f:vN v=↑(n,vb))(M:Υ P w K mg base true k (cD mg) n (if vb=true then["self","verb","words"]else["self","words"]) sp)(h:∀(H:Hp)(Q:VK)(E:XK)(d dx a:δ),fQ K mg H d dx o->oJ mg o v ws d dx H Q E->θ K H a (ws.map V.str)->sp (if vb=true then[.ref d,.str v,.ref a]else[.ref d,.ref a]) H Q E)(m:k<=59:=by decide):aar P w K mg base o v ws:=
 #[k+1,yK mg v ↑(n,vb) sp,(),(),(We T f λg i e=>by cases e;show M).meth T.cz T.Qz,λH Q E d dx hd j=>#[d,dx,_,_,ws,rfl,adQ c.join (by decide),c.bC (by decide) v (by simp),c.cut (by simp),hd.dk,(λz=>nomatch z),λg i e a H' s l=>by cases e;show h H' Q E d dx a (hd.same s) (j.same s) (θ.of l)]]
def yt(T:Txt K mg)(L:cR K mg base "sorted_by")(o:Option (BA×Bk)){v:Str}{ws:List Str}(m:ϒ (v::ws))(D:∀A B,o=↑(A,B)->(v=μ "forth"\/v=μ "back")->¬qZ B.heads (aep " " (ws.drop 1)).cps.toList):aar P w K mg base o v ws:=by
 let p:ϒ ws:=m.sub (afo _ _);by_cases i:v=μ "book"
 .let c:aZ o v ws=fX ws:=if_pos i;show lF T m (n:="new_book") (vb:=false) (by rw[i];fin2) ((ant T).meth T.cz T.abp) λH Q E d dx a hd f j=>?_
  show#[d,dx,a,_,ws,rfl,j,p,hd.dk,λe=>f.nl (c<|>e),λe=>f.bad (c<|>e) i,λe=>f.new (c<|>e) i]
 let M:∀{x y:Str},v=x\/v=y->∀{z:Str},x≠z->y≠z->v≠z:=λh z a b e=>by
  obtain h|h:=h
  .show a (h.symm<|>e)
  .show b (h.symm<|>e)
 by_cases h1:v=μ "put"\/v=μ "change"
 .let c:aZ o v ws=iZ o ws:=(if_neg i)<|>(if_pos h1);let q:=M h1 (z:=μ "first") (by fin2) (by fin2);show lF T m (n:="put_or_change") (vb:=true) (by obtain h|h:=h1<;>(rw[h];fin2)) ((aii T).meth T.cz T.aga) λH Q E d dx a hd f j=>?_
  obtain h|h:=h1
  .show#[d,dx,a,o,ws,true,by rw[h];rfl,j,p,hd,f.due i c (λr=>#[λ_=>r,λe=>absurd e q]) λz G g=>#[λ_=>g,λe=>absurd e q]]
  .show#[d,dx,a,o,ws,false,by rw[h];rfl,j,p,hd,f.due i c (λr=>#[λe=>absurd (h.symm<|>e) (by fin2),λe=>absurd e q]) λz G g=>#[λe=>absurd (h.symm<|>e) (by fin2),λe=>absurd e q]]
 let l:v≠μ "put":=λe=>h1 (.inl e)
 by_cases h2:v=μ "take"\/v=μ "let"
 .let c:aZ o v ws=vp ws:=(if_neg i)<|>(if_neg h1)<|>(if_pos h2);let q:=M h2 (z:=μ "first") (by fin2) (by fin2);obtain h|h:=h2
  .show lF T m (n:="take_out") (vb:=false) (by rw[h];fin2) ((aoc T).meth T.cz T.am2) λH Q E d dx a hd f j=>?_
   show#[d,dx,a,o,ws,rfl,j,p,hd,f.due i c (λ_=>#[λe=>absurd e l,λe=>absurd e q]) λz G g=>#[λe=>absurd e l,λe=>absurd e q]]
  .show lF T m (n:="let_moments_go") (vb:=false) (by rw[h];fin2) ((agw T).meth T.cz T.afE) λH Q E d dx a hd f j=>?_
   show#[d,dx,a,o,ws,rfl,j,p,hd,f.due i c (λ_=>#[λe=>absurd e l,λe=>absurd e q]) λz G g=>#[λe=>absurd e l,λe=>absurd e q]]
 by_cases s:v=μ "first"\/v=μ "last"
 .let c:aZ o v ws=pJ ws:=(if_neg i)<|>(if_neg h1)<|>(if_neg h2)<|>(if_pos s);show lF T m (n:="begin_list") (vb:=true) (by obtain h|h:=s<;>(rw[h];fin2)) ((agd T L).meth T.cz T.agl) λH Q E d dx a hd f j=>?_
  obtain h|h:=s
  .show#[d,dx,a,o,ws,true,by rw[h];rfl,j,p,hd,f.due i c (λr=>#[λe=>absurd e l,λ_=>r]) λz G g=>#[λe=>absurd e l,λ_=>g]]
  .show#[d,dx,a,o,ws,false,by rw[h];rfl,j,p,hd,f.due i c (λr=>#[λe=>absurd e l,λe=>absurd (h.symm<|>e) (by fin2)]) λz G g=>#[λe=>absurd e l,λe=>absurd (h.symm<|>e) (by fin2)]]
 let C:v≠μ "first":=λe=>s (.inl e)
 let F:∀(H:Hp)(z:Str)(G:Hp),True->Dt mg o v ws H z G:=λH z G _=>#[λe=>absurd e l,λe=>absurd e C]
 by_cases u:v=μ "forth"\/v=μ "back"
 .let c:aZ o v ws=nQ ws:=(if_neg i)<|>(if_neg h1)<|>(if_neg h2)<|>(if_neg s)<|>(if_pos u);show lF T m (n:="turn_list") (vb:=true) (by obtain h|h:=u<;>(rw[h];fin2)) ((ahP T L).meth T.cz T.ad9) λH Q E d dx a hd f j=>?_
  let D:=λA B e=>D A B e u
  obtain h|h:=u
  .show#[d,dx,a,o,ws,true,by rw[h];rfl,j,p,D,hd,f.due i c (λ_=>#[λe=>absurd e l,λe=>absurd e C]) (F H)]
  .show#[d,dx,a,o,ws,false,by rw[h];rfl,j,p,D,hd,f.due i c (λ_=>#[λe=>absurd e l,λe=>absurd e C]) (F H)]
 by_cases I:v=μ "place"
 .let c:aZ o v ws=oH ws:=(if_neg i)<|>(if_neg h1)<|>(if_neg h2)<|>(if_neg s)<|>(if_neg u)<|>(if_pos I);show lF T m (n:="show_place") (vb:=false) (by rw[I];fin2) ((aiJ T L).meth T.cz T.al6) λH Q E d dx a hd f j=>?_
  show#[d,dx,a,o,ws,rfl,j,p,hd,f.due i c (λ_=>#[λe=>absurd e l,λe=>absurd e C]) (F H)]
 let c:aZ o v ws=(decide (v=μ "stood")&&qI ws):=(if_neg i)<|>(if_neg h1)<|>(if_neg h2)<|>(if_neg s)<|>(if_neg u)<|>(if_neg I);by_cases J:v=μ "stood"
 .rw[decide_eq_true J,adF]at c;show lF T m (n:="show_stood") (vb:=false) (by rw[J];fin2) ((aiw T).meth T.cz T.alQ) λH Q E d dx a hd f j=>?_
  show#[d,dx,a,o,ws,rfl,j,p,hd,f.due i c (λ_=>#[λe=>absurd e l,λe=>absurd e C]) (F H)]
 rw[decide_eq_false J,afy]at c;let O:vN v=none:=by
  unfold vN;rw[if_neg i,if_neg h1,if_neg λe=>h2 (.inl e),if_neg s,if_neg u,if_neg I,if_neg λe=>h2 (.inr e),if_neg J]
 show#[2,yK mg v none (λ_ _ _ _=>True),(),(),(We T (k:=1) O λR S e=>by cases e).meth T.cz T.Qz,λH Q E d dx hd f=>#[d,dx,_,_,ws,rfl,adQ m.join (by decide),m.bC (by decide) v (by simp),m.cut (by simp),hd.dk,λ_=>f.nl c,λR S e=>by cases e]]
open NumText
def aj(l:List Nat):List Nat:=if l[0]?=↑45 then l.drop 1 else l
def WY{l:List Nat}(h:iH l=true):bh (aj l)=true/\(l[0]?=↑45->aj l≠[48]):=by
 unfold iH at h;unfold aj;by_cases a:l[0]?=↑45
 .rw[if_pos a]at h⊢;rw[aa9,decide_eq_true_eq]at h;show#[h.2,λ_=>h.1]
 .rw[if_neg a]at h⊢;show#[h,λz=>absurd z a]
def XF(l:List Nat):gh l=if l[0]?=↑45 then -((digitsVal (aj l):Nat):Int)else((digitsVal (aj l):Nat):Int):=by
 unfold gh aj;by_cases a:l[0]?=↑45
 .rw[if_pos a,if_pos a,if_pos a]
 .rw[if_neg a,if_neg a,if_neg a]
def Gg(l:List Nat):↥l=↥(aj l)+(if l[0]?=↑45 then 1 else 0):=by
 unfold aj;by_cases a:l[0]?=↑45
 .rw[if_pos a,if_pos a,af0];have:0<↥l:=by
   cases l with
   |nil=>simp at a
   |cons c r=>simp
  omega
 .rw[if_neg a,if_neg a];rfl
theorem Z5:∀(r:List Nat)(a:Nat),a*10^↥r<=r.foldl (λe c=>e*10+(c-48)) a
 |[],a=>by simp
 |c::r,a=>by
  let f:=Z5 r (a*10+(c-48));rw[aiV,aap,ato];show adQ ?_ f;let h1:a*(10^↥r*10)=a*10*10^↥r:=by rw[asA (10^↥r) 10,as6]
  rw[h1];show ajU _ (am6 _ _)
def adY{l:List Nat}(h:bh l=true)(h1:l≠[48])(a:20<=↥l):10^19<=digitsVal l:=by
 let#[hd,f]:=oE h;cases l with
 |nil=>show absurd rfl f
 |cons c r=>
  let i:=hd c ad1;let g:c≠48:=by
   intro e;subst e;unfold bh at h;rw[decide_eq_false h1,as7]at h;simp at h
  have:=Z5 r (0*10+(c-48));let h2:10^19<=10^↥r:=asL (by decide) (by rw[aap]at a;omega);let j:1*10^↥r<=(0*10+(c-48))*10^↥r:=ajU _ ();unfold digitsVal;rw[aiV];omega
def Jq{l:List Nat}(h:aj l=[]\/19<↥(aj l)\/((aj l)[0]?=↑48/\l≠[48])):bB l=none:=by
 unfold bB;rw[if_neg]
 rintro⟨h1,h2,p,g⟩
 let#[c,i]:=WY h1;let#[hd,j]:=oE c;let f:=Gg l;obtain h|h|⟨h,m⟩:=h
 .show j h
 .by_cases a:l[0]?=↑45
  .rw[if_pos a]at f;omega
  .rw[if_neg a]at f;let e:aj l=l:=by unfold aj;rw[if_neg a]
   let q:=adY c (by intro n;rw[n]at h;simp at h) ();rw[XF,if_neg a]at g;omega
 .unfold bh at c;let o:aj l≠[48]:=by
   intro e;by_cases a:l[0]?=↑45
   .show i a e
   .unfold aj at e;rw[if_neg a]at e;show m e
  rw[decide_eq_false o,h]at c;simp at c
def akm{l:List Nat}{c:Nat}(a:c∈aj l)(e:¬(48<=c/\c<=57)):bB l=none:=by
 unfold bB;rw[if_neg]
 rintro⟨h1,_⟩
 let#[f,_]:=WY h1;show e ((oE f).1 c a)
def aos{l:List Nat}(h1:aj l≠[])(h2:↥(aj l)<=19)(g:¬((aj l)[0]?=↑48/\l≠[48]))(hd:∀c∈aj l,48<=c/\c<=57):iH l=true/\↥l<=20:=by
 let n:=Gg l;let i:(aj l).all nO=true:=ach.mpr λc o=>decide_eq_true (hd c o)
 show#[?_,by split at n<;>omega];unfold iH;by_cases a:l[0]?=↑45
 .rw[if_pos a];let e:aj l=l.drop 1:=by unfold aj;rw[if_pos a]
  let m:l≠[48]:=by intro z;rw[z]at a;simp at a
  rw[e]at h1 g i;let f:(l.drop 1)[0]? ≠↑48:=λz=>g #[z,m]
  let j:l.drop 1≠[48]:=by intro z;rw[z]at f;simp at f
  unfold bh;rw[decide_eq_true j,decide_eq_true h1,decide_eq_true f,i];simp
 .rw[if_neg a];let e:aj l=l:=by unfold aj;rw[if_neg a]
  rw[e]at h1 g i;unfold bh;by_cases j:l=[48]
  .rw[decide_eq_true j];rfl
  .let f:l[0]? ≠↑48:=λz=>g #[z,j]
   rw[decide_eq_true h1,decide_eq_true f,i];simp
end
end _K
namespace _K
open PySem _L PyProof.Rows _M _V _W
section
variable{P:ϰ}{w:Ϯ}{K:ϩ}{mg:MG}{base:ϫ}
open NumText in
def Ay{l:List Nat}(h:l=[]\/10<↥l\/(l[0]?=↑48/\l≠[48])\/∃c∈l,¬(48<=c/\c<=57)):ϣ l 9999999999=none:=by
 unfold ϣ;show if_neg λa=>?_
 let#[h1,h2]:=a;let#[hd,e]:=oE h1;obtain h|h|⟨h,f⟩|⟨c,g,i⟩:=h
 .show e h
 .have :=zT (k:=10) h1 h2 (by decide) (by decide);omega
 .unfold bh at h1;rw[decide_eq_false f,h]at h1;simp at h1
 .show i (hd c g)
theorem aaY:∀(r:List Nat)(a:Nat),(∀c∈r,48<=c/\c<=57)->r.foldl (λe c=>e*10+(c-48)) a<(a+1)*10^↥r
 |[],a,_=>by simp
 |c::r,a,h=>by
  let f:=aaY r (a*10+(c-48)) λx g=>h x (by simp[g])
  let i:=h c (by simp);rw[aiV,aap,ato];show abr f ?_;let h1:(a+1)*(10^↥r*10)=(a+1)*10*10^↥r:=by rw[asA (10^↥r) 10,as6]
  rw[h1];show ajU _ ()
def Lf{l:List Nat}(h1:l≠[])(h2:↥l<=10)(g:¬(l[0]?=↑48/\l≠[48]))(hd:∀c∈l,48<=c/\c<=57):ϣ l 9999999999=↑((NumText.digitsVal l:Nat):Int):=by
 unfold ϣ;show if_pos #[?_,?_]
 .let i:l.all nO=true:=ach.mpr λc j=>decide_eq_true (hd c j)
  unfold bh;by_cases f:l=[48]
  .rw[decide_eq_true f];rfl
  .let m:l[0]? ≠↑48:=λz=>g #[z,f]
   rw[decide_eq_true h1,decide_eq_true m,i];simp
 .let h:=aaY l 0 hd;let e:NumText.digitsVal l=l.foldl (λa c=>a*10+(c-48)) 0:=rfl;let n:10^↥l<=10^10:=asL (by decide) h2;rw[<-e]at h;have:(10:Nat)^10=10000000000:=by decide
  omega
inductive ZM:Sp
 |mk (z:Str):vs=[.str z]->↥z<=4000->Q (.bl (Ψ z)) H
def yP:Def 1 "_law_is_number" ["_law_word"] ZM:=by
 exists Nv,yP,x,#[z,rfl,y,q],B.aN,2,1;let s:=len_list z;let u:("0":Str).cps.toList=[48]:=by fin2
 let no:ϣ z.cps.toList 9999999999=none->Q (.bl false) H:=λh=>by rw[oX h]at q;show q
 w_up;show wO (by walk_at"po") (by rfl) (by intro _;rfl) ?_>>=#[z,rfl,λi σ H'=>(∃o,σ=[↑(.str z),o])/\H=H'/\∀c∈z.cps.toList.take i,48<=c/\c<=57,#[#[none,rfl],rfl,by simp],λi c σ H' hi m=>?_,λσ H' m=>?_]
 .let#[#[o,rfl],rfl,hd]:=m;show Γ nd ?_;f_len;show Δ ?_;lk;rw[StrLaws.found_one];show cC (λa=>?_) (λa=>?_)
  .f_len;show ο ?_>>=no (Ay (.inr (.inr (.inr #[c,aan hi,λl=>a ((uN c).mpr l)]))))
  .show χ #[#[_,rfl],rfl,?_];rw[aj9,hi];intro d n;obtain z1|z1:=acL.mp n
   .show hd d z1
   .have :d=c:= ~~~z1
    rw[this];show(uN c).mp a
 .let#[#[o,rfl],rfl,hd]:=m;rw[ajX]at hd;symm;lk;show Ζ (λh1=>?_) (λh1=>?_)
  .lk;show Ζ (λh2=>?_) (λh2=>?_)
   .let f:z.cps.toList≠[]:=λe=>by rw[e]at s;simp at s;omega
    let#[c,r,v]:=amm f;let g:z.cps.toList[0]?=↑c:=by rw[v];rfl
    lk;show um () (ϛ (j:=0) g) ?_;lk;rw[tL,Xm,u];show cC (λp=>?_) (λp=>?_)
    .rw[jK (Lf f () (λl=>p (by rw[g]at l;have:=l.1;cases this;rfl)) hd)]at q;show q
    .lk;rw[tL,u];by_cases a:z.cps.toList=[48]
     .rw[decide_eq_true a];rw[jK (Lf f () (λl=>l.2 a) hd)]at q;show q
     .rw[decide_eq_false a];show no (Ay (.inr (.inr (.inl #[by rw[g];cases p;rfl,a]))))
   .show no (Ay (.inr (.inl ())))
  .lk;show no (Ay (.inl (aoq ())))
def YX(z:Str)(c:Nat)(x:Str)(e:x.cps.toList=[c]):decide (V.str (Ω z none ↑1)=V.str x)=decide (z.cps.toList[0]?=↑c):=by
 rw[tL,show(Ω z none ↑1).cps.toList=z.cps.toList.take 1 from X5 z 1,e];cases z.cps.toList with
 |nil=>rfl
 |cons a r=>simp
inductive Qf:Sp
 |mk (kd z:Str):vs=[.str kd,.str z]->(kd="number"\/kd="text")->↥z<=4000->Q (.bl (ϟ kd z).isSome) H
def JC:Def 1 "_law_is_value" ["_law_kind","_law_word"] Qf:=by
 exists Nk,JC,hr,#[f,z,rfl,G,hz,q],n1.aN,n2.xO,2,1;let hl:=len_list z;let Z:("0":Str).cps.toList=[48]:=by fin2
 let e1:("":Str).cps.toList=[]:=by fin2
 let em:("-":Str).cps.toList=[45]:=by fin2
 let I:("'":Str).cps.toList=[39]:=by fin2
 let ec:(Ω z ↑1 none).cps.toList=z.cps.toList.drop 1:=xV z 1;let lc:=len_list (Ω z ↑1 none);rw[ec,af0]at lc;let no:ϟ f z=none->Q (.bl false) H:=λh=>by
  rw[h]at q;show q
 let yes:∀v,ϟ f z=↑v->Q (.bl true) H:=λv h=>by
  rw[h]at q;show q
 w_up;show Δ ?_>>=Ζ (λh=>?_) (λhq=>?_)
 .let h':z="?":=V.str.inj h;symm;lk;show yes .non (by unfold ϟ;rw[if_pos h'])
 let C:¬z="?":=λe=>hq (by rw[e])
 show χ ?_;w_up;show Δ ?_>>=Ζ (λJ=>?_) (λJ=>?_)
 .let u:f="text":=V.str.inj J;let L:¬f="number":=by rw[u];fin2
  let M:ϟ f z=wF (eN z):=by unfold ϟ;rw[if_neg C,if_neg L]
  rw[M]at no yes;let O:(z.cps.toList[0]?=↑39->¬dO (.str (Ω z ↑1 none))=true)->wF (eN z)=none:=λh=>by
   unfold eN;rw[if_neg λh2=>h h2.1 h2.2];rfl
  w_up;show wO (by walk_at"po") (by rfl) (by intro _;rfl) ?_>>=iw ?_*>#[_,rfl,λi σ H'=>(∃o,σ=[↑(.str f),↑(.str z),o,none])/\H=H'/\∀c∈(Ω z ↑1 none).cps.toList.take i,c∈SG,#[#[none,rfl],rfl,by simp],λi c σ H' hi x=>?_,λσ H' x=>?_]
  .let#[#[o,rfl],rfl,hd]:=x;show Γ nd ?_;f_len;show Δ ?_;lk;rw[StrLaws.found_one];let D:∀c,c∈("abcdefghijklmnopqrstuvwxyz0123456789-":Str).cps.toList↔c∈SG:=by
    let h1:∀c∈("abcdefghijklmnopqrstuvwxyz0123456789-":Str).cps.toList,c∈SG:=by fin2
    let h2:∀c∈SG,c∈("abcdefghijklmnopqrstuvwxyz0123456789-":Str).cps.toList:=by fin2
    show λc=>#[h1 c,h2 c]
   show cC (λa=>?_) (λa=>?_)
   .f_len;show ο ?_>>=no (O λ_ h=>a ((D c).mpr ((Cj _).mp h|>.2 c (aan hi))))
   .show χ #[#[_,rfl],rfl,?_];rw[aj9,hi];intro d y;obtain z1|z1:=acL.mp y
    .show hd d z1
    .have :d=c:= ~~~z1
     rw[this];show(D c).mp a
  .let#[#[o,rfl],rfl,hd]:=x;rw[ajX]at hd;symm;lk;show iw ?_;lk;rw[YX z 39 _ I];show Ζ (λh1=>?_) (λh1=>?_)
   .lk;by_cases h2:((↥z:Nat):Int)<22
    .rw[decide_eq_true h2];show yes (.str (Ω z ↑1 none)) ?_;unfold eN;rw[if_pos #[h1,(Cj _).mpr #[(),hd]]];rfl
    .rw[decide_eq_false h2];show no (O λ_ h=>?_);have:=((Cj _).mp h).1;omega
   .show no (O λh=>absurd h h1)
 .let u:f="number":=by
   obtain h|h:=G
   .show h
   .show absurd (congrArg V.str h) J
  let M:ϟ f z=ux (bB z.cps.toList):=by unfold ϟ;rw[if_neg C,if_pos u]
  rw[M]at no yes;let no:bB z.cps.toList=none->Q (.bl false) H:=λh=>no (by rw[h];rfl)
  let yes:∀n,bB z.cps.toList=↑n->Q (.bl true) H:=λn h=>yes _ (by rw[h];rfl)
  let rest:∀g:Str,g.cps.toList=aj z.cps.toList->Ι X ((ϕ qd).drop 3) {nx:=λ_ H'=>Q .non H',rt:=Q} [↑(.str f),↑(.str z),none,↑(.str g)] H:=by
   intro g m;let R:=len_list g;let U:=Gg z.cps.toList;let hfz:↥g<=4000:=by rw[R,m];split at U<;>omega
   w_up;show wO (by walk_at"po") (by rfl) (by intro _;rfl) ?_>>=#[g,rfl,λi σ H'=>(∃o,σ=[↑(.str f),↑(.str z),o,↑(.str g)])/\H=H'/\∀c∈g.cps.toList.take i,48<=c/\c<=57,#[#[none,rfl],rfl,by simp],λi c σ H' hi x=>?_,λσ H' x=>?_]
   .let#[#[o,rfl],rfl,hd]:=x;show Γ nd ?_;f_len;show Δ ?_;lk;rw[StrLaws.found_one];show cC (λa=>?_) (λa=>?_)
    .f_len;show ο ?_>>=no (akm (c:=c) ?_ λp=>a ((uN c).mpr p));rw[<-m];show aan hi
    .show χ #[#[_,rfl],rfl,?_];rw[aj9,hi];intro d y;obtain z1|z1:=acL.mp y
     .show hd d z1
     .have :d=c:= ~~~z1
      rw[this];show(uN c).mp a
   .let#[#[o,rfl],rfl,hd]:=x;rw[ajX]at hd;let W:∀c∈aj z.cps.toList,48<=c/\c<=57:=by rw[<-m];show hd
    let out:bB z.cps.toList=none->Ι X (TF ((ϕ qd).drop 4)) {nx:=λσ' H'=>Ι X ((ϕ qd).drop 5) {nx:=λ_ H'=>Q .non H',rt:=Q} σ' H',rt:=Q} [↑(.str f),↑(.str z),o,↑(.str g)] H:=λh=>by
     symm;lk;show no h
    w_up;show Δ ?_;lk;rw[tL,e1];show Ζ (λh1=>out (Jq (.inl (by rw[<-m];show h1)))) (λh1=>?_)>>=Ζ (λh2=>out (Jq (.inr (.inl (by rw[<-m];omega))))) (λh2=>?_);let#[c,r,hc]:=amm h1;let B:g.cps.toList[0]?=↑c:=by rw[hc];rfl
    lk;show um () (ϛ (j:=0) B) ?_;lk;rw[tL,Xm,Z];let s:¬((aj z.cps.toList)[0]?=↑48/\z.cps.toList≠[48])->Ι X ((ϕ qd).drop 5) {nx:=λ_ H'=>Q .non H',rt:=Q} [↑(.str f),↑(.str z),o,↑(.str g)] H:=λF=>by
     let#[g1,g2]:=aos (l:=z.cps.toList) (by rw[<-m];show h1) (by rw[<-m];omega) F W;let Y:=XF z.cps.toList;symm;lk;show VB (intText_digits hd h1 ()) () ?_;lk;rw[m];by_cases a:((NumText.digitsVal (aj z.cps.toList):Nat):Int)<=1000000000000000000
     .rw[decide_eq_true a];show yes (gh z.cps.toList) ?_;unfold bB;rw[if_pos #[g1,g2,by rw[Y];split <;>omega,by rw[Y];split <;>omega]]
     .rw[decide_eq_false a];show no ?_;unfold bB;rw[if_neg]
      rintro⟨_,_,p,h6⟩
      rw[Y]at p h6;split at p<;>split at h6<;>first|omega|contradiction
    show Ζ (λF=>?_) (λF=>?_)
    .lk;rw[tL,Z];show cC (λa=>out (Jq (.inr (.inr #[by rw[<-m,B];cases F;rfl,a])))) (λa=>?_)*>χ (s λp=>p.2 a)
    .show χ (s λp=>F (by rw[<-m,B]at p;have:=p.1;cases this;rfl))
  show χ ?_;k_go;show iw ?_;lk;rw[YX z 45 _ em];show Ζ (λh1=>?_) (λh1=>?_)
  .lk;show iw ?_*>rest _ ?_;rw[ec];unfold aj;rw[if_pos h1]
  .lk;show rest z ?_;unfold aj;rw[if_neg h1]
end
end _K
namespace _K
open PySem _L PyProof.Rows _M _V _W
section
variable{P:ϰ}{w:Ϯ}{K:ϩ}{mg:MG}{base:ϫ}
inductive Ql(K:ϩ):Sp
 |mk (a:δ) (ws:List Str):vs=[.ref a]->θ K H a (ws.map V.str)->Q (.bl (cA ws)) H
def Dr:Def 1 "_law_is_list" ["_law_parts"] (Ql K):=by
 exists ["_law_parts"],Dr,J,#[a,ws,rfl,p,q],L.aN;w_up;show Δ ?_>>=IW p (by rw[ap4];show ach.mpr λ_ _=>rfl) ?_;by_cases s:μ ":"∈ws
 case neg=>
  let g:bc (.str (":":Str)) (ws.map V.str)=false:=by
   unfold bc;show aqG.mpr λx C z=>?_
   let#[y,D,rfl]:=ad8.mp C;have:y=μ ":":=by simpa [cF]using z
   show s (this▸D)
  rw[g];lk;symm;lk;rw[u9 λos o e _=>absurd (by rw[e];simp) s]at q;show q
 let#[os,o,f,i]:=ao8 s;let B:ws[↥os]?=↑(":":Str):=by rw[f];simp
 let g:bc (.str (":":Str)) (ws.map V.str)=true:=by
  unfold bc;show apt.mpr #[_,aja (aan B),by simp[cF]]
 let n:↥ws=↥os+1+↥o:=by rw[f];simp;omega
 rw[g];lk;show χ ?_;symm;f_are;f_are;f_are;f_are;f_are
 first|walk_at"o" |walk_at"o2"
 f_are;show au F.plainAttrs_list F.slot_list_index F.type_list_index (h:=?_);f_are;show#[.inl #[rfl,_,p],?_]>>=aaZ p B (λm y h e z=>?_) ?_
 .rw[f,aed h]at e;show i (z▸aan e)
 lk;rw[ϭ];cases o with
 |nil=>
  rw[decide_eq_false (show ¬((↥os:Nat):Int)+1<((↥ws:Nat):Int)by rw[n];simp)];rw[f,u9 λj G u I=>?_]at q
  .show q
  let v:↥os=↥j:=by
   obtain c|c|c:=atk ↥os ↥j
   .let z:=congrArg (λl=>l[↥os]?) u;simp only[aed c,afZ (Ϭ _),arq,aog]at z;show absurd (aan z.symm) I
   .show c
   .let z:=congrArg (λl=>l[↥j]?) u;simp only[aed c,afZ (Ϭ _),arq,aog]at z;show absurd (aan z) i
  let z:=(asG u v).2;injection z with _ z
  show z.symm
 |cons x o=>
  rw[decide_eq_true (show((↥os:Nat):Int)+1<((↥ws:Nat):Int)by rw[n];simp;omega)];rw[f,uL i (by simp)]at q;show q
def cV:List Β :=[(μ "aa",μ "number"),(μ "bb",μ "text")]
def DY(a:Bool)(o:Option (BA×Bk)):Prop:=(a=false/\o=none)\/(a=true/\∃A B,o=↑(A,B)/\B.heads=cV)
theorem alv{wr:List Str}(h:↥wr≠2):bM cV wr=none:=if_neg h
def ahJ(x y:Str):(bM cV [x,y]).isSome=((ϟ ("number":Str) x).isSome&&(ϟ ("text":Str) y).isSome):=by
 show(if([x,y]:List Str).length=↥cV then dg (λp:Β ×Str=>ϟ p.1.2 p.2) (cV.zip [x,y])else none).isSome=_;rw[if_pos (show([x,y]:List Str).length=↥cV from rfl)];rw[show cV.zip [x,y]=[((μ "aa",μ "number"),x),((μ "bb",μ "text"),y)]from rfl];simp only[dg];cases ϟ ("number":Str) x<;>cases ϟ ("text":Str) y<;>rfl
inductive WD(K:ϩ):Sp
 |mk (a:δ) (v:Str) (ws:List Str) (ah:Bool) (o:Option (BA×Bk)):vs=[.ref a,.bl ah]->θ K H a ((v::ws).map V.str)->ϒ (v::ws)->DY ah o->Q (.bl (iZ o ws)) H
def aaE{ws:List Str}(h:1<=↥ws):∃a r,ws=a::r:=by
 cases ws with
 |nil=>simp at h
 |cons a r=>show#[a,r,rfl]
def J8:Def 2 "_law_is_put" ["_law_parts","_law_ahead"] (WD K):=by
 exists ["_law_parts","_law_ahead"],J8,u,#[a,v,ws,z,o,rfl,g,i,n,q],B.aN,C yP,D JC;let m:↥((v::ws).map V.str)=↥ws+1:=by rw[ϭ,aap]
 w_up;show Δ ?_;lk;rw[m];show Ζ (λh=>?_) (λh=>?_)
 .f_len;show ο ?_;lk;let e:iZ o ws=false:=by unfold iZ;rw[decide_eq_false ()];rfl
  rw[e]at q;show q
 let j:2<=↥ws:=()
 let#[c,wr,rfl]:=aaE (show 1<=↥ws by omega);let p:iZ o (c::wr)=(Ψ c&&FN o wr):=by
  unfold iZ;rw[decide_eq_true j];rfl
 rw[p]at q;lk;show Φ g (show ύ ((v::c::wr).map V.str) ((1:Nat):Int)=↑(.str c)from ϛ rfl) ?_>>=#[c,rfl,i.bC (by decide) c (by simp),?_];lk;cases hz:Ψ c with
 |false=>
  rw[hz]at q;lk;symm;lk;show q
 |true=>
  rw[hz,adF]at q;lk;show χ ?_;w_up;show Δ ?_;obtain⟨rfl,rfl⟩|⟨rfl,F,G,rfl,s⟩:=n
  .lk;symm;lk;show q
  .let q:Q (.bl (bM cV wr).isSome) H:=by rw[<-s];show q
   lk;show χ ?_;symm;lk;rw[m];show Ζ (λf=>?_) (λf=>?_)
   .let h2:2<=↥wr:=by
     have:=V.int.inj f;rw[aap]at this;omega
    let#[x,y,r,rfl]:=yf h2;let l:r=[]:=by
     have:=V.int.inj f;rw[aap,aap,aap]at this;show ahE.mp ()
    subst l;rw[ahJ]at q;lk;show Φ g (show ύ ((v::c::[x,y]).map V.str) ((2:Nat):Int)=↑(.str x)from ϛ rfl) ?_>>=#[_,x,rfl,.inl rfl,i.bC (by decide) x (by simp),?_];cases hx:(ϟ ("number":Str) x).isSome with
    |false=>
     rw[hx]at q;lk;show q
    |true=>
     rw[hx,adF]at q;lk;show Φ g (show ύ ((v::c::[x,y]).map V.str) ((3:Nat):Int)=↑(.str y)from ϛ rfl) ?_>>=#[_,y,rfl,.inr rfl,i.bC (by decide) y (by simp),q]
   .rw[alv λe=>f (by rw[aap,e];rfl)]at q;show q
theorem LC:∀bs cs:List Bool,PyData.eqvAll ((bs.map V.bl).map dV) ((cs.map V.bl).map dV)=decide (bs=cs)
 |[],[]=>rfl
 |x::xs,y::ys=>by
  show(PyData.eqv (.bool x) (.bool y)&&PyData.eqvAll ((xs.map V.bl).map dV) ((ys.map V.bl).map dV))=_;rw[LC xs ys,show PyData.eqv (.bool x) (.bool y)=decide (x=y)by cases x<;>cases y<;>rfl];rw[agb,aa9,decide_eq_true_eq,decide_eq_true_eq,decide_eq_true_eq,List.cons.injEq]
 |[],_::_=>rfl
 |_::_,[]=>rfl
def wI{X:Cx}{H:Hp}{Q:VK}{a b:δ}{bs cs:List Bool}(f:X.A.units+64<cLine)(g:H a=↑(.lst (bs.map V.bl)))(i:H b=↑(.lst (cs.map V.bl)))(q:Q (.bl (decide (bs=cs))) H):OP X (adA .Eq) (.ref a) (.ref b) H Q:=by
 let hs:∀l:List Bool,(l.map V.bl).all iW=true:=λl=>by rw[ap4];show ach.mpr λ_ _=>rfl
 let c:∀l:List Bool,(PyData.list ((l.map V.bl).map dV)).canLay0=true:=λl=>Ge λx j=>by
  let#[b,_,rfl]:=ad8.mp j;show#[rfl,λz e=>by cases e]
 show Bo f (.lst (θ.of g) (xX (hs _))) (.lst (θ.of i) (xX (hs _))) (c _) (c _) (abK _) ?_*>Q (.bl (PyData.eqvAll ((bs.map V.bl).map dV) ((cs.map V.bl).map dV))) H;rw[LC];show q
def al7(xs:List V):aq xs ↑1 ↑2=(xs.drop 1).take 1:=by
 unfold aq;rw[show↑(1:Int)=↑((1:Nat):Int)from rfl,show↑(2:Int)=↑((2:Nat):Int)from rfl,_H.gA,_H.gA]
 match xs with
 |[]=>rfl
 |[x]=>rfl
 |x::y::r=>
  rw[ajw (by simp),ajw (by simp)]
inductive Y9(K:ϩ):Sp
 |mk (a:δ) (v:Str) (ws:List Str) (ah:Bool) (o:Option (BA×Bk)):vs=[.ref a,.bl ah]->θ K H a ((v::ws).map V.str)->ϒ (v::ws)->DY ah o->(∀H',ζ H H'->Q (.bl (aZ o v ws)) H')
def ahV{ws:List Str}:decide ((((ws.map λz=>Txt.count z (#[#v[58]]:Str)).count 1:Nat):Int)=((↥ws:Nat):Int))=ws.all λz=>decide (↥(Λ 58 z)=2):=by
 rw[agb,decide_eq_true_eq,ach];let g:∀z:Str,Txt.count z (#[#v[58]]:Str)=1↔↥(Λ 58 z)=2:=λz=>by
  have:=ai9 (c:=58) (by fin2) z;omega
 let i:(ws.map λz=>Txt.count z (#[#v[58]]:Str)).count 1=↥ws↔∀z∈ws,↥(Λ 58 z)=2:=by
  let e:=List.count_eq_length (a:=(1:Int)) (l:=ws.map λz=>Txt.count z (#[#v[58]]:Str));rw[ϭ]at e;rw[e];show#[λh z f=>(g z).mp (h _ (aja f)).symm,λh b j=>?_];let#[z,f,rfl]:=ad8.mp j;show((g z).mpr (h z f)).symm
 show#[λh z f=>decide_eq_true (i.mp () z f),λh=>?_];have:=i.mpr λz f=>of_decide_eq_true (h z f)
 omega
def KQ:Def 3 "_law_is_line" ["_law_parts","_law_ahead"] (Y9 K):=by
 exists QZ,KQ,hr,#[a,v,ws,ah,o,rfl,G,hW,hA,q],2,n1.aN,1;let Z:=hr.units;let Ϥ:ϒ ws:=hW.sub (afo _ _);let w20:=Ϥ.len;let tQ:(["_law_part"]:List Str).Nodup:=by fin2
 let D1:=!yP;let D2:=!J8;let D3:=!Dr;let cL:↥((v::ws).map V.str)=↥ws+1:=by rw[ϭ,aap]
 let ct:aq ((v::ws).map V.str) ↑1 none=ws.map V.str:=by rw[acz,qb]
 let cd:∀k:Nat,aq ((v::ws).map V.str) ↑((k+1:Nat):Int) none=(ws.drop k).map V.str:=λk=>by
  rw[JP,acz,List.drop_succ_cons,asj]
 k_go;show Φ G (show ύ ((v::ws).map V.str) ((0:Nat):Int)=↑(.str v)from ϛ rfl) ?_;w_up;show Δ ?_>>=Ζ (λh=>?_) (λh=>χ ?_)
 .let h0:v=μ "book":=V.str.inj h;let hL:aZ o v ws=fX ws:=if_pos h0;rw[hL]at q;unfold fX at q;symm;lk;rw[cL];show Ζ (λh1=>?_) (λh1=>?_)
  .let Ϻ:ws≠[]:=λz=>by rw[z]at h1;simp at h1
   rw[decide_eq_true Ϻ,adF, <-ahV]at q;lk;show au F.plainAttrs_list F.slot_list_count F.type_list_count (h:=?_)*>lQ ["_law_part"] (σ':=[none]) (bD (ρ zc)) ?_>>=bw G λp1 R=>?_
   rw[ct];let#[s2,e2,H,p1,H2]:=Η R (.lst (ws.map V.str));show#[p1,_,rfl,θ.of e2,by rw[ϭ];omega,λτ=>∃o1,τ=[o1],λU i u H'=>∃z,ws[i]?=↑z/\u=.int (Txt.count z (#[#v[58]]:Str)),#[none,rfl],λU i u H2 H3 ys _ _ p=>p,λfp U C s3 H0 i τ x H4 H3 aA hi W Ρ ab hG=>?_,λU H5 ys aA I J e5 s5=>?_]
   .let#[o1,rfl]:=W;let#[aB,rfl]:=hG;rw[acj]at aB;let#[z,hz,rfl]:=aeF.mp aB;show Γ tQ ?_*>au F.plainAttrs_str F.slot_str_count F.type_str_count (h:=?_)>>=aiz ?_*>#[#[_,rfl],#[z,hz,rfl],ζ.refl _]
   let c:=jc (ys:=ws) (λz=>V.int (Txt.count z (#[#v[58]]:Str))) (by rw[I,ϭ]) J;subst c;let n:H5 U=↑(.lst ((ws.map λz=>Txt.count z (#[#v[58]]:Str)).map V.int)):=by rw[e5,agf];rfl
   show#[.inl #[rfl,_,θ.of n],?_]>>=aiB (θ.of n) ?_;let S5:=(s2<|>s5).seq G;lk;rw[cL];let e7:((↥ws+1:Nat):Int)-1=((↥ws:Nat):Int):=()
   rw[e7];have:=q H5 (s2<|>s5);rw[show(decide ((((ws.map λz=>Txt.count z (#[#v[58]]:Str)).count 1:Nat):Int)=((↥ws:Nat):Int)))=decide (V.int (((ws.map λz=>Txt.count z (#[#v[58]]:Str)).count 1:Nat):Int)=V.int ((↥ws:Nat):Int))from decide_eq_decide.mpr #[λz=>by rw[z],λz=>V.int.inj z]]at this;show this
  .let Ϻ:ws=[]:=ahE.mp ();rw[Ϻ]at q;show q H (ζ.refl _)
 let h0:¬v=μ "book":=λe=>h (by rw[e])
 unfold aZ at q;rw[if_neg h0]at q;w_up;show Δ ?_>>=#[Α,λy g=>?_];let#[u1,c,H,y,G1]:=Η g (.tup [.str ("put":Str),.str ("change":Str)]);show dw (ψ.of c) ?_;rw[gB];clear c;by_cases h1:v=μ "put"\/v=μ "change"
 .rw[decide_eq_true h1];rw[if_pos h1]at q;lk;symm;lk;show #[a,v,ws,ah,o,rfl,u1.seq G,hW,hA,q G1 u1]
 rw[decide_eq_false h1];rw[if_neg h1]at q;lk;show χ ?_;w_up;show oU ["_law_part"] (σ':=[none]) (bD (ρ zc)) nd ?_>>=bw (u1.seq G) λp1 R=>?_
 rw[ct];let#[u2,e2,G1,p1,G2]:=Η R (.lst (ws.map V.str));show#[p1,_,rfl,θ.of e2,by rw[ϭ];omega,λτ=>∃o1,τ=[o1],λU i u H'=>∃z,ws[i]?=↑z/\u=.bl (Ψ z),#[none,rfl],λU i u H2 H3 ys _ _ p=>p,λfp U C s3 H0 i τ x H4 H3 aA hi W Ρ ab hG=>?_,λnb G3 ys aA I J e5 u3=>?_]
 .let#[o1,rfl]:=W;let#[aB,rfl]:=hG;rw[acj]at aB;let#[z,hz,rfl]:=aeF.mp aB;show Γ tQ ?_>>=#[z,rfl,Ϥ.bC (by decide) z (aan hz),?_]*>#[#[_,rfl],#[z,hz,rfl],ζ.refl _]
 let c:=jc (ys:=ws) (λz=>V.bl (Ψ z)) (by rw[I,ϭ]) J;subst c;let n:G3 nb=↑(.lst ((ws.map Ψ).map V.bl)):=by rw[e5,agf];rfl
 let t3:=u1<|>u2<|>u3;clear e5 J I;w_up;show Δ ?_>>=#[Α,λy g=>?_];let#[u,c,G3,y,G4]:=Η g (.tup [.str ("take":Str),.str ("let":Str)]);let t4:=t3<|>u;let n:=u _ _ n;show dw (ψ.of c) ?_;rw[gB];clear u c;by_cases h2:v=μ "take"\/v=μ "let"
 .rw[decide_eq_true h2];rw[if_pos h2]at q;lk;symm;lk;show #[Α,λy g=>?_];let u:=ζ.upd (o:=.lst (([true]:List Bool).map V.bl)) g;show wI Z (u<*n) ξ (q _ (t4<|>u))
 rw[decide_eq_false h2];rw[if_neg h2]at q;lk;show χ ?_;w_up;show Δ ?_>>=#[Α,λy g=>?_];let#[u,c,G4,y,G5]:=Η g (.tup [.str ("first":Str),.str ("last":Str)]);let t5:=t4<|>u;let n:=u _ _ n;show dw (ψ.of c) ?_;rw[gB];clear u c;by_cases h3:v=μ "first"\/v=μ "last"
 .rw[decide_eq_true h3];rw[if_pos h3]at q;unfold pJ at q;lk;symm;lk;show bw (θ.of n) λp2 j=>?_
  rw[al7, <-asj, <-ao3];let#[u,B,G5,p2,M]:=Η j (.lst ((((ws.map Ψ).drop 1).take 1).map V.bl));let Y:=t5<|>u;lk;show#[Α,λy g=>?_];let u:ζ M (upd M y (.lst [V.bl true])):=ζ.upd g;show wI (cs:=[true]) Z (u<*B) ξ ?_;generalize upd M y (.lst [V.bl true])=s at u⊢;let L:=Y<|>u;by_cases f:((ws.map Ψ).drop 1).take 1=[true]
  case neg=>
   rw[decide_eq_false f];rw[decide_eq_false f,afy]at q;lk;show q s L
  rw[decide_eq_true f];rw[decide_eq_true f,adF]at q;let#[m,z,wr,rfl]:=yf (show 2<=↥ws by
   have:=congrArg alZ f;rw[ah0,af0,ϭ]at this;simp at this;omega)
  lk;show Φ (L.seq G) (show ύ ((v::m::z::wr).map V.str) ((1:Nat):Int)=↑(.str m)from ϛ rfl) ?_>>=#[Α,λy g=>?_];let#[u,c,s,y,O]:=Η g (.tup [.str ("living":Str),.str ("still":Str)]);let l:=L<|>u;show dw (ψ.of c) ?_;rw[gB];let q:∀H',ζ H H'->Q (.bl (decide (m=μ "living"\/m=μ "still")&&cA wr)) H':=q;by_cases hm:m=μ "living"\/m=μ "still"
  case neg=>
   rw[decide_eq_false hm];rw[decide_eq_false hm,afy]at q;lk;show q O l
  rw[decide_eq_true hm];rw[decide_eq_true hm,adF]at q;lk;show bw (l.seq G) λp3 D=>?_
  rw[show↑(3:Int)=↑((2+1:Nat):Int)from rfl,cd 2];lk;show#[p3,wr,rfl,θ.of ξ,q _ (l<|>(ζ.upd D))]
 rw[decide_eq_false h3];rw[if_neg h3]at q;lk;show χ ?_;w_up;show Δ ?_>>=#[Α,λy g=>?_];let#[u,c,G5,y,M]:=Η g (.tup [.str ("forth":Str),.str ("back":Str)]);let Y:=t5<|>u;let n:=u _ _ n;show dw (ψ.of c) ?_;rw[gB];clear u c;by_cases h4:v=μ "forth"\/v=μ "back"
 .rw[decide_eq_true h4];rw[if_pos h4]at q;unfold nQ at q;lk;symm;lk;show bw (θ.of n) λp2 j=>?_
  rw[show↑(1:Int)=↑((1:Nat):Int)from rfl,xW, <-ao3];let#[u,B,M,p2,s]:=Η j (.lst (((ws.map Ψ).take 1).map V.bl));let L:=Y<|>u;lk;show#[Α,λy g=>?_];let u:ζ s (upd s y (.lst [V.bl true])):=ζ.upd g;show wI (cs:=[true]) Z (u<*B) ξ ?_;generalize upd s y (.lst [V.bl true])=O at u⊢;let l:=L<|>u;by_cases f:(ws.map Ψ).take 1=[true]
  case neg=>
   rw[decide_eq_false f];rw[decide_eq_false f,afy]at q;lk;show q O l
  rw[decide_eq_true f];rw[decide_eq_true f,adF]at q;let S8:=l.seq G;lk;rw[cL];have:=q O l;rw[show decide (2<=↥ws)=decide ((2:Int)<((↥ws+1:Nat):Int))from decide_eq_decide.mpr #[λz=>(),λz=>()]]at this;show this
 rw[decide_eq_false h4];rw[if_neg h4]at q;lk;show χ ?_;w_up;show Δ ?_>>=Ζ (λh=>?_) (λh=>χ ?_)
 .let h5:v=μ "place":=V.str.inj h;rw[if_pos h5]at q;unfold oH at q;symm;lk;show bw (θ.of n) λp2 j=>?_
  rw[show↑(2:Int)=↑((2:Nat):Int)from rfl,xW, <-ao3];let#[u,B,M,p2,s]:=Η j (.lst (((ws.map Ψ).take 2).map V.bl));let L:=Y<|>u;lk;show#[Α,λy g=>?_];let u:ζ s (upd s y (.lst [V.bl true,V.bl true])):=ζ.upd g;show wI (cs:=[true,true]) Z (u<*B) ξ ?_;generalize upd s y (.lst [V.bl true,V.bl true])=O at u⊢;let l:=L<|>u;by_cases f:(ws.map Ψ).take 2=[true,true]
  case neg=>
   rw[decide_eq_false f];rw[decide_eq_false f,afy]at q;lk;show q O l
  rw[decide_eq_true f];rw[decide_eq_true f,adF]at q;lk;show bw (l.seq G) λp3 D=>?_
  rw[show↑(3:Int)=↑((2+1:Nat):Int)from rfl,cd 2];lk;show#[p3,_,rfl,θ.of ξ,q _ (l<|>(ζ.upd D))]
 let h5:¬v=μ "place":=λe=>h (by rw[e])
 rw[if_neg h5]at q;symm;lk;show Ζ (λh=>?_) (λh=>?_)
 case refine_2=>
  rw[decide_eq_false (λe=>h (by rw[e])),afy]at q;show q M Y
 rw[decide_eq_true (V.str.inj h),adF]at q;unfold qI at q;lk;show bw (θ.of n) λp2 j=>?_
 rw[show↑(1:Int)=↑((1:Nat):Int)from rfl,xW, <-ao3];let#[u,B,M,p2,s]:=Η j (.lst (((ws.map Ψ).take 1).map V.bl));let L:=Y<|>u;lk;show#[Α,λy g=>?_];let u:ζ s (upd s y (.lst [V.bl true])):=ζ.upd g;show wI (cs:=[true]) Z (u<*B) ξ ?_;generalize upd s y (.lst [V.bl true])=O at u⊢;let l:=L<|>u;by_cases f:(ws.map Ψ).take 1=[true]
 case neg=>
  rw[decide_eq_false f];rw[decide_eq_false f,afy]at q;lk;show q O l
 rw[decide_eq_true f];rw[decide_eq_true f,adF]at q;lk;show bw (l.seq G) λp3 D=>?_
 rw[show↑(2:Int)=↑((1+1:Nat):Int)from rfl,cd 1];lk;show#[p3,_,rfl,θ.of ξ,q _ (l<|>(ζ.upd D))]
def ϗ(z:Str):Str:=(ϋ z).1
def qT(nm:List Str)(z:Str):Bool:=(decide (0<↥(ϗ z)/\↥(ϗ z)<9)&&(fU (ϋ z).2&&decide (ϗ z∉nm)))&&gb (ϗ z) nM
def J1{ws:List Str}:aL (ws.map ϋ)=true↔(1<=↥ws/\↥ws<=6)/\(∀z∈ws,isName (ϗ z)=true/\fU (ϋ z).2=true)/\(ws.map ϗ).Nodup:=by
 unfold aL;rw[aa9,aa9,decide_eq_true_eq,decide_eq_true_eq,ach,ϭ,agf];show#[λh=>#[h.1.1,λz a=>?_,h.2],λh=>#[#[h.1,λc e=>?_],h.2.2]]
 .have :=h.1.2 (ϋ z) (aja a)
  rwa [aa9]at this
 .let#[z,a,rfl]:=ad8.mp e;rw[aa9];show h.2.1 z a
def La{nm:List Str}{z:Str}:qT nm z=true↔isName (ϗ z)=true/\fU (ϋ z).2=true/\ϗ z∉nm:=by
 unfold qT isName;simp only[aa9,decide_eq_true_eq];show#[λh=>#[#[(),h.2],h.1.2.1,h.1.2.2],λh=>#[#[(),h.2.1,h.2.2],h.1.2]]
def ahy{ws:List Str}{i:Nat}{z:Str}(h:ws[i]?=↑z):ws=ws.take i++z::ws.drop (i+1):=by
 let#[h1,rfl]:=aab.mp h;rw[<-anw h1,List.take_append_drop]
def aiU{ws:List Str}{i:Nat}{z:Str}(h:ws[i]?=↑z)(c:qT ((ws.take i).map ϗ) z=false):aL (ws.map ϋ)=false:=by
 rw[<-asn];intro e;let#[_,h2,a]:=J1.mp e;rw[ahy h,aeS,acz,ar7]at a;have:=La.mpr #[(h2 z (aan h)).1,(h2 z (aan h)).2,λm=>a.2.2 _ m _ (ad1 ..) rfl];rw[c]at this;cases this
structure nU(ws:List Str)(i:Nat):Prop where
 nd:((ws.take i).map ϗ).Nodup
 ok:∀z∈ws.take i,isName (ϗ z)=true/\fU (ϋ z).2=true
def nU.next{ws:List Str}{i:Nat}{z:Str}(h:nU ws i)(c:ws[i]?=↑z)(f:qT ((ws.take i).map ϗ) z=true):nU ws (i+1):=by
 let#[g,j,l]:=La.mp f;let e:ws.take (i+1)=ws.take i++[z]:=by rw[aj9,c];rfl
 show#[?_,λy hy=>?_]
 .rw[e,aeS,ar7];show#[h.nd,by simp,λa m b n e=>l (by
   have:b=ϗ z:= ~~~n
   rw[<-this, <-e];show m)]
 .rw[e]at hy;obtain hy|hy:=acL.mp hy
  .show h.ok y hy
  .have :y=z:= ~~~hy
   rw[this];show#[g,j]
inductive T6(K:ϩ):Sp
 |mk (a:δ) (v:Str) (ws:List Str):vs=[.ref a]->θ K H a ((v::ws).map V.str)->ϒ (v::ws)->fX ws=true->(∀H',ζ H H'->Q (.bl (aL (ws.map ϋ))) H')
def Jh:Def 1 "_law_are_columns" ["_law_parts"] (T6 K):=by
 exists Mv,Jh,hr,#[a,v,ws,rfl,hS,hW,hb,q],2,n1.aN,1;let Ϥ:ϒ ws:=hW.sub (afo _ _);let w20:=Ϥ.len;let#[ab,ac]:=asK.mp hb;let Ϻ:ws≠[]:=of_decide_eq_true ab;let h2:∀z∈ws,↥(Λ 58 z)=2:=λz n=>of_decide_eq_true (ach.mp ac z n)
 k_go;show#[Α,λnl O=>?_];let#[s1,e1,H,nl,H1]:=Η O (.lst []);w_up;show uw (by walk_at"po") (by rfl) (by intro _;rfl) ?_>>=bw (s1.seq hS) λp hp=>?_
 rw[acz,qb];let#[s2,e2]:=Η hp (.lst (ws.map V.str));let ae:p≠nl:=λz=>by rw[z,e1]at hp;cases hp
 generalize upd H1 p (.lst (ws.map V.str))=H2 at s2 e2⊢;show#[p,_,rfl,θ.of e2,λi σ H'=>(∃C D I l,σ=[↑(.ref a),↑(.ref nl),C,D,I,l])/\ζ H H'/\H' nl=↑(.lst (((ws.take i).map ϗ).map V.str))/\H' p=↑(.lst (ws.map V.str))/\nU ws i,#[#[none,none,none,none,rfl],s1<|>s2,s2<*e1,e2,aqS,(λz n=>by simp at n)],λi σ' H' hi u=>?_,λi x σ' H' W u=>?_,λσ' H' u=>?_]
 .let#[_,_,_,h,_]:=u;show θ.of h
 .let#[#[C,D,I,l,rfl],sm,R,ep,Y]:=u;rw[acj]at W;let#[z,n,rfl]:=aeF.mp W;let S9:=aan n;let ec:=Hn (h2 z S9);let air:=Ϥ.sh z S9;let hil:=(aab.mp n).1;show Γ nd ?_;w_up;f_tup;show au F.plainAttrs_str F.slot_str_split F.type_str_split (h:=?_)>>=m_split (c:=58) λJ af=>?_
  rw[ec];let l0:↥(ϗ z)<=40:=by
   have:=rm (c:=58) (z:=z) (y:=(ϋ z).1) (by rw[ec];simp);show(ϋ z).1.length<=40;omega
  let bad:= @aiU ws i z n;let next:= @nU.next ws i z Y n
  generalize B:qT ((ws.take i).map ϗ) z=g at bad next
  unfold qT at B;let U:ζ H' (upd H' J (.lst ([(ϋ z).1,(ϋ z).2].map V.str))):=ζ.upd af;let M:(upd H' J (.lst ([(ϋ z).1,(ϋ z).2].map V.str))) J=↑(.lst [.str (ϗ z),.str (ϋ z).2]):=ξ;generalize upd H' J (.lst ([(ϋ z).1,(ϋ z).2].map V.str))=Z at U M⊢;let rest:∀(L:Bool)(H4:Hp),ζ Z H4->g=(L&&gb (ϗ z) nM)->Ι X ((MN ((ϕ Bx).drop 1)).drop 2) {nx:=λσ H'=>(∃C D I l,σ=[↑(.ref a),↑(.ref nl),C,D,I,l])/\ζ H H'/\H' nl=some (.lst (((ws.take (i+1)).map ϗ).map V.str))/\H' p=↑(.lst (ws.map V.str))/\nU ws (i+1),rt:=Q,bk:=λσ H'=>Ι X ((ϕ Bx).drop 2) {nx:=λ_ H'=>Q .non H',rt:=Q} σ H',ct:=λσ H'=>(∃C D I l,σ=[↑(.ref a),↑(.ref nl),C,D,I,l])/\ζ H H'/\H' nl=some (.lst (((ws.take (i+1)).map ϗ).map V.str))/\H' p=↑(.lst (ws.map V.str))/\nU ws (i+1)} [↑(.ref a),↑(.ref nl),↑(.str z),↑(.ref J),↑(.bl L),l] H4:=by
   intro L H4 f ag;w_up;show wO (by walk_at"po") (by rfl) (by intro _;rfl) ?_>>=Φ (θ.of (f<*M)) (show ύ [V.str (ϗ z),V.str (ϋ z).2] ((0:Nat):Int)=↑(.str (ϗ z))from ϛ rfl) ?_*>#[ϗ z,rfl,λj σ G=>(∃o,σ=[↑(.ref a),↑(.ref nl),↑(.str z),↑(.ref J),↑(.bl (L&&((ϗ z).cps.toList.take j).all λc=>decide (c∈nM.cps.toList))),o])/\H4=G,#[#[l,by show _=[↑(.ref a),↑(.ref nl),↑(.str z),↑(.ref J),↑(.bl (L&&true)),l];rw[ata]],rfl],λj c σ G hj u=>?_,λσ G u=>?_]
   .let#[#[o,rfl],rfl]:=u;generalize Zx:(L&&((ϗ z).cps.toList.take j).all λc=>decide (c∈nM.cps.toList))=gj;show Γ nd ?_;f_len;f_tup;cases gj with
    |false=>
     lk;show#[#[↑(.str #[#v[c]]),?_],rfl];rw[aj9,hj,atP, <-atQ,Zx];rfl
    |true=>
     lk;rw[StrLaws.found_one];show#[#[↑(.str #[#v[c]]),?_],rfl];rw[aj9,hj,atP, <-atQ,Zx];show _=[_,_,_,_,↑(V.bl (true&&(decide (c∈nM.cps.toList)&&true))),_];rw[adF,ata];rfl
   .let#[#[o,rfl],rfl]:=u;rw[ajX];let ah:(L&&((ϗ z).cps.toList.all λc=>decide (c∈nM.cps.toList)))=g:=ag.symm;rw[ah];let t4:=sm<|>U<|>f;w_up;show Δ ?_;cases g with
    |false=>
     lk;symm;lk;have:=q H4 t4;rw[bad rfl]at this;show this
    |true=>
     lk;let U6:=(U<|>f) _ _ R;show χ ?_;f_len;show Ϝ (au F.plainAttrs_list F.slot_list_append F.type_list_append (h:=?_))>>=#[.inl #[rfl,_,θ.of U6],?_]>>=Φ (θ.of (f<*M)) (show ύ [V.str (ϗ z),V.str (ϋ z).2] ((0:Nat):Int)=↑(.str (ϗ z))from ϛ rfl) ?_>>=bZ lL #[nl,_,_,rfl,rfl,U6,by rw[ϭ,ϭ,ah0];omega,?_]*>#[#[_,_,_,_,rfl],λb o e=>?_,?_,?_,next rfl]
     .rw[ι (Ξ e O)];show t4<*e
     .rw[ξ,aj9,n,aeS,aeS];rfl
     .rw[ι ae];show(U<|>f) _ _ ep
  k_go;show Φ (θ.of M) (show ύ [V.str (ϗ z),V.str (ϋ z).2] ((0:Nat):Int)=↑(.str (ϗ z))from ϛ rfl) ?_;lk;by_cases c1:0<↥(ϗ z)/\↥(ϗ z)<9
  case neg=>
   rw[decide_eq_false c1,afy]at B;show Ζ (λh=>?_) (λh=>?_)
   .lk;show Ζ (λh'=>absurd #[(),()] c1) (λh'=>?_)>>=rest false Z (ζ.refl _) B.symm
   .lk;show rest false Z (ζ.refl _) B.symm
  rw[decide_eq_true c1,adF]at B;show Ζ (λ_=>?_) (λh=>absurd () h)>>=Ζ (λ_=>?_) (λh=>absurd () h)>>=Φ (θ.of M) (show ύ [V.str (ϗ z),V.str (ϋ z).2] ((1:Nat):Int)=↑(.str (ϋ z).2)from ϛ rfl) ?_>>=#[Α,λy hy=>?_];let#[f,ey,Z,y,H4]:=Η hy (.tup [.str ("number":Str),.str ("text":Str)]);show dw (ψ.of ey) ?_;rw[gB];let ek:decide ((ϋ z).2=μ "number"\/(ϋ z).2=μ "text")=fU (ϋ z).2:=rfl;rw[ek];cases hk:fU (ϋ z).2 with
  |false=>
   rw[hk,afy]at B;lk;show rest false H4 f B.symm
  |true=>
   rw[hk,adF]at B;lk;show Φ (θ.of (f<*M)) (show ύ [V.str (ϗ z),V.str (ϋ z).2] ((0:Nat):Int)=↑(.str (ϗ z))from ϛ rfl) ?_>>=IW (θ.of ((U<|>f)<*R)) (by rw[ap4];show ach.mpr λ_ _=>rfl) ?_;let ai:(!bc (.str (ϗ z)) (((ws.take i).map ϗ).map V.str))=decide (ϗ z∉(ws.take i).map ϗ):=by
    rw[agb,ate,decide_eq_true_eq];unfold bc;rw[aqG];constructor
    .intro h m;show h _ (aja m) (by simp[cF])
    .intro h x W e;let#[y,hy,rfl]:=ad8.mp W;have:y=ϗ z:=by simpa [cF]using e
     show h (this▸hy)
   rw[ai];show rest _ H4 f B.symm
 .let#[#[C,D,I,l,rfl],sm,R,ep,Y]:=u;rw[ϭ,aet (Ϭ _)]at R;let Xr:=Y.nd;let Oe:=Y.ok;rw[ϭ,aet (Ϭ _)]at Xr Oe;let sqn:θ K H' nl ((ws.map ϗ).map V.str):=θ.of R;symm;lk;rw[ϭ,ϭ];let hw1:1<=↥ws:=by
   cases ws with
   |nil=>show absurd rfl Ϻ
   |cons x r=>simp
  let e:aL (ws.map ϋ)=decide (((↥ws:Nat):Int)<7):=by
   rw[agb,decide_eq_true_eq];show#[λh=>by have:=(J1.mp h).1;omega,λh=>J1.mpr #[(),Oe,Xr]]
  have:=q H' sm;rw[e]at this;show this
def wR:List Nat:=("l/0/+aa/all/<3":Str).cps.toList
def uC:List Nat:=("l/1//all/>3.1":Str).cps.toList
def Gj:List Nat:=("5.0001":Str).cps.toList
def tV(y:List Nat):Prop:=32∉y/\(y.reverse[4]?=↑46->y=Gj)/\(47∈y->y=wR\/y=uC)
noncomputable instance (y:List Nat):Decidable (tV y):=inferInstanceAs (Decidable (_/\_/\_))
def di(z:Str):Prop:=↥z<=40/\(∀c∈z.cps.toList,c<1114112/\c≠32)/\tV z.cps.toList
noncomputable instance (z:Str):Decidable (di z):=inferInstanceAs (Decidable (_/\_/\_))
structure Wn(n:Nat)(ws:List Str):Prop where
 len:↥ws<=n
 ok:∀z∈ws,di z
theorem Wn.w81{n:Nat}{ws:List Str}(h:Wn n ws)(c:n<=20):ϒ ws:=#[adQ h.len c,λz a=>(h.ok z a).1,λz a=>(h.ok z a).2.1]
theorem Wn.app{n m:Nat}{ws vs:List Str}(h:Wn n ws)(g:Wn m vs):Wn (n+m) (ws++vs):=#[by rw[aa6];have:=h.len;have:=g.len;omega,λz hz=>by
 obtain hz|hz:=acL.mp hz
 .show h.ok z hz
 .show g.ok z hz]
theorem Wn.mono{n m:Nat}{ws:List Str}(h:Wn n ws)(a:n<=m):Wn m ws:=#[adQ h.len a,h.ok]
theorem Wn.one{z:Str}(h:di z):Wn 1 [z]:=#[Ϭ _,λy a=>by rw[aa0.mp a];show h]
theorem Wn.cons{n:Nat}{z:Str}{ws:List Str}(h:di z)(g:Wn n ws):Wn (n+1) (z::ws):=#[by rw[aap];have:=g.len;omega,λy a=>by
 obtain e|e:=aaz.mp a
 .rw[e];show h
 .show g.ok y e]
def abA{i:Int}(e:0<=i)(h1:i<=9999999999):di (Χ i):=by
 let#[n,rfl]:=aeV e;let a:=(oE (K5 n).1).1;show#[adQ (Gf (i:=(n:Int)) (k:=18) ()) (by decide),λc h=>?_,λh=>?_,λh=>?_,λh=>?_]
 .have :=a c h;omega
 .have :=a _ h;omega
 .have :=a _ (apl.mp (aan h));omega
 .have :=a _ h;omega
def pick{l:List Str}{n:Nat}{i:Int}(c:0<=i)(h1:i<(n:Int))(e:↥l=n):∃z∈l,ύ (l.map V.str) i=↑(.str z):=by
 let#[j,rfl]:=aeV c;let a:j<↥l:=()
 show#[l[j],arx a,ϛ (by rw[acj,aag a];rfl)]
inductive XH(K:ϩ):Sp
 |mk (a:δ) (ns:List Int) (k:Int):vs=[.ref a,.int k]->θ K H a (ns.map V.int)->↥ns<=63->0<=k->k<=1000->(∀z H',di z->ζ H H'->Q (.str z) H')
def Gh:Def 2 "_law_number" ["_law_script","_law_k"] (XH K):=by
 show Ε (N:=["_law_script","_law_k"]) T.Gh (λ_ _ _ _ s H vs Q E x h=>?_);let#[a,ns,k,rfl,f,g,k0,k1,q]:=h;let y:=T.jM;let hsz:=ϯ;let z:=!oM;let c:∀{X:Cx}{i:Int}{G:Hp},0<=i->i<=9999999999->ζ H G->CL X (.type "str") [.int i] G Q:=λl h1 s=>lq (cu ()) (q _ _ (abA l h1) s)
 w_up;show Δ ?_>>=#[a,ns,k,6,rfl,f,g,(),(),by decide,?_]>>=Ζ (λ_=>?_) (λ_=>?_)
 .f_len;show ο ?_>>=#[Α,λp n=>?_];let e:=ζ.upd (o:=.lst [.int 9999999999,.int 1000000000,.int 1000000001]) n;let e1:(upd H p (.lst [.int 9999999999,.int 1000000000,.int 1000000001])) p=↑(.lst [.int 9999999999,.int 1000000000,.int 1000000001]):=ξ;change EV _ _ _ (upd H p (.lst [.int 9999999999,.int 1000000000,.int 1000000001])) _;generalize upd H p (.lst [.int 9999999999,.int 1000000000,.int 1000000001])=H1 at e e1⊢;lk;show#[a,ns,k+1,3,rfl,e.seq f,g,(),(),by decide,?_];let j:=dR ns (k+1) (m:=3) (by decide);let c1:=dU ns (k+1) (m:=3) (by decide);generalize dI ns (k+1) 3=dd at j c1⊢;let u:dd=0\/dd=1\/dd=2:=()
  obtain rfl|rfl|rfl:=u
  .show Φ (θ.of e1) (v:=.int 9999999999) rfl ?_>>=c (by decide) (by decide) e
  .show Φ (θ.of e1) (v:=.int 1000000000) rfl ?_>>=c (by decide) (by decide) e
  .show Φ (θ.of e1) (v:=.int 1000000001) rfl ?_>>=c (by decide) (by decide) e
 .show χ ?_;symm;lk;show #[a,ns,k+1,60,rfl,f,g,(),(),by decide,?_];let j:=dR ns (k+1) (m:=60) (by decide);let c1:=dU ns (k+1) (m:=60) (by decide);lk;show c j () (ζ.refl _)
def qp:List Str:=[μ "",μ "+aa",μ "-bb +aa",μ "+cc",μ "*aa"]
def wU:List Str:=[μ "all",μ "none aa",μ "over aa 5",μ "is bb 'x",μ "whole",μ "not all",μ ": all",μ "all :"]
def ah2:∀a∈qp,∀zs∈wU,↥(a++μ " : "++zs)<=100/\↥a<=50/\↥zs<=50/\↥(Txt.stripChars (a++μ " : "++zs) (" ":Str))<=100/\(Λ 32 (Txt.stripChars (a++μ " : "++zs) (" ":Str))).length<=6/\∀z∈ Λ 32 (Txt.stripChars (a++μ " : "++zs) (" ":Str)),di z:=by fin2
inductive Z2(K:ϩ):Sp
 |mk (a:δ) (ns:List Int) (k:Int):vs=[.ref a,.int k]->θ K H a (ns.map V.int)->↥ns<=63->0<=k->k<=1000->(∀p ws H',ζ H H'->H' p=↑(.lst (ws.map V.str))->Wn 6 ws->Q (.ref p) H')
def Ij:Def 2 "_law_list_words" ["_law_script","_law_k"] (Z2 K):=by
 exists Pz,Ij,M,#[a,ns,k,rfl,o,p,k0,k1,q],2,1;let lt:↥(" : ":Str)=3:=by fin2
 let O:=!oM;k_go;show#[Α,λp1 f=>?_];let#[g,e1]:=Η f (.lst (qp.map V.str));change EV _ _ _ (upd H p1 (.lst (qp.map V.str))) _;generalize upd H p1 (.lst (qp.map V.str))=H1 at g e1⊢;lk;show#[a,ns,k,5,rfl,g.seq o,p,(),(),by decide,?_];let s:=dR ns k (m:=5) (by decide);let c1:=dU ns k (m:=5) (by decide);generalize dI ns k 5=d1 at s c1⊢;let#[i,u,I]:=pick (l:=qp) s c1 rfl;show Φ (θ.of e1) I ?_;k_go;show#[Α,λp2 j=>?_];let#[v,x]:=Η j (.lst (wU.map V.str));change Ι _ _ _ _ (upd H1 p2 (.lst (wU.map V.str)));generalize upd H1 p2 (.lst (wU.map V.str))=H2 at v x⊢;let B:=g<|>v;symm;show au F.plainAttrs_str F.slot_str_split F.type_str_split (h:=?_)*>au F.plainAttrs_str F.slot_str_strip F.type_str_strip (h:=?_);lk;let R:=(show ∀z∈qp,↥z<=50 by fin2) i u;show tU () ?_>>=#[a,ns,k+1,8,rfl,B.seq o,p,(),(),by decide,?_];let C:=dR ns (k+1) (m:=8) (by decide);let e:=dU ns (k+1) (m:=8) (by decide);generalize dI ns (k+1) 8=U at C e⊢;let#[zs,hs,n]:=pick (l:=wU) C e rfl;show Φ (θ.of x) n ?_;let#[W,Y,Z,J,D,G]:=ah2 i u zs hs;show tU (by rw[len_app];omega) ?_>>=m_strip () ?_;lk;generalize Txt.stripChars (i++μ " : "++zs) (" ":Str)=y at J D G⊢;show m_split (c:=32) λL h1=>?_
 show q L _ _ (B<|>(ζ.upd h1)) ξ #[D,G]
def jQ:List Str:=[μ "",μ "00",μ "01",μ "-1",μ "+1",μ "10000000000",μ "1_0",μ "1.0",μ "a",μ "x:y",μ "aa:number",μ "a:b:c"]
def kY:List Str:=[μ ":",μ "::",μ "living",μ "still",μ "Still",μ "all",μ "?",μ "'x",μ "'X",μ "5",μ "5.",μ "book",μ "put"]
def nj:List Str:=[μ "last",μ "stood",μ "Let",zg ("9":Str) 40,μ "*"]
def agG:∀z∈jQ++kY++nj,di z:=by fin2
inductive Li(K:ϩ):Sp
 |mk (a:δ) (ns:List Int) (k:Int):vs=[.ref a,.int k]->θ K H a (ns.map V.int)->↥ns<=63->0<=k->k<=1000->(∀z H',di z->ζ H H'->Q (.str z) H')
def Ia:Def 2 "_law_odd" ["_law_script","_law_k"] (Li K):=by
 exists Qh,Ia,W,#[a,ns,k,rfl,F,G,k0,k1,q],2,1,Y oM;w_up;show _L.Ar (i:=2) ?h0 ?h1 ?h2 ?h3 ?h4 ?_
 case h0=>show nd
 case h1=>rfl
 case h2=>show .inl rfl
 case h3=>rfl
 case h4=>show .inl rfl
 lk;show#[Α,λp1 c=>?_];let#[n,e1]:=Η c (.lst (jQ.map V.str));change Ι _ _ _ _ (upd H p1 (.lst (jQ.map V.str)));generalize upd H p1 (.lst (jQ.map V.str))=H1 at n e1⊢;w_up;show _L.Ar (i:=2) ?h0 ?h1 ?h2 ?h3 ?h4 ?_
 case h0=>show nd
 case h1=>rfl
 case h2=>show .inl rfl
 case h3=>rfl
 case h4=>show .inl rfl
 lk;show#[Α,λp2 e=>?_];let#[f,o]:=Η e (.lst (kY.map V.str));change OP _ _ _ _ (upd H1 p2 (.lst (kY.map V.str))) _;generalize upd H1 p2 (.lst (kY.map V.str))=H2 at f o⊢;show ye (f<*e1) o Α λp3 g=>?_
 rw[<-aeS];let#[p,s,H2,p3,u]:=Η g (.lst ((jQ++kY).map V.str));w_up;show _L.Ar (i:=2) ?h0 ?h1 ?h2 ?h3 ?h4 ?_
 case h0=>show nd
 case h1=>rfl
 case h2=>show .inl rfl
 case h3=>rfl
 case h4=>show .inl rfl
 lk;show ahC (by decide) (by decide) (by fin2) (by rw[hsz];fin2) ?_>>=#[Α,λv I=>?_];let#[j,x]:=Η I (.lst (nj.map V.str));change OP _ _ _ _ (upd u v (.lst (nj.map V.str))) _;generalize upd u v (.lst (nj.map V.str))=J at j x⊢;show ye (j<*s) x Α λL M=>?_
 rw[<-aeS];let#[y,B,J,L,O]:=Η M (.lst ((jQ++kY++nj).map V.str));let C:=(n<|>f)<|>(p<|>j)<|>y;symm;lk;show #[a,ns,k,30,rfl,C.seq F,G,(),(),by decide,?_];let D:=dR ns k (m:=30) (by decide);let c1:=dU ns k (m:=30) (by decide);generalize dI ns k 30=d1 at D c1⊢;let#[z,R,U]:=pick (l:=jQ++kY++nj) D c1 rfl;show Φ (θ.of B) U ?_*>q z O (agG z R) C
def sG:List Str:=[μ "book",μ "put",μ "change",μ "take",μ "first",μ "last",μ "forth",μ "back",μ "place",μ "let",μ "stood",μ "put"]
def mW:List Str:=[μ "aa:number",μ "bb:text",μ "cc:text",μ "aa:text",μ ":number",μ "dd:",μ "ee:whole",μ "A:text"]
def vals3:List Str:=[μ "5",μ "-7",μ "?"]
def rY:List Str:=[μ "'x",μ "?",μ "'"]
def qP:List Str:=[μ "living",μ "still"]
def uo:List Str:=[μ "l/0/+aa/all/<3 5.0001",μ "x",μ "",μ "l/1//all/>3.1 2"]
def aiR:∀z∈sG++mW++vals3++rY++qP,di z:=by fin2
def afS:∀z∈uo,↥z<=100/\↥(Λ 32 z)<=2/\∀y∈ Λ 32 z,di y:=by fin2
inductive Wr(K:ϩ):Sp
 |mk (a:δ) (ns:List Int):vs=[.ref a]->θ K H a (ns.map V.int)->↥ns<=63->(∀p ws H',ζ H H'->H p=none->H' p=↑(.lst (ws.map V.str))->Wn 9 ws->1<=↥ws->Q (.ref p) H')
def Ja:Def 3 "_law_good" ["_law_script"] (Wr K):=by
 show Ε (S:=Wu) T.Ja (λ_ _ A _ s H vs Q E hr h=>?_);let#[a,ns,rfl,f,j,q]:=h;let nd:=Wu.nd;let n1:=T.Uc;let hsz:=ϯ;let D0:=!oM;let D1:=!Gh;let D2:=!Ij;let gk:∀{z:Str}{l:List Str},z∈l->(∀z∈l,z∈sG++mW++vals3++rY++qP)->di z:=λh g=>aiR _ (g _ h)
 let O:∀{X:Cx}{G:Hp}{p1 p2:δ}{ws vs:List Str},ζ H G->G p1=↑(.lst (ws.map V.str))->G p2=↑(.lst (vs.map V.str))->Wn 3 ws->Wn 6 vs->1<=↥ws->OP X (binaryOp .Add) (.ref p1) (.ref p2) G Q:=λ{X G p1 p2 ws vs} s e1 R w1 w2 h1=>ye e1 R (by rw[ϭ,ϭ];have:=w1.len;have:=w2.len;omega) λp hp=>by
  rw[<-aeS];show q p _ _ (s<|>(ζ.upd hp)) (s.free hp) ξ (w1.app w2) (by rw[aa6];omega)
 k_go;show#[Α,λp1 ac=>?_];let#[s1,e1]:=Η ac (.lst (sG.map V.str));change Ι _ _ _ _ (upd H p1 (.lst (sG.map V.str)));generalize upd H p1 (.lst (sG.map V.str))=H1 at s1 e1⊢;k_go;show#[a,ns,0,12,rfl,s1.seq f,j,by decide,by decide,by decide,?_];let c0:=dR ns 0 (m:=12) (by decide);let c1:=dU ns 0 (m:=12) (by decide);generalize dI ns 0 12=d1 at c0 c1⊢;let#[hd,hh,ah]:=pick (l:=sG) c0 c1 rfl;let Y:di hd:=gk hh (by fin2);show Φ (θ.of e1) ah ?_;w_up;show Δ ?_>>=Ζ (λ_=>?_) (λ_=>χ ?_)
 .w_up;f_tup;lk;show#[Α,λp2 B=>?_];let#[s2,R]:=Η B (.lst (mW.map V.str));change Ι _ _ _ _ (upd H1 p2 (.lst (mW.map V.str)));generalize upd H1 p2 (.lst (mW.map V.str))=H2 at s2 R⊢;symm;lk;show #[Α,λp3 ab=>?_];let#[Z,e3]:=Η ab (.lst (([hd]:List Str).map V.str));change EV _ _ _ (upd H2 p3 (.lst (([hd]:List Str).map V.str))) _;generalize upd H2 p3 (.lst (([hd]:List Str).map V.str))=H3 at Z e3⊢;let ϓ:=s1<|>s2<|>Z;show am9 ["_law_k","_law_some","_law_script"] (σ':=[none,↑(.ref p2),↑(.ref a)]) (by rfl) (by rfl) (bD (ρ JQ)) (by fin2) (by rfl) (by rfl) (by rfl) n1 (by rfl) ?_>>=#[a,ns,1,4,rfl,ϓ.seq f,j,by decide,by decide,by decide,?_];let c0:=dR ns 1 (m:=4) (by decide);let c1:=dU ns 1 (m:=4) (by decide);generalize dI ns 1 4=d2 at c0 c1⊢;lk;show#[(),(),λi v=>∃z∈mW,v=.str z,λfp E' C s4 H0 i H4 hi sm=>?_,λE' H4 xs hE hl2 hx e4 Ν =>?_]
  .lk;show#[a,ns,20+i,8,rfl,(ϓ<|>sm).seq f,j,(),(),by decide,?_];let#[z,hz,az]:=pick (l:=mW) (dR ns (20+i) (m:=8) (by decide)) (dU ns (20+i) (m:=8) (by decide)) rfl;show Φ (θ.of ((Z<|>sm)<*R)) az ?_*>#[#[z,hz,rfl],ζ.refl _]
  .obtain⟨ws,ew,D⟩:∃ws:List Str,xs=ws.map V.str/\Wn 6 ws:=by
    let ae:∀l:List V,(∀v∈l,∃z∈mW,v=.str z)->∃ws:List Str,l=ws.map V.str/\∀z∈ws,di z:=by
     intro l;induction l with
     |nil=>show λ_=>#[[],rfl,λz hz=>nomatch hz]
     |cons x r ih=>
      intro h;let#[z,hz,rfl]:=h x (by simp);let#[ws,e,Y]:=ih λv hv=>h v (by simp[hv])
      show#[z::ws,by rw[e];rfl,λy hy=>?_];obtain e|e:=aaz.mp hy
      .rw[e];show gk hz (by fin2)
      .show Y y e
    let#[ws,e,Y]:=ae xs λv hv=>by
     let#[i,hi]:=ak7 hv;show hx i v hi
    show#[ws,e,?_,Y];have:=congrArg alZ e;rw[ϭ]at this;omega
   subst ew;show O (ϓ<|>Ν) (Ν<*e3) e4 ((Wn.one Y).mono (by decide)) D (by simp)
 w_up;show Δ ?_>>=#[Α,λy hy=>?_];let#[u,I,H1,y,H2]:=Η hy (.tup [.str ("put":Str),.str ("change":Str)]);let s2:=s1<|>u;show dw (ψ.of I) ?_;generalize bc (V.str hd) [V.str ("put":Str),V.str ("change":Str)]=bp;clear u I;cases bp with
 |true=>
  lk;k_go;show#[Α,λp2 B=>?_];let#[u1,R]:=Η B (.lst (vals3.map V.str));change EV _ _ _ (upd H2 p2 (.lst (vals3.map V.str))) _;generalize upd H2 p2 (.lst (vals3.map V.str))=H3 at u1 R⊢;let Z:=s2<|>u1;lk;show#[a,ns,1,3,rfl,Z.seq f,j,by decide,by decide,by decide,?_];let#[x,hx,ax]:=pick (l:=vals3) (dR ns 1 (m:=3) (by decide)) (dU ns 1 (m:=3) (by decide)) rfl;show Φ (θ.of R) ax ?_>>=#[Α,λp3 ab=>?_];let#[u2,e3]:=Η ab (.lst (rY.map V.str));change EV _ _ _ (upd H3 p3 (.lst (rY.map V.str))) _;generalize upd H3 p3 (.lst (rY.map V.str))=H4 at u2 e3⊢;let s4:=Z<|>u2;lk;show#[a,ns,2,3,rfl,s4.seq f,j,by decide,by decide,by decide,?_];let#[z,hz,az]:=pick (l:=rY) (dR ns 2 (m:=3) (by decide)) (dU ns 2 (m:=3) (by decide)) rfl;show Φ (θ.of e3) az ?_>>=#[Α,λp4 vh=>?_];let#[u3,e4]:=Η vh (.lst (([x,z]:List Str).map V.str));change Ι _ _ _ _ (upd H4 p4 (.lst (([x,z]:List Str).map V.str)));generalize upd H4 p4 (.lst (([x,z]:List Str).map V.str))=H5 at u3 e4⊢;let U:=s4<|>u3;symm;lk;show #[a,ns,20,rfl,U.seq f,j,by decide,by decide,λn H6 hn J=>?_]>>=#[Α,λo W=>?_];let#[L,M]:=Η W (.lst (([hd,n]:List Str).map V.str));change EV _ _ _ (upd H6 o (.lst (([hd,n]:List Str).map V.str))) _;generalize upd H6 o (.lst (([hd,n]:List Str).map V.str))=H7 at L M⊢;lk;show O (U<|>J<|>L) M ((J<|>L)<*e4) (((Wn.one hn).cons Y).mono (by decide)) (((Wn.one (gk hz (by fin2))).cons (gk hx (by fin2))).mono (by decide)) (by simp)
 |false=>
  lk;show χ ?_;w_up;show Δ ?_>>=#[Α,λy hy=>?_];let#[u,I,H2,y,H3]:=Η hy (.tup [.str ("take":Str),.str ("let":Str)]);let Z:=s2<|>u;show dw (ψ.of I) ?_;generalize bc (V.str hd) [V.str ("take":Str),V.str ("let":Str)]=bt;clear u I;cases bt with
  |true=>
   lk;symm;lk;show #[a,ns,20,rfl,Z.seq f,j,by decide,by decide,λn H6 hn J=>?_]>>=#[Α,λo W=>?_]*>q o [hd,n] _ ((Z<|>J)<|>(ζ.upd W)) ((Z<|>J).free W) ξ (((Wn.one hn).cons Y).mono (by decide)) (by simp)
  |false=>
   lk;show χ ?_;w_up;show Δ ?_>>=#[Α,λy hy=>?_];let#[u,I,H3,y,H4]:=Η hy (.tup [.str ("first":Str),.str ("last":Str)]);let s4:=Z<|>u;show dw (ψ.of I) ?_;generalize bc (V.str hd) [V.str ("first":Str),V.str ("last":Str)]=bf;clear u I;cases bf with
   |true=>
    lk;k_go;show#[Α,λp2 B=>?_];let#[u1,R]:=Η B (.lst (qP.map V.str));change EV _ _ _ (upd H4 p2 (.lst (qP.map V.str))) _;generalize upd H4 p2 (.lst (qP.map V.str))=H5 at u1 R⊢;let U:=s4<|>u1;lk;show#[a,ns,1,2,rfl,U.seq f,j,by decide,by decide,by decide,?_];let#[x,hx,ax]:=pick (l:=qP) (dR ns 1 (m:=2) (by decide)) (dU ns 1 (m:=2) (by decide)) rfl;show Φ (θ.of R) ax ?_;symm;lk;show #[a,ns,20,rfl,U.seq f,j,by decide,by decide,λn H6 hn J=>?_]>>=#[Α,λo W=>?_];let#[L,M]:=Η W (.lst (([hd,x,n]:List Str).map V.str));change EV _ _ _ (upd H6 o (.lst (([hd,x,n]:List Str).map V.str))) _;generalize upd H6 o (.lst (([hd,x,n]:List Str).map V.str))=H7 at L M⊢;let s7:=U<|>J<|>L;lk;show#[a,ns,22,rfl,s7.seq f,j,by decide,by decide,λp6 ws H8 u6 e6 D=>?_]*>O (s7<|>u6) (u6<*M) e6 (((Wn.one hn).cons (gk hx (by fin2))).cons Y) D (by simp)
   |false=>
    lk;show χ ?_;w_up;show Δ ?_>>=#[Α,λy hy=>?_];let#[u,I,H4,y,H5]:=Η hy (.tup [.str ("forth":Str),.str ("back":Str)]);let U:=s4<|>u;show dw (ψ.of I) ?_;generalize bc (V.str hd) [V.str ("forth":Str),V.str ("back":Str)]=bm;clear u I;cases bm with
    |true=>
     lk;k_go;show#[Α,λp2 B=>?_];let#[u1,R]:=Η B (.lst (uo.map V.str));change EV _ _ _ (upd H5 p2 (.lst (uo.map V.str))) _;generalize upd H5 p2 (.lst (uo.map V.str))=H6 at u1 R⊢;let s6:=U<|>u1;lk;show#[a,ns,1,4,rfl,s6.seq f,j,by decide,by decide,by decide,?_];let#[x,hx,ax]:=pick (l:=uo) (dR ns 1 (m:=4) (by decide)) (dU ns 1 (m:=4) (by decide)) rfl;let#[b1,b2,b3]:=afS x hx;show Φ (θ.of R) ax ?_;symm;lk;show #[a,ns,20,rfl,s6.seq f,j,by decide,by decide,λn H7 hn J=>?_]>>=#[Α,λo W=>?_];let#[L,M]:=Η W (.lst (([hd,n]:List Str).map V.str));change EV _ _ _ (upd H7 o (.lst (([hd,n]:List Str).map V.str))) _;generalize upd H7 o (.lst (([hd,n]:List Str).map V.str))=H8 at L M⊢;let s8:=s6<|>J<|>L;show au F.plainAttrs_str F.slot_str_split F.type_str_split (h:=?_)>>=m_split (c:=32) λp6 h6=>?_
     let u6:ζ H8 (upd H8 p6 (.lst ((Λ 32 x).map V.str))):=ζ.upd h6;show O (s8<|>u6) (u6<*M) ξ (((Wn.one hn).cons Y).mono (by decide)) #[(),b3] (by simp)
    |false=>
     lk;show χ ?_;w_up;show Δ ?_>>=Ζ (λ_=>?_) (λ_=>χ ?_)
     .f_len;show ο ?_>>=#[a,ns,20,rfl,U.seq f,j,by decide,by decide,λn H6 hn J=>?_]>>=#[a,ns,24,rfl,(U<|>J).seq f,j,by decide,by decide,λm H7 hm L=>?_]>>=#[Α,λo W=>?_];let#[u6,M]:=Η W (.lst (([hd,n,m]:List Str).map V.str));change EV _ _ _ (upd H7 o (.lst (([hd,n,m]:List Str).map V.str))) _;generalize upd H7 o (.lst (([hd,n,m]:List Str).map V.str))=H8 at u6 M⊢;let s8:=U<|>J<|>L<|>u6;lk;show#[a,ns,28,rfl,s8.seq f,j,by decide,by decide,λp6 ws H9 u7 e6 D=>?_]*>O (s8<|>u7) (u7<*M) e6 (((Wn.one hm).cons hn).cons Y) D (by simp)
     .f_len;show ο ?_>>=#[a,ns,20,rfl,U.seq f,j,by decide,by decide,λn H6 hn J=>?_]>>=#[Α,λo W=>?_];let#[L,M]:=Η W (.lst (([hd,n]:List Str).map V.str));change EV _ _ _ (upd H6 o (.lst (([hd,n]:List Str).map V.str))) _;generalize upd H6 o (.lst (([hd,n]:List Str).map V.str))=H7 at L M⊢;let s7:=U<|>J<|>L;lk;show#[a,ns,28,rfl,s7.seq f,j,by decide,by decide,λp6 ws H8 u6 e6 D=>?_]*>O (s7<|>u6) (u6<*M) e6 (((Wn.one hn).cons Y).mono (by decide)) D (by simp)
theorem Jl{f:Str->δ}:∀{l:List Str},(l.map f).Nodup->∀x∈l,∀y∈l,f x=f y->x=y
 |a::l,h,x,hx,y,hy,e=>by
  let#[h1,h2]:=alW.mp h;obtain ex|hx:=aaz.mp hx
  .obtain c|hy:=aaz.mp hy
   .rw[ex,c]
   .rw[ex]at e;show absurd (e▸aja hy) h1
  .obtain c|hy:=aaz.mp hy
   .rw[c]at e;show absurd (e▸aja hx) h1
   .show Jl h2 x hx y hy e
def gn:List Str:=["NoColumns","NoValue","NoOrder","NoRow","NoMark","NoSize","NoLine","NoBook","NoSieve","NoPage","Twice","Absent","Gone","Later"]
def mF(T:Txt K mg){x:Str}(a:x∈gn):XC K mg "LeafError" x:=by
 simp only[gn,aaz,amv,or_false]at a;obtain rfl|rfl|rfl|rfl|rfl|rfl|rfl|rfl|rfl|rfl|rfl|rfl|rfl|rfl:=a
 show T.alJ*>T.iK*>T.mR*>T.ae8*>T.yo*>T.ahx*>T.agJ*>T.amE*>T.mJ*>T.ajb*>T.alI*>T.acs*>T.ahX*>T.afs
def yC(T:Txt K mg){x y:Str}(c:x∈gn)(a:y∈gn):aoY K (.ref (η mg x)) (.ref (η mg y))=↑(decide (x=y)):=by
 let f:((("LeafError":Str)::gn).map (η mg)).Nodup:=T.Yi;by_cases h:x=y
 .subst h;rw[ajR (mF T c),decide_eq_true rfl]
 .rw[decide_eq_false h];show aiM (mF T c) (mF T a) (λz=>h (Jl f _ (abk _ c) _ (abk _ a) z)) (λz=>?_);let e:=Jl f _ (ad1 ..) _ (abk _ a) z;rw[<-e]at a;show absurd a (by fin2)
theorem CW(T:Txt K mg){x:Str}(a:x∈gn):∀ys:List Str,(∀y∈ys,y∈gn)->atZ K (.ref (η mg x)) ((ys.map (η mg)).map Value.ref)=↑(decide (x∈ys))
 |[],_=>by rw[decide_eq_false (by simp)];rfl
 |y::ys,h=>by
  show atZ K _ (Value.ref (η mg y)::(ys.map (η mg)).map Value.ref)=_;unfold atZ;rw[yC T a (h y (ad1 ..))];by_cases e:x=y
  .rw[decide_eq_true e,decide_eq_true (by rw[e];simp)]
  .rw[decide_eq_false e,decide_eq_decide.mpr (aaz<|>(or_iff_right e))];show CW T a ys λz c=>h z (abk _ c)
def iz:List Str:=["NoValue","NoOrder","NoRow","NoMark","NoSize","NoSieve","NoPage"]
def jT:List Str:=["Twice","Absent","Gone","Later"]
def lK(x:Str):List Bool:=[decide (x="NoLine"),decide (x="NoBook"),decide (x="NoColumns")]
def qF(x:Str):Str:=if x="NoLine" then μ "line" else if x="NoBook" then μ "book" else if x="NoColumns" then μ "columns" else μ "other"
def ahq:∀x∈gn,((x∈iz\/x∈jT)/\(lK x).count true=0/\qF x=μ "other")\/(¬(x∈iz\/x∈jT)/\(lK x).count true=1/\∃j,j<3/\(lK x)[j]?=↑true/\(∀m,m<j->(lK x)[m]?=↑false)/\([μ "line",μ "book",μ "columns"]:List Str)[j]?=↑(qF x)):=by fin2
inductive Kr(mg:MG)(sp:Sp):Sp
 |mk (d dx:δ) (b:V) (z:Str):vs=[.ref d,.str z]->gZ mg H d dx b->(∀(Q':VK)(E':XK),(∀y H',(∀p H2,ζ H' H2->H2 p=↑(.tup [.str ("told":Str),.str y])->Q (.ref p) H2)->Q' (.str y) H')->(∀x∈gn,∀u H',(∀e,u.1=↑e->∃fs,H' e=↑(.xd fs))->(∀p H2,ζ H' H2->H2 p=↑(.tup [.str (qF x),.str ("":Str)])->Q (.ref p) H2)->E' (.ref (η mg x)) u H')->sp [.ref d,.str z] H Q' E')
def JS{k:Nat}{sp:Sp}(hk:1<=k)(M:Υ P w K mg base true k (cD mg) "say" ["self","row"] sp):Def (k+1) "_law_answer" ["_law_desk","_law_row"] (Kr mg sp):=by
 exists Q6,JS,hr,#[d,dx,b,z,rfl,hd,h],2,n1.zE,n2.abI,n3.xO,1;let aqN:Gc mg "LeafError" (.ref (η mg "LeafError")):=#[_,T.ac6,rfl];let a:∀x∈gn,Gc mg x (.ref (η mg x)):=λx f=>#[_,(mF T f).at_,rfl]
 let apU:=a "NoColumns" (by fin2);let arE:=a "NoValue" (by fin2);let aoN:=a "NoOrder" (by fin2);let aqn:=a "NoRow" (by fin2);let ap1:=a "NoMark" (by fin2);let aru:=a "NoSize" (by fin2);let ap6:=a "NoLine" (by fin2);let aq2:=a "NoBook" (by fin2);let apS:=a "NoSieve" (by fin2);let aqD:=a "NoPage" (by fin2);let aqa:=a "Twice" (by fin2);let aqB:=a "Absent" (by fin2);let arv:=a "Gone" (by fin2);let aqj:=a "Later" (by fin2);k_go;k_go;w_up;show uU (λσ c u H'=>σ=[↑(.ref d),↑(.str z),↑(.str ("":Str)),↑.non,none,none,none]/\∃x,c=.ref (η mg x)/\x∈gn/\(∀e,u.1=↑e->∃fs,H' e=↑(.xd fs))/\∀p H2,ζ H' H2->H2 p=↑(.tup [.str (qF x),.str ("":Str)])->Q (.ref p) H2) rfl rfl (λF pn xo po=>?_) (λσ c u H' hK=>?_)
 .f_len;f_tup;show Ϛ (pl:=_) hr (by walk_at"xo") (by rfl) (by rfl) (by rfl) ?_;f_are;show#[d,cD mg,dx,_,true,k,_,sp,rfl,hd.ins,by rfl,M,Ϭ _,id,?_]>>=h _ _ (λy H' W=>?_) (λx f u H' hw W=>#[rfl,x,rfl,f,hw,W])*>χ ?_;w_up;show Δ ?_;lk;symm;lk;show #[Α,λp C=>W p _ (ζ.upd C) ξ]
 .let#[rfl,x,rfl,f,hf,q]:=hK;show al2 nd (by rfl) (by rfl) (by rfl) T.oN.at_ (by decide) (ahT (mF T f) T.oN) (λe pn he=>?_);let n:(upd H' e (xw e (η mg x) u.1)) e=↑(xw e (η mg x) u.1):=ξ;let I:ζ H' (upd H' e (xw e (η mg x) u.1)):=ζ.upd he;generalize upd H' e (xw e (η mg x) u.1)=J at n I⊢;let fs:∀{Hx:Hp},ζ J Hx->∀L,u.1=↑L->∃fs,Hx L=↑(.xd fs):=λs L z=>by
   let#[g,hg]:=hf L z;show#[g,(I<|>s)<*hg]
  let o:=(mF T f).attr;f_len;f_tup;lk;show Ι _ _ _ [↑(.ref d),↑(.str z),↑(.str ("":Str)),↑(.ref e),none,none,none] J;w_up;show Δ ?_>>=χ ?_;k_go;show vz o n (fs (ζ.refl _)) (λu z=>z) (yC T f (by fin2)) ?_>>=vz o n (fs (ζ.refl _)) (λu z=>z) (yC T f (by fin2)) ?_>>=vz o n (fs (ζ.refl _)) (λu z=>z) (yC T f (by fin2)) ?_>>=#[Α,λp1 Y=>?_];let#[s1,e1]:=Η Y (.lst ((lK x).map V.bl));change Ι _ _ _ _ (upd J p1 (.lst ((lK x).map V.bl)));generalize upd J p1 (.lst ((lK x).map V.bl))=H1 at s1 e1⊢;k_go;show#[Α,λp2 Z=>?_];let#[s2,e2]:=Η Z (.tup ((iz.map (η mg)).map V.ref));change EA _ _ _ (upd H1 p2 (.tup ((iz.map (η mg)).map V.ref))) _;generalize upd H1 p2 (.tup ((iz.map (η mg)).map V.ref))=H2 at s2 e2⊢;let i:=s1<|>s2;lk;show Vg o (i<*n) (fs i) e2 (Fz (iz.map (η mg))) (CW T f iz (by fin2)) ?_;let bk:=ahq x f;let rest:∀(O:Bool)(H3:Hp),ζ H2 H3->(O=true↔(x∈iz\/x∈jT))->Ι X ((ϕ Gi).drop 7) {nx:=λ_ H'=>Q .non H',rt:=Q} [↑(.ref d),↑(.str z),↑(.str ("":Str)),↑(.ref e),none,↑(.ref p1),↑(.bl O)] H3:=by
   intro O H3 B D;let R:=(s2<|>B) _ _ e1;let l:=i<|>B;w_up;show Δ ?_>>=au PySem.F.plainAttrs_list PySem.F.slot_list_count PySem.F.type_list_count (h:=?_);f_are;show#[.inl #[rfl,_,θ.of R],?_]>>=anl (θ.of R) ?_;cases O with
   |true=>
    let v:=D.mp rfl;obtain⟨_,hc,fB⟩|⟨hn,_⟩:=bk
    case inr=>show absurd v hn
    rw[hc];lk;show cI Uu (.inr #[_,rfl,?_])>>=cC (λh=>absurd rfl h) (λ_=>?_)>>=Qa (by rfl) n2 ?_>>=vz o (l<*n) (fs l) (u:=.type "ValueError") (λu z=>z) (VD (mF T f)) ?_>>=χ ?_;symm;lk;show #[Α,λp C=>?_]*>q p _ (I<|>l<|>(ζ.upd C)) (by rw[fB];show ξ)
   |false=>
    let v:¬(x∈iz\/x∈jT):=λh=>by have:=D.mpr h;cases this
    obtain⟨hi,_⟩|⟨_,hc,j,hj3,hj,ab,fB⟩:=bk
    .show absurd hi v
    let G:∀m b,m<j->(lK x)[m]?=↑b->b≠true:=λm b hm e z=>by
     rw[ab m hm]at e;cases e;cases z
    rw[hc];lk;show cI Uu (.inr #[_,rfl,?_])>>=cC (λh=>absurd rfl h) (λ_=>?_)>>=Qa (by rfl) n2 ?_>>=vz o (l<*n) (fs l) (u:=.type "ValueError") (λu z=>z) (VD (mF T f)) ?_>>=χ ?_;symm;lk;show #[Α,λp4 vh=>?_];let#[U,e4]:=Η vh (.lst (([μ "line",μ "book",μ "columns"]:List Str).map V.str));change EV _ _ _ (upd H3 p4 (.lst (([μ "line",μ "book",μ "columns"]:List Str).map V.str))) _;generalize upd H3 p4 (.lst (([μ "line",μ "book",μ "columns"]:List Str).map V.str))=H4 at U e4⊢;show au PySem.F.plainAttrs_list PySem.F.slot_list_index PySem.F.type_list_index (h:=?_);f_are;show#[.inl #[rfl,_,θ.of (U<*R)],?_]>>=aiy (θ.of (U<*R)) hj G ?_*>Φ (θ.of e4) (ϛ (show(([μ "line",μ "book",μ "columns"]:List Str).map V.str)[j]?=↑(.str (qF x))by rw[acj,fB];rfl)) ?_>>=#[Α,λp C=>?_]*>q p _ (I<|>l<|>U<|>(ζ.upd C)) ξ
  generalize Nh:decide (x∈iz)=b7;w_up;f_tup;cases b7 with
  |true=>
   lk;show rest true H2 (ζ.refl _) #[λ_=>.inl (of_decide_eq_true Nh),λ_=>rfl]
  |false=>
   let h7:¬x∈iz:=of_decide_eq_false Nh;lk;show#[Α,λp3 ac=>?_];let#[B,e3]:=Η ac (.tup ((jT.map (η mg)).map V.ref));change EA _ _ _ (upd H2 p3 (.tup ((jT.map (η mg)).map V.ref))) _;generalize upd H2 p3 (.tup ((jT.map (η mg)).map V.ref))=H3 at B e3⊢;let l:=i<|>B;lk;show Vg o (l<*n) (fs l) e3 (Fz (jT.map (η mg))) (CW T f jT (by fin2)) ?_*>rest _ H3 B #[λh=>.inr (of_decide_eq_true h),λh=>decide_eq_true (h.resolve_left h7)]
def B0:Bk:=#[cV,[],[],[],0,0]
def jA:List V:=[.int 5,.str ("x":Str)]
def B1:Bk:=jH B0 3 ↑jA
def HJ:aL cV=true:=by fin2
theorem RN:cJ cV (3,jA):=.cons (.inr (.inl #[rfl,5,rfl,by decide,by decide])) (.cons (.inr (.inr #[by fin2,_,rfl,by fin2,by fin2])) .nil)
def ajK{H:Hp}{A:BA}(k:Τ (cB mg) H A B0):dq mg H A B0:=by
 show{bk:=k,ok:=HJ,mm:=#[by decide,by decide,by decide],dn:=rfl,r1:=by decide,d1:=by decide,wf:=λi=>#[λ_=>rfl,λ_=>rfl],nd:=aqS,fit:=(λr a=>by cases a),n5:=by decide,hs:=λmo h1 h2=>?_};let e:vd B0 mo=[]:=List.drop_nil;let c:iB B0 mo=[]:=by show iJ [] (vd B0 mo)=[];rw[e];rfl
 rw[e,c];show#[trivial,by decide,aqS,λr a=>nomatch a]
theorem vK:B1.rows=[(3,jA)]:=rfl
theorem Uz:B1.touched=[(3,1)]:=rfl
theorem Pr:B1.done=[#[1,3,none,↑jA]]:=rfl
def aks{H:Hp}{A:BA}(k:Τ (cB mg) H A B1):dq mg H A B1:=by
 let f:∀r∈B1.rows,cJ B1.heads r/\0<=r.1/\r.1<=1000000000:=λr a=>by
  rw[vK]at a;rw[aa0.mp a];show#[RN,by decide,by decide]
 show{bk:=k,ok:=HJ,mm:=#[by decide,by decide,by decide],dn:=rfl,r1:=by decide,d1:=by decide,wf:=λi=>?_,nd:=by rw[vK];simp,fit:=f,n5:=by decide,hs:=λmo h1 h2=>?_}
 .rw[vK,Uz,yS,yS];show Iff.rfl
 .let h1:(0:Int)<=mo:=h1;let h2:mo<=1:=h2;let g:mo=0\/mo=1:=()
  obtain rfl|rfl:=g
  .let e:vd B1 0=B1.done:=rfl;let c:iB B1 0=[]:=rfl;rw[e,c,Pr];show#[#[trivial,λ_=>by fin2],by decide,aqS,λr a=>nomatch a]
  .let e:vd B1 1=[]:=rfl;let c:iB B1 1=B1.rows:=rfl;rw[e,c];show#[trivial,by decide,by rw[vK];simp,f]
theorem ahz{H:Hp}{A:BA}(k:Τ (cB mg) H A B0)(t:H (bz K "sorted_by")=↑(.tbl fL)):pI K mg H A B0:=#[ajK k,t,(λd hd=>by cases hd),by decide,by decide,by decide]
theorem akI{H:Hp}{A:BA}(k:Τ (cB mg) H A B1)(t:H (bz K "sorted_by")=↑(.tbl fL)):pI K mg H A B1:=#[aks k,t,λd hd xs e=>by
 rw[Pr]at hd;have:d=#[1,3,none,↑jA]:=aa0.mp hd;rw[this]at e⊢;cases e;show RN,by decide,by decide,by decide]
def ajs:aep "\n" (eQ #[[(3,jA,true)],.non,.non,1,0,1])=μ "0+1 of 1 at 1\n3 5 'x":=by fin2
def Ag:List Str:=[μ "aa:number",μ "bb:text"]
def pU:List Str:=[μ "3",μ "5",μ "'x"]
def Gq:List Str:=[μ "living",μ "9",μ ":",μ "all"]
theorem FQ{ws:List Str}(h1:↥ws<=20:=by decide)(h2:∀z∈ws,↥z<=40/\∀c∈z.cps.toList,c<1114112/\c≠32:=by fin2):ϒ ws:=#[h1,λz a=>(h2 z a).1,λz a=>(h2 z a).2]
theorem agi:ϒ (μ "book"::Ag):=FQ
theorem afx:ϒ (μ "put"::pU):=FQ
theorem anN:ϒ (μ "first"::Gq):=FQ
def aey:aep " " (μ "book"::Ag)=μ "book aa:number bb:text":=by fin2
def anY:aep " " (μ "put"::pU)=μ "put 3 5 'x":=by fin2
def ams:aep " " (μ "first"::Gq)=μ "first living 9 : all":=by fin2
def ako(o:Option (BA×Bk)):aZ o ("book":Str) Ag=true:=by
 unfold aZ;rw[if_pos rfl];fin2
def Ye:Ag.map ϋ=cV:=by fin2
def DQ:bM cV (pU.drop 1)=↑jA:=by fin2
def afi(A:BA):aZ ↑(A,B0) ("put":Str) pU=true:=by
 unfold aZ;rw[if_neg (by fin2),if_pos (.inl rfl)];show(decide (2<=↥pU)&& Ψ (pU.getD 0 ("":Str))&&(bM cV (pU.drop 1)).isSome)=true;rw[DQ];fin2
def acE(o:Option (BA×Bk)):aZ o ("first":Str) Gq=true:=by
 unfold aZ;rw[if_neg (by fin2),if_neg (by fin2),if_neg (by fin2),if_pos (.inl rfl)];fin2
def aml{b:List Nat}:(gD (cH b)).cps.toList.length=4/\32∉(gD (cH b)).cps.toList:=by
 let c:=Jx b;let#[m,a]:=aeV (show 0<=cH b by omega);have:=acT (n:=m) ();rw[a];unfold Jo at this;simp only[aa9,decide_eq_true_eq,ach]at this;show#[this.1,λh=>?_];have:=this.2.1 32 h;unfold nO at this;simp at this
def ail{x y b w:List Nat}(h:x++32::y=b++46::w)(f:32∉w):∃u,y=u++46::w/\b=x++32::u:=by
 obtain⟨a,h1,h2⟩|⟨a,h1,h2⟩:=List.append_eq_append_iff.mp h
 .cases a with
  |nil=>injection h2 with h2 _;cases h2
  |cons c a=>
   injection h2 with h2 e
   show#[a,e,by rw[h1, <-h2]]
 .cases a with
  |nil=>injection h2 with h2 _;cases h2
  |cons c a=>
   injection h2 with h2 e
   show absurd (by rw[e];simp) f
theorem ju(c:Nat):∀xs ys:List Nat,cutAt c (xs++c::ys)=cutAt c xs++cutAt c ys
 |[],ys=>by
  show cutAt c (c::ys)=[]::cutAt c ys;rw[cutAt,if_pos rfl]
 |x::xs,ys=>by
  let e:=ju c xs ys;show cutAt c (x::(xs++c::ys))=_;rw[cutAt,cutAt];by_cases h:x=c
  .rw[if_pos h,if_pos h,e];rfl
  .rw[if_neg h,if_neg h,e];cases hx:cutAt c xs with
   |nil=>show absurd hx (wJ c xs)
   |cons a l=>rfl
def ϙ(ps:List (List Nat)):List Nat:=(ps.map λp=>p++[32]).flatten
theorem Oq:∀(ps:List (List Nat))(y:List Nat),cT 32 (ps++[y])=ϙ ps++y
 |[],y=>rfl
 |[p],y=>by
  show p++32::y=(p++[32])++[]++y;simp
 |p::q::r,y=>by
  let a:=Oq (q::r) y;show p++32::cT 32 (q::(r++[y]))=_;rw[show cT 32 (q::(r++[y]))=ϙ (q::r)++y from a];show _=(p++[32])++ϙ (q::r)++y;simp
def ahO(ps:List (List Nat))(a:∀p∈ps,47∈p->p=wR\/p=uC):(47∉ϙ ps)\/∃xs m ys,ps=xs++m::ys/\47∉ϙ xs/\(m=wR\/m=uC):=by
 induction ps with
 |nil=>show .inl (by decide)
 |cons p r f=>
  by_cases h:47∈p
  .show .inr #[[],p,r,rfl,by decide,a p (by simp) h]
  .let c:47∉p++[32]:=λz=>by
    obtain z|z:=acL.mp z
    .show h z
    .simp at z
   rcases f λq i=>a q (by simp[i])with g|⟨xs,m,ys,e,g,j⟩
   .show .inl λz=>?_
    rcases acL.mp (show 47∈(p++[32])++ϙ r from z)with z|z
    .show c z
    .show g z
   .show .inr #[p::xs,m,ys,by rw[e];rfl,λz=>?_,j];rcases acL.mp (show 47∈(p++[32])++ϙ xs from z)with z|z
    .show c z
    .show g z
def pre_app(xs ys:List (List Nat)):ϙ (xs++ys)=ϙ xs++ϙ ys:=by
 unfold ϙ;rw[aeS,List.flatten_append]
def ag8(ps:List (List Nat))(h:∀p∈ps,32∉p):(ϙ ps).count 32=↥ps:=by
 induction ps with
 |nil=>rfl
 |cons p r a=>
  show((p++[32])++ϙ r).count 32=_;rw[aqR,aqR,a λq c=>h q (by simp[c]),atb.mpr (h p (by simp))];simp;omega
def anC{ws:List Str}(h:∀z∈ws,tV z.cps.toList):¬qZ cV (aep " " ws).cps.toList:=by
 rintro⟨b,w,e,hd,E,p0,p1,p2,p3,n,lt,os,w0,r,c1,c2,c3,c4,B⟩
 let#[F,o]:=aml (b:=b);rw[<-E]at F o;let ej:(aep " " ws).cps.toList=cT 32 (ws.map λp=>p.cps.toList):=qK 32 ws;rw[ej]at e;let G:∀p∈ws.map (λp=>p.cps.toList),tV p:=λp f=>by
  let#[z,hz,rfl]:=ad8.mp f;show h z hz
 generalize ws.map (λp=>p.cps.toList)=vs at e G;let T:vs≠[]:=λz=>by
  rw[z]at e;have:=congrArg alZ e;simp[cT]at this
 obtain⟨ps,y,rfl⟩:∃ps y,vs=ps++[y]:=#[vs.dropLast,vs.getLast T,(ajk T).symm];rw[Oq]at e;obtain⟨u,C,U⟩:∃u,y=u++46::w/\b=ϙ ps++u:=by
  by_cases f:ps=[]
  .rw[f]at e;show#[b,e,by rw[f];rfl]
  .obtain⟨s,q,rfl⟩:∃s q,ps=s++[q]:=#[ps.dropLast,ps.getLast f,(ajk f).symm];let j:ϙ (s++[q])=(ϙ s++q)++[32]:=by
    rw[pre_app];show ϙ s++((q++[32])++[])=_;simp
   rw[j,aqO]at e;let#[u,h1,h2]:=ail e o;show#[u,h1,by rw[j,h2];simp]
 let H:=G y (by simp);let I:y=Gj:=H.2.1 (by
  rw[C,asT,atl,aqO,afZ (by rw[asU];omega)];rw[asU,F];rfl)
 let hu:u=[53]/\w=[48,48,48,49]:=by
  rw[I]at C;let a:=congrArg alZ C;rw[aa6,aap,F]at a;let J:↥u=1:=by
   have:↥Gj=6:=by fin2
   omega
  let h2:=asG (show[53]++(46::[48,48,48,49])=u++46::w by rw[<-C];fin2) (by rw[J];rfl);injection h2.2 with _ h3
  show#[h2.1.symm,h3.symm]
 let#[rfl,vV]:=hu;let W:∀p∈ps,tV p:=λp f=>G p (by simp[f])
 let cut:↥(cutAt 47 b)=5:=by
  have:=congrArg alZ c1;unfold Λ at this;rw[ϭ]at this;show this
 rcases ahO ps λp f=>(W p f).2.2 with g|⟨xs,m,ys,rfl,g,X⟩
 .rw[U,yq (λz=>by
   obtain z|z:=acL.mp z
   .show g z
   .simp at z)]at cut
  cases cut
 let i:b=ϙ xs++m++(32::(ϙ ys++[53])):=by
  rw[U,pre_app];show ϙ xs++((m++[32])++ϙ ys)++[53]=_;simp
 let v:∀mt:List Nat,m=[108,47]++mt->∃rest,cutAt 47 b=(ϙ xs++[108])::rest:=λmt e=>by
  rw[i,e,show ϙ xs++([108,47]++mt)++(32::(ϙ ys++[53]))=(ϙ xs++[108])++47::(mt++(32::(ϙ ys++[53])))by simp,ju,yq (λz=>by
   obtain z|z:=acL.mp z
   .show g z
   .simp at z)]
  show#[_,rfl]
 let L:xs=[]:=by
  obtain⟨rest,hk⟩:∃rest,cutAt 47 b=(ϙ xs++[108])::rest:=by
   obtain rfl|rfl:=X
   .show v (wR.drop 2) (by fin2)
   .show v (uC.drop 2) (by fin2)
  let M:p0=#[(ϙ xs++[108]).toArray]:=by
   unfold Λ at c1;rw[show(#[b.toArray]:Str).cps.toList=b from rfl,hk]at c1;injection c1 with c1 _
   show c1.symm
  let a:↥p0=1:=by rw[c2];cases lt<;>fin2
  rw[M]at a;let a:↥(ϙ xs++[108])=1:=a;rw[aa6]at a;cases xs with
  |nil=>rfl
  |cons p r=>
   have:↥(ϙ (p::r))=↥(p++[32])+↥(ϙ r):=by
    show((p++[32])++ϙ r).length=_;rw[aa6]
   rw[this,aa6]at a;simp at a
 subst L;let O:∀p∈ys,32∉p:=λp f=>(W p (by simp[f])).1
 let P:cutAt 47 b=[p0.cps.toList,p1.cps.toList,p2.cps.toList,p3.cps.toList,n.cps.toList]:=by
  unfold Λ at c1;have:=congrArg (atE λp:Str=>p.cps.toList) c1;rw[agf]at this;rw[show((λp:Str=>p.cps.toList)∘λl:List Nat=>(#[l.toArray]:Str))=id by funext l;simp]at this;rw[asf]at this;show this
 let x:∀Y Z Q a3 c t,32∉t->cutAt 47 b=Y::Z::Q::a3::cutAt 47 ((c::t)++32::(ϙ ys++[53]))->p2.cps.toList=Q/\↥r=↥ys+1:=λY Z Q a3 c t ht h=>by
  rw[P]at h;injection h with _ h
  injection h with _ h
  injection h with h2 h
  injection h with _ h
  show#[h2,?_];let D:=EY 47 ((c::t)++32::(ϙ ys++[53]));rw[<-h]at D;let D:n.cps.toList=(c::t)++32::(ϙ ys++[53]):=D;let a:=congrArg alZ c4;unfold Λ at a;rw[ϭ,xj,show(Ω n ↑1 none).cps.toList=n.cps.toList.drop 1 from xV n 1,D]at a;rw[show List.drop 1 ((c::t)++32::(ϙ ys++[53]))=t++32::(ϙ ys++[53])from rfl,aqR,asJ,aqR,ag8 ys O,atb.mpr ht]at a;simp at a;omega
 let ext:∀{z:Str}{l:List Nat},z.cps.toList=l->z=#[l.toArray]:=λ{z l} e=>by
  rw[<-e]
 obtain rfl|rfl:=X
 .let#[j,R]:=x [108] [48] [43,97,97] [97,108,108] 60 [51] (by decide) (by
   rw[i,show ϙ []++wR=[108]++47::([48]++47::([43,97,97]++47::([97,108,108]++47::[60,51])))by fin2];show cutAt 47 ([108]++47::([48]++47::([43,97,97]++47::([97,108,108]++47::([60,51]++32::(ϙ ys++[53]))))))=_;rw[ju,ju,ju,ju];rfl)
  rw[ext j,show gM cV #[#v[43,97,97]]=some [(μ "aa",true)]by fin2]at c3;cases c3;let S:ys=[]:=by
   rw[R]at B;simpa using B
  rw[S]at i;rw[vV,i]at E;show absurd E (by fin2)
 .let#[j,R]:=x [108] [49] [] [97,108,108] 62 [51,46,49] (by decide) (by
   rw[i,show ϙ []++uC=[108]++47::([49]++47::([]++47::([97,108,108]++47::[62,51,46,49])))by fin2];show cutAt 47 ([108]++47::([49]++47::([]++47::([97,108,108]++47::([62,51,46,49]++32::(ϙ ys++[53]))))))=_;rw[ju,ju,ju,ju];rfl)
  rw[ext j,show gM cV #[#v[]]=some []by fin2]at c3;cases c3;rw[R]at B;simp at B
def afu(a:List Str)(i:Nat)(z:Str):gP (a.map V.str) i (.str z)=(gP a i z).map V.str:=by
 unfold gP;rw[aeS,acz,ao3,asj]
theorem V9{α β:Type}(f:α->β):∀(l:List α)(i:Nat),(l.map f).eraseIdx i=(l.eraseIdx i).map f
 |[],_=>by simp
 |_::_,0=>rfl
 |x::l,i+1=>by
  show f x::(l.map f).eraseIdx i=f x::(l.eraseIdx i).map f;rw[V9 f l i]
theorem Wn.ins{n:Nat}{ws:List Str}{z:Str}(h:Wn n ws)(a:di z)(i:Nat):Wn (n+1) (gP ws i z):=#[by
 have:=h.len;unfold gP;rw[aa6,aap,ah0,af0];omega,λx hx=>by
 unfold gP at hx;obtain hx|hx:=acL.mp hx
 .show h.ok x (apf hx)
 .obtain rfl|hx:=aaz.mp hx
  .show a
  .show h.ok x (ak5 hx)]
theorem Wn.set{n:Nat}{ws:List Str}{z:Str}(h:Wn n ws)(c:di z)(i:Nat):Wn n (ws.set i z):=#[by rw[asy];show h.len,λx a=>by
 obtain a|rfl:=List.mem_or_eq_of_mem_set a
 .show h.ok x a
 .show c]
theorem Wn.sub{n:Nat}{ws vs:List Str}(h:Wn n ws)(s:vs.Sublist ws):Wn n vs:=#[adQ s.length_le h.len,λz a=>h.ok z (s.subset a)]
def jm(H:Hp)(sc:δ)(i at_:Nat)(a:Int)(S:List Int)(σ:_L.St)(G:Hp):=∃p ws,σ=[↑(.ref sc),↑(.ref p),↑(.int (i:Nat)),↑(.int (at_:Nat)),↑(.int a),none,none,none]/\ζ H G/\H p=none/\G p=↑(.lst (ws.map V.str))/\1<=↥ws/\((Wn (9+i) ws/\at_<↥ws)\/(Wn (10+i) ws/\a∈S))
def acZ(T:Txt K mg)(hN:cR K mg base "sorted_by"){f:δ}{fd:ajB}(F:cG K "law" "law" jg f fd):cW P w K mg base (bQ P w) true 90 f fd ["_law_script"] (Ef K "sorted_by" fL):=by
 show v8 F aaI (λvs H Q E h=>by let#[a,ns,rfl,_]:=h;rfl) (λϹ A' outer s0 H vs Q E hr h=>?_);let#[sc,ns,rfl,Y,Z,JF,q]:=h;let nd:=aaI.nd;let n1:=T.Uc;let n2:=T.aN;let hu:=hr.units;let hsz:=ϯ;let lb:↥(" ":Str)=1:=by fin2
 let D0:=!oM;let D1:=!Ja;let D2:=!Ia;let D3:=!KQ;let D4:=!Jh;let MD:=(ab5 (P:=P) (w:=w) (base:=base) T).make T.agA T.aeI;k_go;show#[sc,ns,rfl,Y,Z,λp ws H1 s1 c e1 n h1=>?_];w_up;show af3 (by walk_at"po") (by rfl) (by rfl) n1 (by rfl) ?_>>=#[sc,ns,3,3,rfl,s1.seq Y,Z,by decide,by decide,by decide,?_];let c0:=dR ns 3 (m:=3) (by decide);let c1:=dU ns 3 (m:=3) (by decide);generalize dI ns 3 3=nn at c0 c1⊢;show#[nn,rfl,(),(),λi σ G=>∃p ws o2 o3 o4,σ=[↑(.ref sc),↑(.ref p),o2,o3,o4,none,none,none]/\ζ H G/\H p=none/\G p=↑(.lst (ws.map V.str))/\1<=↥ws/\Wn (9+i) ws,#[p,ws,none,none,none,rfl,s1,c,e1,h1,n],λi σ G hi hP=>?_,λσ G hP=>?_]
 .let#[p,ws,o2,o3,o4,rfl,sm,c,ep,h1,n]:=hP;let hi2:i<2:=()
  let sq:θ K G p (ws.map V.str):=θ.of ep;show Γ nd ?_;k_go;rw[ϭ];show#[sc,ns,200+7*(i:Int),((↥ws:Nat):Int),rfl,sm.seq Y,Z,(),(),(),?_];let a0:=dR ns (200+7*(i:Int)) (m:=((↥ws:Nat):Int)) ();let a1:=dU ns (200+7*(i:Int)) (m:=((↥ws:Nat):Int)) ();generalize dI ns (200+7*(i:Int)) ((↥ws:Nat):Int)=at0 at a0 a1⊢;let#[at_,rfl]:=aeV a0;let C:at_<↥ws:=()
  k_go;show#[sc,ns,201+7*(i:Int),6,rfl,sm.seq Y,Z,(),(),by decide,?_];generalize dI ns (201+7*(i:Int)) 6=j;let UJ:=n.len;let up:∀{p:δ}{G:Hp}{o:HO},H p=none->ζ H G->ζ H (upd G p o):=λhp s b o e=>by
   rw[ι (Ξ e hp)];show s<*e
  w_up;show xg (D:={nx:=jm H sc i at_ j [0],rt:=λ_ _=>False}) (Δ ?_) (λσ G hm=>?_) (λv H z=>z.elim) (λσ H z=>z.elim) (λσ H z=>z.elim)
  .lk;show Ζ (λh=>?_) (λh=>χ #[p,ws,rfl,sm,c,ep,h1,.inl #[n,C]]);let ab:=n.len;f_len;show Ϝ (au PySem.F.plainAttrs_list PySem.F.slot_list_insert PySem.F.type_list_insert (h:=?_));f_are;show#[.inl #[rfl,_,θ.of ep],?_]>>=#[sc,ns,202+7*(i:Int),2,rfl,sm.seq Y,Z,(),(),by decide,?_];let u0:=dR ns (202+7*(i:Int)) (m:=2) (by decide);let u1:=dU ns (202+7*(i:Int)) (m:=2) (by decide);generalize dI ns (202+7*(i:Int)) 2=uv at u0 u1⊢;let#[ui,rfl]:=aeV u0;lk;show#[sc,ns,203+7*(i:Int),rfl,sm.seq Y,Z,(),(),λz G2 hz l=>?_]>>=bZ ajO #[p,ws.map V.str,at_+ui,_,rfl,by rw[Int.natCast_add],l<*ep,by rw[ϭ];omega,by rw[ϭ];omega,?_]*>#[p,gP ws (at_+ui) z,rfl,up c (sm<|>l),c,by rw[ξ,afu],by unfold gP;rw[aa6,aap];omega,.inr #[(n.ins hz _).mono (),by rw[V.int.inj h];simp]]
  let#[p,ws,rfl,sm,c,ep,h1,J]:=hm;w_up;show xg (D:={nx:=jm H sc i at_ j [0,1,5],rt:=λ_ _=>False}) (Δ ?_) (λσ G hm=>?_) (λv H z=>z.elim) (λσ H z=>z.elim) (λσ H z=>z.elim)
  .let sk:¬(j=1\/j=5)->jm H sc i at_ j [0,1,5] [↑(.ref sc),↑(.ref p),↑(.int (i:Nat)),↑(.int (at_:Nat)),↑(.int j),none,none,none] G:=λ_=>#[p,ws,rfl,sm,c,ep,h1,J.imp id λg=>#[g.1,by have:=g.2;simp at this;simp[this]]]
   let go:(j=1\/j=5)->Ι (gR true P w K mg base Bp "law" (ρ jg) f Ϲ A' outer s0 H E) (TF ((MN ((ϕ jg).drop 1)).drop 3)) {nx:=jm H sc i at_ j [0,1,5],rt:=λ_ _=>False} [↑(.ref sc),↑(.ref p),↑(.int (i:Nat)),↑(.int (at_:Nat)),↑(.int j),none,none,none] G:=by
    intro Fj;let#[n,C]:=J.resolve_right λg=>by
     have:=g.2;simp at this;omega
    f_len;show aeH (by rfl) (by rfl) (by rfl) (by intro _;rfl) ?_>>=#[sc,ns,203+7*(i:Int),rfl,sm.seq Y,Z,(),(),λz G2 hz l=>?_]>>=#[p,ws.map V.str,(at_:Int),at_,rfl,rfl,l<*ep,by rw[ϭ];show ajT C,?_]*>#[p,ws.set at_ z,rfl,up c (sm<|>l),c,by rw[ξ,List.map_set],by rw[asy];show h1,.inr #[(n.set hz _).mono (),by simp;omega]]
   lk;show Ζ (λh=>go (.inl (V.int.inj h))) (λh=>?_)>>=Ζ (λh'=>go (.inr (V.int.inj h'))) (λh'=>χ (sk λz=>?_));obtain z|z:=z
   .show h (by rw[z])
   .show h' (by rw[z])
  let#[p,ws,rfl,sm,c,ep,h1,J]:=hm;let sq:θ K G p (ws.map V.str):=θ.of ep;w_up;show xg (D:={nx:=jm H sc i at_ j [0,1,5,2],rt:=λ_ _=>False}) (Δ ?_) (λσ G hm=>?_) (λv H z=>z.elim) (λσ H z=>z.elim) (λσ H z=>z.elim)
  .let sk:jm H sc i at_ j [0,1,5,2] [↑(.ref sc),↑(.ref p),↑(.int (i:Nat)),↑(.int (at_:Nat)),↑(.int j),none,none,none] G:=#[p,ws,rfl,sm,c,ep,h1,J.imp id λg=>#[g.1,by have:=g.2;simp at this;simp;omega]];lk;show Ζ (λh=>?_) (λh=>χ sk);let Fj:=V.int.inj h;let#[n,C]:=J.resolve_right λg=>by
    have:=g.2;simp at this;omega
   lk;rw[ϭ];show Ζ (λh2=>?_) (λh2=>χ sk);let hg:ws[at_]?=↑ws[at_]:=aag C;let ab:=n.len;f_len;show Ϝ (au PySem.F.plainAttrs_list PySem.F.slot_list_pop PySem.F.type_list_pop (h:=?_));f_are;show#[.inl #[rfl,_,sq],?_];lk;let#[jx,x1,x2,x3,_]:=Am (xs:=ws.map V.str) (i:=(at_:Int)) (v:=V.str ws[at_]) (ϛ (by rw[acj,hg];rfl));show bZ ahh #[p,ws.map V.str,(at_:Int),jx,.str ws[at_],rfl,rfl,ep,(),(),x1,x2,?_];let hel:↥ws<=↥(ws.eraseIdx jx)+1:=by
    rw[List.length_eraseIdx];split <;>omega
   show#[p,ws.eraseIdx jx,rfl,up c sm,c,by rw[ξ,V9],(),.inr #[(n.sub (List.eraseIdx_sublist ..)).mono (),by simp;omega]]
  let#[p,ws,rfl,sm,c,ep,h1,J]:=hm;let sq:θ K G p (ws.map V.str):=θ.of ep;w_up;show xg (D:={nx:=jm H sc i at_ j [0,1,5,2,3],rt:=λ_ _=>False}) (Δ ?_) (λσ G hm=>?_) (λv H z=>z.elim) (λσ H z=>z.elim) (λσ H z=>z.elim)
  .let sk:jm H sc i at_ j [0,1,5,2,3] [↑(.ref sc),↑(.ref p),↑(.int (i:Nat)),↑(.int (at_:Nat)),↑(.int j),none,none,none] G:=#[p,ws,rfl,sm,c,ep,h1,J.imp id λg=>#[g.1,by have:=g.2;simp at this;simp;omega]];lk;show Ζ (λh=>?_) (λh=>χ sk);let Fj:=V.int.inj h;let#[n,C]:=J.resolve_right λg=>by
    have:=g.2;simp at this;omega
   f_len;f_tup;lk;show bw sq λp2 ac=>?_
   rw[show↑((at_:Int)+1)=↑((at_+1:Nat):Int)from rfl,xW, <-ao3];show#[p2,ws.take (at_+1),rfl,sm<|>(ζ.upd ac),sm.free ac,ξ,by rw[ah0];omega,.inr #[(n.sub (atc ..)).mono (),by simp;omega]]
  let#[p,ws,rfl,sm,c,ep,h1,J]:=hm;f_len;show xg (D:={nx:=jm H sc i at_ j [0,1,5,2,3,4],rt:=λ_ _=>False}) (Δ ?_) (λσ G hm=>?_) (λv H z=>z.elim) (λσ H z=>z.elim) (λσ H z=>z.elim)
  .let sk:jm H sc i at_ j [0,1,5,2,3,4] [↑(.ref sc),↑(.ref p),↑(.int (i:Nat)),↑(.int (at_:Nat)),↑(.int j),none,none,none] G:=#[p,ws,rfl,sm,c,ep,h1,J.imp id λg=>#[g.1,by have:=g.2;simp at this;simp;omega]];lk;show Ζ (λh=>?_) (λh=>χ sk);let Fj:=V.int.inj h;let#[n,C]:=J.resolve_right λg=>by
    have:=g.2;simp at this;omega
   let ab:=n.len;f_len;show Ϝ (au PySem.F.plainAttrs_list PySem.F.slot_list_append PySem.F.type_list_append (h:=?_));f_are;show#[.inl #[rfl,_,θ.of ep],?_]>>=#[sc,ns,203+7*(i:Int),rfl,sm.seq Y,Z,(),(),λz G2 hz l=>?_]>>=bZ lL #[p,_,_,rfl,rfl,l<*ep,by rw[ϭ];omega,?_]*>#[p,ws++[z],rfl,up c (sm<|>l),c,by rw[ξ,aeS];rfl,by rw[aa6];omega,.inr #[(n.app (Wn.one hz)).mono (),by simp;omega]]
  let#[p,ws,rfl,sm,c,ep,h1,J]:=hm;show#[p,ws,_,_,_,rfl,sm,c,ep,h1,J.elim (λg=>g.1.mono ()) λg=>g.1.mono ()]
 let#[p,yr,o2,o3,o4,rfl,sm,c,ep,h1,n]:=hP;let L:ϒ yr:=n.w81 ();let af:∀z∈yr,tV z.cps.toList:=λz hz=>(n.ok z hz).2.2
 let#[v,ws,rfl]:=aaE h1;clear n;let hj:=L.join;let w20:=L.len;w_up;f_tup;show abg MD hr (by decide) (λ_=>rfl) ς (by rfl) (by decide) ?_;intro d dx ae ag Ϻ;show#[d,dx,rfl,ξ,λG1 Ov ai=>?_]*>#[rfl,?_];let iC:ζ G (upd (upd G dx (.own d)) d (.ins (cD mg) dx [])):=λb u e=>by
  rw[ι (λz=>by rw[z,ae]at e;cases e),ι (λz=>by rw[z,ag]at e;cases e)];show e
 let s1:ζ G G1:=λb u e=>Ov b u (λz=>by rw[aa0.mp z,ae]at e;cases e) (iC b u e)
 let k1:gZ mg G1 d dx .non:=#[ai,Ov _ _ (λz=>Ϻ (aa0.mp z)) (by rw[ι Ϻ,ξ])];let t1:=sm<|>s1;let f9:=s1 _ _ ep;let rest:∀(S:Bool)(o:Option (BA×Bk))(G2:Hp),G2 p=↑(.lst ((v::ws).map V.str))->fQ K mg G2 d dx o->DY S o->(S=true->∃A,o=↑(A,B1))->p∉iI o->Ι (gR true P w K mg base Bp "law" (ρ jg) f Ϲ A' outer s0 H E) ((ϕ jg).drop 5) {nx:=λ_ H'=>Q .non H',rt:=Q} [↑(.ref sc),↑(.ref p),o2,o3,o4,↑(.ref d),↑(.bl S),none] G2:=by
  intro S o G2 U hd hA hB W;let O:∀(I:δ)(fw fy:Str)(G3:Hp),G3 p=↑(.lst ((v::ws).map V.str))->G3 I=↑(.tup [.str fw,.str fy])->((aZ o v ws=false/\fw=μ "line"/\fy=μ ""/\fQ K mg G3 d dx o)\/(aZ o v ws=true/\v=μ "book"/\(fw,fy)=if aL (ws.map ϋ)=true then(μ "told",μ "ok")else(μ "columns",μ ""))\/(aZ o v ws=true/\v≠μ "book"/\((S=true/\(fw=μ "told"\/fw=μ "other"))\/(S=false/\fw=μ "book"/\fy=μ ""))))->Ι (gR true P w K mg base Bp "law" (ρ jg) f Ϲ A' outer s0 H E) ((ϕ jg).drop 6) {nx:=λ_ H'=>Q .non H',rt:=Q} [↑(.ref sc),↑(.ref p),o2,o3,o4,↑(.ref d),↑(.bl S),↑(.ref I)] G3:=by
   intro I fw fy G3 T9 ef hc;w_up;show Δ ?_>>=#[p,v,ws,S,o,rfl,θ.of T9,L,hA,λG4 s4=>?_];let BZ:=s4 _ _ ef;let Kg:=s4 _ _ T9;obtain⟨hL,rfl,rfl,aK⟩|⟨hL,R,fB⟩|⟨hL,R,fB⟩:=hc
   .rw[hL];lk;w_up;show Δ ?_>>=#[Α,λy hy=>?_];let#[s5,e5,G4,y,G5]:=Η hy (.tup [.str ("line":Str),.str ("":Str)]);show Ma (d:=.tuple [.str ("line":Str),.str ("":Str)]) (d':=.tuple [.str ("line":Str),.str ("":Str)]) hu (.tup (ψ.of (s5<*BZ)) (.cons (.str _) (.cons (.str _) .nil))) (.tup (ψ.of e5) (.cons (.str _) (.cons (.str _) .nil))) (by fin2) (by fin2) (by fin2) ?_;rw[show PyData.eqv (.tuple [.str ("line":Str),.str ("":Str)]) (.tuple [.str ("line":Str),.str ("":Str)])=true by fin2];lk;show χ ?_;symm;cases S with
    |false=>
     lk;show q G5
    |true=>
     let#[A,rfl]:=hB rfl;let Z6:=aK.same (s4<|>s5);let#[k,sp,k1,k2,M,hM]:=yt (P:=P) (w:=w) (base:=base) T hN ↑(A,B1) anN λ_ _ _ h=>absurd h (by fin2)
     lk;show Ϛ (pl:=_) hr ς (h:=?_);f_are;show#[d,cD mg,dx,_,true,k,_,sp,rfl,Z6.dk.ins,by rfl,M,(),id,?_];lk;rw[<-ams];show hM G5 _ _ d dx Z6 #[λe=>?_,λ_ e=>absurd e (by fin2),λ_ e=>absurd e (by fin2),(λ_ _ e=>by cases e),λ_ _ _=>#[λz H' ot hI=>?_,λhR=>?_]]
     .rw[acE]at e;cases e
     .let hz:=hI.2 rfl A B1 (3,jA) 1 rfl rfl rfl vK (by rw[Uz];rfl) (by decide);let hz:z=μ "0+1 of 1 at 1\n3 5 'x":=hz<|>ajs;rw[hz];lk;show q H'
     .show absurd #[rfl,rfl] (hR.2 rfl)
   .rw[hL];lk;show χ ?_;w_up;show Δ ?_>>=Φ (θ.of Kg) (show ύ ((v::ws).map V.str) ((0:Nat):Int)=↑(.str v)from ϛ rfl) ?_>>=Ζ (λ_=>?_) (λh=>absurd (by rw[R]) h);symm;lk;let lW:fX ws=true:=by rw[<-hL];show(if_pos R).symm
    show#[p,v,ws,rfl,θ.of Kg,L,lW,λG5 s5=>?_];let Ud:=s5 _ _ BZ;cases hk:aL (ws.map ϋ)with
    |true=>
     rw[hk,if_pos rfl]at fB;let#[rfl,rfl]:=Prod.mk.inj fB;lk;show#[Α,λy hy=>?_];let s6:ζ G5 (upd G5 y (.tup [.str ("told":Str),.str ("ok":Str)])):=ζ.upd hy;show Bo (d:=.tuple [.str ("told":Str),.str ("ok":Str)]) (d':=.tuple [.str ("told":Str),.str ("ok":Str)]) hu (.tup (ψ.of (s6<*Ud)) (.cons (.str _) (.cons (.str _) .nil))) (.tup (ψ.of ξ) (.cons (.str _) (.cons (.str _) .nil))) (by fin2) (by fin2) (by fin2) ?_;rw[show PyData.eqv (.tuple [.str ("told":Str),.str ("ok":Str)]) (.tuple [.str ("told":Str),.str ("ok":Str)])=true by fin2];show q _
    |false=>
     rw[hk,if_neg (by decide)]at fB;let#[rfl,rfl]:=Prod.mk.inj fB;lk;show#[Α,λy hy=>?_];let s6:ζ G5 (upd G5 y (.tup [.str ("columns":Str),.str ("":Str)])):=ζ.upd hy;show Bo (d:=.tuple [.str ("columns":Str),.str ("":Str)]) (d':=.tuple [.str ("columns":Str),.str ("":Str)]) hu (.tup (ψ.of (s6<*Ud)) (.cons (.str _) (.cons (.str _) .nil))) (.tup (ψ.of ξ) (.cons (.str _) (.cons (.str _) .nil))) (by fin2) (by fin2) (by fin2) ?_;rw[show PyData.eqv (.tuple [.str ("columns":Str),.str ("":Str)]) (.tuple [.str ("columns":Str),.str ("":Str)])=true by fin2];show q _
   .rw[hL];lk;show χ ?_;w_up;show Δ ?_>>=Φ (θ.of Kg) (show ύ ((v::ws).map V.str) ((0:Nat):Int)=↑(.str v)from ϛ rfl) ?_>>=Ζ (λh=>absurd (V.str.inj h) R) (λ_=>χ ?_);w_up;show Δ ?_;obtain⟨rfl,fB⟩|⟨rfl,rfl,rfl⟩:=fB
    .lk;symm;lk;show gH (ψ.of BZ) (show ύ [V.str fw,V.str fy] 0=↑(.str fw)from rfl) ?_>>=#[Α,λy hy=>?_]*>dw (ψ.of ξ) ?_;rw[gB,decide_eq_true fB];show q _
    .lk;show χ ?_;symm;lk;show #[Α,λy hy=>?_];let s6:ζ G4 (upd G4 y (.tup [.str ("book":Str),.str ("":Str)])):=ζ.upd hy;show Bo (d:=.tuple [.str ("book":Str),.str ("":Str)]) (d':=.tuple [.str ("book":Str),.str ("":Str)]) hu (.tup (ψ.of (s6<*BZ)) (.cons (.str _) (.cons (.str _) .nil))) (.tup (ψ.of ξ) (.cons (.str _) (.cons (.str _) .nil))) (by fin2) (by fin2) (by fin2) ?_;rw[show PyData.eqv (.tuple [.str ("book":Str),.str ("":Str)]) (.tuple [.str ("book":Str),.str ("":Str)])=true by fin2];show q _
  let#[k,sp,k1,k2,M,hM]:=yt (P:=P) (w:=w) (base:=base) T hN o L λA B e _=>by
   let al:B=B1:=by
    obtain⟨_,rfl⟩|⟨h,_⟩:=hA
    .cases e
    .let#[A2,rfl]:=hB h;cases e;rfl
   rw[al];show anC λz hz=>af z (abk _ (ak5 hz))
  let D5:Def P w K mg base true (k+1) "_law_answer" ["_law_desk","_law_row"] (Kr mg sp):=JS T k1 M;let j1:=pQ (L.bC (show 40<=1000 by decide));k_go;show lM (θ.of U) (by rw[lb];omega) ?_>>=#[d,dx,_,_,rfl,hd.dk,λQ' E' kq kx=>?_];let pd:p≠d:=λz=>by rw[z,hd.dk.ins]at U;cases U
  show hM G2 Q' E' d dx hd #[λe u H' s' am=>?_,λe R hk H' s'=>?_,λe R hk H' A _ _ _ _ _ _ ot dk bk=>?_,λe R hn H' s'=>?_,λe R hn=>#[λz H' ot hI=>?_,λhR x hx u H' ot hf=>?_]]
  .show kx "NoLine" (by fin2) u H' (λe z=>by rw[am]at z;cases z) λI H2 l X=>?_
   show O I _ _ H2 ((s'<|>l)<*U) X (.inl #[e,rfl,rfl,hd.same (s'<|>l)])
  .show kx "NoColumns" (by fin2) _ H' (λe z=>nomatch z) λI H2 l X=>?_
   show O I _ _ H2 ((s'<|>l)<*U) X (.inr (.inl #[e,R,by rw[hk,if_neg (by decide)];rfl]))
  .show kq _ H' λI H2 l X=>?_
   show O I _ _ H2 (l<*(ot _ _ (λz=>pd (aa0.mp z)) U)) X (.inr (.inl #[e,R,by rw[hk,if_pos rfl]]))
  .show kx "NoBook" (by fin2) _ H' (λe z=>nomatch z) λI H2 l X=>?_
   show O I _ _ H2 ((s'<|>l)<*U) X (.inr (.inr #[e,R,.inr #[?_,rfl,rfl]]));obtain⟨h,_⟩|⟨_,A,B,rfl,_⟩:=hA
   .show h
   .cases hn
  all_goals
   let vg:S=true:=by
    obtain⟨_,rfl⟩|⟨h,_⟩:=hA
    .cases hn
    .show h
  .show kq _ H' λI H2 l X=>?_
   show O I _ _ H2 (l<*(ot _ _ W U)) X (.inr (.inr #[e,R,.inl #[vg,.inl rfl]]))
  .show kx x ((show ∀x∈uJ,x∈gn by fin2) x hx) u H' hf λI H2 l X=>?_
   show O I _ _ H2 (l<*(ot _ _ W U)) X (.inr (.inr #[e,R,.inl #[vg,.inr ((show ∀x∈uJ,qF x=μ "other" by fin2) x hx)]]))
 k_go;show#[sc,ns,4,2,rfl,t1.seq Y,Z,by decide,by decide,by decide,?_];generalize dI ns 4 2=dv;lk;generalize decide (V.int dv=V.int 0)=S;w_up;show Δ ?_;cases S with
 |false=>
  lk;show χ (rest false none G1 f9 #[k1,λA B e=>by cases e] (.inl #[rfl,rfl]) (λe=>by cases e) (by simp[iI]))
 |true=>
  let#[kb,an,kb1,kb2,MB,ao]:=yt (P:=P) (w:=w) (base:=base) T hN none agi λ_ _ _ h=>absurd h (by fin2)
  lk;show Ϛ (pl:=_) hr ς (h:=?_);f_are;show#[d,cD mg,dx,_,true,kb,_,an,rfl,k1.ins,by rfl,MB,(),id,?_];lk;rw[<-aey];show ao G1 _ _ d dx #[k1,λA B e=>by cases e] #[λe=>?_,λ_ _ e=>?_,λ_ _ _ G2 A f1 f2 f3 f4 f5 f6 ot dk bk=>?_,λ_ e=>absurd rfl e,λ_ e=>absurd rfl e]
  .rw[ako]at e;cases e
  .rw[Ye,HJ]at e;cases e
  rw[Ye]at bk;let bk:Τ (cB mg) G2 A B0:=bk;let Vt:G2 (bz K "sorted_by")=↑(.tbl fL):=ot _ _ (λz=>by
   have:=t1 _ _ JF;rw[aa0.mp z,k1.ins]at this;cases this) (t1<*JF)
  let pd:p≠d:=λz=>by rw[z,k1.ins]at f9;cases f9
  let U:=ot _ _ (λz=>pd (aa0.mp z)) f9;let nf:∀{x:δ},G1 x=none->p≠x:=λh z=>by rw[z,h]at f9;cases f9
  let W:p∉A.fp:=λz=>by
   let z':p=A.b\/p=A.r\/p=A.t\/p=A.d:=by simpa [BA.fp]using z
   obtain z|z|z|z:=z'
   .show nf f1 z
   .show nf f4 z
   .show nf f5 z
   .show nf f6 z
  let aY:∀{x:δ},G1 x=none->d≠x:=λh z=>by have:=k1.ins;rw[z,h]at this;cases this
  let ap:∀{x:δ},G1 x=none->dx≠x:=λh z=>by have:=k1.own;rw[z,h]at this;cases this
  let ar:∀{x:δ},G1 x=none->bz K "sorted_by"≠x:=λh z=>by have:=t1 _ _ JF;rw[z,h]at this;cases this
  let Ej:∀{y:δ},(∀{x:δ},G1 x=none->y≠x)->y∉A.fp:=λh z=>by
   let z':=(by simpa [BA.fp]using z:_=A.b\/_=A.r\/_=A.t\/_=A.d);obtain z|z|z|z:=z'
   .show h f1 z
   .show h f4 z
   .show h f5 z
   .show h f6 z
  let#[kp,av,kp1,kp2,MP,aw]:=yt (P:=P) (w:=w) (base:=base) T hN ↑(A,B0) afx λ_ _ _ h=>absurd h (by fin2)
  lk;show Ϛ (pl:=_) hr ς (h:=?_);f_are;show#[d,cD mg,dx,_,true,kp,_,av,rfl,dk.ins,by rfl,MP,(),id,?_];lk;rw[<-anY];show aw G2 _ _ d dx #[dk,λA2 B2 e=>by cases e;show ahz bk Vt] #[λe=>?_,λ_ e=>absurd e (by fin2),λ_ e=>absurd e (by fin2),(λ_ _ e=>by cases e),λ_ _ _=>#[λz G3 _ hI=>?_,λhR=>?_]]
  .rw[afi]at e;cases e
  .let#[rfl,Aw,ax]:=hI.1 rfl A B0 3 jA rfl rfl (by fin2) DQ;let ay:Χ (B0.now+1)=μ "1":=by fin2
   rw[ay];show tU (by fin2) ?_;rw[show μ "ok"++μ "1"=μ "ok1" by fin2];lk;show χ (rest true ↑(A,B1) G3 (Aw _ _ W U) #[#[Aw _ _ (Ej aY) dk.ins,Aw _ _ (Ej ap) dk.own],λA2 B2 e=>by cases e;show akI ax (Aw _ _ (Ej ar) Vt)] (.inr #[rfl,A,B1,rfl,rfl]) (λ_=>#[A,rfl]) W)
  .show absurd #[by fin2,rfl] (hR.1 rfl A B0 3 jA rfl rfl (by fin2) DQ)
end
end _K
theorem PySem.Challenge.cw_turnleaf_k81_lines_of_a_desk_holds : PySem.Challenge.rw_turnleaf_k81_lines_of_a_desk.Holds := by
 show PySem.Challenge.t1 (PySem.Challenge.t0 (by intro P w K mg base;show _K.acZ))
#print axioms PySem.Challenge.cw_turnleaf_k81_lines_of_a_desk_holds
