import PyProof.Rows.All
import Wide.All
import OpenK.AllK
import Wide.FinOn
import Lean
import PyProof.EqAt
import PyProof.EqKinds
import PyProof.TupleCall
import PyProof.NeData
import PyProof.ZipIter
import PyProof.WalksEnum
import PyProof.Rows.SetFrom
import PyProof.StrLawsTight
import PyProof.StrLawsChain
import PyProof.StrCalls2
import PyProof.ListStr
import PyProof.Rows.StrOrd
import KE.KRevIter
import PyProof.ExcInit
import PyProof.InstStoreFacts
import PyProof.ExcArgs
import PyProof.ExcAttrAll.ValueError
import PyProof.NsDelKeeps
import PyProof.RulesAs
import OpenK.KCls
import PyProof.Rows.TupAssign
import PyProof.StrLawsIn
import KE.KDictSum
import PyProof.DictWalks
import PyProof.Rows.CountFlat
import KE.KTryMore
import KE.KxWritten
import KE.KStrOpen
import PySem.Challenge.RW_turnleaf_k39_texts_that_are_no_marks
open List renaming getElem?_eq_getElem->aak,getElem?_eq_some_iff->aan,length_map->aar,mem_of_getElem?->aaR,getElem?_map->aby,mem_cons->abO,size_toArray->abY,length_append->ace,mem_map->adg,all_eq_true->adt,mem_append_right->aew,append_assoc->aex,mem_cons_of_mem->aeA,mem_append->aeC,getElem_mem->aeF,mem_singleton->aeG,mem_cons_self->aeH,length_take->afm,length_drop->afr,mem_of_mem_take->afx,take_of_length_le->afM,getElem?_append_left->agh,map_append->agi,range->agj,length_singleton->agk,map_map->agz,mem_append_left->agY,mem_of_mem_drop->ahg,lookup->aiE,nodup_cons->ai6,getElem?_concat_length->ajp,getElem_of_mem->ajv,getElem?_set_self->ajw,ne_nil_of_length_eq_add_one->ajO,mem_filter->ajV,take_length->aj4,replicate->aj5,drop_zero->aj6,drop_eq_nil_of_le->aj7,dropLast_concat_getLast->aj9,getElem?_append_right->aki,map_set->akl,mem_filterMap->akm,length_eq_zero_iff->akr,length->akv,length_range->akx,getElem?_set_ne->akC,length_eraseIdx->akE,nil_append->akM,length_pos_iff->akW,mem_range->alD,pairwise_iff_getElem->amq,take_add_one->amT,mem_of_mem_eraseIdx->am9,getElem_inj->anw,any_eq_true->anC,drop_of_length_le->aod,length_pos_of_mem->aog,of_mem_zip->aoh,length_replicate->aom,count_cons_of_ne->apn,count_cons_self->apo,map_id->apO,map_drop->arI,map_take->arS,foldl_append->ar4,nodup_append->ar7,all_map->atq,drop_append->atX,drop_length->at3,getElem_map->at5,cons_append->at8,length_set->auu,range_succ->auA,sum_append->auD
open PySem.W renaming findIn->aat,keepIn->ab8,Frag->acF,codeIn->aeq,hasDictIn->aeD,fnOf->aeI,specialIn->aeJ,mroIn->aeL,nsIn->afj,mg_none_of->agB,plainOver->agD,plainGet->ahc,typeIn->ahn,takesIn->aim,makesIn->ajF,emptyDict->aj3,isFn->akg,kia_one->akh,exmOne->akp,instObj->akB,kitOne->akF,takerIn->akG,looks_findIn->alQ,readsIn->am0,findCls->am5,clsIn->anc,methodCall_KW->ao0,subIn->ao1,InstAt->ap7,plainGet_of->aqc,looks_clsIn->aqq,kitAny->aro,excIn->arY,callWith_K->atg,lookIn->auc,exmAny->auk,methodObj->aut,Looks->auY,looks_mroIn->au3,findObj->avF,notCls->awn
open Int renaming eq_ofNat_of_zero_le->aaA,emod_lt_of_pos->afD,emod_nonneg->ait,toNat_natCast->amM,zero_add->aoX,add_emod->ao2,mul_emod->ao4,emod_emod->aqM,emod_eq_of_lt->asr,mul_comm->av3
open Nat renaming le_refl->aaO,lt_of_lt_of_le->aey,ne_of_lt->aeB,zero_le->ahE,lt_irrefl->ahK,le_trans->ah4,mul_le_mul_right->aiB,le_add_right->akj,le_succ->akk,min_eq_left->akt,sub_zero->alj,zero_add->aly,lt_succ_of_lt->amP,min_eq_right->anx,le_of_lt->asK,le_of_eq->atc,lt_succ_self->atU,toDigits->avU,sub_self->av6
open Bool renaming and_eq_true->aaP,false_ne_true->abX,eq_iff_iff->ail,eq_false_iff->aky,or_eq_true->akH,false_and->alK,and_false->amm,true_and->anq,false_eq_true->aqD,false_or->ark,not_eq_true'->ar0,or_false->auK,or_true->avq
open PySem.Heap renaming get?_update_other->acu,lt_size->acK,get?_push_size->aez,get?_update_self->aeE,get?_none_of_le->aiw,SameBut->akd,size_push->akA,size_after_update->anW,MadeExcOf->apA,get?_update_ne->apZ,get?_push_at->ash
open Array renaming getElem?_setIfInBounds_ne->ae3,getElem?_eq_some_iff->ahs,getElem?_toList->aoy,length_toList->apH,find?_toList->ap6,toList->au9
open Option renaming map_eq_some_iff->aht,isSome_iff_exists->amw
set_option maxHeartbeats 4000000
set_option Elab.async false
set_option linter.all false
set_option maxRecDepth 100000
namespace L2
open PySem PySem.Spec PyProof.Rows
abbrev Key:=Sum Int Str
def ZJ:Key->Value->Bool
 | .inl k,v=>Value.isInt k v
 | .inr x,v=>Value.isStrOf x v
def ak5(w:World):Key->Int
 | .inl k=>hashInt k
 | .inr x=>hashStr w x
theorem dG:∀{k:Key} {v:Value},ZJ k v=true->(∃i t,k=Sum.inl i/\v=Value.int i t)\/(∃x t,k=Sum.inr x/\v=Value.str x t)
 | .inl i,v,h=>by
   obtain⟨t,e⟩:=Value.isInt_shape (k:=i) (v:=v) h
   exact .inl ⟨i,t,rfl,e⟩
 | .inr x,v,h=>by
   obtain⟨t,e⟩:=Value.isStrOf_shape (x:=x) (v:=v) h
   exact .inr ⟨x,t,rfl,e⟩
theorem aeo(a b:Int):decide ((Sum.inl a:Key)=Sum.inl b)=(a==b):=by
 by_cases e:a=b
 .subst e;simp
 .have h:¬(Sum.inl a:Key)=Sum.inl b:=λq=>e (Sum.inl.inj q)
  rw[decide_eq_false h]
  exact(beq_eq_false_iff_ne.mpr e).symm
theorem aaD(a b:Str):decide ((Sum.inr a:Key)=Sum.inr b)=decide (a=b):=by
 by_cases e:a=b
 .subst e;simp
 .have h:¬(Sum.inr a:Key)=Sum.inr b:=λq=>e (Sum.inr.inj q)
  rw[decide_eq_false h,decide_eq_false e]
theorem abH(a:Int)(b:Str):decide ((Sum.inl a:Key)=Sum.inr b)=false:=decide_eq_false (λq=>nomatch q)
theorem abA(a:Str)(b:Int):decide ((Sum.inr a:Key)=Sum.inl b)=false:=decide_eq_false (λq=>nomatch q)
def Fw(prog:Program)(w:World):PySem.KeyKind prog w Key where
 is:=ZJ
 hash:=ak5 w
 inj:=λv a b ha hb=>by
  rcases dG ha with⟨i,t,rfl,rfl⟩ |⟨x,t,rfl,rfl⟩
  .rcases dG hb with⟨j,u,rfl,e⟩ |⟨y,u,rfl,e⟩
   .injection e with e1 _;rw[e1]
   .exact nomatch e
  .rcases dG hb with⟨j,u,rfl,e⟩ |⟨y,u,rfl,e⟩
   .exact nomatch e
   .injection e with e1 _;rw[e1]
 byValue:=λk v h=>by
  rcases dG h with⟨i,t,rfl,rfl⟩ |⟨x,t,rfl,rfl⟩<;>rfl
 pyHash:=λhv h=>by
  rcases dG hv with⟨i,t,rfl,rfl⟩ |⟨x,t,rfl,rfl⟩
  .exact wpAny_pyHash_int h
  .exact wpAny_pyHash_str h
 eqBool:=λhu hv h=>by
  rcases dG hu with⟨i,t,rfl,rfl⟩ |⟨x,t,rfl,rfl⟩
  .rcases dG hv with⟨j,u,rfl,rfl⟩ |⟨y,u,rfl,rfl⟩
   .rw[aeo]at h;exact wpAny_eqBool_int h
   .rw[abH]at h;exact SeqAt.EqAt.int_str i t y u _ _ _ _ h
  .rcases dG hv with⟨j,u,rfl,rfl⟩ |⟨y,u,rfl,rfl⟩
   .rw[abA]at h;exact SeqAt.EqAt.str_int x t j u _ _ _ _ h
   .rw[aaD]at h;exact wpAny_eqBool_str h
 «strs» :=λk x t v h=>by
  rcases dG h with⟨i,u,rfl,e⟩ |⟨y,u,rfl,e⟩
  .exact nomatch e
  .injection e with e1 _
   subst e1
   cases v<;>rfl
inductive V where
 |non |bl (b:Bool) |int (i:Int) |str (x:Str) |byt (b:Array UInt8) |flt (b:UInt64) |ref (a:Addr) |ty (n:String)
 deriving DecidableEq
def RelV:V->Value->Prop
 | .non,u=>u=Value.none
 | .bl b,u=>u=Value.bool b
 | .int i,u=>∃t,u=Value.int i t
 | .str x,u=>∃t,u=Value.str x t
 | .byt b,u=>∃t,u=Value.bytes b t
 | .flt b,u=>∃t,u=Value.float b t
 | .ref a,u=>u=Value.ref a
 | .ty n,u=>u=Value.type n
abbrev Vals:List V->List Value->Prop:=Paired RelV
theorem Vals.length{xs:List V}{us:List Value}(r:Vals xs us):xs.length=us.length:=Paired.length r
theorem Vals.get:∀{xs:List V} {us:List Value} {i:Nat} {x:V},Vals xs us->xs[i]? =some x->∃u,us[i]? =some u/\RelV x u
 |_,_,_,_,.nil,e=>by simp at e
 |_,_,0,_,.cons r _,e=>by simp at e;subst e;exact⟨_,rfl,r⟩
 |_,_,i+1,x,.cons _ t,e=>by
  obtain⟨u,h1,h2⟩:=Vals.get (i:=i) (x:=x) t (by simpa using e)
  exact⟨u,by simpa using h1,h2⟩
theorem Vals.set{x:V}{u:Value}(r:RelV x u):∀{xs:List V} {us:List Value} (i:Nat),Vals xs us->Vals (xs.set i x) (us.set i u)
 |_,_,_,.nil=>.nil
 |_,_,0,.cons _ t=>.cons r t
 |_,_,i+1,.cons q t=>.cons q (Vals.set r i t)
theorem Vals.append:∀{xs ys:List V} {us ws:List Value},Vals xs us->Vals ys ws->Vals (xs++ys) (us++ws)
 |_,_,_,_,.nil,s=>s
 |_,_,_,_,.cons r t,s=>.cons r (Vals.append t s)
theorem Vals.take:∀{xs:List V} {us:List Value} (n:Nat),Vals xs us->Vals (xs.take n) (us.take n)
 |_,_,0,_=>.nil
 |_,_,_+1,.nil=>.nil
 |_,_,n+1,.cons r t=>.cons r (Vals.take n t)
theorem Vals.drop:∀{xs:List V} {us:List Value} (n:Nat),Vals xs us->Vals (xs.drop n) (us.drop n)
 |_,_,0,r=>r
 |_,_,_+1,.nil=>.nil
 |_,_,n+1,.cons _ t=>Vals.drop n t
def Af:Option V->Option Value->Prop
 |some v,some u=>RelV v u
 |none,none=>True
 |_,_=>False
def KV{κ:Type}:List (κ×V)->List (κ×Value)->Prop:=Paired λ(p:κ×V) (q:κ×Value)=>p.1=q.1/\RelV p.2 q.2
def kV:Key->V
 | .inl i=>.int i
 | .inr x=>.str x
inductive HO where
 |lst (xs:List V)
 |tup (xs:List V)
 |dK (kvs:List (Key×V)) |dT (kvs:List (List Key×V))
 |set (S:Int->Bool) (n:Nat)
 |ins (C dx:Addr) (fs:List (Str×V))
 |own (x:Addr)
 |xd (fs:List (Str×V))
 |met (f x:Addr)
 |rng (lo hi:Int)
 |frz (o:Obj) (u:HO)
 |tbl (ps:Array Value)
 |ext (φ:Heap->Prop)
abbrev Hp:=Addr->Option HO
def upd(H:Hp)(a:Addr)(o:HO):Hp:=λb=>if b=a then some o else H b
theorem ao{H:Hp}{a:Addr}{o:HO}:upd H a o a=some o:=by unfold upd;rw[if_pos rfl]
theorem aF{H:Hp}{a b:Addr}{o:HO}(h:b≠a):upd H a o b=H b:=by unfold upd;rw[if_neg h]
theorem aB{H:Hp}{a b:Addr}{o:HO}(h:H a=some o)(h':H b=none):a≠b:=by
 intro e;subst e;rw[h]at h';cases h'
section
variable(P:Program)(w:World)
def gH(H:Hp)(h:Heap)(a:Addr):HO->Prop
 | .lst xs=>xs.length≤sizeLine/\∃(its:List Value) (n:Nat),Vals xs its/\h.get? a=some {cls:=.type "list",data:=.seq its.toArray n}
 | .tup xs=>xs.length≤sizeLine/\∃its:List Value,Vals xs its/\IsTup h a its.toArray
 | .dK kvs=>kvs.length≤sizeLine/\(a==sysModules)=false/\∃vs,KV kvs vs/\h.DictOf (Fw P w) a vs
 | .dT kvs=>kvs.length≤sizeLine/\(a==sysModules)=false/\∃xs:List (List Key×Addr×Value),
   Paired (λ(p:List Key×V) (q:List Key×Addr×Value)=>p.1=q.1/\H q.2.1=some (.tup (p.1.map kV))/\RelV p.2 q.2.2) kvs xs/\
   ∃o es ep,h.get? a=some o/\o.ExactDict/\o.data= .dict es ep/\es.toList=xs.map (entryOfKey (tupleKind (Fw P w)))/\(xs.map (·.1)).Nodup
 | .set S n=>h.SetOf (intKind P w) a S n
 | .ins C dx fs=>H dx=some (.own a)/\fs.length≤1000/\dx≠a/\h.get? a=some (akB C dx)/\
   ∃mA,h.Ns1 dx mA/\(∀f,Af (fs.lookup f) (mA f))/\PySem.Within mA (fs.map (·.1))
 | .own _=>∃o,h.get? a=some o
 | .xd fs=>∃mA,h.Ns1 a mA/\∀f,Af (fs.lookup f) (mA f)
 | .rng lo hi=>∃t u v,h.get? a=some {cls:=.type "range",data:=.fields #[.int lo t,.int hi u,.int 1 v]}
 | .frz o u=>h.get? a=some o/\gH H h a u
 | .tbl ps=>h.get? a=some {cls:=.none,data:=.fields ps}
 | .met f x=>h.get? a=some (aut (.ref f) (.ref x))
 | .ext φ=>φ h/\(∃o,h.get? a=some o)/\∀h1 h2:Heap,φ h1->(∀o,h1.get? a=some o->h2.get? a=some o)->φ h2
def xj(H:Hp)(h:Heap):Prop:=∀a o,H a=some o->gH P w H h a o
end
section
variable{P:Program}{w:World}{H H':Hp}{h h':Heap}{a:Addr}{o:HO}
theorem gH.lt(x:gH P w H h a o):a<h.objs.size:=by
 cases o with
 |lst xs=>obtain⟨_,_,_,_,e⟩:=x;exact acK e
 |tup xs=>obtain⟨_,_,_,p⟩:=x;exact p.lt
 |dK kvs=>obtain⟨_,_,_,_,o,_,_,e,_⟩:=x;exact acK e
 |dT kvs=>obtain⟨_,_,_,_,o,_,_,e,_⟩:=x;exact acK e
 |set S n=>obtain⟨o,_,_,_,e,_⟩:=x;exact acK e
 |ins C dx fs=>obtain⟨_,_,_,e,_⟩:=x;exact acK e
 |own y=>obtain⟨_,e⟩:=x;exact acK e
 |xd fs=>obtain⟨_,⟨_,_,_,e,_⟩,_⟩:=x;exact acK e
 |rng lo hi=>obtain⟨_,_,_,e⟩:=x;exact acK e
 |frz ob u=>obtain⟨e,_⟩:=x;exact acK e
 |tbl ps=>exact acK (show h.get? a=some _ from x)
 |met f y=>exact acK (show h.get? a=some _ from x)
 |ext φ=>obtain⟨_,⟨_,e⟩,_⟩:=x;exact acK e
theorem Paired.mapP{α β:Type}{F G:α->β->Prop}:∀{l₁:List α} {l₂:List β},Paired F l₁ l₂->(∀a b,F a b->G a b)->Paired G l₁ l₂
 |_,_,.nil,_=>.nil
 |_,_,.cons r t,f=>.cons (f _ _ r) (Paired.mapP t f)
theorem gH.stay(x:gH P w H h a o)(k:∀b u,(b=a\/H b=some (.own a))->h.get? b=some u->h'.get? b=some u)
  (ho:∀b,H b=some (.own a)->H' b=some (.own a)) (ht:∀b xs,H b=some (.tup xs)->H' b=some (.tup xs)):gH P w H' h' a o:=by
 induction o with
 |lst xs=>obtain⟨z,its,n,r,e⟩:=x;exact⟨z,its,n,r,k _ _ (.inl rfl) e⟩
 |tup xs=>obtain⟨z,its,r,ob,e,c⟩:=x;exact⟨z,its,r,ob,k _ _ (.inl rfl) e,c⟩
 |dK kvs=>obtain⟨z,y,vs,r,ob,es,ep,e,c⟩:=x;exact⟨z,y,vs,r,ob,es,ep,k _ _ (.inl rfl) e,c⟩
 |dT kvs=>
  obtain⟨z,y,xs,r,ob,es,ep,e,c⟩:=x
  exact⟨z,y,xs,Paired.mapP r λp q z=>⟨z.1,ht _ _ z.2.1,z.2.2⟩,ob,es,ep,k _ _ (.inl rfl) e,c⟩
 |set S n=>obtain⟨ob,es,ep,t,e,c⟩:=x;exact⟨ob,es,ep,t,k _ _ (.inl rfl) e,c⟩
 |ins C dx fs=>
  obtain⟨d,z,ne,e,mA,⟨od,es,ep,e2,c⟩,r⟩:=x
  exact⟨ho _ d,z,ne,k _ _ (.inl rfl) e,mA,⟨od,es,ep,k _ _ (.inr d) e2,c⟩,r⟩
 |own y=>obtain⟨ob,e⟩:=x;exact⟨ob,k _ _ (.inl rfl) e⟩
 |xd fs=>obtain⟨mA,⟨od,es,ep,e,c⟩,r⟩:=x;exact⟨mA,⟨od,es,ep,k _ _ (.inl rfl) e,c⟩,r⟩
 |rng lo hi=>obtain⟨t,u,v,e⟩:=x;exact⟨t,u,v,k _ _ (.inl rfl) e⟩
 |frz ob u ih=>obtain⟨e,q⟩:=x;exact⟨k _ _ (.inl rfl) e,ih q⟩
 |tbl ps=>
  have e:h.get? a=some {cls:=.none,data:=.fields ps}:=x
  show h'.get? a=some {cls:=.none,data:=.fields ps}
  exact k a _ (.inl rfl) e
 |met f y=>
  have e:h.get? a=some (aut (.ref f) (.ref y)):=x
  show h'.get? a=some (aut (.ref f) (.ref y))
  exact k a _ (.inl rfl) e
 |ext φ=>obtain⟨p,⟨o,e⟩,st⟩:=x;exact⟨st _ _ p λo q=>k _ _ (.inl rfl) q,⟨o,k _ _ (.inl rfl) e⟩,st⟩
theorem xj.lt(x:xj P w H h)(e:H a=some o):a<h.objs.size:=(x a o e).lt
theorem xj.fresh(x:xj P w H h)(e:h.objs.size≤a):H a=none:=by
 cases q:H a with
 |none=>rfl
 |some u=>exact absurd (aey (x.lt q) e) (ahK _)
theorem xj.kept(x:xj P w H h)(k:∀b u,h.get? b=some u->h'.get? b=some u):xj P w H h':=λa o e=>
 (x a o e).stay (λb u _ q=>k b u q) (λ_ q=>q) λ_ _ q=>q
theorem xj.laid(x:xj P w H h)(k:∀b u,h.get? b=some u->h'.get? b=some u)(hp:h.objs.size≤a)(new:gH P w (upd H a o) h' a o):xj P w (upd H a o) h':=λb u e=>by
 have hn:=x.fresh hp
 by_cases hb:b=a
 .subst hb;rw[ao]at e;cases e;exact new
 .rw[aF hb]at e
  exact(x b u e).stay (λc v _ q=>k c v q) (λc q=>by rw[aF (aB q hn)];exact q) λc xs q=>by rw[aF (aB q hn)];exact q
end
def Rd(H:Hp)(a:Addr)(u:HO):Prop:=H a=some u\/∃o,H a=some (.frz o u)
theorem Rd.ok{P:Program}{w:World}{H:Hp}{h:Heap}{a:Addr}{u:HO}(r:Rd H a u)(x:xj P w H h):gH P w H h a u:=by
 rcases r with r |⟨o,r⟩
 .exact x a u r
 .obtain⟨_,q⟩:=x a _ r
  exact q
def Mut:Option HO->Prop
 |some (.lst _)=>True
 |some (.dK _)=>True
 |some (.dT _)=>True
 |some (.set _ _)=>True
 |some (.ins _ _ _)=>True
 |some (.ext _)=>True
 |_=>False
section
variable{P:Program}{w:World}{H:Hp}{h h':Heap}{x e:Addr}{o':HO}
theorem xj.write(ok:xj P w H h)(mu:Mut (H x))(he:e=x\/H e=some (.own x))(k:∀b u,b≠e->h.get? b=some u->h'.get? b=some u)(heo:∃u,h'.get? e=some u)
  (new:gH P w (upd H x o') h' x o'):xj P w (upd H x o') h':=λb u q=>by
 have nown:∀c y,H c=some (.own y)->c≠x:=λc y r z=>by subst z;rw[r]at mu;exact mu
 have ntup:∀c xs,H c=some (.tup xs)->c≠x:=λc xs r z=>by subst z;rw[r]at mu;exact mu
 by_cases hb:b=x
 .subst hb;rw[ao]at q;cases q;exact new
 .rw[aF hb]at q
  by_cases hbe:b=e
  .have q':H b=some (.own x):=by
    rcases he with z |z
    .exact absurd (hbe.trans z) hb
    .rw[hbe];exact z
   rw[q]at q';cases q'
   obtain⟨v,hv⟩:=heo
   exact⟨v,by rw[hbe];exact hv⟩
  .refine(ok b u q).stay (λc v hc r=>k c v ?_ r) (λc r=>by rw[aF (nown c b r)];exact r) λc xs r=>by rw[aF (ntup c xs r)];exact r
   rcases hc with rfl |hc
   .exact hbe
   .rintro rfl
    rcases he with z |z
    .exact nown c b hc z
    .rw[hc]at z;cases z;exact hb rfl
end
structure Un(fs ex:List Addr)(H H':Hp)(h h':Heap):Prop where
 keep:∀b o,h.get? b=some o->H b=none->b∉fs->b∉ex->h'.get? b=some o
 slot:∀b o,h.get? b=some o->H b=none->b∈fs->b∉ex->∃sl,h'.get? b=some {o with slots:=sl}
 free:∀b o,h.get? b=some o->H b=none->b∉ex->H' b=none
 there:∀b o,h.get? b=some o->b∉ex->∃o',h'.get? b=some o'
 tups:∀b xs,H b=some (.tup xs)->H' b=some (.tup xs)
 frzs:∀b o u,H b=some (.frz o u)->H' b=some (.frz o u)
 tbls:∀b ps,H b=some (.tbl ps)->∃more,H' b=some (.tbl (ps++more))
section
variable{fs fs' ex ex':List Addr}{H H1 H2:Hp}{h h1 h2 h':Heap}{a x e:Addr}{o:HO}
theorem Un.any(u:Un fs ex H H1 h h1){b:Addr}{ob:Obj}(q:h.get? b=some ob)(n:H b=none)(hx:b∉ex):∃sl,h1.get? b=some {ob with slots:=sl}:=by
 by_cases hb:b∈fs
 .exact u.slot b ob q n hb hx
 .exact⟨ob.slots,u.keep b ob q n hb hx⟩
theorem Un.kept(k:∀b u,h.get? b=some u->h'.get? b=some u):Un fs ex H H h h':=
 ⟨λb ob q _ _ _=>k b ob q,λb ob q _ _ _=>⟨ob.slots,k b ob q⟩,λ_ _ _ n _=>n,λb ob q _=>⟨ob,k b ob q⟩,λ_ _ q=>q,λ_ _ _ q=>q,λ_ ps q=>⟨#[],by rw[q];simp⟩⟩
theorem Un.refl:Un fs ex H H h h:=Un.kept λ_ _ q=>q
theorem Un.laid(k:∀b u,h.get? b=some u->h'.get? b=some u)(hp:h.objs.size≤a)(hn:H a=none):Un fs ex H (upd H a o) h h' where
 keep:=λb u q _ _ _=>k b u q
 slot:=λb u q _ _ _=>⟨u.slots,k b u q⟩
 free:=λb u q n _=>by rw[aF (aeB (aey (acK q) hp))];exact n
 there:=λb u q _=>⟨u,k b u q⟩
 tups:=λb xs q=>by rw[aF (aB q hn)];exact q
 frzs:=λb u xs q=>by rw[aF (aB q hn)];exact q
 tbls:=λb ps q=>⟨#[],by rw[aF (aB q hn),q];simp⟩
theorem Un.write(mu:Mut (H x))(he:e=x\/H e=some (.own x))(k:∀b u,b≠e->h.get? b=some u->h'.get? b=some u)(heo:∃u,h'.get? e=some u):Un fs ex H (upd H x o) h h':=by
 have hx:∀b,H b=none->b≠x:=λb n z=>by subst z;rw[n]at mu;exact mu
 have hb:∀b,H b=none->b≠e:=λb n z=>by
  subst z
  rcases he with r |r
  .exact hx b n r
  .rw[n]at r;cases r
 have hm:∀b u,H b=some u->¬Mut (some u)->b≠x:=λb u q nm z=>by subst z;rw[q]at mu;exact nm mu
 refine⟨λb u q n _ _=>k b u (hb b n) q,λb u q n _ _=>⟨u.slots,k b u (hb b n) q⟩,λb u q n _=>by rw[aF (hx b n)];exact n,λb u q _=>?_,
  λb xs q=>by rw[aF (hm b _ q λz=>z)];exact q,λb u xs q=>by rw[aF (hm b _ q λz=>z)];exact q,λb ps q=>⟨#[],by rw[aF (hm b _ q λz=>z),q];simp⟩⟩
 by_cases hbe:b=e
 .subst hbe;exact heo
 .exact⟨u,k b u hbe q⟩
end
def Zm(h:Heap)(H:Hp):List Addr:=(agj h.objs.size).filter λa=>(H a).isSome
def Dv(h:Heap)(H:Hp):Heap:=W.hideAll h (Zm h H)
theorem Oe(h:Heap)(H:Hp):(Dv h H).objs.size=h.objs.size:=W.hideAll_size _ _
theorem RZ{h:Heap}{H:Hp}{b:Addr}{o:Obj}(e:h.get? b=some o)(n:H b=none):(Dv h H).get? b=some o:=
 W.hideAll_get _ e λhm=>by
  have q:(H b).isSome=true:=(ajV.mp hm).2
  rw[n]at q;simp at q
theorem XQ{h:Heap}{H:Hp}{b:Addr}{o:Obj}(e:(Dv h H).get? b=some o):h.get? b=some o/\H b=none:=by
 have e':h.get? b=some o:=W.of_hideAll (Zm h H) e
 refine⟨e',?_⟩
 cases q:H b with
 |none=>rfl
 |some x=>
  have hm:b∈Zm h H:=ajV.mpr ⟨alD.mpr (acK e'),by simp[q]⟩
  have z:(Dv h H).get? b=none:=W.hideAll_none (Zm h H) hm
  rw[z]at e;cases e
def Zf(g h:Heap)(L:Addr):List (Addr×Obj):=(agj h.objs.size).filterMap λa=>if a=L\/(g.get? a).isSome=true then none else(h.get? a).map λo=>(a,o)
def rest(g h:Heap)(L d:Addr):List (Addr×Obj):=(Zf g h L).filter λp=>decide (p.1≠d)
structure Mod(K:acF)(mg:Str->Option Value)(base:Heap):Prop where
 kin:K.In base
 glob:base.Ns mainGlobals mg
 blt:∃mb,base.Ns builtinsNs mb/\∀x:Str,x≠"__name__"->mb x=bootBuiltins x
 nolimit:base.NoLimit
structure Cx where
 prog:Program
 w:World
 K:acF
 mg:Str->Option Value
 base:Heap
 A:Around
 N:List Str
 s₀:Shared
 H₀:Hp
 env:Env
 outer:List Env
 stack:List Env
 ex:List Addr
 fn:Str->Bool
 calm:Bool
 pn:List (Addr×Obj)
 xe:Value->Shared->Prop
def Bq(l:List Env):List Addr:=l.filterMap (·.frame)
abbrev Cx.fs(X:Cx):List Addr:=Bq X.outer
def Vis(sc:Scope)(x:Str):Prop:=sc.names.lookup x=some .local\/sc.names.lookup x=some .cell\/sc.names.lookup x=some .free
def Loc(sc:Scope)(x:Str):Prop:=sc.names.lookup x=some .local\/sc.names.lookup x=some .cell
def Look(env:Env)(h:Heap)(m:Str->Option Value)(x:Str)(u:Value):Prop:=
 (env.kindOf x=some .local/\m x=some u)\/((env.kindOf x=some .cell\/env.kindOf x=some .free)/\∃c,env.cells.lookup x=some c/\h.IsCell c (some u))
structure Cx.Ok(X:Cx):Prop where
 mod:Mod X.K X.mg X.base
 kind:X.env.scope.kind= .function
 glob:X.env.globals=mainGlobals
 blt:X.env.builtins=builtinsNs
 above:X.s₀.heap.objs.size≤X.env.locals
 inj:∀x y c,X.env.cells.lookup x=some c->X.env.cells.lookup y=some c->x=y
 has:∀x,(X.env.kindOf x=some .cell\/X.env.kindOf x=some .free)->∃c,X.env.cells.lookup x=some c
 cab:∀x c,X.fn x=true->X.env.cells.lookup x=some c->X.s₀.heap.objs.size≤c
 hd:X.calm=true->X.A.handled=none
 frames:X.A.frames=some X.stack
 stk:X.stack=X.outer\/(X.stack=X.env::X.outer/\X.env.frame=some X.env.locals)
 exf:∀b∈X.ex,b≠X.env.locals/\∀x c,X.env.cells.lookup x=some c->c≠b
 bs:∀b o,X.base.get? b=some o->X.s₀.heap.get? b=some o/\X.H₀ b=none
 bsz:X.base.objs.size≤X.s₀.heap.objs.size
 noex:∀b o,X.base.get? b=some o->b∉X.ex
 exfs:∀b∈X.ex,b∉X.fs
 funs:X.s₀.heap.FunFrames X.base X.outer
 frf:∀b∈X.fs,X.H₀ b=none
structure Inv(X:Cx)(pins:List (Addr×Obj))(σ:List (Option V))(H:Hp)(s:Shared):Prop where
 ok:X.Ok
 os:s.os=X.s₀.os
 bare:AllBare s.gens
 base:Un X.fs X.ex X.H₀ H X.s₀.heap s.heap
 loc:∃m,s.heap.Ns X.env.locals m/\∀(i:Nat) (x:Str) (v:V),X.N[i]? =some x->σ[i]? =some (some v)->Vis X.env.scope x->∃u,RelV v u/\Look X.env s.heap m x u
 cell:∀x c,X.env.cells.lookup x=some c->∃v,s.heap.IsCell c v
 free:H X.env.locals=none
 freeC:∀x c,X.env.cells.lookup x=some c->H c=none
 pin:∀p∈X.pn++pins,s.heap.get? p.1=some p.2/\H p.1=none/\p.1≠X.env.locals/\p.1∉X.fs/\∀v,p.2.data≠ .cell v
 hok:xj X.prog X.w H s.heap
 len:σ.length=X.N.length
section
variable{X:Cx}{pins:List (Addr×Obj)}{σ:List (Option V)}{H H':Hp}{s:Shared}{h':Heap}
theorem Cx.Ok.nofr(ok:X.Ok){b:Addr}{o:Obj}(e:X.base.get? b=some o):b∉X.fs:=λhb=>by
 have :=(ok.funs.mem hb).1
 rw[e]at this;cases this
theorem Inv.bs(I:Inv X pins σ H s):∀b o,X.base.get? b=some o->s.heap.get? b=some o/\H b=none:=λb o e=>
 ⟨I.base.keep b o (I.ok.bs b o e).1 (I.ok.bs b o e).2 (I.ok.nofr e) (I.ok.noex b o e),I.base.free b o (I.ok.bs b o e).1 (I.ok.bs b o e).2 (I.ok.noex b o e)⟩
theorem Inv.bk(I:Inv X pins σ H s):∀b o,X.base.get? b=some o->s.heap.get? b=some o:=λb o e=>(I.bs b o e).1
theorem Inv.mod(I:Inv X pins σ H s):Mod X.K X.mg X.base:=I.ok.mod
theorem Inv.kIn(I:Inv X pins σ H s):X.K.In s.heap:=I.ok.mod.kin.keeps I.bk
theorem Inv.lt(I:Inv X pins σ H s):X.env.locals<s.heap.objs.size:=let⟨_,hn,_⟩:=I.loc;hn.lt
theorem Inv.sz(I:Inv X pins σ H s):X.s₀.heap.objs.size≤s.heap.objs.size:=ah4 I.ok.above (asK I.lt)
theorem Inv.nofs(I:Inv X pins σ H s){a:Addr}(h:s.heap.objs.size≤a):a∉X.fs:=λhb=>by
 obtain⟨_,o,ho,_⟩:=I.ok.funs.mem hb
 exact absurd (aey (acK ho) (ah4 I.sz h)) (ahK _)
theorem Inv.cne(I:Inv X pins σ H s):∀x c,X.env.cells.lookup x=some c->c≠X.env.locals:=λx c e z=>by
 obtain⟨v,o,ho,hd⟩:=I.cell x c e
 obtain⟨m,⟨o',es,ep,ho',hd',_⟩,_⟩:=I.loc
 rw[z,ho']at ho;cases ho;rw[hd']at hd;cases hd
theorem Inv.funs(I:Inv X pins σ H s):s.heap.FunFrames X.base X.outer:=by
 have all:∀(l:List Env),(∀b∈Bq l,b∈X.fs)->X.s₀.heap.FunFrames X.base l->s.heap.FunFrames X.base l:=by
  intro l
  induction l with
  |nil=>intro _ _;trivial
  |cons env r ih=>
   intro hs hl
   obtain⟨hk,⟨L,o,hf,hn,ho,hd⟩,hr⟩:=hl
   have hL:L∈X.fs:=hs L (by unfold Bq;rw[List.filterMap_cons,hf];exact aeH)
   obtain⟨sl,e⟩:=I.base.slot L o ho (I.ok.frf L hL) hL λz=>I.ok.exfs L z hL
   exact⟨hk,⟨L,_,hf,hn,e,hd⟩,ih (λb hb=>hs b (by unfold Bq;rw[List.filterMap_cons,hf];exact aeA _ hb)) hr⟩
 exact all X.outer (λ_ hb=>hb) I.ok.funs
theorem Inv.stack(I:Inv X pins σ H s):s.heap.FunFrames X.base X.stack:=by
 rcases I.ok.stk with e |⟨e,hf⟩
 .rw[e];exact I.funs
 .rw[e]
  obtain⟨m,hn,_⟩:=I.loc
  refine .cons (by rw[I.ok.kind];decide) hf hn ?_ I.funs
  exact aiw (ah4 I.ok.bsz I.ok.above)
theorem Inv.stkSub(I:Inv X pins σ H s):∀b∈Bq X.stack,b∈X.env.locals::X.fs:=λb hb=>by
 rcases I.ok.stk with e |⟨e,hf⟩
 .rw[e]at hb;exact aeA _ hb
 .rw[e]at hb
  unfold Bq at hb
  rw[List.filterMap_cons,hf]at hb
  exact hb
theorem Inv.stkFree(I:Inv X pins σ H s):∀b∈Bq X.stack,H b=none:=λb hb=>by
 rcases abO.mp (I.stkSub b hb)with e |hb
 .rw[e];exact I.free
 .obtain⟨_,o,ho,_⟩:=I.ok.funs.mem hb
  exact I.base.free b o ho (I.ok.frf b hb) λz=>I.ok.exfs b z hb
theorem Inv.step{g':Array GenState}{t':Nat}{d':Drawn}{ch:List Addr}(I:Inv X pins σ H s)
  (hch:∀b∈ch,(b∈X.ex\/X.s₀.heap.get? b=none)/\b≠X.env.locals/\(∀x c,X.env.cells.lookup x=some c->c≠b)/\∀p∈X.pn++pins,p.1≠b)
  (keep:∀b o,b≠X.env.locals->b∉X.fs->b∉ch->s.heap.get? b=some o->H b=none->h'.get? b=some o)
  (slot:∀b o,b≠X.env.locals->b∈X.fs->b∉ch->s.heap.get? b=some o->H b=none->∃sl,h'.get? b=some {o with slots:=sl}) (free:∀b o,b∉ch->s.heap.get? b=some o->H b=none->H' b=none)
  (there:∀b o,b∉ch->s.heap.get? b=some o->∃o',h'.get? b=some o')
  (tups:∀b xs,H b=some (.tup xs)->H' b=some (.tup xs)) (frzs:∀b o u,H b=some (.frz o u)->H' b=some (.frz o u)) (tbls:∀b ps,H b=some (.tbl ps)->∃more,H' b=some (.tbl (ps++more)))
  (ns:∀m,s.heap.Ns X.env.locals m->h'.Ns X.env.locals m) (hok:xj X.prog X.w H' h') (hg:AllBare g'):
  Inv X pins σ H' {s with heap:=h',gens:=g',drawn:=d',toks:=t'}:=by
 have neL:∀b o,X.s₀.heap.get? b=some o->b≠X.env.locals:=λb o e=>aeB (aey (acK e) I.ok.above)
 have neC:∀b o,X.s₀.heap.get? b=some o->b∉X.ex->b∉ch:=λb o e hx hb=>by
  rcases(hch b hb).1 with z |z
  .exact hx z
  .rw[e]at z;cases z
 have cellK:∀x c,X.env.cells.lookup x=some c->∀v,s.heap.IsCell c v->h'.IsCell c v:=λx c e v ⟨o,ho,hd⟩=>by
  have nch:c∉ch:=λz=>(hch c z).2.2.1 x c e rfl
  by_cases hc:c∈X.fs
  .obtain⟨sl,q⟩:=slot c o (I.cne x c e) hc nch ho (I.freeC x c e)
   exact⟨_,q,hd⟩
  .exact⟨o,keep c o (I.cne x c e) hc nch ho (I.freeC x c e),hd⟩
 refine⟨I.ok,I.os,hg,⟨λb o e n hb hx=>?_,λb o e n hb hx=>?_,λb o e n hx=>?_,λb o e hx=>?_,λb xs e=>tups b xs (I.base.tups b xs e),λb o xs e=>frzs b o xs (I.base.frzs b o xs e),λb ps e=>?_⟩,?_,λx c e=>?_,?_,λx c e=>?_,λp hp=>?_,hok,I.len⟩
 .exact keep b o (neL b o e) hb (neC b o e hx) (I.base.keep b o e n hb hx) (I.base.free b o e n hx)
 .obtain⟨sl,e1⟩:=I.base.slot b o e n hb hx
  obtain⟨sl',e2⟩:=slot b _ (neL b o e) hb (neC b o e hx) e1 (I.base.free b o e n hx)
  exact⟨sl',e2⟩
 .obtain⟨o',e1⟩:=I.base.there b o e hx
  exact free b o' (neC b o e hx) e1 (I.base.free b o e n hx)
 .obtain⟨o',e1⟩:=I.base.there b o e hx
  exact there b o' (neC b o e hx) e1
 .obtain⟨m1,e1⟩:=I.base.tbls b ps e
  obtain⟨m2,e2⟩:=tbls b _ e1
  exact⟨m1++m2,by rw[e2,Array.append_assoc]⟩
 .obtain⟨m,hn,hl⟩:=I.loc
  refine⟨m,ns m hn,λi x v e1 e2 e3=>?_⟩
  obtain⟨u,r,l⟩:=hl i x v e1 e2 e3
  refine⟨u,r,?_⟩
  rcases l with l |⟨k,c,e,z⟩
  .exact .inl l
  .exact .inr ⟨k,c,e,cellK x c e _ z⟩
 .obtain⟨v,z⟩:=I.cell x c e
  exact⟨v,cellK x c e v z⟩
 .obtain⟨m,⟨o,_,_,ho,_⟩,_⟩:=I.loc
  exact free _ o (λz=>(hch _ z).2.1 rfl) ho I.free
 .obtain⟨v,o,ho,hd⟩:=I.cell x c e
  exact free c o (λz=>(hch c z).2.2.1 x c e rfl) ho (I.freeC x c e)
 .obtain⟨e,n,ne,nf,d⟩:=I.pin p hp
  have nch:p.1∉ch:=λz=>(hch p.1 z).2.2.2 p hp rfl
  exact⟨keep p.1 p.2 ne nf nch e n,free p.1 p.2 nch e n,ne,nf,d⟩
theorem Inv.un{t':Nat}(I:Inv X pins σ H s)(u:Un X.fs [] H H' s.heap h')(hok:xj X.prog X.w H' h'):Inv X pins σ H' {s with heap:=h',toks:=t'}:=by
 obtain⟨m,⟨o,es,ep,ho,r⟩,_⟩:=id I.loc
 obtain⟨sl,hL⟩:=u.any ho I.free (by simp)
 exact I.step (g':=s.gens) (d':=s.drawn) (ch:=[]) (λ_ z=>nomatch z) (λb o _ hb _ e n=>u.keep b o e n hb (by simp)) (λb o _ hb _ e n=>u.slot b o e n hb (by simp)) (λb o _ e n=>u.free b o e n (by simp)) (λb o _ e=>u.there b o e (by simp)) u.tups u.frzs u.tbls (λm' hm=>by
  obtain⟨o',es',ep',ho',r'⟩:=hm
  rw[ho]at ho';cases ho'
  exact⟨_,es',ep',hL,r'⟩) hok I.bare
theorem Inv.call{g':Array GenState}{t':Nat}{d':Drawn}{ch:List Addr}(I:Inv X pins σ H s)(u:Un (Bq X.stack) ch H H' s.heap h')(hok:xj X.prog X.w H' h')(hg:AllBare g')
  (hch:∀b∈ch,(b∈X.ex\/X.s₀.heap.get? b=none)/\b≠X.env.locals/\(∀x c,X.env.cells.lookup x=some c->c≠b)/\∀p∈X.pn++pins,p.1≠b):
  Inv X pins σ H' {s with heap:=h',gens:=g',drawn:=d',toks:=t'}:=by
 obtain⟨m,⟨o,es,ep,ho,r⟩,_⟩:=id I.loc
 obtain⟨sl,hL⟩:=u.any ho I.free λz=>(hch _ z).2.1 rfl
 exact I.step (ch:=ch) hch (λb o hL hb hc e n=>u.keep b o e n (λz=>(abO.mp (I.stkSub b z)).elim hL hb) hc) (λb o _ _ hc e n=>u.any e n hc) (λb o hc e n=>u.free b o e n hc) (λb o hc e=>u.there b o e hc) u.tups u.frzs u.tbls (λm' hm=>by
  obtain⟨o',es',ep',ho',r'⟩:=hm
  rw[ho]at ho';cases ho'
  exact⟨_,es',ep',hL,r'⟩) hok hg
theorem Inv.turned{t':Nat}{it:Addr}(I:Inv X pins σ H s)(k:∀b o,b≠it->s.heap.get? b=some o->h'.get? b=some o)(hn:H it=none)(hL:it≠X.env.locals)
  (h1:it∈X.ex\/X.s₀.heap.get? it=none) (h2:∀x c,X.env.cells.lookup x=some c->c≠it) (h3:∀p∈X.pn++pins,p.1≠it):Inv X pins σ H {s with heap:=h',toks:=t'}:=by
 have nit:∀b u,H b=some u->b≠it:=λb u e z=>by rw[z,hn]at e;cases e
 refine I.step (g':=s.gens) (d':=s.drawn) (ch:=[it]) (λb hb=>?_) (λb o _ _ hc e _=>k b o (λz=>hc (by simp[z])) e) (λb o _ _ hc e _=>⟨o.slots,k b o (λz=>hc (by simp[z])) e⟩) (λ_ _ _ _ n=>n)
  (λb o hc e=>⟨o,k b o (λz=>hc (by simp[z])) e⟩) (λ_ _ e=>e) (λ_ _ _ e=>e) (λb ps e=>⟨#[],by rw[e];simp⟩) (λm hm=>?_) (λb u e=>?_) I.bare
 .have e:b=it:=by simpa using hb
  subst e
  exact⟨h1,hL,h2,h3⟩
 .obtain⟨o,es,ep,ho,r⟩:=hm
  exact⟨o,es,ep,k _ o (Ne.symm hL) ho,r⟩
 .refine(I.hok b u e).stay (λc v hc q=>k c v ?_ q) (λ_ q=>q) λ_ _ q=>q
  rcases hc with z |z
  .rw[z];exact nit b u e
  .exact nit c _ z
theorem Inv.tok(I:Inv X pins σ H s)(t:Nat):Inv X pins σ H {s with toks:=t}:=I.un (h':=s.heap) (t':=t) Un.refl I.hok
theorem Inv.kept{t':Nat}(I:Inv X pins σ H s)(k:∀b u,s.heap.get? b=some u->h'.get? b=some u):Inv X pins σ H {s with heap:=h',toks:=t'}:=I.un (Un.kept k) (I.hok.kept k)
theorem Inv.laid{a:Addr}{o:HO}{t':Nat}(I:Inv X pins σ H s)(k:∀b u,s.heap.get? b=some u->h'.get? b=some u)(hp:s.heap.objs.size≤a)(new:gH X.prog X.w (upd H a o) h' a o):
  Inv X pins σ (upd H a o) {s with heap:=h',toks:=t'}:=I.un (Un.laid k hp (I.hok.fresh hp)) (I.hok.laid k hp new)
theorem Inv.write{x e:Addr}{o:HO}{t':Nat}(I:Inv X pins σ H s)(mu:Mut (H x))(he:e=x\/H e=some (.own x))(k:∀b u,b≠e->s.heap.get? b=some u->h'.get? b=some u)(heo:∃u,h'.get? e=some u)
  (new:gH X.prog X.w (upd H x o) h' x o):Inv X pins σ (upd H x o) {s with heap:=h',toks:=t'}:=I.un (Un.write mu he k heo) (I.hok.write mu he k heo new)
theorem Inv.weak{σ':List (Option V)}(I:Inv X pins σ H s)(hl:σ'.length=σ.length)(w:∀(i:Nat) v,σ'[i]? =some (some v)->σ[i]? =some (some v)):Inv X pins σ' H s:=
 ⟨I.ok,I.os,I.bare,I.base,let⟨m,hn,hl'⟩:=I.loc;⟨m,hn,λi x v e1 e2 e3=>hl' i x v e1 (w i v e2) e3⟩,I.cell,I.free,I.freeC,I.pin,I.hok,hl.trans I.len⟩
theorem Inv.pins_of{pins':List (Addr×Obj)}(I:Inv X pins σ H s)(h:∀p∈pins',s.heap.get? p.1=some p.2/\H p.1=none/\p.1≠X.env.locals/\p.1∉X.fs/\∀v,p.2.data≠ .cell v):Inv X pins' σ H s:=
 ⟨I.ok,I.os,I.bare,I.base,I.loc,I.cell,I.free,I.freeC,λp hp=>(aeC.mp hp).elim (λz=>I.pin p (agY _ z)) (h p),I.hok,I.len⟩
theorem Ai{N:List Str}(hN:N.Nodup){i j:Nat}{x:Str}(a:N[i]? =some x)(b:N[j]? =some x):i=j:=by
 obtain⟨h1,e1⟩:=aan.mp a
 obtain⟨h2,e2⟩:=aan.mp b
 exact(anw hN).mp (e1.trans e2.symm)
theorem sY{M:Model}{A:Around}{E:Value->Shared->Prop}{i:Nat}{x:Str}{v:V}{u:Value}{Q:Unit->Shared->Prop}(I:Inv X pins σ H s)(hN:X.N.Nodup)(hi:X.N[i]? =some x)(hx:Loc X.env.scope x)(r:RelV v u)
  (h:∀s',Inv X pins (σ.set i (some v)) H s'->(∃a,akd a s.heap s'.heap/\(a=X.env.locals\/X.env.cells.lookup x=some a))->Q () s') (hf:X.fn x=true\/X.env.scope.names.lookup x=some .local:=by first |exact .inl rfl |exact .inr rfl |assumption):wpAny M A (storeName X.env x u) Q E s:=by
 obtain⟨m,hn,hl⟩:=id I.loc
 have hcls:(X.env.scope.kind== .class||(X.env.scope.kind== .module&&X.env.locals !=X.env.globals))=false:=by rw[I.ok.kind];rfl
 have hiσ:i<σ.length:=by rw[I.len];exact(aan.mp hi).1
 have cne:=I.cne
 have tracked:∀{a:Addr} {h':Heap},(∃o,s.heap.get? a=some o/\H a=none)->akd a s.heap h'->xj X.prog X.w H h':=λ{a h'} ha hs b ob e=>by
  obtain⟨_,_,hfree⟩:=ha
  refine(I.hok b ob e).stay (λc w' hc q=>(hs.2 c ?_).trans q) (λ_ q=>q) λ_ _ q=>q
  rintro rfl
  rcases hc with rfl |hc
  .rw[hfree]at e;cases e
  .rw[hfree]at hc;cases hc
 rcases hx with hk |hk
 .refine wpAny_storeName_local hk hn (λh' hn' hs=>?_) hcls
  obtain⟨oL,_,_,hoL,_⟩:=id hn
  refine h _ ⟨I.ok,I.os,I.bare,⟨λb o e n hb hx=>?_,λb o e n hb hx=>?_,I.base.free,λb o e hx=>?_,I.base.tups,I.base.frzs,I.base.tbls⟩,⟨_,hn',λj y v' e1 e2 e3=>?_⟩,λy c e=>?_,I.free,I.freeC,λp hp=>?_,tracked ⟨oL,hoL,I.free⟩ hs,by simpa using I.len⟩ ⟨_,hs,.inl rfl⟩
  .exact(hs.2 b (aeB (aey (acK e) I.ok.above))).trans (I.base.keep b o e n hb hx)
  .obtain⟨sl,e1⟩:=I.base.slot b o e n hb hx
   exact⟨sl,(hs.2 b (aeB (aey (acK e) I.ok.above))).trans e1⟩
  .obtain⟨o',e1⟩:=I.base.there b o e hx
   exact⟨o',(hs.2 b (aeB (aey (acK e) I.ok.above))).trans e1⟩
  .by_cases hj:j=i
   .subst hj
    rw[hi]at e1;cases e1
    rw[ajw hiσ]at e2
    cases e2
    exact⟨u,r,.inl ⟨hk,by simp⟩⟩
   .rw[akC (Ne.symm hj)]at e2
    obtain⟨u',r',q⟩:=hl j y v' e1 e2 e3
    refine⟨u',r',?_⟩
    rcases q with⟨k,e⟩ |⟨k,c,e,z⟩
    .refine .inl ⟨k,?_⟩
     have :y≠x:=λe=>hj (Ai hN e1 (e▸hi))
     simp[this,e]
    .exact .inr ⟨k,c,e,z.sameBut hs (cne y c e)⟩
  .obtain⟨w',z⟩:=I.cell y c e
   exact⟨w',z.sameBut hs (cne y c e)⟩
  .obtain⟨e,n,ne,nf,d⟩:=I.pin p hp
   exact⟨(hs.2 p.1 ne).trans e,n,ne,nf,d⟩
 .have hfn:X.fn x=true:=by
   rcases hf with z |z
   .exact z
   .rw[z]at hk;cases hk
  obtain⟨c,hc⟩:=I.ok.has x (.inl hk)
  obtain⟨w',z⟩:=I.cell x c hc
  refine wpAny_storeName_cell I.ok.kind hk hc z (λh' hc' hs=>?_)
  obtain⟨oc,hoc,hocd⟩:=id z
  refine h {s with heap:=h'} ⟨I.ok,I.os,I.bare,⟨λb o e n hb hx=>?_,λb o e n hb hx=>?_,I.base.free,λb o e hx=>?_,I.base.tups,I.base.frzs,I.base.tbls⟩,⟨m,hn.sameBut hs (Ne.symm (cne x c hc)),λj y v' e1 e2 e3=>?_⟩,λy c' e=>?_,I.free,I.freeC,λp hp=>?_,tracked ⟨oc,hoc,I.freeC x c hc⟩ hs,by simpa using I.len⟩ ⟨c,hs,.inr hc⟩
  .exact(hs.2 b (aeB (aey (acK e) (I.ok.cab x c hfn hc)))).trans (I.base.keep b o e n hb hx)
  .obtain⟨sl,e1⟩:=I.base.slot b o e n hb hx
   exact⟨sl,(hs.2 b (aeB (aey (acK e) (I.ok.cab x c hfn hc)))).trans e1⟩
  .obtain⟨o',e1⟩:=I.base.there b o e hx
   exact⟨o',(hs.2 b (aeB (aey (acK e) (I.ok.cab x c hfn hc)))).trans e1⟩
  .by_cases hj:j=i
   .subst hj
    rw[hi]at e1;cases e1
    rw[ajw hiσ]at e2
    cases e2
    exact⟨u,r,.inr ⟨.inl hk,c,hc,hc'⟩⟩
   .rw[akC (Ne.symm hj)]at e2
    obtain⟨u',r',q⟩:=hl j y v' e1 e2 e3
    refine⟨u',r',?_⟩
    rcases q with q |⟨k,c',e,z'⟩
    .exact .inl q
    .refine .inr ⟨k,c',e,z'.sameBut hs ?_⟩
     rintro rfl
     exact hj (Ai hN e1 (I.ok.inj _ _ _ e hc▸hi))
  .by_cases hcc:c'=c
   .subst hcc;exact⟨_,hc'⟩
   .obtain⟨w2,z2⟩:=I.cell y c' e
    exact⟨w2,z2.sameBut hs hcc⟩
  .obtain⟨e,n,ne,nf,d⟩:=I.pin p hp
   refine⟨(hs.2 p.1 ?_).trans e,n,ne,nf,d⟩
   intro q
   rw[q,hoc]at e
   have q':oc=p.2:=Option.some.inj e
   exact d w' (by rw[<-q'];exact hocd)
theorem Ij{M:Model}{A:Around}{E:Value->Shared->Prop}{i:Nat}{x:Str}{v:V}{u:Value}{Q:Unit->Shared->Prop}(I:Inv X pins σ H s)(hN:X.N.Nodup)(hi:X.N[i]? =some x)(hx:Loc X.env.scope x)(r:RelV v u)
  (h:∀s',Inv X pins (σ.set i (some v)) H s'->Q () s') (hf:X.fn x=true\/X.env.scope.names.lookup x=some .local:=by first |exact .inl rfl |exact .inr rfl |assumption):wpAny M A (storeName X.env x u) Q E s:=
 sY I hN hi hx r (λs' I' _=>h s' I') hf
theorem Inv.call'{s':Shared}{ch:List Addr}(I:Inv X pins σ H s)(ho:s'.os=s.os)(u:Un (Bq X.stack) ch H H' s.heap s'.heap)(hok:xj X.prog X.w H' s'.heap)(hg:AllBare s'.gens)
  (hch:∀b∈ch,(b∈X.ex\/X.s₀.heap.get? b=none)/\b≠X.env.locals/\(∀x c,X.env.cells.lookup x=some c->c≠b)/\∀p∈X.pn++pins,p.1≠b):Inv X pins σ H' s':=by
 obtain⟨h',g',d',t',o'⟩:=s'
 have e:o'=s.os:=ho
 subst e
 exact I.call (g':=g') (t':=t') (d':=d') u hok hg hch
end
abbrev XK:=Value->Option Addr×Bool->Hp->Prop
abbrev St:=List (Option V)
abbrev VK:=V->Hp->Prop
abbrev TE:=St->Hp->VK->Prop
abbrev TT:=St->Hp->(Bool->Hp->Prop)->Prop
abbrev TA:=St->Hp->(List V->Hp->Prop)->Prop
structure Ends where
 nx:St->Hp->Prop
 rt:VK
 bk:St->Hp->Prop:=λ_ _=>False
 ct:St->Hp->Prop:=λ_ _=>False
abbrev TS:=Ends->St->Hp->Prop
def EP(X:Cx)(pins:List (Addr×Obj))(σ:St)(Q:VK)(u:Value)(s':Shared):Prop:=∃v H',Inv X pins σ H' s'/\RelV v u/\Q v H'
def TP(X:Cx)(pins:List (Addr×Obj))(σ:St)(Q:Bool->Hp->Prop)(b:Bool)(s':Shared):Prop:=∃H',Inv X pins σ H' s'/\Q b H'
def AP(X:Cx)(pins:List (Addr×Obj))(σ:St)(Q:List V->Hp->Prop)(us:List Value)(s':Shared):Prop:=∃vs H',Inv X pins σ H' s'/\Vals vs us/\Q vs H'
def SP(X:Cx)(pins:List (Addr×Obj))(D:Ends)(f:Flow)(s':Shared):Prop:=
 match f with
 | .next=>∃σ' H',Inv X pins σ' H' s'/\D.nx σ' H'
 | .brk=>∃σ' H',Inv X pins σ' H' s'/\D.bk σ' H'
 | .cont=>∃σ' H',Inv X pins σ' H' s'/\D.ct σ' H'
 | .ret u=>∃v σ' H',Inv X pins σ' H' s'/\RelV v u/\D.rt v H'
def PE(X:Cx)(e:Expr)(t:TE):Prop:=
 ∀(pins:List (Addr×Obj)) (s:Shared) (σ:St) (H:Hp) (Q:VK),Inv X pins σ H s->t σ H Q->wpAny (model X.prog X.w) X.A (eval e X.env) (EP X pins σ Q) X.xe s
def PT(X:Cx)(e:Expr)(t:TT):Prop:=
 ∀(pins:List (Addr×Obj)) (s:Shared) (σ:St) (H:Hp) (Q:Bool->Hp->Prop),Inv X pins σ H s->t σ H Q->wpAny (model X.prog X.w) X.A (isTrue e X.env (eval e X.env)) (TP X pins σ Q) X.xe s
def PW(X:Cx)(e:Expr)(t:TT):Prop:=
 ∀(whole:Sem Value) (pins:List (Addr×Obj)) (s:Shared) (σ:St) (H:Hp) (Q:Bool->Hp->Prop),Inv X pins σ H s->t σ H Q->wpAny (model X.prog X.w) X.A (isTrue e X.env whole) (TP X pins σ Q) X.xe s
theorem PW.pt{X:Cx}{e:Expr}{t:TT}(h:PW X e t):PT X e t:=h _
def PA(X:Cx)(es:List Expr)(t:TA):Prop:=
 ∀(pos:Pos) (pins:List (Addr×Obj)) (s:Shared) (σ:St) (H:Hp) (Q:List V->Hp->Prop),Inv X pins σ H s->t σ H Q->wpAny (model X.prog X.w) X.A (spliced (backTo pos (starEach es X.env))) (AP X pins σ Q) X.xe s
def PS(X:Cx)(st:Stmt)(t:TS):Prop:=
 ∀(pins:List (Addr×Obj)) (s:Shared) (σ:St) (H:Hp) (D:Ends),Inv X pins σ H s->t D σ H->wpAny (model X.prog X.w) X.A (exec st X.env) (SP X pins D) X.xe s
def Wv(X:Cx)(st:List Stmt)(t:TS):Prop:=
 ∀(pins:List (Addr×Obj)) (s:Shared) (σ:St) (H:Hp) (D:Ends),Inv X pins σ H s->t D σ H->wpAny (model X.prog X.w) X.A (execs st X.env) (SP X pins D) X.xe s
theorem cZ{α:Type}{t:Sem α}{Q Q':α->Shared->Prop}{M:Model}{A:Around}{E:Value->Shared->Prop}{s:Shared}(h:wpAny M A t Q E s)(hQ:∀a s,Q a s->Q' a s):wpAny M A t Q' E s:=wpAny_mono h hQ λ_ _ x=>x
section
variable{X:Cx}
def avy(i:Nat):TE:=λσ H Q=>∃v,σ[i]? =some (some v)/\Q v H
def tC(v:V):TE:=λ_ H Q=>Q v H
theorem aaS{i:Nat}{x:Str}{pos:Pos}(hN:X.N[i]? =some x)(hv:Vis X.env.scope x)(hd:(x==("__debug__":Str))=false:=by decide)(hcd:(x==("__classdict__":Str))=false:=by decide):PE X (.Name x pos) (avy i):=by
 intro pins s σ H Q I h
 obtain⟨v,e,h⟩:=h
 obtain⟨m,hn,hl⟩:=I.loc
 obtain⟨u,r,l⟩:=hl i x v hN e hv
 have fin:EP X pins σ Q u s:=⟨v,H,I,r,h⟩
 rcases l with⟨hk,hm⟩ |⟨hk,c,hc,hcell⟩
 .exact wpAny_Name (wpAny_loadName_local I.ok.kind hk hn hm fin) hd
 .rcases hk with hk |hk
  .exact wpAny_Name (wpAny_loadName_cell I.ok.kind hk hc hcell fin) hd
  .exact wpAny_Name (wpAny_loadName_free I.ok.kind hk hc hcell fin hcd) hd
theorem aaW{i j pos}:PE X (.Constant (.int i) j pos) (tC (.int i)):=λ_ _ _ H _ I h=>wpAny_Constant_int ⟨.int i,H,I.tok _,⟨_,rfl⟩,h⟩
theorem afp{b j pos}:PE X (.Constant (.bool b) j pos) (tC (.bl b)):=λ_ _ _ H _ I h=>Constant_bool ⟨.bl b,H,I,rfl,h⟩
theorem aeu{j pos}:PE X (.Constant .none j pos) (tC .non):=λ_ _ _ H _ I h=>Constant_none ⟨.non,H,I,rfl,h⟩
theorem aeb{x j pos}:PE X (.Constant (.str x) j pos) (tC (.str x)):=λ_ _ _ H _ I h=>Calls.Constant_str ⟨.str x,H,I.tok _,⟨_,rfl⟩,h⟩
def Gl(X:Cx)(x:Str):Prop:=X.env.kindOf x=some .globalImplicit
theorem iz{E:Value->Shared->Prop}{pins:List (Addr×Obj)}{s:Shared}{σ:St}{H:Hp}{x:Str}{u:Value}{pos:Pos}{Q:Value->Shared->Prop}(I:Inv X pins σ H s)(hg:Gl X x)(hm:X.mg x=some u)(h:Q u s)
  (hd:(x==("__debug__":Str))=false:=by decide):wpAny (model X.prog X.w) X.A (eval (.Name x pos) X.env) Q E s:=
 Calls.Name_function_global I.ok.kind hg (Calls.loadGlobal_global (by rw[I.ok.glob];exact I.mod.glob.keeps I.bk) hm h) hd
theorem uI{E:Value->Shared->Prop}{pins:List (Addr×Obj)}{s:Shared}{σ:St}{H:Hp}{x:Str}{u:Value}{pos:Pos}{Q:Value->Shared->Prop}(I:Inv X pins σ H s)(hg:Gl X x)(hm:X.mg x=none)(hv:bootBuiltins x=some u)(h:Q u s)
  (hn:x≠"__name__":=by decide) (hd:(x==("__debug__":Str))=false:=by decide):wpAny (model X.prog X.w) X.A (eval (.Name x pos) X.env) Q E s:=by
 obtain⟨mb,h1,h2⟩:=I.mod.blt
 exact Calls.Name_function_global I.ok.kind hg (Calls.loadGlobal_builtin (by rw[I.ok.glob];exact I.mod.glob.keeps I.bk) hm (by rw[I.ok.blt];exact h1.keeps I.bk) ((h2 x hn).trans hv) h) hd
theorem XJ{x:Str}{v:V}{u:Value}{pos:Pos}(hg:Gl X x)(hm:X.mg x=some u)(r:RelV v u)(hd:(x==("__debug__":Str))=false:=by decide):PE X (.Name x pos) (tC v):=
 λ_ _ _ H _ I h=>iz I hg hm ⟨v,H,I,r,h⟩ hd
theorem WX{x:Str}{v:V}{u:Value}{pos:Pos}(hg:Gl X x)(hm:X.mg x=none)(hv:bootBuiltins x=some u)(r:RelV v u)(hn:x≠"__name__":=by decide)(hd:(x==("__debug__":Str))=false:=by decide):PE X (.Name x pos) (tC v):=
 λ_ _ _ H _ I h=>uI I hg hm hv ⟨v,H,I,r,h⟩ hn hd
variable{a b:Expr}{ta tb:TE}{pos:Pos}
variable{tA tB':TT}{rest:List Expr}
def anI(t u:TT):TT:=λσ H Q=>t σ H λc H1=>if c=true then u σ H1 Q else Q false H1
def tOr(t u:TT):TT:=λσ H Q=>t σ H λc H1=>if c=true then Q true H1 else u σ H1 Q
def auT(t:TT):TT:=λσ H Q=>t σ H λc H1=>Q (!c) H1
theorem Zj(ha:PT X a tA):PW X (.BoolOp .And [a] pos) tA:=by
 intro wh pins s σ H Q I h
 refine isTrue_and (cZ (ha pins s σ H Q I h) λc s1 e=>?_)
 cases c with
 |true=>exact isTrue_and_nil e
 |false=>exact e
theorem acQ(ha:PT X a tA):PW X (.BoolOp .Or [a] pos) tA:=by
 intro wh pins s σ H Q I h
 refine isTrue_or (cZ (ha pins s σ H Q I h) λc s1 e=>?_)
 cases c with
 |false=>exact isTrue_or_nil e
 |true=>exact e
theorem aa5(ha:PT X a tA)(hb:PW X (.BoolOp .And (b::rest) pos) tB'):PW X (.BoolOp .And (a::b::rest) pos) (anI tA tB'):=by
 intro wh pins s σ H Q I h
 refine isTrue_and (cZ (ha pins s σ H _ I h) λc s1 ⟨H1,I1,q1⟩=>?_)
 cases c with
 |true=>exact hb wh pins s1 σ H1 Q I1 q1
 |false=>exact⟨H1,I1,q1⟩
theorem afd(ha:PT X a tA)(hb:PW X (.BoolOp .Or (b::rest) pos) tB'):PW X (.BoolOp .Or (a::b::rest) pos) (tOr tA tB'):=by
 intro wh pins s σ H Q I h
 refine isTrue_or (cZ (ha pins s σ H _ I h) λc s1 ⟨H1,I1,q1⟩=>?_)
 cases c with
 |true=>exact⟨H1,I1,q1⟩
 |false=>exact hb wh pins s1 σ H1 Q I1 q1
theorem abG(ha:PT X a tA):PT X (.UnaryOp .Not a pos) (auT tA):=by
 intro pins s σ H Q I h
 exact isTrue_not (ha pins s σ H (λc H1=>Q (!c) H1) I h)
def air(ta tb:TE):TE:=λσ H Q=>ta σ H λx H1=>∃c,x= .bl c/\if c=true then tb σ H1 Q else Q (.bl false) H1
def aln(ta tb:TE):TE:=λσ H Q=>ta σ H λx H1=>∃c,x= .bl c/\if c=true then Q (.bl true) H1 else tb σ H1 Q
theorem abt{op}{t:TE}(h:PE X a t):PE X (.BoolOp op [a] pos) t:=λpins s σ H Q I hw=>BoolOp_one (h pins s σ H Q I hw)
theorem acY(ha:PE X a ta)(hb:PE X (.BoolOp .And (b::rest) pos) tb):PE X (.BoolOp .And (a::b::rest) pos) (air ta tb):=by
 intro pins s σ H Q I h
 refine BoolOp_and (cZ (ha pins s σ H _ I h) λv s1 ⟨x,H1,I1,r1,q1⟩=>?_)
 obtain⟨c,rfl,q1⟩:=q1
 cases r1
 refine wpAny_truthy_bool ?_
 cases c with
 |true=>exact hb pins s1 σ H1 Q I1 q1
 |false=>exact⟨.bl false,H1,I1,rfl,q1⟩
theorem aj2(ha:PE X a ta)(hb:PE X (.BoolOp .Or (b::rest) pos) tb):PE X (.BoolOp .Or (a::b::rest) pos) (aln ta tb):=by
 intro pins s σ H Q I h
 refine BoolOp_or (cZ (ha pins s σ H _ I h) λv s1 ⟨x,H1,I1,r1,q1⟩=>?_)
 obtain⟨c,rfl,q1⟩:=q1
 cases r1
 refine wpAny_truthy_bool ?_
 cases c with
 |false=>exact hb pins s1 σ H1 Q I1 q1
 |true=>exact⟨.bl true,H1,I1,rfl,q1⟩
def tIf(t:TT)(ta tb:TE):TE:=λσ H Q=>t σ H λc H1=>if c=true then ta σ H1 Q else tb σ H1 Q
theorem U6{c:Expr}(hc:PT X c tA)(ha:PE X a ta)(hb:PE X b tb):PE X (.IfExp c a b pos) (tIf tA ta tb):=by
 intro pins s σ H Q I h
 refine wpAny_IfExp (cZ (hc pins s σ H _ I h) λd s1 ⟨H1,I1,q1⟩=>?_)
 cases d with
 |true=>exact ha pins s1 σ H1 Q I1 q1
 |false=>exact hb pins s1 σ H1 Q I1 q1
end
def aX(K:acF)(H:Hp)(a:Addr)(xs:List V):Prop:=
 Rd H a (.lst xs)\/
  ∃(o:Obj) (its:Array Value) (n:Nat),K.lookup a=some o/\o.cls= .type "list"/\o.dict=none/\o.data= .seq its n/\its.size≤sizeLine/\Vals xs its.toList
def dg(K:acF)(H:Hp)(a:Addr)(xs:List V):Prop:=
 Rd H a (.tup xs)\/
  ∃(o:Obj) (its:Array Value) (n:Nat),K.lookup a=some o/\o.cls= .type "tuple"/\o.data= .seq its n/\its.size≤sizeLine/\Vals xs its.toList
def auS:Value->Option V
 | .none=>some .non
 | .bool b=>some (.bl b)
 | .int i _=>some (.int i)
 | .str x _=>some (.str x)
 | .bytes b _=>some (.byt b)
 | .float b _=>some (.flt b)
 | .ref a=>some (.ref a)
 | .type n=>some (.ty n)
 |_=>none
theorem RelV.abs{x:V}{u:Value}(r:RelV x u):auS u=some x:=by
 cases x with
 |non=>cases r;rfl
 |bl _=>cases r;rfl
 |int _=>obtain⟨t,rfl⟩:=r;rfl
 |str _=>obtain⟨t,rfl⟩:=r;rfl
 |byt _=>obtain⟨t,rfl⟩:=r;rfl
 |flt _=>obtain⟨t,rfl⟩:=r;rfl
 |ref _=>cases r;rfl
 |ty _=>cases r;rfl
theorem RelV.inj{x y:V}{u:Value}(r:RelV x u)(q:RelV y u):x=y:=Option.some.inj (r.abs.symm.trans q.abs)
theorem Vals.inj:∀{xs ys:List V} {us:List Value},Vals xs us->Vals ys us->xs=ys
 |_,_,_,.nil,.nil=>rfl
 |_,_,_,.cons r t,.cons r' t'=>by rw[r.inj r',Vals.inj t t']
section
variable{X:Cx}{pins:List (Addr×Obj)}{σ:St}{H:Hp}{s:Shared}{a:Addr}{xs ys:List V}
theorem aX.of{K:acF}(h:H a=some (.lst xs)):aX K H a xs:=.inl (.inl h)
theorem dg.of{K:acF}(h:H a=some (.tup xs)):dg K H a xs:=.inl (.inl h)
theorem Inv.list(I:Inv X pins σ H s)(h:aX X.K H a xs):∃its:List Value,Vals xs its/\PlainL s.heap a its.toArray/\xs.length≤sizeLine:=by
 rcases h with h |⟨o,its,n,hk,hc,hd,hs,hz,r⟩
 .obtain⟨z,its,n,r,e⟩:=h.ok I.hok
  exact⟨its,r,⟨_,n,e,rfl,rfl,rfl⟩,z⟩
 .refine⟨its.toList,r,⟨o,n,I.kIn a o hk,hc,hd,by simpa using hs⟩,?_⟩
  have e:=r.length
  simp only[apH]at e
  omega
theorem Inv.tuple(I:Inv X pins σ H s)(h:dg X.K H a xs):∃its:List Value,Vals xs its/\IsTup s.heap a its.toArray/\xs.length≤sizeLine:=by
 rcases h with h |⟨o,its,n,hk,hc,hs,hz,r⟩
 .obtain⟨z,its,r,p⟩:=h.ok I.hok
  exact⟨its,r,p,z⟩
 .refine⟨its.toList,r,⟨o,I.kIn a o hk,hc,n,by simpa using hs⟩,?_⟩
  have e:=r.length
  simp only[apH]at e
  omega
theorem Inv.list_inj(I:Inv X pins σ H s)(h:aX X.K H a xs)(h':aX X.K H a ys):xs=ys:=by
 obtain⟨its,r,⟨o,n,e,_,_,d⟩,_⟩:=I.list h
 obtain⟨its',r',⟨o',n',e',_,_,d'⟩,_⟩:=I.list h'
 rw[e]at e';cases e'
 rw[d]at d'
 injection d' with d1 _
 have :its=its':=by simpa using congrArg au9 d1
 subst this
 exact r.inj r'
theorem Inv.tuple_inj(I:Inv X pins σ H s)(h:dg X.K H a xs)(h':dg X.K H a ys):xs=ys:=by
 obtain⟨its,r,⟨o,e,_,n,d⟩,_⟩:=I.tuple h
 obtain⟨its',r',⟨o',e',_,n',d'⟩,_⟩:=I.tuple h'
 rw[e]at e';cases e'
 rw[d]at d'
 injection d' with d1 _
 have :its=its':=by simpa using congrArg au9 d1
 subst this
 exact r.inj r'
end
section
variable{X:Cx}{pins:List (Addr×Obj)}{σ:St}{H:Hp}{s:Shared}{E:Value->Shared->Prop}
end
section
variable{X:Cx}{st:Stmt}{rest:List Stmt}{t u:TS}{e:Expr}{te:TE}{pos:Pos}
def ae2:TS:=λD σ H=>D.nx σ H
def aps(t u:TS):TS:=λD σ H=>t {D with nx:=u D} σ H
theorem Zb:Wv X [] ae2:=λ_ _ σ H _ I h=>wpAny_execs_nil ⟨σ,H,I,h⟩
theorem V7(h1:PS X st t)(h2:Wv X rest u):Wv X (st::rest) (aps t u):=by
 intro pins s σ H D I h
 refine wpAny_execs_cons (cZ (h1 pins s σ H {D with nx:=u D} I h) λf s1 q=>?_)
 cases f with
 |next=>
  obtain⟨σ',H',I',q⟩:=q
  exact h2 pins s1 σ' H' D I' q
 |ret v=>exact q
 |brk=>exact q
 |cont=>exact q
theorem X5(h1:PS X st t):Wv X [st] t:=by
 intro pins s σ H D I h
 refine wpAny_execs_cons (cZ (h1 pins s σ H D I h) λf s1 q=>?_)
 cases f with
 |next=>exact wpAny_execs_nil q
 |ret v=>exact q
 |brk=>exact q
 |cont=>exact q
theorem Inv.quiet{pins:List (Addr×Obj)}{σ:St}{H:Hp}{s:Shared}(I:Inv X pins σ H s):interactive X.env=false:=by simp[interactive,I.ok.kind]
def ajU(te:TE):TS:=λD σ H=>te σ H λ_ H1=>D.nx σ H1
theorem W4(he:PE X e te)(hs:swapsWith e none pos.line X.env=pure false:=by rfl):PS X (.Expr e pos) (ajU te):=by
 intro pins s σ H D I h
 exact wpAny_Expr_any (cZ (he pins s σ H _ I h) λv s1 ⟨x,H1,I1,r1,q1⟩=>⟨σ,H1,I1,q1⟩) I.quiet hs
def al9(te:TE):TS:=λD σ H=>te σ H D.rt
theorem aa1(he:PE X e te):PS X (.Return (some e) pos) (al9 te):=by
 intro pins s σ H D I h
 exact wpAny_Return_some (cZ (he pins s σ H _ I h) λv s1 ⟨x,H1,I1,r1,q1⟩=>⟨x,σ,H1,I1,r1,q1⟩)
def aqu(c:TT)(t u:TS):TS:=λD σ H=>c σ H λb H1=>if b=true then t D σ H1 else u D σ H1
theorem ajH{c:Expr}{a b:List Stmt}{tc:TT}(hc:PT X c tc)(ha:Wv X a t)(hb:Wv X b u):PS X (.If c a b pos) (aqu tc t u):=by
 intro pins s σ H D I h
 refine wpAny_If (cZ (hc pins s σ H _ I h) λd s1 ⟨H1,I1,q1⟩=>?_)
 cases d with
 |true=>exact ha pins s1 σ H1 D I1 q1
 |false=>exact hb pins s1 σ H1 D I1 q1
end
abbrev TG:=V->St->Hp->(St->Hp->Prop)->Prop
abbrev TGs:=List V->St->Hp->(St->Hp->Prop)->Prop
def PG(X:Cx)(target:Expr)(t:TG):Prop:=
 ∀(pins:List (Addr×Obj)) (s:Shared) (σ:St) (H:Hp) (v:V) (u:Value) (Q:St->Hp->Prop),Inv X pins σ H s->RelV v u->t v σ H Q->
  wpAny (model X.prog X.w) X.A (assign target X.env u) (λ_ s'=>∃σ' H',Inv X pins σ' H' s'/\Q σ' H') X.xe s
def PGs(X:Cx)(ts:List Expr)(t:TGs):Prop:=
 ∀(pins:List (Addr×Obj)) (s:Shared) (σ:St) (H:Hp) (vs:List V) (us:List Value) (Q:St->Hp->Prop),Inv X pins σ H s->Vals vs us->t vs σ H Q->
  wpAny (model X.prog X.w) X.A (assignInOrder ((assignEach ts X.env).map (·.2)) us) (λ_ s'=>∃σ' H',Inv X pins σ' H' s'/\Q σ' H') X.xe s
abbrev Y0:=V->V->V->Hp->(Hp->Prop)->Prop
def ag9(X:Cx)(t:Y0):Prop:=
 ∀(pins:List (Addr×Obj)) (s:Shared) (σ:St) (H:Hp) (o i v:V) (ov iv u:Value) (Q:Hp->Prop),Inv X pins σ H s->RelV o ov->RelV i iv->RelV v u->t o i v H Q->
  wpAny (model X.prog X.w) X.A (setItem ov iv u) (λ_ s'=>∃H',Inv X pins σ H' s'/\Q H') X.xe s
section
variable{X:Cx}{pos:Pos}
def Z0(i:Nat):TG:=λv σ H Q=>Q (σ.set i (some v)) H
theorem Yu{i:Nat}{x:Str}(hN:X.N.Nodup)(hi:X.N[i]? =some x)(hx:Loc X.env.scope x)(hf:X.fn x=true\/X.env.scope.names.lookup x=some .local:=by first |exact .inl rfl |exact .inr rfl |assumption):PG X (.Name x pos) (Z0 i):=by
 intro pins s σ H v u Q I r h
 exact wpAny_assign_Name (Ij I hN hi hx r (λs' I'=>⟨_,H,I',h⟩) hf)
def aqJ:TGs:=λvs σ H Q=>vs=[]/\Q σ H
def ahq(t:TG)(u:TGs):TGs:=λvs σ H Q=>∃v r,vs=v::r/\t v σ H λσ' H'=>u r σ' H' Q
theorem Xx:PGs X [] aqJ:=by
 intro pins s σ H vs us Q I r h
 obtain⟨e,h⟩:=h
 subst e
 cases r
 exact assignInOrder_nil ⟨σ,H,I,h⟩
theorem UT{e:Expr}{es:List Expr}{t:TG}{u:TGs}(h1:PG X e t)(h2:PGs X es u)
  (hs:(assignEach (e::es) X.env).map (·.2)=assign e X.env::(assignEach es X.env).map (·.2):=by rfl):PGs X (e::es) (ahq t u):=by
 intro pins s σ H vs us Q I r h
 obtain⟨v,vr,e1,h⟩:=h
 subst e1
 cases r with
 |cons r rr=>
  rw[hs]
  refine assignInOrder_cons (cZ (h1 pins s σ H _ _ _ I r h) λ_ s1 ⟨σ1,H1,I1,q1⟩=>?_)
  exact h2 pins s1 σ1 H1 _ _ Q I1 rr q1
def atD(K:acF)(n:Nat)(t:TGs):TG:=λv σ H Q=>∃a xs,v= .ref a/\dg K H a xs/\xs.length=n/\t xs σ H Q
theorem abE{es:List Expr}{k:Nat}{t:TGs}{n:Nat}(hc:X.calm=true)(h:PGs X es t)
  (hn:(assignEach es X.env).length=n:=by rfl) (hst:(assignEach es X.env).findIdx? (·.1)=none:=by rfl):PG X (.Tuple es k pos) (atD X.K n t):=by
 intro pins s σ H v u Q I r hw
 obtain⟨a,xs,e1,hq,hl,hw⟩:=hw
 subst e1
 cases r
 obtain⟨its,rv,ht,hz⟩:=I.tuple hq
 refine assign_Tuple_tuple (I.ok.hd hc) ht (by simp[hn, <-hl,rv.length]) hst λh' hx=>?_
 have I1:Inv X pins σ H {s with heap:=h'}:=I.kept (t':=s.toks) λb o e=>hx b o (aeB (acK e)) e
 exact h pins _ σ H xs _ Q I1 (by simpa using rv) hw
def amz(to ti:TE)(t:Y0):TG:=λv σ H Q=>to σ H λo H1=>ti σ H1 λi H2=>t o i v H2 λH3=>Q σ H3
theorem aaL{o i:Expr}{to ti:TE}{t:Y0}(ho:PE X o to)(hi:PE X i ti)(hs:ag9 X t)
  (ha:∀v,assign (.Subscript o i pos) X.env v=(do
   let ov<-holding [v] (eval o X.env)
   let iv<-holding [v,ov] (eval i X.env)
   standAt pos
   holding [v,ov,iv] (setItem ov iv v)
   release [v,ov,iv] []):=by intro _;rfl):PG X (.Subscript o i pos) (amz to ti t):=by
 intro pins s σ H v u Q I r h
 rw[ha]
 refine wpAny_bind (wpAny_holding (cZ (ho pins s σ H _ I h) λov s1 ⟨x,H1,I1,r1,q1⟩=>?_))
 refine wpAny_bind (wpAny_holding (cZ (hi pins s1 σ H1 _ I1 q1) λiv s2 ⟨y,H2,I2,r2,q2⟩=>?_))
 refine wpAny_bind (wpAny_standAt (wpAny_bind (wpAny_holding (cZ (hs pins s2 σ H2 x y v ov iv u _ I2 r1 r2 r q2) λ_ s3 ⟨H3,I3,q3⟩=>?_))))
 exact wpAny_release ⟨σ,H3,I3,q3⟩
def ajx(te:TE)(g:TG):TS:=λD σ H=>te σ H λx H1=>g x σ H1 D.nx
theorem aaT{tg e:Expr}{te:TE}{g:TG}(he:PE X e te)(hg:PG X tg g)(hs:swapsWithSole [tg] e pos.line X.env=pure false:=by rfl)(hw:swappedStores [tg] e X.env=pure none:=by rfl)
  (h1:(assignEach [tg] X.env).map (·.2)=[assign tg X.env]:=by rfl):PS X (.Assign [tg] e pos) (ajx te g):=by
 intro pins s σ H D I h
 refine wpAny_Assign_stores (cZ (he pins s σ H _ I h) λv s1 ⟨x,H1,I1,r1,q1⟩=>?_) hs hw
 rw[h1]
 exact cZ (hg pins s1 σ H1 x v _ I1 r1 q1) λ_ s2 q=>q
theorem aaU{i:Nat}{x:Str}{e:Expr}{te:TE}{pos':Pos}(hN:X.N.Nodup)(hi:X.N[i]? =some x)(hx:Loc X.env.scope x)(he:PE X e te)(hs:swapsWith e (some (.Name x pos')) pos.line X.env=pure false:=by rfl)(hf:X.fn x=true\/X.env.scope.names.lookup x=some .local:=by first |exact .inl rfl |exact .inr rfl |assumption):
  PS X (.Assign [.Name x pos'] e pos) (ajx te (Z0 i)):=by
 intro pins s σ H D I h
 refine wpAny_Assign_Name (cZ (he pins s σ H _ I h) λv s1 ⟨y,H1,I1,r1,q1⟩=>?_) hs
 exact Ij I1 hN hi hx r1 (λs2 I2=>⟨_,H1,I2,q1⟩) hf
end
section
variable{X:Cx}{pos:Pos}
end
structure It where
 go:Nat->Hp->Prop
 yld:Nat->Hp->V->Hp->Prop
 stop:Nat->Hp->Prop
def nO(X:Cx)(pins:List (Addr×Obj))(H:Hp)(b:Addr):Prop:=
 H b=none/\b≠X.env.locals/\b∉X.fs/\(b∈X.ex\/X.s₀.heap.get? b=none)/\(∀x c,X.env.cells.lookup x=some c->c≠b)/\∀p∈X.pn++pins,p.1≠b
theorem Inv.fpOk{X:Cx}{pins:List (Addr×Obj)}{σ:St}{H H':Hp}{s:Shared}{b:Addr}(I:Inv X pins σ H s)(hb:s.heap.objs.size≤b)(hn:H' b=none):nO X pins H' b:=by
 refine⟨hn,Nat.ne_of_gt (aey I.lt hb),I.nofs hb,.inr (aiw (ah4 I.sz hb)),λx c e z=>?_,λp hp z=>?_⟩
 .obtain⟨v,q⟩:=I.cell x c e
  exact absurd (aey q.lt (by rw[z];exact hb)) (ahK _)
 .exact absurd (aey (acK (I.pin p hp).1) (by rw[z];exact hb)) (ahK _)
structure Turn(P:Program)(w:World)(K:acF)(tg:Expr)(J:It)(fp:List Addr)(it:Addr)(tn:Nat->Heap->Prop):Prop where
 mem:it∈fp
 obj:∀i h,tn i h->∀b∈fp,∃o,h.get? b=some o/\∀v,o.data≠ .cell v
 keep:∀i h h',tn i h->(∀b∈fp,∀o,h.get? b=some o->h'.get? b=some o)->tn i h'
 item:∀(X:Cx),X.prog=P->X.w=w->X.K=K->X.calm=true->∀(i:Nat) (pins:List (Addr×Obj)) (s:Shared) (σ:St) (H:Hp) (E:Value->Shared->Prop),Inv X pins σ H s->(∀b∈fp,nO X pins H b)->tn i s.heap->J.go i H->
  wpAny (model P w) X.A (pyNext (.ref it)) (λr s1=>∃u,r=some u/\
   wpAny (model P w) X.A (letOwnedTupleGo tg (.ref it) u) (λ_ s2=>∃x H',Inv X pins σ H' s2/\RelV x u/\J.yld i H x H'/\tn (i+1) s2.heap/\∀b∈fp,H' b=none) E s1) E s
 done:∀(X:Cx),X.prog=P->X.w=w->X.K=K->X.calm=true->∀(i:Nat) (pins:List (Addr×Obj)) (s:Shared) (σ:St) (H:Hp) (E:Value->Shared->Prop),Inv X pins σ H s->(∀b∈fp,nO X pins H b)->tn i s.heap->J.stop i H->
  wpAny (model P w) X.A (pyNext (.ref it)) (λr s1=>r=none/\Inv X pins σ H s1) E s
 self:∀(A:Around) (i:Nat) (s:Shared) (Q:Value->Shared->Prop) (E:Value->Shared->Prop),tn i s.heap->Q (.ref it) s->wpAny (model P w) A (pyIter (.ref it)) Q E s
abbrev TI:=St->Hp->(It->Hp->Prop)->Prop
def PIE(X:Cx)(pins:List (Addr×Obj))(σ:St)(tg:Expr)(R:It->Hp->Prop)(itv:Value)(s2:Shared):Prop:=
 ∃(it:Addr) (fp:List Addr) (tn:Nat->Heap->Prop) (J:It) (H':Hp),itv= .ref it/\Inv X pins σ H' s2/\Turn X.prog X.w X.K tg J fp it tn/\tn 0 s2.heap/\(∀b∈fp,nO X pins H' b)/\R J H'
def PI(X:Cx)(tg iter:Expr)(wi:TI):Prop:=
 ∀(pins:List (Addr×Obj)) (s:Shared) (σ:St) (H:Hp) (R:It->Hp->Prop),Inv X pins σ H s->wi σ H R->
  wpAny (model X.prog X.w) X.A (eval iter X.env) (λv s1=>wpAny (model X.prog X.w) X.A (pyIter v) (PIE X pins σ tg R) X.xe s1) X.xe s
theorem G4{M:Model}{A:Around}{E:Value->Shared->Prop}{s:Shared}{tg:Expr}{it:Addr}{u:Value}{o:Obj}{n:String}{vs:Array Value}{Q:Unit->Shared->Prop}(ho:s.heap.get? it=some o)(hc:o.cls= .type n)(hd:o.data= .fields vs)
  (hn:["enumerate","zip","dict_itemiterator","dict_reverseitemiterator","odict_iterator","itertools.zip_longest","itertools.pairwise"].contains n=false) (hQ:Q () s):wpAny M A (letOwnedTupleGo tg (.ref it) u) Q E s:=by
 unfold letOwnedTupleGo
 cases tg<;>first
  |exact wpAny_pure hQ
  |(cases u<;>first
   |exact wpAny_pure hQ
   |(refine wpAny_bind (wpAny_load ho ?_)
     rw[hc,hd]
     show wpAny M A (if(["enumerate","zip","dict_itemiterator","dict_reverseitemiterator","odict_iterator","itertools.zip_longest","itertools.pairwise"].contains n&&vs[0]? ==some (rawInt _))=true then _ else _) Q E s
     rw[if_neg (by intro h;rw[hn,alK]at h;cases h)]
     exact wpAny_pure hQ))
def YT(K:acF)(a:Addr):It:=
 ⟨λi H=>∃xs x,aX K H a xs/\xs[i]? =some x,λi H x H'=>H'=H/\∀xs,aX K H a xs->xs[i]? =some x,λi H=>∃xs,aX K H a xs/\xs.length≤i⟩
def Itt(K:acF)(a:Addr):It:=
 ⟨λi H=>∃xs x,dg K H a xs/\xs[i]? =some x,λi H x H'=>H'=H/\∀xs,dg K H a xs->xs[i]? =some x,λi H=>∃xs,dg K H a xs/\xs.length≤i⟩
def Itr(lo:Int)(n:Nat):It:=⟨λi _=>i<n,λi H x H'=>H'=H/\x= .int (lo+i),λi _=>n≤i⟩
theorem Qa{P:Program}{w:World}{K:acF}{tg:Expr}(a it:Addr):Turn P w K tg (YT K a) [it] it (λi h=>h.IsListIter it a i)where
 mem:=by simp
 obj:=λi h st b hb=>by
  have e:b=it:=by simpa using hb
  subst e
  obtain⟨o,e,c,d⟩:=st
  exact⟨o,e,λv z=>by rw[d]at z;cases z⟩
 keep:=λi h h' st k=>st.at λo e=>k it (by simp) o e
 item:=by
  intro X hP hw hK hc i pins s σ H E I hf st hg
  subst hP hw hK
  obtain⟨xs,x,hq,hx⟩:=hg
  obtain⟨its,rv,p,hz⟩:=I.list hq
  obtain⟨u,hu,ru⟩:=rv.get hx
  obtain⟨f0,f1,f2,f3,f4,f5⟩:=hf it (by simp)
  refine wpAny_pyNext_list_item st p.isList (x:=u) (by simpa using hu) λh' st' sb=>?_
  have I1:Inv X pins σ H {s with heap:=h'}:=I.turned (t':=s.toks) (λb o hb e=>(sb.2 b hb).trans e) f0 f1 f3 f4 f5
  obtain⟨o,e,c,d⟩:=id st'
  exact⟨u,rfl,G4 (s:={s with heap:=h'}) e c d (by decide) ⟨x,H,I1,ru,⟨rfl,λys hy=>by rw[I.list_inj hy hq];exact hx⟩,st',λb hb=>(hf b hb).1⟩⟩
 done:=by
  intro X hP hw hK hc i pins s σ H E I hf st hg
  subst hP hw hK
  obtain⟨xs,hq,hx⟩:=hg
  obtain⟨its,rv,p,hz⟩:=I.list hq
  obtain⟨f0,f1,f2,f3,f4,f5⟩:=hf it (by simp)
  have hl:=rv.length
  exact wpAny_pyNext_list_end (I.ok.hd hc) st p.isList (by simp;omega) λh' eb=>⟨rfl,I.turned (t':=s.toks) (λb o hb e=>eb b o hb e) f0 f1 f3 f4 f5⟩
 self:=λ_ _ _ _ _ st h=>wpAny_pyIter_listiter st h
theorem Lf{P:Program}{w:World}{K:acF}{tg:Expr}(a it:Addr):Turn P w K tg (Itt K a) [it] it (λi h=>h.IsTupleIter it a i)where
 mem:=by simp
 obj:=λi h st b hb=>by
  have e:b=it:=by simpa using hb
  subst e
  obtain⟨o,e,c,d⟩:=st
  exact⟨o,e,λv z=>by rw[d]at z;cases z⟩
 keep:=λi h h' st k=>st.at λo e=>k it (by simp) o e
 item:=by
  intro X hP hw hK hc i pins s σ H E I hf st hg
  subst hP hw hK
  obtain⟨xs,x,hq,hx⟩:=hg
  obtain⟨its,rv,p,hz⟩:=I.tuple hq
  obtain⟨u,hu,ru⟩:=rv.get hx
  obtain⟨f0,f1,f2,f3,f4,f5⟩:=hf it (by simp)
  refine wpAny_pyNext_tuple_item st (show s.heap.IsTuple a its.toArray from p) (x:=u) (by simpa using hu) λh' st' sb=>?_
  have I1:Inv X pins σ H {s with heap:=h'}:=I.turned (t':=s.toks) (λb o hb e=>(sb.2 b hb).trans e) f0 f1 f3 f4 f5
  obtain⟨o,e,c,d⟩:=id st'
  exact⟨u,rfl,G4 (s:={s with heap:=h'}) e c d (by decide) ⟨x,H,I1,ru,⟨rfl,λys hy=>by rw[I.tuple_inj hy hq];exact hx⟩,st',λb hb=>(hf b hb).1⟩⟩
 done:=by
  intro X hP hw hK hc i pins s σ H E I hf st hg
  subst hP hw hK
  obtain⟨xs,hq,hx⟩:=hg
  obtain⟨its,rv,p,hz⟩:=I.tuple hq
  obtain⟨f0,f1,f2,f3,f4,f5⟩:=hf it (by simp)
  have hl:=rv.length
  exact wpAny_pyNext_tuple_end (I.ok.hd hc) st (show s.heap.IsTuple a its.toArray from p) (by simp;omega) λh' eb=>⟨rfl,I.turned (t':=s.toks) (λb o hb e=>eb b o hb e) f0 f1 f3 f4 f5⟩
 self:=λ_ _ _ _ _ st h=>wpAny_pyIter_tupleiter st h
theorem KY{P:Program}{w:World}{K:PySem.W.Frag}{tg:Expr}(it:Addr)(lo:Int)(n:Nat):Turn P w K tg (Itr lo n) [it] it (λi h=>IsRangeIter h it (lo+(i:Nat)*1) ((n:Int)-(i:Nat)) 1)where
 mem:=by simp
 obj:=λi h st b hb=>by
  have e:b=it:=by simpa using hb
  subst e
  exact⟨_,st,λv z=>by
   have z':Data.fields _=Data.cell v:=z
   cases z'⟩
 keep:=λi h h' st k=>k it (by simp) _ st
 item:=by
  intro X hP hw hK hc i pins s σ H E I hf st hg
  subst hP hw hK
  obtain⟨f0,f1,f2,f3,f4,f5⟩:=hf it (by simp)
  have W:=Walks.range (prog:=X.prog) (w:=X.w) (I.ok.hd hc) it lo 1 n
  refine W.item i s _ _ hg st λv h' tk hv st' kk=>?_
  obtain⟨t,rfl⟩:=hv
  have I1:Inv X pins σ H {s with heap:=h',toks:=tk}:=I.turned (λb o hb e=>kk b o (by simpa using hb) e) f0 f1 f3 f4 f5
  refine⟨_,rfl,G4 (s:={s with heap:=h',toks:=tk}) (n:="range_iterator") st' rfl rfl (by decide) ⟨.int (lo+i),H,I1,⟨t,?_⟩,⟨rfl,rfl⟩,st',λb hb=>(hf b hb).1⟩⟩
  rw[Int.mul_one]
 done:=by
  intro X hP hw hK hc i pins s σ H E I hf st hg
  subst hP hw hK
  obtain⟨f0,f1,f2,f3,f4,f5⟩:=hf it (by simp)
  exact wpAny_pyNext_range_end (I.ok.hd hc) st (by have :n≤i:=hg;omega) λh' eb=>⟨rfl,I.turned (t':=s.toks) (λb o hb e=>eb b o hb e) f0 f1 f3 f4 f5⟩
 self:=λ_ _ _ _ _ st h=>wpAny_pyIter_rangeiter st h
section
variable{X:Cx}{tg:Expr}
def agR(K:acF)(tl:TE):TI:=λσ H R=>tl σ H λx H1=>∃a,x= .ref a/\(∃xs,aX K H1 a xs)/\R (YT K a) H1
def ani(K:acF)(tl:TE):TI:=λσ H R=>tl σ H λx H1=>∃a,x= .ref a/\(∃xs,dg K H1 a xs)/\R (Itt K a) H1
theorem YZ{l:Expr}{tl:TE}(hl:PE X l tl):PI X tg l (agR X.K tl):=by
 intro pins s σ H R I h
 refine cZ (hl pins s σ H _ I h) λv s1 ⟨x,H1,I1,r1,q1⟩=>?_
 obtain⟨a,e,⟨xs,hq⟩,q⟩:=q1
 subst e
 cases r1
 obtain⟨its,rv,p,hz⟩:=I1.list hq
 refine wpAny_pyIter_list p.isList ?_
 refine⟨s1.heap.objs.size,[s1.heap.objs.size],_,_,H1,rfl,I1.kept (t':=s1.toks) λb o e=>Heap.get?_push_of_some _ e,Qa a _,⟨_,aez _ rfl,rfl,rfl⟩,λb hb=>?_,q⟩
 have e:b=s1.heap.objs.size:=by simpa using hb
 subst e
 exact I1.fpOk (aaO _) (I1.hok.fresh (aaO _))
theorem ack{l:Expr}{tl:TE}(hl:PE X l tl):PI X tg l (ani X.K tl):=by
 intro pins s σ H R I h
 refine cZ (hl pins s σ H _ I h) λv s1 ⟨x,H1,I1,r1,q1⟩=>?_
 obtain⟨a,e,⟨xs,hq⟩,q⟩:=q1
 subst e
 cases r1
 obtain⟨its,rv,p,hz⟩:=I1.tuple hq
 refine wpAny_pyIter_tuple (show s1.heap.IsTuple a its.toArray from p) ?_
 refine⟨s1.heap.objs.size,[s1.heap.objs.size],_,_,H1,rfl,I1.kept (t':=s1.toks) λb o e=>Heap.get?_push_of_some _ e,Lf a _,⟨_,aez _ rfl,rfl,rfl⟩,λb hb=>?_,q⟩
 have e:b=s1.heap.objs.size:=by simpa using hb
 subst e
 exact I1.fpOk (aaO _) (I1.hok.fresh (aaO _))
theorem Wa{pins:List (Addr×Obj)}{σ:St}{H:Hp}{s:Shared}{R:It->Hp->Prop}{E:Value->Shared->Prop}{lo hi:Int}{t u v:Tok}{tk:Nat}(I:Inv X pins σ H s)(h1: -(2^62)≤lo)(h2:lo<2^62)(h3: -(2^62)≤hi)(h4:hi<2^62)
  (q:R (Itr lo (hi-lo).toNat) H):wpAny (model X.prog X.w) X.A (pyIter (.ref s.heap.objs.size)) (PIE X pins σ tg R) E {s with heap:=s.heap.push {cls:=.type "range",data:=.fields #[.int lo t,.int hi u,.int 1 v]},toks:=tk}:=by
 refine wpAny_pyIter_range (IsRange.new ..) (small_one h1 h2 h3 h4) ?_
 have I1:Inv X pins σ H {s with heap:=s.heap.push {cls:=.type "range",data:=.fields #[.int lo t,.int hi u,.int 1 v]},toks:=tk}:=I.kept λb o e=>Heap.get?_push_of_some _ e
 refine⟨(s.heap.push {cls:=.type "range",data:=.fields #[.int lo t,.int hi u,.int 1 v]}).objs.size,[(s.heap.push {cls:=.type "range",data:=.fields #[.int lo t,.int hi u,.int 1 v]}).objs.size],_,_,H,rfl,
  I1.kept (t':=tk) λb o e=>Heap.get?_push_of_some _ e,KY _ lo (hi-lo).toNat,?_,λb hb=>?_,q⟩
 .have e1:lo+((0:Nat):Int)*1=lo:=by simp
  have e2:(((hi-lo).toNat:Nat):Int)-((0:Nat):Int)=Builtin.Range.rangeSize lo hi 1:=by rw[rangeSize_one];split <;>omega
  show IsRangeIter _ _ (lo+((0:Nat):Int)*1) ((((hi-lo).toNat:Nat):Int)-((0:Nat):Int)) 1
  rw[e1,e2]
  exact aez _ rfl
 .have e:b=(s.heap.push {cls:=.type "range",data:=.fields #[.int lo t,.int hi u,.int 1 v]}).objs.size:=by simpa using hb
  subst e
  exact I1.fpOk (aaO _) (I1.hok.fresh (aaO _))
def agc(ta:TA):TI:=λσ H R=>ta σ H λvs H1=>∃j:Int,vs=[.int j]/\ -(2^62)≤j/\j<2^62/\R (Itr 0 j.toNat) H1
theorem Ql{a:Expr}{ta:TA}{p pos:Pos}(hg:Gl X "range")(hm:X.mg "range"=none)(ha:PA X [a] ta)(hs:starEach [a] X.env=[(false,eval a X.env)]:=by rfl):PI X tg (.Call (.Name "range" p) [a] [] pos) (agc ta):=by
 intro pins s σ H R I h
 refine Call_ (uI I hg hm boot_range (PyProof.Rows.callWith_type1 (cZ (ha pos pins s σ H _ I h) λus s1 ⟨vs,H1,I1,r1,q1⟩=>?_) hs rfl))
 obtain⟨j,e,q1,q2,q⟩:=q1
 subst e
 cases r1 with
 |cons r rr=>
  cases rr
  obtain⟨t,rfl⟩:=r
  exact call_range_1 (Wa I1 (by omega) (by omega) q1 q2 (by simpa using q))
def ase(wi:TI)(g:TG)(tb:TS):TS:=λD σ H=>wi σ H λJ H1=>∃W:Nat->Nat->St->Hp->Prop,(∃m,W 0 m σ H1)/\∀i m σ H,W i m σ H->
 (J.stop i H/\D.nx σ H)\/(J.go i H/\∃N:St->Hp->Prop,(∀σ' H',N σ' H'->∃m',m'<m/\W (i+1) m' σ' H')/\∀x H',J.yld i H x H'->g x σ H' λσ2 H2=>tb {D with nx:=N,ct:=N,bk:=D.nx} σ2 H2)
def xW(fp:List Addr)(h:Heap):List (Addr×Obj):=fp.filterMap λb=>(h.get? b).map λo=>(b,o)
theorem jJ{fp:List Addr}{h:Heap}{b:Addr}{o:Obj}(hb:b∈fp)(e:h.get? b=some o):(b,o)∈xW fp h:=akm.mpr ⟨b,hb,by rw[e];rfl⟩
theorem Qv{fp:List Addr}{h:Heap}{p:Addr×Obj}(hp:p∈xW fp h):p.1∈fp/\h.get? p.1=some p.2:=by
 obtain⟨b,hb,e⟩:=akm.mp hp
 cases q:h.get? b with
 |none=>rw[q]at e;cases e
 |some o=>
  rw[q]at e
  have e':(b,o)=p:=Option.some.inj e
  subst e'
  exact⟨hb,q⟩
theorem Inv.pinned{pins:List (Addr×Obj)}{σ:St}{H:Hp}{s:Shared}{fp:List Addr}(I:Inv X pins σ H s)(hf:∀b∈fp,nO X pins H b)(ho:∀b∈fp,∃o,s.heap.get? b=some o/\∀v,o.data≠ .cell v):Inv X (pins++xW fp s.heap) σ H s:=
 I.pins_of λp hp=>(aeC.mp hp).elim (λz=>I.pin p (aew _ z)) λz=>by
  obtain⟨hb,e⟩:=Qv z
  obtain⟨f0,f1,f2,_⟩:=hf p.1 hb
  obtain⟨o,e',d⟩:=ho p.1 hb
  rw[e]at e';cases e'
  exact⟨e,f0,f1,f2,d⟩
theorem Inv.unpinned{pins pl:List (Addr×Obj)}{σ:St}{H:Hp}{s:Shared}(I:Inv X (pins++pl) σ H s):Inv X pins σ H s:=I.pins_of λp hp=>I.pin p (aew _ (agY _ hp))
theorem abM{iter:Expr}{body:List Stmt}{wi:TI}{g:TG}{tb:TS}{pos:Pos}(hp:PassesOwn (model X.prog X.w) X.A X.env X.xe)(hc:X.calm=true)(hi:PI X tg iter wi)(hg:PG X tg g)(hb:Wv X body tb)
  (hs:∀x,foldedSetIterable iter X.env x=pure x:=by intro _;rfl):PS X (.For tg iter body [] pos) (ase wi g tb):=by
 intro pins s σ H D I h
 refine wpAny_For (cZ (hi pins s σ H _ I h) λv s1 h1=>cZ h1 λitv s2 h2=>?_) hs
 obtain⟨it,fp,tn,J,H2,e,I2,T,st2,f2,W,⟨m0,w0⟩,turn⟩:=h2
 subst e
 have stat:∀{H':Hp},(∀b∈fp,H' b=none)->∀b∈fp,nO X pins H' b:=λhn b hb=>⟨hn b hb,(f2 b hb).2⟩
 refine codeAny_forLoop_any (λn s'=>∃i σ' H',Inv X pins σ' H' s'/\tn i s'.heap/\(∀b∈fp,H' b=none)/\W i n σ' H') ?_ m0 ⟨0,σ,H2,I2,st2,λb hb=>(f2 b hb).1,w0⟩
 rintro n s3 ⟨i,σ3,H3,I3,st3,fr3,w3⟩
 rcases turn i n σ3 H3 w3 with⟨stop,qn⟩ |⟨go,N,hN,step⟩
 .refine wpAny_passesOwn hp (cZ (T.done X rfl rfl rfl hc i pins s3 σ3 H3 X.xe I3 (stat fr3) st3 stop) λr s4 ⟨hr,I4⟩=>?_)
  subst hr
  exact wpAny_execs_nil ⟨σ3,H3,I4,qn⟩
 .refine wpAny_passesOwn hp (cZ (T.item X rfl rfl rfl hc i pins s3 σ3 H3 X.xe I3 (stat fr3) st3 go) λr s4 ⟨u,hr,h4⟩=>?_)
  subst hr
  refine wpAny_passesOwn hp (cZ h4 λ_ s5 ⟨x,H5,I5,r5,y5,st5,fr5⟩=>?_)
  have I5':=I5.pinned (stat fr5) (T.obj _ _ st5)
  refine wpAny_passesOwn hp (cZ (hg _ s5 σ3 H5 x u _ I5' r5 (step x H5 y5)) λ_ s6 ⟨σ6,H6,I6,q6⟩=>?_)
  refine wpAny_passesOwn hp (cZ (hb _ s6 σ6 H6 _ I6 q6) λf s7 q7=>?_)
  have again:∀{σ7:St} {H7:Hp},Inv X (pins++xW fp s5.heap) σ7 H7 s7->N σ7 H7->∃m,m<n/\∃i σ' H',Inv X pins σ' H' s7/\tn i s7.heap/\(∀b∈fp,H' b=none)/\W i m σ' H':=λ{σ7 H7} I7 n7=>by
   obtain⟨m',hm,w7⟩:=hN σ7 H7 n7
   refine⟨m',hm,i+1,σ7,H7,I7.unpinned,T.keep _ _ _ st5 λb hb o e=>(I7.pin (b,o) (aew _ (aew _ (jJ hb e)))).1,λb hb=>?_,w7⟩
   obtain⟨o,e,d⟩:=T.obj _ _ st5 b hb
   exact(I7.pin (b,o) (aew _ (aew _ (jJ hb e)))).2.1
  cases f with
  |next=>obtain⟨σ7,H7,I7,n7⟩:=q7;exact again I7 n7
  |cont=>obtain⟨σ7,H7,I7,n7⟩:=q7;exact again I7 n7
  |brk=>obtain⟨σ7,H7,I7,q7⟩:=q7;exact⟨σ7,H7,I7.unpinned,q7⟩
  |ret v=>obtain⟨x7,σ7,H7,I7,r7,q7⟩:=q7;exact⟨x7,σ7,H7,I7.unpinned,r7,q7⟩
end
theorem Wc{K:PySem.W.Frag}{a:Addr}{xs:List V}{g:TG}{tb:TS}{D:Ends}{σ:St}{H:Hp}(Pv:Nat->St->Hp->Prop)(h0:Pv 0 σ H)(hl:∀i σ H,i≤xs.length->Pv i σ H->aX K H a xs)
  (hs:∀i x σ H,xs[i]? =some x->Pv i σ H->g x σ H λσ2 H2=>tb {D with nx:=Pv (i+1),ct:=Pv (i+1),bk:=D.nx} σ2 H2) (hd:∀σ H,Pv xs.length σ H->D.nx σ H):
  ∃W:Nat->Nat->St->Hp->Prop,(∃m,W 0 m σ H)/\∀i m σ H,W i m σ H->
   ((YT K a).stop i H/\D.nx σ H)\/((YT K a).go i H/\∃N:St->Hp->Prop,(∀σ' H',N σ' H'->∃m',m'<m/\W (i+1) m' σ' H')/\∀x H',(YT K a).yld i H x H'->g x σ H' λσ2 H2=>tb {D with nx:=N,ct:=N,bk:=D.nx} σ2 H2):=by
 refine⟨λi m σ H=>m=xs.length-i/\i≤xs.length/\Pv i σ H,⟨xs.length,by simp,ahE _,h0⟩,?_⟩
 rintro i m σ H ⟨rfl,hi,p⟩
 have q:=hl i σ H hi p
 by_cases hlt:i<xs.length
 .refine .inr ⟨⟨xs,xs[i],q,by simp[hlt]⟩,Pv (i+1),λσ' H' p'=>⟨xs.length-(i+1),by omega,rfl,hlt,p'⟩,λx H' y=>?_⟩
  obtain⟨e,y⟩:=y
  subst e
  exact hs i x σ _ (y xs q) p
 .have e:i=xs.length:=by omega
  subst e
  exact .inl ⟨⟨xs,q,aaO _⟩,hd σ H p⟩
theorem WM{K:PySem.W.Frag}{a:Addr}{xs:List V}{g:TG}{tb:TS}{D:Ends}{σ:St}{H:Hp}(Pv:Nat->St->Hp->Prop)(h0:Pv 0 σ H)(hl:∀i σ H,i≤xs.length->Pv i σ H->dg K H a xs)
  (hs:∀i x σ H,xs[i]? =some x->Pv i σ H->g x σ H λσ2 H2=>tb {D with nx:=Pv (i+1),ct:=Pv (i+1),bk:=D.nx} σ2 H2) (hd:∀σ H,Pv xs.length σ H->D.nx σ H):
  ∃W:Nat->Nat->St->Hp->Prop,(∃m,W 0 m σ H)/\∀i m σ H,W i m σ H->
   ((Itt K a).stop i H/\D.nx σ H)\/((Itt K a).go i H/\∃N:St->Hp->Prop,(∀σ' H',N σ' H'->∃m',m'<m/\W (i+1) m' σ' H')/\∀x H',(Itt K a).yld i H x H'->g x σ H' λσ2 H2=>tb {D with nx:=N,ct:=N,bk:=D.nx} σ2 H2):=by
 refine⟨λi m σ H=>m=xs.length-i/\i≤xs.length/\Pv i σ H,⟨xs.length,by simp,ahE _,h0⟩,?_⟩
 rintro i m σ H ⟨rfl,hi,p⟩
 have q:=hl i σ H hi p
 by_cases hlt:i<xs.length
 .refine .inr ⟨⟨xs,xs[i],q,by simp[hlt]⟩,Pv (i+1),λσ' H' p'=>⟨xs.length-(i+1),by omega,rfl,hlt,p'⟩,λx H' y=>?_⟩
  obtain⟨e,y⟩:=y
  subst e
  exact hs i x σ _ (y xs q) p
 .have e:i=xs.length:=by omega
  subst e
  exact .inl ⟨⟨xs,q,aaO _⟩,hd σ H p⟩
theorem Qh{lo:Int}{n:Nat}{g:TG}{tb:TS}{D:Ends}{σ:St}{H:Hp}(Pv:Nat->St->Hp->Prop)(h0:Pv 0 σ H)
  (hs:∀i σ H,i<n->Pv i σ H->g (.int (lo+i)) σ H λσ2 H2=>tb {D with nx:=Pv (i+1),ct:=Pv (i+1),bk:=D.nx} σ2 H2) (hd:∀σ H,Pv n σ H->D.nx σ H):
  ∃W:Nat->Nat->St->Hp->Prop,(∃m,W 0 m σ H)/\∀i m σ H,W i m σ H->
   ((Itr lo n).stop i H/\D.nx σ H)\/((Itr lo n).go i H/\∃N:St->Hp->Prop,(∀σ' H',N σ' H'->∃m',m'<m/\W (i+1) m' σ' H')/\∀x H',(Itr lo n).yld i H x H'->g x σ H' λσ2 H2=>tb {D with nx:=N,ct:=N,bk:=D.nx} σ2 H2):=by
 refine⟨λi m σ H=>m=n-i/\i≤n/\Pv i σ H,⟨n,by simp,ahE _,h0⟩,?_⟩
 rintro i m σ H ⟨rfl,hi,p⟩
 by_cases hlt:i<n
 .refine .inr ⟨hlt,Pv (i+1),λσ' H' p'=>⟨n-(i+1),by omega,rfl,hlt,p'⟩,λx H' y=>?_⟩
  obtain⟨e,y⟩:=y
  subst e y
  exact hs i σ _ hlt p
 .have e:i=n:=by omega
  subst e
  exact .inl ⟨aaO _,hd σ H p⟩
abbrev R2:=V->V->Hp->VK->Prop
def wZ(X:Cx)(f:Value->Value->Sem Value)(r:R2):Prop:=
 ∀(pins:List (Addr×Obj)) (s:Shared) (σ:St) (H:Hp) (x y:V) (v u:Value) (Q:VK),Inv X pins σ H s->RelV x v->RelV y u->r x y H Q->
  wpAny (model X.prog X.w) X.A (f v u) (EP X pins σ Q) X.xe s
def UnR(X:Cx)(f:Value->Sem Value)(r:V->Hp->VK->Prop):Prop:=
 ∀(pins:List (Addr×Obj)) (s:Shared) (σ:St) (H:Hp) (x:V) (v:Value) (Q:VK),Inv X pins σ H s->RelV x v->r x H Q->
  wpAny (model X.prog X.w) X.A (f v) (EP X pins σ Q) X.xe s
def uf(X:Cx)(f:Value)(r:List V->Hp->VK->Prop):Prop:=
 ∀(pins:List (Addr×Obj)) (s:Shared) (σ:St) (H:Hp) (xs:List V) (us:List Value) (Q:VK),Inv X pins σ H s->Vals xs us->r xs H Q->
  wpAny (model X.prog X.w) X.A (call f us) (EP X pins σ Q) X.xe s
def amt(X:Cx)(r:V->Hp->(Bool->Hp->Prop)->Prop):Prop:=
 ∀(pins:List (Addr×Obj)) (s:Shared) (σ:St) (H:Hp) (x:V) (v:Value) (Q:Bool->Hp->Prop),Inv X pins σ H s->RelV x v->r x H Q->
  wpAny (model X.prog X.w) X.A (truthy v) (TP X pins σ Q) X.xe s
def tOp(r:R2)(ta tb:TE):TE:=λσ H Q=>ta σ H λx H1=>tb σ H1 λy H2=>r x y H2 Q
def tUn(r:V->Hp->VK->Prop)(ta:TE):TE:=λσ H Q=>ta σ H λx H1=>r x H1 Q
def rI(C:Int->Int->Prop)(g:Int->Int->V):R2:=λx y H Q=>∃i j,x= .int i/\y= .int j/\C i j/\Q (g i j) H
def ZL(g:Int->Int->V):R2:=λx y H Q=>∃i j,x= .int i/\y= .int j/\Q (g i j) H
def rU(g:Int->V):V->Hp->VK->Prop:=λx H Q=>∃i,x= .int i/\Q (g i) H
section
variable{X:Cx}{a b c:Expr}{ta tb tc:TE}{pos:Pos}
theorem abm(ha:PE X a ta)(hb:PE X b tb){pins:List (Addr×Obj)}{s:Shared}{σ:St}{H:Hp}{R:V->V->Hp->Prop}(I:Inv X pins σ H s)
  (h:ta σ H λx H1=>tb σ H1 λy H2=>R x y H2) {Q:Value->Shared->Prop} {f:Value->Value->Sem Value}
  (hf:∀v u s2 x y H2,Inv X pins σ H2 s2->RelV x v->RelV y u->R x y H2->wpAny (model X.prog X.w) X.A (f v u) Q X.xe s2):
  wpAny (model X.prog X.w) X.A (eval a X.env) (λv s₁=>wpAny (model X.prog X.w) X.A (eval b X.env) (λu s₂=>wpAny (model X.prog X.w) X.A (f v u) Q X.xe s₂) X.xe s₁) X.xe s:=by
 refine cZ (ha pins s σ H _ I h) λv s1 ⟨x,H1,I1,r1,q1⟩=>?_
 refine cZ (hb pins s1 σ H1 _ I1 q1) λu s2 ⟨y,H2,I2,r2,q2⟩=>?_
 exact hf v u s2 x y H2 I2 r1 r2 q2
theorem ajT{op:Operator}{r:R2}(ho:wZ X (binaryOp op) r)(ha:PE X a ta)(hb:PE X b tb):PE X (.BinOp a op b pos) (tOp r ta tb):=by
 intro pins s σ H Q I h
 exact wpAny_BinOp (abm ha hb I h λv u s2 x y H2 I2 rx ry q=>ho pins s2 σ H2 x y v u Q I2 rx ry q)
theorem ae8{op:UnaryOp}{r:V->Hp->VK->Prop}(ho:UnR X (unaryOp op) r)(ha:PE X a ta):PE X (.UnaryOp op a pos) (tUn r ta):=by
 intro pins s σ H Q I h
 exact UnaryOp_ (cZ (ha pins s σ H _ I h) λv s1 ⟨x,H1,I1,r1,q1⟩=>ho pins s1 σ H1 x v Q I1 r1 q1)
theorem opI{f:Value->Value->Sem Value}{C:Int->Int->Prop}{g:Int->Int->Int}
  (rule:∀(i j:Int) (t u:Tok) (s:Shared) (Q:Value->Shared->Prop) (E:Value->Shared->Prop),C i j->Q (.int (g i j) s.toks) {s with toks:=s.toks+1}->wpAny (model X.prog X.w) X.A (f (.int i t) (.int j u)) Q E s):
  wZ X f (rI C λi j=>.int (g i j)):=by
 intro pins s σ H x y v u Q I rx ry h
 obtain⟨i,j,rfl,rfl,hc,q⟩:=h
 obtain⟨t,rfl⟩:=rx
 obtain⟨t',rfl⟩:=ry
 exact rule i j t t' s _ _ hc ⟨.int (g i j),H,I.tok _,⟨_,rfl⟩,q⟩
theorem ahj{f:Value->Value->Sem Value}{g:Int->Int->Int}
  (rule:∀(i j:Int) (t u:Tok) (s:Shared) (Q:Value->Shared->Prop) (E:Value->Shared->Prop),Q (.int (g i j) s.toks) {s with toks:=s.toks+1}->wpAny (model X.prog X.w) X.A (f (.int i t) (.int j u)) Q E s):
  wZ X f (ZL λi j=>.int (g i j)):=by
 intro pins s σ H x y v u Q I rx ry h
 obtain⟨i,j,rfl,rfl,q⟩:=h
 obtain⟨t,rfl⟩:=rx
 obtain⟨t',rfl⟩:=ry
 exact rule i j t t' s _ _ ⟨.int (g i j),H,I.tok _,⟨_,rfl⟩,q⟩
theorem Xj{f:Value->Value->Sem Value}{g:Int->Int->Bool}
  (rule:∀(i j:Int) (t u:Tok) (s:Shared) (Q:Value->Shared->Prop) (E:Value->Shared->Prop),Q (.bool (g i j)) s->wpAny (model X.prog X.w) X.A (f (.int i t) (.int j u)) Q E s):
  wZ X f (ZL λi j=>.bl (g i j)):=by
 intro pins s σ H x y v u Q I rx ry h
 obtain⟨i,j,rfl,rfl,q⟩:=h
 obtain⟨t,rfl⟩:=rx
 obtain⟨t',rfl⟩:=ry
 exact rule i j t t' s _ _ ⟨.bl (g i j),H,I,rfl,q⟩
def aje(i j:Int):Prop:=0<j/\j<1073741824
def agQ(i j:Int):Prop:=0≤j/\j≤1000000/\i.natAbs<2^64
def Zi(i j:Int):Prop:=(-(2^64)<i/\i<2^64)\/(-(2^64)<j/\j<2^64)
theorem Zi.ok{i j:Int}(h:Zi i j):IntMulOk i j:=by
 rcases h with⟨h1,h2⟩ |⟨h1,h2⟩
 .exact .of_left (intBits_le_64 h1 h2)
 .exact .of_right (intBits_le_64 h1 h2)
theorem aaF:wZ X (binaryOp .Add) (ZL λi j=>.int (i+j)):=ahj λ_ _ _ _ _ _ _ q=>add_int q
theorem acE:wZ X (binaryOp .Sub) (ZL λi j=>.int (i-j)):=ahj λ_ _ _ _ _ _ _ q=>sub_int q
theorem adL:wZ X (binaryOp .Mult) (rI Zi λi j=>.int (i*j)):=opI λ_ _ _ _ _ _ _ hc q=>mul_int q hc.ok
theorem WL:wZ X (binaryOp .FloorDiv) (rI aje λi j=>.int (i / j)):=opI λi j _ _ _ _ _ hc q=>by
 have h1:(0:Int)<j:=hc.1
 have h2:j<1073741824:=hc.2
 exact floordiv_int (by omega) (by rw[Int.fdiv_eq_ediv_of_nonneg i (by omega)];exact q) (.inl (PyProof.noPylong_small (by omega)))
theorem abk:wZ X (binaryOp .Mod) (rI (λ_ j=>0<j) λi j=>.int (i % j)):=opI λi j _ _ _ _ _ hc q=>by
 have h1:(0:Int)<j:=hc
 exact mod_int' (by omega) (by rw[Int.fmod_eq_emod_of_nonneg i (by omega)];exact q)
theorem abg:wZ X (binaryOp .Pow) (rI agQ λi j=>.int (i^j.toNat)):=opI λ_ _ _ _ _ _ _ hc q=>pow_int_small hc.1 hc.2.1 hc.2.2 q
theorem unI{f:Value->Sem Value}{g:Int->Int}
  (rule:∀(i:Int) (t:Tok) (s:Shared) (Q:Value->Shared->Prop) (E:Value->Shared->Prop),Q (.int (g i) s.toks) {s with toks:=s.toks+1}->wpAny (model X.prog X.w) X.A (f (.int i t)) Q E s):
  UnR X f (rU λi=>.int (g i)):=by
 intro pins s σ H x v Q I rx h
 obtain⟨i,rfl,q⟩:=h
 obtain⟨t,rfl⟩:=rx
 exact rule i t s _ _ ⟨.int (g i),H,I.tok _,⟨_,rfl⟩,q⟩
theorem acJ:UnR X (unaryOp .USub) (rU λi=>.int (-i)):=unI λ_ _ _ _ _ q=>neg_int q
end
def Zn:V->V->Bool
 | .non,.non=>true | .non,.int _=>true | .int _,.non=>true | .non,.bl _=>true | .bl _,.non=>true | .non,.str _=>true | .str _,.non=>true
 | .int _,.int _=>true | .bl _,.bl _=>true | .str _,.str _=>true | .byt _,.byt _=>true
 | .int _,.str _=>true | .str _,.int _=>true | .bl _,.str _=>true | .str _,.bl _=>true
 |_,_=>false
def rEq:R2:=λx y H Q=>Zn x y=true/\Q (.bl (decide (x=y))) H
def rNe:R2:=λx y H Q=>Zn x y=true/\Q (.bl (!decide (x=y))) H
theorem Mv{i j:Int}:decide (V.int i=V.int j)=(i==j):=by
 rw[ail]
 simp
theorem VL{i j:Bool}:decide (V.bl i=V.bl j)=(i==j):=by
 rw[ail]
 simp
theorem Li{i j:Str}:decide (V.str i=V.str j)=(i==j):=by
 rw[ail]
 simp
theorem Nz{i j:Array UInt8}:decide (V.byt i=V.byt j)=(i.toList==j.toList):=by
 rw[ail]
 cases i
 cases j
 simp
section
variable{X:Cx}{a b c:Expr}{ta tb tc:TE}{pos:Pos}
theorem cB{pins:List (Addr×Obj)}{σ:St}{H:Hp}{s:Shared}{Q:VK}{k k':Bool}(I:Inv X pins σ H s)(q:Q (.bl k) H)(e:k=k'):EP X pins σ Q (.bool k') s:=by
 subst e
 exact⟨.bl k,H,I,rfl,q⟩
theorem ags:wZ X (compareOp .Eq) rEq:=by
 intro pins s σ H x y v u Q I rx ry h
 obtain⟨hs,q⟩:=h
 cases x with
 |non=>
  cases rx
  cases y with
  |non=>cases ry;exact PySem.EqNone.eq_none_none (cB I q (by simp))
  |bl j=>cases ry;exact PySem.EqNone.eq_none_bool (cB I q (by simp))
  |int j=>obtain⟨t',rfl⟩:=ry;exact PySem.EqNone.eq_none_int (cB I q (by simp))
  |str j=>obtain⟨t',rfl⟩:=ry;exact PySem.EqNone.eq_none_str (cB I q (by simp))
  |_=>exact absurd (show false=true from hs) abX
 |bl i=>
  cases rx
  cases y with
  |non=>cases ry;exact PySem.EqNone.eq_bool_none (cB I q (by simp))
  |bl j=>cases ry;exact eq_bool (cB I q VL)
  |str j=>obtain⟨t',rfl⟩:=ry;exact PySem.EqMixed.eq_bool_str (cB I q (by simp))
  |_=>exact absurd (show false=true from hs) abX
 |int i=>
  obtain⟨t,rfl⟩:=rx
  cases y with
  |non=>cases ry;exact PySem.EqNone.eq_int_none (cB I q (by simp))
  |int j=>obtain⟨t',rfl⟩:=ry;exact eq_int (cB I q Mv)
  |str j=>obtain⟨t',rfl⟩:=ry;exact PySem.EqMixed.eq_int_str (cB I q (by simp))
  |_=>exact absurd (show false=true from hs) abX
 |str i=>
  obtain⟨t,rfl⟩:=rx
  cases y with
  |non=>cases ry;exact PySem.EqNone.eq_str_none (cB I q (by simp))
  |bl j=>cases ry;exact PySem.EqMixed.eq_str_bool (cB I q (by simp))
  |int j=>obtain⟨t',rfl⟩:=ry;exact PySem.EqMixed.eq_str_int (cB I q (by simp))
  |str j=>obtain⟨t',rfl⟩:=ry;exact eq_str (cB I q Li)
  |_=>exact absurd (show false=true from hs) abX
 |byt i=>
  obtain⟨t,rfl⟩:=rx
  cases y with
  |byt j=>obtain⟨t',rfl⟩:=ry;exact W.eq_bytes (cB I q Nz)
  |_=>exact absurd (show false=true from hs) abX
 |_=>cases y<;>exact absurd (show false=true from hs) abX
theorem aeW:wZ X (compareOp .NotEq) rNe:=by
 intro pins s σ H x y v u Q I rx ry h
 obtain⟨hs,q⟩:=h
 cases x with
 |non=>
  cases rx
  cases y with
  |non=>cases ry;exact PySem.EqNone.ne_none_none (cB I q (by simp))
  |bl j=>cases ry;exact PySem.EqNone.ne_none_bool (cB I q (by simp))
  |int j=>obtain⟨t',rfl⟩:=ry;exact PySem.EqNone.ne_none_int (cB I q (by simp))
  |str j=>obtain⟨t',rfl⟩:=ry;exact PySem.EqNone.ne_none_str (cB I q (by simp))
  |_=>exact absurd (show false=true from hs) abX
 |bl i=>
  cases rx
  cases y with
  |non=>cases ry;exact PySem.EqNone.ne_bool_none (cB I q (by simp))
  |bl j=>cases ry;exact ne_bool (cB I q (congrArg not VL))
  |str j=>obtain⟨t',rfl⟩:=ry;exact PySem.EqMixed.ne_bool_str (cB I q (by simp))
  |_=>exact absurd (show false=true from hs) abX
 |int i=>
  obtain⟨t,rfl⟩:=rx
  cases y with
  |non=>cases ry;exact PySem.EqNone.ne_int_none (cB I q (by simp))
  |int j=>obtain⟨t',rfl⟩:=ry;exact ne_int (cB I q (congrArg not Mv))
  |str j=>obtain⟨t',rfl⟩:=ry;exact PySem.EqMixed.ne_int_str (cB I q (by simp))
  |_=>exact absurd (show false=true from hs) abX
 |str i=>
  obtain⟨t,rfl⟩:=rx
  cases y with
  |non=>cases ry;exact PySem.EqNone.ne_str_none (cB I q (by simp))
  |bl j=>cases ry;exact PySem.EqMixed.ne_str_bool (cB I q (by simp))
  |int j=>obtain⟨t',rfl⟩:=ry;exact PySem.EqMixed.ne_str_int (cB I q (by simp))
  |str j=>obtain⟨t',rfl⟩:=ry;exact ne_str (cB I q (congrArg not Li))
  |_=>exact absurd (show false=true from hs) abX
 |byt i=>
  obtain⟨t,rfl⟩:=rx
  cases y with
  |byt j=>obtain⟨t',rfl⟩:=ry;exact W.ne_bytes (cB I q (congrArg not Nz))
  |_=>exact absurd (show false=true from hs) abX
 |_=>cases y<;>exact absurd (show false=true from hs) abX
theorem ajC:wZ X (compareOp .Lt) (ZL λi j=>.bl (decide (i<j))):=Xj λ_ _ _ _ _ _ _ q=>lt_int q
theorem ahR:wZ X (compareOp .LtE) (ZL λi j=>.bl (decide (i≤j))):=Xj λ_ _ _ _ _ _ _ q=>le_int q
theorem aeX:wZ X (compareOp .Gt) (ZL λi j=>.bl (decide (j<i))):=Xj λ_ _ _ _ _ _ _ q=>gt_int q
theorem ahY:wZ X (compareOp .GtE) (ZL λi j=>.bl (decide (j≤i))):=Xj λ_ _ _ _ _ _ _ q=>ge_int q
theorem QZ:wZ X (compareOp .In) (λx y H Q=>∃i j,x= .str i/\y= .str j/\Q (.bl (!(Builtin.Str.occurrences j i 0 j.length 1).isEmpty)) H):=by
 intro pins s σ H x y v u Q I rx ry h
 obtain⟨i,j,rfl,rfl,q⟩:=h
 obtain⟨t,rfl⟩:=rx
 obtain⟨t',rfl⟩:=ry
 exact in_str (cB I q rfl)
theorem ab3:wZ X (compareOp .Is) (λx y H Q=>y= .non/\Q (.bl (decide (x= .non))) H):=by
 intro pins s σ H x y v u Q I rx ry h
 obtain⟨rfl,q⟩:=h
 cases ry
 refine is_none_gen (cB I q ?_)
 cases x<;>first
  |(cases rx;rfl)
  |(obtain⟨t,rfl⟩:=rx;rfl)
theorem Vq(b:Expr){op:CmpOp}(h:op≠ .In:=by decide)(h2:op≠ .NotIn:=by decide):behindInMarks op b=false:=by
 have e1:(op==CmpOp.In)=false:=by cases op<;>first |rfl |exact absurd rfl h
 have e2:(op==CmpOp.NotIn)=false:=by cases op<;>first |rfl |exact absurd rfl h2
 cases b<;>simp[behindInMarks,e1,e2]
theorem WY{op:CmpOp}{r:R2}(ho:wZ X (compareOp op) r)(ha:PE X a ta)(hb:PE X b tb)(hm:behindInMarks op b=false):PE X (.Compare a [op] [b] pos) (tOp r ta tb):=by
 intro pins s σ H Q I h
 exact wpAny_Compare1 (abm ha hb I h λv u s2 x y H2 I2 rx ry q=>ho pins s2 σ H2 x y v u Q I2 rx ry q) hm
def agE(t:TE):TT:=λσ H Q=>t σ H λx H'=>∃k,x= .bl k/\Q k H'
theorem YM{op:CmpOp}{r:R2}(ho:wZ X (compareOp op) r)(ha:PE X a ta)(hb:PE X b tb)(hm:behindInMarks op b=false):PT X (.Compare a [op] [b] pos) (agE (tOp r ta tb)):=by
 intro pins s σ H Q I h
 refine wpAny_isTrue_Compare1 (cZ (ha pins s σ H _ I h) λv s1 ⟨x,H1,I1,r1,q1⟩=>cZ (hb pins s1 σ H1 _ I1 q1) λu s2 ⟨y,H2,I2,r2,q2⟩=>
  cZ (ho pins s2 σ H2 x y v u _ I2 r1 r2 q2) λc s3 ⟨z,H3,I3,r3,k,e,q3⟩=>?_) hm
 subst e
 cases r3
 exact wpAny_truthy_bool ⟨H3,I3,q3⟩
def Yc(K:acF)(x:V)(H:Hp)(k:Bool):Prop:=
 match x with
 | .non=>k=false
 | .bl b=>k=b
 | .int i=>k=(i !=0)
 | .str y=>y.length≤sizeLine/\k=((y.length:Int) !=0)
 | .byt y=>y.size≤sizeLine/\k=((y.size:Int) !=0)
 | .ref p=>(∃xs,aX K H p xs/\k= !xs.isEmpty)\/(∃xs,dg K H p xs/\k= !xs.isEmpty)\/∃kvs,H p=some (.dK kvs)/\k= !kvs.isEmpty
 |_=>False
theorem Ja{κ:Type}{kvs:List (κ×V)}{vs:List (κ×Value)}(r:KV kvs vs):(!vs.isEmpty)= !kvs.isEmpty:=by
 cases r<;>rfl
theorem zX{xs:List V}{its:List Value}(r:Vals xs its):(!its.toArray.isEmpty)= !xs.isEmpty:=by
 cases r<;>simp
theorem uR:(sizeLine:Nat)<2^63:=by rw[sizeLine_eq];decide
theorem aa8:amt X (λx H Q=>∃k,Yc X.K x H k/\Q k H):=by
 intro pins s σ H x v Q I rx h
 obtain⟨k,e,q⟩:=h
 have hl:=uR
 have hs:sizeLine=16777216:=sizeLine_eq
 cases x with
 |non=>
  cases rx
  have e':k=false:=e
  subst e'
  exact truthy_none ⟨H,I,q⟩
 |bl b=>
  cases rx
  have e':k=b:=e
  subst e'
  exact wpAny_truthy_bool ⟨H,I,q⟩
 |int i=>
  obtain⟨t,rfl⟩:=rx
  have e':k=(i !=0):=e
  subst e'
  exact PySem.P.truthy_int ⟨H,I,q⟩
 |str y=>
  obtain⟨t,rfl⟩:=rx
  obtain⟨hy,e'⟩:y.length≤sizeLine/\k=((y.length:Int) !=0):=e
  subst e'
  exact PySem.P.truthy_str (by omega) ⟨H,I.tok _,q⟩
 |byt y=>
  obtain⟨t,rfl⟩:=rx
  obtain⟨hy,e'⟩:y.size≤sizeLine/\k=((y.size:Int) !=0):=e
  subst e'
  exact W.truthy_bytes (by omega) ⟨H,I.tok _,q⟩
 |ref p=>
  cases rx
  have e':(∃xs,aX X.K H p xs/\k= !xs.isEmpty)\/(∃xs,dg X.K H p xs/\k= !xs.isEmpty)\/∃kvs,H p=some (.dK kvs)/\k= !kvs.isEmpty:=e
  rcases e' with⟨xs,hx,e'⟩ |⟨xs,hx,e'⟩ |⟨kvs,hx,e'⟩
  .subst e'
   obtain⟨its,r,pl,hz⟩:=I.list hx
   have hlen:=r.length
   exact wpAny_truthy_list pl.isList (by simp only[abY];omega) ⟨H,I.tok _,by rw[zX r];exact q⟩
  .subst e'
   obtain⟨its,r,pl,hz⟩:=I.tuple hx
   have hlen:=r.length
   exact truthy_tuple pl (by simp only[abY];omega) ⟨H,I.tok _,by rw[zX r];exact q⟩
  .subst e'
   obtain⟨hz,hS,vs,r,m⟩:kvs.length≤sizeLine/\(p==sysModules)=false/\∃vs,KV kvs vs/\s.heap.DictOf (Fw X.prog X.w) p vs:=I.hok p _ hx
   have hlen:kvs.length=vs.length:=Paired.length r
   exact wpAny_truthy_dict hS m (by omega) ⟨H,I.tok _,by rw[Ja r];exact q⟩
 |_=>exact(show False from e).elim
theorem Ub(ha:PE X a ta)(he:∀whole,isTrue a X.env whole=(do let v<-whole;standAt a.pos;holding [v] (truthy v))):
  PT X a (λσ H Q=>ta σ H λx H'=>∃k,Yc X.K x H' k/\Q k H'):=by
 intro pins s σ H Q I h
 exact isTrue_plain (cZ (ha pins s σ H _ I h) λv s1 ⟨x,H1,I1,r1,q1⟩=>aa8 pins s1 σ H1 x v Q I1 r1 q1) (he _)
theorem JD:wZ X (binaryOp .Add) (λx y H Q=>∃i j,x= .str i/\y= .str j/\i.length+j.length≤sizeLine/\Q (.str (i++j)) H):=by
 intro pins s σ H x y v u Q I rx ry h
 obtain⟨i,j,rfl,rfl,hz,q⟩:=h
 obtain⟨t,rfl⟩:=rx
 obtain⟨t',rfl⟩:=ry
 exact add_str (λt' tk=>⟨.str (i++j),H,I.tok _,⟨_,rfl⟩,q⟩) hz
theorem vals1{x:V}{us:List Value}(r:Vals [x] us):∃u,us=[u]/\RelV x u:=by
 cases r with
 |cons r1 r2=>cases r2;exact⟨_,rfl,r1⟩
theorem vals2{x y:V}{us:List Value}(r:Vals [x,y] us):∃u w',us=[u,w']/\RelV x u/\RelV y w':=by
 cases r with
 |cons r1 r2=>
  cases r2 with
  |cons r3 r4=>cases r4;exact⟨_,_,rfl,r1,r3⟩
theorem tu:uf X (.type "int") (λxs H Q=>(∃i,xs=[.int i]/\Q (.int i) H)\/∃k,xs=[.bl k]/\Q (.int (if k then 1 else 0)) H):=by
 intro pins s σ H xs us Q I r h
 rcases h with⟨i,rfl,q⟩ |⟨k,rfl,q⟩
 .obtain⟨u,rfl,t,rfl⟩:=vals1 r
  exact call_int_int ⟨.int i,H,I,⟨_,rfl⟩,q⟩
 .obtain⟨u,rfl,r1⟩:=vals1 r
  cases r1
  exact call_int_bool ⟨.int (if k then 1 else 0),H,I.tok _,⟨_,rfl⟩,q⟩
theorem Dt:uf X (.type "str") (λxs H Q=>∃i,xs=[.int i]/\i.natAbs.log2<1920/\Q (.str (toString i)) H):=by
 intro pins s σ H xs us Q I r h
 obtain⟨i,rfl,hz,q⟩:=h
 obtain⟨u,rfl,t,rfl⟩:=vals1 r
 exact PySem.P.str_of_int hz ⟨.str _,H,I.tok _,⟨_,rfl⟩,q⟩
end
structure Ld(h:Heap)(x dx C:Addr)(mA:Str->Option Value):Prop where
 obj:h.get? x=some (akB C dx)
 ns:h.Ns1 dx mA
 ne:dx≠x
theorem De{h:Heap}{dx:Addr}{mA:Str->Option Value}(n:h.Ns1 dx mA):∃od,h.get? dx=some od/\∀name,auc name od=some (mA name):=by
 obtain⟨o,es,ep,ho,hd,hk,_,hm⟩:=n
 refine⟨o,ho,λname=>?_⟩
 have e:=hm name
 unfold nsFind findBy at e
 rw[<-ap6]at e
 unfold auc
 rw[hd]
 dsimp only
 split
 .rename_i y q
  rw[q]at e
  exact congrArg some e
 .rename_i q
  rw[q]at e
  have a:es.toList.any (·.refKey)=false:=by
   rw[List.any_eq_false]
   intro y hy
   obtain⟨z,t,hkey⟩:=hk y (Array.mem_toList_iff.mp hy)
   simp[DictEntry.refKey,hkey]
  have a':¬es.toList.any (·.refKey)=true:=by rw[a];exact abX
  rw[if_neg a']
  exact congrArg some e
theorem Ld.look{h:Heap}{x dx C:Addr}{mA:Str->Option Value}(I:Ld h x dx C mA):∃od,ap7 h x (akB C dx) C (some od)/\∀name,auc name od=some (mA name):=
 let⟨od,ho,hl⟩:=De I.ns
 ⟨od,⟨I.obj,rfl,rfl,ho⟩,hl⟩
section
variable{prog:Program}{w:World}{A:Around}{E:Value->Shared->Prop}{s:Shared}{K:acF}{x dx C f:Addr}{mA:Str->Option Value}{name:Str}{v:Value}
theorem get_map{expr:Bool}{Q:Value->Shared->Prop}(X:K.In s.heap)(I:Ld s.heap x dx C mA)(hg:ahc K C name=true)(hh:aeD K C=true)
  (ha:aat K (.ref C) name=some none) (hv:mA name=some v) (hv':W.handedIn v=true) (h:Q v {s with toks:=s.toks+1}):
  wpAny (model prog w) A (getAttr (.ref x) name expr) Q E s:=by
 obtain⟨od,J,hl⟩:=I.look
 exact W.get_value X J (aqc hg).1 (W.findObj_own hh ha rfl (by rw[hl,hv])) hv' h
theorem T5{pl:Sem Bool}{Q:Value×List Value->Shared->Prop}(X:K.In s.heap)(I:Ld s.heap x dx C mA)(hg:ahc K C name=true)
  (hf:aat K (.ref C) name=some (some (.ref f))) (ht:akg K (.ref f)=true) (hv:mA name=none) (h:Q (.ref f,[.ref x]) s):
  wpAny (model prog w) A (getMethod (.ref x) name pl) Q E s:=by
 obtain⟨od,J,hl⟩:=I.look
 exact W.method_fn X J (aqc hg).1 (aqc hg).2 hf (beq_iff_eq.mp ht) (by show(auc name od).map (·.isSome)=some false;rw[hl,hv];rfl) h
theorem Xe{ns:List Str}{Q:Unit->Shared->Prop}(X:K.In s.heap)(I:Ld s.heap x dx C mA)
  (hs:aat K (.ref C) "__setattr__"=some (some (.builtin "object.__setattr__"))) (hp:agD K C=true) (ht:akG K C name=some none) (hh:aeD K C=true)
  (hw:PySem.Within mA ns) (hsz:ns.length≤sizeLine)
  (h:∀h',Ld h' x dx C (λy=>if y=name then some v else mA y)->akd dx s.heap h'->Q () {s with heap:=h',toks:=s.toks+2}):
  wpAny (model prog w) A (setAttr (.ref x) name v) Q E s:=by
 obtain⟨od,J,hl⟩:=I.look
 refine W.set_plain X J hs (W.osa_open (s:={s with toks:=s.toks+1}) (r:=none) X J hp ht λb=>?_)
 obtain⟨cd,hc,hd'⟩:=W.any_some hh
 have hx:s.heap.get? x=some ⟨.ref C,some dx,.plain, #[]⟩:=I.obj
 refine wpAny_bind (wpAny_pure (wpAny_bind (wpAny_bind (wpAny_loadPart hx (wpAny_bind (W.Looks.here (s:={s with toks:=s.toks+1}) (aqq X hc) ?_))))))
 rw[hd']
 refine wpAny_pure (a:=some dx) (wpAny_bind (wpAny_pure (wpAny_bind ?_)))
 refine wpAny_nsSet1 (s:={s with toks:=s.toks+1}) I.ns λh' hn2 hs2=>?_
 obtain⟨oD,esD,epD,hoD,hdD,hcD⟩:=hn2.count (PySem.Within.cons name v hw)
 refine wpAny_bind (wpAny_lookBehind hoD (by rw[hdD];exact pastItsLine_dict (ah4 hcD (by rw[List.length_cons];omega))) ?_)
 exact wpAny_pure (h _ ⟨(hs2.2 _ (Ne.symm I.ne)).trans I.obj,hn2,I.ne⟩ hs2)
theorem Wi{R:Result->Shared->Prop}{vs:List Value}{kw:List (Str×Value)}(X:K.In s.heap)(hm:ajF K C=true)
  (hi:aat K (.ref C) "__init__"=some (some (.ref f))) (hf:ahn K (.ref f)=some (.type "function"))
  (h:codeAny (model prog w) (A.under (.builtin "type.__call__" ⟨.ref C::vs,kw⟩)) (.call (.ref f) ⟨.ref (s.heap.objs.size+1)::vs,kw⟩) (W.InitBack (s.heap.objs.size+1) R)
   {s with heap:=(s.heap.push aj3).push (akB C s.heap.objs.size)}):
  codeAny (model prog w) A (.call (.ref C) ⟨vs,kw⟩) R s:=by
 obtain⟨hh,g,d,t,os⟩:=s
 exact W.make_core (W.makes_of X hm) (alQ X hi) (λself=>W.bind_fn X self hf) (.inl rfl) h
end
def iG(f:Str)(v:V):List (Str×V)->List (Str×V)
 |[]=>[(f,v)]
 |(g,x)::r=>if g=f then(g,v)::r else(g,x)::iG f v r
theorem yJ(f g:Str)(v:V):∀fs:List (Str×V),(iG f v fs).lookup g=if g=f then some v else fs.lookup g
 |[]=>by
  show aiE g [(f,v)]=_
  by_cases h:g=f
  .have hb:(g==f)=true:=beq_iff_eq.mpr h
   simp only[aiE,hb,if_pos h]
  .have hb:(g==f)=false:=beq_eq_false_iff_ne.mpr h
   simp only[aiE,hb,if_neg h]
 |(k,x)::r=>by
  have ih:=yJ f g v r
  rw[show iG f v ((k,x)::r)=(if k=f then(k,v)::r else(k,x)::iG f v r)from rfl]
  by_cases hk:k=f
  .rw[if_pos hk]
   by_cases h:g=k
   .have hb:(g==k)=true:=beq_iff_eq.mpr h
    simp only[aiE,hb,if_pos (h.trans hk)]
   .have hb:(g==k)=false:=beq_eq_false_iff_ne.mpr h
    simp only[aiE,hb,if_neg (λe:g=f=>h (e.trans hk.symm))]
  .rw[if_neg hk]
   by_cases h:g=k
   .have hb:(g==k)=true:=beq_iff_eq.mpr h
    simp only[aiE,hb,if_neg (λe:g=f=>hk (h.symm.trans e))]
   .have hb:(g==k)=false:=beq_eq_false_iff_ne.mpr h
    simp only[aiE,hb]
    exact ih
theorem wX(f:Str)(v:V):∀fs:List (Str×V),f∈(iG f v fs).map (·.1)/\∀g,g∈fs.map (·.1)->g∈(iG f v fs).map (·.1)
 |[]=>⟨by simp[iG],λg h=>by simp at h⟩
 |(k,x)::r=>by
  obtain⟨i1,i2⟩:=wX f v r
  rw[show iG f v ((k,x)::r)=(if k=f then(k,v)::r else(k,x)::iG f v r)from rfl]
  by_cases hk:k=f
  .rw[if_pos hk]
   subst hk
   exact⟨by simp,λg h=>by simpa using h⟩
  .rw[if_neg hk]
   refine⟨?_,λg h=>?_⟩
   .rw[List.map_cons]
    exact aeA _ i1
   .rw[List.map_cons]at h⊢
    rcases abO.mp h with e |e
    .exact abO.mpr (.inl e)
    .exact aeA _ (i2 g e)
theorem fj(f:Str)(v:V):∀fs:List (Str×V),(iG f v fs).length≤fs.length+1
 |[]=>by simp[iG]
 |(k,x)::r=>by
  have ih:=fj f v r
  rw[show iG f v ((k,x)::r)=(if k=f then(k,v)::r else(k,x)::iG f v r)from rfl]
  by_cases hk:k=f
  .rw[if_pos hk,List.length_cons,List.length_cons];omega
  .rw[if_neg hk,List.length_cons,List.length_cons];omega
theorem Af.some_of{v:V}{o:Option Value}(r:Af (some v) o):∃u,o=some u/\RelV v u:=by
 cases o with
 |none=>exact(show False from r).elim
 |some u=>exact⟨u,rfl,r⟩
theorem Af.none_of{o:Option Value}(r:Af none o):o=none:=by
 cases o with
 |none=>rfl
 |some u=>exact(show False from r).elim
theorem Oj{v:V}{u:Value}(r:RelV v u):W.handedIn u=true:=by
 cases v with
 |non=>cases(show u=Value.none from r);rfl
 |bl b=>cases(show u=Value.bool b from r);rfl
 |int i=>obtain⟨t,e⟩:=(show ∃t,u=Value.int i t from r);cases e;rfl
 |str x=>obtain⟨t,e⟩:=(show ∃t,u=Value.str x t from r);cases e;rfl
 |byt b=>obtain⟨t,e⟩:=(show ∃t,u=Value.bytes b t from r);cases e;rfl
 |flt b=>obtain⟨t,e⟩:=(show ∃t,u=Value.float b t from r);cases e;rfl
 |ref a=>cases(show u=Value.ref a from r);rfl
 |ty n=>cases(show u=Value.type n from r);rfl
section
variable{P:Program}{w:World}{H H':Hp}{h h':Heap}{a C dx:Addr}{fs fs':List (Str×V)}
theorem zj(hok:xj P w H h)(e:H a=some (.ins C dx fs)):∃mA,Ld h a dx C mA/\(∀f,Af (fs.lookup f) (mA f))/\PySem.Within mA (fs.map (·.1))/\fs.length≤1000/\H dx=some (.own a):=by
 obtain⟨d,z,ne,ob,mA,n,r,q⟩:=(show gH P w H h a (.ins C dx fs)from hok a _ e)
 exact⟨mA,⟨ob,n,ne⟩,r,q,z,d⟩
end
structure sZ(K:acF)(C:Addr):Prop where
 pg:ahc K C Str.empty=true
 hd:aeD K C=true
 po:agD K C=true
 sa:aat K (.ref C) "__setattr__"=some (some (.builtin "object.__setattr__"))
theorem sZ.get{K:acF}{C:Addr}(c:sZ K C)(f:Str):ahc K C f=true:=c.pg
def bh(K:acF)(C:Addr)(f:Str):Prop:=aat K (.ref C) f=some none
theorem bh.taker{K:acF}{C:Addr}{f:Str}(n:bh K C f):akG K C f=some none:=by
 unfold akG
 rw[show aat K (.ref C) f=some none from n]
 rfl
structure Meth(K:acF)(C:Addr)(m:Str)(f:Addr):Prop where
 at_:aat K (.ref C) m=some (some (.ref f))
 fn:akg K (.ref f)=true
 kp:ab8 K (.ref f)=true
section
variable{X:Cx}{pins:List (Addr×Obj)}{σ:St}{H:Hp}{s:Shared}{a C dx:Addr}{fs:List (Str×V)}{f:Str}{v:V}{A:Around}{E:Value->Shared->Prop}
theorem Ka{b:Bool}{Q:Value->Shared->Prop}(I:Inv X pins σ H s)(e:H a=some (.ins C dx fs))(c:sZ X.K C)(n:bh X.K C f)(l:fs.lookup f=some v)
  (h:∀u s',Inv X pins σ H s'->RelV v u->Q u s'):wpAny (model X.prog X.w) A (getAttr (.ref a) f b) Q E s:=by
 obtain⟨mA,O,r,_,_,_⟩:=zj I.hok e
 obtain⟨u,hu,ru⟩:=Af.some_of (v:=v) (o:=mA f) (by rw[<-l];exact r f)
 exact get_map I.kIn O (c.get f) c.hd n hu (Oj ru) (h u _ (I.tok _) ru)
theorem J8{m:Str}{g:Addr}{pl:Sem Bool}{Q:Value×List Value->Shared->Prop}(I:Inv X pins σ H s)(e:H a=some (.ins C dx fs))(c:sZ X.K C)(k:Meth X.K C m g)(l:fs.lookup m=none)
  (h:Q (.ref g,[.ref a]) s):wpAny (model X.prog X.w) A (getMethod (.ref a) m pl) Q E s:=by
 obtain⟨mA,O,r,_,_,_⟩:=zj I.hok e
 have hn:mA m=none:=Af.none_of (by rw[<-l];exact r m)
 exact T5 I.kIn O (c.get m) k.at_ k.fn hn h
theorem Je{y:V}{u:Value}{Q:Unit->Shared->Prop}(I:Inv X pins σ H s)(e:H a=some (.ins C dx fs))(c:sZ X.K C)(n:bh X.K C f)(hl:fs.length<1000)(ry:RelV y u)
  (h:∀s',Inv X pins σ (upd H a (.ins C dx (iG f y fs))) s'->Q () s'):wpAny (model X.prog X.w) A (setAttr (.ref a) f u) Q E s:=by
 obtain⟨mA,O,r,wi,_,ho⟩:=zj I.hok e
 have hz:(fs.map (·.1)).length≤sizeLine:=by rw[aar,sizeLine_eq];omega
 refine Xe I.kIn O c.sa c.po n.taker c.hd wi hz λh' O' sb=>h _ ?_
 have hd:∃o,h'.get? dx=some o:=let⟨o,_,_,e',_⟩:=O'.ns;⟨o,e'⟩
 refine I.write (x:=a) (e:=dx) (by rw[e];exact True.intro) (.inr ho) (λb q hb z=>(sb.2 b hb).trans z) hd ?_
 refine⟨by rw[aF O.ne];exact ho,?_,O.ne,O'.obj,_,O'.ns,λg=>?_,λg hg=>?_⟩
 .have :=fj f y fs;omega
 .show Af ((iG f y fs).lookup g) (if g=f then some u else mA g)
  rw[yJ]
  by_cases q:g=f
  .rw[if_pos q,if_pos q];exact ry
  .rw[if_neg q,if_neg q];exact r g
 .by_cases q:g=f
  .rw[q];exact(wX f y fs).1
  .refine(wX f y fs).2 g (wi g λz=>hg ?_)
   show(if g=f then some u else mA g)=none
   rw[if_neg q];exact z
theorem Inv.made(I:Inv X pins σ H s):Inv X pins σ (upd (upd H s.heap.objs.size (.own (s.heap.objs.size+1))) (s.heap.objs.size+1) (.ins C s.heap.objs.size []))
  {s with heap:=(s.heap.push aj3).push (akB C s.heap.objs.size)}:=by
 have e1:(s.heap.push aj3).get? s.heap.objs.size=some aj3:=aez s.heap rfl
 have e2:((s.heap.push aj3).push (akB C s.heap.objs.size)).get? (s.heap.objs.size+1)=some (akB C s.heap.objs.size):=by
  have :=aez (s.heap.push aj3) (o:=akB C s.heap.objs.size) rfl
  rwa [akA]at this
 have e3:(s.heap.push aj3).Ns s.heap.objs.size (λ_=>none):=⟨aj3, #[],_,e1,rfl,(λe he=>absurd he (by simp)),λ_=>rfl⟩
 have I1:=I.laid (a:=s.heap.objs.size) (o:=.own (s.heap.objs.size+1)) (h':=s.heap.push aj3) (t':=s.toks) (λb u q=>Heap.get?_push_of_some _ q) (aaO _) ⟨_,e1⟩
 refine I1.laid (a:=s.heap.objs.size+1) (o:=.ins C s.heap.objs.size []) (t':=s.toks) (λb u q=>Heap.get?_push_of_some _ q) (atc (akA _ _)) ?_
 have ne:s.heap.objs.size≠s.heap.objs.size+1:=aeB (atU _)
 refine⟨by rw[aF ne,ao],ahE _,ne,e2,λ_=>none,(Heap.Ns1.of_empty e3).at λo q=>Heap.get?_push_of_some _ q,λ_=>True.intro,λy hy=>absurd rfl hy⟩
theorem Za{prog:Program}{w:World}{env:Env}{e:Expr}{f:Str}{pos:Pos}{s:Shared}{Q:Value->Shared->Prop}(hb:attributeBase e f env (eval e env)=eval e env)
  (h:wpAny (model prog w) A (eval e env) (λo s₁=>wpAny (model prog w) A (getAttr o f true) Q E s₁) E s):wpAny (model prog w) A (eval (.Attribute e f pos) env) Q E s:=
 Attribute_any_ h (by rw[arm_eval_Attribute,hb])
end
def asU(K:acF)(ta:TE)(f:Str):TE:=λσ H Q=>ta σ H λx H1=>∃a C dx fs v,x= .ref a/\H1 a=some (.ins C dx fs)/\sZ K C/\bh K C f/\fs.lookup f=some v/\Q v H1
def aws(K:acF)(ta tv:TE)(f:Str):TS:=λD σ H=>tv σ H λy H1=>ta σ H1 λx H2=>∃a C dx fs,x= .ref a/\H2 a=some (.ins C dx fs)/\sZ K C/\bh K C f/\fs.length<1000/\
 D.nx σ (upd H2 a (.ins C dx (iG f y fs)))
section
variable{X:Cx}{o e value:Expr}{f:Str}{pos pos' tpos:Pos}{ta tv:TE}
theorem adf(he:PE X e ta)(hb:attributeBase e f X.env (eval e X.env)=eval e X.env):PE X (.Attribute e f pos) (asU X.K ta f):=by
 intro pins s σ H Q I h
 refine Za hb (cZ (he pins s σ H _ I h) λu s1 ⟨x,H1,I1,rx,a,C,dx,fs,v,ex,ea,c,n,l,q⟩=>?_)
 subst ex
 obtain rfl:u=Value.ref a:=rx
 exact Ka I1 ea c n l λu' s2 I2 ru=>⟨v,H1,I2,ru,q⟩
theorem abQ(ha:PE X o ta)(hv:PE X value tv)(hs:swapsWith value (some (.Attribute o f pos')) pos.line X.env=pure false):PS X (.Assign [.Attribute o f pos'] value pos) (aws X.K ta tv f):=by
 intro pins s σ H D I h
 refine plainObj_wpAny_Assign_Attribute (cZ (hv pins s σ H _ I h) λu s1 ⟨y,H1,I1,ry,q⟩=>cZ (ha pins s1 σ H1 _ I1 q) λov s2 ⟨x,H2,I2,rx,a,C,dx,fs,ex,ea,c,n,l,q2⟩=>?_) hs
 subst ex
 obtain rfl:ov=Value.ref a:=rx
 exact Je I2 ea c n l ry λs3 I3=>⟨σ,_,I3,q2⟩
end
section
variable{X:Cx}{pins:List (Addr×Obj)}{σ:St}{H:Hp}{s:Shared}{A:Around}{E:Value->Shared->Prop}{Q:Value->Shared->Prop}{c:Value}{b:Bool}
inductive qt (K:acF) (H:Hp):V->Value->Prop where
 |non:qt K H .non (.type "NoneType")
 |bl (x:Bool):qt K H (.bl x) (.type "bool")
 |int (i:Int):qt K H (.int i) (.type "int")
 |str (x:Str):qt K H (.str x) (.type "str")
 |flt (x:UInt64):qt K H (.flt x) (.type "float")
 |lst {a:Addr} {xs:List V} (e:H a=some (.lst xs)):qt K H (.ref a) (.type "list")
 |frz {a:Addr} {o:Obj} {xs:List V} (e:H a=some (.frz o (.lst xs))):qt K H (.ref a) (.type "list")
 |tup {a:Addr} {xs:List V} (e:H a=some (.tup xs)):qt K H (.ref a) (.type "tuple")
 |dK {a:Addr} {kvs:List (Key×V)} (e:H a=some (.dK kvs)):qt K H (.ref a) (.type "dict")
 |dT {a:Addr} {kvs:List (List Key×V)} (e:H a=some (.dT kvs)):qt K H (.ref a) (.type "dict")
 |ins {a C dx:Addr} {fs:List (Str×V)} (e:H a=some (.ins C dx fs)) (cl:sZ K C) (ha:aat K (.ref C) "__class__"=some (some (.builtin "object.__class__")))
  (hn:aeJ K (.builtin "object.__class__") "__get__"=some (some (.builtin "getset_descriptor.__get__"))) (htk:aim K (.builtin "object.__class__")=some true)
  (hm:aeL K C (.type "object")=some true):qt K H (.ref a) (.ref C)
theorem Rq{x:V}{u t:Value}(I:Inv X pins σ H s)(rx:RelV x u)(ty:qt X.K H x t)(e:akF X.K t c=some b)(h:∀tk,Q (.bool b) {s with toks:=tk}):
  wpAny (model X.prog X.w) A (call (.builtin "isinstance") [u,c]) Q E s:=by
 cases ty with
 |non=>cases(show u=Value.none from rx);exact akh W.kitx_none I.kIn True.intro e (λz=>nomatch z) h
 |bl y=>cases(show u=Value.bool y from rx);exact akh W.kitx_bool I.kIn True.intro e (λz=>nomatch z) h
 |int i=>obtain⟨t,q⟩:=(show ∃t,u=Value.int i t from rx);cases q;exact akh W.kitx_int I.kIn True.intro e (λz=>nomatch z) h
 |str y=>obtain⟨t,q⟩:=(show ∃t,u=Value.str y t from rx);cases q;exact akh W.kitx_str I.kIn True.intro e (λz=>nomatch z) h
 |flt y=>obtain⟨t,q⟩:=(show ∃t,u=Value.float y t from rx);cases q;exact akh W.kitx_float I.kIn True.intro e (λz=>nomatch z) h
 | @lst a xs ea=>
   cases(show u=Value.ref a from rx)
   obtain⟨_,_,n,_,h1⟩:=(show gH X.prog X.w H s.heap a (.lst xs)from I.hok a _ ea)
   exact akh W.kitx_list I.kIn ⟨_,h1,rfl⟩ e (λz=>nomatch z) h
 | @frz a ob xs ea=>
   cases(show u=Value.ref a from rx)
   obtain⟨_,_,_,n,_,h1⟩:=(show gH X.prog X.w H s.heap a (.frz ob (.lst xs))from I.hok a _ ea)
   exact akh W.kitx_list I.kIn ⟨_,h1,rfl⟩ e (λz=>nomatch z) h
 | @tup a xs ea=>
   cases(show u=Value.ref a from rx)
   obtain⟨_,_,_,p⟩:=(show gH X.prog X.w H s.heap a (.tup xs)from I.hok a _ ea)
   obtain⟨o,h1,h2,_⟩:=p
   exact akh W.kitx_tuple I.kIn ⟨o,h1,h2⟩ e (λz=>nomatch z) h
 | @dK a kvs ea=>
   cases(show u=Value.ref a from rx)
   obtain⟨_,_,vs,_,p⟩:=(show gH X.prog X.w H s.heap a (.dK kvs)from I.hok a _ ea)
   obtain⟨o,es,ep,h1,h2,_⟩:=p
   exact akh W.kitx_dict I.kIn ⟨o,h1,h2.1⟩ e (λz=>nomatch z) h
 | @dT a kvs ea=>
   cases(show u=Value.ref a from rx)
   obtain⟨_,_,xs,_,o,es,ep,h1,h2,_⟩:=(show gH X.prog X.w H s.heap a (.dT kvs)from I.hok a _ ea)
   exact akh W.kitx_dict I.kIn ⟨o,h1,h2.1⟩ e (λz=>nomatch z) h
 | @ins a C dx fs ea cl ha hn htk hm=>
   cases(show u=Value.ref a from rx)
   obtain⟨mA,O,_⟩:=zj I.hok ea
   obtain⟨od,J,_⟩:=O.look
   exact akh (W.kitx_own (cl.get _) cl.hd ha hn htk hm) I.kIn J e (λz=>nomatch z) h
end
structure fB(cc:Bool)(k:Nat)(A:Around):Prop where
 hd:cc=true->A.handled=none
 dp:A.depth+3*k+5<recursionLimit
 un:A.units+16*k+200<cLine
theorem fB.mono{j k:Nat}{A:Around}(r:fB cc k A)(h:j≤k):fB cc j A:=⟨r.hd,by have :=r.dp;omega,by have :=r.un;omega⟩
theorem fB.deeper{k:Nat}{A:Around}(r:fB cc (k+1) A)(env:Env):fB cc k (A.deeper env):=
 ⟨r.hd,by have :=r.dp;show A.depth+1+3*k+5<_;omega,by have :=r.un;show A.units+3+16*k+200<_;omega⟩
theorem Jv{A:Around}{C:Addr}{us:List Value}{kw:List (Str×Value)}:(A.under (.builtin "type.__call__" ⟨.ref C::us,kw⟩)).depth=A.depth+1:=by
 first |rfl |simp[Around.under,Code.weight,Code.isCreation,Code.isGuard,Code.isCaller,Code.frames,Code.isFrame,guardIds]
theorem K3{A:Around}{C:Addr}{us:List Value}{kw:List (Str×Value)}:(A.under (.builtin "type.__call__" ⟨.ref C::us,kw⟩)).units=A.units+1:=by
 first |rfl |simp[Around.under,Code.cUnits,Code.frames,Code.isFrame]
theorem fB.make{k:Nat}{A:Around}(r:fB cc (k+1) A)(C:Addr)(us:List Value)(kw:List (Str×Value)):fB cc k (A.under (.builtin "type.__call__" ⟨.ref C::us,kw⟩)):=
 ⟨r.hd,by have :=r.dp;rw[Jv];omega,by have :=r.un;rw[K3];omega⟩
theorem fB.depth{k:Nat}{A:Around}(r:fB cc k A):A.depth<recursionLimit:=by have :=r.dp;omega
def al8:TA:=λ_ H Q=>Q [] H
def aiL(ta:TE)(tr:TA):TA:=λσ H Q=>ta σ H λx H1=>tr σ H1 λxs H2=>Q (x::xs) H2
section
variable{X:Cx}{e:Expr}{es:List Expr}{te:TE}{t:TA}{pos:Pos}
theorem aba:PA X [] al8:=λ_ _ _ _ H Q I h=>Calls.spliced_nil ⟨[],H,I,.nil,h⟩
theorem Yv(ha:PE X e te)(hr:PA X es t)(hs:starEach (e::es) X.env=(false,eval e X.env)::starEach es X.env:=by rfl):PA X (e::es) (aiL te t):=by
 intro pos pins s σ H Q I h
 rw[hs]
 show wpAny _ _ (spliced ((false,eval e X.env)::backTo pos (starEach es X.env))) _ _ s
 refine Calls.spliced_cons (cZ (ha pins s σ H _ I h) λu s1 ⟨x,H1,I1,r1,q1⟩=>?_)
 exact cZ (hr pos pins s1 σ H1 _ I1 q1) λus s2 ⟨xs,H2,I2,r2,q2⟩=>⟨x::xs,H2,I2,.cons r1 r2,q2⟩
def aov(t:TA):TE:=λσ H Q=>t σ H λxs H1=>xs.length≤sizeLine/\∀p,H1 p=none->Q (.ref p) (upd H1 p (.tup xs))
def atb(t:TA):TE:=λσ H Q=>t σ H λxs H1=>xs.length≤sizeLine/\∀p,H1 p=none->Q (.ref p) (upd H1 p (.lst xs))
theorem ac2{x1}(h:PA X es t):PE X (.Tuple es x1 pos) (aov t):=by
 intro pins s σ H Q I hq
 refine wpAny_Tuple_spliced (cZ (h pos pins s σ H _ I hq) λus s1 ⟨xs,H1,I1,r,z,q⟩=>⟨by rw[<-r.length];exact z,?_⟩)
 have hf:H1 s1.heap.objs.size=none:=I1.hok.fresh (aaO _)
 refine⟨.ref s1.heap.objs.size,upd H1 s1.heap.objs.size (.tup xs),I1.laid (t':=s1.toks) (λb u e=>Heap.get?_push_of_some _ e) (aaO _) ?_,rfl,q _ hf⟩
 exact⟨z,us,r,⟨_,aez _ rfl,rfl,_,rfl⟩⟩
theorem acp(h:PA X es t):PE X (.List es pos) (atb t):=by
 intro pins s σ H Q I hq
 refine wpAny_List_spliced (cZ (h pos pins s σ H _ I hq) λus s1 ⟨xs,H1,I1,r,z,q⟩=>⟨by rw[<-r.length];exact z,?_⟩)
 have hf:H1 s1.heap.objs.size=none:=I1.hok.fresh (aaO _)
 refine⟨.ref s1.heap.objs.size,upd H1 s1.heap.objs.size (.lst xs),I1.laid (t':=s1.toks) (λb u e=>Heap.get?_push_of_some _ e) (aaO _) ?_,rfl,q _ hf⟩
 exact⟨z,us,0,r,aez _ rfl⟩
end
abbrev Sp:=List V->Hp->VK->XK->Prop
abbrev RC:=List Env->Hp->Shared->XK->Value->Shared->Prop
structure K5(P:Program)(w:World)(K:acF)(mg:Str->Option Value)(base:Heap)(A:Around)(outer:List Env)(s:Shared)(H:Hp):Prop where
 frames:A.frames=some outer
 mod:Mod K mg base
 bs:∀b o,base.get? b=some o->s.heap.get? b=some o/\H b=none
 bsz:base.objs.size≤s.heap.objs.size
 funs:s.heap.FunFrames base outer
 frf:∀b∈Bq outer,H b=none
 hok:xj P w H s.heap
 bare:AllBare s.gens
def CE(outer:List Env)(P:Program)(w:World)(H:Hp)(s:Shared)(Q:VK)(u:Value)(s':Shared):Prop:=
 ∃v H',s'.os=s.os/\AllBare s'.gens/\Un (Bq outer) [] H H' s.heap s'.heap/\xj P w H' s'.heap/\RelV v u/\Q v H'
def CR(CX:RC)(outer:List Env)(P:Program)(w:World)(H:Hp)(s:Shared)(Q:VK)(E:XK)(r:Result)(s':Shared):Prop:=
 match r with
 | .ok (.ret u)=>CE outer P w H s Q u s'
 | .ok _=>False
 | .error e=>CX outer H s E e s'
structure xU(P:Program)(w:World)(K:acF)(mg:Str->Option Value)(base:Heap)(CX:RC)(cc:Bool)(k:Nat)(f:Addr)(fd:FuncData)(ps:List Str)(sp:Sp):Prop where
 len:∀vs H Q E,sp vs H Q E->vs.length=ps.length
 run:∀(A:Around) (outer:List Env) (s:Shared) (H:Hp) (args:Args) (us:List Value) (vs:List V) (Q:VK) (E:XK),fB cc k A->K5 P w K mg base A outer s H->BindsTo s fd args (ps.zip us)->Vals vs us->sp vs H Q E->
  codeAny (model P w) A (.call (.ref f) args) (CR CX outer P w H s Q E) s
theorem K5.make{P:Program}{w:World}{K:acF}{mg:Str->Option Value}{base:Heap}{A:Around}{outer:List Env}{s:Shared}{H:Hp}(e:K5 P w K mg base A outer s H)(C:Addr)(us:List Value)(kw:List (Str×Value)):
  K5 P w K mg base (A.under (.builtin "type.__call__" ⟨.ref C::us,kw⟩)) outer s H:=⟨by first |exact e.frames |(simpa [Around.under,Code.envs,Code.isFrame,pushEnvs]using e.frames),e.mod,e.bs,e.bsz,e.funs,e.frf,e.hok,e.bare⟩
section
variable{X:Cx}{pins:List (Addr×Obj)}{σ:St}{H:Hp}{s s':Shared}
theorem Inv.env0(I:Inv X pins σ H s):K5 X.prog X.w X.K X.mg X.base X.A X.stack s H:=
 ⟨I.ok.frames,I.ok.mod,I.bs,ah4 I.ok.bsz I.sz,I.stack,I.stkFree,I.hok,I.bare⟩
theorem Inv.after{Q:VK}{u:Value}(I:Inv X pins σ H s)(h:CE X.stack X.prog X.w H s Q u s'):EP X pins σ Q u s':=by
 obtain⟨v,H',os,bare,un,hok,r,q⟩:=h
 obtain⟨hh,g,d,t,os'⟩:=s'
 obtain rfl:os'=s.os:=os
 exact⟨v,H',I.call (h':=hh) (g':=g) (d':=d) (t':=t) (ch:=[]) un hok bare (λb z=>absurd z (by simp)),r,q⟩
end
def Binds(K:acF)(fd:FuncData)(ps:List Str)(ds:List Value):Prop:=
 ∀(s:Shared) (us:List Value),K.In s.heap->(us++ds).length=ps.length->BindsTo s fd ⟨us,[]⟩ (ps.zip (us++ds))
theorem Binds.all{K:acF}{fd:FuncData}{ps:List Str}(h:∀us:List Value,us.length=ps.length->bindArgs fd ⟨us,[]⟩=pure (ps.zip us)):Binds K fd ps []:=λs us _ hl=>by
 rw[List.append_nil]at hl⊢
 exact .of_eq (h us hl)
section
variable{X:Cx}{CX:RC}{k:Nat}{f C:Addr}{fd:FuncData}{ps:List Str}{sp:Sp}{dvs:List V}{ds:List Value}{E:XK}{x m:Str}{p pos apos:Pos}{e o:Expr}{es:List Expr}{ta:TE}{t:TA}
structure Mk(K:acF)(C f:Addr):Prop where
 makes:ajF K C=true
 init:aat K (.ref C) "__init__"=some (some (.ref f))
 fn:akg K (.ref f)=true
 kp:ab8 K (.ref C)=true
end
section
variable{X:Cx}{CX:RC}{k:Nat}{f C:Addr}{fd:FuncData}{ps ks:List Str}{sp:Sp}{E:XK}{x m:Str}{p pos apos kpos:Pos}{e o:Expr}{es:List Expr}{kws:List Keyword}{te ta:TE}{t tk:TA}{nm:Option Str}
variable{g:List Value->List Value->List Value}{gV:List V->List V->List V}
end
structure aN(N P:List Str)(sc:Scope):Prop where
 kind:sc.kind= .function
 co:sc.isCoroutine=false
 gen:sc.isGenerator=false
 nd:N.Nodup
 pre:N.take P.length=P
 par:∀x∈P,sc.names.lookup x=some .local\/sc.names.lookup x=some .cell
 nofree:∀y∈sc.names,y.2≠ .free
theorem Cp{kindOf:Str->Option NameKind}{x:Str}:∀{binds:List (Str×Value)} {m:Str->Option Value},(∀v,(x,v)∉binds)->bindL kindOf binds m x=m x
 |[],_,_=>rfl
 |(n,v)::r,m,h=>by
  unfold bindL
  rw[Cp λw hw=>h w (aeA _ hw)]
  split
  .have :x≠n:=by rintro rfl;exact h v aeH
   simp[this]
  .rfl
theorem CG{kindOf:Str->Option NameKind}{x:Str}:∀{binds:List (Str×Value)} {m:Str->Option Value},(∀v,(x,v)∉binds)->bindC kindOf binds m x=m x
 |[],_,_=>rfl
 |(n,v)::r,m,h=>by
  unfold bindC
  rw[CG λw hw=>h w (aeA _ hw)]
  split
  .rfl
  .have :x≠n:=by rintro rfl;exact h v aeH
   simp[this]
theorem Ci{kindOf:Str->Option NameKind}{x:Str}{v:Value}:∀{P:List Str} {vs:List Value} {i:Nat} {m:Str->Option Value},P.Nodup->P[i]? =some x->vs[i]? =some v->kindOf x=some .local->
  bindL kindOf (P.zip vs) m x=some v
 |[],_,_,_,_,h,_,_=>by simp at h
 |_::_,[],_,_,_,_,h,_=>by simp at h
 |p::P,w::vs,0,m,nd,h1,h2,hk=>by
  simp at h1 h2;subst h1;subst h2
  show bindL kindOf ((p,w)::P.zip vs) m p=_
  unfold bindL
  rw[Cp λv hv=>(ai6.mp nd).1 (aoh hv).1,if_pos hk]
  simp
 |p::P,w::vs,i+1,m,nd,h1,h2,hk=>by
  show bindL kindOf ((p,w)::P.zip vs) m x=_
  unfold bindL
  exact Ci (i:=i) (ai6.mp nd).2 (by simpa using h1) (by simpa using h2) hk
theorem Dq{kindOf:Str->Option NameKind}{x:Str}{v:Value}:∀{P:List Str} {vs:List Value} {i:Nat} {m:Str->Option Value},P.Nodup->P[i]? =some x->vs[i]? =some v->kindOf x≠some .local->
  bindC kindOf (P.zip vs) m x=some v
 |[],_,_,_,_,h,_,_=>by simp at h
 |_::_,[],_,_,_,_,h,_=>by simp at h
 |p::P,w::vs,0,m,nd,h1,h2,hk=>by
  simp at h1 h2;subst h1;subst h2
  show bindC kindOf ((p,w)::P.zip vs) m p=_
  unfold bindC
  rw[CG λv hv=>(ai6.mp nd).1 (aoh hv).1,if_neg hk]
  simp
 |p::P,w::vs,i+1,m,nd,h1,h2,hk=>by
  show bindC kindOf ((p,w)::P.zip vs) m x=_
  unfold bindC
  exact Dq (i:=i) (ai6.mp nd).2 (by simpa using h1) (by simpa using h2) hk
def start(N:List Str)(vs:List V):St:=vs.map some++aj5 (N.length-vs.length) none
def Ik(cc:Bool)(CX:RC)(P:Program)(w:World)(K:acF)(mg:Str->Option Value)(base:Heap)(N:List Str)(qual:Str)(scope:Scope)(f:Addr)(cd:Value)(A:Around)(outer:List Env)(s:Shared)(H:Hp)(E:XK):Cx where
 prog:=P
 w:=w
 K:=K
 mg:=mg
 base:=base
 A:=A.deeper (envOfC qual scope s.heap.objs.size f cd)
 N:=N
 s₀:=s
 H₀:=H
 env:=envOfC qual scope s.heap.objs.size f cd
 outer:=outer
 stack:=envOfC qual scope s.heap.objs.size f cd::outer
 ex:=[]
 calm:=cc
 fn:=λ_=>true
 pn:=[]
 xe:=λe s'=>wpAny (model P w) (A.deeper (envOfC qual scope s.heap.objs.size f cd)) (leaving (envOfC qual scope s.heap.objs.size f cd) e) (λ_ s''=>CX outer H s E e s'') (λe' s''=>CX outer H s E e' s'') s'
theorem Ig{sc:Scope}{n:Nat}{x:Str}(h:sc.names.lookup x=some .cell):∃c,(cellsFrom n sc.names []).lookup x=some c:=by
 have q:=W.cellsFrom_some sc.names n [] (.inl h)
 exact amw.mp q
theorem Rr{CX:RC}{P:Program}{w:World}{K:acF}{mg:Str->Option Value}{base:Heap}{N ps:List Str}{qual:Str}{scope:Scope}{f:Addr}{cd:Value}{A:Around}{outer:List Env}{s s1:Shared}{H:Hp}{E:XK}{us:List Value}{vs:List V}
  (S:aN N ps scope) (hd:cc=true->A.handled=none) (e0:K5 P w K mg base A outer s H) (hl:vs.length=ps.length) (r:Vals vs us)
  (x:InCallC s s.heap.objs.size (bindL (envOfC qual scope s.heap.objs.size f cd).kindOf (ps.zip us) λ_=>none) (cellsFrom (s.heap.objs.size+1) scope.names []) (bindC (envOfC qual scope s.heap.objs.size f cd).kindOf (ps.zip us) λ_=>none) s1):
  Inv (Ik cc CX P w K mg base N qual scope f cd A outer s H E) [] (start N vs) H s1:=by
 have hpl:ps.length≤N.length:=by have :=congrArg akv S.pre;rw[afm]at this;omega
 obtain⟨h1,tk,rfl,hk⟩:=x.done
 have noA:∀b:Addr,b∉(Ik cc CX P w K mg base N qual scope f cd A outer s H E).ex:=λb z=>absurd (show b∈([]:List Addr)from z) (by simp)
 refine⟨⟨e0.mod,S.kind,rfl,rfl,aaO _,λy z c h1 h2=>?_,λy hy=>?_,λy c _ h=>?_,hd,Around.frames_deeper e0.frames,.inr ⟨rfl,rfl⟩,λb z=>absurd z (noA b),e0.bs,e0.bsz,λb _ _=>noA b,λb z=>absurd z (noA b),e0.funs,e0.frf⟩,
  rfl,e0.bare,Un.kept hk,⟨_,x.toInCall.ns,λi y v h1 h2 h3=>?_⟩,λy c h=>⟨_,x.cell y c h⟩,e0.hok.fresh (aaO _),λy c h=>?_,λp hp=>absurd (show p∈([]:List (Addr×Obj))from hp) (by simp),e0.hok.kept hk,?_⟩
 .exact name_of_addr x.apart (PySem.mem_of_lookup h1) (PySem.mem_of_lookup h2)
 .have hy:scope.names.lookup y=some .cell\/scope.names.lookup y=some .free:=hy
  rcases hy with hy |hy
  .exact Ig hy
  .exact absurd rfl (S.nofree _ (PySem.mem_of_lookup hy))
 .exact asK (x.above y c (PySem.mem_of_lookup h))
 .have hi:i<vs.length:=by
   unfold start at h2
   by_cases hi:i<vs.length
   .exact hi
   .rw[aki (by simpa using hi)]at h2
    rw[List.getElem?_replicate]at h2
    split at h2<;>cases h2
  have ha:vs[i]? =some v:=by
   unfold start at h2
   rw[agh (by simpa using hi),aby]at h2
   cases e:vs[i]? with
   |none=>rw[e]at h2;cases h2
   |some a=>rw[e]at h2;cases h2;rfl
  obtain⟨u,hu,rv⟩:=r.get ha
  have hp:ps[i]? =some y:=by
   rw[<-S.pre,List.getElem?_take_of_lt (by omega)];exact h1
  have ndP:ps.Nodup:=by rw[<-S.pre];exact S.nd.sublist (List.take_sublist _ _)
  refine⟨u,rv,?_⟩
  rcases S.par y (aaR hp)with k |k
  .exact .inl ⟨k,Ci ndP hp hu k⟩
  .obtain⟨c,e⟩:=Ig (n:=s.heap.objs.size+1) k
   refine .inr ⟨.inl k,c,e,?_⟩
   have q:=x.cell y c e
   rw[Dq ndP hp hu (by show scope.names.lookup y≠_;rw[k];decide)]at q
   exact q
 .exact e0.hok.fresh (asK (x.above y c (PySem.mem_of_lookup h)))
 .unfold start
  show _=N.length
  rw[ace,aar,aom]
  omega
theorem ahu{CX:RC}{P:Program}{w:World}{K:acF}{mg:Str->Option Value}{base:Heap}{k:Nat}{f:Addr}{name qual:Str}{params:Arguments}{body:List Stmt}{scope:Scope}{dV kV doc pm cdv ct oc:Value}{an od:Option Addr}
  {osl:Array (Option Value)} {N ps:List Str} {sp:Sp} (lk:K.lookup f=some ⟨oc,od,.func (aeI name qual params body scope dV kV doc pm an cdv ct),osl⟩) (hcd:aeq K cdv qual=true) (S:aN N ps scope)
  (len:∀vs H Q E,sp vs H Q E->vs.length=ps.length)
  (hbody:∀(A:Around) (outer:List Env) (s:Shared) (H:Hp) (vs:List V) (Q:VK) (E:XK),fB cc k (A.deeper (envOfC qual scope s.heap.objs.size f cdv))->sp vs H Q E->
   ∃t,Wv (Ik cc CX P w K mg base N qual scope f cdv A outer s H E) body t/\t {nx:=λ_ H'=>Q .non H',rt:=Q} (start N vs) H):
  xU P w K mg base CX cc (k+1) f (aeI name qual params body scope dV kV doc pm an cdv ct) ps sp:=by
 refine⟨len,λA outer s H args us vs Q E hr e0 hb r hsp=>?_⟩
 have hl:=len _ _ _ _ hsp
 have KX:K.In s.heap:=e0.mod.kin.keeps λb o e=>(e0.bs b o e).1
 have lim:s.heap.NoLimit:=e0.mod.nolimit.keeps λb o e=>(e0.bs b o e).1
 have hkind:∀y∈ps.zip us,scope.names.lookup y.1=some .local\/(scope.names.lookup y.1=some .cell/\((cellsFrom (s.heap.objs.size+1) scope.names []).lookup y.1).isSome=true):=λ⟨n,v⟩ hy=>by
  rcases S.par n (aoh hy).1 with q |q
  .exact .inl q
  .exact .inr ⟨q,W.cellsFrom_some _ _ _ (.inl q)⟩
 refine codeAny_call_function hr.depth (KX _ _ lk) rfl S.co S.gen rfl (W.codeRec_of KX hcd) (hb _ _ _ _ ?_)
 refine wpAny_newFunctionEnv_cells S.kind hkind λenv he s1 x=>?_
 subst he
 refine⟨lim.keeps x.toInCall.keep,codeAny_func ?_⟩
 obtain⟨t,ht,hq⟩:=hbody A outer s H vs Q E (hr.deeper _) hsp
 have I:Inv (Ik cc CX P w K mg base N qual scope f cdv A outer s H E) [] (start N vs) H s1:=Rr S hr.hd e0 hl r x
 refine wpAny_mono (ht [] s1 (start N vs) H _ I hq) (λfl s' hs=>?_) λe s' hs=>hs
 have fin:∀{σ':St} {H':Hp} {v:V} {u:Value},Inv (Ik cc CX P w K mg base N qual scope f cdv A outer s H E) [] σ' H' s'->RelV v u->Q v H'->CE outer P w H s Q u s':=
  λ{σ' H' v u} J rv q=>⟨v,H',J.os,J.bare,J.base,J.hok,rv,q⟩
 cases fl with
 |ret u=>
  obtain⟨v,σ',H',J,rv,q⟩:=hs
  exact fin J rv q
 |next=>
  obtain⟨σ',H',J,q⟩:=hs
  exact fin (v:=V.non) (u:=Value.none) J rfl q
 |brk=>
  obtain⟨_,_,_,q⟩:=hs
  exact False.elim q
 |cont=>
  obtain⟨_,_,_,q⟩:=hs
  exact False.elim q
section
variable{X:Cx}{x:Str}{p pos:Pos}{e:Expr}{es:List Expr}{t:TA}{id T:String}{r:List V->Hp->VK->Prop}
def tCB(r:List V->Hp->VK->Prop)(t:TA):TE:=λσ H Q=>t σ H λvs H1=>r vs H1 Q
theorem Uh(hc:uf X (.builtin id) r)(hg:Gl X x)(hm:X.mg x=none)(hv:bootBuiltins x=some (.builtin id))(ha:PA X (e::es) t)(hn:x≠"__name__":=by decide)(hdb:(x==("__debug__":Str))=false:=by decide)
  (he:starEach (e::es) X.env=(false,eval e X.env)::starEach es X.env:=by rfl) (hpl:(backTo pos (starEach es X.env)).any (·.1)=false:=by rfl):PE X (.Call (.Name x p) (e::es) [] pos) (tCB r t):=by
 intro pins s σ H Q I h
 refine wpAny_Call_Name_kw (uI I hg hm hv ?_ hn hdb)
 exact PyProof.Rows.callWith_builtin1 (cZ (ha pos pins s σ H _ I h) λus s1 ⟨vs,H1,I1,r1,q1⟩=>hc pins s1 σ H1 vs us Q I1 r1 q1) he hpl
theorem Rj(hc:uf X (.type T) r)(hg:Gl X x)(hm:X.mg x=none)(hv:bootBuiltins x=some (.type T))(ha:PA X (e::es) t)(hn:x≠"__name__":=by decide)(hdb:(x==("__debug__":Str))=false:=by decide)
  (he:starEach (e::es) X.env=(false,eval e X.env)::starEach es X.env:=by rfl) (hpl:(backTo pos (starEach es X.env)).any (·.1)=false:=by rfl):PE X (.Call (.Name x p) (e::es) [] pos) (tCB r t):=by
 intro pins s σ H Q I h
 refine wpAny_Call_Name_kw (uI I hg hm hv ?_ hn hdb)
 exact PyProof.Rows.callWith_type1 (cZ (ha pos pins s σ H _ I h) λus s1 ⟨vs,H1,I1,r1,q1⟩=>hc pins s1 σ H1 vs us Q I1 r1 q1) he hpl
end
end L2
namespace HT
open PySem PyProof.Rows
section
open PySem.SeqAt
open PySem.AutoSeq1 (wpAny_loadPart')
open PySem.MeetsSeq PySem.MeetsSeq2 PySem.MeetsSeq3
end
section
variable{prog:Program}{w:World}{A:Around}{E:Value->Shared->Prop}{s:Shared}
def lG(n d:Nat):Option Int->Nat
 |none=>d
 |some v=>if v<0 then(v+(n:Int)).toNat else min v.toNat n
theorem Bl(n d:Nat):lG n d none=d:=rfl
theorem zA(n d k:Nat):lG n d (some (k:Int))=min k n:=by
 show(if(k:Int)<0 then((k:Int)+(n:Int)).toNat else min (k:Int).toNat n)=min k n
 rw[if_neg (by omega),amM]
theorem Ug(n d:Nat)(hd:d≤n)(o:Option Int):lG n d o≤n:=by
 cases o with
 |none=>exact hd
 |some v=>
  show(if v<0 then(v+(n:Int)).toNat else min v.toNat n)≤n
  by_cases hv:v<0
  .rw[if_pos hv];omega
  .rw[if_neg hv];exact Nat.min_le_right _ _
theorem XN(v:Int)(n d:Nat):(if v<0 then max (v+(n:Int)) 0 else min v (n:Int))=((lG n d (some v):Nat):Int):=by
 show(if v<0 then max (v+(n:Int)) 0 else min v (n:Int))=(((if v<0 then(v+(n:Int)).toNat else min v.toNat n):Nat):Int)
 by_cases hv:v<0
 .simp only[if_pos hv];omega
 .simp only[if_neg hv];omega
end
end HT
namespace L2
open PySem PySem.Spec PyProof.Rows
abbrev TO:=St->Hp->(Option Int->Hp->Prop)->Prop
def PO(X:Cx)(e:Option Expr)(t:TO):Prop:=
 ∀(pins:List (Addr×Obj)) (s:Shared) (σ:St) (H:Hp) (Q:Option Int->Hp->Prop),Inv X pins σ H s->t σ H Q->
  wpAny (model X.prog X.w) X.A (evalPart e X.env) (λu s'=>∃o H',Inv X pins σ H' s'/\IsPart u o/\Q o H') X.xe s
def Xg:TO:=λ_ H Q=>Q none H
def aiY(t:TE):TO:=λσ H Q=>t σ H λx H1=>∃i,x= .int i/\Q (some i) H1
section
variable{X:Cx}{e:Expr}{te:TE}{lo hi:Option Expr}{tl th:TO}{pos p2:Pos}
theorem Xq:PO X none Xg:=by
 intro pins s σ H Q I h
 rw[evalPart_none]
 exact wpAny_pure ⟨none,H,I,.none,h⟩
theorem Y9(h:PE X e te):PO X (some e) (aiY te):=by
 intro pins s σ H Q I hw
 rw[evalPart_some]
 refine cZ (h pins s σ H _ I hw) λu s1 ⟨x,H1,I1,r1,q1⟩=>?_
 obtain⟨i,rfl,q⟩:=q1
 obtain⟨t,rfl⟩:=r1
 exact⟨some i,H1,I1,.int i t,q⟩
def SlR(X:Cx)(r:V->Option Int->Option Int->Hp->VK->Prop):Prop:=
 ∀(pins:List (Addr×Obj)) (s:Shared) (σ:St) (H:Hp) (x:V) (v vl vu:Value) (lo hi:Option Int) (sl:Addr) (Q:VK),Inv X pins σ H s->RelV x v->s.heap.IsSliceOf sl vl vu .none->IsPart vl lo->IsPart vu hi->r x lo hi H Q->
  ∃T id,typeLookup (.type T) "__getitem__"=pure (some (.builtin id))/\s.TypeIs v T/\wpAny (model X.prog X.w) X.A (getItem v (.ref sl)) (EP X pins σ Q) X.xe s
def tSl(r:V->Option Int->Option Int->Hp->VK->Prop)(te:TE)(tl th:TO):TE:=λσ H Q=>te σ H λx H1=>tl σ H1 λl H2=>th σ H2 λu H3=>r x l u H3 Q
theorem Vw{r:V->Option Int->Option Int->Hp->VK->Prop}(hr:SlR X r)(he:PE X e te)(hl:PO X lo tl)(hu:PO X hi th):PE X (.Subscript e (.Slice lo hi none p2) pos) (tSl r te tl th):=by
 intro pins s σ H Q I h
 refine Subscript_ (cZ (he pins s σ H _ I h) λv s1 ⟨x,H1,I1,r1,q1⟩=>?_)
 refine wpAny_Slice (cZ (hl pins s1 σ H1 _ I1 q1) λvl s2 ⟨l,H2,I2,pl,q2⟩=>cZ (hu pins s2 σ H2 _ I2 q2) λvu s3 ⟨u,H3,I3,pu,q3⟩=>?_)
 rw[evalPart_none]
 refine wpAny_pure ?_
 have I4:Inv X pins σ H3 {s3 with heap:=s3.heap.push {cls:=.type "slice",data:=.fields #[vl,vu,.none]}}:=I3.kept (t':=s3.toks) λb ob q=>Heap.get?_push_of_some _ q
 obtain⟨T,id,hT,ht,hg⟩:=hr pins {s3 with heap:=s3.heap.push {cls:=.type "slice",data:=.fields #[vl,vu,.none]}} σ H3 x v vl vu l u s3.heap.objs.size Q I4 r1 (Heap.IsSliceOf.new ..) pl pu q3
 show wpAny (model X.prog X.w) X.A (subscriptTail e (.Slice lo hi none p2) v (.ref s3.heap.objs.size)) (EP X pins σ Q) X.xe {s3 with heap:=s3.heap.push {cls:=.type "slice",data:=.fields #[vl,vu,.none]}}
 exact tail_any (ops:=[.ref s3.heap.objs.size,v]) ht hT hg (by with_unfolding_all rfl)
def yN(xs:List V)(lo hi:Option Int):List V:=(xs.drop (HT.lG xs.length 0 lo)).take (HT.lG xs.length xs.length hi-HT.lG xs.length 0 lo)
theorem Hc(xs:List V)(lo hi:Option Int):(yN xs lo hi).length≤xs.length:=by
 unfold yN
 rw[afm,afr]
 omega
end
def Wx(n:Nat)(i:Int):Option Nat:=if 0≤i then(if i<n then some i.toNat else none)else if -(n:Int)≤i then some (i+n).toNat else none
def lR{α:Type}(xs:List α)(i:Int):Option α:=(Wx xs.length i).bind λj=>xs[j]?
theorem Ml{n:Nat}{i:Int}{j:Nat}(h:Wx n i=some j):seqIndex? i n=some j/\j<n/\ -(n:Int)≤i/\i<n:=by
 unfold Wx at h
 by_cases h0:0≤i
 .rw[if_pos h0]at h
  by_cases h1:i<n
  .rw[if_pos h1]at h
   have e:i.toNat=j:=Option.some.inj h
   exact⟨by rw[seqIndex_of h0 h1,e],by omega,by omega,h1⟩
  .rw[if_neg h1]at h;cases h
 .rw[if_neg h0]at h
  by_cases h1: -(n:Int)≤i
  .rw[if_pos h1]at h
   have e:(i+n).toNat=j:=Option.some.inj h
   exact⟨by rw[seqIndex_neg (by omega) h1,e],by omega,h1,by omega⟩
  .rw[if_neg h1]at h;cases h
theorem FW{α:Type}{xs:List α}{i:Int}{v:α}(h:lR xs i=some v):∃j,seqIndex? i xs.length=some j/\xs[j]? =some v/\j<xs.length/\ -(xs.length:Int)≤i/\i<xs.length:=by
 unfold lR at h
 cases e:Wx xs.length i with
 |none=>rw[e]at h;cases h
 |some j=>
  rw[e]at h
  obtain⟨h1,h2,h3,h4⟩:=Ml e
  exact⟨j,h1,h,h2,h3,h4⟩
theorem bz{α:Type}{xs:List α}{j:Nat}{v:α}(h:xs[j]? =some v):lR xs (j:Int)=some v:=by
 have hj:j<xs.length:=(aan.mp h).1
 have e:Wx xs.length (j:Int)=some j:=by
  unfold Wx
  rw[if_pos (by omega),if_pos (by omega)];simp
 unfold lR;rw[e];exact h
def Ni(b:Expr):Prop:=∀o i,subscripted b false o i=operate [o,i] (getItem o i)
def IxR(X:Cx)(r:R2):Prop:=
 ∀(value slice:Expr) (pins:List (Addr×Obj)) (s:Shared) (σ:St) (H:Hp) (x y:V) (v u:Value) (Q:VK),Inv X pins σ H s->RelV x v->RelV y u->r x y H Q->
  subscripted slice false v u=operate [v,u] (getItem v u)->wpAny (model X.prog X.w) X.A (subscriptTail value slice v u) (EP X pins σ Q) X.xe s
def MtR(X:Cx)(id:String)(r:V->List V->Hp->VK->Prop):Prop:=
 ∀(pins:List (Addr×Obj)) (s:Shared) (σ:St) (H:Hp) (x:V) (xs:List V) (v:Value) (us:List Value) (Q:VK),Inv X pins σ H s->RelV x v->Vals xs us->r x xs H Q->
  wpAny (model X.prog X.w) X.A (call (.builtin id) (v::us)) (EP X pins σ Q) X.xe s
section
variable{X:Cx}{a b:Expr}{ta tb:TE}{pos:Pos}
theorem afq{r:R2}(hr:IxR X r)(ha:PE X a ta)(hb:PE X b tb)(hs:Ni b):PE X (.Subscript a b pos) (tOp r ta tb):=by
 intro pins s σ H Q I h
 exact Subscript_ (abm ha hb I h λv u s2 x y H2 I2 rx ry q=>hr a b pins s2 σ H2 x y v u Q I2 rx ry q (hs _ _))
def afL(K:acF):R2:=λx y H Q=>∃p xs i v,x= .ref p/\y= .int i/\aX K H p xs/\lR xs i=some v/\Q v H
def aiN(K:acF):R2:=λx y H Q=>∃p xs i v,x= .ref p/\y= .int i/\dg K H p xs/\lR xs i=some v/\Q v H
def ago:R2:=λx y H Q=>∃z i c,x= .str z/\y= .int i/\z.length≤sizeLine/\lR z.cps.toList i=some c/\Q (.str ⟨#[c]⟩) H
theorem Xi:IxR X (afL X.K):=by
 intro value slice pins s σ H x y v u Q I rx ry h hs
 obtain⟨p,xs,i,z,rfl,rfl,hq,he,q⟩:=h
 cases rx
 obtain⟨t,rfl⟩:=ry
 obtain⟨its,r,pl,hz⟩:=I.list hq
 obtain⟨j,h1,h2,h3,h4,h5⟩:=FW he
 obtain⟨w,ew,rw'⟩:=r.get h2
 have hl:=r.length
 have hn:=uR
 have fin:EP X pins σ Q w s:=⟨z,H,I,rw',q⟩
 by_cases h0:0≤i
 .have hj:i.toNat=j:=by
   rw[seqIndex_of h0 h5]at h1
   exact Option.some.inj h1
  exact item_listR pl.isList h0 (by omega) (by rw[hj];simpa using ew) fin hs
 .have hj:(i+(its.toArray.size:Int)).toNat=j:=by
   rw[seqIndex_neg (by omega) h4]at h1
   rw[abY, <-hl]
   exact Option.some.inj h1
  exact subscriptTail_builtinR (x:=w) pl.isList.typeIs slot_list_getitem.lookup
   (wpAny_getItem_list_neg (Q:=λr s'=>r=w/\EP X pins σ Q r s') pl.isList (by omega) (by rw[abY]<;>omega) (by omega) (by rw[hj];simpa using ew) ⟨rfl,fin⟩) hs
theorem adW:IxR X (aiN X.K):=by
 intro value slice pins s σ H x y v u Q I rx ry h hs
 obtain⟨p,xs,i,z,rfl,rfl,hq,he,q⟩:=h
 cases rx
 obtain⟨t,rfl⟩:=ry
 obtain⟨its,r,pl,hz⟩:=I.tuple hq
 obtain⟨j,h1,h2,h3,h4,h5⟩:=FW he
 obtain⟨w,ew,rw'⟩:=r.get h2
 have hl:=r.length
 have hn:=uR
 have fin:EP X pins σ Q w s:=⟨z,H,I,rw',q⟩
 exact subscriptTail_builtinR (x:=w) pl.typeIs slot_tuple_getitem.lookup
  (getItem_tuple (j:=j) (Q:=λr s'=>r=w/\EP X pins σ Q r s') pl (by omega) (by omega) (by rw[abY, <-hl];exact h1) (by simpa using ew) ⟨rfl,fin⟩) hs
theorem ac6:IxR X ago:=by
 intro value slice pins s σ H x y v u Q I rx ry h hs
 obtain⟨z,i,c,rfl,rfl,hz,he,q⟩:=h
 obtain⟨t,rfl⟩:=rx
 obtain⟨t',rfl⟩:=ry
 obtain⟨j,h1,h2,h3,h4,h5⟩:=FW he
 have hl:z.cps.toList.length=z.length:=by simp[Str.length]
 rw[hl]at h1 h4 h5
 have hn:=uR
 exact tail_any (typeIs_str s z t) slot_str_getitem.lookup (getItem_str (c:=c) (by
  have e1:decide (i< -(2^63:Int))=false:=decide_eq_false (by omega)
  have e2:decide (i≥2^63)=false:=decide_eq_false (by omega)
  rw[e1,e2,auK]) (by rw[h1];simpa using h2) ⟨.str ⟨#[c]⟩,H,I.tok _,⟨_,rfl⟩,q⟩) hs
theorem IW(its:List Value)(n j:Nat)(u:Value):Obj.mapSeq (·.setIfInBounds j u) {cls:=.type "list",data:=.seq its.toArray n}={cls:=.type "list",data:=.seq (its.set j u).toArray n}:=by
 simp[Obj.mapSeq]
theorem Inv.lst{pins:List (Addr×Obj)}{σ:St}{H:Hp}{s:Shared}{p:Addr}{xs:List V}(I:Inv X pins σ H s)(h:H p=some (.lst xs)):
  ∃(its:List Value) (n:Nat),Vals xs its/\s.heap.get? p=some {cls:=.type "list",data:=.seq its.toArray n}/\xs.length≤sizeLine:=by
 obtain⟨z,its,n,r,e⟩:=I.hok p _ h
 exact⟨its,n,r,e,z⟩
theorem Inv.lstUpd{pins:List (Addr×Obj)}{σ:St}{H:Hp}{s:Shared}{p:Addr}{xs ys:List V}{its its':List Value}{n n':Nat}{f:Obj->Obj}(I:Inv X pins σ H s)(h:H p=some (.lst xs))
  (ho:s.heap.get? p=some {cls:=.type "list",data:=.seq its.toArray n}) (hf:f {cls:=.type "list",data:=.seq its.toArray n}={cls:=.type "list",data:=.seq its'.toArray n'}) (r:Vals ys its') (hz:ys.length≤sizeLine) (t:Nat):
  Inv X pins σ (upd H p (.lst ys)) {s with heap:=s.heap.update p f,toks:=t}:=by
 have e:(s.heap.update p f).get? p=some {cls:=.type "list",data:=.seq its'.toArray n'}:=by
  rw[aeE f ho (by rw[hf]<;>rfl),hf]
 refine I.write (x:=p) (e:=p) (by rw[h];trivial) (.inl rfl) (λb u hb q=>(acu _ _ (Ne.symm hb)).trans q) ⟨_,e⟩ ?_
 exact⟨hz,its',n',r,e⟩
def ais:V->V->V->Hp->(Hp->Prop)->Prop:=λo i v H Q=>∃p xs k j,o= .ref p/\i= .int k/\H p=some (.lst xs)/\Wx xs.length k=some j/\Q (upd H p (.lst (xs.set j v)))
theorem set_list:ag9 X ais:=by
 intro pins s σ H o i v ov iv u Q I ro ri rv h
 obtain⟨p,xs,k,j,rfl,rfl,hp,hj,q⟩:=h
 cases ro
 obtain⟨t,rfl⟩:=ri
 obtain⟨its,n,r,ho,hz⟩:=I.lst hp
 obtain⟨h1,h2,h3,h4⟩:=Ml hj
 have hl:=r.length
 have hn:=uR
 have I':Inv X pins σ (upd H p (.lst (xs.set j v))) {s with heap:=s.heap.update p (Obj.mapSeq (·.setIfInBounds j u))}:=
  I.lstUpd hp ho (IW its n j u) (r.set rv j) (by rw[auu];exact hz) s.toks
 by_cases h0:0≤k
 .have hk:k.toNat=j:=by
   rw[seqIndex_of h0 h4]at h1
   exact Option.some.inj h1
  exact W.ki_setAt ho h0 (by omega) (by rw[abY, <-hl];exact h4) (by rw[hk];exact⟨_,I',q⟩)
 .have hk:(k+(its.toArray.size:Int)).toNat=j:=by
   rw[seqIndex_neg (by omega) h3]at h1
   rw[abY, <-hl]
   exact Option.some.inj h1
  exact W.ki_setBack ho (by omega) (by rw[abY, <-hl];exact h3) (by omega) (by rw[hk];exact⟨_,I',q⟩)
theorem Fj(lo hi:Option Int)(n:Nat):(sliceBounds lo hi none n).1=((HT.lG n 0 lo:Nat):Int)/\(sliceBounds lo hi none n).2.1=((HT.lG n n hi:Nat):Int)/\(sliceBounds lo hi none n).2.2=1:=by
 refine⟨?_,?_,rfl⟩
 .cases lo with
  |none=>simp[sliceBounds,HT.lG]
  |some i=>
   simp only[sliceBounds,HT.lG,Option.getD_none,show(1:Int)>0 by decide,if_true]
   by_cases h:i<0
   .simp only[h,if_true]<;>omega
   .simp only[h,if_false]<;>omega
 .cases hi with
  |none=>simp[sliceBounds,HT.lG]
  |some i=>
   simp only[sliceBounds,HT.lG,Option.getD_none,show(1:Int)>0 by decide,if_true]
   by_cases h:i<0
   .simp only[h,if_true]<;>omega
   .simp only[h,if_false]<;>omega
theorem Bx(its:List Value)(lo hi:Option Int):slicePick its.toArray lo hi none=((its.drop (HT.lG its.length 0 lo)).take (HT.lG its.length its.length hi-HT.lG its.length 0 lo)).toArray:=by
 obtain⟨h1,h2,h3⟩:=Fj lo hi its.toArray.size
 unfold slicePick
 rw[h1,h2,h3]
 simp only[sliceRange_one,pick_run,abY]<;>rfl
def ar3(K:acF):V->Option Int->Option Int->Hp->VK->Prop:=λx lo hi H Q=>∃a xs,x= .ref a/\aX K H a xs/\∀p,H p=none->Q (.ref p) (upd H p (.lst (yN xs lo hi)))
theorem X6:SlR X (ar3 X.K):=by
 intro pins s σ H x v vl vu lo hi sl Q I rx hs pl pu h
 obtain⟨a,xs,rfl,hx,q⟩:=h
 cases rx
 obtain⟨its,r,ht,hz⟩:=I.list hx
 have hlen:=r.length
 refine⟨"list",_,slot_list_getitem.lookup,ht.isList.typeIs,?_⟩
 refine wpAny_getItem_list_slice ht.isList hs pl pu .none (by simp) ?_ (by rw[abY]<;>omega)
 rw[Bx, <-hlen]
 refine⟨.ref s.heap.objs.size,_,I.laid (t':=s.toks) (o:=.lst (yN xs lo hi)) (λb ob q=>Heap.get?_push_of_some _ q) (aaO _) ?_,rfl,q _ (I.hok.fresh (aaO _))⟩
 exact⟨ah4 (Hc xs lo hi) hz,_,0,(r.drop (HT.lG xs.length 0 lo)).take (HT.lG xs.length xs.length hi-HT.lG xs.length 0 lo),aez _ rfl⟩
def nj:V->Bool
 | .non=>true
 | .bl _=>true
 | .int _=>true
 | .str _=>true
 |_=>false
def Jd:V->V->Bool
 | .non,.non=>true
 | .bl a,.bl b=>a==b
 | .bl a,.int b=>(if a then 1 else 0)==b
 | .int a,.bl b=>a==(if b then 1 else 0)
 | .int a,.int b=>a==b
 | .str a,.str b=>a==b
 |_,_=>false
theorem aaH{A:Around}{s:Shared}{y x:V}{u v:Value}(ry:RelV y u)(rx:RelV x v)(fy:nj y=true)(fx:nj x=true):SeqAt.EqAt A s u v (Jd y x):=by
 cases y with
 |non=>
  cases ry
  cases x with
  |non=>cases rx;exact SeqAt.EqAt.same _
  |bl b=>cases rx;exact SeqAt.EqAt.none_bool b
  |int b=>obtain⟨t,rfl⟩:=rx;exact SeqAt.EqAt.none_int b t
  |str b=>obtain⟨t,rfl⟩:=rx;exact SeqAt.EqAt.none_str b t
  |_=>exact absurd (show false=true from fx) abX
 |bl a=>
  cases ry
  cases x with
  |non=>cases rx;exact SeqAt.EqAt.bool_none a
  |bl b=>cases rx;exact SeqAt.EqAt.bool_bool a b
  |int b=>obtain⟨t,rfl⟩:=rx;exact SeqAt.EqAt.bool_int a b t
  |str b=>obtain⟨t,rfl⟩:=rx;exact SeqAt.EqAt.bool_str a b t
  |_=>exact absurd (show false=true from fx) abX
 |int a=>
  obtain⟨t',rfl⟩:=ry
  cases x with
  |non=>cases rx;exact SeqAt.EqAt.int_none a t'
  |bl b=>cases rx;exact SeqAt.EqAt.int_bool a t' b
  |int b=>obtain⟨t,rfl⟩:=rx;exact SeqAt.EqAt.int_int a t' b t
  |str b=>obtain⟨t,rfl⟩:=rx;exact SeqAt.EqAt.int_str a t' b t
  |_=>exact absurd (show false=true from fx) abX
 |str a=>
  obtain⟨t',rfl⟩:=ry
  cases x with
  |non=>cases rx;exact SeqAt.EqAt.str_none a t'
  |bl b=>cases rx;exact SeqAt.EqAt.str_bool a t' b
  |int b=>obtain⟨t,rfl⟩:=rx;exact SeqAt.EqAt.str_int a t' b t
  |str b=>obtain⟨t,rfl⟩:=rx;exact SeqAt.EqAt.str_str a t' b t
  |_=>exact absurd (show false=true from fx) abX
 |_=>exact absurd (show false=true from fy) abX
def Lb(x:V)(u:Value):Bool:=match u with
 | .none=>Jd .non x
 | .bool b=>Jd (.bl b) x
 | .int i _=>Jd (.int i) x
 | .str z _=>Jd (.str z) x
 |_=>false
theorem Vm{x y:V}{u:Value}(r:RelV y u)(f:nj y=true):Lb x u=Jd y x:=by
 cases y with
 |non=>cases r;rfl
 |bl b=>cases r;rfl
 |int i=>obtain⟨t,rfl⟩:=r;rfl
 |str z=>obtain⟨t,rfl⟩:=r;rfl
 |_=>exact absurd (show false=true from f) abX
theorem vY{x:V}:∀{xs:List V} {us:List Value},Vals xs us->xs.all nj=true->us.any (Lb x)=xs.any λy=>Jd y x
 |_,_,.nil,_=>rfl
 |y::xs,u::us,.cons r t,f=>by
  rw[List.all_cons,aaP]at f
  rw[List.any_cons,List.any_cons,Vm r f.1,vY t f.2]
theorem qI{A:Around}{s:Shared}{x:V}{v:Value}(rx:RelV x v)(fx:nj x=true):∀{xs:List V} {us:List Value},Vals xs us->xs.all nj=true->∀u∈us,SeqAt.EqAt A s u v (Lb x u)
 |_,_,.nil,_=>λu hu=>by cases hu
 |y::xs,u::us,.cons r t,f=>λu' hu=>by
  rw[List.all_cons,aaP]at f
  rcases abO.mp hu with rfl |hu
  .rw[Vm r f.1];exact aaH r rx f.1 fx
  .exact qI rx fx t f.2 u' hu
def Fx(x:V)(xs:List V):Bool:=xs.any λy=>Jd y x
def rIn(K:acF)(neg:Bool):R2:=λx y H Q=>∃p xs,y= .ref p/\(aX K H p xs\/dg K H p xs)/\nj x=true/\xs.all nj=true/\Q (.bl (if neg then !Fx x xs else Fx x xs)) H
theorem Rf:wZ X (compareOp .In) (rIn X.K false):=by
 intro pins s σ H x y v u Q I rx ry h
 obtain⟨p,xs,rfl,hq,fx,fs,q⟩:=h
 cases ry
 rcases hq with hq |hq
 .obtain⟨its,r,pl,hz⟩:=I.list hq
  refine SeqAt.in_listAt (Lb x) pl.isList (λw hw=>qI rx fx r fs w (by simpa using hw)) ⟨.bl _,H,I,rfl,?_⟩
  rw[show its.toArray.any (Lb x)=its.any (Lb x)by simp,vY r fs]
  exact q
 .obtain⟨its,r,pl,hz⟩:=I.tuple hq
  refine SeqAt.in_tupleAt (Lb x) pl (λw hw=>qI rx fx r fs w (by simpa using hw)) ⟨.bl _,H,I,rfl,?_⟩
  rw[show its.toArray.any (Lb x)=its.any (Lb x)by simp,vY r fs]
  exact q
theorem wC:wZ X (compareOp .NotIn) (rIn X.K true):=by
 intro pins s σ H x y v u Q I rx ry h
 obtain⟨p,xs,rfl,hq,fx,fs,q⟩:=h
 cases ry
 rcases hq with hq |hq
 .obtain⟨its,r,pl,hz⟩:=I.list hq
  refine SeqAt.notIn_listAt (Lb x) pl.isList (λw hw=>qI rx fx r fs w (by simpa using hw)) ⟨.bl _,H,I,rfl,?_⟩
  rw[show its.toArray.any (Lb x)=its.any (Lb x)by simp,vY r fs]
  exact q
 .obtain⟨its,r,pl,hz⟩:=I.tuple hq
  refine SeqAt.notIn_tupleAt (Lb x) pl (λw hw=>qI rx fx r fs w (by simpa using hw)) ⟨.bl _,H,I,rfl,?_⟩
  rw[show its.toArray.any (Lb x)=its.any (Lb x)by simp,vY r fs]
  exact q
theorem EY:uf X (.builtin "len") (λxs H Q=>∃p ys,xs=[.ref p]/\(aX X.K H p ys\/dg X.K H p ys)/\Q (.int ys.length) H):=by
 intro pins s σ H xs us Q I r h
 obtain⟨p,ys,rfl,hq,q⟩:=h
 obtain⟨u,rfl,rx⟩:=vals1 r
 cases rx
 have hn:=uR
 rcases hq with hq |hq
 .obtain⟨its,r',pl,hz⟩:=I.list hq
  have hlen:=r'.length
  exact Calls.call_len_list pl.isList (by simp only[abY]<;>omega) ⟨.int ys.length,H,I.tok _,⟨s.toks+1,by rw[abY,hlen]⟩,q⟩
 .obtain⟨its,r',pl,hz⟩:=I.tuple hq
  have hlen:=r'.length
  exact len_tuple pl (by simp only[abY]<;>omega) ⟨.int ys.length,H,I.tok _,⟨s.toks+1,by rw[abY,hlen]⟩,q⟩
theorem DW:uf X (.builtin "len") (λxs H Q=>∃z,xs=[.str z]/\z.length≤sizeLine/\Q (.int z.length) H):=by
 intro pins s σ H xs us Q I r h
 obtain⟨z,rfl,hz,q⟩:=h
 obtain⟨u,rfl,t,rfl⟩:=vals1 r
 have hn:=uR
 exact len_str (by omega) ⟨.int z.length,H,I.tok _,⟨_,rfl⟩,q⟩
def tyV(K:acF)(T:String)(x:V)(H:Hp):Prop:=match x with
 | .str _=>T="str"
 | .int _=>T="int"
 | .ref p=>(T="list"/\∃xs,aX K H p xs)\/(T="tuple"/\∃o,K.lookup p=some o/\o.cls= .type "tuple"/\o.dict=none)\/
   (T="dict"/\((∃kvs,H p=some (.dK kvs))\/∃kvs,H p=some (.dT kvs)))\/(T="set"/\∃S n,H p=some (.set S n))
 |_=>False
theorem Sd{pins:List (Addr×Obj)}{σ:St}{H:Hp}{s:Shared}{T:String}{x:V}{v:Value}(I:Inv X pins σ H s)(r:RelV x v)(ty:tyV X.K T x H):
  s.TypeIs v T/\∀a,v= .ref a->∃ob,s.heap.get? a=some ob/\ob.dict=none:=by
 cases x with
 |str z=>
  obtain⟨t,rfl⟩:=r
  cases(show T="str" from ty)
  exact⟨typeIs_str s z t,λ_ e=>nomatch e⟩
 |int i=>
  obtain⟨t,rfl⟩:=r
  cases(show T="int" from ty)
  exact⟨typeIs_int s i t,λ_ e=>nomatch e⟩
 |ref p=>
  cases r
  rcases ty with⟨rfl,xs,hq⟩ |⟨rfl,o,hk,hc,hd⟩ |⟨rfl,hk⟩ |⟨rfl,S,n,hk⟩
  .obtain⟨its,_,pl,_⟩:=I.list hq
   refine⟨pl.isList.typeIs,λa e=>?_⟩
   cases e
   obtain⟨o,n,e,c,hd,_⟩:=pl
   exact⟨o,e,hd⟩
  .refine⟨⟨o,I.kIn p o hk,hc⟩,λa e=>?_⟩
   cases e
   exact⟨o,I.kIn _ o hk,hd⟩
  .have z:∃o,s.heap.get? p=some o/\o.ExactDict:=by
    rcases hk with⟨kvs,hk⟩ |⟨kvs,hk⟩
    .obtain⟨_,_,_,_,o,_,_,e,ex,_⟩:=I.hok p _ hk
     exact⟨o,e,ex⟩
    .obtain⟨_,_,_,_,o,_,_,e,ex,_⟩:=I.hok p _ hk
     exact⟨o,e,ex⟩
   obtain⟨o,e,ex⟩:=z
   refine⟨⟨o,e,ex.1⟩,λa e2=>?_⟩
   cases e2
   exact⟨o,e,ex.2.1⟩
  .obtain⟨o,_,_,_,e,ex,_⟩:=I.hok p _ hk
   refine⟨⟨o,e,ex.1⟩,λa e2=>?_⟩
   cases e2
   exact⟨o,e,ex.2.1⟩
 |_=>exact False.elim ty
def asH(K:acF)(T:String)(r:V->List V->Hp->VK->Prop)(to:TE):TE:=λσ H Q=>to σ H λx H1=>tyV K T x H1/\r x [] H1 Q
def tBM(K:acF)(T:String)(r:V->List V->Hp->VK->Prop)(to:TE)(t:TA):TE:=λσ H Q=>to σ H λx H1=>tyV K T x H1/\t σ H1 λxs H2=>r x xs H2 Q
variable{o e:Expr}{es:List Expr}{to:TE}{t:TA}{name:Str}{apos cpos:Pos}{T id:String}{r:V->List V->Hp->VK->Prop}
theorem ab6(pa:PlainAttrs T)(slot:Slot T name id)(hty:typeOf (.builtin id)=pure (.type "method_descriptor"))(hm:MtR X id r)(ho:PE X o to)
  (hbase:attributeBase o name X.env (eval o X.env)=eval o X.env:=by rfl) (hline:(apos.endLine==cpos.line)=true:=by rfl):PE X (.Call (.Attribute o name apos) [] [] cpos) (asH X.K T r to):=by
 intro pins s σ H Q I h
 refine wpAny_Call_method0_late hbase hline (cZ (ho pins s σ H _ I h) λv s1 ⟨x,H1,I1,r1,ty,q1⟩=>?_)
 obtain⟨h1,h2⟩:=Sd I1 r1 ty
 exact⟨T,id,pa,slot,hty,h1,h2,Calls.callWith_builtin rfl (PySem.evalArgs_none (hm pins s1 σ H1 x [] v [] Q I1 r1 .nil q1))⟩
theorem ahN(pa:PlainAttrs T)(slot:Slot T name id)(hty:typeOf (.builtin id)=pure (.type "method_descriptor"))(hm:MtR X id r)(ho:PE X o to)(ha:PA X (e::es) t)
  (hbase:attributeBase o name X.env (eval o X.env)=eval o X.env:=by rfl)
  (hfew:((backTo cpos (starEach (e::es) X.env)).all (λx=> !x.1)&&(backToKw cpos (keywordEach [] X.env)).all (λx=>x.1.isSome)
   &&decide ((e::es).length+([]:List Keyword).length+(if([]:List Keyword).isEmpty then 0 else 1)<30))=true:=by rfl)
  (hline:(apos.endLine==cpos.line)=true:=by rfl) (hs:starEach (e::es) X.env=(false,eval e X.env)::starEach es X.env:=by rfl) (hplain:(backTo cpos (starEach es X.env)).any (·.1)=false:=by rfl):
  PE X (.Call (.Attribute o name apos) (e::es) [] cpos) (tBM X.K T r to t):=by
 intro pins s σ H Q I h
 refine wpAny_Call_method_late hbase hfew hline rfl (cZ (ho pins s σ H _ I h) λv s1 ⟨x,H1,I1,r1,ty,q1⟩=>?_)
 obtain⟨h1,h2⟩:=Sd I1 r1 ty
 refine⟨T,id,pa,slot,hty,h1,h2,?_⟩
 have hA:=ha cpos pins s1 σ H1 _ I1 q1
 rw[hs]at hA⊢
 refine Calls.callWith_builtin (by show(false||(backTo cpos (starEach es X.env)).any (·.1))=false;rw[hplain]<;>rfl) (Calls.evalArgs_plain ?_)
 exact cZ hA λus s2 ⟨vs,H2,I2,r2,q2⟩=>hm pins s2 σ H2 x vs v us Q I2 r1 r2 q2
end
def MtM(X:Cx)(id:String)(r:V->List V->Hp->VK->Prop):Prop:=
 ∀(pins:List (Addr×Obj)) (s:Shared) (σ:St) (H:Hp) (x:V) (xs:List V) (v:Value) (us:List Value) (Q:VK),Inv X pins σ H s->RelV x v->Vals xs us->r x xs H Q->
  wpAny (model X.prog X.w) X.A (call (.builtin id) (v::us)) (EP X pins σ Q) X.xe s
theorem Vals.one:∀{x:V} {us:List Value},Vals [x] us->∃u,us=[u]/\RelV x u
 |_,_,.cons r .nil=>⟨_,rfl,r⟩
theorem Vals.two:∀{x y:V} {us:List Value},Vals [x,y] us->∃u v,us=[u,v]/\RelV x u/\RelV y v
 |_,_,_,.cons r (.cons q .nil)=>⟨_,_,rfl,r,q⟩
theorem Vals.eraseIdx:∀{xs:List V} {us:List Value} (i:Nat),Vals xs us->Vals (xs.eraseIdx i) (us.eraseIdx i)
 |_,_,_,.nil=>.nil
 |_,_,0,.cons _ t=>t
 |_,_,i+1,.cons r t=>.cons r (Vals.eraseIdx i t)
theorem Dk{α:Type}:∀(l:List α) (i:Nat),(l.eraseIdx i).length≤l.length
 |[],_=>aaO _
 |_::_,0=>akk _
 |_::r,i+1=>Nat.succ_le_succ (Dk r i)
section
variable{X:Cx}{pins:List (Addr×Obj)}{σ:St}{H:Hp}{s:Shared}{l b:Addr}{xs ys zs:List V}
theorem Inv.lset{its its':List Value}{n:Nat}{f:Array Value->Array Value}{t':Nat}(I:Inv X pins σ H s)(hH:H l=some (.lst xs))
  (e:s.heap.get? l=some {cls:=.type "list",data:=.seq its.toArray n}) (hf:f its.toArray=its'.toArray) (hv:Vals ys its') (hz:ys.length≤sizeLine):
  Inv X pins σ (upd H l (.lst ys)) {s with heap:=s.heap.update l (Obj.mapSeq f),toks:=t'}:=by
 have q:=PySem.IsL.update e f
 rw[hf]at q
 refine I.write (x:=l) (e:=l) (by rw[hH];exact trivial) (.inl rfl) (λb' u hb hu=>(acu s.heap (Obj.mapSeq f) (Ne.symm hb)).trans hu) ⟨_,q⟩ ?_
 exact⟨hz,its',_,hv,q⟩
theorem Inv.lnew{its:List Value}{t':Nat}(I:Inv X pins σ H s)(hv:Vals ys its)(hz:ys.length≤sizeLine):
  Inv X pins σ (upd H s.heap.objs.size (.lst ys)) {s with heap:=s.heap.push {cls:=.type "list",data:=.seq its.toArray},toks:=t'}:=
 I.laid (λ_ _ q=>Heap.get?_push_of_some _ q) (aaO _) ⟨hz,its,0,hv,aez _ rfl⟩
theorem Inv.fresh(I:Inv X pins σ H s):H s.heap.objs.size=none:=I.hok.fresh (aaO _)
theorem Inv.lstM(I:Inv X pins σ H s)(hH:H l=some (.lst xs)):xs.length≤sizeLine/\∃(its:List Value) (n:Nat),Vals xs its/\xs.length=its.length/\s.heap.get? l=some {cls:=.type "list",data:=.seq its.toArray n}:=by
 obtain⟨z,its,n,r,e⟩:=I.hok l _ hH
 exact⟨z,its,n,r,r.length,e⟩
end
section
variable{X:Cx}
def W5:V->List V->Hp->VK->Prop:=λx vs H Q=>∃l xs y,x= .ref l/\vs=[y]/\H l=some (.lst xs)/\xs.length<sizeLine/\Q .non (upd H l (.lst (xs++[y])))
theorem lK:MtM X "list.append" W5:=by
 intro pins s σ H x vs v us Q I rx rv h
 obtain⟨l,xs,y,rfl,rfl,hH,hz,q⟩:=h
 cases rx
 obtain⟨u,rfl,ru⟩:=rv.one
 obtain⟨z,its,n,r,hl,e⟩:=I.lstM hH
 refine call_meets F.slot_list_append ⟨_,e,rfl⟩ F.entry_list_append (F.args_list_append_2 _ _) (PySem.list_append l its.toArray n u (by rw[abY];omega)) ⟨e,?_⟩
 refine⟨.non,_,I.lset (its':=its++[u]) hH e (by simp) (r.append (.cons ru .nil)) ?_,rfl,q⟩
 rw[ace,agk]
 omega
def ad9:V->List V->Hp->VK->Prop:=λx vs H Q=>∃l xs i k y,x= .ref l/\vs=[.int i]/\H l=some (.lst xs)/\ -(2^63)≤i/\i<2^63/\seqIndex? i xs.length=some k/\xs[k]? =some y/\Q y (upd H l (.lst (xs.eraseIdx k)))
theorem Ak:MtM X "list.pop" ad9:=by
 intro pins s σ H x vs v us Q I rx rv h
 obtain⟨l,xs,i,k,y,rfl,rfl,hH,h1,h2,hk,hy,q⟩:=h
 cases rx
 obtain⟨u,rfl,ru⟩:=rv.one
 obtain⟨t,rfl⟩:=ru
 obtain⟨z,its,n,r,hl,e⟩:=I.lstM hH
 obtain⟨w,hw,rw'⟩:=r.get hy
 refine call_meets F.slot_list_pop ⟨_,e,rfl⟩ F.entry_list_pop (F.args_list_pop_2 _ _)
  (MeetsSeq.list_pop_at l its.toArray n i t k w (fitsIndex_both h1 h2) (by rw[abY, <-hl];exact hk) (by rw[<-aoy];exact hw) (by rw[abY];omega)) ⟨e,?_⟩
 refine⟨y,_,I.lset (its':=its.eraseIdx k) hH e ?_ (r.eraseIdx k) ?_,rw',q⟩
 .show its.toArray.eraseIdxIfInBounds k=(its.eraseIdx k).toArray
  rw[List.eraseIdxIfInBounds_toArray]
 .have :=Dk xs k
  omega
def avT:R2:=λx y H Q=>∃l b xs zs,x= .ref l/\y= .ref b/\H l=some (.lst xs)/\H b=some (.lst zs)/\xs.length+zs.length≤sizeLine/\∀p,H p=none->Q (.ref p) (upd H p (.lst (xs++zs)))
theorem aaN:wZ X (binaryOp .Add) avT:=by
 intro pins s σ H x y v u Q I rx ry h
 obtain⟨l,b,xs,zs,rfl,rfl,hH,hB,hz,q⟩:=h
 cases rx
 cases ry
 obtain⟨z,its,n,r,hl,e⟩:=I.lstM hH
 obtain⟨z2,its2,n2,r2,hl2,e2⟩:=I.lstM hB
 refine PySem.P.add_list e e2 ?_ (by rw[abY,abY];omega)
 have ea:its.toArray++its2.toArray=(its++its2).toArray:=by simp
 rw[ea]
 exact⟨.ref _,_,I.lnew (t':=s.toks) (r.append r2) (by rw[ace];omega),rfl,q _ I.fresh⟩
end
section
variable{prog:Program}{w:World}{A:Around}{E:Value->Shared->Prop}{s:Shared}
end
section
variable{X:Cx}
end
section
variable{κ:Type} [DecidableEq κ]
end
section
variable{P:Program}{w:World}{H:Hp}{h:Heap}{a:Addr}
end
section
variable{X:Cx}{pins:List (Addr×Obj)}{σ:St}{H:Hp}{s:Shared}{a:Addr}{y v:V}{u r:Value}{o:Option V}{A:Around}{E:Value->Shared->Prop}
end
section
variable{X:Cx}{pins:List (Addr×Obj)}{σ:St}{H:Hp}{s:Shared}{a:Addr}{kvs:List (Key×V)}{k:Key}{u:Value}{A:Around}{E:Value->Shared->Prop}
end
section
variable{X:Cx}{o i e value:Expr}{pos pos' tpos:Pos}{td ty tv:TE}
end
section
variable{X:Cx}{pos:Pos}
end
structure M2(X:Cx)(o:Expr)(m:Str)(apos:Pos)(e f:Expr)(cpos:Pos):Prop where
 base:attributeBase o m X.env (eval o X.env)=eval o X.env
 few:((backTo cpos (starEach [e,f] X.env)).all (λx=> !x.1)&&(backToKw cpos (keywordEach [] X.env)).all (λx=>x.1.isSome)
  &&decide (([e,f]:List Expr).length+([]:List Keyword).length+(if([]:List Keyword).isEmpty then 0 else 1)<30))=true
 line:(apos.endLine==cpos.line)=true
 trees:backTo cpos (starEach [e,f] X.env)=[(false,eval e X.env),(false,eval f X.env)]
section
variable{X:Cx}{pins:List (Addr×Obj)}{σ:St}{H:Hp}{s:Shared}{a:Addr}{y d:V}{u r:Value}{o:Option V}{A:Around}{E:Value->Shared->Prop}
end
section
variable{X:Cx}{o e f:Expr}{apos cpos:Pos}{td ty tx:TE}
end
section
variable{X:Cx}{pins:List (Addr×Obj)}{σ:St}{H:Hp}{s:Shared}{a:Addr}{kvs:List (Key×V)}{A:Around}{E:Value->Shared->Prop}
end
section
variable{X:Cx}{pins:List (Addr×Obj)}{σ:St}{H:Hp}{s:Shared}{a:Addr}{y:V}{u:Value}{A:Around}{E:Value->Shared->Prop}
end
end L2
namespace Att
open PySem PySem.W PySem.Calls PyProof.Rows
theorem za{P:Params}{h:Heap}:∀(ns:List Int) (vs:List Value),WellAll P h vs (ns.map WData.int)->IntsAre vs ns:=by
 intro ns
 induction ns with
 |nil=>
  intro vs w
  rw[List.map_nil]at w
  cases w
  exact .nil
 |cons n ns ih=>
  intro vs w
  rw[List.map_cons]at w
  cases w with
  |cons a b=>
   cases a
   exact .cons _ _ (ih _ b)
theorem Rk{l:OpenLaw}{n:Nat}(hn:l.most=some n){P:Params}{h:Heap}{args:List WData}{vals:List Value}
  (hpre:l.row.toRowW.claim.pre args=true) (hwl:WellAll P h vals args):
  ∃a vs ns,vals=[Value.ref a]/\args=[WData.list (ns.map WData.int)]/\h.get? a=some {cls:=.type "list",data:=.seq vs.toArray}/\IntsAre vs ns/\ns.length≤n:=by
 have hsh:WShape.hasAll [] args [.list .int]=true:=(pre_splitW hpre).1
 have hc:l.pre.holds [] {args:=args}=true:=(pre_splitW hpre).2
 obtain⟨d,r,rfl,h1,h2⟩:=hasAllW_cons hsh
 obtain rfl:=hasAllW_nil h2
 obtain⟨xs,rfl,h3⟩:=hasW_list h1
 obtain⟨ns,rfl⟩:=items_int h3
 have hlen:ns.length≤n:=by
  unfold OpenLaw.pre at hc
  have h4:(WTm.not (.lt (.lit (.int (n:Int))) (.len (.arg 0)))).holds [] {args:=[.list (ns.map .int)]}=true:=by
   have h4:=(holds_andW hc).1
   rw[hn]at h4
   exact h4
  have h5:=condW_of h4 (w_not (w_lt w_lit (w_len_list (w_arg rfl))))
  rw[aar]at h5
  refine Nat.le_of_not_lt λq=>?_
  have q':(n:Int)<((ns.length:Nat):Int):=by omega
  first
   |(rw[decide_eq_true q']at h5;exact absurd h5 (by decide))
   |(simp at h5;omega)
 cases hwl with
 |cons w1 w2=>
  cases w2
  cases w1 with
  |list ho hall=>exact⟨_,_,ns,rfl,rfl,ho,za ns _ hall,hlen⟩
theorem Qd(l:OpenLaw)(args:List WData):l.row.toRowW.claim.post args (.bool true) args=true:=
 postW_of (r:=l.row.toRowW) (X:=(true==true))
  (show WShape.has [] (.bool true) .bool=true by first |rfl |decide |simp[WShape.has,WShape.arms,WShape.armsAll])
  (show(WTm.eq .res (.lit (.bool true))).value [] {args:=args,res:=some (.bool true),after:=args}=some (.bool (true==true))from w_eq_bool (w_res rfl) w_lit) rfl
theorem Gx{l:OpenLaw}{n:Nat}{q:Program}{loose:List Str}{XP:(Str->Option Value)->Heap->Prop}{YP:World->Heap->Prop}{d:DefRec}
  (hn:l.most=some n) (hdf:d.params.defaults=[])
  (call:∀(w:World) (s₀ s₁:Shared) (mg mb:Str->Option Value) (fa:Addr) (o:Obj) (pm cd doc:Value) (a:Addr) (vs:List Value) (ns:List Int),
   Ground q loose [] XP w s₀ mg mb s₁.heap->YP w s₁.heap->
   s₁.heap.get? fa=some o->o.data= .func (docDef d.name d.params d.body d.scope pm cd doc)->s₁.heap.CodeRec cd d.name->mg d.name=some (.ref fa)->
   s₁.heap.get? a=some {cls:=.type "list",data:=.seq vs.toArray}->IntsAre vs ns->ns.length≤n->s₁.gens= #[]->
   codeAny (model l.prog w) callerA (.call (.ref fa) ⟨[.ref a],[]⟩) (λr s'=>r= .ok (.ret (.bool true))/\OldK s₁.heap s'.heap/\s'.os=s₁.os/\AllBare s'.gens) s₁):
  WalkO q loose XP YP l.row.toRowW d [] (λf vs=>PySem.call f vs):=by
 intro w s₀ s₁ mg mb G Y fa o pm cd doc dV kV ho hd hcd hD hmg hg args vals as hpre hlay hrd hwl hlo
 obtain rfl:dV= .none:=Dflts.none hD hdf
 obtain rfl:kV= .none:=Dflts.noKw hD
 obtain⟨a,vs,ns,rfl,rfl,hobj,hints,hlen⟩:=Rk hn hpre hwl
 refine enter_call (codeAny_mono (call w s₀ s₁ mg mb fa o pm cd doc a vs ns G Y ho (fd_plain hd) hcd hmg hobj hints hlen hg) λr s' hq=>?_)
 obtain⟨rfl,h2,h3,h4⟩:=hq
 exact⟨.inl ⟨.bool true,.bool true,[],rfl,λ_=>rfl,.bool true,Qd l _,λ_=>⟨List.Pairwise.nil,λ_ hm=>(nomatch hm)⟩⟩,h2,h3,h4⟩
section
variable{prog:Program}{w:World}{A:Around}{E:Value->Shared->Prop}{s:Shared}{K:Frag}
end
end Att
namespace L2
open PySem PySem.Spec PyProof.Rows
theorem Dg:∀{vs:List Value} {ns:List Int},IntsAre vs ns->Vals (ns.map V.int) vs
 |_,_,.nil=>.nil
 |_,_,.cons n t h=>.cons ⟨t,rfl⟩ (Dg h)
def adP(H:Hp):Prop:=∀b,H b=none\/∃o xs,H b=some (.frz o (.lst xs))
theorem R4{P:Program}{w:World}{K:acF}{mg mb:Str->Option Value}{CX:RC}{k:Nat}{fa a:Addr}{fd:FuncData}{x:Str}{sp:Sp}{s₁:Shared}{vs:List Value}{ns:List Int}
  (KX:K.In s₁.heap) (hns:s₁.heap.Ns mainGlobals mg) (hb:s₁.heap.Ns builtinsNs mb) (hbb:∀x:Str,x≠"__name__"->mb x=bootBuiltins x) (hlim:s₁.heap.NoLimit) (hg:s₁.gens= #[])
  (ha:s₁.heap.get? a=some {cls:=.type "list",data:=.seq vs.toArray}) (hi:IntsAre vs ns) (hl:ns.length≤sizeLine) (hr:fB cc k callerA)
  (F:∀base:Heap,K.In base->base.Ns mainGlobals mg->xU P w K mg base CX cc k fa fd [x] sp) (hbind:∀(s:Shared) (u:Value),BindsTo s fd ⟨[u],[]⟩ [(x,u)])
  (hsp:∀H:Hp,adP H->aX K H a (ns.map V.int)->sp [.ref a] H (λv _=>v= .bl true) λ_ _ _=>False)
  (hCX:∀H e s',CX [] H s₁ (λ_ _ _=>False) e s'->False):
  codeAny (model P w) callerA (.call (.ref fa) ⟨[.ref a],[]⟩) (λr s'=>r= .ok (.ret (.bool true))/\OldK s₁.heap s'.heap/\s'.os=s₁.os/\AllBare s'.gens) s₁:=by
 have rv:=Dg hi
 have lenV:=hi.length
 have core:∀H:Hp,adP H->aX K H a (ns.map V.int)->xj P w H s₁.heap->(∀b,H b≠none->b=a)->(H a≠none->K.lookup a=none)->
   codeAny (model P w) callerA (.call (.ref fa) ⟨[.ref a],[]⟩) (λr s'=>r= .ok (.ret (.bool true))/\OldK s₁.heap s'.heap/\s'.os=s₁.os/\AllBare s'.gens) s₁:=by
  intro H hO hS hok hA hK
  have base_of:∀{b:Addr} {o:Obj},s₁.heap.get? b=some o->H b=none->(Dv s₁.heap H).get? b=some o:=λe n=>RZ e n
  have noA:∀{b:Addr} {o:Obj} {es:Array DictEntry} {ep:Nat},s₁.heap.get? b=some o->o.data= .dict es ep->H b=none:=λ{b o es ep} e d=>by
   cases q:H b with
   |none=>rfl
   |some u=>
    have e':b=a:=hA b (by rw[q];simp)
    subst e'
    rw[ha]at e;cases e
    have d':Data.seq vs.toArray _=Data.dict es ep:=d
    cases d'
  have nsK:∀{b:Addr} {m:Str->Option Value},s₁.heap.Ns b m->(Dv s₁.heap H).Ns b m:=λ{b m} ⟨o,es,ep,e,d,r⟩=>⟨o,es,ep,base_of e (noA e d),d,r⟩
  have hKb:K.In (Dv s₁.heap H):=λb o e=>base_of (KX b o e) (by
   cases q:H b with
   |none=>rfl
   |some u=>
    have e':b=a:=hA b (by rw[q];simp)
    subst e'
    rw[hK (by rw[q];simp)]at e;cases e)
  have hM:Mod K mg (Dv s₁.heap H):=⟨hKb,nsK hns,⟨mb,nsK hb,hbb⟩,let⟨mc,h1,h2⟩:=hlim;⟨mc,nsK h1,h2⟩⟩
  have e0:K5 P w K mg (Dv s₁.heap H) callerA [] s₁ H:=⟨rfl,hM,λb o e=>XQ e,atc (Oe _ _),trivial,λb hb=>absurd (show b∈([]:List Addr)from hb) (by simp),hok,.of_eq hg⟩
  refine codeAny_mono ((F _ hKb (nsK hns)).run callerA [] s₁ H ⟨[.ref a],[]⟩ [.ref a] [.ref a] _ _ hr e0 (hbind s₁ (.ref a)) (.cons rfl .nil) (hsp H hO hS)) λr s' h=>?_
  cases r with
  |error e=>exact(hCX H e s' h).elim
  |ok fl=>
   cases fl with
   |next=>exact False.elim h
   |brk=>exact False.elim h
   |cont=>exact False.elim h
   |ret u=>
    obtain⟨v,H',os,bare,un,hok',r',q⟩:=h
    have q':v= .bl true:=q
    subst q'
    obtain rfl:u=Value.bool true:=r'
    refine⟨rfl,OldK.of_keep λb o e=>?_,os,bare⟩
    cases q:H b with
    |none=>exact un.keep b o e q (by intro z;exact absurd (show b∈([]:List Addr)from z) (by simp)) (by simp)
    |some u=>
     rcases hO b with z |⟨ob,xs,z⟩
     .rw[q]at z;cases z
     .have z2:=un.frzs b ob _ z
      obtain⟨e1,_⟩:=hok b _ z
      obtain⟨e2,_⟩:=hok' b _ z2
      rw[e]at e1;cases e1
      exact e2
 cases hk:K.lookup a with
 |some o=>
  have e:=KX a o hk
  rw[ha]at e
  cases e
  refine core (λ_=>none) (λ_=>.inl rfl) (.inr ⟨_,vs.toArray,_,hk,rfl,rfl,rfl,by rw[abY,lenV];exact hl,by simpa using rv⟩) (λb u z=>by have z':(none:Option HO)=some u:=z;cases z') (λb z=>absurd rfl z) λz=>absurd rfl z
 |none=>
  refine core (λb=>if b=a then some (.frz {cls:=.type "list",data:=.seq vs.toArray} (.lst (ns.map V.int)))else none) (λb=>?_) (.inl (.inr ⟨{cls:=.type "list",data:=.seq vs.toArray},if_pos rfl⟩)) (λb u z=>?_) (λb z=>?_) λ_=>hk
  .by_cases hb:b=a
   .exact .inr ⟨_,_,if_pos hb⟩
   .exact .inl (if_neg hb)
  .by_cases hb:b=a
   .have z':=(if_pos hb).symm.trans z
    cases z'
    subst hb
    exact⟨ha,by rw[aar];exact hl,vs,_,rv,ha⟩
   .have z':=(if_neg hb).symm.trans z
    cases z'
  .by_cases hb:b=a
   .exact hb
   .exact absurd (if_neg hb) z
abbrev KOf{K:acF}{h:Heap}(_:K.In h):acF:=K
theorem W2{l:W.OpenLaw}{n k:Nat}{q:Program}{loose:List Str}{XP:(Str->Option Value)->Heap->Prop}{YP:World->Heap->Prop}{d:DefRec}{K:Params->acF}{CX:World->RC}{sp:World->Sp}{x:Str}
  (hn:l.most=some n) (hn2:n≤sizeLine) (hdf:d.params.defaults=[]) (hr:fB cc k callerA)
  (hY:∀(w:World) (h:Heap),YP w h->(K w.params).In h)
  (F:∀(w:World) (mg:Str->Option Value) (fa:Addr) (h:Heap),(K w.params).In h->h.Ns mainGlobals mg->mg d.name=some (.ref fa)->
   ∃fd:FuncData,(∀(s:Shared) (u:Value),BindsTo s fd ⟨[u],[]⟩ [(x,u)])/\
    ∀base:Heap,(K w.params).In base->base.Ns mainGlobals mg->xU l.prog w (K w.params) mg base (CX w) cc k fa fd [x] (sp w))
  (hsp:∀(w:World) (H:Hp) (a:Addr) (ns:List Int),ns.length≤n->adP H->aX (K w.params) H a (ns.map V.int)->sp w [.ref a] H (λv _=>v= .bl true) λ_ _ _=>False)
  (hCX:∀(w:World) (H:Hp) (s:Shared) (e:Value) (s':Shared),CX w [] H s (λ_ _ _=>False) e s'->False):
  W.WalkO q loose XP YP l.row.toRowW d [] (λf vs=>PySem.call f vs):=by
 refine Att.Gx hn hdf λw s₀ s₁ mg mb fa o pm cd doc a vs ns G Y ho hd hcd hmg hobj hints hlen hg=>?_
 have KX:=hY w _ Y
 obtain⟨fd,hb,hF⟩:=F w mg fa _ KX G.T.g hmg
 exact R4 KX G.T.g G.T.b G.T.builtins G.T.nolimit hg hobj hints (ah4 hlen hn2) hr hF hb (λH hO hS=>hsp w H a ns hlen hO hS) λH e s'=>hCX w H s₁ e s'
def inClass(s:Stmt)(j:Nat):Stmt:=match s with
 | .ClassDef _ _ _ body _ _ _ _ _ _ _=>body.getD j (.Pass ⟨0,0,0,0⟩)
 |_=>.Pass ⟨0,0,0,0⟩
def aK(s:Stmt):Arguments:=match s with
 | .FunctionDef _ a _ _ _ _ _ _ _ _=>a
 |_=>{posonlyargs:=[],args:=[],vararg:=none,kwonlyargs:=[],kw_defaults:=[],kwarg:=none,defaults:=[]}
def az(s:Stmt):List Stmt:=match s with
 | .FunctionDef _ _ b _ _ _ _ _ _ _=>b
 |_=>[]
def aa(s:Stmt):Scope:=match s with
 | .FunctionDef _ _ _ _ _ _ sc _ _ _=>sc
 |_=>{kind:=.function,names:=[],isGenerator:=false,isCoroutine:=false}
structure iW(K:acF)(x qual:Str)(st:Stmt)(f:Addr)(fd:FuncData):Prop where
 ex:∃(oc:Value) (od:Option Addr) (kV doc pm:Value) (an:Option Addr) (cdv ct:Value) (osl:Array (Option Value)),
  fd=aeI x qual (aK st) (az st) (aa st) .none kV doc pm an cdv ct/\K.lookup f=some ⟨oc,od,.func fd,osl⟩/\aeq K cdv qual=true
 kp:ab8 K (.ref f)=true
section
variable{P:Program}{w:World}{K:acF}{mg:Str->Option Value}{base:Heap}
theorem iW.binds{x qual:Str}{st:Stmt}{f:Addr}{fd:FuncData}{ps:List Str}(F:iW K x qual st f fd)
  (h:∀(kV doc pm:Value) (an:Option Addr) (cdv ct:Value) (us:List Value),us.length=ps.length->bindArgs (aeI x qual (aK st) (az st) (aa st) .none kV doc pm an cdv ct) ⟨us,[]⟩=pure (ps.zip us)):Binds K fd ps []:=by
 obtain⟨oc,od,kV,doc,pm,an,cdv,ct,osl,rfl,lk,hcd⟩:=F.ex
 exact .all (h kV doc pm an cdv ct)
theorem aJ{x qual:Str}{st:Stmt}{f:Addr}{oc:Value}{od an:Option Addr}{osl:Array (Option Value)}{kV doc pm cdv ct:Value}(l:K.lookup f=some ⟨oc,od,.func (aeI x qual (aK st) (az st) (aa st) .none kV doc pm an cdv ct),osl⟩)
  (c:aeq K cdv qual=true) (k:ab8 K (.ref f)=true):iW K x qual st f (aeI x qual (aK st) (az st) (aa st) .none kV doc pm an cdv ct):=⟨⟨oc,od,kV,doc,pm,an,cdv,ct,osl,rfl,l,c⟩,k⟩
end
section
variable{X:Cx}
end
theorem anr{A B:Prop}(h:B):if false=true then A else B:=by
 rw[if_neg abX]
 exact h
theorem avO{A B:Prop}(h:A):if true=true then A else B:=by
 rw[if_pos rfl]
 exact h
def au(H H':Hp):Prop:=∀b o,H b=some o->H' b=some o
theorem au.refl(H:Hp):au H H:=λ_ _ h=>h
theorem au.trans{H H1 H2:Hp}(a:au H H1)(b:au H1 H2):au H H2:=λc o h=>b c o (a c o h)
theorem au.free{H H':Hp}(e:au H H'){l:Addr}(h:H' l=Option.none):H l=Option.none:=by
 cases q:H l with
 |none=>rfl
 |some o=>
  rw[e l o q]at h
  cases h
theorem au.seq{K:acF}{H H':Hp}{a:Addr}{xs:List V}(e:au H H')(h:aX K H a xs):aX K H' a xs:=by
 rcases h with(h |⟨o,h⟩) |h
 .exact .inl (.inl (e _ _ h))
 .exact .inl (.inr ⟨o,e _ _ h⟩)
 .exact .inr h
section
variable{X:Cx}
end
section
variable{κ:Type} [DecidableEq κ]
end
def dF(h:Heap):Option Value->List Addr->Prop
 |c,[]=>c=some .none
 |c,a::r=>c=some (.ref a)/\∃o vs,h.get? a=some o/\o.data= .fields vs/\dF h vs[2]? r
theorem dF.stay{h h':Heap}{e:Addr}(k:∀v o ws,v≠e->h.get? v=some o->o.data= .fields ws->∃o' ws',h'.get? v=some o'/\o'.data= .fields ws'/\ws'[2]? =ws[2]?):∀{l:List Addr} {c:Option Value},dF h c l->e∉l->dF h' c l
 |[],_,q,_=>q
 |a::r,c,⟨q1,o,vs,q2,q3,q4⟩,n=>by
  obtain⟨o',ws',k1,k2,k3⟩:=k a o vs (λz=>n (by simp[z])) q2 q3
  refine⟨q1,o',ws',k1,k2,?_⟩
  rw[k3]
  exact dF.stay k q4 λz=>n (by simp[z])
def Ctx(h:Heap)(e:Addr)(b:Bool)(c:Option Value):Prop:=(b=true->c=some .none)/\∃l,dF h c l/\e∉l/\l.Nodup
theorem Ctx.yes{h:Heap}{e:Addr}{c:Option Value}(q:c=some .none):Ctx h e true c:=⟨λ_=>q,[],q,by simp,.nil⟩
theorem Ctx.stay{h h':Heap}{e:Addr}{b:Bool}{c:Option Value}(q:Ctx h e b c)(k:∀v o ws,v≠e->h.get? v=some o->o.data= .fields ws->∃o' ws',h'.get? v=some o'/\o'.data= .fields ws'/\ws'[2]? =ws[2]?):Ctx h' e b c:=by
 obtain⟨q1,l,q2,q3,q4⟩:=q
 exact⟨q1,l,q2.stay k q3,q3,q4⟩
def fu(h:Heap)(e:Addr)(cls:Value)(d:Option Addr×Bool)(tb:Option Addr)(fl:Value):Prop:=
 ∃oe vs,h.get? e=some oe/\oe.cls=cls/\oe.dict=d.1/\oe.data= .fields vs/\vs[1]? =some (tb.elim Value.none Value.ref)/\2<vs.size/\Ctx h e d.2 vs[2]? /\
  ∀T,tb=some T->T≠e/\∃oT ws,h.get? T=some oT/\oT.data= .fields ws/\ws[3]? =some fl
theorem gH.there{P:Program}{w:World}{H:Hp}{h:Heap}{a:Addr}{o:HO}(x:gH P w H h a o):∃ob,h.get? a=some ob:=by
 cases o with
 |lst xs=>obtain⟨_,_,_,_,e⟩:=x;exact⟨_,e⟩
 |tup xs=>obtain⟨_,_,_,ob,e,_⟩:=x;exact⟨_,e⟩
 |dK kvs=>obtain⟨_,_,_,_,o,_,_,e,_⟩:=x;exact⟨_,e⟩
 |dT kvs=>obtain⟨_,_,_,_,o,_,_,e,_⟩:=x;exact⟨_,e⟩
 |set S n=>obtain⟨o,_,_,_,e,_⟩:=x;exact⟨_,e⟩
 |ins C dx fs=>obtain⟨_,_,_,e,_⟩:=x;exact⟨_,e⟩
 |own y=>obtain⟨_,e⟩:=x;exact⟨_,e⟩
 |xd fs=>obtain⟨_,⟨_,_,_,e,_⟩,_⟩:=x;exact⟨_,e⟩
 |rng lo hi=>obtain⟨_,_,_,e⟩:=x;exact⟨_,e⟩
 |frz ob u=>obtain⟨e,_⟩:=x;exact⟨_,e⟩
 |tbl ps=>exact⟨_,(show h.get? a=some _ from x)⟩
 |met f y=>exact⟨_,(show h.get? a=some _ from x)⟩
 |ext φ=>obtain⟨_,⟨_,e⟩,_⟩:=x;exact⟨_,e⟩
theorem xj.free{P:Program}{w:World}{H:Hp}{h:Heap}{a:Addr}(x:xj P w H h)(e:h.get? a=none):H a=none:=by
 cases q:H a with
 |none=>rfl
 |some u=>
  obtain⟨ob,z⟩:=(x a u q).there
  rw[e]at z;cases z
def CK(P:Program)(w:World):RC:=λouter H s E x s'=>∃e tb cls d H',x= .ref e/\s'.os=s.os/\AllBare s'.gens/\Un (Bq outer) [] H H' s.heap s'.heap/\xj P w H' s'.heap/\fu s'.heap e cls d tb .none/\
 (∀b∈e::tb.toList,H' b=none/\s.heap.get? b=none)/\E cls d H'
theorem CK.never{P:Program}{w:World}{outer:List Env}{H:Hp}{s s':Shared}{e:Value}(h:CK P w outer H s (λ_ _ _=>False) e s'):False:=by
 obtain⟨_,_,_,_,_,_,_,_,_,_,_,_,z⟩:=h
 exact z
section
variable{M:Model}{A:Around}{E:Value->Shared->Prop}{s:Shared}
theorem Cw{base:Heap}{env:Env}{outer:List Env}{L e:Addr}{oe:Obj}{vs:Array Value}{head:Value}{hadNext:Bool}{Q:Unit->Shared->Prop}
  (hfr:A.frames=some (env::outer)) (hl:s.heap.FunFrames base (env::outer)) (hf:env.frame=some L) (he:s.heap.get? e=some oe) (hd:oe.data= .fields vs) (hsz:1<vs.size)
  (k:∀(h':Heap) (T:Addr) (oT:Obj) (ws:Array Value),s.heap.objs.size≤h'.objs.size->(∀b o,s.heap.get? b=some o->b≠e->b∉Bq (env::outer)->h'.get? b=some o)->
   (∀b o,s.heap.get? b=some o->b≠e->∃sl,h'.get? b=some {o with slots:=sl})->s.heap.objs.size≤T->h'.get? e=some (oe.mapFields (·.setIfInBounds 1 (.ref T)))->
   h'.get? T=some oT->oT.data= .fields ws->ws[3]? =some (rawInt L)->Q () {s with heap:=h'}):
  wpAny M A (do
   let a<-frameOf env
   let pl<-entryPlaceOf L hadNext
   let b<-EntryCells.newEntry head a .none (rawInt L) .none pl
   setField (.ref e) 1 b) Q E s:=by
 have hne:e∉(env::outer).filterMap (·.frame):=λm=>by
  obtain⟨_,o,ho,nf⟩:=hl.mem m
  rw[he]at ho
  cases ho
  exact nf vs hd
 refine wpAny_bind (wpAny_frameOf_fun hfr hl hf λh1 so=>wpAny_bind (wpAny_entryPlaceOf λpl hp=>?_))
 unfold EntryCells.newEntry newFields
 refine wpAny_bind (wpAny_newObj_type ?_ (hp.sizeOk5 _ _ _ _ _))
 have e1:h1.get? e=some oe:=(so.2.1 e hne).trans he
 have hTe:e≠h1.objs.size:=aeB (acK e1)
 refine wpAny_setField (Heap.get?_push_of_some _ e1) hd hsz (k _ h1.objs.size {cls:=.type "traceback",dict:=none,data:=.fields (([head,.ref L,.none,rawInt L,.none]:List Value)++(if pl.isEmpty then aj5 6 Value.none else pl)).toArray} (([head,.ref L,.none,rawInt L,.none]:List Value)++(if pl.isEmpty then aj5 6 Value.none else pl)).toArray ?_ (λb o hb hbe hbf=>?_) (λb o hb hbe=>?_) (atc so.1.symm) ?_ ?_ ?_ ?_)
 .rw[anW,akA,so.1]
  exact akk _
 .rw[acu _ _ (Ne.symm hbe)]
  exact Heap.get?_push_of_some _ ((so.2.1 b hbf).trans hb)
 .obtain⟨sl,q⟩:=so.2.2 b o hb
  exact⟨sl,by rw[acu _ _ (Ne.symm hbe)];exact Heap.get?_push_of_some _ q⟩
 .exact aeE _ (Heap.get?_push_of_some _ e1) (Obj.isFreed_of_fields (Obj.data_mapFields hd _))
 .rw[acu _ _ hTe]
  exact aez h1 rfl
 .exact rfl
 .first
   |(simp;done)
   |(rcases hp with rfl |⟨_,_,_,_,_,_,_,rfl⟩<;>simp)
structure wk(h h':Heap)(ch fs:List Addr):Prop where
 keep:∀b o,h.get? b=some o->b∉fs->b∉ch->h'.get? b=some o
 slot:∀b o,h.get? b=some o->b∉ch->∃sl,h'.get? b=some {o with slots:=sl}
 there:∀b o,h.get? b=some o->∃o',h'.get? b=some o'
theorem Hb{base:Heap}{env:Env}{outer:List Env}{L e:Addr}{cls:Value}{d:Option Addr×Bool}{tb:Option Addr}{fl:Value}{Q:Unit->Shared->Prop}
  (hfr:A.frames=some (env::outer)) (hl:s.heap.FunFrames base (env::outer)) (hf:env.frame=some L) (F:fu s.heap e cls d tb fl) (hfl:(fl==rawInt L)=false)
  (k:∀(h':Heap) (T:Addr),wk s.heap h' (e::tb.toList) (Bq (env::outer))->s.heap.objs.size≤T->fu h' e cls d (some T) (rawInt L)->Q () {s with heap:=h'}):
  wpAny M A (noteFrame (.ref e) env) Q E s:=by
 obtain⟨oe,vs,he,hc,hdx,hd,h1,hz,h2,ht⟩:=F
 have fin:∀{hp:Heap} {h':Heap} {T:Addr} {oT:Obj} {ws:Array Value},(∀v o ws,v≠e->s.heap.get? v=some o->o.data= .fields ws->∃o' ws',h'.get? v=some o'/\o'.data= .fields ws'/\ws'[2]? =ws[2]?)->hp.get? e=some oe->hp.objs.size≤T->h'.get? e=some (oe.mapFields (·.setIfInBounds 1 (.ref T)))->h'.get? T=some oT->oT.data= .fields ws->
   ws[3]? =some (rawInt L)->fu h' e cls d (some T) (rawInt L):=λ{hp h' T oT ws} kk e0 hT q1 q2 q3 q4=>by
  have hd':=Obj.data_mapFields hd (·.setIfInBounds 1 (Value.ref T))
  refine⟨_,_,q1,(Obj.cls_mapFields _ _).trans hc,?_,hd',?_,by simpa using hz,?_,λT' eT=>?_⟩
  .obtain⟨c0,d0,dt,sl⟩:=oe
   cases hd
   exact hdx
  .have :1<vs.size:=by omega
   simp[this]
  .rw[ae3 (by decide)]
   exact h2.stay kk
  .cases eT
   exact⟨λz=>ahK _ (aey (acK e0) (z▸hT)),oT,ws,q2,q3,q4⟩
 unfold noteFrame
 simp only[hf]
 cases tb with
 |none=>
  have h1':vs[1]? =some Value.none:=h1
  refine wpAny_bind (wpAny_field he hd h1' ?_)
  rw[if_neg (by decide)]
  refine Cw hfr hl hf he hd (by omega) λh' T oT ws a1 a2 a3 a4 a5 a6 a7 a8=>k h' T ⟨λb o q1 q2 q3=>a2 b o q1 (λz=>q3 (by simp[z])) q2,λb o q1 q3=>a3 b o q1 λz=>q3 (by simp[z]),λb o q1=>?_⟩ a4 (fin (λv o ws hv q1 q2=>by obtain⟨sl,q⟩:=a3 v o q1 hv;exact⟨_,ws,q,q2,rfl⟩) he a4 a5 a6 a7 a8)
  by_cases z:b=e
  .subst z;exact⟨_,a5⟩
  .obtain⟨sl,q⟩:=a3 b o q1 z
   exact⟨_,q⟩
 |some T0=>
  obtain⟨hne,oT0,ws0,t1,t2,t3⟩:=ht T0 rfl
  have h1':vs[1]? =some (Value.ref T0):=h1
  refine wpAny_bind (wpAny_field he hd h1' ?_)
  rw[if_pos (show(Value.ref T0 !=Value.none)=true from by simp)]
  refine wpAny_bind (wpAny_field t1 t2 t3 ?_)
  rw[if_neg (by rw[hfl];exact abX)]
  refine wpAny_bind (wpAny_setField t1 t2 (ahs.mp t3).1 ?_)
  have oth:∀b,b≠T0->(s.heap.update T0 (Obj.mapFields (·.setIfInBounds 3 Value.none))).get? b=s.heap.get? b:=λb hb=>acu _ _ (Ne.symm hb)
  have Wr:=aeE (Obj.mapFields (·.setIfInBounds 3 Value.none)) t1 (Obj.isFreed_of_fields (Obj.data_mapFields t2 _))
  have hsz:(s.heap.update T0 (Obj.mapFields (·.setIfInBounds 3 Value.none))).objs.size=s.heap.objs.size:=anW ..
  have hl':(s.heap.update T0 (Obj.mapFields (·.setIfInBounds 3 Value.none))).FunFrames base (env::outer):=hl.of_keeps λb o hb nf=>⟨o,(oth b λz=>by
   subst z
   rw[t1]at hb
   cases hb
   exact nf ws0 t2).trans hb,rfl⟩
  refine Cw (s:={s with heap:=s.heap.update T0 (Obj.mapFields (·.setIfInBounds 3 Value.none))}) hfr hl' hf ((oth e (Ne.symm hne)).trans he) hd (by omega) λh' T oT ws a1 a2 a3 a4 a5 a6 a7 a8=>
   k h' T ⟨λb o q1 q2 q3=>a2 b o ((oth b λz=>q3 (by simp[z])).trans q1) (λz=>q3 (by simp[z])) q2,λb o q1 q3=>a3 b o ((oth b λz=>q3 (by simp[z])).trans q1) λz=>q3 (by simp[z]),λb o q1=>?_⟩ (hsz▸a4) (fin (λv o ws hv q1 q2=>by
     by_cases z2:v=T0
     .subst z2
      obtain⟨sl,q⟩:=a3 v _ Wr hv
      rw[t1]at q1
      cases q1
      exact⟨_,_,q,Obj.data_mapFields q2 _,by rw[ae3 (by decide)]⟩
     .obtain⟨sl,q⟩:=a3 v o ((oth v z2).trans q1) hv
      exact⟨_,ws,q,q2,rfl⟩) ((oth e (Ne.symm hne)).trans he) a4 a5 a6 a7 a8)
  by_cases z:b=e
  .subst z;exact⟨_,a5⟩
  .by_cases z2:b=T0
   .subst z2
    obtain⟨sl,q⟩:=a3 b _ Wr z
    exact⟨_,q⟩
   .obtain⟨sl,q⟩:=a3 b o ((oth b z2).trans q1) z
    exact⟨_,q⟩
theorem S5{base:Heap}{env:Env}{outer:List Env}{L e:Addr}{cls:Value}{d:Option Addr×Bool}{tb:Option Addr}{Q:Unit->Shared->Prop}
  (hfr:A.frames=some (env::outer)) (hl:s.heap.FunFrames base (env::outer)) (hf:env.frame=some L) (F:fu s.heap e cls d tb .none)
  (k:∀(h':Heap) (T:Addr),wk s.heap h' (e::tb.toList) (Bq (env::outer))->s.heap.objs.size≤T->fu h' e cls d (some T) (rawInt L)->Q () {s with heap:=h'}):
  wpAny M A (noteFrame (.ref e) env) Q E s:=
 Hb hfr hl hf F (by simp[rawInt]) k
theorem Ph{env:Env}{L e:Addr}{cls:Value}{d:Option Addr×Bool}{tb:Option Addr}{Q:Unit->Shared->Prop}(hf:env.frame=some L)(F:fu s.heap e cls d tb (rawInt L))(ht:tb.isSome=true)(k:Q () s):
  wpAny M A (noteFrame (.ref e) env) Q E s:=by
 obtain⟨oe,vs,he,hc,hdx,hd,h1,hz,h2,hT⟩:=F
 cases tb with
 |none=>cases ht
 |some T=>
  obtain⟨_,oT,ws,t1,t2,t3⟩:=hT T rfl
  exact wpAny_noteFrame_inFlight hf he hd h1 t1 t2 t3 k
theorem Ji{e T:Addr}{cls:Value}{d:Option Addr×Bool}{fl:Value}{Q:Unit->Shared->Prop}(F:fu s.heap e cls d (some T) fl)
  (k:∀h',wk s.heap h' [T] []->fu h' e cls d (some T) .none->Q () {s with heap:=h'}):wpAny M A (setFlight (.ref e) none) Q E s:=by
 obtain⟨oe,vs,he,hc,hdx,hd,h1,hz,h2,hT⟩:=F
 obtain⟨hne,oT,ws,t1,t2,t3⟩:=hT T rfl
 have h3:3<ws.size:=(ahs.mp t3).1
 refine wpAny_setFlight_none he hd h1 t1 t2 h3 (k _ ⟨λb o q _ n=>?_,λb o q n=>⟨o.slots,?_⟩,λb o q=>?_⟩ ?_)
 .rw[acu _ _ (λz=>n (by simp[z]))];exact q
 .rw[acu _ _ (λz=>n (by simp[z]))];exact q
 .by_cases z:b=T
  .subst z;exact⟨_,aeE _ t1 (Obj.isFreed_of_fields (Obj.data_mapFields t2 _))⟩
  .exact⟨o,by rw[acu _ _ (Ne.symm z)];exact q⟩
 .refine⟨oe,vs,?_,hc,hdx,hd,h1,hz,h2.stay λv o ws hv q1 q2=>?_,λT' eT=>?_⟩
  .rw[acu _ _ hne];exact he
  .by_cases z:v=T
   .subst z
    rw[t1]at q1
    cases q1
    exact⟨_,_,aeE _ t1 (Obj.isFreed_of_fields (Obj.data_mapFields t2 _)),Obj.data_mapFields q2 _,by rw[ae3 (by decide)]⟩
   .exact⟨o,ws,by rw[acu _ _ (Ne.symm z)];exact q1,q2,rfl⟩
  .cases eT
   exact⟨hne,_,_,aeE _ t1 (Obj.isFreed_of_fields (Obj.data_mapFields t2 _)),Obj.data_mapFields t2 _,by simp[h3]⟩
end
section
variable{X:Cx}{pins:List (Addr×Obj)}{σ:St}{H H':Hp}{s s':Shared}
def Ch(X:Cx)(pins:List (Addr×Obj))(b:Addr):Prop:=(b∈X.ex\/X.s₀.heap.get? b=none)/\b≠X.env.locals/\(∀x c,X.env.cells.lookup x=some c->c≠b)/\∀p∈X.pn++pins,p.1≠b
theorem Inv.ch(I:Inv X pins σ H s){b:Addr}(h:s.heap.get? b=none):Ch X pins b:=by
 refine⟨?_,λz=>?_,λx c q z=>?_,λp hp z=>?_⟩
 .by_cases hx:b∈X.ex
  .exact .inl hx
  .refine .inr ?_
   cases q:X.s₀.heap.get? b with
   |none=>rfl
   |some o=>
    obtain⟨o',q'⟩:=I.base.there b o q hx
    rw[h]at q';cases q'
 .obtain⟨_,⟨o,_,_,ho,_⟩,_⟩:=I.loc
  rw[<-z,h]at ho;cases ho
 .obtain⟨_,o,ho,_⟩:=I.cell x c q
  rw[z,h]at ho;cases ho
 .have :=(I.pin p hp).1
  rw[z,h]at this;cases this
theorem Inv.noted{ch:List Addr}{h':Heap}(I:Inv X pins σ H s)(N:wk s.heap h' ch (Bq X.stack))(hc:∀b∈ch,H b=none/\Ch X pins b):Inv X pins σ H {s with heap:=h'}:=by
 have Zm:∀b u,H b=some u->b∉Bq X.stack/\b∉ch:=λb u e=>⟨(λz=>by rw[I.stkFree b z]at e;cases e),(λz=>by rw[(hc b z).1]at e;cases e)⟩
 refine I.call (g':=s.gens) (d':=s.drawn) (t':=s.toks) (ch:=ch) (h':=h') ⟨λb o e _ hb hx=>N.keep b o e hb hx,λb o e _ _ hx=>N.slot b o e hx,λ_ _ _ n _=>n,λb o e _=>N.there b o e,λ_ _ e=>e,λ_ _ _ e=>e,λb ps e=>⟨#[],by rw[e];simp⟩⟩ ?_ I.bare λb hb=>(hc b hb).2
 intro b u e
 refine(I.hok b u e).stay (λc v hcv q=>?_) (λ_ q=>q) λ_ _ q=>q
 rcases hcv with z |z
 .subst z;exact N.keep c v q (Zm c u e).1 (Zm c u e).2
 .exact N.keep c v q (Zm c _ z).1 (Zm c _ z).2
def XAt(X:Cx)(pins:List (Addr×Obj))(σ:St)(H:Hp)(s:Shared)(e:Addr)(cls:Value)(d:Option Addr×Bool):Prop:=
 Inv X pins σ H s/\∃tb fl,fu s.heap e cls d tb fl/\(fl= .none\/(fl=rawInt X.env.locals/\tb.isSome=true))/\∀b∈e::tb.toList,H b=none/\Ch X pins b
def ye(X:Cx)(Kx:St->XK):Prop:=∀(pins:List (Addr×Obj)) (σ:St) (H:Hp) (s:Shared) (e:Addr) (cls:Value) (d:Option Addr×Bool),XAt X pins σ H s e cls d->Kx σ cls d H->X.xe (.ref e) s
theorem Inv.flown{E:XK}{x:Value}(I:Inv X pins σ H s)(c:CK X.prog X.w X.stack H s E x s'):∃e cls d H',x= .ref e/\XAt X pins σ H' s' e cls d/\E cls d H':=by
 obtain⟨e,tb,cls,d,H',rfl,os,bare,un,hok,F,ch,q⟩:=c
 have I':Inv X pins σ H' s':=I.call' (ch:=[]) os un hok bare λb z=>absurd z (by simp)
 exact⟨e,cls,d,H',rfl,⟨I',tb,.none,F,.inl rfl,λb hb=>⟨(ch b hb).1,I.ch (ch b hb).2⟩⟩,q⟩
theorem O3(h:X.xe=λ_ _=>False):ye X (λ_ _ _ _=>False):=λ_ _ _ _ _ _ _ _ z=>z.elim
theorem XAt.note{M:Model}{E:Value->Shared->Prop}{e:Addr}{cls:Value}{d:Option Addr×Bool}{Q:Unit->Shared->Prop}(x:XAt X pins σ H s e cls d)(hst:X.stack=X.env::X.outer)(hf:X.env.frame=some X.env.locals)
  (k:∀s' T,Inv X pins σ H s'->fu s'.heap e cls d (some T) (rawInt X.env.locals)->(∀b∈[e,T],H b=none/\Ch X pins b)->Q () s'):wpAny M X.A (noteFrame (.ref e) X.env) Q E s:=by
 obtain⟨I,tb,fl,F,hfl,ch⟩:=x
 rcases hfl with z |⟨z,ht⟩
 .subst z
  have hl:=I.stack
  rw[hst]at hl
  refine S5 (base:=X.base) (I.ok.frames.trans (by rw[hst])) hl hf F λh' T N hT F'=>k _ T (I.noted (by rw[hst];exact N) ch) F' λb hb=>?_
  rcases abO.mp hb with z |z
  .subst z;exact ch _ aeH
  .have z':b=T:=by simpa using z
   subst z'
   exact⟨I.hok.fresh hT,I.ch (aiw hT)⟩
 .subst z
  cases tb with
  |none=>cases ht
  |some T=>exact Ph hf F rfl (k s T I F ch)
theorem Inv.off{M:Model}{E:Value->Shared->Prop}{e T:Addr}{cls:Value}{d:Option Addr×Bool}{fl:Value}{Q:Unit->Shared->Prop}(I:Inv X pins σ H s)(F:fu s.heap e cls d (some T) fl)(hc:∀b∈[e,T],H b=none/\Ch X pins b)
  (k:∀s',Inv X pins σ H s'->fu s'.heap e cls d (some T) .none->Q () s') {A:Around}:wpAny M A (setFlight (.ref e) none) Q E s:=by
 refine Ji F λh' N F'=>k _ (I.noted (ch:=[T]) ⟨λb o q _ n=>N.keep b o q (by simp) n,N.slot,N.there⟩ λb hb=>?_) F'
 have z:b=T:=by simpa using hb
 subst z
 exact hc b (by simp)
end
theorem bF{cc:Bool}{P:Program}{w:World}{K:acF}{mg:Str->Option Value}{base:Heap}{N:List Str}{qual:Str}{scope:Scope}{f:Addr}{cd:Value}{A:Around}{outer:List Env}{s₀:Shared}{H₀:Hp}{E:XK}:
  ye (Ik cc (CK P w) P w K mg base N qual scope f cd A outer s₀ H₀ E) (λ_=>E):=by
 intro pins σ H s e cls d x q
 show wpAny _ _ (leaving _ _) _ _ s
 unfold leaving
 refine wpAny_bind (x.note rfl rfl λs1 T I1 F1 c1=>?_)
 refine I1.off F1 c1 λs2 I2 F2=>?_
 refine⟨e,some T,cls,d,H,rfl,I2.os,I2.bare,I2.base,I2.hok,F2,λb hb=>?_,q⟩
 have z:=c1 b (by simpa using hb)
 refine⟨z.1,?_⟩
 rcases z.2.1 with y |y
 .exact absurd (show b∈([]:List Addr)from y) (by simp)
 .exact y
theorem Oi{cc:Bool}{P:Program}{w:World}{K:acF}{mg:Str->Option Value}{base:Heap}{N:List Str}{qual:Str}{scope:Scope}{f:Addr}{cd:Value}{A:Around}{outer:List Env}{s₀:Shared}{H₀:Hp}{E:XK}:
  PassesOwn (model P w) (A.deeper (envOfC qual scope s₀.heap.objs.size f cd)) (envOfC qual scope s₀.heap.objs.size f cd) (Ik cc (CK P w) P w K mg base N qual scope f cd A outer s₀ H₀ E).xe:=PassesOwn.leaving
section
variable{X:Cx}{Kx:St->XK}{cc:Bool}{k k':Nat}{f C:Addr}{fd:FuncData}{ps:List Str}{sp:Sp}{x m:Str}{p pos apos:Pos}{e o:Expr}{es:List Expr}{σ:St}{H:Hp}{Q:VK}
theorem Ft{pins:List (Addr×Obj)}{s:Shared}{us:List Value}{vs:List V}(F:xU X.prog X.w X.K X.mg X.base (CK X.prog X.w) cc k f fd ps sp)(hr:fB cc k X.A)(hb:Binds X.K fd ps [])(hx:ye X Kx)
  (I:Inv X pins σ H s) (r:Vals vs us) (h:sp vs H Q (Kx σ)):wpAny (model X.prog X.w) X.A (call (.ref f) us) (EP X pins σ Q) X.xe s:=by
 have hl:us.length=ps.length:=by rw[<-r.length];exact F.len _ _ _ _ h
 have hb':=hb s us I.kIn (by simpa using hl)
 rw[List.append_nil]at hb'
 refine wpAny_call (codeAny_mono (F.run X.A X.stack s H ⟨us,[]⟩ us vs Q (Kx σ) hr I.env0 hb' r h) λr s' hq=>?_)
 cases r with
 |error e=>
  obtain⟨a,cls,d,H',rfl,xa,q⟩:=I.flown hq
  exact hx pins σ H' s' a cls d xa q
 |ok fl=>
  cases fl with
  |ret u=>exact I.after hq
  |next=>exact False.elim hq
  |brk=>exact False.elim hq
  |cont=>exact False.elim hq
end
def EV(X:Cx)(e:Expr)(σ:St)(H:Hp)(Q:VK):Prop:=
 ∀(pins:List (Addr×Obj)) (s:Shared),Inv X pins σ H s->wpAny (model X.prog X.w) X.A (eval e X.env) (EP X pins σ Q) X.xe s
def ET(X:Cx)(e:Expr)(σ:St)(H:Hp)(Q:Bool->Hp->Prop):Prop:=
 ∀(pins:List (Addr×Obj)) (s:Shared),Inv X pins σ H s->wpAny (model X.prog X.w) X.A (isTrue e X.env (eval e X.env)) (TP X pins σ Q) X.xe s
def EW(X:Cx)(e:Expr)(σ:St)(H:Hp)(Q:Bool->Hp->Prop):Prop:=
 ∀(whole:Sem Value) (pins:List (Addr×Obj)) (s:Shared),Inv X pins σ H s->wpAny (model X.prog X.w) X.A (isTrue e X.env whole) (TP X pins σ Q) X.xe s
def EA(X:Cx)(es:List Expr)(σ:St)(H:Hp)(Q:List V->Hp->Prop):Prop:=
 ∀(pos:Pos) (pins:List (Addr×Obj)) (s:Shared),Inv X pins σ H s->wpAny (model X.prog X.w) X.A (spliced (backTo pos (starEach es X.env))) (AP X pins σ Q) X.xe s
def EO(X:Cx)(e:Option Expr)(σ:St)(H:Hp)(Q:Option Int->Hp->Prop):Prop:=∃t,PO X e t/\t σ H Q
def SX(X:Cx)(st:Stmt)(D:Ends)(σ:St)(H:Hp):Prop:=
 ∀(pins:List (Addr×Obj)) (s:Shared),Inv X pins σ H s->wpAny (model X.prog X.w) X.A (exec st X.env) (SP X pins D) X.xe s
def lH(X:Cx)(st:List Stmt)(D:Ends)(σ:St)(H:Hp):Prop:=
 ∀(pins:List (Addr×Obj)) (s:Shared),Inv X pins σ H s->wpAny (model X.prog X.w) X.A (execs st X.env) (SP X pins D) X.xe s
def EG(X:Cx)(tg:Expr)(v:V)(σ:St)(H:Hp)(Q:St->Hp->Prop):Prop:=
 ∀(pins:List (Addr×Obj)) (s:Shared) (u:Value),Inv X pins σ H s->RelV v u->wpAny (model X.prog X.w) X.A (assign tg X.env u) (λ_ s'=>∃σ' H',Inv X pins σ' H' s'/\Q σ' H') X.xe s
def EGs(X:Cx)(ts:List Expr)(vs:List V)(σ:St)(H:Hp)(Q:St->Hp->Prop):Prop:=
 ∀(pins:List (Addr×Obj)) (s:Shared) (us:List Value),Inv X pins σ H s->Vals vs us->wpAny (model X.prog X.w) X.A (assignInOrder ((assignEach ts X.env).map (·.2)) us) (λ_ s'=>∃σ' H',Inv X pins σ' H' s'/\Q σ' H') X.xe s
def EI(X:Cx)(tg iter:Expr)(σ:St)(H:Hp)(R:It->Hp->Prop):Prop:=
 ∀(pins:List (Addr×Obj)) (s:Shared),Inv X pins σ H s->
  wpAny (model X.prog X.w) X.A (eval iter X.env) (λv s1=>wpAny (model X.prog X.w) X.A (pyIter v) (PIE X pins σ tg R) X.xe s1) X.xe s
def OP(X:Cx)(f:Value->Value->Sem Value)(x y:V)(H:Hp)(Q:VK):Prop:=∃r,wZ X f r/\r x y H Q
def UN(X:Cx)(f:Value->Sem Value)(x:V)(H:Hp)(Q:VK):Prop:=∃r,UnR X f r/\r x H Q
def CL(X:Cx)(f:Value)(xs:List V)(H:Hp)(Q:VK):Prop:=∃r,uf X f r/\r xs H Q
def IX(X:Cx)(x y:V)(H:Hp)(Q:VK):Prop:=∃r,IxR X r/\r x y H Q
def SL(X:Cx)(x:V)(lo hi:Option Int)(H:Hp)(Q:VK):Prop:=∃r,SlR X r/\r x lo hi H Q
def MT(X:Cx)(id:String)(x:V)(xs:List V)(H:Hp)(Q:VK):Prop:=∃r,MtR X id r/\r x xs H Q
section
variable{X:Cx}{a b c e:Expr}{es:List Expr}{σ:St}{H:Hp}{Q:VK}{QT:Bool->Hp->Prop}{QA:List V->Hp->Prop}{D:Ends}{pos p apos:Pos}{x:Str}{v:V}
theorem bJ:PE X e (EV X e):=λpins s _ _ _ I h=>h pins s I
theorem pI:PT X e (ET X e):=λpins s _ _ _ I h=>h pins s I
theorem Eg:PW X e (EW X e):=λwhole pins s _ _ _ I h=>h whole pins s I
theorem pR:PA X es (EA X es):=λpos pins s _ _ _ I h=>h pos pins s I
theorem Nj{o:Option Expr}:PO X o (EO X o):=λpins s σ H Q I ⟨_,h,q⟩=>h pins s σ H Q I q
theorem Mw{st:Stmt}:PS X st (SX X st):=λpins s _ _ _ I h=>h pins s I
theorem qJ{st:List Stmt}:Wv X st (lH X st):=λpins s _ _ _ I h=>h pins s I
theorem MF{tg:Expr}:PG X tg (EG X tg):=λpins s _ _ _ u _ I r h=>h pins s u I r
theorem Ii{ts:List Expr}:PGs X ts (EGs X ts):=λpins s _ _ _ us _ I r h=>h pins s us I r
theorem W7{tg iter:Expr}:PI X tg iter (EI X tg iter):=λpins s _ _ _ I h=>h pins s I
theorem Fv{f:Value->Value->Sem Value}:wZ X f (OP X f):=λpins s σ H x y v u Q I rx ry ⟨_,h,q⟩=>h pins s σ H x y v u Q I rx ry q
theorem Xy{f:Value->Sem Value}:UnR X f (UN X f):=λpins s σ H x v Q I rx ⟨_,h,q⟩=>h pins s σ H x v Q I rx q
theorem NQ{f:Value}:uf X f (CL X f):=λpins s σ H xs us Q I rx ⟨_,h,q⟩=>h pins s σ H xs us Q I rx q
theorem Y4:IxR X (IX X):=λva sl pins s σ H x y v u Q I rx ry ⟨_,h,q⟩ hs=>h va sl pins s σ H x y v u Q I rx ry q hs
theorem X8:SlR X (SL X):=λpins s σ H x v vl vu lo hi sl Q I rx hs pl pu ⟨_,h,q⟩=>h pins s σ H x v vl vu lo hi sl Q I rx hs pl pu q
theorem Mg{id:String}:MtR X id (MT X id):=λpins s σ H x xs v us Q I rx rs ⟨_,h,q⟩=>h pins s σ H x xs v us Q I rx rs q
theorem gW{t:TE}(h:PE X e t)(q:t σ H Q):EV X e σ H Q:=λpins s I=>h pins s σ H Q I q
theorem Mx{t:TT}(h:PT X e t)(q:t σ H QT):ET X e σ H QT:=λpins s I=>h pins s σ H QT I q
theorem ZR{t:TA}(h:PA X es t)(q:t σ H QA):EA X es σ H QA:=λpos pins s I=>h pos pins s σ H QA I q
theorem Hq{st:Stmt}{t:TS}(h:PS X st t)(q:t D σ H):SX X st D σ H:=λpins s I=>h pins s σ H D I q
theorem Jz{st:List Stmt}{t:TS}(h:Wv X st t)(q:t D σ H):lH X st D σ H:=λpins s I=>h pins s σ H D I q
theorem aah{tg:Expr}{t:TG}{QG:St->Hp->Prop}(h:PG X tg t)(q:t v σ H QG):EG X tg v σ H QG:=λpins s u I r=>h pins s σ H v u QG I r q
theorem Vx{ts:List Expr}{t:TGs}{vs:List V}{QG:St->Hp->Prop}(h:PGs X ts t)(q:t vs σ H QG):EGs X ts vs σ H QG:=λpins s us I r=>h pins s σ H vs us QG I r q
theorem Ss{tg iter:Expr}{t:TI}{R:It->Hp->Prop}(h:PI X tg iter t)(q:t σ H R):EI X tg iter σ H R:=λpins s I=>h pins s σ H R I q
def vD:List Str->St->Str->Option V
 |n::N,o::σ,x=>if n=x then o else vD N σ x
 |_,_,_=>none
theorem wV:∀{N:List Str} {σ:St} {x:Str} {v:V},vD N σ x=some v->∃i:Nat,N[i]? =some x/\σ[i]? =some (some v)
 |n::N,o::σ,x,v,h=>by
  unfold vD at h
  split at h
  .rename_i e
   exact⟨0,by simp[e],by simp[h]⟩
  .obtain⟨i,h1,h2⟩:=wV h
   exact⟨i+1,by simpa using h1,by simpa using h2⟩
 |[],_,_,_,h=>by simp[vD]at h
 |_::_,[],_,_,h=>by simp[vD]at h
def nameAt:List Str->Str->Option Nat
 |n::N,x=>if n=x then some 0 else(nameAt N x).map (· +1)
 |[],_=>none
theorem ig:∀{N:List Str} {x:Str} {i:Nat},nameAt N x=some i->N[i]? =some x
 |n::N,x,i,h=>by
  unfold nameAt at h
  split at h
  .rename_i e
   cases h
   simp[e]
  .cases q:nameAt N x with
   |none=>rw[q]at h;cases h
   |some j=>
    rw[q]at h
    cases h
    simpa using ig q
 |[],_,_,h=>by simp[nameAt]at h
theorem Xk(hn:vD X.N σ x=some v)(hv:Vis X.env.scope x)(q:Q v H)(hd:(x==("__debug__":Str))=false)(hcd:(x==("__classdict__":Str))=false):EV X (.Name x pos) σ H Q:=by
 obtain⟨i,h1,h2⟩:=wV hn
 exact gW (aaS h1 hv hd hcd) ⟨v,h2,q⟩
def Gc(mg:Str->Option Value)(x:Str)(v:V):Prop:=∃u,mg x=some u/\RelV v u
theorem afh(g:Gc X.mg x v)(hg:Gl X x)(q:Q v H)(hd:(x==("__debug__":Str))=false):EV X (.Name x pos) σ H Q:=by
 obtain⟨u,h1,h2⟩:=g
 exact gW (XJ hg h1 h2 hd) q
theorem ZG{T:String}(hg:Gl X x)(hm:X.mg x=none)(hv:bootBuiltins x=some (.type T))(q:Q (.ty T) H)(hn:x≠"__name__")(hd:(x==("__debug__":Str))=false):EV X (.Name x pos) σ H Q:=
 gW (WX hg hm hv (v:=.ty T) rfl hn hd) q
theorem adV{i:Int}{j}(q:Q (.int i) H):EV X (.Constant (.int i) j pos) σ H Q:=gW aaW q
theorem agw{i:Bool}{j}(q:Q (.bl i) H):EV X (.Constant (.bool i) j pos) σ H Q:=gW afp q
theorem abd{j}(q:Q .non H):EV X (.Constant .none j pos) σ H Q:=gW aeu q
theorem Ve{i:Str}{j}(q:Q (.str i) H):EV X (.Constant (.str i) j pos) σ H Q:=gW aeb q
theorem acn{op:Operator}(h:EV X a σ H λx H1=>EV X b σ H1 λy H2=>OP X (binaryOp op) x y H2 Q):EV X (.BinOp a op b pos) σ H Q:=gW (ajT Fv bJ bJ) h
theorem ajd{op:UnaryOp}(h:EV X a σ H λx H1=>UN X (unaryOp op) x H1 Q):EV X (.UnaryOp op a pos) σ H Q:=gW (ae8 Xy bJ) h
theorem acS{op:CmpOp}(hm:behindInMarks op b=false)(h:EV X a σ H λx H1=>EV X b σ H1 λy H2=>OP X (compareOp op) x y H2 Q):EV X (.Compare a [op] [b] pos) σ H Q:=gW (WY Fv bJ bJ hm) h
theorem abD{op:CmpOp}(hm:behindInMarks op b=false)(h:EV X a σ H λx H1=>EV X b σ H1 λy H2=>OP X (compareOp op) x y H2 λz H3=>∃k,z= .bl k/\QT k H3):ET X (.Compare a [op] [b] pos) σ H QT:=Mx (YM Fv bJ bJ hm) h
theorem Es(he:∀whole,isTrue e X.env whole=(do let v<-whole;standAt e.pos;holding [v] (truthy v)))(h:EV X e σ H λx H'=>∃k,Yc X.K x H' k/\QT k H'):ET X e σ H QT:=Mx (Ub bJ he) h
theorem abK(h:ET X a σ H λk H1=>QT (!k) H1):ET X (.UnaryOp .Not a pos) σ H QT:=Mx (abG pI) h
theorem alw(h:EW X e σ H QT):ET X e σ H QT:=Mx Eg.pt h
theorem Ng{t:TT}(h:PW X e t)(q:t σ H QT):EW X e σ H QT:=λwhole pins s I=>h whole pins s σ H QT I q
theorem abp{rest:List Expr}(h:ET X a σ H λk H1=>if k=true then EW X (.BoolOp .And (b::rest) pos) σ H1 QT else QT false H1):EW X (.BoolOp .And (a::b::rest) pos) σ H QT:=Ng (aa5 pI Eg) h
theorem aiD{rest:List Expr}(h:ET X a σ H λk H1=>if k=true then QT true H1 else EW X (.BoolOp .Or (b::rest) pos) σ H1 QT):EW X (.BoolOp .Or (a::b::rest) pos) σ H QT:=Ng (afd pI Eg) h
theorem XD(h:ET X a σ H QT):EW X (.BoolOp .And [a] pos) σ H QT:=Ng (Zj pI) h
theorem ab0(h:ET X a σ H QT):EW X (.BoolOp .Or [a] pos) σ H QT:=Ng (acQ pI) h
theorem adY{op}(h:EV X a σ H Q):EV X (.BoolOp op [a] pos) σ H Q:=gW (abt bJ) h
theorem ado{rest:List Expr}(h:EV X a σ H λx H1=>∃k,x= .bl k/\if k=true then EV X (.BoolOp .And (b::rest) pos) σ H1 Q else Q (.bl false) H1):EV X (.BoolOp .And (a::b::rest) pos) σ H Q:=gW (acY bJ bJ) h
theorem agT{rest:List Expr}(h:EV X a σ H λx H1=>∃k,x= .bl k/\if k=true then Q (.bl true) H1 else EV X (.BoolOp .Or (b::rest) pos) σ H1 Q):EV X (.BoolOp .Or (a::b::rest) pos) σ H Q:=gW (aj2 bJ bJ) h
theorem adA(h:ET X c σ H λk H1=>if k=true then EV X a σ H1 Q else EV X b σ H1 Q):EV X (.IfExp c a b pos) σ H Q:=gW (U6 pI bJ bJ) h
theorem nP(q:QA [] H):EA X [] σ H QA:=ZR aba q
theorem lq(hs:starEach (e::es) X.env=(false,eval e X.env)::starEach es X.env)(h:EV X e σ H λx H1=>EA X es σ H1 λxs H2=>QA (x::xs) H2):EA X (e::es) σ H QA:=ZR (Yv bJ pR hs) h
theorem RX{x1}(h:EA X es σ H λxs H1=>xs.length≤sizeLine/\∀p,H1 p=none->Q (.ref p) (upd H1 p (.tup xs))):EV X (.Tuple es x1 pos) σ H Q:=gW (ac2 pR) h
theorem aca(h:EA X es σ H λxs H1=>xs.length≤sizeLine/\∀p,H1 p=none->Q (.ref p) (upd H1 p (.lst xs))):EV X (.List es pos) σ H Q:=gW (acp pR) h
theorem qH{id:String}(hg:Gl X x)(hm:X.mg x=none)(hv:bootBuiltins x=some (.builtin id))(hn:x≠"__name__")(hdb:(x==("__debug__":Str))=false)
  (he:starEach (e::es) X.env=(false,eval e X.env)::starEach es X.env) (hpl:(backTo pos (starEach es X.env)).any (·.1)=false) (h:EA X (e::es) σ H λvs H1=>CL X (.builtin id) vs H1 Q):EV X (.Call (.Name x p) (e::es) [] pos) σ H Q:=
 gW (Uh NQ hg hm hv pR hn hdb he hpl) h
theorem vN{T:String}(hg:Gl X x)(hm:X.mg x=none)(hv:bootBuiltins x=some (.type T))(hn:x≠"__name__")(hdb:(x==("__debug__":Str))=false)
  (he:starEach (e::es) X.env=(false,eval e X.env)::starEach es X.env) (hpl:(backTo pos (starEach es X.env)).any (·.1)=false) (h:EA X (e::es) σ H λvs H1=>CL X (.type T) vs H1 Q):EV X (.Call (.Name x p) (e::es) [] pos) σ H Q:=
 gW (Rj NQ hg hm hv pR hn hdb he hpl) h
structure Def(P:Program)(w:World)(K:acF)(mg:Str->Option Value)(base:Heap)(cc:Bool)(k:Nat)(x:Str)(ps:List Str)(sp:Sp):Prop where
 ex:∃f fd,mg x=some (.ref f)/\ab8 K (.ref f)=true/\Binds K fd ps []/\xU P w K mg base (CK P w) cc k f fd ps sp
theorem fB.Be{cc DN:Bool}{k:Nat}{A:Around}(r:fB cc k A)(h:DN=true->cc=true):fB DN k A:=⟨λz=>r.hd (h z),r.dp,r.un⟩
theorem Zc{Kx:St->XK}{cc DN:Bool}{k k':Nat}{ps:List Str}{sp:Sp}(F:Def X.prog X.w X.K X.mg X.base DN k x ps sp)(hr:fB cc k' X.A)(hk:k≤k')(hcc:DN=true->cc=true)(hg:Gl X x)(hx:ye X Kx)
  (hdb:(x==("__debug__":Str))=false) (he:starEach (e::es) X.env=(false,eval e X.env)::starEach es X.env) (hpl:(backTo pos (starEach es X.env)).any (·.1)=false)
  (h:EA X (e::es) σ H λvs H1=>sp vs H1 Q (Kx σ)):EV X (.Call (.Name x p) (e::es) [] pos) σ H Q:=by
 obtain⟨f,fd,h1,h2,h3,h4⟩:=F.ex
 intro pins s I
 refine wpAny_Call_Name_kw (iz I hg h1 ?_ hdb)
 refine atg (h₀:=X.base) I.ok.mod.kin h2 (cZ (h pos pins s I) λus s1 ⟨vs,H1,I1,r,q⟩=>⟨I1.kIn,?_⟩) he hpl
 exact Ft h4 ((hr.mono hk).Be hcc) h3 hx I1 r q
theorem ag5(hs:Ni b)(h:EV X a σ H λx H1=>EV X b σ H1 λy H2=>IX X x y H2 Q):EV X (.Subscript a b pos) σ H Q:=gW (afq Y4 bJ bJ hs) h
theorem WW{QO:Option Int->Hp->Prop}(q:QO none H):EO X none σ H QO:=⟨_,Xq,q⟩
theorem YC{QO:Option Int->Hp->Prop}(q:EV X e σ H λx H1=>∃i,x= .int i/\QO (some i) H1):EO X (some e) σ H QO:=⟨_,Y9 bJ,q⟩
theorem agu{lo hi:Option Expr}{p2:Pos}(h:EV X a σ H λx H1=>EO X lo σ H1 λl H2=>EO X hi σ H2 λu H3=>SL X x l u H3 Q):EV X (.Subscript a (.Slice lo hi none p2) pos) σ H Q:=gW (Vw X8 bJ Nj Nj) h
theorem fX{T id:String}{name:Str}(pa:PlainAttrs T)(slot:Slot T name id)(hty:typeOf (.builtin id)=pure (.type "method_descriptor"))
  (hbase:attributeBase a name X.env (eval a X.env)=eval a X.env)
  (hfew:((backTo pos (starEach (e::es) X.env)).all (λx=> !x.1)&&(backToKw pos (keywordEach [] X.env)).all (λx=>x.1.isSome)
   &&decide ((e::es).length+([]:List Keyword).length+(if([]:List Keyword).isEmpty then 0 else 1)<30))=true)
  (hline:(apos.endLine==pos.line)=true) (hs:starEach (e::es) X.env=(false,eval e X.env)::starEach es X.env) (hplain:(backTo pos (starEach es X.env)).any (·.1)=false)
  (h:EV X a σ H λx H1=>tyV X.K T x H1/\EA X (e::es) σ H1 λxs H2=>MT X id x xs H2 Q):EV X (.Call (.Attribute a name apos) (e::es) [] pos) σ H Q:=
 gW (ahN pa slot hty Mg bJ pR hbase hfew hline hs hplain) h
theorem Ue{T id:String}{name:Str}(pa:PlainAttrs T)(slot:Slot T name id)(hty:typeOf (.builtin id)=pure (.type "method_descriptor"))
  (hbase:attributeBase a name X.env (eval a X.env)=eval a X.env) (hline:(apos.endLine==pos.line)=true)
  (h:EV X a σ H λx H1=>tyV X.K T x H1/\MT X id x [] H1 Q):EV X (.Call (.Attribute a name apos) [] [] pos) σ H Q:=
 gW (ab6 pa slot hty Mg bJ hbase hline) h
theorem aL(q:D.nx σ H):lH X [] D σ H:=Jz Zb q
theorem aj{st:Stmt}{rest:List Stmt}(h:SX X st {D with nx:=λσ' H'=>lH X rest D σ' H'} σ H):lH X (st::rest) D σ H:=Jz (V7 Mw qJ) h
theorem aq{st:Stmt}(h:SX X st D σ H):lH X [st] D σ H:=Jz (X5 Mw) h
theorem eU(hs:swapsWith e none pos.line X.env=pure false)(h:EV X e σ H λ_ H1=>D.nx σ H1):SX X (.Expr e pos) D σ H:=Hq (W4 bJ hs) h
theorem bA(h:EV X e σ H D.rt):SX X (.Return (some e) pos) D σ H:=Hq (aa1 bJ) h
theorem bx{t u:List Stmt}(h:ET X c σ H λk H1=>if k=true then lH X t D σ H1 else lH X u D σ H1):SX X (.If c t u pos) D σ H:=Hq (ajH pI qJ qJ) h
theorem Ur{i:Nat}{p':Pos}(hN:X.N.Nodup)(hi:nameAt X.N x=some i)(hx:Loc X.env.scope x)(hs:swapsWith e (some (.Name x p')) pos.line X.env=pure false)(hf:X.fn x=true\/X.env.scope.names.lookup x=some .local)
  (h:EV X e σ H λv H1=>D.nx (σ.set i (some v)) H1):SX X (.Assign [.Name x p'] e pos) D σ H:=Hq (aaU hN (ig hi) hx bJ hs hf) h
theorem aM{i:Nat}{QG:St->Hp->Prop}(hN:X.N.Nodup)(hi:nameAt X.N x=some i)(hx:Loc X.env.scope x)(hf:X.fn x=true\/X.env.scope.names.lookup x=some .local)(q:QG (σ.set i (some v)) H):EG X (.Name x pos) v σ H QG:=
 aah (Yu hN (ig hi) hx hf) q
theorem cR{QG:St->Hp->Prop}(q:QG σ H):EGs X [] [] σ H QG:=Vx Xx ⟨rfl,q⟩
theorem aO{ts:List Expr}{vs:List V}{QG:St->Hp->Prop}(hs:(assignEach (e::ts) X.env).map (·.2)=assign e X.env::(assignEach ts X.env).map (·.2))(h:EG X e v σ H λσ' H'=>EGs X ts vs σ' H' QG):EGs X (e::ts) (v::vs) σ H QG:=
 Vx (UT MF Ii hs) ⟨v,vs,rfl,h⟩
theorem dW{n:Nat}{k:Nat}{QG:St->Hp->Prop}{q:Addr}{xs:List V}(hc:X.calm=true)(hn:(assignEach es X.env).length=n)(hst:(assignEach es X.env).findIdx? (·.1)=none)
  (ht:dg X.K H q xs) (hl:xs.length=n) (h:EGs X es xs σ H QG):EG X (.Tuple es k pos) (.ref q) σ H QG:=
 aah (abE hc Ii hn hst) ⟨q,xs,rfl,ht,hl,h⟩
theorem wQ{tg iter:Expr}{body:List Stmt}(hp:PassesOwn (model X.prog X.w) X.A X.env X.xe)(hc:X.calm=true)(hs:∀x,foldedSetIterable iter X.env x=pure x)
  (h:EI X tg iter σ H λJ H1=>∃W:Nat->Nat->St->Hp->Prop,(∃m,W 0 m σ H1)/\∀i m σ H,W i m σ H->
   (J.stop i H/\D.nx σ H)\/(J.go i H/\∃N:St->Hp->Prop,(∀σ' H',N σ' H'->∃m',m'<m/\W (i+1) m' σ' H')/\∀x H',J.yld i H x H'->EG X tg x σ H' λσ2 H2=>lH X body {D with nx:=N,ct:=N,bk:=D.nx} σ2 H2)):
  SX X (.For tg iter body [] pos) D σ H:=Hq (abM hp hc W7 MF qJ hs) h
theorem sH{tg l:Expr}{R:It->Hp->Prop}(h:EV X l σ H λx H1=>∃a,x= .ref a/\(∃xs,aX X.K H1 a xs)/\R (YT X.K a) H1):EI X tg l σ H R:=Ss (YZ bJ) h
theorem aaC{tg l:Expr}{R:It->Hp->Prop}(h:EV X l σ H λx H1=>∃a,x= .ref a/\(∃xs,dg X.K H1 a xs)/\R (Itt X.K a) H1):EI X tg l σ H R:=Ss (ack bJ) h
theorem xY{tg:Expr}{R:It->Hp->Prop}(hg:Gl X "range")(hm:X.mg "range"=none)(hs:starEach [a] X.env=[(false,eval a X.env)])
  (h:EA X [a] σ H λvs H1=>∃j:Int,vs=[.int j]/\ -(2^62)≤j/\j<2^62/\R (Itr 0 j.toNat) H1):EI X tg (.Call (.Name "range" p) [a] [] pos) σ H R:=Ss (Ql hg hm pR hs) h
theorem bV{Q':VK}(h:EV X e σ H Q)(m:∀v H',Q v H'->Q' v H'):EV X e σ H Q':=λpins s I=>cZ (h pins s I) λ_ _ ⟨v,H',I',r,q⟩=>⟨v,H',I',r,m v H' q⟩
theorem jm{f:Value->Value->Sem Value}{r:R2}{y z:V}(h:wZ X f r)(q:r y z H Q):OP X f y z H Q:=⟨r,h,q⟩
variable{i j:Int}{k k':Bool}{z z':Str}
theorem ajX(q:Q (.int (i+j)) H):OP X (binaryOp .Add) (.int i) (.int j) H Q:=jm aaF ⟨i,j,rfl,rfl,q⟩
theorem ahZ(q:Q (.int (i-j)) H):OP X (binaryOp .Sub) (.int i) (.int j) H Q:=jm acE ⟨i,j,rfl,rfl,q⟩
theorem agA(c:Zi i j)(q:Q (.int (i*j)) H):OP X (binaryOp .Mult) (.int i) (.int j) H Q:=jm adL ⟨i,j,rfl,rfl,c,q⟩
theorem acG(c:aje i j)(q:Q (.int (i / j)) H):OP X (binaryOp .FloorDiv) (.int i) (.int j) H Q:=jm WL ⟨i,j,rfl,rfl,c,q⟩
theorem aiP(c:0<j)(q:Q (.int (i % j)) H):OP X (binaryOp .Mod) (.int i) (.int j) H Q:=jm abk ⟨i,j,rfl,rfl,c,q⟩
theorem T4(c:agQ i j)(q:Q (.int (i^j.toNat)) H):OP X (binaryOp .Pow) (.int i) (.int j) H Q:=jm abg ⟨i,j,rfl,rfl,c,q⟩
theorem arw(q:Q (.bl (decide (i<j))) H):OP X (compareOp .Lt) (.int i) (.int j) H Q:=jm ajC ⟨i,j,rfl,rfl,q⟩
theorem axD(q:Q (.bl (decide (i≤j))) H):OP X (compareOp .LtE) (.int i) (.int j) H Q:=jm ahR ⟨i,j,rfl,rfl,q⟩
theorem asZ(q:Q (.bl (decide (j<i))) H):OP X (compareOp .Gt) (.int i) (.int j) H Q:=jm aeX ⟨i,j,rfl,rfl,q⟩
theorem awM(q:Q (.bl (decide (j≤i))) H):OP X (compareOp .GtE) (.int i) (.int j) H Q:=jm ahY ⟨i,j,rfl,rfl,q⟩
theorem awX{y z:V}(s:Zn y z=true)(q:Q (.bl (decide (y=z))) H):OP X (compareOp .Eq) y z H Q:=jm ags ⟨s,q⟩
theorem aqY{y z:V}(s:Zn y z=true)(q:Q (.bl (!decide (y=z))) H):OP X (compareOp .NotEq) y z H Q:=jm aeW ⟨s,q⟩
theorem ahC(q:Q (.bl (!(Builtin.Str.occurrences z' z 0 z'.length 1).isEmpty)) H):OP X (compareOp .In) (.str z) (.str z') H Q:=jm QZ ⟨z,z',rfl,rfl,q⟩
theorem agL{y:V}(q:Q (.bl (decide (y= .non))) H):OP X (compareOp .Is) y .non H Q:=jm ab3 ⟨rfl,q⟩
theorem aZ(c:z.length+z'.length≤sizeLine)(q:Q (.str (z++z')) H):OP X (binaryOp .Add) (.str z) (.str z') H Q:=jm JD ⟨z,z',rfl,rfl,c,q⟩
theorem aiy(q:Q (.int (-i)) H):UN X (unaryOp .USub) (.int i) H Q:=⟨_,acJ,i,rfl,q⟩
theorem jN{f:Value}{r:List V->Hp->VK->Prop}{vs:List V}(h:uf X f r)(q:r vs H Q):CL X f vs H Q:=⟨r,h,q⟩
theorem Tv{q:Addr}{ys:List V}(h:aX X.K H q ys\/dg X.K H q ys)(g:Q (.int ys.length) H):CL X (.builtin "len") [.ref q] H Q:=jN EY ⟨q,ys,rfl,h,g⟩
theorem ac1(h:z.length≤sizeLine)(g:Q (.int z.length) H):CL X (.builtin "len") [.str z] H Q:=jN DW ⟨z,rfl,h,g⟩
theorem lN(h:i.natAbs.log2<1920)(g:Q (.str (toString i)) H):CL X (.type "str") [.int i] H Q:=jN Dt ⟨i,rfl,h,g⟩
theorem V0{r:R2}{y z:V}(h:IxR X r)(q:r y z H Q):IX X y z H Q:=⟨r,h,q⟩
theorem aR{q:Addr}{xs:List V}(h:aX X.K H q xs)(e:lR xs i=some v)(g:Q v H):IX X (.ref q) (.int i) H Q:=V0 Xi ⟨q,xs,i,v,rfl,rfl,h,e,g⟩
theorem cQ{q:Addr}{xs:List V}(h:dg X.K H q xs)(e:lR xs i=some v)(g:Q v H):IX X (.ref q) (.int i) H Q:=V0 adW ⟨q,xs,i,v,rfl,rfl,h,e,g⟩
theorem yr{n:Nat}(h:z.length≤sizeLine)(e:lR z.cps.toList i=some n)(g:Q (.str ⟨#[n]⟩) H):IX X (.str z) (.int i) H Q:=V0 ac6 ⟨z,i,n,rfl,rfl,h,e,g⟩
theorem KC{q:Addr}{xs:List V}{lo hi:Option Int}(h:aX X.K H q xs)(g:∀p,H p=none->Q (.ref p) (upd H p (.lst (yN xs lo hi)))):SL X (.ref q) lo hi H Q:=⟨_,X6,q,xs,rfl,h,g⟩
theorem zP{y:V}{t:Value}{T:String}(ty:qt X.K H y t)(e:akF X.K t (.type T)=some k)(g:Q (.bl k) H):CL X (.builtin "isinstance") [y,.ty T] H Q:=by
 refine⟨λxs H Q=>∃y t T k,xs=[y,.ty T]/\qt X.K H y t/\akF X.K t (.type T)=some k/\Q (.bl k) H,?_,y,t,T,k,rfl,ty,e,g⟩
 intro pins s σ H xs us Q I r h
 obtain⟨y,t,T,k,rfl,ty,e,g⟩:=h
 obtain⟨u1,u2,rfl,r1,r2⟩:=vals2 r
 cases(show u2=Value.type T from r2)
 exact Rq I r1 ty e λtk=>⟨.bl k,H,I.tok tk,rfl,g⟩
end
def Its(x:Str):It:=⟨λi _=>i<x.cps.size,λi H v H'=>H'=H/\∃c,x.cps[i]? =some c/\v= .str ⟨#[c]⟩,λi _=>x.cps.size≤i⟩
theorem Tt{P:Program}{w:World}{K:PySem.W.Frag}{tg:Expr}{T:String}(hT:T="str_ascii_iterator"\/T="str_iterator")(it:Addr)(x:Str)(t:Tok):Turn P w K tg (Its x) [it] it (λi h=>h.IsStrIter it T x t i)where
 mem:=by simp
 obj:=λi h st b hb=>by
  have e:b=it:=by simpa using hb
  subst e
  obtain⟨o,e,c,d⟩:=st
  exact⟨o,e,λv z=>by rw[d]at z;cases z⟩
 keep:=λi h h' st k=>by
  obtain⟨o,e,c,d⟩:=st
  exact⟨o,k it (by simp) o e,c,d⟩
 item:=by
  intro X hP hw hK hc i pins s σ H E I hf st hg
  subst hP hw hK
  obtain⟨f0,f1,f2,f3,f4,f5⟩:=hf it (by simp)
  have hg':i<x.cps.size:=hg
  have hW:∃W:Nat->Heap->Prop,Walks X.prog X.w X.A it [it] [it] x.cps.size (SignAt x) W/\W=λi h=>h.IsStrIter it T x t i:=by
   rcases hT with rfl |rfl
   .exact⟨_,Walks.strAscii (I.ok.hd hc) it x t,rfl⟩
   .exact⟨_,Walks.strWide (I.ok.hd hc) it x t,rfl⟩
  obtain⟨_,W,rfl⟩:=hW
  refine W.item i s _ _ hg' st λv h' tk hv st' kk=>?_
  obtain⟨c,u,e1,rfl⟩:=hv
  have I1:Inv X pins σ H {s with heap:=h',toks:=tk}:=I.turned (λb o hb e=>kk b o (by simpa using hb) e) f0 f1 f3 f4 f5
  obtain⟨o,e,c',d⟩:=id st'
  refine⟨_,rfl,G4 (s:={s with heap:=h',toks:=tk}) (n:=T) e c' d (by rcases hT with rfl |rfl<;>decide) ⟨.str ⟨#[c]⟩,H,I1,⟨u,rfl⟩,⟨rfl,c,e1,rfl⟩,st',λb hb=>(hf b hb).1⟩⟩
 done:=by
  intro X hP hw hK hc i pins s σ H E I hf st hg
  subst hP hw hK
  obtain⟨f0,f1,f2,f3,f4,f5⟩:=hf it (by simp)
  have hg':x.cps[i]? =none:=Array.getElem?_eq_none hg
  rcases hT with rfl |rfl
  .exact wpAny_pyNext_ascii_end (I.ok.hd hc) st hg' λh' eb=>⟨rfl,I.turned (t':=s.toks) (λb o hb e=>eb b o hb e) f0 f1 f3 f4 f5⟩
  .exact wpAny_pyNext_wide_end (I.ok.hd hc) st hg' λh' eb=>⟨rfl,I.turned (t':=s.toks) (λb o hb e=>eb b o hb e) f0 f1 f3 f4 f5⟩
 self:=λ_ _ _ _ _ st h=>by
  rcases hT with rfl |rfl
  .exact wpAny_pyIter_striter_ascii st h
  .exact wpAny_pyIter_striter_wide st h
section
variable{X:Cx}{tg l:Expr}{σ:St}{H:Hp}{R:It->Hp->Prop}
theorem Td(h:EV X l σ H λx H1=>∃z,x= .str z/\R (Its z) H1):EI X tg l σ H R:=by
 intro pins s I
 refine cZ (h pins s I) λv s1 ⟨x,H1,I1,r1,z,e,q⟩=>?_
 subst e
 obtain⟨t,rfl⟩:=r1
 have fin:∀T:String,(T="str_ascii_iterator"\/T="str_iterator")->
   PIE X pins σ tg R (.ref s1.heap.objs.size) {s1 with heap:=s1.heap.push {cls:=.type T,data:=.fields #[.str z t,.int 0 0]}}:=λT hT=>by
  refine⟨s1.heap.objs.size,[s1.heap.objs.size],_,_,H1,rfl,I1.kept (t':=s1.toks) λb o e=>Heap.get?_push_of_some _ e,Tt hT _ z t,⟨_,aez _ rfl,rfl,rfl⟩,λb hb=>?_,q⟩
  have e:b=s1.heap.objs.size:=by simpa using hb
  subst e
  exact I1.fpOk (aaO _) (I1.hok.fresh (aaO _))
 cases ha:z.cps.all (· <128)
 .exact wpAny_pyIter_wide ha (fin _ (.inr rfl))
 .exact wpAny_pyIter_ascii ha (fin _ (.inl rfl))
end
def gA(N' N:List Str)(σ:St)(scope:Scope):St:=N'.map λx=>if scope.names.lookup x=some .free then vD N σ x else none
def CV(X:Cx)(N':List Str)(scope:Scope)(cl:List (Str×Addr))(C:Addr)(s:Shared)(H:Hp)(fp:List Addr):Cx:=
 {X with N:=N',s₀:=s,H₀:=H,env:=compEnvC scope cl C X.env,outer:=X.stack,stack:=X.stack,ex:=fp,fn:=λ_=>false,pn:=[],xe:=λ_ _=>False}
def adh(X:Cx)(ifs:List Expr)(σ:St)(H:Hp)(Q:Bool->Hp->Prop):Prop:=
 ∀(pins:List (Addr×Obj)) (s:Shared),Inv X pins σ H s->
  wpAny (model X.prog X.w) X.A (forIn ifs true λc r=>if r=true then do let ok<-isTrue c X.env (eval c X.env);pure (ForInStep.yield ok)else pure (ForInStep.yield r)) (TP X pins σ Q) X.xe s
theorem uV(env:Env):∀(names:List (Str×NameKind)) (cs:List (Str×Addr)),(∀y∈names,y.2= .free->∃c,env.cells.lookup y.1=some c)->
  (forIn names cs (λ(x:Str×NameKind) (r:List (Str×Addr))=>if(x.2==NameKind.free)=true then do let a<-cellOf env x.1;pure (ForInStep.yield ((x.1,a)::r))else pure (ForInStep.yield r)):Sem (List (Str×Addr)))=
   pure (names.foldl (λcs y=>if y.2== .free then(y.1,(env.cells.lookup y.1).getD 0)::cs else cs) cs)
 |[],cs,_=>by simp
 |(n,k)::r,cs,h=>by
  rw[List.forIn_cons]
  by_cases hk:k= .free
  .subst hk
   obtain⟨c,e⟩:=h (n,.free) aeH rfl
   have e':cellOf env n=pure c:=by
    unfold cellOf
    have e2:env.cells.lookup n=some c:=e
    rw[e2]
   simp only[beq_self_eq_true,if_true,e',pure_bind]
   have e2:env.cells.lookup n=some c:=e
   rw[uV env r _ λy hy=>h y (aeA _ hy),List.foldl_cons]
   simp only[beq_self_eq_true,if_true,e2,Option.getD_some]
  .have hb:(k==NameKind.free)=false:=by simpa using hk
   simp only[hb,aqD,if_false,pure_bind]
   rw[uV env r _ λy hy=>h y (aeA _ hy),List.foldl_cons]
   simp only[hb,aqD,if_false]
def cN(scope:Scope)(env:Env):List (Str×Addr):=scope.names.foldl (λcs y=>if y.2== .free then(y.1,(env.cells.lookup y.1).getD 0)::cs else cs) []
theorem pP{scope:Scope}{env:Env}(h:∀y∈scope.names,y.2= .free->∃c,env.cells.lookup y.1=some c):closureFor scope env=pure (cN scope env):=by
 have :=uV env scope.names [] h
 unfold closureFor cN
 rw[<-this]
 simp
theorem CT{env:Env}:∀(names:List (Str×NameKind)) (cs:List (Str×Addr)),(∀y∈names,y.2= .free->∃c,env.cells.lookup y.1=some c)->
  ∀x c,(names.foldl (λcs y=>if y.2== .free then(y.1,(env.cells.lookup y.1).getD 0)::cs else cs) cs).lookup x=some c->(env.cells.lookup x=some c\/cs.lookup x=some c)
 |[],cs,_,x,c,e=>.inr e
 |(n,k)::r,cs,h,x,c,e=>by
  rw[List.foldl_cons]at e
  rcases CT r _ (λy hy=>h y (aeA _ hy)) x c e with q |q
  .exact .inl q
  .by_cases hk:k= .free
   .subst hk
    obtain⟨c',e'⟩:=h (n,.free) aeH rfl
    have e2:env.cells.lookup n=some c':=e'
    simp only[beq_self_eq_true,if_true,e2,Option.getD_some,List.lookup_cons]at q
    cases hx:x==n with
    |true=>
     rw[hx]at q
     have hx':x=n:=by simpa using hx
     subst hx'
     exact .inl (e2.trans q)
    |false=>rw[hx]at q;exact .inr q
   .have hb:(k==NameKind.free)=false:=by simpa using hk
    rw[if_neg (by simp[hb])]at q
    exact .inr q
theorem xm{env:Env}:∀(names:List (Str×NameKind)) (cs:List (Str×Addr)) (x:Str),((x,NameKind.free)∈names\/∃c,cs.lookup x=some c)->
  ∃c,(names.foldl (λcs y=>if y.2== .free then(y.1,(env.cells.lookup y.1).getD 0)::cs else cs) cs).lookup x=some c
 |[],cs,x,h=>by
  rcases h with h |h
  .cases h
  .exact h
 |(n,k)::r,cs,x,h=>by
  rw[List.foldl_cons]
  refine xm r _ x ?_
  by_cases hk:k= .free
  .subst hk
   simp only[beq_self_eq_true,if_true,List.lookup_cons]
   cases hx:x==n with
   |true=>exact .inr ⟨_,rfl⟩
   |false=>
    rcases h with h |h
    .rcases abO.mp h with h |h
     .cases h
      simp at hx
     .exact .inl h
    .exact .inr h
  .have hb:(k==NameKind.free)=false:=by simpa using hk
   rw[if_neg (by simp[hb])]
   rcases h with h |h
   .rcases abO.mp h with h |h
    .cases h
     exact absurd rfl hk
    .exact .inl h
   .exact .inr h
theorem vz{env:Env}{x:Str}:∀{names:List (Str×NameKind)},names.lookup x=some .free->
  (names.map λ(n,k)=>if(k==NameKind.free&&env.scope.kind== .function&&env.kindOf n==some .cell)then(n,NameKind.cell)else(n,k)).lookup x=some .cell\/
  (names.map λ(n,k)=>if(k==NameKind.free&&env.scope.kind== .function&&env.kindOf n==some .cell)then(n,NameKind.cell)else(n,k)).lookup x=some .free
 |[],h=>by simp at h
 |(n,k')::r,h=>by
  have ih:= @vz env x r
  show aiE x ((if(k'==NameKind.free&&env.scope.kind== .function&&env.kindOf n==some .cell)=true then(n,NameKind.cell)else(n,k'))::_)=_\/aiE x ((if(k'==NameKind.free&&env.scope.kind== .function&&env.kindOf n==some .cell)=true then(n,NameKind.cell)else(n,k'))::_)=_
  cases hx:x==n with
  |true=>
   simp only[List.lookup_cons,hx]at h
   cases h
   by_cases hc:(NameKind.free==NameKind.free&&env.scope.kind== .function&&env.kindOf n==some .cell)=true
   .rw[if_pos hc];left;simp only[List.lookup_cons,hx]
   .rw[if_neg hc];right;simp only[List.lookup_cons,hx]
  |false=>
   simp only[List.lookup_cons,hx]at h
   by_cases hc:(k'==NameKind.free&&env.scope.kind== .function&&env.kindOf n==some .cell)=true
   .rw[if_pos hc];simp only[List.lookup_cons,hx];exact ih h
   .rw[if_neg hc];simp only[List.lookup_cons,hx];exact ih h
theorem Ba{env:Env}{x:Str}:∀{names:List (Str×NameKind)},(∀y∈names,y.2≠ .cell)->
  ((names.map λ(n,k)=>if(k==NameKind.free&&env.scope.kind== .function&&env.kindOf n==some .cell)then(n,NameKind.cell)else(n,k)).lookup x=some .cell\/
  (names.map λ(n,k)=>if(k==NameKind.free&&env.scope.kind== .function&&env.kindOf n==some .cell)then(n,NameKind.cell)else(n,k)).lookup x=some .free)->(x,NameKind.free)∈names
 |[],_,h=>by simp at h
 |(n,k')::r,hc0,h=>by
  have ih:= @Ba env x r λy hy=>hc0 y (aeA _ hy)
  have h':aiE x ((if(k'==NameKind.free&&env.scope.kind== .function&&env.kindOf n==some .cell)=true then(n,NameKind.cell)else(n,k'))::(r.map λ(n,k)=>if(k==NameKind.free&&env.scope.kind== .function&&env.kindOf n==some .cell)then(n,NameKind.cell)else(n,k)))=some .cell\/
   aiE x ((if(k'==NameKind.free&&env.scope.kind== .function&&env.kindOf n==some .cell)=true then(n,NameKind.cell)else(n,k'))::(r.map λ(n,k)=>if(k==NameKind.free&&env.scope.kind== .function&&env.kindOf n==some .cell)then(n,NameKind.cell)else(n,k)))=some .free:=h
  cases hx:x==n with
  |true=>
   have hx':x=n:=by simpa using hx
   subst hx'
   by_cases hc:(k'==NameKind.free&&env.scope.kind== .function&&env.kindOf x==some .cell)=true
   .have :k'= .free:=by simp only[aaP]at hc;simpa using hc.1.1
    subst this
    exact aeH
   .rw[if_neg hc]at h'
    simp only[List.lookup_cons,hx]at h'
    rcases h' with h' |h'
    .cases h'
     exact absurd rfl (hc0 (x,.cell) aeH)
    .cases h'
     exact aeH
  |false=>
   refine aeA _ (ih ?_)
   by_cases hc:(k'==NameKind.free&&env.scope.kind== .function&&env.kindOf n==some .cell)=true
   .rw[if_pos hc]at h';simpa only[List.lookup_cons,hx]using h'
   .rw[if_neg hc]at h';simpa only[List.lookup_cons,hx]using h'
theorem Dy{prog:Program}{w:World}{A:Around}{R:Result->Shared->Prop}{s:Shared}{elt target iter:Expr}{ifs:List Expr}{scope:Scope}{pos:Pos}{it acc:Value}{env:Env}(I:Nat->Shared->Prop)
  (turn:∀n s,I n s->wpAny (model prog w) A (pyNext it) (λr s₁=>match r with
   |none=>R (.ok .next) s₁
   |some v=>wpAny (model prog w) A (letOwnedTupleGo target it v) (λ_ s₁'=>wpAny (model prog w) A (assign target env v) (λ_ s₂=>
    wpAny (model prog w) A (forIn ifs true λc r=>if r=true then do let ok<-isTrue c env (eval c env);pure (ForInStep.yield ok)else pure (ForInStep.yield r)) (λok s₃=>
     if ok=true then wpAny (model prog w) A (eval elt env) (λx s₄=>
      wpAny (model prog w) A (call (.builtin "list.append") [acc,x]) (λ_ s₅=>∃m,m<n/\I m s₅) (λ_ _=>False) s₄) (λ_ _=>False) s₃
     else ∃m,m<n/\I m s₃) (λ_ _=>False) s₂) (λ_ _=>False) s₁') (λ_ _=>False) s₁) (λ_ _=>False) s)
  (n:Nat) (h:I n s):
  codeAny (model prog w) A (.compLoop (.ListComp elt [⟨target,iter,ifs,0⟩] scope pos) 0 it acc env) R s:=by
 refine codeAny_loop rfl I (λn s hI=>?_) n h
 show wpAny _ A ((compTurn (.ListComp elt [⟨target,iter,ifs,0⟩] scope pos) 0 it acc env).onRaise (λx=>do noteFrame x env;theTreesLotGoes x)) _ _ s
 refine wpAny_noted ?_
 rw[compTurn_list]
 refine wpAny_bind (wpAny_standAt (wpAny_bind (wpAny_mono (turn n s hI) (λr s₁ h₁=>?_) λ_ _ h'=>h'.elim)))
 cases r with
 |none=>exact wpAny_pure h₁
 |some v=>
  refine wpAny_bind (wpAny_mono h₁ (λ_ s₁' h₁'=>?_) λ_ _ h'=>h'.elim)
  refine wpAny_bind (wpAny_mono h₁' (λ_ s₂ h₂=>wpAny_bind (wpAny_mono h₂ (λok s₃ h₃=>?_) λ_ _ h'=>h'.elim)) λ_ _ h'=>h'.elim)
  cases ok with
  |false=>exact wpAny_pure ⟨rfl,h₃⟩
  |true=>
   exact wpAny_bind (wpAny_bind (wpAny_mono h₃ (λx s₄ h₄=>wpAny_bind (wpAny_mono h₄ (λ_ s₅ h₅=>wpAny_pure (wpAny_pure ⟨rfl,h₅⟩)) λ_ _ h'=>h'.elim)) λ_ _ h'=>h'.elim))
section
variable{X:Cx}{pins:List (Addr×Obj)}{σ:St}{H H':Hp}{s s':Shared}{scope:Scope}{fp:List Addr}{N':List Str}
structure dw(env:Env)(scope:Scope):Prop where
 kind:scope.kind= .function
 free:∀y∈scope.names,y.2= .free->env.kindOf y.1=some .cell\/env.kindOf y.1=some .free
 cell:∀y∈scope.names,y.2≠ .cell
 loc:∀y∈scope.names,y.2= .local->scope.names.lookup y.1=some .local
theorem dw.has(S:dw X.env scope)(I:Inv X pins σ H s):∀y∈scope.names,y.2= .free->∃c,X.env.cells.lookup y.1=some c:=λy hy e=>I.ok.has y.1 (S.free y hy e)
theorem dw.cl(S:dw X.env scope)(I:Inv X pins σ H s){x:Str}{c:Addr}(h:(cN scope X.env).lookup x=some c):X.env.cells.lookup x=some c:=by
 rcases CT scope.names [] (S.has I) x c h with q |q
 .exact q
 .simp at q
theorem adv(S:dw X.env scope)(I:Inv X pins σ H s)(hf:∀b∈fp,nO X pins H b)(hfs:∀b∈fp,b<s.heap.objs.size):(CV X N' scope (cN scope X.env) s.heap.objs.size s H fp).Ok where
 mod:=I.ok.mod
 kind:=S.kind
 glob:=I.ok.glob
 blt:=I.ok.blt
 above:=aaO _
 inj:=λx y c h1 h2=>I.ok.inj x y c (S.cl I h1) (S.cl I h2)
 has:=λx hx=>xm (env:=X.env) scope.names [] x (.inl (Ba S.cell hx))
 cab:=λx c h _=>by cases h
 hd:=I.ok.hd
 frames:=I.ok.frames
 stk:=.inl rfl
 exf:=λb hb=>⟨aeB (hfs b hb),λx c h=>(hf b hb).2.2.2.2.1 x c (S.cl I h)⟩
 bs:=I.bs
 bsz:=ah4 I.ok.bsz I.sz
 noex:=λb o e hb=>by
  rcases(hf b hb).2.2.2.1 with z |z
  .exact I.ok.noex b o e z
  .rw[(I.ok.bs b o e).1]at z;cases z
 exfs:=λb hb z=>by
  rcases abO.mp (I.stkSub b z)with e |e
  .exact(hf b hb).2.1 e
  .exact(hf b hb).2.2.1 e
 funs:=I.stack
 frf:=I.stkFree
theorem Qj{N:List Str}{i:Nat}{x:Str}{v:V}(h1:N'[i]? =some x)(h2:(gA N' N σ scope)[i]? =some (some v)):scope.names.lookup x=some .free/\vD N σ x=some v:=by
 unfold gA at h2
 rw[aby,h1]at h2
 have h3:(if scope.names.lookup x=some .free then vD N σ x else none)=some v:=by simpa using h2
 split at h3
 .rename_i e
  exact⟨e,h3⟩
 .cases h3
theorem NP(S:dw X.env scope)(I:Inv X pins σ H s)(hf:∀b∈fp,nO X pins H b)(hfs:∀b∈fp,b<s.heap.objs.size){h₁:Heap}{m:Str->Option Value}{tk:Nat}(hns:h₁.Ns s.heap.objs.size m)
  (old:∀b o,s.heap.get? b=some o->h₁.get? b=some o):Inv (CV X N' scope (cN scope X.env) s.heap.objs.size s H fp) [] (gA N' X.N σ scope) H {s with heap:=h₁,toks:=tk}where
 ok:=adv S I hf hfs
 os:=rfl
 bare:=I.bare
 base:=Un.kept old
 loc:=by
  refine⟨m,hns,λi x v h1 h2 h3=>?_⟩
  obtain⟨e1,e2⟩:=Qj h1 h2
  obtain⟨j,g1,g2⟩:=wV e2
  have hm:(x,NameKind.free)∈scope.names:=PySem.mem_of_lookup e1
  have hk:=S.free _ hm rfl
  obtain⟨m0,_,hl⟩:=I.loc
  have vis:Vis X.env.scope x:=.inr hk
  obtain⟨u,r,lk⟩:=hl j x v g1 g2 vis
  refine⟨u,r,.inr ⟨vz (env:=X.env) e1,?_⟩⟩
  rcases lk with⟨k,_⟩ |⟨_,c,e,z⟩
  .rcases hk with hk |hk
   .have hk':X.env.kindOf x=some .cell:=hk
    rw[hk']at k;cases k
   .have hk':X.env.kindOf x=some .free:=hk
    rw[hk']at k;cases k
  .obtain⟨c',e'⟩:=xm (env:=X.env) scope.names [] x (.inl hm)
   have e3:=S.cl I (x:=x) (c:=c') e'
   rw[e]at e3
   cases e3
   obtain⟨o,ho,hd⟩:=z
   exact⟨c,e',o,old _ _ ho,hd⟩
 cell:=λx c h=>by
  obtain⟨v,o,ho,hd⟩:=I.cell x c (S.cl I h)
  exact⟨v,o,old _ _ ho,hd⟩
 free:=I.hok.fresh (aaO _)
 freeC:=λx c h=>I.freeC x c (S.cl I h)
 pin:=λp hp=>absurd (show p∈([]:List (Addr×Obj))from hp) (by simp)
 hok:=I.hok.kept old
 len:=by show(gA N' X.N σ scope).length=N'.length;unfold gA;rw[aar]
theorem Ly{τ:St}(I:Inv X pins σ H s)(hf:∀b∈fp,nO X pins H b)(J:Inv (CV X N' scope (cN scope X.env) s.heap.objs.size s H fp) [] τ H' s'):Inv X pins σ H' s':=by
 obtain⟨hh,g,d,t,os'⟩:=s'
 have e:os'=s.os:=J.os
 subst e
 exact I.call (h':=hh) (g':=g) (d':=d) (t':=t) (ch:=fp) J.base J.hok J.bare λb hb=>⟨(hf b hb).2.2.2.1,(hf b hb).2.1,(hf b hb).2.2.2.2.1,(hf b hb).2.2.2.2.2⟩
variable{elt iter tg:Expr}{ifs:List Expr}{pos:Pos}
def p8(X Y:Cx)(tg elt:Expr)(ifs:List Expr)(J:It)(D:Addr)(σ':St)(H:Hp)(Q:Hp->Prop):Prop:=
 ∃W:Nat->Nat->St->Hp->Prop,(∃m,W 0 m σ' (upd H D (.lst [])))/\∀i m τ H,W i m τ H->
  (J.stop i H/\Q H)\/(J.go i H/\∃N:St->Hp->Prop,(∀τ' H',N τ' H'->∃m',m'<m/\W (i+1) m' τ' H')/\∀x H',J.yld i H x H'->
   EG Y tg x τ H' λτ2 H2=>adh Y ifs τ2 H2 λk H3=>if k=true then EV Y elt τ2 H3 λy H4=>∃xs,H4 D=some (.lst xs)/\xs.length<sizeLine/\N τ2 (upd H4 D (.lst (xs++[y])))else N τ2 H3)
theorem HS{R:Value->Addr->Result->Shared->Prop}{it:Addr}{tn:Nat->Heap->Prop}{J:It}{E:Value->Shared->Prop}{Q:Addr->Hp->Prop}(hc:X.calm=true)(S:dw X.env scope)(I:Inv X pins σ H s)
  (T:Turn X.prog X.w X.K tg J fp it tn) (st:tn 0 s.heap) (hf:∀b∈fp,nO X pins H b)
  (h:∀(D C:Addr) (s3:Shared),H D=none->p8 X (CV X N' scope (cN scope X.env) C s3 (upd H D (.lst [])) fp) tg elt ifs J D (gA N' X.N σ scope) H (Q D))
  (hR:∀(D C:Addr) (H':Hp) (s':Shared),H D=none->Q D H'->Inv X pins σ H' s'->nO X pins H' C->(∃m,s'.heap.Ns C m)->R (.ref D) C (.ok .next) s'):
  wpAny (model X.prog X.w) X.A (newList []) (λacc s₃=>wpAny (model X.prog X.w) X.A (newFunctionEnv scope X.env.globals (cN scope X.env) [] X.env.qual none .none (some X.env)) (λcenv s₄=>
   codeAny (model X.prog X.w) X.A (.compStart (.ListComp elt [⟨tg,iter,ifs,0⟩] scope pos) 0 (.ref it) acc {cenv with scope:=relabel scope X.env}) (R acc cenv.locals) s₄) E s₃) E s:=by
 refine wpAny_newObj_type ?_
 have hD:H s.heap.objs.size=none:=I.hok.fresh (aaO _)
 generalize hs3:({s with heap:=s.heap.push {cls:=.type "list",dict:=none,data:=.seq ([]:List Value).toArray}}:Shared)=s3
 have I3:Inv X pins σ (upd H s.heap.objs.size (.lst [])) s3:=by
  subst hs3
  exact I.laid (t':=s.toks) (λb u e=>Heap.get?_push_of_some _ e) (aaO _) ⟨ahE _,[],0,.nil,aez _ rfl⟩
 have hsz:s3.heap.objs.size=s.heap.objs.size+1:=by subst hs3;exact akA ..
 have old3:∀b o,s.heap.get? b=some o->s3.heap.get? b=some o:=λb o e=>by subst hs3;exact Heap.get?_push_of_some _ e
 have fpl:∀b∈fp,b<s.heap.objs.size:=λb hb=>by
  obtain⟨o,e,_⟩:=T.obj _ _ st b hb
  exact acK e
 have Ws:∀b∈fp,nO X pins (upd H s.heap.objs.size (.lst [])) b:=λb hb=>⟨by rw[aF (aeB (fpl b hb))];exact(hf b hb).1,(hf b hb).2⟩
 have st3:tn 0 s3.heap:=T.keep _ _ _ st λb _ o e=>old3 b o e
 have TY:∀b∈fp,b<s3.heap.objs.size:=λb hb=>by rw[hsz];exact amP (fpl b hb)
 refine wpAny_newFunctionEnv S.cell (by intro y hy;simp at hy) (λh₁ hns hsb=>?_) S.kind
 have Uj:∀b o,s3.heap.get? b=some o->h₁.get? b=some o:=λb o e=>hsb.extBut b o (aeB (acK e)) (Heap.get?_push_of_some _ e)
 generalize hY:CV X N' scope (cN scope X.env) s3.heap.objs.size s3 (upd H s.heap.objs.size (.lst [])) fp=Y
 have hT:=h s.heap.objs.size s3.heap.objs.size s3 hD
 rw[hY]at hT
 obtain⟨W,⟨m0,w0⟩,turn⟩:=hT
 generalize hs4:({s3 with heap:=h₁,toks:=s3.toks+([]:List (Str×Value)).length}:Shared)=s4
 have I4:Inv Y [] (gA N' X.N σ scope) (upd H s.heap.objs.size (.lst [])) s4:=by
  subst hs4
  rw[<-hY]
  exact NP S I3 Ws TY hns Uj
 have st4:tn 0 s4.heap:=by
  subst hs4
  exact T.keep _ _ _ st3 λb _ o e=>Uj b o e
 have hP:Y.prog=X.prog:=by rw[<-hY];rfl
 have hw:Y.w=X.w:=by rw[<-hY];rfl
 have hK:Y.K=X.K:=by rw[<-hY];rfl
 have hA:Y.A=X.A:=by rw[<-hY];rfl
 have hcY:Y.calm=true:=by rw[<-hY];exact hc
 have hE:Y.xe=λ_ _=>False:=by rw[<-hY];rfl
 have hen:Y.env=compEnvC scope (cN scope X.env) s3.heap.objs.size X.env:=by rw[<-hY];rfl
 have hloc:Y.env.locals=s3.heap.objs.size:=by rw[hen];rfl
 have fpY:∀b∈fp,∀H':Hp,H' b=none->nO Y [] H' b:=λb hb H' e=>by
  rw[<-hY]
  refine⟨e,aeB (TY b hb),λz=>?_,.inl hb,λx c q=>(Ws b hb).2.2.2.2.1 x c (S.cl I3 q),λp hp=>absurd (show p∈([]:List (Addr×Obj))from hp) (by simp)⟩
  rcases abO.mp (I3.stkSub b z)with e |e
  .exact(hf b hb).2.1 e
  .exact(hf b hb).2.2.1 e
 have loop:codeAny (model X.prog X.w) X.A (.compLoop (.ListComp elt [⟨tg,iter,ifs,0⟩] scope pos) 0 (.ref it) (.ref s.heap.objs.size) Y.env) (R (.ref s.heap.objs.size) s3.heap.objs.size) s4:=by
  refine Dy (λn s'=>∃i τ H',Inv Y [] τ H' s'/\tn i s'.heap/\(∀b∈fp,H' b=none)/\W i n τ H') ?_ m0 ⟨0,_,_,I4,st4,λb hb=>(Ws b hb).1,w0⟩
  rintro n s5 ⟨i,τ,H5,I5,st5,fr5,w5⟩
  have toF:∀{α:Type} {t:Sem α} {Q:α->Shared->Prop} {s:Shared},wpAny (model Y.prog Y.w) Y.A t Q Y.xe s->wpAny (model X.prog X.w) X.A t Q (λ_ _=>False) s:=λh=>by
   rw[hP,hw,hA,hE]at h;exact h
  rcases turn i n τ H5 w5 with⟨stop,qn⟩ |⟨go,N,hN,step⟩
  .have q:=T.done Y hP hw hK hcY i [] s5 τ H5 (λ_ _=>False) I5 (λb hb=>fpY b hb _ (fr5 b hb)) st5 stop
   rw[hA]at q
   refine cZ q λr s6 ⟨hr,I6⟩=>?_
   subst hr
   have IX6:Inv X pins σ H5 s6:=by
    have I6':=I6
    rw[<-hY]at I6'
    exact Ly I3 Ws I6'
   refine hR _ _ H5 s6 hD qn IX6 (I3.fpOk (aaO _) ?_) ?_
   .have :=I6.free
    rw[hloc]at this
    exact this
   .obtain⟨m,hn,_⟩:=I6.loc
    rw[hloc]at hn
    exact⟨m,hn⟩
  .have q:=T.item Y hP hw hK hcY i [] s5 τ H5 (λ_ _=>False) I5 (λb hb=>fpY b hb _ (fr5 b hb)) st5 go
   rw[hA]at q
   refine cZ q λr s6 ⟨u,hr,h6⟩=>?_
   subst hr
   refine cZ h6 λ_ s7 ⟨x,H7,I7,r7,y7,st7,fr7⟩=>?_
   have I7':=I7.pinned (λb hb=>fpY b hb _ (fr7 b hb)) (T.obj _ _ st7)
   have Vs:∀{τ':St} {H8:Hp} {s8:Shared},Inv Y ([]++xW fp s7.heap) τ' H8 s8->tn (i+1) s8.heap/\∀b∈fp,H8 b=none:=λ{τ' H8 s8} I8=>by
    refine⟨T.keep _ _ _ st7 λb hb o e=>(I8.pin (b,o) (aew _ (aew _ (jJ hb e)))).1,λb hb=>?_⟩
    obtain⟨o,e,d⟩:=T.obj _ _ st7 b hb
    exact(I8.pin (b,o) (aew _ (aew _ (jJ hb e)))).2.1
   refine toF (cZ (step x H7 y7 _ s7 u I7' r7) λ_ s8 ⟨τ8,H8,I8,q8⟩=>?_)
   refine toF (cZ (q8 _ s8 I8) λok s9 ⟨H9,I9,q9⟩=>?_)
   cases ok with
   |false=>
    have q9':N τ8 H9:=by simpa using q9
    obtain⟨m',hm,w9⟩:=hN _ _ q9'
    obtain⟨k1,k2⟩:=Vs I9
    show ∃m,_
    exact⟨m',hm,i+1,τ8,H9,I9.unpinned,k1,k2,w9⟩
   |true=>
    have q9':EV Y elt τ8 H9 λy H4=>∃xs,H4 s.heap.objs.size=some (.lst xs)/\xs.length<sizeLine/\N τ8 (upd H4 s.heap.objs.size (.lst (xs++[y]))):=by simpa using q9
    show wpAny _ _ _ _ _ _
    refine toF (cZ (q9' _ s9 I9) λz s10 ⟨y,H10,I10,r10,xs,e10,l10,n10⟩=>?_)
    refine toF (cZ (lK _ s10 τ8 H10 (.ref s.heap.objs.size) [y] _ [z] (λv Y5=>v= .non/\Y5=upd H10 s.heap.objs.size (.lst (xs++[y]))) I10 rfl (.cons r10 .nil) ⟨_,xs,y,rfl,rfl,e10,l10,rfl,rfl⟩) λ_ s11 ⟨_,Y5,I11,_,_,e11⟩=>?_)
    subst e11
    obtain⟨m',hm,w11⟩:=hN _ _ n10
    obtain⟨k1,k2⟩:=Vs I11
    exact⟨m',hm,i+1,τ8,_,I11.unpinned,k1,k2,w11⟩
 rw[hen]at loop
 exact codeAny_compStart_list loop (T.self X.A 0 s4 _ _ st4 loop)
theorem rY{Q:VK}(hc:X.calm=true)(S:dw X.env scope)(hs:∀x,foldedSetIterable iter X.env x=pure x)
  (h:EI X tg iter σ H λJ H1=>∀(fp:List Addr) (D C:Addr) (s3:Shared),H1 D=none->p8 X (CV X N' scope (cN scope X.env) C s3 (upd H1 D (.lst [])) fp) tg elt ifs J D (gA N' X.N σ scope) H1 (λH'=>Q (.ref D) H')):
  EV X (.ListComp elt [⟨tg,iter,ifs,0⟩] scope pos) σ H Q:=by
 intro pins s I
 rw[eval_ListComp]
 refine wpAny_comprehension_free (use:=none) rfl hs (pP (S.has I)) S.kind S.loc (cZ (h pins s I) λv s1 h1=>cZ h1 λitv s2 h2=>?_)
 obtain⟨it,fp,tn,J,H2,e,I2,T,st2,f2,q2⟩:=h2
 subst e
 refine HS (R:=λacc C=>compPost (model X.prog X.w) X.A X.xe none (EP X pins σ Q) acc C) (Q:=λD H'=>Q (.ref D) H') hc S I2 T st2 f2 (λD C s3 hD=>q2 fp D C s3 hD) λD C H' s' hD qD IX fC hn=>?_
 obtain⟨m,hn⟩:=hn
 obtain⟨f0,f1,f2',f3,f4,f5⟩:=fC
 exact⟨m,hn,λh' hsb=>⟨.ref D,H',IX.turned (t':=s'.toks) (λb o hb e=>hsb.extBut b o hb e) f0 f1 f3 f4 f5,rfl,qD⟩⟩
theorem Mz{D:Ends}{y:Str}{py spos:Pos}{j:Nat}(hsw:swapsWith (.ListComp elt [⟨tg,iter,ifs,0⟩] scope pos) (some (.Name y py)) spos.line X.env=pure true)(hc:X.calm=true)(S:dw X.env scope)(hs:∀x,foldedSetIterable iter X.env x=pure x)
  (hN:X.N.Nodup) (hi:nameAt X.N y=some j) (hx:X.env.scope.names.lookup y=some .local)
  (h:EI X tg iter σ H λJ H1=>∀(fp:List Addr) (E C:Addr) (s3:Shared),H1 E=none->p8 X (CV X N' scope (cN scope X.env) C s3 (upd H1 E (.lst [])) fp) tg elt ifs J E (gA N' X.N σ scope) H1 (λH'=>D.nx (σ.set j (some (.ref E))) H')):
  SX X (.Assign [.Name y py] (.ListComp elt [⟨tg,iter,ifs,0⟩] scope pos) spos) D σ H:=by
 intro pins s I
 rw[exec_Assign_Name_used _ _ _ _ hsw]
 refine wpAny_bind (wpAny_standAt (wpAny_bind ?_))
 show wpAny _ X.A (do let _<-comprehension (.ListComp elt [⟨tg,iter,ifs,0⟩] scope pos) scope X.env _ (newList []) false (eval iter X.env) (some (assign (.Name y py) X.env))) _ _ s
 refine wpAny_bind (wpAny_mono (wpAny_comprehension_free (use:=some (assign (.Name y py) X.env)) (Q:=λ_ s'=>SP X pins D .next s') rfl hs (pP (S.has I)) S.kind S.loc
  (cZ (h pins s I) λv s1 h1=>cZ h1 λitv s2 h2=>?_)) (λ_ s' hq=>wpAny_pure (wpAny_pure hq)) λ_ _ e=>e)
 obtain⟨it,fp,tn,J,H2,e,I2,T,st2,f2,q2⟩:=h2
 subst e
 refine HS (R:=λacc C=>compPost (model X.prog X.w) X.A X.xe (some (assign (.Name y py) X.env)) (λ_ s'=>SP X pins D .next s') acc C) (Q:=λE H'=>D.nx (σ.set j (some (.ref E))) H') hc S I2 T st2 f2 (λE C s3 hD=>q2 fp E C s3 hD) λE C H' s' hD qD IX fC hn=>?_
 obtain⟨m,hn⟩:=hn
 obtain⟨f0,f1,f2',f3,f4,f5⟩:=fC
 show wpAny _ _ (assign (.Name y py) X.env (.ref E)) _ _ _
 refine wpAny_assign_Name (sY IX hN (ig hi) (.inl hx) (v:=.ref E) rfl (λs'' I'' hb=>?_) (.inr hx))
 obtain⟨a,sb,ha⟩:=hb
 have hCa:C≠a:=by
  rcases ha with ha |ha
  .rw[ha];exact f1
  .intro z
   exact f4 y a ha z.symm
 refine⟨m,hn.sameBut sb hCa,λh' hsb=>⟨σ.set j (some (.ref E)),H',I''.turned (t':=s''.toks) (λb o hb e=>hsb.extBut b o hb e) f0 f1 f3 f4 f5,qD⟩⟩
theorem zL{Q:Bool->Hp->Prop}(q:Q true H):adh X [] σ H Q:=λpins s I=>by
 rw[List.forIn_nil]
 exact wpAny_pure ⟨H,I,q⟩
theorem Tw{c:Expr}{Q:Bool->Hp->Prop}(h:ET X c σ H Q):adh X [c] σ H Q:=λpins s I=>by
 rw[List.forIn_cons]
 simp only[if_true]
 refine wpAny_bind (wpAny_bind (cZ (h pins s I) λk s1 q=>wpAny_pure ?_))
 dsimp only
 rw[List.forIn_nil]
 exact wpAny_pure q
end
theorem dD{c A B:Prop} [Decidable c](h1:c->A)(h2:¬c->B):if decide c=true then A else B:=by
 by_cases h:c
 .rw[if_pos (decide_eq_true h)];exact h1 h
 .rw[if_neg (by simpa using h)];exact h2 h
theorem O2{c A B:Prop} [Decidable c](h1:¬c->A)(h2:c->B):if(!decide c)=true then A else B:=by
 by_cases h:c
 .rw[if_neg (by simp[h])];exact h2 h
 .rw[if_pos (by simp[h])];exact h1 h
theorem ifB{k:Bool}{A B:Prop}(h1:k=true->A)(h2:k=false->B):if k=true then A else B:=by
 cases k with
 |true=>rw[if_pos rfl];exact h1 rfl
 |false=>rw[if_neg abX];exact h2 rfl
theorem aiQ{A B:Prop}(h:B):if(!true)=true then A else B:=by rw[if_neg (by decide)];exact h
theorem au.upd{H:Hp}{p:Addr}{o:HO}(h:H p=none):au H (L2.upd H p o):=λb u e=>by rw[aF (aB e h)];exact e
theorem bR{H:Hp}{p:Addr}(h:H p=none)(o:HO):au H (upd H p o)/\(upd H p o) p=some o:=⟨au.upd h,ao⟩
section
variable{X:Cx}{a e:Expr}{σ:St}{H:Hp}{Q:VK}{D:Ends}{pos p p':Pos}
theorem Fg{tg:Expr}{body:List Stmt}(hp:PassesOwn (model X.prog X.w) X.A X.env X.xe)(hc:X.calm=true)(hg:Gl X "range")(hm:X.mg "range"=none)(hs:starEach [a] X.env=[(false,eval a X.env)])
  (h:EV X a σ H λv H1=>∃n:Int,v= .int n/\ -(2^62)≤n/\n<2^62/\∃Pv:Nat->St->Hp->Prop,Pv 0 σ H1/\
   (∀i σ' H',i<n.toNat->Pv i σ' H'->EG X tg (.int i) σ' H' λσ2 H2=>lH X body {D with nx:=Pv (i+1),ct:=Pv (i+1),bk:=D.nx} σ2 H2)/\∀σ' H',Pv n.toNat σ' H'->D.nx σ' H'):
  SX X (.For tg (.Call (.Name "range" p) [a] [] p') body [] pos) D σ H:=by
 refine wQ hp hc (by intro _;rfl) (xY hg hm hs (lq hs (bV h λv H1 q=>?_)))
 obtain⟨n,rfl,h1,h2,Pv,h0,hst,hd⟩:=q
 refine nP ⟨n,rfl,h1,h2,?_⟩
 exact Qh (g:=EG X tg) (tb:=lH X body) Pv h0 (λi σ' H' hi hP=>by rw[aoX];exact hst i σ' H' hi hP) hd
theorem Ln{tg:Expr}{body:List Stmt}(hp:PassesOwn (model X.prog X.w) X.A X.env X.xe)(hc:X.calm=true)(hs:∀x,foldedSetIterable e X.env x=pure x)
  (h:EV X e σ H λv H1=>∃q xs,v= .ref q/\aX X.K H1 q xs/\∃Pv:Nat->St->Hp->Prop,Pv 0 σ H1/\(∀i σ' H',i≤xs.length->Pv i σ' H'->aX X.K H' q xs)/\
   (∀i x σ' H',xs[i]? =some x->Pv i σ' H'->EG X tg x σ' H' λσ2 H2=>lH X body {D with nx:=Pv (i+1),ct:=Pv (i+1),bk:=D.nx} σ2 H2)/\∀σ' H',Pv xs.length σ' H'->D.nx σ' H'):
  SX X (.For tg e body [] pos) D σ H:=by
 refine wQ hp hc hs (sH (bV h λv H1 q=>?_))
 obtain⟨q,xs,rfl,hq,Pv,h0,hl,hst,hd⟩:=q
 exact⟨q,rfl,⟨xs,hq⟩,Wc (g:=EG X tg) (tb:=lH X body) Pv h0 hl hst hd⟩
theorem Zd{tg:Expr}{body:List Stmt}(hp:PassesOwn (model X.prog X.w) X.A X.env X.xe)(hc:X.calm=true)(hs:∀x,foldedSetIterable e X.env x=pure x)
  (h:EV X e σ H λv H1=>∃z:Str,v= .str z/\∃Pv:Nat->St->Hp->Prop,Pv 0 σ H1/\
   (∀i c σ' H',z.cps.toList[i]? =some c->Pv i σ' H'->EG X tg (.str ⟨#[c]⟩) σ' H' λσ2 H2=>lH X body {D with nx:=Pv (i+1),ct:=Pv (i+1),bk:=D.nx} σ2 H2)/\∀σ' H',Pv z.cps.toList.length σ' H'->D.nx σ' H'):
  SX X (.For tg e body [] pos) D σ H:=by
 refine wQ hp hc hs (Td (bV h λv H1 q=>?_))
 obtain⟨z,rfl,Pv,h0,hst,hd⟩:=q
 refine⟨z,rfl,λi m σ H=>m=z.cps.size-i/\i≤z.cps.size/\Pv i σ H,⟨z.cps.size,by simp,ahE _,h0⟩,?_⟩
 rintro i m σ' H' ⟨rfl,hi,p⟩
 by_cases hlt:i<z.cps.size
 .refine .inr ⟨hlt,Pv (i+1),λσ2 H2 p2=>⟨z.cps.size-(i+1),by omega,rfl,hlt,p2⟩,λx H2 y=>?_⟩
  obtain⟨e1,c,e2,e3⟩:=y
  subst e1 e3
  exact hst i c σ' _ (by simpa using e2) p
 .have e:i=z.cps.size:=by omega
  subst e
  exact .inl ⟨aaO _,hd σ' H' (by simpa using p)⟩
theorem Dc{Y:Cx}{elt:Expr}{J:It}{E:Addr}{τ0:St}{Q:Hp->Prop}{y:Str}{py:Pos}{j:Nat}(hN:Y.N.Nodup)(hj:nameAt Y.N y=some j)(hx:Y.env.scope.names.lookup y=some .local)
  (n:Nat) (hn:n≤sizeLine) (Pi:Nat->V->Prop) (It:Nat->V->Prop) (hE:H E=none)
  (go:∀i H1,au (upd H E (.lst [])) (upd H1 E (.lst []))->i<n->J.go i H1) (stop:∀H1,au (upd H E (.lst [])) (upd H1 E (.lst []))->J.stop n H1)
  (yld:∀i H1 x H2,i<n->au (upd H E (.lst [])) (upd H1 E (.lst []))->J.yld i H1 x H2->It i x/\H2=H1)
  (step:∀i x H1,i<n->It i x->au H H1->EV Y elt (τ0.set j (some x)) H1 λv H2=>Pi i v/\au H1 H2)
  (fin:∀H1 xs,xs.length=n->(∀i v,xs[i]? =some v->Pi i v)->H1 E=some (.lst xs)->au H H1->Q H1):p8 X Y (.Name y py) elt [] J E τ0 H Q:=by
 have sU:∀{H1:Hp},au H H1->au (upd H E (.lst [])) (upd H1 E (.lst [])):=λ{H1} s b o e=>by
  by_cases hb:b=E
  .subst hb;rw[ao]at e⊢;exact e
  .rw[aF hb]at e⊢;exact s b o e
 refine⟨λi m τ H1=>m=n-i/\i≤n/\au H H1/\(τ=τ0\/∃x,τ=τ0.set j (some x))/\∃xs,H1 E=some (.lst xs)/\xs.length=i/\∀k v,xs[k]? =some v->Pi k v,⟨n,by simp,ahE _,au.upd hE,.inl rfl,[],ao,rfl,λk v e=>by simp at e⟩,?_⟩
 rintro i m τ H1 ⟨rfl,hi,s1,hτ,xs,eE,lx,px⟩
 by_cases hlt:i<n
 .refine .inr ⟨go i H1 (sU s1) hlt,λτ' H'=>au H H'/\(τ'=τ0\/∃x,τ'=τ0.set j (some x))/\∃xs,H' E=some (.lst xs)/\xs.length=i+1/\∀k v,xs[k]? =some v->Pi k v,λτ' H' ⟨a,b,c⟩=>⟨n-(i+1),by omega,rfl,hlt,a,b,c⟩,λx H2 y=>?_⟩
  obtain⟨hI,e2⟩:=yld i H1 x H2 hlt (sU s1) y
  subst e2
  refine aM hN hj (.inl hx) (.inr hx) (zL ?_)
  rw[if_pos rfl]
  have eτ:τ.set j (some x)=τ0.set j (some x):=by
   rcases hτ with e |⟨z,e⟩
   .rw[e]
   .rw[e,List.set_set]
  rw[eτ]
  refine bV (step i x H2 hlt hI s1) λv H3 ⟨pv,s2⟩=>⟨xs,s2 _ _ eE,by omega,?_⟩
  refine⟨λb o e=>?_,.inr ⟨x,rfl⟩,xs++[v],ao,by simp[lx],λk u e=>?_⟩
  .rw[aF (aB e hE)]
   exact s2 _ _ (s1 _ _ e)
  .by_cases hk:k<xs.length
   .rw[agh hk]at e
    exact px k u e
   .have hk2:k=i:=by
     have :=(aan.mp e).1
     rw[ace,agk]at this
     omega
    subst hk2
    rw[<-lx,ajp]at e
    cases e
    exact pv
 .have e:i=n:=by omega
  subst e
  exact .inl ⟨stop H1 (sU s1),fin H1 xs lx px eE s1⟩
theorem Ib{elt:Expr}{scope:Scope}{y:Str}{py:Pos}{j:Nat}(N':List Str){σ':St}(hσ:gA N' X.N σ scope=σ')(hc:X.calm=true)(S:dw X.env scope)(hN:N'.Nodup)(hj:nameAt N' y=some j)(hx:scope.names.lookup y=some .local)
  (hg:Gl X "range") (hm:X.mg "range"=none) (hs:starEach [a] X.env=[(false,eval a X.env)])
  (h:EV X a σ H λv H1=>∃n:Int,v= .int n/\ -(2^62)≤n/\n.toNat≤sizeLine/\∃Pi:Nat->V->Prop,
   (∀(fp:List Addr) (E C:Addr) (s3:Shared) (H0:Hp) (i:Nat) (H2:Hp),i<n.toNat->au H1 H2->EV (CV X N' scope (cN scope X.env) C s3 H0 fp) elt (σ'.set j (some (.int i))) H2 λv H3=>Pi i v/\au H2 H3)/\
   ∀(E:Addr) (H2:Hp) (xs:List V),H1 E=none->xs.length=n.toNat->(∀i v,xs[i]? =some v->Pi i v)->H2 E=some (.lst xs)->au H1 H2->Q (.ref E) H2):
  EV X (.ListComp elt [⟨.Name y py,.Call (.Name "range" p) [a] [] p',[],0⟩] scope pos) σ H Q:=by
 refine rY (N':=N') hc S (by intro _;rfl) (xY hg hm hs (lq hs (bV h λv H1 q=>?_)))
 obtain⟨n,rfl,h1,h2,Pi,hst,hfin⟩:=q
 have hsz:(sizeLine:Nat)<2^62:=by rw[sizeLine_eq];decide
 refine nP ⟨n,rfl,h1,by omega,λfp E C s3 hE=>?_⟩
 rw[hσ]
 refine Dc (Y:=CV X N' scope (cN scope X.env) C s3 (upd H1 E (.lst [])) fp) hN hj (lookup_relabel_local hx) n.toNat h2 Pi (λi x=>x= .int i) hE (λi _ _ hi=>hi) (λ_ _=>aaO _) (λi H1 x H2 _ _ yl=>?_) (λi x H2 hi ex s=>?_) (λH2 xs l px eE s=>hfin E H2 xs hE l px eE s)
 .obtain⟨e1,e2⟩:=yl
  exact⟨by rw[e2,aoX],e1⟩
 .subst ex
  exact hst fp E C s3 _ i H2 hi s
theorem We{elt:Expr}{scope:Scope}{y:Str}{py:Pos}{j:Nat}(N':List Str){σ':St}(hσ:gA N' X.N σ scope=σ')(hc:X.calm=true)(S:dw X.env scope)(hN:N'.Nodup)(hj:nameAt N' y=some j)(hx:scope.names.lookup y=some .local)
  (hs:∀x,foldedSetIterable e X.env x=pure x)
  (h:EV X e σ H λv H1=>∃z:Str,v= .str z/\z.cps.size≤sizeLine/\∃Pi:Nat->V->Prop,
   (∀(fp:List Addr) (E C:Addr) (s3:Shared) (H0:Hp) (i c:Nat) (H2:Hp),z.cps.toList[i]? =some c->au H1 H2->EV (CV X N' scope (cN scope X.env) C s3 H0 fp) elt (σ'.set j (some (.str ⟨#[c]⟩))) H2 λv H3=>Pi i v/\au H2 H3)/\
   ∀(E:Addr) (H2:Hp) (xs:List V),H1 E=none->xs.length=z.cps.size->(∀i v,xs[i]? =some v->Pi i v)->H2 E=some (.lst xs)->au H1 H2->Q (.ref E) H2):
  EV X (.ListComp elt [⟨.Name y py,e,[],0⟩] scope pos) σ H Q:=by
 refine rY (N':=N') hc S hs (Td (bV h λv H1 q=>?_))
 obtain⟨z,rfl,h2,Pi,hst,hfin⟩:=q
 refine⟨z,rfl,λfp E C s3 hE=>?_⟩
 rw[hσ]
 refine Dc (Y:=CV X N' scope (cN scope X.env) C s3 (upd H1 E (.lst [])) fp) hN hj (lookup_relabel_local hx) z.cps.size h2 Pi (λi x=>∃c,z.cps.toList[i]? =some c/\x= .str ⟨#[c]⟩) hE (λi _ _ hi=>hi) (λ_ _=>aaO _) (λi H1 x H2 _ _ yl=>?_) (λi x H2 hi ex s=>?_) (λH2 xs l px eE s=>hfin E H2 xs hE l px eE s)
 .obtain⟨e1,c,e2,e3⟩:=yl
  exact⟨⟨c,by simpa using e2,e3⟩,e1⟩
 .obtain⟨c,e1,e2⟩:=ex
  subst e2
  exact hst fp E C s3 _ i c H2 e1 s
end
section
variable{P:Program}{w:World}{K:acF}{mg:Str->Option Value}{base:Heap}{cc:Bool}
abbrev vd(cc:Bool)(P:Program)(w:World)(K:acF)(mg:Str->Option Value)(base:Heap)(N:List Str)(qual:Str)(scope:Scope)(f:Addr)(cd:Value)(A:Around)(outer:List Env)(s:Shared)(H:Hp)(E:XK):Cx:=
 Ik cc (CK P w) P w K mg base N qual scope f cd A outer s H E
theorem Nm{x qual:Str}{st:Stmt}{ps N:List Str}{k:Nat}{sp:Sp}{f:Addr}{fd:FuncData}(F:iW K x qual st f fd)(S:aN N ps (aa st))
  (len:∀vs H Q E,sp vs H Q E->vs.length=ps.length)
  (body:∀(cdv:Value) (A:Around) (outer:List Env) (s:Shared) (H:Hp) (vs:List V) (Q:VK) (E:XK),fB cc k (A.deeper (envOfC qual (aa st) s.heap.objs.size f cdv))->sp vs H Q E->
   lH (vd cc P w K mg base N qual (aa st) f cdv A outer s H E) (az st) {nx:=λ_ H'=>Q .non H',rt:=Q} (start N vs) H):xU P w K mg base (CK P w) cc (k+1) f fd ps sp:=by
 obtain⟨oc,od,kV,doc,pm,an,cdv,ct,osl,rfl,lk,hcd⟩:=id F.ex
 exact ahu lk hcd S len λA outer s H vs Q E hr h=>⟨_,qJ,body cdv A outer s H vs Q E hr h⟩
theorem bD{x:Str}{st:Stmt}{ps N:List Str}{k:Nat}{sp:Sp}(F:∃f fd,iW K x x st f fd/\mg x=some (.ref f))(S:aN N ps (aa st))
  (hb:∀(kV doc pm:Value) (an:Option Addr) (cdv ct:Value) (us:List Value),us.length=ps.length->bindArgs (aeI x x (aK st) (az st) (aa st) .none kV doc pm an cdv ct) ⟨us,[]⟩=pure (ps.zip us))
  (len:∀vs H Q E,sp vs H Q E->vs.length=ps.length)
  (body:∀(f:Addr) (cdv:Value) (A:Around) (outer:List Env) (s:Shared) (H:Hp) (vs:List V) (Q:VK) (E:XK),fB cc k (A.deeper (envOfC x (aa st) s.heap.objs.size f cdv))->sp vs H Q E->
   lH (vd cc P w K mg base N x (aa st) f cdv A outer s H E) (az st) {nx:=λ_ H'=>Q .non H',rt:=Q} (start N vs) H):Def P w K mg base cc (k+1) x ps sp:=by
 obtain⟨f,fd,F,hm⟩:=F
 exact⟨f,fd,hm,F.kp,F.binds hb,Nm F S len λcdv A outer s H vs Q E hr h=>body f cdv A outer s H vs Q E hr h⟩
end
def ZP(K:acF):Sp:=λvs H Q _=>∃(a:Addr) (ns:List Int),vs=[.ref a]/\aX K H a (ns.map V.int)/\ns.length≤63/\∀H',Q (.bl true) H'
def bO(z:Str)(lo hi:Option Int):Str:=⟨((z.cps.toList.drop (HT.lG z.length 0 lo)).take (HT.lG z.length z.length hi-HT.lG z.length 0 lo)).toArray⟩
theorem wM(n d:Nat)(v:Int):max 0 (min (if v<0 then v+(n:Int)else v) (n:Int))=((HT.lG n d (some v):Nat):Int):=by
 rw[<-HT.XN]
 split <;>omega
theorem Z2(lo hi:Option Int)(n:Nat):Builtin.Str.strSliceIndices lo hi 1 n=(agj (HT.lG n n hi-HT.lG n 0 lo)).map (λm=>HT.lG n 0 lo+m):=by
 have e:Builtin.Str.strSliceIndices lo hi 1 n=sliceRange ((HT.lG n 0 lo:Nat):Int) ((HT.lG n n hi:Nat):Int) 1:=by
  cases lo with
  |none=>
   cases hi with
   |none=>rfl
   |some v=>rw[<-wM n n v];rfl
  |some u=>
   cases hi with
   |none=>rw[<-wM n 0 u];rfl
   |some v=>rw[<-wM n 0 u, <-wM n n v];rfl
 rw[e]
 generalize HT.lG n 0 lo=a
 generalize HT.lG n n hi=b
 by_cases h:a≤b
 .have :=StrLaws.strSliceIndices_plain (len:=b) h (aaO b)
  rw[<-this]
  have e2:Builtin.Str.strSliceIndices (some (a:Int)) (some (b:Int)) 1 b=sliceRange (a:Int) (b:Int) 1:=by
   have h1:¬((a:Int)<0):=by omega
   have h2:¬((b:Int)<0):=by omega
   have e1:max (0:Int) (min (a:Int) (b:Int))=a:=by omega
   have e2:max (0:Int) (min (b:Int) (b:Int))=b:=by omega
   simp only[Builtin.Str.strSliceIndices,h1,h2,if_false,e1,e2,show((1:Int)>0)=True from by simp,if_true]
  rw[e2]
 .have e3:b-a=0:=by omega
  rw[e3]
  have :¬((a:Int)<b):=by omega
  simp[sliceRange,this]
theorem JB(z:Str)(lo hi:Option Int):(⟨((Builtin.Str.strSliceIndices lo hi 1 z.length).filterMap (z.cps[·]?)).toArray⟩:Str)=bO z lo hi:=by
 rw[Z2]
 unfold bO
 have h1:=HT.Ug z.length z.length (aaO _) hi
 have hl:z.cps.toList.length=z.length:=by simp[Str.length]
 by_cases h:HT.lG z.length 0 lo≤HT.lG z.length z.length hi
 .have :=StrLaws.picks z.cps.toList (HT.lG z.length z.length hi-HT.lG z.length 0 lo) (HT.lG z.length 0 lo) (by omega)
  rw[<-this]
  simp
 .have e3:HT.lG z.length z.length hi-HT.lG z.length 0 lo=0:=by omega
  rw[e3]
  simp
theorem CP{v:Value}{o:Option Int}(h:IsPart v o):∃l:Option (Int×Tok),v=partValue l/\l.map (·.1)=o:=by
 cases h with
 |none=>exact⟨none,rfl,rfl⟩
 |int i t=>exact⟨some (i,t),rfl,rfl⟩
theorem acX{X:Cx}:SlR X (λx lo hi H Q=>∃z,x= .str z/\z.length≤sizeLine/\Q (.str (bO z lo hi)) H):=by
 intro pins s σ H x v vl vu lo hi sl Q I rx hs pl pu h
 obtain⟨z,rfl,hz,q⟩:=h
 obtain⟨t,rfl⟩:=rx
 refine⟨"str",_,F.slot_str_getitem.lookup,typeIs_str s z t,?_⟩
 obtain⟨l,rfl,rfl⟩:=CP pl
 obtain⟨u,rfl,rfl⟩:=CP pu
 have hsl:s.heap.IsSlice sl l u none:=by
  obtain⟨o,ho,hc,hd⟩:=hs
  exact⟨o,ho,hc,hd⟩
 refine wpAny_getItem_str_slice hsl rfl ?_
 have e:(slicePicked z l u none)=Builtin.Str.strSliceIndices (l.map (·.1)) (u.map (·.1)) 1 z.length:=rfl
 unfold sliceMade
 have key:(⟨((slicePicked z l u none).filterMap (z.cps[·]?)).toArray⟩:Str)=bO z (l.map (·.1)) (u.map (·.1)):=by rw[e];exact JB z _ _
 split
 .rename_i hh
  have hlen:(slicePicked z l u none).length=z.length:=by
   simp only[aaP,beq_iff_eq]at hh
   exact hh.2
  have whole:bO z (l.map (·.1)) (u.map (·.1))=z:=by
   rw[e,Z2,aar,akx]at hlen
   have h1:=HT.Ug z.length z.length (aaO _) (u.map (·.1))
   have hl:z.cps.toList.length=z.length:=by simp[Str.length]
   unfold bO
   by_cases hz0:z.length=0
   .have :z.cps.toList=[]:=List.eq_nil_of_length_eq_zero (by omega)
    rw[this]
    have e2:z.cps= #[]:=by
     have :=congrArg List.toArray this
     simpa using this
    obtain⟨c⟩:=z
    simp at e2
    subst e2
    simp
   .have ha:HT.lG z.length 0 (l.map (·.1))=0:=by omega
    have hb:HT.lG z.length z.length (u.map (·.1))=z.length:=by omega
    rw[ha,hb,aj6,alj,afM (by omega)]
  exact⟨.str (bO z (l.map (·.1)) (u.map (·.1))),H,I,⟨t,by rw[whole]⟩,q⟩
 .rw[key]
  refine⟨?_,.str (bO z (l.map (·.1)) (u.map (·.1))),H,I.tok _,⟨_,rfl⟩,q⟩
  have :(bO z (l.map (·.1)) (u.map (·.1))).length≤z.length:=by
   unfold bO Str.length
   simp
   omega
  omega
section
variable{X:Cx}{H:Hp}{Q:VK}{z y:Str}
theorem iM{lo hi:Option Int}(h:z.length≤sizeLine)(g:Q (.str (bO z lo hi)) H):SL X (.str z) lo hi H Q:=⟨_,acX,z,rfl,h,g⟩
theorem j9{id:String}{r:V->List V->Hp->VK->Prop}{x:V}{xs:List V}(h:MtR X id r)(q:r x xs H Q):MT X id x xs H Q:=⟨r,h,q⟩
theorem Ac{ys:List Str}:∀{us:List Value},Vals (ys.map V.str) us->StrsAre us ys:=by
 induction ys with
 |nil=>intro us r;cases r;exact .nil
 |cons y ys ih=>
  intro us r
  cases r with
  |cons r rr=>
   obtain⟨t,rfl⟩:=r
   exact .cons y t (ih rr)
theorem xq{q:Addr}{ys:List Str}(h:aX X.K H q (ys.map V.str))(hw:(ys.map (·.length)).sum+ys.length*z.length≤16777216)(g:Q (.str (Str.join z ys)) H):MT X "str.join" (.str z) [.ref q] H Q:=by
 refine j9 (r:=λx xs H Q=>∃z q ys,x= .str z/\xs=[.ref q]/\aX X.K H q (ys.map V.str)/\(ys.map (·.length)).sum+ys.length*z.length≤16777216/\Q (.str (Str.join z ys)) H) ?_ ⟨z,q,ys,rfl,rfl,h,hw,g⟩
 intro pins s σ H x xs v us Q I rx rs h
 obtain⟨z,q,ys,rfl,rfl,h,hw,g⟩:=h
 obtain⟨t,rfl⟩:=rx
 obtain⟨u,rfl,ru⟩:=vals1 rs
 cases(show u=Value.ref q from ru)
 obtain⟨its,rv,pl,_⟩:=I.list h
 refine join_list pl.isList (by simpa using Ac rv) hw λt' k=>⟨.str (Str.join z ys),H,I.tok k,⟨t',?_⟩,g⟩
 have e:Txt.join z ys=Str.join z ys:=by
  unfold Txt.join
  cases ys with
  |nil=>rfl
  |cons y r=>exact StrLaws.glued_cons z r y
 rw[e]
theorem G5(g:Q (.bl (Txt.startswith z y)) H):MT X "str.startswith" (.str z) [.str y] H Q:=by
 refine j9 (r:=λx xs H Q=>∃z y,x= .str z/\xs=[.str y]/\Q (.bl (Txt.startswith z y)) H) ?_ ⟨z,y,rfl,rfl,g⟩
 intro pins s σ H x xs v us Q I rx rs h
 obtain⟨z,y,rfl,rfl,g⟩:=h
 obtain⟨t,rfl⟩:=rx
 obtain⟨u,rfl,ru⟩:=vals1 rs
 obtain⟨t',rfl⟩:=ru
 exact SC.startswith ⟨.bl _,H,I,rfl,g⟩
theorem ajb{q:Addr}{bs:List Bool}(hc:X.calm=true)(h:aX X.K H q (bs.map V.bl))(g:Q (.bl (bs.all id)) H):CL X (.builtin "all") [.ref q] H Q:=by
 refine jN (r:=λxs H Q=>∃q bs,xs=[.ref q]/\aX X.K H q (bs.map V.bl)/\Q (.bl (bs.all id)) H) ?_ ⟨q,bs,rfl,h,g⟩
 intro pins s σ H xs us Q I r h
 obtain⟨q,bs,rfl,h,g⟩:=h
 obtain⟨u,rfl,ru⟩:=vals1 r
 cases(show u=Value.ref q from ru)
 obtain⟨its,rv,pl,hz⟩:=I.list h
 refine call_all_walk (wpAny_pyIter_list pl.isList ?_)
 have hq:q<s.heap.objs.size:=by
  obtain⟨o,ho,_⟩:=pl.isList
  exact acK ho
 have hlen:its.length=bs.length:=by have :=rv.length;rw[aar]at this;exact this.symm
 refine⟨s.heap.objs.size,[s.heap.objs.size,q],[s.heap.objs.size],its.toArray.size,(λi v=>its.toArray[i]? =some v),(λi h=>h.IsListIter s.heap.objs.size q i/\h.IsList q its.toArray),λi=>bs.getD i true,rfl,Walks.list (A:=X.A.in1) (show X.A.in1.handled=none from I.ok.hd hc) s.heap.objs.size q (aeB hq) its.toArray,⟨⟨_,aez _ rfl,rfl,rfl⟩,?_⟩,?_,λh' tk hk=>?_⟩
 .obtain⟨o,ho,r⟩:=pl.isList
  exact⟨o,Heap.get?_push_of_some _ ho,r⟩
 .intro i v s Q E hv hq
  have hv':its[i]? =some v:=by simpa using hv
  have hi:i<bs.length:=by rw[<-hlen];exact(aan.mp hv').1
  obtain⟨u,e1,e2⟩:=rv.get (i:=i) (x:=V.bl bs[i]) (by simp[hi])
  rw[hv']at e1
  cases e1
  cases(show v=Value.bool bs[i]from e2)
  refine wpAny_truthy_bool ?_
  have :bs.getD i true=bs[i]:=by simp[hi]
  have hq':Q (bs.getD i true) s:=hq
  rw[this]at hq'
  exact hq'
 .have e:(agj its.toArray.size).all (λi=>bs.getD i true)=bs.all id:=by
   rw[abY,hlen,ail,adt,adt]
   constructor
   .intro h b hb
    obtain⟨i,hi,e⟩:=ajv hb
    have :=h i (by simpa using hi)
    simpa [hi,e]using this
   .intro h i hi
    have hi':i<bs.length:=by simpa using hi
    have :=h bs[i] (aeF hi')
    simpa [hi']using this
  rw[e]
  have fp:=I.fpOk (aaO _) (I.hok.fresh (aaO _))
  have I1:Inv X pins σ H {s with heap:=s.heap.push {cls:=.type "list_iterator",data:=.fields #[.ref q,.int 0 0]}}:=I.kept (t':=s.toks) λb o e=>Heap.get?_push_of_some _ e
  refine⟨.bl _,H,I1.turned (it:=s.heap.objs.size) (λb o hb e=>hk b o (by simpa using hb) e) (I.hok.fresh (aaO _)) fp.2.1 fp.2.2.2.1 fp.2.2.2.2.1 fp.2.2.2.2.2,rfl,g⟩
end
theorem cA{env:Env}{scope:Scope}(sc:Scope)(hsc:env.scope=sc)(hk:scope.kind= .function)
  (h:(scope.names.all λy=>(if y.2== .free then(sc.names.lookup y.1==some .cell||sc.names.lookup y.1==some .free)else true)&&y.2 != .cell&&(if y.2== .local then scope.names.lookup y.1==some .local else true))=true):dw env scope:=by
 have h':=adt.mp h
 refine⟨hk,λy hy e=>?_,λy hy e=>?_,λy hy e=>?_⟩
 .have q:=h' y hy
  simp only[e,beq_self_eq_true,if_true,aaP,akH,beq_iff_eq]at q
  show env.scope.names.lookup y.1=_\/env.scope.names.lookup y.1=_
  rw[hsc]
  exact q.1.1
 .have q:=h' y hy
  rw[e]at q
  simp at q
 .have q:=h' y hy
  simp only[e,aaP,beq_iff_eq,beq_self_eq_true,if_true]at q
  exact q.2
theorem eN{α:Type}{xs:List V}{ys:List α}(f:α->V)(hl:xs.length=ys.length)(h:∀(i:Nat) v,xs[i]? =some v->∃c,ys[i]? =some c/\v=f c):xs=ys.map f:=by
 apply List.ext_getElem?
 intro i
 rw[aby]
 cases e:xs[i]? with
 |none=>
  have :xs.length≤i:=List.getElem?_eq_none_iff.mp e
  rw[List.getElem?_eq_none (by omega)]
  rfl
 |some v=>
  obtain⟨c,e1,e2⟩:=h i v e
  rw[e1,e2]
  rfl
section
variable{X:Cx}{H:Hp}{Q:VK}
theorem apP(q:Q (.int 1000000000) H):OP X (binaryOp .Pow) (.int 10) (.int 9) H Q:=T4 ⟨by decide,by decide,by decide⟩ (show Q (.int (10^(9:Int).toNat)) H from(show(10:Int)^(9:Int).toNat=1000000000 from by decide)▸q)
theorem ah5(q:Q (.int 1000000000000000000) H):OP X (binaryOp .Pow) (.int 10) (.int 18) H Q:=T4 ⟨by decide,by decide,by decide⟩ (show Q (.int (10^(18:Int).toNat)) H from(show(10:Int)^(18:Int).toNat=1000000000000000000 from by decide)▸q)
end
def EJ(X:Cx)(vs:List Expr)(out:Str)(σ:St)(H:Hp)(Q:VK):Prop:=
 ∀(pins:List (Addr×Obj)) (s:Shared),Inv X pins σ H s->wpAny (model X.prog X.w) X.A (joinParts out (evalEach vs X.env)) (EP X pins σ Q) X.xe s
section
variable{X:Cx}{σ:St}{H:Hp}{Q:VK}{v v₁ v₂:Expr}{rest:List Expr}{pos:Pos}{out:Str}
theorem Yr(h:EJ X (v₁::v₂::rest) Str.empty σ H Q):EV X (.JoinedStr (v₁::v₂::rest) pos) σ H Q:=λpins s I=>h pins s I
theorem adH(hl:out.length≤sizeLine)(q:Q (.str out) H):EJ X [] out σ H Q:=λpins s I=>joinParts_nil ⟨.str out,H,I.tok _,⟨_,rfl⟩,q⟩ hl
theorem Wz(h:EV X v σ H λx H1=>∃y,x= .str y/\(out++y).length≤sizeLine/\EJ X rest (out++y) σ H1 Q):EJ X (v::rest) out σ H Q:=λpins s I=>by
 refine joinParts_cons (cZ (h pins s I) λu s1 ⟨x,H1,I1,r,y,e,hl,q⟩=>?_)
 subst e
 obtain⟨t,rfl⟩:=r
 exact⟨hl,q pins s1 I1⟩
theorem oW(h:EV X v σ H λx H1=>∃z,x= .str z/\z.length≤sizeLine/\Q (.str z) H1):EV X (.FormattedValue v (-1) none pos) σ H Q:=λpins s I=>by
 refine FormattedValue_plain (cZ (h pins s I) λu s1 ⟨x,H1,I1,r,z,e,hl,q⟩=>?_)
 subst e
 obtain⟨t,rfl⟩:=r
 exact formatField_str (λt' tk=>⟨.str z,H1,I1.tok tk,⟨t',rfl⟩,q⟩) hl
theorem Nu(h:EV X v σ H λx H1=>∃i,x= .int i/\i.natAbs.log2<1920/\Q (.str (toString i)) H1):EV X (.FormattedValue v (-1) none pos) σ H Q:=λpins s I=>by
 refine FormattedValue_plain (cZ (h pins s I) λu s1 ⟨x,H1,I1,r,z,e,hl,q⟩=>?_)
 subst e
 obtain⟨t,rfl⟩:=r
 exact formatField_int_small hl ⟨.str (toString z),H1,I1.tok _,⟨_,rfl⟩,q⟩
end
def EJL(X:Cx)(vs:List Expr)(n:Nat)(σ:St)(H:Hp)(R:Hp->Prop):Prop:=∀out:Str,out.length≤n->∀Q:VK,(∀z H',R H'->Q (.str z) H')->EJ X vs out σ H Q
theorem Nq(x y:Str):(x++y).length=x.length+y.length:=by
 show(x.cps++y.cps).size=_
 rw[Array.size_append]
 rfl
section
variable{X:Cx}{σ:St}{H:Hp}{Q:VK}{R:Hp->Prop}{v v₁ v₂:Expr}{rest:List Expr}{pos:Pos}{n:Nat}
theorem Th(h:EJL X (v₁::v₂::rest) 0 σ H λH'=>∀z,Q (.str z) H'):EV X (.JoinedStr (v₁::v₂::rest) pos) σ H Q:=Yr (h Str.empty (aaO _) Q λz H' r=>r z)
theorem Xo(hn:n≤sizeLine)(r:R H):EJL X [] n σ H R:=λout ho Q k=>adH (ah4 ho hn) (k out H r)
theorem G3(h:EV X v σ H λx H1=>∃y m,x= .str y/\y.length≤m/\n+m≤sizeLine/\EJL X rest (n+m) σ H1 R):EJL X (v::rest) n σ H R:=λout ho Q k=>
 Wz (bV h λx H1 ⟨y,m,e,hy,hm,q⟩=>⟨y,e,by rw[Nq];omega,q (out++y) (by rw[Nq];omega) Q k⟩)
end
abbrev IK:List Value:=[.type "ValueError",.type "Exception",.type "BaseException",.type "object"]
def ak(mg:Str->Option Value)(x:Str):Addr:=match mg x with
 |some (.ref C)=>C
 |_=>0
theorem aD{mg:Str->Option Value}{x:Str}{C:Addr}(h:mg x=some (.ref C)):ak mg x=C:=by unfold ak;rw[h]
structure Pb(K:acF)(mg:Str->Option Value)(x:Str):Prop where
 at_:mg x=some (.ref (ak mg x))
 ex:arY K (ak mg x) IK "ValueError.__new__"=true
theorem Fe{K:acF}{mg:Str->Option Value}{x:Str}{C:Addr}(h:mg x=some (.ref C))(e:arY K C IK "ValueError.__new__"=true):Pb K mg x:=by
 have z:ak mg x=C:=by unfold ak;rw[h]
 exact⟨by rw[z];exact h,by rw[z];exact e⟩
theorem Lz{K:acF}{C:Addr}{h:Heap}(kin:K.In h)(e:arY K C IK "ValueError.__new__"=true):
  ∃bm N nm q bs hdct sn sub ab col dd k0 k1 k2 k3 k5 mN,h.get? C=some (excClassObj nm q C N bs bm hdct sn sub ab col dd k0 k1 k2 k3 k5 "ValueError.__new__")/\h.Ns N mN/\mN "__init__"=none/\OwnTail h IK bm:=by
 unfold arY at e
 split at e
 .rename_i dd cd sl ho
  split at e
  .rename_i C' bm k0 k1 k2 k3 n k5 hm hs
   simp only[aaP,beq_iff_eq,ar0]at e
   obtain⟨⟨⟨⟨⟨e1,e2⟩,e3⟩,e4⟩,e5⟩,e6⟩:=e
   subst e1 e2
   obtain⟨nm,bs,mro,ns,qn,hd,sn,sub,ab,col,del⟩:=cd
   dsimp only at hm e3 e5 e6
   subst hm e3
   have hl:sl= #[k0,k1,k2,k3,some (.builtin "ValueError.__new__"),k5]:=by
    obtain⟨l⟩:=sl
    simp only at hs
    rw[hs]
   subst hl
   exact⟨bm,ns,nm,qn,bs,hd,sn,sub,ab,col,dd,k0,k1,k2,k3,k5,_,kin _ _ ho,.of_isNs (W.isNs_of_in kin e5),W.nsMap_none_of_in kin e5 e6,W.tail_of_in kin e4⟩
  .cases e
 .cases e
section
variable{X:Cx}{Kx:St->XK}{D:Ends}{σ:St}{H:Hp}{x:Str}{np cpos pos:Pos}{e:Expr}{es:List Expr}
theorem eY(hx:ye X Kx)(hc:X.calm=true)(O:Pb X.K X.mg x)(hg:Gl X x)(hd:(x==("__debug__":Str))=false)(he:starEach (e::es) X.env=(false,eval e X.env)::starEach es X.env)
  (hpl:(backTo cpos (starEach es X.env)).any (·.1)=false) (h:EA X (e::es) σ H λvs H1=>vs.length≤sizeLine/\Kx σ (.ref (ak X.mg x)) (none,true) H1):
  SX X (.Raise (some (.Call (.Name x np) (e::es) [] cpos)) none pos) D σ H:=by
 intro pins s I
 obtain⟨bm,N,nm,q,bs,hdct,sn,sub,ab,col,dd,k0,k1,k2,k3,k5,mN,hC,hN,hni,T⟩:=Lz I.ok.mod.kin O.ex
 refine wpAny_Raise_call_subT (C:=ak X.mg x) (nm:=nm) (q:=q) (N:=N) (bs:=bs) (bm:=bm) (hdct:=hdct) (sn:=sn) (sub:=sub) (ab:=ab) (col:=col) (dd:=dd) (k0:=k0) (k1:=k1) (k2:=k2) (k3:=k3) (k5:=k5)
  F.excBase_ValueError (mN:=mN) (T.hasType (by decide+kernel)) (I.ok.hd hc) ?_ hni (iz I hg O.at_ ⟨rfl,?_⟩ hd)
 .rw[he]
  show(false||(backTo cpos (starEach es X.env)).any (·.1))=false
  rw[hpl]
  rfl
 .have h':=h cpos pins s I
  rw[he]at h'⊢
  refine Calls.evalArgs_plain (cZ h' λus s2 ⟨vs,H1,I2,r,hl,kq⟩=>⟨rfl,by rw[<-r.length];exact hl,I2.bk _ _ hC,hN.keeps I2.bk,T.keeps I2.bk,λh3 a M=>?_⟩)
  obtain⟨t,m1,m2,m3⟩:=M.there
  refine hx pins σ H1 _ a _ (none,true) ⟨I2.kept (t':=s2.toks) M.keeps,none,.none,⟨_,_,m1,rfl,rfl,rfl,rfl,by simp,Ctx.yes rfl,λT z=>nomatch z⟩,.inl rfl,λb hb=>?_⟩ kq
  have z:b=a:=by simpa using hb
  subst z
  exact⟨I2.hok.free M.new,I2.ch M.new⟩
end
abbrev Cx.tri(X:Cx)(F:Value->Shared->Prop)(pn:List (Addr×Obj)):Cx:={X with xe:=F,pn:=pn}
abbrev Cx.kW(X:Cx)(e:Value)(F:Value->Shared->Prop)(pn:List (Addr×Obj)):Cx:={X with A:=X.A.mark (some e),calm:=false,xe:=F,pn:=pn}
section
variable{X:Cx}{pins pins':List (Addr×Obj)}{σ:St}{H:Hp}{s:Shared}{F:Value->Shared->Prop}{e:Value}
theorem Cx.Ok.tri(ok:X.Ok)(pn:List (Addr×Obj)):(X.tri F pn).Ok:=
 ⟨ok.mod,ok.kind,ok.glob,ok.blt,ok.above,ok.inj,ok.has,ok.cab,ok.hd,ok.frames,ok.stk,ok.exf,ok.bs,ok.bsz,ok.noex,ok.exfs,ok.funs,ok.frf⟩
theorem Cx.Ok.kW(ok:X.Ok)(pn:List (Addr×Obj)):(X.kW e F pn).Ok:=
 ⟨ok.mod,ok.kind,ok.glob,ok.blt,ok.above,ok.inj,ok.has,ok.cab,(λz=>nomatch z),ok.frames,ok.stk,ok.exf,ok.bs,ok.bsz,ok.noex,ok.exfs,ok.funs,ok.frf⟩
theorem Inv.tri(I:Inv X pins σ H s):Inv (X.tri F (X.pn++pins)) [] σ H s:=
 ⟨I.ok.tri _,I.os,I.bare,I.base,I.loc,I.cell,I.free,I.freeC,λp hp=>I.pin p (by simpa using hp),I.hok,I.len⟩
theorem Inv.kW(I:Inv X pins σ H s):Inv (X.kW e F (X.pn++pins)) [] σ H s:=
 ⟨I.ok.kW _,I.os,I.bare,I.base,I.loc,I.cell,I.free,I.freeC,λp hp=>I.pin p (by simpa using hp),I.hok,I.len⟩
theorem Inv.yF(ok:X.Ok)(I:Inv (X.tri F (X.pn++pins)) pins' σ H s):Inv X pins σ H s:=
 ⟨ok,I.os,I.bare,I.base,I.loc,I.cell,I.free,I.freeC,λp hp=>I.pin p (agY _ hp),I.hok,I.len⟩
theorem Inv.uX(ok:X.Ok)(I:Inv (X.kW e F (X.pn++pins)) pins' σ H s):Inv X pins σ H s:=
 ⟨ok,I.os,I.bare,I.base,I.loc,I.cell,I.free,I.freeC,λp hp=>I.pin p (agY _ hp),I.hok,I.len⟩
theorem Ch.yF{b:Addr}(c:Ch (X.tri F (X.pn++pins)) pins' b):Ch X pins b:=⟨c.1,c.2.1,c.2.2.1,λp hp=>c.2.2.2 p (agY _ hp)⟩
end
def EH(X:Cx)(hs:List ExceptHandler)(D:Ends)(σ:St)(cls:Value)(d:Option Addr×Bool)(H:Hp):Prop:=
 ∀(pins:List (Addr×Obj)) (s:Shared) (e T:Addr),Inv X pins σ H s->fu s.heap e cls d (some T) .none->(∀b∈[e,T],H b=none/\Ch X pins b)->
  wpAny (model X.prog X.w) X.A (handleBy (.ref e) X.env hs) (SP X pins D) X.xe s
section
variable{X:Cx}{D:Ends}{σ:St}{H:Hp}{h₀:ExceptHandler}{hs rest:List ExceptHandler}{body orelse suite:List Stmt}{b₀:Stmt}{pos np:Pos}{x n:Str}{cls c:Value}{d:Option Addr×Bool}
theorem Bg(Kx:St->XK)(hst:X.stack=X.env::X.outer)(hf:X.env.frame=some X.env.locals)
  (hb:∀F pn,ye (X.tri F pn) Kx->PassesOwn (model X.prog X.w) X.A X.env F->lH (X.tri F pn) body {D with nx:=λσ' H'=>lH X orelse D σ' H'} σ H)
  (hh:∀σ' cls d H',Kx σ' cls d H'->EH X (h₀::hs) D σ' cls d H'):SX X (.Try body (h₀::hs) orelse [] pos) D σ H:=by
 intro pins s I
 refine wpAny_Try_except ?_
 refine wpAny_mono (hb (λe s1=>wpAny (model X.prog X.w) X.A (noteFrame e X.env) (λ_ s2=>wpAny (model X.prog X.w) X.A (setFlight e none) (λ_ s3=>wpAny (model X.prog X.w) X.A (handleBy e X.env (h₀::hs)) (SP X pins D) X.xe s3) X.xe s2) X.xe s1)
  (X.pn++pins) ?_ PassesOwn.looking [] s I.tri) (λf s1 q=>?_) λ_ _ q=>q
 .intro pins' σ' H' s' e cls d xa q
  obtain⟨I',tb,fl,F',hfl,ch⟩:=xa
  have I2:=Inv.yF I.ok I'
  refine XAt.note (X:=X) (pins:=pins) ⟨I2,tb,fl,F',hfl,λb hb=>⟨(ch b hb).1,(ch b hb).2.yF⟩⟩ hst hf λs2 T I3 F3 c3=>?_
  exact I3.off F3 c3 λs4 I4 F4=>hh σ' cls d H' q pins s4 e T I4 F4 c3
 .cases f with
  |next=>
   obtain⟨σ',H',J,q⟩:=q
   exact q pins s1 (Inv.yF I.ok J)
  |brk=>
   obtain⟨σ',H',J,q⟩:=q
   exact⟨σ',H',Inv.yF I.ok J,q⟩
  |cont=>
   obtain⟨σ',H',J,q⟩:=q
   exact⟨σ',H',Inv.yF I.ok J,q⟩
  |ret u=>
   obtain⟨v,σ',H',J,r,q⟩:=q
   exact⟨v,σ',H',Inv.yF I.ok J,r,q⟩
theorem fu.ty{M:Model}{h:Heap}{e:Addr}{tb:Option Addr}{fl:Value}(F:fu h e cls d tb fl):auY M h (typeOf (.ref e)) cls:=by
 obtain⟨oe,vs,he,hc,_⟩:=F
 subst hc
 exact(W.Looks.ld he).andThen .now
theorem Nx{X:Cx}{pins:List (Addr×Obj)}{s:Shared}{e:Addr}{tb:Option Addr}{fl:Value}{k:Bool}{R:Result->Shared->Prop}(I:Inv X pins σ H s)(F:fu s.heap e cls d tb fl)(hg:Gl X x)(hm:X.mg x=some c)(hd:(x==("__debug__":Str))=false)
  (ex:akp X.K cls c=some k) (h:R (.ok (if k then .brk else .next)) s):codeAny (model X.prog X.w) (X.A.mark (some (.ref e))) (.handlers (.ref e) [.ExceptHandler (some (.Name x np)) none [] pos] X.env) R s:=by
 refine codeAny_handlers_test ?_
 have J:Inv (X.kW (.ref e) X.xe (X.pn++pins)) [] σ H s:=I.kW
 exact iz (X:=X.kW (.ref e) X.xe (X.pn++pins)) J hg hm ((W.exm_one I.kIn F.ty ex).here h) hd
end
mutual
inductive RD (K:acF) (H:Hp):V->PyData->Prop
 |non:RD K H .non .none
 |bl (b:Bool):RD K H (.bl b) (.bool b)
 |int (i:Int):RD K H (.int i) (.int i)
 |str (x:Str):RD K H (.str x) (.str x)
 |lst {a:Addr} {xs:List V} {ds:List PyData} (h:aX K H a xs) (r:RDs K H xs ds):RD K H (.ref a) (.list ds)
 |tup {a:Addr} {xs:List V} {ds:List PyData} (h:dg K H a xs) (r:RDs K H xs ds):RD K H (.ref a) (.tuple ds)
inductive RDs (K:acF) (H:Hp):List V->List PyData->Prop
 |nil:RDs K H [] []
 |cons {x:V} {d:PyData} {xs:List V} {ds:List PyData} (h:RD K H x d) (r:RDs K H xs ds):RDs K H (x::xs) (d::ds)
end
section
variable{X:Cx}{H:Hp}{Q:VK}{x y:V}{d d':PyData}
end
def RQ(l:List Stmt)(i:Nat):Stmt:=l.getD i (.Pass ⟨0,0,0,0⟩)
def ad1(s:Stmt):List Stmt:=match s with
 | .If _ b _ _=>b
 |_=>[]
theorem aqS{A B:Prop}(h:A):if decide (V.non=V.non)=true then A else B:=by rw[if_pos (by decide)];exact h
theorem aic{A B:Prop}{i:Int}(h:B):if decide (V.int i=V.non)=true then A else B:=by rw[if_neg (by simp)];exact h
theorem acN{X:Cx}{H:Hp}{Q:VK}{z:Str}{n:Int}(hn:intText? z=some n)(hl:z.length≤640)(q:Q (.int n) H):CL X (.type "int") [.str z] H Q:=by
 refine jN (r:=λxs H Q=>∃z n,xs=[.str z]/\intText? z=some n/\z.length≤640/\Q (.int n) H) ?_ ⟨z,n,rfl,hn,hl,q⟩
 intro pins s σ H xs us Q I r h
 obtain⟨z,n,rfl,hn,hl,q⟩:=h
 obtain⟨u,rfl,ru⟩:=vals1 r
 obtain⟨t,rfl⟩:=ru
 exact W.KIN.call_text hn hl ⟨.int n,H,I.tok _,⟨_,rfl⟩,q⟩
theorem Kr{X:Cx}{H:Hp}{Q:VK}{i:Int}(q:Q (.bl false) H):CL X (.builtin "isinstance") [V.int i,.ty "str"] H Q:=zP (qt.int _) (k:=false) (by rfl) q
theorem JL{X:Cx}{H:Hp}{Q:VK}{i:Str}(q:Q (.bl true) H):CL X (.builtin "isinstance") [V.str i,.ty "str"] H Q:=zP (qt.str _) (k:=true) (by rfl) q
theorem yX{X:Cx}{H:Hp}{Q:VK}(q:Q (.bl false) H):CL X (.builtin "isinstance") [V.non,.ty "str"] H Q:=zP (qt.non) (k:=false) (by rfl) q
section
variable{X:Cx}{e:Expr}{es:List Expr}{σ:St}{H:Hp}{Q:VK}{pos p:Pos}
theorem ael(hg:Gl X "len")(hm:X.mg "len"=none)(he:starEach (e::es) X.env=(false,eval e X.env)::starEach es X.env)(hpl:(backTo pos (starEach es X.env)).any (·.1)=false)(h:EA X (e::es) σ H λvs H1=>CL X (.builtin "len") vs H1 Q):EV X (.Call (.Name "len" p) (e::es) [] pos) σ H Q:=qH hg hm PySem.boot_len (by decide) (by decide) he hpl h
theorem BL(hg:Gl X "isinstance")(hm:X.mg "isinstance"=none)(he:starEach (e::es) X.env=(false,eval e X.env)::starEach es X.env)(hpl:(backTo pos (starEach es X.env)).any (·.1)=false)(h:EA X (e::es) σ H λvs H1=>CL X (.builtin "isinstance") vs H1 Q):EV X (.Call (.Name "isinstance" p) (e::es) [] pos) σ H Q:=qH hg hm PyProof.Rows.boot_isinstance (by decide) (by decide) he hpl h
theorem acq(hg:Gl X "all")(hm:X.mg "all"=none)(he:starEach (e::es) X.env=(false,eval e X.env)::starEach es X.env)(hpl:(backTo pos (starEach es X.env)).any (·.1)=false)(h:EA X (e::es) σ H λvs H1=>CL X (.builtin "all") vs H1 Q):EV X (.Call (.Name "all" p) (e::es) [] pos) σ H Q:=qH hg hm PyProof.Rows.boot_all (by decide) (by decide) he hpl h
theorem aea(hg:Gl X "min")(hm:X.mg "min"=none)(he:starEach (e::es) X.env=(false,eval e X.env)::starEach es X.env)(hpl:(backTo pos (starEach es X.env)).any (·.1)=false)(h:EA X (e::es) σ H λvs H1=>CL X (.builtin "min") vs H1 Q):EV X (.Call (.Name "min" p) (e::es) [] pos) σ H Q:=qH hg hm PyProof.Rows.boot_min (by decide) (by decide) he hpl h
theorem adZ(hg:Gl X "ord")(hm:X.mg "ord"=none)(he:starEach (e::es) X.env=(false,eval e X.env)::starEach es X.env)(hpl:(backTo pos (starEach es X.env)).any (·.1)=false)(h:EA X (e::es) σ H λvs H1=>CL X (.builtin "ord") vs H1 Q):EV X (.Call (.Name "ord" p) (e::es) [] pos) σ H Q:=qH hg hm PyProof.Rows.boot_ord (by decide) (by decide) he hpl h
theorem adQ(hg:Gl X "str")(hm:X.mg "str"=none)(he:starEach (e::es) X.env=(false,eval e X.env)::starEach es X.env)(hpl:(backTo pos (starEach es X.env)).any (·.1)=false)(h:EA X (e::es) σ H λvs H1=>CL X (.type "str") vs H1 Q):EV X (.Call (.Name "str" p) (e::es) [] pos) σ H Q:=vN hg hm PyProof.Rows.boot_str (by decide) (by decide) he hpl h
theorem Y8(hg:Gl X "list")(hm:X.mg "list"=none)(he:starEach (e::es) X.env=(false,eval e X.env)::starEach es X.env)(hpl:(backTo pos (starEach es X.env)).any (·.1)=false)(h:EA X (e::es) σ H λvs H1=>CL X (.type "list") vs H1 Q):EV X (.Call (.Name "list" p) (e::es) [] pos) σ H Q:=vN hg hm PyProof.Rows.boot_list (by decide) (by decide) he hpl h
theorem aco(hg:Gl X "int")(hm:X.mg "int"=none)(he:starEach (e::es) X.env=(false,eval e X.env)::starEach es X.env)(hpl:(backTo pos (starEach es X.env)).any (·.1)=false)(h:EA X (e::es) σ H λvs H1=>CL X (.type "int") vs H1 Q):EV X (.Call (.Name "int" p) (e::es) [] pos) σ H Q:=vN hg hm PyProof.Rows.boot_int (by decide) (by decide) he hpl h
theorem abC(hg:Gl X "set")(hm:X.mg "set"=none)(he:starEach (e::es) X.env=(false,eval e X.env)::starEach es X.env)(hpl:(backTo pos (starEach es X.env)).any (·.1)=false)(h:EA X (e::es) σ H λvs H1=>CL X (.type "set") vs H1 Q):EV X (.Call (.Name "set" p) (e::es) [] pos) σ H Q:=vN hg hm PyProof.Rows.boot_set (by decide) (by decide) he hpl h
theorem ty_str(hg:Gl X "str")(hm:X.mg "str"=none)(q:Q (.ty "str") H):EV X (.Name "str" pos) σ H Q:=ZG hg hm PyProof.Rows.boot_str q (by decide) (by decide)
end
section
variable{X:Cx}{pins:List (Addr×Obj)}{σ:St}{H:Hp}{s:Shared}
theorem Inv.Mu{ch:List Addr}{T:Addr}{xs:List V}{us:List Value}{h':Heap}{tk:Nat}(I:Inv X pins σ H s)(hf:∀b∈ch,nO X pins H b)(hT:s.heap.objs.size≤T)
  (k:∀b o,b∉ch->s.heap.get? b=some o->h'.get? b=some o) (hz:xs.length≤sizeLine) (rv:Vals xs us) (tp:IsTup h' T us.toArray):Inv X pins σ (upd H T (.tup xs)) {s with heap:=h',toks:=tk}:=by
 have nT:=I.hok.fresh hT
 have neT:∀b o,s.heap.get? b=some o->b≠T:=λb o e z=>ahK _ (aey (acK e) (z▸hT))
 have nch:∀b u,H b=some u->b∉ch:=λb u e z=>by rw[(hf b z).1]at e;cases e
 refine I.call (g':=s.gens) (d':=s.drawn) (t':=tk) (ch:=ch) (h':=h') ⟨λb o e _ _ hx=>k b o hx e,λb o e _ _ hx=>⟨o.slots,k b o hx e⟩,λb o e n _=>?_,λb o e hx=>⟨o,k b o hx e⟩,λb ys e=>?_,λb o u e=>?_,λb ps e=>⟨#[],?_⟩⟩ ?_ I.bare
  λb hb=>⟨(hf b hb).2.2.2.1,(hf b hb).2.1,(hf b hb).2.2.2.2.1,(hf b hb).2.2.2.2.2⟩
 .rw[aF (neT b o e)];exact n
 .rw[aF (aB e nT)];exact e
 .rw[aF (aB e nT)];exact e
 .rw[aF (aB e nT),e];simp
 .intro b u e
  by_cases hb:b=T
  .subst hb
   rw[ao]at e
   cases e
   exact⟨hz,us,rv,tp⟩
  .rw[aF hb]at e
   refine(I.hok b u e).stay (λc v hc q=>k c v ?_ q) (λc q=>by rw[aF (aB q nT)];exact q) λc ys q=>by rw[aF (aB q nT)];exact q
   rcases hc with z |z
   .subst z;exact nch c u e
   .exact nch c _ z
end
def Ite(K:acF)(l:Addr):It:=
 ⟨λi H=>∃xs x,aX K H l xs/\xs[i]? =some x,λi H v H'=>∃T x,v= .ref T/\H T=none/\H'=upd H T (.tup [.int i,x])/\∀xs,aX K H l xs->xs[i]? =some x,λi H=>∃xs,aX K H l xs/\xs.length≤i⟩
theorem QW{P:Program}{w:World}{K:PySem.W.Frag}{elts:List Expr}{k:Nat}{pos:Pos}(l e it:Addr)(hei:e≠it)(hle:l≠e)(hli:l≠it):
  Turn P w K (.Tuple elts k pos) (Ite K l) [e,it] e (λi h=>(∃old,IsEnum h e it i old)/\h.IsListIter it l i)where
 mem:=by simp
 obj:=λi h st b hb=>by
  obtain⟨⟨old,he⟩,o,ho,_,hd⟩:=st
  rcases abO.mp hb with z |z
  .subst z;exact⟨_,he,λv z=>by cases z⟩
  .have z':b=it:=by simpa using z
   subst z'
   exact⟨o,ho,λv z=>by rw[hd]at z;cases z⟩
 keep:=λi h h' st kk=>by
  obtain⟨⟨old,he⟩,o,ho,r⟩:=st
  exact⟨⟨old,kk e (by simp) _ he⟩,o,kk it (by simp) _ ho,r⟩
 item:=by
  intro X hP hw hK hc i pins s σ H E I hf st hg
  subst hP hw hK
  obtain⟨⟨old,he⟩,hit⟩:=st
  obtain⟨xs,x,hS,hx⟩:=hg
  obtain⟨its,rv,pl,hz⟩:=I.list hS
  have W:=WalksT.enumerate (prog:=X.prog) (w:=X.w) (A:=X.A) (I.ok.hd hc) e it l hei hle hli its.toArray
  have hi:i<its.toArray.size:=by
   rw[abY, <-rv.length]
   exact(aan.mp hx).1
  obtain⟨u,hu,ru⟩:=rv.get hx
  refine W.item i s _ _ hi ⟨⟨old,he⟩,hit,pl.isList⟩ λT vals h1 tk hp hT tup mid keep=>⟨.ref T,rfl,?_⟩
  obtain⟨t,y,ey,rfl⟩:=hp
  have euy:y=u:=by
   have :its[i]? =some y:=by simpa using ey
   rw[hu]at this
   exact(Option.some.inj this).symm
  subst euy
  refine W.go elts k pos i T {s with heap:=h1,toks:=tk} _ _ mid λh2 st2 HR=>?_
  obtain⟨⟨aoc,he2⟩,hit2,_⟩:=st2
  have aa4:IsTup h2 T [Value.int i t,y].toArray:=by
   obtain⟨o,ho,r⟩:=tup
   exact⟨o,HR T o (W.apart i T h1 mid) ho,r⟩
  refine⟨.ref T,upd H T (.tup [.int i,x]),I.Mu (ch:=[e,it]) (tk:=tk) hf hT (λb o hb q=>HR b o hb (keep b o hb q)) (by show 2≤sizeLine;rw[sizeLine_eq];decide) (.cons ⟨t,rfl⟩ (.cons ru .nil)) aa4,rfl,?_,?_,λb hb=>?_⟩
  .refine⟨T,x,rfl,I.hok.fresh hT,rfl,λys hy=>?_⟩
   rw[<-I.list_inj hS hy]
   exact hx
  .exact⟨⟨aoc,by simpa using he2⟩,hit2⟩
  .have :b≠T:=λz=>by
    obtain⟨o,ho,_⟩:∃o,s.heap.get? b=some o/\True:=by
     rcases abO.mp hb with z |z
     .subst z;exact⟨_,he,trivial⟩
     .have z':b=it:=by simpa using z
      subst z'
      obtain⟨o,ho,_⟩:=hit
      exact⟨o,ho,trivial⟩
    exact ahK _ (aey (acK ho) (z▸hT))
   rw[aF this]
   exact(hf b hb).1
 done:=by
  intro X hP hw hK hc i pins s σ H E I hf st hg
  subst hP hw hK
  obtain⟨⟨old,he⟩,hit⟩:=st
  obtain⟨xs,hS,hx⟩:=hg
  obtain⟨its,rv,pl,hz⟩:=I.list hS
  have hn:its.toArray[i]? =none:=Array.getElem?_eq_none (by rw[abY, <-rv.length];exact hx)
  refine wpAny_pyNext_enum_end (I.ok.hd hc) he hit pl.isList hn λh' hk=>⟨rfl,?_⟩
  obtain⟨f0,f1,f2,f3,f4,f5⟩:=hf it (by simp)
  exact I.turned (t':=s.toks) (it:=it) (λb o hb q=>hk b o hb q) f0 f1 f3 f4 f5
 self:=λA i s Q E st h=>by
  obtain⟨⟨old,he⟩,_⟩:=st
  exact wpAny_pyIter_enum he h
section
variable{X:Cx}{σ:St}{H:Hp}{a b:Expr}{elts:List Expr}{k:Nat}{tp p pos:Pos}{R:It->Hp->Prop}
theorem Xr(hg:Gl X "enumerate")(hm:X.mg "enumerate"=none)(hs:starEach [a] X.env=[(false,eval a X.env)])
  (h:EV X a σ H λv H1=>∃l xs,v= .ref l/\H1 l=some (.lst xs)/\R (Ite X.K l) H1):EI X (.Tuple elts k tp) (.Call (.Name "enumerate" p) [a] [] pos) σ H R:=by
 intro pins s I
 refine Call_ (uI I hg hm boot_enumerate (PyProof.Rows.callWith_type1 (cZ (lq (es:=[]) (QA:=λvs H1=>∃l xs,vs=[.ref l]/\H1 l=some (.lst xs)/\R (Ite X.K l) H1) hs (bV h λv H1 ⟨l,xs,e,q1,q2⟩=>nP ⟨l,xs,by rw[e],q1,q2⟩) pos pins s I) λus s1 ⟨vs,H1,I1,r1,l,xs,e,hl,q⟩=>?_) hs rfl))
 subst e
 obtain⟨u,rfl,ru⟩:=vals1 r1
 cases(show u=Value.ref l from ru)
 obtain⟨hz,its,n,rv,ho⟩:=I1.hok l _ hl
 refine call_enumerate_1 ho λh' he hit hsz hk=>?_
 refine wpAny_pyIter_enum he ?_
 have hlt:l<s1.heap.objs.size:=acK ho
 refine⟨s1.heap.objs.size+1,[s1.heap.objs.size+1,s1.heap.objs.size],_,_,H1,rfl,I1.kept (t':=s1.toks) hk,QW l _ _ (Nat.succ_ne_self _) (aeB (amP hlt)) (aeB hlt),⟨⟨_,he⟩,hit⟩,λb hb=>?_,q⟩
 have hb':b=s1.heap.objs.size+1\/b=s1.heap.objs.size:=by simpa using hb
 rcases hb' with z |z<;>subst z
 .exact I1.fpOk (akk _) (I1.hok.fresh (akk _))
 .exact I1.fpOk (aaO _) (I1.hok.fresh (aaO _))
end
section
variable{X:Cx}{pins:List (Addr×Obj)}{σ:St}{H:Hp}{s:Shared}
theorem Inv.Y6{ch:List Addr}{h':Heap}{tk:Nat}(I:Inv X pins σ H s)(hf:∀b∈ch,nO X pins H b)
  (k:∀b o,b∉ch->s.heap.get? b=some o->h'.get? b=some o):Inv X pins σ H {s with heap:=h',toks:=tk}:=by
 have nch:∀b u,H b=some u->b∉ch:=λb u e z=>by rw[(hf b z).1]at e;cases e
 refine I.call (g':=s.gens) (d':=s.drawn) (t':=tk) (ch:=ch) (h':=h') ⟨λb o e _ _ hx=>k b o hx e,λb o e _ _ hx=>⟨o.slots,k b o hx e⟩,λb o e n _=>n,λb o e hx=>⟨o,k b o hx e⟩,λb ys e=>e,λb o u e=>e,λb ps e=>⟨#[],?_⟩⟩ ?_ I.bare
  λb hb=>⟨(hf b hb).2.2.2.1,(hf b hb).2.1,(hf b hb).2.2.2.2.1,(hf b hb).2.2.2.2.2⟩
 .rw[e];simp
 .intro b u e
  refine(I.hok b u e).stay (λc v hc q=>k c v ?_ q) (λc q=>q) λc ys q=>q
  rcases hc with z |z
  .subst z;exact nch c u e
  .exact nch c _ z
end
def Itz(K:acF)(l m:Addr):It:=
 ⟨λi H=>∃xs ys x y,aX K H l xs/\aX K H m ys/\xs[i]? =some x/\ys[i]? =some y,
  λi H v H'=>∃T x y,v= .ref T/\H T=none/\H'=upd H T (.tup [x,y])/\(∀xs,aX K H l xs->xs[i]? =some x)/\∀ys,aX K H m ys->ys[i]? =some y,
  λi H=>∃xs ys,aX K H l xs/\aX K H m ys/\min xs.length ys.length≤i⟩
theorem TX{P:Program}{w:World}{K:PySem.W.Frag}{elts:List Expr}{k:Nat}{pos:Pos}(z TI TO i1 i2 l m:Addr)(D:ZipApart z TI TO i1 i2 l m):
  Turn P w K (.Tuple elts k pos) (Itz K l m) [z,TI,TO,i1,i2] z (λi h=>IsZip h z TI TO .none/\IsPair h TI (.ref i1) (.ref i2)/\(∃a b,IsPair h TO a b)/\h.IsListIter i1 l i/\h.IsListIter i2 m i)where
 mem:=by simp
 obj:=λi h st b hb=>by
  obtain⟨hz,hTI,⟨a,a',hTO⟩,⟨o1,h1,_,d1⟩,⟨o2,h2,_,d2⟩⟩:=st
  simp only[List.mem_cons,List.not_mem_nil,or_false]at hb
  rcases hb with e |e |e |e |e<;>subst e
  .exact⟨_,hz,λv z=>by cases z⟩
  .exact⟨_,hTI,λv z=>by cases z⟩
  .exact⟨_,hTO,λv z=>by cases z⟩
  .exact⟨_,h1,λv z=>by rw[d1]at z;cases z⟩
  .exact⟨_,h2,λv z=>by rw[d2]at z;cases z⟩
 keep:=λi h h' st kk=>by
  obtain⟨hz,hTI,⟨a,a',hTO⟩,⟨o1,h1,r1⟩,⟨o2,h2,r2⟩⟩:=st
  exact⟨kk z (by simp) _ hz,kk TI (by simp) _ hTI,⟨a,a',kk TO (by simp) _ hTO⟩,⟨o1,kk i1 (by simp) _ h1,r1⟩,⟨o2,kk i2 (by simp) _ h2,r2⟩⟩
 item:=by
  intro X hP hw hK hc i pins s σ H E I hf st hg
  subst hP hw hK
  obtain⟨hz,hTI,hTO,h1,h2⟩:=st
  obtain⟨xs,ys,x,y,hS,hS',hx,hy⟩:=hg
  obtain⟨its,rv,pl,hsz⟩:=I.list hS
  obtain⟨its',rv',pl',hsz'⟩:=I.list hS'
  have W:=WalksT.zip2 (prog:=X.prog) (w:=X.w) (A:=X.A) (I.ok.hd hc) z TI TO i1 i2 l m D its.toArray its'.toArray
  have hi:i<min its.toArray.size its'.toArray.size:=by
   rw[abY, <-rv.length,abY, <-rv'.length]
   exact Nat.lt_min.mpr ⟨(aan.mp hx).1,(aan.mp hy).1⟩
  obtain⟨u,hu,ru⟩:=rv.get hx
  obtain⟨u',hu',ru'⟩:=rv'.get hy
  refine W.item i s _ _ hi ⟨hz,hTI,hTO,h1,h2,pl.isList,pl'.isList⟩ λT vals hh tk hp hT tup mid keep=>⟨.ref T,rfl,?_⟩
  obtain⟨v,v',ev,ev',rfl⟩:=hp
  have e1:v=u:=by
   have :its[i]? =some v:=by simpa using ev
   rw[hu]at this
   exact(Option.some.inj this).symm
  have e2:v'=u':=by
   have :its'[i]? =some v':=by simpa using ev'
   rw[hu']at this
   exact(Option.some.inj this).symm
  subst e1 e2
  refine W.go elts k pos i T {s with heap:=hh,toks:=tk} _ _ mid λh3 st2 HR=>?_
  obtain⟨gz,gTI,gTO,g1,g2,_⟩:=st2
  have nin:∀b,b∉[z,TI,TO,i1,i2]->b∉[z,TO,i1,i2]:=λb hb hb'=>hb (by simp at hb'⊢;rcases hb' with e |e |e |e<;>simp[e])
  have aa4:IsTup h3 T [v,v'].toArray:=by
   obtain⟨o,ho,r⟩:=tup
   exact⟨o,HR T o (W.apart i T hh mid) ho,r⟩
  refine⟨.ref T,upd H T (.tup [x,y]),I.Mu (ch:=[z,TI,TO,i1,i2]) (tk:=tk) hf hT (λb o hb q=>HR b o (nin b hb) (keep b o (nin b hb) q)) (by show 2≤sizeLine;rw[sizeLine_eq];decide) (.cons ru (.cons ru' .nil)) aa4,rfl,?_,⟨gz,gTI,gTO,g1,g2⟩,λb hb=>?_⟩
  .refine⟨T,x,y,rfl,I.hok.fresh hT,rfl,λa ha=>?_,λa ha=>?_⟩
   .rw[<-I.list_inj hS ha];exact hx
   .rw[<-I.list_inj hS' ha];exact hy
  .have :b≠T:=λq=>by
    obtain⟨o,ho⟩:∃o,s.heap.get? b=some o:=by
     obtain⟨a,a',hTO⟩:=hTO
     obtain⟨o1,h1,_⟩:=h1
     obtain⟨o2,h2,_⟩:=h2
     simp only[List.mem_cons,List.not_mem_nil,or_false]at hb
     rcases hb with e |e |e |e |e<;>subst e
     .exact⟨_,hz⟩
     .exact⟨_,hTI⟩
     .exact⟨_,hTO⟩
     .exact⟨_,h1⟩
     .exact⟨_,h2⟩
    exact ahK _ (aey (acK ho) (q▸hT))
   rw[aF this]
   exact(hf b hb).1
 done:=by
  intro X hP hw hK hc i pins s σ H E I hf st hg
  subst hP hw hK
  obtain⟨hz,hTI,⟨a,b,hTO⟩,h1,h2⟩:=st
  obtain⟨xs,ys,hS,hS',hx⟩:=hg
  obtain⟨its,rv,pl,hsz⟩:=I.list hS
  obtain⟨its',rv',pl',hsz'⟩:=I.list hS'
  have hend:its.toArray[i]? =none\/its'.toArray[i]? =none:=by
   by_cases q:xs.length≤i
   .exact .inl (Array.getElem?_eq_none (by rw[abY, <-rv.length];exact q))
   .exact .inr (Array.getElem?_eq_none (by rw[abY, <-rv'.length];omega))
  refine wpAny_pyNext_zip_end (I.ok.hd hc) D hz hTI hTO h1 h2 pl.isList pl'.isList hend λh' hk=>⟨rfl,?_⟩
  exact I.Y6 (tk:=s.toks) hf λb o hb q=>hk b o (λe=>hb (by simp[e])) (λe=>hb (by simp[e])) (λe=>hb (by simp[e])) (λe=>hb (by simp[e])) q
 self:=λA i s Q E st h=>wpAny_pyIter_zip st.1 h
theorem R9(n l m:Nat)(h1:l<n)(h2:m<n):ZipApart (n+4) (n+2) (n+3) n (n+1) l m:=by
 constructor<;>(intro e;have e':(_:Nat)=_:=e;omega)
section
variable{X:Cx}{σ:St}{H:Hp}{a b:Expr}{elts:List Expr}{k:Nat}{tp p pos:Pos}{R:It->Hp->Prop}
theorem RJ(hg:Gl X "zip")(hm:X.mg "zip"=none)(hs:starEach [a,b] X.env=[(false,eval a X.env),(false,eval b X.env)])(hs2:starEach [b] X.env=[(false,eval b X.env)])
  (h:EV X a σ H λv H1=>EV X b σ H1 λv' H2=>∃l m xs ys,v= .ref l/\v'= .ref m/\H2 l=some (.lst xs)/\H2 m=some (.lst ys)/\R (Itz X.K l m) H2):EI X (.Tuple elts k tp) (.Call (.Name "zip" p) [a,b] [] pos) σ H R:=by
 intro pins s I
 refine Call_ (uI I hg hm boot_zip (PyProof.Rows.callWith_type1 (cZ (lq (es:=[b]) (QA:=λvs H1=>∃l m xs ys,vs=[.ref l,.ref m]/\H1 l=some (.lst xs)/\H1 m=some (.lst ys)/\R (Itz X.K l m) H1) (by rw[hs,hs2]) (bV h λv H1 q=>lq (es:=[]) hs2 (bV q λv' H2 ⟨l,m,xs,ys,e,e',q1,q2,q3⟩=>nP ⟨l,m,xs,ys,by rw[e,e'],q1,q2,q3⟩)) pos pins s I) λus s1 ⟨vs,H1,I1,r1,l,m,xs,ys,e,hl,hm',q⟩=>?_) (by rw[hs,hs2]) (by rw[hs2];rfl)))
 subst e
 obtain⟨u,u',rfl,ru,ru'⟩:=vals2 r1
 cases(show u=Value.ref l from ru)
 cases(show u'=Value.ref m from ru')
 obtain⟨hz,its,n,rv,ho⟩:=I1.hok l _ hl
 obtain⟨hz',its',n',rv',ho'⟩:=I1.hok m _ hm'
 refine call_zip_2 (xs:=its.toArray) (ys:=its'.toArray) ⟨_,ho,rfl,_,rfl⟩ ⟨_,ho',rfl,_,rfl⟩ λh' h1 h2 h3 h4 h5 hsz hk=>?_
 refine wpAny_pyIter_zip h1 ?_
 refine⟨s1.heap.objs.size+4,[s1.heap.objs.size+4,s1.heap.objs.size+2,s1.heap.objs.size+3,s1.heap.objs.size,s1.heap.objs.size+1],_,_,H1,rfl,I1.kept (t':=s1.toks) hk,TX _ _ _ _ _ l m (R9 _ _ _ (acK ho) (acK ho')),⟨h1,h2,⟨_,_,h3⟩,h4,h5⟩,λb hb=>?_,q⟩
 have hb':s1.heap.objs.size≤b:=by
  simp only[List.mem_cons,List.not_mem_nil,or_false]at hb
  rcases hb with e |e |e |e |e<;>subst e
  .exact akj _ _
  .exact akj _ _
  .exact akj _ _
  .exact aaO _
  .exact akj _ _
 exact I1.fpOk hb' (I1.hok.fresh hb')
end
section
variable{X:Cx}{a e:Expr}{σ:St}{H:Hp}{Q:VK}{D:Ends}{pos p p':Pos}
theorem UL{Y:Cx}{tg elt:Expr}{J:It}{E:Addr}{τ0:St}{Q:Hp->Prop}
  (n:Nat) (hn:n≤sizeLine) (Tp:St->Prop) (hT:Tp τ0) (Pi:Nat->V->Hp->Prop) (hE:H E=none)
  (mono:∀i v H1 H2 ys,H1 E=some (.lst ys)->(∀b o,b≠E->H1 b=some o->H2 b=some o)->Pi i v H1->Pi i v H2)
  (go:∀i H1,au H H1->i<n->J.go i H1) (stop:∀H1,au H H1->J.stop n H1)
  (step:∀i τ x H1 H2,i<n->Tp τ->au H H1->(∃ys,H1 E=some (.lst ys))->J.yld i H1 x H2->EG Y tg x τ H2 λτ2 H3=>EV Y elt τ2 H3 λv H4=>Tp τ2/\Pi i v H4/\au H1 H4)
  (fin:∀H1 xs,xs.length=n->(∀i v,xs[i]? =some v->Pi i v H1)->H1 E=some (.lst xs)->au H H1->Q H1):p8 X Y tg elt [] J E τ0 H Q:=by
 refine⟨λi m τ H1=>m=n-i/\i≤n/\au H H1/\Tp τ/\∃xs,H1 E=some (.lst xs)/\xs.length=i/\∀k v,xs[k]? =some v->Pi k v H1,⟨n,by simp,ahE _,au.upd hE,hT,[],ao,rfl,λk v e=>by simp at e⟩,?_⟩
 rintro i m τ H1 ⟨rfl,hi,s1,hτ,xs,eE,lx,px⟩
 by_cases hlt:i<n
 .refine .inr ⟨go i H1 s1 hlt,λτ' H'=>au H H'/\Tp τ'/\∃xs,H' E=some (.lst xs)/\xs.length=i+1/\∀k v,xs[k]? =some v->Pi k v H',λτ' H' ⟨a,b,c⟩=>⟨n-(i+1),by omega,rfl,hlt,a,b,c⟩,λx H2 y=>?_⟩
  intro pins s u I r
  refine cZ (step i τ x H1 H2 hlt hτ s1 ⟨xs,eE⟩ y pins s u I r) λ_ s' ⟨τ2,H3,I3,q3⟩=>⟨τ2,H3,I3,zL ?_⟩
  rw[if_pos rfl]
  refine bV q3 λv H4 ⟨t2,pv,s2⟩=>⟨xs,s2 _ _ eE,by omega,?_⟩
  have mm:∀k w',Pi k w' H4->Pi k w' (upd H4 E (.lst (xs++[v]))):=λk w' q=>mono k w' H4 _ xs (s2 _ _ eE) (λb o hb e=>by rw[aF hb];exact e) q
  refine⟨λb o e=>?_,t2,xs++[v],ao,by simp[lx],λk u e=>?_⟩
  .rw[aF (aB e hE)]
   exact s2 _ _ (s1 _ _ e)
  .by_cases hk:k<xs.length
   .rw[agh hk]at e
    refine mono k u H1 _ xs eE (λb o hb e=>?_) (px k u e)
    rw[aF hb]
    exact s2 _ _ e
   .have hk2:k=i:=by
     have :=(aan.mp e).1
     rw[ace,agk]at this
     omega
    subst hk2
    rw[<-lx,ajp]at e
    cases e
    exact mm _ _ pv
 .have e:i=n:=by omega
  subst e
  exact .inl ⟨stop H1 s1,fin H1 xs lx px eE s1⟩
variable{tg elt iter:Expr}{scope:Scope}{σ':St}
def Gs(X:Cx)(N':List Str)(scope:Scope)(tg elt:Expr)(σ':St)(H1:Hp)(Q:VK)(n:Nat)(G:Nat->Hp->V->Hp->Prop):Prop:=
 ∃(Tp:St->Prop) (Pi:Addr->Nat->V->Hp->Prop),Tp σ'/\
  (∀E i v H2 H3 ys,H2 E=some (.lst ys)->(∀b o,b≠E->H2 b=some o->H3 b=some o)->Pi E i v H2->Pi E i v H3)/\
  (∀(fp:List Addr) (E C:Addr) (s3:Shared) (H0:Hp) (i:Nat) (τ:St) (x:V) (H2 H3:Hp),H1 E=none->i<n->Tp τ->au H1 H2->(∃ys,H2 E=some (.lst ys))->G i H2 x H3->
   EG (CV X N' scope (cN scope X.env) C s3 H0 fp) tg x τ H3 λτ2 H4=>EV (CV X N' scope (cN scope X.env) C s3 H0 fp) elt τ2 H4 λv H5=>Tp τ2/\Pi E i v H5/\au H2 H5)/\
  ∀(E:Addr) (H2:Hp) (xs:List V),H1 E=none->xs.length=n->(∀i v,xs[i]? =some v->Pi E i v H2)->H2 E=some (.lst xs)->au H1 H2->Q (.ref E) H2
theorem Lq{N':List Str}{J:It}{n:Nat}{G:Nat->Hp->V->Hp->Prop}(hn:n≤sizeLine)(go:∀i H2,au H H2->i<n->J.go i H2)(stop:∀H2,au H H2->J.stop n H2)
  (yl:∀i H2 x H3,i<n->au H H2->J.yld i H2 x H3->G i H2 x H3) (h:Gs X N' scope tg elt σ' H Q n G):
  ∀(fp:List Addr) (D C:Addr) (s3:Shared),H D=none->p8 X (CV X N' scope (cN scope X.env) C s3 (upd H D (.lst [])) fp) tg elt [] J D σ' H (λH'=>Q (.ref D) H'):=by
 intro fp E C s3 hE
 obtain⟨Tp,Pi,t0,mono,step,fin⟩:=h
 exact UL n hn Tp t0 (Pi E) hE (λi v H1 H2 ys=>mono E i v H1 H2 ys) go stop (λi τ x H1 H2 hi ht hs hy y=>step fp E C s3 _ i τ x H1 H2 hE hi ht hs hy (yl i H1 x H2 hi hs y)) λH1 xs l px eE s=>fin E H1 xs hE l px eE s
theorem zF(N':List Str)(hσ:gA N' X.N σ scope=σ')(hc:X.calm=true)(S:dw X.env scope)(hs:∀x,foldedSetIterable e X.env x=pure x)
  (h:EV X e σ H λv H1=>∃l xs,v= .ref l/\aX X.K H1 l xs/\xs.length≤sizeLine/\Gs X N' scope tg elt σ' H1 Q xs.length λi H2 x H3=>xs[i]? =some x/\H2=H3):
  EV X (.ListComp elt [⟨tg,e,[],0⟩] scope pos) σ H Q:=by
 refine rY (N':=N') hc S hs (sH (bV h λv H1 q=>?_))
 obtain⟨l,xs,rfl,hl,hz,hw⟩:=q
 refine⟨l,rfl,⟨xs,hl⟩,?_⟩
 rw[hσ]
 refine Lq hz (λi H2 s hi=>⟨xs,xs[i],au.seq s hl,aak hi⟩) (λH2 s=>⟨xs,au.seq s hl,aaO _⟩) (λi H2 x H3 hi s y=>⟨y.2 xs (au.seq s hl),y.1.symm⟩) hw
theorem Ol(N':List Str)(hσ:gA N' X.N σ scope=σ')(hc:X.calm=true)(S:dw X.env scope)
  (hg:Gl X "range") (hm:X.mg "range"=none) (hs:starEach [a] X.env=[(false,eval a X.env)])
  (h:EV X a σ H λv H1=>∃n:Int,v= .int n/\ -(2^62)≤n/\n.toNat≤sizeLine/\Gs X N' scope tg elt σ' H1 Q n.toNat λi H2 x H3=>x= .int i/\H2=H3):
  EV X (.ListComp elt [⟨tg,.Call (.Name "range" p) [a] [] p',[],0⟩] scope pos) σ H Q:=by
 refine rY (N':=N') hc S (by intro _;rfl) (xY hg hm hs (lq hs (bV h λv H1 q=>?_)))
 obtain⟨n,rfl,h1,h2,hw⟩:=q
 have hsz:(sizeLine:Nat)<2^62:=by rw[sizeLine_eq];decide
 refine nP ⟨n,rfl,h1,by omega,?_⟩
 rw[hσ]
 exact Lq h2 (λi H2 s hi=>hi) (λH2 s=>aaO _) (λi H2 x H3 hi s y=>⟨by rw[y.2,aoX],y.1.symm⟩) hw
theorem Wg{b:Expr}{elts:List Expr}{k:Nat}{tp:Pos}(N':List Str)(hσ:gA N' X.N σ scope=σ')(hc:X.calm=true)(S:dw X.env scope)
  (hg:Gl X "zip") (hm:X.mg "zip"=none) (hs:starEach [a,b] X.env=[(false,eval a X.env),(false,eval b X.env)]) (hs2:starEach [b] X.env=[(false,eval b X.env)])
  (h:EV X a σ H λv H1=>EV X b σ H1 λv' H2=>∃l m xs ys,v= .ref l/\v'= .ref m/\H2 l=some (.lst xs)/\H2 m=some (.lst ys)/\min xs.length ys.length≤sizeLine/\
   Gs X N' scope (.Tuple elts k tp) elt σ' H2 Q (min xs.length ys.length) λi H3 x H4=>∃T y z,x= .ref T/\H3 T=none/\H4=upd H3 T (.tup [y,z])/\xs[i]? =some y/\ys[i]? =some z):
  EV X (.ListComp elt [⟨.Tuple elts k tp,.Call (.Name "zip" p) [a,b] [] p',[],0⟩] scope pos) σ H Q:=by
 refine rY (N':=N') hc S (by intro _;rfl) (RJ hg hm hs hs2 (bV h λv H1 q=>bV q λv' H2 q=>?_))
 obtain⟨l,m,xs,ys,e1,e2,hl,hm',h2,hw⟩:=q
 refine⟨l,m,xs,ys,e1,e2,hl,hm',?_⟩
 rw[hσ]
 have S1:aX X.K H2 l xs:=.inl (.inl hl)
 have S2:aX X.K H2 m ys:=.inl (.inl hm')
 refine Lq h2 (λi H3 s hi=>⟨xs,ys,xs[i]'(by omega),ys[i]'(by omega),au.seq s S1,au.seq s S2,aak _,aak _⟩) (λH3 s=>⟨xs,ys,au.seq s S1,au.seq s S2,aaO _⟩) (λi H3 x H4 hi s y=>?_) hw
 obtain⟨T,u,u',a1,a2,a3,a4,a5⟩:=y
 exact⟨T,u,u',a1,a2,a3,a4 xs (au.seq s S1),a5 ys (au.seq s S2)⟩
theorem Zk{elts:List Expr}{k:Nat}{tp:Pos}{body:List Stmt}(hp:PassesOwn (model X.prog X.w) X.A X.env X.xe)(hc:X.calm=true)(hg:Gl X "enumerate")(hm:X.mg "enumerate"=none)(hs:starEach [a] X.env=[(false,eval a X.env)])
  (h:EV X a σ H λv H1=>∃l xs,v= .ref l/\H1 l=some (.lst xs)/\∃Pv:Nat->St->Hp->Prop,Pv 0 σ H1/\(∀i σ' H',i≤xs.length->Pv i σ' H'->aX X.K H' l xs)/\
   (∀i x T σ' H',xs[i]? =some x->Pv i σ' H'->H' T=none->EG X (.Tuple elts k tp) (.ref T) σ' (upd H' T (.tup [.int i,x])) λσ2 H2=>lH X body {D with nx:=Pv (i+1),ct:=Pv (i+1),bk:=D.nx} σ2 H2)/\∀σ' H',Pv xs.length σ' H'->D.nx σ' H'):
  SX X (.For (.Tuple elts k tp) (.Call (.Name "enumerate" p) [a] [] p') body [] pos) D σ H:=by
 refine wQ hp hc (by intro _;rfl) (Xr hg hm hs (bV h λv H1 q=>?_))
 obtain⟨l,xs,rfl,hq,Pv,h0,hl,hst,hd⟩:=q
 refine⟨l,xs,rfl,hq,λi m σ H=>m=xs.length-i/\i≤xs.length/\Pv i σ H,⟨xs.length,by simp,ahE _,h0⟩,?_⟩
 rintro i m σ' H' ⟨rfl,hi,p⟩
 have hS:=hl i σ' H' hi p
 by_cases hlt:i<xs.length
 .refine .inr ⟨⟨xs,xs[i],hS,aak hlt⟩,Pv (i+1),λσ2 H2 p2=>⟨xs.length-(i+1),by omega,rfl,hlt,p2⟩,λx H2 y=>?_⟩
  obtain⟨T,u,e1,e2,e3,e4⟩:=y
  subst e1 e3
  exact hst i u T σ' H' (e4 xs hS) p e2
 .have e:i=xs.length:=by omega
  subst e
  exact .inl ⟨⟨xs,hS,aaO _⟩,hd σ' H' p⟩
end
section
variable{Kt:Type} [DecidableEq Kt] [BEq Kt] [LawfulBEq Kt]
def lX(ks:List Kt):List Kt:=ks.foldl (λa k=>if k∈a then a else a++[k]) []
theorem mD(ks:List Kt)(k:Kt):lX (ks++[k])=if k∈lX ks then lX ks else lX ks++[k]:=by
 unfold lX
 rw[ar4]
 rfl
theorem vC:∀n (ks:List Kt),ks.length=n->(lX ks).length≤ks.length
 |0,ks,h=>by rw[akr.mp h];exact aaO _
 |n+1,ks,h=>by
  obtain⟨l,k,rfl⟩:∃l k,ks=l++[k]:=⟨_,_,(aj9 (ajO h)).symm⟩
  have hl:l.length=n:=by simpa using h
  have ih:=vC n l hl
  rw[mD]
  split <;>simp <;>omega
theorem Ck:∀n (ks:List Kt),ks.length=n->∀k,k∈lX ks↔k∈ks
 |0,ks,h=>by rw[akr.mp h];intro k;exact Iff.rfl
 |n+1,ks,h=>by
  obtain⟨l,x,rfl⟩:∃l k,ks=l++[k]:=⟨_,_,(aj9 (ajO h)).symm⟩
  have hl:l.length=n:=by simpa using h
  have ih:=Ck n l hl
  intro k
  rw[mD,aeC,aeG]
  split
  .rename_i hx
   rw[ih]
   constructor
   .exact .inl
   .rintro(e |e)
    .exact e
    .rw[e];exact(ih x).mp hx
  .rw[aeC,aeG,ih]
theorem Ax:∀n (ks:List Kt),ks.length=n->((lX ks).length=ks.length↔ks.Nodup)
 |0,ks,h=>by rw[akr.mp h];simp[lX]
 |n+1,ks,h=>by
  obtain⟨l,x,rfl⟩:∃l k,ks=l++[k]:=⟨_,_,(aj9 (ajO h)).symm⟩
  have hl:l.length=n:=by simpa using h
  have ih:=Ax n l hl
  have le:=vC n l hl
  have me:=Ck n l hl x
  rw[mD,ar7]
  split
  .rename_i hx
   constructor
   .intro e;simp at e;omega
   .intro e;exact absurd rfl (e.2.2 x (me.mp hx) x (by simp))
  .rename_i hx
   rw[ace,ace,agk]
   constructor
   .intro e
    refine⟨ih.mp (by omega),by simp,λa ha b hb=>?_⟩
    rw[aeG.mp hb]
    intro e'
    exact hx (me.mpr (e'▸ha))
   .intro e
    rw[ih.mpr e.1]
end
section
variable{prog:Program}{w:World}{A:Around}{E:Value->Shared->Prop}{s:Shared}{zs:List Str}{us:Array Value}
def strAt(us:Array Value)(zs:List Str):Prop:=∀(i:Nat) (v:Value),us[i]? =some v->∃t z,v= .str z t/\zs[i]? =some z
def Wk(prog:Program)(w:World)(h:Heap)(S:Addr)(zs:List Str):Prop:=h.SetOf (strKind prog w) S (λk=>decide (k∈lX zs)) (lX zs).length
theorem Wk.stay{h h':Heap}{S:Addr}(x:Wk prog w h S zs)(k:∀o,h.get? S=some o->h'.get? S=some o):Wk prog w h' S zs:=by
 obtain⟨o,es,ep,t,ho,rest⟩:=x
 exact⟨o,es,ep,t,k _ ho,rest⟩
theorem Vg{R:Result->Shared->Prop}{it:Addr}{fp wr:List Addr}{G:Array GenState->Array GenState->Prop}{St:Nat->Shared->Prop}
  (W:WalksS prog w A.in1 it fp wr G us.size (λi v=>us[i]? =some v) St) (S:Addr) (hS:S∉fp) (hz:strAt us zs) (hl:us.size=zs.length) (hb:us.size+1<scanBound) (d:Nat):
  ∀(i:Nat) (s:Shared),d+i=us.size->St i s->Wk prog w s.heap S (zs.take i)->
   (∀s',Moved (S::wr) G s s'->Wk prog w s'.heap S zs->R (.ok (.ret .none)) s')->codeAny (model prog w) A (.builtin "set.update.loop" ⟨[.ref S,.ref it],[]⟩) R s:=by
 have hSw:S∉wr:=λh=>hS (W.sub _ h)
 have up:∀b∈wr,b∈S::wr:=λb hb=>aeA _ hb
 induction d with
 |zero=>
  intro i s hi st ts hR
  have e:i=us.size:=by omega
  subst e
  refine codeAny_builtin F.entry_set_update_loop ?_
  rw[Around.under_plainId F.plain_set_update_loop _]
  refine wpAny_bind (m:=pyNext (.ref it)) (W.done s _ _ st λs' hm=>?_)
  refine wpAny_pure (hR s' (hm.mono up) ?_)
  rw[hl,aj4]at ts
  exact ts.stay λo ho=>hm.heap S o hSw ho
 |succ d ih=>
  intro i s hi st ts hR
  refine codeAny_builtin F.entry_set_update_loop ?_
  rw[Around.under_plainId F.plain_set_update_loop _]
  refine wpAny_bind (m:=pyNext (.ref it)) (W.item i s _ _ (by omega) st λv s' hv st' hm=>?_)
  obtain⟨t,z,rfl,ez⟩:=hz i v hv
  have ts':=ts.stay (h':=s'.heap) λo ho=>hm.heap S o hSw ho
  show wpAny _ A.in1 (holding [Value.str z t] (setAdd S (.str z t))>>=_) _ _ s'
  refine wpAny_bind (wpAny_holding ?_)
  unfold setAdd
  refine wpAny_holding (wpAny_bind ((strKind prog w).pyHash (k:=z) (strKind_is _ _ _ _) ?_))
  have et:zs.take (i+1)=zs.take i++[z]:=by rw[amT,ez];rfl
  have room:(lX (zs.take i)).length+1<scanBound:=by
   have :=vC _ (zs.take i) rfl
   have :(zs.take i).length≤zs.length:=by simp;omega
   omega
  refine wpAny_setAddHashed_of (knd:=strKind prog w) (s:={s' with toks:=s'.toks+1}) (strKind_is _ _ _ _) rfl ts' room λh' sb ts2=>?_
  have ts3:Wk prog w h' S (zs.take (i+1)):=by
   refine SetOf_congr ts2 (λk=>?_) ?_
   .rw[et,mD]
    split
    .rename_i hk
     by_cases e:k=z
     .subst e;simp[hk]
     .simp[e]
    .by_cases e:k=z
     .subst e;simp
     .simp[e]
   .rw[et,mD]
    by_cases hk:z∈lX (zs.take i)
    .simp[hk]
    .simp[hk]
  refine wpAny_pure ⟨plainId_quiet F.plain_set_update_loop _,ih (i+1) _ (by omega) (W.frame _ s' _ _ st' (akk _) λb hb o e=>?_) ts3 λs2 hm2 ts4=>?_⟩
  .rw[sb.2 b (λh:b=S=>hS (h▸hb))];exact e
  .refine hR s2 (Moved.trans W.gtrans ((hm.mono up).then_heap (akk _) λb o hb e=>?_) hm2) ts4
   rw[sb.2 b (λh:b=S=>hb (h▸aeH))];exact e
abbrev newSet(h:Heap)(led:Bool):Heap:=h.push {cls:=.type "set",dict:=none,data:=.set #[] 0 (.fresh 0 0 led)}
set_option maxRecDepth 100000 in
theorem Uz{l S:Addr}{Q:Value->Shared->Prop}(hh:A.handled=none)(hl:s.heap.IsList l us)(hS:∃led,s.heap.get? S=some {cls:=.type "set",dict:=none,data:=.set #[] 0 (.fresh 0 0 led)})
  (hz:strAt us zs) (hn:us.size=zs.length) (hb:us.size+1<scanBound)
  (h:∀(h':Heap) (tk:Nat),Wk prog w h' S zs->(∀b o,b≠S->s.heap.get? b=some o->h'.get? b=some o)->Q .none {s with heap:=h',toks:=tk}):
  codeAny (model prog w) A (.call (.builtin "set.__init__") ⟨[.ref S,.ref l],[]⟩) (wants Q E) s:=by
 obtain⟨led,hS⟩:=hS
 have hT:s.TypeIs (.ref S) "set":=⟨_,hS,rfl⟩
 refine codeAny_call_builtin F.called_set.init.plain F.entry_set_init (check_set_init_1 hT ?_)
 have hl0:=hl
 obtain⟨⟨oc,od,odata,os⟩,hol,hc,nl,hd⟩:=hl
 simp only at hc hd
 subst hc hd
 have f1:=F.sub_list_set
 have f2:=F.sub_list_frozenset
 have f3:(Value.type "list"==Value.type "dict")=false:=by decide
 unfold Builtin.«set.__init__» noKeywords Builtin.Frozenset.updateFrom
 generalize hPI:pyIter=PI
 wp_walk
 subst hPI
 refine wpAny_pyIter_list hl0 (wpAny_bind (wpAny_runValue ?_))
 have lS:S<s.heap.objs.size:=acK hS
 have ll:l<s.heap.objs.size:=acK hol
 have h3:A.in1.in1.handled=none:=by simp[hh]
 have hlS:S≠l:=λe=>by subst e;rw[hS]at hol;simp at hol
 refine Vg (us:=us) ((Walks.list h3 _ l (aeB ll) us).toS) S (by simp only[List.mem_cons,List.not_mem_nil,or_false,not_or];exact⟨aeB lS,hlS⟩) hz hn hb us.size 0 {s with heap:=s.heap.push {cls:=.type "list_iterator",data:=.fields #[.ref l,.int 0 0]}} (by omega)
  ⟨⟨_,aez _ rfl,rfl,rfl⟩,(hl0.push _)⟩ ?_ ?_
 .have hget:=Heap.get?_push_of_some {cls:=.type "list_iterator",data:=.fields #[.ref l,.int 0 0]} hS
  exact SetOf_congr ((setObjOf_fresh (knd:=strKind prog w) led).setOf hget (by unfold scanBound;omega)) (λ_=>rfl) rfl
 .intro s' hm ts
  obtain⟨h',g',d',tk',os'⟩:=s'
  have eg:g'=s.gens:=hm.gens
  have ed:d'=s.drawn:=hm.drawn
  have eo:os'=s.os:=hm.os
  subst eg ed eo
  refine wpAny_pure ?_
  show wpAny _ _ (ret Value.none) _ _ _
  refine wpAny_pure (h h' tk' ts λb o hb e=>?_)
  refine hm.heap b o ?_ (Heap.get?_push_of_some _ e)
  simp only[List.mem_cons,List.not_mem_nil,or_false,not_or]
  exact⟨hb,aeB (acK e)⟩
set_option maxRecDepth 100000 in
theorem zM{l:Addr}{Q:Value->Shared->Prop}(hh:A.handled=none)(hl:s.heap.IsList l us)(hz:strAt us zs)(hn:us.size=zs.length)(hb:us.size+1<scanBound)
  (h:∀(h':Heap) (tk:Nat),Wk prog w h' s.heap.objs.size zs->(∀b o,s.heap.get? b=some o->h'.get? b=some o)->Q (.ref s.heap.objs.size) {s with heap:=h',toks:=tk}):
  wpAny (model prog w) A (call (.type "set") [.ref l]) Q E s:=by
 obtain⟨c,tl,hmro⟩:=F.called_set.mro
 have hmade:=F.called_set.made
 have hsub:=F.called_set.sub
 have h1:=F.called_set.notType
 have h2:=F.called_set.canCreate
 have hct:=F.typeCall_set_1 (.ref l)
 refine wpAny_call (codeAny_of_tree ?_)
 show wpAny _ _ (callAny (.type "set") _) _ _ _
 refine wpAny_pure ⟨Code.quiet_builtin _ (by decide+kernel),codeAny_builtin F.entry_type_call ?_⟩
 rw[Around.under_plain (weight_type_call_type "set" [.ref l] []) rfl]
 repeat (any_goals (first |assumption |wp_step))
 refine codeAny_mono (code_set_new_1 (.ref l) (E:=E) (Q₁:=λobj s₁=>∃led:Bool,obj= .ref s.heap.objs.size/\s₁={s with heap:=newSet s.heap led}) λled=>⟨led,rfl,rfl⟩) λr s₁ hr=>?_
 rcases r with e |(_ |_ |_ |obj)
 all_goals first |exact hr |exact hr.elim |skip
 obtain⟨led,rfl,rfl⟩:=hr
 have hS:(newSet s.heap led).get? s.heap.objs.size=some {cls:=.type "set",dict:=none,data:=.set #[] 0 (.fresh 0 0 led)}:=aez _ rfl
 have hT:Shared.TypeIs {s with heap:=newSet s.heap led} (.ref s.heap.objs.size) "set":=⟨_,hS,rfl⟩
 have hli:=F.called_set.init.lookup
 have hbi:=F.called_set.init.bind (.ref s.heap.objs.size)
 repeat (any_goals (first |assumption |wp_step))
 refine codeAny_mono (Uz (E:=E) (s:={s with heap:=newSet s.heap led}) (Q:=λr s₂=>r= .none/\∃h' tk,s₂={s with heap:=h',toks:=tk}/\Wk prog w h' s.heap.objs.size zs/\∀b o,s.heap.get? b=some o->h'.get? b=some o) (by simp[hh]) (hl.push _) ⟨led,hS⟩ hz hn hb λh' tk ts k=>⟨rfl,h',tk,rfl,ts,λb o e=>k b o (aeB (acK e)) (Heap.get?_push_of_some _ e)⟩) λr₂ s₂ hr₂=>?_
 rcases r₂ with e |(_ |_ |_ |r)
 all_goals first |exact hr₂ |exact hr₂.elim |skip
 obtain⟨rfl,h',tk,rfl,ts,k⟩:=hr₂
 repeat (any_goals (first |assumption |wp_step))
 exact h _ _ ts k
end
section
variable{X:Cx}{H:Hp}{Q:VK}{v:V}
def vR(X:Cx)(S:Addr)(zs:List Str):HO:=.ext λh=>Wk X.prog X.w h S zs
theorem Tc{q:Addr}{zs:List Str}(hc:X.calm=true)(h:aX X.K H q (zs.map V.str))(hz:zs.length≤4000)(g:∀S,H S=none->Q (.ref S) (upd H S (vR X S zs))):CL X (.type "set") [.ref q] H Q:=by
 refine jN (r:=λxs H Q=>∃q zs,xs=[.ref q]/\aX X.K H q (zs.map V.str)/\zs.length≤4000/\∀S,H S=none->Q (.ref S) (upd H S (vR X S zs))) ?_ ⟨q,zs,rfl,h,hz,g⟩
 intro pins s σ H xs us Q I r h
 obtain⟨q,zs,rfl,h,hz,g⟩:=h
 obtain⟨u,rfl,ru⟩:=vals1 r
 cases(show u=Value.ref q from ru)
 obtain⟨its,rv,pl,_⟩:=I.list h
 have hl:its.length=zs.length:=by have :=rv.length;rw[aar]at this;exact this.symm
 have hat:strAt its.toArray zs:=λi v e=>by
  have e':its[i]? =some v:=by simpa using e
  have hi:i<zs.length:=by rw[<-hl];exact(aan.mp e').1
  obtain⟨u,e1,e2⟩:=rv.get (i:=i) (x:=V.str zs[i]) (by simp[hi])
  rw[e']at e1
  cases e1
  obtain⟨t,rfl⟩:=e2
  exact⟨t,zs[i],rfl,aak hi⟩
 refine zM (I.ok.hd hc) pl.isList hat (by simpa using hl) (by show _<4096;simp;omega) λh' tk ts k=>?_
 refine⟨.ref s.heap.objs.size,_,I.laid (t':=tk) (o:=vR X s.heap.objs.size zs) k (aaO _) ⟨ts,?_,λh1 h2 ts hk=>ts.stay hk⟩,rfl,g _ (I.hok.fresh (aaO _))⟩
 obtain⟨o,es,ep,t,ho,_⟩:=ts
 exact⟨o,ho⟩
theorem S6{S:Addr}{zs:List Str}(h:H S=some (vR X S zs))(hz:zs.length≤4000)(g:Q (.int (lX zs).length) H):CL X (.builtin "len") [.ref S] H Q:=by
 refine jN (r:=λxs H Q=>∃S zs,xs=[.ref S]/\H S=some (vR X S zs)/\zs.length≤4000/\Q (.int (lX zs).length) H) ?_ ⟨S,zs,rfl,h,hz,g⟩
 intro pins s σ H xs us Q I r h
 obtain⟨S,zs,rfl,h,hz,g⟩:=h
 obtain⟨u,rfl,ru⟩:=vals1 r
 cases(show u=Value.ref S from ru)
 obtain⟨⟨o,es,ep,t,ho,hex,hd,hel,hm,hb,hf,hn⟩,_⟩:=I.hok S _ h
 have le:=vC _ zs rfl
 refine call_len_set ho hex hd hf (by omega) ⟨.int es.size,H,I.tok _,⟨_,rfl⟩,?_⟩
 rw[hn]
 exact g
theorem ab2{x:V}{p:Addr}{xs:List V}(h:dg X.K H p xs)(f:nj x=true)(fs:xs.all nj=true)(q:Q (.bl (!Fx x xs)) H):OP X (compareOp .NotIn) x (.ref p) H Q:=jm wC ⟨p,xs,rfl,.inr h,f,fs,q⟩
theorem GJ{x:V}{p:Addr}{xs:List V}(h:dg X.K H p xs)(f:nj x=true)(fs:xs.all nj=true)(q:Q (.bl (Fx x xs)) H):OP X (compareOp .In) x (.ref p) H Q:=jm Rf ⟨p,xs,rfl,.inr h,f,fs,q⟩
theorem Vk{x:V}{p:Addr}{xs:List V}(h:aX X.K H p xs)(f:nj x=true)(fs:xs.all nj=true)(q:Q (.bl (!Fx x xs)) H):OP X (compareOp .NotIn) x (.ref p) H Q:=jm wC ⟨p,xs,rfl,.inl h,f,fs,q⟩
theorem UJ{l b:Addr}{xs zs:List V}(h1:H l=some (.lst xs))(h2:H b=some (.lst zs))(hz:xs.length+zs.length≤sizeLine)(q:∀p,H p=none->Q (.ref p) (upd H p (.lst (xs++zs)))):OP X (binaryOp .Add) (.ref l) (.ref b) H Q:=jm aaN ⟨l,b,xs,zs,rfl,rfl,h1,h2,hz,q⟩
end
section
variable{X:Cx}{H:Hp}{D:Ends}{σ σ':St}{e a elt tg:Expr}{scope:Scope}{pos spos py p p':Pos}{y:Str}{j:Nat}
theorem oU(N':List Str)(hσ:gA N' X.N σ scope=σ')(hsw:swapsWith (.ListComp elt [⟨tg,e,[],0⟩] scope pos) (some (.Name y py)) spos.line X.env=pure true)(hc:X.calm=true)(S:dw X.env scope)(hs:∀x,foldedSetIterable e X.env x=pure x)
  (hN:X.N.Nodup) (hi:nameAt X.N y=some j) (hx:X.env.scope.names.lookup y=some .local)
  (h:EV X e σ H λv H1=>∃l xs,v= .ref l/\aX X.K H1 l xs/\xs.length≤sizeLine/\Gs X N' scope tg elt σ' H1 (λv H'=>D.nx (σ.set j (some v)) H') xs.length λi H2 x H3=>xs[i]? =some x/\H2=H3):
  SX X (.Assign [.Name y py] (.ListComp elt [⟨tg,e,[],0⟩] scope pos) spos) D σ H:=by
 refine Mz (N':=N') hsw hc S hs hN hi hx (sH (bV h λv H1 q=>?_))
 obtain⟨l,xs,rfl,hl,hz,hw⟩:=q
 refine⟨l,rfl,⟨xs,hl⟩,?_⟩
 rw[hσ]
 refine Lq (J:=YT X.K l) hz (λi H2 s hi=>⟨xs,xs[i],au.seq s hl,aak hi⟩) (λH2 s=>⟨xs,au.seq s hl,aaO _⟩) (λi H2 x H3 hi s y=>⟨y.2 xs (au.seq s hl),y.1.symm⟩) hw
end
def cutAt(c:Nat):List Nat->List (List Nat)
 |[]=>[[]]
 |x::r=>if x=c then []::cutAt c r else match cutAt c r with
  |[]=>[[x]]
  |h::t=>(x::h)::t
def jg(c:Nat):List (List Nat)->List Nat
 |[]=>[]
 |[p]=>p
 |p::q::r=>p++c::jg c (q::r)
theorem mH(c:Nat):∀l,cutAt c l≠[]
 |[]=>by simp[cutAt]
 |x::r=>by
  unfold cutAt
  split
  .simp
  .split <;>simp
theorem CJ{c:Nat}:∀{p:List Nat},c∉p->cutAt c p=[p]
 |[],_=>rfl
 |x::r,h=>by
  have ih:=CJ (c:=c) (p:=r) λz=>h (by simp[z])
  unfold cutAt
  rw[if_neg (λz=>h (by simp[z])),ih]
theorem lE{c:Nat}{l:List Nat}:∀{p:List Nat},c∉p->cutAt c (p++c::l)=p::cutAt c l
 |[],_=>by
  show cutAt c (c::l)=_
  rw[cutAt,if_pos rfl]
 |x::r,h=>by
  have ih:=lE (c:=c) (l:=l) (p:=r) λz=>h (by simp[z])
  show cutAt c (x::(r++c::l))=_
  rw[cutAt,if_neg (λz=>h (by simp[z])),ih]
theorem mq{c:Nat}:∀{ps:List (List Nat)},ps≠[]->(∀p∈ps,c∉p)->cutAt c (jg c ps)=ps
 |[],h,_=>absurd rfl h
 |[p],_,h=>CJ (h p (by simp))
 |p::q::r,_,h=>by
  show cutAt c (p++c::jg c (q::r))=_
  rw[lE (h p (by simp)),mq (by simp) λx hx=>h x (aeA _ hx)]
theorem xK(c:Nat):∀l,(cutAt c l).length≤l.length+1
 |[]=>by simp[cutAt]
 |x::r=>by
  have ih:=xK c r
  unfold cutAt
  split
  .simp
   exact ih
  .split
   .simp
   .rename_i h t e
    rw[e]at ih
    simp at ih⊢
    omega
theorem uF(c:Nat):∀l,∀p∈cutAt c l,c∉p
 |[]=>by simp[cutAt]
 |x::r=>by
  have ih:=uF c r
  unfold cutAt
  split
  .intro p hp
   rcases abO.mp hp with z |z
   .subst z;simp
   .exact ih p z
  .rename_i hx
   split
   .intro p hp
    have :p=[x]:=by simpa using hp
    subst this
    simp
    exact λz=>hx z.symm
   .rename_i h t e
    rw[e]at ih
    intro p hp
    rcases abO.mp hp with z |z
    .subst z
     intro hm
     rcases abO.mp hm with y |y
     .exact hx y.symm
     .exact ih h (by simp) y
    .exact ih p (by simp[z])
theorem mC(c:Nat):∀l,jg c (cutAt c l)=l
 |[]=>rfl
 |x::r=>by
  have ih:=mC c r
  unfold cutAt
  split
  .rename_i h
   cases e:cutAt c r with
   |nil=>exact absurd e (mH c r)
   |cons p q=>
    rw[e]at ih
    show []++c::jg c (p::q)=_
    rw[ih,h]
    rfl
  .cases e:cutAt c r with
   |nil=>exact absurd e (mH c r)
   |cons p q=>
    rw[e]at ih
    simp only
    cases q with
    |nil=>
     show x::p=_
     rw[show p=r from ih]
    |cons y q=>
     show(x::p)++c::jg c (y::q)=_
     rw[<-ih]
     rfl
theorem jK(c:Nat):∀ps:List Str,(Str.join ⟨#[c]⟩ ps).cps.toList=jg c (ps.map λp=>p.cps.toList)
 |[]=>rfl
 |[p]=>rfl
 |p::q::r=>by
  have ih:=jK c (q::r)
  have e:Str.join ⟨#[c]⟩ (p::q::r)=p++⟨#[c]⟩++Str.join ⟨#[c]⟩ (q::r):=rfl
  rw[e]
  show((p.cps++ #[c])++(Str.join ⟨#[c]⟩ (q::r)).cps).toList=_
  simp only[Array.toList_append]
  rw[ih]
  simp[jg]
theorem Te(x:Str)(c:Nat):Txt.split x ⟨#[c]⟩≠[]:=by
 unfold Txt.split
 split
 .simp
 .split
  .simp
  .unfold Builtin.Str.partsBetween
   simp
theorem split_list(x:Str)(c:Nat):(Txt.split x ⟨#[c]⟩).map (λp=>p.cps.toList)=cutAt c x.cps.toList:=by
 have h1:(Str.join ⟨#[c]⟩ (Txt.split x ⟨#[c]⟩)).cps.toList=x.cps.toList:=by rw[StrLaws.join_split]
 rw[jK]at h1
 rw[<-h1]
 refine(mq (by simpa using Te x c) λp hp=>?_).symm
 obtain⟨q,hq,rfl⟩:=adg.mp hp
 exact StrLaws.split_free x c q hq
def aW(c:Nat)(x:Str):List Str:=(cutAt c x.cps.toList).map λl=>⟨l.toArray⟩
theorem su(x:Str)(c:Nat):Txt.split x ⟨#[c]⟩=aW c x:=by
 unfold aW
 rw[<-split_list,agz]
 have :((λl:List Nat=>(⟨l.toArray⟩:Str))∘λp:Str=>p.cps.toList)=id:=by
  funext p
  rfl
 rw[this,apO]
section
variable{X:Cx}{H:Hp}{Q:VK}{z y:Str}{v:V}
theorem Dn:∀l:List (Str×Tok),Vals ((l.map (·.1)).map V.str) (strValues l)
 |[]=>.nil
 |p::l=>.cons ⟨p.2,rfl⟩ (Dn l)
theorem m_split{c:Nat}(hz:z.length≤100000)(g:∀p,H p=none->Q (.ref p) (upd H p (.lst ((aW c z).map V.str)))):MT X "str.split" (.str z) [.str ⟨#[c]⟩] H Q:=by
 refine j9 (r:=λx xs H Q=>∃z c,x= .str z/\xs=[.str ⟨#[c]⟩]/\z.length≤100000/\∀p,H p=none->Q (.ref p) (upd H p (.lst ((aW c z).map V.str)))) ?_ ⟨z,c,rfl,rfl,hz,g⟩
 intro pins s σ H x xs v us Q I rx rs h
 obtain⟨z,c,rfl,rfl,hz,g⟩:=h
 obtain⟨t,rfl⟩:=rx
 obtain⟨u,rfl,ru⟩:=vals1 rs
 obtain⟨t',rfl⟩:=ru
 have hl:(aW c z).length≤z.length+1:=by
  have h1:=xK c z.cps.toList
  unfold aW
  rw[aar]
  have h2:z.cps.toList.length=z.length:=rfl
  omega
 have hsz:=sizeLine_eq
 have fin:∀(l:List (Str×Tok)) (tk:Nat),l.map (·.1)=aW c z->EP X pins σ Q (.ref s.heap.objs.size) {s with toks:=tk,heap:=s.heap.push {cls:=.type "list",data:=.seq (strValues l).toArray}}:=λl tk e=>
  ⟨.ref s.heap.objs.size,_,I.laid (t':=tk) (o:=.lst ((aW c z).map V.str)) (λb o q=>Heap.get?_push_of_some _ q) (aaO _) ⟨by rw[aar];omega,strValues l,_,by rw[<-e];exact Dn l,aez _ rfl⟩,rfl,g _ (I.hok.fresh (aaO _))⟩
 cases h1:(decide (z.length<(⟨#[c]⟩:Str).length)||decide (Builtin.Str.strKind z<Builtin.Str.strKind ⟨#[c]⟩))
 .cases hf:(Builtin.Str.occurrences z ⟨#[c]⟩ 0 z.length (z.length+1)).isEmpty
  .have e:Txt.split z ⟨#[c]⟩=Builtin.Str.partsBetween z (Builtin.Str.occurrences z ⟨#[c]⟩ 0 z.length (z.length+1)) (⟨#[c]⟩:Str).length:=by
    unfold Txt.split
    rw[if_neg (by rw[h1];decide),if_neg (by rw[hf];decide)]
   have hlp:=hl
   rw[<-su,e]at hlp
   refine call_meets F.slot_str_split (typeIs_str _ _ _) F.entry_str_split (F.args_str_split_2 _ _) (meets_str_split_sep z ⟨#[c]⟩ t t' h1 rfl hf (by omega) (by omega)) ?_
   have :=fin (numbered s.toks (Txt.split z ⟨#[c]⟩)) (s.toks+(Builtin.Str.partsBetween z (Builtin.Str.occurrences z ⟨#[c]⟩ 0 z.length (z.length+1)) (⟨#[c]⟩:Str).length).length) (by rw[numbered_texts,su])
   rw[<-strsFrom_eq,e]at this
   exact this
  .have e:Txt.split z ⟨#[c]⟩=[z]:=by
    unfold Txt.split
    rw[if_neg (by rw[h1];decide),if_pos hf]
   exact call_meets F.slot_str_split (typeIs_str _ _ _) F.entry_str_split (F.args_str_split_2 _ _) (meets_str_split_not_found z ⟨#[c]⟩ t t' h1 rfl hf) (fin [(z,t)] s.toks (by rw[<-su,e];rfl))
 .have e:Txt.split z ⟨#[c]⟩=[z]:=by
   unfold Txt.split
   rw[if_pos h1]
  exact call_meets F.slot_str_split (typeIs_str _ _ _) F.entry_str_split (F.args_str_split_2 _ _) (meets_str_split_cannot_occur z ⟨#[c]⟩ t t' h1) (fin [(z,t)] s.toks (by rw[<-su,e];rfl))
theorem ajo{c:Nat}(q:Q (.int c) H):CL X (.builtin "ord") [.str ⟨#[c]⟩] H Q:=by
 refine jN (r:=λxs H Q=>∃c:Nat,xs=[.str ⟨#[c]⟩]/\Q (.int c) H) ?_ ⟨c,rfl,q⟩
 intro pins s σ H xs us Q I r h
 obtain⟨c,rfl,q⟩:=h
 obtain⟨u,rfl,ru⟩:=vals1 r
 obtain⟨t,rfl⟩:=ru
 exact P.ord_of_char ⟨.int c,H,I.tok _,⟨_,rfl⟩,q⟩
theorem Yg{i:Int}(hi:0≤i)(hi2:i<1000)(g:Q (.str (Txt.zfill z i)) H):MT X "str.zfill" (.str z) [.int i] H Q:=by
 refine j9 (r:=λx xs H Q=>∃z i,x= .str z/\xs=[.int i]/\0≤i/\i<1000/\Q (.str (Txt.zfill z i)) H) ?_ ⟨z,i,rfl,rfl,hi,hi2,g⟩
 intro pins s σ H x xs v us Q I rx rs h
 obtain⟨z,i,rfl,rfl,hi,hi2,g⟩:=h
 obtain⟨t,rfl⟩:=rx
 obtain⟨u,rfl,ru⟩:=vals1 rs
 obtain⟨t',rfl⟩:=ru
 refine SC.zfill ?_ λt2 k=>⟨.str _,H,I.tok k,⟨t2,rfl⟩,g⟩
 exact padOk_of (by omega) (by omega)
theorem Yw(hc:X.calm=true)(hz:z.length≤100000)(g:∀p,H p=none->Q (.ref p) (upd H p (.lst (z.cps.toList.map λc=>V.str ⟨#[c]⟩)))):CL X (.type "list") [.str z] H Q:=by
 refine jN (r:=λxs H Q=>∃z:Str,xs=[.str z]/\z.length≤100000/\∀p,H p=none->Q (.ref p) (upd H p (.lst (z.cps.toList.map λc=>V.str ⟨#[c]⟩)))) ?_ ⟨z,rfl,hz,g⟩
 intro pins s σ H xs us Q I r h
 obtain⟨z,rfl,hz,g⟩:=h
 obtain⟨u,rfl,ru⟩:=vals1 r
 obtain⟨t,rfl⟩:=ru
 have hsz:=sizeLine_eq
 have hl:z.cps.size=z.length:=rfl
 refine call_list_str (I.ok.hd hc) z t (λh' tk acc c' hk hS ha=>?_) (by omega)
 refine⟨.ref s.heap.objs.size,_,I.laid (t':=tk) (o:=.lst (z.cps.toList.map λc=>V.str ⟨#[c]⟩)) hk (aaO _) ⟨by simp;omega,acc.toList,c',?_,by simpa using hS⟩,rfl,g _ (I.hok.fresh (aaO _))⟩
 have hv:∀(l:List Nat) (vs:List Value),vs.length=l.length->(∀(j:Nat) v,vs[j]? =some v->∃c u,l[j]? =some c/\v= .str ⟨#[c]⟩ u)->Vals (l.map λc=>V.str ⟨#[c]⟩) vs:=by
  intro l
  induction l with
  |nil=>intro vs h _;have :vs=[]:=by simpa using h
        subst this;exact .nil
  |cons c l ih=>
   intro vs h k
   cases vs with
   |nil=>simp at h
   |cons v vs=>
    obtain⟨c',u,e,rfl⟩:=k 0 v rfl
    have :c=c':=by simpa using e
    subst this
    exact .cons ⟨u,rfl⟩ (ih vs (by simpa using h) λj v e=>by simpa using k (j+1) v (by simpa using e))
 refine hv _ _ (by simpa using ha.1) λj v e=>?_
 obtain⟨c,u,e1,e2⟩:=ha.2 j v (by simpa using e)
 exact⟨c,u,by simpa using e1,e2⟩
end
def Itv(K:acF)(l:Addr)(n:Nat):It:=
 ⟨λi H=>i<n/\∃xs,aX K H l xs/\xs.length=n,λi H x H'=>H'=H/\∀xs,aX K H l xs->xs[n-1-i]? =some x,λi _=>i=n⟩
theorem Vv{P:Program}{w:World}{K:acF}{tg:Expr}(l it:Addr)(n:Nat):Turn P w K tg (Itv K l n) [it] it (λi h=>h.IsRevIter it l ((n:Int)-1-(i:Int)))where
 mem:=by simp
 obj:=λi h st b hb=>by
  have e:b=it:=by simpa using hb
  subst e
  obtain⟨o,e,c,d⟩:=st
  exact⟨o,e,λv z=>by rw[d]at z;cases z⟩
 keep:=λi h h' st k=>st.at λo e=>k it (by simp) o e
 item:=by
  intro X hP hw hK hc i pins s σ H E I hf st hg
  subst hP hw hK
  obtain⟨hi,xs,hq,hx⟩:=hg
  obtain⟨its,rv,p,hz⟩:=I.list hq
  have hx':n-1-i<xs.length:=by omega
  obtain⟨u,hu,ru⟩:=rv.get (aak hx')
  obtain⟨f0,f1,f2,f3,f4,f5⟩:=hf it (by simp)
  have ei:((n:Int)-1-(i:Int))=((n-1-i:Nat):Int):=by omega
  rw[ei]at st
  refine wpAny_pyNext_rev_item st p.isList (x:=u) (by simpa using hu) λh' st' sb=>?_
  have I1:Inv X pins σ H {s with heap:=h'}:=I.turned (t':=s.toks) (λb o hb e=>(sb.2 b hb).trans e) f0 f1 f3 f4 f5
  obtain⟨o,e,c,d⟩:=id st'
  refine⟨u,rfl,G4 (s:={s with heap:=h'}) e c d (by decide) ⟨_,H,I1,ru,⟨rfl,λys hy=>?_⟩,?_,λb hb=>(hf b hb).1⟩⟩
  .rw[I.list_inj hy hq]
   exact aak hx'
  .have e2:((n:Int)-1-((i+1:Nat):Int))=((n-1-i:Nat):Int)-1:=by omega
   rw[e2]
   exact st'
 done:=by
  intro X hP hw hK hc i pins s σ H E I hf st hg
  subst hP hw hK
  obtain⟨f0,f1,f2,f3,f4,f5⟩:=hf it (by simp)
  have e:i=n:=hg
  have e2:((n:Int)-1-(i:Int))= -1:=by omega
  rw[e2]at st
  exact wpAny_pyNext_rev_end (I.ok.hd hc) st λh' eb=>⟨rfl,I.turned (t':=s.toks) (λb o hb e=>eb b o hb e) f0 f1 f3 f4 f5⟩
 self:=λ_ _ _ _ _ st h=>wpAny_pyIter_revIter st h
section
variable{X:Cx}{σ:St}{H:Hp}{a:Expr}{tg:Expr}{p pos p':Pos}{R:It->Hp->Prop}{D:Ends}
theorem aes(hg:Gl X "reversed")(hm:X.mg "reversed"=none)(hs:starEach [a] X.env=[(false,eval a X.env)])
  (h:EV X a σ H λv H1=>∃l xs,v= .ref l/\aX X.K H1 l xs/\R (Itv X.K l xs.length) H1):EI X tg (.Call (.Name "reversed" p) [a] [] pos) σ H R:=by
 intro pins s I
 refine Call_ (uI I hg hm boot_reversed (PyProof.Rows.callWith_type1 (cZ (lq (es:=[]) (QA:=λvs H1=>∃l xs,vs=[.ref l]/\aX X.K H1 l xs/\R (Itv X.K l xs.length) H1) hs (bV h λv H1 ⟨l,xs,e,q1,q2⟩=>nP ⟨l,xs,by rw[e],q1,q2⟩) pos pins s I) λus s1 ⟨vs,H1,I1,r1,l,xs,e,hl,q⟩=>?_) hs rfl))
 subst e
 obtain⟨u,rfl,ru⟩:=vals1 r1
 cases(show u=Value.ref l from ru)
 obtain⟨its,rv,pl,hz⟩:=I1.list hl
 have hlen:=rv.length
 refine call_reversed_list pl.isList ?_
 have hit:(s1.heap.push (revObj l ((its.toArray.size:Int)-1))).IsRevIter s1.heap.objs.size l ((its.toArray.size:Int)-1):=⟨_,aez _ rfl,rfl,rfl⟩
 refine wpAny_pyIter_revIter hit ?_
 refine⟨s1.heap.objs.size,[s1.heap.objs.size],_,_,H1,rfl,I1.kept (t':=s1.toks) λb o e=>Heap.get?_push_of_some _ e,Vv l _ xs.length,?_,λb hb=>?_,q⟩
 .have e:((xs.length:Int)-1-((0:Nat):Int))=(its.toArray.size:Int)-1:=by simp;omega
  rw[e]
  exact hit
 .have e:b=s1.heap.objs.size:=by simpa using hb
  subst e
  exact I1.fpOk (aaO _) (I1.hok.fresh (aaO _))
theorem Xp{body:List Stmt}(hp:PassesOwn (model X.prog X.w) X.A X.env X.xe)(hc:X.calm=true)(hg:Gl X "reversed")(hm:X.mg "reversed"=none)(hs:starEach [a] X.env=[(false,eval a X.env)])
  (h:EV X a σ H λv H1=>∃q xs,v= .ref q/\aX X.K H1 q xs/\∃Pv:Nat->St->Hp->Prop,Pv 0 σ H1/\(∀i σ' H',i≤xs.length->Pv i σ' H'->aX X.K H' q xs)/\
   (∀i x σ' H',i<xs.length->xs[xs.length-1-i]? =some x->Pv i σ' H'->EG X tg x σ' H' λσ2 H2=>lH X body {D with nx:=Pv (i+1),ct:=Pv (i+1),bk:=D.nx} σ2 H2)/\∀σ' H',Pv xs.length σ' H'->D.nx σ' H'):
  SX X (.For tg (.Call (.Name "reversed" p) [a] [] p') body [] pos) D σ H:=by
 refine wQ hp hc (by intro _;rfl) (aes hg hm hs (bV h λv H1 q=>?_))
 obtain⟨q,xs,rfl,hq,Pv,h0,hl,hst,hd⟩:=q
 refine⟨q,xs,rfl,hq,λi m σ H=>m=xs.length-i/\i≤xs.length/\Pv i σ H,⟨xs.length,by simp,ahE _,h0⟩,?_⟩
 rintro i m σ' H' ⟨rfl,hi,p⟩
 by_cases hlt:i<xs.length
 .refine .inr ⟨⟨hlt,xs,hl i σ' H' hi p,rfl⟩,Pv (i+1),λσ2 H2 p2=>⟨xs.length-(i+1),by omega,rfl,hlt,p2⟩,λx H2 y=>?_⟩
  obtain⟨rfl,e⟩:=y
  exact hst i x σ' _ hlt (e xs (hl i σ' _ hi p)) p
 .have e:i=xs.length:=by omega
  refine .inl ⟨e,?_⟩
  subst e
  exact hd σ' H' p
end
theorem Oh{M:Model}{A:Around}{E:Value->Shared->Prop}{s:Shared}{α:Type}{e T L:Addr}{cls:Value}{d:Option Addr×Bool}{fl:Value}{what:String}{env:Env}{Q:α->Shared->Prop}(hf:env.frame=some L)
  (F:fu s.heap e cls d (some T) fl) (k:∀h',wk s.heap h' [T] []->fu h' e cls d (some T) (rawInt L)->E (.ref e) {s with heap:=h'}):wpAny M A (passOn what (.ref e) env) Q E s:=by
 obtain⟨oe,vs,he,hc,hdx,hd,h1,hz,h2,hT⟩:=F
 obtain⟨hne,oT,ws,t1,t2,t3⟩:=hT T rfl
 have h3:3<ws.size:=(ahs.mp t3).1
 have h1':vs[1]? =some (Value.ref T):=h1
 unfold PySem.passOn
 refine wpAny_bind (wpAny_field he hd h1' ?_)
 rw[if_neg (show ¬((Value.ref T==Value.none)=true)from by simp)]
 refine wpAny_bind ?_
 unfold setFlight
 refine wpAny_bind (wpAny_field he hd h1' ?_)
 rw[if_pos (show(Value.ref T !=Value.none)=true from by simp),hf]
 refine wpAny_setField t1 t2 h3 (wpAny_throw (k _ ⟨λb o q _ n=>?_,λb o q n=>⟨o.slots,?_⟩,λb o q=>?_⟩ ?_))
 .rw[acu _ _ (λz=>n (by simp[z]))];exact q
 .rw[acu _ _ (λz=>n (by simp[z]))];exact q
 .by_cases z:b=T
  .subst z;exact⟨_,aeE _ t1 (Obj.isFreed_of_fields (Obj.data_mapFields t2 _))⟩
  .exact⟨o,by rw[acu _ _ (Ne.symm z)];exact q⟩
 .refine⟨oe,vs,?_,hc,hdx,hd,h1,hz,h2.stay λv o ws hv q1 q2=>?_,λT' eT=>?_⟩
  .rw[acu _ _ hne];exact he
  .by_cases z:v=T
   .subst z
    rw[t1]at q1
    cases q1
    exact⟨_,_,aeE _ t1 (Obj.isFreed_of_fields (Obj.data_mapFields t2 _)),Obj.data_mapFields q2 _,by rw[ae3 (by decide)]⟩
   .exact⟨o,ws,by rw[acu _ _ (Ne.symm z)];exact q1,q2,rfl⟩
  .cases eT
   exact⟨hne,_,_,aeE _ t1 (Obj.isFreed_of_fields (Obj.data_mapFields t2 _)),Obj.data_mapFields t2 _,by simp[h3]⟩
theorem JC{prog:Program}{w:World}{A:Around}{R:Result->Shared->Prop}{s:Shared}{elt target iter:Expr}{ifs:List Expr}{scope:Scope}{pos:Pos}{it acc:Value}{env:Env}(I:Nat->Shared->Prop){Er:Value->Shared->Prop}
  (hE:∀x s,Er x s->notedBy (model prog w) A env (λx s'=>R (.error x) s') x s)
  (turn:∀n s,I n s->wpAny (model prog w) A (pyNext it) (λr s₁=>match r with
   |none=>R (.ok .next) s₁
   |some v=>wpAny (model prog w) A (letOwnedTupleGo target it v) (λ_ s₁'=>wpAny (model prog w) A (assign target env v) (λ_ s₂=>
    wpAny (model prog w) A (forIn ifs true λc r=>if r=true then do let ok<-isTrue c env (eval c env);pure (ForInStep.yield ok)else pure (ForInStep.yield r)) (λok s₃=>
     if ok=true then wpAny (model prog w) A (eval elt env) (λx s₄=>
      wpAny (model prog w) A (call (.builtin "list.append") [acc,x]) (λ_ s₅=>∃m,m<n/\I m s₅) Er s₄) Er s₃
     else ∃m,m<n/\I m s₃) Er s₂) Er s₁') Er s₁) Er s)
  (n:Nat) (h:I n s):
  codeAny (model prog w) A (.compLoop (.ListComp elt [⟨target,iter,ifs,0⟩] scope pos) 0 it acc env) R s:=by
 refine codeAny_loop rfl I (λn s hI=>?_) n h
 show wpAny _ A ((compTurn (.ListComp elt [⟨target,iter,ifs,0⟩] scope pos) 0 it acc env).onRaise (λx=>do noteFrame x env;theTreesLotGoes x)) _ _ s
 refine wpAny_noted ?_
 rw[compTurn_list]
 refine wpAny_bind (wpAny_standAt (wpAny_bind (wpAny_mono (turn n s hI) (λr s₁ h₁=>?_) hE)))
 cases r with
 |none=>exact wpAny_pure h₁
 |some v=>
  refine wpAny_bind (wpAny_mono h₁ (λ_ s₁' h₁'=>?_) hE)
  refine wpAny_bind (wpAny_mono h₁' (λ_ s₂ h₂=>wpAny_bind (wpAny_mono h₂ (λok s₃ h₃=>?_) hE)) hE)
  cases ok with
  |false=>exact wpAny_pure ⟨rfl,h₃⟩
  |true=>
   exact wpAny_bind (wpAny_bind (wpAny_mono h₃ (λx s₄ h₄=>wpAny_bind (wpAny_mono h₄ (λ_ s₅ h₅=>wpAny_pure (wpAny_pure ⟨rfl,h₅⟩)) hE)) hE))
def zy(M:Model)(A:Around)(E:Value->Shared->Prop)(use:Option (Value->Sem Unit))(Q:Value->Shared->Prop)(acc:Value)(C:Env)(r:Result)(s':Shared):Prop:=
 match r,use with
 | .ok _,none=>∃m,s'.heap.Ns C.locals m/\∀h',akd C.locals s'.heap h'->Q acc {s' with heap:=h'}
 | .ok _,some u=>wpAny M A (u acc) (λ_ s''=>∃m,s''.heap.Ns C.locals m/\∀h',akd C.locals s''.heap h'->Q .none {s'' with heap:=h'}) E s'
 | .error x,_=>∃m,s'.heap.Ns C.locals m/\∀h',akd C.locals s'.heap h'->wpAny M A (passOn "comprehension.variables-let-go" x C:Sem Value) (λ_ _=>False) E {s' with heap:=h'}
theorem Gq{M:Model}{A:Around}{E:Value->Shared->Prop}{s:Shared}{env:Env}{e:Expr}{scope:Scope}{pos:Pos}{newAcc first:Sem Value}{g:Comprehension}{gs:List Comprehension}{cl:List (Str×Addr)}{use:Option (Value->Sem Unit)}{Q:Value->Shared->Prop}
  (hcl:clausesOf e=g::gs) (hs:∀x,foldedSetIterable g.iter env x=pure x) (hclos:closureFor scope env=pure cl) (hkind:scope.kind= .function) (hnames:∀x∈scope.names,x.2= .local->scope.names.lookup x.1=some .local)
  (h:wpAny M A first (λx s₁=>wpAny M A (pyIter x) (λit s₂=>wpAny M A newAcc (λacc s₃=>wpAny M A (newFunctionEnv scope env.globals cl [] env.qual none .none (some env)) (λcenv s₄=>
   codeAny M A (.compStart e 0 it acc {cenv with scope:=relabel scope env}) (zy M A E use Q acc {cenv with scope:=relabel scope env}) s₄) E s₃) E s₂) E s₁) E s):
  wpAny M A (comprehension e scope env pos newAcc false first use) Q E s:=by
 unfold comprehension
 rw[hclos,hcl]
 refine wpAny_bind (wpAny_mono h (λx s₁ h₁=>wpAny_bind (wpAny_standAt (wpAny_bind (wpAny_of_eq (hs x) (wpAny_bind (wpAny_holding (wpAny_mono h₁ (λit s₂ h₂=>wpAny_standIf (wpAny_bind (wpAny_mono h₂ (λacc s₃ h₃=>
  wpAny_bind (wpAny_pure (wpAny_bind (wpAny_mono h₃ (λcenv s₄ h₄=>?_) λ_ _ z=>z)))) λ_ _ z=>z))) λ_ _ z=>z))))))) λ_ _ z=>z)
 dsimp only
 have hv:∀x∈(scope.names.filter λx=>(x.2== .local||x.2== .cell)&&x.1 !=(".0":Str)).reverse,x.2= .local->Env.kindOf {cenv with scope:=relabel scope env} x.1=some .local:=
  λx hx hl=>lookup_relabel_local (hnames x (ajV.mp (List.mem_reverse.mp hx)).1 hl)
 have hw:∀x∈(scope.names.filter λx=>(x.2== .local||x.2== .cell)&&x.1 !=(".0":Str)).reverse.drop 1++(scope.names.filter λx=>(x.2== .local||x.2== .cell)&&x.1 !=(".0":Str)).reverse.take 1,x.2= .local->Env.kindOf {cenv with scope:=relabel scope env} x.1=some .local:=λx hx hl=>by
  rcases aeC.mp hx with z |z
  .exact hv x (ahg z) hl
  .exact hv x (afx z) hl
 refine wpAny_holding (wpAny_bind (wpAny_attempt (wpAny_holding (wpAny_run (codeAny_mono h₄ λr s' hr=>?_)))))
 cases r with
 |ok f=>
  cases use with
  |none=>
   obtain⟨m,hn,hr⟩:=hr
   exact wpAny_bind (wpAny_holding (wpAny_comp_letGo (cenv:={cenv with scope:=relabel scope env}) hkind _ s' m hv hn λh' m' _ z=>wpAny_pure (hr h' z)))
  |some u=>
   refine wpAny_bind (wpAny_rule (wpAny_bind (wpAny_holding (wpAny_mono hr (λ_ s'' hr'=>?_) λ_ _ z=>z))))
   obtain⟨m,hn,hr'⟩:=hr'
   exact wpAny_bind (wpAny_comp_letGo (cenv:={cenv with scope:=relabel scope env}) hkind _ s'' m hw hn λh' m' _ z=>wpAny_pure (hr' h' z))
 |error x=>
  have hr':∃m,s'.heap.Ns cenv.locals m/\∀h',akd cenv.locals s'.heap h'->wpAny M A (passOn "comprehension.variables-let-go" x {cenv with scope:=relabel scope env}:Sem Value) (λ_ _=>False) E {s' with heap:=h'}:=by cases use<;>exact hr
  obtain⟨m,hn,hr⟩:=hr'
  exact wpAny_bind (wpAny_holding (wpAny_comp_letGo (cenv:={cenv with scope:=relabel scope env}) hkind _ s' m hv hn λh' m' _ z=>wpAny_mono (hr h' z) (λ_ _ f=>f.elim) λ_ _ y=>y))
abbrev zc(X:Cx)(N':List Str)(scope:Scope)(cl:List (Str×Addr))(C:Addr)(s:Shared)(H:Hp)(fp:List Addr)(F:Value->Shared->Prop):Cx:=(CV X N' scope cl C s H fp).tri F []
section
variable{X:Cx}{pins:List (Addr×Obj)}{σ:St}{H:Hp}{s:Shared}{scope:Scope}{N':List Str}{fp:List Addr}{elt iter tg:Expr}{ifs:List Expr}{pos:Pos}{Kx:St->XK}
theorem Dd{R:Value->Env->Result->Shared->Prop}{it:Addr}{tn:Nat->Heap->Prop}{J:It}{E:Value->Shared->Prop}{Q:Addr->Hp->Prop}(hst:X.stack=X.env::X.outer)(hfr:X.env.frame=some X.env.locals)(hc:X.calm=true)(S:dw X.env scope)(I:Inv X pins σ H s)
  (T:Turn X.prog X.w X.K tg J fp it tn) (st:tn 0 s.heap) (hf:∀b∈fp,nO X pins H b)
  (h:∀(D C:Addr) (s3:Shared) (F:Value->Shared->Prop),H D=none->ye (zc X N' scope (cN scope X.env) C s3 (upd H D (.lst [])) fp F) (λ_=>Kx σ)->p8 X (zc X N' scope (cN scope X.env) C s3 (upd H D (.lst [])) fp F) tg elt ifs J D (gA N' X.N σ scope) H (Q D))
  (hR:∀(D:Addr) (C:Env) (H':Hp) (s':Shared),H D=none->Q D H'->Inv X pins σ H' s'->nO X pins H' C.locals->(∃m,s'.heap.Ns C.locals m)->R (.ref D) C (.ok .next) s')
  (hRx:∀(D:Addr) (C:Env) (H':Hp) (s':Shared) (e t:Addr) (cls:Value) (d:Option Addr×Bool),C.frame=some X.env.locals->Inv X pins σ H' s'->nO X pins H' C.locals->(∃m,s'.heap.Ns C.locals m)->fu s'.heap e cls d (some t) (rawInt X.env.locals)->
   (∀b∈[e,t],(H' b=none/\Ch X pins b)/\b≠C.locals)->Kx σ cls d H'->R (.ref D) C (.error (.ref e)) s'):
  wpAny (model X.prog X.w) X.A (newList []) (λacc s₃=>wpAny (model X.prog X.w) X.A (newFunctionEnv scope X.env.globals (cN scope X.env) [] X.env.qual none .none (some X.env)) (λcenv s₄=>
   codeAny (model X.prog X.w) X.A (.compStart (.ListComp elt [⟨tg,iter,ifs,0⟩] scope pos) 0 (.ref it) acc {cenv with scope:=relabel scope X.env}) (R acc {cenv with scope:=relabel scope X.env}) s₄) E s₃) E s:=by
 refine wpAny_newObj_type ?_
 have hD:H s.heap.objs.size=none:=I.hok.fresh (aaO _)
 generalize hs3:({s with heap:=s.heap.push {cls:=.type "list",dict:=none,data:=.seq ([]:List Value).toArray}}:Shared)=s3
 have I3:Inv X pins σ (upd H s.heap.objs.size (.lst [])) s3:=by
  subst hs3
  exact I.laid (t':=s.toks) (λb u e=>Heap.get?_push_of_some _ e) (aaO _) ⟨ahE _,[],0,.nil,aez _ rfl⟩
 have hsz:s3.heap.objs.size=s.heap.objs.size+1:=by subst hs3;exact akA ..
 have old3:∀b o,s.heap.get? b=some o->s3.heap.get? b=some o:=λb o e=>by subst hs3;exact Heap.get?_push_of_some _ e
 have fpl:∀b∈fp,b<s.heap.objs.size:=λb hb=>by
  obtain⟨o,e,_⟩:=T.obj _ _ st b hb
  exact acK e
 have Ws:∀b∈fp,nO X pins (upd H s.heap.objs.size (.lst [])) b:=λb hb=>⟨by rw[aF (aeB (fpl b hb))];exact(hf b hb).1,(hf b hb).2⟩
 have st3:tn 0 s3.heap:=T.keep _ _ _ st λb _ o e=>old3 b o e
 have TY:∀b∈fp,b<s3.heap.objs.size:=λb hb=>by rw[hsz];exact amP (fpl b hb)
 refine wpAny_newFunctionEnv S.cell (by intro y hy;simp at hy) (λh₁ hns hsb=>?_) S.kind
 have Uj:∀b o,s3.heap.get? b=some o->h₁.get? b=some o:=λb o e=>hsb.extBut b o (aeB (acK e)) (Heap.get?_push_of_some _ e)
 generalize hCe:compEnvC scope (cN scope X.env) s3.heap.objs.size X.env=Ce
 have hCl:Ce.locals=s3.heap.objs.size:=by rw[<-hCe];rfl
 have hCf:Ce.frame=some X.env.locals:=by rw[<-hCe];exact hfr
 generalize hB:CV X N' scope (cN scope X.env) s3.heap.objs.size s3 (upd H s.heap.objs.size (.lst [])) fp=B
 generalize hF:notedBy (model X.prog X.w) X.A Ce (λx s'=>R (.ref s.heap.objs.size) Ce (.error x) s')=F
 generalize hs4:({s3 with heap:=h₁,toks:=s3.toks+([]:List (Str×Value)).length}:Shared)=s4
 have I4b:Inv B [] (gA N' X.N σ scope) (upd H s.heap.objs.size (.lst [])) s4:=by
  subst hs4
  rw[<-hB]
  exact NP S I3 Ws TY hns Uj
 have hpn:B.pn=[]:=by rw[<-hB];rfl
 have toX:∀{pins':List (Addr×Obj)} {τ:St} {H':Hp} {s':Shared},Inv (B.tri F []) pins' τ H' s'->Inv X pins σ H' s':=λ{pins' τ H' s'} J=>by
  have J2:Inv B [] τ H' s':=Inv.yF (X:=B) (pins:=[]) (F:=F) (pins':=pins') I4b.ok (by rw[hpn];exact J)
  rw[<-hB]at J2
  exact Ly I3 Ws J2
 have hP:(B.tri F []).prog=X.prog:=by rw[<-hB];rfl
 have hw:(B.tri F []).w=X.w:=by rw[<-hB];rfl
 have hK:(B.tri F []).K=X.K:=by rw[<-hB];rfl
 have hA:(B.tri F []).A=X.A:=by rw[<-hB];rfl
 have hcY:(B.tri F []).calm=true:=by rw[<-hB];exact hc
 have hen:(B.tri F []).env=Ce:=by rw[<-hB, <-hCe];rfl
 have hloc:(B.tri F []).env.locals=s3.heap.objs.size:=by rw[hen,hCl]
 have hex:(B.tri F []).ex=fp:=by rw[<-hB];rfl
 have hs0:(B.tri F []).s₀=s3:=by rw[<-hB];rfl
 have avP:s3.heap.objs.size∉Bq X.stack:=λz=>by
  rcases abO.mp (I3.stkSub _ z)with e |e
  .exact ahK _ (e▸I3.lt)
  .exact I3.nofs (aaO _) e
 have hxY:ye (B.tri F []) (λ_=>Kx σ):=by
  intro pins' τ H' s' e cls d xa q
  obtain⟨J,tb,fl,Fl,hfl,ch⟩:=xa
  have IX:=toX J
  have chX:∀b∈e::tb.toList,(H' b=none/\Ch X pins b)/\b≠s3.heap.objs.size:=λb hb=>by
   obtain⟨c0,c1,c2,c3⟩:=ch b hb
   rw[hloc]at c2
   rw[hex,hs0]at c1
   refine⟨⟨c0,?_⟩,c2⟩
   rcases c1 with z |z
   .obtain⟨_,g1,_,g3,g4,g5⟩:=Ws b z
    exact⟨g3,g1,g4,g5⟩
   .exact I3.ch z
  have hfl':(fl==rawInt X.env.locals)=false:=by
   rcases hfl with z |⟨z,_⟩
   .rw[z];simp[rawInt]
   .rw[z,hloc,beq_eq_false_iff_ne]
    intro z2
    simp only[rawInt]at z2
    have z3:((s3.heap.objs.size:Nat):Int)=((X.env.locals:Nat):Int):=by injection z2
    have z4:s3.heap.objs.size=X.env.locals:=Int.ofNat.inj z3
    have z5:=I3.lt
    rw[z4]at z5
    exact ahK _ z5
  show F (.ref e) s'
  rw[<-hF]
  have hl:=IX.stack
  rw[hst]at hl
  have en:noteFrame (.ref e) Ce=noteFrame (.ref e) X.env:=by rw[<-hCe];rfl
  show wpAny _ _ (noteFrame (.ref e) Ce) _ _ _
  rw[en]
  refine Hb (base:=X.base) (IX.ok.frames.trans (by rw[hst])) hl hfr Fl hfl' λh' t N hT F'=>?_
  have IN:Inv X pins σ H' {s' with heap:=h'}:=IX.noted (by rw[hst];exact N) λb hb=>(chX b hb).1
  obtain⟨m,hn,_⟩:=J.loc
  rw[hloc]at hn
  have hlt:s3.heap.objs.size<s'.heap.objs.size:=hn.lt
  have hfree:H' s3.heap.objs.size=none:=by
   have :=J.free
   rw[hloc]at this
   exact this
  refine hRx _ Ce H' _ e t cls d hCf IN (by rw[hCl];exact I3.fpOk (aaO _) hfree) ⟨m,?_⟩ F' (λb hb=>?_) q
  .rw[hCl]
   obtain⟨o,a1,a2,ho,hr⟩:=hn
   exact⟨o,a1,a2,N.keep _ _ ho (by rw[<-hst];exact avP) (λz=>(chX _ z).2 rfl),hr⟩
  .rw[hCl]
   rcases abO.mp hb with z |z
   .subst z;exact chX _ aeH
   .have z':b=t:=by simpa using z
    subst z'
    exact⟨⟨IX.hok.fresh hT,IX.ch (aiw hT)⟩,λz=>ahK _ (aey hlt (z▸hT))⟩
 have hT:=h s.heap.objs.size s3.heap.objs.size s3 F hD (by rw[<-hB]at hxY;exact hxY)
 rw[show zc X N' scope (cN scope X.env) s3.heap.objs.size s3 (upd H s.heap.objs.size (.lst [])) fp F=B.tri F []from by rw[<-hB]]at hT
 obtain⟨W,⟨m0,w0⟩,turn⟩:=hT
 have I4:Inv (B.tri F []) [] (gA N' X.N σ scope) (upd H s.heap.objs.size (.lst [])) s4:=by
  have :=I4b.tri (F:=F)
  rw[hpn]at this
  exact this
 have st4:tn 0 s4.heap:=by
  subst hs4
  exact T.keep _ _ _ st3 λb _ o e=>Uj b o e
 have fpY:∀b∈fp,∀H':Hp,H' b=none->nO (B.tri F []) [] H' b:=λb hb H' e=>by
  rw[<-hB]
  refine⟨e,aeB (TY b hb),λz=>?_,.inl hb,λx c q=>(Ws b hb).2.2.2.2.1 x c (S.cl I3 q),λp hp=>absurd (show p∈([]:List (Addr×Obj))from hp) (by simp)⟩
  rcases abO.mp (I3.stkSub b z)with e |e
  .exact(hf b hb).2.1 e
  .exact(hf b hb).2.2.1 e
 have loop:codeAny (model X.prog X.w) X.A (.compLoop (.ListComp elt [⟨tg,iter,ifs,0⟩] scope pos) 0 (.ref it) (.ref s.heap.objs.size) Ce) (R (.ref s.heap.objs.size) Ce) s4:=by
  refine JC (Er:=F) (λn s'=>∃i τ H',Inv (B.tri F []) [] τ H' s'/\tn i s'.heap/\(∀b∈fp,H' b=none)/\W i n τ H') (λx s z=>by rw[<-hF]at z;exact z) ?_ m0 ⟨0,_,_,I4,st4,λb hb=>(Ws b hb).1,w0⟩
  rintro n s5 ⟨i,τ,H5,I5,st5,fr5,w5⟩
  have toF:∀{α:Type} {t:Sem α} {Q:α->Shared->Prop} {s:Shared},wpAny (model (B.tri F []).prog (B.tri F []).w) (B.tri F []).A t Q (B.tri F []).xe s->wpAny (model X.prog X.w) X.A t Q F s:=λh=>by
   rw[hP,hw,hA]at h;exact h
  rw[<-hen]
  rcases turn i n τ H5 w5 with⟨stop,qn⟩ |⟨go,N,hN,step⟩
  .have q:=T.done (B.tri F []) hP hw hK hcY i [] s5 τ H5 F I5 (λb hb=>fpY b hb _ (fr5 b hb)) st5 stop
   rw[hA]at q
   refine cZ q λr s6 ⟨hr,I6⟩=>?_
   subst hr
   refine hR _ _ H5 s6 hD qn (toX I6) ?_ ?_
   .rw[hloc]
    refine I3.fpOk (aaO _) ?_
    have :=I6.free
    rw[hloc]at this
    exact this
   .obtain⟨m,hn,_⟩:=I6.loc
    exact⟨m,hn⟩
  .have q:=T.item (B.tri F []) hP hw hK hcY i [] s5 τ H5 F I5 (λb hb=>fpY b hb _ (fr5 b hb)) st5 go
   rw[hA]at q
   refine cZ q λr s6 ⟨u,hr,h6⟩=>?_
   subst hr
   refine cZ h6 λ_ s7 ⟨x,H7,I7,r7,y7,st7,fr7⟩=>?_
   have I7':=I7.pinned (λb hb=>fpY b hb _ (fr7 b hb)) (T.obj _ _ st7)
   have Vs:∀{τ':St} {H8:Hp} {s8:Shared},Inv (B.tri F []) ([]++xW fp s7.heap) τ' H8 s8->tn (i+1) s8.heap/\∀b∈fp,H8 b=none:=λ{τ' H8 s8} I8=>by
    refine⟨T.keep _ _ _ st7 λb hb o e=>(I8.pin (b,o) (aew _ (aew _ (jJ hb e)))).1,λb hb=>?_⟩
    obtain⟨o,e,d⟩:=T.obj _ _ st7 b hb
    exact(I8.pin (b,o) (aew _ (aew _ (jJ hb e)))).2.1
   refine toF (cZ (step x H7 y7 _ s7 u I7' r7) λ_ s8 ⟨τ8,H8,I8,q8⟩=>?_)
   refine toF (cZ (q8 _ s8 I8) λok s9 ⟨H9,I9,q9⟩=>?_)
   cases ok with
   |false=>
    have q9':N τ8 H9:=by simpa using q9
    obtain⟨m',hm,w9⟩:=hN _ _ q9'
    obtain⟨k1,k2⟩:=Vs I9
    show ∃m,_
    exact⟨m',hm,i+1,τ8,H9,I9.unpinned,k1,k2,w9⟩
   |true=>
    have q9':EV (B.tri F []) elt τ8 H9 λy H4=>∃xs,H4 s.heap.objs.size=some (.lst xs)/\xs.length<sizeLine/\N τ8 (upd H4 s.heap.objs.size (.lst (xs++[y]))):=by simpa using q9
    show wpAny _ _ _ _ _ _
    refine toF (cZ (q9' _ s9 I9) λz s10 ⟨y,H10,I10,r10,xs,e10,l10,n10⟩=>?_)
    refine toF (cZ (lK _ s10 τ8 H10 (.ref s.heap.objs.size) [y] _ [z] (λv Y5=>v= .non/\Y5=upd H10 s.heap.objs.size (.lst (xs++[y]))) I10 rfl (.cons r10 .nil) ⟨_,xs,y,rfl,rfl,e10,l10,rfl,rfl⟩) λ_ s11 ⟨_,Y5,I11,_,_,e11⟩=>?_)
    subst e11
    obtain⟨m',hm,w11⟩:=hN _ _ n10
    obtain⟨k1,k2⟩:=Vs I11
    exact⟨m',hm,i+1,τ8,_,I11.unpinned,k1,k2,w11⟩
 rw[<-hCe]at loop
 exact codeAny_compStart_list loop (T.self X.A 0 s4 _ _ st4 loop)
theorem CQ{Q:Value->Shared->Prop}{use:Option (Value->Sem Unit)}(hx:ye X Kx){acc:Value}{C:Env}{H':Hp}{s':Shared}{e t:Addr}{cls:Value}{d:Option Addr×Bool}(hCf:C.frame=some X.env.locals)(I:Inv X pins σ H' s')(fC:nO X pins H' C.locals)(hn:∃m,s'.heap.Ns C.locals m)
  (F:fu s'.heap e cls d (some t) (rawInt X.env.locals)) (ch:∀b∈[e,t],(H' b=none/\Ch X pins b)/\b≠C.locals) (q:Kx σ cls d H'):zy (model X.prog X.w) X.A X.xe use Q acc C (.error (.ref e)) s':=by
 obtain⟨m,hn⟩:=hn
 obtain⟨f0,f1,f2,f3,f4,f5⟩:=fC
 have main:∃m,s'.heap.Ns C.locals m/\∀h',akd C.locals s'.heap h'->wpAny (model X.prog X.w) X.A (passOn "comprehension.variables-let-go" (.ref e) C:Sem Value) (λ_ _=>False) X.xe {s' with heap:=h'}:=by
  refine⟨m,hn,λh' hsb=>?_⟩
  have I2:Inv X pins σ H' {s' with heap:=h'}:=I.turned (t':=s'.toks) (λb o hb e=>hsb.extBut b o hb e) f0 f1 f3 f4 f5
  have F2:fu h' e cls d (some t) (rawInt X.env.locals):=by
   obtain⟨oe,vs,he,hc,hdx,hd,h1,hz,h2,hT⟩:=F
   refine⟨oe,vs,hsb.extBut _ _ (ch e (by simp)).2 he,hc,hdx,hd,h1,hz,h2.stay (λv o ws hv q1 q2=>⟨o,ws,hsb.extBut _ _ (λz=>by
    obtain⟨_,_,_,ho,hdd,_⟩:=hn
    rw[<-z,q1]at ho
    cases ho
    rw[q2]at hdd
    cases hdd) q1,q2,rfl⟩),λT eT=>?_⟩
   cases eT
   obtain⟨hne,oT,ws,t1,t2,t3⟩:=hT t rfl
   exact⟨hne,oT,ws,hsb.extBut _ _ (ch t (by simp)).2 t1,t2,t3⟩
  refine Oh (s:={s' with heap:=h'}) hCf F2 λh2 N F3=>?_
  refine hx pins σ H' _ e cls d ⟨I2.noted (ch:=[t]) ⟨λb o q _ n=>N.keep b o q (by simp) n,N.slot,N.there⟩ λb hb=>?_,some t,_,F3,.inr ⟨rfl,rfl⟩,λb hb=>(ch b (by simpa using hb)).1⟩ q
  have z:b=t:=by simpa using hb
  subst z
  exact(ch b (by simp)).1
 cases use<;>exact main
theorem VH{Q:VK}(hx:ye X Kx)(hst:X.stack=X.env::X.outer)(hfr:X.env.frame=some X.env.locals)(hc:X.calm=true)(S:dw X.env scope)(hs:∀x,foldedSetIterable iter X.env x=pure x)
  (h:EI X tg iter σ H λJ H1=>∀(fp:List Addr) (D C:Addr) (s3:Shared) (F:Value->Shared->Prop),H1 D=none->ye (zc X N' scope (cN scope X.env) C s3 (upd H1 D (.lst [])) fp F) (λ_=>Kx σ)->p8 X (zc X N' scope (cN scope X.env) C s3 (upd H1 D (.lst [])) fp F) tg elt ifs J D (gA N' X.N σ scope) H1 (λH'=>Q (.ref D) H')):
  EV X (.ListComp elt [⟨tg,iter,ifs,0⟩] scope pos) σ H Q:=by
 intro pins s I
 rw[eval_ListComp]
 refine Gq (use:=none) rfl hs (pP (S.has I)) S.kind S.loc (cZ (h pins s I) λv s1 h1=>cZ h1 λitv s2 h2=>?_)
 obtain⟨it,fp,tn,J,H2,e,I2,T,st2,f2,q2⟩:=h2
 subst e
 refine Dd (Kx:=Kx) (R:=λacc C=>zy (model X.prog X.w) X.A X.xe none (EP X pins σ Q) acc C) (Q:=λD H'=>Q (.ref D) H') hst hfr hc S I2 T st2 f2 (λD C s3 F hD xo=>q2 fp D C s3 F hD xo) (λD C H' s' hD qD IX fC hn=>?_) λD C H' s' e t cls d hCf IX fC hn F ch q=>CQ hx hCf IX fC hn F ch q
 obtain⟨m,hn⟩:=hn
 obtain⟨f0,f1,f2',f3,f4,f5⟩:=fC
 exact⟨m,hn,λh' hsb=>⟨.ref D,H',IX.turned (t':=s'.toks) (λb o hb e=>hsb.extBut b o hb e) f0 f1 f3 f4 f5,rfl,qD⟩⟩
theorem Uc{D:Ends}{y:Str}{py spos:Pos}{j:Nat}(hx0:ye X Kx)(hst:X.stack=X.env::X.outer)(hfr:X.env.frame=some X.env.locals)(hsw:swapsWith (.ListComp elt [⟨tg,iter,ifs,0⟩] scope pos) (some (.Name y py)) spos.line X.env=pure true)(hc:X.calm=true)(S:dw X.env scope)(hs:∀x,foldedSetIterable iter X.env x=pure x)
  (hN:X.N.Nodup) (hi:nameAt X.N y=some j) (hx:X.env.scope.names.lookup y=some .local)
  (h:EI X tg iter σ H λJ H1=>∀(fp:List Addr) (E C:Addr) (s3:Shared) (F:Value->Shared->Prop),H1 E=none->ye (zc X N' scope (cN scope X.env) C s3 (upd H1 E (.lst [])) fp F) (λ_=>Kx σ)->p8 X (zc X N' scope (cN scope X.env) C s3 (upd H1 E (.lst [])) fp F) tg elt ifs J E (gA N' X.N σ scope) H1 (λH'=>D.nx (σ.set j (some (.ref E))) H')):
  SX X (.Assign [.Name y py] (.ListComp elt [⟨tg,iter,ifs,0⟩] scope pos) spos) D σ H:=by
 intro pins s I
 rw[exec_Assign_Name_used _ _ _ _ hsw]
 refine wpAny_bind (wpAny_standAt (wpAny_bind ?_))
 show wpAny _ X.A (do let _<-comprehension (.ListComp elt [⟨tg,iter,ifs,0⟩] scope pos) scope X.env _ (newList []) false (eval iter X.env) (some (assign (.Name y py) X.env))) _ _ s
 refine wpAny_bind (wpAny_mono (Gq (use:=some (assign (.Name y py) X.env)) (Q:=λ_ s'=>SP X pins D .next s') rfl hs (pP (S.has I)) S.kind S.loc
  (cZ (h pins s I) λv s1 h1=>cZ h1 λitv s2 h2=>?_)) (λ_ s' hq=>wpAny_pure (wpAny_pure hq)) λ_ _ e=>e)
 obtain⟨it,fp,tn,J,H2,e,I2,T,st2,f2,q2⟩:=h2
 subst e
 refine Dd (Kx:=Kx) (R:=λacc C=>zy (model X.prog X.w) X.A X.xe (some (assign (.Name y py) X.env)) (λ_ s'=>SP X pins D .next s') acc C) (Q:=λE H'=>D.nx (σ.set j (some (.ref E))) H') hst hfr hc S I2 T st2 f2 (λE C s3 F hD xo=>q2 fp E C s3 F hD xo) (λE C H' s' hD qD IX fC hn=>?_)
  λD C H' s' e t cls d hCf IX fC hn F ch q=>CQ hx0 hCf IX fC hn F ch q
 obtain⟨m,hn⟩:=hn
 obtain⟨f0,f1,f2',f3,f4,f5⟩:=fC
 show wpAny _ _ (assign (.Name y py) X.env (.ref E)) _ _ _
 refine wpAny_assign_Name (sY IX hN (ig hi) (.inl hx) (v:=.ref E) rfl (λs'' I'' hb=>?_) (.inr hx))
 obtain⟨a,sb,ha⟩:=hb
 have hCa:C.locals≠a:=by
  rcases ha with ha |ha
  .rw[ha];exact f1
  .intro z
   exact f4 y a ha z.symm
 refine⟨m,hn.sameBut sb hCa,λh' hsb=>⟨σ.set j (some (.ref E)),H',I''.turned (t':=s''.toks) (λb o hb e=>hsb.extBut b o hb e) f0 f1 f3 f4 f5,qD⟩⟩
end
section
variable{X:Cx}{a e:Expr}{σ σ':St}{H:Hp}{Q:VK}{D:Ends}{pos spos py p p':Pos}{tg elt iter:Expr}{scope:Scope}{Kx:St->XK}{y:Str}{j:Nat}
def Vj(X:Cx)(N':List Str)(scope:Scope)(tg elt:Expr)(σ σ':St)(Kx:St->XK)(H1:Hp)(Q:VK)(n:Nat)(G:Nat->Hp->V->Hp->Prop):Prop:=
 ∃(Tp:St->Prop) (Pi:Addr->Nat->V->Hp->Prop),Tp σ'/\
  (∀E i v H2 H3 ys,H2 E=some (.lst ys)->(∀b o,b≠E->H2 b=some o->H3 b=some o)->Pi E i v H2->Pi E i v H3)/\
  (∀(fp:List Addr) (E C:Addr) (s3:Shared) (H0:Hp) (F:Value->Shared->Prop) (i:Nat) (τ:St) (x:V) (H2 H3:Hp),ye (zc X N' scope (cN scope X.env) C s3 H0 fp F) (λ_=>Kx σ)->H1 E=none->i<n->Tp τ->au H1 H2->(∃ys,H2 E=some (.lst ys)/\ys.length=i/\∀k v,ys[k]? =some v->Pi E k v H2)->G i H2 x H3->
   EG (zc X N' scope (cN scope X.env) C s3 H0 fp F) tg x τ H3 λτ2 H4=>EV (zc X N' scope (cN scope X.env) C s3 H0 fp F) elt τ2 H4 λv H5=>Tp τ2/\Pi E i v H5/\au H2 H5)/\
  ∀(E:Addr) (H2:Hp) (xs:List V),H1 E=none->xs.length=n->(∀i v,xs[i]? =some v->Pi E i v H2)->H2 E=some (.lst xs)->au H1 H2->Q (.ref E) H2
theorem Qx{Y:Cx}{tg elt:Expr}{J:It}{E:Addr}{τ0:St}{Q:Hp->Prop}
  (n:Nat) (hn:n≤sizeLine) (Tp:St->Prop) (hT:Tp τ0) (Pi:Nat->V->Hp->Prop) (hE:H E=none)
  (mono:∀i v H1 H2 ys,H1 E=some (.lst ys)->(∀b o,b≠E->H1 b=some o->H2 b=some o)->Pi i v H1->Pi i v H2)
  (go:∀i H1,au H H1->i<n->J.go i H1) (stop:∀H1,au H H1->J.stop n H1)
  (step:∀i τ x H1 H2,i<n->Tp τ->au H H1->(∃ys,H1 E=some (.lst ys)/\ys.length=i/\∀k v,ys[k]? =some v->Pi k v H1)->J.yld i H1 x H2->EG Y tg x τ H2 λτ2 H3=>EV Y elt τ2 H3 λv H4=>Tp τ2/\Pi i v H4/\au H1 H4)
  (fin:∀H1 xs,xs.length=n->(∀i v,xs[i]? =some v->Pi i v H1)->H1 E=some (.lst xs)->au H H1->Q H1):p8 X Y tg elt [] J E τ0 H Q:=by
 refine⟨λi m τ H1=>m=n-i/\i≤n/\au H H1/\Tp τ/\∃xs,H1 E=some (.lst xs)/\xs.length=i/\∀k v,xs[k]? =some v->Pi k v H1,⟨n,by simp,ahE _,au.upd hE,hT,[],ao,rfl,λk v e=>by simp at e⟩,?_⟩
 rintro i m τ H1 ⟨rfl,hi,s1,hτ,xs,eE,lx,px⟩
 by_cases hlt:i<n
 .refine .inr ⟨go i H1 s1 hlt,λτ' H'=>au H H'/\Tp τ'/\∃xs,H' E=some (.lst xs)/\xs.length=i+1/\∀k v,xs[k]? =some v->Pi k v H',λτ' H' ⟨a,b,c⟩=>⟨n-(i+1),by omega,rfl,hlt,a,b,c⟩,λx H2 y=>?_⟩
  intro pins s u I r
  refine cZ (step i τ x H1 H2 hlt hτ s1 ⟨xs,eE,lx,px⟩ y pins s u I r) λ_ s' ⟨τ2,H3,I3,q3⟩=>⟨τ2,H3,I3,zL ?_⟩
  rw[if_pos rfl]
  refine bV q3 λv H4 ⟨t2,pv,s2⟩=>⟨xs,s2 _ _ eE,by omega,?_⟩
  have mm:∀k w',Pi k w' H4->Pi k w' (upd H4 E (.lst (xs++[v]))):=λk w' q=>mono k w' H4 _ xs (s2 _ _ eE) (λb o hb e=>by rw[aF hb];exact e) q
  refine⟨λb o e=>?_,t2,xs++[v],ao,by simp[lx],λk u e=>?_⟩
  .rw[aF (aB e hE)]
   exact s2 _ _ (s1 _ _ e)
  .by_cases hk:k<xs.length
   .rw[agh hk]at e
    refine mono k u H1 _ xs eE (λb o hb e=>?_) (px k u e)
    rw[aF hb]
    exact s2 _ _ e
   .have hk2:k=i:=by
     have :=(aan.mp e).1
     rw[ace,agk]at this
     omega
    subst hk2
    rw[<-lx,ajp]at e
    cases e
    exact mm _ _ pv
 .have e:i=n:=by omega
  subst e
  exact .inl ⟨stop H1 s1,fin H1 xs lx px eE s1⟩
theorem aas{N':List Str}{J:It}{n:Nat}{G:Nat->Hp->V->Hp->Prop}(hn:n≤sizeLine)(go:∀i H2,au H H2->i<n->J.go i H2)(stop:∀H2,au H H2->J.stop n H2)
  (yl:∀i H2 x H3,i<n->au H H2->J.yld i H2 x H3->G i H2 x H3) (h:Vj X N' scope tg elt σ σ' Kx H Q n G):
  ∀(fp:List Addr) (D C:Addr) (s3:Shared) (F:Value->Shared->Prop),H D=none->ye (zc X N' scope (cN scope X.env) C s3 (upd H D (.lst [])) fp F) (λ_=>Kx σ)->p8 X (zc X N' scope (cN scope X.env) C s3 (upd H D (.lst [])) fp F) tg elt [] J D σ' H (λH'=>Q (.ref D) H'):=by
 intro fp E C s3 F hE xo
 obtain⟨Tp,Pi,t0,mono,step,fin⟩:=h
 exact Qx n hn Tp t0 (Pi E) hE (λi v H1 H2 ys=>mono E i v H1 H2 ys) go stop (λi τ x H1 H2 hi ht hs hy y=>step fp E C s3 _ F i τ x H1 H2 xo hE hi ht hs hy (yl i H1 x H2 hi hs y)) λH1 xs l px eE s=>fin E H1 xs hE l px eE s
theorem Ov(N':List Str)(hσ:gA N' X.N σ scope=σ')(hx0:ye X Kx)(hst:X.stack=X.env::X.outer)(hfr:X.env.frame=some X.env.locals)(hsw:swapsWith (.ListComp elt [⟨tg,e,[],0⟩] scope pos) (some (.Name y py)) spos.line X.env=pure true)(hc:X.calm=true)(S:dw X.env scope)(hs:∀x,foldedSetIterable e X.env x=pure x)
  (hN:X.N.Nodup) (hi:nameAt X.N y=some j) (hx:X.env.scope.names.lookup y=some .local)
  (h:EV X e σ H λv H1=>∃l xs,v= .ref l/\aX X.K H1 l xs/\xs.length≤sizeLine/\Vj X N' scope tg elt σ σ' Kx H1 (λv H'=>D.nx (σ.set j (some v)) H') xs.length λi H2 x H3=>xs[i]? =some x/\H2=H3):
  SX X (.Assign [.Name y py] (.ListComp elt [⟨tg,e,[],0⟩] scope pos) spos) D σ H:=by
 refine Uc (N':=N') hx0 hst hfr hsw hc S hs hN hi hx (sH (bV h λv H1 q=>?_))
 obtain⟨l,xs,rfl,hl,hz,hw⟩:=q
 refine⟨l,rfl,⟨xs,hl⟩,?_⟩
 rw[hσ]
 refine aas (J:=YT X.K l) (Q:=λv H'=>D.nx (σ.set j (some v)) H') hz (λi H2 s hi=>⟨xs,xs[i],au.seq s hl,aak hi⟩) (λH2 s=>⟨xs,au.seq s hl,aaO _⟩) (λi H2 x H3 hi s y=>⟨y.2 xs (au.seq s hl),y.1.symm⟩) hw
end
def oA(K:acF)(C L:Addr):Bool:=(anc K C).any λcd=>cd.hasDict&&cd.mro== .ref C:: .ref L::IK
theorem Ua{K:acF}{C L:Addr}(h:oA K C L=true):∃cd,anc K C=some cd/\cd.hasDict=true/\cd.mro= .ref C:: .ref L::IK:=by
 obtain⟨cd,h1,h2⟩:=W.any_some h
 rw[aaP,beq_iff_eq]at h2
 exact⟨cd,h1,h2.1,h2.2⟩
section
variable{prog:Program}{w:World}{A:Around}{E:Value->Shared->Prop}{s:Shared}{K:acF}{x C L:Addr}{ox:Obj}{vs:Array Value}{name:Str}{v:Value}
theorem WT{Q:Unit->Shared->Prop}(X:K.In s.heap)(hx:s.heap.get? x=some ox)(hc:ox.cls= .ref C)(hf:ox.data= .fields vs)(hd:ox.dict=none)
  (hs:aat K (.ref C) "__setattr__"=some (some (.builtin "object.__setattr__"))) (hm:oA K C L=true) (ht:akG K C name=some none)
  (h:∀h' tk,h'.get? x=some {ox with dict:=some s.heap.objs.size}->h'.Ns1 s.heap.objs.size (λy=>if y=name then some v else none)->(∀b o,b≠x->s.heap.get? b=some o->h'.get? b=some o)->Q () {s with heap:=h',toks:=tk}):
  wpAny (model prog w) A (setAttr (.ref x) name v) Q E s:=by
 obtain⟨cd,hcd,hdc,hmro⟩:=Ua hm
 have I:ap7 s.heap x ox C none:=⟨hx,hc,by unfold awn;rw[hf],by rw[hd];trivial⟩
 refine W.set_plain X I hs ?_
 have SF:=F.store_object
 have sub:auY (model prog w) s.heap (isInstance (.ref x) (.type "object")) true:=I.type.andThen (au3 X (by unfold aeL;rw[hcd,Option.bind_some,hmro];rfl))
 refine codeAny_call_builtin SF.slot.plain SF.entry (@W.check_slot (model prog w) _ _ {s with toks:=s.toks+1} "object.__setattr__" "object" "__setattr__" (.ref x) [.str name s.toks,v] [] _ SF.kind SF.split sub (SF.args (.ref x) (.str name s.toks) v) ?_)
 obtain⟨attr,ha,hr⟩:=Option.bind_eq_some_iff.mp ht
 have hmo:auY (model prog w) s.heap (mroOf (.ref C)) cd.mro:=(aqq X hcd).andThen .now
 have L3:auY (model prog w) s.heap (Builtin.ObjectAttr.storeTaker? attr) none:=by
  cases attr with
  |none=>exact .now
  |some a=>
   obtain⟨b,hb,e⟩:=aht.mp hr
   refine(W.looks_takesIn X hb).andThen ?_
   cases b
   .exact .now
   .cases e
 rw[W.osa_eq,refuse_eq]
 refine wpAny_bind (wpAny_bind (W.Looks.here (s:={s with toks:=s.toks+1}) I.type (wpAny_bind (W.Looks.here (s:={s with toks:=s.toks+1}) hmo ?_))))
 rw[hmro,refuseLoop_ref,refuseLoop_ref,F.store_ValueError.passes]
 refine wpAny_pure (wpAny_bind (W.Looks.here (s:={s with toks:=s.toks+1}) I.type (wpAny_bind (W.Looks.here (s:={s with toks:=s.toks+1}) (alQ X ha) (wpAny_bind (W.Looks.here (s:={s with toks:=s.toks+1}) L3 ?_))))))
 obtain⟨oc,od,oda,osl⟩:=ox
 dsimp only at hc hf hd
 subst hc hf hd
 refine wpAny_bind (wpAny_pure (wpAny_bind (wpAny_bind (wpAny_loadPart (s:={s with toks:=s.toks+1}) hx (wpAny_bind (W.Looks.here (s:={s with toks:=s.toks+1}) (aqq X hcd) ?_))))))
 rw[hdc]
 rw[if_neg (by decide)]
 show wpAny _ _ (if(!true|| !typeHasDict (Value.ref C))=true then pure none else(alloc {cls:=.type "dict",data:=.dict #[]}>>=λd=>update x (λo=>{o with dict:=some d})>>=λ_=>dictMade (Value.ref C) x d)) _ _ _
 rw[if_neg (by simp[typeHasDict])]
 have hx₁:(s.heap.push {cls:=.type "dict",data:=.dict #[]}).get? x=some {cls:=.ref C,data:=.fields vs,slots:=osl}:=Heap.get?_push_of_some _ hx
 have hxs:x≠s.heap.objs.size:=aeB (acK hx)
 refine wpAny_bind (wpAny_alloc (s:={s with toks:=s.toks+1}) ?_)
 refine wpAny_bind (wpAny_update (s:={s with heap:=s.heap.push {cls:=.type "dict",data:=.dict #[]},toks:=s.toks+1}) hx₁ ?_)
 refine wpAny_pure ?_
 have hgd:((s.heap.push {cls:=.type "dict",data:=.dict #[]}).update x λo=>{o with dict:=some s.heap.objs.size}).get? s.heap.objs.size=some {cls:=.type "dict",data:=.dict #[]}:=
  (apZ _ _ _ _ hxs.symm).trans (ash rfl rfl)
 have hnd:((s.heap.push {cls:=.type "dict",data:=.dict #[]}).update x λo=>{o with dict:=some s.heap.objs.size}).Ns s.heap.objs.size (λ_=>none):=
  ⟨_, #[],_,hgd,rfl,λe he=>absurd he (by simp),λ_=>rfl⟩
 show wpAny _ _ (Builtin.ObjectAttr.storeInDict s.heap.objs.size (.str name s.toks) name v) _ _ _
 unfold Builtin.ObjectAttr.storeInDict Builtin.ObjectAttr.newKeyGuard
 refine wpAny_bind (wpAny_pure (wpAny_bind (wpAny_nsSet1 (s:={s with heap:=(s.heap.push {cls:=.type "dict",data:=.dict #[]}).update x λo=>{o with dict:=some s.heap.objs.size},toks:=s.toks+1}) (Heap.Ns1.of_empty hnd) λh' hn' hs'=>?_)))
 obtain⟨oD,esD,epD,hoD,hdD,hcD⟩:=hn'.count (Within.cons name v Within.nil)
 refine wpAny_bind (wpAny_lookBehind hoD (by rw[hdD];exact pastItsLine_dict (ah4 hcD (by rw[List.length_cons,List.length_nil,sizeLine_eq];omega))) ?_)
 refine wpAny_pure (h h' _ ?_ hn' λb ob hbx hb=>?_)
 .refine(hs'.2 x hxs).trans (aeE _ hx₁ rfl)
 .exact(hs'.2 b (aeB (acK hb))).trans ((apZ _ _ _ _ hbx).trans (Heap.get?_push_of_some _ hb))
end
theorem Kw{K:acF}{h:Heap}{N:Addr}{mg:Str->Option Value}{n:Str}{v:Value}(X:K.In h)(G:h.Ns N mg)(e:afj K N n=some (some v)):mg n=some v:=by
 obtain⟨o,es,ep,ho,hd,_,hf⟩:=G
 unfold afj at e
 split at e
 .rename_i c d es' n' sl q
  have :=X _ _ q
  rw[ho]at this
  cases this
  cases hd
  split at e
  .rename_i en he
   cases e
   rw[<-hf]
   unfold nsFind findBy
   rw[<-ap6,he]
   rfl
  .split at e<;>cases e
 .cases e
def yx(K:acF)(C f:Addr):Bool:=match K.lookup C with
 |some ⟨.type "type",_,.cls cd,sl⟩=>(match cd.mro,sl.toList with
  | .ref C'::bm,[_,_,_,_,some (.builtin n),_]=>C'==C&&n=="ValueError.__new__"&& !cd.hasDel&&W.tailIn K IK bm&&W.nsOkIn K cd.ns&&afj K cd.ns "__init__"==some (some (.ref f))
  |_,_=>false)
 |_=>false
theorem Ek{K:acF}{C f:Addr}{h:Heap}(kin:K.In h)(e:yx K C f=true):
  ∃bm N nm q bs hdct sn sub ab col dd k0 k1 k2 k3 k5 mN,h.get? C=some (excClassObj nm q C N bs bm hdct sn sub ab col dd k0 k1 k2 k3 k5 "ValueError.__new__")/\h.Ns N mN/\mN "__init__"=some (.ref f)/\OwnTail h IK bm:=by
 unfold yx at e
 split at e
 .rename_i dd cd sl ho
  split at e
  .rename_i C' bm k0 k1 k2 k3 n k5 hm hs
   simp only[aaP,beq_iff_eq,ar0]at e
   obtain⟨⟨⟨⟨⟨e1,e2⟩,e3⟩,e4⟩,e5⟩,e6⟩:=e
   subst e1 e2
   obtain⟨nm,bs,mro,ns,qn,hd,sn,sub,ab,col,del⟩:=cd
   dsimp only at hm e3 e5 e6
   subst hm e3
   have hl:sl= #[k0,k1,k2,k3,some (.builtin "ValueError.__new__"),k5]:=by
    obtain⟨l⟩:=sl
    simp only at hs
    rw[hs]
   subst hl
   have hN:h.Ns ns (h.nsMap ns):=.of_isNs (W.isNs_of_in kin e5)
   exact⟨bm,ns,nm,qn,bs,hd,sn,sub,ab,col,dd,k0,k1,k2,k3,k5,_,kin _ _ ho,hN,Kw kin hN e6,W.tail_of_in kin e4⟩
  .cases e
 .cases e
section
variable{prog:Program}{w:World}{A:Around}{E:Value->Shared->Prop}{h:Heap}{g:Array GenState}{d:Drawn}{t:Nat}{os:OsState}
variable{nm q:Str}{C N x:Addr}{bs bm:List Value}{hdct:Bool}{sn:List Str}{sub:List Value}{ab:Bool}{col:Option Bool}{dd:Option Addr}{k0 k1 k2 k3 k5:Option Value}{ox:Obj}{vs:Array Value}{v:Value}
theorem aev{t0:Addr}{Q:Value->Shared->Prop}(T:OwnTail h IK bm)(hC:h.get? C=some (excClassObj nm q C N bs bm hdct sn sub ab col dd k0 k1 k2 k3 k5 "ValueError.__new__"))(hx:h.get? x=some {cls:=.ref C,data:=.fields #[.ref t0,.none,.none,.none,.bool false,.none]})
  (hq:∀h' t1,h'.get? x=some {cls:=.ref C,data:=.fields #[.ref t1,.none,.none,.none,.bool false,.none]}->(∀b o,b≠x->h.get? b=some o->h'.get? b=some o)->Q .none ⟨h',g,d,t,os⟩):
  wpAny (model prog w) A (call (.builtin "ValueError.__init__") [.ref x,v]) Q E ⟨h,g,d,t,os⟩:=by
 have F0:=F.excBase_ValueError
 refine wpAny_call (codeAny_call_builtin F0.init.plain F0.initEntry (wpAny_check_init_subT F0 T hC hx rfl ?_))
 wp_walk
 refine hq _ h.objs.size ?_ λb o hb q=>?_
 .rw[aeE _ (Heap.get?_push_of_some _ hx) rfl]
  rfl
 .rw[acu _ _ (Ne.symm hb)]
  exact Heap.get?_push_of_some _ q
theorem BR{mN:Str->Option Value}{rest:List Value}{fI:Addr}{oI:Obj}{Q:Fin->Shared->Prop}(T:OwnTail h IK bm)(hC:h.get? C=some (excClassObj nm q C N bs bm hdct sn sub ab col dd k0 k1 k2 k3 k5 "ValueError.__new__"))(hn:h.Ns N mN)(hi:mN "__init__"=some (.ref fI))
  (hfI:h.get? fI=some oI) (hfc:oI.cls= .type "function")
  (hq:∀h' e,apA h h' e (.ref C) rest->wpAny (model prog w) A (call (.ref fI) (.ref e::rest)) (λr s'=>r= .none/\Q (.done (.ret (.ref e))) s') E ⟨h',g,d,t,os⟩) (hrest:rest.length≤sizeLine):
  wpAny (model prog w) A (Builtin.«type.__call__» ⟨.ref C::rest,[]⟩) Q E ⟨h,g,d,t,os⟩:=by
 have F0:=F.excBase_ValueError
 repeat (first |with_reducible refine wpAny_loadPart_at hC ?_ |with_reducible refine wpAny_madeBy_exc hC ?_ |wp_step)
 refine codeAny_call_builtin_code (Code.quiet_builtin _ F0.quiet) (wpAny_check_new_subT F0 T hC ?_)
 refine codeAny_exc_new_subT F0 T hC ?_ hrest
 show wpAny _ _ _ _ _ _
 generalize hh1:(h.push {cls:=.type "tuple",data:=.seq rest.toArray}).push {cls:=.ref C,data:=.fields #[.ref h.objs.size,.none,.none,.none,.bool false,.none]}=h1
 have k1':∀b o,h.get? b=some o->h1.get? b=some o:=λb o e=>by rw[<-hh1];exact Heap.get?_push_of_some _ (Heap.get?_push_of_some _ e)
 have hC₁:=k1' _ _ hC
 have hn₁:h1.Ns N mN:=let⟨o,es,ep,e,r⟩:=hn;⟨o,es,ep,k1' _ _ e,r⟩
 have hget:h1.get? (h.objs.size+1)=some {cls:=.ref C,data:=.fields #[.ref h.objs.size,.none,.none,.none,.bool false,.none]}:=by rw[<-hh1];heap_get
 have hcC:(Value.ref C::bm).contains (.ref C)=true:=by simp
 have T₁:=T.keeps k1'
 unfold isInstance
 repeat (first |with_reducible refine wpAny_loadPart_at hget ?_ |(with_reducible refine wpAny_isSubtype_exc hC₁ ?_;rw[hcC]) |wp_step)
 show wpAny _ _ (typeLookup (.ref C) _) _ _ _
 refine wpAny_typeLookup_tail hC₁ hn₁ T₁ F0.mroIs F0.init.lookup ?_
 rw[hi]
 refine wpAny_holding (wpAny_bind ?_)
 unfold bindSpecial
 refine wpAny_bind (wpAny_typeOf (T:="function") ⟨_,k1' _ _ hfI,hfc⟩ ?_)
 rw[if_pos (by decide)]
 refine wpAny_pure (wpAny_bind (wpAny_mono (hq h1 (h.objs.size+1) ⟨k1',aiw (akk _),h.objs.size,hget,aiw (aaO _),?_⟩) (λr s' hr=>?_) λ_ _ x=>x))
 .rw[<-hh1]
  exact Heap.get?_push_of_some _ (ash rfl rfl)
 .obtain⟨rfl,hQ⟩:=hr
  wp_walk
  exact hQ
theorem Ia{mN:Str->Option Value}{rest:List Value}{fI:Addr}{oI:Obj}{Q:Value->Shared->Prop}(T:OwnTail h IK bm)(hC:h.get? C=some (excClassObj nm q C N bs bm hdct sn sub ab col dd k0 k1 k2 k3 k5 "ValueError.__new__"))(hn:h.Ns N mN)(hi:mN "__init__"=some (.ref fI))
  (hfI:h.get? fI=some oI) (hfc:oI.cls= .type "function")
  (hq:∀h' e,apA h h' e (.ref C) rest->wpAny (model prog w) (A.under (.builtin "type.__call__" ⟨.ref C::rest,[]⟩)) (call (.ref fI) (.ref e::rest)) (λr s'=>r= .none/\Q (.ref e) s') E ⟨h',g,d,t,os⟩) (hrest:rest.length≤sizeLine):
  wpAny (model prog w) A (call (.ref C) rest) Q E ⟨h,g,d,t,os⟩:=by
 have f1:=tc_lookup
 have f2:=tc_bind (.ref C)
 have hT:(⟨h,g,d,t,os⟩:Shared).TypeIs (.ref C) "type":=⟨_,hC,rfl⟩
 refine wpAny_call (codeAny_of_tree ?_)
 show wpAny _ _ (callAny (.ref C) _) _ _ _
 repeat (any_goals (first |assumption |with_reducible refine wpAny_loadPart_at hC ?_ |wp_step))
 refine⟨rfl,?_⟩
 exact codeAny_call_builtin_at (Code.quiet_builtin _ (by decide+kernel)) entry_typeCall (wpAny_check_type_call_sub hC (BR T hC hn hi hfI hfc hq hrest))
end
section
variable{prog:Program}{w:World}{A:Around}{E:Value->Shared->Prop}{s:Shared}{env:Env}
variable{nm q:Str}{C N:Addr}{bs bm:List Value}{hdct:Bool}{sn:List Str}{sub:List Value}{ab:Bool}{col:Option Bool}{dd:Option Addr}{k0 k1 k2 k3 k5:Option Value}
theorem Q9{M:Model}{x:Sem Value}{Q:Flow->Shared->Prop}(hbase:bm.contains (.type "BaseException")=true)(hh:A.handled=none)
  (h:wpAny M A x (λv s₁=>∃e t D,v= .ref e/\s₁.heap.get? C=some (excClassObj nm q C N bs bm hdct sn sub ab col dd k0 k1 k2 k3 k5 "ValueError.__new__")/\
   s₁.heap.get? e=some {cls:=.ref C,dict:=D,data:=.fields #[.ref t,.none,.none,.none,.bool false,.none]}/\E (.ref e) s₁) E s):
  wpAny M A (raiseStmt env (some x) none) Q E s:=by
 have hcB:(Value.ref C::bm).contains (.type "BaseException")=true:=by rw[List.contains_cons,hbase,avq]
 unfold raiseStmt
 refine wpAny_bind (wpAny_mono h (λv s₁ h₁=>?_) λ_ _ x=>x)
 obtain⟨e,t,D,rfl,hC,he,hE⟩:=h₁
 obtain⟨hp,g,d,tk,os⟩:=s₁
 repeat (first |with_reducible refine wpAny_loadPart_at he ?_ |with_reducible refine wpAny_loadPart_at hC ?_ |(with_reducible refine wpAny_isSubtype_exc hC ?_;rw[hcB]) |wp_step)
 exact wpAny_raiseNew_none hh hE
end
def xo(e C:Addr)(D:Option Addr):HO:=.ext λh=>∃t,h.get? e=some {cls:=.ref C,dict:=D,data:=.fields #[.ref t,.none,.none,.none,.bool false,.none]}
def lM(H:Hp)(e:Addr):Hp:=λb=>if b=e then none else H b
theorem fU{H:Hp}{e b:Addr}(h:b≠e):lM H e b=H b:=by unfold lM;rw[if_neg h]
theorem pU{H:Hp}{e:Addr}:lM H e e=none:=by unfold lM;rw[if_pos rfl]
theorem Nf{P:Program}{w:World}{H:Hp}{h:Heap}{e C t:Addr}{D:Option Addr}(q:h.get? e=some {cls:=.ref C,dict:=D,data:=.fields #[.ref t,.none,.none,.none,.bool false,.none]}):gH P w H h e (xo e C D):=
 ⟨⟨t,q⟩,⟨_,q⟩,λh1 h2 ⟨t,q⟩ k=>⟨t,k _ q⟩⟩
section
variable{X:Cx}{pins:List (Addr×Obj)}{σ:St}{H:Hp}{s:Shared}{e:Addr}{φ:Heap->Prop}
theorem Inv.adopt(I:Inv X pins σ H s)(hn:H e=none)(c:Ch X pins e)(ok:gH X.prog X.w (upd H e (.ext φ)) s.heap e (.ext φ)):Inv X pins σ (upd H e (.ext φ)) s:=by
 have ne:∀b u,H b=some u->b≠e:=λb u q=>aB q hn
 have :=I.step (h':=s.heap) (H':=upd H e (.ext φ)) (g':=s.gens) (d':=s.drawn) (t':=s.toks) (ch:=[e]) (λb hb=>?_) (λb o _ _ _ q _=>q) (λb o _ _ _ q _=>⟨o.slots,q⟩) (λb o hc _ n=>?_) (λb o _ q=>⟨o,q⟩) (λb xs q=>?_) (λb o u q=>?_) (λb ps q=>?_) (λm q=>q) (λb u q=>?_) I.bare
 .exact this
 .have z:b=e:=by simpa using hb
  subst z
  exact c
 .rw[aF (λz=>hc (by simp[z]))];exact n
 .rw[aF (ne _ _ q)];exact q
 .rw[aF (ne _ _ q)];exact q
 .exact⟨#[],by rw[aF (ne _ _ q),q];simp⟩
 .by_cases z:b=e
  .subst z
   rw[ao]at q
   cases q
   exact ok
  .rw[aF z]at q
   exact(I.hok b u q).stay (λ_ _ _ r=>r) (λc r=>by rw[aF (ne _ _ r)];exact r) λc xs r=>by rw[aF (ne _ _ r)];exact r
theorem Inv.forget(I:Inv X pins σ H s)(hn:H e=some (.ext φ))(c:Ch X pins e):Inv X pins σ (lM H e) s:=by
 have :=I.step (h':=s.heap) (H':=lM H e) (g':=s.gens) (d':=s.drawn) (t':=s.toks) (ch:=[e]) (λb hb=>?_) (λb o _ _ _ q _=>q) (λb o _ _ _ q _=>⟨o.slots,q⟩) (λb o hc _ n=>?_) (λb o _ q=>⟨o,q⟩) (λb xs q=>?_) (λb o u q=>?_) (λb ps q=>?_) (λm q=>q) (λb u q=>?_) I.bare
 .exact this
 .have z:b=e:=by simpa using hb
  subst z
  exact c
 .rw[fU (λz=>hc (by simp[z]))];exact n
 .rw[fU (λz=>by rw[z,hn]at q;cases q)];exact q
 .rw[fU (λz=>by rw[z,hn]at q;cases q)];exact q
 .exact⟨#[],by rw[fU (λz=>by rw[z,hn]at q;cases q),q];simp⟩
 .by_cases z:b=e
  .subst z
   rw[pU]at q
   cases q
  .rw[fU z]at q
   exact(I.hok b u q).stay (λ_ _ _ r=>r) (λc r=>by rw[fU (λz=>by rw[z,hn]at r;cases r)];exact r) λc xs r=>by rw[fU (λz=>by rw[z,hn]at r;cases r)];exact r
end
structure XBase(K:acF)(mg:Str->Option Value)(x:Str):Prop where
 at_:mg x=some (.ref (ak mg x))
 reads:am0 K (ak mg x) (.type "type")=true
 ini:am5 K (.ref (ak mg x)) (.type "type") "__init__"=some (.val (.builtin "ValueError.__init__"))
 ga:aeJ K (.ref (ak mg x)) "__getattribute__"=some (some (.builtin "type.__getattribute__"))
structure acv(K:acF)(mg:Str->Option Value)(Lx x qual fld:Str)(st:Stmt):Prop where
 at_:mg x=some (.ref (ak mg x))
 ex:∃f fd,iW K "__init__" qual st f fd/\yx K (ak mg x) f=true/\akg K (.ref f)=true
 sa:aat K (.ref (ak mg x)) "__setattr__"=some (some (.builtin "object.__setattr__"))
 tk:akG K (ak mg x) fld=some none
 xc:oA K (ak mg x) (ak mg Lx)=true
def M6(C:Addr)(fld:Str):Sp:=λvs H Q _=>∃e n,vs=[.ref e,.int n]/\n.natAbs<10^60/\H e=some (xo e C none)/\
 ∀D H',D≠e->H D=none->(∀b o,b≠e->H b=some o->H' b=some o)->H' e=some (xo e C (some D))->H' D=some (.xd [(fld,.int n)])->Q .non H'
section
variable{X:Cx}{σ:St}{H:Hp}{Q:VK}{D:Ends}{Lx x f fld:Str}{np apos pos pos' cpos:Pos}{a o value:Expr}{es:List Expr}{Kx:St->XK}
theorem Xd{pl:Sem Bool}(B:XBase X.K X.mg Lx)(hg:Gl X Lx)(hd:(Lx==("__debug__":Str))=false)(hst:starEach (a::es) X.env=(false,eval a X.env)::starEach es X.env)(hpl:(backTo pos (starEach es X.env)).any (·.1)=false)
  (ht:eval (.Call (.Attribute (.Name Lx np) "__init__" apos) (a::es) [] pos) X.env=(do
   let ov<-eval (.Name Lx np) X.env
   standAt apos.atName
   let(f,first)<-holding [ov] (getMethod ov "__init__" pl)
   callWith pos f first (backTo pos (starEach (a::es) X.env)) (backToKw pos (keywordEach [] X.env))))
  (h:EA X (a::es) σ H λvs H1=>CL X (.builtin "ValueError.__init__") vs H1 Q):EV X (.Call (.Attribute (.Name Lx np) "__init__" apos) (a::es) [] pos) σ H Q:=by
 intro pins s I
 refine ao0 (pl:=pl) (iz I hg B.at_ ?_ hd) ht
 refine W.method_cls I.kIn B.ga (W.cls_value I.kIn B.reads B.ini (by decide+kernel) ?_)
 have I1:=I.tok (s.toks+1)
 have h':=h pos pins _ I1
 rw[hst]at h'⊢
 refine Calls.callWith_builtin (by show(false||(backTo pos (starEach es X.env)).any (·.1))=false;rw[hpl];rfl) (Calls.evalArgs_plain ?_)
 refine cZ h' λus s2 ⟨vs,H2,I2,r2,c,h1,q2⟩=>?_
 exact h1 pins s2 σ H2 vs us Q I2 r2 q2
theorem ad0{C ff:Addr}{e:Addr}{v:V}(hi:yx X.K C ff=true)(he:H e=some (xo e C none))(q:Q .non H):CL X (.builtin "ValueError.__init__") [.ref e,v] H Q:=by
 refine jN (r:=λxs H Q=>∃e v,xs=[.ref e,v]/\H e=some (xo e C none)/\Q .non H) ?_ ⟨e,v,rfl,he,q⟩
 intro pins s σ H xs us Q I r h
 obtain⟨e,v,rfl,he,q⟩:=h
 obtain⟨u1,u2,rfl,r1,r2⟩:=vals2 r
 cases(show u1=Value.ref e from r1)
 obtain⟨bm,N,nm,qn,bs,hdct,sn,sub,ab,col,dd,k0,k1,k2,k3,k5,mN,hC,hN,hni,T⟩:=Ek I.kIn hi
 obtain⟨⟨t,ht⟩,_,_⟩:=I.hok e _ he
 obtain⟨hp,g,d,tk,os⟩:=s
 refine aev T hC ht λh' t1 h1 k=>?_
 have hw:=I.write (x:=e) (e:=e) (o:=xo e C none) (h':=h') (t':=tk) (by rw[he];trivial) (.inl rfl) (λb u n q=>k b u n q) ⟨_,h1⟩ (Nf h1)
 have hid:upd H e (xo e C none)=H:=by
  funext b
  unfold upd
  split
  .rename_i z;rw[z,he]
  .rfl
 rw[hid]at hw
 exact⟨.non,H,hw,rfl,q⟩
theorem Xu{C L:Addr}(hs:aat X.K (.ref C) "__setattr__"=some (some (.builtin "object.__setattr__")))(hm:oA X.K C L=true)(ht:akG X.K C f=some none)
  (hsw:swapsWith value (some (.Attribute o f pos')) pos.line X.env=pure false)
  (h:EV X value σ H λy H1=>EV X o σ H1 λx H2=>∃e,x= .ref e/\H2 e=some (xo e C none)/\∀E',H2 E'=none->E'≠e->D.nx σ (upd (upd H2 E' (.xd [(f,y)])) e (xo e C (some E')))):
  SX X (.Assign [.Attribute o f pos'] value pos) D σ H:=by
 intro pins s I
 refine plainObj_wpAny_Assign_Attribute (cZ (h pins s I) λu s1 ⟨y,H1,I1,ry,q⟩=>cZ (q pins s1 I1) λov s2 ⟨x,H2,I2,rx,e,ex,he,q2⟩=>?_) hsw
 subst ex
 obtain rfl:ov=Value.ref e:=rx
 obtain⟨⟨t,hte⟩,_,_⟩:=I2.hok e _ he
 refine WT I2.kIn hte rfl rfl rfl hs hm ht λh' tk g1 g2 g3=>?_
 have hDn:H2 s2.heap.objs.size=none:=I2.hok.fresh (aaO _)
 have hDe:s2.heap.objs.size≠e:=λz=>by rw[z]at hDn;rw[hDn]at he;cases he
 have ne:∀b u,H2 b=some u->u≠xo e C none->b≠e:=λb u q n z=>by rw[z,he]at q;cases q;exact n rfl
 have nD:∀b u,H2 b=some u->b≠s2.heap.objs.size:=λb u q=>aB q hDn
 refine⟨σ,_,?_,q2 s2.heap.objs.size hDn hDe⟩
 refine I2.step (h':=h') (g':=s2.gens) (d':=s2.drawn) (t':=tk) (ch:=[]) (λb hb=>absurd hb (by simp)) (λb o _ _ _ q n=>g3 b o (λz=>by rw[z,he]at n;cases n) q) (λb o _ _ _ q n=>⟨o.slots,g3 b o (λz=>by rw[z,he]at n;cases n) q⟩) (λb o _ q n=>?_) (λb o _ q=>?_) (λb xs q=>?_) (λb o u q=>?_) (λb ps q=>?_) (λm hm'=>?_) (λb u q=>?_) I2.bare
 .rw[aF (λz=>by rw[z,he]at n;cases n),aF (aeB (acK q))]
  exact n
 .by_cases z:b=e
  .subst z;exact⟨_,g1⟩
  .exact⟨o,g3 b o z q⟩
 .rw[aF (ne _ _ q (λz=>nomatch z)),aF (nD _ _ q)];exact q
 .rw[aF (ne _ _ q (λz=>nomatch z)),aF (nD _ _ q)];exact q
 .exact⟨#[],by rw[aF (ne _ _ q (λz=>nomatch z)),aF (nD _ _ q),q];simp⟩
 .obtain⟨o,es,ep,ho,r⟩:=hm'
  exact⟨o,es,ep,g3 _ _ (λz=>by have :=I2.free;rw[z,he]at this;cases this) ho,r⟩
 .by_cases z:b=e
  .subst z
   rw[ao]at q
   cases q
   exact Nf g1
  .rw[aF z]at q
   by_cases z2:b=s2.heap.objs.size
   .subst z2
    rw[ao]at q
    cases q
    refine⟨_,g2,λn=>?_⟩
    by_cases hf:n=f
    .subst hf
     simp only[if_true,List.lookup_cons,beq_self_eq_true]
     exact ry
    .rw[if_neg hf,List.lookup_cons,beq_eq_false_iff_ne.mpr hf]
     trivial
   .rw[aF z2]at q
    refine(I2.hok b u q).stay (λc v hc r=>g3 c v ?_ r) (λc r=>?_) λc xs r=>?_
    .rcases hc with y |y
     .rw[y];exact z
     .exact ne _ _ y (λz=>nomatch z)
    .rw[aF (ne _ _ r (λz=>nomatch z)),aF (nD _ _ r)];exact r
    .rw[aF (ne _ _ r (λz=>nomatch z)),aF (nD _ _ r)];exact r
end
structure Xn(P:Program)(w:World)(K:acF)(mg:Str->Option Value)(base:Heap)(cc:Bool)(k:Nat)(x fld:Str):Prop where
 at_:mg x=some (.ref (ak mg x))
 ex:∃f fd ps oc od osl,xU P w K mg base (CK P w) cc k f fd ps (M6 (ak mg x) fld)/\Binds K fd ps []/\yx K (ak mg x) f=true/\K.lookup f=some ⟨oc,od,.func fd,osl⟩/\oc= .type "function"
section
variable{prog:Program}{w:World}{A:Around}{E:Value->Shared->Prop}{s:Shared}{env:Env}
variable{nm q:Str}{C N:Addr}{bs bm:List Value}{hdct:Bool}{sn:List Str}{sub:List Value}{ab:Bool}{col:Option Bool}{dd:Option Addr}{k0 k1 k2 k3 k5:Option Value}
theorem O6{mN:Str->Option Value}{fI:Addr}{oI:Obj}{x:Str}{np cpos pos:Pos}{args:List Expr}{Q:Flow->Shared->Prop}
  (hbase:bm.contains (.type "BaseException")=true) (hh:A.handled=none) (hplain:(backTo cpos (starEach args env)).any (·.1)=false) (hi:mN "__init__"=some (.ref fI)) (hfc:oI.cls= .type "function")
  (h:wpAny (model prog w) A (eval (.Name x np) env) (λf s₁=>f= .ref C/\wpAny (model prog w) A (evalArgs (.ref C) true (backTo cpos (starEach args env)) [])
   (λa s₂=>a.kw=[]/\a.pos.length≤sizeLine/\s₂.heap.get? C=some (excClassObj nm q C N bs bm hdct sn sub ab col dd k0 k1 k2 k3 k5 "ValueError.__new__")/\s₂.heap.Ns N mN/\OwnTail s₂.heap IK bm/\s₂.heap.get? fI=some oI/\
    ∀h' e,apA s₂.heap h' e (.ref C) a.pos->wpAny (model prog w) (A.under (.builtin "type.__call__" ⟨.ref C::a.pos,[]⟩)) (call (.ref fI) (.ref e::a.pos))
     (λr s'=>r= .none/\∃t D,s'.heap.get? C=some (excClassObj nm q C N bs bm hdct sn sub ab col dd k0 k1 k2 k3 k5 "ValueError.__new__")/\
      s'.heap.get? e=some {cls:=.ref C,dict:=D,data:=.fields #[.ref t,.none,.none,.none,.bool false,.none]}/\E (.ref e) s') E {s₂ with heap:=h'}) E s₁) E s):
  wpAny (model prog w) A (exec (.Raise (some (.Call (.Name x np) args [] cpos)) none pos) env) Q E s:=by
 rw[arm_exec_Raise]
 refine wpAny_bind (wpAny_standAt (Q9 (C:=C) (nm:=nm) (q:=q) (N:=N) (bs:=bs) (bm:=bm) (hdct:=hdct) (sn:=sn) (sub:=sub) (ab:=ab) (col:=col) (dd:=dd) (k0:=k0) (k1:=k1) (k2:=k2) (k3:=k3) (k5:=k5) hbase hh ?_))
 refine wpAny_bind (wpAny_mono (wpAny_Call_ofName (wpAny_mono h (λf s₁ h₁=>?_) λ_ _ x=>x)) (λv s₃ h₃=>wpAny_bind (wpAny_standAt (wpAny_pure h₃))) λ_ _ x=>x)
 obtain⟨rfl,h₁⟩:=h₁
 unfold callWith
 refine wpAny_bind (wpAny_holding (wpAny_mono h₁ (λa s₂ h₂=>wpAny_bind (wpAny_standAt ?_)) λ_ _ x=>x))
 obtain⟨apos,akw⟩:=a
 obtain⟨hkw,hlen,hC,hn,T,hfI,h₂⟩:=h₂
 obtain rfl:akw=[]:=hkw
 obtain⟨hp,g,d,tk,os⟩:=s₂
 simp only[hplain]
 refine wpAny_bind (wpAny_keeperOf_exc hC ?_)
 refine wpAny_bind (Ia T hC hn hi hfI hfc (λh' e hm=>?_) hlen)
 refine wpAny_mono (h₂ h' e hm) (λr s' hr=>⟨hr.1,?_⟩) λ_ _ z=>z
 obtain⟨t,D,g1,g2,g3⟩:=hr.2
 exact wpAny_bind (wpAny_holding (wpAny_point (wpAny_pure ⟨e,t,D,rfl,g1,g2,g3⟩)))
end
section
variable{X:Cx}{Kx:St->XK}{D:Ends}{σ:St}{H:Hp}{x fld:Str}{np cpos pos:Pos}{e:Expr}{es:List Expr}{cc DN:Bool}{k k':Nat}
theorem jA(O:Xn X.prog X.w X.K X.mg X.base DN k x fld)(hr:fB cc k' X.A)(hk:k+1≤k')(hcc:DN=true->cc=true)(hx:ye X Kx)(hc:X.calm=true)(hg:Gl X x)(hd:(x==("__debug__":Str))=false)(he:starEach (e::es) X.env=(false,eval e X.env)::starEach es X.env)
  (hpl:(backTo cpos (starEach es X.env)).any (·.1)=false)
  (h:EA X (e::es) σ H λvs H1=>∃n,vs=[.int n]/\n.natAbs<10^60/\∀E' H',au H1 H'->H' E'=some (.xd [(fld,.int n)])->Kx σ (.ref (ak X.mg x)) (some E',true) H'):
  SX X (.Raise (some (.Call (.Name x np) (e::es) [] cpos)) none pos) D σ H:=by
 intro pins s I
 obtain⟨f,fd,ps,oc,od,osl,Fn,hb,hi,hlk,hoc⟩:=O.ex
 obtain⟨bm,N,nm,q,bs,hdct,sn,sub,ab,col,dd,k0,k1,k2,k3,k5,mN,hC,hN,hni,T⟩:=Ek I.ok.mod.kin hi
 have hr':fB DN (k+1) X.A:=(hr.mono hk).Be hcc
 refine O6 (C:=ak X.mg x) (nm:=nm) (q:=q) (N:=N) (bs:=bs) (bm:=bm) (hdct:=hdct) (sn:=sn) (sub:=sub) (ab:=ab) (col:=col) (dd:=dd) (k0:=k0) (k1:=k1) (k2:=k2) (k3:=k3) (k5:=k5) (mN:=mN) (fI:=f) (oI:=⟨oc,od,.func fd,osl⟩)
  (T.hasType (by decide+kernel)) (I.ok.hd hc) ?_ hni hoc (iz I hg O.at_ ⟨rfl,?_⟩ hd)
 .rw[he]
  show(false||(backTo cpos (starEach es X.env)).any (·.1))=false
  rw[hpl]
  rfl
 .have h':=h cpos pins s I
  rw[he]at h'⊢
  refine Calls.evalArgs_plain (cZ h' λus s2 ⟨vs,H1,I2,r,n,ev,hn,kq⟩=>?_)
  subst ev
  obtain⟨u,rfl,ru⟩:=vals1 r
  refine⟨rfl,by show 1≤sizeLine;rw[sizeLine_eq];decide,I2.bk _ _ hC,hN.keeps I2.bk,T.keeps I2.bk,I2.kIn _ _ hlk,λh3 a M=>?_⟩
  obtain⟨t,m1,m2,m3⟩:=M.there
  have hfree:H1 a=none:=I2.hok.free M.new
  have hch:Ch X pins a:=I2.ch M.new
  have I3:Inv X pins σ H1 {s2 with heap:=h3}:=I2.kept (t':=s2.toks) M.keeps
  have I4:Inv X pins σ (upd H1 a (xo a (ak X.mg x) none)) {s2 with heap:=h3}:=I3.adopt hfree hch (Nf m1)
  have rv:Vals [V.ref a,.int n] [Value.ref a,u]:=.cons rfl (.cons ru .nil)
  have hsp:M6 (ak X.mg x) fld [V.ref a,.int n] (upd H1 a (xo a (ak X.mg x) none)) (λv H'=>v= .non/\∃E',H' a=some (xo a (ak X.mg x) (some E'))/\H' E'=some (.xd [(fld,.int n)])/\E'≠a/\∀b o,b≠a->H1 b=some o->H' b=some o) (λ_ _ _=>False):=
   ⟨a,n,rfl,hn,ao,λE' H' h1 h2 h3' h4 h5=>⟨rfl,E',h4,h5,h1,λb o hb q=>h3' b o hb (by rw[aF hb];exact q)⟩⟩
  have hl:([Value.ref a,u]:List Value).length=ps.length:=by rw[<-rv.length];exact Fn.len _ _ _ _ hsp
  have hb':=hb {s2 with heap:=h3} [Value.ref a,u] I4.kIn (by simpa using hl)
  rw[List.append_nil]at hb'
  refine wpAny_call (codeAny_mono (Fn.run (X.A.under (.builtin "type.__call__" ⟨.ref (ak X.mg x)::[u],[]⟩)) X.stack {s2 with heap:=h3} _ ⟨[Value.ref a,u],[]⟩ [Value.ref a,u] [V.ref a,.int n] _ (λ_ _ _=>False) (hr'.make (ak X.mg x) [u] [])
   (I4.env0.make (ak X.mg x) [u] []) hb' rv hsp) λr s' hq=>?_)
  cases r with
  |error e=>exact(CK.never hq).elim
  |ok fl=>
   cases fl with
   |ret v=>
    obtain⟨v',H',I5,rr,ev,E',g1,g2,g3,g4⟩:=I4.after hq
    subst ev
    obtain⟨⟨t',ht'⟩,_,_⟩:=I5.hok a _ g1
    have I6:=I5.forget g1 hch
    refine⟨rr,t',some E',I5.bk _ _ hC,ht',?_⟩
    refine hx pins σ _ s' a _ (some E',true) ⟨I6,none,.none,⟨_,_,ht',rfl,rfl,rfl,rfl,by simp,Ctx.yes rfl,λT z=>nomatch z⟩,.inl rfl,λb hb=>?_⟩ (kq E' _ (λb o q=>?_) ?_)
    .have z:b=a:=by simpa using hb
     subst z
     exact⟨pU,hch⟩
    .have hba:b≠a:=aB q hfree
     rw[fU hba]
     exact g4 b o hba q
    .rw[fU g3]
     exact g2
   |next=>exact False.elim hq
   |brk=>exact False.elim hq
   |cont=>exact False.elim hq
end
structure Cy(K:acF)(C:Addr):Prop where
 hd:aeD K C=true
 ga:aat K (.ref C) "__getattribute__"=some (some (.builtin "BaseException.__getattribute__"))
 gt:aat K (.ref C) "__getattr__"=some none
 cl:aat K (.ref C) "__class__"=some (some (.builtin "object.__class__"))
 cg:aeJ K (.builtin "object.__class__") "__get__"=some (some (.builtin "getset_descriptor.__get__"))
 ct:aim K (.builtin "object.__class__")=some true
 mo:aeL K C (.type "object")=some true
 mb:aeL K C (.type "BaseException")=some true
section
variable{prog:Program}{w:World}{A:Around}{E:Value->Shared->Prop}{s:Shared}{K:acF}{x C:Addr}{ox:Obj}{od:Option Obj}{name:Str}{v:Value}
theorem aup{tk:Tok}{fill expr:Bool}{Q:Value->Shared->Prop}(X:K.In s.heap)(I:ap7 s.heap x ox C od)(c:Cy K C)
  (h:wpAny (model prog w) A.in1 (Builtin.«object.__getattribute__» ⟨[.ref x,.str name tk],[]⟩) (λfin s'=>match fin with
   | .done (.ret v)=>wpAny (model prog w) A (handedOut v) Q E s'
   |_=>False) (λ_ _=>False) s):wpAny (model prog w) A (getAttrBy (.ref x) (.str name tk) fill expr) Q E s:=by
 have FB:=F.attrBase_ValueError
 have sub:auY (model prog w) s.heap (isInstance (.ref x) (.type "BaseException")) true:=I.type.andThen (au3 X c.mb)
 unfold getAttrBy
 refine wpAny_holding (wpAny_bind (I.type.here (wpAny_bind ((alQ X c.ga).here ?_))))
 dsimp only
 have hx2:(Value.builtin "BaseException.__getattribute__"==Value.builtin "object.__getattribute__")=false:=by decide+kernel
 rw[if_neg (by rw[hx2,amm];exact abX)]
 unfold getAttrByItsOwn hookBefore
 rw[if_pos (show onTheHeap (Value.ref C)=true from rfl)]
 refine wpAny_bind ((alQ X c.gt).here ?_)
 refine wpAny_bind (wpAny_attempt (wpAny_holding ?_))
 unfold callGetattribute
 rw[if_neg (by cases expr<;>exact abX)]
 unfold boundAndCalled
 rw[FB.ga.bind]
 refine wpAny_bind (wpAny_pure (wpAny_call (codeAny_call_builtin FB.ga.plain F.entry_bexc_ga (@W.check_slot (model prog w) _ _ s "BaseException.__getattribute__" "BaseException" "__getattribute__" (.ref x) [.str name tk] [] _ (by decide+kernel) (by decide+kernel) sub (F.args_bexc_ga _ _) ?_))))
 refine wpAny_mono h (λfin s' z=>?_) λ_ _ z=>z.elim
 rcases fin with(_ |_ |_ |_) |_<;>first |exact z |exact z.elim
theorem Eb{a g:Value}(hc:(anc K C).isSome=true)(ha:aat K (.ref C) name=some (some a))(hg:aeJ K a "__get__"=some (some g))(ht:aim K a=some true):avF K C od name=some (.bind g a):=by
 obtain⟨cd,hc⟩:=amw.mp hc
 unfold avF
 rw[hc,Option.bind_some,ha,Option.bind_some]
 simp[hg,ht]
theorem X4{Q:Option Value->Shared->Prop}(X:K.In s.heap)(I:ap7 s.heap x ox C od)(c:Cy K C)(h:Q (some (.ref C)) {s with toks:=s.toks+1}):wpAny (model prog w) A (getAttr? (.ref x) "__class__") Q E s:=by
 have hf:avF K C od "__class__"=some (.bind (.builtin "getset_descriptor.__get__") (.builtin "object.__class__")):=Eb (by obtain⟨cd,hc,_⟩:=W.any_some c.hd;rw[hc];rfl) c.cl c.cg c.ct
 have L1:=W.looks_find (M:=model prog w) X I hf
 unfold getAttr? getAttrBy?
 refine wpAny_bind (wpAny_mkText (wpAny_bind (wpAny_attempt (aup (s:={s with toks:=s.toks+1}) X I c ?_))))
 unfold Builtin.«object.__getattribute__»
 refine wpAny_bind (wpAny_pure ?_)
 dsimp only
 refine wpAny_bind (wpAny_pure (wpAny_bind (W.Looks.here (s:={s with toks:=s.toks+1}) I.type (wpAny_bind (W.Looks.here (s:={s with toks:=s.toks+1}) L1 ?_)))))
 show wpAny _ _ (holding [.builtin "object.__class__"] (call (.builtin "getset_descriptor.__get__") [.builtin "object.__class__",.ref x,.ref C])>>=ret) _ _ _
 refine wpAny_bind (wpAny_holding (wpAny_call (W.class_get (s:={s with toks:=s.toks+1}) X I c.mo (wpAny_pure ?_))))
 exact W.handed_on rfl (wpAny_pure h)
theorem Wb(c:Cy K C):W.KitX K (.ref x) (.ref C) (λh=>∃ox od,ap7 h x ox C od)where
 ty:=λ_ _ _ ⟨_,_,I⟩=>I.type
 it:=λ_ _ X _=>by
  obtain⟨cdD,hcD,_⟩:=W.any_some c.hd
  unfold anc at hcD
  split at hcD
  .rename_i c' d' cd' sl' ho
   intro A' Q' E' s' k q
   unfold isType loadHead
   exact wpAny_bind (wpAny_loadPart (k _ _ (X _ _ ho)) (wpAny_pure q))
  .cases hcD
 ne:=λh tp dd its n sl X htp=>by
  obtain⟨cdD,hcD,_⟩:=W.any_some c.hd
  refine aky.mpr λq=>?_
  have e:C=tp:=Value.ref.inj (beq_iff_eq.mp q)
  subst e
  unfold anc at hcD
  split at hcD
  .rename_i c' d' cd' sl' ho
   have z:=(X _ _ ho).symm.trans htp
   cases z
  .cases hcD
 ca:=λX ⟨_,_,I⟩ k=>X4 X I c k
end
def xw(e C:Addr)(D:Option Addr):HO:=.ext λh=>∃oe vs,h.get? e=some oe/\oe.cls= .ref C/\oe.dict=D/\oe.data= .fields vs
theorem ajJ{P:Program}{w:World}{H:Hp}{h:Heap}{e C:Addr}{D:Option Addr}{oe:Obj}{vs:Array Value}(q:h.get? e=some oe)(hc:oe.cls= .ref C)(hd:oe.dict=D)(hf:oe.data= .fields vs):gH P w H h e (xw e C D):=
 ⟨⟨oe,vs,q,hc,hd,hf⟩,⟨_,q⟩,λh1 h2 ⟨oe,vs,q,r⟩ k=>⟨oe,vs,k _ q,r⟩⟩
section
variable{X:Cx}{σ:St}{H:Hp}{Q:VK}{e C:Addr}{D:Option Addr}{k:Bool}
theorem Inv.inst{pins:List (Addr×Obj)}{s:Shared}(I:Inv X pins σ H s)(he:H e=some (xw e C D))(hd:∀E',D=some E'->∃fs,H E'=some (.xd fs)):∃ox od,ap7 s.heap e ox C od/\∀E' fs,D=some E'->H E'=some (.xd fs)->∃o,od=some o/\∃mA:Str->Option Value,(∀f,Af (fs.lookup f) (mA f))/\∀n,auc n o=some (mA n):=by
 obtain⟨⟨oe,vs,q,hc,hdd,hf⟩,_,_⟩:=I.hok e _ he
 cases D with
 |none=>exact⟨oe,none,⟨q,hc,by unfold awn;rw[hf],by rw[hdd];trivial⟩,λE' fs z=>nomatch z⟩
 |some E'=>
  obtain⟨fs,h1⟩:=hd E' rfl
  obtain⟨mA,hns,hr⟩:=I.hok E' _ h1
  obtain⟨o,ho,hl⟩:=De hns
  refine⟨oe,some o,⟨q,hc,by unfold awn;rw[hf],by rw[hdd];exact ho⟩,λE2 fs2 z z2=>?_⟩
  cases z
  rw[h1]at z2
  cases z2
  exact⟨o,rfl,mA,hr,hl⟩
theorem Z7{c:V}{u:Value}(ca:Cy X.K C)(he:H e=some (xw e C D))(hd:∀E',D=some E'->∃fs,H E'=some (.xd fs))(hu:∀u',RelV c u'->u'=u)(ek:akF X.K (.ref C) u=some k)(q:Q (.bl k) H):CL X (.builtin "isinstance") [.ref e,c] H Q:=by
 refine jN (r:=λxs H Q=>xs=[.ref e,c]/\H e=some (xw e C D)/\(∀E',D=some E'->∃fs,H E'=some (.xd fs))/\Q (.bl k) H) ?_ ⟨rfl,he,hd,q⟩
 intro pins s σ H xs us Q I r h
 obtain⟨rfl,he,hd,q⟩:=h
 obtain⟨u1,u2,rfl,r1,r2⟩:=vals2 r
 cases(show u1=Value.ref e from r1)
 rw[hu u2 r2]
 obtain⟨ox,od,J,_⟩:=I.inst he hd
 exact akh (Wb ca) I.kIn ⟨ox,od,J⟩ ek (λz=>nomatch z) λtk=>⟨.bl k,H,I.tok tk,rfl,q⟩
end
section
variable{X:Cx}{pins:List (Addr×Obj)}{σ:St}{H:Hp}{s:Shared}{h':Heap}
theorem Inv.Yj{n:Str}{i:Nat}{m m':Str->Option Value}{t':Nat}(I:Inv X pins σ H s)(hN:X.N.Nodup)(hi:X.N[i]? =some n)(hσ:σ[i]? =some none)
  (hl:∀(i:Nat) (x:Str) (v:V),X.N[i]? =some x->σ[i]? =some (some v)->Vis X.env.scope x->∃u,RelV v u/\Look X.env s.heap m x u)
  (hn:h'.Ns X.env.locals m') (ag:∀x,x≠n->m' x=m x) (sb:∀b o,b≠X.env.locals->s.heap.get? b=some o->h'.get? b=some o) (hL:∃o,h'.get? X.env.locals=some o):Inv X pins σ H {s with heap:=h',toks:=t'}:=by
 have neL:∀b o,X.s₀.heap.get? b=some o->b≠X.env.locals:=λb o e=>aeB (aey (acK e) I.ok.above)
 have cellK:∀x c,X.env.cells.lookup x=some c->∀v,s.heap.IsCell c v->h'.IsCell c v:=λx c e v ⟨o,ho,hd⟩=>⟨o,sb c o (I.cne x c e) ho,hd⟩
 refine⟨I.ok,I.os,I.bare,⟨λb o e n hb hx=>sb b o (neL b o e) (I.base.keep b o e n hb hx),λb o e n hb hx=>?_,I.base.free,λb o e hx=>?_,I.base.tups,I.base.frzs,I.base.tbls⟩,⟨m',hn,λj x v e1 e2 e3=>?_⟩,λx c e=>?_,I.free,I.freeC,λp hp=>?_,λb u e=>?_,I.len⟩
 .obtain⟨sl,e1⟩:=I.base.slot b o e n hb hx
  exact⟨sl,sb b _ (neL b o e) e1⟩
 .obtain⟨o',e1⟩:=I.base.there b o e hx
  exact⟨o',sb b o' (neL b o e) e1⟩
 .obtain⟨u,r,l⟩:=hl j x v e1 e2 e3
  refine⟨u,r,?_⟩
  have hne:x≠n:=λz=>by
   subst z
   have :=Ai hN e1 hi
   subst this
   rw[hσ]at e2
   cases e2
  rcases l with l |⟨k,c,e,z⟩
  .exact .inl ⟨l.1,by rw[ag x hne];exact l.2⟩
  .exact .inr ⟨k,c,e,cellK x c e _ z⟩
 .obtain⟨v,z⟩:=I.cell x c e
  exact⟨v,cellK x c e v z⟩
 .obtain⟨e,n,ne,nf,d⟩:=I.pin p hp
  exact⟨sb _ _ ne e,n,ne,nf,d⟩
 .refine(I.hok b u e).stay (λc v hc q=>sb c v ?_ q) (λ_ q=>q) λ_ _ q=>q
  rcases hc with z |z
  .rw[z];exact aB e I.free
  .exact aB z I.free
end
section
variable{X:Cx}{D:Ends}{σ:St}{H:Hp}{rest:List ExceptHandler}{suite:List Stmt}{b₀:Stmt}{pos np:Pos}{x n:Str}{c:Value}{C:Addr}{d:Option Addr×Bool}{i:Nat}
abbrev abj(D:Ends)(i:Nat)(e C:Addr)(dd:Option Addr):Ends:=
 {nx:=λσ' H'=>H' e=some (xw e C dd)/\D.nx (σ'.set i none) (lM H' e),rt:=λv H'=>H' e=some (xw e C dd)/\D.rt v (lM H' e),
  bk:=λσ' H'=>H' e=some (xw e C dd)/\D.bk (σ'.set i none) (lM H' e),ct:=λσ' H'=>H' e=some (xw e C dd)/\D.ct (σ'.set i none) (lM H' e)}
theorem ahp(hN:X.N.Nodup)(hi:nameAt X.N n=some i)(hloc:X.env.scope.names.lookup n=some .local)(hg:Gl X x)(hm:X.mg x=some c)(hd:(x==("__debug__":Str))=false)(ex:akp X.K (.ref C) c=some true)
  (h:∀e pn,H e=none->lH (X.kW (.ref e) (λ_ _=>False) pn) (b₀::suite) (abj D i e C d.1) (σ.set i (some (.ref e))) (upd H e (xw e C d.1))):
  EH X (.ExceptHandler (some (.Name x np)) (some n) (b₀::suite) pos::rest) D σ (.ref C) d H:=by
 intro pins s e T I F ch
 have hkind:(X.env.scope.kind== .class||(X.env.scope.kind== .module&&X.env.locals !=X.env.globals))=false:=by rw[I.ok.kind];rfl
 have hil:i<X.N.length:=(aan.mp (ig hi)).1
 obtain⟨ce0,ce⟩:=ch e (by simp)
 refine wpAny_handleBy_cons (Nx I F hg hm hd ex ?_) (by intro q;cases q)
 refine codeAny_handlers_suite_as (I.off F ch λs2 I2 F2=>?_)
 refine sY I2 hN (ig hi) (.inl hloc) (v:=.ref e) rfl (λs3 I3 hb=>?_) (.inr hloc)
 obtain⟨a,sb,ha⟩:=hb
 have hea:e≠a:=by
  rcases ha with z |z
  .rw[z];exact ce.2.1
  .exact λy=>ce.2.2.1 n a z y.symm
 obtain⟨oe,vs,he,hcl,hdx,hdt,_⟩:=F2
 have he3:s3.heap.get? e=some oe:=(sb.2 e hea).trans he
 have I4:=I3.adopt ce0 ce (φ:=λh=>∃oe vs,h.get? e=some oe/\oe.cls= .ref C/\oe.dict=d.1/\oe.data= .fields vs) (ajJ he3 hcl hdx hdt)
 refine wpAny_mono (h e (X.pn++pins) ce0 [] s3 I4.kW) (λf s4 q=>?_) λ_ _ q=>q.elim
 have gone:∀{σ':St} {H':Hp} {Q:Unit->Shared->Prop},Inv X pins σ' H' s4->H' e=some (xw e C d.1)->(∀s5,Inv X pins (σ'.set i none) (lM H' e) s5->Q () s5)->wpAny (model X.prog X.w) X.A (do bindName X.env n .none;unbindBehindTheSuite X.env n pos) Q X.xe s4:=λ{σ' H' Q} J he' k=>by
  have J2:=J.forget he' ce
  have J3:Inv X pins (σ'.set i none) (lM H' e) s4:=J2.weak (by simp) λj v e2=>by
   by_cases z:j=i
   .subst z
    rw[ajw (by rw[J.len];exact hil)]at e2
    cases e2
   .rw[akC (Ne.symm z)]at e2
    exact e2
  obtain⟨m,hn,hl⟩:=id J3.loc
  refine wpAny_nameGoes_keeps (show X.env.kindOf n=some .local from hloc) hn hkind λh' v hn' hsb=>k _ ?_
  refine J3.Yj (m:=m) (m':=λx=>if x=n then v else m x) hN (ig hi) (ajw (by rw[J.len];exact hil)) hl hn' (λx hx=>by rw[if_neg hx]) (λb o hb q=>(hsb.2 b hb).trans q) ?_
  obtain⟨o,_,_,ho,_⟩:=hn'
  exact⟨o,ho⟩
 cases f with
 |next=>
  obtain⟨σ',H',J,q1,q2⟩:=q
  exact gone (Inv.uX I.ok J) q1 λs5 I5=>⟨_,_,I5,q2⟩
 |brk=>
  obtain⟨σ',H',J,q1,q2⟩:=q
  exact gone (Inv.uX I.ok J) q1 λs5 I5=>⟨_,_,I5,q2⟩
 |cont=>
  obtain⟨σ',H',J,q1,q2⟩:=q
  exact gone (Inv.uX I.ok J) q1 λs5 I5=>⟨_,_,I5,q2⟩
 |ret u=>
  obtain⟨v,σ',H',J,r,q1,q2⟩:=q
  exact gone (Inv.uX I.ok J) q1 λs5 I5=>⟨v,_,_,I5,r,q2⟩
end
structure U8(K:acF)(mg:Str->Option Value)(x:Str):Prop extends XBase K mg x where
 ty:ahn K (.ref (ak mg x))=some (.type "type")
 mb:aeL K (ak mg x) (.type "BaseException")=some true
structure XC(K:acF)(mg:Str->Option Value)(Lx x:Str):Prop where
 at_:mg x=some (.ref (ak mg x))
 xc:oA K (ak mg x) (ak mg Lx)=true
 ty:ahn K (.ref (ak mg x))=some (.type "type")
 attr:Cy K (ak mg x)
section
variable{K:acF}{mg:Str->Option Value}{Lx x y:Str}
theorem zO(h:XC K mg Lx x)(v:Value):aeL K (ak mg x) v=some ((Value.ref (ak mg x):: .ref (ak mg Lx)::IK).contains v):=by
 obtain⟨cd,h1,_,h2⟩:=Ua h.xc
 unfold aeL
 rw[h1,Option.bind_some,h2]
 rfl
theorem XC.cls(h:XC K mg Lx x):(anc K (ak mg x)).isSome=true:=by
 obtain⟨cd,h1,_,h2⟩:=Ua h.xc
 rw[h1]
 rfl
theorem U8.cls(h:U8 K mg x):(anc K (ak mg x)).isSome=true:=by
 have :=h.mb
 unfold aeL at this
 cases e:anc K (ak mg x)with
 |none=>rw[e]at this;cases this
 |some cd=>rfl
theorem u9{C:Addr}(t:Value)(h1:(anc K C).isSome=true)(h2:ahn K (.ref C)=some (.type "type")):W.kitCls K t (.ref C)=ao1 K t (.ref C):=by
 show(if((anc K C).isSome&&ahn K (.ref C)==some (.type "type"))=true then ao1 K t (.ref C)else none)=_
 rw[if_pos]
 rw[h1,h2]
 rfl
theorem Gw(h:XC K mg Lx x)(g:XC K mg Lx y)(ne:ak mg x≠ak mg y)(nl:ak mg Lx≠ak mg y):ao1 K (.ref (ak mg x)) (.ref (ak mg y))=some false:=by
 show aeL K (ak mg x) (.ref (ak mg y))=some false
 rw[zO h]
 have e1:(Value.ref (ak mg y)==Value.ref (ak mg x))=false:=beq_eq_false_iff_ne.mpr λz=>ne (Value.ref.inj z).symm
 have e2:(Value.ref (ak mg y)==Value.ref (ak mg Lx))=false:=beq_eq_false_iff_ne.mpr λz=>nl (Value.ref.inj z).symm
 rw[List.contains_cons,e1,List.contains_cons,e2]
 rfl
theorem YW(h:XC K mg Lx x):ao1 K (.ref (ak mg x)) (.ref (ak mg x))=some true:=by
 show aeL K (ak mg x) (.ref (ak mg x))=some true
 rw[zO h,List.contains_cons,beq_self_eq_true]
 rfl
theorem acx(h:XC K mg Lx x):ao1 K (.ref (ak mg x)) (.ref (ak mg Lx))=some true:=by
 show aeL K (ak mg x) (.ref (ak mg Lx))=some true
 rw[zO h,List.contains_cons,List.contains_cons,beq_self_eq_true]
 cases(Value.ref (ak mg Lx)==Value.ref (ak mg x))<;>rfl
theorem Ou(h:XC K mg Lx x)(g:XC K mg Lx y)(ne:ak mg x≠ak mg y)(nl:ak mg Lx≠ak mg y):akF K (.ref (ak mg x)) (.ref (ak mg y))=some false:=by
 unfold akF
 rw[if_neg (by rw[beq_eq_false_iff_ne.mpr λz=>ne (Value.ref.inj z)];exact abX),u9 _ g.cls g.ty]
 exact Gw h g ne nl
theorem V8(h:XC K mg Lx x):akF K (.ref (ak mg x)) (.ref (ak mg x))=some true:=by
 unfold akF
 rw[if_pos (beq_self_eq_true _)]
theorem aa7(h:XC K mg Lx x):akF K (.ref (ak mg x)) (.type "ValueError")=some true:=by
 unfold akF
 rw[if_neg (by rw[beq_eq_false_iff_ne.mpr λz=>by cases z];exact abX)]
 show(if W.kitMeta "ValueError"=true then ao1 K (.ref (ak mg x)) (.type "ValueError")else none)=some true
 rw[if_pos (by decide+kernel)]
 show aeL K (ak mg x) (.type "ValueError")=some true
 rw[zO h]
 rfl
theorem RN(g:XC K mg Lx y)(v:Value):akp K v (.ref (ak mg y))=ao1 K v (.ref (ak mg y)):=by
 unfold akp
 have e:ao1 K (.ref (ak mg y)) (.type "BaseException")=some true:=by
  show aeL K (ak mg y) (.type "BaseException")=some true
  rw[zO g]
  rfl
 rw[e,if_pos (by decide),u9 _ g.cls g.ty]
theorem vJ(h:XC K mg Lx x):akp K (.ref (ak mg x)) (.ref (ak mg x))=some true:=by rw[RN h];exact YW h
theorem iu(h:XC K mg Lx x)(g:XC K mg Lx y)(ne:ak mg x≠ak mg y)(nl:ak mg Lx≠ak mg y):akp K (.ref (ak mg x)) (.ref (ak mg y))=some false:=by rw[RN g];exact Gw h g ne nl
theorem Xv(h:XC K mg Lx x)(b:U8 K mg Lx):akp K (.ref (ak mg x)) (.ref (ak mg Lx))=some true:=by
 unfold akp
 have e:ao1 K (.ref (ak mg Lx)) (.type "BaseException")=some true:=b.mb
 rw[e,if_pos (by decide),u9 _ b.cls b.ty]
 exact acx h
end
theorem Yi{P:Program}{w:World}{K:acF}{mg:Str->Option Value}{base:Heap}{cc:Bool}{k:Nat}{Lx x qual fld:Str}{st:Stmt}{ps N:List Str}(O:acv K mg Lx x qual fld st)(S:aN N ps (aa st))
  (hb:∀(kV doc pm:Value) (an:Option Addr) (cdv ct:Value) (us:List Value),us.length=ps.length->bindArgs (aeI "__init__" qual (aK st) (az st) (aa st) .none kV doc pm an cdv ct) ⟨us,[]⟩=pure (ps.zip us))
  (len:ps.length=2)
  (body:∀(f:Addr) (cdv:Value) (A:Around) (outer:List Env) (s:Shared) (H:Hp) (vs:List V) (Q:VK) (E:XK),yx K (ak mg x) f=true->fB cc k (A.deeper (envOfC qual (aa st) s.heap.objs.size f cdv))->M6 (ak mg x) fld vs H Q E->
   lH (vd cc P w K mg base N qual (aa st) f cdv A outer s H E) (az st) {nx:=λ_ H'=>Q .non H',rt:=Q} (start N vs) H):Xn P w K mg base cc (k+1) x fld:=by
 obtain⟨f,fd,F,h1,h2⟩:=O.ex
 obtain⟨oc,od,kV,doc,pm,an,cdv,ct,osl,e,lk,hcd⟩:=id F.ex
 refine⟨O.at_,f,fd,ps,oc,od,osl,Nm F S (λvs H Q E h=>by obtain⟨a,n,rfl,_⟩:=h;exact len.symm) λcdv A outer s H vs Q E hr h=>body f cdv A outer s H vs Q E h1 hr h,F.binds hb,h1,lk,?_⟩
 have h3:ahn K (.ref f)=some (.type "function"):=beq_iff_eq.mp h2
 have h4:Option.map (λx:Obj=>x.cls) (aiE f K)=some (.type "function"):=h3
 rw[lk]at h4
 exact Option.some.inj h4
section
variable{K:acF}{mg:Str->Option Value}{Lx x qual fld:Str}{C L f:Addr}{st:Stmt}{fd:FuncData}
theorem W6(h:mg x=some (.ref C))(a1:am0 K C (.type "type")=true)(a2:am5 K (.ref C) (.type "type") "__init__"=some (.val (.builtin "ValueError.__init__")))(a3:aeJ K (.ref C) "__getattribute__"=some (some (.builtin "type.__getattribute__")))
  (a4:ahn K (.ref C)=some (.type "type")) (a5:aeL K C (.type "BaseException")=some true):U8 K mg x:=by
 have e:=aD h
 exact {at_:=by rw[e];exact h,reads:=by rw[e];exact a1,ini:=by rw[e];exact a2,ga:=by rw[e];exact a3,ty:=by rw[e];exact a4,mb:=by rw[e];exact a5}
theorem m6(h:mg x=some (.ref C))(hL:mg Lx=some (.ref L))(a1:oA K C L=true)(a2:ahn K (.ref C)=some (.type "type"))(a3:aeD K C=true)(a4:aat K (.ref C) "__getattribute__"=some (some (.builtin "BaseException.__getattribute__")))
  (a5:aat K (.ref C) "__getattr__"=some none) (a6:aat K (.ref C) "__class__"=some (some (.builtin "object.__class__"))) (a7:aeJ K (.builtin "object.__class__") "__get__"=some (some (.builtin "getset_descriptor.__get__"))) (a8:aim K (.builtin "object.__class__")=some true)
  (a9:aeL K C (.type "object")=some true) (a10:aeL K C (.type "BaseException")=some true):XC K mg Lx x:=by
 have e:=aD h
 have eL:=aD hL
 exact⟨by rw[e];exact h,by rw[e,eL];exact a1,by rw[e];exact a2,by rw[e];exact⟨a3,a4,a5,a6,a7,a8,a9,a10⟩⟩
theorem YX(h:mg x=some (.ref C))(hL:mg Lx=some (.ref L))(F:iW K "__init__" qual st f fd)(a1:yx K C f=true)(a2:akg K (.ref f)=true)(a3:aat K (.ref C) "__setattr__"=some (some (.builtin "object.__setattr__")))
  (a4:akG K C fld=some none) (a5:oA K C L=true):acv K mg Lx x qual fld st:=by
 have e:=aD h
 have eL:=aD hL
 exact⟨by rw[e];exact h,⟨f,fd,F,by rw[e];exact a1,a2⟩,by rw[e];exact a3,by rw[e];exact a4,by rw[e,eL];exact a5⟩
end
theorem ahJ{X:Cx}{σ:St}{H:Hp}{Q:VK}{pos:Pos}(hg:Gl X "ValueError")(hm:X.mg "ValueError"=none)(q:Q (.ty "ValueError") H):EV X (.Name "ValueError" pos) σ H Q:=ZG hg hm (by decide+kernel) q (by decide) (by decide)
section
variable{prog:Program}{w:World}{A:Around}{E:Value->Shared->Prop}{s:Shared}
end
section
variable{prog:Program}{w:World}{A:Around}{E:Value->Shared->Prop}{s:Shared}
end
theorem vals3{x y z:V}{us:List Value}(r:Vals [x,y,z] us):∃u v w,us=[u,v,w]/\RelV x u/\RelV y v/\RelV z w:=by
 cases r with
 |cons a r=>
  cases r with
  |cons b r=>
   cases r with
   |cons c r=>
    cases r
    exact⟨_,_,_,rfl,a,b,c⟩
section
variable{X:Cx}{σ:St}{H:Hp}{a b c:Expr}{elts:List Expr}{k:Nat}{tp p pos p':Pos}{R:It->Hp->Prop}{D:Ends}
end
theorem qQ:∀{us:List Value} {ys:List Str} {m:Nat} {u:Value},StrsAre us ys->us[m]? =some u->∃y t,ys[m]? =some y/\u= .str y t
 |_,_,_,_,.nil,e=>by simp at e
 |_,_,0,u,.cons y t h,e=>by
  simp at e
  exact⟨y,t,rfl,e.symm⟩
 |_,_,m+1,u,.cons y t h,e=>by
  obtain⟨y',t',e1,e2⟩:=qQ h (by simpa using e)
  exact⟨y',t',by simpa using e1,e2⟩
section
variable{X:Cx}{H:Hp}{Q:VK}
theorem U5{a:Addr}{zs:List Str}{z:Str}{j:Nat}(h:aX X.K H a (zs.map V.str))(hj:zs[j]? =some z)(hno:∀m y,m<j->zs[m]? =some y->¬y=z)(g:Q (.int j) H):MT X "list.index" (.ref a) [.str z] H Q:=by
 refine j9 (r:=λx xs H Q=>∃a zs z j,x= .ref a/\xs=[.str z]/\aX X.K H a (zs.map V.str)/\zs[j]? =some z/\(∀m y,m<j->zs[m]? =some y->¬y=z)/\Q (.int (j:Nat)) H) ?_ ⟨a,zs,z,j,rfl,rfl,h,hj,hno,g⟩
 intro pins s σ H x xs v us Q I rx rs h
 obtain⟨a,zs,z,j,rfl,rfl,h,hj,hno,g⟩:=h
 cases rx
 obtain⟨u,rfl,ru⟩:=vals1 rs
 obtain⟨t,rfl⟩:=ru
 obtain⟨its,r,⟨⟨cls,dd,data,sl⟩,n,e,hc,hd,hs⟩,hz⟩:=I.list h
 simp only at hc hd hs
 subst hc hd hs
 have hS:=Ac r
 have hlen:its.length=zs.length:=by have :=r.length;rw[aar]at this;exact this.symm
 have hjl:j<its.toArray.size:=by
  rw[abY,hlen]
  exact(aan.mp hj).1
 rw[aar]at hz
 have hsz:=sizeLine_eq
 have hjz:j<zs.length:=(aan.mp hj).1
 refine call_meets F.slot_list_index ⟨_,e,rfl⟩ F.entry_list_index (F.args_list_index_2 _ _) (SeqAt.list_indexAt a its.toArray n _ sl (.str z t) (isStrOf z) j hjl (by omega) ?_ ?_) ⟨e,λy hy=>(eq_isStrOf z t hS y (by simpa using hy)).at _ _,?_⟩
 .obtain⟨y,t',e1,e2⟩:=qQ (m:=j) (u:=its.toArray[j]) hS (by simp)
  rw[e2]
  rw[hj]at e1
  cases e1
  show(z==z)=true
  exact beq_self_eq_true z
 .intro m hm hmj
  obtain⟨y,t',e1,e2⟩:=qQ (m:=m) (u:=its.toArray[m]) hS (by simp)
  rw[e2]
  show(y==z)=false
  exact beq_eq_false_iff_ne.mpr (hno m y hmj e1)
 .exact⟨.int j,H,I.tok _,⟨_,rfl⟩,g⟩
end
structure acw(P:Program)(w:World)(K:acF)(mg:Str->Option Value)(base:Heap)(cc:Bool)(k:Nat)(C:Addr)(m:Str)(ps:List Str)(sp:Sp):Prop where
 cls:sZ K C
 ex:∃f fd,Meth K C m f/\Binds K fd ps []/\xU P w K mg base (CK P w) cc k f fd ps sp
structure zG(P:Program)(w:World)(K:acF)(mg:Str->Option Value)(base:Heap)(cc:Bool)(k:Nat)(x:Str)(C:Addr)(ps:List Str)(sp:Sp):Prop where
 at_:mg x=some (.ref C)
 ex:∃f fd,Mk K C f/\Binds K fd ps []/\xU P w K mg base (CK P w) cc k f fd ps sp
structure Ri(P:Program)(w:World)(K:acF)(mg:Str->Option Value)(base:Heap)(cc:Bool)(k:Nat)(x m:Str)(ps:List Str)(sp:Sp):Prop where
 ex:∃C f fd,mg x=some (.ref C)/\am0 K C (.type "type")=true/\am5 K (.ref C) (.type "type") m=some (.val (.ref f))/\
  aeJ K (.ref C) "__getattribute__"=some (some (.builtin "type.__getattribute__"))/\ab8 K (.ref f)=true/\Binds K fd ps []/\xU P w K mg base (CK P w) cc k f fd ps sp
section
variable{X:Cx}{σ:St}{H:Hp}{Q:VK}{D:Ends}{x f m:Str}{p np apos pos pos' tpos:Pos}{a e o value:Expr}{es:List Expr}{Kx:St->XK}{cc:Bool}{k':Nat}
theorem ab1(hb:attributeBase e f X.env (eval e X.env)=eval e X.env)(h:EV X e σ H λx H1=>∃a C dx fs v,x= .ref a/\H1 a=some (.ins C dx fs)/\sZ X.K C/\bh X.K C f/\fs.lookup f=some v/\Q v H1):EV X (.Attribute e f pos) σ H Q:=
 gW (adf bJ hb) h
theorem o6(hs:swapsWith value (some (.Attribute o f pos')) pos.line X.env=pure false)
  (h:EV X value σ H λy H1=>EV X o σ H1 λx H2=>∃a C dx fs,x= .ref a/\H2 a=some (.ins C dx fs)/\sZ X.K C/\bh X.K C f/\fs.length<1000/\D.nx σ (upd H2 a (.ins C dx (iG f y fs)))):SX X (.Assign [.Attribute o f pos'] value pos) D σ H:=
 λpins s I=>abQ bJ bJ hs pins s σ H D I h
theorem HH{pl:Sem Bool}(hr:fB cc k' X.A)(hx:ye X Kx)
  (ht:eval (.Call (.Attribute o m apos) [] [] pos) X.env=(do
   let ov<-eval o X.env
   standAt apos.atName
   let(f,first)<-holding [ov] (getMethod ov m pl)
   callWith pos f first (backTo pos (starEach [] X.env)) (backToKw pos (keywordEach [] X.env))))
  (h:EV X o σ H λx H1=>∃a C dx fs DN k ps sp,x= .ref a/\H1 a=some (.ins C dx fs)/\fs.lookup m=none/\acw X.prog X.w X.K X.mg X.base DN k C m ps sp/\k≤k'/\(DN=true->cc=true)/\sp [x] H1 Q (Kx σ)):
  EV X (.Call (.Attribute o m apos) [] [] pos) σ H Q:=by
 intro pins s I
 refine ao0 (pl:=pl) (cZ (h pins s I) λu s1 ⟨x,H1,I1,rx,a,C,dx,fs,DN,k,ps,sp,ex,ea,hl,M,hk,hcc,q⟩=>?_) ht
 subst ex
 cases(show u=Value.ref a from rx)
 obtain⟨f,fd,hm,hb,F⟩:=M.ex
 refine J8 I1 ea M.cls hm hl ?_
 exact W.callWith_K0 (first:=[.ref a]) I1.kIn hm.kp (Ft (us:=[.ref a]) (vs:=[.ref a]) F ((hr.mono hk).Be hcc) hb hx I1 (.cons rfl .nil) q)
theorem vX{pl:Sem Bool}{DN:Bool}{k:Nat}{ps:List Str}{sp:Sp}(B:Ri X.prog X.w X.K X.mg X.base DN k x m ps sp)(hr:fB cc k' X.A)(hk:k≤k')(hcc:DN=true->cc=true)(hx:ye X Kx)(hg:Gl X x)(hd:(x==("__debug__":Str))=false)
  (hst:starEach (e::es) X.env=(false,eval e X.env)::starEach es X.env) (hpl:(backTo pos (starEach es X.env)).any (·.1)=false)
  (ht:eval (.Call (.Attribute (.Name x np) m apos) (e::es) [] pos) X.env=(do
   let ov<-eval (.Name x np) X.env
   standAt apos.atName
   let(f,first)<-holding [ov] (getMethod ov m pl)
   callWith pos f first (backTo pos (starEach (e::es) X.env)) (backToKw pos (keywordEach [] X.env))))
  (h:EA X (e::es) σ H λvs H1=>sp vs H1 Q (Kx σ)):EV X (.Call (.Attribute (.Name x np) m apos) (e::es) [] pos) σ H Q:=by
 obtain⟨C,f,fd,hm,hrd,hf,hga,hkp,hb,F⟩:=B.ex
 intro pins s I
 refine ao0 (pl:=pl) (iz I hg hm ?_ hd) ht
 refine W.method_cls I.kIn hga (W.cls_value I.kIn hrd hf (by rfl) ?_)
 have I1:=I.tok (s.toks+1)
 refine atg (first:=[]) (h₀:=X.base) I.ok.mod.kin hkp (cZ (h pos pins _ I1) λus s2 ⟨vs,H2,I2,r,q2⟩=>⟨I2.kIn,?_⟩) hst hpl
 exact Ft F ((hr.mono hk).Be hcc) hb hx I2 r q2
theorem Q5{cc:Bool}{k:Nat}{C g:Addr}{fd:FuncData}{ps:List Str}{sp:Sp}{pins:List (Addr×Obj)}{s:Shared}{us:List Value}{vs:List V}(M:Mk X.K C g)(F:xU X.prog X.w X.K X.mg X.base (CK X.prog X.w) cc k g fd ps sp)(hr:fB cc (k+1) X.A)(hb:Binds X.K fd ps [])(hx:ye X Kx)
  (I:Inv X pins σ H s) (r:Vals vs us)
  (h:∀y dx,H y=none->H dx=none->dx≠y->sp (.ref y::vs) (upd (upd H dx (.own y)) y (.ins C dx [])) (λv H2=>v= .non/\Q (.ref y) H2) (Kx σ)):
  wpAny (model X.prog X.w) X.A (call (.ref C) us) (EP X pins σ Q) X.xe s:=by
 have hy:H (s.heap.objs.size+1)=none:=I.hok.fresh (akk _)
 have hdx:H s.heap.objs.size=none:=I.hok.fresh (aaO _)
 have q:=h _ _ hy hdx (aeB (atU _))
 have I2:=Inv.made (C:=C) I
 have rr:Vals (V.ref (s.heap.objs.size+1)::vs) (Value.ref (s.heap.objs.size+1)::us):=.cons rfl r
 have hl:(Value.ref (s.heap.objs.size+1)::us).length=ps.length:=by rw[<-rr.length];exact F.len _ _ _ _ q
 have hb':=hb {s with heap:=(s.heap.push aj3).push (akB C s.heap.objs.size)} (Value.ref (s.heap.objs.size+1)::us) I2.kIn (by simpa using hl)
 rw[List.append_nil]at hb'
 refine wpAny_call (Wi (f:=g) I.kIn M.makes M.init (beq_iff_eq.mp M.fn) (codeAny_mono (F.run _ X.stack _ _ ⟨Value.ref (s.heap.objs.size+1)::us,[]⟩ _ _ _ (Kx σ) (hr.make C us []) (I2.env0.make C us []) hb' rr q) λres s' hq=>?_))
 match res,hq with
 | .error z,hq=>
   obtain⟨b,cls,d,H',rfl,xa,w⟩:=I2.flown hq
   exact hx pins σ H' s' b cls d xa w
 | .ok (.ret u),hq=>
   obtain⟨v,H',I3,rv,ev,q3⟩:=I2.after hq
   subst ev
   exact⟨rv,⟨V.ref (s.heap.objs.size+1),H',I3,rfl,q3⟩⟩
 | .ok .next,hq=>exact False.elim hq
 | .ok .brk,hq=>exact False.elim hq
 | .ok .cont,hq=>exact False.elim hq
theorem kO{DN:Bool}{k:Nat}{C:Addr}{ps:List Str}{sp:Sp}(M:zG X.prog X.w X.K X.mg X.base DN k x C ps sp)(hr:fB cc k' X.A)(hk:k+1≤k')(hcc:DN=true->cc=true)(hx:ye X Kx)(hg:Gl X x)(hd:(x==("__debug__":Str))=false)
  (hst:starEach (e::es) X.env=(false,eval e X.env)::starEach es X.env) (hpl:(backTo pos (starEach es X.env)).any (·.1)=false)
  (h:EA X (e::es) σ H λvs H1=>∀y dx,H1 y=none->H1 dx=none->dx≠y->sp (.ref y::vs) (upd (upd H1 dx (.own y)) y (.ins C dx [])) (λv H2=>v= .non/\Q (.ref y) H2) (Kx σ)):
  EV X (.Call (.Name x p) (e::es) [] pos) σ H Q:=by
 obtain⟨f,fd,hm,hb,F⟩:=M.ex
 intro pins s I
 refine wpAny_Call_Name_kw (iz I hg M.at_ ?_ hd)
 refine atg (h₀:=X.base) I.ok.mod.kin hm.kp (cZ (h pos pins s I) λus s1 ⟨vs,H1,I1,r,q⟩=>⟨I1.kIn,?_⟩) hst hpl
 exact Q5 hm F ((hr.mono hk).Be hcc) hb hx I1 r q
end
structure OM(K:acF)(C:Addr)(m qual:Str)(st:Stmt):Prop where
 ex:∃f fd,iW K m qual st f fd/\Meth K C m f
structure OI(K:acF)(C:Addr)(qual:Str)(st:Stmt):Prop where
 ex:∃f fd,iW K "__init__" qual st f fd/\Mk K C f
structure OB(K:acF)(C:Addr)(m qual:Str)(st:Stmt):Prop where
 rd:am0 K C (.type "type")=true
 ga:aeJ K (.ref C) "__getattribute__"=some (some (.builtin "type.__getattribute__"))
 ex:∃f fd,iW K m qual st f fd/\am5 K (.ref C) (.type "type") m=some (.val (.ref f))
def FD(P:Program)(w:World)(K:acF)(mg:Str->Option Value)(base:Heap)(cc:Bool)(k:Nat)(m qual:Str)(st:Stmt)(ps:List Str)(sp:Sp):Prop:=
 ∀f fd,iW K m qual st f fd->Binds K fd ps []/\xU P w K mg base (CK P w) cc k f fd ps sp
section
variable{P:Program}{w:World}{K:acF}{mg:Str->Option Value}{base:Heap}{cc:Bool}{k:Nat}{x m qual:Str}{C:Addr}{st:Stmt}{ps N:List Str}{sp:Sp}
theorem Dh(S:aN N ps (aa st))
  (hb:∀(kV doc pm:Value) (an:Option Addr) (cdv ct:Value) (us:List Value),us.length=ps.length->bindArgs (aeI m qual (aK st) (az st) (aa st) .none kV doc pm an cdv ct) ⟨us,[]⟩=pure (ps.zip us))
  (len:∀vs H Q E,sp vs H Q E->vs.length=ps.length)
  (body:∀(f:Addr) (cdv:Value) (A:Around) (outer:List Env) (s:Shared) (H:Hp) (vs:List V) (Q:VK) (E:XK),fB cc k (A.deeper (envOfC qual (aa st) s.heap.objs.size f cdv))->sp vs H Q E->
   lH (vd cc P w K mg base N qual (aa st) f cdv A outer s H E) (az st) {nx:=λ_ H'=>Q .non H',rt:=Q} (start N vs) H):FD P w K mg base cc (k+1) m qual st ps sp:=
 λf fd F=>⟨F.binds hb,Nm F S len λcdv A outer s H vs Q E hr h=>body f cdv A outer s H vs Q E hr h⟩
theorem FD.meth(F:FD P w K mg base cc k m qual st ps sp)(c:sZ K C)(O:OM K C m qual st):acw P w K mg base cc k C m ps sp:=by
 obtain⟨f,fd,h1,h2⟩:=O.ex
 exact⟨c,f,fd,h2,F f fd h1⟩
theorem FD.make(F:FD P w K mg base cc k "__init__" qual st ps sp)(hm:mg x=some (.ref C))(O:OI K C qual st):zG P w K mg base cc k x C ps sp:=by
 obtain⟨f,fd,h1,h2⟩:=O.ex
 exact⟨hm,f,fd,h2,F f fd h1⟩
theorem FD.asked(F:FD P w K mg base cc k m qual st ps sp)(hm:mg x=some (.ref C))(O:OB K C m qual st):Ri P w K mg base cc k x m ps sp:=by
 obtain⟨f,fd,h1,h2⟩:=O.ex
 obtain⟨h3,h4⟩:=F f fd h1
 exact⟨C,f,fd,hm,O.rd,h2,O.ga,h1.kp,h3,h4⟩
theorem dM{f:Addr}{fd:FuncData}(h:mg x=some (.ref C))(F:iW K m qual st f fd)(a:aat K (.ref C) m=some (some (.ref f)))(b:akg K (.ref f)=true):OM K (ak mg x) m qual st:=by
 rw[aD h]
 exact⟨f,fd,F,a,b,F.kp⟩
theorem p7{f:Addr}{fd:FuncData}(h:mg x=some (.ref C))(F:iW K "__init__" qual st f fd)(a:aat K (.ref C) "__init__"=some (some (.ref f)))(b:akg K (.ref f)=true)(c:ajF K C=true)(d:ab8 K (.ref C)=true):OI K (ak mg x) qual st:=by
 rw[aD h]
 exact⟨f,fd,F,c,a,b,d⟩
theorem afs{f:Addr}{fd:FuncData}(h:mg x=some (.ref C))(F:iW K m qual st f fd)(a:am5 K (.ref C) (.type "type") m=some (.val (.ref f)))(b:am0 K C (.type "type")=true)(c:aeJ K (.ref C) "__getattribute__"=some (some (.builtin "type.__getattribute__"))):OB K (ak mg x) m qual st:=by
 rw[aD h]
 exact⟨b,c,f,fd,F,a⟩
theorem j4(h:mg x=some (.ref C))(a:ahc K C Str.empty=true)(b:aeD K C=true)(c:agD K C=true)(d:aat K (.ref C) "__setattr__"=some (some (.builtin "object.__setattr__"))):sZ K (ak mg x):=by
 rw[aD h]
 exact⟨a,b,c,d⟩
end
theorem eQ{X:Cx}{σ:St}{H:Hp}{D:Ends}{elts:List Expr}{k:Nat}{tp pos:Pos}{value:Expr}(hs:swapsWithSole [.Tuple elts k tp] value pos.line X.env=pure false)(hw:swappedStores [.Tuple elts k tp] value X.env=pure none)
  (h:EV X value σ H λv H1=>EG X (.Tuple elts k tp) v σ H1 λσ' H'=>D.nx σ' H'):SX X (.Assign [.Tuple elts k tp] value pos) D σ H:=by
 intro pins s I
 refine Assign_Tuple (cZ (h pins s I) λu s1 ⟨v,H1,I1,r1,q1⟩=>?_) hs hw
 exact cZ (q1 pins s1 u I1 r1) λ_ s2 ⟨σ',H',I2,q2⟩=>⟨σ',H',I2,q2⟩
section
variable{X:Cx}{σ:St}{H:Hp}{Q:VK}{D:Ends}{pos tpos:Pos}{o i value:Expr}
theorem pF(hs:swapsWithSole [.Subscript o i tpos] value pos.line X.env=pure false)(hw:swappedStores [.Subscript o i tpos] value X.env=pure none)(h1:(assignEach [.Subscript o i tpos] X.env).map (·.2)=[assign (.Subscript o i tpos) X.env])
  (ha:∀v,assign (.Subscript o i tpos) X.env v=(do
   let ov<-holding [v] (eval o X.env)
   let iv<-holding [v,ov] (eval i X.env)
   standAt tpos
   holding [v,ov,iv] (setItem ov iv v)
   release [v,ov,iv] []))
  (h:EV X value σ H λv H1=>EV X o σ H1 λov H2=>EV X i σ H2 λiv H3=>∃p xs k j,ov= .ref p/\iv= .int k/\H3 p=some (.lst xs)/\Wx xs.length k=some j/\D.nx σ (upd H3 p (.lst (xs.set j v)))):SX X (.Assign [.Subscript o i tpos] value pos) D σ H:=
 λpins s I=>aaT (X:=X) bJ (aaL bJ bJ set_list ha) hs hw h1 pins s σ H D I h
end
theorem LK{n j:Nat}(h:j<n):Wx n (j:Int)=some j:=by
 unfold Wx
 rw[if_pos (Int.natCast_nonneg j),if_pos (by omega),amM]
section
variable{prog:Program}{w:World}{A:Around}{E:Value->Shared->Prop}{s:Shared}
end
section
variable{X:Cx}{H:Hp}{Q:VK}{D:Ends}{σ σ':St}{e a b c elt tg:Expr}{scope:Scope}{pos spos py p p':Pos}{x y:Str}{j:Nat}
end
section
variable{X:Cx}{σ:St}{H:Hp}{Q:VK}{D:Ends}{pos pos' tpos apos cpos:Pos}{o i e f value:Expr}{y v:V}{a:Addr}{r:Option V}
end
end L2
namespace My
open PySem
abbrev SGs:Str:=Str.ofString "-0123456789abcdefghijklmnopqrstuvwxyz"
abbrev TSs:Str:=Str.ofString "abcdefghijklmnopqrstuvwxyz0123456789-"
def SG:List Nat:=SGs.cps.toList
def TS:List Nat:=TSs.cps.toList
theorem ajD:∀c∈SG,c∈TS:=by decide+kernel
def tb:List Nat->List Nat->Bool
 |[],[]=>false
 |[],_::_=>true
 |_::_,[]=>false
 |x::xs,y::ys=>if x=y then tb xs ys else decide (SG.idxOf x<SG.idxOf y)
end My
namespace L2
open PySem PySem.Spec PyProof.Rows
theorem FJ{α:Type}{xs:List α}{f:α->V}{i:Int}(d:α)(h0:0≤i)(h1:i<xs.length):lR (xs.map f) i=some (f (xs.getD i.toNat d)):=by
 have e:i=((i.toNat:Nat):Int):=by omega
 have hl:i.toNat<xs.length:=by omega
 have h2:(xs.map f)[i.toNat]? =some (f (xs.getD i.toNat d)):=by
  rw[aby,aak hl]
  simp[hl]
 have :=bz h2
 rw[<-e]at this
 exact this
theorem zB{α:Type}{xs:List α}{i:Int}(h0:0≤i)(h1:i<xs.length):∃v,lR xs i=some v/\v∈xs:=by
 have hl:i.toNat<xs.length:=by omega
 have e:i=((i.toNat:Nat):Int):=by omega
 have :=bz (aak hl)
 rw[<-e]at this
 exact⟨_,this,aeF hl⟩
theorem Bf:∀l:List Nat,((l.map λc=>(⟨#[c]⟩:Str)).map (·.length)).sum=l.length
 |[]=>rfl
 |c::r=>by
  rw[List.map_cons,List.map_cons,List.sum_cons,Bf r,List.length_cons]
  show 1+r.length=_
  omega
theorem uZ:∀l:List Nat,Str.join ("":Str) (l.map λc=>⟨#[c]⟩)=⟨l.toArray⟩
 |[]=>rfl
 |[c]=>rfl
 |c::d::r=>by
  have ih:=uZ (d::r)
  show(⟨#[c]⟩:Str)++Str.ofString ""++Str.join ("":Str) ((d::r).map λc=>⟨#[c]⟩)=_
  rw[ih]
  have e0:("":Str)=⟨#[]⟩:=by decide+kernel
  rw[e0]
  show(⟨(#[c]++ #[])++(d::r).toArray⟩:Str)=⟨(c::d::r).toArray⟩
  simp
theorem bB{x y:Str}(h:x.cps.toList=y.cps.toList):x=y:=by
 obtain⟨⟨a⟩⟩:=x
 obtain⟨⟨b⟩⟩:=y
 simp only at h
 rw[h]
theorem aA(x y:Str):(x++y).cps.toList=x.cps.toList++y.cps.toList:=by
 show(x.cps++y.cps).toList=_
 simp
theorem len_list(z:Str):z.length=z.cps.toList.length:=by simp[Str.length]
theorem len_app(x y:Str):(x++y).length=x.length+y.length:=by rw[len_list,aA,ace,len_list,len_list]
theorem ju(z:Str)(lo hi:Option Int):(bO z lo hi).length≤z.length:=by
 unfold bO Str.length
 simp
 omega
theorem sI(z:Str)(lo hi:Option Int):(bO z lo hi).cps.toList=(z.cps.toList.drop (HT.lG z.length 0 lo)).take (HT.lG z.length z.length hi-HT.lG z.length 0 lo):=by
 unfold bO
 simp
theorem U7{z:Str}{lo hi:Option Int}{c:Nat}(h:c∈(bO z lo hi).cps.toList):c∈z.cps.toList:=by
 rw[sI]at h
 exact ahg (afx h)
theorem lJ(z:Str)(k:Nat):(bO z (some (k:Int)) none).cps.toList=z.cps.toList.drop k:=by
 rw[sI,HT.zA,HT.Bl]
 have hl:=len_list z
 by_cases h:k≤z.length
 .rw[akt h,afM (by rw[afr];omega)]
 .have h':z.length≤k:=by omega
  rw[anx h',aod (by omega),aod (by omega)]
  simp
theorem mZ(z:Str)(k:Nat):(bO z none (some (k:Int))).cps.toList=z.cps.toList.take k:=by
 rw[sI,HT.zA,HT.Bl,aj6,alj]
 have hl:=len_list z
 by_cases h:k≤z.length
 .rw[akt h]
 .have h':z.length≤k:=by omega
  rw[anx h',afM (by omega),afM (by omega)]
theorem Ab(z:Str)(c:Nat):Txt.startswith z ⟨#[c]⟩=decide (z.cps.toList[0]? =some c):=by
 rw[ail,decide_eq_true_eq, <-StrLaws.subAt_one]
 unfold Txt.startswith
 rw[aaP,decide_eq_true_eq]
end L2
namespace Vl
open PySem L2 PyProof.Rows My NumText
def scalar:V->Bool
 | .non | .int _ | .str _=>true
 |_=>false
def jo(z g:Str):Bool:=z.cps.toList.all λc=>decide (c∈g.cps.toList)
def yC:V->Bool
 | .str z=>decide (z.length≤20)&&jo z TSs
 |_=>false
def short:V->Prop
 | .str z=>z.length≤4000
 |_=>True
def acA:Sp:=λvs H Q _=>∃z g:Str,vs=[.str z,.str g]/\z.length≤4000/\∀H',au H H'->Q (.bl (jo z g)) H'
def ahm:Sp:=λvs H Q _=>∃v,vs=[v]/\scalar v=true/\short v/\∀H',au H H'->Q (.bl (yC v)) H'
def vo(c:Nat):Bool:=decide (48≤c/\c≤57)
abbrev FGs:Str:=Str.ofString "0123456789"
theorem abF:∀c:Nat,c∈FGs.cps.toList↔(48≤c/\c≤57):=by
 intro c
 have e:FGs.cps.toList=[48,49,50,51,52,53,54,55,56,57]:=by decide+kernel
 rw[e]
 simp only[List.mem_cons,List.not_mem_nil,or_false]
 omega
theorem Rt(z:Str):jo z FGs=z.cps.toList.all vo:=by
 unfold jo vo
 congr 1
 funext c
 rw[decide_eq_decide]
 exact abF c
def dY(l:List Nat):Bool:=decide (l=[48])||(decide (l≠[])&&(decide (l[0]? ≠some 48)&&l.all vo))
def Pg(l:List Nat):Bool:=if l[0]? =some 45 then decide (l.drop 1≠[48])&&dY (l.drop 1)else dY l
def pD(l:List Nat):Int:=if l[0]? =some 45 then -((digitsVal (l.drop 1):Nat):Int)else((digitsVal l:Nat):Int)
theorem tM{l:List Nat}(h:dY l=true):AllDigits l/\l≠[]:=by
 unfold dY at h
 rw[akH,aaP,aaP,decide_eq_true_eq,decide_eq_true_eq]at h
 rcases h with h |⟨h1,_,h2⟩
 .subst h
  exact⟨λc hc=>by simp at hc;omega,by simp⟩
 .exact⟨λc hc=>of_decide_eq_true (adt.mp h2 c hc),h1⟩
def jx(l:List Nat):Option Int:=if Pg l=true/\l.length≤20/\ -1000000000000000000≤pD l/\pD l≤1000000000000000000 then some (pD l)else none
def kh(z:Str):Option Str:=if z.cps.toList[0]? =some 39/\yC (.str (bO z (some 1) none))=true then some (bO z (some 1) none)else none
def Xc:Option Int->Option V
 |some i=>some (.int i)
 |none=>none
def abx:Option Str->Option V
 |some i=>some (.str i)
 |none=>none
def gB(kind word:Str):Option V:=if word="?" then some .non else if kind="number" then Xc (jx word.cps.toList)else abx (kh word)
def wordOf:V->Str
 | .non=>"?"
 | .str z=>Str.ofString "'"++z
 | .int i=>Str.ofString (toString i)
 |_=>""
def ajA:Sp:=λvs H Q _=>∃z,vs=[.str z]/\z.length≤4000/\∀H',au H H'->Q (.bl (dY z.cps.toList)) H'
def xf(c:Value)(r:Option V)(H:Hp)(Q:VK)(E:XK):Prop:=∀H',au H H'->match r with
 |some v=>Q v H'
 |none=>E c (none,true) H'
def Zw(c:Value):Sp:=λvs H Q E=>∃z,vs=[.str z]/\z.length≤4000/\xf c (Xc (jx z.cps.toList)) H Q E
def Zg(c:Value):Sp:=λvs H Q E=>∃z,vs=[.str z]/\z.length≤4000/\xf c (abx (kh z)) H Q E
def XF(c:Value):Sp:=λvs H Q E=>∃k z,vs=[.str k,.str z]/\z.length≤4000/\xf c (gB k z) H Q E
def dV:V->PyData
 | .bl b=>.bool b
 | .int i=>.int i
 | .str x=>.str x
 |_=>.none
theorem jZ{i:Int}(h:i.natAbs<10^60):i.natAbs.log2<1920:=by
 by_cases h0:i.natAbs=0
 .rw[h0];decide
 .rw[Nat.log2_lt h0]
  refine aey h ?_
  decide+kernel
theorem iJ(m:Nat):(Str.ofString (toString ((m:Nat):Int))).cps.toList=(avU 10 m).map Char.toNat:=PySem.W.KIN.signs_num m
theorem d7(m:Nat):∀c∈(Str.ofString (toString ((m:Nat):Int))).cps.toList,48≤c/\c≤57:=by
 rw[iJ]
 intro c hc
 obtain⟨d,hd,rfl⟩:=adg.mp hc
 have :=Nat.isDigit_of_mem_toDigits (b:=10) (n:=m) (by decide) (by decide) hd
 simp only[Char.isDigit,aaP,decide_eq_true_eq]at this
 have h1:(48:UInt32).toNat≤d.val.toNat:=this.1
 have h2:d.val.toNat≤(57:UInt32).toNat:=this.2
 exact⟨h1,h2⟩
theorem nA{m k:Nat}(hk:1≤k)(h:m<10^k):(Str.ofString (toString ((m:Nat):Int))).length≤k:=by
 rw[L2.len_list,iJ,aar]
 exact PyProof.Rows.digits10_le hk h
theorem wA(m:Nat)(h:0<m):Str.ofString (toString (-((m:Nat):Int)))=Str.ofString "-"++Str.ofString (toString ((m:Nat):Int)):=by
 obtain⟨k,rfl⟩:∃k,m=k+1:=⟨m-1,by omega⟩
 have e:(-((k+1:Nat):Int))=Int.negSucc k:=rfl
 rw[e]
 apply bB
 rw[aA]
 rw[PyProof.Rows.signs_ofString,PyProof.Rows.signs_ofString,PyProof.Rows.signs_ofString]
 show(("-"++Nat.repr (k+1)).toList.map Char.toNat)="-".toList.map Char.toNat++(Nat.repr (k+1)).toList.map Char.toNat
 rw[String.toList_append,agi]
end Vl
namespace Lw
open PySem L2 PyProof.Rows My NumText
def N8(ns:List Int)(k:Int):Int:=if 0<ns.length then ns.getD (k % (ns.length:Int)).toNat 0 else 0
def cj(ns:List Int)(k m:Int):Int:=(N8 ns k % 1000003+31*k*k+1)*48271 % 999983*7919 % 524287 % m
theorem aV(ns:List Int)(k:Int){m:Int}(h:0<m):0≤cj ns k m:=ait _ (by omega)
theorem aU(ns:List Int)(k:Int){m:Int}(h:0<m):cj ns k m<m:=afD _ h
def adb(K:PySem.W.Frag):Sp:=λvs H Q _=>∃(a:Addr) (ns:List Int) (k m:Int),vs=[.ref a,.int k,.int m]/\aX K H a (ns.map V.int)/\ns.length≤63/\0≤k/\k≤100000/\0<m/\Q (.int (cj ns k m)) H
end Lw
namespace Vl
open PySem L2 PyProof.Rows My NumText
inductive gC {α β:Type} (R:α->β->Prop):List α->List β->Prop
 |nil:gC R [] []
 |cons {a:α} {b:β} {l:List α} {m:List β}:R a b->gC R l m->gC R (a::l) (b::m)
theorem gC.len{α β:Type}{R:α->β->Prop}:∀{l:List α} {m:List β},gC R l m->l.length=m.length
 |_,_,.nil=>rfl
 |_,_,.cons _ t=>by rw[List.length_cons,List.length_cons,t.len]
theorem gC.imp{α β:Type}{R S:α->β->Prop}(h:∀a b,R a b->S a b):∀{l:List α} {m:List β},gC R l m->gC S l m
 |_,_,.nil=>.nil
 |_,_,.cons r t=>.cons (h _ _ r) (t.imp h)
theorem gC.get{α β:Type}{R:α->β->Prop}:∀{l:List α} {m:List β},gC R l m->∀{i:Nat} {a:α},l[i]? =some a->∃b,m[i]? =some b/\R a b
 |_,_,.nil,i,a,e=>by simp at e
 |_,_,.cons r t,0,a,e=>by simp at e;subst e;exact⟨_,rfl,r⟩
 |_,_,.cons r t,i+1,a,e=>by simp at e;exact t.get e
theorem gC.get'{α β:Type}{R:α->β->Prop}:∀{l:List α} {m:List β},gC R l m->∀{i:Nat} {b:β},m[i]? =some b->∃a,l[i]? =some a/\R a b
 |_,_,.nil,i,a,e=>by simp at e
 |_,_,.cons r t,0,a,e=>by simp at e;subst e;exact⟨_,rfl,r⟩
 |_,_,.cons r t,i+1,a,e=>by simp at e;exact t.get' e
theorem gC.app{α β:Type}{R:α->β->Prop}:∀{l l':List α} {m m':List β},gC R l m->gC R l' m'->gC R (l++l') (m++m')
 |_,_,_,_,.nil,h=>h
 |_,_,_,_,.cons r t,h=>.cons r (t.app h)
abbrev bC:=Str×Str
def M9(H:Hp)(v:V)(c:bC):Prop:=∃t,v= .ref t/\H t=some (.tup [.str c.1,.str c.2])
theorem M9.same{H H':Hp}{v:V}{c:bC}(h:M9 H v c)(s:au H H'):M9 H' v c:=by
 obtain⟨t,e,q⟩:=h
 exact⟨t,e,s _ _ q⟩
def dX(H:Hp)(a:Addr)(cs:List bC):Prop:=∃vs:List V,H a=some (.lst vs)/\gC (M9 H) vs cs
theorem dX.same{H H':Hp}{a:Addr}{cs:List bC}(h:dX H a cs)(s:au H H'):dX H' a cs:=by
 obtain⟨vs,e,q⟩:=h
 exact⟨vs,s _ _ e,q.imp λa b r=>r.same s⟩
abbrev XH:Str:=Str.ofString "abcdefghijklmnopqrstuvwxyz"
def isName(z:Str):Bool:=decide (1≤z.length/\z.length≤8)&&jo z XH
def yc(k:Str):Bool:=decide (k="number"\/k="text")
def aQ(cs:List bC):Bool:=decide (1≤cs.length/\cs.length≤6)&&(cs.all λc=>isName c.1&&yc c.2)&&decide ((cs.map Prod.fst).Nodup)
def jj:List bC->Str->Nat->V
 |[],_,_=>.non
 |c::r,z,i=>if c.1=z then .int i else jj r z (i+1)
def ZC:Sp:=λvs H Q _=>∃a cs z,vs=[.ref a,.str z]/\dX H a cs/\∀H',au H H'->Q (jj cs z 0) H'
theorem Cv(xs:List V)(k:Nat):yN xs (some (k:Int)) none=xs.drop k:=by
 unfold yN
 rw[HT.Bl,HT.zA]
 by_cases h:k≤xs.length
 .rw[show min k xs.length=k from akt h]
  exact afM (by rw[afr];exact aaO _)
 .rw[show min k xs.length=xs.length from anx (by omega),aj7 (aaO _),aj7 (by omega)]
  simp
end Vl
namespace Vl
open PySem L2 PyProof.Rows My NumText
def bu:List Nat->Int
 |[]=>0
 |c::r=>((c:Int)+137*bu r) % 9973
theorem gb:∀l,0≤bu l/\bu l<9973
 |[]=>by decide
 |c::r=>⟨ait _ (by decide),afD _ (by decide)⟩
theorem Zo(t p y m:Int):(t+p*(y % m)) % m=(t+p*y) % m:=by
 rw[ao2,ao4,aqM, <-ao4, <-ao2]
theorem Ui(a b r m:Int):(a % m+b % m*r) % m=(a+b*r) % m:=by
 rw[ao2,ao4,aqM,aqM, <-ao4, <-ao2]
theorem Jg{t p v:Int}{c:Nat}{r:List Nat}(h:(t+p*bu (c::r)) % 9973=v):((t+(c:Int)*p) % 9973+p*137 % 9973*bu r) % 9973=v:=by
 rw[Ui, <-h]
 show _=(t+p*(((c:Int)+137*bu r) % 9973)) % 9973
 rw[Zo]
 congr 1
 rw[Int.mul_add,av3 (c:Int) p,Int.mul_assoc,Int.add_assoc]
def cD(n:Int):Str:=Txt.zfill (Str.ofString (toString n)) 4
def Tg(l:List Nat):Nat:=l.foldl (λa c=>a*10+(c-48)) 0
def xg(n:Nat):Bool:=decide ((cD n).length=4)&&((cD n).cps.toList.all vo&&decide (Tg (cD n).cps.toList=n))
theorem Cu(l:List Nat):∀k:Nat,Tg (aj5 k 48++l)=Tg l
 |0=>rfl
 |k+1=>by
  rw[List.replicate_succ]
  exact Cu l k
theorem Og{n:Nat}(h:n<10000):(cD n).cps.toList=aj5 (4-(Str.ofString (toString (n:Int))).length) 48++(Str.ofString (toString (n:Int))).cps.toList:=by
 have hd:=d7 n
 have hl:=nA (m:=n) (k:=4) (by decide) h
 have hne:(Str.ofString (toString (n:Int))).cps.toList≠[]:=by
  rw[iJ]
  simp[Nat.toDigits_ne_nil]
 unfold cD Txt.zfill
 generalize Str.ofString (toString (n:Int))=x at hd hl hne⊢
 have hx:=L2.len_list x
 split
 .rename_i h4
  have :4-x.length=0:=by omega
  rw[this]
  rfl
 .unfold zfilled
  obtain⟨c,r,e⟩:=List.exists_cons_of_ne_nil hne
  have h0:x.cps[0]? =some c:=by rw[<-aoy,e];rfl
  have hc:=hd c (by rw[e];simp)
  have en:((4:Int).toNat-x.length)=4-x.length:=rfl
  rw[h0]
  split
  .rename_i e2;cases e2;omega
  .rename_i e2;cases e2;omega
  .unfold Builtin.Str.padded
   simp
theorem zq(n:Nat)(h:n<9973):xg n=true:=by
 have hd:=d7 n
 have hl:=nA (m:=n) (k:=4) (by decide) (by omega)
 have e:=Og (n:=n) (by omega)
 have hx:=L2.len_list (Str.ofString (toString (n:Int)))
 unfold xg
 rw[L2.len_list,e,Cu,ace,aom,decide_eq_true (by omega),anq,aaP,adt,decide_eq_true_eq]
 refine⟨λc hc=>?_,?_⟩
 .rcases aeC.mp hc with z |z
  .have :=List.eq_of_mem_replicate z
   subst this
   rfl
  .exact decide_eq_true (hd c z)
 .rw[iJ]
  exact PySem.W.KIN.val_back n
def WN:Sp:=λvs H Q _=>∃z,vs=[.str z]/\z.length≤100000/\(∀c∈z.cps.toList,c<1114112)/\Q (.int (bu z.cps.toList)) H
def Vr:Sp:=λvs H Q _=>∃z,vs=[.str z]/\z.length≤100000/\(∀c∈z.cps.toList,c<1114112)/\Q (.str (cD (bu z.cps.toList))) H
theorem ZS:∀(r:List Nat) (a:Nat),a*10^r.length≤r.foldl (λacc c=>acc*10+(c-48)) a
 |[],a=>by simp
 |c::r,a=>by
  have ih:=ZS r (a*10+(c-48))
  rw[List.foldl_cons,List.length_cons,Nat.pow_succ]
  refine ah4 ?_ ih
  have h1:a*(10^r.length*10)=a*10*10^r.length:=by rw[Nat.mul_comm (10^r.length) 10,Nat.mul_assoc]
  rw[h1]
  exact aiB _ (akj _ _)
theorem Vt{l:List Nat}(h:dY l=true)(h1:l≠[48]):10^(l.length-1)≤digitsVal l:=by
 obtain⟨hd,hne⟩:=tM h
 cases l with
 |nil=>exact absurd rfl hne
 |cons c r=>
  have hc:=hd c aeH
  have hc2:c≠48:=by
   intro e
   subst e
   unfold dY at h
   rw[decide_eq_false h1,ark]at h
   simp at h
  have :=ZS r (0*10+(c-48))
  have h3:1*10^r.length≤(0*10+(c-48))*10^r.length:=aiB _ (by omega)
  unfold digitsVal
  rw[List.foldl_cons]
  show 10^r.length≤_
  omega
theorem Ep{l:List Nat}{m:Int}{k:Nat}(h:dY l=true)(hm:((digitsVal l:Nat):Int)≤m)(hk:m<((10^k:Nat):Int))(h1:1≤k):l.length≤k:=by
 by_cases e:l=[48]
 .subst e
  exact h1
 .have h2:=Vt h e
  have h3:10^(l.length-1)<10^k:=by omega
  have h4:=(Nat.pow_lt_pow_iff_right (a:=10) (by decide)).mp h3
  omega
theorem Im{l:List Nat}(h:dY l=true):digitsVal l=0↔l=[48]:=by
 constructor
 .intro e
  refine Classical.byContradiction λn=>?_
  have h2:=Vt h n
  have h3:0<10^(l.length-1):=Nat.pow_pos (by decide)
  omega
 .intro e
  subst e
  rfl
def mL(l:List Nat)(m:Int):Option Int:=if dY l=true/\((digitsVal l:Nat):Int)≤m then some ((digitsVal l:Nat):Int)else none
def Su:Option Int->V
 |none=>.non
 |some i=>.int i
def Zu:Sp:=λvs H Q _=>∃(z:Str) (m:Int) (k:Nat),vs=[.str z,.int m]/\z.length≤4000/\0≤m/\m.natAbs<10^60/\(Str.ofString (toString m)).length=k/\m<((10^k:Nat):Int)/\1≤k/\k≤600/\∀H',au H H'->Q (Su (mL z.cps.toList m)) H'
theorem tU{l:List Nat}(h0:¬l[0]? =some 45):jx l=mL l 1000000000000000000:=by
 unfold jx mL Pg pD
 rw[if_neg h0,if_neg h0]
 by_cases h:dY l=true/\((digitsVal l:Nat):Int)≤1000000000000000000
 .have :=Ep (k:=19) h.1 h.2 (by decide) (by decide)
  rw[if_pos h,if_pos ⟨h.1,by omega,by omega,h.2⟩]
 .rw[if_neg h,if_neg λx=>h ⟨x.1,x.2.2.2⟩]
theorem Bt{l:List Nat}(h0:l[0]? =some 45):jx l=match mL (l.drop 1) 1000000000000000000 with
  |some i=>if i=0 then none else some (-i)
  |none=>none:=by
 unfold jx mL Pg pD
 rw[if_pos h0,if_pos h0]
 have hl:l.length=(l.drop 1).length+1:=by
  cases l with
  |nil=>simp at h0
  |cons c r=>simp
 rw[hl]
 generalize l.drop 1=r
 by_cases h:dY r=true/\((digitsVal r:Nat):Int)≤1000000000000000000
 .have h2:=Ep (k:=19) h.1 h.2 (by decide) (by decide)
  have h3:=Im h.1
  rw[if_pos h]
  show _=if((digitsVal r:Nat):Int)=0 then none else some (-((digitsVal r:Nat):Int))
  by_cases e:r=[48]
  .have hz:((digitsVal r:Nat):Int)=0:=by have :=h3.mpr e;omega
   rw[if_pos hz]
   refine if_neg λx=>?_
   rw[aaP,decide_eq_true_eq]at x
   exact x.1.1 e
  .have hz:¬((digitsVal r:Nat):Int)=0:=λz=>e (h3.mp (by omega))
   rw[if_neg hz]
   exact if_pos ⟨by rw[decide_eq_true e,h.1];rfl,by omega,by omega,by omega⟩
 .rw[if_neg h]
  refine if_neg λx=>?_
  rw[aaP]at x
  exact h ⟨x.1.2,by omega⟩
end Vl
namespace Vl
open PySem L2 PyProof.Rows My NumText
theorem Yo{n:Int}(h:n.natAbs<10^60):(Str.ofString (toString n)).length≤70:=by
 by_cases h0:0≤n
 .obtain⟨m,rfl⟩:=aaA h0
  have :=nA (m:=m) (k:=60) (by decide) (by simpa using h)
  omega
 .have e:n= -((n.natAbs:Nat):Int):=by omega
  rw[e,wA n.natAbs (by omega),len_app]
  have :=nA (m:=n.natAbs) (k:=60) (by decide) h
  have l1:("-":Str).length=1:=by decide+kernel
  omega
end Vl
namespace Vl
open PySem L2 PyProof.Rows My NumText
abbrev Ord:=Str×Bool
def HY(H:Hp)(v:V)(o:Ord):Prop:=∃t,v= .ref t/\H t=some (.tup [.str o.1,.bl o.2])
theorem HY.same{H H':Hp}{v:V}{o:Ord}(h:HY H v o)(s:au H H'):HY H' v o:=by
 obtain⟨t,e,q⟩:=h
 exact⟨t,e,s _ _ q⟩
def uC(H:Hp)(a:Addr)(os:List Ord):Prop:=∃vs:List V,H a=some (.lst vs)/\gC (HY H) vs os
theorem uC.same{H H':Hp}{a:Addr}{os:List Ord}(h:uC H a os)(s:au H H'):uC H' a os:=by
 obtain⟨vs,e,q⟩:=h
 exact⟨vs,s _ _ e,q.imp λa b r=>r.same s⟩
def By{α β:Type}(f:α->Option β):List α->Option (List β)
 |[]=>some []
 |x::r=>match f x,By f r with
  |some y,some ys=>some (y::ys)
  |_,_=>none
theorem xH{α β:Type}{f:α->Option β}:∀{l:List α} {x:α},x∈l->f x=none->By f l=none
 |y::r,x,h,e=>by
  unfold By
  rcases abO.mp h with z |z
  .subst z;rw[e]
  .rw[xH z e]
   cases f y<;>rfl
 |[],x,h,_=>by simp at h
theorem xJ{α β:Type}{f:α->Option β}:∀{l:List α} {m:List β},l.length=m.length->(∀(i:Nat) x y,l[i]? =some x->m[i]? =some y->f x=some y)->By f l=some m
 |[],[],_,_=>rfl
 |x::l,y::m,hl,h=>by
  have h1:=h 0 x y rfl rfl
  have h2:=xJ (l:=l) (m:=m) (by simpa using hl) λi x y e1 e2=>h (i+1) x y (by simpa using e1) (by simpa using e2)
  unfold By
  rw[h1,h2]
 |[],_::_,hl,_=>by simp at hl
 |_::_,[],hl,_=>by simp at hl
theorem Mi{α β:Type}{f:α->Option β}{R:V->β->Prop}:∀{ws:List α} {xs:List V},xs.length=ws.length->(∀(i:Nat) v,xs[i]? =some v->∃z,ws[i]? =some z/\∃b,f z=some b/\R v b)->∃bs,By f ws=some bs/\gC R xs bs
 |[],[],_,_=>⟨[],rfl,.nil⟩
 |w::ws,x::xs,hl,h=>by
  obtain⟨z,e1,b,e2,r⟩:=h 0 x rfl
  have e1':w=z:=by simpa using e1
  subst e1'
  obtain⟨bs,e3,t⟩:=Mi (ws:=ws) (xs:=xs) (by simpa using hl) λi v e=>by simpa using h (i+1) v (by simpa using e)
  refine⟨b::bs,?_,.cons r t⟩
  unfold By
  rw[e2,e3]
 |[],_::_,hl,_=>by simp at hl
 |_::_,[],hl,_=>by simp at hl
def j7(cs:List bC)(z:Str):Option Ord:=
 if(z.cps.toList[0]? =some 43\/z.cps.toList[0]? =some 45)/\jj cs (bO z (some 1) none) 0≠ .non then some (bO z (some 1) none,decide (z.cps.toList[0]? =some 43))else none
def iB(cs:List bC)(z:Str):Option (List Ord):=
 if z="" then some []else if 4<(aW 32 z).length then none else match By (j7 cs) (aW 32 z)with
  |none=>none
  |some os=>if(os.map Prod.fst).Nodup then some os else none
def Uu(c:Value):Sp:=λvs H Q E=>∃a cs z,vs=[.ref a,.str z]/\dX H a cs/\z.length≤4000/\
 (∀H',au H H'->j7 cs z=none->E c (none,true) H')/\∀p o H',au H H'->j7 cs z=some o->H' p=some (.tup [.str o.1,.bl o.2])->Q (.ref p) H'
def Ye(c:Value):Sp:=λvs H Q E=>∃a cs z,vs=[.ref a,.str z]/\dX H a cs/\z.length≤4000/\
 (∀H',au H H'->iB cs z=none->E c (none,true) H')/\∀p os H',au H H'->iB cs z=some os->H p=none->uC H' p os->Q (.ref p) H'
def d9(o:Ord):Str:=(if o.2=true then Str.ofString "+" else Str.ofString "-")++o.1
def iU(os:List Ord):Str:=Str.join " " (os.map d9)
theorem vV(c:Nat)(z:Str):(aW c z).length≤z.length+1:=by
 have h1:=xK c z.cps.toList
 unfold aW
 rw[aar]
 have h2:z.cps.toList.length=z.length:=rfl
 omega
theorem uB{c:Nat}{z y:Str}(h:y∈aW c z):y.length≤z.length:=by
 have key:∀(l:List Nat) p,p∈cutAt c l->p.length≤l.length:=by
  intro l
  induction l with
  |nil=>intro p hp;have :p=[]:=by simpa [cutAt]using hp
        subst this;simp
  |cons x r ih=>
   intro p hp
   unfold cutAt at hp
   split at hp
   .rcases abO.mp hp with z |z
    .subst z;simp
    .have :=ih p z;simp;omega
   .split at hp
    .have :p=[x]:=by simpa using hp
     subst this;simp
    .rename_i a t e
     rw[e]at ih
     rcases abO.mp hp with z |z
     .subst z
      have :=ih a (by simp)
      simp;omega
     .have :=ih p (by simp[z]);simp;omega
 unfold aW at h
 obtain⟨l,hl,rfl⟩:=adg.mp h
 have :=key _ l hl
 have h2:z.cps.toList.length=z.length:=rfl
 show l.toArray.size≤_
 simp
 omega
end Vl
namespace Vl
open PySem L2 PyProof.Rows My NumText
def bY:List bC->Str->Nat
 |[],_=>0
 |c::r,z=>if c.1=z then 0 else bY r z+1
theorem lD:∀{cs:List bC} {z:Str},(∃c∈cs,c.1=z)->bY cs z<cs.length
 |[],_,h=>by obtain⟨c,hc,_⟩:=h;simp at hc
 |d::r,z,h=>by
  unfold bY
  split
  .simp
  .rename_i hd
   have :=lD (cs:=r) (z:=z) (by
    obtain⟨c,hc,e⟩:=h
    rcases abO.mp hc with x |x
    .subst x;exact absurd e hd
    .exact⟨c,x,e⟩)
   simp
   omega
theorem vW:∀{cs:List bC} {z:Str} (i:Nat),(∃c∈cs,c.1=z)->jj cs z i= .int ((i+bY cs z:Nat):Int)
 |[],_,_,h=>by obtain⟨c,hc,_⟩:=h;simp at hc
 |d::r,z,i,h=>by
  unfold jj bY
  split
  .rfl
  .rename_i hd
   rw[vW (i+1) (by
    obtain⟨c,hc,e⟩:=h
    rcases abO.mp hc with x |x
    .subst x;exact absurd e hd
    .exact⟨c,x,e⟩)]
   congr 2
   omega
theorem uU:∀{cs:List bC} {z:Str},(∃c∈cs,c.1=z)->∃c,cs[bY cs z]? =some c/\c.1=z
 |[],_,h=>by obtain⟨c,hc,_⟩:=h;simp at hc
 |d::r,z,h=>by
  unfold bY
  split
  .rename_i e;exact⟨d,rfl,e⟩
  .rename_i hd
   obtain⟨c,h1,h2⟩:=uU (cs:=r) (z:=z) (by
    obtain⟨c,hc,e⟩:=h
    rcases abO.mp hc with x |x
    .subst x;exact absurd e hd
    .exact⟨c,x,e⟩)
   exact⟨c,by simpa using h1,h2⟩
def atN(cs:List bC)(xs:List V)(z:Str):V:=(xs[bY cs z]?).getD .non
def Vf(cs:List bC)(os:List Ord)(xs:List V):List V:=os.map λo=>atN cs xs o.1
theorem Vy{α:Type}{l:List α}{i:Nat}{x:α}(h:l[i]? =some x):l.drop i=x::l.drop (i+1):=by
 obtain⟨hi,e⟩:=aan.mp h
 rw[<-e]
 exact List.drop_eq_getElem_cons hi
end Vl
namespace Vl
open PySem L2 PyProof.Rows My NumText
theorem zx(m:Nat):dY (Str.ofString (toString ((m:Nat):Int))).cps.toList=true/\digitsVal (Str.ofString (toString ((m:Nat):Int))).cps.toList=m:=by
 have hd:AllDigits (Str.ofString (toString ((m:Nat):Int))).cps.toList:=d7 m
 have hv:digitsVal (Str.ofString (toString ((m:Nat):Int))).cps.toList=m:=by rw[iJ];exact PySem.W.KIN.val_back m
 refine⟨?_,hv⟩
 have hne:(Str.ofString (toString ((m:Nat):Int))).cps.toList≠[]:=by rw[iJ];simp[Nat.toDigits_ne_nil]
 have hall:=toDigits_all _ hd
 rw[hv]at hall
 have e:=iJ m
 generalize(Str.ofString (toString ((m:Nat):Int))).cps.toList=l at *
 have hl:l.length=(avU 10 m).length:=by rw[e,aar]
 unfold dY
 rw[akH,aaP,aaP,decide_eq_true_eq,decide_eq_true_eq,decide_eq_true_eq]
 cases l with
 |nil=>exact absurd rfl hne
 |cons c r=>
  by_cases h0:c=48
  .subst h0
   left
   rw[List.dropWhile_cons,if_pos (by decide)]at hall
   cases q:r.dropWhile (· ==48)with
   |nil=>
    rw[q]at hall
    rw[hall]at hl
    have :r=[]:=by cases r with
     |nil=>rfl
     |cons _ _=>simp at hl
    rw[this]
   |cons d t=>
    rw[q]at hall
    rw[hall,aar, <-q]at hl
    have :=(List.dropWhile_sublist (p:=λx:Nat=>x==48) (l:=r)).length_le
    rw[List.length_cons]at hl
    omega
  .right
   refine⟨by simp,by simpa using h0,?_⟩
   rw[adt]
   exact λx hx=>decide_eq_true (hd x hx)
theorem Gn{i:Int}(h1: -1000000000000000000≤i)(h2:i≤1000000000000000000):jx (Str.ofString (toString i)).cps.toList=some i:=by
 by_cases h0:0≤i
 .obtain⟨m,rfl⟩:=aaA h0
  obtain⟨a,b⟩:=zx m
  have hd:=d7 m
  have hn:¬(Str.ofString (toString ((m:Nat):Int))).cps.toList[0]? =some 45:=λe=>by
   have :=hd 45 (aaR e)
   omega
  have e:=tU hn
  unfold mL at e
  rw[a,b,if_pos ⟨rfl,by omega⟩]at e
  exact e
 .obtain⟨m,hm,rfl⟩:∃m:Nat,0<m/\i= -((m:Nat):Int):=⟨i.natAbs,by omega,by omega⟩
  obtain⟨a,b⟩:=zx m
  have hl:=nA (m:=m) (k:=19) (by decide) (by omega)
  have e:(Str.ofString (toString (-((m:Nat):Int)))).cps.toList=45::(Str.ofString (toString ((m:Nat):Int))).cps.toList:=by
   rw[wA m hm,aA]
   have :("-":Str).cps.toList=[45]:=by decide+kernel
   rw[this]
   rfl
  have hz:=Im a
  rw[b]at hz
  rw[L2.len_list]at hl
  rw[e]
  generalize(Str.ofString (toString ((m:Nat):Int))).cps.toList=l at a b hz hl⊢
  have hne:l≠[48]:=λq=>by have :=hz.mpr q;omega
  have w1:Pg (45::l)=true:=by
   unfold Pg
   rw[if_pos (show(45::l)[0]? =some 45 from rfl)]
   show(decide (l≠[48])&&dY l)=true
   rw[a,decide_eq_true hne]
   rfl
  have w2:pD (45::l)= -((m:Nat):Int):=by
   unfold pD
   rw[if_pos (show(45::l)[0]? =some 45 from rfl)]
   show -((digitsVal l:Nat):Int)=_
   rw[b]
  unfold jx
  rw[w1,w2,if_pos ⟨rfl,by rw[List.length_cons];omega,h1,h2⟩]
theorem jL(i:Int):∀c∈(Str.ofString (toString i)).cps.toList,c=45\/(48≤c/\c≤57):=by
 intro c hc
 by_cases h0:0≤i
 .obtain⟨m,rfl⟩:=aaA h0
  exact .inr (d7 m c hc)
 .obtain⟨m,hm,rfl⟩:∃m:Nat,0<m/\i= -((m:Nat):Int):=⟨i.natAbs,by omega,by omega⟩
  rw[wA m hm,aA]at hc
  rcases aeC.mp hc with h |h
  .left
   have :("-":Str).cps.toList=[45]:=by decide+kernel
   rw[this]at h
   simpa using h
  .exact .inr (d7 m c h)
theorem cG{i:Int}{k:Nat}(hk:1≤k)(h:i.natAbs<10^k):(Str.ofString (toString i)).length≤k+1:=by
 by_cases h0:0≤i
 .obtain⟨m,rfl⟩:=aaA h0
  have :=nA (m:=m) (k:=k) hk (by simpa using h)
  omega
 .obtain⟨m,hm,rfl⟩:∃m:Nat,0<m/\i= -((m:Nat):Int):=⟨i.natAbs,by omega,by omega⟩
  have :=nA (m:=m) (k:=k) hk (by simpa using h)
  have e:("-":Str).length=1:=by decide+kernel
  rw[wA m hm,len_app,e]
  omega
theorem Up:("?":Str).cps.toList=[63]:=by decide+kernel
theorem zu:("'":Str).cps.toList=[39]:=by decide+kernel
theorem O9{i:Int}(h1: -1000000000000000000≤i)(h2:i≤1000000000000000000):gB "number" (wordOf (.int i))=some (.int i):=by
 have hn:¬wordOf (.int i)="?":=λe=>by
  have h:63∈(Str.ofString (toString i)).cps.toList:=by
   have e':Str.ofString (toString i)=Str.ofString "?":=e
   rw[e',Up]
   simp
  have :=jL i 63 h
  omega
 unfold gB
 rw[if_neg hn,if_pos rfl]
 show Xc (jx (Str.ofString (toString i)).cps.toList)=_
 rw[Gn h1 h2]
 rfl
theorem RL{z:Str}(hl:z.length≤20)(h:∀c∈z.cps.toList,c∈SG):yC (.str z)=true:=by
 show(decide (z.length≤20)&&jo z TSs)=true
 rw[decide_eq_true hl,anq]
 unfold jo
 rw[adt]
 exact λc hc=>decide_eq_true (ajD c (h c hc))
theorem ac3(z:Str):bO (Str.ofString "'"++z) (some 1) none=z:=by
 apply bB
 have :=lJ (Str.ofString "'"++z) 1
 rw[show((1:Nat):Int)=1 from rfl]at this
 rw[this,aA,zu]
 rfl
theorem Jk:¬(("text":Str)="number"):=by decide+kernel
theorem Qu{z:Str}(hl:z.length≤20)(h:∀c∈z.cps.toList,c∈SG):gB "text" (wordOf (.str z))=some (.str z):=by
 have e:wordOf (.str z)=Str.ofString "'"++z:=rfl
 have h0:(Str.ofString "'"++z).cps.toList[0]? =some 39:=by rw[aA,zu];rfl
 have hn:¬Str.ofString "'"++z="?":=λe=>by
  have e':Str.ofString "'"++z=Str.ofString "?":=e
  rw[e',Up]at h0
  simp at h0
 rw[e]
 unfold gB
 rw[if_neg hn,if_neg Jk]
 unfold kh
 rw[ac3,if_pos ⟨h0,RL hl h⟩]
 rfl
theorem jO{ps:List Str}(h:ps≠[])(hf:∀p∈ps,32∉p.cps.toList):aW 32 (Str.join " " ps)=ps:=by
 unfold aW
 have e:(Str.join " " ps).cps.toList=jg 32 (ps.map λp=>p.cps.toList):=jK 32 ps
 rw[e,mq (by simpa using h) λp hp=>?_,agz]
 .have :((λl:List Nat=>(⟨l.toArray⟩:Str))∘λp:Str=>p.cps.toList)=id:=by
   funext p
   rfl
  rw[this,apO]
 .obtain⟨q,hq,rfl⟩:=adg.mp hp
  exact hf q hq
theorem HQ(z:Str):Str.join " " (aW 32 z)=z:=by
 apply bB
 have e:(Str.join " " (aW 32 z)).cps.toList=jg 32 ((aW 32 z).map λp=>p.cps.toList):=jK 32 _
 rw[e]
 unfold aW
 rw[agz]
 have :((λp:Str=>p.cps.toList)∘λl:List Nat=>(⟨l.toArray⟩:Str))=id:=by
  funext p
  rfl
 rw[this,apO,mC]
theorem ajS(a b:Str):Str.join " " [a,b]=a++Str.ofString " "++b:=rfl
theorem agK(a b c:Str):Str.join " " [a,b,c]=a++Str.ofString " "++b++Str.ofString " "++c:=by
 show a++Str.ofString " "++(b++Str.ofString " "++c)=_
 apply bB
 simp only[aA,aex]
theorem oN:∀{cs:List bC} {i:Nat} {c:bC},(cs.map Prod.fst).Nodup->cs[i]? =some c->bY cs c.1=i
 |[],i,c,_,h=>by simp at h
 |d::cs,0,c,_,h=>by
  have :d=c:=by simpa using h
  subst this
  unfold bY
  rw[if_pos rfl]
 |d::cs,i+1,c,hn,h=>by
  have h':cs[i]? =some c:=by simpa using h
  rw[List.map_cons,List.nodup_cons]at hn
  have hne:¬d.1=c.1:=λe=>hn.1 (by rw[e];exact List.mem_map_of_mem (aaR h'))
  have ih:=oN hn.2 h'
  unfold bY
  rw[if_neg hne,ih]
end Vl
namespace L2
open PySem PySem.Spec PyProof.Rows PySem.W
section
variable{X:Cx}{σ:St}{H:Hp}{Q:VK}{a:Addr}
def jd{α:Type}(xs:List α)(k:Nat)(y:α):List α:=xs.take k++y::xs.drop k
def Zx:V->List V->Hp->VK->Prop:=λx vs H Q=>∃l xs k y,x= .ref l/\vs=[.int (k:Nat),y]/\H l=some (.lst xs)/\k≤xs.length/\xs.length<sizeLine/\Q .non (upd H l (.lst (jd xs k y)))
theorem Cj:MtM X "list.insert" Zx:=by
 intro pins s σ H x vs v us Q I rx rv h
 obtain⟨l,xs,k,y,rfl,rfl,hH,hk,hz,q⟩:=h
 cases rx
 obtain⟨u0,u,rfl,ru0,ru⟩:=rv.two
 obtain⟨t,rfl⟩:=ru0
 have hsz:=sizeLine_eq
 obtain⟨z,its,n,r,hl,e⟩:=I.lstM hH
 obtain⟨i,hi⟩:∃i:Int,i=(k:Int):=⟨_,rfl⟩
 rw[<-hi]
 have hf:Builtin.List.listFitsIndex i=true:=fitsIndex_both (by omega) (by omega)
 have hm:=PySem.AutoSeq1.list_insert_list_int_val_1 l its.toArray n i t u (by rw[hf];decide) (by rw[abY];omega)
 refine call_meets F.slot_list_insert ⟨_,e,rfl⟩ F.entry_list_insert (F.args_list_insert_3 (.ref l) (.int i t) u) hm ⟨e,?_⟩
 refine⟨.non,_,I.lset (its':=jd its k u) hH e ?_ ((r.take k).append (.cons ru (r.drop k))) ?_,rfl,q⟩
 .show(its.toArray.extract 0 (if i<0 then(i+(its.toArray.size:Int)).toNat else min i.toNat its.toArray.size)).push u++its.toArray.extract (if i<0 then(i+(its.toArray.size:Int)).toNat else min i.toNat its.toArray.size)=(jd its k u).toArray
  rw[if_neg (by omega),hi,amM,abY,akt (by omega)]
  unfold jd
  apply Array.toList_inj.mp
  simp
  rw[afM (by rw[afr];omega)]
 .rw[ace,List.length_cons,afm,afr]
  omega
end
end L2
namespace Vl
open PySem L2 PyProof.Rows My
section
variable{α β:Type}
structure aiU where
 at_:Int
 row:Int
 was:Option (List V)
 is:Option (List V)
structure Bk where
 heads:List bC
 rows:List (Int×List V)
 touched:List (Int×Int)
 done:List aiU
 known:Int
 now:Int
structure BA where
 b:Addr
 dx:Addr
 h:Addr
 r:Addr
 t:Addr
 d:Addr
def BA.fp(A:BA):List Addr:=[A.b,A.r,A.t,A.d]
section
variable{C:Addr}{H H':Hp}{A:BA}{B:Bk}
end
end
end Vl
namespace L2
open PySem PySem.Spec PyProof.Rows PySem.W
section
variable{prog:Program}{w:World}{A:Around}{E:Value->Shared->Prop}{s:Shared}
variable{I:Addr}{fp wr:List Addr}{G:Array GenState->Array GenState->Prop}{n:Nat}{P:Nat->Value->Prop}{St:Nat->Shared->Prop}
end
section
variable{X:Cx}{σ:St}{H:Hp}{Q:VK}{a:Expr}{p pos p' pos':Pos}
end
section
variable{X:Cx}{σ:St}{H:Hp}{Q:VK}{D:Ends}{o e f:Expr}{apos cpos pos:Pos}
theorem LQ{tg:Expr}{body:List Stmt}(hp:PassesOwn (model X.prog X.w) X.A X.env X.xe)(hc:X.calm=true)(hs:∀x,foldedSetIterable e X.env x=pure x)
  (h:EV X e σ H λv H1=>∃q xs,v= .ref q/\dg X.K H1 q xs/\∃Pv:Nat->St->Hp->Prop,Pv 0 σ H1/\(∀i σ' H',i≤xs.length->Pv i σ' H'->dg X.K H' q xs)/\
   (∀i x σ' H',xs[i]? =some x->Pv i σ' H'->EG X tg x σ' H' λσ2 H2=>lH X body {D with nx:=Pv (i+1),ct:=Pv (i+1),bk:=D.nx} σ2 H2)/\∀σ' H',Pv xs.length σ' H'->D.nx σ' H'):
  SX X (.For tg e body [] pos) D σ H:=by
 refine wQ hp hc hs (aaC (bV h λv H1 q=>?_))
 obtain⟨q,xs,rfl,hq,Pv,h0,hl,hst,hd⟩:=q
 exact⟨q,rfl,⟨xs,hq⟩,WM (g:=EG X tg) (tb:=lH X body) Pv h0 hl hst hd⟩
end
section
variable{X:Cx}{pins:List (Addr×Obj)}{σ:St}{H:Hp}{s:Shared}{d:Addr}
end
section
variable{X:Cx}{σ:St}{H:Hp}{a e:Expr}{tg:Expr}{pos:Pos}{R:It->Hp->Prop}{D:Ends}
end
section
variable{X:Cx}{H:Hp}{Q:VK}{e C:Addr}{D:Option Addr}{k:Bool}
theorem VF{p:Addr}{as:List V}{us:List Value}(ca:Cy X.K C)(he:H e=some (xw e C D))(hd:∀E',D=some E'->∃fs,H E'=some (.xd fs))(hp:H p=some (.tup as))(hu:∀vs,Vals as vs->vs=us)(ek:aro X.K (.ref C) us=some k)(q:Q (.bl k) H):CL X (.builtin "isinstance") [.ref e,.ref p] H Q:=by
 refine jN (r:=λxs H Q=>xs=[.ref e,.ref p]/\H e=some (xw e C D)/\(∀E',D=some E'->∃fs,H E'=some (.xd fs))/\H p=some (.tup as)/\Q (.bl k) H) ?_ ⟨rfl,he,hd,hp,q⟩
 intro pins s σ H xs us' Q I r h
 obtain⟨rfl,he,hd,hp,q⟩:=h
 obtain⟨u1,u2,rfl,r1,r2⟩:=vals2 r
 cases(show u1=Value.ref e from r1)
 cases(show u2=Value.ref p from r2)
 obtain⟨ox,od,J,_⟩:=I.inst he hd
 obtain⟨_,its,rv,ob,hob,hcl,hdt⟩:=I.hok p _ hp
 rw[hu its rv]at hdt
 obtain⟨n,hdt⟩:=hdt
 obtain⟨oc,odd,oda,osl⟩:=ob
 dsimp only at hcl hdt
 subst hcl hdt
 exact W.kia_tup (Wb ca) I.kIn ⟨ox,od,J⟩ hob ek (λz=>nomatch z) λtk=>⟨.bl k,H,I.tok tk,rfl,q⟩
theorem xF:∀(as:List Addr) (vs:List Value),Vals (as.map V.ref) vs->vs=as.map Value.ref
 |[],_,.nil=>rfl
 |a::as,_,.cons r t=>by
  cases(show _=Value.ref a from r)
  rw[xF as _ t]
  rfl
end
section
variable{X:Cx}{σ σ':St}{H:Hp}{Q:VK}{a b tg elt:Expr}{scope:Scope}{p p' pos:Pos}
end
section
variable{X:Cx}{H:Hp}{Q:VK}
end
section
variable{X:Cx}{H:Hp}{Q:VK}
variable{σ:St}{a b tg:Expr}{p p' pos:Pos}{D:Ends}
end
section
variable{X:Cx}{σ:St}{H:Hp}{Q:VK}{pos:Pos}
end
end L2
namespace L2
open PySem PySem.Spec PyProof.Rows
def ajN:Option Addr->Value
 |none=>.none
 |some b=>.ref b
theorem dF.nodes{h:Heap}:∀{L:List Addr} {c:Option Value},dF h c L->∀{i:Nat} {a:Addr},L[i]? =some a->∃o vs,h.get? a=some o/\o.data= .fields vs/\vs[2]? =some (ajN L[i+1]?)
 |[],_,_,i,a,e=>by simp at e
 |b::r,c,⟨_,o,vs,q2,q3,q4⟩,0,a,e=>by
  have z:b=a:=by simpa using e
  subst z
  refine⟨o,vs,q2,q3,?_⟩
  cases r with
  |nil=>exact q4
  |cons x r=>exact q4.1
 |b::r,c,⟨_,o,vs,q2,q3,q4⟩,i+1,a,e=>by
  have e':r[i]? =some a:=by simpa using e
  obtain⟨o',vs',k1,k2,k3⟩:=q4.nodes e'
  exact⟨o',vs',k1,k2,by simpa using k3⟩
section
variable{prog:Program}{w:World}{A:Around}{E:Value->Shared->Prop}{s:Shared}{env:Env}
theorem tV:entryFor table "proto.unchain"=some Builtin.«proto.unchain» :=entryFor_of_tree (by kernel_rfl)
theorem pX{e:Addr}{R:Result->Shared->Prop}{L:List Addr}{c:Option Value}(hL:dF s.heap c L)(hn:L.Nodup)(he:e∉L)(k:R (.ok (.ret .none)) s):
  ∀(n i j:Nat) (o sl:Addr) (tg:Bool),L.length-i=n->L[i]? =some o->L[j]? =some sl->j≤i->codeAny (model prog w) A (.builtin "proto.unchain" ⟨[.ref e,.ref o,.ref sl,.bool tg],[]⟩) R s
 |0,i,j,o,sl,tg,hni,hi,hj,hji=>by
  have :=(aan.mp hi).1
  omega
 |n+1,i,j,o,sl,tg,hni,hi,hj,hji=>by
  obtain⟨oo,vs,q1,q2,q3⟩:=hL.nodes hi
  cases hb:L[i+1]? with
  |none=>
   rw[hb]at q3
   refine codeAny_builtin tV ?_
   unfold Builtin.«proto.unchain»
   refine wpAny_bind (wpAny_field (x:=Value.none) q1 q2 q3 ?_)
   rw[if_pos (by rfl)]
   exact wpAny_pure k
  |some b=>
   rw[hb]at q3
   refine codeAny_builtin tV ?_
   unfold Builtin.«proto.unchain»
   refine wpAny_bind (wpAny_field (x:=Value.ref b) q1 q2 q3 ?_)
   have hbm:b∈L:=aaR hb
   have hbe:b≠e:=λz=>he (z▸hbm)
   have hbs:b≠sl:=λz=>by
    obtain⟨p1,r1⟩:=aan.mp hb
    obtain⟨p2,r2⟩:=aan.mp hj
    have :=(anw hn (h₀:=p1) (h₁:=p2)).mp (r1.trans (z.trans r2.symm))
    omega
   rw[if_neg (show ¬((Value.ref b==Value.none)=true)from by simp)]
   rw[if_neg (show ¬((Value.ref b==Value.ref e)=true)from by simpa using hbe)]
   rw[if_neg (show ¬((Value.ref b==Value.ref sl)=true)from by simpa using hbs)]
   have hlt:=(aan.mp hb).1
   cases tg with
   |false=>
    refine wpAny_bind (wpAny_pure ?_)
    refine wpAny_pure ⟨Code.quiet_builtin _ (by decide+kernel),?_⟩
    exact pX hL hn he k n (i+1) j b sl true (by omega) hb hj (by omega)
   |true=>
    obtain⟨os,ws,t1,t2,t3⟩:=hL.nodes hj
    have hj1:j+1<L.length:=by omega
    rw[aak hj1]at t3
    refine wpAny_bind (wpAny_field (x:=Value.ref L[j+1]) t1 t2 t3 ?_)
    refine wpAny_pure ⟨Code.quiet_builtin _ (by decide+kernel),?_⟩
    exact pX hL hn he k n (i+1) (j+1) b _ false (by omega) hb (aak hj1) (by omega)
theorem JS{e h:Addr}{b:Bool}{oh:Obj}{vs:Array Value}{Q:Value->Shared->Prop}(hh:s.heap.get? h=some oh)(hd:oh.data= .fields vs)(hc:Ctx s.heap h b vs[2]?)(hev:∀l,dF s.heap vs[2]? l->e∉l)(hne:h≠e)(k:Q .none s):
  wpAny (model prog w) A (runValue (.builtin "proto.unchain" ⟨[.ref e,.ref h,.ref h,.bool false],[]⟩)) Q E s:=by
 refine wpAny_runValue ?_
 obtain⟨_,l,q1,q2,q3⟩:=hc
 have hL:dF s.heap (some (.ref h)) (h::l):=⟨rfl,oh,vs,hh,hd,q1⟩
 refine pX hL (ai6.mpr ⟨q2,q3⟩) (λz=>?_) k (l.length+1) 0 0 h h false rfl rfl rfl (aaO _)
 rcases abO.mp z with z |z
 .exact hne z.symm
 .exact hev l q1 z
end
section
variable{prog:Program}{w:World}{A:Around}{E:Value->Shared->Prop}{s:Shared}{env:Env}
variable{nm q:Str}{C N:Addr}{bs bm:List Value}{hdct:Bool}{sn:List Str}{sub:List Value}{ab:Bool}{col:Option Bool}{dd:Option Addr}{k0 k1 k2 k3 k5:Option Value}
theorem nY{h:Heap}{e:Addr}{o:Obj}{vs:Array Value}{i:Nat}{x:Value}(he:h.get? e=some o)(hd:o.data= .fields vs):(h.update e (Obj.mapFields (·.setIfInBounds i x))).get? e=some {o with data:=.fields (vs.setIfInBounds i x)}:=by
 rw[aeE _ he (Obj.isFreed_of_fields (Obj.data_mapFields hd _))]
 obtain⟨c,d,dt,sl⟩:=o
 cases hd
 rfl
theorem Bj{M:Model}{a:Addr}{o:Obj}{vs:Array Value}{i:Nat}{x:Value}{Q:Unit->Shared->Prop}(ho:s.heap.get? a=some o)
  (hd:o.data= .fields vs) (hi:i<vs.size) (h:Q () {s with heap:=s.heap.update a (Obj.mapFields (·.setIfInBounds i x))}):
  wpAny M A (updateField a i x) Q E s:=by
 have :=wpAny_setField (M:=M) (A:=A) (E:=E) (i:=i) (x:=x) ho hd hi h
 exact this
theorem rG{h:Addr}{x c:Sem Value}{Q:Flow->Shared->Prop}(hbase:bm.contains (.type "BaseException")=true)(hh:A.handled=some (.ref h))
  (hc:∀(P:Value->Shared->Prop) s',P .none s'->wpAny (model prog w) A c P E s')
  (hx:wpAny (model prog w) A x (λv s₁=>∃e t D oh vs b,v= .ref e/\s₁.heap.get? C=some (excClassObj nm q C N bs bm hdct sn sub ab col dd k0 k1 k2 k3 k5 "ValueError.__new__")/\
   s₁.heap.get? e=some {cls:=.ref C,dict:=D,data:=.fields #[.ref t,.none,.none,.none,.bool false,.none]}/\h≠e/\s₁.heap.get? h=some oh/\oh.data= .fields vs/\Ctx s₁.heap h b vs[2]? /\(∀l,dF s₁.heap vs[2]? l->e∉l)/\
   ∀h',(∀b,b≠e->h'.get? b=s₁.heap.get? b)->h'.get? e=some {cls:=.ref C,dict:=D,data:=.fields #[.ref t,.none,.ref h,.none,.bool true,.none]}->E (.ref e) {s₁ with heap:=h'}) E s):
  wpAny (model prog w) A (raiseStmt env (some x) (some c)) Q E s:=by
 have hcB:(Value.ref C::bm).contains (.type "BaseException")=true:=by rw[List.contains_cons,hbase,avq]
 unfold raiseStmt
 refine wpAny_bind (wpAny_mono hx (λv s₁ h₁=>?_) λ_ _ x=>x)
 obtain⟨e,t,D,oh,vs,b,rfl,hC,he,hne,hoh,hod,hcx,hev,hE⟩:=h₁
 obtain⟨hp,g,d,tk,os⟩:=s₁
 have hCe:C≠e:=λz=>by rw[z,he]at hC;cases hC
 have ex:∀(P:Value->Shared->Prop),P (.ref e) ⟨hp,g,d,tk,os⟩->wpAny (model prog w) A (excFromValue (.ref e) "exceptions must derive from BaseException") P E ⟨hp,g,d,tk,os⟩:=by
  intro P hP
  unfold excFromValue
  repeat (first |with_reducible refine wpAny_loadPart_at he ?_ |with_reducible refine wpAny_loadPart_at hC ?_ |(with_reducible refine wpAny_isSubtype_exc hC ?_;rw[hcB]) |wp_step)
  exact hP
 refine wpAny_bind (wpAny_holding (hc _ _ ?_))
 refine wpAny_bind (wpAny_pure ?_)
 refine wpAny_bind (wpAny_holding (ex _ ?_))
 dsimp only
 rw[if_pos (by rfl)]
 refine wpAny_bind (wpAny_pure ?_)
 refine wpAny_bind (wpAny_setField he rfl (by simp) ?_)
 have e1:=nY (i:=3) (x:=Value.none) he rfl
 have o1:∀b,b≠e->(hp.update e (Obj.mapFields (·.setIfInBounds 3 Value.none))).get? b=hp.get? b:=λb hb=>acu _ _ (Ne.symm hb)
 generalize hp.update e (Obj.mapFields (·.setIfInBounds 3 Value.none))=hp1 at e1 o1⊢
 refine wpAny_bind (wpAny_setField e1 rfl (by simp) ?_)
 have e2:=nY (i:=4) (x:=Value.bool true) e1 rfl
 have o2:∀b,b≠e->(hp1.update e (Obj.mapFields (·.setIfInBounds 4 (Value.bool true)))).get? b=hp.get? b:=λb hb=>(acu _ _ (Ne.symm hb)).trans (o1 b hb)
 dsimp only
 generalize hp1.update e (Obj.mapFields (·.setIfInBounds 4 (Value.bool true)))=hp2 at e2 o2⊢
 have e2':hp2.get? e=some {cls:=.ref C,dict:=D,data:=.fields #[.ref t,.none,.none,.none,.bool true,.none]}:=e2
 have Wm:=(o2 C hCe).trans hC
 have step:∀(P:Flow->Shared->Prop),wpAny (model prog w) A (raiseNew (.ref e)) P E ⟨hp2,g,d,tk,os⟩->wpAny (model prog w) A (do
   let e<-if <-isType (.ref e)then holding [.ref e] (raisedFor (.ref e) (.ref e))else raisedInstance (.ref e)
   setFlight e none
   raiseNew e) P E ⟨hp2,g,d,tk,os⟩:=by
  intro P hP
  repeat (first |with_reducible refine wpAny_loadPart_at e2' ?_ |with_reducible refine wpAny_loadPart_at Wm ?_ |(with_reducible refine wpAny_isSubtype_exc Wm ?_;rw[hcB]) |wp_step)
  exact hP
 refine step _ ?_
 unfold raiseNew
 refine wpAny_bind (wpAny_handled ?_)
 rw[hh]
 dsimp only
 rw[if_pos (show(Value.ref h !=Value.ref e)=true from by simpa using hne)]
 have kk:∀v o ws,v≠e->hp.get? v=some o->o.data= .fields ws->∃o' ws',hp2.get? v=some o'/\o'.data= .fields ws'/\ws'[2]? =ws[2]? :=λv o ws hv q1 q2=>⟨o,ws,(o2 v hv).trans q1,q2,rfl⟩
 have kb:∀v o ws,v≠e->hp2.get? v=some o->o.data= .fields ws->∃o' ws',hp.get? v=some o'/\o'.data= .fields ws'/\ws'[2]? =ws[2]? :=λv o ws hv q1 q2=>⟨o,ws,(o2 v hv).symm.trans q1,q2,rfl⟩
 have auJ:Ctx hp2 h b vs[2]? :=by
  obtain⟨c1,l,c2,c3,c4⟩:=hcx
  exact⟨c1,l,c2.stay kk (hev l c2),c3,c4⟩
 have apz:∀l,dF hp2 vs[2]? l->e∉l:=by
  intro l hl
  obtain⟨_,l',c2,_,_⟩:=hcx
  have n1:=hev l' c2
  have c2':=c2.stay kk n1
  have uniq:∀(l l':List Addr) (c:Option Value),dF hp2 c l->dF hp2 c l'->l=l':=by
   intro l
   induction l with
   |nil=>
    intro l' c a1 a2
    cases l' with
    |nil=>rfl
    |cons y l'=>rw[a2.1]at a1;cases a1
   |cons y l ih=>
    intro l' c a1 a2
    cases l' with
    |nil=>have z:=a1.1;rw[show c=_ from a2]at z;cases z
    |cons y' l'=>
     obtain⟨b1,o,ws,b2,b3,b4⟩:=a1
     obtain⟨b1',o',ws',b2',b3',b4'⟩:=a2
     rw[b1]at b1'
     cases b1'
     rw[b2]at b2'
     cases b2'
     rw[b3]at b3'
     cases b3'
     rw[ih l' _ b4 b4']
  rw[uniq l l' _ hl c2']
  exact n1
 refine wpAny_bind (wpAny_holding (JS (s:=⟨hp2,g,d,tk,os⟩) ((o2 h hne).trans hoh) hod auJ apz hne ?_))
 refine wpAny_bind (Bj (i:=2) (x:=Value.ref h) e2' rfl (by simp) ?_)
 refine wpAny_throw (hE _ (λb hb=>?_) ?_)
 .exact(acu _ _ (Ne.symm hb)).trans (o2 b hb)
 .exact nY e2' rfl
end
section
variable{X:Cx}{Kx:St->XK}{D:Ends}{σ:St}{H:Hp}{rest:List ExceptHandler}{pos np ynp cpos rpos p0:Pos}{x y fld:Str}{cls c:Value}{d:Option Addr×Bool}{a:Expr}{as:List Expr}{cc:Bool}{k k' j0:Nat}
theorem Ch.uX{e:Value}{F:Value->Shared->Prop}{pins pins':List (Addr×Obj)}{b:Addr}(c:Ch (X.kW e F (X.pn++pins)) pins' b):Ch X pins b:=⟨c.1,c.2.1,c.2.2.1,λp hp=>c.2.2.2 p (agY _ hp)⟩
theorem M4{F:Value->Shared->Prop}{pins pins':List (Addr×Obj)}{s:Shared}{h:Value}{e:Addr}(hx:ye X Kx)(hst:X.stack=X.env::X.outer)(hf:X.env.frame=some X.env.locals)(ok:X.Ok)(xa:XAt (X.kW h F (X.pn++pins)) pins' σ H s e cls d)(q:Kx σ cls d H):
  notedBy (model X.prog X.w) (X.A.mark (some h)) X.env (cameBackBy (model X.prog X.w) X.A X.env X.xe) (.ref e) s:=by
 unfold notedBy
 refine XAt.note (X:=X.kW h F (X.pn++pins)) xa hst hf λs1 T I1 F1 c1=>?_
 obtain⟨oe,vs,he,hc,hdx,hd,h1,hz,h2,hT⟩:=id F1
 obtain⟨hne,oT,ws,t1,t2,t3⟩:=hT T rfl
 have h3:3<ws.size:=(ahs.mp t3).1
 have h1':vs[1]? =some (Value.ref T):=h1
 unfold cameBackBy
 refine wpAny_bind (wpAny_field he hd h1' ?_)
 rw[if_neg (show ¬((Value.ref T==Value.none)=true)from by simp)]
 unfold setFlight
 refine wpAny_bind (wpAny_field he hd h1' ?_)
 rw[if_pos (show(Value.ref T !=Value.none)=true from by simp),hf]
 refine wpAny_setField t1 t2 h3 ?_
 have I2:=Inv.uX ok I1
 have oth:∀b,b≠T->(s1.heap.update T (Obj.mapFields (·.setIfInBounds 3 (rawInt X.env.locals)))).get? b=s1.heap.get? b:=λb hb=>acu _ _ (Ne.symm hb)
 have Wr:=aeE (Obj.mapFields (·.setIfInBounds 3 (rawInt X.env.locals))) t1 (Obj.isFreed_of_fields (Obj.data_mapFields t2 _))
 have N:wk s1.heap (s1.heap.update T (Obj.mapFields (·.setIfInBounds 3 (rawInt X.env.locals)))) [T] (Bq X.stack):=by
  refine⟨λb o q _ n=>(oth b (λz=>n (by simp[z]))).trans q,λb o q n=>⟨o.slots,(oth b (λz=>n (by simp[z]))).trans q⟩,λb o q=>?_⟩
  by_cases z:b=T
  .subst z;exact⟨_,Wr⟩
  .exact⟨o,(oth b z).trans q⟩
 have ch:∀b∈[e,T],H b=none/\Ch X pins b:=λb hb=>⟨(c1 b hb).1,(c1 b hb).2.uX⟩
 refine hx pins σ H _ e cls d ⟨I2.noted N λb hb=>?_,some T,rawInt X.env.locals,⟨oe,vs,(oth e (Ne.symm hne)).trans he,hc,hdx,hd,h1,hz,h2.stay λv o ws' hv q1 q2=>?_,λT' eT=>?_⟩,.inr ⟨rfl,rfl⟩,λb hb=>ch b (by simpa using hb)⟩ q
 .have z:b=T:=by simpa using hb
  subst z
  exact ch b (by simp)
 .by_cases z:v=T
  .subst z
   rw[t1]at q1
   cases q1
   exact⟨_,_,Wr,Obj.data_mapFields q2 _,by rw[ae3 (by decide)]⟩
  .exact⟨o,ws',(oth v z).trans q1,q2,rfl⟩
 .cases eT
  exact⟨hne,_,_,Wr,Obj.data_mapFields t2 _,by simp[h3]⟩
theorem Pk{pins:List (Addr×Obj)}{s:Shared}(I:Inv X pins σ H s){e:Addr}{oe:Obj}{vs:Array Value}(he:s.heap.get? e=some oe)(hd:oe.data= .fields vs):e∉X.fs:=λm=>by
 obtain⟨_,o,ho,nf⟩:=I.funs.mem m
 rw[he]at ho
 cases ho
 exact nf vs hd
theorem Np{M:Model}{A:Around}{E:Value->Shared->Prop}{env:Env}{p p':Pos}{j:Nat}(P:Value->Shared->Prop)(s:Shared)(h:P .none s):wpAny M A (do let v<-eval (.Constant .none j p) env;standAt p';pure v) P E s:=
 wpAny_bind (Constant_none (wpAny_bind (wpAny_standAt (wpAny_pure h))))
theorem Tq(hx:ye X Kx)(hst:X.stack=X.env::X.outer)(hf:X.env.frame=some X.env.locals)(hg:Gl X x)(hm:X.mg x=some c)(hd:(x==("__debug__":Str))=false)(ex:akp X.K cls c=some true)(hd2:d.2=true)
  (O:Xn X.prog X.w X.K X.mg X.base false k y fld) (hr:fB cc k' X.A) (hk:k+1≤k') (hgy:Gl X y) (hdy:(y==("__debug__":Str))=false) (he:starEach (a::as) X.env=(false,eval a X.env)::starEach as X.env)
  (hpl:(backTo cpos (starEach as X.env)).any (·.1)=false)
  (h:∀e pn,EA (X.kW (.ref e) (λ_ _=>False) pn) (a::as) σ H λvs H1=>∃n,vs=[.int n]/\n.natAbs<10^60/\∀E' H',au H1 H'->H' E'=some (.xd [(fld,.int n)])->Kx σ (.ref (ak X.mg y)) (some E',false) H'):
  EH X (.ExceptHandler (some (.Name x np)) none [.Raise (some (.Call (.Name y ynp) (a::as) [] cpos)) (some (.Constant .none j0 p0)) rpos] pos::rest) D σ cls d H:=by
 intro pins s e T I F ch
 refine wpAny_handleBy_cons (Nx I F hg hm hd ex ?_) (by intro q;cases q)
 refine codeAny_handlers_suite (I.off F ch λs2 I2 F2=>?_)
 obtain⟨oe,Wy,hoe,hcl,hdx,hdt,_,hsz2,WD,_⟩:=F2
 obtain⟨f,fd,ps,oc,od,osl,Fn,hb,hi,hlk,hoc⟩:=O.ex
 obtain⟨bm,N,nm,q,bs,hdct,sn,sub,ab,col,dd,k0,k1,k2,k3,k5,mN,hC,hN,hni,T'⟩:=Ek I.ok.mod.kin hi
 obtain⟨c0,c1⟩:=ch e (by simp)
 let Y:Cx:=X.kW (.ref e) (λ_ _=>False) (X.pn++pins)
 have J0:Inv Y [] σ H s2:=I2.kW
 have J:Inv Y [(e,oe)] σ H s2:=J0.pins_of λp hp=>by
  have z:p=(e,oe):=by simpa using hp
  subst z
  exact⟨hoe,c0,c1.2.1,Pk I2 hoe hdt,λv z=>by rw[hdt]at z;cases z⟩
 have hr':fB false (k+1) Y.A:=⟨(λz=>nomatch z),(hr.mono hk).dp,(hr.mono hk).un⟩
 refine wpAny_execs_cons (wpAny_mono (Q:=λ_ _=>False) (E:=notedBy (model X.prog X.w) (X.A.mark (some (.ref e))) X.env (cameBackBy (model X.prog X.w) X.A X.env X.xe)) ?_ (λ_ _ z=>z.elim) λ_ _ z=>z)
 rw[arm_exec_Raise]
 refine wpAny_bind (wpAny_standAt (rG (h:=e) (C:=ak X.mg y) (nm:=nm) (q:=q) (N:=N) (bs:=bs) (bm:=bm) (hdct:=hdct) (sn:=sn) (sub:=sub) (ab:=ab) (col:=col) (dd:=dd) (k0:=k0) (k1:=k1) (k2:=k2) (k3:=k3) (k5:=k5) (T'.hasType (by decide+kernel)) rfl (λP s' hP=>Np P s' hP) ?_))
 refine wpAny_bind (wpAny_mono (wpAny_Call_ofName (iz (X:=Y) J hgy O.at_ ?_ hdy)) (λv s₃ h₃=>wpAny_bind (wpAny_standAt (wpAny_pure h₃))) λ_ _ x=>x)
 unfold callWith
 have h':=h e (X.pn++pins) cpos [(e,oe)] s2 J
 have he':starEach (a::as) Y.env=(false,eval a Y.env)::starEach as Y.env:=he
 show wpAny _ _ (holding _ (evalArgs _ _ (backTo cpos (starEach (a::as) Y.env)) _)>>=_) _ _ _
 rw[he']at h'⊢
 refine wpAny_bind (wpAny_holding (Calls.evalArgs_plain (wpAny_mono h' (λus s3 hu=>wpAny_bind (wpAny_standAt ?_)) λ_ _ z=>z.elim)))
 obtain⟨vs,H1,J2,r,n,ev,hn,kq⟩:=hu
 subst ev
 obtain⟨u,rfl,ru⟩:=vals1 r
 obtain⟨hp,g,d3,tk,os⟩:=s3
 have hpl':(backTo cpos ((false,eval a Y.env)::starEach as Y.env)).any (·.1)=false:=by
  show(false||(backTo cpos (starEach as X.env)).any (·.1))=false
  rw[hpl]
  rfl
 simp only[hpl']
 have hC3:=J2.bk _ _ hC
 refine wpAny_bind (wpAny_keeperOf_exc hC3 ?_)
 refine wpAny_bind (Ia (T'.keeps J2.bk) hC3 (hN.keeps J2.bk) hni (J2.kIn _ _ hlk) hoc (λh3 b M=>?_) (by show 1≤sizeLine;rw[sizeLine_eq];decide))
 obtain⟨t,m1,m2,m3⟩:=M.there
 have hfree:H1 b=none:=J2.hok.free M.new
 have hch:Ch Y [(e,oe)] b:=J2.ch M.new
 have J3:Inv Y [(e,oe)] σ H1 ⟨h3,g,d3,tk,os⟩:=J2.kept (t':=tk) M.keeps
 have J4:Inv Y [(e,oe)] σ (upd H1 b (xo b (ak X.mg y) none)) ⟨h3,g,d3,tk,os⟩:=J3.adopt hfree hch (Nf m1)
 have rv:Vals [V.ref b,.int n] [Value.ref b,u]:=.cons rfl (.cons ru .nil)
 have hsp:M6 (ak X.mg y) fld [V.ref b,.int n] (upd H1 b (xo b (ak X.mg y) none)) (λv H'=>v= .non/\∃E',H' b=some (xo b (ak X.mg y) (some E'))/\H' E'=some (.xd [(fld,.int n)])/\E'≠b/\∀c o,c≠b->H1 c=some o->H' c=some o) (λ_ _ _=>False):=
  ⟨b,n,rfl,hn,ao,λE' H' h1 h2 h3' h4 h5=>⟨rfl,E',h4,h5,h1,λc o hb q=>h3' c o hb (by rw[aF hb];exact q)⟩⟩
 have hl:([Value.ref b,u]:List Value).length=ps.length:=by rw[<-rv.length];exact Fn.len _ _ _ _ hsp
 have hb':=hb ⟨h3,g,d3,tk,os⟩ [Value.ref b,u] J4.kIn (by simpa using hl)
 rw[List.append_nil]at hb'
 refine wpAny_call (codeAny_mono (Fn.run (Y.A.under (.builtin "type.__call__" ⟨.ref (ak X.mg y)::[u],[]⟩)) Y.stack ⟨h3,g,d3,tk,os⟩ _ ⟨[Value.ref b,u],[]⟩ [Value.ref b,u] [V.ref b,.int n] _ (λ_ _ _=>False) (hr'.make (ak X.mg y) [u] [])
  (J4.env0.make (ak X.mg y) [u] []) hb' rv hsp) λr s' hq=>?_)
 cases r with
 |error e=>exact(CK.never hq).elim
 |ok fl=>
  cases fl with
  |ret v=>
   obtain⟨v',H',J5,rr,ev,E',g1,g2,g3,g4⟩:=J4.after hq
   subst ev
   refine⟨rr,?_⟩
   obtain⟨⟨t',ht'⟩,_,_⟩:=J5.hok b _ g1
   have J6:=J5.forget g1 hch
   have pe:=J6.pin (e,oe) (aew _ (aeG.mpr rfl))
   have hbe:e≠b:=λz=>by
    have h0:=(J2.pin (e,oe) (aew _ (aeG.mpr rfl))).1
    rw[z]at h0
    rw[show hp.get? b=none from M.new]at h0
    cases h0
   have hnone:Wy[2]? =some Value.none:=WD.1 hd2
   refine wpAny_bind (wpAny_holding (wpAny_point (wpAny_pure ⟨b,t',some E',oe,Wy,true,rfl,J5.bk _ _ hC,ht',hbe,pe.1,hdt,Ctx.yes hnone,λl hl z=>?_,λh7 o7 e7=>?_⟩)))
   .rw[hnone]at hl
    cases l with
    |nil=>simp at z
    |cons y l=>exact absurd hl.1 (by simp)
   .have N7:wk s'.heap h7 [b] (Bq Y.stack):=by
     refine⟨λc o q _ n=>(o7 c λz=>n (by simp[z])).trans q,λc o q n=>⟨o.slots,(o7 c λz=>n (by simp[z])).trans q⟩,λc o q=>?_⟩
     by_cases z:c=b
     .subst z;exact⟨_,e7⟩
     .exact⟨o,(o7 c z).trans q⟩
    have J7:Inv Y [(e,oe)] σ (lM H' b) {s' with heap:=h7}:=J6.noted N7 λc hc=>by
     have z:c=b:=by simpa using hc
     subst z
     exact⟨pU,hch⟩
    refine M4 (F:=λ_ _=>False) (pins:=pins) (pins':=[(e,oe)]) (σ:=σ) (H:=lM H' b) (cls:=.ref (ak X.mg y)) (d:=(some E',false)) hx hst hf I.ok ⟨J7,none,.none,⟨_,_,e7,rfl,rfl,rfl,rfl,by simp,⟨(λz=>nomatch z),[e],⟨rfl,oe,Wy,(o7 e hbe).trans pe.1,hdt,hnone⟩,by simpa using Ne.symm hbe,by simp⟩,(λT z=>nomatch z)⟩,.inl rfl,λc hc=>?_⟩ (kq E' _ (λc o q=>?_) ?_)
    .have z:c=b:=by simpa using hc
     subst z
     exact⟨pU,hch⟩
    .have hcb:c≠b:=aB q hfree
     rw[fU hcb]
     exact g4 c o hcb q
    .rw[fU g3]
     exact g2
  |next=>exact False.elim hq
  |brk=>exact False.elim hq
  |cont=>exact False.elim hq
end
end L2
namespace L2
open PySem PySem.Spec PyProof.Rows PySem.Builtin PySem.Builtin.Str
def Il(p:Nat->Bool):Nat->Option Nat
 |0=>none
 |n+1=>if p n=true then some n else Il p n
theorem zH(p:Nat->Bool):∀n,(agj n).foldl (λlast i=>if p i=true then some i else last) none=Il p n
 |0=>rfl
 |n+1=>by
  rw[auA,ar4,zH p n]
  rfl
theorem zT(p:Nat->Prop) [DecidablePred p]:∀(l:List Nat) (b:Option Nat),(forIn (m:=Id) l b λi s=>if p i then pure (ForInStep.yield (some i))else pure (ForInStep.yield s)).run=l.foldl (λlast i=>if p i then some i else last) b
 |[],b=>rfl
 |a::l,b=>by
  rw[List.forIn_cons,List.foldl_cons, <-zT p l]
  by_cases h:p a
  .simp only[if_pos h]
   rfl
  .simp only[if_neg h]
   rfl
theorem wF(x y:Str):lastOccurrence x y 0 x.length=Il (λi=>decide (i+y.length≤x.length)&&subAt x y i) (x.length+1):=by
 unfold lastOccurrence
 rw[<-zH]
 simp[List.range_eq_range']
 exact zT (λi=>i+y.length≤x.length/\subAt x y i=true) _ none
theorem Bb{p:Nat->Bool}:∀{n:Nat},(∀i,i<n->p i=false)->Il p n=none
 |0,_=>rfl
 |n+1,h=>by
  show(if p n=true then _ else _)=_
  rw[if_neg (by rw[h n (by omega)];decide)]
  exact Bb λi hi=>h i (by omega)
theorem Ag{p:Nat->Bool}{k:Nat}:∀{n:Nat},k<n->p k=true->(∀i,k<i->i<n->p i=false)->Il p n=some k
 |n+1,hk,hp,h=>by
  show(if p n=true then _ else _)=_
  by_cases e:k=n
  .subst e
   rw[if_pos hp]
  .rw[if_neg (by rw[h n (by omega) (by omega)];decide)]
   exact Ag (by omega) hp λi h1 h2=>h i h1 (by omega)
theorem Kc(x:Str)(c i:Nat):(decide (i+(⟨#[c]⟩:Str).length≤x.length)&&subAt x ⟨#[c]⟩ i)=decide (x.cps.toList[i]? =some c):=by
 rw[ail,aaP,decide_eq_true_iff,decide_eq_true_iff]
 exact StrLaws.subAt_one x c i
theorem zV{z:Str}{c:Nat}{b w:List Nat}(h:z.cps.toList=b++c::w)(hw:c∉w):Txt.rpartition z ⟨#[c]⟩=(⟨b.toArray⟩,⟨#[c]⟩,⟨w.toArray⟩):=by
 have hlen:z.length=b.length+1+w.length:=by
  have :z.cps.toList.length=z.length:=rfl
  rw[<-this,h,ace,List.length_cons]
  omega
 have hl:lastOccurrence z ⟨#[c]⟩ 0 z.length=some b.length:=by
  rw[wF]
  refine Ag (by omega) ?_ λi h1 h2=>?_
  .rw[Kc,h,decide_eq_true_iff,aki (aaO _),av6]
   rfl
  .rw[Kc,h,decide_eq_false_iff_not,aki (by omega)]
   intro e
   obtain⟨j,hj⟩:∃j,i-b.length=j+1:=⟨i-b.length-1,by omega⟩
   rw[hj,List.getElem?_cons_succ]at e
   exact hw (aaR e)
 have ez:z=⟨(b++c::w).toArray⟩:=by
  obtain⟨⟨l⟩⟩:=z
  have :l=b++c::w:=h
  rw[this]
 have e1:strSub z 0 b.length=⟨b.toArray⟩:=by
  unfold strSub
  rw[ez]
  simp
 have e2:strSub z (b.length+(⟨#[c]⟩:Str).length) z.length=⟨w.toArray⟩:=by
  have l1:(⟨#[c]⟩:Str).length=1:=rfl
  rw[l1,hlen]
  unfold strSub
  rw[ez]
  simp[List.extract_eq_take_drop,atX]
  rw[aj7 (by omega),akM,aj4]
 have un:Txt.rpartition z ⟨#[c]⟩=(match lastOccurrence z ⟨#[c]⟩ 0 z.length with
  |some i=>(strSub z 0 i,⟨#[c]⟩,strSub z (i+(⟨#[c]⟩:Str).length) z.length)
  |none=>(Str.empty,Str.empty,z)):=rfl
 rw[un,hl]
 show(strSub z 0 b.length,_,strSub z (b.length+(⟨#[c]⟩:Str).length) z.length)=_
 rw[e1,e2]
theorem R6{z:Str}{c:Nat}(h:c∉z.cps.toList):Txt.rpartition z ⟨#[c]⟩=(Str.empty,Str.empty,z):=by
 have hl:lastOccurrence z ⟨#[c]⟩ 0 z.length=none:=by
  rw[wF]
  refine Bb λi hi=>?_
  rw[Kc,decide_eq_false_iff_not]
  exact λe=>h (aaR e)
 unfold Txt.rpartition
 rw[hl]
section
variable{X:Cx}{H:Hp}{Q:VK}{z:Str}
theorem Ec{c:Nat}(hz:z.length≤100000)(g:∀p,H p=none->Q (.ref p) (upd H p (.tup [.str (Txt.rpartition z ⟨#[c]⟩).1,.str (Txt.rpartition z ⟨#[c]⟩).2.1,.str (Txt.rpartition z ⟨#[c]⟩).2.2]))):MT X "str.rpartition" (.str z) [.str ⟨#[c]⟩] H Q:=by
 refine j9 (r:=λx xs H Q=>∃z c,x= .str z/\xs=[.str ⟨#[c]⟩]/\z.length≤100000/\∀p,H p=none->Q (.ref p) (upd H p (.tup [.str (Txt.rpartition z ⟨#[c]⟩).1,.str (Txt.rpartition z ⟨#[c]⟩).2.1,.str (Txt.rpartition z ⟨#[c]⟩).2.2]))) ?_ ⟨z,c,rfl,rfl,hz,g⟩
 intro pins s σ H x xs v us Q I rx rs h
 obtain⟨z,c,rfl,rfl,hz,g⟩:=h
 obtain⟨t,rfl⟩:=rx
 obtain⟨u,rfl,ru⟩:=vals1 rs
 obtain⟨t',rfl⟩:=ru
 have hsz:=sizeLine_eq
 have fin:∀(a b c':Str) (ta tb tc:Tok) (tk:Nat),a=(Txt.rpartition z ⟨#[c]⟩).1->b=(Txt.rpartition z ⟨#[c]⟩).2.1->c'=(Txt.rpartition z ⟨#[c]⟩).2.2->EP X pins σ Q (.ref s.heap.objs.size) {s with toks:=tk,heap:=s.heap.push {cls:=.type "tuple",data:=.seq [Value.str a ta,.str b tb,.str c' tc].toArray}}:=λa b c' ta tb tc tk ea eb ec=>by
  subst ea eb ec
  refine⟨.ref s.heap.objs.size,_,I.laid (t':=tk) (o:=.tup [.str (Txt.rpartition z ⟨#[c]⟩).1,.str (Txt.rpartition z ⟨#[c]⟩).2.1,.str (Txt.rpartition z ⟨#[c]⟩).2.2]) (λb o q=>Heap.get?_push_of_some _ q) (aaO _) ?_,rfl,g _ (I.hok.fresh (aaO _))⟩
  exact⟨by show 3≤sizeLine;omega,_,.cons ⟨ta,rfl⟩ (.cons ⟨tb,rfl⟩ (.cons ⟨tc,rfl⟩ .nil)),IsTup.new _ _⟩
 refine call_meets F.slot_str_rpartition (typeIs_str _ _ _) F.entry_str_rpartition (F.args_str_rpartition_2 _ _) (meets_str_rpartition z ⟨#[c]⟩ t t' rfl (by omega)) ?_
 have h':=fin
 unfold Txt.rpartition at h'
 revert h'
 cases lastOccurrence z ⟨#[c]⟩ 0 z.length with
 |none=>intro h';exact h' _ _ _ _ _ _ _ rfl rfl rfl
 |some i=>intro h';exact h' _ _ _ _ _ _ _ rfl rfl rfl
end
end L2
namespace L2
open PySem PySem.Spec PyProof.Rows
def gr(keep:Nat->Bool)(val:Nat->V)(n:Nat):List V:=((agj n).filter keep).map val
theorem K4(keep:Nat->Bool)(val:Nat->V)(n:Nat):gr keep val (n+1)=gr keep val n++(if keep n=true then [val n]else []):=by
 unfold gr
 rw[auA,List.filter_append,agi]
 by_cases h:keep n=true
 .simp[h]
 .have h':keep n=false:=by simpa using h
  simp[h']
theorem Df(keep:Nat->Bool)(val:Nat->V)(n:Nat):(gr keep val n).length≤n:=by
 unfold gr
 rw[aar]
 have :=List.length_filter_le keep (agj n)
 rw[akx]at this
 exact this
section
variable{X:Cx}{e c:Expr}{σ σ':St}{H:Hp}{Q:VK}{D:Ends}{pos spos py:Pos}{tg elt:Expr}{scope:Scope}{y:Str}{j:Nat}
def VN(X:Cx)(N':List Str)(scope:Scope)(tg elt c:Expr)(σ':St)(H1:Hp)(Q:VK)(xs:List V):Prop:=
 ∃(Tp:St->Prop) (keep:Nat->Bool) (val:Nat->V),Tp σ'/\
  (∀(fp:List Addr) (E C:Addr) (s3:Shared) (H0:Hp) (i:Nat) (τ:St) (x:V) (H2:Hp),H1 E=none->xs[i]? =some x->Tp τ->au H1 H2->
   EG (CV X N' scope (cN scope X.env) C s3 H0 fp) tg x τ H2 λτ2 H3=>ET (CV X N' scope (cN scope X.env) C s3 H0 fp) c τ2 H3 λk H4=>k=keep i/\Tp τ2/\au H2 H4/\(k=true->EV (CV X N' scope (cN scope X.env) C s3 H0 fp) elt τ2 H4 λv H5=>v=val i/\au H4 H5))/\
  ∀(E:Addr) (H2:Hp),H1 E=none->H2 E=some (.lst (gr keep val xs.length))->au H1 H2->Q (.ref E) H2
theorem Z3{N':List Str}{l:Addr}{xs:List V}(hn:xs.length≤sizeLine)(hl:aX X.K H l xs)(h:VN X N' scope tg elt c σ' H Q xs):
  ∀(fp:List Addr) (E C:Addr) (s3:Shared),H E=none->p8 X (CV X N' scope (cN scope X.env) C s3 (upd H E (.lst [])) fp) tg elt [c] (YT X.K l) E σ' H (λH'=>Q (.ref E) H'):=by
 intro fp E C s3 hE
 obtain⟨Tp,keep,val,t0,step,fin⟩:=h
 refine⟨λi m τ H1=>m=xs.length-i/\i≤xs.length/\au H H1/\Tp τ/\H1 E=some (.lst (gr keep val i)),⟨xs.length,by simp,ahE _,au.upd hE,t0,ao⟩,?_⟩
 rintro i m τ H1 ⟨rfl,hi,s1,hτ,eE⟩
 by_cases hlt:i<xs.length
 .refine .inr ⟨⟨xs,xs[i],au.seq s1 hl,aak hlt⟩,λτ' H'=>au H H'/\Tp τ'/\H' E=some (.lst (gr keep val (i+1))),λτ' H' ⟨a,b,d⟩=>⟨xs.length-(i+1),by omega,rfl,hlt,a,b,d⟩,λx H2 yl=>?_⟩
  have hx:xs[i]? =some x:=yl.2 xs (au.seq s1 hl)
  have hH:H2=H1:=yl.1
  subst hH
  intro pins s u I r
  refine cZ (step fp E C s3 _ i τ x _ hE hx hτ s1 pins s u I r) λ_ s' ⟨τ2,H3,I3,q3⟩=>⟨τ2,H3,I3,Tw ?_⟩
  refine λpins s I=>cZ (q3 pins s I) λk s' ⟨H4,I4,hk,t2,s2,q⟩=>⟨H4,I4,?_⟩
  subst hk
  have eK:=K4 keep val i
  have hkl:=Df keep val i
  by_cases hkp:keep i=true
  .rw[if_pos hkp]
   rw[if_pos hkp]at eK
   refine bV (q hkp) λv H5 ⟨ev,s5⟩=>⟨gr keep val i,s5 _ _ (s2 _ _ eE),by omega,?_⟩
   subst ev
   refine⟨λb o e=>?_,t2,by rw[ao,eK]⟩
   rw[aF (aB e hE)]
   exact s5 _ _ (s2 _ _ (s1 _ _ e))
  .rw[if_neg hkp]
   rw[if_neg hkp,List.append_nil]at eK
   exact⟨s1.trans s2,t2,by rw[eK];exact s2 _ _ eE⟩
 .have e:i=xs.length:=by omega
  subst e
  exact .inl ⟨⟨xs,au.seq s1 hl,aaO _⟩,fin E H1 hE eE s1⟩
theorem U9(N':List Str)(hσ:gA N' X.N σ scope=σ')(hc:X.calm=true)(S:dw X.env scope)(hs:∀x,foldedSetIterable e X.env x=pure x)
  (h:EV X e σ H λv H1=>∃l xs,v= .ref l/\aX X.K H1 l xs/\xs.length≤sizeLine/\VN X N' scope tg elt c σ' H1 Q xs):
  EV X (.ListComp elt [⟨tg,e,[c],0⟩] scope pos) σ H Q:=by
 refine rY (N':=N') hc S hs (sH (bV h λv H1 q=>?_))
 obtain⟨l,xs,rfl,hl,hz,hw⟩:=q
 refine⟨l,rfl,⟨xs,hl⟩,?_⟩
 rw[hσ]
 exact Z3 hz hl hw
theorem VG(N':List Str)(hσ:gA N' X.N σ scope=σ')(hsw:swapsWith (.ListComp elt [⟨tg,e,[c],0⟩] scope pos) (some (.Name y py)) spos.line X.env=pure true)(hc:X.calm=true)(S:dw X.env scope)(hs:∀x,foldedSetIterable e X.env x=pure x)
  (hN:X.N.Nodup) (hi:nameAt X.N y=some j) (hx:X.env.scope.names.lookup y=some .local)
  (h:EV X e σ H λv H1=>∃l xs,v= .ref l/\aX X.K H1 l xs/\xs.length≤sizeLine/\VN X N' scope tg elt c σ' H1 (λv H'=>D.nx (σ.set j (some v)) H') xs):
  SX X (.Assign [.Name y py] (.ListComp elt [⟨tg,e,[c],0⟩] scope pos) spos) D σ H:=by
 refine Mz (N':=N') hsw hc S hs hN hi hx (sH (bV h λv H1 q=>?_))
 obtain⟨l,xs,rfl,hl,hz,hw⟩:=q
 refine⟨l,rfl,⟨xs,hl⟩,?_⟩
 rw[hσ]
 exact Z3 (Q:=λv H'=>D.nx (σ.set j (some v)) H') hz hl hw
theorem Qo(hc:X.calm=true):uf X (.builtin "min") (λxs H Q=>∃i j k,xs=[.int i,.int j,.int k]/\∀m,(m=i\/m=j\/m=k)->m≤i->m≤j->m≤k->Q (.int m) H):=by
 intro pins s σ H xs us Q I r h
 obtain⟨i,j,k,rfl,q⟩:=h
 obtain⟨u,w',y',rfl,⟨t,rfl⟩,⟨t',rfl⟩,⟨t'',rfl⟩⟩:=vals3 r
 refine min_three_ints (I.ok.hd hc) λh' tk kp=>?_
 split
 .split
  .exact⟨.int k,H,I.kept kp,⟨_,rfl⟩,q k (by omega) (by omega) (by omega) (by omega)⟩
  .exact⟨.int j,H,I.kept kp,⟨_,rfl⟩,q j (by omega) (by omega) (by omega) (by omega)⟩
 .split
  .exact⟨.int k,H,I.kept kp,⟨_,rfl⟩,q k (by omega) (by omega) (by omega) (by omega)⟩
  .exact⟨.int i,H,I.kept kp,⟨_,rfl⟩,q i (by omega) (by omega) (by omega) (by omega)⟩
theorem aec{i j k:Int}(hc:X.calm=true)(g:∀m,(m=i\/m=j\/m=k)->m≤i->m≤j->m≤k->Q (.int m) H):CL X (.builtin "min") [.int i,.int j,.int k] H Q:=jN (Qo hc) ⟨i,j,k,rfl,g⟩
end
section
variable{X:Cx}{e c:Expr}{es:List Expr}{σ σ':St}{H:Hp}{Q:VK}{D:Ends}{p pos spos py:Pos}{tg elt:Expr}{scope:Scope}{y:Str}{j:Nat}
end
theorem fu.keeps{h h':Heap}{e:Addr}{cls:Value}{d:Option Addr×Bool}{tb:Option Addr}{fl:Value}(F:fu h e cls d tb fl)(k:∀b o,h.get? b=some o->h'.get? b=some o):fu h' e cls d tb fl:=by
 obtain⟨oe,vs,he,hc,hdx,hd,h1,hz,hx,ht⟩:=F
 refine⟨oe,vs,k _ _ he,hc,hdx,hd,h1,hz,hx.stay λv o ws _ q1 q2=>⟨o,ws,k _ _ q1,q2,rfl⟩,λT e=>?_⟩
 obtain⟨hne,oT,ws,t1,t2,t3⟩:=ht T e
 exact⟨hne,oT,ws,k _ _ t1,t2,t3⟩
theorem dF.uniq{h:Heap}:∀(l l':List Addr) (c:Option Value),dF h c l->dF h c l'->l=l'
 |[],[],_,_,_=>rfl
 |[],y::l',c,a1,a2=>by rw[a2.1]at a1;cases a1
 |y::l,[],c,a1,a2=>by have z:=a1.1;rw[show c=_ from a2]at z;cases z
 |y::l,y'::l',c,a1,a2=>by
  obtain⟨b1,o,ws,b2,b3,b4⟩:=a1
  obtain⟨b1',o',ws',b2',b3',b4'⟩:=a2
  rw[b1]at b1'
  cases b1'
  rw[b2]at b2'
  cases b2'
  rw[b3]at b3'
  cases b3'
  rw[dF.uniq l l' _ b4 b4']
section
variable{X:Cx}{Kx:St->XK}{D:Ends}{σ:St}{H:Hp}{rest:List ExceptHandler}{pos ynp cpos rpos p0 p1 p2 p3 tpos zp:Pos}{x1 x2 x3 y z:Str}{cls c1 c2 c3:Value}{d:Option Addr×Bool}{kk j0 j1:Nat}{name:Option Str}{body:List Stmt}
theorem Gm{pins:List (Addr×Obj)}{s:Shared}{e:Addr}{tb:Option Addr}{fl:Value}{k:Bool}{R:Result->Shared->Prop}(I:Inv X pins σ H s)(F:fu s.heap e cls d tb fl)
  (hg1:Gl X x1) (hm1:X.mg x1=some c1) (hd1:(x1==("__debug__":Str))=false) (hg2:Gl X x2) (hm2:X.mg x2=some c2) (hd2:(x2==("__debug__":Str))=false) (hg3:Gl X x3) (hm3:X.mg x3=some c3) (hd3:(x3==("__debug__":Str))=false)
  (ex:auk X.K cls [c1,c2,c3]=some k) (h:∀h',(∀q o,s.heap.get? q=some o->h'.get? q=some o)->R (.ok (if k then .brk else .next)) {s with heap:=h'}):
  codeAny (model X.prog X.w) (X.A.mark (some (.ref e))) (.handlers (.ref e) [.ExceptHandler (some (.Tuple [.Name x1 p1,.Name x2 p2,.Name x3 p3] kk tpos)) none [] pos] X.env) R s:=by
 refine codeAny_handlers_test ?_
 have J:Inv (X.kW (.ref e) X.xe (X.pn++pins)) [] σ H s:=I.kW
 refine wpAny_Tuple ?_
 refine wpAny_items_cons (iz (X:=X.kW (.ref e) X.xe (X.pn++pins)) J hg1 hm1 ?_ hd1)
 refine wpAny_items_cons (iz (X:=X.kW (.ref e) X.xe (X.pn++pins)) J hg2 hm2 ?_ hd2)
 refine wpAny_items_cons (iz (X:=X.kW (.ref e) X.xe (X.pn++pins)) J hg3 hm3 ?_ hd3)
 refine wpAny_items_nil ⟨by size_fits,?_⟩
 have kp:∀q o,s.heap.get? q=some o->(s.heap.push {cls:=.type "tuple",data:=.seq [c1,c2,c3].toArray}).get? q=some o:=λ_ _ z=>Heap.get?_push_of_some _ z
 exact(W.exm_tup3 (I.kIn.keeps kp) (F.ty.keeps kp) (aez s.heap rfl) ex).here (h _ kp)
theorem RV(hg1:Gl X x1)(hm1:X.mg x1=some c1)(hd1:(x1==("__debug__":Str))=false)(hg2:Gl X x2)(hm2:X.mg x2=some c2)(hd2:(x2==("__debug__":Str))=false)(hg3:Gl X x3)(hm3:X.mg x3=some c3)(hd3:(x3==("__debug__":Str))=false)
  (ex:auk X.K cls [c1,c2,c3]=some false) (h:EH X rest D σ cls d H):EH X (.ExceptHandler (some (.Tuple [.Name x1 p1,.Name x2 p2,.Name x3 p3] kk tpos)) name body pos::rest) D σ cls d H:=by
 intro pins s e T I F ch
 refine wpAny_handleBy_cons (Gm I F hg1 hm1 hd1 hg2 hm2 hd2 hg3 hm3 hd3 ex λh' kp=>?_) (by intro q;cases q)
 exact h pins _ e T (I.kept (t':=s.toks) kp) (F.keeps kp) ch
theorem Ay(hx:ye X Kx)(hst:X.stack=X.env::X.outer)(hf:X.env.frame=some X.env.locals)(hg1:Gl X x1)(hm1:X.mg x1=some c1)(hd1:(x1==("__debug__":Str))=false)(hg2:Gl X x2)(hm2:X.mg x2=some c2)(hd2:(x2==("__debug__":Str))=false)(hg3:Gl X x3)(hm3:X.mg x3=some c3)(hd3:(x3==("__debug__":Str))=false)
  (ex:auk X.K cls [c1,c2,c3]=some true) (O:Pb X.K X.mg y) (hgy:Gl X y) (hdy:(y==("__debug__":Str))=false)
  (kq:Kx σ (.ref (ak X.mg y)) (none,false) H):
  EH X (.ExceptHandler (some (.Tuple [.Name x1 p1,.Name x2 p2,.Name x3 p3] kk tpos)) none [.Raise (some (.Call (.Name y ynp) [.Constant (.str z) j1 zp] [] cpos)) (some (.Constant .none j0 p0)) rpos] pos::rest) D σ cls d H:=by
 intro pins s e T I F ch
 refine wpAny_handleBy_cons (Gm I F hg1 hm1 hd1 hg2 hm2 hd2 hg3 hm3 hd3 ex λh' kp=>?_) (by intro q;cases q)
 refine codeAny_handlers_suite ((I.kept (t':=s.toks) kp).off (F.keeps kp) ch λs2 I2 F2=>?_)
 obtain⟨oe,Wy,hoe,hcl,hdx,hdt,_,hsz2,WD,_⟩:=F2
 obtain⟨bm,N,nm,q,bs,hdct,sn,sub,ab,col,dd,k0,k1,k2,k3,k5,mN,hC,hN,hni,T'⟩:=Lz I2.ok.mod.kin O.ex
 let Y:Cx:=X.kW (.ref e) (λ_ _=>False) (X.pn++pins)
 have J:Inv Y [] σ H s2:=I2.kW
 refine wpAny_execs_cons (wpAny_mono (Q:=λ_ _=>False) (E:=notedBy (model X.prog X.w) (X.A.mark (some (.ref e))) X.env (cameBackBy (model X.prog X.w) X.A X.env X.xe)) ?_ (λ_ _ z=>z.elim) λ_ _ z=>z)
 rw[arm_exec_Raise]
 refine wpAny_bind (wpAny_standAt (rG (h:=e) (C:=ak X.mg y) (nm:=nm) (q:=q) (N:=N) (bs:=bs) (bm:=bm) (hdct:=hdct) (sn:=sn) (sub:=sub) (ab:=ab) (col:=col) (dd:=dd) (k0:=k0) (k1:=k1) (k2:=k2) (k3:=k3) (k5:=k5) (T'.hasType (by decide+kernel)) rfl (λP s' hP=>Np P s' hP) ?_))
 refine wpAny_bind (wpAny_mono (wpAny_Call_ofName (iz (X:=Y) J hgy O.at_ ?_ hdy)) (λv s₃ h₃=>wpAny_bind (wpAny_standAt (wpAny_pure h₃))) λ_ _ x=>x)
 unfold callWith
 refine wpAny_bind (wpAny_holding (Calls.evalArgs_plain (Calls.spliced_cons (Calls.Constant_str (k:=j1) (pos:=zp) (Calls.spliced_nil (wpAny_bind (wpAny_standAt ?_)))))))
 have Wm:=J.bk _ _ hC
 have hN2:=hN.keeps J.bk
 have T2:=T'.keeps J.bk
 obtain⟨hp,g,d3,tk,os⟩:=s2
 have hpl':(backTo cpos (starEach [Expr.Constant (Const.str z) j1 zp] X.env)).any (·.1)=false:=rfl
 simp only[hpl']
 refine wpAny_bind (wpAny_keeperOf_exc Wm ?_)
 refine wpAny_bind (wpAny_call_exc_subT (hrest:=by show 1≤sizeLine;rw[sizeLine_eq];decide) PySem.F.excBase_ValueError T2 Wm hN2 hni λh3 b M=>wpAny_bind (wpAny_holding (wpAny_point (wpAny_pure ?_))))
 obtain⟨t,m1,m2,m3⟩:=M.there
 have hbe:e≠b:=λw=>by
  have h0:=hoe
  rw[w,show hp.get? b=none from M.new]at h0
  cases h0
 have J3:Inv Y [] σ H ⟨h3,g,d3,tk+1,os⟩:=J.kept (t':=tk+1) M.keeps
 have kk2:∀v o ws,v≠e->hp.get? v=some o->o.data= .fields ws->∃o' ws',h3.get? v=some o'/\o'.data= .fields ws'/\ws'[2]? =ws[2]? :=λv o ws _ q1 q2=>⟨o,ws,M.keeps _ _ q1,q2,rfl⟩
 have aav:Ctx h3 e d.2 Wy[2]? :=WD.stay kk2
 have nol:∀l,dF h3 Wy[2]? l->b∉l:=by
  intro l hl hm
  obtain⟨_,l',c2,c3,_⟩:=WD
  rw[dF.uniq l l' _ hl (c2.stay kk2 c3)]at hm
  obtain⟨i,hi,ei⟩:=ajv hm
  obtain⟨o,vs,q1,_⟩:=c2.nodes (aan.mpr ⟨hi,ei⟩)
  rw[show hp.get? b=none from M.new]at q1
  cases q1
 have hfree:H b=none:=J.hok.free M.new
 have hch:Ch Y [] b:=J.ch M.new
 refine⟨b,t,none,oe,Wy,d.2,rfl,M.keeps _ _ Wm,m1,hbe,M.keeps _ _ hoe,hdt,aav,nol,λh7 o7 e7=>?_⟩
 have N7:wk h3 h7 [b] (Bq Y.stack):=by
  refine⟨λc o q _ n=>(o7 c λz=>n (by simp[z])).trans q,λc o q n=>⟨o.slots,(o7 c λz=>n (by simp[z])).trans q⟩,λc o q=>?_⟩
  by_cases z:c=b
  .subst z;exact⟨_,e7⟩
  .exact⟨o,(o7 c z).trans q⟩
 have one:∀c∈[b],H c=none/\Ch Y [] c:=λc hc=>by
  have z:c=b:=by simpa using hc
  subst z
  exact⟨hfree,hch⟩
 have J7:Inv Y [] σ H ⟨h7,g,d3,tk+1,os⟩:=J3.noted N7 one
 obtain⟨_,l,c2,c3,c4⟩:=aav
 have nb:=nol l c2
 have c5:dF h7 Wy[2]? l:=c2.stay (e:=b) (λv o ws hv q1 q2=>⟨o,ws,(o7 v hv).trans q1,q2,rfl⟩) nb
 refine M4 (F:=λ_ _=>False) (pins:=pins) (pins':=[]) (σ:=σ) (H:=H) (cls:=.ref (ak X.mg y)) (d:=(none,false)) hx hst hf I.ok ⟨J7,none,.none,⟨_,_,e7,rfl,rfl,rfl,rfl,by simp,⟨(λz=>nomatch z),e::l,⟨rfl,oe,Wy,(o7 e hbe).trans (M.keeps _ _ hoe),hdt,c5⟩,λhm=>?_,ai6.mpr ⟨c3,c4⟩⟩,(λT z=>nomatch z)⟩,.inl rfl,one⟩ kq
 rcases abO.mp hm with h |h
 .exact hbe h.symm
 .exact nb h
end
section
variable{X:Cx}{a e:Expr}{σ σ':St}{H:Hp}{Q:VK}{D:Ends}{pos spos py p p':Pos}{tg elt iter:Expr}{scope:Scope}{Kx:St->XK}{y:Str}{j:Nat}
theorem Q4{b:Expr}{elts:List Expr}{k:Nat}{tp:Pos}(N':List Str)(hσ:gA N' X.N σ scope=σ')(hx:ye X Kx)(hst:X.stack=X.env::X.outer)(hfr:X.env.frame=some X.env.locals)(hc:X.calm=true)(S:dw X.env scope)
  (hg:Gl X "zip") (hm:X.mg "zip"=none) (hs:starEach [a,b] X.env=[(false,eval a X.env),(false,eval b X.env)]) (hs2:starEach [b] X.env=[(false,eval b X.env)])
  (h:EV X a σ H λv H1=>EV X b σ H1 λv' H2=>∃l m xs ys,v= .ref l/\v'= .ref m/\H2 l=some (.lst xs)/\H2 m=some (.lst ys)/\min xs.length ys.length≤sizeLine/\
   Vj X N' scope (.Tuple elts k tp) elt σ σ' Kx H2 Q (min xs.length ys.length) λi H3 x H4=>∃T y z,x= .ref T/\H3 T=none/\H4=upd H3 T (.tup [y,z])/\xs[i]? =some y/\ys[i]? =some z):
  EV X (.ListComp elt [⟨.Tuple elts k tp,.Call (.Name "zip" p) [a,b] [] p',[],0⟩] scope pos) σ H Q:=by
 refine VH (N':=N') hx hst hfr hc S (by intro _;rfl) (RJ hg hm hs hs2 (bV h λv H1 q=>bV q λv' H2 q=>?_))
 obtain⟨l,m,xs,ys,e1,e2,hl,hm',h2,hw⟩:=q
 refine⟨l,m,xs,ys,e1,e2,hl,hm',?_⟩
 rw[hσ]
 have S1:aX X.K H2 l xs:=.inl (.inl hl)
 have S2:aX X.K H2 m ys:=.inl (.inl hm')
 refine aas h2 (λi H3 s hi=>⟨xs,ys,xs[i]'(by omega),ys[i]'(by omega),au.seq s S1,au.seq s S2,aak _,aak _⟩) (λH3 s=>⟨xs,ys,au.seq s S1,au.seq s S2,aaO _⟩) (λi H3 x H4 hi s y=>?_) hw
 obtain⟨T,u,u',a1,a2,a3,a4,a5⟩:=y
 exact⟨T,u,u',a1,a2,a3,a4 xs (au.seq s S1),a5 ys (au.seq s S2)⟩
end
section
variable{X:Cx}{Kx:St->XK}{D:Ends}{σ:St}{H:Hp}{cls:Value}{d:Option Addr×Bool}
theorem aei(hx:ye X Kx)(hf:X.env.frame=some X.env.locals)(q:Kx σ cls d H):EH X [] D σ cls d H:=by
 intro pins s1 e T I2 F1 ch
 refine wpAny_handleBy_nil ?_
 obtain⟨oe,vs,he,hc,hdx,hd,h1,hz,h2,hT⟩:=id F1
 obtain⟨hne,oT,ws,t1,t2,t3⟩:=hT T rfl
 have h3:3<ws.size:=(ahs.mp t3).1
 have h1':vs[1]? =some (Value.ref T):=h1
 unfold PySem.passOn
 refine wpAny_bind (wpAny_field he hd h1' ?_)
 rw[if_neg (show ¬((Value.ref T==Value.none)=true)from by simp)]
 refine wpAny_bind ?_
 unfold setFlight
 refine wpAny_bind (wpAny_field he hd h1' ?_)
 rw[if_pos (show(Value.ref T !=Value.none)=true from by simp),hf]
 refine wpAny_setField t1 t2 h3 ?_
 have oth:∀b,b≠T->(s1.heap.update T (Obj.mapFields (·.setIfInBounds 3 (rawInt X.env.locals)))).get? b=s1.heap.get? b:=λb hb=>acu _ _ (Ne.symm hb)
 have Wr:=aeE (Obj.mapFields (·.setIfInBounds 3 (rawInt X.env.locals))) t1 (Obj.isFreed_of_fields (Obj.data_mapFields t2 _))
 have N:wk s1.heap (s1.heap.update T (Obj.mapFields (·.setIfInBounds 3 (rawInt X.env.locals)))) [T] (Bq X.stack):=by
  refine⟨λb o q _ n=>(oth b (λz=>n (by simp[z]))).trans q,λb o q n=>⟨o.slots,(oth b (λz=>n (by simp[z]))).trans q⟩,λb o q=>?_⟩
  by_cases z:b=T
  .subst z;exact⟨_,Wr⟩
  .exact⟨o,(oth b z).trans q⟩
 refine wpAny_throw (hx pins σ H _ e cls d ⟨I2.noted N λb hb=>?_,some T,rawInt X.env.locals,⟨oe,vs,(oth e (Ne.symm hne)).trans he,hc,hdx,hd,h1,hz,h2.stay λv o ws' hv q1 q2=>?_,λT' eT=>?_⟩,.inr ⟨rfl,rfl⟩,λb hb=>ch b (by simpa using hb)⟩ q)
 .have z:b=T:=by simpa using hb
  subst z
  exact ch b (by simp)
 .by_cases z:v=T
  .subst z
   rw[t1]at q1
   cases q1
   exact⟨_,_,Wr,Obj.data_mapFields q2 _,by rw[ae3 (by decide)]⟩
  .exact⟨o,ws',(oth v z).trans q1,q2,rfl⟩
 .cases eT
  exact⟨hne,_,_,Wr,Obj.data_mapFields t2 _,by simp[h3]⟩
end
def Ar(c:Nat):Nat:=if 97≤c/\c≤122 then c-32 else c
theorem uW:∀(l:List Nat),(∀c∈l,c<128)->(Txt.upper ⟨l.toArray⟩).cps.toList=l.map Ar
 |[],_=>by decide+kernel
 |c::l,h=>by
  have e:(⟨(c::l).toArray⟩:Str)=(⟨#[c]⟩:Str)++⟨l.toArray⟩:=by
   apply congrArg Str.mk
   simp
  rw[e,W.KOpn.upper_app,W.KOpn.upper_one (h c (by simp)),aA,uW l λx hx=>h x (by simp[hx])]
  rfl
section
variable{X:Cx}{H:Hp}{Q:VK}{z:Str}
theorem m_upper(hz:(Txt.upper z).length≤sizeLine)(g:Q (.str (Txt.upper z)) H):MT X "str.upper" (.str z) [] H Q:=by
 refine j9 (r:=λx xs H Q=>∃z,x= .str z/\xs=[]/\(Txt.upper z).length≤sizeLine/\Q (.str (Txt.upper z)) H) ?_ ⟨z,rfl,rfl,hz,g⟩
 intro pins s σ H x xs v us Q I rx rs h
 obtain⟨z,rfl,rfl,hz,g⟩:=h
 obtain⟨t,rfl⟩:=rx
 cases rs
 exact W.KXw.upper rfl (by unfold PySem.Builtin.Str.tooLong;exact decide_eq_false (by omega)) λt' k=>⟨.str (Txt.upper z),H,I.tok k,⟨t',rfl⟩,g⟩
end
end L2
local macro_rules | `(tactic| walk_at "sc") => `(tactic| exact ⟨rfl, rfl, rfl, by decide +kernel, rfl, by decide +kernel, by decide +kernel⟩)
local macro_rules | `(tactic| walk_at "nm") => `(tactic| refine L2.Xk (by rfl) (by first | exact Or.inl rfl | exact Or.inr (Or.inl rfl) | exact Or.inr (Or.inr rfl)) ?_ (by decide) (by decide))
local macro_rules | `(tactic| walk_at "gc") => `(tactic| refine L2.afh (by assumption) (by rfl) ?_ (by decide))
local macro_rules | `(tactic| walk_at "ty") => `(tactic| first
 |((with_reducible show L2.EV _ (PySem.Expr.Name "str" _) _ _ _);refine L2.ty_str (by rfl) (by assumption) ?_)
 |((with_reducible show L2.EV _ (PySem.Expr.Name "list" _) _ _ _);refine L2.ty_list (by rfl) (by assumption) ?_)
 |((with_reducible show L2.EV _ (PySem.Expr.Name "int" _) _ _ _);refine L2.ty_int (by rfl) (by assumption) ?_)
 |((with_reducible show L2.EV _ (PySem.Expr.Name "set" _) _ _ _);refine L2.ty_set (by rfl) (by assumption) ?_))
local macro_rules | `(tactic| walk_at "cb") => `(tactic| first
 |((with_reducible show L2.EV _ (PySem.Expr.Call (PySem.Expr.Name "len" _) _ _ _) _ _ _);refine L2.ael (by rfl) (by assumption) (by rfl) (by rfl) ?_)
 |((with_reducible show L2.EV _ (PySem.Expr.Call (PySem.Expr.Name "isinstance" _) _ _ _) _ _ _);refine L2.BL (by rfl) (by assumption) (by rfl) (by rfl) ?_)
 |((with_reducible show L2.EV _ (PySem.Expr.Call (PySem.Expr.Name "all" _) _ _ _) _ _ _);refine L2.acq (by rfl) (by assumption) (by rfl) (by rfl) ?_)
 |((with_reducible show L2.EV _ (PySem.Expr.Call (PySem.Expr.Name "min" _) _ _ _) _ _ _);refine L2.aea (by rfl) (by assumption) (by rfl) (by rfl) ?_)
 |((with_reducible show L2.EV _ (PySem.Expr.Call (PySem.Expr.Name "ord" _) _ _ _) _ _ _);refine L2.adZ (by rfl) (by assumption) (by rfl) (by rfl) ?_))
local macro_rules | `(tactic| walk_at "ct") => `(tactic| first
 |((with_reducible show L2.EV _ (PySem.Expr.Call (PySem.Expr.Name "str" _) _ _ _) _ _ _);refine L2.adQ (by rfl) (by assumption) (by rfl) (by rfl) ?_)
 |((with_reducible show L2.EV _ (PySem.Expr.Call (PySem.Expr.Name "list" _) _ _ _) _ _ _);refine L2.Y8 (by rfl) (by assumption) (by rfl) (by rfl) ?_)
 |((with_reducible show L2.EV _ (PySem.Expr.Call (PySem.Expr.Name "int" _) _ _ _) _ _ _);refine L2.aco (by rfl) (by assumption) (by rfl) (by rfl) ?_)
 |((with_reducible show L2.EV _ (PySem.Expr.Call (PySem.Expr.Name "set" _) _ _ _) _ _ _);refine L2.abC (by rfl) (by assumption) (by rfl) (by rfl) ?_))
local macro_rules | `(tactic| walk_at "xo") => `(tactic| first | exact L2.bF | assumption | exact L2.O3 rfl)
local macro_rules | `(tactic| walk_at "po") => `(tactic| first | exact L2.Oi | assumption | exact PySem.PassesOwn.never)
local macro_rules | `(tactic| walk_at "cl") => `(tactic| first
 |refine L2.Zc (by assumption) (by assumption) (by first |decide |omega) (by decide) (by rfl) (by walk_at "xo") (by decide) (by rfl) (by rfl) ?_
 |refine L2.ajW (by assumption) (by assumption) (by first |decide |omega) (by decide) (by rfl) (by walk_at "xo") (by decide) ?_)
local macro_rules | `(tactic| walk_at "bm") => `(tactic| first
 |refine L2.fX PySem.F.plainAttrs_str PySem.F.slot_str_join PySem.F.type_str_join (by rfl) (by rfl) (by rfl) (by rfl) (by rfl) ?_
 |refine L2.fX PySem.F.plainAttrs_str PySem.F.slot_str_index PySem.F.type_str_index (by rfl) (by rfl) (by rfl) (by rfl) (by rfl) ?_
 |refine L2.fX PySem.F.plainAttrs_str PySem.F.slot_str_startswith PySem.F.type_str_startswith (by rfl) (by rfl) (by rfl) (by rfl) (by rfl) ?_)
local macro_rules | `(tactic| walk_at "e") => `(tactic| first
 |((with_reducible show L2.EV _ (PySem.Expr.Name _ _) _ _ _);first |(walk_at "ty") |(walk_at "nm") |(walk_at "gc"))
 |(with_reducible refine L2.adV ?_)
 |(with_reducible refine L2.Ve ?_)
 |(with_reducible refine L2.agw ?_)
 |(with_reducible refine L2.abd ?_)
 |(with_reducible refine L2.acn ?_)
 |((with_reducible show L2.EV _ (PySem.Expr.Compare _ [_] [_] _) _ _ _);refine L2.acS (by first |exact L2.Vq _ (by decide) (by decide) |rfl) ?_)
 |((with_reducible show L2.EV _ (PySem.Expr.Compare _ [_,_] [_,_] _) _ _ _);refine L2.afW (by with_unfolding_all rfl) ?_)
 |(with_reducible refine L2.adY ?_)
 |(with_reducible refine L2.ado ?_)
 |(with_reducible refine L2.agT ?_)
 |(with_reducible refine L2.akc ?_)
 |(with_reducible refine L2.ajd ?_)
 |(with_reducible refine L2.adA ?_)
 |(with_reducible refine L2.RX ?_)
 |(with_reducible refine L2.aca ?_)
 |(with_reducible refine L2.agu ?_)
 |((with_reducible show L2.EV _ (PySem.Expr.Subscript _ _ _) _ _ _);refine L2.ag5 (λ_ _=>by rfl) ?_)
 |((with_reducible show L2.EV _ (PySem.Expr.Call (PySem.Expr.Name _ _) _ _ _) _ _ _);first |(walk_at "cb") |(walk_at "ct") |(walk_at "cl"))
 |((with_reducible show L2.EV _ (PySem.Expr.Call (PySem.Expr.Attribute _ _ _) _ _ _) _ _ _);(walk_at "bm"))
 |(with_reducible refine L2.Th ?_)
 |((with_reducible show L2.EJL _ (PySem.Expr.Constant _ _ _::_) _ _ _ _);refine L2.G3 (L2.Ve ⟨_,200,rfl,by decide+kernel,by omega,?_⟩))
 |((with_reducible show L2.EJL _ (PySem.Expr.FormattedValue _ _ _ _::_) _ _ _ _);refine L2.G3 ?_)
 |((with_reducible show L2.EJL _ [] _ _ _ _);refine L2.Xo (by omega) ?_)
 |(with_reducible refine L2.nP ?_)
 |((with_reducible show L2.EA _ (_::_) _ _ _);refine L2.lq (by rfl) ?_)
 |(with_reducible refine L2.WW ?_)
 |(with_reducible refine L2.YC ?_)
 |((with_reducible show L2.ET _ (PySem.Expr.Compare _ [_] [_] _) _ _ _);refine L2.abD (by first |exact L2.Vq _ (by decide) (by decide) |rfl) ?_)
 |((with_reducible show L2.ET _ (PySem.Expr.Compare _ [_,_] [_,_] _) _ _ _);refine L2.aha (by with_unfolding_all rfl) ?_)
 |(with_reducible refine L2.abK ?_)
 |((with_reducible show L2.ET _ (PySem.Expr.BoolOp _ _ _) _ _ _);refine L2.alw ?_)
 |(with_reducible refine L2.XD ?_)
 |(with_reducible refine L2.ab0 ?_)
 |(with_reducible refine L2.abp ?_)
 |(with_reducible refine L2.aiD ?_)
 |((with_reducible show L2.ET _ (PySem.Expr.Name _ _) _ _ _);refine L2.Es (λ_=>by rfl) ?_)
 |((with_reducible show L2.ET _ (PySem.Expr.Call _ _ _ _) _ _ _);refine L2.Es (λ_=>by rfl) ?_)
 |((with_reducible show L2.ET _ (PySem.Expr.Subscript _ _ _) _ _ _);refine L2.Es (λ_=>by rfl) ?_)
 |((with_reducible show L2.ET _ (PySem.Expr.Constant _ _ _) _ _ _);refine L2.Es (λ_=>by rfl) ?_))
local macro_rules | `(tactic| walk_at "o") => `(tactic| with_reducible first
 |refine L2.ajX ?_ |refine L2.ahZ ?_ |refine L2.arw ?_ |refine L2.axD ?_ |refine L2.asZ ?_ |refine L2.awM ?_
 |refine L2.agL ?_ |refine L2.anZ ?_ |refine L2.azs ?_ |refine L2.ahC ?_ |refine L2.aqx ?_ |refine L2.aiy ?_
 |refine L2.ah5 ?_ |refine L2.apP ?_ |refine L2.azj ?_ |refine L2.ayT ?_)
local macro_rules | `(tactic| walk_at "o2") => `(tactic| first
 |((with_reducible show L2.OP _ (PySem.compareOp PySem.CmpOp.Eq) _ _ _ _);refine L2.awX (by rfl) ?_)
 |((with_reducible show L2.OP _ (PySem.compareOp PySem.CmpOp.NotEq) _ _ _ _);refine L2.aqY (by rfl) ?_)
 |((with_reducible show L2.OP _ (PySem.binaryOp PySem.Operator.Mod) (L2.V.int _) (L2.V.int _) _ _);refine L2.aiP (by first |decide |omega) ?_)
 |((with_reducible show L2.OP _ (PySem.binaryOp PySem.Operator.Mult) (L2.V.int _) (L2.V.int _) _ _);refine L2.agA (by first |exact Or.inr ⟨by decide,by decide⟩ |exact Or.inl ⟨by decide,by decide⟩ |exact Or.inl ⟨by omega,by omega⟩ |exact Or.inr ⟨by omega,by omega⟩) ?_)
 |((with_reducible show L2.OP _ (PySem.binaryOp PySem.Operator.Pow) (L2.V.int _) (L2.V.int _) _ _);refine L2.T4 ⟨by decide,by decide,by decide⟩ ?_)
 |((with_reducible show L2.CL _ (PySem.Value.builtin "len") [L2.V.ref _] _ _);refine L2.Tv (Or.inl (by assumption)) ?_)
 |((with_reducible show L2.CL _ (PySem.Value.builtin "len") [L2.V.str _] _ _);refine L2.ac1 (by omega) ?_)
 |((with_reducible show L2.CL _ (PySem.Value.builtin "ord") [L2.V.str _] _ _);refine L2.ajo ?_)
 |((with_reducible show L2.CL _ (PySem.Value.builtin "isinstance") _ _ _);with_reducible first |refine L2.acC ?_ |refine L2.Z5 ?_ |refine L2.Kr ?_ |refine L2.aaj ?_ |refine L2.YJ ?_ |refine L2.aag ?_ |refine L2.aac ?_ |refine L2.Zy ?_ |refine L2.aae ?_ |refine L2.WQ ?_ |refine L2.Wu ?_ |refine L2.Xw ?_ |refine L2.aaX ?_ |refine L2.Z6 ?_ |refine L2.JL ?_ |refine L2.Z1 ?_ |refine L2.Zz ?_ |refine L2.aai ?_ |refine L2.RG ?_ |refine L2.Pr ?_ |refine L2.yX ?_ |refine L2.Rg ?_ |refine L2.NK ?_ |refine L2.Ro ?_))
local macro_rules | `(tactic| walk_at "t") => `(tactic| first
 |(with_reducible refine L2.avO ?_)
 |(with_reducible refine L2.anr ?_)
 |(with_reducible refine L2.aiQ ?_)
 |(with_reducible refine L2.azq ?_)
 |(with_reducible first |refine L2.aqS ?_ |refine L2.aic ?_ |refine L2.azV ?_ |refine L2.azL ?_ |refine L2.ayw ?_ |refine L2.aB9 ?_ |refine L2.azB ?_ |refine L2.azd ?_ |refine L2.azQ ?_ |refine L2.azf ?_)
 |((with_reducible show ∃k,L2.V.bl _=L2.V.bl k/\_);refine⟨_,rfl,?_⟩)
 |((with_reducible show ∃k,L2.Yc _ (L2.V.bl _) _ k/\_);refine⟨_,rfl,?_⟩)
 |((with_reducible show ∃i,L2.V.int _=L2.V.int i/\_);refine⟨_,rfl,?_⟩)
 |((with_reducible show L2.tyV _ _ (L2.V.str _) _/\_);refine⟨by rfl,?_⟩))
local macro_rules | `(tactic| walk_at "s") => `(tactic| first
 |(with_reducible refine L2.aL ?_)
 |(with_reducible refine L2.aq ?_)
 |(with_reducible refine L2.aj ?_)
 |(with_reducible refine L2.bA ?_)
 |(with_reducible refine L2.akI ?_)
 |(with_reducible refine L2.aka ?_)
 |(with_reducible refine L2.bx ?_)
 |((with_reducible show L2.SX _ (PySem.Stmt.Assign [PySem.Expr.Name _ _] _ _) _ _ _);refine L2.Ur (by assumption) (by rfl) (by first |exact Or.inl rfl |exact Or.inr rfl) (by rfl) (by first |exact Or.inl rfl |exact Or.inr rfl) ?_)
 |((with_reducible show L2.SX _ (PySem.Stmt.Expr _ _) _ _ _);refine L2.eU (by rfl) ?_))
local macro_rules | `(tactic| walk_at "go") => `(tactic| repeat' (first | (walk_at "e") | (walk_at "o") | (walk_at "o2") | (walk_at "t") | (walk_at "s")))
local macro_rules | `(tactic| walk_at "ex") => `(tactic| repeat' (first | (walk_at "e") | (walk_at "o") | (walk_at "o2") | (walk_at "t")))
local macro_rules | `(tactic| walk_at "A") => `(tactic| (refine L2.aj ?_; walk_at "s"; walk_at "ex"))
namespace L2
theorem Ry{α:Type}{us:List α}(h:us.length=1):∃a,us=[a]:=match us,h with |[a],_=>⟨a,rfl⟩
theorem at2{α:Type}{us:List α}(h:us.length=2):∃a b,us=[a,b]:=match us,h with |[a,b],_=>⟨a,b,rfl⟩
theorem Gb{α:Type}{us:List α}(h:us.length=3):∃a b c,us=[a,b,c]:=match us,h with |[a,b,c],_=>⟨a,b,c,rfl⟩
theorem at4{α:Type}{us:List α}(h:us.length=4):∃a b c d,us=[a,b,c,d]:=match us,h with |[a,b,c,d],_=>⟨a,b,c,d,rfl⟩
end L2
namespace K39
open PySem L2 PyProof.Rows
def top(i:Nat):Stmt:=PySem.Challenge.pw_turnleaf_k39_texts_that_are_no_marks.main.body.getD i (.Pass ⟨0,0,0,0⟩)
abbrev vA:Stmt:=top 0
abbrev iT:Stmt:=top 5
abbrev fK:Stmt:=top 6
abbrev jf:Stmt:=top 33
abbrev cX:Stmt:=top 34
abbrev dZ:Stmt:=top 35
abbrev cL:Stmt:=top 36
abbrev bM:Stmt:=top 37
abbrev bU:Stmt:=top 38
abbrev fD:Stmt:=top 39
abbrev cU:Stmt:=top 40
abbrev iR:Stmt:=top 43
abbrev cJ:Stmt:=top 48
abbrev cI:Stmt:=top 49
abbrev eV:Stmt:=top 77
abbrev dq:Stmt:=top 78
abbrev d8:Stmt:=top 79
abbrev ik:Stmt:=top 80
abbrev gP:Stmt:=top 81
abbrev cC:Stmt:=top 82
abbrev cP:Stmt:=top 83
abbrev gF:Stmt:=top 84
abbrev fH:Stmt:=top 85
abbrev gD:Stmt:=top 95
abbrev fO:Stmt:=top 96
abbrev ie:Stmt:=top 97
abbrev fM:Stmt:=top 98
abbrev gZ:Stmt:=top 99
abbrev gG:Stmt:=top 100
abbrev gM:Stmt:=top 102
abbrev cV:Stmt:=top 103
abbrev cT:Stmt:=top 104
abbrev dh:Stmt:=top 105
abbrev dJ:Stmt:=top 106
abbrev fJ:Stmt:=top 107
abbrev il:Stmt:=top 108
abbrev dO:Stmt:=top 109
abbrev fG:Stmt:=top 110
abbrev gY:Stmt:=top 111
abbrev di:Stmt:=top 112
abbrev du:Stmt:=top 113
abbrev dj:Stmt:=top 114
abbrev cH:Stmt:=top 115
abbrev cF:Stmt:=top 116
abbrev bN:Stmt:=top 117
abbrev bQ:Stmt:=top 118
abbrev dI:Stmt:=top 119
abbrev m8:Stmt:=top 120
abbrev lB:Stmt:=inClass (top 17) 0
abbrev aY:Stmt:=inClass (top 53) 0
abbrev cY:Stmt:=inClass (top 53) 1
abbrev aH:Stmt:=inClass (top 53) 2
abbrev bf:Stmt:=inClass (top 55) 0
abbrev fc:Stmt:=inClass (top 55) 1
abbrev aG:Stmt:=inClass (top 56) 0
abbrev bj:Stmt:=inClass (top 56) 1
abbrev cM:Stmt:=inClass (top 56) 2
abbrev dH:Stmt:=inClass (top 58) 0
abbrev eX:Stmt:=inClass (top 59) 0
abbrev dR:Stmt:=inClass (top 60) 0
abbrev bw:Stmt:=inClass (top 61) 0
abbrev fW:Stmt:=inClass (top 61) 1
abbrev aP:Stmt:=inClass (top 62) 0
abbrev eZ:Stmt:=inClass (top 63) 0
abbrev dB:Stmt:=inClass (top 64) 0
structure Txt(K:acF)(mg:Str->Option Value):Prop where
 akL:∃f fd,iW K "_wall" "_wall" vA f fd/\mg "_wall"=some (.ref f)
 uM:∃f fd,iW K "check_of" "check_of" iT f fd/\mg "check_of"=some (.ref f)
 jl:∃f fd,iW K "check_word" "check_word" fK f fd/\mg "check_word"=some (.ref f)
 sJ:∃f fd,iW K "made_of" "made_of" jf f fd/\mg "made_of"=some (.ref f)
 jV:∃f fd,iW K "is_text_value" "is_text_value" cX f fd/\mg "is_text_value"=some (.ref f)
 n6:∃f fd,iW K "are_figures" "are_figures" dZ f fd/\mg "are_figures"=some (.ref f)
 gU:∃f fd,iW K "read_figures" "read_figures" cL f fd/\mg "read_figures"=some (.ref f)
 iV:∃f fd,iW K "read_number_word" "read_number_word" bM f fd/\mg "read_number_word"=some (.ref f)
 jF:∃f fd,iW K "read_text_word" "read_text_word" bU f fd/\mg "read_text_word"=some (.ref f)
 iC:∃f fd,iW K "read_value" "read_value" fD f fd/\mg "read_value"=some (.ref f)
 ou:∃f fd,iW K "read_values" "read_values" cU f fd/\mg "read_values"=some (.ref f)
 jC:∃f fd,iW K "place_of" "place_of" iR f fd/\mg "place_of"=some (.ref f)
 jh:∃f fd,iW K "read_order_word" "read_order_word" cJ f fd/\mg "read_order_word"=some (.ref f)
 kY:∃f fd,iW K "read_order" "read_order" cI f fd/\mg "read_order"=some (.ref f)
 iY:∃f fd,iW K "word_at" "word_at" eV f fd/\mg "word_at"=some (.ref f)
 dm:∃f fd,iW K "text_between" "text_between" dq f fd/\mg "text_between"=some (.ref f)
 fZ:∃f fd,iW K "read_column" "read_column" d8 f fd/\mg "read_column"=some (.ref f)
 rT:∃f fd,iW K "read_word" "read_word" ik f fd/\mg "read_word"=some (.ref f)
 qZ:∃f fd,iW K "read_none" "read_none" gP f fd/\mg "read_none"=some (.ref f)
 jW:∃f fd,iW K "read_of_value" "read_of_value" cC f fd/\mg "read_of_value"=some (.ref f)
 xN:∃f fd,iW K "read_of_sieves" "read_of_sieves" cP f fd/\mg "read_of_sieves"=some (.ref f)
 Hh:∃f fd,iW K "read_part" "read_part" gF f fd/\mg "read_part"=some (.ref f)
 En:∃f fd,iW K "read_sieve" "read_sieve" fH f fd/\mg "read_sieve"=some (.ref f)
 nq:∃f fd,iW K "read_make" "read_make" gD f fd/\mg "read_make"=some (.ref f)
 iw:∃f fd,iW K "read_whole" "read_whole" fO f fd/\mg "read_whole"=some (.ref f)
 ni:∃f fd,iW K "read_side" "read_side" ie f fd/\mg "read_side"=some (.ref f)
 uN:∃f fd,iW K "read_cut" "read_cut" fM f fd/\mg "read_cut"=some (.ref f)
 rm:∃f fd,iW K "read_body" "read_body" gZ f fd/\mg "read_body"=some (.ref f)
 qK:∃f fd,iW K "read_mark" "read_mark" gG f fd/\mg "read_mark"=some (.ref f)
 bZ:∃f fd,iW K "_law_draw" "_law_draw" gM f fd/\mg "_law_draw"=some (.ref f)
 my:∃f fd,iW K "_law_columns" "_law_columns" cV f fd/\mg "_law_columns"=some (.ref f)
 km:∃f fd,iW K "_law_value" "_law_value" cT f fd/\mg "_law_value"=some (.ref f)
 nR:∃f fd,iW K "_law_values" "_law_values" dh f fd/\mg "_law_values"=some (.ref f)
 pC:∃f fd,iW K "_law_order" "_law_order" dJ f fd/\mg "_law_order"=some (.ref f)
 uT:∃f fd,iW K "_law_key" "_law_key" fJ f fd/\mg "_law_key"=some (.ref f)
 mX:∃f fd,iW K "_law_word" "_law_word" il f fd/\mg "_law_word"=some (.ref f)
 qN:∃f fd,iW K "_law_look" "_law_look" dO f fd/\mg "_law_look"=some (.ref f)
 oX:∃f fd,iW K "_law_sieve" "_law_sieve" fG f fd/\mg "_law_sieve"=some (.ref f)
 qX:∃f fd,iW K "_law_mark" "_law_mark" gY f fd/\mg "_law_mark"=some (.ref f)
 mW:∃f fd,iW K "_law_body" "_law_body" di f fd/\mg "_law_body"=some (.ref f)
 mR:∃f fd,iW K "_law_checked" "_law_checked" du f fd/\mg "_law_checked"=some (.ref f)
 mF:∃f fd,iW K "_law_refused" "_law_refused" dj f fd/\mg "_law_refused"=some (.ref f)
 jw:∃f fd,iW K "_law_order_bent" "_law_order_bent" cH f fd/\mg "_law_order_bent"=some (.ref f)
 jt:∃f fd,iW K "_law_sieve_bent" "_law_sieve_bent" cF f fd/\mg "_law_sieve_bent"=some (.ref f)
 gw:∃f fd,iW K "_law_whole_bent" "_law_whole_bent" bN f fd/\mg "_law_whole_bent"=some (.ref f)
 jY:∃f fd,iW K "_law_cut_bent" "_law_cut_bent" bQ f fd/\mg "_law_cut_bent"=some (.ref f)
 qM:∃f fd,iW K "_law_bent" "_law_bent" dI f fd/\mg "_law_bent"=some (.ref f)
 ag4:∃f fd,iW K "law" "law" m8 f fd/\mg "law"=some (.ref f)
 acd:Gc mg "BASE" (.int 137)
 Qp:Gc mg "REST_BY" (.int 9973)
 uJ:Gc mg "FIGURES_OF_CHECK" (.int 4)
 Ut:Gc mg "NUMBER" (.str "number")
 TQ:Gc mg "TEXT" (.str "text")
 Qc:Gc mg "FIGURES" (.str "0123456789")
 Ez:Gc mg "TEXT_SIGNS" (.str "abcdefghijklmnopqrstuvwxyz0123456789-")
 QM:Gc mg "LARGEST" (.int 1000000000000000000)
 Rv:Gc mg "LONGEST" (.int 20)
 Hj:Gc mg "NONE_WORD" (.str "?")
 Ef:Gc mg "TEXT_AHEAD" (.str "'")
 BV:Gc mg "BELOW_AHEAD" (.str "-")
 tY:Gc mg "LARGEST_ROW" (.int 1000000000)
 yM:Gc mg "MOST_IN_ORDER" (.int 4)
 La:Gc mg "UP_AHEAD" (.str "+")
 FN:Gc mg "DOWN_AHEAD" (.str "-")
 Ma:Gc mg "AHEAD" (.str "ahead")
 Ho:Gc mg "BEHIND" (.str "behind")
 Ff:Gc mg "MOST_WORDS" (.int 60)
 jM:Gc mg "MOST_WITHIN" (.int 20)
 Vb:Gc mg "ALL" (.str "all")
 Ky:Gc mg "NONE" (.str "none")
 YQ:Gc mg "IS" (.str "is")
 zg:Gc mg "UNDER" (.str "under")
 Ed:Gc mg "OVER" (.str "over")
 vh:Gc mg "HOLDS" (.str "holds")
 CW:Gc mg "NOT" (.str "not")
 Bh:Gc mg "BOTH" (.str "both")
 Hi:Gc mg "EITHER" (.str "either")
 Ir:Gc mg "LIVING" (.str "living")
 Lp:Gc mg "STILL" (.str "still")
 G6:Gc mg "LATEST" (.int 5000)
 Nv:Gc mg "PARTS" (.int 5)
 Dm:Gc mg "PARTING" (.str "/")
 JQ:Gc mg "STOP" (.str ".")
 vK:Gc mg "AHEAD_SIGN" (.str "<")
 tZ:Gc mg "BEHIND_SIGN" (.str ">")
 Ej:mg "ValueError"=none
 af1:mg "all"=none
 Gj:mg "enumerate"=none
 VJ:mg "int"=none
 ph:mg "isinstance"=none
 jr:mg "len"=none
 adF:mg "list"=none
 agq:mg "min"=none
 aad:mg "ord"=none
 vg:mg "range"=none
 Jy:mg "reversed"=none
 aal:mg "set"=none
 zU:mg "str"=none
 ZV:mg "zip"=none
 Hw:mg "LeafError"=some (.ref (ak mg "LeafError"))
 G8:mg "NoColumns"=some (.ref (ak mg "NoColumns"))
 Dl:mg "NoValue"=some (.ref (ak mg "NoValue"))
 Qe:mg "NoOrder"=some (.ref (ak mg "NoOrder"))
 W8:mg "NoRow"=some (.ref (ak mg "NoRow"))
 Tj:mg "NoMark"=some (.ref (ak mg "NoMark"))
 R0:mg "NoSize"=some (.ref (ak mg "NoSize"))
 V5:mg "NoLine"=some (.ref (ak mg "NoLine"))
 Wj:mg "NoBook"=some (.ref (ak mg "NoBook"))
 Pz:mg "NoSieve"=some (.ref (ak mg "NoSieve"))
 Us:mg "NoPage"=some (.ref (ak mg "NoPage"))
 Xz:mg "Twice"=some (.ref (ak mg "Twice"))
 SJ:mg "Absent"=some (.ref (ak mg "Absent"))
 aek:mg "Gone"=some (.ref (ak mg "Gone"))
 Zr:mg "Later"=some (.ref (ak mg "Later"))
 zm:mg "Sieve"=some (.ref (ak mg "Sieve"))
 Ko:mg "AllSieve"=some (.ref (ak mg "AllSieve"))
 Gy:mg "NoneSieve"=some (.ref (ak mg "NoneSieve"))
 Xl:mg "ValueSieve"=some (.ref (ak mg "ValueSieve"))
 Rc:mg "IsSieve"=some (.ref (ak mg "IsSieve"))
 Dw:mg "UnderSieve"=some (.ref (ak mg "UnderSieve"))
 Gu:mg "OverSieve"=some (.ref (ak mg "OverSieve"))
 DX:mg "HoldsSieve"=some (.ref (ak mg "HoldsSieve"))
 JF:mg "NotSieve"=some (.ref (ak mg "NotSieve"))
 ZQ:mg "PairSieve"=some (.ref (ak mg "PairSieve"))
 HW:mg "BothSieve"=some (.ref (ak mg "BothSieve"))
 Cd:mg "EitherSieve"=some (.ref (ak mg "EitherSieve"))
 xZ:Pb K mg "NoValue"
 jq:Pb K mg "NoMark"
 sr:Pb K mg "NoOrder"
 qU:U8 K mg "LeafError"
 Gi:XC K mg "LeafError" "NoColumns"
 iy:XC K mg "LeafError" "NoValue"
 iZ:XC K mg "LeafError" "NoOrder"
 XR:XC K mg "LeafError" "NoRow"
 fV:XC K mg "LeafError" "NoMark"
 RK:XC K mg "LeafError" "NoSize"
 Ul:XC K mg "LeafError" "NoLine"
 VB:XC K mg "LeafError" "NoBook"
 je:XC K mg "LeafError" "NoSieve"
 Tu:XC K mg "LeafError" "NoPage"
 Xb:XC K mg "LeafError" "Twice"
 Vc:XC K mg "LeafError" "Absent"
 adx:XC K mg "LeafError" "Gone"
 WR:XC K mg "LeafError" "Later"
 sX:acv K mg "LeafError" "NoSieve" "NoSieve.__init__" "at" lB
 aeK:aat K (.ref (ak mg "NoSieve")) "at"=some none
 Jt:[ak mg "LeafError",ak mg "NoColumns",ak mg "NoValue",ak mg "NoOrder",ak mg "NoRow",ak mg "NoMark",ak mg "NoSize",ak mg "NoLine",ak mg "NoBook",ak mg "NoSieve",ak mg "NoPage",ak mg "Twice",ak mg "Absent",ak mg "Gone",ak mg "Later"].Nodup
 akb:sZ K (ak mg "Sieve")
 afg:OI K (ak mg "Sieve") "Sieve.__init__" aY
 Ys:OM K (ak mg "Sieve") "lets" "Sieve.lets" cY
 Wt:OM K (ak mg "Sieve") "shown" "Sieve.shown" aH
 Wn:bh K (ak mg "Sieve") "text"
 uA:sZ K (ak mg "AllSieve")
 Hg:OI K (ak mg "AllSieve") "Sieve.__init__" aY
 Rx:OM K (ak mg "AllSieve") "lets" "Sieve.lets" cY
 yd:OM K (ak mg "AllSieve") "shown" "Sieve.shown" aH
 oH:bh K (ak mg "AllSieve") "text"
 rW:sZ K (ak mg "NoneSieve")
 Fo:OI K (ak mg "NoneSieve") "NoneSieve.__init__" bf
 Q8:OM K (ak mg "NoneSieve") "lets" "NoneSieve.lets" fc
 vB:OM K (ak mg "NoneSieve") "shown" "Sieve.shown" aH
 nH:bh K (ak mg "NoneSieve") "text"
 uv:bh K (ak mg "NoneSieve") "place"
 YK:sZ K (ak mg "ValueSieve")
 Ww:OI K (ak mg "ValueSieve") "ValueSieve.__init__" aG
 LC:OM K (ak mg "ValueSieve") "fits" "ValueSieve.fits" cM
 Mr:OM K (ak mg "ValueSieve") "lets" "ValueSieve.lets" bj
 JZ:OM K (ak mg "ValueSieve") "shown" "Sieve.shown" aH
 Jq:bh K (ak mg "ValueSieve") "text"
 IV:bh K (ak mg "ValueSieve") "place"
 Iv:bh K (ak mg "ValueSieve") "value"
 wY:sZ K (ak mg "IsSieve")
 Jp:OI K (ak mg "IsSieve") "ValueSieve.__init__" aG
 Vz:OM K (ak mg "IsSieve") "fits" "ValueSieve.fits" cM
 V1:OM K (ak mg "IsSieve") "lets" "ValueSieve.lets" bj
 yU:OM K (ak mg "IsSieve") "shown" "Sieve.shown" aH
 qd:bh K (ak mg "IsSieve") "text"
 xx:bh K (ak mg "IsSieve") "place"
 xR:bh K (ak mg "IsSieve") "value"
 pO:sZ K (ak mg "UnderSieve")
 BZ:OI K (ak mg "UnderSieve") "ValueSieve.__init__" aG
 Mt:OM K (ak mg "UnderSieve") "fits" "UnderSieve.fits" dH
 Ob:OM K (ak mg "UnderSieve") "lets" "ValueSieve.lets" bj
 uY:OM K (ak mg "UnderSieve") "shown" "Sieve.shown" aH
 lV:bh K (ak mg "UnderSieve") "text"
 tK:bh K (ak mg "UnderSieve") "place"
 tH:bh K (ak mg "UnderSieve") "value"
 rP:sZ K (ak mg "OverSieve")
 Em:OI K (ak mg "OverSieve") "ValueSieve.__init__" aG
 PJ:OM K (ak mg "OverSieve") "fits" "OverSieve.fits" eX
 Pu:OM K (ak mg "OverSieve") "lets" "ValueSieve.lets" bj
 wN:OM K (ak mg "OverSieve") "shown" "Sieve.shown" aH
 nG:bh K (ak mg "OverSieve") "text"
 uz:bh K (ak mg "OverSieve") "place"
 uK:bh K (ak mg "OverSieve") "value"
 pZ:sZ K (ak mg "HoldsSieve")
 BK:OI K (ak mg "HoldsSieve") "ValueSieve.__init__" aG
 Nb:OM K (ak mg "HoldsSieve") "fits" "HoldsSieve.fits" dR
 M7:OM K (ak mg "HoldsSieve") "lets" "ValueSieve.lets" bj
 u5:OM K (ak mg "HoldsSieve") "shown" "Sieve.shown" aH
 lQ:bh K (ak mg "HoldsSieve") "text"
 tL:bh K (ak mg "HoldsSieve") "place"
 tE:bh K (ak mg "HoldsSieve") "value"
 u6:sZ K (ak mg "NotSieve")
 Gz:OI K (ak mg "NotSieve") "NotSieve.__init__" bw
 Rz:OM K (ak mg "NotSieve") "lets" "NotSieve.lets" fW
 xO:OM K (ak mg "NotSieve") "shown" "Sieve.shown" aH
 oE:bh K (ak mg "NotSieve") "text"
 yV:bh K (ak mg "NotSieve") "one"
 aam:sZ K (ak mg "PairSieve")
 Ym:OI K (ak mg "PairSieve") "PairSieve.__init__" aP
 Qy:OM K (ak mg "PairSieve") "lets" "Sieve.lets" cY
 Ms:OM K (ak mg "PairSieve") "shown" "Sieve.shown" aH
 N6:bh K (ak mg "PairSieve") "text"
 Pn:bh K (ak mg "PairSieve") "one"
 JG:bh K (ak mg "PairSieve") "other"
 rC:sZ K (ak mg "BothSieve")
 Fy:OI K (ak mg "BothSieve") "PairSieve.__init__" aP
 QD:OM K (ak mg "BothSieve") "lets" "BothSieve.lets" eZ
 vQ:OM K (ak mg "BothSieve") "shown" "Sieve.shown" aH
 nM:bh K (ak mg "BothSieve") "text"
 wR:bh K (ak mg "BothSieve") "one"
 ur:bh K (ak mg "BothSieve") "other"
 nQ:sZ K (ak mg "EitherSieve")
 Ao:OI K (ak mg "EitherSieve") "PairSieve.__init__" aP
 JX:OM K (ak mg "EitherSieve") "lets" "EitherSieve.lets" dB
 tD:OM K (ak mg "EitherSieve") "shown" "Sieve.shown" aH
 j6:bh K (ak mg "EitherSieve") "text"
 uQ:bh K (ak mg "EitherSieve") "one"
 rQ:bh K (ak mg "EitherSieve") "other"
 gm:OB K (ak mg "Sieve") "__init__" "Sieve.__init__" aY
abbrev jD:List Str:=["self","text"]
theorem wB:aN jD ["self","text"] (aa aY):=by walk_at "sc"
abbrev nW:List Str:=["self"]
theorem Az:aN nW ["self"] (aa aH):=by walk_at "sc"
abbrev gK:List Str:=["self","text","place"]
theorem qF:aN gK ["self","text","place"] (aa bf):=by walk_at "sc"
abbrev gf:List Str:=["self","text","place","value"]
theorem pK:aN gf ["self","text","place","value"] (aa aG):=by walk_at "sc"
abbrev iH:List Str:=["self","text","one"]
theorem qT:aN iH ["self","text","one"] (aa bw):=by walk_at "sc"
abbrev gJ:List Str:=["self","text","one","other"]
theorem qz:aN gJ ["self","text","one","other"] (aa aP):=by walk_at "sc"
abbrev QS:List Str:=["self","at"]
theorem KQ:aN QS ["self","at"] (aa lB):=by walk_at "sc"
abbrev Am:List Str:=["text","total","power","sign"]
theorem ym:aN Am ["text"] (aa iT):=by walk_at "sc"
abbrev vy:List Str:=["text"]
theorem Bv:aN vy ["text"] (aa fK):=by walk_at "sc"
abbrev Cz:List Str:=["text","signs"]
theorem Le:aN Cz ["text","signs"] (aa jf):=by walk_at "sc"
abbrev ql:List Str:=["value"]
theorem xP:aN ql ["value"] (aa cX):=by walk_at "sc"
abbrev tQ:List Str:=["word"]
theorem Aq:aN tQ ["word"] (aa dZ):=by walk_at "sc"
abbrev lU:List Str:=["word","most","number"]
theorem qb:aN lU ["word","most"] (aa cL):=by walk_at "sc"
abbrev iQ:List Str:=["word","below","number"]
theorem j8:aN iQ ["word"] (aa bM):=by walk_at "sc"
abbrev jG:List Str:=["word"]
theorem m7:aN jG ["word"] (aa bU):=by walk_at "sc"
abbrev vH:List Str:=["kind","word"]
theorem Ca:aN vH ["kind","word"] (aa fD):=by walk_at "sc"
abbrev uo:List Str:=["kinds","words"]
theorem Bc:aN uo ["kinds","words"] (aa cU):=by walk_at "sc"
abbrev Al:List Str:=["columns","name","place","column"]
theorem yL:aN Al ["columns","name"] (aa iR):=by walk_at "sc"
abbrev mY:List Str:=["columns","word","sign","name"]
theorem mQ:aN mY ["columns","word"] (aa cJ):=by walk_at "sc"
abbrev lr:List Str:=["columns","text","words","order","names"]
theorem tR:aN lr ["columns","text"] (aa cI):=by walk_at "sc"
abbrev sE:List Str:=["words","place"]
theorem Ku:aN sE ["words","place"] (aa eV):=by walk_at "sc"
abbrev qL:List Str:=["words","start","behind"]
theorem yS:aN qL ["words","start","behind"] (aa dq):=by walk_at "sc"
abbrev ug:List Str:=["columns","words","place","column"]
theorem rN:aN ug ["columns","words","place"] (aa d8):=by walk_at "sc"
abbrev yG:List Str:=["kind","words","place","word","value"]
theorem pQ:aN yG ["kind","words","place"] (aa ik):=by walk_at "sc"
abbrev yq:List Str:=["columns","words","start","column"]
theorem pB:aN yq ["columns","words","start"] (aa gP):=by walk_at "sc"
abbrev jU:List Str:=["columns","words","start","word","column","kind","value","text"]
theorem jH:aN jU ["columns","words","start"] (aa cC):=by walk_at "sc"
abbrev oF:List Str:=["columns","words","start","within","word","one","behind","other","text"]
theorem dU:aN oF ["columns","words","start","within"] (aa cP):=by walk_at "sc"
abbrev yj:List Str:=["columns","words","start","within","word"]
theorem lg:aN yj ["columns","words","start","within"] (aa gF):=by walk_at "sc"
abbrev vG:List Str:=["columns","text","words","sieve","behind"]
theorem nU:aN vG ["columns","text"] (aa fH):=by walk_at "sc"
abbrev yt:List Str:=["letter","make"]
theorem oV:aN yt ["letter"] (aa gD):=by walk_at "sc"
abbrev wI:List Str:=["word","most","number"]
theorem n8:aN wI ["word","most"] (aa fO):=by walk_at "sc"
abbrev yo:List Str:=["sign"]
theorem Et:aN yo ["sign"] (aa ie):=by walk_at "sc"
abbrev zW:List Str:=["columns","order","text","side","words","row","kinds"]
theorem qY:aN zW ["columns","order","text"] (aa fM):=by walk_at "sc"
abbrev yp:List Str:=["columns","body","parts","make","moment","order","sieve"]
theorem pq:aN yp ["columns","body"] (aa gZ):=by walk_at "sc"
abbrev yw:List Str:=["columns","text","body","stop","check"]
theorem kZ:aN yw ["columns","text"] (aa gG):=by walk_at "sc"
abbrev yI:List Str:=["_law_script","_law_k","_law_many","_law_cell","_law_seed"]
theorem wD:aN yI ["_law_script","_law_k","_law_many"] (aa gM):=by walk_at "sc"
abbrev qO:List Str:=["_law_script","_law_base","_law_most","_law_letters","_law_word_here","_law_way","_law_at","_law_columns_here","_law_k","_law_sign","_law_size","_law_name"]
theorem qp:aN qO ["_law_script","_law_base","_law_most"] (aa cV):=by walk_at "sc"
abbrev pN:List Str:=["_law_script","_law_k","_law_kind","_law_way","_law_cell","_law_far","_law_signs","_law_size"]
theorem uc:aN pN ["_law_script","_law_k","_law_kind"] (aa cT):=by walk_at "sc"
abbrev tO:List Str:=["_law_script","_law_k","_law_columns_here"]
theorem Aj:aN tO ["_law_script","_law_k","_law_columns_here"] (aa dh):=by walk_at "sc"
abbrev vO:List Str:=["_law_script","_law_base","_law_columns_here","_law_order_here","_law_k","_law_names"]
theorem um:aN vO ["_law_script","_law_base","_law_columns_here"] (aa dJ):=by walk_at "sc"
abbrev zQ:List Str:=["_law_columns_here","_law_order_here","_law_row","_law_values_here","_law_names"]
theorem yH:aN zQ ["_law_columns_here","_law_order_here","_law_row","_law_values_here"] (aa fJ):=by walk_at "sc"
abbrev yE:List Str:=["_law_value_here"]
theorem Fi:aN yE ["_law_value_here"] (aa il):=by walk_at "sc"
abbrev rF:List Str:=["_law_script","_law_base","_law_columns_here","_law_at","_law_name","_law_kind","_law_value_here","_law_looks","_law_many"]
theorem wK:aN rF ["_law_script","_law_base","_law_columns_here"] (aa dO):=by walk_at "sc"
abbrev vP:List Str:=["_law_script","_law_base","_law_columns_here","_law_text","_law_k","_law_way"]
theorem tX:aN vP ["_law_script","_law_base","_law_columns_here"] (aa fG):=by walk_at "sc"
abbrev yu:List Str:=["_law_script","_law_base","_law_columns_here","_law_order_here","_law_make","_law_moments","_law_moment","_law_numbers","_law_row","_law_key_here","_law_side"]
theorem vM:aN yu ["_law_script","_law_base","_law_columns_here"] (aa gY):=by walk_at "sc"
abbrev jP:List Str:=["_law_mark_here","_law_make","_law_moment","_law_order_here","_law_sieve_here","_law_cut","_law_words","_law_name","_law_up","_law_body_here","_law_value_here"]
theorem wG:aN jP ["_law_mark_here"] (aa di):=by walk_at "sc"
abbrev rO:List Str:=["_law_body_here","_law_total","_law_sign"]
theorem qg:aN rO ["_law_body_here"] (aa du):=by walk_at "sc"
abbrev rE:List Str:=["_law_columns_here","_law_text","_law_own","e"]
theorem p6:aN rE ["_law_columns_here","_law_text"] (aa dj):=by walk_at "sc"
abbrev m5:List Str:=["_law_script","_law_text","_law_columns_here","_law_name","_law_some"]
theorem mj:aN m5 ["_law_script","_law_text","_law_columns_here"] (aa cH):=by walk_at "sc"
abbrev nF:List Str:=["_law_script","_law_text","_law_some"]
theorem lO:aN nF ["_law_script","_law_text"] (aa cF):=by walk_at "sc"
abbrev ji:List Str:=["_law_script","_law_k","_law_number","_law_most","_law_cell","_law_far","_law_some"]
theorem lY:aN ji ["_law_script","_law_k","_law_number","_law_most"] (aa bN):=by walk_at "sc"
abbrev jX:List Str:=["_law_script","_law_columns_here","_law_mark_here","_law_part","_law_order_here","_law_words","_law_way","_law_at","_law_kind","_law_bad"]
theorem oJ:aN jX ["_law_script","_law_columns_here","_law_mark_here","_law_part"] (aa bQ):=by walk_at "sc"
abbrev qR:List Str:=["_law_script","_law_columns_here","_law_mark_here","_law_parts","_law_way"]
theorem wL:aN qR ["_law_script","_law_columns_here","_law_mark_here"] (aa dI):=by walk_at "sc"
abbrev MP:List Str:=["_law_script","_law_columns_here","_law_mark_here","_law_good","_law_short","_law_others","_law_known"]
theorem Vo:aN MP ["_law_script"] (aa m8):=by walk_at "sc"
section
variable{P:Program}{w:World}{K:acF}{mg:Str->Option Value}{base:Heap}
abbrev mU(P:Program)(w:World)(K:acF)(mg:Str->Option Value)(base:Heap)(n:Nat)(nm:Str)(st:Stmt)(N ps:List Str):Prop:=∀{cc:Bool} {k:Nat} {sp:Sp} (len:∀vs H Q E,sp vs H Q E->vs.length=n) (body:∀(f:Addr) (cdv:Value) (A:Around) (outer:List Env) (s:Shared) (H:Hp) (vs:List V) (Q:VK) (E:XK),fB cc k (A.deeper (envOfC nm (aa st) s.heap.objs.size f cdv))->sp vs H Q E->lH (vd cc P w K mg base N nm (aa st) f cdv A outer s H E) (az st) {nx:=λ_ H'=>Q .non H',rt:=Q} (start N vs) H),Def P w K mg base cc (k+1) nm ps sp
theorem Gv(T:Txt K mg):mU P w K mg base 1 "check_of" iT Am ["text"]:= @λ_ _ _ len body=>bD T.uM ym (λ_ _ _ _ _ _ us hl=>by obtain⟨_,rfl⟩:=Ry hl;rfl) len body
theorem BJ(T:Txt K mg):mU P w K mg base 1 "check_word" fK vy ["text"]:= @λ_ _ _ len body=>bD T.jl Bv (λ_ _ _ _ _ _ us hl=>by obtain⟨_,rfl⟩:=Ry hl;rfl) len body
theorem Jr(T:Txt K mg):mU P w K mg base 2 "made_of" jf Cz ["text","signs"]:= @λ_ _ _ len body=>bD T.sJ Le (λ_ _ _ _ _ _ us hl=>by obtain⟨_,_,rfl⟩:=at2 hl;rfl) len body
theorem xn(T:Txt K mg):mU P w K mg base 1 "is_text_value" cX ql ["value"]:= @λ_ _ _ len body=>bD T.jV xP (λ_ _ _ _ _ _ us hl=>by obtain⟨_,rfl⟩:=Ry hl;rfl) len body
theorem zR(T:Txt K mg):mU P w K mg base 1 "are_figures" dZ tQ ["word"]:= @λ_ _ _ len body=>bD T.n6 Aq (λ_ _ _ _ _ _ us hl=>by obtain⟨_,rfl⟩:=Ry hl;rfl) len body
theorem yZ(T:Txt K mg):mU P w K mg base 2 "read_figures" cL lU ["word","most"]:= @λ_ _ _ len body=>bD T.gU qb (λ_ _ _ _ _ _ us hl=>by obtain⟨_,_,rfl⟩:=at2 hl;rfl) len body
theorem tG(T:Txt K mg):mU P w K mg base 1 "read_number_word" bM iQ ["word"]:= @λ_ _ _ len body=>bD T.iV j8 (λ_ _ _ _ _ _ us hl=>by obtain⟨_,rfl⟩:=Ry hl;rfl) len body
theorem wg(T:Txt K mg):mU P w K mg base 1 "read_text_word" bU jG ["word"]:= @λ_ _ _ len body=>bD T.jF m7 (λ_ _ _ _ _ _ us hl=>by obtain⟨_,rfl⟩:=Ry hl;rfl) len body
theorem Cg(T:Txt K mg):mU P w K mg base 2 "read_value" fD vH ["kind","word"]:= @λ_ _ _ len body=>bD T.iC Ca (λ_ _ _ _ _ _ us hl=>by obtain⟨_,_,rfl⟩:=at2 hl;rfl) len body
theorem rn(T:Txt K mg):mU P w K mg base 2 "read_values" cU uo ["kinds","words"]:= @λ_ _ _ len body=>bD T.ou Bc (λ_ _ _ _ _ _ us hl=>by obtain⟨_,_,rfl⟩:=at2 hl;rfl) len body
theorem Iu(T:Txt K mg):mU P w K mg base 2 "place_of" iR Al ["columns","name"]:= @λ_ _ _ len body=>bD T.jC yL (λ_ _ _ _ _ _ us hl=>by obtain⟨_,_,rfl⟩:=at2 hl;rfl) len body
theorem uy(T:Txt K mg):mU P w K mg base 2 "read_order_word" cJ mY ["columns","word"]:= @λ_ _ _ len body=>bD T.jh mQ (λ_ _ _ _ _ _ us hl=>by obtain⟨_,_,rfl⟩:=at2 hl;rfl) len body
theorem BX(T:Txt K mg):mU P w K mg base 2 "read_order" cI lr ["columns","text"]:= @λ_ _ _ len body=>bD T.kY tR (λ_ _ _ _ _ _ us hl=>by obtain⟨_,_,rfl⟩:=at2 hl;rfl) len body
theorem Jf(T:Txt K mg):mU P w K mg base 2 "word_at" eV sE ["words","place"]:= @λ_ _ _ len body=>bD T.iY Ku (λ_ _ _ _ _ _ us hl=>by obtain⟨_,_,rfl⟩:=at2 hl;rfl) len body
theorem yP(T:Txt K mg):mU P w K mg base 3 "text_between" dq qL ["words","start","behind"]:= @λ_ _ _ len body=>bD T.dm yS (λ_ _ _ _ _ _ us hl=>by obtain⟨_,_,_,rfl⟩:=Gb hl;rfl) len body
theorem zY(T:Txt K mg):mU P w K mg base 3 "read_column" d8 ug ["columns","words","place"]:= @λ_ _ _ len body=>bD T.fZ rN (λ_ _ _ _ _ _ us hl=>by obtain⟨_,_,_,rfl⟩:=Gb hl;rfl) len body
theorem v9(T:Txt K mg):mU P w K mg base 3 "read_word" ik yG ["kind","words","place"]:= @λ_ _ _ len body=>bD T.rT pQ (λ_ _ _ _ _ _ us hl=>by obtain⟨_,_,_,rfl⟩:=Gb hl;rfl) len body
theorem wJ(T:Txt K mg):mU P w K mg base 3 "read_none" gP yq ["columns","words","start"]:= @λ_ _ _ len body=>bD T.qZ pB (λ_ _ _ _ _ _ us hl=>by obtain⟨_,_,_,rfl⟩:=Gb hl;rfl) len body
theorem oM(T:Txt K mg):mU P w K mg base 3 "read_of_value" cC jU ["columns","words","start"]:= @λ_ _ _ len body=>bD T.jW jH (λ_ _ _ _ _ _ us hl=>by obtain⟨_,_,_,rfl⟩:=Gb hl;rfl) len body
theorem gq(T:Txt K mg):mU P w K mg base 4 "read_of_sieves" cP oF ["columns","words","start","within"]:= @λ_ _ _ len body=>bD T.xN dU (λ_ _ _ _ _ _ us hl=>by obtain⟨_,_,_,_,rfl⟩:=at4 hl;rfl) len body
theorem oY(T:Txt K mg):mU P w K mg base 4 "read_part" gF yj ["columns","words","start","within"]:= @λ_ _ _ len body=>bD T.Hh lg (λ_ _ _ _ _ _ us hl=>by obtain⟨_,_,_,_,rfl⟩:=at4 hl;rfl) len body
theorem uh(T:Txt K mg):mU P w K mg base 2 "read_sieve" fH vG ["columns","text"]:= @λ_ _ _ len body=>bD T.En nU (λ_ _ _ _ _ _ us hl=>by obtain⟨_,_,rfl⟩:=at2 hl;rfl) len body
theorem wu(T:Txt K mg):mU P w K mg base 1 "read_make" gD yt ["letter"]:= @λ_ _ _ len body=>bD T.nq oV (λ_ _ _ _ _ _ us hl=>by obtain⟨_,rfl⟩:=Ry hl;rfl) len body
theorem uq(T:Txt K mg):mU P w K mg base 2 "read_whole" fO wI ["word","most"]:= @λ_ _ _ len body=>bD T.iw n8 (λ_ _ _ _ _ _ us hl=>by obtain⟨_,_,rfl⟩:=at2 hl;rfl) len body
theorem wj(T:Txt K mg):mU P w K mg base 1 "read_side" ie yo ["sign"]:= @λ_ _ _ len body=>bD T.ni Et (λ_ _ _ _ _ _ us hl=>by obtain⟨_,rfl⟩:=Ry hl;rfl) len body
theorem yD(T:Txt K mg):mU P w K mg base 3 "read_cut" fM zW ["columns","order","text"]:= @λ_ _ _ len body=>bD T.uN qY (λ_ _ _ _ _ _ us hl=>by obtain⟨_,_,_,rfl⟩:=Gb hl;rfl) len body
theorem vq(T:Txt K mg):mU P w K mg base 2 "read_body" gZ yp ["columns","body"]:= @λ_ _ _ len body=>bD T.rm pq (λ_ _ _ _ _ _ us hl=>by obtain⟨_,_,rfl⟩:=at2 hl;rfl) len body
theorem pM(T:Txt K mg):mU P w K mg base 2 "read_mark" gG yw ["columns","text"]:= @λ_ _ _ len body=>bD T.qK kZ (λ_ _ _ _ _ _ us hl=>by obtain⟨_,_,rfl⟩:=at2 hl;rfl) len body
theorem Dr(T:Txt K mg):mU P w K mg base 3 "_law_draw" gM yI ["_law_script","_law_k","_law_many"]:= @λ_ _ _ len body=>bD T.bZ wD (λ_ _ _ _ _ _ us hl=>by obtain⟨_,_,_,rfl⟩:=Gb hl;rfl) len body
theorem yO(T:Txt K mg):mU P w K mg base 3 "_law_columns" cV qO ["_law_script","_law_base","_law_most"]:= @λ_ _ _ len body=>bD T.my qp (λ_ _ _ _ _ _ us hl=>by obtain⟨_,_,_,rfl⟩:=Gb hl;rfl) len body
theorem Bu(T:Txt K mg):mU P w K mg base 3 "_law_value" cT pN ["_law_script","_law_k","_law_kind"]:= @λ_ _ _ len body=>bD T.km uc (λ_ _ _ _ _ _ us hl=>by obtain⟨_,_,_,rfl⟩:=Gb hl;rfl) len body
theorem Ah(T:Txt K mg):mU P w K mg base 3 "_law_values" dh tO ["_law_script","_law_k","_law_columns_here"]:= @λ_ _ _ len body=>bD T.nR Aj (λ_ _ _ _ _ _ us hl=>by obtain⟨_,_,_,rfl⟩:=Gb hl;rfl) len body
theorem Bw(T:Txt K mg):mU P w K mg base 3 "_law_order" dJ vO ["_law_script","_law_base","_law_columns_here"]:= @λ_ _ _ len body=>bD T.pC um (λ_ _ _ _ _ _ us hl=>by obtain⟨_,_,_,rfl⟩:=Gb hl;rfl) len body
theorem Hr(T:Txt K mg):mU P w K mg base 4 "_law_key" fJ zQ ["_law_columns_here","_law_order_here","_law_row","_law_values_here"]:= @λ_ _ _ len body=>bD T.uT yH (λ_ _ _ _ _ _ us hl=>by obtain⟨_,_,_,_,rfl⟩:=at4 hl;rfl) len body
theorem Eu(T:Txt K mg):mU P w K mg base 1 "_law_word" il yE ["_law_value_here"]:= @λ_ _ _ len body=>bD T.mX Fi (λ_ _ _ _ _ _ us hl=>by obtain⟨_,rfl⟩:=Ry hl;rfl) len body
theorem Ex(T:Txt K mg):mU P w K mg base 3 "_law_look" dO rF ["_law_script","_law_base","_law_columns_here"]:= @λ_ _ _ len body=>bD T.qN wK (λ_ _ _ _ _ _ us hl=>by obtain⟨_,_,_,rfl⟩:=Gb hl;rfl) len body
theorem BP(T:Txt K mg):mU P w K mg base 3 "_law_sieve" fG vP ["_law_script","_law_base","_law_columns_here"]:= @λ_ _ _ len body=>bD T.oX tX (λ_ _ _ _ _ _ us hl=>by obtain⟨_,_,_,rfl⟩:=Gb hl;rfl) len body
theorem DY(T:Txt K mg):mU P w K mg base 3 "_law_mark" gY yu ["_law_script","_law_base","_law_columns_here"]:= @λ_ _ _ len body=>bD T.qX vM (λ_ _ _ _ _ _ us hl=>by obtain⟨_,_,_,rfl⟩:=Gb hl;rfl) len body
theorem Eo(T:Txt K mg):mU P w K mg base 1 "_law_body" di jP ["_law_mark_here"]:= @λ_ _ _ len body=>bD T.mW wG (λ_ _ _ _ _ _ us hl=>by obtain⟨_,rfl⟩:=Ry hl;rfl) len body
theorem yQ(T:Txt K mg):mU P w K mg base 1 "_law_checked" du rO ["_law_body_here"]:= @λ_ _ _ len body=>bD T.mR qg (λ_ _ _ _ _ _ us hl=>by obtain⟨_,rfl⟩:=Ry hl;rfl) len body
theorem yW(T:Txt K mg):mU P w K mg base 2 "_law_refused" dj rE ["_law_columns_here","_law_text"]:= @λ_ _ _ len body=>bD T.mF p6 (λ_ _ _ _ _ _ us hl=>by obtain⟨_,_,rfl⟩:=at2 hl;rfl) len body
theorem uL(T:Txt K mg):mU P w K mg base 3 "_law_order_bent" cH m5 ["_law_script","_law_text","_law_columns_here"]:= @λ_ _ _ len body=>bD T.jw mj (λ_ _ _ _ _ _ us hl=>by obtain⟨_,_,_,rfl⟩:=Gb hl;rfl) len body
theorem uP(T:Txt K mg):mU P w K mg base 2 "_law_sieve_bent" cF nF ["_law_script","_law_text"]:= @λ_ _ _ len body=>bD T.jt lO (λ_ _ _ _ _ _ us hl=>by obtain⟨_,_,rfl⟩:=at2 hl;rfl) len body
theorem uD(T:Txt K mg):mU P w K mg base 4 "_law_whole_bent" bN ji ["_law_script","_law_k","_law_number","_law_most"]:= @λ_ _ _ len body=>bD T.gw lY (λ_ _ _ _ _ _ us hl=>by obtain⟨_,_,_,_,rfl⟩:=at4 hl;rfl) len body
theorem xQ(T:Txt K mg):mU P w K mg base 4 "_law_cut_bent" bQ jX ["_law_script","_law_columns_here","_law_mark_here","_law_part"]:= @λ_ _ _ len body=>bD T.jY oJ (λ_ _ _ _ _ _ us hl=>by obtain⟨_,_,_,_,rfl⟩:=at4 hl;rfl) len body
theorem Eh(T:Txt K mg):mU P w K mg base 3 "_law_bent" dI qR ["_law_script","_law_columns_here","_law_mark_here"]:= @λ_ _ _ len body=>bD T.qM wL (λ_ _ _ _ _ _ us hl=>by obtain⟨_,_,_,rfl⟩:=Gb hl;rfl) len body
theorem vL{cc:Bool}{k:Nat}{sp:Sp}(len:∀vs H Q E,sp vs H Q E->vs.length=2)(body:∀(f:Addr) (cdv:Value) (A:Around) (outer:List Env) (s:Shared) (H:Hp) (vs:List V) (Q:VK) (E:XK),fB cc k (A.deeper (envOfC "Sieve.__init__" (aa aY) s.heap.objs.size f cdv))->sp vs H Q E->lH (vd cc P w K mg base jD "Sieve.__init__" (aa aY) f cdv A outer s H E) (az aY) {nx:=λ_ H'=>Q .non H',rt:=Q} (start jD vs) H):FD P w K mg base cc (k+1) "__init__" "Sieve.__init__" aY ["self","text"] sp:=Dh wB (λ_ _ _ _ _ _ us hl=>by obtain⟨_,_,rfl⟩:=at2 hl;rfl) len body
theorem Aa{cc:Bool}{k:Nat}{sp:Sp}(len:∀vs H Q E,sp vs H Q E->vs.length=1)(body:∀(f:Addr) (cdv:Value) (A:Around) (outer:List Env) (s:Shared) (H:Hp) (vs:List V) (Q:VK) (E:XK),fB cc k (A.deeper (envOfC "Sieve.shown" (aa aH) s.heap.objs.size f cdv))->sp vs H Q E->lH (vd cc P w K mg base nW "Sieve.shown" (aa aH) f cdv A outer s H E) (az aH) {nx:=λ_ H'=>Q .non H',rt:=Q} (start nW vs) H):FD P w K mg base cc (k+1) "shown" "Sieve.shown" aH ["self"] sp:=Dh Az (λ_ _ _ _ _ _ us hl=>by obtain⟨_,rfl⟩:=Ry hl;rfl) len body
theorem qx{cc:Bool}{k:Nat}{sp:Sp}(len:∀vs H Q E,sp vs H Q E->vs.length=3)(body:∀(f:Addr) (cdv:Value) (A:Around) (outer:List Env) (s:Shared) (H:Hp) (vs:List V) (Q:VK) (E:XK),fB cc k (A.deeper (envOfC "NoneSieve.__init__" (aa bf) s.heap.objs.size f cdv))->sp vs H Q E->lH (vd cc P w K mg base gK "NoneSieve.__init__" (aa bf) f cdv A outer s H E) (az bf) {nx:=λ_ H'=>Q .non H',rt:=Q} (start gK vs) H):FD P w K mg base cc (k+1) "__init__" "NoneSieve.__init__" bf ["self","text","place"] sp:=Dh qF (λ_ _ _ _ _ _ us hl=>by obtain⟨_,_,_,rfl⟩:=Gb hl;rfl) len body
theorem pY{cc:Bool}{k:Nat}{sp:Sp}(len:∀vs H Q E,sp vs H Q E->vs.length=4)(body:∀(f:Addr) (cdv:Value) (A:Around) (outer:List Env) (s:Shared) (H:Hp) (vs:List V) (Q:VK) (E:XK),fB cc k (A.deeper (envOfC "ValueSieve.__init__" (aa aG) s.heap.objs.size f cdv))->sp vs H Q E->lH (vd cc P w K mg base gf "ValueSieve.__init__" (aa aG) f cdv A outer s H E) (az aG) {nx:=λ_ H'=>Q .non H',rt:=Q} (start gf vs) H):FD P w K mg base cc (k+1) "__init__" "ValueSieve.__init__" aG ["self","text","place","value"] sp:=Dh pK (λ_ _ _ _ _ _ us hl=>by obtain⟨_,_,_,_,rfl⟩:=at4 hl;rfl) len body
theorem rK{cc:Bool}{k:Nat}{sp:Sp}(len:∀vs H Q E,sp vs H Q E->vs.length=3)(body:∀(f:Addr) (cdv:Value) (A:Around) (outer:List Env) (s:Shared) (H:Hp) (vs:List V) (Q:VK) (E:XK),fB cc k (A.deeper (envOfC "NotSieve.__init__" (aa bw) s.heap.objs.size f cdv))->sp vs H Q E->lH (vd cc P w K mg base iH "NotSieve.__init__" (aa bw) f cdv A outer s H E) (az bw) {nx:=λ_ H'=>Q .non H',rt:=Q} (start iH vs) H):FD P w K mg base cc (k+1) "__init__" "NotSieve.__init__" bw ["self","text","one"] sp:=Dh qT (λ_ _ _ _ _ _ us hl=>by obtain⟨_,_,_,rfl⟩:=Gb hl;rfl) len body
theorem qu{cc:Bool}{k:Nat}{sp:Sp}(len:∀vs H Q E,sp vs H Q E->vs.length=4)(body:∀(f:Addr) (cdv:Value) (A:Around) (outer:List Env) (s:Shared) (H:Hp) (vs:List V) (Q:VK) (E:XK),fB cc k (A.deeper (envOfC "PairSieve.__init__" (aa aP) s.heap.objs.size f cdv))->sp vs H Q E->lH (vd cc P w K mg base gJ "PairSieve.__init__" (aa aP) f cdv A outer s H E) (az aP) {nx:=λ_ H'=>Q .non H',rt:=Q} (start gJ vs) H):FD P w K mg base cc (k+1) "__init__" "PairSieve.__init__" aP ["self","text","one","other"] sp:=Dh qz (λ_ _ _ _ _ _ us hl=>by obtain⟨_,_,_,_,rfl⟩:=at4 hl;rfl) len body
theorem jc(T:Txt K mg){cc:Bool}:Xn P w K mg base cc 1 "NoSieve" "at":=by
 refine Yi T.sX KQ (λ_ _ _ _ _ _ us hl=>by obtain⟨_,_,rfl⟩:=at2 hl;rfl) rfl (λf cdv A outer s H vs Q E hi hr h=>?_)
 obtain⟨e,n,rfl,hn,he,q⟩:=h
 have hsz:=sizeLine_eq
 refine aj (eU (by rfl) ?_)
 refine Xd (pl:=_) T.qU.toXBase (by rfl) (by decide) (by rfl) (by rfl) (by rfl) ?_
 walk_at "go"
 refine Nu ?_
 walk_at "e"
 refine⟨n,rfl,Vl.jZ hn,_,70,rfl,Vl.Yo hn,by omega,?_⟩
 walk_at "go"
 intro zz
 refine nP (ad0 hi he ?_)
 refine aq (Xu T.sX.sa T.sX.xc T.sX.tk (by rfl) ?_)
 walk_at "e"
 walk_at "e"
 refine⟨e,rfl,he,λD hD hDe=>q D _ hDe hD (λb o hb r=>?_) ao ?_⟩
 .rw[aF hb,aF (aB r hD)]
  exact r
 .rw[aF hDe,ao]
end
end K39
namespace K39
open PySem L2 PyProof.Rows My Vl Lw
section
variable{P:Program}{w:World}{K:acF}{mg:Str->Option Value}{base:Heap}
def Uq(K:acF)(mg:Str->Option Value):Sp:=λvs H Q E=>∃(a:Addr) (ws:List Str) (p:Nat),vs=[.ref a,.int p]/\aX K H a (ws.map V.str)/\ws.length≤4000/\p≤100000/\
 (¬(p<ws.length/\p<60)->∀e H',au H H'->H' e=some (.xd [("at",.int p)])->E (.ref (ak mg "NoSieve")) (some e,true) H')/\∀z,ws[p]? =some z->p<60->Q (.str z) H
theorem iY(T:Txt K mg):Def P w K mg base true 3 "word_at" ["words","place"] (Uq K mg):=by
 refine Jf T (λvs H Q E h=>by obtain⟨a,ws,p,rfl,_⟩:=h;rfl) (λf cdv A outer s H vs Q E hr h=>?_)
 obtain⟨a,ws,p,rfl,hS,hl,hp,bad,q⟩:=h
 have n1:=T.jr
 have g1:=T.Ff
 have yg:(ws.map V.str).length=ws.length:=aar ..
 have rest:¬(p<ws.length/\p<60)->lH (vd true P w K mg base sE "word_at" (aa eV) f cdv A outer s H E) [RQ (ad1 (RQ (az eV) 0)) 0] {nx:=λσ' H'=>lH (vd true P w K mg base sE "word_at" (aa eV) f cdv A outer s H E) ((az eV).drop 1) {nx:=λ_ H'=>Q .non H',rt:=Q} σ' H',rt:=Q} [some (.ref a),some (.int p)] H:=by
  intro hb
  refine aq (jA (jc T (cc:=true)) hr (by decide) (λ_=>rfl) bF (by rfl) (by rfl) (by decide) (by rfl) (by rfl) ?_)
  walk_at "go"
  exact⟨p,rfl,by omega,λe H' sm he=>bad hb e H' sm he⟩
 refine aj ?_
 walk_at "go"
 rw[yg]
 refine dD (λh=>?_) (λh=>?_)
 .exact rest (by omega)
 .walk_at "go"
  refine dD (λh2=>?_) (λh2=>?_)
  .exact rest (by omega)
  .walk_at "go"
   have hlt:p<ws.length:=by omega
   have hg:ws[p]? =some ws[p]:=aak hlt
   refine aR hS (bz (by rw[aby,hg];rfl)) ?_
   exact q _ hg (by omega)
def mV(ws:List Str)(s b:Nat):Str:=Str.join " " ((ws.drop s).take (b-s))
def aaJ(K:acF):Sp:=λvs H Q _=>∃(a:Addr) (ws:List Str) (s b:Nat),vs=[.ref a,.int s,.int b]/\aX K H a (ws.map V.str)/\ws.length≤4000/\(∀z∈ws,z.length≤1000)/\s≤b/\b≤ws.length/\∀H',au H H'->Q (.str (mV ws s b)) H'
theorem NT:∀{l:List Str},(∀z∈l,z.length≤1000)->(l.map (·.length)).sum≤l.length*1000
 |[],_=>by simp
 |z::l,h=>by
  have h1:=NT (l:=l) λy hy=>h y (by simp[hy])
  have h2:=h z (by simp)
  simp only[List.map_cons,List.sum_cons,List.length_cons]
  omega
theorem dm(T:Txt K mg):Def P w K mg base true 1 "text_between" ["words","start","behind"] (aaJ K):=by
 refine yP T (λvs H Q E h=>by obtain⟨a,ws,s,b,rfl,_⟩:=h;rfl) (λf cdv A outer s H vs Q E hr h=>?_)
 obtain⟨a,ws,i,j,rfl,hS,hl,hz,hij,hj,q⟩:=h
 have lb:(" ":Str).length=1:=by decide+kernel
 have hsz:=sizeLine_eq
 refine aq (bA ?_)
 walk_at "go"
 refine KC hS λp hp=>?_
 have e:yN (ws.map V.str) (some (i:Int)) (some (j:Int))=((ws.drop i).take (j-i)).map V.str:=by
  unfold yN
  have yg:(ws.map V.str).length=ws.length:=aar ..
  have e1:HT.lG (ws.map V.str).length 0 (some (i:Int))=i:=by
   rw[yg]
   unfold HT.lG
   split
   .rename_i h;cases h
   .rename_i h
    cases h
    rw[if_neg (by omega)]
    omega
  have e2:HT.lG (ws.map V.str).length (ws.map V.str).length (some (j:Int))=j:=by
   rw[yg]
   unfold HT.lG
   split
   .rename_i h;cases h
   .rename_i h
    cases h
    rw[if_neg (by omega)]
    omega
  rw[e1,e2, <-arI, <-arS]
 rw[e]
 obtain⟨sm,ep⟩:=bR hp (.lst (((ws.drop i).take (j-i)).map V.str))
 generalize upd H p (.lst (((ws.drop i).take (j-i)).map V.str))=H2 at sm ep⊢
 walk_at "go"
 refine xq (aX.of ep) ?_ (q H2 sm)
 have h1:=NT (l:=(ws.drop i).take (j-i)) λz h=>hz z (ahg (afx h))
 have h2:((ws.drop i).take (j-i)).length≤4000:=by
  rw[afm,afr]
  omega
 rw[lb]
 omega
theorem Gd{cs:List bC}{z:Str}:∀{i:Nat} {c:bC} (j:Nat),cs[i]? =some c->(∀k c,k<i->cs[k]? =some c->¬c.1=z)->c.1=z->jj cs z j= .int ((j+i:Nat):Int):=by
 induction cs with
 |nil=>intro i c j e;simp at e
 |cons d r ih=>
  intro i c j e h hz
  unfold jj
  cases i with
  |zero=>
   simp at e
   subst e
   rw[if_pos hz]
   rfl
  |succ i=>
   rw[if_neg (h 0 d (by omega) rfl)]
   rw[ih (j+1) (by simpa using e) (λk c hk e'=>h (k+1) c (by omega) (by simpa using e')) hz]
   congr 2
   omega
theorem yf{cs:List bC}{z:Str}:∀(j:Nat),(∀c∈cs,¬c.1=z)->jj cs z j= .non:=by
 induction cs with
 |nil=>intro j h;rfl
 |cons d r ih=>
  intro j h
  unfold jj
  rw[if_neg (h d (by simp)),ih (j+1) λc hc=>h c (by simp[hc])]
theorem jC(T:Txt K mg):Def P w K mg base true 1 "place_of" ["columns","name"] ZC:=by
 refine Iu T (λvs H Q E h=>by obtain⟨a,cs,z,rfl,_⟩:=h;rfl) (λf cdv A outer s H vs Q E hr h=>?_)
 obtain⟨a,cs,z,rfl,⟨vs,ha,hvs⟩,q⟩:=h
 have n1:=T.Gj
 have nd:=yL.nd
 refine aj ?_
 refine Zk (by walk_at "po") (by rfl) (by rfl) n1 (by rfl) ?_
 walk_at "go"
 refine⟨a,vs,rfl,ha,λi σ H'=>(∃o1 o2,σ=[some (.ref a),some (.str z),o1,o2])/\au H H'/\∀k c,k<i->cs[k]? =some c->¬c.1=z,⟨⟨none,none,rfl⟩,au.refl _,λk c hk=>by omega⟩,λi σ H' hi hP=>.inl (.inl (hP.2.1 _ _ ha)),λi x T' σ H' hx hP hT=>?_,λσ H' hP=>?_⟩
 .obtain⟨⟨o1,o2,rfl⟩,sm,hn⟩:=hP
  obtain⟨c,hc,t,rfl,ht⟩:=hvs.get hx
  have gh:=sm.trans (au.upd (o:=.tup [.int i,.ref t]) hT)
  have eT:(upd H' T' (.tup [.int i,.ref t])) T'=some (.tup [.int i,.ref t]):=ao
  generalize upd H' T' (.tup [.int i,.ref t])=H2 at gh eT⊢
  refine dW (by rfl) (by rfl) (by rfl) (dg.of eT) (by rfl) (aO (by rfl) (aM nd (by rfl) (.inl rfl) (.inl rfl) (aO (by rfl) (aM nd (by rfl) (.inl rfl) (.inl rfl) (cR ?_)))))
  refine aq ?_
  walk_at "go"
  refine cQ (dg.of (gh _ _ ht)) (show lR [V.str c.1,V.str c.2] 0=some (V.str c.1)from rfl) ?_
  walk_at "go"
  refine dD (λh=>?_) (λh=>?_)
  .have hz:c.1=z:=by injection h
   walk_at "go"
   have :=Gd 0 hc hn hz
   rw[aly]at this
   rw[<-this]
   exact q H2 gh
  .have hz:¬c.1=z:=λe=>h (by rw[e])
   walk_at "go"
   refine⟨⟨_,_,rfl⟩,gh,λk d hk hd=>?_⟩
   by_cases e:k=i
   .subst e
    rw[hc]at hd
    cases hd
    exact hz
   .exact hn k d (by omega) hd
 .obtain⟨⟨o1,o2,rfl⟩,sm,hn⟩:=hP
  refine aq ?_
  walk_at "go"
  have :=yf (cs:=cs) (z:=z) 0 λc hc=>by
   obtain⟨k,hk,e⟩:=ajv hc
   exact hn k c (by rw[hvs.len];exact hk) (by rw[<-e];exact aak hk)
  rw[<-this]
  exact q H' sm
def gn(cs:List bC)(ws:List Str)(p:Nat):Option Nat:=if p<60 then match ws[p]? with
 |none=>none
 |some z=>if cs.any (λc=>decide (c.1=z))=true then some (bY cs z)else none
 else none
def XM(K:acF)(mg:Str->Option Value):Sp:=λvs H Q E=>∃(b:Addr) (cs:List bC) (a:Addr) (ws:List Str) (p:Nat),vs=[.ref b,.ref a,.int p]/\dX H b cs/\aX K H a (ws.map V.str)/\ws.length≤4000/\p≤100000/\
 (gn cs ws p=none->∀e H',au H H'->H' e=some (.xd [("at",.int p)])->E (.ref (ak mg "NoSieve")) (some e,true) H')/\∀i H',au H H'->gn cs ws p=some i->Q (.int (i:Nat)) H'
theorem fZ(T:Txt K mg):Def P w K mg base true 4 "read_column" ["columns","words","place"] (XM K mg):=by
 refine zY T (λvs H Q E h=>by obtain⟨b,cs,a,ws,p,rfl,_⟩:=h;rfl) (λf cdv A outer s H vs Q E hr h=>?_)
 obtain⟨b,cs,a,ws,p,rfl,hC,hS,hl,hp,bad,q⟩:=h
 have nd:=rN.nd
 have D1:= @jC P w K mg base T
 have D2:= @iY P w K mg base T
 refine aj ?_
 walk_at "go"
 refine⟨a,ws,p,rfl,hS,hl,hp,λhb e H' sm he=>bad ?_ e H' sm he,λz hz h60=>?_⟩
 .unfold gn
  by_cases h60:p<60
  .rw[if_pos h60,List.getElem?_eq_none (by omega)]
  .rw[if_neg h60]
 .walk_at "go"
  refine⟨b,cs,z,rfl,hC,λH2 sm=>?_⟩
  by_cases hin:∃c∈cs,c.1=z
  .have e:gn cs ws p=some (bY cs z):=by
    unfold gn
    rw[if_pos h60,hz]
    exact if_pos (by rw[anC];obtain⟨c,hc,e⟩:=hin;exact⟨c,hc,decide_eq_true e⟩)
   rw[vW 0 hin,aly]
   walk_at "go"
   exact q _ H2 sm e
  .have e:gn cs ws p=none:=by
    unfold gn
    rw[if_pos h60,hz]
    exact if_neg (by rw[anC];rintro⟨c,hc,e⟩;exact hin ⟨c,hc,of_decide_eq_true e⟩)
   rw[yf 0 λc hc e=>hin ⟨c,hc,e⟩]
   refine aj ?_
   walk_at "go"
   refine jA (jc T (cc:=true)) hr (by decide) (λ_=>rfl) bF (by rfl) (by rfl) (by decide) (by rfl) (by rfl) ?_
   walk_at "go"
   exact⟨p,rfl,by omega,λe' H' sm' he=>bad e e' H' (sm.trans sm') he⟩
def Di(K:acF):Sp:=λvs H Q _=>∃(a C dx:Addr) (fs:List (Str×V)) (z:Str),vs=[.ref a,.str z]/\H a=some (.ins C dx fs)/\sZ K C/\bh K C "text"/\fs.length<900/\Q .non (upd H a (.ins C dx (iG "text" (.str z) fs)))
theorem jz{cc:Bool}:FD P w K mg base cc 1 "__init__" "Sieve.__init__" aY ["self","text"] (Di K):=by
 refine vL (λvs H Q E h=>by obtain⟨a,C,dx,fs,z,rfl,_⟩:=h;rfl) (λf cdv A outer s H vs Q E hr h=>?_)
 obtain⟨a,C,dx,fs,z,rfl,ha,hc,hn,hl,q⟩:=h
 refine aq (o6 (by rfl) ?_)
 walk_at "e"
 walk_at "e"
 exact⟨a,C,dx,fs,rfl,ha,hc,hn,by omega,q⟩
def Z9(K:acF):Sp:=λvs H Q _=>∃(a C dx:Addr) (fs:List (Str×V)) (z:Str) (p:V),vs=[.ref a,.str z,p]/\H a=some (.ins C dx fs)/\sZ K C/\bh K C "text"/\bh K C "place"/\fs.length<800/\
 Q .non (upd (upd H a (.ins C dx (iG "text" (.str z) fs))) a (.ins C dx (iG "place" p (iG "text" (.str z) fs))))
theorem xX(T:Txt K mg){cc:Bool}:FD P w K mg base cc 2 "__init__" "NoneSieve.__init__" bf ["self","text","place"] (Z9 K):=by
 refine qx (λvs H Q E h=>by obtain⟨a,C,dx,fs,z,p,rfl,_⟩:=h;rfl) (λf cdv A outer s H vs Q E hr h=>?_)
 obtain⟨a,C,dx,fs,z,p,rfl,ha,hc,hn,hn2,hl,q⟩:=h
 have B:Ri P w K mg base cc 1 "Sieve" "__init__" ["self","text"] (Di K):=jz.asked T.zm T.gm
 have hz:=fj "text" (V.str z) fs
 refine aj (eU (by rfl) ?_)
 refine vX (pl:=_) B hr (by decide) id bF (by rfl) (by decide) (by rfl) (by rfl) (by rfl) ?_
 walk_at "go"
 refine⟨a,C,dx,fs,z,rfl,ha,hc,hn,by omega,?_⟩
 refine aq (o6 (by rfl) ?_)
 walk_at "e"
 walk_at "e"
 exact⟨a,C,dx,_,rfl,ao,hc,hn2,by omega,q⟩
def Ht(K:acF):Sp:=λvs H Q _=>∃(a C dx:Addr) (fs:List (Str×V)) (z:Str) (p v:V),vs=[.ref a,.str z,p,v]/\H a=some (.ins C dx fs)/\sZ K C/\bh K C "text"/\bh K C "place"/\bh K C "value"/\fs.length<800/\
 ∀H',H' a=some (.ins C dx (iG "value" v (iG "place" p (iG "text" (.str z) fs))))->(∀b o,b≠a->H b=some o->H' b=some o)->Q .non H'
theorem gj(T:Txt K mg){cc:Bool}:FD P w K mg base cc 2 "__init__" "ValueSieve.__init__" aG ["self","text","place","value"] (Ht K):=by
 refine pY (λvs H Q E h=>by obtain⟨a,C,dx,fs,z,p,v,rfl,_⟩:=h;rfl) (λf cdv A outer s H vs Q E hr h=>?_)
 obtain⟨a,C,dx,fs,z,p,v,rfl,ha,hc,hn,hn2,hn3,hl,q⟩:=h
 have B:Ri P w K mg base cc 1 "Sieve" "__init__" ["self","text"] (Di K):=jz.asked T.zm T.gm
 have hz:=fj "text" (V.str z) fs
 have hz2:=fj "place" p (iG "text" (V.str z) fs)
 refine aj (eU (by rfl) ?_)
 refine vX (pl:=_) B hr (by decide) id bF (by rfl) (by decide) (by rfl) (by rfl) (by rfl) ?_
 walk_at "go"
 refine⟨a,C,dx,fs,z,rfl,ha,hc,hn,by omega,?_⟩
 refine aj (o6 (by rfl) ?_)
 walk_at "e"
 walk_at "e"
 refine⟨a,C,dx,_,rfl,ao,hc,hn2,by omega,?_⟩
 refine aq (o6 (by rfl) ?_)
 walk_at "e"
 walk_at "e"
 refine⟨a,C,dx,_,rfl,ao,hc,hn3,by omega,q _ ao λb o hb e=>?_⟩
 rw[aF hb,aF hb,aF hb]
 exact e
inductive Lk |is |under |over |holds
abbrev F3(z:Str)(p:Nat)(v:V):List (Str×V):=[("text",.str z),("place",.int p),("value",v)]
theorem sJ(T:Txt K mg):Def P w K mg base true 1 "made_of" ["text","signs"] acA:=by
 refine Jr T (λvs H Q E h=>by obtain⟨z,g,rfl,_⟩:=h;rfl) (λf cdv A outer s H vs Q E hr h=>?_)
 obtain⟨z,g,rfl,hz,q⟩:=h
 have n1:=T.af1
 refine aq (bA ?_)
 walk_at "e"
 walk_at "e"
 refine We ["sign","signs"] (σ':=[none,some (.str g)]) (by rfl) (by rfl) (cA (aa jf) (by rfl) (by rfl) (by decide+kernel)) (by decide+kernel) (by rfl) (by rfl) (by intro _;rfl) ?_
 walk_at "e"
 refine⟨z,rfl,?_,λi v=>∃c,z.cps.toList[i]? =some c/\v= .bl (decide (c∈g.cps.toList)),λfp E' C s3 H0 i c H2 hc sm=>?_,λE' H2 xs hE hl hx e2 sm=>?_⟩
 .have :z.cps.size=z.length:=rfl
  have h2:sizeLine=16777216:=sizeLine_eq
  omega
 .walk_at "go"
  exact⟨⟨c,hc,by rw[StrLaws.found_one]⟩,au.refl _⟩
 .have ex:=eN (ys:=z.cps.toList) (λc=>V.bl (decide (c∈g.cps.toList))) (by rw[hl];simp) hx
  have ex2:xs=(z.cps.toList.map λc=>decide (c∈g.cps.toList)).map V.bl:=by rw[ex,agz];rfl
  subst ex2
  walk_at "go"
  refine ajb (by rfl) (aX.of e2) ?_
  have e3:(z.cps.toList.map λc=>decide (c∈g.cps.toList)).all id=jo z g:=by rw[atq];rfl
  rw[e3]
  exact q _ sm
theorem jV(T:Txt K mg):Def P w K mg base true 2 "is_text_value" ["value"] ahm:=by
 refine xn T (λvs H Q E h=>by obtain⟨z,rfl,_⟩:=h;rfl) (λf cdv A outer s H vs Q E hr h=>?_)
 obtain⟨v,rfl,hs,hz,q⟩:=h
 have g1:=T.Rv
 have g2:=T.Ez
 have n1:=T.ph
 have n2:=T.zU
 have n3:=T.jr
 have D1:= @sJ P w K mg base T
 have hsz:=sizeLine_eq
 refine aq (bA ?_)
 cases v with
 |int i=>
  walk_at "go"
  exact q H (au.refl _)
 |non=>
  walk_at "go"
  exact q H (au.refl _)
 |str z=>
  have hz':z.length≤4000:=hz
  walk_at "go"
  refine dD (λh=>?_) (λh=>?_)
  .walk_at "go"
   refine⟨z,_,rfl,hz',λH' sm=>?_⟩
   have e:yC (.str z)=jo z TSs:=by
    have h':z.length≤20:=by omega
    unfold yC
    simp[h']
   rw[e]at q
   exact q H' sm
  .have e:yC (.str z)=false:=by
    have h':¬z.length≤20:=by omega
    unfold yC
    simp[h']
   rw[e]at q
   exact q H (au.refl _)
 |_=>cases hs
theorem n6(T:Txt K mg):Def P w K mg base true 2 "are_figures" ["word"] ajA:=by
 refine zR T (λvs H Q E h=>by obtain⟨v,rfl,_⟩:=h;rfl) (λf cdv A outer s H vs Q E hr h=>?_)
 obtain⟨z,rfl,hz,q⟩:=h
 have g1:=T.Qc
 have D1:= @sJ P w K mg base T
 have hsz:=sizeLine_eq
 have e0:("0":Str).cps.toList=[48]:=by decide+kernel
 have e1:("":Str).cps.toList=[]:=by decide+kernel
 unfold dY at q
 refine aq (bA ?_)
 walk_at "go"
 refine dD (λh=>?_) (λh=>?_)
 .have h':z.cps.toList=[48]:=by cases h;exact e0
  rw[h']at q
  exact q H (au.refl _)
 .have h':¬z.cps.toList=[48]:=λh2=>h (by rw[bB (h2.trans e0.symm)])
  rw[decide_eq_false h',ark]at q
  walk_at "go"
  refine O2 (λh2=>?_) (λh2=>?_)
  .have h2':z.cps.toList≠[]:=λh3=>h2 (by rw[bB (h3.trans e1.symm)])
   rw[decide_eq_true h2',anq]at q
   obtain⟨c,r,hc⟩:=List.exists_cons_of_ne_nil h2'
   have hc0:z.cps.toList[0]? =some c:=by rw[hc];rfl
   walk_at "go"
   refine yr (by omega) (bz (j:=0) hc0) ?_
   walk_at "go"
   rw[hc0]at q
   refine O2 (λh3=>?_) (λh3=>?_)
   .have h3':some c≠some 48:=λh4=>h3 (by cases h4;exact congrArg V.str (bB e0.symm))
    rw[decide_eq_true h3',anq]at q
    walk_at "go"
    refine⟨z,_,rfl,hz,λH' sm=>?_⟩
    rw[Rt]
    exact q H' sm
   .have h3':¬(some c≠some 48):=λh4=>h4 (by
     have :=congrArg (λv:V=>match v with | .str x=>x.cps.toList |_=>[]) h3
     have h5:[c]=("0":Str).cps.toList:=this
     rw[e0]at h5
     cases h5
     rfl)
    rw[decide_eq_false h3',alK]at q
    exact q H (au.refl _)
  .have h2':¬z.cps.toList≠[]:=λh3=>h3 (by cases h2;exact e1)
   rw[decide_eq_false h2',alK]at q
   exact q H (au.refl _)
theorem gU(T:Txt K mg):Def P w K mg base true 3 "read_figures" ["word","most"] Zu:=by
 refine yZ T (λvs H Q E h=>by obtain⟨z,m,k,rfl,_⟩:=h;rfl) (λf cdv A outer s H vs Q E hr h=>?_)
 obtain⟨z,m,k,rfl,hz,m0,m1,hk,hmk,k1,k2,q⟩:=h
 have n1:=T.jr
 have n2:=T.zU
 have n3:=T.VJ
 have nd:=qb.nd
 have D1:= @n6 P w K mg base T
 have hsz:=sizeLine_eq
 have hl:=L2.len_list z
 have out:∀(H1:Hp) (o:Option V),au H H1->mL z.cps.toList m=none->lH (vd true P w K mg base lU "read_figures" (aa cL) f cdv A outer s H E) ((az cL).drop 1) {nx:=λ_ H'=>Q .non H',rt:=Q} [some (.str z),some (.int m),o] H1:=by
  intro H1 o sm e
  have q1:=q H1 sm
  rw[e]at q1
  refine aq ?_
  walk_at "go"
  exact q1
 refine aj ?_
 walk_at "go"
 refine⟨z,rfl,hz,λH1 iK=>?_⟩
 walk_at "go"
 refine ifB (λh1=>?_) (λh1=>?_)
 .walk_at "go"
  refine lN (jZ m1) ?_
  walk_at "go"
  rw[hk]
  refine dD (λh2=>?_) (λh2=>?_)
  .walk_at "go"
   obtain⟨hd,hne⟩:=tM h1
   refine acN (intText_digits hd hne (by omega)) (by omega) ?_
   walk_at "go"
   refine dD (λh3=>?_) (λh3=>?_)
   .have q1:=q H1 iK
    have e:mL z.cps.toList m=some _:=if_pos ⟨h1,h3⟩
    rw[e]at q1
    walk_at "go"
    exact q1
   .exact aL (out H1 _ iK (if_neg λx=>h3 x.2))
  .refine aL (out H1 _ iK (if_neg λx=>h2 ?_))
   have :=Ep x.1 x.2 hmk k1
   omega
 .exact aL (out H1 _ iK (if_neg λx=>by rw[h1]at x;exact abX x.1))
theorem iV(T:Txt K mg):Def P w K mg base true 4 "read_number_word" ["word"] (Zw (.ref (ak mg "NoValue"))):=by
 refine tG T (λvs H Q E h=>by obtain⟨v,rfl,_⟩:=h;rfl) (λf cdv A outer s H vs Q E hr h=>?_)
 obtain⟨z,rfl,hz,q⟩:=h
 have g1:=T.BV
 have g2:=T.QM
 have nd:=j8.nd
 have D1:= @gU P w K mg base T
 have hsz:=sizeLine_eq
 have lm:(Str.ofString (toString (1000000000000000000:Int))).length=19:=by decide+kernel
 have rz:jx z.cps.toList=none->∀H1,au H H1->∀o1 o2 D,SX (vd true P w K mg base iQ "read_number_word" (aa bM) f cdv A outer s H E) (RQ (ad1 (RQ (az bM) 2)) 0) D [some (.str z),o1,o2] H1:=by
  intro hn H1 sm o1 o2 D
  refine eY bF (by rfl) T.xZ (by rfl) (by decide) (by rfl) (by rfl) ?_
  walk_at "go"
  refine oW ?_
  walk_at "e"
  refine⟨z,rfl,by omega,_,4000,rfl,hz,by omega,?_⟩
  walk_at "go"
  intro zz
  walk_at "go"
  have q1:=q H1 sm
  rw[hn]at q1
  exact⟨by rw[hsz];simp,q1⟩
 refine aj ?_
 walk_at "go"
 refine G5 ?_
 rw[show Txt.startswith z "-"=decide (z.cps.toList[0]? =some 45)from Ab z 45]
 walk_at "go"
 refine dD (λh0=>?_) (λh0=>?_)
 .rw[decide_eq_true h0]
  walk_at "go"
  refine iM (by omega) ?_
  walk_at "go"
  have hcl:=ju z (some 1) none
  refine⟨_,_,19,rfl,by omega,by decide,by decide,lm,by decide,by decide,by decide,λH1 iK=>?_⟩
  rw[show(bO z (some 1) none).cps.toList=z.cps.toList.drop 1 from lJ z 1]
  have er:=Bt h0
  cases e:mL (z.cps.toList.drop 1) 1000000000000000000 with
  |none=>
   rw[e]at er
   simp only[Su]
   walk_at "go"
   exact rz er H1 iK _ _ _
  |some i=>
   rw[e]at er
   dsimp only at er
   simp only[Su]
   walk_at "go"
   refine dD (λh1=>?_) (λh1=>?_)
   .have h2:i=0:=by injection h1
    rw[if_pos h2]at er
    exact aq (rz er H1 iK _ _ _)
   .have h2:¬i=0:=λe=>h1 (by rw[e])
    rw[if_neg h2]at er
    have q1:=q H1 iK
    rw[er]at q1
    refine aL ?_
    walk_at "go"
    exact q1
 .rw[decide_eq_false h0]
  walk_at "go"
  refine⟨_,_,19,rfl,by omega,by decide,by decide,lm,by decide,by decide,by decide,λH1 iK=>?_⟩
  have er:=tU h0
  cases e:mL z.cps.toList 1000000000000000000 with
  |none=>
   rw[e]at er
   simp only[Su]
   walk_at "go"
   exact rz er H1 iK _ _ _
  |some i=>
   rw[e]at er
   simp only[Su]
   have q1:=q H1 iK
   rw[er]at q1
   walk_at "go"
   exact q1
theorem jF(T:Txt K mg):Def P w K mg base true 3 "read_text_word" ["word"] (Zg (.ref (ak mg "NoValue"))):=by
 refine wg T (λvs H Q E h=>by obtain⟨v,rfl,_⟩:=h;rfl) (λf cdv A outer s H vs Q E hr h=>?_)
 obtain⟨z,rfl,hz,q⟩:=h
 have g1:=T.Ef
 have nd:=m7.nd
 have D1:= @jV P w K mg base T
 have hsz:=sizeLine_eq
 have e1:Str.ofString "'"=⟨#[39]⟩:=by decide+kernel
 have lc:=ju z (some 1) none
 have rz:kh z=none->∀H1,au H H1->lH (vd true P w K mg base jG "read_text_word" (aa bU) f cdv A outer s H E) ((az bU).drop 1) {nx:=λ_ H'=>Q .non H',rt:=Q} [some (.str z)] H1:=by
  intro hn H1 sm
  refine aq (eY bF (by rfl) T.xZ (by rfl) (by decide) (by rfl) (by rfl) ?_)
  walk_at "go"
  refine oW ?_
  walk_at "e"
  refine⟨z,rfl,by omega,_,4000,rfl,hz,by omega,?_⟩
  walk_at "go"
  intro zz
  walk_at "go"
  have q1:=q H1 sm
  rw[hn]at q1
  exact⟨by rw[hsz];simp,q1⟩
 refine aj ?_
 walk_at "go"
 refine G5 ?_
 walk_at "go"
 rw[e1,Ab]
 refine dD (λh1=>?_) (λh1=>?_)
 .walk_at "go"
  refine iM (by omega) ?_
  walk_at "go"
  refine⟨_,rfl,rfl,(show(bO z (some 1) none).length≤4000 by omega),λH1 iK=>?_⟩
  walk_at "go"
  refine ifB (λh2=>?_) (λh2=>?_)
  .walk_at "go"
   refine iM (by omega) ?_
   have q1:=q H1 iK
   have er:kh z=some (bO z (some 1) none):=by
    unfold kh
    rw[if_pos ⟨h1,h2⟩]
   rw[er]at q1
   exact q1
  .refine aL (rz ?_ H1 iK)
   unfold kh
   rw[if_neg λh4=>by rw[h2]at h4;exact abX h4.2]
 .refine aL (rz ?_ H (au.refl _))
  unfold kh
  rw[if_neg λh4=>h1 h4.1]
theorem iC(T:Txt K mg):Def P w K mg base true 5 "read_value" ["kind","word"] (XF (.ref (ak mg "NoValue"))):=by
 refine Cg T (λvs H Q E h=>by obtain⟨k,z,rfl,_⟩:=h;rfl) (λf cdv A outer s H vs Q E hr h=>?_)
 obtain⟨k,z,rfl,hz,q⟩:=h
 have g1:=T.Hj
 have g2:=T.Ut
 have D1:= @iV P w K mg base T
 have D2:= @jF P w K mg base T
 refine aj ?_
 walk_at "go"
 refine dD (λh1=>?_) (λh1=>?_)
 .have h2:z="?":=by cases h1;rfl
  have q1:=q H (au.refl _)
  have er:gB k z=some .non:=by unfold gB;rw[if_pos h2]
  rw[er]at q1
  walk_at "go"
  exact q1
 .have h2:¬z="?":=λe=>h1 (by rw[e])
  have er:gB k z=if k="number" then Xc (jx z.cps.toList)else abx (kh z):=by unfold gB;rw[if_neg h2]
  rw[er]at q
  walk_at "go"
  refine dD (λh3=>?_) (λh3=>?_)
  .have h4:k="number":=by cases h3;rfl
   rw[if_pos h4]at q
   walk_at "go"
   exact⟨z,rfl,hz,q⟩
  .have h4:¬k="number":=λe=>h3 (by rw[e])
   rw[if_neg h4]at q
   walk_at "go"
   exact⟨z,rfl,hz,q⟩
def X7(K:acF):Sp:=λvs H Q _=>∃(kd:Str) (a:Addr) (ws:List Str) (p:Nat) (z:Str) (v:V),vs=[.str kd,.ref a,.int p]/\aX K H a (ws.map V.str)/\ws.length≤4000/\ws[p]? =some z/\p<60/\z.length≤4000/\gB kd z=some v/\¬v= .non/\∀H',au H H'->Q v H'
theorem rT(T:Txt K mg):Def P w K mg base true 6 "read_word" ["kind","words","place"] (X7 K):=by
 refine v9 T (λvs H Q E h=>by obtain⟨kd,a,ws,p,z,v,rfl,_⟩:=h;rfl) (λf cdv A outer s H vs Q E hr h=>?_)
 obtain⟨kd,a,ws,p,z,v,rfl,hS,hl,hz,hp,hzl,hv,hne,q⟩:=h
 have nd:=pQ.nd
 have D1:= @iY P w K mg base T
 have D2:= @iC P w K mg base T
 have hlt:=(aan.mp hz).1
 refine aj ?_
 walk_at "go"
 refine⟨a,ws,p,rfl,hS,hl,by omega,λhb=>absurd ⟨hlt,hp⟩ hb,λz' hz' _=>?_⟩
 rw[hz]at hz'
 cases hz'
 refine aj ?_
 refine Bg (λ_ _ _ _=>False) rfl rfl (λF pn xo po=>?_) (λσ c d H' hK=>hK.elim)
 refine aq ?_
 walk_at "go"
 refine⟨kd,z,rfl,hzl,λH' sm=>?_⟩
 rw[hv]
 refine aL ?_
 refine aj ?_
 walk_at "go"
 rw[decide_eq_false hne]
 walk_at "go"
 exact q H' sm
inductive Oa |all |none (p:Nat) |look (l:Lk) (p:Nat) (v:V)
def afT(mg:Str->Option Value):Lk->Addr
 | .is=>ak mg "IsSieve"
 | .under=>ak mg "UnderSieve"
 | .over=>ak mg "OverSieve"
 | .holds=>ak mg "HoldsSieve"
def Dj(mg:Str->Option Value)(H:Hp)(a:Addr):Oa->Str->Prop
 | .all,z=>∃dx,H a=some (.ins (ak mg "AllSieve") dx [("text",.str z)])
 | .none p,z=>∃dx,H a=some (.ins (ak mg "NoneSieve") dx [("text",.str z),("place",.int p)])
 | .look l p v,z=>∃dx,H a=some (.ins (afT mg l) dx (F3 z p v))
theorem Dj.same{mg:Str->Option Value}{H H':Hp}{a:Addr}{s:Oa}{z:Str}(h:Dj mg H a s z)(e:au H H'):Dj mg H' a s z:=by
 cases s<;>obtain⟨dx,h⟩:=h<;>exact⟨dx,e _ _ h⟩
def K1(mg:Str->Option Value)(H:Hp)(p:Addr)(s:Oa)(z:Str)(n:Nat):Prop:=∃t,H p=some (.tup [.ref t,.int n])/\Dj mg H t s z
def Yn(K:acF)(mg:Str->Option Value):Sp:=λvs H Q _=>∃(b:Addr) (cs:List bC) (a:Addr) (ws:List Str) (s i:Nat),vs=[.ref b,.ref a,.int s]/\dX H b cs/\aX K H a (ws.map V.str)/\ws.length≤4000/\(∀z∈ws,z.length≤1000)/\s+2≤ws.length/\gn cs ws (s+1)=some i/\
 ∀p H',au H H'->K1 mg H' p (.none i) (mV ws s (s+2)) (s+2)->Q (.ref p) H'
theorem qZ(T:Txt K mg):Def P w K mg base true 5 "read_none" ["columns","words","start"] (Yn K mg):=by
 refine wJ T (λvs H Q E h=>by obtain⟨b,cs,a,ws,s,i,rfl,_⟩:=h;rfl) (λf cdv A outer s H vs Q E hr h=>?_)
 obtain⟨b,cs,a,ws,s0,i,rfl,hC,hS,hl,hz,hs2,hi,q⟩:=h
 have nd:=pB.nd
 have hsz:=sizeLine_eq
 have D1:= @fZ P w K mg base T
 have D2:= @dm P w K mg base T
 have M:zG P w K mg base true 2 "NoneSieve" (ak mg "NoneSieve") ["self","text","place"] (Z9 K):=(xX T).make T.Gy T.Fo
 refine aj ?_
 walk_at "go"
 refine⟨b,cs,a,ws,s0+1,by simp,hC,hS,hl,by omega,λe=>(by rw[hi]at e;cases e),λi' H2 gh e=>?_⟩
 rw[hi]at e
 cases e
 walk_at "go"
 refine kO M hr (by decide) (λ_=>rfl) bF (by rfl) (by decide) (by rfl) (by rfl) ?_
 walk_at "go"
 refine⟨a,ws,s0,s0+2,by simp,gh.seq hS,hl,hz,by omega,hs2,λH3 sm3=>?_⟩
 walk_at "go"
 intro y dx hy hdx hne
 refine⟨y,_,dx,[],mV ws s0 (s0+2),_,rfl,ao,T.rW,T.nH,T.uv,by simp,rfl,?_⟩
 walk_at "go"
 refine⟨by show 2≤sizeLine;omega,λp hp=>?_⟩
 generalize hG:upd (upd (upd (upd H3 dx (.own y)) y (.ins (ak mg "NoneSieve") dx [])) y _) y _=G at hp⊢
 have FZ:au H3 G:=λc o e=>by
  rw[<-hG,aF (aB e hy),aF (aB e hy),aF (aB e hy),aF (aB e hdx)]
  exact e
 have ey:G y=some (.ins (ak mg "NoneSieve") dx [("text",.str (mV ws s0 (s0+2))),("place",.int i)]):=by
  rw[<-hG]
  exact ao
 have ux:au G (upd G p (.tup [.ref y,.int (s0+2)])):=au.upd hp
 exact q p _ (((gh.trans sm3).trans FZ).trans ux) ⟨y,ao,dx,ux _ _ ey⟩
def j5:Lk->Str
 | .is=>"is"
 | .under=>"under"
 | .over=>"over"
 | .holds=>"holds"
def abU(K:acF)(mg:Str->Option Value):Sp:=λvs H Q _=>∃(l:Lk) (b:Addr) (cs:List bC) (a:Addr) (ws:List Str) (s i:Nat) (c:bC) (z:Str) (v:V),vs=[.ref b,.ref a,.int s]/\dX H b cs/\aX K H a (ws.map V.str)/\ws.length≤4000/\(∀z∈ws,z.length≤1000)/\s+3≤ws.length/\s+2<60/\
 ws[s]? =some (j5 l)/\gn cs ws (s+1)=some i/\cs[i]? =some c/\(l= .holds->c.2="text")/\ws[s+2]? =some z/\gB c.2 z=some v/\¬v= .non/\
 ∀p H',au H H'->K1 mg H' p (.look l i v) (mV ws s (s+3)) (s+3)->Q (.ref p) H'
theorem jW(T:Txt K mg):Def P w K mg base true 7 "read_of_value" ["columns","words","start"] (abU K mg):=by
 refine oM T (λvs H Q E h=>by obtain⟨l,b,cs,a,ws,s,i,c,z,v,rfl,_⟩:=h;rfl) (λf cdv A outer s H vs Q E hr h=>?_)
 obtain⟨l,b,cs,a,ws,s0,i,c,z,v,rfl,hC,hS,hl,hz,hs3,qC,hw,hi,hc,hh,Uo,hv,hne,q⟩:=h
 have nd:=jH.nd
 have hsz:=sizeLine_eq
 have g1:=T.vh
 have g2:=T.TQ
 have g3:=T.YQ
 have g4:=T.zg
 have g5:=T.Ed
 have D1:= @fZ P w K mg base T
 have D2:= @dm P w K mg base T
 have D3:= @rT P w K mg base T
 refine aj ?_
 walk_at "go"
 refine aR hS (bz (by rw[aby,hw];rfl)) ?_
 walk_at "go"
 refine⟨b,cs,a,ws,s0+1,by simp,hC,hS,hl,by omega,λe=>(by rw[hi]at e;cases e),λi' H2 gh e=>?_⟩
 rw[hi]at e
 cases e
 obtain⟨vs,hb,hvs⟩:=hC.same gh
 obtain⟨cv,gc,t,rfl,ht⟩:=hvs.get' hc
 refine aj ?_
 walk_at "go"
 refine aR (aX.of hb) (bz gc) ?_
 walk_at "go"
 refine cQ (dg.of ht) (show lR [V.str c.1,V.str c.2] 1=some (V.str c.2)from rfl) ?_
 cases l with
 |is=>
  have M:zG P w K mg base true 2 "IsSieve" (ak mg "IsSieve") ["self","text","place","value"] (Ht K):=(gj T).make T.Rc T.Jp
  refine aj ?_
  walk_at "go"
  refine dD (λh=>absurd h (by decide+kernel)) (λ_=>?_)
  refine aL ?_
  refine aj ?_
  walk_at "go"
  refine⟨c.2,a,ws,s0+2,z,v,by simp,gh.seq hS,hl,Uo,qC,by have :=hz z (aaR Uo);omega,hv,hne,λH3 sm3=>?_⟩
  walk_at "go"
  refine⟨a,ws,s0,s0+3,by simp,(gh.trans sm3).seq hS,hl,hz,by omega,hs3,λH4 qG=>?_⟩
  refine aj ?_
  walk_at "go"
  refine dD (λ_=>?_) (λh=>absurd rfl h)
  walk_at "go"
  refine kO M hr (by decide) (λ_=>rfl) bF (by rfl) (by decide) (by rfl) (by rfl) ?_
  walk_at "go"
  intro y dx hy hdx hne'
  refine⟨y,_,dx,[],mV ws s0 (s0+3),_,v,rfl,ao,T.wY,T.qd,T.xx,T.xR,by simp,λG eG hG=>⟨rfl,?_⟩⟩
  walk_at "go"
  refine⟨by show 2≤sizeLine;omega,λp hp=>?_⟩
  have FZ:au H4 G:=λc o e=>hG c o (aB e hy) (by rw[aF (aB e hy),aF (aB e hdx)];exact e)
  have ux:au G (upd G p (.tup [.ref y,.int (s0+3)])):=au.upd hp
  exact q p _ ((((gh.trans sm3).trans qG).trans FZ).trans ux) ⟨y,ao,dx,ux _ _ eG⟩
 |under=>
  have M:zG P w K mg base true 2 "UnderSieve" (ak mg "UnderSieve") ["self","text","place","value"] (Ht K):=(gj T).make T.Dw T.BZ
  refine aj ?_
  walk_at "go"
  refine dD (λh=>absurd h (by decide+kernel)) (λ_=>?_)
  refine aL ?_
  refine aj ?_
  walk_at "go"
  refine⟨c.2,a,ws,s0+2,z,v,by simp,gh.seq hS,hl,Uo,qC,by have :=hz z (aaR Uo);omega,hv,hne,λH3 sm3=>?_⟩
  walk_at "go"
  refine⟨a,ws,s0,s0+3,by simp,(gh.trans sm3).seq hS,hl,hz,by omega,hs3,λH4 qG=>?_⟩
  refine aj ?_
  walk_at "go"
  refine dD (λh=>absurd h (by decide+kernel)) (λ_=>?_)
  refine aL ?_
  refine aj ?_
  walk_at "go"
  refine dD (λ_=>?_) (λh=>absurd rfl h)
  walk_at "go"
  refine kO M hr (by decide) (λ_=>rfl) bF (by rfl) (by decide) (by rfl) (by rfl) ?_
  walk_at "go"
  intro y dx hy hdx hne'
  refine⟨y,_,dx,[],mV ws s0 (s0+3),_,v,rfl,ao,T.pO,T.lV,T.tK,T.tH,by simp,λG eG hG=>⟨rfl,?_⟩⟩
  walk_at "go"
  refine⟨by show 2≤sizeLine;omega,λp hp=>?_⟩
  have FZ:au H4 G:=λc o e=>hG c o (aB e hy) (by rw[aF (aB e hy),aF (aB e hdx)];exact e)
  have ux:au G (upd G p (.tup [.ref y,.int (s0+3)])):=au.upd hp
  exact q p _ ((((gh.trans sm3).trans qG).trans FZ).trans ux) ⟨y,ao,dx,ux _ _ eG⟩
 |over=>
  have M:zG P w K mg base true 2 "OverSieve" (ak mg "OverSieve") ["self","text","place","value"] (Ht K):=(gj T).make T.Gu T.Em
  refine aj ?_
  walk_at "go"
  refine dD (λh=>absurd h (by decide+kernel)) (λ_=>?_)
  refine aL ?_
  refine aj ?_
  walk_at "go"
  refine⟨c.2,a,ws,s0+2,z,v,by simp,gh.seq hS,hl,Uo,qC,by have :=hz z (aaR Uo);omega,hv,hne,λH3 sm3=>?_⟩
  walk_at "go"
  refine⟨a,ws,s0,s0+3,by simp,(gh.trans sm3).seq hS,hl,hz,by omega,hs3,λH4 qG=>?_⟩
  refine aj ?_
  walk_at "go"
  refine dD (λh=>absurd h (by decide+kernel)) (λ_=>?_)
  refine aL ?_
  refine aj ?_
  walk_at "go"
  refine dD (λh=>absurd h (by decide+kernel)) (λ_=>?_)
  refine aL ?_
  refine aj ?_
  walk_at "go"
  refine dD (λ_=>?_) (λh=>absurd rfl h)
  walk_at "go"
  refine kO M hr (by decide) (λ_=>rfl) bF (by rfl) (by decide) (by rfl) (by rfl) ?_
  walk_at "go"
  intro y dx hy hdx hne'
  refine⟨y,_,dx,[],mV ws s0 (s0+3),_,v,rfl,ao,T.rP,T.nG,T.uz,T.uK,by simp,λG eG hG=>⟨rfl,?_⟩⟩
  walk_at "go"
  refine⟨by show 2≤sizeLine;omega,λp hp=>?_⟩
  have FZ:au H4 G:=λc o e=>hG c o (aB e hy) (by rw[aF (aB e hy),aF (aB e hdx)];exact e)
  have ux:au G (upd G p (.tup [.ref y,.int (s0+3)])):=au.upd hp
  exact q p _ ((((gh.trans sm3).trans qG).trans FZ).trans ux) ⟨y,ao,dx,ux _ _ eG⟩
 |holds=>
  have M:zG P w K mg base true 2 "HoldsSieve" (ak mg "HoldsSieve") ["self","text","place","value"] (Ht K):=(gj T).make T.DX T.BK
  refine aj ?_
  walk_at "go"
  refine dD (λ_=>?_) (λh=>absurd rfl h)
  rw[hh rfl]
  walk_at "go"
  rw[decide_eq_true rfl]
  walk_at "t"
  refine aL ?_
  refine aj ?_
  walk_at "go"
  refine⟨"text",a,ws,s0+2,z,v,by simp,gh.seq hS,hl,Uo,qC,by have :=hz z (aaR Uo);omega,by rw[<-hh rfl];exact hv,hne,λH3 sm3=>?_⟩
  walk_at "go"
  refine⟨a,ws,s0,s0+3,by simp,(gh.trans sm3).seq hS,hl,hz,by omega,hs3,λH4 qG=>?_⟩
  refine aj ?_
  walk_at "go"
  refine dD (λh=>absurd h (by decide+kernel)) (λ_=>?_)
  refine aL ?_
  refine aj ?_
  walk_at "go"
  refine dD (λh=>absurd h (by decide+kernel)) (λ_=>?_)
  refine aL ?_
  refine aj ?_
  walk_at "go"
  refine dD (λh=>absurd h (by decide+kernel)) (λ_=>?_)
  walk_at "go"
  refine kO M hr (by decide) (λ_=>rfl) bF (by rfl) (by decide) (by rfl) (by rfl) ?_
  walk_at "go"
  intro y dx hy hdx hne'
  refine⟨y,_,dx,[],mV ws s0 (s0+3),_,v,rfl,ao,T.pZ,T.lQ,T.tL,T.tE,by simp,λG eG hG=>⟨rfl,?_⟩⟩
  walk_at "go"
  refine⟨by show 2≤sizeLine;omega,λp hp=>?_⟩
  have FZ:au H4 G:=λc o e=>hG c o (aB e hy) (by rw[aF (aB e hy),aF (aB e hdx)];exact e)
  have ux:au G (upd G p (.tup [.ref y,.int (s0+3)])):=au.upd hp
  exact q p _ ((((gh.trans sm3).trans qG).trans FZ).trans ux) ⟨y,ao,dx,ux _ _ eG⟩
def pH(cs:List bC)(ws:List Str)(s:Nat):Oa->Nat->Prop
 | .all,n=>ws[s]? =some "all"/\n=s+1
 | .none i,n=>ws[s]? =some "none"/\s+2≤ws.length/\gn cs ws (s+1)=some i/\n=s+2
 | .look l i v,n=>s+3≤ws.length/\s+2<60/\ws[s]? =some (j5 l)/\gn cs ws (s+1)=some i/\(∃c z,cs[i]? =some c/\(l= .holds->c.2="text")/\ws[s+2]? =some z/\gB c.2 z=some v)/\(¬v= .non)/\n=s+3
theorem VR{ws:List Str}{s:Nat}{z:Str}(h:ws[s]? =some z):mV ws s (s+1)=z:=by
 unfold mV
 have e:(ws.drop s).take (s+1-s)=[z]:=by
  rw[show s+1-s=1 by omega,Vy h]
  rfl
 rw[e]
 exact join_one _ z
def Yx(K:acF)(mg:Str->Option Value):Sp:=λvs H Q _=>∃(b:Addr) (cs:List bC) (a:Addr) (ws:List Str) (s n:Nat) (k:Int) (sv:Oa),vs=[.ref b,.ref a,.int s,.int k]/\dX H b cs/\aX K H a (ws.map V.str)/\ws.length≤4000/\(∀z∈ws,z.length≤1000)/\s<60/\pH cs ws s sv n/\
 ∀p H',au H H'->K1 mg H' p sv (mV ws s n) n->Q (.ref p) H'
theorem Ey(T:Txt K mg):Def P w K mg base true 8 "read_part" ["columns","words","start","within"] (Yx K mg):=by
 refine oY T (λvs H Q E h=>by obtain⟨b,cs,a,ws,s,n,k,sv,rfl,_⟩:=h;rfl) (λf cdv A outer s H vs Q E hr h=>?_)
 obtain⟨b,cs,a,ws,s0,n,k,sv,rfl,hC,hS,hl,hz,qC,hrd,q⟩:=h
 have nd:=lg.nd
 have hsz:=sizeLine_eq
 have g1:=T.vh
 have g2:=T.Vb
 have g3:=T.YQ
 have g4:=T.zg
 have g5:=T.Ed
 have g6:=T.Ky
 have D1:= @iY P w K mg base T
 have D2:= @qZ P w K mg base T
 have D3:= @jW P w K mg base T
 have M:zG P w K mg base true 1 "AllSieve" (ak mg "AllSieve") ["self","text"] (Di K):=jz.make T.Ko T.Hg
 have hw:∃z,ws[s0]? =some z:=by
  cases sv with
  |all=>exact⟨_,hrd.1⟩
  |none i=>exact⟨_,hrd.1⟩
  |look l i v=>exact⟨_,hrd.2.2.1⟩
 obtain⟨z0,hw⟩:=hw
 have hlt:=(aan.mp hw).1
 refine aj ?_
 walk_at "go"
 refine⟨a,ws,s0,rfl,hS,hl,by omega,λhb=>absurd ⟨hlt,qC⟩ hb,λz' hz' _=>?_⟩
 rw[hw]at hz'
 cases hz'
 refine aj ?_
 walk_at "go"
 cases sv with
 |all=>
  obtain⟨h1,rfl⟩:=hrd
  rw[hw]at h1
  cases h1
  refine dD (λ_=>?_) (λh=>absurd rfl h)
  walk_at "go"
  refine kO M hr (by decide) (λ_=>rfl) bF (by rfl) (by decide) (by rfl) (by rfl) ?_
  walk_at "go"
  intro y dx hy hdx hne
  refine⟨y,_,dx,[],_,rfl,ao,T.uA,T.oH,by simp,rfl,?_⟩
  walk_at "go"
  refine⟨by show 2≤sizeLine;omega,λp hp=>?_⟩
  generalize hG:upd (upd (upd H dx (.own y)) y (.ins (ak mg "AllSieve") dx [])) y _=G at hp⊢
  have FZ:au H G:=λc o e=>by
   rw[<-hG,aF (aB e hy),aF (aB e hy),aF (aB e hdx)]
   exact e
  have ey:G y=some (.ins (ak mg "AllSieve") dx [("text",.str "all")]):=by
   rw[<-hG]
   exact ao
  have ux:au G (upd G p (.tup [.ref y,.int (s0+1)])):=au.upd hp
  refine q p _ (FZ.trans ux) ⟨y,ao,dx,?_⟩
  rw[VR hw]
  exact ux _ _ ey
 |none i=>
  obtain⟨h1,h2,h3,rfl⟩:=hrd
  rw[hw]at h1
  cases h1
  refine dD (λh=>absurd h (by decide+kernel)) (λ_=>?_)
  refine aL ?_
  refine aj ?_
  walk_at "go"
  refine dD (λ_=>?_) (λh=>absurd rfl h)
  walk_at "go"
  exact⟨b,cs,a,ws,s0,i,rfl,hC,hS,hl,hz,h2,h3,λp H' sm hp=>q p H' sm hp⟩
 |look l i v=>
  obtain⟨h1,h2,h3,h4,⟨c,z,h5,h6,h7,h8⟩,h9,rfl⟩:=hrd
  rw[hw]at h3
  cases h3
  have e1:¬V.str (j5 l)=V.str ("all":Str):=by cases l<;>decide+kernel
  have e2:¬V.str (j5 l)=V.str ("none":Str):=by cases l<;>decide+kernel
  have e3:Fx (V.str (j5 l)) [V.str ("is":Str),V.str ("under":Str),V.str ("over":Str),V.str ("holds":Str)]=true:=by cases l<;>decide+kernel
  refine dD (λh=>absurd h e1) (λ_=>?_)
  refine aL ?_
  refine aj ?_
  walk_at "go"
  refine dD (λh=>absurd h e2) (λ_=>?_)
  refine aL ?_
  refine aj ?_
  walk_at "go"
  refine⟨by show 4≤sizeLine;omega,λtp htp=>?_⟩
  refine GJ (dg.of ao) (by rfl) (by rfl) ?_
  rw[e3]
  have wO:au H (upd H tp (.tup [.str "is",.str "under",.str "over",.str "holds"])):=au.upd htp
  generalize upd H tp (.tup [.str "is",.str "under",.str "over",.str "holds"])=H2 at wO⊢
  walk_at "go"
  exact⟨l,b,cs,a,ws,s0,i,c,z,v,rfl,hC.same wO,wO.seq hS,hl,hz,h1,h2,hw,h4,h5,h6,h7,h8,h9,λp H' sm hp=>q p H' (wO.trans sm) hp⟩
theorem bZ(T:Txt K mg):Def P w K mg base true 1 "_law_draw" ["_law_script","_law_k","_law_many"] (adb K):=by
 refine Dr T (λvs H Q E h=>by obtain⟨a,ns,k,m,rfl,_⟩:=h;rfl) (λf cdv A outer s H vs Q E hr h=>?_)
 obtain⟨a,ns,k,m,rfl,hS,hl,hk0,hk1,hm,q⟩:=h
 have n1:=T.jr
 have nd:=wD.nd
 have yg:(ns.map V.int).length=ns.length:=aar ..
 refine aj ?_
 walk_at "go"
 rw[yg]
 have fin:∀c:Int,c=N8 ns k->Q (.int ((c % 1000003+31*k*k+1)*48271 % 999983*7919 % 524287 % m)) H:=λc e=>by rw[e];exact q
 refine dD (λh=>?_) (λh=>?_)
 .walk_at "go"
  rw[yg]
  walk_at "go"
  refine aR hS (FJ 0 (ait _ (by omega)) (afD _ (by omega))) ?_
  walk_at "go"
  exact fin _ (by unfold N8;rw[if_pos (by omega)])
 .walk_at "go"
  exact fin _ (by unfold N8;rw[if_neg (by omega)])
def wrt(x:V):Prop:=scalar x=true/\short x/\∀i,x= .int i->i.natAbs<10^60
theorem uM(T:Txt K mg):Def P w K mg base true 1 "check_of" ["text"] WN:=by
 refine Gv T (λvs H Q E h=>by obtain⟨z,rfl,_⟩:=h;rfl) (λf cdv A outer s H vs Q E hr h=>?_)
 obtain⟨z,rfl,hz,hc,q⟩:=h
 have g1:=T.acd
 have g2:=T.Qp
 have n1:=T.aad
 have nd:=ym.nd
 refine aj ?_
 walk_at "go"
 refine Zd (by walk_at "po") (by rfl) (by intro _;rfl) ?_
 walk_at "e"
 refine⟨z,rfl,λi σ H'=>H'=H/\∃t p o,σ=[some (.str z),some (.int t),some (.int p),o]/\0≤t/\t<9973/\0≤p/\p<9973/\(t+p*bu (z.cps.toList.drop i)) % 9973=bu z.cps.toList,⟨rfl,0,1,none,rfl,by decide,by decide,by decide,by decide,?_⟩,λi c σ H' hi hP=>?_,λσ H' hP=>?_⟩
 .have :=gb z.cps.toList
  rw[aj6,aoX,Int.one_mul]
  exact asr this.1 this.2
 .obtain⟨rfl,t,p,o,rfl,t0,t1,p0,p1,e⟩:=hP
  have hcb:=hc c (aaR hi)
  have hd:z.cps.toList.drop i=c::z.cps.toList.drop (i+1):=by
   obtain⟨h1,h2⟩:=aan.mp hi
   rw[List.drop_eq_getElem_cons h1,h2]
  rw[hd]at e
  refine aM nd (by rfl) (.inl rfl) (.inl rfl) ?_
  refine aj ?_
  walk_at "go"
  exact⟨rfl,_,_,_,rfl,ait _ (by decide),afD _ (by decide),ait _ (by decide),afD _ (by decide),Jg e⟩
 .obtain⟨rfl,t,p,o,rfl,t0,t1,p0,p1,e⟩:=hP
  rw[at3]at e
  have e2:t=bu z.cps.toList:=by
   rw[<-e]
   show t=(t+p*0) % 9973
   rw[Int.mul_zero,Int.add_zero,asr t0 t1]
  walk_at "go"
  rw[e2]
  exact q
theorem jl(T:Txt K mg):Def P w K mg base true 2 "check_word" ["text"] Vr:=by
 refine BJ T (λvs H Q E h=>by obtain⟨z,rfl,_⟩:=h;rfl) (λf cdv A outer s H vs Q E hr h=>?_)
 obtain⟨z,rfl,hz,hc,q⟩:=h
 have g1:=T.uJ
 have n1:=T.zU
 have D1:= @uM P w K mg base T
 refine aq (bA ?_)
 refine fX F.plainAttrs_str F.slot_str_zfill F.type_str_zfill (by rfl) (by rfl) (by rfl) (by rfl) (by rfl) ?_
 walk_at "go"
 refine⟨z,rfl,hz,hc,?_⟩
 have hb:=gb z.cps.toList
 walk_at "go"
 refine lN (jZ ?_) ?_
 .have :(bu z.cps.toList).natAbs<9973:=by omega
  exact aey this (by decide+kernel)
 .walk_at "go"
  refine Yg (by decide) (by decide) ?_
  exact q
def ZM(K:acF):Sp:=λvs H Q _=>∃(a C dx:Addr) (fs:List (Str×V)) (z:Str) (p:V),vs=[.ref a,.str z,p]/\H a=some (.ins C dx fs)/\sZ K C/\bh K C "text"/\bh K C "one"/\fs.length<800/\
 Q .non (upd (upd H a (.ins C dx (iG "text" (.str z) fs))) a (.ins C dx (iG "one" p (iG "text" (.str z) fs))))
theorem zb(T:Txt K mg){cc:Bool}:FD P w K mg base cc 2 "__init__" "NotSieve.__init__" bw ["self","text","one"] (ZM K):=by
 refine rK (λvs H Q E h=>by obtain⟨a,C,dx,fs,z,p,rfl,_⟩:=h;rfl) (λf cdv A outer s H vs Q E hr h=>?_)
 obtain⟨a,C,dx,fs,z,p,rfl,ha,hc,hn,hn2,hl,q⟩:=h
 have B:Ri P w K mg base cc 1 "Sieve" "__init__" ["self","text"] (Di K):=jz.asked T.zm T.gm
 have hz:=fj "text" (V.str z) fs
 refine aj (eU (by rfl) ?_)
 refine vX (pl:=_) B hr (by decide) id bF (by rfl) (by decide) (by rfl) (by rfl) (by rfl) ?_
 walk_at "go"
 refine⟨a,C,dx,fs,z,rfl,ha,hc,hn,by omega,?_⟩
 refine aq (o6 (by rfl) ?_)
 walk_at "e"
 walk_at "e"
 exact⟨a,C,dx,_,rfl,ao,hc,hn2,by omega,q⟩
def R8(K:acF):Sp:=λvs H Q _=>∃(a C dx:Addr) (fs:List (Str×V)) (z:Str) (p v:V),vs=[.ref a,.str z,p,v]/\H a=some (.ins C dx fs)/\sZ K C/\bh K C "text"/\bh K C "one"/\bh K C "other"/\fs.length<800/\
 ∀H',H' a=some (.ins C dx (iG "other" v (iG "one" p (iG "text" (.str z) fs))))->(∀b o,b≠a->H b=some o->H' b=some o)->Q .non H'
theorem oO(T:Txt K mg){cc:Bool}:FD P w K mg base cc 2 "__init__" "PairSieve.__init__" aP ["self","text","one","other"] (R8 K):=by
 refine qu (λvs H Q E h=>by obtain⟨a,C,dx,fs,z,p,v,rfl,_⟩:=h;rfl) (λf cdv A outer s H vs Q E hr h=>?_)
 obtain⟨a,C,dx,fs,z,p,v,rfl,ha,hc,hn,hn2,hn3,hl,q⟩:=h
 have B:Ri P w K mg base cc 1 "Sieve" "__init__" ["self","text"] (Di K):=jz.asked T.zm T.gm
 have hz:=fj "text" (V.str z) fs
 have hz2:=fj "one" p (iG "text" (V.str z) fs)
 refine aj (eU (by rfl) ?_)
 refine vX (pl:=_) B hr (by decide) id bF (by rfl) (by decide) (by rfl) (by rfl) (by rfl) ?_
 walk_at "go"
 refine⟨a,C,dx,fs,z,rfl,ha,hc,hn,by omega,?_⟩
 refine aj (o6 (by rfl) ?_)
 walk_at "e"
 walk_at "e"
 refine⟨a,C,dx,_,rfl,ao,hc,hn2,by omega,?_⟩
 refine aq (o6 (by rfl) ?_)
 walk_at "e"
 walk_at "e"
 refine⟨a,C,dx,_,rfl,ao,hc,hn3,by omega,q _ ao λb o hb e=>?_⟩
 rw[aF hb,aF hb,aF hb]
 exact e
inductive Tr
 |one (s:Oa)
 |nt (t:Tr)
 |bo (t u:Tr)
 |ei (t u:Tr)
def Tr.dep:Tr->Nat
 | .one _=>0
 | .nt t=>t.dep+1
 | .bo t u=>max t.dep u.dep+1
 | .ei t u=>max t.dep u.dep+1
def Reads(cs:List bC)(ws:List Str):Tr->Nat->Nat->Prop
 | .one sv,s,e=>s<60/\pH cs ws s sv e
 | .nt t,s,e=>s<60/\ws[s]? =some "not"/\Reads cs ws t (s+1) e
 | .bo t u,s,e=>s<60/\ws[s]? =some "both"/\∃m,Reads cs ws t (s+1) m/\Reads cs ws u m e
 | .ei t u,s,e=>s<60/\ws[s]? =some "either"/\∃m,Reads cs ws t (s+1) m/\Reads cs ws u m e
theorem pH.le{cs:List bC}{ws:List Str}{s e:Nat}:∀{sv:Oa},pH cs ws s sv e->s<e/\e≤ws.length
 | .all,h=>by
   obtain⟨h1,rfl⟩:=h
   have :=(aan.mp h1).1
   omega
 | .none i,h=>by
   obtain⟨_,h2,_,rfl⟩:=h
   omega
 | .look l i v,h=>by
   obtain⟨h1,_,_,_,_,_,rfl⟩:=h
   omega
theorem Reads.le{cs:List bC}{ws:List Str}:∀{t:Tr} {s e:Nat},Reads cs ws t s e->s<e/\e≤ws.length
 | .one sv,s,e,h=>pH.le h.2
 | .nt t,s,e,h=>by have :=Reads.le (t:=t) h.2.2;omega
 | .bo t u,s,e,h=>by
   obtain⟨_,_,m,h1,h2⟩:=h
   have :=Reads.le (t:=t) h1
   have :=Reads.le (t:=u) h2
   omega
 | .ei t u,s,e,h=>by
   obtain⟨_,_,m,h1,h2⟩:=h
   have :=Reads.le (t:=t) h1
   have :=Reads.le (t:=u) h2
   omega
def qw(mg:Str->Option Value)(H:Hp):Tr->Addr->Str->Prop
 | .one s,a,z=>Dj mg H a s z
 | .nt t,a,z=>∃dx b y,H a=some (.ins (ak mg "NotSieve") dx [("text",.str z),("one",.ref b)])/\qw mg H t b y
 | .bo t u,a,z=>∃dx b c y x,H a=some (.ins (ak mg "BothSieve") dx [("text",.str z),("one",.ref b),("other",.ref c)])/\qw mg H t b y/\qw mg H u c x
 | .ei t u,a,z=>∃dx b c y x,H a=some (.ins (ak mg "EitherSieve") dx [("text",.str z),("one",.ref b),("other",.ref c)])/\qw mg H t b y/\qw mg H u c x
theorem qw.same{mg:Str->Option Value}{H H':Hp}(e:au H H'):∀{t:Tr} {a:Addr} {z:Str},qw mg H t a z->qw mg H' t a z
 | .one s,a,z,h=>Dj.same h e
 | .nt t,a,z,h=>by
   obtain⟨dx,b,y,h1,h2⟩:=h
   exact⟨dx,b,y,e _ _ h1,qw.same e h2⟩
 | .bo t u,a,z,h=>by
   obtain⟨dx,b,c,y,x,h1,h2,h3⟩:=h
   exact⟨dx,b,c,y,x,e _ _ h1,qw.same e h2,qw.same e h3⟩
 | .ei t u,a,z,h=>by
   obtain⟨dx,b,c,y,x,h1,h2,h3⟩:=h
   exact⟨dx,b,c,y,x,e _ _ h1,qw.same e h2,qw.same e h3⟩
theorem YL{k:Nat}{x:Str}{ps:List Str}{sp sp':Sp}(F:Def P w K mg base true k x ps sp)(h:∀vs H Q E,sp' vs H Q E->sp vs H Q E):Def P w K mg base true k x ps sp':=by
 obtain⟨f,fd,h1,h2,h3,h4⟩:=F.ex
 exact⟨f,fd,h1,h2,h3,⟨λvs H Q E z=>h4.len vs H Q E (h vs H Q E z),λA outer s H args us vs Q E hr e0 bt r z=>h4.run A outer s H args us vs Q E hr e0 bt r (h vs H Q E z)⟩⟩
def m9(K:acF)(mg:Str->Option Value)(t:Tr):Sp:=λvs H Q _=>∃(b:Addr) (cs:List bC) (a:Addr) (ws:List Str) (s e:Nat) (k:Int),vs=[.ref b,.ref a,.int s,.int k]/\dX H b cs/\aX K H a (ws.map V.str)/\ws.length≤4000/\(∀z∈ws,z.length≤1000)/\0≤k/\k+t.dep≤20/\Reads cs ws t s e/\
 ∀p v H',au H H'->H' p=some (.tup [.ref v,.int e])->qw mg H' t v (mV ws s e)->Q (.ref p) H'
def Yp(K:acF)(mg:Str->Option Value)(t:Tr):Sp:=λvs H Q _=>∃(b:Addr) (cs:List bC) (a:Addr) (ws:List Str) (s e:Nat) (k:Int),vs=[.ref b,.ref a,.int s,.int k]/\dX H b cs/\aX K H a (ws.map V.str)/\ws.length≤4000/\(∀z∈ws,z.length≤1000)/\1≤k/\k+t.dep≤21/\k≤20/\Reads cs ws t s e/\
 ∀p v H',au H H'->H' p=some (.tup [.ref v,.int e])->qw mg H' t v (mV ws s e)->Q (.ref p) H'
theorem ajP(T:Txt K mg)(sv:Oa):Def P w K mg base true 8 "read_part" ["columns","words","start","within"] (m9 K mg (.one sv)):=YL (Ey T) λvs H Q E h=>by
 obtain⟨b,cs,a,ws,s,e,k,rfl,hC,hS,hl,hz,hk0,hk,hr,q⟩:=h
 refine⟨b,cs,a,ws,s,e,k,sv,rfl,hC,hS,hl,hz,hr.1,hr.2,λp H' sm hp=>?_⟩
 obtain⟨v,h1,h2⟩:=hp
 exact q p v H' sm h1 h2
def VD:Tr->Option Str
 | .one _=>none
 | .nt _=>some "not"
 | .bo _ _=>some "both"
 | .ei _ _=>some "either"
theorem XS{cs:List bC}{ws:List Str}{t:Tr}{s e:Nat}{z:Str}(h:Reads cs ws t s e)(hw:VD t=some z):s<60/\ws[s]? =some z:=by
 cases t with
 |one _=>cases hw
 |nt t=>cases hw;exact⟨h.1,h.2.1⟩
 |bo t u=>cases hw;exact⟨h.1,h.2.1⟩
 |ei t u=>cases hw;exact⟨h.1,h.2.1⟩
theorem zf{t:Tr}{z:Str}(hw:VD t=some z):z="not"\/z="both"\/z="either":=by
 cases t with
 |one _=>cases hw
 |nt t=>cases hw;exact .inl rfl
 |bo t u=>cases hw;exact .inr (.inl rfl)
 |ei t u=>cases hw;exact .inr (.inr rfl)
theorem abP(T:Txt K mg){t:Tr}{z:Str}{lv:Nat}(hw:VD t=some z)(h3:3≤lv)(D:Def P w K mg base true lv "read_of_sieves" ["columns","words","start","within"] (Yp K mg t)):Def P w K mg base true (lv+1) "read_part" ["columns","words","start","within"] (m9 K mg t):=by
 refine oY T (λvs H Q E h=>by obtain⟨b,cs,a,ws,s,e,k,rfl,_⟩:=h;rfl) (λf cdv A outer s H vs Q E hr h=>?_)
 obtain⟨b,cs,a,ws,s0,e,k,rfl,hC,hS,hl,hz,hk0,hk,hrd,q⟩:=h
 have nd:=lg.nd
 have hsz:=sizeLine_eq
 have g1:=T.vh
 have g2:=T.Vb
 have g3:=T.YQ
 have g4:=T.zg
 have g5:=T.Ed
 have g6:=T.Ky
 have g7:=T.CW
 have g8:=T.Bh
 have g9:=T.Hi
 have D1:= @iY P w K mg base T
 obtain⟨qC,hws⟩:=XS hrd hw
 have hlt:=(aan.mp hws).1
 have aAm:1≤t.dep:=by
  cases t with
  |one _=>cases hw
  |nt t=>show 1≤t.dep+1;omega
  |bo t u=>show 1≤max t.dep u.dep+1;omega
  |ei t u=>show 1≤max t.dep u.dep+1;omega
 have e1:¬V.str z=V.str ("all":Str):=by rcases zf hw with rfl |rfl |rfl<;>decide+kernel
 have e2:¬V.str z=V.str ("none":Str):=by rcases zf hw with rfl |rfl |rfl<;>decide+kernel
 have e3:Fx (V.str z) [V.str ("is":Str),V.str ("under":Str),V.str ("over":Str),V.str ("holds":Str)]=false:=by rcases zf hw with rfl |rfl |rfl<;>decide+kernel
 have e4:Fx (V.str z) [V.str ("not":Str),V.str ("both":Str),V.str ("either":Str)]=true:=by rcases zf hw with rfl |rfl |rfl<;>decide+kernel
 walk_at "A"
 refine⟨a,ws,s0,rfl,hS,hl,by omega,λhb=>absurd ⟨hlt,qC⟩ hb,λz' hz' _=>?_⟩
 rw[hws]at hz'
 cases hz'
 refine aj (bx ?_)
 walk_at "ex"
 refine dD (λh=>absurd h e1) (λ_=>?_)
 refine aL (aj (bx ?_))
 walk_at "ex"
 refine dD (λh=>absurd h e2) (λ_=>?_)
 refine aL (aj (bx ?_))
 walk_at "ex"
 refine⟨by show 4≤sizeLine;omega,λtp htp=>?_⟩
 refine GJ (dg.of ao) (by rfl) (by rfl) ?_
 rw[e3]
 have wO:au H (upd H tp (.tup [.str "is",.str "under",.str "over",.str "holds"])):=au.upd htp
 generalize upd H tp (.tup [.str "is",.str "under",.str "over",.str "holds"])=H2 at wO⊢
 walk_at "ex"
 refine aL (aj (bx ?_))
 walk_at "ex"
 refine⟨by show 3≤sizeLine;omega,λtq htq=>?_⟩
 refine GJ (dg.of ao) (by rfl) (by rfl) ?_
 rw[e4]
 have smq:au H2 (upd H2 tq (.tup [.str "not",.str "both",.str "either"])):=au.upd htq
 generalize upd H2 tq (.tup [.str "not",.str "both",.str "either"])=H3 at smq⊢
 walk_at "ex"
 have sm3:=wO.trans smq
 refine aq (bA ?_)
 walk_at "ex"
 exact⟨b,cs,a,ws,s0,e,k+1,rfl,hC.same sm3,sm3.seq hS,hl,hz,by omega,by omega,by omega,hrd,λp v H' sm hp hv=>q p v H' (sm3.trans sm) hp hv⟩
theorem ag2(T:Txt K mg){t:Tr}{lv l1:Nat}(D1:Def P w K mg base true l1 "read_part" ["columns","words","start","within"] (m9 K mg t))(h1:l1≤lv)(h3:3≤lv):Def P w K mg base true (lv+1) "read_of_sieves" ["columns","words","start","within"] (Yp K mg (.nt t)):=by
 refine gq T (λvs H Q E h=>by obtain⟨b,cs,a,ws,s,e,k,rfl,_⟩:=h;rfl) (λf cdv A outer s H vs Q E hr h=>?_)
 obtain⟨b,cs,a,ws,s0,e,k,rfl,hC,hS,hl,hz,hk0,hk,ai5,hrd,q⟩:=h
 have nd:=dU.nd
 have hsz:=sizeLine_eq
 have g1:=T.jM
 have g2:=T.CW
 have g3:=T.Bh
 have DB:= @dm P w K mg base T
 have hle:=hrd.le
 have hd:k+(t.dep+1:Nat)≤21:=hk
 obtain⟨qC,hws,Vd⟩:=hrd
 have aeT:=Vd.le
 have sw:aX K H a (ws.map V.str):=hS
 have e1:(s0:Int)+1=((s0+1:Nat):Int):=by omega
 refine aj (bx ?_)
 walk_at "ex"
 refine dD (λh=>absurd h (by omega)) (λ_=>?_)
 refine aL (aj ?_)
 walk_at "s"
 walk_at "ex"
 refine aR sw (v:=.str ("not":Str)) (bz (by rw[aby,hws];rfl)) ?_
 refine aj (eQ (by rfl) (by rfl) ?_)
 walk_at "ex"
 rw[e1]
 refine⟨b,cs,a,ws,s0+1,_,k,rfl,hC,hS,hl,hz,by omega,by omega,Vd,λp1 v1 H1 iK hp1 hv1=>?_⟩
 refine dW (by rfl) (by rfl) (by rfl) (dg.of hp1) (by rfl) (aO (by rfl) (aM nd (by rfl) (.inl rfl) (.inl rfl) (aO (by rfl) (aM nd (by rfl) (.inl rfl) (.inl rfl) (cR ?_)))))
 refine aj (bx ?_)
 walk_at "ex"
 refine dD (λ_=>?_) (λh=>absurd rfl h)
 refine aq (bA ?_)
 have M:zG P w K mg base true 2 "NotSieve" (ak mg "NotSieve") ["self","text","one"] (ZM K):=(zb T).make T.JF T.Gz
 walk_at "ex"
 refine kO M hr (by omega) (λ_=>rfl) bF (by rfl) (by decide) (by rfl) (by rfl) ?_
 walk_at "ex"
 refine⟨a,ws,s0,e,rfl,iK.seq hS,hl,hz,by omega,by omega,λH2 gh=>?_⟩
 walk_at "ex"
 intro y dx hy hdx hne
 refine⟨y,_,dx,[],_,_,rfl,ao,T.u6,T.oE,T.yV,by simp,rfl,?_⟩
 walk_at "ex"
 refine⟨by show 2≤sizeLine;omega,λp hp=>?_⟩
 generalize hG:upd (upd (upd (upd H2 dx (.own y)) y (.ins (ak mg "NotSieve") dx [])) y _) y _=G at hp⊢
 have FZ:au H2 G:=λc o e=>by
  rw[<-hG,aF (aB e hy),aF (aB e hy),aF (aB e hy),aF (aB e hdx)]
  exact e
 have ey:G y=some (.ins (ak mg "NotSieve") dx [("text",.str (mV ws s0 e)),("one",.ref v1)]):=by
  rw[<-hG]
  exact ao
 have ux:au G (upd G p (.tup [.ref y,.int e])):=au.upd hp
 exact q p y _ (((iK.trans gh).trans FZ).trans ux) ao ⟨dx,v1,_,ux _ _ ey,((hv1.same gh).same FZ).same ux⟩
theorem aeN(T:Txt K mg){t u:Tr}{lv l1 l2:Nat}(D1:Def P w K mg base true l1 "read_part" ["columns","words","start","within"] (m9 K mg t))(h1:l1≤lv)(D2:True->Def P w K mg base true l2 "read_part" ["columns","words","start","within"] (m9 K mg u))(h2:l2≤lv)(h3:3≤lv):Def P w K mg base true (lv+1) "read_of_sieves" ["columns","words","start","within"] (Yp K mg (.bo t u)):=by
 refine gq T (λvs H Q E h=>by obtain⟨b,cs,a,ws,s,e,k,rfl,_⟩:=h;rfl) (λf cdv A outer s H vs Q E hr h=>?_)
 obtain⟨b,cs,a,ws,s0,e,k,rfl,hC,hS,hl,hz,hk0,hk,ai5,hrd,q⟩:=h
 have nd:=dU.nd
 have hsz:=sizeLine_eq
 have g1:=T.jM
 have g2:=T.CW
 have g3:=T.Bh
 have DB:= @dm P w K mg base T
 have hle:=hrd.le
 have hd:k+(max t.dep u.dep+1:Nat)≤21:=hk
 obtain⟨qC,hws,m,Vd,hru⟩:=hrd
 have ape:=hru.le
 have aeT:=Vd.le
 have sw:aX K H a (ws.map V.str):=hS
 have e1:(s0:Int)+1=((s0+1:Nat):Int):=by omega
 refine aj (bx ?_)
 walk_at "ex"
 refine dD (λh=>absurd h (by omega)) (λ_=>?_)
 refine aL (aj ?_)
 walk_at "s"
 walk_at "ex"
 refine aR sw (v:=.str ("both":Str)) (bz (by rw[aby,hws];rfl)) ?_
 refine aj (eQ (by rfl) (by rfl) ?_)
 walk_at "ex"
 rw[e1]
 refine⟨b,cs,a,ws,s0+1,_,k,rfl,hC,hS,hl,hz,by omega,by omega,Vd,λp1 v1 H1 iK hp1 hv1=>?_⟩
 refine dW (by rfl) (by rfl) (by rfl) (dg.of hp1) (by rfl) (aO (by rfl) (aM nd (by rfl) (.inl rfl) (.inl rfl) (aO (by rfl) (aM nd (by rfl) (.inl rfl) (.inl rfl) (cR ?_)))))
 refine aj (bx ?_)
 walk_at "ex"
 refine dD (λh=>absurd h (by decide+kernel)) (λ_=>?_)
 clear D1
 have D2:=D2 trivial
 refine aL (aj (eQ (by rfl) (by rfl) ?_))
 walk_at "ex"
 refine⟨b,cs,a,ws,m,e,k,rfl,hC.same iK,iK.seq hS,hl,hz,by omega,by omega,hru,λp2 v2 H2 gh hp2 hv2=>?_⟩
 refine dW (by rfl) (by rfl) (by rfl) (dg.of hp2) (by rfl) (aO (by rfl) (aM nd (by rfl) (.inl rfl) (.inl rfl) (aO (by rfl) (aM nd (by rfl) (.inl rfl) (.inl rfl) (cR ?_)))))
 have vp:=iK.trans gh
 walk_at "A"
 refine⟨a,ws,s0,e,rfl,vp.seq hS,hl,hz,by omega,by omega,λH3 sm3=>?_⟩
 have M:zG P w K mg base true 2 "BothSieve" (ak mg "BothSieve") ["self","text","one","other"] (R8 K):=(oO T).make T.HW T.Fy
 refine aj (bx ?_)
 walk_at "ex"
 refine dD (λ_=>?_) (λh=>absurd rfl h)
 refine aq (bA ?_)
 walk_at "ex"
 refine kO M hr (by omega) (λ_=>rfl) bF (by rfl) (by decide) (by rfl) (by rfl) ?_
 walk_at "ex"
 intro y dx hy hdx hne
 refine⟨y,_,dx,[],_,_,_,rfl,ao,T.rC,T.nM,T.wR,T.ur,by simp,λG ey keep=>⟨rfl,?_⟩⟩
 walk_at "ex"
 refine⟨by show 2≤sizeLine;omega,λp hp=>?_⟩
 have FZ:au H3 G:=λc o e=>keep _ _ (aB e hy) (by rw[aF (aB e hy),aF (aB e hdx)];exact e)
 have ey:G y=some (.ins (ak mg "BothSieve") dx [("text",.str (mV ws s0 e)),("one",.ref v1),("other",.ref v2)]):=ey
 have ux:au G (upd G p (.tup [.ref y,.int e])):=au.upd hp
 have smx:=(sm3.trans FZ).trans ux
 exact q p y _ (vp.trans smx) ao ⟨dx,v1,v2,_,_,ux _ _ ey,(hv1.same gh).same smx,hv2.same smx⟩
theorem afk(T:Txt K mg){t u:Tr}{lv l1 l2:Nat}(D1:Def P w K mg base true l1 "read_part" ["columns","words","start","within"] (m9 K mg t))(h1:l1≤lv)(D2:True->Def P w K mg base true l2 "read_part" ["columns","words","start","within"] (m9 K mg u))(h2:l2≤lv)(h3:3≤lv):Def P w K mg base true (lv+1) "read_of_sieves" ["columns","words","start","within"] (Yp K mg (.ei t u)):=by
 refine gq T (λvs H Q E h=>by obtain⟨b,cs,a,ws,s,e,k,rfl,_⟩:=h;rfl) (λf cdv A outer s H vs Q E hr h=>?_)
 obtain⟨b,cs,a,ws,s0,e,k,rfl,hC,hS,hl,hz,hk0,hk,ai5,hrd,q⟩:=h
 have nd:=dU.nd
 have hsz:=sizeLine_eq
 have g1:=T.jM
 have g2:=T.CW
 have g3:=T.Bh
 have DB:= @dm P w K mg base T
 have hle:=hrd.le
 have hd:k+(max t.dep u.dep+1:Nat)≤21:=hk
 obtain⟨qC,hws,m,Vd,hru⟩:=hrd
 have ape:=hru.le
 have aeT:=Vd.le
 have sw:aX K H a (ws.map V.str):=hS
 have e1:(s0:Int)+1=((s0+1:Nat):Int):=by omega
 refine aj (bx ?_)
 walk_at "ex"
 refine dD (λh=>absurd h (by omega)) (λ_=>?_)
 refine aL (aj ?_)
 walk_at "s"
 walk_at "ex"
 refine aR sw (v:=.str ("either":Str)) (bz (by rw[aby,hws];rfl)) ?_
 refine aj (eQ (by rfl) (by rfl) ?_)
 walk_at "ex"
 rw[e1]
 refine⟨b,cs,a,ws,s0+1,_,k,rfl,hC,hS,hl,hz,by omega,by omega,Vd,λp1 v1 H1 iK hp1 hv1=>?_⟩
 refine dW (by rfl) (by rfl) (by rfl) (dg.of hp1) (by rfl) (aO (by rfl) (aM nd (by rfl) (.inl rfl) (.inl rfl) (aO (by rfl) (aM nd (by rfl) (.inl rfl) (.inl rfl) (cR ?_)))))
 refine aj (bx ?_)
 walk_at "ex"
 refine dD (λh=>absurd h (by decide+kernel)) (λ_=>?_)
 clear D1
 have D2:=D2 trivial
 refine aL (aj (eQ (by rfl) (by rfl) ?_))
 walk_at "ex"
 refine⟨b,cs,a,ws,m,e,k,rfl,hC.same iK,iK.seq hS,hl,hz,by omega,by omega,hru,λp2 v2 H2 gh hp2 hv2=>?_⟩
 refine dW (by rfl) (by rfl) (by rfl) (dg.of hp2) (by rfl) (aO (by rfl) (aM nd (by rfl) (.inl rfl) (.inl rfl) (aO (by rfl) (aM nd (by rfl) (.inl rfl) (.inl rfl) (cR ?_)))))
 have vp:=iK.trans gh
 walk_at "A"
 refine⟨a,ws,s0,e,rfl,vp.seq hS,hl,hz,by omega,by omega,λH3 sm3=>?_⟩
 have M:zG P w K mg base true 2 "EitherSieve" (ak mg "EitherSieve") ["self","text","one","other"] (R8 K):=(oO T).make T.Cd T.Ao
 refine aj (bx ?_)
 walk_at "ex"
 refine dD (λh=>absurd h (by decide+kernel)) (λ_=>?_)
 refine aL (aq (bA ?_))
 walk_at "ex"
 refine kO M hr (by omega) (λ_=>rfl) bF (by rfl) (by decide) (by rfl) (by rfl) ?_
 walk_at "ex"
 intro y dx hy hdx hne
 refine⟨y,_,dx,[],_,_,_,rfl,ao,T.nQ,T.j6,T.uQ,T.rQ,by simp,λG ey keep=>⟨rfl,?_⟩⟩
 walk_at "ex"
 refine⟨by show 2≤sizeLine;omega,λp hp=>?_⟩
 have FZ:au H3 G:=λc o e=>keep _ _ (aB e hy) (by rw[aF (aB e hy),aF (aB e hdx)];exact e)
 have ey:G y=some (.ins (ak mg "EitherSieve") dx [("text",.str (mV ws s0 e)),("one",.ref v1),("other",.ref v2)]):=ey
 have ux:au G (upd G p (.tup [.ref y,.int e])):=au.upd hp
 have smx:=(sm3.trans FZ).trans ux
 exact q p y _ (vp.trans smx) ao ⟨dx,v1,v2,_,_,ux _ _ ey,(hv1.same gh).same smx,hv2.same smx⟩
theorem rH(T:Txt K mg):∀t:Tr,Def P w K mg base true (8+2*t.dep) "read_part" ["columns","words","start","within"] (m9 K mg t)
 | .one sv=>ajP T sv
 | .nt t=>by
   have h:=abP T (z:="not") (lv:=8+2*t.dep+1) rfl (by omega) (ag2 T (lv:=8+2*t.dep) (rH T t) (aaO _) (by omega))
   have e:8+2*(Tr.nt t).dep=8+2*t.dep+1+1:=by show 8+2*(t.dep+1)=_;omega
   rw[e]
   exact h
 | .bo t u=>by
   have h:=abP T (z:="both") (lv:=8+2*max t.dep u.dep+1) rfl (by omega) (aeN T (lv:=8+2*max t.dep u.dep) (rH T t) (by omega) (λ_=>rH T u) (by omega) (by omega))
   have e:8+2*(Tr.bo t u).dep=8+2*max t.dep u.dep+1+1:=by show 8+2*(max t.dep u.dep+1)=_;omega
   rw[e]
   exact h
 | .ei t u=>by
   have h:=abP T (z:="either") (lv:=8+2*max t.dep u.dep+1) rfl (by omega) (afk T (lv:=8+2*max t.dep u.dep) (rH T t) (by omega) (λ_=>rH T u) (by omega) (by omega))
   have e:8+2*(Tr.ei t u).dep=8+2*max t.dep u.dep+1+1:=by show 8+2*(max t.dep u.dep+1)=_;omega
   rw[e]
   exact h
def QF(mg:Str->Option Value)(t:Tr):Sp:=λvs H Q _=>∃(b:Addr) (cs:List bC) (z:Str),vs=[.ref b,.str z]/\dX H b cs/\z.length≤3000/\(∀y∈aW 32 z,y.length≤1000)/\t.dep≤20/\Reads cs (aW 32 z) t 0 (aW 32 z).length/\∀v H',au H H'->qw mg H' t v (mV (aW 32 z) 0 (aW 32 z).length)->Q (.ref v) H'
theorem tW(T:Txt K mg)(t:Tr):Def P w K mg base true (9+2*t.dep) "read_sieve" ["columns","text"] (QF mg t):=by
 have e9:9+2*t.dep=(8+2*t.dep)+1:=by omega
 rw[e9]
 refine uh T (λvs H Q E h=>by obtain⟨b,cs,z,rfl,_⟩:=h;rfl) (λf cdv A outer s H vs Q E hr h=>?_)
 obtain⟨b,cs,z,rfl,hC,hz,hzs,hdp,hrd,q⟩:=h
 have nd:=nU.nd
 have n1:=T.jr
 have hsz:=sizeLine_eq
 have D1:= @rH P w K mg base T t
 have hcl:=vV 32 z
 refine aj ?_
 walk_at "s"
 refine fX F.plainAttrs_str F.slot_str_split F.type_str_split (by rfl) (by rfl) (by rfl) (by rfl) (by rfl) ?_
 walk_at "go"
 refine m_split (c:=32) (by omega) λp hp=>?_
 obtain⟨iK,ep⟩:=bR hp (.lst ((aW 32 z).map V.str))
 generalize upd H p (.lst ((aW 32 z).map V.str))=H1 at iK ep⊢
 refine aj (eQ (by rfl) (by rfl) ?_)
 walk_at "ex"
 refine⟨b,cs,p,aW 32 z,0,_,0,rfl,hC.same iK,aX.of ep,by omega,hzs,by decide,by omega,hrd,λpr v H2 gh hpt hsv=>?_⟩
 refine dW (by rfl) (by rfl) (by rfl) (dg.of hpt) (by rfl) (aO (by rfl) (aM nd (by rfl) (.inl rfl) (.inl rfl) (aO (by rfl) (aM nd (by rfl) (.inl rfl) (.inl rfl) (cR ?_)))))
 have SP2:aX K H2 p ((aW 32 z).map V.str):=aX.of (gh _ _ ep)
 have yg:((aW 32 z).map V.str).length=(aW 32 z).length:=aar ..
 refine aj ?_
 walk_at "go"
 rw[yg]
 refine dD (λh=>absurd h (by omega)) (λ_=>?_)
 walk_at "go"
 exact q v H2 (iK.trans gh) hsv
theorem jh(T:Txt K mg):Def P w K mg base true 2 "read_order_word" ["columns","word"] (Uu (.ref (ak mg "NoOrder"))):=by
 refine uy T (λvs H Q E h=>by obtain⟨a,cs,z,rfl,_⟩:=h;rfl) (λf cdv A outer s H vs Q E hr h=>?_)
 obtain⟨a,cs,z,rfl,hC,hz,qe,q⟩:=h
 have g1:=T.La
 have g2:=T.FN
 have nd:=mQ.nd
 have D1:= @jC P w K mg base T
 have hsz:=sizeLine_eq
 have hcl:=ju z (some 1) none
 have e1:("+":Str).cps.toList=[43]:=by decide+kernel
 have e2:("-":Str).cps.toList=[45]:=by decide+kernel
 have es:(bO z none (some 1)).cps.toList=z.cps.toList.take 1:=mZ z 1
 have key:∀c:Nat,z.cps.toList.take 1=[c]↔z.cps.toList[0]? =some c:=λc=>by
  cases z.cps.toList with
  |nil=>simp
  |cons x r=>simp
 have k1:V.str (bO z none (some 1))=V.str "+"↔z.cps.toList[0]? =some 43:=by
  rw[<-key]
  constructor
  .intro h
   have h2:bO z none (some 1)=Str.ofString "+":=by injection h
   rw[<-es,h2,e1]
  .intro h
   have h2:bO z none (some 1)=Str.ofString "+":=bB (by rw[es,h,e1])
   rw[h2]
 have k2:V.str (bO z none (some 1))=V.str "-"↔z.cps.toList[0]? =some 45:=by
  rw[<-key]
  constructor
  .intro h
   have h2:bO z none (some 1)=Str.ofString "-":=by injection h
   rw[<-es,h2,e2]
  .intro h
   have h2:bO z none (some 1)=Str.ofString "-":=bB (by rw[es,h,e2])
   rw[h2]
 refine aj ?_
 walk_at "go"
 refine iM (by omega) ?_
 walk_at "go"
 refine iM (by omega) ?_
 walk_at "go"
 refine⟨by show 2≤sizeLine;omega,λp hp=>?_⟩
 obtain⟨OJ,ep⟩:=bR hp (.tup [.str "+",.str "-"])
 generalize upd H p (.tup [.str "+",.str "-"])=H0 at OJ ep⊢
 refine ab2 (dg.of ep) (by rfl) (by rfl) ?_
 have ei:Fx (V.str (bO z none (some 1))) [.str "+",.str "-"]=decide (z.cps.toList[0]? =some 43\/z.cps.toList[0]? =some 45):=by
  have e3:∀y:Str,Jd (V.str y) (V.str (bO z none (some 1)))=decide (V.str (bO z none (some 1))=V.str y):=λy=>by
   rw[ail,decide_eq_true_eq]
   constructor
   .intro h
    have :V.str y=V.str (bO z none (some 1)):=by simpa [Jd]using h
    exact this.symm
   .intro h
    rw[h]
    simp[Jd]
  rw[ail,decide_eq_true_eq, <-k1, <-k2]
  show((Jd _ _||(Jd _ _||false))=true)↔_
  rw[e3,e3,auK,akH,decide_eq_true_eq,decide_eq_true_eq]
 rw[ei]
 walk_at "go"
 refine O2 (λh=>?_) (λh=>?_)
 .refine aq (eY bF (by rfl) T.sr (by rfl) (by decide) (by rfl) (by rfl) ?_)
  walk_at "go"
  refine oW ?_
  walk_at "e"
  refine⟨z,rfl,by omega,_,4000,rfl,hz,by omega,?_⟩
  walk_at "go"
  intro zz
  walk_at "go"
  exact⟨by rw[hsz];simp,qe H0 OJ (if_neg λx=>h x.1)⟩
 .refine aL ?_
  walk_at "go"
  refine⟨a,cs,_,rfl,hC.same OJ,λH1 iK=>?_⟩
  have gh:=OJ.trans iK
  walk_at "go"
  refine dD (λh2=>?_) (λh2=>?_)
  .refine aq (eY bF (by rfl) T.sr (by rfl) (by decide) (by rfl) (by rfl) ?_)
   walk_at "go"
   refine oW ?_
   walk_at "e"
   refine⟨_,rfl,by omega,_,4000,rfl,by omega,by omega,?_⟩
   walk_at "go"
   intro zz
   walk_at "go"
   exact⟨by rw[hsz];simp,qe H1 gh (if_neg λx=>x.2 h2)⟩
  .refine aL ?_
   walk_at "go"
   refine⟨by show 2≤sizeLine;omega,λt ht=>?_⟩
   refine q t _ _ (gh.trans (au.upd ht)) (if_pos ⟨h,h2⟩) ?_
   rw[ao]
   have e4:decide (V.str (bO z none (some 1))=V.str ("+":Str))=decide (z.cps.toList[0]? =some 43):=decide_eq_decide.mpr k1
   rw[e4]
theorem kY(T:Txt K mg):Def P w K mg base true 3 "read_order" ["columns","text"] (Ye (.ref (ak mg "NoOrder"))):=by
 refine BX T (λvs H Q E h=>by obtain⟨a,cs,z,rfl,_⟩:=h;rfl) (λf cdv A outer s H vs Q E hr h=>?_)
 obtain⟨a,cs,z,rfl,hC,hz,qe,q⟩:=h
 have g1:=T.yM
 have n1:=T.jr
 have n2:=T.aal
 have nd:=tR.nd
 have Yz:(["word","columns"]:List Str).Nodup:=by decide+kernel
 have Wo:(["name","up"]:List Str).Nodup:=by decide+kernel
 have D1:= @jh P w K mg base T
 have hsz:=sizeLine_eq
 unfold iB at qe q
 refine aj ?_
 walk_at "go"
 refine dD (λh=>?_) (λh=>?_)
 .have h':z="":=by injection h
  walk_at "go"
  refine⟨by show 0≤sizeLine;omega,λp hp=>?_⟩
  exact q p [] _ (au.upd hp) (if_pos h') hp ⟨[],ao,.nil⟩
 .have h':¬z="":=λe=>h (by rw[e])
  rw[if_neg h']at qe q
  refine aL ?_
  refine aj ?_
  walk_at "s"
  refine fX PySem.F.plainAttrs_str PySem.F.slot_str_split PySem.F.type_str_split (by rfl) (by rfl) (by rfl) (by rfl) (by rfl) ?_
  walk_at "go"
  refine m_split (c:=32) (by omega) λp1 hp1=>?_
  have hwl:=vV 32 z
  have hws:=λy=> @uB 32 z y
  generalize aW 32 z=ws at qe q hwl hws⊢
  obtain⟨iK,ep1⟩:=bR hp1 (.lst (ws.map V.str))
  generalize upd H p1 (.lst (ws.map V.str))=H1 at iK ep1⊢
  have yg:(ws.map V.str).length=ws.length:=aar ..
  have S1:aX K H1 p1 (ws.map V.str):=aX.of ep1
  walk_at "go"
  rw[yg]
  refine dD (λh2=>?_) (λh2=>?_)
  .refine aq (eY bF (by rfl) T.sr (by rfl) (by decide) (by rfl) (by rfl) ?_)
   walk_at "go"
   exact⟨by rw[hsz];simp,qe H1 iK (if_pos (by omega))⟩
  .rw[if_neg (by omega)]at qe q
   refine aL ?_
   refine aj ?_
   refine Ov ["word","columns"] (σ':=[none,some (.ref a)]) (by rfl) bF rfl rfl (by rfl) (by rfl) (cA (aa cI) (by rfl) (by rfl) (by decide+kernel)) (by intro _;rfl) nd (by rfl) (by rfl) ?_
   walk_at "go"
   refine⟨p1,_,rfl,S1,by rw[yg];omega,λτ=>∃o,τ=[o,some (.ref a)],λE' i v H'=>∃y,ws[i]? =some y/\∃o,j7 cs y=some o/\∃t,v= .ref t/\t≠E'/\H' t=some (.tup [.str o.1,.bl o.2]),⟨none,rfl⟩,λE' i v H2 H3 ys _ hk hp=>?_,λfp E' C s3 H0 F i τ x H2 H3 xo hE hi hτ gh hys hG=>?_,λE' H2 xs hE hl hx e2 gh=>?_⟩
   .obtain⟨y,a1,o,a2,t,a3,a4,a5⟩:=hp
    exact⟨y,a1,o,a2,t,a3,a4,hk t _ a4 a5⟩
   .obtain⟨o,rfl⟩:=hτ
    obtain⟨hx,rfl⟩:=hG
    rw[aby]at hx
    obtain⟨y,ey,rfl⟩:=aht.mp hx
    have hyl:=hws y (aaR ey)
    refine aM Yz (by rfl) (.inl rfl) (.inr rfl) ?_
    walk_at "go"
    have sm3:=iK.trans gh
    refine⟨a,cs,y,rfl,hC.same sm3,by omega,λH' qG e=>?_,λt o H' qG e et=>?_⟩
    .exact qe H' (sm3.trans qG) (by rw[xH (aaR ey) e])
    .obtain⟨ys,hy1,_⟩:=hys
     refine⟨⟨_,rfl⟩,⟨y,ey,o,e,t,rfl,λz=>?_,et⟩,qG⟩
     rw[z,qG _ _ hy1]at et
     cases et
   .obtain⟨os,eo,ha⟩:=Mi (f:=j7 cs) (R:=HY H2) (ws:=ws) (xs:=xs) (by rw[hl,yg]) λi v e=>by
     obtain⟨y,a1,o,a2,t,a3,a4,a5⟩:=hx i v e
     exact⟨y,a1,o,a2,t,a3,a5⟩
    rw[eo]at qe q
    have hol:=ha.len
    have sm3:=iK.trans gh
    have hEn:H E'=none:=by
     cases e:H E' with
     |none=>rfl
     |some u=>rw[iK _ _ e]at hE;cases hE
    refine aj ?_
    refine oU ["name","up"] (σ':=[none,none]) (by rfl) (by rfl) (by rfl) (cA (aa cI) (by rfl) (by rfl) (by decide+kernel)) (by intro _;rfl) nd (by rfl) (by rfl) ?_
    walk_at "go"
    refine⟨E',xs,rfl,aX.of e2,by rw[hl,yg];omega,λτ=>∃o1 o2,τ=[o1,o2],λE2 i u H'=>∃c,os[i]? =some c/\u= .str c.1,⟨none,none,rfl⟩,λE2 i u H2 H3 ys _ _ p=>p,λfp E2 C s3 H0 i τ x H4 H3 Bm hi hτ qG hys hG=>?_,λE2 H4 ys Bm hl2 hx2 e4 qG=>?_⟩
    .obtain⟨o1,o2,rfl⟩:=hτ
     obtain⟨HD,rfl⟩:=hG
     obtain⟨c,hc,t,rfl,ht⟩:=ha.get HD
     refine dW (by rfl) (by rfl) (by rfl) (dg.of (qG _ _ ht)) (by rfl) (aO (by rfl) (aM Wo (by rfl) (.inl rfl) (.inr rfl) (aO (by rfl) (aM Wo (by rfl) (.inl rfl) (.inr rfl) (cR ?_)))))
     walk_at "go"
     exact⟨⟨_,_,rfl⟩,⟨c,hc,rfl⟩,au.refl _⟩
    .have ey:=eN (ys:=os) (λc=>V.str c.1) (by rw[hl2,hol]) hx2
     have Iz:ys=(os.map Prod.fst).map V.str:=by rw[ey,agz];rfl
     subst Iz
     have hnl:(os.map Prod.fst).length≤4000:=by simp;omega
     refine aj ?_
     walk_at "go"
     refine Tc (by rfl) (aX.of e4) hnl λS hS=>?_
     walk_at "go"
     refine S6 ao hnl ?_
     walk_at "go"
     refine Tv (.inl (aX.of ((au.upd hS) _ _ e4))) ?_
     walk_at "go"
     have DR:au H2 (upd H4 S (vR (vd true P w K mg base lr "read_order" (aa cI) f cdv A outer s H E) S (os.map Prod.fst))):=qG.trans (au.upd hS)
     have ZF:=Ax _ (os.map Prod.fst) rfl
     generalize upd H4 S (vR (vd true P w K mg base lr "read_order" (aa cI) f cdv A outer s H E) S (os.map Prod.fst))=H5 at DR⊢
     rw[aar (f:=V.str)]
     refine O2 (λh3=>?_) (λh3=>?_)
     .have h4:¬(os.map Prod.fst).Nodup:=λz=>h3 (by rw[ZF.mpr z])
      refine aq (eY bF (by rfl) T.sr (by rfl) (by decide) (by rfl) (by rfl) ?_)
      walk_at "go"
      exact⟨by rw[hsz];simp,qe H5 (sm3.trans DR) (if_neg h4)⟩
     .have h4:(os.map Prod.fst).Nodup:=ZF.mp (by injection h3 with h5;omega)
      refine aL ?_
      walk_at "go"
      exact q E' os H5 (sm3.trans DR) (if_pos h4) hEn ⟨xs,DR _ _ e2,ha.imp λu c r=>r.same DR⟩
def pL(kd:Str)(v:V):Prop:=v= .non\/(kd="number"/\∃i,v= .int i/\ -1000000000000000000≤i/\i≤1000000000000000000)\/(¬kd="number"/\∃z,v= .str z/\z.length≤20/\∀c∈z.cps.toList,c∈SG)
theorem pL.sc{kd:Str}{v:V}(h:pL kd v):scalar v=true:=by
 rcases h with rfl |⟨_,i,rfl,_⟩ |⟨_,z,rfl,_⟩<;>rfl
abbrev SG1:Str:=Str.ofString "ab-abcdefghijklmnopqrstuvwxyz0123456789-"
theorem Lr:SG1.length=40:=by decide+kernel
theorem acP:∀c∈SG1.cps.toList,c∈SG:=by decide+kernel
def Sh(K:acF):Sp:=λvs H Q _=>∃(a:Addr) (ns:List Int) (k:Int) (kd:Str),vs=[.ref a,.int k,.str kd]/\aX K H a (ns.map V.int)/\ns.length≤63/\0≤k/\k≤50000/\∀v H',au H H'->pL kd v->Q v H'
theorem km(T:Txt K mg):Def P w K mg base true 2 "_law_value" ["_law_script","_law_k","_law_kind"] (Sh K):=by
 refine Bu T (λvs H Q E h=>by obtain⟨a,ns,k,kd,rfl,_⟩:=h;rfl) (λf cdv A outer s H vs Q E hr h=>?_)
 obtain⟨a,ns,k,kd,rfl,hS,hl,hk0,hk1,q⟩:=h
 have nd:=uc.nd
 have n1:=T.jr
 have n2:=T.vg
 have hsz:=sizeLine_eq
 have yg:(ns.map V.int).length=ns.length:=aar ..
 have D1:= @bZ P w K mg base T
 refine aj ?_
 walk_at "go"
 refine⟨a,ns,k,8,rfl,hS,hl,by omega,by omega,by decide,?_⟩
 have w0:=aV ns k (m:=8) (by decide)
 have w1:=aU ns k (m:=8) (by decide)
 obtain⟨way,ew⟩:=aaA w0
 rw[ew]at w1⊢
 walk_at "go"
 refine dD (λh0=>?_) (λh0=>?_)
 .walk_at "go"
  exact q _ _ (au.refl _) (.inl rfl)
 .have aDC:1≤way:=by
   rcases Nat.eq_zero_or_pos way with e |e
   .exact absurd (by rw[e];rfl) h0
   .exact e
  walk_at "go"
  refine dD (λh=>?_) (λh=>?_)
  .have hn:kd="number":=by injection h
   have num:∀(cell:Int) (D:Ends),D.rt=Q->lH (vd true P w K mg base pN "_law_value" (aa cT) f cdv A outer s H E) ((ad1 (RQ (az cT) 2)).drop 1) D [some (.ref a),some (.int k),some (.str kd),some (.int way),some (.int cell),none,none,none] H:=by
    intro cell D hD
    have c0:=ait cell (b:=2*1000000000000000000+1) (by decide)
    have c1:=afD cell (b:=2*1000000000000000000+1) (by decide)
    refine aj ?_
    walk_at "go"
    generalize cell % (2*1000000000000000000+1)=z at c0 c1⊢
    refine⟨by show 7≤sizeLine;omega,λp hp=>?_⟩
    walk_at "go"
    obtain⟨v,e1,e2⟩:=zB (xs:=[V.int 0,V.int 1,V.int (-1),V.int 10,V.int (z-1000000000000000000),V.int 1000000000000000000,V.int (0-1000000000000000000)]) (i:=(way:Int)-1) (by omega) (by show _<(7:Int);omega)
    refine aR (aX.of ao) e1 ?_
    have hv:∃i,v= .int i/\ -1000000000000000000≤i/\i≤1000000000000000000:=by
     simp only[List.mem_cons,List.not_mem_nil,or_false]at e2
     rcases e2 with rfl |rfl |rfl |rfl |rfl |rfl |rfl<;>exact⟨_,rfl,by omega,by omega⟩
    show D.rt _ _
    rw[hD]
    exact q _ _ (au.upd hp) (.inr (.inl ⟨hn,hv⟩))
   walk_at "go"
   rw[yg]
   refine dD (λh3=>?_) (λh3=>?_)
   .walk_at "go"
    rw[yg]
    walk_at "go"
    refine aR hS (FJ 0 (ait _ (by omega)) (afD _ (by omega))) ?_
    exact num _ _ rfl
   .walk_at "ex"
    exact num _ _ rfl
  .have hn:¬kd="number":=λe=>h (by rw[e])
   walk_at "go"
   refine⟨by show 7≤sizeLine;omega,λp hp=>?_⟩
   have ux:=au.upd (H:=H) (o:=.lst [V.int 0,V.int 1,V.int 1,V.int 2,V.int 3,V.int 5,V.int 20]) hp
   walk_at "go"
   obtain⟨v,e1,e2⟩:=zB (xs:=[V.int 0,V.int 1,V.int 1,V.int 2,V.int 3,V.int 5,V.int 20]) (i:=(way:Int)-1) (by omega) (by show _<(7:Int);omega)
   refine aR (aX.of ao) e1 ?_
   obtain⟨sz,rfl,aA7⟩:∃sz:Nat,v= .int sz/\sz≤20:=by
    simp only[List.mem_cons,List.not_mem_nil,or_false]at e2
    rcases e2 with rfl |rfl |rfl |rfl |rfl |rfl |rfl
    .exact⟨0,rfl,by decide⟩
    .exact⟨1,rfl,by decide⟩
    .exact⟨1,rfl,by decide⟩
    .exact⟨2,rfl,by decide⟩
    .exact⟨3,rfl,by decide⟩
    .exact⟨5,rfl,by decide⟩
    .exact⟨20,rfl,by decide⟩
   generalize upd H p _=H1 at ux⊢
   have ayB:(way:Int) / 4=0\/(way:Int) / 4=1:=by omega
   walk_at "go"
   refine Ib ["_law_j","_law_k","_law_script","_law_signs","_law_way"] (σ':=[none,some (.int k),some (.ref a),some (.str SG1),some (.int way)]) (by rfl) (by rfl) (cA (aa cT) (by rfl) (by rfl) (by decide+kernel)) (by decide+kernel) (by rfl) (by rfl) (by rfl) n2 (by rfl) ?_
   walk_at "e"
   refine⟨sz,rfl,by omega,by omega,λi v=>∃c,c∈SG/\v= .str ⟨#[c]⟩,λfp E' C s3 H0 i H2 hi sm=>?_,λE' H2 xs hE hl2 hx e2 iK=>?_⟩
   .have hi':i<sz:=by simpa using hi
    walk_at "go"
    refine⟨by show 2≤sizeLine;omega,λy hy=>?_⟩
    have smy:=au.upd (H:=H2) (o:=.lst [V.int 3,V.int 40]) hy
    walk_at "go"
    obtain⟨v,g1,g2⟩:=zB (xs:=[V.int 3,V.int 40]) (i:=(way:Int) / 4) (by omega) (by show _<(2:Int);omega)
    refine acG ⟨by omega,by omega⟩ ?_
    refine aR (aX.of ao) g1 ?_
    obtain⟨mm,rfl,hm1,hm2⟩:∃mm:Int,v= .int mm/\0<mm/\mm≤40:=by
     simp only[List.mem_cons,List.not_mem_nil,or_false]at g2
     rcases g2 with rfl |rfl
     .exact⟨3,rfl,by decide,by decide⟩
     .exact⟨40,rfl,by decide,by decide⟩
    generalize upd H2 y _=H3 at smy⊢
    walk_at "go"
    refine⟨a,ns,k+7*i+1,mm,rfl,((ux.trans sm).trans smy).seq hS,hl,by omega,by omega,hm1,?_⟩
    have d0:=aV ns (k+7*i+1) (m:=mm) hm1
    have d1:=aU ns (k+7*i+1) (m:=mm) hm1
    obtain⟨d,ed⟩:=aaA d0
    rw[ed]at d1⊢
    have awA:=L2.len_list SG1
    have hg:SG1.cps.toList[d]? =some (SG1.cps.toList.getD d 0):=by
     rw[List.getD_eq_getElem?_getD,aak (by rw[<-awA,Lr];omega)]
     rfl
    refine yr (by rw[Lr];omega) (bz hg) ⟨⟨_,acP _ (aaR hg),rfl⟩,smy⟩
   .have HD:∃cs:List Nat,xs=(cs.map λc=>(⟨#[c]⟩:Str)).map V.str/\∀c∈cs,c∈SG:=by
     have :∀(xs:List V),(∀v∈xs,∃c,c∈SG/\v= .str ⟨#[c]⟩)->∃cs:List Nat,xs=(cs.map λc=>(⟨#[c]⟩:Str)).map V.str/\∀c∈cs,c∈SG:=by
      intro xs
      induction xs with
      |nil=>exact λ_=>⟨[],rfl,λc hc=>by simp at hc⟩
      |cons v r ih=>
       intro h
       obtain⟨c,hc,rfl⟩:=h v (aeH ..)
       obtain⟨cs,rfl,h2⟩:=ih λv hv=>h v (aeA _ hv)
       exact⟨c::cs,rfl,λx hx=>(abO.mp hx).elim (λe=>e▸hc) (h2 x)⟩
     refine this xs λv hv=>?_
     obtain⟨i,hi,e⟩:=ajv hv
     exact hx i v (by rw[aak hi,e])
    obtain⟨cs,rfl,hcs⟩:=HD
    have hcl:cs.length=sz:=by simpa using hl2
    walk_at "go"
    refine xq (aX.of e2) ?_ ?_
    .have e0:("":Str).length=0:=by decide+kernel
     rw[Bf,aar,e0]
     omega
    rw[uZ]
    refine q _ _ (ux.trans iK) (.inr (.inr ⟨hn,_,rfl,?_,?_⟩))
    .rw[L2.len_list]
     show cs.length≤20
     omega
    .intro c hc
     exact hcs c (by simpa using hc)
theorem _root_.Vl.gC.TF{α β:Type}{R:α->β->Prop}:∀{l:List α} {m:List β},gC R l m->∀b∈m,∃a,a∈l/\R a b
 |_,_,.nil,b,hb=>by simp at hb
 |_,_,.cons (a:=a) r t,b,hb=>by
  rcases abO.mp hb with e |e
  .subst e;exact⟨a,by simp,r⟩
  .obtain⟨a',h1,h2⟩:=t.TF b e
   exact⟨a',by simp[h1],h2⟩
theorem pL.word{kd:Str}{v:V}(h:pL kd v)(hk:kd="number"\/kd="text"):gB kd (wordOf v)=some v/\(wordOf v).length≤21/\32∉(wordOf v).cps.toList/\¬wordOf v=Str.ofString "*"/\(∀c∈(wordOf v).cps.toList,c<1114112):=by
 rcases h with rfl |⟨hn,i,rfl,h1,h2⟩ |⟨hn,z,rfl,hl,hz⟩
 .refine⟨?_,by decide+kernel,by decide+kernel,by decide+kernel,by decide+kernel⟩
  unfold gB
  rw[if_pos (show wordOf .non=Str.ofString "?" from rfl)]
 .subst hn
  have hf:=jL i
  refine⟨O9 h1 h2,?_,λh=>?_,λh=>?_,λc hc=>?_⟩
  .have :=cG (i:=i) (k:=19) (by decide) (by omega)
   show(Str.ofString (toString i)).length≤21
   omega
  .have :=hf 32 h
   omega
  .have h':Str.ofString (toString i)=Str.ofString "*":=h
   have e:("*":Str).cps.toList=[42]:=by decide+kernel
   have :=hf 42 (by rw[h',e];simp)
   omega
  .have :=hf c hc
   omega
 .have hk':kd="text":=hk.resolve_left hn
  subst hk'
  have e1:("'":Str).length=1:=by decide+kernel
  have e3:=len_app ("'":Str) z
  have hsg:∀c∈SG,¬c=32/\c<1114112:=by decide+kernel
  have hmem:∀c∈(Str.ofString "'"++z).cps.toList,c=39\/c∈SG:=λc hc=>by
   rw[aA,zu]at hc
   rcases aeC.mp hc with h |h
   .exact .inl (by simpa using h)
   .exact .inr (hz c h)
  refine⟨Qu hl hz,by show(Str.ofString "'"++z).length≤21;omega,λh=>?_,λh=>?_,λc hc=>?_⟩
  .rcases hmem 32 h with e |e
   .omega
   .exact(hsg 32 e).1 rfl
  .have h':Str.ofString "'"++z=Str.ofString "*":=h
   have e:("*":Str).cps.toList=[42]:=by decide+kernel
   have h0:(Str.ofString "'"++z).cps.toList[0]? =some 39:=by rw[aA,zu];rfl
   rw[h',e]at h0
   simp at h0
  .rcases hmem c hc with e |e
   .omega
   .exact(hsg c e).2
theorem Kl{cs:List bC}{z:Str}:∀(i:Nat),(∀c∈cs,c.1≠z)->jj cs z i= .non:=by
 induction cs with
 |nil=>intro i h;rfl
 |cons d r ih=>
  intro i h
  unfold jj
  rw[if_neg (h d (by simp)),ih (i+1) λc hc=>h c (by simp[hc])]
theorem Kd{cs:List bC}{c:bC}:∀(i:Nat),c∈cs->jj cs c.1 i≠ .non:=by
 induction cs with
 |nil=>intro i h;simp at h
 |cons d r ih=>
  intro i h
  unfold jj
  by_cases e:d.1=c.1
  .rw[if_pos e]
   intro z
   cases z
  .rw[if_neg e]
   rcases abO.mp h with z |z
   .subst z;exact absurd rfl e
   .exact ih (i+1) z
theorem Cr:("+":Str).cps.toList=[43]/\("-":Str).cps.toList=[45]/\(" ":Str).cps.toList=[32]/\("":Str).cps.toList=[]:=by decide+kernel
theorem Q3{x:Nat}{n:Str}:bO (⟨#[x]⟩++n) (some 1) none=n:=by
 apply bB
 rw[show(bO (⟨#[x]⟩++n) (some 1) none).cps.toList=(⟨#[x]⟩++n:Str).cps.toList.drop 1 from lJ _ 1,aA]
 rfl
theorem zN{cs:List bC}{o:Ord}{c:bC}(hc:c∈cs)(e:c.1=o.1):j7 cs (d9 o)=some o:=by
 obtain⟨n,up⟩:=o
 have hp:jj cs n 0≠ .non:=by rw[<-show c.1=n from e];exact Kd 0 hc
 have key:∀x:Nat,(x=43\/x=45)->j7 cs (⟨#[x]⟩++n)=some (n,decide (x=43)):=λx hx=>by
  unfold j7
  rw[Q3]
  have h0:(⟨#[x]⟩++n:Str).cps.toList[0]? =some x:=by rw[aA];rfl
  rw[h0,if_pos ⟨by rcases hx with z |z<;>simp[z],hp⟩]
  simp
 unfold d9
 cases up with
 |true=>exact key 43 (.inl rfl)
 |false=>exact key 45 (.inr rfl)
theorem wU{o:Ord}(h:32∉o.1.cps.toList):32∉(d9 o).cps.toList:=by
 unfold d9
 rw[aA]
 obtain⟨e1,e2,_⟩:=Cr
 split
 .rw[e1];simpa using h
 .rw[e2];simpa using h
theorem KH:∀{ps:List Str},Str.join " " ps=""->ps=[]\/ps=[Str.ofString ""]
 |[],_=>.inl rfl
 |[p],h=>.inr (by rw[show p="" from h])
 |p::q::r,h=>by
  have e:(Str.join " " (p::q::r)).cps.toList=jg 32 ((p::q::r).map λp=>p.cps.toList):=jK 32 _
  rw[h]at e
  have e2:([]:List Nat)=p.cps.toList++32::jg 32 ((q::r).map λp=>p.cps.toList):=e
  have :=congrArg akv e2
  simp at this
theorem Cq{cs:List bC}{os:List Ord}(hl:os.length≤4)(hn:(os.map Prod.fst).Nodup)(hc:∀o∈os,∃c∈cs,c.1=o.1)(hf:∀o∈os,32∉o.1.cps.toList):iB cs (iU os)=some os:=by
 unfold iB iU
 by_cases h0:os=[]
 .subst h0
  exact if_pos (by decide+kernel)
 .have h1:os.map d9≠[]:=by simpa using h0
  have hw:∀p∈os.map d9,32∉p.cps.toList:=λp hp=>by
   obtain⟨o,ho,rfl⟩:=adg.mp hp
   exact wU (hf o ho)
  have hne:os.map d9≠[Str.ofString ""]:=λe=>by
   have :Str.ofString ""∈os.map d9:=by rw[e];simp
   obtain⟨o,ho,e2⟩:=adg.mp this
   have e3:=congrArg (λz:Str=>z.cps.toList.length) e2
   have e4:(d9 o).cps.toList.length=1+o.1.cps.toList.length:=by
    unfold d9
    rw[aA,ace]
    obtain⟨l1,l2,_⟩:=Cr
    split
    .rw[l1];rfl
    .rw[l2];rfl
   have e5:("":Str).cps.toList.length=0:=by decide+kernel
   have e3':(d9 o).cps.toList.length=("":Str).cps.toList.length:=e3
   rw[e4,e5]at e3'
   omega
  rw[if_neg (λz=>(KH z).elim h1 hne),jO h1 hw,aar,if_neg (by omega)]
  have hm:By (j7 cs) (os.map d9)=some os:=by
   refine xJ (by simp) λi x y e1 e2=>?_
   rw[aby,e2]at e1
   have e1':d9 y=x:=Option.some.inj e1
   obtain⟨c,hcm,ec⟩:=hc y (aaR e2)
   rw[<-e1']
   exact zN hcm ec
  rw[hm]
  show(if(os.map Prod.fst).Nodup then some os else none)=some os
  rw[if_pos hn]
structure Cut where
 ahead:Bool
 row:Nat
 xs:List V
structure Mk where
 living:Bool
 moment:Nat
 os:List Ord
 sieve:Str
 cut:Cut
def qi(b:Bool):Str:=if b=true then Str.ofString "ahead" else Str.ofString "behind"
def dN(b:Bool):Str:=if b=true then Str.ofString "<" else Str.ofString ">"
def oG(b:Bool):Str:=if b=true then Str.ofString "living" else Str.ofString "still"
def bH(b:Bool):Str:=if b=true then Str.ofString "l" else Str.ofString "s"
def HX(H:Hp)(c:Addr)(C:Cut):Prop:=∃k v,H c=some (.tup [.str (qi C.ahead),.ref k])/\H k=some (.tup [.ref v,.int C.row])/\H v=some (.lst C.xs)
theorem HX.same{H H':Hp}{c:Addr}{C:Cut}(h:HX H c C)(s:au H H'):HX H' c C:=by
 obtain⟨k,v,h1,h2,h3⟩:=h
 exact⟨k,v,s _ _ h1,s _ _ h2,s _ _ h3⟩
def uO(H:Hp)(p:Addr)(M:Mk):Prop:=∃o c,H p=some (.tup [.str (oG M.living),.int M.moment,.ref o,.str M.sieve,.ref c])/\uC H o M.os/\HX H c M.cut
theorem uO.same{H H':Hp}{p:Addr}{M:Mk}(h:uO H p M)(s:au H H'):uO H' p M:=by
 obtain⟨o,c,h1,h2,h3⟩:=h
 exact⟨o,c,s _ _ h1,h2.same s,h3.same s⟩
def bK(C:Cut):List Str:=Str.ofString (toString (C.row:Int))::C.xs.map wordOf
def cW(C:Cut):Str:=dN C.ahead++Str.join " " (bK C)
def cO(M:Mk):List Str:=[bH M.living,Str.ofString (toString (M.moment:Int)),iU M.os,M.sieve,cW M.cut]
def bL(M:Mk):Str:=Str.join "/" (cO M)
def gR(M:Mk):Str:=bL M++Str.ofString "."++cD (bu (bL M).cps.toList)
def plainS(z:Str):Prop:=∀c∈z.cps.toList,32≤c/\c≤122/\c≠46/\c≠47
theorem plainS.app{a b:Str}(h:plainS a)(g:plainS b):plainS (a++b):=λc hc=>by
 rw[aA]at hc
 rcases aeC.mp hc with hc |hc
 .exact h c hc
 .exact g c hc
theorem plainS.join:∀{ps:List Str},(∀p∈ps,plainS p)->plainS (Str.join " " ps)
 |[],_=>by
  intro c hc
  have :c∈([]:List Nat):=hc
  simp at this
 |[p],h=>h p (by simp)
 |p::q::r,h=>by
  have hb:plainS (" ":Str):=by unfold plainS;decide+kernel
  exact((h p (by simp)).app hb).app (plainS.join λx hx=>h x (by simp[hx]))
theorem Tf:∀c∈SG,32≤c/\c≤122/\c≠46/\c≠47:=by decide+kernel
theorem rZ(i:Int):plainS (Str.ofString (toString i)):=λc hc=>by
 have :=jL i c hc
 omega
theorem pL.plain{kd:Str}{v:V}(h:pL kd v):plainS (wordOf v):=by
 rcases h with rfl |⟨hn,i,rfl,h1,h2⟩ |⟨hn,z,rfl,hl,hz⟩
 .unfold plainS
  decide+kernel
 .exact rZ i
 .refine plainS.app (a:=Str.ofString "'") ?_ λc hc=>Tf c (hz c hc)
  unfold plainS
  decide+kernel
theorem oZ{z:Str}(h:isName z=true):plainS z:=by
 unfold isName at h
 rw[aaP]at h
 intro c hc
 have h2:=h.2
 unfold jo at h2
 rw[adt]at h2
 have h3:=of_decide_eq_true (h2 c hc)
 have key:∀c∈XH.cps.toList,32≤c/\c≤122/\c≠46/\c≠47:=by decide+kernel
 exact key c h3
theorem rD{ps:List Str}(h:ps≠[])(hf:∀p∈ps,47∉p.cps.toList):aW 47 (Str.join "/" ps)=ps:=by
 unfold aW
 have e:(Str.join "/" ps).cps.toList=jg 47 (ps.map λp=>p.cps.toList):=jK 47 ps
 rw[e,mq (by simpa using h) λp hp=>?_,agz]
 .have :((λl:List Nat=>(⟨l.toArray⟩:Str))∘λp:Str=>p.cps.toList)=id:=by
   funext p
   rfl
  rw[this,apO]
 .obtain⟨q,hq,rfl⟩:=adg.mp hp
  exact hf q hq
def dC(cs:List bC)(z:Str):Str:=match cs[bY cs z]? with
 |some c=>c.2
 |none=>Str.ofString ""
structure bW(cs:List bC)(M:Mk):Prop where
 moment:M.moment≤5000
 len:M.os.length≤4
 names:∀o∈M.os,o.1∈cs.map Prod.fst
 nodup:(M.os.map Prod.fst).Nodup
 row:M.cut.row≤1000000000
 vals:gC (λ(o:Ord) x=>pL (dC cs o.1) x) M.os M.cut.xs
 plain:plainS M.sieve
 short:M.sieve.length≤2800
 words:∀y∈aW 32 M.sieve,y.length≤900
 reads:∃t:Tr,t.dep≤20/\Reads cs (aW 32 M.sieve) t 0 (aW 32 M.sieve).length
theorem yK(b:Bool):plainS (bH b):=by cases b<;>(unfold plainS;decide+kernel)
theorem Ad(b:Bool):plainS (dN b):=by cases b<;>(unfold plainS;decide+kernel)
theorem Kp{o:Ord}(h:plainS o.1):plainS (d9 o):=by
 unfold d9
 refine plainS.app ?_ h
 have h1:plainS ("+":Str):=by unfold plainS;decide+kernel
 have h2:plainS ("-":Str):=by unfold plainS;decide+kernel
 split
 .exact h1
 .exact h2
theorem lC{cs:List bC}{M:Mk}(h:bW cs M):∀p∈bK M.cut,plainS p:=λp hp=>by
 rcases abO.mp hp with rfl |hp
 .exact rZ _
 .obtain⟨x,hx,rfl⟩:=adg.mp hp
  obtain⟨o,_,hv⟩:=h.vals.TF x hx
  exact hv.plain
theorem jb{cs:List bC}(hc:aQ cs=true){M:Mk}(h:bW cs M):∀p∈cO M,plainS p:=λp hp=>by
 have hp':p=bH M.living\/p=Str.ofString (toString (M.moment:Int))\/p=iU M.os\/p=M.sieve\/p=cW M.cut:=by simpa [cO]using hp
 rcases hp' with rfl |rfl |rfl |rfl |rfl
 .exact yK _
 .exact rZ _
 .refine plainS.join λq hq=>?_
  obtain⟨o,ho,rfl⟩:=adg.mp hq
  refine Kp (oZ ?_)
  obtain⟨c,hcm,e⟩:=adg.mp (h.names o ho)
  unfold aQ at hc
  simp only[aaP,adt]at hc
  rw[<-e]
  exact(hc.1.2 c hcm).1
 .exact h.plain
 .exact(Ad _).app (plainS.join (lC h))
theorem vf{cs:List bC}(hc:aQ cs=true){M:Mk}(h:bW cs M):aW 47 (bL M)=cO M:=
 rD (by simp[cO]) λp hp hm=>(jb hc h p hp 47 hm).2.2.2 rfl
theorem lL(n:Int)(h0:0≤n)(h1:n<9973):46∉(cD n).cps.toList/\(cD n).length=4:=by
 obtain⟨m,rfl⟩:=aaA h0
 have :=zq (n:=m) (by omega)
 unfold xg at this
 simp only[aaP,decide_eq_true_eq,adt]at this
 refine⟨λhm=>?_,this.1⟩
 have :=this.2.1 46 hm
 unfold vo at this
 simp at this
theorem uH(M:Mk):Txt.rpartition (gR M) ⟨#[46]⟩=(bL M,⟨#[46]⟩,cD (bu (bL M).cps.toList)):=by
 have hb:=gb (bL M).cps.toList
 have hf:=lL (bu (bL M).cps.toList) (by omega) (by omega)
 have e:(gR M).cps.toList=(bL M).cps.toList++46::(cD (bu (bL M).cps.toList)).cps.toList:=by
  unfold gR
  rw[aA,aA,show(".":Str).cps.toList=[46]from by decide+kernel,aex]
  rfl
 have eta:∀z:Str,(⟨z.cps.toList.toArray⟩:Str)=z:=λz=>by
  obtain⟨⟨l⟩⟩:=z
  rfl
 rw[zV e hf.1,eta,eta]
theorem zJ:∀ps:List Str,(Str.join "/" ps).length≤(ps.map (·.length)).sum+ps.length
 |[]=>by show(0:Nat)≤_;omega
 |[p]=>by
  show p.length≤_
  simp
 |p::q::r=>by
  have ih:=zJ (q::r)
  have lb:("/":Str).length=1:=by decide+kernel
  show(p++Str.ofString "/"++Str.join "/" (q::r)).length≤_
  rw[len_app,len_app,lb]
  simp only[List.map_cons,List.sum_cons,List.length_cons]at ih⊢
  omega
theorem jy:∀ps:List Str,(Str.join " " ps).length≤(ps.map (·.length)).sum+ps.length
 |[]=>by show(0:Nat)≤_;omega
 |[p]=>by
  show p.length≤_
  simp
 |p::q::r=>by
  have ih:=jy (q::r)
  have lb:(" ":Str).length=1:=by decide+kernel
  show(p++Str.ofString " "++Str.join " " (q::r)).length≤_
  rw[len_app,len_app,lb]
  simp only[List.map_cons,List.sum_cons,List.length_cons]at ih⊢
  omega
theorem DG(ps:List Str)(n:Nat)(h:∀p∈ps,p.length≤n):(ps.map (·.length)).sum≤ps.length*n:=by
 induction ps with
 |nil=>simp
 |cons p ps ih=>
  have h1:=ih λx hx=>h x (by simp[hx])
  have h2:=h p (by simp)
  simp only[List.map_cons,List.sum_cons,List.length_cons,Nat.succ_mul]
  omega
theorem Av{cs:List bC}(hc:aQ cs=true){z:Str}(hz:z∈cs.map Prod.fst):dC cs z="number"\/dC cs z="text":=by
 obtain⟨c,hcm,e⟩:=adg.mp hz
 have hp:bY cs z<cs.length:=lD ⟨c,hcm,e⟩
 unfold dC
 rw[aak hp]
 unfold aQ at hc
 simp only[aaP,adt]at hc
 have h2:=(hc.1.2 cs[bY cs z] (aeF hp)).2
 unfold yc at h2
 exact of_decide_eq_true h2
theorem bW.Ie{cs:List bC}(hc:aQ cs=true){M:Mk}(h:bW cs M):∀x∈M.cut.xs,wrt x/\(wordOf x).length≤21/\32∉(wordOf x).cps.toList:=λx hx=>by
 obtain⟨o,ho,hv⟩:=h.vals.TF x hx
 have hw:=hv.word (Av hc (h.names o ho))
 refine⟨⟨hv.sc,?_,λi e=>?_⟩,hw.2.1,hw.2.2.1⟩
 .rcases hv with rfl |⟨_,i,rfl,_⟩ |⟨_,z,rfl,hl,_⟩
  .trivial
  .trivial
  .show z.length≤4000
   omega
 .subst e
  rcases hv with e |⟨_,j,e,h1,h2⟩ |⟨_,z,e,_⟩
  .cases e
  .cases e
   have :(10:Nat)^60>1000000000000000000:=by decide
   omega
  .cases e
theorem bW.xsl{cs:List bC}{M:Mk}(h:bW cs M):M.cut.xs.length≤4:=by
 have :=h.vals.len
 have :=h.len
 omega
theorem jQ{cs:List bC}(hc:aQ cs=true){M:Mk}(h:bW cs M):(∀p∈bK M.cut,p.length≤21)/\(bK M.cut).length≤5:=by
 refine⟨λp hp=>?_,?_⟩
 .rcases abO.mp hp with rfl |hp
  .have :=cG (i:=(M.cut.row:Int)) (k:=10) (by decide) (by have :=h.row;have :(10:Nat)^10>1000000000:=by decide
                                                          omega)
   omega
  .obtain⟨x,hx,rfl⟩:=adg.mp hp
   exact(h.Ie hc x hx).2.1
 .have :=h.xsl
  show(M.cut.xs.map wordOf).length+1≤5
  rw[aar]
  omega
theorem sW{cs:List bC}(hc:aQ cs=true){M:Mk}(h:bW cs M):(cW M.cut).length≤200:=by
 obtain⟨h1,h2⟩:=jQ hc h
 have h3:=DG _ 21 h1
 have h4:=jy (bK M.cut)
 have h5:(dN M.cut.ahead).length=1:=by cases M.cut.ahead<;>decide+kernel
 unfold cW
 rw[len_app]
 omega
theorem eF{z:Str}(h:isName z=true):z.length≤8:=by
 unfold isName at h
 rw[aaP]at h
 exact(of_decide_eq_true h.1).2
theorem gk{cs:List bC}(hc:aQ cs=true){z:Str}(hz:z∈cs.map Prod.fst):isName z=true:=by
 obtain⟨c,hcm,e⟩:=adg.mp hz
 unfold aQ at hc
 simp only[aaP,adt]at hc
 rw[<-e]
 exact(hc.1.2 c hcm).1
theorem vZ{cs:List bC}(hc:aQ cs=true){M:Mk}(h:bW cs M):(iU M.os).length≤100:=by
 have h1:=DG (M.os.map d9) 9 λp hp=>by
  obtain⟨o,ho,rfl⟩:=adg.mp hp
  have :=eF (gk hc (h.names o ho))
  have l1:("+":Str).length=1:=by decide+kernel
  have l2:("-":Str).length=1:=by decide+kernel
  unfold d9
  rw[len_app]
  split <;>omega
 have h2:=jy (M.os.map d9)
 have h3:=h.len
 rw[aar]at h1 h2
 unfold iU
 omega
theorem mK{cs:List bC}(hc:aQ cs=true){M:Mk}(h:bW cs M):((cO M).map (·.length)).sum≤3200/\(bL M).length≤3300:=by
 have h1:(bH M.living).length=1:=by cases M.living<;>decide+kernel
 have h2:=cG (i:=(M.moment:Int)) (k:=4) (by decide) (by have :=h.moment;have :(10:Nat)^4>5000:=by decide
                                                        omega)
 have h3:=vZ hc h
 have h4:=h.short
 have h5:=sW hc h
 have e:((cO M).map (·.length)).sum=(bH M.living).length+((Str.ofString (toString (M.moment:Int))).length+((iU M.os).length+(M.sieve.length+((cW M.cut).length+0)))):=rfl
 have h6:=zJ (cO M)
 have e2:(cO M).length=5:=rfl
 unfold bL
 omega
theorem pJ:∀{ps:List Str},(∀p∈ps,plainS p)->∀c∈(Str.join "/" ps).cps.toList,c≤122
 |[],_,c,hc=>by
  have :c∈([]:List Nat):=hc
  simp at this
 |[p],h,c,hc=>by
  have :=h p (by simp) c hc
  omega
 |p::q::r,h,c,hc=>by
  have e:(Str.join "/" (p::q::r)).cps.toList=(p++Str.ofString "/"++Str.join "/" (q::r)).cps.toList:=rfl
  rw[e,aA,aA,show("/":Str).cps.toList=[47]from by decide+kernel]at hc
  rcases aeC.mp hc with hc |hc
  .rcases aeC.mp hc with hc |hc
   .have :=h p (by simp) c hc
    omega
   .rw[aeG.mp hc]
    omega
  .exact pJ (λx hx=>h x (by simp[hx])) c hc
theorem pA{cs:List bC}(hc:aQ cs=true){M:Mk}(h:bW cs M):∀c∈(bL M).cps.toList,c<1114112:=λc hm=>by
 have :=pJ (jb hc h) c hm
 omega
def zr(K:acF):Sp:=λvs H Q _=>∃(a C dx:Addr) (fs:List (Str×V)) (v:V),vs=[.ref a]/\H a=some (.ins C dx fs)/\sZ K C/\bh K C "text"/\fs.lookup ("text":Str)=some v/\Q v H
theorem kJ{cc:Bool}:FD P w K mg base cc 1 "shown" "Sieve.shown" aH ["self"] (zr K):=by
 refine Aa (λvs H Q E h=>by obtain⟨a,C,dx,fs,v,rfl,_⟩:=h;rfl) (λf cdv A outer s H vs Q E hr h=>?_)
 obtain⟨a,C,dx,fs,v,rfl,ha,hc,hn,hl,q⟩:=h
 refine aq (bA ?_)
 refine ab1 (by rfl) ?_
 walk_at "e"
 exact⟨a,C,dx,fs,v,rfl,ha,hc,hn,hl,q⟩
def Ip(mg:Str->Option Value):Tr->Addr
 | .one .all=>ak mg "AllSieve"
 | .one (.none _)=>ak mg "NoneSieve"
 | .one (.look l _ _)=>afT mg l
 | .nt _=>ak mg "NotSieve"
 | .bo _ _=>ak mg "BothSieve"
 | .ei _ _=>ak mg "EitherSieve"
theorem qw.txt{mg:Str->Option Value}{H:Hp}:∀{t:Tr} {a:Addr} {z:Str},qw mg H t a z->∃dx fs,H a=some (.ins (Ip mg t) dx fs)/\fs.lookup ("text":Str)=some (.str z)/\fs.lookup ("shown":Str)=none
 | .one .all,a,z,h=>by obtain⟨dx,h⟩:=h;exact⟨dx,_,h,rfl,rfl⟩
 | .one (.none p),a,z,h=>by obtain⟨dx,h⟩:=h;exact⟨dx,_,h,rfl,rfl⟩
 | .one (.look l p v),a,z,h=>by obtain⟨dx,h⟩:=h;exact⟨dx,_,h,rfl,rfl⟩
 | .nt t,a,z,h=>by obtain⟨dx,b,y,h,_⟩:=h;exact⟨dx,_,h,rfl,rfl⟩
 | .bo t u,a,z,h=>by obtain⟨dx,b,c,y,x,h,_⟩:=h;exact⟨dx,_,h,rfl,rfl⟩
 | .ei t u,a,z,h=>by obtain⟨dx,b,c,y,x,h,_⟩:=h;exact⟨dx,_,h,rfl,rfl⟩
theorem Mq(T:Txt K mg):∀t:Tr,acw P w K mg base true 1 (Ip mg t) "shown" ["self"] (zr K)/\sZ K (Ip mg t)/\bh K (Ip mg t) "text"
 | .one .all=>⟨kJ.meth T.uA T.yd,T.uA,T.oH⟩
 | .one (.none _)=>⟨kJ.meth T.rW T.vB,T.rW,T.nH⟩
 | .one (.look .is _ _)=>⟨kJ.meth T.wY T.yU,T.wY,T.qd⟩
 | .one (.look .under _ _)=>⟨kJ.meth T.pO T.uY,T.pO,T.lV⟩
 | .one (.look .over _ _)=>⟨kJ.meth T.rP T.wN,T.rP,T.nG⟩
 | .one (.look .holds _ _)=>⟨kJ.meth T.pZ T.u5,T.pZ,T.lQ⟩
 | .nt _=>⟨kJ.meth T.u6 T.xO,T.u6,T.oE⟩
 | .bo _ _=>⟨kJ.meth T.rC T.vQ,T.rC,T.nM⟩
 | .ei _ _=>⟨kJ.meth T.nQ T.tD,T.nQ,T.j6⟩
def Ea(K:acF):Sp:=λvs H Q _=>∃(p q:Addr) (cs:List bC) (xs:List V),vs=[.ref p,.ref q]/\H p=some (.lst ((cs.map Prod.snd).map V.str))/\H q=some (.lst ((xs.map wordOf).map V.str))/\cs.length≤1000/\(∀c∈cs,c.2="number"\/c.2="text")/\gC (λc x=>pL c.2 x) cs xs/\
 ∀r H',au H H'->H r=none->H' r=some (.lst xs)->Q (.ref r) H'
theorem ou(T:Txt K mg):Def P w K mg base true 6 "read_values" ["kinds","words"] (Ea K):=by
 refine rn T (λvs H Q E h=>by obtain⟨p,q,cs,xs,rfl,_⟩:=h;rfl) (λf cdv A outer s H vs Q E hr h=>?_)
 obtain⟨p,q',cs,xs,rfl,hp,hq,hcl,hk,hall,q⟩:=h
 have n1:=T.jr
 have n2:=T.ZV
 have Wo:(["kind","word"]:List Str).Nodup:=by decide+kernel
 have hsz:=sizeLine_eq
 have D1:= @iC P w K mg base T
 have hl:=hall.len
 have l1:((cs.map Prod.snd).map V.str).length=cs.length:=by rw[aar,aar]
 have l2:((xs.map wordOf).map V.str).length=xs.length:=by rw[aar,aar]
 have SP:aX K H p ((cs.map Prod.snd).map V.str):=aX.of hp
 have SQ:aX K H q' ((xs.map wordOf).map V.str):=aX.of hq
 refine aj ?_
 walk_at "go"
 rw[l1,l2, <-hl]
 rw[decide_eq_true (rfl:V.int ((cs.length:Nat):Int)=V.int ((cs.length:Nat):Int))]
 walk_at "t"
 refine aL ?_
 refine aq (bA ?_)
 refine Wg ["kind","word"] (σ':=[none,none]) (by rfl) (by rfl) (cA (aa cU) (by rfl) (by rfl) (by decide+kernel)) (by rfl) n2 (by rfl) (by rfl) ?_
 walk_at "e"
 walk_at "e"
 refine⟨p,q',_,_,rfl,rfl,hp,hq,by rw[l1];omega,λτ=>∃o1 o2,τ=[o1,o2],λE2 i u H'=>∃x,xs[i]? =some x/\u=x,⟨none,none,rfl⟩,λE2 i u H2 H3 ys _ _ p=>p,λfp E2 C s3 H0 i τ x H5 H6 Bm hi hτ DR hys hG=>?_,λE2 H5 ys Bm hl2 hx2 e5 DR=>?_⟩
 .obtain⟨o1,o2,rfl⟩:=hτ
  obtain⟨t,y,z,rfl,htn,rfl,hy,hz⟩:=hG
  rw[aby,aby]at hy hz
  obtain⟨c,hc,rfl⟩:∃c,cs[i]? =some c/\V.str c.2=y:=by
   cases e:cs[i]? with
   |none=>rw[e]at hy;cases hy
   |some c=>rw[e]at hy;exact⟨c,rfl,Option.some.inj hy⟩
  obtain⟨x,hx,hv⟩:=hall.get hc
  rw[hx]at hz
  have hz':z= .str (wordOf x):=(Option.some.inj hz).symm
  subst hz'
  have hw:=hv.word (hk c (aaR hc))
  have wO:au H5 (upd H5 t (.tup [.str c.2,.str (wordOf x)])):=au.upd htn
  refine dW (by rfl) (by rfl) (by rfl) (dg.of ao) (by rfl) (aO (by rfl) (aM Wo (by rfl) (.inl rfl) (.inr rfl) (aO (by rfl) (aM Wo (by rfl) (.inl rfl) (.inr rfl) (cR ?_)))))
  generalize upd H5 t (.tup [.str c.2,.str (wordOf x)])=H7 at wO⊢
  walk_at "go"
  refine⟨c.2,wordOf x,rfl,by omega,λH8 sm8=>?_⟩
  rw[hw.1]
  exact⟨⟨_,_,rfl⟩,⟨x,hx,rfl⟩,wO.trans sm8⟩
 .have hyl:ys.length=xs.length:=by rw[hl2,l1,l2];omega
  have ey:=eN (ys:=xs) (λx=>x) hyl hx2
  rw[List.map_id']at ey
  subst ey
  exact q E2 H5 DR Bm e5
theorem Yd{i:Nat}{m:Int}(h:(i:Int)≤m):mL (Str.ofString (toString (i:Int))).cps.toList m=some (i:Int):=by
 obtain⟨a,b⟩:=zx i
 unfold mL
 rw[a,b,if_pos ⟨rfl,h⟩]
def O5:Sp:=λvs H Q _=>∃b:Bool,vs=[.str (bH b)]/\∀H',au H H'->Q (.str (oG b)) H'
theorem nq(T:Txt K mg):Def P w K mg base true 1 "read_make" ["letter"] O5:=by
 refine wu T (λvs H Q E h=>by obtain⟨b,rfl,_⟩:=h;rfl) (λf cdv A outer s H vs Q E hr h=>?_)
 obtain⟨b,rfl,q⟩:=h
 have nd:=oV.nd
 have g1:=T.Ir
 have g2:=T.Lp
 have hsz:=sizeLine_eq
 refine aj (LQ (by walk_at "po") (by rfl) (by intro _;rfl) ?_)
 walk_at "ex"
 refine⟨by show 2≤sizeLine;omega,λt ht=>?_⟩
 obtain⟨st,et⟩:=bR ht (.tup [.str ("living":Str),.str ("still":Str)])
 refine⟨t,_,rfl,dg.of et,λi σ H'=>(∃o,σ=[some (.str (bH b)),o])/\H'=upd H t (.tup [.str ("living":Str),.str ("still":Str)])/\(1≤i->b=false)/\i<2,⟨⟨none,rfl⟩,rfl,λh=>absurd h (by omega),by omega⟩,λi σ' H' hi hP=>?_,λi x σ' H' hx hP=>?_,λσ' H' hP=>?_⟩
 .obtain⟨_,rfl,_⟩:=hP
  exact dg.of et
 .obtain⟨⟨o,rfl⟩,rfl,hb,hi2⟩:=hP
  refine aM nd (by rfl) (.inl rfl) (.inl rfl) ?_
  match i,hi2,hx with
  |0,_,hx=>
   have hx':x= .str ("living":Str):=(Option.some.inj hx).symm
   subst hx'
   refine aq (bx ?_)
   walk_at "ex"
   refine yr (n:=108) (by rw[hsz];decide+kernel) (by decide+kernel) ?_
   walk_at "ex"
   cases b with
   |true=>
    refine dD (λ_=>?_) (λh=>absurd (by decide+kernel) h)
    refine aq (bA ?_)
    walk_at "ex"
    exact q _ st
   |false=>
    refine dD (λh=>absurd h (by decide+kernel)) (λ_=>?_)
    exact aL ⟨⟨_,rfl⟩,rfl,λ_=>rfl,by omega⟩
  |1,_,hx=>
   have hx':x= .str ("still":Str):=(Option.some.inj hx).symm
   subst hx'
   have hb:=hb (by omega)
   subst hb
   refine aq (bx ?_)
   walk_at "ex"
   refine yr (n:=115) (by rw[hsz];decide+kernel) (by decide+kernel) ?_
   walk_at "ex"
   refine dD (λ_=>?_) (λh=>absurd (by decide+kernel) h)
   refine aq (bA ?_)
   walk_at "ex"
   exact q _ st
 .obtain⟨_,_,_,h⟩:=hP
  exact absurd h (by show ¬2<2;omega)
def Jl:Sp:=λvs H Q _=>∃(i:Nat) (m:Int),vs=[.str (Str.ofString (toString (i:Int))),.int m]/\(m=5000\/m=1000000000)/\(i:Int)≤m/\∀H',au H H'->Q (.int (i:Int)) H'
theorem iw(T:Txt K mg):Def P w K mg base true 4 "read_whole" ["word","most"] Jl:=by
 refine uq T (λvs H Q E h=>by obtain⟨i,m,rfl,_⟩:=h;rfl) (λf cdv A outer s H vs Q E hr h=>?_)
 obtain⟨i,m,rfl,hm,him,q⟩:=h
 have nd:=n8.nd
 have D1:= @gU P w K mg base T
 have hp:(10:Nat)^60>1000000000:=by decide
 have hl:=cG (i:=(i:Int)) (k:=10) (by decide) (by have :(10:Nat)^10>1000000000:=by decide
                                                  omega)
 obtain⟨k,hk,hmk,k1,k2⟩:∃k,(Str.ofString (toString m)).length=k/\m<((10^k:Nat):Int)/\1≤k/\k≤600:=by
  rcases hm with rfl |rfl
  .exact⟨4,by decide+kernel,by decide,by omega,by omega⟩
  .exact⟨10,by decide+kernel,by decide,by omega,by omega⟩
 walk_at "A"
 refine⟨_,m,k,rfl,by omega,by omega,by omega,hk,hmk,k1,k2,λH1 iK=>?_⟩
 rw[Yd him]
 refine aj (bx ?_)
 walk_at "ex"
 refine aL (aq (bA ?_))
 walk_at "ex"
 exact q H1 iK
def Qz:Sp:=λvs H Q _=>∃b:Bool,vs=[.str (dN b)]/\Q (.str (qi b)) H
theorem ni(T:Txt K mg):Def P w K mg base true 1 "read_side" ["sign"] Qz:=by
 refine wj T (λvs H Q E h=>by obtain⟨b,rfl,_⟩:=h;rfl) (λf cdv A outer s H vs Q E hr h=>?_)
 obtain⟨b,rfl,q⟩:=h
 have g1:=T.vK
 have g2:=T.tZ
 have g3:=T.Ma
 have g4:=T.Ho
 refine aj (bx ?_)
 walk_at "ex"
 cases b with
 |true=>
  refine dD (λ_=>?_) (λh=>absurd rfl h)
  refine aq (bA ?_)
  walk_at "ex"
  exact q
 |false=>
  refine dD (λh=>absurd h (by decide+kernel)) (λ_=>?_)
  refine aL (aj (bx ?_))
  walk_at "ex"
  refine dD (λ_=>?_) (λh=>absurd rfl h)
  refine aq (bA ?_)
  walk_at "ex"
  exact q
theorem Ge{cs:List bC}{z:Str}(h:∃c∈cs,c.1=z):∃c,cs[bY cs z]? =some c/\c.2=dC cs z:=by
 have hp:=lD h
 refine⟨cs[bY cs z],aak hp,?_⟩
 unfold dC
 rw[aak hp]
theorem bW.O4{cs:List bC}{M:Mk}(h:bW cs M):∀o∈M.os,∃c∈cs,c.1=o.1:=λo ho=>by
 obtain⟨c,hc,e⟩:=adg.mp (h.names o ho)
 exact⟨c,hc,e⟩
theorem Gp(C:Cut):∃n,dN C.ahead=⟨#[n]⟩/\(cW C).cps.toList=n::(Str.join " " (bK C)).cps.toList:=by
 unfold cW
 cases C.ahead
 .exact⟨62,by decide+kernel,by rw[aA,show(dN false).cps.toList=[62]from by decide+kernel];rfl⟩
 .exact⟨60,by decide+kernel,by rw[aA,show(dN true).cps.toList=[60]from by decide+kernel];rfl⟩
theorem YS{cs:List bC}(hc:aQ cs=true){M:Mk}(h:bW cs M):aW 32 (Str.join " " (bK M.cut))=bK M.cut:=by
 refine jO (by simp[bK]) λp hp=>?_
 rcases abO.mp hp with rfl |hp
 .intro hm
  have :=jL (M.cut.row:Int) 32 hm
  omega
 .obtain⟨x,hx,rfl⟩:=adg.mp hp
  exact(h.Ie hc x hx).2.2
def kcs(cs:List bC)(os:List Ord):List bC:=os.map λo=>(o.1,dC cs o.1)
theorem Mf{cs:List bC}:∀{os:List Ord} {xs:List V},gC (λ(o:Ord) x=>pL (dC cs o.1) x) os xs->gC (λ(c:bC) x=>pL c.2 x) (kcs cs os) xs
 |_,_,.nil=>.nil
 |_,_,.cons r t=>.cons r (Mf t)
def Sq:Sp:=λvs H Q _=>∃(a b:Addr) (M:Mk) (cs:List bC),vs=[.ref a,.ref b,.str (cW M.cut)]/\dX H a cs/\uC H b M.os/\aQ cs=true/\bW cs M/\∀p H',au H H'->H p=none->HX H' p M.cut->(∀k v,H' p=some (.tup [.str (qi M.cut.ahead),.ref k])->H' k=some (.tup [.ref v,.int M.cut.row])->H v=none)->Q (.ref p) H'
theorem uN(T:Txt K mg):Def P w K mg base true 7 "read_cut" ["columns","order","text"] Sq:=by
 refine yD T (λvs H Q E h=>by obtain⟨a,b,M,cs,rfl,_⟩:=h;rfl) (λf cdv A outer s H vs Q E hr h=>?_)
 obtain⟨a,b,M,cs,rfl,hC,⟨ws,hb,hws⟩,hc,hM,q⟩:=h
 have nd:=qY.nd
 have g1:=T.tY
 have hsz:=sizeLine_eq
 have Ze:(["name","up","columns"]:List Str).Nodup:=by decide+kernel
 have D1:= @ni P w K mg base T
 have D2:= @iw P w K mg base T
 have D3:= @ou P w K mg base T
 have D4:= @jC P w K mg base T
 have hlen:=sW hc hM
 obtain⟨n,en,ecs⟩:=Gp M.cut
 have eS:bO (cW M.cut) none (some 1)=dN M.cut.ahead:=by
  apply bB
  rw[show bO (cW M.cut) none (some 1)=bO (cW M.cut) none (some ((1:Nat):Int))from rfl,mZ,ecs,en]
  rfl
 have eR:bO (cW M.cut) (some 1) none=Str.join " " (bK M.cut):=by
  apply bB
  have :=lJ (cW M.cut) 1
  rw[show((1:Nat):Int)=1 from rfl]at this
  rw[this,ecs]
  rfl
 have hwl:=hws.len
 have az8:=hM.len
 walk_at "A"
 refine iM (by omega) ?_
 rw[eS]
 walk_at "ex"
 refine⟨M.cut.ahead,rfl,?_⟩
 refine aj ?_
 walk_at "s"
 refine fX F.plainAttrs_str F.slot_str_split F.type_str_split (by rfl) (by rfl) (by rfl) (by rfl) (by rfl) ?_
 walk_at "ex"
 refine iM (by omega) ?_
 rw[eR]
 walk_at "ex"
 obtain⟨kl1,kl2⟩:=jQ hc hM
 have aDx:=DG _ 21 kl1
 have kj:=jy (bK M.cut)
 refine m_split (c:=32) (by omega) λl1 h1=>?_
 rw[YS hc hM]
 obtain⟨s1,e1⟩:=bR h1 (.lst ((bK M.cut).map V.str))
 generalize upd H l1 (.lst ((bK M.cut).map V.str))=H1 at s1 e1⊢
 walk_at "A"
 refine aR (aX.of e1) (show lR ((bK M.cut).map V.str) ((0:Nat):Int)=some (V.str (Str.ofString (toString (M.cut.row:Int))))from bz rfl) ?_
 walk_at "ex"
 refine⟨M.cut.row,1000000000,rfl,.inr rfl,by have :=hM.row;omega,λH2 s2=>?_⟩
 have s12:=s1.trans s2
 refine aj ?_
 refine oU ["name","up","columns"] (σ':=[none,none,some (.ref a)]) (by rfl) (by rfl) (by rfl) (cA (aa fM) (by rfl) (by rfl) (by decide+kernel)) (by intro _;rfl) nd (by rfl) (by rfl) ?_
 walk_at "e"
 refine⟨b,ws,rfl,aX.of (s12 _ _ hb),by omega,λτ=>∃o1 o2,τ=[o1,o2,some (.ref a)],λE2 i u H'=>∃o,M.os[i]? =some o/\u= .str (dC cs o.1),⟨none,none,rfl⟩,λE2 i u H2 H3 ys _ _ p=>p,λfp E2 C s3 H0 i τ x H4 H3 Bm hi hτ qG hys hG=>?_,λE2 H4 ys Bm hl2 hx2 e4 qG=>?_⟩
 .obtain⟨o1,o2,rfl⟩:=hτ
  obtain⟨HD,rfl⟩:=hG
  obtain⟨o,ho,t,rfl,ht⟩:=hws.get HD
  refine dW (by rfl) (by rfl) (by rfl) (dg.of (qG _ _ (s12 _ _ ht))) (by rfl) (aO (by rfl) (aM Ze (by rfl) (.inl rfl) (.inr rfl) (aO (by rfl) (aM Ze (by rfl) (.inl rfl) (.inr rfl) (cR ?_)))))
  walk_at "ex"
  have U3:=(hC.same s12).same qG
  refine⟨a,cs,o.1,rfl,U3,λH5 DR=>?_⟩
  have hio:=hM.O4 o (aaR ho)
  rw[vW 0 hio,aly]
  obtain⟨c,hg,hk⟩:=Ge hio
  obtain⟨vs,ea,avs⟩:=U3.same DR
  obtain⟨cv,gc,tc,rfl,htc⟩:=avs.get' hg
  refine aR (aX.of ea) (bz gc) ?_
  walk_at "ex"
  refine cQ (dg.of htc) (show lR [V.str c.1,V.str c.2] 1=some (V.str c.2)from rfl) ?_
  exact⟨⟨_,_,rfl⟩,⟨o,ho,by rw[hk]⟩,DR⟩
 .have ey:=eN (ys:=M.os) (λo=>V.str (dC cs o.1)) (by rw[hl2,hwl]) hx2
  have Iz:ys=((kcs cs M.os).map Prod.snd).map V.str:=by rw[ey];unfold kcs;rw[agz,agz];rfl
  subst Iz
  have s14:=s12.trans qG
  have e14:=qG _ _ (s2 _ _ e1)
  refine aq (bA ?_)
  walk_at "ex"
  refine KC (aX.of e14) λl2 h2=>?_
  have Uw:yN ((bK M.cut).map V.str) (some 1) none=(M.cut.xs.map wordOf).map V.str:=by
   rw[show(some (1:Int))=some ((1:Nat):Int)from rfl,Cv]
   rfl
  rw[Uw]
  obtain⟨s5,e5⟩:=bR h2 (.lst ((M.cut.xs.map wordOf).map V.str))
  generalize upd H4 l2 (.lst ((M.cut.xs.map wordOf).map V.str))=H5 at s5 e5⊢
  walk_at "ex"
  refine⟨E2,l2,kcs cs M.os,M.cut.xs,rfl,s5 _ _ e4,e5,by unfold kcs;rw[aar];omega,λc hcm=>?_,Mf hM.vals,λv H6 s6 hv ev=>?_⟩
  .obtain⟨o,ho,rfl⟩:=adg.mp hcm
   exact Av hc (hM.names o ho)
  walk_at "ex"
  refine⟨by show 2≤sizeLine;omega,λk hk=>?_⟩
  obtain⟨s7,e7⟩:=bR hk (.tup [.ref v,.int M.cut.row])
  generalize upd H6 k (.tup [.ref v,.int M.cut.row])=H7 at s7 e7⊢
  walk_at "ex"
  refine⟨by show 2≤sizeLine;omega,λp hp=>?_⟩
  have s8:au H7 (upd H7 p (.tup [.str (qi M.cut.ahead),.ref k])):=au.upd hp
  have s06:=s14.trans (s5.trans s6)
  have hv0:H v=none:=(s14.trans s5).free hv
  refine q p _ (s06.trans (s7.trans s8)) ((s06.trans s7).free hp) ⟨k,v,ao,s8 _ _ e7,s8 _ _ (s7 _ _ ev)⟩ λk' v' z1 z2=>?_
  rw[ao]at z1
  injection z1 with z1
  injection z1 with z1
  injection z1 with _ z1
  injection z1 with z1 _
  injection z1 with z1
  subst z1
  rw[s8 _ _ e7]at z2
  injection z2 with z2
  injection z2 with z2
  injection z2 with z2 _
  injection z2 with z2
  subst z2
  exact hv0
def Qg:Sp:=λvs H Q _=>∃(a:Addr) (M:Mk) (cs:List bC),vs=[.ref a,.str (bL M)]/\dX H a cs/\aQ cs=true/\bW cs M/\∀p o c k v H',au H H'->H' p=some (.tup [.str (oG M.living),.int M.moment,.ref o,.str M.sieve,.ref c])->H o=none->uC H' o M.os->H' c=some (.tup [.str (qi M.cut.ahead),.ref k])->H' k=some (.tup [.ref v,.int M.cut.row])->H v=none->H' v=some (.lst M.cut.xs)->o≠v->Q (.ref p) H'
theorem rm(T:Txt K mg):Def P w K mg base true 51 "read_body" ["columns","body"] Qg:=by
 refine vq T (λvs H Q E h=>by obtain⟨a,M,cs,rfl,_⟩:=h;rfl) (λf cdv A outer s H vs Q E hr h=>?_)
 obtain⟨a,M,cs,rfl,hC,hc,hM,q⟩:=h
 have nd:=pq.nd
 have g1:=T.Dm
 have g2:=T.Nv
 have g3:=T.G6
 have n1:=T.jr
 have hsz:=sizeLine_eq
 obtain⟨t,hdp,hrd⟩:=hM.reads
 have D1:= @nq P w K mg base T
 have D2:= @iw P w K mg base T
 have D3:= @kY P w K mg base T
 have D4:= @tW P w K mg base T t
 have D5:= @uN P w K mg base T
 obtain⟨M2,kc,na⟩:=Mq (P:=P) (w:=w) (base:=base) T t
 obtain⟨b1,b2⟩:=mK hc hM
 refine aj ?_
 walk_at "s"
 refine fX F.plainAttrs_str F.slot_str_split F.type_str_split (by rfl) (by rfl) (by rfl) (by rfl) (by rfl) ?_
 walk_at "ex"
 refine m_split (c:=47) (by omega) λl1 h1=>?_
 rw[vf hc hM]
 obtain⟨s1,e1⟩:=bR h1 (.lst ((cO M).map V.str))
 generalize upd H l1 (.lst ((cO M).map V.str))=H1 at s1 e1⊢
 have Lg:aX K H1 l1 ((cO M).map V.str):=aX.of e1
 refine aj (bx ?_)
 walk_at "ex"
 refine O2 (λh=>absurd rfl h) (λ_=>?_)
 refine aL (aj ?_)
 walk_at "s"
 walk_at "ex"
 refine aR Lg (i:=0) rfl ?_
 walk_at "ex"
 refine⟨M.living,rfl,λH2 s2=>?_⟩
 walk_at "A"
 refine aR (s2.seq Lg) (i:=1) rfl ?_
 walk_at "ex"
 refine⟨M.moment,5000,rfl,.inl rfl,by have :=hM.moment;omega,λH3 s3=>?_⟩
 have Wq:=s2.trans s3
 walk_at "A"
 refine aR (Wq.seq Lg) (i:=2) rfl ?_
 walk_at "ex"
 have hro:iB cs (iU M.os)=some M.os:=Cq hM.len hM.nodup hM.O4 λo ho hm=>by
  have hn:=gk hc (hM.names o ho)
  unfold isName jo at hn
  rw[aaP,adt]at hn
  exact absurd (of_decide_eq_true (hn.2 32 hm)) (by decide+kernel)
 refine⟨a,cs,iU M.os,rfl,hC.same (s1.trans Wq),(by have :=vZ hc hM;omega),(λH' sm e=>by rw[hro]at e;cases e),λo os H4 s4 eo ho hO=>?_⟩
 rw[hro]at eo
 cases eo
 have Wl:=Wq.trans s4
 have ho0:H o=none:=(s1.trans Wq).free ho
 walk_at "A"
 refine aR (Wl.seq Lg) (i:=3) rfl ?_
 walk_at "ex"
 refine⟨a,cs,M.sieve,rfl,hC.same (s1.trans Wl),(by have :=hM.short;omega),(λy hy=>by have :=hM.words y hy;omega),hdp,hrd,λsv H5 s5 hsv=>?_⟩
 have s25:=Wl.trans s5
 have ebt:mV (aW 32 M.sieve) 0 (aW 32 M.sieve).length=M.sieve:=by
  unfold mV
  rw[aj6,alj,aj4,HQ]
 rw[ebt]at hsv
 obtain⟨dx,fs,es,et,esh⟩:=hsv.txt
 refine aq (bA ?_)
 walk_at "ex"
 refine HH (pl:=_) hr bF (by rfl) ?_
 walk_at "e"
 refine⟨sv,Ip mg t,dx,_,true,1,_,zr K,rfl,es,esh,M2,by decide,id,sv,Ip mg t,dx,fs,_,rfl,es,kc,na,et,?_⟩
 walk_at "ex"
 refine aR (s25.seq Lg) (i:=4) rfl ?_
 walk_at "ex"
 refine⟨a,o,M,cs,rfl,hC.same (s1.trans s25),hO.same s5,hc,hM,λc H6 s6 hc0 Br hv=>?_⟩
 walk_at "ex"
 refine⟨by show 5≤sizeLine;omega,λp hp=>?_⟩
 obtain⟨k,v,z1,z2,z3⟩:=Br
 have s7:au H6 (upd H6 p (.tup [.str (oG M.living),.int M.moment,.ref o,.str M.sieve,.ref c])):=au.upd hp
 have s05:=s1.trans s25
 have hv5:=hv k v z1 z2
 obtain⟨ws,eo,_⟩:=hO.same s5
 refine q p o c k v _ (s05.trans (s6.trans s7)) ao ho0 ((hO.same s5).same (s6.trans s7)) (s7 _ _ z1) (s7 _ _ z2) (s05.free hv5) (s7 _ _ z3) λe=>?_
 rw[<-e,eo]at hv5
 cases hv5
def Qf:Sp:=λvs H Q _=>∃(a:Addr) (M:Mk) (cs:List bC),vs=[.ref a,.str (gR M)]/\dX H a cs/\aQ cs=true/\bW cs M/\∀p o c k v H',au H H'->H' p=some (.tup [.str (oG M.living),.int M.moment,.ref o,.str M.sieve,.ref c])->H o=none->uC H' o M.os->H' c=some (.tup [.str (qi M.cut.ahead),.ref k])->H' k=some (.tup [.ref v,.int M.cut.row])->H v=none->H' v=some (.lst M.cut.xs)->o≠v->Q (.ref p) H'
theorem qK(T:Txt K mg):Def P w K mg base true 52 "read_mark" ["columns","text"] Qf:=by
 refine pM T (λvs H Q E h=>by obtain⟨a,M,cs,rfl,_⟩:=h;rfl) (λf cdv A outer s H vs Q E hr h=>?_)
 obtain⟨a,M,cs,rfl,hC,hc,hM,q⟩:=h
 have nd:=kZ.nd
 have g1:=T.JQ
 have hsz:=sizeLine_eq
 have D1:= @rm P w K mg base T
 have D2:= @jl P w K mg base T
 obtain⟨b1,b2⟩:=mK hc hM
 have hb:=gb (bL M).cps.toList
 have hf:=lL (bu (bL M).cps.toList) (by omega) (by omega)
 have lp:(".":Str).length=1:=by decide+kernel
 refine aj (eQ (by rfl) (by rfl) ?_)
 refine fX PySem.F.plainAttrs_str PySem.F.slot_str_rpartition PySem.F.type_str_rpartition (by rfl) (by rfl) (by rfl) (by rfl) (by rfl) ?_
 walk_at "ex"
 refine Ec (c:=46) (by unfold gR;rw[len_app,len_app];omega) λt ht=>?_
 have p1:(Txt.rpartition (gR M) ⟨#[46]⟩).1=bL M:=by rw[uH]
 have p2:(Txt.rpartition (gR M) ⟨#[46]⟩).2.1=⟨#[46]⟩:=by rw[uH]
 have p3:(Txt.rpartition (gR M) ⟨#[46]⟩).2.2=cD (bu (bL M).cps.toList):=by rw[uH]
 rw[p1,p2,p3]
 refine dW (by rfl) (by rfl) (by rfl) (dg.of ao) (by rfl) (aO (by rfl) (aM nd (by rfl) (.inl rfl) (.inl rfl) (aO (by rfl) (aM nd (by rfl) (.inl rfl) (.inl rfl) (aO (by rfl) (aM nd (by rfl) (.inl rfl) (.inl rfl) (cR ?_)))))))
 have s1:au H (upd H t (.tup [.str (bL M),.str ⟨#[46]⟩,.str (cD (bu (bL M).cps.toList))])):=au.upd ht
 generalize upd H t (.tup [.str (bL M),.str ⟨#[46]⟩,.str (cD (bu (bL M).cps.toList))])=H1 at s1⊢
 refine aj (bx ?_)
 walk_at "ex"
 refine dD (λh=>absurd h (by decide+kernel)) (λ_=>?_)
 walk_at "ex"
 refine⟨bL M,rfl,by omega,pA hc hM,?_⟩
 generalize cD (bu (bL M).cps.toList)=fz
 walk_at "ex"
 refine O2 (λh=>absurd rfl h) (λ_=>?_)
 refine aL (aq ?_)
 refine Bg (λ_ _ _ _=>False) rfl rfl (λF pn xo po=>?_) (λσ c d H' hK=>hK.elim)
 refine aq (bA ?_)
 walk_at "ex"
 exact⟨a,M,cs,rfl,hC.same s1,hc,hM,λp o c k v H' sm z1 z2 z3 z4 z5 z6 z7 z8=>q p o c k v H' (s1.trans sm) z1 (s1.free z2) z3 z4 z5 (s1.free z6) z7 z8⟩
theorem Ih{α:Type} [BEq α] [LawfulBEq α]:∀{l m:List α},l.Nodup->(∀x∈l,x∈m)->l.length≤m.length
 |[],m,_,_=>ahE _
 |a::r,m,h,s=>by
  have h':=ai6.mp h
  have ha:=s a (aeH ..)
  have hle:=Ih (l:=r) (m:=m.erase a) h'.2 λx hx=>(List.mem_erase_of_ne (λe=>h'.1 (by subst e;exact hx))).mpr (s x (aeA _ hx))
  rw[List.length_erase_of_mem ha]at hle
  have :=aog ha
  rw[List.length_cons]
  omega
def okO(cs:List bC)(os:List Ord):Prop:=os.length≤4/\(os.map Prod.fst).Nodup/\∀o∈os,o.1∈cs.map Prod.fst
def oK(cs:List bC)(os:List Ord)(i:Nat):Bool:=match cs[i]? with
 |some c=>decide (c.1∉os.map Prod.fst)
 |none=>false
def lW(cs:List bC)(i:Nat):V:=match cs[i]? with
 |some c=>.str c.1
 |none=>.non
theorem Fz{z:Str}:∀{ys:List Str},(!Fx (V.str z) (ys.map V.str))=decide (z∉ys)
 |[]=>by simp[Fx]
 |y::ys=>by
  have ih:=Fz (z:=z) (ys:=ys)
  have e:Fx (V.str z) ((y::ys).map V.str)=((y==z)||Fx (V.str z) (ys.map V.str)):=rfl
  rw[e]
  by_cases h:y=z
  .subst h
   simp
  .have h1:(y==z)=false:=by simpa using h
   rw[h1,ark,ih]
   have h2:z≠y:=λe=>h e.symm
   simp[h2]
theorem Rw{cs:List bC}{os:List Ord}(hn:(cs.map Prod.fst).Nodup)(ho:(os.map Prod.fst).Nodup)(hlt:os.length<cs.length):0<(gr (oK cs os) (lW cs) cs.length).length:=by
 have ex:∃c∈cs,c.1∉os.map Prod.fst:=by
  refine Classical.byContradiction λh=>?_
  have hall:∀z∈cs.map Prod.fst,z∈os.map Prod.fst:=λz hz=>by
   obtain⟨c,hc,rfl⟩:=adg.mp hz
   exact Classical.byContradiction λhh=>h ⟨c,hc,hh⟩
  have :=Ih hn hall
  rw[aar,aar]at this
  omega
 obtain⟨c,hc,hno⟩:=ex
 obtain⟨i,hi,e⟩:=ajv hc
 have hm:i∈(agj cs.length).filter (oK cs os):=by
  rw[ajV]
  refine⟨alD.mpr hi,?_⟩
  unfold oK
  rw[aak hi,e]
  exact decide_eq_true hno
 unfold gr
 rw[aar]
 exact aog hm
theorem Wh{cs:List bC}{os:List Ord}{k:Nat}{v:V}(h:(gr (oK cs os) (lW cs) cs.length)[k]? =some v):∃c∈cs,v= .str c.1/\c.1∉os.map Prod.fst:=by
 unfold gr at h
 rw[aby]at h
 cases e:((agj cs.length).filter (oK cs os))[k]? with
 |none=>rw[e]at h;cases h
 |some i=>
  rw[e]at h
  have hm:=aaR e
  rw[ajV]at hm
  have hi:=alD.mp hm.1
  have h2:=hm.2
  unfold oK at h2
  rw[aak hi]at h2
  refine⟨cs[i],aeF hi,?_,of_decide_eq_true h2⟩
  have h3:lW cs i=v:=Option.some.inj h
  rw[<-h3]
  unfold lW
  rw[aak hi]
def R1(K:acF):Sp:=λvs H Q _=>∃(a:Addr) (ns:List Int) (b:Int) (c:Addr) (cs:List bC),vs=[.ref a,.int b,.ref c]/\aX K H a (ns.map V.int)/\ns.length≤63/\0≤b/\b≤40000/\dX H c cs/\aQ cs=true/\∀p os H',au H H'->H p=none->uC H' p os->okO cs os->Q (.ref p) H'
theorem pC(T:Txt K mg):Def P w K mg base true 2 "_law_order" ["_law_script","_law_base","_law_columns_here"] (R1 K):=by
 refine Bw T (λvs H Q E h=>by obtain⟨a,ns,b,c,cs,rfl,_⟩:=h;rfl) (λf cdv A outer s H vs Q E hr h=>?_)
 obtain⟨a,ns,b,c,cs,rfl,hS,hl,hb0,hb1,⟨vs,hc,hvs⟩,hok,q⟩:=h
 have nd:=um.nd
 have n1:=T.vg
 have n2:=T.jr
 have n3:=T.agq
 have hsz:=sizeLine_eq
 have Yz:(["_law_one","_law_order_here"]:List Str).Nodup:=by decide+kernel
 have Wo:(["_law_two"]:List Str).Nodup:=by decide+kernel
 have D1:= @bZ P w K mg base T
 have hvl:=hvs.len
 have hok':=hok
 unfold aQ at hok'
 simp only[aaP,decide_eq_true_eq]at hok'
 obtain⟨⟨⟨c1,c6⟩,_⟩,hcn⟩:=hok'
 have sqc:aX K H c vs:=aX.of hc
 walk_at "A"
 refine⟨by show 0≤sizeLine;omega,λp hp=>?_⟩
 obtain⟨OJ,ep⟩:=bR hp (.lst [])
 generalize upd H p (.lst [])=H0 at OJ ep⊢
 have aDY:=OJ.seq sqc
 refine aj ?_
 refine Fg (by walk_at "po") (by rfl) (by rfl) n1 (by rfl) ?_
 walk_at "ex"
 refine⟨a,ns,b,5,rfl,OJ.seq hS,hl,by omega,by omega,by decide,?_⟩
 have d0:=aV ns b (m:=5) (by decide)
 have d1:=aU ns b (m:=5) (by decide)
 generalize cj ns b 5=dn at d0 d1⊢
 walk_at "ex"
 refine aec (by rfl) λm hm0 hm1 hm2 hm3=>?_
 have m0:0≤m:=by omega
 walk_at "ex"
 refine⟨by omega,by omega,λi σ H'=>(∃o1 o2,σ=[some (.ref a),some (.int b),some (.ref c),some (.ref p),o1,o2])/\au H H'/\∃os:List Ord,uC H' p os/\os.length=i/\(os.map Prod.fst).Nodup/\∀o∈os,o.1∈cs.map Prod.fst,
  ⟨⟨none,none,rfl⟩,OJ,[],⟨[],ep,.nil⟩,rfl,.nil,by simp⟩,λi σ H' hi hP=>?_,λσ H' hP=>?_⟩
 .obtain⟨⟨o1,o2,rfl⟩,sm,os,⟨ws,hp',hws⟩,hol,hon,hin⟩:=hP
  have hwl:=hws.len
  have hi':(i:Int)<m:=by omega
  have hS':=sm.seq hS
  have hilt:os.length<cs.length:=by omega
  have hle:=Rw hcn hon hilt
  refine aM nd (by rfl) (.inl rfl) (.inl rfl) ?_
  refine aj ?_
  refine VG ["_law_one","_law_order_here"] (σ':=[none,some (.ref p)]) (by rfl) (by rfl) (by rfl) (cA (aa dJ) (by rfl) (by rfl) (by decide+kernel)) (by intro _;rfl) nd (by rfl) (by rfl) ?_
  walk_at "ex"
  refine⟨c,vs,rfl,sm.seq sqc,by omega,λτ=>∃o1,τ=[o1,some (.ref p)],oK cs os,lW cs,⟨none,rfl⟩,λfp E2 C s3 H0' j τ x H2 Bm hx hτ gh=>?_,λL H2 hL eL gh=>?_⟩
  .obtain⟨o1,rfl⟩:=hτ
   obtain⟨cc,hcc,t,rfl,ht⟩:=hvs.get hx
   have ZX:=gh _ _ (sm _ _ ht)
   refine aM Yz (by rfl) (.inl rfl) (.inr rfl) ?_
   walk_at "ex"
   refine cQ (dg.of ZX) (show lR [V.str cc.1,V.str cc.2] 0=some (V.str cc.1)from rfl) ?_
   refine zF ["_law_two"] (σ':=[none]) (by rfl) (by rfl) (cA _ (by rfl) (by rfl) (by rfl)) (by intro _;rfl) ?_
   walk_at "ex"
   refine⟨p,ws,rfl,aX.of (gh _ _ hp'),by omega,λτ=>∃o1,τ=[o1],λE3 i u H'=>∃o,os[i]? =some o/\u= .str o.1,⟨none,rfl⟩,λE3 i u H2 H3 ys _ _ p=>p,λfp3 E3 C3 s33 H03 i3 τ3 x3 H43 H33 hE3 hi3 hτ3 Xm aDK hG3=>?_,λE3 H43 ys3 hE3 hl3 HD e43 Xm=>?_⟩
   .obtain⟨o1,rfl⟩:=hτ3
    obtain⟨hx4,rfl⟩:=hG3
    obtain⟨oo,hoo,t3,rfl,ht3⟩:=hws.get hx4
    refine aM Wo (by rfl) (.inl rfl) (.inr rfl) ?_
    walk_at "ex"
    refine cQ (dg.of (Xm _ _ (gh _ _ ht3))) (show lR [V.str oo.1,V.bl oo.2] 0=some (V.str oo.1)from rfl) ?_
    exact⟨⟨_,rfl⟩,⟨oo,hoo,rfl⟩,au.refl _⟩
   .have ey:=eN (ys:=os) (λo=>V.str o.1) (by rw[hl3,hwl]) HD
    have Iz:ys3=(os.map Prod.fst).map V.str:=by rw[ey,agz];rfl
    subst Iz
    refine Vk (aX.of e43) (by rfl) (by rw[atq];exact adt.mpr λ_ _=>rfl) ?_
    refine⟨_,rfl,?_⟩
    refine⟨?_,⟨_,rfl⟩,Xm,λhk=>?_⟩
    .unfold oK
     rw[hcc,Fz]
    .walk_at "ex"
     refine cQ (dg.of (Xm _ _ ZX)) (show lR [V.str cc.1,V.str cc.2] 0=some (V.str cc.1)from rfl) ?_
     refine⟨?_,au.refl _⟩
     unfold lW
     rw[hcc]
  .have vp:=sm.trans gh
   have hp2:=gh _ _ hp'
   have WK:aX K H2 L (gr (oK cs os) (lW cs) vs.length):=aX.of eL
   rw[hvl]at WK
   have hkl:=Df (oK cs os) (lW cs) cs.length
   refine aq (eU (by rfl) (fX F.plainAttrs_list F.slot_list_append F.type_list_append (by rfl) (by rfl) (by rfl) (by rfl) (by rfl) ?_))
   walk_at "e"
   refine⟨.inl ⟨rfl,_,aX.of hp2⟩,?_⟩
   walk_at "ex"
   refine⟨a,ns,_,_,rfl,vp.seq hS,hl,by omega,by omega,by omega,?_⟩
   have k0:=aV ns (b+1+(i:Int)) (m:=((gr (oK cs os) (lW cs) cs.length).length:Int)) (by omega)
   have k1:=aU ns (b+1+(i:Int)) (m:=((gr (oK cs os) (lW cs) cs.length).length:Int)) (by omega)
   obtain⟨k,ek⟩:=aaA k0
   rw[ek]at k1⊢
   have hk:k<(gr (oK cs os) (lW cs) cs.length).length:=by omega
   obtain⟨cc,hcc,ZW,hno⟩:=Wh (aak hk)
   refine aR WK (bz (by rw[aak hk,ZW])) ?_
   walk_at "ex"
   refine⟨a,ns,_,2,rfl,vp.seq hS,hl,by omega,by omega,by decide,?_⟩
   walk_at "ex"
   refine⟨by show 2≤sizeLine;omega,λtp htp=>?_⟩
   generalize decide (V.int (cj ns (b+6+(i:Int)) 2)=V.int 0)=up at htp⊢
   obtain⟨wO,etp⟩:=bR htp (.tup [.str cc.1,.bl up])
   generalize upd H2 tp (.tup [.str cc.1,.bl up])=H5 at wO etp⊢
   walk_at "ex"
   have ep5:H5 p=some (.lst ws):=wO _ _ hp2
   refine j9 lK ⟨p,ws,_,rfl,rfl,ep5,by omega,?_⟩
   refine⟨⟨_,_,rfl⟩,λd o e=>?_,os++[(cc.1,up)],⟨ws++[.ref tp],ao,gC.app (hws.imp λu c x=>?_) (.cons ?_ .nil)⟩,by simp[hol],?_,λo ho=>?_⟩
   .rw[aF (aB e hp)]
    exact wO _ _ (vp _ _ e)
   .obtain⟨tq,rfl,hq⟩:=x
    have hne:tq≠p:=λe=>by subst e;rw[hp']at hq;cases hq
    exact⟨tq,rfl,by rw[aF hne];exact wO _ _ (gh _ _ hq)⟩
   .have hne:tp≠p:=λe=>by subst e;rw[ep5]at etp;cases etp
    exact⟨tp,rfl,by rw[aF hne];exact etp⟩
   .rw[agi]
    refine ar7.mpr ⟨hon,by simp,λx hx y hy=>?_⟩
    have :y=cc.1:=by simpa using hy
    subst this
    exact λe=>hno (e▸hx)
   .rcases aeC.mp ho with ho |ho
    .exact hin o ho
    .have :o=(cc.1,up):=by simpa using ho
     subst this
     exact adg.mpr ⟨cc,hcc,rfl⟩
 .obtain⟨⟨o1,o2,rfl⟩,sm,os,hO,hol,hon,hin⟩:=hP
  refine aq (bA ?_)
  walk_at "ex"
  have hol':os.length=m.toNat:=by simpa using hol
  exact q p os H' sm hp hO ⟨by omega,hon,hin⟩
theorem M8:XH.cps.toList=List.range' 97 26:=by decide+kernel
theorem adn(c:Nat):c∈XH.cps.toList↔97≤c/\c≤122:=by
 rw[M8,List.mem_range'_1]
 omega
theorem R7{k:Nat}(h:k<26):XH.cps.toList[k]? =some (97+k):=by
 rw[M8,List.getElem?_range' h]
 simp
theorem Ot{z:Str}(h1:1≤z.length)(h8:z.length≤8)(h:∀c∈z.cps.toList,97≤c/\c≤122):isName z=true:=by
 unfold isName jo
 rw[aaP,decide_eq_true_eq,adt]
 exact⟨⟨h1,h8⟩,λc hc=>decide_eq_true ((adn c).mpr (h c hc))⟩
def Io(W:Str)(at_ first size way j:Nat):Str:=
 if way=0 then bO W none (some (at_:Int))++⟨#[97+(first+j) % 26]⟩++bO W (some ((at_+1:Nat):Int)) none else
 if way=1 then bO W none (some ((j+1:Nat):Int))else(⟨#[97+(first+j) % 26]⟩:Str)++bO W none (some (size:Int))
theorem NZ{W:Str}{at_ first size j:Nat}(hW:W.length=8)(ha:at_<8):(Io W at_ first size 0 j).cps.toList=W.cps.toList.take at_++(97+(first+j) % 26)::W.cps.toList.drop (at_+1):=by
 have hl:=L2.len_list W
 unfold Io
 rw[if_pos rfl,aA,aA,mZ,sI,aex]
 show _++([_]++_)=_
 rw[HT.zA,akt (by omega)]
 congr 1
 show(97+(first+j) % 26)::List.take (W.length-(at_+1)) _=_
 rw[afM (by rw[afr];omega)]
theorem Ny{W:Str}{at_ first size j:Nat}:(Io W at_ first size 1 j).cps.toList=W.cps.toList.take (j+1):=by
 unfold Io
 rw[if_neg (by decide),if_pos rfl,mZ]
theorem Mm{W:Str}{at_ first size way j:Nat}(h0:way≠0)(h1:way≠1):(Io W at_ first size way j).cps.toList=(97+(first+j) % 26)::W.cps.toList.take size:=by
 unfold Io
 rw[if_neg h0,if_neg h1,aA,mZ]
 rfl
theorem YD{W:Str}{at_ first size way j:Nat}(hW:W.length=8)(ha:at_<8)(hs:size<8)(hj:j<6):1≤(Io W at_ first size way j).length/\(Io W at_ first size way j).length≤8:=by
 have hl:=L2.len_list W
 rw[L2.len_list (Io W at_ first size way j)]
 by_cases h0:way=0
 .subst h0
  rw[NZ hW ha,ace,List.length_cons,afm,afr]
  omega
 .by_cases h1:way=1
  .subst h1
   rw[Ny,afm]
   omega
  .rw[Mm h0 h1,List.length_cons,afm]
   omega
theorem acg{W:Str}{at_ first size way j:Nat}(hW:W.length=8)(ha:at_<8)(hw:∀c∈W.cps.toList,97≤c/\c≤122):∀c∈(Io W at_ first size way j).cps.toList,97≤c/\c≤122:=by
 intro c hc
 have hm:=Nat.mod_lt (first+j) (show 0<26 by decide)
 by_cases h0:way=0
 .subst h0
  rw[NZ hW ha]at hc
  rcases aeC.mp hc with h |h
  .exact hw c (afx h)
  .rcases abO.mp h with h |h
   .omega
   .exact hw c (ahg h)
 .by_cases h1:way=1
  .subst h1
   rw[Ny]at hc
   exact hw c (afx hc)
  .rw[Mm h0 h1]at hc
   rcases abO.mp hc with h |h
   .omega
   .exact hw c (afx h)
theorem Zq{W:Str}{at_ first s1 s2 way i j:Nat}(hW:W.length=8)(ha:at_<8)(hi:i<6)(hj:j<6)(e:Io W at_ first s1 way i=Io W at_ first s2 way j):i=j:=by
 have hl:=L2.len_list W
 have e':=congrArg (λz:Str=>z.cps.toList) e
 by_cases h0:way=0
 .subst h0
  rw[NZ hW ha,NZ hW ha]at e'
  have h1:=(List.append_inj e' rfl).2
  injection h1 with h2 _
  omega
 .by_cases h1:way=1
  .subst h1
   rw[Ny,Ny]at e'
   have :=congrArg akv e'
   rw[afm,afm]at this
   omega
  .rw[Mm h0 h1,Mm h0 h1]at e'
   injection e' with h2 _
   omega
theorem Od{cs:List bC}(h1:1≤cs.length)(h6:cs.length≤6)(hn:(cs.map Prod.fst).Nodup)(h:∀c∈cs,isName c.1=true/\(c.2="number"\/c.2="text")):aQ cs=true:=by
 unfold aQ yc
 rw[aaP,aaP,decide_eq_true_eq,decide_eq_true_eq,adt]
 exact⟨⟨⟨h1,h6⟩,λc hc=>by rw[(h c hc).1,decide_eq_true (h c hc).2];rfl⟩,hn⟩
theorem QL{α β:Type}{R:α->β->Prop}{l:List α}{m:List β}{a:α}{b:β}(h:gC R l m)(r:R a b):gC R (l++[a]) (m++[b]):=by
 induction h with
 |nil=>exact .cons r .nil
 |cons h _ ih=>exact .cons h ih
theorem Q0{α β:Type}{R S:α->β->Prop}{l:List α}{m:List β}(h:gC R l m)(f:∀a b,R a b->S a b):gC S l m:=by
 induction h with
 |nil=>exact .nil
 |cons h _ ih=>exact .cons (f _ _ h) ih
def YG(K:acF):Sp:=λvs H Q _=>∃(a:Addr) (ns:List Int) (b m:Int),vs=[.ref a,.int b,.int m]/\aX K H a (ns.map V.int)/\ns.length≤63/\0≤b/\b≤40000/\1≤m/\m≤6/\∀p cs H',au H H'->H p=none->dX H' p cs->aQ cs=true->Q (.ref p) H'
def JP(W:Str)(at_ first way:Nat)(H:Hp)(p:Addr)(j:Nat):Prop:=∃cs:List bC,dX H p cs/\cs.length=j/\(∀(i:Nat) c,cs[i]? =some c->(∃sz,sz<8/\c.1=Io W at_ first sz way i)/\(c.2="number"\/c.2="text"))
theorem JP.ok{W:Str}{at_ first way:Nat}{H:Hp}{p:Addr}{j:Nat}(hW:W.length=8)(ha:at_<8)(hw:∀c∈W.cps.toList,97≤c/\c≤122)(h1:1≤j)(h6:j≤6)(h:JP W at_ first way H p j):∃cs,dX H p cs/\aQ cs=true:=by
 obtain⟨cs,hC,hl,hg⟩:=h
 refine⟨cs,hC,Od (by omega) (by omega) ?_ λc hc=>?_⟩
 .unfold List.Nodup
  rw[amq]
  intro i k hi hk hik e
  rw[aar]at hi hk
  rw[at5,at5]at e
  obtain⟨⟨s1,_,e1⟩,_⟩:=hg i _ (aak hi)
  obtain⟨⟨s2,_,e2⟩,_⟩:=hg k _ (aak hk)
  rw[e1,e2]at e
  have :=Zq hW ha (by omega) (by omega) e
  omega
 .obtain⟨i,hi,e⟩:=ajv hc
  obtain⟨⟨sz,hs,e1⟩,hk⟩:=hg i c (by rw[aak hi,e])
  have :=YD (first:=first) (way:=way) hW ha hs (show i<6 by omega)
  rw[<-e1]at this
  refine⟨Ot this.1 this.2 ?_,hk⟩
  rw[e1]
  exact acg hW ha hw
theorem my(T:Txt K mg):Def P w K mg base true 2 "_law_columns" ["_law_script","_law_base","_law_most"] (YG K):=by
 refine yO T (λvs H Q E h=>by obtain⟨a,ns,b,m,rfl,_⟩:=h;rfl) (λf cdv A outer s H vs Q E hr h=>?_)
 obtain⟨a,ns,b,m,rfl,hS,hl,hb0,hb1,hm0,hm1,q⟩:=h
 have nd:=qp.nd
 have n1:=T.vg
 have hsz:=sizeLine_eq
 have D1:= @bZ P w K mg base T
 have aAT:XH.length=26:=by decide+kernel
 refine aj ?_
 walk_at "go"
 refine Ib ["_law_k","_law_base","_law_letters","_law_script"] (σ':=[none,some (.int b),some (.str XH),some (.ref a)]) (by rfl) (by rfl) (cA (aa cV) (by rfl) (by rfl) (by decide+kernel)) (by decide+kernel) (by rfl) (by rfl) (by rfl) n1 (by rfl) ?_
 walk_at "e"
 refine⟨8,rfl,by omega,by omega,λi v=>v= .str ⟨#[97+(cj ns (b+(i:Int)) 26).toNat]⟩,λfp E' C s3 H0 i H2 hi sm=>?_,λE' H1 xs hE hl2 hx e2 iK=>?_⟩
 .walk_at "go"
  have hi8:i<8:=by simpa using hi
  refine⟨a,ns,b+i,26,rfl,sm.seq hS,hl,by omega,by omega,by decide,?_⟩
  have h1:=aV ns (b+i) (m:=26) (by decide)
  have h2:=aU ns (b+i) (m:=26) (by decide)
  refine yr (by omega) (n:=97+(cj ns (b+(i:Int)) 26).toNat) ?_ ⟨rfl,au.refl _⟩
  have e:cj ns (b+(i:Int)) 26=(((cj ns (b+(i:Int)) 26).toNat:Nat):Int):=by omega
  have h3:=bz (R7 (k:=(cj ns (b+(i:Int)) 26).toNat) (by omega))
  rw[<-e]at h3
  exact h3
 .have ex:=eN (ys:=agj 8) (λi:Nat=>V.str ⟨#[97+(cj ns (b+(i:Int)) 26).toNat]⟩) (by rw[hl2,akx];rfl) (λi v e=>⟨i,?_,hx i v e⟩)
  .have ex2:xs=(((agj 8).map λi:Nat=>97+(cj ns (b+(i:Int)) 26).toNat).map λc=>(⟨#[c]⟩:Str)).map V.str:=by
    rw[ex,agz,agz]
    rfl
   subst ex2
   walk_at "go"
   refine xq (aX.of e2) ?_ ?_
   .have e0:("":Str).length=0:=by decide+kernel
    rw[Bf,aar,aar,akx,e0]
    omega
   rw[uZ]
   have hwl:(⟨((agj 8).map λi:Nat=>97+(cj ns (b+(i:Int)) 26).toNat).toArray⟩:Str).length=8:=by rw[L2.len_list];simp
   have hwc:∀c∈(⟨((agj 8).map λi:Nat=>97+(cj ns (b+(i:Int)) 26).toNat).toArray⟩:Str).cps.toList,97≤c/\c≤122:=λc hc=>by
    have hc':c∈(agj 8).map λi:Nat=>97+(cj ns (b+(i:Int)) 26).toNat:=by simpa using hc
    obtain⟨i,_,rfl⟩:=adg.mp hc'
    have h1:=aV ns (b+i) (m:=26) (by decide)
    have h2:=aU ns (b+i) (m:=26) (by decide)
    omega
   generalize(⟨((agj 8).map λi:Nat=>97+(cj ns (b+(i:Int)) 26).toNat).toArray⟩:Str)=W at hwl hwc⊢
   refine aj ?_
   walk_at "go"
   refine⟨a,ns,b+10,3,rfl,iK.seq hS,hl,by omega,by omega,by decide,?_⟩
   have w0:=aV ns (b+10) (m:=3) (by decide)
   have w1:=aU ns (b+10) (m:=3) (by decide)
   obtain⟨way,ew⟩:=aaA w0
   rw[ew]at w1⊢
   walk_at "go"
   refine⟨a,ns,b+11,8,rfl,iK.seq hS,hl,by omega,by omega,by decide,?_⟩
   have a0:=aV ns (b+11) (m:=8) (by decide)
   have a1:=aU ns (b+11) (m:=8) (by decide)
   obtain⟨at_,ea⟩:=aaA a0
   rw[ea]at a1⊢
   walk_at "go"
   refine⟨by show 0≤sizeLine;omega,λp hp=>?_⟩
   have pn:H p=none:=iK.free hp
   have OJ:au H (upd H1 p (.lst [])):=iK.trans (au.upd hp)
   have ep:(upd H1 p (.lst [])) p=some (.lst []):=ao
   generalize upd H1 p (.lst [])=H2 at OJ ep⊢
   have f0:=aV ns (b+13) (m:=26) (by decide)
   have f1:=aU ns (b+13) (m:=26) (by decide)
   obtain⟨fi,ef⟩:=aaA f0
   have hat:at_<8:=by omega
   refine aj ?_
   refine Fg (by walk_at "po") (by rfl) (by rfl) n1 (by rfl) ?_
   walk_at "go"
   refine⟨a,ns,b+12,m,rfl,OJ.seq hS,hl,by omega,by omega,by omega,?_⟩
   have g0:=aV ns (b+12) (m:=m) (by omega)
   have g1:=aU ns (b+12) (m:=m) (by omega)
   generalize cj ns (b+12) m=g at g0 g1⊢
   walk_at "go"
   refine⟨by omega,by omega,λi σ H'=>(∃o8 o9 o10 o11,σ=[some (.ref a),some (.int b),some (.int m),some (.str XH),some (.str W),some (.int way),some (.int at_),some (.ref p),o8,o9,o10,o11])/\au H H'/\JP W at_ fi way H' p i,
    ⟨⟨none,none,none,none,rfl⟩,OJ,⟨[],⟨[],ep,.nil⟩,rfl,λi c e=>by simp at e⟩⟩,λi σ H' hi hP=>?_,λσ H' hP=>?_⟩
   .obtain⟨⟨o8,o9,o10,o11,rfl⟩,sm,hC⟩:=hP
    have hi6:i<6:=by have :(i:Int)<1+g:=by omega
                     omega
    refine aM nd (by rfl) (.inl rfl) (.inl rfl) ?_
    walk_at "go"
    refine⟨a,ns,b+13,26,rfl,sm.seq hS,hl,by omega,by omega,by decide,?_⟩
    rw[ef]
    walk_at "go"
    rw[show((fi:Int)+(i:Int)) % 26=(((fi+i) % 26:Nat):Int)by omega]
    refine yr (by omega) (bz (R7 (Nat.mod_lt _ (by decide)))) ?_
    walk_at "go"
    refine⟨a,ns,b+20+i,8,rfl,sm.seq hS,hl,by omega,by omega,by decide,?_⟩
    have s0:=aV ns (b+20+i) (m:=8) (by decide)
    have s1:=aU ns (b+20+i) (m:=8) (by decide)
    obtain⟨sz,es⟩:=aaA s0
    rw[es]at s1⊢
    have l1:=ju W none (some (at_:Int))
    have l2:=ju W (some ((at_:Int)+1)) none
    have l3:=ju W none (some (sz:Int))
    have ls:(⟨#[97+(fi+i) % 26]⟩:Str).length=1:=rfl
    have l4:=len_app (bO W none (some (at_:Int))) ⟨#[97+(fi+i) % 26]⟩
    walk_at "go"
    refine iM (by omega) ?_
    walk_at "go"
    refine aZ (by omega) ?_
    walk_at "go"
    refine iM (by omega) ?_
    refine aZ (by omega) ?_
    walk_at "go"
    refine iM (by omega) ?_
    walk_at "go"
    refine iM (by omega) ?_
    refine aZ (by omega) ?_
    walk_at "go"
    refine⟨by show 3≤sizeLine;omega,λk hk=>?_⟩
    walk_at "go"
    have hg3:lR [V.str (bO W none (some (at_:Int))++⟨#[97+(fi+i) % 26]⟩++bO W (some ((at_:Int)+1)) none),V.str (bO W none (some ((i:Int)+1))),V.str ((⟨#[97+(fi+i) % 26]⟩:Str)++bO W none (some (sz:Int)))] (way:Int)=some (V.str (Io W at_ fi sz way i)):=by
     have hw3:way<3:=by omega
     match way,hw3 with
     |0,_=>rfl
     |1,_=>rfl
     |2,_=>rfl
    refine aR (aX.of ao) hg3 ?_
    have smk:=au.upd (H:=H') (o:=.lst [V.str (bO W none (some (at_:Int))++⟨#[97+(fi+i) % 26]⟩++bO W (some ((at_:Int)+1)) none),V.str (bO W none (some ((i:Int)+1))),V.str ((⟨#[97+(fi+i) % 26]⟩:Str)++bO W none (some (sz:Int)))]) hk
    generalize upd H' k _=H3 at smk⊢
    obtain⟨cs,⟨vs,hp',hvs⟩,hcl,hcg⟩:=hC
    refine aq (eU (by rfl) (fX F.plainAttrs_list F.slot_list_append F.type_list_append (by rfl) (by rfl) (by rfl) (by rfl) (by rfl) ?_))
    walk_at "go"
    refine⟨.inl ⟨rfl,_,aX.of (smk _ _ hp')⟩,?_⟩
    walk_at "go"
    refine⟨by show 2≤sizeLine;omega,λy hy=>?_⟩
    obtain⟨smy,ey⟩:=bR hy (.lst [.str "number",.str "text"])
    generalize upd H3 y (.lst [.str "number",.str "text"])=H5 at smy ey⊢
    walk_at "go"
    refine⟨a,ns,b+30+i,2,rfl,((sm.trans smk).trans smy).seq hS,hl,by omega,by omega,by decide,?_⟩
    have k0:=aV ns (b+30+i) (m:=2) (by decide)
    have k1:=aU ns (b+30+i) (m:=2) (by decide)
    obtain⟨kd,e1,e2⟩:=zB (xs:=[V.str "number",V.str "text"]) k0 (by show _<(2:Int);omega)
    refine aR (aX.of ey) e1 ?_
    obtain⟨kk,rfl,hkk⟩:∃kk:Str,kd= .str kk/\(kk="number"\/kk="text"):=by
     rcases abO.mp e2 with e |e
     .exact⟨_,e,.inl rfl⟩
     .exact⟨"text",by simpa using e,.inr rfl⟩
    walk_at "go"
    refine⟨by show 2≤sizeLine;omega,λt ht=>?_⟩
    obtain⟨wO,et⟩:=bR ht (.tup [.str (Io W at_ fi sz way i),.str kk])
    generalize upd H5 t (.tup [.str (Io W at_ fi sz way i),.str kk])=H6 at wO et⊢
    have s6:au H' H6:=(smk.trans smy).trans wO
    have hvl:=hvs.len
    refine nP (j9 lK ⟨p,_,_,rfl,rfl,s6 _ _ hp',by rw[hvl];omega,?_⟩)
    have tp:t≠p:=λe=>by rw[e,(smk.trans smy) _ _ hp']at ht;cases ht
    have up:∀b' o,H6 b'=some o->b'≠p->(upd H6 p (.lst (vs++[.ref t]))) b'=some o:=λb' o e hne=>by rw[aF hne];exact e
    refine⟨⟨_,_,_,_,rfl⟩,λb' o e=>?_,cs++[(Io W at_ fi sz way i,kk)],⟨vs++[.ref t],ao,QL (Q0 hvs λx c hx=>?_) ⟨t,rfl,up _ _ et tp⟩⟩,by rw[ace,agk,hcl],λj c e=>?_⟩
    .rw[aF (aB e pn)]
     exact s6 _ _ (sm _ _ e)
    .obtain⟨u,rfl,hu⟩:=hx
     have hup:u≠p:=λz=>by rw[z,hp']at hu;cases hu
     exact⟨u,rfl,up _ _ (s6 _ _ hu) hup⟩
    .by_cases hj:j<cs.length
     .rw[agh hj]at e
      exact hcg j c e
     .have hj2:=(aan.mp e).1
      rw[ace,agk]at hj2
      have ej:j=cs.length:=by omega
      subst ej
      rw[ajp]at e
      cases e
      rw[hcl]
      exact⟨⟨sz,by omega,rfl⟩,hkk⟩
   .obtain⟨⟨o8,o9,o10,o11,rfl⟩,sm,hC⟩:=hP
    obtain⟨cs,hC',hok⟩:=hC.ok hwl hat hwc (by omega) (by omega)
    walk_at "go"
    exact q p cs _ sm pn hC' hok
  .have :i<xs.length:=(aan.mp e).1
   rw[List.getElem?_range (by simp at hl2;omega)]
def Qi(K:acF):Sp:=λvs H Q _=>∃(a:Addr) (ns:List Int) (k:Int) (b:Addr) (cs:List bC),vs=[.ref a,.int k,.ref b]/\aX K H a (ns.map V.int)/\ns.length≤63/\0≤k/\k≤40000/\dX H b cs/\cs.length≤6/\∀p xs H',au H H'->H p=none->H' p=some (.lst xs)->gC (λc x=>pL c.2 x) cs xs->Q (.ref p) H'
theorem nJ{α β:Type}{R:α->β->Prop}:∀{l:List α} {m:List β},m.length=l.length->(∀(i:Nat) b,m[i]? =some b->∃a,l[i]? =some a/\R a b)->gC R l m
 |[],[],_,_=>.nil
 |[],_::_,h,_=>by simp at h
 |_::_,[],h,_=>by simp at h
 |a::l,b::m,h,g=>by
  obtain⟨a',e,r⟩:=g 0 b rfl
  have :a=a':=by simpa using e
  subst this
  exact .cons r (nJ (by simpa using h) λi x e=>by simpa using g (i+1) x (by simpa using e))
theorem nR(T:Txt K mg):Def P w K mg base true 3 "_law_values" ["_law_script","_law_k","_law_columns_here"] (Qi K):=by
 refine Ah T (λvs H Q E h=>by obtain⟨a,ns,k,b,cs,rfl,_⟩:=h;rfl) (λf cdv A outer s H vs Q E hr h=>?_)
 obtain⟨a,ns,k,b,cs,rfl,hS,hl,hk0,hk1,hC,hc6,q⟩:=h
 have n1:=T.vg
 have n2:=T.jr
 have hsz:=sizeLine_eq
 have D1:= @km P w K mg base T
 have ndc:(["_law_j","_law_columns_here","_law_k","_law_script"]:List Str).Nodup:=by decide+kernel
 obtain⟨vs,hb,hvs⟩:=id hC
 have hvl:=hvs.len
 have SB:aX K H b vs:=aX.of hb
 refine aq (bA ?_)
 refine Ol ["_law_j","_law_columns_here","_law_k","_law_script"] (σ':=[none,some (.ref b),some (.int k),some (.ref a)]) (by rfl) (by rfl) (cA (aa dh) (by rfl) (by rfl) (by decide+kernel)) (by rfl) n1 (by rfl) ?_
 walk_at "go"
 refine⟨by omega,by omega,λτ=>∃o1,τ=[o1,some (.ref b),some (.int k),some (.ref a)],λE2 i u H'=>∃c,cs[i]? =some c/\pL c.2 u,⟨none,rfl⟩,λE2 i u H2 H3 ys _ _ p=>p,λfp E2 C s3 H0 i τ x H4 H3 Bm hi hτ qG hys hG=>?_,λL H1 ys hL hl2 hx2 e1 iK=>?_⟩
 .obtain⟨o1,rfl⟩:=hτ
  obtain⟨rfl,rfl⟩:=hG
  have hil:i<vs.length:=by simpa using hi
  have hg:vs[i]? =some vs[i]:=aak hil
  obtain⟨c,hc,t,ev,ht⟩:=hvs.get hg
  refine aM ndc (by rfl) (.inl rfl) (.inr rfl) ?_
  walk_at "go"
  refine aR (qG.seq SB) (bz hg) ?_
  rw[ev]
  walk_at "go"
  refine cQ (dg.of (qG _ _ ht)) (show lR [V.str c.1,V.str c.2] 1=some (V.str c.2)from rfl) ?_
  walk_at "go"
  refine⟨a,ns,_,c.2,rfl,qG.seq hS,hl,by omega,by omega,λv H5 DR hv=>?_⟩
  exact⟨⟨_,rfl⟩,⟨c,hc,hv⟩,DR⟩
 .exact q L ys H1 iK hL e1 (nJ (by rw[hl2, <-hvl];simp) hx2)
def qj(nm:Nat->Str):Oa->List Str
 | .all=>["all"]
 | .none p=>["none",nm p]
 | .look l p v=>[j5 l,nm p,wordOf v]
def wT(nm:Nat->Str):Tr->List Str
 | .one s=>qj nm s
 | .nt t=>"not"::wT nm t
 | .bo t u=>"both"::(wT nm t++wT nm u)
 | .ei t u=>"either"::(wT nm t++wT nm u)
def gQ(cs:List bC)(p:Nat):Str:=match cs[p]? with
 |some c=>c.1
 |none=>Str.ofString ""
def J1(cs:List bC):Oa->Prop
 | .all=>True
 | .none p=>p<cs.length
 | .look l p v=>∃c,cs[p]? =some c/\pL c.2 v/\v≠ .non/\(l= .holds->c.2="text")
def qW(cs:List bC):Tr->Prop
 | .one s=>J1 cs s
 | .nt t=>qW cs t
 | .bo t u=>qW cs t/\qW cs u
 | .ei t u=>qW cs t/\qW cs u
def AtW(nm:Nat->Str)(ws:List Str)(t:Tr)(s:Nat):Prop:=∃post,ws.drop s=wT nm t++post
theorem drop_cons{α:Type}{ws r:List α}{s:Nat}{x:α}(h:ws.drop s=x::r):ws[s]? =some x/\ws.drop (s+1)=r:=by
 have hs:s<ws.length:=by
  have h2:(ws.drop s).length=(x::r).length:=by rw[h]
  rw[afr,List.length_cons]at h2
  omega
 rw[List.drop_eq_getElem_cons hs]at h
 injection h with h1 h2
 exact⟨by rw[aak hs,h1],h2⟩
theorem G9{α:Type}{ws a r:List α}{s:Nat}(h:ws.drop s=a++r):ws.drop (s+a.length)=r:=by
 rw[<-List.drop_drop,h]
 simp
theorem Gh{α:Type}{ws a r:List α}{s:Nat}(h:ws.drop s=a++r)(ha:a≠[]):s+a.length≤ws.length:=by
 have h2:(ws.drop s).length=(a++r).length:=by rw[h]
 rw[afr,ace]at h2
 have :0<a.length:=akW.mpr ha
 omega
theorem wH(nm:Nat->Str)(s:Oa):qj nm s≠[]:=by cases s<;>simp[qj]
theorem Hn(nm:Nat->Str)(t:Tr):wT nm t≠[]:=by
 cases t with
 |one s=>exact wH nm s
 |nt t=>simp[wT]
 |bo t u=>simp[wT]
 |ei t u=>simp[wT]
theorem oN:∀{cs:List bC} {p:Nat} {c:bC},(cs.map Prod.fst).Nodup->cs[p]? =some c->bY cs c.1=p
 |d::r,0,c,hn,e=>by
  have :d=c:=by simpa using e
  subst this
  show(if d.1=d.1 then 0 else bY r d.1+1)=0
  rw[if_pos rfl]
 |d::r,p+1,c,hn,e=>by
  have e':r[p]? =some c:=by simpa using e
  have hn':=ai6.mp hn
  have hne:¬d.1=c.1:=λz=>hn'.1 (by rw[z];exact adg.mpr ⟨c,aaR e',rfl⟩)
  show(if d.1=c.1 then 0 else bY r c.1+1)=p+1
  rw[if_neg hne,oN hn'.2 e']
theorem xV{cs:List bC}{p:Nat}{c:bC}(e:cs[p]? =some c):gQ cs p=c.1:=by
 unfold gQ
 rw[e]
theorem ahO{cs:List bC}(hn:(cs.map Prod.fst).Nodup){ws:List Str}{p s:Nat}{c:bC}(hp:cs[p]? =some c)(hs:s<60)(e:ws[s]? =some c.1):gn cs ws s=some p:=by
 unfold gn
 rw[if_pos hs,e]
 show(if cs.any (λd=>decide (d.1=c.1))=true then some (bY cs c.1)else none)=some p
 rw[if_pos (by rw[anC];exact⟨c,aaR hp,decide_eq_true rfl⟩),oN hn hp]
theorem Ha{cs:List bC}(hok:aQ cs=true){ws post:List Str}{s:Nat}:∀{sv:Oa},ws.drop s=qj (gQ cs) sv++post->s+(qj (gQ cs) sv).length≤60->J1 cs sv->pH cs ws s sv (s+(qj (gQ cs) sv).length)
 | .all,e,hl,_=>⟨(drop_cons (r:=post) e).1,rfl⟩
 | .none p,e,hl,hg=>by
   have hn:(cs.map Prod.fst).Nodup:=by
    unfold aQ at hok
    simp only[aaP,decide_eq_true_eq]at hok
    exact hok.2
   obtain⟨e1,e2⟩:=drop_cons (r:=[gQ cs p]++post) e
   obtain⟨e3,_⟩:=drop_cons (r:=post) e2
   have hln:=Gh e (wH (gQ cs) (.none p))
   have hl':s+2≤60:=hl
   have hp:cs[p]? =some cs[p]:=aak hg
   rw[xV hp]at e3
   exact⟨e1,hln,ahO hn hp (by omega) e3,rfl⟩
 | .look l p v,e,hl,hg=>by
   have hn:(cs.map Prod.fst).Nodup:=by
    unfold aQ at hok
    simp only[aaP,decide_eq_true_eq]at hok
    exact hok.2
   obtain⟨c,hc,hv,hne,hh⟩:=hg
   obtain⟨e1,e2⟩:=drop_cons (r:=[gQ cs p,wordOf v]++post) e
   obtain⟨e3,e4⟩:=drop_cons (r:=[wordOf v]++post) e2
   obtain⟨e5,_⟩:=drop_cons (r:=post) e4
   have hln:=Gh e (wH (gQ cs) (.look l p v))
   have hl':s+3≤60:=hl
   rw[xV hc]at e3
   have hk:c.2="number"\/c.2="text":=by
    unfold aQ at hok
    simp only[aaP,adt]at hok
    have :=(hok.1.2 c (aaR hc)).2
    unfold yc at this
    exact of_decide_eq_true this
   exact⟨hln,by omega,e1,ahO hn hc (by omega) e3,⟨c,_,hc,hh,e5,(hv.word hk).1⟩,hne,rfl⟩
theorem lA{cs:List bC}(hok:aQ cs=true){ws:List Str}:∀{t:Tr} {s:Nat},AtW (gQ cs) ws t s->s+(wT (gQ cs) t).length≤60->qW cs t->Reads cs ws t s (s+(wT (gQ cs) t).length)
 | .one sv,s,e,hl,hg=>by
   obtain⟨post,e⟩:=e
   have hp:0<(qj (gQ cs) sv).length:=akW.mpr (wH (gQ cs) sv)
   have hl':s+(qj (gQ cs) sv).length≤60:=hl
   exact⟨by omega,Ha hok e hl hg⟩
 | .nt t,s,e,hl,hg=>by
   obtain⟨post,e⟩:=e
   obtain⟨e1,e2⟩:=drop_cons (r:=wT (gQ cs) t++post) e
   have hl':s+((wT (gQ cs) t).length+1)≤60:=hl
   refine⟨by omega,e1,?_⟩
   have :=lA hok (t:=t) ⟨post,e2⟩ (by omega) hg
   have e3:s+(wT (gQ cs) (.nt t)).length=s+1+(wT (gQ cs) t).length:=by show s+((wT (gQ cs) t).length+1)=_;omega
   rw[e3]
   exact this
 | .bo t u,s,e,hl,hg=>by
   obtain⟨post,e⟩:=e
   obtain⟨e1,e2⟩:=drop_cons (r:=(wT (gQ cs) t++wT (gQ cs) u)++post) e
   rw[aex]at e2
   have e4:=G9 e2
   have hl2:(wT (gQ cs) (.bo t u)).length=(wT (gQ cs) t).length+(wT (gQ cs) u).length+1:=by show((wT (gQ cs) t++wT (gQ cs) u).length+1)=_;rw[ace]
   rw[hl2]at hl⊢
   refine⟨by omega,e1,s+1+(wT (gQ cs) t).length,lA hok (t:=t) ⟨_,e2⟩ (by omega) hg.1,?_⟩
   have :=lA hok (t:=u) ⟨_,e4⟩ (by omega) hg.2
   rw[show s+((wT (gQ cs) t).length+(wT (gQ cs) u).length+1)=s+1+(wT (gQ cs) t).length+(wT (gQ cs) u).length by omega]
   exact this
 | .ei t u,s,e,hl,hg=>by
   obtain⟨post,e⟩:=e
   obtain⟨e1,e2⟩:=drop_cons (r:=(wT (gQ cs) t++wT (gQ cs) u)++post) e
   rw[aex]at e2
   have e4:=G9 e2
   have hl2:(wT (gQ cs) (.ei t u)).length=(wT (gQ cs) t).length+(wT (gQ cs) u).length+1:=by show((wT (gQ cs) t++wT (gQ cs) u).length+1)=_;rw[ace]
   rw[hl2]at hl⊢
   refine⟨by omega,e1,s+1+(wT (gQ cs) t).length,lA hok (t:=t) ⟨_,e2⟩ (by omega) hg.1,?_⟩
   have :=lA hok (t:=u) ⟨_,e4⟩ (by omega) hg.2
   rw[show s+((wT (gQ cs) t).length+(wT (gQ cs) u).length+1)=s+1+(wT (gQ cs) t).length+(wT (gQ cs) u).length by omega]
   exact this
theorem HB{a b:List Str}(ha:a≠[])(hb:b≠[]):Str.join " " (a++b)=Str.join " " a++Str.ofString " "++Str.join " " b:=by
 match a,ha with
 |[x],_=>
  match b,hb with
  |y::r,_=>rfl
 |x::y::r,_=>
  have ih:=HB (a:=y::r) (b:=b) (by simp) hb
  show x++Str.ofString " "++Str.join " " (y::r++b)=(x++Str.ofString " "++Str.join " " (y::r))++Str.ofString " "++Str.join " " b
  rw[ih]
  apply bB
  simp only[aA,aex]
theorem join_cons{x:Str}{b:List Str}(hb:b≠[]):Str.join " " (x::b)=x++Str.ofString " "++Str.join " " b:=by
 match b,hb with
 |y::r,_=>rfl
theorem Nt{z:Str}(h:isName z=true):32∉z.cps.toList:=λhm=>by
 unfold isName jo at h
 rw[aaP,adt]at h
 exact absurd (of_decide_eq_true (h.2 32 hm)) (by decide+kernel)
theorem JT{cs:List bC}(hok:aQ cs=true):∀{sv:Oa},J1 cs sv->∀z∈qj (gQ cs) sv,z.length≤21/\32∉z.cps.toList/\plainS z
 | .all,_,z,hz=>by
   have :z=Str.ofString "all":=by simpa [qj]using hz
   subst this
   exact⟨by decide+kernel,by decide+kernel,by unfold plainS;decide+kernel⟩
 | .none p,hg,z,hz=>by
   have hz':z=Str.ofString "none"\/z=gQ cs p:=by simpa [qj]using hz
   rcases hz' with rfl |rfl
   .exact⟨by decide+kernel,by decide+kernel,by unfold plainS;decide+kernel⟩
   .have hp:cs[p]? =some cs[p]:=aak hg
    rw[xV hp]
    have hn:=gk hok (adg.mpr ⟨cs[p],aeF hg,rfl⟩)
    exact⟨by have :=eF hn;omega,λh=>by have :=(Nt hn);exact this h,oZ hn⟩
 | .look l p v,hg,z,hz=>by
   obtain⟨c,hc,hv,hne,hh⟩:=hg
   have hz':z=j5 l\/z=gQ cs p\/z=wordOf v:=by simpa [qj]using hz
   have hn:=gk hok (adg.mpr ⟨c,aaR hc,rfl⟩)
   have hk:c.2="number"\/c.2="text":=by
    unfold aQ at hok
    simp only[aaP,adt]at hok
    have :=(hok.1.2 c (aaR hc)).2
    unfold yc at this
    exact of_decide_eq_true this
   rcases hz' with rfl |rfl |rfl
   .cases l<;>exact⟨by decide+kernel,by decide+kernel,by unfold plainS;decide+kernel⟩
   .rw[xV hc]
    exact⟨by have :=eF hn;omega,Nt hn,oZ hn⟩
   .have hw:=hv.word hk
    exact⟨hw.2.1,hw.2.2.1,hv.plain⟩
theorem mJ{cs:List bC}(hok:aQ cs=true):∀{t:Tr},qW cs t->∀z∈wT (gQ cs) t,z.length≤21/\32∉z.cps.toList/\plainS z
 | .one s,hg,z,hz=>JT hok hg z hz
 | .nt t,hg,z,hz=>by
   rcases abO.mp hz with rfl |hz
   .exact⟨by decide+kernel,by decide+kernel,by unfold plainS;decide+kernel⟩
   .exact mJ hok (t:=t) hg z hz
 | .bo t u,hg,z,hz=>by
   rcases abO.mp hz with rfl |hz
   .exact⟨by decide+kernel,by decide+kernel,by unfold plainS;decide+kernel⟩
   .rcases aeC.mp hz with hz |hz
    .exact mJ hok hg.1 z hz
    .exact mJ hok hg.2 z hz
 | .ei t u,hg,z,hz=>by
   rcases abO.mp hz with rfl |hz
   .exact⟨by decide+kernel,by decide+kernel,by unfold plainS;decide+kernel⟩
   .rcases aeC.mp hz with hz |hz
    .exact mJ hok hg.1 z hz
    .exact mJ hok hg.2 z hz
def fQ(cs:List bC)(z:Str)(n d:Nat):Prop:=∃t,qW cs t/\t.dep≤d/\z=Str.join " " (wT (gQ cs) t)/\(wT (gQ cs) t).length≤n
theorem fQ.len{cs:List bC}(hok:aQ cs=true){z:Str}{n d:Nat}(h:fQ cs z n d):z.length≤22*n:=by
 obtain⟨t,hg,_,rfl,hl⟩:=h
 have h1:=DG (wT (gQ cs) t) 21 λp hp=>(mJ hok hg p hp).1
 have h2:=jy (wT (gQ cs) t)
 omega
theorem fQ.good{cs:List bC}(hok:aQ cs=true){z:Str}{n d:Nat}(h:fQ cs z n d)(hn:n≤60)(hd:d≤20):plainS z/\z.length≤2800/\(∀y∈aW 32 z,y.length≤900)/\∃t:Tr,t.dep≤20/\Reads cs (aW 32 z) t 0 (aW 32 z).length:=by
 have hlen:=h.len hok
 obtain⟨t,hg,hdp,rfl,hl⟩:=h
 have hw:=mJ hok hg
 have Br:aW 32 (Str.join " " (wT (gQ cs) t))=wT (gQ cs) t:=jO (Hn (gQ cs) t) λz hz=>(hw z hz).2.1
 refine⟨plainS.join λp hp=>(hw p hp).2.2,by omega,by rw[Br];exact λy hy=>by have :=(hw y hy).1;omega,t,by omega,?_⟩
 rw[Br]
 have :=lA hok (ws:=wT (gQ cs) t) (t:=t) (s:=0) ⟨[],by simp⟩ (by omega) hg
 rw[aly]at this
 exact this
theorem fQ.nt{cs:List bC}{z:Str}{n d:Nat}(h:fQ cs z n d):fQ cs (Str.ofString "not"++Str.ofString " "++z) (n+1) (d+1):=by
 obtain⟨t,hg,hdp,rfl,hl⟩:=h
 exact⟨.nt t,hg,by show t.dep+1≤d+1;omega,(join_cons (Hn (gQ cs) t)).symm,by show(wT (gQ cs) t).length+1≤n+1;omega⟩
theorem fQ.two{cs:List bC}{x z y:Str}{n m d e k:Nat}(hx:x=Str.ofString "both"\/x=Str.ofString "either")(h:fQ cs z n d)(g:fQ cs y m e)(hd:d≤k)(he:e≤k):fQ cs (x++Str.ofString " "++z++Str.ofString " "++y) (n+m+1) (k+1):=by
 obtain⟨t,hg,hdp,rfl,hl⟩:=h
 obtain⟨u,hgu,hdu,rfl,hlu⟩:=g
 have hne:wT (gQ cs) t++wT (gQ cs) u≠[]:=λz=>Hn (gQ cs) t (List.append_eq_nil_iff.mp z).1
 have ej:Str.join " " (x::(wT (gQ cs) t++wT (gQ cs) u))=x++Str.ofString " "++Str.join " " (wT (gQ cs) t)++Str.ofString " "++Str.join " " (wT (gQ cs) u):=by
  rw[join_cons hne,HB (Hn (gQ cs) t) (Hn (gQ cs) u)]
  apply bB
  simp only[aA,aex]
 have hlen:(x::(wT (gQ cs) t++wT (gQ cs) u)).length≤n+m+1:=by rw[List.length_cons,ace];omega
 rcases hx with rfl |rfl
 .exact⟨.bo t u,⟨hg,hgu⟩,by show max t.dep u.dep+1≤k+1;omega,ej.symm,hlen⟩
 .exact⟨.ei t u,⟨hg,hgu⟩,by show max t.dep u.dep+1≤k+1;omega,ej.symm,hlen⟩
theorem CN:∀{cs:List bC} {z:Str} {m:Nat} {c:bC},m<bY cs z->cs[m]? =some c->¬c.1=z
 |[],_,_,_,h,_=>by simp[bY]at h
 |d::r,z,m,c,h,e=>by
  unfold bY at h
  split at h
  .omega
  .rename_i hd
   cases m with
   |zero=>simp at e;subst e;exact hd
   |succ m=>exact CN (cs:=r) (m:=m) (by omega) (by simpa using e)
theorem T8{cs:List bC}{z:Str}(h:∃c∈cs,c.1=z):(cs.map Prod.fst)[bY cs z]? =some z:=by
 obtain⟨c,e1,e2⟩:=uU h
 rw[aby,e1, <-e2]
 rfl
theorem RP{cs:List bC}{z:Str}{m:Nat}{y:Str}(h:m<bY cs z)(e:(cs.map Prod.fst)[m]? =some y):¬y=z:=by
 rw[aby]at e
 cases e2:cs[m]? with
 |none=>rw[e2]at e;cases e
 |some c=>
  rw[e2]at e
  have e3:c.1=y:=by simpa using e
  rw[<-e3]
  exact CN h e2
def ad8(K:acF):Sp:=λvs H Q _=>∃(a b v:Addr) (n:Int) (cs:List bC) (os:List Ord) (xs:List V),vs=[.ref a,.ref b,.int n,.ref v]/\dX H a cs/\uC H b os/\H v=some (.lst xs)/\xs.length=cs.length/\cs.length≤1000/\os.length≤1000/\(∀o∈os,∃c∈cs,c.1=o.1)/\
 ∀p k H',au H H'->H p=none->H k=none->H' p=some (.tup [.ref k,.int n])->H' k=some (.lst (Vf cs os xs))->Q (.ref p) H'
theorem uT(T:Txt K mg):Def P w K mg base true 1 "_law_key" ["_law_columns_here","_law_order_here","_law_row","_law_values_here"] (ad8 K):=by
 refine Hr T (λvs H Q E h=>by obtain⟨a,b,v,n,cs,os,xs,rfl,_⟩:=h;rfl) (λf cdv A outer s H vs Q E hr h=>?_)
 obtain⟨a,b,v,n,cs,os,xs,rfl,⟨vs,ha,hvs⟩,⟨ws,hb,hws⟩,hv,hxl,hcl,hol,hin,q⟩:=h
 have nd:=yH.nd
 have hsz:=sizeLine_eq
 have Yz:(["_law_one"]:List Str).Nodup:=by decide+kernel
 have Ze:(["_law_one","_law_names","_law_values_here"]:List Str).Nodup:=by decide+kernel
 have hvl:=hvs.len
 have hwl:=hws.len
 refine aj ?_
 walk_at "s"
 refine zF ["_law_one"] (σ':=[none]) (by rfl) (by rfl) (cA (aa fJ) (by rfl) (by rfl) (by decide+kernel)) (by intro _;rfl) ?_
 walk_at "e"
 refine⟨a,vs,rfl,aX.of ha,by omega,λτ=>∃o1,τ=[o1],λE2 i u H'=>∃c,cs[i]? =some c/\u= .str c.1,⟨none,rfl⟩,λE2 i u H2 H3 ys _ _ p=>p,λfp E2 C s3 H0 i τ x H4 H3 Bm hi hτ qG hys hG=>?_,λL H1 ys hL hl2 hx2 e1 iK=>?_⟩
 .obtain⟨o1,rfl⟩:=hτ
  obtain⟨HD,rfl⟩:=hG
  obtain⟨c,hc,t,rfl,ht⟩:=hvs.get HD
  refine aM Yz (by rfl) (.inl rfl) (.inr rfl) ?_
  walk_at "ex"
  refine cQ (dg.of (qG _ _ ht)) (show lR [V.str c.1,V.str c.2] 0=some (V.str c.1)from rfl) ?_
  exact⟨⟨_,rfl⟩,⟨c,hc,rfl⟩,au.refl _⟩
 have ey:=eN (ys:=cs) (λc=>V.str c.1) (by rw[hl2,hvl]) hx2
 have Iz:ys=(cs.map Prod.fst).map V.str:=by rw[ey,agz];rfl
 subst Iz
 refine aq (bA ?_)
 refine RX (lq (by rfl) ?_)
 refine zF ["_law_one","_law_names","_law_values_here"] (σ':=[none,some (.ref L),some (.ref v)]) (by rfl) (by rfl) (cA (aa fJ) (by rfl) (by rfl) (by decide+kernel)) (by intro _;rfl) ?_
 walk_at "e"
 refine⟨b,ws,rfl,aX.of (iK _ _ hb),by omega,λτ=>∃o1,τ=[o1,some (.ref L),some (.ref v)],λE2 i u H'=>∃o,os[i]? =some o/\u=atN cs xs o.1,⟨none,rfl⟩,λE2 i u H2 H3 ys _ _ p=>p,λfp E2 C s3 H0 i τ x H7 H8 Bm hi hτ sm7 hys hG=>?_,λD H7 ys hD hl3 HD e7 sm7=>?_⟩
 .obtain⟨o1,rfl⟩:=hτ
  obtain⟨HD,rfl⟩:=hG
  obtain⟨o,ho,tp,rfl,htp⟩:=hws.get HD
  have hio:=hin o (aaR ho)
  have hlt:=lD hio
  have g1:xs[bY cs o.1]? =some (atN cs xs o.1):=by
   have e:xs[bY cs o.1]? =some (xs[bY cs o.1]'(by omega)):=aak _
   unfold atN
   rw[e]
   rfl
  have Uy:=iK.trans sm7
  have eL7:=sm7 _ _ e1
  refine aM Ze (by rfl) (.inl rfl) (.inr rfl) ?_
  walk_at "e"
  walk_at "e"
  refine fX F.plainAttrs_list F.slot_list_index F.type_list_index (by rfl) (by rfl) (by rfl) (by rfl) (by rfl) ?_
  walk_at "e"
  refine⟨.inl ⟨rfl,_,aX.of eL7⟩,?_⟩
  walk_at "ex"
  refine cQ (dg.of (Uy _ _ htp)) (show lR [V.str o.1,V.bl o.2] 0=some (V.str o.1)from rfl) ?_
  walk_at "ex"
  refine U5 (aX.of eL7) (T8 hio) (λm y h e=>RP h e) ?_
  refine aR (aX.of (Uy _ _ hv)) (bz g1) ?_
  exact⟨⟨_,rfl⟩,⟨o,ho,rfl⟩,au.refl _⟩
 have ey:=eN (ys:=os) (λo=>atN cs xs o.1) (by rw[hl3,hwl]) HD
 have Iz:ys=Vf cs os xs:=ey
 subst Iz
 have Uy:=iK.trans sm7
 walk_at "ex"
 refine⟨by show 2≤sizeLine;omega,λp hp=>?_⟩
 have s8:au H7 (upd H7 p (.tup [.ref D,.int n])):=au.upd hp
 exact q p D _ (Uy.trans s8) (Uy.free hp) (iK.free hD) ao (s8 _ _ e7)
theorem GX{cs:List bC}{xs:List V}(hx:gC (λ(c:bC) x=>pL c.2 x) cs xs):∀{os:List Ord},(∀o∈os,∃c∈cs,c.1=o.1)->gC (λ(o:Ord) x=>pL (dC cs o.1) x) os (Vf cs os xs)
 |[],_=>.nil
 |o::os,h=>by
  refine .cons ?_ (GX hx λx hx=>h x (by simp[hx]))
  have hlt:=lD (h o (by simp))
  obtain⟨x,e1,e2⟩:=hx.get (aak hlt)
  have ek:dC cs o.1=cs[bY cs o.1].2:=by
   unfold dC
   rw[aak hlt]
  show pL (dC cs o.1) (atN cs xs o.1)
  rw[ek]
  unfold atN
  rw[e1]
  exact e2
def Y7:Sp:=λvs H Q _=>∃(v:V) (kd:Str),vs=[v]/\pL kd v/\Q (.str (wordOf v)) H
theorem mX(T:Txt K mg):Def P w K mg base true 1 "_law_word" ["_law_value_here"] Y7:=by
 refine Eu T (λvs H Q E h=>by obtain⟨v,kd,rfl,_⟩:=h;rfl) (λf cdv A outer s H vs Q E hr h=>?_)
 obtain⟨v,kd,rfl,hv,q⟩:=h
 have n1:=T.ph
 have n2:=T.zU
 have hsz:=sizeLine_eq
 have la:("'":Str).length=1:=by decide+kernel
 refine aj (bx ?_)
 walk_at "ex"
 rcases hv with rfl |⟨_,i,rfl,h1,h2⟩ |⟨_,z,rfl,hl,_⟩
 .refine dD (λ_=>?_) (λh=>absurd rfl h)
  refine aq (bA ?_)
  walk_at "ex"
  exact q
 .refine dD (λh=>nomatch h) (λ_=>?_)
  refine aL (aj (bx ?_))
  walk_at "ex"
  refine aL (aq (bA ?_))
  walk_at "ex"
  refine lN (jZ ?_) ?_
  .have :(10:Nat)^60>1000000000000000000:=by decide
   omega
  exact q
 .refine dD (λh=>nomatch h) (λ_=>?_)
  refine aL (aj (bx ?_))
  walk_at "ex"
  refine aq (bA ?_)
  walk_at "ex"
  refine aZ (by omega) ?_
  exact q
theorem Ew:Str.ofString "none "=Str.ofString "none"++Str.ofString " "/\Str.ofString "not "=Str.ofString "not"++Str.ofString " "/\Str.ofString "both "=Str.ofString "both"++Str.ofString " "/\Str.ofString "either "=Str.ofString "either"++Str.ofString " ":=by decide+kernel
def YF(K:acF):Sp:=λvs H Q _=>∃(a c:Addr) (ns:List Int) (b:Int) (cs:List bC),vs=[.ref a,.int b,.ref c]/\aX K H a (ns.map V.int)/\ns.length≤63/\0≤b/\b≤30000/\dX H c cs/\aQ cs=true/\∀z H',au H H'->fQ cs z 3 0->Q (.str z) H'
theorem vI{cs:List bC}(h:aQ cs=true):1≤cs.length/\cs.length≤6:=by
 unfold aQ at h
 simp only[aaP,decide_eq_true_eq]at h
 exact h.1.1
theorem Vp{cs:List bC}(h:aQ cs=true){c:bC}(hc:c∈cs):c.2="number"\/c.2="text":=by
 unfold aQ at h
 simp only[aaP,adt]at h
 have :=(h.1.2 c hc).2
 unfold yc at this
 exact of_decide_eq_true this
theorem qN(T:Txt K mg):Def P w K mg base true 3 "_law_look" ["_law_script","_law_base","_law_columns_here"] (YF K):=by
 refine Ex T (λvs H Q E h=>by obtain⟨a,c,ns,b,cs,rfl,_⟩:=h;rfl) (λf cdv A outer s H vs Q E hr h=>?_)
 obtain⟨a,c,ns,b,cs,rfl,hS,hl,hb0,hb1,⟨vs,hc,hvs⟩,hok,q⟩:=h
 have nd:=wK.nd
 have n1:=T.jr
 have hsz:=sizeLine_eq
 have D1:= @bZ P w K mg base T
 have D2:= @km P w K mg base T
 have D3:= @mX P w K mg base T
 have hvl:=hvs.len
 obtain⟨c1,c6⟩:=vI hok
 have sqc:aX K H c vs:=aX.of hc
 walk_at "A"
 refine⟨a,ns,b,_,rfl,hS,hl,by omega,by omega,by omega,?_⟩
 have a0:=aV ns b (m:=(vs.length:Int)) (by omega)
 have a1:=aU ns b (m:=(vs.length:Int)) (by omega)
 obtain⟨p,ep⟩:=aaA a0
 rw[ep]at a1⊢
 have hp:p<cs.length:=by omega
 have hcp:cs[p]? =some cs[p]:=aak hp
 obtain⟨cv,gc,t,rfl,ht⟩:=hvs.get' hcp
 have hcm:cs[p]∈cs:=aeF hp
 have hkd:=Vp hok hcm
 have hnm:=gk hok (adg.mpr ⟨cs[p],hcm,rfl⟩)
 have hnl:=eF hnm
 refine aj (eQ (by rfl) (by rfl) ?_)
 walk_at "ex"
 refine aR sqc (bz gc) ?_
 refine dW (by rfl) (by rfl) (by rfl) (dg.of ht) (by rfl) (aO (by rfl) (aM nd (by rfl) (.inl rfl) (.inl rfl) (aO (by rfl) (aM nd (by rfl) (.inl rfl) (.inl rfl) (cR ?_)))))
 generalize hcc:cs[p]=cc at *
 walk_at "A"
 refine⟨a,ns,b+1,cc.2,rfl,hS,hl,by omega,by omega,λv H1 s1 hv=>?_⟩
 refine aj (bx ?_)
 walk_at "ex"
 refine dD (λ_=>?_) (λhne=>?_)
 .refine aq (bA ?_)
  walk_at "ex"
  have ln:("none ":Str).length=5:=by decide+kernel
  refine aZ (by omega) ?_
  walk_at "ex"
  refine⟨by show 2≤sizeLine;omega,λl hl2=>?_⟩
  obtain⟨s2,e2⟩:=bR hl2 (.lst [.str ("all":Str),.str (Str.ofString "none "++cc.1)])
  generalize upd H1 l (.lst [.str ("all":Str),.str (Str.ofString "none "++cc.1)])=H2 at s2 e2⊢
  walk_at "ex"
  refine⟨a,ns,b+2,2,rfl,(s1.trans s2).seq hS,hl,by omega,by omega,by decide,?_⟩
  have d0:=aV ns (b+2) (m:=2) (by decide)
  have d1:=aU ns (b+2) (m:=2) (by decide)
  generalize cj ns (b+2) 2=dv at d0 d1⊢
  have hd:dv=0\/dv=1:=by omega
  rcases hd with rfl |rfl
  .exact aR (aX.of e2) (i:=0) rfl (q _ H2 (s1.trans s2) ⟨.one .all,trivial,aaO _,rfl,by show 1≤3;omega⟩)
  .refine aR (aX.of e2) (i:=1) rfl (q _ H2 (s1.trans s2) ⟨.one (.none p),hp,aaO _,?_,by show 2≤3;omega⟩)
   show Str.ofString "none "++cc.1=Str.join " " [Str.ofString "none",gQ cs p]
   rw[ajS,xV hcp,Ew.1]
 have hne:v≠ .non:=λe=>hne (by rw[e])
 have hwl:=(hv.word hkd).2.1
 have lb:(" ":Str).length=1:=by decide+kernel
 have fin:∀(l0:Addr) (G:Hp) (many:Int),au H1 G->G l0=some (.lst [.str ("is":Str),.str ("under":Str),.str ("over":Str),.str ("holds":Str)])->((many=4/\cc.2="text")\/many=3)->
   lH (vd true P w K mg base rF "_law_look" (aa dO) f cdv A outer s H E) ((az dO).drop 7) {nx:=λ_ H'=>Q .non H',rt:=Q} [some (.ref a),some (.int b),some (.ref c),some (.int p),some (.str cc.1),some (.str cc.2),some v,some (.ref l0),some (.int many)] G:=by
  intro l0 G many sG eG hm
  refine aq (bA ?_)
  walk_at "ex"
  refine⟨a,ns,b+2,many,rfl,(s1.trans sG).seq hS,hl,by omega,by omega,by omega,?_⟩
  have d0:=aV ns (b+2) (m:=many) (by omega)
  have d1:=aU ns (b+2) (m:=many) (by omega)
  generalize cj ns (b+2) many=dv at d0 d1⊢
  obtain⟨l,el,hh,ll⟩:∃l:Lk,lR [V.str ("is":Str),.str ("under":Str),.str ("over":Str),.str ("holds":Str)] dv=some (.str (j5 l))/\(l= .holds->cc.2="text")/\(j5 l).length≤5:=by
   have hd:dv=0\/dv=1\/dv=2\/(dv=3/\cc.2="text"):=by
    rcases hm with⟨h1,h2⟩ |h1
    .by_cases h3:dv=3
     .exact .inr (.inr (.inr ⟨h3,h2⟩))
     .omega
    .omega
   rcases hd with rfl |rfl |rfl |⟨rfl,h⟩
   .exact⟨.is,rfl,λz=>(by cases z),by decide+kernel⟩
   .exact⟨.under,rfl,λz=>(by cases z),by decide+kernel⟩
   .exact⟨.over,rfl,λz=>(by cases z),by decide+kernel⟩
   .exact⟨.holds,rfl,λ_=>h,by decide+kernel⟩
  refine aR (aX.of eG) el ?_
  walk_at "ex"
  refine aZ (by omega) ?_
  walk_at "ex"
  refine aZ (by rw[len_app];omega) ?_
  walk_at "ex"
  refine aZ (by rw[len_app,len_app];omega) ?_
  walk_at "ex"
  refine⟨v,cc.2,rfl,hv,?_⟩
  refine aZ (by rw[len_app,len_app,len_app];omega) ?_
  refine q _ G (s1.trans sG) ⟨.one (.look l p v),⟨cc,hcp,hv,hne,hh⟩,aaO _,?_,aaO _⟩
  show _=Str.join " " [j5 l,gQ cs p,wordOf v]
  rw[agK,xV hcp]
 refine aL (aj ?_)
 refine L2.Ur (i:=7) (x:="_law_looks") nd (by rfl) (Or.inl rfl) (by rfl) (Or.inl rfl) ?_
 walk_at "ex"
 refine⟨by show 4≤sizeLine;omega,λl0 h0=>?_⟩
 obtain⟨s2,e2⟩:=bR h0 (.lst [.str ("is":Str),.str ("under":Str),.str ("over":Str),.str ("holds":Str)])
 generalize upd H1 l0 (.lst [.str ("is":Str),.str ("under":Str),.str ("over":Str),.str ("holds":Str)])=H2 at s2 e2⊢
 walk_at "A"
 refine aj (bx ?_)
 walk_at "ex"
 refine dD (λ_=>?_) (λh=>?_)
 .refine aq ?_
  walk_at "s"
  walk_at "ex"
  exact fin l0 H2 3 s2 e2 (.inr rfl)
 .have ht:cc.2="text":=hkd.resolve_left λe=>h (by rw[e])
  exact aL (fin l0 H2 4 s2 e2 (.inl ⟨rfl,ht⟩))
def Wd(K:acF)(n d lo:Nat):Sp:=λvs H Q _=>∃(a c:Addr) (ns:List Int) (b:Int) (cs:List bC),vs=[.ref a,.int b,.ref c]/\aX K H a (ns.map V.int)/\ns.length≤63/\0≤b/\b≤lo/\dX H c cs/\aQ cs=true/\∀z H',au H H'->fQ cs z n d->Q (.str z) H'
theorem fQ.mono{cs:List bC}{z:Str}{n m d e:Nat}(h:fQ cs z n d)(hn:n≤m)(hd:d≤e):fQ cs z m e:=by
 obtain⟨t,h1,h2,h3,h4⟩:=h
 exact⟨t,h1,by omega,h3,by omega⟩
theorem oX(T:Txt K mg):Def P w K mg base true 4 "_law_sieve" ["_law_script","_law_base","_law_columns_here"] (Wd K 15 3 20000):=by
 refine BP T (λvs H Q E h=>by obtain⟨a,c,ns,b,cs,rfl,_⟩:=h;rfl) (λf cdv A outer s H vs Q E hr h=>?_)
 obtain⟨a,c,ns,b,cs,rfl,hS,hl,hb0,hb1,hC,hok,q⟩:=h
 have nd:=tX.nd
 have n1:=T.vg
 have hsz:=sizeLine_eq
 have D1:= @bZ P w K mg base T
 have D2:= @qN P w K mg base T
 have lb:(" ":Str).length=1:=by decide+kernel
 have ln:("not ":Str).length=4:=by decide+kernel
 have lbo:("both ":Str).length=5:=by decide+kernel
 have le:("either ":Str).length=7:=by decide+kernel
 walk_at "A"
 refine⟨a,c,ns,b,cs,rfl,hS,hl,by omega,by omega,hC,hok,λz0 H1 s1 hz0=>?_⟩
 refine aj ?_
 refine Fg (by walk_at "po") (by rfl) (by rfl) n1 (by rfl) ?_
 walk_at "ex"
 refine⟨a,ns,b+60,4,rfl,s1.seq hS,hl,by omega,by omega,by decide,?_⟩
 have d0:=aV ns (b+60) (m:=4) (by decide)
 have d1:=aU ns (b+60) (m:=4) (by decide)
 generalize cj ns (b+60) 4=dn at d0 d1⊢
 refine⟨_,rfl,by omega,by omega,λi σ H'=>(∃z o4 o5,σ=[some (.ref a),some (.int b),some (.ref c),some (.str z),o4,o5]/\fQ cs z (3+4*i) i)/\au H H',⟨⟨z0,none,none,rfl,hz0⟩,s1⟩,λi σ H' hi hP=>?_,λσ H' hP=>?_⟩
 .obtain⟨⟨z,o4,o5,rfl,hz⟩,sm⟩:=hP
  have hi3:i<3:=by omega
  have hzl:=hz.len hok
  refine aM nd (by rfl) (.inl rfl) (.inl rfl) ?_
  walk_at "A"
  refine⟨a,ns,_,3,rfl,sm.seq hS,hl,by omega,by omega,by decide,?_⟩
  generalize cj ns (b+61+(i:Int)) 3=way
  refine aq (bx ?_)
  walk_at "ex"
  refine dD (λ_=>?_) (λ_=>?_)
  .refine aq ?_
   walk_at "s"
   walk_at "ex"
   refine aZ (by omega) ?_
   refine⟨⟨_,_,_,rfl,?_⟩,sm⟩
   rw[Ew.2.1]
   exact hz.nt.mono (by omega) (by omega)
  refine aq (bx ?_)
  walk_at "ex"
  refine dD (λ_=>?_) (λ_=>?_)
  .refine aq ?_
   walk_at "s"
   walk_at "ex"
   refine aZ (by omega) ?_
   walk_at "ex"
   refine aZ (by rw[len_app];omega) ?_
   walk_at "ex"
   refine⟨a,c,ns,_,cs,rfl,sm.seq hS,hl,by omega,by omega,hC.same sm,hok,λy H2 s2 hy=>?_⟩
   have hyl:=hy.len hok
   refine aZ (by rw[len_app,len_app];omega) ?_
   refine⟨⟨_,_,_,rfl,?_⟩,sm.trans s2⟩
   rw[Ew.2.2.1]
   exact(fQ.two (k:=i) (.inl rfl) hz hy (by omega) (by omega)).mono (by omega) (by omega)
  .refine aq ?_
   walk_at "s"
   walk_at "ex"
   refine⟨a,c,ns,_,cs,rfl,sm.seq hS,hl,by omega,by omega,hC.same sm,hok,λy H2 s2 hy=>?_⟩
   have hyl:=hy.len hok
   refine aZ (by omega) ?_
   walk_at "ex"
   refine aZ (by rw[len_app];omega) ?_
   walk_at "ex"
   refine aZ (by rw[len_app,len_app];omega) ?_
   refine⟨⟨_,_,_,rfl,?_⟩,sm.trans s2⟩
   rw[Ew.2.2.2]
   exact(fQ.two (k:=i) (.inr rfl) hy hz (by omega) (by omega)).mono (by omega) (by omega)
 .obtain⟨⟨z,o4,o5,rfl,hz⟩,sm⟩:=hP
  have hd:dn.toNat≤3:=by omega
  refine aq (bA ?_)
  walk_at "ex"
  exact q z H' sm (hz.mono (by omega) (by omega))
def Yy(K:acF):Sp:=λvs H Q _=>∃(a c:Addr) (ns:List Int) (b:Int) (cs:List bC),vs=[.ref a,.int b,.ref c]/\aX K H a (ns.map V.int)/\ns.length≤63/\0≤b/\b≤10000/\dX H c cs/\aQ cs=true/\∀p M H',au H H'->uO H' p M->bW cs M->Q (.ref p) H'
theorem qX(T:Txt K mg):Def P w K mg base true 5 "_law_mark" ["_law_script","_law_base","_law_columns_here"] (Yy K):=by
 refine DY T (λvs H Q E h=>by obtain⟨a,c,ns,b,cs,rfl,_⟩:=h;rfl) (λf cdv A outer s H vs Q E hr h=>?_)
 obtain⟨a,c,ns,b,cs,rfl,hS,hl,hb0,hb1,hC,hok,q⟩:=h
 have nd:=vM.nd
 have hsz:=sizeLine_eq
 have D1:= @bZ P w K mg base T
 have D2:= @pC P w K mg base T
 have D3:= @uT P w K mg base T
 have D4:= @nR P w K mg base T
 have D5:= @oX P w K mg base T
 obtain⟨c1,c6⟩:=vI hok
 walk_at "A"
 refine⟨a,ns,b,c,cs,rfl,hS,hl,by omega,by omega,hC,hok,λo os H1 s1 ho hO hoo=>?_⟩
 obtain⟨o4,onn,oin⟩:=hoo
 have afO:∀o∈os,∃c∈cs,c.1=o.1:=λo ho=>by
  obtain⟨c,hc,e⟩:=adg.mp (oin o ho)
  exact⟨c,hc,e⟩
 walk_at "A"
 refine⟨by show 2≤sizeLine;omega,λl1 h1=>?_⟩
 obtain⟨s2,e2⟩:=bR h1 (.lst [.str ("living":Str),.str ("still":Str)])
 generalize upd H1 l1 (.lst [.str ("living":Str),.str ("still":Str)])=H2 at s2 e2⊢
 have s02:=s1.trans s2
 walk_at "ex"
 refine⟨a,ns,_,2,rfl,s02.seq hS,hl,by omega,by omega,by decide,?_⟩
 obtain⟨lv,elv⟩:∃lv:Bool,lR [V.str ("living":Str),.str ("still":Str)] (cj ns (b+12) 2)=some (.str (oG lv)):=by
  have d0:=aV ns (b+12) (m:=2) (by decide)
  have d1:=aU ns (b+12) (m:=2) (by decide)
  have hd:cj ns (b+12) 2=0\/cj ns (b+12) 2=1:=by omega
  rcases hd with e |e<;>rw[e]
  .exact⟨true,rfl⟩
  .exact⟨false,rfl⟩
 refine aR (aX.of e2) elv ?_
 walk_at "A"
 refine⟨a,ns,_,5001,rfl,s02.seq hS,hl,by omega,by omega,by decide,?_⟩
 have m0:=aV ns (b+13) (m:=5001) (by decide)
 have m1:=aU ns (b+13) (m:=5001) (by decide)
 generalize cj ns (b+13) 5001=mA at m0 m1⊢
 walk_at "ex"
 refine⟨a,ns,_,10,rfl,s02.seq hS,hl,by omega,by omega,by decide,?_⟩
 have m2:=aV ns (b+14) (m:=10) (by decide)
 have m3:=aU ns (b+14) (m:=10) (by decide)
 generalize cj ns (b+14) 10=mB at m2 m3⊢
 walk_at "ex"
 refine⟨by show 4≤sizeLine;omega,λl2 h2=>?_⟩
 obtain⟨s3,e3⟩:=bR h2 (.lst [.int 0,.int 5000,.int mA,.int mB])
 generalize upd H2 l2 (.lst [.int 0,.int 5000,.int mA,.int mB])=H3 at s3 e3⊢
 have s03:=s02.trans s3
 walk_at "A"
 refine⟨a,ns,_,4,rfl,s03.seq hS,hl,by omega,by omega,by decide,?_⟩
 obtain⟨mo,emo,hmo⟩:∃mo:Nat,lR [V.int 0,.int 5000,.int mA,.int mB] (cj ns (b+15) 4)=some (.int (mo:Int))/\mo≤5000:=by
  have d0:=aV ns (b+15) (m:=4) (by decide)
  have d1:=aU ns (b+15) (m:=4) (by decide)
  have hd:cj ns (b+15) 4=0\/cj ns (b+15) 4=1\/cj ns (b+15) 4=2\/cj ns (b+15) 4=3:=by omega
  rcases hd with e |e |e |e<;>rw[e]
  .exact⟨0,rfl,by omega⟩
  .exact⟨5000,rfl,by omega⟩
  .exact⟨mA.toNat,by rw[show((mA.toNat:Nat):Int)=mA from by omega];rfl,by omega⟩
  .exact⟨mB.toNat,by rw[show((mB.toNat:Nat):Int)=mB from by omega];rfl,by omega⟩
 refine aR (aX.of e3) emo ?_
 walk_at "A"
 refine⟨a,ns,_,500000,rfl,s03.seq hS,hl,by omega,by omega,by decide,?_⟩
 have r0:=aV ns (b+16) (m:=500000) (by decide)
 have r1:=aU ns (b+16) (m:=500000) (by decide)
 generalize cj ns (b+16) 500000=rA at r0 r1⊢
 walk_at "ex"
 refine⟨a,ns,_,30,rfl,s03.seq hS,hl,by omega,by omega,by decide,?_⟩
 have r2:=aV ns (b+17) (m:=30) (by decide)
 have r3:=aU ns (b+17) (m:=30) (by decide)
 generalize cj ns (b+17) 30=rB at r2 r3⊢
 walk_at "ex"
 refine⟨by show 4≤sizeLine;omega,λl3 h3=>?_⟩
 obtain⟨s4,e4⟩:=bR h3 (.lst [.int 0,.int 1000000000,.int rA,.int rB])
 change lH _ _ _ _ (upd H3 l3 (.lst [.int 0,.int 1000000000,.int rA,.int rB]))
 generalize upd H3 l3 (.lst [.int 0,.int 1000000000,.int rA,.int rB])=H4 at s4 e4⊢
 have s04:=s03.trans s4
 walk_at "A"
 refine⟨a,ns,_,4,rfl,s04.seq hS,hl,by omega,by omega,by decide,?_⟩
 obtain⟨rw',erw,hrw⟩:∃rr:Nat,lR [V.int 0,.int 1000000000,.int rA,.int rB] (cj ns (b+18) 4)=some (.int (rr:Int))/\rr≤1000000000:=by
  have d0:=aV ns (b+18) (m:=4) (by decide)
  have d1:=aU ns (b+18) (m:=4) (by decide)
  have hd:cj ns (b+18) 4=0\/cj ns (b+18) 4=1\/cj ns (b+18) 4=2\/cj ns (b+18) 4=3:=by omega
  rcases hd with e |e |e |e<;>rw[e]
  .exact⟨0,rfl,by omega⟩
  .exact⟨1000000000,rfl,by omega⟩
  .exact⟨rA.toNat,by rw[show((rA.toNat:Nat):Int)=rA from by omega];rfl,by omega⟩
  .exact⟨rB.toNat,by rw[show((rB.toNat:Nat):Int)=rB from by omega];rfl,by omega⟩
 refine aR (aX.of e4) erw ?_
 walk_at "A"
 refine⟨a,ns,_,c,cs,rfl,s04.seq hS,hl,by omega,by omega,hC.same s04,by omega,λv xs H5 s5 hv ev hxs=>?_⟩
 have s05:=s04.trans s5
 have s15:=(s2.trans (s3.trans s4)).trans s5
 walk_at "ex"
 refine⟨c,o,v,(rw':Int),cs,os,xs,rfl,hC.same s05,hO.same s15,ev,hxs.len.symm,by omega,by omega,afO,λk kv H6 s6 hk hkv ek ekv=>?_⟩
 have s06:=s05.trans s6
 walk_at "A"
 refine⟨by show 2≤sizeLine;omega,λl4 h4=>?_⟩
 obtain⟨s7,e7⟩:=bR h4 (.lst [.str ("ahead":Str),.str ("behind":Str)])
 generalize upd H6 l4 (.lst [.str ("ahead":Str),.str ("behind":Str)])=H7 at s7 e7⊢
 have s07:=s06.trans s7
 walk_at "ex"
 refine⟨a,ns,_,2,rfl,s07.seq hS,hl,by omega,by omega,by decide,?_⟩
 obtain⟨sd,esd⟩:∃sd:Bool,lR [V.str ("ahead":Str),.str ("behind":Str)] (cj ns (b+19) 2)=some (.str (qi sd)):=by
  have d0:=aV ns (b+19) (m:=2) (by decide)
  have d1:=aU ns (b+19) (m:=2) (by decide)
  have hd:cj ns (b+19) 2=0\/cj ns (b+19) 2=1:=by omega
  rcases hd with e |e<;>rw[e]
  .exact⟨true,rfl⟩
  .exact⟨false,rfl⟩
 refine aR (aX.of e7) esd ?_
 refine aq (bA ?_)
 walk_at "ex"
 refine⟨a,c,ns,_,cs,rfl,s07.seq hS,hl,by omega,by omega,hC.same s07,hok,λz H8 s8 hz=>?_⟩
 obtain⟨z1,z2,z3,z4⟩:=hz.good hok (by omega) (by omega)
 have s78:=s7.trans s8
 walk_at "ex"
 refine⟨by show 2≤sizeLine;omega,λcu hcu=>?_⟩
 obtain⟨s9,e9⟩:=bR hcu (.tup [.str (qi sd),.ref k])
 generalize upd H8 cu (.tup [.str (qi sd),.ref k])=H9 at s9 e9⊢
 walk_at "ex"
 refine⟨by show 5≤sizeLine;omega,λp hp=>?_⟩
 have s10:au H9 (upd H9 p (.tup [.str (oG lv),.int (mo:Int),.ref o,.str z,.ref cu])):=au.upd hp
 have s6x:=s78.trans (s9.trans s10)
 refine q p ⟨lv,mo,os,z,⟨sd,rw',Vf cs os xs⟩⟩ _ (s06.trans s6x) ⟨o,cu,ao,hO.same (s15.trans (s6.trans s6x)),k,kv,s10 _ _ e9,s6x _ _ ek,s6x _ _ ekv⟩ ⟨hmo,o4,oin,onn,hrw,GX hxs afO,z1,z2,z3,z4⟩
theorem Yt{l m:List Nat}{n:Nat}(hl:∀c∈l,48≤c/\c≤57)(hm:∀c∈m,48≤c/\c≤57)(ll:l.length≤5)(lm:m.length=4)(vl:Tg l=10000+n)(vm:Tg m=n)(hn:n<9973):l.drop 1=m:=by
 match m,lm with
 |[p,q,r,s],_=>
  have hp:=hm p (by simp)
  have hq:=hm q (by simp)
  have hr:=hm r (by simp)
  have hs:=hm s (by simp)
  have vm':(((0*10+(p-48))*10+(q-48))*10+(r-48))*10+(s-48)=n:=vm
  match l,ll with
  |[],_=>have :0=10000+n:=vl;omega
  |[a],_=>
   have ha:=hl a (by simp)
   have :0*10+(a-48)=10000+n:=vl
   omega
  |[a,b],_=>
   have ha:=hl a (by simp)
   have hb:=hl b (by simp)
   have :(0*10+(a-48))*10+(b-48)=10000+n:=vl
   omega
  |[a,b,c],_=>
   have ha:=hl a (by simp)
   have hb:=hl b (by simp)
   have hc:=hl c (by simp)
   have :((0*10+(a-48))*10+(b-48))*10+(c-48)=10000+n:=vl
   omega
  |[a,b,c,d],_=>
   have ha:=hl a (by simp)
   have hb:=hl b (by simp)
   have hc:=hl c (by simp)
   have hd:=hl d (by simp)
   have :(((0*10+(a-48))*10+(b-48))*10+(c-48))*10+(d-48)=10000+n:=vl
   omega
  |[a,b,c,d,e],_=>
   have ha:=hl a (by simp)
   have hb:=hl b (by simp)
   have hc:=hl c (by simp)
   have hd:=hl d (by simp)
   have he:=hl e (by simp)
   have :((((0*10+(a-48))*10+(b-48))*10+(c-48))*10+(d-48))*10+(e-48)=10000+n:=vl
   have e1:b=p:=by omega
   have e2:c=q:=by omega
   have e3:d=r:=by omega
   have e4:e=s:=by omega
   rw[e1,e2,e3,e4]
   rfl
theorem VP{n:Nat}(h:n<9973):bO (Str.ofString (toString ((10000+n:Nat):Int))) (some 1) none=cD n:=by
 apply bB
 have e0:=lJ (Str.ofString (toString ((10000+n:Nat):Int))) 1
 rw[show((1:Nat):Int)=1 from rfl]at e0
 rw[e0]
 have h4:=zq n h
 unfold xg at h4
 simp only[aaP,decide_eq_true_eq,adt]at h4
 have hl:=nA (m:=10000+n) (k:=5) (by decide) (by omega)
 have hx:=L2.len_list (Str.ofString (toString ((10000+n:Nat):Int)))
 have hy:=L2.len_list (cD n)
 refine Yt (n:=n) (d7 (10000+n)) (λc hc=>of_decide_eq_true (h4.2.1 c hc)) (by omega) (by omega) ?_ h4.2.2 h
 rw[iJ]
 exact W.KIN.val_back (10000+n)
def QR:Sp:=λvs H Q _=>∃z,vs=[.str z]/\z.length≤100000/\(∀c∈z.cps.toList,c<1114112)/\∀H',au H H'->Q (.str (z++Str.ofString "."++cD (bu z.cps.toList))) H'
theorem mR(T:Txt K mg):Def P w K mg base true 1 "_law_checked" ["_law_body_here"] QR:=by
 refine yQ T (λvs H Q E h=>by obtain⟨z,rfl,_⟩:=h;rfl) (λf cdv A outer s H vs Q E hr h=>?_)
 obtain⟨z,rfl,hz,hc,q⟩:=h
 have n1:=T.aad
 have n2:=T.Jy
 have n3:=T.adF
 have n4:=T.zU
 have nd:=qg.nd
 have hsz:=sizeLine_eq
 have lp:(".":Str).length=1:=by decide+kernel
 walk_at "A"
 refine aj ?_
 refine Xp (by walk_at "po") (by rfl) (by rfl) n2 (by rfl) ?_
 walk_at "ex"
 refine Yw (by rfl) hz λp hp=>?_
 obtain⟨sm,ep⟩:=bR hp (.lst (z.cps.toList.map λc=>V.str ⟨#[c]⟩))
 generalize upd H p (.lst (z.cps.toList.map λc=>V.str ⟨#[c]⟩))=H1 at sm ep⊢
 have yg:(z.cps.toList.map λc=>V.str ⟨#[c]⟩).length=z.cps.toList.length:=aar ..
 refine⟨p,_,rfl,aX.of ep,λi σ H'=>H'=H1/\∃t o,σ=[some (.str z),some (.int t),o]/\t=bu (z.cps.toList.drop (z.cps.toList.length-i)),⟨rfl,0,none,rfl,?_⟩,λi σ H' hi hP=>?_,λi x σ H' hlt hi hP=>?_,λσ H' hP=>?_⟩
 .rw[alj,at3]
  rfl
 .rw[hP.1]
  exact aX.of ep
 .obtain⟨rfl,t,o,rfl,e⟩:=hP
  rw[yg]at hlt
  rw[yg,aby]at hi
  have h1:z.cps.toList.length-1-i<z.cps.toList.length:=by omega
  rw[aak h1]at hi
  have hx:x= .str ⟨#[z.cps.toList[z.cps.toList.length-1-i]]⟩:=by
   have :=Option.some.inj hi
   exact this.symm
  subst hx
  have hcb:=hc _ (aeF h1)
  have hd:z.cps.toList.drop (z.cps.toList.length-(i+1))=z.cps.toList[z.cps.toList.length-1-i]::z.cps.toList.drop (z.cps.toList.length-i):=by
   have e1:z.cps.toList.length-(i+1)=z.cps.toList.length-1-i:=by omega
   have e2:z.cps.toList.length-i=z.cps.toList.length-1-i+1:=by omega
   rw[e1,e2,List.drop_eq_getElem_cons h1]
  have hb:=gb (z.cps.toList.drop (z.cps.toList.length-i))
  rw[<-e]at hb
  generalize z.cps.toList[z.cps.toList.length-1-i]=c at hcb hd⊢
  refine aM nd (by rfl) (.inl rfl) (.inl rfl) ?_
  refine aq ?_
  walk_at "s"
  walk_at "ex"
  refine⟨rfl,_,_,rfl,?_⟩
  rw[hd]
  show _=((c:Int)+137*bu _) % 9973
  rw[<-e,av3,Int.add_comm]
 .obtain⟨rfl,t,o,rfl,e⟩:=hP
  rw[yg,av6,aj6]at e
  have hb:=gb z.cps.toList
  rw[<-e]at hb
  obtain⟨n,rfl⟩:=aaA hb.1
  have hn:n<9973:=by omega
  rw[<-e]at q
  generalize bu z.cps.toList=cz at e q
  refine aq (bA ?_)
  walk_at "ex"
  refine aZ (by omega) ?_
  walk_at "ex"
  refine lN (jZ ?_) ?_
  .have :(10:Nat)^60>20000:=by decide
   omega
  walk_at "ex"
  have hl5:=cG (i:=10000+(n:Int)) (k:=5) (by decide) (by omega)
  refine iM (by omega) ?_
  have e4:=VP hn
  rw[show(((10000+n:Nat):Int))=10000+(n:Int)from by omega]at e4
  rw[e4]
  have h4:=lL (n:Int) (by omega) (by omega)
  refine aZ (by rw[len_app];omega) ?_
  exact q _ sm
def Iw:List V->Str
 |[]=>Str.ofString ""
 |x::r=>Str.ofString " "++wordOf x++Iw r
theorem z9:("":Str).cps.toList=[]:=by decide+kernel
theorem Gg(y:V):∀xs:List V,Iw (xs++[y])=Iw xs++Str.ofString " "++wordOf y
 |[]=>by
  show Str.ofString " "++wordOf y++Str.ofString ""=Str.ofString ""++Str.ofString " "++wordOf y
  apply bB
  simp[aA,z9]
 |x::r=>by
  show Str.ofString " "++wordOf x++Iw (r++[y])=(Str.ofString " "++wordOf x++Iw r)++Str.ofString " "++wordOf y
  rw[Gg y r]
  apply bB
  simp only[aA,aex]
theorem N5(a:Str):∀xs:List V,Str.join " " (a::xs.map wordOf)=a++Iw xs
 |[]=>by
  show a=a++Str.ofString ""
  apply bB
  simp[aA,z9]
 |x::r=>by
  show a++Str.ofString " "++Str.join " " (wordOf x::r.map wordOf)=a++(Str.ofString " "++wordOf x++Iw r)
  rw[N5 (wordOf x) r]
  apply bB
  simp only[aA,aex]
theorem Xa(M:Mk):bL M=bH M.living++Str.ofString "/"++Str.ofString (toString (M.moment:Int))++Str.ofString "/"++iU M.os++Str.ofString "/"++M.sieve++Str.ofString "/"++dN M.cut.ahead++Str.ofString (toString (M.cut.row:Int))++Iw M.cut.xs:=by
 have e:bL M=bH M.living++Str.ofString "/"++(Str.ofString (toString (M.moment:Int))++Str.ofString "/"++(iU M.os++Str.ofString "/"++(M.sieve++Str.ofString "/"++(dN M.cut.ahead++Str.join " " (Str.ofString (toString (M.cut.row:Int))::M.cut.xs.map wordOf))))):=rfl
 rw[e,N5]
 apply bB
 simp only[aA,aex]
def Xf:Sp:=λvs H Q _=>∃(p:Addr) (M:Mk) (cs:List bC),vs=[.ref p]/\uO H p M/\aQ cs=true/\bW cs M/\∀H',au H H'->Q (.str (bL M)) H'
theorem mW(T:Txt K mg):Def P w K mg base true 2 "_law_body" ["_law_mark_here"] Xf:=by
 refine Eo T (λvs H Q E h=>by obtain⟨p,M,cs,rfl,_⟩:=h;rfl) (λf cdv A outer s H vs Q E hr h=>?_)
 obtain⟨p,M,cs,rfl,⟨o,c,ep,⟨ws,eo,hws⟩,k,v,ec,ek,ev⟩,hc,hM,q⟩:=h
 have nd:=wG.nd
 have n1:=T.VJ
 have n2:=T.zU
 have hsz:=sizeLine_eq
 have ls:("/":Str).length=1:=by decide+kernel
 have lb:(" ":Str).length=1:=by decide+kernel
 have lpl:("+":Str).length=1:=by decide+kernel
 have lmi:("-":Str).length=1:=by decide+kernel
 have D1:= @mX P w K mg base T
 have hwl:=hws.len
 have hol:=hM.len
 have hot:=vZ hc hM
 have hsl:=hM.short
 have hxl:=hM.xsl
 have hll:(bH M.living).length=1:=by cases M.living<;>decide+kernel
 have hgl:(dN M.cut.ahead).length=1:=by cases M.cut.ahead<;>decide+kernel
 have hml:=cG (i:=(M.moment:Int)) (k:=4) (by decide) (by have :=hM.moment;have :(10:Nat)^4>5000:=by decide
                                                         omega)
 have hrl:=cG (i:=(M.cut.row:Int)) (k:=10) (by decide) (by have :=hM.row;have :(10:Nat)^10>1000000000:=by decide
                                                           omega)
 refine aj (eQ (by rfl) (by rfl) ?_)
 walk_at "ex"
 refine dW (by rfl) (by rfl) (by rfl) (dg.of ep) (by rfl) (aO (by rfl) (aM nd (by rfl) (.inl rfl) (.inl rfl) (aO (by rfl) (aM nd (by rfl) (.inl rfl) (.inl rfl) (aO (by rfl) (aM nd (by rfl) (.inl rfl) (.inl rfl) (aO (by rfl) (aM nd (by rfl) (.inl rfl) (.inl rfl) (aO (by rfl) (aM nd (by rfl) (.inl rfl) (.inl rfl) (cR ?_)))))))))))
 walk_at "A"
 refine⟨by show 0≤sizeLine;omega,λwl aa2=>?_⟩
 obtain⟨s1,e1⟩:=bR aa2 (.lst [])
 generalize upd H wl (.lst [])=H1 at s1 e1⊢
 refine aj (Ln (by walk_at "po") (by rfl) (by intro _;rfl) ?_)
 walk_at "ex"
 refine⟨o,ws,rfl,aX.of (s1 _ _ eo),λi σ H'=>(∃o7 o8,σ=[some (.ref p),some (.str (oG M.living)),some (.int M.moment),some (.ref o),some (.str M.sieve),some (.ref c),some (.ref wl),o7,o8,none,none])/\au H H'/\H' wl=some (.lst (((M.os.take i).map d9).map V.str)),⟨⟨none,none,rfl⟩,s1,e1⟩,λi σ' H' hi hP=>aX.of (hP.2.1 _ _ eo),λi x σ' H' hx hP=>?_,λσ' H' hP=>?_⟩
 .obtain⟨⟨o7,o8,rfl⟩,sm,ewl⟩:=hP
  obtain⟨oo,hoo,t,rfl,ht⟩:=hws.get hx
  have hnl:=eF (gk hc (hM.names oo (aaR hoo)))
  have hit:i<M.os.length:=(aan.mp hoo).1
  refine dW (by rfl) (by rfl) (by rfl) (dg.of (sm _ _ ht)) (by rfl) (aO (by rfl) (aM nd (by rfl) (.inl rfl) (.inl rfl) (aO (by rfl) (aM nd (by rfl) (.inl rfl) (.inl rfl) (cR ?_)))))
  refine aq (eU (by rfl) (fX F.plainAttrs_list F.slot_list_append F.type_list_append (by rfl) (by rfl) (by rfl) (by rfl) (by rfl) ?_))
  walk_at "e"
  refine⟨.inl ⟨rfl,_,aX.of ewl⟩,?_⟩
  walk_at "ex"
  refine⟨by show 2≤sizeLine;omega,λy hy=>?_⟩
  have sy:au H' (upd H' y (.lst [.str ("-":Str),.str ("+":Str)])):=au.upd hy
  have ey:(upd H' y (.lst [.str ("-":Str),.str ("+":Str)])) y=some (.lst [.str ("-":Str),.str ("+":Str)]):=ao
  generalize upd H' y (.lst [.str ("-":Str),.str ("+":Str)])=H2 at sy ey⊢
  walk_at "ex"
  refine jN tu (.inr ⟨_,rfl,?_⟩)
  have fin:∀sg:Str,sg.length=1->sg++oo.1=d9 oo->OP (vd true P w K mg base jP "_law_body" (aa di) f cdv A outer s H E) (binaryOp .Add) (.str sg) (.str oo.1) H2 (λv H3=>v= .str (d9 oo)/\H3=H2):=λsg h1 h2=>aZ (by omega) ⟨by rw[h2],rfl⟩
  have key:∀(sg:Str) (Q2:VK),sg.length=1->sg++oo.1=d9 oo->Q2 (.str (d9 oo)) H2->OP (vd true P w K mg base jP "_law_body" (aa di) f cdv A outer s H E) (binaryOp .Add) (.str sg) (.str oo.1) H2 Q2:=λsg Q2 h1 h2 hq=>aZ (by omega) (by rw[h2];exact hq)
  have htk:((M.os.take (i+1)).map d9).map V.str=((M.os.take i).map d9).map V.str++[.str (d9 oo)]:=by
   rw[amT,hoo,agi,agi]
   rfl
  have aD7:EA (vd true P w K mg base jP "_law_body" (aa di) f cdv A outer s H E) [] [some (.ref p),some (.str (oG M.living)),some (.int M.moment),some (.ref o),some (.str M.sieve),some (.ref c),some (.ref wl),some (.str oo.1),some (.bl oo.2),none,none] H2 (λvs H3=>vs=[]/\H3=H2):=nP ⟨rfl,rfl⟩
  have hlt:(((M.os.take i).map d9).map V.str).length≤4:=by rw[aar,aar,afm];omega
  obtain⟨nm,up⟩:=oo
  cases up with
  |true=>
   refine aR (aX.of ey) (i:=1) rfl ?_
   walk_at "ex"
   refine key _ _ lpl rfl ?_
   walk_at "ex"
   refine j9 lK ⟨wl,_,_,rfl,rfl,sy _ _ ewl,by omega,?_⟩
   refine⟨⟨_,_,rfl⟩,λb u e=>?_,by rw[ao,htk]⟩
   rw[aF (aB e aa2)]
   exact sy _ _ (sm _ _ e)
  |false=>
   refine aR (aX.of ey) (i:=0) rfl ?_
   walk_at "ex"
   refine key _ _ lmi rfl ?_
   walk_at "ex"
   refine j9 lK ⟨wl,_,_,rfl,rfl,sy _ _ ewl,by omega,?_⟩
   refine⟨⟨_,_,rfl⟩,λb u e=>?_,by rw[ao,htk]⟩
   rw[aF (aB e aa2)]
   exact sy _ _ (sm _ _ e)
 obtain⟨⟨o7,o8,rfl⟩,sm,ewl⟩:=hP
 rw[hwl,aj4]at ewl
 walk_at "A"
 refine⟨by show 2≤sizeLine;omega,λy hy=>?_⟩
 have sy:au H' (upd H' y (.lst [.str ("s":Str),.str ("l":Str)])):=au.upd hy
 have ey:(upd H' y (.lst [.str ("s":Str),.str ("l":Str)])) y=some (.lst [.str ("s":Str),.str ("l":Str)]):=ao
 generalize upd H' y (.lst [.str ("s":Str),.str ("l":Str)])=H2 at sy ey⊢
 walk_at "ex"
 refine jN tu (.inr ⟨_,rfl,?_⟩)
 have el:lR [V.str ("s":Str),.str ("l":Str)] (if decide (V.str (oG M.living)=V.str ("living":Str))=true then 1 else 0)=some (.str (bH M.living)):=by
  cases M.living
  .rw[decide_eq_false (show ¬V.str (oG false)=V.str ("living":Str)from by decide+kernel)]
   rfl
  .rw[decide_eq_true (show V.str (oG true)=V.str ("living":Str)from rfl)]
   rfl
 refine aR (aX.of ey) el ?_
 walk_at "ex"
 refine aZ (by omega) ?_
 walk_at "ex"
 refine lN (jZ ?_) ?_
 .have :=hM.moment
  have :(10:Nat)^60>5000:=by decide
  omega
 walk_at "ex"
 refine aZ (by rw[len_app];omega) ?_
 walk_at "ex"
 refine aZ (by rw[len_app,len_app];omega) ?_
 have gh:=sm.trans sy
 walk_at "A"
 have hsum:=DG (M.os.map d9) 9 λq hq=>by
  obtain⟨o,ho,rfl⟩:=adg.mp hq
  have :=eF (gk hc (hM.names o ho))
  unfold d9
  rw[len_app]
  split <;>omega
 rw[aar]at hsum
 refine xq (ys:=M.os.map d9) (aX.of (sy _ _ ewl)) (by rw[lb,aar];omega) ?_
 have aAy:(Str.join " " (M.os.map d9)).length≤100:=hot
 walk_at "ex"
 refine aZ (by rw[len_app,len_app,len_app];omega) ?_
 walk_at "ex"
 refine aZ (by rw[len_app,len_app,len_app,len_app];omega) ?_
 walk_at "ex"
 refine aZ (by rw[len_app,len_app,len_app,len_app,len_app];omega) ?_
 walk_at "ex"
 refine aZ (by rw[len_app,len_app,len_app,len_app,len_app,len_app];omega) ?_
 walk_at "A"
 refine⟨by show 2≤sizeLine;omega,λy2 hy2=>?_⟩
 obtain⟨sy2,Iz⟩:=bR hy2 (.lst [.str (">":Str),.str ("<":Str)])
 generalize upd H2 y2 (.lst [.str (">":Str),.str ("<":Str)])=H3 at sy2 Iz⊢
 have sm3:=gh.trans sy2
 walk_at "ex"
 refine cQ (dg.of (sm3 _ _ ec)) (i:=0) rfl ?_
 walk_at "ex"
 refine jN tu (.inr ⟨_,rfl,?_⟩)
 have es:lR [V.str (">":Str),.str ("<":Str)] (if decide (V.str (qi M.cut.ahead)=V.str ("ahead":Str))=true then 1 else 0)=some (.str (dN M.cut.ahead)):=by
  cases M.cut.ahead
  .rw[decide_eq_false (show ¬V.str (qi false)=V.str ("ahead":Str)from by decide+kernel)]
   rfl
  .rw[decide_eq_true (show V.str (qi true)=V.str ("ahead":Str)from rfl)]
   rfl
 refine aR (aX.of Iz) es ?_
 refine aZ (by rw[len_app,len_app,len_app,len_app,len_app,len_app,len_app];omega) ?_
 walk_at "ex"
 refine cQ (dg.of (sm3 _ _ ec)) (i:=1) rfl ?_
 walk_at "ex"
 refine cQ (dg.of (sm3 _ _ ek)) (i:=1) rfl ?_
 walk_at "ex"
 refine lN (jZ ?_) ?_
 .have :=hM.row
  have :(10:Nat)^60>1000000000:=by decide
  omega
 refine aZ (by rw[len_app,len_app,len_app,len_app,len_app,len_app,len_app,len_app];omega) ?_
 have hB:((bH M.living++Str.ofString "/"++Str.ofString (toString (M.moment:Int))++Str.ofString "/"++Str.join " " (M.os.map d9)++Str.ofString "/"++M.sieve++Str.ofString "/"++dN M.cut.ahead++Str.ofString (toString (M.cut.row:Int))):Str).length≤3200:=by
  rw[len_app,len_app,len_app,len_app,len_app,len_app,len_app,len_app,len_app]
  omega
 have hBe:bL M=(bH M.living++Str.ofString "/"++Str.ofString (toString (M.moment:Int))++Str.ofString "/"++Str.join " " (M.os.map d9)++Str.ofString "/"++M.sieve++Str.ofString "/"++dN M.cut.ahead++Str.ofString (toString (M.cut.row:Int)))++Iw M.cut.xs:=Xa M
 generalize(bH M.living++Str.ofString "/"++Str.ofString (toString (M.moment:Int))++Str.ofString "/"++Str.join " " (M.os.map d9)++Str.ofString "/"++M.sieve++Str.ofString "/"++dN M.cut.ahead++Str.ofString (toString (M.cut.row:Int)):Str)=B at hB hBe⊢
 refine aj (Ln (by walk_at "po") (by rfl) (by intro _;rfl) ?_)
 walk_at "ex"
 refine cQ (dg.of (sm3 _ _ ec)) (i:=1) rfl ?_
 walk_at "ex"
 refine cQ (dg.of (sm3 _ _ ek)) (i:=0) rfl ?_
 refine⟨v,M.cut.xs,rfl,aX.of (sm3 _ _ ev),λi σ G=>(∃o10,σ=[some (.ref p),some (.str (oG M.living)),some (.int M.moment),some (.ref o),some (.str M.sieve),some (.ref c),some (.ref wl),o7,o8,some (.str (B++Iw (M.cut.xs.take i))),o10])/\G=H3,⟨⟨none,by
  have e:B++Iw (M.cut.xs.take 0)=B:=by
   apply bB
   show(B++Str.ofString "").cps.toList=_
   rw[aA,z9,List.append_nil]
  rw[e]
  rfl⟩,rfl⟩,λi σ' G hi hP=>by rw[hP.2];exact aX.of (sm3 _ _ ev),λi x σ' G hx hP=>?_,λσ' G hP=>?_⟩
 .obtain⟨⟨o10,rfl⟩,rfl⟩:=hP
  have hxm:=aaR hx
  obtain⟨oo,hoo,hv⟩:=hM.vals.TF x hxm
  have hw1:=(hM.Ie hc x hxm).2.1
  have htl:∀ys:List V,(∀y∈ys,(wordOf y).length≤21)->(Iw ys).length≤22*ys.length:=by
   intro ys
   induction ys with
   |nil=>intro _;show("":Str).length≤0;decide+kernel
   |cons y ys ih=>
    intro h
    have :=ih λz hz=>h z (by simp[hz])
    have :=h y (by simp)
    show(Str.ofString " "++wordOf y++Iw ys).length≤22*(ys.length+1)
    rw[len_app,len_app]
    omega
  have h1:=htl (M.cut.xs.take i) λy hy=>(hM.Ie hc y (afx hy)).2.1
  have h2:(M.cut.xs.take i).length≤4:=by rw[afm];omega
  refine aM nd (by rfl) (.inl rfl) (.inl rfl) ?_
  refine aq ?_
  walk_at "s"
  walk_at "ex"
  refine aZ (by rw[len_app];omega) ?_
  walk_at "ex"
  refine⟨x,_,rfl,hv,?_⟩
  refine aZ (by rw[len_app,len_app];omega) ?_
  refine⟨⟨some x,?_⟩,rfl⟩
  have e:B++Iw (M.cut.xs.take (i+1))=B++Iw (M.cut.xs.take i)++Str.ofString " "++wordOf x:=by
   rw[amT,hx]
   show B++Iw (M.cut.xs.take i++[x])=_
   rw[Gg]
   apply bB
   simp only[aA,aex]
  rw[e]
  rfl
 .obtain⟨⟨o10,rfl⟩,rfl⟩:=hP
  rw[aj4, <-hBe]
  refine aq (bA ?_)
  walk_at "ex"
  exact q _ sm3
def Yl(mg:Str->Option Value)(H:Hp)(E:XK)(n:Nat):Prop:=∀e b H',au H H'->H' e=some (.xd [("at",.int n)])->E (.ref (ak mg "NoSieve")) (some e,b) H'
theorem Yl.same{mg:Str->Option Value}{H H':Hp}{E:XK}{n:Nat}(h:Yl mg H E n)(s:au H H'):Yl mg H' E n:=λe b G sm he=>h e b G (s.trans sm) he
def ae4(kd:Str)(ws:List Str)(p:Nat):Prop:=¬(p<ws.length/\p<60)\/∃z,ws[p]? =some z/\(gB kd z=none\/gB kd z=some .non)
def S7(K:acF)(mg:Str->Option Value):Sp:=λvs H Q E=>∃(kd:Str) (a:Addr) (ws:List Str) (p:Nat),vs=[.str kd,.ref a,.int p]/\aX K H a (ws.map V.str)/\ws.length≤4000/\(∀z∈ws,z.length≤1000)/\p≤100000/\ae4 kd ws p/\Yl mg H E p
theorem Dz(T:Txt K mg):Def P w K mg base true 6 "read_word" ["kind","words","place"] (S7 K mg):=by
 refine v9 T (λvs H Q E h=>by obtain⟨kd,a,ws,p,rfl,_⟩:=h;rfl) (λf cdv A outer s H vs Q E hr h=>?_)
 obtain⟨kd,a,ws,p,rfl,hS,hl,hz,hp,hbad,q⟩:=h
 have nd:=pQ.nd
 have D1:= @iY P w K mg base T
 have D2:= @iC P w K mg base T
 walk_at "A"
 refine⟨a,ws,p,rfl,hS,hl,hp,λhb e H' sm he=>q e true H' sm he,λz hz' h60=>?_⟩
 have hlt:=(aan.mp hz').1
 have hb2:gB kd z=none\/gB kd z=some .non:=by
  rcases hbad with hb |⟨z',hz2,hb⟩
  .exact absurd ⟨hlt,h60⟩ hb
  .rw[hz']at hz2
   cases hz2
   exact hb
 have hzl:=hz z (aaR hz')
 refine aj ?_
 refine Bg (λσ c d H'=>σ=[some (.str kd),some (.ref a),some (.int p),some (.str z),none]/\c= .ref (ak mg "NoValue")/\d=(none,true)/\au H H') rfl rfl (λF pn xo po=>?_) (λσ c d H' hK=>?_)
 .refine aq ?_
  walk_at "s"
  walk_at "ex"
  refine⟨kd,z,rfl,by omega,λH' sm=>?_⟩
  rcases hb2 with hb |hb
  .rw[hb]
   exact⟨rfl,rfl,rfl,sm⟩
  .rw[hb]
   refine aL ?_
   refine aj (bx ?_)
   walk_at "ex"
   refine aq (jA (jc T (cc:=true)) hr (by decide) (λ_=>rfl) bF (by rfl) (by rfl) (by decide) (by rfl) (by rfl) ?_)
   walk_at "ex"
   exact⟨p,rfl,by omega,λe H2 gh he=>q e true H2 (sm.trans gh) he⟩
 .obtain⟨rfl,rfl,rfl,sm⟩:=hK
  refine Tq (k:=1) bF rfl rfl (by rfl) T.Dl (by decide) (vJ T.iy) rfl (jc T (cc:=false)) hr (by decide) (by rfl) (by decide) (by rfl) (by rfl) (λe pn=>?_)
  walk_at "ex"
  exact⟨p,rfl,by omega,λe H2 gh he=>q e false H2 (sm.trans gh) he⟩
def Vn(K:acF)(mg:Str->Option Value):Sp:=λvs H Q E=>∃(b:Addr) (cs:List bC) (a:Addr) (ws:List Str) (s:Nat),vs=[.ref b,.ref a,.int s]/\dX H b cs/\aX K H a (ws.map V.str)/\ws.length≤4000/\s≤60/\gn cs ws (s+1)=none/\Yl mg H E (s+1)
theorem Fq(T:Txt K mg):Def P w K mg base true 5 "read_none" ["columns","words","start"] (Vn K mg):=by
 refine wJ T (λvs H Q E h=>by obtain⟨b,cs,a,ws,s,rfl,_⟩:=h;rfl) (λf cdv A outer s H vs Q E hr h=>?_)
 obtain⟨b,cs,a,ws,s0,rfl,hC,hS,hl,hs,hi,q⟩:=h
 have nd:=pB.nd
 have D1:= @fZ P w K mg base T
 walk_at "A"
 exact⟨b,cs,a,ws,s0+1,by simp,hC,hS,hl,by omega,λ_ e H' sm he=>q e true H' sm he,λi' H2 gh e=>by rw[hi]at e;cases e⟩
inductive xM (cs:List bC) (ws:List Str) (s:Nat) (l:Lk):Nat->Prop
 |col:gn cs ws (s+1)=none->xM cs ws s l (s+1)
 |kind {i:Nat} {c:bC}:l= .holds->gn cs ws (s+1)=some i->cs[i]? =some c->c.2≠"text"->xM cs ws s l (s+1)
 |val {i:Nat} {c:bC}:gn cs ws (s+1)=some i->cs[i]? =some c->(l= .holds->c.2="text")->ae4 c.2 ws (s+2)->xM cs ws s l (s+2)
def Yh(K:acF)(mg:Str->Option Value):Sp:=λvs H Q E=>∃(l:Lk) (b:Addr) (cs:List bC) (a:Addr) (ws:List Str) (s n:Nat),vs=[.ref b,.ref a,.int s]/\dX H b cs/\aX K H a (ws.map V.str)/\ws.length≤4000/\(∀z∈ws,z.length≤1000)/\s≤60/\ws[s]? =some (j5 l)/\xM cs ws s l n/\Yl mg H E n
theorem xT(T:Txt K mg):Def P w K mg base true 7 "read_of_value" ["columns","words","start"] (Yh K mg):=by
 refine oM T (λvs H Q E h=>by obtain⟨l,b,cs,a,ws,s,n,rfl,_⟩:=h;rfl) (λf cdv A outer s H vs Q E hr h=>?_)
 obtain⟨l,b,cs,a,ws,s0,n,rfl,hC,hS,hl,hz,hs,hw,hno,q⟩:=h
 have nd:=jH.nd
 have g1:=T.vh
 have g2:=T.TQ
 have D1:= @fZ P w K mg base T
 have D3:= @Dz P w K mg base T
 walk_at "A"
 refine aR hS (bz (by rw[aby,hw];rfl)) ?_
 walk_at "A"
 cases hno with
 |col hi=>exact⟨b,cs,a,ws,s0+1,by simp,hC,hS,hl,by omega,λ_ e H' sm he=>q e true H' sm he,λi' H2 gh e=>by rw[hi]at e;cases e⟩
 | @kind i c hh hi hc hk=>
   refine⟨b,cs,a,ws,s0+1,by simp,hC,hS,hl,by omega,λe=>(by rw[hi]at e;cases e),λi' H2 gh e=>?_⟩
   rw[hi]at e
   cases e
   subst hh
   obtain⟨vs,hb,hvs⟩:=hC.same gh
   obtain⟨cv,gc,t,rfl,ht⟩:=hvs.get' hc
   walk_at "A"
   refine aR (aX.of hb) (bz gc) ?_
   walk_at "ex"
   refine cQ (dg.of ht) (show lR [V.str c.1,V.str c.2] 1=some (V.str c.2)from rfl) ?_
   refine aj (bx ?_)
   walk_at "ex"
   refine dD (λ_=>?_) (λh=>absurd rfl h)
   walk_at "ex"
   refine O2 (λ_=>?_) (λh=>absurd h ?_)
   .refine aq (jA (jc T (cc:=true)) hr (by decide) (λ_=>rfl) bF (by rfl) (by rfl) (by decide) (by rfl) (by rfl) ?_)
    walk_at "ex"
    exact⟨(s0+1:Nat),by simp,by omega,λe H3 sm3 he=>q e true H3 (gh.trans sm3) he⟩
   .intro e
    exact hk (V.str.inj e)
 | @val i c hi hc hh hbv=>
   refine⟨b,cs,a,ws,s0+1,by simp,hC,hS,hl,by omega,λe=>(by rw[hi]at e;cases e),λi' H2 gh e=>?_⟩
   rw[hi]at e
   cases e
   obtain⟨vs,hb,hvs⟩:=hC.same gh
   obtain⟨cv,gc,t,rfl,ht⟩:=hvs.get' hc
   walk_at "A"
   refine aR (aX.of hb) (bz gc) ?_
   walk_at "ex"
   refine cQ (dg.of ht) (show lR [V.str c.1,V.str c.2] 1=some (V.str c.2)from rfl) ?_
   have rest:lH (vd true P w K mg base jU "read_of_value" (aa cC) f cdv A outer s H E) ((az cC).drop 4) {nx:=λ_ H'=>Q .non H',rt:=Q} [some (.ref b),some (.ref a),some (.int s0),some (.str (j5 l)),some (.int i),some (.str c.2),none,none] H2:=by
    walk_at "A"
    exact⟨c.2,a,ws,s0+2,by simp,gh.seq hS,hl,hz,by omega,hbv,λe b H3 sm3 he=>q e b H3 (gh.trans sm3) he⟩
   refine aj (bx ?_)
   walk_at "ex"
   refine dD (λh=>?_) (λ_=>?_)
   .walk_at "ex"
    have hL:l= .holds:=by cases l<;>first |rfl |exact absurd h (by decide+kernel)
    refine O2 (λh2=>absurd (by rw[hh hL]) h2) (λ_=>?_)
    exact aL rest
   .walk_at "ex"
    exact aL rest
theorem pW{x y:Str}(h:Jd (V.str x) (V.str y)=true):x=y:=by simpa [Jd]using h
def W3:List Str:=["not","both","either"]
def W9:List Str:=["all","none","is","under","over","holds","not","both","either"]
inductive iD (cs:List bC) (ws:List Str):Nat->Nat->Nat->Prop
 |lack {k s:Nat}:¬(s<ws.length/\s<60)->iD cs ws k s s
 |odd {k s:Nat} {z:Str}:ws[s]? =some z->s<60->z∉W9->iD cs ws k s s
 |none {k s:Nat}:ws[s]? =some "none"->s<60->gn cs ws (s+1)=none->iD cs ws k s (s+1)
 |look {k s n:Nat} {l:Lk}:ws[s]? =some (j5 l)->s<60->xM cs ws s l n->iD cs ws k s n
 |deep {k s:Nat} {z:Str}:ws[s]? =some z->s<60->z∈W3->20≤k->iD cs ws k s s
 |first {k s n:Nat} {z:Str}:ws[s]? =some z->s<60->z∈W3->k<20->iD cs ws (k+1) (s+1) n->iD cs ws k s n
 |second {k s m n:Nat} {z:Str} {t:Tr}:ws[s]? =some z->s<60->(z="both"\/z="either")->k<20->Reads cs ws t (s+1) m->k+1+t.dep≤20->iD cs ws (k+1) m n->iD cs ws k s n
def Bp(K:acF)(mg:Str->Option Value)(k:Nat):Sp:=λvs H Q E=>∃(b:Addr) (cs:List bC) (a:Addr) (ws:List Str) (s n:Nat),vs=[.ref b,.ref a,.int s,.int k]/\dX H b cs/\aX K H a (ws.map V.str)/\ws.length≤4000/\(∀z∈ws,z.length≤1000)/\s≤5000/\iD cs ws k s n/\Yl mg H E n
def aaf(K:acF)(mg:Str->Option Value)(k:Nat):Sp:=λvs H Q E=>∃(b:Addr) (cs:List bC) (a:Addr) (ws:List Str) (s n:Nat) (z:Str),vs=[.ref b,.ref a,.int s,.int k]/\dX H b cs/\aX K H a (ws.map V.str)/\ws.length≤4000/\(∀z∈ws,z.length≤1000)/\s<60/\ws[s]? =some z/\z∈W3/\Yl mg H E n/\
 ((20<k/\n=s)\/(k≤20/\(iD cs ws k (s+1) n\/((z="both"\/z="either")/\∃t m,Reads cs ws t (s+1) m/\k+t.dep≤20/\iD cs ws k m n))))
theorem osf(T:Txt K mg){k lv:Nat}(h3:3≤lv)(hlv:k≤20->8+2*(20-k)≤lv)(DF:k≤20->Def P w K mg base true lv "read_part" ["columns","words","start","within"] (Bp K mg k)):Def P w K mg base true (lv+1) "read_of_sieves" ["columns","words","start","within"] (aaf K mg k):=by
 refine gq T (λvs H Q E h=>by obtain⟨b,cs,a,ws,s,n,z,rfl,_⟩:=h;rfl) (λf cdv A outer s H vs Q E hr h=>?_)
 obtain⟨b,cs,a,ws,s0,n,z,rfl,hC,hS,hl,hz,qC,hws,hz3,q,hcase⟩:=h
 have nd:=dU.nd
 have hsz:=sizeLine_eq
 have g1:=T.jM
 have g2:=T.CW
 have sw:aX K H a (ws.map V.str):=hS
 have e1:(s0:Int)+1=((s0+1:Nat):Int):=by omega
 refine aj (bx ?_)
 walk_at "ex"
 rcases hcase with⟨hk,rfl⟩ |⟨hk,hcase⟩
 .refine dD (λ_=>?_) (λh=>absurd (by omega) h)
  refine aq (jA (jc T (cc:=true)) hr (by omega) (λ_=>rfl) bF (by rfl) (by rfl) (by decide) (by rfl) (by rfl) ?_)
  walk_at "ex"
  exact⟨n,rfl,by omega,λe H2 gh he=>q e true H2 gh he⟩
 .have D1:=DF hk
  refine dD (λh=>absurd h (by omega)) (λ_=>?_)
  refine aL (aj ?_)
  walk_at "s"
  walk_at "ex"
  refine aR sw (v:=.str z) (bz (by rw[aby,hws];rfl)) ?_
  rcases hcase with hf |⟨hz2,t,m,Vd,hdp,hf⟩
  .refine aj (eQ (by rfl) (by rfl) ?_)
   walk_at "ex"
   rw[e1]
   exact⟨b,cs,a,ws,s0+1,n,rfl,hC,hS,hl,hz,by omega,hf,q⟩
  .have hle:=Vd.le
   have D2:True->Def P w K mg base true lv "read_part" ["columns","words","start","within"] (Bp K mg k):=λ_=>D1
   clear D1 DF
   have D0:= @rH P w K mg base T t
   have hl2:=hlv hk
   have hl3:8+2*t.dep≤lv:=by omega
   refine aj (eQ (by rfl) (by rfl) ?_)
   walk_at "ex"
   rw[e1]
   refine⟨b,cs,a,ws,s0+1,_,k,rfl,hC,hS,hl,hz,by omega,by omega,Vd,λp1 v1 H1 iK hp1 hv1=>?_⟩
   refine dW (by rfl) (by rfl) (by rfl) (dg.of hp1) (by rfl) (aO (by rfl) (aM nd (by rfl) (.inl rfl) (.inl rfl) (aO (by rfl) (aM nd (by rfl) (.inl rfl) (.inl rfl) (cR ?_)))))
   refine aj (bx ?_)
   walk_at "ex"
   refine dD (λh=>?_) (λ_=>?_)
   .have :z="not":=by cases h;rfl
    rw[this]at hz2
    rcases hz2 with z |z<;>exact absurd z (by decide+kernel)
   clear D0
   have D2:=D2 trivial
   refine aL (aj (eQ (by rfl) (by rfl) ?_))
   walk_at "ex"
   exact⟨b,cs,a,ws,m,n,rfl,hC.same iK,iK.seq hS,hl,hz,by omega,hf,q.same iK⟩
theorem pf(T:Txt K mg){k lv:Nat}(h8:7≤lv)(DS:Def P w K mg base true lv "read_of_sieves" ["columns","words","start","within"] (aaf K mg (k+1))):Def P w K mg base true (lv+1) "read_part" ["columns","words","start","within"] (Bp K mg k):=by
 refine oY T (λvs H Q E h=>by obtain⟨b,cs,a,ws,s,n,rfl,_⟩:=h;rfl) (λf cdv A outer s H vs Q E hr h=>?_)
 obtain⟨b,cs,a,ws,s0,n,rfl,hC,hS,hl,hz,hs,hf,q⟩:=h
 have nd:=lg.nd
 have hsz:=sizeLine_eq
 have g1:=T.vh
 have g2:=T.Vb
 have g3:=T.YQ
 have g4:=T.zg
 have g5:=T.Ed
 have g6:=T.Ky
 have g7:=T.CW
 have g8:=T.Bh
 have g9:=T.Hi
 have D1:= @iY P w K mg base T
 have D2:= @Fq P w K mg base T
 have D3:= @xT P w K mg base T
 walk_at "A"
 refine⟨a,ws,s0,rfl,hS,hl,by omega,λhb e H' sm he=>?_,λz hw qC=>?_⟩
 .have hn:n=s0:=by
   cases hf with
   |lack _=>rfl
   |odd h1 h2 _=>exact absurd ⟨(aan.mp h1).1,h2⟩ hb
   |none h1 h2 _=>exact absurd ⟨(aan.mp h1).1,h2⟩ hb
   |look h1 h2 _=>exact absurd ⟨(aan.mp h1).1,h2⟩ hb
   |deep h1 h2 _ _=>rfl
   |first h1 h2 _ _ _=>exact absurd ⟨(aan.mp h1).1,h2⟩ hb
   |second h1 h2 _ _ _ _ _=>exact absurd ⟨(aan.mp h1).1,h2⟩ hb
  subst hn
  exact q e true H' sm he
 have hlt:=(aan.mp hw).1
 have ek:((k:Int)+1)=((k+1:Nat):Int):=by omega
 have inA:¬z="all":=by
  rintro rfl
  cases hf with
  |lack h=>exact h ⟨hlt,qC⟩
  |odd h1 _ h2=>rw[hw]at h1;cases h1;exact h2 (by decide+kernel)
  |none h1=>rw[hw]at h1;exact absurd h1 (by decide+kernel)
  | @look _ _ _ l h1=>rw[hw]at h1;cases l<;>exact absurd h1 (by decide+kernel)
  |deep h1 _ h2=>rw[hw]at h1;cases h1;exact absurd h2 (by decide+kernel)
  |first h1 _ h2=>rw[hw]at h1;cases h1;exact absurd h2 (by decide+kernel)
  |second h1 _ h2=>rw[hw]at h1;cases h1;rcases h2 with h2 |h2<;>exact absurd h2 (by decide+kernel)
 refine aj (bx ?_)
 walk_at "ex"
 refine dD (λh=>absurd (by cases h;rfl) inA) (λ_=>?_)
 refine aL (aj (bx ?_))
 walk_at "ex"
 refine dD (λh=>?_) (λhnn=>?_)
 .have hzn:z="none":=by cases h;rfl
  subst hzn
  have aer:gn cs ws (s0+1)=none/\n=s0+1:=by
   cases hf with
   |lack h=>exact absurd ⟨hlt,qC⟩ h
   |odd h1 _ h2=>rw[hw]at h1;cases h1;exact absurd (by decide+kernel) h2
   |none h1 h2 h3=>exact⟨h3,rfl⟩
   | @look _ _ _ l h1=>rw[hw]at h1;cases l<;>exact absurd h1 (by decide+kernel)
   |deep h1 _ h2=>rw[hw]at h1;cases h1;exact absurd h2 (by decide+kernel)
   |first h1 _ h2=>rw[hw]at h1;cases h1;exact absurd h2 (by decide+kernel)
   |second h1 _ h2=>rw[hw]at h1;cases h1;rcases h2 with h2 |h2<;>exact absurd h2 (by decide+kernel)
  obtain⟨aer,rfl⟩:=aer
  refine aq (bA ?_)
  walk_at "ex"
  exact⟨b,cs,a,ws,s0,rfl,hC,hS,hl,by omega,aer,q⟩
 have hnn:¬z="none":=λe=>hnn (by rw[e])
 refine aL (aj (bx ?_))
 walk_at "ex"
 refine⟨by show 4≤sizeLine;omega,λtp htp=>?_⟩
 refine GJ (dg.of ao) (by rfl) (by rfl) ?_
 have wO:au H (upd H tp (.tup [.str "is",.str "under",.str "over",.str "holds"])):=au.upd htp
 generalize upd H tp (.tup [.str "is",.str "under",.str "over",.str "holds"])=H2 at wO⊢
 by_cases hlk:∃l,z=j5 l
 .obtain⟨l,rfl⟩:=hlk
  have e3:Fx (V.str (j5 l)) [V.str ("is":Str),V.str ("under":Str),V.str ("over":Str),V.str ("holds":Str)]=true:=by cases l<;>decide+kernel
  have hno:xM cs ws s0 l n:=by
   cases hf with
   |lack h=>exact absurd ⟨hlt,qC⟩ h
   |odd h1 _ h2=>rw[hw]at h1;cases h1;exact absurd (by cases l<;>decide+kernel) h2
   |none h1 h2 h3=>rw[hw]at h1;cases l<;>exact absurd h1 (by decide+kernel)
   | @look _ _ _ l2 h1 _ h2=>
     rw[hw]at h1
     have :l=l2:=by cases l<;>cases l2<;>first |rfl |exact absurd h1 (by decide+kernel)
     subst this
     exact h2
   |deep h1 _ h2=>rw[hw]at h1;cases h1;cases l<;>exact absurd h2 (by decide+kernel)
   |first h1 _ h2=>rw[hw]at h1;cases h1;cases l<;>exact absurd h2 (by decide+kernel)
   |second h1 _ h2=>rw[hw]at h1;cases h1;cases l<;>rcases h2 with h2 |h2<;>exact absurd h2 (by decide+kernel)
  rw[e3]
  walk_at "ex"
  refine aq (bA ?_)
  walk_at "ex"
  exact⟨l,b,cs,a,ws,s0,n,rfl,hC.same wO,wO.seq hS,hl,hz,by omega,hw,hno,q.same wO⟩
 have e3:Fx (V.str z) [V.str ("is":Str),V.str ("under":Str),V.str ("over":Str),V.str ("holds":Str)]=false:=by
  refine aky.mpr λh=>hlk ?_
  simp[Fx]at h
  rcases h with h |h |h |h
  .exact⟨.is,(pW h).symm⟩
  .exact⟨.under,(pW h).symm⟩
  .exact⟨.over,(pW h).symm⟩
  .exact⟨.holds,(pW h).symm⟩
 rw[e3]
 walk_at "ex"
 refine aL (aj (bx ?_))
 walk_at "ex"
 refine⟨by show 3≤sizeLine;omega,λtq htq=>?_⟩
 refine GJ (dg.of ao) (by rfl) (by rfl) ?_
 have smq:au H2 (upd H2 tq (.tup [.str "not",.str "both",.str "either"])):=au.upd htq
 generalize upd H2 tq (.tup [.str "not",.str "both",.str "either"])=H3 at smq⊢
 have sm3:=wO.trans smq
 by_cases h3:z∈W3
 .have e4:Fx (V.str z) [V.str ("not":Str),V.str ("both":Str),V.str ("either":Str)]=true:=by
   simp[W3]at h3
   rcases h3 with h |h |h<;>(rw[h];decide+kernel)
  rw[e4]
  walk_at "ex"
  refine aq (bA ?_)
  walk_at "ex"
  rw[ek]
  refine⟨b,cs,a,ws,s0,n,z,rfl,hC.same sm3,sm3.seq hS,hl,hz,qC,hw,h3,q.same sm3,?_⟩
  cases hf with
  |lack h=>exact absurd ⟨hlt,qC⟩ h
  |odd h1 _ h2=>
   rw[hw]at h1
   cases h1
   simp[W3]at h3
   exact absurd (by rcases h3 with h |h |h<;>(rw[h];decide+kernel)) h2
  |none h1=>rw[hw]at h1;cases h1;exact absurd rfl hnn
  |look h1=>rw[hw]at h1;cases h1;exact absurd ⟨_,rfl⟩ hlk
  |deep h1 _ _ h2=>exact .inl ⟨by omega,rfl⟩
  |first h1 _ _ h2 h4=>exact .inr ⟨by omega,.inl h4⟩
  |second h1 _ h2 h4 h5 h6 h7=>
   rw[hw]at h1
   cases h1
   exact .inr ⟨by omega,.inr ⟨h2,_,_,h5,h6,h7⟩⟩
 .have e4:Fx (V.str z) [V.str ("not":Str),V.str ("both":Str),V.str ("either":Str)]=false:=by
   refine aky.mpr λh=>h3 ?_
   simp[Fx]at h
   simp[W3]
   rcases h with h |h |h
   .exact .inl (pW h).symm
   .exact .inr (.inl (pW h).symm)
   .exact .inr (.inr (pW h).symm)
  rw[e4]
  walk_at "ex"
  have hn:n=s0:=by
   cases hf with
   |lack _=>rfl
   |odd h1 h2 _=>rfl
   |none h1=>rw[hw]at h1;cases h1;exact absurd rfl hnn
   |look h1=>rw[hw]at h1;cases h1;exact absurd ⟨_,rfl⟩ hlk
   |deep h1 h2 _ _=>rfl
   |first h1 _ h2=>rw[hw]at h1;cases h1;exact absurd h2 h3
   |second h1 _ h2=>
    rw[hw]at h1
    cases h1
    exact absurd (by rcases h2 with h |h<;>(rw[h];decide+kernel)) h3
  subst hn
  refine aL (aq (jA (jc T (cc:=true)) hr (by omega) (λ_=>rfl) bF (by rfl) (by rfl) (by decide) (by rfl) (by rfl) ?_))
  walk_at "ex"
  exact⟨n,rfl,by omega,λe H4 qG he=>q e true H4 (sm3.trans qG) he⟩
theorem Um(T:Txt K mg):∀j k:Nat,20-k=j->Def P w K mg base true (10+2*j) "read_part" ["columns","words","start","within"] (Bp K mg k)
 |0,k,hj=>pf T (lv:=9) (by omega) (osf T (k:=k+1) (lv:=8) (by omega) (λh=>absurd h (by omega)) (λh=>absurd h (by omega)))
 |j+1,k,hj=>by
  have ih:Def P w K mg base true (10+2*j) "read_part" ["columns","words","start","within"] (Bp K mg (k+1)):=Um T j (k+1) (by omega)
  have h:=pf T (k:=k) (lv:=10+2*j+1) (by omega) (osf T (k:=k+1) (lv:=10+2*j) (by omega) (λ_=>by omega) (λ_=>ih))
  have e:10+2*(j+1)=10+2*j+1+1:=by omega
  rw[e]
  exact h
def Qn(mg:Str->Option Value):Sp:=λvs H Q E=>∃(b:Addr) (cs:List bC) (z:Str) (n:Nat),vs=[.ref b,.str z]/\dX H b cs/\z.length≤3000/\(∀y∈aW 32 z,y.length≤1000)/\(iD cs (aW 32 z) 0 0 n\/∃t,t.dep≤20/\Reads cs (aW 32 z) t 0 n/\n<(aW 32 z).length)/\Yl mg H E n
theorem BW(T:Txt K mg):Def P w K mg base true 51 "read_sieve" ["columns","text"] (Qn mg):=by
 refine uh T (λvs H Q E h=>by obtain⟨b,cs,z,n,rfl,_⟩:=h;rfl) (λf cdv A outer s H vs Q E hr h=>?_)
 obtain⟨b,cs,z,n,rfl,hC,hz,hzs,hcase,q⟩:=h
 have nd:=nU.nd
 have n1:=T.jr
 have hsz:=sizeLine_eq
 have hcl:=vV 32 z
 refine aj ?_
 walk_at "s"
 refine fX F.plainAttrs_str F.slot_str_split F.type_str_split (by rfl) (by rfl) (by rfl) (by rfl) (by rfl) ?_
 walk_at "go"
 refine m_split (c:=32) (by omega) λp hp=>?_
 obtain⟨iK,ep⟩:=bR hp (.lst ((aW 32 z).map V.str))
 generalize upd H p (.lst ((aW 32 z).map V.str))=H1 at iK ep⊢
 rcases hcase with hf |⟨t,hdp,hrd,hlt⟩
 .have D1:= @Um P w K mg base T 20 0 rfl
  refine aj (eQ (by rfl) (by rfl) ?_)
  walk_at "ex"
  exact⟨b,cs,p,aW 32 z,0,n,rfl,hC.same iK,aX.of ep,by omega,hzs,by omega,hf,q.same iK⟩
 .have D1:= @rH P w K mg base T t
  refine aj (eQ (by rfl) (by rfl) ?_)
  walk_at "ex"
  refine⟨b,cs,p,aW 32 z,0,_,0,rfl,hC.same iK,aX.of ep,by omega,hzs,by decide,by omega,hrd,λpr v H2 gh hpt hsv=>?_⟩
  refine dW (by rfl) (by rfl) (by rfl) (dg.of hpt) (by rfl) (aO (by rfl) (aM nd (by rfl) (.inl rfl) (.inl rfl) (aO (by rfl) (aM nd (by rfl) (.inl rfl) (.inl rfl) (cR ?_)))))
  have SP2:aX K H2 p ((aW 32 z).map V.str):=aX.of (gh _ _ ep)
  have yg:((aW 32 z).map V.str).length=(aW 32 z).length:=aar ..
  refine aj (bx ?_)
  walk_at "ex"
  rw[yg]
  refine dD (λ_=>?_) (λh=>absurd (by omega) h)
  refine aq (jA (jc T (cc:=true)) hr (by omega) (λ_=>rfl) bF (by rfl) (by rfl) (by decide) (by rfl) (by rfl) ?_)
  walk_at "ex"
  exact⟨n,rfl,by omega,λe H3 sm3 he=>q e true H3 ((iK.trans gh).trans sm3) he⟩
def Sy(mg:Str->Option Value):Sp:=λvs H Q E=>∃z:Str,vs=[.str z]/\z.length≤4000/\z≠bH true/\z≠bH false/\∀H',au H H'->E (.ref (ak mg "NoMark")) (none,true) H'
theorem DQ(T:Txt K mg):Def P w K mg base true 1 "read_make" ["letter"] (Sy mg):=by
 refine wu T (λvs H Q E h=>by obtain⟨z,rfl,_⟩:=h;rfl) (λf cdv A outer s H vs Q E hr h=>?_)
 obtain⟨z,rfl,hz,nt,nf,q⟩:=h
 have nd:=oV.nd
 have g1:=T.Ir
 have g2:=T.Lp
 have hsz:=sizeLine_eq
 refine aj (LQ (by walk_at "po") (by rfl) (by intro _;rfl) ?_)
 walk_at "ex"
 refine⟨by show 2≤sizeLine;omega,λt ht=>?_⟩
 obtain⟨st,et⟩:=bR ht (.tup [.str ("living":Str),.str ("still":Str)])
 refine⟨t,_,rfl,dg.of et,λi σ H'=>(∃o,σ=[some (.str z),o])/\H'=upd H t (.tup [.str ("living":Str),.str ("still":Str)]),⟨⟨none,rfl⟩,rfl⟩,λi σ' H' hi hP=>?_,λi x σ' H' hx hP=>?_,λσ' H' hP=>?_⟩
 .obtain⟨_,rfl⟩:=hP
  exact dg.of et
 .obtain⟨⟨o,rfl⟩,rfl⟩:=hP
  refine aM nd (by rfl) (.inl rfl) (.inl rfl) ?_
  match i,hx with
  |0,hx=>
   have hx':x= .str ("living":Str):=(Option.some.inj hx).symm
   subst hx'
   refine aq (bx ?_)
   walk_at "ex"
   refine yr (n:=108) (by rw[hsz];decide+kernel) (by decide+kernel) ?_
   walk_at "ex"
   refine dD (λh=>absurd (V.str.inj h) nt) (λ_=>?_)
   exact aL ⟨⟨_,rfl⟩,rfl⟩
  |1,hx=>
   have hx':x= .str ("still":Str):=(Option.some.inj hx).symm
   subst hx'
   refine aq (bx ?_)
   walk_at "ex"
   refine yr (n:=115) (by rw[hsz];decide+kernel) (by decide+kernel) ?_
   walk_at "ex"
   refine dD (λh=>absurd (V.str.inj h) nf) (λ_=>?_)
   exact aL ⟨⟨_,rfl⟩,rfl⟩
  |i+2,hx=>simp at hx
 .obtain⟨⟨o,rfl⟩,rfl⟩:=hP
  refine aq (eY bF (by rfl) T.jq (by rfl) (by decide) (by rfl) (by rfl) ?_)
  walk_at "go"
  refine oW ?_
  walk_at "e"
  refine⟨z,rfl,by omega,_,4000,rfl,hz,by omega,?_⟩
  walk_at "go"
  intro zz
  walk_at "go"
  exact⟨by rw[hsz];simp,q _ st⟩
def Qm(mg:Str->Option Value):Sp:=λvs H Q E=>∃(z:Str) (m:Int),vs=[.str z,.int m]/\(m=5000\/m=1000000000)/\z.length≤4000/\mL z.cps.toList m=none/\∀H',au H H'->E (.ref (ak mg "NoMark")) (none,true) H'
theorem ue(T:Txt K mg):Def P w K mg base true 4 "read_whole" ["word","most"] (Qm mg):=by
 refine uq T (λvs H Q E h=>by obtain⟨z,m,rfl,_⟩:=h;rfl) (λf cdv A outer s H vs Q E hr h=>?_)
 obtain⟨z,m,rfl,hm,hz,hno,q⟩:=h
 have nd:=n8.nd
 have hsz:=sizeLine_eq
 have D1:= @gU P w K mg base T
 obtain⟨k,hk,hmk,k1,k2⟩:∃k,(Str.ofString (toString m)).length=k/\m<((10^k:Nat):Int)/\1≤k/\k≤600:=by
  rcases hm with rfl |rfl
  .exact⟨4,by decide+kernel,by decide,by omega,by omega⟩
  .exact⟨10,by decide+kernel,by decide,by omega,by omega⟩
 walk_at "A"
 refine⟨_,m,k,rfl,by omega,by omega,by omega,hk,hmk,k1,k2,λH1 iK=>?_⟩
 rw[hno]
 refine aj (bx ?_)
 walk_at "ex"
 refine aq (eY bF (by rfl) T.jq (by rfl) (by decide) (by rfl) (by rfl) ?_)
 walk_at "go"
 refine Nu ?_
 walk_at "e"
 refine⟨m,rfl,by rcases hm with rfl |rfl<;>decide+kernel,_,600,rfl,by omega,by omega,?_⟩
 walk_at "go"
 refine oW ?_
 walk_at "e"
 refine⟨z,rfl,by omega,_,4000,rfl,hz,by omega,?_⟩
 walk_at "go"
 intro zz
 walk_at "go"
 exact⟨by rw[hsz];simp,q _ iK⟩
def UW(mg:Str->Option Value):Sp:=λvs H Q E=>∃z:Str,vs=[.str z]/\z.length≤4000/\z≠dN true/\z≠dN false/\E (.ref (ak mg "NoMark")) (none,true) H
theorem DP(T:Txt K mg):Def P w K mg base true 1 "read_side" ["sign"] (UW mg):=by
 refine wj T (λvs H Q E h=>by obtain⟨z,rfl,_⟩:=h;rfl) (λf cdv A outer s H vs Q E hr h=>?_)
 obtain⟨z,rfl,hz,nt,nf,q⟩:=h
 have g1:=T.vK
 have g2:=T.tZ
 have g3:=T.Ma
 have g4:=T.Ho
 have hsz:=sizeLine_eq
 refine aj (bx ?_)
 walk_at "ex"
 refine dD (λh=>absurd (V.str.inj h) nt) (λ_=>?_)
 refine aL (aj (bx ?_))
 walk_at "ex"
 refine dD (λh=>absurd (V.str.inj h) nf) (λ_=>?_)
 refine aL (aq (eY bF (by rfl) T.jq (by rfl) (by decide) (by rfl) (by rfl) ?_))
 walk_at "go"
 refine oW ?_
 walk_at "e"
 refine⟨z,rfl,by omega,_,4000,rfl,hz,by omega,?_⟩
 walk_at "go"
 intro zz
 walk_at "go"
 exact⟨by rw[hsz];simp,q⟩
def Hv(mg:Str->Option Value):Sp:=λvs H Q E=>∃(p q:Addr) (ks zs:List Str),vs=[.ref p,.ref q]/\H p=some (.lst (ks.map V.str))/\H q=some (.lst (zs.map V.str))/\ks.length≤1000/\(∀z∈zs,z.length≤4000)/\(zs.length≠ks.length\/∃(i:Nat) (k z:Str),ks[i]? =some k/\zs[i]? =some z/\gB k z=none)/\∀H',au H H'->E (.ref (ak mg "NoValue")) (none,true) H'
theorem Bo(T:Txt K mg):Def P w K mg base true 6 "read_values" ["kinds","words"] (Hv mg):=by
 refine rn T (λvs H Q E h=>by obtain⟨p,q,ks,zs,rfl,_⟩:=h;rfl) (λf cdv A outer s H vs Q E hr h=>?_)
 obtain⟨p,q',ks,zs,rfl,hp,hq,hkl,hzl,hno,q⟩:=h
 have n1:=T.jr
 have n2:=T.ZV
 have Wo:(["kind","word"]:List Str).Nodup:=by decide+kernel
 have hsz:=sizeLine_eq
 have D1:= @iC P w K mg base T
 have l1:(ks.map V.str).length=ks.length:=by rw[aar]
 have l2:(zs.map V.str).length=zs.length:=by rw[aar]
 have SP:aX K H p (ks.map V.str):=aX.of hp
 have SQ:aX K H q' (zs.map V.str):=aX.of hq
 refine aj (bx ?_)
 walk_at "go"
 rw[l1,l2]
 refine O2 (λ_=>?_) (λhe=>?_)
 .refine aq (eY bF (by rfl) T.xZ (by rfl) (by decide) (by rfl) (by rfl) ?_)
  walk_at "go"
  exact⟨by rw[hsz];simp,q H (au.refl _)⟩
 have hel:zs.length=ks.length:=by
  have :=V.int.inj he
  omega
 refine aL ?_
 refine aq (bA ?_)
 refine Q4 ["kind","word"] (σ':=[none,none]) (by rfl) bF rfl rfl (by rfl) (cA (aa cU) (by rfl) (by rfl) (by decide+kernel)) (by rfl) n2 (by rfl) (by rfl) ?_
 walk_at "e"
 walk_at "e"
 refine⟨p,q',_,_,rfl,rfl,hp,hq,by rw[l1];omega,λτ=>∃o1 o2,τ=[o1,o2],λE2 i u H'=>∃k z,ks[i]? =some k/\zs[i]? =some z/\gB k z≠none,⟨none,none,rfl⟩,λE2 i u H2 H3 ys _ _ p=>p,λfp E2 C s3 H0 F i τ x H5 H6 xo Bm hi hτ DR hys hG=>?_,λE2 H5 ys Bm hl2 hx2 e5 DR=>?_⟩
 .obtain⟨o1,o2,rfl⟩:=hτ
  obtain⟨t,y,z,rfl,htn,rfl,hy,hz⟩:=hG
  rw[aby]at hy hz
  obtain⟨k,hk,rfl⟩:=aht.mp hy
  obtain⟨z,Uo,rfl⟩:=aht.mp hz
  have wO:au H5 (upd H5 t (.tup [.str k,.str z])):=au.upd htn
  refine dW (by rfl) (by rfl) (by rfl) (dg.of ao) (by rfl) (aO (by rfl) (aM Wo (by rfl) (.inl rfl) (.inr rfl) (aO (by rfl) (aM Wo (by rfl) (.inl rfl) (.inr rfl) (cR ?_)))))
  generalize upd H5 t (.tup [.str k,.str z])=H7 at wO⊢
  walk_at "go"
  refine⟨k,z,rfl,hzl z (aaR Uo),λH8 sm8=>?_⟩
  cases e:gB k z with
  |some v=>exact⟨⟨_,_,rfl⟩,⟨k,z,hk,Uo,by rw[e];exact λh=>nomatch h⟩,wO.trans sm8⟩
  |none=>exact q _ ((DR.trans wO).trans sm8)
 .rcases hno with h |⟨i,k,z,h1,h2,h3⟩
  .exact absurd hel h
  .have hil:=(aan.mp h1).1
   have hiy:i<ys.length:=by rw[hl2,l1,l2];omega
   obtain⟨k',z',g1,g2,g3⟩:=hx2 i _ (aak hiy)
   rw[h1]at g1
   rw[h2]at g2
   cases g1
   cases g2
   exact absurd h3 g3
def uG(cs:List bC)(os:List Ord)(z:Str)(v:Bool):Prop:=
 (v=false/\bO z none (some 1)≠dN true/\bO z none (some 1)≠dN false)\/
 ∃(sd:Bool) (w:Str) (r:List Str),bO z none (some 1)=dN sd/\aW 32 (bO z (some 1) none)=w::r/\
  ((v=false/\mL w.cps.toList 1000000000=none)\/
   (v=true/\∃row:Nat,w=Str.ofString (toString (row:Int))/\(row:Int)≤1000000000/\(r.length≠os.length\/∃(i:Nat) (o:Ord) (y:Str),os[i]? =some o/\r[i]? =some y/\gB (dC cs o.1) y=none)))
def W0(mg:Str->Option Value):Sp:=λvs H Q E=>∃(a b:Addr) (z:Str) (cs:List bC) (os:List Ord) (v:Bool),vs=[.ref a,.ref b,.str z]/\z.length≤4000/\dX H a cs/\uC H b os/\(∀o∈os,∃c∈cs,c.1=o.1)/\os.length≤1000/\uG cs os z v/\∀H',au H H'->E (.ref (ak mg (if v then "NoValue" else "NoMark"))) (none,true) H'
theorem GQ(T:Txt K mg):Def P w K mg base true 7 "read_cut" ["columns","order","text"] (W0 mg):=by
 refine yD T (λvs H Q E h=>by obtain⟨a,b,z,cs,os,v,rfl,_⟩:=h;rfl) (λf cdv A outer s H vs Q E hr h=>?_)
 obtain⟨a,b,z,cs,os,v,rfl,hz,hC,⟨ws,hb,hws⟩,hin,hol,hbad,q⟩:=h
 have nd:=qY.nd
 have g1:=T.tY
 have hsz:=sizeLine_eq
 have Ze:(["name","up","columns"]:List Str).Nodup:=by decide+kernel
 have D4:= @jC P w K mg base T
 have hwl:=hws.len
 have lz1:=ju z none (some 1)
 have lz2:=ju z (some 1) none
 rcases hbad with⟨rfl,n1,n2⟩ |⟨sd,wd,r,esd,ewr,hbad⟩
 .have D1:= @DP P w K mg base T
  walk_at "A"
  refine iM (by omega) ?_
  walk_at "ex"
  exact⟨_,rfl,by omega,n1,n2,q H (au.refl _)⟩
 have D1:= @ni P w K mg base T
 walk_at "A"
 refine iM (by omega) ?_
 rw[esd]
 walk_at "ex"
 refine⟨sd,rfl,?_⟩
 refine aj ?_
 walk_at "s"
 refine fX F.plainAttrs_str F.slot_str_split F.type_str_split (by rfl) (by rfl) (by rfl) (by rfl) (by rfl) ?_
 walk_at "ex"
 refine iM (by omega) ?_
 walk_at "ex"
 have ahz:∀y∈wd::r,y.length≤4000:=λy hy=>by
  rw[<-ewr]at hy
  have :=uB hy
  omega
 have hwn:(wd::r).length≤4001:=by
  rw[<-ewr]
  have :=vV 32 (bO z (some 1) none)
  omega
 refine m_split (c:=32) (by omega) λl1 h1=>?_
 rw[ewr]
 obtain⟨s1,e1⟩:=bR h1 (.lst ((wd::r).map V.str))
 generalize upd H l1 (.lst ((wd::r).map V.str))=H1 at s1 e1⊢
 refine aj ?_
 walk_at "s"
 rcases hbad with⟨rfl,hno⟩ |⟨rfl,row,rfl,hrow,hbad⟩
 .have D2:= @ue P w K mg base T
  walk_at "ex"
  refine aR (aX.of e1) (show lR ((wd::r).map V.str) ((0:Nat):Int)=some (V.str wd)from bz rfl) ?_
  walk_at "ex"
  exact⟨wd,1000000000,rfl,.inr rfl,ahz wd (by simp),hno,λH2 s2=>q H2 (s1.trans s2)⟩
 have D2:= @iw P w K mg base T
 have D3:= @Bo P w K mg base T
 walk_at "ex"
 refine aR (aX.of e1) (show lR ((Str.ofString (toString (row:Int))::r).map V.str) ((0:Nat):Int)=some (V.str (Str.ofString (toString (row:Int))))from bz rfl) ?_
 walk_at "ex"
 refine⟨row,1000000000,rfl,.inr rfl,hrow,λH2 s2=>?_⟩
 have s12:=s1.trans s2
 refine aj ?_
 refine oU ["name","up","columns"] (σ':=[none,none,some (.ref a)]) (by rfl) (by rfl) (by rfl) (cA (aa fM) (by rfl) (by rfl) (by decide+kernel)) (by intro _;rfl) nd (by rfl) (by rfl) ?_
 walk_at "e"
 refine⟨b,ws,rfl,aX.of (s12 _ _ hb),by omega,λτ=>∃o1 o2,τ=[o1,o2,some (.ref a)],λE2 i u H'=>∃o,os[i]? =some o/\u= .str (dC cs o.1),⟨none,none,rfl⟩,λE2 i u H2 H3 ys _ _ p=>p,λfp E2 C s3 H0 i τ x H4 H3 Bm hi hτ qG hys hG=>?_,λE2 H4 ys Bm hl2 hx2 e4 qG=>?_⟩
 .obtain⟨o1,o2,rfl⟩:=hτ
  obtain⟨HD,rfl⟩:=hG
  obtain⟨o,ho,t,rfl,ht⟩:=hws.get HD
  refine dW (by rfl) (by rfl) (by rfl) (dg.of (qG _ _ (s12 _ _ ht))) (by rfl) (aO (by rfl) (aM Ze (by rfl) (.inl rfl) (.inr rfl) (aO (by rfl) (aM Ze (by rfl) (.inl rfl) (.inr rfl) (cR ?_)))))
  walk_at "ex"
  have U3:=(hC.same s12).same qG
  refine⟨a,cs,o.1,rfl,U3,λH5 DR=>?_⟩
  have hio:=hin o (aaR ho)
  rw[vW 0 hio,aly]
  obtain⟨c,hg,hk⟩:=Ge hio
  obtain⟨vs,ea,avs⟩:=U3.same DR
  obtain⟨cv,gc,tc,rfl,htc⟩:=avs.get' hg
  refine aR (aX.of ea) (bz gc) ?_
  walk_at "ex"
  refine cQ (dg.of htc) (show lR [V.str c.1,V.str c.2] 1=some (V.str c.2)from rfl) ?_
  exact⟨⟨_,_,rfl⟩,⟨o,ho,by rw[hk]⟩,DR⟩
 .have ey:=eN (ys:=os) (λo=>V.str (dC cs o.1)) (by rw[hl2,hwl]) hx2
  have Iz:ys=(os.map λo=>dC cs o.1).map V.str:=by rw[ey,agz];rfl
  subst Iz
  have s14:=s12.trans qG
  have e14:=qG _ _ (s2 _ _ e1)
  refine aq (bA ?_)
  walk_at "ex"
  refine KC (aX.of e14) λl2 h2=>?_
  have Uw:yN ((Str.ofString (toString (row:Int))::r).map V.str) (some 1) none=r.map V.str:=by
   rw[show(some (1:Int))=some ((1:Nat):Int)from rfl,Cv]
   rfl
  rw[Uw]
  obtain⟨s5,e5⟩:=bR h2 (.lst (r.map V.str))
  generalize upd H4 l2 (.lst (r.map V.str))=H5 at s5 e5⊢
  walk_at "ex"
  refine⟨E2,l2,os.map λo=>dC cs o.1,r,rfl,s5 _ _ e4,e5,by rw[aar];omega,λy hy=>ahz y (by simp[hy]),?_,λH6 s6=>q H6 ((s14.trans s5).trans s6)⟩
  rcases hbad with h |⟨i,o,y,h1,h2,h3⟩
  .exact .inl (by rw[aar];exact h)
  .exact .inr ⟨i,_,y,by rw[aby,h1];rfl,h2,h3⟩
def kI(cs:List bC)(z:Str)(c:Str):Prop:=
 (c="NoMark"/\(aW 47 z).length≠5)\/
 ∃p0 p1 p2 p3 p4,aW 47 z=[p0,p1,p2,p3,p4]/\
  ((c="NoMark"/\p0≠bH true/\p0≠bH false)\/∃b,p0=bH b/\
    ((c="NoMark"/\mL p1.cps.toList 5000=none)\/∃m:Nat,p1=Str.ofString (toString (m:Int))/\(m:Int)≤5000/\
      ((c="NoOrder"/\iB cs p2=none)\/∃os,iB cs p2=some os/\(∀o∈os,∃c∈cs,c.1=o.1)/\os.length≤1000/\p3.length≤3000/\(∀y∈aW 32 p3,y.length≤1000)/\
        ((c="NoSieve"/\∃n,iD cs (aW 32 p3) 0 0 n\/∃t,t.dep≤20/\Reads cs (aW 32 p3) t 0 n/\n<(aW 32 p3).length)\/
          ∃t:Tr,t.dep≤20/\Reads cs (aW 32 p3) t 0 (aW 32 p3).length/\∃v:Bool,uG cs os p4 v/\c=if v then Str.ofString "NoValue" else Str.ofString "NoMark"))))
def Tz(mg:Str->Option Value):Sp:=λvs H Q E=>∃(a:Addr) (z:Str) (cs:List bC) (c:Str),vs=[.ref a,.str z]/\z.length≤4000/\dX H a cs/\kI cs z c/\∀d H',au H H'->(c≠"NoSieve"->d=(none,true))->E (.ref (ak mg c)) d H'
theorem El(T:Txt K mg):Def P w K mg base true 52 "read_body" ["columns","body"] (Tz mg):=by
 refine vq T (λvs H Q E h=>by obtain⟨a,z,cs,c,rfl,_⟩:=h;rfl) (λf cdv A outer s H vs Q E hr h=>?_)
 obtain⟨a,z,cs,c,rfl,hz,hC,hbad,q⟩:=h
 have nd:=pq.nd
 have g1:=T.Dm
 have g2:=T.Nv
 have g3:=T.G6
 have n1:=T.jr
 have hsz:=sizeLine_eq
 have D3:= @kY P w K mg base T
 refine aj ?_
 walk_at "s"
 refine fX F.plainAttrs_str F.slot_str_split F.type_str_split (by rfl) (by rfl) (by rfl) (by rfl) (by rfl) ?_
 walk_at "ex"
 refine m_split (c:=47) (by omega) λl1 h1=>?_
 have hsh:∀y∈aW 47 z,y.length≤4000:=λy hy=>by
  have :=uB hy
  omega
 rcases hbad with⟨rfl,hl⟩ |⟨p0,p1,p2,p3,p4,Uw,hbad⟩
 .obtain⟨s1,e1⟩:=bR h1 (.lst ((aW 47 z).map V.str))
  generalize upd H l1 (.lst ((aW 47 z).map V.str))=H1 at s1 e1⊢
  have Lg:aX K H1 l1 ((aW 47 z).map V.str):=aX.of e1
  refine aj (bx ?_)
  walk_at "ex"
  rw[aar]
  refine O2 (λ_=>?_) (λh=>absurd (by have :=V.int.inj h;omega) hl)
  refine aq (eY bF (by rfl) T.jq (by rfl) (by decide) (by rfl) (by rfl) ?_)
  walk_at "go"
  exact⟨by rw[hsz];simp,q _ H1 s1 λ_=>rfl⟩
 rw[Uw]at hsh⊢
 obtain⟨s1,e1⟩:=bR h1 (.lst ([p0,p1,p2,p3,p4].map V.str))
 generalize upd H l1 (.lst ([p0,p1,p2,p3,p4].map V.str))=H1 at s1 e1⊢
 have Lg:aX K H1 l1 ([p0,p1,p2,p3,p4].map V.str):=aX.of e1
 refine aj (bx ?_)
 walk_at "ex"
 refine O2 (λh=>absurd rfl h) (λ_=>?_)
 refine aL (aj ?_)
 walk_at "s"
 rcases hbad with⟨rfl,n0,n1'⟩ |⟨b,rfl,hbad⟩
 .have D1:= @DQ P w K mg base T
  walk_at "ex"
  refine aR Lg (i:=0) rfl ?_
  walk_at "ex"
  exact⟨p0,rfl,hsh p0 (by simp),n0,n1',λH2 s2=>q _ H2 (s1.trans s2) λ_=>rfl⟩
 have D1:= @nq P w K mg base T
 walk_at "ex"
 refine aR Lg (i:=0) rfl ?_
 walk_at "ex"
 refine⟨b,rfl,λH2 s2=>?_⟩
 refine aj ?_
 walk_at "s"
 rcases hbad with⟨rfl,hno⟩ |⟨m,rfl,hm,hbad⟩
 .have D2:= @ue P w K mg base T
  walk_at "ex"
  refine aR (s2.seq Lg) (i:=1) rfl ?_
  walk_at "ex"
  exact⟨p1,5000,rfl,.inl rfl,hsh p1 (by simp),hno,λH3 s3=>q _ H3 ((s1.trans s2).trans s3) λ_=>rfl⟩
 have D2:= @iw P w K mg base T
 walk_at "ex"
 refine aR (s2.seq Lg) (i:=1) rfl ?_
 walk_at "ex"
 refine⟨m,5000,rfl,.inl rfl,hm,λH3 s3=>?_⟩
 have Wq:=s2.trans s3
 walk_at "A"
 refine aR (Wq.seq Lg) (i:=2) rfl ?_
 walk_at "ex"
 rcases hbad with⟨rfl,hno⟩ |⟨os,hos,hin,hol,h3l,h3w,hbad⟩
 .exact⟨a,cs,p2,rfl,hC.same (s1.trans Wq),hsh p2 (by simp),λH' sm _=>q _ H' ((s1.trans Wq).trans sm) λ_=>rfl,λp os H' sm e _ _=>by rw[hno]at e;cases e⟩
 refine⟨a,cs,p2,rfl,hC.same (s1.trans Wq),hsh p2 (by simp),(λH' sm e=>by rw[hos]at e;cases e),λo os' H4 s4 eo ho hO=>?_⟩
 rw[hos]at eo
 cases eo
 have Wl:=Wq.trans s4
 refine aj ?_
 walk_at "s"
 rcases hbad with⟨rfl,n,hF⟩ |⟨t,hdp,hrd,v,Br,rfl⟩
 .have D4:= @BW P w K mg base T
  walk_at "ex"
  refine aR (Wl.seq Lg) (i:=3) rfl ?_
  walk_at "ex"
  exact⟨a,cs,p3,n,rfl,hC.same (s1.trans Wl),h3l,h3w,hF,λe b H' sm _=>q _ H' ((s1.trans Wl).trans sm) λh=>absurd rfl h⟩
 have D4:= @tW P w K mg base T t
 have D5:= @GQ P w K mg base T
 obtain⟨M2,kc,na⟩:=Mq (P:=P) (w:=w) (base:=base) T t
 walk_at "ex"
 refine aR (Wl.seq Lg) (i:=3) rfl ?_
 walk_at "ex"
 refine⟨a,cs,p3,rfl,hC.same (s1.trans Wl),h3l,h3w,hdp,hrd,λsv H5 s5 hsv=>?_⟩
 have s25:=Wl.trans s5
 have ebt:mV (aW 32 p3) 0 (aW 32 p3).length=p3:=by
  unfold mV
  rw[aj6,alj,aj4,HQ]
 rw[ebt]at hsv
 obtain⟨dx,fs,es,et,esh⟩:=hsv.txt
 refine aq (bA ?_)
 walk_at "ex"
 refine HH (pl:=_) hr bF (by rfl) ?_
 walk_at "e"
 refine⟨sv,Ip mg t,dx,_,true,1,_,zr K,rfl,es,esh,M2,by decide,id,sv,Ip mg t,dx,fs,_,rfl,es,kc,na,et,?_⟩
 walk_at "ex"
 refine aR (s25.seq Lg) (i:=4) rfl ?_
 walk_at "ex"
 exact⟨a,o,p4,cs,os,v,rfl,hsh p4 (by simp),hC.same (s1.trans s25),hO.same s5,hin,hol,Br,λH6 s6=>q _ H6 ((s1.trans s25).trans s6) λ_=>rfl⟩
def aia(z:Str):Prop:=46∉z.cps.toList\/∃b w,z.cps.toList=b++46::w/\46∉w/\w≠(cD (bu b)).cps.toList
theorem CZ(b:List Nat):46∉(cD (bu b)).cps.toList/\(cD (bu b)).cps.toList.length=4:=by
 have hb:=gb b
 have hf:=lL (bu b) (by omega) (by omega)
 exact⟨hf.1,hf.2⟩
theorem Zh{c1 c2 c3 cls:Value}{b1 b2 b3:Bool}(h1:akp K cls c1=some b1)(h2:akp K cls c2=some b2)(h3:akp K cls c3=some b3):auk K cls [c1,c2,c3]=some (b1||(b2||(b3||false))):=by
 simp only[auk,h1,h2,h3]
theorem jT(T:Txt K mg)(i j:Nat)(hij:i≠j){x y:Addr}(hx:[ak mg "LeafError",ak mg "NoColumns",ak mg "NoValue",ak mg "NoOrder",ak mg "NoRow",ak mg "NoMark",ak mg "NoSize",ak mg "NoLine",ak mg "NoBook",ak mg "NoSieve",ak mg "NoPage",ak mg "Twice",ak mg "Absent",ak mg "Gone",ak mg "Later"][i]? =some x)(hy:[ak mg "LeafError",ak mg "NoColumns",ak mg "NoValue",ak mg "NoOrder",ak mg "NoRow",ak mg "NoMark",ak mg "NoSize",ak mg "NoLine",ak mg "NoBook",ak mg "NoSieve",ak mg "NoPage",ak mg "Twice",ak mg "Absent",ak mg "Gone",ak mg "Later"][j]? =some y):x≠y:=λe=>by
 have hl:=(aan.mp hx)
 have hm:=(aan.mp hy)
 obtain⟨p1,r1⟩:=hl
 obtain⟨p2,r2⟩:=hm
 exact hij ((anw T.Jt (h₀:=p1) (h₁:=p2)).mp (r1.trans (e.trans r2.symm)))
def Zv(cs:List bC)(z:Str):Prop:=aia z\/∃(b:Str) (c:Str),z=b++Str.ofString "."++cD (bu b.cps.toList)/\b.length≤4000/\(∀x∈b.cps.toList,x<1114112)/\kI cs b c
theorem kI.cls{cs:List bC}{z c:Str}(h:kI cs z c):c="NoMark"\/c="NoOrder"\/c="NoSieve"\/c="NoValue":=by
 rcases h with⟨h,_⟩ |⟨_,_,_,_,_,_,h⟩
 .exact .inl h
 rcases h with⟨h,_⟩ |⟨_,_,h⟩
 .exact .inl h
 rcases h with⟨h,_⟩ |⟨_,_,_,h⟩
 .exact .inl h
 rcases h with⟨h,_⟩ |⟨_,_,_,_,_,_,h⟩
 .exact .inr (.inl h)
 rcases h with⟨h,_⟩ |⟨_,_,_,v,_,h⟩
 .exact .inr (.inr (.inl h))
 cases v with
 |true=>exact .inr (.inr (.inr h))
 |false=>exact .inl h
def Ud(mg:Str->Option Value):Sp:=λvs H Q E=>∃(a:Addr) (z b c:Str) (cs:List bC),vs=[.ref a,.str z]/\dX H a cs/\z=b++Str.ofString "."++cD (bu b.cps.toList)/\b.length≤4000/\(∀x∈b.cps.toList,x<1114112)/\kI cs b c/\∀d H',au H H'->d.1=none->E (.ref (ak mg "NoMark")) d H'
theorem Fp(T:Txt K mg):Def P w K mg base true 53 "read_mark" ["columns","text"] (Ud mg):=by
 refine pM T (λvs H Q E h=>by obtain⟨a,z,b,c,cs,rfl,_⟩:=h;rfl) (λf cdv A outer s H vs Q E hr h=>?_)
 obtain⟨a,z,b,c,cs,rfl,hC,rfl,hbl,hbc,hbad,q⟩:=h
 have nd:=kZ.nd
 have g1:=T.JQ
 have hsz:=sizeLine_eq
 have D1:= @El P w K mg base T
 have D2:= @jl P w K mg base T
 have hb:=gb b.cps.toList
 have hf:=lL (bu b.cps.toList) (by omega) (by omega)
 have lp:(".":Str).length=1:=by decide+kernel
 have ep:Txt.rpartition (b++Str.ofString "."++cD (bu b.cps.toList)) ⟨#[46]⟩=(b,⟨#[46]⟩,cD (bu b.cps.toList)):=by
  have e:(b++Str.ofString "."++cD (bu b.cps.toList)).cps.toList=b.cps.toList++46::(cD (bu b.cps.toList)).cps.toList:=by
   rw[aA,aA,show(".":Str).cps.toList=[46]from by decide+kernel,aex]
   rfl
  have eta:∀z:Str,(⟨z.cps.toList.toArray⟩:Str)=z:=λz=>by
   obtain⟨⟨l⟩⟩:=z
   rfl
  rw[zV e hf.1,eta,eta]
 refine aj (eQ (by rfl) (by rfl) ?_)
 refine fX PySem.F.plainAttrs_str PySem.F.slot_str_rpartition PySem.F.type_str_rpartition (by rfl) (by rfl) (by rfl) (by rfl) (by rfl) ?_
 walk_at "ex"
 refine Ec (c:=46) (by rw[len_app,len_app];omega) λt ht=>?_
 rw[ep]
 show EG _ _ _ _ (upd H t (.tup [.str b,.str ⟨#[46]⟩,.str (cD (bu b.cps.toList))])) _
 refine dW (by rfl) (by rfl) (by rfl) (dg.of ao) (by rfl) (aO (by rfl) (aM nd (by rfl) (.inl rfl) (.inl rfl) (aO (by rfl) (aM nd (by rfl) (.inl rfl) (.inl rfl) (aO (by rfl) (aM nd (by rfl) (.inl rfl) (.inl rfl) (cR ?_)))))))
 have s1:au H (upd H t (.tup [.str b,.str ⟨#[46]⟩,.str (cD (bu b.cps.toList))])):=au.upd ht
 generalize upd H t (.tup [.str b,.str ⟨#[46]⟩,.str (cD (bu b.cps.toList))])=H1 at s1⊢
 refine aj (bx ?_)
 walk_at "ex"
 refine dD (λh=>absurd h (by decide+kernel)) (λ_=>?_)
 walk_at "ex"
 refine⟨b,rfl,by omega,hbc,?_⟩
 generalize cD (bu b.cps.toList)=fz
 walk_at "ex"
 refine O2 (λh=>absurd rfl h) (λ_=>?_)
 refine aL (aq ?_)
 refine Bg (λ_ cls d H'=>cls= .ref (ak mg c)/\au H1 H'/\(c≠"NoSieve"->d=(none,true))) rfl rfl (λF pn xo po=>?_) (λσ cls d H' hK=>?_)
 .refine aq (bA ?_)
  walk_at "ex"
  exact⟨a,b,cs,c,rfl,hbl,hC.same s1,hbad,λd H' sm hd=>⟨rfl,sm,hd⟩⟩
 obtain⟨rfl,sm,hd⟩:=hK
 have gO:mg "NoOrder"=some (.ref (ak mg "NoOrder")):=T.iZ.at_
 have gS:mg "NoSieve"=some (.ref (ak mg "NoSieve")):=T.je.at_
 have gV:mg "NoValue"=some (.ref (ak mg "NoValue")):=T.iy.at_
 have nLO:=jT T 0 3 (by decide) rfl rfl
 have nLS:=jT T 0 9 (by decide) rfl rfl
 have nLV:=jT T 0 2 (by decide) rfl rfl
 rcases hbad.cls with rfl |rfl |rfl |rfl
 .refine RV (by rfl) gO (by decide) (by rfl) gS (by decide) (by rfl) gV (by decide) (Zh (iu T.fV T.iZ (jT T 5 3 (by decide) rfl rfl) nLO) (iu T.fV T.je (jT T 5 9 (by decide) rfl rfl) nLS) (iu T.fV T.iy (jT T 5 2 (by decide) rfl rfl) nLV)) ?_
  refine aei bF rfl ?_
  exact q _ _ (s1.trans sm) (by rw[hd (by decide+kernel)])
 .refine Ay bF rfl rfl (by rfl) gO (by decide) (by rfl) gS (by decide) (by rfl) gV (by decide) (Zh (vJ T.iZ) (iu T.iZ T.je (jT T 3 9 (by decide) rfl rfl) nLS) (iu T.iZ T.iy (jT T 3 2 (by decide) rfl rfl) nLV)) T.jq (by rfl) (by decide) ?_
  exact q _ _ (s1.trans sm) rfl
 .refine Ay bF rfl rfl (by rfl) gO (by decide) (by rfl) gS (by decide) (by rfl) gV (by decide) (Zh (iu T.je T.iZ (jT T 9 3 (by decide) rfl rfl) nLO) (vJ T.je) (iu T.je T.iy (jT T 9 2 (by decide) rfl rfl) nLV)) T.jq (by rfl) (by decide) ?_
  exact q _ _ (s1.trans sm) rfl
 .refine Ay bF rfl rfl (by rfl) gO (by decide) (by rfl) gS (by decide) (by rfl) gV (by decide) (Zh (iu T.iy T.iZ (jT T 2 3 (by decide) rfl rfl) nLO) (iu T.iy T.je (jT T 2 9 (by decide) rfl rfl) nLS) (vJ T.iy)) T.jq (by rfl) (by decide) ?_
  exact q _ _ (s1.trans sm) rfl
theorem Hk{L:List Addr}(h:L.Nodup)(is js:List Nat)(hd:∀i∈is,i∉js):∀x∈is.filterMap (λi=>L[i]?),x∉js.filterMap (λi=>L[i]?):=by
 intro x hx hy
 obtain⟨i,hi,ei⟩:=akm.mp hx
 obtain⟨j,hj,ej⟩:=akm.mp hy
 have hil:=(aan.mp ei).1
 have hjl:=(aan.mp ej).1
 have e1:=(aan.mp ei).2
 have e2:=(aan.mp ej).2
 have hij:i=j:=by
  have hp:=amq.mp h
  rcases Nat.lt_trichotomy i j with z |z |z
  .exact absurd (e1.trans e2.symm) (hp i j hil hjl z)
  .exact z
  .exact absurd (e2.trans e1.symm) (hp j i hjl hil z)
 subst hij
 exact hd i hi hj
def Pj(mg:Str->Option Value):Sp:=λvs H Q E=>∃(a:Addr) (z:Str),vs=[.ref a,.str z]/\z.length≤100000/\(∀c∈z.cps.toList,c<1114112)/\aia z/\∀H',au H H'->E (.ref (ak mg "NoMark")) (none,true) H'
theorem Bs(T:Txt K mg):Def P w K mg base true 3 "read_mark" ["columns","text"] (Pj mg):=by
 refine pM T (λvs H Q E h=>by obtain⟨a,z,rfl,_⟩:=h;rfl) (λf cdv A outer s H vs Q E hr h=>?_)
 obtain⟨a,z,rfl,hz,hcd,hB,q⟩:=h
 have nd:=kZ.nd
 have g1:=T.JQ
 have hsz:=sizeLine_eq
 have D2:= @jl P w K mg base T
 refine aj (eQ (by rfl) (by rfl) ?_)
 refine fX F.plainAttrs_str F.slot_str_rpartition F.type_str_rpartition (by rfl) (by rfl) (by rfl) (by rfl) (by rfl) ?_
 walk_at "ex"
 refine Ec (c:=46) (by omega) λt ht=>?_
 rcases hB with hB |⟨b,w,eb,hw,ne⟩
 .rw[R6 hB]
  show EG _ _ _ _ (upd H t (.tup [.str Str.empty,.str Str.empty,.str z])) _
  refine dW (by rfl) (by rfl) (by rfl) (dg.of ao) (by rfl) (aO (by rfl) (aM nd (by rfl) (.inl rfl) (.inl rfl) (aO (by rfl) (aM nd (by rfl) (.inl rfl) (.inl rfl) (aO (by rfl) (aM nd (by rfl) (.inl rfl) (.inl rfl) (cR ?_)))))))
  have s1:au H (upd H t (.tup [.str Str.empty,.str Str.empty,.str z])):=au.upd ht
  generalize upd H t (.tup [.str Str.empty,.str Str.empty,.str z])=H1 at s1⊢
  refine aj (bx ?_)
  walk_at "ex"
  refine dD (λ_=>?_) (λh=>absurd (by decide+kernel) h)
  refine aq (eY bF (by rfl) T.jq (by rfl) (by decide) (by rfl) (by rfl) ?_)
  walk_at "go"
  exact⟨by rw[hsz];simp,q H1 s1⟩
 .rw[zV eb hw]
  have lz:=L2.len_list z
  have lb:b.length≤100000:=by
   have :=congrArg akv eb
   rw[ace]at this
   omega
  show EG _ _ _ _ (upd H t (.tup [.str ⟨b.toArray⟩,.str ⟨#[46]⟩,.str ⟨w.toArray⟩])) _
  refine dW (by rfl) (by rfl) (by rfl) (dg.of ao) (by rfl) (aO (by rfl) (aM nd (by rfl) (.inl rfl) (.inl rfl) (aO (by rfl) (aM nd (by rfl) (.inl rfl) (.inl rfl) (aO (by rfl) (aM nd (by rfl) (.inl rfl) (.inl rfl) (cR ?_)))))))
  have s1:au H (upd H t (.tup [.str ⟨b.toArray⟩,.str ⟨#[46]⟩,.str ⟨w.toArray⟩])):=au.upd ht
  generalize upd H t (.tup [.str ⟨b.toArray⟩,.str ⟨#[46]⟩,.str ⟨w.toArray⟩])=H1 at s1⊢
  refine aj (bx ?_)
  walk_at "ex"
  refine dD (λh=>absurd h (by decide+kernel)) (λ_=>?_)
  walk_at "ex"
  refine⟨⟨b.toArray⟩,rfl,by show b.toArray.size≤_;simp;omega,λc hc=>hcd c (by rw[eb];exact agY _ (by simpa using hc)),?_⟩
  have ne2:(⟨w.toArray⟩:Str)≠cD (bu (⟨b.toArray⟩:Str).cps.toList):=λh=>ne (by rw[<-show(⟨b.toArray⟩:Str).cps.toList=b from rfl, <-h])
  generalize cD (bu (⟨b.toArray⟩:Str).cps.toList)=fz at ne2⊢
  walk_at "ex"
  refine O2 (λ_=>?_) (λh=>absurd (V.str.inj h) ne2)
  refine aq (eY bF (by rfl) T.jq (by rfl) (by decide) (by rfl) (by rfl) ?_)
  walk_at "go"
  exact⟨by rw[hsz];simp,q H1 s1⟩
theorem P0{H0 H' Hu H2:Hp}{e:Addr}{o:HO}(s:au H0 H')(he:H' e=none)(eu:Hu=upd H' e o)(s2:au Hu H2):au H0 (lM H2 e):=by
 intro b u r
 have hbe:b≠e:=aB (s _ _ r) he
 rw[fU hbe]
 refine s2 _ _ ?_
 rw[eu,aF hbe]
 exact s _ _ r
theorem JK{Lx x:Str}(h:XC K mg Lx x):∀(ys:List Str),(∀y∈ys,XC K mg Lx y/\ak mg x≠ak mg y/\ak mg Lx≠ak mg y)->aro K (.ref (ak mg x)) ((ys.map (ak mg)).map Value.ref)=some false
 |[],_=>rfl
 |y::ys,hy=>by
  obtain⟨h1,h2,h3⟩:=hy y (aeH ..)
  show aro K _ (Value.ref (ak mg y)::(ys.map (ak mg)).map Value.ref)=_
  unfold aro
  rw[Ou h h1 h2 h3]
  exact JK h ys λz hz=>hy z (aeA _ hz)
theorem TV(T:Txt K mg):∀x∈[ak mg "LeafError"],x∉[ak mg "NoColumns",ak mg "NoValue",ak mg "NoOrder",ak mg "NoRow",ak mg "NoSize",ak mg "NoLine",ak mg "NoBook",ak mg "NoSieve",ak mg "NoPage",ak mg "Twice",ak mg "Absent",ak mg "Gone",ak mg "Later"]:=Hk T.Jt [0] [1,2,3,4,6,7,8,9,10,11,12,13,14] (by decide)
theorem Ls(T:Txt K mg):∀x∈[ak mg "NoMark"],x∉[ak mg "NoColumns",ak mg "NoValue",ak mg "NoOrder",ak mg "NoRow",ak mg "NoSize",ak mg "NoLine",ak mg "NoBook",ak mg "NoSieve",ak mg "NoPage",ak mg "Twice",ak mg "Absent",ak mg "Gone",ak mg "Later"]:=Hk T.Jt [5] [1,2,3,4,6,7,8,9,10,11,12,13,14] (by decide)
theorem ajj(T:Txt K mg):aro K (.ref (ak mg "NoMark")) (((["Absent","Gone","Later","NoBook","NoColumns","NoLine","NoOrder","NoPage","NoRow","NoSieve","NoSize"]:List Str).map (ak mg)).map Value.ref)=some false:=by
 have h1:=Ls T _ (aeG.mpr rfl)
 have h0:=TV T _ (aeG.mpr rfl)
 simp only[List.mem_cons,List.not_mem_nil,or_false,not_or]at h1 h0
 obtain⟨zE,Hs,GK,U4,MJ,Lj,Nr,GZ,Mh,U0,MN,aap,RT⟩:=h1
 obtain⟨Aw,Gf,HF,Tn,Mj,Nh,MK,HN,NB,T3,LR,aaa,S8⟩:=h0
 refine JK T.fV _ λy hy=>?_
 simp only[List.mem_cons,List.not_mem_nil,or_false]at hy
 rcases hy with rfl |rfl |rfl |rfl |rfl |rfl |rfl |rfl |rfl |rfl |rfl
 .exact⟨T.Vc,MN,LR⟩
 .exact⟨T.adx,aap,aaa⟩
 .exact⟨T.WR,RT,S8⟩
 .exact⟨T.VB,Nr,MK⟩
 .exact⟨T.Gi,zE,Aw⟩
 .exact⟨T.Ul,Lj,Nh⟩
 .exact⟨T.iZ,GK,HF⟩
 .exact⟨T.Tu,Mh,NB⟩
 .exact⟨T.XR,U4,Tn⟩
 .exact⟨T.je,GZ,HN⟩
 .exact⟨T.RK,MJ,Mj⟩
theorem aa9(T:Txt K mg):aro K (.ref (ak mg "NoMark")) (((["NoValue","Twice"]:List Str).map (ak mg)).map Value.ref)=some false:=by
 have h1:=Ls T _ (aeG.mpr rfl)
 have h0:=TV T _ (aeG.mpr rfl)
 simp only[List.mem_cons,List.not_mem_nil,or_false,not_or]at h1 h0
 obtain⟨zE,Hs,GK,U4,MJ,Lj,Nr,GZ,Mh,U0,MN,aap,RT⟩:=h1
 obtain⟨Aw,Gf,HF,Tn,Mj,Nh,MK,HN,NB,T3,LR,aaa,S8⟩:=h0
 refine JK T.fV _ λy hy=>?_
 simp only[List.mem_cons,List.not_mem_nil,or_false]at hy
 rcases hy with rfl |rfl
 .exact⟨T.iy,Hs,Gf⟩
 .exact⟨T.Xb,U0,T3⟩
def Gr:Sp:=λvs H Q _=>∃(a:Addr) (z:Str) (cs:List bC),vs=[.ref a,.str z]/\z.length≤100000/\(∀c∈z.cps.toList,c<1114112)/\dX H a cs/\Zv cs z/\∀H',au H H'->Q (.bl true) H'
theorem mF(T:Txt K mg):Def P w K mg base true 54 "_law_refused" ["_law_columns_here","_law_text"] Gr:=by
 refine yW T (λvs H Q E h=>by obtain⟨a,z,cs,rfl,_⟩:=h;rfl) (λf cdv A outer s H vs Q E hr h=>?_)
 obtain⟨a,z,cs,rfl,hz,hcd,hC,hB,q⟩:=h
 have nd:=p6.nd
 have n1:=T.ph
 have n2:=T.Ej
 have hsz:=sizeLine_eq
 have abz:Gc mg "LeafError" (.ref (ak mg "LeafError")):=⟨_,T.Hw,rfl⟩
 have ab5:Gc mg "NoColumns" (.ref (ak mg "NoColumns")):=⟨_,T.G8,rfl⟩
 have af0:Gc mg "NoValue" (.ref (ak mg "NoValue")):=⟨_,T.Dl,rfl⟩
 have aeP:Gc mg "NoOrder" (.ref (ak mg "NoOrder")):=⟨_,T.Qe,rfl⟩
 have awl:Gc mg "NoRow" (.ref (ak mg "NoRow")):=⟨_,T.W8,rfl⟩
 have akq:Gc mg "NoMark" (.ref (ak mg "NoMark")):=⟨_,T.Tj,rfl⟩
 have akf:Gc mg "NoSize" (.ref (ak mg "NoSize")):=⟨_,T.R0,rfl⟩
 have akz:Gc mg "NoLine" (.ref (ak mg "NoLine")):=⟨_,T.V5,rfl⟩
 have akn:Gc mg "NoBook" (.ref (ak mg "NoBook")):=⟨_,T.Wj,rfl⟩
 have ajB:Gc mg "NoSieve" (.ref (ak mg "NoSieve")):=⟨_,T.Pz,rfl⟩
 have akK:Gc mg "NoPage" (.ref (ak mg "NoPage")):=⟨_,T.Us,rfl⟩
 have ama:Gc mg "Twice" (.ref (ak mg "Twice")):=⟨_,T.Xz,rfl⟩
 have aks:Gc mg "Absent" (.ref (ak mg "Absent")):=⟨_,T.SJ,rfl⟩
 have azu:Gc mg "Gone" (.ref (ak mg "Gone")):=⟨_,T.aek,rfl⟩
 have amN:Gc mg "Later" (.ref (ak mg "Later")):=⟨_,T.Zr,rfl⟩
 walk_at "A"
 refine aj ?_
 refine Bg (λσ c d H'=>σ=[some (.ref a),some (.str z),some (.bl false),none]/\c= .ref (ak mg "NoMark")/\au H H'/\d.1=none) rfl rfl (λF pn xo po=>?_) (λσ c d H' hK=>?_)
 .rcases hB with hB |⟨b,c,ez,hbl,hbc,hbad⟩
  .have D1:= @Bs P w K mg base T
   refine aq (eU (by rfl) ?_)
   walk_at "ex"
   exact⟨a,z,rfl,hz,hcd,hB,λH' sm=>⟨rfl,rfl,sm,rfl⟩⟩
  .have D1:= @Fp P w K mg base T
   refine aq (eU (by rfl) ?_)
   walk_at "ex"
   exact⟨a,z,b,c,cs,rfl,hC,ez,hbl,hbc,hbad,λd H' sm hd=>⟨rfl,rfl,sm,hd⟩⟩
 .obtain⟨rfl,rfl,sm,hd⟩:=hK
  refine ahp nd (by rfl) (by rfl) (by rfl) T.qU.at_ (by decide) (Xv T.fV T.qU) (λe pn he=>?_)
  rw[hd]
  have hue:(upd H' e (xw e (ak mg "NoMark") none)) e=some (xw e (ak mg "NoMark") none):=ao
  generalize eu:upd H' e (xw e (ak mg "NoMark") none)=Hu at hue⊢
  have Bm:∀{Hx:Hp} E2,(none:Option Addr)=some E2->∃fs,Hx E2=some (.xd fs):=λE2 z=>nomatch z
  walk_at "A"
  refine Z7 T.fV.attr hue Bm (λu z=>z) (V8 T.fV) ?_
  walk_at "ex"
  refine ahJ (by rfl) n2 ?_
  walk_at "ex"
  refine Z7 T.fV.attr hue Bm (u:=.type "ValueError") (λu z=>z) (aa7 T.fV) ?_
  walk_at "ex"
  refine aj (bx ?_)
  walk_at "ex"
  refine⟨by show 11≤sizeLine;omega,λp1 hp1=>?_⟩
  obtain⟨s1,e1⟩:=bR hp1 (.tup [V.ref (ak mg "Absent"),V.ref (ak mg "Gone"),V.ref (ak mg "Later"),V.ref (ak mg "NoBook"),V.ref (ak mg "NoColumns"),V.ref (ak mg "NoLine"),V.ref (ak mg "NoOrder"),V.ref (ak mg "NoPage"),V.ref (ak mg "NoRow"),V.ref (ak mg "NoSieve"),V.ref (ak mg "NoSize")])
  generalize upd Hu p1 (.tup [V.ref (ak mg "Absent"),V.ref (ak mg "Gone"),V.ref (ak mg "Later"),V.ref (ak mg "NoBook"),V.ref (ak mg "NoColumns"),V.ref (ak mg "NoLine"),V.ref (ak mg "NoOrder"),V.ref (ak mg "NoPage"),V.ref (ak mg "NoRow"),V.ref (ak mg "NoSieve"),V.ref (ak mg "NoSize")])=H1 at s1 e1⊢
  walk_at "ex"
  refine VF T.fV.attr (s1 _ _ hue) Bm e1 (xF ((["Absent","Gone","Later","NoBook","NoColumns","NoLine","NoOrder","NoPage","NoRow","NoSieve","NoSize"]:List Str).map (ak mg))) (ajj T) ?_
  walk_at "ex"
  refine aL (aq (bx ?_))
  walk_at "ex"
  refine⟨by show 2≤sizeLine;omega,λp2 hp2=>?_⟩
  obtain⟨s2,e2⟩:=bR hp2 (.tup [V.ref (ak mg "NoValue"),V.ref (ak mg "Twice")])
  generalize upd H1 p2 (.tup [V.ref (ak mg "NoValue"),V.ref (ak mg "Twice")])=H2 at s2 e2⊢
  walk_at "ex"
  refine VF T.fV.attr (s2 _ _ (s1 _ _ hue)) Bm e2 (xF ((["NoValue","Twice"]:List Str).map (ak mg))) (aa9 T) ?_
  walk_at "ex"
  refine aL ?_
  refine⟨s2 _ _ (s1 _ _ hue),?_⟩
  refine aq (bA ?_)
  walk_at "ex"
  exact q _ (P0 sm he eu.symm (s1.trans s2))
theorem Bd{k:Nat}{m:Int}(h:m<(k:Int)):mL (Str.ofString (toString (k:Int))).cps.toList m=none:=by
 obtain⟨a,b⟩:=zx k
 unfold mL
 rw[a,b,if_neg (λz=>by have :=z.2;omega)]
theorem jn{l:List Nat}{m:Int}(h:dY l=false):mL l m=none:=by
 unfold mL
 rw[h,if_neg (λz=>by cases z.1)]
theorem nu{l:List Nat}{x:Nat}(hx:x∈l)(hd:vo x=false):dY l=false:=by
 unfold dY
 rw[Bool.or_eq_false_iff]
 constructor
 .refine decide_eq_false λe=>?_
  rw[e,aeG]at hx
  subst hx
  exact absurd hd (by decide)
 .have :l.all vo=false:=by
   rw[aky]
   intro e
   rw[adt.mp e x hx]at hd
   cases hd
  rw[this,amm,amm]
theorem HJ{l:List Nat}(h:l≠[]):dY (48::l)=false:=by
 unfold dY
 rw[decide_eq_false (λe=>h (List.cons.inj e).2)]
 rw[show decide ((48::l)[0]? ≠some 48)=false from decide_eq_false λe=>e rfl]
 rw[alK,amm]
 rfl
def jk(c n m:Nat):List Str:=[Str.ofString "",Str.ofString (toString ((m:Int)+1)),Str.ofString (toString ((m:Int)+1+c)),Str.ofString "0"++Str.ofString (toString (n:Int)),Str.ofString "00",Str.ofString "+"++Str.ofString (toString (n:Int)),Str.ofString "-1",Str.ofString (toString (n:Int))++Str.ofString "x",Str.ofString "1_0"]
theorem zK(c n m:Nat):∀z∈jk c n m,mL z.cps.toList (m:Int)=none:=by
 have hne:(Str.ofString (toString (n:Int))).cps.toList≠[]:=by
  rw[iJ]
  simp[Nat.toDigits_ne_nil]
 intro z hz
 unfold jk at hz
 simp only[List.mem_cons,List.not_mem_nil,or_false]at hz
 rcases hz with rfl |rfl |rfl |rfl |rfl |rfl |rfl |rfl |rfl
 .exact jn (by decide+kernel)
 .rw[show(m:Int)+1=((m+1:Nat):Int)from rfl]
  exact Bd (by omega)
 .rw[show(m:Int)+1+c=((m+1+c:Nat):Int)by omega]
  exact Bd (by omega)
 .refine jn ?_
  rw[aA,show("0":Str).cps.toList=[48]from by decide+kernel]
  exact HJ hne
 .exact jn (by decide+kernel)
 .refine jn (nu (x:=43) ?_ (by decide))
  rw[aA,show("+":Str).cps.toList=[43]from by decide+kernel]
  simp
 .exact jn (by decide+kernel)
 .refine jn (nu (x:=120) ?_ (by decide))
  rw[aA,show("x":Str).cps.toList=[120]from by decide+kernel]
  simp
 .exact jn (by decide+kernel)
def Sg(K:acF):Sp:=λvs H Q _=>∃(a:Addr) (ns:List Int) (k:Int) (n m:Nat),vs=[.ref a,.int k,.int n,.int m]/\aX K H a (ns.map V.int)/\ns.length≤63/\0≤k/\k≤10000/\n≤1000000000/\m≤1000000000/\∀(c:Nat) (z:Str) H',au H H'->c<1000000000000000000->z∈jk c n m->z.length≤40->Q (.str z) H'
theorem gw(T:Txt K mg):Def P w K mg base true 2 "_law_whole_bent" ["_law_script","_law_k","_law_number","_law_most"] (Sg K):=by
 refine uD T (λvs H Q E h=>by obtain⟨a,ns,k,n,m,rfl,_⟩:=h;rfl) (λf cdv A outer s H vs Q E hr h=>?_)
 obtain⟨a,ns,k,n,m,rfl,hS,hl,hk0,hk1,hn,hm,q⟩:=h
 have n1:=T.jr
 have n2:=T.zU
 have nd:=lY.nd
 have hsz:=sizeLine_eq
 have yg:(ns.map V.int).length=ns.length:=aar ..
 have D1:= @bZ P w K mg base T
 have p60:(10:Nat)^60>4000000000000000000:=by decide
 have p20:(10:Nat)^20>4000000000000000000:=by decide
 have p10:(10:Nat)^10>1000000001:=by decide
 have fin:∀c:Int,lH (vd true P w K mg base ji "_law_whole_bent" (aa bN) f cdv A outer s H E) ((az bN).drop 1) {nx:=λ_ H'=>Q .non H',rt:=Q} [some (.ref a),some (.int k),some (.int n),some (.int m),some (.int c),none,none] H:=λc=>by
  walk_at "A"
  have c0:=ait c (show(1000000000000000000:Int)≠0 by decide)
  have c1:=afD c (show(0:Int)<1000000000000000000 by decide)
  refine lN (jZ (by omega)) ?_
  obtain⟨cc,ZW⟩:=aaA c0
  rw[ZW]at c1⊢
  have w1:=cG (i:=(m:Int)+1) (k:=10) (by decide) (by omega)
  have w2:=cG (i:=(m:Int)+1+(cc:Int)) (k:=20) (by decide) (by omega)
  have w3:=cG (i:=(n:Int)) (k:=10) (by decide) (by omega)
  have v1:("0":Str).length=1:=by decide+kernel
  have v2:("+":Str).length=1:=by decide+kernel
  have v3:("x":Str).length=1:=by decide+kernel
  walk_at "A"
  refine lN (jZ (by omega)) ?_
  walk_at "ex"
  refine lN (jZ (by omega)) ?_
  walk_at "ex"
  refine aZ (by omega) ?_
  walk_at "ex"
  refine lN (jZ (by omega)) ?_
  refine aZ (by omega) ?_
  walk_at "ex"
  refine lN (jZ (by omega)) ?_
  walk_at "ex"
  refine aZ (by omega) ?_
  walk_at "ex"
  refine⟨by show 9≤sizeLine;omega,λp hp=>?_⟩
  obtain⟨s1,e1⟩:=bR hp (.lst ((jk cc n m).map V.str))
  show lH _ _ _ _ (upd H p (.lst ((jk cc n m).map V.str)))
  generalize upd H p (.lst ((jk cc n m).map V.str))=H1 at e1 s1⊢
  refine aq (bA ?_)
  walk_at "ex"
  refine⟨a,ns,_,9,rfl,s1.seq hS,hl,by omega,by omega,by decide,?_⟩
  have d0:=aV ns (k+1) (m:=9) (by decide)
  have d1:=aU ns (k+1) (m:=9) (by decide)
  obtain⟨i,ei⟩:=aaA d0
  rw[ei]at d1⊢
  have hi:i<(jk cc n m).length:=by show i<9;omega
  refine aR (aX.of e1) (bz (by rw[aby,aak hi];rfl)) ?_
  refine q cc _ H1 s1 (by omega) (aeF hi) ?_
  have hw:∀z∈jk cc n m,z.length≤40:=λz hz=>by
   unfold jk at hz
   simp only[List.mem_cons,List.not_mem_nil,or_false]at hz
   rcases hz with rfl |rfl |rfl |rfl |rfl |rfl |rfl |rfl |rfl
   .decide+kernel
   .omega
   .omega
   .rw[len_app];omega
   .decide+kernel
   .rw[len_app];omega
   .decide+kernel
   .rw[len_app];omega
   .decide+kernel
  exact hw _ (aeF hi)
 refine aj ?_
 walk_at "go"
 rw[yg]
 refine dD (λh=>?_) (λh=>?_)
 .walk_at "go"
  rw[yg]
  walk_at "go"
  refine aR hS (FJ 0 (ait _ (by omega)) (afD _ (by omega))) ?_
  exact fin _
 .walk_at "ex"
  exact fin _
def nZ(z:Str):List Str:=[Str.ofString "",Str.ofString "al",z++Str.ofString " ",Str.ofString " "++z,z++Str.ofString " all",Str.ofString "not",Str.ofString "both all",Str.ofString "none",Str.ofString "is",Txt.upper z++Str.ofString "X"]
def RW(K:acF):Sp:=λvs H Q _=>∃(a:Addr) (ns:List Int) (z:Str),vs=[.ref a,.str z]/\aX K H a (ns.map V.int)/\ns.length≤63/\z.length≤100000/\(Txt.upper z).length≤100000/\∀(y:Str) H',au H H'->y∈nZ z->Q (.str y) H'
theorem jt(T:Txt K mg):Def P w K mg base true 2 "_law_sieve_bent" ["_law_script","_law_text"] (RW K):=by
 refine uP T (λvs H Q E h=>by obtain⟨a,ns,z,rfl,_⟩:=h;rfl) (λf cdv A outer s H vs Q E hr h=>?_)
 obtain⟨a,ns,z,rfl,hS,hl,hz,hu,q⟩:=h
 have nd:=lO.nd
 have hsz:=sizeLine_eq
 have D1:= @bZ P w K mg base T
 have v1:(" ":Str).length=1:=by decide+kernel
 have v2:(" all":Str).length=4:=by decide+kernel
 have v3:("X":Str).length=1:=by decide+kernel
 walk_at "A"
 refine aZ (by omega) ?_
 walk_at "ex"
 refine aZ (by omega) ?_
 walk_at "ex"
 refine aZ (by omega) ?_
 walk_at "ex"
 refine Ue F.plainAttrs_str F.slot_str_upper F.type_str_upper (by rfl) (by rfl) ?_
 walk_at "ex"
 refine m_upper (by omega) ?_
 walk_at "ex"
 refine aZ (by omega) ?_
 walk_at "ex"
 refine⟨by show 10≤sizeLine;omega,λp hp=>?_⟩
 obtain⟨s1,e1⟩:=bR hp (.lst ((nZ z).map V.str))
 show lH _ _ _ _ (upd H p (.lst ((nZ z).map V.str)))
 generalize upd H p (.lst ((nZ z).map V.str))=H1 at e1 s1⊢
 refine aq (bA ?_)
 walk_at "ex"
 refine⟨a,ns,_,10,rfl,s1.seq hS,hl,by decide,by decide,by decide,?_⟩
 have d0:=aV ns 43 (m:=10) (by decide)
 have d1:=aU ns 43 (m:=10) (by decide)
 obtain⟨i,ei⟩:=aaA d0
 rw[ei]at d1⊢
 have hi:i<(nZ z).length:=by show i<10;omega
 refine aR (aX.of e1) (bz (by rw[aby,aak hi];rfl)) ?_
 exact q _ H1 s1 (aeF hi)
theorem Uk(cs:List bC):iD cs (aW 32 ("":Str)) 0 0 0:=.odd (z:=Str.ofString "") (by decide+kernel) (by decide) (by decide+kernel)
theorem ahV(cs:List bC):iD cs (aW 32 ("al":Str)) 0 0 0:=.odd (z:=Str.ofString "al") (by decide+kernel) (by decide) (by decide+kernel)
theorem abi(cs:List bC):iD cs (aW 32 ("not":Str)) 0 0 1:=.first (z:=Str.ofString "not") (by decide+kernel) (by decide) (by decide+kernel) (by decide) (.lack (by decide+kernel))
theorem ZD(cs:List bC):iD cs (aW 32 ("none":Str)) 0 0 1:=.none (by decide+kernel) (by decide) (by
 unfold gn
 rw[show(aW 32 ("none":Str))[0+1]? =none from by decide+kernel]
 rfl)
theorem Sw{cs:List bC}{ws:List Str}{z:Str}{c:Nat}(h:ws[0]? =some z)(hc:z.cps.toList[0]? =some c)(h97:c<97):iD cs ws 0 0 0:=by
 refine .odd h (by decide) λhm=>?_
 have key:∀y∈W9,y.cps.toList.all (λc=>decide (97≤c))=true:=by decide+kernel
 have :=of_decide_eq_true (adt.mp (key z hm) c (aaR hc))
 omega
theorem agd(cs:List bC):iD cs (aW 32 ("is":Str)) 0 0 1:=.look (l:=.is) (by decide+kernel) (by decide) (.col (by
 unfold gn
 rw[show(aW 32 ("is":Str))[0+1]? =none from by decide+kernel]
 rfl))
theorem Yb(cs:List bC):iD cs (aW 32 ("both all":Str)) 0 0 2:=.second (z:=Str.ofString "both") (t:=.one .all) (m:=2) (by decide+kernel) (by decide) (.inl rfl) (by decide) ⟨by decide,by decide+kernel,rfl⟩ (by decide) (.lack (by decide+kernel))
theorem jR{ws ex:List Str}{i:Nat}{z:Str}(h:ws[i]? =some z):(ws++ex)[i]? =some z:=by
 rw[agh (aan.mp h).1,h]
theorem zZ{cs:List bC}{ws ex:List Str}{p i:Nat}(h:gn cs ws p=some i):gn cs (ws++ex) p=some i:=by
 unfold gn at h⊢
 split at h
 .rename_i hp
  rw[if_pos hp]
  cases e:ws[p]? with
  |none=>rw[e]at h;cases h
  |some z=>rw[e]at h;rw[jR e];exact h
 .cases h
theorem pH.more{cs:List bC}{ws ex:List Str}{s e:Nat}:∀{sv:Oa},pH cs ws s sv e->pH cs (ws++ex) s sv e
 | .all,h=>⟨jR h.1,h.2⟩
 | .none i,h=>by
   obtain⟨h1,h2,h3,h4⟩:=h
   exact⟨jR h1,by rw[ace];omega,zZ h3,h4⟩
 | .look l i v,h=>by
   obtain⟨h1,h2,h3,h4,⟨c,z,g1,g2,g3,g4⟩,h5⟩:=h
   exact⟨by rw[ace];omega,h2,jR h3,zZ h4,⟨c,z,g1,g2,jR g3,g4⟩,h5⟩
theorem Reads.more{cs:List bC}{ws ex:List Str}:∀{t:Tr} {s e:Nat},Reads cs ws t s e->Reads cs (ws++ex) t s e
 | .one sv,s,e,h=>⟨h.1,h.2.more⟩
 | .nt t,s,e,h=>⟨h.1,jR h.2.1,Reads.more h.2.2⟩
 | .bo t u,s,e,h=>by
   obtain⟨h1,h2,m,h3,h4⟩:=h
   exact⟨h1,jR h2,m,h3.more,h4.more⟩
 | .ei t u,s,e,h=>by
   obtain⟨h1,h2,m,h3,h4⟩:=h
   exact⟨h1,jR h2,m,h3.more,h4.more⟩
theorem Ae{c:Nat}{b:List Nat}:∀{ps:List (List Nat)},ps≠[]->(∀p∈ps,c∉p)->cutAt c (jg c ps++c::b)=ps++cutAt c b
 |[],h,_=>absurd rfl h
 |[p],_,h=>lE (h p (by simp))
 |p::q::r,_,h=>by
  have ih:=Ae (b:=b) (ps:=q::r) (by simp) λx hx=>h x (by simp[hx])
  show cutAt c ((p++c::jg c (q::r))++c::b)=_
  rw[aex,at8,lE (h p (by simp)),ih]
  rfl
theorem G7(c:Nat)(a b:List Nat):cutAt c (a++c::b)=cutAt c a++cutAt c b:=by
 have :=Ae (c:=c) (b:=b) (mH c a) (uF c a)
 rw[mC]at this
 exact this
theorem fL(a b:Str):aW 32 (a++Str.ofString " "++b)=aW 32 a++aW 32 b:=by
 unfold aW
 rw[aA,aA,show(" ":Str).cps.toList=[32]from by decide+kernel,aex]
 show(cutAt 32 (a.cps.toList++32::b.cps.toList)).map _=_
 rw[G7,agi]
theorem GC{cs:List bC}{ws:List Str}:∀{t:Tr} {e:Nat},Reads cs ws t 0 e->∃w∈W9,ws[0]? =some w
 | .one .all,e,h=>⟨_,by decide+kernel,h.2.1⟩
 | .one (.none i),e,h=>⟨_,by decide+kernel,h.2.1⟩
 | .one (.look l i v),e,h=>⟨j5 l,by cases l<;>decide+kernel,h.2.2.2.1⟩
 | .nt t,e,h=>⟨_,by decide+kernel,h.2.1⟩
 | .bo t u,e,h=>⟨_,by decide+kernel,h.2.1⟩
 | .ei t u,e,h=>⟨_,by decide+kernel,h.2.1⟩
theorem Cm{x:Nat}{l:List Nat}(hx:x≠32):∃p r,cutAt 32 (x::l)=(x::p)::r:=by
 have hne:=mH 32 (x::l)
 have hg:=mC 32 (x::l)
 cases e:cutAt 32 (x::l)with
 |nil=>exact absurd e hne
 |cons p r=>
  rw[e]at hg
  cases p with
  |nil=>
   cases r with
   |nil=>cases hg
   |cons q r=>exact absurd (List.cons.inj hg).1.symm hx
  |cons y p=>
   cases r with
   |nil=>rw[show y=x from(List.cons.inj hg).1];exact⟨p,[],rfl⟩
   |cons q r=>rw[show y=x from(List.cons.inj hg).1];exact⟨p,_,rfl⟩
theorem Hd{cs:List bC}{z:Str}{t:Tr}{e:Nat}(h:Reads cs (aW 32 z) t 0 e):∃x l,z.cps.toList=x::l/\97≤x/\x≤122:=by
 obtain⟨w,hw,e0⟩:=GC h
 have k1:Str.ofString ""∉W9:=by decide+kernel
 have key:∀y∈W9,y.cps.toList.all (λc=>decide (97≤c/\c≤122))=true:=by decide+kernel
 unfold aW at e0
 cases ez:z.cps.toList with
 |nil=>
  rw[ez]at e0
  have :w=Str.ofString "":=by
   have :("":Str)=(⟨([]:List Nat).toArray⟩:Str):=by decide+kernel
   rw[this]
   exact(Option.some.inj e0).symm
  rw[this]at hw
  exact absurd hw k1
 |cons x l=>
  rw[ez]at e0
  refine⟨x,l,rfl,?_⟩
  by_cases hx:x=32
  .subst hx
   have e1:cutAt 32 (32::l)=[]::cutAt 32 l:=lE (p:=[]) (by simp)
   rw[e1]at e0
   have :w=Str.ofString "":=by
    have :("":Str)=(⟨([]:List Nat).toArray⟩:Str):=by decide+kernel
    rw[this]
    exact(Option.some.inj e0).symm
   rw[this]at hw
   exact absurd hw k1
  .obtain⟨p,r,e1⟩:=Cm (l:=l) hx
   rw[e1]at e0
   have ew:w=⟨(x::p).toArray⟩:=(Option.some.inj e0).symm
   have :=adt.mp (key w hw) x (by rw[ew];simp)
   exact of_decide_eq_true this
def afe(cs:List bC)(y:Str):Prop:=∃n,iD cs (aW 32 y) 0 0 n\/∃t:Tr,t.dep≤20/\Reads cs (aW 32 y) t 0 n/\n<(aW 32 y).length
theorem J9{cs:List bC}{z:Str}{t:Tr}(hd:t.dep≤20)(hr:Reads cs (aW 32 z) t 0 (aW 32 z).length)(hz:∀c∈z.cps.toList,c<128):∀y∈nZ z,afe cs y:=by
 have left:∀b:Str,afe cs (z++Str.ofString " "++b):=λb=>by
  refine⟨(aW 32 z).length,.inr ⟨t,hd,?_,?_⟩⟩
  .rw[fL]
   exact hr.more
  .rw[fL,ace]
   have :aW 32 b≠[]:=by
    unfold aW
    simp[mH]
   have :=akW.mpr this
   omega
 intro y hy
 unfold nZ at hy
 simp only[List.mem_cons,List.not_mem_nil,or_false]at hy
 rcases hy with rfl |rfl |rfl |rfl |rfl |rfl |rfl |rfl |rfl |rfl
 .exact⟨_,.inl (Uk cs)⟩
 .exact⟨_,.inl (ahV cs)⟩
 .have e:z++Str.ofString " "=z++Str.ofString " "++Str.ofString "":=by
   apply bB
   rw[aA (z++Str.ofString " "),show("":Str).cps.toList=[]from by decide+kernel,List.append_nil]
  rw[e]
  exact left _
 .have e:Str.ofString " "++z=Str.ofString ""++Str.ofString " "++z:=by
   apply bB
   rw[aA,aA,aA,show("":Str).cps.toList=[]from by decide+kernel,akM]
  rw[e]
  refine⟨0,.inl (.odd (z:=Str.ofString "") ?_ (by decide) (by decide+kernel))⟩
  rw[fL,show aW 32 ("":Str)=[Str.ofString ""]from by decide+kernel]
  rfl
 .have e:z++Str.ofString " all"=z++Str.ofString " "++Str.ofString "all":=by
   apply bB
   rw[aA,aA,aA,aex]
   congr 1
  rw[e]
  exact left _
 .exact⟨_,.inl (abi cs)⟩
 .exact⟨_,.inl (Yb cs)⟩
 .exact⟨_,.inl (ZD cs)⟩
 .exact⟨_,.inl (agd cs)⟩
 .obtain⟨x,l,ez,h1,h2⟩:=Hd hr
  have eu:(Txt.upper z).cps.toList=(x::l).map Ar:=by
   have :=uW z.cps.toList hz
   rw[show(⟨z.cps.toList.toArray⟩:Str)=z from by obtain⟨⟨l⟩⟩:=z;rfl]at this
   rw[this,ez]
  have ex:Ar x=x-32:=by unfold Ar;rw[if_pos ⟨h1,h2⟩]
  obtain⟨p,r,ec⟩:=Cm (x:=Ar x) (l:=l.map Ar++("X":Str).cps.toList) (by rw[ex];omega)
  refine⟨0,.inl (Sw (z:=⟨(Ar x::p).toArray⟩) (c:=Ar x) ?_ (by simp) (by rw[ex];omega))⟩
  unfold aW
  rw[aA,eu,List.map_cons,at8,ec]
  rfl
theorem eO{cs:List bC}{z w:Str}(hz:z≠"")(hw:w∈aW 32 z)(h:j7 cs w=none):iB cs z=none:=by
 unfold iB
 rw[if_neg hz,xH hw h]
 split <;>rfl
theorem uE{cs:List bC}{z:Str}(h:z.cps.toList[0]? ≠some 43)(h2:z.cps.toList[0]? ≠some 45):j7 cs z=none:=by
 unfold j7
 rw[if_neg λe=>e.1.elim h h2]
theorem mO{cs:List bC}{z:Str}(h:∀c∈cs,c.1≠bO z (some 1) none):j7 cs z=none:=by
 unfold j7
 rw[if_neg λe=>e.2 (Kl 0 h)]
theorem iI{z:Str}{x:Nat}(h:x∈z.cps.toList):z≠"":=λe=>by
 rw[e]at h
 have :x∈([]:List Nat):=h
 simp at this
theorem XX{z:Str}(h:32∉z.cps.toList):aW 32 z=[z]:=jO (ps:=[z]) (by simp) λp hp=>by rw[aeG.mp hp];exact h
theorem oR{z:Str}(h:32∉z.cps.toList):z∈aW 32 z:=by rw[XX h];simp
theorem ir{z:Str}(h:isName z=true):(∃x l,z.cps.toList=x::l)/\∀c∈z.cps.toList,97≤c/\c≤122:=by
 unfold isName at h
 rw[aaP]at h
 constructor
 .have h1:=(of_decide_eq_true h.1).1
  have :=L2.len_list z
  cases e:z.cps.toList with
  |nil=>rw[e]at this;simp at this;omega
  |cons x l=>exact⟨x,l,rfl⟩
 .intro c hc
  have h2:=h.2
  unfold jo at h2
  rw[adt]at h2
  have h3:=of_decide_eq_true (h2 c hc)
  have key:∀c∈XH.cps.toList,97≤c/\c≤122:=by decide+kernel
  exact key c h3
theorem lF{z:Str}(h:∀c∈z.cps.toList,c<128):(Txt.upper z).cps.toList=z.cps.toList.map Ar:=by
 have :=uW z.cps.toList h
 rw[show(⟨z.cps.toList.toArray⟩:Str)=z from by obtain⟨⟨l⟩⟩:=z;rfl]at this
 exact this
def qy(n z:Str):List Str:=[Str.ofString "+"++n++Str.ofString " -"++n,Str.ofString "*"++n,n,Str.ofString "+"++n++Str.ofString " ",Str.ofString " +"++n,Str.ofString "+",Str.ofString "+"++Txt.upper n,Str.ofString "+"++n++Str.ofString "  -"++n,z++Str.ofString " +zzzzzzzzz",Str.ofString "++"++n]
theorem ac4:("+":Str).cps.toList=[43]/\("-":Str).cps.toList=[45]/\(" ":Str).cps.toList=[32]/\("":Str).cps.toList=[]/\("*":Str).cps.toList=[42]/\(" -":Str).cps.toList=[32,45]/\(" +":Str).cps.toList=[32,43]/\("  -":Str).cps.toList=[32,32,45]/\("++":Str).cps.toList=[43,43]:=by decide+kernel
theorem Vh{cs:List bC}(hok:aQ cs=true){n z:Str}(hn:n∈cs.map Prod.fst):∀y∈qy n z,iB cs y=none:=by
 obtain⟨l1,l2,l3,l4,l5,l6,l7,l8,l9⟩:=ac4
 obtain⟨⟨x,l,en⟩,hs⟩:=ir (gk hok hn)
 have hcn:∀c∈cs,isName c.1=true:=λc hc=>gk hok (adg.mpr ⟨c,hc,rfl⟩)
 have hx:=hs x (by rw[en];simp)
 have n32:32∉n.cps.toList:=λh=>by have :=hs 32 h;omega
 obtain⟨cc,hcc,ZW⟩:=adg.mp hn
 have empty:j7 cs ("":Str)=none:=uE (by rw[l4];simp) (by rw[l4];simp)
 have em:aW 32 ("":Str)=[Str.ofString ""]:=by decide+kernel
 intro y hy
 unfold qy at hy
 simp only[List.mem_cons,List.not_mem_nil,or_false]at hy
 rcases hy with rfl |rfl |rfl |rfl |rfl |rfl |rfl |rfl |rfl |rfl
 .have e:Str.ofString "+"++n++Str.ofString " -"++n=Str.join " " ([(n,true),(n,false)].map d9):=by
   apply bB
   show _=(Str.ofString "+"++n++Str.ofString " "++(Str.ofString "-"++n)).cps.toList
   simp only[aA,l1,l2,l3,l6,aex]
   rfl
  have hf:∀p∈[(n,true),(n,false)].map d9,32∉p.cps.toList:=λp hp=>by
   obtain⟨o,ho,rfl⟩:=adg.mp hp
   refine wU ?_
   rcases abO.mp ho with rfl |ho
   .exact n32
   .rw[aeG.mp ho];exact n32
  have hm:By (j7 cs) ([(n,true),(n,false)].map d9)=some [(n,true),(n,false)]:=by
   refine xJ (by rfl) λi a b e1 e2=>?_
   rw[aby,e2]at e1
   rw[<-Option.some.inj e1]
   have hb:b.1=n:=by
    rcases abO.mp (aaR e2)with rfl |h
    .rfl
    .rw[aeG.mp h]
   exact zN hcc (ZW.trans hb.symm)
  unfold iB
  rw[if_neg (iI (x:=43) (by rw[aA,aA,aA,l1];simp)),e,jO (by simp) hf,if_neg (by show ¬4<2;omega),hm]
  show(if(([(n,true),(n,false)]:List Ord).map Prod.fst).Nodup then _ else none)=none
  rw[if_neg (by simp)]
 .have e:(Str.ofString "*"++n).cps.toList=42::n.cps.toList:=by rw[aA,l5];rfl
  refine eO (iI (x:=42) (by rw[e];simp)) (oR (by rw[e];simpa using n32)) (uE (by rw[e];simp) (by rw[e];simp))
 .refine eO (iI (x:=x) (by rw[en];simp)) (oR n32) (uE (by rw[en];simp;omega) (by rw[en];simp;omega))
 .have e:Str.ofString "+"++n++Str.ofString " "=Str.ofString "+"++n++Str.ofString " "++Str.ofString "":=by
   apply bB
   rw[aA (Str.ofString "+"++n++Str.ofString " "),l4,List.append_nil]
  refine eO (iI (x:=43) (by rw[aA,aA,l1];simp)) ?_ empty
  rw[e,fL,em]
  simp
 .have e:Str.ofString " +"++n=Str.ofString ""++Str.ofString " "++(Str.ofString "+"++n):=by
   apply bB
   simp only[aA,l1,l3,l4,l7]
   rfl
  refine eO (iI (x:=43) (by rw[aA,l7];simp)) ?_ empty
  rw[e,fL,em]
  simp
 .refine eO (iI (x:=43) (by rw[l1];simp)) (oR (by rw[l1];simp)) (mO λc hc e=>?_)
  obtain⟨⟨x1,l1',e1⟩,_⟩:=ir (hcn c hc)
  rw[e]at e1
  have :(bO ("+":Str) (some 1) none).cps.toList=[]:=by decide+kernel
  rw[this]at e1
  cases e1
 .have eu:(Txt.upper n).cps.toList=Ar x::l.map Ar:=by
   rw[lF λc hc=>by have :=hs c hc;omega,en]
   rfl
  have ex:Ar x=x-32:=by unfold Ar;rw[if_pos hx]
  have u32:32∉(Txt.upper n).cps.toList:=by
   rw[lF λc hc=>by have :=hs c hc;omega]
   intro hm
   obtain⟨c,hc,e⟩:=adg.mp hm
   have :=hs c hc
   unfold Ar at e
   rw[if_pos this]at e
   omega
  have e:(Str.ofString "+"++Txt.upper n).cps.toList=43::(Txt.upper n).cps.toList:=by rw[aA,l1];rfl
  refine eO (iI (x:=43) (by rw[e];simp)) (oR (by rw[e];simpa using u32)) (mO λc hc e2=>?_)
  rw[show Str.ofString "+"=⟨#[43]⟩from by decide+kernel,Q3]at e2
  have :=(ir (hcn c hc)).2 (Ar x) (by rw[e2,eu];simp)
  omega
 .have e:Str.ofString "+"++n++Str.ofString "  -"++n=Str.ofString "+"++n++Str.ofString " "++(Str.ofString ""++Str.ofString " "++(Str.ofString "-"++n)):=by
   apply bB
   simp only[aA,l1,l2,l3,l4,l8,aex]
   rfl
  refine eO (iI (x:=43) (by rw[aA,aA,aA,l1];simp)) ?_ empty
  rw[e,fL,fL,em]
  simp
 .have e:z++Str.ofString " +zzzzzzzzz"=z++Str.ofString " "++Str.ofString "+zzzzzzzzz":=by
   apply bB
   rw[aA,aA,aA,aex]
   congr 1
  have w:Str.ofString "+zzzzzzzzz"∈aW 32 ("+zzzzzzzzz":Str):=oR (by decide+kernel)
  refine eO (iI (x:=43) (by rw[aA];exact aew _ (by decide+kernel))) (w:=Str.ofString "+zzzzzzzzz") ?_ (mO λc hc e2=>?_)
  .rw[e,fL]
   exact aew _ w
  .have h1:=eF (hcn c hc)
   rw[e2]at h1
   exact absurd h1 (by decide+kernel)
 .have e:(Str.ofString "++"++n).cps.toList=43::43::n.cps.toList:=by rw[aA,l9];rfl
  refine eO (iI (x:=43) (by rw[e];simp)) (oR (by rw[e];simpa using n32)) (mO λc hc e2=>?_)
  have e3:Str.ofString "++"++n=⟨#[43]⟩++(Str.ofString "+"++n):=by
   apply bB
   simp only[aA,l1,l9]
   rfl
  rw[e3,Q3]at e2
  have :=(ir (hcn c hc)).2 43 (by rw[e2,aA,l1];simp)
  omega
def Vi(K:acF):Sp:=λvs H Q _=>∃(a b:Addr) (ns:List Int) (z:Str) (cs:List bC),vs=[.ref a,.str z,.ref b]/\aX K H a (ns.map V.int)/\ns.length≤63/\z.length≤4000/\dX H b cs/\aQ cs=true/\∀(n y:Str) H',au H H'->n∈cs.map Prod.fst->y∈qy n z->Q (.str y) H'
theorem jw(T:Txt K mg):Def P w K mg base true 2 "_law_order_bent" ["_law_script","_law_text","_law_columns_here"] (Vi K):=by
 refine uL T (λvs H Q E h=>by obtain⟨a,b,ns,z,cs,rfl,_⟩:=h;rfl) (λf cdv A outer s H vs Q E hr h=>?_)
 obtain⟨a,b,ns,z,cs,rfl,hS,hl,hz,⟨vs,hc,hvs⟩,hok,q⟩:=h
 have nd:=mj.nd
 have n1:=T.jr
 have hsz:=sizeLine_eq
 have D1:= @bZ P w K mg base T
 have hvl:=hvs.len
 obtain⟨c1,c6⟩:=vI hok
 have sqc:aX K H b vs:=aX.of hc
 have v1:("+":Str).length=1:=by decide+kernel
 have v2:(" -":Str).length=2:=by decide+kernel
 have v3:("*":Str).length=1:=by decide+kernel
 have v4:(" ":Str).length=1:=by decide+kernel
 have v5:(" +":Str).length=2:=by decide+kernel
 have v6:("  -":Str).length=3:=by decide+kernel
 have v7:(" +zzzzzzzzz":Str).length=11:=by decide+kernel
 have v8:("++":Str).length=2:=by decide+kernel
 walk_at "A"
 refine⟨a,ns,41,_,rfl,hS,hl,by omega,by omega,by omega,?_⟩
 have a0:=aV ns 41 (m:=(vs.length:Int)) (by omega)
 have a1:=aU ns 41 (m:=(vs.length:Int)) (by omega)
 obtain⟨p,ep⟩:=aaA a0
 rw[ep]at a1⊢
 have hp:p<cs.length:=by omega
 have hcp:cs[p]? =some cs[p]:=aak hp
 obtain⟨cv,gc,t,rfl,ht⟩:=hvs.get' hcp
 have hcm:cs[p]∈cs:=aeF hp
 have hnm':cs[p].1∈cs.map Prod.fst:=adg.mpr ⟨cs[p],hcm,rfl⟩
 have hnm:=gk hok hnm'
 have hnl:=eF hnm
 have hul:(Txt.upper cs[p].1).length≤8:=by
  have h1:=L2.len_list (Txt.upper cs[p].1)
  have h2:=L2.len_list cs[p].1
  rw[lF λc hc=>by have :=(ir hnm).2 c hc;omega,aar]at h1
  omega
 refine aR sqc (bz gc) ?_
 walk_at "ex"
 refine cQ (dg.of ht) (i:=0) rfl ?_
 generalize hcc:cs[p].1=n at *
 walk_at "A"
 refine aZ (by omega) ?_
 walk_at "ex"
 refine aZ (by rw[len_app];omega) ?_
 walk_at "ex"
 refine aZ (by rw[len_app,len_app];omega) ?_
 walk_at "ex"
 refine aZ (by omega) ?_
 walk_at "ex"
 refine aZ (by omega) ?_
 walk_at "ex"
 refine aZ (by rw[len_app];omega) ?_
 walk_at "ex"
 refine aZ (by omega) ?_
 walk_at "ex"
 refine Ue F.plainAttrs_str F.slot_str_upper F.type_str_upper (by rfl) (by rfl) ?_
 walk_at "ex"
 refine m_upper (by omega) ?_
 walk_at "ex"
 refine aZ (by omega) ?_
 walk_at "ex"
 refine⟨by show 7≤sizeLine;omega,λp1 hp1=>?_⟩
 obtain⟨s1,e1⟩:=bR hp1 (.lst (((qy n z).take 7).map V.str))
 show lH _ _ _ _ (upd H p1 (.lst (((qy n z).take 7).map V.str)))
 generalize upd H p1 (.lst (((qy n z).take 7).map V.str))=H1 at e1 s1⊢
 walk_at "A"
 refine aZ (by omega) ?_
 walk_at "ex"
 refine aZ (by rw[len_app];omega) ?_
 walk_at "ex"
 refine aZ (by rw[len_app,len_app];omega) ?_
 walk_at "ex"
 refine aZ (by omega) ?_
 walk_at "ex"
 refine aZ (by omega) ?_
 walk_at "ex"
 refine⟨by show 3≤sizeLine;omega,λp2 hp2=>?_⟩
 obtain⟨s2,e2⟩:=bR hp2 (.lst (((qy n z).drop 7).map V.str))
 show OP _ _ _ _ (upd H1 p2 (.lst (((qy n z).drop 7).map V.str))) _
 generalize upd H1 p2 (.lst (((qy n z).drop 7).map V.str))=H2 at e2 s2⊢
 refine UJ (s2 _ _ e1) e2 (by show 7+3≤sizeLine;omega) λp3 hp3=>?_
 have ee:((qy n z).take 7).map V.str++((qy n z).drop 7).map V.str=(qy n z).map V.str:=rfl
 rw[ee]
 obtain⟨s3,e3⟩:=bR hp3 (.lst ((qy n z).map V.str))
 generalize upd H2 p3 (.lst ((qy n z).map V.str))=H3 at e3 s3⊢
 have s13:=(s1.trans s2).trans s3
 refine aq (bA ?_)
 walk_at "ex"
 refine⟨a,ns,_,10,rfl,s13.seq hS,hl,by decide,by decide,by decide,?_⟩
 have d0:=aV ns 42 (m:=10) (by decide)
 have d1:=aU ns 42 (m:=10) (by decide)
 obtain⟨i,ei⟩:=aaA d0
 rw[ei]at d1⊢
 have hi:i<(qy n z).length:=by show i<10;omega
 refine aR (aX.of e3) (bz (by rw[aby,aak hi];rfl)) ?_
 exact q n _ H3 s13 hnm' (aeF hi)
theorem sO{α β:Type}(f:α->β):∀(l:List α) (k:Nat),(l.map f).eraseIdx k=(l.eraseIdx k).map f
 |[],k=>by simp
 |x::l,0=>rfl
 |x::l,k+1=>by
  show f x::(l.map f).eraseIdx k=f x::(l.eraseIdx k).map f
  rw[sO f l k]
def aaV(cs:List bC)(os:List Ord)(ws:List Str)(v:Bool):Prop:=∃w r,ws=w::r/\((v=false/\mL w.cps.toList 1000000000=none)\/(v=true/\∃row:Nat,w=Str.ofString (toString (row:Int))/\(row:Int)≤1000000000/\(r.length≠os.length\/∃(i:Nat) (o:Ord) (y:Str),os[i]? =some o/\r[i]? =some y/\gB (dC cs o.1) y=none)))
theorem sign_one(b:Bool):∃n,dN b=⟨#[n]⟩:=by
 cases b
 .exact⟨62,by decide+kernel⟩
 .exact⟨60,by decide+kernel⟩
theorem rJ{cs:List bC}{os:List Ord}{ws:List Str}{v sd:Bool}(hf:∀p∈ws,32∉p.cps.toList)(h:aaV cs os ws v):uG cs os (dN sd++Str.join " " ws) v:=by
 obtain⟨w,r,rfl,h⟩:=h
 obtain⟨n,en⟩:=sign_one sd
 refine .inr ⟨sd,w,r,?_,?_,h⟩
 .apply bB
  rw[show(some (1:Int))=some ((1:Nat):Int)from rfl,mZ,en,aA]
  rfl
 .rw[en,Q3,jO (by simp) hf]
structure yR(cs:List bC)(os:List Ord)(ws:List Str):Prop where
 plain:∀p∈ws,plainS p
 short:∀p∈ws,p.length≤40
 few:ws.length≤6
 bad:∃v,∀sd,uG cs os (dN sd++Str.join " " ws) v
theorem yR.of{cs:List bC}{os:List Ord}{ws:List Str}{v:Bool}(h1:∀p∈ws,plainS p)(h2:∀p∈ws,p.length≤40)(h3:ws.length≤6)(hf:∀p∈ws,32∉p.cps.toList)(h:aaV cs os ws v):yR cs os ws:=⟨h1,h2,h3,v,λ_=>rJ hf h⟩
theorem yR.len{cs:List bC}{os:List Ord}{ws:List Str}(h:yR cs os ws)(sd:Bool):(dN sd++Str.join " " ws).length≤300/\plainS (dN sd++Str.join " " ws):=by
 have h1:=DG ws 40 h.short
 have h2:=jy ws
 have h3:(dN sd).length=1:=by cases sd<;>decide+kernel
 have h4:=h.few
 refine⟨?_,(Ad _).app (plainS.join h.plain)⟩
 rw[len_app]
 have :ws.length*40≤6*40:=aiB _ h4
 omega
theorem rM{cs:List bC}(hc:aQ cs=true){M:Mk}(h:bW cs M):∀p∈bK M.cut,32∉p.cps.toList:=λp hp=>by
 rcases abO.mp hp with rfl |hp
 .intro hm
  have :=d7 _ _ hm
  omega
 .obtain⟨x,hx,rfl⟩:=adg.mp hp
  exact(h.Ie hc x hx).2.2
def Ei:List Str:=[Str.ofString "1",Str.ofString "?",Str.ofString "'a",Str.ofString ""]
theorem Va:∀y∈Ei,y.length≤40/\32∉y.cps.toList/\plainS y/\(y=Str.ofString (toString ((1:Nat):Int))\/mL y.cps.toList 1000000000=none):=by
 intro y hy
 unfold Ei at hy
 simp only[List.mem_cons,List.not_mem_nil,or_false]at hy
 rcases hy with rfl |rfl |rfl |rfl
 .exact⟨by decide+kernel,by decide+kernel,by unfold plainS;decide+kernel,.inl (by decide+kernel)⟩
 .exact⟨by decide+kernel,by decide+kernel,by unfold plainS;decide+kernel,.inr (by decide+kernel)⟩
 .exact⟨by decide+kernel,by decide+kernel,by unfold plainS;decide+kernel,.inr (by decide+kernel)⟩
 .exact⟨by decide+kernel,by decide+kernel,by unfold plainS;decide+kernel,.inr (by decide+kernel)⟩
theorem sV{α:Type}{xs:List α}{k:Nat}{y u:α}(h:u∈jd xs k y):u=y\/u∈xs:=by
 unfold jd at h
 rcases aeC.mp h with h |h
 .exact .inr (afx h)
 .rcases abO.mp h with h |h
  .exact .inl h
  .exact .inr (ahg h)
theorem xu{α:Type}{xs:List α}{k:Nat}{y:α}:(jd xs k y).length=xs.length+1:=by
 unfold jd
 rw[ace,List.length_cons,afm,afr]
 omega
theorem adM{cs:List bC}(hc:aQ cs=true){M:Mk}(h:bW cs M){k:Nat}(hk:k≤(bK M.cut).length){y:Str}(hy:y∈Ei):yR cs M.os (jd (bK M.cut) k y):=by
 obtain⟨y1,y2,y3,y4⟩:=Va y hy
 obtain⟨k1,k2⟩:=jQ hc h
 have hxl:=h.xsl
 have hvl:=h.vals.len
 have kl:(bK M.cut).length=M.cut.xs.length+1:=by
  show(M.cut.xs.map wordOf).length+1=_
  rw[aar]
 have hb:∃v,aaV cs M.os (jd (bK M.cut) k y) v:=by
  cases k with
  |zero=>
   rcases y4 with rfl |y4
   .exact⟨true,_,_,rfl,.inr ⟨rfl,1,rfl,by decide,.inl (by show(bK M.cut).length≠_;omega)⟩⟩
   .exact⟨false,_,_,rfl,.inl ⟨rfl,y4⟩⟩
  |succ k=>
   refine⟨true,_,jd (M.cut.xs.map wordOf) k y,rfl,.inr ⟨rfl,M.cut.row,rfl,by have :=h.row;omega,.inl ?_⟩⟩
   rw[xu,aar]
   omega
 obtain⟨v,hb⟩:=hb
 refine yR.of (λp hp=>?_) (λp hp=>?_) (by rw[xu];omega) (λp hp=>?_) hb
 .rcases sV hp with rfl |hp
  .exact y3
  .exact lC h p hp
 .rcases sV hp with rfl |hp
  .exact y1
  .have :=k1 p hp;omega
 .rcases sV hp with rfl |hp
  .exact y2
  .exact rM hc h p hp
theorem V2{kd:Str}{v:V}(h:pL kd v):mL (wordOf v).cps.toList 1000000000=none\/∃row:Nat,wordOf v=Str.ofString (toString (row:Int))/\(row:Int)≤1000000000:=by
 rcases h with rfl |⟨_,i,rfl,h1,h2⟩ |⟨_,z,rfl,_,_⟩
 .exact .inl (by decide+kernel)
 .by_cases h0:0≤i
  .obtain⟨m,rfl⟩:=aaA h0
   by_cases hm:(m:Int)≤1000000000
   .exact .inr ⟨m,rfl,hm⟩
   .exact .inl (Bd (by omega))
  .obtain⟨m,hm⟩:=aaA (a:= -i) (by omega)
   refine .inl (jn (nu (x:=45) ?_ (by decide)))
   have e:i= -((m:Nat):Int):=by omega
   show 45∈(Str.ofString (toString i)).cps.toList
   rw[e,wA m (by omega),aA,show("-":Str).cps.toList=[45]from by decide+kernel]
   simp
 .refine .inl (jn (nu (x:=39) ?_ (by decide)))
  show 39∈(Str.ofString "'"++z).cps.toList
  rw[aA,show("'":Str).cps.toList=[39]from by decide+kernel]
  simp
theorem Ti{cs:List bC}(hc:aQ cs=true){M:Mk}(h:bW cs M){k:Nat}(hk:k<(bK M.cut).length):yR cs M.os ((bK M.cut).eraseIdx k):=by
 obtain⟨k1,k2⟩:=jQ hc h
 have hxl:=h.xsl
 have hvl:=h.vals.len
 have kl:(bK M.cut).length=M.cut.xs.length+1:=by
  show(M.cut.xs.map wordOf).length+1=_
  rw[aar]
 have hm:∀p∈(bK M.cut).eraseIdx k,p∈bK M.cut:=λp hp=>am9 hp
 have hlen:((bK M.cut).eraseIdx k).length≤6:=by
  rw[akE]
  split <;>omega
 refine⟨λp hp=>lC h p (hm p hp),λp hp=>by have :=k1 p (hm p hp);omega,hlen,?_⟩
 have free:=λp hp=>rM hc h p (hm p hp)
 cases k with
 |zero=>
  cases e:M.cut.xs with
  |nil=>
   refine⟨false,λsd=>?_⟩
   have e1:(bK M.cut).eraseIdx 0=[]:=by unfold bK;rw[e];rfl
   rw[e1]
   have :Str.join " " ([]:List Str)=Str.join " " [Str.ofString ""]:=by decide+kernel
   rw[this]
   refine rJ (λp hp=>by rw[aeG.mp hp];decide+kernel) ⟨_,_,rfl,.inl ⟨rfl,by decide+kernel⟩⟩
  |cons x r=>
   have e1:(bK M.cut).eraseIdx 0=wordOf x::r.map wordOf:=by unfold bK;rw[e];rfl
   obtain⟨o,_,hv⟩:=h.vals.TF x (by rw[e];simp)
   rcases V2 hv with hf |⟨row,er,hr⟩
   .exact⟨false,λsd=>rJ free ⟨_,_,e1,.inl ⟨rfl,hf⟩⟩⟩
   .refine⟨true,λsd=>rJ free ⟨_,_,e1,.inr ⟨rfl,row,er,hr,.inl ?_⟩⟩⟩
    rw[aar]
    rw[e]at hvl
    simp only[List.length_cons]at hvl
    omega
 |succ k=>
  refine⟨true,λsd=>rJ free ⟨_,(M.cut.xs.map wordOf).eraseIdx k,rfl,.inr ⟨rfl,M.cut.row,rfl,by have :=h.row;omega,.inl ?_⟩⟩⟩
  rw[akE,aar,if_pos (by omega)]
  omega
theorem yh{c n m:Nat}{y:Str}(hy:y∈jk c n m):plainS y:=by
 have hn:=rZ
 have l0:plainS ("0":Str)/\plainS ("+":Str)/\plainS ("x":Str)/\plainS ("":Str)/\plainS ("00":Str)/\plainS ("-1":Str)/\plainS ("1_0":Str):=by unfold plainS;decide+kernel
 obtain⟨a1,a2,a3,a4,a5,a6,a7⟩:=l0
 unfold jk at hy
 simp only[List.mem_cons,List.not_mem_nil,or_false]at hy
 rcases hy with rfl |rfl |rfl |rfl |rfl |rfl |rfl |rfl |rfl
 .exact a4
 .exact hn _
 .exact hn _
 .exact a1.app (hn _)
 .exact a5
 .exact a2.app (hn _)
 .exact a6
 .exact(hn _).app a3
 .exact a7
theorem Uv{cs:List bC}(hc:aQ cs=true){M:Mk}(h:bW cs M){c:Nat}{y:Str}(hc2:c<1000000000000000000)(hy:y∈jk c M.cut.row 1000000000)(hl:y.length≤40):yR cs M.os ((bK M.cut).set 0 y):=by
 obtain⟨k1,k2⟩:=jQ hc h
 have hp0:plainS y:=yh hy
 have hfr:32∉y.cps.toList:=by
  have hn:∀m:Nat,32∉(Str.ofString (toString (m:Int))).cps.toList:=λm hm=>by
   have :=d7 _ _ hm
   omega
  have l0:32∉("0":Str).cps.toList/\32∉("+":Str).cps.toList/\32∉("x":Str).cps.toList/\32∉("":Str).cps.toList/\32∉("00":Str).cps.toList/\32∉("-1":Str).cps.toList/\32∉("1_0":Str).cps.toList:=by decide+kernel
  obtain⟨a1,a2,a3,a4,a5,a6,a7⟩:=l0
  have ap:∀{u v:Str},32∉u.cps.toList->32∉v.cps.toList->32∉(u++v).cps.toList:=λh1 h2 hm=>by
   rw[aA]at hm
   exact(aeC.mp hm).elim h1 h2
  unfold jk at hy
  simp only[List.mem_cons,List.not_mem_nil,or_false]at hy
  rcases hy with rfl |rfl |rfl |rfl |rfl |rfl |rfl |rfl |rfl
  .exact a4
  .exact hn 1000000001
  .have :=hn (1000000001+c)
   rw[show(((1000000001+c:Nat)):Int)=((1000000000:Nat):Int)+1+c by omega]at this
   exact this
  .exact ap a1 (hn _)
  .exact a5
  .exact ap a2 (hn _)
  .exact a6
  .exact ap (hn _) a3
  .exact a7
 have e:(bK M.cut).set 0 y=y::M.cut.xs.map wordOf:=rfl
 rw[e]
 have tl:∀p∈M.cut.xs.map wordOf,p∈bK M.cut:=λp hp=>aeA _ hp
 refine yR.of (v:=false) (λp hp=>?_) (λp hp=>?_) (by have :(bK M.cut).length≤5:=k2;show(M.cut.xs.map wordOf).length+1≤6;have e2:(bK M.cut).length=(M.cut.xs.map wordOf).length+1:=rfl;omega) (λp hp=>?_) ⟨_,_,rfl,.inl ⟨rfl,zK c _ _ y hy⟩⟩
 .rcases abO.mp hp with rfl |hp
  .exact hp0
  .exact lC h p (tl p hp)
 .rcases abO.mp hp with rfl |hp
  .exact hl
  .have :=k1 p (tl p hp);omega
 .rcases abO.mp hp with rfl |hp
  .exact hfr
  .exact rM hc h p (tl p hp)
def uw(t:Bool):List Str:=[Str.ofString "",Str.ofString "a",Str.ofString "'A",Str.ofString "??",Str.ofString "01",Str.ofString "-0",Str.ofString "'a'",Str.ofString "1000000000000000001",if t=true then Str.ofString "1" else Str.ofString "'1"]
theorem T7(t:Bool):∀y∈uw t,gB (if t=true then Str.ofString "text" else Str.ofString "number") y=none/\y.length≤40/\32∉y.cps.toList/\plainS y:=by
 unfold plainS
 cases t<;>decide+kernel
theorem RM{cs:List bC}(hc:aQ cs=true){M:Mk}(h:bW cs M){i:Nat}{o:Ord}(ho:M.os[i]? =some o){y:Str}(hy:y∈uw (decide (dC cs o.1=Str.ofString "text"))):yR cs M.os ((bK M.cut).set (1+i) y):=by
 obtain⟨k1,k2⟩:=jQ hc h
 have hvl:=h.vals.len
 obtain⟨y1,y2,y3,y4⟩:=T7 _ y hy
 have ek:(if decide (dC cs o.1=Str.ofString "text")=true then Str.ofString "text" else Str.ofString "number")=dC cs o.1:=by
  rcases Av hc (h.names o (aaR ho))with e |e
  .rw[e];decide+kernel
  .rw[e];decide+kernel
 rw[ek]at y1
 have e:(bK M.cut).set (1+i) y=Str.ofString (toString (M.cut.row:Int))::(M.cut.xs.map wordOf).set i y:=by
  rw[Nat.add_comm]
  rfl
 have hil:=(aan.mp ho).1
 have mm:∀p∈(bK M.cut).set (1+i) y,p=y\/p∈bK M.cut:=λp hp=>(List.mem_or_eq_of_mem_set hp).symm
 refine yR.of (v:=true) (λp hp=>?_) (λp hp=>?_) (by rw[auu];omega) (λp hp=>?_) ⟨_,_,e,.inr ⟨rfl,M.cut.row,rfl,by have :=h.row;omega,.inr ⟨i,o,y,ho,?_,y1⟩⟩⟩
 .rcases mm p hp with rfl |hp
  .exact y4
  .exact lC h p hp
 .rcases mm p hp with rfl |hp
  .exact y2
  .have :=k1 p hp;omega
 .rcases mm p hp with rfl |hp
  .exact y3
  .exact rM hc h p hp
 .rw[ajw (by rw[aar];omega)]
def GD:List Str:=[Str.ofString "",Str.ofString "=",Str.ofString "[",Str.ofString " "]
theorem Vu{cs:List bC}(hc:aQ cs=true){M:Mk}(h:bW cs M):∀y∈GD,uG cs M.os (y++Str.join " " (bK M.cut)) false/\(y++Str.join " " (bK M.cut)).length≤300/\plainS (y++Str.join " " (bK M.cut)):=by
 obtain⟨k1,k2⟩:=jQ hc h
 have h3:=DG _ 21 k1
 have h4:=jy (bK M.cut)
 have h5:∀y∈GD,y.length≤1/\plainS y:=by unfold plainS;decide+kernel
 have hj:∃x l,(Str.join " " (bK M.cut)).cps.toList=x::l/\48≤x/\x≤57:=by
  have hd:=d7 M.cut.row
  have hn:(Str.ofString (toString (M.cut.row:Int))).cps.toList≠[]:=by
   rw[iJ]
   simp[Nat.toDigits_ne_nil]
  have hg:(Str.join " " (bK M.cut)).cps.toList=jg 32 ((bK M.cut).map λp=>p.cps.toList):=jK 32 _
  cases e:(Str.ofString (toString (M.cut.row:Int))).cps.toList with
  |nil=>exact absurd e hn
  |cons x l=>
   have hx:=hd x (by rw[e];simp)
   unfold bK at hg
   rw[List.map_cons,e]at hg
   unfold bK
   rw[hg]
   cases(M.cut.xs.map wordOf).map λp=>p.cps.toList with
   |nil=>exact⟨x,l,rfl,hx⟩
   |cons q r=>exact⟨x,_,rfl,hx⟩
 obtain⟨x,l,ex,hx⟩:=hj
 intro y hy
 obtain⟨y1,y2⟩:=h5 y hy
 refine⟨.inl ⟨rfl,?_⟩,?_,y2.app (plainS.join (lC h))⟩
 .have key:∃n,(bO (y++Str.join " " (bK M.cut)) none (some 1)).cps.toList=[n]/\n≠60/\n≠62:=by
   rw[show(some (1:Int))=some ((1:Nat):Int)from rfl,mZ,aA,ex]
   unfold GD at hy
   simp only[List.mem_cons,List.not_mem_nil,or_false]at hy
   rcases hy with rfl |rfl |rfl |rfl
   .rw[show("":Str).cps.toList=[]from by decide+kernel]
    exact⟨x,rfl,by omega,by omega⟩
   .rw[show("=":Str).cps.toList=[61]from by decide+kernel]
    exact⟨61,rfl,by omega,by omega⟩
   .rw[show("[":Str).cps.toList=[91]from by decide+kernel]
    exact⟨91,rfl,by omega,by omega⟩
   .rw[show(" ":Str).cps.toList=[32]from by decide+kernel]
    exact⟨32,rfl,by omega,by omega⟩
  obtain⟨n,en,n1,n2⟩:=key
  constructor
  .intro e
   rw[e,show(dN true).cps.toList=[60]from by decide+kernel]at en
   exact n1 (List.cons.inj en).1.symm
  .intro e
   rw[e,show(dN false).cps.toList=[62]from by decide+kernel]at en
   exact n2 (List.cons.inj en).1.symm
 .rw[len_app]
  have :(bK M.cut).length*21≤5*21:=aiB _ k2
  omega
def vU(cs:List bC)(z:Str)(j:Nat):Bool:=match cs[j]? with
 |some c=>decide (c.1=z)
 |none=>false
def ud(cs:List bC)(j:Nat):V:=match cs[j]? with
 |some c=>.str c.2
 |none=>.non
theorem Qw{cs:List bC}(hc:aQ cs=true){z:Str}(hz:∃c∈cs,c.1=z):(gr (vU cs z) (ud cs) cs.length)[0]? =some (.str (dC cs z)):=by
 have hnd:(cs.map Prod.fst).Nodup:=by
  unfold aQ at hc
  simp only[aaP,decide_eq_true_eq]at hc
  exact hc.2
 obtain⟨cc,hcc,ZW⟩:=uU hz
 have hpl:=lD hz
 have hkn:ud cs (bY cs z)= .str (dC cs z):=by unfold ud dC;rw[hcc]
 have all:∀y∈gr (vU cs z) (ud cs) cs.length,y= .str (dC cs z):=λy hy=>by
  unfold gr at hy
  obtain⟨j,hj,rfl⟩:=adg.mp hy
  obtain⟨hj1,hj2⟩:=ajV.mp hj
  unfold vU at hj2
  cases ej:cs[j]? with
  |none=>rw[ej]at hj2;cases hj2
  |some c=>
   rw[ej]at hj2
   have ec:c.1=z:=of_decide_eq_true hj2
   have hp:=oN hnd ej
   rw[ec]at hp
   rw[<-hkn,hp]
 have ne:ud cs (bY cs z)∈gr (vU cs z) (ud cs) cs.length:=by
  unfold gr
  refine adg.mpr ⟨_,ajV.mpr ⟨alD.mpr hpl,?_⟩,rfl⟩
  unfold vU
  rw[hcc]
  exact decide_eq_true ZW
 cases e:gr (vU cs z) (ud cs) cs.length with
 |nil=>rw[e]at ne;cases ne
 |cons y r=>
  have :=all y (by rw[e];simp)
  rw[this]
  rfl
def aen(K:acF):Sp:=λvs H Q _=>∃(a b p:Addr) (ns:List Int) (M:Mk) (cs:List bC),vs=[.ref a,.ref b,.ref p,.str (cW M.cut)]/\aX K H a (ns.map V.int)/\ns.length≤63/\dX H b cs/\aQ cs=true/\uO H p M/\bW cs M/\∀(z:Str) (v:Bool) H',au H H'->z.length≤300->plainS z->uG cs M.os z v->Q (.str z) H'
theorem jY(T:Txt K mg):Def P w K mg base true 3 "_law_cut_bent" ["_law_script","_law_columns_here","_law_mark_here","_law_part"] (aen K):=by
 refine xQ T (λvs H Q E h=>by obtain⟨a,b,p,ns,M,cs,rfl,_⟩:=h;rfl) (λf cdv A outer s H vs Q E hr h=>?_)
 obtain⟨a,b,p,ns,M,cs,rfl,hS,hl,hC,hok,hMA,hM,q⟩:=h
 have nd:=oJ.nd
 have n1:=T.jr
 have n2:=T.VJ
 have hsz:=sizeLine_eq
 have D1:= @bZ P w K mg base T
 have D2:= @gw P w K mg base T
 obtain⟨o,c,ep,⟨ws,eo,hws⟩,k,v,ec,ek,ev⟩:=hMA
 have hlen:=sW hok hM
 have hol:=hM.len
 have hwl:=hws.len
 obtain⟨kl1,kl2⟩:=jQ hok hM
 have kl3:=DG _ 21 kl1
 have kl4:=jy (bK M.cut)
 have kl5:(bK M.cut).length*21≤5*21:=aiB _ kl2
 have lb:(" ":Str).length=1:=by decide+kernel
 have Ze:(["_law_one","_law_order_here","_law_at"]:List Str).Nodup:=by decide+kernel
 obtain⟨sn,esn⟩:=sign_one M.cut.ahead
 have eS:bO (cW M.cut) none (some 1)=dN M.cut.ahead:=by
  apply bB
  unfold cW
  rw[show(some (1:Int))=some ((1:Nat):Int)from rfl,mZ,aA,esn]
  rfl
 have eR:bO (cW M.cut) (some 1) none=Str.join " " (bK M.cut):=by
  unfold cW
  rw[esn,Q3]
 walk_at "A"
 refine cQ (dg.of ep) (i:=2) rfl ?_
 refine aj ?_
 walk_at "s"
 refine fX F.plainAttrs_str F.slot_str_split F.type_str_split (by rfl) (by rfl) (by rfl) (by rfl) (by rfl) ?_
 walk_at "ex"
 refine iM (by omega) ?_
 rw[eR]
 walk_at "ex"
 refine m_split (c:=32) (by omega) λL hL=>?_
 rw[show aW 32 (Str.join " " (bK M.cut))=bK M.cut from jO (by unfold bK;simp) (rM hok hM)]
 obtain⟨s1,e1⟩:=bR hL (.lst ((bK M.cut).map V.str))
 generalize upd H L (.lst ((bK M.cut).map V.str))=H1 at s1 e1⊢
 walk_at "A"
 refine⟨a,ns,44,5,rfl,s1.seq hS,hl,by decide,by decide,by decide,?_⟩
 have fin:∀(us:List Str) (wy:V) (o7 o8 o9:Option V) (H5:Hp),au H H5->H5 L=some (.lst (us.map V.str))->yR cs M.os us->lH (vd true P w K mg base jX "_law_cut_bent" (aa bQ) f cdv A outer s H E) ((az bQ).drop 5) {nx:=λ_ H'=>Q .non H',rt:=Q} [some (.ref a),some (.ref b),some (.ref p),some (.str (cW M.cut)),some (.ref o),some (.ref L),some wy,o7,o8,o9] H5:=λus wy o7 o8 o9 H5 s5 e5 hw=>by
  have h1:=DG us 40 hw.short
  have h2:=jy us
  have h4:=hw.few
  have h6:us.length*40≤6*40:=aiB _ h4
  have h7:=hw.len M.cut.ahead
  rw[len_app]at h7
  refine aq (bA ?_)
  walk_at "ex"
  refine iM (by omega) ?_
  rw[eS]
  walk_at "ex"
  refine xq (ys:=us) (aX.of e5) (by rw[lb];omega) ?_
  refine aZ (by omega) ?_
  obtain⟨v,hv⟩:=hw.bad
  exact q _ v _ s5 (by rw[len_app];exact h7.1) h7.2 (hv _)
 have QQ:∀{H3:Hp} {x:HO},au H H3->au H (upd H3 L x):=λsm d o e=>by
  rw[aF (aB e hL)]
  exact sm _ _ e
 have w0:=aV ns 44 (m:=5) (by decide)
 have w1:=aU ns 44 (m:=5) (by decide)
 generalize cj ns 44 5=wy at w0 w1⊢
 refine aj (bx ?_)
 walk_at "ex"
 refine dD (λ_=>?_) (λhw0=>?_)
 .refine aq (bA ?_)
  walk_at "ex"
  refine⟨by show 4≤sizeLine;omega,λt ht=>?_⟩
  obtain⟨st,et⟩:=bR ht (.lst (GD.map V.str))
  show EV _ _ _ (upd H1 t (.lst (GD.map V.str))) _
  generalize upd H1 t (.lst (GD.map V.str))=H2 at st et⊢
  walk_at "ex"
  refine⟨a,ns,45,4,rfl,(s1.trans st).seq hS,hl,by decide,by decide,by decide,?_⟩
  have d0:=aV ns 45 (m:=4) (by decide)
  have d1:=aU ns 45 (m:=4) (by decide)
  obtain⟨i,ei⟩:=aaA d0
  rw[ei]at d1⊢
  have hi:i<GD.length:=by show i<4;omega
  refine aR (aX.of et) (bz (by rw[aby,aak hi];rfl)) ?_
  obtain⟨g1,g2,g3⟩:=Vu hok hM GD[i] (aeF hi)
  walk_at "ex"
  refine iM (by omega) ?_
  rw[eR]
  refine aZ (by rw[len_app]at g2;omega) ?_
  exact q _ _ _ (s1.trans st) g2 g3 g1
 refine aL (aj (bx ?_))
 walk_at "ex"
 refine dD (λ_=>?_) (λhw1=>?_)
 .refine aq (pF (by rfl) (by rfl) (by rfl) (by intro _;rfl) ?_)
  walk_at "ex"
  refine cQ (dg.of (s1 _ _ ep)) (i:=4) rfl ?_
  walk_at "ex"
  refine cQ (dg.of (s1 _ _ ec)) (i:=1) rfl ?_
  walk_at "ex"
  refine cQ (dg.of (s1 _ _ ek)) (i:=1) rfl ?_
  walk_at "ex"
  refine⟨a,ns,46,M.cut.row,1000000000,rfl,s1.seq hS,hl,by decide,by decide,hM.row,by decide,λcc y H2 s2 hcc hy hyl=>?_⟩
  walk_at "ex"
  refine⟨L,_,0,0,rfl,rfl,s2 _ _ e1,LK (by rw[aar];unfold bK;simp),?_⟩
  rw[<-akl]
  exact fin _ _ _ _ _ _ (QQ (s1.trans s2)) ao (Uv hok hM hcc hy hyl)
 refine aq (bx ?_)
 walk_at "ex"
 refine dD (λ_=>?_) (λhw2=>?_)
 .refine aq (eU (by rfl) (fX F.plainAttrs_list F.slot_list_insert F.type_list_insert (by rfl) (by rfl) (by rfl) (by rfl) (by rfl) ?_))
  walk_at "e"
  refine⟨.inl ⟨rfl,_,aX.of e1⟩,?_⟩
  have WK:aX K H1 L ((bK M.cut).map V.str):=aX.of e1
  walk_at "ex"
  rw[aar]
  refine⟨a,ns,48,_,rfl,s1.seq hS,hl,by decide,by decide,by omega,?_⟩
  have c0:=aV ns 48 (m:=((bK M.cut).length:Int)+1) (by omega)
  have c1:=aU ns 48 (m:=((bK M.cut).length:Int)+1) (by omega)
  obtain⟨kk,ekk⟩:=aaA c0
  rw[ekk]at c1⊢
  walk_at "ex"
  refine⟨by show 4≤sizeLine;omega,λt ht=>?_⟩
  obtain⟨st,et⟩:=bR ht (.lst (Ei.map V.str))
  show EV _ _ _ (upd H1 t (.lst (Ei.map V.str))) _
  generalize upd H1 t (.lst (Ei.map V.str))=H2 at st et⊢
  walk_at "ex"
  refine⟨a,ns,49,4,rfl,(s1.trans st).seq hS,hl,by decide,by decide,by decide,?_⟩
  have d0:=aV ns 49 (m:=4) (by decide)
  have d1:=aU ns 49 (m:=4) (by decide)
  obtain⟨i,ei⟩:=aaA d0
  rw[ei]at d1⊢
  have hi:i<Ei.length:=by show i<4;omega
  refine aR (aX.of et) (bz (by rw[aby,aak hi];rfl)) ?_
  walk_at "ex"
  refine j9 Cj ⟨L,_,kk,_,rfl,rfl,st _ _ e1,by rw[aar];omega,by rw[aar];omega,?_⟩
  have em:jd ((bK M.cut).map V.str) kk (V.str Ei[i])=(jd (bK M.cut) kk Ei[i]).map V.str:=by
   unfold jd
   rw[agi,List.map_cons,arS,arI]
  rw[em]
  exact fin _ _ _ _ _ _ (QQ (s1.trans st)) ao (adM hok hM (by omega) (aeF hi))
 refine aq (bx ?_)
 have sqo:aX K H1 o ws:=aX.of (s1 _ _ eo)
 have hkp:1≤(bK M.cut).length:=by unfold bK;simp
 walk_at "ex"
 refine dD (λ_=>?_) (λhw3=>?_)
 .walk_at "ex"
  refine aq (eU (by rfl) (fX F.plainAttrs_list F.slot_list_pop F.type_list_pop (by rfl) (by rfl) (by rfl) (by rfl) (by rfl) ?_))
  walk_at "e"
  refine⟨.inl ⟨rfl,_,aX.of e1⟩,?_⟩
  have WK:aX K H1 L ((bK M.cut).map V.str):=aX.of e1
  walk_at "ex"
  rw[aar]
  refine⟨a,ns,50,_,rfl,s1.seq hS,hl,by decide,by decide,by omega,?_⟩
  have c0:=aV ns 50 (m:=((bK M.cut).length:Int)) (by omega)
  have c1:=aU ns 50 (m:=((bK M.cut).length:Int)) (by omega)
  obtain⟨kk,ekk⟩:=aaA c0
  rw[ekk]at c1⊢
  have hkk:kk<(bK M.cut).length:=by omega
  walk_at "ex"
  have hidx:seqIndex? ((kk:Nat):Int) ((bK M.cut).map V.str).length=some kk:=by
   unfold seqIndex?
   rw[aar]
   have h1:¬((kk:Nat):Int)<0:=by omega
   simp only[h1,if_false]
   rw[if_pos (by rw[aaP,decide_eq_true_eq,decide_eq_true_eq];omega)]
   rfl
  refine j9 Ak ⟨L,_,_,kk,.str (bK M.cut)[kk],rfl,rfl,e1,by omega,by omega,hidx,by rw[aby,aak hkk];rfl,?_⟩
  have em:((bK M.cut).map V.str).eraseIdx kk=((bK M.cut).eraseIdx kk).map V.str:=sO _ _ _
  rw[em]
  exact fin _ _ _ _ _ _ (QQ s1) ao (Ti hok hM hkk)
 walk_at "ex"
 refine dD (λ_=>?_) (λhne=>?_)
 .walk_at "ex"
  refine aq (eU (by rfl) (fX F.plainAttrs_list F.slot_list_pop F.type_list_pop (by rfl) (by rfl) (by rfl) (by rfl) (by rfl) ?_))
  walk_at "e"
  refine⟨.inl ⟨rfl,_,aX.of e1⟩,?_⟩
  have WK:aX K H1 L ((bK M.cut).map V.str):=aX.of e1
  walk_at "ex"
  rw[aar]
  refine⟨a,ns,50,_,rfl,s1.seq hS,hl,by decide,by decide,by omega,?_⟩
  have c0:=aV ns 50 (m:=((bK M.cut).length:Int)) (by omega)
  have c1:=aU ns 50 (m:=((bK M.cut).length:Int)) (by omega)
  obtain⟨kk,ekk⟩:=aaA c0
  rw[ekk]at c1⊢
  have hkk:kk<(bK M.cut).length:=by omega
  walk_at "ex"
  have hidx:seqIndex? ((kk:Nat):Int) ((bK M.cut).map V.str).length=some kk:=by
   unfold seqIndex?
   rw[aar]
   have h1:¬((kk:Nat):Int)<0:=by omega
   simp only[h1,if_false]
   rw[if_pos (by rw[aaP,decide_eq_true_eq,decide_eq_true_eq];omega)]
   rfl
  refine j9 Ak ⟨L,_,_,kk,.str (bK M.cut)[kk],rfl,rfl,e1,by omega,by omega,hidx,by rw[aby,aak hkk];rfl,?_⟩
  have em:((bK M.cut).map V.str).eraseIdx kk=((bK M.cut).eraseIdx kk).map V.str:=sO _ _ _
  rw[em]
  exact fin _ _ _ _ _ _ (QQ s1) ao (Ti hok hM hkk)
 have hos:1≤M.os.length:=by
  have :ws.length≠0:=λe=>hne (by rw[e];rfl)
  omega
 walk_at "A"
 refine⟨a,ns,51,_,rfl,s1.seq hS,hl,by decide,by decide,by omega,?_⟩
 have a0:=aV ns 51 (m:=(ws.length:Int)) (by omega)
 have a1:=aU ns 51 (m:=(ws.length:Int)) (by omega)
 obtain⟨j,ej⟩:=aaA a0
 rw[ej]at a1⊢
 have hj:j<M.os.length:=by omega
 have hoj:M.os[j]? =some M.os[j]:=aak hj
 obtain⟨ov,gv,t,rfl,ht⟩:=hws.get' hoj
 have hom:M.os[j]∈M.os:=aeF hj
 have hcz:=hM.O4 _ hom
 generalize M.os[j]=oo at hoj ht hom hcz
 obtain⟨vs,hb,hvs⟩:=hC
 have hvl:=hvs.len
 obtain⟨c1,c6⟩:=vI hok
 refine aj ?_
 walk_at "s"
 walk_at "e"
 refine U9 ["_law_one","_law_order_here","_law_at"] (σ':=[none,some (.ref o),some (.int j)]) (by rfl) (by rfl) (cA (aa bQ) (by rfl) (by rfl) (by decide+kernel)) (by intro _;rfl) ?_
 walk_at "ex"
 refine⟨b,vs,rfl,aX.of (s1 _ _ hb),by omega,λτ=>∃o1,τ=[o1,some (.ref o),some (.int j)],vU cs oo.1,ud cs,⟨none,rfl⟩,λfp E2 C s3 H0 i τ x H2 Bm hx hτ gh=>?_,λE2 H2 Bm e2 gh=>?_⟩
 .obtain⟨o1,rfl⟩:=hτ
  obtain⟨cc,hcc,t2,rfl,ZX⟩:=hvs.get hx
  have h1:=gh _ _ (s1 _ _ ZX)
  refine aM Ze (by rfl) (.inl rfl) (.inr rfl) ?_
  walk_at "ex"
  refine cQ (dg.of h1) (show lR [V.str cc.1,V.str cc.2] 0=some (V.str cc.1)from rfl) ?_
  walk_at "ex"
  refine aR (aX.of (gh _ _ (s1 _ _ eo))) (bz gv) ?_
  walk_at "ex"
  refine cQ (dg.of (gh _ _ (s1 _ _ ht))) (show lR [V.str oo.1,V.bl oo.2] 0=some (V.str oo.1)from rfl) ?_
  walk_at "ex"
  refine⟨?_,⟨_,rfl⟩,au.refl _,λ_=>?_⟩
  .unfold vU
   rw[hcc]
   simp
  .walk_at "ex"
   refine cQ (dg.of h1) (show lR [V.str cc.1,V.str cc.2] 1=some (V.str cc.2)from rfl) ?_
   refine⟨?_,au.refl _⟩
   unfold ud
   rw[hcc]
 rw[hvl]at e2
 have s12:=s1.trans gh
 walk_at "ex"
 refine aR (aX.of e2) (show lR (gr (vU cs oo.1) (ud cs) cs.length) ((0:Nat):Int)=_ from bz (Qw hok hcz)) ?_
 walk_at "A"
 obtain⟨tb,htb⟩:∃tb,tb=decide (dC cs oo.1=Str.ofString "text"):=⟨_,rfl⟩
 refine⟨by show 8≤sizeLine;omega,λl1 hl1=>?_⟩
 obtain⟨s3,e3⟩:=bR hl1 (.lst (((uw tb).take 8).map V.str))
 show lH _ _ _ _ (upd H2 l1 (.lst (((uw tb).take 8).map V.str)))
 generalize upd H2 l1 (.lst (((uw tb).take 8).map V.str))=H3 at s3 e3⊢
 refine aq (pF (by rfl) (by rfl) (by rfl) (by intro _;rfl) ?_)
 walk_at "ex"
 refine⟨by show 2≤sizeLine;omega,λl2 hl2=>?_⟩
 obtain⟨s4,e4⟩:=bR hl2 (.lst [.str ("'1":Str),.str ("1":Str)])
 generalize upd H3 l2 (.lst [.str ("'1":Str),.str ("1":Str)])=H4 at s4 e4⊢
 walk_at "ex"
 refine jN tu (.inr ⟨_,rfl,?_⟩)
 have el:lR [V.str ("'1":Str),.str ("1":Str)] (if decide (V.str (dC cs oo.1)=V.str ("text":Str))=true then 1 else 0)=some (.str (if tb=true then Str.ofString "1" else Str.ofString "'1")):=by
  rw[htb]
  by_cases h:dC cs oo.1=Str.ofString "text"
  .rw[decide_eq_true h,decide_eq_true (congrArg V.str h)]
   rfl
  .rw[decide_eq_false h,decide_eq_false (λe=>h (V.str.inj e))]
   rfl
 refine aR (aX.of e4) el ?_
 walk_at "ex"
 refine⟨by show 1≤sizeLine;omega,λl3 hl3=>?_⟩
 obtain⟨s5,e5⟩:=bR hl3 (.lst (((uw tb).drop 8).map V.str))
 show OP _ _ _ _ (upd H4 l3 (.lst (((uw tb).drop 8).map V.str))) _
 generalize upd H4 l3 (.lst (((uw tb).drop 8).map V.str))=H5 at s5 e5⊢
 refine UJ (s5 _ _ (s4 _ _ e3)) e5 (by show 8+1≤sizeLine;omega) λl4 hl4=>?_
 have ee:((uw tb).take 8).map V.str++((uw tb).drop 8).map V.str=(uw tb).map V.str:=rfl
 rw[ee]
 obtain⟨s6,e6⟩:=bR hl4 (.lst ((uw tb).map V.str))
 generalize upd H5 l4 (.lst ((uw tb).map V.str))=H6 at s6 e6⊢
 have s36:=((s3.trans s4).trans s5).trans s6
 have s16:=s12.trans s36
 walk_at "ex"
 refine⟨a,ns,52,9,rfl,s16.seq hS,hl,by decide,by decide,by decide,?_⟩
 have d0:=aV ns 52 (m:=9) (by decide)
 have d1:=aU ns 52 (m:=9) (by decide)
 obtain⟨i,ei⟩:=aaA d0
 rw[ei]at d1⊢
 have hi:i<(uw tb).length:=by show i<9;omega
 refine aR (aX.of e6) (bz (by rw[aby,aak hi];rfl)) ?_
 have hy:=aeF hi
 generalize(uw tb)[i]=y at hy⊢
 walk_at "ex"
 have hkl:(bK M.cut).length=M.cut.xs.length+1:=by
  show(M.cut.xs.map wordOf).length+1=_
  rw[aar]
 have agM:=hM.vals.len
 refine⟨L,_,_,1+j,rfl,rfl,s36 _ _ (gh _ _ e1),?_,?_⟩
 .rw[show(1:Int)+(j:Int)=((1+j:Nat):Int)by omega]
  exact LK (by rw[aar];omega)
 rw[<-akl]
 exact fin _ _ _ _ _ _ (QQ s16) ao (RM hok hM hoj (htb▸hy))
structure pG(cs:List bC)(ps:List Str):Prop where
 plain:∀p∈ps,plainS p
 sum:(ps.map (·.length)).sum≤3900
 few:ps.length≤6
 bad:∃c,kI cs (Str.join "/" ps) c
theorem pG.of{cs:List bC}{ps:List Str}(hne:ps≠[])(hp:∀p∈ps,plainS p)(hs:(ps.map (·.length)).sum≤3900)(hf:ps.length≤6)(h:aW 47 (Str.join "/" ps)=ps->∃c,kI cs (Str.join "/" ps) c):pG cs ps:=
 ⟨hp,hs,hf,h (rD hne λp hq hm=>(hp p hq 47 hm).2.2.2 rfl)⟩
theorem pG.text{cs:List bC}{ps:List Str}(h:pG cs ps):(Str.join "/" ps).length≤4000/\∀c∈(Str.join "/" ps).cps.toList,c<1114112:=by
 have h1:=zJ ps
 have h2:=h.sum
 have h3:=h.few
 exact⟨by omega,λc hc=>by have :=pJ h.plain c hc;omega⟩
theorem jE{cs:List bC}(hc:aQ cs=true){M:Mk}(h:bW cs M):(bH M.living).length=1/\(Str.ofString (toString (M.moment:Int))).length≤5/\(iU M.os).length≤100/\M.sieve.length≤2800/\(cW M.cut).length≤200:=by
 refine⟨by cases M.living<;>decide+kernel,?_,vZ hc h,h.short,sW hc h⟩
 exact cG (i:=(M.moment:Int)) (k:=4) (by decide) (by have :=h.moment;have :(10:Nat)^4>5000:=by decide
                                                     omega)
theorem jB{cs:List bC}(hc:aQ cs=true){M:Mk}(h:bW cs M):plainS (bH M.living)/\plainS (Str.ofString (toString (M.moment:Int)))/\plainS (iU M.os)/\plainS M.sieve/\plainS (cW M.cut):=by
 have :=jb hc h
 unfold cO at this
 exact⟨this _ (by simp),this _ (by simp),this _ (by simp),this _ (by simp),this _ (by simp)⟩
theorem lZ{p0 p1 p2 p3 p4:Str}(h0:plainS p0)(h1:plainS p1)(h2:plainS p2)(h3:plainS p3)(h4:plainS p4):∀p∈[p0,p1,p2,p3,p4],plainS p:=λp hp=>by
 simp only[List.mem_cons,List.not_mem_nil,or_false]at hp
 rcases hp with rfl |rfl |rfl |rfl |rfl
 .exact h0
 .exact h1
 .exact h2
 .exact h3
 .exact h4
theorem qP{p0 p1 p2 p3 p4:Str}(h:p0.length+p1.length+p2.length+p3.length+p4.length≤3900):(([p0,p1,p2,p3,p4]:List Str).map (·.length)).sum≤3900:=by
 show p0.length+(p1.length+(p2.length+(p3.length+(p4.length+0))))≤3900
 omega
def Rn:List Str:=[Str.ofString "",Str.ofString "L",Str.ofString "x",Str.ofString "li",Str.ofString "living"]
theorem VM:∀y∈Rn,y≠bH true/\y≠bH false/\y.length≤6/\plainS y:=by unfold plainS;decide+kernel
theorem PQ{cs:List bC}(hc:aQ cs=true){M:Mk}(h:bW cs M){y:Str}(hy:y∈Rn):pG cs ((cO M).set 0 y):=by
 obtain⟨y1,y2,y3,y4⟩:=VM y hy
 obtain⟨l0,l1,l2,l3,l4⟩:=jE hc h
 obtain⟨a0,a1,a2,a3,a4⟩:=jB hc h
 exact pG.of (ps:=[y,Str.ofString (toString (M.moment:Int)),iU M.os,M.sieve,cW M.cut]) (by simp) (lZ y4 a1 a2 a3 a4) (qP (by omega)) (by simp) λe=>⟨_,.inr ⟨_,_,_,_,_,e,.inl ⟨rfl,y1,y2⟩⟩⟩
theorem Qt{cs:List bC}(hc:aQ cs=true){M:Mk}(h:bW cs M){c:Nat}{y:Str}(hy:y∈jk c M.moment 5000)(hl:y.length≤40):pG cs ((cO M).set 1 y):=by
 obtain⟨l0,l1,l2,l3,l4⟩:=jE hc h
 obtain⟨a0,a1,a2,a3,a4⟩:=jB hc h
 exact pG.of (ps:=[bH M.living,y,iU M.os,M.sieve,cW M.cut]) (by simp) (lZ a0 (yh hy) a2 a3 a4) (qP (by omega)) (by simp) λe=>⟨_,.inr ⟨_,_,_,_,_,e,.inr ⟨M.living,rfl,.inl ⟨rfl,zK c _ _ y hy⟩⟩⟩⟩
theorem wW{z:Str}(h:∀c∈z.cps.toList,c<128):(Txt.upper z).length=z.length:=by
 rw[L2.len_list,L2.len_list,lF h,aar]
theorem yz{z:Str}(h:plainS z):plainS (Txt.upper z):=λc hc=>by
 rw[lF λc hc=>by have :=h c hc;omega]at hc
 obtain⟨x,hx,rfl⟩:=adg.mp hc
 have :=h x hx
 unfold Ar
 split <;>omega
theorem Oo{n z y:Str}(hn:isName n=true)(hz:plainS z)(hl:z.length≤100)(hy:y∈qy n z):plainS y/\y.length≤200:=by
 have pn:=oZ hn
 have ln:=eF hn
 have pu:=yz pn
 have lu:=wW (z:=n) λc hc=>by have :=(ir hn).2 c hc;omega
 have lp:plainS ("+":Str)/\plainS (" -":Str)/\plainS ("*":Str)/\plainS (" ":Str)/\plainS (" +":Str)/\plainS ("  -":Str)/\plainS (" +zzzzzzzzz":Str)/\plainS ("++":Str):=by unfold plainS;decide+kernel
 obtain⟨b1,b2,b3,b4,b5,b6,b7,b8⟩:=lp
 have ll:("+":Str).length=1/\(" -":Str).length=2/\("*":Str).length=1/\(" ":Str).length=1/\(" +":Str).length=2/\("  -":Str).length=3/\(" +zzzzzzzzz":Str).length=11/\("++":Str).length=2:=by decide+kernel
 obtain⟨c1,c2,c3,c4,c5,c6,c7,c8⟩:=ll
 unfold qy at hy
 simp only[List.mem_cons,List.not_mem_nil,or_false]at hy
 rcases hy with rfl |rfl |rfl |rfl |rfl |rfl |rfl |rfl |rfl |rfl
 .exact⟨((b1.app pn).app b2).app pn,by rw[len_app,len_app,len_app];omega⟩
 .exact⟨b3.app pn,by rw[len_app];omega⟩
 .exact⟨pn,by omega⟩
 .exact⟨(b1.app pn).app b4,by rw[len_app,len_app];omega⟩
 .exact⟨b5.app pn,by rw[len_app];omega⟩
 .exact⟨b1,by omega⟩
 .exact⟨b1.app pu,by rw[len_app];omega⟩
 .exact⟨((b1.app pn).app b6).app pn,by rw[len_app,len_app,len_app];omega⟩
 .exact⟨hz.app b7,by rw[len_app];omega⟩
 .exact⟨b8.app pn,by rw[len_app];omega⟩
theorem R5{cs:List bC}(hc:aQ cs=true){M:Mk}(h:bW cs M){n y:Str}(hn:n∈cs.map Prod.fst)(hy:y∈qy n (iU M.os)):pG cs ((cO M).set 2 y):=by
 obtain⟨l0,l1,l2,l3,l4⟩:=jE hc h
 obtain⟨a0,a1,a2,a3,a4⟩:=jB hc h
 obtain⟨y1,y2⟩:=Oo (gk hc hn) a2 l2 hy
 have hm:=h.moment
 exact pG.of (ps:=[bH M.living,Str.ofString (toString (M.moment:Int)),y,M.sieve,cW M.cut]) (by simp) (lZ a0 a1 y1 a3 a4) (qP (by omega)) (by simp) λe=>⟨_,.inr ⟨_,_,_,_,_,e,.inr ⟨M.living,rfl,.inr ⟨M.moment,rfl,by omega,.inl ⟨rfl,Vh hc hn y hy⟩⟩⟩⟩⟩
theorem bW.ord{cs:List bC}(hc:aQ cs=true){M:Mk}(h:bW cs M):iB cs (iU M.os)=some M.os:=
 Cq h.len h.nodup h.O4 λo ho hm=>by
  have :=(ir (gk hc (h.names o ho))).2 32 hm
  omega
theorem V3{n:Nat}:∀{ps:List (List Nat)},ps≠[]->(∀p∈ps,32∉p/\p.length≤n)->∃qs:List (List Nat),qs≠[]/\(∀q∈qs,32∉q/\q.length≤n+1)/\(jg 32 ps).map Ar++[88]=jg 32 qs
 |[],h,_=>absurd rfl h
 |[p],_,h=>by
  obtain⟨h1,h2⟩:=h p (by simp)
  refine⟨[p.map Ar++[88]],by simp,λq hq=>?_,rfl⟩
  rw[aeG.mp hq]
  refine⟨λhm=>?_,by rw[ace,aar];simp;omega⟩
  rcases aeC.mp hm with hm |hm
  .obtain⟨x,hx,e⟩:=adg.mp hm
   unfold Ar at e
   split at e
   .omega
   .rw[e]at hx;exact h1 hx
  .simp at hm
 |p::q::r,_,h=>by
  obtain⟨qs,g1,g2,g3⟩:=V3 (ps:=q::r) (by simp) λx hx=>h x (by simp[hx])
  obtain⟨h1,h2⟩:=h p (by simp)
  refine⟨p.map Ar::qs,by simp,λx hx=>?_,?_⟩
  .rcases abO.mp hx with rfl |hx
   .refine⟨λhm=>?_,by rw[aar];omega⟩
    obtain⟨x,hx,e⟩:=adg.mp hm
    unfold Ar at e
    split at e
    .omega
    .rw[e]at hx;exact h1 hx
   .exact g2 x hx
  .cases qs with
   |nil=>exact absurd rfl g1
   |cons u us=>
    show(p++32::jg 32 (q::r)).map Ar++[88]=p.map Ar++32::jg 32 (u::us)
    rw[<-g3,agi,aex]
    rfl
theorem Ds{z y:Str}(hz:plainS z)(hl:z.length≤2800)(hw:∀x∈aW 32 z,x.length≤900)(hy:y∈nZ z):plainS y/\y.length≤2900/\∀x∈aW 32 y,x.length≤1000:=by
 have pu:=yz hz
 have aga:∀c∈z.cps.toList,c<128:=λc hc=>by have :=hz c hc;omega
 have lu:=wW aga
 have lp:plainS ("":Str)/\plainS ("al":Str)/\plainS (" ":Str)/\plainS (" all":Str)/\plainS ("not":Str)/\plainS ("both all":Str)/\plainS ("none":Str)/\plainS ("is":Str)/\plainS ("X":Str):=by unfold plainS;decide+kernel
 obtain⟨b1,b2,b3,b4,b5,b6,b7,b8,b9⟩:=lp
 have ll:(" ":Str).length=1/\(" all":Str).length=4/\("X":Str).length=1:=by decide+kernel
 obtain⟨c1,c2,c3⟩:=ll
 have lw:(∀x∈aW 32 ("":Str),x.length≤1000)/\(∀x∈aW 32 ("al":Str),x.length≤1000)/\(∀x∈aW 32 ("all":Str),x.length≤1000)/\(∀x∈aW 32 ("not":Str),x.length≤1000)/\(∀x∈aW 32 ("both all":Str),x.length≤1000)/\(∀x∈aW 32 ("none":Str),x.length≤1000)/\(∀x∈aW 32 ("is":Str),x.length≤1000):=by decide+kernel
 obtain⟨w1,w2,w3,w4,w5,w6,w7⟩:=lw
 have wz:∀x∈aW 32 z,x.length≤1000:=λx hx=>by have :=hw x hx;omega
 have two:∀{a b:Str},(∀x∈aW 32 a,x.length≤1000)->(∀x∈aW 32 b,x.length≤1000)->∀x∈aW 32 (a++Str.ofString " "++b),x.length≤1000:=λh1 h2 x hx=>by
  rw[fL]at hx
  exact(aeC.mp hx).elim (h1 x) (h2 x)
 unfold nZ at hy
 simp only[List.mem_cons,List.not_mem_nil,or_false]at hy
 rcases hy with rfl |rfl |rfl |rfl |rfl |rfl |rfl |rfl |rfl |rfl
 .exact⟨b1,by decide+kernel,w1⟩
 .exact⟨b2,by decide+kernel,w2⟩
 .refine⟨hz.app b3,by rw[len_app];omega,?_⟩
  have e:z++Str.ofString " "=z++Str.ofString " "++Str.ofString "":=by
   apply bB
   rw[aA (z++Str.ofString " "),show("":Str).cps.toList=[]from by decide+kernel,List.append_nil]
  rw[e]
  exact two wz w1
 .refine⟨b3.app hz,by rw[len_app];omega,?_⟩
  have e:Str.ofString " "++z=Str.ofString ""++Str.ofString " "++z:=by
   apply bB
   rw[aA,aA,aA,show("":Str).cps.toList=[]from by decide+kernel,akM]
  rw[e]
  exact two w1 wz
 .refine⟨hz.app b4,by rw[len_app];omega,?_⟩
  have e:z++Str.ofString " all"=z++Str.ofString " "++Str.ofString "all":=by
   apply bB
   rw[aA,aA,aA,aex]
   congr 1
  rw[e]
  exact two wz w3
 .exact⟨b5,by decide+kernel,w4⟩
 .exact⟨b6,by decide+kernel,w5⟩
 .exact⟨b7,by decide+kernel,w6⟩
 .exact⟨b8,by decide+kernel,w7⟩
 .refine⟨pu.app b9,by rw[len_app];omega,?_⟩
  have hps:∀p∈cutAt 32 z.cps.toList,32∉p/\p.length≤900:=λp hp=>by
   refine⟨uF 32 _ p hp,?_⟩
   have :=hw ⟨p.toArray⟩ (adg.mpr ⟨p,hp,rfl⟩)
   have e:(⟨p.toArray⟩:Str).length=p.length:=by rw[L2.len_list]
   omega
  obtain⟨qs,g1,g2,g3⟩:=V3 (mH 32 z.cps.toList) hps
  rw[mC]at g3
  intro x hx
  unfold aW at hx
  rw[aA,lF aga,show("X":Str).cps.toList=[88]from by decide+kernel,g3,mq g1 λq hq=>(g2 q hq).1]at hx
  obtain⟨q,hq,rfl⟩:=adg.mp hx
  have :=(g2 q hq).2
  have e:(⟨q.toArray⟩:Str).length=q.length:=by rw[L2.len_list]
  omega
theorem SN{cs:List bC}(hc:aQ cs=true){M:Mk}(h:bW cs M){y:Str}(hy:y∈nZ M.sieve):pG cs ((cO M).set 3 y):=by
 obtain⟨l0,l1,l2,l3,l4⟩:=jE hc h
 obtain⟨a0,a1,a2,a3,a4⟩:=jB hc h
 obtain⟨y1,y2,y3⟩:=Ds a3 l3 h.words hy
 obtain⟨t,hd,hr⟩:=h.reads
 have hb:=J9 hd hr (λc hc=>by have :=a3 c hc;omega) y hy
 have hm:=h.moment
 have hol:=h.len
 exact pG.of (ps:=[bH M.living,Str.ofString (toString (M.moment:Int)),iU M.os,y,cW M.cut]) (by simp) (lZ a0 a1 a2 y1 a4) (qP (by omega)) (by simp) λe=>⟨_,.inr ⟨_,_,_,_,_,e,.inr ⟨M.living,rfl,.inr ⟨M.moment,rfl,by omega,.inr ⟨M.os,h.ord hc,h.O4,by omega,by omega,y3,.inl ⟨rfl,hb⟩⟩⟩⟩⟩⟩
theorem adI{cs:List bC}(hc:aQ cs=true){M:Mk}(h:bW cs M){y:Str}{v:Bool}(hp:plainS y)(hl:y.length≤300)(hb:uG cs M.os y v):pG cs ((cO M).set 4 y):=by
 obtain⟨l0,l1,l2,l3,l4⟩:=jE hc h
 obtain⟨a0,a1,a2,a3,a4⟩:=jB hc h
 obtain⟨t,hd,hr⟩:=h.reads
 have hm:=h.moment
 have hol:=h.len
 exact pG.of (ps:=[bH M.living,Str.ofString (toString (M.moment:Int)),iU M.os,M.sieve,y]) (by simp) (lZ a0 a1 a2 a3 hp) (qP (by omega)) (by simp) λe=>⟨_,.inr ⟨_,_,_,_,_,e,.inr ⟨M.living,rfl,.inr ⟨M.moment,rfl,by omega,.inr ⟨M.os,h.ord hc,h.O4,by omega,by omega,(λx hx=>by have :=h.words x hx;omega),.inr ⟨t,hd,hr,v,hb,rfl⟩⟩⟩⟩⟩⟩
theorem abV{cs:List bC}(hc:aQ cs=true){M:Mk}(h:bW cs M){k:Nat}(hk:k<5):pG cs ((cO M).eraseIdx k):=by
 obtain⟨l0,l1,l2,l3,l4⟩:=jE hc h
 have hp:=jb hc h
 have hl:((cO M).eraseIdx k).length=4:=by
  rw[akE,if_pos (by show k<5;exact hk)]
  rfl
 refine pG.of (λe=>by rw[e]at hl;cases hl) (λp hq=>hp p (am9 hq)) ?_ (by omega) λe=>⟨_,.inl ⟨rfl,by rw[e];omega⟩⟩
 match k,hk with
 |0,_=>show(Str.ofString (toString (M.moment:Int))).length+((iU M.os).length+(M.sieve.length+((cW M.cut).length+0)))≤3900;omega
 |1,_=>show(bH M.living).length+((iU M.os).length+(M.sieve.length+((cW M.cut).length+0)))≤3900;omega
 |2,_=>show(bH M.living).length+((Str.ofString (toString (M.moment:Int))).length+(M.sieve.length+((cW M.cut).length+0)))≤3900;omega
 |3,_=>show(bH M.living).length+((Str.ofString (toString (M.moment:Int))).length+((iU M.os).length+((cW M.cut).length+0)))≤3900;omega
 |4,_=>show(bH M.living).length+((Str.ofString (toString (M.moment:Int))).length+((iU M.os).length+(M.sieve.length+0)))≤3900;omega
def Hl:List Str:=[Str.ofString "",Str.ofString "0",Str.ofString "all"]
theorem Wf:∀y∈Hl,y.length≤3/\plainS y:=by unfold plainS;decide+kernel
theorem ady{cs:List bC}(hc:aQ cs=true){M:Mk}(h:bW cs M){k:Nat}{y:Str}(hy:y∈Hl):pG cs (jd (cO M) k y):=by
 obtain⟨y1,y2⟩:=Wf y hy
 obtain⟨hs,_⟩:=mK hc h
 have hp:=jb hc h
 have hl:(jd (cO M) k y).length=6:=by rw[xu];rfl
 refine pG.of (λe=>by rw[e]at hl;cases hl) (λp hq=>?_) ?_ (by omega) λe=>⟨_,.inl ⟨rfl,by rw[e];omega⟩⟩
 .rcases sV hq with rfl |hq
  .exact y2
  .exact hp p hq
 .unfold jd
  have e:(cO M).take k++(cO M).drop k=cO M:=List.take_append_drop k _
  rw[<-e,agi,auD]at hs
  rw[agi,auD,List.map_cons,List.sum_cons]
  omega
def V4(K:acF):Sp:=λvs H Q _=>∃(a b p:Addr) (ns:List Int) (M:Mk) (cs:List bC),vs=[.ref a,.ref b,.ref p]/\aX K H a (ns.map V.int)/\ns.length≤63/\dX H b cs/\aQ cs=true/\uO H p M/\bW cs M/\∀(z c:Str) H',au H H'->z.length≤4000->(∀x∈z.cps.toList,x<1114112)->kI cs z c->Q (.str z) H'
theorem qM(T:Txt K mg):Def P w K mg base true 4 "_law_bent" ["_law_script","_law_columns_here","_law_mark_here"] (V4 K):=by
 refine Eh T (λvs H Q E h=>by obtain⟨a,b,p,ns,M,cs,rfl,_⟩:=h;rfl) (λf cdv A outer s H vs Q E hr h=>?_)
 obtain⟨a,b,p,ns,M,cs,rfl,hS,hl,hC,hok,hMA,hM,q⟩:=h
 have nd:=wL.nd
 have hsz:=sizeLine_eq
 have D1:= @bZ P w K mg base T
 have D2:= @gw P w K mg base T
 have D3:= @mW P w K mg base T
 have D4:= @jw P w K mg base T
 have D5:= @jt P w K mg base T
 have D6:= @jY P w K mg base T
 obtain⟨l0,l1,l2,l3,l4⟩:=jE hok hM
 obtain⟨a0,a1,a2,a3,a4⟩:=jB hok hM
 have bl:=(mK hok hM).2
 have lsl:("/":Str).length=1:=by decide+kernel
 refine aj ?_
 walk_at "s"
 refine fX F.plainAttrs_str F.slot_str_split F.type_str_split (by rfl) (by rfl) (by rfl) (by rfl) (by rfl) ?_
 walk_at "ex"
 refine⟨p,M,cs,rfl,hMA,hok,hM,λH0 s0=>?_⟩
 walk_at "ex"
 refine m_split (c:=47) (by omega) λL hL=>?_
 rw[vf hok hM]
 have s1:au H (upd H0 L (.lst ((cO M).map V.str))):=s0.trans (au.upd hL)
 have e1:(upd H0 L (.lst ((cO M).map V.str))) L=some (.lst ((cO M).map V.str)):=ao
 have hLH:H L=none:=s0.free hL
 generalize upd H0 L (.lst ((cO M).map V.str))=H1 at s1 e1⊢
 have WK:aX K H1 L ((cO M).map V.str):=aX.of e1
 have bl5:((cO M).map V.str).length=5:=rfl
 walk_at "A"
 refine⟨a,ns,40,8,rfl,s1.seq hS,hl,by decide,by decide,by decide,?_⟩
 have fin:∀(us:List Str) (wy:V) (H5:Hp),au H H5->H5 L=some (.lst (us.map V.str))->pG cs us->lH (vd true P w K mg base qR "_law_bent" (aa dI) f cdv A outer s H E) ((az dI).drop 3) {nx:=λ_ H'=>Q .non H',rt:=Q} [some (.ref a),some (.ref b),some (.ref p),some (.ref L),some wy] H5:=λus wy H5 s5 e5 hw=>by
  have h1:=hw.sum
  have h2:=hw.few
  obtain⟨h3,h4⟩:=hw.text
  obtain⟨c,hc⟩:=hw.bad
  refine aq (bA ?_)
  walk_at "ex"
  refine xq (ys:=us) (aX.of e5) (by rw[lsl];omega) ?_
  exact q _ c _ s5 h3 h4 hc
 have QQ:∀{H3:Hp} {x:HO},au H H3->au H (upd H3 L x):=λsm d o e=>by
  rw[aF (aB e hLH)]
  exact sm _ _ e
 have w0:=aV ns 40 (m:=8) (by decide)
 have w1:=aU ns 40 (m:=8) (by decide)
 generalize cj ns 40 8=wy at w0 w1⊢
 refine aj (bx ?_)
 walk_at "ex"
 refine dD (λ_=>?_) (λhw0=>?_)
 .refine aq (pF (by rfl) (by rfl) (by rfl) (by intro _;rfl) ?_)
  walk_at "ex"
  refine⟨by show 5≤sizeLine;omega,λt ht=>?_⟩
  obtain⟨st,et⟩:=bR ht (.lst (Rn.map V.str))
  show EV _ _ _ (upd H1 t (.lst (Rn.map V.str))) _
  generalize upd H1 t (.lst (Rn.map V.str))=H2 at st et⊢
  walk_at "ex"
  refine⟨a,ns,53,5,rfl,(s1.trans st).seq hS,hl,by decide,by decide,by decide,?_⟩
  have d0:=aV ns 53 (m:=5) (by decide)
  have d1:=aU ns 53 (m:=5) (by decide)
  obtain⟨i,ei⟩:=aaA d0
  rw[ei]at d1⊢
  have hi:i<Rn.length:=by show i<5;omega
  refine aR (aX.of et) (bz (by rw[aby,aak hi];rfl)) ?_
  walk_at "ex"
  refine⟨L,_,0,0,rfl,rfl,st _ _ e1,(by rw[bl5];decide),?_⟩
  rw[<-akl]
  exact fin _ _ _ (QQ (s1.trans st)) ao (PQ hok hM (aeF hi))
 refine aq (bx ?_)
 walk_at "ex"
 refine dD (λ_=>?_) (λhw1=>?_)
 .refine aq (pF (by rfl) (by rfl) (by rfl) (by intro _;rfl) ?_)
  walk_at "ex"
  obtain⟨o',c',em,_⟩:=hMA.same s1
  refine cQ (dg.of em) (i:=1) rfl ?_
  walk_at "ex"
  refine⟨a,ns,54,M.moment,5000,rfl,s1.seq hS,hl,by decide,by decide,(by have :=hM.moment;omega),by decide,λcc y H2 s2 hcc hy hyl=>?_⟩
  walk_at "ex"
  refine⟨L,_,1,1,rfl,rfl,s2 _ _ e1,(by rw[bl5];decide),?_⟩
  rw[<-akl]
  exact fin _ _ _ (QQ (s1.trans s2)) ao (Qt hok hM hy hyl)
 refine aq (bx ?_)
 walk_at "ex"
 refine dD (λ_=>?_) (λhw2=>?_)
 .refine aq (pF (by rfl) (by rfl) (by rfl) (by intro _;rfl) ?_)
  walk_at "ex"
  refine aR WK (i:=2) rfl ?_
  walk_at "ex"
  refine⟨a,b,ns,iU M.os,cs,rfl,s1.seq hS,hl,by omega,hC.same s1,hok,λn y H2 s2 hn hy=>?_⟩
  walk_at "ex"
  refine⟨L,_,2,2,rfl,rfl,s2 _ _ e1,(by rw[bl5];decide),?_⟩
  rw[<-akl]
  exact fin _ _ _ (QQ (s1.trans s2)) ao (R5 hok hM hn hy)
 refine aq (bx ?_)
 walk_at "ex"
 refine dD (λ_=>?_) (λhw3=>?_)
 .refine aq (pF (by rfl) (by rfl) (by rfl) (by intro _;rfl) ?_)
  walk_at "ex"
  refine aR WK (i:=3) rfl ?_
  walk_at "ex"
  have lu:=wW (z:=M.sieve) λc hc=>by have :=a3 c hc;omega
  refine⟨a,ns,M.sieve,rfl,s1.seq hS,hl,by omega,by omega,λy H2 s2 hy=>?_⟩
  walk_at "ex"
  refine⟨L,_,3,3,rfl,rfl,s2 _ _ e1,(by rw[bl5];decide),?_⟩
  rw[<-akl]
  exact fin _ _ _ (QQ (s1.trans s2)) ao (SN hok hM hy)
 refine aq (bx ?_)
 walk_at "ex"
 refine dD (λ_=>?_) (λhw4=>?_)
 .refine aq (pF (by rfl) (by rfl) (by rfl) (by intro _;rfl) ?_)
  walk_at "ex"
  refine aR WK (i:=4) rfl ?_
  walk_at "ex"
  refine⟨a,b,p,ns,M,cs,rfl,s1.seq hS,hl,hC.same s1,hok,hMA.same s1,hM,λy v H2 s2 hyl hyp hy=>?_⟩
  walk_at "ex"
  refine⟨L,_,4,4,rfl,rfl,s2 _ _ e1,(by rw[bl5];decide),?_⟩
  rw[<-akl]
  exact fin _ _ _ (QQ (s1.trans s2)) ao (adI hok hM hyp hyl hy)
 refine aq (bx ?_)
 walk_at "ex"
 refine dD (λ_=>?_) (λhw6=>?_)
 .refine aq (eU (by rfl) (fX F.plainAttrs_list F.slot_list_pop F.type_list_pop (by rfl) (by rfl) (by rfl) (by rfl) (by rfl) ?_))
  walk_at "e"
  refine⟨.inl ⟨rfl,_,aX.of e1⟩,?_⟩
  walk_at "ex"
  refine⟨a,ns,56,5,rfl,s1.seq hS,hl,by decide,by decide,by decide,?_⟩
  have c0:=aV ns 56 (m:=5) (by decide)
  have c1:=aU ns 56 (m:=5) (by decide)
  obtain⟨kk,ekk⟩:=aaA c0
  rw[ekk]at c1⊢
  have hkk:kk<(cO M).length:=by show kk<5;omega
  walk_at "ex"
  have hidx:seqIndex? ((kk:Nat):Int) ((cO M).map V.str).length=some kk:=by
   unfold seqIndex?
   rw[bl5]
   have h1:¬((kk:Nat):Int)<0:=by omega
   simp only[h1,if_false]
   rw[if_pos (by rw[aaP,decide_eq_true_eq,decide_eq_true_eq];omega)]
   rfl
  refine j9 Ak ⟨L,_,_,kk,.str (cO M)[kk],rfl,rfl,e1,by omega,by omega,hidx,by rw[aby,aak hkk];rfl,?_⟩
  have em:((cO M).map V.str).eraseIdx kk=((cO M).eraseIdx kk).map V.str:=sO _ _ _
  rw[em]
  exact fin _ _ _ (QQ s1) ao (abV hok hM (by omega))
 refine aq (eU (by rfl) (fX F.plainAttrs_list F.slot_list_insert F.type_list_insert (by rfl) (by rfl) (by rfl) (by rfl) (by rfl) ?_))
 walk_at "e"
 refine⟨.inl ⟨rfl,_,aX.of e1⟩,?_⟩
 walk_at "ex"
 refine⟨a,ns,57,6,rfl,s1.seq hS,hl,by decide,by decide,by decide,?_⟩
 have c0:=aV ns 57 (m:=6) (by decide)
 have c1:=aU ns 57 (m:=6) (by decide)
 obtain⟨kk,ekk⟩:=aaA c0
 rw[ekk]at c1⊢
 walk_at "ex"
 refine⟨by show 3≤sizeLine;omega,λt ht=>?_⟩
 obtain⟨st,et⟩:=bR ht (.lst (Hl.map V.str))
 show EV _ _ _ (upd H1 t (.lst (Hl.map V.str))) _
 generalize upd H1 t (.lst (Hl.map V.str))=H2 at st et⊢
 walk_at "ex"
 refine⟨a,ns,58,3,rfl,(s1.trans st).seq hS,hl,by decide,by decide,by decide,?_⟩
 have d0:=aV ns 58 (m:=3) (by decide)
 have d1:=aU ns 58 (m:=3) (by decide)
 obtain⟨i,ei⟩:=aaA d0
 rw[ei]at d1⊢
 have hi:i<Hl.length:=by show i<3;omega
 refine aR (aX.of et) (bz (by rw[aby,aak hi];rfl)) ?_
 walk_at "ex"
 refine j9 Cj ⟨L,_,kk,_,rfl,rfl,st _ _ e1,by omega,by omega,?_⟩
 have em:jd ((cO M).map V.str) kk (V.str Hl[i])=(jd (cO M) kk Hl[i]).map V.str:=by
  unfold jd
  rw[agi,List.map_cons,arS,arI]
 rw[em]
 exact fin _ _ _ (QQ (s1.trans st)) ao (ady hok hM (aeF hi))
theorem xr(c:Nat):∀l:List Nat,(cutAt c l).length=l.count c+1
 |[]=>rfl
 |x::r=>by
  have ih:=xr c r
  unfold cutAt
  by_cases h:x=c
  .rw[if_pos h,List.length_cons,ih,h,apo]
  .rw[if_neg h,apn h]
   cases e:cutAt c r with
   |nil=>exact absurd e (mH c r)
   |cons p q=>rw[e]at ih;exact ih
theorem Js(c:Nat):∀(l:List Nat) (k:Nat),(l.drop k).count c≤l.count c:=λl k=>(List.drop_sublist k l).count_le c
theorem Yk{cs:List bC}(hc:aQ cs=true){M:Mk}(h:bW cs M){k:Nat}{z:Str}(hz:z.cps.toList=(bL M).cps.toList.drop (k+1)):kI cs z ("NoMark":Str):=by
 obtain⟨x,ex⟩:∃x,bH M.living=⟨#[x]⟩:=by
  cases M.living
  .exact⟨115,by decide+kernel⟩
  .exact⟨108,by decide+kernel⟩
 have apG:x≠47:=by
  have :=yK M.living x (by rw[ex];simp)
  omega
 have hb:(bL M).cps.toList=x::47::(Str.join "/" [Str.ofString (toString (M.moment:Int)),iU M.os,M.sieve,cW M.cut]).cps.toList:=by
  have e:bL M=bH M.living++Str.ofString "/"++Str.join "/" [Str.ofString (toString (M.moment:Int)),iU M.os,M.sieve,cW M.cut]:=rfl
  rw[e,ex,aA,aA,show("/":Str).cps.toList=[47]from by decide+kernel]
  rfl
 have h5:(cutAt 47 (bL M).cps.toList).length=5:=by
  have :=congrArg akv (vf hc h)
  unfold aW at this
  rw[aar]at this
  exact this
 rw[xr,hb,apn apG,apo]at h5
 rw[hb]at hz
 cases k with
 |zero=>
  by_cases hl:(aW 47 z).length=5
  .have e0:aW 47 z=Str.ofString ""::(cutAt 47 (Str.join "/" [Str.ofString (toString (M.moment:Int)),iU M.os,M.sieve,cW M.cut]).cps.toList).map (λl=>(⟨l.toArray⟩:Str)):=by
    unfold aW
    rw[hz]
    show(cutAt 47 (47::_)).map _=_
    rw[show ∀l:List Nat,cutAt 47 (47::l)=[]::cutAt 47 l from λl=>lE (p:=[]) (by simp),List.map_cons]
    congr 1
   match e1:aW 47 z,hl with
   |[p0,p1,p2,p3,p4],_=>
    rw[e1]at e0
    have e2:p0=Str.ofString "":=(List.cons.inj e0).1
    exact .inr ⟨_,_,_,_,_,e1,.inl ⟨rfl,by rw[e2];decide+kernel,by rw[e2];decide+kernel⟩⟩
  .exact .inl ⟨rfl,hl⟩
 |succ k=>
  refine .inl ⟨rfl,?_⟩
  have hz2:z.cps.toList=(Str.join "/" [Str.ofString (toString (M.moment:Int)),iU M.os,M.sieve,cW M.cut]).cps.toList.drop k:=hz
  unfold aW
  rw[aar,xr,hz2]
  have :=Js 47 (Str.join "/" [Str.ofString (toString (M.moment:Int)),iU M.os,M.sieve,cW M.cut]).cps.toList k
  omega
theorem SM{cs:List bC}(hc:aQ cs=true){M:Mk}(h:bW cs M){k:Nat}{z:Str}(hz:z.cps.toList=(gR M).cps.toList.drop (k+1)):Zv cs z:=by
 have em:(gR M).cps.toList=(bL M).cps.toList++46::(cD (bu (bL M).cps.toList)).cps.toList:=by
  unfold gR
  rw[aA,aA,show(".":Str).cps.toList=[46]from by decide+kernel,aex]
  rfl
 have hf:=(CZ (bL M).cps.toList).1
 rw[em,atX]at hz
 by_cases hk:k+1≤(bL M).cps.toList.length
 .rw[show k+1-(bL M).cps.toList.length=0 by omega,aj6]at hz
  generalize hs:(bL M).cps.toList.drop (k+1)=s at hz
  by_cases he:(cD (bu (bL M).cps.toList)).cps.toList=(cD (bu s)).cps.toList
  .refine .inr ⟨⟨s.toArray⟩,_,?_,?_,λx hx=>?_,Yk hc h (k:=k) (z:=⟨s.toArray⟩) hs.symm⟩
   .apply bB
    rw[hz,aA,aA,show(".":Str).cps.toList=[46]from by decide+kernel,aex,he]
    rfl
   .have h1:=(mK hc h).2
    have h2:=L2.len_list (bL M)
    have h3:(⟨s.toArray⟩:Str).length=s.length:=by rw[L2.len_list]
    have h4:=congrArg akv hs
    rw[afr]at h4
    omega
   .have hx':x∈s:=hx
    rw[<-hs]at hx'
    exact pA hc h x (ahg hx')
  .exact .inl (.inr ⟨s,_,hz,hf,he⟩)
 .refine .inl (.inl ?_)
  rw[aj7 (by omega),akM]at hz
  rw[hz]
  intro hm
  obtain⟨j,ej⟩:∃j,k+1-(bL M).cps.toList.length=j+1:=⟨k-(bL M).cps.toList.length,by omega⟩
  rw[ej,List.drop_succ_cons]at hm
  exact hf (ahg hm)
def rR(z:Str):List Str:=[Str.ofString "",Str.ofString ".",Str.ofString ".0000",Str.ofString "0000",z]
theorem Om{cs:List bC}(hc:aQ cs=true){M:Mk}(h:bW cs M){k:Nat}{z:Str}(hz:z.cps.toList=(gR M).cps.toList.drop (k+1)):∀y∈rR z,Zv cs y:=by
 intro y hy
 unfold rR at hy
 simp only[List.mem_cons,List.not_mem_nil,or_false]at hy
 rcases hy with rfl |rfl |rfl |rfl |rfl
 .exact .inl (.inl (by decide+kernel))
 .exact .inl (.inr ⟨[],[],by decide+kernel,by simp,by decide+kernel⟩)
 .exact .inr ⟨Str.ofString "",Str.ofString "NoMark",by decide+kernel,by decide+kernel,by decide+kernel,.inl ⟨rfl,by decide+kernel⟩⟩
 .exact .inl (.inl (by decide+kernel))
 .exact SM hc h hz
theorem Q6{cs Sv:List bC}(hc:aQ cs=true){M:Mk}(h:bW cs M){o:Ord}{r:List Ord}(ho:M.os=o::r)(hn:∀c∈Sv,c.1≠o.1):Zv Sv (gR M):=by
 have hm:=h.moment
 refine .inr ⟨bL M,Str.ofString "NoOrder",rfl,by have :=(mK hc h).2;omega,pA hc h,.inr ⟨_,_,_,_,_,vf hc h,.inr ⟨M.living,rfl,.inr ⟨M.moment,rfl,by omega,.inl ⟨rfl,?_⟩⟩⟩⟩⟩
 have hfree:∀p∈M.os.map d9,32∉p.cps.toList:=λp hp=>by
  obtain⟨q,hq,rfl⟩:=adg.mp hp
  refine wU λhm=>?_
  have :=(ir (gk hc (h.names q hq))).2 32 hm
  omega
 obtain⟨x,ex⟩:∃x,d9 o=⟨#[x]⟩++o.1:=by
  unfold d9
  split
  .exact⟨43,rfl⟩
  .exact⟨45,rfl⟩
 have Br:aW 32 (iU M.os)=M.os.map d9:=jO (by rw[ho];simp) hfree
 refine eO (w:=d9 o) (λe=>?_) (by rw[Br,ho];simp) (mO λc hc2 e=>?_)
 .rw[e,show aW 32 ("":Str)=[Str.ofString ""]from by decide+kernel,ho,List.map_cons,ex]at Br
  have :=congrArg (λz:Str=>z.cps.toList.length) (List.cons.inj Br).1
  simp only[aA,ace]at this
  rw[show("":Str).cps.toList.length=0 from by decide+kernel]at this
  simp at this<;>omega
 .rw[ex,Q3]at e
  exact hn c hc2 e
theorem qm(M:Mk):(gR M).cps.toList=(bL M).cps.toList++46::(cD (bu (bL M).cps.toList)).cps.toList/\(gR M).length=(bL M).length+5:=by
 have e:(gR M).cps.toList=(bL M).cps.toList++46::(cD (bu (bL M).cps.toList)).cps.toList:=by
  unfold gR
  rw[aA,aA,show(".":Str).cps.toList=[46]from by decide+kernel,aex]
  rfl
 refine⟨e,?_⟩
 have h:=congrArg akv e
 have h1:=L2.len_list (gR M)
 have h2:=L2.len_list (bL M)
 have h3:=(CZ (bL M).cps.toList).2
 rw[ace,List.length_cons,h3]at h
 omega
theorem Ks{cs:List bC}(hc:aQ cs=true){M:Mk}(h:bW cs M):∀c∈(bL M).cps.toList,c<9973:=λc hm=>by
 have :=pJ (jb hc h) c hm
 omega
theorem KN{cs:List bC}(hc:aQ cs=true){M:Mk}(h:bW cs M):∀c∈(gR M).cps.toList,c<9973:=by
 intro c hm
 rw[(qm M).1]at hm
 rcases aeC.mp hm with q |q
 .exact Ks hc h c q
 .rcases abO.mp q with q |q
  .omega
  .have hb:=gb (bL M).cps.toList
   obtain⟨m,em⟩:=aaA hb.1
   have hk:=zq (n:=m) (by omega)
   unfold xg at hk
   simp only[aaP,decide_eq_true_eq,adt]at hk
   rw[em]at q
   have :=hk.2.1 c q
   unfold vo at this
   simp at this
   omega
def Hf(c:bC):bC:=(bO c.1 (some (-8)) none,c.2)
def xG(c:bC):bC:=(bO c.1 (some 1) none++Str.ofString "zz",c.2)
theorem abn(T:Txt K mg){f:Addr}{fd:FuncData}(F:iW K "law" "law" m8 f fd):xU P w K mg base (CK P w) true 70 f fd ["_law_script"] (ZP K):=by
 refine Nm F Vo (λvs H Q E h=>by obtain⟨a,ns,rfl,_⟩:=h;rfl) (λcdv A outer s H vs Q E hr h=>?_)
 obtain⟨a,ns,rfl,hS,hl,q⟩:=h
 have nd:=Vo.nd
 have n2:=T.jr
 have n3:=T.aal
 have hsz:=sizeLine_eq
 have D0:= @bZ P w K mg base T
 have D1:= @my P w K mg base T
 have D2:= @qX P w K mg base T
 have D3:= @mW P w K mg base T
 have D4:= @mR P w K mg base T
 have D5:= @mF P w K mg base T
 have D6:= @qM P w K mg base T
 have D8:= @qK P w K mg base T
 have Yz:(["_law_one"]:List Str).Nodup:=by decide+kernel
 walk_at "A"
 refine⟨a,ns,300,6,rfl,hS,hl,by decide,by decide,by decide,by decide,λc cs H1 s1 _ hC hok=>?_⟩
 walk_at "A"
 refine⟨a,c,ns,1000,cs,rfl,s1.seq hS,hl,by decide,by decide,hC,hok,λpm M H2 s2 hm hg=>?_⟩
 walk_at "A"
 refine⟨pm,M,cs,rfl,hm,hok,hg,λH3 s3=>?_⟩
 walk_at "ex"
 have bl:=(mK hok hg).2
 have bc:=pA hok hg
 refine⟨bL M,rfl,by omega,bc,λH4 s4=>?_⟩
 rw[show bL M++Str.ofString "."++cD (bu (bL M).cps.toList)=gR M from rfl]
 obtain⟨mf,mt⟩:=qm M
 have hmc:∀c∈(gR M).cps.toList,c<1114112:=λc hc=>by have :=KN hok hg c hc;omega
 have U3:=((hC.same s2).same s3).same s4
 have hm4:=(hm.same s3).same s4
 have hS4:=s4.seq (s3.seq (s2.seq (s1.seq hS)))
 generalize hT:gR M=tx at mf mt hmc⊢
 have hx0:5≤tx.length:=by omega
 have hx1:tx.length≤4000:=by omega
 have four:∀b:Str,(b++Str.ofString "."++cD (bu b.cps.toList)).length=b.length+5/\∀d∈(b++Str.ofString "."++cD (bu b.cps.toList)).cps.toList,d∈b.cps.toList\/d<1114112:=λb=>by
  have hb:=gb b.cps.toList
  have hf:=lL (bu b.cps.toList) (by omega) (by omega)
  have lp:(".":Str).length=1:=by decide+kernel
  refine⟨by rw[len_app,len_app];omega,λd hd=>?_⟩
  rw[aA,aA]at hd
  rcases aeC.mp hd with hd |hd
  .rcases aeC.mp hd with hd |hd
   .exact .inl hd
   .exact .inr (by rw[show(".":Str).cps.toList=[46]from by decide+kernel]at hd;simp at hd;omega)
  .obtain⟨m,em⟩:=aaA hb.1
   have hk:=zq (n:=m) (by omega)
   unfold xg at hk
   simp only[aaP,decide_eq_true_eq,adt]at hk
   rw[em]at hd
   have :=hk.2.1 d hd
   unfold vo at this
   simp at this
   exact .inr (by omega)
 refine aj (bx ?_)
 walk_at "ex"
 refine⟨a,c,pm,ns,M,cs,rfl,hS4,hl,U3,hok,hm4,hg,λz cl H5 s5 hz1 hz2 hz3=>?_⟩
 walk_at "ex"
 refine⟨z,rfl,by omega,hz2,λH6 s6=>?_⟩
 have s46:=s5.trans s6
 obtain⟨f1,f2⟩:=four z
 walk_at "ex"
 refine⟨c,_,cs,rfl,by omega,λd hd=>(f2 d hd).elim (hz2 d) id,U3.same s46,.inr ⟨z,cl,rfl,hz1,hz2,hz3⟩,λH7 s7=>?_⟩
 have s47:=s46.trans s7
 walk_at "ex"
 refine aL (aj ?_)
 walk_at "s"
 walk_at "ex"
 refine⟨a,ns,59,_,rfl,s47.seq hS4,hl,by decide,by decide,by omega,?_⟩
 have d0:=aV ns 59 (m:=(tx.length:Int)) (by omega)
 have d1:=aU ns 59 (m:=(tx.length:Int)) (by omega)
 obtain⟨k,ek⟩:=aaA d0
 rw[ek]at d1⊢
 walk_at "ex"
 refine iM (by omega) ?_
 have hsh:(bO tx (some ((k:Int)+1)) none).cps.toList=(gR M).cps.toList.drop (k+1):=by
  rw[hT,show(k:Int)+1=((k+1:Nat):Int)from rfl,lJ]
 have hsl:=ju tx (some ((k:Int)+1)) none
 have hsc:∀d∈(bO tx (some ((k:Int)+1)) none).cps.toList,d<1114112:=λd hd=>hmc d (U7 hd)
 generalize bO tx (some ((k:Int)+1)) none=sh at hsh hsl hsc⊢
 refine aj (bx ?_)
 walk_at "ex"
 refine⟨by show 5≤sizeLine;omega,λt ht=>?_⟩
 obtain⟨s8,e8⟩:=bR ht (.lst ((rR sh).map V.str))
 show EV _ _ _ (upd H7 t (.lst ((rR sh).map V.str))) _
 generalize upd H7 t (.lst ((rR sh).map V.str))=H8 at s8 e8⊢
 have s48:=s47.trans s8
 walk_at "ex"
 refine⟨a,ns,60,5,rfl,s48.seq hS4,hl,by decide,by decide,by decide,?_⟩
 have g0:=aV ns 60 (m:=5) (by decide)
 have g1:=aU ns 60 (m:=5) (by decide)
 obtain⟨i,ei⟩:=aaA g0
 rw[ei]at g1⊢
 have hi:i<(rR sh).length:=by show i<5;omega
 refine aR (aX.of e8) (bz (by rw[aby,aak hi];rfl)) ?_
 have hy:=aeF hi
 generalize(rR sh)[i]=y at hy⊢
 have hys:y.length≤100000/\∀d∈y.cps.toList,d<1114112:=by
  have hy':=hy
  unfold rR at hy'
  simp only[List.mem_cons,List.not_mem_nil,or_false]at hy'
  rcases hy' with rfl |rfl |rfl |rfl |rfl
  .exact⟨by decide+kernel,by decide+kernel⟩
  .exact⟨by decide+kernel,by decide+kernel⟩
  .exact⟨by decide+kernel,by decide+kernel⟩
  .exact⟨by decide+kernel,by decide+kernel⟩
  .exact⟨by omega,hsc⟩
 walk_at "ex"
 refine⟨c,y,cs,rfl,hys.1,hys.2,U3.same s48,Om hok hg hsh y hy,λH9 s9=>?_⟩
 have s49:=s48.trans s9
 walk_at "ex"
 refine aL (aj ?_)
 obtain⟨vs,ec,hvs⟩:=U3.same s49
 have hvl:=hvs.len
 obtain⟨c1,c6⟩:=vI hok
 have hcn:∀d∈cs,d.1.length≤8:=λd hd=>eF (gk hok (adg.mpr ⟨d,hd,rfl⟩))
 have lzz:("zz":Str).length=2:=by decide+kernel
 refine oU ["_law_one"] (σ':=[none]) (by rfl) (by rfl) (by rfl) (cA (aa m8) (by rfl) (by rfl) (by decide+kernel)) (by intro _;rfl) nd (by rfl) (by rfl) ?_
 walk_at "e"
 refine⟨c,vs,rfl,aX.of ec,by omega,λτ=>∃o1,τ=[o1],λE2 i u H'=>∃d,cs[i]? =some d/\∃t,u= .ref t/\H' t=some (.tup [.str (xG d).1,.str (xG d).2]),⟨none,rfl⟩,λE2 i u H2 H3 ys hE hsm p=>?_,λfp E2 C s3 H0 i τ x H10 Y5 Bm hi hτ abr hys hG=>?_,λE2 H10 ys Bm hl2 hx2 e10 abr=>?_⟩
 .obtain⟨d,hd,t,rfl,ht⟩:=p
  exact⟨d,hd,t,rfl,hsm t _ (λe=>by rw[e,hE]at ht;cases ht) ht⟩
 .obtain⟨o1,rfl⟩:=hτ
  obtain⟨hx,rfl⟩:=hG
  obtain⟨d,hd,t,rfl,ht⟩:=hvs.get hx
  have hdl:=hcn d (aaR hd)
  have JH:=abr _ _ ht
  refine aM Yz (by rfl) (.inl rfl) (.inr rfl) ?_
  walk_at "ex"
  refine cQ (dg.of JH) (show lR [V.str d.1,V.str d.2] 0=some (V.str d.1)from rfl) ?_
  walk_at "ex"
  refine iM (by omega) ?_
  have :=ju d.1 (some 1) none
  walk_at "ex"
  refine aZ (by omega) ?_
  walk_at "ex"
  refine cQ (dg.of JH) (show lR [V.str d.1,V.str d.2] 1=some (V.str d.2)from rfl) ?_
  walk_at "ex"
  refine⟨by show 2≤sizeLine;omega,λt2 ZX=>?_⟩
  exact⟨⟨_,rfl⟩,⟨d,hd,t2,rfl,ao⟩,au.upd ZX⟩
 have hC1:dX H10 E2 (cs.map xG):=⟨ys,e10,nJ (by rw[aar];omega) λi b hb=>by
  rw[aby]at hb
  obtain⟨d,hd,rfl⟩:=aht.mp hb
  have hi:i<ys.length:=by have :=(aan.mp hd).1;omega
  obtain⟨d',hd',t,ev,ht⟩:=hx2 i _ (aak hi)
  rw[hd]at hd'
  cases hd'
  exact⟨_,aak hi,t,ev,ht⟩⟩
 have hfl:∀d∈cs.map xG,d.1.length≤10:=λd hd=>by
  obtain⟨e,he,rfl⟩:=adg.mp hd
  have h1:=hcn e he
  have h2:=ju e.1 (some 1) none
  show(bO e.1 (some 1) none++Str.ofString "zz").length≤10
  rw[len_app]
  omega
 have hl1:(cs.map xG).length=cs.length:=aar ..
 generalize cs.map xG=cs1 at hC1 hfl hl1
 have asY:=s49.trans abr
 obtain⟨vs1,ec1,aji⟩:=hC1
 have aBp:=aji.len
 refine aj ?_
 refine oU ["_law_one"] (σ':=[none]) (by rfl) (by rfl) (by rfl) (cA (aa m8) (by rfl) (by rfl) (by decide+kernel)) (by intro _;rfl) nd (by rfl) (by rfl) ?_
 walk_at "e"
 refine⟨E2,vs1,rfl,aX.of ec1,by omega,λτ=>∃o1,τ=[o1],λE2 i u H'=>∃d,cs1[i]? =some d/\∃t,u= .ref t/\H' t=some (.tup [.str (Hf d).1,.str (Hf d).2]),⟨none,rfl⟩,λE2 i u H2 H3 ys hE hsm p=>?_,λfp E3 C s3 H0 i τ x Y5 H12 hE3 hi hτ abB hys hG=>?_,λE3 Y5 ys3 hE3 hl3 HD e11 abB=>?_⟩
 .obtain⟨d,hd,t,rfl,ht⟩:=p
  exact⟨d,hd,t,rfl,hsm t _ (λe=>by rw[e,hE]at ht;cases ht) ht⟩
 .obtain⟨o1,rfl⟩:=hτ
  obtain⟨hx,rfl⟩:=hG
  obtain⟨d,hd,t,rfl,ht⟩:=aji.get hx
  have hdl:=hfl d (aaR hd)
  have JH:=abB _ _ ht
  refine aM Yz (by rfl) (.inl rfl) (.inr rfl) ?_
  walk_at "ex"
  refine cQ (dg.of JH) (show lR [V.str d.1,V.str d.2] 0=some (V.str d.1)from rfl) ?_
  walk_at "ex"
  refine iM (by omega) ?_
  walk_at "ex"
  refine cQ (dg.of JH) (show lR [V.str d.1,V.str d.2] 1=some (V.str d.2)from rfl) ?_
  walk_at "ex"
  refine⟨by show 2≤sizeLine;omega,λt2 ZX=>?_⟩
  exact⟨⟨_,rfl⟩,⟨d,hd,t2,rfl,ao⟩,au.upd ZX⟩
 have Wm:dX Y5 E3 (cs1.map Hf):=⟨ys3,e11,nJ (by rw[aar];omega) λi b hb=>by
  rw[aby]at hb
  obtain⟨d,hd,rfl⟩:=aht.mp hb
  have hi:i<ys3.length:=by have :=(aan.mp hd).1;omega
  obtain⟨d',hd',t,ev,ht⟩:=HD i _ (aak hi)
  rw[hd]at hd'
  cases hd'
  exact⟨_,aak hi,t,ev,ht⟩⟩
 have hl2':(cs1.map Hf).length=cs1.length:=aar ..
 generalize cs1.map Hf=Sv at Wm hl2'
 have axc:=asY.trans abB
 have am7:=Wm
 obtain⟨vs2,ec2,ah1⟩:=am7
 have agM:=ah1.len
 refine aj ?_
 refine oU ["_law_one"] (σ':=[none]) (by rfl) (by rfl) (by rfl) (cA (aa m8) (by rfl) (by rfl) (by decide+kernel)) (by intro _;rfl) nd (by rfl) (by rfl) ?_
 walk_at "e"
 refine⟨E3,vs2,rfl,aX.of ec2,by omega,λτ=>∃o1,τ=[o1],λE2 i u H'=>∃d,Sv[i]? =some d/\u= .str d.1,⟨none,rfl⟩,λE2 i u H2 H3 ys _ _ p=>p,λfp E4 C s3 H0 i τ x H12 H13 hE4 hi hτ vp hys hG=>?_,λE4 H12 ys4 hE4 hl4 hx4 e12 vp=>?_⟩
 .obtain⟨o1,rfl⟩:=hτ
  obtain⟨hx,rfl⟩:=hG
  obtain⟨d,hd,t,rfl,ht⟩:=ah1.get hx
  have JH:=vp _ _ ht
  refine aM Yz (by rfl) (.inl rfl) (.inr rfl) ?_
  walk_at "ex"
  refine cQ (dg.of JH) (show lR [V.str d.1,V.str d.2] 0=some (V.str d.1)from rfl) ?_
  exact⟨⟨_,rfl⟩,⟨d,hd,rfl⟩,au.refl _⟩
 have ey:=eN (ys:=Sv) (λc=>V.str c.1) (by rw[hl4,agM]) hx4
 have Iz:ys4=(Sv.map Prod.fst).map V.str:=by rw[ey,agz];rfl
 subst Iz
 have hnl:(Sv.map Prod.fst).length≤4000:=by rw[aar];omega
 have Sx:=axc.trans vp
 have fin:∀H13,au H4 H13->lH (vd true P w K mg base MP "law" (aa m8) f cdv A outer s H E) ((az m8).drop 10) {nx:=λ_ H'=>Q .non H',rt:=Q} [some (.ref a),some (.ref c),some (.ref pm),some (.str tx),some (.str sh),some (.ref E3),some (.ref E4)] H13:=λH13 s13=>by
  refine aq (bA ?_)
  walk_at "ex"
  refine⟨c,M,cs,by rw[hT],U3.same s13,hok,hg,λfp o cc k v H7 s7 ef ho hO ZW ek hv ev hov=>?_⟩
  walk_at "ex"
  refine cQ (dg.of ef) (i:=1) rfl ?_
  walk_at "ex"
  obtain⟨o',c',em,_⟩:=(hm4.same s13).same s7
  refine cQ (dg.of em) (i:=1) rfl ?_
  walk_at "ex"
  rw[decide_eq_true rfl]
  exact q _
 obtain⟨om,cm,em,hom,_⟩:=hm4.same Sx
 obtain⟨wo,eo,hwo⟩:=hom
 have aiF:=hwo.len
 have hol:=hg.len
 refine aj (bx ?_)
 walk_at "ex"
 refine cQ (dg.of em) (i:=2) rfl ?_
 have sqo:aX K H12 om wo:=aX.of eo
 walk_at "ex"
 refine dD (λhpos=>?_) (λ_=>?_)
 .obtain⟨oo,r,eos⟩:∃oo r,M.os=oo::r:=by
   cases e:M.os with
   |nil=>
    rw[e]at aiF
    rw[aiF]at hpos
    exact absurd hpos (by decide)
   |cons x r=>exact⟨x,r,rfl⟩
  obtain⟨v0,g0',t0,rfl,ht0⟩:=hwo.get' (i:=0) (b:=oo) (by rw[eos];rfl)
  walk_at "ex"
  refine cQ (dg.of em) (i:=2) rfl ?_
  walk_at "ex"
  refine aR sqo (show lR wo ((0:Nat):Int)=some (.ref t0)from bz g0') ?_
  walk_at "ex"
  refine cQ (dg.of ht0) (show lR [V.str oo.1,V.bl oo.2] 0=some (V.str oo.1)from rfl) ?_
  walk_at "ex"
  refine Vk (aX.of e12) (by rfl) (by rw[atq];exact adt.mpr λ_ _=>rfl) ?_
  rw[Fz]
  by_cases hin:oo.1∉Sv.map Prod.fst
  .rw[decide_eq_true hin]
   walk_at "ex"
   refine Tc (by rfl) (aX.of e12) hnl λS hS=>?_
   walk_at "ex"
   refine S6 ao hnl ?_
   walk_at "ex"
   refine Tv (.inl (aX.of ((au.upd hS) _ _ e12))) ?_
   walk_at "ex"
   have sS:au H12 (upd H12 S (vR (vd true P w K mg base MP "law" (aa m8) f cdv A outer s H E) S (Sv.map Prod.fst))):=au.upd hS
   generalize upd H12 S (vR (vd true P w K mg base MP "law" (aa m8) f cdv A outer s H E) S (Sv.map Prod.fst))=H13 at sS⊢
   refine dD (λ_=>?_) (λ_=>?_)
   .refine aq (bx ?_)
    walk_at "ex"
    refine⟨E3,tx,Sv,rfl,by omega,hmc,(Wm.same vp).same sS,hT▸Q6 hok hg eos (λd hd e=>hin (adg.mpr ⟨d,hd,e⟩)),λH14 s14=>?_⟩
    walk_at "ex"
    exact aL (fin _ ((Sx.trans sS).trans s14))
   .exact aL (fin _ (Sx.trans sS))
  .rw[decide_eq_false hin]
   walk_at "ex"
   exact aL (fin _ Sx)
 .exact aL (fin _ Sx)
end
end K39
namespace PySem.W.Fast
def tw12868787202687286224:Unit:=()
def tw9051070916136620225:Unit:=()
def tw17650987248900446918:Unit:=()
def tw4441182563253975276:Unit:=()
def tw957713839678893288:Unit:=()
def tw16376961206047523577:Unit:=()
def tw4981938414107567215:Unit:=()
def tw15501780863173992846:Unit:=()
def tw9510835688255478543:Unit:=()
def tw8275757027607516768:Unit:=()
def tw1716780997596897931:Unit:=()
def tw1308057330379878672:Unit:=()
def tw10035028703163629698:Unit:=()
def tw7081318534552141894:Unit:=()
def tw17778514994236797715:Unit:=()
def tw6583353255647742679:Unit:=()
def tw372624088719772078:Unit:=()
def tw337455430672205686:Unit:=()
def tw14939625673122972028:Unit:=()
def tw7853889868676921350:Unit:=()
def tw6607781360601840144:Unit:=()
def tw7036599876971747167:Unit:=()
def tw658636899538609625:Unit:=()
def tw7404598125955910608:Unit:=()
def tw15842328604172941661:Unit:=()
def tw13503315932397909042:Unit:=()
def tw1396088307849821407:Unit:=()
def tw11932540664384025331:Unit:=()
def tw3235459863156443059:Unit:=()
def tw16089223917496291556:Unit:=()
def tw10108218811850621279:Unit:=()
def tw6151092792220387910:Unit:=()
def tw11655202043536300037:Unit:=()
def tw3267525371515847183:Unit:=()
def tw13742864178268206922:Unit:=()
def tw7663277610644489367:Unit:=()
def tw8000442545287782650:Unit:=()
def tw11341455458028379111:Unit:=()
def tw10050152130104192316:Unit:=()
def tw1169997088989125520:Unit:=()
def tw2243302230473225955:Unit:=()
def tw14960180855090259113:Unit:=()
def tw8119079663791393822:Unit:=()
def tw13164247836916488711:Unit:=()
def tw8303547051976687987:Unit:=()
def tw10455125745857594102:Unit:=()
def tw3784692312495931657:Unit:=()
def tw1644370805033229558:Unit:=()
def tw15819594869590329963:Unit:=()
def tw2718822588132775821:Unit:=()
def tw2104302206983030912:Unit:=()
def tw1681245767993569577:Unit:=()
def tw9902665409893279596:Unit:=()
def tw17716340091598917470:Unit:=()
def tw6262469503641186169:Unit:=()
def tw2513839932948801068:Unit:=()
def tw14754928520510243197:Unit:=()
def tw15143456684668732981:Unit:=()
def tw544412194267000151:Unit:=()
def tw2607365460889001292:Unit:=()
def tw6190850788175654842:Unit:=()
def tw6955119617857239754:Unit:=()
def tw11421215428359286801:Unit:=()
def tw850158359482245017:Unit:=()
def tw5746011124195823203:Unit:=()
def tw16616324379170284472:Unit:=()
def tw9633771432340705942:Unit:=()
def tw3598228835246390092:Unit:=()
def tw17239065779679481291:Unit:=()
def tw18438089263478892735:Unit:=()
def tw11384185154007808900:Unit:=()
def tw566422049324266313:Unit:=()
def tw11590287268829243290:Unit:=()
def tw10360885611932875326:Unit:=()
def tw11029196690604831336:Unit:=()
def tw9260616257181100488:Unit:=()
def tw17742592149289025595:Unit:=()
def tw14979341275436296462:Unit:=()
def tw1161122598400901315:Unit:=()
def tw14176159339620267755:Unit:=()
def tw13860904332993014829:Unit:=()
def tw10804729023952855181:Unit:=()
def tw4819768624280366595:Unit:=()
def tw2062124880447701162:Unit:=()
def tw168298137237654951:Unit:=()
def tw7802594353062970350:Unit:=()
def tw612200965586314731:Unit:=()
def tw5740959187326772765:Unit:=()
def tw3153895124304051332:Unit:=()
def tw16395880731433839236:Unit:=()
def tw16565039731196762744:Unit:=()
def tw11243521402850959570:Unit:=()
def tw5660479502407609725:Unit:=()
def tw2146683392252578814:Unit:=()
def tw1417203597797416160:Unit:=()
def tw17555769948886695135:Unit:=()
def tw3894244889401812102:Unit:=()
def tw4412981709806878568:Unit:=()
def tw5416679256855342948:Unit:=()
def tw8778771558263072247:Unit:=()
def tw7404022355614050809:Unit:=()
def tw18091490416382454010:Unit:=()
def tw6658190795056238335:Unit:=()
def tw18367741143852032070:Unit:=()
def tw10568153573838164837:Unit:=()
def tw2466727327770459728:Unit:=()
def tw9208278554230765808:Unit:=()
def tw7371286762434167418:Unit:=()
def tw6707000317747310470:Unit:=()
def tw5566735442901916502:Unit:=()
def tw3588735591713237701:Unit:=()
def tw3249517787093029182:Unit:=()
def tw1715192942577530457:Unit:=()
def tw13630030786290487786:Unit:=()
def tw3554283343648155008:Unit:=()
def tw13207017777270083533:Unit:=()
def tw9213186748793136750:Unit:=()
def tw7812912207672560743:Unit:=()
def tw7535943506487192707:Unit:=()
def tw4557780581482022072:Unit:=()
def tw17846154029042907832:Unit:=()
def tw13376870924882497499:Unit:=()
def tw14885793388918442689:Unit:=()
def tw12698915415055525279:Unit:=()
def tw13208247258539795834:Unit:=()
def tw6521672338590659291:Unit:=()
def tw18265603293426627898:Unit:=()
def tw4632532402312521003:Unit:=()
def tw14801191910929945399:Unit:=()
def tw1348273299982325458:Unit:=()
def tw17771263493046960790:Unit:=()
def tw16687344937624878154:Unit:=()
def tw15622653024176599178:Unit:=()
def tw11288834866652779701:Unit:=()
def tw6213433657530290406:Unit:=()
def tw1703837306766235308:Unit:=()
def tw4012973016631195894:Unit:=()
def tw11747723273980410202:Unit:=()
def tw1076967181757515329:Unit:=()
def tw1929317557175146196:Unit:=()
def tw17820751199691880047:Unit:=()
def tw12071101575029835934:Unit:=()
def tw8171935697389006260:Unit:=()
def tw9670823612215356805:Unit:=()
def tw8938979371178281428:Unit:=()
def tw679295618161789915:Unit:=()
def tw2486915101118928311:Unit:=()
def tw17859391953139098711:Unit:=()
def tw17791518917166207001:Unit:=()
def tw15158577910816122976:Unit:=()
def tw17044040187286490121:Unit:=()
def tw16134641767136993274:Unit:=()
def tw13131286920558546921:Unit:=()
def tw12634061040342746274:Unit:=()
def tw4947228280009736986:Unit:=()
def tw8172892178239905980:Unit:=()
def tw10107702375448909927:Unit:=()
def tw14783465727106743191:Unit:=()
def tw13663658811131399078:Unit:=()
def tw2861064853032121073:Unit:=()
def tw16133602801166590263:Unit:=()
def tw276414058239369790:Unit:=()
def tw16598056054316612423:Unit:=()
def tw6062990302872988196:Unit:=()
def tw1864256281736884124:Unit:=()
def tw16262663150968246003:Unit:=()
def tw10341091231235633126:Unit:=()
def tw1906805393649004635:Unit:=()
def tw17198075690227571947:Unit:=()
def tw8759285080038123376:Unit:=()
def tw12979117681371086836:Unit:=()
def tw2415750727581252099:Unit:=()
def tw11106397739530633171:Unit:=()
def tw17167968091134971506:Unit:=()
def tw1206120594043399873:Unit:=()
def tw13578000900154528081:Unit:=()
def tw17802339516138437200:Unit:=()
def tw3279974549691151597:Unit:=()
def tw10357786662421669911:Unit:=()
def tw12390394717748422329:Unit:=()
def tw1587603810940683255:Unit:=()
def tw11909491349319743792:Unit:=()
def tw3011861075111870379:Unit:=()
def tw4837400517591256778:Unit:=()
def tw3840558045713814529:Unit:=()
def tw9761613077286573720:Unit:=()
def tw15313379684860410221:Unit:=()
def tw11186953421708213291:Unit:=()
def tw18329150473873549549:Unit:=()
def tw16836881787404201439:Unit:=()
def tw9893452441857303184:Unit:=()
def tw7817602731460194405:Unit:=()
def tw7344814771700070183:Unit:=()
def tw5267699075453833845:Unit:=()
def tw6614664826683098567:Unit:=()
def tw5939327464635286427:Unit:=()
def tw16775811842882241245:Unit:=()
def tw5126219305383146314:Unit:=()
def tw4177305518057486178:Unit:=()
def tw1682136226994733261:Unit:=()
def tw5925501638267211312:Unit:=()
def tw5293420100698378095:Unit:=()
def tw16159791116095294042:Unit:=()
def tw11741626474317751623:Unit:=()
def tw17573202389827043970:Unit:=()
def tw492136669346473825:Unit:=()
def tw8803909803952286944:Unit:=()
def tw8282708420385108034:Unit:=()
def tw15111349024485309401:Unit:=()
def tw13408099796504578458:Unit:=()
def tw12518248661100612941:Unit:=()
def tw5383657520762413663:Unit:=()
def tw10662739743164530317:Unit:=()
def tw7875267461991391894:Unit:=()
def tw16077036827072712510:Unit:=()
def tw14001222436899229700:Unit:=()
def tw6641030111893632979:Unit:=()
def tw1572780357428480223:Unit:=()
def tw7646123755510440826:Unit:=()
def tw6882506901704347663:Unit:=()
def tw6820486676003942771:Unit:=()
def tw10105757561642665788:Unit:=()
def tw15845602312103540350:Unit:=()
def tw4532151470626974395:Unit:=()
def tw1819220622081084770:Unit:=()
def tw1534961277920037040:Unit:=()
def tw7299513868017247997:Unit:=()
def tw6835968612710614211:Unit:=()
def tw2430963067265191213:Unit:=()
def tw15599979001421450301:Unit:=()
def tw1451765470784463030:Unit:=()
def tw12614260361434825060:Unit:=()
def tw561639496064170015:Unit:=()
def tw14391268261712819703:Unit:=()
def tw11626647285587864719:Unit:=()
def tw8616501567611202700:Unit:=()
def tw17511821550588264781:Unit:=()
def tw14251162093716086933:Unit:=()
def tw10116667706939649396:Unit:=()
def tw8985489966186881879:Unit:=()
def tw6008684229629317905:Unit:=()
def tw5058931049394495000:Unit:=()
def tw17474173968942885691:Unit:=()
def tw996105259365028759:Unit:=()
def tw9622751508374217408:Unit:=()
def tw5166880412856593240:Unit:=()
def tw13546671930222841701:Unit:=()
def tw8641302946791686281:Unit:=()
def tw9073892288320693381:Unit:=()
def tw15154092858997469914:Unit:=()
def tw6407834965553499146:Unit:=()
def tw14770278538745992748:Unit:=()
def tw3101668833877701679:Unit:=()
def tw2413309748143398596:Unit:=()
def tw12776470160165978287:Unit:=()
def tw11182295225953268690:Unit:=()
def tw12690235057718158767:Unit:=()
def tw9664933603296791664:Unit:=()
def tw8920302059400121299:Unit:=()
def tw8161342515489886153:Unit:=()
def tw2120553498367197201:Unit:=()
def tw8740410692376633336:Unit:=()
def tw393997807702222669:Unit:=()
def tw1754904624689545411:Unit:=()
def tw15007561498080438856:Unit:=()
def tw13688858774505628004:Unit:=()
def tw15341523172498884673:Unit:=()
def tw1638897014993313519:Unit:=()
def tw11087561899941915664:Unit:=()
def tw7230520116033787149:Unit:=()
def tw17846159667507261596:Unit:=()
def tw17121286353022153964:Unit:=()
def tw16019871212492143265:Unit:=()
def tw15019171434664054884:Unit:=()
def tw13095582428430980122:Unit:=()
def tw10173151647804804992:Unit:=()
def tw4642758304722008533:Unit:=()
def tw8435958134889339852:Unit:=()
def tw4907559886302954793:Unit:=()
def tw17457904904378131969:Unit:=()
def tw1313113369976539070:Unit:=()
def tw10881250130260627625:Unit:=()
def tw8165000110696831245:Unit:=()
def tw761998577862382660:Unit:=()
def tw622420558803369686:Unit:=()
def tw2412036950708976986:Unit:=()
def tw14455128942304964713:Unit:=()
def tw12178087002176598522:Unit:=()
def tw7390657368976885309:Unit:=()
def tw18063609919278199603:Unit:=()
def tw11752068433414563944:Unit:=()
def tw11532381571740430680:Unit:=()
def tw8267413365017398399:Unit:=()
def tw9468683469630377593:Unit:=()
def tw78599016934865863:Unit:=()
def tw5957613212307328677:Unit:=()
def tw5740288871207498083:Unit:=()
def tw12387616092754292979:Unit:=()
def tw1849303292153555627:Unit:=()
def tw16582548591883623251:Unit:=()
def tw14306745787308931135:Unit:=()
def tw1347318456515503654:Unit:=()
def tw4685094756622608869:Unit:=()
def tw12742476459491710849:Unit:=()
def tw596507975857435768:Unit:=()
def tw11768212033030883109:Unit:=()
def tw4585998365619046478:Unit:=()
def tw16887916203312432087:Unit:=()
def tw10072865496915408234:Unit:=()
def tw829795697126264595:Unit:=()
def tw2943278951963930756:Unit:=()
def tw15537922454182278420:Unit:=()
def tw15565073221550028617:Unit:=()
def tw15264385930486647530:Unit:=()
def tw10175906263984297394:Unit:=()
def tw4260777990240177452:Unit:=()
def tw3190072124316745070:Unit:=()
def tw1913521810183362609:Unit:=()
def tw15112498107644615023:Unit:=()
def tw17836941705917524751:Unit:=()
def tw10661190208545067570:Unit:=()
def tw13743895915227779914:Unit:=()
def tw2576576371781088901:Unit:=()
def tw517237294871779627:Unit:=()
def tw7486080143024820285:Unit:=()
def tw5332300424818826675:Unit:=()
def tw15587456597201807812:Unit:=()
def tw12171577835966314160:Unit:=()
def tw16993161374073401098:Unit:=()
def tw1822750288854800364:Unit:=()
def tw5016932876499075404:Unit:=()
def tw6380267355969794543:Unit:=()
def tw16716255603986964542:Unit:=()
def tw9504423582947200041:Unit:=()
def tw4850389856065929982:Unit:=()
def tw4643050267890081954:Unit:=()
def tw4506122533135455351:Unit:=()
def tw4345954820614048618:Unit:=()
def tw3938907996752314407:Unit:=()
def tw2231202788180972794:Unit:=()
def tw17315753007871579840:Unit:=()
def tw16571369234836839466:Unit:=()
def tw13368111527679685896:Unit:=()
def tw12838667324382620820:Unit:=()
def tw10450569813946812832:Unit:=()
def tw927191134422426898:Unit:=()
def tw8639762060807897641:Unit:=()
def tw7430422351155976499:Unit:=()
def tw489193611528250711:Unit:=()
def tw3343916546146998105:Unit:=()
def tw2032535125740204362:Unit:=()
def tw18278172430298522100:Unit:=()
def tw17560272867873521210:Unit:=()
def tw16903201324032068141:Unit:=()
def tw14469801819375627496:Unit:=()
def tw13515636487859875975:Unit:=()
def tw13494749454597024582:Unit:=()
def tw11227783179116189791:Unit:=()
def tw14553297293929823368:Unit:=()
def tw11198172136606886317:Unit:=()
def tw4857575175456808964:Unit:=()
def tw3557903335169405098:Unit:=()
def tw17526678795558051113:Unit:=()
def tw16524483256345971282:Unit:=()
def tw15874568836134570792:Unit:=()
def tw14194318273232456391:Unit:=()
def tw1187871283579731217:Unit:=()
def tw10643854321348644396:Unit:=()
def tw9875520810230377388:Unit:=()
def tw2980267896907739552:Unit:=()
def tw16283290033832043859:Unit:=()
def tw14853488278510887114:Unit:=()
def tw10157575713088478080:Unit:=()
def tw15623854218546418665:Unit:=()
def tw15124730791545133260:Unit:=()
def tw2958492790004351093:Unit:=()
def tw18379916226811135961:Unit:=()
def tw1620605781742975551:Unit:=()
def tw13733416557743360504:Unit:=()
def tw14392956905080484575:Unit:=()
def tw11126597772260423679:Unit:=()
def tw3511058459319690495:Unit:=()
def tw3283882617232255025:Unit:=()
def tw15397501358023850467:Unit:=()
def tw16922443984669493461:Unit:=()
def tw3908748407974705866:Unit:=()
def tw639680803613874649:Unit:=()
def tw589449548182460753:Unit:=()
def tw5391457631024325727:Unit:=()
def tw2194637404796141669:Unit:=()
def tw14795513207391838937:Unit:=()
def tw12636487576301997470:Unit:=()
def tw1063065442341867150:Unit:=()
def tw1344810830685536062:Unit:=()
def tw12204802482483277051:Unit:=()
def tw14010440370512635613:Unit:=()
def tw11459768432152119516:Unit:=()
def tw10697921711392006942:Unit:=()
def tw10433815109312330587:Unit:=()
def tw4934615785734797054:Unit:=()
def tw13411839930939394825:Unit:=()
def tw7369538086363604420:Unit:=()
def tw15155139778335918740:Unit:=()
def tw15888126761736873960:Unit:=()
def tw2530872261848235972:Unit:=()
def tw5320704079453820215:Unit:=()
def tw14512538130068813483:Unit:=()
def tw15594567688865463807:Unit:=()
def tw7734071086693063282:Unit:=()
def tw14166640166287547160:Unit:=()
def tw5038729609066381284:Unit:=()
def tw10430906796906260187:Unit:=()
def tw1370265127734480761:Unit:=()
def tw17818707756272454073:Unit:=()
def tw12181769812172443157:Unit:=()
def tw8558055651418229300:Unit:=()
def tw1378097288031392467:Unit:=()
def tw11778056085678401:Unit:=()
def tw690110762973446346:Unit:=()
def tw17735424296612090909:Unit:=()
def tw14992895471077432861:Unit:=()
def tw17760248567599743281:Unit:=()
def tw16178912718097542421:Unit:=()
def tw722903754737439969:Unit:=()
def tw274232254629152976:Unit:=()
def tw4265023370972514162:Unit:=()
def tw5509955232043151039:Unit:=()
def tw5622730791316567448:Unit:=()
def tw7262652900345889045:Unit:=()
def tw16577198892270123339:Unit:=()
def tw18142992322994355442:Unit:=()
def tw6917496489296427054:Unit:=()
def tw10268592505465021954:Unit:=()
def tw5018360839600777988:Unit:=()
def tw7983456889831094885:Unit:=()
def tw5084750608896123714:Unit:=()
def tw5023180081735716981:Unit:=()
def tw4598596026037628219:Unit:=()
def tw14968694310480212076:Unit:=()
def tw7570624444973600676:Unit:=()
def tw3284435117944155758:Unit:=()
def tw1520374928790758838:Unit:=()
def tw14913719589754336671:Unit:=()
def tw9994794480971781353:Unit:=()
def tw7501477537288041706:Unit:=()
def tw9900507318290101525:Unit:=()
def tw11641437435139187675:Unit:=()
def tw5360513119792765611:Unit:=()
def tw1139882878525687958:Unit:=()
def tw7825096255534441548:Unit:=()
def tw5047029691620805849:Unit:=()
def tw4180715163111788959:Unit:=()
def tw12909982462321508560:Unit:=()
def tw16475582286104765225:Unit:=()
def tw16025150325153269386:Unit:=()
def tw9211073651152980457:Unit:=()
def tw16973394071436396891:Unit:=()
def tw8871857777250348820:Unit:=()
def tw6780050264136074944:Unit:=()
def tw13290895663928808065:Unit:=()
def tw9397770263807789081:Unit:=()
def tw13600132712649606016:Unit:=()
def tw10643234325691256200:Unit:=()
def tw8489350138513889560:Unit:=()
def tw4282439995738928479:Unit:=()
def tw13929455203142736757:Unit:=()
def tw5590404707045571617:Unit:=()
def tw8046377429632521741:Unit:=()
def tw5808856160942367902:Unit:=()
def tw4016857585851243971:Unit:=()
def tw13990052079435438692:Unit:=()
def tw14996801387206904824:Unit:=()
def tw5155760961148153002:Unit:=()
def tw12004138070394211798:Unit:=()
def tw14709095317116678256:Unit:=()
def tw9092359567874218019:Unit:=()
def tw14981644900758225564:Unit:=()
def tw1937950023504730293:Unit:=()
def tw11104588661565431311:Unit:=()
def tw8022619962847375710:Unit:=()
def tw7698639347531060202:Unit:=()
def tw8467269918780188345:Unit:=()
def tw2256292853175947891:Unit:=()
def tw2200711344834133400:Unit:=()
def tw16627435744949739517:Unit:=()
def tw12997198669467725254:Unit:=()
def tw10135335278355783331:Unit:=()
def tw6769302217651200287:Unit:=()
def tw8404315684420473002:Unit:=()
def tw4605858337890863069:Unit:=()
def tw6014312466439286634:Unit:=()
def tw3087050074231099199:Unit:=()
def tw9832940759652504592:Unit:=()
def tw9423639573359788871:Unit:=()
def tw12762687436498518026:Unit:=()
def tw9181413299159408673:Unit:=()
def tw5595696258586831173:Unit:=()
def tw17845453830557882178:Unit:=()
def tw17053446098893762286:Unit:=()
def tw13481124177610796524:Unit:=()
def tw20961352313217940:Unit:=()
def tw13258219137662096544:Unit:=()
def tw9111023103511207733:Unit:=()
def tw8873506954529754021:Unit:=()
def tw8435175690798391213:Unit:=()
def tw1364295004355362739:Unit:=()
def tw27529181133507833:Unit:=()
def tw14583107977406870913:Unit:=()
def tw12303100030372165458:Unit:=()
def tw5743062101298269690:Unit:=()
def tw15914169806915439487:Unit:=()
def tw17004921603225026042:Unit:=()
def tw14741862310454168605:Unit:=()
def tw7156709284810476247:Unit:=()
def tw14793633998273891027:Unit:=()
def tw4470389926681068584:Unit:=()
def tw5437868566653325977:Unit:=()
def tw13898527268472210435:Unit:=()
def tw15080651145596397101:Unit:=()
def tw15924811994434851375:Unit:=()
def tw3291460412379370294:Unit:=()
def tw10680717980817875285:Unit:=()
def tw4103763198136480238:Unit:=()
def tw9132770396149387401:Unit:=()
def tw2678493238881450975:Unit:=()
def tw15709226362368459770:Unit:=()
def tw14343020940234609543:Unit:=()
def tw17755262514995733111:Unit:=()
def tw12616886635024286257:Unit:=()
def tw13589277952947317047:Unit:=()
def tw585433221814576722:Unit:=()
def tw7461086616127572063:Unit:=()
def tw11149771567214446879:Unit:=()
def tw15437228992418308417:Unit:=()
def tw2186644315666880565:Unit:=()
def tw6030818173821095314:Unit:=()
def tw9347400540521585613:Unit:=()
def tw15354894261606062489:Unit:=()
def tw14231635582562286369:Unit:=()
def tw11143306556722683989:Unit:=()
def tw9783063298851215944:Unit:=()
def tw6281899915604373613:Unit:=()
def tw4795758350019342445:Unit:=()
end PySem.W.Fast
namespace K39
open PySem L2 PyProof.Rows
abbrev fY(K:acF)(s:String)(a:Addr):Prop:=afj K mainGlobals s=some (some (.ref a))
theorem adl{K:acF}{h:Heap}{mg:Str->Option Value}(X:K.In h)(G:h.Ns mainGlobals mg){f0 f1 f2 f3 f4 f5 f6 f7 f8 f9 f10 f11 f12 f13 f14 f15 f16 f17 f18 f19 f20 f21 f22 f23 f24 f25 f26 f27 f28 f29 f30 f31 f32 f33 f34 f35 f36 f37 f38 f39 f40 f41 f42 f43 f44 f45 f46 f47 C0 C1 C2 C3 C4 C5 C6 C7 C8 C9 C10 C11 C12 C13 C14 C15 C16 C17 C18 C19 C20 C21 C22 C23 C24 C25 C26 fi0 fo0 fo1 Kz fo3 fo4 Z4 ZK fo7 fo8 fo9 YH Yq Xh PL Zt YB:Addr}{od0 an0 od1 an1 od2 an2 od3 an3 od4 an4 od5 an5 od6 an6 od7 an7 od8 an8 od9 an9 alg atP axn akP alE asy ame alx ari avu axx avw awI ayt axb avx av7 aop apu aty anA ayc aue amh ath aqZ aqV aw7 arL anK ass amR awo apf avM atl aoB asw amK apJ aqQ auQ apT axG atx arG au7 aw0 ap3 atM ale aub apC ar5 auh alz anl alH amS aye apr aoE alb arP aqt axV am6 axY ap0 avd avr auE atO ap2 aqO aqs asv ao5 alm art am1 auR aqm alZ aqB akU atm arE aqK aoH aoK aqP auV akX akV asm aph ata ahF ajQ ag3 agn ahG ai3 ag7 aju aiq afR ahf afU:Option Addr}{sl0 sl1 sl2 sl3 sl4 sl5 sl6 sl7 sl8 sl9 amV asa apc avR auO al3 aqW asC axK arl amu atE ak0 atZ aur arx akO al2 auI axy awR akY ax4 anN amd anm atn asL aqf arh arc ao8 axd apv alf axj alA aqH atr awT ak9 ao3 anL aoQ auM atu au4 amX arU aiA ajR aij ajK aeM aip:Array (Option Value)}{oc0 kV0 dc0 pm0 cd0 ct0 oc1 kV1 dc1 pm1 cd1 ct1 oc2 kV2 dc2 pm2 cd2 ct2 oc3 kV3 dc3 pm3 cd3 ct3 oc4 kV4 dc4 pm4 cd4 ct4 oc5 kV5 dc5 pm5 cd5 ct5 oc6 kV6 dc6 pm6 cd6 ct6 oc7 kV7 dc7 pm7 cd7 ct7 oc8 kV8 dc8 pm8 cd8 ct8 oc9 kV9 dc9 pm9 cd9 ct9 acB ant alh alX afE amc aef al7 awO alU ahk ayd adR av2 aqp anP ajz axo R3 atA avt aw5 ahd ang abo amo au0 aoz ae6 atf acr awt aoG apD ajr anD als asx au1 aoA ai8 axX apE anj aw9 ayn afv anF awv aud axw axp agW amQ apb axe aou arA af4 awq ara apx ak2 aqU aiO axi awN axr awa aqh afI anv alk aqb apa aqj afB alT alq ak3 aoM awL ahW anf ano apY as7 ayp aiG arK awb amv anG asO aiM ar6 axN awe at7 akQ aiT alY aoD al5 alF akR afF aqT aqA atz aql apd ahw asQ amk anB axW ar8 ajL atd av0 as3 aqy anz ai2 awy axl ao9 anO amC afy arb aqn ao7 asV aya ahA alr amY alB atH amD agV asz aos asp auG avX afl ax2 aui atj anY aor aiS awS alc anM ati axF aiZ av5 amU ar9 avf amJ af7 alP awV awc asS amr aeY awk aw2 apt al1 ave agp awK aqv am3 as4 axZ agH axL ayk alS aoV awQ ae1 aot apw aqG avv auP afG aqg arn auz ayr alJ ahS awU aob ap4 ayf atv agg auW ava api alu arH ajt arO ars avQ arp aoZ ah9 alM aul av1 akZ aoo ai7 aqe arV as6 apF aqF ag0 apB ana apU aoI amA agO au5 axP auf avb avG ai1 akS avj arJ apK apM ah7 aoU atp ao6 apy anJ aho aoS aoe ard aoT axu agZ aw3 apV aqX aoR anh afQ awZ avz au6 as9 awd aie arM auy avV apQ avY ag1 ax6 auj auN arC avn af9 awr asd apk aqk av8 aja avC ajm aiV aio ahB ZZ ai4 af5 aib agF ahU aaw ai0 ajE ahX aih agr aau agx ahM aeV aiu ajs aao aiH agt aiJ aix ahv aab aeR aiz afi af8 ae0 aax aeS:Value}{t0 t1 t2 t3 t4 t5 t6 t7 t8 t9 t10 t11 t12 t13 t14 t15 t16 t17 t18 t19 t20 t21 t22 t23 t24 t25 t26 t27 t28 t29 t30 t31 t32 t33 t34 t35 t36:Tok}
  (aq0:fY K "_wall" f0)
  (lq0:K.lookup f0=some ⟨oc0,od0,.func (aeI "_wall" "_wall" (aK vA) (az vA) (aa vA) .none kV0 dc0 pm0 an0 cd0 ct0),sl0⟩)
  (cq0:aeq K cd0 "_wall"=true)
  (kq0:ab8 K (.ref f0)=true)
  (aq1:fY K "check_of" f1)
  (lq1:K.lookup f1=some ⟨oc1,od1,.func (aeI "check_of" "check_of" (aK iT) (az iT) (aa iT) .none kV1 dc1 pm1 an1 cd1 ct1),sl1⟩)
  (cq1:aeq K cd1 "check_of"=true)
  (kq1:ab8 K (.ref f1)=true)
  (aq2:fY K "check_word" f2)
  (lq2:K.lookup f2=some ⟨oc2,od2,.func (aeI "check_word" "check_word" (aK fK) (az fK) (aa fK) .none kV2 dc2 pm2 an2 cd2 ct2),sl2⟩)
  (cq2:aeq K cd2 "check_word"=true)
  (kq2:ab8 K (.ref f2)=true)
  (aq3:fY K "made_of" f3)
  (lq3:K.lookup f3=some ⟨oc3,od3,.func (aeI "made_of" "made_of" (aK jf) (az jf) (aa jf) .none kV3 dc3 pm3 an3 cd3 ct3),sl3⟩)
  (cq3:aeq K cd3 "made_of"=true)
  (kq3:ab8 K (.ref f3)=true)
  (aq4:fY K "is_text_value" f4)
  (lq4:K.lookup f4=some ⟨oc4,od4,.func (aeI "is_text_value" "is_text_value" (aK cX) (az cX) (aa cX) .none kV4 dc4 pm4 an4 cd4 ct4),sl4⟩)
  (cq4:aeq K cd4 "is_text_value"=true)
  (kq4:ab8 K (.ref f4)=true)
  (aq5:fY K "are_figures" f5)
  (lq5:K.lookup f5=some ⟨oc5,od5,.func (aeI "are_figures" "are_figures" (aK dZ) (az dZ) (aa dZ) .none kV5 dc5 pm5 an5 cd5 ct5),sl5⟩)
  (cq5:aeq K cd5 "are_figures"=true)
  (kq5:ab8 K (.ref f5)=true)
  (aq6:fY K "read_figures" f6)
  (lq6:K.lookup f6=some ⟨oc6,od6,.func (aeI "read_figures" "read_figures" (aK cL) (az cL) (aa cL) .none kV6 dc6 pm6 an6 cd6 ct6),sl6⟩)
  (cq6:aeq K cd6 "read_figures"=true)
  (kq6:ab8 K (.ref f6)=true)
  (aq7:fY K "read_number_word" f7)
  (lq7:K.lookup f7=some ⟨oc7,od7,.func (aeI "read_number_word" "read_number_word" (aK bM) (az bM) (aa bM) .none kV7 dc7 pm7 an7 cd7 ct7),sl7⟩)
  (cq7:aeq K cd7 "read_number_word"=true)
  (kq7:ab8 K (.ref f7)=true)
  (aq8:fY K "read_text_word" f8)
  (lq8:K.lookup f8=some ⟨oc8,od8,.func (aeI "read_text_word" "read_text_word" (aK bU) (az bU) (aa bU) .none kV8 dc8 pm8 an8 cd8 ct8),sl8⟩)
  (cq8:aeq K cd8 "read_text_word"=true)
  (kq8:ab8 K (.ref f8)=true)
  (aq9:fY K "read_value" f9)
  (lq9:K.lookup f9=some ⟨oc9,od9,.func (aeI "read_value" "read_value" (aK fD) (az fD) (aa fD) .none kV9 dc9 pm9 an9 cd9 ct9),sl9⟩)
  (cq9:aeq K cd9 "read_value"=true)
  (kq9:ab8 K (.ref f9)=true)
  (aow:fY K "read_values" f10)
  (ap5:K.lookup f10=some ⟨acB,alg,.func (aeI "read_values" "read_values" (aK cU) (az cU) (aa cU) .none ant alh alX atP afE amc),amV⟩)
  (alC:aeq K afE "read_values"=true)
  (atw:ab8 K (.ref f10)=true)
  (avL:fY K "place_of" f11)
  (aoP:K.lookup f11=some ⟨aef,axn,.func (aeI "place_of" "place_of" (aK iR) (az iR) (aa iR) .none al7 awO alU akP ahk ayd),asa⟩)
  (axT:aeq K ahk "place_of"=true)
  (avB:ab8 K (.ref f11)=true)
  (aoq:fY K "read_order_word" f12)
  (alG:K.lookup f12=some ⟨adR,alE,.func (aeI "read_order_word" "read_order_word" (aK cJ) (az cJ) (aa cJ) .none av2 aqp anP asy ajz axo),apc⟩)
  (auB:aeq K ajz "read_order_word"=true)
  (ate:ab8 K (.ref f12)=true)
  (auC:fY K "read_order" f13)
  (aoi:K.lookup f13=some ⟨R3,ame,.func (aeI "read_order" "read_order" (aK cI) (az cI) (aa cI) .none atA avt aw5 alx ahd ang),avR⟩)
  (asD:aeq K ahd "read_order"=true)
  (alW:ab8 K (.ref f13)=true)
  (at6:fY K "word_at" f14)
  (ayo:K.lookup f14=some ⟨abo,ari,.func (aeI "word_at" "word_at" (aK eV) (az eV) (aa eV) .none amo au0 aoz avu ae6 atf),auO⟩)
  (alI:aeq K ae6 "word_at"=true)
  (asG:ab8 K (.ref f14)=true)
  (anH:fY K "text_between" f15)
  (avD:K.lookup f15=some ⟨acr,axx,.func (aeI "text_between" "text_between" (aK dq) (az dq) (aa dq) .none awt aoG apD avw ajr anD),al3⟩)
  (apg:aeq K ajr "text_between"=true)
  (axm:ab8 K (.ref f15)=true)
  (avN:fY K "read_column" f16)
  (amb:K.lookup f16=some ⟨als,awI,.func (aeI "read_column" "read_column" (aK d8) (az d8) (aa d8) .none asx au1 aoA ayt ai8 axX),aqW⟩)
  (aoO:aeq K ai8 "read_column"=true)
  (awf:ab8 K (.ref f16)=true)
  (aqa:fY K "read_word" f17)
  (amI:K.lookup f17=some ⟨apE,axb,.func (aeI "read_word" "read_word" (aK ik) (az ik) (aa ik) .none anj aw9 ayn avx afv anF),asC⟩)
  (anE:aeq K afv "read_word"=true)
  (avm:ab8 K (.ref f17)=true)
  (avp:fY K "read_none" f18)
  (aw1:K.lookup f18=some ⟨awv,av7,.func (aeI "read_none" "read_none" (aK gP) (az gP) (aa gP) .none aud axw axp aop agW amQ),axK⟩)
  (arW:aeq K agW "read_none"=true)
  (atL:ab8 K (.ref f18)=true)
  (aqr:fY K "read_of_value" f19)
  (anR:K.lookup f19=some ⟨apb,apu,.func (aeI "read_of_value" "read_of_value" (aK cC) (az cC) (aa cC) .none axe aou arA aty af4 awq),arl⟩)
  (axR:aeq K af4 "read_of_value"=true)
  (aqi:ab8 K (.ref f19)=true)
  (avc:fY K "read_of_sieves" f20)
  (avi:K.lookup f20=some ⟨ara,anA,.func (aeI "read_of_sieves" "read_of_sieves" (aK cP) (az cP) (aa cP) .none apx ak2 aqU ayc aiO axi),amu⟩)
  (alv:aeq K aiO "read_of_sieves"=true)
  (axI:ab8 K (.ref f20)=true)
  (aox:fY K "read_part" f21)
  (amG:K.lookup f21=some ⟨awN,aue,.func (aeI "read_part" "read_part" (aK gF) (az gF) (aa gF) .none axr awa aqh amh afI anv),atE⟩)
  (arj:aeq K afI "read_part"=true)
  (awW:ab8 K (.ref f21)=true)
  (awi:fY K "read_sieve" f22)
  (aqR:K.lookup f22=some ⟨alk,ath,.func (aeI "read_sieve" "read_sieve" (aK fH) (az fH) (aa fH) .none aqb apa aqj aqZ afB alT),ak0⟩)
  (auv:aeq K afB "read_sieve"=true)
  (ato:ab8 K (.ref f22)=true)
  (ak4:fY K "read_make" f23)
  (amE:K.lookup f23=some ⟨alq,aqV,.func (aeI "read_make" "read_make" (aK gD) (az gD) (aa gD) .none ak3 aoM awL aw7 ahW anf),atZ⟩)
  (awp:aeq K ahW "read_make"=true)
  (arZ:ab8 K (.ref f23)=true)
  (arX:fY K "read_whole" f24)
  (axa:K.lookup f24=some ⟨ano,arL,.func (aeI "read_whole" "read_whole" (aK fO) (az fO) (aa fO) .none apY as7 ayp anK aiG arK),aur⟩)
  (alL:aeq K aiG "read_whole"=true)
  (avo:ab8 K (.ref f24)=true)
  (amn:fY K "read_side" f25)
  (ayi:K.lookup f25=some ⟨awb,ass,.func (aeI "read_side" "read_side" (aK ie) (az ie) (aa ie) .none amv anG asO amR aiM ar6),arx⟩)
  (axB:aeq K aiM "read_side"=true)
  (asu:ab8 K (.ref f25)=true)
  (arN:fY K "read_cut" f26)
  (asi:K.lookup f26=some ⟨axN,awo,.func (aeI "read_cut" "read_cut" (aK fM) (az fM) (aa fM) .none awe at7 akQ apf aiT alY),akO⟩)
  (aqo:aeq K aiT "read_cut"=true)
  (apL:ab8 K (.ref f26)=true)
  (auU:fY K "read_body" f27)
  (ala:K.lookup f27=some ⟨aoD,avM,.func (aeI "read_body" "read_body" (aK gZ) (az gZ) (aa gZ) .none al5 alF akR atl afF aqT),al2⟩)
  (alo:aeq K afF "read_body"=true)
  (amf:ab8 K (.ref f27)=true)
  (amH:fY K "read_mark" f28)
  (apI:K.lookup f28=some ⟨aqA,aoB,.func (aeI "read_mark" "read_mark" (aK gG) (az gG) (aa gG) .none atz aql apd asw ahw asQ),auI⟩)
  (axh:aeq K ahw "read_mark"=true)
  (avZ:ab8 K (.ref f28)=true)
  (awE:fY K "_law_draw" f29)
  (atJ:K.lookup f29=some ⟨amk,amK,.func (aeI "_law_draw" "_law_draw" (aK gM) (az gM) (aa gM) .none anB axW ar8 apJ ajL atd),axy⟩)
  (aqC:aeq K ajL "_law_draw"=true)
  (aw8:ab8 K (.ref f29)=true)
  (aok:fY K "_law_columns" f30)
  (awF:K.lookup f30=some ⟨av0,aqQ,.func (aeI "_law_columns" "_law_columns" (aK cV) (az cV) (aa cV) .none as3 aqy anz auQ ai2 awy),awR⟩)
  (auo:aeq K ai2 "_law_columns"=true)
  (aua:ab8 K (.ref f30)=true)
  (ayq:fY K "_law_value" f31)
  (alV:K.lookup f31=some ⟨axl,apT,.func (aeI "_law_value" "_law_value" (aK cT) (az cT) (aa cT) .none ao9 anO amC axG afy arb),akY⟩)
  (atk:aeq K afy "_law_value"=true)
  (amZ:ab8 K (.ref f31)=true)
  (av9:fY K "_law_values" f32)
  (atY:K.lookup f32=some ⟨aqn,atx,.func (aeI "_law_values" "_law_values" (aK dh) (az dh) (aa dh) .none ao7 asV aya arG ahA alr),ax4⟩)
  (avW:aeq K ahA "_law_values"=true)
  (arf:ab8 K (.ref f32)=true)
  (avS:fY K "_law_order" f33)
  (ax3:K.lookup f33=some ⟨amY,au7,.func (aeI "_law_order" "_law_order" (aK dJ) (az dJ) (aa dJ) .none alB atH amD aw0 agV asz),anN⟩)
  (avI:aeq K agV "_law_order"=true)
  (ayl:ab8 K (.ref f33)=true)
  (ams:fY K "_law_key" f34)
  (apl:K.lookup f34=some ⟨aos,ap3,.func (aeI "_law_key" "_law_key" (aK fJ) (az fJ) (aa fJ) .none asp auG avX atM afl ax2),amd⟩)
  (apj:aeq K afl "_law_key"=true)
  (auF:ab8 K (.ref f34)=true)
  (atG:fY K "_law_word" f35)
  (aoW:K.lookup f35=some ⟨aui,ale,.func (aeI "_law_word" "_law_word" (aK il) (az il) (aa il) .none atj anY aor aub aiS awS),anm⟩)
  (apR:aeq K aiS "_law_word"=true)
  (aru:ab8 K (.ref f35)=true)
  (asf:fY K "_law_look" f36)
  (asA:K.lookup f36=some ⟨alc,apC,.func (aeI "_law_look" "_law_look" (aK dO) (az dO) (aa dO) .none anM ati axF ar5 aiZ av5),atn⟩)
  (amy:aeq K aiZ "_law_look"=true)
  (ax1:ab8 K (.ref f36)=true)
  (atB:fY K "_law_sieve" f37)
  (axt:K.lookup f37=some ⟨amU,auh,.func (aeI "_law_sieve" "_law_sieve" (aK fG) (az fG) (aa fG) .none ar9 avf amJ alz af7 alP),asL⟩)
  (auZ:aeq K af7 "_law_sieve"=true)
  (awm:ab8 K (.ref f37)=true)
  (asB:fY K "_law_mark" f38)
  (ak6:K.lookup f38=some ⟨awV,anl,.func (aeI "_law_mark" "_law_mark" (aK gY) (az gY) (aa gY) .none awc asS amr alH aeY awk),aqf⟩)
  (asW:aeq K aeY "_law_mark"=true)
  (aoC:ab8 K (.ref f38)=true)
  (anS:fY K "_law_body" f39)
  (aqN:K.lookup f39=some ⟨aw2,amS,.func (aeI "_law_body" "_law_body" (aK di) (az di) (aa di) .none apt al1 ave aye agp awK),arh⟩)
  (amj:aeq K agp "_law_body"=true)
  (alN:ab8 K (.ref f39)=true)
  (awC:fY K "_law_checked" f40)
  (as5:K.lookup f40=some ⟨aqv,apr,.func (aeI "_law_checked" "_law_checked" (aK du) (az du) (aa du) .none am3 as4 axZ aoE agH axL),arc⟩)
  (axS:aeq K agH "_law_checked"=true)
  (al0:ab8 K (.ref f40)=true)
  (amx:fY K "_law_refused" f41)
  (auw:K.lookup f41=some ⟨ayk,alb,.func (aeI "_law_refused" "_law_refused" (aK dj) (az dj) (aa dj) .none alS aoV awQ arP ae1 aot),ao8⟩)
  (avA:aeq K ae1 "_law_refused"=true)
  (arB:ab8 K (.ref f41)=true)
  (anT:fY K "_law_order_bent" f42)
  (am2:K.lookup f42=some ⟨apw,aqt,.func (aeI "_law_order_bent" "_law_order_bent" (aK cH) (az cH) (aa cH) .none aqG avv auP axV afG aqg),axd⟩)
  (arF:aeq K afG "_law_order_bent"=true)
  (asI:ab8 K (.ref f42)=true)
  (apq:fY K "_law_sieve_bent" f43)
  (ak1:K.lookup f43=some ⟨arn,am6,.func (aeI "_law_sieve_bent" "_law_sieve_bent" (aK cF) (az cF) (aa cF) .none auz ayr alJ axY ahS awU),apv⟩)
  (axH:aeq K ahS "_law_sieve_bent"=true)
  (aso:ab8 K (.ref f43)=true)
  (as8:fY K "_law_whole_bent" f44)
  (anV:K.lookup f44=some ⟨aob,ap0,.func (aeI "_law_whole_bent" "_law_whole_bent" (aK bN) (az bN) (aa bN) .none ap4 ayf atv avd agg auW),alf⟩)
  (axJ:aeq K agg "_law_whole_bent"=true)
  (asT:ab8 K (.ref f44)=true)
  (asJ:fY K "_law_cut_bent" f45)
  (al4:K.lookup f45=some ⟨ava,avr,.func (aeI "_law_cut_bent" "_law_cut_bent" (aK bQ) (az bQ) (aa bQ) .none api alu arH auE ajt arO),axj⟩)
  (ami:aeq K ajt "_law_cut_bent"=true)
  (aoN:ab8 K (.ref f45)=true)
  (awH:fY K "_law_bent" f46)
  (au8:K.lookup f46=some ⟨ars,atO,.func (aeI "_law_bent" "_law_bent" (aK dI) (az dI) (aa dI) .none avQ arp aoZ ap2 ah9 alM),alA⟩)
  (aof:aeq K ah9 "_law_bent"=true)
  (apW:ab8 K (.ref f46)=true)
  (axg:fY K "law" f47)
  (asj:K.lookup f47=some ⟨aul,aqO,.func (aeI "law" "law" (aK m8) (az m8) (aa m8) .none av1 akZ aoo aqs ai7 aqe),aqH⟩)
  (anQ:aeq K ai7 "law"=true)
  (awh:ab8 K (.ref f47)=true)
  (gq0:afj K mainGlobals "BASE"=some (some (.int 137 t0)))
  (gq1:afj K mainGlobals "REST_BY"=some (some (.int 9973 t1)))
  (gq2:afj K mainGlobals "FIGURES_OF_CHECK"=some (some (.int 4 t2)))
  (gq3:afj K mainGlobals "NUMBER"=some (some (.str "number" t3)))
  (gq4:afj K mainGlobals "TEXT"=some (some (.str "text" t4)))
  (gq5:afj K mainGlobals "FIGURES"=some (some (.str "0123456789" t5)))
  (gq6:afj K mainGlobals "TEXT_SIGNS"=some (some (.str "abcdefghijklmnopqrstuvwxyz0123456789-" t6)))
  (gq7:afj K mainGlobals "LARGEST"=some (some (.int 1000000000000000000 t7)))
  (gq8:afj K mainGlobals "LONGEST"=some (some (.int 20 t8)))
  (gq9:afj K mainGlobals "NONE_WORD"=some (some (.str "?" t9)))
  (avl:afj K mainGlobals "TEXT_AHEAD"=some (some (.str "'" t10)))
  (axf:afj K mainGlobals "BELOW_AHEAD"=some (some (.str "-" t11)))
  (aqw:afj K mainGlobals "LARGEST_ROW"=some (some (.int 1000000000 t12)))
  (axk:afj K mainGlobals "MOST_IN_ORDER"=some (some (.int 4 t13)))
  (atF:afj K mainGlobals "UP_AHEAD"=some (some (.str "+" t14)))
  (aqI:afj K mainGlobals "DOWN_AHEAD"=some (some (.str "-" t15)))
  (awj:afj K mainGlobals "AHEAD"=some (some (.str "ahead" t16)))
  (anu:afj K mainGlobals "BEHIND"=some (some (.str "behind" t17)))
  (avH:afj K mainGlobals "MOST_WORDS"=some (some (.int 60 t18)))
  (arq:afj K mainGlobals "MOST_WITHIN"=some (some (.int 20 t19)))
  (awD:afj K mainGlobals "ALL"=some (some (.str "all" t20)))
  (aoY:afj K mainGlobals "NONE"=some (some (.str "none" t21)))
  (akT:afj K mainGlobals "IS"=some (some (.str "is" t22)))
  (atV:afj K mainGlobals "UNDER"=some (some (.str "under" t23)))
  (aoL:afj K mainGlobals "OVER"=some (some (.str "over" t24)))
  (ax7:afj K mainGlobals "HOLDS"=some (some (.str "holds" t25)))
  (asb:afj K mainGlobals "NOT"=some (some (.str "not" t26)))
  (ax9:afj K mainGlobals "BOTH"=some (some (.str "both" t27)))
  (apm:afj K mainGlobals "EITHER"=some (some (.str "either" t28)))
  (atR:afj K mainGlobals "LIVING"=some (some (.str "living" t29)))
  (ayh:afj K mainGlobals "STILL"=some (some (.str "still" t30)))
  (aus:afj K mainGlobals "LATEST"=some (some (.int 5000 t31)))
  (ax0:afj K mainGlobals "PARTS"=some (some (.int 5 t32)))
  (amO:afj K mainGlobals "PARTING"=some (some (.str "/" t33)))
  (aoj:afj K mainGlobals "STOP"=some (some (.str "." t34)))
  (aml:afj K mainGlobals "AHEAD_SIGN"=some (some (.str "<" t35)))
  (anU:afj K mainGlobals "BEHIND_SIGN"=some (some (.str ">" t36)))
  (zq0:afj K mainGlobals "ValueError"=some none)
  (zq1:afj K mainGlobals "all"=some none)
  (zq2:afj K mainGlobals "enumerate"=some none)
  (zq3:afj K mainGlobals "int"=some none)
  (zq4:afj K mainGlobals "isinstance"=some none)
  (zq5:afj K mainGlobals "len"=some none)
  (zq6:afj K mainGlobals "list"=some none)
  (zq7:afj K mainGlobals "min"=some none)
  (zq8:afj K mainGlobals "ord"=some none)
  (zq9:afj K mainGlobals "range"=some none)
  (awB:afj K mainGlobals "reversed"=some none)
  (avJ:afj K mainGlobals "set"=some none)
  (anp:afj K mainGlobals "str"=some none)
  (amW:afj K mainGlobals "zip"=some none)
  (Ga:fY K "LeafError" C0)
  (xq1:fY K "NoColumns" C1)
  (xq2:fY K "NoValue" C2)
  (xq3:fY K "NoOrder" C3)
  (xq4:fY K "NoRow" C4)
  (xq5:fY K "NoMark" C5)
  (xq6:fY K "NoSize" C6)
  (xq7:fY K "NoLine" C7)
  (xq8:fY K "NoBook" C8)
  (xq9:fY K "NoSieve" C9)
  (ab9:fY K "NoPage" C10)
  (acs:fY K "Twice" C11)
  (adk:fY K "Absent" C12)
  (aet:fY K "Gone" C13)
  (ac5:fY K "Later" C14)
  (Jm:fY K "Sieve" C15)
  (Rm:fY K "AllSieve" C16)
  (Jj:fY K "NoneSieve" C17)
  (Fb:fY K "ValueSieve" C18)
  (Du:fY K "IsSieve" C19)
  (Fd:fY K "UnderSieve" C20)
  (DK:fY K "OverSieve" C21)
  (FQ:fY K "HoldsSieve" C22)
  (KD:fY K "NotSieve" C23)
  (Hy:fY K "PairSieve" C24)
  (GF:fY K "BothSieve" C25)
  (GR:fY K "EitherSieve" C26)
  (yq0:arY K C2 IK "ValueError.__new__"=true)
  (yq1:arY K C5 IK "ValueError.__new__"=true)
  (yq2:arY K C3 IK "ValueError.__new__"=true)
  (bt0:am0 K C0 (.type "type")=true)
  (bt1:am5 K (.ref C0) (.type "type") "__init__"=some (.val (.builtin "ValueError.__init__")))
  (bt2:aeJ K (.ref C0) "__getattribute__"=some (some (.builtin "type.__getattribute__")))
  (bt3:ahn K (.ref C0)=some (.type "type"))
  (bt4:aeL K C0 (.type "BaseException")=some true)
  (wr0:oA K C1 C0=true)
  (ajy:ahn K (.ref C1)=some (.type "type"))
  (age:aeD K C1=true)
  (afX:aat K (.ref C1) "__getattribute__"=some (some (.builtin "BaseException.__getattribute__")))
  (ajI:aat K (.ref C1) "__getattr__"=some none)
  (agC:aat K (.ref C1) "__class__"=some (some (.builtin "object.__class__")))
  (aii:aeJ K (.builtin "object.__class__") "__get__"=some (some (.builtin "getset_descriptor.__get__")))
  (agb:aim K (.builtin "object.__class__")=some true)
  (afc:aeL K C1 (.type "object")=some true)
  (ahy:aeL K C1 (.type "BaseException")=some true)
  (wr1:oA K C2 C0=true)
  (aj1:ahn K (.ref C2)=some (.type "type"))
  (ah3:aeD K C2=true)
  (ajZ:aat K (.ref C2) "__getattribute__"=some (some (.builtin "BaseException.__getattribute__")))
  (aj0:aat K (.ref C2) "__getattr__"=some none)
  (afa:aat K (.ref C2) "__class__"=some (some (.builtin "object.__class__")))
  (ajc:aeJ K (.builtin "object.__class__") "__get__"=some (some (.builtin "getset_descriptor.__get__")))
  (ahr:aim K (.builtin "object.__class__")=some true)
  (agl:aeL K C2 (.type "object")=some true)
  (ae5:aeL K C2 (.type "BaseException")=some true)
  (wr2:oA K C3 C0=true)
  (afK:ahn K (.ref C3)=some (.type "type"))
  (agI:aeD K C3=true)
  (afA:aat K (.ref C3) "__getattribute__"=some (some (.builtin "BaseException.__getattribute__")))
  (aiv:aat K (.ref C3) "__getattr__"=some none)
  (af2:aat K (.ref C3) "__class__"=some (some (.builtin "object.__class__")))
  (ahi:aeJ K (.builtin "object.__class__") "__get__"=some (some (.builtin "getset_descriptor.__get__")))
  (aeU:aim K (.builtin "object.__class__")=some true)
  (ahx:aeL K C3 (.type "object")=some true)
  (ahe:aeL K C3 (.type "BaseException")=some true)
  (wr3:oA K C4 C0=true)
  (ahI:ahn K (.ref C4)=some (.type "type"))
  (agv:aeD K C4=true)
  (ain:aat K (.ref C4) "__getattribute__"=some (some (.builtin "BaseException.__getattribute__")))
  (ahQ:aat K (.ref C4) "__getattr__"=some none)
  (aif:aat K (.ref C4) "__class__"=some (some (.builtin "object.__class__")))
  (ah8:aeJ K (.builtin "object.__class__") "__get__"=some (some (.builtin "getset_descriptor.__get__")))
  (aiR:aim K (.builtin "object.__class__")=some true)
  (aiC:aeL K C4 (.type "object")=some true)
  (agf:aeL K C4 (.type "BaseException")=some true)
  (wr4:oA K C5 C0=true)
  (ajg:ahn K (.ref C5)=some (.type "type"))
  (ajM:aeD K C5=true)
  (aiW:aat K (.ref C5) "__getattribute__"=some (some (.builtin "BaseException.__getattribute__")))
  (agX:aat K (.ref C5) "__getattr__"=some none)
  (af6:aat K (.ref C5) "__class__"=some (some (.builtin "object.__class__")))
  (ae7:aeJ K (.builtin "object.__class__") "__get__"=some (some (.builtin "getset_descriptor.__get__")))
  (ahD:aim K (.builtin "object.__class__")=some true)
  (ahh:aeL K C5 (.type "object")=some true)
  (ajk:aeL K C5 (.type "BaseException")=some true)
  (wr5:oA K C6 C0=true)
  (afC:ahn K (.ref C6)=some (.type "type"))
  (afZ:aeD K C6=true)
  (agU:aat K (.ref C6) "__getattribute__"=some (some (.builtin "BaseException.__getattribute__")))
  (ag6:aat K (.ref C6) "__getattr__"=some none)
  (ah2:aat K (.ref C6) "__class__"=some (some (.builtin "object.__class__")))
  (ajl:aeJ K (.builtin "object.__class__") "__get__"=some (some (.builtin "getset_descriptor.__get__")))
  (ag8:aim K (.builtin "object.__class__")=some true)
  (afb:aeL K C6 (.type "object")=some true)
  (ahb:aeL K C6 (.type "BaseException")=some true)
  (wr6:oA K C7 C0=true)
  (aiK:ahn K (.ref C7)=some (.type "type"))
  (ahL:aeD K C7=true)
  (afw:aat K (.ref C7) "__getattribute__"=some (some (.builtin "BaseException.__getattribute__")))
  (ah6:aat K (.ref C7) "__getattr__"=some none)
  (ae9:aat K (.ref C7) "__class__"=some (some (.builtin "object.__class__")))
  (ahT:aeJ K (.builtin "object.__class__") "__get__"=some (some (.builtin "getset_descriptor.__get__")))
  (ajn:aim K (.builtin "object.__class__")=some true)
  (agy:aeL K C7 (.type "object")=some true)
  (agG:aeL K C7 (.type "BaseException")=some true)
  (wr7:oA K C8 C0=true)
  (afz:ahn K (.ref C8)=some (.type "type"))
  (ai9:aeD K C8=true)
  (ahH:aat K (.ref C8) "__getattribute__"=some (some (.builtin "BaseException.__getattribute__")))
  (aeZ:aat K (.ref C8) "__getattr__"=some none)
  (aik:aat K (.ref C8) "__class__"=some (some (.builtin "object.__class__")))
  (aid:aeJ K (.builtin "object.__class__") "__get__"=some (some (.builtin "getset_descriptor.__get__")))
  (afJ:aim K (.builtin "object.__class__")=some true)
  (ajq:aeL K C8 (.type "object")=some true)
  (ajG:aeL K C8 (.type "BaseException")=some true)
  (wr8:oA K C9 C0=true)
  (ahl:ahn K (.ref C9)=some (.type "type"))
  (agJ:aeD K C9=true)
  (af3:aat K (.ref C9) "__getattribute__"=some (some (.builtin "BaseException.__getattribute__")))
  (agP:aat K (.ref C9) "__getattr__"=some none)
  (afN:aat K (.ref C9) "__class__"=some (some (.builtin "object.__class__")))
  (agN:aeJ K (.builtin "object.__class__") "__get__"=some (some (.builtin "getset_descriptor.__get__")))
  (ah0:aim K (.builtin "object.__class__")=some true)
  (afS:aeL K C9 (.type "object")=some true)
  (afn:aeL K C9 (.type "BaseException")=some true)
  (wr9:oA K C10 C0=true)
  (ahP:ahn K (.ref C10)=some (.type "type"))
  (agm:aeD K C10=true)
  (afV:aat K (.ref C10) "__getattribute__"=some (some (.builtin "BaseException.__getattribute__")))
  (afP:aat K (.ref C10) "__getattr__"=some none)
  (afu:aat K (.ref C10) "__class__"=some (some (.builtin "object.__class__")))
  (aeQ:aeJ K (.builtin "object.__class__") "__get__"=some (some (.builtin "getset_descriptor.__get__")))
  (ajf:aim K (.builtin "object.__class__")=some true)
  (aeO:aeL K C10 (.type "object")=some true)
  (afY:aeL K C10 (.type "BaseException")=some true)
  (axA:oA K C11 C0=true)
  (ad7:ahn K (.ref C11)=some (.type "type"))
  (abS:aeD K C11=true)
  (adw:aat K (.ref C11) "__getattribute__"=some (some (.builtin "BaseException.__getattribute__")))
  (adK:aat K (.ref C11) "__getattr__"=some none)
  (abb:aat K (.ref C11) "__class__"=some (some (.builtin "object.__class__")))
  (abJ:aeJ K (.builtin "object.__class__") "__get__"=some (some (.builtin "getset_descriptor.__get__")))
  (acR:aim K (.builtin "object.__class__")=some true)
  (ach:aeL K C11 (.type "object")=some true)
  (abl:aeL K C11 (.type "BaseException")=some true)
  (aoa:oA K C12 C0=true)
  (acf:ahn K (.ref C12)=some (.type "type"))
  (adJ:aeD K C12=true)
  (abT:aat K (.ref C12) "__getattribute__"=some (some (.builtin "BaseException.__getattribute__")))
  (adG:aat K (.ref C12) "__getattr__"=some none)
  (adm:aat K (.ref C12) "__class__"=some (some (.builtin "object.__class__")))
  (adu:aeJ K (.builtin "object.__class__") "__get__"=some (some (.builtin "getset_descriptor.__get__")))
  (aaE:aim K (.builtin "object.__class__")=some true)
  (ac7:aeL K C12 (.type "object")=some true)
  (adB:aeL K C12 (.type "BaseException")=some true)
  (avh:oA K C13 C0=true)
  (aa3:ahn K (.ref C13)=some (.type "type"))
  (aee:aeD K C13=true)
  (adD:aat K (.ref C13) "__getattribute__"=some (some (.builtin "BaseException.__getattribute__")))
  (ad5:aat K (.ref C13) "__getattr__"=some none)
  (acb:aat K (.ref C13) "__class__"=some (some (.builtin "object.__class__")))
  (adN:aeJ K (.builtin "object.__class__") "__get__"=some (some (.builtin "getset_descriptor.__get__")))
  (aep:aim K (.builtin "object.__class__")=some true)
  (aaY:aeL K C13 (.type "object")=some true)
  (aaM:aeL K C13 (.type "BaseException")=some true)
  (avE:oA K C14 C0=true)
  (abw:ahn K (.ref C14)=some (.type "type"))
  (ab7:aeD K C14=true)
  (acV:aat K (.ref C14) "__getattribute__"=some (some (.builtin "BaseException.__getattribute__")))
  (aej:aat K (.ref C14) "__getattr__"=some none)
  (aaz:aat K (.ref C14) "__class__"=some (some (.builtin "object.__class__")))
  (adi:aeJ K (.builtin "object.__class__") "__get__"=some (some (.builtin "getset_descriptor.__get__")))
  (ada:aim K (.builtin "object.__class__")=some true)
  (ac8:aeL K C14 (.type "object")=some true)
  (aeh:aeL K C14 (.type "BaseException")=some true)
  (ia0:aat K (.ref C9) "__init__"=some (some (.ref fi0)))
  (il0:K.lookup fi0=some ⟨arV,asv,.func (aeI "__init__" "NoSieve.__init__" (aK lB) (az lB) (aa lB) .none as6 apF aqF ao5 ag0 apB),atr⟩)
  (ic0:aeq K ag0 "NoSieve.__init__"=true)
  (ik0:ab8 K (.ref fi0)=true)
  (wi0:yx K C9 fi0=true)
  (if0:akg K (.ref fi0)=true)
  (is0:aat K (.ref C9) "__setattr__"=some (some (.builtin "object.__setattr__")))
  (it0:akG K C9 "at"=some none)
  (id0:aat K (.ref C9) "at"=some none)
  (dd0:[C0,C1,C2,C3,C4,C5,C6,C7,C8,C9,C10,C11,C12,C13,C14].Nodup)
  (oa0:aat K (.ref C15) "__init__"=some (some (.ref fo0)))
  (ol0:K.lookup fo0=some ⟨ana,alm,.func (aeI "__init__" "Sieve.__init__" (aK aY) (az aY) (aa aY) .none apU aoI amA art agO au5),awT⟩)
  (oc0:aeq K agO "Sieve.__init__"=true)
  (ok0:ab8 K (.ref fo0)=true)
  (of0:akg K (.ref fo0)=true)
  (oa1:aat K (.ref C15) "lets"=some (some (.ref fo1)))
  (ol1:K.lookup fo1=some ⟨axP,am1,.func (aeI "lets" "Sieve.lets" (aK cY) (az cY) (aa cY) .none auf avb avG auR ai1 akS),ak9⟩)
  (oc1:aeq K ai1 "Sieve.lets"=true)
  (ok1:ab8 K (.ref fo1)=true)
  (of1:akg K (.ref fo1)=true)
  (oa2:aat K (.ref C15) "shown"=some (some (.ref Kz)))
  (ol2:K.lookup Kz=some ⟨avj,aqm,.func (aeI "shown" "Sieve.shown" (aK aH) (az aH) (aa aH) .none arJ apK apM alZ ah7 aoU),ao3⟩)
  (oc2:aeq K ah7 "Sieve.shown"=true)
  (ok2:ab8 K (.ref Kz)=true)
  (of2:akg K (.ref Kz)=true)
  (oa3:aat K (.ref C17) "__init__"=some (some (.ref fo3)))
  (ol3:K.lookup fo3=some ⟨atp,aqB,.func (aeI "__init__" "NoneSieve.__init__" (aK bf) (az bf) (aa bf) .none ao6 apy anJ akU aho aoS),anL⟩)
  (oc3:aeq K aho "NoneSieve.__init__"=true)
  (ok3:ab8 K (.ref fo3)=true)
  (of3:akg K (.ref fo3)=true)
  (oa4:aat K (.ref C17) "lets"=some (some (.ref fo4)))
  (ol4:K.lookup fo4=some ⟨aoe,atm,.func (aeI "lets" "NoneSieve.lets" (aK fc) (az fc) (aa fc) .none ard aoT axu arE agZ aw3),aoQ⟩)
  (oc4:aeq K agZ "NoneSieve.lets"=true)
  (ok4:ab8 K (.ref fo4)=true)
  (of4:akg K (.ref fo4)=true)
  (oa5:aat K (.ref C18) "__init__"=some (some (.ref Z4)))
  (ol5:K.lookup Z4=some ⟨apV,aqK,.func (aeI "__init__" "ValueSieve.__init__" (aK aG) (az aG) (aa aG) .none aqX aoR anh aoH afQ awZ),auM⟩)
  (oc5:aeq K afQ "ValueSieve.__init__"=true)
  (ok5:ab8 K (.ref Z4)=true)
  (of5:akg K (.ref Z4)=true)
  (oa6:aat K (.ref C18) "lets"=some (some (.ref ZK)))
  (ol6:K.lookup ZK=some ⟨avz,aoK,.func (aeI "lets" "ValueSieve.lets" (aK bj) (az bj) (aa bj) .none au6 as9 awd aqP aie arM),atu⟩)
  (oc6:aeq K aie "ValueSieve.lets"=true)
  (ok6:ab8 K (.ref ZK)=true)
  (of6:akg K (.ref ZK)=true)
  (oa7:aat K (.ref C18) "fits"=some (some (.ref fo7)))
  (ol7:K.lookup fo7=some ⟨auy,auV,.func (aeI "fits" "ValueSieve.fits" (aK cM) (az cM) (aa cM) .none avV apQ avY akX ag1 ax6),au4⟩)
  (oc7:aeq K ag1 "ValueSieve.fits"=true)
  (ok7:ab8 K (.ref fo7)=true)
  (of7:akg K (.ref fo7)=true)
  (oa8:aat K (.ref C20) "fits"=some (some (.ref fo8)))
  (ol8:K.lookup fo8=some ⟨auj,akV,.func (aeI "fits" "UnderSieve.fits" (aK dH) (az dH) (aa dH) .none auN arC avn asm af9 awr),amX⟩)
  (oc8:aeq K af9 "UnderSieve.fits"=true)
  (ok8:ab8 K (.ref fo8)=true)
  (of8:akg K (.ref fo8)=true)
  (oa9:aat K (.ref C21) "fits"=some (some (.ref fo9)))
  (ol9:K.lookup fo9=some ⟨asd,aph,.func (aeI "fits" "OverSieve.fits" (aK eX) (az eX) (aa eX) .none apk aqk av8 ata aja avC),arU⟩)
  (oc9:aeq K aja "OverSieve.fits"=true)
  (ok9:ab8 K (.ref fo9)=true)
  (of9:akg K (.ref fo9)=true)
  (aon:aat K (.ref C22) "fits"=some (some (.ref YH)))
  (aw4:K.lookup YH=some ⟨ajm,ahF,.func (aeI "fits" "HoldsSieve.fits" (aK dR) (az dR) (aa dR) .none aiV aio ahB ajQ ZZ ai4),aiA⟩)
  (acB:aeq K ZZ "HoldsSieve.fits"=true)
  (arD:ab8 K (.ref YH)=true)
  (ak7:akg K (.ref YH)=true)
  (av4:aat K (.ref C23) "__init__"=some (some (.ref Yq)))
  (amF:K.lookup Yq=some ⟨af5,ag3,.func (aeI "__init__" "NotSieve.__init__" (aK bw) (az bw) (aa bw) .none aib agF ahU agn aaw ai0),ajR⟩)
  (aef:aeq K aaw "NotSieve.__init__"=true)
  (anb:ab8 K (.ref Yq)=true)
  (am8:akg K (.ref Yq)=true)
  (amg:aat K (.ref C23) "lets"=some (some (.ref Xh)))
  (ald:K.lookup Xh=some ⟨ajE,ahG,.func (aeI "lets" "NotSieve.lets" (aK fW) (az fW) (aa fW) .none ahX aih agr ai3 aau agx),aij⟩)
  (adR:aeq K aau "NotSieve.lets"=true)
  (alR:ab8 K (.ref Xh)=true)
  (akN:akg K (.ref Xh)=true)
  (awz:aat K (.ref C24) "__init__"=some (some (.ref PL)))
  (abv:K.lookup PL=some ⟨ahM,ag7,.func (aeI "__init__" "PairSieve.__init__" (aK aP) (az aP) (aa aP) .none aeV aiu ajs aju aao aiH),ajK⟩)
  (R3:aeq K aao "PairSieve.__init__"=true)
  (ade:ab8 K (.ref PL)=true)
  (abq:akg K (.ref PL)=true)
  (axE:aat K (.ref C25) "lets"=some (some (.ref Zt)))
  (asq:K.lookup Zt=some ⟨agt,aiq,.func (aeI "lets" "BothSieve.lets" (aK eZ) (az eZ) (aa eZ) .none aiJ aix ahv afR aab aeR),aeM⟩)
  (abo:aeq K aab "BothSieve.lets"=true)
  (alp:ab8 K (.ref Zt)=true)
  (al6:akg K (.ref Zt)=true)
  (aoF:aat K (.ref C26) "lets"=some (some (.ref YB)))
  (ax8:K.lookup YB=some ⟨aiz,ahf,.func (aeI "lets" "EitherSieve.lets" (aK dB) (az dB) (aa dB) .none afi af8 ae0 afU aax aeS),aip⟩)
  (acr:aeq K aax "EitherSieve.lets"=true)
  (auL:ab8 K (.ref YB)=true)
  (ax5:akg K (.ref YB)=true)
  (adO:ahc K C15 Str.empty=true)
  (aed:aeD K C15=true)
  (adC:agD K C15=true)
  (aaQ:aat K (.ref C15) "__setattr__"=some (some (.builtin "object.__setattr__")))
  (aum:ajF K C15=true)
  (avk:ab8 K (.ref C15)=true)
  (Pq:aat K (.ref C15) "text"=some none)
  (aaZ:ahc K C16 Str.empty=true)
  (aem:aeD K C16=true)
  (aaG:agD K C16=true)
  (aaK:aat K (.ref C16) "__setattr__"=some (some (.builtin "object.__setattr__")))
  (Ow:aat K (.ref C16) "__init__"=some (some (.ref fo0)))
  (aqz:ajF K C16=true)
  (amL:ab8 K (.ref C16)=true)
  (QK:aat K (.ref C16) "lets"=some (some (.ref fo1)))
  (K6:aat K (.ref C16) "shown"=some (some (.ref Kz)))
  (PB:aat K (.ref C16) "text"=some none)
  (adU:ahc K C17 Str.empty=true)
  (ad2:aeD K C17=true)
  (ad6:agD K C17=true)
  (abN:aat K (.ref C17) "__setattr__"=some (some (.builtin "object.__setattr__")))
  (aym:ajF K C17=true)
  (ali:ab8 K (.ref C17)=true)
  (Jx:aat K (.ref C17) "shown"=some (some (.ref Kz)))
  (Ox:aat K (.ref C17) "text"=some none)
  (K8:aat K (.ref C17) "place"=some none)
  (ad4:ahc K C18 Str.empty=true)
  (adX:aeD K C18=true)
  (aaB:agD K C18=true)
  (acW:aat K (.ref C18) "__setattr__"=some (some (.builtin "object.__setattr__")))
  (asM:ajF K C18=true)
  (asF:ab8 K (.ref C18)=true)
  (Ke:aat K (.ref C18) "shown"=some (some (.ref Kz)))
  (Qk:aat K (.ref C18) "text"=some none)
  (Kq:aat K (.ref C18) "place"=some none)
  (Jo:aat K (.ref C18) "value"=some none)
  (adE:ahc K C19 Str.empty=true)
  (abW:aeD K C19=true)
  (adq:agD K C19=true)
  (aeg:aat K (.ref C19) "__setattr__"=some (some (.builtin "object.__setattr__")))
  (QC:aat K (.ref C19) "__init__"=some (some (.ref Z4)))
  (arQ:ajF K C19=true)
  (am4:ab8 K (.ref C19)=true)
  (Oq:aat K (.ref C19) "fits"=some (some (.ref fo7)))
  (O8:aat K (.ref C19) "lets"=some (some (.ref ZK)))
  (Jh:aat K (.ref C19) "shown"=some (some (.ref Kz)))
  (Qs:aat K (.ref C19) "text"=some none)
  (JV:aat K (.ref C19) "place"=some none)
  (Jb:aat K (.ref C19) "value"=some none)
  (abI:ahc K C20 Str.empty=true)
  (adz:aeD K C20=true)
  (acO:agD K C20=true)
  (abR:aat K (.ref C20) "__setattr__"=some (some (.builtin "object.__setattr__")))
  (Ru:aat K (.ref C20) "__init__"=some (some (.ref Z4)))
  (auq:ajF K C20=true)
  (ak8:ab8 K (.ref C20)=true)
  (Q7:aat K (.ref C20) "lets"=some (some (.ref ZK)))
  (K9:aat K (.ref C20) "shown"=some (some (.ref Kz)))
  (PX:aat K (.ref C20) "text"=some none)
  (KR:aat K (.ref C20) "place"=some none)
  (K7:aat K (.ref C20) "value"=some none)
  (acz:ahc K C21 Str.empty=true)
  (abu:aeD K C21=true)
  (acU:agD K C21=true)
  (ad3:aat K (.ref C21) "__setattr__"=some (some (.builtin "object.__setattr__")))
  (O1:aat K (.ref C21) "__init__"=some (some (.ref Z4)))
  (auH:ajF K C21=true)
  (aqd:ab8 K (.ref C21)=true)
  (Oz:aat K (.ref C21) "lets"=some (some (.ref ZK)))
  (Kg:aat K (.ref C21) "shown"=some (some (.ref Kz)))
  (Ra:aat K (.ref C21) "text"=some none)
  (JN:aat K (.ref C21) "place"=some none)
  (JW:aat K (.ref C21) "value"=some none)
  (acI:ahc K C22 Str.empty=true)
  (aa6:aeD K C22=true)
  (acZ:agD K C22=true)
  (abZ:aat K (.ref C22) "__setattr__"=some (some (.builtin "object.__setattr__")))
  (QB:aat K (.ref C22) "__init__"=some (some (.ref Z4)))
  (axq:ajF K C22=true)
  (auX:ab8 K (.ref C22)=true)
  (QV:aat K (.ref C22) "lets"=some (some (.ref ZK)))
  (KZ:aat K (.ref C22) "shown"=some (some (.ref Kz)))
  (O7:aat K (.ref C22) "text"=some none)
  (Kv:aat K (.ref C22) "place"=some none)
  (KJ:aat K (.ref C22) "value"=some none)
  (acM:ahc K C23 Str.empty=true)
  (aay:aeD K C23=true)
  (ac0:agD K C23=true)
  (abh:aat K (.ref C23) "__setattr__"=some (some (.builtin "object.__setattr__")))
  (ayg:ajF K C23=true)
  (axz:ab8 K (.ref C23)=true)
  (Km:aat K (.ref C23) "shown"=some (some (.ref Kz)))
  (QX:aat K (.ref C23) "text"=some none)
  (S9:aat K (.ref C23) "one"=some none)
  (acD:ahc K C24 Str.empty=true)
  (acT:aeD K C24=true)
  (aci:agD K C24=true)
  (acL:aat K (.ref C24) "__setattr__"=some (some (.builtin "object.__setattr__")))
  (ap1:ajF K C24=true)
  (asN:ab8 K (.ref C24)=true)
  (Qq:aat K (.ref C24) "lets"=some (some (.ref fo1)))
  (Lh:aat K (.ref C24) "shown"=some (some (.ref Kz)))
  (Rb:aat K (.ref C24) "text"=some none)
  (Ux:aat K (.ref C24) "one"=some none)
  (Jw:aat K (.ref C24) "other"=some none)
  (adp:ahc K C25 Str.empty=true)
  (adT:aeD K C25=true)
  (adS:agD K C25=true)
  (ab4:aat K (.ref C25) "__setattr__"=some (some (.builtin "object.__setattr__")))
  (PN:aat K (.ref C25) "__init__"=some (some (.ref PL)))
  (asR:ajF K C25=true)
  (ap8:ab8 K (.ref C25)=true)
  (JM:aat K (.ref C25) "shown"=some (some (.ref Kz)))
  (QH:aat K (.ref C25) "text"=some none)
  (UG:aat K (.ref C25) "one"=some none)
  (Ju:aat K (.ref C25) "other"=some none)
  (acj:ahc K C26 Str.empty=true)
  (abL:aeD K C26=true)
  (abe:agD K C26=true)
  (aa0:aat K (.ref C26) "__setattr__"=some (some (.builtin "object.__setattr__")))
  (Rp:aat K (.ref C26) "__init__"=some (some (.ref PL)))
  (asn:ajF K C26=true)
  (amB:ab8 K (.ref C26)=true)
  (JR:aat K (.ref C26) "shown"=some (some (.ref Kz)))
  (Rh:aat K (.ref C26) "text"=some none)
  (V9:aat K (.ref C26) "one"=some none)
  (Kf:aat K (.ref C26) "other"=some none)
  (Hz:am5 K (.ref C15) (.type "type") "__init__"=some (.val (.ref fo0)))
  (Hm:am0 K C15 (.type "type")=true)
  (Gk:aeJ K (.ref C15) "__getattribute__"=some (some (.builtin "type.__getattribute__")))
  :Txt K mg:=
 have m {n:Str} {v:Value} (e:afj K mainGlobals n=some (some v)):mg n=some v:=W.mg_of X G e
 ⟨⟨_,_,aJ (st:=vA) lq0 cq0 kq0,m aq0⟩,
  ⟨_,_,aJ (st:=iT) lq1 cq1 kq1,m aq1⟩,
  ⟨_,_,aJ (st:=fK) lq2 cq2 kq2,m aq2⟩,
  ⟨_,_,aJ (st:=jf) lq3 cq3 kq3,m aq3⟩,
  ⟨_,_,aJ (st:=cX) lq4 cq4 kq4,m aq4⟩,
  ⟨_,_,aJ (st:=dZ) lq5 cq5 kq5,m aq5⟩,
  ⟨_,_,aJ (st:=cL) lq6 cq6 kq6,m aq6⟩,
  ⟨_,_,aJ (st:=bM) lq7 cq7 kq7,m aq7⟩,
  ⟨_,_,aJ (st:=bU) lq8 cq8 kq8,m aq8⟩,
  ⟨_,_,aJ (st:=fD) lq9 cq9 kq9,m aq9⟩,
  ⟨_,_,aJ (st:=cU) ap5 alC atw,m aow⟩,
  ⟨_,_,aJ (st:=iR) aoP axT avB,m avL⟩,
  ⟨_,_,aJ (st:=cJ) alG auB ate,m aoq⟩,
  ⟨_,_,aJ (st:=cI) aoi asD alW,m auC⟩,
  ⟨_,_,aJ (st:=eV) ayo alI asG,m at6⟩,
  ⟨_,_,aJ (st:=dq) avD apg axm,m anH⟩,
  ⟨_,_,aJ (st:=d8) amb aoO awf,m avN⟩,
  ⟨_,_,aJ (st:=ik) amI anE avm,m aqa⟩,
  ⟨_,_,aJ (st:=gP) aw1 arW atL,m avp⟩,
  ⟨_,_,aJ (st:=cC) anR axR aqi,m aqr⟩,
  ⟨_,_,aJ (st:=cP) avi alv axI,m avc⟩,
  ⟨_,_,aJ (st:=gF) amG arj awW,m aox⟩,
  ⟨_,_,aJ (st:=fH) aqR auv ato,m awi⟩,
  ⟨_,_,aJ (st:=gD) amE awp arZ,m ak4⟩,
  ⟨_,_,aJ (st:=fO) axa alL avo,m arX⟩,
  ⟨_,_,aJ (st:=ie) ayi axB asu,m amn⟩,
  ⟨_,_,aJ (st:=fM) asi aqo apL,m arN⟩,
  ⟨_,_,aJ (st:=gZ) ala alo amf,m auU⟩,
  ⟨_,_,aJ (st:=gG) apI axh avZ,m amH⟩,
  ⟨_,_,aJ (st:=gM) atJ aqC aw8,m awE⟩,
  ⟨_,_,aJ (st:=cV) awF auo aua,m aok⟩,
  ⟨_,_,aJ (st:=cT) alV atk amZ,m ayq⟩,
  ⟨_,_,aJ (st:=dh) atY avW arf,m av9⟩,
  ⟨_,_,aJ (st:=dJ) ax3 avI ayl,m avS⟩,
  ⟨_,_,aJ (st:=fJ) apl apj auF,m ams⟩,
  ⟨_,_,aJ (st:=il) aoW apR aru,m atG⟩,
  ⟨_,_,aJ (st:=dO) asA amy ax1,m asf⟩,
  ⟨_,_,aJ (st:=fG) axt auZ awm,m atB⟩,
  ⟨_,_,aJ (st:=gY) ak6 asW aoC,m asB⟩,
  ⟨_,_,aJ (st:=di) aqN amj alN,m anS⟩,
  ⟨_,_,aJ (st:=du) as5 axS al0,m awC⟩,
  ⟨_,_,aJ (st:=dj) auw avA arB,m amx⟩,
  ⟨_,_,aJ (st:=cH) am2 arF asI,m anT⟩,
  ⟨_,_,aJ (st:=cF) ak1 axH aso,m apq⟩,
  ⟨_,_,aJ (st:=bN) anV axJ asT,m as8⟩,
  ⟨_,_,aJ (st:=bQ) al4 ami aoN,m asJ⟩,
  ⟨_,_,aJ (st:=dI) au8 aof apW,m awH⟩,
  ⟨_,_,aJ (st:=m8) asj anQ awh,m axg⟩,
  ⟨_,m gq0,_,rfl⟩,
  ⟨_,m gq1,_,rfl⟩,
  ⟨_,m gq2,_,rfl⟩,
  ⟨_,m gq3,_,rfl⟩,
  ⟨_,m gq4,_,rfl⟩,
  ⟨_,m gq5,_,rfl⟩,
  ⟨_,m gq6,_,rfl⟩,
  ⟨_,m gq7,_,rfl⟩,
  ⟨_,m gq8,_,rfl⟩,
  ⟨_,m gq9,_,rfl⟩,
  ⟨_,m avl,_,rfl⟩,
  ⟨_,m axf,_,rfl⟩,
  ⟨_,m aqw,_,rfl⟩,
  ⟨_,m axk,_,rfl⟩,
  ⟨_,m atF,_,rfl⟩,
  ⟨_,m aqI,_,rfl⟩,
  ⟨_,m awj,_,rfl⟩,
  ⟨_,m anu,_,rfl⟩,
  ⟨_,m avH,_,rfl⟩,
  ⟨_,m arq,_,rfl⟩,
  ⟨_,m awD,_,rfl⟩,
  ⟨_,m aoY,_,rfl⟩,
  ⟨_,m akT,_,rfl⟩,
  ⟨_,m atV,_,rfl⟩,
  ⟨_,m aoL,_,rfl⟩,
  ⟨_,m ax7,_,rfl⟩,
  ⟨_,m asb,_,rfl⟩,
  ⟨_,m ax9,_,rfl⟩,
  ⟨_,m apm,_,rfl⟩,
  ⟨_,m atR,_,rfl⟩,
  ⟨_,m ayh,_,rfl⟩,
  ⟨_,m aus,_,rfl⟩,
  ⟨_,m ax0,_,rfl⟩,
  ⟨_,m amO,_,rfl⟩,
  ⟨_,m aoj,_,rfl⟩,
  ⟨_,m aml,_,rfl⟩,
  ⟨_,m anU,_,rfl⟩,
  agB X G zq0,
  agB X G zq1,
  agB X G zq2,
  agB X G zq3,
  agB X G zq4,
  agB X G zq5,
  agB X G zq6,
  agB X G zq7,
  agB X G zq8,
  agB X G zq9,
  agB X G awB,
  agB X G avJ,
  agB X G anp,
  agB X G amW,
  (by have e:=m Ga;rw[aD e];exact e),
  (by have e:=m xq1;rw[aD e];exact e),
  (by have e:=m xq2;rw[aD e];exact e),
  (by have e:=m xq3;rw[aD e];exact e),
  (by have e:=m xq4;rw[aD e];exact e),
  (by have e:=m xq5;rw[aD e];exact e),
  (by have e:=m xq6;rw[aD e];exact e),
  (by have e:=m xq7;rw[aD e];exact e),
  (by have e:=m xq8;rw[aD e];exact e),
  (by have e:=m xq9;rw[aD e];exact e),
  (by have e:=m ab9;rw[aD e];exact e),
  (by have e:=m acs;rw[aD e];exact e),
  (by have e:=m adk;rw[aD e];exact e),
  (by have e:=m aet;rw[aD e];exact e),
  (by have e:=m ac5;rw[aD e];exact e),
  (by have e:=m Jm;rw[aD e];exact e),
  (by have e:=m Rm;rw[aD e];exact e),
  (by have e:=m Jj;rw[aD e];exact e),
  (by have e:=m Fb;rw[aD e];exact e),
  (by have e:=m Du;rw[aD e];exact e),
  (by have e:=m Fd;rw[aD e];exact e),
  (by have e:=m DK;rw[aD e];exact e),
  (by have e:=m FQ;rw[aD e];exact e),
  (by have e:=m KD;rw[aD e];exact e),
  (by have e:=m Hy;rw[aD e];exact e),
  (by have e:=m GF;rw[aD e];exact e),
  (by have e:=m GR;rw[aD e];exact e),
  Fe (m xq2) yq0,
  Fe (m xq5) yq1,
  Fe (m xq3) yq2,
  W6 (m Ga) bt0 bt1 bt2 bt3 bt4,
  m6 (m xq1) (m Ga) wr0 ajy age afX ajI agC aii agb afc ahy,
  m6 (m xq2) (m Ga) wr1 aj1 ah3 ajZ aj0 afa ajc ahr agl ae5,
  m6 (m xq3) (m Ga) wr2 afK agI afA aiv af2 ahi aeU ahx ahe,
  m6 (m xq4) (m Ga) wr3 ahI agv ain ahQ aif ah8 aiR aiC agf,
  m6 (m xq5) (m Ga) wr4 ajg ajM aiW agX af6 ae7 ahD ahh ajk,
  m6 (m xq6) (m Ga) wr5 afC afZ agU ag6 ah2 ajl ag8 afb ahb,
  m6 (m xq7) (m Ga) wr6 aiK ahL afw ah6 ae9 ahT ajn agy agG,
  m6 (m xq8) (m Ga) wr7 afz ai9 ahH aeZ aik aid afJ ajq ajG,
  m6 (m xq9) (m Ga) wr8 ahl agJ af3 agP afN agN ah0 afS afn,
  m6 (m ab9) (m Ga) wr9 ahP agm afV afP afu aeQ ajf aeO afY,
  m6 (m acs) (m Ga) axA ad7 abS adw adK abb abJ acR ach abl,
  m6 (m adk) (m Ga) aoa acf adJ abT adG adm adu aaE ac7 adB,
  m6 (m aet) (m Ga) avh aa3 aee adD ad5 acb adN aep aaY aaM,
  m6 (m ac5) (m Ga) avE abw ab7 acV aej aaz adi ada ac8 aeh,
  YX (m xq9) (m Ga) (aJ (st:=lB) il0 ic0 ik0) wi0 if0 is0 it0 wr8,
  (by rw[aD (m xq9)];exact id0),
  (by rw[aD (m Ga),aD (m xq1),aD (m xq2),aD (m xq3),aD (m xq4),aD (m xq5),aD (m xq6),aD (m xq7),aD (m xq8),aD (m xq9),aD (m ab9),aD (m acs),aD (m adk),aD (m aet),aD (m ac5)];exact dd0),
  j4 (m Jm) adO aed adC aaQ,
  p7 (m Jm) (aJ (st:=aY) ol0 oc0 ok0) oa0 of0 aum avk,
  dM (m Jm) (aJ (st:=cY) ol1 oc1 ok1) oa1 of1,
  dM (m Jm) (aJ (st:=aH) ol2 oc2 ok2) oa2 of2,
  (by rw[aD (m Jm)];exact Pq),
  j4 (m Rm) aaZ aem aaG aaK,
  p7 (m Rm) (aJ (st:=aY) ol0 oc0 ok0) Ow of0 aqz amL,
  dM (m Rm) (aJ (st:=cY) ol1 oc1 ok1) QK of1,
  dM (m Rm) (aJ (st:=aH) ol2 oc2 ok2) K6 of2,
  (by rw[aD (m Rm)];exact PB),
  j4 (m Jj) adU ad2 ad6 abN,
  p7 (m Jj) (aJ (st:=bf) ol3 oc3 ok3) oa3 of3 aym ali,
  dM (m Jj) (aJ (st:=fc) ol4 oc4 ok4) oa4 of4,
  dM (m Jj) (aJ (st:=aH) ol2 oc2 ok2) Jx of2,
  (by rw[aD (m Jj)];exact Ox),
  (by rw[aD (m Jj)];exact K8),
  j4 (m Fb) ad4 adX aaB acW,
  p7 (m Fb) (aJ (st:=aG) ol5 oc5 ok5) oa5 of5 asM asF,
  dM (m Fb) (aJ (st:=cM) ol7 oc7 ok7) oa7 of7,
  dM (m Fb) (aJ (st:=bj) ol6 oc6 ok6) oa6 of6,
  dM (m Fb) (aJ (st:=aH) ol2 oc2 ok2) Ke of2,
  (by rw[aD (m Fb)];exact Qk),
  (by rw[aD (m Fb)];exact Kq),
  (by rw[aD (m Fb)];exact Jo),
  j4 (m Du) adE abW adq aeg,
  p7 (m Du) (aJ (st:=aG) ol5 oc5 ok5) QC of5 arQ am4,
  dM (m Du) (aJ (st:=cM) ol7 oc7 ok7) Oq of7,
  dM (m Du) (aJ (st:=bj) ol6 oc6 ok6) O8 of6,
  dM (m Du) (aJ (st:=aH) ol2 oc2 ok2) Jh of2,
  (by rw[aD (m Du)];exact Qs),
  (by rw[aD (m Du)];exact JV),
  (by rw[aD (m Du)];exact Jb),
  j4 (m Fd) abI adz acO abR,
  p7 (m Fd) (aJ (st:=aG) ol5 oc5 ok5) Ru of5 auq ak8,
  dM (m Fd) (aJ (st:=dH) ol8 oc8 ok8) oa8 of8,
  dM (m Fd) (aJ (st:=bj) ol6 oc6 ok6) Q7 of6,
  dM (m Fd) (aJ (st:=aH) ol2 oc2 ok2) K9 of2,
  (by rw[aD (m Fd)];exact PX),
  (by rw[aD (m Fd)];exact KR),
  (by rw[aD (m Fd)];exact K7),
  j4 (m DK) acz abu acU ad3,
  p7 (m DK) (aJ (st:=aG) ol5 oc5 ok5) O1 of5 auH aqd,
  dM (m DK) (aJ (st:=eX) ol9 oc9 ok9) oa9 of9,
  dM (m DK) (aJ (st:=bj) ol6 oc6 ok6) Oz of6,
  dM (m DK) (aJ (st:=aH) ol2 oc2 ok2) Kg of2,
  (by rw[aD (m DK)];exact Ra),
  (by rw[aD (m DK)];exact JN),
  (by rw[aD (m DK)];exact JW),
  j4 (m FQ) acI aa6 acZ abZ,
  p7 (m FQ) (aJ (st:=aG) ol5 oc5 ok5) QB of5 axq auX,
  dM (m FQ) (aJ (st:=dR) aw4 acB arD) aon ak7,
  dM (m FQ) (aJ (st:=bj) ol6 oc6 ok6) QV of6,
  dM (m FQ) (aJ (st:=aH) ol2 oc2 ok2) KZ of2,
  (by rw[aD (m FQ)];exact O7),
  (by rw[aD (m FQ)];exact Kv),
  (by rw[aD (m FQ)];exact KJ),
  j4 (m KD) acM aay ac0 abh,
  p7 (m KD) (aJ (st:=bw) amF aef anb) av4 am8 ayg axz,
  dM (m KD) (aJ (st:=fW) ald adR alR) amg akN,
  dM (m KD) (aJ (st:=aH) ol2 oc2 ok2) Km of2,
  (by rw[aD (m KD)];exact QX),
  (by rw[aD (m KD)];exact S9),
  j4 (m Hy) acD acT aci acL,
  p7 (m Hy) (aJ (st:=aP) abv R3 ade) awz abq ap1 asN,
  dM (m Hy) (aJ (st:=cY) ol1 oc1 ok1) Qq of1,
  dM (m Hy) (aJ (st:=aH) ol2 oc2 ok2) Lh of2,
  (by rw[aD (m Hy)];exact Rb),
  (by rw[aD (m Hy)];exact Ux),
  (by rw[aD (m Hy)];exact Jw),
  j4 (m GF) adp adT adS ab4,
  p7 (m GF) (aJ (st:=aP) abv R3 ade) PN abq asR ap8,
  dM (m GF) (aJ (st:=eZ) asq abo alp) axE al6,
  dM (m GF) (aJ (st:=aH) ol2 oc2 ok2) JM of2,
  (by rw[aD (m GF)];exact QH),
  (by rw[aD (m GF)];exact UG),
  (by rw[aD (m GF)];exact Ju),
  j4 (m GR) acj abL abe aa0,
  p7 (m GR) (aJ (st:=aP) abv R3 ade) Rp abq asn amB,
  dM (m GR) (aJ (st:=dB) ax8 acr auL) aoF ax5,
  dM (m GR) (aJ (st:=aH) ol2 oc2 ok2) JR of2,
  (by rw[aD (m GR)];exact Rh),
  (by rw[aD (m GR)];exact V9),
  (by rw[aD (m GR)];exact Kf),
  afs (m Jm) (aJ (st:=aY) ol0 oc0 ok0) Hz Hm Gk⟩
end K39
open PySem PySem.W PyProof.Rows
set_option maxRecDepth 100000 in
set_option maxHeartbeats 0 in
theorem PySem.Challenge.cw_turnleaf_k39_texts_that_are_no_marks_holds : PySem.Challenge.rw_turnleaf_k39_texts_that_are_no_marks.Holds := by
 w_on;o_law;k_head;(case hw=>w_witness2)
 k_fill
 refine L2.W2 (l:=PySem.Challenge.rw_turnleaf_k39_texts_that_are_no_marks) (n:=63) (k:=70) (x:="_law_script") (CX:=λw=>L2.CK PySem.Challenge.rw_turnleaf_k39_texts_that_are_no_marks.prog w) (cc:=true) (sp:=λw=>L2.ZP _) rfl (by decide) rfl ⟨λ_=>rfl,by decide,by decide⟩ (λw h Y=>PySem.W.kIn_of Y) ?F (λ_ _ a ns hl _ hS=>⟨a,ns,rfl,hS,hl,λ_=>rfl⟩) (λ_ _ _ _ _ z=>L2.CK.never z)
 case F=>
  intro w mg fa h KX G hmg
  have T:K39.Txt (L2.KOf KX) mg:=by
   dsimp only[L2.KOf]
   refine' K39.adl KX G ..
   any_goals try delta K39.fY
   any_goals first |k_is |k_exc |kernel_rfl |decide
  obtain⟨f,fd,F,hm⟩:=T.ag4
  have e0:=hmg.symm.trans hm
  cases e0
  obtain⟨oc,od,kV,doc,pm,an,cdv,ct,osl,rfl,lk,hcd⟩:=id F.ex
  exact⟨_,λs u=>.of_eq rfl,λbase kb nb=>K39.abn T F⟩
#print axioms PySem.Challenge.cw_turnleaf_k39_texts_that_are_no_marks_holds
