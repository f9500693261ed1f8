import PyProof.Rows.All
import Wide.All
import OpenK.AllK
import Wide.FinOn
import Lean
import PyProof.EqAt
import PyProof.EqKinds
import PyProof.TupleCall
import PyProof.NeData
import PyProof.ZipIter
import PyProof.WalksEnum
import PyProof.Rows.SetFrom
import PyProof.StrLawsTight
import PyProof.StrLawsChain
import PyProof.StrCalls2
import PyProof.ListStr
import PyProof.Rows.StrOrd
import KE.KRevIter
import PyProof.ExcInit
import PyProof.InstStoreFacts
import PyProof.ExcArgs
import PyProof.ExcAttrAll.ValueError
import PyProof.NsDelKeeps
import PyProof.RulesAs
import OpenK.KCls
import PyProof.Rows.TupAssign
import PyProof.StrLawsIn
import KE.KDictSum
import PyProof.DictWalks
import PyProof.Rows.CountFlat
import PySem.Challenge.RW_turnleaf_k37_marks_there_and_back
set_option maxHeartbeats 4000000
set_option Elab.async false
set_option linter.all false
set_option maxRecDepth 100000
namespace L2
open PySem PySem.Spec PyProof.Rows
theorem shp1{α:Type}{us:List α}(h:us.length=1):∃a,us=[a]:=match us,h with |[a],_=>⟨a,rfl⟩
theorem shp2{α:Type}{us:List α}(h:us.length=2):∃a b,us=[a,b]:=match us,h with |[a,b],_=>⟨a,b,rfl⟩
theorem shp3{α:Type}{us:List α}(h:us.length=3):∃a b c,us=[a,b,c]:=match us,h with |[a,b,c],_=>⟨a,b,c,rfl⟩
theorem shp4{α:Type}{us:List α}(h:us.length=4):∃a b c d,us=[a,b,c,d]:=match us,h with |[a,b,c,d],_=>⟨a,b,c,d,rfl⟩
theorem shp5{α:Type}{us:List α}(h:us.length=5):∃a b c d e,us=[a,b,c,d,e]:=match us,h with |[a,b,c,d,e],_=>⟨a,b,c,d,e,rfl⟩
theorem shp6{α:Type}{us:List α}(h:us.length=6):∃a b c d e f,us=[a,b,c,d,e,f]:=match us,h with |[a,b,c,d,e,f],_=>⟨a,b,c,d,e,f,rfl⟩
abbrev Key:=Sum Int Str
def Yd:Key->Value->Bool
 | .inl k,v=>Value.isInt k v
 | .inr x,v=>Value.isStrOf x v
def aon(w:World):Key->Int
 | .inl k=>hashInt k
 | .inr x=>hashStr w x
theorem c7:∀{k:Key} {v:Value},Yd k v=true->(∃i t,k=Sum.inl i/\v=Value.int i t)\/(∃x t,k=Sum.inr x/\v=Value.str x t)
 | .inl i,v,h=>by
   obtain⟨t,e⟩:=Value.isInt_shape (k:=i) (v:=v) h
   exact .inl ⟨i,t,rfl,e⟩
 | .inr x,v,h=>by
   obtain⟨t,e⟩:=Value.isStrOf_shape (x:=x) (v:=v) h
   exact .inr ⟨x,t,rfl,e⟩
theorem aeB(a b:Int):decide ((Sum.inl a:Key)=Sum.inl b)=(a==b):=by
 by_cases e:a=b
 .subst e;simp
 .have h:¬(Sum.inl a:Key)=Sum.inl b:=λq=>e (Sum.inl.inj q)
  rw[decide_eq_false h]
  exact(beq_eq_false_iff_ne.mpr e).symm
theorem abn(a b:Str):decide ((Sum.inr a:Key)=Sum.inr b)=decide (a=b):=by
 by_cases e:a=b
 .subst e;simp
 .have h:¬(Sum.inr a:Key)=Sum.inr b:=λq=>e (Sum.inr.inj q)
  rw[decide_eq_false h,decide_eq_false e]
theorem aad(a:Int)(b:Str):decide ((Sum.inl a:Key)=Sum.inr b)=false:=decide_eq_false (λq=>nomatch q)
theorem adV(a:Str)(b:Int):decide ((Sum.inr a:Key)=Sum.inl b)=false:=decide_eq_false (λq=>nomatch q)
def DG(prog:Program)(w:World):PySem.KeyKind prog w Key where
 is:=Yd
 hash:=aon w
 inj:=λv a b ha hb=>by
  rcases c7 ha with⟨i,t,rfl,rfl⟩ |⟨x,t,rfl,rfl⟩
  .rcases c7 hb with⟨j,u,rfl,e⟩ |⟨y,u,rfl,e⟩
   .injection e with e1 _;rw[e1]
   .exact nomatch e
  .rcases c7 hb with⟨j,u,rfl,e⟩ |⟨y,u,rfl,e⟩
   .exact nomatch e
   .injection e with e1 _;rw[e1]
 byValue:=λk v h=>by
  rcases c7 h with⟨i,t,rfl,rfl⟩ |⟨x,t,rfl,rfl⟩<;>rfl
 pyHash:=λhv h=>by
  rcases c7 hv with⟨i,t,rfl,rfl⟩ |⟨x,t,rfl,rfl⟩
  .exact wpAny_pyHash_int h
  .exact wpAny_pyHash_str h
 eqBool:=λhu hv h=>by
  rcases c7 hu with⟨i,t,rfl,rfl⟩ |⟨x,t,rfl,rfl⟩
  .rcases c7 hv with⟨j,u,rfl,rfl⟩ |⟨y,u,rfl,rfl⟩
   .rw[aeB]at h;exact wpAny_eqBool_int h
   .rw[aad]at h;exact SeqAt.EqAt.int_str i t y u _ _ _ _ h
  .rcases c7 hv with⟨j,u,rfl,rfl⟩ |⟨y,u,rfl,rfl⟩
   .rw[adV]at h;exact SeqAt.EqAt.str_int x t j u _ _ _ _ h
   .rw[abn]at h;exact wpAny_eqBool_str h
 «strs» :=λk x t v h=>by
  rcases c7 h with⟨i,u,rfl,e⟩ |⟨y,u,rfl,e⟩
  .exact nomatch e
  .injection e with e1 _
   subst e1
   cases v<;>rfl
inductive V where
 |non |bl (b:Bool) |int (i:Int) |str (x:Str) |byt (b:Array UInt8) |flt (b:UInt64) |ref (a:Addr) |ty (n:String)
 deriving DecidableEq
def RelV:V->Value->Prop
 | .non,u=>u=Value.none
 | .bl b,u=>u=Value.bool b
 | .int i,u=>∃t,u=Value.int i t
 | .str x,u=>∃t,u=Value.str x t
 | .byt b,u=>∃t,u=Value.bytes b t
 | .flt b,u=>∃t,u=Value.float b t
 | .ref a,u=>u=Value.ref a
 | .ty n,u=>u=Value.type n
abbrev Vals:List V->List Value->Prop:=Paired RelV
theorem Vals.length{xs:List V}{us:List Value}(r:Vals xs us):xs.length=us.length:=Paired.length r
theorem Vals.get:∀{xs:List V} {us:List Value} {i:Nat} {x:V},Vals xs us->xs[i]? =some x->∃u,us[i]? =some u/\RelV x u
 |_,_,_,_,.nil,e=>by simp at e
 |_,_,0,_,.cons r _,e=>by simp at e;subst e;exact⟨_,rfl,r⟩
 |_,_,i+1,x,.cons _ t,e=>by
  obtain⟨u,h1,h2⟩:=Vals.get (i:=i) (x:=x) t (by simpa using e)
  exact⟨u,by simpa using h1,h2⟩
theorem Vals.set{x:V}{u:Value}(r:RelV x u):∀{xs:List V} {us:List Value} (i:Nat),Vals xs us->Vals (xs.set i x) (us.set i u)
 |_,_,_,.nil=>.nil
 |_,_,0,.cons _ t=>.cons r t
 |_,_,i+1,.cons q t=>.cons q (Vals.set r i t)
theorem Vals.append:∀{xs ys:List V} {us ws:List Value},Vals xs us->Vals ys ws->Vals (xs++ys) (us++ws)
 |_,_,_,_,.nil,s=>s
 |_,_,_,_,.cons r t,s=>.cons r (Vals.append t s)
theorem Vals.take:∀{xs:List V} {us:List Value} (n:Nat),Vals xs us->Vals (xs.take n) (us.take n)
 |_,_,0,_=>.nil
 |_,_,_+1,.nil=>.nil
 |_,_,n+1,.cons r t=>.cons r (Vals.take n t)
theorem Vals.drop:∀{xs:List V} {us:List Value} (n:Nat),Vals xs us->Vals (xs.drop n) (us.drop n)
 |_,_,0,r=>r
 |_,_,_+1,.nil=>.nil
 |_,_,n+1,.cons _ t=>Vals.drop n t
def Be:Option V->Option Value->Prop
 |some v,some u=>RelV v u
 |none,none=>True
 |_,_=>False
def KV{κ:Type}:List (κ×V)->List (κ×Value)->Prop:=Paired λ(p:κ×V) (q:κ×Value)=>p.1=q.1/\RelV p.2 q.2
def kV:Key->V
 | .inl i=>.int i
 | .inr x=>.str x
inductive HO where
 |lst (xs:List V)
 |tup (xs:List V)
 |dK (kvs:List (Key×V)) |dT (kvs:List (List Key×V))
 |set (S:Int->Bool) (n:Nat)
 |ins (C dx:Addr) (fs:List (Str×V))
 |own (x:Addr)
 |xd (fs:List (Str×V))
 |met (f x:Addr)
 |rng (lo hi:Int)
 |frz (o:Obj) (u:HO)
 |tbl (ps:Array Value)
 |ext (φ:Heap->Prop)
abbrev Hp:=Addr->Option HO
def upd(H:Hp)(a:Addr)(o:HO):Hp:=λb=>if b=a then some o else H b
theorem ak{H:Hp}{a:Addr}{o:HO}:upd H a o a=some o:=by unfold upd;rw[if_pos rfl]
theorem az{H:Hp}{a b:Addr}{o:HO}(h:b≠a):upd H a o b=H b:=by unfold upd;rw[if_neg h]
theorem au{H:Hp}{a b:Addr}{o:HO}(h:H a=some o)(h':H b=none):a≠b:=by
 intro e;subst e;rw[h]at h';cases h'
section
variable(P:Program)(w:World)
def fO(H:Hp)(h:Heap)(a:Addr):HO->Prop
 | .lst xs=>xs.length≤sizeLine/\∃(its:List Value) (n:Nat),Vals xs its/\h.get? a=some {cls:=.type "list",data:=.seq its.toArray n}
 | .tup xs=>xs.length≤sizeLine/\∃its:List Value,Vals xs its/\IsTup h a its.toArray
 | .dK kvs=>kvs.length≤sizeLine/\(a==sysModules)=false/\∃vs,KV kvs vs/\h.DictOf (DG P w) a vs
 | .dT kvs=>kvs.length≤sizeLine/\(a==sysModules)=false/\∃xs:List (List Key×Addr×Value),
   Paired (λ(p:List Key×V) (q:List Key×Addr×Value)=>p.1=q.1/\H q.2.1=some (.tup (p.1.map kV))/\RelV p.2 q.2.2) kvs xs/\
   ∃o es ep,h.get? a=some o/\o.ExactDict/\o.data= .dict es ep/\es.toList=xs.map (entryOfKey (tupleKind (DG P w)))/\(xs.map (·.1)).Nodup
 | .set S n=>h.SetOf (intKind P w) a S n
 | .ins C dx fs=>H dx=some (.own a)/\fs.length≤1000/\dx≠a/\h.get? a=some (W.instObj C dx)/\
   ∃mA,h.Ns1 dx mA/\(∀f,Be (fs.lookup f) (mA f))/\PySem.Within mA (fs.map (·.1))
 | .own _=>∃o,h.get? a=some o
 | .xd fs=>∃mA,h.Ns1 a mA/\∀f,Be (fs.lookup f) (mA f)
 | .rng lo hi=>∃t u v,h.get? a=some {cls:=.type "range",data:=.fields #[.int lo t,.int hi u,.int 1 v]}
 | .frz o u=>h.get? a=some o/\fO H h a u
 | .tbl ps=>h.get? a=some {cls:=.none,data:=.fields ps}
 | .met f x=>h.get? a=some (W.methodObj (.ref f) (.ref x))
 | .ext φ=>φ h/\(∃o,h.get? a=some o)/\∀h1 h2:Heap,φ h1->(∀o,h1.get? a=some o->h2.get? a=some o)->φ h2
def uY(H:Hp)(h:Heap):Prop:=∀a o,H a=some o->fO P w H h a o
end
section
variable{P:Program}{w:World}{H H':Hp}{h h':Heap}{a:Addr}{o:HO}
theorem fO.lt(x:fO P w H h a o):a<h.objs.size:=by
 cases o with
 |lst xs=>obtain⟨_,_,_,_,e⟩:=x;exact Heap.lt_size e
 |tup xs=>obtain⟨_,_,_,p⟩:=x;exact p.lt
 |dK kvs=>obtain⟨_,_,_,_,o,_,_,e,_⟩:=x;exact Heap.lt_size e
 |dT kvs=>obtain⟨_,_,_,_,o,_,_,e,_⟩:=x;exact Heap.lt_size e
 |set S n=>obtain⟨o,_,_,_,e,_⟩:=x;exact Heap.lt_size e
 |ins C dx fs=>obtain⟨_,_,_,e,_⟩:=x;exact Heap.lt_size e
 |own y=>obtain⟨_,e⟩:=x;exact Heap.lt_size e
 |xd fs=>obtain⟨_,⟨_,_,_,e,_⟩,_⟩:=x;exact Heap.lt_size e
 |rng lo hi=>obtain⟨_,_,_,e⟩:=x;exact Heap.lt_size e
 |frz ob u=>obtain⟨e,_⟩:=x;exact Heap.lt_size e
 |tbl ps=>exact Heap.lt_size (show h.get? a=some _ from x)
 |met f y=>exact Heap.lt_size (show h.get? a=some _ from x)
 |ext φ=>obtain⟨_,⟨_,e⟩,_⟩:=x;exact Heap.lt_size e
theorem Paired.mapP{α β:Type}{F G:α->β->Prop}:∀{l₁:List α} {l₂:List β},Paired F l₁ l₂->(∀a b,F a b->G a b)->Paired G l₁ l₂
 |_,_,.nil,_=>.nil
 |_,_,.cons r t,f=>.cons (f _ _ r) (Paired.mapP t f)
theorem fO.stay(x:fO P w H h a o)(k:∀b u,(b=a\/H b=some (.own a))->h.get? b=some u->h'.get? b=some u)
  (ho:∀b,H b=some (.own a)->H' b=some (.own a)) (ht:∀b xs,H b=some (.tup xs)->H' b=some (.tup xs)):fO P w H' h' a o:=by
 induction o with
 |lst xs=>obtain⟨z,its,n,r,e⟩:=x;exact⟨z,its,n,r,k _ _ (.inl rfl) e⟩
 |tup xs=>obtain⟨z,its,r,ob,e,c⟩:=x;exact⟨z,its,r,ob,k _ _ (.inl rfl) e,c⟩
 |dK kvs=>obtain⟨z,y,vs,r,ob,es,ep,e,c⟩:=x;exact⟨z,y,vs,r,ob,es,ep,k _ _ (.inl rfl) e,c⟩
 |dT kvs=>
  obtain⟨z,y,xs,r,ob,es,ep,e,c⟩:=x
  exact⟨z,y,xs,Paired.mapP r λp q z=>⟨z.1,ht _ _ z.2.1,z.2.2⟩,ob,es,ep,k _ _ (.inl rfl) e,c⟩
 |set S n=>obtain⟨ob,es,ep,t,e,c⟩:=x;exact⟨ob,es,ep,t,k _ _ (.inl rfl) e,c⟩
 |ins C dx fs=>
  obtain⟨d,z,ne,e,mA,⟨od,es,ep,e2,c⟩,r⟩:=x
  exact⟨ho _ d,z,ne,k _ _ (.inl rfl) e,mA,⟨od,es,ep,k _ _ (.inr d) e2,c⟩,r⟩
 |own y=>obtain⟨ob,e⟩:=x;exact⟨ob,k _ _ (.inl rfl) e⟩
 |xd fs=>obtain⟨mA,⟨od,es,ep,e,c⟩,r⟩:=x;exact⟨mA,⟨od,es,ep,k _ _ (.inl rfl) e,c⟩,r⟩
 |rng lo hi=>obtain⟨t,u,v,e⟩:=x;exact⟨t,u,v,k _ _ (.inl rfl) e⟩
 |frz ob u ih=>obtain⟨e,q⟩:=x;exact⟨k _ _ (.inl rfl) e,ih q⟩
 |tbl ps=>
  have e:h.get? a=some {cls:=.none,data:=.fields ps}:=x
  show h'.get? a=some {cls:=.none,data:=.fields ps}
  exact k a _ (.inl rfl) e
 |met f y=>
  have e:h.get? a=some (W.methodObj (.ref f) (.ref y)):=x
  show h'.get? a=some (W.methodObj (.ref f) (.ref y))
  exact k a _ (.inl rfl) e
 |ext φ=>obtain⟨p,⟨o,e⟩,st⟩:=x;exact⟨st _ _ p λo q=>k _ _ (.inl rfl) q,⟨o,k _ _ (.inl rfl) e⟩,st⟩
theorem uY.lt(x:uY P w H h)(e:H a=some o):a<h.objs.size:=(x a o e).lt
theorem uY.fresh(x:uY P w H h)(e:h.objs.size≤a):H a=none:=by
 cases q:H a with
 |none=>rfl
 |some u=>exact absurd (Nat.lt_of_lt_of_le (x.lt q) e) (Nat.lt_irrefl _)
theorem uY.kept(x:uY P w H h)(k:∀b u,h.get? b=some u->h'.get? b=some u):uY P w H h':=λa o e=>
 (x a o e).stay (λb u _ q=>k b u q) (λ_ q=>q) λ_ _ q=>q
theorem uY.laid(x:uY P w H h)(k:∀b u,h.get? b=some u->h'.get? b=some u)(hp:h.objs.size≤a)(new:fO P w (upd H a o) h' a o):uY P w (upd H a o) h':=λb u e=>by
 have hn:=x.fresh hp
 by_cases hb:b=a
 .subst hb;rw[ak]at e;cases e;exact new
 .rw[az hb]at e
  exact(x b u e).stay (λc v _ q=>k c v q) (λc q=>by rw[az (au q hn)];exact q) λc xs q=>by rw[az (au q hn)];exact q
end
def Rd(H:Hp)(a:Addr)(u:HO):Prop:=H a=some u\/∃o,H a=some (.frz o u)
theorem Rd.ok{P:Program}{w:World}{H:Hp}{h:Heap}{a:Addr}{u:HO}(r:Rd H a u)(x:uY P w H h):fO P w H h a u:=by
 rcases r with r |⟨o,r⟩
 .exact x a u r
 .obtain⟨_,q⟩:=x a _ r
  exact q
def Mut:Option HO->Prop
 |some (.lst _)=>True
 |some (.dK _)=>True
 |some (.dT _)=>True
 |some (.set _ _)=>True
 |some (.ins _ _ _)=>True
 |some (.ext _)=>True
 |_=>False
section
variable{P:Program}{w:World}{H:Hp}{h h':Heap}{x e:Addr}{o':HO}
theorem uY.write(ok:uY P w H h)(mu:Mut (H x))(he:e=x\/H e=some (.own x))(k:∀b u,b≠e->h.get? b=some u->h'.get? b=some u)(heo:∃u,h'.get? e=some u)
  (new:fO P w (upd H x o') h' x o'):uY P w (upd H x o') h':=λb u q=>by
 have nown:∀c y,H c=some (.own y)->c≠x:=λc y r z=>by subst z;rw[r]at mu;exact mu
 have ntup:∀c xs,H c=some (.tup xs)->c≠x:=λc xs r z=>by subst z;rw[r]at mu;exact mu
 by_cases hb:b=x
 .subst hb;rw[ak]at q;cases q;exact new
 .rw[az hb]at q
  by_cases hbe:b=e
  .have q':H b=some (.own x):=by
    rcases he with z |z
    .exact absurd (hbe.trans z) hb
    .rw[hbe];exact z
   rw[q]at q';cases q'
   obtain⟨v,hv⟩:=heo
   exact⟨v,by rw[hbe];exact hv⟩
  .refine(ok b u q).stay (λc v hc r=>k c v ?_ r) (λc r=>by rw[az (nown c b r)];exact r) λc xs r=>by rw[az (ntup c xs r)];exact r
   rcases hc with rfl |hc
   .exact hbe
   .rintro rfl
    rcases he with z |z
    .exact nown c b hc z
    .rw[hc]at z;cases z;exact hb rfl
end
structure Un(fs ex:List Addr)(H H':Hp)(h h':Heap):Prop where
 keep:∀b o,h.get? b=some o->H b=none->b∉fs->b∉ex->h'.get? b=some o
 slot:∀b o,h.get? b=some o->H b=none->b∈fs->b∉ex->∃sl,h'.get? b=some {o with slots:=sl}
 free:∀b o,h.get? b=some o->H b=none->b∉ex->H' b=none
 there:∀b o,h.get? b=some o->b∉ex->∃o',h'.get? b=some o'
 tups:∀b xs,H b=some (.tup xs)->H' b=some (.tup xs)
 frzs:∀b o u,H b=some (.frz o u)->H' b=some (.frz o u)
 tbls:∀b ps,H b=some (.tbl ps)->∃more,H' b=some (.tbl (ps++more))
section
variable{fs fs' ex ex':List Addr}{H H1 H2:Hp}{h h1 h2 h':Heap}{a x e:Addr}{o:HO}
theorem Un.any(u:Un fs ex H H1 h h1){b:Addr}{ob:Obj}(q:h.get? b=some ob)(n:H b=none)(hx:b∉ex):∃sl,h1.get? b=some {ob with slots:=sl}:=by
 by_cases hb:b∈fs
 .exact u.slot b ob q n hb hx
 .exact⟨ob.slots,u.keep b ob q n hb hx⟩
theorem Un.kept(k:∀b u,h.get? b=some u->h'.get? b=some u):Un fs ex H H h h':=
 ⟨λb ob q _ _ _=>k b ob q,λb ob q _ _ _=>⟨ob.slots,k b ob q⟩,λ_ _ _ n _=>n,λb ob q _=>⟨ob,k b ob q⟩,λ_ _ q=>q,λ_ _ _ q=>q,λ_ ps q=>⟨#[],by rw[q];simp⟩⟩
theorem Un.refl:Un fs ex H H h h:=Un.kept λ_ _ q=>q
theorem Un.laid(k:∀b u,h.get? b=some u->h'.get? b=some u)(hp:h.objs.size≤a)(hn:H a=none):Un fs ex H (upd H a o) h h' where
 keep:=λb u q _ _ _=>k b u q
 slot:=λb u q _ _ _=>⟨u.slots,k b u q⟩
 free:=λb u q n _=>by rw[az (Nat.ne_of_lt (Nat.lt_of_lt_of_le (Heap.lt_size q) hp))];exact n
 there:=λb u q _=>⟨u,k b u q⟩
 tups:=λb xs q=>by rw[az (au q hn)];exact q
 frzs:=λb u xs q=>by rw[az (au q hn)];exact q
 tbls:=λb ps q=>⟨#[],by rw[az (au q hn),q];simp⟩
theorem Un.write(mu:Mut (H x))(he:e=x\/H e=some (.own x))(k:∀b u,b≠e->h.get? b=some u->h'.get? b=some u)(heo:∃u,h'.get? e=some u):Un fs ex H (upd H x o) h h':=by
 have hx:∀b,H b=none->b≠x:=λb n z=>by subst z;rw[n]at mu;exact mu
 have hb:∀b,H b=none->b≠e:=λb n z=>by
  subst z
  rcases he with r |r
  .exact hx b n r
  .rw[n]at r;cases r
 have hm:∀b u,H b=some u->¬Mut (some u)->b≠x:=λb u q nm z=>by subst z;rw[q]at mu;exact nm mu
 refine⟨λb u q n _ _=>k b u (hb b n) q,λb u q n _ _=>⟨u.slots,k b u (hb b n) q⟩,λb u q n _=>by rw[az (hx b n)];exact n,λb u q _=>?_,
  λb xs q=>by rw[az (hm b _ q λz=>z)];exact q,λb u xs q=>by rw[az (hm b _ q λz=>z)];exact q,λb ps q=>⟨#[],by rw[az (hm b _ q λz=>z),q];simp⟩⟩
 by_cases hbe:b=e
 .subst hbe;exact heo
 .exact⟨u,k b u hbe q⟩
end
def VL(h:Heap)(H:Hp):List Addr:=(List.range h.objs.size).filter λa=>(H a).isSome
def El(h:Heap)(H:Hp):Heap:=W.hideAll h (VL h H)
theorem PB(h:Heap)(H:Hp):(El h H).objs.size=h.objs.size:=W.hideAll_size _ _
theorem RX{h:Heap}{H:Hp}{b:Addr}{o:Obj}(e:h.get? b=some o)(n:H b=none):(El h H).get? b=some o:=
 W.hideAll_get _ e λhm=>by
  have q:(H b).isSome=true:=(List.mem_filter.mp hm).2
  rw[n]at q;simp at q
theorem Vw{h:Heap}{H:Hp}{b:Addr}{o:Obj}(e:(El h H).get? b=some o):h.get? b=some o/\H b=none:=by
 have e':h.get? b=some o:=W.of_hideAll (VL h H) e
 refine⟨e',?_⟩
 cases q:H b with
 |none=>rfl
 |some x=>
  have hm:b∈VL h H:=List.mem_filter.mpr ⟨List.mem_range.mpr (Heap.lt_size e'),by simp[q]⟩
  have z:(El h H).get? b=none:=W.hideAll_none (VL h H) hm
  rw[z]at e;cases e
def W9(g h:Heap)(L:Addr):List (Addr×Obj):=(List.range h.objs.size).filterMap λa=>if a=L\/(g.get? a).isSome=true then none else(h.get? a).map λo=>(a,o)
def rest(g h:Heap)(L d:Addr):List (Addr×Obj):=(W9 g h L).filter λp=>decide (p.1≠d)
structure Mod(K:W.Frag)(mg:Str->Option Value)(base:Heap):Prop where
 kin:K.In base
 glob:base.Ns mainGlobals mg
 blt:∃mb,base.Ns builtinsNs mb/\∀x:Str,x≠"__name__"->mb x=bootBuiltins x
 nolimit:base.NoLimit
structure Cx where
 prog:Program
 w:World
 K:W.Frag
 mg:Str->Option Value
 base:Heap
 A:Around
 N:List Str
 s₀:Shared
 H₀:Hp
 env:Env
 outer:List Env
 stack:List Env
 ex:List Addr
 fn:Str->Bool
 calm:Bool
 pn:List (Addr×Obj)
 xe:Value->Shared->Prop
def Gs(l:List Env):List Addr:=l.filterMap (·.frame)
abbrev Cx.fs(X:Cx):List Addr:=Gs X.outer
def Vis(sc:Scope)(x:Str):Prop:=sc.names.lookup x=some .local\/sc.names.lookup x=some .cell\/sc.names.lookup x=some .free
def Loc(sc:Scope)(x:Str):Prop:=sc.names.lookup x=some .local\/sc.names.lookup x=some .cell
def Look(env:Env)(h:Heap)(m:Str->Option Value)(x:Str)(u:Value):Prop:=
 (env.kindOf x=some .local/\m x=some u)\/((env.kindOf x=some .cell\/env.kindOf x=some .free)/\∃c,env.cells.lookup x=some c/\h.IsCell c (some u))
structure Cx.Ok(X:Cx):Prop where
 mod:Mod X.K X.mg X.base
 kind:X.env.scope.kind= .function
 glob:X.env.globals=mainGlobals
 blt:X.env.builtins=builtinsNs
 above:X.s₀.heap.objs.size≤X.env.locals
 inj:∀x y c,X.env.cells.lookup x=some c->X.env.cells.lookup y=some c->x=y
 has:∀x,(X.env.kindOf x=some .cell\/X.env.kindOf x=some .free)->∃c,X.env.cells.lookup x=some c
 cab:∀x c,X.fn x=true->X.env.cells.lookup x=some c->X.s₀.heap.objs.size≤c
 hd:X.calm=true->X.A.handled=none
 frames:X.A.frames=some X.stack
 stk:X.stack=X.outer\/(X.stack=X.env::X.outer/\X.env.frame=some X.env.locals)
 exf:∀b∈X.ex,b≠X.env.locals/\∀x c,X.env.cells.lookup x=some c->c≠b
 bs:∀b o,X.base.get? b=some o->X.s₀.heap.get? b=some o/\X.H₀ b=none
 bsz:X.base.objs.size≤X.s₀.heap.objs.size
 noex:∀b o,X.base.get? b=some o->b∉X.ex
 exfs:∀b∈X.ex,b∉X.fs
 funs:X.s₀.heap.FunFrames X.base X.outer
 frf:∀b∈X.fs,X.H₀ b=none
structure Inv(X:Cx)(pins:List (Addr×Obj))(σ:List (Option V))(H:Hp)(s:Shared):Prop where
 ok:X.Ok
 os:s.os=X.s₀.os
 bare:AllBare s.gens
 base:Un X.fs X.ex X.H₀ H X.s₀.heap s.heap
 loc:∃m,s.heap.Ns X.env.locals m/\∀(i:Nat) (x:Str) (v:V),X.N[i]? =some x->σ[i]? =some (some v)->Vis X.env.scope x->∃u,RelV v u/\Look X.env s.heap m x u
 cell:∀x c,X.env.cells.lookup x=some c->∃v,s.heap.IsCell c v
 free:H X.env.locals=none
 freeC:∀x c,X.env.cells.lookup x=some c->H c=none
 pin:∀p∈X.pn++pins,s.heap.get? p.1=some p.2/\H p.1=none/\p.1≠X.env.locals/\p.1∉X.fs/\∀v,p.2.data≠ .cell v
 hok:uY X.prog X.w H s.heap
 len:σ.length=X.N.length
section
variable{X:Cx}{pins:List (Addr×Obj)}{σ:List (Option V)}{H H':Hp}{s:Shared}{h':Heap}
theorem Cx.Ok.nofr(ok:X.Ok){b:Addr}{o:Obj}(e:X.base.get? b=some o):b∉X.fs:=λhb=>by
 have :=(ok.funs.mem hb).1
 rw[e]at this;cases this
theorem Inv.bs(I:Inv X pins σ H s):∀b o,X.base.get? b=some o->s.heap.get? b=some o/\H b=none:=λb o e=>
 ⟨I.base.keep b o (I.ok.bs b o e).1 (I.ok.bs b o e).2 (I.ok.nofr e) (I.ok.noex b o e),I.base.free b o (I.ok.bs b o e).1 (I.ok.bs b o e).2 (I.ok.noex b o e)⟩
theorem Inv.bk(I:Inv X pins σ H s):∀b o,X.base.get? b=some o->s.heap.get? b=some o:=λb o e=>(I.bs b o e).1
theorem Inv.mod(I:Inv X pins σ H s):Mod X.K X.mg X.base:=I.ok.mod
theorem Inv.kIn(I:Inv X pins σ H s):X.K.In s.heap:=I.ok.mod.kin.keeps I.bk
theorem Inv.lt(I:Inv X pins σ H s):X.env.locals<s.heap.objs.size:=let⟨_,hn,_⟩:=I.loc;hn.lt
theorem Inv.sz(I:Inv X pins σ H s):X.s₀.heap.objs.size≤s.heap.objs.size:=Nat.le_trans I.ok.above (Nat.le_of_lt I.lt)
theorem Inv.nofs(I:Inv X pins σ H s){a:Addr}(h:s.heap.objs.size≤a):a∉X.fs:=λhb=>by
 obtain⟨_,o,ho,_⟩:=I.ok.funs.mem hb
 exact absurd (Nat.lt_of_lt_of_le (Heap.lt_size ho) (Nat.le_trans I.sz h)) (Nat.lt_irrefl _)
theorem Inv.cne(I:Inv X pins σ H s):∀x c,X.env.cells.lookup x=some c->c≠X.env.locals:=λx c e z=>by
 obtain⟨v,o,ho,hd⟩:=I.cell x c e
 obtain⟨m,⟨o',es,ep,ho',hd',_⟩,_⟩:=I.loc
 rw[z,ho']at ho;cases ho;rw[hd']at hd;cases hd
theorem Inv.funs(I:Inv X pins σ H s):s.heap.FunFrames X.base X.outer:=by
 have all:∀(l:List Env),(∀b∈Gs l,b∈X.fs)->X.s₀.heap.FunFrames X.base l->s.heap.FunFrames X.base l:=by
  intro l
  induction l with
  |nil=>intro _ _;trivial
  |cons env r ih=>
   intro hs hl
   obtain⟨hk,⟨L,o,hf,hn,ho,hd⟩,hr⟩:=hl
   have hL:L∈X.fs:=hs L (by unfold Gs;rw[List.filterMap_cons,hf];exact List.mem_cons_self)
   obtain⟨sl,e⟩:=I.base.slot L o ho (I.ok.frf L hL) hL λz=>I.ok.exfs L z hL
   exact⟨hk,⟨L,_,hf,hn,e,hd⟩,ih (λb hb=>hs b (by unfold Gs;rw[List.filterMap_cons,hf];exact List.mem_cons_of_mem _ hb)) hr⟩
 exact all X.outer (λ_ hb=>hb) I.ok.funs
theorem Inv.stack(I:Inv X pins σ H s):s.heap.FunFrames X.base X.stack:=by
 rcases I.ok.stk with e |⟨e,hf⟩
 .rw[e];exact I.funs
 .rw[e]
  obtain⟨m,hn,_⟩:=I.loc
  refine .cons (by rw[I.ok.kind];decide) hf hn ?_ I.funs
  exact Heap.get?_none_of_le (Nat.le_trans I.ok.bsz I.ok.above)
theorem Inv.stkSub(I:Inv X pins σ H s):∀b∈Gs X.stack,b∈X.env.locals::X.fs:=λb hb=>by
 rcases I.ok.stk with e |⟨e,hf⟩
 .rw[e]at hb;exact List.mem_cons_of_mem _ hb
 .rw[e]at hb
  unfold Gs at hb
  rw[List.filterMap_cons,hf]at hb
  exact hb
theorem Inv.stkFree(I:Inv X pins σ H s):∀b∈Gs X.stack,H b=none:=λb hb=>by
 rcases List.mem_cons.mp (I.stkSub b hb)with e |hb
 .rw[e];exact I.free
 .obtain⟨_,o,ho,_⟩:=I.ok.funs.mem hb
  exact I.base.free b o ho (I.ok.frf b hb) λz=>I.ok.exfs b z hb
theorem Inv.step{g':Array GenState}{t':Nat}{d':Drawn}{ch:List Addr}(I:Inv X pins σ H s)
  (hch:∀b∈ch,(b∈X.ex\/X.s₀.heap.get? b=none)/\b≠X.env.locals/\(∀x c,X.env.cells.lookup x=some c->c≠b)/\∀p∈X.pn++pins,p.1≠b)
  (keep:∀b o,b≠X.env.locals->b∉X.fs->b∉ch->s.heap.get? b=some o->H b=none->h'.get? b=some o)
  (slot:∀b o,b≠X.env.locals->b∈X.fs->b∉ch->s.heap.get? b=some o->H b=none->∃sl,h'.get? b=some {o with slots:=sl}) (free:∀b o,b∉ch->s.heap.get? b=some o->H b=none->H' b=none)
  (there:∀b o,b∉ch->s.heap.get? b=some o->∃o',h'.get? b=some o')
  (tups:∀b xs,H b=some (.tup xs)->H' b=some (.tup xs)) (frzs:∀b o u,H b=some (.frz o u)->H' b=some (.frz o u)) (tbls:∀b ps,H b=some (.tbl ps)->∃more,H' b=some (.tbl (ps++more)))
  (ns:∀m,s.heap.Ns X.env.locals m->h'.Ns X.env.locals m) (hok:uY X.prog X.w H' h') (hg:AllBare g'):
  Inv X pins σ H' {s with heap:=h',gens:=g',drawn:=d',toks:=t'}:=by
 have neL:∀b o,X.s₀.heap.get? b=some o->b≠X.env.locals:=λb o e=>Nat.ne_of_lt (Nat.lt_of_lt_of_le (Heap.lt_size e) I.ok.above)
 have neC:∀b o,X.s₀.heap.get? b=some o->b∉X.ex->b∉ch:=λb o e hx hb=>by
  rcases(hch b hb).1 with z |z
  .exact hx z
  .rw[e]at z;cases z
 have cellK:∀x c,X.env.cells.lookup x=some c->∀v,s.heap.IsCell c v->h'.IsCell c v:=λx c e v ⟨o,ho,hd⟩=>by
  have nch:c∉ch:=λz=>(hch c z).2.2.1 x c e rfl
  by_cases hc:c∈X.fs
  .obtain⟨sl,q⟩:=slot c o (I.cne x c e) hc nch ho (I.freeC x c e)
   exact⟨_,q,hd⟩
  .exact⟨o,keep c o (I.cne x c e) hc nch ho (I.freeC x c e),hd⟩
 refine⟨I.ok,I.os,hg,⟨λb o e n hb hx=>?_,λb o e n hb hx=>?_,λb o e n hx=>?_,λb o e hx=>?_,λb xs e=>tups b xs (I.base.tups b xs e),λb o xs e=>frzs b o xs (I.base.frzs b o xs e),λb ps e=>?_⟩,?_,λx c e=>?_,?_,λx c e=>?_,λp hp=>?_,hok,I.len⟩
 .exact keep b o (neL b o e) hb (neC b o e hx) (I.base.keep b o e n hb hx) (I.base.free b o e n hx)
 .obtain⟨sl,e1⟩:=I.base.slot b o e n hb hx
  obtain⟨sl',e2⟩:=slot b _ (neL b o e) hb (neC b o e hx) e1 (I.base.free b o e n hx)
  exact⟨sl',e2⟩
 .obtain⟨o',e1⟩:=I.base.there b o e hx
  exact free b o' (neC b o e hx) e1 (I.base.free b o e n hx)
 .obtain⟨o',e1⟩:=I.base.there b o e hx
  exact there b o' (neC b o e hx) e1
 .obtain⟨m1,e1⟩:=I.base.tbls b ps e
  obtain⟨m2,e2⟩:=tbls b _ e1
  exact⟨m1++m2,by rw[e2,Array.append_assoc]⟩
 .obtain⟨m,hn,hl⟩:=I.loc
  refine⟨m,ns m hn,λi x v e1 e2 e3=>?_⟩
  obtain⟨u,r,l⟩:=hl i x v e1 e2 e3
  refine⟨u,r,?_⟩
  rcases l with l |⟨k,c,e,z⟩
  .exact .inl l
  .exact .inr ⟨k,c,e,cellK x c e _ z⟩
 .obtain⟨v,z⟩:=I.cell x c e
  exact⟨v,cellK x c e v z⟩
 .obtain⟨m,⟨o,_,_,ho,_⟩,_⟩:=I.loc
  exact free _ o (λz=>(hch _ z).2.1 rfl) ho I.free
 .obtain⟨v,o,ho,hd⟩:=I.cell x c e
  exact free c o (λz=>(hch c z).2.2.1 x c e rfl) ho (I.freeC x c e)
 .obtain⟨e,n,ne,nf,d⟩:=I.pin p hp
  have nch:p.1∉ch:=λz=>(hch p.1 z).2.2.2 p hp rfl
  exact⟨keep p.1 p.2 ne nf nch e n,free p.1 p.2 nch e n,ne,nf,d⟩
theorem Inv.un{t':Nat}(I:Inv X pins σ H s)(u:Un X.fs [] H H' s.heap h')(hok:uY X.prog X.w H' h'):Inv X pins σ H' {s with heap:=h',toks:=t'}:=by
 obtain⟨m,⟨o,es,ep,ho,r⟩,_⟩:=id I.loc
 obtain⟨sl,hL⟩:=u.any ho I.free (by simp)
 exact I.step (g':=s.gens) (d':=s.drawn) (ch:=[]) (λ_ z=>nomatch z) (λb o _ hb _ e n=>u.keep b o e n hb (by simp)) (λb o _ hb _ e n=>u.slot b o e n hb (by simp)) (λb o _ e n=>u.free b o e n (by simp)) (λb o _ e=>u.there b o e (by simp)) u.tups u.frzs u.tbls (λm' hm=>by
  obtain⟨o',es',ep',ho',r'⟩:=hm
  rw[ho]at ho';cases ho'
  exact⟨_,es',ep',hL,r'⟩) hok I.bare
theorem Inv.call{g':Array GenState}{t':Nat}{d':Drawn}{ch:List Addr}(I:Inv X pins σ H s)(u:Un (Gs X.stack) ch H H' s.heap h')(hok:uY X.prog X.w H' h')(hg:AllBare g')
  (hch:∀b∈ch,(b∈X.ex\/X.s₀.heap.get? b=none)/\b≠X.env.locals/\(∀x c,X.env.cells.lookup x=some c->c≠b)/\∀p∈X.pn++pins,p.1≠b):
  Inv X pins σ H' {s with heap:=h',gens:=g',drawn:=d',toks:=t'}:=by
 obtain⟨m,⟨o,es,ep,ho,r⟩,_⟩:=id I.loc
 obtain⟨sl,hL⟩:=u.any ho I.free λz=>(hch _ z).2.1 rfl
 exact I.step (ch:=ch) hch (λb o hL hb hc e n=>u.keep b o e n (λz=>(List.mem_cons.mp (I.stkSub b z)).elim hL hb) hc) (λb o _ _ hc e n=>u.any e n hc) (λb o hc e n=>u.free b o e n hc) (λb o hc e=>u.there b o e hc) u.tups u.frzs u.tbls (λm' hm=>by
  obtain⟨o',es',ep',ho',r'⟩:=hm
  rw[ho]at ho';cases ho'
  exact⟨_,es',ep',hL,r'⟩) hok hg
theorem Inv.turned{t':Nat}{it:Addr}(I:Inv X pins σ H s)(k:∀b o,b≠it->s.heap.get? b=some o->h'.get? b=some o)(hn:H it=none)(hL:it≠X.env.locals)
  (h1:it∈X.ex\/X.s₀.heap.get? it=none) (h2:∀x c,X.env.cells.lookup x=some c->c≠it) (h3:∀p∈X.pn++pins,p.1≠it):Inv X pins σ H {s with heap:=h',toks:=t'}:=by
 have nit:∀b u,H b=some u->b≠it:=λb u e z=>by rw[z,hn]at e;cases e
 refine I.step (g':=s.gens) (d':=s.drawn) (ch:=[it]) (λb hb=>?_) (λb o _ _ hc e _=>k b o (λz=>hc (by simp[z])) e) (λb o _ _ hc e _=>⟨o.slots,k b o (λz=>hc (by simp[z])) e⟩) (λ_ _ _ _ n=>n)
  (λb o hc e=>⟨o,k b o (λz=>hc (by simp[z])) e⟩) (λ_ _ e=>e) (λ_ _ _ e=>e) (λb ps e=>⟨#[],by rw[e];simp⟩) (λm hm=>?_) (λb u e=>?_) I.bare
 .have e:b=it:=by simpa using hb
  subst e
  exact⟨h1,hL,h2,h3⟩
 .obtain⟨o,es,ep,ho,r⟩:=hm
  exact⟨o,es,ep,k _ o (Ne.symm hL) ho,r⟩
 .refine(I.hok b u e).stay (λc v hc q=>k c v ?_ q) (λ_ q=>q) λ_ _ q=>q
  rcases hc with z |z
  .rw[z];exact nit b u e
  .exact nit c _ z
theorem Inv.tok(I:Inv X pins σ H s)(t:Nat):Inv X pins σ H {s with toks:=t}:=I.un (h':=s.heap) (t':=t) Un.refl I.hok
theorem Inv.kept{t':Nat}(I:Inv X pins σ H s)(k:∀b u,s.heap.get? b=some u->h'.get? b=some u):Inv X pins σ H {s with heap:=h',toks:=t'}:=I.un (Un.kept k) (I.hok.kept k)
theorem Inv.laid{a:Addr}{o:HO}{t':Nat}(I:Inv X pins σ H s)(k:∀b u,s.heap.get? b=some u->h'.get? b=some u)(hp:s.heap.objs.size≤a)(new:fO X.prog X.w (upd H a o) h' a o):
  Inv X pins σ (upd H a o) {s with heap:=h',toks:=t'}:=I.un (Un.laid k hp (I.hok.fresh hp)) (I.hok.laid k hp new)
theorem Inv.write{x e:Addr}{o:HO}{t':Nat}(I:Inv X pins σ H s)(mu:Mut (H x))(he:e=x\/H e=some (.own x))(k:∀b u,b≠e->s.heap.get? b=some u->h'.get? b=some u)(heo:∃u,h'.get? e=some u)
  (new:fO X.prog X.w (upd H x o) h' x o):Inv X pins σ (upd H x o) {s with heap:=h',toks:=t'}:=I.un (Un.write mu he k heo) (I.hok.write mu he k heo new)
theorem Inv.pins_of{pins':List (Addr×Obj)}(I:Inv X pins σ H s)(h:∀p∈pins',s.heap.get? p.1=some p.2/\H p.1=none/\p.1≠X.env.locals/\p.1∉X.fs/\∀v,p.2.data≠ .cell v):Inv X pins' σ H s:=
 ⟨I.ok,I.os,I.bare,I.base,I.loc,I.cell,I.free,I.freeC,λp hp=>(List.mem_append.mp hp).elim (λz=>I.pin p (List.mem_append_left _ z)) (h p),I.hok,I.len⟩
theorem Gz{N:List Str}(hN:N.Nodup){i j:Nat}{x:Str}(a:N[i]? =some x)(b:N[j]? =some x):i=j:=by
 obtain⟨h1,e1⟩:=List.getElem?_eq_some_iff.mp a
 obtain⟨h2,e2⟩:=List.getElem?_eq_some_iff.mp b
 exact(List.getElem_inj hN).mp (e1.trans e2.symm)
theorem vN{M:Model}{A:Around}{E:Value->Shared->Prop}{i:Nat}{x:Str}{v:V}{u:Value}{Q:Unit->Shared->Prop}(I:Inv X pins σ H s)(hN:X.N.Nodup)(hi:X.N[i]? =some x)(hx:Loc X.env.scope x)(r:RelV v u)
  (h:∀s',Inv X pins (σ.set i (some v)) H s'->(∃a,Heap.SameBut a s.heap s'.heap/\(a=X.env.locals\/X.env.cells.lookup x=some a))->Q () s') (hf:X.fn x=true\/X.env.scope.names.lookup x=some .local:=by first |exact .inl rfl |exact .inr rfl |assumption):wpAny M A (storeName X.env x u) Q E s:=by
 obtain⟨m,hn,hl⟩:=id I.loc
 have hcls:(X.env.scope.kind== .class||(X.env.scope.kind== .module&&X.env.locals !=X.env.globals))=false:=by rw[I.ok.kind];rfl
 have hiσ:i<σ.length:=by rw[I.len];exact(List.getElem?_eq_some_iff.mp hi).1
 have cne:=I.cne
 have tracked:∀{a:Addr} {h':Heap},(∃o,s.heap.get? a=some o/\H a=none)->Heap.SameBut a s.heap h'->uY X.prog X.w H h':=λ{a h'} ha hs b ob e=>by
  obtain⟨_,_,hfree⟩:=ha
  refine(I.hok b ob e).stay (λc w' hc q=>(hs.2 c ?_).trans q) (λ_ q=>q) λ_ _ q=>q
  rintro rfl
  rcases hc with rfl |hc
  .rw[hfree]at e;cases e
  .rw[hfree]at hc;cases hc
 rcases hx with hk |hk
 .refine wpAny_storeName_local hk hn (λh' hn' hs=>?_) hcls
  obtain⟨oL,_,_,hoL,_⟩:=id hn
  refine h _ ⟨I.ok,I.os,I.bare,⟨λb o e n hb hx=>?_,λb o e n hb hx=>?_,I.base.free,λb o e hx=>?_,I.base.tups,I.base.frzs,I.base.tbls⟩,⟨_,hn',λj y v' e1 e2 e3=>?_⟩,λy c e=>?_,I.free,I.freeC,λp hp=>?_,tracked ⟨oL,hoL,I.free⟩ hs,by simpa using I.len⟩ ⟨_,hs,.inl rfl⟩
  .exact(hs.2 b (Nat.ne_of_lt (Nat.lt_of_lt_of_le (Heap.lt_size e) I.ok.above))).trans (I.base.keep b o e n hb hx)
  .obtain⟨sl,e1⟩:=I.base.slot b o e n hb hx
   exact⟨sl,(hs.2 b (Nat.ne_of_lt (Nat.lt_of_lt_of_le (Heap.lt_size e) I.ok.above))).trans e1⟩
  .obtain⟨o',e1⟩:=I.base.there b o e hx
   exact⟨o',(hs.2 b (Nat.ne_of_lt (Nat.lt_of_lt_of_le (Heap.lt_size e) I.ok.above))).trans e1⟩
  .by_cases hj:j=i
   .subst hj
    rw[hi]at e1;cases e1
    rw[List.getElem?_set_self hiσ]at e2
    cases e2
    exact⟨u,r,.inl ⟨hk,by simp⟩⟩
   .rw[List.getElem?_set_ne (Ne.symm hj)]at e2
    obtain⟨u',r',q⟩:=hl j y v' e1 e2 e3
    refine⟨u',r',?_⟩
    rcases q with⟨k,e⟩ |⟨k,c,e,z⟩
    .refine .inl ⟨k,?_⟩
     have :y≠x:=λe=>hj (Gz hN e1 (e▸hi))
     simp[this,e]
    .exact .inr ⟨k,c,e,z.sameBut hs (cne y c e)⟩
  .obtain⟨w',z⟩:=I.cell y c e
   exact⟨w',z.sameBut hs (cne y c e)⟩
  .obtain⟨e,n,ne,nf,d⟩:=I.pin p hp
   exact⟨(hs.2 p.1 ne).trans e,n,ne,nf,d⟩
 .have hfn:X.fn x=true:=by
   rcases hf with z |z
   .exact z
   .rw[z]at hk;cases hk
  obtain⟨c,hc⟩:=I.ok.has x (.inl hk)
  obtain⟨w',z⟩:=I.cell x c hc
  refine wpAny_storeName_cell I.ok.kind hk hc z (λh' hc' hs=>?_)
  obtain⟨oc,hoc,hocd⟩:=id z
  refine h {s with heap:=h'} ⟨I.ok,I.os,I.bare,⟨λb o e n hb hx=>?_,λb o e n hb hx=>?_,I.base.free,λb o e hx=>?_,I.base.tups,I.base.frzs,I.base.tbls⟩,⟨m,hn.sameBut hs (Ne.symm (cne x c hc)),λj y v' e1 e2 e3=>?_⟩,λy c' e=>?_,I.free,I.freeC,λp hp=>?_,tracked ⟨oc,hoc,I.freeC x c hc⟩ hs,by simpa using I.len⟩ ⟨c,hs,.inr hc⟩
  .exact(hs.2 b (Nat.ne_of_lt (Nat.lt_of_lt_of_le (Heap.lt_size e) (I.ok.cab x c hfn hc)))).trans (I.base.keep b o e n hb hx)
  .obtain⟨sl,e1⟩:=I.base.slot b o e n hb hx
   exact⟨sl,(hs.2 b (Nat.ne_of_lt (Nat.lt_of_lt_of_le (Heap.lt_size e) (I.ok.cab x c hfn hc)))).trans e1⟩
  .obtain⟨o',e1⟩:=I.base.there b o e hx
   exact⟨o',(hs.2 b (Nat.ne_of_lt (Nat.lt_of_lt_of_le (Heap.lt_size e) (I.ok.cab x c hfn hc)))).trans e1⟩
  .by_cases hj:j=i
   .subst hj
    rw[hi]at e1;cases e1
    rw[List.getElem?_set_self hiσ]at e2
    cases e2
    exact⟨u,r,.inr ⟨.inl hk,c,hc,hc'⟩⟩
   .rw[List.getElem?_set_ne (Ne.symm hj)]at e2
    obtain⟨u',r',q⟩:=hl j y v' e1 e2 e3
    refine⟨u',r',?_⟩
    rcases q with q |⟨k,c',e,z'⟩
    .exact .inl q
    .refine .inr ⟨k,c',e,z'.sameBut hs ?_⟩
     rintro rfl
     exact hj (Gz hN e1 (I.ok.inj _ _ _ e hc▸hi))
  .by_cases hcc:c'=c
   .subst hcc;exact⟨_,hc'⟩
   .obtain⟨w2,z2⟩:=I.cell y c' e
    exact⟨w2,z2.sameBut hs hcc⟩
  .obtain⟨e,n,ne,nf,d⟩:=I.pin p hp
   refine⟨(hs.2 p.1 ?_).trans e,n,ne,nf,d⟩
   intro q
   rw[q,hoc]at e
   have q':oc=p.2:=Option.some.inj e
   exact d w' (by rw[<-q'];exact hocd)
theorem Hx{M:Model}{A:Around}{E:Value->Shared->Prop}{i:Nat}{x:Str}{v:V}{u:Value}{Q:Unit->Shared->Prop}(I:Inv X pins σ H s)(hN:X.N.Nodup)(hi:X.N[i]? =some x)(hx:Loc X.env.scope x)(r:RelV v u)
  (h:∀s',Inv X pins (σ.set i (some v)) H s'->Q () s') (hf:X.fn x=true\/X.env.scope.names.lookup x=some .local:=by first |exact .inl rfl |exact .inr rfl |assumption):wpAny M A (storeName X.env x u) Q E s:=
 vN I hN hi hx r (λs' I' _=>h s' I') hf
theorem Inv.call'{s':Shared}{ch:List Addr}(I:Inv X pins σ H s)(ho:s'.os=s.os)(u:Un (Gs X.stack) ch H H' s.heap s'.heap)(hok:uY X.prog X.w H' s'.heap)(hg:AllBare s'.gens)
  (hch:∀b∈ch,(b∈X.ex\/X.s₀.heap.get? b=none)/\b≠X.env.locals/\(∀x c,X.env.cells.lookup x=some c->c≠b)/\∀p∈X.pn++pins,p.1≠b):Inv X pins σ H' s':=by
 obtain⟨h',g',d',t',o'⟩:=s'
 have e:o'=s.os:=ho
 subst e
 exact I.call (g':=g') (t':=t') (d':=d') u hok hg hch
end
abbrev XK:=Value->Option Addr×Bool->Hp->Prop
abbrev St:=List (Option V)
abbrev VK:=V->Hp->Prop
abbrev TE:=St->Hp->VK->Prop
abbrev TT:=St->Hp->(Bool->Hp->Prop)->Prop
abbrev TA:=St->Hp->(List V->Hp->Prop)->Prop
structure Ends where
 nx:St->Hp->Prop
 rt:VK
 bk:St->Hp->Prop:=λ_ _=>False
 ct:St->Hp->Prop:=λ_ _=>False
abbrev TS:=Ends->St->Hp->Prop
def EP(X:Cx)(pins:List (Addr×Obj))(σ:St)(Q:VK)(u:Value)(s':Shared):Prop:=∃v H',Inv X pins σ H' s'/\RelV v u/\Q v H'
def TP(X:Cx)(pins:List (Addr×Obj))(σ:St)(Q:Bool->Hp->Prop)(b:Bool)(s':Shared):Prop:=∃H',Inv X pins σ H' s'/\Q b H'
def AP(X:Cx)(pins:List (Addr×Obj))(σ:St)(Q:List V->Hp->Prop)(us:List Value)(s':Shared):Prop:=∃vs H',Inv X pins σ H' s'/\Vals vs us/\Q vs H'
def SP(X:Cx)(pins:List (Addr×Obj))(D:Ends)(f:Flow)(s':Shared):Prop:=
 match f with
 | .next=>∃σ' H',Inv X pins σ' H' s'/\D.nx σ' H'
 | .brk=>∃σ' H',Inv X pins σ' H' s'/\D.bk σ' H'
 | .cont=>∃σ' H',Inv X pins σ' H' s'/\D.ct σ' H'
 | .ret u=>∃v σ' H',Inv X pins σ' H' s'/\RelV v u/\D.rt v H'
def PE(X:Cx)(e:Expr)(t:TE):Prop:=
 ∀(pins:List (Addr×Obj)) (s:Shared) (σ:St) (H:Hp) (Q:VK),Inv X pins σ H s->t σ H Q->wpAny (model X.prog X.w) X.A (eval e X.env) (EP X pins σ Q) X.xe s
def PT(X:Cx)(e:Expr)(t:TT):Prop:=
 ∀(pins:List (Addr×Obj)) (s:Shared) (σ:St) (H:Hp) (Q:Bool->Hp->Prop),Inv X pins σ H s->t σ H Q->wpAny (model X.prog X.w) X.A (isTrue e X.env (eval e X.env)) (TP X pins σ Q) X.xe s
def PW(X:Cx)(e:Expr)(t:TT):Prop:=
 ∀(whole:Sem Value) (pins:List (Addr×Obj)) (s:Shared) (σ:St) (H:Hp) (Q:Bool->Hp->Prop),Inv X pins σ H s->t σ H Q->wpAny (model X.prog X.w) X.A (isTrue e X.env whole) (TP X pins σ Q) X.xe s
theorem PW.pt{X:Cx}{e:Expr}{t:TT}(h:PW X e t):PT X e t:=h _
def PA(X:Cx)(es:List Expr)(t:TA):Prop:=
 ∀(pos:Pos) (pins:List (Addr×Obj)) (s:Shared) (σ:St) (H:Hp) (Q:List V->Hp->Prop),Inv X pins σ H s->t σ H Q->wpAny (model X.prog X.w) X.A (spliced (backTo pos (starEach es X.env))) (AP X pins σ Q) X.xe s
def PS(X:Cx)(st:Stmt)(t:TS):Prop:=
 ∀(pins:List (Addr×Obj)) (s:Shared) (σ:St) (H:Hp) (D:Ends),Inv X pins σ H s->t D σ H->wpAny (model X.prog X.w) X.A (exec st X.env) (SP X pins D) X.xe s
def Vi(X:Cx)(st:List Stmt)(t:TS):Prop:=
 ∀(pins:List (Addr×Obj)) (s:Shared) (σ:St) (H:Hp) (D:Ends),Inv X pins σ H s->t D σ H->wpAny (model X.prog X.w) X.A (execs st X.env) (SP X pins D) X.xe s
theorem cR{α:Type}{t:Sem α}{Q Q':α->Shared->Prop}{M:Model}{A:Around}{E:Value->Shared->Prop}{s:Shared}(h:wpAny M A t Q E s)(hQ:∀a s,Q a s->Q' a s):wpAny M A t Q' E s:=wpAny_mono h hQ λ_ _ x=>x
section
variable{X:Cx}
def ap2(i:Nat):TE:=λσ H Q=>∃v,σ[i]? =some (some v)/\Q v H
def tC(v:V):TE:=λ_ H Q=>Q v H
theorem ae6{i:Nat}{x:Str}{pos:Pos}(hN:X.N[i]? =some x)(hv:Vis X.env.scope x)(hd:(x==("__debug__":Str))=false:=by decide)(hcd:(x==("__classdict__":Str))=false:=by decide):PE X (.Name x pos) (ap2 i):=by
 intro pins s σ H Q I h
 obtain⟨v,e,h⟩:=h
 obtain⟨m,hn,hl⟩:=I.loc
 obtain⟨u,r,l⟩:=hl i x v hN e hv
 have fin:EP X pins σ Q u s:=⟨v,H,I,r,h⟩
 rcases l with⟨hk,hm⟩ |⟨hk,c,hc,hcell⟩
 .exact wpAny_Name (wpAny_loadName_local I.ok.kind hk hn hm fin) hd
 .rcases hk with hk |hk
  .exact wpAny_Name (wpAny_loadName_cell I.ok.kind hk hc hcell fin) hd
  .exact wpAny_Name (wpAny_loadName_free I.ok.kind hk hc hcell fin hcd) hd
theorem aak{i j pos}:PE X (.Constant (.int i) j pos) (tC (.int i)):=λ_ _ _ H _ I h=>wpAny_Constant_int ⟨.int i,H,I.tok _,⟨_,rfl⟩,h⟩
theorem ahD{b j pos}:PE X (.Constant (.bool b) j pos) (tC (.bl b)):=λ_ _ _ H _ I h=>Constant_bool ⟨.bl b,H,I,rfl,h⟩
theorem acR{j pos}:PE X (.Constant .none j pos) (tC .non):=λ_ _ _ H _ I h=>Constant_none ⟨.non,H,I,rfl,h⟩
theorem acI{x j pos}:PE X (.Constant (.str x) j pos) (tC (.str x)):=λ_ _ _ H _ I h=>Calls.Constant_str ⟨.str x,H,I.tok _,⟨_,rfl⟩,h⟩
def Gl(X:Cx)(x:Str):Prop:=X.env.kindOf x=some .globalImplicit
theorem mO{E:Value->Shared->Prop}{pins:List (Addr×Obj)}{s:Shared}{σ:St}{H:Hp}{x:Str}{u:Value}{pos:Pos}{Q:Value->Shared->Prop}(I:Inv X pins σ H s)(hg:Gl X x)(hm:X.mg x=some u)(h:Q u s)
  (hd:(x==("__debug__":Str))=false:=by decide):wpAny (model X.prog X.w) X.A (eval (.Name x pos) X.env) Q E s:=
 Calls.Name_function_global I.ok.kind hg (Calls.loadGlobal_global (by rw[I.ok.glob];exact I.mod.glob.keeps I.bk) hm h) hd
theorem qI{E:Value->Shared->Prop}{pins:List (Addr×Obj)}{s:Shared}{σ:St}{H:Hp}{x:Str}{u:Value}{pos:Pos}{Q:Value->Shared->Prop}(I:Inv X pins σ H s)(hg:Gl X x)(hm:X.mg x=none)(hv:bootBuiltins x=some u)(h:Q u s)
  (hn:x≠"__name__":=by decide) (hd:(x==("__debug__":Str))=false:=by decide):wpAny (model X.prog X.w) X.A (eval (.Name x pos) X.env) Q E s:=by
 obtain⟨mb,h1,h2⟩:=I.mod.blt
 exact Calls.Name_function_global I.ok.kind hg (Calls.loadGlobal_builtin (by rw[I.ok.glob];exact I.mod.glob.keeps I.bk) hm (by rw[I.ok.blt];exact h1.keeps I.bk) ((h2 x hn).trans hv) h) hd
theorem W7{x:Str}{v:V}{u:Value}{pos:Pos}(hg:Gl X x)(hm:X.mg x=some u)(r:RelV v u)(hd:(x==("__debug__":Str))=false:=by decide):PE X (.Name x pos) (tC v):=
 λ_ _ _ H _ I h=>mO I hg hm ⟨v,H,I,r,h⟩ hd
theorem Vr{x:Str}{v:V}{u:Value}{pos:Pos}(hg:Gl X x)(hm:X.mg x=none)(hv:bootBuiltins x=some u)(r:RelV v u)(hn:x≠"__name__":=by decide)(hd:(x==("__debug__":Str))=false:=by decide):PE X (.Name x pos) (tC v):=
 λ_ _ _ H _ I h=>qI I hg hm hv ⟨v,H,I,r,h⟩ hn hd
def t2I(ta tb:TE)(k:Int->Int->Hp->Prop):St->Hp->Prop:=λσ H=>ta σ H λx H1=>tb σ H1 λy H2=>∃i j,x= .int i/\y= .int j/\k i j H2
def azR(ta tb:TE):TE:=λσ H Q=>t2I ta tb (λi j H2=>Q (.int (i+j)) H2) σ H
def aAj(ta tb:TE):TE:=λσ H Q=>t2I ta tb (λi j H2=>Q (.int (i-j)) H2) σ H
def ayw(ta tb:TE):TE:=λσ H Q=>t2I ta tb (λi j H2=>(-(2^64)<i/\i<2^64)/\Q (.int (i*j)) H2) σ H
variable{a b:Expr}{ta tb:TE}{pos:Pos}
def PC(X:Cx)(op:CmpOp)(a b:Expr)(t:TE):Prop:=
 ∀(pins:List (Addr×Obj)) (s:Shared) (σ:St) (H:Hp) (Q:VK),Inv X pins σ H s->t σ H Q->
  wpAny (model X.prog X.w) X.A (eval a X.env) (λv s₁=>wpAny (model X.prog X.w) X.A (eval b X.env) (λu s₂=>wpAny (model X.prog X.w) X.A (compareOp op v u) (EP X pins σ Q) X.xe s₂) X.xe s₁) X.xe s
def NT(p:Int->Int->Bool)(ta tb:TE):TE:=λσ H Q=>t2I ta tb (λi j H2=>Q (.bl (p i j)) H2) σ H
abbrev tLt:TE->TE->TE:=NT λi j=>decide (i<j)
abbrev tLe:TE->TE->TE:=NT λi j=>decide (i≤j)
abbrev tGt:TE->TE->TE:=NT λi j=>decide (j<i)
abbrev tGe:TE->TE->TE:=NT λi j=>decide (j≤i)
abbrev ayo:TE->TE->TE:=NT λi j=>decide (i=j)
abbrev ayQ:TE->TE->TE:=NT λi j=> !decide (i=j)
def ax2(ta:TE):TE:=λσ H Q=>ta σ H λx H1=>Q (.bl (decide (x= .non))) H1
def axe(ta:TE):TE:=λσ H Q=>ta σ H λx H1=>Q (.bl (!decide (x= .non))) H1
def tB(t:TE):TT:=λσ H Q=>t σ H λx H1=>∃c,x= .bl c/\Q c H1
variable{tA tB':TT}{rest:List Expr}
def atl(t u:TT):TT:=λσ H Q=>t σ H λc H1=>if c=true then u σ H1 Q else Q false H1
def tOr(t u:TT):TT:=λσ H Q=>t σ H λc H1=>if c=true then Q true H1 else u σ H1 Q
def asf(t:TT):TT:=λσ H Q=>t σ H λc H1=>Q (!c) H1
theorem Wl(ha:PT X a tA):PW X (.BoolOp .And [a] pos) tA:=by
 intro wh pins s σ H Q I h
 refine isTrue_and (cR (ha pins s σ H Q I h) λc s1 e=>?_)
 cases c with
 |true=>exact isTrue_and_nil e
 |false=>exact e
theorem aeR(ha:PT X a tA):PW X (.BoolOp .Or [a] pos) tA:=by
 intro wh pins s σ H Q I h
 refine isTrue_or (cR (ha pins s σ H Q I h) λc s1 e=>?_)
 cases c with
 |false=>exact isTrue_or_nil e
 |true=>exact e
theorem Zg(ha:PT X a tA)(hb:PW X (.BoolOp .And (b::rest) pos) tB'):PW X (.BoolOp .And (a::b::rest) pos) (atl tA tB'):=by
 intro wh pins s σ H Q I h
 refine isTrue_and (cR (ha pins s σ H _ I h) λc s1 ⟨H1,I1,q1⟩=>?_)
 cases c with
 |true=>exact hb wh pins s1 σ H1 Q I1 q1
 |false=>exact⟨H1,I1,q1⟩
theorem agy(ha:PT X a tA)(hb:PW X (.BoolOp .Or (b::rest) pos) tB'):PW X (.BoolOp .Or (a::b::rest) pos) (tOr tA tB'):=by
 intro wh pins s σ H Q I h
 refine isTrue_or (cR (ha pins s σ H _ I h) λc s1 ⟨H1,I1,q1⟩=>?_)
 cases c with
 |true=>exact⟨H1,I1,q1⟩
 |false=>exact hb wh pins s1 σ H1 Q I1 q1
theorem acQ(ha:PT X a tA):PT X (.UnaryOp .Not a pos) (asf tA):=by
 intro pins s σ H Q I h
 exact isTrue_not (ha pins s σ H (λc H1=>Q (!c) H1) I h)
def ahU(ta tb:TE):TE:=λσ H Q=>ta σ H λx H1=>∃c,x= .bl c/\if c=true then tb σ H1 Q else Q (.bl false) H1
def ak3(ta tb:TE):TE:=λσ H Q=>ta σ H λx H1=>∃c,x= .bl c/\if c=true then Q (.bl true) H1 else tb σ H1 Q
def ahq(ta:TE):TE:=λσ H Q=>ta σ H λx H1=>∃c,x= .bl c/\Q (.bl (!c)) H1
theorem adF{op}{t:TE}(h:PE X a t):PE X (.BoolOp op [a] pos) t:=λpins s σ H Q I hw=>BoolOp_one (h pins s σ H Q I hw)
theorem aaP(ha:PE X a ta)(hb:PE X (.BoolOp .And (b::rest) pos) tb):PE X (.BoolOp .And (a::b::rest) pos) (ahU ta tb):=by
 intro pins s σ H Q I h
 refine BoolOp_and (cR (ha pins s σ H _ I h) λv s1 ⟨x,H1,I1,r1,q1⟩=>?_)
 obtain⟨c,rfl,q1⟩:=q1
 cases r1
 refine wpAny_truthy_bool ?_
 cases c with
 |true=>exact hb pins s1 σ H1 Q I1 q1
 |false=>exact⟨.bl false,H1,I1,rfl,q1⟩
theorem ahS(ha:PE X a ta)(hb:PE X (.BoolOp .Or (b::rest) pos) tb):PE X (.BoolOp .Or (a::b::rest) pos) (ak3 ta tb):=by
 intro pins s σ H Q I h
 refine BoolOp_or (cR (ha pins s σ H _ I h) λv s1 ⟨x,H1,I1,r1,q1⟩=>?_)
 obtain⟨c,rfl,q1⟩:=q1
 cases r1
 refine wpAny_truthy_bool ?_
 cases c with
 |false=>exact hb pins s1 σ H1 Q I1 q1
 |true=>exact⟨.bl true,H1,I1,rfl,q1⟩
theorem aaE(ha:PE X a ta):PE X (.UnaryOp .Not a pos) (ahq ta):=by
 intro pins s σ H Q I h
 refine UnaryOp_ (cR (ha pins s σ H _ I h) λv s1 ⟨x,H1,I1,r1,q1⟩=>?_)
 obtain⟨c,rfl,q1⟩:=q1
 cases r1
 exact not_of (wpAny_truthy_bool ⟨.bl (!c),H1,I1,rfl,q1⟩)
def tIf(t:TT)(ta tb:TE):TE:=λσ H Q=>t σ H λc H1=>if c=true then ta σ H1 Q else tb σ H1 Q
theorem Uh{c:Expr}(hc:PT X c tA)(ha:PE X a ta)(hb:PE X b tb):PE X (.IfExp c a b pos) (tIf tA ta tb):=by
 intro pins s σ H Q I h
 refine wpAny_IfExp (cR (hc pins s σ H _ I h) λd s1 ⟨H1,I1,q1⟩=>?_)
 cases d with
 |true=>exact ha pins s1 σ H1 Q I1 q1
 |false=>exact hb pins s1 σ H1 Q I1 q1
end
def bc(K:W.Frag)(H:Hp)(a:Addr)(xs:List V):Prop:=
 Rd H a (.lst xs)\/
  ∃(o:Obj) (its:Array Value) (n:Nat),K.lookup a=some o/\o.cls= .type "list"/\o.dict=none/\o.data= .seq its n/\its.size≤sizeLine/\Vals xs its.toList
def cA(K:W.Frag)(H:Hp)(a:Addr)(xs:List V):Prop:=
 Rd H a (.tup xs)\/
  ∃(o:Obj) (its:Array Value) (n:Nat),K.lookup a=some o/\o.cls= .type "tuple"/\o.data= .seq its n/\its.size≤sizeLine/\Vals xs its.toList
def auW:Value->Option V
 | .none=>some .non
 | .bool b=>some (.bl b)
 | .int i _=>some (.int i)
 | .str x _=>some (.str x)
 | .bytes b _=>some (.byt b)
 | .float b _=>some (.flt b)
 | .ref a=>some (.ref a)
 | .type n=>some (.ty n)
 |_=>none
theorem RelV.abs{x:V}{u:Value}(r:RelV x u):auW u=some x:=by
 cases x with
 |non=>cases r;rfl
 |bl _=>cases r;rfl
 |int _=>obtain⟨t,rfl⟩:=r;rfl
 |str _=>obtain⟨t,rfl⟩:=r;rfl
 |byt _=>obtain⟨t,rfl⟩:=r;rfl
 |flt _=>obtain⟨t,rfl⟩:=r;rfl
 |ref _=>cases r;rfl
 |ty _=>cases r;rfl
theorem RelV.inj{x y:V}{u:Value}(r:RelV x u)(q:RelV y u):x=y:=Option.some.inj (r.abs.symm.trans q.abs)
theorem Vals.inj:∀{xs ys:List V} {us:List Value},Vals xs us->Vals ys us->xs=ys
 |_,_,_,.nil,.nil=>rfl
 |_,_,_,.cons r t,.cons r' t'=>by rw[r.inj r',Vals.inj t t']
section
variable{X:Cx}{pins:List (Addr×Obj)}{σ:St}{H:Hp}{s:Shared}{a:Addr}{xs ys:List V}
theorem bc.of{K:W.Frag}(h:H a=some (.lst xs)):bc K H a xs:=.inl (.inl h)
theorem cA.of{K:W.Frag}(h:H a=some (.tup xs)):cA K H a xs:=.inl (.inl h)
theorem Inv.list(I:Inv X pins σ H s)(h:bc X.K H a xs):∃its:List Value,Vals xs its/\PlainL s.heap a its.toArray/\xs.length≤sizeLine:=by
 rcases h with h |⟨o,its,n,hk,hc,hd,hs,hz,r⟩
 .obtain⟨z,its,n,r,e⟩:=h.ok I.hok
  exact⟨its,r,⟨_,n,e,rfl,rfl,rfl⟩,z⟩
 .refine⟨its.toList,r,⟨o,n,I.kIn a o hk,hc,hd,by simpa using hs⟩,?_⟩
  have e:=r.length
  simp only[Array.length_toList]at e
  omega
theorem Inv.tuple(I:Inv X pins σ H s)(h:cA X.K H a xs):∃its:List Value,Vals xs its/\IsTup s.heap a its.toArray/\xs.length≤sizeLine:=by
 rcases h with h |⟨o,its,n,hk,hc,hs,hz,r⟩
 .obtain⟨z,its,r,p⟩:=h.ok I.hok
  exact⟨its,r,p,z⟩
 .refine⟨its.toList,r,⟨o,I.kIn a o hk,hc,n,by simpa using hs⟩,?_⟩
  have e:=r.length
  simp only[Array.length_toList]at e
  omega
theorem Inv.list_inj(I:Inv X pins σ H s)(h:bc X.K H a xs)(h':bc X.K H a ys):xs=ys:=by
 obtain⟨its,r,⟨o,n,e,_,_,d⟩,_⟩:=I.list h
 obtain⟨its',r',⟨o',n',e',_,_,d'⟩,_⟩:=I.list h'
 rw[e]at e';cases e'
 rw[d]at d'
 injection d' with d1 _
 have :its=its':=by simpa using congrArg Array.toList d1
 subst this
 exact r.inj r'
theorem Inv.tuple_inj(I:Inv X pins σ H s)(h:cA X.K H a xs)(h':cA X.K H a ys):xs=ys:=by
 obtain⟨its,r,⟨o,e,_,n,d⟩,_⟩:=I.tuple h
 obtain⟨its',r',⟨o',e',_,n',d'⟩,_⟩:=I.tuple h'
 rw[e]at e';cases e'
 rw[d]at d'
 injection d' with d1 _
 have :its=its':=by simpa using congrArg Array.toList d1
 subst this
 exact r.inj r'
end
abbrev Cx.wish(X:Cx)(E:Value->Shared->Prop):Cx:={X with xe:=E}
abbrev Cx.nox(X:Cx):Cx:=X.wish λ_ _=>False
section
variable{X:Cx}{pins:List (Addr×Obj)}{σ:St}{H:Hp}{s:Shared}{E:Value->Shared->Prop}
end
section
variable{X:Cx}{st:Stmt}{rest:List Stmt}{t u:TS}{e:Expr}{te:TE}{pos:Pos}
def aif:TS:=λD σ H=>D.nx σ H
def aoJ(t u:TS):TS:=λD σ H=>t {D with nx:=u D} σ H
theorem WM:Vi X [] aif:=λ_ _ σ H _ I h=>wpAny_execs_nil ⟨σ,H,I,h⟩
theorem Tw(h1:PS X st t)(h2:Vi X rest u):Vi X (st::rest) (aoJ t u):=by
 intro pins s σ H D I h
 refine wpAny_execs_cons (cR (h1 pins s σ H {D with nx:=u D} I h) λf s1 q=>?_)
 cases f with
 |next=>
  obtain⟨σ',H',I',q⟩:=q
  exact h2 pins s1 σ' H' D I' q
 |ret v=>exact q
 |brk=>exact q
 |cont=>exact q
theorem We(h1:PS X st t):Vi X [st] t:=by
 intro pins s σ H D I h
 refine wpAny_execs_cons (cR (h1 pins s σ H D I h) λf s1 q=>?_)
 cases f with
 |next=>exact wpAny_execs_nil q
 |ret v=>exact q
 |brk=>exact q
 |cont=>exact q
def atb:TS:=λD σ H=>D.bk σ H
def aw7:TS:=λD σ H=>D.ct σ H
theorem Inv.quiet{pins:List (Addr×Obj)}{σ:St}{H:Hp}{s:Shared}(I:Inv X pins σ H s):interactive X.env=false:=by simp[interactive,I.ok.kind]
def agC(te:TE):TS:=λD σ H=>te σ H λ_ H1=>D.nx σ H1
theorem WT(he:PE X e te)(hs:swapsWith e none pos.line X.env=pure false:=by rfl):PS X (.Expr e pos) (agC te):=by
 intro pins s σ H D I h
 exact wpAny_Expr_any (cR (he pins s σ H _ I h) λv s1 ⟨x,H1,I1,r1,q1⟩=>⟨σ,H1,I1,q1⟩) I.quiet hs
def av4(te:TE):TS:=λD σ H=>te σ H D.rt
theorem ab8(he:PE X e te):PS X (.Return (some e) pos) (av4 te):=by
 intro pins s σ H D I h
 exact wpAny_Return_some (cR (he pins s σ H _ I h) λv s1 ⟨x,H1,I1,r1,q1⟩=>⟨x,σ,H1,I1,r1,q1⟩)
def aw8:TS:=λD _ H=>D.rt .non H
def arQ(c:TT)(t u:TS):TS:=λD σ H=>c σ H λb H1=>if b=true then t D σ H1 else u D σ H1
theorem ah9{c:Expr}{a b:List Stmt}{tc:TT}(hc:PT X c tc)(ha:Vi X a t)(hb:Vi X b u):PS X (.If c a b pos) (arQ tc t u):=by
 intro pins s σ H D I h
 refine wpAny_If (cR (hc pins s σ H _ I h) λd s1 ⟨H1,I1,q1⟩=>?_)
 cases d with
 |true=>exact ha pins s1 σ H1 D I1 q1
 |false=>exact hb pins s1 σ H1 D I1 q1
def apE:TS:=λ_ _ _=>False
end
abbrev TG:=V->St->Hp->(St->Hp->Prop)->Prop
abbrev YZ:=List V->St->Hp->(St->Hp->Prop)->Prop
def PG(X:Cx)(target:Expr)(t:TG):Prop:=
 ∀(pins:List (Addr×Obj)) (s:Shared) (σ:St) (H:Hp) (v:V) (u:Value) (Q:St->Hp->Prop),Inv X pins σ H s->RelV v u->t v σ H Q->
  wpAny (model X.prog X.w) X.A (assign target X.env u) (λ_ s'=>∃σ' H',Inv X pins σ' H' s'/\Q σ' H') X.xe s
def PGs(X:Cx)(ts:List Expr)(t:YZ):Prop:=
 ∀(pins:List (Addr×Obj)) (s:Shared) (σ:St) (H:Hp) (vs:List V) (us:List Value) (Q:St->Hp->Prop),Inv X pins σ H s->Vals vs us->t vs σ H Q->
  wpAny (model X.prog X.w) X.A (assignInOrder ((assignEach ts X.env).map (·.2)) us) (λ_ s'=>∃σ' H',Inv X pins σ' H' s'/\Q σ' H') X.xe s
abbrev Vv:=V->V->V->Hp->(Hp->Prop)->Prop
def agF(X:Cx)(t:Vv):Prop:=
 ∀(pins:List (Addr×Obj)) (s:Shared) (σ:St) (H:Hp) (o i v:V) (ov iv u:Value) (Q:Hp->Prop),Inv X pins σ H s->RelV o ov->RelV i iv->RelV v u->t o i v H Q->
  wpAny (model X.prog X.w) X.A (setItem ov iv u) (λ_ s'=>∃H',Inv X pins σ H' s'/\Q H') X.xe s
abbrev TIp:=V->V->Hp->VK->Prop
def PIp(X:Cx)(op:Operator)(t:TIp):Prop:=
 ∀(pins:List (Addr×Obj)) (s:Shared) (σ:St) (H:Hp) (x y:V) (v u:Value) (Q:VK),Inv X pins σ H s->RelV x v->RelV y u->t x y H Q->
  wpAny (model X.prog X.w) X.A (inplaceOp op v u) (EP X pins σ Q) X.xe s
section
variable{X:Cx}{pos:Pos}
def Yx(i:Nat):TG:=λv σ H Q=>Q (σ.set i (some v)) H
theorem Vq{i:Nat}{x:Str}(hN:X.N.Nodup)(hi:X.N[i]? =some x)(hx:Loc X.env.scope x)(hf:X.fn x=true\/X.env.scope.names.lookup x=some .local:=by first |exact .inl rfl |exact .inr rfl |assumption):PG X (.Name x pos) (Yx i):=by
 intro pins s σ H v u Q I r h
 exact wpAny_assign_Name (Hx I hN hi hx r (λs' I'=>⟨_,H,I',h⟩) hf)
def auS:YZ:=λvs σ H Q=>vs=[]/\Q σ H
def aiE(t:TG)(u:YZ):YZ:=λvs σ H Q=>∃v r,vs=v::r/\t v σ H λσ' H'=>u r σ' H' Q
theorem Xy:PGs X [] auS:=by
 intro pins s σ H vs us Q I r h
 obtain⟨e,h⟩:=h
 subst e
 cases r
 exact assignInOrder_nil ⟨σ,H,I,h⟩
theorem T9{e:Expr}{es:List Expr}{t:TG}{u:YZ}(h1:PG X e t)(h2:PGs X es u)
  (hs:(assignEach (e::es) X.env).map (·.2)=assign e X.env::(assignEach es X.env).map (·.2):=by rfl):PGs X (e::es) (aiE t u):=by
 intro pins s σ H vs us Q I r h
 obtain⟨v,vr,e1,h⟩:=h
 subst e1
 cases r with
 |cons r rr=>
  rw[hs]
  refine assignInOrder_cons (cR (h1 pins s σ H _ _ _ I r h) λ_ s1 ⟨σ1,H1,I1,q1⟩=>?_)
  exact h2 pins s1 σ1 H1 _ _ Q I1 rr q1
def anL(K:W.Frag)(n:Nat)(t:YZ):TG:=λv σ H Q=>∃a xs,v= .ref a/\cA K H a xs/\xs.length=n/\t xs σ H Q
theorem ada{es:List Expr}{k:Nat}{t:YZ}{n:Nat}(hc:X.calm=true)(h:PGs X es t)
  (hn:(assignEach es X.env).length=n:=by rfl) (hst:(assignEach es X.env).findIdx? (·.1)=none:=by rfl):PG X (.Tuple es k pos) (anL X.K n t):=by
 intro pins s σ H v u Q I r hw
 obtain⟨a,xs,e1,hq,hl,hw⟩:=hw
 subst e1
 cases r
 obtain⟨its,rv,ht,hz⟩:=I.tuple hq
 refine assign_Tuple_tuple (I.ok.hd hc) ht (by simp[hn, <-hl,rv.length]) hst λh' hx=>?_
 have I1:Inv X pins σ H {s with heap:=h'}:=I.kept (t':=s.toks) λb o e=>hx b o (Nat.ne_of_lt (Heap.lt_size e)) e
 exact h pins _ σ H xs _ Q I1 (by simpa using rv) hw
def asq(to ti:TE)(t:Vv):TG:=λv σ H Q=>to σ H λo H1=>ti σ H1 λi H2=>t o i v H2 λH3=>Q σ H3
theorem ab7{o i:Expr}{to ti:TE}{t:Vv}(ho:PE X o to)(hi:PE X i ti)(hs:agF X t)
  (ha:∀v,assign (.Subscript o i pos) X.env v=(do
   let ov<-holding [v] (eval o X.env)
   let iv<-holding [v,ov] (eval i X.env)
   standAt pos
   holding [v,ov,iv] (setItem ov iv v)
   release [v,ov,iv] []):=by intro _;rfl):PG X (.Subscript o i pos) (asq to ti t):=by
 intro pins s σ H v u Q I r h
 rw[ha]
 refine wpAny_bind (wpAny_holding (cR (ho pins s σ H _ I h) λov s1 ⟨x,H1,I1,r1,q1⟩=>?_))
 refine wpAny_bind (wpAny_holding (cR (hi pins s1 σ H1 _ I1 q1) λiv s2 ⟨y,H2,I2,r2,q2⟩=>?_))
 refine wpAny_bind (wpAny_standAt (wpAny_bind (wpAny_holding (cR (hs pins s2 σ H2 x y v ov iv u _ I2 r1 r2 r q2) λ_ s3 ⟨H3,I3,q3⟩=>?_))))
 exact wpAny_release ⟨σ,H3,I3,q3⟩
def aip(te:TE)(g:TG):TS:=λD σ H=>te σ H λx H1=>g x σ H1 D.nx
theorem adL{tg e:Expr}{te:TE}{g:TG}(he:PE X e te)(hg:PG X tg g)(hs:swapsWithSole [tg] e pos.line X.env=pure false:=by rfl)(hw:swappedStores [tg] e X.env=pure none:=by rfl)
  (h1:(assignEach [tg] X.env).map (·.2)=[assign tg X.env]:=by rfl):PS X (.Assign [tg] e pos) (aip te g):=by
 intro pins s σ H D I h
 refine wpAny_Assign_stores (cR (he pins s σ H _ I h) λv s1 ⟨x,H1,I1,r1,q1⟩=>?_) hs hw
 rw[h1]
 exact cR (hg pins s1 σ H1 x v _ I1 r1 q1) λ_ s2 q=>q
theorem ac3{i:Nat}{x:Str}{e:Expr}{te:TE}{pos':Pos}(hN:X.N.Nodup)(hi:X.N[i]? =some x)(hx:Loc X.env.scope x)(he:PE X e te)(hs:swapsWith e (some (.Name x pos')) pos.line X.env=pure false:=by rfl)(hf:X.fn x=true\/X.env.scope.names.lookup x=some .local:=by first |exact .inl rfl |exact .inr rfl |assumption):
  PS X (.Assign [.Name x pos'] e pos) (aip te (Yx i)):=by
 intro pins s σ H D I h
 refine wpAny_Assign_Name (cR (he pins s σ H _ I h) λv s1 ⟨y,H1,I1,r1,q1⟩=>?_) hs
 exact Hx I1 hN hi hx r1 (λs2 I2=>⟨_,H1,I2,q1⟩) hf
def ayk(i j:Nat)(ta:TA):TS:=λD σ H=>ta σ H λvs H1=>∃v w,vs=[v,w]/\D.nx ((σ.set i (some v)).set j (some w)) H1
def aAq(i:Nat)(te:TE)(ti:TIp):TS:=λD σ H=>∃x,σ[i]? =some (some x)/\te σ H λy H1=>ti x y H1 λz H2=>D.nx (σ.set i (some z)) H2
def awV(to ti te:TE)(tget:V->V->Hp->VK->Prop)(tip:TIp)(tset:Vv):TS:=λD σ H=>to σ H λo H1=>ti σ H1 λi H2=>tget o i H2 λx H3=>te σ H3 λy H4=>tip x y H4 λz H5=>tset o i z H5 λH6=>D.nx σ H6
def azI(X:Cx)(t:V->V->Hp->VK->Prop):Prop:=
 ∀(pins:List (Addr×Obj)) (s:Shared) (σ:St) (H:Hp) (o i:V) (ov iv:Value) (Q:VK),Inv X pins σ H s->RelV o ov->RelV i iv->t o i H Q->
  wpAny (model X.prog X.w) X.A (getItem ov iv) (EP X pins σ Q) X.xe s
def ipI(f:Int->Int->Int):TIp:=λx y H Q=>∃i j,x= .int i/\y= .int j/\Q (.int (f i j)) H
end
section
variable{X:Cx}{pos:Pos}
def asO(c:TT)(tb:TS):TS:=λD σ H=>∃W:Nat->St->Hp->Prop,(∃m,W m σ H)/\∀m σ H,W m σ H->
 c σ H λb H1=>if b=true then ∃N:St->Hp->Prop,(∀σ' H',N σ' H'->∃m',m'<m/\W m' σ' H')/\tb {D with nx:=N,ct:=N,bk:=D.nx} σ H1 else D.nx σ H1
end
structure It where
 go:Nat->Hp->Prop
 yld:Nat->Hp->V->Hp->Prop
 stop:Nat->Hp->Prop
def kW(X:Cx)(pins:List (Addr×Obj))(H:Hp)(b:Addr):Prop:=
 H b=none/\b≠X.env.locals/\b∉X.fs/\(b∈X.ex\/X.s₀.heap.get? b=none)/\(∀x c,X.env.cells.lookup x=some c->c≠b)/\∀p∈X.pn++pins,p.1≠b
theorem Inv.fpOk{X:Cx}{pins:List (Addr×Obj)}{σ:St}{H H':Hp}{s:Shared}{b:Addr}(I:Inv X pins σ H s)(hb:s.heap.objs.size≤b)(hn:H' b=none):kW X pins H' b:=by
 refine⟨hn,Nat.ne_of_gt (Nat.lt_of_lt_of_le I.lt hb),I.nofs hb,.inr (Heap.get?_none_of_le (Nat.le_trans I.sz hb)),λx c e z=>?_,λp hp z=>?_⟩
 .obtain⟨v,q⟩:=I.cell x c e
  exact absurd (Nat.lt_of_lt_of_le q.lt (by rw[z];exact hb)) (Nat.lt_irrefl _)
 .exact absurd (Nat.lt_of_lt_of_le (Heap.lt_size (I.pin p hp).1) (by rw[z];exact hb)) (Nat.lt_irrefl _)
structure Turn(P:Program)(w:World)(K:W.Frag)(tg:Expr)(J:It)(fp:List Addr)(it:Addr)(tn:Nat->Heap->Prop):Prop where
 mem:it∈fp
 obj:∀i h,tn i h->∀b∈fp,∃o,h.get? b=some o/\∀v,o.data≠ .cell v
 keep:∀i h h',tn i h->(∀b∈fp,∀o,h.get? b=some o->h'.get? b=some o)->tn i h'
 item:∀(X:Cx),X.prog=P->X.w=w->X.K=K->X.calm=true->∀(i:Nat) (pins:List (Addr×Obj)) (s:Shared) (σ:St) (H:Hp) (E:Value->Shared->Prop),Inv X pins σ H s->(∀b∈fp,kW X pins H b)->tn i s.heap->J.go i H->
  wpAny (model P w) X.A (pyNext (.ref it)) (λr s1=>∃u,r=some u/\
   wpAny (model P w) X.A (letOwnedTupleGo tg (.ref it) u) (λ_ s2=>∃x H',Inv X pins σ H' s2/\RelV x u/\J.yld i H x H'/\tn (i+1) s2.heap/\∀b∈fp,H' b=none) E s1) E s
 done:∀(X:Cx),X.prog=P->X.w=w->X.K=K->X.calm=true->∀(i:Nat) (pins:List (Addr×Obj)) (s:Shared) (σ:St) (H:Hp) (E:Value->Shared->Prop),Inv X pins σ H s->(∀b∈fp,kW X pins H b)->tn i s.heap->J.stop i H->
  wpAny (model P w) X.A (pyNext (.ref it)) (λr s1=>r=none/\Inv X pins σ H s1) E s
 self:∀(A:Around) (i:Nat) (s:Shared) (Q:Value->Shared->Prop) (E:Value->Shared->Prop),tn i s.heap->Q (.ref it) s->wpAny (model P w) A (pyIter (.ref it)) Q E s
abbrev TI:=St->Hp->(It->Hp->Prop)->Prop
def PIE(X:Cx)(pins:List (Addr×Obj))(σ:St)(tg:Expr)(R:It->Hp->Prop)(itv:Value)(s2:Shared):Prop:=
 ∃(it:Addr) (fp:List Addr) (tn:Nat->Heap->Prop) (J:It) (H':Hp),itv= .ref it/\Inv X pins σ H' s2/\Turn X.prog X.w X.K tg J fp it tn/\tn 0 s2.heap/\(∀b∈fp,kW X pins H' b)/\R J H'
def PI(X:Cx)(tg iter:Expr)(wi:TI):Prop:=
 ∀(pins:List (Addr×Obj)) (s:Shared) (σ:St) (H:Hp) (R:It->Hp->Prop),Inv X pins σ H s->wi σ H R->
  wpAny (model X.prog X.w) X.A (eval iter X.env) (λv s1=>wpAny (model X.prog X.w) X.A (pyIter v) (PIE X pins σ tg R) X.xe s1) X.xe s
theorem Hv{M:Model}{A:Around}{E:Value->Shared->Prop}{s:Shared}{tg:Expr}{it:Addr}{u:Value}{o:Obj}{n:String}{vs:Array Value}{Q:Unit->Shared->Prop}(ho:s.heap.get? it=some o)(hc:o.cls= .type n)(hd:o.data= .fields vs)
  (hn:["enumerate","zip","dict_itemiterator","dict_reverseitemiterator","odict_iterator","itertools.zip_longest","itertools.pairwise"].contains n=false) (hQ:Q () s):wpAny M A (letOwnedTupleGo tg (.ref it) u) Q E s:=by
 unfold letOwnedTupleGo
 cases tg<;>first
  |exact wpAny_pure hQ
  |(cases u<;>first
   |exact wpAny_pure hQ
   |(refine wpAny_bind (wpAny_load ho ?_)
     rw[hc,hd]
     show wpAny M A (if(["enumerate","zip","dict_itemiterator","dict_reverseitemiterator","odict_iterator","itertools.zip_longest","itertools.pairwise"].contains n&&vs[0]? ==some (rawInt _))=true then _ else _) Q E s
     rw[if_neg (by intro h;rw[hn,Bool.false_and]at h;cases h)]
     exact wpAny_pure hQ))
def Vx(K:W.Frag)(a:Addr):It:=
 ⟨λi H=>∃xs x,bc K H a xs/\xs[i]? =some x,λi H x H'=>H'=H/\∀xs,bc K H a xs->xs[i]? =some x,λi H=>∃xs,bc K H a xs/\xs.length≤i⟩
def Itt(K:W.Frag)(a:Addr):It:=
 ⟨λi H=>∃xs x,cA K H a xs/\xs[i]? =some x,λi H x H'=>H'=H/\∀xs,cA K H a xs->xs[i]? =some x,λi H=>∃xs,cA K H a xs/\xs.length≤i⟩
def YG(lo:Int)(n:Nat):It:=⟨λi _=>i<n,λi H x H'=>H'=H/\x= .int (lo+i),λi _=>n≤i⟩
theorem Om{P:Program}{w:World}{K:W.Frag}{tg:Expr}(a it:Addr):Turn P w K tg (Vx K a) [it] it (λi h=>h.IsListIter it a i)where
 mem:=by simp
 obj:=λi h st b hb=>by
  have e:b=it:=by simpa using hb
  subst e
  obtain⟨o,e,c,d⟩:=st
  exact⟨o,e,λv z=>by rw[d]at z;cases z⟩
 keep:=λi h h' st k=>st.at λo e=>k it (by simp) o e
 item:=by
  intro X hP hw hK hc i pins s σ H E I hf st hg
  subst hP hw hK
  obtain⟨xs,x,hq,hx⟩:=hg
  obtain⟨its,rv,p,hz⟩:=I.list hq
  obtain⟨u,hu,ru⟩:=rv.get hx
  obtain⟨f0,f1,f2,f3,f4,f5⟩:=hf it (by simp)
  refine wpAny_pyNext_list_item st p.isList (x:=u) (by simpa using hu) λh' st' sb=>?_
  have I1:Inv X pins σ H {s with heap:=h'}:=I.turned (t':=s.toks) (λb o hb e=>(sb.2 b hb).trans e) f0 f1 f3 f4 f5
  obtain⟨o,e,c,d⟩:=id st'
  exact⟨u,rfl,Hv (s:={s with heap:=h'}) e c d (by decide) ⟨x,H,I1,ru,⟨rfl,λys hy=>by rw[I.list_inj hy hq];exact hx⟩,st',λb hb=>(hf b hb).1⟩⟩
 done:=by
  intro X hP hw hK hc i pins s σ H E I hf st hg
  subst hP hw hK
  obtain⟨xs,hq,hx⟩:=hg
  obtain⟨its,rv,p,hz⟩:=I.list hq
  obtain⟨f0,f1,f2,f3,f4,f5⟩:=hf it (by simp)
  have hl:=rv.length
  exact wpAny_pyNext_list_end (I.ok.hd hc) st p.isList (by simp;omega) λh' eb=>⟨rfl,I.turned (t':=s.toks) (λb o hb e=>eb b o hb e) f0 f1 f3 f4 f5⟩
 self:=λ_ _ _ _ _ st h=>wpAny_pyIter_listiter st h
theorem J5{P:Program}{w:World}{K:W.Frag}{tg:Expr}(a it:Addr):Turn P w K tg (Itt K a) [it] it (λi h=>h.IsTupleIter it a i)where
 mem:=by simp
 obj:=λi h st b hb=>by
  have e:b=it:=by simpa using hb
  subst e
  obtain⟨o,e,c,d⟩:=st
  exact⟨o,e,λv z=>by rw[d]at z;cases z⟩
 keep:=λi h h' st k=>st.at λo e=>k it (by simp) o e
 item:=by
  intro X hP hw hK hc i pins s σ H E I hf st hg
  subst hP hw hK
  obtain⟨xs,x,hq,hx⟩:=hg
  obtain⟨its,rv,p,hz⟩:=I.tuple hq
  obtain⟨u,hu,ru⟩:=rv.get hx
  obtain⟨f0,f1,f2,f3,f4,f5⟩:=hf it (by simp)
  refine wpAny_pyNext_tuple_item st (show s.heap.IsTuple a its.toArray from p) (x:=u) (by simpa using hu) λh' st' sb=>?_
  have I1:Inv X pins σ H {s with heap:=h'}:=I.turned (t':=s.toks) (λb o hb e=>(sb.2 b hb).trans e) f0 f1 f3 f4 f5
  obtain⟨o,e,c,d⟩:=id st'
  exact⟨u,rfl,Hv (s:={s with heap:=h'}) e c d (by decide) ⟨x,H,I1,ru,⟨rfl,λys hy=>by rw[I.tuple_inj hy hq];exact hx⟩,st',λb hb=>(hf b hb).1⟩⟩
 done:=by
  intro X hP hw hK hc i pins s σ H E I hf st hg
  subst hP hw hK
  obtain⟨xs,hq,hx⟩:=hg
  obtain⟨its,rv,p,hz⟩:=I.tuple hq
  obtain⟨f0,f1,f2,f3,f4,f5⟩:=hf it (by simp)
  have hl:=rv.length
  exact wpAny_pyNext_tuple_end (I.ok.hd hc) st (show s.heap.IsTuple a its.toArray from p) (by simp;omega) λh' eb=>⟨rfl,I.turned (t':=s.toks) (λb o hb e=>eb b o hb e) f0 f1 f3 f4 f5⟩
 self:=λ_ _ _ _ _ st h=>wpAny_pyIter_tupleiter st h
theorem Ks{P:Program}{w:World}{K:PySem.W.Frag}{tg:Expr}(it:Addr)(lo:Int)(n:Nat):Turn P w K tg (YG lo n) [it] it (λi h=>IsRangeIter h it (lo+(i:Nat)*1) ((n:Int)-(i:Nat)) 1)where
 mem:=by simp
 obj:=λi h st b hb=>by
  have e:b=it:=by simpa using hb
  subst e
  exact⟨_,st,λv z=>by
   have z':Data.fields _=Data.cell v:=z
   cases z'⟩
 keep:=λi h h' st k=>k it (by simp) _ st
 item:=by
  intro X hP hw hK hc i pins s σ H E I hf st hg
  subst hP hw hK
  obtain⟨f0,f1,f2,f3,f4,f5⟩:=hf it (by simp)
  have W:=Walks.range (prog:=X.prog) (w:=X.w) (I.ok.hd hc) it lo 1 n
  refine W.item i s _ _ hg st λv h' tk hv st' kk=>?_
  obtain⟨t,rfl⟩:=hv
  have I1:Inv X pins σ H {s with heap:=h',toks:=tk}:=I.turned (λb o hb e=>kk b o (by simpa using hb) e) f0 f1 f3 f4 f5
  refine⟨_,rfl,Hv (s:={s with heap:=h',toks:=tk}) (n:="range_iterator") st' rfl rfl (by decide) ⟨.int (lo+i),H,I1,⟨t,?_⟩,⟨rfl,rfl⟩,st',λb hb=>(hf b hb).1⟩⟩
  rw[Int.mul_one]
 done:=by
  intro X hP hw hK hc i pins s σ H E I hf st hg
  subst hP hw hK
  obtain⟨f0,f1,f2,f3,f4,f5⟩:=hf it (by simp)
  exact wpAny_pyNext_range_end (I.ok.hd hc) st (by have :n≤i:=hg;omega) λh' eb=>⟨rfl,I.turned (t':=s.toks) (λb o hb e=>eb b o hb e) f0 f1 f3 f4 f5⟩
 self:=λ_ _ _ _ _ st h=>wpAny_pyIter_rangeiter st h
section
variable{X:Cx}{tg:Expr}
def agD(K:W.Frag)(tl:TE):TI:=λσ H R=>tl σ H λx H1=>∃a,x= .ref a/\(∃xs,bc K H1 a xs)/\R (Vx K a) H1
def apY(K:W.Frag)(tl:TE):TI:=λσ H R=>tl σ H λx H1=>∃a,x= .ref a/\(∃xs,cA K H1 a xs)/\R (Itt K a) H1
theorem Vt{l:Expr}{tl:TE}(hl:PE X l tl):PI X tg l (agD X.K tl):=by
 intro pins s σ H R I h
 refine cR (hl pins s σ H _ I h) λv s1 ⟨x,H1,I1,r1,q1⟩=>?_
 obtain⟨a,e,⟨xs,hq⟩,q⟩:=q1
 subst e
 cases r1
 obtain⟨its,rv,p,hz⟩:=I1.list hq
 refine wpAny_pyIter_list p.isList ?_
 refine⟨s1.heap.objs.size,[s1.heap.objs.size],_,_,H1,rfl,I1.kept (t':=s1.toks) λb o e=>Heap.get?_push_of_some _ e,Om a _,⟨_,Heap.get?_push_size _ rfl,rfl,rfl⟩,λb hb=>?_,q⟩
 have e:b=s1.heap.objs.size:=by simpa using hb
 subst e
 exact I1.fpOk (Nat.le_refl _) (I1.hok.fresh (Nat.le_refl _))
theorem abi{l:Expr}{tl:TE}(hl:PE X l tl):PI X tg l (apY X.K tl):=by
 intro pins s σ H R I h
 refine cR (hl pins s σ H _ I h) λv s1 ⟨x,H1,I1,r1,q1⟩=>?_
 obtain⟨a,e,⟨xs,hq⟩,q⟩:=q1
 subst e
 cases r1
 obtain⟨its,rv,p,hz⟩:=I1.tuple hq
 refine wpAny_pyIter_tuple (show s1.heap.IsTuple a its.toArray from p) ?_
 refine⟨s1.heap.objs.size,[s1.heap.objs.size],_,_,H1,rfl,I1.kept (t':=s1.toks) λb o e=>Heap.get?_push_of_some _ e,J5 a _,⟨_,Heap.get?_push_size _ rfl,rfl,rfl⟩,λb hb=>?_,q⟩
 have e:b=s1.heap.objs.size:=by simpa using hb
 subst e
 exact I1.fpOk (Nat.le_refl _) (I1.hok.fresh (Nat.le_refl _))
theorem Uk{pins:List (Addr×Obj)}{σ:St}{H:Hp}{s:Shared}{R:It->Hp->Prop}{E:Value->Shared->Prop}{lo hi:Int}{t u v:Tok}{tk:Nat}(I:Inv X pins σ H s)(h1: -(2^62)≤lo)(h2:lo<2^62)(h3: -(2^62)≤hi)(h4:hi<2^62)
  (q:R (YG lo (hi-lo).toNat) H):wpAny (model X.prog X.w) X.A (pyIter (.ref s.heap.objs.size)) (PIE X pins σ tg R) E {s with heap:=s.heap.push {cls:=.type "range",data:=.fields #[.int lo t,.int hi u,.int 1 v]},toks:=tk}:=by
 refine wpAny_pyIter_range (IsRange.new ..) (small_one h1 h2 h3 h4) ?_
 have I1:Inv X pins σ H {s with heap:=s.heap.push {cls:=.type "range",data:=.fields #[.int lo t,.int hi u,.int 1 v]},toks:=tk}:=I.kept λb o e=>Heap.get?_push_of_some _ e
 refine⟨(s.heap.push {cls:=.type "range",data:=.fields #[.int lo t,.int hi u,.int 1 v]}).objs.size,[(s.heap.push {cls:=.type "range",data:=.fields #[.int lo t,.int hi u,.int 1 v]}).objs.size],_,_,H,rfl,
  I1.kept (t':=tk) λb o e=>Heap.get?_push_of_some _ e,Ks _ lo (hi-lo).toNat,?_,λb hb=>?_,q⟩
 .have e1:lo+((0:Nat):Int)*1=lo:=by simp
  have e2:(((hi-lo).toNat:Nat):Int)-((0:Nat):Int)=Builtin.Range.rangeSize lo hi 1:=by rw[rangeSize_one];split <;>omega
  show IsRangeIter _ _ (lo+((0:Nat):Int)*1) ((((hi-lo).toNat:Nat):Int)-((0:Nat):Int)) 1
  rw[e1,e2]
  exact Heap.get?_push_size _ rfl
 .have e:b=(s.heap.push {cls:=.type "range",data:=.fields #[.int lo t,.int hi u,.int 1 v]}).objs.size:=by simpa using hb
  subst e
  exact I1.fpOk (Nat.le_refl _) (I1.hok.fresh (Nat.le_refl _))
def agW(ta:TA):TI:=λσ H R=>ta σ H λvs H1=>∃j:Int,vs=[.int j]/\ -(2^62)≤j/\j<2^62/\R (YG 0 j.toNat) H1
def axt(ta:TA):TI:=λσ H R=>ta σ H λvs H1=>∃i j:Int,vs=[.int i,.int j]/\(-(2^62)≤i/\i<2^62/\ -(2^62)≤j/\j<2^62)/\R (YG i (j-i).toNat) H1
theorem Ow{a:Expr}{ta:TA}{p pos:Pos}(hg:Gl X "range")(hm:X.mg "range"=none)(ha:PA X [a] ta)(hs:starEach [a] X.env=[(false,eval a X.env)]:=by rfl):PI X tg (.Call (.Name "range" p) [a] [] pos) (agW ta):=by
 intro pins s σ H R I h
 refine Call_ (qI I hg hm boot_range (PyProof.Rows.callWith_type1 (cR (ha pos pins s σ H _ I h) λus s1 ⟨vs,H1,I1,r1,q1⟩=>?_) hs rfl))
 obtain⟨j,e,q1,q2,q⟩:=q1
 subst e
 cases r1 with
 |cons r rr=>
  cases rr
  obtain⟨t,rfl⟩:=r
  exact call_range_1 (Uk I1 (by omega) (by omega) q1 q2 (by simpa using q))
def awg(wi:TI)(g:TG)(tb:TS):TS:=λD σ H=>wi σ H λJ H1=>∃W:Nat->Nat->St->Hp->Prop,(∃m,W 0 m σ H1)/\∀i m σ H,W i m σ H->
 (J.stop i H/\D.nx σ H)\/(J.go i H/\∃N:St->Hp->Prop,(∀σ' H',N σ' H'->∃m',m'<m/\W (i+1) m' σ' H')/\∀x H',J.yld i H x H'->g x σ H' λσ2 H2=>tb {D with nx:=N,ct:=N,bk:=D.nx} σ2 H2)
def uR(fp:List Addr)(h:Heap):List (Addr×Obj):=fp.filterMap λb=>(h.get? b).map λo=>(b,o)
theorem iD{fp:List Addr}{h:Heap}{b:Addr}{o:Obj}(hb:b∈fp)(e:h.get? b=some o):(b,o)∈uR fp h:=List.mem_filterMap.mpr ⟨b,hb,by rw[e];rfl⟩
theorem N5{fp:List Addr}{h:Heap}{p:Addr×Obj}(hp:p∈uR fp h):p.1∈fp/\h.get? p.1=some p.2:=by
 obtain⟨b,hb,e⟩:=List.mem_filterMap.mp hp
 cases q:h.get? b with
 |none=>rw[q]at e;cases e
 |some o=>
  rw[q]at e
  have e':(b,o)=p:=Option.some.inj e
  subst e'
  exact⟨hb,q⟩
theorem Inv.pinned{pins:List (Addr×Obj)}{σ:St}{H:Hp}{s:Shared}{fp:List Addr}(I:Inv X pins σ H s)(hf:∀b∈fp,kW X pins H b)(ho:∀b∈fp,∃o,s.heap.get? b=some o/\∀v,o.data≠ .cell v):Inv X (pins++uR fp s.heap) σ H s:=
 I.pins_of λp hp=>(List.mem_append.mp hp).elim (λz=>I.pin p (List.mem_append_right _ z)) λz=>by
  obtain⟨hb,e⟩:=N5 z
  obtain⟨f0,f1,f2,_⟩:=hf p.1 hb
  obtain⟨o,e',d⟩:=ho p.1 hb
  rw[e]at e';cases e'
  exact⟨e,f0,f1,f2,d⟩
theorem Inv.unpinned{pins pl:List (Addr×Obj)}{σ:St}{H:Hp}{s:Shared}(I:Inv X (pins++pl) σ H s):Inv X pins σ H s:=I.pins_of λp hp=>I.pin p (List.mem_append_right _ (List.mem_append_left _ hp))
theorem abp{iter:Expr}{body:List Stmt}{wi:TI}{g:TG}{tb:TS}{pos:Pos}(hp:PassesOwn (model X.prog X.w) X.A X.env X.xe)(hc:X.calm=true)(hi:PI X tg iter wi)(hg:PG X tg g)(hb:Vi X body tb)
  (hs:∀x,foldedSetIterable iter X.env x=pure x:=by intro _;rfl):PS X (.For tg iter body [] pos) (awg wi g tb):=by
 intro pins s σ H D I h
 refine wpAny_For (cR (hi pins s σ H _ I h) λv s1 h1=>cR h1 λitv s2 h2=>?_) hs
 obtain⟨it,fp,tn,J,H2,e,I2,T,st2,f2,W,⟨m0,w0⟩,turn⟩:=h2
 subst e
 have stat:∀{H':Hp},(∀b∈fp,H' b=none)->∀b∈fp,kW X pins H' b:=λhn b hb=>⟨hn b hb,(f2 b hb).2⟩
 refine codeAny_forLoop_any (λn s'=>∃i σ' H',Inv X pins σ' H' s'/\tn i s'.heap/\(∀b∈fp,H' b=none)/\W i n σ' H') ?_ m0 ⟨0,σ,H2,I2,st2,λb hb=>(f2 b hb).1,w0⟩
 rintro n s3 ⟨i,σ3,H3,I3,st3,fr3,w3⟩
 rcases turn i n σ3 H3 w3 with⟨stop,qn⟩ |⟨go,N,hN,step⟩
 .refine wpAny_passesOwn hp (cR (T.done X rfl rfl rfl hc i pins s3 σ3 H3 X.xe I3 (stat fr3) st3 stop) λr s4 ⟨hr,I4⟩=>?_)
  subst hr
  exact wpAny_execs_nil ⟨σ3,H3,I4,qn⟩
 .refine wpAny_passesOwn hp (cR (T.item X rfl rfl rfl hc i pins s3 σ3 H3 X.xe I3 (stat fr3) st3 go) λr s4 ⟨u,hr,h4⟩=>?_)
  subst hr
  refine wpAny_passesOwn hp (cR h4 λ_ s5 ⟨x,H5,I5,r5,y5,st5,fr5⟩=>?_)
  have I5':=I5.pinned (stat fr5) (T.obj _ _ st5)
  refine wpAny_passesOwn hp (cR (hg _ s5 σ3 H5 x u _ I5' r5 (step x H5 y5)) λ_ s6 ⟨σ6,H6,I6,q6⟩=>?_)
  refine wpAny_passesOwn hp (cR (hb _ s6 σ6 H6 _ I6 q6) λf s7 q7=>?_)
  have again:∀{σ7:St} {H7:Hp},Inv X (pins++uR fp s5.heap) σ7 H7 s7->N σ7 H7->∃m,m<n/\∃i σ' H',Inv X pins σ' H' s7/\tn i s7.heap/\(∀b∈fp,H' b=none)/\W i m σ' H':=λ{σ7 H7} I7 n7=>by
   obtain⟨m',hm,w7⟩:=hN σ7 H7 n7
   refine⟨m',hm,i+1,σ7,H7,I7.unpinned,T.keep _ _ _ st5 λb hb o e=>(I7.pin (b,o) (List.mem_append_right _ (List.mem_append_right _ (iD hb e)))).1,λb hb=>?_,w7⟩
   obtain⟨o,e,d⟩:=T.obj _ _ st5 b hb
   exact(I7.pin (b,o) (List.mem_append_right _ (List.mem_append_right _ (iD hb e)))).2.1
  cases f with
  |next=>obtain⟨σ7,H7,I7,n7⟩:=q7;exact again I7 n7
  |cont=>obtain⟨σ7,H7,I7,n7⟩:=q7;exact again I7 n7
  |brk=>obtain⟨σ7,H7,I7,q7⟩:=q7;exact⟨σ7,H7,I7.unpinned,q7⟩
  |ret v=>obtain⟨x7,σ7,H7,I7,r7,q7⟩:=q7;exact⟨x7,σ7,H7,I7.unpinned,r7,q7⟩
end
theorem Ra{K:PySem.W.Frag}{a:Addr}{xs:List V}{g:TG}{tb:TS}{D:Ends}{σ:St}{H:Hp}(Pv:Nat->St->Hp->Prop)(h0:Pv 0 σ H)(hl:∀i σ H,i≤xs.length->Pv i σ H->bc K H a xs)
  (hs:∀i x σ H,xs[i]? =some x->Pv i σ H->g x σ H λσ2 H2=>tb {D with nx:=Pv (i+1),ct:=Pv (i+1),bk:=D.nx} σ2 H2) (hd:∀σ H,Pv xs.length σ H->D.nx σ H):
  ∃W:Nat->Nat->St->Hp->Prop,(∃m,W 0 m σ H)/\∀i m σ H,W i m σ H->
   ((Vx K a).stop i H/\D.nx σ H)\/((Vx K a).go i H/\∃N:St->Hp->Prop,(∀σ' H',N σ' H'->∃m',m'<m/\W (i+1) m' σ' H')/\∀x H',(Vx K a).yld i H x H'->g x σ H' λσ2 H2=>tb {D with nx:=N,ct:=N,bk:=D.nx} σ2 H2):=by
 refine⟨λi m σ H=>m=xs.length-i/\i≤xs.length/\Pv i σ H,⟨xs.length,by simp,Nat.zero_le _,h0⟩,?_⟩
 rintro i m σ H ⟨rfl,hi,p⟩
 have q:=hl i σ H hi p
 by_cases hlt:i<xs.length
 .refine .inr ⟨⟨xs,xs[i],q,by simp[hlt]⟩,Pv (i+1),λσ' H' p'=>⟨xs.length-(i+1),by omega,rfl,hlt,p'⟩,λx H' y=>?_⟩
  obtain⟨e,y⟩:=y
  subst e
  exact hs i x σ _ (y xs q) p
 .have e:i=xs.length:=by omega
  subst e
  exact .inl ⟨⟨xs,q,Nat.le_refl _⟩,hd σ H p⟩
theorem VR{K:PySem.W.Frag}{a:Addr}{xs:List V}{g:TG}{tb:TS}{D:Ends}{σ:St}{H:Hp}(Pv:Nat->St->Hp->Prop)(h0:Pv 0 σ H)(hl:∀i σ H,i≤xs.length->Pv i σ H->cA K H a xs)
  (hs:∀i x σ H,xs[i]? =some x->Pv i σ H->g x σ H λσ2 H2=>tb {D with nx:=Pv (i+1),ct:=Pv (i+1),bk:=D.nx} σ2 H2) (hd:∀σ H,Pv xs.length σ H->D.nx σ H):
  ∃W:Nat->Nat->St->Hp->Prop,(∃m,W 0 m σ H)/\∀i m σ H,W i m σ H->
   ((Itt K a).stop i H/\D.nx σ H)\/((Itt K a).go i H/\∃N:St->Hp->Prop,(∀σ' H',N σ' H'->∃m',m'<m/\W (i+1) m' σ' H')/\∀x H',(Itt K a).yld i H x H'->g x σ H' λσ2 H2=>tb {D with nx:=N,ct:=N,bk:=D.nx} σ2 H2):=by
 refine⟨λi m σ H=>m=xs.length-i/\i≤xs.length/\Pv i σ H,⟨xs.length,by simp,Nat.zero_le _,h0⟩,?_⟩
 rintro i m σ H ⟨rfl,hi,p⟩
 have q:=hl i σ H hi p
 by_cases hlt:i<xs.length
 .refine .inr ⟨⟨xs,xs[i],q,by simp[hlt]⟩,Pv (i+1),λσ' H' p'=>⟨xs.length-(i+1),by omega,rfl,hlt,p'⟩,λx H' y=>?_⟩
  obtain⟨e,y⟩:=y
  subst e
  exact hs i x σ _ (y xs q) p
 .have e:i=xs.length:=by omega
  subst e
  exact .inl ⟨⟨xs,q,Nat.le_refl _⟩,hd σ H p⟩
theorem Og{lo:Int}{n:Nat}{g:TG}{tb:TS}{D:Ends}{σ:St}{H:Hp}(Pv:Nat->St->Hp->Prop)(h0:Pv 0 σ H)
  (hs:∀i σ H,i<n->Pv i σ H->g (.int (lo+i)) σ H λσ2 H2=>tb {D with nx:=Pv (i+1),ct:=Pv (i+1),bk:=D.nx} σ2 H2) (hd:∀σ H,Pv n σ H->D.nx σ H):
  ∃W:Nat->Nat->St->Hp->Prop,(∃m,W 0 m σ H)/\∀i m σ H,W i m σ H->
   ((YG lo n).stop i H/\D.nx σ H)\/((YG lo n).go i H/\∃N:St->Hp->Prop,(∀σ' H',N σ' H'->∃m',m'<m/\W (i+1) m' σ' H')/\∀x H',(YG lo n).yld i H x H'->g x σ H' λσ2 H2=>tb {D with nx:=N,ct:=N,bk:=D.nx} σ2 H2):=by
 refine⟨λi m σ H=>m=n-i/\i≤n/\Pv i σ H,⟨n,by simp,Nat.zero_le _,h0⟩,?_⟩
 rintro i m σ H ⟨rfl,hi,p⟩
 by_cases hlt:i<n
 .refine .inr ⟨hlt,Pv (i+1),λσ' H' p'=>⟨n-(i+1),by omega,rfl,hlt,p'⟩,λx H' y=>?_⟩
  obtain⟨e,y⟩:=y
  subst e y
  exact hs i σ _ hlt p
 .have e:i=n:=by omega
  subst e
  exact .inl ⟨Nat.le_refl _,hd σ H p⟩
abbrev R2:=V->V->Hp->VK->Prop
def sY(X:Cx)(f:Value->Value->Sem Value)(r:R2):Prop:=
 ∀(pins:List (Addr×Obj)) (s:Shared) (σ:St) (H:Hp) (x y:V) (v u:Value) (Q:VK),Inv X pins σ H s->RelV x v->RelV y u->r x y H Q->
  wpAny (model X.prog X.w) X.A (f v u) (EP X pins σ Q) X.xe s
def UnR(X:Cx)(f:Value->Sem Value)(r:V->Hp->VK->Prop):Prop:=
 ∀(pins:List (Addr×Obj)) (s:Shared) (σ:St) (H:Hp) (x:V) (v:Value) (Q:VK),Inv X pins σ H s->RelV x v->r x H Q->
  wpAny (model X.prog X.w) X.A (f v) (EP X pins σ Q) X.xe s
def pB(X:Cx)(f:Value)(r:List V->Hp->VK->Prop):Prop:=
 ∀(pins:List (Addr×Obj)) (s:Shared) (σ:St) (H:Hp) (xs:List V) (us:List Value) (Q:VK),Inv X pins σ H s->Vals xs us->r xs H Q->
  wpAny (model X.prog X.w) X.A (call f us) (EP X pins σ Q) X.xe s
def alA(X:Cx)(r:V->Hp->(Bool->Hp->Prop)->Prop):Prop:=
 ∀(pins:List (Addr×Obj)) (s:Shared) (σ:St) (H:Hp) (x:V) (v:Value) (Q:Bool->Hp->Prop),Inv X pins σ H s->RelV x v->r x H Q->
  wpAny (model X.prog X.w) X.A (truthy v) (TP X pins σ Q) X.xe s
def tOp(r:R2)(ta tb:TE):TE:=λσ H Q=>ta σ H λx H1=>tb σ H1 λy H2=>r x y H2 Q
def tUn(r:V->Hp->VK->Prop)(ta:TE):TE:=λσ H Q=>ta σ H λx H1=>r x H1 Q
def rI(C:Int->Int->Prop)(g:Int->Int->V):R2:=λx y H Q=>∃i j,x= .int i/\y= .int j/\C i j/\Q (g i j) H
def Ym(g:Int->Int->V):R2:=λx y H Q=>∃i j,x= .int i/\y= .int j/\Q (g i j) H
def rU(g:Int->V):V->Hp->VK->Prop:=λx H Q=>∃i,x= .int i/\Q (g i) H
section
variable{X:Cx}{a b c:Expr}{ta tb tc:TE}{pos:Pos}
theorem ZK(ha:PE X a ta)(hb:PE X b tb){pins:List (Addr×Obj)}{s:Shared}{σ:St}{H:Hp}{R:V->V->Hp->Prop}(I:Inv X pins σ H s)
  (h:ta σ H λx H1=>tb σ H1 λy H2=>R x y H2) {Q:Value->Shared->Prop} {f:Value->Value->Sem Value}
  (hf:∀v u s2 x y H2,Inv X pins σ H2 s2->RelV x v->RelV y u->R x y H2->wpAny (model X.prog X.w) X.A (f v u) Q X.xe s2):
  wpAny (model X.prog X.w) X.A (eval a X.env) (λv s₁=>wpAny (model X.prog X.w) X.A (eval b X.env) (λu s₂=>wpAny (model X.prog X.w) X.A (f v u) Q X.xe s₂) X.xe s₁) X.xe s:=by
 refine cR (ha pins s σ H _ I h) λv s1 ⟨x,H1,I1,r1,q1⟩=>?_
 refine cR (hb pins s1 σ H1 _ I1 q1) λu s2 ⟨y,H2,I2,r2,q2⟩=>?_
 exact hf v u s2 x y H2 I2 r1 r2 q2
theorem aiN{op:Operator}{r:R2}(ho:sY X (binaryOp op) r)(ha:PE X a ta)(hb:PE X b tb):PE X (.BinOp a op b pos) (tOp r ta tb):=by
 intro pins s σ H Q I h
 exact wpAny_BinOp (ZK ha hb I h λv u s2 x y H2 I2 rx ry q=>ho pins s2 σ H2 x y v u Q I2 rx ry q)
theorem ahL{op:UnaryOp}{r:V->Hp->VK->Prop}(ho:UnR X (unaryOp op) r)(ha:PE X a ta):PE X (.UnaryOp op a pos) (tUn r ta):=by
 intro pins s σ H Q I h
 exact UnaryOp_ (cR (ha pins s σ H _ I h) λv s1 ⟨x,H1,I1,r1,q1⟩=>ho pins s1 σ H1 x v Q I1 r1 q1)
theorem opI{f:Value->Value->Sem Value}{C:Int->Int->Prop}{g:Int->Int->Int}
  (rule:∀(i j:Int) (t u:Tok) (s:Shared) (Q:Value->Shared->Prop) (E:Value->Shared->Prop),C i j->Q (.int (g i j) s.toks) {s with toks:=s.toks+1}->wpAny (model X.prog X.w) X.A (f (.int i t) (.int j u)) Q E s):
  sY X f (rI C λi j=>.int (g i j)):=by
 intro pins s σ H x y v u Q I rx ry h
 obtain⟨i,j,rfl,rfl,hc,q⟩:=h
 obtain⟨t,rfl⟩:=rx
 obtain⟨t',rfl⟩:=ry
 exact rule i j t t' s _ _ hc ⟨.int (g i j),H,I.tok _,⟨_,rfl⟩,q⟩
theorem aiQ{f:Value->Value->Sem Value}{g:Int->Int->Int}
  (rule:∀(i j:Int) (t u:Tok) (s:Shared) (Q:Value->Shared->Prop) (E:Value->Shared->Prop),Q (.int (g i j) s.toks) {s with toks:=s.toks+1}->wpAny (model X.prog X.w) X.A (f (.int i t) (.int j u)) Q E s):
  sY X f (Ym λi j=>.int (g i j)):=by
 intro pins s σ H x y v u Q I rx ry h
 obtain⟨i,j,rfl,rfl,q⟩:=h
 obtain⟨t,rfl⟩:=rx
 obtain⟨t',rfl⟩:=ry
 exact rule i j t t' s _ _ ⟨.int (g i j),H,I.tok _,⟨_,rfl⟩,q⟩
theorem Vo{f:Value->Value->Sem Value}{g:Int->Int->Bool}
  (rule:∀(i j:Int) (t u:Tok) (s:Shared) (Q:Value->Shared->Prop) (E:Value->Shared->Prop),Q (.bool (g i j)) s->wpAny (model X.prog X.w) X.A (f (.int i t) (.int j u)) Q E s):
  sY X f (Ym λi j=>.bl (g i j)):=by
 intro pins s σ H x y v u Q I rx ry h
 obtain⟨i,j,rfl,rfl,q⟩:=h
 obtain⟨t,rfl⟩:=rx
 obtain⟨t',rfl⟩:=ry
 exact rule i j t t' s _ _ ⟨.bl (g i j),H,I,rfl,q⟩
def age(i j:Int):Prop:=0<j/\j<1073741824
def axc(i j:Int):Prop:=j≠0/\j.natAbs<1073741824
def af8(i j:Int):Prop:=0≤j/\j≤1000000/\i.natAbs<2^64
def VG(i j:Int):Prop:=(-(2^64)<i/\i<2^64)\/(-(2^64)<j/\j<2^64)
theorem VG.ok{i j:Int}(h:VG i j):IntMulOk i j:=by
 rcases h with⟨h1,h2⟩ |⟨h1,h2⟩
 .exact .of_left (intBits_le_64 h1 h2)
 .exact .of_right (intBits_le_64 h1 h2)
theorem ZV:sY X (binaryOp .Add) (Ym λi j=>.int (i+j)):=aiQ λ_ _ _ _ _ _ _ q=>add_int q
theorem aeo:sY X (binaryOp .Sub) (Ym λi j=>.int (i-j)):=aiQ λ_ _ _ _ _ _ _ q=>sub_int q
theorem ad8:sY X (binaryOp .Mult) (rI VG λi j=>.int (i*j)):=opI λ_ _ _ _ _ _ _ hc q=>mul_int q hc.ok
theorem Vy:sY X (binaryOp .FloorDiv) (rI age λi j=>.int (i / j)):=opI λi j _ _ _ _ _ hc q=>by
 have h1:(0:Int)<j:=hc.1
 have h2:j<1073741824:=hc.2
 exact floordiv_int (by omega) (by rw[Int.fdiv_eq_ediv_of_nonneg i (by omega)];exact q) (.inl (PyProof.noPylong_small (by omega)))
theorem aem:sY X (binaryOp .Mod) (rI (λ_ j=>0<j) λi j=>.int (i % j)):=opI λi j _ _ _ _ _ hc q=>by
 have h1:(0:Int)<j:=hc
 exact mod_int' (by omega) (by rw[Int.fmod_eq_emod_of_nonneg i (by omega)];exact q)
theorem ac6:sY X (binaryOp .Pow) (rI af8 λi j=>.int (i^j.toNat)):=opI λ_ _ _ _ _ _ _ hc q=>pow_int_small hc.1 hc.2.1 hc.2.2 q
theorem unI{f:Value->Sem Value}{g:Int->Int}
  (rule:∀(i:Int) (t:Tok) (s:Shared) (Q:Value->Shared->Prop) (E:Value->Shared->Prop),Q (.int (g i) s.toks) {s with toks:=s.toks+1}->wpAny (model X.prog X.w) X.A (f (.int i t)) Q E s):
  UnR X f (rU λi=>.int (g i)):=by
 intro pins s σ H x v Q I rx h
 obtain⟨i,rfl,q⟩:=h
 obtain⟨t,rfl⟩:=rx
 exact rule i t s _ _ ⟨.int (g i),H,I.tok _,⟨_,rfl⟩,q⟩
theorem acZ:UnR X (unaryOp .USub) (rU λi=>.int (-i)):=unI λ_ _ _ _ _ q=>neg_int q
end
def W4:V->V->Bool
 | .non,.non=>true | .non,.int _=>true | .int _,.non=>true | .non,.bl _=>true | .bl _,.non=>true | .non,.str _=>true | .str _,.non=>true
 | .int _,.int _=>true | .bl _,.bl _=>true | .str _,.str _=>true | .byt _,.byt _=>true
 | .int _,.str _=>true | .str _,.int _=>true | .bl _,.str _=>true | .str _,.bl _=>true
 |_,_=>false
def rEq:R2:=λx y H Q=>W4 x y=true/\Q (.bl (decide (x=y))) H
def rNe:R2:=λx y H Q=>W4 x y=true/\Q (.bl (!decide (x=y))) H
theorem LQ{i j:Int}:decide (V.int i=V.int j)=(i==j):=by
 rw[Bool.eq_iff_iff]
 simp
theorem UT{i j:Bool}:decide (V.bl i=V.bl j)=(i==j):=by
 rw[Bool.eq_iff_iff]
 simp
theorem Ls{i j:Str}:decide (V.str i=V.str j)=(i==j):=by
 rw[Bool.eq_iff_iff]
 simp
theorem Mf{i j:Array UInt8}:decide (V.byt i=V.byt j)=(i.toList==j.toList):=by
 rw[Bool.eq_iff_iff]
 cases i
 cases j
 simp
section
variable{X:Cx}{a b c:Expr}{ta tb tc:TE}{pos:Pos}
theorem bD{pins:List (Addr×Obj)}{σ:St}{H:Hp}{s:Shared}{Q:VK}{k k':Bool}(I:Inv X pins σ H s)(q:Q (.bl k) H)(e:k=k'):EP X pins σ Q (.bool k') s:=by
 subst e
 exact⟨.bl k,H,I,rfl,q⟩
theorem ahf:sY X (compareOp .Eq) rEq:=by
 intro pins s σ H x y v u Q I rx ry h
 obtain⟨hs,q⟩:=h
 cases x with
 |non=>
  cases rx
  cases y with
  |non=>cases ry;exact PySem.EqNone.eq_none_none (bD I q (by simp))
  |bl j=>cases ry;exact PySem.EqNone.eq_none_bool (bD I q (by simp))
  |int j=>obtain⟨t',rfl⟩:=ry;exact PySem.EqNone.eq_none_int (bD I q (by simp))
  |str j=>obtain⟨t',rfl⟩:=ry;exact PySem.EqNone.eq_none_str (bD I q (by simp))
  |_=>exact absurd (show false=true from hs) Bool.false_ne_true
 |bl i=>
  cases rx
  cases y with
  |non=>cases ry;exact PySem.EqNone.eq_bool_none (bD I q (by simp))
  |bl j=>cases ry;exact eq_bool (bD I q UT)
  |str j=>obtain⟨t',rfl⟩:=ry;exact PySem.EqMixed.eq_bool_str (bD I q (by simp))
  |_=>exact absurd (show false=true from hs) Bool.false_ne_true
 |int i=>
  obtain⟨t,rfl⟩:=rx
  cases y with
  |non=>cases ry;exact PySem.EqNone.eq_int_none (bD I q (by simp))
  |int j=>obtain⟨t',rfl⟩:=ry;exact eq_int (bD I q LQ)
  |str j=>obtain⟨t',rfl⟩:=ry;exact PySem.EqMixed.eq_int_str (bD I q (by simp))
  |_=>exact absurd (show false=true from hs) Bool.false_ne_true
 |str i=>
  obtain⟨t,rfl⟩:=rx
  cases y with
  |non=>cases ry;exact PySem.EqNone.eq_str_none (bD I q (by simp))
  |bl j=>cases ry;exact PySem.EqMixed.eq_str_bool (bD I q (by simp))
  |int j=>obtain⟨t',rfl⟩:=ry;exact PySem.EqMixed.eq_str_int (bD I q (by simp))
  |str j=>obtain⟨t',rfl⟩:=ry;exact eq_str (bD I q Ls)
  |_=>exact absurd (show false=true from hs) Bool.false_ne_true
 |byt i=>
  obtain⟨t,rfl⟩:=rx
  cases y with
  |byt j=>obtain⟨t',rfl⟩:=ry;exact W.eq_bytes (bD I q Mf)
  |_=>exact absurd (show false=true from hs) Bool.false_ne_true
 |_=>cases y<;>exact absurd (show false=true from hs) Bool.false_ne_true
theorem agh:sY X (compareOp .NotEq) rNe:=by
 intro pins s σ H x y v u Q I rx ry h
 obtain⟨hs,q⟩:=h
 cases x with
 |non=>
  cases rx
  cases y with
  |non=>cases ry;exact PySem.EqNone.ne_none_none (bD I q (by simp))
  |bl j=>cases ry;exact PySem.EqNone.ne_none_bool (bD I q (by simp))
  |int j=>obtain⟨t',rfl⟩:=ry;exact PySem.EqNone.ne_none_int (bD I q (by simp))
  |str j=>obtain⟨t',rfl⟩:=ry;exact PySem.EqNone.ne_none_str (bD I q (by simp))
  |_=>exact absurd (show false=true from hs) Bool.false_ne_true
 |bl i=>
  cases rx
  cases y with
  |non=>cases ry;exact PySem.EqNone.ne_bool_none (bD I q (by simp))
  |bl j=>cases ry;exact ne_bool (bD I q (congrArg not UT))
  |str j=>obtain⟨t',rfl⟩:=ry;exact PySem.EqMixed.ne_bool_str (bD I q (by simp))
  |_=>exact absurd (show false=true from hs) Bool.false_ne_true
 |int i=>
  obtain⟨t,rfl⟩:=rx
  cases y with
  |non=>cases ry;exact PySem.EqNone.ne_int_none (bD I q (by simp))
  |int j=>obtain⟨t',rfl⟩:=ry;exact ne_int (bD I q (congrArg not LQ))
  |str j=>obtain⟨t',rfl⟩:=ry;exact PySem.EqMixed.ne_int_str (bD I q (by simp))
  |_=>exact absurd (show false=true from hs) Bool.false_ne_true
 |str i=>
  obtain⟨t,rfl⟩:=rx
  cases y with
  |non=>cases ry;exact PySem.EqNone.ne_str_none (bD I q (by simp))
  |bl j=>cases ry;exact PySem.EqMixed.ne_str_bool (bD I q (by simp))
  |int j=>obtain⟨t',rfl⟩:=ry;exact PySem.EqMixed.ne_str_int (bD I q (by simp))
  |str j=>obtain⟨t',rfl⟩:=ry;exact ne_str (bD I q (congrArg not Ls))
  |_=>exact absurd (show false=true from hs) Bool.false_ne_true
 |byt i=>
  obtain⟨t,rfl⟩:=rx
  cases y with
  |byt j=>obtain⟨t',rfl⟩:=ry;exact W.ne_bytes (bD I q (congrArg not Mf))
  |_=>exact absurd (show false=true from hs) Bool.false_ne_true
 |_=>cases y<;>exact absurd (show false=true from hs) Bool.false_ne_true
theorem aiF:sY X (compareOp .Lt) (Ym λi j=>.bl (decide (i<j))):=Vo λ_ _ _ _ _ _ _ q=>lt_int q
theorem aiv:sY X (compareOp .LtE) (Ym λi j=>.bl (decide (i≤j))):=Vo λ_ _ _ _ _ _ _ q=>le_int q
theorem ahF:sY X (compareOp .Gt) (Ym λi j=>.bl (decide (j<i))):=Vo λ_ _ _ _ _ _ _ q=>gt_int q
theorem ahM:sY X (compareOp .GtE) (Ym λi j=>.bl (decide (j≤i))):=Vo λ_ _ _ _ _ _ _ q=>ge_int q
theorem Pg:sY X (compareOp .In) (λx y H Q=>∃i j,x= .str i/\y= .str j/\Q (.bl (!(Builtin.Str.occurrences j i 0 j.length 1).isEmpty)) H):=by
 intro pins s σ H x y v u Q I rx ry h
 obtain⟨i,j,rfl,rfl,q⟩:=h
 obtain⟨t,rfl⟩:=rx
 obtain⟨t',rfl⟩:=ry
 exact in_str (bD I q rfl)
theorem aaU:sY X (compareOp .Is) (λx y H Q=>y= .non/\Q (.bl (decide (x= .non))) H):=by
 intro pins s σ H x y v u Q I rx ry h
 obtain⟨rfl,q⟩:=h
 cases ry
 refine is_none_gen (bD I q ?_)
 cases x<;>first
  |(cases rx;rfl)
  |(obtain⟨t,rfl⟩:=rx;rfl)
theorem VJ:sY X (compareOp .IsNot) (λx y H Q=>y= .non/\Q (.bl (!decide (x= .non))) H):=by
 intro pins s σ H x y v u Q I rx ry h
 obtain⟨rfl,q⟩:=h
 cases ry
 refine isnot_none_gen (bD I q ?_)
 cases x<;>first
  |(cases rx;rfl)
  |(obtain⟨t,rfl⟩:=rx;rfl)
def isObj:HO->Bool
 | .lst _=>true
 | .ins _ _ _=>true
 |_=>false
theorem UW(b:Expr){op:CmpOp}(h:op≠ .In:=by decide)(h2:op≠ .NotIn:=by decide):behindInMarks op b=false:=by
 have e1:(op==CmpOp.In)=false:=by cases op<;>first |rfl |exact absurd rfl h
 have e2:(op==CmpOp.NotIn)=false:=by cases op<;>first |rfl |exact absurd rfl h2
 cases b<;>simp[behindInMarks,e1,e2]
theorem Xx{op:CmpOp}{r:R2}(ho:sY X (compareOp op) r)(ha:PE X a ta)(hb:PE X b tb)(hm:behindInMarks op b=false):PE X (.Compare a [op] [b] pos) (tOp r ta tb):=by
 intro pins s σ H Q I h
 exact wpAny_Compare1 (ZK ha hb I h λv u s2 x y H2 I2 rx ry q=>ho pins s2 σ H2 x y v u Q I2 rx ry q) hm
def ahY(t:TE):TT:=λσ H Q=>t σ H λx H'=>∃k,x= .bl k/\Q k H'
theorem VN{op:CmpOp}{r:R2}(ho:sY X (compareOp op) r)(ha:PE X a ta)(hb:PE X b tb)(hm:behindInMarks op b=false):PT X (.Compare a [op] [b] pos) (ahY (tOp r ta tb)):=by
 intro pins s σ H Q I h
 refine wpAny_isTrue_Compare1 (cR (ha pins s σ H _ I h) λv s1 ⟨x,H1,I1,r1,q1⟩=>cR (hb pins s1 σ H1 _ I1 q1) λu s2 ⟨y,H2,I2,r2,q2⟩=>
  cR (ho pins s2 σ H2 x y v u _ I2 r1 r2 q2) λc s3 ⟨z,H3,I3,r3,k,e,q3⟩=>?_) hm
 subst e
 cases r3
 exact wpAny_truthy_bool ⟨H3,I3,q3⟩
def avd(r r':R2)(ta tb tc:TE):TE:=λσ H Q=>ta σ H λx H1=>tb σ H1 λy H2=>r x y H2 λz H3=>∃k,z= .bl k/\
 (if k=true then tc σ H3 λw' H4=>r' y w' H4 Q else Q (.bl false) H3)
def Xk(K:W.Frag)(x:V)(H:Hp)(k:Bool):Prop:=
 match x with
 | .non=>k=false
 | .bl b=>k=b
 | .int i=>k=(i !=0)
 | .str y=>y.length≤sizeLine/\k=((y.length:Int) !=0)
 | .byt y=>y.size≤sizeLine/\k=((y.size:Int) !=0)
 | .ref p=>(∃xs,bc K H p xs/\k= !xs.isEmpty)\/(∃xs,cA K H p xs/\k= !xs.isEmpty)\/∃kvs,H p=some (.dK kvs)/\k= !kvs.isEmpty
 |_=>False
theorem Jp{κ:Type}{kvs:List (κ×V)}{vs:List (κ×Value)}(r:KV kvs vs):(!vs.isEmpty)= !kvs.isEmpty:=by
 cases r<;>rfl
theorem yE{xs:List V}{its:List Value}(r:Vals xs its):(!its.toArray.isEmpty)= !xs.isEmpty:=by
 cases r<;>simp
theorem rG:(sizeLine:Nat)<2^63:=by rw[sizeLine_eq];decide
theorem abe:alA X (λx H Q=>∃k,Xk X.K x H k/\Q k H):=by
 intro pins s σ H x v Q I rx h
 obtain⟨k,e,q⟩:=h
 have hl:=rG
 have hs:sizeLine=16777216:=sizeLine_eq
 cases x with
 |non=>
  cases rx
  have e':k=false:=e
  subst e'
  exact truthy_none ⟨H,I,q⟩
 |bl b=>
  cases rx
  have e':k=b:=e
  subst e'
  exact wpAny_truthy_bool ⟨H,I,q⟩
 |int i=>
  obtain⟨t,rfl⟩:=rx
  have e':k=(i !=0):=e
  subst e'
  exact PySem.P.truthy_int ⟨H,I,q⟩
 |str y=>
  obtain⟨t,rfl⟩:=rx
  obtain⟨hy,e'⟩:y.length≤sizeLine/\k=((y.length:Int) !=0):=e
  subst e'
  exact PySem.P.truthy_str (by omega) ⟨H,I.tok _,q⟩
 |byt y=>
  obtain⟨t,rfl⟩:=rx
  obtain⟨hy,e'⟩:y.size≤sizeLine/\k=((y.size:Int) !=0):=e
  subst e'
  exact W.truthy_bytes (by omega) ⟨H,I.tok _,q⟩
 |ref p=>
  cases rx
  have e':(∃xs,bc X.K H p xs/\k= !xs.isEmpty)\/(∃xs,cA X.K H p xs/\k= !xs.isEmpty)\/∃kvs,H p=some (.dK kvs)/\k= !kvs.isEmpty:=e
  rcases e' with⟨xs,hx,e'⟩ |⟨xs,hx,e'⟩ |⟨kvs,hx,e'⟩
  .subst e'
   obtain⟨its,r,pl,hz⟩:=I.list hx
   have hlen:=r.length
   exact wpAny_truthy_list pl.isList (by simp only[List.size_toArray];omega) ⟨H,I.tok _,by rw[yE r];exact q⟩
  .subst e'
   obtain⟨its,r,pl,hz⟩:=I.tuple hx
   have hlen:=r.length
   exact truthy_tuple pl (by simp only[List.size_toArray];omega) ⟨H,I.tok _,by rw[yE r];exact q⟩
  .subst e'
   obtain⟨hz,hS,vs,r,m⟩:kvs.length≤sizeLine/\(p==sysModules)=false/\∃vs,KV kvs vs/\s.heap.DictOf (DG X.prog X.w) p vs:=I.hok p _ hx
   have hlen:kvs.length=vs.length:=Paired.length r
   exact wpAny_truthy_dict hS m (by omega) ⟨H,I.tok _,by rw[Jp r];exact q⟩
 |_=>exact(show False from e).elim
theorem Uu(ha:PE X a ta)(he:∀whole,isTrue a X.env whole=(do let v<-whole;standAt a.pos;holding [v] (truthy v))):
  PT X a (λσ H Q=>ta σ H λx H'=>∃k,Xk X.K x H' k/\Q k H'):=by
 intro pins s σ H Q I h
 exact isTrue_plain (cR (ha pins s σ H _ I h) λv s1 ⟨x,H1,I1,r1,q1⟩=>abe pins s1 σ H1 x v Q I1 r1 q1) (he _)
theorem Jh:sY X (binaryOp .Add) (λx y H Q=>∃i j,x= .str i/\y= .str j/\i.length+j.length≤sizeLine/\Q (.str (i++j)) H):=by
 intro pins s σ H x y v u Q I rx ry h
 obtain⟨i,j,rfl,rfl,hz,q⟩:=h
 obtain⟨t,rfl⟩:=rx
 obtain⟨t',rfl⟩:=ry
 exact add_str (λt' tk=>⟨.str (i++j),H,I.tok _,⟨_,rfl⟩,q⟩) hz
def ag9(b:Expr):Prop:=∀o i,subscripted b false o i=operate [o,i] (getItem o i)
theorem vals1{x:V}{us:List Value}(r:Vals [x] us):∃u,us=[u]/\RelV x u:=by
 cases r with
 |cons r1 r2=>cases r2;exact⟨_,rfl,r1⟩
theorem vals2{x y:V}{us:List Value}(r:Vals [x,y] us):∃u w',us=[u,w']/\RelV x u/\RelV y w':=by
 cases r with
 |cons r1 r2=>
  cases r2 with
  |cons r3 r4=>cases r4;exact⟨_,_,rfl,r1,r3⟩
theorem vR:pB X (.type "int") (λxs H Q=>(∃i,xs=[.int i]/\Q (.int i) H)\/∃k,xs=[.bl k]/\Q (.int (if k then 1 else 0)) H):=by
 intro pins s σ H xs us Q I r h
 rcases h with⟨i,rfl,q⟩ |⟨k,rfl,q⟩
 .obtain⟨u,rfl,t,rfl⟩:=vals1 r
  exact call_int_int ⟨.int i,H,I,⟨_,rfl⟩,q⟩
 .obtain⟨u,rfl,r1⟩:=vals1 r
  cases r1
  exact call_int_bool ⟨.int (if k then 1 else 0),H,I.tok _,⟨_,rfl⟩,q⟩
theorem Fd:pB X (.type "str") (λxs H Q=>∃i,xs=[.int i]/\i.natAbs.log2<1920/\Q (.str (toString i)) H):=by
 intro pins s σ H xs us Q I r h
 obtain⟨i,rfl,hz,q⟩:=h
 obtain⟨u,rfl,t,rfl⟩:=vals1 r
 exact PySem.P.str_of_int hz ⟨.str _,H,I.tok _,⟨_,rfl⟩,q⟩
def aAb(K:W.Frag)(x:V)(H:Hp)(n:Nat):Prop:=
 match x with
 | .str y=>y.length≤sizeLine/\n=y.length
 | .byt y=>y.size≤sizeLine/\n=y.size
 | .ref p=>(∃xs,bc K H p xs/\n=xs.length)\/∃xs,cA K H p xs/\n=xs.length
 |_=>False
end
structure Jf(h:Heap)(x dx C:Addr)(mA:Str->Option Value):Prop where
 obj:h.get? x=some (W.instObj C dx)
 ns:h.Ns1 dx mA
 ne:dx≠x
theorem Nu{h:Heap}{dx:Addr}{mA:Str->Option Value}(n:h.Ns1 dx mA):∃od,h.get? dx=some od/\∀name,W.lookIn name od=some (mA name):=by
 obtain⟨o,es,ep,ho,hd,hk,_,hm⟩:=n
 refine⟨o,ho,λname=>?_⟩
 have e:=hm name
 unfold nsFind findBy at e
 rw[<-Array.find?_toList]at e
 unfold W.lookIn
 rw[hd]
 dsimp only
 split
 .rename_i y q
  rw[q]at e
  exact congrArg some e
 .rename_i q
  rw[q]at e
  have a:es.toList.any (·.refKey)=false:=by
   rw[List.any_eq_false]
   intro y hy
   obtain⟨z,t,hkey⟩:=hk y (Array.mem_toList_iff.mp hy)
   simp[DictEntry.refKey,hkey]
  have a':¬es.toList.any (·.refKey)=true:=by rw[a];exact Bool.false_ne_true
  rw[if_neg a']
  exact congrArg some e
theorem Jf.look{h:Heap}{x dx C:Addr}{mA:Str->Option Value}(I:Jf h x dx C mA):∃od,W.InstAt h x (W.instObj C dx) C (some od)/\∀name,W.lookIn name od=some (mA name):=
 let⟨od,ho,hl⟩:=Nu I.ns
 ⟨od,⟨I.obj,rfl,rfl,ho⟩,hl⟩
section
variable{prog:Program}{w:World}{A:Around}{E:Value->Shared->Prop}{s:Shared}{K:W.Frag}{x dx C f:Addr}{mA:Str->Option Value}{name:Str}{v:Value}
theorem get_map{expr:Bool}{Q:Value->Shared->Prop}(X:K.In s.heap)(I:Jf s.heap x dx C mA)(hg:W.plainGet K C name=true)(hh:W.hasDictIn K C=true)
  (ha:W.findIn K (.ref C) name=some none) (hv:mA name=some v) (hv':W.handedIn v=true) (h:Q v {s with toks:=s.toks+1}):
  wpAny (model prog w) A (getAttr (.ref x) name expr) Q E s:=by
 obtain⟨od,J,hl⟩:=I.look
 exact W.get_value X J (W.plainGet_of hg).1 (W.findObj_own hh ha rfl (by rw[hl,hv])) hv' h
theorem Q5{pl:Sem Bool}{Q:Value×List Value->Shared->Prop}(X:K.In s.heap)(I:Jf s.heap x dx C mA)(hg:W.plainGet K C name=true)
  (hf:W.findIn K (.ref C) name=some (some (.ref f))) (ht:W.isFn K (.ref f)=true) (hv:mA name=none) (h:Q (.ref f,[.ref x]) s):
  wpAny (model prog w) A (getMethod (.ref x) name pl) Q E s:=by
 obtain⟨od,J,hl⟩:=I.look
 exact W.method_fn X J (W.plainGet_of hg).1 (W.plainGet_of hg).2 hf (beq_iff_eq.mp ht) (by show(W.lookIn name od).map (·.isSome)=some false;rw[hl,hv];rfl) h
theorem Vz{ns:List Str}{Q:Unit->Shared->Prop}(X:K.In s.heap)(I:Jf s.heap x dx C mA)
  (hs:W.findIn K (.ref C) "__setattr__"=some (some (.builtin "object.__setattr__"))) (hp:W.plainOver K C=true) (ht:W.takerIn K C name=some none) (hh:W.hasDictIn K C=true)
  (hw:PySem.Within mA ns) (hsz:ns.length≤sizeLine)
  (h:∀h',Jf h' x dx C (λy=>if y=name then some v else mA y)->Heap.SameBut dx s.heap h'->Q () {s with heap:=h',toks:=s.toks+2}):
  wpAny (model prog w) A (setAttr (.ref x) name v) Q E s:=by
 obtain⟨od,J,hl⟩:=I.look
 refine W.set_plain X J hs (W.osa_open (s:={s with toks:=s.toks+1}) (r:=none) X J hp ht λb=>?_)
 obtain⟨cd,hc,hd'⟩:=W.any_some hh
 have hx:s.heap.get? x=some ⟨.ref C,some dx,.plain, #[]⟩:=I.obj
 refine wpAny_bind (wpAny_pure (wpAny_bind (wpAny_bind (wpAny_loadPart hx (wpAny_bind (W.Looks.here (s:={s with toks:=s.toks+1}) (W.looks_clsIn X hc) ?_))))))
 rw[hd']
 refine wpAny_pure (a:=some dx) (wpAny_bind (wpAny_pure (wpAny_bind ?_)))
 refine wpAny_nsSet1 (s:={s with toks:=s.toks+1}) I.ns λh' hn2 hs2=>?_
 obtain⟨oD,esD,epD,hoD,hdD,hcD⟩:=hn2.count (PySem.Within.cons name v hw)
 refine wpAny_bind (wpAny_lookBehind hoD (by rw[hdD];exact pastItsLine_dict (Nat.le_trans hcD (by rw[List.length_cons];omega))) ?_)
 exact wpAny_pure (h _ ⟨(hs2.2 _ (Ne.symm I.ne)).trans I.obj,hn2,I.ne⟩ hs2)
theorem Um{R:Result->Shared->Prop}{vs:List Value}{kw:List (Str×Value)}(X:K.In s.heap)(hm:W.makesIn K C=true)
  (hi:W.findIn K (.ref C) "__init__"=some (some (.ref f))) (hf:W.typeIn K (.ref f)=some (.type "function"))
  (h:codeAny (model prog w) (A.under (.builtin "type.__call__" ⟨.ref C::vs,kw⟩)) (.call (.ref f) ⟨.ref (s.heap.objs.size+1)::vs,kw⟩) (W.InitBack (s.heap.objs.size+1) R)
   {s with heap:=(s.heap.push W.emptyDict).push (W.instObj C s.heap.objs.size)}):
  codeAny (model prog w) A (.call (.ref C) ⟨vs,kw⟩) R s:=by
 obtain⟨hh,g,d,t,os⟩:=s
 exact W.make_core (W.makes_of X hm) (W.looks_findIn X hi) (λself=>W.bind_fn X self hf) (.inl rfl) h
end
def gk(f:Str)(v:V):List (Str×V)->List (Str×V)
 |[]=>[(f,v)]
 |(g,x)::r=>if g=f then(g,v)::r else(g,x)::gk f v r
theorem wW(f g:Str)(v:V):∀fs:List (Str×V),(gk f v fs).lookup g=if g=f then some v else fs.lookup g
 |[]=>by
  show List.lookup g [(f,v)]=_
  by_cases h:g=f
  .have hb:(g==f)=true:=beq_iff_eq.mpr h
   simp only[List.lookup,hb,if_pos h]
  .have hb:(g==f)=false:=beq_eq_false_iff_ne.mpr h
   simp only[List.lookup,hb,if_neg h]
 |(k,x)::r=>by
  have ih:=wW f g v r
  rw[show gk f v ((k,x)::r)=(if k=f then(k,v)::r else(k,x)::gk f v r)from rfl]
  by_cases hk:k=f
  .rw[if_pos hk]
   by_cases h:g=k
   .have hb:(g==k)=true:=beq_iff_eq.mpr h
    simp only[List.lookup,hb,if_pos (h.trans hk)]
   .have hb:(g==k)=false:=beq_eq_false_iff_ne.mpr h
    simp only[List.lookup,hb,if_neg (λe:g=f=>h (e.trans hk.symm))]
  .rw[if_neg hk]
   by_cases h:g=k
   .have hb:(g==k)=true:=beq_iff_eq.mpr h
    simp only[List.lookup,hb,if_neg (λe:g=f=>hk (h.symm.trans e))]
   .have hb:(g==k)=false:=beq_eq_false_iff_ne.mpr h
    simp only[List.lookup,hb]
    exact ih
theorem uL(f:Str)(v:V):∀fs:List (Str×V),f∈(gk f v fs).map (·.1)/\∀g,g∈fs.map (·.1)->g∈(gk f v fs).map (·.1)
 |[]=>⟨by simp[gk],λg h=>by simp at h⟩
 |(k,x)::r=>by
  obtain⟨i1,i2⟩:=uL f v r
  rw[show gk f v ((k,x)::r)=(if k=f then(k,v)::r else(k,x)::gk f v r)from rfl]
  by_cases hk:k=f
  .rw[if_pos hk]
   subst hk
   exact⟨by simp,λg h=>by simpa using h⟩
  .rw[if_neg hk]
   refine⟨?_,λg h=>?_⟩
   .rw[List.map_cons]
    exact List.mem_cons_of_mem _ i1
   .rw[List.map_cons]at h⊢
    rcases List.mem_cons.mp h with e |e
    .exact List.mem_cons.mpr (.inl e)
    .exact List.mem_cons_of_mem _ (i2 g e)
theorem dM(f:Str)(v:V):∀fs:List (Str×V),(gk f v fs).length≤fs.length+1
 |[]=>by simp[gk]
 |(k,x)::r=>by
  have ih:=dM f v r
  rw[show gk f v ((k,x)::r)=(if k=f then(k,v)::r else(k,x)::gk f v r)from rfl]
  by_cases hk:k=f
  .rw[if_pos hk,List.length_cons,List.length_cons];omega
  .rw[if_neg hk,List.length_cons,List.length_cons];omega
theorem Be.some_of{v:V}{o:Option Value}(r:Be (some v) o):∃u,o=some u/\RelV v u:=by
 cases o with
 |none=>exact(show False from r).elim
 |some u=>exact⟨u,rfl,r⟩
theorem Be.none_of{o:Option Value}(r:Be none o):o=none:=by
 cases o with
 |none=>rfl
 |some u=>exact(show False from r).elim
theorem O3{v:V}{u:Value}(r:RelV v u):W.handedIn u=true:=by
 cases v with
 |non=>cases(show u=Value.none from r);rfl
 |bl b=>cases(show u=Value.bool b from r);rfl
 |int i=>obtain⟨t,e⟩:=(show ∃t,u=Value.int i t from r);cases e;rfl
 |str x=>obtain⟨t,e⟩:=(show ∃t,u=Value.str x t from r);cases e;rfl
 |byt b=>obtain⟨t,e⟩:=(show ∃t,u=Value.bytes b t from r);cases e;rfl
 |flt b=>obtain⟨t,e⟩:=(show ∃t,u=Value.float b t from r);cases e;rfl
 |ref a=>cases(show u=Value.ref a from r);rfl
 |ty n=>cases(show u=Value.type n from r);rfl
section
variable{P:Program}{w:World}{H H':Hp}{h h':Heap}{a C dx:Addr}{fs fs':List (Str×V)}
theorem ye(hok:uY P w H h)(e:H a=some (.ins C dx fs)):∃mA,Jf h a dx C mA/\(∀f,Be (fs.lookup f) (mA f))/\PySem.Within mA (fs.map (·.1))/\fs.length≤1000/\H dx=some (.own a):=by
 obtain⟨d,z,ne,ob,mA,n,r,q⟩:=(show fO P w H h a (.ins C dx fs)from hok a _ e)
 exact⟨mA,⟨ob,n,ne⟩,r,q,z,d⟩
end
structure pJ(K:W.Frag)(C:Addr):Prop where
 pg:W.plainGet K C Str.empty=true
 hd:W.hasDictIn K C=true
 po:W.plainOver K C=true
 sa:W.findIn K (.ref C) "__setattr__"=some (some (.builtin "object.__setattr__"))
theorem pJ.get{K:W.Frag}{C:Addr}(c:pJ K C)(f:Str):W.plainGet K C f=true:=c.pg
def aU(K:W.Frag)(C:Addr)(f:Str):Prop:=W.findIn K (.ref C) f=some none
theorem aU.taker{K:W.Frag}{C:Addr}{f:Str}(n:aU K C f):W.takerIn K C f=some none:=by
 unfold W.takerIn
 rw[show W.findIn K (.ref C) f=some none from n]
 rfl
structure Con(K:W.Frag)(C:Addr)(f:Str)(v:V)(u:Value):Prop where
 at_:W.findIn K (.ref C) f=some (some u)
 rel:RelV v u
 get:W.specialIn K u "__get__"=some none
 cp:W.copiedNames.contains f=false
structure Meth(K:W.Frag)(C:Addr)(m:Str)(f:Addr):Prop where
 at_:W.findIn K (.ref C) m=some (some (.ref f))
 fn:W.isFn K (.ref f)=true
 kp:W.keepIn K (.ref f)=true
section
variable{X:Cx}{pins:List (Addr×Obj)}{σ:St}{H:Hp}{s:Shared}{a C dx:Addr}{fs:List (Str×V)}{f:Str}{v:V}{A:Around}{E:Value->Shared->Prop}
theorem JX{b:Bool}{Q:Value->Shared->Prop}(I:Inv X pins σ H s)(e:H a=some (.ins C dx fs))(c:pJ X.K C)(n:aU X.K C f)(l:fs.lookup f=some v)
  (h:∀u s',Inv X pins σ H s'->RelV v u->Q u s'):wpAny (model X.prog X.w) A (getAttr (.ref a) f b) Q E s:=by
 obtain⟨mA,O,r,_,_,_⟩:=ye I.hok e
 obtain⟨u,hu,ru⟩:=Be.some_of (v:=v) (o:=mA f) (by rw[<-l];exact r f)
 exact get_map I.kIn O (c.get f) c.hd n hu (O3 ru) (h u _ (I.tok _) ru)
theorem JD{m:Str}{g:Addr}{pl:Sem Bool}{Q:Value×List Value->Shared->Prop}(I:Inv X pins σ H s)(e:H a=some (.ins C dx fs))(c:pJ X.K C)(k:Meth X.K C m g)(l:fs.lookup m=none)
  (h:Q (.ref g,[.ref a]) s):wpAny (model X.prog X.w) A (getMethod (.ref a) m pl) Q E s:=by
 obtain⟨mA,O,r,_,_,_⟩:=ye I.hok e
 have hn:mA m=none:=Be.none_of (by rw[<-l];exact r m)
 exact Q5 I.kIn O (c.get m) k.at_ k.fn hn h
theorem JN{y:V}{u:Value}{Q:Unit->Shared->Prop}(I:Inv X pins σ H s)(e:H a=some (.ins C dx fs))(c:pJ X.K C)(n:aU X.K C f)(hl:fs.length<1000)(ry:RelV y u)
  (h:∀s',Inv X pins σ (upd H a (.ins C dx (gk f y fs))) s'->Q () s'):wpAny (model X.prog X.w) A (setAttr (.ref a) f u) Q E s:=by
 obtain⟨mA,O,r,wi,_,ho⟩:=ye I.hok e
 have hz:(fs.map (·.1)).length≤sizeLine:=by rw[List.length_map,sizeLine_eq];omega
 refine Vz I.kIn O c.sa c.po n.taker c.hd wi hz λh' O' sb=>h _ ?_
 have hd:∃o,h'.get? dx=some o:=let⟨o,_,_,e',_⟩:=O'.ns;⟨o,e'⟩
 refine I.write (x:=a) (e:=dx) (by rw[e];exact True.intro) (.inr ho) (λb q hb z=>(sb.2 b hb).trans z) hd ?_
 refine⟨by rw[az O.ne];exact ho,?_,O.ne,O'.obj,_,O'.ns,λg=>?_,λg hg=>?_⟩
 .have :=dM f y fs;omega
 .show Be ((gk f y fs).lookup g) (if g=f then some u else mA g)
  rw[wW]
  by_cases q:g=f
  .rw[if_pos q,if_pos q];exact ry
  .rw[if_neg q,if_neg q];exact r g
 .by_cases q:g=f
  .rw[q];exact(uL f y fs).1
  .refine(uL f y fs).2 g (wi g λz=>hg ?_)
   show(if g=f then some u else mA g)=none
   rw[if_neg q];exact z
theorem Inv.made(I:Inv X pins σ H s):Inv X pins σ (upd (upd H s.heap.objs.size (.own (s.heap.objs.size+1))) (s.heap.objs.size+1) (.ins C s.heap.objs.size []))
  {s with heap:=(s.heap.push W.emptyDict).push (W.instObj C s.heap.objs.size)}:=by
 have e1:(s.heap.push W.emptyDict).get? s.heap.objs.size=some W.emptyDict:=Heap.get?_push_size s.heap rfl
 have e2:((s.heap.push W.emptyDict).push (W.instObj C s.heap.objs.size)).get? (s.heap.objs.size+1)=some (W.instObj C s.heap.objs.size):=by
  have :=Heap.get?_push_size (s.heap.push W.emptyDict) (o:=W.instObj C s.heap.objs.size) rfl
  rwa [Heap.size_push]at this
 have e3:(s.heap.push W.emptyDict).Ns s.heap.objs.size (λ_=>none):=⟨W.emptyDict, #[],_,e1,rfl,(λe he=>absurd he (by simp)),λ_=>rfl⟩
 have I1:=I.laid (a:=s.heap.objs.size) (o:=.own (s.heap.objs.size+1)) (h':=s.heap.push W.emptyDict) (t':=s.toks) (λb u q=>Heap.get?_push_of_some _ q) (Nat.le_refl _) ⟨_,e1⟩
 refine I1.laid (a:=s.heap.objs.size+1) (o:=.ins C s.heap.objs.size []) (t':=s.toks) (λb u q=>Heap.get?_push_of_some _ q) (Nat.le_of_eq (Heap.size_push _ _)) ?_
 have ne:s.heap.objs.size≠s.heap.objs.size+1:=Nat.ne_of_lt (Nat.lt_succ_self _)
 refine⟨by rw[az ne,ak],Nat.zero_le _,ne,e2,λ_=>none,(Heap.Ns1.of_empty e3).at λo q=>Heap.get?_push_of_some _ q,λ_=>True.intro,λy hy=>absurd rfl hy⟩
theorem XM{prog:Program}{w:World}{env:Env}{e:Expr}{f:Str}{pos:Pos}{s:Shared}{Q:Value->Shared->Prop}(hb:attributeBase e f env (eval e env)=eval e env)
  (h:wpAny (model prog w) A (eval e env) (λo s₁=>wpAny (model prog w) A (getAttr o f true) Q E s₁) E s):wpAny (model prog w) A (eval (.Attribute e f pos) env) Q E s:=
 Attribute_any_ h (by rw[arm_eval_Attribute,hb])
end
def aqC(K:W.Frag)(ta:TE)(f:Str):TE:=λσ H Q=>ta σ H λx H1=>∃a C dx fs v,x= .ref a/\H1 a=some (.ins C dx fs)/\pJ K C/\aU K C f/\fs.lookup f=some v/\Q v H1
def azY(K:W.Frag)(ta:TE)(f:Str):TE:=λσ H Q=>ta σ H λx H1=>∃a C dx fs v u,x= .ref a/\H1 a=some (.ins C dx fs)/\pJ K C/\Con K C f v u/\fs.lookup f=none/\Q v H1
def apU(K:W.Frag)(ta tv:TE)(f:Str):TS:=λD σ H=>tv σ H λy H1=>ta σ H1 λx H2=>∃a C dx fs,x= .ref a/\H2 a=some (.ins C dx fs)/\pJ K C/\aU K C f/\fs.length<1000/\
 D.nx σ (upd H2 a (.ins C dx (gk f y fs)))
def az7(X:Cx)(op:Operator)(rd:V->V->Hp->VK->Prop):Prop:=
 ∀(pins:List (Addr×Obj)) (s:Shared) (σ:St) (H:Hp) (x y:V) (u v:Value) (Q:VK),Inv X pins σ H s->RelV x u->RelV y v->rd x y H Q->wpAny (model X.prog X.w) X.A (inplaceOp op u v) (EP X pins σ Q) X.xe s
def ajR(K:W.Frag)(ta tv:TE)(rd:V->V->Hp->VK->Prop)(f:Str):TS:=λD σ H=>ta σ H λx H1=>∃a C dx fs v,x= .ref a/\H1 a=some (.ins C dx fs)/\pJ K C/\aU K C f/\fs.lookup f=some v/\
 tv σ H1 λy H2=>rd v y H2 λz H3=>∃dx' fs',H3 a=some (.ins C dx' fs')/\fs'.length<1000/\D.nx σ (upd H3 a (.ins C dx' (gk f z fs')))
section
variable{X:Cx}{o e value:Expr}{f:Str}{pos pos' tpos:Pos}{ta tv:TE}
theorem adU(he:PE X e ta)(hb:attributeBase e f X.env (eval e X.env)=eval e X.env):PE X (.Attribute e f pos) (aqC X.K ta f):=by
 intro pins s σ H Q I h
 refine XM hb (cR (he pins s σ H _ I h) λu s1 ⟨x,H1,I1,rx,a,C,dx,fs,v,ex,ea,c,n,l,q⟩=>?_)
 subst ex
 obtain rfl:u=Value.ref a:=rx
 exact JX I1 ea c n l λu' s2 I2 ru=>⟨v,H1,I2,ru,q⟩
theorem adG(ha:PE X o ta)(hv:PE X value tv)(hs:swapsWith value (some (.Attribute o f pos')) pos.line X.env=pure false):PS X (.Assign [.Attribute o f pos'] value pos) (apU X.K ta tv f):=by
 intro pins s σ H D I h
 refine plainObj_wpAny_Assign_Attribute (cR (hv pins s σ H _ I h) λu s1 ⟨y,H1,I1,ry,q⟩=>cR (ha pins s1 σ H1 _ I1 q) λov s2 ⟨x,H2,I2,rx,a,C,dx,fs,ex,ea,c,n,l,q2⟩=>?_) hs
 subst ex
 obtain rfl:ov=Value.ref a:=rx
 exact JN I2 ea c n l ry λs3 I3=>⟨σ,_,I3,q2⟩
def ayW:V->V->Hp->VK->Prop:=λx y H Q=>∃i j,x= .int i/\y= .int j/\Q (.int (i+j)) H
def az4:V->V->Hp->VK->Prop:=λx y H Q=>∃i j,x= .int i/\y= .int j/\Q (.int (i-j)) H
end
section
variable{X:Cx}{pins:List (Addr×Obj)}{σ:St}{H:Hp}{s:Shared}{A:Around}{E:Value->Shared->Prop}{Q:Value->Shared->Prop}{c:Value}{b:Bool}
inductive iW (K:W.Frag) (H:Hp):V->Value->Prop where
 |non:iW K H .non (.type "NoneType")
 |bl (x:Bool):iW K H (.bl x) (.type "bool")
 |int (i:Int):iW K H (.int i) (.type "int")
 |str (x:Str):iW K H (.str x) (.type "str")
 |flt (x:UInt64):iW K H (.flt x) (.type "float")
 |lst {a:Addr} {xs:List V} (e:H a=some (.lst xs)):iW K H (.ref a) (.type "list")
 |frz {a:Addr} {o:Obj} {xs:List V} (e:H a=some (.frz o (.lst xs))):iW K H (.ref a) (.type "list")
 |tup {a:Addr} {xs:List V} (e:H a=some (.tup xs)):iW K H (.ref a) (.type "tuple")
 |dK {a:Addr} {kvs:List (Key×V)} (e:H a=some (.dK kvs)):iW K H (.ref a) (.type "dict")
 |dT {a:Addr} {kvs:List (List Key×V)} (e:H a=some (.dT kvs)):iW K H (.ref a) (.type "dict")
 |ins {a C dx:Addr} {fs:List (Str×V)} (e:H a=some (.ins C dx fs)) (cl:pJ K C) (ha:W.findIn K (.ref C) "__class__"=some (some (.builtin "object.__class__")))
  (hn:W.specialIn K (.builtin "object.__class__") "__get__"=some (some (.builtin "getset_descriptor.__get__"))) (htk:W.takesIn K (.builtin "object.__class__")=some true)
  (hm:W.mroIn K C (.type "object")=some true):iW K H (.ref a) (.ref C)
theorem Nz{x:V}{u t:Value}(I:Inv X pins σ H s)(rx:RelV x u)(ty:iW X.K H x t)(e:W.kitOne X.K t c=some b)(h:∀tk,Q (.bool b) {s with toks:=tk}):
  wpAny (model X.prog X.w) A (call (.builtin "isinstance") [u,c]) Q E s:=by
 cases ty with
 |non=>cases(show u=Value.none from rx);exact W.kia_one W.kitx_none I.kIn True.intro e (λz=>nomatch z) h
 |bl y=>cases(show u=Value.bool y from rx);exact W.kia_one W.kitx_bool I.kIn True.intro e (λz=>nomatch z) h
 |int i=>obtain⟨t,q⟩:=(show ∃t,u=Value.int i t from rx);cases q;exact W.kia_one W.kitx_int I.kIn True.intro e (λz=>nomatch z) h
 |str y=>obtain⟨t,q⟩:=(show ∃t,u=Value.str y t from rx);cases q;exact W.kia_one W.kitx_str I.kIn True.intro e (λz=>nomatch z) h
 |flt y=>obtain⟨t,q⟩:=(show ∃t,u=Value.float y t from rx);cases q;exact W.kia_one W.kitx_float I.kIn True.intro e (λz=>nomatch z) h
 | @lst a xs ea=>
   cases(show u=Value.ref a from rx)
   obtain⟨_,_,n,_,h1⟩:=(show fO X.prog X.w H s.heap a (.lst xs)from I.hok a _ ea)
   exact W.kia_one W.kitx_list I.kIn ⟨_,h1,rfl⟩ e (λz=>nomatch z) h
 | @frz a ob xs ea=>
   cases(show u=Value.ref a from rx)
   obtain⟨_,_,_,n,_,h1⟩:=(show fO X.prog X.w H s.heap a (.frz ob (.lst xs))from I.hok a _ ea)
   exact W.kia_one W.kitx_list I.kIn ⟨_,h1,rfl⟩ e (λz=>nomatch z) h
 | @tup a xs ea=>
   cases(show u=Value.ref a from rx)
   obtain⟨_,_,_,p⟩:=(show fO X.prog X.w H s.heap a (.tup xs)from I.hok a _ ea)
   obtain⟨o,h1,h2,_⟩:=p
   exact W.kia_one W.kitx_tuple I.kIn ⟨o,h1,h2⟩ e (λz=>nomatch z) h
 | @dK a kvs ea=>
   cases(show u=Value.ref a from rx)
   obtain⟨_,_,vs,_,p⟩:=(show fO X.prog X.w H s.heap a (.dK kvs)from I.hok a _ ea)
   obtain⟨o,es,ep,h1,h2,_⟩:=p
   exact W.kia_one W.kitx_dict I.kIn ⟨o,h1,h2.1⟩ e (λz=>nomatch z) h
 | @dT a kvs ea=>
   cases(show u=Value.ref a from rx)
   obtain⟨_,_,xs,_,o,es,ep,h1,h2,_⟩:=(show fO X.prog X.w H s.heap a (.dT kvs)from I.hok a _ ea)
   exact W.kia_one W.kitx_dict I.kIn ⟨o,h1,h2.1⟩ e (λz=>nomatch z) h
 | @ins a C dx fs ea cl ha hn htk hm=>
   cases(show u=Value.ref a from rx)
   obtain⟨mA,O,_⟩:=ye I.hok ea
   obtain⟨od,J,_⟩:=O.look
   exact W.kia_one (W.kitx_own (cl.get _) cl.hd ha hn htk hm) I.kIn J e (λz=>nomatch z) h
end
structure dZ(cc:Bool)(k:Nat)(A:Around):Prop where
 hd:cc=true->A.handled=none
 dp:A.depth+3*k+5<recursionLimit
 un:A.units+16*k+200<cLine
theorem dZ.mono{j k:Nat}{A:Around}(r:dZ cc k A)(h:j≤k):dZ cc j A:=⟨r.hd,by have :=r.dp;omega,by have :=r.un;omega⟩
theorem dZ.deeper{k:Nat}{A:Around}(r:dZ cc (k+1) A)(env:Env):dZ cc k (A.deeper env):=
 ⟨r.hd,by have :=r.dp;show A.depth+1+3*k+5<_;omega,by have :=r.un;show A.units+3+16*k+200<_;omega⟩
theorem Ke{A:Around}{C:Addr}{us:List Value}{kw:List (Str×Value)}:(A.under (.builtin "type.__call__" ⟨.ref C::us,kw⟩)).depth=A.depth+1:=by
 first |rfl |simp[Around.under,Code.weight,Code.isCreation,Code.isGuard,Code.isCaller,Code.frames,Code.isFrame,guardIds]
theorem Jr{A:Around}{C:Addr}{us:List Value}{kw:List (Str×Value)}:(A.under (.builtin "type.__call__" ⟨.ref C::us,kw⟩)).units=A.units+1:=by
 first |rfl |simp[Around.under,Code.cUnits,Code.frames,Code.isFrame]
theorem dZ.make{k:Nat}{A:Around}(r:dZ cc (k+1) A)(C:Addr)(us:List Value)(kw:List (Str×Value)):dZ cc k (A.under (.builtin "type.__call__" ⟨.ref C::us,kw⟩)):=
 ⟨r.hd,by have :=r.dp;rw[Ke];omega,by have :=r.un;rw[Jr];omega⟩
theorem dZ.depth{k:Nat}{A:Around}(r:dZ cc k A):A.depth<recursionLimit:=by have :=r.dp;omega
theorem dZ.units{k:Nat}{A:Around}(r:dZ cc k A):A.units+64<cLine:=by have :=r.un;omega
def apu:TA:=λ_ H Q=>Q [] H
def aiO(ta:TE)(tr:TA):TA:=λσ H Q=>ta σ H λx H1=>tr σ H1 λxs H2=>Q (x::xs) H2
section
variable{X:Cx}{e:Expr}{es:List Expr}{te:TE}{t:TA}{pos:Pos}
theorem adP:PA X [] apu:=λ_ _ _ _ H Q I h=>Calls.spliced_nil ⟨[],H,I,.nil,h⟩
theorem Xr(ha:PE X e te)(hr:PA X es t)(hs:starEach (e::es) X.env=(false,eval e X.env)::starEach es X.env:=by rfl):PA X (e::es) (aiO te t):=by
 intro pos pins s σ H Q I h
 rw[hs]
 show wpAny _ _ (spliced ((false,eval e X.env)::backTo pos (starEach es X.env))) _ _ s
 refine Calls.spliced_cons (cR (ha pins s σ H _ I h) λu s1 ⟨x,H1,I1,r1,q1⟩=>?_)
 exact cR (hr pos pins s1 σ H1 _ I1 q1) λus s2 ⟨xs,H2,I2,r2,q2⟩=>⟨x::xs,H2,I2,.cons r1 r2,q2⟩
def atg(t:TA):TE:=λσ H Q=>t σ H λxs H1=>xs.length≤sizeLine/\∀p,H1 p=none->Q (.ref p) (upd H1 p (.tup xs))
def am9(t:TA):TE:=λσ H Q=>t σ H λxs H1=>xs.length≤sizeLine/\∀p,H1 p=none->Q (.ref p) (upd H1 p (.lst xs))
theorem aaF{x1}(h:PA X es t):PE X (.Tuple es x1 pos) (atg t):=by
 intro pins s σ H Q I hq
 refine wpAny_Tuple_spliced (cR (h pos pins s σ H _ I hq) λus s1 ⟨xs,H1,I1,r,z,q⟩=>⟨by rw[<-r.length];exact z,?_⟩)
 have hf:H1 s1.heap.objs.size=none:=I1.hok.fresh (Nat.le_refl _)
 refine⟨.ref s1.heap.objs.size,upd H1 s1.heap.objs.size (.tup xs),I1.laid (t':=s1.toks) (λb u e=>Heap.get?_push_of_some _ e) (Nat.le_refl _) ?_,rfl,q _ hf⟩
 exact⟨z,us,r,⟨_,Heap.get?_push_size _ rfl,rfl,_,rfl⟩⟩
theorem aaT(h:PA X es t):PE X (.List es pos) (am9 t):=by
 intro pins s σ H Q I hq
 refine wpAny_List_spliced (cR (h pos pins s σ H _ I hq) λus s1 ⟨xs,H1,I1,r,z,q⟩=>⟨by rw[<-r.length];exact z,?_⟩)
 have hf:H1 s1.heap.objs.size=none:=I1.hok.fresh (Nat.le_refl _)
 refine⟨.ref s1.heap.objs.size,upd H1 s1.heap.objs.size (.lst xs),I1.laid (t':=s1.toks) (λb u e=>Heap.get?_push_of_some _ e) (Nat.le_refl _) ?_,rfl,q _ hf⟩
 exact⟨z,us,0,r,Heap.get?_push_size _ rfl⟩
end
abbrev Sp:=List V->Hp->VK->XK->Prop
abbrev Qc:=List Env->Hp->Shared->XK->Value->Shared->Prop
structure JM(P:Program)(w:World)(K:W.Frag)(mg:Str->Option Value)(base:Heap)(A:Around)(outer:List Env)(s:Shared)(H:Hp):Prop where
 frames:A.frames=some outer
 mod:Mod K mg base
 bs:∀b o,base.get? b=some o->s.heap.get? b=some o/\H b=none
 bsz:base.objs.size≤s.heap.objs.size
 funs:s.heap.FunFrames base outer
 frf:∀b∈Gs outer,H b=none
 hok:uY P w H s.heap
 bare:AllBare s.gens
def CE(outer:List Env)(P:Program)(w:World)(H:Hp)(s:Shared)(Q:VK)(u:Value)(s':Shared):Prop:=
 ∃v H',s'.os=s.os/\AllBare s'.gens/\Un (Gs outer) [] H H' s.heap s'.heap/\uY P w H' s'.heap/\RelV v u/\Q v H'
def CR(CX:Qc)(outer:List Env)(P:Program)(w:World)(H:Hp)(s:Shared)(Q:VK)(E:XK)(r:Result)(s':Shared):Prop:=
 match r with
 | .ok (.ret u)=>CE outer P w H s Q u s'
 | .ok _=>False
 | .error e=>CX outer H s E e s'
structure wk(P:Program)(w:World)(K:W.Frag)(mg:Str->Option Value)(base:Heap)(CX:Qc)(cc:Bool)(k:Nat)(f:Addr)(fd:FuncData)(ps:List Str)(sp:Sp):Prop where
 len:∀vs H Q E,sp vs H Q E->vs.length=ps.length
 run:∀(A:Around) (outer:List Env) (s:Shared) (H:Hp) (args:Args) (us:List Value) (vs:List V) (Q:VK) (E:XK),dZ cc k A->JM P w K mg base A outer s H->BindsTo s fd args (ps.zip us)->Vals vs us->sp vs H Q E->
  codeAny (model P w) A (.call (.ref f) args) (CR CX outer P w H s Q E) s
theorem JM.make{P:Program}{w:World}{K:W.Frag}{mg:Str->Option Value}{base:Heap}{A:Around}{outer:List Env}{s:Shared}{H:Hp}(e:JM P w K mg base A outer s H)(C:Addr)(us:List Value)(kw:List (Str×Value)):
  JM P w K mg base (A.under (.builtin "type.__call__" ⟨.ref C::us,kw⟩)) outer s H:=⟨by first |exact e.frames |(simpa [Around.under,Code.envs,Code.isFrame,pushEnvs]using e.frames),e.mod,e.bs,e.bsz,e.funs,e.frf,e.hok,e.bare⟩
section
variable{X:Cx}{pins:List (Addr×Obj)}{σ:St}{H:Hp}{s s':Shared}
theorem Inv.env0(I:Inv X pins σ H s):JM X.prog X.w X.K X.mg X.base X.A X.stack s H:=
 ⟨I.ok.frames,I.ok.mod,I.bs,Nat.le_trans I.ok.bsz I.sz,I.stack,I.stkFree,I.hok,I.bare⟩
theorem Inv.after{Q:VK}{u:Value}(I:Inv X pins σ H s)(h:CE X.stack X.prog X.w H s Q u s'):EP X pins σ Q u s':=by
 obtain⟨v,H',os,bare,un,hok,r,q⟩:=h
 obtain⟨hh,g,d,t,os'⟩:=s'
 obtain rfl:os'=s.os:=os
 exact⟨v,H',I.call (h':=hh) (g':=g) (d':=d) (t':=t) (ch:=[]) un hok bare (λb z=>absurd z (by simp)),r,q⟩
end
def awG(sp:Sp)(dvs:List V)(E:XK)(t:TA):TE:=λσ H Q=>t σ H λvs H1=>sp (vs++dvs) H1 Q E
def axv(C:Addr)(m:Str)(sp:Sp)(dvs:List V)(E:XK)(ta:TE)(t:TA):TE:=λσ H Q=>ta σ H λx H1=>∃a dx fs,x= .ref a/\H1 a=some (.ins C dx fs)/\fs.lookup m=none/\
 t σ H1 λvs H2=>sp (x::(vs++dvs)) H2 Q E
def axB(C:Addr)(sp:Sp)(dvs:List V)(E:XK)(t:TA):TE:=λσ H Q=>t σ H λvs H1=>∀x dx,H1 x=none->H1 dx=none->dx≠x->
 sp (.ref x::(vs++dvs)) (upd (upd H1 dx (.own x)) x (.ins C dx [])) (λv H2=>v= .non/\Q (.ref x) H2) E
def Binds(K:W.Frag)(fd:FuncData)(ps:List Str)(ds:List Value):Prop:=
 ∀(s:Shared) (us:List Value),K.In s.heap->(us++ds).length=ps.length->BindsTo s fd ⟨us,[]⟩ (ps.zip (us++ds))
theorem Binds.all{K:W.Frag}{fd:FuncData}{ps:List Str}(h:∀us:List Value,us.length=ps.length->bindArgs fd ⟨us,[]⟩=pure (ps.zip us)):Binds K fd ps []:=λs us _ hl=>by
 rw[List.append_nil]at hl⊢
 exact .of_eq (h us hl)
def Passes(CX:Qc)(X:Cx)(E:XK):Prop:=∀(pins:List (Addr×Obj)) (σ:St) (H:Hp) (s:Shared) (e:Value) (s':Shared),Inv X pins σ H s->CX X.stack H s E e s'->X.xe e s'
section
variable{X:Cx}{CX:Qc}{k:Nat}{f C:Addr}{fd:FuncData}{ps:List Str}{sp:Sp}{dvs:List V}{ds:List Value}{E:XK}{x m:Str}{p pos apos:Pos}{e o:Expr}{es:List Expr}{ta:TE}{t:TA}
structure Mk(K:W.Frag)(C f:Addr):Prop where
 makes:W.makesIn K C=true
 init:W.findIn K (.ref C) "__init__"=some (some (.ref f))
 fn:W.isFn K (.ref f)=true
 kp:W.keepIn K (.ref C)=true
end
def PK(X:Cx)(kws:List Keyword)(t:TA):Prop:=
 ∀(pos:Pos) (pins:List (Addr×Obj)) (s:Shared) (σ:St) (H:Hp) (Q:List V->Hp->Prop),Inv X pins σ H s->t σ H Q->wpAny (model X.prog X.w) X.A (evalAll ((backToKw pos (keywordEach kws X.env)).map (·.2))) (AP X pins σ Q) X.xe s
section
variable{X:Cx}{CX:Qc}{k:Nat}{f C:Addr}{fd:FuncData}{ps ks:List Str}{sp:Sp}{E:XK}{x m:Str}{p pos apos kpos:Pos}{e o:Expr}{es:List Expr}{kws:List Keyword}{te ta:TE}{t tk:TA}{nm:Option Str}
structure ar3(K:W.Frag)(fd:FuncData)(ps ks:List Str)(g:List Value->List Value->List Value)(gV:List V->List V->List V):Prop where
 to:∀(s:Shared) (us ws:List Value),K.In s.heap->(g us ws).length=ps.length->BindsTo s fd ⟨us,ks.zip ws⟩ (ps.zip (g us ws))
 rel:∀{vs:List V} {us:List Value} {zs:List V} {ws:List Value},Vals vs us->Vals zs ws->Vals (gV vs zs) (g us ws)
def apo(sp:Sp)(gV:List V->List V->List V)(E:XK)(t tk:TA):TE:=λσ H Q=>t σ H λvs H1=>tk σ H1 λzs H2=>sp (gV vs zs) H2 Q E
variable{g:List Value->List Value->List Value}{gV:List V->List V->List V}
end
structure aK(N P:List Str)(sc:Scope):Prop where
 kind:sc.kind= .function
 co:sc.isCoroutine=false
 gen:sc.isGenerator=false
 nd:N.Nodup
 pre:N.take P.length=P
 par:∀x∈P,sc.names.lookup x=some .local\/sc.names.lookup x=some .cell
 nofree:∀y∈sc.names,y.2≠ .free
theorem BJ{kindOf:Str->Option NameKind}{x:Str}:∀{binds:List (Str×Value)} {m:Str->Option Value},(∀v,(x,v)∉binds)->bindL kindOf binds m x=m x
 |[],_,_=>rfl
 |(n,v)::r,m,h=>by
  unfold bindL
  rw[BJ λw hw=>h w (List.mem_cons_of_mem _ hw)]
  split
  .have :x≠n:=by rintro rfl;exact h v List.mem_cons_self
   simp[this]
  .rfl
theorem Cu{kindOf:Str->Option NameKind}{x:Str}:∀{binds:List (Str×Value)} {m:Str->Option Value},(∀v,(x,v)∉binds)->bindC kindOf binds m x=m x
 |[],_,_=>rfl
 |(n,v)::r,m,h=>by
  unfold bindC
  rw[Cu λw hw=>h w (List.mem_cons_of_mem _ hw)]
  split
  .rfl
  .have :x≠n:=by rintro rfl;exact h v List.mem_cons_self
   simp[this]
theorem By{kindOf:Str->Option NameKind}{x:Str}{v:Value}:∀{P:List Str} {vs:List Value} {i:Nat} {m:Str->Option Value},P.Nodup->P[i]? =some x->vs[i]? =some v->kindOf x=some .local->
  bindL kindOf (P.zip vs) m x=some v
 |[],_,_,_,_,h,_,_=>by simp at h
 |_::_,[],_,_,_,_,h,_=>by simp at h
 |p::P,w::vs,0,m,nd,h1,h2,hk=>by
  simp at h1 h2;subst h1;subst h2
  show bindL kindOf ((p,w)::P.zip vs) m p=_
  unfold bindL
  rw[BJ λv hv=>(List.nodup_cons.mp nd).1 (List.of_mem_zip hv).1,if_pos hk]
  simp
 |p::P,w::vs,i+1,m,nd,h1,h2,hk=>by
  show bindL kindOf ((p,w)::P.zip vs) m x=_
  unfold bindL
  exact By (i:=i) (List.nodup_cons.mp nd).2 (by simpa using h1) (by simpa using h2) hk
theorem Ca{kindOf:Str->Option NameKind}{x:Str}{v:Value}:∀{P:List Str} {vs:List Value} {i:Nat} {m:Str->Option Value},P.Nodup->P[i]? =some x->vs[i]? =some v->kindOf x≠some .local->
  bindC kindOf (P.zip vs) m x=some v
 |[],_,_,_,_,h,_,_=>by simp at h
 |_::_,[],_,_,_,_,h,_=>by simp at h
 |p::P,w::vs,0,m,nd,h1,h2,hk=>by
  simp at h1 h2;subst h1;subst h2
  show bindC kindOf ((p,w)::P.zip vs) m p=_
  unfold bindC
  rw[Cu λv hv=>(List.nodup_cons.mp nd).1 (List.of_mem_zip hv).1,if_neg hk]
  simp
 |p::P,w::vs,i+1,m,nd,h1,h2,hk=>by
  show bindC kindOf ((p,w)::P.zip vs) m x=_
  unfold bindC
  exact Ca (i:=i) (List.nodup_cons.mp nd).2 (by simpa using h1) (by simpa using h2) hk
def start(N:List Str)(vs:List V):St:=vs.map some++List.replicate (N.length-vs.length) none
def Hr(cc:Bool)(CX:Qc)(P:Program)(w:World)(K:W.Frag)(mg:Str->Option Value)(base:Heap)(N:List Str)(qual:Str)(scope:Scope)(f:Addr)(cd:Value)(A:Around)(outer:List Env)(s:Shared)(H:Hp)(E:XK):Cx where
 prog:=P
 w:=w
 K:=K
 mg:=mg
 base:=base
 A:=A.deeper (envOfC qual scope s.heap.objs.size f cd)
 N:=N
 s₀:=s
 H₀:=H
 env:=envOfC qual scope s.heap.objs.size f cd
 outer:=outer
 stack:=envOfC qual scope s.heap.objs.size f cd::outer
 ex:=[]
 calm:=cc
 fn:=λ_=>true
 pn:=[]
 xe:=λe s'=>wpAny (model P w) (A.deeper (envOfC qual scope s.heap.objs.size f cd)) (leaving (envOfC qual scope s.heap.objs.size f cd) e) (λ_ s''=>CX outer H s E e s'') (λe' s''=>CX outer H s E e' s'') s'
theorem HR{sc:Scope}{n:Nat}{x:Str}(h:sc.names.lookup x=some .cell):∃c,(cellsFrom n sc.names []).lookup x=some c:=by
 have q:=W.cellsFrom_some sc.names n [] (.inl h)
 exact Option.isSome_iff_exists.mp q
theorem PN{CX:Qc}{P:Program}{w:World}{K:W.Frag}{mg:Str->Option Value}{base:Heap}{N ps:List Str}{qual:Str}{scope:Scope}{f:Addr}{cd:Value}{A:Around}{outer:List Env}{s s1:Shared}{H:Hp}{E:XK}{us:List Value}{vs:List V}
  (S:aK N ps scope) (hd:cc=true->A.handled=none) (e0:JM P w K mg base A outer s H) (hl:vs.length=ps.length) (r:Vals vs us)
  (x:InCallC s s.heap.objs.size (bindL (envOfC qual scope s.heap.objs.size f cd).kindOf (ps.zip us) λ_=>none) (cellsFrom (s.heap.objs.size+1) scope.names []) (bindC (envOfC qual scope s.heap.objs.size f cd).kindOf (ps.zip us) λ_=>none) s1):
  Inv (Hr cc CX P w K mg base N qual scope f cd A outer s H E) [] (start N vs) H s1:=by
 have hpl:ps.length≤N.length:=by have :=congrArg List.length S.pre;rw[List.length_take]at this;omega
 obtain⟨h1,tk,rfl,hk⟩:=x.done
 have noA:∀b:Addr,b∉(Hr cc CX P w K mg base N qual scope f cd A outer s H E).ex:=λb z=>absurd (show b∈([]:List Addr)from z) (by simp)
 refine⟨⟨e0.mod,S.kind,rfl,rfl,Nat.le_refl _,λy z c h1 h2=>?_,λy hy=>?_,λy c _ h=>?_,hd,Around.frames_deeper e0.frames,.inr ⟨rfl,rfl⟩,λb z=>absurd z (noA b),e0.bs,e0.bsz,λb _ _=>noA b,λb z=>absurd z (noA b),e0.funs,e0.frf⟩,
  rfl,e0.bare,Un.kept hk,⟨_,x.toInCall.ns,λi y v h1 h2 h3=>?_⟩,λy c h=>⟨_,x.cell y c h⟩,e0.hok.fresh (Nat.le_refl _),λy c h=>?_,λp hp=>absurd (show p∈([]:List (Addr×Obj))from hp) (by simp),e0.hok.kept hk,?_⟩
 .exact name_of_addr x.apart (PySem.mem_of_lookup h1) (PySem.mem_of_lookup h2)
 .have hy:scope.names.lookup y=some .cell\/scope.names.lookup y=some .free:=hy
  rcases hy with hy |hy
  .exact HR hy
  .exact absurd rfl (S.nofree _ (PySem.mem_of_lookup hy))
 .exact Nat.le_of_lt (x.above y c (PySem.mem_of_lookup h))
 .have hi:i<vs.length:=by
   unfold start at h2
   by_cases hi:i<vs.length
   .exact hi
   .rw[List.getElem?_append_right (by simpa using hi)]at h2
    rw[List.getElem?_replicate]at h2
    split at h2<;>cases h2
  have ha:vs[i]? =some v:=by
   unfold start at h2
   rw[List.getElem?_append_left (by simpa using hi),List.getElem?_map]at h2
   cases e:vs[i]? with
   |none=>rw[e]at h2;cases h2
   |some a=>rw[e]at h2;cases h2;rfl
  obtain⟨u,hu,rv⟩:=r.get ha
  have hp:ps[i]? =some y:=by
   rw[<-S.pre,List.getElem?_take_of_lt (by omega)];exact h1
  have ndP:ps.Nodup:=by rw[<-S.pre];exact S.nd.sublist (List.take_sublist _ _)
  refine⟨u,rv,?_⟩
  rcases S.par y (List.mem_of_getElem? hp)with k |k
  .exact .inl ⟨k,By ndP hp hu k⟩
  .obtain⟨c,e⟩:=HR (n:=s.heap.objs.size+1) k
   refine .inr ⟨.inl k,c,e,?_⟩
   have q:=x.cell y c e
   rw[Ca ndP hp hu (by show scope.names.lookup y≠_;rw[k];decide)]at q
   exact q
 .exact e0.hok.fresh (Nat.le_of_lt (x.above y c (PySem.mem_of_lookup h)))
 .unfold start
  show _=N.length
  rw[List.length_append,List.length_map,List.length_replicate]
  omega
theorem ahV{CX:Qc}{P:Program}{w:World}{K:W.Frag}{mg:Str->Option Value}{base:Heap}{k:Nat}{f:Addr}{name qual:Str}{params:Arguments}{body:List Stmt}{scope:Scope}{dV kV doc pm cdv ct oc:Value}{an od:Option Addr}
  {osl:Array (Option Value)} {N ps:List Str} {sp:Sp} (lk:K.lookup f=some ⟨oc,od,.func (W.fnOf name qual params body scope dV kV doc pm an cdv ct),osl⟩) (hcd:W.codeIn K cdv qual=true) (S:aK N ps scope)
  (len:∀vs H Q E,sp vs H Q E->vs.length=ps.length)
  (hbody:∀(A:Around) (outer:List Env) (s:Shared) (H:Hp) (vs:List V) (Q:VK) (E:XK),dZ cc k (A.deeper (envOfC qual scope s.heap.objs.size f cdv))->sp vs H Q E->
   ∃t,Vi (Hr cc CX P w K mg base N qual scope f cdv A outer s H E) body t/\t {nx:=λ_ H'=>Q .non H',rt:=Q} (start N vs) H):
  wk P w K mg base CX cc (k+1) f (W.fnOf name qual params body scope dV kV doc pm an cdv ct) ps sp:=by
 refine⟨len,λA outer s H args us vs Q E hr e0 hb r hsp=>?_⟩
 have hl:=len _ _ _ _ hsp
 have KX:K.In s.heap:=e0.mod.kin.keeps λb o e=>(e0.bs b o e).1
 have lim:s.heap.NoLimit:=e0.mod.nolimit.keeps λb o e=>(e0.bs b o e).1
 have hkind:∀y∈ps.zip us,scope.names.lookup y.1=some .local\/(scope.names.lookup y.1=some .cell/\((cellsFrom (s.heap.objs.size+1) scope.names []).lookup y.1).isSome=true):=λ⟨n,v⟩ hy=>by
  rcases S.par n (List.of_mem_zip hy).1 with q |q
  .exact .inl q
  .exact .inr ⟨q,W.cellsFrom_some _ _ _ (.inl q)⟩
 refine codeAny_call_function hr.depth (KX _ _ lk) rfl S.co S.gen rfl (W.codeRec_of KX hcd) (hb _ _ _ _ ?_)
 refine wpAny_newFunctionEnv_cells S.kind hkind λenv he s1 x=>?_
 subst he
 refine⟨lim.keeps x.toInCall.keep,codeAny_func ?_⟩
 obtain⟨t,ht,hq⟩:=hbody A outer s H vs Q E (hr.deeper _) hsp
 have I:Inv (Hr cc CX P w K mg base N qual scope f cdv A outer s H E) [] (start N vs) H s1:=PN S hr.hd e0 hl r x
 refine wpAny_mono (ht [] s1 (start N vs) H _ I hq) (λfl s' hs=>?_) λe s' hs=>hs
 have fin:∀{σ':St} {H':Hp} {v:V} {u:Value},Inv (Hr cc CX P w K mg base N qual scope f cdv A outer s H E) [] σ' H' s'->RelV v u->Q v H'->CE outer P w H s Q u s':=
  λ{σ' H' v u} J rv q=>⟨v,H',J.os,J.bare,J.base,J.hok,rv,q⟩
 cases fl with
 |ret u=>
  obtain⟨v,σ',H',J,rv,q⟩:=hs
  exact fin J rv q
 |next=>
  obtain⟨σ',H',J,q⟩:=hs
  exact fin (v:=V.non) (u:=Value.none) J rfl q
 |brk=>
  obtain⟨_,_,_,q⟩:=hs
  exact False.elim q
 |cont=>
  obtain⟨_,_,_,q⟩:=hs
  exact False.elim q
section
variable{X:Cx}{x:Str}{p pos:Pos}{e:Expr}{es:List Expr}{t:TA}{id T:String}{r:List V->Hp->VK->Prop}
def tCB(r:List V->Hp->VK->Prop)(t:TA):TE:=λσ H Q=>t σ H λvs H1=>r vs H1 Q
theorem Tn(hc:pB X (.builtin id) r)(hg:Gl X x)(hm:X.mg x=none)(hv:bootBuiltins x=some (.builtin id))(ha:PA X (e::es) t)(hn:x≠"__name__":=by decide)(hdb:(x==("__debug__":Str))=false:=by decide)
  (he:starEach (e::es) X.env=(false,eval e X.env)::starEach es X.env:=by rfl) (hpl:(backTo pos (starEach es X.env)).any (·.1)=false:=by rfl):PE X (.Call (.Name x p) (e::es) [] pos) (tCB r t):=by
 intro pins s σ H Q I h
 refine wpAny_Call_Name_kw (qI I hg hm hv ?_ hn hdb)
 exact PyProof.Rows.callWith_builtin1 (cR (ha pos pins s σ H _ I h) λus s1 ⟨vs,H1,I1,r1,q1⟩=>hc pins s1 σ H1 vs us Q I1 r1 q1) he hpl
theorem Oe(hc:pB X (.type T) r)(hg:Gl X x)(hm:X.mg x=none)(hv:bootBuiltins x=some (.type T))(ha:PA X (e::es) t)(hn:x≠"__name__":=by decide)(hdb:(x==("__debug__":Str))=false:=by decide)
  (he:starEach (e::es) X.env=(false,eval e X.env)::starEach es X.env:=by rfl) (hpl:(backTo pos (starEach es X.env)).any (·.1)=false:=by rfl):PE X (.Call (.Name x p) (e::es) [] pos) (tCB r t):=by
 intro pins s σ H Q I h
 refine wpAny_Call_Name_kw (qI I hg hm hv ?_ hn hdb)
 exact PyProof.Rows.callWith_type1 (cR (ha pos pins s σ H _ I h) λus s1 ⟨vs,H1,I1,r1,q1⟩=>hc pins s1 σ H1 vs us Q I1 r1 q1) he hpl
end
end L2
namespace HT
open PySem PyProof.Rows
def lexLt:List Int->List Int->Bool
 |[],[]=>false
 |[],_::_=>true
 |_::_,[]=>false
 |x::xs,y::ys=>if x=y then lexLt xs ys else decide (x<y)
section
open PySem.SeqAt
open PySem.AutoSeq1 (wpAny_loadPart')
open PySem.MeetsSeq PySem.MeetsSeq2 PySem.MeetsSeq3
end
section
variable{prog:Program}{w:World}{A:Around}{E:Value->Shared->Prop}{s:Shared}
theorem VF{t b:Addr}{vs ws:List Value}{Q:Value->Shared->Prop}(ht:IsTup s.heap t vs.toArray)(hb:IsTup s.heap b ws.toArray)(hv:vs≠[])
  (h1:ws=[]->Q (.ref t) s) (h2:ws≠[]->Q (.ref s.heap.objs.size) {s with heap:=s.heap.push {cls:=.type "tuple",data:=.seq (vs++ws).toArray}})
  (hsz:vs.length+ws.length≤sizeLine):wpAny (model prog w) A (binaryOp .Add (.ref t) (.ref b)) Q E s:=by
 obtain⟨⟨cls,dd,data,sl⟩,ho,hc,n,hd⟩:=id ht
 obtain⟨⟨cls2,dd2,data2,sl2⟩,ho2,hc2,n2,hd2⟩:=id hb
 simp only at hc hd hc2 hd2
 subst hc hd hc2 hd2
 have e:vs.toArray++ws.toArray=(vs++ws).toArray:=by simp
 by_cases hw:ws=[]
 .exact concat_meets ⟨_,ho,rfl⟩ ⟨_,ho2,rfl⟩ noFill_tuple_add seq_tuple_add PySem.F.slot_tuple_add PySem.F.entry_tuple_add (PySem.F.args_tuple_add_2 _ _)
   (tuple_addW1 t b vs.toArray ws.toArray n n2 dd dd2 sl sl2 (by simpa using hv) (by simp[hw])) ⟨ho,ho2,h1 hw⟩
 .refine concat_meets ⟨_,ho,rfl⟩ ⟨_,ho2,rfl⟩ noFill_tuple_add seq_tuple_add PySem.F.slot_tuple_add PySem.F.entry_tuple_add (PySem.F.args_tuple_add_2 _ _)
   (tuple_addW2 t b vs.toArray ws.toArray n n2 dd dd2 sl sl2 (by simpa using hv) (by simpa using hw) (by rw[List.size_toArray,List.size_toArray];exact hsz)) ⟨ho,ho2,?_⟩
  rw[e]
  exact h2 hw
def dI(n d:Nat):Option Int->Nat
 |none=>d
 |some v=>if v<0 then(v+(n:Int)).toNat else min v.toNat n
theorem zg(n d:Nat):dI n d none=d:=rfl
theorem xZ(n d k:Nat):dI n d (some (k:Int))=min k n:=by
 show(if(k:Int)<0 then((k:Int)+(n:Int)).toNat else min (k:Int).toNat n)=min k n
 rw[if_neg (by omega),Int.toNat_natCast]
theorem Kw(n d:Nat)(hd:d≤n)(o:Option Int):dI n d o≤n:=by
 cases o with
 |none=>exact hd
 |some v=>
  show(if v<0 then(v+(n:Int)).toNat else min v.toNat n)≤n
  by_cases hv:v<0
  .rw[if_pos hv];omega
  .rw[if_neg hv];exact Nat.min_le_right _ _
theorem FJ(v:Int)(n d:Nat):(if v<0 then max (v+(n:Int)) 0 else min v (n:Int))=((dI n d (some v):Nat):Int):=by
 show(if v<0 then max (v+(n:Int)) 0 else min v (n:Int))=(((if v<0 then(v+(n:Int)).toNat else min v.toNat n):Nat):Int)
 by_cases hv:v<0
 .simp only[if_pos hv];omega
 .simp only[if_neg hv];omega
theorem Kc(lo hi:Option Int)(n:Nat):Builtin.Slice.sliceAdjust lo hi 1 (n:Int)=(((dI n 0 lo:Nat):Int),((dI n n hi:Nat):Int)):=by
 have h1:¬((1:Int)<0):=by omega
 unfold Builtin.Slice.sliceAdjust
 simp only[h1,if_false]
 refine Prod.ext ?_ ?_
 .cases lo with
  |none=>rfl
  |some v=>exact FJ v n 0
 .cases hi with
  |none=>rfl
  |some v=>exact FJ v n n
theorem Ko(i j:Nat):Builtin.Slice.slicePlaces (i:Int) (j:Int) 1=j-i:=by
 unfold Builtin.Slice.slicePlaces
 have h1:(1:Int)>0:=by omega
 simp only[h1,if_true,Int.ediv_one]
 split <;>omega
theorem zG{v:Value}{o:Option Int}{Q:Option Int->Shared->Prop}(p:IsPart v o)(h:Q o s):wpAny (model prog w) A (Builtin.Slice.slicePartIndex v) Q E s:=by
 cases p with
 |none=>exact slicePart_none h
 |int i t=>exact slicePart_int h
theorem vK{sl:Addr}{vl vu:Value}{lo hi:Option Int}{n:Nat}{Q:Int×Int×Nat->Shared->Prop}(hs:s.heap.IsSliceOf sl vl vu .none)(pl:IsPart vl lo)(pu:IsPart vu hi)
  (h:Q (((dI n 0 lo:Nat):Int),1,dI n n hi-dI n 0 lo) s):wpAny (model prog w) A (Builtin.Slice.sliceApplied (.ref sl) (pure (n:Int))) Q E s:=by
 obtain⟨os,hos,hcs,hds⟩:=id hs
 unfold Builtin.Slice.sliceApplied Builtin.Slice.sliceFields
 refine wpAny_bind (wpAny_bind (wpAny_field hos hds (x:=vl) rfl (wpAny_bind (wpAny_field hos hds (x:=vu) rfl (wpAny_bind (wpAny_field hos hds (x:=.none) rfl (wpAny_pure ?_)))))))
 refine wpAny_bind (slicePart_none ?_)
 show wpAny _ _ (if((1:Int)==0)=true then _ else _) _ _ s
 rw[if_neg (by decide)]
 refine wpAny_bind (zG pl (wpAny_bind (zG pu (wpAny_bind (wpAny_pure ?_)))))
 show wpAny _ _ (match Builtin.Slice.sliceAdjust lo hi 1 (n:Int)with |(lo,hi)=>pure (lo,(1:Int),Builtin.Slice.slicePlaces lo hi 1)) _ _ s
 rw[Kc lo hi n]
 show wpAny _ _ (pure (((dI n 0 lo:Nat):Int),(1:Int),Builtin.Slice.slicePlaces ((dI n 0 lo:Nat):Int) ((dI n n hi:Nat):Int) 1)) _ _ s
 rw[Ko]
 exact wpAny_pure h
theorem QL(xs:Array Value)(i k:Nat):((List.range k).filterMap λ(m:Nat)=>xs[((i:Int)+(m:Int)*1).toNat]?).toArray=((xs.toList.drop i).take k).toArray:=by
 have e:(λ(m:Nat)=>xs[((i:Int)+(m:Int)*1).toNat]?)=λm=>xs[i+m]? :=by
  funext m
  have :((i:Int)+(m:Int)*1).toNat=i+m:=by omega
  rw[this]
 rw[e]
 have :=pick_run xs i k
 rw[List.filterMap_map]at this
 have e2:((λx=>xs[x]?)∘λx=>i+x)=λm=>xs[i+m]? :=rfl
 rw[e2]at this
 rw[this]
theorem um{t sl:Addr}{items:Array Value}{vl vu:Value}{lo hi:Option Int}{Q:Value->Shared->Prop}(ht:IsTup s.heap t items)(hs:s.heap.IsSliceOf sl vl vu .none)(pl:IsPart vl lo)(pu:IsPart vu hi)
  (hw:¬(dI items.size 0 lo=0/\dI items.size items.size hi=items.size))
  (h:Q (.ref s.heap.objs.size) {s with heap:=s.heap.push {cls:=.type "tuple",data:=.seq ((items.toList.drop (dI items.size 0 lo)).take (dI items.size items.size hi-dI items.size 0 lo)).toArray}})
  (hsz:items.size≤sizeLine):wpAny (model prog w) A (getItem (.ref t) (.ref sl)) Q E s:=by
 have htake:sizeOk (.seq ((items.toList.drop (dI items.size 0 lo)).take (dI items.size items.size hi-dI items.size 0 lo)).toArray):=by
  show((items.toList.drop (dI items.size 0 lo)).take (dI items.size items.size hi-dI items.size 0 lo)).toArray.size≤sizeLine
  rw[List.size_toArray,List.length_take,List.length_drop,Array.length_toList]
  omega
 have hj:dI items.size items.size hi≤items.size:=Kw _ _ (Nat.le_refl _) hi
 obtain⟨os,hos,hcs,hds⟩:=id hs
 have hTs:s.TypeIs (.ref sl) "slice":=⟨os,hos,hcs⟩
 unfold getItem
 try with_reducible refine wpAny_holding ?_
 first |refine wpAny_bind (wpAny_pure ?_) |skip
 refine wpAny_bind (wpAny_sequenceKey ht.typeIs (by decide) ?_)
 refine wpAny_bind (wpAny_callSpecial?_slot (name:=Str.ofString "__getitem__") ht.typeIs PyProof.Rows.slot_tuple_getitem
  (wpAny_call_entry PyProof.Rows.slot_tuple_getitem ht.typeIs entry_tuple_getitem ?_ (args_tuple_getitem _ _)))
 show wpAny _ _ (Builtin.Tuple.tupleItemsOf (.ref t)>>=_) _ _ s
 refine wpAny_bind (tupleItemsOf_ ht ?_)
 refine wpAny_bind (wpAny_typeOf hTs ?_)
 rw[if_pos (by decide)]
 refine wpAny_bind (vK hs pl pu ?_)
 have hno:¬((((dI items.size 0 lo:Nat):Int)==0&&(1:Int)==1&&(dI items.size items.size hi-dI items.size 0 lo)==items.size)=true):=by
  intro q
  rw[Bool.and_eq_true,Bool.and_eq_true]at q
  have q1:((dI items.size 0 lo:Nat):Int)=0:=eq_of_beq q.1.1
  have q2:dI items.size items.size hi-dI items.size 0 lo=items.size:=eq_of_beq q.2
  exact hw ⟨by omega,by omega⟩
 show wpAny _ _ (if(((dI items.size 0 lo:Nat):Int)==0&&(1:Int)==1&&(dI items.size items.size hi-dI items.size 0 lo)==items.size)=true then _ else _) _ _ s
 rw[if_neg hno,QL]
 first
  |exact wpAny_bind (m:=Builtin.Tuple.tupleExact _) (wpAny_newObj_type (wpAny_pure ⟨_,rfl,wpAny_pure h⟩) htake)
  |exact wpAny_bind (m:=Builtin.Tuple.tupleExact _) (wpAny_newObj_type (wpAny_bind (wpAny_pure (wpAny_pure ⟨_,rfl,wpAny_pure h⟩))) htake)
  |exact wpAny_bind (wpAny_bind (m:=Builtin.Tuple.tupleExact _) (wpAny_newObj_type (wpAny_pure (wpAny_pure ⟨_,rfl,wpAny_pure h⟩)) htake))
  |exact wpAny_bind (wpAny_bind (m:=Builtin.Tuple.tupleExact _) (wpAny_newObj_type (wpAny_pure ⟨_,rfl,wpAny_pure h⟩) htake))
end
end HT
namespace L2
open PySem PySem.Spec PyProof.Rows
abbrev TO:=St->Hp->(Option Int->Hp->Prop)->Prop
def PO(X:Cx)(e:Option Expr)(t:TO):Prop:=
 ∀(pins:List (Addr×Obj)) (s:Shared) (σ:St) (H:Hp) (Q:Option Int->Hp->Prop),Inv X pins σ H s->t σ H Q->
  wpAny (model X.prog X.w) X.A (evalPart e X.env) (λu s'=>∃o H',Inv X pins σ H' s'/\IsPart u o/\Q o H') X.xe s
def Wv:TO:=λ_ H Q=>Q none H
def agj(t:TE):TO:=λσ H Q=>t σ H λx H1=>∃i,x= .int i/\Q (some i) H1
section
variable{X:Cx}{e:Expr}{te:TE}{lo hi:Option Expr}{tl th:TO}{pos p2:Pos}
theorem Wn:PO X none Wv:=by
 intro pins s σ H Q I h
 rw[evalPart_none]
 exact wpAny_pure ⟨none,H,I,.none,h⟩
theorem V5(h:PE X e te):PO X (some e) (agj te):=by
 intro pins s σ H Q I hw
 rw[evalPart_some]
 refine cR (h pins s σ H _ I hw) λu s1 ⟨x,H1,I1,r1,q1⟩=>?_
 obtain⟨i,rfl,q⟩:=q1
 obtain⟨t,rfl⟩:=r1
 exact⟨some i,H1,I1,.int i t,q⟩
def SlR(X:Cx)(r:V->Option Int->Option Int->Hp->VK->Prop):Prop:=
 ∀(pins:List (Addr×Obj)) (s:Shared) (σ:St) (H:Hp) (x:V) (v vl vu:Value) (lo hi:Option Int) (sl:Addr) (Q:VK),Inv X pins σ H s->RelV x v->s.heap.IsSliceOf sl vl vu .none->IsPart vl lo->IsPart vu hi->r x lo hi H Q->
  ∃T id,typeLookup (.type T) "__getitem__"=pure (some (.builtin id))/\s.TypeIs v T/\wpAny (model X.prog X.w) X.A (getItem v (.ref sl)) (EP X pins σ Q) X.xe s
def tSl(r:V->Option Int->Option Int->Hp->VK->Prop)(te:TE)(tl th:TO):TE:=λσ H Q=>te σ H λx H1=>tl σ H1 λl H2=>th σ H2 λu H3=>r x l u H3 Q
theorem Su{r:V->Option Int->Option Int->Hp->VK->Prop}(hr:SlR X r)(he:PE X e te)(hl:PO X lo tl)(hu:PO X hi th):PE X (.Subscript e (.Slice lo hi none p2) pos) (tSl r te tl th):=by
 intro pins s σ H Q I h
 refine Subscript_ (cR (he pins s σ H _ I h) λv s1 ⟨x,H1,I1,r1,q1⟩=>?_)
 refine wpAny_Slice (cR (hl pins s1 σ H1 _ I1 q1) λvl s2 ⟨l,H2,I2,pl,q2⟩=>cR (hu pins s2 σ H2 _ I2 q2) λvu s3 ⟨u,H3,I3,pu,q3⟩=>?_)
 rw[evalPart_none]
 refine wpAny_pure ?_
 have I4:Inv X pins σ H3 {s3 with heap:=s3.heap.push {cls:=.type "slice",data:=.fields #[vl,vu,.none]}}:=I3.kept (t':=s3.toks) λb ob q=>Heap.get?_push_of_some _ q
 obtain⟨T,id,hT,ht,hg⟩:=hr pins {s3 with heap:=s3.heap.push {cls:=.type "slice",data:=.fields #[vl,vu,.none]}} σ H3 x v vl vu l u s3.heap.objs.size Q I4 r1 (Heap.IsSliceOf.new ..) pl pu q3
 show wpAny (model X.prog X.w) X.A (subscriptTail e (.Slice lo hi none p2) v (.ref s3.heap.objs.size)) (EP X pins σ Q) X.xe {s3 with heap:=s3.heap.push {cls:=.type "slice",data:=.fields #[vl,vu,.none]}}
 exact tail_any (ops:=[.ref s3.heap.objs.size,v]) ht hT hg (by with_unfolding_all rfl)
def uW(xs:List V)(lo hi:Option Int):List V:=(xs.drop (HT.dI xs.length 0 lo)).take (HT.dI xs.length xs.length hi-HT.dI xs.length 0 lo)
theorem wC(xs:List V)(lo hi:Option Int):(uW xs lo hi).length≤xs.length:=by
 unfold uW
 rw[List.length_take,List.length_drop]
 omega
def at5(K:W.Frag):V->Option Int->Option Int->Hp->VK->Prop:=λx lo hi H Q=>∃a xs,x= .ref a/\cA K H a xs/\
 ¬(HT.dI xs.length 0 lo=0/\HT.dI xs.length xs.length hi=xs.length)/\∀p,H p=none->Q (.ref p) (upd H p (.tup (uW xs lo hi)))
theorem adz:SlR X (at5 X.K):=by
 intro pins s σ H x v vl vu lo hi sl Q I rx hs pl pu h
 obtain⟨a,xs,rfl,hx,hw,q⟩:=h
 cases rx
 obtain⟨its,r,ht,hz⟩:=I.tuple hx
 have hlen:its.toArray.size=xs.length:=by rw[List.size_toArray];exact r.length.symm
 refine⟨"tuple",_,PyProof.Rows.slot_tuple_getitem.lookup,ht.typeIs,?_⟩
 refine HT.um ht hs pl pu (by rw[hlen];exact hw) ?_ (by rw[hlen];exact hz)
 rw[hlen]
 refine⟨.ref s.heap.objs.size,_,I.laid (t':=s.toks) (o:=.tup (uW xs lo hi)) (λb ob q=>Heap.get?_push_of_some _ q) (Nat.le_refl _) ?_,rfl,q _ (I.hok.fresh (Nat.le_refl _))⟩
 exact⟨Nat.le_trans (wC xs lo hi) hz,_,(r.drop (HT.dI xs.length 0 lo)).take (HT.dI xs.length xs.length hi-HT.dI xs.length 0 lo),IsTup.new _ _⟩
def azG(K:W.Frag):R2:=λx y H Q=>∃a b ns ms,x= .ref a/\y= .ref b/\cA K H a (ns.map V.int)/\cA K H b (ms.map V.int)/\Q (.bl (HT.lexLt ns ms)) H
def ahQ(K:W.Frag):R2:=λx y H Q=>∃a b xs ys,x= .ref a/\y= .ref b/\cA K H a xs/\cA K H b ys/\xs≠[]/\xs.length+ys.length≤sizeLine/\
 (ys=[]->Q (.ref a) H)/\(ys≠[]->∀p,H p=none->Q (.ref p) (upd H p (.tup (xs++ys))))
theorem Vals.nil_iff{xs:List V}{us:List Value}(r:Vals xs us):us=[]↔xs=[]:=by
 cases r with
 |nil=>simp
 |cons _ _=>simp
theorem W2:sY X (binaryOp .Add) (ahQ X.K):=by
 intro pins s σ H x y v u Q I rx ry h
 obtain⟨a,b,xs,ys,rfl,rfl,ha,hb,hx,hz,q1,q2⟩:=h
 cases rx
 cases ry
 obtain⟨its,r1,p1,_⟩:=I.tuple ha
 obtain⟨its2,r2,p2,_⟩:=I.tuple hb
 refine HT.VF p1 p2 (λz=>hx (r1.nil_iff.mp z)) (λz=>⟨.ref a,H,I,rfl,q1 (r2.nil_iff.mp z)⟩) (λz=>?_) (by rw[<-r1.length, <-r2.length];exact hz)
 refine⟨.ref s.heap.objs.size,_,I.laid (t':=s.toks) (o:=.tup (xs++ys)) (λb ob q=>Heap.get?_push_of_some _ q) (Nat.le_refl _) ?_,rfl,q2 (λw=>z (r2.nil_iff.mpr w)) _ (I.hok.fresh (Nat.le_refl _))⟩
 exact⟨by rw[List.length_append];exact hz,_,r1.append r2,IsTup.new _ _⟩
end
def Yp(n:Nat)(i:Int):Option Nat:=if 0≤i then(if i<n then some i.toNat else none)else if -(n:Int)≤i then some (i+n).toNat else none
def n8{α:Type}(xs:List α)(i:Int):Option α:=(Yp xs.length i).bind λj=>xs[j]?
theorem MF{n:Nat}{i:Int}{j:Nat}(h:Yp n i=some j):seqIndex? i n=some j/\j<n/\ -(n:Int)≤i/\i<n:=by
 unfold Yp at h
 by_cases h0:0≤i
 .rw[if_pos h0]at h
  by_cases h1:i<n
  .rw[if_pos h1]at h
   have e:i.toNat=j:=Option.some.inj h
   exact⟨by rw[seqIndex_of h0 h1,e],by omega,by omega,h1⟩
  .rw[if_neg h1]at h;cases h
 .rw[if_neg h0]at h
  by_cases h1: -(n:Int)≤i
  .rw[if_pos h1]at h
   have e:(i+n).toNat=j:=Option.some.inj h
   exact⟨by rw[seqIndex_neg (by omega) h1,e],by omega,h1,by omega⟩
  .rw[if_neg h1]at h;cases h
theorem Ew{α:Type}{xs:List α}{i:Int}{v:α}(h:n8 xs i=some v):∃j,seqIndex? i xs.length=some j/\xs[j]? =some v/\j<xs.length/\ -(xs.length:Int)≤i/\i<xs.length:=by
 unfold n8 at h
 cases e:Yp xs.length i with
 |none=>rw[e]at h;cases h
 |some j=>
  rw[e]at h
  obtain⟨h1,h2,h3,h4⟩:=MF e
  exact⟨j,h1,h,h2,h3,h4⟩
theorem bz{α:Type}{xs:List α}{j:Nat}{v:α}(h:xs[j]? =some v):n8 xs (j:Int)=some v:=by
 have hj:j<xs.length:=(List.getElem?_eq_some_iff.mp h).1
 have e:Yp xs.length (j:Int)=some j:=by
  unfold Yp
  rw[if_pos (by omega),if_pos (by omega)];simp
 unfold n8;rw[e];exact h
def K8(b:Expr):Prop:=∀o i,subscripted b false o i=operate [o,i] (getItem o i)
def IxR(X:Cx)(r:R2):Prop:=
 ∀(value slice:Expr) (pins:List (Addr×Obj)) (s:Shared) (σ:St) (H:Hp) (x y:V) (v u:Value) (Q:VK),Inv X pins σ H s->RelV x v->RelV y u->r x y H Q->
  subscripted slice false v u=operate [v,u] (getItem v u)->wpAny (model X.prog X.w) X.A (subscriptTail value slice v u) (EP X pins σ Q) X.xe s
def MtR(X:Cx)(id:String)(r:V->List V->Hp->VK->Prop):Prop:=
 ∀(pins:List (Addr×Obj)) (s:Shared) (σ:St) (H:Hp) (x:V) (xs:List V) (v:Value) (us:List Value) (Q:VK),Inv X pins σ H s->RelV x v->Vals xs us->r x xs H Q->
  wpAny (model X.prog X.w) X.A (call (.builtin id) (v::us)) (EP X pins σ Q) X.xe s
section
variable{X:Cx}{a b:Expr}{ta tb:TE}{pos:Pos}
theorem ahH{r:R2}(hr:IxR X r)(ha:PE X a ta)(hb:PE X b tb)(hs:K8 b):PE X (.Subscript a b pos) (tOp r ta tb):=by
 intro pins s σ H Q I h
 exact Subscript_ (ZK ha hb I h λv u s2 x y H2 I2 rx ry q=>hr a b pins s2 σ H2 x y v u Q I2 rx ry q (hs _ _))
def afT(K:W.Frag):R2:=λx y H Q=>∃p xs i v,x= .ref p/\y= .int i/\bc K H p xs/\n8 xs i=some v/\Q v H
def aih(K:W.Frag):R2:=λx y H Q=>∃p xs i v,x= .ref p/\y= .int i/\cA K H p xs/\n8 xs i=some v/\Q v H
def ag8:R2:=λx y H Q=>∃z i c,x= .str z/\y= .int i/\z.length≤sizeLine/\n8 z.cps.toList i=some c/\Q (.str ⟨#[c]⟩) H
theorem W8:IxR X (afT X.K):=by
 intro value slice pins s σ H x y v u Q I rx ry h hs
 obtain⟨p,xs,i,z,rfl,rfl,hq,he,q⟩:=h
 cases rx
 obtain⟨t,rfl⟩:=ry
 obtain⟨its,r,pl,hz⟩:=I.list hq
 obtain⟨j,h1,h2,h3,h4,h5⟩:=Ew he
 obtain⟨w,ew,rw'⟩:=r.get h2
 have hl:=r.length
 have hn:=rG
 have fin:EP X pins σ Q w s:=⟨z,H,I,rw',q⟩
 by_cases h0:0≤i
 .have hj:i.toNat=j:=by
   rw[seqIndex_of h0 h5]at h1
   exact Option.some.inj h1
  exact item_listR pl.isList h0 (by omega) (by rw[hj];simpa using ew) fin hs
 .have hj:(i+(its.toArray.size:Int)).toNat=j:=by
   rw[seqIndex_neg (by omega) h4]at h1
   rw[List.size_toArray, <-hl]
   exact Option.some.inj h1
  exact subscriptTail_builtinR (x:=w) pl.isList.typeIs slot_list_getitem.lookup
   (wpAny_getItem_list_neg (Q:=λr s'=>r=w/\EP X pins σ Q r s') pl.isList (by omega) (by rw[List.size_toArray]<;>omega) (by omega) (by rw[hj];simpa using ew) ⟨rfl,fin⟩) hs
theorem abO:IxR X (aih X.K):=by
 intro value slice pins s σ H x y v u Q I rx ry h hs
 obtain⟨p,xs,i,z,rfl,rfl,hq,he,q⟩:=h
 cases rx
 obtain⟨t,rfl⟩:=ry
 obtain⟨its,r,pl,hz⟩:=I.tuple hq
 obtain⟨j,h1,h2,h3,h4,h5⟩:=Ew he
 obtain⟨w,ew,rw'⟩:=r.get h2
 have hl:=r.length
 have hn:=rG
 have fin:EP X pins σ Q w s:=⟨z,H,I,rw',q⟩
 exact subscriptTail_builtinR (x:=w) pl.typeIs slot_tuple_getitem.lookup
  (getItem_tuple (j:=j) (Q:=λr s'=>r=w/\EP X pins σ Q r s') pl (by omega) (by omega) (by rw[List.size_toArray, <-hl];exact h1) (by simpa using ew) ⟨rfl,fin⟩) hs
theorem Z1:IxR X ag8:=by
 intro value slice pins s σ H x y v u Q I rx ry h hs
 obtain⟨z,i,c,rfl,rfl,hz,he,q⟩:=h
 obtain⟨t,rfl⟩:=rx
 obtain⟨t',rfl⟩:=ry
 obtain⟨j,h1,h2,h3,h4,h5⟩:=Ew he
 have hl:z.cps.toList.length=z.length:=by simp[Str.length]
 rw[hl]at h1 h4 h5
 have hn:=rG
 exact tail_any (typeIs_str s z t) slot_str_getitem.lookup (getItem_str (c:=c) (by
  have e1:decide (i< -(2^63:Int))=false:=decide_eq_false (by omega)
  have e2:decide (i≥2^63)=false:=decide_eq_false (by omega)
  rw[e1,e2,Bool.or_false]) (by rw[h1];simpa using h2) ⟨.str ⟨#[c]⟩,H,I.tok _,⟨_,rfl⟩,q⟩) hs
def rIx(K:W.Frag):R2:=λx y H Q=>afT K x y H Q\/aih K x y H Q\/ag8 x y H Q
theorem J7(its:List Value)(n j:Nat)(u:Value):Obj.mapSeq (·.setIfInBounds j u) {cls:=.type "list",data:=.seq its.toArray n}={cls:=.type "list",data:=.seq (its.set j u).toArray n}:=by
 simp[Obj.mapSeq]
theorem Inv.lst{pins:List (Addr×Obj)}{σ:St}{H:Hp}{s:Shared}{p:Addr}{xs:List V}(I:Inv X pins σ H s)(h:H p=some (.lst xs)):
  ∃(its:List Value) (n:Nat),Vals xs its/\s.heap.get? p=some {cls:=.type "list",data:=.seq its.toArray n}/\xs.length≤sizeLine:=by
 obtain⟨z,its,n,r,e⟩:=I.hok p _ h
 exact⟨its,n,r,e,z⟩
theorem Inv.lstUpd{pins:List (Addr×Obj)}{σ:St}{H:Hp}{s:Shared}{p:Addr}{xs ys:List V}{its its':List Value}{n n':Nat}{f:Obj->Obj}(I:Inv X pins σ H s)(h:H p=some (.lst xs))
  (ho:s.heap.get? p=some {cls:=.type "list",data:=.seq its.toArray n}) (hf:f {cls:=.type "list",data:=.seq its.toArray n}={cls:=.type "list",data:=.seq its'.toArray n'}) (r:Vals ys its') (hz:ys.length≤sizeLine) (t:Nat):
  Inv X pins σ (upd H p (.lst ys)) {s with heap:=s.heap.update p f,toks:=t}:=by
 have e:(s.heap.update p f).get? p=some {cls:=.type "list",data:=.seq its'.toArray n'}:=by
  rw[Heap.get?_update_self f ho (by rw[hf]<;>rfl),hf]
 refine I.write (x:=p) (e:=p) (by rw[h];trivial) (.inl rfl) (λb u hb q=>(Heap.get?_update_other _ _ (Ne.symm hb)).trans q) ⟨_,e⟩ ?_
 exact⟨hz,its',n',r,e⟩
def ag1:V->V->V->Hp->(Hp->Prop)->Prop:=λo i v H Q=>∃p xs k j,o= .ref p/\i= .int k/\H p=some (.lst xs)/\Yp xs.length k=some j/\Q (upd H p (.lst (xs.set j v)))
theorem set_list:agF X ag1:=by
 intro pins s σ H o i v ov iv u Q I ro ri rv h
 obtain⟨p,xs,k,j,rfl,rfl,hp,hj,q⟩:=h
 cases ro
 obtain⟨t,rfl⟩:=ri
 obtain⟨its,n,r,ho,hz⟩:=I.lst hp
 obtain⟨h1,h2,h3,h4⟩:=MF hj
 have hl:=r.length
 have hn:=rG
 have I':Inv X pins σ (upd H p (.lst (xs.set j v))) {s with heap:=s.heap.update p (Obj.mapSeq (·.setIfInBounds j u))}:=
  I.lstUpd hp ho (J7 its n j u) (r.set rv j) (by rw[List.length_set];exact hz) s.toks
 by_cases h0:0≤k
 .have hk:k.toNat=j:=by
   rw[seqIndex_of h0 h4]at h1
   exact Option.some.inj h1
  exact W.ki_setAt ho h0 (by omega) (by rw[List.size_toArray, <-hl];exact h4) (by rw[hk];exact⟨_,I',q⟩)
 .have hk:(k+(its.toArray.size:Int)).toNat=j:=by
   rw[seqIndex_neg (by omega) h3]at h1
   rw[List.size_toArray, <-hl]
   exact Option.some.inj h1
  exact W.ki_setBack ho (by omega) (by rw[List.size_toArray, <-hl];exact h3) (by omega) (by rw[hk];exact⟨_,I',q⟩)
theorem Fp(lo hi:Option Int)(n:Nat):(sliceBounds lo hi none n).1=((HT.dI n 0 lo:Nat):Int)/\(sliceBounds lo hi none n).2.1=((HT.dI n n hi:Nat):Int)/\(sliceBounds lo hi none n).2.2=1:=by
 refine⟨?_,?_,rfl⟩
 .cases lo with
  |none=>simp[sliceBounds,HT.dI]
  |some i=>
   simp only[sliceBounds,HT.dI,Option.getD_none,show(1:Int)>0 by decide,if_true]
   by_cases h:i<0
   .simp only[h,if_true]<;>omega
   .simp only[h,if_false]<;>omega
 .cases hi with
  |none=>simp[sliceBounds,HT.dI]
  |some i=>
   simp only[sliceBounds,HT.dI,Option.getD_none,show(1:Int)>0 by decide,if_true]
   by_cases h:i<0
   .simp only[h,if_true]<;>omega
   .simp only[h,if_false]<;>omega
theorem Aw(its:List Value)(lo hi:Option Int):slicePick its.toArray lo hi none=((its.drop (HT.dI its.length 0 lo)).take (HT.dI its.length its.length hi-HT.dI its.length 0 lo)).toArray:=by
 obtain⟨h1,h2,h3⟩:=Fp lo hi its.toArray.size
 unfold slicePick
 rw[h1,h2,h3]
 simp only[sliceRange_one,pick_run,List.size_toArray]<;>rfl
def alc(K:W.Frag):V->Option Int->Option Int->Hp->VK->Prop:=λx lo hi H Q=>∃a xs,x= .ref a/\bc K H a xs/\∀p,H p=none->Q (.ref p) (upd H p (.lst (uW xs lo hi)))
theorem WN:SlR X (alc X.K):=by
 intro pins s σ H x v vl vu lo hi sl Q I rx hs pl pu h
 obtain⟨a,xs,rfl,hx,q⟩:=h
 cases rx
 obtain⟨its,r,ht,hz⟩:=I.list hx
 have hlen:=r.length
 refine⟨"list",_,slot_list_getitem.lookup,ht.isList.typeIs,?_⟩
 refine wpAny_getItem_list_slice ht.isList hs pl pu .none (by simp) ?_ (by rw[List.size_toArray]<;>omega)
 rw[Aw, <-hlen]
 refine⟨.ref s.heap.objs.size,_,I.laid (t':=s.toks) (o:=.lst (uW xs lo hi)) (λb ob q=>Heap.get?_push_of_some _ q) (Nat.le_refl _) ?_,rfl,q _ (I.hok.fresh (Nat.le_refl _))⟩
 exact⟨Nat.le_trans (wC xs lo hi) hz,_,0,(r.drop (HT.dI xs.length 0 lo)).take (HT.dI xs.length xs.length hi-HT.dI xs.length 0 lo),Heap.get?_push_size _ rfl⟩
def jY:V->Bool
 | .non=>true
 | .bl _=>true
 | .int _=>true
 | .str _=>true
 |_=>false
def Ph:V->V->Bool
 | .non,.non=>true
 | .bl a,.bl b=>a==b
 | .bl a,.int b=>(if a then 1 else 0)==b
 | .int a,.bl b=>a==(if b then 1 else 0)
 | .int a,.int b=>a==b
 | .str a,.str b=>a==b
 |_,_=>false
theorem aar{A:Around}{s:Shared}{y x:V}{u v:Value}(ry:RelV y u)(rx:RelV x v)(fy:jY y=true)(fx:jY x=true):SeqAt.EqAt A s u v (Ph y x):=by
 cases y with
 |non=>
  cases ry
  cases x with
  |non=>cases rx;exact SeqAt.EqAt.same _
  |bl b=>cases rx;exact SeqAt.EqAt.none_bool b
  |int b=>obtain⟨t,rfl⟩:=rx;exact SeqAt.EqAt.none_int b t
  |str b=>obtain⟨t,rfl⟩:=rx;exact SeqAt.EqAt.none_str b t
  |_=>exact absurd (show false=true from fx) Bool.false_ne_true
 |bl a=>
  cases ry
  cases x with
  |non=>cases rx;exact SeqAt.EqAt.bool_none a
  |bl b=>cases rx;exact SeqAt.EqAt.bool_bool a b
  |int b=>obtain⟨t,rfl⟩:=rx;exact SeqAt.EqAt.bool_int a b t
  |str b=>obtain⟨t,rfl⟩:=rx;exact SeqAt.EqAt.bool_str a b t
  |_=>exact absurd (show false=true from fx) Bool.false_ne_true
 |int a=>
  obtain⟨t',rfl⟩:=ry
  cases x with
  |non=>cases rx;exact SeqAt.EqAt.int_none a t'
  |bl b=>cases rx;exact SeqAt.EqAt.int_bool a t' b
  |int b=>obtain⟨t,rfl⟩:=rx;exact SeqAt.EqAt.int_int a t' b t
  |str b=>obtain⟨t,rfl⟩:=rx;exact SeqAt.EqAt.int_str a t' b t
  |_=>exact absurd (show false=true from fx) Bool.false_ne_true
 |str a=>
  obtain⟨t',rfl⟩:=ry
  cases x with
  |non=>cases rx;exact SeqAt.EqAt.str_none a t'
  |bl b=>cases rx;exact SeqAt.EqAt.str_bool a t' b
  |int b=>obtain⟨t,rfl⟩:=rx;exact SeqAt.EqAt.str_int a t' b t
  |str b=>obtain⟨t,rfl⟩:=rx;exact SeqAt.EqAt.str_str a t' b t
  |_=>exact absurd (show false=true from fx) Bool.false_ne_true
 |_=>exact absurd (show false=true from fy) Bool.false_ne_true
def Kv(x:V)(u:Value):Bool:=match u with
 | .none=>Ph .non x
 | .bool b=>Ph (.bl b) x
 | .int i _=>Ph (.int i) x
 | .str z _=>Ph (.str z) x
 |_=>false
theorem RP{x y:V}{u:Value}(r:RelV y u)(f:jY y=true):Kv x u=Ph y x:=by
 cases y with
 |non=>cases r;rfl
 |bl b=>cases r;rfl
 |int i=>obtain⟨t,rfl⟩:=r;rfl
 |str z=>obtain⟨t,rfl⟩:=r;rfl
 |_=>exact absurd (show false=true from f) Bool.false_ne_true
theorem ud{x:V}:∀{xs:List V} {us:List Value},Vals xs us->xs.all jY=true->us.any (Kv x)=xs.any λy=>Ph y x
 |_,_,.nil,_=>rfl
 |y::xs,u::us,.cons r t,f=>by
  rw[List.all_cons,Bool.and_eq_true]at f
  rw[List.any_cons,List.any_cons,RP r f.1,ud t f.2]
theorem oH{A:Around}{s:Shared}{x:V}{v:Value}(rx:RelV x v)(fx:jY x=true):∀{xs:List V} {us:List Value},Vals xs us->xs.all jY=true->∀u∈us,SeqAt.EqAt A s u v (Kv x u)
 |_,_,.nil,_=>λu hu=>by cases hu
 |y::xs,u::us,.cons r t,f=>λu' hu=>by
  rw[List.all_cons,Bool.and_eq_true]at f
  rcases List.mem_cons.mp hu with rfl |hu
  .rw[RP r f.1];exact aar r rx f.1 fx
  .exact oH rx fx t f.2 u' hu
def PX(x:V)(xs:List V):Bool:=xs.any λy=>Ph y x
def rIn(K:W.Frag)(neg:Bool):R2:=λx y H Q=>∃p xs,y= .ref p/\(bc K H p xs\/cA K H p xs)/\jY x=true/\xs.all jY=true/\Q (.bl (if neg then !PX x xs else PX x xs)) H
theorem Oh:sY X (compareOp .In) (rIn X.K false):=by
 intro pins s σ H x y v u Q I rx ry h
 obtain⟨p,xs,rfl,hq,fx,fs,q⟩:=h
 cases ry
 rcases hq with hq |hq
 .obtain⟨its,r,pl,hz⟩:=I.list hq
  refine SeqAt.in_listAt (Kv x) pl.isList (λw hw=>oH rx fx r fs w (by simpa using hw)) ⟨.bl _,H,I,rfl,?_⟩
  rw[show its.toArray.any (Kv x)=its.any (Kv x)by simp,ud r fs]
  exact q
 .obtain⟨its,r,pl,hz⟩:=I.tuple hq
  refine SeqAt.in_tupleAt (Kv x) pl (λw hw=>oH rx fx r fs w (by simpa using hw)) ⟨.bl _,H,I,rfl,?_⟩
  rw[show its.toArray.any (Kv x)=its.any (Kv x)by simp,ud r fs]
  exact q
theorem uC:sY X (compareOp .NotIn) (rIn X.K true):=by
 intro pins s σ H x y v u Q I rx ry h
 obtain⟨p,xs,rfl,hq,fx,fs,q⟩:=h
 cases ry
 rcases hq with hq |hq
 .obtain⟨its,r,pl,hz⟩:=I.list hq
  refine SeqAt.notIn_listAt (Kv x) pl.isList (λw hw=>oH rx fx r fs w (by simpa using hw)) ⟨.bl _,H,I,rfl,?_⟩
  rw[show its.toArray.any (Kv x)=its.any (Kv x)by simp,ud r fs]
  exact q
 .obtain⟨its,r,pl,hz⟩:=I.tuple hq
  refine SeqAt.notIn_tupleAt (Kv x) pl (λw hw=>oH rx fx r fs w (by simpa using hw)) ⟨.bl _,H,I,rfl,?_⟩
  rw[show its.toArray.any (Kv x)=its.any (Kv x)by simp,ud r fs]
  exact q
theorem Dg:pB X (.builtin "len") (λxs H Q=>∃p ys,xs=[.ref p]/\(bc X.K H p ys\/cA X.K H p ys)/\Q (.int ys.length) H):=by
 intro pins s σ H xs us Q I r h
 obtain⟨p,ys,rfl,hq,q⟩:=h
 obtain⟨u,rfl,rx⟩:=vals1 r
 cases rx
 have hn:=rG
 rcases hq with hq |hq
 .obtain⟨its,r',pl,hz⟩:=I.list hq
  have hlen:=r'.length
  exact Calls.call_len_list pl.isList (by simp only[List.size_toArray]<;>omega) ⟨.int ys.length,H,I.tok _,⟨s.toks+1,by rw[List.size_toArray,hlen]⟩,q⟩
 .obtain⟨its,r',pl,hz⟩:=I.tuple hq
  have hlen:=r'.length
  exact len_tuple pl (by simp only[List.size_toArray]<;>omega) ⟨.int ys.length,H,I.tok _,⟨s.toks+1,by rw[List.size_toArray,hlen]⟩,q⟩
theorem Fv:pB X (.builtin "len") (λxs H Q=>∃z,xs=[.str z]/\z.length≤sizeLine/\Q (.int z.length) H):=by
 intro pins s σ H xs us Q I r h
 obtain⟨z,rfl,hz,q⟩:=h
 obtain⟨u,rfl,t,rfl⟩:=vals1 r
 have hn:=rG
 exact len_str (by omega) ⟨.int z.length,H,I.tok _,⟨_,rfl⟩,q⟩
theorem Eg:pB X (.type "list") (λxs H Q=>∃p ys,xs=[.ref p]/\(bc X.K H p ys\/cA X.K H p ys)/\∀l,H l=none->Q (.ref l) (upd H l (.lst ys))):=by
 intro pins s σ H xs us Q I r h
 obtain⟨p,ys,rfl,hq,q⟩:=h
 obtain⟨u,rfl,rx⟩:=vals1 r
 cases rx
 have fin:∀(its:List Value),Vals ys its->ys.length≤sizeLine->∀(h':Heap) (c':Nat),(∀b o',s.heap.get? b=some o'->h'.get? b=some o')->
   h'.get? s.heap.objs.size=some {cls:=.type "list",dict:=none,data:=.seq its.toArray c',slots:= #[]}->EP X pins σ Q (.ref s.heap.objs.size) {s with heap:=h'}:=λits r' hz h' c' kp e=>
  ⟨.ref s.heap.objs.size,_,I.laid (t':=s.toks) kp (Nat.le_refl _) (show fO X.prog X.w _ h' _ (.lst ys)from⟨hz,its,c',r',e⟩),rfl,q _ (I.hok.fresh (Nat.le_refl _))⟩
 rcases hq with hq |hq
 .obtain⟨its,r',pl,hz⟩:=I.list hq
  have hlen:=r'.length
  obtain⟨o,ho,hc,n,hd⟩:=pl.isList
  exact call_list_seq p (.inl rfl) ho hc hd (λh' c' kp e=>fin its r' hz h' c' kp e) (by simp only[List.size_toArray]<;>omega)
 .obtain⟨its,r',pl,hz⟩:=I.tuple hq
  have hlen:=r'.length
  obtain⟨o,ho,hc,n,hd⟩:=pl
  exact call_list_seq p (.inr rfl) ho hc hd (λh' c' kp e=>fin its r' hz h' c' kp e) (by simp only[List.size_toArray]<;>omega)
def tyV(K:W.Frag)(T:String)(x:V)(H:Hp):Prop:=match x with
 | .str _=>T="str"
 | .int _=>T="int"
 | .ref p=>(T="list"/\∃xs,bc K H p xs)\/(T="tuple"/\∃o,K.lookup p=some o/\o.cls= .type "tuple"/\o.dict=none)\/
   (T="dict"/\((∃kvs,H p=some (.dK kvs))\/∃kvs,H p=some (.dT kvs)))\/(T="set"/\∃S n,H p=some (.set S n))
 |_=>False
theorem QW{pins:List (Addr×Obj)}{σ:St}{H:Hp}{s:Shared}{T:String}{x:V}{v:Value}(I:Inv X pins σ H s)(r:RelV x v)(ty:tyV X.K T x H):
  s.TypeIs v T/\∀a,v= .ref a->∃ob,s.heap.get? a=some ob/\ob.dict=none:=by
 cases x with
 |str z=>
  obtain⟨t,rfl⟩:=r
  cases(show T="str" from ty)
  exact⟨typeIs_str s z t,λ_ e=>nomatch e⟩
 |int i=>
  obtain⟨t,rfl⟩:=r
  cases(show T="int" from ty)
  exact⟨typeIs_int s i t,λ_ e=>nomatch e⟩
 |ref p=>
  cases r
  rcases ty with⟨rfl,xs,hq⟩ |⟨rfl,o,hk,hc,hd⟩ |⟨rfl,hk⟩ |⟨rfl,S,n,hk⟩
  .obtain⟨its,_,pl,_⟩:=I.list hq
   refine⟨pl.isList.typeIs,λa e=>?_⟩
   cases e
   obtain⟨o,n,e,c,hd,_⟩:=pl
   exact⟨o,e,hd⟩
  .refine⟨⟨o,I.kIn p o hk,hc⟩,λa e=>?_⟩
   cases e
   exact⟨o,I.kIn _ o hk,hd⟩
  .have z:∃o,s.heap.get? p=some o/\o.ExactDict:=by
    rcases hk with⟨kvs,hk⟩ |⟨kvs,hk⟩
    .obtain⟨_,_,_,_,o,_,_,e,ex,_⟩:=I.hok p _ hk
     exact⟨o,e,ex⟩
    .obtain⟨_,_,_,_,o,_,_,e,ex,_⟩:=I.hok p _ hk
     exact⟨o,e,ex⟩
   obtain⟨o,e,ex⟩:=z
   refine⟨⟨o,e,ex.1⟩,λa e2=>?_⟩
   cases e2
   exact⟨o,e,ex.2.1⟩
  .obtain⟨o,_,_,_,e,ex,_⟩:=I.hok p _ hk
   refine⟨⟨o,e,ex.1⟩,λa e2=>?_⟩
   cases e2
   exact⟨o,e,ex.2.1⟩
 |_=>exact False.elim ty
def akK(K:W.Frag)(T:String)(r:V->List V->Hp->VK->Prop)(to:TE):TE:=λσ H Q=>to σ H λx H1=>tyV K T x H1/\r x [] H1 Q
def tBM(K:W.Frag)(T:String)(r:V->List V->Hp->VK->Prop)(to:TE)(t:TA):TE:=λσ H Q=>to σ H λx H1=>tyV K T x H1/\t σ H1 λxs H2=>r x xs H2 Q
variable{o e:Expr}{es:List Expr}{to:TE}{t:TA}{name:Str}{apos cpos:Pos}{T id:String}{r:V->List V->Hp->VK->Prop}
theorem aeI(pa:PlainAttrs T)(slot:Slot T name id)(hty:typeOf (.builtin id)=pure (.type "method_descriptor"))(hm:MtR X id r)(ho:PE X o to)
  (hbase:attributeBase o name X.env (eval o X.env)=eval o X.env:=by rfl) (hline:(apos.endLine==cpos.line)=true:=by rfl):PE X (.Call (.Attribute o name apos) [] [] cpos) (akK X.K T r to):=by
 intro pins s σ H Q I h
 refine wpAny_Call_method0_late hbase hline (cR (ho pins s σ H _ I h) λv s1 ⟨x,H1,I1,r1,ty,q1⟩=>?_)
 obtain⟨h1,h2⟩:=QW I1 r1 ty
 exact⟨T,id,pa,slot,hty,h1,h2,Calls.callWith_builtin rfl (PySem.evalArgs_none (hm pins s1 σ H1 x [] v [] Q I1 r1 .nil q1))⟩
theorem agQ(pa:PlainAttrs T)(slot:Slot T name id)(hty:typeOf (.builtin id)=pure (.type "method_descriptor"))(hm:MtR X id r)(ho:PE X o to)(ha:PA X (e::es) t)
  (hbase:attributeBase o name X.env (eval o X.env)=eval o X.env:=by rfl)
  (hfew:((backTo cpos (starEach (e::es) X.env)).all (λx=> !x.1)&&(backToKw cpos (keywordEach [] X.env)).all (λx=>x.1.isSome)
   &&decide ((e::es).length+([]:List Keyword).length+(if([]:List Keyword).isEmpty then 0 else 1)<30))=true:=by rfl)
  (hline:(apos.endLine==cpos.line)=true:=by rfl) (hs:starEach (e::es) X.env=(false,eval e X.env)::starEach es X.env:=by rfl) (hplain:(backTo cpos (starEach es X.env)).any (·.1)=false:=by rfl):
  PE X (.Call (.Attribute o name apos) (e::es) [] cpos) (tBM X.K T r to t):=by
 intro pins s σ H Q I h
 refine wpAny_Call_method_late hbase hfew hline rfl (cR (ho pins s σ H _ I h) λv s1 ⟨x,H1,I1,r1,ty,q1⟩=>?_)
 obtain⟨h1,h2⟩:=QW I1 r1 ty
 refine⟨T,id,pa,slot,hty,h1,h2,?_⟩
 have hA:=ha cpos pins s1 σ H1 _ I1 q1
 rw[hs]at hA⊢
 refine Calls.callWith_builtin (by show(false||(backTo cpos (starEach es X.env)).any (·.1))=false;rw[hplain]<;>rfl) (Calls.evalArgs_plain ?_)
 exact cR hA λus s2 ⟨vs,H2,I2,r2,q2⟩=>hm pins s2 σ H2 x vs v us Q I2 r1 r2 q2
end
def MtM(X:Cx)(id:String)(r:V->List V->Hp->VK->Prop):Prop:=
 ∀(pins:List (Addr×Obj)) (s:Shared) (σ:St) (H:Hp) (x:V) (xs:List V) (v:Value) (us:List Value) (Q:VK),Inv X pins σ H s->RelV x v->Vals xs us->r x xs H Q->
  wpAny (model X.prog X.w) X.A (call (.builtin id) (v::us)) (EP X pins σ Q) X.xe s
theorem Vals.one:∀{x:V} {us:List Value},Vals [x] us->∃u,us=[u]/\RelV x u
 |_,_,.cons r .nil=>⟨_,rfl,r⟩
theorem Vals.zero:∀{us:List Value},Vals [] us->us=[]
 |_,.nil=>rfl
section
variable{X:Cx}{pins:List (Addr×Obj)}{σ:St}{H:Hp}{s:Shared}{l b:Addr}{xs ys zs:List V}
theorem Inv.lset{its its':List Value}{n:Nat}{f:Array Value->Array Value}{t':Nat}(I:Inv X pins σ H s)(hH:H l=some (.lst xs))
  (e:s.heap.get? l=some {cls:=.type "list",data:=.seq its.toArray n}) (hf:f its.toArray=its'.toArray) (hv:Vals ys its') (hz:ys.length≤sizeLine):
  Inv X pins σ (upd H l (.lst ys)) {s with heap:=s.heap.update l (Obj.mapSeq f),toks:=t'}:=by
 have q:=PySem.IsL.update e f
 rw[hf]at q
 refine I.write (x:=l) (e:=l) (by rw[hH];exact trivial) (.inl rfl) (λb' u hb hu=>(Heap.get?_update_other s.heap (Obj.mapSeq f) (Ne.symm hb)).trans hu) ⟨_,q⟩ ?_
 exact⟨hz,its',_,hv,q⟩
theorem Inv.lnew{its:List Value}{t':Nat}(I:Inv X pins σ H s)(hv:Vals ys its)(hz:ys.length≤sizeLine):
  Inv X pins σ (upd H s.heap.objs.size (.lst ys)) {s with heap:=s.heap.push {cls:=.type "list",data:=.seq its.toArray},toks:=t'}:=
 I.laid (λ_ _ q=>Heap.get?_push_of_some _ q) (Nat.le_refl _) ⟨hz,its,0,hv,Heap.get?_push_size _ rfl⟩
theorem Inv.fresh(I:Inv X pins σ H s):H s.heap.objs.size=none:=I.hok.fresh (Nat.le_refl _)
theorem Inv.lstM(I:Inv X pins σ H s)(hH:H l=some (.lst xs)):xs.length≤sizeLine/\∃(its:List Value) (n:Nat),Vals xs its/\xs.length=its.length/\s.heap.get? l=some {cls:=.type "list",data:=.seq its.toArray n}:=by
 obtain⟨z,its,n,r,e⟩:=I.hok l _ hH
 exact⟨z,its,n,r,r.length,e⟩
end
section
variable{X:Cx}
def Wz:V->List V->Hp->VK->Prop:=λx vs H Q=>∃l xs y,x= .ref l/\vs=[y]/\H l=some (.lst xs)/\xs.length<sizeLine/\Q .non (upd H l (.lst (xs++[y])))
theorem gK:MtM X "list.append" Wz:=by
 intro pins s σ H x vs v us Q I rx rv h
 obtain⟨l,xs,y,rfl,rfl,hH,hz,q⟩:=h
 cases rx
 obtain⟨u,rfl,ru⟩:=rv.one
 obtain⟨z,its,n,r,hl,e⟩:=I.lstM hH
 refine call_meets F.slot_list_append ⟨_,e,rfl⟩ F.entry_list_append (F.args_list_append_2 _ _) (PySem.list_append l its.toArray n u (by rw[List.size_toArray];omega)) ⟨e,?_⟩
 refine⟨.non,_,I.lset (its':=its++[u]) hH e (by simp) (r.append (.cons ru .nil)) ?_,rfl,q⟩
 rw[List.length_append,List.length_singleton]
 omega
def akd:V->List V->Hp->VK->Prop:=λx vs H Q=>∃l b xs zs,x= .ref l/\vs=[.ref b]/\H l=some (.lst xs)/\H b=some (.lst zs)/\xs.length+zs.length≤sizeLine/\Q .non (upd H l (.lst (xs++zs)))
def ayl:V->List V->Hp->VK->Prop:=λx vs H Q=>∃l xs y,x= .ref l/\vs=[]/\H l=some (.lst xs)/\xs[xs.length-1]? =some y/\Q y (upd H l (.lst xs.dropLast))
def aoz:V->List V->Hp->VK->Prop:=λx vs H Q=>∃l xs i k y,x= .ref l/\vs=[.int i]/\H l=some (.lst xs)/\ -(2^63)≤i/\i<2^63/\seqIndex? i xs.length=some k/\xs[k]? =some y/\Q y (upd H l (.lst (xs.eraseIdx k)))
def af2:V->List V->Hp->VK->Prop:=λx vs H Q=>∃l xs,x= .ref l/\vs=[]/\H l=some (.lst xs)/\Q .non (upd H l (.lst xs.reverse))
def acb:V->List V->Hp->VK->Prop:=λx vs H Q=>∃l xs,x= .ref l/\vs=[]/\H l=some (.lst xs)/\Q .non (upd H l (.lst []))
theorem R5:MtM X "list.clear" acb:=by
 intro pins s σ H x vs v us Q I rx rv h
 obtain⟨l,xs,rfl,rfl,hH,q⟩:=h
 cases rx
 have hus:=rv.zero
 subst hus
 obtain⟨z,its,n,r,hl,e⟩:=I.lstM hH
 refine call_meets F.slot_list_clear ⟨_,e,rfl⟩ F.entry_list_clear (F.args_list_clear_1 _) (AutoSeq1.list_clear_list_0 l its.toArray n (by rw[List.size_toArray];omega)) ⟨e,?_⟩
 exact⟨.non,_,I.lset (its':=[]) (ys:=[]) hH e rfl .nil (Nat.zero_le _),rfl,q⟩
def avJ:R2:=λx y H Q=>∃l b xs zs,x= .ref l/\y= .ref b/\H l=some (.lst xs)/\H b=some (.lst zs)/\xs.length+zs.length≤sizeLine/\∀p,H p=none->Q (.ref p) (upd H p (.lst (xs++zs)))
theorem Z2:sY X (binaryOp .Add) avJ:=by
 intro pins s σ H x y v u Q I rx ry h
 obtain⟨l,b,xs,zs,rfl,rfl,hH,hB,hz,q⟩:=h
 cases rx
 cases ry
 obtain⟨z,its,n,r,hl,e⟩:=I.lstM hH
 obtain⟨z2,its2,n2,r2,hl2,e2⟩:=I.lstM hB
 refine PySem.P.add_list e e2 ?_ (by rw[List.size_toArray,List.size_toArray];omega)
 have ea:its.toArray++its2.toArray=(its++its2).toArray:=by simp
 rw[ea]
 exact⟨.ref _,_,I.lnew (t':=s.toks) (r.append r2) (by rw[List.length_append];omega),rfl,q _ I.fresh⟩
def ax5:R2:=λx y H Q=>∃l k xs,x= .ref l/\y= .int k/\H l=some (.lst xs)/\ -(2^63)≤k/\k<2^63/\xs.length*k.toNat≤sizeLine/\
 ∀p,H p=none->Q (.ref p) (upd H p (.lst (List.replicate k.toNat xs).flatten))
end
section
variable{prog:Program}{w:World}{A:Around}{E:Value->Shared->Prop}{s:Shared}
end
section
variable{X:Cx}
end
section
variable{κ:Type} [DecidableEq κ]
def Pz(kvs:List (κ×V))(k:κ):Option V:=(kvs.find? λkv=>decide (kv.1=k)).map (·.2)
def putK(kvs:List (κ×V))(k:κ)(v:V):List (κ×V):=
 if(kvs.any λkv=>decide (kv.1=k))=true then kvs.map (λkv=>if kv.1=k then(kv.1,v)else kv)else kvs++[(k,v)]
def T8(kvs:List (κ×V))(k:κ):List (κ×V):=kvs.filter λkv=>decide (kv.1≠k)
end
abbrev KT(H:Hp):List (List Key×V)->List (List Key×Addr×Value)->Prop:=Paired λp q=>p.1=q.1/\H q.2.1=some (.tup (p.1.map kV))/\RelV p.2 q.2.2
section
variable{P:Program}{w:World}{H:Hp}{h:Heap}{a:Addr}
end
def Pr(H:Hp)(a:Addr)(y:V)(r:Option V):Prop:=
 (∃kvs k,Rd H a (.dK kvs)/\y=kV k/\r=Pz kvs k)\/∃kvs k b,Rd H a (.dT kvs)/\y= .ref b/\H b=some (.tup (k.map kV))/\r=Pz kvs k
def aiT(H:Hp)(a:Addr)(y v:V)(H':Hp):Prop:=
 (∃kvs k,H a=some (.dK kvs)/\y=kV k/\kvs.length<sizeLine/\H'=upd H a (.dK (putK kvs k v)))\/
 ∃kvs k b,H a=some (.dT kvs)/\y= .ref b/\H b=some (.tup (k.map kV))/\kvs.length<sizeLine/\H'=upd H a (.dT (putK kvs k v))
section
variable{X:Cx}{pins:List (Addr×Obj)}{σ:St}{H:Hp}{s:Shared}{a:Addr}{y v:V}{u r:Value}{o:Option V}{A:Around}{E:Value->Shared->Prop}
end
section
variable{X:Cx}{pins:List (Addr×Obj)}{σ:St}{H:Hp}{s:Shared}{a:Addr}{kvs:List (Key×V)}{k:Key}{u:Value}{A:Around}{E:Value->Shared->Prop}
end
def ay8(i:Expr):Prop:=∀ov iv,subscripted i false ov iv=operate [ov,iv] (getItem ov iv)
def axu(td ty:TE):TE:=λσ H Q=>td σ H λx H1=>ty σ H1 λy H2=>∃a v,x= .ref a/\Pr H2 a y (some v)/\Q v H2
def axP(ty td:TE):TE:=λσ H Q=>ty σ H λy H1=>td σ H1 λx H2=>∃a o,x= .ref a/\Pr H2 a y o/\Q (.bl o.isSome) H2
def ajV(ty td:TE):TE:=λσ H Q=>ty σ H λy H1=>td σ H1 λx H2=>∃a o,x= .ref a/\Pr H2 a y o/\Q (.bl (!o.isSome)) H2
def axF(td ty tv:TE):TS:=λD σ H=>tv σ H λv H1=>td σ H1 λx H2=>ty σ H2 λy H3=>∃a H4,x= .ref a/\aiT H3 a y v H4/\D.nx σ H4
def awR(td ty tv:TE)(rd:V->V->Hp->VK->Prop):TS:=λD σ H=>td σ H λx H1=>ty σ H1 λy H2=>∃a v,x= .ref a/\Pr H2 a y (some v)/\
 tv σ H2 λy2 H3=>rd v y2 H3 λz H4=>∃H5,aiT H4 a y z H5/\D.nx σ H5
def axb(td ty:TE):TS:=λD σ H=>td σ H λx H1=>ty σ H1 λy H2=>∃a kvs k,x= .ref a/\H2 a=some (.dK kvs)/\y=kV k/\(Pz kvs k).isSome=true/\D.nx σ (upd H2 a (.dK (T8 kvs k)))
section
variable{X:Cx}{o i e value:Expr}{pos pos' tpos:Pos}{td ty tv:TE}
end
def ana:TE:=λ_ H Q=>∀p,H p=none->Q (.ref p) (upd H p (.dK []))
def aqr:TE:=λ_ H Q=>∀p,H p=none->Q (.ref p) (upd H p (.dT []))
section
variable{X:Cx}{pos:Pos}
end
def Iz:List (TE×TE)->St->Hp->(List (V×V)->Hp->Prop)->Prop
 |[],_,H,Q=>Q [] H
 |(tk,tv)::r,σ,H,Q=>tk σ H λx H1=>tv σ H1 λy H2=>Iz r σ H2 λps H3=>Q ((x,y)::ps) H3
abbrev VV:List (V×V)->List (Value×Value)->Prop:=Paired λp q=>RelV p.1 q.1/\RelV p.2 q.2
def PPs(X:Cx)(pos:Pos)(keys:List (Option Expr))(values:List Expr)(trs:List (TE×TE)):Prop:=
 ∀(pins:List (Addr×Obj)) (s:Shared) (σ:St) (H:Hp) (Q:List (V×V)->Hp->Prop),Inv X pins σ H s->Iz trs σ H Q->
  wpAny (model X.prog X.w) X.A (evalPairs (pairTrees keys values X.env pos)) (λvs s'=>∃ps H',Inv X pins σ H' s'/\VV ps vs/\Q ps H') X.xe s
def aa2(kvs more:List (Key×V)):List (Key×V):=more.foldl (λacc kv=>putK acc kv.1 kv.2) kvs
def awB(trs:List (TE×TE)):TE:=λσ H Q=>∀p,H p=none->Iz trs σ (upd H p (.dK [])) λps H2=>H2 p=some (.dK [])/\∃kvs:List (Key×V),ps=kvs.map (λkv=>(kV kv.1,kv.2))/\kvs.length≤15/\Q (.ref p) (upd H2 p (.dK (aa2 [] kvs)))
structure M1(X:Cx)(o:Expr)(m:Str)(apos:Pos)(e:Expr)(cpos:Pos):Prop where
 base:attributeBase o m X.env (eval o X.env)=eval o X.env
 few:((backTo cpos (starEach [e] X.env)).all (λx=> !x.1)&&(backToKw cpos (keywordEach [] X.env)).all (λx=>x.1.isSome)
  &&decide (([e]:List Expr).length+([]:List Keyword).length+(if([]:List Keyword).isEmpty then 0 else 1)<30))=true
 line:(apos.endLine==cpos.line)=true
 trees:backTo cpos (starEach [e] X.env)=[(false,eval e X.env)]
structure M2(X:Cx)(o:Expr)(m:Str)(apos:Pos)(e f:Expr)(cpos:Pos):Prop where
 base:attributeBase o m X.env (eval o X.env)=eval o X.env
 few:((backTo cpos (starEach [e,f] X.env)).all (λx=> !x.1)&&(backToKw cpos (keywordEach [] X.env)).all (λx=>x.1.isSome)
  &&decide (([e,f]:List Expr).length+([]:List Keyword).length+(if([]:List Keyword).isEmpty then 0 else 1)<30))=true
 line:(apos.endLine==cpos.line)=true
 trees:backTo cpos (starEach [e,f] X.env)=[(false,eval e X.env),(false,eval f X.env)]
def IsD(H:Hp)(a:Addr):Prop:=(∃kvs,Rd H a (.dK kvs))\/∃kvs,Rd H a (.dT kvs)
section
variable{X:Cx}{pins:List (Addr×Obj)}{σ:St}{H:Hp}{s:Shared}{a:Addr}{y d:V}{u r:Value}{o:Option V}{A:Around}{E:Value->Shared->Prop}
end
def awa(td ty:TE):TE:=λσ H Q=>td σ H λx H1=>∃a,x= .ref a/\IsD H1 a/\ty σ H1 λy H2=>∃o,Pr H2 a y o/\Q (o.getD .non) H2
def api(td ty tx:TE):TE:=λσ H Q=>td σ H λx H1=>∃a,x= .ref a/\IsD H1 a/\ty σ H1 λy H2=>tx σ H2 λz H3=>∃o,Pr H3 a y o/\Q (o.getD z) H3
def atM(td ty:TE):TE:=λσ H Q=>td σ H λx H1=>∃a,x= .ref a/\IsD H1 a/\ty σ H1 λy H2=>∃kvs k v,H2 a=some (.dK kvs)/\y=kV k/\Pz kvs k=some v/\Q v (upd H2 a (.dK (T8 kvs k)))
def aou(td ty tx:TE):TE:=λσ H Q=>td σ H λx H1=>∃a,x= .ref a/\IsD H1 a/\ty σ H1 λy H2=>tx σ H2 λz H3=>∃kvs k,H3 a=some (.dK kvs)/\y=kV k/\
 (∀v,Pz kvs k=some v->Q v (upd H3 a (.dK (T8 kvs k))))/\(Pz kvs k=none->Q z H3)
section
variable{X:Cx}{o e f:Expr}{apos cpos:Pos}{td ty tx:TE}
end
section
variable{X:Cx}{pins:List (Addr×Obj)}{σ:St}{H:Hp}{s:Shared}{a:Addr}{kvs:List (Key×V)}{A:Around}{E:Value->Shared->Prop}
end
section
variable{X:Cx}{pins:List (Addr×Obj)}{σ:St}{H:Hp}{s:Shared}{a:Addr}{y:V}{u:Value}{A:Around}{E:Value->Shared->Prop}
end
end L2
namespace Att
open PySem PySem.W PySem.Calls PyProof.Rows
theorem xK{P:Params}{h:Heap}:∀(ns:List Int) (vs:List Value),WellAll P h vs (ns.map WData.int)->IntsAre vs ns:=by
 intro ns
 induction ns with
 |nil=>
  intro vs w
  rw[List.map_nil]at w
  cases w
  exact .nil
 |cons n ns ih=>
  intro vs w
  rw[List.map_cons]at w
  cases w with
  |cons a b=>
   cases a
   exact .cons _ _ (ih _ b)
theorem NQ{l:OpenLaw}{n:Nat}(hn:l.most=some n){P:Params}{h:Heap}{args:List WData}{vals:List Value}
  (hpre:l.row.toRowW.claim.pre args=true) (hwl:WellAll P h vals args):
  ∃a vs ns,vals=[Value.ref a]/\args=[WData.list (ns.map WData.int)]/\h.get? a=some {cls:=.type "list",data:=.seq vs.toArray}/\IntsAre vs ns/\ns.length≤n:=by
 have hsh:WShape.hasAll [] args [.list .int]=true:=(pre_splitW hpre).1
 have hc:l.pre.holds [] {args:=args}=true:=(pre_splitW hpre).2
 obtain⟨d,r,rfl,h1,h2⟩:=hasAllW_cons hsh
 obtain rfl:=hasAllW_nil h2
 obtain⟨xs,rfl,h3⟩:=hasW_list h1
 obtain⟨ns,rfl⟩:=items_int h3
 have hlen:ns.length≤n:=by
  unfold OpenLaw.pre at hc
  have h4:(WTm.not (.lt (.lit (.int (n:Int))) (.len (.arg 0)))).holds [] {args:=[.list (ns.map .int)]}=true:=by
   have h4:=(holds_andW hc).1
   rw[hn]at h4
   exact h4
  have h5:=condW_of h4 (w_not (w_lt w_lit (w_len_list (w_arg rfl))))
  rw[List.length_map]at h5
  refine Nat.le_of_not_lt λq=>?_
  have q':(n:Int)<((ns.length:Nat):Int):=by omega
  first
   |(rw[decide_eq_true q']at h5;exact absurd h5 (by decide))
   |(simp at h5;omega)
 cases hwl with
 |cons w1 w2=>
  cases w2
  cases w1 with
  |list ho hall=>exact⟨_,_,ns,rfl,rfl,ho,xK ns _ hall,hlen⟩
theorem Ox(l:OpenLaw)(args:List WData):l.row.toRowW.claim.post args (.bool true) args=true:=
 postW_of (r:=l.row.toRowW) (X:=(true==true))
  (show WShape.has [] (.bool true) .bool=true by first |rfl |decide |simp[WShape.has,WShape.arms,WShape.armsAll])
  (show(WTm.eq .res (.lit (.bool true))).value [] {args:=args,res:=some (.bool true),after:=args}=some (.bool (true==true))from w_eq_bool (w_res rfl) w_lit) rfl
theorem Hs{l:OpenLaw}{n:Nat}{q:Program}{loose:List Str}{XP:(Str->Option Value)->Heap->Prop}{YP:World->Heap->Prop}{d:DefRec}
  (hn:l.most=some n) (hdf:d.params.defaults=[])
  (call:∀(w:World) (s₀ s₁:Shared) (mg mb:Str->Option Value) (fa:Addr) (o:Obj) (pm cd doc:Value) (a:Addr) (vs:List Value) (ns:List Int),
   Ground q loose [] XP w s₀ mg mb s₁.heap->YP w s₁.heap->
   s₁.heap.get? fa=some o->o.data= .func (docDef d.name d.params d.body d.scope pm cd doc)->s₁.heap.CodeRec cd d.name->mg d.name=some (.ref fa)->
   s₁.heap.get? a=some {cls:=.type "list",data:=.seq vs.toArray}->IntsAre vs ns->ns.length≤n->s₁.gens= #[]->
   codeAny (model l.prog w) callerA (.call (.ref fa) ⟨[.ref a],[]⟩) (λr s'=>r= .ok (.ret (.bool true))/\OldK s₁.heap s'.heap/\s'.os=s₁.os/\AllBare s'.gens) s₁):
  WalkO q loose XP YP l.row.toRowW d [] (λf vs=>PySem.call f vs):=by
 intro w s₀ s₁ mg mb G Y fa o pm cd doc dV kV ho hd hcd hD hmg hg args vals as hpre hlay hrd hwl hlo
 obtain rfl:dV= .none:=Dflts.none hD hdf
 obtain rfl:kV= .none:=Dflts.noKw hD
 obtain⟨a,vs,ns,rfl,rfl,hobj,hints,hlen⟩:=NQ hn hpre hwl
 refine enter_call (codeAny_mono (call w s₀ s₁ mg mb fa o pm cd doc a vs ns G Y ho (fd_plain hd) hcd hmg hobj hints hlen hg) λr s' hq=>?_)
 obtain⟨rfl,h2,h3,h4⟩:=hq
 exact⟨.inl ⟨.bool true,.bool true,[],rfl,λ_=>rfl,.bool true,Ox l _,λ_=>⟨List.Pairwise.nil,λ_ hm=>(nomatch hm)⟩⟩,h2,h3,h4⟩
section
variable{prog:Program}{w:World}{A:Around}{E:Value->Shared->Prop}{s:Shared}{K:Frag}
def anh(h:Heap):Heap:={h with objs:= #[]}
def ledger(h:Heap)(L d:Addr):List (Addr×Obj):=(List.range h.objs.size).filterMap λa=>if a=L\/a=d then none else(h.get? a).map λo=>(a,o)
end
end Att
namespace L2
open PySem PySem.Spec PyProof.Rows
theorem Cr:∀{vs:List Value} {ns:List Int},IntsAre vs ns->Vals (ns.map V.int) vs
 |_,_,.nil=>.nil
 |_,_,.cons n t h=>.cons ⟨t,rfl⟩ (Cr h)
def aes(H:Hp):Prop:=∀b,H b=none\/∃o xs,H b=some (.frz o (.lst xs))
theorem Uc{P:Program}{w:World}{K:W.Frag}{mg mb:Str->Option Value}{CX:Qc}{k:Nat}{fa a:Addr}{fd:FuncData}{x:Str}{sp:Sp}{s₁:Shared}{vs:List Value}{ns:List Int}
  (KX:K.In s₁.heap) (hns:s₁.heap.Ns mainGlobals mg) (hb:s₁.heap.Ns builtinsNs mb) (hbb:∀x:Str,x≠"__name__"->mb x=bootBuiltins x) (hlim:s₁.heap.NoLimit) (hg:s₁.gens= #[])
  (ha:s₁.heap.get? a=some {cls:=.type "list",data:=.seq vs.toArray}) (hi:IntsAre vs ns) (hl:ns.length≤sizeLine) (hr:dZ cc k callerA)
  (F:∀base:Heap,K.In base->base.Ns mainGlobals mg->wk P w K mg base CX cc k fa fd [x] sp) (hbind:∀(s:Shared) (u:Value),BindsTo s fd ⟨[u],[]⟩ [(x,u)])
  (hsp:∀H:Hp,aes H->bc K H a (ns.map V.int)->sp [.ref a] H (λv _=>v= .bl true) λ_ _ _=>False)
  (hCX:∀H e s',CX [] H s₁ (λ_ _ _=>False) e s'->False):
  codeAny (model P w) callerA (.call (.ref fa) ⟨[.ref a],[]⟩) (λr s'=>r= .ok (.ret (.bool true))/\OldK s₁.heap s'.heap/\s'.os=s₁.os/\AllBare s'.gens) s₁:=by
 have rv:=Cr hi
 have lenV:=hi.length
 have core:∀H:Hp,aes H->bc K H a (ns.map V.int)->uY P w H s₁.heap->(∀b,H b≠none->b=a)->(H a≠none->K.lookup a=none)->
   codeAny (model P w) callerA (.call (.ref fa) ⟨[.ref a],[]⟩) (λr s'=>r= .ok (.ret (.bool true))/\OldK s₁.heap s'.heap/\s'.os=s₁.os/\AllBare s'.gens) s₁:=by
  intro H hO hS hok hA hK
  have base_of:∀{b:Addr} {o:Obj},s₁.heap.get? b=some o->H b=none->(El s₁.heap H).get? b=some o:=λe n=>RX e n
  have noA:∀{b:Addr} {o:Obj} {es:Array DictEntry} {ep:Nat},s₁.heap.get? b=some o->o.data= .dict es ep->H b=none:=λ{b o es ep} e d=>by
   cases q:H b with
   |none=>rfl
   |some u=>
    have e':b=a:=hA b (by rw[q];simp)
    subst e'
    rw[ha]at e;cases e
    have d':Data.seq vs.toArray _=Data.dict es ep:=d
    cases d'
  have nsK:∀{b:Addr} {m:Str->Option Value},s₁.heap.Ns b m->(El s₁.heap H).Ns b m:=λ{b m} ⟨o,es,ep,e,d,r⟩=>⟨o,es,ep,base_of e (noA e d),d,r⟩
  have hKb:K.In (El s₁.heap H):=λb o e=>base_of (KX b o e) (by
   cases q:H b with
   |none=>rfl
   |some u=>
    have e':b=a:=hA b (by rw[q];simp)
    subst e'
    rw[hK (by rw[q];simp)]at e;cases e)
  have hM:Mod K mg (El s₁.heap H):=⟨hKb,nsK hns,⟨mb,nsK hb,hbb⟩,let⟨mc,h1,h2⟩:=hlim;⟨mc,nsK h1,h2⟩⟩
  have e0:JM P w K mg (El s₁.heap H) callerA [] s₁ H:=⟨rfl,hM,λb o e=>Vw e,Nat.le_of_eq (PB _ _),trivial,λb hb=>absurd (show b∈([]:List Addr)from hb) (by simp),hok,.of_eq hg⟩
  refine codeAny_mono ((F _ hKb (nsK hns)).run callerA [] s₁ H ⟨[.ref a],[]⟩ [.ref a] [.ref a] _ _ hr e0 (hbind s₁ (.ref a)) (.cons rfl .nil) (hsp H hO hS)) λr s' h=>?_
  cases r with
  |error e=>exact(hCX H e s' h).elim
  |ok fl=>
   cases fl with
   |next=>exact False.elim h
   |brk=>exact False.elim h
   |cont=>exact False.elim h
   |ret u=>
    obtain⟨v,H',os,bare,un,hok',r',q⟩:=h
    have q':v= .bl true:=q
    subst q'
    obtain rfl:u=Value.bool true:=r'
    refine⟨rfl,OldK.of_keep λb o e=>?_,os,bare⟩
    cases q:H b with
    |none=>exact un.keep b o e q (by intro z;exact absurd (show b∈([]:List Addr)from z) (by simp)) (by simp)
    |some u=>
     rcases hO b with z |⟨ob,xs,z⟩
     .rw[q]at z;cases z
     .have z2:=un.frzs b ob _ z
      obtain⟨e1,_⟩:=hok b _ z
      obtain⟨e2,_⟩:=hok' b _ z2
      rw[e]at e1;cases e1
      exact e2
 cases hk:K.lookup a with
 |some o=>
  have e:=KX a o hk
  rw[ha]at e
  cases e
  refine core (λ_=>none) (λ_=>.inl rfl) (.inr ⟨_,vs.toArray,_,hk,rfl,rfl,rfl,by rw[List.size_toArray,lenV];exact hl,by simpa using rv⟩) (λb u z=>by have z':(none:Option HO)=some u:=z;cases z') (λb z=>absurd rfl z) λz=>absurd rfl z
 |none=>
  refine core (λb=>if b=a then some (.frz {cls:=.type "list",data:=.seq vs.toArray} (.lst (ns.map V.int)))else none) (λb=>?_) (.inl (.inr ⟨{cls:=.type "list",data:=.seq vs.toArray},if_pos rfl⟩)) (λb u z=>?_) (λb z=>?_) λ_=>hk
  .by_cases hb:b=a
   .exact .inr ⟨_,_,if_pos hb⟩
   .exact .inl (if_neg hb)
  .by_cases hb:b=a
   .have z':=(if_pos hb).symm.trans z
    cases z'
    subst hb
    exact⟨ha,by rw[List.length_map];exact hl,vs,_,rv,ha⟩
   .have z':=(if_neg hb).symm.trans z
    cases z'
  .by_cases hb:b=a
   .exact hb
   .exact absurd (if_neg hb) z
abbrev KOf{K:W.Frag}{h:Heap}(_:K.In h):W.Frag:=K
theorem Wx{l:W.OpenLaw}{n k:Nat}{q:Program}{loose:List Str}{XP:(Str->Option Value)->Heap->Prop}{YP:World->Heap->Prop}{d:DefRec}{K:Params->W.Frag}{CX:World->Qc}{sp:World->Sp}{x:Str}
  (hn:l.most=some n) (hn2:n≤sizeLine) (hdf:d.params.defaults=[]) (hr:dZ cc k callerA)
  (hY:∀(w:World) (h:Heap),YP w h->(K w.params).In h)
  (F:∀(w:World) (mg:Str->Option Value) (fa:Addr) (h:Heap),(K w.params).In h->h.Ns mainGlobals mg->mg d.name=some (.ref fa)->
   ∃fd:FuncData,(∀(s:Shared) (u:Value),BindsTo s fd ⟨[u],[]⟩ [(x,u)])/\
    ∀base:Heap,(K w.params).In base->base.Ns mainGlobals mg->wk l.prog w (K w.params) mg base (CX w) cc k fa fd [x] (sp w))
  (hsp:∀(w:World) (H:Hp) (a:Addr) (ns:List Int),ns.length≤n->aes H->bc (K w.params) H a (ns.map V.int)->sp w [.ref a] H (λv _=>v= .bl true) λ_ _ _=>False)
  (hCX:∀(w:World) (H:Hp) (s:Shared) (e:Value) (s':Shared),CX w [] H s (λ_ _ _=>False) e s'->False):
  W.WalkO q loose XP YP l.row.toRowW d [] (λf vs=>PySem.call f vs):=by
 refine Att.Hs hn hdf λw s₀ s₁ mg mb fa o pm cd doc a vs ns G Y ho hd hcd hmg hobj hints hlen hg=>?_
 have KX:=hY w _ Y
 obtain⟨fd,hb,hF⟩:=F w mg fa _ KX G.T.g hmg
 exact Uc KX G.T.g G.T.b G.T.builtins G.T.nolimit hg hobj hints (Nat.le_trans hlen hn2) hr hF hb (λH hO hS=>hsp w H a ns hlen hO hS) λH e s'=>hCX w H s₁ e s'
def inClass(s:Stmt)(j:Nat):Stmt:=match s with
 | .ClassDef _ _ _ body _ _ _ _ _ _ _=>body.getD j (.Pass ⟨0,0,0,0⟩)
 |_=>.Pass ⟨0,0,0,0⟩
def aB(s:Stmt):Arguments:=match s with
 | .FunctionDef _ a _ _ _ _ _ _ _ _=>a
 |_=>{posonlyargs:=[],args:=[],vararg:=none,kwonlyargs:=[],kw_defaults:=[],kwarg:=none,defaults:=[]}
def aq(s:Stmt):List Stmt:=match s with
 | .FunctionDef _ _ b _ _ _ _ _ _ _=>b
 |_=>[]
def aa(s:Stmt):Scope:=match s with
 | .FunctionDef _ _ _ _ _ _ sc _ _ _=>sc
 |_=>{kind:=.function,names:=[],isGenerator:=false,isCoroutine:=false}
abbrev CX0:Qc:=λ_ _ _ _ _ _=>False
abbrev E0:XK:=λ_ _ _=>False
structure gj(K:W.Frag)(x qual:Str)(st:Stmt)(f:Addr)(fd:FuncData):Prop where
 ex:∃(oc:Value) (od:Option Addr) (kV doc pm:Value) (an:Option Addr) (cdv ct:Value) (osl:Array (Option Value)),
  fd=W.fnOf x qual (aB st) (aq st) (aa st) .none kV doc pm an cdv ct/\K.lookup f=some ⟨oc,od,.func fd,osl⟩/\W.codeIn K cdv qual=true
 kp:W.keepIn K (.ref f)=true
section
variable{P:Program}{w:World}{K:W.Frag}{mg:Str->Option Value}{base:Heap}
theorem gj.binds{x qual:Str}{st:Stmt}{f:Addr}{fd:FuncData}{ps:List Str}(F:gj K x qual st f fd)
  (h:∀(kV doc pm:Value) (an:Option Addr) (cdv ct:Value) (us:List Value),us.length=ps.length->bindArgs (W.fnOf x qual (aB st) (aq st) (aa st) .none kV doc pm an cdv ct) ⟨us,[]⟩=pure (ps.zip us)):Binds K fd ps []:=by
 obtain⟨oc,od,kV,doc,pm,an,cdv,ct,osl,rfl,lk,hcd⟩:=F.ex
 exact .all (h kV doc pm an cdv ct)
theorem aF{x qual:Str}{st:Stmt}{f:Addr}{oc:Value}{od an:Option Addr}{osl:Array (Option Value)}{kV doc pm cdv ct:Value}(l:K.lookup f=some ⟨oc,od,.func (W.fnOf x qual (aB st) (aq st) (aa st) .none kV doc pm an cdv ct),osl⟩)
  (c:W.codeIn K cdv qual=true) (k:W.keepIn K (.ref f)=true):gj K x qual st f (W.fnOf x qual (aB st) (aq st) (aa st) .none kV doc pm an cdv ct):=⟨⟨oc,od,kV,doc,pm,an,cdv,ct,osl,rfl,l,c⟩,k⟩
end
section
variable{X:Cx}
end
theorem am4{A B:Prop}(h:B):if false=true then A else B:=by
 rw[if_neg Bool.false_ne_true]
 exact h
theorem avO{A B:Prop}(h:A):if true=true then A else B:=by
 rw[if_pos rfl]
 exact h
def ao(H H':Hp):Prop:=∀b o,H b=some o->H' b=some o
theorem ao.refl(H:Hp):ao H H:=λ_ _ h=>h
theorem ao.trans{H H1 H2:Hp}(a:ao H H1)(b:ao H1 H2):ao H H2:=λc o h=>b c o (a c o h)
theorem ao.free{H H':Hp}(e:ao H H'){l:Addr}(h:H' l=Option.none):H l=Option.none:=by
 cases q:H l with
 |none=>rfl
 |some o=>
  rw[e l o q]at h
  cases h
theorem ao.seq{K:W.Frag}{H H':Hp}{a:Addr}{xs:List V}(e:ao H H')(h:bc K H a xs):bc K H' a xs:=by
 rcases h with(h |⟨o,h⟩) |h
 .exact .inl (.inl (e _ _ h))
 .exact .inl (.inr ⟨o,e _ _ h⟩)
 .exact .inr h
section
variable{X:Cx}
end
section
variable{κ:Type} [DecidableEq κ]
end
def u6(h:Heap):Option Value->List Addr->Prop
 |c,[]=>c=some .none
 |c,a::r=>c=some (.ref a)/\∃o vs,h.get? a=some o/\o.data= .fields vs/\u6 h vs[2]? r
theorem u6.stay{h h':Heap}{e:Addr}(k:∀v o ws,v≠e->h.get? v=some o->o.data= .fields ws->∃o' ws',h'.get? v=some o'/\o'.data= .fields ws'/\ws'[2]? =ws[2]?):∀{l:List Addr} {c:Option Value},u6 h c l->e∉l->u6 h' c l
 |[],_,q,_=>q
 |a::r,c,⟨q1,o,vs,q2,q3,q4⟩,n=>by
  obtain⟨o',ws',k1,k2,k3⟩:=k a o vs (λz=>n (by simp[z])) q2 q3
  refine⟨q1,o',ws',k1,k2,?_⟩
  rw[k3]
  exact u6.stay k q4 λz=>n (by simp[z])
def Ctx(h:Heap)(e:Addr)(b:Bool)(c:Option Value):Prop:=(b=true->c=some .none)/\∃l,u6 h c l/\e∉l/\l.Nodup
theorem Ctx.yes{h:Heap}{e:Addr}{c:Option Value}(q:c=some .none):Ctx h e true c:=⟨λ_=>q,[],q,by simp,.nil⟩
theorem Ctx.stay{h h':Heap}{e:Addr}{b:Bool}{c:Option Value}(q:Ctx h e b c)(k:∀v o ws,v≠e->h.get? v=some o->o.data= .fields ws->∃o' ws',h'.get? v=some o'/\o'.data= .fields ws'/\ws'[2]? =ws[2]?):Ctx h' e b c:=by
 obtain⟨q1,l,q2,q3,q4⟩:=q
 exact⟨q1,l,q2.stay k q3,q3,q4⟩
def gW(h:Heap)(e:Addr)(cls:Value)(d:Option Addr×Bool)(tb:Option Addr)(fl:Value):Prop:=
 ∃oe vs,h.get? e=some oe/\oe.cls=cls/\oe.dict=d.1/\oe.data= .fields vs/\vs[1]? =some (tb.elim Value.none Value.ref)/\2<vs.size/\Ctx h e d.2 vs[2]? /\
  ∀T,tb=some T->T≠e/\∃oT ws,h.get? T=some oT/\oT.data= .fields ws/\ws[3]? =some fl
theorem fO.there{P:Program}{w:World}{H:Hp}{h:Heap}{a:Addr}{o:HO}(x:fO P w H h a o):∃ob,h.get? a=some ob:=by
 cases o with
 |lst xs=>obtain⟨_,_,_,_,e⟩:=x;exact⟨_,e⟩
 |tup xs=>obtain⟨_,_,_,ob,e,_⟩:=x;exact⟨_,e⟩
 |dK kvs=>obtain⟨_,_,_,_,o,_,_,e,_⟩:=x;exact⟨_,e⟩
 |dT kvs=>obtain⟨_,_,_,_,o,_,_,e,_⟩:=x;exact⟨_,e⟩
 |set S n=>obtain⟨o,_,_,_,e,_⟩:=x;exact⟨_,e⟩
 |ins C dx fs=>obtain⟨_,_,_,e,_⟩:=x;exact⟨_,e⟩
 |own y=>obtain⟨_,e⟩:=x;exact⟨_,e⟩
 |xd fs=>obtain⟨_,⟨_,_,_,e,_⟩,_⟩:=x;exact⟨_,e⟩
 |rng lo hi=>obtain⟨_,_,_,e⟩:=x;exact⟨_,e⟩
 |frz ob u=>obtain⟨e,_⟩:=x;exact⟨_,e⟩
 |tbl ps=>exact⟨_,(show h.get? a=some _ from x)⟩
 |met f y=>exact⟨_,(show h.get? a=some _ from x)⟩
 |ext φ=>obtain⟨_,⟨_,e⟩,_⟩:=x;exact⟨_,e⟩
theorem uY.free{P:Program}{w:World}{H:Hp}{h:Heap}{a:Addr}(x:uY P w H h)(e:h.get? a=none):H a=none:=by
 cases q:H a with
 |none=>rfl
 |some u=>
  obtain⟨ob,z⟩:=(x a u q).there
  rw[e]at z;cases z
def Dd(P:Program)(w:World):Qc:=λouter H s E x s'=>∃e tb cls d H',x= .ref e/\s'.os=s.os/\AllBare s'.gens/\Un (Gs outer) [] H H' s.heap s'.heap/\uY P w H' s'.heap/\gW s'.heap e cls d tb .none/\
 (∀b∈e::tb.toList,H' b=none/\s.heap.get? b=none)/\E cls d H'
theorem Dd.never{P:Program}{w:World}{outer:List Env}{H:Hp}{s s':Shared}{e:Value}(h:Dd P w outer H s (λ_ _ _=>False) e s'):False:=by
 obtain⟨_,_,_,_,_,_,_,_,_,_,_,_,z⟩:=h
 exact z
section
variable{M:Model}{A:Around}{E:Value->Shared->Prop}{s:Shared}
theorem Bw{base:Heap}{env:Env}{outer:List Env}{L e:Addr}{oe:Obj}{vs:Array Value}{head:Value}{hadNext:Bool}{Q:Unit->Shared->Prop}
  (hfr:A.frames=some (env::outer)) (hl:s.heap.FunFrames base (env::outer)) (hf:env.frame=some L) (he:s.heap.get? e=some oe) (hd:oe.data= .fields vs) (hsz:1<vs.size)
  (k:∀(h':Heap) (T:Addr) (oT:Obj) (ws:Array Value),s.heap.objs.size≤h'.objs.size->(∀b o,s.heap.get? b=some o->b≠e->b∉Gs (env::outer)->h'.get? b=some o)->
   (∀b o,s.heap.get? b=some o->b≠e->∃sl,h'.get? b=some {o with slots:=sl})->s.heap.objs.size≤T->h'.get? e=some (oe.mapFields (·.setIfInBounds 1 (.ref T)))->
   h'.get? T=some oT->oT.data= .fields ws->ws[3]? =some (rawInt L)->Q () {s with heap:=h'}):
  wpAny M A (do
   let a<-frameOf env
   let pl<-entryPlaceOf L hadNext
   let b<-EntryCells.newEntry head a .none (rawInt L) .none pl
   setField (.ref e) 1 b) Q E s:=by
 have hne:e∉(env::outer).filterMap (·.frame):=λm=>by
  obtain⟨_,o,ho,nf⟩:=hl.mem m
  rw[he]at ho
  cases ho
  exact nf vs hd
 refine wpAny_bind (wpAny_frameOf_fun hfr hl hf λh1 so=>wpAny_bind (wpAny_entryPlaceOf λpl hp=>?_))
 unfold EntryCells.newEntry newFields
 refine wpAny_bind (wpAny_newObj_type ?_ (hp.sizeOk5 _ _ _ _ _))
 have e1:h1.get? e=some oe:=(so.2.1 e hne).trans he
 have hTe:e≠h1.objs.size:=Nat.ne_of_lt (Heap.lt_size e1)
 refine wpAny_setField (Heap.get?_push_of_some _ e1) hd hsz (k _ h1.objs.size {cls:=.type "traceback",dict:=none,data:=.fields (([head,.ref L,.none,rawInt L,.none]:List Value)++(if pl.isEmpty then List.replicate 6 Value.none else pl)).toArray} (([head,.ref L,.none,rawInt L,.none]:List Value)++(if pl.isEmpty then List.replicate 6 Value.none else pl)).toArray ?_ (λb o hb hbe hbf=>?_) (λb o hb hbe=>?_) (Nat.le_of_eq so.1.symm) ?_ ?_ ?_ ?_)
 .rw[Heap.size_after_update,Heap.size_push,so.1]
  exact Nat.le_succ _
 .rw[Heap.get?_update_other _ _ (Ne.symm hbe)]
  exact Heap.get?_push_of_some _ ((so.2.1 b hbf).trans hb)
 .obtain⟨sl,q⟩:=so.2.2 b o hb
  exact⟨sl,by rw[Heap.get?_update_other _ _ (Ne.symm hbe)];exact Heap.get?_push_of_some _ q⟩
 .exact Heap.get?_update_self _ (Heap.get?_push_of_some _ e1) (Obj.isFreed_of_fields (Obj.data_mapFields hd _))
 .rw[Heap.get?_update_other _ _ hTe]
  exact Heap.get?_push_size h1 rfl
 .exact rfl
 .first
   |(simp;done)
   |(rcases hp with rfl |⟨_,_,_,_,_,_,_,rfl⟩<;>simp)
structure GJ(h h':Heap)(ch fs:List Addr):Prop where
 keep:∀b o,h.get? b=some o->b∉fs->b∉ch->h'.get? b=some o
 slot:∀b o,h.get? b=some o->b∉ch->∃sl,h'.get? b=some {o with slots:=sl}
 there:∀b o,h.get? b=some o->∃o',h'.get? b=some o'
theorem HW{base:Heap}{env:Env}{outer:List Env}{L e:Addr}{cls:Value}{d:Option Addr×Bool}{tb:Option Addr}{fl:Value}{Q:Unit->Shared->Prop}
  (hfr:A.frames=some (env::outer)) (hl:s.heap.FunFrames base (env::outer)) (hf:env.frame=some L) (F:gW s.heap e cls d tb fl) (hfl:(fl==rawInt L)=false)
  (k:∀(h':Heap) (T:Addr),GJ s.heap h' (e::tb.toList) (Gs (env::outer))->s.heap.objs.size≤T->gW h' e cls d (some T) (rawInt L)->Q () {s with heap:=h'}):
  wpAny M A (noteFrame (.ref e) env) Q E s:=by
 obtain⟨oe,vs,he,hc,hdx,hd,h1,hz,h2,ht⟩:=F
 have fin:∀{hp:Heap} {h':Heap} {T:Addr} {oT:Obj} {ws:Array Value},(∀v o ws,v≠e->s.heap.get? v=some o->o.data= .fields ws->∃o' ws',h'.get? v=some o'/\o'.data= .fields ws'/\ws'[2]? =ws[2]?)->hp.get? e=some oe->hp.objs.size≤T->h'.get? e=some (oe.mapFields (·.setIfInBounds 1 (.ref T)))->h'.get? T=some oT->oT.data= .fields ws->
   ws[3]? =some (rawInt L)->gW h' e cls d (some T) (rawInt L):=λ{hp h' T oT ws} kk e0 hT q1 q2 q3 q4=>by
  have hd':=Obj.data_mapFields hd (·.setIfInBounds 1 (Value.ref T))
  refine⟨_,_,q1,(Obj.cls_mapFields _ _).trans hc,?_,hd',?_,by simpa using hz,?_,λT' eT=>?_⟩
  .obtain⟨c0,d0,dt,sl⟩:=oe
   cases hd
   exact hdx
  .have :1<vs.size:=by omega
   simp[this]
  .rw[Array.getElem?_setIfInBounds_ne (by decide)]
   exact h2.stay kk
  .cases eT
   exact⟨λz=>Nat.lt_irrefl _ (Nat.lt_of_lt_of_le (Heap.lt_size e0) (z▸hT)),oT,ws,q2,q3,q4⟩
 unfold noteFrame
 simp only[hf]
 cases tb with
 |none=>
  have h1':vs[1]? =some Value.none:=h1
  refine wpAny_bind (wpAny_field he hd h1' ?_)
  rw[if_neg (by decide)]
  refine Bw hfr hl hf he hd (by omega) λh' T oT ws a1 a2 a3 a4 a5 a6 a7 a8=>k h' T ⟨λb o q1 q2 q3=>a2 b o q1 (λz=>q3 (by simp[z])) q2,λb o q1 q3=>a3 b o q1 λz=>q3 (by simp[z]),λb o q1=>?_⟩ a4 (fin (λv o ws hv q1 q2=>by obtain⟨sl,q⟩:=a3 v o q1 hv;exact⟨_,ws,q,q2,rfl⟩) he a4 a5 a6 a7 a8)
  by_cases z:b=e
  .subst z;exact⟨_,a5⟩
  .obtain⟨sl,q⟩:=a3 b o q1 z
   exact⟨_,q⟩
 |some T0=>
  obtain⟨hne,oT0,ws0,t1,t2,t3⟩:=ht T0 rfl
  have h1':vs[1]? =some (Value.ref T0):=h1
  refine wpAny_bind (wpAny_field he hd h1' ?_)
  rw[if_pos (show(Value.ref T0 !=Value.none)=true from by simp)]
  refine wpAny_bind (wpAny_field t1 t2 t3 ?_)
  rw[if_neg (by rw[hfl];exact Bool.false_ne_true)]
  refine wpAny_bind (wpAny_setField t1 t2 (Array.getElem?_eq_some_iff.mp t3).1 ?_)
  have oth:∀b,b≠T0->(s.heap.update T0 (Obj.mapFields (·.setIfInBounds 3 Value.none))).get? b=s.heap.get? b:=λb hb=>Heap.get?_update_other _ _ (Ne.symm hb)
  have slf:=Heap.get?_update_self (Obj.mapFields (·.setIfInBounds 3 Value.none)) t1 (Obj.isFreed_of_fields (Obj.data_mapFields t2 _))
  have hsz:(s.heap.update T0 (Obj.mapFields (·.setIfInBounds 3 Value.none))).objs.size=s.heap.objs.size:=Heap.size_after_update ..
  have hl':(s.heap.update T0 (Obj.mapFields (·.setIfInBounds 3 Value.none))).FunFrames base (env::outer):=hl.of_keeps λb o hb nf=>⟨o,(oth b λz=>by
   subst z
   rw[t1]at hb
   cases hb
   exact nf ws0 t2).trans hb,rfl⟩
  refine Bw (s:={s with heap:=s.heap.update T0 (Obj.mapFields (·.setIfInBounds 3 Value.none))}) hfr hl' hf ((oth e (Ne.symm hne)).trans he) hd (by omega) λh' T oT ws a1 a2 a3 a4 a5 a6 a7 a8=>
   k h' T ⟨λb o q1 q2 q3=>a2 b o ((oth b λz=>q3 (by simp[z])).trans q1) (λz=>q3 (by simp[z])) q2,λb o q1 q3=>a3 b o ((oth b λz=>q3 (by simp[z])).trans q1) λz=>q3 (by simp[z]),λb o q1=>?_⟩ (hsz▸a4) (fin (λv o ws hv q1 q2=>by
     by_cases z2:v=T0
     .subst z2
      obtain⟨sl,q⟩:=a3 v _ slf hv
      rw[t1]at q1
      cases q1
      exact⟨_,_,q,Obj.data_mapFields q2 _,by rw[Array.getElem?_setIfInBounds_ne (by decide)]⟩
     .obtain⟨sl,q⟩:=a3 v o ((oth v z2).trans q1) hv
      exact⟨_,ws,q,q2,rfl⟩) ((oth e (Ne.symm hne)).trans he) a4 a5 a6 a7 a8)
  by_cases z:b=e
  .subst z;exact⟨_,a5⟩
  .by_cases z2:b=T0
   .subst z2
    obtain⟨sl,q⟩:=a3 b _ slf z
    exact⟨_,q⟩
   .obtain⟨sl,q⟩:=a3 b o ((oth b z2).trans q1) z
    exact⟨_,q⟩
theorem Q6{base:Heap}{env:Env}{outer:List Env}{L e:Addr}{cls:Value}{d:Option Addr×Bool}{tb:Option Addr}{Q:Unit->Shared->Prop}
  (hfr:A.frames=some (env::outer)) (hl:s.heap.FunFrames base (env::outer)) (hf:env.frame=some L) (F:gW s.heap e cls d tb .none)
  (k:∀(h':Heap) (T:Addr),GJ s.heap h' (e::tb.toList) (Gs (env::outer))->s.heap.objs.size≤T->gW h' e cls d (some T) (rawInt L)->Q () {s with heap:=h'}):
  wpAny M A (noteFrame (.ref e) env) Q E s:=
 HW hfr hl hf F (by simp[rawInt]) k
theorem PQ{env:Env}{L e:Addr}{cls:Value}{d:Option Addr×Bool}{tb:Option Addr}{Q:Unit->Shared->Prop}(hf:env.frame=some L)(F:gW s.heap e cls d tb (rawInt L))(ht:tb.isSome=true)(k:Q () s):
  wpAny M A (noteFrame (.ref e) env) Q E s:=by
 obtain⟨oe,vs,he,hc,hdx,hd,h1,hz,h2,hT⟩:=F
 cases tb with
 |none=>cases ht
 |some T=>
  obtain⟨_,oT,ws,t1,t2,t3⟩:=hT T rfl
  exact wpAny_noteFrame_inFlight hf he hd h1 t1 t2 t3 k
theorem JB{e T:Addr}{cls:Value}{d:Option Addr×Bool}{fl:Value}{Q:Unit->Shared->Prop}(F:gW s.heap e cls d (some T) fl)
  (k:∀h',GJ s.heap h' [T] []->gW h' e cls d (some T) .none->Q () {s with heap:=h'}):wpAny M A (setFlight (.ref e) none) Q E s:=by
 obtain⟨oe,vs,he,hc,hdx,hd,h1,hz,h2,hT⟩:=F
 obtain⟨hne,oT,ws,t1,t2,t3⟩:=hT T rfl
 have h3:3<ws.size:=(Array.getElem?_eq_some_iff.mp t3).1
 refine wpAny_setFlight_none he hd h1 t1 t2 h3 (k _ ⟨λb o q _ n=>?_,λb o q n=>⟨o.slots,?_⟩,λb o q=>?_⟩ ?_)
 .rw[Heap.get?_update_other _ _ (λz=>n (by simp[z]))];exact q
 .rw[Heap.get?_update_other _ _ (λz=>n (by simp[z]))];exact q
 .by_cases z:b=T
  .subst z;exact⟨_,Heap.get?_update_self _ t1 (Obj.isFreed_of_fields (Obj.data_mapFields t2 _))⟩
  .exact⟨o,by rw[Heap.get?_update_other _ _ (Ne.symm z)];exact q⟩
 .refine⟨oe,vs,?_,hc,hdx,hd,h1,hz,h2.stay λv o ws hv q1 q2=>?_,λT' eT=>?_⟩
  .rw[Heap.get?_update_other _ _ hne];exact he
  .by_cases z:v=T
   .subst z
    rw[t1]at q1
    cases q1
    exact⟨_,_,Heap.get?_update_self _ t1 (Obj.isFreed_of_fields (Obj.data_mapFields t2 _)),Obj.data_mapFields q2 _,by rw[Array.getElem?_setIfInBounds_ne (by decide)]⟩
   .exact⟨o,ws,by rw[Heap.get?_update_other _ _ (Ne.symm z)];exact q1,q2,rfl⟩
  .cases eT
   exact⟨hne,_,_,Heap.get?_update_self _ t1 (Obj.isFreed_of_fields (Obj.data_mapFields t2 _)),Obj.data_mapFields t2 _,by simp[h3]⟩
end
section
variable{X:Cx}{pins:List (Addr×Obj)}{σ:St}{H H':Hp}{s s':Shared}
def Ch(X:Cx)(pins:List (Addr×Obj))(b:Addr):Prop:=(b∈X.ex\/X.s₀.heap.get? b=none)/\b≠X.env.locals/\(∀x c,X.env.cells.lookup x=some c->c≠b)/\∀p∈X.pn++pins,p.1≠b
theorem Inv.ch(I:Inv X pins σ H s){b:Addr}(h:s.heap.get? b=none):Ch X pins b:=by
 refine⟨?_,λz=>?_,λx c q z=>?_,λp hp z=>?_⟩
 .by_cases hx:b∈X.ex
  .exact .inl hx
  .refine .inr ?_
   cases q:X.s₀.heap.get? b with
   |none=>rfl
   |some o=>
    obtain⟨o',q'⟩:=I.base.there b o q hx
    rw[h]at q';cases q'
 .obtain⟨_,⟨o,_,_,ho,_⟩,_⟩:=I.loc
  rw[<-z,h]at ho;cases ho
 .obtain⟨_,o,ho,_⟩:=I.cell x c q
  rw[z,h]at ho;cases ho
 .have :=(I.pin p hp).1
  rw[z,h]at this;cases this
theorem Inv.noted{ch:List Addr}{h':Heap}(I:Inv X pins σ H s)(N:GJ s.heap h' ch (Gs X.stack))(hc:∀b∈ch,H b=none/\Ch X pins b):Inv X pins σ H {s with heap:=h'}:=by
 have VL:∀b u,H b=some u->b∉Gs X.stack/\b∉ch:=λb u e=>⟨(λz=>by rw[I.stkFree b z]at e;cases e),(λz=>by rw[(hc b z).1]at e;cases e)⟩
 refine I.call (g':=s.gens) (d':=s.drawn) (t':=s.toks) (ch:=ch) (h':=h') ⟨λb o e _ hb hx=>N.keep b o e hb hx,λb o e _ _ hx=>N.slot b o e hx,λ_ _ _ n _=>n,λb o e _=>N.there b o e,λ_ _ e=>e,λ_ _ _ e=>e,λb ps e=>⟨#[],by rw[e];simp⟩⟩ ?_ I.bare λb hb=>(hc b hb).2
 intro b u e
 refine(I.hok b u e).stay (λc v hcv q=>?_) (λ_ q=>q) λ_ _ q=>q
 rcases hcv with z |z
 .subst z;exact N.keep c v q (VL c u e).1 (VL c u e).2
 .exact N.keep c v q (VL c _ z).1 (VL c _ z).2
def XAt(X:Cx)(pins:List (Addr×Obj))(σ:St)(H:Hp)(s:Shared)(e:Addr)(cls:Value)(d:Option Addr×Bool):Prop:=
 Inv X pins σ H s/\∃tb fl,gW s.heap e cls d tb fl/\(fl= .none\/(fl=rawInt X.env.locals/\tb.isSome=true))/\∀b∈e::tb.toList,H b=none/\Ch X pins b
def Et(X:Cx)(Kx:St->XK):Prop:=∀(pins:List (Addr×Obj)) (σ:St) (H:Hp) (s:Shared) (e:Addr) (cls:Value) (d:Option Addr×Bool),XAt X pins σ H s e cls d->Kx σ cls d H->X.xe (.ref e) s
theorem Inv.flown{E:XK}{x:Value}(I:Inv X pins σ H s)(c:Dd X.prog X.w X.stack H s E x s'):∃e cls d H',x= .ref e/\XAt X pins σ H' s' e cls d/\E cls d H':=by
 obtain⟨e,tb,cls,d,H',rfl,os,bare,un,hok,F,ch,q⟩:=c
 have I':Inv X pins σ H' s':=I.call' (ch:=[]) os un hok bare λb z=>absurd z (by simp)
 exact⟨e,cls,d,H',rfl,⟨I',tb,.none,F,.inl rfl,λb hb=>⟨(ch b hb).1,I.ch (ch b hb).2⟩⟩,q⟩
theorem N7(h:X.xe=λ_ _=>False):Et X (λ_ _ _ _=>False):=λ_ _ _ _ _ _ _ _ z=>z.elim
theorem XAt.note{M:Model}{E:Value->Shared->Prop}{e:Addr}{cls:Value}{d:Option Addr×Bool}{Q:Unit->Shared->Prop}(x:XAt X pins σ H s e cls d)(hst:X.stack=X.env::X.outer)(hf:X.env.frame=some X.env.locals)
  (k:∀s' T,Inv X pins σ H s'->gW s'.heap e cls d (some T) (rawInt X.env.locals)->(∀b∈[e,T],H b=none/\Ch X pins b)->Q () s'):wpAny M X.A (noteFrame (.ref e) X.env) Q E s:=by
 obtain⟨I,tb,fl,F,hfl,ch⟩:=x
 rcases hfl with z |⟨z,ht⟩
 .subst z
  have hl:=I.stack
  rw[hst]at hl
  refine Q6 (base:=X.base) (I.ok.frames.trans (by rw[hst])) hl hf F λh' T N hT F'=>k _ T (I.noted (by rw[hst];exact N) ch) F' λb hb=>?_
  rcases List.mem_cons.mp hb with z |z
  .subst z;exact ch _ List.mem_cons_self
  .have z':b=T:=by simpa using z
   subst z'
   exact⟨I.hok.fresh hT,I.ch (Heap.get?_none_of_le hT)⟩
 .subst z
  cases tb with
  |none=>cases ht
  |some T=>exact PQ hf F rfl (k s T I F ch)
theorem Inv.off{M:Model}{E:Value->Shared->Prop}{e T:Addr}{cls:Value}{d:Option Addr×Bool}{fl:Value}{Q:Unit->Shared->Prop}(I:Inv X pins σ H s)(F:gW s.heap e cls d (some T) fl)(hc:∀b∈[e,T],H b=none/\Ch X pins b)
  (k:∀s',Inv X pins σ H s'->gW s'.heap e cls d (some T) .none->Q () s') {A:Around}:wpAny M A (setFlight (.ref e) none) Q E s:=by
 refine JB F λh' N F'=>k _ (I.noted (ch:=[T]) ⟨λb o q _ n=>N.keep b o q (by simp) n,N.slot,N.there⟩ λb hb=>?_) F'
 have z:b=T:=by simpa using hb
 subst z
 exact hc b (by simp)
end
theorem cN{cc:Bool}{P:Program}{w:World}{K:W.Frag}{mg:Str->Option Value}{base:Heap}{N:List Str}{qual:Str}{scope:Scope}{f:Addr}{cd:Value}{A:Around}{outer:List Env}{s₀:Shared}{H₀:Hp}{E:XK}:
  Et (Hr cc (Dd P w) P w K mg base N qual scope f cd A outer s₀ H₀ E) (λ_=>E):=by
 intro pins σ H s e cls d x q
 show wpAny _ _ (leaving _ _) _ _ s
 unfold leaving
 refine wpAny_bind (x.note rfl rfl λs1 T I1 F1 c1=>?_)
 refine I1.off F1 c1 λs2 I2 F2=>?_
 refine⟨e,some T,cls,d,H,rfl,I2.os,I2.bare,I2.base,I2.hok,F2,λb hb=>?_,q⟩
 have z:=c1 b (by simpa using hb)
 refine⟨z.1,?_⟩
 rcases z.2.1 with y |y
 .exact absurd (show b∈([]:List Addr)from y) (by simp)
 .exact y
theorem O7{cc:Bool}{P:Program}{w:World}{K:W.Frag}{mg:Str->Option Value}{base:Heap}{N:List Str}{qual:Str}{scope:Scope}{f:Addr}{cd:Value}{A:Around}{outer:List Env}{s₀:Shared}{H₀:Hp}{E:XK}:
  PassesOwn (model P w) (A.deeper (envOfC qual scope s₀.heap.objs.size f cd)) (envOfC qual scope s₀.heap.objs.size f cd) (Hr cc (Dd P w) P w K mg base N qual scope f cd A outer s₀ H₀ E).xe:=PassesOwn.leaving
section
variable{X:Cx}{Kx:St->XK}{cc:Bool}{k k':Nat}{f C:Addr}{fd:FuncData}{ps:List Str}{sp:Sp}{x m:Str}{p pos apos:Pos}{e o:Expr}{es:List Expr}{σ:St}{H:Hp}{Q:VK}
theorem Ef{pins:List (Addr×Obj)}{s:Shared}{us:List Value}{vs:List V}(F:wk X.prog X.w X.K X.mg X.base (Dd X.prog X.w) cc k f fd ps sp)(hr:dZ cc k X.A)(hb:Binds X.K fd ps [])(hx:Et X Kx)
  (I:Inv X pins σ H s) (r:Vals vs us) (h:sp vs H Q (Kx σ)):wpAny (model X.prog X.w) X.A (call (.ref f) us) (EP X pins σ Q) X.xe s:=by
 have hl:us.length=ps.length:=by rw[<-r.length];exact F.len _ _ _ _ h
 have hb':=hb s us I.kIn (by simpa using hl)
 rw[List.append_nil]at hb'
 refine wpAny_call (codeAny_mono (F.run X.A X.stack s H ⟨us,[]⟩ us vs Q (Kx σ) hr I.env0 hb' r h) λr s' hq=>?_)
 cases r with
 |error e=>
  obtain⟨a,cls,d,H',rfl,xa,q⟩:=I.flown hq
  exact hx pins σ H' s' a cls d xa q
 |ok fl=>
  cases fl with
  |ret u=>exact I.after hq
  |next=>exact False.elim hq
  |brk=>exact False.elim hq
  |cont=>exact False.elim hq
end
def EV(X:Cx)(e:Expr)(σ:St)(H:Hp)(Q:VK):Prop:=
 ∀(pins:List (Addr×Obj)) (s:Shared),Inv X pins σ H s->wpAny (model X.prog X.w) X.A (eval e X.env) (EP X pins σ Q) X.xe s
def ET(X:Cx)(e:Expr)(σ:St)(H:Hp)(Q:Bool->Hp->Prop):Prop:=
 ∀(pins:List (Addr×Obj)) (s:Shared),Inv X pins σ H s->wpAny (model X.prog X.w) X.A (isTrue e X.env (eval e X.env)) (TP X pins σ Q) X.xe s
def EW(X:Cx)(e:Expr)(σ:St)(H:Hp)(Q:Bool->Hp->Prop):Prop:=
 ∀(whole:Sem Value) (pins:List (Addr×Obj)) (s:Shared),Inv X pins σ H s->wpAny (model X.prog X.w) X.A (isTrue e X.env whole) (TP X pins σ Q) X.xe s
def EA(X:Cx)(es:List Expr)(σ:St)(H:Hp)(Q:List V->Hp->Prop):Prop:=
 ∀(pos:Pos) (pins:List (Addr×Obj)) (s:Shared),Inv X pins σ H s->wpAny (model X.prog X.w) X.A (spliced (backTo pos (starEach es X.env))) (AP X pins σ Q) X.xe s
def EO(X:Cx)(e:Option Expr)(σ:St)(H:Hp)(Q:Option Int->Hp->Prop):Prop:=∃t,PO X e t/\t σ H Q
def SX(X:Cx)(st:Stmt)(D:Ends)(σ:St)(H:Hp):Prop:=
 ∀(pins:List (Addr×Obj)) (s:Shared),Inv X pins σ H s->wpAny (model X.prog X.w) X.A (exec st X.env) (SP X pins D) X.xe s
def lz(X:Cx)(st:List Stmt)(D:Ends)(σ:St)(H:Hp):Prop:=
 ∀(pins:List (Addr×Obj)) (s:Shared),Inv X pins σ H s->wpAny (model X.prog X.w) X.A (execs st X.env) (SP X pins D) X.xe s
def EG(X:Cx)(tg:Expr)(v:V)(σ:St)(H:Hp)(Q:St->Hp->Prop):Prop:=
 ∀(pins:List (Addr×Obj)) (s:Shared) (u:Value),Inv X pins σ H s->RelV v u->wpAny (model X.prog X.w) X.A (assign tg X.env u) (λ_ s'=>∃σ' H',Inv X pins σ' H' s'/\Q σ' H') X.xe s
def EGs(X:Cx)(ts:List Expr)(vs:List V)(σ:St)(H:Hp)(Q:St->Hp->Prop):Prop:=
 ∀(pins:List (Addr×Obj)) (s:Shared) (us:List Value),Inv X pins σ H s->Vals vs us->wpAny (model X.prog X.w) X.A (assignInOrder ((assignEach ts X.env).map (·.2)) us) (λ_ s'=>∃σ' H',Inv X pins σ' H' s'/\Q σ' H') X.xe s
def EI(X:Cx)(tg iter:Expr)(σ:St)(H:Hp)(R:It->Hp->Prop):Prop:=
 ∀(pins:List (Addr×Obj)) (s:Shared),Inv X pins σ H s->
  wpAny (model X.prog X.w) X.A (eval iter X.env) (λv s1=>wpAny (model X.prog X.w) X.A (pyIter v) (PIE X pins σ tg R) X.xe s1) X.xe s
def OP(X:Cx)(f:Value->Value->Sem Value)(x y:V)(H:Hp)(Q:VK):Prop:=∃r,sY X f r/\r x y H Q
def UN(X:Cx)(f:Value->Sem Value)(x:V)(H:Hp)(Q:VK):Prop:=∃r,UnR X f r/\r x H Q
def CL(X:Cx)(f:Value)(xs:List V)(H:Hp)(Q:VK):Prop:=∃r,pB X f r/\r xs H Q
def IX(X:Cx)(x y:V)(H:Hp)(Q:VK):Prop:=∃r,IxR X r/\r x y H Q
def SL(X:Cx)(x:V)(lo hi:Option Int)(H:Hp)(Q:VK):Prop:=∃r,SlR X r/\r x lo hi H Q
def MT(X:Cx)(id:String)(x:V)(xs:List V)(H:Hp)(Q:VK):Prop:=∃r,MtR X id r/\r x xs H Q
section
variable{X:Cx}{a b c e:Expr}{es:List Expr}{σ:St}{H:Hp}{Q:VK}{QT:Bool->Hp->Prop}{QA:List V->Hp->Prop}{D:Ends}{pos p apos:Pos}{x:Str}{v:V}
theorem bu:PE X e (EV X e):=λpins s _ _ _ I h=>h pins s I
theorem lU:PT X e (ET X e):=λpins s _ _ _ I h=>h pins s I
theorem CT:PW X e (EW X e):=λwhole pins s _ _ _ I h=>h whole pins s I
theorem mj:PA X es (EA X es):=λpos pins s _ _ _ I h=>h pos pins s I
theorem MJ{o:Option Expr}:PO X o (EO X o):=λpins s σ H Q I ⟨_,h,q⟩=>h pins s σ H Q I q
theorem M6{st:Stmt}:PS X st (SX X st):=λpins s _ _ _ I h=>h pins s I
theorem nP{st:List Stmt}:Vi X st (lz X st):=λpins s _ _ _ I h=>h pins s I
theorem Ml{tg:Expr}:PG X tg (EG X tg):=λpins s _ _ _ u _ I r h=>h pins s u I r
theorem Ha{ts:List Expr}:PGs X ts (EGs X ts):=λpins s _ _ _ us _ I r h=>h pins s us I r
theorem Xq{tg iter:Expr}:PI X tg iter (EI X tg iter):=λpins s _ _ _ I h=>h pins s I
theorem Dv{f:Value->Value->Sem Value}:sY X f (OP X f):=λpins s σ H x y v u Q I rx ry ⟨_,h,q⟩=>h pins s σ H x y v u Q I rx ry q
theorem W5{f:Value->Sem Value}:UnR X f (UN X f):=λpins s σ H x v Q I rx ⟨_,h,q⟩=>h pins s σ H x v Q I rx q
theorem Ld{f:Value}:pB X f (CL X f):=λpins s σ H xs us Q I rx ⟨_,h,q⟩=>h pins s σ H xs us Q I rx q
theorem Wg:IxR X (IX X):=λva sl pins s σ H x y v u Q I rx ry ⟨_,h,q⟩ hs=>h va sl pins s σ H x y v u Q I rx ry q hs
theorem VH:SlR X (SL X):=λpins s σ H x v vl vu lo hi sl Q I rx hs pl pu ⟨_,h,q⟩=>h pins s σ H x v vl vu lo hi sl Q I rx hs pl pu q
theorem Mm{id:String}:MtR X id (MT X id):=λpins s σ H x xs v us Q I rx rs ⟨_,h,q⟩=>h pins s σ H x xs v us Q I rx rs q
theorem fj{t:TE}(h:PE X e t)(q:t σ H Q):EV X e σ H Q:=λpins s I=>h pins s σ H Q I q
theorem Mr{t:TT}(h:PT X e t)(q:t σ H QT):ET X e σ H QT:=λpins s I=>h pins s σ H QT I q
theorem X3{t:TA}(h:PA X es t)(q:t σ H QA):EA X es σ H QA:=λpos pins s I=>h pos pins s σ H QA I q
theorem Hh{st:Stmt}{t:TS}(h:PS X st t)(q:t D σ H):SX X st D σ H:=λpins s I=>h pins s σ H D I q
theorem Jc{st:List Stmt}{t:TS}(h:Vi X st t)(q:t D σ H):lz X st D σ H:=λpins s I=>h pins s σ H D I q
theorem X5{tg:Expr}{t:TG}{QG:St->Hp->Prop}(h:PG X tg t)(q:t v σ H QG):EG X tg v σ H QG:=λpins s u I r=>h pins s σ H v u QG I r q
theorem Rr{ts:List Expr}{t:YZ}{vs:List V}{QG:St->Hp->Prop}(h:PGs X ts t)(q:t vs σ H QG):EGs X ts vs σ H QG:=λpins s us I r=>h pins s σ H vs us QG I r q
theorem UL{tg iter:Expr}{t:TI}{R:It->Hp->Prop}(h:PI X tg iter t)(q:t σ H R):EI X tg iter σ H R:=λpins s I=>h pins s σ H R I q
def tV:List Str->St->Str->Option V
 |n::N,o::σ,x=>if n=x then o else tV N σ x
 |_,_,_=>none
theorem vO:∀{N:List Str} {σ:St} {x:Str} {v:V},tV N σ x=some v->∃i:Nat,N[i]? =some x/\σ[i]? =some (some v)
 |n::N,o::σ,x,v,h=>by
  unfold tV at h
  split at h
  .rename_i e
   exact⟨0,by simp[e],by simp[h]⟩
  .obtain⟨i,h1,h2⟩:=vO h
   exact⟨i+1,by simpa using h1,by simpa using h2⟩
 |[],_,_,_,h=>by simp[tV]at h
 |_::_,[],_,_,h=>by simp[tV]at h
def nameAt:List Str->Str->Option Nat
 |n::N,x=>if n=x then some 0 else(nameAt N x).map (· +1)
 |[],_=>none
theorem jR:∀{N:List Str} {x:Str} {i:Nat},nameAt N x=some i->N[i]? =some x
 |n::N,x,i,h=>by
  unfold nameAt at h
  split at h
  .rename_i e
   cases h
   simp[e]
  .cases q:nameAt N x with
   |none=>rw[q]at h;cases h
   |some j=>
    rw[q]at h
    cases h
    simpa using jR q
 |[],_,_,h=>by simp[nameAt]at h
theorem Xo(hn:tV X.N σ x=some v)(hv:Vis X.env.scope x)(q:Q v H)(hd:(x==("__debug__":Str))=false)(hcd:(x==("__classdict__":Str))=false):EV X (.Name x pos) σ H Q:=by
 obtain⟨i,h1,h2⟩:=vO hn
 exact fj (ae6 h1 hv hd hcd) ⟨v,h2,q⟩
def Gc(mg:Str->Option Value)(x:Str)(v:V):Prop:=∃u,mg x=some u/\RelV v u
theorem ahW(g:Gc X.mg x v)(hg:Gl X x)(q:Q v H)(hd:(x==("__debug__":Str))=false):EV X (.Name x pos) σ H Q:=by
 obtain⟨u,h1,h2⟩:=g
 exact fj (W7 hg h1 h2 hd) q
theorem G4{T:String}(hg:Gl X x)(hm:X.mg x=none)(hv:bootBuiltins x=some (.type T))(q:Q (.ty T) H)(hn:x≠"__name__")(hd:(x==("__debug__":Str))=false):EV X (.Name x pos) σ H Q:=
 fj (Vr hg hm hv (v:=.ty T) rfl hn hd) q
theorem aez{i:Int}{j}(q:Q (.int i) H):EV X (.Constant (.int i) j pos) σ H Q:=fj aak q
theorem af9{i:Bool}{j}(q:Q (.bl i) H):EV X (.Constant (.bool i) j pos) σ H Q:=fj ahD q
theorem acO{j}(q:Q .non H):EV X (.Constant .none j pos) σ H Q:=fj acR q
theorem Q4{i:Str}{j}(q:Q (.str i) H):EV X (.Constant (.str i) j pos) σ H Q:=fj acI q
theorem aeV{op:Operator}(h:EV X a σ H λx H1=>EV X b σ H1 λy H2=>OP X (binaryOp op) x y H2 Q):EV X (.BinOp a op b pos) σ H Q:=fj (aiN Dv bu bu) h
theorem ahO{op:UnaryOp}(h:EV X a σ H λx H1=>UN X (unaryOp op) x H1 Q):EV X (.UnaryOp op a pos) σ H Q:=fj (ahL W5 bu) h
theorem Zh{op:CmpOp}(hm:behindInMarks op b=false)(h:EV X a σ H λx H1=>EV X b σ H1 λy H2=>OP X (compareOp op) x y H2 Q):EV X (.Compare a [op] [b] pos) σ H Q:=fj (Xx Dv bu bu hm) h
theorem aeE{op:CmpOp}(hm:behindInMarks op b=false)(h:EV X a σ H λx H1=>EV X b σ H1 λy H2=>OP X (compareOp op) x y H2 λz H3=>∃k,z= .bl k/\QT k H3):ET X (.Compare a [op] [b] pos) σ H QT:=Mr (VN Dv bu bu hm) h
theorem Df(he:∀whole,isTrue e X.env whole=(do let v<-whole;standAt e.pos;holding [v] (truthy v)))(h:EV X e σ H λx H'=>∃k,Xk X.K x H' k/\QT k H'):ET X e σ H QT:=Mr (Uu bu he) h
theorem ac5(h:ET X a σ H λk H1=>QT (!k) H1):ET X (.UnaryOp .Not a pos) σ H QT:=Mr (acQ lU) h
theorem asl(h:EW X e σ H QT):ET X e σ H QT:=Mr CT.pt h
theorem KZ{t:TT}(h:PW X e t)(q:t σ H QT):EW X e σ H QT:=λwhole pins s I=>h whole pins s σ H QT I q
theorem aaB{rest:List Expr}(h:ET X a σ H λk H1=>if k=true then EW X (.BoolOp .And (b::rest) pos) σ H1 QT else QT false H1):EW X (.BoolOp .And (a::b::rest) pos) σ H QT:=KZ (Zg lU CT) h
theorem ag3{rest:List Expr}(h:ET X a σ H λk H1=>if k=true then QT true H1 else EW X (.BoolOp .Or (b::rest) pos) σ H1 QT):EW X (.BoolOp .Or (a::b::rest) pos) σ H QT:=KZ (agy lU CT) h
theorem WL(h:ET X a σ H QT):EW X (.BoolOp .And [a] pos) σ H QT:=KZ (Wl lU) h
theorem aaw(h:ET X a σ H QT):EW X (.BoolOp .Or [a] pos) σ H QT:=KZ (aeR lU) h
theorem acy{op}(h:EV X a σ H Q):EV X (.BoolOp op [a] pos) σ H Q:=fj (adF bu) h
theorem afe{rest:List Expr}(h:EV X a σ H λx H1=>∃k,x= .bl k/\if k=true then EV X (.BoolOp .And (b::rest) pos) σ H1 Q else Q (.bl false) H1):EV X (.BoolOp .And (a::b::rest) pos) σ H Q:=fj (aaP bu bu) h
theorem ail{rest:List Expr}(h:EV X a σ H λx H1=>∃k,x= .bl k/\if k=true then Q (.bl true) H1 else EV X (.BoolOp .Or (b::rest) pos) σ H1 Q):EV X (.BoolOp .Or (a::b::rest) pos) σ H Q:=fj (ahS bu bu) h
theorem WQ(h:EV X a σ H λx H1=>∃k,x= .bl k/\Q (.bl (!k)) H1):EV X (.UnaryOp .Not a pos) σ H Q:=fj (aaE bu) h
theorem aba(h:ET X c σ H λk H1=>if k=true then EV X a σ H1 Q else EV X b σ H1 Q):EV X (.IfExp c a b pos) σ H Q:=fj (Uh lU bu bu) h
theorem kZ(q:QA [] H):EA X [] σ H QA:=X3 adP q
theorem iI(hs:starEach (e::es) X.env=(false,eval e X.env)::starEach es X.env)(h:EV X e σ H λx H1=>EA X es σ H1 λxs H2=>QA (x::xs) H2):EA X (e::es) σ H QA:=X3 (Xr bu mj hs) h
theorem TV{x1}(h:EA X es σ H λxs H1=>xs.length≤sizeLine/\∀p,H1 p=none->Q (.ref p) (upd H1 p (.tup xs))):EV X (.Tuple es x1 pos) σ H Q:=fj (aaF mj) h
theorem aeb(h:EA X es σ H λxs H1=>xs.length≤sizeLine/\∀p,H1 p=none->Q (.ref p) (upd H1 p (.lst xs))):EV X (.List es pos) σ H Q:=fj (aaT mj) h
theorem oY{id:String}(hg:Gl X x)(hm:X.mg x=none)(hv:bootBuiltins x=some (.builtin id))(hn:x≠"__name__")(hdb:(x==("__debug__":Str))=false)
  (he:starEach (e::es) X.env=(false,eval e X.env)::starEach es X.env) (hpl:(backTo pos (starEach es X.env)).any (·.1)=false) (h:EA X (e::es) σ H λvs H1=>CL X (.builtin id) vs H1 Q):EV X (.Call (.Name x p) (e::es) [] pos) σ H Q:=
 fj (Tn Ld hg hm hv mj hn hdb he hpl) h
theorem uB{T:String}(hg:Gl X x)(hm:X.mg x=none)(hv:bootBuiltins x=some (.type T))(hn:x≠"__name__")(hdb:(x==("__debug__":Str))=false)
  (he:starEach (e::es) X.env=(false,eval e X.env)::starEach es X.env) (hpl:(backTo pos (starEach es X.env)).any (·.1)=false) (h:EA X (e::es) σ H λvs H1=>CL X (.type T) vs H1 Q):EV X (.Call (.Name x p) (e::es) [] pos) σ H Q:=
 fj (Oe Ld hg hm hv mj hn hdb he hpl) h
structure Def(P:Program)(w:World)(K:W.Frag)(mg:Str->Option Value)(base:Heap)(cc:Bool)(k:Nat)(x:Str)(ps:List Str)(sp:Sp):Prop where
 ex:∃f fd,mg x=some (.ref f)/\W.keepIn K (.ref f)=true/\Binds K fd ps []/\wk P w K mg base (Dd P w) cc k f fd ps sp
theorem dZ.zH{cc Dq:Bool}{k:Nat}{A:Around}(r:dZ cc k A)(h:Dq=true->cc=true):dZ Dq k A:=⟨λz=>r.hd (h z),r.dp,r.un⟩
theorem Xn{Kx:St->XK}{cc Dq:Bool}{k k':Nat}{ps:List Str}{sp:Sp}(F:Def X.prog X.w X.K X.mg X.base Dq k x ps sp)(hr:dZ cc k' X.A)(hk:k≤k')(hcc:Dq=true->cc=true)(hg:Gl X x)(hx:Et X Kx)
  (hdb:(x==("__debug__":Str))=false) (he:starEach (e::es) X.env=(false,eval e X.env)::starEach es X.env) (hpl:(backTo pos (starEach es X.env)).any (·.1)=false)
  (h:EA X (e::es) σ H λvs H1=>sp vs H1 Q (Kx σ)):EV X (.Call (.Name x p) (e::es) [] pos) σ H Q:=by
 obtain⟨f,fd,h1,h2,h3,h4⟩:=F.ex
 intro pins s I
 refine wpAny_Call_Name_kw (mO I hg h1 ?_ hdb)
 refine W.callWith_K (h₀:=X.base) I.ok.mod.kin h2 (cR (h pos pins s I) λus s1 ⟨vs,H1,I1,r,q⟩=>⟨I1.kIn,?_⟩) he hpl
 exact Ef h4 ((hr.mono hk).zH hcc) h3 hx I1 r q
theorem ajk(hs:K8 b)(h:EV X a σ H λx H1=>EV X b σ H1 λy H2=>IX X x y H2 Q):EV X (.Subscript a b pos) σ H Q:=fj (ahH Wg bu bu hs) h
theorem XJ{QO:Option Int->Hp->Prop}(q:QO none H):EO X none σ H QO:=⟨_,Wn,q⟩
theorem V4{QO:Option Int->Hp->Prop}(q:EV X e σ H λx H1=>∃i,x= .int i/\QO (some i) H1):EO X (some e) σ H QO:=⟨_,V5 bu,q⟩
theorem agI{lo hi:Option Expr}{p2:Pos}(h:EV X a σ H λx H1=>EO X lo σ H1 λl H2=>EO X hi σ H2 λu H3=>SL X x l u H3 Q):EV X (.Subscript a (.Slice lo hi none p2) pos) σ H Q:=fj (Su VH bu MJ MJ) h
theorem jf{T id:String}{name:Str}(pa:PlainAttrs T)(slot:Slot T name id)(hty:typeOf (.builtin id)=pure (.type "method_descriptor"))
  (hbase:attributeBase a name X.env (eval a X.env)=eval a X.env)
  (hfew:((backTo pos (starEach (e::es) X.env)).all (λx=> !x.1)&&(backToKw pos (keywordEach [] X.env)).all (λx=>x.1.isSome)
   &&decide ((e::es).length+([]:List Keyword).length+(if([]:List Keyword).isEmpty then 0 else 1)<30))=true)
  (hline:(apos.endLine==pos.line)=true) (hs:starEach (e::es) X.env=(false,eval e X.env)::starEach es X.env) (hplain:(backTo pos (starEach es X.env)).any (·.1)=false)
  (h:EV X a σ H λx H1=>tyV X.K T x H1/\EA X (e::es) σ H1 λxs H2=>MT X id x xs H2 Q):EV X (.Call (.Attribute a name apos) (e::es) [] pos) σ H Q:=
 fj (agQ pa slot hty Mm bu mj hbase hfew hline hs hplain) h
theorem aec{T id:String}{name:Str}(pa:PlainAttrs T)(slot:Slot T name id)(hty:typeOf (.builtin id)=pure (.type "method_descriptor"))
  (hbase:attributeBase a name X.env (eval a X.env)=eval a X.env) (hline:(apos.endLine==pos.line)=true)
  (h:EV X a σ H λx H1=>tyV X.K T x H1/\MT X id x [] H1 Q):EV X (.Call (.Attribute a name apos) [] [] pos) σ H Q:=
 fj (aeI pa slot hty Mm bu hbase hline) h
theorem aM(q:D.nx σ H):lz X [] D σ H:=Jc WM q
theorem aj{st:Stmt}{rest:List Stmt}(h:SX X st {D with nx:=λσ' H'=>lz X rest D σ' H'} σ H):lz X (st::rest) D σ H:=Jc (Tw M6 nP) h
theorem aA{st:Stmt}(h:SX X st D σ H):lz X [st] D σ H:=Jc (We M6) h
theorem gB(hs:swapsWith e none pos.line X.env=pure false)(h:EV X e σ H λ_ H1=>D.nx σ H1):SX X (.Expr e pos) D σ H:=Hh (WT bu hs) h
theorem bj(h:EV X e σ H D.rt):SX X (.Return (some e) pos) D σ H:=Hh (ab8 bu) h
theorem bY{t u:List Stmt}(h:ET X c σ H λk H1=>if k=true then lz X t D σ H1 else lz X u D σ H1):SX X (.If c t u pos) D σ H:=Hh (ah9 lU nP nP) h
theorem Us{i:Nat}{p':Pos}(hN:X.N.Nodup)(hi:nameAt X.N x=some i)(hx:Loc X.env.scope x)(hs:swapsWith e (some (.Name x p')) pos.line X.env=pure false)(hf:X.fn x=true\/X.env.scope.names.lookup x=some .local)
  (h:EV X e σ H λv H1=>D.nx (σ.set i (some v)) H1):SX X (.Assign [.Name x p'] e pos) D σ H:=Hh (ac3 hN (jR hi) hx bu hs hf) h
theorem aJ{i:Nat}{QG:St->Hp->Prop}(hN:X.N.Nodup)(hi:nameAt X.N x=some i)(hx:Loc X.env.scope x)(hf:X.fn x=true\/X.env.scope.names.lookup x=some .local)(q:QG (σ.set i (some v)) H):EG X (.Name x pos) v σ H QG:=
 X5 (Vq hN (jR hi) hx hf) q
theorem cM{QG:St->Hp->Prop}(q:QG σ H):EGs X [] [] σ H QG:=Rr Xy ⟨rfl,q⟩
theorem aN{ts:List Expr}{vs:List V}{QG:St->Hp->Prop}(hs:(assignEach (e::ts) X.env).map (·.2)=assign e X.env::(assignEach ts X.env).map (·.2))(h:EG X e v σ H λσ' H'=>EGs X ts vs σ' H' QG):EGs X (e::ts) (v::vs) σ H QG:=
 Rr (T9 Ml Ha hs) ⟨v,vs,rfl,h⟩
theorem eO{n:Nat}{k:Nat}{QG:St->Hp->Prop}{q:Addr}{xs:List V}(hc:X.calm=true)(hn:(assignEach es X.env).length=n)(hst:(assignEach es X.env).findIdx? (·.1)=none)
  (ht:cA X.K H q xs) (hl:xs.length=n) (h:EGs X es xs σ H QG):EG X (.Tuple es k pos) (.ref q) σ H QG:=
 X5 (ada hc Ha hn hst) ⟨q,xs,rfl,ht,hl,h⟩
theorem vG{tg iter:Expr}{body:List Stmt}(hp:PassesOwn (model X.prog X.w) X.A X.env X.xe)(hc:X.calm=true)(hs:∀x,foldedSetIterable iter X.env x=pure x)
  (h:EI X tg iter σ H λJ H1=>∃W:Nat->Nat->St->Hp->Prop,(∃m,W 0 m σ H1)/\∀i m σ H,W i m σ H->
   (J.stop i H/\D.nx σ H)\/(J.go i H/\∃N:St->Hp->Prop,(∀σ' H',N σ' H'->∃m',m'<m/\W (i+1) m' σ' H')/\∀x H',J.yld i H x H'->EG X tg x σ H' λσ2 H2=>lz X body {D with nx:=N,ct:=N,bk:=D.nx} σ2 H2)):
  SX X (.For tg iter body [] pos) D σ H:=Hh (abp hp hc Xq Ml nP hs) h
theorem sW{tg l:Expr}{R:It->Hp->Prop}(h:EV X l σ H λx H1=>∃a,x= .ref a/\(∃xs,bc X.K H1 a xs)/\R (Vx X.K a) H1):EI X tg l σ H R:=UL (Vt bu) h
theorem aeA{tg l:Expr}{R:It->Hp->Prop}(h:EV X l σ H λx H1=>∃a,x= .ref a/\(∃xs,cA X.K H1 a xs)/\R (Itt X.K a) H1):EI X tg l σ H R:=UL (abi bu) h
theorem vX{tg:Expr}{R:It->Hp->Prop}(hg:Gl X "range")(hm:X.mg "range"=none)(hs:starEach [a] X.env=[(false,eval a X.env)])
  (h:EA X [a] σ H λvs H1=>∃j:Int,vs=[.int j]/\ -(2^62)≤j/\j<2^62/\R (YG 0 j.toNat) H1):EI X tg (.Call (.Name "range" p) [a] [] pos) σ H R:=UL (Ow hg hm mj hs) h
theorem bJ{Q':VK}(h:EV X e σ H Q)(m:∀v H',Q v H'->Q' v H'):EV X e σ H Q':=λpins s I=>cR (h pins s I) λ_ _ ⟨v,H',I',r,q⟩=>⟨v,H',I',r,m v H' q⟩
theorem gA{f:Value->Value->Sem Value}{r:R2}{y z:V}(h:sY X f r)(q:r y z H Q):OP X f y z H Q:=⟨r,h,q⟩
variable{i j:Int}{k k':Bool}{z z':Str}
theorem ahc(q:Q (.int (i+j)) H):OP X (binaryOp .Add) (.int i) (.int j) H Q:=gA ZV ⟨i,j,rfl,rfl,q⟩
theorem ajw(q:Q (.int (i-j)) H):OP X (binaryOp .Sub) (.int i) (.int j) H Q:=gA aeo ⟨i,j,rfl,rfl,q⟩
theorem af3(c:VG i j)(q:Q (.int (i*j)) H):OP X (binaryOp .Mult) (.int i) (.int j) H Q:=gA ad8 ⟨i,j,rfl,rfl,c,q⟩
theorem aaq(c:age i j)(q:Q (.int (i / j)) H):OP X (binaryOp .FloorDiv) (.int i) (.int j) H Q:=gA Vy ⟨i,j,rfl,rfl,c,q⟩
theorem ahs(c:0<j)(q:Q (.int (i % j)) H):OP X (binaryOp .Mod) (.int i) (.int j) H Q:=gA aem ⟨i,j,rfl,rfl,c,q⟩
theorem M7(c:af8 i j)(q:Q (.int (i^j.toNat)) H):OP X (binaryOp .Pow) (.int i) (.int j) H Q:=gA ac6 ⟨i,j,rfl,rfl,c,q⟩
theorem ar4(q:Q (.bl (decide (i<j))) H):OP X (compareOp .Lt) (.int i) (.int j) H Q:=gA aiF ⟨i,j,rfl,rfl,q⟩
theorem arG(q:Q (.bl (decide (i≤j))) H):OP X (compareOp .LtE) (.int i) (.int j) H Q:=gA aiv ⟨i,j,rfl,rfl,q⟩
theorem ao1(q:Q (.bl (decide (j<i))) H):OP X (compareOp .Gt) (.int i) (.int j) H Q:=gA ahF ⟨i,j,rfl,rfl,q⟩
theorem at7(q:Q (.bl (decide (j≤i))) H):OP X (compareOp .GtE) (.int i) (.int j) H Q:=gA ahM ⟨i,j,rfl,rfl,q⟩
theorem amc{y z:V}(s:W4 y z=true)(q:Q (.bl (decide (y=z))) H):OP X (compareOp .Eq) y z H Q:=gA ahf ⟨s,q⟩
theorem aoc{y z:V}(s:W4 y z=true)(q:Q (.bl (!decide (y=z))) H):OP X (compareOp .NotEq) y z H Q:=gA agh ⟨s,q⟩
theorem ait(q:Q (.bl (!(Builtin.Str.occurrences z' z 0 z'.length 1).isEmpty)) H):OP X (compareOp .In) (.str z) (.str z') H Q:=gA Pg ⟨z,z',rfl,rfl,q⟩
theorem agw{y:V}(q:Q (.bl (decide (y= .non))) H):OP X (compareOp .Is) y .non H Q:=gA aaU ⟨rfl,q⟩
theorem adN{y:V}(q:Q (.bl (!decide (y= .non))) H):OP X (compareOp .IsNot) y .non H Q:=gA VJ ⟨rfl,q⟩
theorem aZ(c:z.length+z'.length≤sizeLine)(q:Q (.str (z++z')) H):OP X (binaryOp .Add) (.str z) (.str z') H Q:=gA Jh ⟨z,z',rfl,rfl,c,q⟩
theorem aie(q:Q (.int (-i)) H):UN X (unaryOp .USub) (.int i) H Q:=⟨_,acZ,i,rfl,q⟩
theorem jG{f:Value}{r:List V->Hp->VK->Prop}{vs:List V}(h:pB X f r)(q:r vs H Q):CL X f vs H Q:=⟨r,h,q⟩
theorem Ck{q:Addr}{ys:List V}(h:bc X.K H q ys\/cA X.K H q ys)(g:Q (.int ys.length) H):CL X (.builtin "len") [.ref q] H Q:=jG Dg ⟨q,ys,rfl,h,g⟩
theorem acG(h:z.length≤sizeLine)(g:Q (.int z.length) H):CL X (.builtin "len") [.str z] H Q:=jG Fv ⟨z,rfl,h,g⟩
theorem lu(h:i.natAbs.log2<1920)(g:Q (.str (toString i)) H):CL X (.type "str") [.int i] H Q:=jG Fd ⟨i,rfl,h,g⟩
theorem Iw{q:Addr}{ys:List V}(h:bc X.K H q ys\/cA X.K H q ys)(g:∀l,H l=none->Q (.ref l) (upd H l (.lst ys))):CL X (.type "list") [.ref q] H Q:=jG Eg ⟨q,ys,rfl,h,g⟩
theorem T3{r:R2}{y z:V}(h:IxR X r)(q:r y z H Q):IX X y z H Q:=⟨r,h,q⟩
theorem aQ{q:Addr}{xs:List V}(h:bc X.K H q xs)(e:n8 xs i=some v)(g:Q v H):IX X (.ref q) (.int i) H Q:=T3 W8 ⟨q,xs,i,v,rfl,rfl,h,e,g⟩
theorem bx{q:Addr}{xs:List V}(h:cA X.K H q xs)(e:n8 xs i=some v)(g:Q v H):IX X (.ref q) (.int i) H Q:=T3 abO ⟨q,xs,i,v,rfl,rfl,h,e,g⟩
theorem xg{n:Nat}(h:z.length≤sizeLine)(e:n8 z.cps.toList i=some n)(g:Q (.str ⟨#[n]⟩) H):IX X (.str z) (.int i) H Q:=T3 Z1 ⟨z,i,n,rfl,rfl,h,e,g⟩
theorem S7{q:Addr}{xs:List V}{lo hi:Option Int}(h:bc X.K H q xs)(g:∀p,H p=none->Q (.ref p) (upd H p (.lst (uW xs lo hi)))):SL X (.ref q) lo hi H Q:=⟨_,WN,q,xs,rfl,h,g⟩
theorem afU{q:Addr}{xs:List V}{lo hi:Option Int}(h:cA X.K H q xs)(n:¬(HT.dI xs.length 0 lo=0/\HT.dI xs.length xs.length hi=xs.length))(g:∀p,H p=none->Q (.ref p) (upd H p (.tup (uW xs lo hi)))):SL X (.ref q) lo hi H Q:=⟨_,adz,q,xs,rfl,h,n,g⟩
theorem gw{y:V}{t:Value}{T:String}(ty:iW X.K H y t)(e:W.kitOne X.K t (.type T)=some k)(g:Q (.bl k) H):CL X (.builtin "isinstance") [y,.ty T] H Q:=by
 refine⟨λxs H Q=>∃y t T k,xs=[y,.ty T]/\iW X.K H y t/\W.kitOne X.K t (.type T)=some k/\Q (.bl k) H,?_,y,t,T,k,rfl,ty,e,g⟩
 intro pins s σ H xs us Q I r h
 obtain⟨y,t,T,k,rfl,ty,e,g⟩:=h
 obtain⟨u1,u2,rfl,r1,r2⟩:=vals2 r
 cases(show u2=Value.type T from r2)
 exact Nz I r1 ty e λtk=>⟨.bl k,H,I.tok tk,rfl,g⟩
end
def Its(x:Str):It:=⟨λi _=>i<x.cps.size,λi H v H'=>H'=H/\∃c,x.cps[i]? =some c/\v= .str ⟨#[c]⟩,λi _=>x.cps.size≤i⟩
theorem QD{P:Program}{w:World}{K:PySem.W.Frag}{tg:Expr}{T:String}(hT:T="str_ascii_iterator"\/T="str_iterator")(it:Addr)(x:Str)(t:Tok):Turn P w K tg (Its x) [it] it (λi h=>h.IsStrIter it T x t i)where
 mem:=by simp
 obj:=λi h st b hb=>by
  have e:b=it:=by simpa using hb
  subst e
  obtain⟨o,e,c,d⟩:=st
  exact⟨o,e,λv z=>by rw[d]at z;cases z⟩
 keep:=λi h h' st k=>by
  obtain⟨o,e,c,d⟩:=st
  exact⟨o,k it (by simp) o e,c,d⟩
 item:=by
  intro X hP hw hK hc i pins s σ H E I hf st hg
  subst hP hw hK
  obtain⟨f0,f1,f2,f3,f4,f5⟩:=hf it (by simp)
  have hg':i<x.cps.size:=hg
  have hW:∃W:Nat->Heap->Prop,Walks X.prog X.w X.A it [it] [it] x.cps.size (SignAt x) W/\W=λi h=>h.IsStrIter it T x t i:=by
   rcases hT with rfl |rfl
   .exact⟨_,Walks.strAscii (I.ok.hd hc) it x t,rfl⟩
   .exact⟨_,Walks.strWide (I.ok.hd hc) it x t,rfl⟩
  obtain⟨_,W,rfl⟩:=hW
  refine W.item i s _ _ hg' st λv h' tk hv st' kk=>?_
  obtain⟨c,u,e1,rfl⟩:=hv
  have I1:Inv X pins σ H {s with heap:=h',toks:=tk}:=I.turned (λb o hb e=>kk b o (by simpa using hb) e) f0 f1 f3 f4 f5
  obtain⟨o,e,c',d⟩:=id st'
  refine⟨_,rfl,Hv (s:={s with heap:=h',toks:=tk}) (n:=T) e c' d (by rcases hT with rfl |rfl<;>decide) ⟨.str ⟨#[c]⟩,H,I1,⟨u,rfl⟩,⟨rfl,c,e1,rfl⟩,st',λb hb=>(hf b hb).1⟩⟩
 done:=by
  intro X hP hw hK hc i pins s σ H E I hf st hg
  subst hP hw hK
  obtain⟨f0,f1,f2,f3,f4,f5⟩:=hf it (by simp)
  have hg':x.cps[i]? =none:=Array.getElem?_eq_none hg
  rcases hT with rfl |rfl
  .exact wpAny_pyNext_ascii_end (I.ok.hd hc) st hg' λh' eb=>⟨rfl,I.turned (t':=s.toks) (λb o hb e=>eb b o hb e) f0 f1 f3 f4 f5⟩
  .exact wpAny_pyNext_wide_end (I.ok.hd hc) st hg' λh' eb=>⟨rfl,I.turned (t':=s.toks) (λb o hb e=>eb b o hb e) f0 f1 f3 f4 f5⟩
 self:=λ_ _ _ _ _ st h=>by
  rcases hT with rfl |rfl
  .exact wpAny_pyIter_striter_ascii st h
  .exact wpAny_pyIter_striter_wide st h
section
variable{X:Cx}{tg l:Expr}{σ:St}{H:Hp}{R:It->Hp->Prop}
theorem Ru(h:EV X l σ H λx H1=>∃z,x= .str z/\R (Its z) H1):EI X tg l σ H R:=by
 intro pins s I
 refine cR (h pins s I) λv s1 ⟨x,H1,I1,r1,z,e,q⟩=>?_
 subst e
 obtain⟨t,rfl⟩:=r1
 have fin:∀T:String,(T="str_ascii_iterator"\/T="str_iterator")->
   PIE X pins σ tg R (.ref s1.heap.objs.size) {s1 with heap:=s1.heap.push {cls:=.type T,data:=.fields #[.str z t,.int 0 0]}}:=λT hT=>by
  refine⟨s1.heap.objs.size,[s1.heap.objs.size],_,_,H1,rfl,I1.kept (t':=s1.toks) λb o e=>Heap.get?_push_of_some _ e,QD hT _ z t,⟨_,Heap.get?_push_size _ rfl,rfl,rfl⟩,λb hb=>?_,q⟩
  have e:b=s1.heap.objs.size:=by simpa using hb
  subst e
  exact I1.fpOk (Nat.le_refl _) (I1.hok.fresh (Nat.le_refl _))
 cases ha:z.cps.all (· <128)
 .exact wpAny_pyIter_wide ha (fin _ (.inr rfl))
 .exact wpAny_pyIter_ascii ha (fin _ (.inl rfl))
end
def gr(N' N:List Str)(σ:St)(scope:Scope):St:=N'.map λx=>if scope.names.lookup x=some .free then tV N σ x else none
def Ci(X:Cx)(N':List Str)(scope:Scope)(cl:List (Str×Addr))(C:Addr)(s:Shared)(H:Hp)(fp:List Addr):Cx:=
 {X with N:=N',s₀:=s,H₀:=H,env:=compEnvC scope cl C X.env,outer:=X.stack,stack:=X.stack,ex:=fp,fn:=λ_=>false,pn:=[],xe:=λ_ _=>False}
def abT(X:Cx)(ifs:List Expr)(σ:St)(H:Hp)(Q:Bool->Hp->Prop):Prop:=
 ∀(pins:List (Addr×Obj)) (s:Shared),Inv X pins σ H s->
  wpAny (model X.prog X.w) X.A (forIn ifs true λc r=>if r=true then do let ok<-isTrue c X.env (eval c X.env);pure (ForInStep.yield ok)else pure (ForInStep.yield r)) (TP X pins σ Q) X.xe s
theorem rQ(env:Env):∀(names:List (Str×NameKind)) (cs:List (Str×Addr)),(∀y∈names,y.2= .free->∃c,env.cells.lookup y.1=some c)->
  (forIn names cs (λ(x:Str×NameKind) (r:List (Str×Addr))=>if(x.2==NameKind.free)=true then do let a<-cellOf env x.1;pure (ForInStep.yield ((x.1,a)::r))else pure (ForInStep.yield r)):Sem (List (Str×Addr)))=
   pure (names.foldl (λcs y=>if y.2== .free then(y.1,(env.cells.lookup y.1).getD 0)::cs else cs) cs)
 |[],cs,_=>by simp
 |(n,k)::r,cs,h=>by
  rw[List.forIn_cons]
  by_cases hk:k= .free
  .subst hk
   obtain⟨c,e⟩:=h (n,.free) List.mem_cons_self rfl
   have e':cellOf env n=pure c:=by
    unfold cellOf
    have e2:env.cells.lookup n=some c:=e
    rw[e2]
   simp only[beq_self_eq_true,if_true,e',pure_bind]
   have e2:env.cells.lookup n=some c:=e
   rw[rQ env r _ λy hy=>h y (List.mem_cons_of_mem _ hy),List.foldl_cons]
   simp only[beq_self_eq_true,if_true,e2,Option.getD_some]
  .have hb:(k==NameKind.free)=false:=by simpa using hk
   simp only[hb,Bool.false_eq_true,if_false,pure_bind]
   rw[rQ env r _ λy hy=>h y (List.mem_cons_of_mem _ hy),List.foldl_cons]
   simp only[hb,Bool.false_eq_true,if_false]
def cj(scope:Scope)(env:Env):List (Str×Addr):=scope.names.foldl (λcs y=>if y.2== .free then(y.1,(env.cells.lookup y.1).getD 0)::cs else cs) []
theorem rH{scope:Scope}{env:Env}(h:∀y∈scope.names,y.2= .free->∃c,env.cells.lookup y.1=some c):closureFor scope env=pure (cj scope env):=by
 have :=rQ env scope.names [] h
 unfold closureFor cj
 rw[<-this]
 simp
theorem Bq{env:Env}:∀(names:List (Str×NameKind)) (cs:List (Str×Addr)),(∀y∈names,y.2= .free->∃c,env.cells.lookup y.1=some c)->
  ∀x c,(names.foldl (λcs y=>if y.2== .free then(y.1,(env.cells.lookup y.1).getD 0)::cs else cs) cs).lookup x=some c->(env.cells.lookup x=some c\/cs.lookup x=some c)
 |[],cs,_,x,c,e=>.inr e
 |(n,k)::r,cs,h,x,c,e=>by
  rw[List.foldl_cons]at e
  rcases Bq r _ (λy hy=>h y (List.mem_cons_of_mem _ hy)) x c e with q |q
  .exact .inl q
  .by_cases hk:k= .free
   .subst hk
    obtain⟨c',e'⟩:=h (n,.free) List.mem_cons_self rfl
    have e2:env.cells.lookup n=some c':=e'
    simp only[beq_self_eq_true,if_true,e2,Option.getD_some,List.lookup_cons]at q
    cases hx:x==n with
    |true=>
     rw[hx]at q
     have hx':x=n:=by simpa using hx
     subst hx'
     exact .inl (e2.trans q)
    |false=>rw[hx]at q;exact .inr q
   .have hb:(k==NameKind.free)=false:=by simpa using hk
    rw[if_neg (by simp[hb])]at q
    exact .inr q
theorem vf{env:Env}:∀(names:List (Str×NameKind)) (cs:List (Str×Addr)) (x:Str),((x,NameKind.free)∈names\/∃c,cs.lookup x=some c)->
  ∃c,(names.foldl (λcs y=>if y.2== .free then(y.1,(env.cells.lookup y.1).getD 0)::cs else cs) cs).lookup x=some c
 |[],cs,x,h=>by
  rcases h with h |h
  .cases h
  .exact h
 |(n,k)::r,cs,x,h=>by
  rw[List.foldl_cons]
  refine vf r _ x ?_
  by_cases hk:k= .free
  .subst hk
   simp only[beq_self_eq_true,if_true,List.lookup_cons]
   cases hx:x==n with
   |true=>exact .inr ⟨_,rfl⟩
   |false=>
    rcases h with h |h
    .rcases List.mem_cons.mp h with h |h
     .cases h
      simp at hx
     .exact .inl h
    .exact .inr h
  .have hb:(k==NameKind.free)=false:=by simpa using hk
   rw[if_neg (by simp[hb])]
   rcases h with h |h
   .rcases List.mem_cons.mp h with h |h
    .cases h
     exact absurd rfl hk
    .exact .inl h
   .exact .inr h
theorem ux{env:Env}{x:Str}:∀{names:List (Str×NameKind)},names.lookup x=some .free->
  (names.map λ(n,k)=>if(k==NameKind.free&&env.scope.kind== .function&&env.kindOf n==some .cell)then(n,NameKind.cell)else(n,k)).lookup x=some .cell\/
  (names.map λ(n,k)=>if(k==NameKind.free&&env.scope.kind== .function&&env.kindOf n==some .cell)then(n,NameKind.cell)else(n,k)).lookup x=some .free
 |[],h=>by simp at h
 |(n,k')::r,h=>by
  have ih:= @ux env x r
  show List.lookup x ((if(k'==NameKind.free&&env.scope.kind== .function&&env.kindOf n==some .cell)=true then(n,NameKind.cell)else(n,k'))::_)=_\/List.lookup x ((if(k'==NameKind.free&&env.scope.kind== .function&&env.kindOf n==some .cell)=true then(n,NameKind.cell)else(n,k'))::_)=_
  cases hx:x==n with
  |true=>
   simp only[List.lookup_cons,hx]at h
   cases h
   by_cases hc:(NameKind.free==NameKind.free&&env.scope.kind== .function&&env.kindOf n==some .cell)=true
   .rw[if_pos hc];left;simp only[List.lookup_cons,hx]
   .rw[if_neg hc];right;simp only[List.lookup_cons,hx]
  |false=>
   simp only[List.lookup_cons,hx]at h
   by_cases hc:(k'==NameKind.free&&env.scope.kind== .function&&env.kindOf n==some .cell)=true
   .rw[if_pos hc];simp only[List.lookup_cons,hx];exact ih h
   .rw[if_neg hc];simp only[List.lookup_cons,hx];exact ih h
theorem za{env:Env}{x:Str}:∀{names:List (Str×NameKind)},(∀y∈names,y.2≠ .cell)->
  ((names.map λ(n,k)=>if(k==NameKind.free&&env.scope.kind== .function&&env.kindOf n==some .cell)then(n,NameKind.cell)else(n,k)).lookup x=some .cell\/
  (names.map λ(n,k)=>if(k==NameKind.free&&env.scope.kind== .function&&env.kindOf n==some .cell)then(n,NameKind.cell)else(n,k)).lookup x=some .free)->(x,NameKind.free)∈names
 |[],_,h=>by simp at h
 |(n,k')::r,hc0,h=>by
  have ih:= @za env x r λy hy=>hc0 y (List.mem_cons_of_mem _ hy)
  have h':List.lookup x ((if(k'==NameKind.free&&env.scope.kind== .function&&env.kindOf n==some .cell)=true then(n,NameKind.cell)else(n,k'))::(r.map λ(n,k)=>if(k==NameKind.free&&env.scope.kind== .function&&env.kindOf n==some .cell)then(n,NameKind.cell)else(n,k)))=some .cell\/
   List.lookup x ((if(k'==NameKind.free&&env.scope.kind== .function&&env.kindOf n==some .cell)=true then(n,NameKind.cell)else(n,k'))::(r.map λ(n,k)=>if(k==NameKind.free&&env.scope.kind== .function&&env.kindOf n==some .cell)then(n,NameKind.cell)else(n,k)))=some .free:=h
  cases hx:x==n with
  |true=>
   have hx':x=n:=by simpa using hx
   subst hx'
   by_cases hc:(k'==NameKind.free&&env.scope.kind== .function&&env.kindOf x==some .cell)=true
   .have :k'= .free:=by simp only[Bool.and_eq_true]at hc;simpa using hc.1.1
    subst this
    exact List.mem_cons_self
   .rw[if_neg hc]at h'
    simp only[List.lookup_cons,hx]at h'
    rcases h' with h' |h'
    .cases h'
     exact absurd rfl (hc0 (x,.cell) List.mem_cons_self)
    .cases h'
     exact List.mem_cons_self
  |false=>
   refine List.mem_cons_of_mem _ (ih ?_)
   by_cases hc:(k'==NameKind.free&&env.scope.kind== .function&&env.kindOf n==some .cell)=true
   .rw[if_pos hc]at h';simpa only[List.lookup_cons,hx]using h'
   .rw[if_neg hc]at h';simpa only[List.lookup_cons,hx]using h'
theorem Dy{prog:Program}{w:World}{A:Around}{R:Result->Shared->Prop}{s:Shared}{elt target iter:Expr}{ifs:List Expr}{scope:Scope}{pos:Pos}{it acc:Value}{env:Env}(I:Nat->Shared->Prop)
  (turn:∀n s,I n s->wpAny (model prog w) A (pyNext it) (λr s₁=>match r with
   |none=>R (.ok .next) s₁
   |some v=>wpAny (model prog w) A (letOwnedTupleGo target it v) (λ_ s₁'=>wpAny (model prog w) A (assign target env v) (λ_ s₂=>
    wpAny (model prog w) A (forIn ifs true λc r=>if r=true then do let ok<-isTrue c env (eval c env);pure (ForInStep.yield ok)else pure (ForInStep.yield r)) (λok s₃=>
     if ok=true then wpAny (model prog w) A (eval elt env) (λx s₄=>
      wpAny (model prog w) A (call (.builtin "list.append") [acc,x]) (λ_ s₅=>∃m,m<n/\I m s₅) (λ_ _=>False) s₄) (λ_ _=>False) s₃
     else ∃m,m<n/\I m s₃) (λ_ _=>False) s₂) (λ_ _=>False) s₁') (λ_ _=>False) s₁) (λ_ _=>False) s)
  (n:Nat) (h:I n s):
  codeAny (model prog w) A (.compLoop (.ListComp elt [⟨target,iter,ifs,0⟩] scope pos) 0 it acc env) R s:=by
 refine codeAny_loop rfl I (λn s hI=>?_) n h
 show wpAny _ A ((compTurn (.ListComp elt [⟨target,iter,ifs,0⟩] scope pos) 0 it acc env).onRaise (λx=>do noteFrame x env;theTreesLotGoes x)) _ _ s
 refine wpAny_noted ?_
 rw[compTurn_list]
 refine wpAny_bind (wpAny_standAt (wpAny_bind (wpAny_mono (turn n s hI) (λr s₁ h₁=>?_) λ_ _ h'=>h'.elim)))
 cases r with
 |none=>exact wpAny_pure h₁
 |some v=>
  refine wpAny_bind (wpAny_mono h₁ (λ_ s₁' h₁'=>?_) λ_ _ h'=>h'.elim)
  refine wpAny_bind (wpAny_mono h₁' (λ_ s₂ h₂=>wpAny_bind (wpAny_mono h₂ (λok s₃ h₃=>?_) λ_ _ h'=>h'.elim)) λ_ _ h'=>h'.elim)
  cases ok with
  |false=>exact wpAny_pure ⟨rfl,h₃⟩
  |true=>
   exact wpAny_bind (wpAny_bind (wpAny_mono h₃ (λx s₄ h₄=>wpAny_bind (wpAny_mono h₄ (λ_ s₅ h₅=>wpAny_pure (wpAny_pure ⟨rfl,h₅⟩)) λ_ _ h'=>h'.elim)) λ_ _ h'=>h'.elim))
section
variable{X:Cx}{pins:List (Addr×Obj)}{σ:St}{H H':Hp}{s s':Shared}{scope:Scope}{fp:List Addr}{N':List Str}
structure dC(env:Env)(scope:Scope):Prop where
 kind:scope.kind= .function
 free:∀y∈scope.names,y.2= .free->env.kindOf y.1=some .cell\/env.kindOf y.1=some .free
 cell:∀y∈scope.names,y.2≠ .cell
 loc:∀y∈scope.names,y.2= .local->scope.names.lookup y.1=some .local
theorem dC.has(S:dC X.env scope)(I:Inv X pins σ H s):∀y∈scope.names,y.2= .free->∃c,X.env.cells.lookup y.1=some c:=λy hy e=>I.ok.has y.1 (S.free y hy e)
theorem dC.cl(S:dC X.env scope)(I:Inv X pins σ H s){x:Str}{c:Addr}(h:(cj scope X.env).lookup x=some c):X.env.cells.lookup x=some c:=by
 rcases Bq scope.names [] (S.has I) x c h with q |q
 .exact q
 .simp at q
theorem aeU(S:dC X.env scope)(I:Inv X pins σ H s)(hf:∀b∈fp,kW X pins H b)(hfs:∀b∈fp,b<s.heap.objs.size):(Ci X N' scope (cj scope X.env) s.heap.objs.size s H fp).Ok where
 mod:=I.ok.mod
 kind:=S.kind
 glob:=I.ok.glob
 blt:=I.ok.blt
 above:=Nat.le_refl _
 inj:=λx y c h1 h2=>I.ok.inj x y c (S.cl I h1) (S.cl I h2)
 has:=λx hx=>vf (env:=X.env) scope.names [] x (.inl (za S.cell hx))
 cab:=λx c h _=>by cases h
 hd:=I.ok.hd
 frames:=I.ok.frames
 stk:=.inl rfl
 exf:=λb hb=>⟨Nat.ne_of_lt (hfs b hb),λx c h=>(hf b hb).2.2.2.2.1 x c (S.cl I h)⟩
 bs:=I.bs
 bsz:=Nat.le_trans I.ok.bsz I.sz
 noex:=λb o e hb=>by
  rcases(hf b hb).2.2.2.1 with z |z
  .exact I.ok.noex b o e z
  .rw[(I.ok.bs b o e).1]at z;cases z
 exfs:=λb hb z=>by
  rcases List.mem_cons.mp (I.stkSub b z)with e |e
  .exact(hf b hb).2.1 e
  .exact(hf b hb).2.2.1 e
 funs:=I.stack
 frf:=I.stkFree
theorem Oq{N:List Str}{i:Nat}{x:Str}{v:V}(h1:N'[i]? =some x)(h2:(gr N' N σ scope)[i]? =some (some v)):scope.names.lookup x=some .free/\tV N σ x=some v:=by
 unfold gr at h2
 rw[List.getElem?_map,h1]at h2
 have h3:(if scope.names.lookup x=some .free then tV N σ x else none)=some v:=by simpa using h2
 split at h3
 .rename_i e
  exact⟨e,h3⟩
 .cases h3
theorem Mi(S:dC X.env scope)(I:Inv X pins σ H s)(hf:∀b∈fp,kW X pins H b)(hfs:∀b∈fp,b<s.heap.objs.size){h₁:Heap}{m:Str->Option Value}{tk:Nat}(hns:h₁.Ns s.heap.objs.size m)
  (old:∀b o,s.heap.get? b=some o->h₁.get? b=some o):Inv (Ci X N' scope (cj scope X.env) s.heap.objs.size s H fp) [] (gr N' X.N σ scope) H {s with heap:=h₁,toks:=tk}where
 ok:=aeU S I hf hfs
 os:=rfl
 bare:=I.bare
 base:=Un.kept old
 loc:=by
  refine⟨m,hns,λi x v h1 h2 h3=>?_⟩
  obtain⟨e1,e2⟩:=Oq h1 h2
  obtain⟨j,g1,g2⟩:=vO e2
  have hm:(x,NameKind.free)∈scope.names:=PySem.mem_of_lookup e1
  have hk:=S.free _ hm rfl
  obtain⟨m0,_,hl⟩:=I.loc
  have vis:Vis X.env.scope x:=.inr hk
  obtain⟨u,r,lk⟩:=hl j x v g1 g2 vis
  refine⟨u,r,.inr ⟨ux (env:=X.env) e1,?_⟩⟩
  rcases lk with⟨k,_⟩ |⟨_,c,e,z⟩
  .rcases hk with hk |hk
   .have hk':X.env.kindOf x=some .cell:=hk
    rw[hk']at k;cases k
   .have hk':X.env.kindOf x=some .free:=hk
    rw[hk']at k;cases k
  .obtain⟨c',e'⟩:=vf (env:=X.env) scope.names [] x (.inl hm)
   have e3:=S.cl I (x:=x) (c:=c') e'
   rw[e]at e3
   cases e3
   obtain⟨o,ho,hd⟩:=z
   exact⟨c,e',o,old _ _ ho,hd⟩
 cell:=λx c h=>by
  obtain⟨v,o,ho,hd⟩:=I.cell x c (S.cl I h)
  exact⟨v,o,old _ _ ho,hd⟩
 free:=I.hok.fresh (Nat.le_refl _)
 freeC:=λx c h=>I.freeC x c (S.cl I h)
 pin:=λp hp=>absurd (show p∈([]:List (Addr×Obj))from hp) (by simp)
 hok:=I.hok.kept old
 len:=by show(gr N' X.N σ scope).length=N'.length;unfold gr;rw[List.length_map]
theorem MK{τ:St}(I:Inv X pins σ H s)(hf:∀b∈fp,kW X pins H b)(J:Inv (Ci X N' scope (cj scope X.env) s.heap.objs.size s H fp) [] τ H' s'):Inv X pins σ H' s':=by
 obtain⟨hh,g,d,t,os'⟩:=s'
 have e:os'=s.os:=J.os
 subst e
 exact I.call (h':=hh) (g':=g) (d':=d) (t':=t) (ch:=fp) J.base J.hok J.bare λb hb=>⟨(hf b hb).2.2.2.1,(hf b hb).2.1,(hf b hb).2.2.2.2.1,(hf b hb).2.2.2.2.2⟩
variable{elt iter tg:Expr}{ifs:List Expr}{pos:Pos}
def nU(X Y:Cx)(tg elt:Expr)(ifs:List Expr)(J:It)(D:Addr)(σ':St)(H:Hp)(Q:Hp->Prop):Prop:=
 ∃W:Nat->Nat->St->Hp->Prop,(∃m,W 0 m σ' (upd H D (.lst [])))/\∀i m τ H,W i m τ H->
  (J.stop i H/\Q H)\/(J.go i H/\∃N:St->Hp->Prop,(∀τ' H',N τ' H'->∃m',m'<m/\W (i+1) m' τ' H')/\∀x H',J.yld i H x H'->
   EG Y tg x τ H' λτ2 H2=>abT Y ifs τ2 H2 λk H3=>if k=true then EV Y elt τ2 H3 λy H4=>∃xs,H4 D=some (.lst xs)/\xs.length<sizeLine/\N τ2 (upd H4 D (.lst (xs++[y])))else N τ2 H3)
theorem GX{R:Value->Addr->Result->Shared->Prop}{it:Addr}{tn:Nat->Heap->Prop}{J:It}{E:Value->Shared->Prop}{Q:Addr->Hp->Prop}(hc:X.calm=true)(S:dC X.env scope)(I:Inv X pins σ H s)
  (T:Turn X.prog X.w X.K tg J fp it tn) (st:tn 0 s.heap) (hf:∀b∈fp,kW X pins H b)
  (h:∀(D C:Addr) (s3:Shared),H D=none->nU X (Ci X N' scope (cj scope X.env) C s3 (upd H D (.lst [])) fp) tg elt ifs J D (gr N' X.N σ scope) H (Q D))
  (hR:∀(D C:Addr) (H':Hp) (s':Shared),H D=none->Q D H'->Inv X pins σ H' s'->kW X pins H' C->(∃m,s'.heap.Ns C m)->R (.ref D) C (.ok .next) s'):
  wpAny (model X.prog X.w) X.A (newList []) (λacc s₃=>wpAny (model X.prog X.w) X.A (newFunctionEnv scope X.env.globals (cj scope X.env) [] X.env.qual none .none (some X.env)) (λcenv s₄=>
   codeAny (model X.prog X.w) X.A (.compStart (.ListComp elt [⟨tg,iter,ifs,0⟩] scope pos) 0 (.ref it) acc {cenv with scope:=relabel scope X.env}) (R acc cenv.locals) s₄) E s₃) E s:=by
 refine wpAny_newObj_type ?_
 have hD:H s.heap.objs.size=none:=I.hok.fresh (Nat.le_refl _)
 generalize hs3:({s with heap:=s.heap.push {cls:=.type "list",dict:=none,data:=.seq ([]:List Value).toArray}}:Shared)=s3
 have I3:Inv X pins σ (upd H s.heap.objs.size (.lst [])) s3:=by
  subst hs3
  exact I.laid (t':=s.toks) (λb u e=>Heap.get?_push_of_some _ e) (Nat.le_refl _) ⟨Nat.zero_le _,[],0,.nil,Heap.get?_push_size _ rfl⟩
 have hsz:s3.heap.objs.size=s.heap.objs.size+1:=by subst hs3;exact Heap.size_push ..
 have old3:∀b o,s.heap.get? b=some o->s3.heap.get? b=some o:=λb o e=>by subst hs3;exact Heap.get?_push_of_some _ e
 have fpl:∀b∈fp,b<s.heap.objs.size:=λb hb=>by
  obtain⟨o,e,_⟩:=T.obj _ _ st b hb
  exact Heap.lt_size e
 have Vc:∀b∈fp,kW X pins (upd H s.heap.objs.size (.lst [])) b:=λb hb=>⟨by rw[az (Nat.ne_of_lt (fpl b hb))];exact(hf b hb).1,(hf b hb).2⟩
 have st3:tn 0 s3.heap:=T.keep _ _ _ st λb _ o e=>old3 b o e
 have Rh:∀b∈fp,b<s3.heap.objs.size:=λb hb=>by rw[hsz];exact Nat.lt_succ_of_lt (fpl b hb)
 refine wpAny_newFunctionEnv S.cell (by intro y hy;simp at hy) (λh₁ hns hsb=>?_) S.kind
 have TX:∀b o,s3.heap.get? b=some o->h₁.get? b=some o:=λb o e=>hsb.extBut b o (Nat.ne_of_lt (Heap.lt_size e)) (Heap.get?_push_of_some _ e)
 generalize hY:Ci X N' scope (cj scope X.env) s3.heap.objs.size s3 (upd H s.heap.objs.size (.lst [])) fp=Y
 have hT:=h s.heap.objs.size s3.heap.objs.size s3 hD
 rw[hY]at hT
 obtain⟨W,⟨m0,w0⟩,turn⟩:=hT
 generalize hs4:({s3 with heap:=h₁,toks:=s3.toks+([]:List (Str×Value)).length}:Shared)=s4
 have I4:Inv Y [] (gr N' X.N σ scope) (upd H s.heap.objs.size (.lst [])) s4:=by
  subst hs4
  rw[<-hY]
  exact Mi S I3 Vc Rh hns TX
 have st4:tn 0 s4.heap:=by
  subst hs4
  exact T.keep _ _ _ st3 λb _ o e=>TX b o e
 have hP:Y.prog=X.prog:=by rw[<-hY];rfl
 have hw:Y.w=X.w:=by rw[<-hY];rfl
 have hK:Y.K=X.K:=by rw[<-hY];rfl
 have hA:Y.A=X.A:=by rw[<-hY];rfl
 have hcY:Y.calm=true:=by rw[<-hY];exact hc
 have hE:Y.xe=λ_ _=>False:=by rw[<-hY];rfl
 have hen:Y.env=compEnvC scope (cj scope X.env) s3.heap.objs.size X.env:=by rw[<-hY];rfl
 have hloc:Y.env.locals=s3.heap.objs.size:=by rw[hen];rfl
 have fpY:∀b∈fp,∀H':Hp,H' b=none->kW Y [] H' b:=λb hb H' e=>by
  rw[<-hY]
  refine⟨e,Nat.ne_of_lt (Rh b hb),λz=>?_,.inl hb,λx c q=>(Vc b hb).2.2.2.2.1 x c (S.cl I3 q),λp hp=>absurd (show p∈([]:List (Addr×Obj))from hp) (by simp)⟩
  rcases List.mem_cons.mp (I3.stkSub b z)with e |e
  .exact(hf b hb).2.1 e
  .exact(hf b hb).2.2.1 e
 have loop:codeAny (model X.prog X.w) X.A (.compLoop (.ListComp elt [⟨tg,iter,ifs,0⟩] scope pos) 0 (.ref it) (.ref s.heap.objs.size) Y.env) (R (.ref s.heap.objs.size) s3.heap.objs.size) s4:=by
  refine Dy (λn s'=>∃i τ H',Inv Y [] τ H' s'/\tn i s'.heap/\(∀b∈fp,H' b=none)/\W i n τ H') ?_ m0 ⟨0,_,_,I4,st4,λb hb=>(Vc b hb).1,w0⟩
  rintro n s5 ⟨i,τ,H5,I5,st5,fr5,w5⟩
  have toF:∀{α:Type} {t:Sem α} {Q:α->Shared->Prop} {s:Shared},wpAny (model Y.prog Y.w) Y.A t Q Y.xe s->wpAny (model X.prog X.w) X.A t Q (λ_ _=>False) s:=λh=>by
   rw[hP,hw,hA,hE]at h;exact h
  rcases turn i n τ H5 w5 with⟨stop,qn⟩ |⟨go,N,hN,step⟩
  .have q:=T.done Y hP hw hK hcY i [] s5 τ H5 (λ_ _=>False) I5 (λb hb=>fpY b hb _ (fr5 b hb)) st5 stop
   rw[hA]at q
   refine cR q λr s6 ⟨hr,I6⟩=>?_
   subst hr
   have IX6:Inv X pins σ H5 s6:=by
    have I6':=I6
    rw[<-hY]at I6'
    exact MK I3 Vc I6'
   refine hR _ _ H5 s6 hD qn IX6 (I3.fpOk (Nat.le_refl _) ?_) ?_
   .have :=I6.free
    rw[hloc]at this
    exact this
   .obtain⟨m,hn,_⟩:=I6.loc
    rw[hloc]at hn
    exact⟨m,hn⟩
  .have q:=T.item Y hP hw hK hcY i [] s5 τ H5 (λ_ _=>False) I5 (λb hb=>fpY b hb _ (fr5 b hb)) st5 go
   rw[hA]at q
   refine cR q λr s6 ⟨u,hr,h6⟩=>?_
   subst hr
   refine cR h6 λ_ s7 ⟨x,H7,I7,r7,y7,st7,fr7⟩=>?_
   have I7':=I7.pinned (λb hb=>fpY b hb _ (fr7 b hb)) (T.obj _ _ st7)
   have Sh:∀{τ':St} {H8:Hp} {s8:Shared},Inv Y ([]++uR fp s7.heap) τ' H8 s8->tn (i+1) s8.heap/\∀b∈fp,H8 b=none:=λ{τ' H8 s8} I8=>by
    refine⟨T.keep _ _ _ st7 λb hb o e=>(I8.pin (b,o) (List.mem_append_right _ (List.mem_append_right _ (iD hb e)))).1,λb hb=>?_⟩
    obtain⟨o,e,d⟩:=T.obj _ _ st7 b hb
    exact(I8.pin (b,o) (List.mem_append_right _ (List.mem_append_right _ (iD hb e)))).2.1
   refine toF (cR (step x H7 y7 _ s7 u I7' r7) λ_ s8 ⟨τ8,H8,I8,q8⟩=>?_)
   refine toF (cR (q8 _ s8 I8) λok s9 ⟨H9,I9,q9⟩=>?_)
   cases ok with
   |false=>
    have Zr:N τ8 H9:=by simpa using q9
    obtain⟨m',hm,w9⟩:=hN _ _ Zr
    obtain⟨k1,k2⟩:=Sh I9
    show ∃m,_
    exact⟨m',hm,i+1,τ8,H9,I9.unpinned,k1,k2,w9⟩
   |true=>
    have Zr:EV Y elt τ8 H9 λy H4=>∃xs,H4 s.heap.objs.size=some (.lst xs)/\xs.length<sizeLine/\N τ8 (upd H4 s.heap.objs.size (.lst (xs++[y]))):=by simpa using q9
    show wpAny _ _ _ _ _ _
    refine toF (cR (Zr _ s9 I9) λz s10 ⟨y,H10,I10,r10,xs,e10,l10,n10⟩=>?_)
    refine toF (cR (gK _ s10 τ8 H10 (.ref s.heap.objs.size) [y] _ [z] (λv H11=>v= .non/\H11=upd H10 s.heap.objs.size (.lst (xs++[y]))) I10 rfl (.cons r10 .nil) ⟨_,xs,y,rfl,rfl,e10,l10,rfl,rfl⟩) λ_ s11 ⟨_,H11,I11,_,_,e11⟩=>?_)
    subst e11
    obtain⟨m',hm,w11⟩:=hN _ _ n10
    obtain⟨k1,k2⟩:=Sh I11
    exact⟨m',hm,i+1,τ8,_,I11.unpinned,k1,k2,w11⟩
 rw[hen]at loop
 exact codeAny_compStart_list loop (T.self X.A 0 s4 _ _ st4 loop)
theorem tL{Q:VK}(hc:X.calm=true)(S:dC X.env scope)(hs:∀x,foldedSetIterable iter X.env x=pure x)
  (h:EI X tg iter σ H λJ H1=>∀(fp:List Addr) (D C:Addr) (s3:Shared),H1 D=none->nU X (Ci X N' scope (cj scope X.env) C s3 (upd H1 D (.lst [])) fp) tg elt ifs J D (gr N' X.N σ scope) H1 (λH'=>Q (.ref D) H')):
  EV X (.ListComp elt [⟨tg,iter,ifs,0⟩] scope pos) σ H Q:=by
 intro pins s I
 rw[eval_ListComp]
 refine wpAny_comprehension_free (use:=none) rfl hs (rH (S.has I)) S.kind S.loc (cR (h pins s I) λv s1 h1=>cR h1 λitv s2 h2=>?_)
 obtain⟨it,fp,tn,J,H2,e,I2,T,st2,f2,q2⟩:=h2
 subst e
 refine GX (R:=λacc C=>compPost (model X.prog X.w) X.A X.xe none (EP X pins σ Q) acc C) (Q:=λD H'=>Q (.ref D) H') hc S I2 T st2 f2 (λD C s3 hD=>q2 fp D C s3 hD) λD C H' s' hD qD IX fC hn=>?_
 obtain⟨m,hn⟩:=hn
 obtain⟨f0,f1,f2',f3,f4,f5⟩:=fC
 exact⟨m,hn,λh' hsb=>⟨.ref D,H',IX.turned (t':=s'.toks) (λb o hb e=>hsb.extBut b o hb e) f0 f1 f3 f4 f5,rfl,qD⟩⟩
theorem Ln{D:Ends}{y:Str}{py spos:Pos}{j:Nat}(hsw:swapsWith (.ListComp elt [⟨tg,iter,ifs,0⟩] scope pos) (some (.Name y py)) spos.line X.env=pure true)(hc:X.calm=true)(S:dC X.env scope)(hs:∀x,foldedSetIterable iter X.env x=pure x)
  (hN:X.N.Nodup) (hi:nameAt X.N y=some j) (hx:X.env.scope.names.lookup y=some .local)
  (h:EI X tg iter σ H λJ H1=>∀(fp:List Addr) (E C:Addr) (s3:Shared),H1 E=none->nU X (Ci X N' scope (cj scope X.env) C s3 (upd H1 E (.lst [])) fp) tg elt ifs J E (gr N' X.N σ scope) H1 (λH'=>D.nx (σ.set j (some (.ref E))) H')):
  SX X (.Assign [.Name y py] (.ListComp elt [⟨tg,iter,ifs,0⟩] scope pos) spos) D σ H:=by
 intro pins s I
 rw[exec_Assign_Name_used _ _ _ _ hsw]
 refine wpAny_bind (wpAny_standAt (wpAny_bind ?_))
 show wpAny _ X.A (do let _<-comprehension (.ListComp elt [⟨tg,iter,ifs,0⟩] scope pos) scope X.env _ (newList []) false (eval iter X.env) (some (assign (.Name y py) X.env))) _ _ s
 refine wpAny_bind (wpAny_mono (wpAny_comprehension_free (use:=some (assign (.Name y py) X.env)) (Q:=λ_ s'=>SP X pins D .next s') rfl hs (rH (S.has I)) S.kind S.loc
  (cR (h pins s I) λv s1 h1=>cR h1 λitv s2 h2=>?_)) (λ_ s' hq=>wpAny_pure (wpAny_pure hq)) λ_ _ e=>e)
 obtain⟨it,fp,tn,J,H2,e,I2,T,st2,f2,q2⟩:=h2
 subst e
 refine GX (R:=λacc C=>compPost (model X.prog X.w) X.A X.xe (some (assign (.Name y py) X.env)) (λ_ s'=>SP X pins D .next s') acc C) (Q:=λE H'=>D.nx (σ.set j (some (.ref E))) H') hc S I2 T st2 f2 (λE C s3 hD=>q2 fp E C s3 hD) λE C H' s' hD qD IX fC hn=>?_
 obtain⟨m,hn⟩:=hn
 obtain⟨f0,f1,f2',f3,f4,f5⟩:=fC
 show wpAny _ _ (assign (.Name y py) X.env (.ref E)) _ _ _
 refine wpAny_assign_Name (vN IX hN (jR hi) (.inl hx) (v:=.ref E) rfl (λs'' I'' hb=>?_) (.inr hx))
 obtain⟨a,sb,ha⟩:=hb
 have hCa:C≠a:=by
  rcases ha with ha |ha
  .rw[ha];exact f1
  .intro z
   exact f4 y a ha z.symm
 refine⟨m,hn.sameBut sb hCa,λh' hsb=>⟨σ.set j (some (.ref E)),H',I''.turned (t':=s''.toks) (λb o hb e=>hsb.extBut b o hb e) f0 f1 f3 f4 f5,qD⟩⟩
theorem yD{Q:Bool->Hp->Prop}(q:Q true H):abT X [] σ H Q:=λpins s I=>by
 rw[List.forIn_nil]
 exact wpAny_pure ⟨H,I,q⟩
theorem Rn{c:Expr}{Q:Bool->Hp->Prop}(h:ET X c σ H Q):abT X [c] σ H Q:=λpins s I=>by
 rw[List.forIn_cons]
 simp only[if_true]
 refine wpAny_bind (wpAny_bind (cR (h pins s I) λk s1 q=>wpAny_pure ?_))
 dsimp only
 rw[List.forIn_nil]
 exact wpAny_pure q
end
theorem gm{c A B:Prop} [Decidable c](h1:c->A)(h2:¬c->B):if decide c=true then A else B:=by
 by_cases h:c
 .rw[if_pos (decide_eq_true h)];exact h1 h
 .rw[if_neg (by simpa using h)];exact h2 h
theorem Hg{c A B:Prop} [Decidable c](h1:¬c->A)(h2:c->B):if(!decide c)=true then A else B:=by
 by_cases h:c
 .rw[if_neg (by simp[h])];exact h2 h
 .rw[if_pos (by simp[h])];exact h1 h
theorem ifB{k:Bool}{A B:Prop}(h1:k=true->A)(h2:k=false->B):if k=true then A else B:=by
 cases k with
 |true=>rw[if_pos rfl];exact h1 rfl
 |false=>rw[if_neg Bool.false_ne_true];exact h2 rfl
theorem ajl{A B:Prop}(h:B):if(!true)=true then A else B:=by rw[if_neg (by decide)];exact h
theorem aiC{A B:Prop}(h:A):if(!false)=true then A else B:=by rw[if_pos (by decide)];exact h
theorem ao.upd{H:Hp}{p:Addr}{o:HO}(h:H p=none):ao H (L2.upd H p o):=λb u e=>by rw[az (au e h)];exact e
section
variable{X:Cx}{a e:Expr}{σ:St}{H:Hp}{Q:VK}{D:Ends}{pos p p':Pos}
theorem pI{tg:Expr}{body:List Stmt}(hp:PassesOwn (model X.prog X.w) X.A X.env X.xe)(hc:X.calm=true)(hg:Gl X "range")(hm:X.mg "range"=none)(hs:starEach [a] X.env=[(false,eval a X.env)])
  (h:EV X a σ H λv H1=>∃n:Int,v= .int n/\ -(2^62)≤n/\n<2^62/\∃Pv:Nat->St->Hp->Prop,Pv 0 σ H1/\
   (∀i σ' H',i<n.toNat->Pv i σ' H'->EG X tg (.int i) σ' H' λσ2 H2=>lz X body {D with nx:=Pv (i+1),ct:=Pv (i+1),bk:=D.nx} σ2 H2)/\∀σ' H',Pv n.toNat σ' H'->D.nx σ' H'):
  SX X (.For tg (.Call (.Name "range" p) [a] [] p') body [] pos) D σ H:=by
 refine vG hp hc (by intro _;rfl) (vX hg hm hs (iI hs (bJ h λv H1 q=>?_)))
 obtain⟨n,rfl,h1,h2,Pv,h0,hst,hd⟩:=q
 refine kZ ⟨n,rfl,h1,h2,?_⟩
 exact Og (g:=EG X tg) (tb:=lz X body) Pv h0 (λi σ' H' hi hP=>by rw[Int.zero_add];exact hst i σ' H' hi hP) hd
theorem FN{tg:Expr}{body:List Stmt}(hp:PassesOwn (model X.prog X.w) X.A X.env X.xe)(hc:X.calm=true)(hs:∀x,foldedSetIterable e X.env x=pure x)
  (h:EV X e σ H λv H1=>∃q xs,v= .ref q/\bc X.K H1 q xs/\∃Pv:Nat->St->Hp->Prop,Pv 0 σ H1/\(∀i σ' H',i≤xs.length->Pv i σ' H'->bc X.K H' q xs)/\
   (∀i x σ' H',xs[i]? =some x->Pv i σ' H'->EG X tg x σ' H' λσ2 H2=>lz X body {D with nx:=Pv (i+1),ct:=Pv (i+1),bk:=D.nx} σ2 H2)/\∀σ' H',Pv xs.length σ' H'->D.nx σ' H'):
  SX X (.For tg e body [] pos) D σ H:=by
 refine vG hp hc hs (sW (bJ h λv H1 q=>?_))
 obtain⟨q,xs,rfl,hq,Pv,h0,hl,hst,hd⟩:=q
 exact⟨q,rfl,⟨xs,hq⟩,Ra (g:=EG X tg) (tb:=lz X body) Pv h0 hl hst hd⟩
theorem V3{tg:Expr}{body:List Stmt}(hp:PassesOwn (model X.prog X.w) X.A X.env X.xe)(hc:X.calm=true)(hs:∀x,foldedSetIterable e X.env x=pure x)
  (h:EV X e σ H λv H1=>∃z:Str,v= .str z/\∃Pv:Nat->St->Hp->Prop,Pv 0 σ H1/\
   (∀i c σ' H',z.cps.toList[i]? =some c->Pv i σ' H'->EG X tg (.str ⟨#[c]⟩) σ' H' λσ2 H2=>lz X body {D with nx:=Pv (i+1),ct:=Pv (i+1),bk:=D.nx} σ2 H2)/\∀σ' H',Pv z.cps.toList.length σ' H'->D.nx σ' H'):
  SX X (.For tg e body [] pos) D σ H:=by
 refine vG hp hc hs (Ru (bJ h λv H1 q=>?_))
 obtain⟨z,rfl,Pv,h0,hst,hd⟩:=q
 refine⟨z,rfl,λi m σ H=>m=z.cps.size-i/\i≤z.cps.size/\Pv i σ H,⟨z.cps.size,by simp,Nat.zero_le _,h0⟩,?_⟩
 rintro i m σ' H' ⟨rfl,hi,p⟩
 by_cases hlt:i<z.cps.size
 .refine .inr ⟨hlt,Pv (i+1),λσ2 H2 p2=>⟨z.cps.size-(i+1),by omega,rfl,hlt,p2⟩,λx H2 y=>?_⟩
  obtain⟨e1,c,e2,e3⟩:=y
  subst e1 e3
  exact hst i c σ' _ (by simpa using e2) p
 .have e:i=z.cps.size:=by omega
  subst e
  exact .inl ⟨Nat.le_refl _,hd σ' H' (by simpa using p)⟩
theorem Bp{Y:Cx}{elt:Expr}{J:It}{E:Addr}{τ0:St}{Q:Hp->Prop}{y:Str}{py:Pos}{j:Nat}(hN:Y.N.Nodup)(hj:nameAt Y.N y=some j)(hx:Y.env.scope.names.lookup y=some .local)
  (n:Nat) (hn:n≤sizeLine) (Pi:Nat->V->Prop) (It:Nat->V->Prop) (hE:H E=none)
  (go:∀i H1,ao (upd H E (.lst [])) (upd H1 E (.lst []))->i<n->J.go i H1) (stop:∀H1,ao (upd H E (.lst [])) (upd H1 E (.lst []))->J.stop n H1)
  (yld:∀i H1 x H2,i<n->ao (upd H E (.lst [])) (upd H1 E (.lst []))->J.yld i H1 x H2->It i x/\H2=H1)
  (step:∀i x H1,i<n->It i x->ao H H1->EV Y elt (τ0.set j (some x)) H1 λv H2=>Pi i v/\ao H1 H2)
  (fin:∀H1 xs,xs.length=n->(∀i v,xs[i]? =some v->Pi i v)->H1 E=some (.lst xs)->ao H H1->Q H1):nU X Y (.Name y py) elt [] J E τ0 H Q:=by
 have sU:∀{H1:Hp},ao H H1->ao (upd H E (.lst [])) (upd H1 E (.lst [])):=λ{H1} s b o e=>by
  by_cases hb:b=E
  .subst hb;rw[ak]at e⊢;exact e
  .rw[az hb]at e⊢;exact s b o e
 refine⟨λi m τ H1=>m=n-i/\i≤n/\ao H H1/\(τ=τ0\/∃x,τ=τ0.set j (some x))/\∃xs,H1 E=some (.lst xs)/\xs.length=i/\∀k v,xs[k]? =some v->Pi k v,⟨n,by simp,Nat.zero_le _,ao.upd hE,.inl rfl,[],ak,rfl,λk v e=>by simp at e⟩,?_⟩
 rintro i m τ H1 ⟨rfl,hi,s1,hτ,xs,eE,lx,px⟩
 by_cases hlt:i<n
 .refine .inr ⟨go i H1 (sU s1) hlt,λτ' H'=>ao H H'/\(τ'=τ0\/∃x,τ'=τ0.set j (some x))/\∃xs,H' E=some (.lst xs)/\xs.length=i+1/\∀k v,xs[k]? =some v->Pi k v,λτ' H' ⟨a,b,c⟩=>⟨n-(i+1),by omega,rfl,hlt,a,b,c⟩,λx H2 y=>?_⟩
  obtain⟨hI,e2⟩:=yld i H1 x H2 hlt (sU s1) y
  subst e2
  refine aJ hN hj (.inl hx) (.inr hx) (yD ?_)
  rw[if_pos rfl]
  have eτ:τ.set j (some x)=τ0.set j (some x):=by
   rcases hτ with e |⟨z,e⟩
   .rw[e]
   .rw[e,List.set_set]
  rw[eτ]
  refine bJ (step i x H2 hlt hI s1) λv H3 ⟨pv,s2⟩=>⟨xs,s2 _ _ eE,by omega,?_⟩
  refine⟨λb o e=>?_,.inr ⟨x,rfl⟩,xs++[v],ak,by simp[lx],λk u e=>?_⟩
  .rw[az (au e hE)]
   exact s2 _ _ (s1 _ _ e)
  .by_cases hk:k<xs.length
   .rw[List.getElem?_append_left hk]at e
    exact px k u e
   .have hk2:k=i:=by
     have :=(List.getElem?_eq_some_iff.mp e).1
     rw[List.length_append,List.length_singleton]at this
     omega
    subst hk2
    rw[<-lx,List.getElem?_concat_length]at e
    cases e
    exact pv
 .have e:i=n:=by omega
  subst e
  exact .inl ⟨stop H1 (sU s1),fin H1 xs lx px eE s1⟩
theorem zM{elt:Expr}{scope:Scope}{y:Str}{py:Pos}{j:Nat}(N':List Str){σ':St}(hσ:gr N' X.N σ scope=σ')(hc:X.calm=true)(S:dC X.env scope)(hN:N'.Nodup)(hj:nameAt N' y=some j)(hx:scope.names.lookup y=some .local)
  (hg:Gl X "range") (hm:X.mg "range"=none) (hs:starEach [a] X.env=[(false,eval a X.env)])
  (h:EV X a σ H λv H1=>∃n:Int,v= .int n/\ -(2^62)≤n/\n.toNat≤sizeLine/\∃Pi:Nat->V->Prop,
   (∀(fp:List Addr) (E C:Addr) (s3:Shared) (H0:Hp) (i:Nat) (H2:Hp),i<n.toNat->ao H1 H2->EV (Ci X N' scope (cj scope X.env) C s3 H0 fp) elt (σ'.set j (some (.int i))) H2 λv H3=>Pi i v/\ao H2 H3)/\
   ∀(E:Addr) (H2:Hp) (xs:List V),H1 E=none->xs.length=n.toNat->(∀i v,xs[i]? =some v->Pi i v)->H2 E=some (.lst xs)->ao H1 H2->Q (.ref E) H2):
  EV X (.ListComp elt [⟨.Name y py,.Call (.Name "range" p) [a] [] p',[],0⟩] scope pos) σ H Q:=by
 refine tL (N':=N') hc S (by intro _;rfl) (vX hg hm hs (iI hs (bJ h λv H1 q=>?_)))
 obtain⟨n,rfl,h1,h2,Pi,hst,hfin⟩:=q
 have hsz:(sizeLine:Nat)<2^62:=by rw[sizeLine_eq];decide
 refine kZ ⟨n,rfl,h1,by omega,λfp E C s3 hE=>?_⟩
 rw[hσ]
 refine Bp (Y:=Ci X N' scope (cj scope X.env) C s3 (upd H1 E (.lst [])) fp) hN hj (lookup_relabel_local hx) n.toNat h2 Pi (λi x=>x= .int i) hE (λi _ _ hi=>hi) (λ_ _=>Nat.le_refl _) (λi H1 x H2 _ _ yl=>?_) (λi x H2 hi ex s=>?_) (λH2 xs l px eE s=>hfin E H2 xs hE l px eE s)
 .obtain⟨e1,e2⟩:=yl
  exact⟨by rw[e2,Int.zero_add],e1⟩
 .subst ex
  exact hst fp E C s3 _ i H2 hi s
theorem U3{elt:Expr}{scope:Scope}{y:Str}{py:Pos}{j:Nat}(N':List Str){σ':St}(hσ:gr N' X.N σ scope=σ')(hc:X.calm=true)(S:dC X.env scope)(hN:N'.Nodup)(hj:nameAt N' y=some j)(hx:scope.names.lookup y=some .local)
  (hs:∀x,foldedSetIterable e X.env x=pure x)
  (h:EV X e σ H λv H1=>∃z:Str,v= .str z/\z.cps.size≤sizeLine/\∃Pi:Nat->V->Prop,
   (∀(fp:List Addr) (E C:Addr) (s3:Shared) (H0:Hp) (i c:Nat) (H2:Hp),z.cps.toList[i]? =some c->ao H1 H2->EV (Ci X N' scope (cj scope X.env) C s3 H0 fp) elt (σ'.set j (some (.str ⟨#[c]⟩))) H2 λv H3=>Pi i v/\ao H2 H3)/\
   ∀(E:Addr) (H2:Hp) (xs:List V),H1 E=none->xs.length=z.cps.size->(∀i v,xs[i]? =some v->Pi i v)->H2 E=some (.lst xs)->ao H1 H2->Q (.ref E) H2):
  EV X (.ListComp elt [⟨.Name y py,e,[],0⟩] scope pos) σ H Q:=by
 refine tL (N':=N') hc S hs (Ru (bJ h λv H1 q=>?_))
 obtain⟨z,rfl,h2,Pi,hst,hfin⟩:=q
 refine⟨z,rfl,λfp E C s3 hE=>?_⟩
 rw[hσ]
 refine Bp (Y:=Ci X N' scope (cj scope X.env) C s3 (upd H1 E (.lst [])) fp) hN hj (lookup_relabel_local hx) z.cps.size h2 Pi (λi x=>∃c,z.cps.toList[i]? =some c/\x= .str ⟨#[c]⟩) hE (λi _ _ hi=>hi) (λ_ _=>Nat.le_refl _) (λi H1 x H2 _ _ yl=>?_) (λi x H2 hi ex s=>?_) (λH2 xs l px eE s=>hfin E H2 xs hE l px eE s)
 .obtain⟨e1,c,e2,e3⟩:=yl
  exact⟨⟨c,by simpa using e2,e3⟩,e1⟩
 .obtain⟨c,e1,e2⟩:=ex
  subst e2
  exact hst fp E C s3 _ i c H2 e1 s
end
section
variable{P:Program}{w:World}{K:W.Frag}{mg:Str->Option Value}{base:Heap}{cc:Bool}
abbrev w6(cc:Bool)(P:Program)(w:World)(K:W.Frag)(mg:Str->Option Value)(base:Heap)(N:List Str)(qual:Str)(scope:Scope)(f:Addr)(cd:Value)(A:Around)(outer:List Env)(s:Shared)(H:Hp)(E:XK):Cx:=
 Hr cc (Dd P w) P w K mg base N qual scope f cd A outer s H E
theorem MP{x qual:Str}{st:Stmt}{ps N:List Str}{k:Nat}{sp:Sp}{f:Addr}{fd:FuncData}(F:gj K x qual st f fd)(S:aK N ps (aa st))
  (len:∀vs H Q E,sp vs H Q E->vs.length=ps.length)
  (body:∀(cdv:Value) (A:Around) (outer:List Env) (s:Shared) (H:Hp) (vs:List V) (Q:VK) (E:XK),dZ cc k (A.deeper (envOfC qual (aa st) s.heap.objs.size f cdv))->sp vs H Q E->
   lz (w6 cc P w K mg base N qual (aa st) f cdv A outer s H E) (aq st) {nx:=λ_ H'=>Q .non H',rt:=Q} (start N vs) H):wk P w K mg base (Dd P w) cc (k+1) f fd ps sp:=by
 obtain⟨oc,od,kV,doc,pm,an,cdv,ct,osl,rfl,lk,hcd⟩:=id F.ex
 exact ahV lk hcd S len λA outer s H vs Q E hr h=>⟨_,nP,body cdv A outer s H vs Q E hr h⟩
theorem aX{x:Str}{st:Stmt}{ps N:List Str}{k:Nat}{sp:Sp}(F:∃f fd,gj K x x st f fd/\mg x=some (.ref f))(S:aK N ps (aa st))
  (hb:∀(kV doc pm:Value) (an:Option Addr) (cdv ct:Value) (us:List Value),us.length=ps.length->bindArgs (W.fnOf x x (aB st) (aq st) (aa st) .none kV doc pm an cdv ct) ⟨us,[]⟩=pure (ps.zip us))
  (len:∀vs H Q E,sp vs H Q E->vs.length=ps.length)
  (body:∀(f:Addr) (cdv:Value) (A:Around) (outer:List Env) (s:Shared) (H:Hp) (vs:List V) (Q:VK) (E:XK),dZ cc k (A.deeper (envOfC x (aa st) s.heap.objs.size f cdv))->sp vs H Q E->
   lz (w6 cc P w K mg base N x (aa st) f cdv A outer s H E) (aq st) {nx:=λ_ H'=>Q .non H',rt:=Q} (start N vs) H):Def P w K mg base cc (k+1) x ps sp:=by
 obtain⟨f,fd,F,hm⟩:=F
 exact⟨f,fd,hm,F.kp,F.binds hb,MP F S len λcdv A outer s H vs Q E hr h=>body f cdv A outer s H vs Q E hr h⟩
end
def YC(K:W.Frag):Sp:=λvs H Q _=>∃(a:Addr) (ns:List Int),vs=[.ref a]/\bc K H a (ns.map V.int)/\ns.length≤63/\∀H',Q (.bl true) H'
def bV(z:Str)(lo hi:Option Int):Str:=⟨((z.cps.toList.drop (HT.dI z.length 0 lo)).take (HT.dI z.length z.length hi-HT.dI z.length 0 lo)).toArray⟩
theorem tH(n d:Nat)(v:Int):max 0 (min (if v<0 then v+(n:Int)else v) (n:Int))=((HT.dI n d (some v):Nat):Int):=by
 rw[<-HT.FJ]
 split <;>omega
theorem Yy(lo hi:Option Int)(n:Nat):Builtin.Str.strSliceIndices lo hi 1 n=(List.range (HT.dI n n hi-HT.dI n 0 lo)).map (λm=>HT.dI n 0 lo+m):=by
 have e:Builtin.Str.strSliceIndices lo hi 1 n=sliceRange ((HT.dI n 0 lo:Nat):Int) ((HT.dI n n hi:Nat):Int) 1:=by
  cases lo with
  |none=>
   cases hi with
   |none=>rfl
   |some v=>rw[<-tH n n v];rfl
  |some u=>
   cases hi with
   |none=>rw[<-tH n 0 u];rfl
   |some v=>rw[<-tH n 0 u, <-tH n n v];rfl
 rw[e]
 generalize HT.dI n 0 lo=a
 generalize HT.dI n n hi=b
 by_cases h:a≤b
 .have :=StrLaws.strSliceIndices_plain (len:=b) h (Nat.le_refl b)
  rw[<-this]
  have e2:Builtin.Str.strSliceIndices (some (a:Int)) (some (b:Int)) 1 b=sliceRange (a:Int) (b:Int) 1:=by
   have h1:¬((a:Int)<0):=by omega
   have h2:¬((b:Int)<0):=by omega
   have e1:max (0:Int) (min (a:Int) (b:Int))=a:=by omega
   have e2:max (0:Int) (min (b:Int) (b:Int))=b:=by omega
   simp only[Builtin.Str.strSliceIndices,h1,h2,if_false,e1,e2,show((1:Int)>0)=True from by simp,if_true]
  rw[e2]
 .have e3:b-a=0:=by omega
  rw[e3]
  have :¬((a:Int)<b):=by omega
  simp[sliceRange,this]
theorem Kp(z:Str)(lo hi:Option Int):(⟨((Builtin.Str.strSliceIndices lo hi 1 z.length).filterMap (z.cps[·]?)).toArray⟩:Str)=bV z lo hi:=by
 rw[Yy]
 unfold bV
 have h1:=HT.Kw z.length z.length (Nat.le_refl _) hi
 have hl:z.cps.toList.length=z.length:=by simp[Str.length]
 by_cases h:HT.dI z.length 0 lo≤HT.dI z.length z.length hi
 .have :=StrLaws.picks z.cps.toList (HT.dI z.length z.length hi-HT.dI z.length 0 lo) (HT.dI z.length 0 lo) (by omega)
  rw[<-this]
  simp
 .have e3:HT.dI z.length z.length hi-HT.dI z.length 0 lo=0:=by omega
  rw[e3]
  simp
theorem Cp{v:Value}{o:Option Int}(h:IsPart v o):∃l:Option (Int×Tok),v=partValue l/\l.map (·.1)=o:=by
 cases h with
 |none=>exact⟨none,rfl,rfl⟩
 |int i t=>exact⟨some (i,t),rfl,rfl⟩
theorem adq{X:Cx}:SlR X (λx lo hi H Q=>∃z,x= .str z/\z.length≤sizeLine/\Q (.str (bV z lo hi)) H):=by
 intro pins s σ H x v vl vu lo hi sl Q I rx hs pl pu h
 obtain⟨z,rfl,hz,q⟩:=h
 obtain⟨t,rfl⟩:=rx
 refine⟨"str",_,F.slot_str_getitem.lookup,typeIs_str s z t,?_⟩
 obtain⟨l,rfl,rfl⟩:=Cp pl
 obtain⟨u,rfl,rfl⟩:=Cp pu
 have hsl:s.heap.IsSlice sl l u none:=by
  obtain⟨o,ho,hc,hd⟩:=hs
  exact⟨o,ho,hc,hd⟩
 refine wpAny_getItem_str_slice hsl rfl ?_
 have e:(slicePicked z l u none)=Builtin.Str.strSliceIndices (l.map (·.1)) (u.map (·.1)) 1 z.length:=rfl
 unfold sliceMade
 have key:(⟨((slicePicked z l u none).filterMap (z.cps[·]?)).toArray⟩:Str)=bV z (l.map (·.1)) (u.map (·.1)):=by rw[e];exact Kp z _ _
 split
 .rename_i hh
  have hlen:(slicePicked z l u none).length=z.length:=by
   simp only[Bool.and_eq_true,beq_iff_eq]at hh
   exact hh.2
  have whole:bV z (l.map (·.1)) (u.map (·.1))=z:=by
   rw[e,Yy,List.length_map,List.length_range]at hlen
   have h1:=HT.Kw z.length z.length (Nat.le_refl _) (u.map (·.1))
   have hl:z.cps.toList.length=z.length:=by simp[Str.length]
   unfold bV
   by_cases hz0:z.length=0
   .have :z.cps.toList=[]:=List.eq_nil_of_length_eq_zero (by omega)
    rw[this]
    have e2:z.cps= #[]:=by
     have :=congrArg List.toArray this
     simpa using this
    obtain⟨c⟩:=z
    simp at e2
    subst e2
    simp
   .have ha:HT.dI z.length 0 (l.map (·.1))=0:=by omega
    have hb:HT.dI z.length z.length (u.map (·.1))=z.length:=by omega
    rw[ha,hb,List.drop_zero,Nat.sub_zero,List.take_of_length_le (by omega)]
  exact⟨.str (bV z (l.map (·.1)) (u.map (·.1))),H,I,⟨t,by rw[whole]⟩,q⟩
 .rw[key]
  refine⟨?_,.str (bV z (l.map (·.1)) (u.map (·.1))),H,I.tok _,⟨_,rfl⟩,q⟩
  have :(bV z (l.map (·.1)) (u.map (·.1))).length≤z.length:=by
   unfold bV Str.length
   simp
   omega
  omega
section
variable{X:Cx}{H:Hp}{Q:VK}{z y:Str}
theorem m7{lo hi:Option Int}(h:z.length≤sizeLine)(g:Q (.str (bV z lo hi)) H):SL X (.str z) lo hi H Q:=⟨_,adq,z,rfl,h,g⟩
theorem lH{id:String}{r:V->List V->Hp->VK->Prop}{x:V}{xs:List V}(h:MtR X id r)(q:r x xs H Q):MT X id x xs H Q:=⟨r,h,q⟩
theorem zW{ys:List Str}:∀{us:List Value},Vals (ys.map V.str) us->StrsAre us ys:=by
 induction ys with
 |nil=>intro us r;cases r;exact .nil
 |cons y ys ih=>
  intro us r
  cases r with
  |cons r rr=>
   obtain⟨t,rfl⟩:=r
   exact .cons y t (ih rr)
theorem oR{q:Addr}{ys:List Str}(h:bc X.K H q (ys.map V.str))(hw:(ys.map (·.length)).sum+ys.length*z.length≤16777216)(g:Q (.str (Str.join z ys)) H):MT X "str.join" (.str z) [.ref q] H Q:=by
 refine lH (r:=λx xs H Q=>∃z q ys,x= .str z/\xs=[.ref q]/\bc X.K H q (ys.map V.str)/\(ys.map (·.length)).sum+ys.length*z.length≤16777216/\Q (.str (Str.join z ys)) H) ?_ ⟨z,q,ys,rfl,rfl,h,hw,g⟩
 intro pins s σ H x xs v us Q I rx rs h
 obtain⟨z,q,ys,rfl,rfl,h,hw,g⟩:=h
 obtain⟨t,rfl⟩:=rx
 obtain⟨u,rfl,ru⟩:=vals1 rs
 cases(show u=Value.ref q from ru)
 obtain⟨its,rv,pl,_⟩:=I.list h
 refine join_list pl.isList (by simpa using zW rv) hw λt' k=>⟨.str (Str.join z ys),H,I.tok k,⟨t',?_⟩,g⟩
 have e:Txt.join z ys=Str.join z ys:=by
  unfold Txt.join
  cases ys with
  |nil=>rfl
  |cons y r=>exact StrLaws.glued_cons z r y
 rw[e]
theorem G6(g:Q (.bl (Txt.startswith z y)) H):MT X "str.startswith" (.str z) [.str y] H Q:=by
 refine lH (r:=λx xs H Q=>∃z y,x= .str z/\xs=[.str y]/\Q (.bl (Txt.startswith z y)) H) ?_ ⟨z,y,rfl,rfl,g⟩
 intro pins s σ H x xs v us Q I rx rs h
 obtain⟨z,y,rfl,rfl,g⟩:=h
 obtain⟨t,rfl⟩:=rx
 obtain⟨u,rfl,ru⟩:=vals1 rs
 obtain⟨t',rfl⟩:=ru
 exact SC.startswith ⟨.bl _,H,I,rfl,g⟩
theorem ajA{q:Addr}{bs:List Bool}(hc:X.calm=true)(h:bc X.K H q (bs.map V.bl))(g:Q (.bl (bs.all id)) H):CL X (.builtin "all") [.ref q] H Q:=by
 refine jG (r:=λxs H Q=>∃q bs,xs=[.ref q]/\bc X.K H q (bs.map V.bl)/\Q (.bl (bs.all id)) H) ?_ ⟨q,bs,rfl,h,g⟩
 intro pins s σ H xs us Q I r h
 obtain⟨q,bs,rfl,h,g⟩:=h
 obtain⟨u,rfl,ru⟩:=vals1 r
 cases(show u=Value.ref q from ru)
 obtain⟨its,rv,pl,hz⟩:=I.list h
 refine call_all_walk (wpAny_pyIter_list pl.isList ?_)
 have hq:q<s.heap.objs.size:=by
  obtain⟨o,ho,_⟩:=pl.isList
  exact Heap.lt_size ho
 have hlen:its.length=bs.length:=by have :=rv.length;rw[List.length_map]at this;exact this.symm
 refine⟨s.heap.objs.size,[s.heap.objs.size,q],[s.heap.objs.size],its.toArray.size,(λi v=>its.toArray[i]? =some v),(λi h=>h.IsListIter s.heap.objs.size q i/\h.IsList q its.toArray),λi=>bs.getD i true,rfl,Walks.list (A:=X.A.in1) (show X.A.in1.handled=none from I.ok.hd hc) s.heap.objs.size q (Nat.ne_of_lt hq) its.toArray,⟨⟨_,Heap.get?_push_size _ rfl,rfl,rfl⟩,?_⟩,?_,λh' tk hk=>?_⟩
 .obtain⟨o,ho,r⟩:=pl.isList
  exact⟨o,Heap.get?_push_of_some _ ho,r⟩
 .intro i v s Q E hv hq
  have hv':its[i]? =some v:=by simpa using hv
  have hi:i<bs.length:=by rw[<-hlen];exact(List.getElem?_eq_some_iff.mp hv').1
  obtain⟨u,e1,e2⟩:=rv.get (i:=i) (x:=V.bl bs[i]) (by simp[hi])
  rw[hv']at e1
  cases e1
  cases(show v=Value.bool bs[i]from e2)
  refine wpAny_truthy_bool ?_
  have :bs.getD i true=bs[i]:=by simp[hi]
  have hq':Q (bs.getD i true) s:=hq
  rw[this]at hq'
  exact hq'
 .have e:(List.range its.toArray.size).all (λi=>bs.getD i true)=bs.all id:=by
   rw[List.size_toArray,hlen,Bool.eq_iff_iff,List.all_eq_true,List.all_eq_true]
   constructor
   .intro h b hb
    obtain⟨i,hi,e⟩:=List.getElem_of_mem hb
    have :=h i (by simpa using hi)
    simpa [hi,e]using this
   .intro h i hi
    have hi':i<bs.length:=by simpa using hi
    have :=h bs[i] (List.getElem_mem hi')
    simpa [hi']using this
  rw[e]
  have fp:=I.fpOk (Nat.le_refl _) (I.hok.fresh (Nat.le_refl _))
  have I1:Inv X pins σ H {s with heap:=s.heap.push {cls:=.type "list_iterator",data:=.fields #[.ref q,.int 0 0]}}:=I.kept (t':=s.toks) λb o e=>Heap.get?_push_of_some _ e
  refine⟨.bl _,H,I1.turned (it:=s.heap.objs.size) (λb o hb e=>hk b o (by simpa using hb) e) (I.hok.fresh (Nat.le_refl _)) fp.2.1 fp.2.2.2.1 fp.2.2.2.2.1 fp.2.2.2.2.2,rfl,g⟩
end
theorem b7{env:Env}{scope:Scope}(sc:Scope)(hsc:env.scope=sc)(hk:scope.kind= .function)
  (h:(scope.names.all λy=>(if y.2== .free then(sc.names.lookup y.1==some .cell||sc.names.lookup y.1==some .free)else true)&&y.2 != .cell&&(if y.2== .local then scope.names.lookup y.1==some .local else true))=true):dC env scope:=by
 have h':=List.all_eq_true.mp h
 refine⟨hk,λy hy e=>?_,λy hy e=>?_,λy hy e=>?_⟩
 .have q:=h' y hy
  simp only[e,beq_self_eq_true,if_true,Bool.and_eq_true,Bool.or_eq_true,beq_iff_eq]at q
  show env.scope.names.lookup y.1=_\/env.scope.names.lookup y.1=_
  rw[hsc]
  exact q.1.1
 .have q:=h' y hy
  rw[e]at q
  simp at q
 .have q:=h' y hy
  simp only[e,Bool.and_eq_true,beq_iff_eq,beq_self_eq_true,if_true]at q
  exact q.2
theorem dw{α:Type}{xs:List V}{ys:List α}(f:α->V)(hl:xs.length=ys.length)(h:∀(i:Nat) v,xs[i]? =some v->∃c,ys[i]? =some c/\v=f c):xs=ys.map f:=by
 apply List.ext_getElem?
 intro i
 rw[List.getElem?_map]
 cases e:xs[i]? with
 |none=>
  have :xs.length≤i:=List.getElem?_eq_none_iff.mp e
  rw[List.getElem?_eq_none (by omega)]
  rfl
 |some v=>
  obtain⟨c,e1,e2⟩:=h i v e
  rw[e1,e2]
  rfl
section
variable{X:Cx}{H:Hp}{Q:VK}
theorem ap1(q:Q (.int 1000000000) H):OP X (binaryOp .Pow) (.int 10) (.int 9) H Q:=M7 ⟨by decide,by decide,by decide⟩ (show Q (.int (10^(9:Int).toNat)) H from(show(10:Int)^(9:Int).toNat=1000000000 from by decide)▸q)
theorem agS(q:Q (.int 100000000000000000) H):OP X (binaryOp .Pow) (.int 10) (.int 17) H Q:=M7 ⟨by decide,by decide,by decide⟩ (show Q (.int (10^(17:Int).toNat)) H from(show(10:Int)^(17:Int).toNat=100000000000000000 from by decide)▸q)
theorem agP(q:Q (.int 1000000000000000000) H):OP X (binaryOp .Pow) (.int 10) (.int 18) H Q:=M7 ⟨by decide,by decide,by decide⟩ (show Q (.int (10^(18:Int).toNat)) H from(show(10:Int)^(18:Int).toNat=1000000000000000000 from by decide)▸q)
end
def EJ(X:Cx)(vs:List Expr)(out:Str)(σ:St)(H:Hp)(Q:VK):Prop:=
 ∀(pins:List (Addr×Obj)) (s:Shared),Inv X pins σ H s->wpAny (model X.prog X.w) X.A (joinParts out (evalEach vs X.env)) (EP X pins σ Q) X.xe s
section
variable{X:Cx}{σ:St}{H:Hp}{Q:VK}{v v₁ v₂:Expr}{rest:List Expr}{pos:Pos}{out:Str}
theorem XH(h:EJ X (v₁::v₂::rest) Str.empty σ H Q):EV X (.JoinedStr (v₁::v₂::rest) pos) σ H Q:=λpins s I=>h pins s I
theorem abl(hl:out.length≤sizeLine)(q:Q (.str out) H):EJ X [] out σ H Q:=λpins s I=>joinParts_nil ⟨.str out,H,I.tok _,⟨_,rfl⟩,q⟩ hl
theorem Wk(h:EV X v σ H λx H1=>∃y,x= .str y/\(out++y).length≤sizeLine/\EJ X rest (out++y) σ H1 Q):EJ X (v::rest) out σ H Q:=λpins s I=>by
 refine joinParts_cons (cR (h pins s I) λu s1 ⟨x,H1,I1,r,y,e,hl,q⟩=>?_)
 subst e
 obtain⟨t,rfl⟩:=r
 exact⟨hl,q pins s1 I1⟩
theorem xU(h:EV X v σ H λx H1=>∃z,x= .str z/\z.length≤sizeLine/\Q (.str z) H1):EV X (.FormattedValue v (-1) none pos) σ H Q:=λpins s I=>by
 refine FormattedValue_plain (cR (h pins s I) λu s1 ⟨x,H1,I1,r,z,e,hl,q⟩=>?_)
 subst e
 obtain⟨t,rfl⟩:=r
 exact formatField_str (λt' tk=>⟨.str z,H1,I1.tok tk,⟨t',rfl⟩,q⟩) hl
theorem Xh(h:EV X v σ H λx H1=>∃i,x= .int i/\i.natAbs.log2<1920/\Q (.str (toString i)) H1):EV X (.FormattedValue v (-1) none pos) σ H Q:=λpins s I=>by
 refine FormattedValue_plain (cR (h pins s I) λu s1 ⟨x,H1,I1,r,z,e,hl,q⟩=>?_)
 subst e
 obtain⟨t,rfl⟩:=r
 exact formatField_int_small hl ⟨.str (toString z),H1,I1.tok _,⟨_,rfl⟩,q⟩
end
def EJL(X:Cx)(vs:List Expr)(n:Nat)(σ:St)(H:Hp)(R:Hp->Prop):Prop:=∀out:Str,out.length≤n->∀Q:VK,(∀z H',R H'->Q (.str z) H')->EJ X vs out σ H Q
theorem LR(x y:Str):(x++y).length=x.length+y.length:=by
 show(x.cps++y.cps).size=_
 rw[Array.size_append]
 rfl
section
variable{X:Cx}{σ:St}{H:Hp}{Q:VK}{R:Hp->Prop}{v v₁ v₂:Expr}{rest:List Expr}{pos:Pos}{n:Nat}
theorem Qw(h:EJL X (v₁::v₂::rest) 0 σ H λH'=>∀z,Q (.str z) H'):EV X (.JoinedStr (v₁::v₂::rest) pos) σ H Q:=XH (h Str.empty (Nat.le_refl _) Q λz H' r=>r z)
theorem Xl(hn:n≤sizeLine)(r:R H):EJL X [] n σ H R:=λout ho Q k=>abl (Nat.le_trans ho hn) (k out H r)
theorem G7(h:EV X v σ H λx H1=>∃y m,x= .str y/\y.length≤m/\n+m≤sizeLine/\EJL X rest (n+m) σ H1 R):EJL X (v::rest) n σ H R:=λout ho Q k=>
 Wk (bJ h λx H1 ⟨y,m,e,hy,hm,q⟩=>⟨y,e,by rw[LR];omega,q (out++y) (by rw[LR];omega) Q k⟩)
end
abbrev JL:List Value:=[.type "ValueError",.type "Exception",.type "BaseException",.type "object"]
def aD(mg:Str->Option Value)(x:Str):Addr:=match mg x with
 |some (.ref C)=>C
 |_=>0
theorem aL{mg:Str->Option Value}{x:Str}{C:Addr}(h:mg x=some (.ref C)):aD mg x=C:=by unfold aD;rw[h]
structure TQ(K:W.Frag)(mg:Str->Option Value)(x:Str):Prop where
 at_:mg x=some (.ref (aD mg x))
 ex:W.excIn K (aD mg x) JL "ValueError.__new__"=true
theorem CJ{K:W.Frag}{mg:Str->Option Value}{x:Str}{C:Addr}(h:mg x=some (.ref C))(e:W.excIn K C JL "ValueError.__new__"=true):TQ K mg x:=by
 have z:aD mg x=C:=by unfold aD;rw[h]
 exact⟨by rw[z];exact h,by rw[z];exact e⟩
theorem VM{K:W.Frag}{C:Addr}{h:Heap}(kin:K.In h)(e:W.excIn K C JL "ValueError.__new__"=true):
  ∃bm N nm q bs hdct sn sub ab col dd k0 k1 k2 k3 k5 mN,h.get? C=some (excClassObj nm q C N bs bm hdct sn sub ab col dd k0 k1 k2 k3 k5 "ValueError.__new__")/\h.Ns N mN/\mN "__init__"=none/\OwnTail h JL bm:=by
 unfold W.excIn at e
 split at e
 .rename_i dd cd sl ho
  split at e
  .rename_i C' bm k0 k1 k2 k3 n k5 hm hs
   simp only[Bool.and_eq_true,beq_iff_eq,Bool.not_eq_true']at e
   obtain⟨⟨⟨⟨⟨e1,e2⟩,e3⟩,e4⟩,e5⟩,e6⟩:=e
   subst e1 e2
   obtain⟨nm,bs,mro,ns,qn,hd,sn,sub,ab,col,del⟩:=cd
   dsimp only at hm e3 e5 e6
   subst hm e3
   have hl:sl= #[k0,k1,k2,k3,some (.builtin "ValueError.__new__"),k5]:=by
    obtain⟨l⟩:=sl
    simp only at hs
    rw[hs]
   subst hl
   exact⟨bm,ns,nm,qn,bs,hd,sn,sub,ab,col,dd,k0,k1,k2,k3,k5,_,kin _ _ ho,.of_isNs (W.isNs_of_in kin e5),W.nsMap_none_of_in kin e5 e6,W.tail_of_in kin e4⟩
  .cases e
 .cases e
section
variable{X:Cx}{Kx:St->XK}{D:Ends}{σ:St}{H:Hp}{x:Str}{np cpos pos:Pos}{e:Expr}{es:List Expr}
theorem lC(hx:Et X Kx)(hc:X.calm=true)(O:TQ X.K X.mg x)(hg:Gl X x)(hd:(x==("__debug__":Str))=false)(he:starEach (e::es) X.env=(false,eval e X.env)::starEach es X.env)
  (hpl:(backTo cpos (starEach es X.env)).any (·.1)=false) (h:EA X (e::es) σ H λvs H1=>vs.length≤sizeLine/\Kx σ (.ref (aD X.mg x)) (none,true) H1):
  SX X (.Raise (some (.Call (.Name x np) (e::es) [] cpos)) none pos) D σ H:=by
 intro pins s I
 obtain⟨bm,N,nm,q,bs,hdct,sn,sub,ab,col,dd,k0,k1,k2,k3,k5,mN,hC,hN,hni,T⟩:=VM I.ok.mod.kin O.ex
 refine wpAny_Raise_call_subT (C:=aD X.mg x) (nm:=nm) (q:=q) (N:=N) (bs:=bs) (bm:=bm) (hdct:=hdct) (sn:=sn) (sub:=sub) (ab:=ab) (col:=col) (dd:=dd) (k0:=k0) (k1:=k1) (k2:=k2) (k3:=k3) (k5:=k5)
  F.excBase_ValueError (mN:=mN) (T.hasType (by decide+kernel)) (I.ok.hd hc) ?_ hni (mO I hg O.at_ ⟨rfl,?_⟩ hd)
 .rw[he]
  show(false||(backTo cpos (starEach es X.env)).any (·.1))=false
  rw[hpl]
  rfl
 .have h':=h cpos pins s I
  rw[he]at h'⊢
  refine Calls.evalArgs_plain (cR h' λus s2 ⟨vs,H1,I2,r,hl,kq⟩=>⟨rfl,by rw[<-r.length];exact hl,I2.bk _ _ hC,hN.keeps I2.bk,T.keeps I2.bk,λh3 a M=>?_⟩)
  obtain⟨t,m1,m2,m3⟩:=M.there
  refine hx pins σ H1 _ a _ (none,true) ⟨I2.kept (t':=s2.toks) M.keeps,none,.none,⟨_,_,m1,rfl,rfl,rfl,rfl,by simp,Ctx.yes rfl,λT z=>nomatch z⟩,.inl rfl,λb hb=>?_⟩ kq
  have z:b=a:=by simpa using hb
  subst z
  exact⟨I2.hok.free M.new,I2.ch M.new⟩
end
abbrev Cx.tri(X:Cx)(F:Value->Shared->Prop)(pn:List (Addr×Obj)):Cx:={X with xe:=F,pn:=pn}
abbrev Cx.aAy(X:Cx)(e:Value)(F:Value->Shared->Prop)(pn:List (Addr×Obj)):Cx:={X with A:=X.A.mark (some e),calm:=false,xe:=F,pn:=pn}
section
variable{X:Cx}{pins pins':List (Addr×Obj)}{σ:St}{H:Hp}{s:Shared}{F:Value->Shared->Prop}{e:Value}
theorem Cx.Ok.tri(ok:X.Ok)(pn:List (Addr×Obj)):(X.tri F pn).Ok:=
 ⟨ok.mod,ok.kind,ok.glob,ok.blt,ok.above,ok.inj,ok.has,ok.cab,ok.hd,ok.frames,ok.stk,ok.exf,ok.bs,ok.bsz,ok.noex,ok.exfs,ok.funs,ok.frf⟩
theorem Inv.tri(I:Inv X pins σ H s):Inv (X.tri F (X.pn++pins)) [] σ H s:=
 ⟨I.ok.tri _,I.os,I.bare,I.base,I.loc,I.cell,I.free,I.freeC,λp hp=>I.pin p (by simpa using hp),I.hok,I.len⟩
theorem Inv.wD(ok:X.Ok)(I:Inv (X.tri F (X.pn++pins)) pins' σ H s):Inv X pins σ H s:=
 ⟨ok,I.os,I.bare,I.base,I.loc,I.cell,I.free,I.freeC,λp hp=>I.pin p (List.mem_append_left _ hp),I.hok,I.len⟩
theorem Ch.wD{b:Addr}(c:Ch (X.tri F (X.pn++pins)) pins' b):Ch X pins b:=⟨c.1,c.2.1,c.2.2.1,λp hp=>c.2.2.2 p (List.mem_append_left _ hp)⟩
end
def EH(X:Cx)(hs:List ExceptHandler)(D:Ends)(σ:St)(cls:Value)(d:Option Addr×Bool)(H:Hp):Prop:=
 ∀(pins:List (Addr×Obj)) (s:Shared) (e T:Addr),Inv X pins σ H s->gW s.heap e cls d (some T) .none->(∀b∈[e,T],H b=none/\Ch X pins b)->
  wpAny (model X.prog X.w) X.A (handleBy (.ref e) X.env hs) (SP X pins D) X.xe s
section
variable{X:Cx}{D:Ends}{σ:St}{H:Hp}{h₀:ExceptHandler}{hs rest:List ExceptHandler}{body orelse suite:List Stmt}{b₀:Stmt}{pos np:Pos}{x n:Str}{cls c:Value}{d:Option Addr×Bool}
theorem Ri(Kx:St->XK)(hst:X.stack=X.env::X.outer)(hf:X.env.frame=some X.env.locals)
  (hb:∀F pn,Et (X.tri F pn) Kx->PassesOwn (model X.prog X.w) X.A X.env F->lz (X.tri F pn) body {D with nx:=λσ' H'=>lz X orelse D σ' H'} σ H)
  (hh:∀σ' cls d H',Kx σ' cls d H'->EH X (h₀::hs) D σ' cls d H'):SX X (.Try body (h₀::hs) orelse [] pos) D σ H:=by
 intro pins s I
 refine wpAny_Try_except ?_
 refine wpAny_mono (hb (λe s1=>wpAny (model X.prog X.w) X.A (noteFrame e X.env) (λ_ s2=>wpAny (model X.prog X.w) X.A (setFlight e none) (λ_ s3=>wpAny (model X.prog X.w) X.A (handleBy e X.env (h₀::hs)) (SP X pins D) X.xe s3) X.xe s2) X.xe s1)
  (X.pn++pins) ?_ PassesOwn.looking [] s I.tri) (λf s1 q=>?_) λ_ _ q=>q
 .intro pins' σ' H' s' e cls d xa q
  obtain⟨I',tb,fl,F',hfl,ch⟩:=xa
  have I2:=Inv.wD I.ok I'
  refine XAt.note (X:=X) (pins:=pins) ⟨I2,tb,fl,F',hfl,λb hb=>⟨(ch b hb).1,(ch b hb).2.wD⟩⟩ hst hf λs2 T I3 F3 c3=>?_
  exact I3.off F3 c3 λs4 I4 F4=>hh σ' cls d H' q pins s4 e T I4 F4 c3
 .cases f with
  |next=>
   obtain⟨σ',H',J,q⟩:=q
   exact q pins s1 (Inv.wD I.ok J)
  |brk=>
   obtain⟨σ',H',J,q⟩:=q
   exact⟨σ',H',Inv.wD I.ok J,q⟩
  |cont=>
   obtain⟨σ',H',J,q⟩:=q
   exact⟨σ',H',Inv.wD I.ok J,q⟩
  |ret u=>
   obtain⟨v,σ',H',J,r,q⟩:=q
   exact⟨v,σ',H',Inv.wD I.ok J,r,q⟩
end
mutual
inductive RD (K:W.Frag) (H:Hp):V->PyData->Prop
 |non:RD K H .non .none
 |bl (b:Bool):RD K H (.bl b) (.bool b)
 |int (i:Int):RD K H (.int i) (.int i)
 |str (x:Str):RD K H (.str x) (.str x)
 |lst {a:Addr} {xs:List V} {ds:List PyData} (h:bc K H a xs) (r:Qd K H xs ds):RD K H (.ref a) (.list ds)
 |tup {a:Addr} {xs:List V} {ds:List PyData} (h:cA K H a xs) (r:Qd K H xs ds):RD K H (.ref a) (.tuple ds)
inductive Qd (K:W.Frag) (H:Hp):List V->List PyData->Prop
 |nil:Qd K H [] []
 |cons {x:V} {d:PyData} {xs:List V} {ds:List PyData} (h:RD K H x d) (r:Qd K H xs ds):Qd K H (x::xs) (d::ds)
end
mutual
theorem RD.reads{X:Cx}{pins:List (Addr×Obj)}{σ:St}{H:Hp}{s:Shared}(I:Inv X pins σ H s):∀{v:V} {d:PyData} {u:Value},RD X.K H v d->RelV v u->∃as,Reads s.heap u d as
 |_,_,_,.non,e=>by cases(show _=Value.none from e);exact⟨_,.none⟩
 |_,_,_,.bl b,e=>by cases(show _=Value.bool b from e);exact⟨_,.bool b⟩
 |_,_,_,.int i,e=>by obtain⟨t,rfl⟩:=e;exact⟨_,.int i t⟩
 |_,_,_,.str x,e=>by obtain⟨t,rfl⟩:=e;exact⟨_,.str x t⟩
 |_,_,_,.lst h r,e=>by
  cases(show _=Value.ref _ from e)
  obtain⟨its,rv,pl,_⟩:=I.list h
  obtain⟨as,q⟩:=Qd.reads I r rv
  obtain⟨o,ho,hc,n,hd⟩:=pl.isList
  exact⟨_,.list ho hc hd (by simpa using q)⟩
 |_,_,_,.tup h r,e=>by
  cases(show _=Value.ref _ from e)
  obtain⟨its,rv,tp,_⟩:=I.tuple h
  obtain⟨as,q⟩:=Qd.reads I r rv
  obtain⟨o,ho,hc,n,hd⟩:=tp
  exact⟨_,.tuple ho hc hd (by simpa using q)⟩
theorem Qd.reads{X:Cx}{pins:List (Addr×Obj)}{σ:St}{H:Hp}{s:Shared}(I:Inv X pins σ H s):∀{vs:List V} {ds:List PyData} {us:List Value},Qd X.K H vs ds->Vals vs us->∃as,ReadsAll s.heap us ds as
 |_,_,_,.nil,.nil=>⟨_,.nil⟩
 |_,_,_,.cons h r,.cons e t=>by
  obtain⟨as,q⟩:=RD.reads I h e
  obtain⟨bs,q2⟩:=Qd.reads I r t
  exact⟨_,.cons q q2⟩
end
section
variable{X:Cx}{H:Hp}{Q:VK}{x y:V}{d d':PyData}
theorem YB(hu:X.A.units+64<cLine)(hx:RD X.K H x d)(hy:RD X.K H y d')(h1:d.canLay0=true)(h2:d'.canLay0=true)(hd:d.depth≤60)(q:Q (.bl (!PyData.eqv d d')) H):OP X (compareOp .NotEq) x y H Q:=by
 refine⟨λx y H Q=>RD X.K H x d/\RD X.K H y d'/\Q (.bl (!PyData.eqv d d')) H,?_,hx,hy,q⟩
 intro pins s σ H x y v u Q I rx ry ⟨hx,hy,q⟩
 obtain⟨as,r1⟩:=RD.reads I hx rx
 obtain⟨bs,r2⟩:=RD.reads I hy ry
 exact SeqAt.rcNeAt_reads r1 r2 h1 h2 (by have :=Nat.min_le_left d.depth d'.depth;omega) X.prog X.w X.xe _ ⟨.bl _,H,I,rfl,q⟩
end
def OD(l:List Stmt)(i:Nat):Stmt:=l.getD i (.Pass ⟨0,0,0,0⟩)
def ajh(s:Stmt):List Stmt:=match s with
 | .For _ _ b _ _=>b
 |_=>[]
def abd(s:Stmt):List Stmt:=match s with
 | .If _ b _ _=>b
 |_=>[]
def aqL(s:Stmt):List Stmt:=match s with
 | .If _ _ b _=>b
 |_=>[]
def awN(s:Stmt):List Stmt:=match s with
 | .Try b _ _ _ _=>b
 |_=>[]
theorem amG{A B:Prop}(h:A):if decide (V.non=V.non)=true then A else B:=by rw[if_pos (by decide)];exact h
theorem agr{A B:Prop}{i:Int}(h:B):if decide (V.int i=V.non)=true then A else B:=by rw[if_neg (by simp)];exact h
theorem ajf{A B:Prop}{i:Str}(h:B):if decide (V.str i=V.non)=true then A else B:=by rw[if_neg (by simp)];exact h
theorem arv{A B:Prop}(h:B):if(!decide (V.non=V.non))=true then A else B:=by rw[if_neg (by decide)];exact h
theorem Zd{X:Cx}{H:Hp}{Q:VK}{z:Str}{n:Int}(hn:intText? z=some n)(hl:z.length≤640)(q:Q (.int n) H):CL X (.type "int") [.str z] H Q:=by
 refine jG (r:=λxs H Q=>∃z n,xs=[.str z]/\intText? z=some n/\z.length≤640/\Q (.int n) H) ?_ ⟨z,n,rfl,hn,hl,q⟩
 intro pins s σ H xs us Q I r h
 obtain⟨z,n,rfl,hn,hl,q⟩:=h
 obtain⟨u,rfl,ru⟩:=vals1 r
 obtain⟨t,rfl⟩:=ru
 exact W.KIN.call_text hn hl ⟨.int n,H,I.tok _,⟨_,rfl⟩,q⟩
def ax4(x:Str)(n:Int):Str:=⟨(List.replicate n.toNat x.cps).foldl (· ++ ·) #[]⟩
theorem Iu{X:Cx}{H:Hp}{Q:VK}{i:Int}(q:Q (.bl true) H):CL X (.builtin "isinstance") [V.int i,.ty "int"] H Q:=gw (iW.int _) (k:=true) (by rfl) q
theorem HJ{X:Cx}{H:Hp}{Q:VK}{i:Int}(q:Q (.bl false) H):CL X (.builtin "isinstance") [V.int i,.ty "bool"] H Q:=gw (iW.int _) (k:=false) (by rfl) q
theorem J0{X:Cx}{H:Hp}{Q:VK}{i:Int}(q:Q (.bl false) H):CL X (.builtin "isinstance") [V.int i,.ty "str"] H Q:=gw (iW.int _) (k:=false) (by rfl) q
theorem CW{X:Cx}{H:Hp}{Q:VK}{i:Bool}(q:Q (.bl true) H):CL X (.builtin "isinstance") [V.bl i,.ty "bool"] H Q:=gw (iW.bl _) (k:=true) (by rfl) q
theorem Ig{X:Cx}{H:Hp}{Q:VK}{i:Str}(q:Q (.bl false) H):CL X (.builtin "isinstance") [V.str i,.ty "bool"] H Q:=gw (iW.str _) (k:=false) (by rfl) q
theorem Kr{X:Cx}{H:Hp}{Q:VK}{i:Str}(q:Q (.bl true) H):CL X (.builtin "isinstance") [V.str i,.ty "str"] H Q:=gw (iW.str _) (k:=true) (by rfl) q
theorem vH{X:Cx}{H:Hp}{Q:VK}(q:Q (.bl false) H):CL X (.builtin "isinstance") [V.non,.ty "bool"] H Q:=gw (iW.non) (k:=false) (by rfl) q
theorem xM{X:Cx}{H:Hp}{Q:VK}(q:Q (.bl false) H):CL X (.builtin "isinstance") [V.non,.ty "str"] H Q:=gw (iW.non) (k:=false) (by rfl) q
theorem rZ{X:Cx}{H:Hp}{Q:VK}{a:Addr}{xs:List V}(e:H a=some (.lst xs))(q:Q (.bl true) H):CL X (.builtin "isinstance") [V.ref a,.ty "list"] H Q:=gw (iW.lst e) (k:=true) (by rfl) q
theorem ik{X:Cx}{H:Hp}{Q:VK}{a:Addr}{xs:List V}(e:H a=some (.tup xs))(q:Q (.bl true) H):CL X (.builtin "isinstance") [V.ref a,.ty "tuple"] H Q:=gw (iW.tup e) (k:=true) (by rfl) q
section
variable{X:Cx}{e:Expr}{es:List Expr}{σ:St}{H:Hp}{Q:VK}{pos p:Pos}
theorem aco(hg:Gl X "len")(hm:X.mg "len"=none)(he:starEach (e::es) X.env=(false,eval e X.env)::starEach es X.env)(hpl:(backTo pos (starEach es X.env)).any (·.1)=false)(h:EA X (e::es) σ H λvs H1=>CL X (.builtin "len") vs H1 Q):EV X (.Call (.Name "len" p) (e::es) [] pos) σ H Q:=oY hg hm PySem.boot_len (by decide) (by decide) he hpl h
theorem Ai(hg:Gl X "isinstance")(hm:X.mg "isinstance"=none)(he:starEach (e::es) X.env=(false,eval e X.env)::starEach es X.env)(hpl:(backTo pos (starEach es X.env)).any (·.1)=false)(h:EA X (e::es) σ H λvs H1=>CL X (.builtin "isinstance") vs H1 Q):EV X (.Call (.Name "isinstance" p) (e::es) [] pos) σ H Q:=oY hg hm PyProof.Rows.boot_isinstance (by decide) (by decide) he hpl h
theorem aeK(hg:Gl X "all")(hm:X.mg "all"=none)(he:starEach (e::es) X.env=(false,eval e X.env)::starEach es X.env)(hpl:(backTo pos (starEach es X.env)).any (·.1)=false)(h:EA X (e::es) σ H λvs H1=>CL X (.builtin "all") vs H1 Q):EV X (.Call (.Name "all" p) (e::es) [] pos) σ H Q:=oY hg hm PyProof.Rows.boot_all (by decide) (by decide) he hpl h
theorem aee(hg:Gl X "min")(hm:X.mg "min"=none)(he:starEach (e::es) X.env=(false,eval e X.env)::starEach es X.env)(hpl:(backTo pos (starEach es X.env)).any (·.1)=false)(h:EA X (e::es) σ H λvs H1=>CL X (.builtin "min") vs H1 Q):EV X (.Call (.Name "min" p) (e::es) [] pos) σ H Q:=oY hg hm PyProof.Rows.boot_min (by decide) (by decide) he hpl h
theorem acM(hg:Gl X "ord")(hm:X.mg "ord"=none)(he:starEach (e::es) X.env=(false,eval e X.env)::starEach es X.env)(hpl:(backTo pos (starEach es X.env)).any (·.1)=false)(h:EA X (e::es) σ H λvs H1=>CL X (.builtin "ord") vs H1 Q):EV X (.Call (.Name "ord" p) (e::es) [] pos) σ H Q:=oY hg hm PyProof.Rows.boot_ord (by decide) (by decide) he hpl h
theorem abz(hg:Gl X "str")(hm:X.mg "str"=none)(he:starEach (e::es) X.env=(false,eval e X.env)::starEach es X.env)(hpl:(backTo pos (starEach es X.env)).any (·.1)=false)(h:EA X (e::es) σ H λvs H1=>CL X (.type "str") vs H1 Q):EV X (.Call (.Name "str" p) (e::es) [] pos) σ H Q:=uB hg hm PyProof.Rows.boot_str (by decide) (by decide) he hpl h
theorem V6(hg:Gl X "list")(hm:X.mg "list"=none)(he:starEach (e::es) X.env=(false,eval e X.env)::starEach es X.env)(hpl:(backTo pos (starEach es X.env)).any (·.1)=false)(h:EA X (e::es) σ H λvs H1=>CL X (.type "list") vs H1 Q):EV X (.Call (.Name "list" p) (e::es) [] pos) σ H Q:=uB hg hm PyProof.Rows.boot_list (by decide) (by decide) he hpl h
theorem adf(hg:Gl X "int")(hm:X.mg "int"=none)(he:starEach (e::es) X.env=(false,eval e X.env)::starEach es X.env)(hpl:(backTo pos (starEach es X.env)).any (·.1)=false)(h:EA X (e::es) σ H λvs H1=>CL X (.type "int") vs H1 Q):EV X (.Call (.Name "int" p) (e::es) [] pos) σ H Q:=uB hg hm PyProof.Rows.boot_int (by decide) (by decide) he hpl h
theorem aeX(hg:Gl X "set")(hm:X.mg "set"=none)(he:starEach (e::es) X.env=(false,eval e X.env)::starEach es X.env)(hpl:(backTo pos (starEach es X.env)).any (·.1)=false)(h:EA X (e::es) σ H λvs H1=>CL X (.type "set") vs H1 Q):EV X (.Call (.Name "set" p) (e::es) [] pos) σ H Q:=uB hg hm PyProof.Rows.boot_set (by decide) (by decide) he hpl h
theorem ty_str(hg:Gl X "str")(hm:X.mg "str"=none)(q:Q (.ty "str") H):EV X (.Name "str" pos) σ H Q:=G4 hg hm PyProof.Rows.boot_str q (by decide) (by decide)
theorem ty_list(hg:Gl X "list")(hm:X.mg "list"=none)(q:Q (.ty "list") H):EV X (.Name "list" pos) σ H Q:=G4 hg hm PyProof.Rows.boot_list q (by decide) (by decide)
theorem ty_tuple(hg:Gl X "tuple")(hm:X.mg "tuple"=none)(q:Q (.ty "tuple") H):EV X (.Name "tuple" pos) σ H Q:=G4 hg hm PyProof.Rows.boot_tuple q (by decide) (by decide)
theorem ty_int(hg:Gl X "int")(hm:X.mg "int"=none)(q:Q (.ty "int") H):EV X (.Name "int" pos) σ H Q:=G4 hg hm PyProof.Rows.boot_int q (by decide) (by decide)
theorem ty_bool(hg:Gl X "bool")(hm:X.mg "bool"=none)(q:Q (.ty "bool") H):EV X (.Name "bool" pos) σ H Q:=G4 hg hm PyProof.Rows.boot_bool q (by decide) (by decide)
end
section
variable{X:Cx}{pins:List (Addr×Obj)}{σ:St}{H:Hp}{s:Shared}
theorem Inv.KY{ch:List Addr}{T:Addr}{xs:List V}{us:List Value}{h':Heap}{tk:Nat}(I:Inv X pins σ H s)(hf:∀b∈ch,kW X pins H b)(hT:s.heap.objs.size≤T)
  (k:∀b o,b∉ch->s.heap.get? b=some o->h'.get? b=some o) (hz:xs.length≤sizeLine) (rv:Vals xs us) (tp:IsTup h' T us.toArray):Inv X pins σ (upd H T (.tup xs)) {s with heap:=h',toks:=tk}:=by
 have nT:=I.hok.fresh hT
 have neT:∀b o,s.heap.get? b=some o->b≠T:=λb o e z=>Nat.lt_irrefl _ (Nat.lt_of_lt_of_le (Heap.lt_size e) (z▸hT))
 have nch:∀b u,H b=some u->b∉ch:=λb u e z=>by rw[(hf b z).1]at e;cases e
 refine I.call (g':=s.gens) (d':=s.drawn) (t':=tk) (ch:=ch) (h':=h') ⟨λb o e _ _ hx=>k b o hx e,λb o e _ _ hx=>⟨o.slots,k b o hx e⟩,λb o e n _=>?_,λb o e hx=>⟨o,k b o hx e⟩,λb ys e=>?_,λb o u e=>?_,λb ps e=>⟨#[],?_⟩⟩ ?_ I.bare
  λb hb=>⟨(hf b hb).2.2.2.1,(hf b hb).2.1,(hf b hb).2.2.2.2.1,(hf b hb).2.2.2.2.2⟩
 .rw[az (neT b o e)];exact n
 .rw[az (au e nT)];exact e
 .rw[az (au e nT)];exact e
 .rw[az (au e nT),e];simp
 .intro b u e
  by_cases hb:b=T
  .subst hb
   rw[ak]at e
   cases e
   exact⟨hz,us,rv,tp⟩
  .rw[az hb]at e
   refine(I.hok b u e).stay (λc v hc q=>k c v ?_ q) (λc q=>by rw[az (au q nT)];exact q) λc ys q=>by rw[az (au q nT)];exact q
   rcases hc with z |z
   .subst z;exact nch c u e
   .exact nch c _ z
end
def Ite(K:W.Frag)(l:Addr):It:=
 ⟨λi H=>∃xs x,bc K H l xs/\xs[i]? =some x,λi H v H'=>∃T x,v= .ref T/\H T=none/\H'=upd H T (.tup [.int i,x])/\∀xs,bc K H l xs->xs[i]? =some x,λi H=>∃xs,bc K H l xs/\xs.length≤i⟩
theorem Nv{P:Program}{w:World}{K:PySem.W.Frag}{elts:List Expr}{k:Nat}{pos:Pos}(l e it:Addr)(hei:e≠it)(hle:l≠e)(hli:l≠it):
  Turn P w K (.Tuple elts k pos) (Ite K l) [e,it] e (λi h=>(∃old,IsEnum h e it i old)/\h.IsListIter it l i)where
 mem:=by simp
 obj:=λi h st b hb=>by
  obtain⟨⟨old,he⟩,o,ho,_,hd⟩:=st
  rcases List.mem_cons.mp hb with z |z
  .subst z;exact⟨_,he,λv z=>by cases z⟩
  .have z':b=it:=by simpa using z
   subst z'
   exact⟨o,ho,λv z=>by rw[hd]at z;cases z⟩
 keep:=λi h h' st kk=>by
  obtain⟨⟨old,he⟩,o,ho,r⟩:=st
  exact⟨⟨old,kk e (by simp) _ he⟩,o,kk it (by simp) _ ho,r⟩
 item:=by
  intro X hP hw hK hc i pins s σ H E I hf st hg
  subst hP hw hK
  obtain⟨⟨old,he⟩,hit⟩:=st
  obtain⟨xs,x,hS,hx⟩:=hg
  obtain⟨its,rv,pl,hz⟩:=I.list hS
  have W:=WalksT.enumerate (prog:=X.prog) (w:=X.w) (A:=X.A) (I.ok.hd hc) e it l hei hle hli its.toArray
  have hi:i<its.toArray.size:=by
   rw[List.size_toArray, <-rv.length]
   exact(List.getElem?_eq_some_iff.mp hx).1
  obtain⟨u,hu,ru⟩:=rv.get hx
  refine W.item i s _ _ hi ⟨⟨old,he⟩,hit,pl.isList⟩ λT vals h1 tk hp hT tup mid keep=>⟨.ref T,rfl,?_⟩
  obtain⟨t,y,ey,rfl⟩:=hp
  have euy:y=u:=by
   have :its[i]? =some y:=by simpa using ey
   rw[hu]at this
   exact(Option.some.inj this).symm
  subst euy
  refine W.go elts k pos i T {s with heap:=h1,toks:=tk} _ _ mid λh2 st2 Hj=>?_
  obtain⟨⟨avy,he2⟩,hit2,_⟩:=st2
  have abg:IsTup h2 T [Value.int i t,y].toArray:=by
   obtain⟨o,ho,r⟩:=tup
   exact⟨o,Hj T o (W.apart i T h1 mid) ho,r⟩
  refine⟨.ref T,upd H T (.tup [.int i,x]),I.KY (ch:=[e,it]) (tk:=tk) hf hT (λb o hb q=>Hj b o hb (keep b o hb q)) (by show 2≤sizeLine;rw[sizeLine_eq];decide) (.cons ⟨t,rfl⟩ (.cons ru .nil)) abg,rfl,?_,?_,λb hb=>?_⟩
  .refine⟨T,x,rfl,I.hok.fresh hT,rfl,λys hy=>?_⟩
   rw[<-I.list_inj hS hy]
   exact hx
  .exact⟨⟨avy,by simpa using he2⟩,hit2⟩
  .have :b≠T:=λz=>by
    obtain⟨o,ho,_⟩:∃o,s.heap.get? b=some o/\True:=by
     rcases List.mem_cons.mp hb with z |z
     .subst z;exact⟨_,he,trivial⟩
     .have z':b=it:=by simpa using z
      subst z'
      obtain⟨o,ho,_⟩:=hit
      exact⟨o,ho,trivial⟩
    exact Nat.lt_irrefl _ (Nat.lt_of_lt_of_le (Heap.lt_size ho) (z▸hT))
   rw[az this]
   exact(hf b hb).1
 done:=by
  intro X hP hw hK hc i pins s σ H E I hf st hg
  subst hP hw hK
  obtain⟨⟨old,he⟩,hit⟩:=st
  obtain⟨xs,hS,hx⟩:=hg
  obtain⟨its,rv,pl,hz⟩:=I.list hS
  have hn:its.toArray[i]? =none:=Array.getElem?_eq_none (by rw[List.size_toArray, <-rv.length];exact hx)
  refine wpAny_pyNext_enum_end (I.ok.hd hc) he hit pl.isList hn λh' hk=>⟨rfl,?_⟩
  obtain⟨f0,f1,f2,f3,f4,f5⟩:=hf it (by simp)
  exact I.turned (t':=s.toks) (it:=it) (λb o hb q=>hk b o hb q) f0 f1 f3 f4 f5
 self:=λA i s Q E st h=>by
  obtain⟨⟨old,he⟩,_⟩:=st
  exact wpAny_pyIter_enum he h
section
variable{X:Cx}{σ:St}{H:Hp}{a b:Expr}{elts:List Expr}{k:Nat}{tp p pos:Pos}{R:It->Hp->Prop}
theorem Xi(hg:Gl X "enumerate")(hm:X.mg "enumerate"=none)(hs:starEach [a] X.env=[(false,eval a X.env)])
  (h:EV X a σ H λv H1=>∃l xs,v= .ref l/\H1 l=some (.lst xs)/\R (Ite X.K l) H1):EI X (.Tuple elts k tp) (.Call (.Name "enumerate" p) [a] [] pos) σ H R:=by
 intro pins s I
 refine Call_ (qI I hg hm boot_enumerate (PyProof.Rows.callWith_type1 (cR (iI (es:=[]) (QA:=λvs H1=>∃l xs,vs=[.ref l]/\H1 l=some (.lst xs)/\R (Ite X.K l) H1) hs (bJ h λv H1 ⟨l,xs,e,q1,q2⟩=>kZ ⟨l,xs,by rw[e],q1,q2⟩) pos pins s I) λus s1 ⟨vs,H1,I1,r1,l,xs,e,hl,q⟩=>?_) hs rfl))
 subst e
 obtain⟨u,rfl,ru⟩:=vals1 r1
 cases(show u=Value.ref l from ru)
 obtain⟨hz,its,n,rv,ho⟩:=I1.hok l _ hl
 refine call_enumerate_1 ho λh' he hit hsz hk=>?_
 refine wpAny_pyIter_enum he ?_
 have hlt:l<s1.heap.objs.size:=Heap.lt_size ho
 refine⟨s1.heap.objs.size+1,[s1.heap.objs.size+1,s1.heap.objs.size],_,_,H1,rfl,I1.kept (t':=s1.toks) hk,Nv l _ _ (Nat.succ_ne_self _) (Nat.ne_of_lt (Nat.lt_succ_of_lt hlt)) (Nat.ne_of_lt hlt),⟨⟨_,he⟩,hit⟩,λb hb=>?_,q⟩
 have hb':b=s1.heap.objs.size+1\/b=s1.heap.objs.size:=by simpa using hb
 rcases hb' with z |z<;>subst z
 .exact I1.fpOk (Nat.le_succ _) (I1.hok.fresh (Nat.le_succ _))
 .exact I1.fpOk (Nat.le_refl _) (I1.hok.fresh (Nat.le_refl _))
end
section
variable{X:Cx}{pins:List (Addr×Obj)}{σ:St}{H:Hp}{s:Shared}
theorem Inv.V2{ch:List Addr}{h':Heap}{tk:Nat}(I:Inv X pins σ H s)(hf:∀b∈ch,kW X pins H b)
  (k:∀b o,b∉ch->s.heap.get? b=some o->h'.get? b=some o):Inv X pins σ H {s with heap:=h',toks:=tk}:=by
 have nch:∀b u,H b=some u->b∉ch:=λb u e z=>by rw[(hf b z).1]at e;cases e
 refine I.call (g':=s.gens) (d':=s.drawn) (t':=tk) (ch:=ch) (h':=h') ⟨λb o e _ _ hx=>k b o hx e,λb o e _ _ hx=>⟨o.slots,k b o hx e⟩,λb o e n _=>n,λb o e hx=>⟨o,k b o hx e⟩,λb ys e=>e,λb o u e=>e,λb ps e=>⟨#[],?_⟩⟩ ?_ I.bare
  λb hb=>⟨(hf b hb).2.2.2.1,(hf b hb).2.1,(hf b hb).2.2.2.2.1,(hf b hb).2.2.2.2.2⟩
 .rw[e];simp
 .intro b u e
  refine(I.hok b u e).stay (λc v hc q=>k c v ?_ q) (λc q=>q) λc ys q=>q
  rcases hc with z |z
  .subst z;exact nch c u e
  .exact nch c _ z
end
def Itz(K:W.Frag)(l m:Addr):It:=
 ⟨λi H=>∃xs ys x y,bc K H l xs/\bc K H m ys/\xs[i]? =some x/\ys[i]? =some y,
  λi H v H'=>∃T x y,v= .ref T/\H T=none/\H'=upd H T (.tup [x,y])/\(∀xs,bc K H l xs->xs[i]? =some x)/\∀ys,bc K H m ys->ys[i]? =some y,
  λi H=>∃xs ys,bc K H l xs/\bc K H m ys/\min xs.length ys.length≤i⟩
theorem S6{P:Program}{w:World}{K:PySem.W.Frag}{elts:List Expr}{k:Nat}{pos:Pos}(z TI TO i1 i2 l m:Addr)(D:ZipApart z TI TO i1 i2 l m):
  Turn P w K (.Tuple elts k pos) (Itz K l m) [z,TI,TO,i1,i2] z (λi h=>IsZip h z TI TO .none/\IsPair h TI (.ref i1) (.ref i2)/\(∃a b,IsPair h TO a b)/\h.IsListIter i1 l i/\h.IsListIter i2 m i)where
 mem:=by simp
 obj:=λi h st b hb=>by
  obtain⟨hz,hTI,⟨a,a',hTO⟩,⟨o1,h1,_,d1⟩,⟨o2,h2,_,d2⟩⟩:=st
  simp only[List.mem_cons,List.not_mem_nil,or_false]at hb
  rcases hb with e |e |e |e |e<;>subst e
  .exact⟨_,hz,λv z=>by cases z⟩
  .exact⟨_,hTI,λv z=>by cases z⟩
  .exact⟨_,hTO,λv z=>by cases z⟩
  .exact⟨_,h1,λv z=>by rw[d1]at z;cases z⟩
  .exact⟨_,h2,λv z=>by rw[d2]at z;cases z⟩
 keep:=λi h h' st kk=>by
  obtain⟨hz,hTI,⟨a,a',hTO⟩,⟨o1,h1,r1⟩,⟨o2,h2,r2⟩⟩:=st
  exact⟨kk z (by simp) _ hz,kk TI (by simp) _ hTI,⟨a,a',kk TO (by simp) _ hTO⟩,⟨o1,kk i1 (by simp) _ h1,r1⟩,⟨o2,kk i2 (by simp) _ h2,r2⟩⟩
 item:=by
  intro X hP hw hK hc i pins s σ H E I hf st hg
  subst hP hw hK
  obtain⟨hz,hTI,hTO,h1,h2⟩:=st
  obtain⟨xs,ys,x,y,hS,hS',hx,hy⟩:=hg
  obtain⟨its,rv,pl,hsz⟩:=I.list hS
  obtain⟨its',rv',pl',hsz'⟩:=I.list hS'
  have W:=WalksT.zip2 (prog:=X.prog) (w:=X.w) (A:=X.A) (I.ok.hd hc) z TI TO i1 i2 l m D its.toArray its'.toArray
  have hi:i<min its.toArray.size its'.toArray.size:=by
   rw[List.size_toArray, <-rv.length,List.size_toArray, <-rv'.length]
   exact Nat.lt_min.mpr ⟨(List.getElem?_eq_some_iff.mp hx).1,(List.getElem?_eq_some_iff.mp hy).1⟩
  obtain⟨u,hu,ru⟩:=rv.get hx
  obtain⟨u',hu',ru'⟩:=rv'.get hy
  refine W.item i s _ _ hi ⟨hz,hTI,hTO,h1,h2,pl.isList,pl'.isList⟩ λT vals hh tk hp hT tup mid keep=>⟨.ref T,rfl,?_⟩
  obtain⟨v,v',ev,ev',rfl⟩:=hp
  have e1:v=u:=by
   have :its[i]? =some v:=by simpa using ev
   rw[hu]at this
   exact(Option.some.inj this).symm
  have e2:v'=u':=by
   have :its'[i]? =some v':=by simpa using ev'
   rw[hu']at this
   exact(Option.some.inj this).symm
  subst e1 e2
  refine W.go elts k pos i T {s with heap:=hh,toks:=tk} _ _ mid λh3 st2 Hj=>?_
  obtain⟨gz,gTI,gTO,g1,g2,_⟩:=st2
  have nin:∀b,b∉[z,TI,TO,i1,i2]->b∉[z,TO,i1,i2]:=λb hb hb'=>hb (by simp at hb'⊢;rcases hb' with e |e |e |e<;>simp[e])
  have abg:IsTup h3 T [v,v'].toArray:=by
   obtain⟨o,ho,r⟩:=tup
   exact⟨o,Hj T o (W.apart i T hh mid) ho,r⟩
  refine⟨.ref T,upd H T (.tup [x,y]),I.KY (ch:=[z,TI,TO,i1,i2]) (tk:=tk) hf hT (λb o hb q=>Hj b o (nin b hb) (keep b o (nin b hb) q)) (by show 2≤sizeLine;rw[sizeLine_eq];decide) (.cons ru (.cons ru' .nil)) abg,rfl,?_,⟨gz,gTI,gTO,g1,g2⟩,λb hb=>?_⟩
  .refine⟨T,x,y,rfl,I.hok.fresh hT,rfl,λa ha=>?_,λa ha=>?_⟩
   .rw[<-I.list_inj hS ha];exact hx
   .rw[<-I.list_inj hS' ha];exact hy
  .have :b≠T:=λq=>by
    obtain⟨o,ho⟩:∃o,s.heap.get? b=some o:=by
     obtain⟨a,a',hTO⟩:=hTO
     obtain⟨o1,h1,_⟩:=h1
     obtain⟨o2,h2,_⟩:=h2
     simp only[List.mem_cons,List.not_mem_nil,or_false]at hb
     rcases hb with e |e |e |e |e<;>subst e
     .exact⟨_,hz⟩
     .exact⟨_,hTI⟩
     .exact⟨_,hTO⟩
     .exact⟨_,h1⟩
     .exact⟨_,h2⟩
    exact Nat.lt_irrefl _ (Nat.lt_of_lt_of_le (Heap.lt_size ho) (q▸hT))
   rw[az this]
   exact(hf b hb).1
 done:=by
  intro X hP hw hK hc i pins s σ H E I hf st hg
  subst hP hw hK
  obtain⟨hz,hTI,⟨a,b,hTO⟩,h1,h2⟩:=st
  obtain⟨xs,ys,hS,hS',hx⟩:=hg
  obtain⟨its,rv,pl,hsz⟩:=I.list hS
  obtain⟨its',rv',pl',hsz'⟩:=I.list hS'
  have hend:its.toArray[i]? =none\/its'.toArray[i]? =none:=by
   by_cases q:xs.length≤i
   .exact .inl (Array.getElem?_eq_none (by rw[List.size_toArray, <-rv.length];exact q))
   .exact .inr (Array.getElem?_eq_none (by rw[List.size_toArray, <-rv'.length];omega))
  refine wpAny_pyNext_zip_end (I.ok.hd hc) D hz hTI hTO h1 h2 pl.isList pl'.isList hend λh' hk=>⟨rfl,?_⟩
  exact I.V2 (tk:=s.toks) hf λb o hb q=>hk b o (λe=>hb (by simp[e])) (λe=>hb (by simp[e])) (λe=>hb (by simp[e])) (λe=>hb (by simp[e])) q
 self:=λA i s Q E st h=>wpAny_pyIter_zip st.1 h
theorem Qp(n l m:Nat)(h1:l<n)(h2:m<n):ZipApart (n+4) (n+2) (n+3) n (n+1) l m:=by
 constructor<;>(intro e;have e':(_:Nat)=_:=e;omega)
section
variable{X:Cx}{σ:St}{H:Hp}{a b:Expr}{elts:List Expr}{k:Nat}{tp p pos:Pos}{R:It->Hp->Prop}
theorem aaD(hg:Gl X "zip")(hm:X.mg "zip"=none)(hs:starEach [a,b] X.env=[(false,eval a X.env),(false,eval b X.env)])(hs2:starEach [b] X.env=[(false,eval b X.env)])
  (h:EV X a σ H λv H1=>EV X b σ H1 λv' H2=>∃l m xs ys,v= .ref l/\v'= .ref m/\H2 l=some (.lst xs)/\H2 m=some (.lst ys)/\R (Itz X.K l m) H2):EI X (.Tuple elts k tp) (.Call (.Name "zip" p) [a,b] [] pos) σ H R:=by
 intro pins s I
 refine Call_ (qI I hg hm boot_zip (PyProof.Rows.callWith_type1 (cR (iI (es:=[b]) (QA:=λvs H1=>∃l m xs ys,vs=[.ref l,.ref m]/\H1 l=some (.lst xs)/\H1 m=some (.lst ys)/\R (Itz X.K l m) H1) (by rw[hs,hs2]) (bJ h λv H1 q=>iI (es:=[]) hs2 (bJ q λv' H2 ⟨l,m,xs,ys,e,e',q1,q2,q3⟩=>kZ ⟨l,m,xs,ys,by rw[e,e'],q1,q2,q3⟩)) pos pins s I) λus s1 ⟨vs,H1,I1,r1,l,m,xs,ys,e,hl,hm',q⟩=>?_) (by rw[hs,hs2]) (by rw[hs2];rfl)))
 subst e
 obtain⟨u,u',rfl,ru,ru'⟩:=vals2 r1
 cases(show u=Value.ref l from ru)
 cases(show u'=Value.ref m from ru')
 obtain⟨hz,its,n,rv,ho⟩:=I1.hok l _ hl
 obtain⟨hz',its',n',rv',ho'⟩:=I1.hok m _ hm'
 refine call_zip_2 (xs:=its.toArray) (ys:=its'.toArray) ⟨_,ho,rfl,_,rfl⟩ ⟨_,ho',rfl,_,rfl⟩ λh' h1 h2 h3 h4 h5 hsz hk=>?_
 refine wpAny_pyIter_zip h1 ?_
 refine⟨s1.heap.objs.size+4,[s1.heap.objs.size+4,s1.heap.objs.size+2,s1.heap.objs.size+3,s1.heap.objs.size,s1.heap.objs.size+1],_,_,H1,rfl,I1.kept (t':=s1.toks) hk,S6 _ _ _ _ _ l m (Qp _ _ _ (Heap.lt_size ho) (Heap.lt_size ho')),⟨h1,h2,⟨_,_,h3⟩,h4,h5⟩,λb hb=>?_,q⟩
 have hb':s1.heap.objs.size≤b:=by
  simp only[List.mem_cons,List.not_mem_nil,or_false]at hb
  rcases hb with e |e |e |e |e<;>subst e
  .exact Nat.le_add_right _ _
  .exact Nat.le_add_right _ _
  .exact Nat.le_add_right _ _
  .exact Nat.le_refl _
  .exact Nat.le_add_right _ _
 exact I1.fpOk hb' (I1.hok.fresh hb')
end
section
variable{X:Cx}{a e:Expr}{σ:St}{H:Hp}{Q:VK}{D:Ends}{pos p p':Pos}
theorem Uo{Y:Cx}{tg elt:Expr}{J:It}{E:Addr}{τ0:St}{Q:Hp->Prop}
  (n:Nat) (hn:n≤sizeLine) (Tp:St->Prop) (hT:Tp τ0) (Pi:Nat->V->Hp->Prop) (hE:H E=none)
  (mono:∀i v H1 H2 ys,H1 E=some (.lst ys)->(∀b o,b≠E->H1 b=some o->H2 b=some o)->Pi i v H1->Pi i v H2)
  (go:∀i H1,ao H H1->i<n->J.go i H1) (stop:∀H1,ao H H1->J.stop n H1)
  (step:∀i τ x H1 H2,i<n->Tp τ->ao H H1->(∃ys,H1 E=some (.lst ys))->J.yld i H1 x H2->EG Y tg x τ H2 λτ2 H3=>EV Y elt τ2 H3 λv H4=>Tp τ2/\Pi i v H4/\ao H1 H4)
  (fin:∀H1 xs,xs.length=n->(∀i v,xs[i]? =some v->Pi i v H1)->H1 E=some (.lst xs)->ao H H1->Q H1):nU X Y tg elt [] J E τ0 H Q:=by
 refine⟨λi m τ H1=>m=n-i/\i≤n/\ao H H1/\Tp τ/\∃xs,H1 E=some (.lst xs)/\xs.length=i/\∀k v,xs[k]? =some v->Pi k v H1,⟨n,by simp,Nat.zero_le _,ao.upd hE,hT,[],ak,rfl,λk v e=>by simp at e⟩,?_⟩
 rintro i m τ H1 ⟨rfl,hi,s1,hτ,xs,eE,lx,px⟩
 by_cases hlt:i<n
 .refine .inr ⟨go i H1 s1 hlt,λτ' H'=>ao H H'/\Tp τ'/\∃xs,H' E=some (.lst xs)/\xs.length=i+1/\∀k v,xs[k]? =some v->Pi k v H',λτ' H' ⟨a,b,c⟩=>⟨n-(i+1),by omega,rfl,hlt,a,b,c⟩,λx H2 y=>?_⟩
  intro pins s u I r
  refine cR (step i τ x H1 H2 hlt hτ s1 ⟨xs,eE⟩ y pins s u I r) λ_ s' ⟨τ2,H3,I3,q3⟩=>⟨τ2,H3,I3,yD ?_⟩
  rw[if_pos rfl]
  refine bJ q3 λv H4 ⟨t2,pv,s2⟩=>⟨xs,s2 _ _ eE,by omega,?_⟩
  have mm:∀k w',Pi k w' H4->Pi k w' (upd H4 E (.lst (xs++[v]))):=λk w' q=>mono k w' H4 _ xs (s2 _ _ eE) (λb o hb e=>by rw[az hb];exact e) q
  refine⟨λb o e=>?_,t2,xs++[v],ak,by simp[lx],λk u e=>?_⟩
  .rw[az (au e hE)]
   exact s2 _ _ (s1 _ _ e)
  .by_cases hk:k<xs.length
   .rw[List.getElem?_append_left hk]at e
    refine mono k u H1 _ xs eE (λb o hb e=>?_) (px k u e)
    rw[az hb]
    exact s2 _ _ e
   .have hk2:k=i:=by
     have :=(List.getElem?_eq_some_iff.mp e).1
     rw[List.length_append,List.length_singleton]at this
     omega
    subst hk2
    rw[<-lx,List.getElem?_concat_length]at e
    cases e
    exact mm _ _ pv
 .have e:i=n:=by omega
  subst e
  exact .inl ⟨stop H1 s1,fin H1 xs lx px eE s1⟩
variable{tg elt iter:Expr}{scope:Scope}{σ':St}
def GQ(X:Cx)(N':List Str)(scope:Scope)(tg elt:Expr)(σ':St)(H1:Hp)(Q:VK)(n:Nat)(G:Nat->Hp->V->Hp->Prop):Prop:=
 ∃(Tp:St->Prop) (Pi:Addr->Nat->V->Hp->Prop),Tp σ'/\
  (∀E i v H2 H3 ys,H2 E=some (.lst ys)->(∀b o,b≠E->H2 b=some o->H3 b=some o)->Pi E i v H2->Pi E i v H3)/\
  (∀(fp:List Addr) (E C:Addr) (s3:Shared) (H0:Hp) (i:Nat) (τ:St) (x:V) (H2 H3:Hp),H1 E=none->i<n->Tp τ->ao H1 H2->(∃ys,H2 E=some (.lst ys))->G i H2 x H3->
   EG (Ci X N' scope (cj scope X.env) C s3 H0 fp) tg x τ H3 λτ2 H4=>EV (Ci X N' scope (cj scope X.env) C s3 H0 fp) elt τ2 H4 λv H5=>Tp τ2/\Pi E i v H5/\ao H2 H5)/\
  ∀(E:Addr) (H2:Hp) (xs:List V),H1 E=none->xs.length=n->(∀i v,xs[i]? =some v->Pi E i v H2)->H2 E=some (.lst xs)->ao H1 H2->Q (.ref E) H2
theorem Nf{N':List Str}{J:It}{n:Nat}{G:Nat->Hp->V->Hp->Prop}(hn:n≤sizeLine)(go:∀i H2,ao H H2->i<n->J.go i H2)(stop:∀H2,ao H H2->J.stop n H2)
  (yl:∀i H2 x H3,i<n->ao H H2->J.yld i H2 x H3->G i H2 x H3) (h:GQ X N' scope tg elt σ' H Q n G):
  ∀(fp:List Addr) (D C:Addr) (s3:Shared),H D=none->nU X (Ci X N' scope (cj scope X.env) C s3 (upd H D (.lst [])) fp) tg elt [] J D σ' H (λH'=>Q (.ref D) H'):=by
 intro fp E C s3 hE
 obtain⟨Tp,Pi,t0,mono,step,fin⟩:=h
 exact Uo n hn Tp t0 (Pi E) hE (λi v H1 H2 ys=>mono E i v H1 H2 ys) go stop (λi τ x H1 H2 hi ht hs hy y=>step fp E C s3 _ i τ x H1 H2 hE hi ht hs hy (yl i H1 x H2 hi hs y)) λH1 xs l px eE s=>fin E H1 xs hE l px eE s
theorem nQ(N':List Str)(hσ:gr N' X.N σ scope=σ')(hc:X.calm=true)(S:dC X.env scope)(hs:∀x,foldedSetIterable e X.env x=pure x)
  (h:EV X e σ H λv H1=>∃l xs,v= .ref l/\bc X.K H1 l xs/\xs.length≤sizeLine/\GQ X N' scope tg elt σ' H1 Q xs.length λi H2 x H3=>xs[i]? =some x/\H2=H3):
  EV X (.ListComp elt [⟨tg,e,[],0⟩] scope pos) σ H Q:=by
 refine tL (N':=N') hc S hs (sW (bJ h λv H1 q=>?_))
 obtain⟨l,xs,rfl,hl,hz,hw⟩:=q
 refine⟨l,rfl,⟨xs,hl⟩,?_⟩
 rw[hσ]
 refine Nf hz (λi H2 s hi=>⟨xs,xs[i],ao.seq s hl,List.getElem?_eq_getElem hi⟩) (λH2 s=>⟨xs,ao.seq s hl,Nat.le_refl _⟩) (λi H2 x H3 hi s y=>⟨y.2 xs (ao.seq s hl),y.1.symm⟩) hw
theorem Nj(N':List Str)(hσ:gr N' X.N σ scope=σ')(hc:X.calm=true)(S:dC X.env scope)
  (hg:Gl X "range") (hm:X.mg "range"=none) (hs:starEach [a] X.env=[(false,eval a X.env)])
  (h:EV X a σ H λv H1=>∃n:Int,v= .int n/\ -(2^62)≤n/\n.toNat≤sizeLine/\GQ X N' scope tg elt σ' H1 Q n.toNat λi H2 x H3=>x= .int i/\H2=H3):
  EV X (.ListComp elt [⟨tg,.Call (.Name "range" p) [a] [] p',[],0⟩] scope pos) σ H Q:=by
 refine tL (N':=N') hc S (by intro _;rfl) (vX hg hm hs (iI hs (bJ h λv H1 q=>?_)))
 obtain⟨n,rfl,h1,h2,hw⟩:=q
 have hsz:(sizeLine:Nat)<2^62:=by rw[sizeLine_eq];decide
 refine kZ ⟨n,rfl,h1,by omega,?_⟩
 rw[hσ]
 exact Nf h2 (λi H2 s hi=>hi) (λH2 s=>Nat.le_refl _) (λi H2 x H3 hi s y=>⟨by rw[y.2,Int.zero_add],y.1.symm⟩) hw
theorem T6{b:Expr}{elts:List Expr}{k:Nat}{tp:Pos}(N':List Str)(hσ:gr N' X.N σ scope=σ')(hc:X.calm=true)(S:dC X.env scope)
  (hg:Gl X "zip") (hm:X.mg "zip"=none) (hs:starEach [a,b] X.env=[(false,eval a X.env),(false,eval b X.env)]) (hs2:starEach [b] X.env=[(false,eval b X.env)])
  (h:EV X a σ H λv H1=>EV X b σ H1 λv' H2=>∃l m xs ys,v= .ref l/\v'= .ref m/\H2 l=some (.lst xs)/\H2 m=some (.lst ys)/\min xs.length ys.length≤sizeLine/\
   GQ X N' scope (.Tuple elts k tp) elt σ' H2 Q (min xs.length ys.length) λi H3 x H4=>∃T y z,x= .ref T/\H3 T=none/\H4=upd H3 T (.tup [y,z])/\xs[i]? =some y/\ys[i]? =some z):
  EV X (.ListComp elt [⟨.Tuple elts k tp,.Call (.Name "zip" p) [a,b] [] p',[],0⟩] scope pos) σ H Q:=by
 refine tL (N':=N') hc S (by intro _;rfl) (aaD hg hm hs hs2 (bJ h λv H1 q=>bJ q λv' H2 q=>?_))
 obtain⟨l,m,xs,ys,e1,e2,hl,hm',h2,hw⟩:=q
 refine⟨l,m,xs,ys,e1,e2,hl,hm',?_⟩
 rw[hσ]
 have S1:bc X.K H2 l xs:=.inl (.inl hl)
 have S2:bc X.K H2 m ys:=.inl (.inl hm')
 refine Nf h2 (λi H3 s hi=>⟨xs,ys,xs[i]'(by omega),ys[i]'(by omega),ao.seq s S1,ao.seq s S2,List.getElem?_eq_getElem _,List.getElem?_eq_getElem _⟩) (λH3 s=>⟨xs,ys,ao.seq s S1,ao.seq s S2,Nat.le_refl _⟩) (λi H3 x H4 hi s y=>?_) hw
 obtain⟨T,u,u',a1,a2,a3,a4,a5⟩:=y
 exact⟨T,u,u',a1,a2,a3,a4 xs (ao.seq s S1),a5 ys (ao.seq s S2)⟩
theorem Vn{elts:List Expr}{k:Nat}{tp:Pos}{body:List Stmt}(hp:PassesOwn (model X.prog X.w) X.A X.env X.xe)(hc:X.calm=true)(hg:Gl X "enumerate")(hm:X.mg "enumerate"=none)(hs:starEach [a] X.env=[(false,eval a X.env)])
  (h:EV X a σ H λv H1=>∃l xs,v= .ref l/\H1 l=some (.lst xs)/\∃Pv:Nat->St->Hp->Prop,Pv 0 σ H1/\(∀i σ' H',i≤xs.length->Pv i σ' H'->bc X.K H' l xs)/\
   (∀i x T σ' H',xs[i]? =some x->Pv i σ' H'->H' T=none->EG X (.Tuple elts k tp) (.ref T) σ' (upd H' T (.tup [.int i,x])) λσ2 H2=>lz X body {D with nx:=Pv (i+1),ct:=Pv (i+1),bk:=D.nx} σ2 H2)/\∀σ' H',Pv xs.length σ' H'->D.nx σ' H'):
  SX X (.For (.Tuple elts k tp) (.Call (.Name "enumerate" p) [a] [] p') body [] pos) D σ H:=by
 refine vG hp hc (by intro _;rfl) (Xi hg hm hs (bJ h λv H1 q=>?_))
 obtain⟨l,xs,rfl,hq,Pv,h0,hl,hst,hd⟩:=q
 refine⟨l,xs,rfl,hq,λi m σ H=>m=xs.length-i/\i≤xs.length/\Pv i σ H,⟨xs.length,by simp,Nat.zero_le _,h0⟩,?_⟩
 rintro i m σ' H' ⟨rfl,hi,p⟩
 have hS:=hl i σ' H' hi p
 by_cases hlt:i<xs.length
 .refine .inr ⟨⟨xs,xs[i],hS,List.getElem?_eq_getElem hlt⟩,Pv (i+1),λσ2 H2 p2=>⟨xs.length-(i+1),by omega,rfl,hlt,p2⟩,λx H2 y=>?_⟩
  obtain⟨T,u,e1,e2,e3,e4⟩:=y
  subst e1 e3
  exact hst i u T σ' H' (e4 xs hS) p e2
 .have e:i=xs.length:=by omega
  subst e
  exact .inl ⟨⟨xs,hS,Nat.le_refl _⟩,hd σ' H' p⟩
end
section
variable{Kt:Type} [DecidableEq Kt] [BEq Kt] [LawfulBEq Kt]
def jO(ks:List Kt):List Kt:=ks.foldl (λa k=>if k∈a then a else a++[k]) []
theorem jz(ks:List Kt)(k:Kt):jO (ks++[k])=if k∈jO ks then jO ks else jO ks++[k]:=by
 unfold jO
 rw[List.foldl_append]
 rfl
theorem tX:∀n (ks:List Kt),ks.length=n->(jO ks).length≤ks.length
 |0,ks,h=>by rw[List.length_eq_zero_iff.mp h];exact Nat.le_refl _
 |n+1,ks,h=>by
  obtain⟨l,k,rfl⟩:∃l k,ks=l++[k]:=⟨_,_,(List.dropLast_concat_getLast (List.ne_nil_of_length_eq_add_one h)).symm⟩
  have hl:l.length=n:=by simpa using h
  have ih:=tX n l hl
  rw[jz]
  split <;>simp <;>omega
theorem Cg:∀n (ks:List Kt),ks.length=n->∀k,k∈jO ks↔k∈ks
 |0,ks,h=>by rw[List.length_eq_zero_iff.mp h];intro k;exact Iff.rfl
 |n+1,ks,h=>by
  obtain⟨l,x,rfl⟩:∃l k,ks=l++[k]:=⟨_,_,(List.dropLast_concat_getLast (List.ne_nil_of_length_eq_add_one h)).symm⟩
  have hl:l.length=n:=by simpa using h
  have ih:=Cg n l hl
  intro k
  rw[jz,List.mem_append,List.mem_singleton]
  split
  .rename_i hx
   rw[ih]
   constructor
   .exact .inl
   .rintro(e |e)
    .exact e
    .rw[e];exact(ih x).mp hx
  .rw[List.mem_append,List.mem_singleton,ih]
theorem yo:∀n (ks:List Kt),ks.length=n->((jO ks).length=ks.length↔ks.Nodup)
 |0,ks,h=>by rw[List.length_eq_zero_iff.mp h];simp[jO]
 |n+1,ks,h=>by
  obtain⟨l,x,rfl⟩:∃l k,ks=l++[k]:=⟨_,_,(List.dropLast_concat_getLast (List.ne_nil_of_length_eq_add_one h)).symm⟩
  have hl:l.length=n:=by simpa using h
  have ih:=yo n l hl
  have le:=tX n l hl
  have me:=Cg n l hl x
  rw[jz,List.nodup_append]
  split
  .rename_i hx
   constructor
   .intro e;simp at e;omega
   .intro e;exact absurd rfl (e.2.2 x (me.mp hx) x (by simp))
  .rename_i hx
   rw[List.length_append,List.length_append,List.length_singleton]
   constructor
   .intro e
    refine⟨ih.mp (by omega),by simp,λa ha b hb=>?_⟩
    rw[List.mem_singleton.mp hb]
    intro e'
    exact hx (me.mpr (e'▸ha))
   .intro e
    rw[ih.mpr e.1]
end
section
variable{prog:Program}{w:World}{A:Around}{E:Value->Shared->Prop}{s:Shared}{zs:List Str}{us:Array Value}
def strAt(us:Array Value)(zs:List Str):Prop:=∀(i:Nat) (v:Value),us[i]? =some v->∃t z,v= .str z t/\zs[i]? =some z
def Vg(prog:Program)(w:World)(h:Heap)(S:Addr)(zs:List Str):Prop:=h.SetOf (strKind prog w) S (λk=>decide (k∈jO zs)) (jO zs).length
theorem Vg.stay{h h':Heap}{S:Addr}(x:Vg prog w h S zs)(k:∀o,h.get? S=some o->h'.get? S=some o):Vg prog w h' S zs:=by
 obtain⟨o,es,ep,t,ho,rest⟩:=x
 exact⟨o,es,ep,t,k _ ho,rest⟩
theorem R7{R:Result->Shared->Prop}{it:Addr}{fp wr:List Addr}{G:Array GenState->Array GenState->Prop}{St:Nat->Shared->Prop}
  (W:WalksS prog w A.in1 it fp wr G us.size (λi v=>us[i]? =some v) St) (S:Addr) (hS:S∉fp) (hz:strAt us zs) (hl:us.size=zs.length) (hb:us.size+1<scanBound) (d:Nat):
  ∀(i:Nat) (s:Shared),d+i=us.size->St i s->Vg prog w s.heap S (zs.take i)->
   (∀s',Moved (S::wr) G s s'->Vg prog w s'.heap S zs->R (.ok (.ret .none)) s')->codeAny (model prog w) A (.builtin "set.update.loop" ⟨[.ref S,.ref it],[]⟩) R s:=by
 have hSw:S∉wr:=λh=>hS (W.sub _ h)
 have up:∀b∈wr,b∈S::wr:=λb hb=>List.mem_cons_of_mem _ hb
 induction d with
 |zero=>
  intro i s hi st ts hR
  have e:i=us.size:=by omega
  subst e
  refine codeAny_builtin F.entry_set_update_loop ?_
  rw[Around.under_plainId F.plain_set_update_loop _]
  refine wpAny_bind (m:=pyNext (.ref it)) (W.done s _ _ st λs' hm=>?_)
  refine wpAny_pure (hR s' (hm.mono up) ?_)
  rw[hl,List.take_length]at ts
  exact ts.stay λo ho=>hm.heap S o hSw ho
 |succ d ih=>
  intro i s hi st ts hR
  refine codeAny_builtin F.entry_set_update_loop ?_
  rw[Around.under_plainId F.plain_set_update_loop _]
  refine wpAny_bind (m:=pyNext (.ref it)) (W.item i s _ _ (by omega) st λv s' hv st' hm=>?_)
  obtain⟨t,z,rfl,ez⟩:=hz i v hv
  have ts':=ts.stay (h':=s'.heap) λo ho=>hm.heap S o hSw ho
  show wpAny _ A.in1 (holding [Value.str z t] (setAdd S (.str z t))>>=_) _ _ s'
  refine wpAny_bind (wpAny_holding ?_)
  unfold setAdd
  refine wpAny_holding (wpAny_bind ((strKind prog w).pyHash (k:=z) (strKind_is _ _ _ _) ?_))
  have et:zs.take (i+1)=zs.take i++[z]:=by rw[List.take_add_one,ez];rfl
  have room:(jO (zs.take i)).length+1<scanBound:=by
   have :=tX _ (zs.take i) rfl
   have :(zs.take i).length≤zs.length:=by simp;omega
   omega
  refine wpAny_setAddHashed_of (knd:=strKind prog w) (s:={s' with toks:=s'.toks+1}) (strKind_is _ _ _ _) rfl ts' room λh' sb ts2=>?_
  have ts3:Vg prog w h' S (zs.take (i+1)):=by
   refine SetOf_congr ts2 (λk=>?_) ?_
   .rw[et,jz]
    split
    .rename_i hk
     by_cases e:k=z
     .subst e;simp[hk]
     .simp[e]
    .by_cases e:k=z
     .subst e;simp
     .simp[e]
   .rw[et,jz]
    by_cases hk:z∈jO (zs.take i)
    .simp[hk]
    .simp[hk]
  refine wpAny_pure ⟨plainId_quiet F.plain_set_update_loop _,ih (i+1) _ (by omega) (W.frame _ s' _ _ st' (Nat.le_succ _) λb hb o e=>?_) ts3 λs2 hm2 ts4=>?_⟩
  .rw[sb.2 b (λh:b=S=>hS (h▸hb))];exact e
  .refine hR s2 (Moved.trans W.gtrans ((hm.mono up).then_heap (Nat.le_succ _) λb o hb e=>?_) hm2) ts4
   rw[sb.2 b (λh:b=S=>hb (h▸List.mem_cons_self))];exact e
abbrev newSet(h:Heap)(led:Bool):Heap:=h.push {cls:=.type "set",dict:=none,data:=.set #[] 0 (.fresh 0 0 led)}
set_option maxRecDepth 100000 in
theorem QX{l S:Addr}{Q:Value->Shared->Prop}(hh:A.handled=none)(hl:s.heap.IsList l us)(hS:∃led,s.heap.get? S=some {cls:=.type "set",dict:=none,data:=.set #[] 0 (.fresh 0 0 led)})
  (hz:strAt us zs) (hn:us.size=zs.length) (hb:us.size+1<scanBound)
  (h:∀(h':Heap) (tk:Nat),Vg prog w h' S zs->(∀b o,b≠S->s.heap.get? b=some o->h'.get? b=some o)->Q .none {s with heap:=h',toks:=tk}):
  codeAny (model prog w) A (.call (.builtin "set.__init__") ⟨[.ref S,.ref l],[]⟩) (wants Q E) s:=by
 obtain⟨led,hS⟩:=hS
 have hT:s.TypeIs (.ref S) "set":=⟨_,hS,rfl⟩
 refine codeAny_call_builtin F.called_set.init.plain F.entry_set_init (check_set_init_1 hT ?_)
 have hl0:=hl
 obtain⟨⟨oc,od,odata,os⟩,hol,hc,nl,hd⟩:=hl
 simp only at hc hd
 subst hc hd
 have f1:=F.sub_list_set
 have f2:=F.sub_list_frozenset
 have f3:(Value.type "list"==Value.type "dict")=false:=by decide
 unfold Builtin.«set.__init__» noKeywords Builtin.Frozenset.updateFrom
 generalize hPI:pyIter=PI
 wp_walk
 subst hPI
 refine wpAny_pyIter_list hl0 (wpAny_bind (wpAny_runValue ?_))
 have lS:S<s.heap.objs.size:=Heap.lt_size hS
 have ll:l<s.heap.objs.size:=Heap.lt_size hol
 have h3:A.in1.in1.handled=none:=by simp[hh]
 have hlS:S≠l:=λe=>by subst e;rw[hS]at hol;simp at hol
 refine R7 (us:=us) ((Walks.list h3 _ l (Nat.ne_of_lt ll) us).toS) S (by simp only[List.mem_cons,List.not_mem_nil,or_false,not_or];exact⟨Nat.ne_of_lt lS,hlS⟩) hz hn hb us.size 0 {s with heap:=s.heap.push {cls:=.type "list_iterator",data:=.fields #[.ref l,.int 0 0]}} (by omega)
  ⟨⟨_,Heap.get?_push_size _ rfl,rfl,rfl⟩,(hl0.push _)⟩ ?_ ?_
 .have hget:=Heap.get?_push_of_some {cls:=.type "list_iterator",data:=.fields #[.ref l,.int 0 0]} hS
  exact SetOf_congr ((setObjOf_fresh (knd:=strKind prog w) led).setOf hget (by unfold scanBound;omega)) (λ_=>rfl) rfl
 .intro s' hm ts
  obtain⟨h',g',d',tk',os'⟩:=s'
  have eg:g'=s.gens:=hm.gens
  have ed:d'=s.drawn:=hm.drawn
  have eo:os'=s.os:=hm.os
  subst eg ed eo
  refine wpAny_pure ?_
  show wpAny _ _ (ret Value.none) _ _ _
  refine wpAny_pure (h h' tk' ts λb o hb e=>?_)
  refine hm.heap b o ?_ (Heap.get?_push_of_some _ e)
  simp only[List.mem_cons,List.not_mem_nil,or_false,not_or]
  exact⟨hb,Nat.ne_of_lt (Heap.lt_size e)⟩
set_option maxRecDepth 100000 in
theorem yt{l:Addr}{Q:Value->Shared->Prop}(hh:A.handled=none)(hl:s.heap.IsList l us)(hz:strAt us zs)(hn:us.size=zs.length)(hb:us.size+1<scanBound)
  (h:∀(h':Heap) (tk:Nat),Vg prog w h' s.heap.objs.size zs->(∀b o,s.heap.get? b=some o->h'.get? b=some o)->Q (.ref s.heap.objs.size) {s with heap:=h',toks:=tk}):
  wpAny (model prog w) A (call (.type "set") [.ref l]) Q E s:=by
 obtain⟨c,tl,hmro⟩:=F.called_set.mro
 have hmade:=F.called_set.made
 have hsub:=F.called_set.sub
 have h1:=F.called_set.notType
 have h2:=F.called_set.canCreate
 have hct:=F.typeCall_set_1 (.ref l)
 refine wpAny_call (codeAny_of_tree ?_)
 show wpAny _ _ (callAny (.type "set") _) _ _ _
 refine wpAny_pure ⟨Code.quiet_builtin _ (by decide+kernel),codeAny_builtin F.entry_type_call ?_⟩
 rw[Around.under_plain (weight_type_call_type "set" [.ref l] []) rfl]
 repeat (any_goals (first |assumption |wp_step))
 refine codeAny_mono (code_set_new_1 (.ref l) (E:=E) (Q₁:=λobj s₁=>∃led:Bool,obj= .ref s.heap.objs.size/\s₁={s with heap:=newSet s.heap led}) λled=>⟨led,rfl,rfl⟩) λr s₁ hr=>?_
 rcases r with e |(_ |_ |_ |obj)
 all_goals first |exact hr |exact hr.elim |skip
 obtain⟨led,rfl,rfl⟩:=hr
 have hS:(newSet s.heap led).get? s.heap.objs.size=some {cls:=.type "set",dict:=none,data:=.set #[] 0 (.fresh 0 0 led)}:=Heap.get?_push_size _ rfl
 have hT:Shared.TypeIs {s with heap:=newSet s.heap led} (.ref s.heap.objs.size) "set":=⟨_,hS,rfl⟩
 have hli:=F.called_set.init.lookup
 have hbi:=F.called_set.init.bind (.ref s.heap.objs.size)
 repeat (any_goals (first |assumption |wp_step))
 refine codeAny_mono (QX (E:=E) (s:={s with heap:=newSet s.heap led}) (Q:=λr s₂=>r= .none/\∃h' tk,s₂={s with heap:=h',toks:=tk}/\Vg prog w h' s.heap.objs.size zs/\∀b o,s.heap.get? b=some o->h'.get? b=some o) (by simp[hh]) (hl.push _) ⟨led,hS⟩ hz hn hb λh' tk ts k=>⟨rfl,h',tk,rfl,ts,λb o e=>k b o (Nat.ne_of_lt (Heap.lt_size e)) (Heap.get?_push_of_some _ e)⟩) λr₂ s₂ hr₂=>?_
 rcases r₂ with e |(_ |_ |_ |r)
 all_goals first |exact hr₂ |exact hr₂.elim |skip
 obtain⟨rfl,h',tk,rfl,ts,k⟩:=hr₂
 repeat (any_goals (first |assumption |wp_step))
 exact h _ _ ts k
end
section
variable{X:Cx}{H:Hp}{Q:VK}{v:V}
def zx(X:Cx)(S:Addr)(zs:List Str):HO:=.ext λh=>Vg X.prog X.w h S zs
theorem Y6{q:Addr}{zs:List Str}(hc:X.calm=true)(h:bc X.K H q (zs.map V.str))(hz:zs.length≤4000)(g:∀S,H S=none->Q (.ref S) (upd H S (zx X S zs))):CL X (.type "set") [.ref q] H Q:=by
 refine jG (r:=λxs H Q=>∃q zs,xs=[.ref q]/\bc X.K H q (zs.map V.str)/\zs.length≤4000/\∀S,H S=none->Q (.ref S) (upd H S (zx X S zs))) ?_ ⟨q,zs,rfl,h,hz,g⟩
 intro pins s σ H xs us Q I r h
 obtain⟨q,zs,rfl,h,hz,g⟩:=h
 obtain⟨u,rfl,ru⟩:=vals1 r
 cases(show u=Value.ref q from ru)
 obtain⟨its,rv,pl,_⟩:=I.list h
 have hl:its.length=zs.length:=by have :=rv.length;rw[List.length_map]at this;exact this.symm
 have hat:strAt its.toArray zs:=λi v e=>by
  have e':its[i]? =some v:=by simpa using e
  have hi:i<zs.length:=by rw[<-hl];exact(List.getElem?_eq_some_iff.mp e').1
  obtain⟨u,e1,e2⟩:=rv.get (i:=i) (x:=V.str zs[i]) (by simp[hi])
  rw[e']at e1
  cases e1
  obtain⟨t,rfl⟩:=e2
  exact⟨t,zs[i],rfl,List.getElem?_eq_getElem hi⟩
 refine yt (I.ok.hd hc) pl.isList hat (by simpa using hl) (by show _<4096;simp;omega) λh' tk ts k=>?_
 refine⟨.ref s.heap.objs.size,_,I.laid (t':=tk) (o:=zx X s.heap.objs.size zs) k (Nat.le_refl _) ⟨ts,?_,λh1 h2 ts hk=>ts.stay hk⟩,rfl,g _ (I.hok.fresh (Nat.le_refl _))⟩
 obtain⟨o,es,ep,t,ho,_⟩:=ts
 exact⟨o,ho⟩
theorem afd{S:Addr}{zs:List Str}(h:H S=some (zx X S zs))(hz:zs.length≤4000)(g:Q (.int (jO zs).length) H):CL X (.builtin "len") [.ref S] H Q:=by
 refine jG (r:=λxs H Q=>∃S zs,xs=[.ref S]/\H S=some (zx X S zs)/\zs.length≤4000/\Q (.int (jO zs).length) H) ?_ ⟨S,zs,rfl,h,hz,g⟩
 intro pins s σ H xs us Q I r h
 obtain⟨S,zs,rfl,h,hz,g⟩:=h
 obtain⟨u,rfl,ru⟩:=vals1 r
 cases(show u=Value.ref S from ru)
 obtain⟨⟨o,es,ep,t,ho,hex,hd,hel,hm,hb,hf,hn⟩,_⟩:=I.hok S _ h
 have le:=tX _ zs rfl
 refine call_len_set ho hex hd hf (by omega) ⟨.int es.size,H,I.tok _,⟨_,rfl⟩,?_⟩
 rw[hn]
 exact g
theorem aea{x:V}{p:Addr}{xs:List V}(h:cA X.K H p xs)(f:jY x=true)(fs:xs.all jY=true)(q:Q (.bl (!PX x xs)) H):OP X (compareOp .NotIn) x (.ref p) H Q:=gA uC ⟨p,xs,rfl,.inr h,f,fs,q⟩
theorem QV{x:V}{p:Addr}{xs:List V}(h:cA X.K H p xs)(f:jY x=true)(fs:xs.all jY=true)(q:Q (.bl (PX x xs)) H):OP X (compareOp .In) x (.ref p) H Q:=gA Oh ⟨p,xs,rfl,.inr h,f,fs,q⟩
theorem aeL{x:V}{p:Addr}{xs:List V}(h:bc X.K H p xs)(f:jY x=true)(fs:xs.all jY=true)(q:Q (.bl (!PX x xs)) H):OP X (compareOp .NotIn) x (.ref p) H Q:=gA uC ⟨p,xs,rfl,.inl h,f,fs,q⟩
theorem adx{l b:Addr}{xs zs:List V}(h1:H l=some (.lst xs))(h2:H b=some (.lst zs))(hz:xs.length+zs.length≤sizeLine)(q:∀p,H p=none->Q (.ref p) (upd H p (.lst (xs++zs)))):OP X (binaryOp .Add) (.ref l) (.ref b) H Q:=gA Z2 ⟨l,b,xs,zs,rfl,rfl,h1,h2,hz,q⟩
end
section
variable{X:Cx}{H:Hp}{D:Ends}{σ σ':St}{e a elt tg:Expr}{scope:Scope}{pos spos py p p':Pos}{y:Str}{j:Nat}
theorem GZ(N':List Str)(hσ:gr N' X.N σ scope=σ')(hsw:swapsWith (.ListComp elt [⟨tg,e,[],0⟩] scope pos) (some (.Name y py)) spos.line X.env=pure true)(hc:X.calm=true)(S:dC X.env scope)(hs:∀x,foldedSetIterable e X.env x=pure x)
  (hN:X.N.Nodup) (hi:nameAt X.N y=some j) (hx:X.env.scope.names.lookup y=some .local)
  (h:EV X e σ H λv H1=>∃l xs,v= .ref l/\bc X.K H1 l xs/\xs.length≤sizeLine/\GQ X N' scope tg elt σ' H1 (λv H'=>D.nx (σ.set j (some v)) H') xs.length λi H2 x H3=>xs[i]? =some x/\H2=H3):
  SX X (.Assign [.Name y py] (.ListComp elt [⟨tg,e,[],0⟩] scope pos) spos) D σ H:=by
 refine Ln (N':=N') hsw hc S hs hN hi hx (sW (bJ h λv H1 q=>?_))
 obtain⟨l,xs,rfl,hl,hz,hw⟩:=q
 refine⟨l,rfl,⟨xs,hl⟩,?_⟩
 rw[hσ]
 refine Nf (J:=Vx X.K l) hz (λi H2 s hi=>⟨xs,xs[i],ao.seq s hl,List.getElem?_eq_getElem hi⟩) (λH2 s=>⟨xs,ao.seq s hl,Nat.le_refl _⟩) (λi H2 x H3 hi s y=>⟨y.2 xs (ao.seq s hl),y.1.symm⟩) hw
end
def cutAt(c:Nat):List Nat->List (List Nat)
 |[]=>[[]]
 |x::r=>if x=c then []::cutAt c r else match cutAt c r with
  |[]=>[[x]]
  |h::t=>(x::h)::t
def lB(c:Nat):List (List Nat)->List Nat
 |[]=>[]
 |[p]=>p
 |p::q::r=>p++c::lB c (q::r)
theorem Hi(c:Nat):∀l,cutAt c l≠[]
 |[]=>by simp[cutAt]
 |x::r=>by
  unfold cutAt
  split
  .simp
  .split <;>simp
theorem BK{c:Nat}:∀{p:List Nat},c∉p->cutAt c p=[p]
 |[],_=>rfl
 |x::r,h=>by
  have ih:=BK (c:=c) (p:=r) λz=>h (by simp[z])
  unfold cutAt
  rw[if_neg (λz=>h (by simp[z])),ih]
theorem Bm{c:Nat}{l:List Nat}:∀{p:List Nat},c∉p->cutAt c (p++c::l)=p::cutAt c l
 |[],_=>by
  show cutAt c (c::l)=_
  rw[cutAt,if_pos rfl]
 |x::r,h=>by
  have ih:=Bm (c:=c) (l:=l) (p:=r) λz=>h (by simp[z])
  show cutAt c (x::(r++c::l))=_
  rw[cutAt,if_neg (λz=>h (by simp[z])),ih]
theorem lZ{c:Nat}:∀{ps:List (List Nat)},ps≠[]->(∀p∈ps,c∉p)->cutAt c (lB c ps)=ps
 |[],h,_=>absurd rfl h
 |[p],_,h=>BK (h p (by simp))
 |p::q::r,_,h=>by
  show cutAt c (p++c::lB c (q::r))=_
  rw[Bm (h p (by simp)),lZ (by simp) λx hx=>h x (List.mem_cons_of_mem _ hx)]
theorem wu(c:Nat):∀l,(cutAt c l).length≤l.length+1
 |[]=>by simp[cutAt]
 |x::r=>by
  have ih:=wu c r
  unfold cutAt
  split
  .simp
   exact ih
  .split
   .simp
   .rename_i h t e
    rw[e]at ih
    simp at ih⊢
    omega
theorem yu(c:Nat):∀l,lB c (cutAt c l)=l
 |[]=>rfl
 |x::r=>by
  have ih:=yu c r
  unfold cutAt
  split
  .rename_i h
   cases e:cutAt c r with
   |nil=>exact absurd e (Hi c r)
   |cons p q=>
    rw[e]at ih
    show []++c::lB c (p::q)=_
    rw[ih,h]
    rfl
  .cases e:cutAt c r with
   |nil=>exact absurd e (Hi c r)
   |cons p q=>
    rw[e]at ih
    simp only
    cases q with
    |nil=>
     show x::p=_
     rw[show p=r from ih]
    |cons y q=>
     show(x::p)++c::lB c (y::q)=_
     rw[<-ih]
     rfl
theorem jx(c:Nat):∀ps:List Str,(Str.join ⟨#[c]⟩ ps).cps.toList=lB c (ps.map λp=>p.cps.toList)
 |[]=>rfl
 |[p]=>rfl
 |p::q::r=>by
  have ih:=jx c (q::r)
  have e:Str.join ⟨#[c]⟩ (p::q::r)=p++⟨#[c]⟩++Str.join ⟨#[c]⟩ (q::r):=rfl
  rw[e]
  show((p.cps++ #[c])++(Str.join ⟨#[c]⟩ (q::r)).cps).toList=_
  simp only[Array.toList_append]
  rw[ih]
  simp[lB]
theorem Ui(x:Str)(c:Nat):Txt.split x ⟨#[c]⟩≠[]:=by
 unfold Txt.split
 split
 .simp
 .split
  .simp
  .unfold Builtin.Str.partsBetween
   simp
theorem split_list(x:Str)(c:Nat):(Txt.split x ⟨#[c]⟩).map (λp=>p.cps.toList)=cutAt c x.cps.toList:=by
 have h1:(Str.join ⟨#[c]⟩ (Txt.split x ⟨#[c]⟩)).cps.toList=x.cps.toList:=by rw[StrLaws.join_split]
 rw[jx]at h1
 rw[<-h1]
 refine(lZ (by simpa using Ui x c) λp hp=>?_).symm
 obtain⟨q,hq,rfl⟩:=List.mem_map.mp hp
 exact StrLaws.split_free x c q hq
def cX(c:Nat)(x:Str):List Str:=(cutAt c x.cps.toList).map λl=>⟨l.toArray⟩
theorem pG(x:Str)(c:Nat):Txt.split x ⟨#[c]⟩=cX c x:=by
 unfold cX
 rw[<-split_list,List.map_map]
 have :((λl:List Nat=>(⟨l.toArray⟩:Str))∘λp:Str=>p.cps.toList)=id:=by
  funext p
  rfl
 rw[this,List.map_id]
section
variable{X:Cx}{H:Hp}{Q:VK}{z y:Str}{v:V}
theorem Bh:∀l:List (Str×Tok),Vals ((l.map (·.1)).map V.str) (strValues l)
 |[]=>.nil
 |p::l=>.cons ⟨p.2,rfl⟩ (Bh l)
theorem m_split{c:Nat}(hz:z.length≤100000)(g:∀p,H p=none->Q (.ref p) (upd H p (.lst ((cX c z).map V.str)))):MT X "str.split" (.str z) [.str ⟨#[c]⟩] H Q:=by
 refine lH (r:=λx xs H Q=>∃z c,x= .str z/\xs=[.str ⟨#[c]⟩]/\z.length≤100000/\∀p,H p=none->Q (.ref p) (upd H p (.lst ((cX c z).map V.str)))) ?_ ⟨z,c,rfl,rfl,hz,g⟩
 intro pins s σ H x xs v us Q I rx rs h
 obtain⟨z,c,rfl,rfl,hz,g⟩:=h
 obtain⟨t,rfl⟩:=rx
 obtain⟨u,rfl,ru⟩:=vals1 rs
 obtain⟨t',rfl⟩:=ru
 have hl:(cX c z).length≤z.length+1:=by
  have h1:=wu c z.cps.toList
  unfold cX
  rw[List.length_map]
  have h2:z.cps.toList.length=z.length:=rfl
  omega
 have hsz:sizeLine=16777216:=sizeLine_eq
 have fin:∀(l:List (Str×Tok)) (tk:Nat),l.map (·.1)=cX c z->EP X pins σ Q (.ref s.heap.objs.size) {s with toks:=tk,heap:=s.heap.push {cls:=.type "list",data:=.seq (strValues l).toArray}}:=λl tk e=>
  ⟨.ref s.heap.objs.size,_,I.laid (t':=tk) (o:=.lst ((cX c z).map V.str)) (λb o q=>Heap.get?_push_of_some _ q) (Nat.le_refl _) ⟨by rw[List.length_map];omega,strValues l,_,by rw[<-e];exact Bh l,Heap.get?_push_size _ rfl⟩,rfl,g _ (I.hok.fresh (Nat.le_refl _))⟩
 cases h1:(decide (z.length<(⟨#[c]⟩:Str).length)||decide (Builtin.Str.strKind z<Builtin.Str.strKind ⟨#[c]⟩))
 .cases hf:(Builtin.Str.occurrences z ⟨#[c]⟩ 0 z.length (z.length+1)).isEmpty
  .have e:Txt.split z ⟨#[c]⟩=Builtin.Str.partsBetween z (Builtin.Str.occurrences z ⟨#[c]⟩ 0 z.length (z.length+1)) (⟨#[c]⟩:Str).length:=by
    unfold Txt.split
    rw[if_neg (by rw[h1];decide),if_neg (by rw[hf];decide)]
   have hlp:=hl
   rw[<-pG,e]at hlp
   refine call_meets F.slot_str_split (typeIs_str _ _ _) F.entry_str_split (F.args_str_split_2 _ _) (meets_str_split_sep z ⟨#[c]⟩ t t' h1 rfl hf (by omega) (by omega)) ?_
   have :=fin (numbered s.toks (Txt.split z ⟨#[c]⟩)) (s.toks+(Builtin.Str.partsBetween z (Builtin.Str.occurrences z ⟨#[c]⟩ 0 z.length (z.length+1)) (⟨#[c]⟩:Str).length).length) (by rw[numbered_texts,pG])
   rw[<-strsFrom_eq,e]at this
   exact this
  .have e:Txt.split z ⟨#[c]⟩=[z]:=by
    unfold Txt.split
    rw[if_neg (by rw[h1];decide),if_pos hf]
   exact call_meets F.slot_str_split (typeIs_str _ _ _) F.entry_str_split (F.args_str_split_2 _ _) (meets_str_split_not_found z ⟨#[c]⟩ t t' h1 rfl hf) (fin [(z,t)] s.toks (by rw[<-pG,e];rfl))
 .have e:Txt.split z ⟨#[c]⟩=[z]:=by
   unfold Txt.split
   rw[if_pos h1]
  exact call_meets F.slot_str_split (typeIs_str _ _ _) F.entry_str_split (F.args_str_split_2 _ _) (meets_str_split_cannot_occur z ⟨#[c]⟩ t t' h1) (fin [(z,t)] s.toks (by rw[<-pG,e];rfl))
theorem ai7{c:Nat}(q:Q (.int c) H):CL X (.builtin "ord") [.str ⟨#[c]⟩] H Q:=by
 refine jG (r:=λxs H Q=>∃c:Nat,xs=[.str ⟨#[c]⟩]/\Q (.int c) H) ?_ ⟨c,rfl,q⟩
 intro pins s σ H xs us Q I r h
 obtain⟨c,rfl,q⟩:=h
 obtain⟨u,rfl,ru⟩:=vals1 r
 obtain⟨t,rfl⟩:=ru
 exact P.ord_of_char ⟨.int c,H,I.tok _,⟨_,rfl⟩,q⟩
theorem WX{i:Int}(hi:0≤i)(hi2:i<1000)(g:Q (.str (Txt.zfill z i)) H):MT X "str.zfill" (.str z) [.int i] H Q:=by
 refine lH (r:=λx xs H Q=>∃z i,x= .str z/\xs=[.int i]/\0≤i/\i<1000/\Q (.str (Txt.zfill z i)) H) ?_ ⟨z,i,rfl,rfl,hi,hi2,g⟩
 intro pins s σ H x xs v us Q I rx rs h
 obtain⟨z,i,rfl,rfl,hi,hi2,g⟩:=h
 obtain⟨t,rfl⟩:=rx
 obtain⟨u,rfl,ru⟩:=vals1 rs
 obtain⟨t',rfl⟩:=ru
 refine SC.zfill ?_ λt2 k=>⟨.str _,H,I.tok k,⟨t2,rfl⟩,g⟩
 exact padOk_of (by omega) (by omega)
theorem XN(hc:X.calm=true)(hz:z.length≤100000)(g:∀p,H p=none->Q (.ref p) (upd H p (.lst (z.cps.toList.map λc=>V.str ⟨#[c]⟩)))):CL X (.type "list") [.str z] H Q:=by
 refine jG (r:=λxs H Q=>∃z:Str,xs=[.str z]/\z.length≤100000/\∀p,H p=none->Q (.ref p) (upd H p (.lst (z.cps.toList.map λc=>V.str ⟨#[c]⟩)))) ?_ ⟨z,rfl,hz,g⟩
 intro pins s σ H xs us Q I r h
 obtain⟨z,rfl,hz,g⟩:=h
 obtain⟨u,rfl,ru⟩:=vals1 r
 obtain⟨t,rfl⟩:=ru
 have hsz:sizeLine=16777216:=sizeLine_eq
 have hl:z.cps.size=z.length:=rfl
 refine call_list_str (I.ok.hd hc) z t (λh' tk acc c' hk hS ha=>?_) (by omega)
 refine⟨.ref s.heap.objs.size,_,I.laid (t':=tk) (o:=.lst (z.cps.toList.map λc=>V.str ⟨#[c]⟩)) hk (Nat.le_refl _) ⟨by simp;omega,acc.toList,c',?_,by simpa using hS⟩,rfl,g _ (I.hok.fresh (Nat.le_refl _))⟩
 have hv:∀(l:List Nat) (vs:List Value),vs.length=l.length->(∀(j:Nat) v,vs[j]? =some v->∃c u,l[j]? =some c/\v= .str ⟨#[c]⟩ u)->Vals (l.map λc=>V.str ⟨#[c]⟩) vs:=by
  intro l
  induction l with
  |nil=>intro vs h _;have :vs=[]:=by simpa using h
        subst this;exact .nil
  |cons c l ih=>
   intro vs h k
   cases vs with
   |nil=>simp at h
   |cons v vs=>
    obtain⟨c',u,e,rfl⟩:=k 0 v rfl
    have :c=c':=by simpa using e
    subst this
    exact .cons ⟨u,rfl⟩ (ih vs (by simpa using h) λj v e=>by simpa using k (j+1) v (by simpa using e))
 refine hv _ _ (by simpa using ha.1) λj v e=>?_
 obtain⟨c,u,e1,e2⟩:=ha.2 j v (by simpa using e)
 exact⟨c,u,by simpa using e1,e2⟩
end
def Itv(K:W.Frag)(l:Addr)(n:Nat):It:=
 ⟨λi H=>i<n/\∃xs,bc K H l xs/\xs.length=n,λi H x H'=>H'=H/\∀xs,bc K H l xs->xs[n-1-i]? =some x,λi _=>i=n⟩
theorem T4{P:Program}{w:World}{K:W.Frag}{tg:Expr}(l it:Addr)(n:Nat):Turn P w K tg (Itv K l n) [it] it (λi h=>h.IsRevIter it l ((n:Int)-1-(i:Int)))where
 mem:=by simp
 obj:=λi h st b hb=>by
  have e:b=it:=by simpa using hb
  subst e
  obtain⟨o,e,c,d⟩:=st
  exact⟨o,e,λv z=>by rw[d]at z;cases z⟩
 keep:=λi h h' st k=>st.at λo e=>k it (by simp) o e
 item:=by
  intro X hP hw hK hc i pins s σ H E I hf st hg
  subst hP hw hK
  obtain⟨hi,xs,hq,hx⟩:=hg
  obtain⟨its,rv,p,hz⟩:=I.list hq
  have hx':n-1-i<xs.length:=by omega
  obtain⟨u,hu,ru⟩:=rv.get (List.getElem?_eq_getElem hx')
  obtain⟨f0,f1,f2,f3,f4,f5⟩:=hf it (by simp)
  have ei:((n:Int)-1-(i:Int))=((n-1-i:Nat):Int):=by omega
  rw[ei]at st
  refine wpAny_pyNext_rev_item st p.isList (x:=u) (by simpa using hu) λh' st' sb=>?_
  have I1:Inv X pins σ H {s with heap:=h'}:=I.turned (t':=s.toks) (λb o hb e=>(sb.2 b hb).trans e) f0 f1 f3 f4 f5
  obtain⟨o,e,c,d⟩:=id st'
  refine⟨u,rfl,Hv (s:={s with heap:=h'}) e c d (by decide) ⟨_,H,I1,ru,⟨rfl,λys hy=>?_⟩,?_,λb hb=>(hf b hb).1⟩⟩
  .rw[I.list_inj hy hq]
   exact List.getElem?_eq_getElem hx'
  .have e2:((n:Int)-1-((i+1:Nat):Int))=((n-1-i:Nat):Int)-1:=by omega
   rw[e2]
   exact st'
 done:=by
  intro X hP hw hK hc i pins s σ H E I hf st hg
  subst hP hw hK
  obtain⟨f0,f1,f2,f3,f4,f5⟩:=hf it (by simp)
  have e:i=n:=hg
  have e2:((n:Int)-1-(i:Int))= -1:=by omega
  rw[e2]at st
  exact wpAny_pyNext_rev_end (I.ok.hd hc) st λh' eb=>⟨rfl,I.turned (t':=s.toks) (λb o hb e=>eb b o hb e) f0 f1 f3 f4 f5⟩
 self:=λ_ _ _ _ _ st h=>wpAny_pyIter_revIter st h
section
variable{X:Cx}{σ:St}{H:Hp}{a:Expr}{tg:Expr}{p pos p':Pos}{R:It->Hp->Prop}{D:Ends}
theorem abP(hg:Gl X "reversed")(hm:X.mg "reversed"=none)(hs:starEach [a] X.env=[(false,eval a X.env)])
  (h:EV X a σ H λv H1=>∃l xs,v= .ref l/\bc X.K H1 l xs/\R (Itv X.K l xs.length) H1):EI X tg (.Call (.Name "reversed" p) [a] [] pos) σ H R:=by
 intro pins s I
 refine Call_ (qI I hg hm boot_reversed (PyProof.Rows.callWith_type1 (cR (iI (es:=[]) (QA:=λvs H1=>∃l xs,vs=[.ref l]/\bc X.K H1 l xs/\R (Itv X.K l xs.length) H1) hs (bJ h λv H1 ⟨l,xs,e,q1,q2⟩=>kZ ⟨l,xs,by rw[e],q1,q2⟩) pos pins s I) λus s1 ⟨vs,H1,I1,r1,l,xs,e,hl,q⟩=>?_) hs rfl))
 subst e
 obtain⟨u,rfl,ru⟩:=vals1 r1
 cases(show u=Value.ref l from ru)
 obtain⟨its,rv,pl,hz⟩:=I1.list hl
 have hlen:=rv.length
 refine call_reversed_list pl.isList ?_
 have hit:(s1.heap.push (revObj l ((its.toArray.size:Int)-1))).IsRevIter s1.heap.objs.size l ((its.toArray.size:Int)-1):=⟨_,Heap.get?_push_size _ rfl,rfl,rfl⟩
 refine wpAny_pyIter_revIter hit ?_
 refine⟨s1.heap.objs.size,[s1.heap.objs.size],_,_,H1,rfl,I1.kept (t':=s1.toks) λb o e=>Heap.get?_push_of_some _ e,T4 l _ xs.length,?_,λb hb=>?_,q⟩
 .have e:((xs.length:Int)-1-((0:Nat):Int))=(its.toArray.size:Int)-1:=by simp;omega
  rw[e]
  exact hit
 .have e:b=s1.heap.objs.size:=by simpa using hb
  subst e
  exact I1.fpOk (Nat.le_refl _) (I1.hok.fresh (Nat.le_refl _))
theorem Xm{body:List Stmt}(hp:PassesOwn (model X.prog X.w) X.A X.env X.xe)(hc:X.calm=true)(hg:Gl X "reversed")(hm:X.mg "reversed"=none)(hs:starEach [a] X.env=[(false,eval a X.env)])
  (h:EV X a σ H λv H1=>∃q xs,v= .ref q/\bc X.K H1 q xs/\∃Pv:Nat->St->Hp->Prop,Pv 0 σ H1/\(∀i σ' H',i≤xs.length->Pv i σ' H'->bc X.K H' q xs)/\
   (∀i x σ' H',i<xs.length->xs[xs.length-1-i]? =some x->Pv i σ' H'->EG X tg x σ' H' λσ2 H2=>lz X body {D with nx:=Pv (i+1),ct:=Pv (i+1),bk:=D.nx} σ2 H2)/\∀σ' H',Pv xs.length σ' H'->D.nx σ' H'):
  SX X (.For tg (.Call (.Name "reversed" p) [a] [] p') body [] pos) D σ H:=by
 refine vG hp hc (by intro _;rfl) (abP hg hm hs (bJ h λv H1 q=>?_))
 obtain⟨q,xs,rfl,hq,Pv,h0,hl,hst,hd⟩:=q
 refine⟨q,xs,rfl,hq,λi m σ H=>m=xs.length-i/\i≤xs.length/\Pv i σ H,⟨xs.length,by simp,Nat.zero_le _,h0⟩,?_⟩
 rintro i m σ' H' ⟨rfl,hi,p⟩
 by_cases hlt:i<xs.length
 .refine .inr ⟨⟨hlt,xs,hl i σ' H' hi p,rfl⟩,Pv (i+1),λσ2 H2 p2=>⟨xs.length-(i+1),by omega,rfl,hlt,p2⟩,λx H2 y=>?_⟩
  obtain⟨rfl,e⟩:=y
  exact hst i x σ' _ hlt (e xs (hl i σ' _ hi p)) p
 .have e:i=xs.length:=by omega
  refine .inl ⟨e,?_⟩
  subst e
  exact hd σ' H' p
end
theorem O2{M:Model}{A:Around}{E:Value->Shared->Prop}{s:Shared}{α:Type}{e T L:Addr}{cls:Value}{d:Option Addr×Bool}{fl:Value}{what:String}{env:Env}{Q:α->Shared->Prop}(hf:env.frame=some L)
  (F:gW s.heap e cls d (some T) fl) (k:∀h',GJ s.heap h' [T] []->gW h' e cls d (some T) (rawInt L)->E (.ref e) {s with heap:=h'}):wpAny M A (passOn what (.ref e) env) Q E s:=by
 obtain⟨oe,vs,he,hc,hdx,hd,h1,hz,h2,hT⟩:=F
 obtain⟨hne,oT,ws,t1,t2,t3⟩:=hT T rfl
 have h3:3<ws.size:=(Array.getElem?_eq_some_iff.mp t3).1
 have h1':vs[1]? =some (Value.ref T):=h1
 unfold PySem.passOn
 refine wpAny_bind (wpAny_field he hd h1' ?_)
 rw[if_neg (show ¬((Value.ref T==Value.none)=true)from by simp)]
 refine wpAny_bind ?_
 unfold setFlight
 refine wpAny_bind (wpAny_field he hd h1' ?_)
 rw[if_pos (show(Value.ref T !=Value.none)=true from by simp),hf]
 refine wpAny_setField t1 t2 h3 (wpAny_throw (k _ ⟨λb o q _ n=>?_,λb o q n=>⟨o.slots,?_⟩,λb o q=>?_⟩ ?_))
 .rw[Heap.get?_update_other _ _ (λz=>n (by simp[z]))];exact q
 .rw[Heap.get?_update_other _ _ (λz=>n (by simp[z]))];exact q
 .by_cases z:b=T
  .subst z;exact⟨_,Heap.get?_update_self _ t1 (Obj.isFreed_of_fields (Obj.data_mapFields t2 _))⟩
  .exact⟨o,by rw[Heap.get?_update_other _ _ (Ne.symm z)];exact q⟩
 .refine⟨oe,vs,?_,hc,hdx,hd,h1,hz,h2.stay λv o ws hv q1 q2=>?_,λT' eT=>?_⟩
  .rw[Heap.get?_update_other _ _ hne];exact he
  .by_cases z:v=T
   .subst z
    rw[t1]at q1
    cases q1
    exact⟨_,_,Heap.get?_update_self _ t1 (Obj.isFreed_of_fields (Obj.data_mapFields t2 _)),Obj.data_mapFields q2 _,by rw[Array.getElem?_setIfInBounds_ne (by decide)]⟩
   .exact⟨o,ws,by rw[Heap.get?_update_other _ _ (Ne.symm z)];exact q1,q2,rfl⟩
  .cases eT
   exact⟨hne,_,_,Heap.get?_update_self _ t1 (Obj.isFreed_of_fields (Obj.data_mapFields t2 _)),Obj.data_mapFields t2 _,by simp[h3]⟩
theorem Kd{prog:Program}{w:World}{A:Around}{R:Result->Shared->Prop}{s:Shared}{elt target iter:Expr}{ifs:List Expr}{scope:Scope}{pos:Pos}{it acc:Value}{env:Env}(I:Nat->Shared->Prop){Er:Value->Shared->Prop}
  (hE:∀x s,Er x s->notedBy (model prog w) A env (λx s'=>R (.error x) s') x s)
  (turn:∀n s,I n s->wpAny (model prog w) A (pyNext it) (λr s₁=>match r with
   |none=>R (.ok .next) s₁
   |some v=>wpAny (model prog w) A (letOwnedTupleGo target it v) (λ_ s₁'=>wpAny (model prog w) A (assign target env v) (λ_ s₂=>
    wpAny (model prog w) A (forIn ifs true λc r=>if r=true then do let ok<-isTrue c env (eval c env);pure (ForInStep.yield ok)else pure (ForInStep.yield r)) (λok s₃=>
     if ok=true then wpAny (model prog w) A (eval elt env) (λx s₄=>
      wpAny (model prog w) A (call (.builtin "list.append") [acc,x]) (λ_ s₅=>∃m,m<n/\I m s₅) Er s₄) Er s₃
     else ∃m,m<n/\I m s₃) Er s₂) Er s₁') Er s₁) Er s)
  (n:Nat) (h:I n s):
  codeAny (model prog w) A (.compLoop (.ListComp elt [⟨target,iter,ifs,0⟩] scope pos) 0 it acc env) R s:=by
 refine codeAny_loop rfl I (λn s hI=>?_) n h
 show wpAny _ A ((compTurn (.ListComp elt [⟨target,iter,ifs,0⟩] scope pos) 0 it acc env).onRaise (λx=>do noteFrame x env;theTreesLotGoes x)) _ _ s
 refine wpAny_noted ?_
 rw[compTurn_list]
 refine wpAny_bind (wpAny_standAt (wpAny_bind (wpAny_mono (turn n s hI) (λr s₁ h₁=>?_) hE)))
 cases r with
 |none=>exact wpAny_pure h₁
 |some v=>
  refine wpAny_bind (wpAny_mono h₁ (λ_ s₁' h₁'=>?_) hE)
  refine wpAny_bind (wpAny_mono h₁' (λ_ s₂ h₂=>wpAny_bind (wpAny_mono h₂ (λok s₃ h₃=>?_) hE)) hE)
  cases ok with
  |false=>exact wpAny_pure ⟨rfl,h₃⟩
  |true=>
   exact wpAny_bind (wpAny_bind (wpAny_mono h₃ (λx s₄ h₄=>wpAny_bind (wpAny_mono h₄ (λ_ s₅ h₅=>wpAny_pure (wpAny_pure ⟨rfl,h₅⟩)) hE)) hE))
def DR(M:Model)(A:Around)(E:Value->Shared->Prop)(use:Option (Value->Sem Unit))(Q:Value->Shared->Prop)(acc:Value)(C:Env)(r:Result)(s':Shared):Prop:=
 match r,use with
 | .ok _,none=>∃m,s'.heap.Ns C.locals m/\∀h',Heap.SameBut C.locals s'.heap h'->Q acc {s' with heap:=h'}
 | .ok _,some u=>wpAny M A (u acc) (λ_ s''=>∃m,s''.heap.Ns C.locals m/\∀h',Heap.SameBut C.locals s''.heap h'->Q .none {s'' with heap:=h'}) E s'
 | .error x,_=>∃m,s'.heap.Ns C.locals m/\∀h',Heap.SameBut C.locals s'.heap h'->wpAny M A (passOn "comprehension.variables-let-go" x C:Sem Value) (λ_ _=>False) E {s' with heap:=h'}
theorem R6{M:Model}{A:Around}{E:Value->Shared->Prop}{s:Shared}{env:Env}{e:Expr}{scope:Scope}{pos:Pos}{newAcc first:Sem Value}{g:Comprehension}{gs:List Comprehension}{cl:List (Str×Addr)}{use:Option (Value->Sem Unit)}{Q:Value->Shared->Prop}
  (hcl:clausesOf e=g::gs) (hs:∀x,foldedSetIterable g.iter env x=pure x) (hclos:closureFor scope env=pure cl) (hkind:scope.kind= .function) (hnames:∀x∈scope.names,x.2= .local->scope.names.lookup x.1=some .local)
  (h:wpAny M A first (λx s₁=>wpAny M A (pyIter x) (λit s₂=>wpAny M A newAcc (λacc s₃=>wpAny M A (newFunctionEnv scope env.globals cl [] env.qual none .none (some env)) (λcenv s₄=>
   codeAny M A (.compStart e 0 it acc {cenv with scope:=relabel scope env}) (DR M A E use Q acc {cenv with scope:=relabel scope env}) s₄) E s₃) E s₂) E s₁) E s):
  wpAny M A (comprehension e scope env pos newAcc false first use) Q E s:=by
 unfold comprehension
 rw[hclos,hcl]
 refine wpAny_bind (wpAny_mono h (λx s₁ h₁=>wpAny_bind (wpAny_standAt (wpAny_bind (wpAny_of_eq (hs x) (wpAny_bind (wpAny_holding (wpAny_mono h₁ (λit s₂ h₂=>wpAny_standIf (wpAny_bind (wpAny_mono h₂ (λacc s₃ h₃=>
  wpAny_bind (wpAny_pure (wpAny_bind (wpAny_mono h₃ (λcenv s₄ h₄=>?_) λ_ _ z=>z)))) λ_ _ z=>z))) λ_ _ z=>z))))))) λ_ _ z=>z)
 dsimp only
 have hv:∀x∈(scope.names.filter λx=>(x.2== .local||x.2== .cell)&&x.1 !=(".0":Str)).reverse,x.2= .local->Env.kindOf {cenv with scope:=relabel scope env} x.1=some .local:=
  λx hx hl=>lookup_relabel_local (hnames x (List.mem_filter.mp (List.mem_reverse.mp hx)).1 hl)
 have hw:∀x∈(scope.names.filter λx=>(x.2== .local||x.2== .cell)&&x.1 !=(".0":Str)).reverse.drop 1++(scope.names.filter λx=>(x.2== .local||x.2== .cell)&&x.1 !=(".0":Str)).reverse.take 1,x.2= .local->Env.kindOf {cenv with scope:=relabel scope env} x.1=some .local:=λx hx hl=>by
  rcases List.mem_append.mp hx with z |z
  .exact hv x (List.mem_of_mem_drop z) hl
  .exact hv x (List.mem_of_mem_take z) hl
 refine wpAny_holding (wpAny_bind (wpAny_attempt (wpAny_holding (wpAny_run (codeAny_mono h₄ λr s' hr=>?_)))))
 cases r with
 |ok f=>
  cases use with
  |none=>
   obtain⟨m,hn,hr⟩:=hr
   exact wpAny_bind (wpAny_holding (wpAny_comp_letGo (cenv:={cenv with scope:=relabel scope env}) hkind _ s' m hv hn λh' m' _ z=>wpAny_pure (hr h' z)))
  |some u=>
   refine wpAny_bind (wpAny_rule (wpAny_bind (wpAny_holding (wpAny_mono hr (λ_ s'' hr'=>?_) λ_ _ z=>z))))
   obtain⟨m,hn,hr'⟩:=hr'
   exact wpAny_bind (wpAny_comp_letGo (cenv:={cenv with scope:=relabel scope env}) hkind _ s'' m hw hn λh' m' _ z=>wpAny_pure (hr' h' z))
 |error x=>
  have hr':∃m,s'.heap.Ns cenv.locals m/\∀h',Heap.SameBut cenv.locals s'.heap h'->wpAny M A (passOn "comprehension.variables-let-go" x {cenv with scope:=relabel scope env}:Sem Value) (λ_ _=>False) E {s' with heap:=h'}:=by cases use<;>exact hr
  obtain⟨m,hn,hr⟩:=hr'
  exact wpAny_bind (wpAny_holding (wpAny_comp_letGo (cenv:={cenv with scope:=relabel scope env}) hkind _ s' m hv hn λh' m' _ z=>wpAny_mono (hr h' z) (λ_ _ f=>f.elim) λ_ _ y=>y))
abbrev Az(X:Cx)(N':List Str)(scope:Scope)(cl:List (Str×Addr))(C:Addr)(s:Shared)(H:Hp)(fp:List Addr)(F:Value->Shared->Prop):Cx:=(Ci X N' scope cl C s H fp).tri F []
section
variable{X:Cx}{pins:List (Addr×Obj)}{σ:St}{H:Hp}{s:Shared}{scope:Scope}{N':List Str}{fp:List Addr}{elt iter tg:Expr}{ifs:List Expr}{pos:Pos}{Kx:St->XK}
theorem Oz{R:Value->Env->Result->Shared->Prop}{it:Addr}{tn:Nat->Heap->Prop}{J:It}{E:Value->Shared->Prop}{Q:Addr->Hp->Prop}(hst:X.stack=X.env::X.outer)(hfr:X.env.frame=some X.env.locals)(hc:X.calm=true)(S:dC X.env scope)(I:Inv X pins σ H s)
  (T:Turn X.prog X.w X.K tg J fp it tn) (st:tn 0 s.heap) (hf:∀b∈fp,kW X pins H b)
  (h:∀(D C:Addr) (s3:Shared) (F:Value->Shared->Prop),H D=none->Et (Az X N' scope (cj scope X.env) C s3 (upd H D (.lst [])) fp F) (λ_=>Kx σ)->nU X (Az X N' scope (cj scope X.env) C s3 (upd H D (.lst [])) fp F) tg elt ifs J D (gr N' X.N σ scope) H (Q D))
  (hR:∀(D:Addr) (C:Env) (H':Hp) (s':Shared),H D=none->Q D H'->Inv X pins σ H' s'->kW X pins H' C.locals->(∃m,s'.heap.Ns C.locals m)->R (.ref D) C (.ok .next) s')
  (hRx:∀(D:Addr) (C:Env) (H':Hp) (s':Shared) (e t:Addr) (cls:Value) (d:Option Addr×Bool),C.frame=some X.env.locals->Inv X pins σ H' s'->kW X pins H' C.locals->(∃m,s'.heap.Ns C.locals m)->gW s'.heap e cls d (some t) (rawInt X.env.locals)->
   (∀b∈[e,t],(H' b=none/\Ch X pins b)/\b≠C.locals)->Kx σ cls d H'->R (.ref D) C (.error (.ref e)) s'):
  wpAny (model X.prog X.w) X.A (newList []) (λacc s₃=>wpAny (model X.prog X.w) X.A (newFunctionEnv scope X.env.globals (cj scope X.env) [] X.env.qual none .none (some X.env)) (λcenv s₄=>
   codeAny (model X.prog X.w) X.A (.compStart (.ListComp elt [⟨tg,iter,ifs,0⟩] scope pos) 0 (.ref it) acc {cenv with scope:=relabel scope X.env}) (R acc {cenv with scope:=relabel scope X.env}) s₄) E s₃) E s:=by
 refine wpAny_newObj_type ?_
 have hD:H s.heap.objs.size=none:=I.hok.fresh (Nat.le_refl _)
 generalize hs3:({s with heap:=s.heap.push {cls:=.type "list",dict:=none,data:=.seq ([]:List Value).toArray}}:Shared)=s3
 have I3:Inv X pins σ (upd H s.heap.objs.size (.lst [])) s3:=by
  subst hs3
  exact I.laid (t':=s.toks) (λb u e=>Heap.get?_push_of_some _ e) (Nat.le_refl _) ⟨Nat.zero_le _,[],0,.nil,Heap.get?_push_size _ rfl⟩
 have hsz:s3.heap.objs.size=s.heap.objs.size+1:=by subst hs3;exact Heap.size_push ..
 have old3:∀b o,s.heap.get? b=some o->s3.heap.get? b=some o:=λb o e=>by subst hs3;exact Heap.get?_push_of_some _ e
 have fpl:∀b∈fp,b<s.heap.objs.size:=λb hb=>by
  obtain⟨o,e,_⟩:=T.obj _ _ st b hb
  exact Heap.lt_size e
 have Vc:∀b∈fp,kW X pins (upd H s.heap.objs.size (.lst [])) b:=λb hb=>⟨by rw[az (Nat.ne_of_lt (fpl b hb))];exact(hf b hb).1,(hf b hb).2⟩
 have st3:tn 0 s3.heap:=T.keep _ _ _ st λb _ o e=>old3 b o e
 have Rh:∀b∈fp,b<s3.heap.objs.size:=λb hb=>by rw[hsz];exact Nat.lt_succ_of_lt (fpl b hb)
 refine wpAny_newFunctionEnv S.cell (by intro y hy;simp at hy) (λh₁ hns hsb=>?_) S.kind
 have TX:∀b o,s3.heap.get? b=some o->h₁.get? b=some o:=λb o e=>hsb.extBut b o (Nat.ne_of_lt (Heap.lt_size e)) (Heap.get?_push_of_some _ e)
 generalize hCe:compEnvC scope (cj scope X.env) s3.heap.objs.size X.env=Ce
 have hCl:Ce.locals=s3.heap.objs.size:=by rw[<-hCe];rfl
 have hCf:Ce.frame=some X.env.locals:=by rw[<-hCe];exact hfr
 generalize hB:Ci X N' scope (cj scope X.env) s3.heap.objs.size s3 (upd H s.heap.objs.size (.lst [])) fp=B
 generalize hF:notedBy (model X.prog X.w) X.A Ce (λx s'=>R (.ref s.heap.objs.size) Ce (.error x) s')=F
 generalize hs4:({s3 with heap:=h₁,toks:=s3.toks+([]:List (Str×Value)).length}:Shared)=s4
 have I4b:Inv B [] (gr N' X.N σ scope) (upd H s.heap.objs.size (.lst [])) s4:=by
  subst hs4
  rw[<-hB]
  exact Mi S I3 Vc Rh hns TX
 have hpn:B.pn=[]:=by rw[<-hB];rfl
 have toX:∀{pins':List (Addr×Obj)} {τ:St} {H':Hp} {s':Shared},Inv (B.tri F []) pins' τ H' s'->Inv X pins σ H' s':=λ{pins' τ H' s'} J=>by
  have J2:Inv B [] τ H' s':=Inv.wD (X:=B) (pins:=[]) (F:=F) (pins':=pins') I4b.ok (by rw[hpn];exact J)
  rw[<-hB]at J2
  exact MK I3 Vc J2
 have hP:(B.tri F []).prog=X.prog:=by rw[<-hB];rfl
 have hw:(B.tri F []).w=X.w:=by rw[<-hB];rfl
 have hK:(B.tri F []).K=X.K:=by rw[<-hB];rfl
 have hA:(B.tri F []).A=X.A:=by rw[<-hB];rfl
 have hcY:(B.tri F []).calm=true:=by rw[<-hB];exact hc
 have hen:(B.tri F []).env=Ce:=by rw[<-hB, <-hCe];rfl
 have hloc:(B.tri F []).env.locals=s3.heap.objs.size:=by rw[hen,hCl]
 have hex:(B.tri F []).ex=fp:=by rw[<-hB];rfl
 have hs0:(B.tri F []).s₀=s3:=by rw[<-hB];rfl
 have aso:s3.heap.objs.size∉Gs X.stack:=λz=>by
  rcases List.mem_cons.mp (I3.stkSub _ z)with e |e
  .exact Nat.lt_irrefl _ (e▸I3.lt)
  .exact I3.nofs (Nat.le_refl _) e
 have hxY:Et (B.tri F []) (λ_=>Kx σ):=by
  intro pins' τ H' s' e cls d xa q
  obtain⟨J,tb,fl,Fl,hfl,ch⟩:=xa
  have IX:=toX J
  have chX:∀b∈e::tb.toList,(H' b=none/\Ch X pins b)/\b≠s3.heap.objs.size:=λb hb=>by
   obtain⟨c0,c1,c2,c3⟩:=ch b hb
   rw[hloc]at c2
   rw[hex,hs0]at c1
   refine⟨⟨c0,?_⟩,c2⟩
   rcases c1 with z |z
   .obtain⟨_,g1,_,g3,g4,g5⟩:=Vc b z
    exact⟨g3,g1,g4,g5⟩
   .exact I3.ch z
  have hfl':(fl==rawInt X.env.locals)=false:=by
   rcases hfl with z |⟨z,_⟩
   .rw[z];simp[rawInt]
   .rw[z,hloc,beq_eq_false_iff_ne]
    intro z2
    simp only[rawInt]at z2
    have z3:((s3.heap.objs.size:Nat):Int)=((X.env.locals:Nat):Int):=by injection z2
    have z4:s3.heap.objs.size=X.env.locals:=Int.ofNat.inj z3
    have z5:=I3.lt
    rw[z4]at z5
    exact Nat.lt_irrefl _ z5
  show F (.ref e) s'
  rw[<-hF]
  have hl:=IX.stack
  rw[hst]at hl
  have en:noteFrame (.ref e) Ce=noteFrame (.ref e) X.env:=by rw[<-hCe];rfl
  show wpAny _ _ (noteFrame (.ref e) Ce) _ _ _
  rw[en]
  refine HW (base:=X.base) (IX.ok.frames.trans (by rw[hst])) hl hfr Fl hfl' λh' t N hT F'=>?_
  have IN:Inv X pins σ H' {s' with heap:=h'}:=IX.noted (by rw[hst];exact N) λb hb=>(chX b hb).1
  obtain⟨m,hn,_⟩:=J.loc
  rw[hloc]at hn
  have hlt:s3.heap.objs.size<s'.heap.objs.size:=hn.lt
  have hfree:H' s3.heap.objs.size=none:=by
   have :=J.free
   rw[hloc]at this
   exact this
  refine hRx _ Ce H' _ e t cls d hCf IN (by rw[hCl];exact I3.fpOk (Nat.le_refl _) hfree) ⟨m,?_⟩ F' (λb hb=>?_) q
  .rw[hCl]
   obtain⟨o,a1,a2,ho,hr⟩:=hn
   exact⟨o,a1,a2,N.keep _ _ ho (by rw[<-hst];exact aso) (λz=>(chX _ z).2 rfl),hr⟩
  .rw[hCl]
   rcases List.mem_cons.mp hb with z |z
   .subst z;exact chX _ List.mem_cons_self
   .have z':b=t:=by simpa using z
    subst z'
    exact⟨⟨IX.hok.fresh hT,IX.ch (Heap.get?_none_of_le hT)⟩,λz=>Nat.lt_irrefl _ (Nat.lt_of_lt_of_le hlt (z▸hT))⟩
 have hT:=h s.heap.objs.size s3.heap.objs.size s3 F hD (by rw[<-hB]at hxY;exact hxY)
 rw[show Az X N' scope (cj scope X.env) s3.heap.objs.size s3 (upd H s.heap.objs.size (.lst [])) fp F=B.tri F []from by rw[<-hB]]at hT
 obtain⟨W,⟨m0,w0⟩,turn⟩:=hT
 have I4:Inv (B.tri F []) [] (gr N' X.N σ scope) (upd H s.heap.objs.size (.lst [])) s4:=by
  have :=I4b.tri (F:=F)
  rw[hpn]at this
  exact this
 have st4:tn 0 s4.heap:=by
  subst hs4
  exact T.keep _ _ _ st3 λb _ o e=>TX b o e
 have fpY:∀b∈fp,∀H':Hp,H' b=none->kW (B.tri F []) [] H' b:=λb hb H' e=>by
  rw[<-hB]
  refine⟨e,Nat.ne_of_lt (Rh b hb),λz=>?_,.inl hb,λx c q=>(Vc b hb).2.2.2.2.1 x c (S.cl I3 q),λp hp=>absurd (show p∈([]:List (Addr×Obj))from hp) (by simp)⟩
  rcases List.mem_cons.mp (I3.stkSub b z)with e |e
  .exact(hf b hb).2.1 e
  .exact(hf b hb).2.2.1 e
 have loop:codeAny (model X.prog X.w) X.A (.compLoop (.ListComp elt [⟨tg,iter,ifs,0⟩] scope pos) 0 (.ref it) (.ref s.heap.objs.size) Ce) (R (.ref s.heap.objs.size) Ce) s4:=by
  refine Kd (Er:=F) (λn s'=>∃i τ H',Inv (B.tri F []) [] τ H' s'/\tn i s'.heap/\(∀b∈fp,H' b=none)/\W i n τ H') (λx s z=>by rw[<-hF]at z;exact z) ?_ m0 ⟨0,_,_,I4,st4,λb hb=>(Vc b hb).1,w0⟩
  rintro n s5 ⟨i,τ,H5,I5,st5,fr5,w5⟩
  have toF:∀{α:Type} {t:Sem α} {Q:α->Shared->Prop} {s:Shared},wpAny (model (B.tri F []).prog (B.tri F []).w) (B.tri F []).A t Q (B.tri F []).xe s->wpAny (model X.prog X.w) X.A t Q F s:=λh=>by
   rw[hP,hw,hA]at h;exact h
  rw[<-hen]
  rcases turn i n τ H5 w5 with⟨stop,qn⟩ |⟨go,N,hN,step⟩
  .have q:=T.done (B.tri F []) hP hw hK hcY i [] s5 τ H5 F I5 (λb hb=>fpY b hb _ (fr5 b hb)) st5 stop
   rw[hA]at q
   refine cR q λr s6 ⟨hr,I6⟩=>?_
   subst hr
   refine hR _ _ H5 s6 hD qn (toX I6) ?_ ?_
   .rw[hloc]
    refine I3.fpOk (Nat.le_refl _) ?_
    have :=I6.free
    rw[hloc]at this
    exact this
   .obtain⟨m,hn,_⟩:=I6.loc
    exact⟨m,hn⟩
  .have q:=T.item (B.tri F []) hP hw hK hcY i [] s5 τ H5 F I5 (λb hb=>fpY b hb _ (fr5 b hb)) st5 go
   rw[hA]at q
   refine cR q λr s6 ⟨u,hr,h6⟩=>?_
   subst hr
   refine cR h6 λ_ s7 ⟨x,H7,I7,r7,y7,st7,fr7⟩=>?_
   have I7':=I7.pinned (λb hb=>fpY b hb _ (fr7 b hb)) (T.obj _ _ st7)
   have Sh:∀{τ':St} {H8:Hp} {s8:Shared},Inv (B.tri F []) ([]++uR fp s7.heap) τ' H8 s8->tn (i+1) s8.heap/\∀b∈fp,H8 b=none:=λ{τ' H8 s8} I8=>by
    refine⟨T.keep _ _ _ st7 λb hb o e=>(I8.pin (b,o) (List.mem_append_right _ (List.mem_append_right _ (iD hb e)))).1,λb hb=>?_⟩
    obtain⟨o,e,d⟩:=T.obj _ _ st7 b hb
    exact(I8.pin (b,o) (List.mem_append_right _ (List.mem_append_right _ (iD hb e)))).2.1
   refine toF (cR (step x H7 y7 _ s7 u I7' r7) λ_ s8 ⟨τ8,H8,I8,q8⟩=>?_)
   refine toF (cR (q8 _ s8 I8) λok s9 ⟨H9,I9,q9⟩=>?_)
   cases ok with
   |false=>
    have Zr:N τ8 H9:=by simpa using q9
    obtain⟨m',hm,w9⟩:=hN _ _ Zr
    obtain⟨k1,k2⟩:=Sh I9
    show ∃m,_
    exact⟨m',hm,i+1,τ8,H9,I9.unpinned,k1,k2,w9⟩
   |true=>
    have Zr:EV (B.tri F []) elt τ8 H9 λy H4=>∃xs,H4 s.heap.objs.size=some (.lst xs)/\xs.length<sizeLine/\N τ8 (upd H4 s.heap.objs.size (.lst (xs++[y]))):=by simpa using q9
    show wpAny _ _ _ _ _ _
    refine toF (cR (Zr _ s9 I9) λz s10 ⟨y,H10,I10,r10,xs,e10,l10,n10⟩=>?_)
    refine toF (cR (gK _ s10 τ8 H10 (.ref s.heap.objs.size) [y] _ [z] (λv H11=>v= .non/\H11=upd H10 s.heap.objs.size (.lst (xs++[y]))) I10 rfl (.cons r10 .nil) ⟨_,xs,y,rfl,rfl,e10,l10,rfl,rfl⟩) λ_ s11 ⟨_,H11,I11,_,_,e11⟩=>?_)
    subst e11
    obtain⟨m',hm,w11⟩:=hN _ _ n10
    obtain⟨k1,k2⟩:=Sh I11
    exact⟨m',hm,i+1,τ8,_,I11.unpinned,k1,k2,w11⟩
 rw[<-hCe]at loop
 exact codeAny_compStart_list loop (T.self X.A 0 s4 _ _ st4 loop)
theorem OJ{Q:Value->Shared->Prop}{use:Option (Value->Sem Unit)}(hx:Et X Kx){acc:Value}{C:Env}{H':Hp}{s':Shared}{e t:Addr}{cls:Value}{d:Option Addr×Bool}(hCf:C.frame=some X.env.locals)(I:Inv X pins σ H' s')(fC:kW X pins H' C.locals)(hn:∃m,s'.heap.Ns C.locals m)
  (F:gW s'.heap e cls d (some t) (rawInt X.env.locals)) (ch:∀b∈[e,t],(H' b=none/\Ch X pins b)/\b≠C.locals) (q:Kx σ cls d H'):DR (model X.prog X.w) X.A X.xe use Q acc C (.error (.ref e)) s':=by
 obtain⟨m,hn⟩:=hn
 obtain⟨f0,f1,f2,f3,f4,f5⟩:=fC
 have main:∃m,s'.heap.Ns C.locals m/\∀h',Heap.SameBut C.locals s'.heap h'->wpAny (model X.prog X.w) X.A (passOn "comprehension.variables-let-go" (.ref e) C:Sem Value) (λ_ _=>False) X.xe {s' with heap:=h'}:=by
  refine⟨m,hn,λh' hsb=>?_⟩
  have I2:Inv X pins σ H' {s' with heap:=h'}:=I.turned (t':=s'.toks) (λb o hb e=>hsb.extBut b o hb e) f0 f1 f3 f4 f5
  have F2:gW h' e cls d (some t) (rawInt X.env.locals):=by
   obtain⟨oe,vs,he,hc,hdx,hd,h1,hz,h2,hT⟩:=F
   refine⟨oe,vs,hsb.extBut _ _ (ch e (by simp)).2 he,hc,hdx,hd,h1,hz,h2.stay (λv o ws hv q1 q2=>⟨o,ws,hsb.extBut _ _ (λz=>by
    obtain⟨_,_,_,ho,hdd,_⟩:=hn
    rw[<-z,q1]at ho
    cases ho
    rw[q2]at hdd
    cases hdd) q1,q2,rfl⟩),λT eT=>?_⟩
   cases eT
   obtain⟨hne,oT,ws,t1,t2,t3⟩:=hT t rfl
   exact⟨hne,oT,ws,hsb.extBut _ _ (ch t (by simp)).2 t1,t2,t3⟩
  refine O2 (s:={s' with heap:=h'}) hCf F2 λh2 N F3=>?_
  refine hx pins σ H' _ e cls d ⟨I2.noted (ch:=[t]) ⟨λb o q _ n=>N.keep b o q (by simp) n,N.slot,N.there⟩ λb hb=>?_,some t,_,F3,.inr ⟨rfl,rfl⟩,λb hb=>(ch b (by simpa using hb)).1⟩ q
  have z:b=t:=by simpa using hb
  subst z
  exact(ch b (by simp)).1
 cases use<;>exact main
theorem RV{D:Ends}{y:Str}{py spos:Pos}{j:Nat}(hx0:Et X Kx)(hst:X.stack=X.env::X.outer)(hfr:X.env.frame=some X.env.locals)(hsw:swapsWith (.ListComp elt [⟨tg,iter,ifs,0⟩] scope pos) (some (.Name y py)) spos.line X.env=pure true)(hc:X.calm=true)(S:dC X.env scope)(hs:∀x,foldedSetIterable iter X.env x=pure x)
  (hN:X.N.Nodup) (hi:nameAt X.N y=some j) (hx:X.env.scope.names.lookup y=some .local)
  (h:EI X tg iter σ H λJ H1=>∀(fp:List Addr) (E C:Addr) (s3:Shared) (F:Value->Shared->Prop),H1 E=none->Et (Az X N' scope (cj scope X.env) C s3 (upd H1 E (.lst [])) fp F) (λ_=>Kx σ)->nU X (Az X N' scope (cj scope X.env) C s3 (upd H1 E (.lst [])) fp F) tg elt ifs J E (gr N' X.N σ scope) H1 (λH'=>D.nx (σ.set j (some (.ref E))) H')):
  SX X (.Assign [.Name y py] (.ListComp elt [⟨tg,iter,ifs,0⟩] scope pos) spos) D σ H:=by
 intro pins s I
 rw[exec_Assign_Name_used _ _ _ _ hsw]
 refine wpAny_bind (wpAny_standAt (wpAny_bind ?_))
 show wpAny _ X.A (do let _<-comprehension (.ListComp elt [⟨tg,iter,ifs,0⟩] scope pos) scope X.env _ (newList []) false (eval iter X.env) (some (assign (.Name y py) X.env))) _ _ s
 refine wpAny_bind (wpAny_mono (R6 (use:=some (assign (.Name y py) X.env)) (Q:=λ_ s'=>SP X pins D .next s') rfl hs (rH (S.has I)) S.kind S.loc
  (cR (h pins s I) λv s1 h1=>cR h1 λitv s2 h2=>?_)) (λ_ s' hq=>wpAny_pure (wpAny_pure hq)) λ_ _ e=>e)
 obtain⟨it,fp,tn,J,H2,e,I2,T,st2,f2,q2⟩:=h2
 subst e
 refine Oz (Kx:=Kx) (R:=λacc C=>DR (model X.prog X.w) X.A X.xe (some (assign (.Name y py) X.env)) (λ_ s'=>SP X pins D .next s') acc C) (Q:=λE H'=>D.nx (σ.set j (some (.ref E))) H') hst hfr hc S I2 T st2 f2 (λE C s3 F hD xo=>q2 fp E C s3 F hD xo) (λE C H' s' hD qD IX fC hn=>?_)
  λD C H' s' e t cls d hCf IX fC hn F ch q=>OJ hx0 hCf IX fC hn F ch q
 obtain⟨m,hn⟩:=hn
 obtain⟨f0,f1,f2',f3,f4,f5⟩:=fC
 show wpAny _ _ (assign (.Name y py) X.env (.ref E)) _ _ _
 refine wpAny_assign_Name (vN IX hN (jR hi) (.inl hx) (v:=.ref E) rfl (λs'' I'' hb=>?_) (.inr hx))
 obtain⟨a,sb,ha⟩:=hb
 have hCa:C.locals≠a:=by
  rcases ha with ha |ha
  .rw[ha];exact f1
  .intro z
   exact f4 y a ha z.symm
 refine⟨m,hn.sameBut sb hCa,λh' hsb=>⟨σ.set j (some (.ref E)),H',I''.turned (t':=s''.toks) (λb o hb e=>hsb.extBut b o hb e) f0 f1 f3 f4 f5,qD⟩⟩
end
section
variable{X:Cx}{a e:Expr}{σ σ':St}{H:Hp}{Q:VK}{D:Ends}{pos spos py p p':Pos}{tg elt iter:Expr}{scope:Scope}{Kx:St->XK}{y:Str}{j:Nat}
def Yu(X:Cx)(N':List Str)(scope:Scope)(tg elt:Expr)(σ σ':St)(Kx:St->XK)(H1:Hp)(Q:VK)(n:Nat)(G:Nat->Hp->V->Hp->Prop):Prop:=
 ∃(Tp:St->Prop) (Pi:Addr->Nat->V->Hp->Prop),Tp σ'/\
  (∀E i v H2 H3 ys,H2 E=some (.lst ys)->(∀b o,b≠E->H2 b=some o->H3 b=some o)->Pi E i v H2->Pi E i v H3)/\
  (∀(fp:List Addr) (E C:Addr) (s3:Shared) (H0:Hp) (F:Value->Shared->Prop) (i:Nat) (τ:St) (x:V) (H2 H3:Hp),Et (Az X N' scope (cj scope X.env) C s3 H0 fp F) (λ_=>Kx σ)->H1 E=none->i<n->Tp τ->ao H1 H2->(∃ys,H2 E=some (.lst ys)/\ys.length=i/\∀k v,ys[k]? =some v->Pi E k v H2)->G i H2 x H3->
   EG (Az X N' scope (cj scope X.env) C s3 H0 fp F) tg x τ H3 λτ2 H4=>EV (Az X N' scope (cj scope X.env) C s3 H0 fp F) elt τ2 H4 λv H5=>Tp τ2/\Pi E i v H5/\ao H2 H5)/\
  ∀(E:Addr) (H2:Hp) (xs:List V),H1 E=none->xs.length=n->(∀i v,xs[i]? =some v->Pi E i v H2)->H2 E=some (.lst xs)->ao H1 H2->Q (.ref E) H2
theorem PJ{Y:Cx}{tg elt:Expr}{J:It}{E:Addr}{τ0:St}{Q:Hp->Prop}
  (n:Nat) (hn:n≤sizeLine) (Tp:St->Prop) (hT:Tp τ0) (Pi:Nat->V->Hp->Prop) (hE:H E=none)
  (mono:∀i v H1 H2 ys,H1 E=some (.lst ys)->(∀b o,b≠E->H1 b=some o->H2 b=some o)->Pi i v H1->Pi i v H2)
  (go:∀i H1,ao H H1->i<n->J.go i H1) (stop:∀H1,ao H H1->J.stop n H1)
  (step:∀i τ x H1 H2,i<n->Tp τ->ao H H1->(∃ys,H1 E=some (.lst ys)/\ys.length=i/\∀k v,ys[k]? =some v->Pi k v H1)->J.yld i H1 x H2->EG Y tg x τ H2 λτ2 H3=>EV Y elt τ2 H3 λv H4=>Tp τ2/\Pi i v H4/\ao H1 H4)
  (fin:∀H1 xs,xs.length=n->(∀i v,xs[i]? =some v->Pi i v H1)->H1 E=some (.lst xs)->ao H H1->Q H1):nU X Y tg elt [] J E τ0 H Q:=by
 refine⟨λi m τ H1=>m=n-i/\i≤n/\ao H H1/\Tp τ/\∃xs,H1 E=some (.lst xs)/\xs.length=i/\∀k v,xs[k]? =some v->Pi k v H1,⟨n,by simp,Nat.zero_le _,ao.upd hE,hT,[],ak,rfl,λk v e=>by simp at e⟩,?_⟩
 rintro i m τ H1 ⟨rfl,hi,s1,hτ,xs,eE,lx,px⟩
 by_cases hlt:i<n
 .refine .inr ⟨go i H1 s1 hlt,λτ' H'=>ao H H'/\Tp τ'/\∃xs,H' E=some (.lst xs)/\xs.length=i+1/\∀k v,xs[k]? =some v->Pi k v H',λτ' H' ⟨a,b,c⟩=>⟨n-(i+1),by omega,rfl,hlt,a,b,c⟩,λx H2 y=>?_⟩
  intro pins s u I r
  refine cR (step i τ x H1 H2 hlt hτ s1 ⟨xs,eE,lx,px⟩ y pins s u I r) λ_ s' ⟨τ2,H3,I3,q3⟩=>⟨τ2,H3,I3,yD ?_⟩
  rw[if_pos rfl]
  refine bJ q3 λv H4 ⟨t2,pv,s2⟩=>⟨xs,s2 _ _ eE,by omega,?_⟩
  have mm:∀k w',Pi k w' H4->Pi k w' (upd H4 E (.lst (xs++[v]))):=λk w' q=>mono k w' H4 _ xs (s2 _ _ eE) (λb o hb e=>by rw[az hb];exact e) q
  refine⟨λb o e=>?_,t2,xs++[v],ak,by simp[lx],λk u e=>?_⟩
  .rw[az (au e hE)]
   exact s2 _ _ (s1 _ _ e)
  .by_cases hk:k<xs.length
   .rw[List.getElem?_append_left hk]at e
    refine mono k u H1 _ xs eE (λb o hb e=>?_) (px k u e)
    rw[az hb]
    exact s2 _ _ e
   .have hk2:k=i:=by
     have :=(List.getElem?_eq_some_iff.mp e).1
     rw[List.length_append,List.length_singleton]at this
     omega
    subst hk2
    rw[<-lx,List.getElem?_concat_length]at e
    cases e
    exact mm _ _ pv
 .have e:i=n:=by omega
  subst e
  exact .inl ⟨stop H1 s1,fin H1 xs lx px eE s1⟩
theorem ahN{N':List Str}{J:It}{n:Nat}{G:Nat->Hp->V->Hp->Prop}(hn:n≤sizeLine)(go:∀i H2,ao H H2->i<n->J.go i H2)(stop:∀H2,ao H H2->J.stop n H2)
  (yl:∀i H2 x H3,i<n->ao H H2->J.yld i H2 x H3->G i H2 x H3) (h:Yu X N' scope tg elt σ σ' Kx H Q n G):
  ∀(fp:List Addr) (D C:Addr) (s3:Shared) (F:Value->Shared->Prop),H D=none->Et (Az X N' scope (cj scope X.env) C s3 (upd H D (.lst [])) fp F) (λ_=>Kx σ)->nU X (Az X N' scope (cj scope X.env) C s3 (upd H D (.lst [])) fp F) tg elt [] J D σ' H (λH'=>Q (.ref D) H'):=by
 intro fp E C s3 F hE xo
 obtain⟨Tp,Pi,t0,mono,step,fin⟩:=h
 exact PJ n hn Tp t0 (Pi E) hE (λi v H1 H2 ys=>mono E i v H1 H2 ys) go stop (λi τ x H1 H2 hi ht hs hy y=>step fp E C s3 _ F i τ x H1 H2 xo hE hi ht hs hy (yl i H1 x H2 hi hs y)) λH1 xs l px eE s=>fin E H1 xs hE l px eE s
theorem NK(N':List Str)(hσ:gr N' X.N σ scope=σ')(hx0:Et X Kx)(hst:X.stack=X.env::X.outer)(hfr:X.env.frame=some X.env.locals)(hsw:swapsWith (.ListComp elt [⟨tg,e,[],0⟩] scope pos) (some (.Name y py)) spos.line X.env=pure true)(hc:X.calm=true)(S:dC X.env scope)(hs:∀x,foldedSetIterable e X.env x=pure x)
  (hN:X.N.Nodup) (hi:nameAt X.N y=some j) (hx:X.env.scope.names.lookup y=some .local)
  (h:EV X e σ H λv H1=>∃l xs,v= .ref l/\bc X.K H1 l xs/\xs.length≤sizeLine/\Yu X N' scope tg elt σ σ' Kx H1 (λv H'=>D.nx (σ.set j (some v)) H') xs.length λi H2 x H3=>xs[i]? =some x/\H2=H3):
  SX X (.Assign [.Name y py] (.ListComp elt [⟨tg,e,[],0⟩] scope pos) spos) D σ H:=by
 refine RV (N':=N') hx0 hst hfr hsw hc S hs hN hi hx (sW (bJ h λv H1 q=>?_))
 obtain⟨l,xs,rfl,hl,hz,hw⟩:=q
 refine⟨l,rfl,⟨xs,hl⟩,?_⟩
 rw[hσ]
 refine ahN (J:=Vx X.K l) (Q:=λv H'=>D.nx (σ.set j (some v)) H') hz (λi H2 s hi=>⟨xs,xs[i],ao.seq s hl,List.getElem?_eq_getElem hi⟩) (λH2 s=>⟨xs,ao.seq s hl,Nat.le_refl _⟩) (λi H2 x H3 hi s y=>⟨y.2 xs (ao.seq s hl),y.1.symm⟩) hw
end
def zR(K:W.Frag)(C L:Addr):Bool:=(W.clsIn K C).any λcd=>cd.hasDict&&cd.mro== .ref C:: .ref L::JL
theorem agd{K:W.Frag}{C L:Addr}(h:zR K C L=true):∃cd,W.clsIn K C=some cd/\cd.hasDict=true/\cd.mro= .ref C:: .ref L::JL:=by
 obtain⟨cd,h1,h2⟩:=W.any_some h
 rw[Bool.and_eq_true,beq_iff_eq]at h2
 exact⟨cd,h1,h2.1,h2.2⟩
section
variable{prog:Program}{w:World}{A:Around}{E:Value->Shared->Prop}{s:Shared}{K:W.Frag}{x C L:Addr}{ox:Obj}{vs:Array Value}{name:Str}{v:Value}
theorem Xd{Q:Unit->Shared->Prop}(X:K.In s.heap)(hx:s.heap.get? x=some ox)(hc:ox.cls= .ref C)(hf:ox.data= .fields vs)(hd:ox.dict=none)
  (hs:W.findIn K (.ref C) "__setattr__"=some (some (.builtin "object.__setattr__"))) (hm:zR K C L=true) (ht:W.takerIn K C name=some none)
  (h:∀h' tk,h'.get? x=some {ox with dict:=some s.heap.objs.size}->h'.Ns1 s.heap.objs.size (λy=>if y=name then some v else none)->(∀b o,b≠x->s.heap.get? b=some o->h'.get? b=some o)->Q () {s with heap:=h',toks:=tk}):
  wpAny (model prog w) A (setAttr (.ref x) name v) Q E s:=by
 obtain⟨cd,hcd,hdc,hmro⟩:=agd hm
 have I:W.InstAt s.heap x ox C none:=⟨hx,hc,by unfold W.notCls;rw[hf],by rw[hd];trivial⟩
 refine W.set_plain X I hs ?_
 have SF:=F.store_object
 have sub:W.Looks (model prog w) s.heap (isInstance (.ref x) (.type "object")) true:=I.type.andThen (W.looks_mroIn X (by unfold W.mroIn;rw[hcd,Option.bind_some,hmro];rfl))
 refine codeAny_call_builtin SF.slot.plain SF.entry (@W.check_slot (model prog w) _ _ {s with toks:=s.toks+1} "object.__setattr__" "object" "__setattr__" (.ref x) [.str name s.toks,v] [] _ SF.kind SF.split sub (SF.args (.ref x) (.str name s.toks) v) ?_)
 obtain⟨attr,ha,hr⟩:=Option.bind_eq_some_iff.mp ht
 have hmo:W.Looks (model prog w) s.heap (mroOf (.ref C)) cd.mro:=(W.looks_clsIn X hcd).andThen .now
 have L3:W.Looks (model prog w) s.heap (Builtin.ObjectAttr.storeTaker? attr) none:=by
  cases attr with
  |none=>exact .now
  |some a=>
   obtain⟨b,hb,e⟩:=Option.map_eq_some_iff.mp hr
   refine(W.looks_takesIn X hb).andThen ?_
   cases b
   .exact .now
   .cases e
 rw[W.osa_eq,refuse_eq]
 refine wpAny_bind (wpAny_bind (W.Looks.here (s:={s with toks:=s.toks+1}) I.type (wpAny_bind (W.Looks.here (s:={s with toks:=s.toks+1}) hmo ?_))))
 rw[hmro,refuseLoop_ref,refuseLoop_ref,F.store_ValueError.passes]
 refine wpAny_pure (wpAny_bind (W.Looks.here (s:={s with toks:=s.toks+1}) I.type (wpAny_bind (W.Looks.here (s:={s with toks:=s.toks+1}) (W.looks_findIn X ha) (wpAny_bind (W.Looks.here (s:={s with toks:=s.toks+1}) L3 ?_))))))
 obtain⟨oc,od,oda,osl⟩:=ox
 dsimp only at hc hf hd
 subst hc hf hd
 refine wpAny_bind (wpAny_pure (wpAny_bind (wpAny_bind (wpAny_loadPart (s:={s with toks:=s.toks+1}) hx (wpAny_bind (W.Looks.here (s:={s with toks:=s.toks+1}) (W.looks_clsIn X hcd) ?_))))))
 rw[hdc]
 rw[if_neg (by decide)]
 show wpAny _ _ (if(!true|| !typeHasDict (Value.ref C))=true then pure none else(alloc {cls:=.type "dict",data:=.dict #[]}>>=λd=>update x (λo=>{o with dict:=some d})>>=λ_=>dictMade (Value.ref C) x d)) _ _ _
 rw[if_neg (by simp[typeHasDict])]
 have hx₁:(s.heap.push {cls:=.type "dict",data:=.dict #[]}).get? x=some {cls:=.ref C,data:=.fields vs,slots:=osl}:=Heap.get?_push_of_some _ hx
 have hxs:x≠s.heap.objs.size:=Nat.ne_of_lt (Heap.lt_size hx)
 refine wpAny_bind (wpAny_alloc (s:={s with toks:=s.toks+1}) ?_)
 refine wpAny_bind (wpAny_update (s:={s with heap:=s.heap.push {cls:=.type "dict",data:=.dict #[]},toks:=s.toks+1}) hx₁ ?_)
 refine wpAny_pure ?_
 have hgd:((s.heap.push {cls:=.type "dict",data:=.dict #[]}).update x λo=>{o with dict:=some s.heap.objs.size}).get? s.heap.objs.size=some {cls:=.type "dict",data:=.dict #[]}:=
  (Heap.get?_update_ne _ _ _ _ hxs.symm).trans (Heap.get?_push_at rfl rfl)
 have hnd:((s.heap.push {cls:=.type "dict",data:=.dict #[]}).update x λo=>{o with dict:=some s.heap.objs.size}).Ns s.heap.objs.size (λ_=>none):=
  ⟨_, #[],_,hgd,rfl,λe he=>absurd he (by simp),λ_=>rfl⟩
 show wpAny _ _ (Builtin.ObjectAttr.storeInDict s.heap.objs.size (.str name s.toks) name v) _ _ _
 unfold Builtin.ObjectAttr.storeInDict Builtin.ObjectAttr.newKeyGuard
 refine wpAny_bind (wpAny_pure (wpAny_bind (wpAny_nsSet1 (s:={s with heap:=(s.heap.push {cls:=.type "dict",data:=.dict #[]}).update x λo=>{o with dict:=some s.heap.objs.size},toks:=s.toks+1}) (Heap.Ns1.of_empty hnd) λh' hn' hs'=>?_)))
 obtain⟨oD,esD,epD,hoD,hdD,hcD⟩:=hn'.count (Within.cons name v Within.nil)
 refine wpAny_bind (wpAny_lookBehind hoD (by rw[hdD];exact pastItsLine_dict (Nat.le_trans hcD (by rw[List.length_cons,List.length_nil,sizeLine_eq];omega))) ?_)
 refine wpAny_pure (h h' _ ?_ hn' λb ob hbx hb=>?_)
 .refine(hs'.2 x hxs).trans (Heap.get?_update_self _ hx₁ rfl)
 .exact(hs'.2 b (Nat.ne_of_lt (Heap.lt_size hb))).trans ((Heap.get?_update_ne _ _ _ _ hbx).trans (Heap.get?_push_of_some _ hb))
end
theorem Jb{K:W.Frag}{h:Heap}{N:Addr}{mg:Str->Option Value}{n:Str}{v:Value}(X:K.In h)(G:h.Ns N mg)(e:W.nsIn K N n=some (some v)):mg n=some v:=by
 obtain⟨o,es,ep,ho,hd,_,hf⟩:=G
 unfold W.nsIn at e
 split at e
 .rename_i c d es' n' sl q
  have :=X _ _ q
  rw[ho]at this
  cases this
  cases hd
  split at e
  .rename_i en he
   cases e
   rw[<-hf]
   unfold nsFind findBy
   rw[<-Array.find?_toList,he]
   rfl
  .split at e<;>cases e
 .cases e
def wM(K:W.Frag)(C f:Addr):Bool:=match K.lookup C with
 |some ⟨.type "type",_,.cls cd,sl⟩=>(match cd.mro,sl.toList with
  | .ref C'::bm,[_,_,_,_,some (.builtin n),_]=>C'==C&&n=="ValueError.__new__"&& !cd.hasDel&&W.tailIn K JL bm&&W.nsOkIn K cd.ns&&W.nsIn K cd.ns "__init__"==some (some (.ref f))
  |_,_=>false)
 |_=>false
theorem LK{K:W.Frag}{C f:Addr}{h:Heap}(kin:K.In h)(e:wM K C f=true):
  ∃bm N nm q bs hdct sn sub ab col dd k0 k1 k2 k3 k5 mN,h.get? C=some (excClassObj nm q C N bs bm hdct sn sub ab col dd k0 k1 k2 k3 k5 "ValueError.__new__")/\h.Ns N mN/\mN "__init__"=some (.ref f)/\OwnTail h JL bm:=by
 unfold wM at e
 split at e
 .rename_i dd cd sl ho
  split at e
  .rename_i C' bm k0 k1 k2 k3 n k5 hm hs
   simp only[Bool.and_eq_true,beq_iff_eq,Bool.not_eq_true']at e
   obtain⟨⟨⟨⟨⟨e1,e2⟩,e3⟩,e4⟩,e5⟩,e6⟩:=e
   subst e1 e2
   obtain⟨nm,bs,mro,ns,qn,hd,sn,sub,ab,col,del⟩:=cd
   dsimp only at hm e3 e5 e6
   subst hm e3
   have hl:sl= #[k0,k1,k2,k3,some (.builtin "ValueError.__new__"),k5]:=by
    obtain⟨l⟩:=sl
    simp only at hs
    rw[hs]
   subst hl
   have hN:h.Ns ns (h.nsMap ns):=.of_isNs (W.isNs_of_in kin e5)
   exact⟨bm,ns,nm,qn,bs,hd,sn,sub,ab,col,dd,k0,k1,k2,k3,k5,_,kin _ _ ho,hN,Jb kin hN e6,W.tail_of_in kin e4⟩
  .cases e
 .cases e
section
variable{prog:Program}{w:World}{A:Around}{E:Value->Shared->Prop}{h:Heap}{g:Array GenState}{d:Drawn}{t:Nat}{os:OsState}
variable{nm q:Str}{C N x:Addr}{bs bm:List Value}{hdct:Bool}{sn:List Str}{sub:List Value}{ab:Bool}{col:Option Bool}{dd:Option Addr}{k0 k1 k2 k3 k5:Option Value}{ox:Obj}{vs:Array Value}{v:Value}
theorem abM{t0:Addr}{Q:Value->Shared->Prop}(T:OwnTail h JL bm)(hC:h.get? C=some (excClassObj nm q C N bs bm hdct sn sub ab col dd k0 k1 k2 k3 k5 "ValueError.__new__"))(hx:h.get? x=some {cls:=.ref C,data:=.fields #[.ref t0,.none,.none,.none,.bool false,.none]})
  (hq:∀h' t1,h'.get? x=some {cls:=.ref C,data:=.fields #[.ref t1,.none,.none,.none,.bool false,.none]}->(∀b o,b≠x->h.get? b=some o->h'.get? b=some o)->Q .none ⟨h',g,d,t,os⟩):
  wpAny (model prog w) A (call (.builtin "ValueError.__init__") [.ref x,v]) Q E ⟨h,g,d,t,os⟩:=by
 have F0:=F.excBase_ValueError
 refine wpAny_call (codeAny_call_builtin F0.init.plain F0.initEntry (wpAny_check_init_subT F0 T hC hx rfl ?_))
 wp_walk
 refine hq _ h.objs.size ?_ λb o hb q=>?_
 .rw[Heap.get?_update_self _ (Heap.get?_push_of_some _ hx) rfl]
  rfl
 .rw[Heap.get?_update_other _ _ (Ne.symm hb)]
  exact Heap.get?_push_of_some _ q
theorem Bd{mN:Str->Option Value}{rest:List Value}{fI:Addr}{oI:Obj}{Q:Fin->Shared->Prop}(T:OwnTail h JL bm)(hC:h.get? C=some (excClassObj nm q C N bs bm hdct sn sub ab col dd k0 k1 k2 k3 k5 "ValueError.__new__"))(hn:h.Ns N mN)(hi:mN "__init__"=some (.ref fI))
  (hfI:h.get? fI=some oI) (hfc:oI.cls= .type "function")
  (hq:∀h' e,Heap.MadeExcOf h h' e (.ref C) rest->wpAny (model prog w) A (call (.ref fI) (.ref e::rest)) (λr s'=>r= .none/\Q (.done (.ret (.ref e))) s') E ⟨h',g,d,t,os⟩) (hrest:rest.length≤sizeLine):
  wpAny (model prog w) A (Builtin.«type.__call__» ⟨.ref C::rest,[]⟩) Q E ⟨h,g,d,t,os⟩:=by
 have F0:=F.excBase_ValueError
 repeat (first |with_reducible refine wpAny_loadPart_at hC ?_ |with_reducible refine wpAny_madeBy_exc hC ?_ |wp_step)
 refine codeAny_call_builtin_code (Code.quiet_builtin _ F0.quiet) (wpAny_check_new_subT F0 T hC ?_)
 refine codeAny_exc_new_subT F0 T hC ?_ hrest
 show wpAny _ _ _ _ _ _
 generalize hh1:(h.push {cls:=.type "tuple",data:=.seq rest.toArray}).push {cls:=.ref C,data:=.fields #[.ref h.objs.size,.none,.none,.none,.bool false,.none]}=h1
 have k1':∀b o,h.get? b=some o->h1.get? b=some o:=λb o e=>by rw[<-hh1];exact Heap.get?_push_of_some _ (Heap.get?_push_of_some _ e)
 have hC₁:=k1' _ _ hC
 have hn₁:h1.Ns N mN:=let⟨o,es,ep,e,r⟩:=hn;⟨o,es,ep,k1' _ _ e,r⟩
 have hget:h1.get? (h.objs.size+1)=some {cls:=.ref C,data:=.fields #[.ref h.objs.size,.none,.none,.none,.bool false,.none]}:=by rw[<-hh1];heap_get
 have hcC:(Value.ref C::bm).contains (.ref C)=true:=by simp
 have T₁:=T.keeps k1'
 unfold isInstance
 repeat (first |with_reducible refine wpAny_loadPart_at hget ?_ |(with_reducible refine wpAny_isSubtype_exc hC₁ ?_;rw[hcC]) |wp_step)
 show wpAny _ _ (typeLookup (.ref C) _) _ _ _
 refine wpAny_typeLookup_tail hC₁ hn₁ T₁ F0.mroIs F0.init.lookup ?_
 rw[hi]
 refine wpAny_holding (wpAny_bind ?_)
 unfold bindSpecial
 refine wpAny_bind (wpAny_typeOf (T:="function") ⟨_,k1' _ _ hfI,hfc⟩ ?_)
 rw[if_pos (by decide)]
 refine wpAny_pure (wpAny_bind (wpAny_mono (hq h1 (h.objs.size+1) ⟨k1',Heap.get?_none_of_le (Nat.le_succ _),h.objs.size,hget,Heap.get?_none_of_le (Nat.le_refl _),?_⟩) (λr s' hr=>?_) λ_ _ x=>x))
 .rw[<-hh1]
  exact Heap.get?_push_of_some _ (Heap.get?_push_at rfl rfl)
 .obtain⟨rfl,hQ⟩:=hr
  wp_walk
  exact hQ
theorem Rp{mN:Str->Option Value}{rest:List Value}{fI:Addr}{oI:Obj}{Q:Value->Shared->Prop}(T:OwnTail h JL bm)(hC:h.get? C=some (excClassObj nm q C N bs bm hdct sn sub ab col dd k0 k1 k2 k3 k5 "ValueError.__new__"))(hn:h.Ns N mN)(hi:mN "__init__"=some (.ref fI))
  (hfI:h.get? fI=some oI) (hfc:oI.cls= .type "function")
  (hq:∀h' e,Heap.MadeExcOf h h' e (.ref C) rest->wpAny (model prog w) (A.under (.builtin "type.__call__" ⟨.ref C::rest,[]⟩)) (call (.ref fI) (.ref e::rest)) (λr s'=>r= .none/\Q (.ref e) s') E ⟨h',g,d,t,os⟩) (hrest:rest.length≤sizeLine):
  wpAny (model prog w) A (call (.ref C) rest) Q E ⟨h,g,d,t,os⟩:=by
 have f1:=tc_lookup
 have f2:=tc_bind (.ref C)
 have hT:(⟨h,g,d,t,os⟩:Shared).TypeIs (.ref C) "type":=⟨_,hC,rfl⟩
 refine wpAny_call (codeAny_of_tree ?_)
 show wpAny _ _ (callAny (.ref C) _) _ _ _
 repeat (any_goals (first |assumption |with_reducible refine wpAny_loadPart_at hC ?_ |wp_step))
 refine⟨rfl,?_⟩
 exact codeAny_call_builtin_at (Code.quiet_builtin _ (by decide+kernel)) entry_typeCall (wpAny_check_type_call_sub hC (Bd T hC hn hi hfI hfc hq hrest))
end
section
variable{prog:Program}{w:World}{A:Around}{E:Value->Shared->Prop}{s:Shared}{env:Env}
variable{nm q:Str}{C N:Addr}{bs bm:List Value}{hdct:Bool}{sn:List Str}{sub:List Value}{ab:Bool}{col:Option Bool}{dd:Option Addr}{k0 k1 k2 k3 k5:Option Value}
theorem P0{M:Model}{x:Sem Value}{Q:Flow->Shared->Prop}(hbase:bm.contains (.type "BaseException")=true)(hh:A.handled=none)
  (h:wpAny M A x (λv s₁=>∃e t D,v= .ref e/\s₁.heap.get? C=some (excClassObj nm q C N bs bm hdct sn sub ab col dd k0 k1 k2 k3 k5 "ValueError.__new__")/\
   s₁.heap.get? e=some {cls:=.ref C,dict:=D,data:=.fields #[.ref t,.none,.none,.none,.bool false,.none]}/\E (.ref e) s₁) E s):
  wpAny M A (raiseStmt env (some x) none) Q E s:=by
 have hcB:(Value.ref C::bm).contains (.type "BaseException")=true:=by rw[List.contains_cons,hbase,Bool.or_true]
 unfold raiseStmt
 refine wpAny_bind (wpAny_mono h (λv s₁ h₁=>?_) λ_ _ x=>x)
 obtain⟨e,t,D,rfl,hC,he,hE⟩:=h₁
 obtain⟨hp,g,d,tk,os⟩:=s₁
 repeat (first |with_reducible refine wpAny_loadPart_at he ?_ |with_reducible refine wpAny_loadPart_at hC ?_ |(with_reducible refine wpAny_isSubtype_exc hC ?_;rw[hcB]) |wp_step)
 exact wpAny_raiseNew_none hh hE
end
def xo(e C:Addr)(D:Option Addr):HO:=.ext λh=>∃t,h.get? e=some {cls:=.ref C,dict:=D,data:=.fields #[.ref t,.none,.none,.none,.bool false,.none]}
def p8(H:Hp)(e:Addr):Hp:=λb=>if b=e then none else H b
theorem gU{H:Hp}{e b:Addr}(h:b≠e):p8 H e b=H b:=by unfold p8;rw[if_neg h]
theorem yG{H:Hp}{e:Addr}:p8 H e e=none:=by unfold p8;rw[if_pos rfl]
theorem RK{P:Program}{w:World}{H:Hp}{h:Heap}{e C t:Addr}{D:Option Addr}(q:h.get? e=some {cls:=.ref C,dict:=D,data:=.fields #[.ref t,.none,.none,.none,.bool false,.none]}):fO P w H h e (xo e C D):=
 ⟨⟨t,q⟩,⟨_,q⟩,λh1 h2 ⟨t,q⟩ k=>⟨t,k _ q⟩⟩
section
variable{X:Cx}{pins:List (Addr×Obj)}{σ:St}{H:Hp}{s:Shared}{e:Addr}{φ:Heap->Prop}
theorem Inv.adopt(I:Inv X pins σ H s)(hn:H e=none)(c:Ch X pins e)(ok:fO X.prog X.w (upd H e (.ext φ)) s.heap e (.ext φ)):Inv X pins σ (upd H e (.ext φ)) s:=by
 have ne:∀b u,H b=some u->b≠e:=λb u q=>au q hn
 have :=I.step (h':=s.heap) (H':=upd H e (.ext φ)) (g':=s.gens) (d':=s.drawn) (t':=s.toks) (ch:=[e]) (λb hb=>?_) (λb o _ _ _ q _=>q) (λb o _ _ _ q _=>⟨o.slots,q⟩) (λb o hc _ n=>?_) (λb o _ q=>⟨o,q⟩) (λb xs q=>?_) (λb o u q=>?_) (λb ps q=>?_) (λm q=>q) (λb u q=>?_) I.bare
 .exact this
 .have z:b=e:=by simpa using hb
  subst z
  exact c
 .rw[az (λz=>hc (by simp[z]))];exact n
 .rw[az (ne _ _ q)];exact q
 .rw[az (ne _ _ q)];exact q
 .exact⟨#[],by rw[az (ne _ _ q),q];simp⟩
 .by_cases z:b=e
  .subst z
   rw[ak]at q
   cases q
   exact ok
  .rw[az z]at q
   exact(I.hok b u q).stay (λ_ _ _ r=>r) (λc r=>by rw[az (ne _ _ r)];exact r) λc xs r=>by rw[az (ne _ _ r)];exact r
theorem Inv.forget(I:Inv X pins σ H s)(hn:H e=some (.ext φ))(c:Ch X pins e):Inv X pins σ (p8 H e) s:=by
 have :=I.step (h':=s.heap) (H':=p8 H e) (g':=s.gens) (d':=s.drawn) (t':=s.toks) (ch:=[e]) (λb hb=>?_) (λb o _ _ _ q _=>q) (λb o _ _ _ q _=>⟨o.slots,q⟩) (λb o hc _ n=>?_) (λb o _ q=>⟨o,q⟩) (λb xs q=>?_) (λb o u q=>?_) (λb ps q=>?_) (λm q=>q) (λb u q=>?_) I.bare
 .exact this
 .have z:b=e:=by simpa using hb
  subst z
  exact c
 .rw[gU (λz=>hc (by simp[z]))];exact n
 .rw[gU (λz=>by rw[z,hn]at q;cases q)];exact q
 .rw[gU (λz=>by rw[z,hn]at q;cases q)];exact q
 .exact⟨#[],by rw[gU (λz=>by rw[z,hn]at q;cases q),q];simp⟩
 .by_cases z:b=e
  .subst z
   rw[yG]at q
   cases q
  .rw[gU z]at q
   exact(I.hok b u q).stay (λ_ _ _ r=>r) (λc r=>by rw[gU (λz=>by rw[z,hn]at r;cases r)];exact r) λc xs r=>by rw[gU (λz=>by rw[z,hn]at r;cases r)];exact r
end
structure XBase(K:W.Frag)(mg:Str->Option Value)(x:Str):Prop where
 at_:mg x=some (.ref (aD mg x))
 reads:W.readsIn K (aD mg x) (.type "type")=true
 ini:W.findCls K (.ref (aD mg x)) (.type "type") "__init__"=some (.val (.builtin "ValueError.__init__"))
 ga:W.specialIn K (.ref (aD mg x)) "__getattribute__"=some (some (.builtin "type.__getattribute__"))
structure aaL(K:W.Frag)(mg:Str->Option Value)(Lx x qual fld:Str)(st:Stmt):Prop where
 at_:mg x=some (.ref (aD mg x))
 ex:∃f fd,gj K "__init__" qual st f fd/\wM K (aD mg x) f=true/\W.isFn K (.ref f)=true
 sa:W.findIn K (.ref (aD mg x)) "__setattr__"=some (some (.builtin "object.__setattr__"))
 tk:W.takerIn K (aD mg x) fld=some none
 xc:zR K (aD mg x) (aD mg Lx)=true
def Rx(C:Addr)(fld:Str):Sp:=λvs H Q _=>∃e n,vs=[.ref e,.int n]/\n.natAbs<10^60/\H e=some (xo e C none)/\
 ∀D H',D≠e->H D=none->(∀b o,b≠e->H b=some o->H' b=some o)->H' e=some (xo e C (some D))->H' D=some (.xd [(fld,.int n)])->Q .non H'
section
variable{X:Cx}{σ:St}{H:Hp}{Q:VK}{D:Ends}{Lx x f fld:Str}{np apos pos pos' cpos:Pos}{a o value:Expr}{es:List Expr}{Kx:St->XK}
theorem Xg{pl:Sem Bool}(B:XBase X.K X.mg Lx)(hg:Gl X Lx)(hd:(Lx==("__debug__":Str))=false)(hst:starEach (a::es) X.env=(false,eval a X.env)::starEach es X.env)(hpl:(backTo pos (starEach es X.env)).any (·.1)=false)
  (ht:eval (.Call (.Attribute (.Name Lx np) "__init__" apos) (a::es) [] pos) X.env=(do
   let ov<-eval (.Name Lx np) X.env
   standAt apos.atName
   let(f,first)<-holding [ov] (getMethod ov "__init__" pl)
   callWith pos f first (backTo pos (starEach (a::es) X.env)) (backToKw pos (keywordEach [] X.env))))
  (h:EA X (a::es) σ H λvs H1=>CL X (.builtin "ValueError.__init__") vs H1 Q):EV X (.Call (.Attribute (.Name Lx np) "__init__" apos) (a::es) [] pos) σ H Q:=by
 intro pins s I
 refine W.methodCall_KW (pl:=pl) (mO I hg B.at_ ?_ hd) ht
 refine W.method_cls I.kIn B.ga (W.cls_value I.kIn B.reads B.ini (by decide+kernel) ?_)
 have I1:=I.tok (s.toks+1)
 have h':=h pos pins _ I1
 rw[hst]at h'⊢
 refine Calls.callWith_builtin (by show(false||(backTo pos (starEach es X.env)).any (·.1))=false;rw[hpl];rfl) (Calls.evalArgs_plain ?_)
 refine cR h' λus s2 ⟨vs,H2,I2,r2,c,h1,q2⟩=>?_
 exact h1 pins s2 σ H2 vs us Q I2 r2 q2
theorem abv{C ff:Addr}{e:Addr}{v:V}(hi:wM X.K C ff=true)(he:H e=some (xo e C none))(q:Q .non H):CL X (.builtin "ValueError.__init__") [.ref e,v] H Q:=by
 refine jG (r:=λxs H Q=>∃e v,xs=[.ref e,v]/\H e=some (xo e C none)/\Q .non H) ?_ ⟨e,v,rfl,he,q⟩
 intro pins s σ H xs us Q I r h
 obtain⟨e,v,rfl,he,q⟩:=h
 obtain⟨u1,u2,rfl,r1,r2⟩:=vals2 r
 cases(show u1=Value.ref e from r1)
 obtain⟨bm,N,nm,qn,bs,hdct,sn,sub,ab,col,dd,k0,k1,k2,k3,k5,mN,hC,hN,hni,T⟩:=LK I.kIn hi
 obtain⟨⟨t,ht⟩,_,_⟩:=I.hok e _ he
 obtain⟨hp,g,d,tk,os⟩:=s
 refine abM T hC ht λh' t1 h1 k=>?_
 have hw:=I.write (x:=e) (e:=e) (o:=xo e C none) (h':=h') (t':=tk) (by rw[he];trivial) (.inl rfl) (λb u n q=>k b u n q) ⟨_,h1⟩ (RK h1)
 have hid:upd H e (xo e C none)=H:=by
  funext b
  unfold upd
  split
  .rename_i z;rw[z,he]
  .rfl
 rw[hid]at hw
 exact⟨.non,H,hw,rfl,q⟩
theorem W3{C L:Addr}(hs:W.findIn X.K (.ref C) "__setattr__"=some (some (.builtin "object.__setattr__")))(hm:zR X.K C L=true)(ht:W.takerIn X.K C f=some none)
  (hsw:swapsWith value (some (.Attribute o f pos')) pos.line X.env=pure false)
  (h:EV X value σ H λy H1=>EV X o σ H1 λx H2=>∃e,x= .ref e/\H2 e=some (xo e C none)/\∀E',H2 E'=none->E'≠e->D.nx σ (upd (upd H2 E' (.xd [(f,y)])) e (xo e C (some E')))):
  SX X (.Assign [.Attribute o f pos'] value pos) D σ H:=by
 intro pins s I
 refine plainObj_wpAny_Assign_Attribute (cR (h pins s I) λu s1 ⟨y,H1,I1,ry,q⟩=>cR (q pins s1 I1) λov s2 ⟨x,H2,I2,rx,e,ex,he,q2⟩=>?_) hsw
 subst ex
 obtain rfl:ov=Value.ref e:=rx
 obtain⟨⟨t,hte⟩,_,_⟩:=I2.hok e _ he
 refine Xd I2.kIn hte rfl rfl rfl hs hm ht λh' tk g1 g2 g3=>?_
 have hDn:H2 s2.heap.objs.size=none:=I2.hok.fresh (Nat.le_refl _)
 have hDe:s2.heap.objs.size≠e:=λz=>by rw[z]at hDn;rw[hDn]at he;cases he
 have ne:∀b u,H2 b=some u->u≠xo e C none->b≠e:=λb u q n z=>by rw[z,he]at q;cases q;exact n rfl
 have nD:∀b u,H2 b=some u->b≠s2.heap.objs.size:=λb u q=>au q hDn
 refine⟨σ,_,?_,q2 s2.heap.objs.size hDn hDe⟩
 refine I2.step (h':=h') (g':=s2.gens) (d':=s2.drawn) (t':=tk) (ch:=[]) (λb hb=>absurd hb (by simp)) (λb o _ _ _ q n=>g3 b o (λz=>by rw[z,he]at n;cases n) q) (λb o _ _ _ q n=>⟨o.slots,g3 b o (λz=>by rw[z,he]at n;cases n) q⟩) (λb o _ q n=>?_) (λb o _ q=>?_) (λb xs q=>?_) (λb o u q=>?_) (λb ps q=>?_) (λm hm'=>?_) (λb u q=>?_) I2.bare
 .rw[az (λz=>by rw[z,he]at n;cases n),az (Nat.ne_of_lt (Heap.lt_size q))]
  exact n
 .by_cases z:b=e
  .subst z;exact⟨_,g1⟩
  .exact⟨o,g3 b o z q⟩
 .rw[az (ne _ _ q (λz=>nomatch z)),az (nD _ _ q)];exact q
 .rw[az (ne _ _ q (λz=>nomatch z)),az (nD _ _ q)];exact q
 .exact⟨#[],by rw[az (ne _ _ q (λz=>nomatch z)),az (nD _ _ q),q];simp⟩
 .obtain⟨o,es,ep,ho,r⟩:=hm'
  exact⟨o,es,ep,g3 _ _ (λz=>by have :=I2.free;rw[z,he]at this;cases this) ho,r⟩
 .by_cases z:b=e
  .subst z
   rw[ak]at q
   cases q
   exact RK g1
  .rw[az z]at q
   by_cases z2:b=s2.heap.objs.size
   .subst z2
    rw[ak]at q
    cases q
    refine⟨_,g2,λn=>?_⟩
    by_cases hf:n=f
    .subst hf
     simp only[if_true,List.lookup_cons,beq_self_eq_true]
     exact ry
    .rw[if_neg hf,List.lookup_cons,beq_eq_false_iff_ne.mpr hf]
     trivial
   .rw[az z2]at q
    refine(I2.hok b u q).stay (λc v hc r=>g3 c v ?_ r) (λc r=>?_) λc xs r=>?_
    .rcases hc with y |y
     .rw[y];exact z
     .exact ne _ _ y (λz=>nomatch z)
    .rw[az (ne _ _ r (λz=>nomatch z)),az (nD _ _ r)];exact r
    .rw[az (ne _ _ r (λz=>nomatch z)),az (nD _ _ r)];exact r
end
structure aeO(P:Program)(w:World)(K:W.Frag)(mg:Str->Option Value)(base:Heap)(cc:Bool)(k:Nat)(x fld:Str):Prop where
 at_:mg x=some (.ref (aD mg x))
 ex:∃f fd ps oc od osl,wk P w K mg base (Dd P w) cc k f fd ps (Rx (aD mg x) fld)/\Binds K fd ps []/\wM K (aD mg x) f=true/\K.lookup f=some ⟨oc,od,.func fd,osl⟩/\oc= .type "function"
section
variable{prog:Program}{w:World}{A:Around}{E:Value->Shared->Prop}{s:Shared}{env:Env}
variable{nm q:Str}{C N:Addr}{bs bm:List Value}{hdct:Bool}{sn:List Str}{sub:List Value}{ab:Bool}{col:Option Bool}{dd:Option Addr}{k0 k1 k2 k3 k5:Option Value}
theorem Nt{mN:Str->Option Value}{fI:Addr}{oI:Obj}{x:Str}{np cpos pos:Pos}{args:List Expr}{Q:Flow->Shared->Prop}
  (hbase:bm.contains (.type "BaseException")=true) (hh:A.handled=none) (hplain:(backTo cpos (starEach args env)).any (·.1)=false) (hi:mN "__init__"=some (.ref fI)) (hfc:oI.cls= .type "function")
  (h:wpAny (model prog w) A (eval (.Name x np) env) (λf s₁=>f= .ref C/\wpAny (model prog w) A (evalArgs (.ref C) true (backTo cpos (starEach args env)) [])
   (λa s₂=>a.kw=[]/\a.pos.length≤sizeLine/\s₂.heap.get? C=some (excClassObj nm q C N bs bm hdct sn sub ab col dd k0 k1 k2 k3 k5 "ValueError.__new__")/\s₂.heap.Ns N mN/\OwnTail s₂.heap JL bm/\s₂.heap.get? fI=some oI/\
    ∀h' e,Heap.MadeExcOf s₂.heap h' e (.ref C) a.pos->wpAny (model prog w) (A.under (.builtin "type.__call__" ⟨.ref C::a.pos,[]⟩)) (call (.ref fI) (.ref e::a.pos))
     (λr s'=>r= .none/\∃t D,s'.heap.get? C=some (excClassObj nm q C N bs bm hdct sn sub ab col dd k0 k1 k2 k3 k5 "ValueError.__new__")/\
      s'.heap.get? e=some {cls:=.ref C,dict:=D,data:=.fields #[.ref t,.none,.none,.none,.bool false,.none]}/\E (.ref e) s') E {s₂ with heap:=h'}) E s₁) E s):
  wpAny (model prog w) A (exec (.Raise (some (.Call (.Name x np) args [] cpos)) none pos) env) Q E s:=by
 rw[arm_exec_Raise]
 refine wpAny_bind (wpAny_standAt (P0 (C:=C) (nm:=nm) (q:=q) (N:=N) (bs:=bs) (bm:=bm) (hdct:=hdct) (sn:=sn) (sub:=sub) (ab:=ab) (col:=col) (dd:=dd) (k0:=k0) (k1:=k1) (k2:=k2) (k3:=k3) (k5:=k5) hbase hh ?_))
 refine wpAny_bind (wpAny_mono (wpAny_Call_ofName (wpAny_mono h (λf s₁ h₁=>?_) λ_ _ x=>x)) (λv s₃ h₃=>wpAny_bind (wpAny_standAt (wpAny_pure h₃))) λ_ _ x=>x)
 obtain⟨rfl,h₁⟩:=h₁
 unfold callWith
 refine wpAny_bind (wpAny_holding (wpAny_mono h₁ (λa s₂ h₂=>wpAny_bind (wpAny_standAt ?_)) λ_ _ x=>x))
 obtain⟨apos,akw⟩:=a
 obtain⟨hkw,hlen,hC,hn,T,hfI,h₂⟩:=h₂
 obtain rfl:akw=[]:=hkw
 obtain⟨hp,g,d,tk,os⟩:=s₂
 simp only[hplain]
 refine wpAny_bind (wpAny_keeperOf_exc hC ?_)
 refine wpAny_bind (Rp T hC hn hi hfI hfc (λh' e hm=>?_) hlen)
 refine wpAny_mono (h₂ h' e hm) (λr s' hr=>⟨hr.1,?_⟩) λ_ _ z=>z
 obtain⟨t,D,g1,g2,g3⟩:=hr.2
 exact wpAny_bind (wpAny_holding (wpAny_point (wpAny_pure ⟨e,t,D,rfl,g1,g2,g3⟩)))
end
section
variable{X:Cx}{Kx:St->XK}{D:Ends}{σ:St}{H:Hp}{x fld:Str}{np cpos pos:Pos}{e:Expr}{es:List Expr}{cc Dq:Bool}{k k':Nat}
theorem Bo(O:aeO X.prog X.w X.K X.mg X.base Dq k x fld)(hr:dZ cc k' X.A)(hk:k+1≤k')(hcc:Dq=true->cc=true)(hx:Et X Kx)(hc:X.calm=true)(hg:Gl X x)(hd:(x==("__debug__":Str))=false)(he:starEach (e::es) X.env=(false,eval e X.env)::starEach es X.env)
  (hpl:(backTo cpos (starEach es X.env)).any (·.1)=false)
  (h:EA X (e::es) σ H λvs H1=>∃n,vs=[.int n]/\n.natAbs<10^60/\∀E' H',ao H1 H'->H' E'=some (.xd [(fld,.int n)])->Kx σ (.ref (aD X.mg x)) (some E',true) H'):
  SX X (.Raise (some (.Call (.Name x np) (e::es) [] cpos)) none pos) D σ H:=by
 intro pins s I
 obtain⟨f,fd,ps,oc,od,osl,Fn,hb,hi,hlk,hoc⟩:=O.ex
 obtain⟨bm,N,nm,q,bs,hdct,sn,sub,ab,col,dd,k0,k1,k2,k3,k5,mN,hC,hN,hni,T⟩:=LK I.ok.mod.kin hi
 have hr':dZ Dq (k+1) X.A:=(hr.mono hk).zH hcc
 refine Nt (C:=aD X.mg x) (nm:=nm) (q:=q) (N:=N) (bs:=bs) (bm:=bm) (hdct:=hdct) (sn:=sn) (sub:=sub) (ab:=ab) (col:=col) (dd:=dd) (k0:=k0) (k1:=k1) (k2:=k2) (k3:=k3) (k5:=k5) (mN:=mN) (fI:=f) (oI:=⟨oc,od,.func fd,osl⟩)
  (T.hasType (by decide+kernel)) (I.ok.hd hc) ?_ hni hoc (mO I hg O.at_ ⟨rfl,?_⟩ hd)
 .rw[he]
  show(false||(backTo cpos (starEach es X.env)).any (·.1))=false
  rw[hpl]
  rfl
 .have h':=h cpos pins s I
  rw[he]at h'⊢
  refine Calls.evalArgs_plain (cR h' λus s2 ⟨vs,H1,I2,r,n,ev,hn,kq⟩=>?_)
  subst ev
  obtain⟨u,rfl,ru⟩:=vals1 r
  refine⟨rfl,by show 1≤sizeLine;rw[sizeLine_eq];decide,I2.bk _ _ hC,hN.keeps I2.bk,T.keeps I2.bk,I2.kIn _ _ hlk,λh3 a M=>?_⟩
  obtain⟨t,m1,m2,m3⟩:=M.there
  have hfree:H1 a=none:=I2.hok.free M.new
  have hch:Ch X pins a:=I2.ch M.new
  have I3:Inv X pins σ H1 {s2 with heap:=h3}:=I2.kept (t':=s2.toks) M.keeps
  have I4:Inv X pins σ (upd H1 a (xo a (aD X.mg x) none)) {s2 with heap:=h3}:=I3.adopt hfree hch (RK m1)
  have rv:Vals [V.ref a,.int n] [Value.ref a,u]:=.cons rfl (.cons ru .nil)
  have hsp:Rx (aD X.mg x) fld [V.ref a,.int n] (upd H1 a (xo a (aD X.mg x) none)) (λv H'=>v= .non/\∃E',H' a=some (xo a (aD X.mg x) (some E'))/\H' E'=some (.xd [(fld,.int n)])/\E'≠a/\∀b o,b≠a->H1 b=some o->H' b=some o) (λ_ _ _=>False):=
   ⟨a,n,rfl,hn,ak,λE' H' h1 h2 h3' h4 h5=>⟨rfl,E',h4,h5,h1,λb o hb q=>h3' b o hb (by rw[az hb];exact q)⟩⟩
  have hl:([Value.ref a,u]:List Value).length=ps.length:=by rw[<-rv.length];exact Fn.len _ _ _ _ hsp
  have hb':=hb {s2 with heap:=h3} [Value.ref a,u] I4.kIn (by simpa using hl)
  rw[List.append_nil]at hb'
  refine wpAny_call (codeAny_mono (Fn.run (X.A.under (.builtin "type.__call__" ⟨.ref (aD X.mg x)::[u],[]⟩)) X.stack {s2 with heap:=h3} _ ⟨[Value.ref a,u],[]⟩ [Value.ref a,u] [V.ref a,.int n] _ (λ_ _ _=>False) (hr'.make (aD X.mg x) [u] [])
   (I4.env0.make (aD X.mg x) [u] []) hb' rv hsp) λr s' hq=>?_)
  cases r with
  |error e=>exact(Dd.never hq).elim
  |ok fl=>
   cases fl with
   |ret v=>
    obtain⟨v',H',I5,rr,ev,E',g1,g2,g3,g4⟩:=I4.after hq
    subst ev
    obtain⟨⟨t',ht'⟩,_,_⟩:=I5.hok a _ g1
    have I6:=I5.forget g1 hch
    refine⟨rr,t',some E',I5.bk _ _ hC,ht',?_⟩
    refine hx pins σ _ s' a _ (some E',true) ⟨I6,none,.none,⟨_,_,ht',rfl,rfl,rfl,rfl,by simp,Ctx.yes rfl,λT z=>nomatch z⟩,.inl rfl,λb hb=>?_⟩ (kq E' _ (λb o q=>?_) ?_)
    .have z:b=a:=by simpa using hb
     subst z
     exact⟨yG,hch⟩
    .have hba:b≠a:=au q hfree
     rw[gU hba]
     exact g4 b o hba q
    .rw[gU g3]
     exact g2
   |next=>exact False.elim hq
   |brk=>exact False.elim hq
   |cont=>exact False.elim hq
end
structure aiu(K:W.Frag)(C:Addr):Prop where
 hd:W.hasDictIn K C=true
 ga:W.findIn K (.ref C) "__getattribute__"=some (some (.builtin "BaseException.__getattribute__"))
 gt:W.findIn K (.ref C) "__getattr__"=some none
 cl:W.findIn K (.ref C) "__class__"=some (some (.builtin "object.__class__"))
 cg:W.specialIn K (.builtin "object.__class__") "__get__"=some (some (.builtin "getset_descriptor.__get__"))
 ct:W.takesIn K (.builtin "object.__class__")=some true
 mo:W.mroIn K C (.type "object")=some true
 mb:W.mroIn K C (.type "BaseException")=some true
section
variable{prog:Program}{w:World}{A:Around}{E:Value->Shared->Prop}{s:Shared}{K:W.Frag}{x C:Addr}{ox:Obj}{od:Option Obj}{name:Str}{v:Value}
end
def xw(e C:Addr)(D:Option Addr):HO:=.ext λh=>∃oe vs,h.get? e=some oe/\oe.cls= .ref C/\oe.dict=D/\oe.data= .fields vs
section
variable{X:Cx}{σ:St}{H:Hp}{Q:VK}{e C:Addr}{D:Option Addr}{k:Bool}
end
section
variable{X:Cx}{pins:List (Addr×Obj)}{σ:St}{H:Hp}{s:Shared}{h':Heap}
end
section
variable{X:Cx}{D:Ends}{σ:St}{H:Hp}{rest:List ExceptHandler}{suite:List Stmt}{b₀:Stmt}{pos np:Pos}{x n:Str}{c:Value}{C:Addr}{d:Option Addr×Bool}{i:Nat}
abbrev aoO(D:Ends)(i:Nat)(e C:Addr)(dd:Option Addr):Ends:=
 {nx:=λσ' H'=>H' e=some (xw e C dd)/\D.nx (σ'.set i none) (p8 H' e),rt:=λv H'=>H' e=some (xw e C dd)/\D.rt v (p8 H' e),
  bk:=λσ' H'=>H' e=some (xw e C dd)/\D.bk (σ'.set i none) (p8 H' e),ct:=λσ' H'=>H' e=some (xw e C dd)/\D.ct (σ'.set i none) (p8 H' e)}
end
structure aib(K:W.Frag)(mg:Str->Option Value)(x:Str):Prop extends XBase K mg x where
 ty:W.typeIn K (.ref (aD mg x))=some (.type "type")
 mb:W.mroIn K (aD mg x) (.type "BaseException")=some true
structure XC(K:W.Frag)(mg:Str->Option Value)(Lx x:Str):Prop where
 at_:mg x=some (.ref (aD mg x))
 xc:zR K (aD mg x) (aD mg Lx)=true
 ty:W.typeIn K (.ref (aD mg x))=some (.type "type")
 attr:aiu K (aD mg x)
section
variable{K:W.Frag}{mg:Str->Option Value}{Lx x y:Str}
end
theorem Ww{P:Program}{w:World}{K:W.Frag}{mg:Str->Option Value}{base:Heap}{cc:Bool}{k:Nat}{Lx x qual fld:Str}{st:Stmt}{ps N:List Str}(O:aaL K mg Lx x qual fld st)(S:aK N ps (aa st))
  (hb:∀(kV doc pm:Value) (an:Option Addr) (cdv ct:Value) (us:List Value),us.length=ps.length->bindArgs (W.fnOf "__init__" qual (aB st) (aq st) (aa st) .none kV doc pm an cdv ct) ⟨us,[]⟩=pure (ps.zip us))
  (len:ps.length=2)
  (body:∀(f:Addr) (cdv:Value) (A:Around) (outer:List Env) (s:Shared) (H:Hp) (vs:List V) (Q:VK) (E:XK),wM K (aD mg x) f=true->dZ cc k (A.deeper (envOfC qual (aa st) s.heap.objs.size f cdv))->Rx (aD mg x) fld vs H Q E->
   lz (w6 cc P w K mg base N qual (aa st) f cdv A outer s H E) (aq st) {nx:=λ_ H'=>Q .non H',rt:=Q} (start N vs) H):aeO P w K mg base cc (k+1) x fld:=by
 obtain⟨f,fd,F,h1,h2⟩:=O.ex
 obtain⟨oc,od,kV,doc,pm,an,cdv,ct,osl,e,lk,hcd⟩:=id F.ex
 refine⟨O.at_,f,fd,ps,oc,od,osl,MP F S (λvs H Q E h=>by obtain⟨a,n,rfl,_⟩:=h;exact len.symm) λcdv A outer s H vs Q E hr h=>body f cdv A outer s H vs Q E h1 hr h,F.binds hb,h1,lk,?_⟩
 have h3:W.typeIn K (.ref f)=some (.type "function"):=beq_iff_eq.mp h2
 have h4:Option.map (λx:Obj=>x.cls) (List.lookup f K)=some (.type "function"):=h3
 rw[lk]at h4
 exact Option.some.inj h4
section
variable{K:W.Frag}{mg:Str->Option Value}{Lx x qual fld:Str}{C L f:Addr}{st:Stmt}{fd:FuncData}
theorem Wa(h:mg x=some (.ref C))(a1:W.readsIn K C (.type "type")=true)(a2:W.findCls K (.ref C) (.type "type") "__init__"=some (.val (.builtin "ValueError.__init__")))(a3:W.specialIn K (.ref C) "__getattribute__"=some (some (.builtin "type.__getattribute__")))
  (a4:W.typeIn K (.ref C)=some (.type "type")) (a5:W.mroIn K C (.type "BaseException")=some true):aib K mg x:=by
 have e:=aL h
 exact {at_:=by rw[e];exact h,reads:=by rw[e];exact a1,ini:=by rw[e];exact a2,ga:=by rw[e];exact a3,ty:=by rw[e];exact a4,mb:=by rw[e];exact a5}
theorem Mt(h:mg x=some (.ref C))(hL:mg Lx=some (.ref L))(a1:zR K C L=true)(a2:W.typeIn K (.ref C)=some (.type "type"))(a3:W.hasDictIn K C=true)(a4:W.findIn K (.ref C) "__getattribute__"=some (some (.builtin "BaseException.__getattribute__")))
  (a5:W.findIn K (.ref C) "__getattr__"=some none) (a6:W.findIn K (.ref C) "__class__"=some (some (.builtin "object.__class__"))) (a7:W.specialIn K (.builtin "object.__class__") "__get__"=some (some (.builtin "getset_descriptor.__get__"))) (a8:W.takesIn K (.builtin "object.__class__")=some true)
  (a9:W.mroIn K C (.type "object")=some true) (a10:W.mroIn K C (.type "BaseException")=some true):XC K mg Lx x:=by
 have e:=aL h
 have eL:=aL hL
 exact⟨by rw[e];exact h,by rw[e,eL];exact a1,by rw[e];exact a2,by rw[e];exact⟨a3,a4,a5,a6,a7,a8,a9,a10⟩⟩
theorem Vm(h:mg x=some (.ref C))(hL:mg Lx=some (.ref L))(F:gj K "__init__" qual st f fd)(a1:wM K C f=true)(a2:W.isFn K (.ref f)=true)(a3:W.findIn K (.ref C) "__setattr__"=some (some (.builtin "object.__setattr__")))
  (a4:W.takerIn K C fld=some none) (a5:zR K C L=true):aaL K mg Lx x qual fld st:=by
 have e:=aL h
 have eL:=aL hL
 exact⟨by rw[e];exact h,⟨f,fd,F,by rw[e];exact a1,a2⟩,by rw[e];exact a3,by rw[e];exact a4,by rw[e,eL];exact a5⟩
end
abbrev axg(h:Heap)(T:Addr)(a b c:Value):Prop:=h.get? T=some {cls:=.type "tuple",data:=.seq #[a,b,c]}
section
variable{prog:Program}{w:World}{A:Around}{E:Value->Shared->Prop}{s:Shared}
end
abbrev z3a(h:Heap)(l1:Addr):Heap:=h.push {cls:=.type "list_iterator",data:=.fields #[.ref l1,.int 0 0]}
abbrev z3b(h:Heap)(l1 l2:Addr):Heap:=(z3a h l1).push {cls:=.type "list_iterator",data:=.fields #[.ref l2,.int 0 0]}
abbrev z3c(h:Heap)(l1 l2 l3:Addr):Heap:=(z3b h l1 l2).push {cls:=.type "list_iterator",data:=.fields #[.ref l3,.int 0 0]}
abbrev z3d(h:Heap)(l1 l2 l3:Addr):Heap:=(z3c h l1 l2 l3).push {cls:=.type "tuple",data:=.seq #[.ref h.objs.size,.ref (z3a h l1).objs.size,.ref (z3b h l1 l2).objs.size]}
abbrev z3e(h:Heap)(l1 l2 l3:Addr):Heap:=(z3d h l1 l2 l3).push {cls:=.type "tuple",data:=.seq #[.none,.none,.none]}
abbrev z3f(h:Heap)(l1 l2 l3:Addr):Heap:=(z3e h l1 l2 l3).push {cls:=.type "zip",data:=.fields #[.none,.bool false,.bool false,.ref (z3c h l1 l2 l3).objs.size,.ref (z3d h l1 l2 l3).objs.size]}
section
variable{prog:Program}{w:World}{A:Around}{E:Value->Shared->Prop}{s:Shared}
end
def ayY(K:W.Frag)(l m q:Addr):It:=
 ⟨λi H=>∃xs ys zs x y z,(bc K H l xs/\bc K H m ys/\bc K H q zs)/\xs[i]? =some x/\ys[i]? =some y/\zs[i]? =some z,
  λi H v H'=>∃T x y z,v= .ref T/\H T=none/\H'=upd H T (.tup [x,y,z])/\(∀xs,bc K H l xs->xs[i]? =some x)/\(∀ys,bc K H m ys->ys[i]? =some y)/\∀zs,bc K H q zs->zs[i]? =some z,
  λi H=>∃xs ys zs,(bc K H l xs/\bc K H m ys/\bc K H q zs)/\(xs.length≤i\/ys.length≤i\/zs.length≤i)⟩
theorem vals3{x y z:V}{us:List Value}(r:Vals [x,y,z] us):∃u v w,us=[u,v,w]/\RelV x u/\RelV y v/\RelV z w:=by
 cases r with
 |cons a r=>
  cases r with
  |cons b r=>
   cases r with
   |cons c r=>
    cases r
    exact⟨_,_,_,rfl,a,b,c⟩
section
variable{X:Cx}{σ:St}{H:Hp}{a b c:Expr}{elts:List Expr}{k:Nat}{tp p pos p':Pos}{R:It->Hp->Prop}{D:Ends}
end
theorem ou:∀{us:List Value} {ys:List Str} {m:Nat} {u:Value},StrsAre us ys->us[m]? =some u->∃y t,ys[m]? =some y/\u= .str y t
 |_,_,_,_,.nil,e=>by simp at e
 |_,_,0,u,.cons y t h,e=>by
  simp at e
  exact⟨y,t,rfl,e.symm⟩
 |_,_,m+1,u,.cons y t h,e=>by
  obtain⟨y',t',e1,e2⟩:=ou h (by simpa using e)
  exact⟨y',t',by simpa using e1,e2⟩
section
variable{X:Cx}{H:Hp}{Q:VK}
theorem Qu{a:Addr}{zs:List Str}{z:Str}{j:Nat}(h:bc X.K H a (zs.map V.str))(hj:zs[j]? =some z)(hno:∀m y,m<j->zs[m]? =some y->¬y=z)(g:Q (.int j) H):MT X "list.index" (.ref a) [.str z] H Q:=by
 refine lH (r:=λx xs H Q=>∃a zs z j,x= .ref a/\xs=[.str z]/\bc X.K H a (zs.map V.str)/\zs[j]? =some z/\(∀m y,m<j->zs[m]? =some y->¬y=z)/\Q (.int (j:Nat)) H) ?_ ⟨a,zs,z,j,rfl,rfl,h,hj,hno,g⟩
 intro pins s σ H x xs v us Q I rx rs h
 obtain⟨a,zs,z,j,rfl,rfl,h,hj,hno,g⟩:=h
 cases rx
 obtain⟨u,rfl,ru⟩:=vals1 rs
 obtain⟨t,rfl⟩:=ru
 obtain⟨its,r,⟨⟨cls,dd,data,sl⟩,n,e,hc,hd,hs⟩,hz⟩:=I.list h
 simp only at hc hd hs
 subst hc hd hs
 have hS:=zW r
 have hlen:its.length=zs.length:=by have :=r.length;rw[List.length_map]at this;exact this.symm
 have hjl:j<its.toArray.size:=by
  rw[List.size_toArray,hlen]
  exact(List.getElem?_eq_some_iff.mp hj).1
 rw[List.length_map]at hz
 have hsz:sizeLine=16777216:=sizeLine_eq
 have hjz:j<zs.length:=(List.getElem?_eq_some_iff.mp hj).1
 refine call_meets F.slot_list_index ⟨_,e,rfl⟩ F.entry_list_index (F.args_list_index_2 _ _) (SeqAt.list_indexAt a its.toArray n _ sl (.str z t) (isStrOf z) j hjl (by omega) ?_ ?_) ⟨e,λy hy=>(eq_isStrOf z t hS y (by simpa using hy)).at _ _,?_⟩
 .obtain⟨y,t',e1,e2⟩:=ou (m:=j) (u:=its.toArray[j]) hS (by simp)
  rw[e2]
  rw[hj]at e1
  cases e1
  show(z==z)=true
  exact beq_self_eq_true z
 .intro m hm hmj
  obtain⟨y,t',e1,e2⟩:=ou (m:=m) (u:=its.toArray[m]) hS (by simp)
  rw[e2]
  show(y==z)=false
  exact beq_eq_false_iff_ne.mpr (hno m y hmj e1)
 .exact⟨.int j,H,I.tok _,⟨_,rfl⟩,g⟩
def ajE(A:Around)(s:Shared):List Value->List Value->Bool->Prop
 |[],[],r=>r=false
 |x::xs,y::ys,r=>∃e,SeqAt.EqAt A s x y e/\(e=true->ajE A s xs ys r)/\(e=false->∀(prog:Program) (w:World) (E:Value->Shared->Prop) (Q:Value->Shared->Prop),Q (.bool r) s->wpAny (model prog w) A (richCompare .Lt x y) Q E s)
 |_,_,_=>False
def ltV:V->V->Bool
 | .int i,.int j=>decide (i<j)
 | .str x,.str y=>decide (x.cps.toList<y.cps.toList)
 |_,_=>false
def ltP(i j:Int)(x y:V):Bool:=if i=j then ltV x y else decide (i<j)
end
structure acS(P:Program)(w:World)(K:W.Frag)(mg:Str->Option Value)(base:Heap)(cc:Bool)(k:Nat)(C:Addr)(m:Str)(ps:List Str)(sp:Sp):Prop where
 cls:pJ K C
 ex:∃f fd,Meth K C m f/\Binds K fd ps []/\wk P w K mg base (Dd P w) cc k f fd ps sp
structure yg(P:Program)(w:World)(K:W.Frag)(mg:Str->Option Value)(base:Heap)(cc:Bool)(k:Nat)(x:Str)(C:Addr)(ps:List Str)(sp:Sp):Prop where
 at_:mg x=some (.ref C)
 ex:∃f fd,Mk K C f/\Binds K fd ps []/\wk P w K mg base (Dd P w) cc k f fd ps sp
structure O8(P:Program)(w:World)(K:W.Frag)(mg:Str->Option Value)(base:Heap)(cc:Bool)(k:Nat)(x m:Str)(ps:List Str)(sp:Sp):Prop where
 ex:∃C f fd,mg x=some (.ref C)/\W.readsIn K C (.type "type")=true/\W.findCls K (.ref C) (.type "type") m=some (.val (.ref f))/\
  W.specialIn K (.ref C) "__getattribute__"=some (some (.builtin "type.__getattribute__"))/\W.keepIn K (.ref f)=true/\Binds K fd ps []/\wk P w K mg base (Dd P w) cc k f fd ps sp
section
variable{X:Cx}{σ:St}{H:Hp}{Q:VK}{D:Ends}{x f m:Str}{p np apos pos pos' tpos:Pos}{a e o value:Expr}{es:List Expr}{Kx:St->XK}{cc:Bool}{k':Nat}
theorem aex(hb:attributeBase e f X.env (eval e X.env)=eval e X.env)(h:EV X e σ H λx H1=>∃a C dx fs v,x= .ref a/\H1 a=some (.ins C dx fs)/\pJ X.K C/\aU X.K C f/\fs.lookup f=some v/\Q v H1):EV X (.Attribute e f pos) σ H Q:=
 fj (adU bu hb) h
theorem mK(hs:swapsWith value (some (.Attribute o f pos')) pos.line X.env=pure false)
  (h:EV X value σ H λy H1=>EV X o σ H1 λx H2=>∃a C dx fs,x= .ref a/\H2 a=some (.ins C dx fs)/\pJ X.K C/\aU X.K C f/\fs.length<1000/\D.nx σ (upd H2 a (.ins C dx (gk f y fs)))):SX X (.Assign [.Attribute o f pos'] value pos) D σ H:=
 λpins s I=>adG bu bu hs pins s σ H D I h
theorem Ry{pl:Sem Bool}(hr:dZ cc k' X.A)(hx:Et X Kx)
  (ht:eval (.Call (.Attribute o m apos) [] [] pos) X.env=(do
   let ov<-eval o X.env
   standAt apos.atName
   let(f,first)<-holding [ov] (getMethod ov m pl)
   callWith pos f first (backTo pos (starEach [] X.env)) (backToKw pos (keywordEach [] X.env))))
  (h:EV X o σ H λx H1=>∃a C dx fs Dq k ps sp,x= .ref a/\H1 a=some (.ins C dx fs)/\fs.lookup m=none/\acS X.prog X.w X.K X.mg X.base Dq k C m ps sp/\k≤k'/\(Dq=true->cc=true)/\sp [x] H1 Q (Kx σ)):
  EV X (.Call (.Attribute o m apos) [] [] pos) σ H Q:=by
 intro pins s I
 refine W.methodCall_KW (pl:=pl) (cR (h pins s I) λu s1 ⟨x,H1,I1,rx,a,C,dx,fs,Dq,k,ps,sp,ex,ea,hl,M,hk,hcc,q⟩=>?_) ht
 subst ex
 cases(show u=Value.ref a from rx)
 obtain⟨f,fd,hm,hb,F⟩:=M.ex
 refine JD I1 ea M.cls hm hl ?_
 exact W.callWith_K0 (first:=[.ref a]) I1.kIn hm.kp (Ef (us:=[.ref a]) (vs:=[.ref a]) F ((hr.mono hk).zH hcc) hb hx I1 (.cons rfl .nil) q)
theorem tO{pl:Sem Bool}{Dq:Bool}{k:Nat}{ps:List Str}{sp:Sp}(B:O8 X.prog X.w X.K X.mg X.base Dq k x m ps sp)(hr:dZ cc k' X.A)(hk:k≤k')(hcc:Dq=true->cc=true)(hx:Et X Kx)(hg:Gl X x)(hd:(x==("__debug__":Str))=false)
  (hst:starEach (e::es) X.env=(false,eval e X.env)::starEach es X.env) (hpl:(backTo pos (starEach es X.env)).any (·.1)=false)
  (ht:eval (.Call (.Attribute (.Name x np) m apos) (e::es) [] pos) X.env=(do
   let ov<-eval (.Name x np) X.env
   standAt apos.atName
   let(f,first)<-holding [ov] (getMethod ov m pl)
   callWith pos f first (backTo pos (starEach (e::es) X.env)) (backToKw pos (keywordEach [] X.env))))
  (h:EA X (e::es) σ H λvs H1=>sp vs H1 Q (Kx σ)):EV X (.Call (.Attribute (.Name x np) m apos) (e::es) [] pos) σ H Q:=by
 obtain⟨C,f,fd,hm,hrd,hf,hga,hkp,hb,F⟩:=B.ex
 intro pins s I
 refine W.methodCall_KW (pl:=pl) (mO I hg hm ?_ hd) ht
 refine W.method_cls I.kIn hga (W.cls_value I.kIn hrd hf (by rfl) ?_)
 have I1:=I.tok (s.toks+1)
 refine W.callWith_K (first:=[]) (h₀:=X.base) I.ok.mod.kin hkp (cR (h pos pins _ I1) λus s2 ⟨vs,H2,I2,r,q2⟩=>⟨I2.kIn,?_⟩) hst hpl
 exact Ef F ((hr.mono hk).zH hcc) hb hx I2 r q2
theorem O4{cc:Bool}{k:Nat}{C g:Addr}{fd:FuncData}{ps:List Str}{sp:Sp}{pins:List (Addr×Obj)}{s:Shared}{us:List Value}{vs:List V}(M:Mk X.K C g)(F:wk X.prog X.w X.K X.mg X.base (Dd X.prog X.w) cc k g fd ps sp)(hr:dZ cc (k+1) X.A)(hb:Binds X.K fd ps [])(hx:Et X Kx)
  (I:Inv X pins σ H s) (r:Vals vs us)
  (h:∀y dx,H y=none->H dx=none->dx≠y->sp (.ref y::vs) (upd (upd H dx (.own y)) y (.ins C dx [])) (λv H2=>v= .non/\Q (.ref y) H2) (Kx σ)):
  wpAny (model X.prog X.w) X.A (call (.ref C) us) (EP X pins σ Q) X.xe s:=by
 have hy:H (s.heap.objs.size+1)=none:=I.hok.fresh (Nat.le_succ _)
 have hdx:H s.heap.objs.size=none:=I.hok.fresh (Nat.le_refl _)
 have q:=h _ _ hy hdx (Nat.ne_of_lt (Nat.lt_succ_self _))
 have I2:=Inv.made (C:=C) I
 have rr:Vals (V.ref (s.heap.objs.size+1)::vs) (Value.ref (s.heap.objs.size+1)::us):=.cons rfl r
 have hl:(Value.ref (s.heap.objs.size+1)::us).length=ps.length:=by rw[<-rr.length];exact F.len _ _ _ _ q
 have hb':=hb {s with heap:=(s.heap.push W.emptyDict).push (W.instObj C s.heap.objs.size)} (Value.ref (s.heap.objs.size+1)::us) I2.kIn (by simpa using hl)
 rw[List.append_nil]at hb'
 refine wpAny_call (Um (f:=g) I.kIn M.makes M.init (beq_iff_eq.mp M.fn) (codeAny_mono (F.run _ X.stack _ _ ⟨Value.ref (s.heap.objs.size+1)::us,[]⟩ _ _ _ (Kx σ) (hr.make C us []) (I2.env0.make C us []) hb' rr q) λres s' hq=>?_))
 match res,hq with
 | .error z,hq=>
   obtain⟨b,cls,d,H',rfl,xa,w⟩:=I2.flown hq
   exact hx pins σ H' s' b cls d xa w
 | .ok (.ret u),hq=>
   obtain⟨v,H',I3,rv,ev,q3⟩:=I2.after hq
   subst ev
   exact⟨rv,⟨V.ref (s.heap.objs.size+1),H',I3,rfl,q3⟩⟩
 | .ok .next,hq=>exact False.elim hq
 | .ok .brk,hq=>exact False.elim hq
 | .ok .cont,hq=>exact False.elim hq
theorem jq{Dq:Bool}{k:Nat}{C:Addr}{ps:List Str}{sp:Sp}(M:yg X.prog X.w X.K X.mg X.base Dq k x C ps sp)(hr:dZ cc k' X.A)(hk:k+1≤k')(hcc:Dq=true->cc=true)(hx:Et X Kx)(hg:Gl X x)(hd:(x==("__debug__":Str))=false)
  (hst:starEach (e::es) X.env=(false,eval e X.env)::starEach es X.env) (hpl:(backTo pos (starEach es X.env)).any (·.1)=false)
  (h:EA X (e::es) σ H λvs H1=>∀y dx,H1 y=none->H1 dx=none->dx≠y->sp (.ref y::vs) (upd (upd H1 dx (.own y)) y (.ins C dx [])) (λv H2=>v= .non/\Q (.ref y) H2) (Kx σ)):
  EV X (.Call (.Name x p) (e::es) [] pos) σ H Q:=by
 obtain⟨f,fd,hm,hb,F⟩:=M.ex
 intro pins s I
 refine wpAny_Call_Name_kw (mO I hg M.at_ ?_ hd)
 refine W.callWith_K (h₀:=X.base) I.ok.mod.kin hm.kp (cR (h pos pins s I) λus s1 ⟨vs,H1,I1,r,q⟩=>⟨I1.kIn,?_⟩) hst hpl
 exact O4 hm F ((hr.mono hk).zH hcc) hb hx I1 r q
end
structure OM(K:W.Frag)(C:Addr)(m qual:Str)(st:Stmt):Prop where
 ex:∃f fd,gj K m qual st f fd/\Meth K C m f
structure OI(K:W.Frag)(C:Addr)(qual:Str)(st:Stmt):Prop where
 ex:∃f fd,gj K "__init__" qual st f fd/\Mk K C f
structure OB(K:W.Frag)(C:Addr)(m qual:Str)(st:Stmt):Prop where
 rd:W.readsIn K C (.type "type")=true
 ga:W.specialIn K (.ref C) "__getattribute__"=some (some (.builtin "type.__getattribute__"))
 ex:∃f fd,gj K m qual st f fd/\W.findCls K (.ref C) (.type "type") m=some (.val (.ref f))
def FD(P:Program)(w:World)(K:W.Frag)(mg:Str->Option Value)(base:Heap)(cc:Bool)(k:Nat)(m qual:Str)(st:Stmt)(ps:List Str)(sp:Sp):Prop:=
 ∀f fd,gj K m qual st f fd->Binds K fd ps []/\wk P w K mg base (Dd P w) cc k f fd ps sp
section
variable{P:Program}{w:World}{K:W.Frag}{mg:Str->Option Value}{base:Heap}{cc:Bool}{k:Nat}{x m qual:Str}{C:Addr}{st:Stmt}{ps N:List Str}{sp:Sp}
theorem BV(S:aK N ps (aa st))
  (hb:∀(kV doc pm:Value) (an:Option Addr) (cdv ct:Value) (us:List Value),us.length=ps.length->bindArgs (W.fnOf m qual (aB st) (aq st) (aa st) .none kV doc pm an cdv ct) ⟨us,[]⟩=pure (ps.zip us))
  (len:∀vs H Q E,sp vs H Q E->vs.length=ps.length)
  (body:∀(f:Addr) (cdv:Value) (A:Around) (outer:List Env) (s:Shared) (H:Hp) (vs:List V) (Q:VK) (E:XK),dZ cc k (A.deeper (envOfC qual (aa st) s.heap.objs.size f cdv))->sp vs H Q E->
   lz (w6 cc P w K mg base N qual (aa st) f cdv A outer s H E) (aq st) {nx:=λ_ H'=>Q .non H',rt:=Q} (start N vs) H):FD P w K mg base cc (k+1) m qual st ps sp:=
 λf fd F=>⟨F.binds hb,MP F S len λcdv A outer s H vs Q E hr h=>body f cdv A outer s H vs Q E hr h⟩
theorem FD.meth(F:FD P w K mg base cc k m qual st ps sp)(c:pJ K C)(O:OM K C m qual st):acS P w K mg base cc k C m ps sp:=by
 obtain⟨f,fd,h1,h2⟩:=O.ex
 exact⟨c,f,fd,h2,F f fd h1⟩
theorem FD.make(F:FD P w K mg base cc k "__init__" qual st ps sp)(hm:mg x=some (.ref C))(O:OI K C qual st):yg P w K mg base cc k x C ps sp:=by
 obtain⟨f,fd,h1,h2⟩:=O.ex
 exact⟨hm,f,fd,h2,F f fd h1⟩
theorem FD.asked(F:FD P w K mg base cc k m qual st ps sp)(hm:mg x=some (.ref C))(O:OB K C m qual st):O8 P w K mg base cc k x m ps sp:=by
 obtain⟨f,fd,h1,h2⟩:=O.ex
 obtain⟨h3,h4⟩:=F f fd h1
 exact⟨C,f,fd,hm,O.rd,h2,O.ga,h1.kp,h3,h4⟩
theorem cZ{f:Addr}{fd:FuncData}(h:mg x=some (.ref C))(F:gj K m qual st f fd)(a:W.findIn K (.ref C) m=some (some (.ref f)))(b:W.isFn K (.ref f)=true):OM K (aD mg x) m qual st:=by
 rw[aL h]
 exact⟨f,fd,F,a,b,F.kp⟩
theorem mZ{f:Addr}{fd:FuncData}(h:mg x=some (.ref C))(F:gj K "__init__" qual st f fd)(a:W.findIn K (.ref C) "__init__"=some (some (.ref f)))(b:W.isFn K (.ref f)=true)(c:W.makesIn K C=true)(d:W.keepIn K (.ref C)=true):OI K (aD mg x) qual st:=by
 rw[aL h]
 exact⟨f,fd,F,c,a,b,d⟩
theorem aji{f:Addr}{fd:FuncData}(h:mg x=some (.ref C))(F:gj K m qual st f fd)(a:W.findCls K (.ref C) (.type "type") m=some (.val (.ref f)))(b:W.readsIn K C (.type "type")=true)(c:W.specialIn K (.ref C) "__getattribute__"=some (some (.builtin "type.__getattribute__"))):OB K (aD mg x) m qual st:=by
 rw[aL h]
 exact⟨b,c,f,fd,F,a⟩
theorem iY(h:mg x=some (.ref C))(a:W.plainGet K C Str.empty=true)(b:W.hasDictIn K C=true)(c:W.plainOver K C=true)(d:W.findIn K (.ref C) "__setattr__"=some (some (.builtin "object.__setattr__"))):pJ K (aD mg x):=by
 rw[aL h]
 exact⟨a,b,c,d⟩
end
theorem gf{X:Cx}{σ:St}{H:Hp}{D:Ends}{elts:List Expr}{k:Nat}{tp pos:Pos}{value:Expr}(hs:swapsWithSole [.Tuple elts k tp] value pos.line X.env=pure false)(hw:swappedStores [.Tuple elts k tp] value X.env=pure none)
  (h:EV X value σ H λv H1=>EG X (.Tuple elts k tp) v σ H1 λσ' H'=>D.nx σ' H'):SX X (.Assign [.Tuple elts k tp] value pos) D σ H:=by
 intro pins s I
 refine Assign_Tuple (cR (h pins s I) λu s1 ⟨v,H1,I1,r1,q1⟩=>?_) hs hw
 exact cR (q1 pins s1 u I1 r1) λ_ s2 ⟨σ',H',I2,q2⟩=>⟨σ',H',I2,q2⟩
structure OT(K:W.Frag)(C:Addr):Prop where
 ty:∀(H:Hp) (a dx:Addr) (fs:List (Str×V)),H a=some (.ins C dx fs)->iW K H (.ref a) (.ref C)
section
variable{X:Cx}{σ:St}{H:Hp}{Q:VK}{D:Ends}{pos tpos:Pos}{o i value:Expr}
theorem V1(hs:swapsWithSole [.Subscript o i tpos] value pos.line X.env=pure false)(hw:swappedStores [.Subscript o i tpos] value X.env=pure none)(h1:(assignEach [.Subscript o i tpos] X.env).map (·.2)=[assign (.Subscript o i tpos) X.env])
  (ha:∀v,assign (.Subscript o i tpos) X.env v=(do
   let ov<-holding [v] (eval o X.env)
   let iv<-holding [v,ov] (eval i X.env)
   standAt tpos
   holding [v,ov,iv] (setItem ov iv v)
   release [v,ov,iv] []))
  (h:EV X value σ H λv H1=>EV X o σ H1 λov H2=>EV X i σ H2 λiv H3=>∃p xs k j,ov= .ref p/\iv= .int k/\H3 p=some (.lst xs)/\Yp xs.length k=some j/\D.nx σ (upd H3 p (.lst (xs.set j v)))):SX X (.Assign [.Subscript o i tpos] value pos) D σ H:=
 λpins s I=>adL (X:=X) bu (ab7 bu bu set_list ha) hs hw h1 pins s σ H D I h
end
section
variable{prog:Program}{w:World}{A:Around}{E:Value->Shared->Prop}{s:Shared}
end
section
variable{X:Cx}{H:Hp}{Q:VK}{D:Ends}{σ σ':St}{e a b c elt tg:Expr}{scope:Scope}{pos spos py p p':Pos}{x y:Str}{j:Nat}
end
section
variable{X:Cx}{σ:St}{H:Hp}{Q:VK}{D:Ends}{pos pos' tpos apos cpos:Pos}{o i e f value:Expr}{y v:V}{a:Addr}{r:Option V}
end
end L2
namespace My
open PySem
abbrev SGs:Str:=Str.ofString "-0123456789abcdefghijklmnopqrstuvwxyz"
abbrev R9:Str:=Str.ofString "abcdefghijklmnopqrstuvwxyz0123456789-"
def SG:List Nat:=SGs.cps.toList
def TS:List Nat:=R9.cps.toList
theorem ajy:∀c∈SG,c∈TS:=by decide+kernel
def tb:List Nat->List Nat->Bool
 |[],[]=>false
 |[],_::_=>true
 |_::_,[]=>false
 |x::xs,y::ys=>if x=y then tb xs ys else decide (SG.idxOf x<SG.idxOf y)
end My
namespace L2
open PySem PySem.Spec PyProof.Rows
theorem Mz{α:Type}{xs:List α}{f:α->V}{i:Int}(d:α)(h0:0≤i)(h1:i<xs.length):n8 (xs.map f) i=some (f (xs.getD i.toNat d)):=by
 have e:i=((i.toNat:Nat):Int):=by omega
 have hl:i.toNat<xs.length:=by omega
 have h2:(xs.map f)[i.toNat]? =some (f (xs.getD i.toNat d)):=by
  rw[List.getElem?_map,List.getElem?_eq_getElem hl]
  simp[hl]
 have :=bz h2
 rw[<-e]at this
 exact this
theorem xT{α:Type}{xs:List α}{i:Int}(h0:0≤i)(h1:i<xs.length):∃v,n8 xs i=some v/\v∈xs:=by
 have hl:i.toNat<xs.length:=by omega
 have e:i=((i.toNat:Nat):Int):=by omega
 have :=bz (List.getElem?_eq_getElem hl)
 rw[<-e]at this
 exact⟨_,this,List.getElem_mem hl⟩
theorem uy:∀l:List Nat,((l.map λc=>(⟨#[c]⟩:Str)).map (·.length)).sum=l.length
 |[]=>rfl
 |c::r=>by
  rw[List.map_cons,List.map_cons,List.sum_cons,uy r,List.length_cons]
  show 1+r.length=_
  omega
theorem my:∀l:List Nat,Str.join (Str.ofString "") (l.map λc=>⟨#[c]⟩)=⟨l.toArray⟩
 |[]=>rfl
 |[c]=>rfl
 |c::d::r=>by
  have ih:=my (d::r)
  show(⟨#[c]⟩:Str)++Str.ofString ""++Str.join (Str.ofString "") ((d::r).map λc=>⟨#[c]⟩)=_
  rw[ih]
  have e0:(Str.ofString "")=⟨#[]⟩:=by decide+kernel
  rw[e0]
  show(⟨(#[c]++ #[])++(d::r).toArray⟩:Str)=⟨(c::d::r).toArray⟩
  simp
theorem bQ{x y:Str}(h:x.cps.toList=y.cps.toList):x=y:=by
 obtain⟨⟨a⟩⟩:=x
 obtain⟨⟨b⟩⟩:=y
 simp only at h
 rw[h]
theorem bw(x y:Str):(x++y).cps.toList=x.cps.toList++y.cps.toList:=by
 show(x.cps++y.cps).toList=_
 simp
theorem len_list(z:Str):z.length=z.cps.toList.length:=by simp[Str.length]
theorem len_app(x y:Str):(x++y).length=x.length+y.length:=by rw[len_list,bw,List.length_append,len_list,len_list]
theorem pF(z:Str)(lo hi:Option Int):(bV z lo hi).length≤z.length:=by
 unfold bV Str.length
 simp
 omega
theorem uU(z:Str)(lo hi:Option Int):(bV z lo hi).cps.toList=(z.cps.toList.drop (HT.dI z.length 0 lo)).take (HT.dI z.length z.length hi-HT.dI z.length 0 lo):=by
 unfold bV
 simp
theorem lM(z:Str)(k:Nat):(bV z (some (k:Int)) none).cps.toList=z.cps.toList.drop k:=by
 rw[uU,HT.xZ,HT.zg]
 have hl:=len_list z
 by_cases h:k≤z.length
 .rw[Nat.min_eq_left h,List.take_of_length_le (by rw[List.length_drop];omega)]
 .have h':z.length≤k:=by omega
  rw[Nat.min_eq_right h',List.drop_of_length_le (by omega),List.drop_of_length_le (by omega)]
  simp
theorem uq(z:Str)(k:Nat):(bV z none (some (k:Int))).cps.toList=z.cps.toList.take k:=by
 rw[uU,HT.xZ,HT.zg,List.drop_zero,Nat.sub_zero]
 have hl:=len_list z
 by_cases h:k≤z.length
 .rw[Nat.min_eq_left h]
 .have h':z.length≤k:=by omega
  rw[Nat.min_eq_right h',List.take_of_length_le (by omega),List.take_of_length_le (by omega)]
theorem zA(z:Str)(c:Nat):Txt.startswith z ⟨#[c]⟩=decide (z.cps.toList[0]? =some c):=by
 rw[Bool.eq_iff_iff,decide_eq_true_eq, <-StrLaws.subAt_one]
 unfold Txt.startswith
 rw[Bool.and_eq_true,decide_eq_true_eq]
end L2
namespace Vl
open PySem L2 PyProof.Rows My NumText
def scalar:V->Bool
 | .non | .int _ | .str _=>true
 |_=>false
def adJ:V->Bool
 | .int _=>true
 |_=>false
def isNum:V->Bool
 | .int i=>decide (-1000000000000000000≤i/\i≤1000000000000000000)
 |_=>false
def iz(z g:Str):Bool:=z.cps.toList.all λc=>decide (c∈g.cps.toList)
def xu:V->Bool
 | .str z=>decide (z.length≤20)&&iz z R9
 |_=>false
def isVal(kind:Str):V->Bool
 | .non=>true
 |v=>if kind="number" then isNum v else xu v
def before:V->V->Bool
 |_,.non=>false
 | .non,_=>true
 | .int i,.int j=>decide (i<j)
 | .str x,.str y=>decide (x.cps.toList<y.cps.toList)
 |_,_=>false
def short:V->Prop
 | .str z=>z.length≤4000
 |_=>True
def ajU:Sp:=λvs H Q _=>∃v,vs=[v]/\scalar v=true/\Q (.bl (adJ v)) H
def Jz:Sp:=λvs H Q _=>∃z g:Str,vs=[.str z,.str g]/\z.length≤4000/\∀H',ao H H'->Q (.bl (iz z g)) H'
def awZ:Sp:=λvs H Q _=>∃v,vs=[v]/\scalar v=true/\Q (.bl (isNum v)) H
def Yn:Sp:=λvs H Q _=>∃v,vs=[v]/\scalar v=true/\short v/\∀H',ao H H'->Q (.bl (xu v)) H'
def awF:Sp:=λvs H Q _=>∃(k:Str) (v:V),vs=[.str k,v]/\scalar v=true/\short v/\∀H',ao H H'->Q (.bl (isVal k v)) H'
def agN:Sp:=λvs H Q _=>∃x y:V,vs=[x,y]/\(x= .non\/y= .non\/(∃i j,x= .int i/\y= .int j)\/∃i j,x= .str i/\y= .str j)/\Q (.bl (before x y)) H
def Ho(c:Nat):Bool:=decide (48≤c/\c≤57)
abbrev FGs:Str:=Str.ofString "0123456789"
theorem aaK:∀c:Nat,c∈FGs.cps.toList↔(48≤c/\c≤57):=by
 intro c
 have e:FGs.cps.toList=[48,49,50,51,52,53,54,55,56,57]:=by decide+kernel
 rw[e]
 simp only[List.mem_cons,List.not_mem_nil,or_false]
 omega
theorem O1(z:Str):iz z FGs=z.cps.toList.all Ho:=by
 unfold iz Ho
 congr 1
 funext c
 rw[decide_eq_decide]
 exact aaK c
def gn(l:List Nat):Bool:=decide (l=[48])||(decide (l≠[])&&(decide (l[0]? ≠some 48)&&l.all Ho))
def Pn(l:List Nat):Bool:=if l[0]? =some 45 then decide (l.drop 1≠[48])&&gn (l.drop 1)else gn l
def mQ(l:List Nat):Int:=if l[0]? =some 45 then -((digitsVal (l.drop 1):Nat):Int)else((digitsVal l:Nat):Int)
theorem qg{l:List Nat}(h:gn l=true):AllDigits l/\l≠[]:=by
 unfold gn at h
 rw[Bool.or_eq_true,Bool.and_eq_true,Bool.and_eq_true,decide_eq_true_eq,decide_eq_true_eq]at h
 rcases h with h |⟨h1,_,h2⟩
 .subst h
  exact⟨λc hc=>by simp at hc;omega,by simp⟩
 .exact⟨λc hc=>of_decide_eq_true (List.all_eq_true.mp h2 c hc),h1⟩
def ie(l:List Nat):Option Int:=if Pn l=true/\l.length≤20/\ -1000000000000000000≤mQ l/\mQ l≤1000000000000000000 then some (mQ l)else none
def jo(z:Str):Option Str:=if z.cps.toList[0]? =some 39/\xu (.str (bV z (some 1) none))=true then some (bV z (some 1) none)else none
def Wf:Option Int->Option V
 |some i=>some (.int i)
 |none=>none
def acH:Option Str->Option V
 |some i=>some (.str i)
 |none=>none
def j4(kind word:Str):Option V:=if word="?" then some .non else if kind="number" then Wf (ie word.cps.toList)else acH (jo word)
def wordOf:V->Str
 | .non=>"?"
 | .str z=>Str.ofString "'"++z
 | .int i=>Str.ofString (toString i)
 |_=>""
def QM:Sp:=λvs H Q _=>∃v,vs=[v]/\scalar v=true/\short v/\(∀i,v= .int i->i.natAbs.log2<1920)/\Q (.str (wordOf v)) H
def Yk:Sp:=λvs H Q _=>∃z,vs=[.str z]/\z.length≤4000/\∀H',ao H H'->Q (.bl (gn z.cps.toList)) H'
def azk:Sp:=λvs H Q _=>∃z,vs=[.str z]/\z.length≤4000/\∀H',ao H H'->Q (.bl (Pn z.cps.toList)) H'
def v7(c:Value)(r:Option V)(H:Hp)(Q:VK)(E:XK):Prop:=∀H',ao H H'->match r with
 |some v=>Q v H'
 |none=>E c (none,true) H'
def M5(c:Value):Sp:=λvs H Q E=>∃z,vs=[.str z]/\z.length≤4000/\v7 c (Wf (ie z.cps.toList)) H Q E
def Lh(c:Value):Sp:=λvs H Q E=>∃z,vs=[.str z]/\z.length≤4000/\v7 c (acH (jo z)) H Q E
def Dk(c:Value):Sp:=λvs H Q E=>∃k z,vs=[.str k,.str z]/\z.length≤4000/\v7 c (j4 k z) H Q E
def Od(n:Nat)(z:Str):Prop:=z.length≤n/\∀c∈z.cps.toList,c<1114112
theorem Od.lay{n:Nat}{z:Str}(h:Od n z):(PyData.str z).canLay0=true:=by
 show PyData.strOk z=true
 unfold PyData.strOk
 rw[Array.all_eq_true_iff_forall_mem]
 intro c hc
 exact decide_eq_true (h.2 c (by simpa using hc))
theorem Od.sg{n:Nat}{z:Str}(hl:z.length≤n)(h:∀c∈z.cps.toList,c∈SG):Od n z:=⟨hl,λc hc=>by
 have :∀c∈SG,c<1114112:=by decide+kernel
 exact this c (h c hc)⟩
def dV:V->PyData
 | .bl b=>.bool b
 | .int i=>.int i
 | .str x=>.str x
 |_=>.none
def YQ:V->Bool
 | .non | .int _ | .str _ | .bl _=>true
 |_=>false
theorem abL{K:PySem.W.Frag}{H:Hp}{v:V}(h:YQ v=true):RD K H v (dV v):=by
 cases v with
 |non=>exact .non
 |bl b=>exact .bl b
 |int i=>exact .int i
 |str x=>exact .str x
 |_=>cases h
theorem MN{K:PySem.W.Frag}{H:Hp}:∀{xs:List V},xs.all YQ=true->Qd K H xs (xs.map dV)
 |[],_=>.nil
 |x::xs,h=>by
  rw[List.all_cons,Bool.and_eq_true]at h
  exact .cons (abL h.1) (MN h.2)
theorem jQ{i:Int}(h:i.natAbs<10^60):i.natAbs.log2<1920:=by
 by_cases h0:i.natAbs=0
 .rw[h0];decide
 .rw[Nat.log2_lt h0]
  refine Nat.lt_of_lt_of_le h ?_
  decide+kernel
theorem iU(m:Nat):(Str.ofString (toString ((m:Nat):Int))).cps.toList=(Nat.toDigits 10 m).map Char.toNat:=PySem.W.KIN.signs_num m
theorem gG(m:Nat):∀c∈(Str.ofString (toString ((m:Nat):Int))).cps.toList,48≤c/\c≤57:=by
 rw[iU]
 intro c hc
 obtain⟨d,hd,rfl⟩:=List.mem_map.mp hc
 have :=Nat.isDigit_of_mem_toDigits (b:=10) (n:=m) (by decide) (by decide) hd
 simp only[Char.isDigit,Bool.and_eq_true,decide_eq_true_eq]at this
 have h1:(48:UInt32).toNat≤d.val.toNat:=this.1
 have h2:d.val.toNat≤(57:UInt32).toNat:=this.2
 exact⟨h1,h2⟩
theorem j8{m k:Nat}(hk:1≤k)(h:m<10^k):(Str.ofString (toString ((m:Nat):Int))).length≤k:=by
 rw[L2.len_list,iU,List.length_map]
 exact PyProof.Rows.digits10_le hk h
theorem xV(m:Nat)(h:0<m):Str.ofString (toString (-((m:Nat):Int)))=Str.ofString "-"++Str.ofString (toString ((m:Nat):Int)):=by
 obtain⟨k,rfl⟩:∃k,m=k+1:=⟨m-1,by omega⟩
 have e:(-((k+1:Nat):Int))=Int.negSucc k:=rfl
 rw[e]
 apply bQ
 rw[bw]
 rw[PyProof.Rows.signs_ofString,PyProof.Rows.signs_ofString,PyProof.Rows.signs_ofString]
 show(("-"++Nat.repr (k+1)).toList.map Char.toNat)="-".toList.map Char.toNat++(Nat.repr (k+1)).toList.map Char.toNat
 rw[String.toList_append,List.map_append]
end Vl
namespace Lw
open PySem L2 PyProof.Rows My NumText
def K1(ns:List Int)(k:Int):Int:=if 0<ns.length then ns.getD (k % (ns.length:Int)).toNat 0 else 0
def bB(ns:List Int)(k m:Int):Int:=(K1 ns k % 1000003+31*k*k+1)*48271 % 999983*7919 % 524287 % m
theorem bf(ns:List Int)(k:Int){m:Int}(h:0<m):0≤bB ns k m:=Int.emod_nonneg _ (by omega)
theorem bh(ns:List Int)(k:Int){m:Int}(h:0<m):bB ns k m<m:=Int.emod_lt_of_pos _ h
def kO(K:PySem.W.Frag):Sp:=λvs H Q _=>∃(a:Addr) (ns:List Int) (k m:Int),vs=[.ref a,.int k,.int m]/\bc K H a (ns.map V.int)/\ns.length≤63/\0≤k/\k≤100000/\0<m/\Q (.int (bB ns k m)) H
def ab3(ns:List Int)(b:Int)(n:Nat):List Nat:=(List.range n).map λk:Nat=>SG.getD (bB ns (b+(k:Int)) 37).toNat 0
def ahb(ns:List Int)(b:Int)(n:Nat):Str:=⟨(ab3 ns b n).toArray⟩
def auk(K:PySem.W.Frag):Sp:=λvs H Q _=>∃(a:Addr) (ns:List Int) (b n:Int),vs=[.ref a,.int b,.int n]/\bc K H a (ns.map V.int)/\ns.length≤63/\0≤b/\b≤50000/\0≤n/\n≤1000/\∀H',ao H H'->Q (.str (ahb ns b n.toNat)) H'
end Lw
namespace Vl
open PySem L2 PyProof.Rows My NumText
inductive eU {α β:Type} (R:α->β->Prop):List α->List β->Prop
 |nil:eU R [] []
 |cons {a:α} {b:β} {l:List α} {m:List β}:R a b->eU R l m->eU R (a::l) (b::m)
theorem eU.len{α β:Type}{R:α->β->Prop}:∀{l:List α} {m:List β},eU R l m->l.length=m.length
 |_,_,.nil=>rfl
 |_,_,.cons _ t=>by rw[List.length_cons,List.length_cons,t.len]
theorem eU.imp{α β:Type}{R S:α->β->Prop}(h:∀a b,R a b->S a b):∀{l:List α} {m:List β},eU R l m->eU S l m
 |_,_,.nil=>.nil
 |_,_,.cons r t=>.cons (h _ _ r) (t.imp h)
theorem eU.get{α β:Type}{R:α->β->Prop}:∀{l:List α} {m:List β},eU R l m->∀{i:Nat} {a:α},l[i]? =some a->∃b,m[i]? =some b/\R a b
 |_,_,.nil,i,a,e=>by simp at e
 |_,_,.cons r t,0,a,e=>by simp at e;subst e;exact⟨_,rfl,r⟩
 |_,_,.cons r t,i+1,a,e=>by simp at e;exact t.get e
theorem eU.get'{α β:Type}{R:α->β->Prop}:∀{l:List α} {m:List β},eU R l m->∀{i:Nat} {b:β},m[i]? =some b->∃a,l[i]? =some a/\R a b
 |_,_,.nil,i,a,e=>by simp at e
 |_,_,.cons r t,0,a,e=>by simp at e;subst e;exact⟨_,rfl,r⟩
 |_,_,.cons r t,i+1,a,e=>by simp at e;exact t.get' e
theorem eU.app{α β:Type}{R:α->β->Prop}:∀{l l':List α} {m m':List β},eU R l m->eU R l' m'->eU R (l++l') (m++m')
 |_,_,_,_,.nil,h=>h
 |_,_,_,_,.cons r t,h=>.cons r (t.app h)
abbrev bK:=Str×Str
def Li(H:Hp)(v:V)(c:bK):Prop:=∃t,v= .ref t/\H t=some (.tup [.str c.1,.str c.2])
theorem Li.same{H H':Hp}{v:V}{c:bK}(h:Li H v c)(s:ao H H'):Li H' v c:=by
 obtain⟨t,e,q⟩:=h
 exact⟨t,e,s _ _ q⟩
def gO(H:Hp)(a:Addr)(cs:List bK):Prop:=∃vs:List V,H a=some (.lst vs)/\eU (Li H) vs cs
theorem gO.same{H H':Hp}{a:Addr}{cs:List bK}(h:gO H a cs)(s:ao H H'):gO H' a cs:=by
 obtain⟨vs,e,q⟩:=h
 exact⟨vs,s _ _ e,q.imp λa b r=>r.same s⟩
abbrev Vb:Str:=Str.ofString "abcdefghijklmnopqrstuvwxyz"
def isName(z:Str):Bool:=decide (1≤z.length/\z.length≤8)&&iz z Vb
def uV(k:Str):Bool:=decide (k="number"\/k="text")
def aW(cs:List bK):Bool:=decide (1≤cs.length/\cs.length≤6)&&(cs.all λc=>isName c.1&&uV c.2)&&decide ((cs.map Prod.fst).Nodup)
def aqf:Sp:=λvs H Q _=>∃z,vs=[.str z]/\z.length≤4000/\∀H',ao H H'->Q (.bl (isName z)) H'
def abH(cs:List bK):Prop:=∀c∈cs,c.1.length≤4000/\c.2.length≤4000
def axy(c:Value):Sp:=λvs H Q E=>∃a cs,vs=[.ref a]/\gO H a cs/\cs.length≤4000/\abH cs/\∀H',ao H H'->if aW cs=true then Q .non H' else E c (none,true) H'
def jb:List bK->Str->Nat->V
 |[],_,_=>.non
 |c::r,z,i=>if c.1=z then .int i else jb r z (i+1)
def xX:Sp:=λvs H Q _=>∃a cs z,vs=[.ref a,.str z]/\gO H a cs/\∀H',ao H H'->Q (jb cs z 0) H'
def Tv:V->Bool
 | .int i=>decide (0≤i/\i≤1000000000)
 |_=>false
def atP:Sp:=λvs H Q _=>∃v,vs=[v]/\scalar v=true/\Q (.bl (Tv v)) H
def Qv:List bK->List V->Bool
 |c::cs,v::vs=>isVal c.2 v&&Qv cs vs
 |_,_=>true
def ai0(cs:List bK)(v:V)(xs:List V):Bool:=Tv v&&decide (xs.length=cs.length)&&Qv cs xs
def awQ:Sp:=λvs H Q _=>∃a cs v b xs,vs=[.ref a,v,.ref b]/\gO H a cs/\cs.length≤4000/\scalar v=true/\H b=some (.lst xs)/\(∀x∈xs,scalar x=true/\short x)/\∀H',ao H H'->Q (.bl (ai0 cs v xs)) H'
def ax0(c:bK):PyData:=.tuple [.str c.1,.str c.2]
def ay2(cs:List bK):Prop:=∀c∈cs,Od 4000 c.1/\Od 4000 c.2
theorem Nk(xs:List V)(k:Nat):uW xs (some (k:Int)) none=xs.drop k:=by
 unfold uW
 rw[HT.zg,HT.xZ]
 by_cases h:k≤xs.length
 .rw[show min k xs.length=k from Nat.min_eq_left h]
  exact List.take_of_length_le (by rw[List.length_drop];exact Nat.le_refl _)
 .rw[show min k xs.length=xs.length from Nat.min_eq_right (by omega),List.drop_eq_nil_of_le (Nat.le_refl _),List.drop_eq_nil_of_le (by omega)]
  simp
end Vl
namespace Vl
open PySem L2 PyProof.Rows My NumText
def bZ:List Nat->Int
 |[]=>0
 |c::r=>((c:Int)+137*bZ r) % 9973
theorem iy:∀l,0≤bZ l/\bZ l<9973
 |[]=>by decide
 |c::r=>⟨Int.emod_nonneg _ (by decide),Int.emod_lt_of_pos _ (by decide)⟩
theorem VB(t p y m:Int):(t+p*(y % m)) % m=(t+p*y) % m:=by
 rw[Int.add_emod,Int.mul_emod,Int.emod_emod, <-Int.mul_emod, <-Int.add_emod]
theorem Ux(a b r m:Int):(a % m+b % m*r) % m=(a+b*r) % m:=by
 rw[Int.add_emod,Int.mul_emod,Int.emod_emod,Int.emod_emod, <-Int.mul_emod, <-Int.add_emod]
theorem Jv{t p v:Int}{c:Nat}{r:List Nat}(h:(t+p*bZ (c::r)) % 9973=v):((t+(c:Int)*p) % 9973+p*137 % 9973*bZ r) % 9973=v:=by
 rw[Ux, <-h]
 show _=(t+p*(((c:Int)+137*bZ r) % 9973)) % 9973
 rw[VB]
 congr 1
 rw[Int.mul_add,Int.mul_comm (c:Int) p,Int.mul_assoc,Int.add_assoc]
def ig(n:Int):Str:=Txt.zfill (Str.ofString (toString n)) 4
def T7(l:List Nat):Nat:=l.foldl (λa c=>a*10+(c-48)) 0
def Ff(n:Nat):Bool:=decide ((ig n).length=4)&&((ig n).cps.toList.all Ho&&decide (T7 (ig n).cps.toList=n))
theorem Cq(l:List Nat):∀k:Nat,T7 (List.replicate k 48++l)=T7 l
 |0=>rfl
 |k+1=>by
  rw[List.replicate_succ]
  exact Cq l k
theorem Np{n:Nat}(h:n<10000):(ig n).cps.toList=List.replicate (4-(Str.ofString (toString (n:Int))).length) 48++(Str.ofString (toString (n:Int))).cps.toList:=by
 have hd:=gG n
 have hl:=j8 (m:=n) (k:=4) (by decide) h
 have hne:(Str.ofString (toString (n:Int))).cps.toList≠[]:=by
  rw[iU]
  simp[Nat.toDigits_ne_nil]
 unfold ig Txt.zfill
 generalize Str.ofString (toString (n:Int))=x at hd hl hne⊢
 have hx:=L2.len_list x
 split
 .rename_i h4
  have :4-x.length=0:=by omega
  rw[this]
  rfl
 .unfold zfilled
  obtain⟨c,r,e⟩:=List.exists_cons_of_ne_nil hne
  have h0:x.cps[0]? =some c:=by rw[<-Array.getElem?_toList,e];rfl
  have hc:=hd c (by rw[e];simp)
  have en:((4:Int).toNat-x.length)=4-x.length:=rfl
  rw[h0]
  split
  .rename_i e2;cases e2;omega
  .rename_i e2;cases e2;omega
  .unfold Builtin.Str.padded
   simp
theorem La(n:Nat)(h:n<9973):Ff n=true:=by
 have hd:=gG n
 have hl:=j8 (m:=n) (k:=4) (by decide) (by omega)
 have e:=Np (n:=n) (by omega)
 have hx:=L2.len_list (Str.ofString (toString (n:Int)))
 unfold Ff
 rw[L2.len_list,e,Cq,List.length_append,List.length_replicate,decide_eq_true (by omega),Bool.true_and,Bool.and_eq_true,List.all_eq_true,decide_eq_true_eq]
 refine⟨λc hc=>?_,?_⟩
 .rcases List.mem_append.mp hc with z |z
  .have :=List.eq_of_mem_replicate z
   subst this
   rfl
  .exact decide_eq_true (hd c z)
 .rw[iU]
  exact PySem.W.KIN.val_back n
def K3:Sp:=λvs H Q _=>∃z,vs=[.str z]/\z.length≤100000/\(∀c∈z.cps.toList,c<1114112)/\Q (.int (bZ z.cps.toList)) H
def zO:Sp:=λvs H Q _=>∃z,vs=[.str z]/\z.length≤100000/\(∀c∈z.cps.toList,c<1114112)/\Q (.str (ig (bZ z.cps.toList))) H
theorem YK:∀(r:List Nat) (a:Nat),a*10^r.length≤r.foldl (λacc c=>acc*10+(c-48)) a
 |[],a=>by simp
 |c::r,a=>by
  have ih:=YK r (a*10+(c-48))
  rw[List.foldl_cons,List.length_cons,Nat.pow_succ]
  refine Nat.le_trans ?_ ih
  have h1:a*(10^r.length*10)=a*10*10^r.length:=by rw[Nat.mul_comm (10^r.length) 10,Nat.mul_assoc]
  rw[h1]
  exact Nat.mul_le_mul_right _ (Nat.le_add_right _ _)
theorem S9{l:List Nat}(h:gn l=true)(h1:l≠[48]):10^(l.length-1)≤digitsVal l:=by
 obtain⟨hd,hne⟩:=qg h
 cases l with
 |nil=>exact absurd rfl hne
 |cons c r=>
  have hc:=hd c List.mem_cons_self
  have hc2:c≠48:=by
   intro e
   subst e
   unfold gn at h
   rw[decide_eq_false h1,Bool.false_or]at h
   simp at h
  have :=YK r (0*10+(c-48))
  have h3:1*10^r.length≤(0*10+(c-48))*10^r.length:=Nat.mul_le_mul_right _ (by omega)
  unfold digitsVal
  rw[List.foldl_cons]
  show 10^r.length≤_
  omega
theorem DQ{l:List Nat}{m:Int}{k:Nat}(h:gn l=true)(hm:((digitsVal l:Nat):Int)≤m)(hk:m<((10^k:Nat):Int))(h1:1≤k):l.length≤k:=by
 by_cases e:l=[48]
 .subst e
  exact h1
 .have h2:=S9 h e
  have h3:10^(l.length-1)<10^k:=by omega
  have h4:=(Nat.pow_lt_pow_iff_right (a:=10) (by decide)).mp h3
  omega
theorem HY{l:List Nat}(h:gn l=true):digitsVal l=0↔l=[48]:=by
 constructor
 .intro e
  refine Classical.byContradiction λn=>?_
  have h2:=S9 h n
  have h3:0<10^(l.length-1):=Nat.pow_pos (by decide)
  omega
 .intro e
  subst e
  rfl
def xO(l:List Nat)(m:Int):Option Int:=if gn l=true/\((digitsVal l:Nat):Int)≤m then some ((digitsVal l:Nat):Int)else none
def Qj:Option Int->V
 |none=>.non
 |some i=>.int i
def Eh:Sp:=λvs H Q _=>∃(z:Str) (m:Int) (k:Nat),vs=[.str z,.int m]/\z.length≤4000/\0≤m/\m.natAbs<10^60/\(Str.ofString (toString m)).length=k/\m<((10^k:Nat):Int)/\1≤k/\k≤600/\∀H',ao H H'->Q (Qj (xO z.cps.toList m)) H'
theorem qm{l:List Nat}(h0:¬l[0]? =some 45):ie l=xO l 1000000000000000000:=by
 unfold ie xO Pn mQ
 rw[if_neg h0,if_neg h0]
 by_cases h:gn l=true/\((digitsVal l:Nat):Int)≤1000000000000000000
 .have :=DQ (k:=19) h.1 h.2 (by decide) (by decide)
  rw[if_pos h,if_pos ⟨h.1,by omega,by omega,h.2⟩]
 .rw[if_neg h,if_neg λx=>h ⟨x.1,x.2.2.2⟩]
theorem Ax{l:List Nat}(h0:l[0]? =some 45):ie l=match xO (l.drop 1) 1000000000000000000 with
  |some i=>if i=0 then none else some (-i)
  |none=>none:=by
 unfold ie xO Pn mQ
 rw[if_pos h0,if_pos h0]
 have hl:l.length=(l.drop 1).length+1:=by
  cases l with
  |nil=>simp at h0
  |cons c r=>simp
 rw[hl]
 generalize l.drop 1=r
 by_cases h:gn r=true/\((digitsVal r:Nat):Int)≤1000000000000000000
 .have h2:=DQ (k:=19) h.1 h.2 (by decide) (by decide)
  have h3:=HY h.1
  rw[if_pos h]
  show _=if((digitsVal r:Nat):Int)=0 then none else some (-((digitsVal r:Nat):Int))
  by_cases e:r=[48]
  .have hz:((digitsVal r:Nat):Int)=0:=by have :=h3.mpr e;omega
   rw[if_pos hz]
   refine if_neg λx=>?_
   rw[Bool.and_eq_true,decide_eq_true_eq]at x
   exact x.1.1 e
  .have hz:¬((digitsVal r:Nat):Int)=0:=λz=>e (h3.mp (by omega))
   rw[if_neg hz]
   exact if_pos ⟨by rw[decide_eq_true e,h.1];rfl,by omega,by omega,by omega⟩
 .rw[if_neg h]
  refine if_neg λx=>?_
  rw[Bool.and_eq_true]at x
  exact h ⟨x.1.2,by omega⟩
end Vl
namespace Vl
open PySem L2 PyProof.Rows My NumText
theorem Xc{n:Int}(h:n.natAbs<10^60):(Str.ofString (toString n)).length≤70:=by
 by_cases h0:0≤n
 .obtain⟨m,rfl⟩:=Int.eq_ofNat_of_zero_le h0
  have :=j8 (m:=m) (k:=60) (by decide) (by simpa using h)
  omega
 .have e:n= -((n.natAbs:Nat):Int):=by omega
  rw[e,xV n.natAbs (by omega),len_app]
  have :=j8 (m:=n.natAbs) (k:=60) (by decide) h
  have l1:(Str.ofString "-").length=1:=by decide+kernel
  omega
end Vl
namespace Vl
open PySem L2 PyProof.Rows My NumText
abbrev Ord:=Str×Bool
def Bs(H:Hp)(v:V)(o:Ord):Prop:=∃t,v= .ref t/\H t=some (.tup [.str o.1,.bl o.2])
theorem Bs.same{H H':Hp}{v:V}{o:Ord}(h:Bs H v o)(s:ao H H'):Bs H' v o:=by
 obtain⟨t,e,q⟩:=h
 exact⟨t,e,s _ _ q⟩
def tD(H:Hp)(a:Addr)(os:List Ord):Prop:=∃vs:List V,H a=some (.lst vs)/\eU (Bs H) vs os
theorem tD.same{H H':Hp}{a:Addr}{os:List Ord}(h:tD H a os)(s:ao H H'):tD H' a os:=by
 obtain⟨vs,e,q⟩:=h
 exact⟨vs,s _ _ e,q.imp λa b r=>r.same s⟩
def CZ{α β:Type}(f:α->Option β):List α->Option (List β)
 |[]=>some []
 |x::r=>match f x,CZ f r with
  |some y,some ys=>some (y::ys)
  |_,_=>none
theorem BW{α β:Type}{f:α->Option β}:∀{l:List α} {x:α},x∈l->f x=none->CZ f l=none
 |y::r,x,h,e=>by
  unfold CZ
  rcases List.mem_cons.mp h with z |z
  .subst z;rw[e]
  .rw[BW z e]
   cases f y<;>rfl
 |[],x,h,_=>by simp at h
theorem Cj{α β:Type}{f:α->Option β}:∀{l:List α} {m:List β},l.length=m.length->(∀(i:Nat) x y,l[i]? =some x->m[i]? =some y->f x=some y)->CZ f l=some m
 |[],[],_,_=>rfl
 |x::l,y::m,hl,h=>by
  have h1:=h 0 x y rfl rfl
  have h2:=Cj (l:=l) (m:=m) (by simpa using hl) λi x y e1 e2=>h (i+1) x y (by simpa using e1) (by simpa using e2)
  unfold CZ
  rw[h1,h2]
 |[],_::_,hl,_=>by simp at hl
 |_::_,[],hl,_=>by simp at hl
theorem Mq{α β:Type}{f:α->Option β}{R:V->β->Prop}:∀{ws:List α} {xs:List V},xs.length=ws.length->(∀(i:Nat) v,xs[i]? =some v->∃z,ws[i]? =some z/\∃b,f z=some b/\R v b)->∃bs,CZ f ws=some bs/\eU R xs bs
 |[],[],_,_=>⟨[],rfl,.nil⟩
 |w::ws,x::xs,hl,h=>by
  obtain⟨z,e1,b,e2,r⟩:=h 0 x rfl
  have e1':w=z:=by simpa using e1
  subst e1'
  obtain⟨bs,e3,t⟩:=Mq (ws:=ws) (xs:=xs) (by simpa using hl) λi v e=>by simpa using h (i+1) v (by simpa using e)
  refine⟨b::bs,?_,.cons r t⟩
  unfold CZ
  rw[e2,e3]
 |[],_::_,hl,_=>by simp at hl
 |_::_,[],hl,_=>by simp at hl
def sr(cs:List bK)(z:Str):Option Ord:=
 if(z.cps.toList[0]? =some 43\/z.cps.toList[0]? =some 45)/\jb cs (bV z (some 1) none) 0≠ .non then some (bV z (some 1) none,decide (z.cps.toList[0]? =some 43))else none
def pL(cs:List bK)(z:Str):Option (List Ord):=
 if z="" then some []else if 4<(cX 32 z).length then none else match CZ (sr cs) (cX 32 z)with
  |none=>none
  |some os=>if(os.map Prod.fst).Nodup then some os else none
def Hk(c:Value):Sp:=λvs H Q E=>∃a cs z,vs=[.ref a,.str z]/\gO H a cs/\z.length≤4000/\
 (∀H',ao H H'->sr cs z=none->E c (none,true) H')/\∀p o H',ao H H'->sr cs z=some o->H' p=some (.tup [.str o.1,.bl o.2])->Q (.ref p) H'
def Ni(c:Value):Sp:=λvs H Q E=>∃a cs z,vs=[.ref a,.str z]/\gO H a cs/\z.length≤4000/\
 (∀H',ao H H'->pL cs z=none->E c (none,true) H')/\∀p os H',ao H H'->pL cs z=some os->H p=none->tD H' p os->Q (.ref p) H'
def dB(o:Ord):Str:=(if o.2=true then Str.ofString "+" else Str.ofString "-")++o.1
def u9(os:List Ord):Str:=Str.join " " (os.map dB)
def Rq:Sp:=λvs H Q _=>∃a os,vs=[.ref a]/\tD H a os/\os.length≤4000/\(∀o∈os,o.1.length≤1000)/\∀H',ao H H'->Q (.str (u9 os)) H'
theorem Hf(c:Nat)(z:Str):(cX c z).length≤z.length+1:=by
 have h1:=wu c z.cps.toList
 unfold cX
 rw[List.length_map]
 have h2:z.cps.toList.length=z.length:=rfl
 omega
theorem Ky{c:Nat}{z y:Str}(h:y∈cX c z):y.length≤z.length:=by
 have key:∀(l:List Nat) p,p∈cutAt c l->p.length≤l.length:=by
  intro l
  induction l with
  |nil=>intro p hp;have :p=[]:=by simpa [cutAt]using hp
        subst this;simp
  |cons x r ih=>
   intro p hp
   unfold cutAt at hp
   split at hp
   .rcases List.mem_cons.mp hp with z |z
    .subst z;simp
    .have :=ih p z;simp;omega
   .split at hp
    .have :p=[x]:=by simpa using hp
     subst this;simp
    .rename_i a t e
     rw[e]at ih
     rcases List.mem_cons.mp hp with z |z
     .subst z
      have :=ih a (by simp)
      simp;omega
     .have :=ih p (by simp[z]);simp;omega
 unfold cX at h
 obtain⟨l,hl,rfl⟩:=List.mem_map.mp h
 have :=key _ l hl
 have h2:z.cps.toList.length=z.length:=rfl
 show l.toArray.size≤_
 simp
 omega
end Vl
namespace Vl
open PySem L2 PyProof.Rows My NumText
def bW:List bK->Str->Nat
 |[],_=>0
 |c::r,z=>if c.1=z then 0 else bW r z+1
theorem lD:∀{cs:List bK} {z:Str},(∃c∈cs,c.1=z)->bW cs z<cs.length
 |[],_,h=>by obtain⟨c,hc,_⟩:=h;simp at hc
 |d::r,z,h=>by
  unfold bW
  split
  .simp
  .rename_i hd
   have :=lD (cs:=r) (z:=z) (by
    obtain⟨c,hc,e⟩:=h
    rcases List.mem_cons.mp hc with x |x
    .subst x;exact absurd e hd
    .exact⟨c,x,e⟩)
   simp
   omega
theorem yj:∀{cs:List bK} {z:Str} (i:Nat),(∃c∈cs,c.1=z)->jb cs z i= .int ((i+bW cs z:Nat):Int)
 |[],_,_,h=>by obtain⟨c,hc,_⟩:=h;simp at hc
 |d::r,z,i,h=>by
  unfold jb bW
  split
  .rfl
  .rename_i hd
   rw[yj (i+1) (by
    obtain⟨c,hc,e⟩:=h
    rcases List.mem_cons.mp hc with x |x
    .subst x;exact absurd e hd
    .exact⟨c,x,e⟩)]
   congr 2
   omega
theorem yU:∀{cs:List bK} {z:Str},(∃c∈cs,c.1=z)->∃c,cs[bW cs z]? =some c/\c.1=z
 |[],_,h=>by obtain⟨c,hc,_⟩:=h;simp at hc
 |d::r,z,h=>by
  unfold bW
  split
  .rename_i e;exact⟨d,rfl,e⟩
  .rename_i hd
   obtain⟨c,h1,h2⟩:=yU (cs:=r) (z:=z) (by
    obtain⟨c,hc,e⟩:=h
    rcases List.mem_cons.mp hc with x |x
    .subst x;exact absurd e hd
    .exact⟨c,x,e⟩)
   exact⟨c,by simpa using h1,h2⟩
def atN(cs:List bK)(xs:List V)(z:Str):V:=(xs[bW cs z]?).getD .non
def Rm(cs:List bK)(os:List Ord)(xs:List V):List V:=os.map λo=>atN cs xs o.1
def inC(cs:List bK)(os:List Ord):Prop:=∀o∈os,∃c∈cs,c.1=o.1
def awC:Sp:=λvs H Q _=>∃a b n c cs os xs,vs=[.ref a,.ref b,.int n,.ref c]/\gO H a cs/\tD H b os/\H c=some (.lst xs)/\xs.length=cs.length/\cs.length≤4000/\os.length≤4000/\inC cs os/\
 ∀p l H',ao H H'->H p=none->H l=none->H' l=some (.lst (Rm cs os xs))->H' p=some (.tup [.ref l,.int n])->Q (.ref p) H'
def amn(x y:V):Prop:=x= .non\/y= .non\/(∃i j,x= .int i/\y= .int j)\/∃i j,x= .str i/\y= .str j
def Rb:List Ord->List V->List V->Int->Int->Bool
 |o::os,x::xs,y::ys,n,k=>if x=y then Rb os xs ys n k else decide (before x y=o.2)
 |_,_,_,n,k=>decide (n<k)
def YJ(H:Hp)(p:Addr)(xs:List V)(n:Int):Prop:=∃l,H p=some (.tup [.ref l,.int n])/\H l=some (.lst xs)
def ajX:Sp:=λvs H Q _=>∃b p q os xs ys n k,vs=[.ref b,.ref p,.ref q]/\tD H b os/\YJ H p xs n/\YJ H q ys k/\xs.length=os.length/\ys.length=os.length/\(∀(i:Nat) x y,xs[i]? =some x->ys[i]? =some y->scalar x=true/\scalar y=true/\amn x y)/\
 ∀H',ao H H'->Q (.bl (Rb os xs ys n k)) H'
theorem Ti{α:Type}{l:List α}{i:Nat}{x:α}(h:l[i]? =some x):l.drop i=x::l.drop (i+1):=by
 obtain⟨hi,e⟩:=List.getElem?_eq_some_iff.mp h
 rw[<-e]
 exact List.drop_eq_getElem_cons hi
end Vl
namespace Vl
open PySem L2 PyProof.Rows My NumText
theorem DX(m:Nat):gn (Str.ofString (toString ((m:Nat):Int))).cps.toList=true/\digitsVal (Str.ofString (toString ((m:Nat):Int))).cps.toList=m:=by
 have hd:AllDigits (Str.ofString (toString ((m:Nat):Int))).cps.toList:=gG m
 have hv:digitsVal (Str.ofString (toString ((m:Nat):Int))).cps.toList=m:=by rw[iU];exact PySem.W.KIN.val_back m
 refine⟨?_,hv⟩
 have hne:(Str.ofString (toString ((m:Nat):Int))).cps.toList≠[]:=by rw[iU];simp[Nat.toDigits_ne_nil]
 have hall:=toDigits_all _ hd
 rw[hv]at hall
 have e:=iU m
 generalize(Str.ofString (toString ((m:Nat):Int))).cps.toList=l at *
 have hl:l.length=(Nat.toDigits 10 m).length:=by rw[e,List.length_map]
 unfold gn
 rw[Bool.or_eq_true,Bool.and_eq_true,Bool.and_eq_true,decide_eq_true_eq,decide_eq_true_eq,decide_eq_true_eq]
 cases l with
 |nil=>exact absurd rfl hne
 |cons c r=>
  by_cases h0:c=48
  .subst h0
   left
   rw[List.dropWhile_cons,if_pos (by decide)]at hall
   cases q:r.dropWhile (· ==48)with
   |nil=>
    rw[q]at hall
    rw[hall]at hl
    have :r=[]:=by cases r with
     |nil=>rfl
     |cons _ _=>simp at hl
    rw[this]
   |cons d t=>
    rw[q]at hall
    rw[hall,List.length_map, <-q]at hl
    have :=(List.dropWhile_sublist (p:=λx:Nat=>x==48) (l:=r)).length_le
    rw[List.length_cons]at hl
    omega
  .right
   refine⟨by simp,by simpa using h0,?_⟩
   rw[List.all_eq_true]
   exact λx hx=>decide_eq_true (hd x hx)
theorem HD{i:Int}(h1: -1000000000000000000≤i)(h2:i≤1000000000000000000):ie (Str.ofString (toString i)).cps.toList=some i:=by
 by_cases h0:0≤i
 .obtain⟨m,rfl⟩:=Int.eq_ofNat_of_zero_le h0
  obtain⟨a,b⟩:=DX m
  have hd:=gG m
  have hn:¬(Str.ofString (toString ((m:Nat):Int))).cps.toList[0]? =some 45:=λe=>by
   have :=hd 45 (List.mem_of_getElem? e)
   omega
  have e:=qm hn
  unfold xO at e
  rw[a,b,if_pos ⟨rfl,by omega⟩]at e
  exact e
 .obtain⟨m,hm,rfl⟩:∃m:Nat,0<m/\i= -((m:Nat):Int):=⟨i.natAbs,by omega,by omega⟩
  obtain⟨a,b⟩:=DX m
  have hl:=j8 (m:=m) (k:=19) (by decide) (by omega)
  have e:(Str.ofString (toString (-((m:Nat):Int)))).cps.toList=45::(Str.ofString (toString ((m:Nat):Int))).cps.toList:=by
   rw[xV m hm,bw]
   have :(Str.ofString "-").cps.toList=[45]:=by decide+kernel
   rw[this]
   rfl
  have hz:=HY a
  rw[b]at hz
  rw[L2.len_list]at hl
  rw[e]
  generalize(Str.ofString (toString ((m:Nat):Int))).cps.toList=l at a b hz hl⊢
  have hne:l≠[48]:=λq=>by have :=hz.mpr q;omega
  have w1:Pn (45::l)=true:=by
   unfold Pn
   rw[if_pos (show(45::l)[0]? =some 45 from rfl)]
   show(decide (l≠[48])&&gn l)=true
   rw[a,decide_eq_true hne]
   rfl
  have w2:mQ (45::l)= -((m:Nat):Int):=by
   unfold mQ
   rw[if_pos (show(45::l)[0]? =some 45 from rfl)]
   show -((digitsVal l:Nat):Int)=_
   rw[b]
  unfold ie
  rw[w1,w2,if_pos ⟨rfl,by rw[List.length_cons];omega,h1,h2⟩]
theorem iK(i:Int):∀c∈(Str.ofString (toString i)).cps.toList,c=45\/(48≤c/\c≤57):=by
 intro c hc
 by_cases h0:0≤i
 .obtain⟨m,rfl⟩:=Int.eq_ofNat_of_zero_le h0
  exact .inr (gG m c hc)
 .obtain⟨m,hm,rfl⟩:∃m:Nat,0<m/\i= -((m:Nat):Int):=⟨i.natAbs,by omega,by omega⟩
  rw[xV m hm,bw]at hc
  rcases List.mem_append.mp hc with h |h
  .left
   have :(Str.ofString "-").cps.toList=[45]:=by decide+kernel
   rw[this]at h
   simpa using h
  .exact .inr (gG m c h)
theorem eQ{i:Int}{k:Nat}(hk:1≤k)(h:i.natAbs<10^k):(Str.ofString (toString i)).length≤k+1:=by
 by_cases h0:0≤i
 .obtain⟨m,rfl⟩:=Int.eq_ofNat_of_zero_le h0
  have :=j8 (m:=m) (k:=k) hk (by simpa using h)
  omega
 .obtain⟨m,hm,rfl⟩:∃m:Nat,0<m/\i= -((m:Nat):Int):=⟨i.natAbs,by omega,by omega⟩
  have :=j8 (m:=m) (k:=k) hk (by simpa using h)
  have e:(Str.ofString "-").length=1:=by decide+kernel
  rw[xV m hm,len_app,e]
  omega
theorem Uq:(Str.ofString "?").cps.toList=[63]:=by decide+kernel
theorem yd:(Str.ofString "'").cps.toList=[39]:=by decide+kernel
theorem O6{i:Int}(h1: -1000000000000000000≤i)(h2:i≤1000000000000000000):j4 "number" (wordOf (.int i))=some (.int i):=by
 have hn:¬wordOf (.int i)="?":=λe=>by
  have h:63∈(Str.ofString (toString i)).cps.toList:=by
   have e':Str.ofString (toString i)=Str.ofString "?":=e
   rw[e',Uq]
   simp
  have :=iK i 63 h
  omega
 unfold j4
 rw[if_neg hn,if_pos rfl]
 show Wf (ie (Str.ofString (toString i)).cps.toList)=_
 rw[HD h1 h2]
 rfl
theorem QK{z:Str}(hl:z.length≤20)(h:∀c∈z.cps.toList,c∈SG):xu (.str z)=true:=by
 show(decide (z.length≤20)&&iz z R9)=true
 rw[decide_eq_true hl,Bool.true_and]
 unfold iz
 rw[List.all_eq_true]
 exact λc hc=>decide_eq_true (ajy c (h c hc))
theorem afk(z:Str):bV (Str.ofString "'"++z) (some 1) none=z:=by
 apply bQ
 have :=lM (Str.ofString "'"++z) 1
 rw[show((1:Nat):Int)=1 from rfl]at this
 rw[this,bw,yd]
 rfl
theorem zL:¬(("text":Str)="number"):=by decide+kernel
theorem Ot{z:Str}(hl:z.length≤20)(h:∀c∈z.cps.toList,c∈SG):j4 "text" (wordOf (.str z))=some (.str z):=by
 have e:wordOf (.str z)=Str.ofString "'"++z:=rfl
 have h0:(Str.ofString "'"++z).cps.toList[0]? =some 39:=by rw[bw,yd];rfl
 have hn:¬Str.ofString "'"++z="?":=λe=>by
  have e':Str.ofString "'"++z=Str.ofString "?":=e
  rw[e',Uq]at h0
  simp at h0
 rw[e]
 unfold j4
 rw[if_neg hn,if_neg zL]
 unfold jo
 rw[afk,if_pos ⟨h0,QK hl h⟩]
 rfl
theorem zT{ps:List Str}(h:ps≠[])(hf:∀p∈ps,32∉p.cps.toList):cX 32 (Str.join " " ps)=ps:=by
 unfold cX
 have e:(Str.join " " ps).cps.toList=lB 32 (ps.map λp=>p.cps.toList):=jx 32 ps
 rw[e,lZ (by simpa using h) λp hp=>?_,List.map_map]
 .have :((λl:List Nat=>(⟨l.toArray⟩:Str))∘λp:Str=>p.cps.toList)=id:=by
   funext p
   rfl
  rw[this,List.map_id]
 .obtain⟨q,hq,rfl⟩:=List.mem_map.mp hp
  exact hf q hq
theorem UJ(z:Str):Str.join " " (cX 32 z)=z:=by
 apply bQ
 have e:(Str.join " " (cX 32 z)).cps.toList=lB 32 ((cX 32 z).map λp=>p.cps.toList):=jx 32 _
 rw[e]
 unfold cX
 rw[List.map_map]
 have :((λp:Str=>p.cps.toList)∘λl:List Nat=>(⟨l.toArray⟩:Str))=id:=by
  funext p
  rfl
 rw[this,List.map_id,yu]
theorem aht(a b:Str):Str.join " " [a,b]=a++Str.ofString " "++b:=rfl
theorem Ur(a b c:Str):Str.join " " [a,b,c]=a++Str.ofString " "++b++Str.ofString " "++c:=by
 show a++Str.ofString " "++(b++Str.ofString " "++c)=_
 apply bQ
 simp only[bw,List.append_assoc]
end Vl
namespace L2
open PySem PySem.Spec PyProof.Rows PySem.W
section
variable{X:Cx}{σ:St}{H:Hp}{Q:VK}{a:Addr}
def ah5{α:Type}(xs:List α)(k:Nat)(y:α):List α:=xs.take k++y::xs.drop k
def ajZ:V->List V->Hp->VK->Prop:=λx vs H Q=>∃l xs k y,x= .ref l/\vs=[.int (k:Nat),y]/\H l=some (.lst xs)/\k≤xs.length/\xs.length<sizeLine/\Q .non (upd H l (.lst (ah5 xs k y)))
end
end L2
namespace Vl
open PySem L2 PyProof.Rows My
section
variable{α β:Type}
def ayr(m:List (Int×α))(i:Int):Option α:=(m.find? λp=>decide (p.1=i)).map (·.2)
def ax7(m:List (Int×α))(i:Int)(x:α):List (Int×α):=if(m.any λp=>decide (p.1=i))=true then m.map (λp=>if p.1=i then(p.1,x)else p)else m++[(i,x)]
def awJ(m:List (Int×α))(i:Int):List (Int×α):=m.filter λp=>decide (p.1≠i)
abbrev PR(R:V->α->Prop)(kv:Key×V)(p:Int×α):Prop:=kv.1=Sum.inl p.1/\R kv.2 p.2
def DictAt(R:V->α->Prop)(H:Hp)(a:Addr)(m:List (Int×α)):Prop:=∃kvs,H a=some (.dK kvs)/\eU (PR R) kvs m
def Out(S:List Addr)(H H':Hp):Prop:=∀b o,b∉S->H b=some o->H' b=some o
def TupAt(H:Hp)(v:V)(xs:List V):Prop:=∃t,v= .ref t/\H t=some (.tup xs)
def YM(H:Hp)(v:V):Option (List V)->Prop
 |none=>v= .non
 |some xs=>TupAt H v xs
structure aiy where
 at_:Int
 row:Int
 was:Option (List V)
 is:Option (List V)
def abt(H:Hp)(v:V)(d:aiy):Prop:=∃t w u,v= .ref t/\H t=some (.tup [.int d.at_,.int d.row,w,u])/\YM H w d.was/\YM H u d.is
structure Bk where
 heads:List bK
 rows:List (Int×List V)
 touched:List (Int×Int)
 done:List aiy
 known:Int
 now:Int
structure BA where
 b:Addr
 dx:Addr
 h:Addr
 r:Addr
 t:Addr
 d:Addr
def aiM(v:V)(i:Int):Prop:=v= .int i
structure atV(C:Addr)(H:Hp)(A:BA)(B:Bk):Prop where
 ins:H A.b=some (.ins C A.dx [("heads",.ref A.h),("rows",.ref A.r),("touched",.ref A.t),("done",.ref A.d),("known",.int B.known),("now",.int B.now)])
 own:H A.dx=some (.own A.b)
 heads:gO H A.h B.heads
 rows:DictAt (TupAt H) H A.r B.rows
 touched:DictAt aiM H A.t B.touched
 done:∃xs,H A.d=some (.lst xs)/\eU (abt H) xs B.done
 rt:A.r≠A.t
 hd:A.h≠A.d
def BA.fp(A:BA):List Addr:=[A.b,A.r,A.t,A.d]
section
variable{C:Addr}{H H':Hp}{A:BA}{B:Bk}
end
end
end Vl
namespace L2
open PySem PySem.Spec PyProof.Rows PySem.W
section
variable{prog:Program}{w:World}{A:Around}{E:Value->Shared->Prop}{s:Shared}
variable{I:Addr}{fp wr:List Addr}{G:Array GenState->Array GenState->Prop}{n:Nat}{P:Nat->Value->Prop}{St:Nat->Shared->Prop}
end
section
variable{X:Cx}{σ:St}{H:Hp}{Q:VK}{a:Expr}{p pos p' pos':Pos}
end
section
variable{X:Cx}{σ:St}{H:Hp}{Q:VK}{D:Ends}{o e f:Expr}{apos cpos pos:Pos}
theorem Wm{tg:Expr}{body:List Stmt}(hp:PassesOwn (model X.prog X.w) X.A X.env X.xe)(hc:X.calm=true)(hs:∀x,foldedSetIterable e X.env x=pure x)
  (h:EV X e σ H λv H1=>∃q xs,v= .ref q/\cA X.K H1 q xs/\∃Pv:Nat->St->Hp->Prop,Pv 0 σ H1/\(∀i σ' H',i≤xs.length->Pv i σ' H'->cA X.K H' q xs)/\
   (∀i x σ' H',xs[i]? =some x->Pv i σ' H'->EG X tg x σ' H' λσ2 H2=>lz X body {D with nx:=Pv (i+1),ct:=Pv (i+1),bk:=D.nx} σ2 H2)/\∀σ' H',Pv xs.length σ' H'->D.nx σ' H'):
  SX X (.For tg e body [] pos) D σ H:=by
 refine vG hp hc hs (aeA (bJ h λv H1 q=>?_))
 obtain⟨q,xs,rfl,hq,Pv,h0,hl,hst,hd⟩:=q
 exact⟨q,rfl,⟨xs,hq⟩,VR (g:=EG X tg) (tb:=lz X body) Pv h0 hl hst hd⟩
end
section
variable{X:Cx}{pins:List (Addr×Obj)}{σ:St}{H:Hp}{s:Shared}{d:Addr}
end
def Itd(ks:List Int):It:=⟨λi _=>i<ks.length,λi H x H'=>H'=H/\∃k,ks[i]? =some k/\x= .int k,λi _=>i=ks.length⟩
section
variable{X:Cx}{σ:St}{H:Hp}{a e:Expr}{tg:Expr}{pos:Pos}{R:It->Hp->Prop}{D:Ends}
end
section
variable{X:Cx}{H:Hp}{Q:VK}{e C:Addr}{D:Option Addr}{k:Bool}
end
section
variable{X:Cx}{σ σ':St}{H:Hp}{Q:VK}{a b tg elt:Expr}{scope:Scope}{p p' pos:Pos}
end
section
variable{X:Cx}{H:Hp}{Q:VK}
end
section
variable{X:Cx}{H:Hp}{Q:VK}
variable{σ:St}{a b tg:Expr}{p p' pos:Pos}{D:Ends}
end
section
variable{X:Cx}{σ:St}{H:Hp}{Q:VK}{pos:Pos}
end
end L2
namespace L2
open PySem PySem.Spec PyProof.Rows
def awT:Option Addr->Value
 |none=>.none
 |some b=>.ref b
section
variable{prog:Program}{w:World}{A:Around}{E:Value->Shared->Prop}{s:Shared}{env:Env}
end
section
variable{prog:Program}{w:World}{A:Around}{E:Value->Shared->Prop}{s:Shared}{env:Env}
variable{nm q:Str}{C N:Addr}{bs bm:List Value}{hdct:Bool}{sn:List Str}{sub:List Value}{ab:Bool}{col:Option Bool}{dd:Option Addr}{k0 k1 k2 k3 k5:Option Value}
end
section
variable{X:Cx}{Kx:St->XK}{D:Ends}{σ:St}{H:Hp}{rest:List ExceptHandler}{pos np ynp cpos rpos p0:Pos}{x y fld:Str}{cls c:Value}{d:Option Addr×Bool}{a:Expr}{as:List Expr}{cc:Bool}{k k' j0:Nat}
end
end L2
namespace L2
open PySem PySem.Spec PyProof.Rows PySem.Builtin PySem.Builtin.Str
def Ly(p:Nat->Bool):Nat->Option Nat
 |0=>none
 |n+1=>if p n=true then some n else Ly p n
theorem yW(p:Nat->Bool):∀n,(List.range n).foldl (λlast i=>if p i=true then some i else last) none=Ly p n
 |0=>rfl
 |n+1=>by
  rw[List.range_succ,List.foldl_append,yW p n]
  rfl
theorem zB(p:Nat->Prop) [DecidablePred p]:∀(l:List Nat) (b:Option Nat),(forIn (m:=Id) l b λi s=>if p i then pure (ForInStep.yield (some i))else pure (ForInStep.yield s)).run=l.foldl (λlast i=>if p i then some i else last) b
 |[],b=>rfl
 |a::l,b=>by
  rw[List.forIn_cons,List.foldl_cons, <-zB p l]
  by_cases h:p a
  .simp only[if_pos h]
   rfl
  .simp only[if_neg h]
   rfl
theorem Dt(x y:Str):lastOccurrence x y 0 x.length=Ly (λi=>decide (i+y.length≤x.length)&&subAt x y i) (x.length+1):=by
 unfold lastOccurrence
 rw[<-yW]
 simp[List.range_eq_range']
 exact zB (λi=>i+y.length≤x.length/\subAt x y i=true) _ none
theorem zp{p:Nat->Bool}{k:Nat}:∀{n:Nat},k<n->p k=true->(∀i,k<i->i<n->p i=false)->Ly p n=some k
 |n+1,hk,hp,h=>by
  show(if p n=true then _ else _)=_
  by_cases e:k=n
  .subst e
   rw[if_pos hp]
  .rw[if_neg (by rw[h n (by omega) (by omega)];decide)]
   exact zp (by omega) hp λi h1 h2=>h i h1 (by omega)
theorem Th(x:Str)(c i:Nat):(decide (i+(⟨#[c]⟩:Str).length≤x.length)&&subAt x ⟨#[c]⟩ i)=decide (x.cps.toList[i]? =some c):=by
 rw[Bool.eq_iff_iff,Bool.and_eq_true,decide_eq_true_iff,decide_eq_true_iff]
 exact StrLaws.subAt_one x c i
theorem Qn{z:Str}{c:Nat}{b w:List Nat}(h:z.cps.toList=b++c::w)(hw:c∉w):Txt.rpartition z ⟨#[c]⟩=(⟨b.toArray⟩,⟨#[c]⟩,⟨w.toArray⟩):=by
 have hlen:z.length=b.length+1+w.length:=by
  have :z.cps.toList.length=z.length:=rfl
  rw[<-this,h,List.length_append,List.length_cons]
  omega
 have hl:lastOccurrence z ⟨#[c]⟩ 0 z.length=some b.length:=by
  rw[Dt]
  refine zp (by omega) ?_ λi h1 h2=>?_
  .rw[Th,h,decide_eq_true_iff,List.getElem?_append_right (Nat.le_refl _),Nat.sub_self]
   rfl
  .rw[Th,h,decide_eq_false_iff_not,List.getElem?_append_right (by omega)]
   intro e
   obtain⟨j,hj⟩:∃j,i-b.length=j+1:=⟨i-b.length-1,by omega⟩
   rw[hj,List.getElem?_cons_succ]at e
   exact hw (List.mem_of_getElem? e)
 have ez:z=⟨(b++c::w).toArray⟩:=by
  obtain⟨⟨l⟩⟩:=z
  have :l=b++c::w:=h
  rw[this]
 have e1:strSub z 0 b.length=⟨b.toArray⟩:=by
  unfold strSub
  rw[ez]
  simp
 have e2:strSub z (b.length+(⟨#[c]⟩:Str).length) z.length=⟨w.toArray⟩:=by
  have l1:(⟨#[c]⟩:Str).length=1:=rfl
  rw[l1,hlen]
  unfold strSub
  rw[ez]
  simp[List.extract_eq_take_drop,List.drop_append]
  rw[List.drop_eq_nil_of_le (by omega),List.nil_append,List.take_length]
 have un:Txt.rpartition z ⟨#[c]⟩=(match lastOccurrence z ⟨#[c]⟩ 0 z.length with
  |some i=>(strSub z 0 i,⟨#[c]⟩,strSub z (i+(⟨#[c]⟩:Str).length) z.length)
  |none=>(Str.empty,Str.empty,z)):=rfl
 rw[un,hl]
 show(strSub z 0 b.length,_,strSub z (b.length+(⟨#[c]⟩:Str).length) z.length)=_
 rw[e1,e2]
section
variable{X:Cx}{H:Hp}{Q:VK}{z:Str}
theorem VP{c:Nat}(hz:z.length≤100000)(g:∀p,H p=none->Q (.ref p) (upd H p (.tup [.str (Txt.rpartition z ⟨#[c]⟩).1,.str (Txt.rpartition z ⟨#[c]⟩).2.1,.str (Txt.rpartition z ⟨#[c]⟩).2.2]))):MT X "str.rpartition" (.str z) [.str ⟨#[c]⟩] H Q:=by
 refine lH (r:=λx xs H Q=>∃z c,x= .str z/\xs=[.str ⟨#[c]⟩]/\z.length≤100000/\∀p,H p=none->Q (.ref p) (upd H p (.tup [.str (Txt.rpartition z ⟨#[c]⟩).1,.str (Txt.rpartition z ⟨#[c]⟩).2.1,.str (Txt.rpartition z ⟨#[c]⟩).2.2]))) ?_ ⟨z,c,rfl,rfl,hz,g⟩
 intro pins s σ H x xs v us Q I rx rs h
 obtain⟨z,c,rfl,rfl,hz,g⟩:=h
 obtain⟨t,rfl⟩:=rx
 obtain⟨u,rfl,ru⟩:=vals1 rs
 obtain⟨t',rfl⟩:=ru
 have hsz:sizeLine=16777216:=sizeLine_eq
 have fin:∀(a b c':Str) (ta tb tc:Tok) (tk:Nat),a=(Txt.rpartition z ⟨#[c]⟩).1->b=(Txt.rpartition z ⟨#[c]⟩).2.1->c'=(Txt.rpartition z ⟨#[c]⟩).2.2->EP X pins σ Q (.ref s.heap.objs.size) {s with toks:=tk,heap:=s.heap.push {cls:=.type "tuple",data:=.seq [Value.str a ta,.str b tb,.str c' tc].toArray}}:=λa b c' ta tb tc tk ea eb ec=>by
  subst ea eb ec
  refine⟨.ref s.heap.objs.size,_,I.laid (t':=tk) (o:=.tup [.str (Txt.rpartition z ⟨#[c]⟩).1,.str (Txt.rpartition z ⟨#[c]⟩).2.1,.str (Txt.rpartition z ⟨#[c]⟩).2.2]) (λb o q=>Heap.get?_push_of_some _ q) (Nat.le_refl _) ?_,rfl,g _ (I.hok.fresh (Nat.le_refl _))⟩
  exact⟨by show 3≤sizeLine;omega,_,.cons ⟨ta,rfl⟩ (.cons ⟨tb,rfl⟩ (.cons ⟨tc,rfl⟩ .nil)),IsTup.new _ _⟩
 refine call_meets F.slot_str_rpartition (typeIs_str _ _ _) F.entry_str_rpartition (F.args_str_rpartition_2 _ _) (meets_str_rpartition z ⟨#[c]⟩ t t' rfl (by omega)) ?_
 have h':=fin
 unfold Txt.rpartition at h'
 revert h'
 cases lastOccurrence z ⟨#[c]⟩ 0 z.length with
 |none=>intro h';exact h' _ _ _ _ _ _ _ rfl rfl rfl
 |some i=>intro h';exact h' _ _ _ _ _ _ _ rfl rfl rfl
end
end L2
namespace L2
open PySem PySem.Spec PyProof.Rows
def iR(keep:Nat->Bool)(val:Nat->V)(n:Nat):List V:=((List.range n).filter keep).map val
theorem Jd(keep:Nat->Bool)(val:Nat->V)(n:Nat):iR keep val (n+1)=iR keep val n++(if keep n=true then [val n]else []):=by
 unfold iR
 rw[List.range_succ,List.filter_append,List.map_append]
 by_cases h:keep n=true
 .simp[h]
 .have h':keep n=false:=by simpa using h
  simp[h']
theorem Bf(keep:Nat->Bool)(val:Nat->V)(n:Nat):(iR keep val n).length≤n:=by
 unfold iR
 rw[List.length_map]
 have :=List.length_filter_le keep (List.range n)
 rw[List.length_range]at this
 exact this
section
variable{X:Cx}{e c:Expr}{σ σ':St}{H:Hp}{Q:VK}{D:Ends}{pos spos py:Pos}{tg elt:Expr}{scope:Scope}{y:Str}{j:Nat}
def Yq(X:Cx)(N':List Str)(scope:Scope)(tg elt c:Expr)(σ':St)(H1:Hp)(Q:VK)(xs:List V):Prop:=
 ∃(Tp:St->Prop) (keep:Nat->Bool) (val:Nat->V),Tp σ'/\
  (∀(fp:List Addr) (E C:Addr) (s3:Shared) (H0:Hp) (i:Nat) (τ:St) (x:V) (H2:Hp),H1 E=none->xs[i]? =some x->Tp τ->ao H1 H2->
   EG (Ci X N' scope (cj scope X.env) C s3 H0 fp) tg x τ H2 λτ2 H3=>ET (Ci X N' scope (cj scope X.env) C s3 H0 fp) c τ2 H3 λk H4=>k=keep i/\Tp τ2/\ao H2 H4/\(k=true->EV (Ci X N' scope (cj scope X.env) C s3 H0 fp) elt τ2 H4 λv H5=>v=val i/\ao H4 H5))/\
  ∀(E:Addr) (H2:Hp),H1 E=none->H2 E=some (.lst (iR keep val xs.length))->ao H1 H2->Q (.ref E) H2
theorem ai2{N':List Str}{l:Addr}{xs:List V}(hn:xs.length≤sizeLine)(hl:bc X.K H l xs)(h:Yq X N' scope tg elt c σ' H Q xs):
  ∀(fp:List Addr) (E C:Addr) (s3:Shared),H E=none->nU X (Ci X N' scope (cj scope X.env) C s3 (upd H E (.lst [])) fp) tg elt [c] (Vx X.K l) E σ' H (λH'=>Q (.ref E) H'):=by
 intro fp E C s3 hE
 obtain⟨Tp,keep,val,t0,step,fin⟩:=h
 refine⟨λi m τ H1=>m=xs.length-i/\i≤xs.length/\ao H H1/\Tp τ/\H1 E=some (.lst (iR keep val i)),⟨xs.length,by simp,Nat.zero_le _,ao.upd hE,t0,ak⟩,?_⟩
 rintro i m τ H1 ⟨rfl,hi,s1,hτ,eE⟩
 by_cases hlt:i<xs.length
 .refine .inr ⟨⟨xs,xs[i],ao.seq s1 hl,List.getElem?_eq_getElem hlt⟩,λτ' H'=>ao H H'/\Tp τ'/\H' E=some (.lst (iR keep val (i+1))),λτ' H' ⟨a,b,d⟩=>⟨xs.length-(i+1),by omega,rfl,hlt,a,b,d⟩,λx H2 yl=>?_⟩
  have hx:xs[i]? =some x:=yl.2 xs (ao.seq s1 hl)
  have hH:H2=H1:=yl.1
  subst hH
  intro pins s u I r
  refine cR (step fp E C s3 _ i τ x _ hE hx hτ s1 pins s u I r) λ_ s' ⟨τ2,H3,I3,q3⟩=>⟨τ2,H3,I3,Rn ?_⟩
  refine λpins s I=>cR (q3 pins s I) λk s' ⟨H4,I4,hk,t2,s2,q⟩=>⟨H4,I4,?_⟩
  subst hk
  have eK:=Jd keep val i
  have hkl:=Bf keep val i
  by_cases hkp:keep i=true
  .rw[if_pos hkp]
   rw[if_pos hkp]at eK
   refine bJ (q hkp) λv H5 ⟨ev,s5⟩=>⟨iR keep val i,s5 _ _ (s2 _ _ eE),by omega,?_⟩
   subst ev
   refine⟨λb o e=>?_,t2,by rw[ak,eK]⟩
   rw[az (au e hE)]
   exact s5 _ _ (s2 _ _ (s1 _ _ e))
  .rw[if_neg hkp]
   rw[if_neg hkp,List.append_nil]at eK
   exact⟨s1.trans s2,t2,by rw[eK];exact s2 _ _ eE⟩
 .have e:i=xs.length:=by omega
  subst e
  exact .inl ⟨⟨xs,ao.seq s1 hl,Nat.le_refl _⟩,fin E H1 hE eE s1⟩
theorem T5(N':List Str)(hσ:gr N' X.N σ scope=σ')(hsw:swapsWith (.ListComp elt [⟨tg,e,[c],0⟩] scope pos) (some (.Name y py)) spos.line X.env=pure true)(hc:X.calm=true)(S:dC X.env scope)(hs:∀x,foldedSetIterable e X.env x=pure x)
  (hN:X.N.Nodup) (hi:nameAt X.N y=some j) (hx:X.env.scope.names.lookup y=some .local)
  (h:EV X e σ H λv H1=>∃l xs,v= .ref l/\bc X.K H1 l xs/\xs.length≤sizeLine/\Yq X N' scope tg elt c σ' H1 (λv H'=>D.nx (σ.set j (some v)) H') xs):
  SX X (.Assign [.Name y py] (.ListComp elt [⟨tg,e,[c],0⟩] scope pos) spos) D σ H:=by
 refine Ln (N':=N') hsw hc S hs hN hi hx (sW (bJ h λv H1 q=>?_))
 obtain⟨l,xs,rfl,hl,hz,hw⟩:=q
 refine⟨l,rfl,⟨xs,hl⟩,?_⟩
 rw[hσ]
 exact ai2 (Q:=λv H'=>D.nx (σ.set j (some v)) H') hz hl hw
theorem NZ(hc:X.calm=true):pB X (.builtin "min") (λxs H Q=>∃i j k,xs=[.int i,.int j,.int k]/\∀m,(m=i\/m=j\/m=k)->m≤i->m≤j->m≤k->Q (.int m) H):=by
 intro pins s σ H xs us Q I r h
 obtain⟨i,j,k,rfl,q⟩:=h
 obtain⟨u,w',y',rfl,⟨t,rfl⟩,⟨t',rfl⟩,⟨t'',rfl⟩⟩:=vals3 r
 refine min_three_ints (I.ok.hd hc) λh' tk kp=>?_
 split
 .split
  .exact⟨.int k,H,I.kept kp,⟨_,rfl⟩,q k (by omega) (by omega) (by omega) (by omega)⟩
  .exact⟨.int j,H,I.kept kp,⟨_,rfl⟩,q j (by omega) (by omega) (by omega) (by omega)⟩
 .split
  .exact⟨.int k,H,I.kept kp,⟨_,rfl⟩,q k (by omega) (by omega) (by omega) (by omega)⟩
  .exact⟨.int i,H,I.kept kp,⟨_,rfl⟩,q i (by omega) (by omega) (by omega) (by omega)⟩
theorem ZW{i j k:Int}(hc:X.calm=true)(g:∀m,(m=i\/m=j\/m=k)->m≤i->m≤j->m≤k->Q (.int m) H):CL X (.builtin "min") [.int i,.int j,.int k] H Q:=jG (NZ hc) ⟨i,j,k,rfl,g⟩
end
end L2
local macro_rules | `(tactic| walk_at "sc") => `(tactic| exact ⟨rfl, rfl, rfl, by decide +kernel, rfl, by decide +kernel, by decide +kernel⟩)
local macro_rules | `(tactic| walk_at "nm") => `(tactic| refine L2.Xo (by rfl) (by first | exact Or.inl rfl | exact Or.inr (Or.inl rfl) | exact Or.inr (Or.inr rfl)) ?_ (by decide) (by decide))
local macro_rules | `(tactic| walk_at "gc") => `(tactic| refine L2.ahW (by assumption) (by rfl) ?_ (by decide))
local macro_rules | `(tactic| walk_at "ty") => `(tactic| first
 |((with_reducible show L2.EV _ (PySem.Expr.Name "str" _) _ _ _);refine L2.ty_str (by rfl) (by assumption) ?_)
 |((with_reducible show L2.EV _ (PySem.Expr.Name "list" _) _ _ _);refine L2.ty_list (by rfl) (by assumption) ?_)
 |((with_reducible show L2.EV _ (PySem.Expr.Name "tuple" _) _ _ _);refine L2.ty_tuple (by rfl) (by assumption) ?_)
 |((with_reducible show L2.EV _ (PySem.Expr.Name "int" _) _ _ _);refine L2.ty_int (by rfl) (by assumption) ?_)
 |((with_reducible show L2.EV _ (PySem.Expr.Name "set" _) _ _ _);refine L2.ty_set (by rfl) (by assumption) ?_)
 |((with_reducible show L2.EV _ (PySem.Expr.Name "bool" _) _ _ _);refine L2.ty_bool (by rfl) (by assumption) ?_)
 |((with_reducible show L2.EV _ (PySem.Expr.Name "dict" _) _ _ _);refine L2.ty_dict (by rfl) (by assumption) ?_))
local macro_rules | `(tactic| walk_at "cb") => `(tactic| first
 |((with_reducible show L2.EV _ (PySem.Expr.Call (PySem.Expr.Name "len" _) _ _ _) _ _ _);refine L2.aco (by rfl) (by assumption) (by rfl) (by rfl) ?_)
 |((with_reducible show L2.EV _ (PySem.Expr.Call (PySem.Expr.Name "isinstance" _) _ _ _) _ _ _);refine L2.Ai (by rfl) (by assumption) (by rfl) (by rfl) ?_)
 |((with_reducible show L2.EV _ (PySem.Expr.Call (PySem.Expr.Name "all" _) _ _ _) _ _ _);refine L2.aeK (by rfl) (by assumption) (by rfl) (by rfl) ?_)
 |((with_reducible show L2.EV _ (PySem.Expr.Call (PySem.Expr.Name "any" _) _ _ _) _ _ _);refine L2.aum (by rfl) (by assumption) (by rfl) (by rfl) ?_)
 |((with_reducible show L2.EV _ (PySem.Expr.Call (PySem.Expr.Name "min" _) _ _ _) _ _ _);refine L2.aee (by rfl) (by assumption) (by rfl) (by rfl) ?_)
 |((with_reducible show L2.EV _ (PySem.Expr.Call (PySem.Expr.Name "max" _) _ _ _) _ _ _);refine L2.ani (by rfl) (by assumption) (by rfl) (by rfl) ?_)
 |((with_reducible show L2.EV _ (PySem.Expr.Call (PySem.Expr.Name "abs" _) _ _ _) _ _ _);refine L2.apt (by rfl) (by assumption) (by rfl) (by rfl) ?_)
 |((with_reducible show L2.EV _ (PySem.Expr.Call (PySem.Expr.Name "sum" _) _ _ _) _ _ _);refine L2.avB (by rfl) (by assumption) (by rfl) (by rfl) ?_)
 |((with_reducible show L2.EV _ (PySem.Expr.Call (PySem.Expr.Name "sorted" _) _ _ _) _ _ _);refine L2.afu (by rfl) (by assumption) (by rfl) (by rfl) ?_)
 |((with_reducible show L2.EV _ (PySem.Expr.Call (PySem.Expr.Name "ord" _) _ _ _) _ _ _);refine L2.acM (by rfl) (by assumption) (by rfl) (by rfl) ?_)
 |((with_reducible show L2.EV _ (PySem.Expr.Call (PySem.Expr.Name "divmod" _) _ _ _) _ _ _);refine L2.afB (by rfl) (by assumption) (by rfl) (by rfl) ?_))
local macro_rules | `(tactic| walk_at "ct") => `(tactic| first
 |((with_reducible show L2.EV _ (PySem.Expr.Call (PySem.Expr.Name "str" _) _ _ _) _ _ _);refine L2.abz (by rfl) (by assumption) (by rfl) (by rfl) ?_)
 |((with_reducible show L2.EV _ (PySem.Expr.Call (PySem.Expr.Name "list" _) _ _ _) _ _ _);refine L2.V6 (by rfl) (by assumption) (by rfl) (by rfl) ?_)
 |((with_reducible show L2.EV _ (PySem.Expr.Call (PySem.Expr.Name "tuple" _) _ _ _) _ _ _);refine L2.aio (by rfl) (by assumption) (by rfl) (by rfl) ?_)
 |((with_reducible show L2.EV _ (PySem.Expr.Call (PySem.Expr.Name "int" _) _ _ _) _ _ _);refine L2.adf (by rfl) (by assumption) (by rfl) (by rfl) ?_)
 |((with_reducible show L2.EV _ (PySem.Expr.Call (PySem.Expr.Name "set" _) _ _ _) _ _ _);refine L2.aeX (by rfl) (by assumption) (by rfl) (by rfl) ?_)
 |((with_reducible show L2.EV _ (PySem.Expr.Call (PySem.Expr.Name "bool" _) _ _ _) _ _ _);refine L2.ajJ (by rfl) (by assumption) (by rfl) (by rfl) ?_)
 |((with_reducible show L2.EV _ (PySem.Expr.Call (PySem.Expr.Name "dict" _) _ _ _) _ _ _);refine L2.aj0 (by rfl) (by assumption) (by rfl) (by rfl) ?_))
local macro_rules | `(tactic| walk_at "xo") => `(tactic| first | exact L2.cN | assumption | exact L2.N7 rfl)
local macro_rules | `(tactic| walk_at "po") => `(tactic| first | exact L2.O7 | assumption | exact PySem.PassesOwn.never)
local macro_rules | `(tactic| walk_at "cl") => `(tactic| first
 |refine L2.Xn (by assumption) (by assumption) (by first |decide |omega) (by decide) (by rfl) (by walk_at "xo") (by decide) (by rfl) (by rfl) ?_
 |refine L2.ahp (by assumption) (by assumption) (by first |decide |omega) (by decide) (by rfl) (by walk_at "xo") (by decide) ?_)
local macro_rules | `(tactic| walk_at "bm") => `(tactic| first
 |refine L2.jf PySem.F.plainAttrs_str PySem.F.slot_str_join PySem.F.type_str_join (by rfl) (by rfl) (by rfl) (by rfl) (by rfl) ?_
 |refine L2.jf PySem.F.plainAttrs_str PySem.F.slot_str_index PySem.F.type_str_index (by rfl) (by rfl) (by rfl) (by rfl) (by rfl) ?_
 |refine L2.jf PySem.F.plainAttrs_str PySem.F.slot_str_startswith PySem.F.type_str_startswith (by rfl) (by rfl) (by rfl) (by rfl) (by rfl) ?_)
local macro_rules | `(tactic| walk_at "e") => `(tactic| first
 |((with_reducible show L2.EV _ (PySem.Expr.Name _ _) _ _ _);first |(walk_at "ty") |(walk_at "nm") |(walk_at "gc"))
 |(with_reducible refine L2.aez ?_)
 |(with_reducible refine L2.Q4 ?_)
 |(with_reducible refine L2.af9 ?_)
 |(with_reducible refine L2.acO ?_)
 |(with_reducible refine L2.aeV ?_)
 |((with_reducible show L2.EV _ (PySem.Expr.Compare _ [_] [_] _) _ _ _);refine L2.Zh (by first |exact L2.UW _ (by decide) (by decide) |rfl) ?_)
 |((with_reducible show L2.EV _ (PySem.Expr.Compare _ [_,_] [_,_] _) _ _ _);refine L2.agv (by with_unfolding_all rfl) ?_)
 |(with_reducible refine L2.acy ?_)
 |(with_reducible refine L2.afe ?_)
 |(with_reducible refine L2.ail ?_)
 |(with_reducible refine L2.WQ ?_)
 |(with_reducible refine L2.ahO ?_)
 |(with_reducible refine L2.aba ?_)
 |(with_reducible refine L2.TV ?_)
 |(with_reducible refine L2.aeb ?_)
 |(with_reducible refine L2.agI ?_)
 |((with_reducible show L2.EV _ (PySem.Expr.Subscript _ _ _) _ _ _);refine L2.ajk (λ_ _=>by rfl) ?_)
 |((with_reducible show L2.EV _ (PySem.Expr.Call (PySem.Expr.Name _ _) _ _ _) _ _ _);first |(walk_at "cb") |(walk_at "ct") |(walk_at "cl"))
 |((with_reducible show L2.EV _ (PySem.Expr.Call (PySem.Expr.Attribute _ _ _) _ _ _) _ _ _);(walk_at "bm"))
 |(with_reducible refine L2.Qw ?_)
 |((with_reducible show L2.EJL _ (PySem.Expr.Constant _ _ _::_) _ _ _ _);refine L2.G7 (L2.Q4 ⟨_,200,rfl,by decide+kernel,by omega,?_⟩))
 |((with_reducible show L2.EJL _ (PySem.Expr.FormattedValue _ _ _ _::_) _ _ _ _);refine L2.G7 ?_)
 |((with_reducible show L2.EJL _ [] _ _ _ _);refine L2.Xl (by omega) ?_)
 |(with_reducible refine L2.kZ ?_)
 |((with_reducible show L2.EA _ (_::_) _ _ _);refine L2.iI (by rfl) ?_)
 |(with_reducible refine L2.XJ ?_)
 |(with_reducible refine L2.V4 ?_)
 |((with_reducible show L2.ET _ (PySem.Expr.Compare _ [_] [_] _) _ _ _);refine L2.aeE (by first |exact L2.UW _ (by decide) (by decide) |rfl) ?_)
 |((with_reducible show L2.ET _ (PySem.Expr.Compare _ [_,_] [_,_] _) _ _ _);refine L2.aiD (by with_unfolding_all rfl) ?_)
 |(with_reducible refine L2.ac5 ?_)
 |((with_reducible show L2.ET _ (PySem.Expr.BoolOp _ _ _) _ _ _);refine L2.asl ?_)
 |(with_reducible refine L2.WL ?_)
 |(with_reducible refine L2.aaw ?_)
 |(with_reducible refine L2.aaB ?_)
 |(with_reducible refine L2.ag3 ?_)
 |((with_reducible show L2.ET _ (PySem.Expr.Name _ _) _ _ _);refine L2.Df (λ_=>by rfl) ?_)
 |((with_reducible show L2.ET _ (PySem.Expr.Call _ _ _ _) _ _ _);refine L2.Df (λ_=>by rfl) ?_)
 |((with_reducible show L2.ET _ (PySem.Expr.Subscript _ _ _) _ _ _);refine L2.Df (λ_=>by rfl) ?_)
 |((with_reducible show L2.ET _ (PySem.Expr.Constant _ _ _) _ _ _);refine L2.Df (λ_=>by rfl) ?_))
local macro_rules | `(tactic| walk_at "o") => `(tactic| with_reducible first
 |refine L2.ahc ?_ |refine L2.ajw ?_ |refine L2.ar4 ?_ |refine L2.arG ?_ |refine L2.ao1 ?_ |refine L2.at7 ?_
 |refine L2.agw ?_ |refine L2.adN ?_ |refine L2.axG ?_ |refine L2.ait ?_ |refine L2.alB ?_ |refine L2.aie ?_
 |refine L2.agP ?_ |refine L2.ap1 ?_ |refine L2.agS ?_ |refine L2.awM ?_)
local macro_rules | `(tactic| walk_at "o2") => `(tactic| first
 |((with_reducible show L2.OP _ (PySem.compareOp PySem.CmpOp.Eq) _ _ _ _);refine L2.amc (by rfl) ?_)
 |((with_reducible show L2.OP _ (PySem.compareOp PySem.CmpOp.NotEq) _ _ _ _);refine L2.aoc (by rfl) ?_)
 |((with_reducible show L2.OP _ (PySem.binaryOp PySem.Operator.Mod) (L2.V.int _) (L2.V.int _) _ _);refine L2.ahs (by first |decide |omega) ?_)
 |((with_reducible show L2.OP _ (PySem.binaryOp PySem.Operator.Mult) (L2.V.int _) (L2.V.int _) _ _);refine L2.af3 (by first |exact Or.inr ⟨by decide,by decide⟩ |exact Or.inl ⟨by decide,by decide⟩ |exact Or.inl ⟨by omega,by omega⟩ |exact Or.inr ⟨by omega,by omega⟩) ?_)
 |((with_reducible show L2.OP _ (PySem.binaryOp PySem.Operator.Pow) (L2.V.int _) (L2.V.int _) _ _);refine L2.M7 ⟨by decide,by decide,by decide⟩ ?_)
 |((with_reducible show L2.CL _ (PySem.Value.builtin "len") [L2.V.ref _] _ _);refine L2.Ck (Or.inl (by assumption)) ?_)
 |((with_reducible show L2.CL _ (PySem.Value.builtin "len") [L2.V.str _] _ _);refine L2.acG (by omega) ?_)
 |((with_reducible show L2.CL _ (PySem.Value.builtin "ord") [L2.V.str _] _ _);refine L2.ai7 ?_)
 |((with_reducible show L2.CL _ (PySem.Value.builtin "isinstance") _ _ _);with_reducible first |refine L2.Iu ?_ |refine L2.HJ ?_ |refine L2.J0 ?_ |refine L2.Yj ?_ |refine L2.Vs ?_ |refine L2.YW ?_ |refine L2.Yb ?_ |refine L2.CW ?_ |refine L2.X6 ?_ |refine L2.Xz ?_ |refine L2.Vj ?_ |refine L2.Xu ?_ |refine L2.ac1 ?_ |refine L2.Ig ?_ |refine L2.Kr ?_ |refine L2.Yw ?_ |refine L2.Xv ?_ |refine L2.Yc ?_ |refine L2.Qe ?_ |refine L2.vH ?_ |refine L2.xM ?_ |refine L2.O9 ?_ |refine L2.Lq ?_ |refine L2.Ou ?_))
local macro_rules | `(tactic| walk_at "t") => `(tactic| first
 |(with_reducible refine L2.avO ?_)
 |(with_reducible refine L2.am4 ?_)
 |(with_reducible refine L2.ajl ?_)
 |(with_reducible refine L2.aiC ?_)
 |(with_reducible first |refine L2.amG ?_ |refine L2.agr ?_ |refine L2.ajf ?_ |refine L2.axh ?_ |refine L2.awt ?_ |refine L2.arv ?_ |refine L2.aws ?_ |refine L2.aw0 ?_ |refine L2.awz ?_ |refine L2.axd ?_)
 |((with_reducible show ∃k,L2.V.bl _=L2.V.bl k/\_);refine⟨_,rfl,?_⟩)
 |((with_reducible show ∃k,L2.Xk _ (L2.V.bl _) _ k/\_);refine⟨_,rfl,?_⟩)
 |((with_reducible show ∃i,L2.V.int _=L2.V.int i/\_);refine⟨_,rfl,?_⟩)
 |((with_reducible show L2.tyV _ _ (L2.V.str _) _/\_);refine⟨by rfl,?_⟩))
local macro_rules | `(tactic| walk_at "s") => `(tactic| first
 |(with_reducible refine L2.aM ?_)
 |(with_reducible refine L2.aA ?_)
 |(with_reducible refine L2.aj ?_)
 |(with_reducible refine L2.bj ?_)
 |(with_reducible refine L2.ajP ?_)
 |(with_reducible refine L2.aka ?_)
 |(with_reducible refine L2.bY ?_)
 |((with_reducible show L2.SX _ (PySem.Stmt.Assign [PySem.Expr.Name _ _] _ _) _ _ _);refine L2.Us (by assumption) (by rfl) (by first |exact Or.inl rfl |exact Or.inr rfl) (by rfl) (by first |exact Or.inl rfl |exact Or.inr rfl) ?_)
 |((with_reducible show L2.SX _ (PySem.Stmt.Expr _ _) _ _ _);refine L2.gB (by rfl) ?_))
local macro_rules | `(tactic| walk_at "go") => `(tactic| repeat' (first | (walk_at "e") | (walk_at "o") | (walk_at "o2") | (walk_at "t") | (walk_at "s")))
local macro_rules | `(tactic| walk_at "ex") => `(tactic| repeat' (first | (walk_at "e") | (walk_at "o") | (walk_at "o2") | (walk_at "t")))
local macro_rules | `(tactic| walk_at "A") => `(tactic| (refine L2.aj ?_; walk_at "s"; walk_at "ex"))
namespace K37
open PySem L2 PyProof.Rows
def top(i:Nat):Stmt:=PySem.Challenge.pw_turnleaf_k37_marks_there_and_back.main.body.getD i (.Pass ⟨0,0,0,0⟩)
abbrev ug:Stmt:=top 0
abbrev gH:Stmt:=top 5
abbrev dY:Stmt:=top 6
abbrev gJ:Stmt:=top 23
abbrev cG:Stmt:=top 24
abbrev eN:Stmt:=top 25
abbrev du:Stmt:=top 26
abbrev bN:Stmt:=top 27
abbrev bA:Stmt:=top 28
abbrev bC:Stmt:=top 29
abbrev dR:Stmt:=top 30
abbrev cO:Stmt:=top 31
abbrev gC:Stmt:=top 34
abbrev dJ:Stmt:=top 35
abbrev bU:Stmt:=top 40
abbrev bO:Stmt:=top 41
abbrev dj:Stmt:=top 42
abbrev dD:Stmt:=top 70
abbrev cV:Stmt:=top 71
abbrev dq:Stmt:=top 72
abbrev fG:Stmt:=top 73
abbrev fW:Stmt:=top 74
abbrev cI:Stmt:=top 75
abbrev b8:Stmt:=top 76
abbrev fX:Stmt:=top 77
abbrev d7:Stmt:=top 78
abbrev dU:Stmt:=top 88
abbrev fK:Stmt:=top 89
abbrev fD:Stmt:=top 90
abbrev d8:Stmt:=top 91
abbrev fV:Stmt:=top 92
abbrev fY:Stmt:=top 93
abbrev fJ:Stmt:=top 94
abbrev fB:Stmt:=top 95
abbrev gb:Stmt:=top 97
abbrev bF:Stmt:=top 98
abbrev cB:Stmt:=top 99
abbrev cQ:Stmt:=top 100
abbrev cH:Stmt:=top 101
abbrev fH:Stmt:=top 102
abbrev dh:Stmt:=top 103
abbrev dX:Stmt:=top 104
abbrev fQ:Stmt:=top 105
abbrev dg:Stmt:=top 106
abbrev dO:Stmt:=top 107
abbrev fM:Stmt:=top 108
abbrev bH:Stmt:=top 109
abbrev bL:Stmt:=top 110
abbrev cP:Stmt:=top 111
abbrev cT:Stmt:=top 112
abbrev bM:Stmt:=top 113
abbrev fZ:Stmt:=top 114
abbrev tK:Stmt:=top 115
abbrev jw:Stmt:=inClass (top 12) 0
abbrev aP:Stmt:=inClass (top 46) 0
abbrev cL:Stmt:=inClass (top 46) 1
abbrev aH:Stmt:=inClass (top 46) 2
abbrev aR:Stmt:=inClass (top 48) 0
abbrev dF:Stmt:=inClass (top 48) 1
abbrev aG:Stmt:=inClass (top 49) 0
abbrev aV:Stmt:=inClass (top 49) 1
abbrev bR:Stmt:=inClass (top 49) 2
abbrev di:Stmt:=inClass (top 51) 0
abbrev dG:Stmt:=inClass (top 52) 0
abbrev dm:Stmt:=inClass (top 53) 0
abbrev aY:Stmt:=inClass (top 54) 0
abbrev eV:Stmt:=inClass (top 54) 1
abbrev aO:Stmt:=inClass (top 55) 0
abbrev dH:Stmt:=inClass (top 56) 0
abbrev cU:Stmt:=inClass (top 57) 0
structure Txt(K:W.Frag)(mg:Str->Option Value):Prop where
 aj2:∃f fd,gj K "_wall" "_wall" ug f fd/\mg "_wall"=some (.ref f)
 rP:∃f fd,gj K "check_of" "check_of" gH f fd/\mg "check_of"=some (.ref f)
 jn:∃f fd,gj K "check_word" "check_word" dY f fd/\mg "check_word"=some (.ref f)
 pK:∃f fd,gj K "made_of" "made_of" gJ f fd/\mg "made_of"=some (.ref f)
 iV:∃f fd,gj K "is_text_value" "is_text_value" cG f fd/\mg "is_text_value"=some (.ref f)
 lV:∃f fd,gj K "value_word" "value_word" eN f fd/\mg "value_word"=some (.ref f)
 lg:∃f fd,gj K "are_figures" "are_figures" du f fd/\mg "are_figures"=some (.ref f)
 ir:∃f fd,gj K "read_figures" "read_figures" bN f fd/\mg "read_figures"=some (.ref f)
 gF:∃f fd,gj K "read_number_word" "read_number_word" bA f fd/\mg "read_number_word"=some (.ref f)
 iG:∃f fd,gj K "read_text_word" "read_text_word" bC f fd/\mg "read_text_word"=some (.ref f)
 jr:∃f fd,gj K "read_value" "read_value" dR f fd/\mg "read_value"=some (.ref f)
 lr:∃f fd,gj K "read_values" "read_values" cO f fd/\mg "read_values"=some (.ref f)
 jL:∃f fd,gj K "place_of" "place_of" gC f fd/\mg "place_of"=some (.ref f)
 oh:∃f fd,gj K "row_words" "row_words" dJ f fd/\mg "row_words"=some (.ref f)
 iu:∃f fd,gj K "read_order_word" "read_order_word" bU f fd/\mg "read_order_word"=some (.ref f)
 mH:∃f fd,gj K "read_order" "read_order" bO f fd/\mg "read_order"=some (.ref f)
 mJ:∃f fd,gj K "order_text" "order_text" dj f fd/\mg "order_text"=some (.ref f)
 ju:∃f fd,gj K "word_at" "word_at" dD f fd/\mg "word_at"=some (.ref f)
 cW:∃f fd,gj K "text_between" "text_between" cV f fd/\mg "text_between"=some (.ref f)
 iJ:∃f fd,gj K "read_column" "read_column" dq f fd/\mg "read_column"=some (.ref f)
 oZ:∃f fd,gj K "read_word" "read_word" fG f fd/\mg "read_word"=some (.ref f)
 nO:∃f fd,gj K "read_none" "read_none" fW f fd/\mg "read_none"=some (.ref f)
 jc:∃f fd,gj K "read_of_value" "read_of_value" cI f fd/\mg "read_of_value"=some (.ref f)
 vy:∃f fd,gj K "read_of_sieves" "read_of_sieves" b8 f fd/\mg "read_of_sieves"=some (.ref f)
 Hb:∃f fd,gj K "read_part" "read_part" fX f fd/\mg "read_part"=some (.ref f)
 CQ:∃f fd,gj K "read_sieve" "read_sieve" d7 f fd/\mg "read_sieve"=some (.ref f)
 qC:∃f fd,gj K "cut_text" "cut_text" dU f fd/\mg "cut_text"=some (.ref f)
 oM:∃f fd,gj K "mark_text" "mark_text" fK f fd/\mg "mark_text"=some (.ref f)
 oF:∃f fd,gj K "read_make" "read_make" fD f fd/\mg "read_make"=some (.ref f)
 ji:∃f fd,gj K "read_whole" "read_whole" d8 f fd/\mg "read_whole"=some (.ref f)
 pq:∃f fd,gj K "read_side" "read_side" fV f fd/\mg "read_side"=some (.ref f)
 qX:∃f fd,gj K "read_cut" "read_cut" fY f fd/\mg "read_cut"=some (.ref f)
 pA:∃f fd,gj K "read_body" "read_body" fJ f fd/\mg "read_body"=some (.ref f)
 oU:∃f fd,gj K "read_mark" "read_mark" fB f fd/\mg "read_mark"=some (.ref f)
 cD:∃f fd,gj K "_law_draw" "_law_draw" gb f fd/\mg "_law_draw"=some (.ref f)
 jB:∃f fd,gj K "_law_columns" "_law_columns" bF f fd/\mg "_law_columns"=some (.ref f)
 jl:∃f fd,gj K "_law_value" "_law_value" cB f fd/\mg "_law_value"=some (.ref f)
 km:∃f fd,gj K "_law_values" "_law_values" cQ f fd/\mg "_law_values"=some (.ref f)
 je:∃f fd,gj K "_law_is_whole" "_law_is_whole" cH f fd/\mg "_law_is_whole"=some (.ref f)
 nZ:∃f fd,gj K "_law_same" "_law_same" fH f fd/\mg "_law_same"=some (.ref f)
 lX:∃f fd,gj K "_law_order" "_law_order" dh f fd/\mg "_law_order"=some (.ref f)
 qy:∃f fd,gj K "_law_key" "_law_key" dX f fd/\mg "_law_key"=some (.ref f)
 jV:∃f fd,gj K "_law_word" "_law_word" fQ f fd/\mg "_law_word"=some (.ref f)
 oO:∃f fd,gj K "_law_look" "_law_look" dg f fd/\mg "_law_look"=some (.ref f)
 mq:∃f fd,gj K "_law_sieve" "_law_sieve" dO f fd/\mg "_law_sieve"=some (.ref f)
 oN:∃f fd,gj K "_law_mark" "_law_mark" fM f fd/\mg "_law_mark"=some (.ref f)
 iB:∃f fd,gj K "_law_long_look" "_law_long_look" bH f fd/\mg "_law_long_look"=some (.ref f)
 il:∃f fd,gj K "_law_long_sieve" "_law_long_sieve" bL f fd/\mg "_law_long_sieve"=some (.ref f)
 nW:∃f fd,gj K "_law_body" "_law_body" cP f fd/\mg "_law_body"=some (.ref f)
 jK:∃f fd,gj K "_law_checked" "_law_checked" cT f fd/\mg "_law_checked"=some (.ref f)
 gZ:∃f fd,gj K "_law_read_right" "_law_read_right" bM f fd/\mg "_law_read_right"=some (.ref f)
 oW:∃f fd,gj K "_law_kept" "_law_kept" fZ f fd/\mg "_law_kept"=some (.ref f)
 ajm:∃f fd,gj K "law" "law" tK f fd/\mg "law"=some (.ref f)
 ae0:Gc mg "BASE" (.int 137)
 Pb:Gc mg "REST_BY" (.int 9973)
 qZ:Gc mg "FIGURES_OF_CHECK" (.int 4)
 Uw:Gc mg "NUMBER" (.str "number")
 Zj:Gc mg "TEXT" (.str "text")
 Oc:Gc mg "FIGURES" (.str "0123456789")
 Fb:Gc mg "TEXT_SIGNS" (.str "abcdefghijklmnopqrstuvwxyz0123456789-")
 Pu:Gc mg "LARGEST" (.int 1000000000000000000)
 Pa:Gc mg "LONGEST" (.int 20)
 wX:Gc mg "NONE_WORD" (.str "?")
 uo:Gc mg "TEXT_AHEAD" (.str "'")
 Aq:Gc mg "BELOW_AHEAD" (.str "-")
 Bb:Gc mg "LARGEST_ROW" (.int 1000000000)
 xG:Gc mg "MOST_IN_ORDER" (.int 4)
 ym:Gc mg "UP_AHEAD" (.str "+")
 tU:Gc mg "DOWN_AHEAD" (.str "-")
 Mg:Gc mg "AHEAD" (.str "ahead")
 R4:Gc mg "BEHIND" (.str "behind")
 DK:Gc mg "MOST_WORDS" (.int 60)
 kI:Gc mg "MOST_WITHIN" (.int 20)
 Yi:Gc mg "ALL" (.str "all")
 QB:Gc mg "NONE" (.str "none")
 Y7:Gc mg "IS" (.str "is")
 DW:Gc mg "UNDER" (.str "under")
 Jw:Gc mg "OVER" (.str "over")
 Dw:Gc mg "HOLDS" (.str "holds")
 Mw:Gc mg "NOT" (.str "not")
 EY:Gc mg "BOTH" (.str "both")
 Rv:Gc mg "EITHER" (.str "either")
 RL:Gc mg "LIVING" (.str "living")
 V9:Gc mg "STILL" (.str "still")
 Rj:Gc mg "LATEST" (.int 5000)
 Wo:Gc mg "PARTS" (.int 5)
 BX:Gc mg "PARTING" (.str "/")
 Q8:Gc mg "STOP" (.str ".")
 sO:Gc mg "AHEAD_SIGN" (.str "<")
 ql:Gc mg "BEHIND_SIGN" (.str ">")
 XQ:mg "ValueError"=none
 agl:mg "all"=none
 Kh:mg "bool"=none
 HF:mg "enumerate"=none
 SJ:mg "int"=none
 eF:mg "isinstance"=none
 jC:mg "len"=none
 zF:mg "list"=none
 agX:mg "min"=none
 XX:mg "ord"=none
 jt:mg "range"=none
 Ir:mg "reversed"=none
 agb:mg "set"=none
 nM:mg "str"=none
 Wh:mg "tuple"=none
 agU:mg "zip"=none
 Yo:mg "LeafError"=some (.ref (aD mg "LeafError"))
 afN:mg "NoValue"=some (.ref (aD mg "NoValue"))
 afE:mg "NoOrder"=some (.ref (aD mg "NoOrder"))
 aiw:mg "NoMark"=some (.ref (aD mg "NoMark"))
 afK:mg "NoSieve"=some (.ref (aD mg "NoSieve"))
 xW:mg "Sieve"=some (.ref (aD mg "Sieve"))
 Jo:mg "AllSieve"=some (.ref (aD mg "AllSieve"))
 HX:mg "NoneSieve"=some (.ref (aD mg "NoneSieve"))
 V7:mg "ValueSieve"=some (.ref (aD mg "ValueSieve"))
 Qa:mg "IsSieve"=some (.ref (aD mg "IsSieve"))
 DN:mg "UnderSieve"=some (.ref (aD mg "UnderSieve"))
 Ib:mg "OverSieve"=some (.ref (aD mg "OverSieve"))
 Fy:mg "HoldsSieve"=some (.ref (aD mg "HoldsSieve"))
 JH:mg "NotSieve"=some (.ref (aD mg "NotSieve"))
 Yz:mg "PairSieve"=some (.ref (aD mg "PairSieve"))
 Ih:mg "BothSieve"=some (.ref (aD mg "BothSieve"))
 Ak:mg "EitherSieve"=some (.ref (aD mg "EitherSieve"))
 Bx:TQ K mg "NoValue"
 agA:TQ K mg "NoMark"
 pH:TQ K mg "NoOrder"
 G9:aib K mg "LeafError"
 afG:XC K mg "LeafError" "NoValue"
 afQ:XC K mg "LeafError" "NoOrder"
 af0:XC K mg "LeafError" "NoMark"
 afF:XC K mg "LeafError" "NoSieve"
 pC:aaL K mg "LeafError" "NoSieve" "NoSieve.__init__" "at" jw
 afO:W.findIn K (.ref (aD mg "NoSieve")) "at"=some none
 apL:[aD mg "LeafError",aD mg "NoValue",aD mg "NoOrder",aD mg "NoMark",aD mg "NoSieve"].Nodup
 akn:pJ K (aD mg "Sieve")
 aiW:OI K (aD mg "Sieve") "Sieve.__init__" aP
 Xj:OM K (aD mg "Sieve") "lets" "Sieve.lets" cL
 Vk:OM K (aD mg "Sieve") "shown" "Sieve.shown" aH
 Vd:aU K (aD mg "Sieve") "text"
 rN:pJ K (aD mg "AllSieve")
 GC:OI K (aD mg "AllSieve") "Sieve.__init__" aP
 Qi:OM K (aD mg "AllSieve") "lets" "Sieve.lets" cL
 uP:OM K (aD mg "AllSieve") "shown" "Sieve.shown" aH
 lG:aU K (aD mg "AllSieve") "text"
 nG:pJ K (aD mg "NoneSieve")
 Fq:OI K (aD mg "NoneSieve") "NoneSieve.__init__" aR
 Oj:OM K (aD mg "NoneSieve") "lets" "NoneSieve.lets" dF
 uA:OM K (aD mg "NoneSieve") "shown" "Sieve.shown" aH
 j5:aU K (aD mg "NoneSieve") "text"
 qp:aU K (aD mg "NoneSieve") "place"
 Wb:pJ K (aD mg "ValueSieve")
 Vh:OI K (aD mg "ValueSieve") "ValueSieve.__init__" aG
 Lp:OM K (aD mg "ValueSieve") "fits" "ValueSieve.fits" bR
 Le:OM K (aD mg "ValueSieve") "lets" "ValueSieve.lets" aV
 JW:OM K (aD mg "ValueSieve") "shown" "Sieve.shown" aH
 Kq:aU K (aD mg "ValueSieve") "text"
 Im:aU K (aD mg "ValueSieve") "place"
 Ij:aU K (aD mg "ValueSieve") "value"
 vz:pJ K (aD mg "IsSieve")
 J6:OI K (aD mg "IsSieve") "ValueSieve.__init__" aG
 Sd:OM K (aD mg "IsSieve") "fits" "ValueSieve.fits" bR
 Sv:OM K (aD mg "IsSieve") "lets" "ValueSieve.lets" aV
 xN:OM K (aD mg "IsSieve") "shown" "Sieve.shown" aH
 mY:aU K (aD mg "IsSieve") "text"
 vh:aU K (aD mg "IsSieve") "place"
 vW:aU K (aD mg "IsSieve") "value"
 mF:pJ K (aD mg "UnderSieve")
 Ac:OI K (aD mg "UnderSieve") "ValueSieve.__init__" aG
 M8:OM K (aD mg "UnderSieve") "fits" "UnderSieve.fits" di
 Lf:OM K (aD mg "UnderSieve") "lets" "ValueSieve.lets" aV
 rJ:OM K (aD mg "UnderSieve") "shown" "Sieve.shown" aH
 jJ:aU K (aD mg "UnderSieve") "text"
 pN:aU K (aD mg "UnderSieve") "place"
 pU:aU K (aD mg "UnderSieve") "value"
 oK:pJ K (aD mg "OverSieve")
 Fi:OI K (aD mg "OverSieve") "ValueSieve.__init__" aG
 Ny:OM K (aD mg "OverSieve") "fits" "OverSieve.fits" dG
 NB:OM K (aD mg "OverSieve") "lets" "ValueSieve.lets" aV
 tM:OM K (aD mg "OverSieve") "shown" "Sieve.shown" aH
 j7:aU K (aD mg "OverSieve") "text"
 qL:aU K (aD mg "OverSieve") "place"
 qP:aU K (aD mg "OverSieve") "value"
 lY:pJ K (aD mg "HoldsSieve")
 Bc:OI K (aD mg "HoldsSieve") "ValueSieve.__init__" aG
 Mp:OM K (aD mg "HoldsSieve") "fits" "HoldsSieve.fits" dm
 M3:OM K (aD mg "HoldsSieve") "lets" "ValueSieve.lets" aV
 qw:OM K (aD mg "HoldsSieve") "shown" "Sieve.shown" aH
 jP:aU K (aD mg "HoldsSieve") "text"
 pQ:aU K (aD mg "HoldsSieve") "place"
 pP:aU K (aD mg "HoldsSieve") "value"
 qN:pJ K (aD mg "NotSieve")
 Hu:OI K (aD mg "NotSieve") "NotSieve.__init__" aY
 Qg:OM K (aD mg "NotSieve") "lets" "NotSieve.lets" eV
 wA:OM K (aD mg "NotSieve") "shown" "Sieve.shown" aH
 lN:aU K (aD mg "NotSieve") "text"
 xH:aU K (aD mg "NotSieve") "one"
 Ye:pJ K (aD mg "PairSieve")
 WK:OI K (aD mg "PairSieve") "PairSieve.__init__" aO
 Pk:OM K (aD mg "PairSieve") "lets" "Sieve.lets" cL
 Nh:OM K (aD mg "PairSieve") "shown" "Sieve.shown" aH
 KQ:aU K (aD mg "PairSieve") "text"
 N8:aU K (aD mg "PairSieve") "one"
 JV:aU K (aD mg "PairSieve") "other"
 nR:pJ K (aD mg "BothSieve")
 En:OI K (aD mg "BothSieve") "PairSieve.__init__" aO
 Nm:OM K (aD mg "BothSieve") "lets" "BothSieve.lets" dH
 uf:OM K (aD mg "BothSieve") "shown" "Sieve.shown" aH
 jW:aU K (aD mg "BothSieve") "text"
 uZ:aU K (aD mg "BothSieve") "one"
 rm:aU K (aD mg "BothSieve") "other"
 kY:pJ K (aD mg "EitherSieve")
 zV:OI K (aD mg "EitherSieve") "PairSieve.__init__" aO
 Io:OM K (aD mg "EitherSieve") "lets" "EitherSieve.lets" cU
 pO:OM K (aD mg "EitherSieve") "shown" "Sieve.shown" aH
 jg:aU K (aD mg "EitherSieve") "text"
 qO:aU K (aD mg "EitherSieve") "one"
 oX:aU K (aD mg "EitherSieve") "other"
 fc:OB K (aD mg "Sieve") "__init__" "Sieve.__init__" aP
abbrev iH:List Str:=["self","text"]
theorem sZ:aK iH ["self","text"] (aa aP):=by walk_at "sc"
abbrev Vp:List Str:=["self","values"]
abbrev kJ:List Str:=["self"]
theorem yx:aK kJ ["self"] (aa aH):=by walk_at "sc"
abbrev fU:List Str:=["self","text","place"]
theorem nu:aK fU ["self","text","place"] (aa aR):=by walk_at "sc"
abbrev Nx:List Str:=["self","values"]
abbrev eX:List Str:=["self","text","place","value"]
theorem lW:aK eX ["self","text","place","value"] (aa aG):=by walk_at "sc"
abbrev LC:List Str:=["self","values"]
abbrev M4:List Str:=["self","value"]
abbrev KN:List Str:=["self","value"]
abbrev Py:List Str:=["self","value"]
abbrev Ms:List Str:=["self","value"]
abbrev gq:List Str:=["self","text","one"]
theorem oA:aK gq ["self","text","one"] (aa aY):=by walk_at "sc"
abbrev Qf:List Str:=["self","values"]
abbrev fL:List Str:=["self","text","one","other"]
theorem ni:aK fL ["self","text","one","other"] (aa aO):=by walk_at "sc"
abbrev Oi:List Str:=["self","values"]
abbrev J4:List Str:=["self","values"]
abbrev Oo:List Str:=["self","at"]
theorem JQ:aK Oo ["self","at"] (aa jw):=by walk_at "sc"
abbrev aj3:List Str:=["k"]
abbrev zm:List Str:=["text","total","power","sign"]
theorem wK:aK zm ["text"] (aa gH):=by walk_at "sc"
abbrev tu:List Str:=["text"]
theorem Am:aK tu ["text"] (aa dY):=by walk_at "sc"
abbrev BR:List Str:=["text","signs"]
theorem JC:aK BR ["text","signs"] (aa gJ):=by walk_at "sc"
abbrev mX:List Str:=["value"]
theorem uO:aK mX ["value"] (aa cG):=by walk_at "sc"
abbrev tY:List Str:=["value"]
theorem Ae:aK tY ["value"] (aa eN):=by walk_at "sc"
abbrev pY:List Str:=["word"]
theorem yJ:aK pY ["word"] (aa du):=by walk_at "sc"
abbrev jH:List Str:=["word","most","number"]
theorem m5:aK jH ["word","most"] (aa bN):=by walk_at "sc"
abbrev gD:List Str:=["word","below","number"]
theorem jh:aK gD ["word"] (aa bA):=by walk_at "sc"
abbrev iC:List Str:=["word"]
theorem jX:aK iC ["word"] (aa bC):=by walk_at "sc"
abbrev tG:List Str:=["kind","word"]
theorem Al:aK tG ["kind","word"] (aa dR):=by walk_at "sc"
abbrev qj:List Str:=["kinds","words"]
theorem zK:aK qj ["kinds","words"] (aa cO):=by walk_at "sc"
abbrev yf:List Str:=["columns","name","place","column"]
theorem wJ:aK yf ["columns","name"] (aa gC):=by walk_at "sc"
abbrev wB:List Str:=["row","values"]
theorem Eb:aK wB ["row","values"] (aa dJ):=by walk_at "sc"
abbrev jZ:List Str:=["columns","word","sign","name"]
theorem jN:aK jZ ["columns","word"] (aa bU):=by walk_at "sc"
abbrev jk:List Str:=["columns","text","words","order","names"]
theorem p7:aK jk ["columns","text"] (aa bO):=by walk_at "sc"
abbrev su:List Str:=["order"]
theorem Ar:aK su ["order"] (aa dj):=by walk_at "sc"
abbrev pD:List Str:=["words","place"]
theorem KH:aK pD ["words","place"] (aa dD):=by walk_at "sc"
abbrev nF:List Str:=["words","start","behind"]
theorem xJ:aK nF ["words","start","behind"] (aa cV):=by walk_at "sc"
abbrev pX:List Str:=["columns","words","place","column"]
theorem oJ:aK pX ["columns","words","place"] (aa dq):=by walk_at "sc"
abbrev xq:List Str:=["kind","words","place","word","value"]
theorem sE:aK xq ["kind","words","place"] (aa fG):=by walk_at "sc"
abbrev wL:List Str:=["columns","words","start","column"]
theorem uD:aK wL ["columns","words","start"] (aa fW):=by walk_at "sc"
abbrev mU:List Str:=["columns","words","start","word","column","kind","value","text"]
theorem lQ:aK mU ["columns","words","start"] (aa cI):=by walk_at "sc"
abbrev lE:List Str:=["columns","words","start","within","word","one","behind","other","text"]
theorem eY:aK lE ["columns","words","start","within"] (aa b8):=by walk_at "sc"
abbrev xj:List Str:=["columns","words","start","within","word"]
theorem mD:aK xj ["columns","words","start","within"] (aa fX):=by walk_at "sc"
abbrev ur:List Str:=["columns","text","words","sieve","behind"]
theorem pW:aK ur ["columns","text"] (aa d7):=by walk_at "sc"
abbrev qH:List Str:=["cut","values","row","sign"]
theorem wV:aK qH ["cut"] (aa dU):=by walk_at "sc"
abbrev wH:List Str:=["mark","make","moment","order","sieve","cut","body"]
theorem sS:aK wH ["mark"] (aa fK):=by walk_at "sc"
abbrev xn:List Str:=["letter","make"]
theorem tR:aK xn ["letter"] (aa fD):=by walk_at "sc"
abbrev tQ:List Str:=["word","most","number"]
theorem qb:aK tQ ["word","most"] (aa d8):=by walk_at "sc"
abbrev wU:List Str:=["sign"]
theorem Dl:aK wU ["sign"] (aa fV):=by walk_at "sc"
abbrev zy:List Str:=["columns","order","text","side","words","row","kinds"]
theorem wO:aK zy ["columns","order","text"] (aa fY):=by walk_at "sc"
abbrev wY:List Str:=["columns","body","parts","make","moment","order","sieve"]
theorem uG:aK wY ["columns","body"] (aa fJ):=by walk_at "sc"
abbrev xm:List Str:=["columns","text","body","stop","check"]
theorem tE:aK xm ["columns","text"] (aa fB):=by walk_at "sc"
abbrev wQ:List Str:=["_law_script","_law_k","_law_many","_law_cell","_law_seed"]
theorem uz:aK wQ ["_law_script","_law_k","_law_many"] (aa gb):=by walk_at "sc"
abbrev jE:List Str:=["_law_script","_law_base","_law_most","_law_letters","_law_word_here","_law_way","_law_at","_law_columns_here","_law_k","_law_sign","_law_size","_law_name"]
theorem mV:aK jE ["_law_script","_law_base","_law_most"] (aa bF):=by walk_at "sc"
abbrev mR:List Str:=["_law_script","_law_k","_law_kind","_law_way","_law_cell","_law_far","_law_signs","_law_size"]
theorem qd:aK mR ["_law_script","_law_k","_law_kind"] (aa cB):=by walk_at "sc"
abbrev qi:List Str:=["_law_script","_law_k","_law_columns_here"]
theorem zu:aK qi ["_law_script","_law_k","_law_columns_here"] (aa cQ):=by walk_at "sc"
abbrev m6:List Str:=["_law_found","_law_due"]
theorem vD:aK m6 ["_law_found","_law_due"] (aa cH):=by walk_at "sc"
abbrev xr:List Str:=["_law_found","_law_due","_law_k"]
theorem sH:aK xr ["_law_found","_law_due"] (aa fH):=by walk_at "sc"
abbrev sX:List Str:=["_law_script","_law_base","_law_columns_here","_law_order_here","_law_k","_law_names"]
theorem pZ:aK sX ["_law_script","_law_base","_law_columns_here"] (aa dh):=by walk_at "sc"
abbrev yC:List Str:=["_law_columns_here","_law_order_here","_law_row","_law_values_here","_law_names"]
theorem wF:aK yC ["_law_columns_here","_law_order_here","_law_row","_law_values_here"] (aa dX):=by walk_at "sc"
abbrev wR:List Str:=["_law_value_here"]
theorem Fx:aK wR ["_law_value_here"] (aa fQ):=by walk_at "sc"
abbrev nY:List Str:=["_law_script","_law_base","_law_columns_here","_law_at","_law_name","_law_kind","_law_value_here","_law_looks","_law_many"]
theorem uv:aK nY ["_law_script","_law_base","_law_columns_here"] (aa dg):=by walk_at "sc"
abbrev sI:List Str:=["_law_script","_law_base","_law_columns_here","_law_text","_law_k","_law_way"]
theorem p6:aK sI ["_law_script","_law_base","_law_columns_here"] (aa dO):=by walk_at "sc"
abbrev wZ:List Str:=["_law_script","_law_base","_law_columns_here","_law_order_here","_law_make","_law_moments","_law_moment","_law_numbers","_law_row","_law_key_here","_law_side"]
theorem sV:aK wZ ["_law_script","_law_base","_law_columns_here"] (aa fM):=by walk_at "sc"
abbrev lJ:List Str:=["_law_script","_law_base","_law_columns_here","_law_name","_law_kind","_law_number","_law_signs","_law_word_here"]
theorem j6:aK lJ ["_law_script","_law_base","_law_columns_here"] (aa bH):=by walk_at "sc"
abbrev jU:List Str:=["_law_script","_law_base","_law_columns_here","_law_text","_law_k","_law_head"]
theorem jF:aK jU ["_law_script","_law_base","_law_columns_here"] (aa bL):=by walk_at "sc"
abbrev iT:List Str:=["_law_mark_here","_law_make","_law_moment","_law_order_here","_law_sieve_here","_law_cut","_law_words","_law_name","_law_up","_law_body_here","_law_value_here"]
theorem ue:aK iT ["_law_mark_here"] (aa cP):=by walk_at "sc"
abbrev oG:List Str:=["_law_body_here","_law_total","_law_sign"]
theorem mW:aK oG ["_law_body_here"] (aa cT):=by walk_at "sc"
abbrev j9:List Str:=["_law_found","_law_mark_here","_law_one","_law_cut"]
theorem jD:aK j9 ["_law_found","_law_mark_here"] (aa bM):=by walk_at "sc"
abbrev xf:List Str:=["_law_mark_here","_law_make","_law_moment","_law_order_here","_law_sieve_here","_law_cut"]
theorem tZ:aK xf ["_law_mark_here"] (aa fZ):=by walk_at "sc"
abbrev Yr:List Str:=["_law_script","_law_columns_here","_law_marks","_law_k","_law_mark_here","_law_handed","_law_text","_law_found"]
theorem U4:aK Yr ["_law_script"] (aa tK):=by walk_at "sc"
section
variable{P:Program}{w:World}{K:W.Frag}{mg:Str->Option Value}{base:Heap}
abbrev iZ(P:Program)(w:World)(K:W.Frag)(mg:Str->Option Value)(base:Heap)(n:Nat)(nm:Str)(st:Stmt)(N ps:List Str):Prop:=∀{cc:Bool} {k:Nat} {sp:Sp} (len:∀vs H Q E,sp vs H Q E->vs.length=n) (body:∀(f:Addr) (cdv:Value) (A:Around) (outer:List Env) (s:Shared) (H:Hp) (vs:List V) (Q:VK) (E:XK),dZ cc k (A.deeper (envOfC nm (aa st) s.heap.objs.size f cdv))->sp vs H Q E->lz (w6 cc P w K mg base N nm (aa st) f cdv A outer s H E) (aq st) {nx:=λ_ H'=>Q .non H',rt:=Q} (start N vs) H),Def P w K mg base cc (k+1) nm ps sp
theorem Hz(T:Txt K mg):iZ P w K mg base 1 "check_of" gH zm ["text"]:= @λ_ _ _ len body=>aX T.rP wK (λ_ _ _ _ _ _ us hl=>by obtain⟨_,rfl⟩:=shp1 hl;rfl) len body
theorem zX(T:Txt K mg):iZ P w K mg base 1 "check_word" dY tu ["text"]:= @λ_ _ _ len body=>aX T.jn Am (λ_ _ _ _ _ _ us hl=>by obtain⟨_,rfl⟩:=shp1 hl;rfl) len body
theorem Ji(T:Txt K mg):iZ P w K mg base 2 "made_of" gJ BR ["text","signs"]:= @λ_ _ _ len body=>aX T.pK JC (λ_ _ _ _ _ _ us hl=>by obtain⟨_,_,rfl⟩:=shp2 hl;rfl) len body
theorem v9(T:Txt K mg):iZ P w K mg base 1 "is_text_value" cG mX ["value"]:= @λ_ _ _ len body=>aX T.iV uO (λ_ _ _ _ _ _ us hl=>by obtain⟨_,rfl⟩:=shp1 hl;rfl) len body
theorem Ad(T:Txt K mg):iZ P w K mg base 1 "value_word" eN tY ["value"]:= @λ_ _ _ len body=>aX T.lV Ae (λ_ _ _ _ _ _ us hl=>by obtain⟨_,rfl⟩:=shp1 hl;rfl) len body
theorem zN(T:Txt K mg):iZ P w K mg base 1 "are_figures" du pY ["word"]:= @λ_ _ _ len body=>aX T.lg yJ (λ_ _ _ _ _ _ us hl=>by obtain⟨_,rfl⟩:=shp1 hl;rfl) len body
theorem xP(T:Txt K mg):iZ P w K mg base 2 "read_figures" bN jH ["word","most"]:= @λ_ _ _ len body=>aX T.ir m5 (λ_ _ _ _ _ _ us hl=>by obtain⟨_,_,rfl⟩:=shp2 hl;rfl) len body
theorem pR(T:Txt K mg):iZ P w K mg base 1 "read_number_word" bA gD ["word"]:= @λ_ _ _ len body=>aX T.gF jh (λ_ _ _ _ _ _ us hl=>by obtain⟨_,rfl⟩:=shp1 hl;rfl) len body
theorem uw(T:Txt K mg):iZ P w K mg base 1 "read_text_word" bC iC ["word"]:= @λ_ _ _ len body=>aX T.iG jX (λ_ _ _ _ _ _ us hl=>by obtain⟨_,rfl⟩:=shp1 hl;rfl) len body
theorem z9(T:Txt K mg):iZ P w K mg base 2 "read_value" dR tG ["kind","word"]:= @λ_ _ _ len body=>aX T.jr Al (λ_ _ _ _ _ _ us hl=>by obtain⟨_,_,rfl⟩:=shp2 hl;rfl) len body
theorem yR(T:Txt K mg):iZ P w K mg base 2 "read_values" cO qj ["kinds","words"]:= @λ_ _ _ len body=>aX T.lr zK (λ_ _ _ _ _ _ us hl=>by obtain⟨_,_,rfl⟩:=shp2 hl;rfl) len body
theorem HB(T:Txt K mg):iZ P w K mg base 2 "place_of" gC yf ["columns","name"]:= @λ_ _ _ len body=>aX T.jL wJ (λ_ _ _ _ _ _ us hl=>by obtain⟨_,_,rfl⟩:=shp2 hl;rfl) len body
theorem Dc(T:Txt K mg):iZ P w K mg base 2 "row_words" dJ wB ["row","values"]:= @λ_ _ _ len body=>aX T.oh Eb (λ_ _ _ _ _ _ us hl=>by obtain⟨_,_,rfl⟩:=shp2 hl;rfl) len body
theorem qQ(T:Txt K mg):iZ P w K mg base 2 "read_order_word" bU jZ ["columns","word"]:= @λ_ _ _ len body=>aX T.iu jN (λ_ _ _ _ _ _ us hl=>by obtain⟨_,_,rfl⟩:=shp2 hl;rfl) len body
theorem Aa(T:Txt K mg):iZ P w K mg base 2 "read_order" bO jk ["columns","text"]:= @λ_ _ _ len body=>aX T.mH p7 (λ_ _ _ _ _ _ us hl=>by obtain⟨_,_,rfl⟩:=shp2 hl;rfl) len body
theorem Av(T:Txt K mg):iZ P w K mg base 1 "order_text" dj su ["order"]:= @λ_ _ _ len body=>aX T.mJ Ar (λ_ _ _ _ _ _ us hl=>by obtain⟨_,rfl⟩:=shp1 hl;rfl) len body
theorem KJ(T:Txt K mg):iZ P w K mg base 2 "word_at" dD pD ["words","place"]:= @λ_ _ _ len body=>aX T.ju KH (λ_ _ _ _ _ _ us hl=>by obtain⟨_,_,rfl⟩:=shp2 hl;rfl) len body
theorem xQ(T:Txt K mg):iZ P w K mg base 3 "text_between" cV nF ["words","start","behind"]:= @λ_ _ _ len body=>aX T.cW xJ (λ_ _ _ _ _ _ us hl=>by obtain⟨_,_,_,rfl⟩:=shp3 hl;rfl) len body
theorem zJ(T:Txt K mg):iZ P w K mg base 3 "read_column" dq pX ["columns","words","place"]:= @λ_ _ _ len body=>aX T.iJ oJ (λ_ _ _ _ _ _ us hl=>by obtain⟨_,_,_,rfl⟩:=shp3 hl;rfl) len body
theorem Ey(T:Txt K mg):iZ P w K mg base 3 "read_word" fG xq ["kind","words","place"]:= @λ_ _ _ len body=>aX T.oZ sE (λ_ _ _ _ _ _ us hl=>by obtain⟨_,_,_,rfl⟩:=shp3 hl;rfl) len body
theorem Ec(T:Txt K mg):iZ P w K mg base 3 "read_none" fW wL ["columns","words","start"]:= @λ_ _ _ len body=>aX T.nO uD (λ_ _ _ _ _ _ us hl=>by obtain⟨_,_,_,rfl⟩:=shp3 hl;rfl) len body
theorem uK(T:Txt K mg):iZ P w K mg base 3 "read_of_value" cI mU ["columns","words","start"]:= @λ_ _ _ len body=>aX T.jc lQ (λ_ _ _ _ _ _ us hl=>by obtain⟨_,_,_,rfl⟩:=shp3 hl;rfl) len body
theorem gQ(T:Txt K mg):iZ P w K mg base 4 "read_of_sieves" b8 lE ["columns","words","start","within"]:= @λ_ _ _ len body=>aX T.vy eY (λ_ _ _ _ _ _ us hl=>by obtain⟨_,_,_,_,rfl⟩:=shp4 hl;rfl) len body
theorem uh(T:Txt K mg):iZ P w K mg base 4 "read_part" fX xj ["columns","words","start","within"]:= @λ_ _ _ len body=>aX T.Hb mD (λ_ _ _ _ _ _ us hl=>by obtain⟨_,_,_,_,rfl⟩:=shp4 hl;rfl) len body
theorem Ay(T:Txt K mg):iZ P w K mg base 2 "read_sieve" d7 ur ["columns","text"]:= @λ_ _ _ len body=>aX T.CQ pW (λ_ _ _ _ _ _ us hl=>by obtain⟨_,_,rfl⟩:=shp2 hl;rfl) len body
theorem Hc(T:Txt K mg):iZ P w K mg base 1 "cut_text" dU qH ["cut"]:= @λ_ _ _ len body=>aX T.qC wV (λ_ _ _ _ _ _ us hl=>by obtain⟨_,rfl⟩:=shp1 hl;rfl) len body
theorem Ft(T:Txt K mg):iZ P w K mg base 1 "mark_text" fK wH ["mark"]:= @λ_ _ _ len body=>aX T.oM sS (λ_ _ _ _ _ _ us hl=>by obtain⟨_,rfl⟩:=shp1 hl;rfl) len body
theorem CV(T:Txt K mg):iZ P w K mg base 1 "read_make" fD xn ["letter"]:= @λ_ _ _ len body=>aX T.oF tR (λ_ _ _ _ _ _ us hl=>by obtain⟨_,rfl⟩:=shp1 hl;rfl) len body
theorem Ab(T:Txt K mg):iZ P w K mg base 2 "read_whole" d8 tQ ["word","most"]:= @λ_ _ _ len body=>aX T.ji qb (λ_ _ _ _ _ _ us hl=>by obtain⟨_,_,rfl⟩:=shp2 hl;rfl) len body
theorem Fz(T:Txt K mg):iZ P w K mg base 1 "read_side" fV wU ["sign"]:= @λ_ _ _ len body=>aX T.pq Dl (λ_ _ _ _ _ _ us hl=>by obtain⟨_,rfl⟩:=shp1 hl;rfl) len body
theorem GD(T:Txt K mg):iZ P w K mg base 3 "read_cut" fY zy ["columns","order","text"]:= @λ_ _ _ len body=>aX T.qX wO (λ_ _ _ _ _ _ us hl=>by obtain⟨_,_,_,rfl⟩:=shp3 hl;rfl) len body
theorem Dz(T:Txt K mg):iZ P w K mg base 2 "read_body" fJ wY ["columns","body"]:= @λ_ _ _ len body=>aX T.pA uG (λ_ _ _ _ _ _ us hl=>by obtain⟨_,_,rfl⟩:=shp2 hl;rfl) len body
theorem Du(T:Txt K mg):iZ P w K mg base 2 "read_mark" fB xm ["columns","text"]:= @λ_ _ _ len body=>aX T.oU tE (λ_ _ _ _ _ _ us hl=>by obtain⟨_,_,rfl⟩:=shp2 hl;rfl) len body
theorem Dm(T:Txt K mg):iZ P w K mg base 3 "_law_draw" gb wQ ["_law_script","_law_k","_law_many"]:= @λ_ _ _ len body=>aX T.cD uz (λ_ _ _ _ _ _ us hl=>by obtain⟨_,_,_,rfl⟩:=shp3 hl;rfl) len body
theorem xF(T:Txt K mg):iZ P w K mg base 3 "_law_columns" bF jE ["_law_script","_law_base","_law_most"]:= @λ_ _ _ len body=>aX T.jB mV (λ_ _ _ _ _ _ us hl=>by obtain⟨_,_,_,rfl⟩:=shp3 hl;rfl) len body
theorem Aj(T:Txt K mg):iZ P w K mg base 3 "_law_value" cB mR ["_law_script","_law_k","_law_kind"]:= @λ_ _ _ len body=>aX T.jl qd (λ_ _ _ _ _ _ us hl=>by obtain⟨_,_,_,rfl⟩:=shp3 hl;rfl) len body
theorem yL(T:Txt K mg):iZ P w K mg base 3 "_law_values" cQ qi ["_law_script","_law_k","_law_columns_here"]:= @λ_ _ _ len body=>aX T.km zu (λ_ _ _ _ _ _ us hl=>by obtain⟨_,_,_,rfl⟩:=shp3 hl;rfl) len body
theorem wj(T:Txt K mg):iZ P w K mg base 2 "_law_is_whole" cH m6 ["_law_found","_law_due"]:= @λ_ _ _ len body=>aX T.je vD (λ_ _ _ _ _ _ us hl=>by obtain⟨_,_,rfl⟩:=shp2 hl;rfl) len body
theorem Ek(T:Txt K mg):iZ P w K mg base 2 "_law_same" fH xr ["_law_found","_law_due"]:= @λ_ _ _ len body=>aX T.nZ sH (λ_ _ _ _ _ _ us hl=>by obtain⟨_,_,rfl⟩:=shp2 hl;rfl) len body
theorem Ba(T:Txt K mg):iZ P w K mg base 3 "_law_order" dh sX ["_law_script","_law_base","_law_columns_here"]:= @λ_ _ _ len body=>aX T.lX pZ (λ_ _ _ _ _ _ us hl=>by obtain⟨_,_,_,rfl⟩:=shp3 hl;rfl) len body
theorem Ht(T:Txt K mg):iZ P w K mg base 4 "_law_key" dX yC ["_law_columns_here","_law_order_here","_law_row","_law_values_here"]:= @λ_ _ _ len body=>aX T.qy wF (λ_ _ _ _ _ _ us hl=>by obtain⟨_,_,_,_,rfl⟩:=shp4 hl;rfl) len body
theorem Ej(T:Txt K mg):iZ P w K mg base 1 "_law_word" fQ wR ["_law_value_here"]:= @λ_ _ _ len body=>aX T.jV Fx (λ_ _ _ _ _ _ us hl=>by obtain⟨_,rfl⟩:=shp1 hl;rfl) len body
theorem FQ(T:Txt K mg):iZ P w K mg base 3 "_law_look" dg nY ["_law_script","_law_base","_law_columns_here"]:= @λ_ _ _ len body=>aX T.oO uv (λ_ _ _ _ _ _ us hl=>by obtain⟨_,_,_,rfl⟩:=shp3 hl;rfl) len body
theorem Ah(T:Txt K mg):iZ P w K mg base 3 "_law_sieve" dO sI ["_law_script","_law_base","_law_columns_here"]:= @λ_ _ _ len body=>aX T.mq p6 (λ_ _ _ _ _ _ us hl=>by obtain⟨_,_,_,rfl⟩:=shp3 hl;rfl) len body
theorem DY(T:Txt K mg):iZ P w K mg base 3 "_law_mark" fM wZ ["_law_script","_law_base","_law_columns_here"]:= @λ_ _ _ len body=>aX T.oN sV (λ_ _ _ _ _ _ us hl=>by obtain⟨_,_,_,rfl⟩:=shp3 hl;rfl) len body
theorem tW(T:Txt K mg):iZ P w K mg base 3 "_law_long_look" bH lJ ["_law_script","_law_base","_law_columns_here"]:= @λ_ _ _ len body=>aX T.iB j6 (λ_ _ _ _ _ _ us hl=>by obtain⟨_,_,_,rfl⟩:=shp3 hl;rfl) len body
theorem rW(T:Txt K mg):iZ P w K mg base 3 "_law_long_sieve" bL jU ["_law_script","_law_base","_law_columns_here"]:= @λ_ _ _ len body=>aX T.il jF (λ_ _ _ _ _ _ us hl=>by obtain⟨_,_,_,rfl⟩:=shp3 hl;rfl) len body
theorem Dn(T:Txt K mg):iZ P w K mg base 1 "_law_body" cP iT ["_law_mark_here"]:= @λ_ _ _ len body=>aX T.nW ue (λ_ _ _ _ _ _ us hl=>by obtain⟨_,rfl⟩:=shp1 hl;rfl) len body
theorem xR(T:Txt K mg):iZ P w K mg base 1 "_law_checked" cT oG ["_law_body_here"]:= @λ_ _ _ len body=>aX T.jK mW (λ_ _ _ _ _ _ us hl=>by obtain⟨_,rfl⟩:=shp1 hl;rfl) len body
theorem rT(T:Txt K mg):iZ P w K mg base 2 "_law_read_right" bM j9 ["_law_found","_law_mark_here"]:= @λ_ _ _ len body=>aX T.gZ jD (λ_ _ _ _ _ _ us hl=>by obtain⟨_,_,rfl⟩:=shp2 hl;rfl) len body
theorem CN(T:Txt K mg):iZ P w K mg base 1 "_law_kept" fZ xf ["_law_mark_here"]:= @λ_ _ _ len body=>aX T.oW tZ (λ_ _ _ _ _ _ us hl=>by obtain⟨_,rfl⟩:=shp1 hl;rfl) len body
theorem rY{cc:Bool}{k:Nat}{sp:Sp}(len:∀vs H Q E,sp vs H Q E->vs.length=2)(body:∀(f:Addr) (cdv:Value) (A:Around) (outer:List Env) (s:Shared) (H:Hp) (vs:List V) (Q:VK) (E:XK),dZ cc k (A.deeper (envOfC "Sieve.__init__" (aa aP) s.heap.objs.size f cdv))->sp vs H Q E->lz (w6 cc P w K mg base iH "Sieve.__init__" (aa aP) f cdv A outer s H E) (aq aP) {nx:=λ_ H'=>Q .non H',rt:=Q} (start iH vs) H):FD P w K mg base cc (k+1) "__init__" "Sieve.__init__" aP ["self","text"] sp:=BV sZ (λ_ _ _ _ _ _ us hl=>by obtain⟨_,_,rfl⟩:=shp2 hl;rfl) len body
theorem zU{cc:Bool}{k:Nat}{sp:Sp}(len:∀vs H Q E,sp vs H Q E->vs.length=1)(body:∀(f:Addr) (cdv:Value) (A:Around) (outer:List Env) (s:Shared) (H:Hp) (vs:List V) (Q:VK) (E:XK),dZ cc k (A.deeper (envOfC "Sieve.shown" (aa aH) s.heap.objs.size f cdv))->sp vs H Q E->lz (w6 cc P w K mg base kJ "Sieve.shown" (aa aH) f cdv A outer s H E) (aq aH) {nx:=λ_ H'=>Q .non H',rt:=Q} (start kJ vs) H):FD P w K mg base cc (k+1) "shown" "Sieve.shown" aH ["self"] sp:=BV yx (λ_ _ _ _ _ _ us hl=>by obtain⟨_,rfl⟩:=shp1 hl;rfl) len body
theorem nq{cc:Bool}{k:Nat}{sp:Sp}(len:∀vs H Q E,sp vs H Q E->vs.length=3)(body:∀(f:Addr) (cdv:Value) (A:Around) (outer:List Env) (s:Shared) (H:Hp) (vs:List V) (Q:VK) (E:XK),dZ cc k (A.deeper (envOfC "NoneSieve.__init__" (aa aR) s.heap.objs.size f cdv))->sp vs H Q E->lz (w6 cc P w K mg base fU "NoneSieve.__init__" (aa aR) f cdv A outer s H E) (aq aR) {nx:=λ_ H'=>Q .non H',rt:=Q} (start fU vs) H):FD P w K mg base cc (k+1) "__init__" "NoneSieve.__init__" aR ["self","text","place"] sp:=BV nu (λ_ _ _ _ _ _ us hl=>by obtain⟨_,_,_,rfl⟩:=shp3 hl;rfl) len body
theorem mC{cc:Bool}{k:Nat}{sp:Sp}(len:∀vs H Q E,sp vs H Q E->vs.length=4)(body:∀(f:Addr) (cdv:Value) (A:Around) (outer:List Env) (s:Shared) (H:Hp) (vs:List V) (Q:VK) (E:XK),dZ cc k (A.deeper (envOfC "ValueSieve.__init__" (aa aG) s.heap.objs.size f cdv))->sp vs H Q E->lz (w6 cc P w K mg base eX "ValueSieve.__init__" (aa aG) f cdv A outer s H E) (aq aG) {nx:=λ_ H'=>Q .non H',rt:=Q} (start eX vs) H):FD P w K mg base cc (k+1) "__init__" "ValueSieve.__init__" aG ["self","text","place","value"] sp:=BV lW (λ_ _ _ _ _ _ us hl=>by obtain⟨_,_,_,_,rfl⟩:=shp4 hl;rfl) len body
theorem ph{cc:Bool}{k:Nat}{sp:Sp}(len:∀vs H Q E,sp vs H Q E->vs.length=3)(body:∀(f:Addr) (cdv:Value) (A:Around) (outer:List Env) (s:Shared) (H:Hp) (vs:List V) (Q:VK) (E:XK),dZ cc k (A.deeper (envOfC "NotSieve.__init__" (aa aY) s.heap.objs.size f cdv))->sp vs H Q E->lz (w6 cc P w K mg base gq "NotSieve.__init__" (aa aY) f cdv A outer s H E) (aq aY) {nx:=λ_ H'=>Q .non H',rt:=Q} (start gq vs) H):FD P w K mg base cc (k+1) "__init__" "NotSieve.__init__" aY ["self","text","one"] sp:=BV oA (λ_ _ _ _ _ _ us hl=>by obtain⟨_,_,_,rfl⟩:=shp3 hl;rfl) len body
theorem nA{cc:Bool}{k:Nat}{sp:Sp}(len:∀vs H Q E,sp vs H Q E->vs.length=4)(body:∀(f:Addr) (cdv:Value) (A:Around) (outer:List Env) (s:Shared) (H:Hp) (vs:List V) (Q:VK) (E:XK),dZ cc k (A.deeper (envOfC "PairSieve.__init__" (aa aO) s.heap.objs.size f cdv))->sp vs H Q E->lz (w6 cc P w K mg base fL "PairSieve.__init__" (aa aO) f cdv A outer s H E) (aq aO) {nx:=λ_ H'=>Q .non H',rt:=Q} (start fL vs) H):FD P w K mg base cc (k+1) "__init__" "PairSieve.__init__" aO ["self","text","one","other"] sp:=BV ni (λ_ _ _ _ _ _ us hl=>by obtain⟨_,_,_,_,rfl⟩:=shp4 hl;rfl) len body
theorem Bl(T:Txt K mg){cc:Bool}:aeO P w K mg base cc 1 "NoSieve" "at":=by
 refine Ww T.pC JQ (λ_ _ _ _ _ _ us hl=>by obtain⟨_,_,rfl⟩:=shp2 hl;rfl) rfl (λf cdv A outer s H vs Q E hi hr h=>?_)
 obtain⟨e,n,rfl,hn,he,q⟩:=h
 have hsz:sizeLine=16777216:=sizeLine_eq
 refine aj (gB (by rfl) ?_)
 refine Xg (pl:=_) T.G9.toXBase (by rfl) (by decide) (by rfl) (by rfl) (by rfl) ?_
 walk_at "go"
 refine Xh ?_
 walk_at "e"
 refine⟨n,rfl,Vl.jQ hn,_,70,rfl,Vl.Xc hn,by omega,?_⟩
 walk_at "go"
 intro zz
 refine kZ (abv hi he ?_)
 refine aA (W3 T.pC.sa T.pC.xc T.pC.tk (by rfl) ?_)
 walk_at "e"
 walk_at "e"
 refine⟨e,rfl,he,λD hD hDe=>q D _ hDe hD (λb o hb r=>?_) ak ?_⟩
 .rw[az hb,az (au r hD)]
  exact r
 .rw[az hDe,ak]
end
end K37
namespace K37
open PySem L2 PyProof.Rows My Vl Lw
section
variable{P:Program}{w:World}{K:W.Frag}{mg:Str->Option Value}{base:Heap}
def nJ(K:W.Frag)(mg:Str->Option Value):Sp:=λvs H Q E=>∃(a:Addr) (ws:List Str) (p:Nat),vs=[.ref a,.int p]/\bc K H a (ws.map V.str)/\ws.length≤4000/\p≤100000/\
 (¬(p<ws.length/\p<60)->∀e H',ao H H'->H' e=some (.xd [("at",.int p)])->E (.ref (aD mg "NoSieve")) (some e,true) H')/\∀z,ws[p]? =some z->p<60->Q (.str z) H
theorem ju(T:Txt K mg):Def P w K mg base true 3 "word_at" ["words","place"] (nJ K mg):=by
 refine KJ T (λvs H Q E h=>by obtain⟨a,ws,p,rfl,_⟩:=h;rfl) (λf cdv A outer s H vs Q E hr h=>?_)
 obtain⟨a,ws,p,rfl,hS,hl,hp,bad,q⟩:=h
 have n1:=T.jC
 have g1:=T.DK
 have zY:(ws.map V.str).length=ws.length:=List.length_map ..
 have rest:¬(p<ws.length/\p<60)->lz (w6 true P w K mg base pD "word_at" (aa dD) f cdv A outer s H E) [OD (abd (OD (aq dD) 0)) 0] {nx:=λσ' H'=>lz (w6 true P w K mg base pD "word_at" (aa dD) f cdv A outer s H E) ((aq dD).drop 1) {nx:=λ_ H'=>Q .non H',rt:=Q} σ' H',rt:=Q} [some (.ref a),some (.int p)] H:=by
  intro hb
  refine aA (Bo (Bl T (cc:=true)) hr (by decide) (λ_=>rfl) cN (by rfl) (by rfl) (by decide) (by rfl) (by rfl) ?_)
  walk_at "go"
  exact⟨p,rfl,by omega,λe H' sm he=>bad hb e H' sm he⟩
 refine aj ?_
 walk_at "go"
 rw[zY]
 refine gm (λh=>?_) (λh=>?_)
 .exact rest (by omega)
 .walk_at "go"
  refine gm (λh2=>?_) (λh2=>?_)
  .exact rest (by omega)
  .walk_at "go"
   have hlt:p<ws.length:=by omega
   have hg:ws[p]? =some ws[p]:=List.getElem?_eq_getElem hlt
   refine aQ hS (bz (by rw[List.getElem?_map,hg];rfl)) ?_
   exact q _ hg (by omega)
def lO(ws:List Str)(s b:Nat):Str:=Str.join " " ((ws.drop s).take (b-s))
def vL(K:W.Frag):Sp:=λvs H Q _=>∃(a:Addr) (ws:List Str) (s b:Nat),vs=[.ref a,.int s,.int b]/\bc K H a (ws.map V.str)/\ws.length≤4000/\(∀z∈ws,z.length≤1000)/\s≤b/\b≤ws.length/\∀H',ao H H'->Q (.str (lO ws s b)) H'
theorem K9:∀{l:List Str},(∀z∈l,z.length≤1000)->(l.map (·.length)).sum≤l.length*1000
 |[],_=>by simp
 |z::l,h=>by
  have h1:=K9 (l:=l) λy hy=>h y (by simp[hy])
  have h2:=h z (by simp)
  simp only[List.map_cons,List.sum_cons,List.length_cons]
  omega
theorem cW(T:Txt K mg):Def P w K mg base true 1 "text_between" ["words","start","behind"] (vL K):=by
 refine xQ T (λvs H Q E h=>by obtain⟨a,ws,s,b,rfl,_⟩:=h;rfl) (λf cdv A outer s H vs Q E hr h=>?_)
 obtain⟨a,ws,i,j,rfl,hS,hl,hz,hij,hj,q⟩:=h
 have lb:(Str.ofString " ").length=1:=by decide+kernel
 have hsz:sizeLine=16777216:=sizeLine_eq
 refine aA (bj ?_)
 walk_at "go"
 refine S7 hS λp hp=>?_
 have e:uW (ws.map V.str) (some (i:Int)) (some (j:Int))=((ws.drop i).take (j-i)).map V.str:=by
  unfold uW
  have zY:(ws.map V.str).length=ws.length:=List.length_map ..
  have e1:HT.dI (ws.map V.str).length 0 (some (i:Int))=i:=by
   rw[zY]
   unfold HT.dI
   split
   .rename_i h;cases h
   .rename_i h
    cases h
    rw[if_neg (by omega)]
    omega
  have e2:HT.dI (ws.map V.str).length (ws.map V.str).length (some (j:Int))=j:=by
   rw[zY]
   unfold HT.dI
   split
   .rename_i h;cases h
   .rename_i h
    cases h
    rw[if_neg (by omega)]
    omega
  rw[e1,e2, <-List.map_drop, <-List.map_take]
 rw[e]
 have sm:ao H (upd H p (.lst (((ws.drop i).take (j-i)).map V.str))):=ao.upd hp
 have ep:(upd H p (.lst (((ws.drop i).take (j-i)).map V.str))) p=some (.lst (((ws.drop i).take (j-i)).map V.str)):=ak
 generalize upd H p (.lst (((ws.drop i).take (j-i)).map V.str))=H2 at sm ep⊢
 walk_at "go"
 refine oR (bc.of ep) ?_ (q H2 sm)
 have h1:=K9 (l:=(ws.drop i).take (j-i)) λz h=>hz z (List.mem_of_mem_drop (List.mem_of_mem_take h))
 have h2:((ws.drop i).take (j-i)).length≤4000:=by
  rw[List.length_take,List.length_drop]
  omega
 rw[lb]
 omega
theorem HQ{cs:List bK}{z:Str}:∀{i:Nat} {c:bK} (j:Nat),cs[i]? =some c->(∀k c,k<i->cs[k]? =some c->¬c.1=z)->c.1=z->jb cs z j= .int ((j+i:Nat):Int):=by
 induction cs with
 |nil=>intro i c j e;simp at e
 |cons d r ih=>
  intro i c j e h hz
  unfold jb
  cases i with
  |zero=>
   simp at e
   subst e
   rw[if_pos hz]
   rfl
  |succ i=>
   rw[if_neg (h 0 d (by omega) rfl)]
   rw[ih (j+1) (by simpa using e) (λk c hk e'=>h (k+1) c (by omega) (by simpa using e')) hz]
   congr 2
   omega
theorem wN{cs:List bK}{z:Str}:∀(j:Nat),(∀c∈cs,¬c.1=z)->jb cs z j= .non:=by
 induction cs with
 |nil=>intro j h;rfl
 |cons d r ih=>
  intro j h
  unfold jb
  rw[if_neg (h d (by simp)),ih (j+1) λc hc=>h c (by simp[hc])]
theorem jL(T:Txt K mg):Def P w K mg base true 1 "place_of" ["columns","name"] xX:=by
 refine HB T (λvs H Q E h=>by obtain⟨a,cs,z,rfl,_⟩:=h;rfl) (λf cdv A outer s H vs Q E hr h=>?_)
 obtain⟨a,cs,z,rfl,⟨vs,ha,hvs⟩,q⟩:=h
 have n1:=T.HF
 have nd:=wJ.nd
 refine aj ?_
 refine Vn (by walk_at "po") (by rfl) (by rfl) n1 (by rfl) ?_
 walk_at "go"
 refine⟨a,vs,rfl,ha,λi σ H'=>(∃o1 o2,σ=[some (.ref a),some (.str z),o1,o2])/\ao H H'/\∀k c,k<i->cs[k]? =some c->¬c.1=z,⟨⟨none,none,rfl⟩,ao.refl _,λk c hk=>by omega⟩,λi σ H' hi hP=>.inl (.inl (hP.2.1 _ _ ha)),λi x T' σ H' hx hP hT=>?_,λσ H' hP=>?_⟩
 .obtain⟨⟨o1,o2,rfl⟩,sm,hn⟩:=hP
  obtain⟨c,hc,t,rfl,ht⟩:=hvs.get hx
  have iw:=sm.trans (ao.upd (o:=.tup [.int i,.ref t]) hT)
  have eT:(upd H' T' (.tup [.int i,.ref t])) T'=some (.tup [.int i,.ref t]):=ak
  generalize upd H' T' (.tup [.int i,.ref t])=H2 at iw eT⊢
  refine eO (by rfl) (by rfl) (by rfl) (cA.of eT) (by rfl) (aN (by rfl) (aJ nd (by rfl) (.inl rfl) (.inl rfl) (aN (by rfl) (aJ nd (by rfl) (.inl rfl) (.inl rfl) (cM ?_)))))
  refine aA ?_
  walk_at "go"
  refine bx (cA.of (iw _ _ ht)) (show n8 [V.str c.1,V.str c.2] 0=some (V.str c.1)from rfl) ?_
  walk_at "go"
  refine gm (λh=>?_) (λh=>?_)
  .have hz:c.1=z:=by injection h
   walk_at "go"
   have :=HQ 0 hc hn hz
   rw[Nat.zero_add]at this
   rw[<-this]
   exact q H2 iw
  .have hz:¬c.1=z:=λe=>h (by rw[e])
   walk_at "go"
   refine⟨⟨_,_,rfl⟩,iw,λk d hk hd=>?_⟩
   by_cases e:k=i
   .subst e
    rw[hc]at hd
    cases hd
    exact hz
   .exact hn k d (by omega) hd
 .obtain⟨⟨o1,o2,rfl⟩,sm,hn⟩:=hP
  refine aA ?_
  walk_at "go"
  have :=wN (cs:=cs) (z:=z) 0 λc hc=>by
   obtain⟨k,hk,e⟩:=List.getElem_of_mem hc
   exact hn k c (by rw[hvs.len];exact hk) (by rw[<-e];exact List.getElem?_eq_getElem hk)
  rw[<-this]
  exact q H' sm
def lA(cs:List bK)(ws:List Str)(p:Nat):Option Nat:=if p<60 then match ws[p]? with
 |none=>none
 |some z=>if cs.any (λc=>decide (c.1=z))=true then some (bW cs z)else none
 else none
def Ep(K:W.Frag)(mg:Str->Option Value):Sp:=λvs H Q E=>∃(b:Addr) (cs:List bK) (a:Addr) (ws:List Str) (p:Nat),vs=[.ref b,.ref a,.int p]/\gO H b cs/\bc K H a (ws.map V.str)/\ws.length≤4000/\p≤100000/\
 (lA cs ws p=none->∀e H',ao H H'->H' e=some (.xd [("at",.int p)])->E (.ref (aD mg "NoSieve")) (some e,true) H')/\∀i H',ao H H'->lA cs ws p=some i->Q (.int (i:Nat)) H'
theorem iJ(T:Txt K mg):Def P w K mg base true 4 "read_column" ["columns","words","place"] (Ep K mg):=by
 refine zJ T (λvs H Q E h=>by obtain⟨b,cs,a,ws,p,rfl,_⟩:=h;rfl) (λf cdv A outer s H vs Q E hr h=>?_)
 obtain⟨b,cs,a,ws,p,rfl,hC,hS,hl,hp,bad,q⟩:=h
 have nd:=oJ.nd
 have D1:Def P w K mg base true 1 "place_of" ["columns","name"] xX:=jL T
 have D2:Def P w K mg base true 3 "word_at" ["words","place"] (nJ K mg):=ju T
 refine aj ?_
 walk_at "go"
 refine⟨a,ws,p,rfl,hS,hl,hp,λhb e H' sm he=>bad ?_ e H' sm he,λz hz h60=>?_⟩
 .unfold lA
  by_cases h60:p<60
  .rw[if_pos h60,List.getElem?_eq_none (by omega)]
  .rw[if_neg h60]
 .walk_at "go"
  refine⟨b,cs,z,rfl,hC,λH2 sm=>?_⟩
  by_cases hin:∃c∈cs,c.1=z
  .have e:lA cs ws p=some (bW cs z):=by
    unfold lA
    rw[if_pos h60,hz]
    exact if_pos (by rw[List.any_eq_true];obtain⟨c,hc,e⟩:=hin;exact⟨c,hc,decide_eq_true e⟩)
   rw[yj 0 hin,Nat.zero_add]
   walk_at "go"
   exact q _ H2 sm e
  .have e:lA cs ws p=none:=by
    unfold lA
    rw[if_pos h60,hz]
    exact if_neg (by rw[List.any_eq_true];rintro⟨c,hc,e⟩;exact hin ⟨c,hc,of_decide_eq_true e⟩)
   rw[wN 0 λc hc e=>hin ⟨c,hc,e⟩]
   refine aj ?_
   walk_at "go"
   refine Bo (Bl T (cc:=true)) hr (by decide) (λ_=>rfl) cN (by rfl) (by rfl) (by decide) (by rfl) (by rfl) ?_
   walk_at "go"
   exact⟨p,rfl,by omega,λe' H' sm' he=>bad e e' H' (sm.trans sm') he⟩
def Bt(K:W.Frag):Sp:=λvs H Q _=>∃(a C dx:Addr) (fs:List (Str×V)) (z:Str),vs=[.ref a,.str z]/\H a=some (.ins C dx fs)/\pJ K C/\aU K C "text"/\fs.length<900/\Q .non (upd H a (.ins C dx (gk "text" (.str z) fs)))
theorem gP{cc:Bool}:FD P w K mg base cc 1 "__init__" "Sieve.__init__" aP ["self","text"] (Bt K):=by
 refine rY (λvs H Q E h=>by obtain⟨a,C,dx,fs,z,rfl,_⟩:=h;rfl) (λf cdv A outer s H vs Q E hr h=>?_)
 obtain⟨a,C,dx,fs,z,rfl,ha,hc,hn,hl,q⟩:=h
 refine aA (mK (by rfl) ?_)
 walk_at "e"
 walk_at "e"
 exact⟨a,C,dx,fs,rfl,ha,hc,hn,by omega,q⟩
def X8(K:W.Frag):Sp:=λvs H Q _=>∃(a C dx:Addr) (fs:List (Str×V)) (z:Str) (p:V),vs=[.ref a,.str z,p]/\H a=some (.ins C dx fs)/\pJ K C/\aU K C "text"/\aU K C "place"/\fs.length<800/\
 Q .non (upd (upd H a (.ins C dx (gk "text" (.str z) fs))) a (.ins C dx (gk "place" p (gk "text" (.str z) fs))))
theorem uN(T:Txt K mg){cc:Bool}:FD P w K mg base cc 2 "__init__" "NoneSieve.__init__" aR ["self","text","place"] (X8 K):=by
 refine nq (λvs H Q E h=>by obtain⟨a,C,dx,fs,z,p,rfl,_⟩:=h;rfl) (λf cdv A outer s H vs Q E hr h=>?_)
 obtain⟨a,C,dx,fs,z,p,rfl,ha,hc,hn,hn2,hl,q⟩:=h
 have B:O8 P w K mg base cc 1 "Sieve" "__init__" ["self","text"] (Bt K):=gP.asked T.xW T.fc
 have hz:=dM "text" (V.str z) fs
 refine aj (gB (by rfl) ?_)
 refine tO (pl:=_) B hr (by decide) id cN (by rfl) (by decide) (by rfl) (by rfl) (by rfl) ?_
 walk_at "go"
 refine⟨a,C,dx,fs,z,rfl,ha,hc,hn,by omega,?_⟩
 refine aA (mK (by rfl) ?_)
 walk_at "e"
 walk_at "e"
 exact⟨a,C,dx,_,rfl,ak,hc,hn2,by omega,q⟩
def Gy(K:W.Frag):Sp:=λvs H Q _=>∃(a C dx:Addr) (fs:List (Str×V)) (z:Str) (p v:V),vs=[.ref a,.str z,p,v]/\H a=some (.ins C dx fs)/\pJ K C/\aU K C "text"/\aU K C "place"/\aU K C "value"/\fs.length<800/\
 ∀H',H' a=some (.ins C dx (gk "value" v (gk "place" p (gk "text" (.str z) fs))))->(∀b o,b≠a->H b=some o->H' b=some o)->Q .non H'
theorem eZ(T:Txt K mg){cc:Bool}:FD P w K mg base cc 2 "__init__" "ValueSieve.__init__" aG ["self","text","place","value"] (Gy K):=by
 refine mC (λvs H Q E h=>by obtain⟨a,C,dx,fs,z,p,v,rfl,_⟩:=h;rfl) (λf cdv A outer s H vs Q E hr h=>?_)
 obtain⟨a,C,dx,fs,z,p,v,rfl,ha,hc,hn,hn2,hn3,hl,q⟩:=h
 have B:O8 P w K mg base cc 1 "Sieve" "__init__" ["self","text"] (Bt K):=gP.asked T.xW T.fc
 have hz:=dM "text" (V.str z) fs
 have hz2:=dM "place" p (gk "text" (V.str z) fs)
 refine aj (gB (by rfl) ?_)
 refine tO (pl:=_) B hr (by decide) id cN (by rfl) (by decide) (by rfl) (by rfl) (by rfl) ?_
 walk_at "go"
 refine⟨a,C,dx,fs,z,rfl,ha,hc,hn,by omega,?_⟩
 refine aj (mK (by rfl) ?_)
 walk_at "e"
 walk_at "e"
 refine⟨a,C,dx,_,rfl,ak,hc,hn2,by omega,?_⟩
 refine aA (mK (by rfl) ?_)
 walk_at "e"
 walk_at "e"
 refine⟨a,C,dx,_,rfl,ak,hc,hn3,by omega,q _ ak λb o hb e=>?_⟩
 rw[az hb,az hb,az hb]
 exact e
inductive Lk |is |under |over |holds
abbrev F3(z:Str)(p:Nat)(v:V):List (Str×V):=[("text",.str z),("place",.int p),("value",v)]
theorem pK(T:Txt K mg):Def P w K mg base true 1 "made_of" ["text","signs"] Jz:=by
 refine Ji T (λvs H Q E h=>by obtain⟨z,g,rfl,_⟩:=h;rfl) (λf cdv A outer s H vs Q E hr h=>?_)
 obtain⟨z,g,rfl,hz,q⟩:=h
 have n1:=T.agl
 refine aA (bj ?_)
 walk_at "e"
 walk_at "e"
 refine U3 ["sign","signs"] (σ':=[none,some (.str g)]) (by rfl) (by rfl) (b7 (aa gJ) (by rfl) (by rfl) (by decide+kernel)) (by decide+kernel) (by rfl) (by rfl) (by intro _;rfl) ?_
 walk_at "e"
 refine⟨z,rfl,?_,λi v=>∃c,z.cps.toList[i]? =some c/\v= .bl (decide (c∈g.cps.toList)),λfp E' C s3 H0 i c H2 hc sm=>?_,λE' H2 xs hE hl hx e2 sm=>?_⟩
 .have :z.cps.size=z.length:=rfl
  have h2:sizeLine=16777216:=sizeLine_eq
  omega
 .walk_at "go"
  exact⟨⟨c,hc,by rw[StrLaws.found_one]⟩,ao.refl _⟩
 .have ex:=dw (ys:=z.cps.toList) (λc=>V.bl (decide (c∈g.cps.toList))) (by rw[hl];simp) hx
  have ex2:xs=(z.cps.toList.map λc=>decide (c∈g.cps.toList)).map V.bl:=by rw[ex,List.map_map];rfl
  subst ex2
  walk_at "go"
  refine ajA (by rfl) (bc.of e2) ?_
  have e3:(z.cps.toList.map λc=>decide (c∈g.cps.toList)).all id=iz z g:=by rw[List.all_map];rfl
  rw[e3]
  exact q _ sm
theorem iV(T:Txt K mg):Def P w K mg base true 2 "is_text_value" ["value"] Yn:=by
 refine v9 T (λvs H Q E h=>by obtain⟨z,rfl,_⟩:=h;rfl) (λf cdv A outer s H vs Q E hr h=>?_)
 obtain⟨v,rfl,hs,hz,q⟩:=h
 have g1:=T.Pa
 have g2:=T.Fb
 have n1:=T.eF
 have n2:=T.nM
 have n3:=T.jC
 have D1:Def P w K mg base true 1 "made_of" ["text","signs"] Jz:=pK T
 have hsz:sizeLine=16777216:=sizeLine_eq
 refine aA (bj ?_)
 cases v with
 |int i=>
  walk_at "go"
  exact q H (ao.refl _)
 |non=>
  walk_at "go"
  exact q H (ao.refl _)
 |str z=>
  have hz':z.length≤4000:=hz
  walk_at "go"
  refine gm (λh=>?_) (λh=>?_)
  .walk_at "go"
   refine⟨z,_,rfl,hz',λH' sm=>?_⟩
   have e:xu (.str z)=iz z R9:=by
    have h':z.length≤20:=by omega
    unfold xu
    simp[h']
   rw[e]at q
   exact q H' sm
  .have e:xu (.str z)=false:=by
    have h':¬z.length≤20:=by omega
    unfold xu
    simp[h']
   rw[e]at q
   exact q H (ao.refl _)
 |_=>cases hs
theorem lg(T:Txt K mg):Def P w K mg base true 2 "are_figures" ["word"] Yk:=by
 refine zN T (λvs H Q E h=>by obtain⟨v,rfl,_⟩:=h;rfl) (λf cdv A outer s H vs Q E hr h=>?_)
 obtain⟨z,rfl,hz,q⟩:=h
 have g1:=T.Oc
 have D1:Def P w K mg base true 1 "made_of" ["text","signs"] Jz:=pK T
 have hsz:sizeLine=16777216:=sizeLine_eq
 have e0:(Str.ofString "0").cps.toList=[48]:=by decide+kernel
 have e1:(Str.ofString "").cps.toList=[]:=by decide+kernel
 unfold gn at q
 refine aA (bj ?_)
 walk_at "go"
 refine gm (λh=>?_) (λh=>?_)
 .have h':z.cps.toList=[48]:=by cases h;exact e0
  rw[h']at q
  exact q H (ao.refl _)
 .have h':¬z.cps.toList=[48]:=λh2=>h (by rw[bQ (h2.trans e0.symm)])
  rw[decide_eq_false h',Bool.false_or]at q
  walk_at "go"
  refine Hg (λh2=>?_) (λh2=>?_)
  .have h2':z.cps.toList≠[]:=λh3=>h2 (by rw[bQ (h3.trans e1.symm)])
   rw[decide_eq_true h2',Bool.true_and]at q
   obtain⟨c,r,hc⟩:=List.exists_cons_of_ne_nil h2'
   have hc0:z.cps.toList[0]? =some c:=by rw[hc];rfl
   walk_at "go"
   refine xg (by omega) (bz (j:=0) hc0) ?_
   walk_at "go"
   rw[hc0]at q
   refine Hg (λh3=>?_) (λh3=>?_)
   .have h3':some c≠some 48:=λh4=>h3 (by cases h4;exact congrArg V.str (bQ e0.symm))
    rw[decide_eq_true h3',Bool.true_and]at q
    walk_at "go"
    refine⟨z,_,rfl,hz,λH' sm=>?_⟩
    rw[O1]
    exact q H' sm
   .have h3':¬(some c≠some 48):=λh4=>h4 (by
     have :=congrArg (λv:V=>match v with | .str x=>x.cps.toList |_=>[]) h3
     have h5:[c]=(Str.ofString "0").cps.toList:=this
     rw[e0]at h5
     cases h5
     rfl)
    rw[decide_eq_false h3',Bool.false_and]at q
    exact q H (ao.refl _)
  .have h2':¬z.cps.toList≠[]:=λh3=>h3 (by cases h2;exact e1)
   rw[decide_eq_false h2',Bool.false_and]at q
   exact q H (ao.refl _)
theorem ir(T:Txt K mg):Def P w K mg base true 3 "read_figures" ["word","most"] Eh:=by
 refine xP T (λvs H Q E h=>by obtain⟨z,m,k,rfl,_⟩:=h;rfl) (λf cdv A outer s H vs Q E hr h=>?_)
 obtain⟨z,m,k,rfl,hz,m0,m1,hk,hmk,k1,k2,q⟩:=h
 have n1:=T.jC
 have n2:=T.nM
 have n3:=T.SJ
 have nd:=m5.nd
 have D1:Def P w K mg base true 2 "are_figures" ["word"] Yk:=lg T
 have hsz:sizeLine=16777216:=sizeLine_eq
 have hl:=L2.len_list z
 have out:∀(H1:Hp) (o:Option V),ao H H1->xO z.cps.toList m=none->lz (w6 true P w K mg base jH "read_figures" (aa bN) f cdv A outer s H E) ((aq bN).drop 1) {nx:=λ_ H'=>Q .non H',rt:=Q} [some (.str z),some (.int m),o] H1:=by
  intro H1 o sm e
  have q1:=q H1 sm
  rw[e]at q1
  refine aA ?_
  walk_at "go"
  exact q1
 refine aj ?_
 walk_at "go"
 refine⟨z,rfl,hz,λH1 gh=>?_⟩
 walk_at "go"
 refine ifB (λh1=>?_) (λh1=>?_)
 .walk_at "go"
  refine lu (jQ m1) ?_
  walk_at "go"
  rw[hk]
  refine gm (λh2=>?_) (λh2=>?_)
  .walk_at "go"
   obtain⟨hd,hne⟩:=qg h1
   refine Zd (intText_digits hd hne (by omega)) (by omega) ?_
   walk_at "go"
   refine gm (λh3=>?_) (λh3=>?_)
   .have q1:=q H1 gh
    have e:xO z.cps.toList m=some _:=if_pos ⟨h1,h3⟩
    rw[e]at q1
    walk_at "go"
    exact q1
   .exact aM (out H1 _ gh (if_neg λx=>h3 x.2))
  .refine aM (out H1 _ gh (if_neg λx=>h2 ?_))
   have :=DQ x.1 x.2 hmk k1
   omega
 .exact aM (out H1 _ gh (if_neg λx=>by rw[h1]at x;exact Bool.false_ne_true x.1))
theorem gF(T:Txt K mg):Def P w K mg base true 4 "read_number_word" ["word"] (M5 (.ref (aD mg "NoValue"))):=by
 refine pR T (λvs H Q E h=>by obtain⟨v,rfl,_⟩:=h;rfl) (λf cdv A outer s H vs Q E hr h=>?_)
 obtain⟨z,rfl,hz,q⟩:=h
 have g1:=T.Aq
 have g2:=T.Pu
 have nd:=jh.nd
 have D1:Def P w K mg base true 3 "read_figures" ["word","most"] Eh:=ir T
 have hsz:sizeLine=16777216:=sizeLine_eq
 have lm:(Str.ofString (toString (1000000000000000000:Int))).length=19:=by decide+kernel
 have rz:ie z.cps.toList=none->∀H1,ao H H1->∀o1 o2 D,SX (w6 true P w K mg base gD "read_number_word" (aa bA) f cdv A outer s H E) (OD (abd (OD (aq bA) 2)) 0) D [some (.str z),o1,o2] H1:=by
  intro hn H1 sm o1 o2 D
  refine lC cN (by rfl) T.Bx (by rfl) (by decide) (by rfl) (by rfl) ?_
  walk_at "go"
  refine xU ?_
  walk_at "e"
  refine⟨z,rfl,by omega,_,4000,rfl,hz,by omega,?_⟩
  walk_at "go"
  intro zz
  walk_at "go"
  have q1:=q H1 sm
  rw[hn]at q1
  exact⟨by rw[hsz];simp,q1⟩
 refine aj ?_
 walk_at "go"
 refine G6 ?_
 rw[show Txt.startswith z "-"=decide (z.cps.toList[0]? =some 45)from zA z 45]
 walk_at "go"
 refine gm (λh0=>?_) (λh0=>?_)
 .rw[decide_eq_true h0]
  walk_at "go"
  refine m7 (by omega) ?_
  walk_at "go"
  have hcl:=pF z (some 1) none
  refine⟨_,_,19,rfl,by omega,by decide,by decide,lm,by decide,by decide,by decide,λH1 gh=>?_⟩
  rw[show(bV z (some 1) none).cps.toList=z.cps.toList.drop 1 from lM z 1]
  have er:=Ax h0
  cases e:xO (z.cps.toList.drop 1) 1000000000000000000 with
  |none=>
   rw[e]at er
   simp only[Qj]
   walk_at "go"
   exact rz er H1 gh _ _ _
  |some i=>
   rw[e]at er
   dsimp only at er
   simp only[Qj]
   walk_at "go"
   refine gm (λh1=>?_) (λh1=>?_)
   .have h2:i=0:=by injection h1
    rw[if_pos h2]at er
    exact aA (rz er H1 gh _ _ _)
   .have h2:¬i=0:=λe=>h1 (by rw[e])
    rw[if_neg h2]at er
    have q1:=q H1 gh
    rw[er]at q1
    refine aM ?_
    walk_at "go"
    exact q1
 .rw[decide_eq_false h0]
  walk_at "go"
  refine⟨_,_,19,rfl,by omega,by decide,by decide,lm,by decide,by decide,by decide,λH1 gh=>?_⟩
  have er:=qm h0
  cases e:xO z.cps.toList 1000000000000000000 with
  |none=>
   rw[e]at er
   simp only[Qj]
   walk_at "go"
   exact rz er H1 gh _ _ _
  |some i=>
   rw[e]at er
   simp only[Qj]
   have q1:=q H1 gh
   rw[er]at q1
   walk_at "go"
   exact q1
theorem iG(T:Txt K mg):Def P w K mg base true 3 "read_text_word" ["word"] (Lh (.ref (aD mg "NoValue"))):=by
 refine uw T (λvs H Q E h=>by obtain⟨v,rfl,_⟩:=h;rfl) (λf cdv A outer s H vs Q E hr h=>?_)
 obtain⟨z,rfl,hz,q⟩:=h
 have g1:=T.uo
 have nd:=jX.nd
 have D1:Def P w K mg base true 2 "is_text_value" ["value"] Yn:=iV T
 have hsz:sizeLine=16777216:=sizeLine_eq
 have e1:Str.ofString "'"=⟨#[39]⟩:=by decide+kernel
 have lc:=pF z (some 1) none
 have rz:jo z=none->∀H1,ao H H1->lz (w6 true P w K mg base iC "read_text_word" (aa bC) f cdv A outer s H E) ((aq bC).drop 1) {nx:=λ_ H'=>Q .non H',rt:=Q} [some (.str z)] H1:=by
  intro hn H1 sm
  refine aA (lC cN (by rfl) T.Bx (by rfl) (by decide) (by rfl) (by rfl) ?_)
  walk_at "go"
  refine xU ?_
  walk_at "e"
  refine⟨z,rfl,by omega,_,4000,rfl,hz,by omega,?_⟩
  walk_at "go"
  intro zz
  walk_at "go"
  have q1:=q H1 sm
  rw[hn]at q1
  exact⟨by rw[hsz];simp,q1⟩
 refine aj ?_
 walk_at "go"
 refine G6 ?_
 walk_at "go"
 rw[e1,zA]
 refine gm (λh1=>?_) (λh1=>?_)
 .walk_at "go"
  refine m7 (by omega) ?_
  walk_at "go"
  refine⟨_,rfl,rfl,(show(bV z (some 1) none).length≤4000 by omega),λH1 gh=>?_⟩
  walk_at "go"
  refine ifB (λh2=>?_) (λh2=>?_)
  .walk_at "go"
   refine m7 (by omega) ?_
   have q1:=q H1 gh
   have er:jo z=some (bV z (some 1) none):=by
    unfold jo
    rw[if_pos ⟨h1,h2⟩]
   rw[er]at q1
   exact q1
  .refine aM (rz ?_ H1 gh)
   unfold jo
   rw[if_neg λh4=>by rw[h2]at h4;exact Bool.false_ne_true h4.2]
 .refine aM (rz ?_ H (ao.refl _))
  unfold jo
  rw[if_neg λh4=>h1 h4.1]
theorem jr(T:Txt K mg):Def P w K mg base true 5 "read_value" ["kind","word"] (Dk (.ref (aD mg "NoValue"))):=by
 refine z9 T (λvs H Q E h=>by obtain⟨k,z,rfl,_⟩:=h;rfl) (λf cdv A outer s H vs Q E hr h=>?_)
 obtain⟨k,z,rfl,hz,q⟩:=h
 have g1:=T.wX
 have g2:=T.Uw
 have D1:Def P w K mg base true 4 "read_number_word" ["word"] (M5 (.ref (aD mg "NoValue"))):=gF T
 have D2:Def P w K mg base true 3 "read_text_word" ["word"] (Lh (.ref (aD mg "NoValue"))):=iG T
 refine aj ?_
 walk_at "go"
 refine gm (λh1=>?_) (λh1=>?_)
 .have h2:z="?":=by cases h1;rfl
  have q1:=q H (ao.refl _)
  have er:j4 k z=some .non:=by unfold j4;rw[if_pos h2]
  rw[er]at q1
  walk_at "go"
  exact q1
 .have h2:¬z="?":=λe=>h1 (by rw[e])
  have er:j4 k z=if k="number" then Wf (ie z.cps.toList)else acH (jo z):=by unfold j4;rw[if_neg h2]
  rw[er]at q
  walk_at "go"
  refine gm (λh3=>?_) (λh3=>?_)
  .have h4:k="number":=by cases h3;rfl
   rw[if_pos h4]at q
   walk_at "go"
   exact⟨z,rfl,hz,q⟩
  .have h4:¬k="number":=λe=>h3 (by rw[e])
   rw[if_neg h4]at q
   walk_at "go"
   exact⟨z,rfl,hz,q⟩
def Mx(K:W.Frag):Sp:=λvs H Q _=>∃(kd:Str) (a:Addr) (ws:List Str) (p:Nat) (z:Str) (v:V),vs=[.str kd,.ref a,.int p]/\bc K H a (ws.map V.str)/\ws.length≤4000/\ws[p]? =some z/\p<60/\z.length≤4000/\j4 kd z=some v/\¬v= .non/\∀H',ao H H'->Q v H'
theorem oZ(T:Txt K mg):Def P w K mg base true 6 "read_word" ["kind","words","place"] (Mx K):=by
 refine Ey T (λvs H Q E h=>by obtain⟨kd,a,ws,p,z,v,rfl,_⟩:=h;rfl) (λf cdv A outer s H vs Q E hr h=>?_)
 obtain⟨kd,a,ws,p,z,v,rfl,hS,hl,hz,hp,hzl,hv,hne,q⟩:=h
 have nd:=sE.nd
 have D1:Def P w K mg base true 3 "word_at" ["words","place"] (nJ K mg):=ju T
 have D2:Def P w K mg base true 5 "read_value" ["kind","word"] (Dk (.ref (aD mg "NoValue"))):=jr T
 have hlt:=(List.getElem?_eq_some_iff.mp hz).1
 refine aj ?_
 walk_at "go"
 refine⟨a,ws,p,rfl,hS,hl,by omega,λhb=>absurd ⟨hlt,hp⟩ hb,λz' hz' _=>?_⟩
 rw[hz]at hz'
 cases hz'
 refine aj ?_
 refine Ri (λ_ _ _ _=>False) rfl rfl (λF pn xo po=>?_) (λσ c d H' hK=>hK.elim)
 refine aA ?_
 walk_at "go"
 refine⟨kd,z,rfl,hzl,λH' sm=>?_⟩
 rw[hv]
 refine aM ?_
 refine aj ?_
 walk_at "go"
 rw[decide_eq_false hne]
 walk_at "go"
 exact q H' sm
inductive Pj |all |none (p:Nat) |look (l:Lk) (p:Nat) (v:V)
def ahn(mg:Str->Option Value):Lk->Addr
 | .is=>aD mg "IsSieve"
 | .under=>aD mg "UnderSieve"
 | .over=>aD mg "OverSieve"
 | .holds=>aD mg "HoldsSieve"
def BL(mg:Str->Option Value)(H:Hp)(a:Addr):Pj->Str->Prop
 | .all,z=>∃dx,H a=some (.ins (aD mg "AllSieve") dx [("text",.str z)])
 | .none p,z=>∃dx,H a=some (.ins (aD mg "NoneSieve") dx [("text",.str z),("place",.int p)])
 | .look l p v,z=>∃dx,H a=some (.ins (ahn mg l) dx (F3 z p v))
theorem BL.same{mg:Str->Option Value}{H H':Hp}{a:Addr}{s:Pj}{z:Str}(h:BL mg H a s z)(e:ao H H'):BL mg H' a s z:=by
 cases s<;>obtain⟨dx,h⟩:=h<;>exact⟨dx,e _ _ h⟩
def Jj(mg:Str->Option Value)(H:Hp)(p:Addr)(s:Pj)(z:Str)(n:Nat):Prop:=∃t,H p=some (.tup [.ref t,.int n])/\BL mg H t s z
def KR(K:W.Frag)(mg:Str->Option Value):Sp:=λvs H Q _=>∃(b:Addr) (cs:List bK) (a:Addr) (ws:List Str) (s i:Nat),vs=[.ref b,.ref a,.int s]/\gO H b cs/\bc K H a (ws.map V.str)/\ws.length≤4000/\(∀z∈ws,z.length≤1000)/\s+2≤ws.length/\lA cs ws (s+1)=some i/\
 ∀p H',ao H H'->Jj mg H' p (.none i) (lO ws s (s+2)) (s+2)->Q (.ref p) H'
theorem nO(T:Txt K mg):Def P w K mg base true 5 "read_none" ["columns","words","start"] (KR K mg):=by
 refine Ec T (λvs H Q E h=>by obtain⟨b,cs,a,ws,s,i,rfl,_⟩:=h;rfl) (λf cdv A outer s H vs Q E hr h=>?_)
 obtain⟨b,cs,a,ws,s0,i,rfl,hC,hS,hl,hz,hs2,hi,q⟩:=h
 have nd:=uD.nd
 have hsz:sizeLine=16777216:=sizeLine_eq
 have D1:Def P w K mg base true 4 "read_column" ["columns","words","place"] (Ep K mg):=iJ T
 have D2:Def P w K mg base true 1 "text_between" ["words","start","behind"] (vL K):=cW T
 have M:yg P w K mg base true 2 "NoneSieve" (aD mg "NoneSieve") ["self","text","place"] (X8 K):=(uN T).make T.HX T.Fq
 refine aj ?_
 walk_at "go"
 refine⟨b,cs,a,ws,s0+1,by simp,hC,hS,hl,by omega,λe=>(by rw[hi]at e;cases e),λi' H2 iw e=>?_⟩
 rw[hi]at e
 cases e
 walk_at "go"
 refine jq M hr (by decide) (λ_=>rfl) cN (by rfl) (by decide) (by rfl) (by rfl) ?_
 walk_at "go"
 refine⟨a,ws,s0,s0+2,by simp,iw.seq hS,hl,hz,by omega,hs2,λH3 sm3=>?_⟩
 walk_at "go"
 intro y dx hy hdx hne
 refine⟨y,_,dx,[],lO ws s0 (s0+2),_,rfl,ak,T.nG,T.j5,T.qp,by simp,rfl,?_⟩
 walk_at "go"
 refine⟨by show 2≤sizeLine;omega,λp hp=>?_⟩
 generalize hG:upd (upd (upd (upd H3 dx (.own y)) y (.ins (aD mg "NoneSieve") dx [])) y _) y _=G at hp⊢
 have Ga:ao H3 G:=λc o e=>by
  rw[<-hG,az (au e hy),az (au e hy),az (au e hy),az (au e hdx)]
  exact e
 have ey:G y=some (.ins (aD mg "NoneSieve") dx [("text",.str (lO ws s0 (s0+2))),("place",.int i)]):=by
  rw[<-hG]
  exact ak
 have rO:ao G (upd G p (.tup [.ref y,.int (s0+2)])):=ao.upd hp
 exact q p _ (((iw.trans sm3).trans Ga).trans rO) ⟨y,ak,dx,rO _ _ ey⟩
def iQ:Lk->Str
 | .is=>"is"
 | .under=>"under"
 | .over=>"over"
 | .holds=>"holds"
def Tt(K:W.Frag)(mg:Str->Option Value):Sp:=λvs H Q _=>∃(l:Lk) (b:Addr) (cs:List bK) (a:Addr) (ws:List Str) (s i:Nat) (c:bK) (z:Str) (v:V),vs=[.ref b,.ref a,.int s]/\gO H b cs/\bc K H a (ws.map V.str)/\ws.length≤4000/\(∀z∈ws,z.length≤1000)/\s+3≤ws.length/\s+2<60/\
 ws[s]? =some (iQ l)/\lA cs ws (s+1)=some i/\cs[i]? =some c/\(l= .holds->c.2="text")/\ws[s+2]? =some z/\j4 c.2 z=some v/\¬v= .non/\
 ∀p H',ao H H'->Jj mg H' p (.look l i v) (lO ws s (s+3)) (s+3)->Q (.ref p) H'
theorem jc(T:Txt K mg):Def P w K mg base true 7 "read_of_value" ["columns","words","start"] (Tt K mg):=by
 refine uK T (λvs H Q E h=>by obtain⟨l,b,cs,a,ws,s,i,c,z,v,rfl,_⟩:=h;rfl) (λf cdv A outer s H vs Q E hr h=>?_)
 obtain⟨l,b,cs,a,ws,s0,i,c,z,v,rfl,hC,hS,hl,hz,hs3,zr,hw,hi,hc,hh,YL,hv,hne,q⟩:=h
 have nd:=lQ.nd
 have hsz:sizeLine=16777216:=sizeLine_eq
 have g1:=T.Dw
 have g2:=T.Zj
 have g3:=T.Y7
 have g4:=T.DW
 have g5:=T.Jw
 have D1:Def P w K mg base true 4 "read_column" ["columns","words","place"] (Ep K mg):=iJ T
 have D2:Def P w K mg base true 1 "text_between" ["words","start","behind"] (vL K):=cW T
 have D3:Def P w K mg base true 6 "read_word" ["kind","words","place"] (Mx K):=oZ T
 refine aj ?_
 walk_at "go"
 refine aQ hS (bz (by rw[List.getElem?_map,hw];rfl)) ?_
 walk_at "go"
 refine⟨b,cs,a,ws,s0+1,by simp,hC,hS,hl,by omega,λe=>(by rw[hi]at e;cases e),λi' H2 iw e=>?_⟩
 rw[hi]at e
 cases e
 obtain⟨vs,hb,hvs⟩:=hC.same iw
 obtain⟨cv,gc,t,rfl,ht⟩:=hvs.get' hc
 refine aj ?_
 walk_at "go"
 refine aQ (bc.of hb) (bz gc) ?_
 walk_at "go"
 refine bx (cA.of ht) (show n8 [V.str c.1,V.str c.2] 1=some (V.str c.2)from rfl) ?_
 cases l with
 |is=>
  have M:yg P w K mg base true 2 "IsSieve" (aD mg "IsSieve") ["self","text","place","value"] (Gy K):=(eZ T).make T.Qa T.J6
  refine aj ?_
  walk_at "go"
  refine gm (λh=>absurd h (by decide+kernel)) (λ_=>?_)
  refine aM ?_
  refine aj ?_
  walk_at "go"
  refine⟨c.2,a,ws,s0+2,z,v,by simp,iw.seq hS,hl,YL,zr,by have :=hz z (List.mem_of_getElem? YL);omega,hv,hne,λH3 sm3=>?_⟩
  walk_at "go"
  refine⟨a,ws,s0,s0+3,by simp,(iw.trans sm3).seq hS,hl,hz,by omega,hs3,λH4 nj=>?_⟩
  refine aj ?_
  walk_at "go"
  refine gm (λ_=>?_) (λh=>absurd rfl h)
  walk_at "go"
  refine jq M hr (by decide) (λ_=>rfl) cN (by rfl) (by decide) (by rfl) (by rfl) ?_
  walk_at "go"
  intro y dx hy hdx hne'
  refine⟨y,_,dx,[],lO ws s0 (s0+3),_,v,rfl,ak,T.vz,T.mY,T.vh,T.vW,by simp,λG eG hG=>⟨rfl,?_⟩⟩
  walk_at "go"
  refine⟨by show 2≤sizeLine;omega,λp hp=>?_⟩
  have Ga:ao H4 G:=λc o e=>hG c o (au e hy) (by rw[az (au e hy),az (au e hdx)];exact e)
  have rO:ao G (upd G p (.tup [.ref y,.int (s0+3)])):=ao.upd hp
  exact q p _ ((((iw.trans sm3).trans nj).trans Ga).trans rO) ⟨y,ak,dx,rO _ _ eG⟩
 |under=>
  have M:yg P w K mg base true 2 "UnderSieve" (aD mg "UnderSieve") ["self","text","place","value"] (Gy K):=(eZ T).make T.DN T.Ac
  refine aj ?_
  walk_at "go"
  refine gm (λh=>absurd h (by decide+kernel)) (λ_=>?_)
  refine aM ?_
  refine aj ?_
  walk_at "go"
  refine⟨c.2,a,ws,s0+2,z,v,by simp,iw.seq hS,hl,YL,zr,by have :=hz z (List.mem_of_getElem? YL);omega,hv,hne,λH3 sm3=>?_⟩
  walk_at "go"
  refine⟨a,ws,s0,s0+3,by simp,(iw.trans sm3).seq hS,hl,hz,by omega,hs3,λH4 nj=>?_⟩
  refine aj ?_
  walk_at "go"
  refine gm (λh=>absurd h (by decide+kernel)) (λ_=>?_)
  refine aM ?_
  refine aj ?_
  walk_at "go"
  refine gm (λ_=>?_) (λh=>absurd rfl h)
  walk_at "go"
  refine jq M hr (by decide) (λ_=>rfl) cN (by rfl) (by decide) (by rfl) (by rfl) ?_
  walk_at "go"
  intro y dx hy hdx hne'
  refine⟨y,_,dx,[],lO ws s0 (s0+3),_,v,rfl,ak,T.mF,T.jJ,T.pN,T.pU,by simp,λG eG hG=>⟨rfl,?_⟩⟩
  walk_at "go"
  refine⟨by show 2≤sizeLine;omega,λp hp=>?_⟩
  have Ga:ao H4 G:=λc o e=>hG c o (au e hy) (by rw[az (au e hy),az (au e hdx)];exact e)
  have rO:ao G (upd G p (.tup [.ref y,.int (s0+3)])):=ao.upd hp
  exact q p _ ((((iw.trans sm3).trans nj).trans Ga).trans rO) ⟨y,ak,dx,rO _ _ eG⟩
 |over=>
  have M:yg P w K mg base true 2 "OverSieve" (aD mg "OverSieve") ["self","text","place","value"] (Gy K):=(eZ T).make T.Ib T.Fi
  refine aj ?_
  walk_at "go"
  refine gm (λh=>absurd h (by decide+kernel)) (λ_=>?_)
  refine aM ?_
  refine aj ?_
  walk_at "go"
  refine⟨c.2,a,ws,s0+2,z,v,by simp,iw.seq hS,hl,YL,zr,by have :=hz z (List.mem_of_getElem? YL);omega,hv,hne,λH3 sm3=>?_⟩
  walk_at "go"
  refine⟨a,ws,s0,s0+3,by simp,(iw.trans sm3).seq hS,hl,hz,by omega,hs3,λH4 nj=>?_⟩
  refine aj ?_
  walk_at "go"
  refine gm (λh=>absurd h (by decide+kernel)) (λ_=>?_)
  refine aM ?_
  refine aj ?_
  walk_at "go"
  refine gm (λh=>absurd h (by decide+kernel)) (λ_=>?_)
  refine aM ?_
  refine aj ?_
  walk_at "go"
  refine gm (λ_=>?_) (λh=>absurd rfl h)
  walk_at "go"
  refine jq M hr (by decide) (λ_=>rfl) cN (by rfl) (by decide) (by rfl) (by rfl) ?_
  walk_at "go"
  intro y dx hy hdx hne'
  refine⟨y,_,dx,[],lO ws s0 (s0+3),_,v,rfl,ak,T.oK,T.j7,T.qL,T.qP,by simp,λG eG hG=>⟨rfl,?_⟩⟩
  walk_at "go"
  refine⟨by show 2≤sizeLine;omega,λp hp=>?_⟩
  have Ga:ao H4 G:=λc o e=>hG c o (au e hy) (by rw[az (au e hy),az (au e hdx)];exact e)
  have rO:ao G (upd G p (.tup [.ref y,.int (s0+3)])):=ao.upd hp
  exact q p _ ((((iw.trans sm3).trans nj).trans Ga).trans rO) ⟨y,ak,dx,rO _ _ eG⟩
 |holds=>
  have M:yg P w K mg base true 2 "HoldsSieve" (aD mg "HoldsSieve") ["self","text","place","value"] (Gy K):=(eZ T).make T.Fy T.Bc
  refine aj ?_
  walk_at "go"
  refine gm (λ_=>?_) (λh=>absurd rfl h)
  rw[hh rfl]
  walk_at "go"
  rw[decide_eq_true rfl]
  walk_at "t"
  refine aM ?_
  refine aj ?_
  walk_at "go"
  refine⟨"text",a,ws,s0+2,z,v,by simp,iw.seq hS,hl,YL,zr,by have :=hz z (List.mem_of_getElem? YL);omega,by rw[<-hh rfl];exact hv,hne,λH3 sm3=>?_⟩
  walk_at "go"
  refine⟨a,ws,s0,s0+3,by simp,(iw.trans sm3).seq hS,hl,hz,by omega,hs3,λH4 nj=>?_⟩
  refine aj ?_
  walk_at "go"
  refine gm (λh=>absurd h (by decide+kernel)) (λ_=>?_)
  refine aM ?_
  refine aj ?_
  walk_at "go"
  refine gm (λh=>absurd h (by decide+kernel)) (λ_=>?_)
  refine aM ?_
  refine aj ?_
  walk_at "go"
  refine gm (λh=>absurd h (by decide+kernel)) (λ_=>?_)
  walk_at "go"
  refine jq M hr (by decide) (λ_=>rfl) cN (by rfl) (by decide) (by rfl) (by rfl) ?_
  walk_at "go"
  intro y dx hy hdx hne'
  refine⟨y,_,dx,[],lO ws s0 (s0+3),_,v,rfl,ak,T.lY,T.jP,T.pQ,T.pP,by simp,λG eG hG=>⟨rfl,?_⟩⟩
  walk_at "go"
  refine⟨by show 2≤sizeLine;omega,λp hp=>?_⟩
  have Ga:ao H4 G:=λc o e=>hG c o (au e hy) (by rw[az (au e hy),az (au e hdx)];exact e)
  have rO:ao G (upd G p (.tup [.ref y,.int (s0+3)])):=ao.upd hp
  exact q p _ ((((iw.trans sm3).trans nj).trans Ga).trans rO) ⟨y,ak,dx,rO _ _ eG⟩
def vo(cs:List bK)(ws:List Str)(s:Nat):Pj->Nat->Prop
 | .all,n=>ws[s]? =some "all"/\n=s+1
 | .none i,n=>ws[s]? =some "none"/\s+2≤ws.length/\lA cs ws (s+1)=some i/\n=s+2
 | .look l i v,n=>s+3≤ws.length/\s+2<60/\ws[s]? =some (iQ l)/\lA cs ws (s+1)=some i/\(∃c z,cs[i]? =some c/\(l= .holds->c.2="text")/\ws[s+2]? =some z/\j4 c.2 z=some v)/\(¬v= .non)/\n=s+3
theorem Qs{ws:List Str}{s:Nat}{z:Str}(h:ws[s]? =some z):lO ws s (s+1)=z:=by
 unfold lO
 have e:(ws.drop s).take (s+1-s)=[z]:=by
  rw[show s+1-s=1 by omega,Ti h]
  rfl
 rw[e]
 exact join_one _ z
def WY(K:W.Frag)(mg:Str->Option Value):Sp:=λvs H Q _=>∃(b:Addr) (cs:List bK) (a:Addr) (ws:List Str) (s n:Nat) (k:Int) (sv:Pj),vs=[.ref b,.ref a,.int s,.int k]/\gO H b cs/\bc K H a (ws.map V.str)/\ws.length≤4000/\(∀z∈ws,z.length≤1000)/\s<60/\vo cs ws s sv n/\
 ∀p H',ao H H'->Jj mg H' p sv (lO ws s n) n->Q (.ref p) H'
theorem Eu(T:Txt K mg):Def P w K mg base true 8 "read_part" ["columns","words","start","within"] (WY K mg):=by
 refine uh T (λvs H Q E h=>by obtain⟨b,cs,a,ws,s,n,k,sv,rfl,_⟩:=h;rfl) (λf cdv A outer s H vs Q E hr h=>?_)
 obtain⟨b,cs,a,ws,s0,n,k,sv,rfl,hC,hS,hl,hz,zr,hrd,q⟩:=h
 have nd:=mD.nd
 have hsz:sizeLine=16777216:=sizeLine_eq
 have g1:=T.Dw
 have g2:=T.Yi
 have g3:=T.Y7
 have g4:=T.DW
 have g5:=T.Jw
 have g6:=T.QB
 have D1:Def P w K mg base true 3 "word_at" ["words","place"] (nJ K mg):=ju T
 have D2:Def P w K mg base true 5 "read_none" ["columns","words","start"] (KR K mg):=nO T
 have D3:Def P w K mg base true 7 "read_of_value" ["columns","words","start"] (Tt K mg):=jc T
 have M:yg P w K mg base true 1 "AllSieve" (aD mg "AllSieve") ["self","text"] (Bt K):=gP.make T.Jo T.GC
 have hw:∃z,ws[s0]? =some z:=by
  cases sv with
  |all=>exact⟨_,hrd.1⟩
  |none i=>exact⟨_,hrd.1⟩
  |look l i v=>exact⟨_,hrd.2.2.1⟩
 obtain⟨z0,hw⟩:=hw
 have hlt:=(List.getElem?_eq_some_iff.mp hw).1
 refine aj ?_
 walk_at "go"
 refine⟨a,ws,s0,rfl,hS,hl,by omega,λhb=>absurd ⟨hlt,zr⟩ hb,λz' hz' _=>?_⟩
 rw[hw]at hz'
 cases hz'
 refine aj ?_
 walk_at "go"
 cases sv with
 |all=>
  obtain⟨h1,rfl⟩:=hrd
  rw[hw]at h1
  cases h1
  refine gm (λ_=>?_) (λh=>absurd rfl h)
  walk_at "go"
  refine jq M hr (by decide) (λ_=>rfl) cN (by rfl) (by decide) (by rfl) (by rfl) ?_
  walk_at "go"
  intro y dx hy hdx hne
  refine⟨y,_,dx,[],_,rfl,ak,T.rN,T.lG,by simp,rfl,?_⟩
  walk_at "go"
  refine⟨by show 2≤sizeLine;omega,λp hp=>?_⟩
  generalize hG:upd (upd (upd H dx (.own y)) y (.ins (aD mg "AllSieve") dx [])) y _=G at hp⊢
  have Ga:ao H G:=λc o e=>by
   rw[<-hG,az (au e hy),az (au e hy),az (au e hdx)]
   exact e
  have ey:G y=some (.ins (aD mg "AllSieve") dx [("text",.str "all")]):=by
   rw[<-hG]
   exact ak
  have rO:ao G (upd G p (.tup [.ref y,.int (s0+1)])):=ao.upd hp
  refine q p _ (Ga.trans rO) ⟨y,ak,dx,?_⟩
  rw[Qs hw]
  exact rO _ _ ey
 |none i=>
  obtain⟨h1,h2,h3,rfl⟩:=hrd
  rw[hw]at h1
  cases h1
  refine gm (λh=>absurd h (by decide+kernel)) (λ_=>?_)
  refine aM ?_
  refine aj ?_
  walk_at "go"
  refine gm (λ_=>?_) (λh=>absurd rfl h)
  walk_at "go"
  exact⟨b,cs,a,ws,s0,i,rfl,hC,hS,hl,hz,h2,h3,λp H' sm hp=>q p H' sm hp⟩
 |look l i v=>
  obtain⟨h1,h2,h3,h4,⟨c,z,h5,h6,h7,h8⟩,h9,rfl⟩:=hrd
  rw[hw]at h3
  cases h3
  have e1:¬V.str (iQ l)=V.str (Str.ofString "all"):=by cases l<;>decide+kernel
  have e2:¬V.str (iQ l)=V.str (Str.ofString "none"):=by cases l<;>decide+kernel
  have e3:PX (V.str (iQ l)) [V.str (Str.ofString "is"),V.str (Str.ofString "under"),V.str (Str.ofString "over"),V.str (Str.ofString "holds")]=true:=by cases l<;>decide+kernel
  refine gm (λh=>absurd h e1) (λ_=>?_)
  refine aM ?_
  refine aj ?_
  walk_at "go"
  refine gm (λh=>absurd h e2) (λ_=>?_)
  refine aM ?_
  refine aj ?_
  walk_at "go"
  refine⟨by show 4≤sizeLine;omega,λtp htp=>?_⟩
  refine QV (cA.of ak) (by rfl) (by rfl) ?_
  rw[e3]
  have Gw:ao H (upd H tp (.tup [.str "is",.str "under",.str "over",.str "holds"])):=ao.upd htp
  generalize upd H tp (.tup [.str "is",.str "under",.str "over",.str "holds"])=H2 at Gw⊢
  walk_at "go"
  exact⟨l,b,cs,a,ws,s0,i,c,z,v,rfl,hC.same Gw,Gw.seq hS,hl,hz,h1,h2,hw,h4,h5,h6,h7,h8,h9,λp H' sm hp=>q p H' (Gw.trans sm) hp⟩
theorem cD(T:Txt K mg):Def P w K mg base true 1 "_law_draw" ["_law_script","_law_k","_law_many"] (kO K):=by
 refine Dm T (λvs H Q E h=>by obtain⟨a,ns,k,m,rfl,_⟩:=h;rfl) (λf cdv A outer s H vs Q E hr h=>?_)
 obtain⟨a,ns,k,m,rfl,hS,hl,hk0,hk1,hm,q⟩:=h
 have n1:=T.jC
 have nd:=uz.nd
 have zY:(ns.map V.int).length=ns.length:=List.length_map ..
 refine aj ?_
 walk_at "go"
 rw[zY]
 have fin:∀c:Int,c=K1 ns k->Q (.int ((c % 1000003+31*k*k+1)*48271 % 999983*7919 % 524287 % m)) H:=λc e=>by rw[e];exact q
 refine gm (λh=>?_) (λh=>?_)
 .walk_at "go"
  rw[zY]
  walk_at "go"
  refine aQ hS (Mz 0 (Int.emod_nonneg _ (by omega)) (Int.emod_lt_of_pos _ (by omega))) ?_
  walk_at "go"
  exact fin _ (by unfold K1;rw[if_pos (by omega)])
 .walk_at "go"
  exact fin _ (by unfold K1;rw[if_neg (by omega)])
theorem lV(T:Txt K mg):Def P w K mg base true 1 "value_word" ["value"] QM:=by
 refine Ad T (λvs H Q E h=>by obtain⟨v,rfl,_⟩:=h;rfl) (λf cdv A outer s H vs Q E hr h=>?_)
 obtain⟨v,rfl,hs,hz,hb,q⟩:=h
 have n1:=T.eF
 have n2:=T.nM
 have g1:=T.wX
 have g2:=T.uo
 have hsz:sizeLine=16777216:=sizeLine_eq
 refine aj ?_
 cases v with
 |non=>
  walk_at "go"
  exact q
 |int i=>
  walk_at "go"
  refine lu (hb i rfl) ?_
  exact q
 |str z=>
  have hz':z.length≤4000:=hz
  have l1:(Str.ofString "'").length=1:=by decide+kernel
  walk_at "go"
  refine aZ (by omega) ?_
  exact q
 |_=>cases hs
def wrt(x:V):Prop:=scalar x=true/\short x/\∀i,x= .int i->i.natAbs<10^60
def yh:Sp:=λvs H Q _=>∃(i:Int) (l:Addr) (xs:List V),vs=[.int i,.ref l]/\i.natAbs<10^60/\H l=some (.lst xs)/\xs.length≤1000/\(∀x∈xs,wrt x)/\∀p H',ao H H'->H p=none->H' p=some (.lst ((Str.ofString (toString i)::xs.map wordOf).map V.str))->Q (.ref p) H'
theorem oh(T:Txt K mg):Def P w K mg base true 2 "row_words" ["row","values"] yh:=by
 refine Dc T (λvs H Q E h=>by obtain⟨i,l,xs,rfl,_⟩:=h;rfl) (λf cdv A outer s H vs Q E hr h=>?_)
 obtain⟨i,l,xs,rfl,hi,hl,hxl,hx,q⟩:=h
 have n1:=T.nM
 have nd1:(["value"]:List Str).Nodup:=by decide+kernel
 have hsz:sizeLine=16777216:=sizeLine_eq
 have D1:Def P w K mg base true 1 "value_word" ["value"] QM:=lV T
 refine aA (bj ?_)
 walk_at "go"
 refine lu (jQ hi) ?_
 walk_at "go"
 refine⟨by show 1≤sizeLine;omega,λb hb=>?_⟩
 have gh:ao H (upd H b (.lst [.str (Str.ofString (toString i))])):=ao.upd hb
 have eb:(upd H b (.lst [.str (Str.ofString (toString i))])) b=some (.lst [.str (Str.ofString (toString i))]):=ak
 change EV _ _ _ (upd H b (.lst [.str (Str.ofString (toString i))])) _
 generalize upd H b (.lst [.str (Str.ofString (toString i))])=H1 at gh eb⊢
 refine nQ ["value"] (σ':=[none]) (by rfl) (by rfl) (b7 (aa dJ) (by rfl) (by rfl) (by decide+kernel)) (by intro _;rfl) ?_
 walk_at "e"
 refine⟨l,xs,rfl,bc.of (gh _ _ hl),by omega,λτ=>∃o1,τ=[o1],λE2 i u H'=>∃x,xs[i]? =some x/\u= .str (wordOf x),⟨none,rfl⟩,λE2 i u H2 H3 ys _ _ p=>p,λfp E2 C s3 H0 i τ x H4 H3 Lb hi hτ nj hys hG=>?_,λE2 H4 ys Lb hl2 hx2 e4 nj=>?_⟩
 .obtain⟨o1,rfl⟩:=hτ
  obtain⟨Gp,rfl⟩:=hG
  have hw:=hx x (List.mem_of_getElem? Gp)
  refine aJ nd1 (by rfl) (.inl rfl) (.inr rfl) ?_
  walk_at "go"
  refine⟨x,rfl,hw.1,hw.2.1,λj e=>jQ (hw.2.2 j e),?_⟩
  exact⟨⟨_,rfl⟩,⟨x,Gp,rfl⟩,ao.refl _⟩
 .have ey:=dw (ys:=xs) (λx=>V.str (wordOf x)) hl2 hx2
  subst ey
  refine adx (nj _ _ eb) e4 (by rw[List.length_map];show 1+xs.length≤sizeLine;omega) λp hp=>?_
  refine q p _ ((gh.trans nj).trans (ao.upd hp)) ((gh.trans nj).free hp) ?_
  rw[ak,List.map_cons,List.map_map]
  rfl
theorem rP(T:Txt K mg):Def P w K mg base true 1 "check_of" ["text"] K3:=by
 refine Hz T (λvs H Q E h=>by obtain⟨z,rfl,_⟩:=h;rfl) (λf cdv A outer s H vs Q E hr h=>?_)
 obtain⟨z,rfl,hz,hc,q⟩:=h
 have g1:=T.ae0
 have g2:=T.Pb
 have n1:=T.XX
 have nd:=wK.nd
 refine aj ?_
 walk_at "go"
 refine V3 (by walk_at "po") (by rfl) (by intro _;rfl) ?_
 walk_at "e"
 refine⟨z,rfl,λi σ H'=>H'=H/\∃t p o,σ=[some (.str z),some (.int t),some (.int p),o]/\0≤t/\t<9973/\0≤p/\p<9973/\(t+p*bZ (z.cps.toList.drop i)) % 9973=bZ z.cps.toList,⟨rfl,0,1,none,rfl,by decide,by decide,by decide,by decide,?_⟩,λi c σ H' hi hP=>?_,λσ H' hP=>?_⟩
 .have :=iy z.cps.toList
  rw[List.drop_zero,Int.zero_add,Int.one_mul]
  exact Int.emod_eq_of_lt this.1 this.2
 .obtain⟨rfl,t,p,o,rfl,t0,t1,p0,p1,e⟩:=hP
  have hcb:=hc c (List.mem_of_getElem? hi)
  have hd:z.cps.toList.drop i=c::z.cps.toList.drop (i+1):=by
   obtain⟨h1,h2⟩:=List.getElem?_eq_some_iff.mp hi
   rw[List.drop_eq_getElem_cons h1,h2]
  rw[hd]at e
  refine aJ nd (by rfl) (.inl rfl) (.inl rfl) ?_
  refine aj ?_
  walk_at "go"
  exact⟨rfl,_,_,_,rfl,Int.emod_nonneg _ (by decide),Int.emod_lt_of_pos _ (by decide),Int.emod_nonneg _ (by decide),Int.emod_lt_of_pos _ (by decide),Jv e⟩
 .obtain⟨rfl,t,p,o,rfl,t0,t1,p0,p1,e⟩:=hP
  rw[List.drop_length]at e
  have e2:t=bZ z.cps.toList:=by
   rw[<-e]
   show t=(t+p*0) % 9973
   rw[Int.mul_zero,Int.add_zero,Int.emod_eq_of_lt t0 t1]
  walk_at "go"
  rw[e2]
  exact q
theorem jn(T:Txt K mg):Def P w K mg base true 2 "check_word" ["text"] zO:=by
 refine zX T (λvs H Q E h=>by obtain⟨z,rfl,_⟩:=h;rfl) (λf cdv A outer s H vs Q E hr h=>?_)
 obtain⟨z,rfl,hz,hc,q⟩:=h
 have g1:=T.qZ
 have n1:=T.nM
 have D1:Def P w K mg base true 1 "check_of" ["text"] K3:=rP T
 refine aA (bj ?_)
 refine jf F.plainAttrs_str F.slot_str_zfill F.type_str_zfill (by rfl) (by rfl) (by rfl) (by rfl) (by rfl) ?_
 walk_at "go"
 refine⟨z,rfl,hz,hc,?_⟩
 have hb:=iy z.cps.toList
 walk_at "go"
 refine lu (jQ ?_) ?_
 .have :(bZ z.cps.toList).natAbs<9973:=by omega
  exact Nat.lt_of_lt_of_le this (by decide+kernel)
 .walk_at "go"
  refine WX (by decide) (by decide) ?_
  exact q
theorem mJ(T:Txt K mg):Def P w K mg base true 1 "order_text" ["order"] Rq:=by
 refine Av T (λvs H Q E h=>by obtain⟨a,os,rfl,_⟩:=h;rfl) (λf cdv A outer s H vs Q E hr h=>?_)
 obtain⟨a,os,rfl,⟨vs,ha,hvs⟩,hl,hn,q⟩:=h
 have g1:=T.ym
 have g2:=T.tU
 have Ve:(["name","up"]:List Str).Nodup:=by decide+kernel
 have hsz:sizeLine=16777216:=sizeLine_eq
 have hlv:=hvs.len
 have lp:(Str.ofString "+").length=1:=by decide+kernel
 have lm:(Str.ofString "-").length=1:=by decide+kernel
 have lb:(Str.ofString " ").length=1:=by decide+kernel
 refine aA (bj ?_)
 refine jf F.plainAttrs_str F.slot_str_join F.type_str_join (by rfl) (by rfl) (by rfl) (by rfl) (by rfl) ?_
 walk_at "e"
 refine⟨by rfl,iI (by rfl) ?_⟩
 refine nQ ["name","up"] (σ':=[none,none]) (by rfl) (by rfl) (b7 (aa dj) (by rfl) (by rfl) (by decide+kernel)) (by intro _;rfl) ?_
 walk_at "e"
 refine⟨a,vs,rfl,bc.of ha,by omega,λτ=>∃o1 o2,τ=[o1,o2],λE2 i u H'=>∃c,os[i]? =some c/\u= .str (dB c),⟨none,none,rfl⟩,λE2 i u H2 H3 ys _ _ p=>p,λfp E2 C s3 H0 i τ x H4 H3 Lb hi hτ nj hys hG=>?_,λE2 H4 ys Lb hl2 hx2 e4 nj=>?_⟩
 .obtain⟨o1,o2,rfl⟩:=hτ
  obtain⟨Gp,rfl⟩:=hG
  obtain⟨c,hc,t,rfl,ht⟩:=hvs.get Gp
  have hcn:=hn c (List.mem_of_getElem? hc)
  refine eO (by rfl) (by rfl) (by rfl) (cA.of (nj _ _ ht)) (by rfl) (aN (by rfl) (aJ Ve (by rfl) (.inl rfl) (.inr rfl) (aN (by rfl) (aJ Ve (by rfl) (.inl rfl) (.inr rfl) (cM ?_)))))
  walk_at "go"
  refine ifB (λh=>?_) (λh=>?_)
  .walk_at "go"
   refine aZ (by rw[lp];omega) ?_
   exact⟨⟨_,_,rfl⟩,⟨c,hc,by unfold dB;rw[if_pos h]⟩,ao.refl _⟩
  .walk_at "go"
   refine aZ (by rw[lm];omega) ?_
   exact⟨⟨_,_,rfl⟩,⟨c,hc,by unfold dB;rw[if_neg (by rw[h];exact Bool.false_ne_true)]⟩,ao.refl _⟩
 .have ey:=dw (ys:=os) (λc=>V.str (dB c)) (by rw[hl2,hlv]) hx2
  have Lg:ys=(os.map dB).map V.str:=by rw[ey,List.map_map];rfl
  subst Lg
  walk_at "go"
  refine oR (bc.of e4) ?_ (q H4 nj)
  rw[lb,List.length_map]
  have hsum:∀l:List Ord,(∀o∈l,o.1.length≤1000)->((l.map dB).map (·.length)).sum≤l.length*1001:=by
   intro l
   induction l with
   |nil=>intro _;simp
   |cons o l ih=>
    intro h
    have h1:=ih λx hx=>h x (by simp[hx])
    have h2:=h o (by simp)
    have h3:(dB o).length≤1001:=by
     unfold dB
     rw[len_app]
     split
     .rw[lp];omega
     .rw[lm];omega
    simp only[List.map_cons,List.sum_cons,List.length_cons]
    omega
  have :=hsum os hn
  omega
def X4(K:W.Frag):Sp:=λvs H Q _=>∃(a C dx:Addr) (fs:List (Str×V)) (z:Str) (p:V),vs=[.ref a,.str z,p]/\H a=some (.ins C dx fs)/\pJ K C/\aU K C "text"/\aU K C "one"/\fs.length<800/\
 Q .non (upd (upd H a (.ins C dx (gk "text" (.str z) fs))) a (.ins C dx (gk "one" p (gk "text" (.str z) fs))))
theorem xx(T:Txt K mg){cc:Bool}:FD P w K mg base cc 2 "__init__" "NotSieve.__init__" aY ["self","text","one"] (X4 K):=by
 refine ph (λvs H Q E h=>by obtain⟨a,C,dx,fs,z,p,rfl,_⟩:=h;rfl) (λf cdv A outer s H vs Q E hr h=>?_)
 obtain⟨a,C,dx,fs,z,p,rfl,ha,hc,hn,hn2,hl,q⟩:=h
 have B:O8 P w K mg base cc 1 "Sieve" "__init__" ["self","text"] (Bt K):=gP.asked T.xW T.fc
 have hz:=dM "text" (V.str z) fs
 refine aj (gB (by rfl) ?_)
 refine tO (pl:=_) B hr (by decide) id cN (by rfl) (by decide) (by rfl) (by rfl) (by rfl) ?_
 walk_at "go"
 refine⟨a,C,dx,fs,z,rfl,ha,hc,hn,by omega,?_⟩
 refine aA (mK (by rfl) ?_)
 walk_at "e"
 walk_at "e"
 exact⟨a,C,dx,_,rfl,ak,hc,hn2,by omega,q⟩
def Qq(K:W.Frag):Sp:=λvs H Q _=>∃(a C dx:Addr) (fs:List (Str×V)) (z:Str) (p v:V),vs=[.ref a,.str z,p,v]/\H a=some (.ins C dx fs)/\pJ K C/\aU K C "text"/\aU K C "one"/\aU K C "other"/\fs.length<800/\
 ∀H',H' a=some (.ins C dx (gk "other" v (gk "one" p (gk "text" (.str z) fs))))->(∀b o,b≠a->H b=some o->H' b=some o)->Q .non H'
theorem lF(T:Txt K mg){cc:Bool}:FD P w K mg base cc 2 "__init__" "PairSieve.__init__" aO ["self","text","one","other"] (Qq K):=by
 refine nA (λvs H Q E h=>by obtain⟨a,C,dx,fs,z,p,v,rfl,_⟩:=h;rfl) (λf cdv A outer s H vs Q E hr h=>?_)
 obtain⟨a,C,dx,fs,z,p,v,rfl,ha,hc,hn,hn2,hn3,hl,q⟩:=h
 have B:O8 P w K mg base cc 1 "Sieve" "__init__" ["self","text"] (Bt K):=gP.asked T.xW T.fc
 have hz:=dM "text" (V.str z) fs
 have hz2:=dM "one" p (gk "text" (V.str z) fs)
 refine aj (gB (by rfl) ?_)
 refine tO (pl:=_) B hr (by decide) id cN (by rfl) (by decide) (by rfl) (by rfl) (by rfl) ?_
 walk_at "go"
 refine⟨a,C,dx,fs,z,rfl,ha,hc,hn,by omega,?_⟩
 refine aj (mK (by rfl) ?_)
 walk_at "e"
 walk_at "e"
 refine⟨a,C,dx,_,rfl,ak,hc,hn2,by omega,?_⟩
 refine aA (mK (by rfl) ?_)
 walk_at "e"
 walk_at "e"
 refine⟨a,C,dx,_,rfl,ak,hc,hn3,by omega,q _ ak λb o hb e=>?_⟩
 rw[az hb,az hb,az hb]
 exact e
inductive Tr
 |one (s:Pj)
 |nt (t:Tr)
 |bo (t u:Tr)
 |ei (t u:Tr)
def Tr.dep:Tr->Nat
 | .one _=>0
 | .nt t=>t.dep+1
 | .bo t u=>max t.dep u.dep+1
 | .ei t u=>max t.dep u.dep+1
def Reads(cs:List bK)(ws:List Str):Tr->Nat->Nat->Prop
 | .one sv,s,e=>s<60/\vo cs ws s sv e
 | .nt t,s,e=>s<60/\ws[s]? =some "not"/\Reads cs ws t (s+1) e
 | .bo t u,s,e=>s<60/\ws[s]? =some "both"/\∃m,Reads cs ws t (s+1) m/\Reads cs ws u m e
 | .ei t u,s,e=>s<60/\ws[s]? =some "either"/\∃m,Reads cs ws t (s+1) m/\Reads cs ws u m e
theorem vo.le{cs:List bK}{ws:List Str}{s e:Nat}:∀{sv:Pj},vo cs ws s sv e->s<e/\e≤ws.length
 | .all,h=>by
   obtain⟨h1,rfl⟩:=h
   have :=(List.getElem?_eq_some_iff.mp h1).1
   omega
 | .none i,h=>by
   obtain⟨_,h2,_,rfl⟩:=h
   omega
 | .look l i v,h=>by
   obtain⟨h1,_,_,_,_,_,rfl⟩:=h
   omega
theorem Reads.le{cs:List bK}{ws:List Str}:∀{t:Tr} {s e:Nat},Reads cs ws t s e->s<e/\e≤ws.length
 | .one sv,s,e,h=>vo.le h.2
 | .nt t,s,e,h=>by have :=Reads.le (t:=t) h.2.2;omega
 | .bo t u,s,e,h=>by
   obtain⟨_,_,m,h1,h2⟩:=h
   have :=Reads.le (t:=t) h1
   have :=Reads.le (t:=u) h2
   omega
 | .ei t u,s,e,h=>by
   obtain⟨_,_,m,h1,h2⟩:=h
   have :=Reads.le (t:=t) h1
   have :=Reads.le (t:=u) h2
   omega
def m9(mg:Str->Option Value)(H:Hp):Tr->Addr->Str->Prop
 | .one s,a,z=>BL mg H a s z
 | .nt t,a,z=>∃dx b y,H a=some (.ins (aD mg "NotSieve") dx [("text",.str z),("one",.ref b)])/\m9 mg H t b y
 | .bo t u,a,z=>∃dx b c y x,H a=some (.ins (aD mg "BothSieve") dx [("text",.str z),("one",.ref b),("other",.ref c)])/\m9 mg H t b y/\m9 mg H u c x
 | .ei t u,a,z=>∃dx b c y x,H a=some (.ins (aD mg "EitherSieve") dx [("text",.str z),("one",.ref b),("other",.ref c)])/\m9 mg H t b y/\m9 mg H u c x
theorem m9.same{mg:Str->Option Value}{H H':Hp}(e:ao H H'):∀{t:Tr} {a:Addr} {z:Str},m9 mg H t a z->m9 mg H' t a z
 | .one s,a,z,h=>BL.same h e
 | .nt t,a,z,h=>by
   obtain⟨dx,b,y,h1,h2⟩:=h
   exact⟨dx,b,y,e _ _ h1,m9.same e h2⟩
 | .bo t u,a,z,h=>by
   obtain⟨dx,b,c,y,x,h1,h2,h3⟩:=h
   exact⟨dx,b,c,y,x,e _ _ h1,m9.same e h2,m9.same e h3⟩
 | .ei t u,a,z,h=>by
   obtain⟨dx,b,c,y,x,h1,h2,h3⟩:=h
   exact⟨dx,b,c,y,x,e _ _ h1,m9.same e h2,m9.same e h3⟩
theorem WR{k:Nat}{x:Str}{ps:List Str}{sp sp':Sp}(F:Def P w K mg base true k x ps sp)(h:∀vs H Q E,sp' vs H Q E->sp vs H Q E):Def P w K mg base true k x ps sp':=by
 obtain⟨f,fd,h1,h2,h3,h4⟩:=F.ex
 exact⟨f,fd,h1,h2,h3,⟨λvs H Q E z=>h4.len vs H Q E (h vs H Q E z),λA outer s H args us vs Q E hr e0 bt r z=>h4.run A outer s H args us vs Q E hr e0 bt r (h vs H Q E z)⟩⟩
def jj(K:W.Frag)(mg:Str->Option Value)(t:Tr):Sp:=λvs H Q _=>∃(b:Addr) (cs:List bK) (a:Addr) (ws:List Str) (s e:Nat) (k:Int),vs=[.ref b,.ref a,.int s,.int k]/\gO H b cs/\bc K H a (ws.map V.str)/\ws.length≤4000/\(∀z∈ws,z.length≤1000)/\0≤k/\k+t.dep≤20/\Reads cs ws t s e/\
 ∀p v H',ao H H'->H' p=some (.tup [.ref v,.int e])->m9 mg H' t v (lO ws s e)->Q (.ref p) H'
def Wq(K:W.Frag)(mg:Str->Option Value)(t:Tr):Sp:=λvs H Q _=>∃(b:Addr) (cs:List bK) (a:Addr) (ws:List Str) (s e:Nat) (k:Int),vs=[.ref b,.ref a,.int s,.int k]/\gO H b cs/\bc K H a (ws.map V.str)/\ws.length≤4000/\(∀z∈ws,z.length≤1000)/\1≤k/\k+t.dep≤21/\k≤20/\Reads cs ws t s e/\
 ∀p v H',ao H H'->H' p=some (.tup [.ref v,.int e])->m9 mg H' t v (lO ws s e)->Q (.ref p) H'
theorem ai5(T:Txt K mg)(sv:Pj):Def P w K mg base true 8 "read_part" ["columns","words","start","within"] (jj K mg (.one sv)):=WR (Eu T) λvs H Q E h=>by
 obtain⟨b,cs,a,ws,s,e,k,rfl,hC,hS,hl,hz,hk0,hk,hr,q⟩:=h
 refine⟨b,cs,a,ws,s,e,k,sv,rfl,hC,hS,hl,hz,hr.1,hr.2,λp H' sm hp=>?_⟩
 obtain⟨v,h1,h2⟩:=hp
 exact q p v H' sm h1 h2
def R0:Tr->Option Str
 | .one _=>none
 | .nt _=>some "not"
 | .bo _ _=>some "both"
 | .ei _ _=>some "either"
theorem Xa{cs:List bK}{ws:List Str}{t:Tr}{s e:Nat}{z:Str}(h:Reads cs ws t s e)(hw:R0 t=some z):s<60/\ws[s]? =some z:=by
 cases t with
 |one _=>cases hw
 |nt t=>cases hw;exact⟨h.1,h.2.1⟩
 |bo t u=>cases hw;exact⟨h.1,h.2.1⟩
 |ei t u=>cases hw;exact⟨h.1,h.2.1⟩
theorem yc{t:Tr}{z:Str}(hw:R0 t=some z):z="not"\/z="both"\/z="either":=by
 cases t with
 |one _=>cases hw
 |nt t=>cases hw;exact .inl rfl
 |bo t u=>cases hw;exact .inr (.inl rfl)
 |ei t u=>cases hw;exact .inr (.inr rfl)
theorem Zc(T:Txt K mg){t:Tr}{z:Str}{lv:Nat}(hw:R0 t=some z)(h3:3≤lv)(D:Def P w K mg base true lv "read_of_sieves" ["columns","words","start","within"] (Wq K mg t)):Def P w K mg base true (lv+1) "read_part" ["columns","words","start","within"] (jj K mg t):=by
 refine uh T (λvs H Q E h=>by obtain⟨b,cs,a,ws,s,e,k,rfl,_⟩:=h;rfl) (λf cdv A outer s H vs Q E hr h=>?_)
 obtain⟨b,cs,a,ws,s0,e,k,rfl,hC,hS,hl,hz,hk0,hk,hrd,q⟩:=h
 have nd:=mD.nd
 have hsz:sizeLine=16777216:=sizeLine_eq
 have g1:=T.Dw
 have g2:=T.Yi
 have g3:=T.Y7
 have g4:=T.DW
 have g5:=T.Jw
 have g6:=T.QB
 have g7:=T.Mw
 have g8:=T.EY
 have g9:=T.Rv
 have D1:Def P w K mg base true 3 "word_at" ["words","place"] (nJ K mg):=ju T
 obtain⟨zr,hws⟩:=Xa hrd hw
 have hlt:=(List.getElem?_eq_some_iff.mp hws).1
 have aAt:1≤t.dep:=by
  cases t with
  |one _=>cases hw
  |nt t=>show 1≤t.dep+1;omega
  |bo t u=>show 1≤max t.dep u.dep+1;omega
  |ei t u=>show 1≤max t.dep u.dep+1;omega
 have e1:¬V.str z=V.str (Str.ofString "all"):=by rcases yc hw with rfl |rfl |rfl<;>decide+kernel
 have e2:¬V.str z=V.str (Str.ofString "none"):=by rcases yc hw with rfl |rfl |rfl<;>decide+kernel
 have e3:PX (V.str z) [V.str (Str.ofString "is"),V.str (Str.ofString "under"),V.str (Str.ofString "over"),V.str (Str.ofString "holds")]=false:=by rcases yc hw with rfl |rfl |rfl<;>decide+kernel
 have e4:PX (V.str z) [V.str (Str.ofString "not"),V.str (Str.ofString "both"),V.str (Str.ofString "either")]=true:=by rcases yc hw with rfl |rfl |rfl<;>decide+kernel
 walk_at "A"
 refine⟨a,ws,s0,rfl,hS,hl,by omega,λhb=>absurd ⟨hlt,zr⟩ hb,λz' hz' _=>?_⟩
 rw[hws]at hz'
 cases hz'
 refine aj (bY ?_)
 walk_at "ex"
 refine gm (λh=>absurd h e1) (λ_=>?_)
 refine aM (aj (bY ?_))
 walk_at "ex"
 refine gm (λh=>absurd h e2) (λ_=>?_)
 refine aM (aj (bY ?_))
 walk_at "ex"
 refine⟨by show 4≤sizeLine;omega,λtp htp=>?_⟩
 refine QV (cA.of ak) (by rfl) (by rfl) ?_
 rw[e3]
 have Gw:ao H (upd H tp (.tup [.str "is",.str "under",.str "over",.str "holds"])):=ao.upd htp
 generalize upd H tp (.tup [.str "is",.str "under",.str "over",.str "holds"])=H2 at Gw⊢
 walk_at "ex"
 refine aM (aj (bY ?_))
 walk_at "ex"
 refine⟨by show 3≤sizeLine;omega,λtq htq=>?_⟩
 refine QV (cA.of ak) (by rfl) (by rfl) ?_
 rw[e4]
 have smq:ao H2 (upd H2 tq (.tup [.str "not",.str "both",.str "either"])):=ao.upd htq
 generalize upd H2 tq (.tup [.str "not",.str "both",.str "either"])=H3 at smq⊢
 walk_at "ex"
 have sm3:=Gw.trans smq
 refine aA (bj ?_)
 walk_at "ex"
 exact⟨b,cs,a,ws,s0,e,k+1,rfl,hC.same sm3,sm3.seq hS,hl,hz,by omega,by omega,by omega,hrd,λp v H' sm hp hv=>q p v H' (sm3.trans sm) hp hv⟩
theorem ajd(T:Txt K mg){t:Tr}{lv l1:Nat}(D1:Def P w K mg base true l1 "read_part" ["columns","words","start","within"] (jj K mg t))(h1:l1≤lv)(h3:3≤lv):Def P w K mg base true (lv+1) "read_of_sieves" ["columns","words","start","within"] (Wq K mg (.nt t)):=by
 refine gQ T (λvs H Q E h=>by obtain⟨b,cs,a,ws,s,e,k,rfl,_⟩:=h;rfl) (λf cdv A outer s H vs Q E hr h=>?_)
 obtain⟨b,cs,a,ws,s0,e,k,rfl,hC,hS,hl,hz,hk0,hk,ahm,hrd,q⟩:=h
 have nd:=eY.nd
 have hsz:sizeLine=16777216:=sizeLine_eq
 have g1:=T.kI
 have g2:=T.Mw
 have g3:=T.EY
 have DB:Def P w K mg base true 1 "text_between" ["words","start","behind"] (vL K):=cW T
 have hle:=hrd.le
 have hd:k+(t.dep+1:Nat)≤21:=hk
 obtain⟨zr,hws,YF⟩:=hrd
 have aik:=YF.le
 have sw:bc K H a (ws.map V.str):=hS
 have e1:(s0:Int)+1=((s0+1:Nat):Int):=by omega
 refine aj (bY ?_)
 walk_at "ex"
 refine gm (λh=>absurd h (by omega)) (λ_=>?_)
 refine aM (aj ?_)
 walk_at "s"
 walk_at "ex"
 refine aQ sw (v:=.str (Str.ofString "not")) (bz (by rw[List.getElem?_map,hws];rfl)) ?_
 refine aj (gf (by rfl) (by rfl) ?_)
 walk_at "ex"
 rw[e1]
 refine⟨b,cs,a,ws,s0+1,_,k,rfl,hC,hS,hl,hz,by omega,by omega,YF,λp1 v1 H1 gh hp1 hv1=>?_⟩
 refine eO (by rfl) (by rfl) (by rfl) (cA.of hp1) (by rfl) (aN (by rfl) (aJ nd (by rfl) (.inl rfl) (.inl rfl) (aN (by rfl) (aJ nd (by rfl) (.inl rfl) (.inl rfl) (cM ?_)))))
 refine aj (bY ?_)
 walk_at "ex"
 refine gm (λ_=>?_) (λh=>absurd rfl h)
 refine aA (bj ?_)
 have M:yg P w K mg base true 2 "NotSieve" (aD mg "NotSieve") ["self","text","one"] (X4 K):=(xx T).make T.JH T.Hu
 walk_at "ex"
 refine jq M hr (by omega) (λ_=>rfl) cN (by rfl) (by decide) (by rfl) (by rfl) ?_
 walk_at "ex"
 refine⟨a,ws,s0,e,rfl,gh.seq hS,hl,hz,by omega,by omega,λH2 iw=>?_⟩
 walk_at "ex"
 intro y dx hy hdx hne
 refine⟨y,_,dx,[],_,_,rfl,ak,T.qN,T.lN,T.xH,by simp,rfl,?_⟩
 walk_at "ex"
 refine⟨by show 2≤sizeLine;omega,λp hp=>?_⟩
 generalize hG:upd (upd (upd (upd H2 dx (.own y)) y (.ins (aD mg "NotSieve") dx [])) y _) y _=G at hp⊢
 have Ga:ao H2 G:=λc o e=>by
  rw[<-hG,az (au e hy),az (au e hy),az (au e hy),az (au e hdx)]
  exact e
 have ey:G y=some (.ins (aD mg "NotSieve") dx [("text",.str (lO ws s0 e)),("one",.ref v1)]):=by
  rw[<-hG]
  exact ak
 have rO:ao G (upd G p (.tup [.ref y,.int e])):=ao.upd hp
 exact q p y _ (((gh.trans iw).trans Ga).trans rO) ak ⟨dx,v1,_,rO _ _ ey,((hv1.same iw).same Ga).same rO⟩
theorem ahC(T:Txt K mg){t u:Tr}{lv l1 l2:Nat}(D1:Def P w K mg base true l1 "read_part" ["columns","words","start","within"] (jj K mg t))(h1:l1≤lv)(D2:True->Def P w K mg base true l2 "read_part" ["columns","words","start","within"] (jj K mg u))(h2:l2≤lv)(h3:3≤lv):Def P w K mg base true (lv+1) "read_of_sieves" ["columns","words","start","within"] (Wq K mg (.bo t u)):=by
 refine gQ T (λvs H Q E h=>by obtain⟨b,cs,a,ws,s,e,k,rfl,_⟩:=h;rfl) (λf cdv A outer s H vs Q E hr h=>?_)
 obtain⟨b,cs,a,ws,s0,e,k,rfl,hC,hS,hl,hz,hk0,hk,ahm,hrd,q⟩:=h
 have nd:=eY.nd
 have hsz:sizeLine=16777216:=sizeLine_eq
 have g1:=T.kI
 have g2:=T.Mw
 have g3:=T.EY
 have DB:Def P w K mg base true 1 "text_between" ["words","start","behind"] (vL K):=cW T
 have hle:=hrd.le
 have hd:k+(max t.dep u.dep+1:Nat)≤21:=hk
 obtain⟨zr,hws,m,YF,hru⟩:=hrd
 have asW:=hru.le
 have aik:=YF.le
 have sw:bc K H a (ws.map V.str):=hS
 have e1:(s0:Int)+1=((s0+1:Nat):Int):=by omega
 refine aj (bY ?_)
 walk_at "ex"
 refine gm (λh=>absurd h (by omega)) (λ_=>?_)
 refine aM (aj ?_)
 walk_at "s"
 walk_at "ex"
 refine aQ sw (v:=.str (Str.ofString "both")) (bz (by rw[List.getElem?_map,hws];rfl)) ?_
 refine aj (gf (by rfl) (by rfl) ?_)
 walk_at "ex"
 rw[e1]
 refine⟨b,cs,a,ws,s0+1,_,k,rfl,hC,hS,hl,hz,by omega,by omega,YF,λp1 v1 H1 gh hp1 hv1=>?_⟩
 refine eO (by rfl) (by rfl) (by rfl) (cA.of hp1) (by rfl) (aN (by rfl) (aJ nd (by rfl) (.inl rfl) (.inl rfl) (aN (by rfl) (aJ nd (by rfl) (.inl rfl) (.inl rfl) (cM ?_)))))
 refine aj (bY ?_)
 walk_at "ex"
 refine gm (λh=>absurd h (by decide+kernel)) (λ_=>?_)
 clear D1
 have D2:=D2 trivial
 refine aM (aj (gf (by rfl) (by rfl) ?_))
 walk_at "ex"
 refine⟨b,cs,a,ws,m,e,k,rfl,hC.same gh,gh.seq hS,hl,hz,by omega,by omega,hru,λp2 v2 H2 iw hp2 hv2=>?_⟩
 refine eO (by rfl) (by rfl) (by rfl) (cA.of hp2) (by rfl) (aN (by rfl) (aJ nd (by rfl) (.inl rfl) (.inl rfl) (aN (by rfl) (aJ nd (by rfl) (.inl rfl) (.inl rfl) (cM ?_)))))
 have Di:=gh.trans iw
 walk_at "A"
 refine⟨a,ws,s0,e,rfl,Di.seq hS,hl,hz,by omega,by omega,λH3 sm3=>?_⟩
 have M:yg P w K mg base true 2 "BothSieve" (aD mg "BothSieve") ["self","text","one","other"] (Qq K):=(lF T).make T.Ih T.En
 refine aj (bY ?_)
 walk_at "ex"
 refine gm (λ_=>?_) (λh=>absurd rfl h)
 refine aA (bj ?_)
 walk_at "ex"
 refine jq M hr (by omega) (λ_=>rfl) cN (by rfl) (by decide) (by rfl) (by rfl) ?_
 walk_at "ex"
 intro y dx hy hdx hne
 refine⟨y,_,dx,[],_,_,_,rfl,ak,T.nR,T.jW,T.uZ,T.rm,by simp,λG ey keep=>⟨rfl,?_⟩⟩
 walk_at "ex"
 refine⟨by show 2≤sizeLine;omega,λp hp=>?_⟩
 have Ga:ao H3 G:=λc o e=>keep _ _ (au e hy) (by rw[az (au e hy),az (au e hdx)];exact e)
 have ey:G y=some (.ins (aD mg "BothSieve") dx [("text",.str (lO ws s0 e)),("one",.ref v1),("other",.ref v2)]):=ey
 have rO:ao G (upd G p (.tup [.ref y,.int e])):=ao.upd hp
 have Zn:=(sm3.trans Ga).trans rO
 exact q p y _ (Di.trans Zn) ak ⟨dx,v1,v2,_,_,rO _ _ ey,(hv1.same iw).same Zn,hv2.same Zn⟩
theorem ag4(T:Txt K mg){t u:Tr}{lv l1 l2:Nat}(D1:Def P w K mg base true l1 "read_part" ["columns","words","start","within"] (jj K mg t))(h1:l1≤lv)(D2:True->Def P w K mg base true l2 "read_part" ["columns","words","start","within"] (jj K mg u))(h2:l2≤lv)(h3:3≤lv):Def P w K mg base true (lv+1) "read_of_sieves" ["columns","words","start","within"] (Wq K mg (.ei t u)):=by
 refine gQ T (λvs H Q E h=>by obtain⟨b,cs,a,ws,s,e,k,rfl,_⟩:=h;rfl) (λf cdv A outer s H vs Q E hr h=>?_)
 obtain⟨b,cs,a,ws,s0,e,k,rfl,hC,hS,hl,hz,hk0,hk,ahm,hrd,q⟩:=h
 have nd:=eY.nd
 have hsz:sizeLine=16777216:=sizeLine_eq
 have g1:=T.kI
 have g2:=T.Mw
 have g3:=T.EY
 have DB:Def P w K mg base true 1 "text_between" ["words","start","behind"] (vL K):=cW T
 have hle:=hrd.le
 have hd:k+(max t.dep u.dep+1:Nat)≤21:=hk
 obtain⟨zr,hws,m,YF,hru⟩:=hrd
 have asW:=hru.le
 have aik:=YF.le
 have sw:bc K H a (ws.map V.str):=hS
 have e1:(s0:Int)+1=((s0+1:Nat):Int):=by omega
 refine aj (bY ?_)
 walk_at "ex"
 refine gm (λh=>absurd h (by omega)) (λ_=>?_)
 refine aM (aj ?_)
 walk_at "s"
 walk_at "ex"
 refine aQ sw (v:=.str (Str.ofString "either")) (bz (by rw[List.getElem?_map,hws];rfl)) ?_
 refine aj (gf (by rfl) (by rfl) ?_)
 walk_at "ex"
 rw[e1]
 refine⟨b,cs,a,ws,s0+1,_,k,rfl,hC,hS,hl,hz,by omega,by omega,YF,λp1 v1 H1 gh hp1 hv1=>?_⟩
 refine eO (by rfl) (by rfl) (by rfl) (cA.of hp1) (by rfl) (aN (by rfl) (aJ nd (by rfl) (.inl rfl) (.inl rfl) (aN (by rfl) (aJ nd (by rfl) (.inl rfl) (.inl rfl) (cM ?_)))))
 refine aj (bY ?_)
 walk_at "ex"
 refine gm (λh=>absurd h (by decide+kernel)) (λ_=>?_)
 clear D1
 have D2:=D2 trivial
 refine aM (aj (gf (by rfl) (by rfl) ?_))
 walk_at "ex"
 refine⟨b,cs,a,ws,m,e,k,rfl,hC.same gh,gh.seq hS,hl,hz,by omega,by omega,hru,λp2 v2 H2 iw hp2 hv2=>?_⟩
 refine eO (by rfl) (by rfl) (by rfl) (cA.of hp2) (by rfl) (aN (by rfl) (aJ nd (by rfl) (.inl rfl) (.inl rfl) (aN (by rfl) (aJ nd (by rfl) (.inl rfl) (.inl rfl) (cM ?_)))))
 have Di:=gh.trans iw
 walk_at "A"
 refine⟨a,ws,s0,e,rfl,Di.seq hS,hl,hz,by omega,by omega,λH3 sm3=>?_⟩
 have M:yg P w K mg base true 2 "EitherSieve" (aD mg "EitherSieve") ["self","text","one","other"] (Qq K):=(lF T).make T.Ak T.zV
 refine aj (bY ?_)
 walk_at "ex"
 refine gm (λh=>absurd h (by decide+kernel)) (λ_=>?_)
 refine aM (aA (bj ?_))
 walk_at "ex"
 refine jq M hr (by omega) (λ_=>rfl) cN (by rfl) (by decide) (by rfl) (by rfl) ?_
 walk_at "ex"
 intro y dx hy hdx hne
 refine⟨y,_,dx,[],_,_,_,rfl,ak,T.kY,T.jg,T.qO,T.oX,by simp,λG ey keep=>⟨rfl,?_⟩⟩
 walk_at "ex"
 refine⟨by show 2≤sizeLine;omega,λp hp=>?_⟩
 have Ga:ao H3 G:=λc o e=>keep _ _ (au e hy) (by rw[az (au e hy),az (au e hdx)];exact e)
 have ey:G y=some (.ins (aD mg "EitherSieve") dx [("text",.str (lO ws s0 e)),("one",.ref v1),("other",.ref v2)]):=ey
 have rO:ao G (upd G p (.tup [.ref y,.int e])):=ao.upd hp
 have Zn:=(sm3.trans Ga).trans rO
 exact q p y _ (Di.trans Zn) ak ⟨dx,v1,v2,_,_,rO _ _ ey,(hv1.same iw).same Zn,hv2.same Zn⟩
theorem vZ(T:Txt K mg):∀t:Tr,Def P w K mg base true (8+2*t.dep) "read_part" ["columns","words","start","within"] (jj K mg t)
 | .one sv=>ai5 T sv
 | .nt t=>by
   have h:=Zc T (z:="not") (lv:=8+2*t.dep+1) rfl (by omega) (ajd T (lv:=8+2*t.dep) (vZ T t) (Nat.le_refl _) (by omega))
   have e:8+2*(Tr.nt t).dep=8+2*t.dep+1+1:=by show 8+2*(t.dep+1)=_;omega
   rw[e]
   exact h
 | .bo t u=>by
   have h:=Zc T (z:="both") (lv:=8+2*max t.dep u.dep+1) rfl (by omega) (ahC T (lv:=8+2*max t.dep u.dep) (vZ T t) (by omega) (λ_=>vZ T u) (by omega) (by omega))
   have e:8+2*(Tr.bo t u).dep=8+2*max t.dep u.dep+1+1:=by show 8+2*(max t.dep u.dep+1)=_;omega
   rw[e]
   exact h
 | .ei t u=>by
   have h:=Zc T (z:="either") (lv:=8+2*max t.dep u.dep+1) rfl (by omega) (ag4 T (lv:=8+2*max t.dep u.dep) (vZ T t) (by omega) (λ_=>vZ T u) (by omega) (by omega))
   have e:8+2*(Tr.ei t u).dep=8+2*max t.dep u.dep+1+1:=by show 8+2*(max t.dep u.dep+1)=_;omega
   rw[e]
   exact h
def Bg(mg:Str->Option Value)(t:Tr):Sp:=λvs H Q _=>∃(b:Addr) (cs:List bK) (z:Str),vs=[.ref b,.str z]/\gO H b cs/\z.length≤3000/\(∀y∈cX 32 z,y.length≤1000)/\t.dep≤20/\Reads cs (cX 32 z) t 0 (cX 32 z).length/\∀v H',ao H H'->m9 mg H' t v (lO (cX 32 z) 0 (cX 32 z).length)->Q (.ref v) H'
theorem Ao(T:Txt K mg)(t:Tr):Def P w K mg base true (9+2*t.dep) "read_sieve" ["columns","text"] (Bg mg t):=by
 have e9:9+2*t.dep=(8+2*t.dep)+1:=by omega
 rw[e9]
 refine Ay T (λvs H Q E h=>by obtain⟨b,cs,z,rfl,_⟩:=h;rfl) (λf cdv A outer s H vs Q E hr h=>?_)
 obtain⟨b,cs,z,rfl,hC,hz,hzs,hdp,hrd,q⟩:=h
 have nd:=pW.nd
 have n1:=T.jC
 have hsz:sizeLine=16777216:=sizeLine_eq
 have D1:Def P w K mg base true (8+2*t.dep) "read_part" ["columns","words","start","within"] (jj K mg t):=vZ T t
 have hcl:=Hf 32 z
 refine aj ?_
 walk_at "s"
 refine jf F.plainAttrs_str F.slot_str_split F.type_str_split (by rfl) (by rfl) (by rfl) (by rfl) (by rfl) ?_
 walk_at "go"
 refine m_split (c:=32) (by omega) λp hp=>?_
 have gh:ao H (upd H p (.lst ((cX 32 z).map V.str))):=ao.upd hp
 have ep:(upd H p (.lst ((cX 32 z).map V.str))) p=some (.lst ((cX 32 z).map V.str)):=ak
 generalize upd H p (.lst ((cX 32 z).map V.str))=H1 at gh ep⊢
 refine aj (gf (by rfl) (by rfl) ?_)
 walk_at "ex"
 refine⟨b,cs,p,cX 32 z,0,_,0,rfl,hC.same gh,bc.of ep,by omega,hzs,by decide,by omega,hrd,λpr v H2 iw hpt hsv=>?_⟩
 refine eO (by rfl) (by rfl) (by rfl) (cA.of hpt) (by rfl) (aN (by rfl) (aJ nd (by rfl) (.inl rfl) (.inl rfl) (aN (by rfl) (aJ nd (by rfl) (.inl rfl) (.inl rfl) (cM ?_)))))
 have SP2:bc K H2 p ((cX 32 z).map V.str):=bc.of (iw _ _ ep)
 have zY:((cX 32 z).map V.str).length=(cX 32 z).length:=List.length_map ..
 refine aj ?_
 walk_at "go"
 rw[zY]
 refine gm (λh=>absurd h (by omega)) (λ_=>?_)
 walk_at "go"
 exact q v H2 (gh.trans iw) hsv
theorem iu(T:Txt K mg):Def P w K mg base true 2 "read_order_word" ["columns","word"] (Hk (.ref (aD mg "NoOrder"))):=by
 refine qQ T (λvs H Q E h=>by obtain⟨a,cs,z,rfl,_⟩:=h;rfl) (λf cdv A outer s H vs Q E hr h=>?_)
 obtain⟨a,cs,z,rfl,hC,hz,qe,q⟩:=h
 have g1:=T.ym
 have g2:=T.tU
 have nd:=jN.nd
 have D1:Def P w K mg base true 1 "place_of" ["columns","name"] xX:=jL T
 have hsz:sizeLine=16777216:=sizeLine_eq
 have hcl:=pF z (some 1) none
 have e1:(Str.ofString "+").cps.toList=[43]:=by decide+kernel
 have e2:(Str.ofString "-").cps.toList=[45]:=by decide+kernel
 have es:(bV z none (some 1)).cps.toList=z.cps.toList.take 1:=uq z 1
 have key:∀c:Nat,z.cps.toList.take 1=[c]↔z.cps.toList[0]? =some c:=λc=>by
  cases z.cps.toList with
  |nil=>simp
  |cons x r=>simp
 have k1:V.str (bV z none (some 1))=V.str "+"↔z.cps.toList[0]? =some 43:=by
  rw[<-key]
  constructor
  .intro h
   have h2:bV z none (some 1)=Str.ofString "+":=by injection h
   rw[<-es,h2,e1]
  .intro h
   have h2:bV z none (some 1)=Str.ofString "+":=bQ (by rw[es,h,e1])
   rw[h2]
 have k2:V.str (bV z none (some 1))=V.str "-"↔z.cps.toList[0]? =some 45:=by
  rw[<-key]
  constructor
  .intro h
   have h2:bV z none (some 1)=Str.ofString "-":=by injection h
   rw[<-es,h2,e2]
  .intro h
   have h2:bV z none (some 1)=Str.ofString "-":=bQ (by rw[es,h,e2])
   rw[h2]
 refine aj ?_
 walk_at "go"
 refine m7 (by omega) ?_
 walk_at "go"
 refine m7 (by omega) ?_
 walk_at "go"
 refine⟨by show 2≤sizeLine;omega,λp hp=>?_⟩
 have Nq:ao H (upd H p (.tup [.str "+",.str "-"])):=ao.upd hp
 have ep:(upd H p (.tup [.str "+",.str "-"])) p=some (.tup [.str "+",.str "-"]):=ak
 generalize upd H p (.tup [.str "+",.str "-"])=H0 at Nq ep⊢
 refine aea (cA.of ep) (by rfl) (by rfl) ?_
 have ei:PX (V.str (bV z none (some 1))) [.str "+",.str "-"]=decide (z.cps.toList[0]? =some 43\/z.cps.toList[0]? =some 45):=by
  have e3:∀y:Str,Ph (V.str y) (V.str (bV z none (some 1)))=decide (V.str (bV z none (some 1))=V.str y):=λy=>by
   rw[Bool.eq_iff_iff,decide_eq_true_eq]
   constructor
   .intro h
    have :V.str y=V.str (bV z none (some 1)):=by simpa [Ph]using h
    exact this.symm
   .intro h
    rw[h]
    simp[Ph]
  rw[Bool.eq_iff_iff,decide_eq_true_eq, <-k1, <-k2]
  show((Ph _ _||(Ph _ _||false))=true)↔_
  rw[e3,e3,Bool.or_false,Bool.or_eq_true,decide_eq_true_eq,decide_eq_true_eq]
 rw[ei]
 walk_at "go"
 refine Hg (λh=>?_) (λh=>?_)
 .refine aA (lC cN (by rfl) T.pH (by rfl) (by decide) (by rfl) (by rfl) ?_)
  walk_at "go"
  refine xU ?_
  walk_at "e"
  refine⟨z,rfl,by omega,_,4000,rfl,hz,by omega,?_⟩
  walk_at "go"
  intro zz
  walk_at "go"
  exact⟨by rw[hsz];simp,qe H0 Nq (if_neg λx=>h x.1)⟩
 .refine aM ?_
  walk_at "go"
  refine⟨a,cs,_,rfl,hC.same Nq,λH1 gh=>?_⟩
  have iw:=Nq.trans gh
  walk_at "go"
  refine gm (λh2=>?_) (λh2=>?_)
  .refine aA (lC cN (by rfl) T.pH (by rfl) (by decide) (by rfl) (by rfl) ?_)
   walk_at "go"
   refine xU ?_
   walk_at "e"
   refine⟨_,rfl,by omega,_,4000,rfl,by omega,by omega,?_⟩
   walk_at "go"
   intro zz
   walk_at "go"
   exact⟨by rw[hsz];simp,qe H1 iw (if_neg λx=>x.2 h2)⟩
  .refine aM ?_
   walk_at "go"
   refine⟨by show 2≤sizeLine;omega,λt ht=>?_⟩
   refine q t _ _ (iw.trans (ao.upd ht)) (if_pos ⟨h,h2⟩) ?_
   rw[ak]
   have e4:decide (V.str (bV z none (some 1))=V.str (Str.ofString "+"))=decide (z.cps.toList[0]? =some 43):=decide_eq_decide.mpr k1
   rw[e4]
theorem mH(T:Txt K mg):Def P w K mg base true 3 "read_order" ["columns","text"] (Ni (.ref (aD mg "NoOrder"))):=by
 refine Aa T (λvs H Q E h=>by obtain⟨a,cs,z,rfl,_⟩:=h;rfl) (λf cdv A outer s H vs Q E hr h=>?_)
 obtain⟨a,cs,z,rfl,hC,hz,qe,q⟩:=h
 have g1:=T.xG
 have n1:=T.jC
 have n2:=T.agb
 have nd:=p7.nd
 have nd1:(["word","columns"]:List Str).Nodup:=by decide+kernel
 have Ve:(["name","up"]:List Str).Nodup:=by decide+kernel
 have D1:Def P w K mg base true 2 "read_order_word" ["columns","word"] (Hk (.ref (aD mg "NoOrder"))):=iu T
 have hsz:sizeLine=16777216:=sizeLine_eq
 unfold pL at qe q
 refine aj ?_
 walk_at "go"
 refine gm (λh=>?_) (λh=>?_)
 .have h':z="":=by injection h
  walk_at "go"
  refine⟨by show 0≤sizeLine;omega,λp hp=>?_⟩
  exact q p [] _ (ao.upd hp) (if_pos h') hp ⟨[],ak,.nil⟩
 .have h':¬z="":=λe=>h (by rw[e])
  rw[if_neg h']at qe q
  refine aM ?_
  refine aj ?_
  walk_at "s"
  refine jf PySem.F.plainAttrs_str PySem.F.slot_str_split PySem.F.type_str_split (by rfl) (by rfl) (by rfl) (by rfl) (by rfl) ?_
  walk_at "go"
  refine m_split (c:=32) (by omega) λp1 hp1=>?_
  have hwl:=Hf 32 z
  have hws:=λy=> @Ky 32 z y
  generalize cX 32 z=ws at qe q hwl hws⊢
  have gh:ao H (upd H p1 (.lst (ws.map V.str))):=ao.upd hp1
  have ep1:(upd H p1 (.lst (ws.map V.str))) p1=some (.lst (ws.map V.str)):=ak
  generalize upd H p1 (.lst (ws.map V.str))=H1 at gh ep1⊢
  have zY:(ws.map V.str).length=ws.length:=List.length_map ..
  have S1:bc K H1 p1 (ws.map V.str):=bc.of ep1
  walk_at "go"
  rw[zY]
  refine gm (λh2=>?_) (λh2=>?_)
  .refine aA (lC cN (by rfl) T.pH (by rfl) (by decide) (by rfl) (by rfl) ?_)
   walk_at "go"
   exact⟨by rw[hsz];simp,qe H1 gh (if_pos (by omega))⟩
  .rw[if_neg (by omega)]at qe q
   refine aM ?_
   refine aj ?_
   refine NK ["word","columns"] (σ':=[none,some (.ref a)]) (by rfl) cN rfl rfl (by rfl) (by rfl) (b7 (aa bO) (by rfl) (by rfl) (by decide+kernel)) (by intro _;rfl) nd (by rfl) (by rfl) ?_
   walk_at "go"
   refine⟨p1,_,rfl,S1,by rw[zY];omega,λτ=>∃o,τ=[o,some (.ref a)],λE' i v H'=>∃y,ws[i]? =some y/\∃o,sr cs y=some o/\∃t,v= .ref t/\t≠E'/\H' t=some (.tup [.str o.1,.bl o.2]),⟨none,rfl⟩,λE' i v H2 H3 ys _ hk hp=>?_,λfp E' C s3 H0 F i τ x H2 H3 xo hE hi hτ iw hys hG=>?_,λE' H2 xs hE hl hx e2 iw=>?_⟩
   .obtain⟨y,a1,o,a2,t,a3,a4,a5⟩:=hp
    exact⟨y,a1,o,a2,t,a3,a4,hk t _ a4 a5⟩
   .obtain⟨o,rfl⟩:=hτ
    obtain⟨hx,rfl⟩:=hG
    rw[List.getElem?_map]at hx
    obtain⟨y,ey,rfl⟩:=Option.map_eq_some_iff.mp hx
    have hyl:=hws y (List.mem_of_getElem? ey)
    refine aJ nd1 (by rfl) (.inl rfl) (.inr rfl) ?_
    walk_at "go"
    have sm3:=gh.trans iw
    refine⟨a,cs,y,rfl,hC.same sm3,by omega,λH' nj e=>?_,λt o H' nj e et=>?_⟩
    .exact qe H' (sm3.trans nj) (by rw[BW (List.mem_of_getElem? ey) e])
    .obtain⟨ys,hy1,_⟩:=hys
     refine⟨⟨_,rfl⟩,⟨y,ey,o,e,t,rfl,λz=>?_,et⟩,nj⟩
     rw[z,nj _ _ hy1]at et
     cases et
   .obtain⟨os,eo,ha⟩:=Mq (f:=sr cs) (R:=Bs H2) (ws:=ws) (xs:=xs) (by rw[hl,zY]) λi v e=>by
     obtain⟨y,a1,o,a2,t,a3,a4,a5⟩:=hx i v e
     exact⟨y,a1,o,a2,t,a3,a5⟩
    rw[eo]at qe q
    have hol:=ha.len
    have sm3:=gh.trans iw
    have hEn:H E'=none:=by
     cases e:H E' with
     |none=>rfl
     |some u=>rw[gh _ _ e]at hE;cases hE
    refine aj ?_
    refine GZ ["name","up"] (σ':=[none,none]) (by rfl) (by rfl) (by rfl) (b7 (aa bO) (by rfl) (by rfl) (by decide+kernel)) (by intro _;rfl) nd (by rfl) (by rfl) ?_
    walk_at "go"
    refine⟨E',xs,rfl,bc.of e2,by rw[hl,zY];omega,λτ=>∃o1 o2,τ=[o1,o2],λE2 i u H'=>∃c,os[i]? =some c/\u= .str c.1,⟨none,none,rfl⟩,λE2 i u H2 H3 ys _ _ p=>p,λfp E2 C s3 H0 i τ x H4 H3 Lb hi hτ nj hys hG=>?_,λE2 H4 ys Lb hl2 hx2 e4 nj=>?_⟩
    .obtain⟨o1,o2,rfl⟩:=hτ
     obtain⟨Gp,rfl⟩:=hG
     obtain⟨c,hc,t,rfl,ht⟩:=ha.get Gp
     refine eO (by rfl) (by rfl) (by rfl) (cA.of (nj _ _ ht)) (by rfl) (aN (by rfl) (aJ Ve (by rfl) (.inl rfl) (.inr rfl) (aN (by rfl) (aJ Ve (by rfl) (.inl rfl) (.inr rfl) (cM ?_)))))
     walk_at "go"
     exact⟨⟨_,_,rfl⟩,⟨c,hc,rfl⟩,ao.refl _⟩
    .have ey:=dw (ys:=os) (λc=>V.str c.1) (by rw[hl2,hol]) hx2
     have Lg:ys=(os.map Prod.fst).map V.str:=by rw[ey,List.map_map];rfl
     subst Lg
     have hnl:(os.map Prod.fst).length≤4000:=by simp;omega
     refine aj ?_
     walk_at "go"
     refine Y6 (by rfl) (bc.of e4) hnl λS hS=>?_
     walk_at "go"
     refine afd ak hnl ?_
     walk_at "go"
     refine Ck (.inl (bc.of ((ao.upd hS) _ _ e4))) ?_
     walk_at "go"
     have Ik:ao H2 (upd H4 S (zx (w6 true P w K mg base jk "read_order" (aa bO) f cdv A outer s H E) S (os.map Prod.fst))):=nj.trans (ao.upd hS)
     have Ys:=yo _ (os.map Prod.fst) rfl
     generalize upd H4 S (zx (w6 true P w K mg base jk "read_order" (aa bO) f cdv A outer s H E) S (os.map Prod.fst))=H5 at Ik⊢
     rw[List.length_map (f:=V.str)]
     refine Hg (λh3=>?_) (λh3=>?_)
     .have h4:¬(os.map Prod.fst).Nodup:=λz=>h3 (by rw[Ys.mpr z])
      refine aA (lC cN (by rfl) T.pH (by rfl) (by decide) (by rfl) (by rfl) ?_)
      walk_at "go"
      exact⟨by rw[hsz];simp,qe H5 (sm3.trans Ik) (if_neg h4)⟩
     .have h4:(os.map Prod.fst).Nodup:=Ys.mp (by injection h3 with h5;omega)
      refine aM ?_
      walk_at "go"
      exact q E' os H5 (sm3.trans Ik) (if_pos h4) hEn ⟨xs,Ik _ _ e2,ha.imp λu c r=>r.same Ik⟩
def jd(kd:Str)(v:V):Prop:=v= .non\/(kd="number"/\∃i,v= .int i/\ -1000000000000000000≤i/\i≤1000000000000000000)\/(¬kd="number"/\∃z,v= .str z/\z.length≤20/\∀c∈z.cps.toList,c∈SG)
theorem jd.sc{kd:Str}{v:V}(h:jd kd v):scalar v=true:=by
 rcases h with rfl |⟨_,i,rfl,_⟩ |⟨_,z,rfl,_⟩<;>rfl
theorem jd.YQ{kd:Str}{v:V}(h:jd kd v):YQ v=true/\∀z,v= .str z->Od 4000 z:=by
 rcases h with rfl |⟨_,i,rfl,_⟩ |⟨_,z,rfl,hl,hz⟩
 .exact⟨rfl,λz e=>by cases e⟩
 .exact⟨rfl,λz e=>by cases e⟩
 .exact⟨rfl,λy e=>by cases e;exact Od.sg (by omega) hz⟩
abbrev SG1:Str:=Str.ofString "ab-abcdefghijklmnopqrstuvwxyz0123456789-"
theorem Ng:SG1.length=40:=by decide+kernel
theorem ab4:∀c∈SG1.cps.toList,c∈SG:=by decide+kernel
def yI(K:W.Frag):Sp:=λvs H Q _=>∃(a:Addr) (ns:List Int) (k:Int) (kd:Str),vs=[.ref a,.int k,.str kd]/\bc K H a (ns.map V.int)/\ns.length≤63/\0≤k/\k≤50000/\∀v H',ao H H'->jd kd v->Q v H'
theorem jl(T:Txt K mg):Def P w K mg base true 2 "_law_value" ["_law_script","_law_k","_law_kind"] (yI K):=by
 refine Aj T (λvs H Q E h=>by obtain⟨a,ns,k,kd,rfl,_⟩:=h;rfl) (λf cdv A outer s H vs Q E hr h=>?_)
 obtain⟨a,ns,k,kd,rfl,hS,hl,hk0,hk1,q⟩:=h
 have nd:=qd.nd
 have n1:=T.jC
 have n2:=T.jt
 have hsz:sizeLine=16777216:=sizeLine_eq
 have zY:(ns.map V.int).length=ns.length:=List.length_map ..
 have D1:Def P w K mg base true 1 "_law_draw" ["_law_script","_law_k","_law_many"] (kO K):=cD T
 refine aj ?_
 walk_at "go"
 refine⟨a,ns,k,8,rfl,hS,hl,by omega,by omega,by decide,?_⟩
 have w0:=bf ns k (m:=8) (by decide)
 have w1:=bh ns k (m:=8) (by decide)
 obtain⟨way,ew⟩:=Int.eq_ofNat_of_zero_le w0
 rw[ew]at w1⊢
 walk_at "go"
 refine gm (λh0=>?_) (λh0=>?_)
 .walk_at "go"
  exact q _ _ (ao.refl _) (.inl rfl)
 .have ayP:1≤way:=by
   rcases Nat.eq_zero_or_pos way with e |e
   .exact absurd (by rw[e];rfl) h0
   .exact e
  walk_at "go"
  refine gm (λh=>?_) (λh=>?_)
  .have hn:kd="number":=by injection h
   have num:∀(cell:Int) (D:Ends),D.rt=Q->lz (w6 true P w K mg base mR "_law_value" (aa cB) f cdv A outer s H E) ((abd (OD (aq cB) 2)).drop 1) D [some (.ref a),some (.int k),some (.str kd),some (.int way),some (.int cell),none,none,none] H:=by
    intro cell D hD
    have c0:=Int.emod_nonneg cell (b:=2*1000000000000000000+1) (by decide)
    have c1:=Int.emod_lt_of_pos cell (b:=2*1000000000000000000+1) (by decide)
    refine aj ?_
    walk_at "go"
    generalize cell % (2*1000000000000000000+1)=z at c0 c1⊢
    refine⟨by show 7≤sizeLine;omega,λp hp=>?_⟩
    walk_at "go"
    obtain⟨v,e1,e2⟩:=xT (xs:=[V.int 0,V.int 1,V.int (-1),V.int 10,V.int (z-1000000000000000000),V.int 1000000000000000000,V.int (0-1000000000000000000)]) (i:=(way:Int)-1) (by omega) (by show _<(7:Int);omega)
    refine aQ (bc.of ak) e1 ?_
    have hv:∃i,v= .int i/\ -1000000000000000000≤i/\i≤1000000000000000000:=by
     simp only[List.mem_cons,List.not_mem_nil,or_false]at e2
     rcases e2 with rfl |rfl |rfl |rfl |rfl |rfl |rfl<;>exact⟨_,rfl,by omega,by omega⟩
    show D.rt _ _
    rw[hD]
    exact q _ _ (ao.upd hp) (.inr (.inl ⟨hn,hv⟩))
   walk_at "go"
   rw[zY]
   refine gm (λh3=>?_) (λh3=>?_)
   .walk_at "go"
    rw[zY]
    walk_at "go"
    refine aQ hS (Mz 0 (Int.emod_nonneg _ (by omega)) (Int.emod_lt_of_pos _ (by omega))) ?_
    exact num _ _ rfl
   .walk_at "ex"
    exact num _ _ rfl
  .have hn:¬kd="number":=λe=>h (by rw[e])
   walk_at "go"
   refine⟨by show 7≤sizeLine;omega,λp hp=>?_⟩
   have rO:=ao.upd (H:=H) (o:=.lst [V.int 0,V.int 1,V.int 1,V.int 2,V.int 3,V.int 5,V.int 20]) hp
   walk_at "go"
   obtain⟨v,e1,e2⟩:=xT (xs:=[V.int 0,V.int 1,V.int 1,V.int 2,V.int 3,V.int 5,V.int 20]) (i:=(way:Int)-1) (by omega) (by show _<(7:Int);omega)
   refine aQ (bc.of ak) e1 ?_
   obtain⟨sz,rfl,aye⟩:∃sz:Nat,v= .int sz/\sz≤20:=by
    simp only[List.mem_cons,List.not_mem_nil,or_false]at e2
    rcases e2 with rfl |rfl |rfl |rfl |rfl |rfl |rfl
    .exact⟨0,rfl,by decide⟩
    .exact⟨1,rfl,by decide⟩
    .exact⟨1,rfl,by decide⟩
    .exact⟨2,rfl,by decide⟩
    .exact⟨3,rfl,by decide⟩
    .exact⟨5,rfl,by decide⟩
    .exact⟨20,rfl,by decide⟩
   generalize upd H p _=H1 at rO⊢
   have awX:(way:Int) / 4=0\/(way:Int) / 4=1:=by omega
   walk_at "go"
   refine zM ["_law_j","_law_k","_law_script","_law_signs","_law_way"] (σ':=[none,some (.int k),some (.ref a),some (.str SG1),some (.int way)]) (by rfl) (by rfl) (b7 (aa cB) (by rfl) (by rfl) (by decide+kernel)) (by decide+kernel) (by rfl) (by rfl) (by rfl) n2 (by rfl) ?_
   walk_at "e"
   refine⟨sz,rfl,by omega,by omega,λi v=>∃c,c∈SG/\v= .str ⟨#[c]⟩,λfp E' C s3 H0 i H2 hi sm=>?_,λE' H2 xs hE hl2 hx e2 gh=>?_⟩
   .have hi':i<sz:=by simpa using hi
    walk_at "go"
    refine⟨by show 2≤sizeLine;omega,λy hy=>?_⟩
    have Q3:=ao.upd (H:=H2) (o:=.lst [V.int 3,V.int 40]) hy
    walk_at "go"
    obtain⟨v,g1,g2⟩:=xT (xs:=[V.int 3,V.int 40]) (i:=(way:Int) / 4) (by omega) (by show _<(2:Int);omega)
    refine aaq ⟨by omega,by omega⟩ ?_
    refine aQ (bc.of ak) g1 ?_
    obtain⟨mm,rfl,hm1,hm2⟩:∃mm:Int,v= .int mm/\0<mm/\mm≤40:=by
     simp only[List.mem_cons,List.not_mem_nil,or_false]at g2
     rcases g2 with rfl |rfl
     .exact⟨3,rfl,by decide,by decide⟩
     .exact⟨40,rfl,by decide,by decide⟩
    generalize upd H2 y _=H3 at Q3⊢
    walk_at "go"
    refine⟨a,ns,k+7*i+1,mm,rfl,((rO.trans sm).trans Q3).seq hS,hl,by omega,by omega,hm1,?_⟩
    have d0:=bf ns (k+7*i+1) (m:=mm) hm1
    have d1:=bh ns (k+7*i+1) (m:=mm) hm1
    obtain⟨d,ed⟩:=Int.eq_ofNat_of_zero_le d0
    rw[ed]at d1⊢
    have apA:=L2.len_list SG1
    have hg:SG1.cps.toList[d]? =some (SG1.cps.toList.getD d 0):=by
     rw[List.getD_eq_getElem?_getD,List.getElem?_eq_getElem (by rw[<-apA,Ng];omega)]
     rfl
    refine xg (by rw[Ng];omega) (bz hg) ⟨⟨_,ab4 _ (List.mem_of_getElem? hg),rfl⟩,Q3⟩
   .have Gp:∃cs:List Nat,xs=(cs.map λc=>(⟨#[c]⟩:Str)).map V.str/\∀c∈cs,c∈SG:=by
     have :∀(xs:List V),(∀v∈xs,∃c,c∈SG/\v= .str ⟨#[c]⟩)->∃cs:List Nat,xs=(cs.map λc=>(⟨#[c]⟩:Str)).map V.str/\∀c∈cs,c∈SG:=by
      intro xs
      induction xs with
      |nil=>exact λ_=>⟨[],rfl,λc hc=>by simp at hc⟩
      |cons v r ih=>
       intro h
       obtain⟨c,hc,rfl⟩:=h v (List.mem_cons_self ..)
       obtain⟨cs,rfl,h2⟩:=ih λv hv=>h v (List.mem_cons_of_mem _ hv)
       exact⟨c::cs,rfl,λx hx=>(List.mem_cons.mp hx).elim (λe=>e▸hc) (h2 x)⟩
     refine this xs λv hv=>?_
     obtain⟨i,hi,e⟩:=List.getElem_of_mem hv
     exact hx i v (by rw[List.getElem?_eq_getElem hi,e])
    obtain⟨cs,rfl,hcs⟩:=Gp
    have hcl:cs.length=sz:=by simpa using hl2
    walk_at "go"
    refine oR (bc.of e2) ?_ ?_
    .have e0:(Str.ofString "").length=0:=by decide+kernel
     rw[uy,List.length_map,e0]
     omega
    rw[my]
    refine q _ _ (rO.trans gh) (.inr (.inr ⟨hn,_,rfl,?_,?_⟩))
    .rw[L2.len_list]
     show cs.length≤20
     omega
    .intro c hc
     exact hcs c (by simpa using hc)
theorem _root_.Vl.eU.Xw{α β:Type}{R:α->β->Prop}:∀{l:List α} {m:List β},eU R l m->∀b∈m,∃a,a∈l/\R a b
 |_,_,.nil,b,hb=>by simp at hb
 |_,_,.cons (a:=a) r t,b,hb=>by
  rcases List.mem_cons.mp hb with e |e
  .subst e;exact⟨a,by simp,r⟩
  .obtain⟨a',h1,h2⟩:=t.Xw b e
   exact⟨a',by simp[h1],h2⟩
theorem jd.word{kd:Str}{v:V}(h:jd kd v)(hk:kd="number"\/kd="text"):j4 kd (wordOf v)=some v/\(wordOf v).length≤21/\32∉(wordOf v).cps.toList/\¬wordOf v=Str.ofString "*"/\(∀c∈(wordOf v).cps.toList,c<1114112):=by
 rcases h with rfl |⟨hn,i,rfl,h1,h2⟩ |⟨hn,z,rfl,hl,hz⟩
 .refine⟨?_,by decide+kernel,by decide+kernel,by decide+kernel,by decide+kernel⟩
  unfold j4
  rw[if_pos (show wordOf .non=Str.ofString "?" from rfl)]
 .subst hn
  have hf:=iK i
  refine⟨O6 h1 h2,?_,λh=>?_,λh=>?_,λc hc=>?_⟩
  .have :=eQ (i:=i) (k:=19) (by decide) (by omega)
   show(Str.ofString (toString i)).length≤21
   omega
  .have :=hf 32 h
   omega
  .have h':Str.ofString (toString i)=Str.ofString "*":=h
   have e:(Str.ofString "*").cps.toList=[42]:=by decide+kernel
   have :=hf 42 (by rw[h',e];simp)
   omega
  .have :=hf c hc
   omega
 .have hk':kd="text":=hk.resolve_left hn
  subst hk'
  have e1:(Str.ofString "'").length=1:=by decide+kernel
  have e3:=len_app (Str.ofString "'") z
  have hsg:∀c∈SG,¬c=32/\c<1114112:=by decide+kernel
  have hmem:∀c∈(Str.ofString "'"++z).cps.toList,c=39\/c∈SG:=λc hc=>by
   rw[bw,yd]at hc
   rcases List.mem_append.mp hc with h |h
   .exact .inl (by simpa using h)
   .exact .inr (hz c h)
  refine⟨Ot hl hz,by show(Str.ofString "'"++z).length≤21;omega,λh=>?_,λh=>?_,λc hc=>?_⟩
  .rcases hmem 32 h with e |e
   .omega
   .exact(hsg 32 e).1 rfl
  .have h':Str.ofString "'"++z=Str.ofString "*":=h
   have e:(Str.ofString "*").cps.toList=[42]:=by decide+kernel
   have h0:(Str.ofString "'"++z).cps.toList[0]? =some 39:=by rw[bw,yd];rfl
   rw[h',e]at h0
   simp at h0
  .rcases hmem c hc with e |e
   .omega
   .exact(hsg c e).2
theorem KC{cs:List bK}{c:bK}:∀(i:Nat),c∈cs->jb cs c.1 i≠ .non:=by
 induction cs with
 |nil=>intro i h;simp at h
 |cons d r ih=>
  intro i h
  unfold jb
  by_cases e:d.1=c.1
  .rw[if_pos e]
   intro z
   cases z
  .rw[if_neg e]
   rcases List.mem_cons.mp h with z |z
   .subst z;exact absurd rfl e
   .exact ih (i+1) z
theorem Cy:(Str.ofString "+").cps.toList=[43]/\(Str.ofString "-").cps.toList=[45]/\(Str.ofString " ").cps.toList=[32]/\(Str.ofString "").cps.toList=[]:=by decide+kernel
theorem amD{x:Nat}{n:Str}:bV (⟨#[x]⟩++n) (some 1) none=n:=by
 apply bQ
 rw[show(bV (⟨#[x]⟩++n) (some 1) none).cps.toList=(⟨#[x]⟩++n:Str).cps.toList.drop 1 from lM _ 1,bw]
 rfl
theorem Js{cs:List bK}{o:Ord}{c:bK}(hc:c∈cs)(e:c.1=o.1):sr cs (dB o)=some o:=by
 obtain⟨n,up⟩:=o
 have hp:jb cs n 0≠ .non:=by rw[<-show c.1=n from e];exact KC 0 hc
 have key:∀x:Nat,(x=43\/x=45)->sr cs (⟨#[x]⟩++n)=some (n,decide (x=43)):=λx hx=>by
  unfold sr
  rw[amD]
  have h0:(⟨#[x]⟩++n:Str).cps.toList[0]? =some x:=by rw[bw];rfl
  rw[h0,if_pos ⟨by rcases hx with z |z<;>simp[z],hp⟩]
  simp
 unfold dB
 cases up with
 |true=>exact key 43 (.inl rfl)
 |false=>exact key 45 (.inr rfl)
theorem Pq{o:Ord}(h:32∉o.1.cps.toList):32∉(dB o).cps.toList:=by
 unfold dB
 rw[bw]
 obtain⟨e1,e2,_⟩:=Cy
 split
 .rw[e1];simpa using h
 .rw[e2];simpa using h
theorem Kf:∀{ps:List Str},Str.join " " ps=""->ps=[]\/ps=[Str.ofString ""]
 |[],_=>.inl rfl
 |[p],h=>.inr (by rw[show p="" from h])
 |p::q::r,h=>by
  have e:(Str.join " " (p::q::r)).cps.toList=lB 32 ((p::q::r).map λp=>p.cps.toList):=jx 32 _
  rw[h]at e
  have e2:([]:List Nat)=p.cps.toList++32::lB 32 ((q::r).map λp=>p.cps.toList):=e
  have :=congrArg List.length e2
  simp at this
theorem Ol{cs:List bK}{os:List Ord}(hl:os.length≤4)(hn:(os.map Prod.fst).Nodup)(hc:∀o∈os,∃c∈cs,c.1=o.1)(hf:∀o∈os,32∉o.1.cps.toList):pL cs (u9 os)=some os:=by
 unfold pL u9
 by_cases h0:os=[]
 .subst h0
  exact if_pos (by decide+kernel)
 .have h1:os.map dB≠[]:=by simpa using h0
  have hw:∀p∈os.map dB,32∉p.cps.toList:=λp hp=>by
   obtain⟨o,ho,rfl⟩:=List.mem_map.mp hp
   exact Pq (hf o ho)
  have hne:os.map dB≠[Str.ofString ""]:=λe=>by
   have :Str.ofString ""∈os.map dB:=by rw[e];simp
   obtain⟨o,ho,e2⟩:=List.mem_map.mp this
   have e3:=congrArg (λz:Str=>z.cps.toList.length) e2
   have e4:(dB o).cps.toList.length=1+o.1.cps.toList.length:=by
    unfold dB
    rw[bw,List.length_append]
    obtain⟨l1,l2,_⟩:=Cy
    split
    .rw[l1];rfl
    .rw[l2];rfl
   have e5:(Str.ofString "").cps.toList.length=0:=by decide+kernel
   have e3':(dB o).cps.toList.length=(Str.ofString "").cps.toList.length:=e3
   rw[e4,e5]at e3'
   omega
  rw[if_neg (λz=>(Kf z).elim h1 hne),zT h1 hw,List.length_map,if_neg (by omega)]
  have hm:CZ (sr cs) (os.map dB)=some os:=by
   refine Cj (by simp) λi x y e1 e2=>?_
   rw[List.getElem?_map,e2]at e1
   have e1':dB y=x:=Option.some.inj e1
   obtain⟨c,hcm,ec⟩:=hc y (List.mem_of_getElem? e2)
   rw[<-e1']
   exact Js hcm ec
  rw[hm]
  show(if(os.map Prod.fst).Nodup then some os else none)=some os
  rw[if_pos hn]
structure Cut where
 ahead:Bool
 row:Nat
 xs:List V
structure Mk where
 living:Bool
 moment:Nat
 os:List Ord
 sieve:Str
 cut:Cut
def dN(b:Bool):Str:=if b=true then Str.ofString "ahead" else Str.ofString "behind"
def gR(b:Bool):Str:=if b=true then Str.ofString "<" else Str.ofString ">"
def cC(b:Bool):Str:=if b=true then Str.ofString "living" else Str.ofString "still"
def d9(b:Bool):Str:=if b=true then Str.ofString "l" else Str.ofString "s"
def Bj(H:Hp)(c:Addr)(C:Cut):Prop:=∃k v,H c=some (.tup [.str (dN C.ahead),.ref k])/\H k=some (.tup [.ref v,.int C.row])/\H v=some (.lst C.xs)
theorem Bj.same{H H':Hp}{c:Addr}{C:Cut}(h:Bj H c C)(s:ao H H'):Bj H' c C:=by
 obtain⟨k,v,h1,h2,h3⟩:=h
 exact⟨k,v,s _ _ h1,s _ _ h2,s _ _ h3⟩
def gY(H:Hp)(p:Addr)(M:Mk):Prop:=∃o c,H p=some (.tup [.str (cC M.living),.int M.moment,.ref o,.str M.sieve,.ref c])/\tD H o M.os/\Bj H c M.cut
theorem gY.same{H H':Hp}{p:Addr}{M:Mk}(h:gY H p M)(s:ao H H'):gY H' p M:=by
 obtain⟨o,c,h1,h2,h3⟩:=h
 exact⟨o,c,s _ _ h1,h2.same s,h3.same s⟩
def lR(C:Cut):List Str:=Str.ofString (toString (C.row:Int))::C.xs.map wordOf
def jM(C:Cut):Str:=gR C.ahead++Str.join " " (lR C)
def gM(M:Mk):List Str:=[d9 M.living,Str.ofString (toString (M.moment:Int)),u9 M.os,M.sieve,jM M.cut]
def cF(M:Mk):Str:=Str.join "/" (gM M)
def oV(M:Mk):Str:=cF M++Str.ofString "."++ig (bZ (cF M).cps.toList)
def plainS(z:Str):Prop:=∀c∈z.cps.toList,32≤c/\c≤122/\c≠46/\c≠47
theorem plainS.app{a b:Str}(h:plainS a)(g:plainS b):plainS (a++b):=λc hc=>by
 rw[bw]at hc
 rcases List.mem_append.mp hc with hc |hc
 .exact h c hc
 .exact g c hc
theorem plainS.join:∀{ps:List Str},(∀p∈ps,plainS p)->plainS (Str.join " " ps)
 |[],_=>by
  intro c hc
  have :c∈([]:List Nat):=hc
  simp at this
 |[p],h=>h p (by simp)
 |p::q::r,h=>by
  have hb:plainS (Str.ofString " "):=by unfold plainS;decide+kernel
  exact((h p (by simp)).app hb).app (plainS.join λx hx=>h x (by simp[hx]))
theorem Td:∀c∈SG,32≤c/\c≤122/\c≠46/\c≠47:=by decide+kernel
theorem uJ(i:Int):plainS (Str.ofString (toString i)):=λc hc=>by
 have :=iK i c hc
 omega
theorem jd.plain{kd:Str}{v:V}(h:jd kd v):plainS (wordOf v):=by
 rcases h with rfl |⟨hn,i,rfl,h1,h2⟩ |⟨hn,z,rfl,hl,hz⟩
 .unfold plainS
  decide+kernel
 .exact uJ i
 .refine plainS.app (a:=Str.ofString "'") ?_ λc hc=>Td c (hz c hc)
  unfold plainS
  decide+kernel
theorem mL{z:Str}(h:isName z=true):plainS z:=by
 unfold isName at h
 rw[Bool.and_eq_true]at h
 intro c hc
 have h2:=h.2
 unfold iz at h2
 rw[List.all_eq_true]at h2
 have h3:=of_decide_eq_true (h2 c hc)
 have key:∀c∈Vb.cps.toList,32≤c/\c≤122/\c≠46/\c≠47:=by decide+kernel
 exact key c h3
theorem zj{ps:List Str}(h:ps≠[])(hf:∀p∈ps,47∉p.cps.toList):cX 47 (Str.join "/" ps)=ps:=by
 unfold cX
 have e:(Str.join "/" ps).cps.toList=lB 47 (ps.map λp=>p.cps.toList):=jx 47 ps
 rw[e,lZ (by simpa using h) λp hp=>?_,List.map_map]
 .have :((λl:List Nat=>(⟨l.toArray⟩:Str))∘λp:Str=>p.cps.toList)=id:=by
   funext p
   rfl
  rw[this,List.map_id]
 .obtain⟨q,hq,rfl⟩:=List.mem_map.mp hp
  exact hf q hq
def kh(cs:List bK)(z:Str):Str:=match cs[bW cs z]? with
 |some c=>c.2
 |none=>Str.ofString ""
structure cJ(cs:List bK)(M:Mk):Prop where
 moment:M.moment≤5000
 len:M.os.length≤4
 names:∀o∈M.os,o.1∈cs.map Prod.fst
 nodup:(M.os.map Prod.fst).Nodup
 row:M.cut.row≤1000000000
 vals:eU (λ(o:Ord) x=>jd (kh cs o.1) x) M.os M.cut.xs
 plain:plainS M.sieve
 short:M.sieve.length≤2800
 words:∀y∈cX 32 M.sieve,y.length≤1000
 reads:∃t:Tr,t.dep≤20/\Reads cs (cX 32 M.sieve) t 0 (cX 32 M.sieve).length
theorem G3(b:Bool):plainS (d9 b):=by cases b<;>(unfold plainS;decide+kernel)
theorem Jg(b:Bool):plainS (gR b):=by cases b<;>(unfold plainS;decide+kernel)
theorem Kl{o:Ord}(h:plainS o.1):plainS (dB o):=by
 unfold dB
 refine plainS.app ?_ h
 have h1:plainS (Str.ofString "+"):=by unfold plainS;decide+kernel
 have h2:plainS (Str.ofString "-"):=by unfold plainS;decide+kernel
 split
 .exact h1
 .exact h2
theorem Ov{cs:List bK}{M:Mk}(h:cJ cs M):∀p∈lR M.cut,plainS p:=λp hp=>by
 rcases List.mem_cons.mp hp with rfl |hp
 .exact uJ _
 .obtain⟨x,hx,rfl⟩:=List.mem_map.mp hp
  obtain⟨o,_,hv⟩:=h.vals.Xw x hx
  exact hv.plain
theorem wI{cs:List bK}(hc:aW cs=true){M:Mk}(h:cJ cs M):∀p∈gM M,plainS p:=λp hp=>by
 have hp':p=d9 M.living\/p=Str.ofString (toString (M.moment:Int))\/p=u9 M.os\/p=M.sieve\/p=jM M.cut:=by simpa [gM]using hp
 rcases hp' with rfl |rfl |rfl |rfl |rfl
 .exact G3 _
 .exact uJ _
 .refine plainS.join λq hq=>?_
  obtain⟨o,ho,rfl⟩:=List.mem_map.mp hq
  refine Kl (mL ?_)
  obtain⟨c,hcm,e⟩:=List.mem_map.mp (h.names o ho)
  unfold aW at hc
  simp only[Bool.and_eq_true,List.all_eq_true]at hc
  rw[<-e]
  exact(hc.1.2 c hcm).1
 .exact h.plain
 .exact(Jg _).app (plainS.join (Ov h))
theorem Rk{cs:List bK}(hc:aW cs=true){M:Mk}(h:cJ cs M):cX 47 (cF M)=gM M:=
 zj (by simp[gM]) λp hp hm=>(wI hc h p hp 47 hm).2.2.2 rfl
theorem pM(n:Int)(h0:0≤n)(h1:n<9973):46∉(ig n).cps.toList/\(ig n).length=4:=by
 obtain⟨m,rfl⟩:=Int.eq_ofNat_of_zero_le h0
 have :=La (n:=m) (by omega)
 unfold Ff at this
 simp only[Bool.and_eq_true,decide_eq_true_eq,List.all_eq_true]at this
 refine⟨λhm=>?_,this.1⟩
 have :=this.2.1 46 hm
 unfold Ho at this
 simp at this
theorem qY(M:Mk):Txt.rpartition (oV M) ⟨#[46]⟩=(cF M,⟨#[46]⟩,ig (bZ (cF M).cps.toList)):=by
 have hb:=iy (cF M).cps.toList
 have hf:=pM (bZ (cF M).cps.toList) (by omega) (by omega)
 have e:(oV M).cps.toList=(cF M).cps.toList++46::(ig (bZ (cF M).cps.toList)).cps.toList:=by
  unfold oV
  rw[bw,bw,show(Str.ofString ".").cps.toList=[46]from by decide+kernel,List.append_assoc]
  rfl
 have eta:∀z:Str,(⟨z.cps.toList.toArray⟩:Str)=z:=λz=>by
  obtain⟨⟨l⟩⟩:=z
  rfl
 rw[Qn e hf.1,eta,eta]
theorem Hy:∀ps:List Str,(Str.join "/" ps).length≤(ps.map (·.length)).sum+ps.length
 |[]=>by show(0:Nat)≤_;omega
 |[p]=>by
  show p.length≤_
  simp
 |p::q::r=>by
  have ih:=Hy (q::r)
  have lb:(Str.ofString "/").length=1:=by decide+kernel
  show(p++Str.ofString "/"++Str.join "/" (q::r)).length≤_
  rw[len_app,len_app,lb]
  simp only[List.map_cons,List.sum_cons,List.length_cons]at ih⊢
  omega
theorem lK:∀ps:List Str,(Str.join " " ps).length≤(ps.map (·.length)).sum+ps.length
 |[]=>by show(0:Nat)≤_;omega
 |[p]=>by
  show p.length≤_
  simp
 |p::q::r=>by
  have ih:=lK (q::r)
  have lb:(Str.ofString " ").length=1:=by decide+kernel
  show(p++Str.ofString " "++Str.join " " (q::r)).length≤_
  rw[len_app,len_app,lb]
  simp only[List.map_cons,List.sum_cons,List.length_cons]at ih⊢
  omega
theorem Oa(ps:List Str)(n:Nat)(h:∀p∈ps,p.length≤n):(ps.map (·.length)).sum≤ps.length*n:=by
 induction ps with
 |nil=>simp
 |cons p ps ih=>
  have h1:=ih λx hx=>h x (by simp[hx])
  have h2:=h p (by simp)
  simp only[List.map_cons,List.sum_cons,List.length_cons,Nat.succ_mul]
  omega
theorem HH{cs:List bK}(hc:aW cs=true){z:Str}(hz:z∈cs.map Prod.fst):kh cs z="number"\/kh cs z="text":=by
 obtain⟨c,hcm,e⟩:=List.mem_map.mp hz
 have hp:bW cs z<cs.length:=lD ⟨c,hcm,e⟩
 unfold kh
 rw[List.getElem?_eq_getElem hp]
 unfold aW at hc
 simp only[Bool.and_eq_true,List.all_eq_true]at hc
 have h2:=(hc.1.2 cs[bW cs z] (List.getElem_mem hp)).2
 unfold uV at h2
 exact of_decide_eq_true h2
theorem cJ.Hl{cs:List bK}(hc:aW cs=true){M:Mk}(h:cJ cs M):∀x∈M.cut.xs,wrt x/\(wordOf x).length≤21/\32∉(wordOf x).cps.toList:=λx hx=>by
 obtain⟨o,ho,hv⟩:=h.vals.Xw x hx
 have hw:=hv.word (HH hc (h.names o ho))
 refine⟨⟨hv.sc,?_,λi e=>?_⟩,hw.2.1,hw.2.2.1⟩
 .rcases hv with rfl |⟨_,i,rfl,_⟩ |⟨_,z,rfl,hl,_⟩
  .trivial
  .trivial
  .show z.length≤4000
   omega
 .subst e
  rcases hv with e |⟨_,j,e,h1,h2⟩ |⟨_,z,e,_⟩
  .cases e
  .cases e
   have :(10:Nat)^60>1000000000000000000:=by decide
   omega
  .cases e
theorem cJ.xsl{cs:List bK}{M:Mk}(h:cJ cs M):M.cut.xs.length≤4:=by
 have :=h.vals.len
 have :=h.len
 omega
theorem yM{cs:List bK}(hc:aW cs=true){M:Mk}(h:cJ cs M):(∀p∈lR M.cut,p.length≤21)/\(lR M.cut).length≤5:=by
 refine⟨λp hp=>?_,?_⟩
 .rcases List.mem_cons.mp hp with rfl |hp
  .have :=eQ (i:=(M.cut.row:Int)) (k:=10) (by decide) (by have :=h.row;have :(10:Nat)^10>1000000000:=by decide
                                                          omega)
   omega
  .obtain⟨x,hx,rfl⟩:=List.mem_map.mp hp
   exact(h.Hl hc x hx).2.1
 .have :=h.xsl
  show(M.cut.xs.map wordOf).length+1≤5
  rw[List.length_map]
  omega
theorem Cw{cs:List bK}(hc:aW cs=true){M:Mk}(h:cJ cs M):(jM M.cut).length≤200:=by
 obtain⟨h1,h2⟩:=yM hc h
 have h3:=Oa _ 21 h1
 have h4:=lK (lR M.cut)
 have h5:(gR M.cut.ahead).length=1:=by cases M.cut.ahead<;>decide+kernel
 unfold jM
 rw[len_app]
 omega
def Cz:Sp:=λvs H Q _=>∃(c:Addr) (M:Mk) (cs:List bK),vs=[.ref c]/\Bj H c M.cut/\aW cs=true/\cJ cs M/\∀H',ao H H'->Q (.str (jM M.cut)) H'
theorem qC(T:Txt K mg):Def P w K mg base true 3 "cut_text" ["cut"] Cz:=by
 refine Hc T (λvs H Q E h=>by obtain⟨c,M,cs,rfl,_⟩:=h;rfl) (λf cdv A outer s H vs Q E hr h=>?_)
 obtain⟨c,M,cs,rfl,⟨k,v,ec,ek,ev⟩,hc,hM,q⟩:=h
 have nd:=wV.nd
 have g1:=T.Mg
 have g2:=T.sO
 have g3:=T.ql
 have hsz:sizeLine=16777216:=sizeLine_eq
 have lb:(Str.ofString " ").length=1:=by decide+kernel
 have D1:Def P w K mg base true 2 "row_words" ["row","values"] yh:=oh T
 obtain⟨h1,h2⟩:=yM hc hM
 have h3:=Oa _ 21 h1
 have h4:=lK (lR M.cut)
 refine aj (gf (by rfl) (by rfl) ?_)
 walk_at "ex"
 refine bx (cA.of ec) (i:=1) rfl ?_
 refine eO (by rfl) (by rfl) (by rfl) (cA.of ek) (by rfl) (aN (by rfl) (aJ nd (by rfl) (.inl rfl) (.inl rfl) (aN (by rfl) (aJ nd (by rfl) (.inl rfl) (.inl rfl) (cM ?_)))))
 have rest:lz (w6 true P w K mg base qH "cut_text" (aa dU) f cdv A outer s H E) ((aq dU).drop 2) {nx:=λ_ H'=>Q .non H',rt:=Q} [some (.ref c),some (.ref v),some (.int M.cut.row),some (.str (gR M.cut.ahead))] H:=by
  have h5:(gR M.cut.ahead).length=1:=by cases M.cut.ahead<;>decide+kernel
  refine aA (bj ?_)
  walk_at "ex"
  refine⟨(M.cut.row:Int),v,M.cut.xs,rfl,?_,ev,by have :=hM.xsl;omega,λx hx=>(hM.Hl hc x hx).1,λp H1 gh hp e1=>?_⟩
  .have :=hM.row
   have :(10:Nat)^60>1000000000:=by decide
   omega
  walk_at "ex"
  refine oR (ys:=lR M.cut) (bc.of e1) (by rw[lb];omega) ?_
  walk_at "ex"
  refine aZ (by omega) ?_
  exact q H1 gh
 walk_at "A"
 refine bx (cA.of ec) (i:=0) rfl ?_
 walk_at "ex"
 have :M.cut.ahead=true\/M.cut.ahead=false:=by cases M.cut.ahead<;>simp
 rcases this with e |e
 .have e1:V.str (dN M.cut.ahead)=V.str (Str.ofString "ahead"):=by rw[e];rfl
  have e2:gR M.cut.ahead=Str.ofString "<":=by rw[e];rfl
  refine gm (λ_=>?_) (λh=>absurd e1 h)
  walk_at "ex"
  rw[e2]at rest
  exact rest
 .have e1:¬V.str (dN M.cut.ahead)=V.str (Str.ofString "ahead"):=by rw[e];decide+kernel
  have e2:gR M.cut.ahead=Str.ofString ">":=by rw[e];rfl
  refine gm (λh=>absurd h e1) (λ_=>?_)
  walk_at "ex"
  rw[e2]at rest
  exact rest
theorem dW{z:Str}(h:isName z=true):z.length≤8:=by
 unfold isName at h
 rw[Bool.and_eq_true]at h
 exact(of_decide_eq_true h.1).2
theorem iM{cs:List bK}(hc:aW cs=true){z:Str}(hz:z∈cs.map Prod.fst):isName z=true:=by
 obtain⟨c,hcm,e⟩:=List.mem_map.mp hz
 unfold aW at hc
 simp only[Bool.and_eq_true,List.all_eq_true]at hc
 rw[<-e]
 exact(hc.1.2 c hcm).1
theorem yw{cs:List bK}(hc:aW cs=true){M:Mk}(h:cJ cs M):(u9 M.os).length≤100:=by
 have h1:=Oa (M.os.map dB) 9 λp hp=>by
  obtain⟨o,ho,rfl⟩:=List.mem_map.mp hp
  have :=dW (iM hc (h.names o ho))
  have l1:(Str.ofString "+").length=1:=by decide+kernel
  have l2:(Str.ofString "-").length=1:=by decide+kernel
  unfold dB
  rw[len_app]
  split <;>omega
 have h2:=lK (M.os.map dB)
 have h3:=h.len
 rw[List.length_map]at h1 h2
 unfold u9
 omega
theorem sJ{cs:List bK}(hc:aW cs=true){M:Mk}(h:cJ cs M):((gM M).map (·.length)).sum≤3200/\(cF M).length≤3300:=by
 have h1:(d9 M.living).length=1:=by cases M.living<;>decide+kernel
 have h2:=eQ (i:=(M.moment:Int)) (k:=4) (by decide) (by have :=h.moment;have :(10:Nat)^4>5000:=by decide
                                                        omega)
 have h3:=yw hc h
 have h4:=h.short
 have h5:=Cw hc h
 have e:((gM M).map (·.length)).sum=(d9 M.living).length+((Str.ofString (toString (M.moment:Int))).length+((u9 M.os).length+(M.sieve.length+((jM M.cut).length+0)))):=rfl
 have h6:=Hy (gM M)
 have e2:(gM M).length=5:=rfl
 unfold cF
 omega
theorem rR{cs:List bK}(hc:aW cs=true){M:Mk}(h:cJ cs M):∀c∈(cF M).cps.toList,c<1114112:=by
 have key:∀ps:List Str,(∀p∈ps,plainS p)->∀c∈(Str.join "/" ps).cps.toList,c<1114112:=by
  intro ps
  induction ps with
  |nil=>intro _ c hc;have :c∈([]:List Nat):=hc;simp at this
  |cons p r ih=>
   intro hp c hcm
   cases r with
   |nil=>have :=hp p (by simp) c hcm;omega
   |cons q r=>
    have e:(Str.join "/" (p::q::r)).cps.toList=(p++Str.ofString "/"++Str.join "/" (q::r)).cps.toList:=rfl
    rw[e,bw,bw]at hcm
    rcases List.mem_append.mp hcm with hcm |hcm
    .rcases List.mem_append.mp hcm with hcm |hcm
     .have :=hp p (by simp) c hcm;omega
     .have :∀c∈(Str.ofString "/").cps.toList,c<1114112:=by decide+kernel
      exact this c hcm
    .exact ih (λx hx=>hp x (by simp[hx])) c hcm
 exact key _ (wI hc h)
def yQ:Sp:=λvs H Q _=>∃(p:Addr) (M:Mk) (cs:List bK),vs=[.ref p]/\gY H p M/\aW cs=true/\cJ cs M/\∀H',ao H H'->Q (.str (oV M)) H'
theorem oM(T:Txt K mg):Def P w K mg base true 4 "mark_text" ["mark"] yQ:=by
 refine Ft T (λvs H Q E h=>by obtain⟨p,M,cs,rfl,_⟩:=h;rfl) (λf cdv A outer s H vs Q E hr h=>?_)
 obtain⟨p,M,cs,rfl,⟨o,c,ep,hO,hK⟩,hc,hM,q⟩:=h
 have nd:=sS.nd
 have g1:=T.BX
 have g2:=T.Q8
 have n1:=T.nM
 have hsz:sizeLine=16777216:=sizeLine_eq
 have ls:(Str.ofString "/").length=1:=by decide+kernel
 have lp:(Str.ofString ".").length=1:=by decide+kernel
 have D1:Def P w K mg base true 1 "order_text" ["order"] Rq:=mJ T
 have D2:Def P w K mg base true 3 "cut_text" ["cut"] Cz:=qC T
 have D3:Def P w K mg base true 2 "check_word" ["text"] zO:=jn T
 obtain⟨b1,b2⟩:=sJ hc hM
 refine aj (gf (by rfl) (by rfl) ?_)
 walk_at "ex"
 refine eO (by rfl) (by rfl) (by rfl) (cA.of ep) (by rfl) (aN (by rfl) (aJ nd (by rfl) (.inl rfl) (.inl rfl) (aN (by rfl) (aJ nd (by rfl) (.inl rfl) (.inl rfl) (aN (by rfl) (aJ nd (by rfl) (.inl rfl) (.inl rfl) (aN (by rfl) (aJ nd (by rfl) (.inl rfl) (.inl rfl) (aN (by rfl) (aJ nd (by rfl) (.inl rfl) (.inl rfl) (cM ?_)))))))))))
 walk_at "A"
 have el:∃n,n8 (cC M.living).cps.toList 0=some n/\d9 M.living=⟨#[n]⟩/\(cC M.living).length≤6:=by
  cases M.living
  .exact⟨115,by decide+kernel,by decide+kernel,by decide+kernel⟩
  .exact⟨108,by decide+kernel,by decide+kernel,by decide+kernel⟩
 obtain⟨n,en,el2,el3⟩:=el
 refine xg (by omega) en ?_
 walk_at "ex"
 refine lu (jQ ?_) ?_
 .have :=hM.moment
  have :(10:Nat)^60>5000:=by decide
  omega
 walk_at "ex"
 refine⟨o,M.os,rfl,hO,by have :=hM.len;omega,λx hx=>by have :=dW (iM hc (hM.names x hx));omega,λH1 gh=>?_⟩
 walk_at "ex"
 refine⟨c,M,cs,rfl,hK.same gh,hc,hM,λH2 iw=>?_⟩
 walk_at "ex"
 refine⟨by show 5≤sizeLine;omega,λl hl=>?_⟩
 have sl:ao H2 (upd H2 l (.lst ((gM M).map V.str))):=ao.upd hl
 have ai1:(upd H2 l (.lst ((gM M).map V.str))) l=some (.lst ((gM M).map V.str)):=ak
 have eob:(HO.lst [V.str ⟨#[n]⟩,V.str (Str.ofString (toString (M.moment:Int))),V.str (u9 M.os),V.str M.sieve,V.str (jM M.cut)])= .lst ((gM M).map V.str):=by
  rw[<-el2]
  rfl
 rw[eob]
 generalize upd H2 l (.lst ((gM M).map V.str))=H3 at sl ai1⊢
 walk_at "ex"
 refine oR (ys:=gM M) (bc.of ai1) (by rw[ls];show _+5*1≤_;omega) ?_
 refine aA (bj ?_)
 walk_at "ex"
 refine aZ (by show(cF M).length+_≤_;omega) ?_
 walk_at "ex"
 refine⟨cF M,rfl,by omega,rR hc hM,?_⟩
 have hb:=iy (cF M).cps.toList
 have hf:=pM (bZ (cF M).cps.toList) (by omega) (by omega)
 refine aZ (by rw[len_app];show(cF M).length+_+_≤_;omega) ?_
 exact q H3 ((gh.trans iw).trans sl)
def Fw(K:W.Frag):Sp:=λvs H Q _=>∃(a C dx:Addr) (fs:List (Str×V)) (v:V),vs=[.ref a]/\H a=some (.ins C dx fs)/\pJ K C/\aU K C "text"/\fs.lookup (Str.ofString "text")=some v/\Q v H
theorem jm{cc:Bool}:FD P w K mg base cc 1 "shown" "Sieve.shown" aH ["self"] (Fw K):=by
 refine zU (λvs H Q E h=>by obtain⟨a,C,dx,fs,v,rfl,_⟩:=h;rfl) (λf cdv A outer s H vs Q E hr h=>?_)
 obtain⟨a,C,dx,fs,v,rfl,ha,hc,hn,hl,q⟩:=h
 refine aA (bj ?_)
 refine aex (by rfl) ?_
 walk_at "e"
 exact⟨a,C,dx,fs,v,rfl,ha,hc,hn,hl,q⟩
def Ob(mg:Str->Option Value):Tr->Addr
 | .one .all=>aD mg "AllSieve"
 | .one (.none _)=>aD mg "NoneSieve"
 | .one (.look l _ _)=>ahn mg l
 | .nt _=>aD mg "NotSieve"
 | .bo _ _=>aD mg "BothSieve"
 | .ei _ _=>aD mg "EitherSieve"
theorem m9.txt{mg:Str->Option Value}{H:Hp}:∀{t:Tr} {a:Addr} {z:Str},m9 mg H t a z->∃dx fs,H a=some (.ins (Ob mg t) dx fs)/\fs.lookup (Str.ofString "text")=some (.str z)/\fs.lookup (Str.ofString "shown")=none
 | .one .all,a,z,h=>by obtain⟨dx,h⟩:=h;exact⟨dx,_,h,rfl,rfl⟩
 | .one (.none p),a,z,h=>by obtain⟨dx,h⟩:=h;exact⟨dx,_,h,rfl,rfl⟩
 | .one (.look l p v),a,z,h=>by obtain⟨dx,h⟩:=h;exact⟨dx,_,h,rfl,rfl⟩
 | .nt t,a,z,h=>by obtain⟨dx,b,y,h,_⟩:=h;exact⟨dx,_,h,rfl,rfl⟩
 | .bo t u,a,z,h=>by obtain⟨dx,b,c,y,x,h,_⟩:=h;exact⟨dx,_,h,rfl,rfl⟩
 | .ei t u,a,z,h=>by obtain⟨dx,b,c,y,x,h,_⟩:=h;exact⟨dx,_,h,rfl,rfl⟩
theorem W6(T:Txt K mg):∀t:Tr,acS P w K mg base true 1 (Ob mg t) "shown" ["self"] (Fw K)/\pJ K (Ob mg t)/\aU K (Ob mg t) "text"
 | .one .all=>⟨jm.meth T.rN T.uP,T.rN,T.lG⟩
 | .one (.none _)=>⟨jm.meth T.nG T.uA,T.nG,T.j5⟩
 | .one (.look .is _ _)=>⟨jm.meth T.vz T.xN,T.vz,T.mY⟩
 | .one (.look .under _ _)=>⟨jm.meth T.mF T.rJ,T.mF,T.jJ⟩
 | .one (.look .over _ _)=>⟨jm.meth T.oK T.tM,T.oK,T.j7⟩
 | .one (.look .holds _ _)=>⟨jm.meth T.lY T.qw,T.lY,T.jP⟩
 | .nt _=>⟨jm.meth T.qN T.wA,T.qN,T.lN⟩
 | .bo _ _=>⟨jm.meth T.nR T.uf,T.nR,T.jW⟩
 | .ei _ _=>⟨jm.meth T.kY T.pO,T.kY,T.jg⟩
def uE(K:W.Frag):Sp:=λvs H Q _=>∃(p q:Addr) (cs:List bK) (xs:List V),vs=[.ref p,.ref q]/\H p=some (.lst ((cs.map Prod.snd).map V.str))/\H q=some (.lst ((xs.map wordOf).map V.str))/\cs.length≤1000/\(∀c∈cs,c.2="number"\/c.2="text")/\eU (λc x=>jd c.2 x) cs xs/\
 ∀r H',ao H H'->H r=none->H' r=some (.lst xs)->Q (.ref r) H'
theorem lr(T:Txt K mg):Def P w K mg base true 6 "read_values" ["kinds","words"] (uE K):=by
 refine yR T (λvs H Q E h=>by obtain⟨p,q,cs,xs,rfl,_⟩:=h;rfl) (λf cdv A outer s H vs Q E hr h=>?_)
 obtain⟨p,q',cs,xs,rfl,hp,hq,hcl,hk,hall,q⟩:=h
 have n1:=T.jC
 have n2:=T.agU
 have Ve:(["kind","word"]:List Str).Nodup:=by decide+kernel
 have hsz:sizeLine=16777216:=sizeLine_eq
 have D1:Def P w K mg base true 5 "read_value" ["kind","word"] (Dk (.ref (aD mg "NoValue"))):=jr T
 have hl:=hall.len
 have l1:((cs.map Prod.snd).map V.str).length=cs.length:=by rw[List.length_map,List.length_map]
 have l2:((xs.map wordOf).map V.str).length=xs.length:=by rw[List.length_map,List.length_map]
 have SP:bc K H p ((cs.map Prod.snd).map V.str):=bc.of hp
 have SQ:bc K H q' ((xs.map wordOf).map V.str):=bc.of hq
 refine aj ?_
 walk_at "go"
 rw[l1,l2, <-hl]
 rw[decide_eq_true (rfl:V.int ((cs.length:Nat):Int)=V.int ((cs.length:Nat):Int))]
 walk_at "t"
 refine aM ?_
 refine aA (bj ?_)
 refine T6 ["kind","word"] (σ':=[none,none]) (by rfl) (by rfl) (b7 (aa cO) (by rfl) (by rfl) (by decide+kernel)) (by rfl) n2 (by rfl) (by rfl) ?_
 walk_at "e"
 walk_at "e"
 refine⟨p,q',_,_,rfl,rfl,hp,hq,by rw[l1];omega,λτ=>∃o1 o2,τ=[o1,o2],λE2 i u H'=>∃x,xs[i]? =some x/\u=x,⟨none,none,rfl⟩,λE2 i u H2 H3 ys _ _ p=>p,λfp E2 C s3 H0 i τ x H5 H6 Lb hi hτ Ik hys hG=>?_,λE2 H5 ys Lb hl2 hx2 e5 Ik=>?_⟩
 .obtain⟨o1,o2,rfl⟩:=hτ
  obtain⟨t,y,z,rfl,htn,rfl,hy,hz⟩:=hG
  rw[List.getElem?_map,List.getElem?_map]at hy hz
  obtain⟨c,hc,rfl⟩:∃c,cs[i]? =some c/\V.str c.2=y:=by
   cases e:cs[i]? with
   |none=>rw[e]at hy;cases hy
   |some c=>rw[e]at hy;exact⟨c,rfl,Option.some.inj hy⟩
  obtain⟨x,hx,hv⟩:=hall.get hc
  rw[hx]at hz
  have hz':z= .str (wordOf x):=(Option.some.inj hz).symm
  subst hz'
  have hw:=hv.word (hk c (List.mem_of_getElem? hc))
  have Gw:ao H5 (upd H5 t (.tup [.str c.2,.str (wordOf x)])):=ao.upd htn
  refine eO (by rfl) (by rfl) (by rfl) (cA.of ak) (by rfl) (aN (by rfl) (aJ Ve (by rfl) (.inl rfl) (.inr rfl) (aN (by rfl) (aJ Ve (by rfl) (.inl rfl) (.inr rfl) (cM ?_)))))
  generalize upd H5 t (.tup [.str c.2,.str (wordOf x)])=H7 at Gw⊢
  walk_at "go"
  refine⟨c.2,wordOf x,rfl,by omega,λH8 sm8=>?_⟩
  rw[hw.1]
  exact⟨⟨_,_,rfl⟩,⟨x,hx,rfl⟩,Gw.trans sm8⟩
 .have hyl:ys.length=xs.length:=by rw[hl2,l1,l2];omega
  have ey:=dw (ys:=xs) (λx=>x) hyl hx2
  rw[List.map_id']at ey
  subst ey
  exact q E2 H5 Ik Lb e5
theorem Wj{i:Nat}{m:Int}(h:(i:Int)≤m):xO (Str.ofString (toString (i:Int))).cps.toList m=some (i:Int):=by
 obtain⟨a,b⟩:=DX i
 unfold xO
 rw[a,b,if_pos ⟨rfl,h⟩]
def BZ:Sp:=λvs H Q _=>∃b:Bool,vs=[.str (d9 b)]/\∀H',ao H H'->Q (.str (cC b)) H'
theorem oF(T:Txt K mg):Def P w K mg base true 1 "read_make" ["letter"] BZ:=by
 refine CV T (λvs H Q E h=>by obtain⟨b,rfl,_⟩:=h;rfl) (λf cdv A outer s H vs Q E hr h=>?_)
 obtain⟨b,rfl,q⟩:=h
 have nd:=tR.nd
 have g1:=T.RL
 have g2:=T.V9
 have hsz:sizeLine=16777216:=sizeLine_eq
 refine aj (Wm (by walk_at "po") (by rfl) (by intro _;rfl) ?_)
 walk_at "ex"
 refine⟨by show 2≤sizeLine;omega,λt ht=>?_⟩
 have st:ao H (upd H t (.tup [.str (Str.ofString "living"),.str (Str.ofString "still")])):=ao.upd ht
 have et:(upd H t (.tup [.str (Str.ofString "living"),.str (Str.ofString "still")])) t=some (.tup [.str (Str.ofString "living"),.str (Str.ofString "still")]):=ak
 refine⟨t,_,rfl,cA.of et,λi σ H'=>(∃o,σ=[some (.str (d9 b)),o])/\H'=upd H t (.tup [.str (Str.ofString "living"),.str (Str.ofString "still")])/\(1≤i->b=false)/\i<2,⟨⟨none,rfl⟩,rfl,λh=>absurd h (by omega),by omega⟩,λi σ' H' hi hP=>?_,λi x σ' H' hx hP=>?_,λσ' H' hP=>?_⟩
 .obtain⟨_,rfl,_⟩:=hP
  exact cA.of et
 .obtain⟨⟨o,rfl⟩,rfl,hb,hi2⟩:=hP
  refine aJ nd (by rfl) (.inl rfl) (.inl rfl) ?_
  match i,hi2,hx with
  |0,_,hx=>
   have hx':x= .str (Str.ofString "living"):=(Option.some.inj hx).symm
   subst hx'
   refine aA (bY ?_)
   walk_at "ex"
   refine xg (n:=108) (by rw[hsz];decide+kernel) (by decide+kernel) ?_
   walk_at "ex"
   cases b with
   |true=>
    refine gm (λ_=>?_) (λh=>absurd (by decide+kernel) h)
    refine aA (bj ?_)
    walk_at "ex"
    exact q _ st
   |false=>
    refine gm (λh=>absurd h (by decide+kernel)) (λ_=>?_)
    exact aM ⟨⟨_,rfl⟩,rfl,λ_=>rfl,by omega⟩
  |1,_,hx=>
   have hx':x= .str (Str.ofString "still"):=(Option.some.inj hx).symm
   subst hx'
   have hb:=hb (by omega)
   subst hb
   refine aA (bY ?_)
   walk_at "ex"
   refine xg (n:=115) (by rw[hsz];decide+kernel) (by decide+kernel) ?_
   walk_at "ex"
   refine gm (λ_=>?_) (λh=>absurd (by decide+kernel) h)
   refine aA (bj ?_)
   walk_at "ex"
   exact q _ st
 .obtain⟨_,_,_,h⟩:=hP
  exact absurd h (by show ¬2<2;omega)
def rC:Sp:=λvs H Q _=>∃(i:Nat) (m:Int),vs=[.str (Str.ofString (toString (i:Int))),.int m]/\(m=5000\/m=1000000000)/\(i:Int)≤m/\∀H',ao H H'->Q (.int (i:Int)) H'
theorem ji(T:Txt K mg):Def P w K mg base true 4 "read_whole" ["word","most"] rC:=by
 refine Ab T (λvs H Q E h=>by obtain⟨i,m,rfl,_⟩:=h;rfl) (λf cdv A outer s H vs Q E hr h=>?_)
 obtain⟨i,m,rfl,hm,him,q⟩:=h
 have nd:=qb.nd
 have D1:Def P w K mg base true 3 "read_figures" ["word","most"] Eh:=ir T
 have hp:(10:Nat)^60>1000000000:=by decide
 have hl:=eQ (i:=(i:Int)) (k:=10) (by decide) (by have :(10:Nat)^10>1000000000:=by decide
                                                  omega)
 obtain⟨k,hk,hmk,k1,k2⟩:∃k,(Str.ofString (toString m)).length=k/\m<((10^k:Nat):Int)/\1≤k/\k≤600:=by
  rcases hm with rfl |rfl
  .exact⟨4,by decide+kernel,by decide,by omega,by omega⟩
  .exact⟨10,by decide+kernel,by decide,by omega,by omega⟩
 walk_at "A"
 refine⟨_,m,k,rfl,by omega,by omega,by omega,hk,hmk,k1,k2,λH1 gh=>?_⟩
 rw[Wj him]
 refine aj (bY ?_)
 walk_at "ex"
 refine aM (aA (bj ?_))
 walk_at "ex"
 exact q H1 gh
def Cv:Sp:=λvs H Q _=>∃b:Bool,vs=[.str (gR b)]/\Q (.str (dN b)) H
theorem pq(T:Txt K mg):Def P w K mg base true 1 "read_side" ["sign"] Cv:=by
 refine Fz T (λvs H Q E h=>by obtain⟨b,rfl,_⟩:=h;rfl) (λf cdv A outer s H vs Q E hr h=>?_)
 obtain⟨b,rfl,q⟩:=h
 have g1:=T.sO
 have g2:=T.ql
 have g3:=T.Mg
 have g4:=T.R4
 refine aj (bY ?_)
 walk_at "ex"
 cases b with
 |true=>
  refine gm (λ_=>?_) (λh=>absurd rfl h)
  refine aA (bj ?_)
  walk_at "ex"
  exact q
 |false=>
  refine gm (λh=>absurd h (by decide+kernel)) (λ_=>?_)
  refine aM (aj (bY ?_))
  walk_at "ex"
  refine gm (λ_=>?_) (λh=>absurd rfl h)
  refine aA (bj ?_)
  walk_at "ex"
  exact q
theorem Rt{cs:List bK}{z:Str}(h:∃c∈cs,c.1=z):∃c,cs[bW cs z]? =some c/\c.2=kh cs z:=by
 have hp:=lD h
 refine⟨cs[bW cs z],List.getElem?_eq_getElem hp,?_⟩
 unfold kh
 rw[List.getElem?_eq_getElem hp]
theorem cJ.aiL{cs:List bK}{M:Mk}(h:cJ cs M):∀o∈M.os,∃c∈cs,c.1=o.1:=λo ho=>by
 obtain⟨c,hc,e⟩:=List.mem_map.mp (h.names o ho)
 exact⟨c,hc,e⟩
theorem GF(C:Cut):∃n,gR C.ahead=⟨#[n]⟩/\(jM C).cps.toList=n::(Str.join " " (lR C)).cps.toList:=by
 unfold jM
 cases C.ahead
 .exact⟨62,by decide+kernel,by rw[bw,show(gR false).cps.toList=[62]from by decide+kernel];rfl⟩
 .exact⟨60,by decide+kernel,by rw[bw,show(gR true).cps.toList=[60]from by decide+kernel];rfl⟩
theorem Wt{cs:List bK}(hc:aW cs=true){M:Mk}(h:cJ cs M):cX 32 (Str.join " " (lR M.cut))=lR M.cut:=by
 refine zT (by simp[lR]) λp hp=>?_
 rcases List.mem_cons.mp hp with rfl |hp
 .intro hm
  have :=iK (M.cut.row:Int) 32 hm
  omega
 .obtain⟨x,hx,rfl⟩:=List.mem_map.mp hp
  exact(h.Hl hc x hx).2.2
def kcs(cs:List bK)(os:List Ord):List bK:=os.map λo=>(o.1,kh cs o.1)
theorem Ei{cs:List bK}:∀{os:List Ord} {xs:List V},eU (λ(o:Ord) x=>jd (kh cs o.1) x) os xs->eU (λ(c:bK) x=>jd c.2 x) (kcs cs os) xs
 |_,_,.nil=>.nil
 |_,_,.cons r t=>.cons r (Ei t)
def Hw:Sp:=λvs H Q _=>∃(a b:Addr) (M:Mk) (cs:List bK),vs=[.ref a,.ref b,.str (jM M.cut)]/\gO H a cs/\tD H b M.os/\aW cs=true/\cJ cs M/\∀p H',ao H H'->H p=none->Bj H' p M.cut->(∀k v,H' p=some (.tup [.str (dN M.cut.ahead),.ref k])->H' k=some (.tup [.ref v,.int M.cut.row])->H v=none)->Q (.ref p) H'
theorem qX(T:Txt K mg):Def P w K mg base true 7 "read_cut" ["columns","order","text"] Hw:=by
 refine GD T (λvs H Q E h=>by obtain⟨a,b,M,cs,rfl,_⟩:=h;rfl) (λf cdv A outer s H vs Q E hr h=>?_)
 obtain⟨a,b,M,cs,rfl,hC,⟨ws,hb,hws⟩,hc,hM,q⟩:=h
 have nd:=wO.nd
 have g1:=T.Bb
 have hsz:sizeLine=16777216:=sizeLine_eq
 have nd3:(["name","up","columns"]:List Str).Nodup:=by decide+kernel
 have D1:Def P w K mg base true 1 "read_side" ["sign"] Cv:=pq T
 have D2:Def P w K mg base true 4 "read_whole" ["word","most"] rC:=ji T
 have D3:Def P w K mg base true 6 "read_values" ["kinds","words"] (uE K):=lr T
 have D4:Def P w K mg base true 1 "place_of" ["columns","name"] xX:=jL T
 have hlen:=Cw hc hM
 obtain⟨n,en,ecs⟩:=GF M.cut
 have eS:bV (jM M.cut) none (some 1)=gR M.cut.ahead:=by
  apply bQ
  rw[show bV (jM M.cut) none (some 1)=bV (jM M.cut) none (some ((1:Nat):Int))from rfl,uq,ecs,en]
  rfl
 have eR:bV (jM M.cut) (some 1) none=Str.join " " (lR M.cut):=by
  apply bQ
  have :=lM (jM M.cut) 1
  rw[show((1:Nat):Int)=1 from rfl]at this
  rw[this,ecs]
  rfl
 have hwl:=hws.len
 have ayu:=hM.len
 walk_at "A"
 refine m7 (by omega) ?_
 rw[eS]
 walk_at "ex"
 refine⟨M.cut.ahead,rfl,?_⟩
 refine aj ?_
 walk_at "s"
 refine jf F.plainAttrs_str F.slot_str_split F.type_str_split (by rfl) (by rfl) (by rfl) (by rfl) (by rfl) ?_
 walk_at "ex"
 refine m7 (by omega) ?_
 rw[eR]
 walk_at "ex"
 obtain⟨kl1,kl2⟩:=yM hc hM
 have axU:=Oa _ 21 kl1
 have kj:=lK (lR M.cut)
 refine m_split (c:=32) (by omega) λl1 h1=>?_
 rw[Wt hc hM]
 have s1:ao H (upd H l1 (.lst ((lR M.cut).map V.str))):=ao.upd h1
 have e1:(upd H l1 (.lst ((lR M.cut).map V.str))) l1=some (.lst ((lR M.cut).map V.str)):=ak
 generalize upd H l1 (.lst ((lR M.cut).map V.str))=H1 at s1 e1⊢
 walk_at "A"
 refine aQ (bc.of e1) (show n8 ((lR M.cut).map V.str) ((0:Nat):Int)=some (V.str (Str.ofString (toString (M.cut.row:Int))))from bz rfl) ?_
 walk_at "ex"
 refine⟨M.cut.row,1000000000,rfl,.inr rfl,by have :=hM.row;omega,λH2 s2=>?_⟩
 have s12:=s1.trans s2
 refine aj ?_
 refine GZ ["name","up","columns"] (σ':=[none,none,some (.ref a)]) (by rfl) (by rfl) (by rfl) (b7 (aa fY) (by rfl) (by rfl) (by decide+kernel)) (by intro _;rfl) nd (by rfl) (by rfl) ?_
 walk_at "e"
 refine⟨b,ws,rfl,bc.of (s12 _ _ hb),by omega,λτ=>∃o1 o2,τ=[o1,o2,some (.ref a)],λE2 i u H'=>∃o,M.os[i]? =some o/\u= .str (kh cs o.1),⟨none,none,rfl⟩,λE2 i u H2 H3 ys _ _ p=>p,λfp E2 C s3 H0 i τ x H4 H3 Lb hi hτ nj hys hG=>?_,λE2 H4 ys Lb hl2 hx2 e4 nj=>?_⟩
 .obtain⟨o1,o2,rfl⟩:=hτ
  obtain⟨Gp,rfl⟩:=hG
  obtain⟨o,ho,t,rfl,ht⟩:=hws.get Gp
  refine eO (by rfl) (by rfl) (by rfl) (cA.of (nj _ _ (s12 _ _ ht))) (by rfl) (aN (by rfl) (aJ nd3 (by rfl) (.inl rfl) (.inr rfl) (aN (by rfl) (aJ nd3 (by rfl) (.inl rfl) (.inr rfl) (cM ?_)))))
  walk_at "ex"
  have hC4:=(hC.same s12).same nj
  refine⟨a,cs,o.1,rfl,hC4,λH5 Ik=>?_⟩
  have hio:=hM.aiL o (List.mem_of_getElem? ho)
  rw[yj 0 hio,Nat.zero_add]
  obtain⟨c,hg,hk⟩:=Rt hio
  obtain⟨vs,ea,avs⟩:=hC4.same Ik
  obtain⟨cv,gc,tc,rfl,htc⟩:=avs.get' hg
  refine aQ (bc.of ea) (bz gc) ?_
  walk_at "ex"
  refine bx (cA.of htc) (show n8 [V.str c.1,V.str c.2] 1=some (V.str c.2)from rfl) ?_
  exact⟨⟨_,_,rfl⟩,⟨o,ho,by rw[hk]⟩,Ik⟩
 .have ey:=dw (ys:=M.os) (λo=>V.str (kh cs o.1)) (by rw[hl2,hwl]) hx2
  have Lg:ys=((kcs cs M.os).map Prod.snd).map V.str:=by rw[ey];unfold kcs;rw[List.map_map,List.map_map];rfl
  subst Lg
  have ZM:=s12.trans nj
  have e14:=nj _ _ (s2 _ _ e1)
  refine aA (bj ?_)
  walk_at "ex"
  refine S7 (bc.of e14) λl2 h2=>?_
  have anA:uW ((lR M.cut).map V.str) (some 1) none=(M.cut.xs.map wordOf).map V.str:=by
   rw[show(some (1:Int))=some ((1:Nat):Int)from rfl,Nk]
   rfl
  rw[anA]
  have s5:ao H4 (upd H4 l2 (.lst ((M.cut.xs.map wordOf).map V.str))):=ao.upd h2
  have e5:(upd H4 l2 (.lst ((M.cut.xs.map wordOf).map V.str))) l2=some (.lst ((M.cut.xs.map wordOf).map V.str)):=ak
  generalize upd H4 l2 (.lst ((M.cut.xs.map wordOf).map V.str))=H5 at s5 e5⊢
  walk_at "ex"
  refine⟨E2,l2,kcs cs M.os,M.cut.xs,rfl,s5 _ _ e4,e5,by unfold kcs;rw[List.length_map];omega,λc hcm=>?_,Ei hM.vals,λv H6 s6 hv ev=>?_⟩
  .obtain⟨o,ho,rfl⟩:=List.mem_map.mp hcm
   exact HH hc (hM.names o ho)
  walk_at "ex"
  refine⟨by show 2≤sizeLine;omega,λk hk=>?_⟩
  have s7:ao H6 (upd H6 k (.tup [.ref v,.int M.cut.row])):=ao.upd hk
  have e7:(upd H6 k (.tup [.ref v,.int M.cut.row])) k=some (.tup [.ref v,.int M.cut.row]):=ak
  generalize upd H6 k (.tup [.ref v,.int M.cut.row])=H7 at s7 e7⊢
  walk_at "ex"
  refine⟨by show 2≤sizeLine;omega,λp hp=>?_⟩
  have s8:ao H7 (upd H7 p (.tup [.str (dN M.cut.ahead),.ref k])):=ao.upd hp
  have s06:=ZM.trans (s5.trans s6)
  have hv0:H v=none:=(ZM.trans s5).free hv
  refine q p _ (s06.trans (s7.trans s8)) ((s06.trans s7).free hp) ⟨k,v,ak,s8 _ _ e7,s8 _ _ (s7 _ _ ev)⟩ λk' v' z1 z2=>?_
  rw[ak]at z1
  injection z1 with z1
  injection z1 with z1
  injection z1 with _ z1
  injection z1 with z1 _
  injection z1 with z1
  subst z1
  rw[s8 _ _ e7]at z2
  injection z2 with z2
  injection z2 with z2
  injection z2 with z2 _
  injection z2 with z2
  subst z2
  exact hv0
def BP:Sp:=λvs H Q _=>∃(a:Addr) (M:Mk) (cs:List bK),vs=[.ref a,.str (cF M)]/\gO H a cs/\aW cs=true/\cJ cs M/\∀p o c k v H',ao H H'->H' p=some (.tup [.str (cC M.living),.int M.moment,.ref o,.str M.sieve,.ref c])->H o=none->tD H' o M.os->H' c=some (.tup [.str (dN M.cut.ahead),.ref k])->H' k=some (.tup [.ref v,.int M.cut.row])->H v=none->H' v=some (.lst M.cut.xs)->o≠v->Q (.ref p) H'
theorem pA(T:Txt K mg):Def P w K mg base true 51 "read_body" ["columns","body"] BP:=by
 refine Dz T (λvs H Q E h=>by obtain⟨a,M,cs,rfl,_⟩:=h;rfl) (λf cdv A outer s H vs Q E hr h=>?_)
 obtain⟨a,M,cs,rfl,hC,hc,hM,q⟩:=h
 have nd:=uG.nd
 have g1:=T.BX
 have g2:=T.Wo
 have g3:=T.Rj
 have n1:=T.jC
 have hsz:sizeLine=16777216:=sizeLine_eq
 obtain⟨t,hdp,hrd⟩:=hM.reads
 have D1:Def P w K mg base true 1 "read_make" ["letter"] BZ:=oF T
 have D2:Def P w K mg base true 4 "read_whole" ["word","most"] rC:=ji T
 have D3:Def P w K mg base true 3 "read_order" ["columns","text"] (Ni (.ref (aD mg "NoOrder"))):=mH T
 have D4:Def P w K mg base true (9+2*t.dep) "read_sieve" ["columns","text"] (Bg mg t):=Ao T t
 have D5:Def P w K mg base true 7 "read_cut" ["columns","order","text"] Hw:=qX T
 obtain⟨M2,kc,na⟩:=W6 (P:=P) (w:=w) (base:=base) T t
 obtain⟨b1,b2⟩:=sJ hc hM
 refine aj ?_
 walk_at "s"
 refine jf F.plainAttrs_str F.slot_str_split F.type_str_split (by rfl) (by rfl) (by rfl) (by rfl) (by rfl) ?_
 walk_at "ex"
 refine m_split (c:=47) (by omega) λl1 h1=>?_
 rw[Rk hc hM]
 have s1:ao H (upd H l1 (.lst ((gM M).map V.str))):=ao.upd h1
 have e1:(upd H l1 (.lst ((gM M).map V.str))) l1=some (.lst ((gM M).map V.str)):=ak
 generalize upd H l1 (.lst ((gM M).map V.str))=H1 at s1 e1⊢
 have sq1:bc K H1 l1 ((gM M).map V.str):=bc.of e1
 refine aj (bY ?_)
 walk_at "ex"
 refine Hg (λh=>absurd rfl h) (λ_=>?_)
 refine aM (aj ?_)
 walk_at "s"
 walk_at "ex"
 refine aQ sq1 (i:=0) rfl ?_
 walk_at "ex"
 refine⟨M.living,rfl,λH2 s2=>?_⟩
 walk_at "A"
 refine aQ (s2.seq sq1) (i:=1) rfl ?_
 walk_at "ex"
 refine⟨M.moment,5000,rfl,.inl rfl,by have :=hM.moment;omega,λH3 s3=>?_⟩
 have s23:=s2.trans s3
 walk_at "A"
 refine aQ (s23.seq sq1) (i:=2) rfl ?_
 walk_at "ex"
 have hro:pL cs (u9 M.os)=some M.os:=Ol hM.len hM.nodup hM.aiL λo ho hm=>by
  have hn:=iM hc (hM.names o ho)
  unfold isName iz at hn
  rw[Bool.and_eq_true,List.all_eq_true]at hn
  exact absurd (of_decide_eq_true (hn.2 32 hm)) (by decide+kernel)
 refine⟨a,cs,u9 M.os,rfl,hC.same (s1.trans s23),(by have :=yw hc hM;omega),(λH' sm e=>by rw[hro]at e;cases e),λo os H4 s4 eo ho hO=>?_⟩
 rw[hro]at eo
 cases eo
 have s24:=s23.trans s4
 have ho0:H o=none:=(s1.trans s23).free ho
 walk_at "A"
 refine aQ (s24.seq sq1) (i:=3) rfl ?_
 walk_at "ex"
 refine⟨a,cs,M.sieve,rfl,hC.same (s1.trans s24),(by have :=hM.short;omega),hM.words,hdp,hrd,λsv H5 s5 hsv=>?_⟩
 have Yl:=s24.trans s5
 have ebt:lO (cX 32 M.sieve) 0 (cX 32 M.sieve).length=M.sieve:=by
  unfold lO
  rw[List.drop_zero,Nat.sub_zero,List.take_length,UJ]
 rw[ebt]at hsv
 obtain⟨dx,fs,es,et,esh⟩:=hsv.txt
 refine aA (bj ?_)
 walk_at "ex"
 refine Ry (pl:=_) hr cN (by rfl) ?_
 walk_at "e"
 refine⟨sv,Ob mg t,dx,_,true,1,_,Fw K,rfl,es,esh,M2,by decide,id,sv,Ob mg t,dx,fs,_,rfl,es,kc,na,et,?_⟩
 walk_at "ex"
 refine aQ (Yl.seq sq1) (i:=4) rfl ?_
 walk_at "ex"
 refine⟨a,o,M,cs,rfl,hC.same (s1.trans Yl),hO.same s5,hc,hM,λc H6 s6 hc0 Ws hv=>?_⟩
 walk_at "ex"
 refine⟨by show 5≤sizeLine;omega,λp hp=>?_⟩
 obtain⟨k,v,z1,z2,z3⟩:=Ws
 have s7:ao H6 (upd H6 p (.tup [.str (cC M.living),.int M.moment,.ref o,.str M.sieve,.ref c])):=ao.upd hp
 have s05:=s1.trans Yl
 have hv5:=hv k v z1 z2
 obtain⟨ws,eo,_⟩:=hO.same s5
 refine q p o c k v _ (s05.trans (s6.trans s7)) ak ho0 ((hO.same s5).same (s6.trans s7)) (s7 _ _ z1) (s7 _ _ z2) (s05.free hv5) (s7 _ _ z3) λe=>?_
 rw[<-e,eo]at hv5
 cases hv5
def Cd:Sp:=λvs H Q _=>∃(a:Addr) (M:Mk) (cs:List bK),vs=[.ref a,.str (oV M)]/\gO H a cs/\aW cs=true/\cJ cs M/\∀p o c k v H',ao H H'->H' p=some (.tup [.str (cC M.living),.int M.moment,.ref o,.str M.sieve,.ref c])->H o=none->tD H' o M.os->H' c=some (.tup [.str (dN M.cut.ahead),.ref k])->H' k=some (.tup [.ref v,.int M.cut.row])->H v=none->H' v=some (.lst M.cut.xs)->o≠v->Q (.ref p) H'
theorem oU(T:Txt K mg):Def P w K mg base true 52 "read_mark" ["columns","text"] Cd:=by
 refine Du T (λvs H Q E h=>by obtain⟨a,M,cs,rfl,_⟩:=h;rfl) (λf cdv A outer s H vs Q E hr h=>?_)
 obtain⟨a,M,cs,rfl,hC,hc,hM,q⟩:=h
 have nd:=tE.nd
 have g1:=T.Q8
 have hsz:sizeLine=16777216:=sizeLine_eq
 have D1:Def P w K mg base true 51 "read_body" ["columns","body"] BP:=pA T
 have D2:Def P w K mg base true 2 "check_word" ["text"] zO:=jn T
 obtain⟨b1,b2⟩:=sJ hc hM
 have hb:=iy (cF M).cps.toList
 have hf:=pM (bZ (cF M).cps.toList) (by omega) (by omega)
 have lp:(Str.ofString ".").length=1:=by decide+kernel
 refine aj (gf (by rfl) (by rfl) ?_)
 refine jf PySem.F.plainAttrs_str PySem.F.slot_str_rpartition PySem.F.type_str_rpartition (by rfl) (by rfl) (by rfl) (by rfl) (by rfl) ?_
 walk_at "ex"
 refine VP (c:=46) (by unfold oV;rw[len_app,len_app];omega) λt ht=>?_
 have p1:(Txt.rpartition (oV M) ⟨#[46]⟩).1=cF M:=by rw[qY]
 have p2:(Txt.rpartition (oV M) ⟨#[46]⟩).2.1=⟨#[46]⟩:=by rw[qY]
 have p3:(Txt.rpartition (oV M) ⟨#[46]⟩).2.2=ig (bZ (cF M).cps.toList):=by rw[qY]
 rw[p1,p2,p3]
 refine eO (by rfl) (by rfl) (by rfl) (cA.of ak) (by rfl) (aN (by rfl) (aJ nd (by rfl) (.inl rfl) (.inl rfl) (aN (by rfl) (aJ nd (by rfl) (.inl rfl) (.inl rfl) (aN (by rfl) (aJ nd (by rfl) (.inl rfl) (.inl rfl) (cM ?_)))))))
 have s1:ao H (upd H t (.tup [.str (cF M),.str ⟨#[46]⟩,.str (ig (bZ (cF M).cps.toList))])):=ao.upd ht
 generalize upd H t (.tup [.str (cF M),.str ⟨#[46]⟩,.str (ig (bZ (cF M).cps.toList))])=H1 at s1⊢
 refine aj (bY ?_)
 walk_at "ex"
 refine gm (λh=>absurd h (by decide+kernel)) (λ_=>?_)
 walk_at "ex"
 refine⟨cF M,rfl,by omega,rR hc hM,?_⟩
 generalize ig (bZ (cF M).cps.toList)=fz
 walk_at "ex"
 refine Hg (λh=>absurd rfl h) (λ_=>?_)
 refine aM (aA ?_)
 refine Ri (λ_ _ _ _=>False) rfl rfl (λF pn xo po=>?_) (λσ c d H' hK=>hK.elim)
 refine aA (bj ?_)
 walk_at "ex"
 exact⟨a,M,cs,rfl,hC.same s1,hc,hM,λp o c k v H' sm z1 z2 z3 z4 z5 z6 z7 z8=>q p o c k v H' (s1.trans sm) z1 (s1.free z2) z3 z4 z5 (s1.free z6) z7 z8⟩
theorem Ie{α:Type} [BEq α] [LawfulBEq α]:∀{l m:List α},l.Nodup->(∀x∈l,x∈m)->l.length≤m.length
 |[],m,_,_=>Nat.zero_le _
 |a::r,m,h,s=>by
  have h':=List.nodup_cons.mp h
  have ha:=s a (List.mem_cons_self ..)
  have hle:=Ie (l:=r) (m:=m.erase a) h'.2 λx hx=>(List.mem_erase_of_ne (λe=>h'.1 (by subst e;exact hx))).mpr (s x (List.mem_cons_of_mem _ hx))
  rw[List.length_erase_of_mem ha]at hle
  have :=List.length_pos_of_mem ha
  rw[List.length_cons]
  omega
def okO(cs:List bK)(os:List Ord):Prop:=os.length≤4/\(os.map Prod.fst).Nodup/\∀o∈os,o.1∈cs.map Prod.fst
def lL(cs:List bK)(os:List Ord)(i:Nat):Bool:=match cs[i]? with
 |some c=>decide (c.1∉os.map Prod.fst)
 |none=>false
def jT(cs:List bK)(i:Nat):V:=match cs[i]? with
 |some c=>.str c.1
 |none=>.non
theorem Mu{z:Str}:∀{ys:List Str},(!PX (V.str z) (ys.map V.str))=decide (z∉ys)
 |[]=>by simp[PX]
 |y::ys=>by
  have ih:=Mu (z:=z) (ys:=ys)
  have e:PX (V.str z) ((y::ys).map V.str)=((y==z)||PX (V.str z) (ys.map V.str)):=rfl
  rw[e]
  by_cases h:y=z
  .subst h
   simp
  .have h1:(y==z)=false:=by simpa using h
   rw[h1,Bool.false_or,ih]
   have h2:z≠y:=λe=>h e.symm
   simp[h2]
theorem Nr{cs:List bK}{os:List Ord}(hn:(cs.map Prod.fst).Nodup)(ho:(os.map Prod.fst).Nodup)(hlt:os.length<cs.length):0<(iR (lL cs os) (jT cs) cs.length).length:=by
 have ex:∃c∈cs,c.1∉os.map Prod.fst:=by
  refine Classical.byContradiction λh=>?_
  have hall:∀z∈cs.map Prod.fst,z∈os.map Prod.fst:=λz hz=>by
   obtain⟨c,hc,rfl⟩:=List.mem_map.mp hz
   exact Classical.byContradiction λhh=>h ⟨c,hc,hh⟩
  have :=Ie hn hall
  rw[List.length_map,List.length_map]at this
  omega
 obtain⟨c,hc,hno⟩:=ex
 obtain⟨i,hi,e⟩:=List.getElem_of_mem hc
 have hm:i∈(List.range cs.length).filter (lL cs os):=by
  rw[List.mem_filter]
  refine⟨List.mem_range.mpr hi,?_⟩
  unfold lL
  rw[List.getElem?_eq_getElem hi,e]
  exact decide_eq_true hno
 unfold iR
 rw[List.length_map]
 exact List.length_pos_of_mem hm
theorem Qy{cs:List bK}{os:List Ord}{k:Nat}{v:V}(h:(iR (lL cs os) (jT cs) cs.length)[k]? =some v):∃c∈cs,v= .str c.1/\c.1∉os.map Prod.fst:=by
 unfold iR at h
 rw[List.getElem?_map]at h
 cases e:((List.range cs.length).filter (lL cs os))[k]? with
 |none=>rw[e]at h;cases h
 |some i=>
  rw[e]at h
  have hm:=List.mem_of_getElem? e
  rw[List.mem_filter]at hm
  have hi:=List.mem_range.mp hm.1
  have h2:=hm.2
  unfold lL at h2
  rw[List.getElem?_eq_getElem hi]at h2
  refine⟨cs[i],List.getElem_mem hi,?_,of_decide_eq_true h2⟩
  have h3:jT cs i=v:=Option.some.inj h
  rw[<-h3]
  unfold jT
  rw[List.getElem?_eq_getElem hi]
def Hd(K:W.Frag):Sp:=λvs H Q _=>∃(a:Addr) (ns:List Int) (b:Int) (c:Addr) (cs:List bK),vs=[.ref a,.int b,.ref c]/\bc K H a (ns.map V.int)/\ns.length≤63/\0≤b/\b≤40000/\gO H c cs/\aW cs=true/\∀p os H',ao H H'->H p=none->tD H' p os->okO cs os->Q (.ref p) H'
theorem lX(T:Txt K mg):Def P w K mg base true 2 "_law_order" ["_law_script","_law_base","_law_columns_here"] (Hd K):=by
 refine Ba T (λvs H Q E h=>by obtain⟨a,ns,b,c,cs,rfl,_⟩:=h;rfl) (λf cdv A outer s H vs Q E hr h=>?_)
 obtain⟨a,ns,b,c,cs,rfl,hS,hl,hb0,hb1,⟨vs,hc,hvs⟩,hok,q⟩:=h
 have nd:=pZ.nd
 have n1:=T.jt
 have n2:=T.jC
 have n3:=T.agX
 have hsz:sizeLine=16777216:=sizeLine_eq
 have nd1:(["_law_one","_law_order_here"]:List Str).Nodup:=by decide+kernel
 have Ve:(["_law_two"]:List Str).Nodup:=by decide+kernel
 have D1:Def P w K mg base true 1 "_law_draw" ["_law_script","_law_k","_law_many"] (kO K):=cD T
 have hvl:=hvs.len
 have hok':=hok
 unfold aW at hok'
 simp only[Bool.and_eq_true,decide_eq_true_eq]at hok'
 obtain⟨⟨⟨c1,c6⟩,_⟩,hcn⟩:=hok'
 have sqc:bc K H c vs:=bc.of hc
 walk_at "A"
 refine⟨by show 0≤sizeLine;omega,λp hp=>?_⟩
 have Nq:ao H (upd H p (.lst [])):=ao.upd hp
 have ep:(upd H p (.lst [])) p=some (.lst []):=ak
 generalize upd H p (.lst [])=H0 at Nq ep⊢
 have ayt:=Nq.seq sqc
 refine aj ?_
 refine pI (by walk_at "po") (by rfl) (by rfl) n1 (by rfl) ?_
 walk_at "ex"
 refine⟨a,ns,b,5,rfl,Nq.seq hS,hl,by omega,by omega,by decide,?_⟩
 have d0:=bf ns b (m:=5) (by decide)
 have d1:=bh ns b (m:=5) (by decide)
 generalize bB ns b 5=dn at d0 d1⊢
 walk_at "ex"
 refine ZW (by rfl) λm hm0 hm1 hm2 hm3=>?_
 have m0:0≤m:=by omega
 walk_at "ex"
 refine⟨by omega,by omega,λi σ H'=>(∃o1 o2,σ=[some (.ref a),some (.int b),some (.ref c),some (.ref p),o1,o2])/\ao H H'/\∃os:List Ord,tD H' p os/\os.length=i/\(os.map Prod.fst).Nodup/\∀o∈os,o.1∈cs.map Prod.fst,
  ⟨⟨none,none,rfl⟩,Nq,[],⟨[],ep,.nil⟩,rfl,.nil,by simp⟩,λi σ H' hi hP=>?_,λσ H' hP=>?_⟩
 .obtain⟨⟨o1,o2,rfl⟩,sm,os,⟨ws,hp',hws⟩,hol,hon,hin⟩:=hP
  have hwl:=hws.len
  have hi':(i:Int)<m:=by omega
  have hS':=sm.seq hS
  have hilt:os.length<cs.length:=by omega
  have hle:=Nr hcn hon hilt
  refine aJ nd (by rfl) (.inl rfl) (.inl rfl) ?_
  refine aj ?_
  refine T5 ["_law_one","_law_order_here"] (σ':=[none,some (.ref p)]) (by rfl) (by rfl) (by rfl) (b7 (aa dh) (by rfl) (by rfl) (by decide+kernel)) (by intro _;rfl) nd (by rfl) (by rfl) ?_
  walk_at "ex"
  refine⟨c,vs,rfl,sm.seq sqc,by omega,λτ=>∃o1,τ=[o1,some (.ref p)],lL cs os,jT cs,⟨none,rfl⟩,λfp E2 C s3 H0' j τ x H2 Lb hx hτ iw=>?_,λL H2 hL eL iw=>?_⟩
  .obtain⟨o1,rfl⟩:=hτ
   obtain⟨cc,hcc,t,rfl,ht⟩:=hvs.get hx
   have ht2:=iw _ _ (sm _ _ ht)
   refine aJ nd1 (by rfl) (.inl rfl) (.inr rfl) ?_
   walk_at "ex"
   refine bx (cA.of ht2) (show n8 [V.str cc.1,V.str cc.2] 0=some (V.str cc.1)from rfl) ?_
   refine nQ ["_law_two"] (σ':=[none]) (by rfl) (by rfl) (b7 _ (by rfl) (by rfl) (by rfl)) (by intro _;rfl) ?_
   walk_at "ex"
   refine⟨p,ws,rfl,bc.of (iw _ _ hp'),by omega,λτ=>∃o1,τ=[o1],λE3 i u H'=>∃o,os[i]? =some o/\u= .str o.1,⟨none,rfl⟩,λE3 i u H2 H3 ys _ _ p=>p,λfp3 E3 C3 s33 H03 i3 τ3 x3 H43 H33 hE3 hi3 hτ3 V8 az9 hG3=>?_,λE3 H43 ys3 hE3 hl3 Gp e43 V8=>?_⟩
   .obtain⟨o1,rfl⟩:=hτ3
    obtain⟨hx4,rfl⟩:=hG3
    obtain⟨oo,hoo,t3,rfl,ht3⟩:=hws.get hx4
    refine aJ Ve (by rfl) (.inl rfl) (.inr rfl) ?_
    walk_at "ex"
    refine bx (cA.of (V8 _ _ (iw _ _ ht3))) (show n8 [V.str oo.1,V.bl oo.2] 0=some (V.str oo.1)from rfl) ?_
    exact⟨⟨_,rfl⟩,⟨oo,hoo,rfl⟩,ao.refl _⟩
   .have ey:=dw (ys:=os) (λo=>V.str o.1) (by rw[hl3,hwl]) Gp
    have Lg:ys3=(os.map Prod.fst).map V.str:=by rw[ey,List.map_map];rfl
    subst Lg
    refine aeL (bc.of e43) (by rfl) (by rw[List.all_map];exact List.all_eq_true.mpr λ_ _=>rfl) ?_
    refine⟨_,rfl,?_⟩
    refine⟨?_,⟨_,rfl⟩,V8,λhk=>?_⟩
    .unfold lL
     rw[hcc,Mu]
    .walk_at "ex"
     refine bx (cA.of (V8 _ _ ht2)) (show n8 [V.str cc.1,V.str cc.2] 0=some (V.str cc.1)from rfl) ?_
     refine⟨?_,ao.refl _⟩
     unfold jT
     rw[hcc]
  .have Di:=sm.trans iw
   have hp2:=iw _ _ hp'
   have sqL:bc K H2 L (iR (lL cs os) (jT cs) vs.length):=bc.of eL
   rw[hvl]at sqL
   have hkl:=Bf (lL cs os) (jT cs) cs.length
   refine aA (gB (by rfl) (jf F.plainAttrs_list F.slot_list_append F.type_list_append (by rfl) (by rfl) (by rfl) (by rfl) (by rfl) ?_))
   walk_at "e"
   refine⟨.inl ⟨rfl,_,bc.of hp2⟩,?_⟩
   walk_at "ex"
   refine⟨a,ns,_,_,rfl,Di.seq hS,hl,by omega,by omega,by omega,?_⟩
   have k0:=bf ns (b+1+(i:Int)) (m:=((iR (lL cs os) (jT cs) cs.length).length:Int)) (by omega)
   have k1:=bh ns (b+1+(i:Int)) (m:=((iR (lL cs os) (jT cs) cs.length).length:Int)) (by omega)
   obtain⟨k,ek⟩:=Int.eq_ofNat_of_zero_le k0
   rw[ek]at k1⊢
   have hk:k<(iR (lL cs os) (jT cs) cs.length).length:=by omega
   obtain⟨cc,hcc,ecc,hno⟩:=Qy (List.getElem?_eq_getElem hk)
   refine aQ sqL (bz (by rw[List.getElem?_eq_getElem hk,ecc])) ?_
   walk_at "ex"
   refine⟨a,ns,_,2,rfl,Di.seq hS,hl,by omega,by omega,by decide,?_⟩
   walk_at "ex"
   refine⟨by show 2≤sizeLine;omega,λtp htp=>?_⟩
   generalize decide (V.int (bB ns (b+6+(i:Int)) 2)=V.int 0)=up at htp⊢
   have Gw:ao H2 (upd H2 tp (.tup [.str cc.1,.bl up])):=ao.upd htp
   have etp:(upd H2 tp (.tup [.str cc.1,.bl up])) tp=some (.tup [.str cc.1,.bl up]):=ak
   generalize upd H2 tp (.tup [.str cc.1,.bl up])=H5 at Gw etp⊢
   walk_at "ex"
   have ep5:H5 p=some (.lst ws):=Gw _ _ hp2
   refine lH gK ⟨p,ws,_,rfl,rfl,ep5,by omega,?_⟩
   refine⟨⟨_,_,rfl⟩,λd o e=>?_,os++[(cc.1,up)],⟨ws++[.ref tp],ak,eU.app (hws.imp λu c x=>?_) (.cons ?_ .nil)⟩,by simp[hol],?_,λo ho=>?_⟩
   .rw[az (au e hp)]
    exact Gw _ _ (Di _ _ e)
   .obtain⟨tq,rfl,hq⟩:=x
    have hne:tq≠p:=λe=>by subst e;rw[hp']at hq;cases hq
    exact⟨tq,rfl,by rw[az hne];exact Gw _ _ (iw _ _ hq)⟩
   .have hne:tp≠p:=λe=>by subst e;rw[ep5]at etp;cases etp
    exact⟨tp,rfl,by rw[az hne];exact etp⟩
   .rw[List.map_append]
    refine List.nodup_append.mpr ⟨hon,by simp,λx hx y hy=>?_⟩
    have :y=cc.1:=by simpa using hy
    subst this
    exact λe=>hno (e▸hx)
   .rcases List.mem_append.mp ho with ho |ho
    .exact hin o ho
    .have :o=(cc.1,up):=by simpa using ho
     subst this
     exact List.mem_map.mpr ⟨cc,hcc,rfl⟩
 .obtain⟨⟨o1,o2,rfl⟩,sm,os,hO,hol,hon,hin⟩:=hP
  refine aA (bj ?_)
  walk_at "ex"
  have hol':os.length=m.toNat:=by simpa using hol
  exact q p os H' sm hp hO ⟨by omega,hon,hin⟩
theorem Mh:Vb.cps.toList=List.range' 97 26:=by decide+kernel
theorem afn(c:Nat):c∈Vb.cps.toList↔97≤c/\c≤122:=by
 rw[Mh,List.mem_range'_1]
 omega
theorem RC{k:Nat}(h:k<26):Vb.cps.toList[k]? =some (97+k):=by
 rw[Mh,List.getElem?_range' h]
 simp
theorem PL{z:Str}(h1:1≤z.length)(h8:z.length≤8)(h:∀c∈z.cps.toList,97≤c/\c≤122):isName z=true:=by
 unfold isName iz
 rw[Bool.and_eq_true,decide_eq_true_eq,List.all_eq_true]
 exact⟨⟨h1,h8⟩,λc hc=>decide_eq_true ((afn c).mpr (h c hc))⟩
def J3(W:Str)(at_ first size way j:Nat):Str:=
 if way=0 then bV W none (some (at_:Int))++⟨#[97+(first+j) % 26]⟩++bV W (some ((at_+1:Nat):Int)) none else
 if way=1 then bV W none (some ((j+1:Nat):Int))else(⟨#[97+(first+j) % 26]⟩:Str)++bV W none (some (size:Int))
theorem Lz{W:Str}{at_ first size j:Nat}(hW:W.length=8)(ha:at_<8):(J3 W at_ first size 0 j).cps.toList=W.cps.toList.take at_++(97+(first+j) % 26)::W.cps.toList.drop (at_+1):=by
 have hl:=L2.len_list W
 unfold J3
 rw[if_pos rfl,bw,bw,uq,uU,List.append_assoc]
 show _++([_]++_)=_
 rw[HT.xZ,Nat.min_eq_left (by omega)]
 congr 1
 show(97+(first+j) % 26)::List.take (W.length-(at_+1)) _=_
 rw[List.take_of_length_le (by rw[List.length_drop];omega)]
theorem M9{W:Str}{at_ first size j:Nat}:(J3 W at_ first size 1 j).cps.toList=W.cps.toList.take (j+1):=by
 unfold J3
 rw[if_neg (by decide),if_pos rfl,uq]
theorem Lr{W:Str}{at_ first size way j:Nat}(h0:way≠0)(h1:way≠1):(J3 W at_ first size way j).cps.toList=(97+(first+j) % 26)::W.cps.toList.take size:=by
 unfold J3
 rw[if_neg h0,if_neg h1,bw,uq]
 rfl
theorem Xe{W:Str}{at_ first size way j:Nat}(hW:W.length=8)(ha:at_<8)(hs:size<8)(hj:j<6):1≤(J3 W at_ first size way j).length/\(J3 W at_ first size way j).length≤8:=by
 have hl:=L2.len_list W
 rw[L2.len_list (J3 W at_ first size way j)]
 by_cases h0:way=0
 .subst h0
  rw[Lz hW ha,List.length_append,List.length_cons,List.length_take,List.length_drop]
  omega
 .by_cases h1:way=1
  .subst h1
   rw[M9,List.length_take]
   omega
  .rw[Lr h0 h1,List.length_cons,List.length_take]
   omega
theorem Y8{W:Str}{at_ first size way j:Nat}(hW:W.length=8)(ha:at_<8)(hw:∀c∈W.cps.toList,97≤c/\c≤122):∀c∈(J3 W at_ first size way j).cps.toList,97≤c/\c≤122:=by
 intro c hc
 have hm:=Nat.mod_lt (first+j) (show 0<26 by decide)
 by_cases h0:way=0
 .subst h0
  rw[Lz hW ha]at hc
  rcases List.mem_append.mp hc with h |h
  .exact hw c (List.mem_of_mem_take h)
  .rcases List.mem_cons.mp h with h |h
   .omega
   .exact hw c (List.mem_of_mem_drop h)
 .by_cases h1:way=1
  .subst h1
   rw[M9]at hc
   exact hw c (List.mem_of_mem_take hc)
  .rw[Lr h0 h1]at hc
   rcases List.mem_cons.mp hc with h |h
   .omega
   .exact hw c (List.mem_of_mem_take h)
theorem WD{W:Str}{at_ first s1 s2 way i j:Nat}(hW:W.length=8)(ha:at_<8)(hi:i<6)(hj:j<6)(e:J3 W at_ first s1 way i=J3 W at_ first s2 way j):i=j:=by
 have hl:=L2.len_list W
 have e':=congrArg (λz:Str=>z.cps.toList) e
 by_cases h0:way=0
 .subst h0
  rw[Lz hW ha,Lz hW ha]at e'
  have h1:=(List.append_inj e' rfl).2
  injection h1 with h2 _
  omega
 .by_cases h1:way=1
  .subst h1
   rw[M9,M9]at e'
   have :=congrArg List.length e'
   rw[List.length_take,List.length_take]at this
   omega
  .rw[Lr h0 h1,Lr h0 h1]at e'
   injection e' with h2 _
   omega
theorem N6{cs:List bK}(h1:1≤cs.length)(h6:cs.length≤6)(hn:(cs.map Prod.fst).Nodup)(h:∀c∈cs,isName c.1=true/\(c.2="number"\/c.2="text")):aW cs=true:=by
 unfold aW uV
 rw[Bool.and_eq_true,Bool.and_eq_true,decide_eq_true_eq,decide_eq_true_eq,List.all_eq_true]
 exact⟨⟨⟨h1,h6⟩,λc hc=>by rw[(h c hc).1,decide_eq_true (h c hc).2];rfl⟩,hn⟩
theorem Px{α β:Type}{R:α->β->Prop}{l:List α}{m:List β}{a:α}{b:β}(h:eU R l m)(r:R a b):eU R (l++[a]) (m++[b]):=by
 induction h with
 |nil=>exact .cons r .nil
 |cons h _ ih=>exact .cons h ih
theorem O5{α β:Type}{R S:α->β->Prop}{l:List α}{m:List β}(h:eU R l m)(f:∀a b,R a b->S a b):eU S l m:=by
 induction h with
 |nil=>exact .nil
 |cons h _ ih=>exact .cons (f _ _ h) ih
def K5(K:W.Frag):Sp:=λvs H Q _=>∃(a:Addr) (ns:List Int) (b m:Int),vs=[.ref a,.int b,.int m]/\bc K H a (ns.map V.int)/\ns.length≤63/\0≤b/\b≤40000/\1≤m/\m≤6/\∀p cs H',ao H H'->H p=none->gO H' p cs->aW cs=true->Q (.ref p) H'
def Qh:List Str:=[Str.ofString "all",Str.ofString "not",Str.ofString "is",Str.ofString "none",Str.ofString "both",Str.ofString "over"]
theorem XF:∀i,i<6->∀j,j<6->Qh[i]? =Qh[j]? ->i=j:=by decide+kernel
theorem Ue:∀z∈Qh,isName z=true:=by decide+kernel
def Em(sp:Bool)(W:Str)(at_ first way:Nat)(H:Hp)(p:Addr)(j:Nat):Prop:=∃cs:List bK,gO H p cs/\cs.length=j/\(∀(i:Nat) c,cs[i]? =some c->((sp=false/\∃sz,sz<8/\c.1=J3 W at_ first sz way i)\/(sp=true/\Qh[i]? =some c.1))/\(c.2="number"\/c.2="text"))
theorem Em.ok{sp:Bool}{W:Str}{at_ first way:Nat}{H:Hp}{p:Addr}{j:Nat}(hW:W.length=8)(ha:at_<8)(hw:∀c∈W.cps.toList,97≤c/\c≤122)(h1:1≤j)(h6:j≤6)(h:Em sp W at_ first way H p j):∃cs,gO H p cs/\aW cs=true:=by
 obtain⟨cs,hC,hl,hg⟩:=h
 refine⟨cs,hC,N6 (by omega) (by omega) ?_ λc hc=>?_⟩
 .unfold List.Nodup
  rw[List.pairwise_iff_getElem]
  intro i k hi hk hik e
  rw[List.length_map]at hi hk
  rw[List.getElem_map,List.getElem_map]at e
  obtain⟨e1,_⟩:=hg i _ (List.getElem?_eq_getElem hi)
  obtain⟨e2,_⟩:=hg k _ (List.getElem?_eq_getElem hk)
  rcases e1 with⟨f1,s1,_,e1⟩ |⟨f1,e1⟩
  .rcases e2 with⟨f2,s2,_,e2⟩ |⟨f2,e2⟩
   .rw[e1,e2]at e
    have :=WD hW ha (by omega) (by omega) e
    omega
   .rw[f1]at f2;cases f2
  .rcases e2 with⟨f2,s2,_,e2⟩ |⟨f2,e2⟩
   .rw[f1]at f2;cases f2
   .rw[e]at e1
    have :=XF i (by omega) k (by omega) (e1.trans e2.symm)
    omega
 .obtain⟨i,hi,e⟩:=List.getElem_of_mem hc
  obtain⟨e1,hk⟩:=hg i c (by rw[List.getElem?_eq_getElem hi,e])
  rcases e1 with⟨_,sz,hs,e1⟩ |⟨_,e1⟩
  .have :=Xe (first:=first) (way:=way) hW ha hs (show i<6 by omega)
   rw[<-e1]at this
   refine⟨PL this.1 this.2 ?_,hk⟩
   rw[e1]
   exact Y8 hW ha hw
  .exact⟨Ue c.1 (List.mem_of_getElem? e1),hk⟩
theorem jB(T:Txt K mg):Def P w K mg base true 2 "_law_columns" ["_law_script","_law_base","_law_most"] (K5 K):=by
 refine xF T (λvs H Q E h=>by obtain⟨a,ns,b,m,rfl,_⟩:=h;rfl) (λf cdv A outer s H vs Q E hr h=>?_)
 obtain⟨a,ns,b,m,rfl,hS,hl,hb0,hb1,hm0,hm1,q⟩:=h
 have nd:=mV.nd
 have n1:=T.jt
 have hsz:sizeLine=16777216:=sizeLine_eq
 have D1:Def P w K mg base true 1 "_law_draw" ["_law_script","_law_k","_law_many"] (kO K):=cD T
 have azy:Vb.length=26:=by decide+kernel
 refine aj ?_
 walk_at "go"
 refine zM ["_law_k","_law_base","_law_letters","_law_script"] (σ':=[none,some (.int b),some (.str Vb),some (.ref a)]) (by rfl) (by rfl) (b7 (aa bF) (by rfl) (by rfl) (by decide+kernel)) (by decide+kernel) (by rfl) (by rfl) (by rfl) n1 (by rfl) ?_
 walk_at "e"
 refine⟨8,rfl,by omega,by omega,λi v=>v= .str ⟨#[97+(bB ns (b+(i:Int)) 26).toNat]⟩,λfp E' C s3 H0 i H2 hi sm=>?_,λE' H1 xs hE hl2 hx e2 gh=>?_⟩
 .walk_at "go"
  have hi8:i<8:=by simpa using hi
  refine⟨a,ns,b+i,26,rfl,sm.seq hS,hl,by omega,by omega,by decide,?_⟩
  have h1:=bf ns (b+i) (m:=26) (by decide)
  have h2:=bh ns (b+i) (m:=26) (by decide)
  refine xg (by omega) (n:=97+(bB ns (b+(i:Int)) 26).toNat) ?_ ⟨rfl,ao.refl _⟩
  have e:bB ns (b+(i:Int)) 26=(((bB ns (b+(i:Int)) 26).toNat:Nat):Int):=by omega
  have h3:=bz (RC (k:=(bB ns (b+(i:Int)) 26).toNat) (by omega))
  rw[<-e]at h3
  exact h3
 .have ex:=dw (ys:=List.range 8) (λi:Nat=>V.str ⟨#[97+(bB ns (b+(i:Int)) 26).toNat]⟩) (by rw[hl2,List.length_range];rfl) (λi v e=>⟨i,?_,hx i v e⟩)
  .have ex2:xs=(((List.range 8).map λi:Nat=>97+(bB ns (b+(i:Int)) 26).toNat).map λc=>(⟨#[c]⟩:Str)).map V.str:=by
    rw[ex,List.map_map,List.map_map]
    rfl
   subst ex2
   walk_at "go"
   refine oR (bc.of e2) ?_ ?_
   .have e0:(Str.ofString "").length=0:=by decide+kernel
    rw[uy,List.length_map,List.length_map,List.length_range,e0]
    omega
   rw[my]
   have hwl:(⟨((List.range 8).map λi:Nat=>97+(bB ns (b+(i:Int)) 26).toNat).toArray⟩:Str).length=8:=by rw[L2.len_list];simp
   have hwc:∀c∈(⟨((List.range 8).map λi:Nat=>97+(bB ns (b+(i:Int)) 26).toNat).toArray⟩:Str).cps.toList,97≤c/\c≤122:=λc hc=>by
    have hc':c∈(List.range 8).map λi:Nat=>97+(bB ns (b+(i:Int)) 26).toNat:=by simpa using hc
    obtain⟨i,_,rfl⟩:=List.mem_map.mp hc'
    have h1:=bf ns (b+i) (m:=26) (by decide)
    have h2:=bh ns (b+i) (m:=26) (by decide)
    omega
   generalize(⟨((List.range 8).map λi:Nat=>97+(bB ns (b+(i:Int)) 26).toNat).toArray⟩:Str)=W at hwl hwc⊢
   refine aj ?_
   walk_at "go"
   refine⟨a,ns,b+10,3,rfl,gh.seq hS,hl,by omega,by omega,by decide,?_⟩
   have w0:=bf ns (b+10) (m:=3) (by decide)
   have w1:=bh ns (b+10) (m:=3) (by decide)
   obtain⟨way,ew⟩:=Int.eq_ofNat_of_zero_le w0
   rw[ew]at w1⊢
   walk_at "go"
   refine⟨a,ns,b+11,8,rfl,gh.seq hS,hl,by omega,by omega,by decide,?_⟩
   have a0:=bf ns (b+11) (m:=8) (by decide)
   have a1:=bh ns (b+11) (m:=8) (by decide)
   obtain⟨at_,ea⟩:=Int.eq_ofNat_of_zero_le a0
   rw[ea]at a1⊢
   walk_at "go"
   refine⟨by show 0≤sizeLine;omega,λp hp=>?_⟩
   have pn:H p=none:=gh.free hp
   have Nq:ao H (upd H1 p (.lst [])):=gh.trans (ao.upd hp)
   have ep:(upd H1 p (.lst [])) p=some (.lst []):=ak
   generalize upd H1 p (.lst [])=H2 at Nq ep⊢
   have f0:=bf ns (b+13) (m:=26) (by decide)
   have f1:=bh ns (b+13) (m:=26) (by decide)
   obtain⟨fi,ef⟩:=Int.eq_ofNat_of_zero_le f0
   have hat:at_<8:=by omega
   obtain⟨sp,hsp⟩:∃sp:Bool,sp=decide (V.int (bB ns (b+40) 8)=V.int 0):=⟨_,rfl⟩
   refine aj ?_
   refine pI (by walk_at "po") (by rfl) (by rfl) n1 (by rfl) ?_
   walk_at "go"
   refine⟨a,ns,b+12,m,rfl,Nq.seq hS,hl,by omega,by omega,by omega,?_⟩
   have g0:=bf ns (b+12) (m:=m) (by omega)
   have g1:=bh ns (b+12) (m:=m) (by omega)
   generalize bB ns (b+12) m=g at g0 g1⊢
   walk_at "go"
   refine⟨by omega,by omega,λi σ H'=>(∃o8 o9 WW o11,σ=[some (.ref a),some (.int b),some (.int m),some (.str Vb),some (.str W),some (.int way),some (.int at_),some (.ref p),o8,o9,WW,o11])/\ao H H'/\Em sp W at_ fi way H' p i,
    ⟨⟨none,none,none,none,rfl⟩,Nq,⟨[],⟨[],ep,.nil⟩,rfl,λi c e=>by simp at e⟩⟩,λi σ H' hi hP=>?_,λσ H' hP=>?_⟩
   .obtain⟨⟨o8,o9,WW,o11,rfl⟩,sm,hC⟩:=hP
    have hi6:i<6:=by have :(i:Int)<1+g:=by omega
                     omega
    refine aJ nd (by rfl) (.inl rfl) (.inl rfl) ?_
    walk_at "go"
    refine⟨a,ns,b+13,26,rfl,sm.seq hS,hl,by omega,by omega,by decide,?_⟩
    rw[ef]
    walk_at "go"
    rw[show((fi:Int)+(i:Int)) % 26=(((fi+i) % 26:Nat):Int)by omega]
    refine xg (by omega) (bz (RC (Nat.mod_lt _ (by decide)))) ?_
    walk_at "go"
    refine⟨a,ns,b+20+i,8,rfl,sm.seq hS,hl,by omega,by omega,by decide,?_⟩
    have s0:=bf ns (b+20+i) (m:=8) (by decide)
    have s1:=bh ns (b+20+i) (m:=8) (by decide)
    obtain⟨sz,es⟩:=Int.eq_ofNat_of_zero_le s0
    rw[es]at s1⊢
    have l1:=pF W none (some (at_:Int))
    have l2:=pF W (some ((at_:Int)+1)) none
    have l3:=pF W none (some (sz:Int))
    have ls:(⟨#[97+(fi+i) % 26]⟩:Str).length=1:=rfl
    have l4:=len_app (bV W none (some (at_:Int))) ⟨#[97+(fi+i) % 26]⟩
    walk_at "go"
    refine m7 (by omega) ?_
    walk_at "go"
    refine aZ (by omega) ?_
    walk_at "go"
    refine m7 (by omega) ?_
    refine aZ (by omega) ?_
    walk_at "go"
    refine m7 (by omega) ?_
    walk_at "go"
    refine m7 (by omega) ?_
    refine aZ (by omega) ?_
    walk_at "go"
    refine⟨by show 3≤sizeLine;omega,λk hk=>?_⟩
    walk_at "go"
    have hg3:n8 [V.str (bV W none (some (at_:Int))++⟨#[97+(fi+i) % 26]⟩++bV W (some ((at_:Int)+1)) none),V.str (bV W none (some ((i:Int)+1))),V.str ((⟨#[97+(fi+i) % 26]⟩:Str)++bV W none (some (sz:Int)))] (way:Int)=some (V.str (J3 W at_ fi sz way i)):=by
     have hw3:way<3:=by omega
     match way,hw3 with
     |0,_=>rfl
     |1,_=>rfl
     |2,_=>rfl
    refine aQ (bc.of ak) hg3 ?_
    have Wr:=ao.upd (H:=H') (o:=.lst [V.str (bV W none (some (at_:Int))++⟨#[97+(fi+i) % 26]⟩++bV W (some ((at_:Int)+1)) none),V.str (bV W none (some ((i:Int)+1))),V.str ((⟨#[97+(fi+i) % 26]⟩:Str)++bV W none (some (sz:Int)))]) hk
    generalize upd H' k _=H3 at Wr⊢
    obtain⟨cs,⟨vs,hp',hvs⟩,hcl,hcg⟩:=hC
    have YT:∀(D:Ends) (H3:Hp) (nx:Str),ao H' H3->((sp=false/\∃sz,sz<8/\nx=J3 W at_ fi sz way i)\/(sp=true/\Qh[i]? =some nx))->(∀σ' G,((∃o8 o9 WW o11,σ'=[some (.ref a),some (.int b),some (.int m),some (.str Vb),some (.str W),some (.int way),some (.int at_),some (.ref p),o8,o9,WW,o11])/\ao H G/\Em sp W at_ fi way G p (i+1))->D.nx σ' G)->
      lz (w6 true P w K mg base jE "_law_columns" (aa bF) f cdv A outer s H E) ((ajh (OD (aq bF) 5)).drop 4) D [some (.ref a),some (.int b),some (.int m),some (.str Vb),some (.str W),some (.int way),some (.int at_),some (.ref p),some (.int i),some (.str ⟨#[97+(fi+i) % 26]⟩),some (.int sz),some (.str nx)] H3:=by
     intro D H3 nx Wr hnx hD
     refine aA (gB (by rfl) (jf F.plainAttrs_list F.slot_list_append F.type_list_append (by rfl) (by rfl) (by rfl) (by rfl) (by rfl) ?_))
     walk_at "go"
     refine⟨.inl ⟨rfl,_,bc.of (Wr _ _ hp')⟩,?_⟩
     walk_at "go"
     refine⟨by show 2≤sizeLine;omega,λy hy=>?_⟩
     have Q3:ao H3 (upd H3 y (.lst [.str "number",.str "text"])):=ao.upd hy
     have ey:(upd H3 y (.lst [.str "number",.str "text"])) y=some (.lst [.str "number",.str "text"]):=ak
     generalize upd H3 y (.lst [.str "number",.str "text"])=H5 at Q3 ey⊢
     walk_at "go"
     refine⟨a,ns,b+30+i,2,rfl,((sm.trans Wr).trans Q3).seq hS,hl,by omega,by omega,by decide,?_⟩
     have k0:=bf ns (b+30+i) (m:=2) (by decide)
     have k1:=bh ns (b+30+i) (m:=2) (by decide)
     obtain⟨kd,e1,e2⟩:=xT (xs:=[V.str "number",V.str "text"]) k0 (by show _<(2:Int);omega)
     refine aQ (bc.of ey) e1 ?_
     obtain⟨kk,rfl,hkk⟩:∃kk:Str,kd= .str kk/\(kk="number"\/kk="text"):=by
      rcases List.mem_cons.mp e2 with e |e
      .exact⟨_,e,.inl rfl⟩
      .exact⟨"text",by simpa using e,.inr rfl⟩
     walk_at "go"
     refine⟨by show 2≤sizeLine;omega,λt ht=>?_⟩
     have Gw:ao H5 (upd H5 t (.tup [.str (nx),.str kk])):=ao.upd ht
     have et:(upd H5 t (.tup [.str (nx),.str kk])) t=some (.tup [.str (nx),.str kk]):=ak
     generalize upd H5 t (.tup [.str (nx),.str kk])=H6 at Gw et⊢
     have s6:ao H' H6:=(Wr.trans Q3).trans Gw
     have hvl:=hvs.len
     refine kZ (lH gK ⟨p,_,_,rfl,rfl,s6 _ _ hp',by rw[hvl];omega,?_⟩)
     have tp:t≠p:=λe=>by rw[e,(Wr.trans Q3) _ _ hp']at ht;cases ht
     have up:∀b' o,H6 b'=some o->b'≠p->(upd H6 p (.lst (vs++[.ref t]))) b'=some o:=λb' o e hne=>by rw[az hne];exact e
     refine hD _ _ ⟨⟨_,_,_,_,rfl⟩,λb' o e=>?_,cs++[(nx,kk)],⟨vs++[.ref t],ak,Px (O5 hvs λx c hx=>?_) ⟨t,rfl,up _ _ et tp⟩⟩,by rw[List.length_append,List.length_singleton,hcl],λj c e=>?_⟩
     .rw[az (au e pn)]
      exact s6 _ _ (sm _ _ e)
     .obtain⟨u,rfl,hu⟩:=hx
      have hup:u≠p:=λz=>by rw[z,hp']at hu;cases hu
      exact⟨u,rfl,up _ _ (s6 _ _ hu) hup⟩
     .by_cases hj:j<cs.length
      .rw[List.getElem?_append_left hj]at e
       exact hcg j c e
      .have hj2:=(List.getElem?_eq_some_iff.mp e).1
       rw[List.length_append,List.length_singleton]at hj2
       have ej:j=cs.length:=by omega
       subst ej
       rw[List.getElem?_concat_length]at e
       cases e
       rw[hcl]
       exact⟨hnx,hkk⟩
    refine aj (bY ?_)
    walk_at "ex"
    refine⟨a,ns,b+40,8,rfl,(sm.trans Wr).seq hS,hl,by omega,by omega,by decide,?_⟩
    walk_at "ex"
    refine gm (λh=>?_) (λh=>?_)
    .refine aA ?_
     walk_at "s"
     walk_at "ex"
     refine⟨by show 6≤sizeLine;omega,λy hy=>?_⟩
     have Q3:ao H3 (upd H3 y (.lst (Qh.map V.str))):=ao.upd hy
     have ey:(upd H3 y (.lst (Qh.map V.str))) y=some (.lst (Qh.map V.str)):=ak
     change EV _ _ _ (upd H3 y (.lst (Qh.map V.str))) _
     generalize upd H3 y (.lst (Qh.map V.str))=H4 at Q3 ey⊢
     walk_at "ex"
     have h6:Qh[i]? =some Qh[i]:=List.getElem?_eq_getElem (show i<6 from hi6)
     refine aQ (bc.of ey) (bz (by rw[List.getElem?_map,h6];rfl)) ?_
     exact YT _ H4 _ (Wr.trans Q3) (.inr ⟨by rw[hsp,decide_eq_true h],h6⟩) λσ' G h=>h
    .exact aM (YT _ H3 _ Wr (.inl ⟨by rw[hsp,decide_eq_false h],sz,by omega,rfl⟩) λσ' G h=>h)
   .obtain⟨⟨o8,o9,WW,o11,rfl⟩,sm,hC⟩:=hP
    obtain⟨cs,hC',hok⟩:=hC.ok hwl hat hwc (by omega) (by omega)
    walk_at "go"
    exact q p cs _ sm pn hC' hok
  .have :i<xs.length:=(List.getElem?_eq_some_iff.mp e).1
   rw[List.getElem?_range (by simp at hl2;omega)]
def CG(K:W.Frag):Sp:=λvs H Q _=>∃(a:Addr) (ns:List Int) (k:Int) (b:Addr) (cs:List bK),vs=[.ref a,.int k,.ref b]/\bc K H a (ns.map V.int)/\ns.length≤63/\0≤k/\k≤40000/\gO H b cs/\cs.length≤6/\∀p xs H',ao H H'->H p=none->H' p=some (.lst xs)->eU (λc x=>jd c.2 x) cs xs->Q (.ref p) H'
theorem wG{α β:Type}{R:α->β->Prop}:∀{l:List α} {m:List β},m.length=l.length->(∀(i:Nat) b,m[i]? =some b->∃a,l[i]? =some a/\R a b)->eU R l m
 |[],[],_,_=>.nil
 |[],_::_,h,_=>by simp at h
 |_::_,[],h,_=>by simp at h
 |a::l,b::m,h,g=>by
  obtain⟨a',e,r⟩:=g 0 b rfl
  have :a=a':=by simpa using e
  subst this
  exact .cons r (wG (by simpa using h) λi x e=>by simpa using g (i+1) x (by simpa using e))
theorem km(T:Txt K mg):Def P w K mg base true 3 "_law_values" ["_law_script","_law_k","_law_columns_here"] (CG K):=by
 refine yL T (λvs H Q E h=>by obtain⟨a,ns,k,b,cs,rfl,_⟩:=h;rfl) (λf cdv A outer s H vs Q E hr h=>?_)
 obtain⟨a,ns,k,b,cs,rfl,hS,hl,hk0,hk1,hC,hc6,q⟩:=h
 have n1:=T.jt
 have n2:=T.jC
 have hsz:sizeLine=16777216:=sizeLine_eq
 have D1:Def P w K mg base true 2 "_law_value" ["_law_script","_law_k","_law_kind"] (yI K):=jl T
 have ndc:(["_law_j","_law_columns_here","_law_k","_law_script"]:List Str).Nodup:=by decide+kernel
 obtain⟨vs,hb,hvs⟩:=id hC
 have hvl:=hvs.len
 have SB:bc K H b vs:=bc.of hb
 refine aA (bj ?_)
 refine Nj ["_law_j","_law_columns_here","_law_k","_law_script"] (σ':=[none,some (.ref b),some (.int k),some (.ref a)]) (by rfl) (by rfl) (b7 (aa cQ) (by rfl) (by rfl) (by decide+kernel)) (by rfl) n1 (by rfl) ?_
 walk_at "go"
 refine⟨by omega,by omega,λτ=>∃o1,τ=[o1,some (.ref b),some (.int k),some (.ref a)],λE2 i u H'=>∃c,cs[i]? =some c/\jd c.2 u,⟨none,rfl⟩,λE2 i u H2 H3 ys _ _ p=>p,λfp E2 C s3 H0 i τ x H4 H3 Lb hi hτ nj hys hG=>?_,λL H1 ys hL hl2 hx2 e1 gh=>?_⟩
 .obtain⟨o1,rfl⟩:=hτ
  obtain⟨rfl,rfl⟩:=hG
  have hil:i<vs.length:=by simpa using hi
  have hg:vs[i]? =some vs[i]:=List.getElem?_eq_getElem hil
  obtain⟨c,hc,t,ev,ht⟩:=hvs.get hg
  refine aJ ndc (by rfl) (.inl rfl) (.inr rfl) ?_
  walk_at "go"
  refine aQ (nj.seq SB) (bz hg) ?_
  rw[ev]
  walk_at "go"
  refine bx (cA.of (nj _ _ ht)) (show n8 [V.str c.1,V.str c.2] 1=some (V.str c.2)from rfl) ?_
  walk_at "go"
  refine⟨a,ns,_,c.2,rfl,nj.seq hS,hl,by omega,by omega,λv H5 Ik hv=>?_⟩
  exact⟨⟨_,rfl⟩,⟨c,hc,hv⟩,Ik⟩
 .exact q L ys H1 gh hL e1 (wG (by rw[hl2, <-hvl];simp) hx2)
def G8(v:V):Prop:=v= .non\/(∃i,v= .int i)\/∃z,v= .str z/\z.length≤4000
theorem jd.flat{kd:Str}{v:V}(h:jd kd v):G8 v:=by
 rcases h with rfl |⟨_,i,rfl,_⟩ |⟨_,z,rfl,hl,_⟩
 .exact .inl rfl
 .exact .inr (.inl ⟨i,rfl⟩)
 .exact .inr (.inr ⟨z,rfl,by omega⟩)
abbrev W0:Str:="_law_due"
def zc:Sp:=λvs H Q _=>∃i:Int,vs=[.int i,.int i]/\Q (.bl true) H
theorem je(T:Txt K mg):Def P w K mg base true 1 "_law_is_whole" ["_law_found",W0] zc:=by
 refine wj T (λvs H Q E h=>by obtain⟨i,rfl,_⟩:=h;rfl) (λf cdv A outer s H vs Q E hr h=>?_)
 obtain⟨i,rfl,q⟩:=h
 have n1:=T.eF
 have n2:=T.SJ
 have n3:=T.Kh
 refine aA (bj ?_)
 walk_at "go"
 rw[decide_eq_true rfl]
 exact q
def Nb(K:W.Frag):Sp:=λvs H Q _=>∃(a b:Addr) (xs:List V),vs=[.ref a,.ref b]/\H a=some (.lst xs)/\H b=some (.lst xs)/\xs.length≤1000/\(∀x∈xs,G8 x)/\Q (.bl true) H
theorem nZ(T:Txt K mg):Def P w K mg base true 1 "_law_same" ["_law_found",W0] (Nb K):=by
 refine Ek T (λvs H Q E h=>by obtain⟨a,b,xs,rfl,_⟩:=h;rfl) (λf cdv A outer s H vs Q E hr h=>?_)
 obtain⟨a,b,xs,rfl,ha,hb,hl,hf,q⟩:=h
 have nd:=sH.nd
 have n1:=T.eF
 have n2:=T.zF
 have n3:=T.jC
 have n4:=T.jt
 have n5:=T.Kh
 have hsz:sizeLine=16777216:=sizeLine_eq
 have sa:bc K H a xs:=bc.of ha
 have sb:bc K H b xs:=bc.of hb
 refine aj ?_
 walk_at "go"
 refine rZ ha ?_
 walk_at "go"
 refine Hg (λh2=>?_) (λh2=>?_)
 .exact absurd rfl h2
 refine aM (aj ?_)
 refine pI (by walk_at "po") (by rfl) (by rfl) n4 (by rfl) ?_
 walk_at "go"
 refine⟨by omega,by omega,λi σ H'=>(∃o2,σ=[some (.ref a),some (.ref b),o2])/\H'=H,⟨⟨none,rfl⟩,rfl⟩,λi σ H' hi hP=>?_,λσ H' hP=>?_⟩
 .obtain⟨⟨o2,rfl⟩,rfl⟩:=hP
  have hi':i<xs.length:=by simpa using hi
  have hg:xs[i]? =some xs[i]:=List.getElem?_eq_getElem hi'
  have hx:=hf xs[i] (List.getElem_mem hi')
  generalize xs[i]=x at hg hx
  refine aJ nd (by rfl) (.inl rfl) (.inl rfl) ?_
  refine aA ?_
  walk_at "go"
  refine aQ sa (bz hg) ?_
  rcases hx with rfl |⟨j,rfl⟩ |⟨z,rfl,hz⟩
  .walk_at "go"
   refine aQ sa (bz hg) ?_
   walk_at "go"
   refine aQ sb (bz hg) ?_
   walk_at "go"
   refine aQ sa (bz hg) ?_
   walk_at "go"
   refine aQ sb (bz hg) ?_
   walk_at "go"
   exact⟨⟨_,rfl⟩,rfl⟩
  .walk_at "go"
   refine aQ sa (bz hg) ?_
   walk_at "go"
   refine aQ sa (bz hg) ?_
   walk_at "go"
   refine aQ sb (bz hg) ?_
   walk_at "go"
   refine Hg (λh2=>?_) (λh2=>?_)
   .exact absurd rfl h2
   .exact aM ⟨⟨_,rfl⟩,rfl⟩
  .walk_at "go"
   refine aQ sa (bz hg) ?_
   walk_at "go"
   refine aQ sa (bz hg) ?_
   walk_at "go"
   refine aQ sb (bz hg) ?_
   walk_at "go"
   refine Hg (λh2=>?_) (λh2=>?_)
   .exact absurd rfl h2
   .exact aM ⟨⟨_,rfl⟩,rfl⟩
 .obtain⟨⟨o2,rfl⟩,rfl⟩:=hP
  walk_at "go"
  exact q
def m8(nm:Nat->Str):Pj->List Str
 | .all=>["all"]
 | .none p=>["none",nm p]
 | .look l p v=>[iQ l,nm p,wordOf v]
def wT(nm:Nat->Str):Tr->List Str
 | .one s=>m8 nm s
 | .nt t=>"not"::wT nm t
 | .bo t u=>"both"::(wT nm t++wT nm u)
 | .ei t u=>"either"::(wT nm t++wT nm u)
def fu(cs:List bK)(p:Nat):Str:=match cs[p]? with
 |some c=>c.1
 |none=>Str.ofString ""
def Jq(cs:List bK):Pj->Prop
 | .all=>True
 | .none p=>p<cs.length
 | .look l p v=>∃c,cs[p]? =some c/\jd c.2 v/\v≠ .non/\(l= .holds->c.2="text")
def nH(cs:List bK):Tr->Prop
 | .one s=>Jq cs s
 | .nt t=>nH cs t
 | .bo t u=>nH cs t/\nH cs u
 | .ei t u=>nH cs t/\nH cs u
def AtW(nm:Nat->Str)(ws:List Str)(t:Tr)(s:Nat):Prop:=∃post,ws.drop s=wT nm t++post
theorem drop_cons{α:Type}{ws r:List α}{s:Nat}{x:α}(h:ws.drop s=x::r):ws[s]? =some x/\ws.drop (s+1)=r:=by
 have hs:s<ws.length:=by
  have h2:(ws.drop s).length=(x::r).length:=by rw[h]
  rw[List.length_drop,List.length_cons]at h2
  omega
 rw[List.drop_eq_getElem_cons hs]at h
 injection h with h1 h2
 exact⟨by rw[List.getElem?_eq_getElem hs,h1],h2⟩
theorem Hn{α:Type}{ws a r:List α}{s:Nat}(h:ws.drop s=a++r):ws.drop (s+a.length)=r:=by
 rw[<-List.drop_drop,h]
 simp
theorem HS{α:Type}{ws a r:List α}{s:Nat}(h:ws.drop s=a++r)(ha:a≠[]):s+a.length≤ws.length:=by
 have h2:(ws.drop s).length=(a++r).length:=by rw[h]
 rw[List.length_drop,List.length_append]at h2
 have :0<a.length:=List.length_pos_iff.mpr ha
 omega
theorem uc(nm:Nat->Str)(s:Pj):m8 nm s≠[]:=by cases s<;>simp[m8]
theorem Gx(nm:Nat->Str)(t:Tr):wT nm t≠[]:=by
 cases t with
 |one s=>exact uc nm s
 |nt t=>simp[wT]
 |bo t u=>simp[wT]
 |ei t u=>simp[wT]
theorem Bv:∀{cs:List bK} {p:Nat} {c:bK},(cs.map Prod.fst).Nodup->cs[p]? =some c->bW cs c.1=p
 |d::r,0,c,hn,e=>by
  have :d=c:=by simpa using e
  subst this
  show(if d.1=d.1 then 0 else bW r d.1+1)=0
  rw[if_pos rfl]
 |d::r,p+1,c,hn,e=>by
  have e':r[p]? =some c:=by simpa using e
  have hn':=List.nodup_cons.mp hn
  have hne:¬d.1=c.1:=λz=>hn'.1 (by rw[z];exact List.mem_map.mpr ⟨c,List.mem_of_getElem? e',rfl⟩)
  show(if d.1=c.1 then 0 else bW r c.1+1)=p+1
  rw[if_neg hne,Bv hn'.2 e']
theorem oE{cs:List bK}{p:Nat}{c:bK}(e:cs[p]? =some c):fu cs p=c.1:=by
 unfold fu
 rw[e]
theorem aiz{cs:List bK}(hn:(cs.map Prod.fst).Nodup){ws:List Str}{p s:Nat}{c:bK}(hp:cs[p]? =some c)(hs:s<60)(e:ws[s]? =some c.1):lA cs ws s=some p:=by
 unfold lA
 rw[if_pos hs,e]
 show(if cs.any (λd=>decide (d.1=c.1))=true then some (bW cs c.1)else none)=some p
 rw[if_pos (by rw[List.any_eq_true];exact⟨c,List.mem_of_getElem? hp,decide_eq_true rfl⟩),Bv hn hp]
theorem HN{cs:List bK}(hok:aW cs=true){ws post:List Str}{s:Nat}:∀{sv:Pj},ws.drop s=m8 (fu cs) sv++post->s+(m8 (fu cs) sv).length≤60->Jq cs sv->vo cs ws s sv (s+(m8 (fu cs) sv).length)
 | .all,e,hl,_=>⟨(drop_cons (r:=post) e).1,rfl⟩
 | .none p,e,hl,hg=>by
   have hn:(cs.map Prod.fst).Nodup:=by
    unfold aW at hok
    simp only[Bool.and_eq_true,decide_eq_true_eq]at hok
    exact hok.2
   obtain⟨e1,e2⟩:=drop_cons (r:=[fu cs p]++post) e
   obtain⟨e3,_⟩:=drop_cons (r:=post) e2
   have hln:=HS e (uc (fu cs) (.none p))
   have hl':s+2≤60:=hl
   have hp:cs[p]? =some cs[p]:=List.getElem?_eq_getElem hg
   rw[oE hp]at e3
   exact⟨e1,hln,aiz hn hp (by omega) e3,rfl⟩
 | .look l p v,e,hl,hg=>by
   have hn:(cs.map Prod.fst).Nodup:=by
    unfold aW at hok
    simp only[Bool.and_eq_true,decide_eq_true_eq]at hok
    exact hok.2
   obtain⟨c,hc,hv,hne,hh⟩:=hg
   obtain⟨e1,e2⟩:=drop_cons (r:=[fu cs p,wordOf v]++post) e
   obtain⟨e3,e4⟩:=drop_cons (r:=[wordOf v]++post) e2
   obtain⟨e5,_⟩:=drop_cons (r:=post) e4
   have hln:=HS e (uc (fu cs) (.look l p v))
   have hl':s+3≤60:=hl
   rw[oE hc]at e3
   have hk:c.2="number"\/c.2="text":=by
    unfold aW at hok
    simp only[Bool.and_eq_true,List.all_eq_true]at hok
    have :=(hok.1.2 c (List.mem_of_getElem? hc)).2
    unfold uV at this
    exact of_decide_eq_true this
   exact⟨hln,by omega,e1,aiz hn hc (by omega) e3,⟨c,_,hc,hh,e5,(hv.word hk).1⟩,hne,rfl⟩
theorem jy{cs:List bK}(hok:aW cs=true){ws:List Str}:∀{t:Tr} {s:Nat},AtW (fu cs) ws t s->s+(wT (fu cs) t).length≤60->nH cs t->Reads cs ws t s (s+(wT (fu cs) t).length)
 | .one sv,s,e,hl,hg=>by
   obtain⟨post,e⟩:=e
   have hp:0<(m8 (fu cs) sv).length:=List.length_pos_iff.mpr (uc (fu cs) sv)
   have hl':s+(m8 (fu cs) sv).length≤60:=hl
   exact⟨by omega,HN hok e hl hg⟩
 | .nt t,s,e,hl,hg=>by
   obtain⟨post,e⟩:=e
   obtain⟨e1,e2⟩:=drop_cons (r:=wT (fu cs) t++post) e
   have hl':s+((wT (fu cs) t).length+1)≤60:=hl
   refine⟨by omega,e1,?_⟩
   have :=jy hok (t:=t) ⟨post,e2⟩ (by omega) hg
   have e3:s+(wT (fu cs) (.nt t)).length=s+1+(wT (fu cs) t).length:=by show s+((wT (fu cs) t).length+1)=_;omega
   rw[e3]
   exact this
 | .bo t u,s,e,hl,hg=>by
   obtain⟨post,e⟩:=e
   obtain⟨e1,e2⟩:=drop_cons (r:=(wT (fu cs) t++wT (fu cs) u)++post) e
   rw[List.append_assoc]at e2
   have e4:=Hn e2
   have hl2:(wT (fu cs) (.bo t u)).length=(wT (fu cs) t).length+(wT (fu cs) u).length+1:=by show((wT (fu cs) t++wT (fu cs) u).length+1)=_;rw[List.length_append]
   rw[hl2]at hl⊢
   refine⟨by omega,e1,s+1+(wT (fu cs) t).length,jy hok (t:=t) ⟨_,e2⟩ (by omega) hg.1,?_⟩
   have :=jy hok (t:=u) ⟨_,e4⟩ (by omega) hg.2
   rw[show s+((wT (fu cs) t).length+(wT (fu cs) u).length+1)=s+1+(wT (fu cs) t).length+(wT (fu cs) u).length by omega]
   exact this
 | .ei t u,s,e,hl,hg=>by
   obtain⟨post,e⟩:=e
   obtain⟨e1,e2⟩:=drop_cons (r:=(wT (fu cs) t++wT (fu cs) u)++post) e
   rw[List.append_assoc]at e2
   have e4:=Hn e2
   have hl2:(wT (fu cs) (.ei t u)).length=(wT (fu cs) t).length+(wT (fu cs) u).length+1:=by show((wT (fu cs) t++wT (fu cs) u).length+1)=_;rw[List.length_append]
   rw[hl2]at hl⊢
   refine⟨by omega,e1,s+1+(wT (fu cs) t).length,jy hok (t:=t) ⟨_,e2⟩ (by omega) hg.1,?_⟩
   have :=jy hok (t:=u) ⟨_,e4⟩ (by omega) hg.2
   rw[show s+((wT (fu cs) t).length+(wT (fu cs) u).length+1)=s+1+(wT (fu cs) t).length+(wT (fu cs) u).length by omega]
   exact this
theorem Hq{a b:List Str}(ha:a≠[])(hb:b≠[]):Str.join " " (a++b)=Str.join " " a++Str.ofString " "++Str.join " " b:=by
 match a,ha with
 |[x],_=>
  match b,hb with
  |y::r,_=>rfl
 |x::y::r,_=>
  have ih:=Hq (a:=y::r) (b:=b) (by simp) hb
  show x++Str.ofString " "++Str.join " " (y::r++b)=(x++Str.ofString " "++Str.join " " (y::r))++Str.ofString " "++Str.join " " b
  rw[ih]
  apply bQ
  simp only[bw,List.append_assoc]
theorem join_cons{x:Str}{b:List Str}(hb:b≠[]):Str.join " " (x::b)=x++Str.ofString " "++Str.join " " b:=by
 match b,hb with
 |y::r,_=>rfl
theorem K7{z:Str}(h:isName z=true):32∉z.cps.toList:=λhm=>by
 unfold isName iz at h
 rw[Bool.and_eq_true,List.all_eq_true]at h
 exact absurd (of_decide_eq_true (h.2 32 hm)) (by decide+kernel)
theorem Jx{cs:List bK}(hok:aW cs=true):∀{sv:Pj},Jq cs sv->∀z∈m8 (fu cs) sv,z.length≤21/\32∉z.cps.toList/\plainS z
 | .all,_,z,hz=>by
   have :z=Str.ofString "all":=by simpa [m8]using hz
   subst this
   exact⟨by decide+kernel,by decide+kernel,by unfold plainS;decide+kernel⟩
 | .none p,hg,z,hz=>by
   have hz':z=Str.ofString "none"\/z=fu cs p:=by simpa [m8]using hz
   rcases hz' with rfl |rfl
   .exact⟨by decide+kernel,by decide+kernel,by unfold plainS;decide+kernel⟩
   .have hp:cs[p]? =some cs[p]:=List.getElem?_eq_getElem hg
    rw[oE hp]
    have hn:=iM hok (List.mem_map.mpr ⟨cs[p],List.getElem_mem hg,rfl⟩)
    exact⟨by have :=dW hn;omega,λh=>by have :=(K7 hn);exact this h,mL hn⟩
 | .look l p v,hg,z,hz=>by
   obtain⟨c,hc,hv,hne,hh⟩:=hg
   have hz':z=iQ l\/z=fu cs p\/z=wordOf v:=by simpa [m8]using hz
   have hn:=iM hok (List.mem_map.mpr ⟨c,List.mem_of_getElem? hc,rfl⟩)
   have hk:c.2="number"\/c.2="text":=by
    unfold aW at hok
    simp only[Bool.and_eq_true,List.all_eq_true]at hok
    have :=(hok.1.2 c (List.mem_of_getElem? hc)).2
    unfold uV at this
    exact of_decide_eq_true this
   rcases hz' with rfl |rfl |rfl
   .cases l<;>exact⟨by decide+kernel,by decide+kernel,by unfold plainS;decide+kernel⟩
   .rw[oE hc]
    exact⟨by have :=dW hn;omega,K7 hn,mL hn⟩
   .have hw:=hv.word hk
    exact⟨hw.2.1,hw.2.2.1,hv.plain⟩
theorem jA{cs:List bK}(hok:aW cs=true):∀{t:Tr},nH cs t->∀z∈wT (fu cs) t,z.length≤21/\32∉z.cps.toList/\plainS z
 | .one s,hg,z,hz=>Jx hok hg z hz
 | .nt t,hg,z,hz=>by
   rcases List.mem_cons.mp hz with rfl |hz
   .exact⟨by decide+kernel,by decide+kernel,by unfold plainS;decide+kernel⟩
   .exact jA hok (t:=t) hg z hz
 | .bo t u,hg,z,hz=>by
   rcases List.mem_cons.mp hz with rfl |hz
   .exact⟨by decide+kernel,by decide+kernel,by unfold plainS;decide+kernel⟩
   .rcases List.mem_append.mp hz with hz |hz
    .exact jA hok hg.1 z hz
    .exact jA hok hg.2 z hz
 | .ei t u,hg,z,hz=>by
   rcases List.mem_cons.mp hz with rfl |hz
   .exact⟨by decide+kernel,by decide+kernel,by unfold plainS;decide+kernel⟩
   .rcases List.mem_append.mp hz with hz |hz
    .exact jA hok hg.1 z hz
    .exact jA hok hg.2 z hz
def cY(cs:List bK)(z:Str)(n d:Nat):Prop:=∃t,nH cs t/\t.dep≤d/\z=Str.join " " (wT (fu cs) t)/\(wT (fu cs) t).length≤n
theorem cY.len{cs:List bK}(hok:aW cs=true){z:Str}{n d:Nat}(h:cY cs z n d):z.length≤22*n:=by
 obtain⟨t,hg,_,rfl,hl⟩:=h
 have h1:=Oa (wT (fu cs) t) 21 λp hp=>(jA hok hg p hp).1
 have h2:=lK (wT (fu cs) t)
 omega
theorem cY.good{cs:List bK}(hok:aW cs=true){z:Str}{n d:Nat}(h:cY cs z n d)(hn:n≤60)(hd:d≤20):plainS z/\z.length≤2800/\(∀y∈cX 32 z,y.length≤1000)/\∃t:Tr,t.dep≤20/\Reads cs (cX 32 z) t 0 (cX 32 z).length:=by
 have hlen:=h.len hok
 obtain⟨t,hg,hdp,rfl,hl⟩:=h
 have hw:=jA hok hg
 have Ws:cX 32 (Str.join " " (wT (fu cs) t))=wT (fu cs) t:=zT (Gx (fu cs) t) λz hz=>(hw z hz).2.1
 refine⟨plainS.join λp hp=>(hw p hp).2.2,by omega,by rw[Ws];exact λy hy=>by have :=(hw y hy).1;omega,t,by omega,?_⟩
 rw[Ws]
 have :=jy hok (ws:=wT (fu cs) t) (t:=t) (s:=0) ⟨[],by simp⟩ (by omega) hg
 rw[Nat.zero_add]at this
 exact this
theorem cY.nt{cs:List bK}{z:Str}{n d:Nat}(h:cY cs z n d):cY cs (Str.ofString "not"++Str.ofString " "++z) (n+1) (d+1):=by
 obtain⟨t,hg,hdp,rfl,hl⟩:=h
 exact⟨.nt t,hg,by show t.dep+1≤d+1;omega,(join_cons (Gx (fu cs) t)).symm,by show(wT (fu cs) t).length+1≤n+1;omega⟩
theorem cY.two{cs:List bK}{x z y:Str}{n m d e k:Nat}(hx:x=Str.ofString "both"\/x=Str.ofString "either")(h:cY cs z n d)(g:cY cs y m e)(hd:d≤k)(he:e≤k):cY cs (x++Str.ofString " "++z++Str.ofString " "++y) (n+m+1) (k+1):=by
 obtain⟨t,hg,hdp,rfl,hl⟩:=h
 obtain⟨u,hgu,hdu,rfl,hlu⟩:=g
 have hne:wT (fu cs) t++wT (fu cs) u≠[]:=λz=>Gx (fu cs) t (List.append_eq_nil_iff.mp z).1
 have ej:Str.join " " (x::(wT (fu cs) t++wT (fu cs) u))=x++Str.ofString " "++Str.join " " (wT (fu cs) t)++Str.ofString " "++Str.join " " (wT (fu cs) u):=by
  rw[join_cons hne,Hq (Gx (fu cs) t) (Gx (fu cs) u)]
  apply bQ
  simp only[bw,List.append_assoc]
 have hlen:(x::(wT (fu cs) t++wT (fu cs) u)).length≤n+m+1:=by rw[List.length_cons,List.length_append];omega
 rcases hx with rfl |rfl
 .exact⟨.bo t u,⟨hg,hgu⟩,by show max t.dep u.dep+1≤k+1;omega,ej.symm,hlen⟩
 .exact⟨.ei t u,⟨hg,hgu⟩,by show max t.dep u.dep+1≤k+1;omega,ej.symm,hlen⟩
theorem Bu:∀{cs:List bK} {z:Str} {m:Nat} {c:bK},m<bW cs z->cs[m]? =some c->¬c.1=z
 |[],_,_,_,h,_=>by simp[bW]at h
 |d::r,z,m,c,h,e=>by
  unfold bW at h
  split at h
  .omega
  .rename_i hd
   cases m with
   |zero=>simp at e;subst e;exact hd
   |succ m=>exact Bu (cs:=r) (m:=m) (by omega) (by simpa using e)
theorem S8{cs:List bK}{z:Str}(h:∃c∈cs,c.1=z):(cs.map Prod.fst)[bW cs z]? =some z:=by
 obtain⟨c,e1,e2⟩:=yU h
 rw[List.getElem?_map,e1, <-e2]
 rfl
theorem QZ{cs:List bK}{z:Str}{m:Nat}{y:Str}(h:m<bW cs z)(e:(cs.map Prod.fst)[m]? =some y):¬y=z:=by
 rw[List.getElem?_map]at e
 cases e2:cs[m]? with
 |none=>rw[e2]at e;cases e
 |some c=>
  rw[e2]at e
  have e3:c.1=y:=by simpa using e
  rw[<-e3]
  exact Bu h e2
def U6(K:W.Frag):Sp:=λvs H Q _=>∃(a b v:Addr) (n:Int) (cs:List bK) (os:List Ord) (xs:List V),vs=[.ref a,.ref b,.int n,.ref v]/\gO H a cs/\tD H b os/\H v=some (.lst xs)/\xs.length=cs.length/\cs.length≤1000/\os.length≤1000/\(∀o∈os,∃c∈cs,c.1=o.1)/\
 ∀p k H',ao H H'->H p=none->H k=none->H' p=some (.tup [.ref k,.int n])->H' k=some (.lst (Rm cs os xs))->Q (.ref p) H'
theorem qy(T:Txt K mg):Def P w K mg base true 1 "_law_key" ["_law_columns_here","_law_order_here","_law_row","_law_values_here"] (U6 K):=by
 refine Ht T (λvs H Q E h=>by obtain⟨a,b,v,n,cs,os,xs,rfl,_⟩:=h;rfl) (λf cdv A outer s H vs Q E hr h=>?_)
 obtain⟨a,b,v,n,cs,os,xs,rfl,⟨vs,ha,hvs⟩,⟨ws,hb,hws⟩,hv,hxl,hcl,hol,hin,q⟩:=h
 have nd:=wF.nd
 have hsz:sizeLine=16777216:=sizeLine_eq
 have nd1:(["_law_one"]:List Str).Nodup:=by decide+kernel
 have nd3:(["_law_one","_law_names","_law_values_here"]:List Str).Nodup:=by decide+kernel
 have hvl:=hvs.len
 have hwl:=hws.len
 refine aj ?_
 walk_at "s"
 refine nQ ["_law_one"] (σ':=[none]) (by rfl) (by rfl) (b7 (aa dX) (by rfl) (by rfl) (by decide+kernel)) (by intro _;rfl) ?_
 walk_at "e"
 refine⟨a,vs,rfl,bc.of ha,by omega,λτ=>∃o1,τ=[o1],λE2 i u H'=>∃c,cs[i]? =some c/\u= .str c.1,⟨none,rfl⟩,λE2 i u H2 H3 ys _ _ p=>p,λfp E2 C s3 H0 i τ x H4 H3 Lb hi hτ nj hys hG=>?_,λL H1 ys hL hl2 hx2 e1 gh=>?_⟩
 .obtain⟨o1,rfl⟩:=hτ
  obtain⟨Gp,rfl⟩:=hG
  obtain⟨c,hc,t,rfl,ht⟩:=hvs.get Gp
  refine aJ nd1 (by rfl) (.inl rfl) (.inr rfl) ?_
  walk_at "ex"
  refine bx (cA.of (nj _ _ ht)) (show n8 [V.str c.1,V.str c.2] 0=some (V.str c.1)from rfl) ?_
  exact⟨⟨_,rfl⟩,⟨c,hc,rfl⟩,ao.refl _⟩
 have ey:=dw (ys:=cs) (λc=>V.str c.1) (by rw[hl2,hvl]) hx2
 have Lg:ys=(cs.map Prod.fst).map V.str:=by rw[ey,List.map_map];rfl
 subst Lg
 refine aA (bj ?_)
 refine TV (iI (by rfl) ?_)
 refine nQ ["_law_one","_law_names","_law_values_here"] (σ':=[none,some (.ref L),some (.ref v)]) (by rfl) (by rfl) (b7 (aa dX) (by rfl) (by rfl) (by decide+kernel)) (by intro _;rfl) ?_
 walk_at "e"
 refine⟨b,ws,rfl,bc.of (gh _ _ hb),by omega,λτ=>∃o1,τ=[o1,some (.ref L),some (.ref v)],λE2 i u H'=>∃o,os[i]? =some o/\u=atN cs xs o.1,⟨none,rfl⟩,λE2 i u H2 H3 ys _ _ p=>p,λfp E2 C s3 H0 i τ x H7 H8 Lb hi hτ sm7 hys hG=>?_,λD H7 ys hD hl3 Gp e7 sm7=>?_⟩
 .obtain⟨o1,rfl⟩:=hτ
  obtain⟨Gp,rfl⟩:=hG
  obtain⟨o,ho,tp,rfl,htp⟩:=hws.get Gp
  have hio:=hin o (List.mem_of_getElem? ho)
  have hlt:=lD hio
  have g1:xs[bW cs o.1]? =some (atN cs xs o.1):=by
   have e:xs[bW cs o.1]? =some (xs[bW cs o.1]'(by omega)):=List.getElem?_eq_getElem _
   unfold atN
   rw[e]
   rfl
  have Ql:=gh.trans sm7
  have eL7:=sm7 _ _ e1
  refine aJ nd3 (by rfl) (.inl rfl) (.inr rfl) ?_
  walk_at "e"
  walk_at "e"
  refine jf F.plainAttrs_list F.slot_list_index F.type_list_index (by rfl) (by rfl) (by rfl) (by rfl) (by rfl) ?_
  walk_at "e"
  refine⟨.inl ⟨rfl,_,bc.of eL7⟩,?_⟩
  walk_at "ex"
  refine bx (cA.of (Ql _ _ htp)) (show n8 [V.str o.1,V.bl o.2] 0=some (V.str o.1)from rfl) ?_
  walk_at "ex"
  refine Qu (bc.of eL7) (S8 hio) (λm y h e=>QZ h e) ?_
  refine aQ (bc.of (Ql _ _ hv)) (bz g1) ?_
  exact⟨⟨_,rfl⟩,⟨o,ho,rfl⟩,ao.refl _⟩
 have ey:=dw (ys:=os) (λo=>atN cs xs o.1) (by rw[hl3,hwl]) Gp
 have Lg:ys=Rm cs os xs:=ey
 subst Lg
 have Ql:=gh.trans sm7
 walk_at "ex"
 refine⟨by show 2≤sizeLine;omega,λp hp=>?_⟩
 have s8:ao H7 (upd H7 p (.tup [.ref D,.int n])):=ao.upd hp
 exact q p D _ (Ql.trans s8) (Ql.free hp) (gh.free hD) ak (s8 _ _ e7)
theorem GK{cs:List bK}{xs:List V}(hx:eU (λ(c:bK) x=>jd c.2 x) cs xs):∀{os:List Ord},(∀o∈os,∃c∈cs,c.1=o.1)->eU (λ(o:Ord) x=>jd (kh cs o.1) x) os (Rm cs os xs)
 |[],_=>.nil
 |o::os,h=>by
  refine .cons ?_ (GK hx λx hx=>h x (by simp[hx]))
  have hlt:=lD (h o (by simp))
  obtain⟨x,e1,e2⟩:=hx.get (List.getElem?_eq_getElem hlt)
  have ek:kh cs o.1=cs[bW cs o.1].2:=by
   unfold kh
   rw[List.getElem?_eq_getElem hlt]
  show jd (kh cs o.1) (atN cs xs o.1)
  rw[ek]
  unfold atN
  rw[e1]
  exact e2
def Dr:Sp:=λvs H Q _=>∃(v:V) (kd:Str),vs=[v]/\jd kd v/\Q (.str (wordOf v)) H
theorem jV(T:Txt K mg):Def P w K mg base true 1 "_law_word" ["_law_value_here"] Dr:=by
 refine Ej T (λvs H Q E h=>by obtain⟨v,kd,rfl,_⟩:=h;rfl) (λf cdv A outer s H vs Q E hr h=>?_)
 obtain⟨v,kd,rfl,hv,q⟩:=h
 have n1:=T.eF
 have n2:=T.nM
 have hsz:sizeLine=16777216:=sizeLine_eq
 have la:(Str.ofString "'").length=1:=by decide+kernel
 refine aj (bY ?_)
 walk_at "ex"
 rcases hv with rfl |⟨_,i,rfl,h1,h2⟩ |⟨_,z,rfl,hl,_⟩
 .refine gm (λ_=>?_) (λh=>absurd rfl h)
  refine aA (bj ?_)
  walk_at "ex"
  exact q
 .refine gm (λh=>nomatch h) (λ_=>?_)
  refine aM (aj (bY ?_))
  walk_at "ex"
  refine aM (aA (bj ?_))
  walk_at "ex"
  refine lu (jQ ?_) ?_
  .have :(10:Nat)^60>1000000000000000000:=by decide
   omega
  exact q
 .refine gm (λh=>nomatch h) (λ_=>?_)
  refine aM (aj (bY ?_))
  walk_at "ex"
  refine aA (bj ?_)
  walk_at "ex"
  refine aZ (by omega) ?_
  exact q
theorem yO:Str.ofString "none "=Str.ofString "none"++Str.ofString " "/\Str.ofString "not "=Str.ofString "not"++Str.ofString " "/\Str.ofString "both "=Str.ofString "both"++Str.ofString " "/\Str.ofString "either "=Str.ofString "either"++Str.ofString " ":=by decide+kernel
def xY(K:W.Frag):Sp:=λvs H Q _=>∃(a c:Addr) (ns:List Int) (b:Int) (cs:List bK),vs=[.ref a,.int b,.ref c]/\bc K H a (ns.map V.int)/\ns.length≤63/\0≤b/\b≤30000/\gO H c cs/\aW cs=true/\∀z H',ao H H'->cY cs z 3 0->Q (.str z) H'
theorem Es{cs:List bK}(h:aW cs=true):1≤cs.length/\cs.length≤6:=by
 unfold aW at h
 simp only[Bool.and_eq_true,decide_eq_true_eq]at h
 exact h.1.1
theorem G5{cs:List bK}(h:aW cs=true){c:bK}(hc:c∈cs):c.2="number"\/c.2="text":=by
 unfold aW at h
 simp only[Bool.and_eq_true,List.all_eq_true]at h
 have :=(h.1.2 c hc).2
 unfold uV at this
 exact of_decide_eq_true this
theorem oO(T:Txt K mg):Def P w K mg base true 3 "_law_look" ["_law_script","_law_base","_law_columns_here"] (xY K):=by
 refine FQ T (λvs H Q E h=>by obtain⟨a,c,ns,b,cs,rfl,_⟩:=h;rfl) (λf cdv A outer s H vs Q E hr h=>?_)
 obtain⟨a,c,ns,b,cs,rfl,hS,hl,hb0,hb1,⟨vs,hc,hvs⟩,hok,q⟩:=h
 have nd:=uv.nd
 have n1:=T.jC
 have hsz:sizeLine=16777216:=sizeLine_eq
 have D1:Def P w K mg base true 1 "_law_draw" ["_law_script","_law_k","_law_many"] (kO K):=cD T
 have D2:Def P w K mg base true 2 "_law_value" ["_law_script","_law_k","_law_kind"] (yI K):=jl T
 have D3:Def P w K mg base true 1 "_law_word" ["_law_value_here"] Dr:=jV T
 have hvl:=hvs.len
 obtain⟨c1,c6⟩:=Es hok
 have sqc:bc K H c vs:=bc.of hc
 walk_at "A"
 refine⟨a,ns,b,_,rfl,hS,hl,by omega,by omega,by omega,?_⟩
 have a0:=bf ns b (m:=(vs.length:Int)) (by omega)
 have a1:=bh ns b (m:=(vs.length:Int)) (by omega)
 obtain⟨p,ep⟩:=Int.eq_ofNat_of_zero_le a0
 rw[ep]at a1⊢
 have hp:p<cs.length:=by omega
 have hcp:cs[p]? =some cs[p]:=List.getElem?_eq_getElem hp
 obtain⟨cv,gc,t,rfl,ht⟩:=hvs.get' hcp
 have hcm:cs[p]∈cs:=List.getElem_mem hp
 have hkd:=G5 hok hcm
 have hnm:=iM hok (List.mem_map.mpr ⟨cs[p],hcm,rfl⟩)
 have hnl:=dW hnm
 refine aj (gf (by rfl) (by rfl) ?_)
 walk_at "ex"
 refine aQ sqc (bz gc) ?_
 refine eO (by rfl) (by rfl) (by rfl) (cA.of ht) (by rfl) (aN (by rfl) (aJ nd (by rfl) (.inl rfl) (.inl rfl) (aN (by rfl) (aJ nd (by rfl) (.inl rfl) (.inl rfl) (cM ?_)))))
 generalize hcc:cs[p]=cc at *
 walk_at "A"
 refine⟨a,ns,b+1,cc.2,rfl,hS,hl,by omega,by omega,λv H1 s1 hv=>?_⟩
 refine aj (bY ?_)
 walk_at "ex"
 refine gm (λ_=>?_) (λhne=>?_)
 .refine aA (bj ?_)
  walk_at "ex"
  have ln:(Str.ofString "none ").length=5:=by decide+kernel
  refine aZ (by omega) ?_
  walk_at "ex"
  refine⟨by show 2≤sizeLine;omega,λl hl2=>?_⟩
  have s2:ao H1 (upd H1 l (.lst [.str (Str.ofString "all"),.str (Str.ofString "none "++cc.1)])):=ao.upd hl2
  have e2:(upd H1 l (.lst [.str (Str.ofString "all"),.str (Str.ofString "none "++cc.1)])) l=some (.lst [.str (Str.ofString "all"),.str (Str.ofString "none "++cc.1)]):=ak
  generalize upd H1 l (.lst [.str (Str.ofString "all"),.str (Str.ofString "none "++cc.1)])=H2 at s2 e2⊢
  walk_at "ex"
  refine⟨a,ns,b+2,2,rfl,(s1.trans s2).seq hS,hl,by omega,by omega,by decide,?_⟩
  have d0:=bf ns (b+2) (m:=2) (by decide)
  have d1:=bh ns (b+2) (m:=2) (by decide)
  generalize bB ns (b+2) 2=dv at d0 d1⊢
  have hd:dv=0\/dv=1:=by omega
  rcases hd with rfl |rfl
  .exact aQ (bc.of e2) (i:=0) rfl (q _ H2 (s1.trans s2) ⟨.one .all,trivial,Nat.le_refl _,rfl,by show 1≤3;omega⟩)
  .refine aQ (bc.of e2) (i:=1) rfl (q _ H2 (s1.trans s2) ⟨.one (.none p),hp,Nat.le_refl _,?_,by show 2≤3;omega⟩)
   show Str.ofString "none "++cc.1=Str.join " " [Str.ofString "none",fu cs p]
   rw[aht,oE hcp,yO.1]
 have hne:v≠ .non:=λe=>hne (by rw[e])
 have hwl:=(hv.word hkd).2.1
 have lb:(Str.ofString " ").length=1:=by decide+kernel
 have fin:∀(l0:Addr) (G:Hp) (many:Int),ao H1 G->G l0=some (.lst [.str (Str.ofString "is"),.str (Str.ofString "under"),.str (Str.ofString "over"),.str (Str.ofString "holds")])->((many=4/\cc.2="text")\/many=3)->
   lz (w6 true P w K mg base nY "_law_look" (aa dg) f cdv A outer s H E) ((aq dg).drop 7) {nx:=λ_ H'=>Q .non H',rt:=Q} [some (.ref a),some (.int b),some (.ref c),some (.int p),some (.str cc.1),some (.str cc.2),some v,some (.ref l0),some (.int many)] G:=by
  intro l0 G many sG eG hm
  refine aA (bj ?_)
  walk_at "ex"
  refine⟨a,ns,b+2,many,rfl,(s1.trans sG).seq hS,hl,by omega,by omega,by omega,?_⟩
  have d0:=bf ns (b+2) (m:=many) (by omega)
  have d1:=bh ns (b+2) (m:=many) (by omega)
  generalize bB ns (b+2) many=dv at d0 d1⊢
  obtain⟨l,el,hh,ll⟩:∃l:Lk,n8 [V.str (Str.ofString "is"),.str (Str.ofString "under"),.str (Str.ofString "over"),.str (Str.ofString "holds")] dv=some (.str (iQ l))/\(l= .holds->cc.2="text")/\(iQ l).length≤5:=by
   have hd:dv=0\/dv=1\/dv=2\/(dv=3/\cc.2="text"):=by
    rcases hm with⟨h1,h2⟩ |h1
    .by_cases h3:dv=3
     .exact .inr (.inr (.inr ⟨h3,h2⟩))
     .omega
    .omega
   rcases hd with rfl |rfl |rfl |⟨rfl,h⟩
   .exact⟨.is,rfl,λz=>(by cases z),by decide+kernel⟩
   .exact⟨.under,rfl,λz=>(by cases z),by decide+kernel⟩
   .exact⟨.over,rfl,λz=>(by cases z),by decide+kernel⟩
   .exact⟨.holds,rfl,λ_=>h,by decide+kernel⟩
  refine aQ (bc.of eG) el ?_
  walk_at "ex"
  refine aZ (by omega) ?_
  walk_at "ex"
  refine aZ (by rw[len_app];omega) ?_
  walk_at "ex"
  refine aZ (by rw[len_app,len_app];omega) ?_
  walk_at "ex"
  refine⟨v,cc.2,rfl,hv,?_⟩
  refine aZ (by rw[len_app,len_app,len_app];omega) ?_
  refine q _ G (s1.trans sG) ⟨.one (.look l p v),⟨cc,hcp,hv,hne,hh⟩,Nat.le_refl _,?_,Nat.le_refl _⟩
  show _=Str.join " " [iQ l,fu cs p,wordOf v]
  rw[Ur,oE hcp]
 refine aM (aj ?_)
 refine L2.Us (i:=7) (x:="_law_looks") nd (by rfl) (Or.inl rfl) (by rfl) (Or.inl rfl) ?_
 walk_at "ex"
 refine⟨by show 4≤sizeLine;omega,λl0 h0=>?_⟩
 have s2:ao H1 (upd H1 l0 (.lst [.str (Str.ofString "is"),.str (Str.ofString "under"),.str (Str.ofString "over"),.str (Str.ofString "holds")])):=ao.upd h0
 have e2:(upd H1 l0 (.lst [.str (Str.ofString "is"),.str (Str.ofString "under"),.str (Str.ofString "over"),.str (Str.ofString "holds")])) l0=some (.lst [.str (Str.ofString "is"),.str (Str.ofString "under"),.str (Str.ofString "over"),.str (Str.ofString "holds")]):=ak
 generalize upd H1 l0 (.lst [.str (Str.ofString "is"),.str (Str.ofString "under"),.str (Str.ofString "over"),.str (Str.ofString "holds")])=H2 at s2 e2⊢
 walk_at "A"
 refine aj (bY ?_)
 walk_at "ex"
 refine gm (λ_=>?_) (λh=>?_)
 .refine aA ?_
  walk_at "s"
  walk_at "ex"
  exact fin l0 H2 3 s2 e2 (.inr rfl)
 .have ht:cc.2="text":=hkd.resolve_left λe=>h (by rw[e])
  exact aM (fin l0 H2 4 s2 e2 (.inl ⟨rfl,ht⟩))
def uF(K:W.Frag)(n d lo:Nat):Sp:=λvs H Q _=>∃(a c:Addr) (ns:List Int) (b:Int) (cs:List bK),vs=[.ref a,.int b,.ref c]/\bc K H a (ns.map V.int)/\ns.length≤63/\0≤b/\b≤lo/\gO H c cs/\aW cs=true/\∀z H',ao H H'->cY cs z n d->Q (.str z) H'
theorem cY.mono{cs:List bK}{z:Str}{n m d e:Nat}(h:cY cs z n d)(hn:n≤m)(hd:d≤e):cY cs z m e:=by
 obtain⟨t,h1,h2,h3,h4⟩:=h
 exact⟨t,h1,by omega,h3,by omega⟩
theorem mq(T:Txt K mg):Def P w K mg base true 4 "_law_sieve" ["_law_script","_law_base","_law_columns_here"] (uF K 15 3 20000):=by
 refine Ah T (λvs H Q E h=>by obtain⟨a,c,ns,b,cs,rfl,_⟩:=h;rfl) (λf cdv A outer s H vs Q E hr h=>?_)
 obtain⟨a,c,ns,b,cs,rfl,hS,hl,hb0,hb1,hC,hok,q⟩:=h
 have nd:=p6.nd
 have n1:=T.jt
 have hsz:sizeLine=16777216:=sizeLine_eq
 have D1:Def P w K mg base true 1 "_law_draw" ["_law_script","_law_k","_law_many"] (kO K):=cD T
 have D2:Def P w K mg base true 3 "_law_look" ["_law_script","_law_base","_law_columns_here"] (xY K):=oO T
 have lb:(Str.ofString " ").length=1:=by decide+kernel
 have ln:(Str.ofString "not ").length=4:=by decide+kernel
 have lbo:(Str.ofString "both ").length=5:=by decide+kernel
 have le:(Str.ofString "either ").length=7:=by decide+kernel
 walk_at "A"
 refine⟨a,c,ns,b,cs,rfl,hS,hl,by omega,by omega,hC,hok,λz0 H1 s1 hz0=>?_⟩
 refine aj ?_
 refine pI (by walk_at "po") (by rfl) (by rfl) n1 (by rfl) ?_
 walk_at "ex"
 refine⟨a,ns,b+60,4,rfl,s1.seq hS,hl,by omega,by omega,by decide,?_⟩
 have d0:=bf ns (b+60) (m:=4) (by decide)
 have d1:=bh ns (b+60) (m:=4) (by decide)
 generalize bB ns (b+60) 4=dn at d0 d1⊢
 refine⟨_,rfl,by omega,by omega,λi σ H'=>(∃z o4 o5,σ=[some (.ref a),some (.int b),some (.ref c),some (.str z),o4,o5]/\cY cs z (3+4*i) i)/\ao H H',⟨⟨z0,none,none,rfl,hz0⟩,s1⟩,λi σ H' hi hP=>?_,λσ H' hP=>?_⟩
 .obtain⟨⟨z,o4,o5,rfl,hz⟩,sm⟩:=hP
  have hi3:i<3:=by omega
  have hzl:=hz.len hok
  refine aJ nd (by rfl) (.inl rfl) (.inl rfl) ?_
  walk_at "A"
  refine⟨a,ns,_,3,rfl,sm.seq hS,hl,by omega,by omega,by decide,?_⟩
  generalize bB ns (b+61+(i:Int)) 3=way
  refine aA (bY ?_)
  walk_at "ex"
  refine gm (λ_=>?_) (λ_=>?_)
  .refine aA ?_
   walk_at "s"
   walk_at "ex"
   refine aZ (by omega) ?_
   refine⟨⟨_,_,_,rfl,?_⟩,sm⟩
   rw[yO.2.1]
   exact hz.nt.mono (by omega) (by omega)
  refine aA (bY ?_)
  walk_at "ex"
  refine gm (λ_=>?_) (λ_=>?_)
  .refine aA ?_
   walk_at "s"
   walk_at "ex"
   refine aZ (by omega) ?_
   walk_at "ex"
   refine aZ (by rw[len_app];omega) ?_
   walk_at "ex"
   refine⟨a,c,ns,_,cs,rfl,sm.seq hS,hl,by omega,by omega,hC.same sm,hok,λy H2 s2 hy=>?_⟩
   have hyl:=hy.len hok
   refine aZ (by rw[len_app,len_app];omega) ?_
   refine⟨⟨_,_,_,rfl,?_⟩,sm.trans s2⟩
   rw[yO.2.2.1]
   exact(cY.two (k:=i) (.inl rfl) hz hy (by omega) (by omega)).mono (by omega) (by omega)
  .refine aA ?_
   walk_at "s"
   walk_at "ex"
   refine⟨a,c,ns,_,cs,rfl,sm.seq hS,hl,by omega,by omega,hC.same sm,hok,λy H2 s2 hy=>?_⟩
   have hyl:=hy.len hok
   refine aZ (by omega) ?_
   walk_at "ex"
   refine aZ (by rw[len_app];omega) ?_
   walk_at "ex"
   refine aZ (by rw[len_app,len_app];omega) ?_
   refine⟨⟨_,_,_,rfl,?_⟩,sm.trans s2⟩
   rw[yO.2.2.2]
   exact(cY.two (k:=i) (.inr rfl) hy hz (by omega) (by omega)).mono (by omega) (by omega)
 .obtain⟨⟨z,o4,o5,rfl,hz⟩,sm⟩:=hP
  have hd:dn.toNat≤3:=by omega
  refine aA (bj ?_)
  walk_at "ex"
  exact q z H' sm (hz.mono (by omega) (by omega))
def K6(K:W.Frag):Sp:=λvs H Q _=>∃(a c:Addr) (ns:List Int) (b:Int) (cs:List bK),vs=[.ref a,.int b,.ref c]/\bc K H a (ns.map V.int)/\ns.length≤63/\0≤b/\b≤10000/\gO H c cs/\aW cs=true/\∀p M H',ao H H'->gY H' p M->cJ cs M->Q (.ref p) H'
theorem oN(T:Txt K mg):Def P w K mg base true 5 "_law_mark" ["_law_script","_law_base","_law_columns_here"] (K6 K):=by
 refine DY T (λvs H Q E h=>by obtain⟨a,c,ns,b,cs,rfl,_⟩:=h;rfl) (λf cdv A outer s H vs Q E hr h=>?_)
 obtain⟨a,c,ns,b,cs,rfl,hS,hl,hb0,hb1,hC,hok,q⟩:=h
 have nd:=sV.nd
 have hsz:sizeLine=16777216:=sizeLine_eq
 have D1:Def P w K mg base true 1 "_law_draw" ["_law_script","_law_k","_law_many"] (kO K):=cD T
 have D2:Def P w K mg base true 2 "_law_order" ["_law_script","_law_base","_law_columns_here"] (Hd K):=lX T
 have D3:Def P w K mg base true 1 "_law_key" ["_law_columns_here","_law_order_here","_law_row","_law_values_here"] (U6 K):=qy T
 have D4:Def P w K mg base true 3 "_law_values" ["_law_script","_law_k","_law_columns_here"] (CG K):=km T
 have D5:Def P w K mg base true 4 "_law_sieve" ["_law_script","_law_base","_law_columns_here"] (uF K 15 3 20000):=mq T
 obtain⟨c1,c6⟩:=Es hok
 walk_at "A"
 refine⟨a,ns,b,c,cs,rfl,hS,hl,by omega,by omega,hC,hok,λo os H1 s1 ho hO hoo=>?_⟩
 obtain⟨o4,onn,oin⟩:=hoo
 have ahv:∀o∈os,∃c∈cs,c.1=o.1:=λo ho=>by
  obtain⟨c,hc,e⟩:=List.mem_map.mp (oin o ho)
  exact⟨c,hc,e⟩
 walk_at "A"
 refine⟨by show 2≤sizeLine;omega,λl1 h1=>?_⟩
 have s2:ao H1 (upd H1 l1 (.lst [.str (Str.ofString "living"),.str (Str.ofString "still")])):=ao.upd h1
 have e2:(upd H1 l1 (.lst [.str (Str.ofString "living"),.str (Str.ofString "still")])) l1=some (.lst [.str (Str.ofString "living"),.str (Str.ofString "still")]):=ak
 generalize upd H1 l1 (.lst [.str (Str.ofString "living"),.str (Str.ofString "still")])=H2 at s2 e2⊢
 have s02:=s1.trans s2
 walk_at "ex"
 refine⟨a,ns,_,2,rfl,s02.seq hS,hl,by omega,by omega,by decide,?_⟩
 obtain⟨lv,elv⟩:∃lv:Bool,n8 [V.str (Str.ofString "living"),.str (Str.ofString "still")] (bB ns (b+12) 2)=some (.str (cC lv)):=by
  have d0:=bf ns (b+12) (m:=2) (by decide)
  have d1:=bh ns (b+12) (m:=2) (by decide)
  have hd:bB ns (b+12) 2=0\/bB ns (b+12) 2=1:=by omega
  rcases hd with e |e<;>rw[e]
  .exact⟨true,rfl⟩
  .exact⟨false,rfl⟩
 refine aQ (bc.of e2) elv ?_
 walk_at "A"
 refine⟨a,ns,_,5001,rfl,s02.seq hS,hl,by omega,by omega,by decide,?_⟩
 have m0:=bf ns (b+13) (m:=5001) (by decide)
 have m1:=bh ns (b+13) (m:=5001) (by decide)
 generalize bB ns (b+13) 5001=mA at m0 m1⊢
 walk_at "ex"
 refine⟨a,ns,_,10,rfl,s02.seq hS,hl,by omega,by omega,by decide,?_⟩
 have m2:=bf ns (b+14) (m:=10) (by decide)
 have m3:=bh ns (b+14) (m:=10) (by decide)
 generalize bB ns (b+14) 10=mB at m2 m3⊢
 walk_at "ex"
 refine⟨by show 4≤sizeLine;omega,λl2 h2=>?_⟩
 have s3:ao H2 (upd H2 l2 (.lst [.int 0,.int 5000,.int mA,.int mB])):=ao.upd h2
 have e3:(upd H2 l2 (.lst [.int 0,.int 5000,.int mA,.int mB])) l2=some (.lst [.int 0,.int 5000,.int mA,.int mB]):=ak
 generalize upd H2 l2 (.lst [.int 0,.int 5000,.int mA,.int mB])=H3 at s3 e3⊢
 have s03:=s02.trans s3
 walk_at "A"
 refine⟨a,ns,_,4,rfl,s03.seq hS,hl,by omega,by omega,by decide,?_⟩
 obtain⟨mo,emo,hmo⟩:∃mo:Nat,n8 [V.int 0,.int 5000,.int mA,.int mB] (bB ns (b+15) 4)=some (.int (mo:Int))/\mo≤5000:=by
  have d0:=bf ns (b+15) (m:=4) (by decide)
  have d1:=bh ns (b+15) (m:=4) (by decide)
  have hd:bB ns (b+15) 4=0\/bB ns (b+15) 4=1\/bB ns (b+15) 4=2\/bB ns (b+15) 4=3:=by omega
  rcases hd with e |e |e |e<;>rw[e]
  .exact⟨0,rfl,by omega⟩
  .exact⟨5000,rfl,by omega⟩
  .exact⟨mA.toNat,by rw[show((mA.toNat:Nat):Int)=mA from by omega];rfl,by omega⟩
  .exact⟨mB.toNat,by rw[show((mB.toNat:Nat):Int)=mB from by omega];rfl,by omega⟩
 refine aQ (bc.of e3) emo ?_
 walk_at "A"
 refine⟨a,ns,_,500000,rfl,s03.seq hS,hl,by omega,by omega,by decide,?_⟩
 have r0:=bf ns (b+16) (m:=500000) (by decide)
 have r1:=bh ns (b+16) (m:=500000) (by decide)
 generalize bB ns (b+16) 500000=rA at r0 r1⊢
 walk_at "ex"
 refine⟨a,ns,_,30,rfl,s03.seq hS,hl,by omega,by omega,by decide,?_⟩
 have r2:=bf ns (b+17) (m:=30) (by decide)
 have r3:=bh ns (b+17) (m:=30) (by decide)
 generalize bB ns (b+17) 30=rB at r2 r3⊢
 walk_at "ex"
 refine⟨by show 4≤sizeLine;omega,λl3 h3=>?_⟩
 have s4:ao H3 (upd H3 l3 (.lst [.int 0,.int 1000000000,.int rA,.int rB])):=ao.upd h3
 have e4:(upd H3 l3 (.lst [.int 0,.int 1000000000,.int rA,.int rB])) l3=some (.lst [.int 0,.int 1000000000,.int rA,.int rB]):=ak
 change lz _ _ _ _ (upd H3 l3 (.lst [.int 0,.int 1000000000,.int rA,.int rB]))
 generalize upd H3 l3 (.lst [.int 0,.int 1000000000,.int rA,.int rB])=H4 at s4 e4⊢
 have s04:=s03.trans s4
 walk_at "A"
 refine⟨a,ns,_,4,rfl,s04.seq hS,hl,by omega,by omega,by decide,?_⟩
 obtain⟨rw',erw,hrw⟩:∃rr:Nat,n8 [V.int 0,.int 1000000000,.int rA,.int rB] (bB ns (b+18) 4)=some (.int (rr:Int))/\rr≤1000000000:=by
  have d0:=bf ns (b+18) (m:=4) (by decide)
  have d1:=bh ns (b+18) (m:=4) (by decide)
  have hd:bB ns (b+18) 4=0\/bB ns (b+18) 4=1\/bB ns (b+18) 4=2\/bB ns (b+18) 4=3:=by omega
  rcases hd with e |e |e |e<;>rw[e]
  .exact⟨0,rfl,by omega⟩
  .exact⟨1000000000,rfl,by omega⟩
  .exact⟨rA.toNat,by rw[show((rA.toNat:Nat):Int)=rA from by omega];rfl,by omega⟩
  .exact⟨rB.toNat,by rw[show((rB.toNat:Nat):Int)=rB from by omega];rfl,by omega⟩
 refine aQ (bc.of e4) erw ?_
 walk_at "A"
 refine⟨a,ns,_,c,cs,rfl,s04.seq hS,hl,by omega,by omega,hC.same s04,by omega,λv xs H5 s5 hv ev hxs=>?_⟩
 have s05:=s04.trans s5
 have s15:=(s2.trans (s3.trans s4)).trans s5
 walk_at "ex"
 refine⟨c,o,v,(rw':Int),cs,os,xs,rfl,hC.same s05,hO.same s15,ev,hxs.len.symm,by omega,by omega,ahv,λk kv H6 s6 hk hkv ek ekv=>?_⟩
 have s06:=s05.trans s6
 walk_at "A"
 refine⟨by show 2≤sizeLine;omega,λl4 h4=>?_⟩
 have s7:ao H6 (upd H6 l4 (.lst [.str (Str.ofString "ahead"),.str (Str.ofString "behind")])):=ao.upd h4
 have e7:(upd H6 l4 (.lst [.str (Str.ofString "ahead"),.str (Str.ofString "behind")])) l4=some (.lst [.str (Str.ofString "ahead"),.str (Str.ofString "behind")]):=ak
 generalize upd H6 l4 (.lst [.str (Str.ofString "ahead"),.str (Str.ofString "behind")])=H7 at s7 e7⊢
 have s07:=s06.trans s7
 walk_at "ex"
 refine⟨a,ns,_,2,rfl,s07.seq hS,hl,by omega,by omega,by decide,?_⟩
 obtain⟨sd,esd⟩:∃sd:Bool,n8 [V.str (Str.ofString "ahead"),.str (Str.ofString "behind")] (bB ns (b+19) 2)=some (.str (dN sd)):=by
  have d0:=bf ns (b+19) (m:=2) (by decide)
  have d1:=bh ns (b+19) (m:=2) (by decide)
  have hd:bB ns (b+19) 2=0\/bB ns (b+19) 2=1:=by omega
  rcases hd with e |e<;>rw[e]
  .exact⟨true,rfl⟩
  .exact⟨false,rfl⟩
 refine aQ (bc.of e7) esd ?_
 refine aA (bj ?_)
 walk_at "ex"
 refine⟨a,c,ns,_,cs,rfl,s07.seq hS,hl,by omega,by omega,hC.same s07,hok,λz H8 s8 hz=>?_⟩
 obtain⟨z1,z2,z3,z4⟩:=hz.good hok (by omega) (by omega)
 have s78:=s7.trans s8
 walk_at "ex"
 refine⟨by show 2≤sizeLine;omega,λcu hcu=>?_⟩
 have s9:ao H8 (upd H8 cu (.tup [.str (dN sd),.ref k])):=ao.upd hcu
 have e9:(upd H8 cu (.tup [.str (dN sd),.ref k])) cu=some (.tup [.str (dN sd),.ref k]):=ak
 generalize upd H8 cu (.tup [.str (dN sd),.ref k])=H9 at s9 e9⊢
 walk_at "ex"
 refine⟨by show 5≤sizeLine;omega,λp hp=>?_⟩
 have s10:ao H9 (upd H9 p (.tup [.str (cC lv),.int (mo:Int),.ref o,.str z,.ref cu])):=ao.upd hp
 have s6x:=s78.trans (s9.trans s10)
 refine q p ⟨lv,mo,os,z,⟨sd,rw',Rm cs os xs⟩⟩ _ (s06.trans s6x) ⟨o,cu,ak,hO.same (s15.trans (s6.trans s6x)),k,kv,s10 _ _ e9,s6x _ _ ek,s6x _ _ ekv⟩ ⟨hmo,o4,oin,onn,hrw,GK hxs ahv,z1,z2,z3,z4⟩
theorem VD{l m:List Nat}{n:Nat}(hl:∀c∈l,48≤c/\c≤57)(hm:∀c∈m,48≤c/\c≤57)(ll:l.length≤5)(lm:m.length=4)(vl:T7 l=10000+n)(vm:T7 m=n)(hn:n<9973):l.drop 1=m:=by
 match m,lm with
 |[p,q,r,s],_=>
  have hp:=hm p (by simp)
  have hq:=hm q (by simp)
  have hr:=hm r (by simp)
  have hs:=hm s (by simp)
  have vm':(((0*10+(p-48))*10+(q-48))*10+(r-48))*10+(s-48)=n:=vm
  match l,ll with
  |[],_=>have :0=10000+n:=vl;omega
  |[a],_=>
   have ha:=hl a (by simp)
   have :0*10+(a-48)=10000+n:=vl
   omega
  |[a,b],_=>
   have ha:=hl a (by simp)
   have hb:=hl b (by simp)
   have :(0*10+(a-48))*10+(b-48)=10000+n:=vl
   omega
  |[a,b,c],_=>
   have ha:=hl a (by simp)
   have hb:=hl b (by simp)
   have hc:=hl c (by simp)
   have :((0*10+(a-48))*10+(b-48))*10+(c-48)=10000+n:=vl
   omega
  |[a,b,c,d],_=>
   have ha:=hl a (by simp)
   have hb:=hl b (by simp)
   have hc:=hl c (by simp)
   have hd:=hl d (by simp)
   have :(((0*10+(a-48))*10+(b-48))*10+(c-48))*10+(d-48)=10000+n:=vl
   omega
  |[a,b,c,d,e],_=>
   have ha:=hl a (by simp)
   have hb:=hl b (by simp)
   have hc:=hl c (by simp)
   have hd:=hl d (by simp)
   have he:=hl e (by simp)
   have :((((0*10+(a-48))*10+(b-48))*10+(c-48))*10+(d-48))*10+(e-48)=10000+n:=vl
   have e1:b=p:=by omega
   have e2:c=q:=by omega
   have e3:d=r:=by omega
   have e4:e=s:=by omega
   rw[e1,e2,e3,e4]
   rfl
theorem Qx{n:Nat}(h:n<9973):bV (Str.ofString (toString ((10000+n:Nat):Int))) (some 1) none=ig n:=by
 apply bQ
 have e0:=lM (Str.ofString (toString ((10000+n:Nat):Int))) 1
 rw[show((1:Nat):Int)=1 from rfl]at e0
 rw[e0]
 have h4:=La n h
 unfold Ff at h4
 simp only[Bool.and_eq_true,decide_eq_true_eq,List.all_eq_true]at h4
 have hl:=j8 (m:=10000+n) (k:=5) (by decide) (by omega)
 have hx:=L2.len_list (Str.ofString (toString ((10000+n:Nat):Int)))
 have hy:=L2.len_list (ig n)
 refine VD (n:=n) (gG (10000+n)) (λc hc=>of_decide_eq_true (h4.2.1 c hc)) (by omega) (by omega) ?_ h4.2.2 h
 rw[iU]
 exact W.KIN.val_back (10000+n)
def Br:Sp:=λvs H Q _=>∃z,vs=[.str z]/\z.length≤100000/\(∀c∈z.cps.toList,c<1114112)/\∀H',ao H H'->Q (.str (z++Str.ofString "."++ig (bZ z.cps.toList))) H'
theorem jK(T:Txt K mg):Def P w K mg base true 1 "_law_checked" ["_law_body_here"] Br:=by
 refine xR T (λvs H Q E h=>by obtain⟨z,rfl,_⟩:=h;rfl) (λf cdv A outer s H vs Q E hr h=>?_)
 obtain⟨z,rfl,hz,hc,q⟩:=h
 have n1:=T.XX
 have n2:=T.Ir
 have n3:=T.zF
 have n4:=T.nM
 have nd:=mW.nd
 have hsz:sizeLine=16777216:=sizeLine_eq
 have lp:(Str.ofString ".").length=1:=by decide+kernel
 walk_at "A"
 refine aj ?_
 refine Xm (by walk_at "po") (by rfl) (by rfl) n2 (by rfl) ?_
 walk_at "ex"
 refine XN (by rfl) hz λp hp=>?_
 have sm:ao H (upd H p (.lst (z.cps.toList.map λc=>V.str ⟨#[c]⟩))):=ao.upd hp
 have ep:(upd H p (.lst (z.cps.toList.map λc=>V.str ⟨#[c]⟩))) p=some (.lst (z.cps.toList.map λc=>V.str ⟨#[c]⟩)):=ak
 generalize upd H p (.lst (z.cps.toList.map λc=>V.str ⟨#[c]⟩))=H1 at sm ep⊢
 have zY:(z.cps.toList.map λc=>V.str ⟨#[c]⟩).length=z.cps.toList.length:=List.length_map ..
 refine⟨p,_,rfl,bc.of ep,λi σ H'=>H'=H1/\∃t o,σ=[some (.str z),some (.int t),o]/\t=bZ (z.cps.toList.drop (z.cps.toList.length-i)),⟨rfl,0,none,rfl,?_⟩,λi σ H' hi hP=>?_,λi x σ H' hlt hi hP=>?_,λσ H' hP=>?_⟩
 .rw[Nat.sub_zero,List.drop_length]
  rfl
 .rw[hP.1]
  exact bc.of ep
 .obtain⟨rfl,t,o,rfl,e⟩:=hP
  rw[zY]at hlt
  rw[zY,List.getElem?_map]at hi
  have h1:z.cps.toList.length-1-i<z.cps.toList.length:=by omega
  rw[List.getElem?_eq_getElem h1]at hi
  have hx:x= .str ⟨#[z.cps.toList[z.cps.toList.length-1-i]]⟩:=by
   have :=Option.some.inj hi
   exact this.symm
  subst hx
  have hcb:=hc _ (List.getElem_mem h1)
  have hd:z.cps.toList.drop (z.cps.toList.length-(i+1))=z.cps.toList[z.cps.toList.length-1-i]::z.cps.toList.drop (z.cps.toList.length-i):=by
   have e1:z.cps.toList.length-(i+1)=z.cps.toList.length-1-i:=by omega
   have e2:z.cps.toList.length-i=z.cps.toList.length-1-i+1:=by omega
   rw[e1,e2,List.drop_eq_getElem_cons h1]
  have hb:=iy (z.cps.toList.drop (z.cps.toList.length-i))
  rw[<-e]at hb
  generalize z.cps.toList[z.cps.toList.length-1-i]=c at hcb hd⊢
  refine aJ nd (by rfl) (.inl rfl) (.inl rfl) ?_
  refine aA ?_
  walk_at "s"
  walk_at "ex"
  refine⟨rfl,_,_,rfl,?_⟩
  rw[hd]
  show _=((c:Int)+137*bZ _) % 9973
  rw[<-e,Int.mul_comm,Int.add_comm]
 .obtain⟨rfl,t,o,rfl,e⟩:=hP
  rw[zY,Nat.sub_self,List.drop_zero]at e
  have hb:=iy z.cps.toList
  rw[<-e]at hb
  obtain⟨n,rfl⟩:=Int.eq_ofNat_of_zero_le hb.1
  have hn:n<9973:=by omega
  rw[<-e]at q
  generalize bZ z.cps.toList=cz at e q
  refine aA (bj ?_)
  walk_at "ex"
  refine aZ (by omega) ?_
  walk_at "ex"
  refine lu (jQ ?_) ?_
  .have :(10:Nat)^60>20000:=by decide
   omega
  walk_at "ex"
  have hl5:=eQ (i:=10000+(n:Int)) (k:=5) (by decide) (by omega)
  refine m7 (by omega) ?_
  have e4:=Qx hn
  rw[show(((10000+n:Nat):Int))=10000+(n:Int)from by omega]at e4
  rw[e4]
  have h4:=pM (n:Int) (by omega) (by omega)
  refine aZ (by rw[len_app];omega) ?_
  exact q _ sm
def Il:List V->Str
 |[]=>Str.ofString ""
 |x::r=>Str.ofString " "++wordOf x++Il r
theorem yq:(Str.ofString "").cps.toList=[]:=by decide+kernel
theorem Hm(y:V):∀xs:List V,Il (xs++[y])=Il xs++Str.ofString " "++wordOf y
 |[]=>by
  show Str.ofString " "++wordOf y++Str.ofString ""=Str.ofString ""++Str.ofString " "++wordOf y
  apply bQ
  simp[bw,yq]
 |x::r=>by
  show Str.ofString " "++wordOf x++Il (r++[y])=(Str.ofString " "++wordOf x++Il r)++Str.ofString " "++wordOf y
  rw[Hm y r]
  apply bQ
  simp only[bw,List.append_assoc]
theorem K4(a:Str):∀xs:List V,Str.join " " (a::xs.map wordOf)=a++Il xs
 |[]=>by
  show a=a++Str.ofString ""
  apply bQ
  simp[bw,yq]
 |x::r=>by
  show a++Str.ofString " "++Str.join " " (wordOf x::r.map wordOf)=a++(Str.ofString " "++wordOf x++Il r)
  rw[K4 (wordOf x) r]
  apply bQ
  simp only[bw,List.append_assoc]
theorem Xb(M:Mk):cF M=d9 M.living++Str.ofString "/"++Str.ofString (toString (M.moment:Int))++Str.ofString "/"++u9 M.os++Str.ofString "/"++M.sieve++Str.ofString "/"++gR M.cut.ahead++Str.ofString (toString (M.cut.row:Int))++Il M.cut.xs:=by
 have e:cF M=d9 M.living++Str.ofString "/"++(Str.ofString (toString (M.moment:Int))++Str.ofString "/"++(u9 M.os++Str.ofString "/"++(M.sieve++Str.ofString "/"++(gR M.cut.ahead++Str.join " " (Str.ofString (toString (M.cut.row:Int))::M.cut.xs.map wordOf))))):=rfl
 rw[e,K4]
 apply bQ
 simp only[bw,List.append_assoc]
def Lj:Sp:=λvs H Q _=>∃(p:Addr) (M:Mk) (cs:List bK),vs=[.ref p]/\gY H p M/\aW cs=true/\cJ cs M/\∀H',ao H H'->Q (.str (cF M)) H'
theorem nW(T:Txt K mg):Def P w K mg base true 2 "_law_body" ["_law_mark_here"] Lj:=by
 refine Dn T (λvs H Q E h=>by obtain⟨p,M,cs,rfl,_⟩:=h;rfl) (λf cdv A outer s H vs Q E hr h=>?_)
 obtain⟨p,M,cs,rfl,⟨o,c,ep,⟨ws,eo,hws⟩,k,v,ec,ek,ev⟩,hc,hM,q⟩:=h
 have nd:=ue.nd
 have n1:=T.SJ
 have n2:=T.nM
 have hsz:sizeLine=16777216:=sizeLine_eq
 have ls:(Str.ofString "/").length=1:=by decide+kernel
 have lb:(Str.ofString " ").length=1:=by decide+kernel
 have lpl:(Str.ofString "+").length=1:=by decide+kernel
 have lmi:(Str.ofString "-").length=1:=by decide+kernel
 have D1:Def P w K mg base true 1 "_law_word" ["_law_value_here"] Dr:=jV T
 have hwl:=hws.len
 have hol:=hM.len
 have hot:=yw hc hM
 have hsl:=hM.short
 have hxl:=hM.xsl
 have hll:(d9 M.living).length=1:=by cases M.living<;>decide+kernel
 have hgl:(gR M.cut.ahead).length=1:=by cases M.cut.ahead<;>decide+kernel
 have hml:=eQ (i:=(M.moment:Int)) (k:=4) (by decide) (by have :=hM.moment;have :(10:Nat)^4>5000:=by decide
                                                         omega)
 have hrl:=eQ (i:=(M.cut.row:Int)) (k:=10) (by decide) (by have :=hM.row;have :(10:Nat)^10>1000000000:=by decide
                                                           omega)
 refine aj (gf (by rfl) (by rfl) ?_)
 walk_at "ex"
 refine eO (by rfl) (by rfl) (by rfl) (cA.of ep) (by rfl) (aN (by rfl) (aJ nd (by rfl) (.inl rfl) (.inl rfl) (aN (by rfl) (aJ nd (by rfl) (.inl rfl) (.inl rfl) (aN (by rfl) (aJ nd (by rfl) (.inl rfl) (.inl rfl) (aN (by rfl) (aJ nd (by rfl) (.inl rfl) (.inl rfl) (aN (by rfl) (aJ nd (by rfl) (.inl rfl) (.inl rfl) (cM ?_)))))))))))
 walk_at "A"
 refine⟨by show 0≤sizeLine;omega,λwl Zq=>?_⟩
 have s1:ao H (upd H wl (.lst [])):=ao.upd Zq
 have e1:(upd H wl (.lst [])) wl=some (.lst []):=ak
 generalize upd H wl (.lst [])=H1 at s1 e1⊢
 refine aj (FN (by walk_at "po") (by rfl) (by intro _;rfl) ?_)
 walk_at "ex"
 refine⟨o,ws,rfl,bc.of (s1 _ _ eo),λi σ H'=>(∃o7 o8,σ=[some (.ref p),some (.str (cC M.living)),some (.int M.moment),some (.ref o),some (.str M.sieve),some (.ref c),some (.ref wl),o7,o8,none,none])/\ao H H'/\H' wl=some (.lst (((M.os.take i).map dB).map V.str)),⟨⟨none,none,rfl⟩,s1,e1⟩,λi σ' H' hi hP=>bc.of (hP.2.1 _ _ eo),λi x σ' H' hx hP=>?_,λσ' H' hP=>?_⟩
 .obtain⟨⟨o7,o8,rfl⟩,sm,ewl⟩:=hP
  obtain⟨oo,hoo,t,rfl,ht⟩:=hws.get hx
  have hnl:=dW (iM hc (hM.names oo (List.mem_of_getElem? hoo)))
  have hit:i<M.os.length:=(List.getElem?_eq_some_iff.mp hoo).1
  refine eO (by rfl) (by rfl) (by rfl) (cA.of (sm _ _ ht)) (by rfl) (aN (by rfl) (aJ nd (by rfl) (.inl rfl) (.inl rfl) (aN (by rfl) (aJ nd (by rfl) (.inl rfl) (.inl rfl) (cM ?_)))))
  refine aA (gB (by rfl) (jf F.plainAttrs_list F.slot_list_append F.type_list_append (by rfl) (by rfl) (by rfl) (by rfl) (by rfl) ?_))
  walk_at "e"
  refine⟨.inl ⟨rfl,_,bc.of ewl⟩,?_⟩
  walk_at "ex"
  refine⟨by show 2≤sizeLine;omega,λy hy=>?_⟩
  have sy:ao H' (upd H' y (.lst [.str (Str.ofString "-"),.str (Str.ofString "+")])):=ao.upd hy
  have ey:(upd H' y (.lst [.str (Str.ofString "-"),.str (Str.ofString "+")])) y=some (.lst [.str (Str.ofString "-"),.str (Str.ofString "+")]):=ak
  generalize upd H' y (.lst [.str (Str.ofString "-"),.str (Str.ofString "+")])=H2 at sy ey⊢
  walk_at "ex"
  refine jG vR (.inr ⟨_,rfl,?_⟩)
  have fin:∀sg:Str,sg.length=1->sg++oo.1=dB oo->OP (w6 true P w K mg base iT "_law_body" (aa cP) f cdv A outer s H E) (binaryOp .Add) (.str sg) (.str oo.1) H2 (λv H3=>v= .str (dB oo)/\H3=H2):=λsg h1 h2=>aZ (by omega) ⟨by rw[h2],rfl⟩
  have key:∀(sg:Str) (Q2:VK),sg.length=1->sg++oo.1=dB oo->Q2 (.str (dB oo)) H2->OP (w6 true P w K mg base iT "_law_body" (aa cP) f cdv A outer s H E) (binaryOp .Add) (.str sg) (.str oo.1) H2 Q2:=λsg Q2 h1 h2 hq=>aZ (by omega) (by rw[h2];exact hq)
  have htk:((M.os.take (i+1)).map dB).map V.str=((M.os.take i).map dB).map V.str++[.str (dB oo)]:=by
   rw[List.take_add_one,hoo,List.map_append,List.map_append]
   rfl
  have ayG:EA (w6 true P w K mg base iT "_law_body" (aa cP) f cdv A outer s H E) [] [some (.ref p),some (.str (cC M.living)),some (.int M.moment),some (.ref o),some (.str M.sieve),some (.ref c),some (.ref wl),some (.str oo.1),some (.bl oo.2),none,none] H2 (λvs H3=>vs=[]/\H3=H2):=kZ ⟨rfl,rfl⟩
  have hlt:(((M.os.take i).map dB).map V.str).length≤4:=by rw[List.length_map,List.length_map,List.length_take];omega
  obtain⟨nm,up⟩:=oo
  cases up with
  |true=>
   refine aQ (bc.of ey) (i:=1) rfl ?_
   walk_at "ex"
   refine key _ _ lpl rfl ?_
   walk_at "ex"
   refine lH gK ⟨wl,_,_,rfl,rfl,sy _ _ ewl,by omega,?_⟩
   refine⟨⟨_,_,rfl⟩,λb u e=>?_,by rw[ak,htk]⟩
   rw[az (au e Zq)]
   exact sy _ _ (sm _ _ e)
  |false=>
   refine aQ (bc.of ey) (i:=0) rfl ?_
   walk_at "ex"
   refine key _ _ lmi rfl ?_
   walk_at "ex"
   refine lH gK ⟨wl,_,_,rfl,rfl,sy _ _ ewl,by omega,?_⟩
   refine⟨⟨_,_,rfl⟩,λb u e=>?_,by rw[ak,htk]⟩
   rw[az (au e Zq)]
   exact sy _ _ (sm _ _ e)
 obtain⟨⟨o7,o8,rfl⟩,sm,ewl⟩:=hP
 rw[hwl,List.take_length]at ewl
 walk_at "A"
 refine⟨by show 2≤sizeLine;omega,λy hy=>?_⟩
 have sy:ao H' (upd H' y (.lst [.str (Str.ofString "s"),.str (Str.ofString "l")])):=ao.upd hy
 have ey:(upd H' y (.lst [.str (Str.ofString "s"),.str (Str.ofString "l")])) y=some (.lst [.str (Str.ofString "s"),.str (Str.ofString "l")]):=ak
 generalize upd H' y (.lst [.str (Str.ofString "s"),.str (Str.ofString "l")])=H2 at sy ey⊢
 walk_at "ex"
 refine jG vR (.inr ⟨_,rfl,?_⟩)
 have el:n8 [V.str (Str.ofString "s"),.str (Str.ofString "l")] (if decide (V.str (cC M.living)=V.str (Str.ofString "living"))=true then 1 else 0)=some (.str (d9 M.living)):=by
  cases M.living
  .rw[decide_eq_false (show ¬V.str (cC false)=V.str (Str.ofString "living")from by decide+kernel)]
   rfl
  .rw[decide_eq_true (show V.str (cC true)=V.str (Str.ofString "living")from rfl)]
   rfl
 refine aQ (bc.of ey) el ?_
 walk_at "ex"
 refine aZ (by omega) ?_
 walk_at "ex"
 refine lu (jQ ?_) ?_
 .have :=hM.moment
  have :(10:Nat)^60>5000:=by decide
  omega
 walk_at "ex"
 refine aZ (by rw[len_app];omega) ?_
 walk_at "ex"
 refine aZ (by rw[len_app,len_app];omega) ?_
 have iw:=sm.trans sy
 walk_at "A"
 have hsum:=Oa (M.os.map dB) 9 λq hq=>by
  obtain⟨o,ho,rfl⟩:=List.mem_map.mp hq
  have :=dW (iM hc (hM.names o ho))
  unfold dB
  rw[len_app]
  split <;>omega
 rw[List.length_map]at hsum
 refine oR (ys:=M.os.map dB) (bc.of (sy _ _ ewl)) (by rw[lb,List.length_map];omega) ?_
 have aAA:(Str.join " " (M.os.map dB)).length≤100:=hot
 walk_at "ex"
 refine aZ (by rw[len_app,len_app,len_app];omega) ?_
 walk_at "ex"
 refine aZ (by rw[len_app,len_app,len_app,len_app];omega) ?_
 walk_at "ex"
 refine aZ (by rw[len_app,len_app,len_app,len_app,len_app];omega) ?_
 walk_at "ex"
 refine aZ (by rw[len_app,len_app,len_app,len_app,len_app,len_app];omega) ?_
 walk_at "A"
 refine⟨by show 2≤sizeLine;omega,λy2 hy2=>?_⟩
 have sy2:ao H2 (upd H2 y2 (.lst [.str (Str.ofString ">"),.str (Str.ofString "<")])):=ao.upd hy2
 have Lg:(upd H2 y2 (.lst [.str (Str.ofString ">"),.str (Str.ofString "<")])) y2=some (.lst [.str (Str.ofString ">"),.str (Str.ofString "<")]):=ak
 generalize upd H2 y2 (.lst [.str (Str.ofString ">"),.str (Str.ofString "<")])=H3 at sy2 Lg⊢
 have sm3:=iw.trans sy2
 walk_at "ex"
 refine bx (cA.of (sm3 _ _ ec)) (i:=0) rfl ?_
 walk_at "ex"
 refine jG vR (.inr ⟨_,rfl,?_⟩)
 have es:n8 [V.str (Str.ofString ">"),.str (Str.ofString "<")] (if decide (V.str (dN M.cut.ahead)=V.str (Str.ofString "ahead"))=true then 1 else 0)=some (.str (gR M.cut.ahead)):=by
  cases M.cut.ahead
  .rw[decide_eq_false (show ¬V.str (dN false)=V.str (Str.ofString "ahead")from by decide+kernel)]
   rfl
  .rw[decide_eq_true (show V.str (dN true)=V.str (Str.ofString "ahead")from rfl)]
   rfl
 refine aQ (bc.of Lg) es ?_
 refine aZ (by rw[len_app,len_app,len_app,len_app,len_app,len_app,len_app];omega) ?_
 walk_at "ex"
 refine bx (cA.of (sm3 _ _ ec)) (i:=1) rfl ?_
 walk_at "ex"
 refine bx (cA.of (sm3 _ _ ek)) (i:=1) rfl ?_
 walk_at "ex"
 refine lu (jQ ?_) ?_
 .have :=hM.row
  have :(10:Nat)^60>1000000000:=by decide
  omega
 refine aZ (by rw[len_app,len_app,len_app,len_app,len_app,len_app,len_app,len_app];omega) ?_
 have hB:((d9 M.living++Str.ofString "/"++Str.ofString (toString (M.moment:Int))++Str.ofString "/"++Str.join " " (M.os.map dB)++Str.ofString "/"++M.sieve++Str.ofString "/"++gR M.cut.ahead++Str.ofString (toString (M.cut.row:Int))):Str).length≤3200:=by
  rw[len_app,len_app,len_app,len_app,len_app,len_app,len_app,len_app,len_app]
  omega
 have hBe:cF M=(d9 M.living++Str.ofString "/"++Str.ofString (toString (M.moment:Int))++Str.ofString "/"++Str.join " " (M.os.map dB)++Str.ofString "/"++M.sieve++Str.ofString "/"++gR M.cut.ahead++Str.ofString (toString (M.cut.row:Int)))++Il M.cut.xs:=Xb M
 generalize(d9 M.living++Str.ofString "/"++Str.ofString (toString (M.moment:Int))++Str.ofString "/"++Str.join " " (M.os.map dB)++Str.ofString "/"++M.sieve++Str.ofString "/"++gR M.cut.ahead++Str.ofString (toString (M.cut.row:Int)):Str)=B at hB hBe⊢
 refine aj (FN (by walk_at "po") (by rfl) (by intro _;rfl) ?_)
 walk_at "ex"
 refine bx (cA.of (sm3 _ _ ec)) (i:=1) rfl ?_
 walk_at "ex"
 refine bx (cA.of (sm3 _ _ ek)) (i:=0) rfl ?_
 refine⟨v,M.cut.xs,rfl,bc.of (sm3 _ _ ev),λi σ G=>(∃WW,σ=[some (.ref p),some (.str (cC M.living)),some (.int M.moment),some (.ref o),some (.str M.sieve),some (.ref c),some (.ref wl),o7,o8,some (.str (B++Il (M.cut.xs.take i))),WW])/\G=H3,⟨⟨none,by
  have e:B++Il (M.cut.xs.take 0)=B:=by
   apply bQ
   show(B++Str.ofString "").cps.toList=_
   rw[bw,yq,List.append_nil]
  rw[e]
  rfl⟩,rfl⟩,λi σ' G hi hP=>by rw[hP.2];exact bc.of (sm3 _ _ ev),λi x σ' G hx hP=>?_,λσ' G hP=>?_⟩
 .obtain⟨⟨WW,rfl⟩,rfl⟩:=hP
  have hxm:=List.mem_of_getElem? hx
  obtain⟨oo,hoo,hv⟩:=hM.vals.Xw x hxm
  have hw1:=(hM.Hl hc x hxm).2.1
  have htl:∀ys:List V,(∀y∈ys,(wordOf y).length≤21)->(Il ys).length≤22*ys.length:=by
   intro ys
   induction ys with
   |nil=>intro _;show(Str.ofString "").length≤0;decide+kernel
   |cons y ys ih=>
    intro h
    have :=ih λz hz=>h z (by simp[hz])
    have :=h y (by simp)
    show(Str.ofString " "++wordOf y++Il ys).length≤22*(ys.length+1)
    rw[len_app,len_app]
    omega
  have h1:=htl (M.cut.xs.take i) λy hy=>(hM.Hl hc y (List.mem_of_mem_take hy)).2.1
  have h2:(M.cut.xs.take i).length≤4:=by rw[List.length_take];omega
  refine aJ nd (by rfl) (.inl rfl) (.inl rfl) ?_
  refine aA ?_
  walk_at "s"
  walk_at "ex"
  refine aZ (by rw[len_app];omega) ?_
  walk_at "ex"
  refine⟨x,_,rfl,hv,?_⟩
  refine aZ (by rw[len_app,len_app];omega) ?_
  refine⟨⟨some x,?_⟩,rfl⟩
  have e:B++Il (M.cut.xs.take (i+1))=B++Il (M.cut.xs.take i)++Str.ofString " "++wordOf x:=by
   rw[List.take_add_one,hx]
   show B++Il (M.cut.xs.take i++[x])=_
   rw[Hm]
   apply bQ
   simp only[bw,List.append_assoc]
  rw[e]
  rfl
 .obtain⟨⟨WW,rfl⟩,rfl⟩:=hP
  rw[List.take_length, <-hBe]
  refine aA (bj ?_)
  walk_at "ex"
  exact q _ sm3
def Mj:Sp:=λvs H Q _=>∃(p:Addr) (M:Mk),vs=[.ref p]/\gY H p M/\M.os.length≤1000/\M.cut.xs.length≤1000/\∀r o H',ao H H'->H o=none->gY H' r M->(∃c,H' r=some (.tup [.str (cC M.living),.int M.moment,.ref o,.str M.sieve,.ref c]))->Q (.ref r) H'
theorem oW(T:Txt K mg):Def P w K mg base true 1 "_law_kept" ["_law_mark_here"] Mj:=by
 refine CN T (λvs H Q E h=>by obtain⟨p,M,rfl,_⟩:=h;rfl) (λf cdv A outer s H vs Q E hr h=>?_)
 obtain⟨p,M,rfl,⟨o,c,ep,⟨ws,eo,hws⟩,k,v,ec,ek,ev⟩,ho,hx,q⟩:=h
 have nd:=tZ.nd
 have n1:=T.zF
 have hsz:sizeLine=16777216:=sizeLine_eq
 have hwl:=hws.len
 refine aj (gf (by rfl) (by rfl) ?_)
 walk_at "ex"
 refine eO (by rfl) (by rfl) (by rfl) (cA.of ep) (by rfl) (aN (by rfl) (aJ nd (by rfl) (.inl rfl) (.inl rfl) (aN (by rfl) (aJ nd (by rfl) (.inl rfl) (.inl rfl) (aN (by rfl) (aJ nd (by rfl) (.inl rfl) (.inl rfl) (aN (by rfl) (aJ nd (by rfl) (.inl rfl) (.inl rfl) (aN (by rfl) (aJ nd (by rfl) (.inl rfl) (.inl rfl) (cM ?_)))))))))))
 refine aA (bj ?_)
 walk_at "ex"
 refine Iw (.inl (bc.of eo)) λo1 h1=>?_
 have s1:ao H (upd H o1 (.lst ws)):=ao.upd h1
 have e1:(upd H o1 (.lst ws)) o1=some (.lst ws):=ak
 generalize upd H o1 (.lst ws)=H1 at s1 e1⊢
 walk_at "ex"
 refine bx (cA.of (s1 _ _ ec)) (i:=0) rfl ?_
 walk_at "ex"
 refine bx (cA.of (s1 _ _ ec)) (i:=1) rfl ?_
 walk_at "ex"
 refine bx (cA.of (s1 _ _ ek)) (i:=0) rfl ?_
 walk_at "ex"
 refine Iw (.inl (bc.of (s1 _ _ ev))) λv1 h2=>?_
 have s2:ao H1 (upd H1 v1 (.lst M.cut.xs)):=ao.upd h2
 have e2:(upd H1 v1 (.lst M.cut.xs)) v1=some (.lst M.cut.xs):=ak
 generalize upd H1 v1 (.lst M.cut.xs)=H2 at s2 e2⊢
 have s12:=s1.trans s2
 walk_at "ex"
 refine bx (cA.of (s12 _ _ ec)) (i:=1) rfl ?_
 walk_at "ex"
 refine bx (cA.of (s12 _ _ ek)) (i:=1) rfl ?_
 walk_at "ex"
 refine⟨by show 2≤sizeLine;omega,λk1 h3=>?_⟩
 have s3:ao H2 (upd H2 k1 (.tup [.ref v1,.int M.cut.row])):=ao.upd h3
 have e3:(upd H2 k1 (.tup [.ref v1,.int M.cut.row])) k1=some (.tup [.ref v1,.int M.cut.row]):=ak
 generalize upd H2 k1 (.tup [.ref v1,.int M.cut.row])=H3 at s3 e3⊢
 walk_at "ex"
 refine⟨by show 2≤sizeLine;omega,λc1 h4=>?_⟩
 have s4:ao H3 (upd H3 c1 (.tup [.str (dN M.cut.ahead),.ref k1])):=ao.upd h4
 have e4:(upd H3 c1 (.tup [.str (dN M.cut.ahead),.ref k1])) c1=some (.tup [.str (dN M.cut.ahead),.ref k1]):=ak
 generalize upd H3 c1 (.tup [.str (dN M.cut.ahead),.ref k1])=H4 at s4 e4⊢
 walk_at "ex"
 refine⟨by show 5≤sizeLine;omega,λr h5=>?_⟩
 have s5:ao H4 (upd H4 r (.tup [.str (cC M.living),.int M.moment,.ref o1,.str M.sieve,.ref c1])):=ao.upd h5
 have Yl:=s3.trans (s4.trans s5)
 refine q r o1 _ (s12.trans Yl) h1 ⟨o1,c1,ak,⟨ws,(s2.trans Yl) _ _ e1,hws.imp λu c x=>x.same (s12.trans Yl)⟩,k1,v1,s5 _ _ e4,(s4.trans s5) _ _ e3,Yl _ _ e2⟩ ⟨c1,ak⟩
theorem adw{k:Nat}(h:k<37):∃c,R9.cps.toList[k]? =some c/\c∈SG:=by
 have hl:R9.cps.toList.length=37:=by decide+kernel
 have hk:k<R9.cps.toList.length:=by omega
 have key:∀c∈R9.cps.toList,c∈SG:=by decide+kernel
 exact⟨R9.cps.toList[k],List.getElem?_eq_getElem hk,key _ (List.getElem_mem hk)⟩
theorem iB(T:Txt K mg):Def P w K mg base true 3 "_law_long_look" ["_law_script","_law_base","_law_columns_here"] (xY K):=by
 refine tW T (λvs H Q E h=>by obtain⟨a,c,ns,b,cs,rfl,_⟩:=h;rfl) (λf cdv A outer s H vs Q E hr h=>?_)
 obtain⟨a,c,ns,b,cs,rfl,hS,hl,hb0,hb1,⟨vs,hc,hvs⟩,hok,q⟩:=h
 have nd:=j6.nd
 have n1:=T.jC
 have n2:=T.nM
 have n3:=T.jt
 have hsz:sizeLine=16777216:=sizeLine_eq
 have D1:Def P w K mg base true 1 "_law_draw" ["_law_script","_law_k","_law_many"] (kO K):=cD T
 have hvl:=hvs.len
 obtain⟨c1,c6⟩:=Es hok
 have sqc:bc K H c vs:=bc.of hc
 have lb:(Str.ofString " ").length=1:=by decide+kernel
 have lq:(Str.ofString " '").length=2:=by decide+kernel
 refine aj (gf (by rfl) (by rfl) ?_)
 walk_at "ex"
 refine⟨a,ns,b,_,rfl,hS,hl,by omega,by omega,by omega,?_⟩
 have a0:=bf ns b (m:=(vs.length:Int)) (by omega)
 have a1:=bh ns b (m:=(vs.length:Int)) (by omega)
 obtain⟨p,ep⟩:=Int.eq_ofNat_of_zero_le a0
 rw[ep]at a1⊢
 have hp:p<cs.length:=by omega
 have hcp:cs[p]? =some cs[p]:=List.getElem?_eq_getElem hp
 obtain⟨cv,gc,t,rfl,ht⟩:=hvs.get' hcp
 have hcm:cs[p]∈cs:=List.getElem_mem hp
 have hkd:=G5 hok hcm
 have hnm:=iM hok (List.mem_map.mpr ⟨cs[p],hcm,rfl⟩)
 have hnl:=dW hnm
 refine aQ sqc (bz gc) ?_
 refine eO (by rfl) (by rfl) (by rfl) (cA.of ht) (by rfl) (aN (by rfl) (aJ nd (by rfl) (.inl rfl) (.inl rfl) (aN (by rfl) (aJ nd (by rfl) (.inl rfl) (.inl rfl) (cM ?_)))))
 generalize hcc:cs[p]=cc at *
 refine aj (bY ?_)
 walk_at "ex"
 refine gm (λhnum=>?_) (λhnum=>?_)
 .have hnum:cc.2="number":=V.str.inj hnum
  walk_at "A"
  refine⟨a,ns,b+1,500000,rfl,hS,hl,by omega,by omega,by decide,?_⟩
  have d0:=bf ns (b+1) (m:=500000) (by decide)
  have d1:=bh ns (b+1) (m:=500000) (by decide)
  generalize bB ns (b+1) 500000=dv at d0 d1⊢
  walk_at "ex"
  refine aA (bj ?_)
  walk_at "ex"
  refine⟨by show 3≤sizeLine;omega,λl0 h0=>?_⟩
  have s2:ao H (upd H l0 (.lst [.str (Str.ofString "is"),.str (Str.ofString "under"),.str (Str.ofString "over")])):=ao.upd h0
  have e2:(upd H l0 (.lst [.str (Str.ofString "is"),.str (Str.ofString "under"),.str (Str.ofString "over")])) l0=some (.lst [.str (Str.ofString "is"),.str (Str.ofString "under"),.str (Str.ofString "over")]):=ak
  generalize upd H l0 (.lst [.str (Str.ofString "is"),.str (Str.ofString "under"),.str (Str.ofString "over")])=H2 at s2 e2⊢
  walk_at "ex"
  refine⟨a,ns,b+2,3,rfl,s2.seq hS,hl,by omega,by omega,by decide,?_⟩
  have k0:=bf ns (b+2) (m:=3) (by decide)
  have k1:=bh ns (b+2) (m:=3) (by decide)
  generalize bB ns (b+2) 3=kv at k0 k1⊢
  obtain⟨l,el,hh,ll⟩:∃l:Lk,n8 [V.str (Str.ofString "is"),.str (Str.ofString "under"),.str (Str.ofString "over")] kv=some (.str (iQ l))/\(l= .holds->cc.2="text")/\(iQ l).length≤5:=by
   have hd:kv=0\/kv=1\/kv=2:=by omega
   rcases hd with rfl |rfl |rfl
   .exact⟨.is,rfl,λz=>(by cases z),by decide+kernel⟩
   .exact⟨.under,rfl,λz=>(by cases z),by decide+kernel⟩
   .exact⟨.over,rfl,λz=>(by cases z),by decide+kernel⟩
  refine aQ (bc.of e2) el ?_
  walk_at "ex"
  refine aZ (by omega) ?_
  walk_at "ex"
  refine aZ (by rw[len_app];omega) ?_
  walk_at "ex"
  refine aZ (by rw[len_app,len_app];omega) ?_
  walk_at "ex"
  have hv:jd cc.2 (.int (100000000000000000+dv*1000000000)):=.inr (.inl ⟨hnum,_,rfl,by omega,by omega⟩)
  have hwl:=(hv.word hkd).2.1
  refine lu (jQ ?_) ?_
  .have :(10:Nat)^60>1000000000000000000:=by decide
   omega
  have aAn:(Str.ofString (toString (100000000000000000+dv*1000000000))).length≤21:=hwl
  refine aZ (by rw[len_app,len_app,len_app];omega) ?_
  refine q _ H2 s2 ⟨.one (.look l p (.int (100000000000000000+dv*1000000000))),⟨cc,hcp,hv,by nofun,hh⟩,Nat.le_refl _,?_,Nat.le_refl _⟩
  show _=Str.join " " [iQ l,fu cs p,wordOf (.int (100000000000000000+dv*1000000000))]
  rw[Ur,oE hcp]
  rfl
 .have htx:cc.2="text":=hkd.resolve_left λe=>hnum (by rw[e])
  refine aM (aj ?_)
  walk_at "s"
  walk_at "ex"
  walk_at "A"
  refine zM ["_law_k","_law_base","_law_script","_law_signs"] (σ':=[none,some (.int b),some (.ref a),some (.str R9)]) (by rfl) (by rfl) (b7 (aa bH) (by rfl) (by rfl) (by decide+kernel)) (by decide+kernel) (by rfl) (by rfl) (by rfl) n3 (by rfl) ?_
  walk_at "e"
  refine⟨20,rfl,by omega,by omega,λi v=>∃ch,v= .str ⟨#[ch]⟩/\ch∈SG,λfp E' C s3 H0 i H2 hi sm=>?_,λE' H1 xs hE hl2 hx e2 gh=>?_⟩
  .walk_at "ex"
   have ay5:i<20:=by simpa using hi
   refine⟨a,ns,b+3+i,37,rfl,sm.seq hS,hl,by omega,by omega,by decide,?_⟩
   have h1:=bf ns (b+3+i) (m:=37) (by decide)
   have h2:=bh ns (b+3+i) (m:=37) (by decide)
   obtain⟨kk,ekk⟩:=Int.eq_ofNat_of_zero_le h1
   rw[ekk]at h2⊢
   obtain⟨ch,hch,hsg⟩:=adw (k:=kk) (by omega)
   have hlt:R9.length≤sizeLine:=by rw[hsz];decide+kernel
   exact xg hlt (bz hch) ⟨⟨ch,rfl,hsg⟩,ao.refl _⟩
  obtain⟨Mv,hxs,hcl,hcs⟩:∃Mv:List Nat,xs=(Mv.map λc=>(⟨#[c]⟩:Str)).map V.str/\Mv.length=xs.length/\∀c∈Mv,c∈SG:=by
   clear hl2 e2 gh
   have key:∀(xs:List V),(∀(i:Nat) v,xs[i]? =some v->∃ch,v=V.str ⟨#[ch]⟩/\ch∈SG)->∃Mv:List Nat,xs=(Mv.map λc=>(⟨#[c]⟩:Str)).map V.str/\Mv.length=xs.length/\∀c∈Mv,c∈SG:=by
    intro xs
    induction xs with
    |nil=>intro _;exact⟨[],rfl,rfl,by simp⟩
    |cons x xs ih=>
     intro h
     obtain⟨Mv,e1,e2,e3⟩:=ih λi v e=>h (i+1) v (by simpa using e)
     obtain⟨ch,e4,e5⟩:=h 0 x rfl
     refine⟨ch::Mv,by rw[e4,e1];rfl,by simp[e2],λc hc=>?_⟩
     rcases List.mem_cons.mp hc with rfl |hc
     .exact e5
     .exact e3 c hc
   exact key xs hx
  have auT:Mv.length=20:=by rw[hcl,hl2];rfl
  subst hxs
  walk_at "ex"
  refine oR (bc.of e2) ?_ ?_
  .have e0:(Str.ofString "").length=0:=by decide+kernel
   rw[uy,List.length_map,e0]
   omega
  rw[my]
  have hwl:(⟨Mv.toArray⟩:Str).length=20:=by rw[L2.len_list];simpa using auT
  have hwc:∀c∈(⟨Mv.toArray⟩:Str).cps.toList,c∈SG:=λc hc=>hcs c (by simpa using hc)
  generalize(⟨Mv.toArray⟩:Str)=W at hwl hwc⊢
  refine aA (bj ?_)
  walk_at "ex"
  refine⟨by show 4≤sizeLine;omega,λl0 h0=>?_⟩
  have s2:ao H1 (upd H1 l0 (.lst [.str (Str.ofString "is"),.str (Str.ofString "under"),.str (Str.ofString "over"),.str (Str.ofString "holds")])):=ao.upd h0
  have e3:(upd H1 l0 (.lst [.str (Str.ofString "is"),.str (Str.ofString "under"),.str (Str.ofString "over"),.str (Str.ofString "holds")])) l0=some (.lst [.str (Str.ofString "is"),.str (Str.ofString "under"),.str (Str.ofString "over"),.str (Str.ofString "holds")]):=ak
  generalize upd H1 l0 (.lst [.str (Str.ofString "is"),.str (Str.ofString "under"),.str (Str.ofString "over"),.str (Str.ofString "holds")])=H2 at s2 e3⊢
  walk_at "ex"
  refine⟨a,ns,b+2,4,rfl,(gh.trans s2).seq hS,hl,by omega,by omega,by decide,?_⟩
  have k0:=bf ns (b+2) (m:=4) (by decide)
  have k1:=bh ns (b+2) (m:=4) (by decide)
  generalize bB ns (b+2) 4=kv at k0 k1⊢
  obtain⟨l,el,ll⟩:∃l:Lk,n8 [V.str (Str.ofString "is"),.str (Str.ofString "under"),.str (Str.ofString "over"),.str (Str.ofString "holds")] kv=some (.str (iQ l))/\(iQ l).length≤5:=by
   have hd:kv=0\/kv=1\/kv=2\/kv=3:=by omega
   rcases hd with rfl |rfl |rfl |rfl
   .exact⟨.is,rfl,by decide+kernel⟩
   .exact⟨.under,rfl,by decide+kernel⟩
   .exact⟨.over,rfl,by decide+kernel⟩
   .exact⟨.holds,rfl,by decide+kernel⟩
  refine aQ (bc.of e3) el ?_
  walk_at "ex"
  refine aZ (by omega) ?_
  walk_at "ex"
  refine aZ (by rw[len_app];omega) ?_
  walk_at "ex"
  refine aZ (by rw[len_app,len_app];omega) ?_
  walk_at "ex"
  refine aZ (by rw[len_app,len_app,len_app];omega) ?_
  have hv:jd cc.2 (.str W):=.inr (.inr ⟨by rw[htx];exact zL,W,rfl,by omega,hwc⟩)
  refine q _ H2 (gh.trans s2) ⟨.one (.look l p (.str W)),⟨cc,hcp,hv,by nofun,λ_=>htx⟩,Nat.le_refl _,?_,Nat.le_refl _⟩
  show _=Str.join " " [iQ l,fu cs p,wordOf (.str W)]
  rw[Ur,oE hcp,show Str.ofString " '"=Str.ofString " "++Str.ofString "'" from by decide+kernel]
  show _=iQ l++Str.ofString " "++cc.1++Str.ofString " "++(Str.ofString "'"++W)
  apply bQ
  simp only[bw,List.append_assoc]
theorem il(T:Txt K mg):Def P w K mg base true 4 "_law_long_sieve" ["_law_script","_law_base","_law_columns_here"] (uF K 60 15 20000):=by
 refine rW T (λvs H Q E h=>by obtain⟨a,c,ns,b,cs,rfl,_⟩:=h;rfl) (λf cdv A outer s H vs Q E hr h=>?_)
 obtain⟨a,c,ns,b,cs,rfl,hS,hl,hb0,hb1,hC,hok,q⟩:=h
 have nd:=jF.nd
 have n1:=T.jt
 have hsz:sizeLine=16777216:=sizeLine_eq
 have D1:Def P w K mg base true 1 "_law_draw" ["_law_script","_law_k","_law_many"] (kO K):=cD T
 have D2:Def P w K mg base true 3 "_law_long_look" ["_law_script","_law_base","_law_columns_here"] (xY K):=iB T
 have lb:(Str.ofString " ").length=1:=by decide+kernel
 have ln:(Str.ofString "not ").length=4:=by decide+kernel
 walk_at "A"
 refine⟨a,c,ns,b,cs,rfl,hS,hl,by omega,by omega,hC,hok,λz0 H1 s1 hz0=>?_⟩
 refine aj ?_
 refine pI (by walk_at "po") (by rfl) (by rfl) n1 (by rfl) ?_
 walk_at "go"
 refine⟨by omega,by omega,λi σ H'=>(∃z o4 o5,σ=[some (.ref a),some (.int b),some (.ref c),some (.str z),o4,o5]/\cY cs z (3+4*i) i)/\ao H H',⟨⟨z0,none,none,rfl,hz0⟩,s1⟩,λi σ H' hi hP=>?_,λσ H' hP=>?_⟩
 .obtain⟨⟨z,o4,o5,rfl,hz⟩,sm⟩:=hP
  have azb:i<14:=by simpa using hi
  have hzl:=hz.len hok
  refine aJ nd (by rfl) (.inl rfl) (.inl rfl) ?_
  walk_at "A"
  refine⟨by show 2≤sizeLine;omega,λy hy=>?_⟩
  have sy:ao H' (upd H' y (.lst [.str (Str.ofString "both"),.str (Str.ofString "either")])):=ao.upd hy
  have ey:(upd H' y (.lst [.str (Str.ofString "both"),.str (Str.ofString "either")])) y=some (.lst [.str (Str.ofString "both"),.str (Str.ofString "either")]):=ak
  generalize upd H' y (.lst [.str (Str.ofString "both"),.str (Str.ofString "either")])=H2 at sy ey⊢
  have iw:=sm.trans sy
  walk_at "ex"
  refine⟨a,ns,_,2,rfl,iw.seq hS,hl,by omega,by omega,by decide,?_⟩
  have k0:=bf ns (b+30+(i:Int)) (m:=2) (by decide)
  have k1:=bh ns (b+30+(i:Int)) (m:=2) (by decide)
  generalize bB ns (b+30+(i:Int)) 2=kv at k0 k1⊢
  obtain⟨x,ex,hx,xl⟩:∃x:Str,n8 [V.str (Str.ofString "both"),.str (Str.ofString "either")] kv=some (.str x)/\(x=Str.ofString "both"\/x=Str.ofString "either")/\x.length≤6:=by
   have hd:kv=0\/kv=1:=by omega
   rcases hd with rfl |rfl
   .exact⟨_,rfl,.inl rfl,by decide+kernel⟩
   .exact⟨_,rfl,.inr rfl,by decide+kernel⟩
  refine aQ (bc.of ey) ex ?_
  refine aA ?_
  walk_at "s"
  walk_at "ex"
  refine aZ (by omega) ?_
  walk_at "ex"
  refine⟨a,c,ns,_,cs,rfl,iw.seq hS,hl,by omega,by omega,hC.same iw,hok,λu H3 s3 hu=>?_⟩
  have hul:=hu.len hok
  refine aZ (by rw[len_app];omega) ?_
  walk_at "ex"
  refine aZ (by rw[len_app,len_app];omega) ?_
  walk_at "ex"
  refine aZ (by rw[len_app,len_app,len_app];omega) ?_
  exact⟨⟨_,_,_,rfl,(cY.two (k:=i) hx hu hz (by omega) (by omega)).mono (by omega) (by omega)⟩,iw.trans s3⟩
 .obtain⟨⟨z,o4,o5,rfl,hz⟩,sm⟩:=hP
  have hzl:=hz.len hok
  have hz':cY cs z 59 14:=hz
  have hzl':z.length≤22*59:=hzl
  refine aA (bj ?_)
  walk_at "ex"
  refine aZ (by omega) ?_
  rw[yO.2.1]
  exact q _ H' sm hz'.nt
def uT(o:Ord):PyData:=.tuple [.str o.1,.bool o.2]
theorem yN:∀{os:List Ord},(∀o∈os,Od 4000 o.1)->(PyData.list (os.map uT)).canLay0=true
 |[],_=>rfl
 |o::os,h=>by
  have ih:=yN (os:=os) λd hd=>h d (by simp[hd])
  show((PyData.canLay0 (.str o.1)&&(PyData.canLay0 (.bool o.2)&&true))&&PyData.canLayAll0 (os.map uT))=true
  rw[(h o (by simp)).lay]
  exact ih
theorem vq:∀os:List Ord,PyData.depthAll (os.map uT)≤2
 |[]=>by show(0:Nat)≤2;omega
 |o::os=>by
  have ih:=vq os
  have h1:(uT o).depth≤2:=by show(_:Nat)≤2;exact Nat.le_of_ble_eq_true rfl
  show max (uT o).depth (PyData.depthAll (os.map uT))≤2
  omega
theorem UG(os:List Ord):(PyData.list (os.map uT)).depth≤60:=by
 have :=vq os
 simp only[PyData.depth]
 omega
theorem Ed{K:W.Frag}{H:Hp}{vs:List V}{os:List Ord}(h:eU (Bs H) vs os):Qd K H vs (os.map uT):=by
 induction h with
 |nil=>exact .nil
 |cons r t ih=>
  obtain⟨p,rfl,hp⟩:=r
  exact .cons (.tup (cA.of hp) (.cons (.str _) (.cons (.bl _) .nil))) ih
theorem Wu{cs:List bK}{xs:List V}(h:eU (λc x=>jd c.2 x) cs xs):xs.all YQ=true/\(PyData.list (xs.map dV)).canLay0=true/\(PyData.list (xs.map dV)).depth≤2/\(∀x∈xs,G8 x):=by
 have h1:xs.all YQ=true/\PyData.canLayAll0 (xs.map dV)=true/\PyData.depthAll (xs.map dV)≤1/\(∀x∈xs,G8 x):=by
  induction h with
  |nil=>exact⟨rfl,rfl,by show(0:Nat)≤1;omega,by simp⟩
  | @cons c x l m r _ ih=>
    obtain⟨i1,i2,i3,i4⟩:=ih
    obtain⟨s1,s2⟩:=r.YQ
    refine⟨by rw[List.all_cons,s1,i1];rfl,?_,?_,?_⟩
    .show(PyData.canLay0 (dV x)&&PyData.canLayAll0 (m.map dV))=true
     rw[i2,Bool.and_true]
     rcases r with rfl |⟨_,i,rfl,_⟩ |⟨_,z,rfl,_⟩
     .rfl
     .rfl
     .exact(s2 z rfl).lay
    .show max (dV x).depth (PyData.depthAll (m.map dV))≤1
     have :(dV x).depth≤1:=by cases x<;>(show(_:Nat)≤1;exact Nat.le_of_ble_eq_true rfl)
     omega
    .intro y hy
     rcases List.mem_cons.mp hy with e |hy
     .rw[e];exact r.flat
     .exact i4 y hy
 refine⟨h1.1,h1.2.1,?_,h1.2.2.2⟩
 have :=h1.2.2.1
 simp only[PyData.depth]
 omega
def Cm(M:Mk):PyData:=.tuple [.str (cC M.living),.int (M.moment:Int),.list (M.os.map uT),.str M.sieve,.tuple [.str (dN M.cut.ahead),.tuple [.list (M.cut.xs.map dV),.int (M.cut.row:Int)]]]
theorem Ia{z:Str}{n:Nat}(h:plainS z)(hl:z.length≤n):Od n z:=⟨hl,λc hc=>by have :=h c hc;omega⟩
theorem cJ.Xf{cs:List bK}(hc:aW cs=true){M:Mk}(h:cJ cs M):M.cut.xs.all YQ=true/\(PyData.list (M.cut.xs.map dV)).canLay0=true/\(PyData.list (M.cut.xs.map dV)).depth≤2/\(∀x∈M.cut.xs,G8 x):=Wu (Ei h.vals)
theorem Tf(b:Bool):Od 4000 (cC b):=by cases b<;>exact⟨by decide+kernel,by decide+kernel⟩
theorem Tu(b:Bool):Od 4000 (dN b):=by cases b<;>exact⟨by decide+kernel,by decide+kernel⟩
theorem cJ.af6{cs:List bK}(hc:aW cs=true){M:Mk}(h:cJ cs M):∀o∈M.os,Od 4000 o.1:=λo ho=>by
 have hn:=iM hc (h.names o ho)
 exact Ia (mL hn) (by have :=dW hn;omega)
theorem Tz{cs:List bK}(hc:aW cs=true){M:Mk}(h:cJ cs M):(Cm M).canLay0=true:=by
 have h1:PyData.canLay0 (.str (cC M.living))=true:=(Tf M.living).lay
 have h2:PyData.canLay0 (.list (M.os.map uT))=true:=yN (h.af6 hc)
 have h3:PyData.canLay0 (.str M.sieve)=true:=(Ia (n:=4000) h.plain (by have :=h.short;omega)).lay
 have h4:PyData.canLay0 (.str (dN M.cut.ahead))=true:=(Tu M.cut.ahead).lay
 have h5:=(h.Xf hc).2.1
 show(PyData.canLay0 (.str (cC M.living))&&(true&&(PyData.canLay0 (.list (M.os.map uT))&&(PyData.canLay0 (.str M.sieve)&&((PyData.canLay0 (.str (dN M.cut.ahead))&&((PyData.canLay0 (.list (M.cut.xs.map dV))&&(true&&true))&&true))&&true)))))=true
 rw[h1,h2,h3,h4,h5]
 rfl
theorem U8{cs:List bK}(hc:aW cs=true){M:Mk}(h:cJ cs M):(Cm M).depth≤60:=by
 have h1:=vq M.os
 have h2:=(h.Xf hc).2.2.1
 have e1:(PyData.list (M.cut.xs.map dV)).depth=PyData.depthAll (M.cut.xs.map dV)+1:=by simp only[PyData.depth]
 unfold Cm
 simp only[PyData.depth,PyData.depthAll]
 omega
theorem Ma{K:W.Frag}{cs:List bK}(hc:aW cs=true){M:Mk}(h:cJ cs M){H:Hp}{p:Addr}(hm:gY H p M):RD K H (.ref p) (Cm M):=by
 obtain⟨o,c,ep,⟨ws,eo,hws⟩,k,v,ec,ek,ev⟩:=hm
 exact .tup (cA.of ep) (.cons (.str _) (.cons (.int _) (.cons (.lst (bc.of eo) (Ed hws)) (.cons (.str _) (.cons (.tup (cA.of ec) (.cons (.str _) (.cons (.tup (cA.of ek) (.cons (.lst (bc.of ev) (MN (h.Xf hc).1)) (.cons (.int _) .nil))) .nil))) .nil)))))
def Ii:Sp:=λvs H Q _=>∃(f p:Addr) (M:Mk) (cs:List bK),vs=[.ref f,.ref p]/\gY H f M/\gY H p M/\aW cs=true/\cJ cs M/\Q (.bl true) H
theorem gZ(T:Txt K mg):Def P w K mg base true 2 "_law_read_right" ["_law_found","_law_mark_here"] Ii:=by
 refine rT T (λvs H Q E h=>by obtain⟨f,p,M,cs,rfl,_⟩:=h;rfl) (λf' cdv A outer s H vs Q E hr h=>?_)
 obtain⟨f,p,M,cs,rfl,⟨o,c,ef,hO,k,v,ec,ek,ev⟩,⟨o2,c2,ep,hO2,k2,v2,ec2,ek2,ev2⟩,hc,hM,q⟩:=h
 have nd:=jD.nd
 have n1:=T.eF
 have n2:=T.zF
 have n3:=T.jC
 have n5:=T.Wh
 have n6:=T.Kh
 have hu:_+64<cLine:=hr.units
 have hsz:sizeLine=16777216:=sizeLine_eq
 have D1:Def P w K mg base true 1 "_law_is_whole" ["_law_found",W0] zc:=je T
 have D2:Def P w K mg base true 1 "_law_same" ["_law_found",W0] (Nb K):=nZ T
 obtain⟨ws,eo,hws⟩:=id hO
 obtain⟨ws2,eo2,aoX⟩:=id hO2
 have sf:cA K H f [.str (cC M.living),.int M.moment,.ref o,.str M.sieve,.ref c]:=cA.of ef
 have sp:cA K H p [.str (cC M.living),.int M.moment,.ref o2,.str M.sieve,.ref c2]:=cA.of ep
 have sc:cA K H c [.str (dN M.cut.ahead),.ref k]:=cA.of ec
 have sc2:cA K H c2 [.str (dN M.cut.ahead),.ref k2]:=cA.of ec2
 have sk:cA K H k [.ref v,.int M.cut.row]:=cA.of ek
 have sk2:cA K H k2 [.ref v2,.int M.cut.row]:=cA.of ek2
 refine aj (bY ?_)
 walk_at "ex"
 refine ik ef ?_
 walk_at "ex"
 refine Ck (.inr sf) ?_
 walk_at "ex"
 refine Hg (λh=>absurd rfl h) (λ_=>?_)
 walk_at "ex"
 refine bx sf (i:=2) rfl ?_
 walk_at "ex"
 refine rZ eo ?_
 walk_at "ex"
 refine aM (aj (bY ?_))
 walk_at "ex"
 refine bx sf (i:=0) rfl ?_
 walk_at "ex"
 refine bx sp (i:=0) rfl ?_
 walk_at "ex"
 refine Hg (λh=>absurd rfl h) (λ_=>?_)
 walk_at "ex"
 refine bx sf (i:=1) rfl ?_
 walk_at "ex"
 refine bx sp (i:=1) rfl ?_
 walk_at "ex"
 refine⟨_,rfl,?_⟩
 walk_at "ex"
 refine bx sf (i:=3) rfl ?_
 walk_at "ex"
 refine bx sp (i:=3) rfl ?_
 walk_at "ex"
 refine Hg (λh=>absurd rfl h) (λ_=>?_)
 refine aM (aj (FN (by walk_at "po") (by rfl) (by intro _;rfl) ?_))
 walk_at "ex"
 refine bx sf (i:=2) rfl ?_
 refine⟨o,ws,rfl,bc.of eo,λi σ H'=>(∃o2,σ=[some (.ref f),some (.ref p),o2,none])/\H'=H,⟨⟨none,rfl⟩,rfl⟩,λi σ' H' hi hP=>by rw[hP.2];exact bc.of eo,λi x σ' H' hx hP=>?_,λσ' H' hP=>?_⟩
 .obtain⟨⟨o3,rfl⟩,rfl⟩:=hP
  obtain⟨oo,hoo,t,rfl,ht⟩:=hws.get hx
  have st:cA K H' t [.str oo.1,.bl oo.2]:=cA.of ht
  refine aJ nd (by rfl) (.inl rfl) (.inl rfl) ?_
  refine aA (bY ?_)
  walk_at "ex"
  refine ik ht ?_
  walk_at "ex"
  refine Ck (.inr st) ?_
  walk_at "ex"
  refine Hg (λh=>absurd rfl h) (λ_=>?_)
  walk_at "ex"
  refine bx st (i:=1) rfl ?_
  walk_at "ex"
  exact aM ⟨⟨_,rfl⟩,rfl⟩
 obtain⟨⟨o3,rfl⟩,rfl⟩:=hP
 walk_at "A"
 refine bx sf (i:=4) rfl ?_
 refine aj (bY ?_)
 walk_at "ex"
 refine bx sf (i:=2) rfl ?_
 walk_at "ex"
 refine bx sp (i:=2) rfl ?_
 have acK:=yN (hM.af6 hc)
 refine YB hu (d:=.list (M.os.map uT)) (d':=.list (M.os.map uT)) (.lst (bc.of eo) (Ed hws)) (.lst (bc.of eo2) (Ed aoX)) acK acK (UG M.os) ?_
 rw[SeqAt.eqv_refl _ acK]
 walk_at "ex"
 refine ik ec ?_
 walk_at "ex"
 refine Ck (.inr sc) ?_
 walk_at "ex"
 refine Hg (λh=>absurd rfl h) (λ_=>?_)
 walk_at "ex"
 refine bx sc (i:=0) rfl ?_
 walk_at "ex"
 refine bx sp (i:=4) rfl ?_
 walk_at "ex"
 refine bx sc2 (i:=0) rfl ?_
 walk_at "ex"
 refine Hg (λh=>absurd rfl h) (λ_=>?_)
 refine aM (aj (bY ?_))
 walk_at "ex"
 refine bx sc (i:=1) rfl ?_
 walk_at "ex"
 refine ik ek ?_
 walk_at "ex"
 refine bx sc (i:=1) rfl ?_
 walk_at "ex"
 refine Ck (.inr sk) ?_
 walk_at "ex"
 refine Hg (λh=>absurd rfl h) (λ_=>?_)
 refine aM (aA (bj ?_))
 walk_at "ex"
 refine bx sc (i:=1) rfl ?_
 walk_at "ex"
 refine bx sk (i:=0) rfl ?_
 walk_at "ex"
 refine bx sp (i:=4) rfl ?_
 walk_at "ex"
 refine bx sc2 (i:=1) rfl ?_
 walk_at "ex"
 refine bx sk2 (i:=0) rfl ?_
 walk_at "ex"
 refine⟨v,v2,M.cut.xs,rfl,ev,ev2,by have :=hM.xsl;omega,(hM.Xf hc).2.2.2,?_⟩
 walk_at "ex"
 refine bx sc (i:=1) rfl ?_
 walk_at "ex"
 refine bx sk (i:=1) rfl ?_
 walk_at "ex"
 refine bx sp (i:=4) rfl ?_
 walk_at "ex"
 refine bx sc2 (i:=1) rfl ?_
 walk_at "ex"
 refine bx sk2 (i:=1) rfl ?_
 walk_at "ex"
 exact⟨_,rfl,q⟩
theorem ZZ{X:Cx}{H:Hp}{Q:VK}{a b:Addr}{xs ys:List V}(h1:cA X.K H a xs)(h2:cA X.K H b ys)(n1:xs≠[])(n2:ys≠[])(hz:xs.length+ys.length≤sizeLine)(q:∀p,H p=none->Q (.ref p) (upd H p (.tup (xs++ys)))):OP X (binaryOp .Add) (.ref a) (.ref b) H Q:=
 gA W2 ⟨a,b,xs,ys,rfl,rfl,h1,h2,n1,hz,λe=>absurd e n2,λ_=>q⟩
theorem adt(T:Txt K mg){f:Addr}{fd:FuncData}(F:gj K "law" "law" tK f fd):wk P w K mg base (Dd P w) true 70 f fd ["_law_script"] (YC K):=by
 refine MP F U4 (λvs H Q E h=>by obtain⟨a,ns,rfl,_⟩:=h;rfl) (λcdv A outer s H vs Q E hr h=>?_)
 obtain⟨a,ns,rfl,hS,hl,q⟩:=h
 have nd:=U4.nd
 have n1:=T.jt
 have n2:=T.eF
 have n3:=T.zF
 have n4:=T.nM
 have hu:_+64<cLine:=hr.units
 have hsz:sizeLine=16777216:=sizeLine_eq
 have D0:Def P w K mg base true 1 "_law_draw" ["_law_script","_law_k","_law_many"] (kO K):=cD T
 have D1:Def P w K mg base true 2 "_law_columns" ["_law_script","_law_base","_law_most"] (K5 K):=jB T
 have D2:Def P w K mg base true 5 "_law_mark" ["_law_script","_law_base","_law_columns_here"] (K6 K):=oN T
 have D3:Def P w K mg base true 4 "_law_long_sieve" ["_law_script","_law_base","_law_columns_here"] (uF K 60 15 20000):=il T
 have D4:Def P w K mg base true 1 "_law_kept" ["_law_mark_here"] Mj:=oW T
 have D5:Def P w K mg base true 4 "mark_text" ["mark"] yQ:=oM T
 have D6:Def P w K mg base true 2 "_law_body" ["_law_mark_here"] Lj:=nW T
 have D7:Def P w K mg base true 1 "_law_checked" ["_law_body_here"] Br:=jK T
 have D8:Def P w K mg base true 52 "read_mark" ["columns","text"] Cd:=oU T
 have D9:Def P w K mg base true 2 "_law_read_right" ["_law_found","_law_mark_here"] Ii:=gZ T
 have loop:∀(c m p0 p1:Addr) (M0 M1:Mk) (cs:List bK) (H1:Hp),ao H H1->gO H1 c cs->aW cs=true->H1 m=some (.lst [.ref p0,.ref p1])->gY H1 p0 M0->gY H1 p1 M1->cJ cs M0->cJ cs M1->
   lz (w6 true P w K mg base Yr "law" (aa tK) f cdv A outer s H E) ((aq tK).drop 3) {nx:=λ_ H'=>Q .non H',rt:=Q} [some (.ref a),some (.ref c),some (.ref m),none,none,none,none,none] H1:=by
  intro c m p0 p1 M0 M1 cs H1 gh hC hok em hm0 hm1 hg0 hg1
  refine aj ?_
  refine pI (by walk_at "po") (by rfl) (by rfl) n1 (by rfl) ?_
  walk_at "go"
  refine⟨by omega,by omega,λi σ H'=>(∃o3 o4 o5 o6 o7,σ=[some (.ref a),some (.ref c),some (.ref m),o3,o4,o5,o6,o7])/\ao H1 H',⟨⟨_,_,_,_,_,rfl⟩,ao.refl _⟩,λi σ H' hi hP=>?_,λσ H' hP=>?_⟩
  rotate_left
  .obtain⟨⟨o3,o4,o5,o6,o7,rfl⟩,sm⟩:=hP
   refine aA (bj ?_)
   walk_at "ex"
   exact q _
  obtain⟨⟨o3,o4,o5,o6,o7,rfl⟩,sm⟩:=hP
  have hi4:i<4:=by simpa using hi
  refine aJ nd (by rfl) (.inl rfl) (.inl rfl) ?_
  walk_at "A"
  obtain⟨pm,M,epm,hm,hg⟩:∃(pm:Addr) (M:Mk),n8 [V.ref p0,.ref p1] ((i:Int) % 2)=some (.ref pm)/\gY H1 pm M/\cJ cs M:=by
   have hd:(i:Int) % 2=0\/(i:Int) % 2=1:=by omega
   rcases hd with e |e<;>rw[e]
   .exact⟨p0,M0,rfl,hm0,hg0⟩
   .exact⟨p1,M1,rfl,hm1,hg1⟩
  refine aQ (bc.of (sm _ _ em)) epm ?_
  have hmH:=hm.same sm
  walk_at "A"
  refine⟨pm,M,rfl,hmH,by have :=hg.len;omega,by have :=hg.xsl;omega,λr o1 H2 s2 ho1 hr1 hr2=>?_⟩
  have hm2:=hmH.same s2
  walk_at "A"
  refine⟨r,M,cs,rfl,hr1,hok,hg,λH3 s3=>?_⟩
  have hm3:=hm2.same s3
  refine aj (bY ?_)
  walk_at "ex"
  refine⟨pm,M,cs,rfl,hm3,hok,hg,λH4 s4=>?_⟩
  walk_at "ex"
  refine⟨cF M,rfl,by have :=(sJ hok hg).2;omega,rR hok hg,λH5 s5=>?_⟩
  rw[show cF M++Str.ofString "."++ig (bZ (cF M).cps.toList)=oV M from rfl]
  have s45:=s4.trans s5
  have hr5:=(hr1.same s3).same s45
  have hm5:=hm3.same s45
  have ae7:=Tz hok hg
  generalize hT:oV M=tx
  walk_at "ex"
  refine Hg (λh=>absurd rfl h) (λ_=>?_)
  walk_at "ex"
  refine YB hu (d:=Cm M) (d':=Cm M) (Ma hok hg hr5) (Ma hok hg hm5) ae7 ae7 (U8 hok hg) ?_
  rw[SeqAt.eqv_refl _ ae7]
  walk_at "ex"
  have Ik:=((sm.trans s2).trans s3).trans s45
  obtain⟨cvs,ec,aoA⟩:=hC.same Ik
  refine aM (aj ?_)
  walk_at "s"
  walk_at "ex"
  refine Iw (.inl (bc.of ec)) λcl hcl=>?_
  have s6:ao H5 (upd H5 cl (.lst cvs)):=ao.upd hcl
  have e6:(upd H5 cl (.lst cvs)) cl=some (.lst cvs):=ak
  generalize upd H5 cl (.lst cvs)=H6 at s6 e6⊢
  walk_at "ex"
  have sm6:=Ik.trans s6
  refine⟨cl,M,cs,by rw[hT],⟨cvs,e6,aoA.imp λv c x=>x.same s6⟩,hok,hg,λfp o cc k v H7 s7 ef ho hO ecc ek hv ev hov=>?_⟩
  have hm7:=(hm5.same s6).same s7
  refine aj (bY ?_)
  walk_at "ex"
  refine⟨fp,pm,M,cs,rfl,⟨o,cc,ef,hO,k,v,ecc,ek,ev⟩,hm7,hok,hg,?_⟩
  walk_at "ex"
  have sm7:=sm6.trans s7
  obtain⟨ws,eo,hws⟩:=hO
  have hwl:=hws.len
  have hol:=hg.len
  have hxl:=hg.xsl
  obtain⟨c1,er⟩:=hr2
  have er7:=(s3.trans (s45.trans (s6.trans s7))) _ _ er
  have aui:∃xs,H7 o1=some (.lst xs):=by
   obtain⟨o',c',e1,⟨xs,e2,_⟩,_⟩:=(hr5.same s6).same s7
   rw[er7]at e1
   injection e1 with e1
   injection e1 with e1
   injection e1 with _ e1
   injection e1 with _ e1
   injection e1 with e1 _
   injection e1 with e1
   subst e1
   exact⟨xs,e2⟩
  obtain⟨xs1,eo1⟩:=aui
  have no:H1 o=none:=sm6.free ho
  have nv:H1 v=none:=sm6.free hv
  have no1:H1 o1=none:=sm.free ho1
  have aps:o1≠o:=λe=>by
   obtain⟨o',c',e1,⟨xs,e2,_⟩,_⟩:=hr5.same s6
   have er6:=(s3.trans (s45.trans s6)) _ _ er
   rw[er6]at e1
   injection e1 with e1
   injection e1 with e1
   injection e1 with _ e1
   injection e1 with _ e1
   injection e1 with e1 _
   injection e1 with e1
   rw[<-e1,e]at e2
   rw[e2]at ho
   cases ho
  have aod:o1≠v:=λe=>by
   obtain⟨o',c',e1,⟨xs,e2,_⟩,_⟩:=hr5.same s6
   have er6:=(s3.trans (s45.trans s6)) _ _ er
   rw[er6]at e1
   injection e1 with e1
   injection e1 with e1
   injection e1 with _ e1
   injection e1 with _ e1
   injection e1 with e1 _
   injection e1 with e1
   rw[<-e1,e]at e2
   rw[e2]at hv
   cases hv
  refine aM (aj (gB (by rfl) (jf PySem.F.plainAttrs_list PySem.F.slot_list_append PySem.F.type_list_append (by rfl) (by rfl) (by rfl) (by rfl) (by rfl) ?_)))
  walk_at "ex"
  refine bx (cA.of ef) (i:=2) rfl ?_
  refine⟨.inl ⟨rfl,_,bc.of eo⟩,?_⟩
  walk_at "ex"
  refine⟨by show 2≤sizeLine;omega,λtq htq=>?_⟩
  have s8:ao H7 (upd H7 tq (.tup [.str (Str.ofString "x"),.bl true])):=ao.upd htq
  generalize upd H7 tq (.tup [.str (Str.ofString "x"),.bl true])=H8 at s8⊢
  walk_at "ex"
  refine lH gK ⟨o,ws,_,rfl,rfl,s8 _ _ eo,by omega,?_⟩
  have Wy:∀b ys,H8 b=some (.tup ys)->(upd H8 o (.lst (ws++[.ref tq]))) b=some (.tup ys):=λb ys e=>by
   rw[az (λz=>by rw[z,s8 _ _ eo]at e;cases e)]
   exact e
  have ef9:=Wy _ _ (s8 _ _ ef)
  have ec9:=Wy _ _ (s8 _ _ ecc)
  have ek9:=Wy _ _ (s8 _ _ ek)
  have er9:=Wy _ _ (s8 _ _ er7)
  have ev9:(upd H8 o (.lst (ws++[.ref tq]))) v=some (.lst M.cut.xs):=by rw[az (Ne.symm hov)];exact s8 _ _ ev
  have ajc:(upd H8 o (.lst (ws++[.ref tq]))) o1=some (.lst xs1):=by rw[az aps];exact s8 _ _ eo1
  have sm9:ao H1 (upd H8 o (.lst (ws++[.ref tq]))):=λb u e=>by
   rw[az (au e no)]
   exact s8 _ _ (sm7 _ _ e)
  generalize upd H8 o (.lst (ws++[.ref tq]))=H9 at ef9 ec9 ek9 er9 ev9 ajc sm9⊢
  refine aj (gB (by rfl) (jf PySem.F.plainAttrs_list PySem.F.slot_list_append PySem.F.type_list_append (by rfl) (by rfl) (by rfl) (by rfl) (by rfl) ?_))
  walk_at "ex"
  refine bx (cA.of ef9) (i:=4) rfl ?_
  walk_at "ex"
  refine bx (cA.of ec9) (i:=1) rfl ?_
  walk_at "ex"
  refine bx (cA.of ek9) (i:=0) rfl ?_
  refine⟨.inl ⟨rfl,_,bc.of ev9⟩,?_⟩
  walk_at "ex"
  refine lH gK ⟨v,_,_,rfl,rfl,ev9,by omega,?_⟩
  have ajb:(upd H9 v (.lst (M.cut.xs++[.int 7]))) r=some (.tup [.str (cC M.living),.int M.moment,.ref o1,.str M.sieve,.ref c1]):=by
   rw[az (λz=>by rw[z,ev9]at er9;cases er9)]
   exact er9
  have aca:(upd H9 v (.lst (M.cut.xs++[.int 7]))) o1=some (.lst xs1):=by rw[az aod];exact ajc
  have agt:ao H1 (upd H9 v (.lst (M.cut.xs++[.int 7]))):=λb u e=>by
   rw[az (au e nv)]
   exact sm9 _ _ e
  generalize upd H9 v (.lst (M.cut.xs++[.int 7]))=H10 at ajb aca agt⊢
  refine aA (gB (by rfl) (aec PySem.F.plainAttrs_list PySem.F.slot_list_clear PySem.F.type_list_clear (by rfl) (by rfl) ?_))
  walk_at "ex"
  refine bx (cA.of ajb) (i:=2) rfl ?_
  refine⟨.inl ⟨rfl,_,bc.of aca⟩,?_⟩
  refine lH R5 ⟨o1,_,rfl,rfl,aca,?_⟩
  refine⟨⟨_,_,_,_,_,rfl⟩,λb u e=>?_⟩
  rw[az (au e no1)]
  exact agt _ _ e
 walk_at "A"
 refine⟨a,ns,300,6,rfl,hS,hl,by decide,by decide,by decide,by decide,λc cs H1 s1 hcn hC hok=>?_⟩
 walk_at "A"
 refine⟨a,c,ns,1000,cs,rfl,s1.seq hS,hl,by decide,by decide,hC,hok,λp0 M0 H2 s2 hm0 hg0=>?_⟩
 have s12:=s1.trans s2
 walk_at "ex"
 refine⟨a,c,ns,3000,cs,rfl,s12.seq hS,hl,by decide,by decide,hC.same s2,hok,λp1 M1 H3 s3 hm1 hg1=>?_⟩
 have s13:=s12.trans s3
 walk_at "ex"
 refine⟨by show 2≤sizeLine;omega,λm hmn=>?_⟩
 have s4:ao H3 (upd H3 m (.lst [.ref p0,.ref p1])):=ao.upd hmn
 have em:(upd H3 m (.lst [.ref p0,.ref p1])) m=some (.lst [.ref p0,.ref p1]):=ak
 have mn:H m=none:=s13.free hmn
 generalize upd H3 m (.lst [.ref p0,.ref p1])=H4 at s4 em⊢
 have ZM:=s13.trans s4
 have hC4:=(hC.same s2).same (s3.trans s4)
 have am7:=hm0.same (s3.trans s4)
 have alT:=hm1.same s4
 refine aj (bY ?_)
 walk_at "ex"
 refine⟨a,ns,1,8,rfl,ZM.seq hS,hl,by decide,by decide,by decide,?_⟩
 walk_at "ex"
 refine gm (λ_=>?_) (λ_=>?_)
 .obtain⟨o1,c1,e13,hO1,hK1⟩:=id hm1
  have e1:=s4 _ _ e13
  have sq1:cA K H4 p1 [.str (cC M1.living),.int M1.moment,.ref o1,.str M1.sieve,.ref c1]:=cA.of e1
  refine aA (V1 (by rfl) (by rfl) (by rfl) (by intro _;rfl) ?_)
  walk_at "ex"
  refine aQ (bc.of em) (i:=1) rfl ?_
  walk_at "ex"
  refine afU sq1 (by show ¬(_/\(3:Nat)=5);omega) λt1 ht1=>?_
  have s5:ao H4 (upd H4 t1 (.tup [.str (cC M1.living),.int M1.moment,.ref o1])):=ao.upd ht1
  have e5:(upd H4 t1 (.tup [.str (cC M1.living),.int M1.moment,.ref o1])) t1=some (.tup [.str (cC M1.living),.int M1.moment,.ref o1]):=ak
  change EV _ _ _ (upd H4 t1 (.tup [.str (cC M1.living),.int M1.moment,.ref o1])) _
  generalize upd H4 t1 (.tup [.str (cC M1.living),.int M1.moment,.ref o1])=H5 at s5 e5⊢
  walk_at "ex"
  refine⟨a,c,ns,5000,cs,rfl,(ZM.trans s5).seq hS,hl,by decide,by decide,hC4.same s5,hok,λz H6 s6 hz=>?_⟩
  obtain⟨z1,z2,z3,z4⟩:=hz.good hok (by omega) (by omega)
  have s56:=s5.trans s6
  walk_at "ex"
  refine aQ (bc.of (s56 _ _ em)) (i:=1) rfl ?_
  walk_at "ex"
  refine bx (cA.of (s56 _ _ e1)) (i:=4) rfl ?_
  walk_at "ex"
  refine⟨by show 2≤sizeLine;omega,λt2 ht2=>?_⟩
  have s7:ao H6 (upd H6 t2 (.tup [.str z,.ref c1])):=ao.upd ht2
  have e7:(upd H6 t2 (.tup [.str z,.ref c1])) t2=some (.tup [.str z,.ref c1]):=ak
  generalize upd H6 t2 (.tup [.str z,.ref c1])=H7 at s7 e7⊢
  refine ZZ (cA.of ((s6.trans s7) _ _ e5)) (cA.of e7) (by simp) (by simp) (by show 5≤sizeLine;omega) λp2 hp2=>?_
  have s8:ao H7 (upd H7 p2 (.tup [.str (cC M1.living),.int M1.moment,.ref o1,.str z,.ref c1])):=ao.upd hp2
  have e8:(upd H7 p2 (.tup [.str (cC M1.living),.int M1.moment,.ref o1,.str z,.ref c1])) p2=some (.tup [.str (cC M1.living),.int M1.moment,.ref o1,.str z,.ref c1]):=ak
  change EV _ _ _ (upd H7 p2 (.tup [.str (cC M1.living),.int M1.moment,.ref o1,.str z,.ref c1])) _
  generalize upd H7 p2 (.tup [.str (cC M1.living),.int M1.moment,.ref o1,.str z,.ref c1])=H8 at s8 e8⊢
  have s48:=s56.trans (s7.trans s8)
  have em8:=s48 _ _ em
  walk_at "ex"
  refine⟨m,_,1,1,rfl,rfl,em8,rfl,?_⟩
  have em9:(upd H8 m (.lst ([V.ref p0,V.ref p1].set 1 (.ref p2)))) m=some (.lst [.ref p0,.ref p2]):=ak
  have stay:∀b ys,H8 b=some (.tup ys)->(upd H8 m (.lst ([V.ref p0,V.ref p1].set 1 (.ref p2)))) b=some (.tup ys):=λb ys e=>by
   rw[az (λy=>by rw[y,em8]at e;cases e)]
   exact e
  have s3x:ao H3 (upd H8 m (.lst ([V.ref p0,V.ref p1].set 1 (.ref p2)))):=λb u e=>by
   rw[az (au e hmn)]
   exact s48 _ _ (s4 _ _ e)
  have s0x:ao H (upd H8 m (.lst ([V.ref p0,V.ref p1].set 1 (.ref p2)))):=λb u e=>by
   rw[az (au e mn)]
   exact s48 _ _ (ZM _ _ e)
  have e9:=stay _ _ e8
  exact loop c m p0 p2 M0 {M1 with sieve:=z} cs _ s0x (((hC.same s2).same s3).same s3x) hok em9 ((hm0.same s3).same s3x) ⟨o1,c1,e9,hO1.same s3x,hK1.same s3x⟩ hg0 ⟨hg1.moment,hg1.len,hg1.names,hg1.nodup,hg1.row,hg1.vals,z1,z2,z3,z4⟩
 .exact aM (loop c m p0 p1 M0 M1 cs H4 ZM hC4 hok em am7 alT hg0 hg1)
end
end K37
namespace PySem.W.Fast
def tw11390128810296882787:Unit:=()
def tw2224754288608845348:Unit:=()
def tw7230728052780652642:Unit:=()
def tw12828792192721270298:Unit:=()
def tw1014270299739930273:Unit:=()
def tw64445869004103258:Unit:=()
def tw5804177679434879012:Unit:=()
def tw3300551977323011098:Unit:=()
def tw8890477815046613841:Unit:=()
def tw16375349809405342482:Unit:=()
def tw14100723472004174086:Unit:=()
def tw3321543370696182055:Unit:=()
def tw16246777140634776708:Unit:=()
def tw15733021099071224022:Unit:=()
def tw13229358102214361427:Unit:=()
def tw10071022826620762800:Unit:=()
def tw13154041373489427452:Unit:=()
def tw3894383380516919109:Unit:=()
def tw11199192704359657580:Unit:=()
def tw1051512057438841462:Unit:=()
def tw12411175701527821952:Unit:=()
def tw13390162157520853415:Unit:=()
def tw12531750398381435357:Unit:=()
def tw4800746603056610599:Unit:=()
def tw5787243421067725387:Unit:=()
def tw1549523142139972329:Unit:=()
def tw2993370498530545310:Unit:=()
def tw44343635057926793:Unit:=()
def tw17869892490620065176:Unit:=()
def tw16598676727319257940:Unit:=()
def tw7888022201689031197:Unit:=()
def tw12208188677896807127:Unit:=()
def tw363185389691542166:Unit:=()
def tw12253375104887585344:Unit:=()
def tw11217410856791130450:Unit:=()
def tw16182509355927449941:Unit:=()
def tw6776687174394672062:Unit:=()
def tw13644426049798983135:Unit:=()
def tw4345636545739217958:Unit:=()
def tw1698752620253435769:Unit:=()
def tw13639999187672988959:Unit:=()
def tw3933952448969413486:Unit:=()
def tw1590991896472061936:Unit:=()
def tw13643165889334766066:Unit:=()
def tw13302163747646844121:Unit:=()
def tw7954625215321447728:Unit:=()
def tw8140346576530187293:Unit:=()
def tw17910176721342014805:Unit:=()
def tw1580433361048899874:Unit:=()
def tw14071572307600536715:Unit:=()
def tw7135360279685188127:Unit:=()
def tw9094093910742111360:Unit:=()
def tw12590208362664554116:Unit:=()
def tw9290667232292584547:Unit:=()
def tw870011099016537673:Unit:=()
def tw7130577888757938174:Unit:=()
def tw1764163364479469766:Unit:=()
def tw1995679119987786399:Unit:=()
def tw9517460352789737473:Unit:=()
def tw4701621921381919218:Unit:=()
def tw2209153489571064024:Unit:=()
def tw13155278006282587039:Unit:=()
def tw18263837212620793996:Unit:=()
def tw6611703248823911201:Unit:=()
def tw6440420647381582768:Unit:=()
def tw7617850448034857065:Unit:=()
def tw9116820716881923165:Unit:=()
def tw1038718420452313789:Unit:=()
def tw14012289215005346689:Unit:=()
def tw3728621967854912899:Unit:=()
def tw14719896356047765869:Unit:=()
def tw383191688585472349:Unit:=()
def tw17650879457067461524:Unit:=()
def tw4021837380701314961:Unit:=()
def tw17897122879856754299:Unit:=()
def tw9104070839880882950:Unit:=()
def tw13851927047340606439:Unit:=()
def tw2602205337701170334:Unit:=()
def tw15729248588427167330:Unit:=()
def tw10566509831125144626:Unit:=()
def tw12435522806338521398:Unit:=()
def tw7696121430252731062:Unit:=()
def tw12605623597399635658:Unit:=()
def tw13767583104889897272:Unit:=()
def tw17265103276226187987:Unit:=()
def tw4514016393687371165:Unit:=()
def tw5324341262353912315:Unit:=()
def tw14064392909875366579:Unit:=()
def tw4445325823957941388:Unit:=()
def tw6750350097377943116:Unit:=()
def tw14698479703481997120:Unit:=()
def tw8965573877317763847:Unit:=()
def tw11847308389038696748:Unit:=()
def tw15916741753230872405:Unit:=()
def tw3863088014931903188:Unit:=()
def tw4711431675794234592:Unit:=()
def tw2232126564964816124:Unit:=()
def tw14887761957295223649:Unit:=()
def tw16446486125871957568:Unit:=()
def tw3553058985437662387:Unit:=()
def tw1794104682811640958:Unit:=()
def tw13737355130538264736:Unit:=()
def tw13199205311616215237:Unit:=()
def tw2270722534821929569:Unit:=()
def tw6993275164923896745:Unit:=()
def tw273930659914323507:Unit:=()
def tw18075444168821312718:Unit:=()
def tw7048163562449968650:Unit:=()
def tw2271732583195554711:Unit:=()
def tw13194482586202159515:Unit:=()
def tw5697230992050586674:Unit:=()
def tw13786576662580786365:Unit:=()
def tw17838569386542694288:Unit:=()
def tw5941358798524811951:Unit:=()
def tw14882709076259882486:Unit:=()
def tw5562971094509809772:Unit:=()
def tw14543309272782666140:Unit:=()
def tw2062708231128497466:Unit:=()
def tw9309854962252308019:Unit:=()
def tw11832715936536612126:Unit:=()
def tw5552945682836658626:Unit:=()
def tw13425993028597823964:Unit:=()
def tw9310321786762231176:Unit:=()
def tw17543620589552210227:Unit:=()
def tw6921541060710178517:Unit:=()
def tw12644961754655109525:Unit:=()
def tw10545340950083929530:Unit:=()
def tw13926546494180916926:Unit:=()
def tw951115435581061166:Unit:=()
def tw12855020463719058352:Unit:=()
def tw9025109026958683829:Unit:=()
def tw4085809069661964731:Unit:=()
def tw3789964382188158845:Unit:=()
def tw15513693351128957341:Unit:=()
def tw12718227682562598607:Unit:=()
def tw13298598157770403871:Unit:=()
def tw12331372287396713897:Unit:=()
def tw6845806318298542944:Unit:=()
def tw15958926407407105788:Unit:=()
def tw15184434481018825641:Unit:=()
def tw11944358859746418306:Unit:=()
def tw2997413072554555117:Unit:=()
def tw425263478656505676:Unit:=()
def tw15976201088692353349:Unit:=()
def tw15064274195249519519:Unit:=()
def tw6362433998757942324:Unit:=()
def tw9911286255773889263:Unit:=()
def tw4730072670937807334:Unit:=()
def tw10155854883209519375:Unit:=()
def tw3148330607502628477:Unit:=()
def tw18318868907518385283:Unit:=()
def tw3151324736883813162:Unit:=()
def tw7681286267634595774:Unit:=()
def tw12561304086816458:Unit:=()
def tw697477542266692128:Unit:=()
def tw14870173179414454591:Unit:=()
def tw6153903373718226952:Unit:=()
def tw14757570414119534640:Unit:=()
def tw6242605718607096560:Unit:=()
def tw3958783519949129257:Unit:=()
def tw15046276871126983922:Unit:=()
def tw6238234175036631586:Unit:=()
def tw14198062065541695310:Unit:=()
def tw18347220242064691661:Unit:=()
def tw17199421390669917408:Unit:=()
def tw2876913530323229169:Unit:=()
def tw1813881679630200803:Unit:=()
def tw10308563441186333289:Unit:=()
def tw8004312253099800142:Unit:=()
def tw13928330057017176768:Unit:=()
def tw14850074793864893945:Unit:=()
def tw15533045332412011379:Unit:=()
def tw14399909519363437609:Unit:=()
def tw12710816886891235236:Unit:=()
def tw964847252703339959:Unit:=()
def tw85572325795091685:Unit:=()
def tw17092308077292401591:Unit:=()
def tw10677113091378406752:Unit:=()
def tw14062677514687742780:Unit:=()
def tw17909083246980898139:Unit:=()
def tw7344928160244279060:Unit:=()
def tw16814369575446632747:Unit:=()
def tw6030661134334521398:Unit:=()
def tw14270648820377737937:Unit:=()
def tw9993086776075216651:Unit:=()
def tw12001065644271666290:Unit:=()
def tw11137021283130504356:Unit:=()
def tw5524619352088222008:Unit:=()
def tw11541656958996717421:Unit:=()
def tw7749666948149323067:Unit:=()
def tw14763287328593017834:Unit:=()
def tw483063008658554786:Unit:=()
def tw7708973002524331931:Unit:=()
def tw8867776737523959657:Unit:=()
def tw5616981325497157490:Unit:=()
def tw17617512863574297633:Unit:=()
def tw16268187113886505803:Unit:=()
def tw18099761189272276032:Unit:=()
def tw16898335490934117274:Unit:=()
def tw16455636280713873063:Unit:=()
def tw13477637008479194952:Unit:=()
def tw8542540813188146744:Unit:=()
def tw9281775847638113805:Unit:=()
def tw3296548484139857628:Unit:=()
def tw14143044879994498946:Unit:=()
def tw8071672128355560645:Unit:=()
def tw3706397665884014350:Unit:=()
def tw1235853914884297138:Unit:=()
def tw12618520098960777776:Unit:=()
def tw14990033917456465212:Unit:=()
def tw8130539251133343587:Unit:=()
def tw15608555370054276831:Unit:=()
def tw1493735736733997118:Unit:=()
def tw5173554876599837476:Unit:=()
def tw14995049449202909367:Unit:=()
def tw15164218466044148880:Unit:=()
def tw4965277375948087524:Unit:=()
def tw16721709507405516415:Unit:=()
def tw332467942205418782:Unit:=()
def tw6395628742385369948:Unit:=()
def tw3586458916769038401:Unit:=()
def tw5343837475352312065:Unit:=()
def tw1368157169953136918:Unit:=()
def tw13543246229004506724:Unit:=()
def tw16935862696950255266:Unit:=()
def tw2183355247333656451:Unit:=()
def tw11352649406211201141:Unit:=()
def tw12097923099912803592:Unit:=()
def tw13396550053928385891:Unit:=()
def tw8170516654524375797:Unit:=()
def tw13968838149442221871:Unit:=()
def tw6155633627485586339:Unit:=()
def tw4675445149904891977:Unit:=()
def tw11834456747821855280:Unit:=()
def tw15702078104073064866:Unit:=()
def tw4478173259902632373:Unit:=()
def tw8403794873097954908:Unit:=()
def tw6453326799192196904:Unit:=()
def tw16519133656303629984:Unit:=()
def tw9970548709953597983:Unit:=()
def tw7224775115995092418:Unit:=()
def tw6450446442042199782:Unit:=()
def tw8928263167613919754:Unit:=()
def tw7625824651326357963:Unit:=()
def tw2404908637111236856:Unit:=()
def tw4933815882978282198:Unit:=()
def tw11690267164233035060:Unit:=()
def tw2426947664138257589:Unit:=()
def tw3514625487227376396:Unit:=()
def tw17839791255087500799:Unit:=()
def tw4635152626874382562:Unit:=()
def tw541748028633488130:Unit:=()
def tw15075429926195969197:Unit:=()
def tw12865744649933490071:Unit:=()
def tw8126569901837377551:Unit:=()
def tw1630431159850948698:Unit:=()
def tw7601216275116609016:Unit:=()
def tw3043082416618414995:Unit:=()
def tw2697571126371455815:Unit:=()
def tw5069558126709856220:Unit:=()
def tw9684938678085427795:Unit:=()
def tw4975936901072082451:Unit:=()
def tw3006150776368334287:Unit:=()
def tw9239523454125359595:Unit:=()
def tw17844631757419818032:Unit:=()
def tw18121325217825133442:Unit:=()
def tw4955626335312027205:Unit:=()
def tw5958273689670710027:Unit:=()
def tw15727608542616890532:Unit:=()
def tw1172999537111734127:Unit:=()
def tw2264831765093691298:Unit:=()
def tw6642377781152893055:Unit:=()
def tw15208146982051701456:Unit:=()
def tw4293092380203074153:Unit:=()
def tw13427054287631197372:Unit:=()
def tw511146393297280672:Unit:=()
def tw10491795885823566989:Unit:=()
def tw12845034358829695987:Unit:=()
def tw1480197799301184325:Unit:=()
def tw6565304643201199915:Unit:=()
def tw10936758769623080867:Unit:=()
def tw7508054767710630254:Unit:=()
def tw13207107605434626130:Unit:=()
def tw17553281815931282110:Unit:=()
def tw1707848272079524897:Unit:=()
def tw2322081954139802928:Unit:=()
def tw14174519179757602416:Unit:=()
def tw13527281808078114294:Unit:=()
def tw6224638859713620087:Unit:=()
def tw10890900821757295764:Unit:=()
def tw13566559718515987622:Unit:=()
def tw12290372514713511058:Unit:=()
def tw142948843199697211:Unit:=()
def tw4099929907734509425:Unit:=()
def tw4809359987386363031:Unit:=()
def tw13705862674397161736:Unit:=()
def tw8702550313565806935:Unit:=()
def tw17839913633774616627:Unit:=()
def tw15242410326382126059:Unit:=()
def tw9082465111011005352:Unit:=()
def tw10957458624131141495:Unit:=()
def tw4598275676982560077:Unit:=()
def tw99839764342512769:Unit:=()
def tw14583752526501531507:Unit:=()
def tw6550008609727056605:Unit:=()
def tw7169494870089735499:Unit:=()
def tw935291734759618699:Unit:=()
def tw10597835084167581660:Unit:=()
def tw932592005955650636:Unit:=()
def tw16754161134300497952:Unit:=()
def tw8944016497798847518:Unit:=()
def tw309197535216078459:Unit:=()
def tw8038580191906144177:Unit:=()
def tw6594887305341676781:Unit:=()
def tw7967581537478063118:Unit:=()
def tw4395311079361909404:Unit:=()
def tw1424244447993814444:Unit:=()
def tw6152914061973539963:Unit:=()
def tw18344727758880033534:Unit:=()
def tw13000407708499665402:Unit:=()
def tw17314839369983766487:Unit:=()
def tw6747809318995531261:Unit:=()
def tw2719792295451136403:Unit:=()
def tw15216728404920858710:Unit:=()
def tw4293366983134565969:Unit:=()
def tw3006014625787839616:Unit:=()
def tw2916646660747647906:Unit:=()
def tw11800074833882677641:Unit:=()
def tw16554354562429495433:Unit:=()
def tw16503039295128942980:Unit:=()
def tw13652216938235957847:Unit:=()
def tw16873381477774865465:Unit:=()
def tw13883759068547753225:Unit:=()
def tw2558042114257350750:Unit:=()
def tw11734478319942347886:Unit:=()
def tw16191808528979853996:Unit:=()
def tw9269160088628407594:Unit:=()
def tw12006044204358165416:Unit:=()
def tw16952235952912771330:Unit:=()
def tw1016245902481650406:Unit:=()
def tw17746042921163160800:Unit:=()
def tw4255839420357590208:Unit:=()
def tw16446270835008723431:Unit:=()
def tw6372937800450999796:Unit:=()
def tw13394433049403422955:Unit:=()
def tw8954081567588989706:Unit:=()
def tw17345008960021962432:Unit:=()
def tw17559242999096066387:Unit:=()
def tw1536037172570141142:Unit:=()
def tw5875181444975066613:Unit:=()
def tw10555122823736276104:Unit:=()
def tw15004202063774364665:Unit:=()
def tw15266550205115123848:Unit:=()
def tw15485353461270015043:Unit:=()
def tw3241658098480823286:Unit:=()
def tw15981192067758716872:Unit:=()
def tw6083374540520694064:Unit:=()
def tw15448727184350062288:Unit:=()
def tw6031968406887338336:Unit:=()
def tw1470834876783010620:Unit:=()
def tw4782733546081158881:Unit:=()
def tw676819788393609019:Unit:=()
def tw6767148856452594984:Unit:=()
def tw4730967933814993946:Unit:=()
def tw3570869439411528069:Unit:=()
def tw964658832443240109:Unit:=()
def tw15880830021216819526:Unit:=()
def tw1464124172950141096:Unit:=()
def tw2058383751024577192:Unit:=()
def tw14284638925768990312:Unit:=()
def tw11707983927254827634:Unit:=()
def tw15609973740480550922:Unit:=()
def tw12498751023597855717:Unit:=()
def tw4615916264258639769:Unit:=()
def tw9311439874872720456:Unit:=()
def tw17216157080529695348:Unit:=()
def tw9770555907280860982:Unit:=()
def tw3657923461801710029:Unit:=()
def tw8407645680987992848:Unit:=()
def tw3155212091942099267:Unit:=()
def tw8766633396921808181:Unit:=()
def tw3053094239662849631:Unit:=()
def tw5509856880909011340:Unit:=()
def tw1423775624743805197:Unit:=()
def tw1402331602839343993:Unit:=()
def tw9107968769373736341:Unit:=()
def tw11666137611962043474:Unit:=()
def tw4332445372267398714:Unit:=()
def tw7710259022035741157:Unit:=()
def tw9475280761091001600:Unit:=()
def tw13349039061872534601:Unit:=()
def tw3085566428485789266:Unit:=()
def tw1908006479107167156:Unit:=()
def tw12614175052250571155:Unit:=()
def tw14154523247343073597:Unit:=()
def tw1124702732896425972:Unit:=()
def tw15488387357463836347:Unit:=()
def tw5843324798638092507:Unit:=()
def tw6224323542396714631:Unit:=()
def tw1876515834352194424:Unit:=()
def tw9856650260450415239:Unit:=()
def tw11714438625513818181:Unit:=()
def tw11523456361379796094:Unit:=()
def tw16654084659995846288:Unit:=()
def tw14740832677145723215:Unit:=()
def tw13704777180198215245:Unit:=()
def tw156527035929683590:Unit:=()
def tw6337273170581366320:Unit:=()
def tw1208913820700326514:Unit:=()
def tw4036356877675805731:Unit:=()
def tw12946166083073320436:Unit:=()
def tw10162157481893870585:Unit:=()
def tw17822830486531882934:Unit:=()
def tw17656003317154994840:Unit:=()
def tw5532333875712583893:Unit:=()
def tw3287644596801417118:Unit:=()
def tw12933692708230121708:Unit:=()
def tw17733996128271646350:Unit:=()
def tw11478649618373141589:Unit:=()
def tw4822753100363503022:Unit:=()
def tw10153244627482808835:Unit:=()
def tw8794098930387867822:Unit:=()
def tw11824493089770265170:Unit:=()
def tw7682389946361257045:Unit:=()
def tw10188505674590046558:Unit:=()
def tw11266447336786976471:Unit:=()
def tw2097867875161520397:Unit:=()
def tw9044064167342749498:Unit:=()
def tw18127723318415244129:Unit:=()
def tw4595927952528427248:Unit:=()
def tw14751236397784661325:Unit:=()
def tw13198566037482694712:Unit:=()
def tw10571797307610048003:Unit:=()
def tw10683116260282640773:Unit:=()
def tw7535904773478320565:Unit:=()
def tw3579973662011148947:Unit:=()
def tw6149200000644012608:Unit:=()
def tw1104692182939988046:Unit:=()
def tw4021679167600912250:Unit:=()
def tw13580319652492410913:Unit:=()
end PySem.W.Fast
namespace K37
open PySem L2 PyProof.Rows
theorem aay{K:W.Frag}{h:Heap}{mg:Str->Option Value}(X:K.In h)(G:h.Ns mainGlobals mg){f0 f1 f2 f3 f4 f5 f6 f7 f8 f9 f10 f11 f12 f13 f14 f15 f16 f17 f18 f19 f20 f21 f22 f23 f24 f25 f26 f27 f28 f29 f30 f31 f32 f33 f34 f35 f36 f37 f38 f39 f40 f41 f42 f43 f44 f45 f46 f47 f48 f49 f50 f51 f52 C0 C1 C2 C3 C4 C5 C6 C7 C8 C9 C10 C11 C12 C13 C14 C15 C16 fi0 fo0 fo1 J8 fo3 fo4 YX Yv fo7 fo8 fo9 Vu XR V0 NP Wd Wi:Addr}{od0 an0 od1 an1 od2 an2 od3 an3 od4 an4 od5 an5 od6 an6 od7 an7 od8 an8 od9 an9 avR alF awn asj asZ aqi apT apd auw asC at8 asU apn arw ass aot ape aol aqg arN amQ aqJ ar7 atx aqu alX apR au5 atj au3 avH aqX asQ auB arU atv asn atR am3 awi arW anl aqN ap8 anN akD akx aoI aoD arL ak7 awp amu als arH atf alx au0 aqQ anr anu asV ale aqI avp aun alg aqz anJ aqA aoF ao5 anE avE anG asI akY aur av2 aoZ apH asL arF awl asm anH auL aoe al2 alN arS arp auZ av3 av7 asa amt aln amh am5 amZ anS arK amv apO aoW atU anx ahu ahr ahz ag6 air ah2 agR ahJ aha ajp ajo ajx:Option Addr}{sl0 sl1 sl2 sl3 sl4 sl5 sl6 sl7 sl8 sl9 as3 arJ asz ao4 amm apC atX avk ami avu aoK ao0 akr aqZ aks auH apv ava anq aqv atE anp aqc amg aqt aqs akW ap3 avc apF aqb arM aqW anP ata aqn alE avD atp auD as5 apz ar8 aoq avS ali akq ari aru auq asB aqM ao6 avA ags aho aix aja agB agG:Array (Option Value)}{Z5 kV0 dc0 pm0 cd0 ct0 oc1 kV1 dc1 pm1 cd1 ct1 oc2 kV2 dc2 pm2 cd2 ct2 oc3 kV3 dc3 pm3 cd3 ct3 oc4 kV4 dc4 pm4 cd4 ct4 Wc kV5 dc5 pm5 cd5 ct5 XD kV6 dc6 pm6 cd6 ct6 oc7 kV7 dc7 pm7 cd7 ct7 oc8 kV8 dc8 pm8 cd8 ct8 oc9 kV9 dc9 pm9 cd9 ct9 Uj avq amI ark aiU asv QQ as6 arP ars ag0 apK RG anf amk alm aiZ ao9 Iv alC apl aoN ahA amE Qm ash awq aqY aje alG Va aov alo apg afV aqT akE akX aog arY ahk awm ar0 at6 avr au2 agn asx arI al5 asG au9 ajn atq asr aqS auM apP aiJ au8 alM avW asd atQ afY apW akN anY arO anj ain alU ank anO akR amb agq arA ar6 anM aoP awc ahl akU av9 arz ams alW ais auK apb amW aoT amF agJ asN aqx at9 akC awj aiH avj atJ auF alH al9 aii anB auI atO aqV auJ ahx anZ anz aoM am6 ave aiS aom auy amw am0 auQ ahG al4 awe avI atm auo ah6 apr asA aue alI auv ai4 auc alu avw apm avV ahI ap6 akM auj ap4 avx aiq arE apw anW anI alQ ajD avL ara avt aqy asJ agK ar9 aub amN av1 avh ajj akB av8 atB avY aqo ahe alh ant aow alL asF aid ao8 as9 arj asp aky aiG apI auz auR alR awr ag2 auO avz amS am8 avK aiA atY as7 arD ao3 atD ahh asb arf aro aup aqk ahK amj alr asw aqm asM agY anT aop amK ak6 alZ agx ak4 arh aus ap0 al1 af5 atz aoH ano amH aoC ajC ard ao7 amR av0 av5 agm akV as4 alf alb arZ ag7 aqB apa apG apQ au6 ahT atu avF arV avf aqp ahZ aqO aoR aud aof arC aiK apB ao2 aqe auu avG ajr aqh ama aoo alJ akF ahR anR asD amV amr asy agH arT aqa aoh amC anC af4 arq aoG asT avM aqP agk anc as8 ang aoY ar5 af1 amX at3 ald aqq ala ah0 akZ amJ aoi atG amA agg ap9 aob ak5 akP aoj ahE aqd ase apD amB awh ah4 art aiV agz aiY ahP Yh agE agV ai8 ajt agM Yt afZ agu ajv ah3 agT YD ajq ajz afX ah1 aij Yg ahB ahd ah7 ahg agZ YS aiR agi ahj aiP aim X7 afW:Value}{t0 t1 t2 t3 t4 t5 t6 t7 t8 t9 t10 t11 t12 t13 t14 t15 t16 t17 t18 t19 t20 t21 t22 t23 t24 t25 t26 t27 t28 t29 t30 t31 t32 t33 t34 t35 t36:Tok}
  (aq0:W.nsIn K mainGlobals "_wall"=some (some (.ref f0)))
  (lq0:K.lookup f0=some ⟨Z5,od0,.func (W.fnOf "_wall" "_wall" (aB ug) (aq ug) (aa ug) .none kV0 dc0 pm0 an0 cd0 ct0),sl0⟩)
  (cq0:W.codeIn K cd0 "_wall"=true)
  (kq0:W.keepIn K (.ref f0)=true)
  (aq1:W.nsIn K mainGlobals "check_of"=some (some (.ref f1)))
  (lq1:K.lookup f1=some ⟨oc1,od1,.func (W.fnOf "check_of" "check_of" (aB gH) (aq gH) (aa gH) .none kV1 dc1 pm1 an1 cd1 ct1),sl1⟩)
  (cq1:W.codeIn K cd1 "check_of"=true)
  (kq1:W.keepIn K (.ref f1)=true)
  (aq2:W.nsIn K mainGlobals "check_word"=some (some (.ref f2)))
  (lq2:K.lookup f2=some ⟨oc2,od2,.func (W.fnOf "check_word" "check_word" (aB dY) (aq dY) (aa dY) .none kV2 dc2 pm2 an2 cd2 ct2),sl2⟩)
  (cq2:W.codeIn K cd2 "check_word"=true)
  (kq2:W.keepIn K (.ref f2)=true)
  (aq3:W.nsIn K mainGlobals "made_of"=some (some (.ref f3)))
  (lq3:K.lookup f3=some ⟨oc3,od3,.func (W.fnOf "made_of" "made_of" (aB gJ) (aq gJ) (aa gJ) .none kV3 dc3 pm3 an3 cd3 ct3),sl3⟩)
  (cq3:W.codeIn K cd3 "made_of"=true)
  (kq3:W.keepIn K (.ref f3)=true)
  (aq4:W.nsIn K mainGlobals "is_text_value"=some (some (.ref f4)))
  (lq4:K.lookup f4=some ⟨oc4,od4,.func (W.fnOf "is_text_value" "is_text_value" (aB cG) (aq cG) (aa cG) .none kV4 dc4 pm4 an4 cd4 ct4),sl4⟩)
  (cq4:W.codeIn K cd4 "is_text_value"=true)
  (kq4:W.keepIn K (.ref f4)=true)
  (aq5:W.nsIn K mainGlobals "value_word"=some (some (.ref f5)))
  (lq5:K.lookup f5=some ⟨Wc,od5,.func (W.fnOf "value_word" "value_word" (aB eN) (aq eN) (aa eN) .none kV5 dc5 pm5 an5 cd5 ct5),sl5⟩)
  (cq5:W.codeIn K cd5 "value_word"=true)
  (kq5:W.keepIn K (.ref f5)=true)
  (aq6:W.nsIn K mainGlobals "are_figures"=some (some (.ref f6)))
  (lq6:K.lookup f6=some ⟨XD,od6,.func (W.fnOf "are_figures" "are_figures" (aB du) (aq du) (aa du) .none kV6 dc6 pm6 an6 cd6 ct6),sl6⟩)
  (cq6:W.codeIn K cd6 "are_figures"=true)
  (kq6:W.keepIn K (.ref f6)=true)
  (aq7:W.nsIn K mainGlobals "read_figures"=some (some (.ref f7)))
  (lq7:K.lookup f7=some ⟨oc7,od7,.func (W.fnOf "read_figures" "read_figures" (aB bN) (aq bN) (aa bN) .none kV7 dc7 pm7 an7 cd7 ct7),sl7⟩)
  (cq7:W.codeIn K cd7 "read_figures"=true)
  (kq7:W.keepIn K (.ref f7)=true)
  (aq8:W.nsIn K mainGlobals "read_number_word"=some (some (.ref f8)))
  (lq8:K.lookup f8=some ⟨oc8,od8,.func (W.fnOf "read_number_word" "read_number_word" (aB bA) (aq bA) (aa bA) .none kV8 dc8 pm8 an8 cd8 ct8),sl8⟩)
  (cq8:W.codeIn K cd8 "read_number_word"=true)
  (kq8:W.keepIn K (.ref f8)=true)
  (aq9:W.nsIn K mainGlobals "read_text_word"=some (some (.ref f9)))
  (lq9:K.lookup f9=some ⟨oc9,od9,.func (W.fnOf "read_text_word" "read_text_word" (aB bC) (aq bC) (aa bC) .none kV9 dc9 pm9 an9 cd9 ct9),sl9⟩)
  (cq9:W.codeIn K cd9 "read_text_word"=true)
  (kq9:W.keepIn K (.ref f9)=true)
  (aeQ:W.nsIn K mainGlobals "read_value"=some (some (.ref f10)))
  (aen:K.lookup f10=some ⟨Uj,avR,.func (W.fnOf "read_value" "read_value" (aB dR) (aq dR) (aa dR) .none avq amI ark alF aiU asv),as3⟩)
  (abm:W.codeIn K aiU "read_value"=true)
  (Y0:W.keepIn K (.ref f10)=true)
  (afm:W.nsIn K mainGlobals "read_values"=some (some (.ref f11)))
  (aeH:K.lookup f11=some ⟨QQ,awn,.func (W.fnOf "read_values" "read_values" (aB cO) (aq cO) (aa cO) .none as6 arP ars asj ag0 apK),arJ⟩)
  (afi:W.codeIn K ag0 "read_values"=true)
  (aap:W.keepIn K (.ref f11)=true)
  (aat:W.nsIn K mainGlobals "place_of"=some (some (.ref f12)))
  (afh:K.lookup f12=some ⟨RG,asZ,.func (W.fnOf "place_of" "place_of" (aB gC) (aq gC) (aa gC) .none anf amk alm aqi aiZ ao9),asz⟩)
  (aaI:W.codeIn K aiZ "place_of"=true)
  (aaN:W.keepIn K (.ref f12)=true)
  (acB:W.nsIn K mainGlobals "row_words"=some (some (.ref f13)))
  (abQ:K.lookup f13=some ⟨Iv,apT,.func (W.fnOf "row_words" "row_words" (aB dJ) (aq dJ) (aa dJ) .none alC apl aoN apd ahA amE),ao4⟩)
  (acX:W.codeIn K ahA "row_words"=true)
  (adk:W.keepIn K (.ref f13)=true)
  (adM:W.nsIn K mainGlobals "read_order_word"=some (some (.ref f14)))
  (ad3:K.lookup f14=some ⟨Qm,auw,.func (W.fnOf "read_order_word" "read_order_word" (aB bU) (aq bU) (aa bU) .none ash awq aqY asC aje alG),amm⟩)
  (acg:W.codeIn K aje "read_order_word"=true)
  (Zu:W.keepIn K (.ref f14)=true)
  (abR:W.nsIn K mainGlobals "read_order"=some (some (.ref f15)))
  (adE:K.lookup f15=some ⟨Va,at8,.func (W.fnOf "read_order" "read_order" (aB bO) (aq bO) (aa bO) .none aov alo apg asU afV aqT),apC⟩)
  (ZQ:W.codeIn K afV "read_order"=true)
  (aci:W.keepIn K (.ref f15)=true)
  (aaf:W.nsIn K mainGlobals "order_text"=some (some (.ref f16)))
  (Zk:K.lookup f16=some ⟨akE,apn,.func (W.fnOf "order_text" "order_text" (aB dj) (aq dj) (aa dj) .none akX aog arY arw ahk awm),atX⟩)
  (aep:W.codeIn K ahk "order_text"=true)
  (abJ:W.keepIn K (.ref f16)=true)
  (aa3:W.nsIn K mainGlobals "word_at"=some (some (.ref f17)))
  (ae4:K.lookup f17=some ⟨ar0,ass,.func (W.fnOf "word_at" "word_at" (aB dD) (aq dD) (aa dD) .none at6 avr au2 aot agn asx),avk⟩)
  (ace:W.codeIn K agn "word_at"=true)
  (adQ:W.keepIn K (.ref f17)=true)
  (ZP:W.nsIn K mainGlobals "text_between"=some (some (.ref f18)))
  (aaX:K.lookup f18=some ⟨arI,ape,.func (W.fnOf "text_between" "text_between" (aB cV) (aq cV) (aa cV) .none al5 asG au9 aol ajn atq),ami⟩)
  (ac7:W.codeIn K ajn "text_between"=true)
  (adI:W.keepIn K (.ref f18)=true)
  (aax:W.nsIn K mainGlobals "read_column"=some (some (.ref f19)))
  (ZD:K.lookup f19=some ⟨asr,aqg,.func (W.fnOf "read_column" "read_column" (aB dq) (aq dq) (aa dq) .none aqS auM apP arN aiJ au8),avu⟩)
  (abD:W.codeIn K aiJ "read_column"=true)
  (acU:W.keepIn K (.ref f19)=true)
  (adZ:W.nsIn K mainGlobals "read_word"=some (some (.ref f20)))
  (aaM:K.lookup f20=some ⟨alM,amQ,.func (W.fnOf "read_word" "read_word" (aB fG) (aq fG) (aa fG) .none avW asd atQ aqJ afY apW),aoK⟩)
  (Z4:W.codeIn K afY "read_word"=true)
  (aef:W.keepIn K (.ref f20)=true)
  (aa1:W.nsIn K mainGlobals "read_none"=some (some (.ref f21)))
  (ZJ:K.lookup f21=some ⟨akN,ar7,.func (W.fnOf "read_none" "read_none" (aB fW) (aq fW) (aa fW) .none anY arO anj atx ain alU),ao0⟩)
  (ae8:W.codeIn K ain "read_none"=true)
  (acY:W.keepIn K (.ref f21)=true)
  (Z8:W.nsIn K mainGlobals "read_of_value"=some (some (.ref f22)))
  (abG:K.lookup f22=some ⟨ank,aqu,.func (W.fnOf "read_of_value" "read_of_value" (aB cI) (aq cI) (aa cI) .none anO akR amb alX agq arA),akr⟩)
  (aaz:W.codeIn K agq "read_of_value"=true)
  (afa:W.keepIn K (.ref f22)=true)
  (afo:W.nsIn K mainGlobals "read_of_sieves"=some (some (.ref f23)))
  (ZG:K.lookup f23=some ⟨ar6,apR,.func (W.fnOf "read_of_sieves" "read_of_sieves" (aB b8) (aq b8) (aa b8) .none anM aoP awc au5 ahl akU),aqZ⟩)
  (acs:W.codeIn K ahl "read_of_sieves"=true)
  (adW:W.keepIn K (.ref f23)=true)
  (ade:W.nsIn K mainGlobals "read_part"=some (some (.ref f24)))
  (aaO:K.lookup f24=some ⟨av9,atj,.func (W.fnOf "read_part" "read_part" (aB fX) (aq fX) (aa fX) .none arz ams alW au3 ais auK),aks⟩)
  (Zo:W.codeIn K ais "read_part"=true)
  (afg:W.keepIn K (.ref f24)=true)
  (adS:W.nsIn K mainGlobals "read_sieve"=some (some (.ref f25)))
  (aaJ:K.lookup f25=some ⟨apb,avH,.func (W.fnOf "read_sieve" "read_sieve" (aB d7) (aq d7) (aa d7) .none amW aoT amF aqX agJ asN),auH⟩)
  (abo:W.codeIn K agJ "read_sieve"=true)
  (adC:W.keepIn K (.ref f25)=true)
  (abk:W.nsIn K mainGlobals "cut_text"=some (some (.ref f26)))
  (aaA:K.lookup f26=some ⟨aqx,asQ,.func (W.fnOf "cut_text" "cut_text" (aB dU) (aq dU) (aa dU) .none at9 akC awj auB aiH avj),apv⟩)
  (Zy:W.codeIn K aiH "cut_text"=true)
  (adl:W.keepIn K (.ref f26)=true)
  (aa4:W.nsIn K mainGlobals "mark_text"=some (some (.ref f27)))
  (adB:K.lookup f27=some ⟨atJ,arU,.func (W.fnOf "mark_text" "mark_text" (aB fK) (aq fK) (aa fK) .none auF alH al9 atv aii anB),ava⟩)
  (abx:W.codeIn K aii "mark_text"=true)
  (Z6:W.keepIn K (.ref f27)=true)
  (aaY:W.nsIn K mainGlobals "read_make"=some (some (.ref f28)))
  (afp:K.lookup f28=some ⟨auI,asn,.func (W.fnOf "read_make" "read_make" (aB fD) (aq fD) (aa fD) .none atO aqV auJ atR ahx anZ),anq⟩)
  (Ze:W.codeIn K ahx "read_make"=true)
  (abB:W.keepIn K (.ref f28)=true)
  (Zf:W.nsIn K mainGlobals "read_whole"=some (some (.ref f29)))
  (aaV:K.lookup f29=some ⟨anz,am3,.func (W.fnOf "read_whole" "read_whole" (aB d8) (aq d8) (aa d8) .none aoM am6 ave awi aiS aom),aqv⟩)
  (abF:W.codeIn K aiS "read_whole"=true)
  (aeY:W.keepIn K (.ref f29)=true)
  (aet:W.nsIn K mainGlobals "read_side"=some (some (.ref f30)))
  (abW:K.lookup f30=some ⟨auy,arW,.func (W.fnOf "read_side" "read_side" (aB fV) (aq fV) (aa fV) .none amw am0 auQ anl ahG al4),atE⟩)
  (ab1:W.codeIn K ahG "read_side"=true)
  (adg:W.keepIn K (.ref f30)=true)
  (ab2:W.nsIn K mainGlobals "read_cut"=some (some (.ref f31)))
  (aan:K.lookup f31=some ⟨awe,aqN,.func (W.fnOf "read_cut" "read_cut" (aB fY) (aq fY) (aa fY) .none avI atm auo ap8 ah6 apr),anp⟩)
  (ach:W.codeIn K ah6 "read_cut"=true)
  (aed:W.keepIn K (.ref f31)=true)
  (ac8:W.nsIn K mainGlobals "read_body"=some (some (.ref f32)))
  (aao:K.lookup f32=some ⟨asA,anN,.func (W.fnOf "read_body" "read_body" (aB fJ) (aq fJ) (aa fJ) .none aue alI auv akD ai4 auc),aqc⟩)
  (aeW:W.codeIn K ai4 "read_body"=true)
  (aaH:W.keepIn K (.ref f32)=true)
  (aa9:W.nsIn K mainGlobals "read_mark"=some (some (.ref f33)))
  (ad4:K.lookup f33=some ⟨alu,akx,.func (W.fnOf "read_mark" "read_mark" (aB fB) (aq fB) (aa fB) .none avw apm avV aoI ahI ap6),amg⟩)
  (aaS:W.codeIn K ahI "read_mark"=true)
  (Y4:W.keepIn K (.ref f33)=true)
  (acT:W.nsIn K mainGlobals "_law_draw"=some (some (.ref f34)))
  (ac0:K.lookup f34=some ⟨akM,aoD,.func (W.fnOf "_law_draw" "_law_draw" (aB gb) (aq gb) (aa gb) .none auj ap4 avx arL aiq arE),aqt⟩)
  (aaj:W.codeIn K aiq "_law_draw"=true)
  (aah:W.keepIn K (.ref f34)=true)
  (ae5:W.nsIn K mainGlobals "_law_columns"=some (some (.ref f35)))
  (acd:K.lookup f35=some ⟨apw,ak7,.func (W.fnOf "_law_columns" "_law_columns" (aB bF) (aq bF) (aa bF) .none anW anI alQ awp ajD avL),aqs⟩)
  (adH:W.codeIn K ajD "_law_columns"=true)
  (aeh:W.keepIn K (.ref f35)=true)
  (abC:W.nsIn K mainGlobals "_law_value"=some (some (.ref f36)))
  (acF:K.lookup f36=some ⟨ara,amu,.func (W.fnOf "_law_value" "_law_value" (aB cB) (aq cB) (aa cB) .none avt aqy asJ als agK ar9),akW⟩)
  (Za:W.codeIn K agK "_law_value"=true)
  (aa6:W.keepIn K (.ref f36)=true)
  (abj:W.nsIn K mainGlobals "_law_values"=some (some (.ref f37)))
  (aeM:K.lookup f37=some ⟨aub,arH,.func (W.fnOf "_law_values" "_law_values" (aB cQ) (aq cQ) (aa cQ) .none amN av1 avh atf ajj akB),ap3⟩)
  (abE:W.codeIn K ajj "_law_values"=true)
  (abZ:W.keepIn K (.ref f37)=true)
  (Zt:W.nsIn K mainGlobals "_law_is_whole"=some (some (.ref f38)))
  (afq:K.lookup f38=some ⟨av8,alx,.func (W.fnOf "_law_is_whole" "_law_is_whole" (aB cH) (aq cH) (aa cH) .none atB avY aqo au0 ahe alh),avc⟩)
  (acP:W.codeIn K ahe "_law_is_whole"=true)
  (ae1:W.keepIn K (.ref f38)=true)
  (ado:W.nsIn K mainGlobals "_law_same"=some (some (.ref f39)))
  (Zw:K.lookup f39=some ⟨ant,aqQ,.func (W.fnOf "_law_same" "_law_same" (aB fH) (aq fH) (aa fH) .none aow alL asF anr aid ao8),apF⟩)
  (aer:W.codeIn K aid "_law_same"=true)
  (ad7:W.keepIn K (.ref f39)=true)
  (Zv:W.nsIn K mainGlobals "_law_order"=some (some (.ref f40)))
  (acr:K.lookup f40=some ⟨as9,anu,.func (W.fnOf "_law_order" "_law_order" (aB dh) (aq dh) (aa dh) .none arj asp aky asV aiG apI),aqb⟩)
  (ae9:W.codeIn K aiG "_law_order"=true)
  (Z0:W.keepIn K (.ref f40)=true)
  (abX:W.nsIn K mainGlobals "_law_key"=some (some (.ref f41)))
  (aeG:K.lookup f41=some ⟨auz,ale,.func (W.fnOf "_law_key" "_law_key" (aB dX) (aq dX) (aa dX) .none auR alR awr aqI ag2 auO),arM⟩)
  (adb:W.codeIn K ag2 "_law_key"=true)
  (aa8:W.keepIn K (.ref f41)=true)
  (aeT:W.nsIn K mainGlobals "_law_word"=some (some (.ref f42)))
  (aai:K.lookup f42=some ⟨avz,avp,.func (W.fnOf "_law_word" "_law_word" (aB fQ) (aq fQ) (aa fQ) .none amS am8 avK aun aiA atY),aqW⟩)
  (aeq:W.codeIn K aiA "_law_word"=true)
  (Z9:W.keepIn K (.ref f42)=true)
  (adv:W.nsIn K mainGlobals "_law_look"=some (some (.ref f43)))
  (aa0:K.lookup f43=some ⟨as7,alg,.func (W.fnOf "_law_look" "_law_look" (aB dg) (aq dg) (aa dg) .none arD ao3 atD aqz ahh asb),anP⟩)
  (adR:W.codeIn K ahh "_law_look"=true)
  (aeS:W.keepIn K (.ref f43)=true)
  (aeF:W.nsIn K mainGlobals "_law_sieve"=some (some (.ref f44)))
  (adn:K.lookup f44=some ⟨arf,anJ,.func (W.fnOf "_law_sieve" "_law_sieve" (aB dO) (aq dO) (aa dO) .none aro aup aqk aqA ahK amj),ata⟩)
  (ab9:W.codeIn K ahK "_law_sieve"=true)
  (Zi:W.keepIn K (.ref f44)=true)
  (Z3:W.nsIn K mainGlobals "_law_mark"=some (some (.ref f45)))
  (adO:K.lookup f45=some ⟨alr,aoF,.func (W.fnOf "_law_mark" "_law_mark" (aB fM) (aq fM) (aa fM) .none asw aqm asM ao5 agY anT),aqn⟩)
  (abK:W.codeIn K agY "_law_mark"=true)
  (acL:W.keepIn K (.ref f45)=true)
  (afl:W.nsIn K mainGlobals "_law_long_look"=some (some (.ref f46)))
  (aaC:K.lookup f46=some ⟨aop,anE,.func (W.fnOf "_law_long_look" "_law_long_look" (aB bH) (aq bH) (aa bH) .none amK ak6 alZ avE agx ak4),alE⟩)
  (aby:W.codeIn K agx "_law_long_look"=true)
  (ady:W.keepIn K (.ref f46)=true)
  (abA:W.nsIn K mainGlobals "_law_long_sieve"=some (some (.ref f47)))
  (adX:K.lookup f47=some ⟨arh,anG,.func (W.fnOf "_law_long_sieve" "_law_long_sieve" (aB bL) (aq bL) (aa bL) .none aus ap0 al1 asI af5 atz),avD⟩)
  (ZR:W.codeIn K af5 "_law_long_sieve"=true)
  (aa5:W.keepIn K (.ref f47)=true)
  (abh:W.nsIn K mainGlobals "_law_body"=some (some (.ref f48)))
  (abq:K.lookup f48=some ⟨aoH,akY,.func (W.fnOf "_law_body" "_law_body" (aB cP) (aq cP) (aa cP) .none ano amH aoC aur ajC ard),atp⟩)
  (adu:W.codeIn K ajC "_law_body"=true)
  (abV:W.keepIn K (.ref f48)=true)
  (acf:W.nsIn K mainGlobals "_law_checked"=some (some (.ref f49)))
  (aam:K.lookup f49=some ⟨ao7,av2,.func (W.fnOf "_law_checked" "_law_checked" (aB cT) (aq cT) (aa cT) .none amR av0 av5 aoZ agm akV),auD⟩)
  (acV:W.codeIn K agm "_law_checked"=true)
  (adK:W.keepIn K (.ref f49)=true)
  (adh:W.nsIn K mainGlobals "_law_read_right"=some (some (.ref f50)))
  (ad6:K.lookup f50=some ⟨as4,apH,.func (W.fnOf "_law_read_right" "_law_read_right" (aB bM) (aq bM) (aa bM) .none alf alb arZ asL ag7 aqB),as5⟩)
  (Y5:W.codeIn K ag7 "_law_read_right"=true)
  (aac:W.keepIn K (.ref f50)=true)
  (Y9:W.nsIn K mainGlobals "_law_kept"=some (some (.ref f51)))
  (ad5:K.lookup f51=some ⟨apa,arF,.func (W.fnOf "_law_kept" "_law_kept" (aB fZ) (aq fZ) (aa fZ) .none apG apQ au6 awl ahT atu),apz⟩)
  (ab6:W.codeIn K ahT "_law_kept"=true)
  (abf:W.keepIn K (.ref f51)=true)
  (ad2:W.nsIn K mainGlobals "law"=some (some (.ref f52)))
  (acE:K.lookup f52=some ⟨avF,asm,.func (W.fnOf "law" "law" (aB tK) (aq tK) (aa tK) .none arV avf aqp anH ahZ aqO),ar8⟩)
  (aeu:W.codeIn K ahZ "law"=true)
  (acu:W.keepIn K (.ref f52)=true)
  (gq0:W.nsIn K mainGlobals "BASE"=some (some (.int 137 t0)))
  (gq1:W.nsIn K mainGlobals "REST_BY"=some (some (.int 9973 t1)))
  (gq2:W.nsIn K mainGlobals "FIGURES_OF_CHECK"=some (some (.int 4 t2)))
  (gq3:W.nsIn K mainGlobals "NUMBER"=some (some (.str "number" t3)))
  (gq4:W.nsIn K mainGlobals "TEXT"=some (some (.str "text" t4)))
  (gq5:W.nsIn K mainGlobals "FIGURES"=some (some (.str "0123456789" t5)))
  (gq6:W.nsIn K mainGlobals "TEXT_SIGNS"=some (some (.str "abcdefghijklmnopqrstuvwxyz0123456789-" t6)))
  (gq7:W.nsIn K mainGlobals "LARGEST"=some (some (.int 1000000000000000000 t7)))
  (gq8:W.nsIn K mainGlobals "LONGEST"=some (some (.int 20 t8)))
  (gq9:W.nsIn K mainGlobals "NONE_WORD"=some (some (.str "?" t9)))
  (adT:W.nsIn K mainGlobals "TEXT_AHEAD"=some (some (.str "'" t10)))
  (acW:W.nsIn K mainGlobals "BELOW_AHEAD"=some (some (.str "-" t11)))
  (adm:W.nsIn K mainGlobals "LARGEST_ROW"=some (some (.int 1000000000 t12)))
  (afb:W.nsIn K mainGlobals "MOST_IN_ORDER"=some (some (.int 4 t13)))
  (abI:W.nsIn K mainGlobals "UP_AHEAD"=some (some (.str "+" t14)))
  (abw:W.nsIn K mainGlobals "DOWN_AHEAD"=some (some (.str "-" t15)))
  (aeZ:W.nsIn K mainGlobals "AHEAD"=some (some (.str "ahead" t16)))
  (acJ:W.nsIn K mainGlobals "BEHIND"=some (some (.str "behind" t17)))
  (ZC:W.nsIn K mainGlobals "MOST_WORDS"=some (some (.int 60 t18)))
  (adp:W.nsIn K mainGlobals "MOST_WITHIN"=some (some (.int 20 t19)))
  (acA:W.nsIn K mainGlobals "ALL"=some (some (.str "all" t20)))
  (acx:W.nsIn K mainGlobals "NONE"=some (some (.str "none" t21)))
  (aaZ:W.nsIn K mainGlobals "IS"=some (some (.str "is" t22)))
  (abu:W.nsIn K mainGlobals "UNDER"=some (some (.str "under" t23)))
  (Zb:W.nsIn K mainGlobals "OVER"=some (some (.str "over" t24)))
  (aeg:W.nsIn K mainGlobals "HOLDS"=some (some (.str "holds" t25)))
  (aaa:W.nsIn K mainGlobals "NOT"=some (some (.str "not" t26)))
  (aa7:W.nsIn K mainGlobals "BOTH"=some (some (.str "both" t27)))
  (ab5:W.nsIn K mainGlobals "EITHER"=some (some (.str "either" t28)))
  (ZS:W.nsIn K mainGlobals "LIVING"=some (some (.str "living" t29)))
  (aas:W.nsIn K mainGlobals "STILL"=some (some (.str "still" t30)))
  (ad9:W.nsIn K mainGlobals "LATEST"=some (some (.int 5000 t31)))
  (abb:W.nsIn K mainGlobals "PARTS"=some (some (.int 5 t32)))
  (aae:W.nsIn K mainGlobals "PARTING"=some (some (.str "/" t33)))
  (Zm:W.nsIn K mainGlobals "STOP"=some (some (.str "." t34)))
  (aej:W.nsIn K mainGlobals "AHEAD_SIGN"=some (some (.str "<" t35)))
  (ZF:W.nsIn K mainGlobals "BEHIND_SIGN"=some (some (.str ">" t36)))
  (zq0:W.nsIn K mainGlobals "ValueError"=some none)
  (zq1:W.nsIn K mainGlobals "all"=some none)
  (zq2:W.nsIn K mainGlobals "bool"=some none)
  (zq3:W.nsIn K mainGlobals "enumerate"=some none)
  (zq4:W.nsIn K mainGlobals "int"=some none)
  (zq5:W.nsIn K mainGlobals "isinstance"=some none)
  (zq6:W.nsIn K mainGlobals "len"=some none)
  (zq7:W.nsIn K mainGlobals "list"=some none)
  (zq8:W.nsIn K mainGlobals "min"=some none)
  (zq9:W.nsIn K mainGlobals "ord"=some none)
  (aeP:W.nsIn K mainGlobals "range"=some none)
  (aek:W.nsIn K mainGlobals "reversed"=some none)
  (Zz:W.nsIn K mainGlobals "set"=some none)
  (aal:W.nsIn K mainGlobals "str"=some none)
  (ae3:W.nsIn K mainGlobals "tuple"=some none)
  (ae2:W.nsIn K mainGlobals "zip"=some none)
  (Vf:W.nsIn K mainGlobals "LeafError"=some (some (.ref C0)))
  (xq1:W.nsIn K mainGlobals "NoValue"=some (some (.ref C1)))
  (xq2:W.nsIn K mainGlobals "NoOrder"=some (some (.ref C2)))
  (xq3:W.nsIn K mainGlobals "NoMark"=some (some (.ref C3)))
  (Zx:W.nsIn K mainGlobals "NoSieve"=some (some (.ref C4)))
  (Xp:W.nsIn K mainGlobals "Sieve"=some (some (.ref C5)))
  (YH:W.nsIn K mainGlobals "AllSieve"=some (some (.ref C6)))
  (XS:W.nsIn K mainGlobals "NoneSieve"=some (some (.ref C7)))
  (TJ:W.nsIn K mainGlobals "ValueSieve"=some (some (.ref C8)))
  (U5:W.nsIn K mainGlobals "IsSieve"=some (some (.ref C9)))
  (yK:W.nsIn K mainGlobals "UnderSieve"=some (some (.ref C10)))
  (zE:W.nsIn K mainGlobals "OverSieve"=some (some (.ref C11)))
  (yH:W.nsIn K mainGlobals "HoldsSieve"=some (some (.ref C12)))
  (Fj:W.nsIn K mainGlobals "NotSieve"=some (some (.ref C13)))
  (Af:W.nsIn K mainGlobals "PairSieve"=some (some (.ref C14)))
  (Ag:W.nsIn K mainGlobals "BothSieve"=some (some (.ref C15)))
  (zZ:W.nsIn K mainGlobals "EitherSieve"=some (some (.ref C16)))
  (yq0:W.excIn K C1 JL "ValueError.__new__"=true)
  (yq1:W.excIn K C3 JL "ValueError.__new__"=true)
  (yq2:W.excIn K C2 JL "ValueError.__new__"=true)
  (bt0:W.readsIn K C0 (.type "type")=true)
  (bt1:W.findCls K (.ref C0) (.type "type") "__init__"=some (.val (.builtin "ValueError.__init__")))
  (bt2:W.specialIn K (.ref C0) "__getattribute__"=some (some (.builtin "type.__getattribute__")))
  (bt3:W.typeIn K (.ref C0)=some (.type "type"))
  (bt4:W.mroIn K C0 (.type "BaseException")=some true)
  (wr0:zR K C1 C0=true)
  (Q0:W.typeIn K (.ref C1)=some (.type "type"))
  (Tj:W.hasDictIn K C1=true)
  (Uy:W.findIn K (.ref C1) "__getattribute__"=some (some (.builtin "BaseException.__getattribute__")))
  (Ul:W.findIn K (.ref C1) "__getattr__"=some none)
  (R1:W.findIn K (.ref C1) "__class__"=some (some (.builtin "object.__class__")))
  (Ud:W.specialIn K (.builtin "object.__class__") "__get__"=some (some (.builtin "getset_descriptor.__get__")))
  (RT:W.takesIn K (.builtin "object.__class__")=some true)
  (TY:W.mroIn K C1 (.type "object")=some true)
  (TF:W.mroIn K C1 (.type "BaseException")=some true)
  (wr1:zR K C2 C0=true)
  (Sx:W.typeIn K (.ref C2)=some (.type "type"))
  (Tq:W.hasDictIn K C2=true)
  (QC:W.findIn K (.ref C2) "__getattribute__"=some (some (.builtin "BaseException.__getattribute__")))
  (QJ:W.findIn K (.ref C2) "__getattr__"=some none)
  (Sg:W.findIn K (.ref C2) "__class__"=some (some (.builtin "object.__class__")))
  (Ro:W.specialIn K (.builtin "object.__class__") "__get__"=some (some (.builtin "getset_descriptor.__get__")))
  (Up:W.takesIn K (.builtin "object.__class__")=some true)
  (Qo:W.mroIn K C2 (.type "object")=some true)
  (Tg:W.mroIn K C2 (.type "BaseException")=some true)
  (wr2:zR K C3 C0=true)
  (Ss:W.typeIn K (.ref C3)=some (.type "type"))
  (RQ:W.hasDictIn K C3=true)
  (Rc:W.findIn K (.ref C3) "__getattribute__"=some (some (.builtin "BaseException.__getattribute__")))
  (Ua:W.findIn K (.ref C3) "__getattr__"=some none)
  (QF:W.findIn K (.ref C3) "__class__"=some (some (.builtin "object.__class__")))
  (RB:W.specialIn K (.builtin "object.__class__") "__get__"=some (some (.builtin "getset_descriptor.__get__")))
  (Te:W.takesIn K (.builtin "object.__class__")=some true)
  (Qt:W.mroIn K C3 (.type "object")=some true)
  (U9:W.mroIn K C3 (.type "BaseException")=some true)
  (wr3:zR K C4 C0=true)
  (RZ:W.typeIn K (.ref C4)=some (.type "type"))
  (R8:W.hasDictIn K C4=true)
  (Uv:W.findIn K (.ref C4) "__getattribute__"=some (some (.builtin "BaseException.__getattribute__")))
  (Rz:W.findIn K (.ref C4) "__getattr__"=some none)
  (Q7:W.findIn K (.ref C4) "__class__"=some (some (.builtin "object.__class__")))
  (QR:W.specialIn K (.builtin "object.__class__") "__get__"=some (some (.builtin "getset_descriptor.__get__")))
  (Ug:W.takesIn K (.builtin "object.__class__")=some true)
  (Qk:W.mroIn K C4 (.type "object")=some true)
  (SN:W.mroIn K C4 (.type "BaseException")=some true)
  (ia0:W.findIn K (.ref C4) "__init__"=some (some (.ref fi0)))
  (il0:K.lookup fi0=some ⟨aoR,auL,.func (W.fnOf "__init__" "NoSieve.__init__" (aB jw) (aq jw) (aa jw) .none aud aof arC aoe aiK apB),aoq⟩)
  (ic0:W.codeIn K aiK "NoSieve.__init__"=true)
  (ik0:W.keepIn K (.ref fi0)=true)
  (wi0:wM K C4 fi0=true)
  (if0:W.isFn K (.ref fi0)=true)
  (is0:W.findIn K (.ref C4) "__setattr__"=some (some (.builtin "object.__setattr__")))
  (it0:W.takerIn K C4 "at"=some none)
  (id0:W.findIn K (.ref C4) "at"=some none)
  (dd0:[C0,C1,C2,C3,C4].Nodup)
  (oa0:W.findIn K (.ref C5) "__init__"=some (some (.ref fo0)))
  (ol0:K.lookup fo0=some ⟨ao2,al2,.func (W.fnOf "__init__" "Sieve.__init__" (aB aP) (aq aP) (aa aP) .none aqe auu avG alN ajr aqh),avS⟩)
  (Z5:W.codeIn K ajr "Sieve.__init__"=true)
  (ok0:W.keepIn K (.ref fo0)=true)
  (of0:W.isFn K (.ref fo0)=true)
  (oa1:W.findIn K (.ref C5) "lets"=some (some (.ref fo1)))
  (ol1:K.lookup fo1=some ⟨ama,arS,.func (W.fnOf "lets" "Sieve.lets" (aB cL) (aq cL) (aa cL) .none aoo alJ akF arp ahR anR),ali⟩)
  (oc1:W.codeIn K ahR "Sieve.lets"=true)
  (ok1:W.keepIn K (.ref fo1)=true)
  (of1:W.isFn K (.ref fo1)=true)
  (oa2:W.findIn K (.ref C5) "shown"=some (some (.ref J8)))
  (ol2:K.lookup J8=some ⟨asD,auZ,.func (W.fnOf "shown" "Sieve.shown" (aB aH) (aq aH) (aa aH) .none amV amr asy av3 agH arT),akq⟩)
  (oc2:W.codeIn K agH "Sieve.shown"=true)
  (ok2:W.keepIn K (.ref J8)=true)
  (of2:W.isFn K (.ref J8)=true)
  (oa3:W.findIn K (.ref C7) "__init__"=some (some (.ref fo3)))
  (ol3:K.lookup fo3=some ⟨aqa,av7,.func (W.fnOf "__init__" "NoneSieve.__init__" (aB aR) (aq aR) (aa aR) .none aoh amC anC asa af4 arq),ari⟩)
  (oc3:W.codeIn K af4 "NoneSieve.__init__"=true)
  (ok3:W.keepIn K (.ref fo3)=true)
  (of3:W.isFn K (.ref fo3)=true)
  (oa4:W.findIn K (.ref C7) "lets"=some (some (.ref fo4)))
  (ol4:K.lookup fo4=some ⟨aoG,amt,.func (W.fnOf "lets" "NoneSieve.lets" (aB dF) (aq dF) (aa dF) .none asT avM aqP aln agk anc),aru⟩)
  (oc4:W.codeIn K agk "NoneSieve.lets"=true)
  (ok4:W.keepIn K (.ref fo4)=true)
  (of4:W.isFn K (.ref fo4)=true)
  (oa5:W.findIn K (.ref C8) "__init__"=some (some (.ref YX)))
  (ol5:K.lookup YX=some ⟨as8,amh,.func (W.fnOf "__init__" "ValueSieve.__init__" (aB aG) (aq aG) (aa aG) .none ang aoY ar5 am5 af1 amX),auq⟩)
  (Wc:W.codeIn K af1 "ValueSieve.__init__"=true)
  (ZL:W.keepIn K (.ref YX)=true)
  (of5:W.isFn K (.ref YX)=true)
  (oa6:W.findIn K (.ref C8) "lets"=some (some (.ref Yv)))
  (ol6:K.lookup Yv=some ⟨at3,amZ,.func (W.fnOf "lets" "ValueSieve.lets" (aB aV) (aq aV) (aa aV) .none ald aqq ala anS ah0 akZ),asB⟩)
  (XD:W.codeIn K ah0 "ValueSieve.lets"=true)
  (ok6:W.keepIn K (.ref Yv)=true)
  (of6:W.isFn K (.ref Yv)=true)
  (oa7:W.findIn K (.ref C8) "fits"=some (some (.ref fo7)))
  (ol7:K.lookup fo7=some ⟨amJ,arK,.func (W.fnOf "fits" "ValueSieve.fits" (aB bR) (aq bR) (aa bR) .none aoi atG amA amv agg ap9),aqM⟩)
  (oc7:W.codeIn K agg "ValueSieve.fits"=true)
  (ok7:W.keepIn K (.ref fo7)=true)
  (of7:W.isFn K (.ref fo7)=true)
  (oa8:W.findIn K (.ref C10) "fits"=some (some (.ref fo8)))
  (ol8:K.lookup fo8=some ⟨aob,apO,.func (W.fnOf "fits" "UnderSieve.fits" (aB di) (aq di) (aa di) .none ak5 akP aoj aoW ahE aqd),ao6⟩)
  (oc8:W.codeIn K ahE "UnderSieve.fits"=true)
  (ok8:W.keepIn K (.ref fo8)=true)
  (of8:W.isFn K (.ref fo8)=true)
  (oa9:W.findIn K (.ref C11) "fits"=some (some (.ref fo9)))
  (ol9:K.lookup fo9=some ⟨ase,atU,.func (W.fnOf "fits" "OverSieve.fits" (aB dG) (aq dG) (aa dG) .none apD amB awh anx ah4 art),avA⟩)
  (oc9:W.codeIn K ah4 "OverSieve.fits"=true)
  (ok9:W.keepIn K (.ref fo9)=true)
  (of9:W.isFn K (.ref fo9)=true)
  (abU:W.findIn K (.ref C12) "fits"=some (some (.ref Vu)))
  (acz:K.lookup Vu=some ⟨aiV,ahu,.func (W.fnOf "fits" "HoldsSieve.fits" (aB dm) (aq dm) (aa dm) .none agz aiY ahP ahr Yh agE),ags⟩)
  (Uj:W.codeIn K Yh "HoldsSieve.fits"=true)
  (adA:W.keepIn K (.ref Vu)=true)
  (aeD:W.isFn K (.ref Vu)=true)
  (aeN:W.findIn K (.ref C13) "__init__"=some (some (.ref XR)))
  (ac2:K.lookup XR=some ⟨agV,ahz,.func (W.fnOf "__init__" "NotSieve.__init__" (aB aY) (aq aY) (aa aY) .none ai8 ajt agM ag6 Yt afZ),aho⟩)
  (QQ:W.codeIn K Yt "NotSieve.__init__"=true)
  (adi:W.keepIn K (.ref XR)=true)
  (acn:W.isFn K (.ref XR)=true)
  (acv:W.findIn K (.ref C13) "lets"=some (some (.ref V0)))
  (afc:K.lookup V0=some ⟨agu,air,.func (W.fnOf "lets" "NotSieve.lets" (aB eV) (aq eV) (aa eV) .none ajv ah3 agT ah2 YD ajq),aix⟩)
  (RG:W.codeIn K YD "NotSieve.lets"=true)
  (ab0:W.keepIn K (.ref V0)=true)
  (aeJ:W.isFn K (.ref V0)=true)
  (Z7:W.findIn K (.ref C14) "__init__"=some (some (.ref NP)))
  (RN:K.lookup NP=some ⟨ajz,agR,.func (W.fnOf "__init__" "PairSieve.__init__" (aB aO) (aq aO) (aa aO) .none afX ah1 aij ahJ Yg ahB),aja⟩)
  (Iv:W.codeIn K Yg "PairSieve.__init__"=true)
  (Ub:W.keepIn K (.ref NP)=true)
  (S5:W.isFn K (.ref NP)=true)
  (aab:W.findIn K (.ref C15) "lets"=some (some (.ref Wd)))
  (acp:K.lookup Wd=some ⟨ahd,aha,.func (W.fnOf "lets" "BothSieve.lets" (aB dH) (aq dH) (aa dH) .none ah7 ahg agZ ajp YS aiR),agB⟩)
  (Qm:W.codeIn K YS "BothSieve.lets"=true)
  (abr:W.keepIn K (.ref Wd)=true)
  (aaW:W.isFn K (.ref Wd)=true)
  (abN:W.findIn K (.ref C16) "lets"=some (some (.ref Wi)))
  (ack:K.lookup Wi=some ⟨agi,ajo,.func (W.fnOf "lets" "EitherSieve.lets" (aB cU) (aq cU) (aa cU) .none ahj aiP aim ajx X7 afW),agG⟩)
  (Va:W.codeIn K X7 "EitherSieve.lets"=true)
  (aev:W.keepIn K (.ref Wi)=true)
  (afj:W.isFn K (.ref Wi)=true)
  (QS:W.plainGet K C5 Str.empty=true)
  (Rf:W.hasDictIn K C5=true)
  (R3:W.plainOver K C5=true)
  (RM:W.findIn K (.ref C5) "__setattr__"=some (some (.builtin "object.__setattr__")))
  (pi5:W.makesIn K C5=true)
  (pk5:W.keepIn K (.ref C5)=true)
  (yF:W.findIn K (.ref C5) "text"=some none)
  (SM:W.plainGet K C6 Str.empty=true)
  (RJ:W.hasDictIn K C6=true)
  (QH:W.plainOver K C6=true)
  (Sw:W.findIn K (.ref C6) "__setattr__"=some (some (.builtin "object.__setattr__")))
  (yp:W.findIn K (.ref C6) "__init__"=some (some (.ref fo0)))
  (pi6:W.makesIn K C6=true)
  (pk6:W.keepIn K (.ref C6)=true)
  (zQ:W.findIn K (.ref C6) "lets"=some (some (.ref fo1)))
  (vd:W.findIn K (.ref C6) "shown"=some (some (.ref J8)))
  (zb:W.findIn K (.ref C6) "text"=some none)
  (Q9:W.plainGet K C7 Str.empty=true)
  (U0:W.hasDictIn K C7=true)
  (Uz:W.plainOver K C7=true)
  (Rg:W.findIn K (.ref C7) "__setattr__"=some (some (.builtin "object.__setattr__")))
  (pi7:W.makesIn K C7=true)
  (pk7:W.keepIn K (.ref C7)=true)
  (u5:W.findIn K (.ref C7) "shown"=some (some (.ref J8)))
  (yX:W.findIn K (.ref C7) "text"=some none)
  (uH:W.findIn K (.ref C7) "place"=some none)
  (Sy:W.plainGet K C8 Str.empty=true)
  (Rw:W.hasDictIn K C8=true)
  (Sq:W.plainOver K C8=true)
  (Tc:W.findIn K (.ref C8) "__setattr__"=some (some (.builtin "object.__setattr__")))
  (pi8:W.makesIn K C8=true)
  (pk8:W.keepIn K (.ref C8)=true)
  (vA:W.findIn K (.ref C8) "shown"=some (some (.ref J8)))
  (yS:W.findIn K (.ref C8) "text"=some none)
  (vC:W.findIn K (.ref C8) "place"=some none)
  (wg:W.findIn K (.ref C8) "value"=some none)
  (Qz:W.plainGet K C9 Str.empty=true)
  (Ut:W.hasDictIn K C9=true)
  (U7:W.plainOver K C9=true)
  (RW:W.findIn K (.ref C9) "__setattr__"=some (some (.builtin "object.__setattr__")))
  (zf:W.findIn K (.ref C9) "__init__"=some (some (.ref YX)))
  (pi9:W.makesIn K C9=true)
  (pk9:W.keepIn K (.ref C9)=true)
  (yr:W.findIn K (.ref C9) "fits"=some (some (.ref fo7)))
  (yV:W.findIn K (.ref C9) "lets"=some (some (.ref Yv)))
  (vJ:W.findIn K (.ref C9) "shown"=some (some (.ref J8)))
  (zP:W.findIn K (.ref C9) "text"=some none)
  (uQ:W.findIn K (.ref C9) "place"=some none)
  (vI:W.findIn K (.ref C9) "value"=some none)
  (JS:W.plainGet K C10 Str.empty=true)
  (IV:W.hasDictIn K C10=true)
  (Ju:W.plainOver K C10=true)
  (Ka:W.findIn K (.ref C10) "__setattr__"=some (some (.builtin "object.__setattr__")))
  (vg:W.findIn K (.ref C10) "__init__"=some (some (.ref YX)))
  (ac9:W.makesIn K C10=true)
  (aav:W.keepIn K (.ref C10)=true)
  (v5:W.findIn K (.ref C10) "lets"=some (some (.ref Yv)))
  (qz:W.findIn K (.ref C10) "shown"=some (some (.ref J8)))
  (vU:W.findIn K (.ref C10) "text"=some none)
  (qK:W.findIn K (.ref C10) "place"=some none)
  (qF:W.findIn K (.ref C10) "value"=some none)
  (IW:W.plainGet K C11 Str.empty=true)
  (Je:W.hasDictIn K C11=true)
  (KD:W.plainOver K C11=true)
  (Jl:W.findIn K (.ref C11) "__setattr__"=some (some (.builtin "object.__setattr__")))
  (vB:W.findIn K (.ref C11) "__init__"=some (some (.ref YX)))
  (acq:W.makesIn K C11=true)
  (adD:W.keepIn K (.ref C11)=true)
  (vp:W.findIn K (.ref C11) "lets"=some (some (.ref Yv)))
  (qG:W.findIn K (.ref C11) "shown"=some (some (.ref J8)))
  (uM:W.findIn K (.ref C11) "text"=some none)
  (rM:W.findIn K (.ref C11) "place"=some none)
  (qW:W.findIn K (.ref C11) "value"=some none)
  (J1:W.plainGet K C12 Str.empty=true)
  (IK:W.hasDictIn K C12=true)
  (JG:W.plainOver K C12=true)
  (Km:W.findIn K (.ref C12) "__setattr__"=some (some (.builtin "object.__setattr__")))
  (vM:W.findIn K (.ref C12) "__init__"=some (some (.ref YX)))
  (acj:W.makesIn K C12=true)
  (acN:W.keepIn K (.ref C12)=true)
  (uX:W.findIn K (.ref C12) "lets"=some (some (.ref Yv)))
  (qM:W.findIn K (.ref C12) "shown"=some (some (.ref J8)))
  (uI:W.findIn K (.ref C12) "text"=some none)
  (qR:W.findIn K (.ref C12) "place"=some none)
  (qT:W.findIn K (.ref C12) "value"=some none)
  (JR:W.plainGet K C13 Str.empty=true)
  (Jy:W.hasDictIn K C13=true)
  (Kz:W.plainOver K C13=true)
  (JT:W.findIn K (.ref C13) "__setattr__"=some (some (.builtin "object.__setattr__")))
  (aeC:W.makesIn K C13=true)
  (aaG:W.keepIn K (.ref C13)=true)
  (qJ:W.findIn K (.ref C13) "shown"=some (some (.ref J8)))
  (vQ:W.findIn K (.ref C13) "text"=some none)
  (yz:W.findIn K (.ref C13) "one"=some none)
  (Jk:W.plainGet K C14 Str.empty=true)
  (Ip:W.hasDictIn K C14=true)
  (Jt:W.plainOver K C14=true)
  (JP:W.findIn K (.ref C14) "__setattr__"=some (some (.builtin "object.__setattr__")))
  (adY:W.makesIn K C14=true)
  (aaR:W.keepIn K (.ref C14)=true)
  (wy:W.findIn K (.ref C14) "lets"=some (some (.ref fo1)))
  (rF:W.findIn K (.ref C14) "shown"=some (some (.ref J8)))
  (wz:W.findIn K (.ref C14) "text"=some none)
  (yP:W.findIn K (.ref C14) "one"=some none)
  (rE:W.findIn K (.ref C14) "other"=some none)
  (JK:W.plainGet K C15 Str.empty=true)
  (Ja:W.hasDictIn K C15=true)
  (J9:W.plainOver K C15=true)
  (Ku:W.findIn K (.ref C15) "__setattr__"=some (some (.builtin "object.__setattr__")))
  (vV:W.findIn K (.ref C15) "__init__"=some (some (.ref NP)))
  (acD:W.makesIn K C15=true)
  (aey:W.keepIn K (.ref C15)=true)
  (qx:W.findIn K (.ref C15) "shown"=some (some (.ref J8)))
  (vP:W.findIn K (.ref C15) "text"=some none)
  (zq:W.findIn K (.ref C15) "one"=some none)
  (rD:W.findIn K (.ref C15) "other"=some none)
  (JF:W.plainGet K C16 Str.empty=true)
  (JZ:W.hasDictIn K C16=true)
  (Jm:W.plainOver K C16=true)
  (Kg:W.findIn K (.ref C16) "__setattr__"=some (some (.builtin "object.__setattr__")))
  (v8:W.findIn K (.ref C16) "__init__"=some (some (.ref NP)))
  (ac4:W.makesIn K C16=true)
  (ZX:W.keepIn K (.ref C16)=true)
  (rK:W.findIn K (.ref C16) "shown"=some (some (.ref J8)))
  (vY:W.findIn K (.ref C16) "text"=some none)
  (yZ:W.findIn K (.ref C16) "one"=some none)
  (qU:W.findIn K (.ref C16) "other"=some none)
  (qt:W.findCls K (.ref C5) (.type "type") "__init__"=some (.val (.ref fo0)))
  (qu:W.readsIn K C5 (.type "type")=true)
  (rn:W.specialIn K (.ref C5) "__getattribute__"=some (some (.builtin "type.__getattribute__")))
  :Txt K mg:=
 have m {n:Str} {v:Value} (e:W.nsIn K mainGlobals n=some (some v)):mg n=some v:=W.mg_of X G e
 ⟨⟨_,_,aF (st:=ug) lq0 cq0 kq0,m aq0⟩,
  ⟨_,_,aF (st:=gH) lq1 cq1 kq1,m aq1⟩,
  ⟨_,_,aF (st:=dY) lq2 cq2 kq2,m aq2⟩,
  ⟨_,_,aF (st:=gJ) lq3 cq3 kq3,m aq3⟩,
  ⟨_,_,aF (st:=cG) lq4 cq4 kq4,m aq4⟩,
  ⟨_,_,aF (st:=eN) lq5 cq5 kq5,m aq5⟩,
  ⟨_,_,aF (st:=du) lq6 cq6 kq6,m aq6⟩,
  ⟨_,_,aF (st:=bN) lq7 cq7 kq7,m aq7⟩,
  ⟨_,_,aF (st:=bA) lq8 cq8 kq8,m aq8⟩,
  ⟨_,_,aF (st:=bC) lq9 cq9 kq9,m aq9⟩,
  ⟨_,_,aF (st:=dR) aen abm Y0,m aeQ⟩,
  ⟨_,_,aF (st:=cO) aeH afi aap,m afm⟩,
  ⟨_,_,aF (st:=gC) afh aaI aaN,m aat⟩,
  ⟨_,_,aF (st:=dJ) abQ acX adk,m acB⟩,
  ⟨_,_,aF (st:=bU) ad3 acg Zu,m adM⟩,
  ⟨_,_,aF (st:=bO) adE ZQ aci,m abR⟩,
  ⟨_,_,aF (st:=dj) Zk aep abJ,m aaf⟩,
  ⟨_,_,aF (st:=dD) ae4 ace adQ,m aa3⟩,
  ⟨_,_,aF (st:=cV) aaX ac7 adI,m ZP⟩,
  ⟨_,_,aF (st:=dq) ZD abD acU,m aax⟩,
  ⟨_,_,aF (st:=fG) aaM Z4 aef,m adZ⟩,
  ⟨_,_,aF (st:=fW) ZJ ae8 acY,m aa1⟩,
  ⟨_,_,aF (st:=cI) abG aaz afa,m Z8⟩,
  ⟨_,_,aF (st:=b8) ZG acs adW,m afo⟩,
  ⟨_,_,aF (st:=fX) aaO Zo afg,m ade⟩,
  ⟨_,_,aF (st:=d7) aaJ abo adC,m adS⟩,
  ⟨_,_,aF (st:=dU) aaA Zy adl,m abk⟩,
  ⟨_,_,aF (st:=fK) adB abx Z6,m aa4⟩,
  ⟨_,_,aF (st:=fD) afp Ze abB,m aaY⟩,
  ⟨_,_,aF (st:=d8) aaV abF aeY,m Zf⟩,
  ⟨_,_,aF (st:=fV) abW ab1 adg,m aet⟩,
  ⟨_,_,aF (st:=fY) aan ach aed,m ab2⟩,
  ⟨_,_,aF (st:=fJ) aao aeW aaH,m ac8⟩,
  ⟨_,_,aF (st:=fB) ad4 aaS Y4,m aa9⟩,
  ⟨_,_,aF (st:=gb) ac0 aaj aah,m acT⟩,
  ⟨_,_,aF (st:=bF) acd adH aeh,m ae5⟩,
  ⟨_,_,aF (st:=cB) acF Za aa6,m abC⟩,
  ⟨_,_,aF (st:=cQ) aeM abE abZ,m abj⟩,
  ⟨_,_,aF (st:=cH) afq acP ae1,m Zt⟩,
  ⟨_,_,aF (st:=fH) Zw aer ad7,m ado⟩,
  ⟨_,_,aF (st:=dh) acr ae9 Z0,m Zv⟩,
  ⟨_,_,aF (st:=dX) aeG adb aa8,m abX⟩,
  ⟨_,_,aF (st:=fQ) aai aeq Z9,m aeT⟩,
  ⟨_,_,aF (st:=dg) aa0 adR aeS,m adv⟩,
  ⟨_,_,aF (st:=dO) adn ab9 Zi,m aeF⟩,
  ⟨_,_,aF (st:=fM) adO abK acL,m Z3⟩,
  ⟨_,_,aF (st:=bH) aaC aby ady,m afl⟩,
  ⟨_,_,aF (st:=bL) adX ZR aa5,m abA⟩,
  ⟨_,_,aF (st:=cP) abq adu abV,m abh⟩,
  ⟨_,_,aF (st:=cT) aam acV adK,m acf⟩,
  ⟨_,_,aF (st:=bM) ad6 Y5 aac,m adh⟩,
  ⟨_,_,aF (st:=fZ) ad5 ab6 abf,m Y9⟩,
  ⟨_,_,aF (st:=tK) acE aeu acu,m ad2⟩,
  ⟨_,m gq0,_,rfl⟩,
  ⟨_,m gq1,_,rfl⟩,
  ⟨_,m gq2,_,rfl⟩,
  ⟨_,m gq3,_,rfl⟩,
  ⟨_,m gq4,_,rfl⟩,
  ⟨_,m gq5,_,rfl⟩,
  ⟨_,m gq6,_,rfl⟩,
  ⟨_,m gq7,_,rfl⟩,
  ⟨_,m gq8,_,rfl⟩,
  ⟨_,m gq9,_,rfl⟩,
  ⟨_,m adT,_,rfl⟩,
  ⟨_,m acW,_,rfl⟩,
  ⟨_,m adm,_,rfl⟩,
  ⟨_,m afb,_,rfl⟩,
  ⟨_,m abI,_,rfl⟩,
  ⟨_,m abw,_,rfl⟩,
  ⟨_,m aeZ,_,rfl⟩,
  ⟨_,m acJ,_,rfl⟩,
  ⟨_,m ZC,_,rfl⟩,
  ⟨_,m adp,_,rfl⟩,
  ⟨_,m acA,_,rfl⟩,
  ⟨_,m acx,_,rfl⟩,
  ⟨_,m aaZ,_,rfl⟩,
  ⟨_,m abu,_,rfl⟩,
  ⟨_,m Zb,_,rfl⟩,
  ⟨_,m aeg,_,rfl⟩,
  ⟨_,m aaa,_,rfl⟩,
  ⟨_,m aa7,_,rfl⟩,
  ⟨_,m ab5,_,rfl⟩,
  ⟨_,m ZS,_,rfl⟩,
  ⟨_,m aas,_,rfl⟩,
  ⟨_,m ad9,_,rfl⟩,
  ⟨_,m abb,_,rfl⟩,
  ⟨_,m aae,_,rfl⟩,
  ⟨_,m Zm,_,rfl⟩,
  ⟨_,m aej,_,rfl⟩,
  ⟨_,m ZF,_,rfl⟩,
  W.mg_none_of X G zq0,
  W.mg_none_of X G zq1,
  W.mg_none_of X G zq2,
  W.mg_none_of X G zq3,
  W.mg_none_of X G zq4,
  W.mg_none_of X G zq5,
  W.mg_none_of X G zq6,
  W.mg_none_of X G zq7,
  W.mg_none_of X G zq8,
  W.mg_none_of X G zq9,
  W.mg_none_of X G aeP,
  W.mg_none_of X G aek,
  W.mg_none_of X G Zz,
  W.mg_none_of X G aal,
  W.mg_none_of X G ae3,
  W.mg_none_of X G ae2,
  (by have e:=m Vf;rw[aL e];exact e),
  (by have e:=m xq1;rw[aL e];exact e),
  (by have e:=m xq2;rw[aL e];exact e),
  (by have e:=m xq3;rw[aL e];exact e),
  (by have e:=m Zx;rw[aL e];exact e),
  (by have e:=m Xp;rw[aL e];exact e),
  (by have e:=m YH;rw[aL e];exact e),
  (by have e:=m XS;rw[aL e];exact e),
  (by have e:=m TJ;rw[aL e];exact e),
  (by have e:=m U5;rw[aL e];exact e),
  (by have e:=m yK;rw[aL e];exact e),
  (by have e:=m zE;rw[aL e];exact e),
  (by have e:=m yH;rw[aL e];exact e),
  (by have e:=m Fj;rw[aL e];exact e),
  (by have e:=m Af;rw[aL e];exact e),
  (by have e:=m Ag;rw[aL e];exact e),
  (by have e:=m zZ;rw[aL e];exact e),
  CJ (m xq1) yq0,
  CJ (m xq3) yq1,
  CJ (m xq2) yq2,
  Wa (m Vf) bt0 bt1 bt2 bt3 bt4,
  Mt (m xq1) (m Vf) wr0 Q0 Tj Uy Ul R1 Ud RT TY TF,
  Mt (m xq2) (m Vf) wr1 Sx Tq QC QJ Sg Ro Up Qo Tg,
  Mt (m xq3) (m Vf) wr2 Ss RQ Rc Ua QF RB Te Qt U9,
  Mt (m Zx) (m Vf) wr3 RZ R8 Uv Rz Q7 QR Ug Qk SN,
  Vm (m Zx) (m Vf) (aF (st:=jw) il0 ic0 ik0) wi0 if0 is0 it0 wr3,
  (by rw[aL (m Zx)];exact id0),
  (by rw[aL (m Vf),aL (m xq1),aL (m xq2),aL (m xq3),aL (m Zx)];exact dd0),
  iY (m Xp) QS Rf R3 RM,
  mZ (m Xp) (aF (st:=aP) ol0 Z5 ok0) oa0 of0 pi5 pk5,
  cZ (m Xp) (aF (st:=cL) ol1 oc1 ok1) oa1 of1,
  cZ (m Xp) (aF (st:=aH) ol2 oc2 ok2) oa2 of2,
  (by rw[aL (m Xp)];exact yF),
  iY (m YH) SM RJ QH Sw,
  mZ (m YH) (aF (st:=aP) ol0 Z5 ok0) yp of0 pi6 pk6,
  cZ (m YH) (aF (st:=cL) ol1 oc1 ok1) zQ of1,
  cZ (m YH) (aF (st:=aH) ol2 oc2 ok2) vd of2,
  (by rw[aL (m YH)];exact zb),
  iY (m XS) Q9 U0 Uz Rg,
  mZ (m XS) (aF (st:=aR) ol3 oc3 ok3) oa3 of3 pi7 pk7,
  cZ (m XS) (aF (st:=dF) ol4 oc4 ok4) oa4 of4,
  cZ (m XS) (aF (st:=aH) ol2 oc2 ok2) u5 of2,
  (by rw[aL (m XS)];exact yX),
  (by rw[aL (m XS)];exact uH),
  iY (m TJ) Sy Rw Sq Tc,
  mZ (m TJ) (aF (st:=aG) ol5 Wc ZL) oa5 of5 pi8 pk8,
  cZ (m TJ) (aF (st:=bR) ol7 oc7 ok7) oa7 of7,
  cZ (m TJ) (aF (st:=aV) ol6 XD ok6) oa6 of6,
  cZ (m TJ) (aF (st:=aH) ol2 oc2 ok2) vA of2,
  (by rw[aL (m TJ)];exact yS),
  (by rw[aL (m TJ)];exact vC),
  (by rw[aL (m TJ)];exact wg),
  iY (m U5) Qz Ut U7 RW,
  mZ (m U5) (aF (st:=aG) ol5 Wc ZL) zf of5 pi9 pk9,
  cZ (m U5) (aF (st:=bR) ol7 oc7 ok7) yr of7,
  cZ (m U5) (aF (st:=aV) ol6 XD ok6) yV of6,
  cZ (m U5) (aF (st:=aH) ol2 oc2 ok2) vJ of2,
  (by rw[aL (m U5)];exact zP),
  (by rw[aL (m U5)];exact uQ),
  (by rw[aL (m U5)];exact vI),
  iY (m yK) JS IV Ju Ka,
  mZ (m yK) (aF (st:=aG) ol5 Wc ZL) vg of5 ac9 aav,
  cZ (m yK) (aF (st:=di) ol8 oc8 ok8) oa8 of8,
  cZ (m yK) (aF (st:=aV) ol6 XD ok6) v5 of6,
  cZ (m yK) (aF (st:=aH) ol2 oc2 ok2) qz of2,
  (by rw[aL (m yK)];exact vU),
  (by rw[aL (m yK)];exact qK),
  (by rw[aL (m yK)];exact qF),
  iY (m zE) IW Je KD Jl,
  mZ (m zE) (aF (st:=aG) ol5 Wc ZL) vB of5 acq adD,
  cZ (m zE) (aF (st:=dG) ol9 oc9 ok9) oa9 of9,
  cZ (m zE) (aF (st:=aV) ol6 XD ok6) vp of6,
  cZ (m zE) (aF (st:=aH) ol2 oc2 ok2) qG of2,
  (by rw[aL (m zE)];exact uM),
  (by rw[aL (m zE)];exact rM),
  (by rw[aL (m zE)];exact qW),
  iY (m yH) J1 IK JG Km,
  mZ (m yH) (aF (st:=aG) ol5 Wc ZL) vM of5 acj acN,
  cZ (m yH) (aF (st:=dm) acz Uj adA) abU aeD,
  cZ (m yH) (aF (st:=aV) ol6 XD ok6) uX of6,
  cZ (m yH) (aF (st:=aH) ol2 oc2 ok2) qM of2,
  (by rw[aL (m yH)];exact uI),
  (by rw[aL (m yH)];exact qR),
  (by rw[aL (m yH)];exact qT),
  iY (m Fj) JR Jy Kz JT,
  mZ (m Fj) (aF (st:=aY) ac2 QQ adi) aeN acn aeC aaG,
  cZ (m Fj) (aF (st:=eV) afc RG ab0) acv aeJ,
  cZ (m Fj) (aF (st:=aH) ol2 oc2 ok2) qJ of2,
  (by rw[aL (m Fj)];exact vQ),
  (by rw[aL (m Fj)];exact yz),
  iY (m Af) Jk Ip Jt JP,
  mZ (m Af) (aF (st:=aO) RN Iv Ub) Z7 S5 adY aaR,
  cZ (m Af) (aF (st:=cL) ol1 oc1 ok1) wy of1,
  cZ (m Af) (aF (st:=aH) ol2 oc2 ok2) rF of2,
  (by rw[aL (m Af)];exact wz),
  (by rw[aL (m Af)];exact yP),
  (by rw[aL (m Af)];exact rE),
  iY (m Ag) JK Ja J9 Ku,
  mZ (m Ag) (aF (st:=aO) RN Iv Ub) vV S5 acD aey,
  cZ (m Ag) (aF (st:=dH) acp Qm abr) aab aaW,
  cZ (m Ag) (aF (st:=aH) ol2 oc2 ok2) qx of2,
  (by rw[aL (m Ag)];exact vP),
  (by rw[aL (m Ag)];exact zq),
  (by rw[aL (m Ag)];exact rD),
  iY (m zZ) JF JZ Jm Kg,
  mZ (m zZ) (aF (st:=aO) RN Iv Ub) v8 S5 ac4 ZX,
  cZ (m zZ) (aF (st:=cU) ack Va aev) abN afj,
  cZ (m zZ) (aF (st:=aH) ol2 oc2 ok2) rK of2,
  (by rw[aL (m zZ)];exact vY),
  (by rw[aL (m zZ)];exact yZ),
  (by rw[aL (m zZ)];exact qU),
  aji (m Xp) (aF (st:=aP) ol0 Z5 ok0) qt qu rn⟩
end K37
open PySem PySem.W PyProof.Rows
set_option maxRecDepth 100000 in
set_option maxHeartbeats 0 in
theorem PySem.Challenge.cw_turnleaf_k37_marks_there_and_back_holds : PySem.Challenge.rw_turnleaf_k37_marks_there_and_back.Holds := by
 w_on;o_law;k_head;(case hw=>w_witness2)
 k_fill
 refine L2.Wx (l:=PySem.Challenge.rw_turnleaf_k37_marks_there_and_back) (n:=63) (k:=70) (x:="_law_script") (CX:=λw=>L2.Dd PySem.Challenge.rw_turnleaf_k37_marks_there_and_back.prog w) (cc:=true) (sp:=λw=>L2.YC _) rfl (by decide) rfl ⟨λ_=>rfl,by decide,by decide⟩ (λw h Y=>PySem.W.kIn_of Y) ?F (λ_ _ a ns hl _ hS=>⟨a,ns,rfl,hS,hl,λ_=>rfl⟩) (λ_ _ _ _ _ z=>L2.Dd.never z)
 case F=>
  intro w mg fa h KX G hmg
  have T:K37.Txt (L2.KOf KX) mg:=by
   dsimp only[L2.KOf]
   refine' K37.aay KX G ?aq0 ?lq0 ?cq0 ?kq0 ?aq1 ?lq1 ?cq1 ?kq1 ?aq2 ?lq2 ?cq2 ?kq2 ?aq3 ?lq3 ?cq3 ?kq3 ?aq4 ?lq4 ?cq4 ?kq4 ?aq5 ?lq5 ?cq5 ?kq5 ?aq6 ?lq6 ?cq6 ?kq6 ?aq7 ?lq7 ?cq7 ?kq7 ?aq8 ?lq8 ?cq8 ?kq8 ?aq9 ?lq9 ?cq9 ?kq9 ?aeQ ?aen ?abm ?Y0 ?afm ?aeH ?afi ?aap ?aat ?afh ?aaI ?aaN ?acB ?abQ ?acX ?adk ?adM ?ad3 ?acg ?Zu ?abR ?adE ?ZQ ?aci ?aaf ?Zk ?aep ?abJ ?aa3 ?ae4 ?ace ?adQ ?ZP ?aaX ?ac7 ?adI ?aax ?ZD ?abD ?acU ?adZ ?aaM ?Z4 ?aef ?aa1 ?ZJ ?ae8 ?acY ?Z8 ?abG ?aaz ?afa ?afo ?ZG ?acs ?adW ?ade ?aaO ?Zo ?afg ?adS ?aaJ ?abo ?adC ?abk ?aaA ?Zy ?adl ?aa4 ?adB ?abx ?Z6 ?aaY ?afp ?Ze ?abB ?Zf ?aaV ?abF ?aeY ?aet ?abW ?ab1 ?adg ?ab2 ?aan ?ach ?aed ?ac8 ?aao ?aeW ?aaH ?aa9 ?ad4 ?aaS ?Y4 ?acT ?ac0 ?aaj ?aah ?ae5 ?acd ?adH ?aeh ?abC ?acF ?Za ?aa6 ?abj ?aeM ?abE ?abZ ?Zt ?afq ?acP ?ae1 ?ado ?Zw ?aer ?ad7 ?Zv ?acr ?ae9 ?Z0 ?abX ?aeG ?adb ?aa8 ?aeT ?aai ?aeq ?Z9 ?adv ?aa0 ?adR ?aeS ?aeF ?adn ?ab9 ?Zi ?Z3 ?adO ?abK ?acL ?afl ?aaC ?aby ?ady ?abA ?adX ?ZR ?aa5 ?abh ?abq ?adu ?abV ?acf ?aam ?acV ?adK ?adh ?ad6 ?Y5 ?aac ?Y9 ?ad5 ?ab6 ?abf ?ad2 ?acE ?aeu ?acu ?gq0 ?gq1 ?gq2 ?gq3 ?gq4 ?gq5 ?gq6 ?gq7 ?gq8 ?gq9 ?adT ?acW ?adm ?afb ?abI ?abw ?aeZ ?acJ ?ZC ?adp ?acA ?acx ?aaZ ?abu ?Zb ?aeg ?aaa ?aa7 ?ab5 ?ZS ?aas ?ad9 ?abb ?aae ?Zm ?aej ?ZF ?zq0 ?zq1 ?zq2 ?zq3 ?zq4 ?zq5 ?zq6 ?zq7 ?zq8 ?zq9 ?aeP ?aek ?Zz ?aal ?ae3 ?ae2 ?Vf ?xq1 ?xq2 ?xq3 ?Zx ?Xp ?YH ?XS ?TJ ?U5 ?yK ?zE ?yH ?Fj ?Af ?Ag ?zZ ?yq0 ?yq1 ?yq2 ?bt0 ?bt1 ?bt2 ?bt3 ?bt4 ?wr0 ?Q0 ?Tj ?Uy ?Ul ?R1 ?Ud ?RT ?TY ?TF ?wr1 ?Sx ?Tq ?QC ?QJ ?Sg ?Ro ?Up ?Qo ?Tg ?wr2 ?Ss ?RQ ?Rc ?Ua ?QF ?RB ?Te ?Qt ?U9 ?wr3 ?RZ ?R8 ?Uv ?Rz ?Q7 ?QR ?Ug ?Qk ?SN ?ia0 ?il0 ?ic0 ?ik0 ?wi0 ?if0 ?is0 ?it0 ?id0 ?dd0 ?oa0 ?ol0 ?Z5 ?ok0 ?of0 ?oa1 ?ol1 ?oc1 ?ok1 ?of1 ?oa2 ?ol2 ?oc2 ?ok2 ?of2 ?oa3 ?ol3 ?oc3 ?ok3 ?of3 ?oa4 ?ol4 ?oc4 ?ok4 ?of4 ?oa5 ?ol5 ?Wc ?ZL ?of5 ?oa6 ?ol6 ?XD ?ok6 ?of6 ?oa7 ?ol7 ?oc7 ?ok7 ?of7 ?oa8 ?ol8 ?oc8 ?ok8 ?of8 ?oa9 ?ol9 ?oc9 ?ok9 ?of9 ?abU ?acz ?Uj ?adA ?aeD ?aeN ?ac2 ?QQ ?adi ?acn ?acv ?afc ?RG ?ab0 ?aeJ ?Z7 ?RN ?Iv ?Ub ?S5 ?aab ?acp ?Qm ?abr ?aaW ?abN ?ack ?Va ?aev ?afj ?QS ?Rf ?R3 ?RM ?pi5 ?pk5 ?yF ?SM ?RJ ?QH ?Sw ?yp ?pi6 ?pk6 ?zQ ?vd ?zb ?Q9 ?U0 ?Uz ?Rg ?pi7 ?pk7 ?u5 ?yX ?uH ?Sy ?Rw ?Sq ?Tc ?pi8 ?pk8 ?vA ?yS ?vC ?wg ?Qz ?Ut ?U7 ?RW ?zf ?pi9 ?pk9 ?yr ?yV ?vJ ?zP ?uQ ?vI ?JS ?IV ?Ju ?Ka ?vg ?ac9 ?aav ?v5 ?qz ?vU ?qK ?qF ?IW ?Je ?KD ?Jl ?vB ?acq ?adD ?vp ?qG ?uM ?rM ?qW ?J1 ?IK ?JG ?Km ?vM ?acj ?acN ?uX ?qM ?uI ?qR ?qT ?JR ?Jy ?Kz ?JT ?aeC ?aaG ?qJ ?vQ ?yz ?Jk ?Ip ?Jt ?JP ?adY ?aaR ?wy ?rF ?wz ?yP ?rE ?JK ?Ja ?J9 ?Ku ?vV ?acD ?aey ?qx ?vP ?zq ?rD ?JF ?JZ ?Jm ?Kg ?v8 ?ac4 ?ZX ?rK ?vY ?yZ ?qU ?qt ?qu ?rn
   case aq0 |lq0 |cq0 |kq0 |aq1 |lq1 |cq1 |kq1 |aq2 |lq2 |cq2 |kq2 |aq3 |lq3 |cq3 |kq3 |aq4 |lq4 |cq4 |kq4 |aq5 |lq5 |cq5 |kq5 |aq6 |lq6 |cq6 |kq6 |aq7 |lq7 |cq7 |kq7 |aq8 |lq8 |cq8 |kq8 |aq9 |lq9 |cq9 |kq9 |aeQ |aen |abm |Y0 |afm |aeH |afi |aap |aat |afh |aaI |aaN |acB |abQ |acX |adk |adM |ad3 |acg |Zu |abR |adE |ZQ |aci |aaf |Zk |aep |abJ |aa3 |ae4 |ace |adQ |ZP |aaX |ac7 |adI |aax |ZD |abD |acU |adZ |aaM |Z4 |aef |aa1 |ZJ |ae8 |acY |Z8 |abG |aaz |afa |afo |ZG |acs |adW |ade |aaO |Zo |afg |adS |aaJ |abo |adC |abk |aaA |Zy |adl |aa4 |adB |abx |Z6 |aaY |afp |Ze |abB |Zf |aaV |abF |aeY |aet |abW |ab1 |adg |ab2 |aan |ach |aed |ac8 |aao |aeW |aaH |aa9 |ad4 |aaS |Y4 |acT |ac0 |aaj |aah |ae5 |acd |adH |aeh |abC |acF |Za |aa6 |abj |aeM |abE |abZ |Zt |afq |acP |ae1 |ado |Zw |aer |ad7 |Zv |acr |ae9 |Z0 |abX |aeG |adb |aa8 |aeT |aai |aeq |Z9 |adv |aa0 |adR |aeS |aeF |adn |ab9 |Zi |Z3 |adO |abK |acL |afl |aaC |aby |ady |abA |adX |ZR |aa5 |abh |abq |adu |abV |acf |aam |acV |adK |adh |ad6 |Y5 |aac |Y9 |ad5 |ab6 |abf |ad2 |acE |aeu |acu |gq0 |gq1 |gq2 |gq3 |gq4 |gq5 |gq6 |gq7 |gq8 |gq9 |adT |acW |adm |afb |abI |abw |aeZ |acJ |ZC |adp |acA |acx |aaZ |abu |Zb |aeg |aaa |aa7 |ab5 |ZS |aas |ad9 |abb |aae |Zm |aej |ZF |zq0 |zq1 |zq2 |zq3 |zq4 |zq5 |zq6 |zq7 |zq8 |zq9 |aeP |aek |Zz |aal |ae3 |ae2 |Vf |xq1 |xq2 |xq3 |Zx |Xp |YH |XS |TJ |U5 |yK |zE |yH |Fj |Af |Ag |zZ=>k_is
   (case yq0=>k_exc)
   (case yq1=>k_exc)
   (case yq2=>k_exc)
   case bt0 |bt1 |bt2 |bt3 |bt4=>k_is
   (case wr0=>kernel_rfl)
   case Q0 |Tj |Uy |Ul |R1 |Ud |RT |TY |TF=>k_is
   (case wr1=>kernel_rfl)
   case Sx |Tq |QC |QJ |Sg |Ro |Up |Qo |Tg=>k_is
   (case wr2=>kernel_rfl)
   case Ss |RQ |Rc |Ua |QF |RB |Te |Qt |U9=>k_is
   (case wr3=>kernel_rfl)
   case RZ |R8 |Uv |Rz |Q7 |QR |Ug |Qk |SN |ia0 |il0 |ic0 |ik0=>k_is
   (case wi0=>kernel_rfl)
   case if0 |is0 |it0 |id0=>k_is
   (case dd0=>decide)
   case oa0 |ol0 |Z5 |ok0 |of0 |oa1 |ol1 |oc1 |ok1 |of1 |oa2 |ol2 |oc2 |ok2 |of2 |oa3 |ol3 |oc3 |ok3 |of3 |oa4 |ol4 |oc4 |ok4 |of4 |oa5 |ol5 |Wc |ZL |of5 |oa6 |ol6 |XD |ok6 |of6 |oa7 |ol7 |oc7 |ok7 |of7 |oa8 |ol8 |oc8 |ok8 |of8 |oa9 |ol9 |oc9 |ok9 |of9 |abU |acz |Uj |adA |aeD |aeN |ac2 |QQ |adi |acn |acv |afc |RG |ab0 |aeJ |Z7 |RN |Iv |Ub |S5 |aab |acp |Qm |abr |aaW |abN |ack |Va |aev |afj |QS |Rf |R3 |RM |pi5 |pk5 |yF |SM |RJ |QH |Sw |yp |pi6 |pk6 |zQ |vd |zb |Q9 |U0 |Uz |Rg |pi7 |pk7 |u5 |yX |uH |Sy |Rw |Sq |Tc |pi8 |pk8 |vA |yS |vC |wg |Qz |Ut |U7 |RW |zf |pi9 |pk9 |yr |yV |vJ |zP |uQ |vI |JS |IV |Ju |Ka |vg |ac9 |aav |v5 |qz |vU |qK |qF |IW |Je |KD |Jl |vB |acq |adD |vp |qG |uM |rM |qW |J1 |IK |JG |Km |vM |acj |acN |uX |qM |uI |qR |qT |JR |Jy |Kz |JT |aeC |aaG |qJ |vQ |yz |Jk |Ip |Jt |JP |adY |aaR |wy |rF |wz |yP |rE |JK |Ja |J9 |Ku |vV |acD |aey |qx |vP |zq |rD |JF |JZ |Jm |Kg |v8 |ac4 |ZX |rK |vY |yZ |qU |qt |qu |rn=>k_is
  obtain⟨f,fd,F,hm⟩:=T.ajm
  have e0:=hmg.symm.trans hm
  cases e0
  obtain⟨oc,od,kV,doc,pm,an,cdv,ct,osl,rfl,lk,hcd⟩:=id F.ex
  exact⟨_,λs u=>.of_eq rfl,λbase kb nb=>K37.adt T F⟩
#print axioms PySem.Challenge.cw_turnleaf_k37_marks_there_and_back_holds
