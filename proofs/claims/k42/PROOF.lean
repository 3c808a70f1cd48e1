import PyProof.Rows.All
import Wide.All
import OpenK.KMake
import OpenK.KDescr
import OpenK.KGet
import OpenK.KEqL
import OpenK.KMore
import OpenK.KCls
import OpenK.KCall
import OpenK.KWalk
import OpenK.Peek
import OpenK.KLine
import KE.KIsAll
import KE.KItem
import KE.LcSums
import KE.KTryMore
import Wide.FinOn
import Lean
import PyProof.EqAt
import PyProof.EqKinds
import PyProof.TupleCall
import PyProof.ZipIter
import PyProof.ListNew
import PySem.Sem
import PyProof.WalksEnum
import PyProof.EnumMake
import PyProof.Rows.TupIter
import PyProof.DictIter
import KE.KDictList
import PyProof.DictItems
import KE.KPairComp
import KE.KSortTup
import PyProof.Rows.SetFrom
import PyProof.WalksMore
import PyProof.ListRange
import KE.KDictOf
import PyProof.IsiH_list
import PyProof.AttrMiss
import PyProof.TupleOfGen
import KE.KRevIter
import PyProof.Rows.Range3
import PySem.Challenge.RW_flatmeet_k42_refused_sizes
open PySem.Heap renaming get?_push_of_some→Aa,lt_size→Ab,get?_push_size→Ae,size_push→Be,get?_update_self→Cb,get?_update_other→Ci
open List renaming size_toArray→Ac,getElem?_eq_some_iff→Af,mem_cons→Ag,getElem?_set_ne→Ah,not_mem_nil→Ai,getElem?_eq_getElem→Al,mem_cons_of_mem→Am,getElem?_set_self→An,mem_cons_self→Ap,mem_append_right→As,map_cons→Au,lookup_cons→Aw,replicate→Ax,length_set→Ay,getElem?_map→Bb,length_map→Bi,getElem?_append_left→Bj,mem_singleton→Bk,range→Bp,getElem?_append_right→Bq,getD_eq_getElem?_getD→Br,mem_of_getElem?→Bw,replicate_succ→Ca,length_append→Cc,length_eq_zero_iff→Ce,nodup_cons→Cg,mem_append→Ch,getElem?_eq_none→Cl,lookup→Cm,flatten_cons→Co,length_cons→Cr,getElem?_replicate→Cs,map_append→Cv,find?_cons→Cw,append_nil→Cy,length_replicate→Da,all_eq_true→Dd,filterMap_cons→De,findIdx?_eq_some_iff_getElem→Di,mem_map→Dl,map_map→Dm,length_take→Du,any_cons→Dv,mem_append_left→Dw,mem_zipIdx_iff_getElem?→Dy,dropLast_concat_getLast→Dz,toArray→Eb,pairwise_cons→Ec,mem_filterMap→Ed,getElem?_set→Eg,cons→Ek,getElem_inj→Em,of_mem_zip→Er,nil_append→Es,mem_filter→Et,length→Ew
open Nat renaming le_refl→Ad,lt_of_lt_of_le→Aj,ne_of_lt→Ak,le_add_right→Bd,le_trans→Bo,zero_le→Bv,ne_of_gt→Bz,lt_irrefl→Cj,le_of_succ_le→Db,lt_trans→Dj,lt_succ_self→Dt,le_of_lt→Ea
open PySem.W renaming findIn→Ao,nsIn→Av,mg_none_of→Az,excIn→Bc,kitOne→Bl,kia_one→Bm,emptyDict→Bu,fnOf→By,keepIn→Cd,instObj→Cf,codeIn→Cq,cellsFrom_some→Cu,typeIn→Dc,mg_of→Df,clsIn→Dg,hasDictIn→Dq,plainGet→Ds,hideAll→Dx,plainOver→Ee,methodObj→Ef,subIn→Eh,mroIn→Ei,takerIn→Eo,makesIn→Ep,lookIn→Ex
open Bool renaming false_ne_true→Aq,false_eq_true→Bf,and_eq_true→Bt,and_eq_true_iff→Bx,or_false→Ej,or_eq_true→Eu
open PyProof.Rows renaming callWith_type1→Ar,slot_tuple_getitem→Bg,envOfC→Ey
open Option renaming some→Bn,isSome_iff_exists→Dh,map_eq_some_iff→Dr,bind_some→El,none→Ev
open Int renaming emod_lt_of_pos→Ck,toNat_natCast→Cp,eq_ofNat_of_zero_le→Ct,emod_nonneg→Cz
open List.Pairwise renaming nil→Cn
open List.Perm renaming refl→Do
set_option Elab.async false
set_option linter.all false
set_option maxRecDepth 100000
set_option maxHeartbeats 3990000
namespace L2
open PySem PySem.Spec PyProof.Rows
abbrev Key:=Sum Int Str
def rH:Key->Value->Bool
 | .inl k,v=>Value.isInt k v
 | .inr x,v=>Value.isStrOf x v
def aO0 (w:World):Key->Int
 | .inl k=>hashInt k
 | .inr x=>hashStr w x
theorem cH:∀ {k:Key} {v:Value},rH k v=true->(∃ i t,k=Sum.inl i/\v=Value.int i t)\/(∃ x t,k=Sum.inr x/\v=Value.str x t)
 | .inl i,v,h=>by
  obtain⟨t,e⟩:=Value.isInt_shape (k:=i) (v:=v) h;exact .inl ⟨i,t,rfl,e⟩
 | .inr x,v,h=>by
  obtain⟨t,e⟩:=Value.isStrOf_shape (x:=x) (v:=v) h;exact .inr ⟨x,t,rfl,e⟩
theorem aBf (i:Int)(t:Tok):rH (.inl i) (.int i t)=true:=by simp[rH,Value.isInt]
theorem aA4 (x:Str)(t:Tok):rH (.inr x) (.str x t)=true:=by simp[rH,Value.isStrOf]
theorem aKg (a b:Int):decide ((Sum.inl a:Key)=Sum.inl b)=(a==b):=by
 by_cases e:a=b
 · subst e;simp
 · have h:¬ (Sum.inl a:Key)=Sum.inl b:=fun q=>e (Sum.inl.inj q)
   rw[decide_eq_false h];exact(beq_eq_false_iff_ne.mpr e).symm
theorem aKs (a b:Str):decide ((Sum.inr a:Key)=Sum.inr b)=decide (a=b):=by
 by_cases e:a=b
 · subst e;simp
 · have h:¬ (Sum.inr a:Key)=Sum.inr b:=fun q=>e (Sum.inr.inj q)
   rw[decide_eq_false h,decide_eq_false e]
theorem aJv (a:Int)(b:Str):decide ((Sum.inl a:Key)=Sum.inr b)=false:=decide_eq_false (fun q=>nomatch q)
theorem aJ3 (a:Str)(b:Int):decide ((Sum.inr a:Key)=Sum.inl b)=false:=decide_eq_false (fun q=>nomatch q)
def bI (prog:Program)(w:World):PySem.KeyKind prog w Key where
 is:=rH
 hash:=aO0 w
 inj:=fun v a b ha hb=>by
  rcases cH ha with ⟨i,t,rfl,rfl⟩ | ⟨x,t,rfl,rfl⟩
  · rcases cH hb with ⟨j,u,rfl,e⟩ | ⟨y,u,rfl,e⟩
    · injection e with e1 _;rw[e1]
    · exact nomatch e
  · rcases cH hb with ⟨j,u,rfl,e⟩ | ⟨y,u,rfl,e⟩
    · exact nomatch e
    · injection e with e1 _;rw[e1]
 byValue:=fun k v h=>by
  rcases cH h with ⟨i,t,rfl,rfl⟩ | ⟨x,t,rfl,rfl⟩<;>rfl
 pyHash:=fun hv h=>by
  rcases cH hv with ⟨i,t,rfl,rfl⟩ | ⟨x,t,rfl,rfl⟩
  · exact wpAny_pyHash_int h
  · exact wpAny_pyHash_str h
 eqBool:=fun hu hv h=>by
  rcases cH hu with ⟨i,t,rfl,rfl⟩ | ⟨x,t,rfl,rfl⟩
  · rcases cH hv with ⟨j,u,rfl,rfl⟩ | ⟨y,u,rfl,rfl⟩
    · rw[aKg]at h;exact wpAny_eqBool_int h
    · rw[aJv]at h;exact SeqAt.EqAt.int_str i t y u _ _ _ _ h
  · rcases cH hv with ⟨j,u,rfl,rfl⟩ | ⟨y,u,rfl,rfl⟩
    · rw[aJ3]at h;exact SeqAt.EqAt.str_int x t j u _ _ _ _ h
    · rw[aKs]at h;exact wpAny_eqBool_str h
 «strs»:=fun k x t v h=>by
  rcases cH h with ⟨i,u,rfl,e⟩ | ⟨y,u,rfl,e⟩
  · exact nomatch e
  · injection e with e1 _
    subst e1;cases v<;>rfl
theorem uS (prog:Program)(w:World)(i:Int)(t:Tok):(bI prog w).is (.inl i) (.int i t)=true:=aBf i t
theorem uU (prog:Program)(w:World)(x:Str)(t:Tok):(bI prog w).is (.inr x) (.str x t)=true:=aA4 x t
end L2
namespace L2
open PySem PySem.Spec PyProof.Rows
inductive V where
 | non | bl (b:Bool) | int (i:Int) | str (x:Str) | byt (b:Array UInt8) | flt (b:UInt64) | ref (a:Addr) | ty (n:String)
 deriving DecidableEq
def bD:V->Value->Prop
 | .non,u=>u=Value.none
 | .bl b,u=>u=Value.bool b
 | .int i,u=>∃ t,u=Value.int i t
 | .str x,u=>∃ t,u=Value.str x t
 | .byt b,u=>∃ t,u=Value.bytes b t
 | .flt b,u=>∃ t,u=Value.float b t
 | .ref a,u=>u=Value.ref a
 | .ty n,u=>u=Value.type n
abbrev bC:List V->List Value->Prop:=Paired bD
theorem bC.length {xs:List V}{us:List Value}(r:bC xs us):xs.length=us.length:=Paired.length r
theorem bC.get:∀ {xs:List V} {us:List Value} {i:Nat} {x:V},bC xs us->xs[i]?=some x->∃ u,us[i]?=some u/\bD x u
 | _,_,_,_,.nil,e=>by simp at e
 | _,_,0,_,.cons r _,e=>by simp at e;subst e;exact⟨_,rfl,r⟩
 | _,_,i+1,x,.cons _ t,e=>by
  obtain⟨u,h1,h2⟩:=bC.get (i:=i) (x:=x) t (by simpa using e)
  exact⟨u,by simpa using h1,h2⟩
theorem bC.set {x:V}{u:Value}(r:bD x u):∀ {xs:List V} {us:List Value} (i:Nat),bC xs us->bC (xs.set i x) (us.set i u)
 | _,_,_,.nil=>.nil
 | _,_,0,.cons _ t=>.cons r t
 | _,_,i+1,.cons q t=>.cons q (bC.set r i t)
theorem bC.append:∀ {xs ys:List V} {us ws:List Value},bC xs us->bC ys ws->bC (xs++ys) (us++ws)
 | _,_,_,_,.nil,s=>s
 | _,_,_,_,.cons r t,s=>.cons r (bC.append t s)
theorem bC.take:∀ {xs:List V} {us:List Value} (n:Nat),bC xs us->bC (xs.take n) (us.take n)
 | _,_,0,_=>.nil
 | _,_,_+1,.nil=>.nil
 | _,_,n+1,.cons r t=>.cons r (bC.take n t)
theorem bC.drop:∀ {xs:List V} {us:List Value} (n:Nat),bC xs us->bC (xs.drop n) (us.drop n)
 | _,_,0,r=>r
 | _,_,_+1,.nil=>.nil
 | _,_,n+1,.cons _ t=>bC.drop n t
def kO:Option V->Option Value->Prop
 | some v,some u=>bD v u
 | none,none=>True
 | _,_=>False
def KV {κ:Type}:List (κ×V)->List (κ×Value)->Prop:=Paired fun (p:κ×V) (q:κ×Value)=>p.1=q.1/\bD p.2 q.2
def kV:Key->V
 | .inl i=>.int i
 | .inr x=>.str x
inductive HO where
 /-- a list -/
 | lst (xs:List V)
 /-- a tuple (never changes) -/
 | tup (xs:List V)
 /-- a dict whose keys are ints and texts;one whose keys are tuples of ints and texts (the empty one is both) -/
 | dK (kvs:List (Key×V)) | dT (kvs:List (List Key×V))
 /-- a set of ints: its members,its size -/
 | set (S:Int->Bool) (n:Nat)
 /-- an instance of the class at C,its dict at dx,its attributes -/
 | ins (C dx:Addr) (fs:List (Str×V))
 /-- the dict of the instance at x -/
 | own (x:Addr)
 /-- the dict of an exception -/
 | xd (fs:List (Str×V))
 /-- a bound method,f of x -/
 | met (f x:Addr)
 /-- a range object lo,lo+1,.. below hi -/
 | rng (lo hi:Int)
 /-- a thing that is known to the object (the script;a dict while a loop walks it): read,never written while it is so -/
 | frz (o:Obj) (u:HO)
 /-- a code object's table -/
 | tbl (ps:Array Value)
 /-- any other thing,by what is true of its one object (a def of one's own: SetO a S n:=HO.ext fun h=>..) -/
 | ext (φ:Heap->Prop)
abbrev Hp:=Addr->Option HO
def upd (H:Hp)(a:Addr)(o:HO):Hp:=fun b=>if b=a then some o else H b
theorem bF {H:Hp}{a:Addr}{o:HO}:upd H a o a=some o:=by unfold upd;rw[if_pos rfl]
theorem aU {H:Hp}{a b:Addr}{o:HO}(h:b≠a):upd H a o b=H b:=by unfold upd;rw[if_neg h]
theorem oC {H:Hp}{a:Addr}{o u:HO}:upd (upd H a o) a u=upd H a u:=by
 funext b;unfold upd;split<;>rfl
theorem aMl {H:Hp}{a b:Addr}{o u:HO}(h:H a=some o)(h':H b=some u)(d:o≠u):a≠b:=by
 intro e;subst e;rw[h]at h';exact d (Bn.inj h')
theorem aZ {H:Hp}{a b:Addr}{o:HO}(h:H a=some o)(h':H b=none):a≠b:=by
 intro e;subst e;rw[h]at h';cases h'
section
variable (P:Program)(w:World)
def bM (H:Hp)(h:Heap)(a:Addr):HO->Prop
 | .lst xs=>xs.length<=sizeLine/\∃ (its:List Value) (n:Nat),bC xs its/\h.get? a=some { cls:=.type "list",data:=.seq its.toArray n }
 | .tup xs=>xs.length<=sizeLine/\∃ its:List Value,bC xs its/\IsTup h a its.toArray
 | .dK kvs=>kvs.length<=sizeLine/\(a==sysModules)=false/\∃ vs,KV kvs vs/\h.DictOf (bI P w) a vs
 | .dT kvs=>kvs.length<=sizeLine/\(a==sysModules)=false/\∃ xs:List (List Key×Addr×Value),
  Paired (fun (p:List Key×V) (q:List Key×Addr×Value)=>p.1=q.1/\H q.2.1=some (.tup (p.1.map kV))/\bD p.2 q.2.2) kvs xs /\
  ∃ o es ep,h.get? a=some o/\o.ExactDict/\o.data=.dict es ep/\es.toList=xs.map (entryOfKey (tupleKind (bI P w)))/\(xs.map (·.1)).Nodup
 | .set S n=>h.SetOf (intKind P w) a S n
 | .ins C dx fs=>H dx=some (.own a)/\fs.length<=1000/\dx≠a/\h.get? a=some (Cf C dx) /\
  ∃ mA,h.Ns1 dx mA/\(∀ f,kO (fs.lookup f) (mA f))/\PySem.Within mA (fs.map (·.1))
 | .own _=>∃ o,h.get? a=some o
 | .xd fs=>∃ mA,h.Ns1 a mA/\∀ f,kO (fs.lookup f) (mA f)
 | .rng lo hi=>∃ t u v,h.get? a=some { cls:=.type "range",data:=.fields #[.int lo t,.int hi u,.int 1 v] }
 | .frz o u=>h.get? a=some o/\bM H h a u
 | .tbl ps=>h.get? a=some { cls:=.none,data:=.fields ps }
 | .met f x=>h.get? a=some (Ef (.ref f) (.ref x))
 | .ext φ=>φ h/\(∃ o,h.get? a=some o)/\∀ h1 h2:Heap,φ h1->(∀ o,h1.get? a=some o->h2.get? a=some o)->φ h2
def HOk (H:Hp)(h:Heap):Prop:=∀ a o,H a=some o->bM P w H h a o
end
section
variable {P:Program}{w:World}{H H':Hp}{h h':Heap}{a:Addr}{o:HO}
theorem bM.lt (x:bM P w H h a o):a<h.objs.size:=by
 cases o with
 | lst xs=>obtain⟨_,_,_,_,e⟩:=x;exact Ab e
 | tup xs=>obtain⟨_,_,_,p⟩:=x;exact p.lt
 | dK kvs=>obtain⟨_,_,_,_,o,_,_,e,_⟩:=x;exact Ab e
 | dT kvs=>obtain⟨_,_,_,_,o,_,_,e,_⟩:=x;exact Ab e
 | set S n=>obtain⟨o,_,_,_,e,_⟩:=x;exact Ab e
 | ins C dx fs=>obtain⟨_,_,_,e,_⟩:=x;exact Ab e
 | own y=>obtain⟨_,e⟩:=x;exact Ab e
 | xd fs=>obtain⟨_,⟨_,_,_,e,_⟩,_⟩:=x;exact Ab e
 | rng lo hi=>obtain⟨_,_,_,e⟩:=x;exact Ab e
 | frz ob u=>obtain⟨e,_⟩:=x;exact Ab e
 | tbl ps=>exact Ab (show h.get? a=some _ from x)
 | met f y=>exact Ab (show h.get? a=some _ from x)
 | ext φ=>obtain⟨_,⟨_,e⟩,_⟩:=x;exact Ab e
theorem Paired.mapP {α β:Type}{F G:α->β->Prop}:∀ {l₁:List α} {l₂:List β},Paired F l₁ l₂->(∀ a b,F a b->G a b)->Paired G l₁ l₂
 | _,_,.nil,_=>.nil
 | _,_,.cons r t,f=>.cons (f _ _ r) (Paired.mapP t f)
theorem bM.stay (x:bM P w H h a o)(k:∀ b u,(b=a\/H b=some (.own a))->h.get? b=some u->h'.get? b=some u)
 (ho:∀ b,H b=some (.own a)->H' b=some (.own a)) (ht:∀ b xs,H b=some (.tup xs)->H' b=some (.tup xs)):bM P w H' h' a o:=by
 induction o with
 | lst xs=>obtain⟨z,its,n,r,e⟩:=x;exact⟨z,its,n,r,k _ _ (.inl rfl) e⟩
 | tup xs=>obtain⟨z,its,r,ob,e,c⟩:=x;exact⟨z,its,r,ob,k _ _ (.inl rfl) e,c⟩
 | dK kvs=>obtain⟨z,y,vs,r,ob,es,ep,e,c⟩:=x;exact⟨z,y,vs,r,ob,es,ep,k _ _ (.inl rfl) e,c⟩
 | dT kvs =>
  obtain⟨z,y,xs,r,ob,es,ep,e,c⟩:=x;exact⟨z,y,xs,Paired.mapP r fun p q z=>⟨z.1,ht _ _ z.2.1,z.2.2⟩,ob,es,ep,k _ _ (.inl rfl) e,c⟩
 | set S n=>obtain⟨ob,es,ep,t,e,c⟩:=x;exact⟨ob,es,ep,t,k _ _ (.inl rfl) e,c⟩
 | ins C dx fs =>
  obtain⟨d,z,ne,e,mA,⟨od,es,ep,e2,c⟩,r⟩:=x;exact⟨ho _ d,z,ne,k _ _ (.inl rfl) e,mA,⟨od,es,ep,k _ _ (.inr d) e2,c⟩,r⟩
 | own y=>obtain⟨ob,e⟩:=x;exact⟨ob,k _ _ (.inl rfl) e⟩
 | xd fs=>obtain⟨mA,⟨od,es,ep,e,c⟩,r⟩:=x;exact⟨mA,⟨od,es,ep,k _ _ (.inl rfl) e,c⟩,r⟩
 | rng lo hi=>obtain⟨t,u,v,e⟩:=x;exact⟨t,u,v,k _ _ (.inl rfl) e⟩
 | frz ob u ih=>obtain⟨e,q⟩:=x;exact⟨k _ _ (.inl rfl) e,ih q⟩
 | tbl ps =>
  have e:h.get? a=some { cls:=.none,data:=.fields ps }:=x;show h'.get? a=some { cls:=.none,data:=.fields ps }
  exact k a _ (.inl rfl) e
 | met f y =>
  have e:h.get? a=some (Ef (.ref f) (.ref y)):=x;show h'.get? a=some (Ef (.ref f) (.ref y))
  exact k a _ (.inl rfl) e
 | ext φ=>obtain⟨p,⟨o,e⟩,st⟩:=x;exact⟨st _ _ p fun o q=>k _ _ (.inl rfl) q,⟨o,k _ _ (.inl rfl) e⟩,st⟩
theorem HOk.lt (x:HOk P w H h)(e:H a=some o):a<h.objs.size:=(x a o e).lt
theorem HOk.fresh (x:HOk P w H h)(e:h.objs.size<=a):H a=none:=by
 cases q:H a with
 | none=>rfl
 | some u=>exact absurd (Aj (x.lt q) e) (Cj _)
theorem HOk.kept (x:HOk P w H h)(k:∀ b u,h.get? b=some u->h'.get? b=some u):HOk P w H h':=fun a o e =>
 (x a o e).stay (fun b u _ q=>k b u q) (fun _ q=>q) fun _ _ q=>q
theorem HOk.laid (x:HOk P w H h)(k:∀ b u,h.get? b=some u->h'.get? b=some u)(hp:h.objs.size<=a)(new:bM P w (upd H a o) h' a o):HOk P w (upd H a o) h':=fun b u e=>by
 have hn:=x.fresh hp;by_cases hb:b=a
 · subst hb;rw[bF]at e;cases e;exact new
 · rw[aU hb]at e
   exact(x b u e).stay (fun c v _ q=>k c v q) (fun c q=>by rw[aU (aZ q hn)];exact q) fun c xs q=>by rw[aU (aZ q hn)];exact q
end
def Rd (H:Hp)(a:Addr)(u:HO):Prop:=H a=some u\/∃ o,H a=some (.frz o u)
theorem Rd.of {H:Hp}{a:Addr}{u:HO}(h:H a=some u):Rd H a u:=.inl h
theorem Rd.ok {P:Program}{w:World}{H:Hp}{h:Heap}{a:Addr}{u:HO}(r:Rd H a u)(x:HOk P w H h):bM P w H h a u:=by
 rcases r with r | ⟨o,r⟩
 · exact x a u r
 · obtain⟨_,q⟩:=x a _ r
   exact q
def Mut:Option HO->Prop
 | some (.lst _)=>True
 | some (.dK _)=>True
 | some (.dT _)=>True
 | some (.set _ _)=>True
 | some (.ins _ _ _)=>True
 | some (.ext _)=>True
 | _=>False
section
variable {P:Program}{w:World}{H:Hp}{h h':Heap}{x e:Addr}{o':HO}
theorem HOk.write (ok:HOk P w H h)(mu:Mut (H x))(he:e=x\/H e=some (.own x))(k:∀ b u,b≠e->h.get? b=some u->h'.get? b=some u)(heo:∃ u,h'.get? e=some u)
 (new:bM P w (upd H x o') h' x o'):HOk P w (upd H x o') h':=fun b u q=>by
 have nown:∀ c y,H c=some (.own y)->c≠x:=fun c y r z=>by subst z;rw[r]at mu;exact mu
 have ntup:∀ c xs,H c=some (.tup xs)->c≠x:=fun c xs r z=>by subst z;rw[r]at mu;exact mu
 by_cases hb:b=x
 · subst hb;rw[bF]at q;cases q;exact new
 · rw[aU hb]at q
   by_cases hbe:b=e
   · have q':H b=some (.own x):=by
      rcases he with z | z
      · exact absurd (hbe.trans z) hb
      · rw[hbe];exact z
     rw[q]at q';cases q';obtain⟨v,hv⟩:=heo;exact⟨v,by rw[hbe];exact hv⟩
   · refine(ok b u q).stay (fun c v hc r=>k c v ?_ r) (fun c r=>by rw[aU (nown c b r)];exact r) fun c xs r=>by rw[aU (ntup c xs r)];exact r
     rcases hc with rfl | hc
     · exact hbe
     · rintro rfl
       rcases he with z | z
       · exact nown c b hc z
       · rw[hc]at z;cases z;exact hb rfl
end
structure Un (fs ex:List Addr)(H H':Hp)(h h':Heap):Prop where
 keep:∀ b o,h.get? b=some o->H b=none->b∉fs->b∉ex->h'.get? b=some o
 slot:∀ b o,h.get? b=some o->H b=none->b∈fs->b∉ex->∃ sl,h'.get? b=some { o with slots:=sl }
 free:∀ b o,h.get? b=some o->H b=none->b∉ex->H' b=none
 there:∀ b o,h.get? b=some o->b∉ex->∃ o',h'.get? b=some o'
 tups:∀ b xs,H b=some (.tup xs)->H' b=some (.tup xs)
 frzs:∀ b o u,H b=some (.frz o u)->H' b=some (.frz o u)
 tbls:∀ b ps,H b=some (.tbl ps)->∃ more,H' b=some (.tbl (ps++more))
section
variable {fs fs' ex ex':List Addr}{H H1 H2:Hp}{h h1 h2 h':Heap}{a x e:Addr}{o:HO}
theorem Un.any (u:Un fs ex H H1 h h1){b:Addr}{ob:Obj}(q:h.get? b=some ob)(n:H b=none)(hx:b∉ex):∃ sl,h1.get? b=some { ob with slots:=sl }:=by
 by_cases hb:b∈fs
 · exact u.slot b ob q n hb hx
 · exact⟨ob.slots,u.keep b ob q n hb hx⟩
theorem Un.trans (a:Un fs ex H H1 h h1)(b:Un fs ex H1 H2 h1 h2):Un fs ex H H2 h h2 where
 keep:=fun c ob q n hc hx=>b.keep c ob (a.keep c ob q n hc hx) (a.free c ob q n hx) hc hx
 slot:=fun c ob q n hc hx=>by
  obtain⟨sl,e1⟩:=a.slot c ob q n hc hx;obtain⟨sl',e2⟩:=b.slot c _ e1 (a.free c ob q n hx) hc hx;exact⟨sl',e2⟩
 free:=fun c ob q n hx=>by
  obtain⟨o',e1⟩:=a.there c ob q hx;exact b.free c o' e1 (a.free c ob q n hx) hx
 there:=fun c ob q hx=>by
  obtain⟨o',e1⟩:=a.there c ob q hx;exact b.there c o' e1 hx
 tups:=fun c xs q=>b.tups c xs (a.tups c xs q)
 frzs:=fun c ob xs q=>b.frzs c ob xs (a.frzs c ob xs q)
 tbls:=fun c ps q=>by
  obtain⟨m1,e1⟩:=a.tbls c ps q;obtain⟨m2,e2⟩:=b.tbls c _ e1;exact⟨m1++m2,by rw[e2,Array.append_assoc]⟩
theorem Un.kept (k:∀ b u,h.get? b=some u->h'.get? b=some u):Un fs ex H H h h' :=
 ⟨fun b ob q _ _ _=>k b ob q,fun b ob q _ _ _=>⟨ob.slots,k b ob q⟩,fun _ _ _ n _=>n,fun b ob q _=>⟨ob,k b ob q⟩,fun _ _ q=>q,fun _ _ _ q=>q,fun _ ps q=>⟨#[],by rw[q];simp⟩⟩
theorem Un.refl:Un fs ex H H h h:=Un.kept fun _ _ q=>q
theorem Un.laid (k:∀ b u,h.get? b=some u->h'.get? b=some u)(hp:h.objs.size<=a)(hn:H a=none):Un fs ex H (upd H a o) h h' where
 keep:=fun b u q _ _ _=>k b u q
 slot:=fun b u q _ _ _=>⟨u.slots,k b u q⟩
 free:=fun b u q n _=>by rw[aU (Ak (Aj (Ab q) hp))];exact n
 there:=fun b u q _=>⟨u,k b u q⟩
 tups:=fun b xs q=>by rw[aU (aZ q hn)];exact q
 frzs:=fun b u xs q=>by rw[aU (aZ q hn)];exact q
 tbls:=fun b ps q=>⟨#[],by rw[aU (aZ q hn),q];simp⟩
theorem Un.write (mu:Mut (H x))(he:e=x\/H e=some (.own x))(k:∀ b u,b≠e->h.get? b=some u->h'.get? b=some u)(heo:∃ u,h'.get? e=some u):Un fs ex H (upd H x o) h h':=by
 have hx:∀ b,H b=none->b≠x:=fun b n z=>by subst z;rw[n]at mu;exact mu
 have hb:∀ b,H b=none->b≠e:=fun b n z=>by
  subst z;rcases he with r | r
  · exact hx b n r
  · rw[n]at r;cases r
 have hm:∀ b u,H b=some u->¬ Mut (some u)->b≠x:=fun b u q nm z=>by subst z;rw[q]at mu;exact nm mu
 refine⟨fun b u q n _ _=>k b u (hb b n) q,fun b u q n _ _=>⟨u.slots,k b u (hb b n) q⟩,fun b u q n _=>by rw[aU (hx b n)];exact n,fun b u q _=>?_,
  fun b xs q=>by rw[aU (hm b _ q fun z=>z)];exact q,fun b u xs q=>by rw[aU (hm b _ q fun z=>z)];exact q,fun b ps q=>⟨#[],by rw[aU (hm b _ q fun z=>z),q];simp⟩⟩
 by_cases hbe:b=e
 · subst hbe;exact heo
 · exact⟨u,k b u hbe q⟩
end
def trk (h:Heap)(H:Hp):List Addr:=(Bp h.objs.size).filter fun a=>(H a).isSome
def tF (h:Heap)(H:Hp):Heap:=Dx h (trk h H)
theorem aAz (h:Heap)(H:Hp):(tF h H).objs.size=h.objs.size:=PySem.W.hideAll_size _ _
theorem aEh {h:Heap}{H:Hp}{b:Addr}{o:Obj}(e:h.get? b=some o)(n:H b=none):(tF h H).get? b=some o :=
 PySem.W.hideAll_get _ e fun hm=>by
  have q:(H b).isSome=true:=(Et.mp hm).2;rw[n]at q;simp at q
theorem aF2 {h:Heap}{H:Hp}{b:Addr}{o:Obj}(e:(tF h H).get? b=some o):h.get? b=some o/\H b=none:=by
 have e':h.get? b=some o:=PySem.W.of_hideAll (trk h H) e;refine⟨e',?_⟩
 cases q:H b with
 | none=>rfl
 | some x =>
  have hm:b∈trk h H:=Et.mpr ⟨List.mem_range.mpr (Ab e'),by simp[q]⟩
  have z:(tF h H).get? b=none:=PySem.W.hideAll_none (trk h H) hm;rw[z]at e;cases e
end L2
namespace L2
open PySem PySem.Spec PyProof.Rows
structure Mod (K:PySem.W.Frag)(mg:Str->Option Value)(base:Heap):Prop where
 kin:K.In base
 glob:base.Ns mainGlobals mg
 blt:∃ mb,base.Ns builtinsNs mb/\∀ x:Str,x ≠ "__name__"->mb x=bootBuiltins x
 nolimit:base.NoLimit
structure Cx where
 prog:Program
 w:World
 K:PySem.W.Frag
 mg:Str->Option Value
 base:Heap
 A:Around
 N:List Str
 s₀:Shared
 H₀:Hp
 env:Env
 outer:List Env
 stack:List Env
 ex:List Addr
 fn:Str->Bool
 calm:Bool
 pn:List (Addr×Obj)
 xe:Value->Shared->Prop
def frs (l:List Env):List Addr:=l.filterMap (·.frame)
abbrev Cx.fs (X:Cx):List Addr:=frs X.outer
def Vis (sc:Scope)(x:Str):Prop:=sc.names.lookup x=some .local\/sc.names.lookup x=some .cell\/sc.names.lookup x=some .free
def Loc (sc:Scope)(x:Str):Prop:=sc.names.lookup x=some .local\/sc.names.lookup x=some .cell
def aN6 (env:Env)(h:Heap)(m:Str->Option Value)(x:Str)(u:Value):Prop :=
 (env.kindOf x=some .local/\m x=some u)\/((env.kindOf x=some .cell\/env.kindOf x=some .free)/\∃ c,env.cells.lookup x=some c/\h.IsCell c (some u))
structure Cx.Ok (X:Cx):Prop where
 mod:Mod X.K X.mg X.base
 kind:X.env.scope.kind=.function
 glob:X.env.globals=mainGlobals
 blt:X.env.builtins=builtinsNs
 above:X.s₀.heap.objs.size<=X.env.locals
 inj:∀ x y c,X.env.cells.lookup x=some c->X.env.cells.lookup y=some c->x=y
 has:∀ x,(X.env.kindOf x=some .cell\/X.env.kindOf x=some .free)->∃ c,X.env.cells.lookup x=some c
 cab:∀ x c,X.fn x=true->X.env.cells.lookup x=some c->X.s₀.heap.objs.size<=c
 hd:X.calm=true->X.A.handled=none
 frames:X.A.frames=some X.stack
 stk:X.stack=X.outer\/(X.stack=X.env :: X.outer/\X.env.frame=some X.env.locals)
 exf:∀ b∈X.ex,b≠X.env.locals/\∀ x c,X.env.cells.lookup x=some c->c≠b
 bs:∀ b o,X.base.get? b=some o->X.s₀.heap.get? b=some o/\X.H₀ b=none
 bsz:X.base.objs.size<=X.s₀.heap.objs.size
 noex:∀ b o,X.base.get? b=some o->b∉X.ex
 exfs:∀ b∈X.ex,b∉X.fs
 funs:X.s₀.heap.FunFrames X.base X.outer
 frf:∀ b∈X.fs,X.H₀ b=none
structure Inv (X:Cx)(pins:List (Addr×Obj))(σ:List (Option V))(H:Hp)(s:Shared):Prop where
 ok:X.Ok
 os:s.os=X.s₀.os
 bare:AllBare s.gens
 base:Un X.fs X.ex X.H₀ H X.s₀.heap s.heap
 loc:∃ m,s.heap.Ns X.env.locals m/\∀ (i:Nat) (x:Str) (v:V),X.N[i]?=some x->σ[i]?=some (some v)->Vis X.env.scope x->∃ u,bD v u/\aN6 X.env s.heap m x u
 cell:∀ x c,X.env.cells.lookup x=some c->∃ v,s.heap.IsCell c v
 free:H X.env.locals=none
 freeC:∀ x c,X.env.cells.lookup x=some c->H c=none
 pin:∀ p∈X.pn++pins,s.heap.get? p.1=some p.2/\H p.1=none/\p.1≠X.env.locals/\p.1∉X.fs/\∀ v,p.2.data≠.cell v
 hok:HOk X.prog X.w H s.heap
 len:σ.length=X.N.length
section
variable {X:Cx}{pins:List (Addr×Obj)}{σ:List (Option V)}{H H':Hp}{s:Shared}{h':Heap}
theorem Cx.Ok.nofr (ok:X.Ok){b:Addr}{o:Obj}(e:X.base.get? b=some o):b∉X.fs:=fun hb=>by
 have:=(ok.funs.mem hb).1
 rw[e]at this;cases this
theorem Inv.bs (I:Inv X pins σ H s):∀ b o,X.base.get? b=some o->s.heap.get? b=some o/\H b=none:=fun b o e =>
 ⟨I.base.keep b o (I.ok.bs b o e).1 (I.ok.bs b o e).2 (I.ok.nofr e) (I.ok.noex b o e),I.base.free b o (I.ok.bs b o e).1 (I.ok.bs b o e).2 (I.ok.noex b o e)⟩
theorem Inv.bk (I:Inv X pins σ H s):∀ b o,X.base.get? b=some o->s.heap.get? b=some o:=fun b o e=>(I.bs b o e).1
theorem Inv.mod (I:Inv X pins σ H s):Mod X.K X.mg X.base:=I.ok.mod
theorem Inv.kIn (I:Inv X pins σ H s):X.K.In s.heap:=I.ok.mod.kin.keeps I.bk
theorem Inv.fr (I:Inv X pins σ H s):∃ m,Fr X.base X.env.locals s.heap m :=
 let ⟨m,hn,_⟩:=I.loc
 ⟨m,hn,I.bk,Bo I.ok.bsz I.ok.above⟩
theorem Inv.lt (I:Inv X pins σ H s):X.env.locals<s.heap.objs.size:=let ⟨_,hn,_⟩:=I.loc;hn.lt
theorem Inv.sz (I:Inv X pins σ H s):X.s₀.heap.objs.size<=s.heap.objs.size:=Bo I.ok.above (Ea I.lt)
theorem Inv.nofs (I:Inv X pins σ H s){a:Addr}(h:s.heap.objs.size<=a):a∉X.fs:=fun hb=>by
 obtain⟨_,o,ho,_⟩:=I.ok.funs.mem hb;exact absurd (Aj (Ab ho) (Bo I.sz h)) (Cj _)
theorem Inv.cne (I:Inv X pins σ H s):∀ x c,X.env.cells.lookup x=some c->c≠X.env.locals:=fun x c e z=>by
 obtain⟨v,o,ho,hd⟩:=I.cell x c e;obtain⟨m,⟨o',es,ep,ho',hd',_⟩,_⟩:=I.loc;rw[z,ho']at ho;cases ho;rw[hd']at hd;cases hd
theorem Inv.funs (I:Inv X pins σ H s):s.heap.FunFrames X.base X.outer:=by
 have all:∀ (l:List Env),(∀ b∈frs l,b∈X.fs)->X.s₀.heap.FunFrames X.base l->s.heap.FunFrames X.base l:=by
  intro l;induction l with
  | nil=>intro _ _;trivial
  | cons env r ih =>
   intro hs hl;obtain⟨hk,⟨L,o,hf,hn,ho,hd⟩,hr⟩:=hl;have hL:L∈X.fs:=hs L (by unfold frs;rw[De,hf];exact Ap)
   obtain⟨sl,e⟩:=I.base.slot L o ho (I.ok.frf L hL) hL fun z=>I.ok.exfs L z hL;exact⟨hk,⟨L,_,hf,hn,e,hd⟩,ih (fun b hb=>hs b (by unfold frs;rw[De,hf];exact Am _ hb)) hr⟩
 exact all X.outer (fun _ hb=>hb) I.ok.funs
theorem Inv.stack (I:Inv X pins σ H s):s.heap.FunFrames X.base X.stack:=by
 rcases I.ok.stk with e | ⟨e,hf⟩
 · rw[e];exact I.funs
 · rw[e]
   obtain⟨m,hn,_⟩:=I.loc;refine .cons (by rw[I.ok.kind];decide) hf hn ?_ I.funs
   exact Heap.get?_none_of_le (Bo I.ok.bsz I.ok.above)
theorem Inv.stkSub (I:Inv X pins σ H s):∀ b∈frs X.stack,b∈X.env.locals :: X.fs:=fun b hb=>by
 rcases I.ok.stk with e | ⟨e,hf⟩
 · rw[e]at hb;exact Am _ hb
 · rw[e]at hb
   unfold frs at hb;rw[De,hf]at hb;exact hb
theorem Inv.stkFree (I:Inv X pins σ H s):∀ b∈frs X.stack,H b=none:=fun b hb=>by
 rcases Ag.mp (I.stkSub b hb) with e | hb
 · rw[e];exact I.free
 · obtain⟨_,o,ho,_⟩:=I.ok.funs.mem hb
   exact I.base.free b o ho (I.ok.frf b hb) fun z=>I.ok.exfs b z hb
theorem Inv.step {g':Array GenState}{t':Nat}{d':Drawn}{ch:List Addr}(I:Inv X pins σ H s)
 (hch:∀ b∈ch,(b∈X.ex\/X.s₀.heap.objs.size<=b)/\b≠X.env.locals/\(∀ x c,X.env.cells.lookup x=some c->c≠b)/\∀ p∈X.pn++pins,p.1≠b)
 (keep:∀ b o,b≠X.env.locals->b∉X.fs->b∉ch->s.heap.get? b=some o->H b=none->h'.get? b=some o)
 (slot:∀ b o,b≠X.env.locals->b∈X.fs->b∉ch->s.heap.get? b=some o->H b=none->∃ sl,h'.get? b=some { o with slots:=sl }) (free:∀ b o,b∉ch->s.heap.get? b=some o->H b=none->H' b=none)
 (there:∀ b o,b∉ch->s.heap.get? b=some o->∃ o',h'.get? b=some o')
 (tups:∀ b xs,H b=some (.tup xs)->H' b=some (.tup xs)) (frzs:∀ b o u,H b=some (.frz o u)->H' b=some (.frz o u)) (tbls:∀ b ps,H b=some (.tbl ps)->∃ more,H' b=some (.tbl (ps++more)))
 (ns:∀ m,s.heap.Ns X.env.locals m->h'.Ns X.env.locals m) (hok:HOk X.prog X.w H' h') (hg:AllBare g') :
 Inv X pins σ H' { s with heap:=h',gens:=g',drawn:=d',toks:=t' }:=by
 have neL:∀ b o,X.s₀.heap.get? b=some o->b≠X.env.locals:=fun b o e=>Ak (Aj (Ab e) I.ok.above)
 have neC:∀ b o,X.s₀.heap.get? b=some o->b∉X.ex->b∉ch:=fun b o e hx hb=>by
  rcases (hch b hb).1 with z | z
  · exact hx z
  · exact absurd (Aj (Ab e) z) (Cj _)
 have cellK:∀ x c,X.env.cells.lookup x=some c->∀ v,s.heap.IsCell c v->h'.IsCell c v:=fun x c e v ⟨o,ho,hd⟩=>by
  have nch:c∉ch:=fun z=>(hch c z).2.2.1 x c e rfl;by_cases hc:c∈X.fs
  · obtain⟨sl,q⟩:=slot c o (I.cne x c e) hc nch ho (I.freeC x c e)
    exact⟨_,q,hd⟩
  · exact⟨o,keep c o (I.cne x c e) hc nch ho (I.freeC x c e),hd⟩
 refine⟨I.ok,I.os,hg,⟨fun b o e n hb hx=>?_,fun b o e n hb hx=>?_,fun b o e n hx=>?_,fun b o e hx=>?_,fun b xs e=>tups b xs (I.base.tups b xs e),fun b o xs e=>frzs b o xs (I.base.frzs b o xs e),fun b ps e=>?_⟩,?_,fun x c e=>?_,?_,fun x c e=>?_,fun p hp=>?_,hok,I.len⟩
 · exact keep b o (neL b o e) hb (neC b o e hx) (I.base.keep b o e n hb hx) (I.base.free b o e n hx)
 · obtain⟨sl,e1⟩:=I.base.slot b o e n hb hx
   obtain⟨sl',e2⟩:=slot b _ (neL b o e) hb (neC b o e hx) e1 (I.base.free b o e n hx);exact⟨sl',e2⟩
 · obtain⟨o',e1⟩:=I.base.there b o e hx
   exact free b o' (neC b o e hx) e1 (I.base.free b o e n hx)
 · obtain⟨o',e1⟩:=I.base.there b o e hx
   exact there b o' (neC b o e hx) e1
 · obtain⟨m1,e1⟩:=I.base.tbls b ps e
   obtain⟨m2,e2⟩:=tbls b _ e1;exact⟨m1++m2,by rw[e2,Array.append_assoc]⟩
 · obtain⟨m,hn,hl⟩:=I.loc
   refine⟨m,ns m hn,fun i x v e1 e2 e3=>?_⟩
   obtain⟨u,r,l⟩:=hl i x v e1 e2 e3;refine⟨u,r,?_⟩
   rcases l with l | ⟨k,c,e,z⟩
   · exact .inl l
   · exact .inr ⟨k,c,e,cellK x c e _ z⟩
 · obtain⟨v,z⟩:=I.cell x c e
   exact⟨v,cellK x c e v z⟩
 · obtain⟨m,⟨o,_,_,ho,_⟩,_⟩:=I.loc
   exact free _ o (fun z=>(hch _ z).2.1 rfl) ho I.free
 · obtain⟨v,o,ho,hd⟩:=I.cell x c e
   exact free c o (fun z=>(hch c z).2.2.1 x c e rfl) ho (I.freeC x c e)
 · obtain⟨e,n,ne,nf,d⟩:=I.pin p hp
   have nch:p.1∉ch:=fun z=>(hch p.1 z).2.2.2 p hp rfl;exact⟨keep p.1 p.2 ne nf nch e n,free p.1 p.2 nch e n,ne,nf,d⟩
theorem Inv.un {t':Nat}(I:Inv X pins σ H s)(u:Un X.fs [] H H' s.heap h')(hok:HOk X.prog X.w H' h'):Inv X pins σ H' { s with heap:=h',toks:=t' }:=by
 obtain⟨m,⟨o,es,ep,ho,r⟩,_⟩:=id I.loc;obtain⟨sl,hL⟩:=u.any ho I.free (by simp)
 exact I.step (g':=s.gens) (d':=s.drawn) (ch:=[]) (fun _ z=>nomatch z) (fun b o _ hb _ e n=>u.keep b o e n hb (by simp)) (fun b o _ hb _ e n=>u.slot b o e n hb (by simp)) (fun b o _ e n=>u.free b o e n (by simp)) (fun b o _ e=>u.there b o e (by simp)) u.tups u.frzs u.tbls (fun m' hm=>by
  obtain⟨o',es',ep',ho',r'⟩:=hm;rw[ho]at ho';cases ho'
  exact⟨_,es',ep',hL,r'⟩) hok I.bare
theorem Inv.call {g':Array GenState}{t':Nat}{d':Drawn}{ch:List Addr}(I:Inv X pins σ H s)(u:Un (frs X.stack) ch H H' s.heap h')(hok:HOk X.prog X.w H' h')(hg:AllBare g')
 (hch:∀ b∈ch,(b∈X.ex\/X.s₀.heap.objs.size<=b)/\b≠X.env.locals/\(∀ x c,X.env.cells.lookup x=some c->c≠b)/\∀ p∈X.pn++pins,p.1≠b) :
 Inv X pins σ H' { s with heap:=h',gens:=g',drawn:=d',toks:=t' }:=by
 obtain⟨m,⟨o,es,ep,ho,r⟩,_⟩:=id I.loc;obtain⟨sl,hL⟩:=u.any ho I.free fun z=>(hch _ z).2.1 rfl
 exact I.step (ch:=ch) hch (fun b o hL hb hc e n=>u.keep b o e n (fun z=>(Ag.mp (I.stkSub b z)).elim hL hb) hc) (fun b o _ _ hc e n=>u.any e n hc) (fun b o hc e n=>u.free b o e n hc) (fun b o hc e=>u.there b o e hc) u.tups u.frzs u.tbls (fun m' hm=>by
  obtain⟨o',es',ep',ho',r'⟩:=hm;rw[ho]at ho';cases ho'
  exact⟨_,es',ep',hL,r'⟩) hok hg
theorem Inv.turned {t':Nat}{it:Addr}(I:Inv X pins σ H s)(k:∀ b o,b≠it->s.heap.get? b=some o->h'.get? b=some o)(hn:H it=none)(hL:it≠X.env.locals)
 (h1:it∈X.ex\/X.s₀.heap.objs.size<=it) (h2:∀ x c,X.env.cells.lookup x=some c->c≠it) (h3:∀ p∈X.pn++pins,p.1≠it):Inv X pins σ H { s with heap:=h',toks:=t' }:=by
 have nit:∀ b u,H b=some u->b≠it:=fun b u e z=>by rw[z,hn]at e;cases e
 refine I.step (g':=s.gens) (d':=s.drawn) (ch:=[it]) (fun b hb=>?_) (fun b o _ _ hc e _=>k b o (fun z=>hc (by simp[z])) e) (fun b o _ _ hc e _=>⟨o.slots,k b o (fun z=>hc (by simp[z])) e⟩) (fun _ _ _ _ n=>n)
  (fun b o hc e=>⟨o,k b o (fun z=>hc (by simp[z])) e⟩) (fun _ _ e=>e) (fun _ _ _ e=>e) (fun b ps e=>⟨#[],by rw[e];simp⟩) (fun m hm=>?_) (fun b u e=>?_) I.bare
 · have e:b=it:=by simpa using hb
   subst e;exact⟨h1,hL,h2,h3⟩
 · obtain⟨o,es,ep,ho,r⟩:=hm
   exact⟨o,es,ep,k _ o (Ne.symm hL) ho,r⟩
 · refine(I.hok b u e).stay (fun c v hc q=>k c v ?_ q) (fun _ q=>q) fun _ _ q=>q
   rcases hc with z | z
   · rw[z];exact nit b u e
   · exact nit c _ z
theorem Inv.tok (I:Inv X pins σ H s)(t:Nat):Inv X pins σ H { s with toks:=t }:=I.un (h':=s.heap) (t':=t) Un.refl I.hok
theorem Inv.kept {t':Nat}(I:Inv X pins σ H s)(k:∀ b u,s.heap.get? b=some u->h'.get? b=some u):Inv X pins σ H { s with heap:=h',toks:=t' }:=I.un (Un.kept k) (I.hok.kept k)
theorem Inv.laid {a:Addr}{o:HO}{t':Nat}(I:Inv X pins σ H s)(k:∀ b u,s.heap.get? b=some u->h'.get? b=some u)(hp:s.heap.objs.size<=a)(new:bM X.prog X.w (upd H a o) h' a o) :
 Inv X pins σ (upd H a o) { s with heap:=h',toks:=t' }:=I.un (Un.laid k hp (I.hok.fresh hp)) (I.hok.laid k hp new)
theorem Inv.write {x e:Addr}{o:HO}{t':Nat}(I:Inv X pins σ H s)(mu:Mut (H x))(he:e=x\/H e=some (.own x))(k:∀ b u,b≠e->s.heap.get? b=some u->h'.get? b=some u)(heo:∃ u,h'.get? e=some u)
 (new:bM X.prog X.w (upd H x o) h' x o):Inv X pins σ (upd H x o) { s with heap:=h',toks:=t' }:=I.un (Un.write mu he k heo) (I.hok.write mu he k heo new)
theorem Inv.weak {σ':List (Option V)}(I:Inv X pins σ H s)(hl:σ'.length=σ.length)(w:∀ (i:Nat) v,σ'[i]?=some (some v)->σ[i]?=some (some v)):Inv X pins σ' H s :=
 ⟨I.ok,I.os,I.bare,I.base,let ⟨m,hn,hl'⟩:=I.loc;⟨m,hn,fun i x v e1 e2 e3=>hl' i x v e1 (w i v e2) e3⟩,I.cell,I.free,I.freeC,I.pin,I.hok,hl.trans I.len⟩
theorem Inv.pins_of {pins':List (Addr×Obj)}(I:Inv X pins σ H s)(h:∀ p∈pins',s.heap.get? p.1=some p.2/\H p.1=none/\p.1≠X.env.locals/\p.1∉X.fs/\∀ v,p.2.data≠.cell v):Inv X pins' σ H s :=
 ⟨I.ok,I.os,I.bare,I.base,I.loc,I.cell,I.free,I.freeC,fun p hp=>(Ch.mp hp).elim (fun z=>I.pin p (Dw _ z)) (h p),I.hok,I.len⟩
theorem vP {N:List Str}(hN:N.Nodup){i j:Nat}{x:Str}(a:N[i]?=some x)(b:N[j]?=some x):i=j:=by
 obtain⟨h1,e1⟩:=Af.mp a;obtain⟨h2,e2⟩:=Af.mp b;exact(Em hN).mp (e1.trans e2.symm)
theorem aA8 {M:Model}{A:Around}{E:Value->Shared->Prop}{i:Nat}{x:Str}{v:V}{u:Value}{Q:Unit->Shared->Prop}(I:Inv X pins σ H s)(hN:X.N.Nodup)(hi:X.N[i]?=some x)(hx:Loc X.env.scope x)(r:bD v u)
 (h:∀ s',Inv X pins (σ.set i (some v)) H s'->(∃ a,Heap.SameBut a s.heap s'.heap/\(a=X.env.locals\/X.env.cells.lookup x=some a))->Q () s') (hf:X.fn x=true\/X.env.scope.names.lookup x=some .local:=by first | exact .inl rfl | exact .inr rfl | assumption):wpAny M A (storeName X.env x u) Q E s:=by
 obtain⟨m,hn,hl⟩:=id I.loc;have hcls:(X.env.scope.kind==.class||(X.env.scope.kind==.module&&X.env.locals != X.env.globals))=false:=by rw[I.ok.kind];rfl
 have hiσ:i<σ.length:=by rw[I.len];exact(Af.mp hi).1
 have cne:=I.cne
 have tracked:∀ {a:Addr} {h':Heap},(∃ o,s.heap.get? a=some o/\H a=none)->Heap.SameBut a s.heap h'->HOk X.prog X.w H h':=fun {a h'} ha hs b ob e=>by
  obtain⟨_,_,hfree⟩:=ha;refine(I.hok b ob e).stay (fun c w' hc q=>(hs.2 c ?_).trans q) (fun _ q=>q) fun _ _ q=>q
  rintro rfl
  rcases hc with rfl | hc
  · rw[hfree]at e;cases e
  · rw[hfree]at hc;cases hc
 rcases hx with hk | hk
 · refine wpAny_storeName_local hk hn (fun h' hn' hs=>?_) hcls
   obtain⟨oL,_,_,hoL,_⟩:=id hn;refine h _ ⟨I.ok,I.os,I.bare,⟨fun b o e n hb hx=>?_,fun b o e n hb hx=>?_,I.base.free,fun b o e hx=>?_,I.base.tups,I.base.frzs,I.base.tbls⟩,⟨_,hn',fun j y v' e1 e2 e3=>?_⟩,fun y c e=>?_,I.free,I.freeC,fun p hp=>?_,tracked ⟨oL,hoL,I.free⟩ hs,by simpa using I.len⟩ ⟨_,hs,.inl rfl⟩
   · exact(hs.2 b (Ak (Aj (Ab e) I.ok.above))).trans (I.base.keep b o e n hb hx)
   · obtain⟨sl,e1⟩:=I.base.slot b o e n hb hx
     exact⟨sl,(hs.2 b (Ak (Aj (Ab e) I.ok.above))).trans e1⟩
   · obtain⟨o',e1⟩:=I.base.there b o e hx
     exact⟨o',(hs.2 b (Ak (Aj (Ab e) I.ok.above))).trans e1⟩
   · by_cases hj:j=i
     · subst hj
       rw[hi]at e1;cases e1;rw[An hiσ]at e2;cases e2;exact⟨u,r,.inl ⟨hk,by simp⟩⟩
     · rw[Ah (Ne.symm hj)]at e2
       obtain⟨u',r',q⟩:=hl j y v' e1 e2 e3;refine⟨u',r',?_⟩
       rcases q with ⟨k,e⟩ | ⟨k,c,e,z⟩
       · refine .inl ⟨k,?_⟩
         have:y≠x:=fun e=>hj (vP hN e1 (e▸hi))
         simp[this,e]
       · exact .inr ⟨k,c,e,z.sameBut hs (cne y c e)⟩
   · obtain⟨w',z⟩:=I.cell y c e
     exact⟨w',z.sameBut hs (cne y c e)⟩
   · obtain⟨e,n,ne,nf,d⟩:=I.pin p hp
     exact⟨(hs.2 p.1 ne).trans e,n,ne,nf,d⟩
 · have hfn:X.fn x=true:=by
    rcases hf with z | z
    · exact z
    · rw[z]at hk;cases hk
   obtain⟨c,hc⟩:=I.ok.has x (.inl hk);obtain⟨w',z⟩:=I.cell x c hc;refine wpAny_storeName_cell I.ok.kind hk hc z (fun h' hc' hs=>?_)
   obtain⟨oc,hoc,hocd⟩:=id z;refine h { s with heap:=h' } ⟨I.ok,I.os,I.bare,⟨fun b o e n hb hx=>?_,fun b o e n hb hx=>?_,I.base.free,fun b o e hx=>?_,I.base.tups,I.base.frzs,I.base.tbls⟩,⟨m,hn.sameBut hs (Ne.symm (cne x c hc)),fun j y v' e1 e2 e3=>?_⟩,fun y c' e=>?_,I.free,I.freeC,fun p hp=>?_,tracked ⟨oc,hoc,I.freeC x c hc⟩ hs,by simpa using I.len⟩ ⟨c,hs,.inr hc⟩
   · exact(hs.2 b (Ak (Aj (Ab e) (I.ok.cab x c hfn hc)))).trans (I.base.keep b o e n hb hx)
   · obtain⟨sl,e1⟩:=I.base.slot b o e n hb hx
     exact⟨sl,(hs.2 b (Ak (Aj (Ab e) (I.ok.cab x c hfn hc)))).trans e1⟩
   · obtain⟨o',e1⟩:=I.base.there b o e hx
     exact⟨o',(hs.2 b (Ak (Aj (Ab e) (I.ok.cab x c hfn hc)))).trans e1⟩
   · by_cases hj:j=i
     · subst hj
       rw[hi]at e1;cases e1;rw[An hiσ]at e2;cases e2;exact⟨u,r,.inr ⟨.inl hk,c,hc,hc'⟩⟩
     · rw[Ah (Ne.symm hj)]at e2
       obtain⟨u',r',q⟩:=hl j y v' e1 e2 e3;refine⟨u',r',?_⟩
       rcases q with q | ⟨k,c',e,z'⟩
       · exact .inl q
       · refine .inr ⟨k,c',e,z'.sameBut hs ?_⟩
         rintro rfl
         exact hj (vP hN e1 (I.ok.inj _ _ _ e hc▸hi))
   · by_cases hcc:c'=c
     · subst hcc;exact⟨_,hc'⟩
     · obtain⟨w2,z2⟩:=I.cell y c' e
       exact⟨w2,z2.sameBut hs hcc⟩
   · obtain⟨e,n,ne,nf,d⟩:=I.pin p hp
     refine⟨(hs.2 p.1 ?_).trans e,n,ne,nf,d⟩
     intro q;rw[q,hoc]at e;have q':oc=p.2:=Bn.inj e;exact d w' (by rw[←q'];exact hocd)
theorem hE {M:Model}{A:Around}{E:Value->Shared->Prop}{i:Nat}{x:Str}{v:V}{u:Value}{Q:Unit->Shared->Prop}(I:Inv X pins σ H s)(hN:X.N.Nodup)(hi:X.N[i]?=some x)(hx:Loc X.env.scope x)(r:bD v u)
 (h:∀ s',Inv X pins (σ.set i (some v)) H s'->Q () s') (hf:X.fn x=true\/X.env.scope.names.lookup x=some .local:=by first | exact .inl rfl | exact .inr rfl | assumption):wpAny M A (storeName X.env x u) Q E s :=
 aA8 I hN hi hx r (fun s' I' _=>h s' I') hf
theorem Inv.call' {s':Shared}{ch:List Addr}(I:Inv X pins σ H s)(ho:s'.os=s.os)(u:Un (frs X.stack) ch H H' s.heap s'.heap)(hok:HOk X.prog X.w H' s'.heap)(hg:AllBare s'.gens)
 (hch:∀ b∈ch,(b∈X.ex\/X.s₀.heap.objs.size<=b)/\b≠X.env.locals/\(∀ x c,X.env.cells.lookup x=some c->c≠b)/\∀ p∈X.pn++pins,p.1≠b):Inv X pins σ H' s':=by
 obtain⟨h',g',d',t',o'⟩:=s';have e:o'=s.os:=ho;subst e;exact I.call (g':=g') (t':=t') (d':=d') u hok hg hch
end
abbrev XK:=Value->Option Addr->Hp->Prop
abbrev St:=List (Option V)
abbrev VK:=V->Hp->Prop
abbrev TE:=St->Hp->VK->Prop
abbrev TT:=St->Hp->(Bool->Hp->Prop)->Prop
abbrev TA:=St->Hp->(List V->Hp->Prop)->Prop
structure Ends where
 nx:St->Hp->Prop
 rt:VK
 bk:St->Hp->Prop:=fun _ _=>False
 ct:St->Hp->Prop:=fun _ _=>False
abbrev TS:=Ends->St->Hp->Prop
def EP (X:Cx)(pins:List (Addr×Obj))(σ:St)(Q:VK)(u:Value)(s':Shared):Prop:=∃ v H',Inv X pins σ H' s'/\bD v u/\Q v H'
def TP (X:Cx)(pins:List (Addr×Obj))(σ:St)(Q:Bool->Hp->Prop)(b:Bool)(s':Shared):Prop:=∃ H',Inv X pins σ H' s'/\Q b H'
def AP (X:Cx)(pins:List (Addr×Obj))(σ:St)(Q:List V->Hp->Prop)(us:List Value)(s':Shared):Prop:=∃ vs H',Inv X pins σ H' s'/\bC vs us/\Q vs H'
def SP (X:Cx)(pins:List (Addr×Obj))(D:Ends)(f:Flow)(s':Shared):Prop :=
 match f with
 | .next=>∃ σ' H',Inv X pins σ' H' s'/\D.nx σ' H'
 | .brk=>∃ σ' H',Inv X pins σ' H' s'/\D.bk σ' H'
 | .cont=>∃ σ' H',Inv X pins σ' H' s'/\D.ct σ' H'
 | .ret u=>∃ v σ' H',Inv X pins σ' H' s'/\bD v u/\D.rt v H'
def PE (X:Cx)(e:Expr)(t:TE):Prop :=
 ∀ (pins:List (Addr×Obj)) (s:Shared) (σ:St) (H:Hp) (Q:VK),Inv X pins σ H s->t σ H Q->wpAny (model X.prog X.w) X.A (eval e X.env) (EP X pins σ Q) X.xe s
def PT (X:Cx)(e:Expr)(t:TT):Prop :=
 ∀ (pins:List (Addr×Obj)) (s:Shared) (σ:St) (H:Hp) (Q:Bool->Hp->Prop),Inv X pins σ H s->t σ H Q->wpAny (model X.prog X.w) X.A (isTrue e X.env (eval e X.env)) (TP X pins σ Q) X.xe s
def PW (X:Cx)(e:Expr)(t:TT):Prop :=
 ∀ (whole:Sem Value) (pins:List (Addr×Obj)) (s:Shared) (σ:St) (H:Hp) (Q:Bool->Hp->Prop),Inv X pins σ H s->t σ H Q->wpAny (model X.prog X.w) X.A (isTrue e X.env whole) (TP X pins σ Q) X.xe s
theorem PW.pt {X:Cx}{e:Expr}{t:TT}(h:PW X e t):PT X e t:=h _
def PA (X:Cx)(es:List Expr)(t:TA):Prop :=
 ∀ (pos:Pos) (pins:List (Addr×Obj)) (s:Shared) (σ:St) (H:Hp) (Q:List V->Hp->Prop),Inv X pins σ H s->t σ H Q->wpAny (model X.prog X.w) X.A (spliced (backTo pos (starEach es X.env))) (AP X pins σ Q) X.xe s
def PS (X:Cx)(st:Stmt)(t:TS):Prop :=
 ∀ (pins:List (Addr×Obj)) (s:Shared) (σ:St) (H:Hp) (D:Ends),Inv X pins σ H s->t D σ H->wpAny (model X.prog X.w) X.A (exec st X.env) (SP X pins D) X.xe s
def PSs (X:Cx)(st:List Stmt)(t:TS):Prop :=
 ∀ (pins:List (Addr×Obj)) (s:Shared) (σ:St) (H:Hp) (D:Ends),Inv X pins σ H s->t D σ H->wpAny (model X.prog X.w) X.A (execs st X.env) (SP X pins D) X.xe s
theorem thn {α:Type}{t:Sem α}{Q Q':α->Shared->Prop}{M:Model}{A:Around}{E:Value->Shared->Prop}{s:Shared}(h:wpAny M A t Q E s)(hQ:∀ a s,Q a s->Q' a s):wpAny M A t Q' E s:=wpAny_mono h hQ fun _ _ x=>x
end L2
namespace L2
open PySem PySem.Spec PyProof.Rows
section
variable {X:Cx}
theorem bin {a b:Expr}{ta tb:TE}(ha:PE X a ta)(hb:PE X b tb){pins:List (Addr×Obj)}{s:Shared}{σ:St}{H:Hp}{R:V->V->Hp->Prop}(I:Inv X pins σ H s)(h:ta σ H fun x H1=>tb σ H1 fun y H2=>R x y H2)
 {α:Type} {Q:α->Shared->Prop} {f:Value->Value->Sem α}
 (hf:∀ v u s2 x y H2,Inv X pins σ H2 s2->bD x v->bD y u->R x y H2->wpAny (model X.prog X.w) X.A (f v u) Q X.xe s2) :
 wpAny (model X.prog X.w) X.A (eval a X.env) (fun v s₁=>wpAny (model X.prog X.w) X.A (eval b X.env) (fun u s₂=>wpAny (model X.prog X.w) X.A (f v u) Q X.xe s₂) X.xe s₁) X.xe s:=by
 refine thn (ha pins s σ H _ I h) fun v s1 ⟨x,H1,I1,r1,q1⟩=>?_
 refine thn (hb pins s1 σ H1 _ I1 q1) fun u s2 ⟨y,H2,I2,r2,q2⟩=>?_
 exact hf v u s2 x y H2 I2 r1 r2 q2
def nA (i:Nat):TE:=fun σ H Q=>∃ v,σ[i]?=some (some v)/\Q v H
def tC (v:V):TE:=fun _ H Q=>Q v H
theorem kT {i:Nat}{x:Str}{pos:Pos}(hN:X.N[i]?=some x)(hv:Vis X.env.scope x)(hd:(x==("__debug__":Str))=false:=by decide)(hcd:(x==("__classdict__":Str))=false:=by decide):PE X (.Name x pos) (nA i):=by
 intro pins s σ H Q I h;obtain⟨v,e,h⟩:=h;obtain⟨m,hn,hl⟩:=I.loc;obtain⟨u,r,l⟩:=hl i x v hN e hv;have fin:EP X pins σ Q u s:=⟨v,H,I,r,h⟩;rcases l with ⟨hk,hm⟩ | ⟨hk,c,hc,hcell⟩
 · exact wpAny_Name (wpAny_loadName_local I.ok.kind hk hn hm fin) hd
 · rcases hk with hk | hk
   · exact wpAny_Name (wpAny_loadName_cell I.ok.kind hk hc hcell fin) hd
   · exact wpAny_Name (wpAny_loadName_free I.ok.kind hk hc hcell fin hcd) hd
theorem aJb {i j pos}:PE X (.Constant (.int i) j pos) (tC (.int i)):=fun _ _ _ H _ I h=>wpAny_Constant_int ⟨.int i,H,I.tok _,⟨_,rfl⟩,h⟩
theorem aMd {b j pos}:PE X (.Constant (.bool b) j pos) (tC (.bl b)):=fun _ _ _ H _ I h=>Constant_bool ⟨.bl b,H,I,rfl,h⟩
theorem aLq {j pos}:PE X (.Constant .none j pos) (tC .non):=fun _ _ _ H _ I h=>Constant_none ⟨.non,H,I,rfl,h⟩
theorem aK7 {x j pos}:PE X (.Constant (.str x) j pos) (tC (.str x)):=fun _ _ _ H _ I h=>Calls.Constant_str ⟨.str x,H,I.tok _,⟨_,rfl⟩,h⟩
def Gl (X:Cx)(x:Str):Prop:=X.env.kindOf x=some .globalImplicit
theorem lZ {E:Value->Shared->Prop}{pins:List (Addr×Obj)}{s:Shared}{σ:St}{H:Hp}{x:Str}{u:Value}{pos:Pos}{Q:Value->Shared->Prop}(I:Inv X pins σ H s)(hg:Gl X x)(hm:X.mg x=some u)(h:Q u s)
 (hd:(x==("__debug__":Str))=false:=by decide):wpAny (model X.prog X.w) X.A (eval (.Name x pos) X.env) Q E s :=
 Calls.Name_function_global I.ok.kind hg (Calls.loadGlobal_global (by rw[I.ok.glob];exact I.mod.glob.keeps I.bk) hm h) hd
theorem eY {E:Value->Shared->Prop}{pins:List (Addr×Obj)}{s:Shared}{σ:St}{H:Hp}{x:Str}{u:Value}{pos:Pos}{Q:Value->Shared->Prop}(I:Inv X pins σ H s)(hg:Gl X x)(hm:X.mg x=none)(hv:bootBuiltins x=some u)(h:Q u s)
 (hn:x ≠ "__name__":=by decide) (hd:(x==("__debug__":Str))=false:=by decide):wpAny (model X.prog X.w) X.A (eval (.Name x pos) X.env) Q E s:=by
 obtain⟨mb,h1,h2⟩:=I.mod.blt;exact Calls.Name_function_global I.ok.kind hg (Calls.loadGlobal_builtin (by rw[I.ok.glob];exact I.mod.glob.keeps I.bk) hm (by rw[I.ok.blt];exact h1.keeps I.bk) ((h2 x hn).trans hv) h) hd
theorem cT {x:Str}{v:V}{u:Value}{pos:Pos}(hg:Gl X x)(hm:X.mg x=some u)(r:bD v u)(hd:(x==("__debug__":Str))=false:=by decide):PE X (.Name x pos) (tC v) :=
 fun _ _ _ H _ I h=>lZ I hg hm ⟨v,H,I,r,h⟩ hd
theorem aGe {x:Str}{v:V}{u:Value}{pos:Pos}(hg:Gl X x)(hm:X.mg x=none)(hv:bootBuiltins x=some u)(r:bD v u)(hn:x ≠ "__name__":=by decide)(hd:(x==("__debug__":Str))=false:=by decide):PE X (.Name x pos) (tC v) :=
 fun _ _ _ H _ I h=>eY I hg hm hv ⟨v,H,I,r,h⟩ hn hd
variable {a b:Expr}{ta tb:TE}{pos:Pos}
def PC (X:Cx)(op:CmpOp)(a b:Expr)(t:TE):Prop :=
 ∀ (pins:List (Addr×Obj)) (s:Shared) (σ:St) (H:Hp) (Q:VK),Inv X pins σ H s->t σ H Q ->
  wpAny (model X.prog X.w) X.A (eval a X.env) (fun v s₁=>wpAny (model X.prog X.w) X.A (eval b X.env) (fun u s₂=>wpAny (model X.prog X.w) X.A (compareOp op v u) (EP X pins σ Q) X.xe s₂) X.xe s₁) X.xe s
theorem aEf (b:Expr){op:CmpOp}(h:op≠.In)(h2:op≠.NotIn):behindInMarks op b=false:=by
 have e1:(op==CmpOp.In)=false:=by cases op<;>first | rfl | exact absurd rfl h
 have e2:(op==CmpOp.NotIn)=false:=by cases op<;>first | rfl | exact absurd rfl h2
 cases b<;>simp[behindInMarks,e1,e2]
def aN2 (ta:TE):TE:=fun σ H Q=>ta σ H fun x H1=>Q (.bl (decide (x=.non))) H1
theorem bD.none_iff {x:V}{v:Value}(r:bD x v):(v==Value.none)=decide (x=.non):=by
 cases x with
 | non=>cases r;rfl
 | bl _=>cases r;rfl
 | int _=>obtain⟨t,rfl⟩:=r;rfl
 | str _=>obtain⟨t,rfl⟩:=r;rfl
 | byt _=>obtain⟨t,rfl⟩:=r;rfl
 | flt _=>obtain⟨t,rfl⟩:=r;rfl
 | ref _=>cases r;rfl
 | ty _=>cases r;rfl
theorem aLb {j pos'}(ha:PE X a ta):PC X .Is a (.Constant .none j pos') (aN2 ta):=by
 intro pins s σ H Q I h;refine thn (ha pins s σ H _ I h) fun v s1 ⟨x,H1,I1,r1,q1⟩=>?_
 exact Constant_none (is_none_gen ⟨.bl _,H1,I1,by rw[r1.none_iff];rfl,q1⟩)
def tB (t:TE):TT:=fun σ H Q=>t σ H fun x H1=>∃ c,x=.bl c/\Q c H1
theorem aJl {op:CmpOp}{t:TE}(h:PC X op a b t)(h1:behindInMarks op b=false:=by first | exact aEf _ (by decide) (by decide) | rfl):PT X (.Compare a [op] [b] pos) (tB t):=by
 intro pins s σ H Q I hw;refine wpAny_isTrue_Compare1 (thn (h pins s σ H _ I hw) fun v s1 h1=>thn h1 fun u s2 h2=>thn h2 fun c s3 ⟨x,H1,I1,r1,q1⟩=>?_) h1
 obtain⟨d,rfl,q⟩:=q1;cases r1;exact wpAny_truthy_bool ⟨H1,I1,q⟩
theorem aJn {e:Expr}{t:TE}(h:PE X e t)(he:∀ whole,isTrue e X.env whole=(do let v ← whole;standAt e.pos;holding [v] (truthy v)):=by intro _;rfl):PT X e (tB t):=by
 intro pins s σ H Q I hw;refine isTrue_plain (thn (h pins s σ H _ I hw) fun v s1 ⟨x,H1,I1,r1,q1⟩=>?_) (he _)
 obtain⟨d,rfl,q⟩:=q1;cases r1;exact wpAny_truthy_bool ⟨H1,I1,q⟩
variable {tA tB':TT}{rest:List Expr}
def tOr (t u:TT):TT:=fun σ H Q=>t σ H fun c H1=>if c=true then Q true H1 else u σ H1 Q
def aPm (t:TT):TT:=fun σ H Q=>t σ H fun c H1=>Q (!c) H1
theorem aLv (ha:PT X a tA):PW X (.BoolOp .Or [a] pos) tA:=by
 intro wh pins s σ H Q I h;refine isTrue_or (thn (ha pins s σ H Q I h) fun c s1 e=>?_)
 cases c with
 | false=>exact isTrue_or_nil e
 | true=>exact e
theorem aMr (ha:PT X a tA)(hb:PW X (.BoolOp .Or (b :: rest) pos) tB'):PW X (.BoolOp .Or (a :: b :: rest) pos) (tOr tA tB'):=by
 intro wh pins s σ H Q I h;refine isTrue_or (thn (ha pins s σ H _ I h) fun c s1 ⟨H1,I1,q1⟩=>?_)
 cases c with
 | true=>exact⟨H1,I1,q1⟩
 | false=>exact hb wh pins s1 σ H1 Q I1 q1
theorem aKw (ha:PT X a tA):PT X (.UnaryOp .Not a pos) (aPm tA):=by
 intro pins s σ H Q I h;exact isTrue_not (ha pins s σ H (fun c H1=>Q (!c) H1) I h)
def aNa (ta tb:TE):TE:=fun σ H Q=>ta σ H fun x H1=>∃ c,x=.bl c/\if c=true then tb σ H1 Q else Q (.bl false) H1
theorem aI3 {op}{t:TE}(h:PE X a t):PE X (.BoolOp op [a] pos) t:=fun pins s σ H Q I hw=>BoolOp_one (h pins s σ H Q I hw)
theorem aJ7 (ha:PE X a ta)(hb:PE X (.BoolOp .And (b :: rest) pos) tb):PE X (.BoolOp .And (a :: b :: rest) pos) (aNa ta tb):=by
 intro pins s σ H Q I h;refine BoolOp_and (thn (ha pins s σ H _ I h) fun v s1 ⟨x,H1,I1,r1,q1⟩=>?_)
 obtain⟨c,rfl,q1⟩:=q1;cases r1;refine wpAny_truthy_bool ?_
 cases c with
 | true=>exact hb pins s1 σ H1 Q I1 q1
 | false=>exact⟨.bl false,H1,I1,rfl,q1⟩
def tIf (t:TT)(ta tb:TE):TE:=fun σ H Q=>t σ H fun c H1=>if c=true then ta σ H1 Q else tb σ H1 Q
theorem aCe {c:Expr}(hc:PT X c tA)(ha:PE X a ta)(hb:PE X b tb):PE X (.IfExp c a b pos) (tIf tA ta tb):=by
 intro pins s σ H Q I h;refine wpAny_IfExp (thn (hc pins s σ H _ I h) fun d s1 ⟨H1,I1,q1⟩=>?_)
 cases d with
 | true=>exact ha pins s1 σ H1 Q I1 q1
 | false=>exact hb pins s1 σ H1 Q I1 q1
end
end L2
namespace L2
open PySem PySem.Spec PyProof.Rows
def SqL (K:PySem.W.Frag)(H:Hp)(a:Addr)(xs:List V):Prop :=
 Rd H a (.lst xs) \/
  ∃ (o:Obj) (its:Array Value) (n:Nat),K.lookup a=some o/\o.cls=.type "list"/\o.dict=none/\o.data=.seq its n/\its.size<=sizeLine/\bC xs its.toList
def SqT (K:PySem.W.Frag)(H:Hp)(a:Addr)(xs:List V):Prop :=
 Rd H a (.tup xs) \/
  ∃ (o:Obj) (its:Array Value) (n:Nat),K.lookup a=some o/\o.cls=.type "tuple"/\o.data=.seq its n/\its.size<=sizeLine/\bC xs its.toList
def aPq:Value->Option V
 | .none=>some .non
 | .bool b=>some (.bl b)
 | .int i _=>some (.int i)
 | .str x _=>some (.str x)
 | .bytes b _=>some (.byt b)
 | .float b _=>some (.flt b)
 | .ref a=>some (.ref a)
 | .type n=>some (.ty n)
 | _=>none
theorem bD.abs {x:V}{u:Value}(r:bD x u):aPq u=some x:=by
 cases x with
 | non=>cases r;rfl
 | bl _=>cases r;rfl
 | int _=>obtain⟨t,rfl⟩:=r;rfl
 | str _=>obtain⟨t,rfl⟩:=r;rfl
 | byt _=>obtain⟨t,rfl⟩:=r;rfl
 | flt _=>obtain⟨t,rfl⟩:=r;rfl
 | ref _=>cases r;rfl
 | ty _=>cases r;rfl
theorem bD.inj {x y:V}{u:Value}(r:bD x u)(q:bD y u):x=y:=Bn.inj (r.abs.symm.trans q.abs)
theorem bC.inj:∀ {xs ys:List V} {us:List Value},bC xs us->bC ys us->xs=ys
 | _,_,_,.nil,.nil=>rfl
 | _,_,_,.cons r t,.cons r' t'=>by rw[r.inj r',bC.inj t t']
section
variable {X:Cx}{pins:List (Addr×Obj)}{σ:St}{H:Hp}{s:Shared}{a:Addr}{xs ys:List V}
theorem SqL.of {K:PySem.W.Frag}(h:H a=some (.lst xs)):SqL K H a xs:=.inl (.inl h)
theorem SqT.of {K:PySem.W.Frag}(h:H a=some (.tup xs)):SqT K H a xs:=.inl (.inl h)
theorem Inv.list (I:Inv X pins σ H s)(h:SqL X.K H a xs):∃ its:List Value,bC xs its/\PlainL s.heap a its.toArray/\xs.length<=sizeLine:=by
 rcases h with h | ⟨o,its,n,hk,hc,hd,hs,hz,r⟩
 · obtain⟨z,its,n,r,e⟩:=h.ok I.hok
   exact⟨its,r,⟨_,n,e,rfl,rfl,rfl⟩,z⟩
 · refine⟨its.toList,r,⟨o,n,I.kIn a o hk,hc,hd,by simpa using hs⟩,?_⟩
   have e:=r.length;simp only[Array.length_toList]at e;omega
theorem Inv.tuple (I:Inv X pins σ H s)(h:SqT X.K H a xs):∃ its:List Value,bC xs its/\IsTup s.heap a its.toArray/\xs.length<=sizeLine:=by
 rcases h with h | ⟨o,its,n,hk,hc,hs,hz,r⟩
 · obtain⟨z,its,r,p⟩:=h.ok I.hok
   exact⟨its,r,p,z⟩
 · refine⟨its.toList,r,⟨o,I.kIn a o hk,hc,n,by simpa using hs⟩,?_⟩
   have e:=r.length;simp only[Array.length_toList]at e;omega
theorem Inv.list_inj (I:Inv X pins σ H s)(h:SqL X.K H a xs)(h':SqL X.K H a ys):xs=ys:=by
 obtain⟨its,r,⟨o,n,e,_,_,d⟩,_⟩:=I.list h;obtain⟨its',r',⟨o',n',e',_,_,d'⟩,_⟩:=I.list h';rw[e]at e';cases e';rw[d]at d';injection d' with d1 _
 have:its=its':=by simpa using congrArg Array.toList d1
 subst this;exact r.inj r'
theorem Inv.tuple_inj (I:Inv X pins σ H s)(h:SqT X.K H a xs)(h':SqT X.K H a ys):xs=ys:=by
 obtain⟨its,r,⟨o,e,_,n,d⟩,_⟩:=I.tuple h;obtain⟨its',r',⟨o',e',_,n',d'⟩,_⟩:=I.tuple h';rw[e]at e';cases e';rw[d]at d';injection d' with d1 _
 have:its=its':=by simpa using congrArg Array.toList d1
 subst this;exact r.inj r'
end
abbrev Cx.wish (X:Cx)(E:Value->Shared->Prop):Cx:={ X with xe:=E }
abbrev Cx.nox (X:Cx):Cx:=X.wish fun _ _=>False
theorem Cx.Ok.wish {X:Cx}(ok:X.Ok)(E:Value->Shared->Prop):(X.wish E).Ok :=
 ⟨ok.mod,ok.kind,ok.glob,ok.blt,ok.above,ok.inj,ok.has,ok.cab,ok.hd,ok.frames,ok.stk,ok.exf,ok.bs,ok.bsz,ok.noex,ok.exfs,ok.funs,ok.frf⟩
theorem Cx.Ok.unwish {X:Cx}{E:Value->Shared->Prop}(ok:(X.wish E).Ok):X.Ok :=
 ⟨ok.mod,ok.kind,ok.glob,ok.blt,ok.above,ok.inj,ok.has,ok.cab,ok.hd,ok.frames,ok.stk,ok.exf,ok.bs,ok.bsz,ok.noex,ok.exfs,ok.funs,ok.frf⟩
section
variable {X:Cx}{pins:List (Addr×Obj)}{σ:St}{H:Hp}{s:Shared}{E:Value->Shared->Prop}
theorem Inv.wish (I:Inv X pins σ H s)(E:Value->Shared->Prop):Inv (X.wish E) pins σ H s:=⟨I.ok.wish E,I.os,I.bare,I.base,I.loc,I.cell,I.free,I.freeC,I.pin,I.hok,I.len⟩
theorem Inv.unwish (I:Inv (X.wish E) pins σ H s):Inv X pins σ H s:=⟨I.ok.unwish,I.os,I.bare,I.base,I.loc,I.cell,I.free,I.freeC,I.pin,I.hok,I.len⟩
theorem SP.unwish {D:Ends}{f:Flow}{s':Shared}(h:SP (X.wish E) pins D f s'):SP X pins D f s':=by
 cases f with
 | next=>obtain⟨σ',H',I,q⟩:=h;exact⟨σ',H',I.unwish,q⟩
 | brk=>obtain⟨σ',H',I,q⟩:=h;exact⟨σ',H',I.unwish,q⟩
 | cont=>obtain⟨σ',H',I,q⟩:=h;exact⟨σ',H',I.unwish,q⟩
 | ret u=>obtain⟨v,σ',H',I,r,q⟩:=h;exact⟨v,σ',H',I.unwish,r,q⟩
theorem PSs.nox {st:List Stmt}{t:TS}(h:PSs X.nox st t):PSs X st t:=fun pins s σ H D I hw =>
 wpAny_mono (h pins s σ H D (I.wish _) hw) (fun _ _ q=>q.unwish) fun _ _ z=>False.elim z
end
section
variable {X:Cx}{st:Stmt}{rest:List Stmt}{t u:TS}{e:Expr}{te:TE}{pos:Pos}
def aNh:TS:=fun D σ H=>D.nx σ H
def aEa (t u:TS):TS:=fun D σ H=>t { D with nx:=u D } σ H
theorem aHr:PSs X [] aNh:=fun _ _ σ H _ I h=>wpAny_execs_nil ⟨σ,H,I,h⟩
theorem mM (h1:PS X st t)(h2:PSs X rest u):PSs X (st :: rest) (aEa t u):=by
 intro pins s σ H D I h;refine wpAny_execs_cons (thn (h1 pins s σ H { D with nx:=u D } I h) fun f s1 q=>?_)
 cases f with
 | next =>
  obtain⟨σ',H',I',q⟩:=q;exact h2 pins s1 σ' H' D I' q
 | ret v=>exact q
 | brk=>exact q
 | cont=>exact q
theorem oM (h1:PS X st t):PSs X [st] t:=by
 intro pins s σ H D I h;refine wpAny_execs_cons (thn (h1 pins s σ H D I h) fun f s1 q=>?_)
 cases f with
 | next=>exact wpAny_execs_nil q
 | ret v=>exact q
 | brk=>exact q
 | cont=>exact q
theorem Inv.quiet {pins:List (Addr×Obj)}{σ:St}{H:Hp}{s:Shared}(I:Inv X pins σ H s):interactive X.env=false:=by simp[interactive,I.ok.kind]
def aNp (te:TE):TS:=fun D σ H=>te σ H fun _ H1=>D.nx σ H1
theorem sU (he:PE X e te)(hs:swapsWith e none pos.line X.env=pure false:=by rfl):PS X (.Expr e pos) (aNp te):=by
 intro pins s σ H D I h;exact wpAny_Expr_any (thn (he pins s σ H _ I h) fun v s1 ⟨x,H1,I1,r1,q1⟩=>⟨σ,H1,I1,q1⟩) I.quiet hs
def aRe (te:TE):TS:=fun D σ H=>te σ H D.rt
theorem aKe (he:PE X e te):PS X (.Return (some e) pos) (aRe te):=by
 intro pins s σ H D I h;exact wpAny_Return_some (thn (he pins s σ H _ I h) fun v s1 ⟨x,H1,I1,r1,q1⟩=>⟨x,σ,H1,I1,r1,q1⟩)
def aOe (c:TT)(t u:TS):TS:=fun D σ H=>c σ H fun b H1=>if b=true then t D σ H1 else u D σ H1
theorem aN1 {c:Expr}{a b:List Stmt}{tc:TT}(hc:PT X c tc)(ha:PSs X a t)(hb:PSs X b u):PS X (.If c a b pos) (aOe tc t u):=by
 intro pins s σ H D I h;refine wpAny_If (thn (hc pins s σ H _ I h) fun d s1 ⟨H1,I1,q1⟩=>?_)
 cases d with
 | true=>exact ha pins s1 σ H1 D I1 q1
 | false=>exact hb pins s1 σ H1 D I1 q1
def aKl:TS:=fun _ _ _=>False
theorem aEd:PS X st aKl:=fun _ _ _ _ _ _ h=>h.elim
end
abbrev TG:=V->St->Hp->(St->Hp->Prop)->Prop
abbrev TGs:=List V->St->Hp->(St->Hp->Prop)->Prop
def PG (X:Cx)(target:Expr)(t:TG):Prop :=
 ∀ (pins:List (Addr×Obj)) (s:Shared) (σ:St) (H:Hp) (v:V) (u:Value) (Q:St->Hp->Prop),Inv X pins σ H s->bD v u->t v σ H Q ->
  wpAny (model X.prog X.w) X.A (assign target X.env u) (fun _ s'=>∃ σ' H',Inv X pins σ' H' s'/\Q σ' H') X.xe s
def PGs (X:Cx)(ts:List Expr)(t:TGs):Prop :=
 ∀ (pins:List (Addr×Obj)) (s:Shared) (σ:St) (H:Hp) (vs:List V) (us:List Value) (Q:St->Hp->Prop),Inv X pins σ H s->bC vs us->t vs σ H Q ->
  wpAny (model X.prog X.w) X.A (assignInOrder ((assignEach ts X.env).map (·.2)) us) (fun _ s'=>∃ σ' H',Inv X pins σ' H' s'/\Q σ' H') X.xe s
abbrev aI2:=V->V->V->Hp->(Hp->Prop)->Prop
def aMf (X:Cx)(t:aI2):Prop :=
 ∀ (pins:List (Addr×Obj)) (s:Shared) (σ:St) (H:Hp) (o i v:V) (ov iv u:Value) (Q:Hp->Prop),Inv X pins σ H s->bD o ov->bD i iv->bD v u->t o i v H Q ->
  wpAny (model X.prog X.w) X.A (setItem ov iv u) (fun _ s'=>∃ H',Inv X pins σ H' s'/\Q H') X.xe s
abbrev TIp:=V->V->Hp->VK->Prop
def PIp (X:Cx)(op:Operator)(t:TIp):Prop :=
 ∀ (pins:List (Addr×Obj)) (s:Shared) (σ:St) (H:Hp) (x y:V) (v u:Value) (Q:VK),Inv X pins σ H s->bD x v->bD y u->t x y H Q ->
  wpAny (model X.prog X.w) X.A (inplaceOp op v u) (EP X pins σ Q) X.xe s
section
variable {X:Cx}{pos:Pos}
def wE (i:Nat):TG:=fun v σ H Q=>Q (σ.set i (some v)) H
theorem aHj {i:Nat}{x:Str}(hN:X.N.Nodup)(hi:X.N[i]?=some x)(hx:Loc X.env.scope x)(hf:X.fn x=true\/X.env.scope.names.lookup x=some .local:=by first | exact .inl rfl | exact .inr rfl | assumption):PG X (.Name x pos) (wE i):=by
 intro pins s σ H v u Q I r h;exact wpAny_assign_Name (hE I hN hi hx r (fun s' I'=>⟨_,H,I',h⟩) hf)
def aH1:TGs:=fun vs σ H Q=>vs=[]/\Q σ H
def yP (t:TG)(u:TGs):TGs:=fun vs σ H Q=>∃ v r,vs=v :: r/\t v σ H fun σ' H'=>u r σ' H' Q
theorem aHf:PGs X [] aH1:=by
 intro pins s σ H vs us Q I r h;obtain⟨e,h⟩:=h;subst e;cases r;exact assignInOrder_nil ⟨σ,H,I,h⟩
theorem aEg {e:Expr}{es:List Expr}{t:TG}{u:TGs}(h1:PG X e t)(h2:PGs X es u)
 (hs:(assignEach (e :: es) X.env).map (·.2)=assign e X.env :: (assignEach es X.env).map (·.2):=by rfl):PGs X (e :: es) (yP t u):=by
 intro pins s σ H vs us Q I r h;obtain⟨v,vr,e1,h⟩:=h;subst e1;cases r with
 | cons r rr =>
  rw[hs];refine assignInOrder_cons (thn (h1 pins s σ H _ _ _ I r h) fun _ s1 ⟨σ1,H1,I1,q1⟩=>?_)
  exact h2 pins s1 σ1 H1 _ _ Q I1 rr q1
def aFp (K:PySem.W.Frag)(n:Nat)(t:TGs):TG:=fun v σ H Q=>∃ a xs,v=.ref a/\SqT K H a xs/\xs.length=n/\t xs σ H Q
theorem aL2 {es:List Expr}{k:Nat}{t:TGs}{n:Nat}(hc:X.calm=true)(h:PGs X es t)
 (hn:(assignEach es X.env).length=n:=by rfl) (hst:(assignEach es X.env).findIdx? (·.1)=none:=by rfl):PG X (.Tuple es k pos) (aFp X.K n t):=by
 intro pins s σ H v u Q I r hw;obtain⟨a,xs,e1,hq,hl,hw⟩:=hw;subst e1;cases r;obtain⟨its,rv,ht,hz⟩:=I.tuple hq;refine assign_Tuple_tuple (I.ok.hd hc) ht (by simp[hn,←hl,rv.length]) hst fun h' hx=>?_
 have I1:Inv X pins σ H { s with heap:=h' }:=I.kept (t':=s.toks) fun b o e=>hx b o (Ak (Ab e)) e
 exact h pins _ σ H xs _ Q I1 (by simpa using rv) hw
def aOo (to ti:TE)(t:aI2):TG:=fun v σ H Q=>to σ H fun o H1=>ti σ H1 fun i H2=>t o i v H2 fun H3=>Q σ H3
theorem aLa {o i:Expr}{to ti:TE}{t:aI2}(ho:PE X o to)(hi:PE X i ti)(hs:aMf X t)
 (ha:∀ v,assign (.Subscript o i pos) X.env v=(do
  let ov ← holding [v] (eval o X.env)
  let iv ← holding [v,ov] (eval i X.env)
  standAt pos
  holding [v,ov,iv] (setItem ov iv v)
  release [v,ov,iv] []):=by intro _;rfl):PG X (.Subscript o i pos) (aOo to ti t):=by
 intro pins s σ H v u Q I r h;rw[ha];refine wpAny_bind (wpAny_holding (thn (ho pins s σ H _ I h) fun ov s1 ⟨x,H1,I1,r1,q1⟩=>?_))
 refine wpAny_bind (wpAny_holding (thn (hi pins s1 σ H1 _ I1 q1) fun iv s2 ⟨y,H2,I2,r2,q2⟩=>?_))
 refine wpAny_bind (wpAny_standAt (wpAny_bind (wpAny_holding (thn (hs pins s2 σ H2 x y v ov iv u _ I2 r1 r2 r q2) fun _ s3 ⟨H3,I3,q3⟩=>?_))))
 exact wpAny_release ⟨σ,H3,I3,q3⟩
def aM6 (te:TE)(g:TG):TS:=fun D σ H=>te σ H fun x H1=>g x σ H1 D.nx
theorem aJm {tg e:Expr}{te:TE}{g:TG}(he:PE X e te)(hg:PG X tg g)(hs:swapsWithSole [tg] e pos.line X.env=pure false:=by rfl)(hw:swappedStores [tg] e X.env=pure none:=by rfl)
 (h1:(assignEach [tg] X.env).map (·.2)=[assign tg X.env]:=by rfl):PS X (.Assign [tg] e pos) (aM6 te g):=by
 intro pins s σ H D I h;refine wpAny_Assign_stores (thn (he pins s σ H _ I h) fun v s1 ⟨x,H1,I1,r1,q1⟩=>?_) hs hw
 rw[h1];exact thn (hg pins s1 σ H1 x v _ I1 r1 q1) fun _ s2 q=>q
theorem aE5 {i:Nat}{x:Str}{e:Expr}{te:TE}{pos':Pos}(hN:X.N.Nodup)(hi:X.N[i]?=some x)(hx:Loc X.env.scope x)(he:PE X e te)(hs:swapsWith e (some (.Name x pos')) pos.line X.env=pure false:=by rfl)(hf:X.fn x=true\/X.env.scope.names.lookup x=some .local:=by first | exact .inl rfl | exact .inr rfl | assumption) :
 PS X (.Assign [.Name x pos'] e pos) (aM6 te (wE i)):=by
 intro pins s σ H D I h;refine wpAny_Assign_Name (thn (he pins s σ H _ I h) fun v s1 ⟨y,H1,I1,r1,q1⟩=>?_) hs
 exact hE I1 hN hi hx r1 (fun s2 I2=>⟨_,H1,I2,q1⟩) hf
def aOh (i:Nat)(te:TE)(ti:TIp):TS:=fun D σ H=>∃ x,σ[i]?=some (some x)/\te σ H fun y H1=>ti x y H1 fun z H2=>D.nx (σ.set i (some z)) H2
theorem aKo {i:Nat}{x:Str}{e:Expr}{te:TE}{op:Operator}{ti:TIp}{pos':Pos}(hN:X.N.Nodup)(hi:X.N[i]?=some x)(hx:Loc X.env.scope x)(he:PE X e te)(ho:PIp X op ti)(hf:X.fn x=true\/X.env.scope.names.lookup x=some .local:=by first | exact .inl rfl | exact .inr rfl | assumption) :
 PS X (.AugAssign (.Name x pos') op e pos) (aOh i te ti):=by
 intro pins s σ H D I h;obtain⟨v,e1,h⟩:=h;obtain⟨m,hn,hl⟩:=I.loc;have vis:Vis X.env.scope x:=by rcases hx with k | k;exact .inl k;exact .inr (.inl k)
 obtain⟨u,r,l⟩:=hl i x v hi e1 vis;refine wpAny_AugAssign_Name ?_
 have go:wpAny (model X.prog X.w) X.A (eval e X.env) (fun w s₂=>wpAny (model X.prog X.w) X.A (inplaceOp op u w) (fun r s₃=>wpAny (model X.prog X.w) X.A (storeName X.env x r) (fun _=>SP X pins D .next) X.xe s₃) X.xe s₂) X.xe s:=by
  refine thn (he pins s σ H _ I h) fun w s1 ⟨y,H1,I1,r1,q1⟩=>?_
  refine thn (ho pins s1 σ H1 v y u w _ I1 r r1 q1) fun z s2 ⟨zv,H2,I2,r2,q2⟩=>?_
  exact hE I2 hN hi hx r2 (fun s3 I3=>⟨_,H2,I3,q2⟩) hf
 rcases l with ⟨hk,hm⟩ | ⟨hk,c,hc,hcell⟩
 · exact wpAny_loadName_local I.ok.kind hk hn hm go
 · rcases hk with hk | hk
   · exact wpAny_loadName_cell I.ok.kind hk hc hcell go
   · rcases hx with k | k
     · have:X.env.scope.names.lookup x=some .free:=hk
       rw[k]at this;cases this
     · have:X.env.scope.names.lookup x=some .free:=hk
       rw[k]at this;cases this
def ipI (f:Int->Int->Int):TIp:=fun x y H Q=>∃ i j,x=.int i/\y=.int j/\Q (.int (f i j)) H
theorem aK4:PIp X .Add (ipI fun i j=>i+j):=by
 intro pins s σ H x y v u Q I r1 r2 h;obtain⟨i,j,e1,e2,q⟩:=h;subst e1;subst e2;obtain⟨t,rfl⟩:=r1;obtain⟨t',rfl⟩:=r2;exact iadd_int ⟨.int _,H,I.tok _,⟨_,rfl⟩,q⟩
theorem aKd:PIp X .Sub (ipI fun i j=>i-j):=by
 intro pins s σ H x y v u Q I r1 r2 h;obtain⟨i,j,e1,e2,q⟩:=h;subst e1;subst e2;obtain⟨t,rfl⟩:=r1;obtain⟨t',rfl⟩:=r2;exact isub_int ⟨.int _,H,I.tok _,⟨_,rfl⟩,q⟩
end
section
variable {X:Cx}{pos:Pos}
def aL0 (c:TT)(tb:TS):TS:=fun D σ H=>∃ W:Nat->St->Hp->Prop,(∃ m,W m σ H)/\∀ m σ H,W m σ H ->
 c σ H fun b H1=>if b=true then ∃ N:St->Hp->Prop,(∀ σ' H',N σ' H'->∃ m',m'<m/\W m' σ' H')/\tb { D with nx:=N,ct:=N,bk:=D.nx } σ H1 else D.nx σ H1
theorem aEk {c:Expr}{body:List Stmt}{tc:TT}{tb:TS}(hp:PassesOwn (model X.prog X.w) X.A X.env X.xe)(hc:PT X c tc)(hb:PSs X body tb):PS X (.While c body [] pos) (aL0 tc tb):=by
 intro pins s σ H D I h;obtain⟨W,⟨m0,w0⟩,lL⟩:=h;refine wpAny_While (codeAny_whileLoop (fun n s'=>∃ σ' H',Inv X pins σ' H' s'/\W n σ' H') ?_ m0 ⟨σ,H,I,w0⟩)
 rintro n s1 ⟨σ1,H1,I1,w1⟩
 refine wpAny_passesOwn hp (thn (hc pins s1 σ1 H1 _ I1 (lL n σ1 H1 w1)) fun b s2 ⟨H2,I2,q2⟩=>?_)
 cases b with
 | true =>
  obtain⟨N,hN,q2⟩:=q2;rw[if_pos rfl];refine wpAny_passesOwn hp (thn (hb pins s2 σ1 H2 _ I2 q2) fun f s3 q3=>?_)
  cases f with
  | next =>
   obtain⟨σ3,H3,I3,n3⟩:=q3;obtain⟨m',hm,w3⟩:=hN σ3 H3 n3;exact⟨m',hm,σ3,H3,I3,w3⟩
  | cont =>
   obtain⟨σ3,H3,I3,n3⟩:=q3;obtain⟨m',hm,w3⟩:=hN σ3 H3 n3;exact⟨m',hm,σ3,H3,I3,w3⟩
  | brk=>exact q3
  | ret v=>exact q3
 | false =>
  rw[if_neg Aq];exact wpAny_execs_nil ⟨σ1,H2,I2,q2⟩
end
structure It where
 go:Nat->Hp->Prop
 yld:Nat->Hp->V->Hp->Prop
 stop:Nat->Hp->Prop
def kP (X:Cx)(pins:List (Addr×Obj))(H:Hp)(b:Addr):Prop :=
 H b=none/\b≠X.env.locals/\b∉X.fs/\(b∈X.ex\/X.s₀.heap.objs.size<=b)/\(∀ x c,X.env.cells.lookup x=some c->c≠b)/\∀ p∈X.pn++pins,p.1≠b
theorem Inv.fpOk {X:Cx}{pins:List (Addr×Obj)}{σ:St}{H H':Hp}{s:Shared}{b:Addr}(I:Inv X pins σ H s)(hb:s.heap.objs.size<=b)(hn:H' b=none):kP X pins H' b:=by
 refine⟨hn,Bz (Aj I.lt hb),I.nofs hb,.inr (Bo I.sz hb),fun x c e z=>?_,fun p hp z=>?_⟩
 · obtain⟨v,q⟩:=I.cell x c e
   exact absurd (Aj q.lt (by rw[z];exact hb)) (Cj _)
 · exact absurd (Aj (Ab (I.pin p hp).1) (by rw[z];exact hb)) (Cj _)
structure Turn (P:Program)(w:World)(K:PySem.W.Frag)(tg:Expr)(J:It)(fp:List Addr)(it:Addr)(tn:Nat->Heap->Prop):Prop where
 mem:it∈fp
 obj:∀ i h,tn i h->∀ b∈fp,∃ o,h.get? b=some o/\∀ v,o.data≠.cell v
 keep:∀ i h h',tn i h->(∀ b∈fp,∀ o,h.get? b=some o->h'.get? b=some o)->tn i h'
 item:∀ (X:Cx),X.prog=P->X.w=w->X.K=K->X.calm=true->∀ (i:Nat) (pins:List (Addr×Obj)) (s:Shared) (σ:St) (H:Hp) (E:Value->Shared->Prop),Inv X pins σ H s->(∀ b∈fp,kP X pins H b)->tn i s.heap->J.go i H ->
  wpAny (model P w) X.A (pyNext (.ref it)) (fun r s1=>∃ u,r=some u /\
   wpAny (model P w) X.A (letOwnedTupleGo tg (.ref it) u) (fun _ s2=>∃ x H',Inv X pins σ H' s2/\bD x u/\J.yld i H x H'/\tn (i+1) s2.heap/\∀ b∈fp,H' b=none) E s1) E s
 done:∀ (X:Cx),X.prog=P->X.w=w->X.K=K->X.calm=true->∀ (i:Nat) (pins:List (Addr×Obj)) (s:Shared) (σ:St) (H:Hp) (E:Value->Shared->Prop),Inv X pins σ H s->(∀ b∈fp,kP X pins H b)->tn i s.heap->J.stop i H ->
  wpAny (model P w) X.A (pyNext (.ref it)) (fun r s1=>r=none/\Inv X pins σ H s1) E s
 self:∀ (A:Around) (i:Nat) (s:Shared) (Q:Value->Shared->Prop) (E:Value->Shared->Prop),tn i s.heap->Q (.ref it) s->wpAny (model P w) A (pyIter (.ref it)) Q E s
abbrev TI:=St->Hp->(It->Hp->Prop)->Prop
def PIE (X:Cx)(pins:List (Addr×Obj))(σ:St)(tg:Expr)(R:It->Hp->Prop)(itv:Value)(s2:Shared):Prop :=
 ∃ (it:Addr) (fp:List Addr) (tn:Nat->Heap->Prop) (J:It) (H':Hp),itv=.ref it/\Inv X pins σ H' s2/\Turn X.prog X.w X.K tg J fp it tn/\tn 0 s2.heap/\(∀ b∈fp,kP X pins H' b)/\R J H'
def PI (X:Cx)(tg iter:Expr)(wi:TI):Prop :=
 ∀ (pins:List (Addr×Obj)) (s:Shared) (σ:St) (H:Hp) (R:It->Hp->Prop),Inv X pins σ H s->wi σ H R ->
  wpAny (model X.prog X.w) X.A (eval iter X.env) (fun v s1=>wpAny (model X.prog X.w) X.A (pyIter v) (PIE X pins σ tg R) X.xe s1) X.xe s
theorem vC {M:Model}{A:Around}{E:Value->Shared->Prop}{s:Shared}{tg:Expr}{it:Addr}{u:Value}{o:Obj}{n:String}{vs:Array Value}{Q:Unit->Shared->Prop}(ho:s.heap.get? it=some o)(hc:o.cls=.type n)(hd:o.data=.fields vs)
    (hn:["enumerate","zip","dict_itemiterator","dict_reverseitemiterator","odict_iterator","itertools.zip_longest","itertools.pairwise"].contains n=false) (hQ:Q () s):wpAny M A (letOwnedTupleGo tg (.ref it) u) Q E s:=by
  unfold letOwnedTupleGo
  cases tg<;>first
    | exact wpAny_pure hQ
    | (cases u<;>first
        | exact wpAny_pure hQ
        | (refine wpAny_bind (wpAny_load ho ?_)
           rw[hc,hd];show wpAny M A (if (["enumerate","zip","dict_itemiterator","dict_reverseitemiterator","odict_iterator","itertools.zip_longest","itertools.pairwise"].contains n&&vs[0]?==some (rawInt _))=true then _ else _) Q E s
           rw[if_neg (by intro h;rw[hn,Bool.false_and]at h;cases h)]
           exact wpAny_pure hQ))
def Itl (K:PySem.W.Frag)(a:Addr):It :=
 ⟨fun i H=>∃ xs x,SqL K H a xs/\xs[i]?=some x,fun i H x H'=>H'=H/\∀ xs,SqL K H a xs->xs[i]?=some x,fun i H=>∃ xs,SqL K H a xs/\xs.length<=i⟩
def Itt (K:PySem.W.Frag)(a:Addr):It :=
 ⟨fun i H=>∃ xs x,SqT K H a xs/\xs[i]?=some x,fun i H x H'=>H'=H/\∀ xs,SqT K H a xs->xs[i]?=some x,fun i H=>∃ xs,SqT K H a xs/\xs.length<=i⟩
def Itr (lo:Int)(n:Nat):It:=⟨fun i _=>i<n,fun i H x H'=>H'=H/\x=.int (lo+i),fun i _=>n<=i⟩
theorem aAp {P:Program}{w:World}{K:PySem.W.Frag}{tg:Expr}(a it:Addr):Turn P w K tg (Itl K a) [it] it (fun i h=>h.IsListIter it a i) where
 mem:=by simp
 obj:=fun i h st b hb=>by
  have e:b=it:=by simpa using hb
  subst e;obtain⟨o,e,c,d⟩:=st;exact⟨o,e,fun v z=>by rw[d]at z;cases z⟩
 keep:=fun i h h' st k=>st.at fun o e=>k it (by simp) o e
 item:=by
  intro X hP hw hK hc i pins s σ H E I hf st hg;subst hP hw hK;obtain⟨xs,x,hq,hx⟩:=hg;obtain⟨its,rv,p,hz⟩:=I.list hq;obtain⟨u,hu,ru⟩:=rv.get hx;obtain⟨f0,f1,f2,f3,f4,f5⟩:=hf it (by simp)
  refine wpAny_pyNext_list_item st p.isList (x:=u) (by simpa using hu) fun h' st' sb=>?_
  have I1:Inv X pins σ H { s with heap:=h' }:=I.turned (t':=s.toks) (fun b o hb e=>(sb.2 b hb).trans e) f0 f1 f3 f4 f5
  obtain⟨o,e,c,d⟩:=id st';exact⟨u,rfl,vC (s:={ s with heap:=h' }) e c d (by decide) ⟨x,H,I1,ru,⟨rfl,fun ys hy=>by rw[I.list_inj hy hq];exact hx⟩,st',fun b hb=>(hf b hb).1⟩⟩
 done:=by
  intro X hP hw hK hc i pins s σ H E I hf st hg;subst hP hw hK;obtain⟨xs,hq,hx⟩:=hg;obtain⟨its,rv,p,hz⟩:=I.list hq;obtain⟨f0,f1,f2,f3,f4,f5⟩:=hf it (by simp)
  have hl:=rv.length;exact wpAny_pyNext_list_end (I.ok.hd hc) st p.isList (by simp;omega) fun h' eb=>⟨rfl,I.turned (t':=s.toks) (fun b o hb e=>eb b o hb e) f0 f1 f3 f4 f5⟩
 self:=fun _ _ _ _ _ st h=>wpAny_pyIter_listiter st h
theorem yJ {P:Program}{w:World}{K:PySem.W.Frag}{tg:Expr}(a it:Addr):Turn P w K tg (Itt K a) [it] it (fun i h=>h.IsTupleIter it a i) where
 mem:=by simp
 obj:=fun i h st b hb=>by
  have e:b=it:=by simpa using hb
  subst e;obtain⟨o,e,c,d⟩:=st;exact⟨o,e,fun v z=>by rw[d]at z;cases z⟩
 keep:=fun i h h' st k=>st.at fun o e=>k it (by simp) o e
 item:=by
  intro X hP hw hK hc i pins s σ H E I hf st hg;subst hP hw hK;obtain⟨xs,x,hq,hx⟩:=hg;obtain⟨its,rv,p,hz⟩:=I.tuple hq;obtain⟨u,hu,ru⟩:=rv.get hx;obtain⟨f0,f1,f2,f3,f4,f5⟩:=hf it (by simp)
  refine wpAny_pyNext_tuple_item st (show s.heap.IsTuple a its.toArray from p) (x:=u) (by simpa using hu) fun h' st' sb=>?_
  have I1:Inv X pins σ H { s with heap:=h' }:=I.turned (t':=s.toks) (fun b o hb e=>(sb.2 b hb).trans e) f0 f1 f3 f4 f5
  obtain⟨o,e,c,d⟩:=id st';exact⟨u,rfl,vC (s:={ s with heap:=h' }) e c d (by decide) ⟨x,H,I1,ru,⟨rfl,fun ys hy=>by rw[I.tuple_inj hy hq];exact hx⟩,st',fun b hb=>(hf b hb).1⟩⟩
 done:=by
  intro X hP hw hK hc i pins s σ H E I hf st hg;subst hP hw hK;obtain⟨xs,hq,hx⟩:=hg;obtain⟨its,rv,p,hz⟩:=I.tuple hq;obtain⟨f0,f1,f2,f3,f4,f5⟩:=hf it (by simp)
  have hl:=rv.length;exact wpAny_pyNext_tuple_end (I.ok.hd hc) st (show s.heap.IsTuple a its.toArray from p) (by simp;omega) fun h' eb=>⟨rfl,I.turned (t':=s.toks) (fun b o hb e=>eb b o hb e) f0 f1 f3 f4 f5⟩
 self:=fun _ _ _ _ _ st h=>wpAny_pyIter_tupleiter st h
theorem xL {P:Program}{w:World}{K:PySem.W.Frag}{tg:Expr}(it:Addr)(lo:Int)(n:Nat):Turn P w K tg (Itr lo n) [it] it (fun i h=>IsRangeIter h it (lo+(i:Nat)*1) ((n:Int)-(i:Nat)) 1) where
 mem:=by simp
 obj:=fun i h st b hb=>by
  have e:b=it:=by simpa using hb
  subst e
  exact⟨_,st,fun v z=>by
   have z':Data.fields _=Data.cell v:=z
   cases z'⟩
 keep:=fun i h h' st k=>k it (by simp) _ st
 item:=by
  intro X hP hw hK hc i pins s σ H E I hf st hg;subst hP hw hK;obtain⟨f0,f1,f2,f3,f4,f5⟩:=hf it (by simp)
  have W:=Walks.range (prog:=X.prog) (w:=X.w) (I.ok.hd hc) it lo 1 n;refine W.item i s _ _ hg st fun v h' tk hv st' kk=>?_
  obtain⟨t,rfl⟩:=hv;have I1:Inv X pins σ H { s with heap:=h',toks:=tk }:=I.turned (fun b o hb e=>kk b o (by simpa using hb) e) f0 f1 f3 f4 f5
  refine⟨_,rfl,vC (s:={ s with heap:=h',toks:=tk }) (n:="range_iterator") st' rfl rfl (by decide) ⟨.int (lo+i),H,I1,⟨t,?_⟩,⟨rfl,rfl⟩,st',fun b hb=>(hf b hb).1⟩⟩
  rw[Int.mul_one]
 done:=by
  intro X hP hw hK hc i pins s σ H E I hf st hg;subst hP hw hK;obtain⟨f0,f1,f2,f3,f4,f5⟩:=hf it (by simp)
  exact wpAny_pyNext_range_end (I.ok.hd hc) st (by have:n<=i:=hg;omega) fun h' eb=>⟨rfl,I.turned (t':=s.toks) (fun b o hb e=>eb b o hb e) f0 f1 f3 f4 f5⟩
 self:=fun _ _ _ _ _ st h=>wpAny_pyIter_rangeiter st h
end L2
namespace L2
open PySem PySem.Spec PyProof.Rows
section
variable {X:Cx}{tg:Expr}
def aNf (K:PySem.W.Frag)(tl:TE):TI:=fun σ H R=>tl σ H fun x H1=>∃ a,x=.ref a/\(∃ xs,SqL K H1 a xs)/\R (Itl K a) H1
def aRt (K:PySem.W.Frag)(tl:TE):TI:=fun σ H R=>tl σ H fun x H1=>∃ a,x=.ref a/\(∃ xs,SqT K H1 a xs)/\R (Itt K a) H1
theorem aHi {l:Expr}{tl:TE}(hl:PE X l tl):PI X tg l (aNf X.K tl):=by
 intro pins s σ H R I h;refine thn (hl pins s σ H _ I h) fun v s1 ⟨x,H1,I1,r1,q1⟩=>?_
 obtain⟨a,e,⟨xs,hq⟩,q⟩:=q1;subst e;cases r1;obtain⟨its,rv,p,hz⟩:=I1.list hq;refine wpAny_pyIter_list p.isList ?_
 refine⟨s1.heap.objs.size,[s1.heap.objs.size],_,_,H1,rfl,I1.kept (t':=s1.toks) fun b o e=>Aa _ e,aAp a _,⟨_,Ae _ rfl,rfl,rfl⟩,fun b hb=>?_,q⟩
 have e:b=s1.heap.objs.size:=by simpa using hb
 subst e;exact I1.fpOk (Ad _) (I1.hok.fresh (Ad _))
theorem aL3 {l:Expr}{tl:TE}(hl:PE X l tl):PI X tg l (aRt X.K tl):=by
 intro pins s σ H R I h;refine thn (hl pins s σ H _ I h) fun v s1 ⟨x,H1,I1,r1,q1⟩=>?_
 obtain⟨a,e,⟨xs,hq⟩,q⟩:=q1;subst e;cases r1;obtain⟨its,rv,p,hz⟩:=I1.tuple hq;refine wpAny_pyIter_tuple (show s1.heap.IsTuple a its.toArray from p) ?_
 refine⟨s1.heap.objs.size,[s1.heap.objs.size],_,_,H1,rfl,I1.kept (t':=s1.toks) fun b o e=>Aa _ e,yJ a _,⟨_,Ae _ rfl,rfl,rfl⟩,fun b hb=>?_,q⟩
 have e:b=s1.heap.objs.size:=by simpa using hb
 subst e;exact I1.fpOk (Ad _) (I1.hok.fresh (Ad _))
theorem vK {pins:List (Addr×Obj)}{σ:St}{H:Hp}{s:Shared}{R:It->Hp->Prop}{E:Value->Shared->Prop}{lo hi:Int}{t u v:Tok}{tk:Nat}(I:Inv X pins σ H s)(h1:-(2^62)<=lo)(h2:lo<2^62)(h3:-(2^62)<=hi)(h4:hi<2^62)
 (q:R (Itr lo (hi-lo).toNat) H):wpAny (model X.prog X.w) X.A (pyIter (.ref s.heap.objs.size)) (PIE X pins σ tg R) E { s with heap:=s.heap.push { cls:=.type "range",data:=.fields #[.int lo t,.int hi u,.int 1 v] },toks:=tk }:=by
 refine wpAny_pyIter_range (IsRange.new ..) (small_one h1 h2 h3 h4) ?_
 have I1:Inv X pins σ H { s with heap:=s.heap.push { cls:=.type "range",data:=.fields #[.int lo t,.int hi u,.int 1 v] },toks:=tk }:=I.kept fun b o e=>Aa _ e
 refine⟨(s.heap.push { cls:=.type "range",data:=.fields #[.int lo t,.int hi u,.int 1 v] }).objs.size,[(s.heap.push { cls:=.type "range",data:=.fields #[.int lo t,.int hi u,.int 1 v] }).objs.size],_,_,H,rfl,
  I1.kept (t':=tk) fun b o e=>Aa _ e,xL _ lo (hi-lo).toNat,?_,fun b hb=>?_,q⟩
 · have e1:lo+((0:Nat):Int)*1=lo:=by simp
   have e2:(((hi-lo).toNat:Nat):Int)-((0:Nat):Int)=Builtin.Range.rangeSize lo hi 1:=by rw[rangeSize_one];split<;>omega
   show IsRangeIter _ _ (lo+((0:Nat):Int)*1) ((((hi-lo).toNat:Nat):Int)-((0:Nat):Int)) 1
   rw[e1,e2];exact Ae _ rfl
 · have e:b=(s.heap.push { cls:=.type "range",data:=.fields #[.int lo t,.int hi u,.int 1 v] }).objs.size:=by simpa using hb
   subst e;exact I1.fpOk (Ad _) (I1.hok.fresh (Ad _))
def aNs (ta:TA):TI:=fun σ H R=>ta σ H fun vs H1=>∃ j:Int,vs=[.int j]/\-(2^62)<=j/\j<2^62/\R (Itr 0 j.toNat) H1
def aNq (ta:TA):TI:=fun σ H R=>ta σ H fun vs H1=>∃ i j:Int,vs=[.int i,.int j]/\(-(2^62)<=i/\i<2^62/\-(2^62)<=j/\j<2^62)/\R (Itr i (j-i).toNat) H1
theorem aBa {a:Expr}{ta:TA}{p pos:Pos}(hg:Gl X "range")(hm:X.mg "range" = none)(ha:PA X [a] ta)(hs:starEach [a] X.env=[(false,eval a X.env)]:=by rfl):PI X tg (.Call (.Name "range" p) [a] [] pos) (aNs ta):=by
 intro pins s σ H R I h;refine Call_ (eY I hg hm boot_range (Ar (thn (ha pos pins s σ H _ I h) fun us s1 ⟨vs,H1,I1,r1,q1⟩=>?_) hs rfl))
 obtain⟨j,e,q1,q2,q⟩:=q1;subst e;cases r1 with
 | cons r rr =>
  cases rr;obtain⟨t,rfl⟩:=r;exact call_range_1 (vK I1 (by omega) (by omega) q1 q2 (by simpa using q))
theorem aB9 {a b:Expr}{ta:TA}{p pos:Pos}(hg:Gl X "range")(hm:X.mg "range" = none)(ha:PA X [a,b] ta)(hs:starEach [a,b] X.env=[(false,eval a X.env),(false,eval b X.env)]:=by rfl)(hs2:starEach [b] X.env=[(false,eval b X.env)]:=by rfl) :
 PI X tg (.Call (.Name "range" p) [a,b] [] pos) (aNq ta):=by
 intro pins s σ H R I h;refine Call_ (eY I hg hm boot_range (Ar (thn (ha pos pins s σ H _ I h) fun us s1 ⟨vs,H1,I1,r1,q1⟩=>?_) (by rw[hs,hs2]) (by rw[hs2];rfl)))
 obtain⟨i,j,e,⟨q1,q2,q3,q4⟩,q⟩:=q1;subst e;cases r1 with
 | cons r rr =>
  cases rr with
  | cons r' rr =>
   cases rr;obtain⟨t,rfl⟩:=r;obtain⟨t',rfl⟩:=r';exact call_range_2 (vK I1 q1 q2 q3 q4 q)
def aQb (wi:TI)(g:TG)(tb:TS):TS:=fun D σ H=>wi σ H fun J H1=>∃ W:Nat->Nat->St->Hp->Prop,(∃ m,W 0 m σ H1)/\∀ i m σ H,W i m σ H ->
 (J.stop i H/\D.nx σ H)\/(J.go i H/\∃ N:St->Hp->Prop,(∀ σ' H',N σ' H'->∃ m',m'<m/\W (i+1) m' σ' H')/\∀ x H',J.yld i H x H'->g x σ H' fun σ2 H2=>tb { D with nx:=N,ct:=N,bk:=D.nx } σ2 H2)
def pJ (fp:List Addr)(h:Heap):List (Addr×Obj):=fp.filterMap fun b=>(h.get? b).map fun o=>(b,o)
theorem fZ {fp:List Addr}{h:Heap}{b:Addr}{o:Obj}(hb:b∈fp)(e:h.get? b=some o):(b,o)∈pJ fp h:=Ed.mpr ⟨b,hb,by rw[e];rfl⟩
theorem aB0 {fp:List Addr}{h:Heap}{p:Addr×Obj}(hp:p∈pJ fp h):p.1∈fp/\h.get? p.1=some p.2:=by
 obtain⟨b,hb,e⟩:=Ed.mp hp;cases q:h.get? b with
 | none=>rw[q]at e;cases e
 | some o =>
  rw[q]at e;have e':(b,o)=p:=Bn.inj e;subst e';exact⟨hb,q⟩
theorem Inv.pinned {pins:List (Addr×Obj)}{σ:St}{H:Hp}{s:Shared}{fp:List Addr}(I:Inv X pins σ H s)(hf:∀ b∈fp,kP X pins H b)(ho:∀ b∈fp,∃ o,s.heap.get? b=some o/\∀ v,o.data≠.cell v):Inv X (pins++pJ fp s.heap) σ H s :=
 I.pins_of fun p hp=>(Ch.mp hp).elim (fun z=>I.pin p (As _ z)) fun z=>by
  obtain⟨hb,e⟩:=aB0 z;obtain⟨f0,f1,f2,_⟩:=hf p.1 hb;obtain⟨o,e',d⟩:=ho p.1 hb;rw[e]at e';cases e';exact⟨e,f0,f1,f2,d⟩
theorem Inv.unpinned {pins pl:List (Addr×Obj)}{σ:St}{H:Hp}{s:Shared}(I:Inv X (pins++pl) σ H s):Inv X pins σ H s:=I.pins_of fun p hp=>I.pin p (As _ (Dw _ hp))
theorem aLn {iter:Expr}{body:List Stmt}{wi:TI}{g:TG}{tb:TS}{pos:Pos}(hp:PassesOwn (model X.prog X.w) X.A X.env X.xe)(hc:X.calm=true)(hi:PI X tg iter wi)(hg:PG X tg g)(hb:PSs X body tb)
 (hs:∀ x,foldedSetIterable iter X.env x=pure x:=by intro _;rfl):PS X (.For tg iter body [] pos) (aQb wi g tb):=by
 intro pins s σ H D I h;refine wpAny_For (thn (hi pins s σ H _ I h) fun v s1 h1=>thn h1 fun itv s2 h2=>?_) hs
 obtain⟨it,fp,tn,J,H2,e,I2,T,st2,f2,W,⟨m0,w0⟩,lL⟩:=h2;subst e;have stat:∀ {H':Hp},(∀ b∈fp,H' b=none)->∀ b∈fp,kP X pins H' b:=fun hn b hb=>⟨hn b hb,(f2 b hb).2⟩;refine codeAny_forLoop_any (fun n s'=>∃ i σ' H',Inv X pins σ' H' s'/\tn i s'.heap/\(∀ b∈fp,H' b=none)/\W i n σ' H') ?_ m0 ⟨0,σ,H2,I2,st2,fun b hb=>(f2 b hb).1,w0⟩
 rintro n s3 ⟨i,σ3,H3,I3,st3,fr3,w3⟩
 rcases lL i n σ3 H3 w3 with ⟨stop,qn⟩ | ⟨go,N,hN,step⟩
 · refine wpAny_passesOwn hp (thn (T.done X rfl rfl rfl hc i pins s3 σ3 H3 X.xe I3 (stat fr3) st3 stop) fun r s4 ⟨hr,I4⟩=>?_)
   subst hr;exact wpAny_execs_nil ⟨σ3,H3,I4,qn⟩
 · refine wpAny_passesOwn hp (thn (T.item X rfl rfl rfl hc i pins s3 σ3 H3 X.xe I3 (stat fr3) st3 go) fun r s4 ⟨u,hr,h4⟩=>?_)
   subst hr;refine wpAny_passesOwn hp (thn h4 fun _ s5 ⟨x,H5,I5,r5,y5,st5,fr5⟩=>?_)
   have I5':=I5.pinned (stat fr5) (T.obj _ _ st5);refine wpAny_passesOwn hp (thn (hg _ s5 σ3 H5 x u _ I5' r5 (step x H5 y5)) fun _ s6 ⟨σ6,H6,I6,q6⟩=>?_)
   refine wpAny_passesOwn hp (thn (hb _ s6 σ6 H6 _ I6 q6) fun f s7 q7=>?_)
   have again:∀ {σ7:St} {H7:Hp},Inv X (pins++pJ fp s5.heap) σ7 H7 s7->N σ7 H7->∃ m,m<n/\∃ i σ' H',Inv X pins σ' H' s7/\tn i s7.heap/\(∀ b∈fp,H' b=none)/\W i m σ' H':=fun {σ7 H7} I7 n7=>by
    obtain⟨m',hm,w7⟩:=hN σ7 H7 n7;refine⟨m',hm,i+1,σ7,H7,I7.unpinned,T.keep _ _ _ st5 fun b hb o e=>(I7.pin (b,o) (As _ (As _ (fZ hb e)))).1,fun b hb=>?_,w7⟩
    obtain⟨o,e,d⟩:=T.obj _ _ st5 b hb;exact(I7.pin (b,o) (As _ (As _ (fZ hb e)))).2.1
   cases f with
   | next=>obtain⟨σ7,H7,I7,n7⟩:=q7;exact again I7 n7
   | cont=>obtain⟨σ7,H7,I7,n7⟩:=q7;exact again I7 n7
   | brk=>obtain⟨σ7,H7,I7,q7⟩:=q7;exact⟨σ7,H7,I7.unpinned,q7⟩
   | ret v=>obtain⟨x7,σ7,H7,I7,r7,q7⟩:=q7;exact⟨x7,σ7,H7,I7.unpinned,r7,q7⟩
end
end L2
namespace L2
open PySem PySem.Spec PyProof.Rows
abbrev R2:=V->V->Hp->VK->Prop
def OpR (X:Cx)(f:Value->Value->Sem Value)(r:R2):Prop :=
 ∀ (pins:List (Addr×Obj)) (s:Shared) (σ:St) (H:Hp) (x y:V) (v u:Value) (Q:VK),Inv X pins σ H s->bD x v->bD y u->r x y H Q ->
  wpAny (model X.prog X.w) X.A (f v u) (EP X pins σ Q) X.xe s
def UnR (X:Cx)(f:Value->Sem Value)(r:V->Hp->VK->Prop):Prop :=
 ∀ (pins:List (Addr×Obj)) (s:Shared) (σ:St) (H:Hp) (x:V) (v:Value) (Q:VK),Inv X pins σ H s->bD x v->r x H Q ->
  wpAny (model X.prog X.w) X.A (f v) (EP X pins σ Q) X.xe s
def gH (X:Cx)(f:Value)(r:List V->Hp->VK->Prop):Prop :=
 ∀ (pins:List (Addr×Obj)) (s:Shared) (σ:St) (H:Hp) (xs:List V) (us:List Value) (Q:VK),Inv X pins σ H s->bC xs us->r xs H Q ->
  wpAny (model X.prog X.w) X.A (call f us) (EP X pins σ Q) X.xe s
def aRn (X:Cx)(r:V->Hp->(Bool->Hp->Prop)->Prop):Prop :=
 ∀ (pins:List (Addr×Obj)) (s:Shared) (σ:St) (H:Hp) (x:V) (v:Value) (Q:Bool->Hp->Prop),Inv X pins σ H s->bD x v->r x H Q ->
  wpAny (model X.prog X.w) X.A (truthy v) (TP X pins σ Q) X.xe s
def tOp (r:R2)(ta tb:TE):TE:=fun σ H Q=>ta σ H fun x H1=>tb σ H1 fun y H2=>r x y H2 Q
def tUn (r:V->Hp->VK->Prop)(ta:TE):TE:=fun σ H Q=>ta σ H fun x H1=>r x H1 Q
def rI (C:Int->Int->Prop)(g:Int->Int->V):R2:=fun x y H Q=>∃ i j,x=.int i/\y=.int j/\C i j/\Q (g i j) H
def rI0 (g:Int->Int->V):R2:=fun x y H Q=>∃ i j,x=.int i/\y=.int j/\Q (g i j) H
def rU (g:Int->V):V->Hp->VK->Prop:=fun x H Q=>∃ i,x=.int i/\Q (g i) H
section
variable {X:Cx}{a b c:Expr}{ta tb tc:TE}{pos:Pos}
theorem aI6 (ha:PE X a ta)(hb:PE X b tb){pins:List (Addr×Obj)}{s:Shared}{σ:St}{H:Hp}{R:V->V->Hp->Prop}(I:Inv X pins σ H s)
 (h:ta σ H fun x H1=>tb σ H1 fun y H2=>R x y H2) {Q:Value->Shared->Prop} {f:Value->Value->Sem Value}
 (hf:∀ v u s2 x y H2,Inv X pins σ H2 s2->bD x v->bD y u->R x y H2->wpAny (model X.prog X.w) X.A (f v u) Q X.xe s2) :
 wpAny (model X.prog X.w) X.A (eval a X.env) (fun v s₁=>wpAny (model X.prog X.w) X.A (eval b X.env) (fun u s₂=>wpAny (model X.prog X.w) X.A (f v u) Q X.xe s₂) X.xe s₁) X.xe s:=by
 refine thn (ha pins s σ H _ I h) fun v s1 ⟨x,H1,I1,r1,q1⟩=>?_
 refine thn (hb pins s1 σ H1 _ I1 q1) fun u s2 ⟨y,H2,I2,r2,q2⟩=>?_
 exact hf v u s2 x y H2 I2 r1 r2 q2
theorem zG {op:Operator}{r:R2}(ho:OpR X (binaryOp op) r)(ha:PE X a ta)(hb:PE X b tb):PE X (.BinOp a op b pos) (tOp r ta tb):=by
 intro pins s σ H Q I h;exact wpAny_BinOp (aI6 ha hb I h fun v u s2 x y H2 I2 rx ry q=>ho pins s2 σ H2 x y v u Q I2 rx ry q)
theorem aNn {op:UnaryOp}{r:V->Hp->VK->Prop}(ho:UnR X (unaryOp op) r)(ha:PE X a ta):PE X (.UnaryOp op a pos) (tUn r ta):=by
 intro pins s σ H Q I h;exact UnaryOp_ (thn (ha pins s σ H _ I h) fun v s1 ⟨x,H1,I1,r1,q1⟩=>ho pins s1 σ H1 x v Q I1 r1 q1)
theorem opI {f:Value->Value->Sem Value}{C:Int->Int->Prop}{g:Int->Int->Int}
 (rule:∀ (i j:Int) (t u:Tok) (s:Shared) (Q:Value->Shared->Prop) (E:Value->Shared->Prop),C i j->Q (.int (g i j) s.toks) { s with toks:=s.toks+1 }->wpAny (model X.prog X.w) X.A (f (.int i t) (.int j u)) Q E s) :
 OpR X f (rI C fun i j=>.int (g i j)):=by
 intro pins s σ H x y v u Q I rx ry h;obtain⟨i,j,rfl,rfl,hc,q⟩:=h;obtain⟨t,rfl⟩:=rx;obtain⟨t',rfl⟩:=ry;exact rule i j t t' s _ _ hc ⟨.int (g i j),H,I.tok _,⟨_,rfl⟩,q⟩
theorem aMg {f:Value->Value->Sem Value}{g:Int->Int->Int}
 (rule:∀ (i j:Int) (t u:Tok) (s:Shared) (Q:Value->Shared->Prop) (E:Value->Shared->Prop),Q (.int (g i j) s.toks) { s with toks:=s.toks+1 }->wpAny (model X.prog X.w) X.A (f (.int i t) (.int j u)) Q E s) :
 OpR X f (rI0 fun i j=>.int (g i j)):=by
 intro pins s σ H x y v u Q I rx ry h;obtain⟨i,j,rfl,rfl,q⟩:=h;obtain⟨t,rfl⟩:=rx;obtain⟨t',rfl⟩:=ry;exact rule i j t t' s _ _ ⟨.int (g i j),H,I.tok _,⟨_,rfl⟩,q⟩
theorem aL9 {f:Value->Value->Sem Value}{g:Int->Int->Bool}
 (rule:∀ (i j:Int) (t u:Tok) (s:Shared) (Q:Value->Shared->Prop) (E:Value->Shared->Prop),Q (.bool (g i j)) s->wpAny (model X.prog X.w) X.A (f (.int i t) (.int j u)) Q E s) :
 OpR X f (rI0 fun i j=>.bl (g i j)):=by
 intro pins s σ H x y v u Q I rx ry h;obtain⟨i,j,rfl,rfl,q⟩:=h;obtain⟨t,rfl⟩:=rx;obtain⟨t',rfl⟩:=ry;exact rule i j t t' s _ _ ⟨.bl (g i j),H,I,rfl,q⟩
def aSi (i j:Int):Prop:=0<=j/\j<=1000000/\i.natAbs<2^64
theorem aLs:OpR X (binaryOp .Add) (rI0 fun i j=>.int (i+j)):=aMg fun _ _ _ _ _ _ _ q=>add_int q
theorem aLf:OpR X (binaryOp .Sub) (rI0 fun i j=>.int (i-j)):=aMg fun _ _ _ _ _ _ _ q=>sub_int q
theorem aK1:OpR X (binaryOp .Mod) (rI (fun _ j=>0<j) fun i j=>.int (i%j)):=opI fun i j _ _ _ _ _ hc q=>by
 have h1:(0:Int)<j:=hc;exact mod_int' (by omega) (by rw[Int.fmod_eq_emod_of_nonneg i (by omega)];exact q)
theorem aLz:OpR X (binaryOp .Pow) (rI aSi fun i j=>.int (i^j.toNat)):=opI fun _ _ _ _ _ _ _ hc q=>pow_int_small hc.1 hc.2.1 hc.2.2 q
theorem unI {f:Value->Sem Value}{g:Int->Int}
 (rule:∀ (i:Int) (t:Tok) (s:Shared) (Q:Value->Shared->Prop) (E:Value->Shared->Prop),Q (.int (g i) s.toks) { s with toks:=s.toks+1 }->wpAny (model X.prog X.w) X.A (f (.int i t)) Q E s) :
 UnR X f (rU fun i=>.int (g i)):=by
 intro pins s σ H x v Q I rx h;obtain⟨i,rfl,q⟩:=h;obtain⟨t,rfl⟩:=rx;exact rule i t s _ _ ⟨.int (g i),H,I.tok _,⟨_,rfl⟩,q⟩
theorem aLr:UnR X (unaryOp .USub) (rU fun i=>.int (-i)):=unI fun _ _ _ _ _ q=>neg_int q
end
section
variable {X:Cx}{a b c:Expr}{ta tb tc:TE}{pos:Pos}
theorem aM5:OpR X (compareOp .Lt) (rI0 fun i j=>.bl (decide (i<j))):=aL9 fun _ _ _ _ _ _ _ q=>lt_int q
theorem aL6:OpR X (compareOp .Gt) (rI0 fun i j=>.bl (decide (j<i))):=aL9 fun _ _ _ _ _ _ _ q=>gt_int q
theorem oO (b:Expr){op:CmpOp}(h:op≠.In:=by decide)(h2:op≠.NotIn:=by decide):behindInMarks op b=false:=by
 have e1:(op==CmpOp.In)=false:=by cases op<;>first | rfl | exact absurd rfl h
 have e2:(op==CmpOp.NotIn)=false:=by cases op<;>first | rfl | exact absurd rfl h2
 cases b<;>simp[behindInMarks,e1,e2]
theorem aHk {op:CmpOp}{r:R2}(ho:OpR X (compareOp op) r)(ha:PE X a ta)(hb:PE X b tb)(hm:behindInMarks op b=false):PE X (.Compare a [op] [b] pos) (tOp r ta tb):=by
 intro pins s σ H Q I h;exact wpAny_Compare1 (aI6 ha hb I h fun v u s2 x y H2 I2 rx ry q=>ho pins s2 σ H2 x y v u Q I2 rx ry q) hm
def aM4 (t:TE):TT:=fun σ H Q=>t σ H fun x H'=>∃ k,x=.bl k/\Q k H'
theorem aHc {op:CmpOp}{r:R2}(ho:OpR X (compareOp op) r)(ha:PE X a ta)(hb:PE X b tb)(hm:behindInMarks op b=false):PT X (.Compare a [op] [b] pos) (aM4 (tOp r ta tb)):=by
 intro pins s σ H Q I h
 refine wpAny_isTrue_Compare1 (thn (ha pins s σ H _ I h) fun v s1 ⟨x,H1,I1,r1,q1⟩=>thn (hb pins s1 σ H1 _ I1 q1) fun u s2 ⟨y,H2,I2,r2,q2⟩ =>
  thn (ho pins s2 σ H2 x y v u _ I2 r1 r2 q2) fun c s3 ⟨z,H3,I3,r3,k,e,q3⟩=>?_) hm
 subst e;cases r3;exact wpAny_truthy_bool ⟨H3,I3,q3⟩
def aM0 (K:PySem.W.Frag)(x:V)(H:Hp)(k:Bool):Prop :=
 match x with
 | .non=>k=false
 | .bl b=>k=b
 | .int i=>k=(i != 0)
 | .str y=>y.length<=sizeLine/\k=((y.length:Int) != 0)
 | .byt y=>y.size<=sizeLine/\k=((y.size:Int) != 0)
 | .ref p=>(∃ xs,SqL K H p xs/\k=!xs.isEmpty)\/(∃ xs,SqT K H p xs/\k=!xs.isEmpty)\/∃ kvs,H p=some (.dK kvs)/\k=!kvs.isEmpty
 | _=>False
theorem xV {κ:Type}{kvs:List (κ×V)}{vs:List (κ×Value)}(r:KV kvs vs):(!vs.isEmpty)=!kvs.isEmpty:=by
 cases r<;>rfl
theorem pS {xs:List V}{its:List Value}(r:bC xs its):(!its.toArray.isEmpty)=!xs.isEmpty:=by
 cases r<;>simp
theorem pC:(sizeLine:Nat)<2^63:=by rw[sizeLine_eq];decide
theorem aJf:aRn X (fun x H Q=>∃ k,aM0 X.K x H k/\Q k H):=by
 intro pins s σ H x v Q I rx h;obtain⟨k,e,q⟩:=h;have hl:=pC;have hs:sizeLine=16777216:=sizeLine_eq;cases x with
 | non =>
  cases rx;have e':k=false:=e;subst e';exact truthy_none ⟨H,I,q⟩
 | bl b =>
  cases rx;have e':k=b:=e;subst e';exact wpAny_truthy_bool ⟨H,I,q⟩
 | int i =>
  obtain⟨t,rfl⟩:=rx;have e':k=(i != 0):=e;subst e';exact PySem.P.truthy_int ⟨H,I,q⟩
 | str y =>
  obtain⟨t,rfl⟩:=rx;obtain⟨hy,e'⟩:y.length<=sizeLine/\k=((y.length:Int) != 0):=e;subst e';exact PySem.P.truthy_str (by omega) ⟨H,I.tok _,q⟩
 | byt y =>
  obtain⟨t,rfl⟩:=rx;obtain⟨hy,e'⟩:y.size<=sizeLine/\k=((y.size:Int) != 0):=e;subst e';exact PySem.W.truthy_bytes (by omega) ⟨H,I.tok _,q⟩
 | ref p =>
  cases rx;have e':(∃ xs,SqL X.K H p xs/\k=!xs.isEmpty)\/(∃ xs,SqT X.K H p xs/\k=!xs.isEmpty)\/∃ kvs,H p=some (.dK kvs)/\k=!kvs.isEmpty:=e;rcases e' with ⟨xs,hx,e'⟩ | ⟨xs,hx,e'⟩ | ⟨kvs,hx,e'⟩
  · subst e'
    obtain⟨its,r,pl,hz⟩:=I.list hx;have hlen:=r.length;exact wpAny_truthy_list pl.isList (by simp only[Ac];omega) ⟨H,I.tok _,by rw[pS r];exact q⟩
  · subst e'
    obtain⟨its,r,pl,hz⟩:=I.tuple hx;have hlen:=r.length;exact truthy_tuple pl (by simp only[Ac];omega) ⟨H,I.tok _,by rw[pS r];exact q⟩
  · subst e'
    obtain⟨hz,hS,vs,r,m⟩:kvs.length<=sizeLine/\(p==sysModules)=false/\∃ vs,KV kvs vs/\s.heap.DictOf (bI X.prog X.w) p vs:=I.hok p _ hx;have hlen:kvs.length=vs.length:=Paired.length r;exact wpAny_truthy_dict hS m (by omega) ⟨H,I.tok _,by rw[xV r];exact q⟩
 | _=>exact(show False from e).elim
theorem aDn (ha:PE X a ta)(he:∀ whole,isTrue a X.env whole=(do let v ← whole;standAt a.pos;holding [v] (truthy v))) :
 PT X a (fun σ H Q=>ta σ H fun x H'=>∃ k,aM0 X.K x H' k/\Q k H'):=by
 intro pins s σ H Q I h;exact isTrue_plain (thn (ha pins s σ H _ I h) fun v s1 ⟨x,H1,I1,r1,q1⟩=>aJf pins s1 σ H1 x v Q I1 r1 q1) (he _)
theorem iA {x:V}{us:List Value}(r:bC [x] us):∃ u,us=[u]/\bD x u:=by
 cases r with
 | cons r1 r2=>cases r2;exact⟨_,rfl,r1⟩
theorem zK {x y:V}{us:List Value}(r:bC [x,y] us):∃ u w',us=[u,w']/\bD x u/\bD y w':=by
 cases r with
 | cons r1 r2 =>
  cases r2 with
  | cons r3 r4=>cases r4;exact⟨_,_,rfl,r1,r3⟩
end
end L2
namespace L2
open PySem PySem.Spec PyProof.Rows
structure ObjM (h:Heap)(x dx C:Addr)(mA:Str->Option Value):Prop where
 obj:h.get? x=some (Cf C dx)
 ns:h.Ns1 dx mA
 ne:dx≠x
theorem aBz {h:Heap}{dx:Addr}{mA:Str->Option Value}(n:h.Ns1 dx mA):∃ od,h.get? dx=some od/\∀ name,Ex name od=some (mA name):=by
 obtain⟨o,es,ep,ho,hd,hk,_,hm⟩:=n;refine⟨o,ho,fun name=>?_⟩
 have e:=hm name;unfold nsFind findBy at e;rw[←Array.find?_toList]at e;unfold Ex;rw[hd];dsimp only
 split
 · rename_i y q
   rw[q]at e;exact congrArg some e
 · rename_i q
   rw[q]at e
   have a:es.toList.any (·.refKey)=false:=by
    rw[List.any_eq_false];intro y hy;obtain⟨z,t,hkey⟩:=hk y (Array.mem_toList_iff.mp hy);simp[DictEntry.refKey,hkey]
   have a':¬ es.toList.any (·.refKey)=true:=by rw[a];exact Aq
   rw[if_neg a'];exact congrArg some e
theorem ObjM.look {h:Heap}{x dx C:Addr}{mA:Str->Option Value}(I:ObjM h x dx C mA):∃ od,PySem.W.InstAt h x (Cf C dx) C (some od)/\∀ name,Ex name od=some (mA name) :=
 let ⟨od,ho,hl⟩:=aBz I.ns
 ⟨od,⟨I.obj,rfl,rfl,ho⟩,hl⟩
section
variable {prog:Program}{w:World}{A:Around}{E:Value->Shared->Prop}{s:Shared}{K:PySem.W.Frag}{x dx C f:Addr}{mA:Str->Option Value}{name:Str}{v:Value}
theorem aF8 {expr:Bool}{Q:Value->Shared->Prop}(X:K.In s.heap)(I:ObjM s.heap x dx C mA)(hg:Ds K C name=true)(hh:Dq K C=true)
 (ha:Ao K (.ref C) name=some none) (hv:mA name=some v) (hv':PySem.W.handedIn v=true) (h:Q v { s with toks:=s.toks+1 }) :
 wpAny (model prog w) A (getAttr (.ref x) name expr) Q E s:=by
 obtain⟨od,J,hl⟩:=I.look;exact PySem.W.get_value X J (PySem.W.plainGet_of hg).1 (PySem.W.findObj_own hh ha rfl (by rw[hl,hv])) hv' h
theorem aHu {ns:List Str}{Q:Unit->Shared->Prop}(X:K.In s.heap)(I:ObjM s.heap x dx C mA)
 (hs:Ao K (.ref C) "__setattr__" = some (some (.builtin "object.__setattr__"))) (hp:Ee K C=true) (ht:Eo K C name=some none) (hh:Dq K C=true)
 (hw:PySem.Within mA ns) (hsz:ns.length<=sizeLine)
 (h:∀ h',ObjM h' x dx C (fun y=>if y=name then some v else mA y)->Heap.SameBut dx s.heap h'->Q () { s with heap:=h',toks:=s.toks+2 }) :
 wpAny (model prog w) A (setAttr (.ref x) name v) Q E s:=by
 obtain⟨od,J,hl⟩:=I.look;refine PySem.W.set_plain X J hs (PySem.W.osa_open (s:={ s with toks:=s.toks+1 }) (r:=none) X J hp ht fun b=>?_)
 obtain⟨cd,hc,hd'⟩:=PySem.W.any_some hh;have hx:s.heap.get? x=some ⟨.ref C,some dx,.plain,#[]⟩:=I.obj;refine wpAny_bind (wpAny_pure (wpAny_bind (wpAny_bind (wpAny_loadPart hx (wpAny_bind (PySem.W.Looks.here (s:={ s with toks:=s.toks+1 }) (PySem.W.looks_clsIn X hc) ?_))))))
 rw[hd'];refine wpAny_pure (a:=some dx) (wpAny_bind (wpAny_pure (wpAny_bind ?_)))
 refine wpAny_nsSet1 (s:={ s with toks:=s.toks+1 }) I.ns fun h' hn2 hs2=>?_
 obtain⟨oD,esD,epD,hoD,hdD,hcD⟩:=hn2.count (PySem.Within.cons name v hw);refine wpAny_bind (wpAny_lookBehind hoD (by rw[hdD];exact pastItsLine_dict (Bo hcD (by rw[Cr];omega))) ?_)
 exact wpAny_pure (h _ ⟨(hs2.2 _ (Ne.symm I.ne)).trans I.obj,hn2,I.ne⟩ hs2)
theorem aC0 {R:Result->Shared->Prop}{vs:List Value}{kw:List (Str×Value)}(X:K.In s.heap)(hm:Ep K C=true)
 (hi:Ao K (.ref C) "__init__" = some (some (.ref f))) (hf:Dc K (.ref f)=some (.type "function"))
 (h:codeAny (model prog w) (A.under (.builtin "type.__call__" ⟨.ref C :: vs,kw⟩)) (.call (.ref f) ⟨.ref (s.heap.objs.size+1) :: vs,kw⟩) (PySem.W.InitBack (s.heap.objs.size+1) R)
  { s with heap:=(s.heap.push Bu).push (Cf C s.heap.objs.size) }) :
 codeAny (model prog w) A (.call (.ref C) ⟨vs,kw⟩) R s:=by
 obtain⟨hh,g,d,t,os⟩:=s;exact PySem.W.make_core (PySem.W.makes_of X hm) (PySem.W.looks_findIn X hi) (fun self=>PySem.W.bind_fn X self hf) (.inl rfl) h
end
def kE (f:Str)(v:V):List (Str×V)->List (Str×V)
 | []=>[(f,v)]
 | (g,x) :: r=>if g=f then (g,v) :: r else (g,x) :: kE f v r
theorem nO (f g:Str)(v:V):∀ fs:List (Str×V),(kE f v fs).lookup g=if g=f then some v else fs.lookup g
 | []=>by
  show Cm g [(f,v)]=_
  by_cases h:g=f
  · have hb:(g==f)=true:=beq_iff_eq.mpr h
    simp only[Cm,hb,if_pos h]
  · have hb:(g==f)=false:=beq_eq_false_iff_ne.mpr h
    simp only[Cm,hb,if_neg h]
 | (k,x) :: r=>by
  have ih:=nO f g v r;rw[show kE f v ((k,x) :: r)=(if k=f then (k,v) :: r else (k,x) :: kE f v r) from rfl]
  by_cases hk:k=f
  · rw[if_pos hk]
    by_cases h:g=k
    · have hb:(g==k)=true:=beq_iff_eq.mpr h
      simp only[Cm,hb,if_pos (h.trans hk)]
    · have hb:(g==k)=false:=beq_eq_false_iff_ne.mpr h
      simp only[Cm,hb,if_neg (fun e:g=f=>h (e.trans hk.symm))]
  · rw[if_neg hk]
    by_cases h:g=k
    · have hb:(g==k)=true:=beq_iff_eq.mpr h
      simp only[Cm,hb,if_neg (fun e:g=f=>hk (h.symm.trans e))]
    · have hb:(g==k)=false:=beq_eq_false_iff_ne.mpr h
      simp only[Cm,hb];exact ih
theorem mO (f:Str)(v:V):∀ fs:List (Str×V),f∈(kE f v fs).map (·.1)/\∀ g,g∈fs.map (·.1)->g∈(kE f v fs).map (·.1)
 | []=>⟨by simp[kE],fun g h=>by simp at h⟩
 | (k,x) :: r=>by
  obtain⟨i1,i2⟩:=mO f v r;rw[show kE f v ((k,x) :: r)=(if k=f then (k,v) :: r else (k,x) :: kE f v r) from rfl]
  by_cases hk:k=f
  · rw[if_pos hk]
    subst hk;exact⟨by simp,fun g h=>by simpa using h⟩
  · rw[if_neg hk]
    refine⟨?_,fun g h=>?_⟩
    · rw[Au]
      exact Am _ i1
    · rw[Au]at h ⊢
      rcases Ag.mp h with e | e
      · exact Ag.mpr (.inl e)
      · exact Am _ (i2 g e)
theorem nM (f:Str)(v:V):∀ fs:List (Str×V),(kE f v fs).length<=fs.length+1
 | []=>by simp[kE]
 | (k,x) :: r=>by
  have ih:=nM f v r;rw[show kE f v ((k,x) :: r)=(if k=f then (k,v) :: r else (k,x) :: kE f v r) from rfl]
  by_cases hk:k=f
  · rw[if_pos hk,Cr,Cr];omega
  · rw[if_neg hk,Cr,Cr];omega
theorem kO.some_of {v:V}{o:Option Value}(r:kO (some v) o):∃ u,o=some u/\bD v u:=by
 cases o with
 | none=>exact(show False from r).elim
 | some u=>exact⟨u,rfl,r⟩
theorem aCa {v:V}{u:Value}(r:bD v u):PySem.W.handedIn u=true:=by
 cases v with
 | non=>cases (show u=Value.none from r);rfl
 | bl b=>cases (show u=Value.bool b from r);rfl
 | int i=>obtain⟨t,e⟩:=(show ∃ t,u=Value.int i t from r);cases e;rfl
 | str x=>obtain⟨t,e⟩:=(show ∃ t,u=Value.str x t from r);cases e;rfl
 | byt b=>obtain⟨t,e⟩:=(show ∃ t,u=Value.bytes b t from r);cases e;rfl
 | flt b=>obtain⟨t,e⟩:=(show ∃ t,u=Value.float b t from r);cases e;rfl
 | ref a=>cases (show u=Value.ref a from r);rfl
 | ty n=>cases (show u=Value.type n from r);rfl
section
variable {P:Program}{w:World}{H H':Hp}{h h':Heap}{a C dx:Addr}{fs fs':List (Str×V)}
theorem uB (hok:HOk P w H h)(e:H a=some (.ins C dx fs)):∃ mA,ObjM h a dx C mA/\(∀ f,kO (fs.lookup f) (mA f))/\PySem.Within mA (fs.map (·.1))/\fs.length<=1000/\H dx=some (.own a):=by
 obtain⟨d,z,ne,ob,mA,n,r,q⟩:=(show bM P w H h a (.ins C dx fs) from hok a _ e)
 exact⟨mA,⟨ob,n,ne⟩,r,q,z,d⟩
end
structure Cls (K:PySem.W.Frag)(C:Addr):Prop where
 pg:Ds K C Str.empty=true
 hd:Dq K C=true
 po:Ee K C=true
 sa:Ao K (.ref C) "__setattr__" = some (some (.builtin "object.__setattr__"))
theorem Cls.get {K:PySem.W.Frag}{C:Addr}(c:Cls K C)(f:Str):Ds K C f=true:=c.pg
def jC (K:PySem.W.Frag)(C:Addr)(f:Str):Prop:=Ao K (.ref C) f=some none
theorem jC.taker {K:PySem.W.Frag}{C:Addr}{f:Str}(n:jC K C f):Eo K C f=some none:=by
 unfold Eo;rw[show Ao K (.ref C) f=some none from n]
 rfl
section
variable {X:Cx}{pins:List (Addr×Obj)}{σ:St}{H:Hp}{s:Shared}{a C dx:Addr}{fs:List (Str×V)}{f:Str}{v:V}{A:Around}{E:Value->Shared->Prop}
theorem xH {b:Bool}{Q:Value->Shared->Prop}(I:Inv X pins σ H s)(e:H a=some (.ins C dx fs))(c:Cls X.K C)(n:jC X.K C f)(l:fs.lookup f=some v)
 (h:∀ u s',Inv X pins σ H s'->bD v u->Q u s'):wpAny (model X.prog X.w) A (getAttr (.ref a) f b) Q E s:=by
 obtain⟨mA,O,r,_,_,_⟩:=uB I.hok e;obtain⟨u,hu,ru⟩:=kO.some_of (v:=v) (o:=mA f) (by rw[←l];exact r f)
 exact aF8 I.kIn O (c.get f) c.hd n hu (aCa ru) (h u _ (I.tok _) ru)
theorem wZ {y:V}{u:Value}{Q:Unit->Shared->Prop}(I:Inv X pins σ H s)(e:H a=some (.ins C dx fs))(c:Cls X.K C)(n:jC X.K C f)(hl:fs.length<1000)(ry:bD y u)
 (h:∀ s',Inv X pins σ (upd H a (.ins C dx (kE f y fs))) s'->Q () s'):wpAny (model X.prog X.w) A (setAttr (.ref a) f u) Q E s:=by
 obtain⟨mA,O,r,wi,_,ho⟩:=uB I.hok e;have hz:(fs.map (·.1)).length<=sizeLine:=by rw[Bi,sizeLine_eq];omega
 refine aHu I.kIn O c.sa c.po n.taker c.hd wi hz fun h' O' sb=>h _ ?_
 have hd:∃ o,h'.get? dx=some o:=let ⟨o,_,_,e',_⟩:=O'.ns;⟨o,e'⟩
 refine I.write (x:=a) (e:=dx) (by rw[e];exact True.intro) (.inr ho) (fun b q hb z=>(sb.2 b hb).trans z) hd ?_
 refine⟨by rw[aU O.ne];exact ho,?_,O.ne,O'.obj,_,O'.ns,fun g=>?_,fun g hg=>?_⟩
 · have:=nM f y fs;omega
 · show kO ((kE f y fs).lookup g) (if g=f then some u else mA g)
   rw[nO];by_cases q:g=f
   · rw[if_pos q,if_pos q];exact ry
   · rw[if_neg q,if_neg q];exact r g
 · by_cases q:g=f
   · rw[q];exact(mO f y fs).1
   · refine(mO f y fs).2 g (wi g fun z=>hg ?_)
     show (if g=f then some u else mA g)=none
     rw[if_neg q];exact z
theorem Inv.made (I:Inv X pins σ H s):Inv X pins σ (upd (upd H s.heap.objs.size (.own (s.heap.objs.size+1))) (s.heap.objs.size+1) (.ins C s.heap.objs.size []))
 { s with heap:=(s.heap.push Bu).push (Cf C s.heap.objs.size) }:=by
 have e1:(s.heap.push Bu).get? s.heap.objs.size=some Bu:=Ae s.heap rfl
 have e2:((s.heap.push Bu).push (Cf C s.heap.objs.size)).get? (s.heap.objs.size+1)=some (Cf C s.heap.objs.size):=by
  have:=Ae (s.heap.push Bu) (o:=Cf C s.heap.objs.size) rfl
  rwa [Be]at this
 have e3:(s.heap.push Bu).Ns s.heap.objs.size (fun _=>none):=⟨Bu,#[],_,e1,rfl,(fun e he=>absurd he (by simp)),fun _=>rfl⟩
 have I1:=I.laid (a:=s.heap.objs.size) (o:=.own (s.heap.objs.size+1)) (h':=s.heap.push Bu) (t':=s.toks) (fun b u q=>Aa _ q) (Ad _) ⟨_,e1⟩;refine I1.laid (a:=s.heap.objs.size+1) (o:=.ins C s.heap.objs.size []) (t':=s.toks) (fun b u q=>Aa _ q) (Nat.le_of_eq (Be _ _)) ?_
 have ne:s.heap.objs.size≠s.heap.objs.size+1:=Ak (Dt _);refine⟨by rw[aU ne,bF],Bv _,ne,e2,fun _=>none,(Heap.Ns1.of_empty e3).at fun o q=>Aa _ q,fun _=>True.intro,fun y hy=>absurd rfl hy⟩
theorem aF9 {prog:Program}{w:World}{env:Env}{e:Expr}{f:Str}{pos:Pos}{s:Shared}{Q:Value->Shared->Prop}(hb:attributeBase e f env (eval e env)=eval e env)
 (h:wpAny (model prog w) A (eval e env) (fun o s₁=>wpAny (model prog w) A (getAttr o f true) Q E s₁) E s):wpAny (model prog w) A (eval (.Attribute e f pos) env) Q E s :=
 Attribute_any_ h (by rw[arm_eval_Attribute,hb])
end
def aPd (K:PySem.W.Frag)(ta:TE)(f:Str):TE:=fun σ H Q=>ta σ H fun x H1=>∃ a C dx fs v,x=.ref a/\H1 a=some (.ins C dx fs)/\Cls K C/\jC K C f/\fs.lookup f=some v/\Q v H1
def aAo (K:PySem.W.Frag)(ta tv:TE)(f:Str):TS:=fun D σ H=>tv σ H fun y H1=>ta σ H1 fun x H2=>∃ a C dx fs,x=.ref a/\H2 a=some (.ins C dx fs)/\Cls K C/\jC K C f/\fs.length<1000 /\
 D.nx σ (upd H2 a (.ins C dx (kE f y fs)))
section
variable {X:Cx}{o e value:Expr}{f:Str}{pos pos' tpos:Pos}{ta tv:TE}
theorem aK8 (he:PE X e ta)(hb:attributeBase e f X.env (eval e X.env)=eval e X.env):PE X (.Attribute e f pos) (aPd X.K ta f):=by
 intro pins s σ H Q I h;refine aF9 hb (thn (he pins s σ H _ I h) fun u s1 ⟨x,H1,I1,rx,a,C,dx,fs,v,ex,ea,c,n,l,q⟩=>?_)
 subst ex;obtain rfl:u=Value.ref a:=rx;exact xH I1 ea c n l fun u' s2 I2 ru=>⟨v,H1,I2,ru,q⟩
theorem oX (ha:PE X o ta)(hv:PE X value tv)(hs:swapsWith value (some (.Attribute o f pos')) pos.line X.env=pure false):PS X (.Assign [.Attribute o f pos'] value pos) (aAo X.K ta tv f):=by
 intro pins s σ H D I h;refine plainObj_wpAny_Assign_Attribute (thn (hv pins s σ H _ I h) fun u s1 ⟨y,H1,I1,ry,q⟩=>thn (ha pins s1 σ H1 _ I1 q) fun ov s2 ⟨x,H2,I2,rx,a,C,dx,fs,ex,ea,c,n,l,q2⟩=>?_) hs
 subst ex;obtain rfl:ov=Value.ref a:=rx;exact wZ I2 ea c n l ry fun s3 I3=>⟨σ,_,I3,q2⟩
end
section
variable {X:Cx}{pins:List (Addr×Obj)}{σ:St}{H:Hp}{s:Shared}{A:Around}{E:Value->Shared->Prop}{Q:Value->Shared->Prop}{c:Value}{b:Bool}
inductive TyOf (K:PySem.W.Frag) (H:Hp):V->Value->Prop where
 | non:TyOf K H .non (.type "NoneType")
 | bl (x:Bool):TyOf K H (.bl x) (.type "bool")
 | int (i:Int):TyOf K H (.int i) (.type "int")
 | str (x:Str):TyOf K H (.str x) (.type "str")
 | flt (x:UInt64):TyOf K H (.flt x) (.type "float")
 | lst {a:Addr} {xs:List V} (e:H a=some (.lst xs)):TyOf K H (.ref a) (.type "list")
 | frz {a:Addr} {o:Obj} {xs:List V} (e:H a=some (.frz o (.lst xs))):TyOf K H (.ref a) (.type "list")
 | tup {a:Addr} {xs:List V} (e:H a=some (.tup xs)):TyOf K H (.ref a) (.type "tuple")
 | dK {a:Addr} {kvs:List (Key×V)} (e:H a=some (.dK kvs)):TyOf K H (.ref a) (.type "dict")
 | dT {a:Addr} {kvs:List (List Key×V)} (e:H a=some (.dT kvs)):TyOf K H (.ref a) (.type "dict")
 | ins {a C dx:Addr} {fs:List (Str×V)} (e:H a=some (.ins C dx fs)) (cl:Cls K C) (ha:Ao K (.ref C) "__class__" = some (some (.builtin "object.__class__")))
  (hn:PySem.W.specialIn K (.builtin "object.__class__") "__get__" = some (some (.builtin "getset_descriptor.__get__"))) (htk:PySem.W.takesIn K (.builtin "object.__class__")=some true)
  (hm:Ei K C (.type "object")=some true):TyOf K H (.ref a) (.ref C)
theorem aBd {x:V}{u t:Value}(I:Inv X pins σ H s)(rx:bD x u)(ty:TyOf X.K H x t)(e:Bl X.K t c=some b)(h:∀ tk,Q (.bool b) { s with toks:=tk }) :
 wpAny (model X.prog X.w) A (call (.builtin "isinstance") [u,c]) Q E s:=by
 cases ty with
 | non=>cases (show u=Value.none from rx);exact Bm PySem.W.kitx_none I.kIn True.intro e (fun z=>nomatch z) h
 | bl y=>cases (show u=Value.bool y from rx);exact Bm PySem.W.kitx_bool I.kIn True.intro e (fun z=>nomatch z) h
 | int i=>obtain⟨t,q⟩:=(show ∃ t,u=Value.int i t from rx);cases q;exact Bm PySem.W.kitx_int I.kIn True.intro e (fun z=>nomatch z) h
 | str y=>obtain⟨t,q⟩:=(show ∃ t,u=Value.str y t from rx);cases q;exact Bm PySem.W.kitx_str I.kIn True.intro e (fun z=>nomatch z) h
 | flt y=>obtain⟨t,q⟩:=(show ∃ t,u=Value.float y t from rx);cases q;exact Bm PySem.W.kitx_float I.kIn True.intro e (fun z=>nomatch z) h
 | @lst a xs ea =>
  cases (show u=Value.ref a from rx)
  obtain⟨_,_,n,_,h1⟩:=(show bM X.prog X.w H s.heap a (.lst xs) from I.hok a _ ea)
  exact Bm PySem.W.kitx_list I.kIn ⟨_,h1,rfl⟩ e (fun z=>nomatch z) h
 | @frz a ob xs ea =>
  cases (show u=Value.ref a from rx)
  obtain⟨_,_,_,n,_,h1⟩:=(show bM X.prog X.w H s.heap a (.frz ob (.lst xs)) from I.hok a _ ea)
  exact Bm PySem.W.kitx_list I.kIn ⟨_,h1,rfl⟩ e (fun z=>nomatch z) h
 | @tup a xs ea =>
  cases (show u=Value.ref a from rx)
  obtain⟨_,_,_,p⟩:=(show bM X.prog X.w H s.heap a (.tup xs) from I.hok a _ ea)
  obtain⟨o,h1,h2,_⟩:=p;exact Bm PySem.W.kitx_tuple I.kIn ⟨o,h1,h2⟩ e (fun z=>nomatch z) h
 | @dK a kvs ea =>
  cases (show u=Value.ref a from rx)
  obtain⟨_,_,vs,_,p⟩:=(show bM X.prog X.w H s.heap a (.dK kvs) from I.hok a _ ea)
  obtain⟨o,es,ep,h1,h2,_⟩:=p;exact Bm PySem.W.kitx_dict I.kIn ⟨o,h1,h2.1⟩ e (fun z=>nomatch z) h
 | @dT a kvs ea =>
  cases (show u=Value.ref a from rx)
  obtain⟨_,_,xs,_,o,es,ep,h1,h2,_⟩:=(show bM X.prog X.w H s.heap a (.dT kvs) from I.hok a _ ea)
  exact Bm PySem.W.kitx_dict I.kIn ⟨o,h1,h2.1⟩ e (fun z=>nomatch z) h
 | @ins a C dx fs ea cl ha hn htk hm =>
  cases (show u=Value.ref a from rx)
  obtain⟨mA,O,_⟩:=uB I.hok ea;obtain⟨od,J,_⟩:=O.look;exact Bm (PySem.W.kitx_own (cl.get _) cl.hd ha hn htk hm) I.kIn J e (fun z=>nomatch z) h
end
end L2
namespace L2
open PySem PySem.Spec PyProof.Rows
structure Room (k:Nat)(A:Around):Prop where
 hd:A.handled=none
 dp:A.depth+3*k+5<recursionLimit
 un:A.units+16*k+200<cLine
theorem Room.mono {j k:Nat}{A:Around}(r:Room k A)(h:j<=k):Room j A:=⟨r.hd,by have:=r.dp;omega,by have:=r.un;omega⟩
theorem Room.deeper {k:Nat}{A:Around}(r:Room (k+1) A)(env:Env):Room k (A.deeper env) :=
 ⟨r.hd,by have:=r.dp;show A.depth+1+3*k+5<_;omega,by have:=r.un;show A.units+3+16*k+200<_;omega⟩
theorem wU {A:Around}{C:Addr}{us:List Value}{kw:List (Str×Value)}:(A.under (.builtin "type.__call__" ⟨.ref C :: us,kw⟩)).depth=A.depth+1:=by
 first | rfl | simp[Around.under,Code.weight,Code.isCreation,Code.isGuard,Code.isCaller,Code.frames,Code.isFrame,guardIds]
theorem yI {A:Around}{C:Addr}{us:List Value}{kw:List (Str×Value)}:(A.under (.builtin "type.__call__" ⟨.ref C :: us,kw⟩)).units=A.units+1:=by
 first | rfl | simp[Around.under,Code.cUnits,Code.frames,Code.isFrame]
theorem Room.make {k:Nat}{A:Around}(r:Room (k+1) A)(C:Addr)(us:List Value)(kw:List (Str×Value)):Room k (A.under (.builtin "type.__call__" ⟨.ref C :: us,kw⟩)) :=
 ⟨r.hd,by have:=r.dp;rw[wU];omega,by have:=r.un;rw[yI];omega⟩
theorem Room.depth {k:Nat}{A:Around}(r:Room k A):A.depth<recursionLimit:=by have:=r.dp;omega
theorem Room.units {k:Nat}{A:Around}(r:Room k A):A.units+64<cLine:=by have:=r.un;omega
def aSc:TA:=fun _ H Q=>Q [] H
def aM1 (ta:TE)(tr:TA):TA:=fun σ H Q=>ta σ H fun x H1=>tr σ H1 fun xs H2=>Q (x :: xs) H2
section
variable {X:Cx}{e:Expr}{es:List Expr}{te:TE}{t:TA}{pos:Pos}
theorem nE:PA X [] aSc:=fun _ _ _ _ H Q I h=>Calls.spliced_nil ⟨[],H,I,.nil,h⟩
theorem iB (ha:PE X e te)(hr:PA X es t)(hs:starEach (e :: es) X.env=(false,eval e X.env) :: starEach es X.env:=by rfl):PA X (e :: es) (aM1 te t):=by
 intro pos pins s σ H Q I h;rw[hs];show wpAny _ _ (spliced ((false,eval e X.env) :: backTo pos (starEach es X.env))) _ _ s
 refine Calls.spliced_cons (thn (ha pins s σ H _ I h) fun u s1 ⟨x,H1,I1,r1,q1⟩=>?_)
 exact thn (hr pos pins s1 σ H1 _ I1 q1) fun us s2 ⟨xs,H2,I2,r2,q2⟩=>⟨x :: xs,H2,I2,.cons r1 r2,q2⟩
def aPf (t:TA):TE:=fun σ H Q=>t σ H fun xs H1=>xs.length<=sizeLine/\∀ p,H1 p=none->Q (.ref p) (upd H1 p (.tup xs))
def aRl (t:TA):TE:=fun σ H Q=>t σ H fun xs H1=>xs.length<=sizeLine/\∀ p,H1 p=none->Q (.ref p) (upd H1 p (.lst xs))
theorem aLi {x1}(h:PA X es t):PE X (.Tuple es x1 pos) (aPf t):=by
 intro pins s σ H Q I hq;refine wpAny_Tuple_spliced (thn (h pos pins s σ H _ I hq) fun us s1 ⟨xs,H1,I1,r,z,q⟩=>⟨by rw[←r.length];exact z,?_⟩)
 have hf:H1 s1.heap.objs.size=none:=I1.hok.fresh (Ad _);refine⟨.ref s1.heap.objs.size,upd H1 s1.heap.objs.size (.tup xs),I1.laid (t':=s1.toks) (fun b u e=>Aa _ e) (Ad _) ?_,rfl,q _ hf⟩
 exact⟨z,us,r,⟨_,Ae _ rfl,rfl,_,rfl⟩⟩
theorem aLk (h:PA X es t):PE X (.List es pos) (aRl t):=by
 intro pins s σ H Q I hq;refine wpAny_List_spliced (thn (h pos pins s σ H _ I hq) fun us s1 ⟨xs,H1,I1,r,z,q⟩=>⟨by rw[←r.length];exact z,?_⟩)
 have hf:H1 s1.heap.objs.size=none:=I1.hok.fresh (Ad _);refine⟨.ref s1.heap.objs.size,upd H1 s1.heap.objs.size (.lst xs),I1.laid (t':=s1.toks) (fun b u e=>Aa _ e) (Ad _) ?_,rfl,q _ hf⟩
 exact⟨z,us,0,r,Ae _ rfl⟩
end
abbrev Sp:=List V->Hp->VK->XK->Prop
abbrev CXT:=List Env->Hp->Shared->XK->Value->Shared->Prop
structure Env0 (P:Program)(w:World)(K:PySem.W.Frag)(mg:Str->Option Value)(base:Heap)(A:Around)(outer:List Env)(s:Shared)(H:Hp):Prop where
 frames:A.frames=some outer
 mod:Mod K mg base
 bs:∀ b o,base.get? b=some o->s.heap.get? b=some o/\H b=none
 bsz:base.objs.size<=s.heap.objs.size
 funs:s.heap.FunFrames base outer
 frf:∀ b∈frs outer,H b=none
 hok:HOk P w H s.heap
 bare:AllBare s.gens
def CE (outer:List Env)(P:Program)(w:World)(H:Hp)(s:Shared)(Q:VK)(u:Value)(s':Shared):Prop :=
 ∃ v H',s'.os=s.os/\AllBare s'.gens/\Un (frs outer) [] H H' s.heap s'.heap/\HOk P w H' s'.heap/\bD v u/\Q v H'
def CR (CX:CXT)(outer:List Env)(P:Program)(w:World)(H:Hp)(s:Shared)(Q:VK)(E:XK)(r:Result)(s':Shared):Prop :=
 match r with
 | .ok (.ret u)=>CE outer P w H s Q u s'
 | .ok _=>False
 | .error e=>CX outer H s E e s'
structure FnOk (P:Program)(w:World)(K:PySem.W.Frag)(mg:Str->Option Value)(base:Heap)(CX:CXT)(k:Nat)(f:Addr)(fd:FuncData)(ps:List Str)(sp:Sp):Prop where
 len:∀ vs H Q E,sp vs H Q E->vs.length=ps.length
 run:∀ (A:Around) (outer:List Env) (s:Shared) (H:Hp) (args:Args) (us:List Value) (vs:List V) (Q:VK) (E:XK),Room k A->Env0 P w K mg base A outer s H->BindsTo s fd args (ps.zip us)->bC vs us->sp vs H Q E ->
  codeAny (model P w) A (.call (.ref f) args) (CR CX outer P w H s Q E) s
theorem FnOk.mono {P:Program}{w:World}{K:PySem.W.Frag}{mg:Str->Option Value}{base:Heap}{CX:CXT}{j k:Nat}{f:Addr}{fd:FuncData}{ps:List Str}{sp:Sp}(F:FnOk P w K mg base CX j f fd ps sp)(h:j<=k) :
 FnOk P w K mg base CX k f fd ps sp:=⟨F.len,fun A outer s H args us vs Q E hr=>F.run A outer s H args us vs Q E (hr.mono h)⟩
theorem Env0.make {P:Program}{w:World}{K:PySem.W.Frag}{mg:Str->Option Value}{base:Heap}{A:Around}{outer:List Env}{s:Shared}{H:Hp}(e:Env0 P w K mg base A outer s H)(C:Addr)(us:List Value)(kw:List (Str×Value)) :
 Env0 P w K mg base (A.under (.builtin "type.__call__" ⟨.ref C :: us,kw⟩)) outer s H:=⟨by first | exact e.frames | (simpa[Around.under,Code.envs,Code.isFrame,pushEnvs] using e.frames),e.mod,e.bs,e.bsz,e.funs,e.frf,e.hok,e.bare⟩
section
variable {X:Cx}{pins:List (Addr×Obj)}{σ:St}{H:Hp}{s s':Shared}
theorem Inv.env0 (I:Inv X pins σ H s):Env0 X.prog X.w X.K X.mg X.base X.A X.stack s H :=
 ⟨I.ok.frames,I.ok.mod,I.bs,Bo I.ok.bsz I.sz,I.stack,I.stkFree,I.hok,I.bare⟩
theorem Inv.after {Q:VK}{u:Value}(I:Inv X pins σ H s)(h:CE X.stack X.prog X.w H s Q u s'):EP X pins σ Q u s':=by
 obtain⟨v,H',os,bare,un,hok,r,q⟩:=h;obtain⟨hh,g,d,t,os'⟩:=s';obtain rfl:os'=s.os:=os;exact⟨v,H',I.call (h':=hh) (g':=g) (d':=d) (t':=t) (ch:=[]) un hok bare (fun b z=>absurd z (by simp)),r,q⟩
end
def aMs (C:Addr)(sp:Sp)(dvs:List V)(E:XK)(t:TA):TE:=fun σ H Q=>t σ H fun vs H1=>∀ x dx,H1 x=none->H1 dx=none->dx≠x ->
 sp (.ref x :: (vs++dvs)) (upd (upd H1 dx (.own x)) x (.ins C dx [])) (fun v H2=>v=.non/\Q (.ref x) H2) E
def kM (K:PySem.W.Frag)(fd:FuncData)(ps:List Str)(ds:List Value):Prop :=
 ∀ (s:Shared) (us:List Value),K.In s.heap->(us++ds).length=ps.length->BindsTo s fd ⟨us,[]⟩ (ps.zip (us++ds))
theorem kM.all {K:PySem.W.Frag}{fd:FuncData}{ps:List Str}(h:∀ us:List Value,us.length=ps.length->bindArgs fd ⟨us,[]⟩=pure (ps.zip us)):kM K fd ps []:=fun s us _ hl=>by
 rw[Cy]at hl ⊢;exact .of_eq (h us hl)
def xQ (CX:CXT)(X:Cx)(E:XK):Prop:=∀ (pins:List (Addr×Obj)) (σ:St) (H:Hp) (s:Shared) (e:Value) (s':Shared),Inv X pins σ H s->CX X.stack H s E e s'->X.xe e s'
section
variable {X:Cx}{CX:CXT}{k:Nat}{f C:Addr}{fd:FuncData}{ps:List Str}{sp:Sp}{dvs:List V}{ds:List Value}{E:XK}{x m:Str}{p pos apos:Pos}{e o:Expr}{es:List Expr}{ta:TE}{t:TA}
structure Mk (K:PySem.W.Frag)(C f:Addr):Prop where
 makes:Ep K C=true
 init:Ao K (.ref C) "__init__" = some (some (.ref f))
 fn:PySem.W.isFn K (.ref f)=true
 kp:Cd K (.ref C)=true
theorem aFb {pins:List (Addr×Obj)}{σ:St}{H:Hp}{s:Shared}{Q:VK}{us:List Value}{vs:List V}(M:Mk X.K C f)(F:FnOk X.prog X.w X.K X.mg X.base CX k f fd ps sp)(hr:Room (k+1) X.A)(hb:kM X.K fd ps ds)(hd:bC dvs ds)
 (hx:xQ CX X E) (I:Inv X pins σ H s) (r:bC vs us)
 (h:∀ x dx,H x=none->H dx=none->dx≠x->sp (.ref x :: (vs++dvs)) (upd (upd H dx (.own x)) x (.ins C dx [])) (fun v H2=>v=.non/\Q (.ref x) H2) E) :
 wpAny (model X.prog X.w) X.A (call (.ref C) us) (EP X pins σ Q) X.xe s:=by
 have hq:=h (s.heap.objs.size+1) s.heap.objs.size (I.hok.fresh (Nat.le_succ _)) (I.hok.fresh (Ad _)) (Ak (Dt _));have I2:=Inv.made (C:=C) I;have r2:bC (V.ref (s.heap.objs.size+1) :: (vs++dvs)) (Value.ref (s.heap.objs.size+1) :: (us++ds)):=.cons rfl (r.append hd)
 have hl:(Value.ref (s.heap.objs.size+1) :: us++ds).length=ps.length:=by
  have e:=r2.length;rw[F.len _ _ _ _ hq]at e;exact e.symm
 refine wpAny_call (aC0 (f:=f) I.kIn M.makes M.init (beq_iff_eq.mp M.fn) (codeAny_mono (F.run _ X.stack _ _ ⟨Value.ref (s.heap.objs.size+1) :: us,[]⟩ (Value.ref (s.heap.objs.size+1) :: (us++ds)) _ _ E (hr.make C us [])
  (I2.env0.make C us []) (hb _ (Value.ref (s.heap.objs.size+1) :: us) I2.kIn hl) r2 hq) fun r s' hq'=>?_))
 cases r with
 | error e=>exact hx pins σ _ _ e s' I2 hq'
 | ok fl =>
  cases fl with
  | ret u =>
   obtain⟨v,H',I3,rv,ev,q3⟩:=I2.after hq';subst ev;exact⟨rv,⟨V.ref (s.heap.objs.size+1),H',I3,rfl,q3⟩⟩
  | next=>exact False.elim hq'
  | brk=>exact False.elim hq'
  | cont=>exact False.elim hq'
theorem aHb (M:Mk X.K C f)(F:FnOk X.prog X.w X.K X.mg X.base CX k f fd ps sp)(hr:Room (k+1) X.A)(hg:Gl X x)(hm:X.mg x=some (.ref C))(hb:kM X.K fd ps ds)(hd:bC dvs ds)(hx:xQ CX X E)
 (ha:PA X (e :: es) t) (hdb:(x==("__debug__":Str))=false:=by decide) (he:starEach (e :: es) X.env=(false,eval e X.env) :: starEach es X.env:=by rfl) (hpl:(backTo pos (starEach es X.env)).any (·.1)=false:=by rfl) :
 PE X (.Call (.Name x p) (e :: es) [] pos) (aMs C sp dvs E t):=by
 intro pins s σ H Q I h;refine wpAny_Call_Name_kw (lZ I hg hm ?_ hdb)
 refine PySem.W.callWith_K (h₀:=X.base) I.ok.mod.kin M.kp (thn (ha pos pins s σ H _ I h) fun us s1 ⟨vs,H1,I1,r,q⟩=>⟨I1.kIn,?_⟩) he hpl
 exact aFb M F hr hb hd hx I1 r q
end
structure FnScope (N P:List Str)(sc:Scope):Prop where
 kind:sc.kind=.function
 co:sc.isCoroutine=false
 gen:sc.isGenerator=false
 nd:N.Nodup
 pre:N.take P.length=P
 par:∀ x∈P,sc.names.lookup x=some .local\/sc.names.lookup x=some .cell
 nofree:∀ y∈sc.names,y.2≠.free
theorem rN {kindOf:Str->Option NameKind}{x:Str}:∀ {binds:List (Str×Value)} {m:Str->Option Value},(∀ v,(x,v)∉binds)->bindL kindOf binds m x=m x
 | [],_,_=>rfl
 | (n,v) :: r,m,h=>by
  unfold bindL;rw[rN fun w hw=>h w (Am _ hw)];split
  · have:x≠n:=by rintro rfl;exact h v Ap
    simp[this]
  · rfl
theorem rG {kindOf:Str->Option NameKind}{x:Str}:∀ {binds:List (Str×Value)} {m:Str->Option Value},(∀ v,(x,v)∉binds)->bindC kindOf binds m x=m x
 | [],_,_=>rfl
 | (n,v) :: r,m,h=>by
  unfold bindC;rw[rG fun w hw=>h w (Am _ hw)];split
  · rfl
  · have:x≠n:=by rintro rfl;exact h v Ap
    simp[this]
theorem rW {kindOf:Str->Option NameKind}{x:Str}{v:Value}:∀ {P:List Str} {vs:List Value} {i:Nat} {m:Str->Option Value},P.Nodup->P[i]?=some x->vs[i]?=some v->kindOf x=some .local ->
 bindL kindOf (P.zip vs) m x=some v
 | [],_,_,_,_,h,_,_=>by simp at h
 | _ :: _,[],_,_,_,_,h,_=>by simp at h
 | p :: P,w :: vs,0,m,nd,h1,h2,hk=>by
  simp at h1 h2;subst h1;subst h2
  show bindL kindOf ((p,w) :: P.zip vs) m p=_
  unfold bindL;rw[rN fun v hv=>(Cg.mp nd).1 (Er hv).1,if_pos hk];simp
 | p :: P,w :: vs,i+1,m,nd,h1,h2,hk=>by
  show bindL kindOf ((p,w) :: P.zip vs) m x=_
  unfold bindL;exact rW (i:=i) (Cg.mp nd).2 (by simpa using h1) (by simpa using h2) hk
theorem rA {kindOf:Str->Option NameKind}{x:Str}{v:Value}:∀ {P:List Str} {vs:List Value} {i:Nat} {m:Str->Option Value},P.Nodup->P[i]?=some x->vs[i]?=some v->kindOf x≠some .local ->
 bindC kindOf (P.zip vs) m x=some v
 | [],_,_,_,_,h,_,_=>by simp at h
 | _ :: _,[],_,_,_,_,h,_=>by simp at h
 | p :: P,w :: vs,0,m,nd,h1,h2,hk=>by
  simp at h1 h2;subst h1;subst h2
  show bindC kindOf ((p,w) :: P.zip vs) m p=_
  unfold bindC;rw[rG fun v hv=>(Cg.mp nd).1 (Er hv).1,if_neg hk];simp
 | p :: P,w :: vs,i+1,m,nd,h1,h2,hk=>by
  show bindC kindOf ((p,w) :: P.zip vs) m x=_
  unfold bindC;exact rA (i:=i) (Cg.mp nd).2 (by simpa using h1) (by simpa using h2) hk
def start (N:List Str)(vs:List V):St:=vs.map some++Ax (N.length-vs.length) none
def kF (CX:CXT)(P:Program)(w:World)(K:PySem.W.Frag)(mg:Str->Option Value)(base:Heap)(N:List Str)(qual:Str)(scope:Scope)(f:Addr)(cd:Value)(A:Around)(outer:List Env)(s:Shared)(H:Hp)(E:XK):Cx where
 prog:=P
 w:=w
 K:=K
 mg:=mg
 base:=base
 A:=A.deeper (envOfC qual scope s.heap.objs.size f cd)
 N:=N
 s₀:=s
 H₀:=H
 env:=envOfC qual scope s.heap.objs.size f cd
 outer:=outer
 stack:=envOfC qual scope s.heap.objs.size f cd :: outer
 ex:=[]
 calm:=true
 fn:=fun _=>true
 pn:=[]
 xe:=fun e s'=>wpAny (model P w) (A.deeper (envOfC qual scope s.heap.objs.size f cd)) (leaving (envOfC qual scope s.heap.objs.size f cd) e) (fun _ s''=>CX outer H s E e s'') (fun e' s''=>CX outer H s E e' s'') s'
theorem vY {sc:Scope}{n:Nat}{x:Str}(h:sc.names.lookup x=some .cell):∃ c,(cellsFrom n sc.names []).lookup x=some c:=by
 have q:=Cu sc.names n [] (.inl h);exact Dh.mp q
theorem aB4 {CX:CXT}{P:Program}{w:World}{K:PySem.W.Frag}{mg:Str->Option Value}{base:Heap}{N ps:List Str}{qual:Str}{scope:Scope}{f:Addr}{cd:Value}{A:Around}{outer:List Env}{s s1:Shared}{H:Hp}{E:XK}{us:List Value}{vs:List V}
 (S:FnScope N ps scope) (hd:A.handled=none) (e0:Env0 P w K mg base A outer s H) (hl:vs.length=ps.length) (r:bC vs us)
 (x:InCallC s s.heap.objs.size (bindL (envOfC qual scope s.heap.objs.size f cd).kindOf (ps.zip us) fun _=>none) (cellsFrom (s.heap.objs.size+1) scope.names []) (bindC (envOfC qual scope s.heap.objs.size f cd).kindOf (ps.zip us) fun _=>none) s1) :
 Inv (kF CX P w K mg base N qual scope f cd A outer s H E) [] (start N vs) H s1:=by
 have hpl:ps.length<=N.length:=by have:=congrArg Ew S.pre;rw[Du]at this;omega
 obtain⟨h1,tk,rfl,hk⟩:=x.done;have noA:∀ b:Addr,b∉(kF CX P w K mg base N qual scope f cd A outer s H E).ex:=fun b z=>absurd (show b∈([]:List Addr) from z) (by simp)
 refine⟨⟨e0.mod,S.kind,rfl,rfl,Ad _,fun y z c h1 h2=>?_,fun y hy=>?_,fun y c _ h=>?_,fun _=>hd,Around.frames_deeper e0.frames,.inr ⟨rfl,rfl⟩,fun b z=>absurd z (noA b),e0.bs,e0.bsz,fun b _ _=>noA b,fun b z=>absurd z (noA b),e0.funs,e0.frf⟩,
  rfl,e0.bare,Un.kept hk,⟨_,x.toInCall.ns,fun i y v h1 h2 h3=>?_⟩,fun y c h=>⟨_,x.cell y c h⟩,e0.hok.fresh (Ad _),fun y c h=>?_,fun p hp=>absurd (show p∈([]:List (Addr×Obj)) from hp) (by simp),e0.hok.kept hk,?_⟩
 · exact name_of_addr x.apart (PySem.mem_of_lookup h1) (PySem.mem_of_lookup h2)
 · have hy:scope.names.lookup y=some .cell\/scope.names.lookup y=some .free:=hy
   rcases hy with hy | hy
   · exact vY hy
   · exact absurd rfl (S.nofree _ (PySem.mem_of_lookup hy))
 · exact Ea (x.above y c (PySem.mem_of_lookup h))
 · have hi:i<vs.length:=by
    unfold start at h2;by_cases hi:i<vs.length
    · exact hi
    · rw[Bq (by simpa using hi)]at h2
      rw[Cs]at h2;split at h2<;>cases h2
   have ha:vs[i]?=some v:=by
    unfold start at h2;rw[Bj (by simpa using hi),Bb]at h2
    cases e:vs[i]? with
    | none=>rw[e]at h2;cases h2
    | some a=>rw[e]at h2;cases h2;rfl
   obtain⟨u,hu,rv⟩:=r.get ha
   have hp:ps[i]?=some y:=by
    rw[←S.pre,List.getElem?_take_of_lt (by omega)];exact h1
   have ndP:ps.Nodup:=by rw[←S.pre];exact S.nd.sublist (List.take_sublist _ _)
   refine⟨u,rv,?_⟩
   rcases S.par y (Bw hp) with k | k
   · exact .inl ⟨k,rW ndP hp hu k⟩
   · obtain⟨c,e⟩:=vY (n:=s.heap.objs.size+1) k
     refine .inr ⟨.inl k,c,e,?_⟩
     have q:=x.cell y c e;rw[rA ndP hp hu (by show scope.names.lookup y≠_;rw[k];decide)]at q
     exact q
 · exact e0.hok.fresh (Ea (x.above y c (PySem.mem_of_lookup h)))
 · unfold start
   show _=N.length
   rw[Cc,Bi,Da];omega
theorem zQ {CX:CXT}{P:Program}{w:World}{K:PySem.W.Frag}{mg:Str->Option Value}{base:Heap}{k:Nat}{f:Addr}{name qual:Str}{params:Arguments}{body:List Stmt}{scope:Scope}{dV kV doc pm cdv ct oc:Value}{an od:Option Addr}
 {osl:Array (Option Value)} {N ps:List Str} {sp:Sp} (lk:K.lookup f=some ⟨oc,od,.func (By name qual params body scope dV kV doc pm an cdv ct),osl⟩) (hcd:Cq K cdv qual=true) (S:FnScope N ps scope)
 (len:∀ vs H Q E,sp vs H Q E->vs.length=ps.length)
 (hbody:∀ (A:Around) (outer:List Env) (s:Shared) (H:Hp) (vs:List V) (Q:VK) (E:XK),Room k (A.deeper (envOfC qual scope s.heap.objs.size f cdv))->sp vs H Q E ->
  ∃ t,PSs (kF CX P w K mg base N qual scope f cdv A outer s H E) body t/\t { nx:=fun _ H'=>Q .non H',rt:=Q } (start N vs) H) :
 FnOk P w K mg base CX (k+1) f (By name qual params body scope dV kV doc pm an cdv ct) ps sp:=by
 refine⟨len,fun A outer s H args us vs Q E hr e0 hb r hsp=>?_⟩
 have hl:=len _ _ _ _ hsp;have KX:K.In s.heap:=e0.mod.kin.keeps fun b o e=>(e0.bs b o e).1;have lim:s.heap.NoLimit:=e0.mod.nolimit.keeps fun b o e=>(e0.bs b o e).1
 have hkind:∀ y∈ps.zip us,scope.names.lookup y.1=some .local\/(scope.names.lookup y.1=some .cell/\((cellsFrom (s.heap.objs.size+1) scope.names []).lookup y.1).isSome=true):=fun⟨n,v⟩ hy=>by
  rcases S.par n (Er hy).1 with q | q
  · exact .inl q
  · exact .inr ⟨q,Cu _ _ _ (.inl q)⟩
 refine codeAny_call_function hr.depth (KX _ _ lk) rfl S.co S.gen rfl (PySem.W.codeRec_of KX hcd) (hb _ _ _ _ ?_)
 refine wpAny_newFunctionEnv_cells S.kind hkind fun env he s1 x=>?_
 subst he;refine⟨lim.keeps x.toInCall.keep,codeAny_func ?_⟩
 obtain⟨t,ht,hq⟩:=hbody A outer s H vs Q E (hr.deeper _) hsp;have I:Inv (kF CX P w K mg base N qual scope f cdv A outer s H E) [] (start N vs) H s1:=aB4 S hr.hd e0 hl r x;refine wpAny_mono (ht [] s1 (start N vs) H _ I hq) (fun fl s' hs=>?_) fun e s' hs=>hs
 have fin:∀ {σ':St} {H':Hp} {v:V} {u:Value},Inv (kF CX P w K mg base N qual scope f cdv A outer s H E) [] σ' H' s'->bD v u->Q v H'->CE outer P w H s Q u s' :=
  fun {σ' H' v u} J rv q=>⟨v,H',J.os,J.bare,J.base,J.hok,rv,q⟩
 cases fl with
 | ret u =>
  obtain⟨v,σ',H',J,rv,q⟩:=hs;exact fin J rv q
 | next =>
  obtain⟨σ',H',J,q⟩:=hs;exact fin (v:=V.non) (u:=Value.none) J rfl q
 | brk =>
  obtain⟨_,_,_,q⟩:=hs;exact False.elim q
 | cont =>
  obtain⟨_,_,_,q⟩:=hs;exact False.elim q
end L2
namespace L2
open PySem PySem.Spec PyProof.Rows
section
variable {X:Cx}{x:Str}{p pos:Pos}{e:Expr}{es:List Expr}{t:TA}{id T:String}{r:List V->Hp->VK->Prop}
def tCB (r:List V->Hp->VK->Prop)(t:TA):TE:=fun σ H Q=>t σ H fun vs H1=>r vs H1 Q
theorem gV (hc:gH X (.builtin id) r)(hg:Gl X x)(hm:X.mg x=none)(hv:bootBuiltins x=some (.builtin id))(ha:PA X (e :: es) t)(hn:x ≠ "__name__":=by decide)(hdb:(x==("__debug__":Str))=false:=by decide)
 (he:starEach (e :: es) X.env=(false,eval e X.env) :: starEach es X.env:=by rfl) (hpl:(backTo pos (starEach es X.env)).any (·.1)=false:=by rfl):PE X (.Call (.Name x p) (e :: es) [] pos) (tCB r t):=by
 intro pins s σ H Q I h;refine wpAny_Call_Name_kw (eY I hg hm hv ?_ hn hdb)
 exact PyProof.Rows.callWith_builtin1 (thn (ha pos pins s σ H _ I h) fun us s1 ⟨vs,H1,I1,r1,q1⟩=>hc pins s1 σ H1 vs us Q I1 r1 q1) he hpl
theorem fK (hc:gH X (.type T) r)(hg:Gl X x)(hm:X.mg x=none)(hv:bootBuiltins x=some (.type T))(ha:PA X (e :: es) t)(hn:x ≠ "__name__":=by decide)(hdb:(x==("__debug__":Str))=false:=by decide)
 (he:starEach (e :: es) X.env=(false,eval e X.env) :: starEach es X.env:=by rfl) (hpl:(backTo pos (starEach es X.env)).any (·.1)=false:=by rfl):PE X (.Call (.Name x p) (e :: es) [] pos) (tCB r t):=by
 intro pins s σ H Q I h;refine wpAny_Call_Name_kw (eY I hg hm hv ?_ hn hdb)
 exact Ar (thn (ha pos pins s σ H _ I h) fun us s1 ⟨vs,H1,I1,r1,q1⟩=>hc pins s1 σ H1 vs us Q I1 r1 q1) he hpl
end
end L2
namespace HT
open PySem PyProof.Rows
def aIq:List Int->List Int->Bool
 | [],[]=>false
 | [],_ :: _=>true
 | _ :: _,[]=>false
 | x :: xs,y :: ys=>if x=y then aIq xs ys else decide (x<y)
section
variable {prog:Program}{w:World}{A:Around}{E:Value->Shared->Prop}{s:Shared}
theorem aFs {t b:Addr}{vs ws:List Value}{Q:Value->Shared->Prop}(ht:IsTup s.heap t vs.toArray)(hb:IsTup s.heap b ws.toArray)(hv:vs≠[])
 (h1:ws=[]->Q (.ref t) s) (h2:ws≠[]->Q (.ref s.heap.objs.size) { s with heap:=s.heap.push { cls:=.type "tuple",data:=.seq (vs++ws).toArray } })
 (hsz:vs.length+ws.length<=sizeLine):wpAny (model prog w) A (binaryOp .Add (.ref t) (.ref b)) Q E s:=by
 obtain⟨⟨cls,dd,data,sl⟩,ho,hc,n,hd⟩:=id ht;obtain⟨⟨cls2,dd2,data2,sl2⟩,ho2,hc2,n2,hd2⟩:=id hb;simp only at hc hd hc2 hd2;subst hc hd hc2 hd2;have e:vs.toArray++ws.toArray=(vs++ws).toArray:=by simp
 by_cases hw:ws=[]
 · exact concat_meets ⟨_,ho,rfl⟩ ⟨_,ho2,rfl⟩ noFill_tuple_add seq_tuple_add PySem.F.slot_tuple_add PySem.F.entry_tuple_add (PySem.F.args_tuple_add_2 _ _)
    (tuple_addW1 t b vs.toArray ws.toArray n n2 dd dd2 sl sl2 (by simpa using hv) (by simp[hw])) ⟨ho,ho2,h1 hw⟩
 · refine concat_meets ⟨_,ho,rfl⟩ ⟨_,ho2,rfl⟩ noFill_tuple_add seq_tuple_add PySem.F.slot_tuple_add PySem.F.entry_tuple_add (PySem.F.args_tuple_add_2 _ _)
    (tuple_addW2 t b vs.toArray ws.toArray n n2 dd dd2 sl sl2 (by simpa using hv) (by simpa using hw) (by rw[Ac,Ac];exact hsz)) ⟨ho,ho2,?_⟩
   rw[e];exact h2 hw
def sIx (n d:Nat):Option Int->Nat
 | none=>d
 | some v=>if v<0 then (v+(n:Int)).toNat else min v.toNat n
theorem aLx (n d:Nat)(hd:d<=n)(o:Option Int):sIx n d o<=n:=by
 cases o with
 | none=>exact hd
 | some v =>
  show (if v<0 then (v+(n:Int)).toNat else min v.toNat n)<=n
  by_cases hv:v<0
  · rw[if_pos hv];omega
  · rw[if_neg hv];exact Nat.min_le_right _ _
theorem yS (v:Int)(n d:Nat):(if v<0 then max (v+(n:Int)) 0 else min v (n:Int))=((sIx n d (some v):Nat):Int):=by
 show (if v<0 then max (v+(n:Int)) 0 else min v (n:Int))=(((if v<0 then (v+(n:Int)).toNat else min v.toNat n):Nat):Int)
 by_cases hv:v<0
 · simp only[if_pos hv];omega
 · simp only[if_neg hv];omega
theorem xC (lo hi:Option Int)(n:Nat):Builtin.Slice.sliceAdjust lo hi 1 (n:Int)=(((sIx n 0 lo:Nat):Int),((sIx n n hi:Nat):Int)):=by
 have h1:¬ ((1:Int)<0):=by omega
 unfold Builtin.Slice.sliceAdjust;simp only[h1,if_false];refine Prod.ext ?_ ?_
 · cases lo with
   | none=>rfl
   | some v=>exact yS v n 0
 · cases hi with
   | none=>rfl
   | some v=>exact yS v n n
theorem wW (i j:Nat):Builtin.Slice.slicePlaces (i:Int) (j:Int) 1=j-i:=by
 unfold Builtin.Slice.slicePlaces;have h1:(1:Int)>0:=by omega
 simp only[h1,if_true,Int.ediv_one];split<;>omega
theorem oV {v:Value}{o:Option Int}{Q:Option Int->Shared->Prop}(p:IsPart v o)(h:Q o s):wpAny (model prog w) A (Builtin.Slice.slicePartIndex v) Q E s:=by
 cases p with
 | none=>exact slicePart_none h
 | int i t=>exact slicePart_int h
theorem gY {sl:Addr}{vl vu:Value}{lo hi:Option Int}{n:Nat}{Q:Int×Int×Nat->Shared->Prop}(hs:s.heap.IsSliceOf sl vl vu .none)(pl:IsPart vl lo)(pu:IsPart vu hi)
 (h:Q (((sIx n 0 lo:Nat):Int),1,sIx n n hi-sIx n 0 lo) s):wpAny (model prog w) A (Builtin.Slice.sliceApplied (.ref sl) (pure (n:Int))) Q E s:=by
 obtain⟨os,hos,hcs,hds⟩:=id hs;unfold Builtin.Slice.sliceApplied Builtin.Slice.sliceFields;refine wpAny_bind (wpAny_bind (wpAny_field hos hds (x:=vl) rfl (wpAny_bind (wpAny_field hos hds (x:=vu) rfl (wpAny_bind (wpAny_field hos hds (x:=.none) rfl (wpAny_pure ?_)))))))
 refine wpAny_bind (slicePart_none ?_)
 show wpAny _ _ (if ((1:Int)==0)=true then _ else _) _ _ s
 rw[if_neg (by decide)]
 refine wpAny_bind (oV pl (wpAny_bind (oV pu (wpAny_bind (wpAny_pure ?_)))))
 show wpAny _ _ (match Builtin.Slice.sliceAdjust lo hi 1 (n:Int) with | (lo,hi)=>pure (lo,(1:Int),Builtin.Slice.slicePlaces lo hi 1)) _ _ s
 rw[xC lo hi n];show wpAny _ _ (pure (((sIx n 0 lo:Nat):Int),(1:Int),Builtin.Slice.slicePlaces ((sIx n 0 lo:Nat):Int) ((sIx n n hi:Nat):Int) 1)) _ _ s
 rw[wW];exact wpAny_pure h
theorem aDo (xs:Array Value)(i k:Nat):((Bp k).filterMap fun (m:Nat)=>xs[((i:Int)+(m:Int)*1).toNat]?).toArray=((xs.toList.drop i).take k).toArray:=by
 have e:(fun (m:Nat)=>xs[((i:Int)+(m:Int)*1).toNat]?)=fun m=>xs[i+m]?:=by
  funext m
  have:((i:Int)+(m:Int)*1).toNat=i+m:=by omega
  rw[this]
 rw[e];have:=pick_run xs i k
 rw[List.filterMap_map]at this;have e2:((fun x=>xs[x]?)∘fun x=>i+x)=fun m=>xs[i+m]?:=rfl;rw[e2]at this;rw[this]
theorem lN {t sl:Addr}{items:Array Value}{vl vu:Value}{lo hi:Option Int}{Q:Value->Shared->Prop}(ht:IsTup s.heap t items)(hs:s.heap.IsSliceOf sl vl vu .none)(pl:IsPart vl lo)(pu:IsPart vu hi)
 (hw:¬ (sIx items.size 0 lo=0/\sIx items.size items.size hi=items.size))
 (h:Q (.ref s.heap.objs.size) { s with heap:=s.heap.push { cls:=.type "tuple",data:=.seq ((items.toList.drop (sIx items.size 0 lo)).take (sIx items.size items.size hi-sIx items.size 0 lo)).toArray } })
 (hsz:items.size<=sizeLine):wpAny (model prog w) A (getItem (.ref t) (.ref sl)) Q E s:=by
 have htake:sizeOk (.seq ((items.toList.drop (sIx items.size 0 lo)).take (sIx items.size items.size hi-sIx items.size 0 lo)).toArray):=by
  show ((items.toList.drop (sIx items.size 0 lo)).take (sIx items.size items.size hi-sIx items.size 0 lo)).toArray.size<=sizeLine
  rw[Ac,Du,List.length_drop,Array.length_toList];omega
 have hj:sIx items.size items.size hi<=items.size:=aLx _ _ (Ad _) hi;obtain⟨os,hos,hcs,hds⟩:=id hs;have hTs:s.TypeIs (.ref sl) "slice":=⟨os,hos,hcs⟩;unfold getItem;try with_reducible refine wpAny_holding ?_
 first | refine wpAny_bind (wpAny_pure ?_) | skip
 refine wpAny_bind (wpAny_sequenceKey ht.typeIs (by decide) ?_)
 refine wpAny_bind (wpAny_callSpecial?_slot (name:=Str.ofString "__getitem__") ht.typeIs Bg
  (wpAny_call_entry Bg ht.typeIs entry_tuple_getitem ?_ (args_tuple_getitem _ _)))
 show wpAny _ _ (Builtin.Tuple.tupleItemsOf (.ref t) >>= _) _ _ s
 refine wpAny_bind (tupleItemsOf_ ht ?_)
 refine wpAny_bind (wpAny_typeOf hTs ?_)
 rw[if_pos (by decide)]
 refine wpAny_bind (gY hs pl pu ?_)
 have hno:¬ ((((sIx items.size 0 lo:Nat):Int)==0&&(1:Int)==1&&(sIx items.size items.size hi-sIx items.size 0 lo)==items.size)=true):=by
  intro q;rw[Bt,Bt]at q;have q1:((sIx items.size 0 lo:Nat):Int)=0:=eq_of_beq q.1.1;have q2:sIx items.size items.size hi-sIx items.size 0 lo=items.size:=eq_of_beq q.2;exact hw ⟨by omega,by omega⟩
 show wpAny _ _ (if (((sIx items.size 0 lo:Nat):Int)==0&&(1:Int)==1&&(sIx items.size items.size hi-sIx items.size 0 lo)==items.size)=true then _ else _) _ _ s
 rw[if_neg hno,aDo]
 first
  | exact wpAny_bind (m:=Builtin.Tuple.tupleExact _) (wpAny_newObj_type (wpAny_pure ⟨_,rfl,wpAny_pure h⟩) htake)
  | exact wpAny_bind (m:=Builtin.Tuple.tupleExact _) (wpAny_newObj_type (wpAny_bind (wpAny_pure (wpAny_pure ⟨_,rfl,wpAny_pure h⟩))) htake)
  | exact wpAny_bind (wpAny_bind (m:=Builtin.Tuple.tupleExact _) (wpAny_newObj_type (wpAny_pure (wpAny_pure ⟨_,rfl,wpAny_pure h⟩)) htake))
  | exact wpAny_bind (wpAny_bind (m:=Builtin.Tuple.tupleExact _) (wpAny_newObj_type (wpAny_pure ⟨_,rfl,wpAny_pure h⟩) htake))
end
end HT
namespace L2
open PySem PySem.Spec PyProof.Rows
abbrev TO:=St->Hp->(Option Int->Hp->Prop)->Prop
def PO (X:Cx)(e:Option Expr)(t:TO):Prop :=
 ∀ (pins:List (Addr×Obj)) (s:Shared) (σ:St) (H:Hp) (Q:Option Int->Hp->Prop),Inv X pins σ H s->t σ H Q ->
  wpAny (model X.prog X.w) X.A (evalPart e X.env) (fun u s'=>∃ o H',Inv X pins σ H' s'/\IsPart u o/\Q o H') X.xe s
def aFl:TO:=fun _ H Q=>Q none H
def aL8 (t:TE):TO:=fun σ H Q=>t σ H fun x H1=>∃ i,x=.int i/\Q (some i) H1
theorem yH {ns:List Int}:∀ {us:List Value},bC (ns.map V.int) us->IntsAre us ns:=by
 induction ns with
 | nil=>intro us r;rw[List.map_nil]at r;cases r;exact .nil
 | cons n ns ih =>
  intro us r;rw[Au]at r;cases r with
  | cons r1 r2 =>
   obtain⟨t,e⟩:=r1;subst e;exact .cons n t (ih r2)
section
variable {X:Cx}{e:Expr}{te:TE}{lo hi:Option Expr}{tl th:TO}{pos p2:Pos}
theorem aG2:PO X none aFl:=by
 intro pins s σ H Q I h;rw[evalPart_none];exact wpAny_pure ⟨none,H,I,.none,h⟩
theorem aH2 (h:PE X e te):PO X (some e) (aL8 te):=by
 intro pins s σ H Q I hw;rw[evalPart_some];refine thn (h pins s σ H _ I hw) fun u s1 ⟨x,H1,I1,r1,q1⟩=>?_
 obtain⟨i,rfl,q⟩:=q1;obtain⟨t,rfl⟩:=r1;exact⟨some i,H1,I1,.int i t,q⟩
def SlR (X:Cx)(r:V->Option Int->Option Int->Hp->VK->Prop):Prop :=
 ∀ (pins:List (Addr×Obj)) (s:Shared) (σ:St) (H:Hp) (x:V) (v vl vu:Value) (lo hi:Option Int) (sl:Addr) (Q:VK),Inv X pins σ H s->bD x v->s.heap.IsSliceOf sl vl vu .none->IsPart vl lo->IsPart vu hi->r x lo hi H Q ->
  ∃ T id,typeLookup (.type T) "__getitem__" = pure (some (.builtin id))/\s.TypeIs v T/\wpAny (model X.prog X.w) X.A (getItem v (.ref sl)) (EP X pins σ Q) X.xe s
def tSl (r:V->Option Int->Option Int->Hp->VK->Prop)(te:TE)(tl th:TO):TE:=fun σ H Q=>te σ H fun x H1=>tl σ H1 fun l H2=>th σ H2 fun u H3=>r x l u H3 Q
theorem pP {r:V->Option Int->Option Int->Hp->VK->Prop}(hr:SlR X r)(he:PE X e te)(hl:PO X lo tl)(hu:PO X hi th):PE X (.Subscript e (.Slice lo hi none p2) pos) (tSl r te tl th):=by
 intro pins s σ H Q I h;refine Subscript_ (thn (he pins s σ H _ I h) fun v s1 ⟨x,H1,I1,r1,q1⟩=>?_)
 refine wpAny_Slice (thn (hl pins s1 σ H1 _ I1 q1) fun vl s2 ⟨l,H2,I2,pl,q2⟩=>thn (hu pins s2 σ H2 _ I2 q2) fun vu s3 ⟨u,H3,I3,pu,q3⟩=>?_)
 rw[evalPart_none];refine wpAny_pure ?_
 have I4:Inv X pins σ H3 { s3 with heap:=s3.heap.push { cls:=.type "slice",data:=.fields #[vl,vu,.none] } }:=I3.kept (t':=s3.toks) fun b ob q=>Aa _ q
 obtain⟨T,id,hT,ht,hg⟩:=hr pins { s3 with heap:=s3.heap.push { cls:=.type "slice",data:=.fields #[vl,vu,.none] } } σ H3 x v vl vu l u s3.heap.objs.size Q I4 r1 (Heap.IsSliceOf.new ..) pl pu q3
 show wpAny (model X.prog X.w) X.A (subscriptTail e (.Slice lo hi none p2) v (.ref s3.heap.objs.size)) (EP X pins σ Q) X.xe { s3 with heap:=s3.heap.push { cls:=.type "slice",data:=.fields #[vl,vu,.none] } }
 exact tail_any (ops:=[.ref s3.heap.objs.size,v]) ht hT hg (by with_unfolding_all rfl)
def mQ (xs:List V)(lo hi:Option Int):List V:=(xs.drop (HT.sIx xs.length 0 lo)).take (HT.sIx xs.length xs.length hi-HT.sIx xs.length 0 lo)
theorem nI (xs:List V)(lo hi:Option Int):(mQ xs lo hi).length<=xs.length:=by
 unfold mQ;rw[Du,List.length_drop];omega
def aNz (K:PySem.W.Frag):V->Option Int->Option Int->Hp->VK->Prop:=fun x lo hi H Q=>∃ a xs,x=.ref a/\SqT K H a xs /\
 ¬ (HT.sIx xs.length 0 lo=0/\HT.sIx xs.length xs.length hi=xs.length)/\∀ p,H p=none->Q (.ref p) (upd H p (.tup (mQ xs lo hi)))
theorem aCi:SlR X (aNz X.K):=by
 intro pins s σ H x v vl vu lo hi sl Q I rx hs pl pu h;obtain⟨a,xs,rfl,hx,hw,q⟩:=h;cases rx;obtain⟨its,r,ht,hz⟩:=I.tuple hx;have hlen:its.toArray.size=xs.length:=by rw[Ac];exact r.length.symm
 refine⟨"tuple",_,Bg.lookup,ht.typeIs,?_⟩
 refine HT.lN ht hs pl pu (by rw[hlen];exact hw) ?_ (by rw[hlen];exact hz)
 rw[hlen];refine⟨.ref s.heap.objs.size,_,I.laid (t':=s.toks) (o:=.tup (mQ xs lo hi)) (fun b ob q=>Aa _ q) (Ad _) ?_,rfl,q _ (I.hok.fresh (Ad _))⟩
 exact⟨Bo (nI xs lo hi) hz,_,(r.drop (HT.sIx xs.length 0 lo)).take (HT.sIx xs.length xs.length hi-HT.sIx xs.length 0 lo),IsTup.new _ _⟩
def aN4 (K:PySem.W.Frag):R2:=fun x y H Q=>∃ a b xs ys,x=.ref a/\y=.ref b/\SqT K H a xs/\SqT K H b ys/\xs≠[]/\xs.length+ys.length<=sizeLine /\
 (ys=[]->Q (.ref a) H)/\(ys≠[]->∀ p,H p=none->Q (.ref p) (upd H p (.tup (xs++ys))))
theorem bC.nil_iff {xs:List V}{us:List Value}(r:bC xs us):us=[]↔xs=[]:=by
 cases r with
 | nil=>simp
 | cons _ _=>simp
theorem aGj:OpR X (binaryOp .Add) (aN4 X.K):=by
 intro pins s σ H x y v u Q I rx ry h;obtain⟨a,b,xs,ys,rfl,rfl,ha,hb,hx,hz,q1,q2⟩:=h;cases rx;cases ry;obtain⟨its,r1,p1,_⟩:=I.tuple ha;obtain⟨its2,r2,p2,_⟩:=I.tuple hb;refine HT.aFs p1 p2 (fun z=>hx (r1.nil_iff.mp z)) (fun z=>⟨.ref a,H,I,rfl,q1 (r2.nil_iff.mp z)⟩) (fun z=>?_) (by rw[←r1.length,←r2.length];exact hz)
 refine⟨.ref s.heap.objs.size,_,I.laid (t':=s.toks) (o:=.tup (xs++ys)) (fun b ob q=>Aa _ q) (Ad _) ?_,rfl,q2 (fun w=>z (r2.nil_iff.mpr w)) _ (I.hok.fresh (Ad _))⟩
 exact⟨by rw[Cc];exact hz,_,r1.append r2,IsTup.new _ _⟩
end
end L2
namespace L2
open PySem PySem.Spec PyProof.Rows
def ixN (n:Nat)(i:Int):Option Nat:=if 0<=i then (if i<n then some i.toNat else none) else if -(n:Int)<=i then some (i+n).toNat else none
def atI {α:Type}(xs:List α)(i:Int):Option α:=(ixN xs.length i).bind fun j=>xs[j]?
theorem yO {n:Nat}{i:Int}{j:Nat}(h:ixN n i=some j):seqIndex? i n=some j/\j<n/\-(n:Int)<=i/\i<n:=by
 unfold ixN at h;by_cases h0:0<=i
 · rw[if_pos h0]at h
   by_cases h1:i<n
   · rw[if_pos h1]at h
     have e:i.toNat=j:=Bn.inj h;exact⟨by rw[seqIndex_of h0 h1,e],by omega,by omega,h1⟩
   · rw[if_neg h1]at h;cases h
 · rw[if_neg h0]at h
   by_cases h1:-(n:Int)<=i
   · rw[if_pos h1]at h
     have e:(i+n).toNat=j:=Bn.inj h;exact⟨by rw[seqIndex_neg (by omega) h1,e],by omega,h1,by omega⟩
   · rw[if_neg h1]at h;cases h
theorem yX {α:Type}{xs:List α}{i:Int}{v:α}(h:atI xs i=some v):∃ j,seqIndex? i xs.length=some j/\xs[j]?=some v/\j<xs.length/\-(xs.length:Int)<=i/\i<xs.length:=by
 unfold atI at h;cases e:ixN xs.length i with
 | none=>rw[e]at h;cases h
 | some j =>
  rw[e]at h;obtain⟨h1,h2,h3,h4⟩:=yO e;exact⟨j,h1,h,h2,h3,h4⟩
theorem yQ {α:Type}{xs:List α}{j:Nat}{v:α}(h:xs[j]?=some v):atI xs (j:Int)=some v:=by
 have hj:j<xs.length:=(Af.mp h).1
 have e:ixN xs.length (j:Int)=some j:=by
  unfold ixN;rw[if_pos (by omega),if_pos (by omega)];simp
 unfold atI;rw[e];exact h
def yN (b:Expr):Prop:=∀ o i,subscripted b false o i=operate [o,i] (getItem o i)
def IxR (X:Cx)(r:R2):Prop :=
 ∀ (value slice:Expr) (pins:List (Addr×Obj)) (s:Shared) (σ:St) (H:Hp) (x y:V) (v u:Value) (Q:VK),Inv X pins σ H s->bD x v->bD y u->r x y H Q ->
  subscripted slice false v u=operate [v,u] (getItem v u)->wpAny (model X.prog X.w) X.A (subscriptTail value slice v u) (EP X pins σ Q) X.xe s
def MtR (X:Cx)(id:String)(r:V->List V->Hp->VK->Prop):Prop :=
 ∀ (pins:List (Addr×Obj)) (s:Shared) (σ:St) (H:Hp) (x:V) (xs:List V) (v:Value) (us:List Value) (Q:VK),Inv X pins σ H s->bD x v->bC xs us->r x xs H Q ->
  wpAny (model X.prog X.w) X.A (call (.builtin id) (v :: us)) (EP X pins σ Q) X.xe s
section
variable {X:Cx}{a b:Expr}{ta tb:TE}{pos:Pos}
theorem aMo {r:R2}(hr:IxR X r)(ha:PE X a ta)(hb:PE X b tb)(hs:yN b):PE X (.Subscript a b pos) (tOp r ta tb):=by
 intro pins s σ H Q I h;exact Subscript_ (aI6 ha hb I h fun v u s2 x y H2 I2 rx ry q=>hr a b pins s2 σ H2 x y v u Q I2 rx ry q (hs _ _))
def aGp (K:PySem.W.Frag):R2:=fun x y H Q=>∃ p xs i v,x=.ref p/\y=.int i/\SqL K H p xs/\atI xs i=some v/\Q v H
def aFy (K:PySem.W.Frag):R2:=fun x y H Q=>∃ p xs i v,x=.ref p/\y=.int i/\SqT K H p xs/\atI xs i=some v/\Q v H
theorem aHh:IxR X (aGp X.K):=by
 intro value slice pins s σ H x y v u Q I rx ry h hs;obtain⟨p,xs,i,z,rfl,rfl,hq,he,q⟩:=h;cases rx;obtain⟨t,rfl⟩:=ry;obtain⟨its,r,pl,hz⟩:=I.list hq;obtain⟨j,h1,h2,h3,h4,h5⟩:=yX he;obtain⟨w,ew,rw'⟩:=r.get h2;have hl:=r.length;have hn:=pC;have fin:EP X pins σ Q w s:=⟨z,H,I,rw',q⟩;by_cases h0:0<=i
 · have hj:i.toNat=j:=by
    rw[seqIndex_of h0 h5]at h1;exact Bn.inj h1
   exact item_listR pl.isList h0 (by omega) (by rw[hj];simpa using ew) fin hs
 · have hj:(i+(its.toArray.size:Int)).toNat=j:=by
    rw[seqIndex_neg (by omega) h4]at h1
    rw[Ac,←hl];exact Bn.inj h1
   exact subscriptTail_builtinR (x:=w) pl.isList.typeIs slot_list_getitem.lookup
    (wpAny_getItem_list_neg (Q:=fun r s'=>r=w/\EP X pins σ Q r s') pl.isList (by omega) (by rw[Ac]<;>omega) (by omega) (by rw[hj];simpa using ew) ⟨rfl,fin⟩) hs
theorem aJ9:IxR X (aFy X.K):=by
 intro value slice pins s σ H x y v u Q I rx ry h hs;obtain⟨p,xs,i,z,rfl,rfl,hq,he,q⟩:=h;cases rx;obtain⟨t,rfl⟩:=ry;obtain⟨its,r,pl,hz⟩:=I.tuple hq;obtain⟨j,h1,h2,h3,h4,h5⟩:=yX he;obtain⟨w,ew,rw'⟩:=r.get h2;have hl:=r.length;have hn:=pC;have fin:EP X pins σ Q w s:=⟨z,H,I,rw',q⟩
 exact subscriptTail_builtinR (x:=w) pl.typeIs slot_tuple_getitem.lookup
  (getItem_tuple (j:=j) (Q:=fun r s'=>r=w/\EP X pins σ Q r s') pl (by omega) (by omega) (by rw[Ac,←hl];exact h1) (by simpa using ew) ⟨rfl,fin⟩) hs
theorem xA (its:List Value)(n j:Nat)(u:Value):Obj.mapSeq (·.setIfInBounds j u) { cls:=.type "list",data:=.seq its.toArray n }={ cls:=.type "list",data:=.seq (its.set j u).toArray n }:=by
 simp[Obj.mapSeq]
theorem Inv.lst {pins:List (Addr×Obj)}{σ:St}{H:Hp}{s:Shared}{p:Addr}{xs:List V}(I:Inv X pins σ H s)(h:H p=some (.lst xs)) :
 ∃ (its:List Value) (n:Nat),bC xs its/\s.heap.get? p=some { cls:=.type "list",data:=.seq its.toArray n }/\xs.length<=sizeLine:=by
 obtain⟨z,its,n,r,e⟩:=I.hok p _ h;exact⟨its,n,r,e,z⟩
theorem Inv.lstUpd {pins:List (Addr×Obj)}{σ:St}{H:Hp}{s:Shared}{p:Addr}{xs ys:List V}{its its':List Value}{n n':Nat}{f:Obj->Obj}(I:Inv X pins σ H s)(h:H p=some (.lst xs))
 (ho:s.heap.get? p=some { cls:=.type "list",data:=.seq its.toArray n }) (hf:f { cls:=.type "list",data:=.seq its.toArray n }={ cls:=.type "list",data:=.seq its'.toArray n' }) (r:bC ys its') (hz:ys.length<=sizeLine) (t:Nat) :
 Inv X pins σ (upd H p (.lst ys)) { s with heap:=s.heap.update p f,toks:=t }:=by
 have e:(s.heap.update p f).get? p=some { cls:=.type "list",data:=.seq its'.toArray n' }:=by
  rw[Cb f ho (by rw[hf]<;>rfl),hf]
 refine I.write (x:=p) (e:=p) (by rw[h];trivial) (.inl rfl) (fun b u hb q=>(Ci _ _ (Ne.symm hb)).trans q) ⟨_,e⟩ ?_
 exact⟨hz,its',n',r,e⟩
def aIp:V->V->V->Hp->(Hp->Prop)->Prop:=fun o i v H Q=>∃ p xs k j,o=.ref p/\i=.int k/\H p=some (.lst xs)/\ixN xs.length k=some j/\Q (upd H p (.lst (xs.set j v)))
theorem aDa:aMf X aIp:=by
 intro pins s σ H o i v ov iv u Q I ro ri rv h;obtain⟨p,xs,k,j,rfl,rfl,hp,hj,q⟩:=h;cases ro;obtain⟨t,rfl⟩:=ri;obtain⟨its,n,r,ho,hz⟩:=I.lst hp;obtain⟨h1,h2,h3,h4⟩:=yO hj;have hl:=r.length;have hn:=pC
 have I':Inv X pins σ (upd H p (.lst (xs.set j v))) { s with heap:=s.heap.update p (Obj.mapSeq (·.setIfInBounds j u)) } :=
  I.lstUpd hp ho (xA its n j u) (r.set rv j) (by rw[Ay];exact hz) s.toks
 by_cases h0:0<=k
 · have hk:k.toNat=j:=by
    rw[seqIndex_of h0 h4]at h1;exact Bn.inj h1
   exact PySem.W.ki_setAt ho h0 (by omega) (by rw[Ac,←hl];exact h4) (by rw[hk];exact⟨_,I',q⟩)
 · have hk:(k+(its.toArray.size:Int)).toNat=j:=by
    rw[seqIndex_neg (by omega) h3]at h1
    rw[Ac,←hl];exact Bn.inj h1
   exact PySem.W.ki_setBack ho (by omega) (by rw[Ac,←hl];exact h3) (by omega) (by rw[hk];exact⟨_,I',q⟩)
theorem tW (lo hi:Option Int)(n:Nat):(sliceBounds lo hi none n).1=((HT.sIx n 0 lo:Nat):Int)/\(sliceBounds lo hi none n).2.1=((HT.sIx n n hi:Nat):Int)/\(sliceBounds lo hi none n).2.2=1:=by
 refine⟨?_,?_,rfl⟩
 · cases lo with
   | none=>simp[sliceBounds,HT.sIx]
   | some i =>
    simp only[sliceBounds,HT.sIx,Option.getD_none,show (1:Int)>0 by decide,if_true]
    by_cases h:i<0
    · simp only[h,if_true]<;>omega
    · simp only[h,if_false]<;>omega
 · cases hi with
   | none=>simp[sliceBounds,HT.sIx]
   | some i =>
    simp only[sliceBounds,HT.sIx,Option.getD_none,show (1:Int)>0 by decide,if_true]
    by_cases h:i<0
    · simp only[h,if_true]<;>omega
    · simp only[h,if_false]<;>omega
theorem qQ (its:List Value)(lo hi:Option Int):slicePick its.toArray lo hi none=((its.drop (HT.sIx its.length 0 lo)).take (HT.sIx its.length its.length hi-HT.sIx its.length 0 lo)).toArray:=by
 obtain⟨h1,h2,h3⟩:=tW lo hi its.toArray.size;unfold slicePick;rw[h1,h2,h3];simp only[sliceRange_one,pick_run,Ac]<;>rfl
def aN0 (K:PySem.W.Frag):V->Option Int->Option Int->Hp->VK->Prop:=fun x lo hi H Q=>∃ a xs,x=.ref a/\SqL K H a xs/\∀ p,H p=none->Q (.ref p) (upd H p (.lst (mQ xs lo hi)))
theorem aF3:SlR X (aN0 X.K):=by
 intro pins s σ H x v vl vu lo hi sl Q I rx hs pl pu h;obtain⟨a,xs,rfl,hx,q⟩:=h;cases rx;obtain⟨its,r,ht,hz⟩:=I.list hx;have hlen:=r.length;refine⟨"list",_,slot_list_getitem.lookup,ht.isList.typeIs,?_⟩
 refine wpAny_getItem_list_slice ht.isList hs pl pu .none (by simp) ?_ (by rw[Ac]<;>omega)
 rw[qQ,←hlen];refine⟨.ref s.heap.objs.size,_,I.laid (t':=s.toks) (o:=.lst (mQ xs lo hi)) (fun b ob q=>Aa _ q) (Ad _) ?_,rfl,q _ (I.hok.fresh (Ad _))⟩
 exact⟨Bo (nI xs lo hi) hz,_,0,(r.drop (HT.sIx xs.length 0 lo)).take (HT.sIx xs.length xs.length hi-HT.sIx xs.length 0 lo),Ae _ rfl⟩
def lF:V->Bool
 | .non=>true
 | .bl _=>true
 | .int _=>true
 | .str _=>true
 | _=>false
def eqV:V->V->Bool
 | .non,.non=>true
 | .bl a,.bl b=>a==b
 | .bl a,.int b=>(if a then 1 else 0)==b
 | .int a,.bl b=>a==(if b then 1 else 0)
 | .int a,.int b=>a==b
 | .str a,.str b=>a==b
 | _,_=>false
theorem aJ6 {A:Around}{s:Shared}{y x:V}{u v:Value}(ry:bD y u)(rx:bD x v)(fy:lF y=true)(fx:lF x=true):SeqAt.EqAt A s u v (eqV y x):=by
 cases y with
 | non =>
  cases ry;cases x with
  | non=>cases rx;exact SeqAt.EqAt.same _
  | bl b=>cases rx;exact SeqAt.EqAt.none_bool b
  | int b=>obtain⟨t,rfl⟩:=rx;exact SeqAt.EqAt.none_int b t
  | str b=>obtain⟨t,rfl⟩:=rx;exact SeqAt.EqAt.none_str b t
  | _=>exact absurd (show false=true from fx) Aq
 | bl a =>
  cases ry;cases x with
  | non=>cases rx;exact SeqAt.EqAt.bool_none a
  | bl b=>cases rx;exact SeqAt.EqAt.bool_bool a b
  | int b=>obtain⟨t,rfl⟩:=rx;exact SeqAt.EqAt.bool_int a b t
  | str b=>obtain⟨t,rfl⟩:=rx;exact SeqAt.EqAt.bool_str a b t
  | _=>exact absurd (show false=true from fx) Aq
 | int a =>
  obtain⟨t',rfl⟩:=ry;cases x with
  | non=>cases rx;exact SeqAt.EqAt.int_none a t'
  | bl b=>cases rx;exact SeqAt.EqAt.int_bool a t' b
  | int b=>obtain⟨t,rfl⟩:=rx;exact SeqAt.EqAt.int_int a t' b t
  | str b=>obtain⟨t,rfl⟩:=rx;exact SeqAt.EqAt.int_str a t' b t
  | _=>exact absurd (show false=true from fx) Aq
 | str a =>
  obtain⟨t',rfl⟩:=ry;cases x with
  | non=>cases rx;exact SeqAt.EqAt.str_none a t'
  | bl b=>cases rx;exact SeqAt.EqAt.str_bool a t' b
  | int b=>obtain⟨t,rfl⟩:=rx;exact SeqAt.EqAt.str_int a t' b t
  | str b=>obtain⟨t,rfl⟩:=rx;exact SeqAt.EqAt.str_str a t' b t
  | _=>exact absurd (show false=true from fx) Aq
 | _=>exact absurd (show false=true from fy) Aq
def eqU (x:V)(u:Value):Bool:=match u with
 | .none=>eqV .non x
 | .bool b=>eqV (.bl b) x
 | .int i _=>eqV (.int i) x
 | .str z _=>eqV (.str z) x
 | _=>false
theorem aEp {x y:V}{u:Value}(r:bD y u)(f:lF y=true):eqU x u=eqV y x:=by
 cases y with
 | non=>cases r;rfl
 | bl b=>cases r;rfl
 | int i=>obtain⟨t,rfl⟩:=r;rfl
 | str z=>obtain⟨t,rfl⟩:=r;rfl
 | _=>exact absurd (show false=true from f) Aq
theorem sL {x:V}:∀ {xs:List V} {us:List Value},bC xs us->xs.all lF=true->us.any (eqU x)=xs.any fun y=>eqV y x
 | _,_,.nil,_=>rfl
 | y :: xs,u :: us,.cons r t,f=>by
  rw[List.all_cons,Bt]at f;rw[Dv,Dv,aEp r f.1,sL t f.2]
theorem pY {A:Around}{s:Shared}{x:V}{v:Value}(rx:bD x v)(fx:lF x=true):∀ {xs:List V} {us:List Value},bC xs us->xs.all lF=true->∀ u∈us,SeqAt.EqAt A s u v (eqU x u)
 | _,_,.nil,_=>fun u hu=>by cases hu
 | y :: xs,u :: us,.cons r t,f=>fun u' hu=>by
  rw[List.all_cons,Bt]at f;rcases Ag.mp hu with rfl | hu
  · rw[aEp r f.1];exact aJ6 r rx f.1 fx
  · exact pY rx fx t f.2 u' hu
def inV (x:V)(xs:List V):Bool:=xs.any fun y=>eqV y x
def rIn (K:PySem.W.Frag)(neg:Bool):R2:=fun x y H Q=>∃ p xs,y=.ref p/\(SqL K H p xs\/SqT K H p xs)/\lF x=true/\xs.all lF=true/\Q (.bl (if neg then !inV x xs else inV x xs)) H
theorem uJ:OpR X (compareOp .NotIn) (rIn X.K true):=by
 intro pins s σ H x y v u Q I rx ry h;obtain⟨p,xs,rfl,hq,fx,fs,q⟩:=h;cases ry;rcases hq with hq | hq
 · obtain⟨its,r,pl,hz⟩:=I.list hq
   refine SeqAt.notIn_listAt (eqU x) pl.isList (fun w hw=>pY rx fx r fs w (by simpa using hw)) ⟨.bl _,H,I,rfl,?_⟩
   rw[show its.toArray.any (eqU x)=its.any (eqU x) by simp,sL r fs]
   exact q
 · obtain⟨its,r,pl,hz⟩:=I.tuple hq
   refine SeqAt.notIn_tupleAt (eqU x) pl (fun w hw=>pY rx fx r fs w (by simpa using hw)) ⟨.bl _,H,I,rfl,?_⟩
   rw[show its.toArray.any (eqU x)=its.any (eqU x) by simp,sL r fs]
   exact q
theorem tQ:gH X (.builtin "len") (fun xs H Q=>∃ p ys,xs=[.ref p]/\(SqL X.K H p ys\/SqT X.K H p ys)/\Q (.int ys.length) H):=by
 intro pins s σ H xs us Q I r h;obtain⟨p,ys,rfl,hq,q⟩:=h;obtain⟨u,rfl,rx⟩:=iA r;cases rx;have hn:=pC;rcases hq with hq | hq
 · obtain⟨its,r',pl,hz⟩:=I.list hq
   have hlen:=r'.length;exact Calls.call_len_list pl.isList (by simp only[Ac]<;>omega) ⟨.int ys.length,H,I.tok _,⟨s.toks+1,by rw[Ac,hlen]⟩,q⟩
 · obtain⟨its,r',pl,hz⟩:=I.tuple hq
   have hlen:=r'.length;exact len_tuple pl (by simp only[Ac]<;>omega) ⟨.int ys.length,H,I.tok _,⟨s.toks+1,by rw[Ac,hlen]⟩,q⟩
theorem sZ:gH X (.type "list") (fun xs H Q=>∃ p ys,xs=[.ref p]/\(SqL X.K H p ys\/SqT X.K H p ys)/\∀ l,H l=none->Q (.ref l) (upd H l (.lst ys))):=by
 intro pins s σ H xs us Q I r h;obtain⟨p,ys,rfl,hq,q⟩:=h;obtain⟨u,rfl,rx⟩:=iA r;cases rx
 have fin:∀ (its:List Value),bC ys its->ys.length<=sizeLine->∀ (h':Heap) (c':Nat),(∀ b o',s.heap.get? b=some o'->h'.get? b=some o') ->
  h'.get? s.heap.objs.size=some { cls:=.type "list",dict:=none,data:=.seq its.toArray c',slots:=#[] }->EP X pins σ Q (.ref s.heap.objs.size) { s with heap:=h' }:=fun its r' hz h' c' kp e =>
  ⟨.ref s.heap.objs.size,_,I.laid (t':=s.toks) kp (Ad _) (show bM X.prog X.w _ h' _ (.lst ys) from ⟨hz,its,c',r',e⟩),rfl,q _ (I.hok.fresh (Ad _))⟩
 rcases hq with hq | hq
 · obtain⟨its,r',pl,hz⟩:=I.list hq
   have hlen:=r'.length;obtain⟨o,ho,hc,n,hd⟩:=pl.isList;exact call_list_seq p (.inl rfl) ho hc hd (fun h' c' kp e=>fin its r' hz h' c' kp e) (by simp only[Ac]<;>omega)
 · obtain⟨its,r',pl,hz⟩:=I.tuple hq
   have hlen:=r'.length;obtain⟨o,ho,hc,n,hd⟩:=pl;exact call_list_seq p (.inr rfl) ho hc hd (fun h' c' kp e=>fin its r' hz h' c' kp e) (by simp only[Ac]<;>omega)
theorem qM:gH X (.type "tuple") (fun xs H Q=>∃ p ys,xs=[.ref p]/\((SqL X.K H p ys/\∀ l,H l=none->Q (.ref l) (upd H l (.tup ys)))\/(SqT X.K H p ys/\Q (.ref p) H))):=by
 intro pins s σ H xs us Q I r h;obtain⟨p,ys,rfl,h⟩:=h;obtain⟨u,rfl,rx⟩:=iA r;cases rx;rcases h with ⟨hq,q⟩ | ⟨hq,q⟩
 · obtain⟨its,r',pl,hz⟩:=I.list hq
   have hlen:=r'.length;refine call_tuple_list pl.isList (fun h' kp=>?_) (by simp only[Ac]<;>omega)
   have I1:Inv X pins σ H { s with heap:=h' }:=I.kept (t':=s.toks) kp
   have I2:Inv X pins σ (upd H h'.objs.size (.tup ys)) { s with heap:=h'.push { cls:=.type "tuple",data:=.seq its.toArray } } :=
    I1.laid (t':=s.toks) (fun b o e=>Aa _ e) (Ad _) (show bM X.prog X.w _ _ _ (.tup ys) from ⟨hz,its,r',IsTup.new _ _⟩)
   exact⟨.ref h'.objs.size,_,I2,rfl,q _ (I1.hok.fresh (Ad _))⟩
 · obtain⟨its,r',pl,hz⟩:=I.tuple hq
   exact call_tuple_same pl ⟨.ref p,H,I,rfl,q⟩
def tyV (K:PySem.W.Frag)(T:String)(x:V)(H:Hp):Prop:=match x with
 | .str _=>T = "str"
 | .int _=>T = "int"
 | .ref p=>(T = "list"/\∃ xs,SqL K H p xs)\/(T = "tuple"/\∃ o,K.lookup p=some o/\o.cls=.type "tuple"/\o.dict=none) \/
  (T = "dict"/\((∃ kvs,H p=some (.dK kvs))\/∃ kvs,H p=some (.dT kvs)))\/(T = "set"/\∃ S n,H p=some (.set S n))
 | _=>False
theorem aLy {pins:List (Addr×Obj)}{σ:St}{H:Hp}{s:Shared}{T:String}{x:V}{v:Value}(I:Inv X pins σ H s)(r:bD x v)(ty:tyV X.K T x H) :
 s.TypeIs v T/\∀ a,v=.ref a->∃ ob,s.heap.get? a=some ob/\ob.dict=none:=by
 cases x with
 | str z =>
  obtain⟨t,rfl⟩:=r;cases (show T = "str" from ty)
  exact⟨typeIs_str s z t,fun _ e=>nomatch e⟩
 | int i =>
  obtain⟨t,rfl⟩:=r;cases (show T = "int" from ty)
  exact⟨typeIs_int s i t,fun _ e=>nomatch e⟩
 | ref p =>
  cases r;rcases ty with ⟨rfl,xs,hq⟩ | ⟨rfl,o,hk,hc,hd⟩ | ⟨rfl,hk⟩ | ⟨rfl,S,n,hk⟩
  · obtain⟨its,_,pl,_⟩:=I.list hq
    refine⟨pl.isList.typeIs,fun a e=>?_⟩
    cases e;obtain⟨o,n,e,c,hd,_⟩:=pl;exact⟨o,e,hd⟩
  · refine⟨⟨o,I.kIn p o hk,hc⟩,fun a e=>?_⟩
    cases e;exact⟨o,I.kIn _ o hk,hd⟩
  · have z:∃ o,s.heap.get? p=some o/\o.ExactDict:=by
     rcases hk with ⟨kvs,hk⟩ | ⟨kvs,hk⟩
     · obtain⟨_,_,_,_,o,_,_,e,ex,_⟩:=I.hok p _ hk
       exact⟨o,e,ex⟩
     · obtain⟨_,_,_,_,o,_,_,e,ex,_⟩:=I.hok p _ hk
       exact⟨o,e,ex⟩
    obtain⟨o,e,ex⟩:=z;refine⟨⟨o,e,ex.1⟩,fun a e2=>?_⟩
    cases e2;exact⟨o,e,ex.2.1⟩
  · obtain⟨o,_,_,_,e,ex,_⟩:=I.hok p _ hk
    refine⟨⟨o,e,ex.1⟩,fun a e2=>?_⟩
    cases e2;exact⟨o,e,ex.2.1⟩
 | _=>exact False.elim ty
def tBM (K:PySem.W.Frag)(T:String)(r:V->List V->Hp->VK->Prop)(to:TE)(t:TA):TE:=fun σ H Q=>to σ H fun x H1=>tyV K T x H1/\t σ H1 fun xs H2=>r x xs H2 Q
variable {o e:Expr}{es:List Expr}{to:TE}{t:TA}{name:Str}{apos cpos:Pos}{T id:String}{r:V->List V->Hp->VK->Prop}
theorem aIx (pa:PlainAttrs T)(slot:Slot T name id)(hty:typeOf (.builtin id)=pure (.type "method_descriptor"))(hm:MtR X id r)(ho:PE X o to)(ha:PA X (e :: es) t)
 (hbase:attributeBase o name X.env (eval o X.env)=eval o X.env:=by rfl)
 (hfew:((backTo cpos (starEach (e :: es) X.env)).all (fun x=>!x.1)&&(backToKw cpos (keywordEach [] X.env)).all (fun x=>x.1.isSome)
  && decide ((e :: es).length+([]:List Keyword).length+(if ([]:List Keyword).isEmpty then 0 else 1)<30))=true:=by rfl)
 (hline:(apos.endLine==cpos.line)=true:=by rfl) (hs:starEach (e :: es) X.env=(false,eval e X.env) :: starEach es X.env:=by rfl) (hplain:(backTo cpos (starEach es X.env)).any (·.1)=false:=by rfl) :
 PE X (.Call (.Attribute o name apos) (e :: es) [] cpos) (tBM X.K T r to t):=by
 intro pins s σ H Q I h;refine wpAny_Call_method_late hbase hfew hline rfl (thn (ho pins s σ H _ I h) fun v s1 ⟨x,H1,I1,r1,ty,q1⟩=>?_)
 obtain⟨h1,h2⟩:=aLy I1 r1 ty;refine⟨T,id,pa,slot,hty,h1,h2,?_⟩
 have hA:=ha cpos pins s1 σ H1 _ I1 q1;rw[hs]at hA ⊢;refine Calls.callWith_builtin (by show (false||(backTo cpos (starEach es X.env)).any (·.1))=false;rw[hplain]<;>rfl) (Calls.evalArgs_plain ?_)
 exact thn hA fun us s2 ⟨vs,H2,I2,r2,q2⟩=>hm pins s2 σ H2 x vs v us Q I2 r1 r2 q2
end
end L2
namespace L2
open PySem PySem.Spec PyProof.Rows
def MtM (X:Cx)(id:String)(r:V->List V->Hp->VK->Prop):Prop :=
 ∀ (pins:List (Addr×Obj)) (s:Shared) (σ:St) (H:Hp) (x:V) (xs:List V) (v:Value) (us:List Value) (Q:VK),Inv X pins σ H s->bD x v->bC xs us->r x xs H Q ->
  wpAny (model X.prog X.w) X.A (call (.builtin id) (v :: us)) (EP X pins σ Q) X.xe s
theorem bC.one:∀ {x:V} {us:List Value},bC [x] us->∃ u,us=[u]/\bD x u
 | _,_,.cons r .nil=>⟨_,rfl,r⟩
theorem bC.two:∀ {x y:V} {us:List Value},bC [x,y] us->∃ u v,us=[u,v]/\bD x u/\bD y v
 | _,_,_,.cons r (.cons q .nil)=>⟨_,_,rfl,r,q⟩
theorem bC.zero:∀ {us:List Value},bC [] us->us=[]
 | _,.nil=>rfl
theorem bC.dropLast {xs:List V}{us:List Value}(h:bC xs us):bC xs.dropLast us.dropLast:=by
 induction h with
 | nil=>exact .nil
 | cons r t ih =>
  cases t with
  | nil=>exact .nil
  | cons q t'=>exact .cons r ih
theorem bC.rep {xs:List V}{us:List Value}(h:bC xs us):∀ k:Nat,bC (Ax k xs).flatten (Ax k us).flatten
 | 0=>.nil
 | k+1=>by
  rw[Ca,Ca,Co,Co];exact bC.append h (bC.rep h k)
theorem qZ (its:List Value):∀ (k:Nat) (acc:List Value),
 List.foldl (fun x1 x2=>x1++x2) acc.toArray (Ax k its.toArray)=(acc++(Ax k its).flatten).toArray
 | 0,acc=>by simp
 | k+1,acc=>by
  have e:acc.toArray++its.toArray=(acc++its).toArray:=by simp
  have e2:(acc++its)++(Ax k its).flatten=acc++(Ax (k+1) its).flatten:=by
   rw[Ca,Co,List.append_assoc]
  rw[←e2,←qZ its k (acc++its),←e,Ca,List.foldl_cons]
section
variable {X:Cx}{pins:List (Addr×Obj)}{σ:St}{H:Hp}{s:Shared}{l b:Addr}{xs ys zs:List V}
theorem Inv.lset {its its':List Value}{n:Nat}{f:Array Value->Array Value}{t':Nat}(I:Inv X pins σ H s)(hH:H l=some (.lst xs))
 (e:s.heap.get? l=some { cls:=.type "list",data:=.seq its.toArray n }) (hf:f its.toArray=its'.toArray) (hv:bC ys its') (hz:ys.length<=sizeLine) :
 Inv X pins σ (upd H l (.lst ys)) { s with heap:=s.heap.update l (Obj.mapSeq f),toks:=t' }:=by
 have q:=PySem.IsL.update e f;rw[hf]at q;refine I.write (x:=l) (e:=l) (by rw[hH];exact trivial) (.inl rfl) (fun b' u hb hu=>(Ci s.heap (Obj.mapSeq f) (Ne.symm hb)).trans hu) ⟨_,q⟩ ?_
 exact⟨hz,its',_,hv,q⟩
theorem Inv.lnew {its:List Value}{t':Nat}(I:Inv X pins σ H s)(hv:bC ys its)(hz:ys.length<=sizeLine) :
 Inv X pins σ (upd H s.heap.objs.size (.lst ys)) { s with heap:=s.heap.push { cls:=.type "list",data:=.seq its.toArray },toks:=t' } :=
 I.laid (fun _ _ q=>Aa _ q) (Ad _) ⟨hz,its,0,hv,Ae _ rfl⟩
theorem Inv.fresh (I:Inv X pins σ H s):H s.heap.objs.size=none:=I.hok.fresh (Ad _)
theorem Inv.lstM (I:Inv X pins σ H s)(hH:H l=some (.lst xs)):xs.length<=sizeLine/\∃ (its:List Value) (n:Nat),bC xs its/\xs.length=its.length/\s.heap.get? l=some { cls:=.type "list",data:=.seq its.toArray n }:=by
 obtain⟨z,its,n,r,e⟩:=I.hok l _ hH;exact⟨z,its,n,r,r.length,e⟩
theorem vS {n:Nat}(h:n<=sizeLine):Builtin.List.listTooLong n=false:=by
 unfold Builtin.List.listTooLong;exact decide_eq_false (by omega)
end
section
variable {X:Cx}
def aGo:V->List V->Hp->VK->Prop:=fun x vs H Q=>∃ l xs y,x=.ref l/\vs=[y]/\H l=some (.lst xs)/\xs.length<sizeLine/\Q .non (upd H l (.lst (xs++[y])))
theorem sA:MtM X "list.append" aGo:=by
 intro pins s σ H x vs v us Q I rx rv h;obtain⟨l,xs,y,rfl,rfl,hH,hz,q⟩:=h;cases rx;obtain⟨u,rfl,ru⟩:=rv.one;obtain⟨z,its,n,r,hl,e⟩:=I.lstM hH;refine call_meets F.slot_list_append ⟨_,e,rfl⟩ F.entry_list_append (F.args_list_append_2 _ _) (PySem.list_append l its.toArray n u (by rw[Ac];omega)) ⟨e,?_⟩
 refine⟨.non,_,I.lset (its':=its++[u]) hH e (by simp) (r.append (.cons ru .nil)) ?_,rfl,q⟩
 rw[Cc,List.length_singleton];omega
def aG5:V->List V->Hp->VK->Prop:=fun x vs H Q=>∃ l b xs zs,x=.ref l/\vs=[.ref b]/\H l=some (.lst xs)/\H b=some (.lst zs)/\xs.length+zs.length<=sizeLine/\Q .non (upd H l (.lst (xs++zs)))
theorem aBj:MtM X "list.extend" aG5:=by
 intro pins s σ H x vs v us Q I rx rv h;obtain⟨l,b,xs,zs,rfl,rfl,hH,hB,hz,q⟩:=h;cases rx;obtain⟨u,rfl,ru⟩:=rv.one;cases ru;obtain⟨z,its,n,r,hl,e⟩:=I.lstM hH;obtain⟨z2,its2,n2,r2,hl2,e2⟩:=I.lstM hB;have hsz:its.toArray.size+its2.toArray.size<=sizeLine:=by rw[Ac,Ac];omega
 have hlong:¬ (!its.toArray.isEmpty&&Builtin.List.listTooLong (its.toArray.size+its2.toArray.size))=true:=by
  rw[vS hsz,Bool.and_false];exact Aq
 refine call_meets F.slot_list_extend ⟨_,e,rfl⟩ F.entry_list_extend (F.args_list_extend_2 _ _)
  (AutoSeq1.list_extend_list_list_0 l its.toArray n b its2.toArray n2 hlong (by rw[Ac];omega) (by omega)) ⟨e,e2,?_⟩
 refine⟨.non,_,I.lset (its':=its++its2) hH e (by simp) (r.append r2) ?_,rfl,q⟩
 rw[Cc];omega
def aN8:R2:=fun x y H Q=>∃ l k xs,x=.ref l/\y=.int k/\H l=some (.lst xs)/\-(2^63)<=k/\k<2^63/\xs.length*k.toNat<=sizeLine /\
 ∀ p,H p=none->Q (.ref p) (upd H p (.lst (Ax k.toNat xs).flatten))
theorem aHg {α:Type}(xs:List α)(k:Nat):(Ax k xs).flatten.length=k*xs.length:=by
 induction k with
 | zero=>simp
 | succ k ih=>rw[Ca,Co,Cc,ih,Nat.succ_mul,Nat.add_comm]
theorem aJz:OpR X (binaryOp .Mult) aN8:=by
 intro pins s σ H x y v u Q I rx ry h;obtain⟨l,k,xs,rfl,rfl,hH,h1,h2,hz,q⟩:=h;cases rx;obtain⟨t,rfl⟩:=ry;obtain⟨z,its,n,r,hl,e⟩:=I.lstM hH;have hlen:its.toArray.size*k.toNat<=sizeLine:=by rw[Ac,←hl];exact hz
 have hcap:¬ its.toArray.size*k.toNat>(2^63-1)/8:=by
  have:(sizeLine:Nat)<=(2^63-1)/8:=by decide
  omega
 have hfit:¬ (!Builtin.List.listFitsIndex k)=true:=by
  rw[fitsIndex_both h1 h2];exact Aq
 have hlong:¬ Builtin.List.listTooLong (its.toArray.size*k.toNat)=true:=by
  rw[vS hlen];exact Aq
 have hnew:List.foldl (fun x1 x2=>x1++x2) #[] (Ax (if its.toArray.isEmpty=true then 0 else k.toNat) its.toArray)=(Ax k.toNat its).flatten.toArray:=by
  have f0:∀ m:Nat,List.foldl (fun x1 x2=>x1++x2) #[] (Ax m its.toArray)=(Ax m its).flatten.toArray:=fun m=>by
   have:=qZ its m []
   rw[Es]at this;exact this
  rw[f0];cases its with
  | nil=>simp
  | cons a r'=>rw[if_neg (by simp)]
 refine wpAny_binaryOp_repeat_ref (T:="list") (U:="int") (by decide) ⟨_,e,rfl⟩ (fun s'=>typeIs_int s' k t) noFill_list_mul F.fills_int_mul F.slot_int_rmul repeat_list F.slot_int_index.lookup
  (call_meets F.slot_int_rmul (typeIs_int s k t) F.entry_int_rmul (F.args_int_rmul_2 _ _) (int___rmul___int_list k t l its.toArray n)
   ⟨e,rfl,⟨_,e,rfl⟩,call_meets F.slot_list_mul ⟨_,e,rfl⟩ F.entry_list_mul (F.args_list_mul_2 _ _) (AutoListH.list___mul___list_int_3 l its.toArray n k t hfit hcap hlong) ⟨e,?_⟩⟩)
 rw[hnew];exact⟨.ref _,_,I.lnew (t':=s.toks) (r.rep k.toNat) (by rw[aHg,Nat.mul_comm];exact hz),rfl,q _ I.fresh⟩
end
end L2
namespace Att
open PySem PySem.W PySem.Calls PyProof.Rows
theorem nR {P:Params}{h:Heap}:∀ (ns:List Int) (vs:List Value),WellAll P h vs (ns.map WData.int)->IntsAre vs ns:=by
 intro ns;induction ns with
 | nil =>
  intro vs w;rw[List.map_nil]at w;cases w;exact .nil
 | cons n ns ih =>
  intro vs w;rw[Au]at w;cases w with
  | cons a b =>
   cases a;exact .cons _ _ (ih _ b)
theorem aCc {l:OpenLaw}{n:Nat}(hn:l.most=some n){P:Params}{h:Heap}{args:List WData}{vals:List Value}
 (hpre:l.row.toRowW.claim.pre args=true) (hwl:WellAll P h vals args) :
 ∃ a vs ns,vals=[Value.ref a]/\args=[WData.list (ns.map WData.int)]/\h.get? a=some { cls:=.type "list",data:=.seq vs.toArray }/\IntsAre vs ns/\ns.length<=n:=by
 have hsh:WShape.hasAll [] args [.list .int]=true:=(pre_splitW hpre).1;have hc:l.pre.holds [] { args:=args }=true:=(pre_splitW hpre).2;obtain⟨d,r,rfl,h1,h2⟩:=hasAllW_cons hsh;obtain rfl:=hasAllW_nil h2;obtain⟨xs,rfl,h3⟩:=hasW_list h1;obtain⟨ns,rfl⟩:=items_int h3
 have hlen:ns.length<=n:=by
  unfold OpenLaw.pre at hc
  have h4:(WTm.not (.lt (.lit (.int (n:Int))) (.len (.arg 0)))).holds [] { args:=[.list (ns.map .int)] }=true:=by
   have h4:=(holds_andW hc).1;rw[hn]at h4;exact h4
  have h5:=condW_of h4 (w_not (w_lt w_lit (w_len_list (w_arg rfl))));rw[Bi]at h5;refine Nat.le_of_not_lt fun q=>?_
  have q':(n:Int)<((ns.length:Nat):Int):=by omega
  first
   | (rw[decide_eq_true q']at h5;exact absurd h5 (by decide))
   | (simp at h5;omega)
 cases hwl with
 | cons w1 w2 =>
  cases w2;cases w1 with
  | list ho hall=>exact⟨_,_,ns,rfl,rfl,ho,nR ns _ hall,hlen⟩
theorem aB8 (l:OpenLaw)(args:List WData):l.row.toRowW.claim.post args (.bool true) args=true :=
 postW_of (r:=l.row.toRowW) (X:=(true==true))
  (show WShape.has [] (.bool true) .bool=true by first | rfl | decide | simp[WShape.has,WShape.arms,WShape.armsAll])
  (show (WTm.eq .res (.lit (.bool true))).value [] { args:=args,res:=some (.bool true),after:=args }=some (.bool (true==true)) from w_eq_bool (w_res rfl) w_lit) rfl
theorem wL {l:OpenLaw}{n:Nat}{q:Program}{loose:List Str}{XP:(Str->Option Value)->Heap->Prop}{YP:World->Heap->Prop}{d:DefRec}
 (hn:l.most=some n) (hdf:d.params.defaults=[])
 (call:∀ (w:World) (s₀ s₁:Shared) (mg mb:Str->Option Value) (fa:Addr) (o:Obj) (pm cd doc:Value) (a:Addr) (vs:List Value) (ns:List Int),
  Ground q loose [] XP w s₀ mg mb s₁.heap->YP w s₁.heap ->
  s₁.heap.get? fa=some o->o.data=.func (docDef d.name d.params d.body d.scope pm cd doc)->s₁.heap.CodeRec cd d.name->mg d.name=some (.ref fa) ->
  s₁.heap.get? a=some { cls:=.type "list",data:=.seq vs.toArray }->IntsAre vs ns->ns.length<=n->s₁.gens=#[] ->
  codeAny (model l.prog w) callerA (.call (.ref fa) ⟨[.ref a],[]⟩) (fun r s'=>r=.ok (.ret (.bool true))/\OldK s₁.heap s'.heap/\s'.os=s₁.os/\AllBare s'.gens) s₁) :
 WalkO q loose XP YP l.row.toRowW d [] (fun f vs=>PySem.call f vs):=by
 intro w s₀ s₁ mg mb G Y fa o pm cd doc dV kV ho hd hcd hD hmg hg args vals as hpre hlay hrd hwl hlo;obtain rfl:dV=.none:=Dflts.none hD hdf;obtain rfl:kV=.none:=Dflts.noKw hD;obtain⟨a,vs,ns,rfl,rfl,hobj,hints,hlen⟩:=aCc hn hpre hwl;refine enter_call (codeAny_mono (call w s₀ s₁ mg mb fa o pm cd doc a vs ns G Y ho (fd_plain hd) hcd hmg hobj hints hlen hg) fun r s' hq=>?_)
 obtain⟨rfl,h2,h3,h4⟩:=hq;exact⟨.inl ⟨.bool true,.bool true,[],rfl,fun _=>rfl,.bool true,aB8 l _,fun _=>⟨Cn,fun _ hm=>(nomatch hm)⟩⟩,h2,h3,h4⟩
end Att
namespace L2
open PySem PySem.Spec PyProof.Rows
theorem rQ:∀ {vs:List Value} {ns:List Int},IntsAre vs ns->bC (ns.map V.int) vs
 | _,_,.nil=>.nil
 | _,_,.cons n t h=>.cons ⟨t,rfl⟩ (rQ h)
def aLd (H:Hp):Prop:=∀ b,H b=none\/∃ o xs,H b=some (.frz o (.lst xs))
theorem aD1 {P:Program}{w:World}{K:PySem.W.Frag}{mg mb:Str->Option Value}{CX:CXT}{k:Nat}{fa a:Addr}{fd:FuncData}{x:Str}{sp:Sp}{s₁:Shared}{vs:List Value}{ns:List Int}
 (KX:K.In s₁.heap) (hns:s₁.heap.Ns mainGlobals mg) (hb:s₁.heap.Ns builtinsNs mb) (hbb:∀ x:Str,x ≠ "__name__"->mb x=bootBuiltins x) (hlim:s₁.heap.NoLimit) (hg:s₁.gens=#[])
 (ha:s₁.heap.get? a=some { cls:=.type "list",data:=.seq vs.toArray }) (hi:IntsAre vs ns) (hl:ns.length<=sizeLine) (hr:Room k callerA)
 (F:∀ base:Heap,K.In base->base.Ns mainGlobals mg->FnOk P w K mg base CX k fa fd [x] sp) (hbind:∀ (s:Shared) (u:Value),BindsTo s fd ⟨[u],[]⟩ [(x,u)])
 (hsp:∀ H:Hp,aLd H->SqL K H a (ns.map V.int)->sp [.ref a] H (fun v _=>v=.bl true) fun _ _ _=>False)
 (hCX:∀ H e s',CX [] H s₁ (fun _ _ _=>False) e s'->False) :
 codeAny (model P w) callerA (.call (.ref fa) ⟨[.ref a],[]⟩) (fun r s'=>r=.ok (.ret (.bool true))/\OldK s₁.heap s'.heap/\s'.os=s₁.os/\AllBare s'.gens) s₁:=by
 have rv:=rQ hi;have lenV:=hi.length
 have core:∀ H:Hp,aLd H->SqL K H a (ns.map V.int)->HOk P w H s₁.heap->(∀ b,H b≠none->b=a)->(H a≠none->K.lookup a=none) ->
  codeAny (model P w) callerA (.call (.ref fa) ⟨[.ref a],[]⟩) (fun r s'=>r=.ok (.ret (.bool true))/\OldK s₁.heap s'.heap/\s'.os=s₁.os/\AllBare s'.gens) s₁:=by
  intro H hO hS hok hA hK;have base_of:∀ {b:Addr} {o:Obj},s₁.heap.get? b=some o->H b=none->(tF s₁.heap H).get? b=some o:=fun e n=>aEh e n
  have noA:∀ {b:Addr} {o:Obj} {es:Array DictEntry} {ep:Nat},s₁.heap.get? b=some o->o.data=.dict es ep->H b=none:=fun {b o es ep} e d=>by
   cases q:H b with
   | none=>rfl
   | some u =>
    have e':b=a:=hA b (by rw[q];simp)
    subst e';rw[ha]at e;cases e;have d':Data.seq vs.toArray _=Data.dict es ep:=d;cases d'
  have nsK:∀ {b:Addr} {m:Str->Option Value},s₁.heap.Ns b m->(tF s₁.heap H).Ns b m:=fun {b m} ⟨o,es,ep,e,d,r⟩=>⟨o,es,ep,base_of e (noA e d),d,r⟩
  have hKb:K.In (tF s₁.heap H):=fun b o e=>base_of (KX b o e) (by
   cases q:H b with
   | none=>rfl
   | some u =>
    have e':b=a:=hA b (by rw[q];simp)
    subst e'
    rw[hK (by rw[q];simp)]at e;cases e)
  have hM:Mod K mg (tF s₁.heap H):=⟨hKb,nsK hns,⟨mb,nsK hb,hbb⟩,let ⟨mc,h1,h2⟩:=hlim;⟨mc,nsK h1,h2⟩⟩
  have e0:Env0 P w K mg (tF s₁.heap H) callerA [] s₁ H:=⟨rfl,hM,fun b o e=>aF2 e,Nat.le_of_eq (aAz _ _),trivial,fun b hb=>absurd (show b∈([]:List Addr) from hb) (by simp),hok,.of_eq hg⟩
  refine codeAny_mono ((F _ hKb (nsK hns)).run callerA [] s₁ H ⟨[.ref a],[]⟩ [.ref a] [.ref a] _ _ hr e0 (hbind s₁ (.ref a)) (.cons rfl .nil) (hsp H hO hS)) fun r s' h=>?_
  cases r with
  | error e=>exact(hCX H e s' h).elim
  | ok fl =>
   cases fl with
   | next=>exact False.elim h
   | brk=>exact False.elim h
   | cont=>exact False.elim h
   | ret u =>
    obtain⟨v,H',os,bare,un,hok',r',q⟩:=h;have q':v=.bl true:=q;subst q';obtain rfl:u=Value.bool true:=r';refine⟨rfl,OldK.of_keep fun b o e=>?_,os,bare⟩
    cases q:H b with
    | none=>exact un.keep b o e q (by intro z;exact absurd (show b∈([]:List Addr) from z) (by simp)) (by simp)
    | some u =>
     rcases hO b with z | ⟨ob,xs,z⟩
     · rw[q]at z;cases z
     · have z2:=un.frzs b ob _ z
       obtain⟨e1,_⟩:=hok b _ z;obtain⟨e2,_⟩:=hok' b _ z2;rw[e]at e1;cases e1;exact e2
 cases hk:K.lookup a with
 | some o =>
  have e:=KX a o hk;rw[ha]at e;cases e;refine core (fun _=>none) (fun _=>.inl rfl) (.inr ⟨_,vs.toArray,_,hk,rfl,rfl,rfl,by rw[Ac,lenV];exact hl,by simpa using rv⟩) (fun b u z=>by have z':(none:Option HO)=some u:=z;cases z') (fun b z=>absurd rfl z) fun z=>absurd rfl z
 | none =>
  refine core (fun b=>if b=a then some (.frz { cls:=.type "list",data:=.seq vs.toArray } (.lst (ns.map V.int))) else none) (fun b=>?_) (.inl (.inr ⟨{ cls:=.type "list",data:=.seq vs.toArray },if_pos rfl⟩)) (fun b u z=>?_) (fun b z=>?_) fun _=>hk
  · by_cases hb:b=a
    · exact .inr ⟨_,_,if_pos hb⟩
    · exact .inl (if_neg hb)
  · by_cases hb:b=a
    · have z':=(if_pos hb).symm.trans z
      cases z';subst hb;exact⟨ha,by rw[Bi];exact hl,vs,_,rv,ha⟩
    · have z':=(if_neg hb).symm.trans z
      cases z'
  · by_cases hb:b=a
    · exact hb
    · exact absurd (if_neg hb) z
end L2
namespace L2
open PySem PySem.Spec PyProof.Rows
theorem aGk {l:PySem.W.OpenLaw}{n k:Nat}{q:Program}{loose:List Str}{XP:(Str->Option Value)->Heap->Prop}{YP:World->Heap->Prop}{d:DefRec}{K:Params->PySem.W.Frag}{CX:World->CXT}{sp:World->Sp}{x:Str}
 (hn:l.most=some n) (hn2:n<=sizeLine) (hdf:d.params.defaults=[]) (hr:Room k callerA)
 (hY:∀ (w:World) (h:Heap),YP w h->(K w.params).In h)
 (F:∀ (w:World) (mg:Str->Option Value) (fa:Addr) (h:Heap),(K w.params).In h->h.Ns mainGlobals mg->mg d.name=some (.ref fa) ->
  ∃ fd:FuncData,(∀ (s:Shared) (u:Value),BindsTo s fd ⟨[u],[]⟩ [(x,u)]) /\
   ∀ base:Heap,(K w.params).In base->base.Ns mainGlobals mg->FnOk l.prog w (K w.params) mg base (CX w) k fa fd [x] (sp w))
 (hsp:∀ (w:World) (H:Hp) (a:Addr) (ns:List Int),ns.length<=n->aLd H->SqL (K w.params) H a (ns.map V.int)->sp w [.ref a] H (fun v _=>v=.bl true) fun _ _ _=>False)
 (hCX:∀ (w:World) (H:Hp) (s:Shared) (e:Value) (s':Shared),CX w [] H s (fun _ _ _=>False) e s'->False) :
 PySem.W.WalkO q loose XP YP l.row.toRowW d [] (fun f vs=>PySem.call f vs):=by
 refine Att.wL hn hdf fun w s₀ s₁ mg mb fa o pm cd doc a vs ns G Y ho hd hcd hmg hobj hints hlen hg=>?_
 have KX:=hY w _ Y;obtain⟨fd,hb,hF⟩:=F w mg fa _ KX G.T.g hmg;exact aD1 KX G.T.g G.T.b G.T.builtins G.T.nolimit hg hobj hints (Bo hlen hn2) hr hF hb (fun H hO hS=>hsp w H a ns hlen hO hS) fun H e s'=>hCX w H s₁ e s'
end L2
namespace L2
open PySem PySem.Spec PyProof.Rows
def zD (s:Stmt)(j:Nat):Stmt:=match s with
 | .ClassDef _ _ _ body _ _ _ _ _ _ _=>body.getD j (.Pass ⟨0,0,0,0⟩)
 | _=>.Pass ⟨0,0,0,0⟩
def eL (s:Stmt):Arguments:=match s with
 | .FunctionDef _ a _ _ _ _ _ _ _ _=>a
 | _=>{ posonlyargs:=[],args:=[],vararg:=none,kwonlyargs:=[],kw_defaults:=[],kwarg:=none,defaults:=[] }
def cL (s:Stmt):List Stmt:=match s with
 | .FunctionDef _ _ b _ _ _ _ _ _ _=>b
 | _=>[]
def aF (s:Stmt):Scope:=match s with
 | .FunctionDef _ _ _ _ _ _ sc _ _ _=>sc
 | _=>{ kind:=.function,names:=[],isGenerator:=false,isCoroutine:=false }
abbrev CX0:CXT:=fun _ _ _ _ _ _=>False
abbrev E0:XK:=fun _ _ _=>False
structure Fun (K:PySem.W.Frag)(x qual:Str)(st:Stmt)(f:Addr)(fd:FuncData):Prop where
 ex:∃ (oc:Value) (od:Option Addr) (kV doc pm:Value) (an:Option Addr) (cdv ct:Value) (osl:Array (Option Value)),
  fd=By x qual (eL st) (cL st) (aF st) .none kV doc pm an cdv ct/\K.lookup f=some ⟨oc,od,.func fd,osl⟩/\Cq K cdv qual=true
 kp:Cd K (.ref f)=true
section
variable {P:Program}{w:World}{K:PySem.W.Frag}{mg:Str->Option Value}{base:Heap}
theorem Fun.ok {x qual:Str}{st:Stmt}{f:Addr}{fd:FuncData}{N ps:List Str}{k:Nat}{sp:Sp}(F:Fun K x qual st f fd)(S:FnScope N ps (aF st))(len:∀ vs H Q E,sp vs H Q E->vs.length=ps.length)
 (hbody:∀ (cdv:Value) (A:Around) (outer:List Env) (s:Shared) (H:Hp) (vs:List V) (Q:VK) (E:XK),Room k (A.deeper (envOfC qual (aF st) s.heap.objs.size f cdv))->sp vs H Q E ->
  ∃ t,PSs (kF CX0 P w K mg base N qual (aF st) f cdv A outer s H E).nox (cL st) t/\t { nx:=fun _ H'=>Q .non H',rt:=Q } (start N vs) H):FnOk P w K mg base CX0 (k+1) f fd ps sp:=by
 obtain⟨oc,od,kV,doc,pm,an,cdv,ct,osl,rfl,lk,hcd⟩:=F.ex;refine zQ lk hcd S len fun A outer s H vs Q E hr hsp=>?_
 obtain⟨t,h,q⟩:=hbody cdv A outer s H vs Q E hr hsp;exact⟨t,h.nox,q⟩
theorem Fun.binds {x qual:Str}{st:Stmt}{f:Addr}{fd:FuncData}{ps:List Str}(F:Fun K x qual st f fd)
 (h:∀ (kV doc pm:Value) (an:Option Addr) (cdv ct:Value) (us:List Value),us.length=ps.length->bindArgs (By x qual (eL st) (cL st) (aF st) .none kV doc pm an cdv ct) ⟨us,[]⟩=pure (ps.zip us)):kM K fd ps []:=by
 obtain⟨oc,od,kV,doc,pm,an,cdv,ct,osl,rfl,lk,hcd⟩:=F.ex;exact .all (h kV doc pm an cdv ct)
theorem sO {x qual:Str}{st:Stmt}{f:Addr}{oc:Value}{od an:Option Addr}{osl:Array (Option Value)}{kV doc pm cdv ct:Value}(l:K.lookup f=some ⟨oc,od,.func (By x qual (eL st) (cL st) (aF st) .none kV doc pm an cdv ct),osl⟩)
 (c:Cq K cdv qual=true) (k:Cd K (.ref f)=true):Fun K x qual st f (By x qual (eL st) (cL st) (aF st) .none kV doc pm an cdv ct):=⟨⟨oc,od,kV,doc,pm,an,cdv,ct,osl,rfl,l,c⟩,k⟩
end
section
variable {X:Cx}
theorem pv (i:Nat){x:Str}{pos:Pos}(hN:X.N[i]?=some x:=by rfl)(hv:Vis X.env.scope x:=by first | exact Or.inl rfl | exact Or.inr (Or.inl rfl) | exact Or.inr (Or.inr rfl))(hd:(x==("__debug__":Str))=false:=by decide)
 (hcd:(x==("__classdict__":Str))=false:=by decide):PE X (.Name x pos) (nA i):=kT hN hv hd hcd
end
theorem aE0 {A B:Prop}(h:B):if false=true then A else B:=by
 rw[if_neg Aq];exact h
theorem aDu {A B:Prop}(h:A):if true=true then A else B:=by
 rw[if_pos rfl];exact h
def aG (H H':Hp):Prop:=∀ b o,H b=some o->H' b=some o
theorem aG.refl (H:Hp):aG H H:=fun _ _ h=>h
theorem aG.trans {H H1 H2:Hp}(a:aG H H1)(b:aG H1 H2):aG H H2:=fun c o h=>b c o (a c o h)
theorem aG.free {H H':Hp}(e:aG H H'){l:Addr}(h:H' l=Ev):H l=Ev:=by
 cases q:H l with
 | none=>rfl
 | some o =>
  rw[e l o q]at h;cases h
theorem aG.seq {K:PySem.W.Frag}{H H':Hp}{a:Addr}{xs:List V}(e:aG H H')(h:SqL K H a xs):SqL K H' a xs:=by
 rcases h with (h | ⟨o,h⟩) | h
 · exact .inl (.inl (e _ _ h))
 · exact .inl (.inr ⟨o,e _ _ h⟩)
 · exact .inr h
end L2
namespace L2
open PySem PySem.Spec PyProof.Rows
section
variable {pg:Program}{w:World}{A:Around}
abbrev nox:Value->Shared->Prop:=fun _ _=>False
abbrev wpN {α:Type}(pg:Program)(w:World)(A:Around)(t:Sem α)(Q:α->Shared->Prop)(s:Shared):Prop:=wpAny (model pg w) A t Q nox s
def aC6 (ifs:List Expr)(env:Env):Sem Bool :=
 forIn ifs true fun c r =>
  if r=true then do
   let ok ← isTrue c env (eval c env)
   pure (ForInStep.yield ok)
  else pure (ForInStep.yield r)
def aC5 (pg:Program)(w:World)(A:Around)(elt tg:Expr)(ifs:List Expr)(it acc:Value)(env:Env)(J:Shared->Prop)(v:Value)(s:Shared):Prop :=
 wpN pg w A (letOwnedTupleGo tg it v) (fun _ sa=>wpN pg w A (assign tg env v) (fun _ sb=>wpN pg w A (aC6 ifs env) (fun ok sc =>
  if ok=true then wpN pg w A (eval elt env) (fun x sd=>wpN pg w A (call (.builtin "list.append") [acc,x]) (fun _ se=>J se) sd) sc else J sc) sb) sa) s
theorem mo {α:Type}{t:Sem α}{Q Q':α->Shared->Prop}{E:Value->Shared->Prop}{s:Shared}(h:wpN pg w A t Q s)(k:∀ a s',Q a s'->Q' a s'):wpAny (model pg w) A t Q' E s :=
 wpAny_mono h k (fun _ _ f=>False.elim f)
theorem sP {elt target iter:Expr}{ifs:List Expr}{scope:Scope}{pos:Pos}{it acc:Value}{env:Env}{R:Result->Shared->Prop}{s₀:Shared}(I:Nat->Shared->Prop)
 (lL:∀ n s,I n s->wpN pg w A (pyNext it) (fun r s₁=>match r with
  | none=>R (.ok .next) s₁
  | some v=>aC5 pg w A elt target ifs it acc env (fun s'=>∃ m,m<n/\I m s') v s₁) s)
 (top:Nat) (start:I top s₀):codeAny (model pg w) A (.compLoop (.ListComp elt [⟨target,iter,ifs,0⟩] scope pos) 0 it acc env) R s₀:=by
 apply codeAny_loop rfl I _ top start
 intro n s hI;apply wpAny_noted
 rw[compTurn_list];refine wpAny_bind (wpAny_standAt (wpAny_bind (mo (lL n s hI) ?_)))
 rintro (_ | v) s₁ goal
 · exact wpAny_pure goal
 · refine wpAny_bind (mo goal fun _ sa ga=>wpAny_bind (mo ga fun _ sb gb=>wpAny_bind (mo gb ?_)))
   rintro (_ | _) sc gc
   · exact wpAny_pure (And.intro rfl gc)
   · refine wpAny_bind (wpAny_bind (mo gc fun x sd gd=>wpAny_bind (mo gd fun _ se ge=>?_)))
     exact wpAny_pure (wpAny_pure (And.intro rfl ge))
end
theorem bR:∀ (names:List (Str×NameKind)) (n:Nat) (acc:List (Str×Addr)),cellsFrom n names acc=cellsFrom n names []++acc
 | [],_,_=>rfl
 | (x,k) :: r,n,acc=>by
  unfold cellsFrom;split
  · rw[bR r (n+1) ((x,n) :: acc),bR r (n+1) [(x,n)],List.append_assoc];rfl
  · exact bR r n acc
theorem gP:∀ (names:List (Str×NameKind)) (n:Nat) {x:Str} {c:Addr},(x,c)∈cellsFrom n names []->(x,NameKind.cell)∈names
 | [],_,_,_,h=>by simp[cellsFrom]at h
 | (y,k) :: r,n,x,c,h=>by
  unfold cellsFrom at h;split at h
  · rename_i hk
    rw[bR]at h;have two:=Ch.mp h;rcases two with h | h
    · exact Am _ (gP r _ h)
    · have e:(x,c)=(y,n):=by simpa using h
      have e2:k=NameKind.cell:=by simpa using hk
      cases e;rw[e2];exact Ap
  · exact Am _ (gP r n h)
def gQ (cells:List (Str×Addr)):List (Str×NameKind)->List (Str×Addr)->List (Str×Addr)
 | [],acc=>acc
 | (n,k) :: r,acc=>gQ cells r (if k==.free then ((cells.lookup n).map fun c=>(n,c)).toList++acc else acc)
theorem pZ {cells:List (Str×Addr)}:∀ (names:List (Str×NameKind)) (acc:List (Str×Addr)) {x:Str} {c:Addr},(x,c)∈gQ cells names acc->(x,c)∈acc\/cells.lookup x=some c
 | [],_,_,_,h=>.inl h
 | (n,k) :: r,acc,x,c,h=>by
  unfold gQ at h;rcases pZ r _ h with h | h
  · split at h
    · have two:=Ch.mp h
      rcases two with h | h
      · cases e:cells.lookup n with
        | none=>rw[e]at h;simp at h
        | some c' =>
         rw[e]at h;have e2:(x,c)=(n,c'):=by simpa using h
         cases e2;exact .inr e
      · exact .inl h
    · exact .inl h
  · exact .inr h
theorem mK {cells:List (Str×Addr)}:∀ (names:List (Str×NameKind)) (acc:List (Str×Addr)) {x:Str} {c:Addr},((x,c)∈acc\/((x,NameKind.free)∈names/\cells.lookup x=some c))->(x,c)∈gQ cells names acc
 | [],_,_,_,h=>h.elim id fun h=>by simp at h
 | (n,k) :: r,acc,x,c,h=>by
  unfold gQ;refine mK r _ ?_
  rcases h with h | ⟨h,e⟩
  · left
    split
    · exact As _ h
    · exact h
  · rcases Ag.mp h with h | h
    · cases h
      left
      rw[if_pos (by rfl),e]
      simp
    · exact .inr ⟨h,e⟩
theorem qU {scope:Scope}{env:Env}(h:∀ y∈scope.names,y.2=.free->∃ c,env.cells.lookup y.1=some c):closureFor scope env=pure (gQ env.cells scope.names []):=by
 unfold closureFor
 have go:∀ (names:List (Str×NameKind)) (acc:List (Str×Addr)),(∀ y∈names,y.2=.free->∃ c,env.cells.lookup y.1=some c) ->
  (forIn names acc fun x r=>match x with
   | (name,kind)=>if (kind==NameKind.free)=true then do let a ← cellOf env name;pure (ForInStep.yield ((name,a) :: r)) else pure (ForInStep.yield r):Sem (List (Str×Addr)))=pure (gQ env.cells names acc):=by
  intro names;induction names with
  | nil=>intro acc _;rfl
  | cons y r ih =>
   obtain⟨n,k⟩:=y;intro acc hh;rw[List.forIn_cons];unfold gQ;by_cases hk:(k==NameKind.free)=true
   · have e2:k=NameKind.free:=by simpa using hk
     obtain⟨c,hc⟩:=hh (n,k) Ap e2;have hcell:cellOf env n=pure c:=by unfold cellOf;rw[hc]
     simp only[hk,if_true,hcell,pure_bind,hc,Option.map_some,Option.toList_some,List.singleton_append];exact ih _ fun y hy=>hh y (Am _ hy)
   · simp only[hk,if_false,pure_bind]
     exact ih _ fun y hy=>hh y (Am _ hy)
 have:=go scope.names [] h
 simp only[this,pure_bind]
theorem kZ {α:Type}:∀ {l:List (Str×α)} {x:Str} {a:α},(l.map (·.1)).Nodup->(x,a)∈l->l.lookup x=some a
 | (y,b) :: r,x,a,hn,h=>by
  have hn:=Cg.mp (show (y :: r.map (·.1)).Nodup from hn)
  rcases Ag.mp h with h | h
  · cases h
    simp
  · have hne:x≠y:=fun e=>hn.1 (by rw[←e];exact Dl.mpr ⟨(x,a),h,rfl⟩)
    rw[Aw,beq_false_of_ne hne];exact kZ hn.2 h
theorem bJ {α:Type}:∀ {l:List (Str×α)} {x:Str},x∈l.map (·.1)->∃ a,l.lookup x=some a
 | (y,b) :: r,x,h=>by
  rw[Aw];cases e:x==y with
  | true=>exact⟨b,rfl⟩
  | false =>
   rw[Au]at h;rcases Ag.mp h with h | h
   · rw[h]at e;simp at e
   · exact bJ h
def uZ (scope:Scope)(C:Addr)(env:Env):Env:=compEnvC scope (cellsFrom (C+1) scope.names (gQ env.cells scope.names [])) C env
def cD (X:Cx)(scope:Scope)(N:List Str)(fp:List Addr)(s:Shared)(H:Hp):Cx :=
 { X with N:=N,s₀:=s,H₀:=H,env:=uZ scope s.heap.objs.size X.env,outer:=X.stack,stack:=X.stack,ex:=fp,fn:=fun x=>decide (scope.names.lookup x=some .cell),pn:=[],xe:=fun _ _=>False }
structure CompOk (X:Cx)(scope:Scope)(N:List Str)(k:Nat)(fs:List Nat):Prop where
 kind:scope.kind=.function
 nd:(scope.names.map (·.1)).Nodup
 free:∀ y∈scope.names,y.2=.free->y.1∈X.env.cells.map (·.1)
 len:N.length=k+fs.length
 out:∀ (j i:Nat),fs[j]?=some i->∃ x,N[k+j]?=some x/\X.N[i]?=some x/\scope.names.lookup x=some .free/\(X.env.kindOf x=some .cell\/X.env.kindOf x=some .free)
def dM (k:Nat)(fs:List Nat)(σ:St):St:=Ax k none++fs.map fun i=>(σ[i]?).join
def tG (k:Nat)(g:TG):Prop:=∀ x σ H Q,g x σ H Q->g x σ H fun σ' H'=>Q σ' H'/\σ'.length=σ.length/\∀ i,k<=i->σ'[i]?=σ[i]?
def vV (k:Nat)(g:TGs):Prop:=∀ x σ H Q,g x σ H Q->g x σ H fun σ' H'=>Q σ' H'/\σ'.length=σ.length/\∀ i,k<=i->σ'[i]?=σ[i]?
theorem aEb {k i:Nat}(h:i<k):tG k (wE i):=fun x σ H Q q=>⟨q,by simp,fun j hj=>by rw[Ah (by omega)]⟩
theorem aEx {k:Nat}:vV k aH1:=fun x σ H Q ⟨e,q⟩=>⟨e,q,rfl,fun _ _=>rfl⟩
def vW (g:TG):Prop:=∀ x σ H Q Q',(∀ σ' H',Q σ' H'->Q' σ' H')->g x σ H Q->g x σ H Q'
def mW (g:TGs):Prop:=∀ x σ H Q Q',(∀ σ' H',Q σ' H'->Q' σ' H')->g x σ H Q->g x σ H Q'
theorem aA7 {i:Nat}:vW (wE i):=fun _ _ _ _ _ h q=>h _ _ q
theorem aAy:mW aH1:=fun _ _ _ _ _ h ⟨e,q⟩=>⟨e,h _ _ q⟩
theorem wY {t:TG}{u:TGs}(h1:vW t)(h2:mW u):mW (yP t u):=fun x σ H Q Q' h ⟨v,r,e,q⟩=>⟨v,r,e,h1 _ _ _ _ _ (fun σ' H' q'=>h2 _ _ _ _ _ h q') q⟩
theorem aEe {K:PySem.W.Frag}{n:Nat}{u:TGs}(h:mW u):vW (aFp K n u):=fun x σ H Q Q' hq ⟨a,xs,e,h1,h2,q⟩=>⟨a,xs,e,h1,h2,h _ _ _ _ _ hq q⟩
theorem aBo {k:Nat}{t:TG}{u:TGs}(m1:vW t)(m2:mW u)(h1:tG k t)(h2:vV k u):vV k (yP t u):=fun x σ H Q ⟨v,r,e,q⟩=>by
 refine⟨v,r,e,?_⟩
 refine m1 _ _ _ _ _ (fun σ' H' q'=>?_) (h1 _ _ _ _ q)
 obtain⟨q1,l1,a1⟩:=q';refine m2 _ _ _ _ _ (fun σ2 H2 q2=>?_) (h2 _ _ _ _ q1)
 obtain⟨q3,l3,a3⟩:=q2;exact⟨q3,l3.trans l1,fun i hi=>(a3 i hi).trans (a1 i hi)⟩
theorem aHv {k n:Nat}{K:PySem.W.Frag}{u:TGs}(h:vV k u):tG k (aFp K n u):=fun x σ H Q ⟨a,xs,e,h1,h2,q⟩=>⟨a,xs,e,h1,h2,h _ _ _ _ q⟩
section
variable {X:Cx}{pins:List (Addr×Obj)}{σ:St}{H:Hp}{s:Shared}{scope:Scope}{N:List Str}{k:Nat}{fs:List Nat}{fp:List Addr}
theorem CompOk.clos (C:CompOk X scope N k fs):closureFor scope X.env=pure (gQ X.env.cells scope.names []):=qU fun y hy hf=>bJ (C.free y hy hf)
theorem CompOk.names (C:CompOk X scope N k fs):∀ y∈scope.names,y.2=.local->scope.names.lookup y.1=some .local:=fun y hy e=>kZ C.nd (by rw[←e];exact hy)
theorem vA {cells:List (Str×Addr)}{names:List (Str×NameKind)}{x:Str}{c:Addr}(h:(gQ cells names []).lookup x=some c):cells.lookup x=some c :=
 (pZ names [] (mem_of_lookup h)).elim (fun z=>by simp at z) id
theorem fW {cells:List (Str×Addr)}{C:Nat}{x:Str}{c:Addr}(h:(cellsFrom (C+1) scope.names (gQ cells scope.names [])).lookup x=some c) :
 (x,c)∈cellsFrom (C+1) scope.names []\/cells.lookup x=some c:=by
 rw[bR]at h;rcases Ch.mp (mem_of_lookup h) with z | z
 · exact .inl z
 · exact .inr ((pZ _ _ z).elim (fun z=>by simp at z) id)
theorem tR {env:Env}{x:Str}:(relabel scope env).names.lookup x=some .cell\/(relabel scope env).names.lookup x=some .free->scope.names.lookup x=some .cell\/scope.names.lookup x=some .free:=by
 unfold relabel;generalize scope.names=names
 induction names with
 | nil=>simp
 | cons y r ih =>
  obtain⟨n,kd⟩:=y;simp only[Au];by_cases hx:(x==n)=true
  · split
    · rename_i hc
      intro _
      have:(kd==NameKind.free)=true:=by
       have hc:=Bx.mp hc;exact(Bx.mp hc.1).1
      have e:kd=NameKind.free:=by simpa using this
      rw[Aw,hx,e];exact .inr rfl
    · intro h
      simp only[Aw,hx]at h ⊢;exact h
  · have hx':(x==n)=false:=by simpa using hx
    intro h
    have h':(Cm x (r.map fun x=>match x with | (n,k)=>if (k==NameKind.free&&env.scope.kind==.function&&env.kindOf n==some .cell)=true then (n,NameKind.cell) else (n,k))=some .cell\/Cm x (r.map fun x=>match x with | (n,k)=>if (k==NameKind.free&&env.scope.kind==.function&&env.kindOf n==some .cell)=true then (n,NameKind.cell) else (n,k))=some .free):=by
     split at h<;>simpa only[Aw,hx'] using h
    rw[Aw,hx'];exact ih h'
theorem mE {env:Env}{x:Str}:scope.names.lookup x=some .free->(relabel scope env).names.lookup x=some .cell\/(relabel scope env).names.lookup x=some .free:=by
 unfold relabel;generalize scope.names=names
 induction names with
 | nil=>simp
 | cons y r ih =>
  obtain⟨n,kd⟩:=y;simp only[Au];intro h;by_cases hx:(x==n)=true
  · rw[Aw,hx]at h
    cases h;split
    · left;rw[Aw,hx]
    · right;rw[Aw,hx]
  · have hx':(x==n)=false:=by simpa using hx
    rw[Aw,hx']at h;have:=ih h
    split<;>simpa only[Aw,hx'] using this
theorem aG4 (C:CompOk X scope N k fs)(I:Inv X pins σ H s)(hf:∀ b∈fp,kP X pins H b)(ho:∀ b∈fp,b<s.heap.objs.size):(cD X scope N fp s H).Ok where
 mod:=I.ok.mod
 kind:=C.kind
 glob:=I.ok.glob
 blt:=I.ok.blt
 above:=Ad _
 inj:=fun x y c hx hy=>by
  have ok:=cellsFrom_ok scope.names (s.heap.push { cls:=.type "dict",data:=.dict #[] }) (s.heap.objs.size+1) [] ⟨fun _ _ hm=>(nomatch hm),Cn⟩ (by rw[Be];exact Ad _)
  rw[Be]at ok;have old:∀ z c,X.env.cells.lookup z=some c->c<s.heap.objs.size:=fun z c e=>let ⟨_,q⟩:=I.cell z c e;q.lt
  rcases fW hx with h1 | h1<;>rcases fW hy with h2 | h2
  · exact name_of_addr ok.apart h1 h2
  · exact absurd (old _ _ h2) (Nat.not_lt.mpr (Db (ok.empty _ _ h1).2))
  · exact absurd (old _ _ h1) (Nat.not_lt.mpr (Db (ok.empty _ _ h2).2))
  · exact I.ok.inj x y c h1 h2
 has:=fun x h=>by
  have h':scope.names.lookup x=some .cell\/scope.names.lookup x=some .free:=tR h
  have:((cellsFrom (s.heap.objs.size+1) scope.names (gQ X.env.cells scope.names [])).lookup x).isSome=true:=by
   refine Cu _ _ _ ?_
   rcases h' with h' | h'
   · exact .inl h'
   · right
     obtain⟨c,hc⟩:=bJ (C.free _ (mem_of_lookup h') rfl);have hm:x∈(gQ X.env.cells scope.names []).map (·.1):=Dl.mpr ⟨(x,c),mK _ _ (.inr ⟨mem_of_lookup h',hc⟩),rfl⟩;obtain⟨a,ha⟩:=bJ hm;rw[ha];rfl
  exact Dh.mp this
 cab:=fun x c hx hl=>by
  have hx':scope.names.lookup x=some .cell:=of_decide_eq_true hx;have hsome:((cellsFrom (s.heap.objs.size+1) scope.names []).lookup x).isSome=true:=Cu _ _ _ (.inl hx');obtain⟨c',hc'⟩:=Dh.mp hsome;have hl':(cellsFrom (s.heap.objs.size+1) scope.names (gQ X.env.cells scope.names [])).lookup x=some c:=hl;rw[bR,List.lookup_append,hc']at hl';cases hl';have ok:=cellsFrom_ok scope.names (s.heap.push { cls:=.type "dict",data:=.dict #[] }) (s.heap.objs.size+1) [] ⟨fun _ _ hm=>(nomatch hm),Cn⟩ (by rw[Be];exact Ad _)
  rw[Be]at ok;exact Db (ok.empty _ _ (mem_of_lookup hc')).2
 hd:=I.ok.hd
 frames:=I.ok.frames
 stk:=.inl rfl
 exf:=fun b hb=>⟨Ak (ho b hb),fun x c e z=>by
  have ok:=cellsFrom_ok scope.names (s.heap.push { cls:=.type "dict",data:=.dict #[] }) (s.heap.objs.size+1) [] ⟨fun _ _ hm=>(nomatch hm),Cn⟩ (by rw[Be];exact Ad _)
  rw[Be]at ok;rcases fW (cells:=X.env.cells) e with h1 | h1
  · have h2:=(ok.empty _ _ h1).2
    have h3:=ho b hb;rw[z]at h2;exact Cj _ (Aj h3 (Db h2))
  · exact(hf b hb).2.2.2.2.1 x c h1 z⟩
 bs:=I.bs
 bsz:=Bo I.ok.bsz I.sz
 noex:=fun b o e hb=>by
  rcases (hf b hb).2.2.2.1 with z | z
  · exact I.ok.noex b o e z
  · exact absurd (Aj (Ab e) (Bo I.ok.bsz z)) (Cj _)
 exfs:=fun b hb z=>by
  rcases Ag.mp (I.stkSub b z) with e | e
  · exact(hf b hb).2.1 e
  · exact(hf b hb).2.2.1 e
 funs:=I.stack
 frf:=I.stkFree
theorem wT (σ:St):(dM k fs σ).length=k+fs.length:=by simp[dM]
theorem pN {σ:St}{i:Nat}{v:V}(h:(dM k fs σ)[i]?=some (some v)):∃ j i',i=k+j/\fs[j]?=some i'/\σ[i']?=some (some v):=by
 unfold dM at h;by_cases hi:i<k
 · rw[Bj (by simpa using hi),List.getElem?_replicate_of_lt hi]at h
   cases h
 · rw[Bq (by simpa using Nat.le_of_not_lt hi),Da,Bb]at h
   cases e:fs[i-k]? with
   | none=>rw[e]at h;cases h
   | some i' =>
    rw[e]at h;refine⟨i-k,i',by omega,e,?_⟩
    have h':(σ[i']?).join=some v:=Bn.inj h;cases e2:σ[i']? with
    | none=>rw[e2]at h';cases h'
    | some o =>
     rw[e2]at h';have:o=some v:=h'
     rw[this]
theorem aE3 (C:CompOk X scope N k fs)(I:Inv X pins σ H s)(hf:∀ b∈fp,kP X pins H b)(ho:∀ b∈fp,b<s.heap.objs.size) :
 Inv (cD X scope N fp s H) [] (dM k fs σ) H { s with heap:=pushCells (s.heap.push { cls:=.type "dict",data:=.dict #[] }) scope.names }:=by
 have keep:∀ b o,s.heap.get? b=some o->(pushCells (s.heap.push { cls:=.type "dict",data:=.dict #[] }) scope.names).get? b=some o:=fun b o e=>pushCells_keeps _ _ b o (Aa _ e);have ok:=cellsFrom_ok scope.names (s.heap.push { cls:=.type "dict",data:=.dict #[] }) (s.heap.objs.size+1) [] ⟨fun _ _ hm=>(nomatch hm),Cn⟩ (by rw[Be];exact Ad _)
 rw[Be]at ok;refine⟨aG4 C I hf ho,rfl,I.bare,Un.kept keep,⟨fun _=>none,?_,fun i x v hN hσ hv=>?_⟩,fun x c e=>?_,I.hok.fresh (Ad _),fun x c e=>?_,(fun p hp=>by simp[cD]at hp),I.hok.kept keep,by rw[wT];exact C.len.symm⟩
 · exact(Heap.Ns.new s.heap (.type "dict")).keeps (pushCells_keeps _ _)
 · obtain⟨j,i',rfl,hj,hσ'⟩:=pN hσ
   obtain⟨y,hy1,hy2,hy3,hy4⟩:=C.out j i' hj;have e:y=x:=Bn.inj (hy1.symm.trans hN);subst e;obtain⟨m,hn,hl⟩:=I.loc
   have hvis:Vis X.env.scope y:=by
    rcases hy4 with z | z
    · exact .inr (.inl z)
    · exact .inr (.inr z)
   obtain⟨u,ru,lk⟩:=hl i' y v hy2 hσ' hvis;refine⟨u,ru,.inr ⟨?_,?_⟩⟩
   · exact mE hy3
   · rcases lk with ⟨hk,_⟩ | ⟨_,c,hc,hcell⟩
     · rcases hy4 with z | z<;>(rw[hk]at z;cases z)
     · refine⟨c,?_,hcell.keeps keep⟩
       show (cellsFrom (s.heap.objs.size+1) scope.names (gQ X.env.cells scope.names [])).lookup y=some c
       have h1:(cellsFrom (s.heap.objs.size+1) scope.names []).lookup y=none:=by
        cases e2:(cellsFrom (s.heap.objs.size+1) scope.names []).lookup y with
        | none=>rfl
        | some c' =>
         have:=kZ C.nd (gP _ _ (mem_of_lookup e2))
         rw[hy3]at this;cases this
       have h2:y∈(gQ X.env.cells scope.names []).map (·.1):=Dl.mpr ⟨(y,c),mK _ _ (.inr ⟨mem_of_lookup hy3,hc⟩),rfl⟩;obtain⟨c2,hc2⟩:=bJ h2;have h3:=vA hc2;rw[hc]at h3;cases h3;rw[bR,List.lookup_append,h1,hc2];rfl
 · rcases fW (cells:=X.env.cells) e with h1 | h1
   · exact⟨none,(ok.empty _ _ h1).1⟩
   · obtain⟨v,z⟩:=I.cell x c h1
     exact⟨v,z.keeps keep⟩
 · rcases fW (cells:=X.env.cells) e with h1 | h1
   · exact I.hok.fresh (Db (ok.empty _ _ h1).2)
   · exact I.freeC x c h1
end
end L2
namespace L2
open PySem PySem.Spec PyProof.Rows
theorem vU {M:Model}{A:Around}{E:Value->Shared->Prop}{s:Shared}{scope:Scope}{env:Env}{Q:Env->Shared->Prop}
 (h:Q (newEnv scope s.heap.objs.size env.globals (cellsFrom (s.heap.objs.size+1) scope.names (gQ env.cells scope.names [])) env.qual none .none (some env) builtinsNs)
  { s with heap:=pushCells (s.heap.push { cls:=.type "dict",data:=.dict #[] }) scope.names }) :
 wpAny M A (newFunctionEnv scope env.globals (gQ env.cells scope.names []) [] env.qual none .none (some env)) Q E s:=by
 have sz:(s.heap.push { cls:=.type "dict",data:=.dict #[] }).objs.size=s.heap.objs.size+1:=Be ..;unfold newFunctionEnv;rw[if_pos (show (some env).isSome=true from rfl)]
 apply wpAny_bind
 apply wpAny_alloc
 apply wpAny_bind
 apply wpAny_layCells
 · intro name kind cells
   cases e:kind==NameKind.cell<;>simp[e]
 · rw[sz]
   apply wpAny_bind
   apply wpAny_pure
   exact wpAny_pure h
def uL (J:It)(k:Nat)(fs:List Nat)(g:TG)(tb:St->Hp->(Option V->Hp->Prop)->Prop)(σ:St)(acc:Addr)(Qf:Hp->Prop)(H:Hp):Prop :=
 ∃ W:Nat->Nat->List V->Hp->Prop,(∃ m,W 0 m [] (upd H acc (.lst [])))/\∀ i m ys H2,W i m ys H2->H2 acc=some (.lst ys) /\
  ((J.stop i H2/\Qf H2)\/(J.go i H2/\ys.length<sizeLine/\∀ x H3,J.yld i H2 x H3->g x (dM k fs σ) H3 fun σ4 H4=>tb σ4 H4 fun o H5 =>
   match o with
   | some v=>H5 acc=some (.lst ys)/\∃ m',m'<m/\W (i+1) m' (ys++[v]) (upd H5 acc (.lst (ys++[v])))
   | none=>∃ m',m'<m/\W (i+1) m' ys H5))
def PB (X:Cx)(ifs:List Expr)(elt:Expr)(tb:St->Hp->(Option V->Hp->Prop)->Prop):Prop :=
 ∀ (pins:List (Addr×Obj)) (s:Shared) (σ:St) (H:Hp) (Q:Option V->Hp->Prop),Inv X pins σ H s->tb σ H Q ->
  wpAny (model X.prog X.w) X.A (aC6 ifs X.env)
   (fun ok s1=>if ok=true then wpAny (model X.prog X.w) X.A (eval elt X.env) (fun u s2=>∃ v H',Inv X pins σ H' s2/\bD v u/\Q (some v) H') X.xe s1 else ∃ H',Inv X pins σ H' s1/\Q none H') X.xe s
def aP5 (te:TE):St->Hp->(Option V->Hp->Prop)->Prop:=fun σ H Q=>te σ H fun v H'=>Q (some v) H'
def bIf (tc:TT)(te:TE):St->Hp->(Option V->Hp->Prop)->Prop:=fun σ H Q=>tc σ H fun b H1=>if b=true then te σ H1 fun v H'=>Q (some v) H' else Q none H1
theorem aJk {X:Cx}{elt:Expr}{te:TE}(he:PE X elt te):PB X [] elt (aP5 te):=by
 intro pins s σ H Q I h;refine wpAny_tests_nil ?_
 rw[if_pos rfl];exact thn (he pins s σ H _ I h) fun u s2 ⟨v,H',I',r,q⟩=>⟨v,H',I',r,q⟩
theorem aMp {X:Cx}{elt c:Expr}{te:TE}{tc:TT}(hc:PT X c tc)(he:PE X elt te):PB X [c] elt (bIf tc te):=by
 intro pins s σ H Q I h;refine wpAny_tests_one (thn (hc pins s σ H _ I h) fun b s1 ⟨H1,I1,q1⟩=>?_)
 cases b with
 | true =>
  rw[if_pos rfl]at q1 ⊢;exact thn (he pins s1 σ H1 _ I1 q1) fun u s2 ⟨v,H',I',r,q⟩=>⟨v,H',I',r,q⟩
 | false =>
  rw[if_neg Aq]at q1 ⊢;exact⟨H1,I1,q1⟩
section
variable {X:Cx}{pins:List (Addr×Obj)}{σ:St}{H:Hp}{s:Shared}{scope:Scope}{N:List Str}{k:Nat}{fs:List Nat}{tg iter elt:Expr}{ifs:List Expr}{pos:Pos}{g:TG}{tb:St->Hp->(Option V->Hp->Prop)->Prop}
theorem qG {J:It}{fp:List Addr}{it:Addr}{tn:Nat->Heap->Prop}{Qf:Addr->Hp->Prop}{RR:Value->Addr->Result->Shared->Prop}{E:Value->Shared->Prop}(hc:X.calm=true)(C:CompOk X scope N k fs)(I:Inv X pins σ H s)
 (T:Turn X.prog X.w X.K tg J fp it tn) (t0:tn 0 s.heap) (f0:∀ b∈fp,kP X pins H b) (hg:∀ fp s H,PG (cD X scope N fp s H) tg g) (gl:tG k g) (hb:∀ fp s H,PB (cD X scope N fp s H) ifs elt tb)
 (h:∀ acc,H acc=none->uL J k fs g tb σ acc (Qf acc) H)
 (hRR:∀ (acc B:Addr) (H':Hp) (s':Shared) (m:Str->Option Value),Qf acc H'->Inv X pins σ H' s'->kP X pins H' B->s'.heap.Ns B m->RR (.ref acc) B (.ok .next) s') :
 wpAny (model X.prog X.w) X.A (newList []) (fun acc s₃=>wpAny (model X.prog X.w) X.A (newFunctionEnv scope X.env.globals (gQ X.env.cells scope.names []) [] X.env.qual none .none (some X.env)) (fun cenv s₄ =>
  codeAny (model X.prog X.w) X.A (.compStart (.ListComp elt [⟨tg,iter,ifs,0⟩] scope pos) 0 (.ref it) acc { cenv with scope:=relabel scope X.env }) (RR acc cenv.locals) s₄) E s₃) E s:=by
 have hfr:H s.heap.objs.size=none:=I.fresh;refine wpAny_newObj_type ?_
 have I1:Inv X pins σ (upd H s.heap.objs.size (.lst [])) { s with heap:=s.heap.push { cls:=.type "list",data:=.seq ([]:List Value).toArray } }:=I.lnew (t':=s.toks) (its:=[]) .nil (Bv _)
 obtain⟨W,⟨m0,w0⟩,lL⟩:=h _ hfr;generalize hacc:s.heap.objs.size=acc at *
 generalize hs1:({ s with heap:=s.heap.push { cls:=.type "list",data:=.seq ([]:List Value).toArray } }:Shared)=s1 at *
 have keep1:∀ b o,s.heap.get? b=some o->s1.heap.get? b=some o:=fun b o e=>by rw[←hs1];exact Aa _ e
 have fpl:∀ b∈fp,b<s.heap.objs.size:=fun b hb=>let ⟨o,e,_⟩:=T.obj _ _ t0 b hb;Ab e
 have sz1:s1.heap.objs.size=acc+1:=by rw[←hs1,←hacc];exact Be ..
 have f1:∀ b∈fp,kP X pins (upd H acc (.lst [])) b:=fun b hb=>⟨by rw[aU (Ak (by rw[←hacc];exact fpl b hb))];exact(f0 b hb).1,(f0 b hb).2⟩
 have ho1:∀ b∈fp,b<s1.heap.objs.size:=fun b hb=>by rw[sz1,←hacc];exact Nat.lt_succ_of_lt (fpl b hb)
 have t1:tn 0 s1.heap:=T.keep _ _ _ t0 fun b _ o e=>keep1 b o e;refine vU ?_
 have I2:=aE3 (fp:=fp) C I1 f1 ho1;have keep2:∀ b o,s1.heap.get? b=some o->(pushCells (s1.heap.push { cls:=.type "dict",data:=.dict #[] }) scope.names).get? b=some o:=fun b o e=>pushCells_keeps _ _ b o (Aa _ e);generalize hs2:({ s1 with heap:=pushCells (s1.heap.push { cls:=.type "dict",data:=.dict #[] }) scope.names }:Shared)=s2 at *
 have t2:tn 0 s2.heap:=T.keep _ _ _ t1 fun b _ o e=>by rw[←hs2];exact keep2 b o e
 have stat:∀ {H':Hp},(∀ b∈fp,H' b=none)->∀ b∈fp,kP (cD X scope N fp s1 (upd H acc (.lst []))) [] H' b:=fun {H'} hn b hb =>
  ⟨hn b hb,((I2.ok.exf b hb)).1,I2.ok.exfs b hb,.inl hb,(I2.ok.exf b hb).2,(fun p hp=>by simp[cD]at hp)⟩
 have back:∀ {σ':St} {H':Hp} {s':Shared},Inv (cD X scope N fp s1 (upd H acc (.lst []))) [] σ' H' s'->Inv X pins σ H' s'/\kP X pins H' s1.heap.objs.size/\∃ m,s'.heap.Ns s1.heap.objs.size m:=fun {σ' H' s'} J=>by
  refine⟨I1.call' (ch:=fp) J.os J.base J.hok J.bare fun b hb=>⟨(f1 b hb).2.2.2.1,(f1 b hb).2.1,(f1 b hb).2.2.2.2.1,(f1 b hb).2.2.2.2.2⟩,I1.fpOk (Ad _) J.free,?_⟩
  obtain⟨m,hn,_⟩:=J.loc;exact⟨m,hn⟩
 have loop:codeAny (model X.prog X.w) X.A (.compLoop (.ListComp elt [⟨tg,iter,ifs,0⟩] scope pos) 0 (.ref it) (.ref acc) (uZ scope s1.heap.objs.size X.env)) (RR (.ref acc) s1.heap.objs.size) s2:=by
  refine sP (fun n s'=>∃ i σ' H' ys,Inv (cD X scope N fp s1 (upd H acc (.lst []))) [] σ' H' s'/\tn i s'.heap/\(∀ b∈fp,H' b=none)/\W i n ys H'/\σ'.length=(dM k fs σ).length/\∀ j,k<=j->σ'[j]?=(dM k fs σ)[j]?) ?_ m0
   ⟨0,_,_,[],I2,t2,fun b hb=>(f1 b hb).1,w0,rfl,fun _ _=>rfl⟩
  rintro n s3 ⟨i,σ3,H3,ys,I3,st3,fr3,w3,len3,ag3⟩
  have I3':=I3.weak (σ':=dM k fs σ) len3.symm fun j v e=>by
   obtain⟨j',i',rfl,_,_⟩:=pN e;rw[ag3 _ (Bd _ _)];exact e
  obtain⟨ha,hcase⟩:=lL i n ys H3 w3;rcases hcase with ⟨stop,q⟩ | ⟨go,hlt,step⟩
  · refine thn (T.done (cD X scope N fp s1 (upd H acc (.lst []))) rfl rfl rfl hc i [] s3 _ H3 _ I3' (stat fr3) st3 stop) fun r s4 ⟨hr,I4⟩=>?_
    subst hr;obtain⟨b1,b2,m,b3⟩:=back I4;exact hRR acc _ H3 s4 m q b1 b2 b3
  · refine thn (T.item (cD X scope N fp s1 (upd H acc (.lst []))) rfl rfl rfl hc i [] s3 _ H3 _ I3' (stat fr3) st3 go) fun r s4 ⟨u,hr,h4⟩=>?_
    subst hr;refine thn h4 fun _ s5 ⟨x,H5,I5,r5,y5,st5,fr5⟩=>?_
    have I5':=I5.pinned (stat fr5) (T.obj _ _ st5);refine thn (hg _ _ _ _ s5 _ H5 x u _ I5' r5 (gl _ _ _ _ (step x H5 y5))) fun _ s6 ⟨σ6,H6,I6,q6,len6,ag6⟩=>?_
    refine thn (hb _ _ _ _ s6 σ6 H6 _ I6 q6) fun ok s7 q7=>?_
    have again:∀ {H8:Hp} {s8:Shared} {ys':List V} {m':Nat},Inv (cD X scope N fp s1 (upd H acc (.lst []))) ([]++pJ fp s5.heap) σ6 H8 s8->m'<n->W (i+1) m' ys' H8 ->
     ∃ m,m<n/\∃ i σ' H' ys,Inv (cD X scope N fp s1 (upd H acc (.lst []))) [] σ' H' s8/\tn i s8.heap/\(∀ b∈fp,H' b=none)/\W i m ys H'/\σ'.length=(dM k fs σ).length/\∀ j,k<=j->σ'[j]?=(dM k fs σ)[j]?:=fun {H8 s8 ys' m'} I8 hm w8=>by
     refine⟨m',hm,i+1,σ6,H8,ys',I8.unpinned,T.keep _ _ _ st5 fun b hb o e=>(I8.pin (b,o) (As _ (As _ (fZ hb e)))).1,fun b hb=>?_,w8,len6,ag6⟩
     obtain⟨o,e,d⟩:=T.obj _ _ st5 b hb;exact(I8.pin (b,o) (As _ (As _ (fZ hb e)))).2.1
    cases ok with
    | false =>
     rw[if_neg Aq]at q7 ⊢;obtain⟨H8,I8,m',hm,w8⟩:=q7;exact again I8 hm w8
    | true =>
     rw[if_pos rfl]at q7 ⊢;refine thn q7 fun u8 s8 ⟨v,H8,I8,r8,ha8,m',hm,w8⟩=>?_
     refine thn (sA _ s8 σ6 H8 (.ref acc) [v] (.ref acc) [u8] (fun _ H'=>H'=upd H8 acc (.lst (ys++[v]))) I8 rfl (.cons r8 .nil) ⟨acc,ys,v,rfl,rfl,ha8,hlt,rfl⟩) fun _ s9 ⟨_,H9,I9,_,e9⟩=>?_
     subst e9;exact again I9 hm w8
 exact codeAny_compStart_list loop (T.self _ 0 _ _ _ t2 loop)
def aIr (wi:TI)(k:Nat)(fs:List Nat)(g:TG)(tb:St->Hp->(Option V->Hp->Prop)->Prop):TE:=fun σ H Q=>wi σ H fun J H1=>∀ acc,H1 acc=none->uL J k fs g tb σ acc (fun H2=>Q (.ref acc) H2) H1
theorem aFu {wi:TI}(hc:X.calm=true)(C:CompOk X scope N k fs)(hi:PI X tg iter wi)(hg:∀ fp s H,PG (cD X scope N fp s H) tg g)(gl:tG k g)(hb:∀ fp s H,PB (cD X scope N fp s H) ifs elt tb)
 (hs:∀ x,foldedSetIterable iter X.env x=pure x:=by intro _;rfl):PE X (.ListComp elt [⟨tg,iter,ifs,0⟩] scope pos) (aIr wi k fs g tb):=by
 intro pins s σ H Q I h;rw[eval_ListComp];refine wpAny_comprehension_free (use:=none) rfl hs C.clos C.kind C.names (thn (hi pins s σ H _ I h) fun v s1 h1=>thn h1 fun itv s2 h2=>?_)
 obtain⟨it,fp,tn,J,H2,e,I2,T,st2,f2,q2⟩:=h2;subst e;refine qG (RR:=fun acc B=>compPost (model X.prog X.w) X.A X.xe none (EP X pins σ Q) acc B) hc C I2 T st2 f2 hg gl hb q2 ?_
 intro acc B H' s' m q I' F n;exact⟨m,n,fun h' sb=>⟨.ref acc,H',I'.turned (t':=s'.toks) (fun b o hb e=>sb.extBut b o hb e) F.1 F.2.1 F.2.2.2.1 F.2.2.2.2.1 F.2.2.2.2.2,rfl,q⟩⟩
def aI5 (i:Nat)(wi:TI)(k:Nat)(fs:List Nat)(g:TG)(tb:St->Hp->(Option V->Hp->Prop)->Prop):TS:=fun D σ H=>wi σ H fun J H1=>∀ acc,H1 acc=none->uL J k fs g tb σ acc (fun H2=>D.nx (σ.set i (some (.ref acc))) H2) H1
theorem aG3 {wi:TI}{i:Nat}{y:Str}{py spos:Pos}(hc:X.calm=true)(hN:X.N.Nodup)(hi':X.N[i]?=some y)(hy:X.env.scope.names.lookup y=some .local)(C:CompOk X scope N k fs)(hi:PI X tg iter wi)(hg:∀ fp s H,PG (cD X scope N fp s H) tg g)(gl:tG k g)
 (hb:∀ fp s H,PB (cD X scope N fp s H) ifs elt tb) (hsw:swapsWith (.ListComp elt [⟨tg,iter,ifs,0⟩] scope pos) (some (.Name y py)) spos.line X.env=pure true)
 (hs:∀ x,foldedSetIterable iter X.env x=pure x:=by intro _;rfl):PS X (.Assign [.Name y py] (.ListComp elt [⟨tg,iter,ifs,0⟩] scope pos) spos) (aI5 i wi k fs g tb):=by
 intro pins s σ H D I h;refine(exec_Assign_Name_used _ _ _ _ hsw).symm▸wpAny_bind (wpAny_standAt (wpAny_bind ?_))
 show wpAny _ X.A (do let _ ← comprehension (.ListComp elt [⟨tg,iter,ifs,0⟩] scope pos) scope X.env _ (newList []) false (eval iter X.env) (some (assign (.Name y py) X.env))) _ _ s
 refine wpAny_bind (wpAny_mono (wpAny_comprehension_free (use:=some (assign (.Name y py) X.env)) (Q:=fun _ s'=>SP X pins D .next s') rfl hs C.clos C.kind C.names
  (thn (hi pins s σ H _ I h) fun v s1 h1=>thn h1 fun itv s2 h2=>?_)) (fun _ s' hq=>wpAny_pure (wpAny_pure hq)) fun _ _ e=>e)
 obtain⟨it,fp,tn,J,H2,e,I2,T,st2,f2,q2⟩:=h2;subst e;refine qG (RR:=fun acc B=>compPost (model X.prog X.w) X.A X.xe (some (assign (.Name y py) X.env)) (fun _ s'=>SP X pins D .next s') acc B) hc C I2 T st2 f2 hg gl hb q2 ?_
 intro acc B H' s' m q I' F n
 have hoB:∃ o,s'.heap.get? B=some o/\∀ v,o.data≠.cell v:=by
  obtain⟨o,es,ep,ho,hd,_⟩:=n;exact⟨o,ho,fun v z=>by rw[hd]at z;cases z⟩
 have I'':=I'.pinned (fp:=[B]) (fun b hb=>by rw[Bk.mp hb];exact F) (fun b hb=>by rw[Bk.mp hb];exact hoB)
 show wpAny _ X.A (assign (.Name y py) X.env (.ref acc)) _ _ _
 refine wpAny_assign_Name (hE (v:=.ref acc) I'' hN hi' (.inl hy) rfl (fun s3 I3=>?_) (.inr hy))
 obtain⟨o,ho,_⟩:=hoB;have pin:=(I3.pin (B,o) (As _ (As _ (fZ (Bk.mpr rfl) ho)))).1;refine⟨m,n.at' fun o' e'=>?_,fun h' sb=>?_⟩
 · rw[ho]at e'
   cases e';exact pin
 · exact⟨_,H',(I3.unpinned).turned (t':=s3.toks) (fun b o hb e=>sb.extBut b o hb e) F.1 F.2.1 F.2.2.2.1 F.2.2.2.2.1 F.2.2.2.2.2,q⟩
end
end L2
namespace Zp
open PySem
def rcd (TI TO T:Addr)(f:Bool):Obj:={ cls:=.type "zip",data:=.fields #[rawInt T,.bool f,.bool false,.ref TI,.ref TO] }
section
variable {prog:Program}{w:World}{A:Around}{E:Value->Shared->Prop}{s:Shared}
theorem aMe {a:Addr}{o:Obj}{Q:Option Obj->Shared->Prop}(ho:s.heap.get? a=some o)(q:Q (some o) s):wpAny (model prog w) A (Sem.loadIfAlive ((a:Nat):Int).toNat Sem.pure) Q E s :=
 fun _ _ _=>by rw[Cp];exact(ho▸q:Q (s.heap.get? a) s)
theorem aLu {z TI TO T:Addr}{f:Bool}{oT:Obj}{Q:Bool->Shared->Prop}(ho:s.heap.get? z=some (rcd TI TO T f))(hT:s.heap.get? T=some oT)
 (q:∀ h',h'.get? z=some (rcd TI TO T true)->Heap.SameBut z s.heap h'->Q false { s with heap:=h' }):wpAny (model prog w) A (Builtin.SmallTypes.ownedTupleIsFree (.ref z)) Q E s:=by
 unfold rcd at ho;cases f
 all_goals repeat (first | assumption | (with_reducible refine wpAny_field ho rfl rfl ?_) | (with_reducible refine aMe hT ?_) | (with_reducible refine wpAny_setField_rec ho (by simp) fun h' e1 e2=>?_) | wp_step)
 · exact q _ e1 e2
 · exact q _ ho (Heap.SameBut.refl _ _)
def Out (N:List Addr)(h h':Heap):Prop:=∀ c o,c∉N->h.get? c=some o->h'.get? c=some o
theorem Out.of {a:Addr}{N:List Addr}{h h':Heap}(e:Heap.ExtBut a h h')(m:a∈N):Out N h h':=fun c o n q=>e c o (fun x=>n (x▸m)) q
theorem Out.then {N:List Addr}{h h1 h2:Heap}(a:Out N h h1)(b:Out N h1 h2):Out N h h2:=fun c o n q=>b c o n (a c o n q)
theorem Out.up {N:List Addr}{h h1:Heap}{o:Obj}(a:Out N h h1):Out N h (h1.push o):=fun c u n q=>Aa o (a c u n q)
variable {z TI TO T i1 i2 l1 l2:Addr}{f:Bool}{oT:Obj}{k:Nat}{xs ys:Array Value}
theorem aDl {x y:Value}{Q:Fin->Shared->Prop}(D:ZipApart z TI TO i1 i2 l1 l2)
 (ho:s.heap.get? z=some (rcd TI TO T f)) (hT:s.heap.get? T=some oT) (hTI:IsPair s.heap TI (.ref i1) (.ref i2)) (a1:s.heap.IsListIter i1 l1 k) (a2:s.heap.IsListIter i2 l2 k)
 (b1:s.heap.IsList l1 xs) (b2:s.heap.IsList l2 ys) (ex:xs[k]?=some x) (ey:ys[k]?=some y)
 (q:∀ h',h'.get? z=some (rcd TI TO T true)->h'.IsListIter i1 l1 (k+1)->h'.IsListIter i2 l2 (k+1)->IsPair h' s.heap.objs.size x y->h'.objs.size=s.heap.objs.size+1->Out [z,i1,i2] s.heap h' ->
  Q (.done (.ret (.ref s.heap.objs.size))) { s with heap:=h' }):wpAny (model prog w) A (Builtin.«zip.__next__» ⟨[.ref z],[]⟩) Q E s:=by
 have hd:=show (rcd TI TO T f).data=.fields #[rawInt T,.bool f,.bool false,.ref TI,.ref TO] from rfl
 repeat (first | assumption | (with_reducible refine wpAny_field ho hd rfl ?_) | (with_reducible refine aLu ho hT fun h1 e1 u1=>?_) | (refine wpAny_nextOf_list_item (it:=i1) (a1.extBut u1.extBut D.i1z) (b1.extBut u1.extBut D.l1z) ex fun h2 e2 u2=>?_) | (refine wpAny_nextOf_list_item (it:=i2) ((a2.extBut u1.extBut D.i2z).extBut u2.extBut D.i12.symm) ((b2.extBut u1.extBut D.l2z).extBut u2.extBut D.l2i1) ey fun h3 e3 u3=>?_) | wp_step)
 have z3:h3.objs.size=s.heap.objs.size:=u3.1.trans (u2.1.trans u1.1);have fr:Out [z,i1,i2] s.heap h3:=((Out.of u1.extBut (by simp)).then (Out.of u2.extBut (by simp))).then (Out.of u3.extBut (by simp))
 rw[z3];refine q _ (Aa _ (u3.extBut _ _ D.i2z.symm (u2.extBut _ _ D.i1z.symm e1))) ((e2.extBut u3.extBut D.i12).at fun _=>Aa _) (e3.at fun _=>Aa _) ?_ (by rw[Be,z3]) fr.up
 exact z3▸Ae h3 rfl
theorem dry {Q:Fin->Shared->Prop}(hh:A.handled=none)(D:ZipApart z TI TO i1 i2 l1 l2)
 (ho:s.heap.get? z=some (rcd TI TO T f)) (hT:s.heap.get? T=some oT) (hTI:IsPair s.heap TI (.ref i1) (.ref i2)) (a1:s.heap.IsListIter i1 l1 k) (a2:s.heap.IsListIter i2 l2 k)
 (b1:s.heap.IsList l1 xs) (b2:s.heap.IsList l2 ys) (no:xs.size<=k\/ys.size<=k)
 (q:∀ h' e o,h'.get? e=some o->o.cls=.type "StopIteration"->Out [z,i1,i2] s.heap h'->E (.ref e) { s with heap:=h' }):wpAny (model prog w) A (Builtin.«zip.__next__» ⟨[.ref z],[]⟩) Q E s:=by
 have hd:=show (rcd TI TO T f).data=.fields #[rawInt T,.bool f,.bool false,.ref TI,.ref TO] from rfl
 by_cases hx:k<xs.size
 · have ex:xs[k]?=some xs[k]:=Array.getElem?_eq_getElem hx
   have ey:ys[k]?=none:=Array.getElem?_eq_none (no.resolve_left (Nat.not_le.mpr hx));repeat (first | assumption | (with_reducible refine wpAny_field ho hd rfl ?_) | (with_reducible refine aLu ho hT fun h1 e1 u1=>?_) | (refine wpAny_nextOf_list_item (it:=i1) (a1.extBut u1.extBut D.i1z) (b1.extBut u1.extBut D.l1z) ex fun h2 e2 u2=>?_) | (refine wpAny_nextOf_list_end (it:=i2) hh ((a2.extBut u1.extBut D.i2z).extBut u2.extBut D.i12.symm) ((b2.extBut u1.extBut D.l2z).extBut u2.extBut D.l2i1) ey fun h3 e u3 p=>?_) | wp_step)
   obtain⟨o,p1,p2⟩:=p;exact q h3 e o p1 p2 (((Out.of u1.extBut (by simp)).then (Out.of u2.extBut (by simp))).then (Out.of u3 (by simp)))
 · have ex:xs[k]?=none:=Array.getElem?_eq_none (Nat.not_lt.mp hx)
   repeat (first | assumption | (with_reducible refine wpAny_field ho hd rfl ?_) | (with_reducible refine aLu ho hT fun h1 e1 u1=>?_) | (refine wpAny_nextOf_list_end (it:=i1) hh (a1.extBut u1.extBut D.i1z) (b1.extBut u1.extBut D.l1z) ex fun h2 e u2 p=>?_) | wp_step)
   obtain⟨o,p1,p2⟩:=p;exact q h2 e o p1 p2 ((Out.of u1.extBut (by simp)).then (Out.of u2 (by simp)))
theorem nxt {o:Obj}{Q:Option Value->Shared->Prop}(ho:s.heap.get? z=some o)(hc:o.cls=.type "zip")
 (h:wpAny (model prog w) A.in1 (Builtin.«zip.__next__» ⟨[.ref z],[]⟩) (fun r s'=>∃ v,r=.done (.ret v)/\Q (some v) s') (fun e s'=>∃ a u,e=.ref a/\s'.heap.get? a=some u/\u.cls=.type "StopIteration"/\Q none s') s):wpAny (model prog w) A (pyNext (.ref z)) Q E s:=by
 have ty:s.TypeIs (.ref z) "zip":=⟨o,ho,hc⟩;refine wpAny_bind (wpAny_attempt (wpAny_mono (Q:=fun r s'=>∃ v,r=some v/\Q (some v) s') (wpAny_callSpecial?_slot ty F.slot_zip_next (wpAny_call_entry F.slot_zip_next ty F.entry_zip_next (wpAny_mono h ?_ fun _ _ e=>e) (F.args_zip_next_1 _))) ?_ ?_))
 · rintro _ s' ⟨v,rfl,q⟩
   exact⟨v,rfl,v,rfl,q⟩
 · rintro _ s' ⟨v,rfl,q⟩
   exact wpAny_pure q
 · rintro _ s' ⟨a,u,rfl,e1,e2,q⟩
   exact wpAny_bind (wpAny_isInstance (T:="StopIteration") (b:=true) ⟨u,e1,e2⟩ isSubtype_stop (wpAny_pure q))
end
end Zp
namespace Zp
open PySem
def mk (vs:List Value)(c:Nat):Obj:={ cls:=.type "list",data:=.seq vs.toArray c }
structure Feed (prog:Program)(w:World)(A:Around)(z S:Addr)(P:Nat->List Value->Heap->Prop)(L:List Value->Heap->Prop):Prop where
 more:∀ (n:Nat) (vs:List Value) (s:Shared) (Q:Option Value->Shared->Prop) (E:Value->Shared->Prop),P (n+1) vs s.heap ->
  (∀ v h',P n (vs++[v]) h'->(∀ o,s.heap.get? S=some o->h'.get? S=some o)->Q (some v) { s with heap:=h' })->wpAny (model prog w) A (pyNext (.ref z)) Q E s
 over:∀ (vs:List Value) (s:Shared) (Q:Option Value->Shared->Prop) (E:Value->Shared->Prop),P 0 vs s.heap ->
  (∀ h',L vs h'->(∀ o,s.heap.get? S=some o->h'.get? S=some o)->Q none { s with heap:=h' })->wpAny (model prog w) A (pyNext (.ref z)) Q E s
 blind:∀ (n:Nat) (vs:List Value) (h h':Heap),P n vs h->Heap.SameBut S h h'->P n vs h'
section
variable {prog:Program}{w:World}{A:Around}{z S:Addr}{P:Nat->List Value->Heap->Prop}{L:List Value->Heap->Prop}{R:Result->Shared->Prop}
theorem lL {s:Shared}{as:Args}(h:wpAny (model prog w) A.in1 (Builtin.«list.extend.loop» as) (fun r s'=>match r with | .done f=>R (.ok f) s' | .again c=>c.quiet=true/\codeAny (model prog w) A c R s') (fun e s'=>R (.error e) s') s) :
 codeAny (model prog w) A (.builtin "list.extend.loop" as) R s :=
 codeAny_builtin PySem.F.entry_extend_loop (by rw[Around.under_plainId PySem.F.plain_extend_loop];exact h)
theorem aKj (F:Feed prog w A.in1 z S P L)(r:Value):∀ (n:Nat) (vs:List Value) (c:Nat) (s:Shared),P n vs s.heap->s.heap.get? S=some (mk vs c)->vs.length+n<=sizeLine ->
 (∀ h' us c',L us h'->h'.get? S=some (mk us c')->R (.ok (.ret r)) { s with heap:=h' })->codeAny (model prog w) A (.builtin "list.extend.loop" ⟨[.ref S,.ref z,r],[]⟩) R s
 | 0,vs,c,s,p,e,_,q=>by
  refine lL (wpAny_bind (F.over vs s _ _ p fun h' l k=>wpAny_pure ?_))
  exact q h' vs c l (k _ e)
 | n+1,vs,c,s,p,e,b,q=>by
  refine lL (wpAny_bind (F.more n vs s _ _ p fun v h' p' k=>?_))
  have e':=k _ e;have len:(vs.toArray.push v).size<=sizeLine:=by simp;omega
  obtain⟨c2,e2⟩:∃ c2,(h'.update S (Obj.mapSeq (·.push v))).get? S=some (mk (vs++[v]) c2):=by
   have:=Cb (Obj.mapSeq (·.push v)) e' rfl
   simp only[mk,Obj.mapSeq,List.push_toArray]at this;exact⟨_,this⟩
  refine wpAny_bind (wpAny_updateSeq e' rfl (wpAny_pure ⟨plainId_quiet PySem.F.plain_extend_loop _,?_⟩) (by simp;omega) (Nat.le_succ_of_le len))
  refine aKj F r n (vs++[v]) c2 _ (F.blind _ _ _ _ p' (Heap.SameBut.update ..)) e2 (by simp;omega) fun h2 us c3 l e3=>?_
  exact q h2 us c3 l e3
theorem upd {E:Value->Shared->Prop}{s:Shared}{vs:List Value}{c:Nat}{f:Array Value->Array Value}{Q:Unit->Shared->Prop}(e:s.heap.get? S=some (mk vs c))(l:vs.length<=1)(m:(f vs.toArray).size<=1)
 (q:∀ h' c',h'.get? S=some (mk (f vs.toArray).toList c')->Heap.SameBut S s.heap h'->Q () { s with heap:=h' }):wpAny (model prog w) A (updateSeq S f) Q E s :=
 have one:1<=sizeLine:=by decide
 wpAny_updateSeq e rfl (q _ _ (Cb _ e rfl) (Heap.SameBut.update ..)) (by simp;omega) (by omega)
theorem aRq:typeLookup (.type "zip") "__len__" = pure none:=(typeLookup_type ..).trans (by rw[builtinLookup_eq_fast];kernel_rfl)
theorem aNb:typeLookup (.type "zip") "__length_hint__" = pure none:=(typeLookup_type ..).trans (by rw[builtinLookup_eq_fast];kernel_rfl)
theorem aNk {E:Value->Shared->Prop}{s:Shared}{c:Nat}{TI TO:Addr}{K:Fin->Shared->Prop}(e:s.heap.get? S=some (mk [] c))(ez:IsZip s.heap z TI TO .none)(n:S≠z)
 (q:∀ h' c',h'.get? S=some (mk [] c')->Heap.SameBut S s.heap h'->K (.again (.builtin "list.extend.loop" ⟨[.ref S,.ref z,.none],[]⟩)) { s with heap:=h' }) :
 wpAny (model prog w) A (Builtin.«list.__init__» ⟨[.ref S,.ref z],[]⟩) K E s:=by
 have same:Builtin.List.listSameRef (.ref S) (.ref z)=false:=by simp[Builtin.List.listSameRef,n]
 have t1:(Value.type "zip" == Value.type "list")=false:=by decide
 have t2:(Value.type "zip" == Value.type "tuple")=false:=by decide
 have cond:(Builtin.List.listSameRef (.ref S) (.ref z)||Value.type "zip" == Value.type "list" || Value.type "zip" == Value.type "tuple")=false:=by rw[same,t1,t2];rfl
 refine wpAny_bind (wpAny_bind (wpAny_seqItems e rfl (wpAny_pure ?_)))
 refine wpAny_bind (upd e (by decide) (by decide) fun h1 c1 e1 u1=>wpAny_bind (wpAny_letGo ?_))
 have ez1:IsZip h1 z TI TO .none:=u1.extBut z _ n.symm ez;have ty:Shared.TypeIs { s with heap:=h1 } (.ref z) "zip":=⟨_,ez1,rfl⟩
 refine wpAny_bind (wpAny_typeOf ty ?_)
 simp only[cond,Bf,if_false];refine wpAny_bind (wpAny_pyIter_zip ez1 (wpAny_bind (wpAny_holding (wpAny_bind (wpAny_specialOf ty aRq ?_)))))
 refine wpAny_bind (wpAny_specialOf ty aNb (wpAny_pure (wpAny_bind (wpAny_rule (wpAny_bind (wpAny_bind (upd e1 (by decide) (by decide) fun h2 c2 e2 u2=>?_)))))))
 refine upd e2 (by decide) (by decide) fun h3 c3 e3 u3=>wpAny_pure ?_
 exact q h3 c3 e3 ⟨u3.1.trans (u2.1.trans u1.1),fun b m=>(u3.2 b m).trans ((u2.2 b m).trans (u1.2 b m))⟩
theorem aQ2 {h0:Heap}{E:Value->Shared->Prop}{Q:Value->Shared->Prop}{s:Shared}{n:Nat}{TI TO:Addr}(ez:IsZip s.heap z TI TO .none)(F:Feed prog w A.in1.in1 z s.heap.objs.size P L)
 (p:P n [] (s.heap.push (mk [] 0))) (b:n<=sizeLine) (q:∀ h' us c,L us h'->h'.get? s.heap.objs.size=some (mk us c)->Q (.ref s.heap.objs.size) { s with heap:=h' }) :
 wpAny (model prog w) A (call (.type "list") [.ref z]) Q E s:=by
 have zl:z<s.heap.objs.size:=Ab ez;refine callType_codes PySem.F.called_list (PySem.F.typeCall_list_1 _) PySem.F.entry_list_init (code_list_new (Q₁:=fun o u=>o=.ref s.heap.objs.size/\u={ s with heap:=s.heap.push (mk [] 0) }) _ ⟨rfl,rfl⟩) ?_
 rintro _ _ ⟨rfl,rfl⟩
 have e0:(s.heap.push (mk [] 0)).get? s.heap.objs.size=some (mk [] 0):=Ae _ rfl;have ez0:IsZip (s.heap.push (mk [] 0)) z TI TO .none:=Aa _ ez;refine⟨⟨_,e0,rfl⟩,PySem.F.args_list_init_2 _ _,?_⟩
 refine aNk e0 ez0 (Bz zl) fun h' c' e' u'=>⟨plainId_quiet PySem.F.plain_extend_loop _,aKj F .none n [] c' _ (F.blind _ _ _ _ p u') e' (by simpa using b) fun h2 us c2 l e2=>?_⟩
 exact⟨rfl,q h2 us c2 l e2⟩
end
end Zp
namespace Zp
open PySem
structure Pl (old z TI TO i1 i2 l1 l2 S:Addr):Prop where
 ap:ZipApart z TI TO i1 i2 l1 l2
 new:∀ a∈[z,TO,i1,i2],old<=a
 low:∀ a∈[z,TO,i1,i2],a<S
 lo2:∀ a∈[TI,l1,l2],a<S
structure Got (h0:Heap)(old S:Addr)(xs ys:Array Value)(vs:List Value)(h:Heap):Prop where
 vals:∀ (j:Nat) (v:Value),vs[j]?=some v->v=.ref (S+1+j)
 pair:∀ j:Nat,j<vs.length->∃ x y,xs[j]?=some x/\ys[j]?=some y/\IsPair h (S+1+j) x y
 keep:∀ b o,b<old->h0.get? b=some o->h.get? b=some o
structure Zs (h0:Heap)(old z TI TO i1 i2 l1 l2 S:Addr)(xs ys:Array Value)(n:Nat)(vs:List Value)(h:Heap):Prop extends Got h0 old S xs ys vs h where
 cnt:vs.length+n=min xs.size ys.size
 size:h.objs.size=S+1+vs.length
 now:(vs=[]/\IsZip h z TI TO .none/\∃ a b,IsPair h TO a b)\/∃ f T oT,h.get? z=some (rcd TI TO T f)/\S<T/\h.get? T=some oT
 its:IsPair h TI (.ref i1) (.ref i2)
 it1:h.IsListIter i1 l1 vs.length
 it2:h.IsListIter i2 l2 vs.length
 ls1:h.IsList l1 xs
 ls2:h.IsList l2 ys
section
variable {h0 h h':Heap}{old z TI TO i1 i2 l1 l2 S:Addr}{xs ys:Array Value}{n:Nat}{vs:List Value}
theorem Pl.ns (P:Pl old z TI TO i1 i2 l1 l2 S):S∉[z,TO,i1,i2]:=fun m=>Cj _ (P.low _ m)
theorem Pl.gt (P:Pl old z TI TO i1 i2 l1 l2 S){b:Addr}(m:S<b):b∉[z,TO,i1,i2]:=fun k=>Nat.lt_asymm m (P.low _ k)
theorem Pl.lt (P:Pl old z TI TO i1 i2 l1 l2 S){b:Addr}(m:b<old):b∉[z,TO,i1,i2]:=fun k=>Nat.not_le.mpr m (P.new _ k)
theorem aF6 (S:Addr)(j:Nat):S<S+1+j:=Aj (Dt S) (Bd _ _)
theorem Got.on (G:Got h0 old S xs ys vs h)(P:Pl old z TI TO i1 i2 l1 l2 S)(o:Out [z,TO,i1,i2] h h'):Got h0 old S xs ys vs h' where
 vals:=G.vals
 pair j m:=let ⟨x,y,e1,e2,e3⟩:=G.pair j m;⟨x,y,e1,e2,o _ _ (P.gt (aF6 S j)) e3⟩
 keep b u m e:=o b u (P.lt m) (G.keep b u m e)
theorem Zs.next (Z:Zs h0 old z TI TO i1 i2 l1 l2 S xs ys (n+1) vs h)(P:Pl old z TI TO i1 i2 l1 l2 S){x y:Value}{f:Bool}{T:Addr}{oT:Obj}(ex:xs[vs.length]?=some x)(ey:ys[vs.length]?=some y)
 (r:h'.get? z=some (rcd TI TO T f)) (rT:S<T) (eT:h'.get? T=some oT) (a1:h'.IsListIter i1 l1 (vs.length+1)) (a2:h'.IsListIter i2 l2 (vs.length+1)) (pr:IsPair h' h.objs.size x y) (sz:h'.objs.size=h.objs.size+1)
 (o:Out [z,TO,i1,i2] h h'):Zs h0 old z TI TO i1 i2 l1 l2 S xs ys n (vs++[.ref h.objs.size]) h':=by
 have D:=P.ap;have len:(vs++[Value.ref h.objs.size]).length=vs.length+1:=by simp
 have G:=Z.toGot.on P o
 refine⟨⟨fun j v e=>?_,fun j m=>?_,G.keep⟩,by rw[len];have:=Z.cnt;omega,by rw[len,sz,Z.size];rfl,.inr ⟨f,T,oT,r,rT,eT⟩,o _ _ (by simp[D.TIz,D.TITO,D.TIi1,D.TIi2]) Z.its,by rw[len];exact a1,by rw[len];exact a2,
  Heap.IsList.at Z.ls1 fun u e=>o _ u (by simp[D.l1z,D.l1TO,D.l1i1,D.l1i2]) e,Heap.IsList.at Z.ls2 fun u e=>o _ u (by simp[D.l2z,D.l2TO,D.l2i1,D.l2i2]) e⟩
 · rcases Nat.lt_or_ge j vs.length with q | q
   · exact G.vals j v (by rwa [Bj q]at e)
   · have jl:j=vs.length:=by have:=(Af.mp e).1;rw[len]at this;omega
     subst jl;simp only[List.getElem?_concat_length,Bn.injEq]at e;rw[←e,Z.size]
 · rcases Nat.lt_or_ge j vs.length with q | q
   · exact G.pair j q
   · have jl:j=vs.length:=by rw[len]at m;omega
     subst jl;exact⟨x,y,ex,ey,Z.size▸pr⟩
end
section
variable {prog:Program}{w:World}{A:Around}{h0:Heap}{old z TI TO i1 i2 l1 l2 S:Addr}{xs ys:Array Value}
theorem aI4 {h h':Heap}(o:Out [z,i1,i2] h h'):Out [z,TO,i1,i2] h h':=fun c u m=>o c u (by simp only[Ag,Ai,or_false,not_or]at m ⊢;exact⟨m.1,m.2.2⟩)
theorem aFj {h h':Heap}(o:∀ c u,c≠z->c≠TO->c≠i1->c≠i2->h.get? c=some u->h'.get? c=some u):Out [z,TO,i1,i2] h h':=fun c u m=>by
 simp only[Ag,Ai,or_false,not_or]at m;exact o c u m.1 m.2.1 m.2.2.1 m.2.2.2
theorem aKz (hh:A.handled=none)(P:Pl old z TI TO i1 i2 l1 l2 S):Feed prog w A z S (Zs h0 old z TI TO i1 i2 l1 l2 S xs ys) (fun vs h=>vs.length=min xs.size ys.size/\Got h0 old S xs ys vs h) where
 more n vs s Q E Z q:=by
  have c:=Z.cnt;have hx:vs.length<xs.size:=by omega
  have hy:vs.length<ys.size:=by omega
  have ex:=Array.getElem?_eq_getElem hx;have ey:=Array.getElem?_eq_getElem hy;have sS:S<s.heap.objs.size:=by rw[Z.size];exact aF6 S _
  rcases Z.now with ⟨e0,ez,a,b,eO⟩ | ⟨f,T,oT,ez,mT,eT⟩
  · refine wpAny_pyNext_zip_item P.ap ez Z.its eO Z.it1 Z.it2 Z.ls1 Z.ls2 ex ey fun h' b1 b2 b3 b4 b5 b6 b7=>?_
    exact q _ h' (Z.next P ex ey (f:=false) b1 sS b5 b3 b4 b5 b6 (aFj b7)) fun o e=>aFj b7 S o P.ns e
  · refine nxt ez rfl (aDl P.ap ez eT Z.its Z.it1 Z.it2 Z.ls1 Z.ls2 ex ey fun h' b1 b2 b3 b4 b5 b6=>⟨_,rfl,?_⟩)
    have o4:=aI4 (TO:=TO) b6;exact q _ h' (Z.next P ex ey b1 mT (o4 T _ (P.gt mT) eT) b2 b3 b4 b5 o4) fun o e=>o4 S o P.ns e
 over vs s Q E Z q:=by
  have c:=Z.cnt;have no:xs.size<=vs.length\/ys.size<=vs.length:=by omega
  rcases Z.now with ⟨e0,ez,a,b,eO⟩ | ⟨f,T,oT,ez,mT,eT⟩
  · refine wpAny_pyNext_zip_end hh P.ap ez Z.its eO Z.it1 Z.it2 Z.ls1 Z.ls2 (no.imp Array.getElem?_eq_none Array.getElem?_eq_none) fun h' b7=>?_
    exact q h' ⟨c,Z.toGot.on P (aFj b7)⟩ fun o e=>aFj b7 S o P.ns e
  · refine nxt ez rfl (dry hh P.ap ez eT Z.its Z.it1 Z.it2 Z.ls1 Z.ls2 no fun h' e o b1 b2 b3=>⟨e,o,rfl,b1,b2,?_⟩)
    exact q h' ⟨c,Z.toGot.on P (aI4 b3)⟩ fun u e=>aI4 (TO:=TO) b3 S u P.ns e
 blind n vs h h' Z u:=by
  have go:∀ b o,b≠S->h.get? b=some o->h'.get? b=some o:=fun b o m e=>(u.2 b m).trans e;have low:∀ a,a∈[z,TO,i1,i2]\/a∈[TI,l1,l2]->a≠S:=fun a m=>Ak (m.elim (P.low a) (P.lo2 a))
  refine⟨⟨Z.vals,fun j m=>?_,fun b o m e=>go b o ?_ (Z.keep b o m e)⟩,Z.cnt,u.1.trans Z.size,?_,go _ _ (low _ (by simp)) Z.its,Z.it1.at fun o e=>go _ o (low _ (by simp)) e,Z.it2.at fun o e=>go _ o (low _ (by simp)) e,
   Heap.IsList.at Z.ls1 fun o e=>go _ o (low _ (by simp)) e,Heap.IsList.at Z.ls2 fun o e=>go _ o (low _ (by simp)) e⟩
  · obtain⟨x,y,e1,e2,e3⟩:=Z.pair j m
    exact⟨x,y,e1,e2,go _ _ (Bz (aF6 S j)) e3⟩
  · exact Ak (Dj (Aj m (P.new z (by simp))) (P.low z (by simp)))
  · rcases Z.now with ⟨e0,ez,a,b,eO⟩ | ⟨f,T,oT,ez,mT,eT⟩
    · exact .inl ⟨e0,go _ _ (low _ (by simp)) ez,a,b,go _ _ (low _ (by simp)) eO⟩
    · exact .inr ⟨f,T,oT,go _ _ (low _ (by simp)) ez,mT,go _ _ (Bz mT) eT⟩
theorem aHq {E:Value->Shared->Prop}{Q:Value->Shared->Prop}{s:Shared}{a b:Value}(hh:A.handled=none)(D:ZipApart z TI TO i1 i2 l1 l2)(nw:∀ a∈[z,TO,i1,i2],old<=a)
 (ez:IsZip s.heap z TI TO .none) (eO:IsPair s.heap TO a b) (its:IsPair s.heap TI (.ref i1) (.ref i2)) (it1:s.heap.IsListIter i1 l1 0) (it2:s.heap.IsListIter i2 l2 0) (ls1:s.heap.IsList l1 xs) (ls2:s.heap.IsList l2 ys) (big:min xs.size ys.size<=sizeLine)
 (q:∀ h' us c,us.length=min xs.size ys.size->Got s.heap old s.heap.objs.size xs ys us h'->h'.get? s.heap.objs.size=some (mk us c)->Q (.ref s.heap.objs.size) { s with heap:=h' }) :
 wpAny (model prog w) A (call (.type "list") [.ref z]) Q E s:=by
 have up:∀ c o,s.heap.get? c=some o->(s.heap.push (mk [] 0)).get? c=some o:=fun c o=>Aa _;obtain⟨_,q1,_⟩:=id it1;obtain⟨_,q2,_⟩:=id it2;obtain⟨_,q3,_⟩:=id ls1;obtain⟨_,q4,_⟩:=id ls2;have P:Pl old z TI TO i1 i2 l1 l2 s.heap.objs.size:=⟨D,nw,by simpa using ⟨Ab ez,Ab eO,Ab q1,Ab q2⟩,by simpa using ⟨Ab its,Ab q3,Ab q4⟩⟩
 refine aQ2 (h0:=s.heap) ez (aKz (A:=A.in1.in1) (h0:=s.heap) (xs:=xs) (ys:=ys) hh P) (n:=min xs.size ys.size) ⟨⟨fun j v e=>by simp at e,fun j m=>absurd m (Nat.not_lt_zero _),fun b o _ e=>up b o e⟩,by simp,by rw[Be];rfl,
  .inl ⟨rfl,up _ _ ez,a,b,up _ _ eO⟩,up _ _ its,it1.at (up _),it2.at (up _),Heap.IsList.at ls1 (up _),Heap.IsList.at ls2 (up _)⟩ big fun h' us c l e=>q h' us c l.1 l.2 e
end
end Zp
namespace L2
open PySem PySem.Spec PyProof.Rows
mutual
inductive Has (K:PySem.W.Frag) (H:Hp):V->PyData->Prop
 | non:Has K H .non .none
 | bl (b:Bool):Has K H (.bl b) (.bool b)
 | int (i:Int):Has K H (.int i) (.int i)
 | str (x:Str):Has K H (.str x) (.str x)
 | lst {a:Addr} {xs:List V} {ds:List PyData}:SqL K H a xs->HasAll K H xs ds->Has K H (.ref a) (.list ds)
 | tup {a:Addr} {xs:List V} {ds:List PyData}:SqT K H a xs->HasAll K H xs ds->Has K H (.ref a) (.tuple ds)
inductive HasAll (K:PySem.W.Frag) (H:Hp):List V->List PyData->Prop
 | nil:HasAll K H [] []
 | cons {v:V} {d:PyData} {vs:List V} {ds:List PyData}:Has K H v d->HasAll K H vs ds->HasAll K H (v :: vs) (d :: ds)
end
theorem aG.seqT {K:PySem.W.Frag}{H H':Hp}{a:Addr}{xs:List V}(e:aG H H')(h:SqT K H a xs):SqT K H' a xs:=by
 rcases h with (h | ⟨o,h⟩) | h
 · exact .inl (.inl (e _ _ h))
 · exact .inl (.inr ⟨o,e _ _ h⟩)
 · exact .inr h
mutual
theorem Has.same {K:PySem.W.Frag}{H H':Hp}(e:aG H H'):∀ {v:V} {d:PyData},Has K H v d->Has K H' v d
 | _,_,.non=>.non
 | _,_,.bl b=>.bl b
 | _,_,.int i=>.int i
 | _,_,.str x=>.str x
 | _,_,.lst h r=>.lst (e.seq h) (HasAll.same e r)
 | _,_,.tup h r=>.tup (e.seqT h) (HasAll.same e r)
theorem HasAll.same {K:PySem.W.Frag}{H H':Hp}(e:aG H H'):∀ {v:List V} {d:List PyData},HasAll K H v d->HasAll K H' v d
 | _,_,.nil=>.nil
 | _,_,.cons h r=>.cons (Has.same e h) (HasAll.same e r)
end
mutual
theorem Has.reads {X:Cx}{pins:List (Addr×Obj)}{σ:St}{H:Hp}{s:Shared}(I:Inv X pins σ H s):∀ {v:V} {d:PyData},Has X.K H v d->∀ {u:Value},bD v u->∃ as,Reads s.heap u d as
 | _,_,.non,u,r=>by cases (show u=Value.none from r);exact⟨_,.none⟩
 | _,_,.bl b,u,r=>by cases (show u=Value.bool b from r);exact⟨_,.bool b⟩
 | _,_,.int i,u,r=>by obtain⟨t,rfl⟩:=(show ∃ t,u=Value.int i t from r);exact⟨_,.int i t⟩
 | _,_,.str x,u,r=>by obtain⟨t,rfl⟩:=(show ∃ t,u=Value.str x t from r);exact⟨_,.str x t⟩
 | _,_,.lst (a:=a) h r,u,q=>by
  cases (show u=Value.ref a from q)
  obtain⟨its,rv,p,_⟩:=I.list h;obtain⟨as,ra⟩:=HasAll.reads I r rv;obtain⟨o,ho,hc,n,hd⟩:=p.isList;exact⟨_,.list ho hc hd (by rw[List.toList_toArray];exact ra)⟩
 | _,_,.tup (a:=a) h r,u,q=>by
  cases (show u=Value.ref a from q)
  obtain⟨its,rv,p,_⟩:=I.tuple h;obtain⟨as,ra⟩:=HasAll.reads I r rv;obtain⟨o,ho,hc,n,hd⟩:=p;exact⟨_,.tuple ho hc hd (by rw[List.toList_toArray];exact ra)⟩
theorem HasAll.reads {X:Cx}{pins:List (Addr×Obj)}{σ:St}{H:Hp}{s:Shared}(I:Inv X pins σ H s):∀ {vs:List V} {ds:List PyData},HasAll X.K H vs ds->∀ {us:List Value},bC vs us->∃ as,ReadsAll s.heap us ds as
 | _,_,.nil,us,r=>by cases r;exact⟨_,.nil⟩
 | _,_,.cons h t,us,r=>by
  cases r with
  | cons r1 r2 =>
   obtain⟨a1,h1⟩:=Has.reads I h r1;obtain⟨a2,h2⟩:=HasAll.reads I t r2;exact⟨_,.cons h1 h2⟩
end
section
variable {X:Cx}
def aQn (K:PySem.W.Frag):R2:=fun x y H Q=>∃ d e,Has K H x d/\Has K H y e/\SeqAt.shaped d=true/\SeqAt.shaped e=true/\Q (.bl (PyData.eqv d e)) H
def aQw (K:PySem.W.Frag):R2:=fun x y H Q=>∃ d e,Has K H x d/\Has K H y e/\SeqAt.shaped d=true/\SeqAt.shaped e=true/\Q (.bl (!PyData.eqv d e)) H
theorem aD4 (hu:X.A.units+64<cLine):OpR X (compareOp .Eq) (aQn X.K):=by
 intro pins s σ H x y v u Q I rx ry h;obtain⟨d,e,hd,he,sd,se,q⟩:=h;obtain⟨as,ra⟩:=hd.reads I rx;obtain⟨bs,rb⟩:=he.reads I ry;exact SeqAt.compareEq_shaped ra rb sd se hu ⟨.bl _,H,I,rfl,q⟩
theorem aKm (hu:X.A.units+64<cLine):OpR X (compareOp .NotEq) (aQw X.K):=by
 intro pins s σ H x y v u Q I rx ry h;obtain⟨d,e,hd,he,sd,se,q⟩:=h;obtain⟨as,ra⟩:=hd.reads I rx;obtain⟨bs,rb⟩:=he.reads I ry;exact SeqAt.compareNe_shaped ra rb sd se hu ⟨.bl _,H,I,rfl,q⟩
theorem jU:∀ {ns:List Int} {us:List Value},bC (ns.map V.int) us->IntsAre us ns:=fun r=>yH r
theorem aCf (hc:X.calm=true):gH X (.builtin "sum") (fun xs H Q=>∃ (a:Addr) (ns:List Int),xs=[.ref a]/\SqL X.K H a (ns.map V.int)/\Q (.int ns.sum) H):=by
 intro pins s σ H xs us Q I r h;obtain⟨a,ns,rfl,hq,q⟩:=h;obtain⟨u,rfl,rx⟩:=iA r;cases rx;obtain⟨its,rv,p,_⟩:=I.list hq;have hi:=jU rv;obtain⟨nums,hx⟩:=hi.allInts.items;have hl':s.heap.IsList a (intItems nums):=hx▸p.isList;refine sum_intListG (I.ok.hd hc) hl' fun h' tk t' hk=>?_
 have e1:ns=nums.toList.map (fun z=>z.1):=by
  rw[←nums_intItems,←hx];exact(show numsOf its.toArray.toList=ns from hi.numsOf).symm
 have e2:preSum (numAt nums) nums.size=ns.sum:=by rw[preSum_eq,List.take_of_length_le (by simp),e1]
 exact⟨.int ns.sum,H,I.kept hk,⟨t',by rw[e2]⟩,q⟩
theorem Inv.laidAll {pins:List (Addr×Obj)}{σ:St}{H H2:Hp}{s:Shared}{h':Heap}{t':Nat}(I:Inv X pins σ H s)(k:∀ b u,s.heap.get? b=some u->h'.get? b=some u)(same:aG H H2)
 (new:∀ b o,H2 b=some o->H b=none->s.heap.objs.size<=b/\bM X.prog X.w H2 h' b o):Inv X pins σ H2 { s with heap:=h',toks:=t' }:=by
 refine I.un ⟨fun b u q _ _ _=>k b u q,fun b u q _ _ _=>⟨u.slots,k b u q⟩,fun b u q n _=>?_,fun b u q _=>⟨u,k b u q⟩,fun b xs q=>same b _ q,fun b u xs q=>same b _ q,fun b ps q=>⟨#[],by rw[same b _ q];simp⟩⟩ fun b o e=>?_
 · cases e:H2 b with
   | none=>rfl
   | some o=>exact absurd (Ab q) (Nat.not_lt.mpr (new b o e n).1)
 · cases e1:H b with
   | none=>exact(new b o e e1).2
   | some u =>
    have:=same b u e1
    rw[e]at this;cases this;exact(I.hok b _ e1).stay (fun c v _ q=>k c v q) (fun c q=>same c _ q) fun c xs q=>same c _ q
theorem rY:∀ as:List Addr,bC (as.map V.ref) (as.map Value.ref)
 | []=>.nil
 | _ :: r=>.cons rfl (rY r)
def aMa (xs ys:List V)(H H2:Hp)(l:Addr)(ts:List Addr):Prop :=
 aG H H2/\H l=none/\H2 l=some (.lst (ts.map V.ref))/\ts.length=min xs.length ys.length/\∀ (j:Nat) (t:Addr),ts[j]?=some t->H t=none/\∃ x y,xs[j]?=some x/\ys[j]?=some y/\H2 t=some (.tup [x,y])
def aDr (K:PySem.W.Frag)(t:TA):TE:=fun σ H Q=>t σ H fun vs H1=>∃ a b xs ys,vs=[.ref a,.ref b]/\SqL K H1 a xs/\SqL K H1 b ys/\∀ l ts H2,aMa xs ys H1 H2 l ts->Q (.ref l) H2
theorem yM {pins:List (Addr×Obj)}{σ:St}{H:Hp}{s:Shared}{a b:Addr}{xs ys:List V}{Q:VK}(hc:X.calm=true)(I:Inv X pins σ H s)(ha:SqL X.K H a xs)(hb:SqL X.K H b ys)(q:∀ l ts H2,aMa xs ys H H2 l ts->Q (.ref l) H2) :
 wpAny (model X.prog X.w) X.A (call (.type "zip") [.ref a,.ref b]) (fun z s1=>wpAny (model X.prog X.w) X.A (call (.type "list") [z]) (EP X pins σ Q) X.xe s1) X.xe s:=by
 obtain⟨us,ru,pu,zu⟩:=I.list ha;obtain⟨vs,rv,pv,zv⟩:=I.list hb;have lu:=ru.length;have lv:=rv.length;have a1:a<s.heap.objs.size:=by obtain⟨_,e,_⟩:=pu.isList;exact Ab e
 have a2:b<s.heap.objs.size:=by obtain⟨_,e,_⟩:=pv.isList;exact Ab e
 refine call_zip_2 pu.isList pv.isList fun h1 hz hTI hTO hi1 hi2 hsz hk=>?_
 refine Zp.aHq (s:={ s with heap:=h1 }) (old:=s.heap.objs.size) (xs:=us.toArray) (ys:=vs.toArray) (I.ok.hd hc) (zipApart_new a1 a2) (by simp[Bd]) hz hTO hTI hi1 hi2 (Heap.IsList.at pu.isList (fun o e=>hk _ o e)) (Heap.IsList.at pv.isList (fun o e=>hk _ o e))
  (by simp only[Ac];omega) fun h' ws c hlen G hl=>?_
 dsimp only at hlen G hl ⊢
 have kp':∀ b o,s.heap.get? b=some o->h'.get? b=some o:=fun b o e=>G.keep b o (Ab e) (hk b o e);have big:s.heap.objs.size<=h1.objs.size:=by rw[hsz];exact Bd _ _
 obtain⟨as,eas⟩:∃ as,as=List.range' (h1.objs.size+1) ws.length:=⟨_,rfl⟩;have hlen':as.length=min xs.length ys.length:=by rw[eas,List.length_range',hlen];simp only[Ac];omega
 have gt:∀ (j:Nat) (t:Addr),as[j]?=some t->j<ws.length/\t=h1.objs.size+1+j:=fun j t e=>by
  rw[eas]at e;obtain⟨m,q⟩:=Af.mp e;rw[List.getElem_range',Nat.one_mul]at q;exact⟨by simpa using m,q.symm⟩
 have hws:ws=as.map Value.ref:=List.ext_getElem (by rw[eas];simp) fun j m1 m2=>by
  rw[G.vals j _ (Al m1)];simp[eas]
 have above:∀ t∈as,h1.objs.size<t:=fun t m=>by
  obtain⟨j,e⟩:=List.mem_iff_getElem?.mp m;rw[(gt j t e).2];exact Zp.aF6 _ j
 have hasz:∀ t∈as,s.heap.objs.size<=t:=fun t ht=>Bo big (Ea (above t ht));have nd:as.Nodup:=eas▸List.nodup_range';have hfl:H h1.objs.size=none:=I.hok.fresh big
 let H2:Hp:=fun p=>if p=h1.objs.size then some (.lst (as.map V.ref)) else match as.findIdx? (·==p) with
  | some j=>match xs[j]?,ys[j]? with
   | some x,some y=>some (.tup [x,y])
   | _,_=>H p
  | none=>H p
 have fnd:∀ (j:Nat) (t:Addr),as[j]?=some t->as.findIdx? (·==t)=some j:=fun j t e=>by
  rw[Di];obtain⟨hj,et⟩:=Af.mp e;refine⟨hj,by simp[et],fun k hkj=>?_⟩
  intro z;have z':as[k]=t:=by simpa using z
  have:k=j:=(Em nd).mp (z'.trans et.symm)
  omega
 have ne_l:∀ t∈as,t≠h1.objs.size:=fun t ht=>Bz (above t ht)
 have at_t:∀ (j:Nat) (t:Addr),as[j]?=some t->∃ x y u v,xs[j]?=some x/\ys[j]?=some y/\bD x u/\bD y v/\IsPair h' t u v/\H2 t=some (.tup [x,y]):=fun j t e=>by
  obtain⟨jm,et⟩:=gt j t e;obtain⟨u,v,e1,e2,e3⟩:=G.pair j jm;rw[←et]at e3;have hj:j<as.length:=(Af.mp e).1;have hx:j<xs.length:=by omega
  have hy:j<ys.length:=by omega
  obtain⟨u',f1,r1⟩:=ru.get (Al hx);obtain⟨v',f2,r2⟩:=rv.get (Al hy);have g1:us.toArray[j]?=some u':=by simpa using f1
  have g2:vs.toArray[j]?=some v':=by simpa using f2
  rw[e1]at g1;rw[e2]at g2;cases g1;cases g2;refine⟨_,_,u,v,Al hx,Al hy,r1,r2,e3,?_⟩
  show (if t=h1.objs.size then _ else _)=_
  rw[if_neg (ne_l t (Bw e))];simp only[fnd j t e,Al hx,Al hy]
 have same:aG H H2:=fun p o e=>by
  show (if p=h1.objs.size then _ else _)=_
  rw[if_neg (aZ e hfl)]
  have:as.findIdx? (·==p)=none:=by
   rw[List.findIdx?_eq_none_iff];intro t ht
   have:t≠p:=fun z=>by
    subst z;have:=I.hok.fresh (hasz t ht)
    rw[e]at this;cases this
   simpa using this
  rw[this];exact e
 have atl:H2 h1.objs.size=some (.lst (as.map V.ref)):=if_pos rfl;refine⟨.ref h1.objs.size,H2,I.laidAll kp' same fun p o e n=>?_,rfl,q _ as H2 ⟨same,hfl,atl,hlen',fun j t e=>?_⟩⟩
 · by_cases hp:p=h1.objs.size
   · subst hp
     rw[atl]at e;cases e;refine⟨big,by rw[Bi,hlen'];omega,as.map Value.ref,c,?_,?_⟩
     · exact rY as
     · rw[hl,hws];rfl
   · have e':(match as.findIdx? (·==p) with
      | some j=>match xs[j]?,ys[j]? with
       | some x,some y=>some (HO.tup [x,y])
       | _,_=>H p
      | none=>H p)=some o:=by
      have:H2 p=_:=if_neg hp
      rw[←this];exact e
     cases ef:as.findIdx? (·==p) with
     | none=>rw[ef,n]at e';cases e'
     | some j =>
      obtain⟨hj,hpj,_⟩:=Di.mp ef
      have ej:as[j]?=some p:=by
       rw[Al hj];simpa using hpj
      obtain⟨x,y,u,v,_,_,r1,r2,pr,h2⟩:=at_t j p ej;rw[e]at h2;cases h2;exact⟨hasz p (Bw ej),by show 2<=sizeLine;decide,[u,v],.cons r1 (.cons r2 .nil),⟨_,pr,rfl,_,rfl⟩⟩
 · obtain⟨x,y,u,v,f1,f2,r1,r2,pr,h2⟩:=at_t j t e
   exact⟨I.hok.fresh (hasz t (Bw e)),x,y,f1,f2,h2⟩
theorem wR {a b:Expr}{t:TA}{p1 p2 q1 q2:Pos}(hc:X.calm=true)(g1:Gl X "list")(m1:X.mg "list" = none)(g2:Gl X "zip")(m2:X.mg "zip" = none)(ha:PA X [a,b] t)
 (hs:starEach [a,b] X.env=[(false,eval a X.env),(false,eval b X.env)]:=by rfl) (hs2:starEach [b] X.env=[(false,eval b X.env)]:=by rfl)
 (hs3:starEach [Expr.Call (.Name "zip" p2) [a,b] [] q2] X.env=[(false,eval (.Call (.Name "zip" p2) [a,b] [] q2) X.env)]:=by rfl) :
 PE X (.Call (.Name "list" p1) [.Call (.Name "zip" p2) [a,b] [] q2] [] q1) (aDr X.K t):=by
 intro pins s σ H Q I h;refine Call_ (eY I g1 m1 boot_list (Ar ?_ hs3 rfl))
 rw[hs3];refine Calls.spliced_cons ?_
 refine Call_ (eY I g2 m2 boot_zip (Ar (thn (ha q2 pins s σ H _ I h) fun us s1 ⟨vs,H1,I1,r1,x,y,xs,ys,e,h1,h2,q⟩=>?_) (by rw[hs,hs2]) (by rw[hs2];rfl)))
 subst e;obtain⟨u,v,rfl,rx,ry⟩:=zK r1;cases rx;cases ry;refine thn (yM hc I1 h1 h2 q) fun z s2 hz=>?_
 exact Calls.spliced_nil hz
end
end L2
namespace L2
open PySem PySem.Spec PyProof.Rows
theorem Inv.turnedNew {X:Cx}{pins:List (Addr×Obj)}{σ:St}{H:Hp}{s:Shared}{h':Heap}{t':Nat}{fp:List Addr}{a:Addr}{o:HO}(I:Inv X pins σ H s)
 (k:∀ b u,b∉fp->s.heap.get? b=some u->h'.get? b=some u) (hf:∀ b∈fp,kP X pins H b) (ho:∀ b∈fp,∃ u,h'.get? b=some u) (hp:s.heap.objs.size<=a) (new:bM X.prog X.w (upd H a o) h' a o) :
 Inv X pins σ (upd H a o) { s with heap:=h',toks:=t' }:=by
 have fr:H a=none:=I.hok.fresh hp
 have nfp:∀ b u,H b=some u->b∉fp:=fun b u e z=>by
  have:=(hf b z).1
  rw[e]at this;cases this
 refine I.step (g':=s.gens) (d':=s.drawn) (ch:=fp) (fun b hb=>⟨(hf b hb).2.2.2.1,(hf b hb).2.1,(hf b hb).2.2.2.2.1,(hf b hb).2.2.2.2.2⟩) (fun b u _ _ hc e _=>k b u hc e) (fun b u _ _ hc e _=>⟨u.slots,k b u hc e⟩)
  (fun b u _ e n=>?_) (fun b u hc e=>⟨u,k b u hc e⟩) (fun b xs e=>?_) (fun b u v e=>?_) (fun b ps e=>⟨#[],?_⟩) (fun m hm=>?_) (fun b u e=>?_) I.bare
 · rw[aU (Ak (Aj (Ab e) hp))];exact n
 · rw[aU (aZ e fr)];exact e
 · rw[aU (aZ e fr)];exact e
 · rw[aU (aZ e fr),e];simp
 · obtain⟨ob,es,ep,hob,r⟩:=hm
   exact⟨ob,es,ep,k _ ob (fun z=>(hf _ z).2.1 rfl) hob,r⟩
 · by_cases hb:b=a
   · subst hb
     rw[bF]at e;cases e;exact new
   · rw[aU hb]at e
     refine(I.hok b u e).stay (fun c v hc q=>k c v ?_ q) (fun c q=>by rw[aU (aZ q fr)];exact q) fun c xs q=>by rw[aU (aZ q fr)];exact q
     rcases hc with z | z
     · rw[z];exact nfp b u e
     · exact nfp c _ z
theorem Inv.turnedL {X:Cx}{pins:List (Addr×Obj)}{σ:St}{H:Hp}{s:Shared}{h':Heap}{t':Nat}{fp:List Addr}(I:Inv X pins σ H s)
 (k:∀ b u,b∉fp->s.heap.get? b=some u->h'.get? b=some u) (hf:∀ b∈fp,kP X pins H b):Inv X pins σ H { s with heap:=h',toks:=t' }:=by
 have nfp:∀ b u,H b=some u->b∉fp:=fun b u e z=>by
  have:=(hf b z).1
  rw[e]at this;cases this
 refine I.step (g':=s.gens) (d':=s.drawn) (ch:=fp) (fun b hb=>⟨(hf b hb).2.2.2.1,(hf b hb).2.1,(hf b hb).2.2.2.2.1,(hf b hb).2.2.2.2.2⟩) (fun b u _ _ hc e _=>k b u hc e) (fun b u _ _ hc e _=>⟨u.slots,k b u hc e⟩)
  (fun b u _ _ n=>n) (fun b u hc e=>⟨u,k b u hc e⟩) (fun b xs e=>e) (fun b u v e=>e) (fun b ps e=>⟨#[],by rw[e];simp⟩) (fun m hm=>?_) (fun b u e=>?_) I.bare
 · obtain⟨ob,es,ep,hob,r⟩:=hm
   exact⟨ob,es,ep,k _ ob (fun z=>(hf _ z).2.1 rfl) hob,r⟩
 · refine(I.hok b u e).stay (fun c v hc q=>k c v ?_ q) (fun c q=>q) fun c xs q=>q
   rcases hc with z | z
   · rw[z];exact nfp b u e
   · exact nfp c _ z
def Itz (K:PySem.W.Frag)(a b:Addr):It :=
  ⟨fun i H=>∃ xs ys x y,SqL K H a xs/\SqL K H b ys/\xs[i]?=some x/\ys[i]?=some y,
   fun i H v H'=>∃ t x y,v=.ref t/\H t=none/\H'=upd H t (.tup [x,y])/\(∀ xs,SqL K H a xs->xs[i]?=some x)/\∀ ys,SqL K H b ys->ys[i]?=some y,
   fun i H=>∃ xs ys,SqL K H a xs/\SqL K H b ys/\(xs.length<=i\/ys.length<=i)⟩
def ZTn (z TI TO i1 i2 a b:Addr)(i:Nat)(h:Heap):Prop:=IsZip h z TI TO .none/\IsPair h TI (.ref i1) (.ref i2)/\(∃ u v,IsPair h TO u v)/\h.IsListIter i1 a i/\h.IsListIter i2 b i
theorem aDe {P:Program}{w:World}{K:PySem.W.Frag}{es:List Expr}{k:Nat}{pos:Pos}{z TI TO i1 i2 a b:Addr}(D:ZipApart z TI TO i1 i2 a b) :
 Turn P w K (.Tuple es k pos) (Itz K a b) [z,TI,TO,i1,i2] z (ZTn z TI TO i1 i2 a b) where
 mem:=by simp
 obj:=fun i h st c hc=>by
  obtain⟨hz,hTI,⟨u,v,hTO⟩,⟨o1,e1,c1,d1⟩,⟨o2,e2,c2,d2⟩⟩:=st;simp only[Ag,Ai,or_false]at hc;rcases hc with rfl | rfl | rfl | rfl | rfl
  · exact⟨_,hz,fun v z=>nomatch z⟩
  · exact⟨_,hTI,fun v z=>nomatch z⟩
  · exact⟨_,hTO,fun v z=>nomatch z⟩
  · exact⟨o1,e1,fun v z=>by rw[d1]at z;cases z⟩
  · exact⟨o2,e2,fun v z=>by rw[d2]at z;cases z⟩
 keep:=fun i h h' st kp=>by
  obtain⟨hz,hTI,⟨u,v,hTO⟩,h1,h2⟩:=st;exact⟨kp _ (by simp) _ hz,kp _ (by simp) _ hTI,⟨u,v,kp _ (by simp) _ hTO⟩,h1.at fun o e=>kp _ (by simp) o e,h2.at fun o e=>kp _ (by simp) o e⟩
 item:=by
  intro X hP hw hK hc i pins s σ H E I hf st hg;subst hP hw hK;obtain⟨xs,ys,x,y,ha,hb,hx,hy⟩:=hg;obtain⟨us,ru,pu,_⟩:=I.list ha;obtain⟨vs,rv,pv,_⟩:=I.list hb;obtain⟨u,eu,rxu⟩:=ru.get hx;obtain⟨v,ev,ryv⟩:=rv.get hy;obtain⟨hz,hTI,⟨u0,v0,hTO⟩,h1,h2⟩:=st;refine wpAny_pyNext_zip_item D hz hTI hTO h1 h2 pu.isList pv.isList (x:=u) (y:=v) (by simpa using eu) (by simpa using ev) fun h' b1 b2 b3 b4 b5 b6 b7=>⟨_,rfl,?_⟩
  refine wpAny_letOwnedTupleGo_zip b1 fun hp2 c1 cs=>?_
  have nz:s.heap.objs.size≠z:=Bz (Ab hz)
  have kp:∀ c o,c∉[z,TI,TO,i1,i2]->s.heap.get? c=some o->hp2.get? c=some o:=fun c o hc' e=>by
   simp only[Ag,Ai,or_false,not_or]at hc';exact cs.extBut c o hc'.1 (b7 c o hc'.1 hc'.2.2.1 hc'.2.2.2.1 hc'.2.2.2.2 e)
  have st':ZTn z TI TO i1 i2 a b (i+1) hp2:=⟨c1,cs.extBut _ _ D.TIz (b7 _ _ D.TIz D.TITO D.TIi1 D.TIi2 hTI),⟨_,_,cs.extBut _ _ D.TOz b2⟩,b3.extBut cs.extBut D.i1z,b4.extBut cs.extBut D.i2z⟩;have pr:IsPair hp2 s.heap.objs.size u v:=cs.extBut _ _ nz b5;have fr:H s.heap.objs.size=none:=I.fresh
  refine⟨.ref s.heap.objs.size,upd H s.heap.objs.size (.tup [x,y]),I.turnedNew (t':=s.toks) kp hf (fun c hc'=>?_) (Ad _) ⟨by show 2<=sizeLine;decide,[u,v],.cons rxu (.cons ryv .nil),⟨_,pr,rfl,_,rfl⟩⟩,rfl,
   ⟨_,x,y,rfl,fr,rfl,fun zs hq=>by rw[I.list_inj hq ha];exact hx,fun zs hq=>by rw[I.list_inj hq hb];exact hy⟩,st',fun c hc'=>?_⟩
  · obtain⟨d1,d2,⟨p,q,d3⟩,⟨p1,d4,_⟩,⟨p2,d5,_⟩⟩:=st'
    simp only[Ag,Ai,or_false]at hc';rcases hc' with rfl | rfl | rfl | rfl | rfl
    · exact⟨_,d1⟩
    · exact⟨_,d2⟩
    · exact⟨_,d3⟩
    · exact⟨_,d4⟩
    · exact⟨_,d5⟩
  · have:c<s.heap.objs.size:=by
     obtain⟨p1,d4,_⟩:=h1;obtain⟨p2,d5,_⟩:=h2;simp only[Ag,Ai,or_false]at hc';rcases hc' with rfl | rfl | rfl | rfl | rfl
     · exact Ab hz
     · exact Ab hTI
     · exact Ab hTO
     · exact Ab d4
     · exact Ab d5
    rw[aU (Ak this)];exact(hf c hc').1
 done:=by
  intro X hP hw hK hc i pins s σ H E I hf st hg;subst hP hw hK;obtain⟨xs,ys,ha,hb,hend⟩:=hg;obtain⟨us,ru,pu,_⟩:=I.list ha;obtain⟨vs,rv,pv,_⟩:=I.list hb;have lu:=ru.length;have lv:=rv.length;obtain⟨hz,hTI,⟨u0,v0,hTO⟩,h1,h2⟩:=st;refine wpAny_pyNext_zip_end (I.ok.hd hc) D hz hTI hTO h1 h2 pu.isList pv.isList ?_ fun h' kp=>⟨rfl,I.turnedL (t':=s.toks) (fun c o hc' e=>?_) hf⟩
  · rcases hend with q | q
    · exact .inl (Array.getElem?_eq_none (by rw[Ac];omega))
    · exact .inr (Array.getElem?_eq_none (by rw[Ac];omega))
  · simp only[Ag,Ai,or_false,not_or]at hc'
    exact kp c o hc'.1 hc'.2.2.1 hc'.2.2.2.1 hc'.2.2.2.2 e
 self:=fun _ _ _ _ _ st h=>wpAny_pyIter_zip st.1 h
def aOd (K:PySem.W.Frag)(ta:TA):TI:=fun σ H R=>ta σ H fun vs H1=>∃ a b,vs=[.ref a,.ref b]/\(∃ xs,SqL K H1 a xs)/\(∃ ys,SqL K H1 b ys)/\R (Itz K a b) H1
theorem aJo {X:Cx}{es:List Expr}{k:Nat}{tp:Pos}{a b:Expr}{t:TA}{p pos:Pos}(hc:X.calm=true)(hg:Gl X "zip")(hm:X.mg "zip" = none)(ha:PA X [a,b] t)
 (hs:starEach [a,b] X.env=[(false,eval a X.env),(false,eval b X.env)]:=by rfl) (hs2:starEach [b] X.env=[(false,eval b X.env)]:=by rfl) :
 PI X (.Tuple es k tp) (.Call (.Name "zip" p) [a,b] [] pos) (aOd X.K t):=by
 intro pins s σ H R I h;refine Call_ (eY I hg hm boot_zip (Ar (thn (ha pos pins s σ H _ I h) fun us s1 ⟨vs,H1,I1,r1,x,y,e,⟨xs,hx⟩,⟨ys,hy⟩,q⟩=>?_) (by rw[hs,hs2]) (by rw[hs2];rfl)))
 subst e;obtain⟨u,v,rfl,rx,ry⟩:=zK r1;cases rx;cases ry;obtain⟨us',ru,pu,zu⟩:=I1.list hx;obtain⟨vs',rv,pv,zv⟩:=I1.list hy;have a1:x<s1.heap.objs.size:=by obtain⟨_,e,_⟩:=pu.isList;exact Ab e
 have a2:y<s1.heap.objs.size:=by obtain⟨_,e,_⟩:=pv.isList;exact Ab e
 refine call_zip_2 pu.isList pv.isList fun h1 hz hTI hTO hi1 hi2 hsz hk=>?_
 refine wpAny_pyIter_zip hz ?_
 have big:∀ c∈[s1.heap.objs.size+4,s1.heap.objs.size+2,s1.heap.objs.size+3,s1.heap.objs.size,s1.heap.objs.size+1],s1.heap.objs.size<=c:=fun c hc'=>by
  simp only[Ag,Ai,or_false]at hc';rcases hc' with rfl | rfl | rfl | rfl | rfl
  · exact Bd _ 4
  · exact Bd _ 2
  · exact Bd _ 3
  · exact Ad _
  · exact Bd _ 1
 exact⟨_,[s1.heap.objs.size+4,s1.heap.objs.size+2,s1.heap.objs.size+3,s1.heap.objs.size,s1.heap.objs.size+1],_,_,H1,rfl,I1.kept (t':=s1.toks) hk,aDe (zipApart_new a1 a2),⟨hz,hTI,⟨_,_,hTO⟩,hi1,hi2⟩,
  fun c hc'=>I1.fpOk (big c hc') (I1.hok.fresh (big c hc')),q⟩
section
variable {X:Cx}
def aMq (i j:Int):Prop:=i.natAbs.log2<1000000/\j.natAbs.log2<1000000
def aN5 (i j:Int):Prop:=0<j/\j.natAbs.log2<9000
theorem lG {i:Int}(h:i.natAbs.log2<1000000):Builtin.Int.intBits i<=2^20:=by
 have million:1000000<(2:Nat)^20:=by decide
 unfold Builtin.Int.intBits
 first
  | omega
  | (split<;>omega)
theorem aH3:OpR X (binaryOp .Mult) (rI aMq fun i j=>.int (i*j)):=opI fun _ _ _ _ _ _ _ hc q=>mul_int q (.of_bits (lG hc.1) (lG hc.2))
theorem aC8:OpR X (binaryOp .FloorDiv) (rI aN5 fun i j=>.int (i/j)):=opI fun i j _ _ _ _ _ hc q=>by
 have h1:(0:Int)<j:=hc.1;exact floordiv_int (by omega) (by rw[Int.fdiv_eq_ediv_of_nonneg i (by omega)];exact q) (.inl (PyProof.noPylong_of_log2 hc.2))
end
end L2
namespace L2
open PySem PySem.Spec PyProof.Rows
def aD (P:Program)(w:World)(K:PySem.W.Frag)(mg:Str->Option Value)(base:Heap)(CX:CXT)(k:Nat)(x:Str)(ps:List Str)(sp:Sp):Prop :=
 ∃ (f:Addr) (fd:FuncData),FnOk P w K mg base CX k f fd ps sp/\mg x=some (.ref f)/\Cd K (.ref f)=true/\kM K fd ps []
def aS (K:PySem.W.Frag)(mg:Str->Option Value)(x:Str)(st:Stmt)(ps:List Str):Prop :=
 ∃ (f:Addr) (fd:FuncData),Fun K x x st f fd/\mg x=some (.ref f)/\kM K fd ps []
theorem aD.mono {P:Program}{w:World}{K:PySem.W.Frag}{mg:Str->Option Value}{base:Heap}{CX:CXT}{j k:Nat}{x:Str}{ps:List Str}{sp:Sp}(c:aD P w K mg base CX j x ps sp)(h:j<=k):aD P w K mg base CX k x ps sp :=
 let ⟨f,fd,F,m,kp,b⟩:=c
 ⟨f,fd,F.mono h,m,kp,b⟩
section
variable {P:Program}{w:World}{K:PySem.W.Frag}{mg:Str->Option Value}{base:Heap}
theorem aS.ok0 {x:Str}{st:Stmt}{N ps:List Str}{k:Nat}{sp:Sp}(F:aS K mg x st ps)(S:FnScope N ps (aF st))(len:∀ vs H Q E,sp vs H Q E->vs.length=ps.length)
 (hbody:∀ (f:Addr) (cdv:Value) (A:Around) (outer:List Env) (s:Shared) (H:Hp) (vs:List V) (Q:VK) (E:XK),Room k (A.deeper (envOfC x (aF st) s.heap.objs.size f cdv))->sp vs H Q E ->
  ∃ t,PSs (kF CX0 P w K mg base N x (aF st) f cdv A outer s H E).nox (cL st) t/\t { nx:=fun _ H'=>Q .non H',rt:=Q } (start N vs) H):aD P w K mg base CX0 (k+1) x ps sp:=by
 obtain⟨f,fd,F,m,b⟩:=F;exact⟨f,fd,F.ok S len (hbody f),m,F.kp,b⟩
end
theorem aV {K:PySem.W.Frag}{mg:Str->Option Value}{h:Heap}{x:Str}{st:Stmt}{ps:List Str}{f:Addr}{oc:Value}{od an:Option Addr}{osl:Array (Option Value)}{kV doc pm cdv ct:Value}(X:K.In h)(G:h.Ns mainGlobals mg)
 (a:Av K mainGlobals x=some (some (.ref f))) (l:K.lookup f=some ⟨oc,od,.func (By x x (eL st) (cL st) (aF st) .none kV doc pm an cdv ct),osl⟩)
 (c:Cq K cdv x=true) (kp:Cd K (.ref f)=true)
 (hb:∀ (kV doc pm:Value) (an:Option Addr) (cdv ct:Value) (us:List Value),us.length=ps.length->bindArgs (By x x (eL st) (cL st) (aF st) .none kV doc pm an cdv ct) ⟨us,[]⟩=pure (ps.zip us)):aS K mg x st ps:=by
 have F:=sO (st:=st) l c kp;exact⟨f,_,F,Df X G a,F.binds hb⟩
def zP (sc:Scope)(XN:List Str)(scope:Scope)(N:List Str)(k:Nat)(fs:List Nat):Bool :=
 scope.kind==.function&&decide (scope.names.map (·.1)).Nodup&&scope.names.all (fun y=>y.2 != .free||((sc.names.filter (·.2==.cell)).map (·.1)).contains y.1)&&N.length==k+fs.length &&
  fs.zipIdx.all fun p=>match N[k+p.2]?,XN[p.1]? with
   | some x,some y=>decide (x=y)&&scope.names.lookup x==some .free&&sc.names.lookup x==some .cell
   | _,_=>false
theorem gJ:∀ (names:List (Str×NameKind)) (n:Nat),∀ x,x∈(names.filter (·.2==.cell)).map (·.1)->x∈(cellsFrom n names []).map (·.1)
 | [],_,x,h=>by simp at h
 | (y,k) :: r,n,x,h=>by
  unfold cellsFrom;by_cases hk:(k==NameKind.cell)=true
  · rw[if_pos hk,bR,Cv,Ch]
    rw[List.filter_cons_of_pos (by exact hk),Au,Ag]at h
    rcases h with h | h
    · right;simp[h]
    · left;exact gJ r (n+1) x h
  · rw[if_neg hk]
    rw[List.filter_cons_of_neg (by exact hk)]at h
    exact gJ r n x h
theorem aT {X:Cx}{sc scope:Scope}{n k:Nat}{N XN:List Str}{fs:List Nat}(hN:X.N=XN)(he:X.env.cells=cellsFrom n sc.names [])(hs:X.env.scope=sc)(h:zP sc XN scope N k fs=true):CompOk X scope N k fs:=by
 unfold zP at h;simp only[Bx]at h;obtain⟨⟨⟨⟨h1,h2⟩,h3⟩,h4⟩,h5⟩:=h;refine⟨by simpa using h1,of_decide_eq_true h2,fun y hy hf=>?_,by simpa using h4,fun j i e=>?_⟩
 · have:=Dd.mp h3 y hy
   rw[hf]at this;have c:((sc.names.filter (·.2==.cell)).map (·.1)).contains y.1=true:=by simpa using this
   rw[he];exact gJ _ _ _ (by simpa using c)
 · have hm:(i,j)∈fs.zipIdx:=by
    rw[Dy];exact e
   have:=Dd.mp h5 (i,j) hm
   dsimp only at this
   cases e1:N[k+j]? with
   | none=>rw[e1]at this;cases this
   | some x =>
    cases e2:XN[i]? with
    | none=>rw[e1,e2]at this;cases this
    | some y =>
     rw[e1,e2]at this;simp only[Bt]at this;obtain⟨⟨q1,q2⟩,q3⟩:=this;have q1':x=y:=of_decide_eq_true q1;subst q1';refine⟨x,rfl,by rw[hN];exact e2,by simpa using q2,.inl ?_⟩
     show X.env.scope.names.lookup x=some .cell
     rw[hs];simpa using q3
theorem aG.upd_new {H:Hp}{a:Addr}{o:HO}(h:H a=none):aG H (upd H a o):=fun b u e=>by rw[aU (aZ e h)];exact e
theorem aG.none {H H':Hp}(e:aG H H'){l:Addr}(h:H' l=Ev):H l=Ev:=e.free h
end L2
namespace Mir
open PySem
inductive XC where
 | NotAlike | BadCount | BadRows | BadRow | OtherSpace | BadSize | BadPlaces | ZeroSum | NoBox | BadTable | NoLine | BadName | NoRow | NoName
 deriving DecidableEq
def XC.nm:XC->Str
 | .NotAlike=>"NotAlike" | .BadCount=>"BadCount" | .BadRows=>"BadRows" | .BadRow=>"BadRow" | .OtherSpace=>"OtherSpace" | .BadSize=>"BadSize" | .BadPlaces=>"BadPlaces"
 | .ZeroSum=>"ZeroSum" | .NoBox=>"NoBox" | .BadTable=>"BadTable" | .NoLine=>"NoLine" | .BadName=>"BadName" | .NoRow=>"NoRow" | .NoName=>"NoName"
inductive D where
 | non | bl (b:Bool) | int (i:Int) | str (x:Str)
 | lst (ds:List D) | tup (ds:List D)
 | obj (c:Nat) (ds:List D)
 | dct (ks:List (List Int)) (ds:List D)
 | any
 | exc (c:XC) (ds:List D)
mutual
/-- no list within -/
def D.imm:D->Bool
 | .lst _=>false
 | .obj _ _=>false
 | .dct _ _=>false
 | .any=>false
 | .tup ds=>D.imms ds
 | .exc _ ds=>D.imms ds
 | _=>true
def D.imms:List D->Bool
 | []=>true
 | d :: r=>d.imm&&D.imms r
end
def D.con:D->Bool
 | .lst _=>true
 | .dct _ _=>true
 | _=>false
inductive Kd where
 | shr | own | tmp | old
 deriving DecidableEq
@[simp] def Kd.rd:Kd->Kd
 | .old=>.shr
 | k=>k
structure Res where
 k:Kd
 fr:Bool
 d:D
abbrev Env:=List (Option Res)
structure Xc where
 c:XC
 ds:List D
inductive R (α:Type) where
 | ok (a:α) | exc (x:Xc) | stk
@[simp] def R.bind {α β:Type}:R α->(α->R β)->R β
 | .ok a,f=>f a
 | .exc x,_=>.exc x
 | .stk,_=>.stk
instance:Monad R where
 pure:=.ok
 bind:=R.bind
@[simp] theorem R.ok_bind {α β:Type} (a:α) (f:α->R β):(R.ok a >>= f)=f a:=rfl
@[simp] theorem R.pure_bind' {α β:Type} (a:α) (f:α->R β):((pure a:R α) >>= f)=f a:=rfl
@[simp] theorem R.exc_bind {α β:Type} (x:Xc) (f:α->R β):(R.exc x >>= f)=.exc x:=rfl
@[simp] theorem R.stk_bind {α β:Type} (f:α->R β):((R.stk:R α) >>= f)=.stk:=rfl
@[simp] theorem R.pure_eq {α:Type} (a:α):(pure a:R α)=.ok a:=rfl
abbrev FE:=Env->R Res
abbrev FT:=Env->R Bool
@[simp] def sc (d:D):Res:=⟨.shr,true,d⟩
def Res.give (r:Res):R Res:=if r.k=.own then .stk else .ok ⟨.shr,r.fr,r.d⟩
def vE (i:Nat):FE:=fun ρ=>match ρ[i]? with
 | some (some e)=>.ok ⟨e.k.rd,e.fr||e.d.imm,e.d⟩
 | _=>.stk
def cE (d:D):FE:=fun _=>.ok (sc d)
def asI:D->R Int
 | .int i=>.ok i
 | _=>.stk
def asB:D->R Bool
 | .bl b=>.ok b
 | _=>.stk
def asL:D->R (List D)
 | .lst ds=>.ok ds
 | _=>.stk
def asS:D->R (List D)
 | .lst ds=>.ok ds
 | .tup ds=>.ok ds
 | _=>.stk
def i2E (C:Int->Int->Bool)(g:Int->Int->Int)(a b:FE):FE:=fun ρ=>do
 let x ← a ρ
 let y ← b ρ
 let i ← asI x.d
 let j ← asI y.d
 if C i j then .ok (sc (.int (g i j))) else .stk
def aCm (g:Int->Int->Bool)(a b:FE):FE:=fun ρ=>do
 let x ← a ρ
 let y ← b ρ
 let i ← asI x.d
 let j ← asI y.d
 .ok (sc (.bl (g i j)))
def qT (a:FE):FE:=fun ρ=>do
 let x ← a ρ
 let i ← asI x.d
 .ok (sc (.int (-i)))
def C0:Int->Int->Bool:=fun _ _=>true
def CM:Int->Int->Bool:=fun i j=>decide (i.natAbs.log2<1000000)&&decide (j.natAbs.log2<1000000)
def CD:Int->Int->Bool:=fun _ j=>decide (0<j)&&decide (j.natAbs.log2<9000)
def CP:Int->Int->Bool:=fun _ j=>decide (0<j)
def CW:Int->Int->Bool:=fun i j=>decide (0<=j)&&decide (j<=1000000)&&decide (i.natAbs<2^64)
def fC:=i2E C0 (fun i j=>i+j)
def pE:=i2E C0 (fun i j=>i-j)
def gC:=i2E CM (fun i j=>i*j)
def lX:=i2E CD (fun i j=>i/j)
def iP:=i2E CP (fun i j=>i%j)
def tX:=i2E CW (fun i j=>i^j.toNat)
def ltE:=aCm fun i j=>decide (i<j)
def gtE:=aCm fun i j=>decide (j<i)
end Mir
namespace Mir
open PySem L2
noncomputable def cut (H:Hp)(B:Addr->Prop):Hp:=fun a=>haveI:=Classical.propDecidable (B a);if B a then none else H a
theorem aR {H:Hp}{B:Addr->Prop}{a:Addr}{o:HO}:cut H B a=some o↔¬ B a/\H a=some o:=by
 unfold cut;by_cases h:B a
 · simp[h]
 · simp[h]
def stab:HO->Bool
 | .tup _=>true
 | .ext _=>true
 | .frz _ u=>stab u
 | _=>false
def Ban (fr:Bool)(H0:Hp)(B:Addr->Prop):Addr->Prop:=fun a=>B a\/(fr=true/\∃ o,H0 a=some o/\stab o=false)
noncomputable abbrev aX (fr:Bool)(H0 H:Hp)(B:Addr->Prop):Hp:=cut H (Ban fr H0 B)
theorem dJ {H:Hp}{B:Addr->Prop}:aG (cut H B) H:=fun b o e=>(aR.mp e).2
theorem dI {H H':Hp}{B B':Addr->Prop}(s:∀ b o,H b=some o->¬ B b->H' b=some o)(h:∀ b,B' b->B b\/H b=none):aG (cut H B) (cut H' B'):=fun b o e=>by
 obtain⟨n,e⟩:=aR.mp e;refine aR.mpr ⟨fun z=>?_,s b o e n⟩
 rcases h b z with h | h
 · exact n h
 · rw[h]at e;cases e
theorem aO {fr:Bool}{H0 H H':Hp}{B B':Addr->Prop}(s:∀ b o,H b=some o->¬ B b->H' b=some o)(h:∀ b,B' b->B b\/H b=none):aG (aX fr H0 H B) (aX fr H0 H' B') :=
 dI (fun b o e n=>s b o e fun z=>n (.inl z)) fun b z=>by
  rcases z with z | z
  · exact(h b z).imp .inl id
  · exact .inl (.inr z)
theorem gW {fr:Bool}{H0 H:Hp}{B:Addr->Prop}:aG (aX fr H0 H B) (aX false H0 H B) :=
 dI (fun _ _ e _=>e) fun b z=>by
  rcases z with z | ⟨z,_⟩
  · exact .inl (.inl z)
  · cases z
theorem aG.rd {H H':Hp}{a:Addr}{u:HO}(e:aG H H')(h:Rd H a u):Rd H' a u:=by
 rcases h with h | ⟨o,h⟩
 · exact .inl (e _ _ h)
 · exact .inr ⟨o,e _ _ h⟩
def clK (K:PySem.W.Frag)(c:XC):Addr:=match Av K mainGlobals c.nm with
 | some (some (.ref C))=>C
 | _=>0
def eD (a C:Addr)(h:Heap):Prop:=∃ o,h.get? a=some o/\o.cls=.ref C/\PySem.W.notCls o=true
theorem eD.stay {a C:Addr}{h h':Heap}(x:eD a C h)(k:∀ o,h.get? a=some o->h'.get? a=some o):eD a C h' :=
 let ⟨o,e,c⟩:=x
 ⟨o,k o e,c⟩
def zA:Nat->Str
 | 0=>"Flat"
 | _=>"Cleared"
def bY:Nat->List Str
 | 0=>["many","rows"]
 | _=>["bottom","heads","lines"]
def clO (K:PySem.W.Frag)(c:Nat):Addr:=match Av K mainGlobals (zA c) with
 | some (some (.ref C))=>C
 | _=>0
variable {K:PySem.W.Frag}
def bW (ks:List (List Int))(kvs:List (List Key×V)):Prop:=kvs.map (·.1)=ks.map (·.map Sum.inl)
mutual
def Rep (K:PySem.W.Frag)(G:Hp):D->V->Prop
 | .non,v=>v=.non
 | .bl b,v=>v=.bl b
 | .int i,v=>v=.int i
 | .str x,v=>v=.str x
 | .lst ds,v=>∃ a xs,v=.ref a/\Rd G a (.lst xs)/\aI K G ds xs
 | .tup ds,v=>∃ a xs,v=.ref a/\G a=some (.tup xs)/\aI K G ds xs
 | .obj c ds,v=>∃ a dx fs,v=.ref a/\G a=some (.ins (clO K c) dx fs)/\fs.map (·.1)=bY c/\aI K G ds (fs.map (·.2))
 | .any,_=>True
 | .dct ks ds,v=>∃ a kvs,v=.ref a/\Rd G a (.dT kvs)/\bW ks kvs/\aI K G ds (kvs.map (·.2))
 | .exc c ds,v=>ds=[]/\∃ a,v=.ref a/\G a=some (.ext (eD a (clK K c)))
def aI (K:PySem.W.Frag)(G:Hp):List D->List V->Prop
 | [],xs=>xs=[]
 | d :: r,xs=>∃ x xr,xs=x :: xr/\Rep K G d x/\aI K G r xr
end
mutual
theorem Rep.same {G G':Hp}(e:aG G G'):∀ {d:D} {v:V},Rep K G d v->Rep K G' d v
 | .non,_,h=>h
 | .bl _,_,h=>h
 | .int _,_,h=>h
 | .str _,_,h=>h
 | .lst _,_,⟨a,xs,h1,h2,h3⟩=>⟨a,xs,h1,aG.rd e h2,aI.same e h3⟩
 | .tup _,_,⟨a,xs,h1,h2,h3⟩=>⟨a,xs,h1,e _ _ h2,aI.same e h3⟩
 | .obj _ _,_,⟨a,dx,fs,h1,h2,h3,h4⟩=>⟨a,dx,fs,h1,e _ _ h2,h3,aI.same e h4⟩
 | .any,_,h=>h
 | .dct _ _,_,⟨a,xs,h1,h2,h3,h4⟩=>⟨a,xs,h1,aG.rd e h2,h3,aI.same e h4⟩
 | .exc _ _,_,⟨h,a,h1,h2⟩=>⟨h,a,h1,e _ _ h2⟩
theorem aI.same {G G':Hp}(e:aG G G'):∀ {ds:List D} {vs:List V},aI K G ds vs->aI K G' ds vs
 | [],_,h=>h
 | _ :: _,_,⟨x,xr,h1,h2,h3⟩=>⟨x,xr,h1,Rep.same e h2,aI.same e h3⟩
end
theorem aI.length {G:Hp}:∀ {ds:List D} {vs:List V},aI K G ds vs->ds.length=vs.length
 | [],vs,h=>by have e:vs=[]:=h;rw[e];rfl
 | _ :: _,_,⟨x,xr,h1,_,h3⟩=>by rw[h1];simp[aI.length h3]
theorem aI.get {G:Hp}:∀ {ds:List D} {vs:List V} {i:Nat} {d:D},aI K G ds vs->ds[i]?=some d->∃ v,vs[i]?=some v/\Rep K G d v
 | [],_,_,_,_,e=>by simp at e
 | _ :: _,_,0,_,⟨x,xr,h1,h2,_⟩,e=>by simp at e;subst e;exact⟨x,by rw[h1];rfl,h2⟩
 | _ :: _,_,i+1,d,⟨x,xr,h1,_,h3⟩,e=>by
  obtain⟨v,a,b⟩:=aI.get (i:=i) (d:=d) h3 (by simpa using e)
  exact⟨v,by rw[h1];simpa using a,b⟩
theorem aI.getv {G:Hp}:∀ {ds:List D} {vs:List V} {i:Nat} {v:V},aI K G ds vs->vs[i]?=some v->∃ d,ds[i]?=some d/\Rep K G d v
 | [],_,_,_,h,e=>by rw[show _=[] from h]at e;simp at e
 | _ :: _,_,0,_,⟨x,xr,h1,h2,_⟩,e=>by subst h1;simp at e;subst e;exact⟨_,rfl,h2⟩
 | _ :: _,_,i+1,v,⟨x,xr,h1,_,h3⟩,e=>by
  subst h1;obtain⟨d,a,b⟩:=aI.getv (i:=i) (v:=v) h3 (by simpa using e)
  exact⟨d,by simpa using a,b⟩
theorem aI.of_get {G:Hp}:∀ {ds:List D} {vs:List V},ds.length=vs.length->(∀ (i:Nat) d v,ds[i]?=some d->vs[i]?=some v->Rep K G d v)->aI K G ds vs
 | [],[],_,_=>rfl
 | [],v :: vr,h,_=>absurd h (by simp)
 | d :: r,[],h,_=>absurd h (by simp)
 | d :: r,v :: vr,h,f=>⟨v,vr,rfl,f 0 d v rfl rfl,aI.of_get (by simpa using h) fun i d v a b=>f (i+1) d v (by simpa using a) (by simpa using b)⟩
theorem aI.append {G:Hp}:∀ {ds es:List D} {vs ws:List V},aI K G ds vs->aI K G es ws->aI K G (ds++es) (vs++ws)
 | [],_,_,_,h,q=>by rw[show _=[] from h];exact q
 | _ :: _,_,_,_,⟨x,xr,h1,h2,h3⟩,q=>by subst h1;exact⟨x,_,rfl,h2,aI.append h3 q⟩
theorem aI.take {G:Hp}:∀ {ds:List D} {vs:List V} (n:Nat),aI K G ds vs->aI K G (ds.take n) (vs.take n)
 | _,_,0,_=>by simp only[List.take_zero];rfl
 | [],_,_+1,h=>by rw[show _=[] from h];rfl
 | _ :: _,_,n+1,⟨x,xr,h1,h2,h3⟩=>by subst h1;exact⟨x,_,rfl,h2,aI.take n h3⟩
theorem aI.drop {G:Hp}:∀ {ds:List D} {vs:List V} (n:Nat),aI K G ds vs->aI K G (ds.drop n) (vs.drop n)
 | _,_,0,h=>h
 | [],_,_+1,h=>by rw[show _=[] from h];rfl
 | _ :: _,_,n+1,⟨x,xr,h1,_,h3⟩=>by subst h1;exact aI.drop n h3
theorem aI.set {G:Hp}{d:D}{v:V}(r:Rep K G d v):∀ {ds:List D} {vs:List V} (i:Nat),aI K G ds vs->aI K G (ds.set i d) (vs.set i v)
 | [],_,_,h=>by rw[show _=[] from h];rfl
 | _ :: _,_,0,⟨x,xr,h1,_,h3⟩=>by subst h1;exact⟨v,xr,rfl,r,h3⟩
 | _ :: _,_,i+1,⟨x,xr,h1,h2,h3⟩=>by subst h1;exact⟨x,_,rfl,h2,aI.set r i h3⟩
theorem aI.one {G:Hp}{d:D}{v:V}(r:Rep K G d v):aI K G [d] [v]:=⟨v,[],rfl,r,rfl⟩
theorem qW {H0 H:Hp}{B:Addr->Prop}{a:Addr}{o:HO}(s:aG H0 H)(st:stab o=true)(e:aX false H0 H B a=some o):aX true H0 H B a=some o:=by
 obtain⟨n,e⟩:=aR.mp e;refine aR.mpr ⟨fun z=>?_,e⟩
 rcases z with z | ⟨_,o',q1,q2⟩
 · exact n (.inl z)
 · rw[s a o' q1]at e;cases e;rw[st]at q2;cases q2
mutual
theorem Rep.imm {H0 H:Hp}{B:Addr->Prop}(s:aG H0 H):∀ {d:D} {v:V},d.imm=true->Rep K (aX false H0 H B) d v->Rep K (aX true H0 H B) d v
 | .non,_,_,h=>h
 | .bl _,_,_,h=>h
 | .int _,_,_,h=>h
 | .str _,_,_,h=>h
 | .lst _,_,i,_=>by cases i
 | .tup ds,_,i,⟨a,xs,h1,h2,h3⟩=>by
  refine⟨a,xs,h1,?_,aI.imm s (by simpa[D.imm] using i) h3⟩
  exact qW s rfl h2
 | .obj _ _,_,i,_=>by cases i
 | .any,_,i,_=>by cases i
 | .dct _ _,_,i,_=>by cases i
 | .exc _ _,_,_,⟨h,a,h1,h2⟩=>⟨h,a,h1,qW s rfl h2⟩
theorem aI.imm {H0 H:Hp}{B:Addr->Prop}(s:aG H0 H):∀ {ds:List D} {vs:List V},D.imms ds=true->aI K (aX false H0 H B) ds vs->aI K (aX true H0 H B) ds vs
 | [],_,_,h=>h
 | d :: r,_,i,⟨x,xr,h1,h2,h3⟩=>by
  have i':d.imm=true/\D.imms r=true:=by simpa[D.imms] using i
  exact⟨x,xr,h1,Rep.imm s i'.1 h2,aI.imm s i'.2 h3⟩
end
theorem Rep.fr {H0 H:Hp}{B:Addr->Prop}{fr:Bool}{d:D}{v:V}(s:aG H0 H)(h:Rep K (aX fr H0 H B) d v):Rep K (aX (fr||d.imm) H0 H B) d v:=by
 cases fr with
 | true=>exact h
 | false =>
  cases e:d.imm with
  | false=>exact h
  | true=>exact Rep.imm s e h
def hW (K:PySem.W.Frag)(G:Hp)(d:D)(o:HO):Prop:=match d with
 | .lst ds=>∃ vs,o=.lst vs/\aI K G ds vs
 | .dct ks ds=>∃ kvs,o=.dT kvs/\bW ks kvs/\aI K G ds (kvs.map (·.2))
 | _=>False
theorem hW.same {G G':Hp}(e:aG G G'){d:D}{o:HO}(h:hW K G d o):hW K G' d o:=by
 cases d with
 | lst ds=>obtain⟨vs,h1,h2⟩:=h;exact⟨vs,h1,aI.same e h2⟩
 | dct ks ds=>obtain⟨kvs,h1,h2,h3⟩:=h;exact⟨kvs,h1,h2,aI.same e h3⟩
 | _=>exact h.elim
theorem hW.con {G:Hp}{d:D}{o:HO}(h:hW K G d o):d.con=true:=by
 cases d with
 | lst ds=>rfl
 | dct ks ds=>rfl
 | _=>exact h.elim
theorem hW.imm {G:Hp}{d:D}{o:HO}(h:hW K G d o):d.imm=false:=by
 cases d with
 | lst ds=>rfl
 | dct ks ds=>rfl
 | _=>exact h.elim
theorem hW.stab {G:Hp}{d:D}{o:HO}(h:hW K G d o):stab o=false:=by
 cases d with
 | lst ds=>obtain⟨vs,h1,h2⟩:=h;subst h1;rfl
 | dct ks ds=>obtain⟨kvs,h1,h2,h3⟩:=h;subst h1;rfl
 | _=>exact h.elim
theorem hW.lst {G:Hp}{ds:List D}{vs:List V}(h:aI K G ds vs):hW K G (.lst ds) (.lst vs):=⟨vs,rfl,h⟩
theorem hW.rep {G G':Hp}{a:Addr}{d:D}{o:HO}(h:hW K G d o)(e:aG G G')(q:G' a=some o):Rep K G' d (.ref a):=by
 cases d with
 | lst ds=>obtain⟨vs,h1,h2⟩:=h;subst h1;exact⟨a,vs,rfl,Rd.of q,aI.same e h2⟩
 | dct ks ds=>obtain⟨kvs,h1,h2,h3⟩:=h;subst h1;exact⟨a,kvs,rfl,Rd.of q,h2,aI.same e h3⟩
 | _=>exact h.elim
def mD (K:PySem.W.Frag)(H0 H:Hp)(B:Addr->Prop)(v:V)(e:Res):Prop :=
 match e.k with
 | .shr=>Rep K (aX e.fr H0 H B) e.d v
 | .own=>∃ a o,v=.ref a/\B a/\H0 a=none/\H a=some o/\hW K (aX e.fr H0 H B) e.d o
 | .tmp=>False
 | .old=>e.fr=false/\Rep K (cut H0 B) e.d v
structure DenE (K:PySem.W.Frag)(H0 H:Hp)(B:Addr->Prop)(σ:St)(ρ:Env):Prop where
 len:ρ.length=σ.length
 sam:aG H0 H
 bnd:∀ b,B b->∃ o,H b=some o/\stab o=false
 ent:∀ (i:Nat) (e:Res),ρ[i]?=some (some e)->∃ v,σ[i]?=some (some v)/\mD K H0 H B v e
def aM (K:PySem.W.Frag)(H0 H H':Hp)(B:Addr->Prop)(v:V)(r:Res):Prop :=
 match r.k with
 | .shr=>Rep K (aX r.fr H0 H' B) r.d v
 | .own=>∃ a o,v=.ref a/\B a/\H0 a=none/\H' a=some o/\hW K (aX r.fr H0 H' B) r.d o
 | .tmp=>∃ a o,v=.ref a/\H a=none/\H' a=some o/\hW K (aX r.fr H0 H' fun b=>B b\/b=a) r.d o
 | .old=>False
section
variable {H0 H H' H'':Hp}{B B':Addr->Prop}{v:V}{r e:Res}{σ:St}{ρ:Env}
theorem mD.mono (g:mD K H0 H B v e)(s:aG H H'):mD K H0 H' B v e:=by
 unfold mD at g ⊢;have m:∀ fr,aG (aX fr H0 H B) (aX fr H0 H' B):=fun fr=>aO (fun b o e _=>s b o e) fun b z=>.inl z;cases k:e.k with
 | shr=>rw[k]at g;exact Rep.same (m _) g
 | own=>rw[k]at g;obtain⟨a,o,h1,h2,h3,h4,h5⟩:=g;exact⟨a,o,h1,h2,h3,s _ _ h4,h5.same (m _)⟩
 | tmp=>rw[k]at g;exact g
 | old=>rw[k]at g;exact g
theorem DenE.mono (d:DenE K H0 H B σ ρ)(s:aG H H'):DenE K H0 H' B σ ρ :=
 ⟨d.len,d.sam.trans s,fun b h=>let ⟨o,e,n⟩:=d.bnd b h;⟨o,s _ _ e,n⟩,fun i e h=>let ⟨v,a,g⟩:=d.ent i e h;⟨v,a,g.mono s⟩⟩
theorem aM.mono (g:aM K H0 H H' B v r)(s:aG H' H''):aM K H0 H H'' B v r:=by
 unfold aM at g ⊢;have m:∀ fr (B:Addr->Prop),aG (aX fr H0 H' B) (aX fr H0 H'' B):=fun fr B=>aO (fun b o e _=>s b o e) fun b z=>.inl z;cases k:r.k with
 | shr=>rw[k]at g;exact Rep.same (m _ _) g
 | own=>rw[k]at g;obtain⟨a,o,h1,h2,h3,h4,h5⟩:=g;exact⟨a,o,h1,h2,h3,s _ _ h4,h5.same (m _ _)⟩
 | tmp=>rw[k]at g;obtain⟨a,o,h1,h2,h3,h4⟩:=g;exact⟨a,o,h1,h2,s _ _ h3,h4.same (m _ _)⟩
 | old=>rw[k]at g;exact g
theorem aM.sc {d:D}(h:Rep K (aX true H0 H' B) d v):aM K H0 H H' B v (sc d):=h
theorem aM.con (g:aM K H0 H H' B v r)(e:r.k≠.shr):∃ a o,v=.ref a/\H' a=some o/\hW K (aX r.fr H0 H' B) r.d o:=by
 unfold aM at g;cases k:r.k with
 | shr=>exact absurd k e
 | own=>rw[k]at g;obtain⟨a,o,h1,_,_,h4,h5⟩:=g;exact⟨a,o,h1,h4,h5⟩
 | tmp=>rw[k]at g;obtain⟨a,o,h1,_,h3,h4⟩:=g;exact⟨a,o,h1,h3,h4.same (aO (fun b o e _=>e) fun b z=>.inl (.inl z))⟩
 | old=>rw[k]at g;exact g.elim
theorem aM.list {ds:List D}(g:aM K H0 H H' B v r)(e:r.d=.lst ds):∃ a xs,v=.ref a/\Rd H' a (.lst xs)/\aI K (aX r.fr H0 H' B) ds xs:=by
 by_cases k:r.k=.shr
 · unfold aM at g
   rw[k,e]at g;obtain⟨a,xs,h1,h2,h3⟩:=g;exact⟨a,xs,h1,aG.rd dJ h2,h3⟩
 · obtain⟨a,o,h1,h2,h3⟩:=g.con k
   rw[e]at h3;obtain⟨vs,h4,h5⟩:=h3;subst h4;exact⟨a,vs,h1,Rd.of h2,h5⟩
theorem aM.dict {ks:List (List Int)}{ds:List D}(g:aM K H0 H H' B v r)(e:r.d=.dct ks ds):∃ a kvs,v=.ref a/\Rd H' a (.dT kvs)/\bW ks kvs/\aI K (aX r.fr H0 H' B) ds (kvs.map (·.2)):=by
 by_cases k:r.k=.shr
 · unfold aM at g
   rw[k,e]at g;obtain⟨a,xs,h1,h2,h3,h4⟩:=g;exact⟨a,xs,h1,aG.rd dJ h2,h3,h4⟩
 · obtain⟨a,o,h1,h2,h3⟩:=g.con k
   rw[e]at h3;obtain⟨kvs,h4,h5,h6⟩:=h3;subst h4;exact⟨a,kvs,h1,Rd.of h2,h5,h6⟩
theorem aM.shr_of (g:aM K H0 H H' B v r)(h:r.d.con=false):Rep K (aX r.fr H0 H' B) r.d v:=by
 by_cases k:r.k=.shr
 · unfold aM at g
   rw[k]at g;exact g
 · obtain⟨a,o,h1,h2,h3⟩:=g.con k
   rw[h3.con]at h;cases h
theorem aM.int {i:Int}(g:aM K H0 H H' B v r)(e:r.d=.int i):v=.int i:=by
 have:=g.shr_of (by rw[e];rfl)
 rw[e]at this;exact this
theorem aM.bl {b:Bool}(g:aM K H0 H H' B v r)(e:r.d=.bl b):v=.bl b:=by
 have:=g.shr_of (by rw[e];rfl)
 rw[e]at this;exact this
theorem aM.tuple {ds:List D}(g:aM K H0 H H' B v r)(e:r.d=.tup ds):∃ a xs,v=.ref a/\H' a=some (.tup xs)/\aI K (aX r.fr H0 H' B) ds xs:=by
 have:=g.shr_of (by rw[e];rfl)
 rw[e]at this;obtain⟨a,xs,h1,h2,h3⟩:=this;exact⟨a,xs,h1,dJ _ _ h2,h3⟩
theorem aM.give {r':Res}(den:DenE K H0 H B σ ρ)(g:aM K H0 H H' B v r)(e:r.give=.ok r'):r'=⟨.shr,r.fr,r.d⟩/\Rep K (aX r.fr H0 H' B) r.d v:=by
 unfold Res.give at e;unfold aM at g;cases k:r.k with
 | shr=>rw[k]at g e;simp at e;exact⟨e.symm,g⟩
 | own=>rw[k]at e;simp at e
 | old=>rw[k]at g;exact g.elim
 | tmp =>
  rw[k]at g e;simp at e
  obtain⟨a,o,h1,h2,h3,h4⟩:=g;refine⟨e.symm,?_⟩
  subst h1;refine h4.rep (aO (fun b o e _=>e) fun b z=>.inl (.inl z)) (aR.mpr ⟨fun z=>?_,h3⟩)
  rcases z with z | ⟨_,o,z,_⟩
  · obtain⟨o,q,_⟩:=den.bnd a z;rw[h2]at q;cases q
  · rw[den.sam _ _ z]at h2;cases h2
theorem mD.res (s:aG H0 H)(g:mD K H0 H B v e):aM K H0 H H B v ⟨e.k.rd,e.fr||e.d.imm,e.d⟩:=by
 unfold mD at g;unfold aM;cases k:e.k with
 | shr=>rw[k]at g;exact Rep.fr s g
 | own =>
  rw[k]at g;obtain⟨a,o,h1,h2,h3,h4,h5⟩:=g;refine⟨a,o,h1,h2,h3,h4,?_⟩
  rw[h5.imm,Ej];exact h5
 | tmp=>rw[k]at g;exact g.elim
 | old =>
  rw[k]at g;refine Rep.fr s (Rep.same ?_ g.2)
  rw[g.1];intro b o q;obtain⟨n,q⟩:=aR.mp q;refine aR.mpr ⟨fun z=>?_,s b o q⟩
  rcases z with z | ⟨z,_⟩
  · exact n z
  · cases z
end
structure XP where
 p:Xc->St->Hp->Prop
 mono:∀ {x:Xc} {σ:St} {H H':Hp},p x σ H->aG H H'->p x σ H'
def XP0:XP:=⟨fun _ _ _=>False,fun h _=>h⟩
def tE (K:PySem.W.Frag)(P:XP)(f:FE):TE:=fun σ H Q=>∃ H0 B ρ,DenE K H0 H B σ ρ/\match f ρ with
 | .ok r=>∀ v H',aG H H'->aM K H0 H H' B v r->Q v H'
 | .exc x=>P.p x σ H
 | .stk=>False
def tT (K:PySem.W.Frag)(P:XP)(f:FT):TT:=fun σ H Q=>∃ H0 B ρ,DenE K H0 H B σ ρ/\match f ρ with
 | .ok b=>∀ H',aG H H'->Q b H'
 | .exc x=>P.p x σ H
 | .stk=>False
theorem PE.imp {X:Cx}{e:Expr}{t t':TE}(p:PE X e t)(h:∀ σ H Q,t' σ H Q->t σ H Q):PE X e t':=fun pins s σ H Q I q=>p pins s σ H Q I (h σ H Q q)
theorem PT.imp {X:Cx}{e:Expr}{t t':TT}(p:PT X e t)(h:∀ σ H Q,t' σ H Q->t σ H Q):PT X e t':=fun pins s σ H Q I q=>p pins s σ H Q I (h σ H Q q)
theorem cW {X:Cx}{P:XP}{f:FE}{H0 H:Hp}{B:Addr->Prop}{σ:St}{ρ:Env}{Q:VK}{r:Res}(d:DenE X.K H0 H B σ ρ)(e:f ρ=.ok r)
 (h:∀ v H',aG H H'->DenE X.K H0 H' B σ ρ->aM X.K H0 H H' B v r->Q v H'):tE X.K P f σ H Q :=
 ⟨H0,B,ρ,d,by rw[e];exact fun v H' s g=>h v H' s (d.mono s) g⟩
theorem bV {X:Cx}{P:XP}{f:FE}{H0 H:Hp}{B:Addr->Prop}{σ:St}{ρ:Env}{Q:VK}{x:Xc}(d:DenE X.K H0 H B σ ρ)(e:f ρ=.exc x)(h:P.p x σ H):tE X.K P f σ H Q :=
 ⟨H0,B,ρ,d,by rw[e];exact h⟩
end Mir
namespace Mir
open PySem
abbrev FEs:=List FE
def evs:FEs->Env->R (List Res)
 | [],_=>.ok []
 | f :: r,ρ=>do
  let x ← f ρ
  let xs ← evs r ρ
  .ok (x :: xs)
def gives:List Res->R (Bool×List D)
 | []=>.ok (true,[])
 | r :: rs=>do
  let x ← r.give
  let y ← gives rs
  .ok (x.fr&&y.1,x.d :: y.2)
def bH (fs:FEs):FE:=fun ρ=>do
 let rs ← evs fs ρ
 let y ← gives rs
 if y.2.length<=sizeLine then .ok ⟨.tmp,y.1,.lst y.2⟩ else .stk
def jM (fs:FEs):FE:=fun ρ=>do
 let rs ← evs fs ρ
 let y ← gives rs
 if y.2.length<=sizeLine then .ok ⟨.shr,y.1,.tup y.2⟩ else .stk
def hJ (a:FE):FE:=fun ρ=>do
 let x ← a ρ
 let ds ← asS x.d
 .ok (sc (.int ds.length))
def cO (a i:FE):FE:=fun ρ=>do
 let x ← a ρ
 let y ← i ρ
 let ds ← asS x.d
 let j ← asI y.d
 match L2.atI ds j with
 | some d=>.ok ⟨.shr,x.fr||d.imm,d⟩
 | none=>.stk
def aLp (a:FE):FE:=fun ρ=>do
 let x ← a ρ
 let ds ← asS x.d
 .ok ⟨.tmp,x.fr,.lst ds⟩
def aLh (a:FE):FE:=fun ρ=>do
 let x ← a ρ
 let ds ← asS x.d
 .ok ⟨.shr,x.fr,.tup ds⟩
def pU (a b:FE):FE:=fun ρ=>do
 let x ← a ρ
 let y ← b ρ
 let xs ← asL x.d
 let ys ← asL y.d
 if xs.length+ys.length<=sizeLine then .ok ⟨.tmp,x.fr&&y.fr,.lst (xs++ys)⟩ else .stk
def nQ (xs:List D)(lo hi:Option Int):List D:=(xs.drop (HT.sIx xs.length 0 lo)).take (HT.sIx xs.length xs.length hi-HT.sIx xs.length 0 lo)
abbrev FO:=Env->R (Option Int)
def noO:FO:=fun _=>.ok none
def soO (a:FE):FO:=fun ρ=>do
 let x ← a ρ
 let i ← asI x.d
 .ok (some i)
def sX (a:FE)(lo hi:FO):FE:=fun ρ=>do
 let x ← a ρ
 let l ← lo ρ
 let h ← hi ρ
 let ds ← asL x.d
 .ok ⟨.tmp,x.fr,.lst (nQ ds l h)⟩
mutual
def iE:D->Option PyData
 | .non=>some .none
 | .bl b=>some (.bool b)
 | .int i=>some (.int i)
 | .str x=>some (.str x)
 | .lst ds=>(rJ ds).map .list
 | .tup ds=>(rJ ds).map .tuple
 | _=>none
def rJ:List D->Option (List PyData)
 | []=>some []
 | d :: r=>(iE d).bind fun p=>(rJ r).map (p :: ·)
end
def jK (x y:D):R Bool:=match iE x,iE y with
 | some p,some q=>if SeqAt.shaped p&&SeqAt.shaped q then .ok (PyData.eqv p q) else .stk
 | _,_=>.stk
def eqE (a b:FE):FE:=fun ρ=>do
 let x ← a ρ
 let y ← b ρ
 let t ← jK x.d y.d
 .ok (sc (.bl t))
def neE (a b:FE):FE:=fun ρ=>do
 let x ← a ρ
 let y ← b ρ
 let t ← jK x.d y.d
 .ok (sc (.bl (!t)))
def aM7:D->Bool
 | .non=>true
 | _=>false
def aFt:D->R Bool
 | .any=>.stk
 | d=>.ok (aM7 d)
def aH0 (a:FE):FE:=fun ρ=>do
 let x ← a ρ
 let b ← aFt x.d
 .ok (sc (.bl b))
def bT (a:FE):FT:=fun ρ=>do
 let x ← a ρ
 asB x.d
def aI1 (t:FT):FT:=fun ρ=>do
 let b ← t ρ
 .ok (!b)
def orT (t u:FT):FT:=fun ρ=>do
 let b ← t ρ
 if b then .ok true else u ρ
def yC (a b:FE):FE:=fun ρ=>do
 let x ← a ρ
 let t ← asB x.d
 if t then b ρ else .ok (sc (.bl false))
def ifE (t:FT)(a b:FE):FE:=fun ρ=>do
 let c ← t ρ
 if c then a ρ else b ρ
structure Its where
 st:Bool
 fr:Bool
 ds:List D
abbrev FI:=Env->R Its
def fN (a:FE):FI:=fun ρ=>do
 let x ← a ρ
 let ds ← asL x.d
 .ok ⟨x.k != .own,x.fr,ds⟩
def aJg (a:FE):FI:=fun ρ=>do
 let x ← a ρ
 match x.d with
 | .tup ds=>.ok ⟨true,x.fr,ds⟩
 | _=>.stk
def lA (lo:Int)(n:Nat):List D:=(Bp n).map fun (i:Nat)=>.int (lo+(i:Int))
def iM (a:FE):FI:=fun ρ=>do
 let x ← a ρ
 let j ← asI x.d
 if -(2^62)<=j/\j<2^62 then .ok ⟨true,true,lA 0 j.toNat⟩ else .stk
def zV (a b:FE):FI:=fun ρ=>do
 let x ← a ρ
 let y ← b ρ
 let i ← asI x.d
 let j ← asI y.d
 if -(2^62)<=i/\i<2^62/\-(2^62)<=j/\j<2^62 then .ok ⟨true,true,lA i (j-i).toNat⟩ else .stk
def xP:List D->List D->List D:=List.zipWith fun a b=>.tup [a,b]
def aEs (a b:FE):FI:=fun ρ=>do
 let x ← a ρ
 let y ← b ρ
 let xs ← asL x.d
 let ys ← asL y.d
 .ok ⟨x.k != .own&&y.k != .own,x.fr&&y.fr,xP xs ys⟩
inductive Tg where
 | nm (i:Nat) | tp (ts:List Tg)
mutual
def Tg.bind (fr:Bool):Tg->D->Env->R Env
 | .nm i,d,ρ=>.ok (ρ.set i (some ⟨.shr,fr,d⟩))
 | .tp ts,.tup ds,ρ=>Tg.binds fr ts ds ρ
 | .tp _,_,_=>.stk
def Tg.binds (fr:Bool):List Tg->List D->Env->R Env
 | [],[],ρ=>.ok ρ
 | t :: ts,d :: ds,ρ=>do
  let ρ1 ← Tg.bind fr t d ρ
  Tg.binds fr ts ds ρ1
 | _,_,_=>.stk
end
def gR (k:Nat)(fs:List Nat)(ρ:Env):Env:=Ax k none++fs.map fun i=>(ρ[i]?).join
abbrev FB:=Env->R (Option Res)
def bE (f:FE):FB:=fun ρ=>do
 let x ← f ρ
 .ok (some x)
def bIf (t:FT)(f:FE):FB:=fun ρ=>do
 let c ← t ρ
 if c then (do let x ← f ρ;.ok (some x)) else .ok none
def mS (tg:Tg)(b:FB)(fr:Bool)(ρ:Env):List D->R (Bool×List D)
 | []=>.ok (true,[])
 | d :: r=>do
  let ρ1 ← tg.bind fr d ρ
  match b ρ1 with
  | .ok (some x)=>do
   let x' ← x.give
   let y ← mS tg b fr ρ r
   .ok (x'.fr&&y.1,x'.d :: y.2)
  | .ok none=>mS tg b fr ρ r
  | _=>.stk
def cC (it:FI)(k:Nat)(fs:List Nat)(tg:Tg)(b:FB):FE:=fun ρ=>do
 let x ← it ρ
 let y ← mS tg b x.fr (gR k fs ρ) x.ds
 if x.ds.length<=sizeLine then .ok ⟨.tmp,y.1,.lst y.2⟩ else .stk
abbrev Φ:=List D->R Res
def aK (φ:Φ)(fs:FEs):FE:=fun ρ=>do
 let rs ← evs fs ρ
 let r ← φ (rs.map (·.d))
 if r.fr=true then .ok ⟨if r.k=.shr then .shr else .tmp,true,r.d⟩ else do
  let y ← gives rs
  .ok ⟨if r.k=.shr then .shr else .tmp,y.1,r.d⟩
inductive RS where
 | nx (ρ:Env) | rt (r:Res) | bk (ρ:Env) | ct (ρ:Env) | exc (x:Xc) (ρ:Env) | stk
abbrev FS:=Env->RS
def R.at (r:R α)(ρ:Env)(k:α->RS):RS:=match r with
 | .ok a=>k a
 | .exc x=>.exc x ρ
 | .stk=>.stk
def dR:FS:=.nx
def aQ (s t:FS):FS:=fun ρ=>match s ρ with
 | .nx ρ1=>t ρ1
 | r=>r
def Res.keep (r:Res):R Res:=match r.k with
 | .shr=>.ok r
 | .tmp=>.ok ⟨.own,r.fr,r.d⟩
 | .own=>.stk
 | .old=>.stk
def bB (i:Nat)(f:FE):FS:=fun ρ=>(f ρ).at ρ fun r=>(r.keep).at ρ fun e=>.nx (ρ.set i (some e))
def dQ (f:FE):FS:=fun ρ=>(f ρ).at ρ fun _=>.nx ρ
def bO (f:FE):FS:=fun ρ=>(f ρ).at ρ fun r=>.rt ⟨if r.k=.shr then .shr else .tmp,r.fr,r.d⟩
def ifS (t:FT)(a b:FS):FS:=fun ρ=>(t ρ).at ρ fun c=>if c then a ρ else b ρ
def frz (i:Nat)(ρ:Env):Env:=match ρ[i]? with
 | some (some e)=>ρ.set i (some ⟨.shr,e.fr,e.d⟩)
 | _=>ρ
def jB (i:Nat)(s:FS):FS:=fun ρ=>s (frz i ρ)
def pW (i:Nat)(ρ:Env):R (Bool×List D):=match ρ[i]? with
 | some (some ⟨.own,fr,.lst ds⟩)=>.ok (fr,ds)
 | _=>.stk
def aAq (i:Nat)(f:FE):FS:=fun ρ=>(pW i ρ).at ρ fun y=>(f ρ).at ρ fun r=>(r.give).at ρ fun x =>
 if y.2.length<sizeLine then .nx (ρ.set i (some ⟨.own,y.1&&x.fr,.lst (y.2++[x.d])⟩)) else .stk
def aLw (i:Nat)(j f:FE):FS:=fun ρ=>(f ρ).at ρ fun r=>(r.give).at ρ fun x=>(pW i ρ).at ρ fun y=>(j ρ).at ρ fun jr=>(asI jr.d).at ρ fun k =>
 match L2.ixN y.2.length k with
 | some n=>.nx (ρ.set i (some ⟨.own,y.1&&x.fr,.lst (y.2.set n x.d)⟩))
 | none=>.stk
def qH (tg:Tg)(b:FS)(fr:Bool):List D->FS
 | [],ρ=>.nx ρ
 | d :: r,ρ=>(tg.bind fr d ρ).at ρ fun ρ1=>match b ρ1 with
  | .nx ρ2=>qH tg b fr r ρ2
  | .ct ρ2=>qH tg b fr r ρ2
  | .bk ρ2=>.nx ρ2
  | o=>o
def fV (it:FI)(tg:Tg)(b:FS):FS:=fun ρ=>(it ρ).at ρ fun x=>if x.st then qH tg b x.fr x.ds ρ else .stk
def aA0 (t:FT)(b:FS):Nat->FS
 | 0,_=>.stk
 | n+1,ρ=>(t ρ).at ρ fun c=>if c then (match b ρ with
  | .nx ρ2=>aA0 t b n ρ2
  | .ct ρ2=>aA0 t b n ρ2
  | .bk ρ2=>.nx ρ2
  | o=>o) else .nx ρ
def aKf (t:FT)(b:FS):FS:=fun ρ=>aA0 t b (2^64) ρ
def stE (n:Nat)(ds:List D):Env:=ds.map (fun d=>some ⟨.shr,false,d⟩)++Ax (n-ds.length) none
def bS (np n:Nat)(s:FS):Φ:=fun ds=>if ds.length=np then (match s (stE n ds) with
 | .nx _=>.ok (sc .non)
 | .rt r=>.ok ⟨r.k,r.fr||r.d.imm,r.d⟩
 | .exc x _=>.exc x
 | _=>.stk) else .stk
end Mir
namespace Mir
open PySem L2
variable {X:Cx}{P:XP}{a b c:Expr}{f g:FE}{pos:Pos}
theorem aQh {i:Nat}{x:Str}(hN:X.N[i]?=some x)(hv:Vis X.env.scope x)(hd:(x==("__debug__":Str))=false:=by decide)(hcd:(x==("__classdict__":Str))=false:=by decide):PE X (.Name x pos) (tE X.K P (vE i)):=by
 refine PE.imp (kT hN hv hd hcd) ?_
 rintro σ H Q ⟨H0,B,ρ,d,h⟩
 unfold vE at h;cases e:ρ[i]? with
 | none=>rw[e]at h;exact h.elim
 | some o =>
  cases o with
  | none=>rw[e]at h;exact h.elim
  | some r =>
   rw[e]at h;obtain⟨v,hv,gd⟩:=d.ent i r e;exact⟨v,hv,h v H (aG.refl H) (gd.res d.sam)⟩
theorem m_v (i:Nat){x:Str}(hN:X.N[i]?=some x:=by rfl)(hv:Vis X.env.scope x:=by first | exact Or.inl rfl | exact Or.inr (Or.inl rfl) | exact Or.inr (Or.inr rfl))(hd:(x==("__debug__":Str))=false:=by decide)
 (hcd:(x==("__classdict__":Str))=false:=by decide):PE X (.Name x pos) (tE X.K P (vE i)):=aQh hN hv hd hcd
theorem m_c {d:D}{v:V}{e:Expr}(h:PE X e (tC v))(r:∀ G,Rep X.K G d v):PE X e (tE X.K P (cE d)):=by
 refine PE.imp h ?_
 rintro σ H Q ⟨H0,B,ρ,den,h⟩
 exact h v H (aG.refl H) (r _)
theorem aL {i:Int}{j pos}:PE X (.Constant (.int i) j pos) (tE X.K P (cE (.int i))):=m_c aJb fun _=>rfl
theorem aMt {b:Bool}{j pos}:PE X (.Constant (.bool b) j pos) (tE X.K P (cE (.bl b))):=m_c aMd fun _=>rfl
theorem aE7 {j pos}:PE X (.Constant .none j pos) (tE X.K P (cE .non)):=m_c aLq fun _=>rfl
theorem cY {x:Str}{j pos}:PE X (.Constant (.str x) j pos) (tE X.K P (cE (.str x))):=m_c aK7 fun _=>rfl
theorem bX {d:D}{i:Int}(h:asI d=.ok i):d=.int i:=by cases d<;>simp[asI]at h;rw[h]
theorem bP {d:D}{x:Xc}(h:asI d=.exc x):False:=by cases d<;>simp[asI]at h
theorem aFh {d:D}{i:Bool}(h:asB d=.ok i):d=.bl i:=by cases d<;>simp[asB]at h;rw[h]
theorem yW {d:D}{x:Xc}(h:asB d=.exc x):False:=by cases d<;>simp[asB]at h
theorem cX {d:D}{i:List D}(h:asL d=.ok i):d=.lst i:=by cases d<;>simp[asL]at h;rw[h]
theorem dD {d:D}{x:Xc}(h:asL d=.exc x):False:=by cases d<;>simp[asL]at h
theorem xE {d:D}{i:List D}(h:asS d=.ok i):d=.lst i\/d=.tup i:=by cases d<;>simp[asS]at h<;>simp[h]
theorem iK {d:D}{x:Xc}(h:asS d=.exc x):False:=by cases d<;>simp[asS]at h
theorem t1 {k:Res->R Res}{σ:St}{H:Hp}{Q:VK}{q:VK}(h:tE X.K P (fun ρ=>f ρ >>= k) σ H Q)
 (hk:∀ H0 B ρ v H' r,DenE X.K H0 H' B σ ρ->aM X.K H0 H H' B v r->aG H H'->(match k r with
  | .ok r1=>∀ v1 H1,aG H' H1->aM X.K H0 H H1 B v1 r1->Q v1 H1
  | .exc x=>P.p x σ H'
  | .stk=>False)->q v H'):tE X.K P f σ H q:=by
 obtain⟨H0,B,ρ,d,h⟩:=h;cases e:f ρ with
 | stk=>simp[e]at h
 | exc x=>simp[e]at h;exact bV d e h
 | ok r =>
  simp[e]at h
  refine cW d e fun v H' s d' gd=>hk H0 B ρ v H' r d' gd s ?_
  cases e2:k r with
  | stk=>rw[e2]at h;exact h
  | exc x=>rw[e2]at h;exact P.mono h s
  | ok r1=>rw[e2]at h;exact fun v1 H1 s1 g1=>h v1 H1 (s.trans s1) g1
theorem t2 {k:Res->Res->R Res}{σ:St}{H:Hp}{Q:VK}{q:V->V->Hp->Prop}(h:tE X.K P (fun ρ=>f ρ >>= fun x=>g ρ >>= fun y=>k x y) σ H Q)
 (hk:∀ H0 B ρ v w H' r r',DenE X.K H0 H' B σ ρ->aM X.K H0 H H' B v r->aM X.K H0 H H' B w r'->aG H H'->(match k r r' with
  | .ok r1=>∀ v1 H1,aG H' H1->aM X.K H0 H H1 B v1 r1->Q v1 H1
  | .exc x=>P.p x σ H'
  | .stk=>False)->q v w H'):tE X.K P f σ H fun v H1=>tE X.K P g σ H1 fun w H2=>q v w H2:=by
 obtain⟨H0,B,ρ,d,h⟩:=h;cases e:f ρ with
 | stk=>simp[e]at h
 | exc x=>simp[e]at h;exact bV d e h
 | ok r =>
  simp[e]at h
  refine cW d e fun v H1 s1 d1 g1=>?_
  cases e2:g ρ with
  | stk=>simp[e2]at h
  | exc x=>simp[e2]at h;exact bV d1 e2 (P.mono h s1)
  | ok r' =>
   simp[e2]at h
   refine cW d1 e2 fun w H2 s2 d2 g2=>hk H0 B ρ v w H2 r r' d2 (g1.mono s2) ?_ (s1.trans s2) ?_
   · unfold aM at g2 ⊢
     cases k:r'.k with
     | shr=>rw[k]at g2;exact g2
     | own=>rw[k]at g2;exact g2
     | tmp=>rw[k]at g2;obtain⟨a,o,h1,h2,h3⟩:=g2;exact⟨a,o,h1,s1.none h2,h3⟩
     | old=>rw[k]at g2;exact g2
   · cases e3:k r r' with
     | stk=>rw[e3]at h;exact h
     | exc x=>rw[e3]at h;exact P.mono h (s1.trans s2)
     | ok r1=>rw[e3]at h;exact fun v1 H3 s3 g3=>h v1 H3 ((s1.trans s2).trans s3) g3
theorem aBs {op:Operator}{C:Int->Int->Bool}{C':Int->Int->Prop}{G:Int->Int->Int}(ho:OpR X (binaryOp op) (rI C' fun i j=>.int (G i j)))(hC:∀ i j,C i j=true->C' i j)(ha:PE X a (tE X.K P f))(hb:PE X b (tE X.K P g)) :
 PE X (.BinOp a op b pos) (tE X.K P (i2E C G f g)):=by
 refine PE.imp (zG ho ha hb) ?_
 intro σ H Q h;refine t2 (q:=fun x y H2=>rI C' (fun i j=>.int (G i j)) x y H2 Q) h ?_
 intro H0 B ρ v w H' r r' d g1 g2 s h;cases e1:asI r.d with
 | stk=>simp[e1]at h
 | exc x=>exact(bP e1).elim
 | ok i =>
  cases e2:asI r'.d with
  | stk=>simp[e1,e2]at h
  | exc x=>exact(bP e2).elim
  | ok j =>
   simp only[e1,e2,R.ok_bind]at h;by_cases hc:C i j=true
   · rw[if_pos hc]at h
     exact⟨i,j,g1.int (bX e1),g2.int (bX e2),hC i j hc,h _ H' (aG.refl _) (aM.sc (show Rep _ _ (.int (G i j)) _ from rfl))⟩
   · rw[if_neg hc]at h;exact h.elim
theorem aIy {G:Int->Int->Int}{F:Value->Value->Sem Value}(h:OpR X F (rI0 fun i j=>.int (G i j))):OpR X F (rI (fun _ _=>True) fun i j=>.int (G i j)) :=
 fun pins s σ H x y v u Q I rx ry ⟨i,j,e1,e2,_,q⟩=>h pins s σ H x y v u Q I rx ry ⟨i,j,e1,e2,q⟩
theorem fU (ha:PE X a (tE X.K P f))(hb:PE X b (tE X.K P g)):PE X (.BinOp a .Add b pos) (tE X.K P (fC f g)):=aBs (aIy aLs) (fun _ _ _=>trivial) ha hb
theorem lJ (ha:PE X a (tE X.K P f))(hb:PE X b (tE X.K P g)):PE X (.BinOp a .Sub b pos) (tE X.K P (pE f g)):=aBs (aIy aLf) (fun _ _ _=>trivial) ha hb
theorem eB (ha:PE X a (tE X.K P f))(hb:PE X b (tE X.K P g)):PE X (.BinOp a .Mult b pos) (tE X.K P (gC f g)):=aBs aH3 (fun i j h=>by
 unfold CM at h;simp at h;exact h) ha hb
theorem lH (ha:PE X a (tE X.K P f))(hb:PE X b (tE X.K P g)):PE X (.BinOp a .FloorDiv b pos) (tE X.K P (lX f g)):=aBs aC8 (fun i j h=>by
 unfold CD at h;simp at h;exact h) ha hb
theorem lV (ha:PE X a (tE X.K P f))(hb:PE X b (tE X.K P g)):PE X (.BinOp a .Mod b pos) (tE X.K P (iP f g)):=aBs aK1 (fun i j h=>by
 unfold CP at h;simp at h;exact h) ha hb
theorem zS (ha:PE X a (tE X.K P f))(hb:PE X b (tE X.K P g)):PE X (.BinOp a .Pow b pos) (tE X.K P (tX f g)):=aBs aLz (fun i j h=>by
 unfold CW at h;simp at h;exact⟨h.1.1,h.1.2,h.2⟩) ha hb
theorem nK (ha:PE X a (tE X.K P f)):PE X (.UnaryOp .USub a pos) (tE X.K P (qT f)):=by
 refine PE.imp (aNn aLr ha) ?_
 intro σ H Q h;refine t1 (q:=fun x H2=>rU (fun i=>.int (-i)) x H2 Q) h ?_
 intro H0 B ρ v H' r d g1 s h;cases e1:asI r.d with
 | stk=>simp[e1]at h
 | exc x=>exact(bP e1).elim
 | ok i =>
  simp only[e1,R.ok_bind]at h;exact⟨i,g1.int (bX e1),h _ H' (aG.refl _) (aM.sc (show Rep _ _ (.int (-i)) _ from rfl))⟩
theorem aIu {G:Int->Int->Bool}(σ:St)(H:Hp)(Q:VK)(h:tE X.K P (aCm G f g) σ H Q):tOp (rI0 fun i j=>.bl (G i j)) (tE X.K P f) (tE X.K P g) σ H Q:=by
 refine t2 (q:=fun x y H2=>rI0 (fun i j=>.bl (G i j)) x y H2 Q) h ?_
 intro H0 B ρ v w H' r r' d g1 g2 s h;cases e1:asI r.d with
 | stk=>simp[e1]at h
 | exc x=>exact(bP e1).elim
 | ok i =>
  cases e2:asI r'.d with
  | stk=>simp[e1,e2]at h
  | exc x=>exact(bP e2).elim
  | ok j =>
   simp only[e1,e2,R.ok_bind]at h;exact⟨i,j,g1.int (bX e1),g2.int (bX e2),h _ H' (aG.refl _) (aM.sc (show Rep _ _ (.bl (G i j)) _ from rfl))⟩
mutual
theorem Rep.has {G H:Hp}(s:aG G H):∀ {d:D} {p:PyData} {v:V},iE d=some p->Rep X.K G d v->Has X.K H v p
 | .non,_,_,e,h=>by simp[iE]at e;subst e;rw[show _=V.non from h];exact .non
 | .bl b,_,_,e,h=>by simp[iE]at e;subst e;rw[show _=V.bl b from h];exact .bl b
 | .int i,_,_,e,h=>by simp[iE]at e;subst e;rw[show _=V.int i from h];exact .int i
 | .str x,_,_,e,h=>by simp[iE]at e;subst e;rw[show _=V.str x from h];exact .str x
 | .lst ds,_,_,e,⟨a,xs,h1,h2,h3⟩=>by
  simp[iE]at e
  obtain⟨ps,e1,e2⟩:=e;subst e2;subst h1;exact .lst (.inl (aG.rd s h2)) (aI.has s e1 h3)
 | .tup ds,_,_,e,⟨a,xs,h1,h2,h3⟩=>by
  simp[iE]at e
  obtain⟨ps,e1,e2⟩:=e;subst e2;subst h1;exact .tup (.inl (.inl (s _ _ h2))) (aI.has s e1 h3)
 | .obj _ _,_,_,e,_=>by simp[iE]at e
 | .any,_,_,e,_=>by simp[iE]at e
 | .dct _ _,_,_,e,_=>by simp[iE]at e
 | .exc _ _,_,_,e,_=>by simp[iE]at e
theorem aI.has {G H:Hp}(s:aG G H):∀ {ds:List D} {ps:List PyData} {vs:List V},rJ ds=some ps->aI X.K G ds vs->HasAll X.K H vs ps
 | [],_,_,e,h=>by simp[rJ]at e;subst e;rw[show _=[] from h];exact .nil
 | d :: r,_,_,e,⟨x,xr,h1,h2,h3⟩=>by
  simp[rJ,Option.bind_eq_some_iff]at e
  obtain⟨p,e1,q,e2,e3⟩:=e;subst e3;subst h1;exact .cons (Rep.has s e1 h2) (aI.has s e2 h3)
end
theorem aM.has {H0 H H':Hp}{B:Addr->Prop}{v:V}{r:Res}{p:PyData}(g:aM X.K H0 H H' B v r)(e:iE r.d=some p):Has X.K H' v p:=by
 cases k:r.d with
 | lst ds =>
  obtain⟨a,xs,h1,h2,h3⟩:=g.list k;rw[k]at e;simp[iE]at e
  obtain⟨ps,e1,e2⟩:=e;subst e2;subst h1;exact .lst (.inl h2) (aI.has dJ e1 h3)
 | dct ks ds=>rw[k]at e;simp[iE]at e
 | _=>exact Rep.has dJ e (g.shr_of (by rw[k];rfl))
theorem aD2 {x y:D}{z:Xc}(h:jK x y=.exc z):False:=by
 unfold jK at h;split at h
 · split at h<;>cases h
 · cases h
theorem aCu {n:Bool->Bool}(σ:St)(H:Hp)(Q:VK)(h:tE X.K P (fun ρ=>f ρ >>= fun x=>g ρ >>= fun y=>jK x.d y.d >>= fun t=>.ok (sc (.bl (n t)))) σ H Q) :
 tOp (fun x y H Q=>∃ d e,Has X.K H x d/\Has X.K H y e/\SeqAt.shaped d=true/\SeqAt.shaped e=true/\Q (.bl (n (PyData.eqv d e))) H) (tE X.K P f) (tE X.K P g) σ H Q:=by
 refine t2 (q:=fun x y H2=>∃ d e,Has X.K H2 x d/\Has X.K H2 y e/\SeqAt.shaped d=true/\SeqAt.shaped e=true/\Q (.bl (n (PyData.eqv d e))) H2) h ?_
 intro H0 B ρ v w H' r r' d g1 g2 s h;cases e1:jK r.d r'.d with
 | stk=>simp[e1]at h
 | exc x=>exact(aD2 e1).elim
 | ok t =>
  simp only[e1,R.ok_bind]at h;unfold jK at e1;split at e1
  · rename_i p q hp hq
    split at e1
    · rename_i hs
      rw[Bt]at hs;cases e1;exact⟨p,q,g1.has hp,g2.has hq,hs.1,hs.2,h _ H' (aG.refl _) (aM.sc (show Rep _ _ (.bl _) _ from rfl))⟩
    · cases e1
  · cases e1
theorem aD9 {d:D}{x:Xc}(h:aFt d=.exc x):False:=by
 cases d<;>cases h
theorem aM.isN {H0 H H':Hp}{B:Addr->Prop}{v:V}{r:Res}(g:aM X.K H0 H H' B v r){b:Bool}(hb:aFt r.d=.ok b):decide (v=.non)=b:=by
 suffices h:decide (v=.non)=aM7 r.d by
  rw[h];cases k:r.d<;>rw[k]at hb<;>first | (cases hb;rfl) | cases hb
 cases k:r.d with
 | lst ds =>
  obtain⟨a,xs,h1,_⟩:=g.list k;rw[h1];rfl
 | dct ks ds =>
  obtain⟨a,xs,h1,_⟩:=g.dict k;rw[h1];rfl
 | any=>rw[k]at hb;cases hb
 | non=>have:=g.shr_of (by rw[k];rfl);rw[k]at this;rw[show v=.non from this];rfl
 | bl b=>have:=g.shr_of (by rw[k];rfl);rw[k]at this;rw[show v=.bl b from this];rfl
 | int b=>have:=g.shr_of (by rw[k];rfl);rw[k]at this;rw[show v=.int b from this];rfl
 | str b=>have:=g.shr_of (by rw[k];rfl);rw[k]at this;rw[show v=.str b from this];rfl
 | tup b=>have:=g.shr_of (by rw[k];rfl);rw[k]at this;obtain⟨a,_,h1,_⟩:=this;rw[h1];rfl
 | obj c b=>have:=g.shr_of (by rw[k];rfl);rw[k]at this;obtain⟨a,_,_,h1,_⟩:=this;rw[h1];rfl
 | exc c b=>have:=g.shr_of (by rw[k];rfl);rw[k]at this;obtain⟨_,a,h1,_⟩:=this;rw[h1];rfl
theorem aL5 (σ:St)(H:Hp)(Q:VK)(h:tE X.K P (aH0 f) σ H Q):aN2 (tE X.K P f) σ H Q:=by
 refine t1 (q:=fun x H1=>Q (.bl (decide (x=.non))) H1) h ?_
 intro H0 B ρ v H' r d g1 s h;cases e1:aFt r.d with
 | stk=>simp[e1]at h
 | exc x=>exact(aD9 e1).elim
 | ok b =>
  simp only[e1,R.ok_bind]at h;rw[g1.isN e1];exact h _ H' (aG.refl _) (aM.sc (show Rep _ _ (.bl _) _ from rfl))
theorem sQ {σ:St}{H:Hp}{Q:Bool->Hp->Prop}(h:tT X.K P (bT f) σ H Q):tE X.K P f σ H fun x H1=>∃ k,x=.bl k/\Q k H1:=by
 obtain⟨H0,B,ρ,d,h⟩:=h;unfold bT at h;cases e:f ρ with
 | stk=>simp[e]at h
 | exc x=>simp[e]at h;exact bV d e h
 | ok r =>
  cases e1:asB r.d with
  | stk=>simp[e,e1]at h
  | exc x=>exact(yW e1).elim
  | ok t =>
   simp[e,e1]at h
   exact cW d e fun v H' s d' g'=>⟨t,g'.bl (aFh e1),h H' s⟩
theorem aMu (hu:X.A.units+64<cLine)(ha:PE X a (tE X.K P f))(hb:PE X b (tE X.K P g)):PE X (.Compare a [.Eq] [b] pos) (tE X.K P (eqE f g)):=PE.imp (aHk (aD4 hu) ha hb (oO _)) (aCu (n:=id))
theorem pF {op:CmpOp}{r:R2}(ho:OpR X (compareOp op) r)(ha:PE X a (tE X.K P f))(hb:PE X b (tE X.K P g))(hm:behindInMarks op b=false){F:FE}(himp:∀ σ H Q,tE X.K P F σ H Q->tOp r (tE X.K P f) (tE X.K P g) σ H Q) :
 PT X (.Compare a [op] [b] pos) (tT X.K P (bT F)):=by
 refine PT.imp (aHc ho ha hb hm) ?_
 intro σ H Q h;exact himp σ H _ (sQ h)
theorem rE (ha:PE X a (tE X.K P f))(hb:PE X b (tE X.K P g)):PT X (.Compare a [.Lt] [b] pos) (tT X.K P (bT (ltE f g))):=pF aM5 ha hb (oO _) aIu
theorem zF (ha:PE X a (tE X.K P f))(hb:PE X b (tE X.K P g)):PT X (.Compare a [.Gt] [b] pos) (tT X.K P (bT (gtE f g))):=pF aL6 ha hb (oO _) aIu
theorem zJ (hu:X.A.units+64<cLine)(ha:PE X a (tE X.K P f))(hb:PE X b (tE X.K P g)):PT X (.Compare a [.Eq] [b] pos) (tT X.K P (bT (eqE f g))):=pF (aD4 hu) ha hb (oO _) (aCu (n:=id))
theorem jH (hu:X.A.units+64<cLine)(ha:PE X a (tE X.K P f))(hb:PE X b (tE X.K P g)):PT X (.Compare a [.NotEq] [b] pos) (tT X.K P (bT (neE f g))):=pF (aKm hu) ha hb (oO _) (aCu (n:=not))
theorem aD5 {j p'}(ha:PE X a (tE X.K P f)):PT X (.Compare a [.Is] [.Constant .none j p'] pos) (tT X.K P (bT (aH0 f))):=PT.imp (aJl (aLb ha)) fun σ H Q h=>aL5 σ H _ (sQ h)
theorem aE8 {e:Expr}(h:PE X e (tE X.K P f))(he:∀ whole,isTrue e X.env whole=(do let v ← whole;standAt e.pos;holding [v] (truthy v)):=by intro _;rfl):PT X e (tT X.K P (bT f)):=by
 refine PT.imp (aJn h he) ?_
 intro σ H Q h;exact sQ h
variable {t u:FT}{rest:List Expr}
theorem tT1 {k:Bool->R Bool}{σ:St}{H:Hp}{Q:Bool->Hp->Prop}{q:Bool->Hp->Prop}(h:tT X.K P (fun ρ=>t ρ >>= k) σ H Q)
 (hk:∀ c H',aG H H'->(match k c with
  | .ok b=>∀ H1,aG H' H1->Q b H1
  | .exc x=>P.p x σ H'
  | .stk=>False)->q c H'):tT X.K P t σ H q:=by
 obtain⟨H0,B,ρ,d,h⟩:=h;cases e:t ρ with
 | stk=>simp[e]at h
 | exc x=>simp[e]at h;exact⟨H0,B,ρ,d,by rw[e];exact h⟩
 | ok c =>
  simp[e]at h
  refine⟨H0,B,ρ,d,?_⟩
  rw[e];intro H' s;refine hk c H' s ?_
  cases e2:k c with
  | stk=>rw[e2]at h;exact h
  | exc x=>rw[e2]at h;exact P.mono h s
  | ok b=>rw[e2]at h;exact fun H1 s1=>h H1 (s.trans s1)
theorem aDf (h:PT X a (tT X.K P t)):PT X (.UnaryOp .Not a pos) (tT X.K P (aI1 t)):=by
 refine PT.imp (aKw h) ?_
 intro σ H Q h;exact tT1 (q:=fun c H1=>Q (!c) H1) h fun c H' s h=>h H' (aG.refl _)
theorem tT2 {σ:St}{H:Hp}{Q:Bool->Hp->Prop}{stop:Bool}{h2:Hp->Prop}
 (h:tT X.K P (fun ρ=>t ρ >>= fun b=>if b=stop then .ok stop else u ρ) σ H Q):tT X.K P t σ H fun c H1=>if c=stop then Q stop H1 else tT X.K P u σ H1 Q:=by
 obtain⟨H0,B,ρ,d,h⟩:=h;cases e:t ρ with
 | stk=>simp[e]at h
 | exc x=>simp[e]at h;exact⟨H0,B,ρ,d,by rw[e];exact h⟩
 | ok c =>
  simp only[e,R.ok_bind]at h;refine⟨H0,B,ρ,d,?_⟩
  rw[e];intro H' s;by_cases hc:c=stop
  · rw[if_pos hc]at h ⊢
    exact h H' s
  · rw[if_neg hc]at h ⊢
    refine⟨H0,B,ρ,d.mono s,?_⟩
    cases e2:u ρ with
    | stk=>rw[e2]at h;exact h
    | exc x=>rw[e2]at h;exact P.mono h s
    | ok b=>rw[e2]at h;exact fun H1 s1=>h H1 (s.trans s1)
theorem aJw:orT t u=fun ρ=>t ρ >>= fun b=>if b=true then .ok true else u ρ:=by
 funext ρ
 unfold orT;cases t ρ with
 | ok b=>cases b<;>rfl
 | _=>rfl
theorem sW (ha:PT X a (tT X.K P t)):PW X (.BoolOp .Or [a] pos) (tT X.K P t):=aLv ha
theorem PW.imp {e:Expr}{t t':TT}(p:PW X e t)(h:∀ σ H Q,t' σ H Q->t σ H Q):PW X e t':=fun wh pins s σ H Q I q=>p wh pins s σ H Q I (h σ H Q q)
theorem yY (ha:PT X a (tT X.K P t))(hb:PW X (.BoolOp .Or (b :: rest) pos) (tT X.K P u)):PW X (.BoolOp .Or (a :: b :: rest) pos) (tT X.K P (orT t u)):=by
 refine PW.imp (aMr ha hb) ?_
 intro σ H Q h;rw[aJw]at h;exact tT2 (h2:=fun _=>True) h
end Mir
namespace Mir
open PySem L2
variable {X:Cx}{P:XP}{a b c e:Expr}{es:List Expr}{f g:FE}{fs:FEs}{pos:Pos}
def cZ (K:PySem.W.Frag)(H0 H H':Hp)(B:Addr->Prop):List V->List Res->Prop
 | [],rs=>rs=[]
 | v :: vs,rs=>∃ r rr,rs=r :: rr/\aM K H0 H H' B v r/\cZ K H0 H H' B vs rr
theorem aM.old {K:PySem.W.Frag}{H0 H H1 H2:Hp}{B:Addr->Prop}{v:V}{r:Res}(s:aG H H1)(g:aM K H0 H1 H2 B v r):aM K H0 H H2 B v r:=by
 unfold aM at g ⊢;cases k:r.k with
 | shr=>rw[k]at g;exact g
 | own=>rw[k]at g;exact g
 | tmp=>rw[k]at g;obtain⟨a,o,h1,h2,h3⟩:=g;exact⟨a,o,h1,s.none h2,h3⟩
 | old=>rw[k]at g;exact g
theorem cZ.old {K:PySem.W.Frag}{H0 H H1 H2:Hp}{B:Addr->Prop}(s:aG H H1):∀ {vs:List V} {rs:List Res},cZ K H0 H1 H2 B vs rs->cZ K H0 H H2 B vs rs
 | [],_,h=>h
 | _ :: _,_,⟨r,rr,e,g,gs⟩=>⟨r,rr,e,g.old s,cZ.old s gs⟩
theorem cZ.len {K:PySem.W.Frag}{H0 H H1:Hp}{B:Addr->Prop}:∀ {vs:List V} {rs:List Res},cZ K H0 H H1 B vs rs->vs.length=rs.length
 | [],rs,h=>by have e:rs=[]:=h;rw[e];rfl
 | _ :: _,_,⟨r,rr,e,g,gs⟩=>by rw[e];simp[cZ.len gs]
def tAs (K:PySem.W.Frag)(P:XP)(fs:FEs):TA:=fun σ H Q=>∃ H0 B ρ,DenE K H0 H B σ ρ/\match evs fs ρ with
 | .ok rs=>∀ vs H',aG H H'->cZ K H0 H H' B vs rs->Q vs H'
 | .exc x=>P.p x σ H
 | .stk=>False
theorem PA.imp {t t':TA}(p:PA X es t)(h:∀ σ H Q,t' σ H Q->t σ H Q):PA X es t':=fun pos pins s σ H Q I q=>p pos pins s σ H Q I (h σ H Q q)
theorem aB:PA X [] (tAs X.K P []):=PA.imp nE fun σ H Q ⟨H0,B,ρ,d,h⟩=>h [] H (aG.refl H) rfl
theorem aA (ha:PE X e (tE X.K P f))(hr:PA X es (tAs X.K P fs))(hs:starEach (e :: es) X.env=(false,eval e X.env) :: starEach es X.env:=by rfl):PA X (e :: es) (tAs X.K P (f :: fs)):=by
 refine PA.imp (iB ha hr hs) ?_
 rintro σ H Q ⟨H0,B,ρ,d,h⟩
 unfold evs at h;show tE X.K P f σ H fun x H1=>tAs X.K P fs σ H1 fun xs H2=>Q (x :: xs) H2
 cases e1:f ρ with
 | stk=>simp[e1]at h
 | exc x=>simp[e1]at h;exact bV d e1 h
 | ok r =>
  simp only[e1,R.ok_bind]at h;refine cW d e1 fun v H1 s1 d1 g1=>⟨H0,B,ρ,d1,?_⟩
  cases e2:evs fs ρ with
  | stk=>simp[e2]at h
  | exc x=>simp[e2]at h;exact P.mono h s1
  | ok rs =>
   simp only[e2,R.ok_bind]at h;exact fun vs H2 s2 gs=>h (v :: vs) H2 (s1.trans s2) ⟨r,rs,rfl,g1.mono s2,gs.old s1⟩
theorem tA1 {k:List Res->R Res}{σ:St}{H:Hp}{Q:VK}{q:List V->Hp->Prop}(h:tE X.K P (fun ρ=>evs fs ρ >>= k) σ H Q)
 (hk:∀ H0 B ρ vs H' rs,DenE X.K H0 H B σ ρ->DenE X.K H0 H' B σ ρ->cZ X.K H0 H H' B vs rs->aG H H'->(match k rs with
  | .ok r1=>∀ v1 H1,aG H' H1->aM X.K H0 H H1 B v1 r1->Q v1 H1
  | .exc x=>P.p x σ H'
  | .stk=>False)->q vs H'):tAs X.K P fs σ H q:=by
 obtain⟨H0,B,ρ,d,h⟩:=h;refine⟨H0,B,ρ,d,?_⟩
 cases e:evs fs ρ with
 | stk=>simp[e]at h
 | exc x=>simp[e]at h;exact h
 | ok rs =>
  simp only[e,R.ok_bind]at h;intro vs H' s gs;refine hk H0 B ρ vs H' rs d (d.mono s) gs s ?_
  cases e2:k rs with
  | stk=>rw[e2]at h;exact h
  | exc x=>rw[e2]at h;exact P.mono h s
  | ok r1=>rw[e2]at h;exact fun v1 H1 s1 g1=>h v1 H1 (s.trans s1) g1
theorem cZ.gives {K:PySem.W.Frag}{H0 H H':Hp}{B:Addr->Prop}{σ:St}{ρ:Env}(den:DenE K H0 H B σ ρ):∀ {vs:List V} {rs:List Res} {y:Bool×List D},cZ K H0 H H' B vs rs->gives rs=.ok y->aI K (aX y.1 H0 H' B) y.2 vs
 | [],_,y,h,e=>by rw[show _=[] from h]at e;simp[Mir.gives]at e;subst e;rfl
 | v :: vs,_,y,⟨r,rr,e1,g,gs⟩,e=>by
  subst e1;simp only[Mir.gives]at e;cases e2:r.give with
  | stk=>simp[e2]at e
  | exc x=>simp[e2]at e
  | ok r' =>
   cases e3:Mir.gives rr with
   | stk=>simp[e2,e3]at e
   | exc x=>simp[e2,e3]at e
   | ok y' =>
    simp only[e2,e3,R.ok_bind]at e;cases e;obtain⟨q1,q2⟩:=g.give den e2;have q3:=cZ.gives den gs e3;subst q1
    have w:∀ {fr fr':Bool} {d:D} {v:V},Rep K (aX fr H0 H' B) d v->Rep K (aX (fr&&fr') H0 H' B) d v:=fun {fr fr' d v} h=>by
     cases fr' with
     | true=>simpa using h
     | false=>simp;exact Rep.same gW h
    have w2:∀ {fr fr':Bool} {d:List D} {v:List V},aI K (aX fr' H0 H' B) d v->aI K (aX (fr&&fr') H0 H' B) d v:=fun {fr fr' d v} h=>by
     cases fr with
     | true=>simpa using h
     | false=>simp;exact aI.same gW h
    exact⟨v,vs,rfl,w q2,w2 q3⟩
theorem gZ {x:Xc}:∀ {rs:List Res},gives rs=.exc x->False
 | [],h=>by simp[gives]at h
 | r :: rs,h=>by
  simp only[gives]at h;cases e2:r.give with
  | stk=>simp[e2]at h
  | exc x=>unfold Res.give at e2;split at e2<;>cases e2
  | ok r' =>
   cases e3:gives rs with
   | stk=>simp[e2,e3]at h
   | exc x=>exact gZ e3
   | ok y=>simp[e2,e3]at h
theorem fX {K:PySem.W.Frag}{H0 H H':Hp}{B:Addr->Prop}{σ:St}{ρ:Env}{p:Addr}{vs:List V}{ds:List D}{fr:Bool}(den:DenE K H0 H' B σ ρ)(s:aG H H')(hp:H' p=none)(r:aI K (aX fr H0 H' B) ds vs) :
 aM K H0 H (upd H' p (.lst vs)) B (.ref p) ⟨.tmp,fr,.lst ds⟩:=by
 refine⟨p,_,rfl,s.none hp,bF,.lst (aI.same (aO (fun b o e _=>aG.upd_new hp b o e) fun b z=>?_) r)⟩
 rcases z with z | z
 · exact .inl z
 · exact .inr (by rw[z];exact hp)
theorem jS {K:PySem.W.Frag}{H0 H':Hp}{B:Addr->Prop}{σ:St}{ρ:Env}{p:Addr}{vs:List V}{ds:List D}{fr:Bool}(den:DenE K H0 H' B σ ρ)(hp:H' p=none)(r:aI K (aX fr H0 H' B) ds vs) :
 Rep K (aX fr H0 (upd H' p (.tup vs)) B) (.tup ds) (.ref p):=by
 refine⟨p,vs,rfl,aR.mpr ⟨fun z=>?_,bF⟩,aI.same (aO (fun b o e _=>aG.upd_new hp b o e) fun b z=>.inl z) r⟩
 rcases z with z | ⟨_,o,z,_⟩
 · obtain⟨o,q,_⟩:=den.bnd p z;rw[hp]at q;cases q
 · rw[den.sam _ _ z]at hp;cases hp
theorem bN (h:PA X es (tAs X.K P fs)):PE X (.List es pos) (tE X.K P (bH fs)):=by
 refine PE.imp (aLk h) ?_
 intro σ H Q h;refine tA1 h ?_
 intro H0 B ρ vs H' rs d0 d gs s h;cases e:gives rs with
 | stk=>simp[e]at h
 | exc x=>exact(gZ e).elim
 | ok y =>
  simp only[e,R.ok_bind]at h;have r:=gs.gives d0 e;by_cases hz:y.2.length<=sizeLine
  · rw[if_pos hz]at h
    exact⟨by rw[←r.length];exact hz,fun p hp=>h _ _ (aG.upd_new hp) (fX d s hp r)⟩
  · rw[if_neg hz]at h;exact h.elim
theorem hZ {x1}(h:PA X es (tAs X.K P fs)):PE X (.Tuple es x1 pos) (tE X.K P (jM fs)):=by
 refine PE.imp (aLi h) ?_
 intro σ H Q h;refine tA1 h ?_
 intro H0 B ρ vs H' rs d0 d gs s h;cases e:gives rs with
 | stk=>simp[e]at h
 | exc x=>exact(gZ e).elim
 | ok y =>
  simp only[e,R.ok_bind]at h;have r:=gs.gives d0 e;by_cases hz:y.2.length<=sizeLine
  · rw[if_pos hz]at h
    exact⟨by rw[←r.length];exact hz,fun p hp=>h _ _ (aG.upd_new hp) (jS d hp r)⟩
  · rw[if_neg hz]at h;exact h.elim
theorem aM.seq {K:PySem.W.Frag}{H0 H H':Hp}{B:Addr->Prop}{v:V}{r:Res}{ds:List D}(g:aM K H0 H H' B v r)(e:asS r.d=.ok ds):∃ a xs,v=.ref a/\(Rd H' a (.lst xs)\/H' a=some (.tup xs))/\aI K (aX r.fr H0 H' B) ds xs:=by
 rcases xE e with e | e
 · obtain⟨a,xs,h1,h2,h3⟩:=g.list e
   exact⟨a,xs,h1,.inl h2,h3⟩
 · obtain⟨a,xs,h1,h2,h3⟩:=g.tuple e
   exact⟨a,xs,h1,.inr h2,h3⟩
theorem lO {k:Res->R Res}{rule:List V->Hp->VK->Prop}{σ:St}{H:Hp}{Q:VK}(h:tE X.K P (fun ρ=>f ρ >>= k) σ H Q)
 (hk:∀ H0 B ρ v H' r,DenE X.K H0 H B σ ρ->DenE X.K H0 H' B σ ρ->aM X.K H0 H H' B v r->aG H H'->(match k r with
  | .ok r1=>∀ v1 H1,aG H' H1->aM X.K H0 H H1 B v1 r1->Q v1 H1
  | .exc x=>P.p x σ H'
  | .stk=>False)->rule [v] H' Q):tCB rule (tAs X.K P [f]) σ H Q:=by
 show tAs X.K P [f] σ H fun vs H1=>rule vs H1 Q
 have e:(fun ρ=>evs [f] ρ >>= fun rs=>match rs with | [r]=>k r | _=>.stk)=fun ρ=>f ρ >>= k:=by
  funext ρ
  unfold evs;cases f ρ with
  | ok r=>rfl
  | _=>rfl
 rw[←e]at h;refine tA1 h ?_
 intro H0 B ρ vs H' rs d0 d gs s h;match vs,rs,gs with
 | [],rs,gs=>have e:rs=[]:=gs;subst e;exact h.elim
 | [v],_,⟨r,rr,e1,g1,g2⟩ =>
  subst e1;rw[show rr=[] from g2]at h
  exact hk H0 B ρ v H' r d0 d g1 s h
 | v :: w :: _,_,⟨r,rr,e1,g1,r2,rr2,e2,g2⟩ =>
  subst e1;subst e2;exact h.elim
variable {x:Str}{p:Pos}
theorem fS (hg:Gl X "len")(hm:X.mg "len" = none)(ha:PE X a (tE X.K P f))(he:starEach [a] X.env=[(false,eval a X.env)]:=by rfl):PE X (.Call (.Name "len" p) [a] [] pos) (tE X.K P (hJ f)):=by
 refine PE.imp (gV tQ hg hm PySem.boot_len (aA ha aB he) (he:=he)) ?_
 intro σ H Q h;refine lO h ?_
 intro H0 B ρ v H' r d0 d g s h;cases e:asS r.d with
 | stk=>simp[e]at h
 | exc x=>exact(iK e).elim
 | ok ds =>
  simp only[e,R.ok_bind]at h;obtain⟨a,xs,h1,h2,h3⟩:=g.seq e;exact⟨a,xs,by rw[h1],h2.imp .inl fun z=>.inl (.inl z),h _ H' (aG.refl _) (by rw[h3.length];exact aM.sc (show Rep _ _ (.int _) _ from rfl))⟩
theorem aIk (hg:Gl X "list")(hm:X.mg "list" = none)(ha:PE X a (tE X.K P f))(he:starEach [a] X.env=[(false,eval a X.env)]:=by rfl):PE X (.Call (.Name "list" p) [a] [] pos) (tE X.K P (aLp f)):=by
 refine PE.imp (fK sZ hg hm (by decide +kernel) (aA ha aB he) (he:=he)) ?_
 intro σ H Q h;refine lO h ?_
 intro H0 B ρ v H' r d0 d g s h;cases e:asS r.d with
 | stk=>simp[e]at h
 | exc x=>exact(iK e).elim
 | ok ds =>
  simp only[e,R.ok_bind]at h;obtain⟨a,xs,h1,h2,h3⟩:=g.seq e;exact⟨a,xs,by rw[h1],h2.imp .inl fun z=>.inl (.inl z),fun l hl=>h _ _ (aG.upd_new hl) (fX d s hl h3)⟩
theorem aIo (hg:Gl X "tuple")(hm:X.mg "tuple" = none)(ha:PE X a (tE X.K P f))(he:starEach [a] X.env=[(false,eval a X.env)]:=by rfl):PE X (.Call (.Name "tuple" p) [a] [] pos) (tE X.K P (aLh f)):=by
 refine PE.imp (fK qM hg hm (by decide +kernel) (aA ha aB he) (he:=he)) ?_
 intro σ H Q h;refine lO h ?_
 intro H0 B ρ v H' r d0 d g s h;cases e:asS r.d with
 | stk=>simp[e]at h
 | exc x=>exact(iK e).elim
 | ok ds =>
  simp only[e,R.ok_bind]at h;rcases xE e with e' | e'
  · obtain⟨a,xs,h1,h2,h3⟩:=g.list e'
    exact⟨a,xs,by rw[h1],.inl ⟨.inl h2,fun l hl=>h _ _ (aG.upd_new hl) (jS d hl h3)⟩⟩
  · obtain⟨a,xs,h1,h2,h3⟩:=g.tuple e'
    have:=g.shr_of (by rw[e'];rfl)
    rw[e',h1]at this;exact⟨a,xs,by rw[h1],.inr ⟨.inl (.inl h2),h _ H' (aG.refl _) this⟩⟩
theorem aAa {K:PySem.W.Frag}{G:Hp}{ds:List D}{xs:List V}{j:Int}{d:D}(r:aI K G ds xs)(e:atI ds j=some d):∃ v,atI xs j=some v/\Rep K G d v:=by
 unfold atI at e ⊢;rw[←r.length];cases q:ixN ds.length j with
 | none=>rw[q]at e;cases e
 | some n=>rw[q]at e;exact r.get e
theorem aNo {σ:St}{H:Hp}{Q:VK}(h:tE X.K P (cO f g) σ H Q):tOp (fun x y H Q=>aGp X.K x y H Q\/aFy X.K x y H Q) (tE X.K P f) (tE X.K P g) σ H Q:=by
 refine t2 (q:=fun x y H2=>aGp X.K x y H2 Q\/aFy X.K x y H2 Q) h ?_
 intro H0 B ρ v w H' r r' d g1 g2 s h;cases e1:asS r.d with
 | stk=>simp[e1]at h
 | exc x=>exact(iK e1).elim
 | ok ds =>
  cases e2:asI r'.d with
  | stk=>simp[e1,e2]at h
  | exc x=>exact(bP e2).elim
  | ok j =>
   simp only[e1,e2,R.ok_bind]at h;cases e3:atI ds j with
   | none=>rw[e3]at h;exact h.elim
   | some dd =>
    rw[e3]at h;rcases xE e1 with e | e
    · obtain⟨a,xs,h1,h2,h3⟩:=g1.list e
      obtain⟨z,z1,z2⟩:=aAa h3 e3;exact .inl ⟨a,xs,j,z,h1,g2.int (bX e2),.inl h2,z1,h z H' (aG.refl _) (Rep.fr d.sam z2)⟩
    · obtain⟨a,xs,h1,h2,h3⟩:=g1.tuple e
      obtain⟨z,z1,z2⟩:=aAa h3 e3;exact .inr ⟨a,xs,j,z,h1,g2.int (bX e2),.inl (.inl h2),z1,h z H' (aG.refl _) (Rep.fr d.sam z2)⟩
theorem aKy:IxR X (fun x y H Q=>aGp X.K x y H Q\/aFy X.K x y H Q):=by
 intro value slice pins s σ H x y v u Q I rx ry h hs;rcases h with h | h
 · exact aHh value slice pins s σ H x y v u Q I rx ry h hs
 · exact aJ9 value slice pins s σ H x y v u Q I rx ry h hs
theorem cA (ha:PE X a (tE X.K P f))(hb:PE X b (tE X.K P g))(hs:yN b:=by exact fun _ _=>rfl):PE X (.Subscript a b pos) (tE X.K P (cO f g)):=PE.imp (aMo aKy ha hb hs) fun σ H Q h=>aNo h
theorem Inv.rdL {pins:List (Addr×Obj)}{σ:St}{H:Hp}{s:Shared}{l:Addr}{xs:List V}(I:Inv X pins σ H s)(h:Rd H l (.lst xs)):xs.length<=sizeLine/\∃ (its:List Value) (n:Nat),bC xs its/\s.heap.get? l=some { cls:=.type "list",data:=.seq its.toArray n }:=h.ok I.hok
def aIe:R2:=fun x y H Q=>∃ l b xs zs,x=.ref l/\y=.ref b/\Rd H l (.lst xs)/\Rd H b (.lst zs)/\xs.length+zs.length<=sizeLine/\∀ p,H p=none->Q (.ref p) (upd H p (.lst (xs++zs)))
theorem aGw:OpR X (binaryOp .Add) aIe:=by
 intro pins s σ H x y v u Q I rx ry h;obtain⟨l,b,xs,zs,rfl,rfl,hH,hB,hz,q⟩:=h;cases rx;cases ry;obtain⟨z,its,n,r,e⟩:=Inv.rdL I hH;obtain⟨z2,its2,n2,r2,e2⟩:=Inv.rdL I hB;have hl:=r.length;have hl2:=r2.length;refine PySem.P.add_list e e2 ?_ (by rw[Ac,Ac];omega)
 have ea:its.toArray++its2.toArray=(its++its2).toArray:=by simp
 rw[ea];exact⟨.ref _,_,I.lnew (t':=s.toks) (r.append r2) (by rw[Cc];omega),rfl,q _ I.fresh⟩
theorem aI.andL {K:PySem.W.Frag}{H0 H:Hp}{B:Addr->Prop}{fr fr':Bool}{ds:List D}{vs:List V}(h:aI K (aX fr H0 H B) ds vs):aI K (aX (fr&&fr') H0 H B) ds vs:=by
 cases fr' with
 | true=>simpa using h
 | false=>simp;exact aI.same gW h
theorem aI.andR {K:PySem.W.Frag}{H0 H:Hp}{B:Addr->Prop}{fr fr':Bool}{ds:List D}{vs:List V}(h:aI K (aX fr' H0 H B) ds vs):aI K (aX (fr&&fr') H0 H B) ds vs:=by
 cases fr with
 | true=>simpa using h
 | false=>simp;exact aI.same gW h
theorem kL (ha:PE X a (tE X.K P f))(hb:PE X b (tE X.K P g)):PE X (.BinOp a .Add b pos) (tE X.K P (pU f g)):=by
 refine PE.imp (zG aGw ha hb) ?_
 intro σ H Q h;refine t2 (q:=fun x y H2=>aIe x y H2 Q) h ?_
 intro H0 B ρ v w H' r r' d g1 g2 s h;cases e1:asL r.d with
 | stk=>simp[e1]at h
 | exc x=>exact(dD e1).elim
 | ok xs =>
  cases e2:asL r'.d with
  | stk=>simp[e1,e2]at h
  | exc x=>exact(dD e2).elim
  | ok ys =>
   simp only[e1,e2,R.ok_bind]at h;obtain⟨a1,xs1,h1,h2,h3⟩:=g1.list (cX e1);obtain⟨a2,xs2,k1,k2,k3⟩:=g2.list (cX e2);by_cases hz:xs.length+ys.length<=sizeLine
   · rw[if_pos hz]at h
     exact⟨a1,a2,xs1,xs2,h1,k1,h2,k2,by rw[←h3.length,←k3.length];exact hz,fun p hp=>h _ _ (aG.upd_new hp) (fX d s hp (h3.andL.append k3.andR))⟩
   · rw[if_neg hz]at h;exact h.elim
def tO (K:PySem.W.Frag)(P:XP)(f:FO):TO:=fun σ H Q=>∃ H0 B ρ,DenE K H0 H B σ ρ/\match f ρ with
 | .ok o=>∀ H',aG H H'->Q o H'
 | .exc x=>P.p x σ H
 | .stk=>False
theorem PO.imp {e:Option Expr}{t t':TO}(p:PO X e t)(h:∀ σ H Q,t' σ H Q->t σ H Q):PO X e t':=fun pins s σ H Q I q=>p pins s σ H Q I (h σ H Q q)
theorem jE:PO X none (tO X.K P noO):=PO.imp aG2 fun σ H Q ⟨H0,B,ρ,d,h⟩=>h H (aG.refl H)
theorem gX (ha:PE X a (tE X.K P f)):PO X (some a) (tO X.K P (soO f)):=by
 refine PO.imp (aH2 ha) ?_
 rintro σ H Q ⟨H0,B,ρ,d,h⟩
 unfold soO at h;show tE X.K P f σ H fun x H1=>∃ i,x=.int i/\Q (some i) H1
 cases e:f ρ with
 | stk=>simp[e]at h
 | exc x=>simp[e]at h;exact bV d e h
 | ok r =>
  cases e1:asI r.d with
  | stk=>simp[e,e1]at h
  | exc x=>exact(bP e1).elim
  | ok i =>
   simp only[e,e1,R.ok_bind]at h;exact cW d e fun v H' s d' g'=>⟨i,g'.int (bX e1),h H' s⟩
theorem pM {lo hi:Option Expr}{fl fh:FO}{p2:Pos}(ha:PE X a (tE X.K P f))(hl:PO X lo (tO X.K P fl))(hh:PO X hi (tO X.K P fh)):PE X (.Subscript a (.Slice lo hi none p2) pos) (tE X.K P (sX f fl fh)):=by
 refine PE.imp (pP aF3 ha hl hh) ?_
 rintro σ H Q ⟨H0,B,ρ,d,h⟩
 unfold sX at h;show tE X.K P f σ H fun x H1=>tO X.K P fl σ H1 fun l H2=>tO X.K P fh σ H2 fun u H3=>aN0 X.K x l u H3 Q
 cases e:f ρ with
 | stk=>simp[e]at h
 | exc x=>simp[e]at h;exact bV d e h
 | ok r =>
  simp only[e,R.ok_bind]at h;refine cW d e fun v H1 s1 d1 g1=>⟨H0,B,ρ,d1,?_⟩
  cases e1:fl ρ with
  | stk=>simp[e1]at h
  | exc x=>simp[e1]at h;exact P.mono h s1
  | ok l =>
   simp only[e1,R.ok_bind]at h;intro H2 s2;refine⟨H0,B,ρ,d1.mono s2,?_⟩
   cases e2:fh ρ with
   | stk=>simp[e2]at h
   | exc x=>simp[e2]at h;exact P.mono h (s1.trans s2)
   | ok u =>
    simp only[e2,R.ok_bind]at h;intro H3 s3;cases e3:asL r.d with
    | stk=>simp[e3]at h
    | exc x=>exact(dD e3).elim
    | ok ds =>
     simp only[e3,R.ok_bind]at h;obtain⟨a1,xs,h1,h2,h3⟩:=(g1.mono (s2.trans s3)).list (cX e3);have s:=(s1.trans s2).trans s3;refine⟨a1,xs,h1,.inl h2,fun p hp=>h _ _ (s.trans (aG.upd_new hp)) ?_⟩
     have q:aI X.K (aX r.fr H0 H3 B) (nQ ds l u) (mQ xs l u):=by
      unfold nQ mQ;rw[←h3.length];exact(h3.drop _).take _
     exact fX (d.mono s) s hp q
theorem aNi {rest:List Expr}(ha:PE X a (tE X.K P f))(hb:PE X (.BoolOp .And (b :: rest) pos) (tE X.K P g)):PE X (.BoolOp .And (a :: b :: rest) pos) (tE X.K P (yC f g)):=by
 refine PE.imp (aJ7 ha hb) ?_
 rintro σ H Q ⟨H0,B,ρ,d,h⟩
 unfold yC at h;show tE X.K P f σ H fun x H1=>∃ c,x=.bl c/\if c=true then tE X.K P g σ H1 Q else Q (.bl false) H1
 cases e:f ρ with
 | stk=>simp[e]at h
 | exc x=>simp[e]at h;exact bV d e h
 | ok r =>
  cases e1:asB r.d with
  | stk=>simp[e,e1]at h
  | exc x=>exact(yW e1).elim
  | ok t =>
   simp only[e,e1,R.ok_bind]at h;refine cW d e fun v H1 s1 d1 g1=>⟨t,g1.bl (aFh e1),?_⟩
   cases t with
   | false=>exact aE0 (h _ H1 s1 (aM.sc (show Rep _ _ (.bl false) _ from rfl)))
   | true =>
    refine aDu ⟨H0,B,ρ,d1,?_⟩
    rw[if_pos rfl]at h;cases e2:g ρ with
    | stk=>rw[e2]at h;exact h
    | exc x=>rw[e2]at h;exact P.mono h s1
    | ok r2=>rw[e2]at h;exact fun v2 H2 s2 g2=>h v2 H2 (s1.trans s2) (g2.old s1)
theorem aMi {op}(h:PE X a (tE X.K P f)):PE X (.BoolOp op [a] pos) (tE X.K P f):=aI3 h
theorem aL7 {t:FT}(hc:PT X c (tT X.K P t))(ha:PE X a (tE X.K P f))(hb:PE X b (tE X.K P g)):PE X (.IfExp c a b pos) (tE X.K P (ifE t f g)):=by
 refine PE.imp (aCe hc ha hb) ?_
 rintro σ H Q ⟨H0,B,ρ,d,h⟩
 unfold ifE at h;show tT X.K P t σ H fun c H1=>if c=true then tE X.K P f σ H1 Q else tE X.K P g σ H1 Q
 refine⟨H0,B,ρ,d,?_⟩
 cases e:t ρ with
 | stk=>simp[e]at h
 | exc x=>simp[e]at h;exact h
 | ok k =>
  simp only[e,R.ok_bind]at h;intro H1 s1
  have fin:∀ {F:FE},(match F ρ with
   | .ok r=>∀ v H',aG H H'->aM X.K H0 H H' B v r->Q v H'
   | .exc x=>P.p x σ H
   | .stk=>False)->tE X.K P F σ H1 Q:=fun {F} h=>by
   refine⟨H0,B,ρ,d.mono s1,?_⟩
   cases e2:F ρ with
   | stk=>rw[e2]at h;exact h
   | exc x=>rw[e2]at h;exact P.mono h s1
   | ok r2=>rw[e2]at h;exact fun v2 H2 s2 g2=>h v2 H2 (s1.trans s2) (g2.old s1)
  cases k with
  | true=>exact aDu (fin h)
  | false=>exact aE0 (fin h)
end Mir
namespace Mir
open PySem L2
variable {X:Cx}{P:XP}{a b c e:Expr}{es:List Expr}{f g:FE}{fs:FEs}{pos:Pos}
def nU (K:PySem.W.Frag)(H0 H':Hp)(B:Addr->Prop)(J:It)(w:Its):Prop:=∃ A:Addr->Prop,(w.st=true->∀ a,A a->¬ B a) /\
 ∀ (H2:Hp) (B2:Addr->Prop),(∀ a o,A a->H' a=some o->H2 a=some o)->(∀ b o,H' b=some o->¬ B b->H2 b=some o)->(∀ b,B2 b->B b\/H' b=none)->(∀ b,B2 b->∃ o,H2 b=some o)->aG H0 H2->∀ i,
  (w.ds.length<=i->J.stop i H2)/\∀ d,w.ds[i]?=some d->J.go i H2/\∀ x H3,J.yld i H2 x H3->aG H2 H3/\Rep K (aX w.fr H0 H3 B2) d x
def tI (K:PySem.W.Frag)(P:XP)(f:FI):TI:=fun σ H Rq=>∃ H0 B ρ,DenE K H0 H B σ ρ/\match f ρ with
 | .ok w=>∀ J H',aG H H'->nU K H0 H' B J w->Rq J H'
 | .exc x=>P.p x σ H
 | .stk=>False
theorem PI.imp {tg:Expr}{t t':TI}(p:PI X tg e t)(h:∀ σ H Rq,t' σ H Rq->t σ H Rq):PI X tg e t':=fun pins s σ H Rq I q=>p pins s σ H Rq I (h σ H Rq q)
theorem aM.notB {K:PySem.W.Frag}{H0 H H':Hp}{B:Addr->Prop}{v:V}{r:Res}{σ:St}{ρ:Env}{ds:List D}{a:Addr}(den:DenE K H0 H B σ ρ)(g:aM K H0 H H' B v r)(e:r.d=.lst ds)(hv:v=.ref a)(hk:(r.k != .own)=true):¬ B a:=by
 unfold aM at g;cases k:r.k with
 | shr =>
  rw[k,e,hv]at g;obtain⟨a',xs,h1,h2,h3⟩:=g;cases h1;rcases h2 with h | ⟨o,h⟩
  · exact fun z=>(aR.mp h).1 (.inl z)
  · exact fun z=>(aR.mp h).1 (.inl z)
 | own=>rw[k]at hk;cases hk
 | old=>rw[k]at g;exact g.elim
 | tmp =>
  rw[k,hv]at g;obtain⟨a',o',h1,h2,_⟩:=g;cases h1;intro z;obtain⟨o,q,_⟩:=den.bnd a z;rw[h2]at q;cases q
theorem lK {H H2:Hp}{a:Addr}{u:HO}(h:Rd H a u)(k:∀ o,H a=some o->H2 a=some o):Rd H2 a u:=by
 rcases h with h | ⟨o,h⟩
 · exact .inl (k _ h)
 · exact .inr ⟨o,k _ h⟩
theorem aCd {K:PySem.W.Frag}{H0 H':Hp}{B:Addr->Prop}{a:Addr}{xs:List V}{ds:List D}{st fr:Bool}(hs:st=true->¬ B a)(h2:Rd H' a (.lst xs))(h3:aI K (aX fr H0 H' B) ds xs):nU K H0 H' B (Itl K a) ⟨st,fr,ds⟩:=by
 refine⟨fun b=>b=a,fun h b z=>by rw[z];exact hs h,fun H2 B2 k1 k2 k3 k4 k5 i=>?_⟩
 have q:SqL K H2 a xs:=.inl (lK h2 fun o=>k1 a o rfl);refine⟨fun hi=>⟨xs,q,by rw[←h3.length];exact hi⟩,fun d hd=>?_⟩
 obtain⟨v,hv,rv⟩:=h3.get hd;refine⟨⟨xs,v,q,hv⟩,fun x H3 y=>?_⟩
 obtain⟨e,y⟩:=y;subst e;have:=y xs q
 rw[hv]at this;cases this;exact⟨aG.refl _,Rep.same (aO k2 k3) rv⟩
theorem aE9 {K:PySem.W.Frag}{H0 H':Hp}{B:Addr->Prop}{a:Addr}{xs:List V}{ds:List D}{fr:Bool}(hs:¬ B a)(h2:H' a=some (.tup xs))(h3:aI K (aX fr H0 H' B) ds xs):nU K H0 H' B (Itt K a) ⟨true,fr,ds⟩:=by
 refine⟨fun b=>b=a,fun h b z=>by rw[z];exact hs,fun H2 B2 k1 k2 k3 k4 k5 i=>?_⟩
 have q:SqT K H2 a xs:=.inl (.inl (k1 a _ rfl h2));refine⟨fun hi=>⟨xs,q,by rw[←h3.length];exact hi⟩,fun d hd=>?_⟩
 obtain⟨v,hv,rv⟩:=h3.get hd;refine⟨⟨xs,v,q,hv⟩,fun x H3 y=>?_⟩
 obtain⟨e,y⟩:=y;subst e;have:=y xs q
 rw[hv]at this;cases this;exact⟨aG.refl _,Rep.same (aO k2 k3) rv⟩
theorem vJ {K:PySem.W.Frag}{H0 H':Hp}{B:Addr->Prop}{lo:Int}{n:Nat}:nU K H0 H' B (Itr lo n) ⟨true,true,lA lo n⟩:=by
 refine⟨fun _=>False,fun _ _ z=>z.elim,fun H2 B2 _ _ _ _ _ i=>⟨fun hi=>?_,fun d hd=>?_⟩⟩
 · show n<=i
   simpa[lA] using hi
 · unfold lA at hd
   rw[Bb]at hd;cases q:(Bp n)[i]? with
   | none=>rw[q]at hd;cases hd
   | some k =>
    rw[q]at hd;cases hd;obtain⟨q1,q2⟩:=Af.mp q;have hi:i<n:=by simpa using q1
    have:k=i:=by rw[←q2];simp
    subst this;refine⟨hi,fun x H3 y=>?_⟩
    obtain⟨e1,e2⟩:=y;subst e1;exact⟨aG.refl _,e2⟩
theorem cI {tg:Expr}(ha:PE X a (tE X.K P f)):PI X tg a (tI X.K P (fN f)):=by
 refine PI.imp (aHi ha) ?_
 rintro σ H Rq ⟨H0,B,ρ,d,h⟩
 unfold fN at h;show tE X.K P f σ H fun x H1=>∃ a,x=.ref a/\(∃ xs,SqL X.K H1 a xs)/\Rq (Itl X.K a) H1
 cases e:f ρ with
 | stk=>simp[e]at h
 | exc x=>simp[e]at h;exact bV d e h
 | ok r =>
  cases e1:asL r.d with
  | stk=>simp[e,e1]at h
  | exc x=>exact(dD e1).elim
  | ok ds =>
   simp only[e,e1,R.ok_bind]at h;refine cW d e fun v H' s d' g'=>?_
   obtain⟨a,xs,h1,h2,h3⟩:=g'.list (cX e1);exact⟨a,h1,⟨xs,.inl h2⟩,h _ H' s (aCd (fun hk=>g'.notB d (cX e1) h1 hk) h2 h3)⟩
theorem aKv {tg:Expr}(ha:PE X a (tE X.K P f)):PI X tg a (tI X.K P (aJg f)):=by
 refine PI.imp (aL3 ha) ?_
 rintro σ H Rq ⟨H0,B,ρ,d,h⟩
 unfold aJg at h;show tE X.K P f σ H fun x H1=>∃ a,x=.ref a/\(∃ xs,SqT X.K H1 a xs)/\Rq (Itt X.K a) H1
 cases e:f ρ with
 | stk=>simp[e]at h
 | exc x=>simp[e]at h;exact bV d e h
 | ok r =>
  simp only[e,R.ok_bind]at h;cases e1:r.d with
  | tup ds =>
   simp only[e1]at h;refine cW d e fun v H' s d' g'=>?_
   obtain⟨a,xs,h1,h2,h3⟩:=g'.tuple e1
   have nB:¬ B a:=by
    have:=g'.shr_of (by rw[e1];rfl)
    rw[e1,h1]at this;obtain⟨a',xs',q1,q2,_⟩:=this;cases q1;exact fun z=>(aR.mp q2).1 (.inl z)
   exact⟨a,h1,⟨xs,.inl (.inl h2)⟩,h _ H' s (aE9 nB h2 h3)⟩
  | _=>simp[e1]at h
variable {p:Pos}
theorem aBi {k:List Res->R Its}{σ:St}{H:Hp}{Rq:It->Hp->Prop}{q:List V->Hp->Prop}(h:tI X.K P (fun ρ=>evs fs ρ >>= k) σ H Rq)
 (hk:∀ H0 B ρ vs H' rs,DenE X.K H0 H B σ ρ->DenE X.K H0 H' B σ ρ->cZ X.K H0 H H' B vs rs->aG H H'->(match k rs with
  | .ok w=>∀ J H1,aG H' H1->nU X.K H0 H1 B J w->Rq J H1
  | .exc x=>P.p x σ H'
  | .stk=>False)->q vs H'):tAs X.K P fs σ H q:=by
 obtain⟨H0,B,ρ,d,h⟩:=h;refine⟨H0,B,ρ,d,?_⟩
 cases e:evs fs ρ with
 | stk=>simp[e]at h
 | exc x=>simp[e]at h;exact h
 | ok rs =>
  simp only[e,R.ok_bind]at h;intro vs H' s gs;refine hk H0 B ρ vs H' rs d (d.mono s) gs s ?_
  cases e2:k rs with
  | stk=>rw[e2]at h;exact h
  | exc x=>rw[e2]at h;exact P.mono h s
  | ok r1=>rw[e2]at h;exact fun v1 H1 s1 g1=>h v1 H1 (s.trans s1) g1
theorem gK {tg:Expr}(hg:Gl X "range")(hm:X.mg "range" = none)(ha:PE X a (tE X.K P f))(hs:starEach [a] X.env=[(false,eval a X.env)]:=by rfl):PI X tg (.Call (.Name "range" p) [a] [] pos) (tI X.K P (iM f)):=by
 refine PI.imp (aBa hg hm (aA ha aB hs) hs) ?_
 intro σ H Rq h;show tAs X.K P [f] σ H fun vs H1=>∃ j:Int,vs=[.int j]/\-(2^62)<=j/\j<2^62/\Rq (Itr 0 j.toNat) H1
 have e:iM f=fun ρ=>evs [f] ρ >>= fun rs=>match rs with | [x]=>(asI x.d >>= fun j=>if -(2^62)<=j/\j<2^62 then .ok ⟨true,true,lA 0 j.toNat⟩ else .stk) | _=>.stk:=by
  funext ρ
  unfold iM evs;cases f ρ with
  | ok r=>rfl
  | _=>rfl
 rw[e]at h;refine aBi h ?_
 intro H0 B ρ vs H' rs d0 d gs s h;match vs,rs,gs with
 | [],rs,gs=>have e:rs=[]:=gs;subst e;exact h.elim
 | [v],_,⟨r,rr,e1,g1,g2⟩ =>
  subst e1;rw[show rr=[] from g2]at h
  cases e2:asI r.d with
  | stk=>simp[e2]at h
  | exc x=>exact(bP e2).elim
  | ok j =>
   simp only[e2,R.ok_bind]at h;by_cases hj:-(2^62)<=j/\j<2^62
   · rw[if_pos hj]at h
     exact⟨j,by rw[g1.int (bX e2)],hj.1,hj.2,h _ H' (aG.refl _) vJ⟩
   · rw[if_neg hj]at h;exact h.elim
 | v :: w :: _,_,⟨r,rr,e1,g1,r2,rr2,e2,g2⟩ =>
  subst e1;subst e2;exact h.elim
theorem two {k:Res->Res->R Its}{F:FI}(hF:F=fun ρ=>f ρ >>= fun x=>g ρ >>= fun y=>k x y){σ:St}{H:Hp}{Rq:It->Hp->Prop}{q:List V->Hp->Prop}(h:tI X.K P F σ H Rq)
 (hk:∀ H0 B ρ v w H' r r',DenE X.K H0 H B σ ρ->DenE X.K H0 H' B σ ρ->aM X.K H0 H H' B v r->aM X.K H0 H H' B w r'->aG H H'->(match k r r' with
  | .ok w=>∀ J H1,aG H' H1->nU X.K H0 H1 B J w->Rq J H1
  | .exc x=>P.p x σ H'
  | .stk=>False)->q [v,w] H'):tAs X.K P [f,g] σ H q:=by
 have e:F=fun ρ=>evs [f,g] ρ >>= fun rs=>match rs with | [x,y]=>k x y | _=>.stk:=by
  rw[hF];funext ρ
  unfold evs evs;cases f ρ with
  | ok r =>
   show (g ρ >>= fun y=>k r y)=_
   cases g ρ with
   | ok r'=>rfl
   | _=>rfl
  | _=>rfl
 rw[e]at h;refine aBi h ?_
 intro H0 B ρ vs H' rs d0 d gs s h;match vs,rs,gs with
 | [],rs,gs=>have e:rs=[]:=gs;subst e;exact h.elim
 | [v],_,⟨r,rr,e1,g1,g2⟩ =>
  subst e1;rw[show rr=[] from g2]at h
  exact h.elim
 | [v,w],_,⟨r,rr,e1,g1,r2,rr2,e2,g2,g3⟩ =>
  subst e1;subst e2;rw[show rr2=[] from g3]at h
  exact hk H0 B ρ v w H' r r2 d0 d g1 g2 s h
 | _ :: _ :: _ :: _,_,⟨r,rr,e1,g1,r2,rr2,e2,g2,r3,rr3,e3,_⟩ =>
  subst e1;subst e2;subst e3;exact h.elim
theorem tP {tg:Expr}(hg:Gl X "range")(hm:X.mg "range" = none)(ha:PE X a (tE X.K P f))(hb:PE X b (tE X.K P g))(hs:starEach [a,b] X.env=[(false,eval a X.env),(false,eval b X.env)]:=by rfl)(hs2:starEach [b] X.env=[(false,eval b X.env)]:=by rfl) :
 PI X tg (.Call (.Name "range" p) [a,b] [] pos) (tI X.K P (zV f g)):=by
 refine PI.imp (aB9 hg hm (aA ha (aA hb aB hs2) (by rw[hs,hs2])) hs hs2) ?_
 intro σ H Rq h;refine two rfl h ?_
 intro H0 B ρ v w H' r r' d0 d g1 g2 s h;cases e1:asI r.d with
 | stk=>simp[e1]at h
 | exc x=>exact(bP e1).elim
 | ok i =>
  cases e2:asI r'.d with
  | stk=>simp[e1,e2]at h
  | exc x=>exact(bP e2).elim
  | ok j =>
   simp only[e1,e2,R.ok_bind]at h;by_cases hj:-(2^62)<=i/\i<2^62/\-(2^62)<=j/\j<2^62
   · rw[if_pos hj]at h
     exact⟨i,j,by rw[g1.int (bX e1),g2.int (bX e2)],hj,h _ H' (aG.refl _) vJ⟩
   · rw[if_neg hj]at h;exact h.elim
theorem aDg {K:PySem.W.Frag}{H0 H':Hp}{B:Addr->Prop}{a b:Addr}{xs ys:List V}{ds es:List D}{st fr fr':Bool}(hs:st=true->¬ B a/\¬ B b)(h2:Rd H' a (.lst xs))(k2:Rd H' b (.lst ys))
 (h3:aI K (aX fr H0 H' B) ds xs) (k3:aI K (aX fr' H0 H' B) es ys):nU K H0 H' B (Itz K a b) ⟨st,fr&&fr',xP ds es⟩:=by
 refine⟨fun c=>c=a\/c=b,fun h c z=>by rcases z with z | z<;>rw[z];exact(hs h).1;exact(hs h).2,fun H2 B2 j1 j2 j3 j4 j5 i=>?_⟩
 have q1:SqL K H2 a xs:=.inl (lK h2 fun o=>j1 a o (.inl rfl));have q2:SqL K H2 b ys:=.inl (lK k2 fun o=>j1 b o (.inr rfl));have l1:=h3.length;have l2:=k3.length;refine⟨fun hi=>⟨xs,ys,q1,q2,?_⟩,fun d hd=>?_⟩
 · simp[xP]at hi;omega
 · unfold xP at hd
   rw[List.getElem?_zipWith]at hd;cases e1:ds[i]? with
   | none=>rw[e1]at hd;cases hd
   | some d1 =>
    cases e2:es[i]? with
    | none=>rw[e1,e2]at hd;cases hd
    | some d2 =>
     rw[e1,e2]at hd;cases hd;obtain⟨v,hv,rv⟩:=h3.get e1;obtain⟨w,hw,rw'⟩:=k3.get e2;refine⟨⟨xs,ys,v,w,q1,q2,hv,hw⟩,fun x H3 y=>?_⟩
     obtain⟨t,x1,y1,e3,e4,e5,y2,y3⟩:=y;have z1:=y2 xs q1;have z2:=y3 ys q2;rw[hv]at z1;cases z1;rw[hw]at z2;cases z2;subst e3;subst e5;refine⟨aG.upd_new e4,t,[v,w],rfl,aR.mpr ⟨fun z=>?_,bF⟩,v,[w],rfl,?_,w,[],rfl,?_,rfl⟩
     · rcases z with z | ⟨_,o,z,_⟩
       · obtain⟨o,q⟩:=j4 t z;rw[e4]at q;cases q
       · rw[j5 _ _ z]at e4;cases e4
     · have m:aG (aX fr H0 H' B) (aX fr H0 (upd H2 t (.tup [v,w])) B2):=aO (fun b o q n=>aG.upd_new e4 b o (j2 b o q n)) j3
       have:=(aI.one (Rep.same m rv)).andL (fr':=fr')
       obtain⟨_,_,z1,z2,_⟩:=this;cases z1;exact z2
     · have m:aG (aX fr' H0 H' B) (aX fr' H0 (upd H2 t (.tup [v,w])) B2):=aO (fun b o q n=>aG.upd_new e4 b o (j2 b o q n)) j3
       have:=(aI.one (Rep.same m rw')).andR (fr:=fr)
       obtain⟨_,_,z1,z2,_⟩:=this;cases z1;exact z2
theorem tM {ts:List Expr}{k:Nat}{tp:Pos}(hc:X.calm=true)(hg:Gl X "zip")(hm:X.mg "zip" = none)(ha:PE X a (tE X.K P f))(hb:PE X b (tE X.K P g))(hs:starEach [a,b] X.env=[(false,eval a X.env),(false,eval b X.env)]:=by rfl)(hs2:starEach [b] X.env=[(false,eval b X.env)]:=by rfl) :
 PI X (.Tuple ts k tp) (.Call (.Name "zip" p) [a,b] [] pos) (tI X.K P (aEs f g)):=by
 refine PI.imp (aJo hc hg hm (aA ha (aA hb aB hs2) (by rw[hs,hs2])) hs hs2) ?_
 intro σ H Rq h;refine two rfl h ?_
 intro H0 B ρ v w H' r r' d0 d g1 g2 s h;cases e1:asL r.d with
 | stk=>simp[e1]at h
 | exc x=>exact(dD e1).elim
 | ok xs =>
  cases e2:asL r'.d with
  | stk=>simp[e1,e2]at h
  | exc x=>exact(dD e2).elim
  | ok ys =>
   simp only[e1,e2,R.ok_bind]at h;obtain⟨a1,xs1,h1,h2,h3⟩:=g1.list (cX e1);obtain⟨a2,xs2,k1,k2,k3⟩:=g2.list (cX e2);refine⟨a1,a2,by rw[h1,k1],⟨xs1,.inl h2⟩,⟨xs2,.inl k2⟩,h _ H' (aG.refl _) (aDg (fun hk=>?_) h2 k2 h3 k3)⟩
   rw[Bt]at hk;exact⟨g1.notB d0 (cX e1) h1 hk.1,g2.notB d0 (cX e2) k1 hk.2⟩
end Mir
namespace Mir
open PySem L2
variable {X:Cx}{P:XP}{a b c e:Expr}{es:List Expr}{f g:FE}{fs:FEs}{pos:Pos}
mutual
def gOf (K:PySem.W.Frag):Tg->TG
 | .nm i=>wE i
 | .tp ts=>aFp K ts.length (jJ K ts)
def jJ (K:PySem.W.Frag):List Tg->TGs
 | []=>aH1
 | t :: ts=>yP (gOf K t) (jJ K ts)
end
theorem sE {fr:Bool}:∀ (ts:List Tg) (ds:List D) (ρ ρ':Env),Tg.binds fr ts ds ρ=.ok ρ'->ds.length=ts.length
 | [],ds,ρ,ρ',e=>by
  cases ds with
  | nil=>rfl
  | cons d ds=>simp[Tg.binds]at e
 | t :: ts,ds,ρ,ρ',e=>by
  cases ds with
  | nil=>simp[Tg.binds]at e
  | cons d ds =>
   simp only[Tg.binds]at e;cases e1:Tg.bind fr t d ρ with
   | stk=>simp[e1]at e
   | exc x=>simp[e1]at e
   | ok ρ1 =>
    simp only[e1,R.ok_bind]at e;simp[sE ts ds ρ1 ρ' e]
section
variable {K:PySem.W.Frag}{G H:Hp}{fr:Bool}{I:St->Env->Prop}
mutual
theorem tZ (sub:aG G H)(hI:∀ σ ρ i d v,I σ ρ->Rep K G d v->I (σ.set i (some v)) (ρ.set i (some ⟨.shr,fr,d⟩))):∀ (t:Tg) (d:D) (v:V) (σ:St) (ρ ρ':Env) (Q:St->Hp->Prop),Tg.bind fr t d ρ=.ok ρ'->Rep K G d v->I σ ρ->(∀ σ',I σ' ρ'->Q σ' H)->gOf K t v σ H Q
 | .nm i,d,v,σ,ρ,ρ',Q,e,r,i0,q=>by
  unfold gOf;simp only[Tg.bind]at e;cases e;exact q _ (hI σ ρ i d v i0 r)
 | .tp ts,d,v,σ,ρ,ρ',Q,e,r,i0,q=>by
  unfold gOf;cases d with
  | tup ds =>
   simp only[Tg.bind]at e;obtain⟨a,xs,h1,h2,h3⟩:=r;have:=vG sub hI ts ds xs σ ρ ρ' Q e h3 i0 q
   exact⟨a,xs,h1,.inl (.inl (sub _ _ h2)),by rw[←h3.length];exact this.2,this.1⟩
  | _=>simp[Tg.bind]at e
theorem vG (sub:aG G H)(hI:∀ σ ρ i d v,I σ ρ->Rep K G d v->I (σ.set i (some v)) (ρ.set i (some ⟨.shr,fr,d⟩))):∀ (ts:List Tg) (ds:List D) (vs:List V) (σ:St) (ρ ρ':Env) (Q:St->Hp->Prop),Tg.binds fr ts ds ρ=.ok ρ'->aI K G ds vs->I σ ρ->(∀ σ',I σ' ρ'->Q σ' H)->jJ K ts vs σ H Q/\ds.length=ts.length
 | [],ds,vs,σ,ρ,ρ',Q,e,r,i0,q=>by
  cases ds with
  | nil =>
   simp only[Tg.binds]at e;cases e;exact⟨by unfold jJ;exact⟨r,q σ i0⟩,rfl⟩
  | cons d ds=>simp[Tg.binds]at e
 | t :: ts,ds,vs,σ,ρ,ρ',Q,e,r,i0,q=>by
  cases ds with
  | nil=>simp[Tg.binds]at e
  | cons d ds =>
   simp only[Tg.binds]at e;obtain⟨x,xr,h1,h2,h3⟩:=r;cases e1:Tg.bind fr t d ρ with
   | stk=>simp[e1]at e
   | exc x=>simp[e1]at e
   | ok ρ1 =>
    simp only[e1,R.ok_bind]at e;have len:=sE ts ds ρ1 ρ' e;refine⟨?_,by simp[len]⟩
    unfold jJ;exact⟨x,xr,h1,tZ sub hI t d x σ ρ ρ1 _ e1 h2 i0 fun σ' i1=>(vG sub hI ts ds xr σ' ρ1 ρ' Q e h3 i1 q).1⟩
end
end
theorem mD.to {K:PySem.W.Frag}{H0 H H':Hp}{B B':Addr->Prop}{v:V}{r:Res}(sm:aG H0 H)(g:mD K H0 H B v r)(k:∀ b o,H b=some o->¬ B b->H' b=some o)(ko:∀ b o,H b=some o->B b->r.k=.own->v=.ref b->H' b=some o/\B' b)(h:∀ b,B' b->B b\/H b=none):mD K H0 H' B' v r:=by
 unfold mD at g ⊢;have m:∀ fr,aG (aX fr H0 H B) (aX fr H0 H' B'):=fun fr=>aO k h;cases e:r.k with
 | shr=>rw[e]at g;exact Rep.same (m _) g
 | own =>
  rw[e]at g;obtain⟨a,o,h1,h2,h3,h4,h5⟩:=g;obtain⟨q1,q2⟩:=ko a _ h4 h2 e h1;exact⟨a,o,h1,q2,h3,q1,h5.same (m _)⟩
 | tmp=>rw[e]at g;exact g
 | old=>rw[e]at g;exact⟨g.1,Rep.same (dI (fun _ _ q _=>q) fun b z=>(h b z).imp id fun q=>sm.none q) g.2⟩
theorem DenE.to {K:PySem.W.Frag}{H0 H H':Hp}{B B':Addr->Prop}{σ:St}{ρ:Env}(d:DenE K H0 H B σ ρ)(s:aG H H')(hB:∀ b,B b->B' b)(h:∀ b,B' b->B b\/H b=none)(bnd:∀ b,B' b->∃ o,H' b=some o/\stab o=false):DenE K H0 H' B' σ ρ :=
 ⟨d.len,d.sam.trans s,bnd,fun i e he=>let ⟨v,a,g⟩:=d.ent i e he;⟨v,a,g.to d.sam (fun b o q _=>s b o q) (fun b o q q2 _ _=>⟨s b o q,hB b q2⟩) h⟩⟩
theorem DenE.set {K:PySem.W.Frag}{H0 H:Hp}{B:Addr->Prop}{σ:St}{ρ:Env}{i:Nat}{v:V}{r:Res}(d:DenE K H0 H B σ ρ)(g:mD K H0 H B v r):DenE K H0 H B (σ.set i (some v)) (ρ.set i (some r)):=by
 refine⟨by rw[Ay,Ay];exact d.len,d.sam,d.bnd,fun j e he=>?_⟩
 by_cases hj:i=j
 · subst hj
   by_cases hi:i<ρ.length
   · rw[An hi]at he
     cases he;exact⟨v,An (by rw[←d.len];exact hi),g⟩
   · rw[Cl (by rw[Ay];omega)]at he
     cases he
 · rw[Ah hj]at he
   obtain⟨w,q1,q2⟩:=d.ent j e he;exact⟨w,by rw[Ah hj];exact q1,q2⟩
theorem DenE.comp {K:PySem.W.Frag}{H0 H:Hp}{B:Addr->Prop}{σ:St}{ρ:Env}(d:DenE K H0 H B σ ρ)(k:Nat)(fs:List Nat):DenE K H0 H B (dM k fs σ) (gR k fs ρ):=by
 refine⟨by simp[dM,gR],d.sam,d.bnd,fun i e he=>?_⟩
 unfold gR at he;unfold dM;by_cases hi:i<k
 · rw[Bj (by simpa using hi),Cs,if_pos hi]at he
   cases he
 · rw[Bq (by simpa using hi),Da,Bb]at he
   rw[Bq (by simpa using hi),Da,Bb]
   cases q:fs[i-k]? with
   | none=>rw[q]at he;cases he
   | some j =>
    rw[q]at he;simp only[Option.map_some,Bn.injEq]at he ⊢
    have he':ρ[j]?=some (some e):=by
     cases z:ρ[j]? with
     | none=>rw[z]at he;cases he
     | some y=>rw[z]at he;simp at he;rw[he]
    obtain⟨v,q1,q2⟩:=d.ent j e he';exact⟨v,by rw[q1];rfl,q2⟩
def tBm (K:PySem.W.Frag)(P:XP)(f:FB):St->Hp->(Option V->Hp->Prop)->Prop:=fun σ H Q=>∃ H0 B ρ,DenE K H0 H B σ ρ/\match f ρ with
 | .ok (some r)=>∀ v H',aG H H'->aM K H0 H H' B v r->Q (some v) H'
 | .ok none=>∀ H',aG H H'->Q none H'
 | .exc x=>P.p x σ H
 | .stk=>False
theorem PB.imp {ifs:List Expr}{t t':St->Hp->(Option V->Hp->Prop)->Prop}(p:PB X ifs e t)(h:∀ σ H Q,t' σ H Q->t σ H Q):PB X ifs e t':=fun pins s σ H Q I q=>p pins s σ H Q I (h σ H Q q)
theorem cF (he:PE X e (tE X.K P f)):PB X [] e (tBm X.K P (bE f)):=by
 refine PB.imp (aJk he) ?_
 rintro σ H Q ⟨H0,B,ρ,d,h⟩
 unfold bE at h;show tE X.K P f σ H fun v H'=>Q (some v) H'
 cases e1:f ρ with
 | stk=>simp[e1]at h
 | exc x=>simp[e1]at h;exact bV d e1 h
 | ok r=>simp only[e1,R.ok_bind]at h;exact cW d e1 fun v H' s d' g'=>h v H' s g'
theorem zE {t:FT}(hc:PT X c (tT X.K P t))(he:PE X e (tE X.K P f)):PB X [c] e (tBm X.K P (Mir.bIf t f)):=by
 refine PB.imp (aMp hc he) ?_
 rintro σ H Q ⟨H0,B,ρ,d,h⟩
 unfold Mir.bIf at h;show tT X.K P t σ H fun b H1=>if b=true then tE X.K P f σ H1 fun v H'=>Q (some v) H' else Q none H1
 refine⟨H0,B,ρ,d,?_⟩
 cases e1:t ρ with
 | stk=>simp[e1]at h
 | exc x=>simp[e1]at h;exact h
 | ok k =>
  simp only[e1,R.ok_bind]at h;intro H1 s1;cases k with
  | false=>exact aE0 (h H1 s1)
  | true =>
   refine aDu ⟨H0,B,ρ,d.mono s1,?_⟩
   rw[if_pos rfl]at h;cases e2:f ρ with
   | stk=>simp[e2]at h
   | exc x=>simp[e2]at h;exact P.mono h s1
   | ok r=>simp only[e2,R.ok_bind]at h;exact fun v H' s g'=>h v H' (s1.trans s) (g'.old s1)
theorem vH {fr:Bool}{x:Xc}:∀ (t:Tg) (d:D) (ρ:Env),Tg.bind fr t d ρ=.exc x->False:=by
 have hs:∀ (n:Nat),(∀ (t:Tg) (d:D) (ρ:Env),sizeOf t<=n->Tg.bind fr t d ρ=.exc x->False)/\(∀ (ts:List Tg) (ds:List D) (ρ:Env),sizeOf ts<=n->Tg.binds fr ts ds ρ=.exc x->False):=by
  intro n;induction n with
  | zero =>
   refine⟨fun t d ρ h=>?_,fun ts ds ρ h=>?_⟩
   · cases t<;>simp at h
   · cases ts<;>simp at h
  | succ n ih =>
   refine⟨fun t d ρ h e=>?_,fun ts ds ρ h e=>?_⟩
   · cases t with
     | nm i=>simp[Tg.bind]at e
     | tp ts =>
      cases d with
      | tup ds=>simp only[Tg.bind]at e;exact ih.2 ts ds ρ (by simp at h;omega) e
      | _=>simp[Tg.bind]at e
   · cases ts with
     | nil=>cases ds<;>simp[Tg.binds]at e
     | cons t ts =>
      cases ds with
      | nil=>simp[Tg.binds]at e
      | cons d ds =>
       simp only[Tg.binds]at e;simp at h
       cases e1:Tg.bind fr t d ρ with
       | stk=>simp[e1]at e
       | exc y=>simp[e1]at e;subst e;exact ih.1 t d ρ (by omega) e1
       | ok ρ1=>simp only[e1,R.ok_bind]at e;exact ih.2 ts ds ρ1 (by omega) e
 exact fun t d ρ e=>(hs (sizeOf t)).1 t d ρ (Ad _) e
theorem oW {tg:Tg}{fb:FB}{fr:Bool}{ρ:Env}{x:Xc}:∀ {ds:List D},mS tg fb fr ρ ds=.exc x->False
 | [],e=>by simp[mS]at e
 | d :: r,e=>by
  simp only[mS]at e;cases e1:tg.bind fr d ρ with
  | stk=>simp[e1]at e
  | exc y=>exact vH _ _ _ e1
  | ok ρ1 =>
   simp only[e1,R.ok_bind]at e;cases e2:fb ρ1 with
   | stk=>simp[e2]at e
   | exc y=>simp[e2]at e
   | ok o =>
    cases o with
    | none=>simp only[e2]at e;exact oW e
    | some r' =>
     simp only[e2]at e;cases e3:r'.give with
     | stk=>simp[e3]at e
     | exc y=>unfold Res.give at e3;split at e3<;>cases e3
     | ok z =>
      simp only[e3,R.ok_bind]at e;cases e4:mS tg fb fr ρ r with
      | stk=>simp[e4]at e
      | exc y=>exact oW e4
      | ok z=>simp[e4]at e
theorem aE4 {K:PySem.W.Frag}{H0 H H1:Hp}{B:Addr->Prop}{σ:St}{ρ:Env}{J:It}{w:Its}{k:Nat}{fs:List Nat}{tg:Tg}{fb:FB}{y:Bool×List D}{acc:Addr}{Qf:Hp->Prop}
 (d:DenE K H0 H B σ ρ) (s1:aG H H1) (hw:nU K H0 H1 B J w) (e:mS tg fb w.fr (gR k fs ρ) w.ds=.ok y) (hz:w.ds.length<=sizeLine) (hacc:H1 acc=none)
 (hq:∀ H2,aG H H2->aM K H0 H H2 B (.ref acc) ⟨.tmp,y.1,.lst y.2⟩->Qf H2):uL J k fs (gOf K tg) (tBm K XP0 fb) σ acc Qf H1:=by
 obtain⟨A,hst,hwk⟩:=hw;have hacc0:H acc=none:=s1.none hacc;have nB:¬ B acc:=fun z=>by obtain⟨o,q,_⟩:=d.bnd acc z;rw[hacc0]at q;cases q
 refine⟨fun i m ys H2=>m=w.ds.length-i/\i<=w.ds.length/\ys.length<=i/\aG H1 H2/\H2 acc=some (.lst ys)/\∃ es1 esS frS,y.2=es1++esS/\mS tg fb w.fr (gR k fs ρ) (w.ds.drop i)=.ok (frS,esS)/\(y.1=true->frS=true) /\
  aI K (aX y.1 H0 H2 fun b=>B b\/b=acc) es1 ys,⟨w.ds.length,rfl,Bv _,Ad _,aG.upd_new hacc,bF,[],y.2,y.1,rfl,e,fun h=>h,rfl⟩,?_⟩
 rintro i m ys H2 ⟨hm,hi,hys,s2,ha2,es1,esS,frS,hy,hS,hfr,hR⟩
 refine⟨ha2,?_⟩
 have sH2:=s1.trans s2
 have bnd2:∀ b,(B b\/b=acc)->∃ o,H2 b=some o/\stab o=false:=fun b z=>by
  rcases z with z | z
  · obtain⟨o,q,n⟩:=d.bnd b z
    exact⟨o,sH2 _ _ q,n⟩
  · exact⟨_,by rw[z];exact ha2,rfl⟩
 have cond:∀ b,(B b\/b=acc)->B b\/H1 b=none:=fun b z=>z.imp id fun z=>by rw[z];exact hacc
 have cond0:∀ b,(B b\/b=acc)->B b\/H b=none:=fun b z=>z.imp id fun z=>by rw[z];exact hacc0
 have wk:=hwk H2 (fun b=>B b\/b=acc) (fun a o _ q=>s2 _ _ q) (fun b o q _=>s2 _ _ q) cond (fun b z=>let ⟨o,q,_⟩:=bnd2 b z;⟨o,q⟩) (d.sam.trans sH2) i
 by_cases hlt:i<w.ds.length
 · refine .inr ?_
   have hd:w.ds[i]?=some w.ds[i]:=Al hlt;obtain⟨go,yl⟩:=wk.2 _ hd;refine⟨go,Nat.lt_of_le_of_lt hys (Aj hlt hz),fun x H3 y3=>?_⟩
   obtain⟨s3,rx⟩:=yl x H3 y3;rw[List.drop_eq_getElem_cons hlt]at hS;simp only[mS]at hS
   have den3:DenE K H0 H3 (fun b=>B b\/b=acc) (dM k fs σ) (gR k fs ρ) :=
    (d.to (sH2.trans s3) (fun b z=>.inl z) cond0 fun b z=>let ⟨o,q,n⟩:=bnd2 b z;⟨o,s3 _ _ q,n⟩).comp k fs
   cases e1:tg.bind w.fr w.ds[i] (gR k fs ρ) with
   | stk=>simp[e1]at hS
   | exc x=>simp[e1]at hS
   | ok ρ1 =>
    simp only[e1,R.ok_bind]at hS;refine tZ (G:=aX w.fr H0 H3 fun b=>B b\/b=acc) (fr:=w.fr) (I:=fun σ' ρ'=>DenE K H0 H3 (fun b=>B b\/b=acc) σ' ρ') dJ (fun σ' ρ' i d' v' D r=>D.set r) tg _ x _ _ ρ1 _ e1 rx den3 fun σ4 den4=>?_
    refine⟨H0,_,ρ1,den4,?_⟩
    cases e2:fb ρ1 with
    | stk=>simp[e2]at hS
    | exc x=>simp[e2]at hS
    | ok o =>
     cases o with
     | none =>
      simp only[e2]at hS;intro H5 s5;refine⟨w.ds.length-(i+1),by omega,rfl,hlt,by omega,(s2.trans s3).trans s5,s5 _ _ (s3 _ _ ha2),es1,esS,frS,hy,hS,hfr,aI.same (aO (fun b o q _=>s5 _ _ (s3 _ _ q)) fun b z=>.inl z) hR⟩
     | some r =>
      simp only[e2]at hS;cases e3:r.give with
      | stk=>simp[e3]at hS
      | exc x=>simp[e3]at hS
      | ok r' =>
       simp only[e3,R.ok_bind]at hS;cases e4:mS tg fb w.fr (gR k fs ρ) (w.ds.drop (i+1)) with
       | stk=>simp[e4]at hS
       | exc x=>simp[e4]at hS
       | ok z =>
        simp only[e4,R.ok_bind]at hS;cases hS;intro v H5 s5 g5;obtain⟨q1,q2⟩:=g5.give den4 e3;subst q1;refine⟨s5 _ _ (s3 _ _ ha2),w.ds.length-(i+1),by omega,rfl,hlt,by simp;omega,?_,bF,es1++[r.d],z.2,z.1,by rw[hy];simp,e4,fun h=>?_,?_⟩
        · intro b o q
          rw[aU (aZ q hacc)];exact s5 _ _ (s3 _ _ (s2 _ _ q))
        · have:=hfr h
          simp at this
          exact this.2
        · have m:∀ fr,aG (aX fr H0 H5 fun b=>B b\/b=acc) (aX fr H0 (upd H5 acc (.lst (ys++[v]))) fun b=>B b\/b=acc):=fun fr=>aO (fun b o q n=>by rw[aU (fun z=>n (.inr z))];exact q) fun b z=>.inl z
          have m2:aG (aX y.1 H0 H2 fun b=>B b\/b=acc) (aX y.1 H0 H5 fun b=>B b\/b=acc):=aO (fun b o q _=>s5 _ _ (s3 _ _ q)) fun b z=>.inl z;refine aI.append (aI.same (m _) (aI.same m2 hR)) (aI.one (Rep.same (m _) ?_))
          cases hy1:y.1 with
          | false=>exact Rep.same gW q2
          | true =>
           have:=hfr hy1
           simp at this
           rw[this.1]at q2;exact q2
 · have hi':i=w.ds.length:=by omega
   refine .inl ⟨wk.1 (by omega),hq H2 sH2 ⟨acc,_,rfl,hacc0,ha2,.lst ?_⟩⟩
   rw[List.drop_of_length_le (by omega)]at hS
   simp only[mS]at hS;cases hS;rw[hy,Cy];exact hR
variable {scope:Scope}{N:List Str}{k:Nat}{cs:List Nat}{tg iter elt:Expr}{ifs:List Expr}{t:Tg}{it:FI}{fb:FB}
theorem aDp (σ:St)(H:Hp)(Q:VK)(h:tE X.K P (cC it k cs t fb) σ H Q):aIr (tI X.K P it) k cs (gOf X.K t) (tBm X.K XP0 fb) σ H Q:=by
 obtain⟨H0,B,ρ,d,h⟩:=h;unfold cC at h;refine⟨H0,B,ρ,d,?_⟩
 cases e:it ρ with
 | stk=>simp[e]at h
 | exc x=>simp[e]at h;exact h
 | ok w =>
  simp only[e,R.ok_bind]at h;intro J H1 s1 hw acc hacc;cases e2:mS t fb w.fr (gR k cs ρ) w.ds with
  | stk=>simp[e2]at h
  | exc x=>exact(oW e2).elim
  | ok y =>
   simp only[e2,R.ok_bind]at h;by_cases hz:w.ds.length<=sizeLine
   · rw[if_pos hz]at h
     exact aE4 d s1 hw e2 hz hacc fun H2 s2 g2=>h _ H2 s2 g2
   · rw[if_neg hz]at h;exact h.elim
theorem cJ (hc:X.calm=true)(C:CompOk X scope N k cs)(hi:PI X tg iter (tI X.K P it))(hg:∀ fp s H,PG (cD X scope N fp s H) tg (gOf X.K t))(gl:tG k (gOf X.K t))(hb:∀ fp s H,PB (cD X scope N fp s H) ifs elt (tBm X.K XP0 fb))
 (hs:∀ x,foldedSetIterable iter X.env x=pure x:=by intro _;rfl):PE X (.ListComp elt [⟨tg,iter,ifs,0⟩] scope pos) (tE X.K P (cC it k cs t fb)) :=
 PE.imp (aFu hc C hi hg gl hb hs) aDp
end Mir
namespace Mir
open PySem L2
variable {X:Cx}{P:XP}{a b c e:Expr}{es:List Expr}{f g:FE}{fs:FEs}{pos:Pos}
def eE (σ:St)(ρ:Env)(i:Nat)(a:Addr):Prop:=σ[i]?=some (some (.ref a))/\∃ e,ρ[i]?=some (some e)/\e.k=.own
def iO (σ:St)(ρ:Env)(a:Addr):Prop:=∃ i,eE σ ρ i a
abbrev Bs (T:Addr->Prop)(σ:St)(ρ:Env):Addr->Prop:=fun a=>iO σ ρ a\/T a
structure DenS (K:PySem.W.Frag)(H0 H:Hp)(T:Addr->Prop)(σ:St)(ρ:Env):Prop where
 e:DenE K H0 H (Bs T σ ρ) σ ρ
 sep:∀ a,iO σ ρ a->¬ T a
 dis:∀ i j a,eE σ ρ i a->eE σ ρ j a->i=j
structure Ext (H:Hp)(σ:St)(ρ:Env)(H':Hp)(σ':St)(ρ':Env):Prop where
 kp:∀ b o,H b=some o->¬ iO σ ρ b->H' b=some o
 ow:∀ b,iO σ' ρ' b->iO σ ρ b\/H b=none
section
variable {K:PySem.W.Frag}{H0 H H' H'':Hp}{T:Addr->Prop}{σ σ' σ'':St}{ρ ρ' ρ'':Env}
theorem Ext.refl:Ext H σ ρ H σ ρ:=⟨fun _ _ h _=>h,fun _ h=>.inl h⟩
theorem Ext.trans (x:Ext H σ ρ H' σ' ρ')(y:Ext H' σ' ρ' H'' σ'' ρ''):Ext H σ ρ H'' σ'' ρ'':=by
 refine⟨fun b o h n=>y.kp b o (x.kp b o h n) fun z=>?_,fun b z=>?_⟩
 · rcases x.ow b z with q | q
   · exact n q
   · rw[h]at q;cases q
 · rcases y.ow b z with q | q
   · exact x.ow b q
   · cases e:H b with
     | none=>exact .inr rfl
     | some o =>
      by_cases hb:iO σ ρ b
      · exact .inl hb
      · rw[x.kp b o e hb]at q;cases q
theorem Ext.same (s:aG H H'):Ext H σ ρ H' σ ρ:=⟨fun b o h _=>s b o h,fun _ h=>.inl h⟩
theorem DenS.mono (d:DenS K H0 H T σ ρ)(s:aG H H'):DenS K H0 H' T σ ρ:=⟨d.e.mono s,d.sep,d.dis⟩
theorem eG {i j:Nat}{v:V}{r:Res}{a:Addr}(h:eE (σ.set i (some v)) (ρ.set i (some r)) j a):(j=i/\v=.ref a/\r.k=.own)\/(j≠i/\eE σ ρ j a):=by
 obtain⟨h1,e,h2,h3⟩:=h;by_cases hj:i=j
 · subst hj
   by_cases hi:i<σ.length
   · rw[An hi]at h1
     cases h1;by_cases hr:i<ρ.length
     · rw[An hr]at h2;cases h2
       exact .inl ⟨rfl,rfl,h3⟩
     · rw[Cl (by rw[Ay];omega)]at h2;cases h2
   · rw[Cl (by rw[Ay];omega)]at h1;cases h1
 · rw[Ah hj]at h1 h2
   exact .inr ⟨fun z=>hj z.symm,h1,e,h2,h3⟩
theorem oR {i j:Nat}{v:V}{r:Res}{a:Addr}(h:eE σ ρ j a)(hj:j≠i):eE (σ.set i (some v)) (ρ.set i (some r)) j a:=by
 obtain⟨h1,e,h2,h3⟩:=h;exact⟨by rw[Ah (Ne.symm hj)];exact h1,e,by rw[Ah (Ne.symm hj)];exact h2,h3⟩
theorem DenS.set_shr {i:Nat}{v:V}{fr:Bool}{dd:D}(d:DenS K H0 H T σ ρ)(r:Rep K (aX fr H0 H (Bs T σ ρ)) dd v):DenS K H0 H T (σ.set i (some v)) (ρ.set i (some ⟨.shr,fr,dd⟩))/\∀ a,iO (σ.set i (some v)) (ρ.set i (some ⟨.shr,fr,dd⟩)) a->iO σ ρ a:=by
 have sub:∀ a,iO (σ.set i (some v)) (ρ.set i (some ⟨.shr,fr,dd⟩)) a->iO σ ρ a:=fun a ⟨j,h⟩=>by
  rcases eG h with ⟨_,_,h⟩ | ⟨_,h⟩
  · cases h
  · exact⟨j,h⟩
 have subB:∀ a,Bs T (σ.set i (some v)) (ρ.set i (some ⟨.shr,fr,dd⟩)) a->Bs T σ ρ a:=fun a z=>z.imp (sub a) id;refine⟨⟨⟨by rw[Ay,Ay];exact d.e.len,d.e.sam,fun b z=>d.e.bnd b (subB b z),fun j e he=>?_⟩,fun a z=>d.sep a (sub a z),fun j k a h1 h2=>?_⟩,sub⟩
 · by_cases hj:i=j
   · subst hj
     by_cases hi:i<ρ.length
     · rw[An hi]at he
       cases he;exact⟨v,An (by rw[←d.e.len];exact hi),Rep.same (aO (fun _ _ q _=>q) fun b z=>.inl (subB b z)) r⟩
     · rw[Cl (by rw[Ay];omega)]at he;cases he
   · rw[Ah hj]at he
     obtain⟨w,q1,q2⟩:=d.e.ent j e he;refine⟨w,by rw[Ah hj];exact q1,q2.to d.e.sam (fun _ _ q _=>q) (fun b o q _ k1 k2=>⟨q,.inl ⟨j,oR ⟨by rw[q1,k2],e,he,k1⟩ (fun z=>hj z.symm)⟩⟩) fun b z=>.inl (subB b z)⟩
 · rcases eG h1 with ⟨_,_,h⟩ | ⟨_,h1⟩
   · cases h
   · rcases eG h2 with ⟨_,_,h⟩ | ⟨_,h2⟩
     · cases h
     · exact d.dis j k a h1 h2
theorem DenS.set_con {i:Nat}{a:Addr}{o:HO}{dd:D}{fr:Bool}(d:DenS K H0 H T σ ρ)(s:aG H H')(ha:H a=none)(ha':H' a=some o)(r:hW K (aX fr H0 H' fun b=>Bs T σ ρ b\/b=a) dd o) :
 DenS K H0 H' T (σ.set i (some (.ref a))) (ρ.set i (some ⟨.own,fr,dd⟩))/\Ext H σ ρ H' (σ.set i (some (.ref a))) (ρ.set i (some ⟨.own,fr,dd⟩)):=by
 have sub:∀ b,iO (σ.set i (some (.ref a))) (ρ.set i (some ⟨.own,fr,dd⟩)) b->iO σ ρ b\/b=a:=fun b ⟨j,h⟩=>by
  rcases eG h with ⟨_,h,_⟩ | ⟨_,h⟩
  · cases h;exact .inr rfl
  · exact .inl ⟨j,h⟩
 have subB:∀ b,Bs T (σ.set i (some (.ref a))) (ρ.set i (some ⟨.own,fr,dd⟩)) b->Bs T σ ρ b\/b=a:=fun b z=>by
  rcases z with z | z
  · exact(sub b z).imp .inl id
  · exact .inl (.inr z)
 have subH:∀ b,Bs T (σ.set i (some (.ref a))) (ρ.set i (some ⟨.own,fr,dd⟩)) b->Bs T σ ρ b\/H b=none:=fun b z=>(subB b z).imp id fun z=>by rw[z];exact ha
 have nB:∀ b,Bs T σ ρ b->b≠a:=fun b z q=>by obtain⟨o,w,_⟩:=d.e.bnd b z;rw[q,ha]at w;cases w
 refine⟨⟨⟨by rw[Ay,Ay];exact d.e.len,d.e.sam.trans s,fun b z=>?_,fun j e he=>?_⟩,fun b z=>?_,fun j k b h1 h2=>?_⟩,fun b o h _=>s b o h,fun b z=>(sub b z).imp id fun z=>by rw[z];exact ha⟩
 · rcases subB b z with z | z
   · obtain⟨o,w,n⟩:=d.e.bnd b z;exact⟨o,s _ _ w,n⟩
   · exact⟨_,by rw[z];exact ha',r.stab⟩
 · by_cases hj:i=j
   · subst hj
     by_cases hi:i<ρ.length
     · rw[An hi]at he
       cases he;have hσ:(σ.set i (some (V.ref a)))[i]?=some (some (V.ref a)):=An (by rw[←d.e.len];exact hi)
       refine⟨.ref a,hσ,a,o,rfl,.inl ⟨i,hσ,_,An hi,rfl⟩,d.e.sam.none ha,ha',r.same (aO (fun _ _ q _=>q) fun b z=>.inl (subB b z))⟩
     · rw[Cl (by rw[Ay];omega)]at he;cases he
   · rw[Ah hj]at he
     obtain⟨w,q1,q2⟩:=d.e.ent j e he;refine⟨w,by rw[Ah hj];exact q1,q2.to d.e.sam (fun _ _ q _=>s _ _ q) (fun b o q _ k1 k2=>⟨s _ _ q,.inl ⟨j,oR ⟨by rw[q1,k2],e,he,k1⟩ (fun z=>hj z.symm)⟩⟩) subH⟩
 · rcases sub b z with z | z
   · exact d.sep b z
   · intro q;exact nB b (.inr q) z
 · rcases eG h1 with ⟨e1,h,_⟩ | ⟨_,h1⟩
   · cases h
     rcases eG h2 with ⟨e2,_,_⟩ | ⟨_,h2⟩
     · rw[e1,e2]
     · exact absurd rfl (nB _ (.inl ⟨k,h2⟩))
   · rcases eG h2 with ⟨_,h,_⟩ | ⟨_,h2⟩
     · cases h;exact absurd rfl (nB _ (.inl ⟨j,h1⟩))
     · exact d.dis j k b h1 h2
theorem DenS.writeO {i:Nat}{a:Addr}{e:Res}{o':HO}{dd:D}{fr:Bool}(d:DenS K H0 H T σ ρ)(hσ:σ[i]?=some (some (.ref a)))(he:ρ[i]?=some (some e))(hk:e.k=.own)(h0:H0 a=none)(r:hW K (aX fr H0 H (Bs T σ ρ)) dd o') :
 DenS K H0 (upd H a o') T σ (ρ.set i (some ⟨.own,fr,dd⟩))/\Ext H σ ρ (upd H a o') σ (ρ.set i (some ⟨.own,fr,dd⟩)):=by
 have oi:eE σ ρ i a:=⟨hσ,e,he,hk⟩
 have hi:i<ρ.length:=by
  obtain⟨h,_⟩:=Af.mp he;exact h
 have fwd:∀ j b,eE σ (ρ.set i (some ⟨.own,fr,dd⟩)) j b->eE σ ρ j b:=fun j b ⟨h1,e',h2,h3⟩=>by
  by_cases hj:i=j
  · subst hj;exact⟨h1,e,he,hk⟩
  · rw[Ah hj]at h2;exact⟨h1,e',h2,h3⟩
 have bwd:∀ j b,eE σ ρ j b->eE σ (ρ.set i (some ⟨.own,fr,dd⟩)) j b:=fun j b ⟨h1,e',h2,h3⟩=>by
  by_cases hj:i=j
  · subst hj;exact⟨h1,_,An hi,rfl⟩
  · exact⟨h1,e',by rw[Ah hj];exact h2,h3⟩
 have subB:∀ b,Bs T σ (ρ.set i (some ⟨.own,fr,dd⟩)) b->Bs T σ ρ b:=fun b z=>z.imp (fun⟨j,h⟩=>⟨j,fwd j b h⟩) id;have Ba:Bs T σ ρ a:=.inl ⟨i,oi⟩;have kp:∀ b o,H b=some o->¬ Bs T σ ρ b->upd H a o' b=some o:=fun b o q n=>by rw[aU (fun z=>n (by rw[z];exact Ba))];exact q
 refine⟨⟨⟨by rw[Ay];exact d.e.len,fun b o q=>?_,fun b z=>?_,fun j e' he'=>?_⟩,fun b z=>d.sep b (let ⟨j,h⟩:=z;⟨j,fwd j b h⟩),fun j k b h1 h2=>d.dis j k b (fwd j b h1) (fwd k b h2)⟩,fun b o q n=>?_,fun b z=>.inl (let ⟨j,h⟩:=z;⟨j,fwd j b h⟩)⟩
 · rw[aU (aZ q h0)];exact d.e.sam b o q
 · by_cases hb:b=a
   · subst hb;exact⟨_,bF,r.stab⟩
   · obtain⟨o,w,n⟩:=d.e.bnd b (subB b z);exact⟨o,by rw[aU hb];exact w,n⟩
 · by_cases hj:i=j
   · subst hj
     rw[An hi]at he';cases he';exact⟨.ref a,hσ,a,o',rfl,.inl ⟨i,bwd i a oi⟩,h0,bF,r.same (aO kp fun b z=>.inl (subB b z))⟩
   · rw[Ah hj]at he'
     obtain⟨w,q1,q2⟩:=d.e.ent j e' he';refine⟨w,q1,q2.to d.e.sam kp (fun b o q _ k1 k2=>?_) fun b z=>.inl (subB b z)⟩
     have oj:eE σ ρ j b:=⟨by rw[q1,k2],e',he',k1⟩
     refine⟨?_,.inl ⟨j,bwd j b oj⟩⟩
     rw[aU (fun z=>hj (d.dis i j a oi (by rw[z]at oj;exact oj)))]
     exact q
 · rw[aU (fun z=>n (by rw[z];exact⟨i,oi⟩))];exact q
theorem DenS.write {i:Nat}{a:Addr}{e:Res}{vs:List V}{ds:List D}{fr:Bool}(d:DenS K H0 H T σ ρ)(hσ:σ[i]?=some (some (.ref a)))(he:ρ[i]?=some (some e))(hk:e.k=.own)(h0:H0 a=none)(r:aI K (aX fr H0 H (Bs T σ ρ)) ds vs) :
 DenS K H0 (upd H a (.lst vs)) T σ (ρ.set i (some ⟨.own,fr,.lst ds⟩))/\Ext H σ ρ (upd H a (.lst vs)) σ (ρ.set i (some ⟨.own,fr,.lst ds⟩)):=d.writeO hσ he hk h0 (.lst r)
theorem uH {i:Nat}{y:Bool×List D}(h:pW i ρ=.ok y):ρ[i]?=some (some ⟨.own,y.1,.lst y.2⟩):=by
 unfold pW at h;split at h
 · rename_i e;cases h;exact e
 · cases h
theorem DenS.own {i:Nat}{fr:Bool}{ds:List D}(d:DenS K H0 H T σ ρ)(he:ρ[i]?=some (some ⟨.own,fr,.lst ds⟩)):∃ a vs,σ[i]?=some (some (.ref a))/\H0 a=none/\H a=some (.lst vs)/\aI K (aX fr H0 H (Bs T σ ρ)) ds vs:=by
 obtain⟨v,q1,a,o,h1,h2,h3,h4,vs,h5,h6⟩:=d.e.ent i _ he;subst h1;subst h5;exact⟨a,vs,q1,h3,h4,h6⟩
theorem DenS.ownD {i:Nat}{fr:Bool}{ks:List (List Int)}{ds:List D}(d:DenS K H0 H T σ ρ)(he:ρ[i]?=some (some ⟨.own,fr,.dct ks ds⟩)):∃ a kvs,σ[i]?=some (some (.ref a))/\H0 a=none/\H a=some (.dT kvs)/\bW ks kvs/\aI K (aX fr H0 H (Bs T σ ρ)) ds (kvs.map (·.2)):=by
 obtain⟨v,q1,a,o,h1,h2,h3,h4,kvs,h5,h6,h7⟩:=d.e.ent i _ he;subst h1;subst h5;exact⟨a,kvs,q1,h3,h4,h6,h7⟩
theorem DenS.freeze (d:DenS K H0 H T σ ρ)(i:Nat):DenS K H0 H T σ (frz i ρ)/\Ext H σ ρ H σ (frz i ρ):=by
 unfold frz;split
 · rename_i e he
   have hi:i<ρ.length:=by
    obtain⟨h,_⟩:=Af.mp he;exact h
   have fwd:∀ j b,eE σ (ρ.set i (some ⟨.shr,e.fr,e.d⟩)) j b->j≠i/\eE σ ρ j b:=fun j b ⟨h1,e',h2,h3⟩=>by
    by_cases hj:i=j
    · subst hj;rw[An hi]at h2;cases h2;cases h3
    · rw[Ah hj]at h2;exact⟨fun z=>hj z.symm,h1,e',h2,h3⟩
   have subB:∀ b,Bs T σ (ρ.set i (some ⟨.shr,e.fr,e.d⟩)) b->Bs T σ ρ b:=fun b z=>z.imp (fun⟨j,h⟩=>⟨j,(fwd j b h).2⟩) id;refine⟨⟨⟨by rw[Ay];exact d.e.len,d.e.sam,fun b z=>d.e.bnd b (subB b z),fun j e' he'=>?_⟩,fun b z=>d.sep b (let ⟨j,h⟩:=z;⟨j,(fwd j b h).2⟩),fun j k b h1 h2=>d.dis j k b (fwd j b h1).2 (fwd k b h2).2⟩,fun b o q _=>q,fun b z=>.inl (let ⟨j,h⟩:=z;⟨j,(fwd j b h).2⟩)⟩
   by_cases hj:i=j
   · subst hj
     rw[An hi]at he';cases he';obtain⟨w,q1,q2⟩:=d.e.ent i e he;refine⟨w,q1,?_⟩
     have m:aG (aX e.fr H0 H (Bs T σ ρ)) (aX e.fr H0 H (Bs T σ (ρ.set i (some ⟨.shr,e.fr,e.d⟩)))):=aO (fun _ _ q _=>q) fun b z=>.inl (subB b z);unfold mD at q2;cases k:e.k with
     | shr=>rw[k]at q2;exact Rep.same m q2
     | own =>
      rw[k]at q2;obtain⟨a,o,h1,h2,h3,h4,h5⟩:=q2;show Rep K (aX e.fr H0 H (Bs T σ (ρ.set i (some ⟨.shr,e.fr,e.d⟩)))) e.d w
      rw[h1];refine h5.rep m (aR.mpr ⟨fun z=>?_,h4⟩)
      rcases z with z | ⟨_,o,z,_⟩
      · rcases z with ⟨j,z⟩ | z
        · obtain⟨z1,z2⟩:=fwd j a z
          exact z1 (d.dis j i a z2 ⟨by rw[q1,h1],e,he,k⟩)
        · exact d.sep a ⟨i,by rw[q1,h1],e,he,k⟩ z
      · rw[h3]at z;cases z
     | tmp=>rw[k]at q2;exact q2.elim
     | old =>
      rw[k]at q2;refine Rep.same (fun b o q=>?_) q2.2
      obtain⟨n,q⟩:=aR.mp q;refine aR.mpr ⟨fun z=>?_,d.e.sam b o q⟩
      rcases z with z | ⟨z,_⟩
      · exact n (subB b z)
      · rw[q2.1]at z;cases z
   · rw[Ah hj]at he'
     obtain⟨w,q1,q2⟩:=d.e.ent j e' he';refine⟨w,q1,q2.to d.e.sam (fun _ _ q _=>q) (fun b o q _ k1 k2=>⟨q,.inl ⟨j,by rw[q1,k2],e',by rw[Ah hj];exact he',k1⟩⟩) fun b z=>.inl (subB b z)⟩
 · exact⟨d,Ext.refl⟩
end
end Mir
namespace Mir
open PySem L2
variable {X:Cx}{P:XP}{a b c e:Expr}{es:List Expr}{f g:FE}{fs:FEs}{pos:Pos}
def kN (K:PySem.W.Frag)(H0 H':Hp)(T:Addr->Prop)(v:V)(r:Res):Prop :=
 match r.k with
 | .shr=>Rep K (aX r.fr H0 H' T) r.d v
 | _=>∃ a o,v=.ref a/\H0 a=none/\H' a=some o/\hW K (aX r.fr H0 H' fun b=>T b\/b=a) r.d o
def gM (K:PySem.W.Frag)(P:XP)(D:Ends)(H0:Hp)(T:Addr->Prop)(H:Hp)(σ:St)(ρ:Env)(r:RS):Prop :=
 match r with
 | .nx ρ'=>∀ σ' H',DenS K H0 H' T σ' ρ'->Ext H σ ρ H' σ' ρ'->D.nx σ' H'
 | .bk ρ'=>∀ σ' H',DenS K H0 H' T σ' ρ'->Ext H σ ρ H' σ' ρ'->D.bk σ' H'
 | .ct ρ'=>∀ σ' H',DenS K H0 H' T σ' ρ'->Ext H σ ρ H' σ' ρ'->D.ct σ' H'
 | .rt r=>∀ v H',aG H0 H'->kN K H0 H' T v r->D.rt v H'
 | .exc x ρ'=>∀ σ' H',DenS K H0 H' T σ' ρ'->Ext H σ ρ H' σ' ρ'->P.p x σ' H'
 | .stk=>False
def tS (K:PySem.W.Frag)(P:XP)(F:FS):TS:=fun D σ H=>∃ H0 T ρ,DenS K H0 H T σ ρ/\gM K P D H0 T H σ ρ (F ρ)
theorem gM.trans {K:PySem.W.Frag}{D:Ends}{H0 H H1:Hp}{T:Addr->Prop}{σ σ1:St}{ρ ρ1:Env}{r:RS}(x:Ext H σ ρ H1 σ1 ρ1)(h:gM K P D H0 T H σ ρ r):gM K P D H0 T H1 σ1 ρ1 r:=by
 cases r with
 | nx ρ'=>exact fun σ' H' d y=>h σ' H' d (x.trans y)
 | bk ρ'=>exact fun σ' H' d y=>h σ' H' d (x.trans y)
 | ct ρ'=>exact fun σ' H' d y=>h σ' H' d (x.trans y)
 | rt r=>exact h
 | exc z ρ'=>exact fun σ' H' d y=>h σ' H' d (x.trans y)
 | stk=>exact h
theorem PS.imp {st:Stmt}{t t':TS}(p:PS X st t)(h:∀ D σ H,t' D σ H->t D σ H):PS X st t':=fun pins s σ H D I q=>p pins s σ H D I (h D σ H q)
theorem PSs.imp {st:List Stmt}{t t':TS}(p:PSs X st t)(h:∀ D σ H,t' D σ H->t D σ H):PSs X st t':=fun pins s σ H D I q=>p pins s σ H D I (h D σ H q)
variable {st:Stmt}{rest:List Stmt}{F G:FS}
theorem cS:PSs X [] (tS X.K P dR):=PSs.imp aHr fun D σ H ⟨H0,T,ρ,d,h⟩=>h σ H d Ext.refl
theorem aMm {K:PySem.W.Frag}(D:Ends)(σ:St)(H:Hp)(h:tS K P (aQ F G) D σ H):aEa (tS K P F) (tS K P G) D σ H:=by
 obtain⟨H0,T,ρ,d,h⟩:=h;refine⟨H0,T,ρ,d,?_⟩
 unfold aQ at h;cases e:F ρ with
 | nx ρ1 =>
  rw[e]at h;exact fun σ1 H1 d1 x1=>⟨H0,T,ρ1,d1,h.trans x1⟩
 | bk ρ'=>rw[e]at h;exact h
 | ct ρ'=>rw[e]at h;exact h
 | rt r=>rw[e]at h;exact h
 | exc z ρ'=>rw[e]at h;exact h
 | stk=>rw[e]at h;exact h
theorem aC (h1:PS X st (tS X.K P F))(h2:PSs X rest (tS X.K P G)):PSs X (st :: rest) (tS X.K P (aQ F G)):=PSs.imp (mM h1 h2) aMm
theorem aJ (h1:PS X st (tS X.K P F)):PSs X [st] (tS X.K P F):=oM h1
theorem aGt {K:PySem.W.Frag}{k:Res->Env->RS}{D:Ends}{σ:St}{H:Hp}{q:VK}(hX:X.K=K)(h:tS K P (fun ρ=>(f ρ).at ρ fun r=>k r ρ) D σ H)
 (hk:∀ H0 T ρ v H' r,DenS K H0 H T σ ρ->DenS K H0 H' T σ ρ->aG H H'->aM K H0 H H' (Bs T σ ρ) v r->gM K P D H0 T H σ ρ (k r ρ)->q v H'):tE K P f σ H q:=by
 subst hX;obtain⟨H0,T,ρ,d,h⟩:=h;cases e:f ρ with
 | stk=>simp only[e,R.at]at h;exact h.elim
 | exc x=>simp only[e,R.at]at h;exact bV d.e e (h σ H d Ext.refl)
 | ok r =>
  simp only[e,R.at]at h;exact cW d.e e fun v H' s d' g'=>hk H0 T ρ v H' r d (d.mono s) s g' h
theorem fT (he:PE X e (tE X.K P f))(hs:swapsWith e none pos.line X.env=pure false:=by rfl):PS X (.Expr e pos) (tS X.K P (dQ f)):=by
 refine PS.imp (sU he hs) ?_
 intro D σ H h;exact aGt (q:=fun _ H1=>D.nx σ H1) rfl h fun H0 T ρ v H' r d d' s g h=>h σ H' d' (Ext.same s)
theorem aJh {K:PySem.W.Frag}{H0 H H':Hp}{T:Addr->Prop}{σ:St}{ρ:Env}{v:V}{r:Res}(d:DenS K H0 H T σ ρ)(g:aM K H0 H H' (Bs T σ ρ) v r):kN K H0 H' T v ⟨if r.k=.shr then .shr else .tmp,r.fr,r.d⟩:=by
 unfold aM at g;unfold kN;cases k:r.k with
 | shr=>rw[k]at g;exact Rep.same (aO (fun _ _ q _=>q) fun b z=>.inl (.inr z)) g
 | own =>
  rw[k]at g;obtain⟨a,o,h1,h2,h3,h4,h5⟩:=g;exact⟨a,o,h1,h3,h4,h5.same (aO (fun _ _ q _=>q) fun b z=>.inl (z.elim .inr fun z=>by rw[z];exact h2))⟩
 | tmp =>
  rw[k]at g;obtain⟨a,o,h1,h2,h3,h4⟩:=g;exact⟨a,o,h1,d.e.sam.none h2,h3,h4.same (aO (fun _ _ q _=>q) fun b z=>.inl (z.imp .inr id))⟩
 | old=>rw[k]at g;exact g.elim
theorem bK (he:PE X e (tE X.K P f)):PS X (.Return (some e) pos) (tS X.K P (bO f)):=by
 refine PS.imp (aKe he) ?_
 intro D σ H h;exact aGt (q:=D.rt) (k:=fun r ρ=>.rt ⟨if r.k=.shr then .shr else .tmp,r.fr,r.d⟩) rfl h fun H0 T ρ v H' r d d' s g h=>h v H' d'.e.sam (aJh d g)
theorem uV {K:PySem.W.Frag}{D:Ends}{H0 H H':Hp}{T:Addr->Prop}{σ:St}{ρ:Env}{v:V}{r:Res}{i:Nat}(d:DenS K H0 H T σ ρ)(s:aG H H')(g:aM K H0 H H' (Bs T σ ρ) v r)(h:gM K P D H0 T H σ ρ ((r.keep).at ρ fun e=>.nx (ρ.set i (some e)))) :
 D.nx (σ.set i (some v)) H':=by
 unfold Res.keep at h;unfold aM at g;cases k:r.k with
 | shr =>
  rw[k]at g h;have d':=(d.mono s).set_shr (i:=i) g;refine h _ H' ?_ ⟨fun b o q _=>s b o q,fun b z=>.inl ?_⟩
  · have e:r=⟨.shr,r.fr,r.d⟩:=by rw[←k]
    rw[e];exact d'.1
  · have e:r=⟨.shr,r.fr,r.d⟩:=by rw[←k]
    rw[e]at z;exact d'.2 b z
 | own=>rw[k]at h;exact h.elim
 | old=>rw[k]at h;exact h.elim
 | tmp =>
  rw[k]at g h;obtain⟨a,o,h1,h2,h3,h4⟩:=g;subst h1;have d':=d.set_con (i:=i) s h2 h3 h4;simp only[R.at]at h;exact h _ H' d'.1 d'.2
theorem aW {i:Nat}{x:Str}{pos':Pos}(hN:X.N.Nodup)(hi:X.N[i]?=some x)(hx:Loc X.env.scope x)(he:PE X e (tE X.K P f))(hs:swapsWith e (some (.Name x pos')) pos.line X.env=pure false:=by rfl)(hf:X.fn x=true\/X.env.scope.names.lookup x=some .local:=by first | exact .inl rfl | exact .inr rfl | assumption) :
 PS X (.Assign [.Name x pos'] e pos) (tS X.K P (bB i f)):=by
 refine PS.imp (aE5 hN hi hx he hs hf) ?_
 intro D σ H h;exact aGt (q:=fun v H1=>D.nx (σ.set i (some v)) H1) (k:=fun r ρ=>(r.keep).at ρ fun e=>.nx (ρ.set i (some e))) rfl h fun H0 T ρ v H' r d d' s g h=>uV d s g h
theorem oN {scope:Scope}{N:List Str}{k:Nat}{cs:List Nat}{tg iter elt:Expr}{ifs:List Expr}{t:Tg}{it:FI}{fb:FB}{i:Nat}{y:Str}{py spos:Pos}(hc:X.calm=true)(hN:X.N.Nodup)(hi':X.N[i]?=some y)(hy:X.env.scope.names.lookup y=some .local)
 (C:CompOk X scope N k cs) (hi:PI X tg iter (tI X.K P it)) (hg:∀ fp s H,PG (cD X scope N fp s H) tg (gOf X.K t)) (gl:tG k (gOf X.K t)) (hb:∀ fp s H,PB (cD X scope N fp s H) ifs elt (tBm X.K XP0 fb))
 (hsw:swapsWith (.ListComp elt [⟨tg,iter,ifs,0⟩] scope pos) (some (.Name y py)) spos.line X.env=pure true:=by rfl) (hs:∀ x,foldedSetIterable iter X.env x=pure x:=by intro _;rfl) :
 PS X (.Assign [.Name y py] (.ListComp elt [⟨tg,iter,ifs,0⟩] scope pos) spos) (tS X.K P (bB i (cC it k cs t fb))):=by
 refine PS.imp (aG3 (i:=i) hc hN hi' hy C hi hg gl hb hsw hs) ?_
 intro D σ H h;have h':=aGt (f:=cC it k cs t fb) (q:=fun v H1=>D.nx (σ.set i (some v)) H1) (k:=fun r ρ=>(r.keep).at ρ fun e=>.nx (ρ.set i (some e))) rfl h fun H0 T ρ v H' r d d' s g h=>uV d s g h;exact aDp σ H _ h'
theorem aQ8 {t:FT}{D:Ends}{σ:St}{H:Hp}{F G:FS}(h:tS X.K P (ifS t F G) D σ H):tT X.K P t σ H fun b H1=>if b=true then tS X.K P F D σ H1 else tS X.K P G D σ H1:=by
 obtain⟨H0,T,ρ,d,h⟩:=h;unfold ifS at h;refine⟨H0,_,ρ,d.e,?_⟩
 cases e:t ρ with
 | stk=>simp only[e,R.at]at h;exact h.elim
 | exc x=>simp only[e,R.at]at h;exact h σ H d Ext.refl
 | ok k =>
  simp only[e,R.at]at h;intro H1 s1;cases k with
  | true=>exact aDu ⟨H0,T,ρ,d.mono s1,gM.trans (Ext.same s1) h⟩
  | false=>exact aE0 ⟨H0,T,ρ,d.mono s1,gM.trans (Ext.same s1) h⟩
theorem dF {t:FT}{sa sb:List Stmt}(hc:PT X c (tT X.K P t))(ha:PSs X sa (tS X.K P F))(hb:PSs X sb (tS X.K P G)):PS X (.If c sa sb pos) (tS X.K P (ifS t F G)):=by
 refine PS.imp (aN1 hc ha hb) ?_
 intro D σ H h;exact aQ8 h
theorem fA {i:Nat}(h:PS X st (tS X.K P F)):PS X st (tS X.K P (jB i F)):=by
 refine PS.imp h ?_
 rintro D σ H ⟨H0,T,ρ,d,h⟩
 obtain⟨d',x⟩:=d.freeze i;exact⟨H0,T,frz i ρ,d',gM.trans x h⟩
theorem aAd {i:Nat}{x:Str}{p ap cp:Pos}(hN:X.N[i]?=some x)(hv:Vis X.env.scope x)(he:PE X e (tE X.K P f))(hd:(x==("__debug__":Str))=false:=by decide)(hcd:(x==("__classdict__":Str))=false:=by decide)
 (h1:starEach [e] X.env=[(false,eval e X.env)]:=by rfl) (hbase:attributeBase (.Name x p) "append" X.env (eval (.Name x p) X.env)=eval (.Name x p) X.env:=by rfl)
 (hfew:((backTo cp (starEach [e] X.env)).all (fun x=>!x.1)&&(backToKw cp (keywordEach [] X.env)).all (fun x=>x.1.isSome)&&decide ([e].length+([]:List Keyword).length+(if ([]:List Keyword).isEmpty then 0 else 1)<30))=true:=by rfl)
 (hline:(ap.endLine==cp.line)=true:=by rfl)
 (hs:swapsWith (.Call (.Attribute (.Name x p) "append" ap) [e] [] cp) none pos.line X.env=pure false:=by rfl) :
 PS X (.Expr (.Call (.Attribute (.Name x p) "append" ap) [e] [] cp) pos) (tS X.K P (aAq i f)):=by
 refine PS.imp (sU (aIx PySem.F.plainAttrs_list PySem.F.slot_list_append PySem.F.type_list_append sA (kT hN hv hd hcd) (iB he nE h1) hbase hfew hline (hs:=h1)) hs) ?_
 rintro D σ H ⟨H0,T,ρ,d,h⟩
 unfold aAq at h;cases e3:pW i ρ with
 | stk=>simp only[e3,R.at]at h;exact h.elim
 | exc z=>unfold pW at e3;split at e3<;>cases e3
 | ok y =>
  simp only[e3,R.at]at h;have ho:=uH e3;obtain⟨a,vs,q1,q2,q3,q4⟩:=d.own ho;refine⟨_,q1,.inl ⟨rfl,vs,SqL.of q3⟩,?_⟩
  cases e1:f ρ with
  | stk=>simp only[e1]at h;exact h.elim
  | exc z=>simp only[e1]at h;exact bV d.e e1 (h σ H d Ext.refl)
  | ok r =>
   simp only[e1]at h;refine cW d.e e1 fun v H' s d' g'=>?_
   cases e2:r.give with
   | stk=>simp only[e2]at h;exact h.elim
   | exc z=>unfold Res.give at e2;split at e2<;>cases e2
   | ok r' =>
    simp only[e2]at h;obtain⟨g1,g2⟩:=g'.give d.e e2;subst g1;by_cases hz:y.2.length<sizeLine
    · rw[if_pos hz]at h
      have dS:=d.mono s;have q4':aI X.K (aX y.1 H0 H' (Bs T σ ρ)) y.2 vs:=aI.same (aO (fun b o q _=>s b o q) fun b z=>.inl z) q4;refine⟨a,vs,v,rfl,rfl,s _ _ q3,by rw[←q4.length];exact hz,?_⟩
      obtain⟨w1,w2⟩:=dS.write (fr:=y.1&&r.fr) (ds:=y.2++[r.d]) (vs:=vs++[v]) q1 ho rfl q2 (q4'.andL.append (aI.one g2).andR);exact h σ _ w1 ((Ext.same s).trans w2)
    · rw[if_neg hz]at h;exact h.elim
theorem aMn {i:Nat}{x:Str}{j:Expr}{p tp:Pos}(hN:X.N[i]?=some x)(hv:Vis X.env.scope x)(hj:PE X j (tE X.K P g))(he:PE X e (tE X.K P f))(hd:(x==("__debug__":Str))=false:=by decide)(hcd:(x==("__classdict__":Str))=false:=by decide)
 (ha:∀ v,assign (.Subscript (.Name x p) j tp) X.env v=(do
  let ov ← holding [v] (eval (.Name x p) X.env)
  let iv ← holding [v,ov] (eval j X.env)
  standAt tp
  holding [v,ov,iv] (setItem ov iv v)
  release [v,ov,iv] []):=by intro _;rfl)
 (hs:swapsWithSole [.Subscript (.Name x p) j tp] e pos.line X.env=pure false:=by rfl) (hw:swappedStores [.Subscript (.Name x p) j tp] e X.env=pure none:=by rfl)
 (h1:(assignEach [.Subscript (.Name x p) j tp] X.env).map (·.2)=[assign (.Subscript (.Name x p) j tp) X.env]:=by rfl) :
 PS X (.Assign [.Subscript (.Name x p) j tp] e pos) (tS X.K P (aLw i g f)):=by
 refine PS.imp (aJm he (aLa (kT hN hv hd hcd) hj aDa ha) hs hw h1) ?_
 rintro D σ H ⟨H0,T,ρ,d,h⟩
 unfold aLw at h;show tE X.K P f σ H fun v H1=>nA i σ H1 fun o H2=>tE X.K P g σ H2 fun k H3=>aIp o k v H3 fun H4=>D.nx σ H4
 cases e1:f ρ with
 | stk=>simp only[e1,R.at]at h;exact h.elim
 | exc z=>simp only[e1,R.at]at h;exact bV d.e e1 (h σ H d Ext.refl)
 | ok r =>
  simp only[e1,R.at]at h;refine cW d.e e1 fun v H1 s1 d1 g1=>?_
  cases e2:r.give with
  | stk=>simp only[e2]at h;exact h.elim
  | exc z=>unfold Res.give at e2;split at e2<;>cases e2
  | ok r' =>
   simp only[e2]at h;obtain⟨w1,w2⟩:=g1.give d.e e2;subst w1;cases e3:pW i ρ with
   | stk=>simp only[e3]at h;exact h.elim
   | exc z=>unfold pW at e3;split at e3<;>cases e3
   | ok y =>
    simp only[e3]at h;have ho:=uH e3;obtain⟨a,vs,q1,q2,q3,q4⟩:=d.own ho;refine⟨_,q1,?_⟩
    cases e4:g ρ with
    | stk=>simp only[e4]at h;exact h.elim
    | exc z=>simp only[e4]at h;exact bV d1 e4 (h σ H1 (d.mono s1) (Ext.same s1))
    | ok jr =>
     simp only[e4]at h;refine cW d1 e4 fun kv H2 s2 d2 g2=>?_
     cases e5:asI jr.d with
     | stk=>simp only[e5]at h;exact h.elim
     | exc z=>exact(bP e5).elim
     | ok k =>
      simp only[e5]at h;cases e6:ixN y.2.length k with
      | none=>simp only[e6]at h;exact h.elim
      | some n =>
       simp only[e6]at h;have s:=s1.trans s2;have dS:=d.mono s;have m:∀ fr,aG (aX fr H0 H (Bs T σ ρ)) (aX fr H0 H2 (Bs T σ ρ)):=fun fr=>aO (fun b o q _=>s b o q) fun b z=>.inl z;have m1:∀ fr,aG (aX fr H0 H1 (Bs T σ ρ)) (aX fr H0 H2 (Bs T σ ρ)):=fun fr=>aO (fun b o q _=>s2 b o q) fun b z=>.inl z;refine⟨a,vs,k,n,rfl,g2.int (bX e5),s _ _ q3,by rw[←q4.length];exact e6,?_⟩
       have ra:Rep X.K (aX (y.1&&r.fr) H0 H2 (Bs T σ ρ)) r.d v:=by
        obtain⟨_,_,z1,z2,_⟩:=(aI.one (Rep.same (m1 _) w2)).andR (fr:=y.1);cases z1;exact z2
       obtain⟨v1,v2⟩:=dS.write (fr:=y.1&&r.fr) (ds:=y.2.set n r.d) (vs:=vs.set n v) q1 ho rfl q2 (aI.set ra n (aI.same (m _) q4).andL);exact h σ _ v1 ((Ext.same s).trans v2)
theorem eF {iter:Expr}{body:List Stmt}{tg:Expr}{t:Tg}{it:FI}(hp:PassesOwn (model X.prog X.w) X.A X.env X.xe)(hc:X.calm=true)(hi:PI X tg iter (tI X.K P it))(hg:PG X tg (gOf X.K t))(hb:PSs X body (tS X.K P F))
 (hs:∀ x,foldedSetIterable iter X.env x=pure x:=by intro _;rfl):PS X (.For tg iter body [] pos) (tS X.K P (fV it t F)):=by
 refine PS.imp (aLn hp hc hi hg hb hs) ?_
 rintro D σ H ⟨H0,T,ρ,d,h⟩
 unfold fV at h;refine⟨H0,_,ρ,d.e,?_⟩
 cases e:it ρ with
 | stk=>simp only[e,R.at]at h;exact h.elim
 | exc z=>simp only[e,R.at]at h;exact h σ H d Ext.refl
 | ok w =>
  simp only[e,R.at]at h;by_cases hst:w.st=true
  · rw[if_pos hst]at h
    intro J H1 s1 hw;obtain⟨A,hA,hwk⟩:=hw;refine⟨fun i m σ' H'=>m=w.ds.length-i/\i<=w.ds.length/\∃ ρi,DenS X.K H0 H' T σ' ρi/\Ext H1 σ ρ H' σ' ρi/\gM X.K P D H0 T H1 σ ρ (qH t F w.fr (w.ds.drop i) ρi),⟨w.ds.length,rfl,Bv _,ρ,d.mono s1,Ext.refl,gM.trans (Ext.same s1) h⟩,?_⟩
    rintro i m σ' H' ⟨hm,hi',ρi,di,xi,pi⟩
    have wk:=hwk H' (Bs T σ' ρi) (fun a o ha q=>xi.kp a o q fun z=>hA hst a ha (.inl z)) (fun b o q n=>xi.kp b o q fun z=>n (.inl z)) (fun b z=>?_) (fun b z=>let ⟨o,q,_⟩:=di.e.bnd b z;⟨o,q⟩) di.e.sam i
    · by_cases hlt:i<w.ds.length
      · refine .inr ?_
        have hd:w.ds[i]?=some w.ds[i]:=Al hlt;obtain⟨go,yl⟩:=wk.2 _ hd;refine⟨go,fun σ'' H''=>w.ds.length-(i+1)=w.ds.length-(i+1)/\i+1<=w.ds.length/\∃ ρi,DenS X.K H0 H'' T σ'' ρi/\Ext H1 σ ρ H'' σ'' ρi/\gM X.K P D H0 T H1 σ ρ (qH t F w.fr (w.ds.drop (i+1)) ρi),fun σ'' H'' q=>⟨_,by omega,q⟩,fun x H3 y3=>?_⟩
        obtain⟨s3,rx⟩:=yl x H3 y3;rw[List.drop_eq_getElem_cons hlt]at pi;simp only[qH]at pi;cases e1:t.bind w.fr w.ds[i] ρi with
        | stk=>simp only[e1,R.at]at pi;exact pi.elim
        | exc z=>exact(vH _ _ _ e1).elim
        | ok ρ1 =>
         simp only[e1,R.at]at pi;refine tZ (G:=aX w.fr H0 H3 (Bs T σ' ρi)) (fr:=w.fr) (I:=fun σ2 ρ2=>DenS X.K H0 H3 T σ2 ρ2/\∀ a,iO σ2 ρ2 a->iO σ' ρi a) dJ (fun σ2 ρ2 j dd v ⟨D2,O2⟩ r=>?_) t _ x σ' ρi ρ1 _ e1 rx ⟨di.mono s3,fun a z=>z⟩ fun σ4 ⟨d4,o4⟩=>?_
         · have:=D2.set_shr (i:=j) (Rep.same (aO (fun _ _ q _=>q) fun b z=>.inl (z.imp (O2 b) id)) r)
           exact⟨this.1,fun a z=>O2 a (this.2 a z)⟩
         · have x4:Ext H1 σ ρ H3 σ4 ρ1:=xi.trans ⟨fun b o q _=>s3 b o q,fun b z=>.inl (o4 b z)⟩
           refine⟨H0,T,ρ1,d4,?_⟩
           cases e2:F ρ1 with
           | stk=>simp only[e2]at pi;exact pi
           | nx ρ2=>simp only[e2]at pi;exact fun σ5 H5 d5 x5=>⟨rfl,hlt,ρ2,d5,x4.trans x5,pi⟩
           | ct ρ2=>simp only[e2]at pi;exact fun σ5 H5 d5 x5=>⟨rfl,hlt,ρ2,d5,x4.trans x5,pi⟩
           | bk ρ2=>simp only[e2]at pi;exact fun σ5 H5 d5 x5=>pi σ5 H5 d5 (x4.trans x5)
           | rt r=>simp only[e2]at pi;exact pi
           | exc z ρ2=>simp only[e2]at pi;exact fun σ5 H5 d5 x5=>pi σ5 H5 d5 (x4.trans x5)
      · refine .inl ⟨wk.1 (by omega),?_⟩
        rw[List.drop_of_length_le (by omega)]at pi
        exact pi σ' H' di xi
    · rcases z with z | z
      · exact(xi.ow b z).imp .inl id
      · exact .inl (.inr z)
  · rw[if_neg hst]at h;exact h.elim
theorem aIh {t:FT}{body:List Stmt}(hp:PassesOwn (model X.prog X.w) X.A X.env X.xe)(hc:PT X c (tT X.K P t))(hb:PSs X body (tS X.K P F)):PS X (.While c body [] pos) (tS X.K P (aKf t F)):=by
 refine PS.imp (aEk hp hc hb) ?_
 rintro D σ H ⟨H0,T,ρ,d,h⟩
 refine⟨fun m σ' H'=>∃ ρi,DenS X.K H0 H' T σ' ρi/\Ext H σ ρ H' σ' ρi/\gM X.K P D H0 T H σ ρ (aA0 t F m ρi),⟨2^64,ρ,d,Ext.refl,h⟩,?_⟩
 rintro m σ' H' ⟨ρi,di,xi,pi⟩
 cases m with
 | zero=>exact pi.elim
 | succ n =>
  simp only[aA0]at pi;refine⟨H0,_,ρi,di.e,?_⟩
  cases e:t ρi with
  | stk=>simp only[e,R.at]at pi;exact pi.elim
  | exc z=>simp only[e,R.at]at pi;exact pi σ' H' di xi
  | ok k =>
   simp only[e,R.at]at pi;intro H1 s1;have x1:Ext H σ ρ H1 σ' ρi:=xi.trans (Ext.same s1);cases k with
   | false=>exact aE0 (pi σ' H1 (di.mono s1) x1)
   | true =>
    rw[if_pos rfl]at pi;refine aDu ⟨fun σ'' H''=>∃ ρi,DenS X.K H0 H'' T σ'' ρi/\Ext H σ ρ H'' σ'' ρi/\gM X.K P D H0 T H σ ρ (aA0 t F n ρi),fun σ'' H'' q=>⟨n,Dt n,q⟩,H0,T,ρi,di.mono s1,?_⟩
    cases e2:F ρi with
    | stk=>simp only[e2]at pi;exact pi
    | nx ρ2=>simp only[e2]at pi;exact fun σ5 H5 d5 x5=>⟨ρ2,d5,x1.trans x5,pi⟩
    | ct ρ2=>simp only[e2]at pi;exact fun σ5 H5 d5 x5=>⟨ρ2,d5,x1.trans x5,pi⟩
    | bk ρ2=>simp only[e2]at pi;exact fun σ5 H5 d5 x5=>pi σ5 H5 d5 (x1.trans x5)
    | rt r=>simp only[e2]at pi;exact pi
    | exc z ρ2=>simp only[e2]at pi;exact fun σ5 H5 d5 x5=>pi σ5 H5 d5 (x1.trans x5)
end Mir
namespace Mir
open PySem L2
variable {X:Cx}{P:XP}{a b c e:Expr}{es:List Expr}{f g:FE}{fs:FEs}{pos:Pos}
def spM (K:PySem.W.Frag)(cl:XC->Addr)(φ:Φ):Sp:=fun vs H Q E=>∃ ds B,(∀ b,B b->∃ o,H b=some o/\stab o=false)/\aI K (cut H B) ds vs/\match φ ds with
 | .ok r=>∀ v H',aG H H'->kN K H H' B v r->Q v H'
 | .exc x=>∀ H',aG H H'->E (.ref (cl x.c)) none H'
 | .stk=>False
def Thr (CX:CXT)(cl:XC->Addr)(X:Cx)(P:XP):Prop:=∀ (pins:List (Addr×Obj)) (σ:St) (H:Hp) (s:Shared) (e:Value) (s':Shared),Inv X pins σ H s->CX X.stack H s (fun c _ H'=>∃ x:Xc,c=.ref (cl x.c)/\P.p x σ H') e s'->X.xe e s'
theorem aHy {CX:CXT}{k:Nat}{fa:Addr}{fd:FuncData}{ps:List Str}{sp:Sp}{E:XK}{pins:List (Addr×Obj)}{σ:St}{H:Hp}{s:Shared}{Q:VK}{us:List Value}{vs:List V}(F:FnOk X.prog X.w X.K X.mg X.base CX k fa fd ps sp)(hr:Room k X.A)(hb:kM X.K fd ps [])
 (hx:∀ e s',CX X.stack H s E e s'->X.xe e s') (I:Inv X pins σ H s) (r:bC vs us) (h:sp vs H Q E):wpAny (model X.prog X.w) X.A (call (.ref fa) us) (EP X pins σ Q) X.xe s:=by
 have hl:us.length=ps.length:=by rw[←r.length];exact F.len _ _ _ _ h
 have hb':=hb s us I.kIn (by rw[Cy];exact hl)
 rw[Cy]at hb';refine wpAny_call (codeAny_mono (F.run X.A X.stack s H ⟨us,[]⟩ us vs Q E hr I.env0 hb' r h) fun r s' hq=>?_)
 cases r with
 | error e=>exact hx e s' hq
 | ok fl =>
  cases fl with
  | ret u=>exact I.after hq
  | next=>exact False.elim hq
  | brk=>exact False.elim hq
  | cont=>exact False.elim hq
theorem cZ.plain {K:PySem.W.Frag}{H0 H H':Hp}{B:Addr->Prop}{σ:St}{ρ:Env}{Z:Addr->Prop}(den:DenE K H0 H B σ ρ):∀ {vs:List V} {rs:List Res},cZ K H0 H H' B vs rs->(∀ b,Z b->B b/\V.ref b∉vs)->aI K (cut H' Z) (rs.map (·.d)) vs
 | [],_,h,_=>by rw[show _=[] from h];rfl
 | v :: vs,_,⟨r,rr,e,g,gs⟩,hz=>by
  subst e;refine⟨v,vs,rfl,?_,cZ.plain den gs fun b z=>⟨(hz b z).1,fun q=>(hz b z).2 (Am _ q)⟩⟩
  have m:∀ fr,aG (aX fr H0 H' B) (cut H' Z):=fun fr=>dI (fun _ _ q _=>q) fun b z=>.inl (.inl (hz b z).1);unfold aM at g;cases k:r.k with
  | shr=>rw[k]at g;exact Rep.same (m _) g
  | own =>
   rw[k]at g;obtain⟨a,o,h1,h2,h3,h4,h5⟩:=g;subst h1;exact h5.rep (m _) (aR.mpr ⟨fun z=>(hz a z).2 Ap,h4⟩)
  | old=>rw[k]at g;exact g.elim
  | tmp =>
   rw[k]at g;obtain⟨a,o,h1,h2,h3,h4⟩:=g;subst h1;exact h4.rep (dI (fun _ _ q _=>q) fun b z=>.inl (.inl (.inl (hz b z).1))) (aR.mpr ⟨fun z=>(hz a z).2 Ap,h3⟩)
theorem wM:∀ {rs:List Res} {y:Bool×List D},gives rs=.ok y->y.2=rs.map (·.d)
 | [],y,e=>by simp[gives]at e;subst e;rfl
 | r :: rs,y,e=>by
  simp only[gives]at e;cases e2:r.give with
  | stk=>simp[e2]at e
  | exc x=>simp[e2]at e
  | ok r' =>
   cases e3:gives rs with
   | stk=>simp[e2,e3]at e
   | exc x=>simp[e2,e3]at e
   | ok y' =>
    simp only[e2,e3,R.ok_bind]at e;cases e
    have:r'.d=r.d:=by
     unfold Res.give at e2;split at e2
     · cases e2
     · cases e2;rfl
    simp[wM e3,this]
theorem aAx {cl:XC->Addr}{φ:Φ}{σ:St}{H:Hp}{Q:VK}(h:tE X.K P (aK φ fs) σ H Q):tAs X.K P fs σ H fun vs H1=>spM X.K cl φ vs H1 Q (fun c _ H'=>∃ x:Xc,c=.ref (cl x.c)/\P.p x σ H'):=by
 refine tA1 h ?_
 intro H0 B ρ vs H' rs d0 d gs s h;cases e:φ (rs.map (·.d)) with
 | stk=>simp[e]at h
 | exc x =>
  simp[e]at h
  refine⟨rs.map (·.d),fun _=>False,fun _ z=>z.elim,gs.plain d0 (fun _ z=>z.elim),?_⟩
  rw[e];exact fun H2 s2=>⟨x,rfl,P.mono h s2⟩
 | ok r =>
  simp only[e,R.ok_bind]at h;by_cases hf:r.fr=true
  · rw[if_pos hf]at h
    refine⟨rs.map (·.d),fun b=>B b/\V.ref b∉vs,fun b z=>d.bnd b z.1,gs.plain d0 (fun _ z=>z),?_⟩
    rw[e];intro v H2 s2 ro;refine h v H2 s2 ?_
    have ban:∀ b o,H2 b=some o->¬ Ban true H' (fun b=>B b/\V.ref b∉vs) b->¬ Ban true H0 B b:=fun b o q n z=>by
     rcases z with z | ⟨_,o',z1,z2⟩
     · obtain⟨o',z1,z2⟩:=d.bnd b z
       exact n (.inr ⟨rfl,o',z1,z2⟩)
     · exact n (.inr ⟨rfl,o',d.sam _ _ z1,z2⟩)
    unfold kN at ro;unfold aM;cases k:r.k with
    | shr =>
     rw[k]at ro;simp only[if_true];rw[hf]at ro;exact Rep.same (fun b o q=>let ⟨q1,q2⟩:=aR.mp q;aR.mpr ⟨ban b o q2 q1,q2⟩) ro
    | own =>
     rw[k]at ro;obtain⟨a,o',h1,h2,h3,h5⟩:=ro;rw[hf]at h5;refine⟨a,o',h1,s.none h2,h3,h5.same (fun b o q=>?_)⟩
     obtain⟨q1,q2⟩:=aR.mp q;refine aR.mpr ⟨fun z=>?_,q2⟩
     rcases z with (z | z) | z
     · exact ban b o q2 (fun w=>q1 (w.imp .inl id)) (.inl z)
     · exact q1 (.inl (.inr z))
     · exact ban b o q2 (fun w=>q1 (w.imp .inl id)) (.inr z)
    | old =>
     rw[k]at ro;obtain⟨a,o',h1,h2,h3,h5⟩:=ro;rw[hf]at h5;refine⟨a,o',h1,s.none h2,h3,h5.same (fun b o q=>?_)⟩
     obtain⟨q1,q2⟩:=aR.mp q;refine aR.mpr ⟨fun z=>?_,q2⟩
     rcases z with (z | z) | z
     · exact ban b o q2 (fun w=>q1 (w.imp .inl id)) (.inl z)
     · exact q1 (.inl (.inr z))
     · exact ban b o q2 (fun w=>q1 (w.imp .inl id)) (.inr z)
    | tmp =>
     rw[k]at ro;obtain⟨a,o',h1,h2,h3,h5⟩:=ro;rw[hf]at h5;refine⟨a,o',h1,s.none h2,h3,h5.same (fun b o q=>?_)⟩
     obtain⟨q1,q2⟩:=aR.mp q;refine aR.mpr ⟨fun z=>?_,q2⟩
     rcases z with (z | z) | z
     · exact ban b o q2 (fun w=>q1 (w.imp .inl id)) (.inl z)
     · exact q1 (.inl (.inr z))
     · exact ban b o q2 (fun w=>q1 (w.imp .inl id)) (.inr z)
  · rw[if_neg hf]at h
    have hf':r.fr=false:=by cases q:r.fr with | true=>exact absurd q hf | false=>rfl
    cases e2:gives rs with
    | stk=>simp[e2]at h
    | exc x=>exact(gZ e2).elim
    | ok y =>
     simp only[e2,R.ok_bind]at h;have re:=gs.gives d0 e2;rw[wM e2]at re;refine⟨rs.map (·.d),Ban y.1 H0 B,fun b z=>?_,re,?_⟩
     · rcases z with z | ⟨_,o,z1,z2⟩
       · exact d.bnd b z
       · exact⟨o,d.sam _ _ z1,z2⟩
     · rw[e]
       intro v H2 s2 ro;refine h v H2 s2 ?_
       unfold kN at ro;unfold aM;cases k:r.k with
       | shr =>
        rw[k,hf']at ro;simp only[if_true];exact Rep.same (dI (fun _ _ q _=>q) fun b z=>.inl (.inl z)) ro
       | own =>
        rw[k,hf']at ro;obtain⟨a,o',h1,h2,h3,h5⟩:=ro;refine⟨a,o',h1,s.none h2,h3,h5.same (dI (fun _ _ q _=>q) fun b z=>.inl (.inl ?_))⟩
        rcases z with (z | z) | z
        · exact .inl (.inl z)
        · exact .inr z
        · exact .inl (.inr z)
       | old =>
        rw[k,hf']at ro;obtain⟨a,o',h1,h2,h3,h5⟩:=ro;refine⟨a,o',h1,s.none h2,h3,h5.same (dI (fun _ _ q _=>q) fun b z=>.inl (.inl ?_))⟩
        rcases z with (z | z) | z
        · exact .inl (.inl z)
        · exact .inr z
        · exact .inl (.inr z)
       | tmp =>
        rw[k,hf']at ro;obtain⟨a,o',h1,h2,h3,h5⟩:=ro;refine⟨a,o',h1,s.none h2,h3,h5.same (dI (fun _ _ q _=>q) fun b z=>.inl (.inl ?_))⟩
        rcases z with (z | z) | z
        · exact .inl (.inl z)
        · exact .inr z
        · exact .inl (.inr z)
variable {x:Str}{p:Pos}{ps:List Str}{k:Nat}{CX:CXT}{cl:XC->Addr}{φ:Φ}
theorem aP (cc:aD X.prog X.w X.K X.mg X.base CX k x ps (spM X.K cl φ))(hr:Room k X.A)(hg:Gl X x)(ht:Thr CX cl X P)(ha:PA X (e :: es) (tAs X.K P fs))
 (hdb:(x==("__debug__":Str))=false:=by decide) (he:starEach (e :: es) X.env=(false,eval e X.env) :: starEach es X.env:=by rfl) (hpl:(backTo pos (starEach es X.env)).any (·.1)=false:=by rfl) :
 PE X (.Call (.Name x p) (e :: es) [] pos) (tE X.K P (aK φ fs)):=by
 obtain⟨fa,fd,F,m,kp,b⟩:=cc;intro pins s σ H Q I h;refine wpAny_Call_Name_kw (lZ I hg m ?_ hdb)
 refine PySem.W.callWith_K (h₀:=X.base) I.ok.mod.kin kp (thn (ha pos pins s σ H _ I (aAx (cl:=cl) h)) fun us s1 ⟨vs,H1,I1,r,q⟩=>⟨I1.kIn,?_⟩) he hpl
 exact aHy F hr b (fun e s' hq=>ht pins σ H1 s1 e s' I1 hq) I1 r q
theorem DenS.start {K:PySem.W.Frag}{H:Hp}{B:Addr->Prop}{vs:List V}{ds:List D}{N:List Str}(hB:∀ b,B b->∃ o,H b=some o/\stab o=false)(r:aI K (cut H B) ds vs):DenS K H H B (L2.start N vs) (stE N.length ds):=by
 have no:∀ i a,¬ eE (L2.start N vs) (stE N.length ds) i a:=fun i a ⟨_,e,h2,h3⟩=>by
  unfold stE at h2;by_cases hi:i<ds.length
  · rw[Bj (by simpa using hi),Bb]at h2
    cases q:ds[i]? with
    | none=>rw[q]at h2;cases h2
    | some d=>rw[q]at h2;cases h2;cases h3
  · rw[Bq (by simpa using hi),Cs]at h2
    split at h2<;>cases h2
 refine⟨⟨?_,aG.refl H,fun b z=>?_,fun i e he=>?_⟩,fun a ⟨i,z⟩=>(no i a z).elim,fun i j a z _=>(no i a z).elim⟩
 · unfold stE L2.start
   simp[r.length]
 · rcases z with ⟨i,z⟩ | z
   · exact(no i b z).elim
   · exact hB b z
 · unfold stE at he
   by_cases hi:i<ds.length
   · rw[Bj (by simpa using hi),Bb]at he
     cases q:ds[i]? with
     | none=>rw[q]at he;cases he
     | some d =>
      rw[q]at he;cases he;obtain⟨v,q1,q2⟩:=r.get q;refine⟨v,?_,?_⟩
      · unfold L2.start
        have:i<vs.length:=by rw[←r.length];exact hi
        rw[Bj (by simpa using this),Bb,q1]
        rfl
      · refine Rep.same (dI (fun _ _ q _=>q) fun b z=>.inl ?_) q2
        rcases z with (⟨j,z⟩ | z) | ⟨z,_⟩
        · exact(no j b z).elim
        · exact z
        · cases z
   · rw[Bq (by simpa using hi),Cs]at he
     split at he<;>cases he
theorem kN.fr {K:PySem.W.Frag}{H0 H':Hp}{T:Addr->Prop}{v:V}{r:Res}(s:aG H0 H')(h:kN K H0 H' T v r):kN K H0 H' T v ⟨r.k,r.fr||r.d.imm,r.d⟩:=by
 unfold kN at h ⊢;cases k:r.k with
 | shr=>rw[k]at h;exact Rep.fr s h
 | own =>
  rw[k]at h;obtain⟨a,o,h1,h2,h3,h4⟩:=h;refine⟨a,o,h1,h2,h3,?_⟩
  rw[h4.imm,Ej];exact h4
 | old =>
  rw[k]at h;obtain⟨a,o,h1,h2,h3,h4⟩:=h;refine⟨a,o,h1,h2,h3,?_⟩
  rw[h4.imm,Ej];exact h4
 | tmp =>
  rw[k]at h;obtain⟨a,o,h1,h2,h3,h4⟩:=h;refine⟨a,o,h1,h2,h3,?_⟩
  rw[h4.imm,Ej];exact h4
section
variable {Pg:Program}{w:World}{K:PySem.W.Frag}{mg:Str->Option Value}{base:Heap}
theorem aGm {φ:Φ}{n:Nat}(h:∀ ds,ds.length≠n->φ ds=.stk):∀ vs H Q E,spM K cl φ vs H Q E->vs.length=n:=fun vs H Q E ⟨ds,B,_,r,q⟩=>by
 rw[←r.length];by_cases e:ds.length=n
 · exact e
 · rw[h ds e]at q;exact q.elim
end
end Mir
namespace Mir
open PySem L2
variable {X:Cx}{P:XP}{a b c e:Expr}{es:List Expr}{f g:FE}{fs:FEs}{pos:Pos}
theorem bA {i:Nat}{x:Str}(hN:X.N.Nodup)(hi:X.N[i]?=some x)(hx:Loc X.env.scope x)(hf:X.fn x=true\/X.env.scope.names.lookup x=some .local:=by first | exact .inl rfl | exact .inr rfl | assumption):PG X (.Name x pos) (gOf X.K (.nm i)):=by
 unfold gOf;exact aHj hN hi hx hf
theorem cK:PGs X [] (jJ X.K []):=by
 unfold jJ;exact aHf
theorem aY {t:Tg}{ts:List Tg}(h1:PG X e (gOf X.K t))(h2:PGs X es (jJ X.K ts))(hs:(assignEach (e :: es) X.env).map (·.2)=assign e X.env :: (assignEach es X.env).map (·.2):=by rfl):PGs X (e :: es) (jJ X.K (t :: ts)):=by
 unfold jJ;exact aEg h1 h2 hs
theorem fB {ts:List Tg}{k:Nat}(hc:X.calm=true)(h:PGs X es (jJ X.K ts))(hn:(assignEach es X.env).length=ts.length:=by rfl)(hst:(assignEach es X.env).findIdx? (·.1)=none:=by rfl):PG X (.Tuple es k pos) (gOf X.K (.tp ts)):=by
 unfold gOf;exact aL2 hc h hn hst
mutual
def Tg.inK (k:Nat):Tg->Bool
 | .nm i=>decide (i<k)
 | .tp ts=>Tg.inKs k ts
def Tg.inKs (k:Nat):List Tg->Bool
 | []=>true
 | t :: ts=>t.inK k&&Tg.inKs k ts
end
mutual
theorem aH7 {K:PySem.W.Frag}:∀ t:Tg,vW (gOf K t)
 | .nm i=>by unfold gOf;exact aA7
 | .tp ts=>by unfold gOf;exact aEe (wV ts)
theorem wV {K:PySem.W.Frag}:∀ ts:List Tg,mW (jJ K ts)
 | []=>by unfold jJ;exact aAy
 | t :: ts=>by unfold jJ;exact wY (aH7 t) (wV ts)
end
mutual
theorem eJ {K:PySem.W.Frag}{k:Nat}:∀ {t:Tg},t.inK k=true->tG k (gOf K t)
 | .nm i,h=>by unfold gOf;exact aEb (by simpa[Tg.inK] using h)
 | .tp ts,h=>by unfold gOf;exact aHv (aIj (by simpa[Tg.inK] using h))
theorem aIj {K:PySem.W.Frag}{k:Nat}:∀ {ts:List Tg},Tg.inKs k ts=true->vV k (jJ K ts)
 | [],_=>by unfold jJ;exact aEx
 | t :: ts,h=>by
  have h':t.inK k=true/\Tg.inKs k ts=true:=by simpa[Tg.inKs] using h
  unfold jJ;exact aBo (aH7 t) (wV ts) (eJ h'.1) (aIj h'.2)
end
def cM:List D->R (List Int)
 | []=>.ok []
 | d :: r=>do
  let i ← asI d
  let l ← cM r
  .ok (i :: l)
def aNe (a:FE):FE:=fun ρ=>do
 let x ← a ρ
 let ds ← asL x.d
 let l ← cM ds
 .ok (sc (.int l.sum))
theorem dE {x:Xc}:∀ {ds:List D},cM ds=.exc x->False
 | [],h=>by simp[cM]at h
 | d :: r,h=>by
  simp only[cM]at h;cases e:asI d with
  | stk=>simp[e]at h
  | exc y=>exact bP e
  | ok i =>
   cases e2:cM r with
   | stk=>simp[e,e2]at h
   | exc y=>exact dE e2
   | ok l=>simp[e,e2]at h
theorem aI.ints {K:PySem.W.Frag}{G:Hp}:∀ {ds:List D} {vs:List V} {l:List Int},cM ds=.ok l->aI K G ds vs->vs=l.map V.int
 | [],vs,l,h,r=>by simp[cM]at h;subst h;exact r
 | d :: r,vs,l,h,⟨x,xr,h1,h2,h3⟩=>by
  simp only[cM]at h;cases e:asI d with
  | stk=>simp[e]at h
  | exc y=>simp[e]at h
  | ok i =>
   cases e2:cM r with
   | stk=>simp[e,e2]at h
   | exc y=>simp[e,e2]at h
   | ok l' =>
    simp[e,e2]at h
    subst h;rw[bX e]at h2;rw[h1,aI.ints e2 h3,show x=.int i from h2]
    rfl
variable {p:Pos}
theorem aMk (hc:X.calm=true)(hg:Gl X "sum")(hm:X.mg "sum" = none)(ha:PE X a (tE X.K P f))(he:starEach [a] X.env=[(false,eval a X.env)]:=by rfl):PE X (.Call (.Name "sum" p) [a] [] pos) (tE X.K P (aNe f)):=by
 refine PE.imp (gV (aCf hc) hg hm (by decide +kernel) (aA ha aB he) (he:=he)) ?_
 intro σ H Q h;refine lO h ?_
 intro H0 B ρ v H' r d0 d g s h;cases e:asL r.d with
 | stk=>simp[e]at h
 | exc x=>exact(dD e).elim
 | ok ds =>
  cases e2:cM ds with
  | stk=>simp[e,e2]at h
  | exc x=>exact(dE e2).elim
  | ok l =>
   simp only[e,e2,R.ok_bind]at h;obtain⟨a,xs,h1,h2,h3⟩:=g.list (cX e);exact⟨a,l,by rw[h1],by rw[←aI.ints e2 h3];exact .inl h2,h _ H' (aG.refl _) (aM.sc (show Rep _ _ (.int _) _ from rfl))⟩
inductive Ty where
 | int | bool | list | tuple | str
 deriving DecidableEq
def Ty.nm:Ty->String
 | .int=>"int"
 | .bool=>"bool"
 | .list=>"list"
 | .tuple=>"tuple"
 | .str=>"str"
def tyD:D->String
 | .non=>"NoneType"
 | .bl _=>"bool"
 | .int _=>"int"
 | .str _=>"str"
 | .lst _=>"list"
 | .tup _=>"tuple"
 | _=>""
theorem aGa {K:PySem.W.Frag}{H:Hp}{a:Addr}{xs:List V}(h:Rd H a (.lst xs)):TyOf K H (.ref a) (.type "list"):=by
 rcases h with h | ⟨o,h⟩
 · exact .lst h
 · exact .frz h
theorem aM.ty {K:PySem.W.Frag}{H0 H H':Hp}{B:Addr->Prop}{v:V}{r:Res}(g:aM K H0 H H' B v r)(h1:∀ c ds,r.d≠.obj c ds)(h2:∀ c ds,r.d≠.exc c ds)(h3:r.d≠.any)(h4:∀ c ds,r.d≠.dct c ds):TyOf K H' v (.type (tyD r.d)):=by
 cases k:r.d with
 | lst ds=>obtain⟨a,xs,q1,q2,q3⟩:=g.list k;rw[q1];exact aGa q2
 | non=>have:=g.shr_of (by rw[k];rfl);rw[k]at this;rw[show v=.non from this];exact .non
 | bl b=>have:=g.shr_of (by rw[k];rfl);rw[k]at this;rw[show v=.bl b from this];exact .bl b
 | int b=>have:=g.shr_of (by rw[k];rfl);rw[k]at this;rw[show v=.int b from this];exact .int b
 | str b=>have:=g.shr_of (by rw[k];rfl);rw[k]at this;rw[show v=.str b from this];exact .str b
 | tup ds =>
  obtain⟨a,xs,q1,q2,q3⟩:=g.tuple k;rw[q1];exact .tup q2
 | obj c b=>exact absurd k (h1 _ _)
 | exc c b=>exact absurd k (h2 _ _)
 | any=>exact absurd k h3
 | dct c b=>exact absurd k (h4 _ _)
end Mir
namespace Mir
open PySem L2
variable {X:Cx}{P:XP}{a b c e:Expr}{es:List Expr}{f g:FE}{fs:FEs}{pos p:Pos}
def aJs:FS:=fun _=>.stk
theorem aH4 {st:Stmt}:PS X st (tS X.K P aJs):=PS.imp aEd fun D σ H ⟨H0,T,ρ,d,h⟩=>h
def aHd (a b:FE):FE:=fun ρ=>do
 let x ← a ρ
 let y ← b ρ
 let ds ← asL x.d
 let k ← asI y.d
 if x.k≠.shr/\-(2^63)<=k/\k<2^63/\ds.length*k.toNat<=sizeLine then .ok ⟨.tmp,x.fr,.lst (Ax k.toNat ds).flatten⟩ else .stk
theorem aI.rep {K:PySem.W.Frag}{G:Hp}{ds:List D}{vs:List V}(r:aI K G ds vs):∀ n:Nat,aI K G (Ax n ds).flatten (Ax n vs).flatten
 | 0=>rfl
 | n+1=>by
  rw[Ca,Co,Ca,Co];exact r.append (aI.rep r n)
theorem aEv (ha:PE X a (tE X.K P f))(hb:PE X b (tE X.K P g)):PE X (.BinOp a .Mult b pos) (tE X.K P (aHd f g)):=by
 refine PE.imp (zG aJz ha hb) ?_
 intro σ H Q h;refine t2 (q:=fun x y H2=>aN8 x y H2 Q) h ?_
 intro H0 B ρ v w H' r r' d g1 g2 s h;cases e1:asL r.d with
 | stk=>simp[e1]at h
 | exc x=>exact(dD e1).elim
 | ok ds =>
  cases e2:asI r'.d with
  | stk=>simp[e1,e2]at h
  | exc x=>exact(bP e2).elim
  | ok k =>
   simp only[e1,e2,R.ok_bind]at h;by_cases hc:r.k≠.shr/\-(2^63)<=k/\k<2^63/\ds.length*k.toNat<=sizeLine
   · rw[if_pos hc]at h
     obtain⟨hk,h1,h2,hz⟩:=hc
     have:∃ a xs,v=.ref a/\H' a=some (.lst xs)/\aI X.K (aX r.fr H0 H' B) ds xs:=by
      have hd:=cX e1;obtain⟨a,o,q1,q2,q3⟩:=g1.con hk;rw[hd]at q3;obtain⟨vs,q4,q5⟩:=q3;subst q4;exact⟨a,vs,q1,q2,q5⟩
     obtain⟨a,xs,q1,q2,q3⟩:=this;exact⟨a,k,xs,q1,g2.int (bX e2),q2,h1,h2,by rw[←q3.length];exact hz,fun p hp=>h _ _ (aG.upd_new hp) (fX d s hp (q3.rep _))⟩
   · rw[if_neg hc]at h;exact h.elim
theorem aPl {k:Res->Res->R Res}{F:FE}(hF:F=fun ρ=>f ρ >>= fun x=>g ρ >>= fun y=>k x y){σ:St}{H:Hp}{Q:VK}{q:List V->Hp->Prop}(h:tE X.K P F σ H Q)
 (hk:∀ H0 B ρ v w H' r r',DenE X.K H0 H B σ ρ->DenE X.K H0 H' B σ ρ->aM X.K H0 H H' B v r->aM X.K H0 H H' B w r'->aG H H'->(match k r r' with
  | .ok r1=>∀ v1 H1,aG H' H1->aM X.K H0 H H1 B v1 r1->Q v1 H1
  | .exc x=>P.p x σ H'
  | .stk=>False)->q [v,w] H'):tAs X.K P [f,g] σ H q:=by
 have e:F=fun ρ=>evs [f,g] ρ >>= fun rs=>match rs with | [x,y]=>k x y | _=>.stk:=by
  rw[hF];funext ρ
  unfold evs evs;cases f ρ with
  | ok r =>
   show (g ρ >>= fun y=>k r y)=_
   cases g ρ with
   | ok r'=>rfl
   | _=>rfl
  | _=>rfl
 rw[e]at h;refine tA1 h ?_
 intro H0 B ρ vs H' rs d0 d gs s h;match vs,rs,gs with
 | [],rs,gs=>have e:rs=[]:=gs;subst e;exact h.elim
 | [v],_,⟨r,rr,e1,g1,g2⟩ =>
  subst e1;rw[show rr=[] from g2]at h
  exact h.elim
 | [v,w],_,⟨r,rr,e1,g1,r2,rr2,e2,g2,g3⟩ =>
  subst e1;subst e2;rw[show rr2=[] from g3]at h
  exact hk H0 B ρ v w H' r r2 d0 d g1 g2 s h
 | _ :: _ :: _ :: _,_,⟨r,rr,e1,g1,r2,rr2,e2,g2,r3,rr3,e3,_⟩ =>
  subst e1;subst e2;subst e3;exact h.elim
def aMy (a b:FE):FE:=fun ρ=>do
 let x ← a ρ
 let y ← b ρ
 let xs ← asL x.d
 let ys ← asL y.d
 .ok ⟨.tmp,x.fr&&y.fr,.lst (xP xs ys)⟩
theorem aNv {p1 p2 q1 q2:Pos}(hc:X.calm=true)(g1:Gl X "list")(m1:X.mg "list" = none)(g2:Gl X "zip")(m2:X.mg "zip" = none)(ha:PE X a (tE X.K P f))(hb:PE X b (tE X.K P g))
 (hs:starEach [a,b] X.env=[(false,eval a X.env),(false,eval b X.env)]:=by rfl) (hs2:starEach [b] X.env=[(false,eval b X.env)]:=by rfl)
 (hs3:starEach [Expr.Call (.Name "zip" p2) [a,b] [] q2] X.env=[(false,eval (.Call (.Name "zip" p2) [a,b] [] q2) X.env)]:=by rfl) :
 PE X (.Call (.Name "list" p1) [.Call (.Name "zip" p2) [a,b] [] q2] [] q1) (tE X.K P (aMy f g)):=by
 refine PE.imp (wR hc g1 m1 g2 m2 (aA ha (aA hb aB hs2) (by rw[hs,hs2])) hs hs2 hs3) ?_
 intro σ H Q h;refine aPl rfl h ?_
 intro H0 B ρ v w H' r r' d0 d g1 g2 s h;cases e1:asL r.d with
 | stk=>simp[e1]at h
 | exc x=>exact(dD e1).elim
 | ok ds =>
  cases e2:asL r'.d with
  | stk=>simp[e1,e2]at h
  | exc x=>exact(dD e2).elim
  | ok es =>
   simp only[e1,e2,R.ok_bind]at h;obtain⟨a1,xs,h1,h2,h3⟩:=g1.list (cX e1);obtain⟨a2,ys,k1,k2,k3⟩:=g2.list (cX e2);refine⟨a1,a2,xs,ys,by rw[h1,k1],.inl h2,.inl k2,fun l ts H2 z=>?_⟩
   obtain⟨z1,z2,z3,z4,z5⟩:=z;refine h _ H2 z1 ⟨l,_,rfl,s.none z2,z3,.lst (aI.of_get ?_ fun i dd vv hd hv=>?_)⟩
   · simp[xP,z4,h3.length,k3.length]
   · rw[Bb]at hv
     cases ht:ts[i]? with
     | none=>rw[ht]at hv;cases hv
     | some t =>
      rw[ht]at hv;cases hv;obtain⟨n1,x,y,ex,ey,et⟩:=z5 i t ht;unfold xP at hd;rw[List.getElem?_zipWith]at hd;obtain⟨d1,f1,r1⟩:=h3.getv ex;obtain⟨d2,f2,r2⟩:=k3.getv ey;rw[f1,f2]at hd;cases hd;have tl:t≠l:=fun q=>by rw[q,z3]at et;cases et
      have m:∀ fr,aG (aX fr H0 H' B) (aX fr H0 H2 fun b=>B b\/b=l):=fun fr=>aO (fun b o q _=>z1 b o q) fun b q=>q.imp id fun q=>by rw[q];exact z2
      refine⟨t,[x,y],rfl,aR.mpr ⟨fun q=>?_,et⟩,x,[y],rfl,?_,y,[],rfl,?_,rfl⟩
      · rcases q with (q | q) | ⟨_,o,q,_⟩
        · obtain⟨o,q1,_⟩:=d.bnd t q;rw[n1]at q1;cases q1
        · exact tl q
        · rw[d.sam _ _ q]at n1;cases n1
      · obtain⟨_,_,q1,q2,_⟩:=(aI.one (Rep.same (m _) r1)).andL (fr':=r'.fr)
        cases q1;exact q2
      · obtain⟨_,_,q1,q2,_⟩:=(aI.one (Rep.same (m _) r2)).andR (fr:=r.fr)
        cases q1;exact q2
end Mir
namespace Mir
open PySem L2
variable {X:Cx}{P:XP}{pins:List (Addr×Obj)}{σ:St}{H H':Hp}{s s':Shared}{ea C:Addr}
theorem bM.there {Pg:Program}{w:World}{H:Hp}{h:Heap}{a:Addr}{o:HO}(x:bM Pg w H h a o):∃ ob,h.get? a=some ob:=by
 cases o with
 | lst xs=>obtain⟨_,_,_,_,e⟩:=x;exact⟨_,e⟩
 | tup xs=>obtain⟨_,_,_,p⟩:=x;obtain⟨o,e,_⟩:=p;exact⟨o,e⟩
 | dK kvs=>obtain⟨_,_,_,_,o,_,_,e,_⟩:=x;exact⟨o,e⟩
 | dT kvs=>obtain⟨_,_,_,_,o,_,_,e,_⟩:=x;exact⟨o,e⟩
 | set S n=>obtain⟨o,_,_,_,e,_⟩:=x;exact⟨o,e⟩
 | ins C dx fs=>obtain⟨_,_,_,e,_⟩:=x;exact⟨_,e⟩
 | own y=>exact x
 | xd fs=>obtain⟨_,⟨o,_,_,e,_⟩,_⟩:=x;exact⟨o,e⟩
 | rng lo hi=>obtain⟨_,_,_,e⟩:=x;exact⟨_,e⟩
 | frz ob u=>obtain⟨e,_⟩:=x;exact⟨_,e⟩
 | tbl ps=>exact⟨_,x⟩
 | met f y=>exact⟨_,x⟩
 | ext φ=>obtain⟨_,e,_⟩:=x;exact e
structure Fly (Pg:Program)(w:World)(l:List PySem.Env)(H:Hp)(s:Shared)(ea C:Addr)(H':Hp)(s':Shared):Prop where
 os:s'.os=s.os
 bare:PyProof.Rows.AllBare s'.gens
 hok:HOk Pg w H' s'.heap
 un:Un (frs l) [] H H' s.heap s'.heap
 new:s.heap.get? ea=none
 unt:H' ea=none
 fly:∃ a0 Bh,Heap.FlyingW Bh l ea (.ref C) a0 s'.heap/\(∀ b o o',s.heap.get? b=some o->b∉frs l->s'.heap.get? b=some o'->Bh.get? b=some o')/\(∀ b u o',H' b=some u->s'.heap.get? b=some o'->Bh.get? b=some o')
def CXM (Pg:Program)(w:World):CXT:=fun outer H s E e s'=>∃ ea C H',e=.ref ea/\Fly Pg w outer H s ea C H' s'/\E (.ref C) none H'
theorem uI {Pg:Program}{w:World}{h h' Bh:Heap}(x:HOk Pg w H h)(k:∀ b u o',H b=some u->h.get? b=some o'->Bh.get? b=some o')(st:Bh.StaysIn h'):HOk Pg w H h':=fun a o e =>
 (x a o e).stay (fun b u hb q=>by
  rcases hb with hb | hb
  · exact st _ _ (k b o u (by rw[hb];exact e) q)
  · exact st _ _ (k b _ u hb q)) (fun _ q=>q) fun _ _ q=>q
theorem yA {Pg:Program}{w:World}{fs:List Addr}{H0:Hp}{h0 h h' Bh:Heap}(u:Un fs [] H0 H h0 h)(ok:HOk Pg w H h)(hk:∀ b o o',h0.get? b=some o->b∉fs->h.get? b=some o'->Bh.get? b=some o')(ht:∀ b u o',H b=some u->h.get? b=some o'->Bh.get? b=some o')(st:Bh.StaysIn h')
 (sl:∀ b o,b∈fs->h.get? b=some o->∃ s,h'.get? b=some { o with slots:=s }):Un fs [] H0 H h0 h':=by
 refine⟨fun b o q n hb hx=>st _ _ (hk b o o q hb (u.keep b o q n hb hx)),fun b o q n hb hx=>?_,u.free,fun b o q hx=>?_,u.tups,u.frzs,u.tbls⟩
 · obtain⟨s1,e1⟩:=u.slot b o q n hb hx
   obtain⟨s2,e2⟩:=sl b _ hb e1;exact⟨s2,e2⟩
 · obtain⟨o',e⟩:=u.there b o q hx
   by_cases hb:b∈fs
   · obtain⟨s2,e2⟩:=sl b _ hb e
     exact⟨_,e2⟩
   · exact⟨o',st _ _ (hk b o o' q hb e)⟩
theorem lB {env:PySem.Env}{l:List PySem.Env}{L:Addr}(h:env.frame=some L):frs (env :: l)=L :: frs l:=by unfold frs;rw[De,h]
theorem aF5 {M:Model}{E:Value->Shared->Prop}{Q:Unit->Shared->Prop}(I:Inv X pins σ H s)(hx:X.ex=[])(hst:X.stack=X.env :: X.outer)(hf:X.env.frame=some X.env.locals)(F:Fly X.prog X.w X.stack H s ea C H' s')
 (hQ:∀ h',Fly X.prog X.w X.outer X.H₀ X.s₀ ea C H' { s' with heap:=h' }->Q () { s' with heap:=h' }):wpAny M X.A (leaving X.env (.ref ea)) Q E s':=by
 obtain⟨a0,Bh,fl,cov,trk⟩:=F.fly;have I':Inv X pins σ H' s':=I.call' (ch:=[]) F.os F.un F.hok F.bare (fun b z=>absurd z (by simp))
 rw[hst]at fl;refine wpAny_leaves_onW (by rw[I.ok.frames,hst]) hf fl fun h' x1 x2=>hQ h' ?_
 have ne:∀ b o,X.s₀.heap.get? b=some o->b≠X.env.locals:=fun b o e=>Ak (Aj (Ab e) I.ok.above)
 have cov':∀ b o o',X.s₀.heap.get? b=some o->b∉frs X.outer->s'.heap.get? b=some o'->Bh.get? b=some o':=fun b o o' e n q=>by
  obtain⟨o1,e1⟩:=I.base.there b o e (by rw[hx];simp)
  refine cov b o1 o' e1 ?_ q
  rw[hst,lB hf];simp only[Ag,not_or];exact⟨ne b o e,n⟩
 have base:Un (frs X.outer) [] X.H₀ H' X.s₀.heap s'.heap:=by
  have:=I'.base
  rw[hx]at this;exact this
 refine⟨F.os.trans I.os,F.bare,uI F.hok trk x1.1,yA base F.hok cov' trk x1.1 (fun b o hb q=>?_),?_,F.unt,a0,Bh,x1,fun b o o' e n q=>?_,fun b u o' e q=>?_⟩
 · obtain⟨_,o1,e1,nf⟩:=fl.2.2.1.mem (b:=b) (by have:=lB (l:=X.outer) hf;unfold frs at this;rw[this];exact Am _ hb)
   rw[q]at e1;cases e1;exact x2 b o q nf
 · cases q:X.s₀.heap.get? ea with
   | none=>rfl
   | some o =>
    obtain⟨o1,e1⟩:=I.base.there ea o q (by rw[hx];simp)
    rw[F.new]at e1;cases e1
 · obtain⟨o1,e1⟩:=base.there b o e (by simp)
   have q1:=cov' b o o1 e n e1;have:=x1.1 _ _ q1
   rw[show ({ s' with heap:=h' }:Shared).heap.get? b=some o' from q]at this
   cases this;exact q1
 · obtain⟨o1,e1⟩:=bM.there (F.hok b u e)
   have q1:=trk b u o1 e e1;have:=x1.1 _ _ q1
   rw[show ({ s' with heap:=h' }:Shared).heap.get? b=some o' from q]at this
   cases this;exact q1
theorem aFi {M:Model}{E:Value->Shared->Prop}{Q:Unit->Shared->Prop}{args:List Value}{h1:Heap}(I:Inv X pins σ H s)(hx:X.ex=[])(hst:X.stack=X.env :: X.outer)(hf:X.env.frame=some X.env.locals)(m:Heap.MadeExcOf s.heap h1 ea (.ref C) args)
 (hQ:∀ h',Fly X.prog X.w X.outer X.H₀ X.s₀ ea C H { s with heap:=h' }->Q () { s with heap:=h' }):wpAny M X.A (leaving X.env (.ref ea)) Q E { s with heap:=h1 }:=by
 have fr:=I.stack;have nl:∀ b,b∈frs X.stack->b∈frs X.stack:=fun b h=>h;refine wpAny_leaves_madeW (base:=Dx s.heap (frs X.stack)) (h:=s.heap) (by rw[I.ok.frames,hst]) hf (fun b o q=>PySem.W.of_hideAll _ q) ?_ m fun h' t x1 x2 x3 x4=>hQ h' ?_
 · rw[←hst]
   exact PySem.W.funFrames_hide fr fun env he a ha=>Ed.mpr ⟨env,he,ha⟩
 · have ne:∀ b o,X.s₀.heap.get? b=some o->b≠X.env.locals:=fun b o e=>Ak (Aj (Ab e) I.ok.above)
   have hid:∀ b o,s.heap.get? b=some o->b∉frs X.stack->(Dx s.heap (frs X.stack)).get? b=some o:=fun b o q n=>PySem.W.hideAll_get _ q n
   have nin:∀ b o,X.s₀.heap.get? b=some o->b∉frs X.outer->b∉frs X.stack:=fun b o e n=>by
    rw[hst,lB hf];simp only[Ag,not_or];exact⟨ne b o e,n⟩
   have trk:∀ b u o',H b=some u->s.heap.get? b=some o'->(Dx s.heap (frs X.stack)).get? b=some o':=fun b u o' e q=>hid b o' q fun z=>by
    rw[I.stkFree b z]at e;cases e
   have base:Un (frs X.outer) [] X.H₀ H X.s₀.heap s.heap:=by
    have:=I.base
    rw[hx]at this;exact this
   have un:=yA base I.hok (fun b o o' e n q=>hid b o' q (nin b o e n)) trk x1.1 (fun b o hb q=>?_)
   · refine⟨I.os,I.bare,uI I.hok trk x1.1,un,?_,?_,_,_,x1,fun b o o' e n q=>?_,fun b u o' e q=>?_⟩
     · cases q:X.s₀.heap.get? ea with
       | none=>rfl
       | some o =>
        obtain⟨o1,e1⟩:=I.base.there ea o q (by rw[hx];simp)
        rw[m.new]at e1;cases e1
     · cases q:H ea with
       | none=>rfl
       | some u =>
        obtain⟨o1,e1⟩:=bM.there (I.hok ea u q);rw[m.new]at e1;cases e1
     · obtain⟨o1,e1⟩:=base.there b o e (by simp)
       have q1:=hid b o1 e1 (nin b o e n);have:=x1.1 _ _ q1
       rw[show ({ s with heap:=h' }:Shared).heap.get? b=some o' from q]at this
       cases this;exact q1
     · obtain⟨o1,e1⟩:=bM.there (I.hok b u e)
       have q1:=trk b u o1 e e1;have:=x1.1 _ _ q1
       rw[show ({ s with heap:=h' }:Shared).heap.get? b=some o' from q]at this
       cases this;exact q1
   · have hb':b∈frs X.stack:=by rw[hst,lB hf];exact Am _ hb
     obtain⟨_,o1,e1,nf⟩:=fr.mem (b:=b) hb';rw[q]at e1;cases e1;exact x4 b o (m.keeps _ _ q) nf
end Mir
namespace Mir
open PySem L2
variable {X:Cx}{P:XP}{a b c e:Expr}{es:List Expr}{f g:FE}{fs:FEs}{pos:Pos}
abbrev bmV:List Value:=[.type "ValueError",.type "Exception",.type "BaseException",.type "object"]
theorem aJu {K:PySem.W.Frag}{h:Heap}{C:Addr}{bmB:List Value}{newId:String}(X:K.In h)(q:Bc K C bmB newId=true) :
 ∃ bm N nm q bs hdct sn sub ab col dd k0 k1 k2 k3 k5 mN,h.get? C=some (excClassObj nm q C N bs bm hdct sn sub ab col dd k0 k1 k2 k3 k5 newId)/\h.Ns N mN/\mN "__init__" = none/\OwnTail h bmB bm:=by
 unfold Bc at q;repeat' split at q
 case h_1 dd c sl look _ _ C1 tl s0 s1 s2 s3 mk s5 em es =>
  simp only[Bt]at q;have eC:C1=C:=by simpa using q.1.1.1.1.1
  have en:mk=newId:=by simpa using q.1.1.1.1.2
  have ed:c.hasDel=false:=by simpa using q.1.1.1.2
  have ei:Av K c.ns "__init__" = some none:=by simpa using q.2
  have ok:PySem.W.nsOkIn K c.ns=true:=q.1.2;have here:=X _ _ look;cases c;cases sl;dsimp only at em es ed ok ei
  subst eC en em es ed;exact⟨_,_,_,_,_,_,_,_,_,_,_,_,_,_,_,_,_,here,.of_isNs (PySem.W.isNs_of_in X ok),PySem.W.nsMap_none_of_in X ok ei,PySem.W.tail_of_in X q.1.1.2⟩
 all_goals exact absurd q Aq
def iS (c:XC)(fs:FEs):FS:=fun ρ=>(evs fs ρ).at ρ fun rs=>if rs.length<=sizeLine then .exc ⟨c,[]⟩ ρ else .stk
def aM2 (cl:XC->Addr)(X:Cx)(P:XP):Prop:=∀ (pins:List (Addr×Obj)) (σ:St) (H:Hp) (s:Shared) (h1:Heap) (ea:Addr) (args:List Value) (x:Xc),Inv X pins σ H s->Heap.MadeExcOf s.heap h1 ea (.ref (cl x.c)) args->P.p x σ H->X.xe (.ref ea) { s with heap:=h1 }
theorem nX {cl:XC->Addr}{xc:XC}{x:Str}{np cpos:Pos}(hm:X.mg x=some (.ref (cl xc)))(hK:Bc X.K (cl xc) bmV "ValueError.__new__" = true)(hc:X.calm=true)(hg:Gl X x)(ht:aM2 cl X P)(ha:PA X (e :: es) (tAs X.K P fs))
 (hdb:(x==("__debug__":Str))=false:=by decide) (he:starEach (e :: es) X.env=(false,eval e X.env) :: starEach es X.env:=by rfl) (hpl:(backTo cpos (starEach es X.env)).any (·.1)=false:=by rfl) :
 PS X (.Raise (some (.Call (.Name x np) (e :: es) [] cpos)) none pos) (tS X.K P (iS xc fs)):=by
 intro pins s σ H D I h;obtain⟨H0,T,ρ,d,h⟩:=h;obtain⟨tl,N,nm,q,bs,hdct,sn,sub,ab,col,dd,k0,k1,k2,k3,k5,mN,hC,hN,hni,TL⟩:=aJu I.ok.mod.kin hK
 refine wpAny_Raise_call_subT (C:=cl xc) (nm:=nm) (q:=q) (N:=N) (bs:=bs) (bm:=tl) (hdct:=hdct) (sn:=sn) (sub:=sub) (ab:=ab) (col:=col) (dd:=dd) (k0:=k0) (k1:=k1) (k2:=k2) (k3:=k3) (k5:=k5)
  PySem.F.excBase_ValueError (mN:=mN) (TL.hasType PySem.F.excBase_ValueError.hasBase) (I.ok.hd hc) (by rw[he];show (false||(backTo cpos (starEach es X.env)).any (·.1))=false;rw[hpl];rfl) hni (lZ I hg hm ⟨rfl,?_⟩ hdb)
 have key:tAs X.K P fs σ H fun vs H1=>vs.length<=sizeLine/\P.p ⟨xc,[]⟩ σ H1:=by
  refine⟨H0,_,ρ,d.e,?_⟩
  unfold iS at h;cases e1:evs fs ρ with
  | stk=>simp only[e1,R.at]at h;exact h.elim
  | exc z=>simp only[e1,R.at]at h;exact h σ H d Ext.refl
  | ok rs =>
   simp only[e1,R.at]at h;intro vs H1 s1 gs;by_cases hz:rs.length<=sizeLine
   · rw[if_pos hz]at h
     exact⟨by rw[gs.len];exact hz,h σ H1 (d.mono s1) (Ext.same s1)⟩
   · rw[if_neg hz]at h;exact h.elim
 have hA:=ha cpos pins s σ H _ I key;rw[he]at hA ⊢;refine Calls.evalArgs_plain (wpAny_mono hA (fun us s2 ⟨vs,H1,I1,r,q⟩=>⟨rfl,?_,I1.bk _ _ hC,hN.keeps I1.bk,TL.keeps I1.bk,fun h1 ea m=>?_⟩) fun _ _ y=>y)
 · show us.length<=sizeLine
   rw[←r.length];exact q.1
 · exact ht pins σ H1 s2 h1 ea _ ⟨xc,[]⟩ I1 m q.2
def PX (cl:XC->Addr)(E:XK):XP:=⟨fun x _ H=>∀ H',aG H H'->E (.ref (cl x.c)) none H',fun h s H' s'=>h H' (s.trans s')⟩
section
variable {Pg:Program}{w:World}{K:PySem.W.Frag}{mg:Str->Option Value}{base:Heap}{cl:XC->Addr}{N:List Str}{qual:Str}{scope:Scope}{fa:Addr}{cdv:Value}{A:Around}{outer:List PySem.Env}{s0:Shared}{H0:Hp}{E:XK}
theorem bQ:Thr (CXM Pg w) cl (kF (CXM Pg w) Pg w K mg base N qual scope fa cdv A outer s0 H0 E) (PX cl E):=by
 rintro pins σ H s e s' I ⟨ea,C,H',rfl,F,x,hx,px⟩
 refine aF5 I rfl rfl rfl F fun h' F'=>⟨ea,C,H',rfl,F',?_⟩
 rw[hx];exact px H' (aG.refl H')
theorem zX:aM2 cl (kF (CXM Pg w) Pg w K mg base N qual scope fa cdv A outer s0 H0 E) (PX cl E):=by
 intro pins σ H s h1 ea args x I m px;exact aFi I rfl rfl rfl m fun h' F'=>⟨ea,cl x.c,H,rfl,F',px H (aG.refl H)⟩
theorem dO:PassesOwn (model Pg w) (kF (CXM Pg w) Pg w K mg base N qual scope fa cdv A outer s0 H0 E).A (kF (CXM Pg w) Pg w K mg base N qual scope fa cdv A outer s0 H0 E).env (kF (CXM Pg w) Pg w K mg base N qual scope fa cdv A outer s0 H0 E).xe:=PassesOwn.leaving
theorem aMw {X:Cx}{cl:XC->Addr}:Thr (CXM Pg w) cl X XP0:=by
 rintro pins σ H s e s' I ⟨ea,C,H',rfl,F,x,hx,px⟩
 exact px.elim
theorem aH9 {x:Str}{ps:List Str}{k:Nat}{st:Stmt}{F:FS}{f:Addr}{fd:FuncData}(Fu:Fun K x x st f fd)(S:FnScope N ps (aF st))
 (hb:∀ (f:Addr) (cdv:Value) (A:Around) (outer:List PySem.Env) (s:Shared) (H:Hp) (E:XK),Room k (A.deeper (Ey x (aF st) s.heap.objs.size f cdv)) ->
  PSs (kF (CXM Pg w) Pg w K mg base N x (aF st) f cdv A outer s H E) (cL st) (tS K (PX cl E) F)):FnOk Pg w K mg base (CXM Pg w) (k+1) f fd ps (spM K cl (bS ps.length N.length F)):=by
 obtain⟨oc,od,kV,doc,pm,an,cdv,ct,osl,rfl,lk,hcd⟩:=Fu.ex;refine zQ lk hcd S (aGm fun ds e=>?_) fun A outer s H vs Q E hr hsp=>⟨_,hb f cdv A outer s H E hr,?_⟩
 · unfold bS
   rw[if_neg e]
 · obtain⟨ds,B,hB,r,q⟩:=hsp
   refine⟨H,B,stE N.length ds,DenS.start hB r,?_⟩
   unfold bS at q;by_cases e:ds.length=ps.length
   · rw[if_pos e]at q
     cases e2:F (stE N.length ds) with
     | nx ρ'=>simp only[e2]at q;exact fun σ' H' d' x'=>q .non H' d'.e.sam (show V.non=V.non from rfl)
     | rt r=>simp only[e2]at q;exact fun v H' s' ro=>q v H' s' (ro.fr s')
     | bk ρ'=>simp only[e2]at q
     | ct ρ'=>simp only[e2]at q
     | exc z ρ'=>simp only[e2]at q;exact fun σ' H' d' x' H'' s''=>q H'' (d'.e.sam.trans s'')
     | stk=>simp only[e2]at q
   · rw[if_neg e]at q;exact q.elim
theorem bG {x:Str}{ps:List Str}{k:Nat}{st:Stmt}{F:FS}(Fa:aS K mg x st ps)(S:FnScope N ps (aF st))
 (hb:∀ (f:Addr) (cdv:Value) (A:Around) (outer:List PySem.Env) (s:Shared) (H:Hp) (E:XK),Room k (A.deeper (Ey x (aF st) s.heap.objs.size f cdv)) ->
  PSs (kF (CXM Pg w) Pg w K mg base N x (aF st) f cdv A outer s H E) (cL st) (tS K (PX cl E) F)):aD Pg w K mg base (CXM Pg w) (k+1) x ps (spM K cl (bS ps.length N.length F)) :=
 let ⟨f,fd,Fu,m,b⟩:=Fa
 ⟨f,fd,aH9 Fu S hb,m,Fu.kp,b⟩
end
end Mir
namespace Mir
open PySem L2
open PySem.W (Frag looks_findIn looks_find looks_mroIn findIn mroIn specialIn takesIn clsIn findObj notCls subIn looks_subIn Looks)
section
variable {prog:Program}{w:World}{A:Around}{E:Value->Shared->Prop}{s:Shared}{K:Frag}{C x:Addr}{ox:Obj}
structure XCls (K:Frag)(C:Addr):Prop where
 ga:findIn K (.ref C) "__getattribute__" = some (some (.builtin "BaseException.__getattribute__"))
 gh:findIn K (.ref C) "__getattr__" = some none
 cl:findIn K (.ref C) "__class__" = some (some (.builtin "object.__class__"))
 ob:mroIn K C (.type "object")=some true
 be:subIn K (.ref C) (.type "BaseException")=some true
 is:(clsIn K C).isSome=true
theorem eD.type {M:Model}{h:Heap}(I:eD x C h):Looks M h (typeOf (.ref x)) (.ref C):=by
 obtain⟨o,e,c,_⟩:=I;intro A Q E s k q;exact wpAny_bind (wpAny_loadPart (k _ _ e) (wpAny_pure (c▸q)))
theorem aQe {tp:Value}{R:Result->Shared->Prop}(c:XCls K C)(X:K.In s.heap)(I:eD x C s.heap)(q:R (.ok (.ret (.ref C))) s) :
 codeAny (model prog w) A (.call (.builtin "getset_descriptor.__get__") ⟨[.builtin "object.__class__",.ref x,tp],[]⟩) R s:=by
 have l0:=I.type (M:=model prog w);have l1:=looks_mroIn (M:=model prog w) X c.ob;rw[show ("object":String) = ".".intercalate ("object.__class__".cutAt '.').dropLast from (congrArg Prod.fst PySem.W.KF.owner_class).symm]at l1
 have ty:s.TypeIs (.builtin "object.__class__") "getset_descriptor":=F.typeOf_object_class;refine codeAny_call_builtin F.slot_gs_get.plain F.entry_gs_get (F.slot_gs_get.check _ _ _ _ _ _ _ _ ty (F.args_gs_get _ _ _) ?_)
 obtain⟨h,g,d,t,os⟩:=s;repeat (any_goals (first | assumption | with_reducible refine l0.at ?_ | with_reducible refine l1.at ?_ | wp_step))
 refine And.intro (Code.quiet_builtin _ (by decide +kernel)) (codeAny_builtin PySem.W.KF.entry_class ?_)
 repeat (any_goals (first | assumption | with_reducible refine l0.at ?_ | wp_step))
theorem aMc {tk:Tok}{Q:Fin->Shared->Prop}(c:XCls K C)(X:K.In s.heap)(I:eD x C s.heap)(q:Q (.done (.ret (.ref C))) s) :
 wpAny (model prog w) A (Builtin.«object.__getattribute__» ⟨[.ref x,.str "__class__" tk],[]⟩) Q E s:=by
 have l0:=I.type (M:=model prog w);have l1:=looks_findIn (M:=model prog w) X c.cl;have f1:s.TypeIs (.builtin "object.__class__") "getset_descriptor":=F.typeOf_object_class;have f2:=F.typeOf_object_class;have f3:=F.slot_gs_get.lookup;have f4:=F.slot_gs_set.lookup;obtain⟨h,g,d,t,os⟩:=s;repeat (any_goals (first | assumption | with_reducible refine l0.at ?_ | with_reducible refine l1.at ?_ | wp_step))
 exact aQe c X I (wpAny_pure q)
theorem aQ9 {nv:Value}{Q:Unit->Shared->Prop}(c:XCls K C)(X:K.In s.heap)(I:eD x C s.heap)(q:Q () s):wpAny (model prog w) A (checkBuiltinCall "BaseException.__getattribute__" ⟨[.ref x,nv],[]⟩) Q E s:=by
 have li:Looks (model prog w) s.heap (isInstance (.ref x) (.type "BaseException")) true:=I.type.andThen (looks_subIn X c.be);have k1:=show builtinKind "BaseException.__getattribute__" = some .slot by decide +kernel
 have k2:=show splitId "BaseException.__getattribute__" = some ("BaseException","__getattribute__") by decide +kernel
 have k3:=F.args_bexc_ga (.ref x) nv;obtain⟨h,g,d,t,os⟩:=s;simp only[checkBuiltinCall,k1,k2];refine wpAny_bind (li.at ?_)
 repeat any_goals first | assumption | wp_step
theorem aSo {Q:Option Value->Shared->Prop}(c:XCls K C)(X:K.In s.heap)(I:eD x C s.heap)(q:Q (some (.ref C)) { s with toks:=s.toks+1 }) :
 wpAny (model prog w) A (getAttr? (.ref x) "__class__") Q E s:=by
 have l0:=I.type (M:=model prog w);have l1:=looks_findIn (M:=model prog w) X c.ga;have l2:=looks_findIn (M:=model prog w) X c.gh
 have n1:(onTheHeap (Value.ref C)&&Value.builtin "BaseException.__getattribute__" == Value.builtin "object.__getattribute__")=false:=by
  rw[show (Value.builtin "BaseException.__getattribute__" == Value.builtin "object.__getattribute__")=false by decide +kernel,Bool.and_false]
 have l3:=F.excAttr_ValueError.ga.bind (.ref x);obtain⟨h,g,d,t,os⟩:=s;repeat (any_goals (first | assumption | with_reducible refine l0.at ?_ | with_reducible refine l1.at ?_ | with_reducible refine l2.at ?_ | wp_step))
 refine codeAny_call_builtin F.excAttr_ValueError.ga.plain F.entry_bexc_ga (aQ9 c X I (aMc c X I ?_))
 repeat any_goals first | assumption | wp_step
theorem sH (e:(clsIn K C).isSome=true):∃ c d cd sl,K.lookup C=some ⟨c,d,.cls cd,sl⟩:=by
 unfold clsIn at e;cases q:K.lookup C with
 | none=>simp[q]at e
 | some o =>
  obtain⟨c,d,da,sl⟩:=o;cases da<;>first | exact⟨_,_,_,_,rfl⟩ | simp[q]at e
theorem aCw (c:XCls K C):PySem.W.KitX K (.ref x) (.ref C) (eD x C) where
 ty _ _ _ I:=I.type
 it M h X _:=by
  obtain⟨k,d,cd,sl,e⟩:=sH c.is;intro A Q E s st q;exact wpAny_bind (wpAny_loadPart (st _ _ (X _ _ e)) (wpAny_pure q))
 ne h tp dd its n sl X e:=by
  obtain⟨k,d,cd,sl',e'⟩:=sH c.is;by_cases z:C=tp
  · subst z
    exact absurd ((X _ _ e').symm.trans e) (by simp)
  · simpa using z
 ca X I q:=aSo c X I q
end
end Mir
namespace Mir
open PySem L2
variable {X:Cx}{P:XP}{a b c e:Expr}{es:List Expr}{f g:FE}{fs:FEs}{pos p:Pos}
structure XTab (K:PySem.W.Frag):Prop where
 cl:∀ c:XC,XCls K (clK K c)
 xx:∀ c d:XC,Bl K (.ref (clK K d)) (.ref (clK K c))=some (decide (d=c))
 xv:∀ d:XC,Bl K (.ref (clK K d)) (.type "ValueError")=some true
 tx:∀ t∈["NoneType","bool","int","str","list","tuple"],∀ c:XC,Bl K (.type t) (.ref (clK K c))=some false
inductive TyX (K:PySem.W.Frag) (H:Hp):V->Value->Prop where
 | of {v:V} {t:Value} (h:TyOf K H v t):TyX K H v t
 | exc {a C:Addr} (c:XCls K C) (h:H a=some (.ext (eD a C))):TyX K H (.ref a) (.ref C)
theorem aJd {A:Around}{E:Value->Shared->Prop}{Q:Value->Shared->Prop}{pins:List (Addr×Obj)}{σ:St}{H:Hp}{s:Shared}{x:V}{u t c:Value}{b:Bool}(I:Inv X pins σ H s)(rx:bD x u)(ty:TyX X.K H x t)
 (e:Bl X.K t c=some b) (h:∀ tk,Q (.bool b) { s with toks:=tk }):wpAny (model X.prog X.w) A (call (.builtin "isinstance") [u,c]) Q E s:=by
 cases ty with
 | of ty=>exact aBd I rx ty e h
 | @exc a C xc q =>
  cases (show u=Value.ref a from rx)
  exact Bm (aCw xc) I.kIn (I.hok a _ q).1 e (fun z=>nomatch z) h
theorem aEu {n:V}{c:Value}(rn:∀ v,bD n v->v=c):gH X (.builtin "isinstance") (fun xs H Q=>∃ x t b,xs=[x,n]/\TyX X.K H x t/\Bl X.K t c=some b/\Q (.bl b) H):=by
 intro pins s σ H xs us Q I r h;obtain⟨x,t,b,rfl,ty,e,q⟩:=h;obtain⟨u,v,rfl,r1,r2⟩:=zK r;rw[rn v r2];exact aJd I r1 ty e fun tk=>⟨.bl b,H,I.tok tk,rfl,q⟩
def isX:Option XC->D->R Bool
 | _,.obj _ _=>.stk
 | _,.any=>.stk
 | _,.dct _ _=>.stk
 | some c,.exc d _=>.ok (decide (d=c))
 | none,.exc _ _=>.ok true
 | _,_=>.ok false
def kB (c:Option XC)(a:FE):FE:=fun ρ=>do
 let x ← a ρ
 let b ← isX c x.d
 .ok (sc (.bl b))
def vX (K:PySem.W.Frag):Option XC->V
 | some c=>.ref (clK K c)
 | none=>.ty "ValueError"
def aI7 (K:PySem.W.Frag):Option XC->Value
 | some c=>.ref (clK K c)
 | none=>.type "ValueError"
theorem aKp {K:PySem.W.Frag}:∀ c:Option XC,∀ v,bD (vX K c) v->v=aI7 K c
 | some _,_,h=>h
 | none,_,h=>h
theorem aOx {t:String}(h:t∈["NoneType","bool","int","str","list","tuple"]){K:PySem.W.Frag}:Bl K (.type t) (.type "ValueError")=some false:=by
 simp only[Ag,Ai,or_false]at h;rcases h with rfl | rfl | rfl | rfl | rfl | rfl<;>rfl
theorem aHs {c:Option XC}{d:D}{x:Xc}(h:isX c d=.exc x):False:=by
 cases c<;>cases d<;>simp[isX]at h
theorem aM.tyX {K:PySem.W.Frag}{H0 H H':Hp}{B:Addr->Prop}{v:V}{r:Res}{c:Option XC}{b:Bool}(T:XTab K)(g:aM K H0 H H' B v r)(e:isX c r.d=.ok b):∃ t,TyX K H' v t/\Bl K t (aI7 K c)=some b:=by
 cases k:r.d with
 | obj n ds=>rw[k]at e;cases c<;>simp[isX]at e
 | dct n ds=>rw[k]at e;cases c<;>simp[isX]at e
 | any=>rw[k]at e;cases c<;>simp[isX]at e
 | exc d ds =>
  have:=g.shr_of (by rw[k];rfl)
  rw[k]at this;obtain⟨_,a,rfl,q⟩:=this;refine⟨_,.exc (T.cl d) (aR.mp q).2,?_⟩
  rw[k]at e;cases c with
  | none=>simp[isX]at e;subst e;exact T.xv d
  | some c=>simp only[isX,R.ok.injEq]at e;rw[←e];exact T.xx c d
 | _ =>
  have ty:TyOf K H' v (.type (tyD r.d)):=g.ty (by rw[k];exact fun _ _ z=>by cases z) (by rw[k];exact fun _ _ z=>by cases z) (by rw[k];exact fun z=>by cases z) (by rw[k];exact fun _ _ z=>by cases z)
  rw[k]at e ty;refine⟨_,.of ty,?_⟩
  cases c with
  | none=>simp[isX]at e;subst e;exact aOx (by simp[tyD])
  | some c=>simp[isX]at e;subst e;exact T.tx _ (by simp[tyD]) c
theorem fR {c:Option XC}{y:Str}{p2:Pos}(T:XTab X.K)(hg:Gl X "isinstance")(hm:X.mg "isinstance" = none)(ha:PE X a (tE X.K P f))(hb:PE X (.Name y p2) (tC (vX X.K c)))(he:starEach [a,.Name y p2] X.env=[(false,eval a X.env),(false,eval (.Name y p2) X.env)]:=by rfl)
 (he2:starEach [.Name y p2] X.env=[(false,eval (.Name y p2) X.env)]:=by rfl):PE X (.Call (.Name "isinstance" p) [a,.Name y p2] [] pos) (tE X.K P (kB c f)):=by
 refine PE.imp (gV (aEu (aKp (K:=X.K) c)) hg hm (by decide +kernel) (iB ha (iB hb nE he2) (by rw[he,he2])) (he:=by rw[he,he2]) (hpl:=by rw[he2];rfl)) ?_
 intro σ H Q h;refine t1 (q:=fun v H1=>∃ x t b,[v,vX X.K c]=[x,vX X.K c]/\TyX X.K H1 x t/\Bl X.K t (aI7 X.K c)=some b/\Q (.bl b) H1) h ?_
 intro H0 B ρ v H' r d g s h;cases e:isX c r.d with
 | stk=>simp[e]at h
 | exc x=>exact(aHs e).elim
 | ok b =>
  simp only[e,R.ok_bind]at h;obtain⟨t,ty,kk⟩:=g.tyX T e;exact⟨v,t,b,rfl,ty,kk,h _ H' (aG.refl _) (aM.sc (show Rep _ _ (.bl _) _ from rfl))⟩
end Mir
namespace Mir
open PySem L2
variable {X:Cx}{P:XP}{pins:List (Addr×Obj)}{σ:St}{H H':Hp}{s s':Shared}{ea C:Addr}
abbrev reC (X:Cx)(A:Around)(cm:Bool)(pn:List (Addr×Obj))(xe:Value->Shared->Prop):Cx:={ X with A:=A,calm:=cm,pn:=pn,xe:=xe }
theorem aEc {A:Around}{cm:Bool}{pn pins':List (Addr×Obj)}{xe:Value->Shared->Prop}(I:Inv X pins σ H s)(hA:A.frames=X.A.frames)(hc:cm=true->A.handled=none)(hp:∀ p∈pn++pins',p∈X.pn++pins):Inv (reC X A cm pn xe) pins' σ H s :=
 have k:=I.ok
 ⟨⟨k.mod,k.kind,k.glob,k.blt,k.above,k.inj,k.has,k.cab,hc,hA.trans k.frames,k.stk,k.exf,k.bs,k.bsz,k.noex,k.exfs,k.funs,k.frf⟩,I.os,I.bare,I.base,I.loc,I.cell,I.free,I.freeC,fun p h=>I.pin p (hp p h),I.hok,I.len⟩
theorem yV {A:Around}{cm:Bool}{pn pins':List (Addr×Obj)}{xe:Value->Shared->Prop}(I:Inv (reC X A cm pn xe) pins' σ H s)(hA:A.frames=X.A.frames)(hc:X.calm=true->X.A.handled=none)(hp:∀ p∈X.pn++pins,p∈pn++pins'):Inv X pins σ H s :=
 have k:=I.ok
 ⟨⟨k.mod,k.kind,k.glob,k.blt,k.above,k.inj,k.has,k.cab,hc,hA.symm.trans k.frames,k.stk,k.exf,k.bs,k.bsz,k.noex,k.exfs,k.funs,k.frf⟩,I.os,I.bare,I.base,I.loc,I.cell,I.free,I.freeC,fun p h=>I.pin p (hp p h),I.hok,I.len⟩
section
variable {Pg:Program}{w:World}{l:List PySem.Env}{M:Model}{A:Around}{E:Value->Shared->Prop}{R:Shared->Prop}
theorem Fly.at {h' Bh:Heap}{a0:Value}(F:Fly Pg w l H s ea C H' s')(fl:Heap.FlyingW Bh l ea (.ref C) a0 s'.heap)(cov:∀ b o o',s.heap.get? b=some o->b∉frs l->s'.heap.get? b=some o'->Bh.get? b=some o')
 (trk:∀ b u o',H' b=some u->s'.heap.get? b=some o'->Bh.get? b=some o') (fl':Heap.FlyingW Bh l ea (.ref C) a0 h') (up:s'.heap.UpToSlots h'):Fly Pg w l H s ea C H' { s' with heap:=h' }:=by
 have same:∀ b o1 o',Bh.get? b=some o1->h'.get? b=some o'->o1=o':=fun b o1 o' q e=>Bn.inj ((fl'.1 _ _ q).symm.trans e);refine⟨F.os,F.bare,uI F.hok trk fl'.1,yA F.un F.hok cov trk fl'.1 fun b o hb q=>?_,F.new,F.unt,a0,Bh,fl',fun b o o' e n q=>?_,fun b u o' e q=>?_⟩
 · obtain⟨_,o1,e1,nf⟩:=fl.2.2.1.mem (b:=b) hb
   rw[q]at e1;cases e1;exact up b o q nf
 · obtain⟨o1,e1⟩:=F.un.there b o e (by simp)
   have q1:=cov b o o1 e n e1;exact same b o1 o' q1 q▸q1
 · obtain⟨o1,e1⟩:=bM.there (F.hok b u e)
   have q1:=trk b u o1 e e1;exact same b o1 o' q1 q▸q1
theorem Fly.lands {env:PySem.Env}{outer:List PySem.Env}{L:Addr}(F:Fly Pg w (env :: outer) H s ea C H' s')(hA:A.frames=some (env :: outer))(hf:env.frame=some L)(q:∀ h',Fly Pg w (env :: outer) H s ea C H' { s' with heap:=h' }->R { s' with heap:=h' }) :
 wpAny M A (noteFrame (.ref ea) env) (fun _ s3=>wpAny M A (setFlight (.ref ea) none) (fun _ s4=>R s4) E s3) E s':=by
 obtain⟨a0,Bh,fl,cov,trk⟩:=id F.fly;refine wpAny_looks_onW hA hf fl fun h1 x1 u1=>wpAny_landsW x1 fun h2 x2 u2=>?_
 exact q h2 (F.at fl cov trk x2 (u1.trans u2))
theorem Fly.again (F:Fly Pg w l H s ea C H' s')(q:∀ h',Fly Pg w l H s ea C H' { s' with heap:=h' }->R { s' with heap:=h' }):wpAny M A (setFlight (.ref ea) none) (fun _ s4=>R s4) E s':=by
 obtain⟨a0,Bh,fl,cov,trk⟩:=id F.fly;exact PyProof.Rows.lands_againW fl fun h1 x1 u1=>q h1 (F.at fl cov trk x1 u1)
theorem Fly.exc (F:Fly Pg w l H s ea C H' s'):eD ea C s'.heap:=by
 obtain⟨a0,Bh,fl,_,_⟩:=F.fly;obtain⟨o,vs,e1,e2,e3,_⟩:=fl.first
 exact⟨o,e1,e2,by unfold PySem.W.notCls;rw[e3]⟩
end
theorem Fly.inv (F:Fly X.prog X.w X.stack H s ea C H' s')(I:Inv X pins σ H s):Inv X pins σ H' s':=I.call' (ch:=[]) F.os F.un F.hok F.bare fun b z=>absurd z (by simp)
theorem Inv.track {φ:Heap->Prop}(I0:Inv X pins σ H s)(I:Inv X pins σ H' s')(hx:X.ex=[])(new:s.heap.get? ea=none)(unt:H' ea=none)(ok:φ s'.heap)(st:∀ h1 h2:Heap,φ h1->(∀ o,h1.get? ea=some o->h2.get? ea=some o)->φ h2)(at_:∃ o,s'.heap.get? ea=some o) :
 Inv X pins σ (upd H' ea (.ext φ)) s':=by
 have old:∀ b o,s.heap.get? b=some o->b≠ea:=fun b o e z=>by rw[z,new]at e;cases e
 have old0:∀ b o,X.s₀.heap.get? b=some o->b≠ea:=fun b o e=>by
  obtain⟨o1,e1⟩:=I0.base.there b o e (by rw[hx];simp)
  exact old b o1 e1
 have ne:∀ b u,H' b=some u->b≠ea:=fun b u e z=>by rw[z,unt]at e;cases e
 have keep:∀ b u,H' b=some u->upd H' ea (.ext φ) b=some u:=fun b u e=>by rw[aU (ne b u e)];exact e
 have bs:=I.base;refine⟨I.ok,I.os,I.bare,⟨bs.keep,bs.slot,fun b o e n hb=>?_,bs.there,fun b xs e=>keep _ _ (bs.tups b xs e),fun b o u e=>keep _ _ (bs.frzs b o u e),fun b ps e=>?_⟩,I.loc,I.cell,?_,fun x c e=>?_,fun p hp=>?_,fun b u e=>?_,I.len⟩
 · rw[aU (old0 b o e)];exact bs.free b o e n hb
 · obtain⟨more,q⟩:=bs.tbls b ps e
   exact⟨more,keep _ _ q⟩
 · obtain⟨m,⟨o,_,_,e,_⟩,_⟩:=I0.loc
   rw[aU (old _ o e)];exact I.free
 · obtain⟨v,o,q,_⟩:=I0.cell x c e
   rw[aU (old _ o q)];exact I.freeC x c e
 · obtain⟨q1,q2,q3⟩:=I.pin p hp
   rw[aU (old _ _ (I0.pin p hp).1)];exact⟨q1,q2,q3⟩
 · by_cases z:b=ea
   · subst z
     rw[bF]at e;cases e;exact⟨ok,at_,st⟩
   · rw[aU z]at e
     exact(I.hok b u e).stay (fun _ _ _ q=>q) (fun c q=>keep _ _ q) fun c xs q=>keep _ _ q
structure XTop (K:PySem.W.Frag)(T:Addr):Prop where
 ty:Dc K (.ref T)=some (.type "type")
 is:(Dg K T).isSome=true
 be:Eh K (.ref T) (.type "BaseException")=some true
 xs:∀ c:XC,Eh K (.ref (clK K c)) (.ref T)=some true
theorem aJc {M:Model}{A:Around}{E:Value->Shared->Prop}{K:PySem.W.Frag}{T:Addr}{c:XC}{Q:Bool->Shared->Prop}(t:XTop K T)(X:K.In s.heap)(I:eD ea (clK K c) s.heap)(q:Q true s):wpAny M A (excMatches (.ref ea) (.ref T)) Q E s:=by
 have l0:=I.type (M:=M);have l1:=PySem.W.looks_typeIn (M:=M) X t.ty;have l2:=PySem.W.looks_subIn (M:=M) X t.be;have l3:=PySem.W.looks_subIn (M:=M) X (t.xs c);have f:=tc_notTuple;obtain⟨k,d,cd,sl,e⟩:=sH t.is;have e':=X _ _ e;obtain⟨h,g,dr,tk,os⟩:=s;unfold excMatches;repeat (first | assumption | with_reducible refine l0.at ?_ | with_reducible refine l1.at ?_ | with_reducible refine l2.at ?_ | with_reducible refine l3.at ?_ | with_reducible refine wpAny_loadPart_at e' ?_ | wp_step)
end Mir
namespace Mir
open PySem L2
variable {X:Cx}{P:XP}{pins:List (Addr×Obj)}{σ:St}{H H':Hp}{s s':Shared}{ea C:Addr}
theorem DenS.unset {K:PySem.W.Frag}{H0 H:Hp}{T:Addr->Prop}{σ:St}{ρ:Env}(k:Nat)(d:DenS K H0 H T σ ρ):DenS K H0 H T (σ.set k none) (ρ.set k none)/\∀ a,iO (σ.set k none) (ρ.set k none) a->iO σ ρ a:=by
 have own:∀ j a,eE (σ.set k none) (ρ.set k none) j a->k≠j/\eE σ ρ j a:=fun j a ⟨h1,e,h2,h3⟩=>by
  by_cases hj:k=j
  · subst hj
    rw[Eg]at h2;split at h2<;>simp_all
  · rw[Ah hj]at h1 h2
    exact⟨hj,h1,e,h2,h3⟩
 have sub:∀ a,iO (σ.set k none) (ρ.set k none) a->iO σ ρ a:=fun a ⟨j,h⟩=>⟨j,(own j a h).2⟩;have subB:∀ a,Bs T (σ.set k none) (ρ.set k none) a->Bs T σ ρ a:=fun a z=>z.imp (sub a) id;refine⟨⟨⟨by rw[Ay,Ay];exact d.e.len,d.e.sam,fun b z=>d.e.bnd b (subB b z),fun j e he=>?_⟩,fun a z=>d.sep a (sub a z),fun i j a h1 h2=>d.dis i j a (own i a h1).2 (own j a h2).2⟩,sub⟩
 have hj:k≠j:=fun z=>by
  subst z;rw[Eg]at he;split at he<;>simp_all
 rw[Ah hj]at he;obtain⟨w,q1,q2⟩:=d.e.ent j e he;refine⟨w,by rw[Ah hj];exact q1,q2.to d.e.sam (fun _ _ q _=>q) (fun b o q _ k1 k2=>⟨q,.inl ⟨j,?_⟩⟩) fun b z=>.inl (subB b z)⟩
 exact⟨by rw[Ah hj,q1,k2],e,by rw[Ah hj];exact he,k1⟩
theorem Inv.unset {h':Heap}{m m':Str->Option Value}{k:Nat}{n:Str}(I:Inv X pins σ H s)(hN:X.N.Nodup)(hk:X.N[k]?=some n)(hn:s.heap.Ns X.env.locals m)
 (look:∀ (i:Nat) (x:Str) (v:V),X.N[i]?=some x->σ[i]?=some (some v)->Vis X.env.scope x->∃ u,bD v u/\aN6 X.env s.heap m x u) (hn':h'.Ns X.env.locals m') (hm:∀ x,x≠n->m' x=m x) (sb:Heap.SameBut X.env.locals s.heap h'):Inv X pins (σ.set k none) H { s with heap:=h' }:=by
 have neL:∀ b o,X.s₀.heap.get? b=some o->b≠X.env.locals:=fun b o e=>Ak (Aj (Ab e) I.ok.above);have kp:∀ b o,b≠X.env.locals->s.heap.get? b=some o->h'.get? b=some o:=fun b o z e=>(sb.2 b z).trans e;have nt:∀ b u,H b=some u->b≠X.env.locals:=fun b u e z=>by rw[z,I.free]at e;cases e
 have bs:=I.base;refine⟨I.ok,I.os,I.bare,⟨fun b o e q1 q2 q3=>kp _ _ (neL b o e) (bs.keep b o e q1 q2 q3),fun b o e q1 q2 q3=>?_,bs.free,fun b o e q=>?_,bs.tups,bs.frzs,bs.tbls⟩,⟨m',hn',fun i x v e1 e2 e3=>?_⟩,fun x c e=>?_,I.free,I.freeC,fun p hp=>?_,fun b u e=>?_,by rw[Ay];exact I.len⟩
 · obtain⟨sl,q⟩:=bs.slot b o e q1 q2 q3
   exact⟨sl,kp _ _ (neL b o e) q⟩
 · obtain⟨o',q'⟩:=bs.there b o e q
   exact⟨o',kp _ _ (neL b o e) q'⟩
 · have ik:k≠i:=fun z=>by
    subst z;rw[Eg]at e2;split at e2<;>simp_all
   rw[Ah ik]at e2
   have xn:x≠n:=fun z=>by
    subst z;obtain⟨l1,q1⟩:=Af.mp e1;obtain⟨l2,q2⟩:=Af.mp hk;exact ik ((Em hN).mp (q2.trans q1.symm))
   obtain⟨u,r,lk⟩:=look i x v e1 e2 e3;refine⟨u,r,?_⟩
   rcases lk with ⟨a,b⟩ | ⟨a,c,b,o,q1,q2⟩
   · exact .inl ⟨a,by rw[hm x xn];exact b⟩
   · exact .inr ⟨a,c,b,o,kp _ _ (I.cne x c b) q1,q2⟩
 · obtain⟨v,o,q1,q2⟩:=I.cell x c e
   exact⟨v,o,kp _ _ (I.cne x c e) q1,q2⟩
 · obtain⟨q1,q2,q3,q4⟩:=I.pin p hp
   exact⟨kp _ _ q3 q1,q2,q3,q4⟩
 · refine(I.hok b u e).stay (fun c v z q=>kp c v ?_ q) (fun _ q=>q) fun _ _ q=>q
   rcases z with z | z
   · rw[z];exact nt b u e
   · exact nt c _ z
theorem aSp {M:Model}{A:Around}{E:Value->Shared->Prop}{R:Shared->Prop}{k:Nat}{n:Str}{pos:Pos}(I:Inv X pins σ H s)(hN:X.N.Nodup)(hk:X.N[k]?=some n)(hl:X.env.kindOf n=some .local)(hl':X.env.scope.names.lookup n=some .local)
 (q:∀ s',Inv X pins (σ.set k none) H s'->R s'):wpAny M A (do bindName X.env n .none;unbindBehindTheSuite X.env n pos) (fun _ s1=>R s1) E s:=by
 refine wpAny_bind (wpAny_bindName (hE I hN hk (.inl hl') (v:=.non) rfl (fun s1 I1=>?_) (.inr hl')))
 have kl:k<σ.length:=by rw[I.len];exact(Af.mp hk).1
 obtain⟨m,hn,look⟩:=id I1.loc;obtain⟨u,r,lk⟩:=look k n .non hk (An kl) (.inl hl')
 have hv:m n=some u:=by
  rcases lk with ⟨_,e⟩ | ⟨e | e,_⟩
  · exact e
  · rw[hl]at e;cases e
  · rw[hl]at e;cases e
 refine wpAny_onRaise (wpAny_unbindName_local hl hn hv (by rw[I.ok.kind];rfl) fun h' w ns sb=>?_)
 have:=Inv.unset I1 hN hk hn look ns (fun x hx=>if_neg hx) sb
 rw[List.set_set]at this;exact q _ this
def wF (i k:Nat)(F:FS):FS:=fun ρ=>match F ρ with
 | .exc x ρ1=>if x.ds=[] then .nx ((ρ1.set i (some (sc (.exc x.c [])))).set k none) else .stk
 | r=>r
def PTr (K:PySem.W.Frag)(D:Ends)(i k:Nat):XP where
 p x σ H:=x.ds=[]/\∀ H' a,aG H H'->H' a=none->D.nx ((σ.set i (some (.ref a))).set k none) (upd H' a (.ext (eD a (clK K x.c))))
 mono h s:=⟨h.1,fun H' a s' n=>h.2 H' a (s.trans s') n⟩
theorem aRf {α:Type}{l:List α}{i k:Nat}{a b c:α}(h:i≠k):((l.set k a).set i b).set k c=(l.set i b).set k c:=by
 rw[List.set_comm _ _ (Ne.symm h),List.set_set]
section
variable {i k:Nat}{y n cx:Str}{np p1 p2 p3 hpos pos:Pos}{T:Addr}
abbrev sJ (cx n y:Str)(np p1 p2 p3 hpos:Pos):ExceptHandler:=.ExceptHandler (some (.Name cx np)) (some n) [.Assign [.Name y p1] (.Name n p2) p3] hpos
theorem aLe {D:Ends}{x:Xc}{pn pins2:List (Addr×Obj)}{xe:Value->Shared->Prop}(hx:X.ex=[])(hst:X.stack=X.env :: X.outer)(hf:X.env.frame=some X.env.locals)(t:XTop X.K T)(hg:Gl X cx)(hm:X.mg cx=some (.ref T))
 (hN:X.N.Nodup) (hi:X.N[i]?=some y) (hk:X.N[k]?=some n) (hik:i≠k) (ly:X.env.scope.names.lookup y=some .local) (ln:X.env.scope.names.lookup n=some .local) (kn:X.env.kindOf n=some .local)
 (hs:swapsWith (.Name n p2) (some (.Name y p1)) p3.line X.env=pure false) (d1:(cx==("__debug__":Str))=false) (d2:(n==("__debug__":Str))=false) (d3:(n==("__classdict__":Str))=false)
 (hp:∀ p∈X.pn++pins,p∈pn++pins2) (I:Inv (reC X X.A X.calm pn xe) pins2 σ H s) (F:Fly X.prog X.w X.stack H s ea (clK X.K x.c) H' s') (px:(PTr X.K D i k).p x σ H') :
 wpAny (model X.prog X.w) X.A (noteFrame (.ref ea) X.env) (fun _ s2=>wpAny (model X.prog X.w) X.A (setFlight (.ref ea) none) (fun _ s3=>wpAny (model X.prog X.w) X.A (handleBy (.ref ea) X.env [sJ cx n y np p1 p2 p3 hpos]) (SP X pins D) X.xe s3) X.xe s2) X.xe s':=by
 have fr:X.A.frames=some (X.env :: X.outer):=by rw[←hst];exact I.ok.frames
 rw[hst]at F;refine Fly.lands F fr hf fun h4 F4=>?_
 rw[←hst]at F4;have I4:=Fly.inv (X:=reC X X.A X.calm pn xe) F4 I;refine wpAny_handleBy_cons (codeAny_handlers_test ?_) fun z=>nomatch z
 refine lZ (X:=reC X (X.A.mark (some (.ref ea))) false pn xe) (aEc (X:=reC X X.A X.calm pn xe) I4 rfl (fun z=>nomatch z) fun _ z=>z) hg hm ?_ d1
 refine aJc t I4.kIn F4.exc ?_
 refine codeAny_handlers_suite_as (Fly.again F4 fun h5 F5=>?_)
 have I5:=Fly.inv (X:=reC X X.A X.calm pn xe) F5 I;have I6:=Inv.track I I5 hx F5.new F5.unt F5.exc (fun h1 h2 a b=>a.stay b) (let ⟨o,e,_⟩:=F5.exc;⟨o,e⟩)
 refine hE (X:=reC X X.A X.calm pn xe) I6 hN hk (.inl ln) (v:=.ref ea) rfl (fun s7 I7=>?_) (.inr ln)
 have kl:k<Ew σ:=by rw[I.len];exact(Af.mp hk).1
 refine thn (oM (aE5 (X:=reC X (X.A.mark (some (.ref ea))) false pn _) hN hi (.inl ly) (kT hk (.inl ln) d2 d3) hs (.inr ly)) pins2 s7 _ _
  ⟨fun σ8 H8=>σ8=(σ.set k (some (.ref ea))).set i (some (.ref ea))/\H8=upd H' ea (.ext (eD ea (clK X.K x.c))),fun _ _=>False,fun _ _=>False,fun _ _=>False⟩
  (aEc (X:=reC X X.A X.calm pn xe) I7 rfl (fun z=>nomatch z) fun _ z=>z) ⟨.ref ea,An kl,rfl,rfl⟩) fun f s8 q=>?_
 cases f with
 | next =>
  obtain⟨_,_,I8,rfl,rfl⟩:=q;have I9:L2.Inv X pins _ _ s8:=yV I8 rfl I.ok.hd hp;refine aSp I9 hN hk kn ln fun s9 I10=>⟨_,_,I10,?_⟩
  rw[aRf hik];exact px.2 H' ea (aG.refl _) F5.unt
 | brk=>obtain⟨_,_,_,z⟩:=q;exact z.elim
 | cont=>obtain⟨_,_,_,z⟩:=q;exact z.elim
 | ret v=>obtain⟨_,_,_,_,_,z⟩:=q;exact z.elim
theorem aNu {body:List Stmt}{F:FS}(hx:X.ex=[])(hst:X.stack=X.env :: X.outer)(hf:X.env.frame=some X.env.locals)(t:XTop X.K T)(hg:Gl X cx)(hm:X.mg cx=some (.ref T))
 (hN:X.N.Nodup) (hi:X.N[i]?=some y) (hk:X.N[k]?=some n) (hik:i≠k) (ly:X.env.scope.names.lookup y=some .local) (ln:X.env.scope.names.lookup n=some .local) (kn:X.env.kindOf n=some .local)
 (hb:∀ (pn:List (Addr×Obj)) (xe:Value->Shared->Prop) (P':XP),Thr (CXM X.prog X.w) (clK X.K) (reC X X.A X.calm pn xe) P'->PassesOwn (model X.prog X.w) X.A X.env xe->PSs (reC X X.A X.calm pn xe) body (tS X.K P' F))
 (hs:swapsWith (.Name n p2) (some (.Name y p1)) p3.line X.env=pure false:=by rfl) (d1:(cx==("__debug__":Str))=false:=by decide) (d2:(n==("__debug__":Str))=false:=by decide) (d3:(n==("__classdict__":Str))=false:=by decide) :
 PS X (.Try body [sJ cx n y np p1 p2 p3 hpos] [] [] pos) (tS X.K P (wF i k F)):=by
 intro pins s σ H D I h;obtain⟨H0,W,ρ,d,h⟩:=h;refine wpAny_Try_except ?_
 have run:=hb (X.pn++pins) (fun e s1=>wpAny (model X.prog X.w) X.A (noteFrame e X.env) (fun _ s2=>wpAny (model X.prog X.w) X.A (setFlight e none) (fun _ s3=>wpAny (model X.prog X.w) X.A (handleBy e X.env [sJ cx n y np p1 p2 p3 hpos]) (SP X pins D) X.xe s3) X.xe s2) X.xe s1) (PTr X.K D i k) (fun pins2 σ2 H2 s2 e s3 I2 z=>by
  obtain⟨ea,C,H3,rfl,Fl,x,hC,px⟩:=z;cases hC
  exact aLe hx hst hf t hg hm hN hi hk hik ly ln kn hs d1 d2 d3 (fun p z=>Dw _ z) I2 Fl px) (PassesOwn.looking (K:=fun e s2=>wpAny (model X.prog X.w) X.A (setFlight e none) (fun _ s3=>wpAny (model X.prog X.w) X.A (handleBy e X.env [sJ cx n y np p1 p2 p3 hpos]) (SP X pins D) X.xe s3) X.xe s2)) [] s σ H D (aEc I rfl I.ok.hd (by simp)) ⟨H0,W,ρ,d,?_⟩
 · have back:∀ {σ' H' s1 xe},L2.Inv (reC X X.A X.calm (X.pn++pins) xe) [] σ' H' s1->L2.Inv X pins σ' H' s1:=fun J=>yV J rfl I.ok.hd (by simp)
   refine wpAny_mono run (fun f s1 q=>?_) fun _ _ z=>z
   cases f with
   | next=>obtain⟨σ1,H1,J,q⟩:=q;exact wpAny_execs_nil ⟨σ1,H1,back J,q⟩
   | brk=>obtain⟨σ1,H1,J,q⟩:=q;exact⟨σ1,H1,back J,q⟩
   | cont=>obtain⟨σ1,H1,J,q⟩:=q;exact⟨σ1,H1,back J,q⟩
   | ret v=>obtain⟨u,σ1,H1,J,q⟩:=q;exact⟨u,σ1,H1,back J,q⟩
 · unfold wF at h
   cases e:F ρ with
   | exc x ρ1 =>
    rw[e]at h;dsimp only at h
    by_cases z:x.ds=[]
    · rw[if_pos z]at h
      intro σ1 H1 d1 x1;refine⟨z,fun H2 a s2 na=>?_⟩
      have s3:aG H2 (upd H2 a (.ext (eD a (clK X.K x.c)))):=fun b o q=>by rw[aU (aZ q na)];exact q
      have d3:=d1.mono (s2.trans s3);have nb:∀ o,(upd H2 a (.ext (eD a (clK X.K x.c)))) a=some o->stab o=true:=fun o q=>by rw[bF]at q;cases q;rfl
      have d4:=d3.set_shr (i:=i) (v:=.ref a) (fr:=true) (dd:=.exc x.c []) ⟨rfl,a,rfl,aR.mpr ⟨fun q=>?_,bF⟩⟩
      · have d5:=d4.1.unset k
        exact h _ _ d5.1 ((x1.trans (Ext.same (s2.trans s3))).trans ⟨fun _ _ q _=>q,fun b q=>.inl (d4.2 b (d5.2 b q))⟩)
      · rcases q with q | ⟨_,o,q1,q2⟩
        · obtain⟨o,q1,q2⟩:=d3.e.bnd a q
          rw[nb o q1]at q2;cases q2
        · rw[nb o (d3.e.sam a o q1)]at q2;cases q2
    · rw[if_neg z]at h
      exact h.elim
   | _=>rw[e]at h;exact h
end
structure XAll (K:PySem.W.Frag)(mg:Str->Option Value)(T:Addr):Prop where
 flat:mg "FlatError" = some (.ref T)
 top:XTop K T
 tab:XTab K
 nm:∀ c:XC,mg c.nm=some (.ref (clK K c))
 ex:∀ c:XC,c≠.BadRows->c≠.NoBox->Bc K (clK K c) bmV "ValueError.__new__" = true
end Mir
namespace Mir
open PySem L2
variable {K:PySem.W.Frag}
def noL (K:PySem.W.Frag):Bool:=K.all fun p=>!(p.2.cls==Value.type "list")
theorem aLm (h:noL K=true){a:Addr}{o:Obj}(e:K.lookup a=some o):o.cls≠.type "list":=fun c=>by
 have m:(a,o)∈K:=by
  clear h c
  induction K with
  | nil=>cases e
  | cons p r ih =>
   obtain⟨b,u⟩:=p;rw[Aw]at e;cases q:a==b with
   | true=>rw[q]at e;cases e;rw[eq_of_beq q];exact Ap
   | false=>rw[q]at e;exact Am _ (ih e)
 have:=Dd.mp h _ m
 rw[c]at this;simp at this
theorem rM {G:Hp}:∀ ns:List Int,aI K G (ns.map .int) (ns.map V.int)
 | []=>rfl
 | n :: r=>⟨.int n,r.map V.int,rfl,rfl,rM r⟩
theorem aLj {φ:Φ}{H:Hp}{a:Addr}{ns:List Int}(hL:noL K=true)(h:φ [.lst (ns.map .int)]=.ok (sc (.bl true)))(hS:SqL K H a (ns.map V.int)):spM K (clK K) φ [.ref a] H (fun v _=>v=.bl true) fun _ _ _=>False:=by
 have rd:Rd H a (.lst (ns.map V.int)):=by
  rcases hS with q | ⟨o,its,n,e,c,_⟩
  · exact q
  · exact absurd c (aLm hL e)
 refine⟨[.lst (ns.map .int)],fun _=>False,fun _ z=>z.elim,⟨.ref a,[],rfl,⟨a,ns.map V.int,rfl,?_,rM ns⟩,rfl⟩,?_⟩
 · rcases rd with q | ⟨o,q⟩
   · exact .inl (aR.mpr ⟨fun z=>z,q⟩)
   · exact .inr ⟨o,aR.mpr ⟨fun z=>z,q⟩⟩
 · rw[h]
   exact fun v H' _ r=>r
def XC.tab (a1 a2 a3 a4 a5 a6 a7 a8 a9 a10 a11 a12 a13 a14:Addr):XC->Addr
 | .NotAlike=>a1 | .BadCount=>a2 | .BadRows=>a3 | .BadRow=>a4 | .OtherSpace=>a5 | .BadSize=>a6 | .BadPlaces=>a7 | .ZeroSum=>a8 | .NoBox=>a9 | .BadTable=>a10 | .NoLine=>a11 | .BadName=>a12 | .NoRow=>a13 | .NoName=>a14
theorem zM {t:Value}{C:Addr}{b:Bool}(n:t≠.ref C)(h1:(Dg K C).isSome=true)(h2:Dc K (.ref C)=some (.type "type"))(h3:Eh K t (.ref C)=some b):Bl K t (.ref C)=some b:=by
 unfold Bl;rw[if_neg (fun z=>n (beq_iff_eq.mp z))];show (if ((Dg K C).isSome&&Dc K (.ref C)==some (.type "type"))=true then Eh K t (.ref C) else none)=some b
 rw[if_pos (by rw[h1,h2];rfl)]
 exact h3
abbrev aG8 (T:Addr):List Value:=[.ref T,.type "ValueError",.type "Exception",.type "BaseException",.type "object"]
structure XOne (K:PySem.W.Frag)(T:Addr)(n:Str)(C:Addr):Prop where
 ns:Av K mainGlobals n=some (some (.ref C))
 lk:∃ od cd sl,K.lookup C=some ⟨.type "type",od,.cls cd,sl⟩/\cd.mro=.ref C :: aG8 T
 ga:Ao K (.ref C) "__getattribute__" = some (some (.builtin "BaseException.__getattribute__"))
 gh:Ao K (.ref C) "__getattr__" = some none
 cl:Ao K (.ref C) "__class__" = some (some (.builtin "object.__class__"))
structure XFlat (K:PySem.W.Frag)(T:Addr):Prop where
 ns:Av K mainGlobals "FlatError" = some (some (.ref T))
 lk:∃ od cd sl,K.lookup T=some ⟨.type "type",od,.cls cd,sl⟩/\cd.mro=aG8 T
section
variable {T C:Addr}{n:Str}{l:List Value}
theorem aDd {od:Option Addr}{cd:ClassData}{sl:Array (Option Value)}(e:K.lookup C=some ⟨.type "type",od,.cls cd,sl⟩):Dg K C=some cd:=by unfold Dg;rw[e]
theorem aN3 {o:Obj}(e:K.lookup C=some o):Dc K (.ref C)=some o.cls:=by
 show (K.lookup C).map (·.cls)=_
 rw[e];rfl
theorem nC {v:Value}(h:∃ od cd sl,K.lookup C=some ⟨.type "type",od,.cls cd,sl⟩/\cd.mro=l)(ne:l≠[]):Ei K C v=some (l.contains v):=by
 obtain⟨od,cd,sl,e,m⟩:=h;unfold Ei;rw[aDd e,El,m,if_neg (by simpa using ne)]
theorem zT (h:∃ od cd sl,K.lookup C=some ⟨.type "type",od,.cls cd,sl⟩/\cd.mro=l):(Dg K C).isSome=true:=by
 obtain⟨od,cd,sl,e,m⟩:=h;rw[aDd e];rfl
theorem yL (h:∃ od cd sl,K.lookup C=some ⟨.type "type",od,.cls cd,sl⟩/\cd.mro=l):Dc K (.ref C)=some (.type "type"):=by
 obtain⟨od,cd,sl,e,m⟩:=h;exact aN3 e
end
theorem aGx {mg:Str->Option Value}{h:Heap}{T:Addr}{A:XC->Addr}(X:K.In h)(G:h.Ns mainGlobals mg)(t:XFlat K T)(o:∀ c:XC,XOne K T c.nm (A c))(inj:∀ c d:XC,A c=A d->c=d)(nT:∀ c,A c≠T)
 (ex:∀ c:XC,c≠.BadRows->c≠.NoBox->Bc K (A c) bmV "ValueError.__new__" = true):XAll K mg T:=by
 have e:∀ c,clK K c=A c:=fun c=>by unfold clK;rw[(o c).ns]
 refine⟨Df X G t.ns,⟨yL t.lk,zT t.lk,?_,fun c=>?_⟩,⟨fun c=>?_,fun c d=>?_,fun d=>?_,fun n hn c=>?_⟩,fun c=>?_,fun c=>?_⟩
 · exact(nC t.lk (by simp)).trans (by simp)
 · rw[e];exact(nC (o c).lk (by simp)).trans (by simp)
 · rw[e]
   exact⟨(o c).ga,(o c).gh,(o c).cl,(nC (o c).lk (by simp)).trans (by simp),(nC (o c).lk (by simp)).trans (by simp),zT (o c).lk⟩
 · rw[e,e]
   by_cases z:d=c
   · subst z
     simp[Bl]
   · refine zM (fun q=>z (inj d c (by simpa using q))) (zT (o c).lk) (yL (o c).lk) ((nC (o d).lk (by simp)).trans ?_)
     have q1:A c≠A d:=fun q=>z (inj c d q).symm;simp[z,q1,nT c]
 · rw[e]
   unfold Bl;rw[if_neg (by simp)]
   show (if PySem.W.kitMeta "ValueError" = true then Ei K (A d) (.type "ValueError") else none)=some true
   rw[if_pos (by decide +kernel)]
   exact(nC (o d).lk (by simp)).trans (by simp)
 · rw[e]
   refine zM (by simp) (zT (o c).lk) (yL (o c).lk) ?_
   simp only[Ag,Ai,or_false]at hn;rcases hn with rfl | rfl | rfl | rfl | rfl | rfl<;>rfl
 · rw[e];exact Df X G (o c).ns
 · rw[e];exact ex c
structure XRaw (K:PySem.W.Frag)(T:Addr)(n:Str)(C:Addr)(od:Option Addr)(cd:ClassData)(sl:Array (Option Value)):Prop where
 ns:Av K mainGlobals n=some (some (.ref C))
 lk:K.lookup C=some ⟨.type "type",od,.cls cd,sl⟩
 mro:cd.mro=.ref C :: aG8 T
 ga:Ao K (.ref C) "__getattribute__" = some (some (.builtin "BaseException.__getattribute__"))
 gh:Ao K (.ref C) "__getattr__" = some none
 cl:Ao K (.ref C) "__class__" = some (some (.builtin "object.__class__"))
structure FRaw (K:PySem.W.Frag)(T:Addr)(od:Option Addr)(cd:ClassData)(sl:Array (Option Value)):Prop where
 ns:Av K mainGlobals "FlatError" = some (some (.ref T))
 lk:K.lookup T=some ⟨.type "type",od,.cls cd,sl⟩
 mro:cd.mro=aG8 T
theorem XRaw.one {T C:Addr}{n:Str}{od:Option Addr}{cd:ClassData}{sl:Array (Option Value)}(x:XRaw K T n C od cd sl):XOne K T n C:=⟨x.ns,⟨od,cd,sl,x.lk,x.mro⟩,x.ga,x.gh,x.cl⟩
def XC.nr:XC->Nat
 | .NotAlike=>0 | .BadCount=>1 | .BadRows=>2 | .BadRow=>3 | .OtherSpace=>4 | .BadSize=>5 | .BadPlaces=>6 | .ZeroSum=>7 | .NoBox=>8 | .BadTable=>9 | .NoLine=>10 | .BadName=>11 | .NoRow=>12 | .NoName=>13
def XC.ofNr (n:Nat):XC:=[XC.NotAlike,.BadCount,.BadRows,.BadRow,.OtherSpace,.BadSize,.BadPlaces,.ZeroSum,.NoBox,.BadTable,.NoLine,.BadName,.NoRow,.NoName].getD n .NotAlike
theorem XC.of_nr (c:XC):XC.ofNr c.nr=c:=by cases c<;>rfl
theorem aM9 {l:List Addr}(h:l.Nodup){i j:Nat}{x:Addr}(hi:l[i]?=some x)(hj:l[j]?=some x):i=j:=by
 obtain⟨a,_⟩:=Af.mp hi;exact(List.getElem?_inj a h).mp (hi.trans hj.symm)
theorem XC.tab_at (a1 a2 a3 a4 a5 a6 a7 a8 a9 a10 a11 a12 a13 a14:Addr)(c:XC):[a1,a2,a3,a4,a5,a6,a7,a8,a9,a10,a11,a12,a13,a14][c.nr]?=some (XC.tab a1 a2 a3 a4 a5 a6 a7 a8 a9 a10 a11 a12 a13 a14 c):=by cases c<;>rfl
theorem xall_mk {mg:Str->Option Value}{h:Heap}{T a1 a2 a3 a4 a5 a6 a7 a8 a9 a10 a11 a12 a13 a14:Addr}{od0 od1 od2 od3 od4 od5 od6 od7 od8 od9 od10 od11 od12 od13 od14:Option Addr}{cd0 cd1 cd2 cd3 cd4 cd5 cd6 cd7 cd8 cd9 cd10 cd11 cd12 cd13 cd14:ClassData}{sl0 sl1 sl2 sl3 sl4 sl5 sl6 sl7 sl8 sl9 sl10 sl11 sl12 sl13 sl14:Array (Option Value)}
 (X:K.In h) (G:h.Ns mainGlobals mg) (t:FRaw K T od0 cd0 sl0) (o1:XRaw K T "NotAlike" a1 od1 cd1 sl1) (o2:XRaw K T "BadCount" a2 od2 cd2 sl2) (o3:XRaw K T "BadRows" a3 od3 cd3 sl3) (o4:XRaw K T "BadRow" a4 od4 cd4 sl4) (o5:XRaw K T "OtherSpace" a5 od5 cd5 sl5) (o6:XRaw K T "BadSize" a6 od6 cd6 sl6) (o7:XRaw K T "BadPlaces" a7 od7 cd7 sl7) (o8:XRaw K T "ZeroSum" a8 od8 cd8 sl8) (o9:XRaw K T "NoBox" a9 od9 cd9 sl9) (o10:XRaw K T "BadTable" a10 od10 cd10 sl10) (o11:XRaw K T "NoLine" a11 od11 cd11 sl11) (o12:XRaw K T "BadName" a12 od12 cd12 sl12) (o13:XRaw K T "NoRow" a13 od13 cd13 sl13) (o14:XRaw K T "NoName" a14 od14 cd14 sl14)
 (e1:Bc K a1 bmV "ValueError.__new__" = true) (e2:Bc K a2 bmV "ValueError.__new__" = true) (e4:Bc K a4 bmV "ValueError.__new__" = true) (e5:Bc K a5 bmV "ValueError.__new__" = true) (e6:Bc K a6 bmV "ValueError.__new__" = true) (e7:Bc K a7 bmV "ValueError.__new__" = true) (e8:Bc K a8 bmV "ValueError.__new__" = true) (e10:Bc K a10 bmV "ValueError.__new__" = true) (e11:Bc K a11 bmV "ValueError.__new__" = true) (e12:Bc K a12 bmV "ValueError.__new__" = true) (e13:Bc K a13 bmV "ValueError.__new__" = true) (e14:Bc K a14 bmV "ValueError.__new__" = true)
 (nd:[T,a1,a2,a3,a4,a5,a6,a7,a8,a9,a10,a11,a12,a13,a14].Nodup):XAll K mg T:=by
 have nd2:=Cg.mp nd;have at':=XC.tab_at a1 a2 a3 a4 a5 a6 a7 a8 a9 a10 a11 a12 a13 a14;refine aGx (A:=XC.tab a1 a2 a3 a4 a5 a6 a7 a8 a9 a10 a11 a12 a13 a14) X G ⟨t.ns,od0,cd0,sl0,t.lk,t.mro⟩ (fun c=>?_) (fun c d q=>?_) (fun c q=>?_) fun c n1 n2=>?_
 · cases c<;>exact XRaw.one (by assumption)
 · rw[←XC.of_nr c,←XC.of_nr d,aM9 nd2.2 (at' c) ((at' d).trans (congrArg some q.symm))]
 · exact nd2.1 (q▸Bw (at' c))
 · cases c<;>first | assumption | exact absurd rfl n1 | exact absurd rfl n2
structure At (K:PySem.W.Frag)(x:Str)(st:Stmt)(f:Addr)(oc kV doc pm cdv ct:Value)(od an:Option Addr)(sl:Array (Option Value)):Prop where
 ns:Av K mainGlobals x=some (some (.ref f))
 lk:K.lookup f=some ⟨oc,od,.func (By x x (eL st) (cL st) (aF st) .none kV doc pm an cdv ct),sl⟩
 cd:Cq K cdv x=true
 kp:Cd K (.ref f)=true
end Mir
namespace L2
open PySem PySem.Spec PyProof.Rows
def Ite (K:PySem.W.Frag)(a:Addr):It :=
 ⟨fun i H=>∃ xs x,SqL K H a xs/\xs[i]?=some x,fun i H v H'=>∃ t x,v=.ref t/\H t=none/\H'=upd H t (.tup [.int i,x])/\∀ xs,SqL K H a xs->xs[i]?=some x,fun i H=>∃ xs,SqL K H a xs/\xs.length<=i⟩
def ETn (e it a:Addr)(i:Nat)(h:Heap):Prop:=(∃ old,IsEnum h e it i old)/\h.IsListIter it a i
theorem aBm {P:Program}{w:World}{K:PySem.W.Frag}{es:List Expr}{k:Nat}{pos:Pos}{e it a:Addr}(n1:e≠it):Turn P w K (.Tuple es k pos) (Ite K a) [e,it] e (ETn e it a) where
 mem:=by simp
 obj:=fun i h st c hc=>by
  obtain⟨⟨old,he⟩,o,q1,q2,q3⟩:=st;simp only[Ag,Ai,or_false]at hc;rcases hc with z | z<;>rw[z]
  · exact⟨_,he,fun v z=>nomatch z⟩
  · exact⟨o,q1,fun v z=>by rw[q3]at z;cases z⟩
 keep:=fun i h h' st kp=>⟨st.1.imp fun old he=>kp _ (by simp) _ he,st.2.at fun o q=>kp _ (by simp) o q⟩
 item:=by
  intro X hP hw hK hc i pins s σ H E I hf st hg;subst hP hw hK;obtain⟨xs,x,ha,hx⟩:=hg;obtain⟨us,ru,pu,_⟩:=I.list ha;obtain⟨u,eu,rxu⟩:=ru.get hx;obtain⟨⟨old,he⟩,hit⟩:=st;have ee:e<s.heap.objs.size:=Ab he;have ei:it<s.heap.objs.size:=by obtain⟨_,q,_⟩:=hit;exact Ab q
  refine wpAny_pyNext_enum_item he hit pu.isList (x:=u) (by simpa using eu) n1 fun h' b1 b2 b3 b4 b5=>⟨_,rfl,?_⟩
  refine wpAny_letOwnedTupleGo_enum b1 fun hp2 c1 cs=>?_
  have kp:∀ c o,c∉[e,it]->s.heap.get? c=some o->hp2.get? c=some o:=fun c o hc' q=>by
   simp only[Ag,Ai,or_false,not_or]at hc';exact cs.extBut c o hc'.1 (b5 c o hc'.1 hc'.2 q)
  have st':ETn e it a (i+1) hp2:=⟨⟨u,by push_cast;exact c1⟩,b2.extBut cs.extBut n1.symm⟩
  have pr:=cs.extBut _ _ (Bz ee) b3
  refine⟨.ref s.heap.objs.size,upd H s.heap.objs.size (.tup [.int i,x]),I.turnedNew (t':=s.toks+1) kp hf (fun c hc'=>?_) (Ad _) ⟨by show 2<=sizeLine;decide,[.int i s.toks,u],.cons ⟨_,rfl⟩ (.cons rxu .nil),⟨_,pr,rfl,_,rfl⟩⟩,rfl,
   ⟨_,x,rfl,I.fresh,rfl,fun zs hq=>by rw[I.list_inj hq ha];exact hx⟩,st',fun c hc'=>?_⟩
  · obtain⟨⟨_,d1⟩,o,d2,_⟩:=st'
    simp only[Ag,Ai,or_false]at hc';rcases hc' with z | z<;>rw[z]
    · exact⟨_,d1⟩
    · exact⟨_,d2⟩
  · have lt:c<s.heap.objs.size:=by
     simp only[Ag,Ai,or_false]at hc';rcases hc' with z | z<;>rw[z]<;>assumption
    rw[aU (Ak lt)];exact(hf c hc').1
 done:=by
  intro X hP hw hK hc i pins s σ H E I hf st hg;subst hP hw hK;obtain⟨xs,ha,hend⟩:=hg;obtain⟨us,ru,pu,_⟩:=I.list ha;have lu:=ru.length;obtain⟨⟨old,he⟩,hit⟩:=st;refine wpAny_pyNext_enum_end (I.ok.hd hc) he hit pu.isList (Array.getElem?_eq_none (by rw[Ac];omega)) fun h' kp=>⟨rfl,I.turnedL (t':=s.toks) (fun c o hc' q=>?_) hf⟩
  simp only[Ag,Ai,or_false,not_or]at hc';exact kp c o hc'.2 q
 self:=fun _ _ _ _ _ st h=>let ⟨⟨_,he⟩,_⟩:=st;wpAny_pyIter_enum he h
def aMv (K:PySem.W.Frag)(ta:TA):TI:=fun σ H R=>ta σ H fun vs H1=>∃ a,vs=[.ref a]/\(∃ xs,SqL K H1 a xs)/\R (Ite K a) H1
theorem aGh {X:Cx}{es:List Expr}{k:Nat}{tp:Pos}{a:Expr}{t:TA}{p pos:Pos}(hg:Gl X "enumerate")(hm:X.mg "enumerate" = none)(ha:PA X [a] t)(hs:starEach [a] X.env=[(false,eval a X.env)]:=by rfl) :
 PI X (.Tuple es k tp) (.Call (.Name "enumerate" p) [a] [] pos) (aMv X.K t):=by
 intro pins s σ H R I h;refine Call_ (eY I hg hm (show bootBuiltins "enumerate" = some (.type "enumerate") by decide +kernel) (Ar (thn (ha pos pins s σ H _ I h) fun us s1 ⟨vs,H1,I1,r1,x,e,⟨xs,hx⟩,q⟩=>?_) (by rw[hs];rfl) rfl))
 subst e;obtain⟨u,rfl,rx⟩:=iA r1;cases rx;obtain⟨us',ru,pu,zu⟩:=I1.list hx;refine call_enumerate_list pu.isList fun h1 he hit hsz hk=>wpAny_pyIter_enum he ?_
 have big:∀ c∈[s1.heap.objs.size+1,s1.heap.objs.size],s1.heap.objs.size<=c:=fun c hc'=>by
  simp only[Ag,Ai,or_false]at hc';rcases hc' with z | z<;>rw[z]
  · exact Bd _ 1
  · exact Ad _
 exact⟨_,[s1.heap.objs.size+1,s1.heap.objs.size],_,_,H1,rfl,I1.kept (t':=s1.toks) hk,aBm (Nat.succ_ne_self _),⟨⟨_,he⟩,hit⟩,fun c hc'=>I1.fpOk (big c hc') (I1.hok.fresh (big c hc')),q⟩
end L2
namespace Mir
open PySem L2
variable {X:Cx}{P:XP}{a b c e:Expr}{es:List Expr}{f g:FE}{fs:FEs}{pos p:Pos}
def nV (ds:List D):List D:=ds.zipIdx.map fun x=>.tup [.int x.2,x.1]
def aBn (a:FE):FI:=fun ρ=>do
 let x ← a ρ
 let xs ← asL x.d
 .ok ⟨x.k != .own,x.fr,nV xs⟩
theorem aAm {K:PySem.W.Frag}{H0 H':Hp}{B:Addr->Prop}{a:Addr}{xs:List V}{ds:List D}{st fr:Bool}(hs:st=true->¬ B a)(h2:Rd H' a (.lst xs))(h3:aI K (aX fr H0 H' B) ds xs):nU K H0 H' B (Ite K a) ⟨st,fr,nV ds⟩:=by
 refine⟨fun c=>c=a,fun h c z=>z▸hs h,fun H2 B2 j1 j2 j3 j4 j5 i=>?_⟩
 have q1:SqL K H2 a xs:=.inl (lK h2 fun o=>j1 a o rfl);have l1:=h3.length;refine⟨fun hi=>⟨xs,q1,?_⟩,fun d hd=>?_⟩
 · simp[nV]at hi;omega
 · cases e1:ds[i]? with
   | none=>simp[nV,e1]at hd
   | some d1 =>
    have ed:d=.tup [.int i,d1]:=by simp[nV,e1]at hd;exact hd.symm
    subst ed;obtain⟨v,hv,rv⟩:=h3.get e1;refine⟨⟨xs,v,q1,hv⟩,fun x H3 y=>?_⟩
    obtain⟨t,x1,e3,e4,e5,y2⟩:=y;have z1:=y2 xs q1;rw[hv]at z1;cases z1;subst e3;subst e5;refine⟨aG.upd_new e4,t,[.int i,v],rfl,aR.mpr ⟨fun z=>?_,bF⟩,.int i,[v],rfl,rfl,v,[],rfl,?_,rfl⟩
    · rcases z with z | ⟨_,o,z,_⟩
      · obtain⟨o,q⟩:=j4 t z;rw[e4]at q;cases q
      · rw[j5 _ _ z]at e4;cases e4
    · exact Rep.same (aO (fun b o q n=>aG.upd_new e4 b o (j2 b o q n)) j3) rv
theorem tD {ts:List Expr}{k:Nat}{tp:Pos}(hg:Gl X "enumerate")(hm:X.mg "enumerate" = none)(ha:PE X a (tE X.K P f))(hs:starEach [a] X.env=[(false,eval a X.env)]:=by rfl) :
 PI X (.Tuple ts k tp) (.Call (.Name "enumerate" p) [a] [] pos) (tI X.K P (aBn f)):=by
 refine PI.imp (aGh hg hm (aA ha aB hs) hs) ?_
 intro σ H Rq h
 have e:aBn f=fun ρ=>evs [f] ρ >>= fun rs=>match rs with | [x]=>(asL x.d >>= fun xs=>.ok ⟨x.k != .own,x.fr,nV xs⟩) | _=>.stk:=by
  funext ρ
  unfold aBn evs;cases f ρ<;>rfl
 rw[e]at h;refine aBi (q:=fun vs H1=>∃ a,vs=[.ref a]/\(∃ xs,SqL X.K H1 a xs)/\Rq (Ite X.K a) H1) h ?_
 intro H0 B ρ vs H' rs d0 d gs s h;match vs,rs,gs with
 | [],rs,gs=>have e:rs=[]:=gs;subst e;exact h.elim
 | [v],_,⟨r,rr,e1,g1,g2⟩ =>
  subst e1;rw[show rr=[] from g2]at h
  cases e2:asL r.d with
  | stk=>simp[e2]at h
  | exc x=>exact(dD e2).elim
  | ok ds =>
   simp only[e2,R.ok_bind]at h;obtain⟨a,xs,h1,h2,h3⟩:=g1.list (cX e2);exact⟨a,by rw[h1],⟨xs,.inl h2⟩,h _ H' (aG.refl _) (aAm (fun hk=>g1.notB d0 (cX e2) h1 hk) h2 h3)⟩
 | v :: w :: _,_,⟨r,rr,e1,g1,r2,rr2,e2,g2⟩ =>
  subst e1;subst e2;exact h.elim
end Mir
namespace En
open PySem Zp PyProof.Rows
abbrev trc (t:Addr)(i:Nat):Obj:={ cls:=.type "tuple_iterator",data:=.fields #[.ref t,.int i 0] }
section
variable {prog:Program}{w:World}{A:Around}{E:Value->Shared->Prop}{s:Shared}{it t e:Addr}{i:Nat}{items:Array Value}
theorem aPp {x:Value}{Q:Value->Shared->Prop}(ho:s.heap.get? it=some (trc t i))(ht:IsTup s.heap t items)(hx:items[i]?=some x)
 (q:∀ h',h'.get? it=some (trc t (i+1))->Heap.SameBut it s.heap h'->Q x { s with heap:=h' }):wpAny (model prog w) A (Builtin.SmallTypes.nextOf (.ref it)) Q E s:=by
 have ty:s.TypeIs (.ref it) "tuple_iterator":=⟨_,ho,rfl⟩;obtain⟨o,h1,h2,n,h3⟩:=ht;have hx':items[(i:Int).toNat]?=some x:=by rw[Cp];exact hx
 refine wpAny_bind (wpAny_callSpecial?_slot (name:=Str.ofString "__next__") ty slot_tupleiter_next (wpAny_call_entry slot_tupleiter_next ty entry_tupleiter_next ?_ (args_tupleiter_next _)))
 repeat (first | assumption | (rw[hx']) | (rw[h3]) | (with_reducible refine wpAny_field ho rfl rfl ?_) | (with_reducible refine wpAny_seqItems h1 h3 ?_) | (with_reducible refine wpAny_setField_rec ho (by simp) fun h' e1 e2=>?_) | wp_step)
 exact⟨_,rfl,wpAny_pure (q h' (e1.trans rfl) e2)⟩
theorem aO7 {Q:Value->Shared->Prop}(hh:A.handled=none)(ho:s.heap.get? it=some (trc t i))(ht:IsTup s.heap t items)(hx:items[i]?=none)
 (q:∀ h' e,Heap.ExtBut it s.heap h'->(∃ o,h'.get? e=some o/\o.cls=.type "StopIteration")->E (.ref e) { s with heap:=h' }):wpAny (model prog w) A (Builtin.SmallTypes.nextOf (.ref it)) Q E s:=by
 have ty:s.TypeIs (.ref it) "tuple_iterator":=⟨_,ho,rfl⟩;obtain⟨o,h1,h2,n,h3⟩:=ht;have hx':items[(i:Int).toNat]?=none:=by rw[Cp];exact hx
 refine wpAny_bind (wpAny_callSpecial?_slot (name:=Str.ofString "__next__") ty slot_tupleiter_next (wpAny_call_entry slot_tupleiter_next ty entry_tupleiter_next ?_ (args_tupleiter_next _)))
 repeat (first | assumption | (rw[hx']) | (rw[h3]) | (with_reducible refine wpAny_field ho rfl rfl ?_) | (with_reducible refine wpAny_seqItems h1 h3 ?_) | (with_reducible refine wpAny_setField_rec ho (by simp) fun h' e1 e2=>?_) | wp_step)
 unfold raiseNew;refine wpAny_bind (wpAny_handled ?_);rw[show A.in1.handled=none from hh]
 refine wpAny_bind (wpAny_pure (wpAny_throw (q _ _ ((e2.extBut.push _).push _) ⟨_,Ae _ rfl,rfl⟩)))
abbrev erc (it:Addr)(i:Int)(old:Value):Obj:={ cls:=.type "enumerate",data:=.fields #[.none,.bool false,.ref it,rawInt i,.none,old] }
theorem aDl {x old:Value}{Q:Fin->Shared->Prop}(he:s.heap.get? e=some (erc it i old))(ho:s.heap.get? it=some (trc t i))(ht:IsTup s.heap t items)(hx:items[i]?=some x)(ne:e≠it)
 (q:∀ h',IsEnumOut h' e it ((i:Int)+1) x s.heap.objs.size->h'.get? it=some (trc t (i+1))->h'.get? s.heap.objs.size=some { cls:=.type "tuple",data:=.seq #[.int i s.toks,x] }->(∀ b o,b≠e->b≠it->s.heap.get? b=some o->h'.get? b=some o) ->
  Q (.done (.ret (.ref s.heap.objs.size))) { s with heap:=h',toks:=s.toks+1 }):wpAny (model prog w) A (Builtin.«enumerate.__next__» ⟨[.ref e],[]⟩) Q E s:=by
 repeat (first | assumption | (with_reducible refine wpAny_field he rfl rfl ?_) | (refine aPp ho ht hx ?_) | wp_step)
 intro h1 e1 u1;have he1:h1.get? e=some (erc it i old):=u1.extBut e _ ne he;repeat (first | assumption | (with_reducible refine wpAny_field he1 rfl rfl ?_) | (with_reducible refine wpAny_setField_rec he1 (by simp) fun h2 e2 u2=>?_) | (with_reducible refine wpAny_setField_rec e2 (by simp) fun h3 e3 u3=>?_) | wp_step)
 have z:h3.objs.size=s.heap.objs.size:=u3.1.trans (u2.1.trans u1.1);have lt:e<s.heap.objs.size:=Ab he;have li:it<s.heap.objs.size:=Ab ho;have g0:(h3.push { cls:=.type "tuple",data:=.seq #[.int i s.toks,x] }).get? e=some (erc it ((i:Int)+1) old):=Aa _ (e3.trans rfl);have p0:(h3.push { cls:=.type "tuple",data:=.seq #[.int i s.toks,x] }).get? s.heap.objs.size=some { cls:=.type "tuple",data:=.seq #[.int i s.toks,x] }:=z▸Ae _ rfl;have k0:∀ b o,b≠e->h1.get? b=some o->(h3.push { cls:=.type "tuple",data:=.seq #[.int i s.toks,x] }).get? b=some o:=fun b o nb q=>Aa _ (u3.extBut b o nb (u2.extBut b o nb q))
 rw[z];generalize h3.push { cls:=.type "tuple",data:=.seq #[.int i s.toks,x] }=g at g0 p0 k0
 have a1:=Cb (Obj.mapFields fun x_1=>x_1.setIfInBounds 5 x) g0 rfl;have a2:=Cb (Obj.mapFields fun x=>x.setIfInBounds 0 (rawInt (s.heap.objs.size:Nat))) a1 rfl;have a3:=Cb (Obj.mapFields fun x=>x.setIfInBounds 1 (Value.bool false)) a2 rfl
 have up:∀ b o,b≠e->g.get? b=some o->(((g.update e (Obj.mapFields fun x_1=>x_1.setIfInBounds 5 x)).update e (Obj.mapFields fun x=>x.setIfInBounds 0 (rawInt (s.heap.objs.size:Nat)))).update e (Obj.mapFields fun x=>x.setIfInBounds 1 (Value.bool false))).get? b=some o:=fun b o nb q =>
  (Ci _ _ nb.symm).trans ((Ci _ _ nb.symm).trans ((Ci _ _ nb.symm).trans q))
 exact q _ (a3.trans rfl) (up _ _ ne.symm (k0 _ _ ne.symm e1)) (up _ _ (Bz lt) p0) fun b o n1 n2 qq=>up b o n1 (k0 b o n1 (u1.extBut b o n2 qq))
theorem dry {old:Value}{Q:Fin->Shared->Prop}(hh:A.handled=none)(he:s.heap.get? e=some (erc it i old))(ho:s.heap.get? it=some (trc t i))(ht:IsTup s.heap t items)(hx:items[i]?=none)
 (q:∀ h' a u,h'.get? a=some u->u.cls=.type "StopIteration"->Heap.ExtBut it s.heap h'->E (.ref a) { s with heap:=h' }):wpAny (model prog w) A (Builtin.«enumerate.__next__» ⟨[.ref e],[]⟩) Q E s:=by
 repeat (first | assumption | (with_reducible refine wpAny_field he rfl rfl ?_) | (refine aO7 hh ho ht hx ?_) | wp_step)
 rintro h' a k ⟨u,z1,z2⟩
 exact q h' a u z1 z2 k
theorem nxt {o:Obj}{Q:Option Value->Shared->Prop}(ho:s.heap.get? e=some o)(hc:o.cls=.type "enumerate")
 (h:wpAny (model prog w) A.in1 (Builtin.«enumerate.__next__» ⟨[.ref e],[]⟩) (fun r s'=>∃ v,r=.done (.ret v)/\Q (some v) s') (fun x s'=>∃ a u,x=.ref a/\s'.heap.get? a=some u/\u.cls=.type "StopIteration"/\Q none s') s):wpAny (model prog w) A (pyNext (.ref e)) Q E s:=by
 have ty:s.TypeIs (.ref e) "enumerate":=⟨o,ho,hc⟩;refine wpAny_bind (wpAny_attempt (wpAny_mono (Q:=fun r s'=>∃ v,r=some v/\Q (some v) s') (wpAny_callSpecial?_slot ty F.slot_enumerate_next (wpAny_call_entry F.slot_enumerate_next ty F.entry_enumerate_next (wpAny_mono h ?_ fun _ _ e=>e) (F.args_enumerate_next_1 _))) ?_ ?_))
 · rintro _ s' ⟨v,rfl,q⟩
   exact⟨v,rfl,v,rfl,q⟩
 · rintro _ s' ⟨v,rfl,q⟩
   exact wpAny_pure q
 · rintro _ s' ⟨a,u,rfl,e1,e2,q⟩
   exact wpAny_bind (wpAny_isInstance (T:="StopIteration") (b:=true) ⟨u,e1,e2⟩ isSubtype_stop (wpAny_pure q))
end
end En
namespace En
open PySem Zp PyProof.Rows
theorem aBp (t:Addr)(items:Array Value)(n:Nat)(dc:Option Addr)(sl:Array (Option Value)) :
 Meets (Builtin.«enumerate.__new__» ⟨[.type "enumerate",.ref t],[]⟩) (fun _ R s=>s.heap.get? t=some { cls:=.type "tuple",dict:=dc,data:=.seq items n,slots:=sl } /\
  R (.ok (.ret (.ref (s.heap.push (trc t 0)).objs.size))) { s with heap:=(s.heap.push (trc t 0)).push (erc s.heap.objs.size 0 .none) }) :=
 .of_wp fun prog w A R s h=>by
  obtain⟨hp,gs,dr,tk,os⟩:=s;obtain⟨hl,h⟩:=h;have hT:IsTup (Shared.heap ⟨hp,gs,dr,tk,os⟩) t items:=⟨_,hl,rfl,n,rfl⟩;have hsub:=sub_enumerate;wp_walk using AutoSeq1.wpAny_loadPart' hl
  refine wpAny_stack_any fun stk=>wpAny_pure ?_
  split
  · rename_i c _ _ _ _ _
    rcases (c==Value.type "enumerate") with _ | _
    all_goals wp_walk using AutoSeq1.wpAny_loadPart' hl,iter_tuple hT
    all_goals exact⟨_,rfl,h⟩
  · wp_walk using AutoSeq1.wpAny_loadPart' hl,iter_tuple hT
    exact⟨_,rfl,h⟩
section
variable {prog:Program}{w:World}{A:Around}{E:Value->Shared->Prop}{s:Shared}{t:Addr}{items:Array Value}
theorem make {Q:Value->Shared->Prop}(ht:IsTup s.heap t items)
 (h:∀ h',h'.get? (s.heap.objs.size+1)=some (erc s.heap.objs.size 0 .none)->h'.get? s.heap.objs.size=some (trc t 0)->(∀ b o,s.heap.get? b=some o->h'.get? b=some o)->Q (.ref (s.heap.objs.size+1)) { s with heap:=h' }) :
 wpAny (model prog w) A (call (.type "enumerate") [.ref t]) Q E s:=by
 obtain⟨⟨c,dc,dt,sl⟩,hl,hc,n,hd⟩:=ht;cases (show c=.type "tuple" from hc)
 cases (show dt=.seq items n from hd)
 have z:(s.heap.push (trc t 0)).objs.size=s.heap.objs.size+1:=Be ..;have e1:((s.heap.push (trc t 0)).push (erc s.heap.objs.size 0 .none)).get? (s.heap.objs.size+1)=some (erc s.heap.objs.size 0 .none):=z▸Ae _ rfl;refine callType_new F.called_enumerate (by decide) (F.typeCall_enumerate_1 _) (F.newCall_enumerate_1 _) (fun obj=>F.args_object_init_2 obj _) F.entry_enumerate_new (aBp t items n dc sl) ⟨hl,?_⟩
 rw[z];exact⟨⟨_,e1,rfl⟩,h _ e1 (Aa _ (Ae _ rfl)) fun b o q=>Aa _ (Aa _ q)⟩
end
end En
namespace Dk
open PySem Zp
def Ent (h:Heap)(d:Addr)(es:Array DictEntry)(ep:Nat):Prop:=∃ o,h.get? d=some o/\o.ExactDict/\o.data=.dict es ep
theorem Ent.ty {s:Shared}{d:Addr}{es:Array DictEntry}{ep:Nat}(x:Ent s.heap d es ep):s.TypeIs (.ref d) "dict":=by
 obtain⟨o,h1,h2,h3⟩:=x;exact⟨o,h1,h2.1⟩
section
variable {prog:Program}{w:World}{A:Around}{E:Value->Shared->Prop}{s:Shared}
abbrev krc (d:Addr)(i n ep:Nat):Obj:={ cls:=.type "dict_keyiterator",data:=.fields #[.ref d,.int i 0,.int n 0,.int ep 0] }
theorem aK5 {d:Addr}{es:Array DictEntry}{ep:Nat}{Q:Value->Shared->Prop}(ne:(d==sysModules)=false)(x:Ent s.heap d es ep)
 (q:Q (.ref s.heap.objs.size) { s with heap:=s.heap.push (krc d 0 es.size ep) }):wpAny (model prog w) A (pyIter (.ref d)) Q E s:=by
 have ty:=x.ty;obtain⟨o,h1,h2,h3⟩:=x;refine wpAny_pyIter_slot ty F.slot_dict_iter (wpAny_call_entry F.slot_dict_iter ty F.entry_dict_iter ?_ (F.args_dict_iter_1 _))
 have ne':¬ (d==sysModules)=true:=by rw[ne];exact Aq
 have kc:¬ (o.cls != Value.type "dict")=true:=by rw[h2.1];decide
 repeat (first | assumption | (with_reducible refine wpAny_notOrdered_dict ty ?_) | (rw[if_neg kc]) | (rw[if_neg ne']) | (with_reducible refine wpAny_dictEntries h1 h3 ?_) | (with_reducible refine wpAny_dictEpoch h1 h3 ?_) | wp_step)
 exact⟨.ref s.heap.objs.size,rfl,"dict_keyiterator",_,⟨krc d 0 es.size ep,Ae _ rfl,rfl⟩,F.slot_dict_keyiterator_next.lookup,q⟩
theorem Ent.but {h h':Heap}{it d:Addr}{es:Array DictEntry}{ep:Nat}(x:Ent h d es ep)(u:Heap.ExtBut it h h')(n:d≠it):Ent h' d es ep:=by
 obtain⟨o,h1,h2⟩:=x;exact⟨o,u d o n h1,h2⟩
variable {it d:Addr}{es:Array DictEntry}{i ep:Nat}
theorem aDl {k:DictEntry}{Q:Fin->Shared->Prop}(ho:s.heap.get? it=some (krc d i es.size ep))(x:Ent s.heap d es ep)(ek:es[i]?=some k)
 (q:∀ h',h'.get? it=some (krc d (i+1) es.size ep)->Heap.SameBut it s.heap h'->Q (.done (.ret k.key)) { s with heap:=h' }) :
 wpAny (model prog w) A (Builtin.«dict_keyiterator.__next__» ⟨[.ref it],[]⟩) Q E s:=by
 obtain⟨o,h1,h2,h3⟩:=x;have ty:s.TypeIs (.ref it) "dict_keyiterator":=⟨_,ho,rfl⟩;have ek':(if (i:Int)<0 then none else es[(i:Int).toNat]?)=some k:=by rw[if_neg (by omega),Cp];exact ek
 repeat (first | assumption | (rw[ek']) | (with_reducible refine wpAny_isOneOf_keyiter ⟨_,e1,rfl⟩ ?_) | (with_reducible refine wpAny_typeNameOfWhole_keyiter ty ?_) | (with_reducible refine wpAny_isOneOf_keyiter ty ?_) | (with_reducible refine wpAny_dictEntries h1 h3 ?_) | (with_reducible refine wpAny_dictEpoch h1 h3 ?_) | (with_reducible refine wpAny_fieldsOf ho rfl ?_) | (with_reducible refine wpAny_setField_rec ho (by simp;decide) fun h' e1 e2=>?_) | wp_step)
 exact q h' (e1.trans rfl) e2
theorem dry {Q:Fin->Shared->Prop}(hh:A.handled=none)(ho:s.heap.get? it=some (krc d i es.size ep))(x:Ent s.heap d es ep)(ek:es.size<=i)
 (q:∀ h' e o,h'.get? e=some o->o.cls=.type "StopIteration"->Heap.ExtBut it s.heap h'->E (.ref e) { s with heap:=h' }) :
 wpAny (model prog w) A (Builtin.«dict_keyiterator.__next__» ⟨[.ref it],[]⟩) Q E s:=by
 obtain⟨o,h1,h2,h3⟩:=x;have ty:s.TypeIs (.ref it) "dict_keyiterator":=⟨_,ho,rfl⟩;have ek':(if (i:Int)<0 then none else es[(i:Int).toNat]?)=none:=by rw[if_neg (by omega),Cp];exact Array.getElem?_eq_none ek
 repeat (first | assumption | (rw[ek']) | (rw[hh]) | (with_reducible refine wpAny_typeNameOfWhole_keyiter ty ?_) | (with_reducible refine wpAny_isOneOf_keyiter ty ?_) | (with_reducible refine wpAny_dictEntries h1 h3 ?_) | (with_reducible refine wpAny_dictEpoch h1 h3 ?_) | (with_reducible refine wpAny_fieldsOf ho rfl ?_) | (with_reducible refine wpAny_setField_rec ho (by simp;decide) fun h' e1 e2=>?_) | wp_step)
 unfold raiseNew;refine wpAny_bind (wpAny_handled ?_);rw[hh]
 refine wpAny_bind (wpAny_pure (wpAny_throw (q _ _ _ (Ae _ rfl) rfl ((e2.extBut.push _).push _))))
theorem nxt {o:Obj}{Q:Option Value->Shared->Prop}(ho:s.heap.get? it=some o)(hc:o.cls=.type "dict_keyiterator")
 (h:wpAny (model prog w) A.in1 (Builtin.«dict_keyiterator.__next__» ⟨[.ref it],[]⟩) (fun r s'=>∃ v,r=.done (.ret v)/\Q (some v) s') (fun e s'=>∃ a u,e=.ref a/\s'.heap.get? a=some u/\u.cls=.type "StopIteration"/\Q none s') s):wpAny (model prog w) A (pyNext (.ref it)) Q E s:=by
 have ty:s.TypeIs (.ref it) "dict_keyiterator":=⟨o,ho,hc⟩;refine wpAny_bind (wpAny_attempt (wpAny_mono (Q:=fun r s'=>∃ v,r=some v/\Q (some v) s') (wpAny_callSpecial?_slot ty F.slot_dict_keyiterator_next (wpAny_call_entry F.slot_dict_keyiterator_next ty F.entry_dict_keyiterator_next (wpAny_mono h ?_ fun _ _ e=>e) (F.args_dict_keyiterator_next_1 _))) ?_ ?_))
 · rintro _ s' ⟨v,rfl,q⟩
   exact⟨v,rfl,v,rfl,q⟩
 · rintro _ s' ⟨v,rfl,q⟩
   exact wpAny_pure q
 · rintro _ s' ⟨a,u,rfl,e1,e2,q⟩
   exact wpAny_bind (wpAny_isInstance (T:="StopIteration") (b:=true) ⟨u,e1,e2⟩ isSubtype_stop (wpAny_pure q))
theorem aKz {S:Addr}{h0:Heap}(hh:A.handled=none)(n1:d≠it)(n2:S≠it)(n3:S≠d) :
 Feed prog w A it S (fun n vs h=>∃ i,i+n=es.size/\vs=(es.toList.take i).map (·.key)/\h.get? it=some (krc d i es.size ep)/\Ent h d es ep/\Out [it,S] h0 h) (fun vs h=>vs=es.toList.map (·.key)/\Out [it,S] h0 h) where
 more:=fun n vs s Q E ⟨i,hi,hv,ho,x,k⟩ q=>by
  have lt:i<es.size:=by omega
  refine nxt ho rfl (aDl ho x (Array.getElem?_eq_getElem lt) fun h' e u=>⟨_,rfl,q _ h' ⟨i+1,by omega,?_,e,x.but u.extBut n1,k.then (Out.of u.extBut (by simp))⟩ fun o e=>u.extBut S o n2 e⟩)
  rw[hv,List.take_add_one];simp[lt]
 over:=fun vs s Q E ⟨i,hi,hv,ho,x,k⟩ q=>by
  refine nxt ho rfl (dry (show A.in1.handled=none from hh) ho x (by omega) fun h' e o e1 e2 u=>⟨e,o,rfl,e1,e2,q h' ⟨?_,k.then (Out.of u (by simp))⟩ fun o e=>u S o n2 e⟩)
  rw[hv,List.take_of_length_le (by simp;omega)]
 blind:=fun n vs h h' ⟨i,hi,hv,ho,x,k⟩ u=>⟨i,hi,hv,u.extBut it _ n2.symm ho,x.but u.extBut n3.symm,k.then (Out.of u.extBut (by simp))⟩
end
end Dk
namespace Dk
open PySem Zp PySem.W
section
variable {prog:Program}{w:World}{A:Around}{E:Value->Shared->Prop}{s:Shared}{d S:Addr}{es:Array DictEntry}{ep:Nat}
theorem aB7 {c:Nat}{r:Value}{R:Result->Shared->Prop}(hh:A.handled=none)(ne:(d==sysModules)=false)(x:Ent s.heap d es ep)(e:s.heap.get? S=some (mk [] c))(few:es.size<=sizeLine)(nS:S≠d)
 (q:∀ h' c',h'.get? S=some (mk (es.toList.map (·.key)) c')->(∀ b o,b≠S->s.heap.get? b=some o->h'.get? b=some o)->R (.ok (.ret r)) { s with heap:=h' }) :
 wpAny (model prog w) A.in1 (Builtin.List.listExtendWith (.ref S) (.ref d) r) (fun fin s'=>match fin with | .done f=>R (.ok f) s' | .again c'=>c'.quiet=true/\codeAny (model prog w) A c' R s') (fun e s'=>R (.error e) s') s:=by
 have same:Builtin.List.listSameRef (.ref S) (.ref d)=false:=by simp[Builtin.List.listSameRef,nS]
 have t1:(Value.type "dict" == Value.type "list")=false:=by decide
 have t2:(Value.type "dict" == Value.type "tuple")=false:=by decide
 have cond:(Builtin.List.listSameRef (.ref S) (.ref d)||Value.type "dict" == Value.type "list" || Value.type "dict" == Value.type "tuple")=false:=by rw[same,t1,t2];rfl
 refine wpAny_bind (wpAny_typeOf x.ty ?_)
 simp only[cond,Bf,if_false];have I:s.heap.objs.size≠S:=Bz (Ab e);have ld:d<s.heap.objs.size:=let ⟨_,h1,_⟩:=x;Ab h1
 have x1:Ent (s.heap.push (krc d 0 es.size ep)) d es ep:=let ⟨o,h1,h2⟩:=x;⟨o,Aa _ h1,h2⟩
 have e1:(s.heap.push (krc d 0 es.size ep)).get? S=some (mk [] c):=Aa _ e;refine wpAny_bind (aK5 ne x (wpAny_bind (wpAny_holding (kdl_hint_dict x1.ty ?_))))
 refine wpAny_bind (wpAny_rule (wpAny_bind (wpAny_bind (upd e1 (by decide) (by decide) fun h2 c2 e2 u2=>?_))))
 refine upd e2 (by decide) (by decide) fun h3 c3 e3 u3=>wpAny_pure ⟨plainId_quiet PySem.F.plain_extend_loop _,?_⟩
 have u:Heap.SameBut S (s.heap.push (krc d 0 es.size ep)) h3:=⟨u3.1.trans u2.1,fun b m=>(u3.2 b m).trans (u2.2 b m)⟩;have it3:h3.get? s.heap.objs.size=some (krc d 0 es.size ep):=u.extBut _ _ I (Ae _ rfl);refine aKj (aKz (d:=d) (es:=es) (ep:=ep) (h0:=h3) (show A.in1.handled=none from hh) (Ak ld) I.symm nS) r es.size [] c3 _ ⟨0,by omega,rfl,it3,x1.but u.extBut nS.symm,fun _ _ _ z=>z⟩ e3 (by simpa using few) fun h' us c' l e4=>?_
 obtain⟨l1,l2⟩:=l;subst l1;refine q h' c' e4 fun b o nb hb=>l2 b o ?_ (u.extBut b o nb (Aa _ hb))
 simp only[Ag,Ai,or_false,not_or];exact⟨Ak (Ab hb),nb⟩
theorem aA1 {Q:List Value->Shared->Prop}(hh:A.handled=none)(ne:(d==sysModules)=false)(x:Ent s.heap d es ep)(few:es.size<=sizeLine)
 (q:∀ h',(∀ b o,s.heap.get? b=some o->h'.get? b=some o)->Q (es.toList.map (·.key)) { s with heap:=h' }):wpAny (model prog w) A (collect (.ref d)) Q E s:=by
 have ld:d<s.heap.objs.size:=let ⟨_,h1,_⟩:=x;Ab h1
 have e0:(s.heap.push (mk [] 0)).get? s.heap.objs.size=some (mk [] 0):=Ae _ rfl;have x0:Ent (s.heap.push (mk [] 0)) d es ep:=let ⟨o,h1,h2⟩:=x;⟨o,Aa _ h1,h2⟩
 refine wpAny_bind (wpAny_runValue (codeAny_builtin F.entry_proto_collect (by
  rw[Around.under_plainId F.plain_proto_collect]
  refine wpAny_bind (m:=newList []) (wpAny_newObj_type (wpAny_pure ⟨plainId_quiet F.plain_list_iadd _,codeAny_builtin F.entry_list_iadd (by
   rw[Around.under_plainId F.plain_list_iadd];refine wpAny_mono (aB7 (R:=fun r s'=>r=.ok (.ret (.ref s.heap.objs.size))/\∃ h' c',s'={ s with heap:=h' }/\h'.get? s.heap.objs.size=some (mk (es.toList.map (·.key)) c')/\∀ b o,b≠s.heap.objs.size->(s.heap.push (mk [] 0)).get? b=some o->h'.get? b=some o) (s:={ s with heap:=s.heap.push (mk [] 0) }) (c:=0) hh ne x0 e0 few (Bz ld) fun h' c' e1 k1=>⟨rfl,h',c',rfl,e1,k1⟩) ?_ fun _ _ z=>nomatch z.1
   have fin:∀ h' c',h'.get? s.heap.objs.size=some (mk (es.toList.map (·.key)) c')->(∀ b o,b≠s.heap.objs.size->(s.heap.push (mk [] 0)).get? b=some o->h'.get? b=some o)->wpAny (model prog w) A (load s.heap.objs.size >>= fun ob=>match ob.data with | .seq xs _=>pure xs.toList | _=>unsupported "internal:collect") Q E { s with heap:=h' }:=fun h' c' e1 k1=>by
    refine wpAny_bind (wpAny_load e1 (wpAny_pure ?_))
    have z:(es.toList.map (·.key)).toArray.toList=es.toList.map (·.key):=by simp
    rw[z];exact q h' fun b o hb=>k1 b o (Ak (Ab hb)) (Aa _ hb)
   intro f s1 z;cases f with
   | done f =>
    obtain⟨z,h',c',rfl,e1,k1⟩:=z;cases z;exact fin h' c' e1 k1
   | again c1=>exact⟨z.1,codeAny_mono z.2 fun r s2 y=>by obtain⟨rfl,h',c',rfl,e1,k1⟩:=y;exact fin h' c' e1 k1⟩)⟩)))))
end
end Dk
namespace Srt
open PySem PySem.W PyProof.Rows
def pw (lt:Nat->Nat->Bool)(n:Nat):KasT α->(α->Prop)->Prop
 | .ret a,Q=>Q a
 | .ask i j k,Q=>i<n/\j<n/\pw lt n (k (lt i j)) Q
section
variable {lt:Nat->Nat->Bool}{n:Nat}
theorem jX {α β:Type}{f:α->KasT β}{Q:β->Prop}:∀ {t:KasT α},pw lt n t (fun a=>pw lt n (f a) Q)->pw lt n (t.bind f) Q
 | .ret _,h=>h
 | .ask _ _ _,⟨h1,h2,h3⟩=>⟨h1,h2,jX h3⟩
theorem dL {α:Type}{Q Q':α->Prop}(hq:∀ a,Q a->Q' a):∀ {t:KasT α},pw lt n t Q->pw lt n t Q'
 | .ret _,h=>hq _ h
 | .ask _ _ _,⟨h1,h2,h3⟩=>⟨h1,h2,dL hq h3⟩
theorem aIg {α:Type}{cmp:Nat->Nat->(Bool->Shared->Prop)->Shared->Prop}{I:Shared->Prop}(hc:∀ i j C s,i<n->j<n->I s->(∀ s',I s'->C (lt i j) s')->cmp i j C s){R:α->Prop}{Q:α->Shared->Prop}(hq:∀ a s,R a->I s->Q a s) :
 ∀ {t:KasT α} {s:Shared},pw lt n t R->I s->t.kasWp cmp Q s
 | .ret _,_,h,i=>hq _ _ h i
 | .ask _ _ _,_,⟨h1,h2,h3⟩,i=>hc _ _ _ _ h1 h2 i fun s' i'=>aIg hc hq h3 i'
def at' (p:Array Nat)(k:Nat):Nat:=p.getD k 0
def Le (lt:Nat->Nat->Bool)(a b:Nat):Prop:=lt b a=false
structure Ord (lt:Nat->Nat->Bool):Prop where
 tr:∀ {a b c},Le lt a b->Le lt b c->Le lt a c
 tot:∀ {a b},lt a b=true->Le lt a b
theorem Ord.refl (o:Ord lt)(a:Nat):Le lt a a:=by
 cases h:lt a a with
 | false=>exact h
 | true=>exact o.tot h
def Inv (n:Nat)(p:Array Nat):Prop:=p.Perm (Bp n).toArray
theorem Inv.size {p:Array Nat}(h:Inv n p):p.size=n:=by simpa using h.size_eq
theorem Inv.bd {p:Array Nat}(h:Inv n p){k:Nat}(hk:k<n):at' p k<n:=by
 have hk':k<p.size:=by rw[h.size];exact hk
 have:p[k]∈(Bp n).toArray:=h.mem_iff.mp (Array.getElem_mem hk')
 unfold at';simpa[Array.getD,hk'] using this
theorem iU {p:Array Nat}{i j:Nat}(hj:j<=p.size)(k:Nat):at' (kas_rev p i j) k=if i<=k/\k<j then at' p (i+j-1-k) else at' p k:=by
 have e:=getElem?_mirror_all (xs:=p) (i:=i) hj k;have g:∀ (q:Array Nat) (j:Nat),at' q j=(q[j]?).getD 0:=fun q j=>Array.getD_eq_getD_getElem? ..;rw[g,g,g,kas_rev,e];split<;>rfl
theorem aC4 {p:Array Nat}{s d:Nat}(hs:s<p.size)(hd:d<=s)(k:Nat):at' (bubble p s d) k=if k=s-d then at' p s else if s-d<k/\k<=s then at' p (k-1) else at' p k:=by
 have e:=(getElem?_bubble hs d hd k);have g:∀ (q:Array Nat) (j:Nat),at' q j=(q[j]?).getD 0:=fun q j=>Array.getD_eq_getD_getElem? ..;rw[g,g,g,g,e];split
 · rfl
 · split<;>rfl
theorem Inv.rev {p:Array Nat}(h:Inv n p)(i j:Nat):Inv n (kas_rev p i j):=(mirror_perm _ _ _ _).trans h
theorem Inv.bub {p:Array Nat}(h:Inv n p)(i j:Nat):Inv n (bubble p i j):=(bubble_perm _ _ _).trans h
def Up (lt:Nat->Nat->Bool)(p:Array Nat)(m:Nat):Prop:=∀ i j,i<=j->j<m->Le lt (at' p i) (at' p j)
def Dn (lt:Nat->Nat->Bool)(p:Array Nat)(m:Nat):Prop:=∀ i j,i<=j->j<m->Le lt (at' p j) (at' p i)
theorem Up.step (o:Ord lt){p:Array Nat}{m:Nat}(h:Up lt p m)(hm:1<=m)(e:Le lt (at' p (m-1)) (at' p m)):Up lt p (m+1):=fun i j hij hj=>by
 by_cases h1:j<m
 · exact h i j hij h1
 · have:j=m:=by omega
   subst this;by_cases h2:i=j
   · subst h2;exact o.refl _
   · exact o.tr (h i (j-1) (by omega) (by omega)) e
theorem Dn.step (o:Ord lt){p:Array Nat}{m:Nat}(h:Dn lt p m)(hm:1<=m)(e:Le lt (at' p m) (at' p (m-1))):Dn lt p (m+1):=fun i j hij hj=>by
 by_cases h1:j<m
 · exact h i j hij h1
 · have:j=m:=by omega
   subst this;by_cases h2:i=j
   · subst h2;exact o.refl _
   · exact o.tr e (h i (j-1) (by omega) (by omega))
theorem wS (o:Ord lt){p:Array Nat}(ip:Inv n p):∀ (f a:Nat),1<=a->a+f<=n->Up lt p a->pw lt n (kas_asc p f a) fun m=>a<=m/\m<=a+f/\Up lt p m/\(m=a+f\/lt (at' p m) (at' p (m-1))=true)
 | 0,a,h1,h2,u=>⟨Ad _,Ad _,u,.inl rfl⟩
 | f+1,a,h1,h2,u=>by
  refine⟨ip.bd (by omega),ip.bd (by omega),?_⟩
  cases c:lt (p.getD a 0) (p.getD (a-1) 0) with
  | true=>exact⟨Ad _,by omega,u,.inr c⟩
  | false =>
   refine dL ?_ (wS o ip f (a+1) (by omega) (by omega) (u.step o h1 c))
   rintro m ⟨q1,q2,q3,q4⟩
   exact⟨by omega,by omega,q3,q4.imp (fun z=>by omega) id⟩
def Eqs (lt:Nat->Nat->Bool)(p:Array Nat)(m q:Nat):Prop:=∀ i j,m-(q+1)<=i->i<m->m-(q+1)<=j->j<m->Le lt (at' p i) (at' p j)
theorem Dn.rev (o:Ord lt){p:Array Nat}{m q:Nat}(h:Dn lt p m)(e:Eqs lt p m q)(hm:m<=p.size):Dn lt (kas_rev p (m-(q+1)) m) m:=fun i j hij hj=>by
 rw[iU hm,iU hm];split
 · split
   · exact e _ _ (by omega) (by omega) (by omega) (by omega)
   · exact h _ _ (by omega) (by omega)
 · split
   · omega
   · exact h _ _ hij hj
theorem oI (o:Ord lt):∀ (f:Nat) (p:Array Nat) (m q:Nat),Inv n p->1<=m->q+1<=m->m+f<=n->Dn lt p m->Eqs lt p m q->pw lt n (kas_desc f p m q) fun r=>Inv n r.1/\m<=r.2.1/\r.2.1<=m+f/\Dn lt r.1 r.2.1/\r.2.2+1<=r.2.1/\Eqs lt r.1 r.2.1 r.2.2
 | 0,p,m,q,ip,h1,h2,h3,d,e=>⟨ip,Ad _,Ad _,d,h2,e⟩
 | f+1,p,m,q,ip,h1,h2,h3,d,e=>by
  have one:∀ p':Array Nat,Eqs lt p' (m+1) 0:=fun p' i j a1 a2 a3 a4=>by
   have:i=j:=by omega
   subst this;exact o.refl _
  refine⟨ip.bd (by omega),ip.bd (by omega),?_⟩
  cases c:lt (p.getD m 0) (p.getD (m-1) 0) with
  | true =>
   simp only[if_true];have cc:Le lt (at' p m) (at' p (m-1)):=o.tot c;by_cases hq:q>0
   · rw[if_pos hq]
     refine dL ?_ (oI o f (kas_rev p (m-(q+1)) m) (m+1) 0 (ip.rev _ _) (by omega) (by omega) (by omega) ?_ (one _))
     · rintro r ⟨q1,q2,q3,q4⟩
       exact⟨q1,by omega,by omega,q4⟩
     · refine(d.rev o e (by rw[ip.size];omega)).step o h1 ?_
       rw[iU (by rw[ip.size];omega),iU (by rw[ip.size];omega),if_neg (by omega),if_pos (by omega)]
       exact o.tr cc (e _ _ (by omega) (by omega) (by omega) (by omega))
   · rw[if_neg hq]
     refine dL ?_ (oI o f p (m+1) 0 ip (by omega) (by omega) (by omega) (d.step o h1 cc) (one _))
     rintro r ⟨q1,q2,q3,q4⟩
     exact⟨q1,by omega,by omega,q4⟩
  | false =>
   have c1:Le lt (at' p (m-1)) (at' p m):=c;simp only[if_false,Bf];refine⟨ip.bd (by omega),ip.bd (by omega),?_⟩
   cases c':lt (p.getD (m-1) 0) (p.getD m 0) with
   | true=>exact⟨ip,Ad _,Bd _ _,d,h2,e⟩
   | false =>
    have c2:Le lt (at' p m) (at' p (m-1)):=c';simp only[if_false,Bf];refine dL ?_ (oI o f p (m+1) (q+1) ip (by omega) (by omega) (by omega) (d.step o h1 c2) ?_)
    · rintro r ⟨q1,q2,q3,q4⟩
      exact⟨q1,by omega,by omega,q4⟩
    · intro i j a1 a2 a3 a4
      by_cases hi:i=m
      · by_cases hj:j=m
        · rw[hi,hj];exact o.refl _
        · rw[hi];exact o.tr c2 (e _ _ (by omega) (by omega) (by omega) (by omega))
      · by_cases hj:j=m
        · rw[hj];exact o.tr (e _ (m-1) (by omega) (by omega) (by omega) (by omega)) c1
        · exact e _ _ (by omega) (by omega) (by omega) (by omega)
def Cnt (lt:Nat->Nat->Bool)(n:Nat)(r:Nat×Array Nat):Prop:=Inv n r.2/\1<=r.1/\r.1<=n/\Up lt r.2 r.1
theorem zO (o:Ord lt){p:Array Nat}{m:Nat}(ip:Inv n p)(h1:1<=m)(h2:m<=n)(d:Dn lt p m):pw lt n (kas_tail3 m n p) (Cnt lt n):=by
 refine jX (dL ?_ (wS o (ip.rev 0 m) (n-m) m h1 (by omega) fun i j hij hj=>?_))
 · rintro a ⟨q1,q2,q3,_⟩
   exact⟨ip.rev 0 m,by omega,by omega,q3⟩
 · rw[iU (by rw[ip.size];omega),iU (by rw[ip.size];omega),if_pos (by omega),if_pos (by omega)]
   exact d _ _ (by omega) (by omega)
theorem nH (o:Ord lt){p:Array Nat}{m:Nat}(ip:Inv n p)(h1:1<=m)(h2:m+1<=n)(d:Dn lt p (m+1)):pw lt n (kas_descPart m n p) (Cnt lt n):=by
 refine jX (dL ?_ (oI o (n-(m+1)) p (m+1) 0 ip (by omega) (by omega) (by omega) d fun i j a1 a2 a3 a4=>?_))
 · rintro⟨p',m',q'⟩ ⟨q1,q2,q3,q4,q5,q6⟩
   dsimp only at q1 q2 q3 q4 q5 q6 ⊢
   split
   · exact zO o (q1.rev _ _) (by omega) (by omega) (q4.rev o q6 (by rw[q1.size];omega))
   · exact zO o q1 (by omega) (by omega) q4
 · have:i=j:=by omega
   subst this;exact o.refl _
theorem aCh (o:Ord lt){p:Array Nat}(ip:Inv n p)(hn:1<=n):pw lt n (kas_count n p) (Cnt lt n):=by
 refine jX (dL ?_ (wS o ip (n-1) 1 (Ad _) (by omega) fun i j hij hj=>?_))
 · rintro m ⟨q1,q2,q3,q4⟩
   by_cases hm:m=n
   · rw[if_pos (by simpa using hm)]
     exact⟨ip,q1,by omega,q3⟩
   · rw[if_neg (by simpa using hm)]
     have c:Le lt (at' p m) (at' p (m-1)):=by
      rcases q4 with z | z
      · omega
      · exact o.tot z
     by_cases h1:m>1
     · rw[if_pos h1]
       refine⟨ip.bd (by omega),ip.bd (by omega),?_⟩
       cases e:lt (p.getD 0 0) (p.getD (m-1) 0) with
       | true=>exact⟨ip,q1,by omega,q3⟩
       | false =>
        simp only[if_false,Bf];have e':Le lt (at' p (m-1)) (at' p 0):=e;have all:∀ i j,i<m->j<m->Le lt (at' p i) (at' p j):=fun i j hi hj=>o.tr (q3 i (m-1) (by omega) (by omega)) (o.tr e' (q3 0 j (Bv _) hj))
        refine nH o (ip.rev 0 m) q1 (by omega) fun i j hij hj=>?_
        have hs:m<=p.size:=by rw[ip.size];omega
        rw[iU hs,iU hs];by_cases hj':j<m
        · rw[if_pos (by omega),if_pos (by omega)]
          exact all _ _ (by omega) (by omega)
        · rw[if_neg (by omega)]
          by_cases hi':i<m
          · rw[if_pos (by omega)]
            have:j=m:=by omega
            subst this;exact o.tr c (all _ _ (by omega) (by omega))
          · rw[if_neg (by omega)]
            have:i=j:=by omega
            subst this;exact o.refl _
     · rw[if_neg h1]
       have:m=1:=by omega
       subst this;refine nH o ip q1 (by omega) fun i j hij hj=>?_
       by_cases h:i=j
       · subst h;exact o.refl _
       · have:i=0/\j=1:=by omega
         rw[this.1,this.2];exact c
 · have:i=j:=by omega
   subst this;exact o.refl _
theorem oU (o:Ord lt){p:Array Nat}{k:Nat}(ip:Inv n p)(hk:k<n)(u:Up lt p k):∀ (f l r:Nat),r<=l+f->r<=k->l<=k->(∀ i,i<l->Le lt (at' p i) (at' p k))->(∀ i,r<=i->i<k->Le lt (at' p k) (at' p i)) ->
 pw lt n (kas_place p k f l r) fun m=>m<=k/\(∀ i,i<m->Le lt (at' p i) (at' p k))/\∀ i,m<=i->i<k->Le lt (at' p k) (at' p i)
 | 0,l,r,h1,h2,h3,h4,h5=>⟨h3,h4,fun i a b=>h5 i (by omega) b⟩
 | f+1,l,r,h1,h2,h3,h4,h5=>by
  unfold kas_place;split
  · exact⟨h3,h4,fun i a b=>h5 i (by omega) b⟩
  · rename_i hlr
    refine⟨ip.bd hk,ip.bd (by omega),?_⟩
    cases c:lt (p.getD k 0) (p.getD ((l+r)/2) 0) with
    | true =>
     simp only[if_true];have cc:Le lt (at' p k) (at' p ((l+r)/2)):=o.tot c;exact oU o ip hk u f l ((l+r)/2) (by omega) (by omega) h3 h4 fun i a b=>o.tr cc (u _ _ a b)
    | false =>
     simp only[if_false,Bf];have cc:Le lt (at' p ((l+r)/2)) (at' p k):=c;exact oU o ip hk u f ((l+r)/2+1) r (by omega) h2 (by omega) (fun i a=>o.tr (u i ((l+r)/2) (by omega) (by omega)) cc) h5
theorem aCg (o:Ord lt):∀ (f:Nat) (p:Array Nat) (k:Nat),Inv n p->k+f<=n->Up lt p k->pw lt n (kas_bin f p k) fun p'=>Inv n p'/\Up lt p' (k+f)
 | 0,p,k,ip,h,u=>⟨ip,u⟩
 | f+1,p,k,ip,h,u=>by
  refine jX (dL ?_ (oU o ip (by omega) u k 0 k (by omega) (Ad _) (Bv _) (fun i z=>absurd z (Nat.not_lt_zero _)) fun i a b=>by omega))
  rintro m ⟨q1,q2,q3⟩
  refine dL ?_ (aCg o f (bubble p k (k-m)) (k+1) (ip.bub _ _) (by omega) fun i j hij hj=>?_)
  · rintro p' ⟨w1,w2⟩
    exact⟨w1,by rw[show k+(f+1)=k+1+f by omega];exact w2⟩
  · have hs:k<p.size:=by rw[ip.size];omega
    rw[aC4 hs (by omega),aC4 hs (by omega)]
    by_cases i1:i=k-(k-m)
    · rw[if_pos i1]
      by_cases j1:j=k-(k-m)
      · rw[if_pos j1];exact o.refl _
      · rw[if_neg j1,if_pos (by omega)]
        exact q3 _ (by omega) (by omega)
    · rw[if_neg i1]
      by_cases j1:j=k-(k-m)
      · rw[if_pos j1,if_neg (by omega)]
        exact q2 _ (by omega)
      · rw[if_neg j1]
        by_cases i2:k-(k-m)<i/\i<=k
        · rw[if_pos i2,if_pos (by omega)]
          exact u _ _ (by omega) (by omega)
        · rw[if_neg i2]
          by_cases j2:k-(k-m)<j/\j<=k
          · rw[if_pos j2];exact u _ _ (by omega) (by omega)
          · rw[if_neg j2];exact u _ _ (by omega) (by omega)
theorem aGb (o:Ord lt)(hn:1<=n):pw lt n (kas_sort n) fun p=>Inv n p/\Up lt p n:=by
 refine jX (dL ?_ (aCh o (show Inv n (Bp n).toArray from Array.Perm.refl _) hn))
 rintro⟨m,p⟩ ⟨q1,q2,q3,q4⟩
 dsimp only at q1 q2 q3 q4 ⊢
 split
 · refine dL ?_ (aCg o (n-max m 1) p (max m 1) q1 (by omega) ?_)
   · rintro p' ⟨w1,w2⟩
     exact⟨w1,by rw[show n=max m 1+(n-max m 1) by omega];exact w2⟩
   · rw[show max m 1=m by omega];exact q4
 · exact⟨q1,by rw[show n=m by omega];exact q4⟩
end
end Srt
namespace Srt
open PySem PySem.W PyProof.Rows
def kR (t s:Shared):Prop:=∃ tk,s={ t with toks:=tk }
theorem kR.refl (t:Shared):kR t t:=⟨t.toks,rfl⟩
section
variable {prog:Program}{w:World}{A:Around}{E:Value->Shared->Prop}{s:Shared}{lt:Nat->Nat->Bool}
def mL (prog:Program)(w:World)(A:Around)(lt:Nat->Nat->Bool)(vs:List Value)(κ:SortKind)(t:Shared):Prop :=
 ∀ i j C s1,i<vs.length->j<vs.length->kR t s1->(∀ s2,kR t s2->C (lt i j) s2)->kas_ask prog w A κ vs i j C s1
theorem aB6 (o:Ord lt){a:Addr}{vs:List Value}{n:Nat}{P:PySem.Fin->Shared->Prop}(at0:s.heap.get? a=some (seqObj "list" vs.toArray n))(few:vs.length<64)
 (ask:2<=vs.length->∀ t:Shared,(∀ b x,b≠a->s.heap.get? b=some x->t.heap.get? b=some x)->wpAny (model prog w) A (keyKind' vs.toArray) (fun κ t'=>kR t t'/\mL prog w A lt vs κ t) (fun _ _=>False) t)
 (fin:∀ (p:Array Nat) (h':Heap) (tk c:Nat),Inv vs.length p->Up lt p vs.length->(∀ b x,b≠a->s.heap.get? b=some x->h'.get? b=some x)->h'.get? a=some (seqObj "list" (Eb (p.toList.map fun i=>vs.getD i Value.none)) c)->P (.done (.ret .none)) { s with heap:=h',toks:=tk }) :
 wpAny (model prog w) A (Builtin.«list.sort» (⟨[.ref a],[]⟩)) P E s:=by
 have lts:a<s.heap.objs.size:=Ab at0;have line:vs.length<=sizeLine:=by rw[sizeLine_eq];omega
 rw[list_sort_plain];refine wpAny_bind (listItems_at at0 rfl ?_)
 refine wpAny_bind (listUpdate_at at0 rfl ?_ (by rw[Ac];exact line) (Bv _))
 generalize hU:s.heap.update a (Obj.mapSeq fun _=>(#[]:Array Value))=U
 have sb:Heap.SameBut a s.heap U:=hU▸Heap.SameBut.update s.heap a _;obtain⟨ep,atU⟩:∃ ep,U.get? a=some (seqObj "list" #[] ep):=⟨_,hU▸get?_update_seq at0 fun _=>#[]⟩;refine wpAny_bind (seqEpoch_at atU rfl ?_)
 refine wpAny_bind (wpAny_newTuple ?_ line)
 refine wpAny_bind (wpAny_newList (wpAny_holding ?_) (Bv _))
 generalize hV:(U.push (seqObj "tuple" vs.toArray 0)).push (seqObj "list" #[] 0)=Vh
 have up:∀ b x,U.get? b=some x->Vh.get? b=some x:=fun b x q=>hV▸Aa _ (Aa _ q);have kp:∀ b x,b≠a->s.heap.get? b=some x->Vh.get? b=some x:=fun b x nb q=>up b x ((sb.2 b nb).trans q);show wpAny (model prog w) A _ P E { s with heap:=Vh }
 dsimp only
 have size:∀ (p:Array Nat) (out:Array Value),out=Eb (p.toList.map fun i=>vs.getD i Value.none)->Inv vs.length p->out.size<=sizeLine+1:=fun p out ho ip=>by
  rw[ho,Ac,Bi,Array.length_toList,ip.size];exact Nat.le_succ_of_le line
 have last:∀ (p:Array Nat) (tk:Nat) (out:Array Value),out=Eb (p.toList.map fun i=>vs.getD i Value.none)->Inv vs.length p->Up lt p vs.length->P (.done (.ret .none)) { s with heap:=Vh.update a (Obj.mapSeq fun _=>out),toks:=tk }:=fun p tk out ho ip u=>by
  have sv:=Heap.SameBut.update Vh a (Obj.mapSeq fun _=>out);obtain⟨c,atc⟩:∃ c,(Vh.update a (Obj.mapSeq fun _=>out)).get? a=some (seqObj "list" out c):=⟨_,get?_update_seq (up _ _ atU) fun _=>out⟩;exact fin p _ tk c ip u (fun b x nb q=>(sv.2 b nb).trans (kp b x nb q)) (by rw[←ho];exact atc)
 by_cases two:vs.toArray.size<2
 · rw[if_pos two,if_pos two]
   have tw:vs.length<2:=by simpa using two
   refine wpAny_bind (wpAny_pure ?_)
   rw[StateT.run_pure];refine wpAny_bind (wpAny_pure ?_)
   have ident:(arrOf (SortSt.mk' general' (vs.toArray.zip vs.toArray) #[] 7 none)).map (·.2)=Eb ((Bp vs.length).toArray.toList.map fun i=>vs.getD i Value.none):=by
    show (vs.toArray.zip vs.toArray).map (·.2)=_
    match vs,tw with
    | [],_=>simp
    | [v],_=>simp
   have alone:Up lt (Bp vs.length).toArray vs.length:=fun i j hij hj=>by
    have:i=j:=by omega
    subst this;exact o.refl _
   dsimp only
   refine wpAny_bind (seqEpoch_at (up _ _ atU) rfl (wpAny_bind (listUpdate_at (up _ _ atU) rfl ?_ (Bv _) (size (Bp vs.length).toArray _ ident (show Inv vs.length (Bp vs.length).toArray from Array.Perm.refl _)))))
   simp only[if_false,Bf,bne_self_eq_false];exact wpAny_pure (last (Bp vs.length).toArray s.toks _ ident (show Inv vs.length (Bp vs.length).toArray from Array.Perm.refl _) alone)
 · rw[if_neg two,if_neg two]
   have tw:2<=vs.length:=by simpa using two
   refine wpAny_bind (wpAny_mono (ask tw { s with heap:=Vh } kp) (fun κ t' ⟨lk,an⟩=>?_) fun _ _ z=>z.elim)
   obtain⟨tk0,e0⟩:=lk;subst e0
   refine wpAny_bind (wpAny_mono (kat_run (ks:=vs) (vs:=vs) (κ:=κ) (Q:=fun st' s'=>∃ p:Array Nat,arrOf st'=p.map (kas_item (vs.toArray.zip vs.toArray))/\failedOf st'=none/\(Inv vs.length p/\Up lt p vs.length)/\kR { s with heap:=Vh } s')
    (G:=fun p s'=>(Inv vs.length p/\Up lt p vs.length)/\kR { s with heap:=Vh } s') rfl tw few (fun p st' s' _ a2 a3 a4=>⟨p,a2,a3,a4.1,a4.2⟩) (aIg (I:=kR { s with heap:=Vh }) (fun i j C s1 hi hj l q=>an i j C s1 hi hj l q) (fun p s1 r l=>⟨r,l⟩) (aGb o (by omega)) ⟨tk0,rfl⟩)) ?_ fun _ _ z=>z)
   rintro⟨⟨⟩,st'⟩ s' ⟨p,ar,fl,⟨ip,u⟩,tk1,e1⟩
   subst e1;dsimp only
   refine wpAny_bind (seqEpoch_at (up _ _ atU) rfl (wpAny_bind (listUpdate_at (up _ _ atU) rfl ?_ (Bv _) (size p _ (kat_snds rfl ar) ip))))
   rw[fl];simp only[if_false,Bf,bne_self_eq_false];exact wpAny_pure (last p tk1 _ (kat_snds rfl ar) ip u)
end
end Srt
namespace Srt
open PySem PySem.W PyProof.Rows
abbrev lx:=HT.aIq
theorem aEz:∀ a:List Int,lx a a=false
 | []=>rfl
 | x :: a=>by show (if x=x then lx a a else _)=false;rw[if_pos rfl];exact aEz a
theorem yB:∀ {a b:List Int},lx a b=true->lx b a=false
 | [],[],_=>rfl
 | [],_ :: _,_=>rfl
 | _ :: _,[],h=>by cases h
 | x :: a,y :: b,h=>by
  have h':(if x=y then lx a b else decide (x<y))=true:=h
  show (if y=x then lx b a else decide (y<x))=false
  by_cases e:x=y
  · rw[if_pos e]at h';rw[if_pos e.symm];exact yB h'
  · rw[if_neg e]at h';rw[if_neg (Ne.symm e)]
    have:=of_decide_eq_true h'
    exact decide_eq_false (by omega)
theorem wQ:∀ {a b:List Int},lx a b=false->lx b a=false->a=b
 | [],[],_,_=>rfl
 | [],(_ :: _),h,_=>(by cases h)
 | (_ :: _),[],_,h=>(by cases h)
 | x :: a,y :: b,h,g=>by
  have h':(if x=y then lx a b else decide (x<y))=false:=h
  have g':(if y=x then lx b a else decide (y<x))=false:=g
  by_cases e:x=y
  · rw[if_pos e]at h';rw[if_pos e.symm]at g';rw[e,wQ h' g']
  · rw[if_neg e]at h';rw[if_neg (Ne.symm e)]at g'
    have u:=of_decide_eq_false h';have v:=of_decide_eq_false g';omega
theorem xU:∀ {a b c:List Int},lx a b=true->lx b c=true->lx a c=true
 | [],[],_,h,_=>by cases h
 | [],_ :: _,[],_,g=>by cases g
 | [],(_ :: _),(_ :: _),_,_=>rfl
 | (_ :: _),[],_,h,_=>(by cases h)
 | _ :: _,_ :: _,[],_,g=>by cases g
 | x :: a,y :: b,z :: c,h,g=>by
  have h':(if x=y then lx a b else decide (x<y))=true:=h
  have g':(if y=z then lx b c else decide (y<z))=true:=g
  show (if x=z then lx a c else decide (x<z))=true
  by_cases e:x=y
  · rw[if_pos e]at h'
    by_cases f:y=z
    · rw[if_pos f]at g';rw[if_pos (e.trans f)];exact xU h' g'
    · rw[if_neg f]at g';rw[if_neg (by omega)];have:=of_decide_eq_true g';exact decide_eq_true (by omega)
  · rw[if_neg e]at h'
    have u:=of_decide_eq_true h';by_cases f:y=z
    · rw[if_neg (by omega)];exact decide_eq_true (by omega)
    · rw[if_neg f]at g';have v:=of_decide_eq_true g';rw[if_neg (by omega)];exact decide_eq_true (by omega)
theorem aLg {α:Type}{r:α->α->Bool}(key:Nat->α)(asy:∀ {a b},r a b=true->r b a=false)(tri:∀ {a b},r a b=false->r b a=false->a=b)(trs:∀ {a b c},r a b=true->r b c=true->r a c=true):Ord fun i j=>r (key i) (key j):=by
 refine⟨fun {a b c} h g=>?_,fun h=>asy h⟩
 have h':r (key b) (key a)=false:=h;have g':r (key c) (key b)=false:=g;show r (key c) (key a)=false
 cases q:r (key c) (key a) with
 | false=>rfl
 | true =>
  cases ab:r (key a) (key b) with
  | true=>have:=trs q ab;rw[g']at this;cases this
  | false=>rw[tri ab h']at q;rw[g']at q;cases q
def px (a b:List Int×Int):Bool:=if a.1=b.1 then decide (a.2<b.2) else lx a.1 b.1
theorem aKc {a b:List Int×Int}(h:px a b=true):px b a=false:=by
 unfold px at h ⊢;by_cases e:a.1=b.1
 · rw[if_pos e]at h;rw[if_pos e.symm];have:=of_decide_eq_true h;exact decide_eq_false (by omega)
 · rw[if_neg e]at h;rw[if_neg (Ne.symm e)];exact yB h
theorem aL4 {a b:List Int×Int}(h:px a b=false)(g:px b a=false):a=b:=by
 unfold px at h g;by_cases e:a.1=b.1
 · rw[if_pos e]at h;rw[if_pos e.symm]at g
   have u:=of_decide_eq_false h;have v:=of_decide_eq_false g;exact Prod.ext e (by omega)
 · rw[if_neg e]at h;rw[if_neg (Ne.symm e)]at g;exact absurd (wQ h g) e
theorem aI0 {a b c:List Int×Int}(h:px a b=true)(g:px b c=true):px a c=true:=by
 unfold px at h g ⊢;by_cases e:a.1=b.1
 · rw[if_pos e]at h
   by_cases f:b.1=c.1
   · rw[if_pos f]at g;rw[if_pos (e.trans f)]
     have u:=of_decide_eq_true h;have v:=of_decide_eq_true g;exact(decide_eq_true (by omega))
   · rw[if_neg f]at g;rw[if_neg (by rw[e];exact f),e];exact g
 · rw[if_neg e]at h
   by_cases f:b.1=c.1
   · rw[if_neg (by rw[←f];exact e),←f];exact h
   · rw[if_neg f]at g
     have t:=xU h g;rw[if_neg (fun z=>by rw[z,aEz]at t;cases t)];exact t
section
variable {prog:Program}{w:World}{A:Around}{E:Value->Shared->Prop}{s:Shared}
theorem vM {b:Bool}{Q:Bool->Shared->Prop}:∀ (xs ys:List Value) (ms ns:List Int) (i:Nat),IntsAre xs ms->IntsAre ys ns->Q (lx ms ns) s->KatLex prog w A b (decide (xs.length<ys.length)) Q (xs.zip ys) i s
 | [],[],_,_,_,.nil,.nil,q=>q
 | [],_ :: _,_,_,_,.nil,.cons _ _ _,q=>q
 | _ :: _,[],_,_,_,.cons _ _ _,.nil,q=>q
 | _ :: xs,_ :: ys,_,_,i,.cons m t hm,.cons n u hn,q=>by
  have e:decide ((Value.int m t :: xs).length<(Value.int n u :: ys).length)=decide (xs.length<ys.length):=by simp
  rw[e];refine kat_cons (wpAny_eqBool_int ?_)
  rename_i ms' ns'
  have q':Q (if m=n then lx ms' ns' else decide (m<n)) s:=q
  by_cases z:m=n
  · rw[if_pos z]at q'
    rw[show (m==n)=true by simpa using z]
    exact kat_yes (vM xs ys _ _ (i+1) hm hn q')
  · rw[if_neg z]at q'
    rw[show (m==n)=false by simpa using z]
    refine kat_no ?_
    cases hb:(b&&i==0) with
    | true=>exact oneLt_int q'
    | false=>exact kat_one _ _ (PyProof.Rows.lt_int q')
def mG (h:Heap)(vs:List Value)(ks:List (List Int)):Prop:=vs.length=ks.length/\∀ (i:Nat) (k:List Int),ks[i]?=some k->∃ a its,vs[i]?=some (.ref a)/\IsTup h a its/\IntsAre its.toList k
theorem mG.at_ {h:Heap}{vs:List Value}{ks:List (List Int)}(t:mG h vs ks){i:Nat}(hi:i<vs.length):∃ a its,vs.getD i Value.none=.ref a/\IsTup h a its/\IntsAre its.toList (ks.getD i []):=by
 have hk:i<ks.length:=by rw[←t.1];exact hi
 obtain⟨a,its,h1,h2,h3⟩:=t.2 i ks[i] (Al hk);refine⟨a,its,by rw[Br,h1];rfl,h2,?_⟩
 rw[Br,Al hk];exact h3
theorem sB {h:Heap}:∀ {vs:List Value} {ks:List (List Int)},mG h vs ks->(∀ k∈ks,k≠[])->∃ fs,KatTups h vs fs/\fs.length=vs.length/\∀ v∈fs,∃ i t,v=Value.int i t
 | [],ks,t,_=>⟨[],.nil,rfl,fun _ z=>nomatch z⟩
 | v :: vs,[],t,_=>by have:=t.1;simp at this
 | v :: vs,k :: ks,t,ne=>by
  obtain⟨a,its,h1,⟨o,h2,h3,n,h4⟩,h5⟩:=t.2 0 k rfl;have e:v=.ref a:=by simpa using h1
  subst e
  obtain⟨fs,f1,f2,f3⟩:=sB (vs:=vs) (ks:=ks) ⟨by simpa using t.1,fun i q hq=>by
   obtain⟨a',its',u1,u2⟩:=t.2 (i+1) q (by simpa using hq)
   exact⟨a',its',by simpa using u1,u2⟩⟩ fun q hq=>ne q (Am _ hq)
  obtain⟨f,tf,hf⟩:∃ f tf,its[0]?=some (Value.int f tf):=by
   have nk:=ne k Ap;cases k with
   | nil=>exact absurd rfl nk
   | cons x r =>
    generalize hl:its.toList=l at h5
    cases h5 with
    | @cons _ t' vs' _ hr=>exact⟨x,t',by rw[←Array.getElem?_toList,hl];rfl⟩
  exact⟨.int f tf :: fs,.cons h2 h3 h4 hf f1,by simp[f2],fun u hu=>by
   rcases Ag.mp hu with z | z
   · exact⟨f,tf,z⟩
   · exact f3 u z⟩
theorem aAv {t s1:Shared}(l:kR t s1):s1.heap=t.heap:=by obtain⟨tk,rfl⟩:=l;rfl
theorem aEn {vs:List Value}{ks:List (List Int)}{t:Shared}(T:mG t.heap vs ks)(ne:∀ k∈ks,k≠[])(two:2<=vs.length) :
 wpAny (model prog w) A (keyKind' vs.toArray) (fun κ t'=>kR t t'/\mL prog w A (fun i j=>lx (ks.getD i []) (ks.getD j [])) vs κ t) (fun _ _=>False) t:=by
 obtain⟨fs,f1,f2,f3⟩:=sB T ne;refine kat_kind (T:=.type "int") f1 (by omega) (fun v hv=>?_) (by decide) ⟨kR.refl t,fun i j C s1 hi hj l q=>?_⟩
 · obtain⟨i,tk,rfl⟩:=f3 v hv
   exact Looks.of_pure rfl
 · obtain⟨a,its,e1,⟨o1,g1,c1,n1,d1⟩,i1⟩:=T.at_ hi
   obtain⟨b,jts,e2,⟨o2,g2,c2,n2,d2⟩,i2⟩:=T.at_ hj;unfold kas_ask;rw[e1,e2];have hp:=aAv l;refine kat_lt (by rw[hp];exact g1) d1 (by rw[hp];exact g2) d2 ?_
   have:=vM (prog:=prog) (w:=w) (A:=A) (s:=s1) (b:=(Value.type "int" != Value.type "tuple")) (Q:=C) its.toList jts.toList _ _ 0 i1 i2 (q s1 l)
   simpa using this
end
end Srt
namespace Srt
open PySem PySem.W PyProof.Rows
section
variable {prog:Program}{w:World}{A:Around}{E:Value->Shared->Prop}{s:Shared}{lt:Nat->Nat->Bool}
theorem aBw (o:Ord lt){x:Value}{vs:List Value}{Q:Value->Shared->Prop}(few:vs.length<64)
 (col:wpAny (model prog w) A.in1 (collect x) (fun us s1=>us=vs/\∃ h1 tk,s1={ s with heap:=h1,toks:=tk }/\∀ b y,s.heap.get? b=some y->h1.get? b=some y) E s)
 (ask:2<=vs.length->∀ t:Shared,(∀ b y,s.heap.get? b=some y->t.heap.get? b=some y)->wpAny (model prog w) A.in1.in1 (keyKind' vs.toArray) (fun κ t'=>kR t t'/\mL prog w A.in1.in1 lt vs κ t) (fun _ _=>False) t)
 (fin:∀ (p:Array Nat) (h':Heap) (tk c:Nat) (D:Addr),Inv vs.length p->Up lt p vs.length->(∀ b y,s.heap.get? b=some y->h'.get? b=some y)->s.heap.get? D=none->h'.get? D=some (seqObj "list" (Eb (p.toList.map fun i=>vs.getD i Value.none)) c)->Q (.ref D) { s with heap:=h',toks:=tk }) :
 wpAny (model prog w) A (call (.builtin "sorted") [x]) Q E s:=by
 refine Calls.call_function_entry kind_sorted plain_sorted entry_sorted (args_sorted1 _) (show wpAny (model prog w) A.in1 (Builtin.«sorted» ⟨[x],[]⟩) _ _ s from ?_)
 unfold Builtin.«sorted»;refine wpAny_bind (m:=checkCount "sorted" 1 1 _) (wpAny_pure (wpAny_bind (wpAny_mono col (fun us s1 ⟨e,h1,tk1,e1,k1⟩=>?_) fun _ _ z=>z)))
 subst e e1;refine wpAny_bind (wpAny_newList ?_ (by rw[sizeLine_eq]<;>omega))
 have at1:(h1.push (seqObj "list" us.toArray 0)).get? h1.objs.size=some (seqObj "list" us.toArray 0):=Ae _ rfl;have k2:∀ b y,s.heap.get? b=some y->(h1.push (seqObj "list" us.toArray 0)).get? b=some y:=fun b y q=>Aa _ (k1 b y q);have nD:∀ b y,s.heap.get? b=some y->b≠h1.objs.size:=fun b y q z=>absurd (Ab (k1 b y q)) (by rw[z];exact Cj _)
 have gone:s.heap.get? h1.objs.size=none:=by
  cases q:s.heap.get? h1.objs.size with
  | none=>rfl
  | some y=>exact absurd rfl (nD _ y q)
 refine wpAny_bind (wpAny_holding (wpAny_call_entry slot_list_sort ⟨_,at1,rfl⟩ entry_list_sort (aB6 (s:={ s with heap:=h1.push (seqObj "list" us.toArray 0),toks:=tk1 }) o at1 few (fun tw t kt=>ask tw t fun b y q=>kt b y (nD b y q) (k2 b y q)) fun p h' tk c ip u kh hD=>⟨_,rfl,?_⟩) (args_list_sort _)))
 exact wpAny_pure ⟨_,rfl,fin p h' tk c h1.objs.size ip u (fun b y q=>kh b y (nD b y q) (k2 b y q)) gone hD⟩
end
end Srt
namespace L2
open PySem PySem.Spec PyProof.Rows
def uR (sc:Scope)(XN:List Str)(scope:Scope)(N:List Str)(k:Nat)(fs:List Nat):Bool :=
 scope.kind==.function&&decide (scope.names.map (·.1)).Nodup&&scope.names.all (fun y=>y.2 != .free||sc.names.contains (y.1,.cell)||sc.names.contains (y.1,.free))&&N.length==k+fs.length &&
  fs.zipIdx.all fun p=>match N[k+p.2]?,XN[p.1]? with
   | some x,some y=>decide (x=y)&&scope.names.lookup x==some .free&&(sc.names.lookup x==some .cell||sc.names.lookup x==some .free)
   | _,_=>false
theorem sG {scope:Scope}{env:Env}{x:Str}:scope.names.lookup x=some .cell->(relabel scope env).names.lookup x=some .cell:=by
 unfold relabel;generalize scope.names=names
 induction names with
 | nil=>simp
 | cons y r ih =>
  obtain⟨n,kd⟩:=y;simp only[Au];intro h;cases hx:x==n with
  | true =>
   simp only[hx,Aw]at h;cases h;simp[Aw,hx]
  | false =>
   simp only[hx,Aw]at h;have:=ih h
   split<;>simp only[Aw,hx]<;>exact this
theorem mV {X:Cx}{sc scope:Scope}{k0 k:Nat}{N0 N:List Str}{fs0 fs:List Nat}{fp:List Addr}{s:Shared}{H:Hp}(C0:CompOk X sc N0 k0 fs0)(h:uR sc N0 scope N k fs=true):CompOk (cD X sc N0 fp s H) scope N k fs:=by
 unfold uR at h;simp only[Bx]at h;obtain⟨⟨⟨⟨h1,h2⟩,h3⟩,h4⟩,h5⟩:=h;refine⟨by simpa using h1,of_decide_eq_true h2,fun y hy hf=>?_,by simpa using h4,fun j i e=>?_⟩
 · show y.1∈(cellsFrom (s.heap.objs.size+1) sc.names (gQ X.env.cells sc.names [])).map (·.1)
   rw[bR,Cv,Ch];have:=Dd.mp h3 y hy
   rw[hf]at this;simp only[bne_self_eq_false,Bool.false_or,Eu,List.contains_iff_mem]at this;rcases this with q | q
   · exact .inl (gJ _ _ _ (Dl.mpr ⟨_,Et.mpr ⟨q,rfl⟩,rfl⟩))
   · obtain⟨c,e⟩:=bJ (C0.free _ q rfl)
     exact .inr (Dl.mpr ⟨_,mK sc.names [] (.inr ⟨q,e⟩),rfl⟩)
 · have hm:(i,j)∈fs.zipIdx:=Dy.mpr e
   have:=Dd.mp h5 (i,j) hm
   dsimp only at this
   split at this
   · rename_i x y e1 e2
     simp only[Bt,Eu,beq_iff_eq,decide_eq_true_eq]at this;obtain⟨⟨q1,q2⟩,q3⟩:=this;subst q1;refine⟨x,e1,e2,q2,?_⟩
     exact q3.elim (fun q=>.inl (sG q)) mE
   · cases this
end L2
namespace Mir
open PySem L2
variable {X:Cx}{P:XP}{a b c e:Expr}{es:List Expr}{f g:FE}{fs:FEs}{pos p:Pos}
def asT:D->R (List D)
 | .tup ds=>.ok ds
 | _=>.stk
theorem jI {d:D}{i:List D}(h:asT d=.ok i):d=.tup i:=by cases d<;>simp[asT]at h;rw[h]
theorem oH {d:D}{x:Xc}(h:asT d=.exc x):False:=by cases d<;>simp[asT]at h
def aCo (a:FE)(lo hi:FO):FE:=fun ρ=>do
 let x ← a ρ
 let l ← lo ρ
 let h ← hi ρ
 let ds ← asT x.d
 if HT.sIx ds.length 0 l=0/\HT.sIx ds.length ds.length h=ds.length then .stk else .ok ⟨.shr,x.fr,.tup (nQ ds l h)⟩
theorem aM.str {H0 H H':Hp}{K:PySem.W.Frag}{B:Addr->Prop}{v:V}{r:Res}{i:Str}(g:aM K H0 H H' B v r)(e:r.d=.str i):v=.str i:=by
 have:=g.shr_of (by rw[e];rfl)
 rw[e]at this;exact this
theorem aK3 {lo hi:Option Expr}{fl fh:FO}{p2:Pos}(ha:PE X a (tE X.K P f))(hl:PO X lo (tO X.K P fl))(hh:PO X hi (tO X.K P fh)):PE X (.Subscript a (.Slice lo hi none p2) pos) (tE X.K P (aCo f fl fh)):=by
 refine PE.imp (pP aCi ha hl hh) ?_
 rintro σ H Q ⟨H0,B,ρ,d,h⟩
 unfold aCo at h;show tE X.K P f σ H fun x H1=>tO X.K P fl σ H1 fun l H2=>tO X.K P fh σ H2 fun u H3=>aNz X.K x l u H3 Q
 cases e:f ρ with
 | stk=>simp[e]at h
 | exc x=>simp[e]at h;exact bV d e h
 | ok r =>
  simp only[e,R.ok_bind]at h;refine cW d e fun v H1 s1 d1 g1=>⟨H0,B,ρ,d1,?_⟩
  cases e1:fl ρ with
  | stk=>simp[e1]at h
  | exc x=>simp[e1]at h;exact P.mono h s1
  | ok l =>
   simp only[e1,R.ok_bind]at h;intro H2 s2;refine⟨H0,B,ρ,d1.mono s2,?_⟩
   cases e2:fh ρ with
   | stk=>simp[e2]at h
   | exc x=>simp[e2]at h;exact P.mono h (s1.trans s2)
   | ok u =>
    simp only[e2,R.ok_bind]at h;intro H3 s3;cases e3:asT r.d with
    | stk=>simp[e3]at h
    | exc x=>exact(oH e3).elim
    | ok ds =>
     simp only[e3,R.ok_bind]at h;obtain⟨a1,xs,h1,h2,h3⟩:=(g1.mono (s2.trans s3)).tuple (jI e3);have s:=(s1.trans s2).trans s3;have lx:=h3.length;by_cases hw:HT.sIx ds.length 0 l=0/\HT.sIx ds.length ds.length u=ds.length
     · rw[if_pos hw]at h;exact h.elim
     · rw[if_neg hw]at h
       refine⟨a1,xs,h1,.inl (.inl h2),by rw[←lx];exact hw,fun p hp=>h _ _ (s.trans (aG.upd_new hp)) ?_⟩
       have q:aI X.K (aX r.fr H0 H3 B) (nQ ds l u) (mQ xs l u):=by
        unfold nQ mQ;rw[←lx];exact(h3.drop _).take _
       exact jS (d.mono s) hp q
end Mir
namespace Mir
open PySem L2
variable {X:Cx}{P:XP}{a b c e:Expr}{es:List Expr}{f g:FE}{fs:FEs}{pos p:Pos}
theorem aKr {x:Str}{i:Int}(hg:Gl X x)(hm:∃ t,X.mg x=some (.int i t))(hd:(x==("__debug__":Str))=false:=by decide):PE X (.Name x pos) (tE X.K P (cE (.int i))) :=
 let ⟨t,hm⟩:=hm
 m_c (cT (v:=.int i) hg hm ⟨t,rfl⟩ hd) fun _=>rfl
def aBh (a:FE):FT:=fun ρ=>do
 let x ← a ρ
 let ds ← asS x.d
 .ok (!ds.isEmpty)
theorem aI.empty {K:PySem.W.Frag}{G:Hp}{ds:List D}{vs:List V}(r:aI K G ds vs):vs.isEmpty=ds.isEmpty:=by
 have:=r.length
 cases ds<;>cases vs<;>simp at this ⊢
theorem uF {e:Expr}(h:PE X e (tE X.K P f))(he:∀ whole,isTrue e X.env whole=(do let v ← whole;standAt e.pos;holding [v] (truthy v)):=by intro _;rfl):PT X e (tT X.K P (aBh f)):=by
 refine PT.imp (aDn h he) ?_
 rintro σ H Q ⟨H0,B,ρ,d,h⟩
 unfold aBh at h;cases e1:f ρ with
 | stk=>simp[e1]at h
 | exc x=>simp[e1]at h;exact bV d e1 h
 | ok r =>
  cases e2:asS r.d with
  | stk=>simp[e1,e2]at h
  | exc x=>exact(iK e2).elim
  | ok ds =>
   simp only[e1,e2,R.ok_bind]at h;refine cW d e1 fun v H' s d' g'=>?_
   obtain⟨a,xs,h1,h2,h3⟩:=g'.seq e2;refine⟨!ds.isEmpty,?_,h H' s⟩
   rw[h1];rcases h2 with h2 | h2
   · exact .inl ⟨xs,.inl h2,by rw[h3.empty]⟩
   · exact .inr (.inl ⟨xs,SqT.of h2,by rw[h3.empty]⟩)
def inE (neg:Bool)(a b:FE):FE:=fun ρ=>do
 let x ← a ρ
 let y ← b ρ
 let i ← asI x.d
 let ds ← asS y.d
 let l ← cM ds
 .ok (sc (.bl (if neg then !l.any (·==i) else l.any (·==i))))
theorem aDs (i:Int)(l:List Int):inV (.int i) (l.map V.int)=l.any (·==i):=by
 unfold inV;rw[List.any_map];rfl
theorem aOj {neg:Bool}(σ:St)(H:Hp)(Q:VK)(h:tE X.K P (inE neg f g) σ H Q):tOp (rIn X.K neg) (tE X.K P f) (tE X.K P g) σ H Q:=by
 refine t2 (q:=fun x y H2=>rIn X.K neg x y H2 Q) h ?_
 intro H0 B ρ v w H' r r' d g1 g2 s h;cases e1:asI r.d with
 | stk=>simp[e1]at h
 | exc x=>exact(bP e1).elim
 | ok i =>
  cases e2:asS r'.d with
  | stk=>simp[e1,e2]at h
  | exc x=>exact(iK e2).elim
  | ok ds =>
   cases e3:cM ds with
   | stk=>simp[e1,e2,e3]at h
   | exc x=>exact(dE e3).elim
   | ok l =>
    simp only[e1,e2,e3,R.ok_bind]at h;obtain⟨a,xs,h1,h2,h3⟩:=g2.seq e2;have hx:=aI.ints e3 h3;refine⟨a,xs,h1,h2.imp .inl SqT.of,by rw[g1.int (bX e1)];rfl,by rw[hx];simp[lF],?_⟩
    rw[g1.int (bX e1),hx,aDs];exact h _ H' (aG.refl _) (aM.sc (show Rep _ _ (.bl _) _ from rfl))
theorem aJy (ha:PE X a (tE X.K P f))(hb:PE X b (tE X.K P g))(hm:behindInMarks .NotIn b=false:=by rfl):PT X (.Compare a [.NotIn] [b] pos) (tT X.K P (bT (inE true f g))):=pF uJ ha hb hm aOj
def xB (i:Nat)(G:Int->Int->Int)(f:FE):FS:=fun ρ=>(vE i ρ).at ρ fun x=>(asI x.d).at ρ fun m=>(f ρ).at ρ fun r=>(asI r.d).at ρ fun n=>.nx (ρ.set i (some ⟨.shr,true,.int (G m n)⟩))
theorem aKn {i:Nat}{ρ:Env}{r:Res}(h:vE i ρ=.ok r):∃ e,ρ[i]?=some (some e)/\r=⟨e.k.rd,e.fr||e.d.imm,e.d⟩:=by
 unfold vE at h;split at h
 · rename_i e q;cases h;exact⟨e,q,rfl⟩
 · cases h
theorem aCv {i:Nat}{x:Str}{op:Operator}{G:Int->Int->Int}{pos':Pos}(ho:PIp X op (ipI G))(hN:X.N.Nodup)(hi:X.N[i]?=some x)(hx:Loc X.env.scope x)(he:PE X e (tE X.K P f))(hf:X.fn x=true\/X.env.scope.names.lookup x=some .local:=by first | exact .inl rfl | exact .inr rfl | assumption) :
 PS X (.AugAssign (.Name x pos') op e pos) (tS X.K P (xB i G f)):=by
 refine PS.imp (aKo hN hi hx he ho hf) ?_
 rintro D σ H ⟨H0,T,ρ,d,h⟩
 unfold xB at h;cases e1:vE i ρ with
 | stk=>simp only[e1,R.at]at h;exact h.elim
 | exc z=>unfold vE at e1;split at e1<;>cases e1
 | ok xr =>
  simp only[e1,R.at]at h;obtain⟨en,q1,q2⟩:=aKn e1;subst q2;obtain⟨v,q3,q4⟩:=d.e.ent i en q1;cases e2:asI en.d with
  | stk=>simp only[e2]at h;exact h.elim
  | exc z=>exact(bP e2).elim
  | ok m =>
   simp only[e2]at h;refine⟨v,q3,?_⟩
   have hv:v=.int m:=(q4.res d.e.sam).int (bX e2);cases e3:f ρ with
   | stk=>simp only[e3]at h;exact h.elim
   | exc z=>simp only[e3]at h;exact bV d.e e3 (h σ H d Ext.refl)
   | ok r =>
    simp only[e3]at h;refine cW d.e e3 fun w H' s d' g'=>?_
    cases e4:asI r.d with
    | stk=>simp only[e4]at h;exact h.elim
    | exc z=>exact(bP e4).elim
    | ok n =>
     simp only[e4]at h;have dd:=(d.mono s).set_shr (i:=i) (v:=.int (G m n)) (fr:=true) (dd:=.int (G m n)) rfl;exact⟨m,n,hv,g'.int (bX e4),h _ H' dd.1 ⟨fun b o q _=>s b o q,fun b z=>.inl (dd.2 b z)⟩⟩
theorem aDy {i:Nat}{x:Str}{pos':Pos}(hN:X.N.Nodup)(hi:X.N[i]?=some x)(hx:Loc X.env.scope x)(he:PE X e (tE X.K P f))(hf:X.fn x=true\/X.env.scope.names.lookup x=some .local:=by first | exact .inl rfl | exact .inr rfl | assumption) :
 PS X (.AugAssign (.Name x pos') .Add e pos) (tS X.K P (xB i (fun m n=>m+n) f)):=aCv aK4 hN hi hx he hf
theorem aKh {i:Nat}{x:Str}{pos':Pos}(hN:X.N.Nodup)(hi:X.N[i]?=some x)(hx:Loc X.env.scope x)(he:PE X e (tE X.K P f))(hf:X.fn x=true\/X.env.scope.names.lookup x=some .local:=by first | exact .inl rfl | exact .inr rfl | assumption) :
 PS X (.AugAssign (.Name x pos') .Sub e pos) (tS X.K P (xB i (fun m n=>m-n) f)):=aCv aKd hN hi hx he hf
def aGr (i:Nat)(f:FE):FS:=fun ρ=>(pW i ρ).at ρ fun y=>(f ρ).at ρ fun r=>match r with
 | ⟨.tmp,fr,.lst es⟩=>if y.2.length+es.length<=sizeLine then .nx (ρ.set i (some ⟨.own,y.1&&fr,.lst (y.2++es)⟩)) else .stk
 | _=>.stk
theorem aIs {i:Nat}{x:Str}{p ap cp:Pos}(hN:X.N[i]?=some x)(hv:Vis X.env.scope x)(he:PE X e (tE X.K P f))(hd:(x==("__debug__":Str))=false:=by decide)(hcd:(x==("__classdict__":Str))=false:=by decide)
 (h1:starEach [e] X.env=[(false,eval e X.env)]:=by rfl) (hbase:attributeBase (.Name x p) "extend" X.env (eval (.Name x p) X.env)=eval (.Name x p) X.env:=by rfl)
 (hfew:((backTo cp (starEach [e] X.env)).all (fun x=>!x.1)&&(backToKw cp (keywordEach [] X.env)).all (fun x=>x.1.isSome)&&decide ([e].length+([]:List Keyword).length+(if ([]:List Keyword).isEmpty then 0 else 1)<30))=true:=by rfl)
 (hline:(ap.endLine==cp.line)=true:=by rfl)
 (hs:swapsWith (.Call (.Attribute (.Name x p) "extend" ap) [e] [] cp) none pos.line X.env=pure false:=by rfl) :
 PS X (.Expr (.Call (.Attribute (.Name x p) "extend" ap) [e] [] cp) pos) (tS X.K P (aGr i f)):=by
 refine PS.imp (sU (aIx PySem.F.plainAttrs_list PySem.F.slot_list_extend PySem.F.type_list_extend aBj (kT hN hv hd hcd) (iB he nE h1) hbase hfew hline (hs:=h1)) hs) ?_
 rintro D σ H ⟨H0,T,ρ,d,h⟩
 unfold aGr at h;cases e3:pW i ρ with
 | stk=>simp only[e3,R.at]at h;exact h.elim
 | exc z=>unfold pW at e3;split at e3<;>cases e3
 | ok y =>
  simp only[e3,R.at]at h;have ho:=uH e3;obtain⟨a,vs,q1,q2,q3,q4⟩:=d.own ho;refine⟨_,q1,.inl ⟨rfl,vs,SqL.of q3⟩,?_⟩
  cases e1:f ρ with
  | stk=>simp only[e1]at h;exact h.elim
  | exc z=>simp only[e1]at h;exact bV d.e e1 (h σ H d Ext.refl)
  | ok r =>
   simp only[e1]at h;refine cW d.e e1 fun v H' s d' g'=>?_
   obtain⟨rk,rfr,rd⟩:=r;cases rk with
   | tmp =>
    cases rd with
    | lst es =>
     simp only at h;by_cases hz:y.2.length+es.length<=sizeLine
     · rw[if_pos hz]at h
       obtain⟨b,o,w1,w2,w3,ws,w4,w5⟩:=g';subst w1;subst w4;have dS:=d.mono s;have q4':aI X.K (aX y.1 H0 H' (Bs T σ ρ)) y.2 vs:=aI.same (aO (fun b o q _=>s b o q) fun b z=>.inl z) q4;have w5':aI X.K (aX rfr H0 H' (Bs T σ ρ)) es ws:=aI.same (aO (fun b o q _=>q) fun b z=>.inl (.inl z)) w5;refine⟨a,b,vs,ws,rfl,rfl,s _ _ q3,w3,by rw[←q4.length,←w5.length];exact hz,?_⟩
       obtain⟨v1,v2⟩:=dS.write (fr:=y.1&&rfr) (ds:=y.2++es) (vs:=vs++ws) q1 ho rfl q2 (q4'.andL.append w5'.andR);exact h σ _ v1 ((Ext.same s).trans v2)
     · rw[if_neg hz]at h;exact h.elim
    | _=>exact h.elim
   | _=>exact h.elim
end Mir
namespace Mir
open PySem L2
variable {X:Cx}{P:XP}{a b c e:Expr}{es:List Expr}{f g:FE}{fs:FEs}{pos p:Pos}
def aC7 (H0 H H1:Hp):Prop:=∀ b,H1 b=H b\/∃ o xs,H b=some (.frz o (.lst xs))/\H1 b=some (.lst xs)/\H0 b=none
theorem aC7.ne {H0 H H1:Hp}(t:aC7 H0 H H1){b:Addr}{u:HO}(h:H b=some u)(n:∀ o xs,u≠.frz o (.lst xs)):H1 b=some u:=by
 rcases t b with e | ⟨o,ys,e1,e2,_⟩
 · exact e.trans h
 · rw[e1]at h;cases h;exact absurd rfl (n _ _)
theorem aC7.cut {H0 H H1:Hp}(t:aC7 H0 H H1)(B:Addr->Prop):aC7 H0 (Mir.cut H B) (Mir.cut H1 B):=fun b=>by
 unfold Mir.cut;by_cases hb:B b
 · left;simp[hb]
 · simpa[hb] using t b
end Mir
namespace L2
open PySem PySem.Spec PyProof.Rows
section
variable {κ:Type}[DecidableEq κ]
def nP (kvs:List (κ×V))(k:κ):Option V:=(kvs.find? fun kv=>decide (kv.1=k)).map (·.2)
def kC (kvs:List (κ×V))(k:κ)(v:V):List (κ×V) :=
 if (kvs.any fun kv=>decide (kv.1=k))=true then kvs.map (fun kv=>if kv.1=k then (kv.1,v) else kv) else kvs++[(k,v)]
theorem mC {p:κ×V}{r:List (κ×V)}{k:κ}(e:p.1=k):nP (p :: r) k=some p.2:=by simp[nP,Cw,e]
theorem lE {p:κ×V}{r:List (κ×V)}{k:κ}(e:¬ p.1=k):nP (p :: r) k=nP r k:=by simp[nP,Cw,e]
theorem vB (k:κ):∀ kvs:List (κ×V),(kvs.any fun kv=>decide (kv.1=k))=(nP kvs k).isSome
 | []=>rfl
 | p :: r=>by
  rw[Dv];by_cases e:p.1=k
  · simp only[mC e,decide_eq_true e,Bool.true_or,Option.isSome_some]
  · rw[lE e,decide_eq_false e,Bool.false_or];exact vB k r
theorem iQ (kvs:List (κ×V))(k:κ)(v:V):(kC kvs k v).length<=kvs.length+1:=by
 unfold kC;split
 · rw[Bi];omega
 · rw[Cc,Cr,List.length_nil];omega
theorem kO.isSome_eq {o:Option V}{u:Option Value}(r:kO o u):o.isSome=u.isSome:=by
 cases o with
 | none=>cases u with
  | none=>rfl
  | some _=>exact(show False from r).elim
 | some _=>cases u with
  | none=>exact(show False from r).elim
  | some _=>rfl
theorem kO.getD {o:Option V}{u:Option Value}{d:V}{d':Value}(r:kO o u)(rd:bD d d'):bD (o.getD d) (u.getD d'):=by
 cases o with
 | none=>cases u with
  | none=>exact rd
  | some _=>exact(show False from r).elim
 | some _=>cases u with
  | none=>exact(show False from r).elim
  | some _=>exact r
theorem KV.val {kvs:List (κ×V)}{vs:List (κ×Value)}(r:KV kvs vs)(k:κ):kO (nP kvs k) (valueAt vs k):=by
 unfold KV at r;induction r with
 | nil=>exact True.intro
 | @cons p q ps qs h t ih =>
  obtain⟨h1,h2⟩:=h;by_cases e:p.1=k
  · have e':q.1=k:=h1.symm.trans e
    have b:valueAt (q :: qs) k=some q.2:=by simp[valueAt,Cw,e']
    rw[mC e,b];exact h2
  · have e':¬ q.1=k:=fun z=>e (h1.trans z)
    have b:valueAt (q :: qs) k=valueAt qs k:=by simp[valueAt,Cw,e']
    rw[lE e,b];exact ih
theorem KV.any {kvs:List (κ×V)}{vs:List (κ×Value)}(r:KV kvs vs)(k:κ):(kvs.any fun kv=>decide (kv.1=k))=vs.any fun kv=>decide (kv.1=k):=by
 unfold KV at r;induction r with
 | nil=>rfl
 | cons h t ih=>rw[Dv,Dv,ih,h.1]
theorem KV.repl {kvs:List (κ×V)}{vs:List (κ×Value)}(r:KV kvs vs)(k:κ){y:V}{u:Value}(ry:bD y u) :
 KV (kvs.map fun kv=>if kv.1=k then (kv.1,y) else kv) (vs.map fun kv=>if kv.1=k then (kv.1,u) else kv):=by
 unfold KV at r ⊢;induction r with
 | nil=>exact .nil
 | @cons p q ps qs h t ih =>
  rw[Au,Au];refine .cons ?_ ih
  obtain⟨h1,h2⟩:=h;by_cases e:p.1=k
  · rw[if_pos e,if_pos (h1.symm.trans e)];exact⟨h1,ry⟩
  · rw[if_neg e,if_neg (fun z=>e (h1.trans z))];exact⟨h1,h2⟩
theorem KV.put {kvs:List (κ×V)}{vs:List (κ×Value)}(r:KV kvs vs)(k:κ){y:V}{u:Value}(ry:bD y u):KV (kC kvs k y) (stored vs k u):=by
 unfold kC stored;rw[r.any k];by_cases e:(vs.any fun kv=>decide (kv.1=k))=true
 · rw[if_pos e,if_pos e];exact r.repl k ry
 · rw[if_neg e,if_neg e];exact Paired.snoc r ⟨rfl,ry⟩
theorem KV.length {kvs:List (κ×V)}{vs:List (κ×Value)}(r:KV kvs vs):kvs.length=vs.length:=Paired.length r
end
theorem yT {P:Program}{w:World}{k:Key}{u:Value}(r:bD (kV k) u):(bI P w).is k u=true:=by
 cases k with
 | inl i=>obtain⟨t,e⟩:=(show ∃ t,u=Value.int i t from r);subst e;exact uS P w i t
 | inr x=>obtain⟨t,e⟩:=(show ∃ t,u=Value.str x t from r);subst e;exact uU P w x t
theorem rL {P:Program}{w:World}:∀ {ks:List Key} {us:List Value},bC (ks.map kV) us->ItemsAre (bI P w) ks us
 | [],_,r=>by rw[List.map_nil]at r;cases r;exact .nil
 | k :: ks,_,r=>by
  rw[Au]at r;cases r with
  | cons h t=>exact .cons (yT h) (rL t)
abbrev KT (H:Hp):List (List Key×V)->List (List Key×Addr×Value)->Prop:=Paired fun p q=>p.1=q.1/\H q.2.1=some (.tup (p.1.map kV))/\bD p.2 q.2.2
theorem KT.val {H:Hp}{kvs:List (List Key×V)}{xs:List (List Key×Addr×Value)}(r:KT H kvs xs)(k:List Key):kO (nP kvs k) ((atKey xs k).map (·.2)):=by
 induction r with
 | nil=>exact True.intro
 | @cons p q ps qs h t ih =>
  obtain⟨h1,_,h2⟩:=h;by_cases e:p.1=k
  · have e':q.1=k:=h1.symm.trans e
    have b:atKey (q :: qs) k=some q.2:=by simp[atKey,Cw,e']
    rw[mC e,b];exact h2
  · have e':¬ q.1=k:=fun z=>e (h1.trans z)
    have b:atKey (q :: qs) k=atKey qs k:=by simp[atKey,Cw,e']
    rw[lE e,b];exact ih
theorem KT.repl {H:Hp}{kvs:List (List Key×V)}{xs:List (List Key×Addr×Value)}(r:KT H kvs xs)(k:List Key){y:V}{u:Value}(ry:bD y u) :
 KT H (kvs.map fun kv=>if kv.1=k then (kv.1,y) else kv) (xs.map (putAt k u)):=by
 induction r with
 | nil=>exact .nil
 | @cons p q ps qs h t ih =>
  rw[Au,Au];refine .cons ?_ ih
  obtain⟨h1,h2,h3⟩:=h;unfold putAt;by_cases e:p.1=k
  · rw[if_pos e,if_pos (h1.symm.trans e)];exact⟨h1,h2,ry⟩
  · rw[if_neg e,if_neg (fun z=>e (h1.trans z))];exact⟨h1,h2,h3⟩
theorem KT.put {H:Hp}{kvs:List (List Key×V)}{xs:List (List Key×Addr×Value)}(r:KT H kvs xs)(k:List Key){b:Addr}{y:V}{u:Value}(hb:H b=some (.tup (k.map kV)))(ry:bD y u) :
 KT H (kC kvs k y) (storedH xs k b u):=by
 have e:(kvs.any fun kv=>decide (kv.1=k))=(atKey xs k).isSome:=by
  rw[vB,(r.val k).isSome_eq,Option.isSome_map]
 unfold kC storedH;rw[e];by_cases q:(atKey xs k).isSome=true
 · rw[if_pos q,if_pos q];exact r.repl k ry
 · rw[if_neg q,if_neg q];exact Paired.snoc r ⟨rfl,hb,ry⟩
theorem KT.keeps {H H':Hp}{kvs:List (List Key×V)}{xs:List (List Key×Addr×Value)}(r:KT H kvs xs)(ht:∀ b ys,H b=some (.tup ys)->H' b=some (.tup ys)):KT H' kvs xs :=
 Paired.mapP r fun _ _ z=>⟨z.1,ht _ _ z.2.1,z.2.2⟩
section
variable {P:Program}{w:World}{H:Hp}{h:Heap}{a:Addr}
theorem aE6 {u:HO}(ok:HOk P w H h)(e:Rd H a u):bM P w H h a u:=e.ok ok
theorem uX {kvs:List (Key×V)}(ok:HOk P w H h)(e:Rd H a (.dK kvs)):kvs.length<=sizeLine/\(a==sysModules)=false/\∃ vs,KV kvs vs/\h.DictOf (bI P w) a vs :=
 show bM P w H h a (.dK kvs) from aE6 ok e
theorem aMh {kvs:List (Key×V)}(ok:HOk P w H h)(e:H a=some (.dK kvs)):kvs.length<=sizeLine/\(a==sysModules)=false/\∃ vs,KV kvs vs/\h.DictOf (bI P w) a vs:=uX ok (.inl e)
theorem qF {ks:List Key}(ok:HOk P w H h)(e:H a=some (.tup (ks.map kV))):(tupleKind (bI P w)).is h ks a:=by
 obtain⟨_,its,r,o,h1,h2,n,h3⟩:=(show bM P w H h a (.tup (ks.map kV)) from ok a _ e)
 exact⟨o,its.toArray,n,h1,h2,h3,by simpa using rL r⟩
theorem vZ {kvs:List (List Key×V)}(ok:HOk P w H h)(e:Rd H a (.dT kvs)):kvs.length<=sizeLine/\(a==sysModules)=false /\
 ∃ xs,KT H kvs xs/\h.DictOfH (tupleKind (bI P w)) a xs:=by
 obtain⟨z,y,xs,r,o,es,ep,h1,h2,h3,h4,h5⟩:=(show bM P w H h a (.dT kvs) from aE6 ok e)
 refine⟨z,y,xs,r,o,es,ep,h1,h2,h3,h4,fun x hx=>?_,h5⟩
 have all:∀ {l:List (List Key×V)} {m:List (List Key×Addr×Value)},KT H l m->∀ x∈m,(tupleKind (bI P w)).is h x.1 x.2.1:=by
  intro l m q;induction q with
  | nil=>intro x hx;exact nomatch hx
  | @cons p q ps qs hq t ih =>
   intro x hx;rcases Ag.mp hx with e | hx
   · subst e
     exact qF ok (by rw[←hq.1];exact hq.2.1)
   · exact ih x hx
 exact all r x hx
theorem aM3 {kvs:List (List Key×V)}(ok:HOk P w H h)(e:H a=some (.dT kvs)):kvs.length<=sizeLine/\(a==sysModules)=false /\
 ∃ xs,KT H kvs xs/\h.DictOfH (tupleKind (bI P w)) a xs:=vZ ok (.inl e)
end
def aA3 (H:Hp)(a:Addr)(y:V)(r:Option V):Prop :=
 (∃ kvs k,Rd H a (.dK kvs)/\y=kV k/\r=nP kvs k)\/∃ kvs k b,Rd H a (.dT kvs)/\y=.ref b/\H b=some (.tup (k.map kV))/\r=nP kvs k
def aNr (H:Hp)(a:Addr)(y v:V)(H':Hp):Prop :=
 (∃ kvs k,H a=some (.dK kvs)/\y=kV k/\kvs.length<sizeLine/\H'=upd H a (.dK (kC kvs k v))) \/
 ∃ kvs k b,H a=some (.dT kvs)/\y=.ref b/\H b=some (.tup (k.map kV))/\kvs.length<sizeLine/\H'=upd H a (.dT (kC kvs k v))
section
variable {X:Cx}{pins:List (Addr×Obj)}{σ:St}{H:Hp}{s:Shared}{a:Addr}{y v:V}{u r:Value}{o:Option V}{A:Around}{E:Value->Shared->Prop}
theorem Inv.big (I:Inv X pins σ H s):sysModules<s.heap.objs.size:=by
 have h:mainGlobals<s.heap.objs.size:=(I.mod.glob.keeps I.bk).lt;exact Dj (by decide) h
theorem aA9 {Q:Value->Shared->Prop}(hu:A.units+1<cLine)(I:Inv X pins σ H s)(g:aA3 H a y (some v))(ry:bD y u)(h:∀ w' s',Inv X pins σ H s'->bD v w'->Q w' s') :
 wpAny (model X.prog X.w) A (getItem (.ref a) u) Q E s:=by
 rcases g with ⟨kvs,k,e,ey,l⟩ | ⟨kvs,k,b,e,ey,eb,l⟩
 · subst ey
   obtain⟨z,hd,vs,rel,dd⟩:=uX I.hok e;obtain⟨w',hw,rw'⟩:=kO.some_of (v:=v) (o:=valueAt vs k) (by rw[l];exact rel.val k)
   exact wpAny_getItem_of (yT ry) dd.mapOf hw (h w' _ (I.tok _) rw')
 · subst ey
   cases (show u=Value.ref b from ry)
   obtain⟨z,hd,xs,rel,dd⟩:=vZ I.hok e;obtain⟨w',hw,rw'⟩:=kO.some_of (v:=v) (o:=(atKey xs k).map (·.2)) (by rw[l];exact rel.val k)
   obtain⟨p,hp,hp2⟩:=Dr.mp hw;refine wpAny_getItem_heap (tupleKind_room_in1 hu) (qF I.hok eb) dd hp ?_
   rw[hp2];exact h w' _ (I.tok _) rw'
theorem zW {h':Heap}{t':Nat}{ob:HO}(I:Inv X pins σ H s)(mu:Mut (H a))(hs:Heap.SameBut a s.heap h')(he:∃ q,h'.get? a=some q)(new:bM X.prog X.w (upd H a ob) h' a ob) :
 Inv X pins σ (upd H a ob) { s with heap:=h',toks:=t' } :=
 I.write (x:=a) (e:=a) mu (.inl rfl) (fun b q hb z=>(hs.2 b hb).trans z) he new
theorem aKq {P:Program}{w:World}{H':Hp}{h':Heap}{kvs:List (Key×V)}{vs:List (Key×Value)}(z:kvs.length<=sizeLine)(hd:(a==sysModules)=false)(rel:KV kvs vs)(dd:h'.DictOf (bI P w) a vs) :
 bM P w H' h' a (.dK kvs):=⟨z,hd,vs,rel,dd⟩
theorem aAn {H':Hp}{Q:Unit->Shared->Prop}(hu:A.units+1<cLine)(I:Inv X pins σ H s)(g:aNr H a y v H')(ry:bD y u)(rv:bD v r)(h:∀ s',Inv X pins σ H' s'->Q () s') :
 wpAny (model X.prog X.w) A (setItem (.ref a) u r) Q E s:=by
 rcases g with ⟨kvs,k,e,ey,l,eH⟩ | ⟨kvs,k,b,e,ey,eb,l,eH⟩
 · subst ey eH
   obtain⟨z,hd,vs,rel,dd⟩:=aMh I.hok e;have hz:vs.length<=sizeLine:=by rw[←rel.length];exact z
   have hl:(kC kvs k v).length<=sizeLine:=by have:=iQ kvs k v;omega
   refine wpAny_setItem_pairs (hsz:=hz) (yT ry) dd fun h' dd' hs=>h _ ?_
   have he:∃ q,h'.get? a=some q:=let ⟨q,_,_,hq,_⟩:=dd';⟨q,hq⟩
   exact zW I (by rw[e];exact True.intro) hs he (aKq hl hd (rel.put k rv) dd')
 · subst ey eH
   cases (show u=Value.ref b from ry)
   obtain⟨z,hd,xs,rel,dd⟩:=aM3 I.hok e;have hz:xs.length<=sizeLine:=by rw[←Paired.length rel];exact z
   have hl:(kC kvs k v).length<=sizeLine:=by have:=iQ kvs k v;omega
   refine wpAny_setItem_heap (hsz:=hz) (tupleKind_room_in1 hu) (qF I.hok eb) dd fun h' dd' hs=>h _ ?_
   obtain⟨q,es,ep,hq,h2,h3,h4,_,h5⟩:=dd';refine zW I (by rw[e];exact True.intro) hs ⟨q,hq⟩ ⟨hl,hd,_,(rel.put k eb rv).keeps fun c ys ec=>?_,q,es,ep,hq,h2,h3,h4,h5⟩
   rw[aU (aMl ec e (fun z=>nomatch z))];exact ec
end
def aLc (i:Expr):Prop:=∀ ov iv,subscripted i false ov iv=operate [ov,iv] (getItem ov iv)
theorem aGg {prog:Program}{w:World}{A:Around}{E:Value->Shared->Prop}{s:Shared}{env:Env}{value slice:Expr}{pos:Pos}{T id:String}{Q:Value->Shared->Prop}
 (hl:typeLookup (.type T) "__getitem__" = pure (some (.builtin id))) (hs:aLc slice)
 (h:wpAny (model prog w) A (eval value env) (fun o s₁=>wpAny (model prog w) A (eval slice env) (fun i s₂=>s₂.TypeIs o T/\wpAny (model prog w) A (getItem o i) Q E s₂) E s₁) E s) :
 wpAny (model prog w) A (eval (.Subscript value slice pos) env) Q E s:=by
 refine Subscript_ (wpAny_mono h (fun o s₁ h₁=>wpAny_mono h₁ (fun i s₂ h₂=>?_) fun _ _ x=>x) fun _ _ x=>x)
 obtain⟨hT,h₂⟩:=h₂;unfold subscriptTail;refine wpAny_bind ?_
 rw[getitemInPython_of_ne hT.not_modules];refine wpAny_bind (wpAny_specialOf hT hl ?_)
 have fin:wpAny (model prog w) A (subscripted slice false o i) (fun r s₃=>wpAny (model prog w) A (letTemporaryGo value o r >>= fun _=>pure r) Q E s₃) E s₂:=by
  rw[hs o i];exact wpAny_operating (wpAny_mono h₂ (fun r s₃ h₃=>wpAny_bind (wpAny_letTemporaryGo (wpAny_pure h₃))) fun _ _ x=>x)
 first
  | exact wpAny_pure (wpAny_bind fin)
  | exact wpAny_bind (wpAny_pure (wpAny_bind fin))
  | exact wpAny_bind fin
theorem vL {X:Cx}{pins:List (Addr×Obj)}{σ:St}{H:Hp}{s:Shared}{a:Addr}{y:V}{o:Option V}(I:Inv X pins σ H s)(g:aA3 H a y o):s.TypeIs (.ref a) "dict":=by
 rcases g with ⟨kvs,k,e,_,_⟩ | ⟨kvs,k,b,e,_,_,_⟩
 · obtain⟨_,_,vs,_,dd⟩:=uX I.hok e
   exact dd.typeIs
 · obtain⟨_,_,xs,_,dd⟩:=vZ I.hok e
   exact dd.typeIs
def aM8 (td ty:TE):TE:=fun σ H Q=>td σ H fun x H1=>ty σ H1 fun y H2=>∃ a v,x=.ref a/\aA3 H2 a y (some v)/\Q v H2
def aNy (td ty tv:TE):TS:=fun D σ H=>tv σ H fun v H1=>td σ H1 fun x H2=>ty σ H2 fun y H3=>∃ a H4,x=.ref a/\aNr H3 a y v H4/\D.nx σ H4
section
variable {X:Cx}{o i e value:Expr}{pos pos' tpos:Pos}{td ty tv:TE}
theorem aGq (hu:X.A.units+1<cLine)(ho:PE X o td)(hi:PE X i ty)(hs:aLc i):PE X (.Subscript o i pos) (aM8 td ty):=by
 intro pins s σ H Q I h;refine aGg PySem.F.slot_dict_getitem.lookup hs (thn (ho pins s σ H _ I h) fun u s1 ⟨x,H1,I1,rx,q1⟩=>thn (hi pins s1 σ H1 _ I1 q1) fun iv s2 ⟨y,H2,I2,ry,a,v,ex,g,q2⟩=>?_)
 subst ex;obtain rfl:u=Value.ref a:=rx;exact⟨vL I2 g,aA9 hu I2 g ry fun w' s3 I3 rw'=>⟨v,H2,I3,rw',q2⟩⟩
theorem aFx (hu:X.A.units+1<cLine)(ho:PE X o td)(hi:PE X i ty)(hv:PE X value tv)(hs:swapsWith value (some (.Subscript o i pos')) pos.line X.env=pure false) :
 PS X (.Assign [.Subscript o i pos'] value pos) (aNy td ty tv):=by
 intro pins s σ H D I h;refine wpAny_Assign_Subscript (thn (hv pins s σ H _ I h) fun r s1 ⟨v,H1,I1,rv,q1⟩=>thn (ho pins s1 σ H1 _ I1 q1) fun u s2 ⟨x,H2,I2,rx,q2⟩=>thn (hi pins s2 σ H2 _ I2 q2) fun iv s3 ⟨y,H3,I3,ry,a,H4,ex,g,q3⟩=>?_) hs
 subst ex;obtain rfl:u=Value.ref a:=rx;exact aAn hu I3 g ry rv fun s4 I4=>⟨σ,H4,I4,q3⟩
end
theorem aEo {P:Program}{w:World}{H:Hp}(h:Heap)(hb:sysModules<h.objs.size):bM P w H (h.push { cls:=.type "dict",data:=.dict #[] }) h.objs.size (.dT []) :=
 ⟨Bv _,beq_eq_false_iff_ne.mpr (Ne.symm (Ak hb)),[],.nil,_,#[],0,Ae _ rfl,⟨rfl,rfl,rfl⟩,rfl,rfl,List.nodup_nil⟩
def aJi:TE:=fun _ H Q=>∀ p,H p=none->Q (.ref p) (upd H p (.dT []))
section
variable {X:Cx}{pos:Pos}
theorem aC9:PE X (.Dict [] [] pos) aJi:=fun pins s σ H Q I h =>
 wpAny_Dict_empty ⟨.ref s.heap.objs.size,_,I.laid (a:=s.heap.objs.size) (o:=.dT []) (t':=s.toks) (fun _ _ q=>Aa _ q) (Ad _) (aEo s.heap I.big),rfl,h _ (I.hok.fresh (Ad _))⟩
end
structure M2 (X:Cx)(o:Expr)(m:Str)(apos:Pos)(e f:Expr)(cpos:Pos):Prop where
 base:attributeBase o m X.env (eval o X.env)=eval o X.env
 few:((backTo cpos (starEach [e,f] X.env)).all (fun x=>!x.1)&&(backToKw cpos (keywordEach [] X.env)).all (fun x=>x.1.isSome)
  && decide (([e,f]:List Expr).length+([]:List Keyword).length+(if ([]:List Keyword).isEmpty then 0 else 1)<30))=true
 line:(apos.endLine==cpos.line)=true
 trees:backTo cpos (starEach [e,f] X.env)=[(false,eval e X.env),(false,eval f X.env)]
def IsD (H:Hp)(a:Addr):Prop:=(∃ kvs,Rd H a (.dK kvs))\/∃ kvs,Rd H a (.dT kvs)
theorem aLl {X:Cx}{pins:List (Addr×Obj)}{σ:St}{H:Hp}{s:Shared}{a:Addr}(I:Inv X pins σ H s)(d:IsD H a) :
 s.TypeIs (.ref a) "dict"/\(∀ b,Value.ref a=.ref b->∃ ob,s.heap.get? b=some ob/\ob.dict=none)/\(a==sysModules)=false:=by
 rcases d with ⟨kvs,e⟩ | ⟨kvs,e⟩
 · obtain⟨_,hd,vs,_,dd⟩:=uX I.hok e
   refine⟨dd.typeIs,fun b q=>?_,hd⟩
   cases q;obtain⟨ob,_,_,h1,h2,_⟩:=dd;exact⟨ob,h1,h2.2.1⟩
 · obtain⟨_,hd,xs,_,dd⟩:=vZ I.hok e
   refine⟨dd.typeIs,fun b q=>?_,hd⟩
   cases q;obtain⟨ob,_,_,h1,h2,_⟩:=dd;exact⟨ob,h1,h2.2.1⟩
section
variable {X:Cx}{pins:List (Addr×Obj)}{σ:St}{H:Hp}{s:Shared}{a:Addr}{y d:V}{u r:Value}{o:Option V}{A:Around}{E:Value->Shared->Prop}
theorem aK9 {Q:Value->Shared->Prop}(hu:A.units+1<cLine)(I:Inv X pins σ H s)(g:aA3 H a y o)(ry:bD y u)(rd:bD d r)(h:∀ w' s',Inv X pins σ H s'->bD (o.getD d) w'->Q w' s') :
 wpAny (model X.prog X.w) A (call (.builtin "dict.get") [.ref a,u,r]) Q E s:=by
 rcases g with ⟨kvs,k,e,ey,l⟩ | ⟨kvs,k,b,e,ey,eb,l⟩
 · subst ey
   obtain⟨z,hd,vs,rel,dd⟩:=uX I.hok e;refine call_meetsIn PySem.F.slot_dict_get dd.typeIs PySem.F.entry_dict_get (PySem.F.args_dict_get_3 _ _ _) (meets_dict_get_default (bI X.prog X.w) a (yT ry) hd r) ⟨_,dd.mapOf,h _ _ (I.tok _) ?_⟩
   rw[l];exact(rel.val k).getD rd
 · subst ey
   cases (show u=Value.ref b from ry)
   obtain⟨z,hd,xs,rel,dd⟩:=vZ I.hok e;refine call_meetsIn PySem.F.slot_dict_get dd.typeIs PySem.F.entry_dict_get (PySem.F.args_dict_get_3 _ _ _) (meetsH_dict_get_default (tupleKind (bI X.prog X.w)) a b hd r) ⟨tupleKind_room_in1 hu,k,xs,qF I.hok eb,dd,h _ _ (I.tok _) ?_⟩
   rw[l];exact(rel.val k).getD rd
end
def aJq (td ty tx:TE):TE:=fun σ H Q=>td σ H fun x H1=>∃ a,x=.ref a/\IsD H1 a/\ty σ H1 fun y H2=>tx σ H2 fun z H3=>∃ o,aA3 H3 a y o/\Q (o.getD z) H3
section
variable {X:Cx}{o e f:Expr}{apos cpos:Pos}{td ty tx:TE}
theorem aDv (hu:X.A.units+1<cLine)(ho:PE X o td)(he:PE X e ty)(hf:PE X f tx)(m:M2 X o "get" apos e f cpos):PE X (.Call (.Attribute o "get" apos) [e,f] [] cpos) (aJq td ty tx):=by
 intro pins s σ H Q I h;refine wpAny_Call_method m.base m.few m.line PySem.F.plainAttrs_dict PySem.F.slot_dict_get PySem.F.type_dict_get (thn (ho pins s σ H _ I h) fun u s1 ⟨x,H1,I1,rx,a,ex,d,q1⟩=>?_)
 subst ex;obtain rfl:u=Value.ref a:=rx;obtain⟨t1,t2,_⟩:=aLl I1 d;refine⟨t1,t2,?_⟩
 rw[m.trees]
 refine Calls.callWith_builtin rfl (Calls.evalArgs_plain (Calls.spliced_cons (thn (he pins s1 σ H1 _ I1 q1) fun iv s2 ⟨y,H2,I2,ry,q2⟩ =>
  Calls.spliced_cons (thn (hf pins s2 σ H2 _ I2 q2) fun fv s3 ⟨z,H3,I3,rz,ov,g,q3⟩=>Calls.spliced_nil ?_))))
 exact aK9 hu I3 g ry rz fun w' s4 I4 rw'=>⟨_,H3,I4,rw',q3⟩
end
end L2
namespace Mir
open PySem L2
variable {X:Cx}{P:XP}{a b c e:Expr}{es:List Expr}{f g h':FE}{fs:FEs}{pos p:Pos}
def asK:D->R (List Int)
 | .tup ds=>cM ds
 | _=>.stk
theorem tY {d:D}{x:Xc}(h:asK d=.exc x):False:=by
 cases d<;>simp[asK]at h
 exact dE h
def iW:List (List Int)->List D->List Int->Option D
 | k :: ks,d :: ds,j=>if k=j then some d else iW ks ds j
 | _,_,_=>none
def tH (ks:List (List Int))(ds:List D)(j:List Int)(v:D):List (List Int)×List D :=
 if j∈ks then (ks,(ks.zip ds).map fun p=>if p.1=j then v else p.2) else (ks++[j],ds++[v])
theorem tU {a b:List Int}(h:a.map (Sum.inl:Int->Key)=b.map Sum.inl):a=b:=by
 induction a generalizing b with
 | nil=>cases b with
  | nil=>rfl
  | cons _ _=>simp at h
 | cons x r ih=>cases b with
  | nil=>simp at h
  | cons y s =>
   simp only[Au,Ek.injEq,Sum.inl.injEq]at h;rw[h.1,ih h.2]
theorem aJ1 (k:List Int):(k.map Sum.inl:List Key).map kV=k.map V.int:=by
 rw[Dm];rfl
section
variable {K:PySem.W.Frag}{G:Hp}
theorem rF {k:List Int}{ks:List (List Int)}{kvs:List (List Key×V)}(h:bW (k :: ks) kvs):∃ v r,kvs=(k.map Sum.inl,v) :: r/\bW ks r:=by
 unfold bW at h;cases kvs with
 | nil=>simp at h
 | cons p r =>
  simp only[Ek.injEq,Au]at h;exact⟨p.2,r,by rw[←h.1],h.2⟩
theorem oG:∀ {ks:List (List Int)} {ds:List D} {kvs:List (List Key×V)} {j:List Int},bW ks kvs->aI K G ds (kvs.map (·.2))->(∀ d,iW ks ds j=some d->∃ v,nP kvs (j.map Sum.inl)=some v/\Rep K G d v)/\(iW ks ds j=none->nP kvs (j.map Sum.inl)=none)
 | [],ds,kvs,j,hk,r=>by
  have e:kvs=[]:=by unfold bW at hk;simpa using hk
  subst e;exact⟨fun d z=>by simp[iW]at z,fun _=>rfl⟩
 | k :: ks,ds,kvs,j,hk,r=>by
  obtain⟨v,t,rfl,hk'⟩:=rF hk;cases ds with
  | nil=>have:=r.length;simp at this
  | cons d ds =>
   obtain⟨x,xr,e1,e2,e3⟩:=r;simp only[Au,Ek.injEq]at e1;obtain⟨e1,e1'⟩:=e1;subst e1 e1';by_cases z:k=j
   · subst z
     refine⟨fun d' q=>?_,fun q=>by simp[iW]at q⟩
     simp only[iW,if_true,Bn.injEq]at q;subst q;exact⟨v,mC rfl,e2⟩
   · have nz:¬ (k.map Sum.inl:List Key)=j.map Sum.inl:=fun w=>z (tU w)
     have ih:=oG (j:=j) hk' e3;rw[lE (p:=(k.map Sum.inl,v)) nz];simp only[iW,if_neg z];exact ih
theorem zY:∀ {ks:List (List Int)} {ds:List D} {kvs:List (List Key×V)} {j:List Int} {d:D} {v:V},bW ks kvs->aI K G ds (kvs.map (·.2))->Rep K G d v->aI K G ((ks.zip ds).map fun p=>if p.1=j then d else p.2) ((kvs.map fun kv=>if kv.1=j.map Sum.inl then (kv.1,v) else kv).map (·.2))
 | [],ds,kvs,j,d,v,hk,r,rv=>by
  have e:kvs=[]:=by unfold bW at hk;simpa using hk
  subst e;rfl
 | k :: ks,ds,kvs,j,d,v,hk,r,rv=>by
  obtain⟨u,t,rfl,hk'⟩:=rF hk;cases ds with
  | nil=>have:=r.length;simp at this
  | cons d0 ds =>
   obtain⟨x,xr,e1,e2,e3⟩:=r;simp only[Au,Ek.injEq]at e1;obtain⟨e1,e1'⟩:=e1;subst e1 e1';have ih:=zY (j:=j) hk' e3 rv;by_cases z:k=j
   · subst z
     refine⟨v,_,?_,?_,ih⟩
     · simp
     · simp only[if_true];exact rv
   · have nz:¬ (k.map Sum.inl:List Key)=j.map Sum.inl:=fun w=>z (tU w)
     refine⟨u,_,?_,?_,ih⟩
     · simp[nz]
     · simp only[if_neg z];exact e2
theorem aF4 {ks:List (List Int)}{kvs:List (List Key×V)}(hk:bW ks kvs)(j:List Int):(kvs.any fun kv=>decide (kv.1=j.map Sum.inl))=decide (j∈ks):=by
 have e:(kvs.any fun kv=>decide (kv.1=j.map Sum.inl))=(kvs.map (·.1)).any fun q=>decide (q=j.map Sum.inl):=by rw[List.any_map];rfl
 rw[e,hk,List.any_map];rw[Bool.eq_iff_iff,decide_eq_true_eq,List.any_eq_true];constructor
 · rintro⟨q,hq,w⟩
   rw[←tU (of_decide_eq_true w)];exact hq
 · intro hq
   exact⟨j,hq,decide_eq_true rfl⟩
theorem zN {ks:List (List Int)}{ds:List D}{kvs:List (List Key×V)}{j:List Int}{d:D}{v:V}(hk:bW ks kvs)(r:aI K G ds (kvs.map (·.2)))(rv:Rep K G d v):bW (tH ks ds j d).1 (kC kvs (j.map Sum.inl) v)/\aI K G (tH ks ds j d).2 ((kC kvs (j.map Sum.inl) v).map (·.2)):=by
 unfold tH kC;rw[aF4 hk j];by_cases z:j∈ks
 · rw[if_pos z,decide_eq_true z,if_pos rfl]
   refine⟨?_,zY hk r rv⟩
   unfold bW at hk ⊢;rw[Dm,←hk];apply List.map_congr_left
   intro p _;show (if p.1=_ then (p.1,v) else p).1=p.1
   split<;>rfl
 · rw[if_neg z,decide_eq_false z,if_neg (by simp)]
   refine⟨?_,?_⟩
   · unfold bW at hk ⊢
     rw[Cv,Cv,hk];rfl
   · rw[Cv];exact r.append (aI.one rv)
end
def aIn:FE:=fun _=>.ok ⟨.tmp,true,.dct [] []⟩
theorem aJ0:PE X (.Dict [] [] pos) (tE X.K P aIn):=by
 refine PE.imp aC9 ?_
 rintro σ H Q ⟨H0,B,ρ,d,h⟩ p hp
 refine h _ _ (aG.upd_new hp) ⟨p,_,rfl,hp,bF,⟨[],rfl,rfl,rfl⟩⟩
theorem aM.key {H0 H H':Hp}{B:Addr->Prop}{v:V}{r:Res}{k:List Int}{K:PySem.W.Frag}(g:aM K H0 H H' B v r)(e:asK r.d=.ok k):∃ b,v=.ref b/\H' b=some (.tup ((k.map Sum.inl:List Key).map kV)):=by
 cases hd:r.d with
 | tup ds =>
  rw[hd]at e;obtain⟨b,xs,h1,h2,h3⟩:=g.tuple hd;have:=aI.ints e h3
  exact⟨b,h1,by rw[aJ1,←this];exact h2⟩
 | _=>rw[hd]at e;simp[asK]at e
def zL (a k:FE):FE:=fun ρ=>do
 let x ← a ρ
 let y ← k ρ
 match x.d with
 | .dct ks ds=>do
  let j ← asK y.d
  match iW ks ds j with
  | some d=>.ok ⟨.shr,x.fr||d.imm,d⟩
  | none=>.stk
 | _=>.stk
theorem xI (hu:X.A.units+64<cLine)(ha:PE X a (tE X.K P f))(hb:PE X b (tE X.K P g))(hs:aLc b:=by exact fun _ _=>rfl):PE X (.Subscript a b pos) (tE X.K P (zL f g)):=by
 refine PE.imp (aGq (by omega) ha hb hs) ?_
 intro σ H Q h;refine t2 (q:=fun x y H2=>∃ a v,x=.ref a/\aA3 H2 a y (some v)/\Q v H2) h ?_
 intro H0 B ρ v w H' r r' d g1 g2 s h;cases hd:r.d with
 | dct ks ds =>
  simp only[hd]at h;cases e1:asK r'.d with
  | stk=>simp[e1]at h
  | exc x=>exact(tY e1).elim
  | ok j =>
   simp only[e1,R.ok_bind]at h;obtain⟨a,kvs,h1,h2,h3,h4⟩:=g1.dict hd;obtain⟨b,k1,k2⟩:=g2.key e1;cases e2:iW ks ds j with
   | none=>simp[e2]at h
   | some dd =>
    simp only[e2]at h;obtain⟨u,q1,q2⟩:=(oG h3 h4).1 dd e2;exact⟨a,u,h1,.inr ⟨kvs,_,b,h2,k1,k2,q1.symm⟩,h u H' (aG.refl _) (Rep.fr d.sam q2)⟩
 | _=>simp[hd]at h
end Mir
namespace Mir
open PySem L2
variable {X:Cx}{P:XP}{a b c e:Expr}{es:List Expr}{f g k:FE}{fs:FEs}{pos p:Pos}
def aHz (a k x:FE):FE:=fun ρ=>do
 let m ← a ρ
 match m.d with
 | .dct ks ds=>do
  let y ← k ρ
  let z ← x ρ
  let j ← asK y.d
  match iW ks ds j with
  | some d=>.ok ⟨.shr,m.fr||d.imm,d⟩
  | none=>do
   let i ← asI z.d
   .ok (sc (.int i))
 | _=>.stk
theorem aIz {ap cp:Pos}(hu:X.A.units+64<cLine)(ha:PE X a (tE X.K P f))(hb:PE X b (tE X.K P k))(hc:PE X c (tE X.K P g))
 (hbase:attributeBase a "get" X.env (eval a X.env)=eval a X.env:=by rfl)
 (hfew:((backTo cp (starEach [b,c] X.env)).all (fun x=>!x.1)&&(backToKw cp (keywordEach [] X.env)).all (fun x=>x.1.isSome)&&decide (([b,c]:List Expr).length+([]:List Keyword).length+(if ([]:List Keyword).isEmpty then 0 else 1)<30))=true:=by rfl)
 (hline:(ap.endLine==cp.line)=true:=by rfl) (htr:backTo cp (starEach [b,c] X.env)=[(false,eval b X.env),(false,eval c X.env)]:=by rfl) :
 PE X (.Call (.Attribute a "get" ap) [b,c] [] cp) (tE X.K P (aHz f k g)):=by
 refine PE.imp (aDv (by omega) ha hb hc ⟨hbase,hfew,hline,htr⟩) ?_
 rintro σ H Q ⟨H0,B,ρ,d,h⟩
 unfold aHz at h;cases e1:f ρ with
 | stk=>simp[e1]at h
 | exc x=>simp[e1]at h;exact bV d e1 h
 | ok r =>
  simp only[e1,R.ok_bind]at h;cases hd:r.d with
  | dct ks ds =>
   simp only[hd]at h;refine cW d e1 fun v H1 s1 d1 g1=>?_
   obtain⟨a,kvs,h1,h2,h3,h4⟩:=g1.dict hd;refine⟨a,h1,.inr ⟨kvs,h2⟩,?_⟩
   cases e2:k ρ with
   | stk=>simp[e2]at h
   | exc x=>simp[e2]at h;exact bV d1 e2 (P.mono h s1)
   | ok r2 =>
    simp only[e2,R.ok_bind]at h;refine cW d1 e2 fun v2 H2 s2 d2 g2=>?_
    cases e3:g ρ with
    | stk=>simp[e3]at h
    | exc x=>simp[e3]at h;exact bV d2 e3 (P.mono h (s1.trans s2))
    | ok r3 =>
     simp only[e3,R.ok_bind]at h;refine cW d2 e3 fun v3 H3 s3 d3 g3=>?_
     cases e4:asK r2.d with
     | stk=>simp[e4]at h
     | exc x=>exact(tY e4).elim
     | ok j =>
      simp only[e4,R.ok_bind]at h;obtain⟨bb,k1,k2⟩:=g2.key e4;have s23:=s2.trans s3;have h2':Rd H3 a (.dT kvs):=aG.rd s23 h2;have h4':aI X.K (aX r.fr H0 H3 B) ds (kvs.map (·.2)):=aI.same (aO (fun b o q _=>s23 b o q) fun b z=>.inl z) h4;cases e5:iW ks ds j with
      | some dd =>
       simp only[e5]at h;obtain⟨u,q1,q2⟩:=(oG h3 h4').1 dd e5;exact⟨some u,.inr ⟨kvs,_,bb,h2',k1,s3 _ _ k2,q1.symm⟩,h u H3 ((s1.trans s2).trans s3) (Rep.fr d3.sam q2)⟩
      | none =>
       simp only[e5]at h;have q1:=(oG (j:=j) h3 h4').2 e5;cases e6:asI r3.d with
       | stk=>simp[e6]at h
       | exc x=>exact(bP e6).elim
       | ok i =>
        simp only[e6,R.ok_bind]at h;refine⟨none,.inr ⟨kvs,_,bb,h2',k1,s3 _ _ k2,q1.symm⟩,?_⟩
        show Q v3 H3
        rw[g3.int (bX e6)];exact h _ H3 ((s1.trans s2).trans s3) (aM.sc (show Rep _ _ (.int i) _ from rfl))
  | _=>simp[hd]at h
def ownD (i:Nat)(ρ:Env):R (Bool×List (List Int)×List D):=match ρ[i]? with
 | some (some ⟨.own,fr,.dct ks ds⟩)=>.ok (fr,ks,ds)
 | _=>.stk
theorem aFw {i:Nat}{ρ:Env}{y:Bool×List (List Int)×List D}(h:ownD i ρ=.ok y):ρ[i]?=some (some ⟨.own,y.1,.dct y.2.1 y.2.2⟩):=by
 unfold ownD at h;split at h
 · rename_i e;cases h;exact e
 · cases h
def aCx (i:Nat)(k f:FE):FS:=fun ρ=>(ownD i ρ).at ρ fun y=>(f ρ).at ρ fun r=>(r.give).at ρ fun x=>(k ρ).at ρ fun kr=>(asK kr.d).at ρ fun j =>
 if y.2.1.length<sizeLine then .nx (ρ.set i (some ⟨.own,y.1&&x.fr,.dct (tH y.2.1 y.2.2 j x.d).1 (tH y.2.1 y.2.2 j x.d).2⟩)) else .stk
theorem bW.len {ks:List (List Int)}{kvs:List (List Key×V)}(h:bW ks kvs):kvs.length=ks.length:=by
 simpa using congrArg Ew h
theorem aKx {i:Nat}{x:Str}{p tp:Pos}(hu:X.A.units+64<cLine)(hN:X.N[i]?=some x)(hv:Vis X.env.scope x)(hk:PE X b (tE X.K P k))(he:PE X e (tE X.K P f))(hd:(x==("__debug__":Str))=false:=by decide)(hcd:(x==("__classdict__":Str))=false:=by decide)
 (hs:swapsWith e (some (.Subscript (.Name x p) b tp)) pos.line X.env=pure false:=by rfl) :
 PS X (.Assign [.Subscript (.Name x p) b tp] e pos) (tS X.K P (aCx i k f)):=by
 refine PS.imp (aFx (by omega) (kT hN hv hd hcd) hk he hs) ?_
 rintro D σ H ⟨H0,T,ρ,d,h⟩
 unfold aCx at h;cases e0:ownD i ρ with
 | stk=>simp only[e0,R.at]at h;exact h.elim
 | exc z=>unfold ownD at e0;split at e0<;>cases e0
 | ok y =>
  simp only[e0,R.at]at h;have ho:=aFw e0;cases e1:f ρ with
  | stk=>simp only[e1]at h;exact h.elim
  | exc z=>simp only[e1]at h;exact bV d.e e1 (h σ H d Ext.refl)
  | ok r =>
   simp only[e1]at h;refine cW d.e e1 fun v H1 s1 d1 g1=>?_
   cases e2:r.give with
   | stk=>simp only[e2]at h;exact h.elim
   | exc z=>unfold Res.give at e2;split at e2<;>cases e2
   | ok r' =>
    simp only[e2]at h;obtain⟨w1,w2⟩:=g1.give d.e e2;subst w1;obtain⟨a,kvs,q1,q2,q3,q4,q5⟩:=d.ownD ho;refine⟨_,q1,?_⟩
    cases e3:k ρ with
    | stk=>simp only[e3]at h;exact h.elim
    | exc z=>simp only[e3]at h;exact bV d1 e3 (h σ H1 (d.mono s1) (Ext.same s1))
    | ok kr =>
     simp only[e3]at h;refine cW d1 e3 fun v2 H2 s2 d2 g2=>?_
     cases e4:asK kr.d with
     | stk=>simp only[e4]at h;exact h.elim
     | exc z=>exact(tY e4).elim
     | ok j =>
      simp only[e4]at h;by_cases hz:y.2.1.length<sizeLine
      · rw[if_pos hz]at h
        obtain⟨bb,k1,k2⟩:=g2.key e4;have s12:=s1.trans s2;have dS:=d.mono s12;have m1:∀ fr,aG (aX fr H0 H1 (Bs T σ ρ)) (aX fr H0 H2 (Bs T σ ρ)):=fun fr=>aO (fun b o q _=>s2 b o q) fun b z=>.inl z;have m2:∀ fr,aG (aX fr H0 H (Bs T σ ρ)) (aX fr H0 H2 (Bs T σ ρ)):=fun fr=>aO (fun b o q _=>s12 b o q) fun b z=>.inl z
        have rv:Rep X.K (aX (y.1&&r.fr) H0 H2 (Bs T σ ρ)) r.d v:=by
         obtain⟨_,_,z1,z2,_⟩:=(aI.one (Rep.same (m1 _) w2)).andR (fr:=y.1);cases z1;exact z2
        have pk:=zN (j:=j) q4 (aI.same (m2 _) q5).andL rv;refine⟨a,_,rfl,.inr ⟨kvs,j.map Sum.inl,bb,s12 _ _ q3,k1,k2,by rw[q4.len];exact hz,rfl⟩,?_⟩
        obtain⟨v1,v2⟩:=dS.writeO (fr:=y.1&&r.fr) (dd:=.dct (tH y.2.1 y.2.2 j r.d).1 (tH y.2.1 y.2.2 j r.d).2) (o':=.dT (kC kvs (j.map Sum.inl) v)) q1 ho rfl q2 ⟨_,rfl,pk.1,pk.2⟩;exact h σ _ v1 ((Ext.same s12).trans v2)
      · rw[if_neg hz]at h;exact h.elim
end Mir
namespace Srt
open PySem PySem.W PyProof.Rows
def ins {α:Type}(r:α->α->Bool)(x:α):List α->List α
 | []=>[x]
 | y :: l=>if r y x then y :: ins r x l else x :: y :: l
def srt {α:Type}(r:α->α->Bool):List α->List α
 | []=>[]
 | x :: l=>ins r x (srt r l)
section
variable {α:Type}{r:α->α->Bool}
theorem pA (x:α):∀ l:List α,(ins r x l).Perm (x :: l)
 | []=>Do _
 | y :: l=>by
  unfold ins;split
  · exact((pA x l).cons y).trans (List.Perm.swap x y l)
  · exact Do _
theorem wG:∀ l:List α,(srt r l).Perm l
 | []=>Do _
 | x :: l=>(pA x (srt r l)).trans ((wG l).cons x)
structure Tot (r:α->α->Bool):Prop where
 asy:∀ {a b},r a b=true->r b a=false
 tri:∀ {a b},r a b=false->r b a=false->a=b
 trs:∀ {a b c},r a b=true->r b c=true->r a c=true
theorem Tot.le (t:Tot r){a b c:α}(h:r b a=false)(g:r c b=false):r c a=false:=by
 cases q:r c a with
 | false=>rfl
 | true =>
  cases ab:r a b with
  | true=>have:=t.trs q ab;rw[g]at this;cases this
  | false=>rw[t.tri ab h]at q;rw[g]at q;cases q
theorem aFf (t:Tot r)(x:α):∀ {l:List α},l.Pairwise (fun a b=>r b a=false)->(ins r x l).Pairwise fun a b=>r b a=false
 | [],_=>by simp[ins]
 | y :: l,h=>by
  have hc:=Ec.mp h;obtain⟨h1,h2⟩:=hc;unfold ins;split
  · rename_i z
    refine Ec.mpr ⟨fun b hb=>?_,aFf t x h2⟩
    rcases Ag.mp ((pA x l).mem_iff.mp hb) with e | e
    · rw[e];exact t.asy z
    · exact h1 b e
  · rename_i z
    have z':r y x=false:=by simpa using z
    refine Ec.mpr ⟨fun b hb=>?_,h⟩
    rcases Ag.mp hb with e | e
    · rw[e];exact z'
    · exact t.le z' (h1 b e)
theorem aC1 (t:Tot r):∀ l:List α,(srt r l).Pairwise fun a b=>r b a=false
 | []=>Cn
 | x :: l=>aFf t x (aC1 t l)
theorem xS (t:Tot r){l k:List α}(p:k.Perm l)(u:k.Pairwise fun a b=>r b a=false):k=srt r l :=
 List.Perm.eq_of_pairwise (le:=fun a b=>r b a=false) (fun a b _ _ h g=>t.tri g h) u (aC1 t l) (p.trans (wG l).symm)
theorem rV (ks:List α)(d0:α):(Bp ks.length).map (fun i=>ks.getD i d0)=ks:=by
 refine List.ext_getElem (by simp) fun i h1 h2=>?_
 simp[h2]
theorem pV {n:Nat}{p:Array Nat}(ip:Inv n p):p.toList.Perm (Bp n):=by simpa using Array.perm_iff_toList_perm.mp ip
theorem aLo (t:Tot r){p:Array Nat}{ks:List α}(d0:α)(ip:Inv ks.length p)(u:Up (fun i j=>r (ks.getD i d0) (ks.getD j d0)) p ks.length):p.toList.map (fun i=>ks.getD i d0)=srt r ks:=by
 refine xS t ?_ ?_
 · have:=(pV ip).map fun i=>ks.getD i d0
   rw[rV]at this;exact this
 · rw[List.pairwise_map,List.pairwise_iff_getElem]
   intro i j hi hj hij;have sz:=ip.size;have:=u i j (Ea hij) (by rw[←sz];simpa using hj)
   unfold at' at this;have ei:p.getD i 0=p.toList[i]:=by simp[Array.getD,show i<p.size by simpa using hi]
   have ej:p.getD j 0=p.toList[j]:=by simp[Array.getD,show j<p.size by simpa using hj]
   rw[ei,ej]at this;exact this
end
def ix (a b:Int):Bool:=decide (a<b)
theorem yD:Tot ix:=⟨fun h=>decide_eq_false (by have:=of_decide_eq_true h;omega),fun h g=>by have:=of_decide_eq_false h;have:=of_decide_eq_false g;omega,fun h g=>decide_eq_true (by have:=of_decide_eq_true h;have:=of_decide_eq_true g;omega)⟩
theorem aC3:Tot lx:=⟨yB,wQ,xU⟩
theorem aJ2:Tot px:=⟨aKc,aL4,aI0⟩
theorem Tot.ord {α:Type}{r:α->α->Bool}(t:Tot r)(key:Nat->α):Ord fun i j=>r (key i) (key j):=aLg key t.asy t.tri t.trs
section
variable {prog:Program}{w:World}{A:Around}{E:Value->Shared->Prop}{s:Shared}
theorem uA:∀ {vs:List Value} {ns:List Int} {i:Nat},IntsAre vs ns->i<vs.length->∃ t,vs.getD i Value.none=.int (ns.getD i 0) t
 | _,_,_,.nil,h=>by simp at h
 | _,_,0,.cons n t hr,_=>⟨t,rfl⟩
 | _,_,i+1,.cons n t hr,h=>by
  obtain⟨u,e⟩:=uA (i:=i) hr (by simpa using h)
  exact⟨u,by simpa using e⟩
theorem aDh {vs:List Value}{ns:List Int}{t:Shared}(T:IntsAre vs ns)(two:2<=vs.length) :
 wpAny (model prog w) A (keyKind' vs.toArray) (fun κ t'=>kR t t'/\mL prog w A (fun i j=>ix (ns.getD i 0) (ns.getD j 0)) vs κ t) (fun _ _=>False) t:=by
 match vs,T,two with
 | v1 :: v2 :: vs,T,_ =>
  rw[keyKind_ints T];refine wpAny_pure ⟨kR.refl t,fun i j C s1 hi hj l q=>?_⟩
  obtain⟨t1,e1⟩:=uA T hi;obtain⟨t2,e2⟩:=uA T hj;unfold kas_ask;rw[e1,e2];exact kat_lt_int (q s1 l)
end
end Srt
namespace L2
open PySem PySem.Spec PyProof.Rows
section
variable {X:Cx}{pins:List (Addr×Obj)}{σ:St}{H:Hp}{s:Shared}{h':Heap}{D:Addr}{o:HO}
theorem bM.there {P:Program}{w:World}{h:Heap}{a:Addr}(x:bM P w H h a o):∃ u,h.get? a=some u:=by
 cases o with
 | lst xs=>obtain⟨_,_,_,_,e⟩:=x;exact⟨_,e⟩
 | tup xs=>obtain⟨_,_,_,u,e,_⟩:=x;exact⟨_,e⟩
 | dK kvs=>obtain⟨_,_,_,_,u,_,_,e,_⟩:=x;exact⟨_,e⟩
 | dT kvs=>obtain⟨_,_,_,_,u,_,_,e,_⟩:=x;exact⟨_,e⟩
 | set S n=>obtain⟨u,_,_,_,e,_⟩:=x;exact⟨_,e⟩
 | ins C dx fs=>obtain⟨_,_,_,e,_⟩:=x;exact⟨_,e⟩
 | own y=>exact x
 | xd fs=>obtain⟨_,⟨u,_,_,e,_⟩,_⟩:=x;exact⟨_,e⟩
 | rng lo hi=>obtain⟨_,_,_,e⟩:=x;exact⟨_,e⟩
 | frz ob u=>obtain⟨e,_⟩:=x;exact⟨_,e⟩
 | tbl ps=>exact⟨_,x⟩
 | met f y=>exact⟨_,x⟩
 | ext φ=>obtain⟨_,e,_⟩:=x;exact e
theorem Inv.laidN {t':Nat}(I:Inv X pins σ H s)(k:∀ b u,s.heap.get? b=some u->h'.get? b=some u)(hD:s.heap.get? D=none)(new:bM X.prog X.w (upd H D o) h' D o) :
 H D=none/\Inv X pins σ (upd H D o) { s with heap:=h',toks:=t' }:=by
 have hn:H D=none:=by
  cases q:H D with
  | none=>rfl
  | some u=>obtain⟨v,e⟩:=(I.hok D u q).there;rw[hD]at e;cases e
 have nb:∀ b u,s.heap.get? b=some u->b≠D:=fun b u e z=>by rw[z,hD]at e;cases e
 refine⟨hn,I.un ⟨fun b u q _ _ _=>k b u q,fun b u q _ _ _=>⟨u.slots,k b u q⟩,fun b u q n _=>?_,fun b u q _=>⟨u,k b u q⟩,fun b xs q=>?_,fun b u xs q=>?_,fun b ps q=>⟨#[],?_⟩⟩ fun b u e=>?_⟩
 · rw[aU (nb b u q)];exact n
 · rw[aU (aZ q hn)];exact q
 · rw[aU (aZ q hn)];exact q
 · rw[aU (aZ q hn),q];simp
 · by_cases hb:b=D
   · subst hb;rw[bF]at e;cases e;exact new
   · rw[aU hb]at e
     exact(I.hok b u e).stay (fun c v _ q=>k c v q) (fun c q=>by rw[aU (aZ q hn)];exact q) fun c xs q=>by rw[aU (aZ q hn)];exact q
theorem bC.picks {ys:List V}{its:List Value}(r:bC ys its):∀ {l:List Nat},(∀ i∈l,i<ys.length)->bC (l.map fun i=>ys.getD i .non) (l.map fun i=>its.getD i Value.none)
 | [],_=>.nil
 | i :: l,h=>by
  refine .cons ?_ (bC.picks r fun j hj=>h j (Am _ hj))
  have hi:=h i Ap;obtain⟨u,e,q⟩:=r.get (Al hi);show bD (ys.getD i .non) (its.getD i Value.none)
  rw[Br,Al hi,Br,e];exact q
theorem rC {lt:Nat->Nat->Bool}{ys:List V}{its:List Value}{x:Value}{Q:VK}(od:Srt.Ord lt)(I:Inv X pins σ H s)(r:bC ys its)(few:ys.length<64)
 (col:∀ R:List Value->Shared->Prop,(∀ h',(∀ b u,s.heap.get? b=some u->h'.get? b=some u)->R its { s with heap:=h' })->wpAny (model X.prog X.w) X.A.in1 (collect x) R X.xe s)
 (ask:2<=its.length->∀ t:Shared,(∀ b y,s.heap.get? b=some y->t.heap.get? b=some y)->wpAny (model X.prog X.w) X.A.in1.in1 (keyKind' its.toArray) (fun κ t'=>Srt.kR t t'/\Srt.mL X.prog X.w X.A.in1.in1 lt its κ t) (fun _ _=>False) t)
 (q:∀ p,Srt.Inv ys.length p->Srt.Up lt p ys.length->∀ l,H l=none->Q (.ref l) (upd H l (.lst (p.toList.map fun i=>ys.getD i .non)))) :
 wpAny (model X.prog X.w) X.A (call (.builtin "sorted") [x]) (EP X pins σ Q) X.xe s:=by
 have hl:=r.length;refine Srt.aBw od (vs:=its) (by rw[←hl];exact few) (col _ fun h' k=>⟨rfl,h',s.toks,rfl,k⟩) ask fun p h' tk c D ip u k hD e=>?_
 rw[←hl]at ip u;have bd:∀ i∈p.toList,i<ys.length:=fun i hi=>by simpa using (Srt.pV ip).mem_iff.mp hi
 have ln:(p.toList.map fun i=>ys.getD i V.non).length<=sizeLine:=by
  rw[Bi,Array.length_toList,ip.size,sizeLine_eq];omega
 obtain⟨h1,h2⟩:=I.laidN (t':=tk) (o:=.lst (p.toList.map fun i=>ys.getD i .non)) k hD ⟨ln,_,c,r.picks bd,e⟩;exact⟨.ref D,_,h2,rfl,q p ip u D h1⟩
end
end L2
namespace L2
open PySem PySem.Spec PyProof.Rows
abbrev pick (p:Array Nat)(ys:List V):List V:=p.toList.map fun i=>ys.getD i .non
section
variable {X:Cx}{pins:List (Addr×Obj)}{σ:St}{H:Hp}{s:Shared}
theorem aF7 {a:Addr}{its:List Value}(hq:PlainL s.heap a its.toArray\/IsTup s.heap a its.toArray)(hz:its.length<=sizeLine)(R:List Value->Shared->Prop)
 (k:∀ h',(∀ b u,s.heap.get? b=some u->h'.get? b=some u)->R its { s with heap:=h' }):wpAny (model X.prog X.w) X.A.in1 (collect (.ref a)) R X.xe s:=by
 rcases hq with hq | hq
 · obtain⟨o,ho,hc,n,hd⟩:=hq.isList
   exact wpAny_collect_seq a (.inl rfl) ho hc hd (fun h' kp=>k h' kp) (by simpa using hz)
 · obtain⟨o,ho,hc,n,hd⟩:=hq
   exact wpAny_collect_seq a (.inr rfl) ho hc hd (fun h' kp=>k h' kp) (by simpa using hz)
theorem aB1:gH X (.builtin "sorted") (fun xs H Q=>∃ (a:Addr) (ns:List Int),xs=[.ref a]/\(SqL X.K H a (ns.map V.int)\/SqT X.K H a (ns.map V.int))/\ns.length<64 /\
 ∀ p,Srt.Inv ns.length p->Srt.Up (fun i j=>Srt.ix (ns.getD i 0) (ns.getD j 0)) p ns.length->∀ l,H l=none->Q (.ref l) (upd H l (.lst (pick p (ns.map V.int))))):=by
 intro pins s σ H xs us Q I r h;obtain⟨a,ns,rfl,hq,few,q⟩:=h;obtain⟨u,rfl,rx⟩:=iA r;cases rx
 obtain⟨its,rv,pl,hz⟩:∃ its:List Value,bC (ns.map V.int) its/\(PlainL s.heap a its.toArray\/IsTup s.heap a its.toArray)/\its.length<=sizeLine:=by
  rcases hq with hq | hq
  · obtain⟨its,r,pl,z⟩:=I.list hq;exact⟨its,r,.inl pl,by rw[←r.length];exact z⟩
  · obtain⟨its,r,pl,z⟩:=I.tuple hq;exact⟨its,r,.inr pl,by rw[←r.length];exact z⟩
 have hi:=jU rv;refine rC (Srt.yD.ord fun i=>ns.getD i 0) I rv (by simpa using few) (fun R k=>aF7 pl hz R k) (fun two t k=>Srt.aDh hi two) fun p ip u l hl=>?_
 rw[Bi]at ip u;exact q p ip u l hl
def PrV (H:Hp)(ys:List V)(ks:List (List Int×Int)):Prop:=ys.length=ks.length/\∀ (i:Nat) (k:List Int×Int),ks[i]?=some k->∃ p b,ys[i]?=some (.ref p)/\H p=some (.tup [.ref b,.int k.2])/\H b=some (.tup (k.1.map V.int))
theorem iZ (I:Inv X pins σ H s){b:Addr}{xs:List V}(h:H b=some (.tup xs)):∃ its:List Value,bC xs its/\IsTup s.heap b its.toArray:=by
 obtain⟨_,its,r,t⟩:=I.hok b _ h;exact⟨its,r,t⟩
theorem IsTup.on {h h':Heap}{a:Addr}{its:Array Value}(t:IsTup h a its)(k:∀ b u,h.get? b=some u->h'.get? b=some u):IsTup h' a its:=by
 obtain⟨o,h1,h2⟩:=t;exact⟨o,k a o h1,h2⟩
theorem KT.addrs {kvs:List (List Key×V)}{xs:List (List Key×Addr×Value)}(r:KT H kvs xs):xs.length=kvs.length/\∀ (i:Nat) (q:List Key×Addr×Value),xs[i]?=some q->∃ p,kvs[i]?=some p/\H q.2.1=some (.tup (p.1.map kV)):=by
 induction r with
 | nil=>exact⟨rfl,fun i q h=>by simp at h⟩
 | cons hq t ih =>
  refine⟨by simp[ih.1],fun i q h=>?_⟩
  cases i with
  | zero=>simp at h;subst h;exact⟨_,rfl,hq.2.1⟩
  | succ j =>
   obtain⟨p,h1,h2⟩:=ih.2 j q (by simpa using h)
   exact⟨p,by simpa using h1,h2⟩
def KyV (H:Hp)(bs:List Addr)(js:List (List Int)):Prop:=bs.length=js.length/\∀ (i:Nat) (b:Addr) (k:List Int),bs[i]?=some b->js[i]?=some k->H b=some (.tup (k.map V.int))
theorem wN:∀ (bs:List Addr),bC (bs.map V.ref) (bs.map Value.ref)
 | []=>.nil
 | b :: bs=>.cons rfl (wN bs)
theorem aD7 (I:Inv X pins σ H s){h':Heap}{bs:List Addr}{js:List (List Int)}(z:KyV H bs js)(k:∀ b u,s.heap.get? b=some u->h'.get? b=some u):Srt.mG h' (bs.map Value.ref) js:=by
 refine⟨by simpa using z.1,fun i q hq=>?_⟩
 have hi:i<bs.length:=by rw[z.1];exact(Af.mp hq).1
 have hb:=Al hi;obtain⟨i2,r2,t2⟩:=iZ I (z.2 i bs[i] q hb hq);exact⟨bs[i],i2.toArray,by simp[hb],IsTup.on t2 k,by simpa using jU r2⟩
theorem aAe (k:List Int):(k.map (Sum.inl:Int->Key)).map kV=k.map V.int:=by
 rw[Dm];rfl
theorem aG1 (I:Inv X pins σ H s){a:Addr}{kvs:List (List Key×V)}{js:List (List Int)}(h:Rd H a (.dT kvs))(hk:kvs.map (·.1)=js.map (·.map Sum.inl)) :
 (a==sysModules)=false/\∃ (es:Array DictEntry) (ep:Nat) (bs:List Addr),Dk.Ent s.heap a es ep/\es.size=js.length/\js.length<=sizeLine/\es.toList.map (·.key)=bs.map Value.ref/\KyV H bs js:=by
 obtain⟨z,y,xs,r,o,es,ep,h1,h2,h3,h4,h5⟩:=(show bM X.prog X.w H s.heap a (.dT kvs) from aE6 I.hok h)
 obtain⟨k1,k2⟩:=KT.addrs (show KT H kvs xs from r)
 have ln:kvs.length=js.length:=by simpa using congrArg Ew hk
 have el:es.size=xs.length:=by rw[←Array.length_toList,h4,Bi]
 refine⟨y,es,ep,xs.map (·.2.1),⟨o,h1,h2,h3⟩,by omega,by omega,?_,by simp;omega,fun i b k hb hj=>?_⟩
 · rw[h4,Dm,Dm];rfl
 · rw[Bb]at hb
   cases e:xs[i]? with
   | none=>rw[e]at hb;cases hb
   | some q =>
    rw[e]at hb;cases hb;obtain⟨p,g1,g2⟩:=k2 i q e;have:(kvs.map (·.1))[i]?=(js.map (·.map Sum.inl))[i]?:=by rw[hk]
    rw[Bb,Bb,g1,hj]at this;have e2:p.1=k.map Sum.inl:=by simpa using this
    show H q.2.1=_
    rw[g2,e2,aAe]
theorem aAt (hc:X.calm=true):gH X (.builtin "sorted") (fun xs H Q=>∃ (a:Addr) (kvs:List (List Key×V)) (js:List (List Int)),xs=[.ref a]/\Rd H a (.dT kvs)/\kvs.map (·.1)=js.map (·.map Sum.inl)/\js.length<64/\(2<=js.length->∀ k∈js,k≠[]) /\
 ∀ bs,KyV H bs js->∀ p,Srt.Inv js.length p->Srt.Up (fun i j=>Srt.lx (js.getD i []) (js.getD j [])) p js.length->∀ l,H l=none->Q (.ref l) (upd H l (.lst (pick p (bs.map V.ref))))):=by
 intro pins s σ H xs us Q I r h;obtain⟨a,kvs,js,rfl,hq,hk,few,ne,q⟩:=h;obtain⟨u,rfl,rx⟩:=iA r;cases rx;obtain⟨y,es,ep,bs,x,sz,z,ek,kb⟩:=aG1 I hq hk;have lb:(bs.map V.ref).length=js.length:=by simpa using kb.1
 refine rC (Srt.aC3.ord fun i=>js.getD i []) I (wN bs) (by omega) (fun R k=>Dk.aA1 (I.ok.hd hc) y x (by omega) fun h' kp=>by rw[ek];exact k h' kp) (fun two t k=>?_) fun p ip u l hl=>?_
 · have two':2<=js.length:=by rw[←kb.1];simpa using two
   exact Srt.aEn (aD7 I kb k) (ne two') two
 · rw[lb]at ip u
   exact q bs kb p ip u l hl
end
end L2
namespace Mir
open PySem L2
variable {X:Cx}{P:XP}{a b c e:Expr}{es:List Expr}{f g:FE}{fs:FEs}{pos p:Pos}
section
variable {K:PySem.W.Frag}{G:Hp}
theorem aI.map_ints:∀ (ns:List Int),aI K G (ns.map D.int) (ns.map V.int)
 | []=>rfl
 | n :: ns=>⟨.int n,_,rfl,rfl,aI.map_ints ns⟩
theorem aI.pick {α:Type}(mk:α->D){ks:List α}{ys:List V}{q:Array Nat}{d0:α}{r:α->α->Bool}(t:Srt.Tot r)(h:aI K G (ks.map mk) ys)(ip:Srt.Inv ks.length q)(u:Srt.Up (fun i j=>r (ks.getD i d0) (ks.getD j d0)) q ks.length) :
 aI K G ((Srt.srt r ks).map mk) (L2.pick q ys):=by
 rw[←Srt.aLo t d0 ip u,Dm];have bd:∀ i∈q.toList,i<ks.length:=fun i hi=>by simpa using (Srt.pV ip).mem_iff.mp hi
 have ln:=h.length;rw[Bi]at ln
 have go:∀ l:List Nat,(∀ i∈l,i<ks.length)->aI K G (l.map (mk∘fun i=>ks.getD i d0)) (l.map fun i=>ys.getD i .non):=by
  intro l;induction l with
  | nil=>intro _;rfl
  | cons i l ih =>
   intro b;have hi:=b i Ap;obtain⟨v,e1,e2⟩:=h.get (i:=i) (d:=mk (ks.getD i d0)) (by simp[hi])
   exact⟨_,_,rfl,by show Rep K G (mk (ks.getD i d0)) (ys.getD i .non);rw[show ys.getD i .non=v by simp[e1]];exact e2,ih fun j hj=>b j (Am _ hj)⟩
 exact go q.toList bd
end
def aCq (a:FE):FE:=fun ρ=>do
 let x ← a ρ
 let ds ← asS x.d
 let ns ← cM ds
 if ns.length<64 then .ok ⟨.tmp,true,.lst ((Srt.srt Srt.ix ns).map D.int)⟩ else .stk
theorem wB:bootBuiltins "sorted" = some (.builtin "sorted"):=by decide +kernel
theorem aDz (hg:Gl X "sorted")(hm:X.mg "sorted" = none)(ha:PE X a (tE X.K P f))(he:starEach [a] X.env=[(false,eval a X.env)]:=by rfl):PE X (.Call (.Name "sorted" p) [a] [] pos) (tE X.K P (aCq f)):=by
 refine PE.imp (gV aB1 hg hm wB (aA ha aB he) (he:=he)) ?_
 intro σ H Q h;refine lO h ?_
 intro H0 B ρ v H' r d0 d g s h;cases e:asS r.d with
 | stk=>simp[e]at h
 | exc x=>exact(iK e).elim
 | ok ds =>
  simp only[e,R.ok_bind]at h;cases e2:cM ds with
  | stk=>simp[e2]at h
  | exc x=>exact(dE e2).elim
  | ok ns =>
   simp only[e2,R.ok_bind]at h;by_cases few:ns.length<64
   · rw[if_pos few]at h
     obtain⟨a,xs,h1,h2,h3⟩:=g.seq e;have hx:=aI.ints e2 h3;subst hx;refine⟨a,ns,by rw[h1],h2.imp .inl fun z=>.inl (.inl z),few,fun q iq u l hl=>h _ _ (aG.upd_new hl) (fX d s hl ?_)⟩
     exact aI.pick D.int Srt.yD (aI.map_ints ns) iq u
   · rw[if_neg few]at h;exact h.elim
def mkP (k:List Int×Int):D:=.tup [.tup (k.1.map D.int),.int k.2]
def asP:D->R (List Int×Int)
 | .tup [.tup ds,.int n]=>do
  let k ← cM ds
  .ok (k,n)
 | _=>.stk
def fY:List D->R (List (List Int×Int))
 | []=>.ok []
 | d :: r=>do
  let i ← asP d
  let l ← fY r
  .ok (i :: l)
theorem vD:∀ {ds:List D} {l:List Int},cM ds=.ok l->ds=l.map D.int
 | [],l,h=>by simp[cM]at h;subst h;rfl
 | d :: r,l,h=>by
  simp only[cM]at h;cases e:asI d with
  | stk=>simp[e]at h
  | exc y=>exact(bP e).elim
  | ok i =>
   cases e2:cM r with
   | stk=>simp[e,e2]at h
   | exc y=>exact(dE e2).elim
   | ok l' =>
    simp only[e,e2,R.ok_bind,R.ok.injEq]at h;subst h;rw[bX e,vD e2];rfl
theorem aJ5 {d:D}{k:List Int×Int}(h:asP d=.ok k):d=mkP k:=by
 unfold asP at h;split at h
 · rename_i ds n
   cases e:cM ds with
   | stk=>simp[e]at h
   | exc y=>exact(dE e).elim
   | ok l =>
    simp only[e,R.ok_bind,R.ok.injEq]at h;subst h;rw[vD e];rfl
 · cases h
theorem aAk {d:D}{x:Xc}(h:asP d=.exc x):False:=by
 unfold asP at h;split at h
 · rename_i ds n
   cases e:cM ds with
   | stk=>simp[e]at h
   | exc y=>exact(dE e).elim
   | ok l=>simp[e]at h
 · cases h
theorem kQ {x:Xc}:∀ {ds:List D},fY ds=.exc x->False
 | [],h=>by simp[fY]at h
 | d :: r,h=>by
  simp only[fY]at h;cases e:asP d with
  | stk=>simp[e]at h
  | exc y=>exact aAk e
  | ok i =>
   cases e2:fY r with
   | stk=>simp[e,e2]at h
   | exc y=>exact kQ e2
   | ok l=>simp[e,e2]at h
theorem qY:∀ {ds:List D} {l:List (List Int×Int)},fY ds=.ok l->ds=l.map mkP
 | [],l,h=>by simp[fY]at h;subst h;rfl
 | d :: r,l,h=>by
  simp only[fY]at h;cases e:asP d with
  | stk=>simp[e]at h
  | exc y=>exact(aAk e).elim
  | ok i =>
   cases e2:fY r with
   | stk=>simp[e,e2]at h
   | exc y=>exact(kQ e2).elim
   | ok l' =>
    simp only[e,e2,R.ok_bind,R.ok.injEq]at h;subst h;rw[aJ5 e,qY e2];rfl
theorem aJt {K:PySem.W.Frag}{G H:Hp}(sm:aG G H){ks:List (List Int×Int)}{ys:List V}(h:aI K G (ks.map mkP) ys):PrV H ys ks:=by
 refine⟨by rw[←h.length,Bi],fun i k hk=>?_⟩
 obtain⟨v,e1,e2⟩:=h.get (i:=i) (d:=mkP k) (by simp[hk])
 obtain⟨q,xs,rfl,e3,x1,xr,rfl,⟨b,zs,rfl,e4,e5⟩,x2,xr2,rfl,e6,e7⟩:=e2;have e8:xr2=[]:=e7;have e9:x2=.int k.2:=e6;subst e8 e9;have ez:=aI.ints (show cM (k.1.map D.int)=.ok k.1 from ?_) e5
 · subst ez
   exact⟨q,b,e1,sm _ _ e3,sm _ _ e4⟩
 · generalize k.1=l
   induction l with
   | nil=>rfl
   | cons n l ih=>simp[cM,asI,ih]
def mkT (k:List Int):D:=.tup (k.map D.int)
def aIc (a:FE):FE:=fun ρ=>do
 let x ← a ρ
 match x.d with
 | .dct ks _=>if ks.length<64/\(2<=ks.length->∀ k∈ks,k≠[]) then .ok ⟨.tmp,true,.lst ((Srt.srt Srt.lx ks).map mkT)⟩ else .stk
 | _=>.stk
theorem aHx {K:PySem.W.Frag}{H0 H':Hp}{B:Addr->Prop}{σ:St}{ρ:Env}{b:Addr}{xs:List V}(d:DenE K H0 H' B σ ρ)(e:H' b=some (.tup xs))(fr:Bool):aX fr H0 H' B b=some (.tup xs):=by
 refine aR.mpr ⟨fun z=>?_,e⟩
 rcases z with z | ⟨_,o,z,q⟩
 · obtain⟨o,q1,q2⟩:=d.bnd b z;rw[e]at q1;cases q1;cases q2
 · rw[d.sam _ _ z]at e;cases e;cases q
theorem rO {K:PySem.W.Frag}{H0 H':Hp}{B:Addr->Prop}{σ:St}{ρ:Env}(d:DenE K H0 H' B σ ρ)(fr:Bool):∀ {bs:List Addr} {js:List (List Int)},KyV H' bs js->aI K (aX fr H0 H' B) (js.map mkT) (bs.map V.ref)
 | [],[],_=>rfl
 | [],_ :: _,h=>by have:=h.1;simp at this
 | _ :: _,[],h=>by have:=h.1;simp at this
 | b :: bs,k :: js,h=>⟨.ref b,_,rfl,⟨b,_,rfl,aHx d (h.2 0 b k rfl rfl) fr,aI.map_ints k⟩,rO d fr ⟨by simpa using h.1,fun i c q h1 h2=>h.2 (i+1) c q (by simpa using h1) (by simpa using h2)⟩⟩
theorem aLt (hc:X.calm=true)(hg:Gl X "sorted")(hm:X.mg "sorted" = none)(ha:PE X a (tE X.K P f))(he:starEach [a] X.env=[(false,eval a X.env)]:=by rfl):PE X (.Call (.Name "sorted" p) [a] [] pos) (tE X.K P (aIc f)):=by
 refine PE.imp (gV (aAt hc) hg hm wB (aA ha aB he) (he:=he)) ?_
 intro σ H Q h;refine lO h ?_
 intro H0 B ρ v H' r d0 d g s h;cases hd:r.d with
 | dct ks ds =>
  simp only[hd]at h;by_cases few:ks.length<64/\(2<=ks.length->∀ k∈ks,k≠[])
  · rw[if_pos few]at h
    obtain⟨a,kvs,h1,h2,h3,h4⟩:=g.dict hd;refine⟨a,kvs,ks,by rw[h1],h2,h3,few.1,few.2,fun bs kb q iq u l hl=>h _ _ (aG.upd_new hl) (fX d s hl ?_)⟩
    exact aI.pick mkT Srt.aC3 (rO d true kb) iq u
  · rw[if_neg few]at h;exact h.elim
 | _=>simp[hd]at h
end Mir
namespace L2
open PySem PySem.Spec PyProof.Rows
def Itu (a:Addr):It :=
 ⟨fun i H=>∃ xs x,H a=some (.tup xs)/\xs[i]?=some x,fun i H v H'=>∃ t x xs,v=.ref t/\H t=none/\H'=upd H t (.tup [.int i,x])/\H a=some (.tup xs)/\xs[i]?=some x,fun i H=>∃ xs,H a=some (.tup xs)/\xs.length<=i⟩
def UTn (e it a:Addr)(i:Nat)(h:Heap):Prop:=(∃ old,h.get? e=some (En.erc it i old))/\h.get? it=some (En.trc a i)
theorem aFc {P:Program}{w:World}{K:PySem.W.Frag}{es:List Expr}{k:Nat}{pos:Pos}{e it a:Addr}(n1:e≠it):Turn P w K (.Tuple es k pos) (Itu a) [e,it] e (UTn e it a) where
 mem:=by simp
 obj:=fun i h ⟨⟨old,he⟩,q⟩ c hc=>by
  simp only[Ag,Ai,or_false]at hc;rcases hc with z | z<;>rw[z]
  · exact⟨_,he,fun v z=>nomatch z⟩
  · exact⟨_,q,fun v z=>nomatch z⟩
 keep:=fun i h h' st kp=>⟨st.1.imp fun old he=>kp _ (by simp) _ he,kp _ (by simp) _ st.2⟩
 item:=by
  intro X hP hw hK hc i pins s σ H E I hf st hg;subst hP hw hK;obtain⟨xs,x,ha,hx⟩:=hg;obtain⟨us,ru,pu⟩:=iZ I ha;obtain⟨u,eu,rxu⟩:=ru.get hx;obtain⟨⟨old,he⟩,hit⟩:=st;have ee:e<s.heap.objs.size:=Ab he;have ei:it<s.heap.objs.size:=Ab hit;refine En.nxt he rfl (En.aDl he hit pu (x:=u) (by simpa using eu) n1 fun h' b1 b2 b3 b5=>⟨_,rfl,_,rfl,?_⟩)
  refine wpAny_letOwnedTupleGo_enum b1 fun hp2 c1 cs=>?_
  have kp:∀ c o,c∉[e,it]->s.heap.get? c=some o->hp2.get? c=some o:=fun c o hc' q=>by
   simp only[Ag,Ai,or_false,not_or]at hc';exact cs.extBut c o hc'.1 (b5 c o hc'.1 hc'.2 q)
  have st':UTn e it a (i+1) hp2:=⟨⟨u,by push_cast;exact c1⟩,cs.extBut _ _ n1.symm b2⟩
  have pr:=cs.extBut _ _ (Bz ee) b3
  refine⟨.ref s.heap.objs.size,upd H s.heap.objs.size (.tup [.int i,x]),I.turnedNew (t':=s.toks+1) kp hf (fun c hc'=>?_) (Ad _) ⟨by show 2<=sizeLine;decide,[.int i s.toks,u],.cons ⟨_,rfl⟩ (.cons rxu .nil),⟨_,pr,rfl,_,rfl⟩⟩,rfl,
   ⟨_,x,xs,rfl,I.fresh,rfl,ha,hx⟩,st',fun c hc'=>?_⟩
  · obtain⟨⟨_,d1⟩,d2⟩:=st'
    simp only[Ag,Ai,or_false]at hc';rcases hc' with z | z<;>rw[z]
    · exact⟨_,d1⟩
    · exact⟨_,d2⟩
  · have lt:c<s.heap.objs.size:=by
     simp only[Ag,Ai,or_false]at hc';rcases hc' with z | z<;>rw[z]<;>assumption
    rw[aU (Ak lt)];exact(hf c hc').1
 done:=by
  intro X hP hw hK hc i pins s σ H E I hf st hg;subst hP hw hK;obtain⟨xs,ha,hend⟩:=hg;obtain⟨us,ru,pu⟩:=iZ I ha;have lu:=ru.length;obtain⟨⟨old,he⟩,hit⟩:=st;refine En.nxt he rfl (En.dry (show X.A.in1.handled=none from I.ok.hd hc) he hit pu (Array.getElem?_eq_none (by rw[Ac];omega)) fun h' x u e1 e2 kp=>⟨x,u,rfl,e1,e2,rfl,I.turnedL (t':=s.toks) (fun c o hc' q=>?_) hf⟩)
  simp only[Ag,Ai,or_false,not_or]at hc';exact kp c o hc'.2 q
 self:=fun _ _ _ _ _ st h=>let ⟨⟨_,he⟩,_⟩:=st;wpAny_pyIter_enum he h
def aMz (ta:TA):TI:=fun σ H R=>ta σ H fun vs H1=>∃ a,vs=[.ref a]/\(∃ xs,H1 a=some (.tup xs))/\R (Itu a) H1
theorem aGi {X:Cx}{es:List Expr}{k:Nat}{tp:Pos}{a:Expr}{t:TA}{p pos:Pos}(hg:Gl X "enumerate")(hm:X.mg "enumerate" = none)(ha:PA X [a] t)(hs:starEach [a] X.env=[(false,eval a X.env)]:=by rfl) :
 PI X (.Tuple es k tp) (.Call (.Name "enumerate" p) [a] [] pos) (aMz t):=by
 intro pins s σ H R I h;refine Call_ (eY I hg hm (show bootBuiltins "enumerate" = some (.type "enumerate") by decide +kernel) (Ar (thn (ha pos pins s σ H _ I h) fun us s1 ⟨vs,H1,I1,r1,x,e,⟨xs,hx⟩,q⟩=>?_) (by rw[hs];rfl) rfl))
 subst e;obtain⟨u,rfl,rx⟩:=iA r1;cases rx;obtain⟨us',ru,pu⟩:=iZ I1 hx;refine En.make pu fun h1 he hit hk=>wpAny_pyIter_enum he ?_
 have big:∀ c∈[s1.heap.objs.size+1,s1.heap.objs.size],s1.heap.objs.size<=c:=fun c hc'=>by
  simp only[Ag,Ai,or_false]at hc';rcases hc' with z | z<;>rw[z]
  · exact Bd _ 1
  · exact Ad _
 exact⟨_,[s1.heap.objs.size+1,s1.heap.objs.size],_,_,H1,rfl,I1.kept (t':=s1.toks) hk,aFc (Nat.succ_ne_self _),⟨⟨_,he⟩,hit⟩,fun c hc'=>I1.fpOk (big c hc') (I1.hok.fresh (big c hc')),q⟩
end L2
namespace Mir
open PySem L2
variable {X:Cx}{P:XP}{a b c e:Expr}{es:List Expr}{f g:FE}{fs:FEs}{pos p:Pos}
def aCk (a:FE):FI:=fun ρ=>do
 let x ← a ρ
 match x.d with
 | .tup xs=>.ok ⟨true,x.fr,nV xs⟩
 | _=>.stk
theorem aEr {K:PySem.W.Frag}{H0 H':Hp}{B:Addr->Prop}{σ:St}{ρ:Env}{a:Addr}{xs:List V}{ds:List D}{fr:Bool}(den:DenE K H0 H' B σ ρ)(h2:H' a=some (.tup xs))(h3:aI K (aX fr H0 H' B) ds xs):nU K H0 H' B (Itu a) ⟨true,fr,nV ds⟩:=by
 have nB:¬ B a:=fun z=>by obtain⟨o,q1,q2⟩:=den.bnd a z;rw[h2]at q1;cases q1;cases q2
 refine⟨fun c=>c=a,fun h c z=>z▸nB,fun H2 B2 j1 j2 j3 j4 j5 i=>?_⟩
 have q1:H2 a=some (.tup xs):=j1 a _ rfl h2;have l1:=h3.length;refine⟨fun hi=>⟨xs,q1,?_⟩,fun d hd=>?_⟩
 · simp[nV]at hi;omega
 · cases e1:ds[i]? with
   | none=>simp[nV,e1]at hd
   | some d1 =>
    have ed:d=.tup [.int i,d1]:=by simp[nV,e1]at hd;exact hd.symm
    subst ed;obtain⟨v,hv,rv⟩:=h3.get e1;refine⟨⟨xs,v,q1,hv⟩,fun x H3 y=>?_⟩
    obtain⟨t,x1,ys,e3,e4,e5,y1,y2⟩:=y;rw[q1]at y1;cases y1;rw[hv]at y2;cases y2;subst e3;subst e5;refine⟨aG.upd_new e4,t,[.int i,v],rfl,aR.mpr ⟨fun z=>?_,bF⟩,.int i,[v],rfl,rfl,v,[],rfl,?_,rfl⟩
    · rcases z with z | ⟨_,o,z,_⟩
      · obtain⟨o,q⟩:=j4 t z;rw[e4]at q;cases q
      · rw[j5 _ _ z]at e4;cases e4
    · exact Rep.same (aO (fun b o q n=>aG.upd_new e4 b o (j2 b o q n)) j3) rv
theorem yZ {ts:List Expr}{k:Nat}{tp:Pos}(hg:Gl X "enumerate")(hm:X.mg "enumerate" = none)(ha:PE X a (tE X.K P f))(hs:starEach [a] X.env=[(false,eval a X.env)]:=by rfl) :
 PI X (.Tuple ts k tp) (.Call (.Name "enumerate" p) [a] [] pos) (tI X.K P (aCk f)):=by
 refine PI.imp (aGi hg hm (aA ha aB hs) hs) ?_
 intro σ H Rq h
 have e:aCk f=fun ρ=>evs [f] ρ >>= fun rs=>match rs with | [x]=>(match x.d with | .tup xs=>.ok ⟨true,x.fr,nV xs⟩ | _=>.stk) | _=>.stk:=by
  funext ρ
  unfold aCk evs;cases f ρ<;>rfl
 rw[e]at h;refine aBi (q:=fun vs H1=>∃ a,vs=[.ref a]/\(∃ xs,H1 a=some (.tup xs))/\Rq (Itu a) H1) h ?_
 intro H0 B ρ vs H' rs d0 d gs s h;match vs,rs,gs with
 | [],rs,gs=>rw[show rs=[] from gs]at h;exact h.elim
 | [v],_,⟨r,rr,e1,g1,g2⟩ =>
  subst e1;rw[show rr=[] from g2]at h
  cases hd:r.d with
  | tup ds =>
   simp only[hd]at h;obtain⟨a,xs,h1,h2,h3⟩:=g1.tuple hd;exact⟨a,by rw[h1],⟨xs,h2⟩,h _ H' (aG.refl _) (aEr d h2 h3)⟩
  | _=>simp[hd]at h
 | v :: w :: _,_,⟨r,rr,e1,g1,r2,rr2,e2,g2⟩ =>
  subst e1;subst e2;exact h.elim
end Mir
namespace Ls
open PySem PySem.Spec PyProof.Rows
theorem aR6:isSubtype (.type "tuple") (.type "set")=pure false:=by rw[isSubtype_type];kernel_rfl
theorem aQz:isSubtype (.type "tuple") (.type "frozenset")=pure false:=by rw[isSubtype_type];kernel_rfl
abbrev fresh (led:Bool):Obj:={ cls:=.type "set",dict:=none,data:=.set #[] 0 (.fresh 0 0 led) }
section
variable {prog:Program}{w:World}{A:Around}{E:Value->Shared->Prop}{s:Shared}{S t:Addr}{items:Array Value}{ns:List Int}
abbrev met (ns:List Int)(n:Nat):List Int:=firstMet (fun i=>ns.getD i 0) n
theorem init {led:Bool}{Q:Fin->Shared->Prop}(hh:A.handled=none)(hS:s.heap.get? S=some (fresh led))(ht:IsTup s.heap t items)(hi:IntsAre items.toList ns)(hb:items.size+1<scanBound)(nt:t≠S)
 (q:∀ h' tk,h'.SetOf (intKind prog w) S (fun k'=>(met ns items.size).any (·==k')) (met ns items.size).length->(∀ b o,b≠S->s.heap.get? b=some o->h'.get? b=some o)->Q (.done (.ret .none)) { s with heap:=h',toks:=tk }) :
 wpAny (model prog w) A (Builtin.«set.__init__» ⟨[.ref S,.ref t],[]⟩) Q E s:=by
 have ty:s.TypeIs (.ref S) "set":=⟨_,hS,rfl⟩;have ht0:=ht;obtain⟨⟨c,dc,dt,sl⟩,h1,h2,n,h3⟩:=ht;cases (show c=.type "tuple" from h2)
 cases (show dt=.seq items n from h3)
 have s1:=aR6;have s2:=aQz;have ne:(Value.type "tuple" == Value.type "dict")=false:=by decide
 repeat (first | assumption | (with_reducible refine iter_tuple ht0 ?_) | (with_reducible refine wpAny_runValue ?_) | wp_step)
 have lt:t<s.heap.objs.size:=Ab h1;have lS:S<s.heap.objs.size:=Ab hS;have tup:(s.heap.push { cls:=.type "tuple_iterator",data:=.fields #[.ref t,.int 0 0] }).IsTuple t items:=⟨_,Aa _ h1,rfl,n,rfl⟩;have nf:S∉[s.heap.objs.size,t]:=by simp only[Ag,Ai,or_false,not_or];exact⟨Ak lS,nt.symm⟩
 have val:∀ (i:Nat) (v:Value),items[i]?=some v->∃ k,v=.int (ns.getD i 0) k:=fun i v e=>IntsAre.int_at hi i v (by rw[Array.getElem?_toList];exact e)
 have zero:(s.heap.push { cls:=.type "tuple_iterator",data:=.fields #[.ref t,.int 0 0] }).SetOf (intKind prog w) S (fun k'=>(met ns 0).any (·==k')) (met ns 0).length :=
  SetOf_congr ((setObjOf_fresh (knd:=intKind prog w) led).setOf (Aa _ hS) (by unfold scanBound;omega)) (fun _=>rfl) rfl
 refine codeAny_set_update_loopS ((Walks.tuple (A:=A.in1) hh s.heap.objs.size t (Ak lt) items).toS) S nf (fun i=>ns.getD i 0) val hb items.size 0 _ rfl (Bv _) ⟨⟨_,Ae _ rfl,rfl,rfl⟩,tup⟩ zero fun s' hm hS'=>?_
 obtain⟨h',g1,d1,tk',os1⟩:=s';cases (show g1=s.gens from hm.gens);cases (show d1=s.drawn from hm.drawn);cases (show os1=s.os from hm.os)
 refine wpAny_pure (wpAny_pure (q h' tk' hS' fun b o nb e=>hm.heap b o ?_ (Aa _ e)))
 simp only[Ag,Ai,or_false,not_or];exact⟨nb,Ak (Ab e)⟩
theorem made {Q:Value->Shared->Prop}(hh:A.handled=none)(ht:IsTup s.heap t items)(hi:IntsAre items.toList ns)(hb:items.size+1<scanBound)
 (q:∀ h' tk,h'.SetOf (intKind prog w) s.heap.objs.size (fun k'=>(met ns items.size).any (·==k')) (met ns items.size).length->(∀ b o,s.heap.get? b=some o->h'.get? b=some o)->Q (.ref s.heap.objs.size) { s with heap:=h',toks:=tk }) :
 wpAny (model prog w) A (call (.type "set") [.ref t]) Q E s:=by
 have lt:t<s.heap.objs.size:=by obtain⟨o,e,_⟩:=ht;exact Ab e
 obtain⟨c,tl,m1⟩:=F.called_set.mro;have m2:=F.called_set.made;have m3:=F.called_set.sub;have m4:=F.called_set.notType;have m5:=F.called_set.canCreate;have m6:=F.typeCall_set_1 (.ref t)
 refine wpAny_call (codeAny_of_tree (wpAny_pure ⟨Code.quiet_builtin _ (by decide +kernel),codeAny_builtin F.entry_type_call (by
  rw[Around.under_plain (weight_type_call_type "set" [.ref t] []) rfl];repeat any_goals (first | assumption | wp_step)
  refine codeAny_mono (code_set_new_1 (.ref t) (E:=E) (Q₁:=fun obj s1=>∃ led:Bool,obj=.ref s.heap.objs.size/\s1={ s with heap:=s.heap.push (fresh led) }) fun led=>⟨led,rfl,rfl⟩) fun r s1 hr=>?_
  match r,hr with
  | .error e,hr=>exact hr
  | .ok (.ret obj),⟨led,e1,e2⟩ =>
   subst e1 e2;have hS:(s.heap.push (fresh led)).get? s.heap.objs.size=some (fresh led):=Ae _ rfl;have ty:Shared.TypeIs { s with heap:=s.heap.push (fresh led) } (.ref s.heap.objs.size) "set":=⟨_,hS,rfl⟩
   have n1:=F.called_set.init.lookup;have n2:=F.called_set.init.bind (.ref s.heap.objs.size);have ht':IsTup (s.heap.push (fresh led)) t items:=by obtain⟨o,e,r⟩:=ht;exact⟨o,Aa _ e,r⟩
   repeat any_goals (first | assumption | wp_step)
   refine codeAny_mono (codeAny_call_builtin (R:=wants (fun r s2=>r=.none/\∃ h' tk,s2={ s with heap:=h',toks:=tk }/\h'.SetOf (intKind prog w) s.heap.objs.size (fun k'=>(met ns items.size).any (·==k')) (met ns items.size).length/\∀ b o,s.heap.get? b=some o->h'.get? b=some o) E) F.called_set.init.plain F.entry_set_init (check_set_init_1 ty ?_)) ?_
   · exact init (led:=led) (s:={ s with heap:=s.heap.push (fresh led) }) hh hS ht' hi hb (Ak lt) fun h' tk z1 z2=>⟨rfl,h',tk,rfl,z1,fun b o e=>z2 b o (Ak (Ab e)) (Aa _ e)⟩
   · intro r2 s2 hr2
     match r2,hr2 with
     | .error e,hr2=>exact hr2
     | .ok (.ret v),⟨e1,h',tk,e2,z1,z2⟩ =>
      subst e1 e2;repeat any_goals (first | assumption | wp_step)
      exact q h' tk z1 z2)⟩))
end
end Ls
namespace L2
open PySem PySem.Spec PyProof.Rows
section
variable {X:Cx}
def xF (ns:List Int):Nat:=(ns.foldl step_dedup []).length
theorem aAc (ns:List Int):Ls.met ns ns.length=ns.foldl step_dedup []:=by
 show ((Bp ns.length).map fun i=>ns.getD i 0).foldl step_dedup []=_
 rw[Srt.rV]
theorem aBr (hc:X.calm=true):gH X (.type "set") (fun xs H Q=>∃ (a:Addr) (ns:List Int),xs=[.ref a]/\H a=some (.tup (ns.map V.int))/\ns.length<1000/\∀ l S,H l=none->Q (.ref l) (upd H l (.set S (xF ns)))):=by
 intro pins s σ H xs us Q I r h;obtain⟨a,ns,rfl,hq,few,q⟩:=h;obtain⟨u,rfl,rx⟩:=iA r;cases rx;obtain⟨its,rv,pl⟩:=iZ I hq;have hi:=jU rv;have ln:its.toArray.size=ns.length:=by rw[Ac,←rv.length,Bi]
 refine Ls.made (ns:=ns) (I.ok.hd hc) pl (by simpa using hi) (by rw[ln];unfold scanBound;omega) fun h' tk z1 z2=>?_
 rw[ln,aAc]at z1;exact⟨.ref s.heap.objs.size,_,I.laid (t':=tk) (o:=.set _ (xF ns)) z2 (Ad _) z1,rfl,q _ _ I.fresh⟩
theorem aAs:gH X (.builtin "len") (fun xs H Q=>∃ (a:Addr) (S:Int->Bool) (n:Nat),xs=[.ref a]/\H a=some (.set S n)/\n<1000/\Q (.int n) H):=by
 intro pins s σ H xs us Q I r h;obtain⟨a,S,n,rfl,hq,few,q⟩:=h;obtain⟨u,rfl,rx⟩:=iA r;cases rx;have z:=I.hok a _ hq;obtain⟨o,es,ep,t,z1,z2,z3,_,_,_,z4,z5⟩:=(show s.heap.SetOf (intKind X.prog X.w) a S n from z)
 refine call_len_set z1 z2 z3 z4 (by rw[z5];omega) ⟨.int n,H,I.tok _,⟨_,by rw[z5]⟩,q⟩
theorem aGl (ns:List Int):xF ns<=ns.length:=by
 have:=firstMet_length_le (fun i=>ns.getD i 0) ns.length
 rw[show firstMet (fun i=>ns.getD i 0) ns.length=_ from aAc ns]at this
 exact this
end
end L2
namespace Mir
open PySem L2
variable {X:Cx}{P:XP}{a b c e:Expr}{es:List Expr}{f g:FE}{fs:FEs}{pos p pos2 p2:Pos}
def aH6 (a:FE):FE:=fun ρ=>do
 let x ← a ρ
 match x.d with
 | .tup ds=>do
  let ns ← cM ds
  if ns.length<1000 then .ok (sc (.int (xF ns))) else .stk
 | _=>.stk
theorem aJ4 (hc:X.calm=true)(hg:Gl X "len")(hm:X.mg "len" = none)(hg2:Gl X "set")(hm2:X.mg "set" = none)(ha:PE X a (tE X.K P f))(he:starEach [a] X.env=[(false,eval a X.env)]:=by rfl)
 (he2:starEach [.Call (.Name "set" p2) [a] [] pos2] X.env=[(false,eval (.Call (.Name "set" p2) [a] [] pos2) X.env)]:=by rfl):PE X (.Call (.Name "len" p) [.Call (.Name "set" p2) [a] [] pos2] [] pos) (tE X.K P (aH6 f)):=by
 refine PE.imp (gV aAs hg hm PySem.boot_len (iB (fK (aBr hc) hg2 hm2 (by decide +kernel) (aA ha aB he) (he:=he)) nE he2) (he:=he2)) ?_
 intro σ H Q h
 have main:tCB (fun vs H1 Q=>∃ (a:Addr) (ns:List Int),vs=[.ref a]/\H1 a=some (.tup (ns.map V.int))/\ns.length<1000/\∀ l S,H1 l=none->∃ (a:Addr) (S':Int->Bool) (n:Nat),[V.ref l]=[.ref a]/\upd H1 l (.set S (xF ns)) a=some (.set S' n)/\n<1000/\Q (.int n) (upd H1 l (.set S (xF ns)))) (tAs X.K P [f]) σ H Q:=by
  refine lO h ?_
  intro H0 B ρ v H' r d0 d g s h;cases hd:r.d with
  | tup ds =>
   simp only[hd]at h;cases e2:cM ds with
   | stk=>simp[e2]at h
   | exc x=>exact(dE e2).elim
   | ok ns =>
    simp only[e2,R.ok_bind]at h;by_cases few:ns.length<1000
    · rw[if_pos few]at h
      obtain⟨a,xs,h1,h2,h3⟩:=g.tuple hd;have hx:=aI.ints e2 h3;subst hx;refine⟨a,ns,by rw[h1],h2,few,fun l S hl=>⟨l,S,xF ns,rfl,bF,Nat.lt_of_le_of_lt (aGl ns) few,h _ _ (aG.upd_new hl) (aM.sc (show Rep _ _ (.int _) _ from rfl))⟩⟩
    · rw[if_neg few]at h;exact h.elim
  | _=>simp[hd]at h
 exact main
end Mir
namespace L2
open PySem PySem.Spec PyProof.Rows
section
variable {X:Cx}
theorem aD8:gH X (.type "range") (fun xs H Q=>∃ j:Int,xs=[.int j]/\0<=j/\j<=1000/\∀ l,H l=none->Q (.ref l) (upd H l (.rng 0 j))):=by
 intro pins s σ H xs us Q I r h;obtain⟨j,rfl,h1,h2,q⟩:=h;obtain⟨u,rfl,t,rfl⟩:=iA r;refine call_range_1 ⟨.ref s.heap.objs.size,_,I.laid (o:=.rng 0 j) (fun b o e=>Aa _ e) (Ad _) ⟨_,_,_,Ae _ rfl⟩,rfl,q _ I.fresh⟩
def pO (n:Nat):List V:=(Bp n).map fun (i:Nat)=>.int ((0:Int)+(i:Int))
theorem zH:∀ {xs:List V} {us:List Value},xs.length=us.length->(∀ (i:Nat) (x:V) (u:Value),xs[i]?=some x->us[i]?=some u->bD x u)->bC xs us
 | [],[],_,_=>.nil
 | [],(_ :: _),h,_=>(by simp at h)
 | (_ :: _),[],h,_=>(by simp at h)
 | x :: xs,u :: us,h,f=>.cons (f 0 x u rfl rfl) (zH (by simpa using h) fun i y v a b=>f (i+1) y v (by simpa using a) (by simpa using b))
theorem xT {n:Nat}{acc:Array Value}(h:ItemsOf (fun i v=>∃ t,v=.int (0+i*1) t) acc n):bC (pO n) acc.toList:=by
 refine zH (by simp[pO,h.1]) fun i x u hx hu=>?_
 obtain⟨t,e⟩:=h.2 i u (by rw[←Array.getElem?_toList];exact hu)
 have hi:i<n:=by have:=(Af.mp hx).1;simpa[pO] using this
 have ex:x=.int ((0:Int)+(i:Int)):=by simp[pO,hi]at hx;rw[←hx];simp
 subst ex;exact⟨t,by rw[e,Int.mul_one]⟩
end
end L2
namespace Mir
open PySem L2
variable {X:Cx}{P:XP}{a b c e:Expr}{es:List Expr}{f g:FE}{fs:FEs}{pos p pos2 p2:Pos}
theorem aEi {K:PySem.W.Frag}{G:Hp}(n:Nat):aI K G (lA 0 n) (pO n):=by
 refine aI.of_get (by simp[lA,pO]) fun i d v h1 h2=>?_
 have hi:i<n:=by have:=(Af.mp h1).1;simpa[lA] using this
 have e1:d=.int ((0:Int)+(i:Int)):=by simp[lA,hi]at h1;rw[←h1];simp
 have e2:v=.int ((0:Int)+(i:Int)):=by simp[pO,hi]at h2;rw[←h2];simp
 subst e1 e2;rfl
end Mir
namespace L2
open PySem PySem.Spec PyProof.Rows
section
variable {X:Cx}
def aH5:R2:=fun x y H Q=>∃ a b xs ys,x=.ref a/\y=.ref b/\H a=some (.tup xs)/\H b=some (.tup ys)/\xs.length+ys.length<=sizeLine /\
 (xs=[]->Q (.ref b) H)/\(xs≠[]->ys=[]->Q (.ref a) H)/\(xs≠[]->ys≠[]->∀ p,H p=none->Q (.ref p) (upd H p (.tup (xs++ys))))
theorem aHw:OpR X (binaryOp .Add) aH5:=by
 intro pins s σ H x y v u Q I rx ry h;obtain⟨a,b,xs,ys,rfl,rfl,ha,hb,hz,q0,q1,q2⟩:=h;by_cases hx:xs=[]
 · cases rx
   cases ry;obtain⟨its,r1,p1⟩:=iZ I ha;obtain⟨its2,r2,p2⟩:=iZ I hb;have e1:its=[]:=r1.nil_iff.mpr hx;subst e1;obtain⟨⟨c1,d1,t1,l1⟩,o1,w1,n1,z1⟩:=p1;obtain⟨⟨c2,d2,t2,l2⟩,o2,w2,n2,z2⟩:=p2;cases (show c1=.type "tuple" from w1);cases (show c2=.type "tuple" from w2)
   cases (show t1=.seq #[] n1 from z1);cases (show t2=.seq its2.toArray n2 from z2)
   exact concat_meets ⟨_,o1,rfl⟩ ⟨_,o2,rfl⟩ noFill_tuple_add seq_tuple_add PySem.F.slot_tuple_add PySem.F.entry_tuple_add (PySem.F.args_tuple_add_2 _ _) (tuple_addW0 a b #[] its2.toArray n1 n2 d1 d2 l1 l2 rfl) ⟨o1,o2,⟨.ref b,H,I,rfl,q0 hx⟩⟩
 · exact aGj pins s σ H _ _ v u Q I rx ry ⟨a,b,xs,ys,rfl,rfl,.inl (.inl ha),.inl (.inl hb),hx,hz,q1 hx,q2 hx⟩
end
end L2
namespace Mir
open PySem L2
variable {X:Cx}{P:XP}{a b c e:Expr}{es:List Expr}{f g:FE}{fs:FEs}{pos p:Pos}
def qD (a b:FE):FE:=fun ρ=>do
 let x ← a ρ
 let y ← b ρ
 let i ← asT x.d
 let j ← asT y.d
 if i.length+j.length<=sizeLine then .ok ⟨.shr,x.fr&&y.fr,.tup (i++j)⟩ else .stk
theorem mX (ha:PE X a (tE X.K P f))(hb:PE X b (tE X.K P g)):PE X (.BinOp a .Add b pos) (tE X.K P (qD f g)):=by
 refine PE.imp (zG aHw ha hb) ?_
 intro σ H Q h;refine t2 (q:=fun x y H2=>aH5 x y H2 Q) h ?_
 intro H0 B ρ v w H' r r' d g1 g2 s h;cases e1:asT r.d with
 | stk=>simp[e1]at h
 | exc x=>exact(oH e1).elim
 | ok i =>
  cases e2:asT r'.d with
  | stk=>simp[e1,e2]at h
  | exc x=>exact(oH e2).elim
  | ok j =>
   simp only[e1,e2,R.ok_bind]at h;by_cases hz:i.length+j.length<=sizeLine
   · rw[if_pos hz]at h
     have w1:=g1.shr_of (by rw[jI e1];rfl)
     have w2:=g2.shr_of (by rw[jI e2];rfl)
     rw[jI e1]at w1;rw[jI e2]at w2;obtain⟨a1,xs,h1,h2,h3⟩:=id w1;obtain⟨a2,ys,k1,k2,k3⟩:=id w2;have lx:=h3.length;have ly:=k3.length;refine⟨a1,a2,xs,ys,h1,k1,dJ _ _ h2,dJ _ _ k2,by omega,fun z=>?_,fun _ z=>?_,fun _ _ p hp=>?_⟩
     · have jn:i=[]:=Ce.mp (by rw[lx,z];rfl)
       refine h _ H' (aG.refl _) ?_
       show Rep X.K (aX (r.fr&&r'.fr) H0 H' B) (.tup (i++j)) (.ref a2)
       rw[jn,Es,←k1];obtain⟨_,_,z1,z2,_⟩:=(aI.one w2).andR (fr:=r.fr);cases z1;exact z2
     · have jn:j=[]:=Ce.mp (by rw[ly,z];rfl)
       refine h _ H' (aG.refl _) ?_
       show Rep X.K (aX (r.fr&&r'.fr) H0 H' B) (.tup (i++j)) (.ref a1)
       rw[jn,Cy,←h1];obtain⟨_,_,z1,z2,_⟩:=(aI.one w1).andL (fr':=r'.fr);cases z1;exact z2
     · exact h _ _ (aG.upd_new hp) (jS d hp (h3.andL.append k3.andR))
   · rw[if_neg hz]at h;exact h.elim
end Mir
namespace Dp
open PySem PySem.Spec PyProof.Rows L2
theorem qC:entryFor table "dict.update.loop" = some Builtin.«dict.update.loop»:=entryFor_of_tree (by kernel_rfl)
theorem iH:plainId "dict.update.loop" = true:=by decide +kernel
section
variable {prog:Program}{w:World}{A:Around}{R:Result->Shared->Prop}{I:Addr}{fp wr:List Addr}{G:Array GenState->Array GenState->Prop}{n:Nat}{P:Nat->Value->Prop}{St:Nat->Shared->Prop}
def made (ks:Nat->List Key)(kb:Nat->Addr)(vs:Nat->Value):Nat->List (List Key×Addr×Value)
 | 0=>[]
 | i+1=>storedH (made ks kb vs i) (ks i) (kb i) (vs i)
theorem wI (ks:Nat->List Key)(kb:Nat->Addr)(vs:Nat->Value):∀ i,(made ks kb vs i).length<=i
 | 0=>Ad 0
 | i+1=>by
  have:=wI ks kb vs i
  show (storedH (made ks kb vs i) (ks i) (kb i) (vs i)).length<=i+1
  unfold storedH;split<;>simp<;>omega
theorem oZ {ks:Nat->List Key}{kb:Nat->Addr}{vs:Nat->Value}:∀ {i:Nat} {x:List Key×Addr×Value},x∈made ks kb vs i->∃ j,j<i/\x.1=ks j/\x.2.1=kb j
 | 0,x,h=>by cases h
 | i+1,x,h=>by
  unfold made storedH at h;split at h
  · obtain⟨y,hy,e⟩:=Dl.mp h
    obtain⟨j,hj,a,b⟩:=oZ hy;refine⟨j,by omega,?_,?_⟩
    · rw[←e,←a];unfold putAt;split<;>rfl
    · rw[←e,←b];unfold putAt;split<;>rfl
  · rcases Ch.mp h with q | q
    · obtain⟨j,hj,a,b⟩:=oZ q
      exact⟨j,by omega,a,b⟩
    · rw[Bk.mp q];exact⟨i,by omega,rfl,rfl⟩
theorem loop (hh:A.units+2<cLine){s0:Shared}(W:WalksS prog w A.in1 I fp wr G n P St)(d:Addr)(hdf:d∉fp)(hz:n<=sizeLine)
 (ks:Nat->List Key) (kb tb:Nat->Addr) (vs:Nat->Value) (hval:∀ i v,P i v->v=.ref (tb i))
 (ht:∀ i,i<n->tb i∉d :: wr/\s0.heap.IsTuple (tb i) #[.ref (kb i),vs i]) (hk:∀ i,i<n->kb i∉d :: wr/\(tupleKind (bI prog w)).is s0.heap (ks i) (kb i)) :
 ∀ (k i:Nat) (s:Shared) (t:Tok),n-i=k->i<=n->St i s->Moved (d :: wr) G s0 s->s.heap.DictOfH (tupleKind (bI prog w)) d (made ks kb vs i) ->
  (∀ s',Moved (d :: wr) G s0 s'->s'.heap.DictOfH (tupleKind (bI prog w)) d (made ks kb vs n)->R (.ok (.ret .none)) s') ->
  codeAny (model prog w) A (.builtin "dict.update.loop" ⟨[.ref d,.ref I,.int (i:Int) t,.none],[]⟩) R s:=by
 have hdw:d∉wr:=fun h=>hdf (W.sub _ h);have hsub:∀ b∈wr,b∈d :: wr:=fun b hb=>Am _ hb
 have keyAt:∀ (s':Shared),Moved (d :: wr) G s0 s'->∀ j,j<n->(tupleKind (bI prog w)).is s'.heap (ks j) (kb j):=fun s' hm j hj=>by
  obtain⟨k1,o,its,nn,g1,g2⟩:=hk j hj;exact⟨o,its,nn,hm.heap _ _ k1 g1,g2⟩
 have keep:∀ (s s':Shared) (i:Nat),i<=n->Moved (d :: wr) G s0 s'->Moved wr G s s'->s.heap.DictOfH (tupleKind (bI prog w)) d (made ks kb vs i)->s'.heap.DictOfH (tupleKind (bI prog w)) d (made ks kb vs i):=fun s s' i hi h0 hm ⟨o,es,ep,ho,hc,hd,he,his,hn⟩ =>
  ⟨o,es,ep,hm.heap d _ hdw ho,hc,hd,he,fun x hx=>(by
   obtain⟨j,hj,a,b⟩:=oZ hx;rw[a,b]
   exact keyAt s' h0 j (by omega)),hn⟩
 intro k;induction k with
 | zero =>
  intro i s t hk' hi hst hm0 hD hR;have hin:i=n:=by omega
  subst hin;refine codeAny_builtin qC ?_
  rw[Around.under_plainId iH _];show wpAny (model prog w) A.in1 (pyNext (.ref I) >>= _) _ _ s
  refine wpAny_bind (W.done s _ _ hst fun s' hm=>?_)
  show wpAny _ A.in1 (Builtin.Dict.addKeywords d [] >>= fun _=>ret Value.none) _ _ s'
  refine wpAny_bind (wpAny_pure (wpAny_pure (hR s' (Moved.trans W.gtrans hm0 (hm.mono hsub)) ?_)))
  exact keep s s' _ (Ad _) (Moved.trans W.gtrans hm0 (hm.mono hsub)) hm hD
 | succ k ih =>
  intro i s t hk' hi hst hm0 hD hR;have hlt:i<n:=by omega
  refine codeAny_builtin qC ?_
  rw[Around.under_plainId iH _];show wpAny (model prog w) A.in1 (pyNext (.ref I) >>= _) _ _ s
  refine wpAny_bind (W.item i s _ _ hlt hst fun v s' hP hst' hm=>?_)
  obtain rfl:=hval i v hP;have m1:Moved (d :: wr) G s0 s':=Moved.trans W.gtrans hm0 (hm.mono hsub);obtain⟨t1,o,t2,t3,nn,t4⟩:=ht i hlt;have t5:s'.heap.get? (tb i)=some o:=m1.heap _ _ t1 t2;have ty:s'.TypeIs (.ref (tb i)) "tuple":=⟨_,t5,t3⟩;have hD':=keep s s' i hi m1 hm hD;refine wpAny_bind (wpAny_holding (wpAny_bind (wpAny_tryCatch ?_)))
  unfold Builtin.Dict.pairItems;repeat (first | assumption | wp_step)
  rw[t4];refine(wpAny_pure (wpAny_pure ?_))
  show wpAny _ A.in1 (holding [Value.ref (kb i),vs i] (dictSet d (.ref (kb i)) (vs i))) _ _ s'
  refine wpAny_holding (wpAny_dictSet_heap (hsz:=Bo (wI ks kb vs i) (by omega)) (tupleKind_room_in1 (by omega)) (keyAt s' m1 i hlt) hD' fun h' hD2 hsb=>?_)
  refine wpAny_pure ⟨plainId_quiet iH _,ih (i+1) _ _ (by omega) hlt (W.frame _ s' _ _ hst' (Bd _ _) fun b hb o e=>?_) (m1.then_heap (Bd _ _) fun b o hb e=>?_) hD2 hR⟩
  · rw[hsb.2 b (fun h:b=d=>hdf (by rw[←h];exact hb))];exact e
  · rw[hsb.2 b (fun h:b=d=>hb (by rw[h];exact Ap))];exact e
end
end Dp
namespace Dp
open PySem PySem.Spec PyProof.Rows L2
theorem uG:typeLookup (.type "list") "keys" = pure none:=by rw[typeLookup_type,builtinLookup_eq_fast];kernel_rfl
theorem xJ:typeLookup (.type "list") "__getattr__" = pure none:=by rw[typeLookup_type,builtinLookup_eq_fast];kernel_rfl
section
variable {prog:Program}{w:World}{A:Around}{E:Value->Shared->Prop}{h:Heap}{g:Array GenState}{d:Drawn}{t:Nat}{os:OsState}{a:Addr}{o:Obj}
theorem xO {tk:Tok}{Q:PySem.Fin->Shared->Prop}(hh:A.handled=none)(hx:h.get? a=some o)(hc:o.cls=.type "list")(hdc:o.dict=none){items:Array Value}{n:Nat}(hdt:o.data=.seq items n)
 (q:∀ h' tk e,Heap.NewAttrErr h h' e (.ref a) "keys"->E (.ref e) ⟨h',g,d,tk,os⟩) :
 wpAny (model prog w) A (Builtin.«object.__getattribute__» ⟨[.ref a,.str "keys" tk],[]⟩) Q E ⟨h,g,d,t,os⟩:=by
 have hT:(⟨h,g,d,t,os⟩:Shared).TypeIs (.ref a) "list":=⟨_,hx,hc⟩;have f4:=uG;obtain⟨c,dc,dt,sl⟩:=o;cases (show c=.type "list" from hc)
 cases (show dc=none from hdc)
 cases (show dt=.seq items n from hdt)
 repeat (any_goals first | assumption | wp_step)
 exact wpAny_raiseAttrError hh q (attrMsg_fits (by decide +kernel) (by decide +kernel))
theorem aAl {tk:Tok}{R:Result->Shared->Prop}(hh:A.handled=none)(hx:h.get? a=some o)(hc:o.cls=.type "list")(hdc:o.dict=none){items:Array Value}{n:Nat}(hdt:o.data=.seq items n)
 (q:∀ h' tk e,Heap.NewAttrErr h h' e (.ref a) "keys"->R (.error (.ref e)) ⟨h',g,d,tk,os⟩) :
 codeAny (model prog w) A (.call (.builtin "list.__getattribute__") ⟨[.ref a,.str "keys" tk],[]⟩) R ⟨h,g,d,t,os⟩ :=
 codeAny_call_builtin F.slot_list_getattribute.plain F.entry_list_ga (F.slot_list_getattribute.check _ _ _ _ _ _ _ _ (show (⟨h,g,d,t,os⟩:Shared).TypeIs (.ref a) "list" from ⟨_,hx,hc⟩) (F.args_list_getattribute_2 _ _) (xO hh hx hc hdc hdt q))
theorem aBg {Q:Option Value->Shared->Prop}(hh:A.handled=none)(hx:h.get? a=some o)(hc:o.cls=.type "list")(hdc:o.dict=none){items:Array Value}{n:Nat}(hdt:o.data=.seq items n)
 (q:∀ h' tk,(∀ b ob,h.get? b=some ob->h'.get? b=some ob)->Q none ⟨h',g,d,tk,os⟩):wpAny (model prog w) A (getAttr? (.ref a) "keys") Q E ⟨h,g,d,t,os⟩:=by
 have hT:(⟨h,g,d,t,os⟩:Shared).TypeIs (.ref a) "list":=⟨_,hx,hc⟩;have f1:=sub_AttributeError;have f2:=F.slot_list_getattribute.lookup;have f3:=F.slot_list_getattribute.bind (.ref a);have f5:=xJ;obtain⟨c,dc,dt,sl⟩:=o;cases (show c=.type "list" from hc)
 cases (show dc=none from hdc)
 cases (show dt=.seq items n from hdt)
 unfold getAttr?;unfold getAttrBy? getAttrBy;repeat (any_goals first | assumption | wp_step)
 refine aAl hh hx hc hdc hdt fun h' tk' e hx'=>?_
 obtain⟨t',u',he⟩:=hx'.there;repeat (any_goals first | assumption | wp_step)
 exact q _ _ hx'.keeps
end
end Dp
namespace Dp
open PySem PySem.Spec PyProof.Rows L2
section
variable {prog:Program}{w:World}{A:Around}{E:Value->Shared->Prop}{s:Shared}{L:Addr}{items:Array Value}
theorem yF {Q:Value->Shared->Prop}(hh:A.handled=none)(hu:A.units+9<cLine)(hL:s.heap.IsList L items)(hdn:∀ o,s.heap.get? L=some o->o.dict=none)(hz:items.size<=sizeLine)(hb:sysModules<s.heap.objs.size)
 (ks:Nat->List Key) (kb tb:Nat->Addr) (vs:Nat->Value) (hval:∀ (i:Nat) (v:Value),items[i]?=some v->v=.ref (tb i))
 (ht:∀ i,i<items.size->s.heap.IsTuple (tb i) #[.ref (kb i),vs i]) (hk:∀ i,i<items.size->(tupleKind (bI prog w)).is s.heap (ks i) (kb i))
 (q:∀ h' tk,h'.DictOfH (tupleKind (bI prog w)) s.heap.objs.size (made ks kb vs items.size)->(∀ b o,s.heap.get? b=some o->h'.get? b=some o)->Q (.ref s.heap.objs.size) { s with heap:=h',toks:=tk }) :
 wpAny (model prog w) A (call (.type "dict") [.ref L]) Q E s:=by
 refine callType_codes (Q₁:=fun obj s₁=>obj=.ref s.heap.objs.size/\s₁={ s with heap:=s.heap.push { cls:=.type "dict",data:=.dict #[] } }) F.kt_called_dict (F.kt_typeCall_dict_1 _) F.entry_dict_init (kt_code_dict_new _ ⟨rfl,rfl⟩) ?_
 rintro obj s₁ ⟨rfl,rfl⟩
 have lt:L<s.heap.objs.size:=let ⟨_,e,_⟩:=hL;Ab e
 have hnew:(s.heap.push { cls:=.type "dict",data:=.dict #[] }).DictOfH (tupleKind (bI prog w)) s.heap.objs.size []:=⟨_,#[],0,Ae _ rfl,⟨rfl,rfl,rfl⟩,rfl,rfl,(fun x hx=>nomatch hx),List.nodup_nil⟩;have hL':(s.heap.push { cls:=.type "dict",data:=.dict #[] }).IsList L items:=let ⟨o,e,r⟩:=hL;⟨o,Aa _ e,r⟩
 have tyd:Shared.TypeIs { s with heap:=s.heap.push { cls:=.type "dict",data:=.dict #[] } } (.ref s.heap.objs.size) "dict":=⟨_,Ae _ rfl,rfl⟩
 have tyl:Shared.TypeIs { s with heap:=s.heap.push { cls:=.type "dict",data:=.dict #[] } } (.ref L) "list":=let ⟨o,e,r,_⟩:=hL';⟨o,e,r⟩
 refine⟨tyd,F.args_dict_init_2 _ _,?_⟩
 unfold Builtin.«dict.__init__»;refine wpAny_bind ?_;unfold Builtin.Dict.selfAndRest;refine wpAny_bind (wpAny_notOrdered_dict tyd ?_);show wpAny _ _ (pure (s.heap.objs.size,[Value.ref L])) _ _ _
 refine wpAny_pure ?_
 show wpAny _ _ (Builtin.Dict.updateFrom "dict.__init__" s.heap.objs.size (.ref L) [] .none) _ _ _
 unfold Builtin.Dict.updateFrom;refine wpAny_bind (wpAny_typeOf tyl ?_);rw[if_pos (by decide)]
 obtain⟨o,g1,g2,nn,g3⟩:=hL'
 have hdn':o.dict=none:=by
  obtain⟨o',e,_⟩:=hL;have:(s.heap.push { cls:=.type "dict",data:=.dict #[] }).get? L=some o':=Aa _ e
  rw[g1]at this;cases this;exact hdn _ e
 refine wpAny_bind (aBg (A:=A.in1.in1) hh g1 g2 hdn' g3 fun h1 tk1 kp=>?_)
 show wpAny _ _ (rule _ >>= _) _ _ _
 refine wpAny_bind (wpAny_rule ?_)
 have hL1:h1.IsList L items:=⟨o,kp _ _ g1,g2,nn,g3⟩;refine wpAny_bind (wpAny_pyIter_list (s:=⟨h1,s.gens,s.drawn,tk1,s.os⟩) hL1 ?_)
 refine wpAny_pure ⟨plainId_quiet iH _,?_⟩
 have dlt:s.heap.objs.size<h1.objs.size:=Ab (kp _ _ (Ae _ rfl));have llt:L<h1.objs.size:=Dj lt dlt;have up:∀ b ob,s.heap.get? b=some ob->(h1.push { cls:=.type "list_iterator",data:=.fields #[.ref L,.int 0 0] }).get? b=some ob:=fun b ob e=>Aa _ (kp _ _ (Aa _ e))
 have nin:∀ b ob,s.heap.get? b=some ob->b∉s.heap.objs.size :: [h1.objs.size]:=fun b ob e=>by
  have:=Ab e
  simp only[Ag,Ai,or_false,not_or];exact⟨Ak this,Ak (Dj this dlt)⟩
 have nf:s.heap.objs.size∉[h1.objs.size,L]:=by
  simp only[Ag,Ai,or_false,not_or];exact⟨Ak dlt,Bz lt⟩
 refine loop (s0:=⟨h1.push { cls:=.type "list_iterator",data:=.fields #[.ref L,.int 0 0] },s.gens,s.drawn,tk1,s.os⟩) (A:=A.in1) (by show A.units+1+2<cLine;omega) ((Walks.list (A:=A.in1.in1) hh h1.objs.size L (Ak llt) items).toS) s.heap.objs.size nf hz ks kb tb vs hval
  (fun i hi=>?_) (fun i hi=>?_) items.size 0 _ _ rfl (Bv _) ⟨⟨_,Ae _ rfl,rfl,rfl⟩,⟨o,Aa _ (kp _ _ g1),g2,nn,g3⟩⟩ (Moved.refl fun _=>rfl) ?_ fun s' hm hD=>?_
 · obtain⟨o',e,r⟩:=ht i hi
   exact⟨nin _ _ e,o',up _ _ e,r⟩
 · obtain⟨o',its,n',e,r⟩:=hk i hi
   exact⟨nin _ _ e,o',its,n',up _ _ e,r⟩
 · obtain⟨o',es,ep,e1,r⟩:=hnew
   exact⟨_,#[],0,Aa _ (kp _ _ (Ae _ rfl)),⟨rfl,rfl,rfl⟩,rfl,rfl,(fun x hx=>nomatch hx),List.nodup_nil⟩
 · obtain⟨h',gg,dd,tk',os1⟩:=s'
   cases (show gg=s.gens from hm.gens);cases (show dd=s.drawn from hm.drawn);cases (show os1=s.os from hm.os)
   exact⟨rfl,q h' tk' hD fun b ob e=>hm.heap b ob (nin b ob e) (up b ob e)⟩
end
end Dp
namespace L2
open PySem PySem.Spec PyProof.Rows
section
variable {X:Cx}
def dOf (ps:List (List Int×Int)):List (List Key×V):=ps.foldl (fun acc p=>kC acc (p.1.map Sum.inl) (.int p.2)) []
theorem pK (ps:List (List Int×Int))(p:List Int×Int):dOf (ps++[p])=kC (dOf ps) (p.1.map Sum.inl) (.int p.2):=by
 unfold dOf;rw[List.foldl_append];rfl
theorem aGu:∀ n,∀ ps:List (List Int×Int),ps.length=n->(dOf ps).length<=n:=by
 intro n;induction n with
 | zero=>intro ps h;rw[Ce.mp h];exact Ad 0
 | succ n ih =>
  intro ps h;have hy:ps≠[]:=fun z=>by rw[z]at h;simp at h
  rw[←Dz hy,pK];have h1:=iQ (dOf ps.dropLast) ((ps.getLast hy).1.map Sum.inl) (V.int (ps.getLast hy).2);have h2:=ih ps.dropLast (by rw[List.length_dropLast];omega)
  omega
theorem aHn (hc:X.calm=true)(hu:X.A.units+64<cLine):gH X (.type "dict") (fun xs H Q=>∃ (a:Addr) (ys:List V) (ps:List (List Int×Int)),xs=[.ref a]/\SqL X.K H a ys/\PrV H ys ps/\ps.length<=1000/\∀ l,H l=none->Q (.ref l) (upd H l (.dT (dOf ps)))):=by
 intro pins s σ H xs us Q I r h;obtain⟨a,ys,ps,rfl,hq,hp,few,q⟩:=h;obtain⟨u,rfl,rx⟩:=iA r;cases rx;obtain⟨its,rv,⟨o,n,g1,g2,g3,g4⟩,z⟩:=I.list hq;have ln:its.length=ps.length:=by rw[←rv.length];exact hp.1
 have hex:∀ i:Nat,∃ (p b:Addr) (v:Value),i<ps.length->its[i]?=some (.ref p)/\s.heap.IsTuple p #[.ref b,v]/\bD (.int (ps.getD i ([],0)).2) v/\H b=some (.tup ((ps.getD i ([],0)).1.map V.int)):=fun i=>by
  by_cases hi:i<ps.length
  · have ek:ps[i]?=some (ps.getD i ([],0)):=by simp[hi]
    obtain⟨p,b,e1,e2,e3⟩:=hp.2 i _ ek;obtain⟨i2,r2,t2⟩:=iZ I e2;obtain⟨v1,v2,rfl,q1,q2⟩:=zK r2;cases (show v1=Value.ref b from q1)
    refine⟨p,b,v2,fun _=>⟨?_,?_,q2,e3⟩⟩
    · obtain⟨w,h1,h2⟩:=rv.get e1
      cases (show w=Value.ref p from h2)
      exact h1
    · obtain⟨ob,k1,k2,m,k3⟩:=t2
      exact⟨ob,k1,k2,m,k3⟩
  · exact⟨0,0,.none,fun h=>absurd h hi⟩
 let tb:Nat->Addr:=fun i=>Classical.choose (hex i)
 let kb:Nat->Addr:=fun i=>Classical.choose (Classical.choose_spec (hex i))
 let vs:Nat->Value:=fun i=>Classical.choose (Classical.choose_spec (Classical.choose_spec (hex i)))
 have sp:∀ i,i<ps.length->its[i]?=some (.ref (tb i))/\s.heap.IsTuple (tb i) #[.ref (kb i),vs i]/\bD (.int (ps.getD i ([],0)).2) (vs i)/\H (kb i)=some (.tup ((ps.getD i ([],0)).1.map V.int)):=fun i=>Classical.choose_spec (Classical.choose_spec (Classical.choose_spec (hex i)));let ks:Nat->List Key:=fun i=>(ps.getD i ([],0)).1.map Sum.inl
 have hkb:∀ i,i<ps.length->H (kb i)=some (.tup ((ks i).map kV)):=fun i hi=>by rw[(sp i hi).2.2.2,aAe]
 have kt:∀ i,i<=ps.length->KT H (dOf (ps.take i)) (Dp.made ks kb vs i):=by
  intro i;induction i with
  | zero=>intro _;exact .nil
  | succ i ih =>
   intro hi;have e:ps.take (i+1)=ps.take i++[ps.getD i ([],0)]:=by rw[List.take_add_one];simp[show i<ps.length by omega]
   rw[e,pK];exact(ih (by omega)).put _ (hkb i (by omega)) (sp i (by omega)).2.2.1
 have sz:its.toArray.size=ps.length:=by rw[Ac];exact ln
 refine Dp.yF (I.ok.hd hc) (by omega) ⟨o,g1,g2,n,g4⟩ (fun o' e=>?_) (by rw[sz,sizeLine_eq];omega) I.big ks kb tb vs (fun i v e=>?_) (fun i hi=>?_) (fun i hi=>?_) fun h' tk hD kp=>?_
 · rw[g1]at e;cases e;exact g3
 · have e':its[i]?=some v:=by simpa using e
   have hi:i<ps.length:=by rw[←ln];exact(Af.mp e').1
   rw[(sp i hi).1]at e';cases e';rfl
 · rw[sz]at hi;exact(sp i hi).2.1
 · rw[sz]at hi;exact qF I.hok (hkb i hi)
 · have ktn:=kt ps.length (Ad _)
   rw[List.take_length]at ktn;rw[sz]at hD;obtain⟨oo,es,ep,h1,h2,h3,h4,_,h5⟩:=hD;have hn:H s.heap.objs.size=none:=I.fresh
   have ktu:KT (upd H s.heap.objs.size (.dT (dOf ps))) (dOf ps) (Dp.made ks kb vs ps.length):=ktn.keeps fun c yy ec=>by
    rw[aU (fun zz=>by rw[zz,hn]at ec;cases ec)];exact ec
   have len:=aGu ps.length ps rfl;exact⟨.ref s.heap.objs.size,_,I.laid (t':=tk) (o:=.dT (dOf ps)) kp (Ad _) ⟨by rw[sizeLine_eq];omega,beq_eq_false_iff_ne.mpr (Ne.symm (Ak I.big)),_,ktu,oo,es,ep,h1,h2,h3,h4,h5⟩,rfl,q _ hn⟩
end
end L2
namespace Mir
open PySem L2
variable {X:Cx}{P:XP}{a b c e:Expr}{es:List Expr}{f g:FE}{fs:FEs}{pos p:Pos}
def vI (ps:List (List Int×Int)):List (List Int)×List D:=ps.foldl (fun A p=>tH A.1 A.2 p.1 (.int p.2)) ([],[])
def aFz (a:FE):FE:=fun ρ=>do
 let x ← a ρ
 let ds ← asL x.d
 let ks ← fY ds
 if ks.length<=1000 then .ok ⟨.tmp,true,.dct (vI ks).1 (vI ks).2⟩ else .stk
theorem vR {K:PySem.W.Frag}{G:Hp}:∀ n,∀ ps:List (List Int×Int),ps.length=n->bW (vI ps).1 (dOf ps)/\aI K G (vI ps).2 ((dOf ps).map (·.2)):=by
 intro n;induction n with
 | zero=>intro ps h;rw[Ce.mp h];exact⟨rfl,rfl⟩
 | succ n ih =>
  intro ps h;have hy:ps≠[]:=fun z=>by rw[z]at h;simp at h
  have hc:=Dz hy;have ih:=ih ps.dropLast (by rw[List.length_dropLast];omega)
  rw[←hc,pK];have e:vI (ps.dropLast++[ps.getLast hy])=tH (vI ps.dropLast).1 (vI ps.dropLast).2 (ps.getLast hy).1 (.int (ps.getLast hy).2):=by unfold vI;rw[List.foldl_append];rfl
  rw[e];exact zN ih.1 ih.2 rfl
theorem aDb (hc:X.calm=true)(hu:X.A.units+64<cLine)(hg:Gl X "dict")(hm:X.mg "dict" = none)(ha:PE X a (tE X.K P f))(he:starEach [a] X.env=[(false,eval a X.env)]:=by rfl):PE X (.Call (.Name "dict" p) [a] [] pos) (tE X.K P (aFz f)):=by
 refine PE.imp (fK (aHn hc hu) hg hm (by decide +kernel) (aA ha aB he) (he:=he)) ?_
 intro σ H Q h;refine lO h ?_
 intro H0 B ρ v H' r d0 d g s h;cases e:asL r.d with
 | stk=>simp[e]at h
 | exc x=>exact(dD e).elim
 | ok ds =>
  simp only[e,R.ok_bind]at h;cases e2:fY ds with
  | stk=>simp[e2]at h
  | exc x=>exact(kQ e2).elim
  | ok ks =>
   simp only[e2,R.ok_bind]at h;by_cases few:ks.length<=1000
   · rw[if_pos few]at h
     obtain⟨a,xs,h1,h2,h3⟩:=g.list (cX e);have ed:=qY e2;subst ed;refine⟨a,xs,ks,by rw[h1],.inl h2,aJt dJ h3,few,fun l hl=>h _ _ (aG.upd_new hl) ?_⟩
     have hl0:H l=none:=by
      cases hH:H l with
      | none=>rfl
      | some o=>have:=s l o hH;rw[hl]at this;cases this
     exact⟨l,_,rfl,hl0,bF,⟨_,rfl,(vR (K:=X.K) (G:=H) ks.length ks rfl).1,(vR ks.length ks rfl).2⟩⟩
   · rw[if_neg few]at h;exact h.elim
end Mir
namespace HT
open PySem PySem.Spec PyProof.Rows
section
variable {prog:Program}{w:World}{A:Around}{E:Value->Shared->Prop}{s:Shared}
theorem kD {t sl:Addr}{items:Array Value}{vl vu:Value}{lo hi:Option Int}{Q:Value->Shared->Prop}(ht:IsTup s.heap t items)(hs:s.heap.IsSliceOf sl vl vu .none)(pl:IsPart vl lo)(pu:IsPart vu hi)
 (hw:sIx items.size 0 lo=0/\sIx items.size items.size hi=items.size) (h:Q (.ref t) s):wpAny (model prog w) A (getItem (.ref t) (.ref sl)) Q E s:=by
 obtain⟨os,hos,hcs,hds⟩:=id hs;have hTs:s.TypeIs (.ref sl) "slice":=⟨os,hos,hcs⟩;unfold getItem;try with_reducible refine wpAny_holding ?_
 first | refine wpAny_bind (wpAny_pure ?_) | skip
 refine wpAny_bind (wpAny_sequenceKey ht.typeIs (by decide) ?_)
 refine wpAny_bind (wpAny_callSpecial?_slot (name:=Str.ofString "__getitem__") ht.typeIs Bg
  (wpAny_call_entry Bg ht.typeIs entry_tuple_getitem ?_ (args_tuple_getitem _ _)))
 show wpAny _ _ (Builtin.Tuple.tupleItemsOf (.ref t) >>= _) _ _ s
 refine wpAny_bind (tupleItemsOf_ ht ?_)
 refine wpAny_bind (wpAny_typeOf hTs ?_)
 rw[if_pos (by decide)]
 refine wpAny_bind (gY hs pl pu ?_)
 have yes:(((sIx items.size 0 lo:Nat):Int)==0&&(1:Int)==1&&(sIx items.size items.size hi-sIx items.size 0 lo)==items.size)=true:=by
  rw[hw.1,hw.2];simp
 show wpAny _ _ (if (((sIx items.size 0 lo:Nat):Int)==0&&(1:Int)==1&&(sIx items.size items.size hi-sIx items.size 0 lo)==items.size)=true then _ else _) _ _ s
 rw[if_pos yes];refine wpAny_bind (m:=Builtin.Tuple.tupleIsExact _) (wpAny_bind (wpAny_typeOf ht.typeIs (wpAny_pure ?_)))
 rw[if_pos (by decide)]
 refine wpAny_bind (wpAny_rule ?_)
 first
  | exact wpAny_pure ⟨_,rfl,wpAny_pure h⟩
  | exact wpAny_bind (wpAny_pure ⟨_,rfl,wpAny_pure h⟩)
  | exact wpAny_bind (wpAny_pure (wpAny_pure ⟨_,rfl,wpAny_pure h⟩))
end
end HT
namespace L2
open PySem PySem.Spec PyProof.Rows
section
variable {X:Cx}
abbrev yR (n:Nat)(lo hi:Option Int):Prop:=HT.sIx n 0 lo=0/\HT.sIx n n hi=n
def aNc (K:PySem.W.Frag):V->Option Int->Option Int->Hp->VK->Prop:=fun x lo hi H Q=>∃ a xs,x=.ref a/\SqT K H a xs /\
 (yR xs.length lo hi->Q (.ref a) H)/\(¬ yR xs.length lo hi->∀ p,H p=none->Q (.ref p) (upd H p (.tup (mQ xs lo hi))))
theorem aHo:SlR X (aNc X.K):=by
 intro pins s σ H x v vl vu lo hi sl Q I rx hs pl pu h;obtain⟨a,xs,e,hx,q1,q2⟩:=h;by_cases hw:yR xs.length lo hi
 · subst e
   cases rx;obtain⟨its,r,ht,hz⟩:=I.tuple hx;have n:its.toArray.size=xs.length:=by rw[Ac];exact r.length.symm
   exact⟨"tuple",_,Bg.lookup,ht.typeIs,HT.kD ht hs pl pu (by rw[n];exact hw) ⟨.ref a,H,I,rfl,q1 hw⟩⟩
 · exact aCi pins s σ H x v vl vu lo hi sl Q I rx hs pl pu ⟨a,xs,e,hx,hw,q2 hw⟩
end
end L2
namespace Mir
open PySem L2
variable {X:Cx}{P:XP}{a b c e:Expr}{es:List Expr}{f g:FE}{fs:FEs}{pos p:Pos}
def sC (a:FE)(lo hi:FO):FE:=fun ρ=>do
 let x ← a ρ
 let l ← lo ρ
 let h ← hi ρ
 let ds ← asT x.d
 .ok ⟨.shr,x.fr,.tup (nQ ds l h)⟩
theorem aEm {ds:List D}{l h:Option Int}(w:yR ds.length l h):nQ ds l h=ds:=by
 unfold nQ;rw[w.1,w.2];simp
theorem tV {lo hi:Option Expr}{fl fh:FO}{p2:Pos}(ha:PE X a (tE X.K P f))(hl:PO X lo (tO X.K P fl))(hh:PO X hi (tO X.K P fh)):PE X (.Subscript a (.Slice lo hi none p2) pos) (tE X.K P (sC f fl fh)):=by
 refine PE.imp (pP aHo ha hl hh) ?_
 rintro σ H Q ⟨H0,B,ρ,d,h⟩
 unfold sC at h;show tE X.K P f σ H fun x H1=>tO X.K P fl σ H1 fun l H2=>tO X.K P fh σ H2 fun u H3=>aNc X.K x l u H3 Q
 cases e:f ρ with
 | stk=>simp[e]at h
 | exc x=>simp[e]at h;exact bV d e h
 | ok r =>
  simp only[e,R.ok_bind]at h;refine cW d e fun v H1 s1 d1 g1=>⟨H0,B,ρ,d1,?_⟩
  cases e1:fl ρ with
  | stk=>simp[e1]at h
  | exc x=>simp[e1]at h;exact P.mono h s1
  | ok l =>
   simp only[e1,R.ok_bind]at h;intro H2 s2;refine⟨H0,B,ρ,d1.mono s2,?_⟩
   cases e2:fh ρ with
   | stk=>simp[e2]at h
   | exc x=>simp[e2]at h;exact P.mono h (s1.trans s2)
   | ok u =>
    simp only[e2,R.ok_bind]at h;intro H3 s3;cases e3:asT r.d with
    | stk=>simp[e3]at h
    | exc x=>exact(oH e3).elim
    | ok ds =>
     simp only[e3,R.ok_bind]at h;have g2:=g1.mono (s2.trans s3);obtain⟨a1,xs,h1,h2,h3⟩:=g2.tuple (jI e3);have s:=(s1.trans s2).trans s3;have lx:=h3.length;refine⟨a1,xs,h1,.inl (.inl h2),fun z=>h _ _ s ?_,fun z p hp=>h _ _ (s.trans (aG.upd_new hp)) ?_⟩
     · have w1:=g2.shr_of (by rw[jI e3];rfl)
       rw[jI e3,h1]at w1;show Rep X.K (aX r.fr H0 H3 B) (.tup (nQ ds l u)) (.ref a1)
       rw[aEm (by rw[lx];exact z)]
       exact w1
     · have q:aI X.K (aX r.fr H0 H3 B) (nQ ds l u) (mQ xs l u):=by
        unfold nQ mQ;rw[lx];exact(h3.drop _).take _
       exact jS ((d1.mono s2).mono s3) hp q
end Mir
namespace Rg
open PySem Zp PySem.W
section
variable {prog:Program}{w:World}{A:Around}{E:Value->Shared->Prop}{s:Shared}{r:Addr}{a b c:Int}{t u v:Tok}{n:Nat}
abbrev Is (a c:Int):Nat->Value->Prop:=fun i v=>∃ t,v=.int (a+i*c) t
theorem aBb {Q:List Value->Shared->Prop}(hh:A.handled=none)(hr:IsRange s.heap r a b c t u v)(hs:Builtin.Range.small a b c=true)(hn:Builtin.Range.rangeSize a b c=n)(hl:n<=2^24)
 (q:∀ h' tk acc,(∀ b o,s.heap.get? b=some o->h'.get? b=some o)->ItemsOf (Is a c) acc n->Q acc.toList { s with heap:=h',toks:=tk }):wpAny (model prog w) A (collect (.ref r)) Q E s:=by
 have e0:(s.heap.push (mk [] 0)).get? s.heap.objs.size=some (mk [] 0):=Ae _ rfl;have r0:IsRange (s.heap.push (mk [] 0)) r a b c t u v:=Aa _ hr
 refine wpAny_bind (wpAny_runValue (codeAny_builtin F.entry_proto_collect (by
  rw[Around.under_plainId F.plain_proto_collect]
  refine wpAny_bind (m:=newList []) (wpAny_newObj_type (wpAny_pure ⟨plainId_quiet F.plain_list_iadd _,codeAny_builtin F.entry_list_iadd (by
   rw[Around.under_plainId F.plain_list_iadd];refine wpAny_mono (wpAny_extend_range (R:=fun z s'=>z=.ok (.ret (.ref s.heap.objs.size))/\∃ h' tk acc c',s'={ s with heap:=h',toks:=tk }/\h'.get? s.heap.objs.size=some { cls:=.type "list",dict:=none,data:=.seq acc c',slots:=#[] }/\ItemsOf (Is a c) acc n/\∀ b o,b≠s.heap.objs.size->(s.heap.push (mk [] 0)).get? b=some o->h'.get? b=some o) (s:={ s with heap:=s.heap.push (mk [] 0) }) (A:=A) hh r0 hs hn hl s.heap.objs.size (.ref s.heap.objs.size) 0 e0 fun h' tk acc c' k1 e1 i1=>⟨rfl,h',tk,acc,c',rfl,e1,i1,k1⟩) ?_ fun _ _ z=>nomatch z.1
   have fin:∀ h' tk acc c',h'.get? s.heap.objs.size=some { cls:=.type "list",dict:=none,data:=.seq acc c',slots:=#[] }->ItemsOf (Is a c) acc n->(∀ b o,b≠s.heap.objs.size->(s.heap.push (mk [] 0)).get? b=some o->h'.get? b=some o)->wpAny (model prog w) A (load s.heap.objs.size >>= fun ob=>match ob.data with | .seq xs _=>pure xs.toList | _=>unsupported "internal:collect") Q E { s with heap:=h',toks:=tk }:=fun h' tk acc c' e1 i1 k1 =>
    wpAny_bind (wpAny_load e1 (wpAny_pure (q h' tk acc (fun b o hb=>k1 b o (Ak (Ab hb)) (Aa _ hb)) i1)))
   intro f s1 z;cases f with
   | done f =>
    obtain⟨z,h',tk,acc,c',rfl,e1,i1,k1⟩:=z;cases z;exact fin h' tk acc c' e1 i1 k1
   | again c1=>exact⟨z.1,codeAny_mono z.2 fun r s2 y=>by obtain⟨rfl,h',tk,acc,c',rfl,e1,i1,k1⟩:=y;exact fin h' tk acc c' e1 i1 k1⟩)⟩)))))
theorem aNw {Q:Value->Shared->Prop}(hh:A.handled=none)(hr:IsRange s.heap r a b c t u v)(hs:Builtin.Range.small a b c=true)(hn:Builtin.Range.rangeSize a b c=n)(hl:n<=2^24)
 (q:∀ (h':Heap) (tk:Nat) (acc:Array Value),(∀ b o,s.heap.get? b=some o->h'.get? b=some o)->ItemsOf (Is a c) acc n->Q (.ref h'.objs.size) { s with heap:=h'.push { cls:=.type "tuple",data:=.seq acc },toks:=tk }):codeAny (model prog w) A (.call (.builtin "tuple.__new__") ⟨[.type "tuple",.ref r],[]⟩) (wants Q E) s:=by
 have hT:s.TypeIs (.ref r) "range":=⟨_,hr,rfl⟩;have hz:n<=sizeLine:=Bo hl (by rw[sizeLine_eq];decide)
 refine codeAny_of_tree (wpAny_bind (m:=checkBuiltinCall "tuple.__new__" ⟨[.type "tuple",.ref r],[]⟩) (wpAny_of_eq (F.newCall_tuple_1 _) (wpAny_pure ⟨plainId_quiet F.plain_tuple_new _,codeAny_builtin F.entry_tuple_new (by
  rw[Around.under_plainId F.plain_tuple_new];have k1:=sub_tuple_self;have k2:=init_tuple_lookup;have k3:=madeHere_tuple;wp_walk using wpAny_typeOf hT,aBb (A:=A.in1) hh hr hs hn hl
  intro h' tk acc kp it;refine wpAny_bind (m:=Builtin.Tuple.tupleExact acc.toList.toArray) (wpAny_newObj_type (wpAny_pure ?_) (by show acc.toList.toArray.size<=sizeLine;rw[Array.toArray_toList,it.1];exact hz))
  rw[Array.toArray_toList]
  exact q h' tk acc kp it)⟩)))
end
end Rg
namespace L2
open PySem PySem.Spec PyProof.Rows
section
variable {X:Cx}
theorem aAr (hc:X.calm=true):gH X (.type "tuple") (fun xs H Q=>∃ (a:Addr) (j:Int),xs=[.ref a]/\H a=some (.rng 0 j)/\0<=j/\j<=1000/\∀ l,H l=none->Q (.ref l) (upd H l (.tup (pO j.toNat)))):=by
 intro pins s σ H xs us Q I r h;obtain⟨a,j,rfl,hq,h1,h2,q⟩:=h;obtain⟨u,rfl,rx⟩:=iA r;cases rx;obtain⟨t,u,v,e⟩:=I.hok a _ hq
 refine callType_codes (Q₁:=fun y s₁=>s₁.TypeIs y "tuple"/\EP X pins σ Q y s₁) F.called_tuple (F.typeCall_tuple_1 _) F.entry_object_init
  (Rg.aNw (n:=j.toNat) (I.ok.hd hc) e (small_one (by omega) (by omega) (by omega) (by omega)) (by rw[rangeSize_one];split<;>omega) (by omega) fun h' tk acc kp it=>⟨⟨_,Ae _ rfl,rfl⟩,?_⟩)
  fun y s₁ z=>⟨z.1,F.args_object_init_2 y _,object_init_meets F.called_tuple.init.lookup F.called_tuple.made (by decide) X.prog X.w X.A.in1 _ s₁ ⟨z.1,rfl,z.2⟩⟩
 have I1:Inv X pins σ H { s with heap:=h',toks:=tk }:=I.kept (t':=tk) kp
 exact⟨.ref h'.objs.size,_,I1.laid (t':=tk) (o:=.tup (pO j.toNat)) (fun b o e=>Aa _ e) (Ad _) ⟨by simp[pO,sizeLine_eq];omega,acc.toList,xT it,by simpa using IsTup.new _ _⟩,rfl,q _ (I1.hok.fresh (Ad _))⟩
end
end L2
namespace Mir
open PySem L2
variable {X:Cx}{P:XP}{a b c e:Expr}{es:List Expr}{f g:FE}{fs:FEs}{pos p pos2 p2:Pos}
def rP (a:FE):FE:=fun ρ=>do
 let x ← a ρ
 let j ← asI x.d
 if 0<=j/\j<=1000 then .ok ⟨.shr,true,.tup (lA 0 j.toNat)⟩ else .stk
theorem aJ8 (hc:X.calm=true)(hg:Gl X "tuple")(hm:X.mg "tuple" = none)(hg2:Gl X "range")(hm2:X.mg "range" = none)(ha:PE X a (tE X.K P f))(he:starEach [a] X.env=[(false,eval a X.env)]:=by rfl)
 (he2:starEach [.Call (.Name "range" p2) [a] [] pos2] X.env=[(false,eval (.Call (.Name "range" p2) [a] [] pos2) X.env)]:=by rfl):PE X (.Call (.Name "tuple" p) [.Call (.Name "range" p2) [a] [] pos2] [] pos) (tE X.K P (rP f)):=by
 refine PE.imp (fK (aAr hc) hg hm (by decide +kernel) (iB (fK aD8 hg2 hm2 (by decide +kernel) (aA ha aB he) (he:=he)) nE he2) (he:=he2)) ?_
 intro σ H Q h
 have main:tCB (fun vs H1 Q=>∃ j:Int,vs=[.int j]/\0<=j/\j<=1000/\∀ l,H1 l=none->∃ (a:Addr) (i:Int),[V.ref l]=[.ref a]/\upd H1 l (.rng 0 j) a=some (.rng 0 i)/\0<=i/\i<=1000/\∀ l2,upd H1 l (.rng 0 j) l2=none->Q (.ref l2) (upd (upd H1 l (.rng 0 j)) l2 (.tup (pO i.toNat)))) (tAs X.K P [f]) σ H Q:=by
  refine lO h ?_
  intro H0 B ρ v H' r d0 d g s h;cases e:asI r.d with
  | stk=>simp[e]at h
  | exc x=>exact(bP e).elim
  | ok j =>
   simp only[e,R.ok_bind]at h;by_cases hj:0<=j/\j<=1000
   · rw[if_pos hj]at h
     refine⟨j,by rw[g.int (bX e)],hj.1,hj.2,fun l hl=>⟨l,j,rfl,bF,hj.1,hj.2,fun l2 hl2=>?_⟩⟩
     exact h _ _ ((aG.upd_new hl).trans (aG.upd_new hl2)) (jS (d.mono (aG.upd_new hl)) hl2 (aEi _))
   · rw[if_neg hj]at h;exact h.elim
 exact main
end Mir
namespace Mir
open PySem L2
variable {X:Cx}{P:XP}{a b c e:Expr}{es:List Expr}{f g:FE}{fs:FEs}{pos p:Pos}
theorem aEt:∀ c:Nat,(bY c).Nodup
 | 0=>by decide +kernel
 | _+1=>show (bY 1).Nodup by decide +kernel
theorem aAi:∀ {ns:List Str} {fs:List (Str×V)} {i:Nat} {n:Str} {v:V},fs.map (·.1)=ns->ns.Nodup->ns[i]?=some n->(fs.map (·.2))[i]?=some v->fs.lookup n=some v
 | _,[],_,_,_,_,_,_,h=>by simp at h
 | [],_ :: _,_,_,_,h,_,_,_=>by simp at h
 | m :: ns,(k,u) :: fs,0,n,v,h1,nd,h2,h3=>by
  simp only[Au,Ek.injEq]at h1;simp only[List.getElem?_cons_zero,Au,Bn.injEq]at h2 h3;obtain⟨rfl,h1⟩:=h1;subst h2 h3;simp[Cm]
 | m :: ns,(k,u) :: fs,i+1,n,v,h1,nd,h2,h3=>by
  simp only[Au,Ek.injEq]at h1;simp only[List.getElem?_cons_succ,Au]at h2 h3;obtain⟨rfl,h1⟩:=h1;have hn:n≠k:=fun z=>(Cg.mp nd).1 (z▸Bw h2);have hb:(n==k)=false:=by simpa using hn
  rw[Aw,hb];exact aAi h1 (Cg.mp nd).2 h2 h3
structure OC (K:PySem.W.Frag)(c:Nat):Prop where
 cl:Cls K (clO K c)
 na:∀ n∈bY c,jC K (clO K c) n
def aBt (c i:Nat)(a:FE):FE:=fun ρ=>do
 let x ← a ρ
 match x.d with
 | .obj k ds=>if k=c then (match ds[i]? with
  | some d=>.ok ⟨.shr,x.fr||d.imm,d⟩
  | none=>.stk) else .stk
 | _=>.stk
theorem wD {n:Str}{c i:Nat}(O:OC X.K c)(ha:PE X a (tE X.K P f))(hn:(bY c)[i]?=some n:=by rfl)(hb:attributeBase a n X.env (eval a X.env)=eval a X.env:=by rfl):PE X (.Attribute a n pos) (tE X.K P (aBt c i f)):=by
 refine PE.imp (aK8 ha hb) ?_
 intro σ H Q h;refine t1 (q:=fun x H1=>∃ a C dx fs v,x=.ref a/\H1 a=some (.ins C dx fs)/\Cls X.K C/\jC X.K C n/\fs.lookup n=some v/\Q v H1) h ?_
 intro H0 B ρ v H' r d g s h;cases k:r.d with
 | obj c' ds =>
  simp only[k]at h;by_cases hc:c'=c
  · subst hc
    rw[if_pos rfl]at h;cases e:ds[i]? with
    | none=>simp[e]at h
    | some d1 =>
     simp only[e]at h;have:=g.shr_of (by rw[k];rfl)
     rw[k]at this;obtain⟨a,dx,fs,rfl,q,nm,re⟩:=this;obtain⟨v1,e1,r1⟩:=re.get e;exact⟨a,_,dx,fs,v1,rfl,(aR.mp q).2,O.cl,O.na n (Bw hn),aAi nm (aEt _) hn e1,h v1 H' (aG.refl _) (Rep.fr d.sam r1)⟩
  · rw[if_neg hc]at h;exact h.elim
 | _=>simp[k]at h
def aHl (c:Nat)(fs:FEs):FE:=fun ρ=>do
 let rs ← evs fs ρ
 let y ← gives rs
 if y.2.length=(bY c).length then .ok ⟨.shr,y.1,.obj c y.2⟩ else .stk
def spI (K:PySem.W.Frag)(c:Nat):Sp:=fun vs H Q _=>∃ x dx us,vs=.ref x :: us/\us.length=(bY c).length/\H x=some (.ins (clO K c) dx [])/\Q .non (upd H x (.ins (clO K c) dx ((bY c).zip us)))
def sF (Pg:Program)(w:World)(K:PySem.W.Frag)(mg:Str->Option Value)(base:Heap)(k c:Nat):Prop :=
 ∃ (f:Addr) (fd:FuncData),Mk K (clO K c) f/\FnOk Pg w K mg base (CXM Pg w) k f fd ("self" :: bY c) (spI K c)/\kM K fd ("self" :: bY c) []/\mg (zA c)=some (.ref (clO K c))
theorem aI9 {Pg:Program}{w:World}:xQ (CXM Pg w) X E0:=fun _ _ _ _ _ _ _ ⟨_,_,_,_,_,z⟩=>z.elim
theorem aDx {c k:Nat}{x:Str}(m:sF X.prog X.w X.K X.mg X.base k c)(hr:Room (k+1) X.A)(hg:Gl X x)(ha:PA X (e :: es) (tAs X.K P fs))(hx:zA c=x:=by rfl)
 (hdb:(x==("__debug__":Str))=false:=by decide) (he:starEach (e :: es) X.env=(false,eval e X.env) :: starEach es X.env:=by rfl) (hpl:(backTo pos (starEach es X.env)).any (·.1)=false:=by rfl) :
 PE X (.Call (.Name x p) (e :: es) [] pos) (tE X.K P (aHl c fs)):=by
 obtain⟨fi,fd,M,F,b,hm⟩:=m;subst hx;refine PE.imp (aHb (E:=E0) M F hr hg hm b .nil aI9 ha hdb he hpl) ?_
 intro σ H Q h;refine tA1 h ?_
 intro H0 B ρ vs H' rs d0 d gs s h;cases e:gives rs with
 | stk=>simp[e]at h
 | exc x=>exact(gZ e).elim
 | ok y =>
  simp only[e,R.ok_bind]at h;have r:=gs.gives d0 e;by_cases hz:y.2.length=(bY c).length
  · rw[if_pos hz]at h
    intro x dx hx hdx ne;have hl:vs.length=(bY c).length:=by rw[←r.length];exact hz
    refine⟨x,dx,vs,by rw[Cy],hl,bF,rfl,?_⟩
    rw[oC]
    have s2:aG H' (upd (upd H' dx (.own x)) x (.ins (clO X.K c) dx ((bY c).zip vs))):=fun b o q=>by
     rw[aU (aZ q hx),aU (aZ q hdx)];exact q
    refine h _ _ s2 ?_
    refine⟨x,dx,_,rfl,aR.mpr ⟨fun z=>?_,bF⟩,List.map_fst_zip (by omega),?_⟩
    · rcases z with z | ⟨_,o,z,_⟩
      · obtain⟨o,q,_⟩:=d.bnd x z
        rw[hx]at q;cases q
      · have:=d.sam x o z
        rw[hx]at this;cases this
    · rw[List.map_snd_zip (by omega)]
      exact aI.same (aO (fun b o q _=>s2 b o q) fun b z=>.inl z) r
  · rw[if_neg hz]at h;exact h.elim
section
variable {Pg:Program}{w:World}{K:PySem.W.Frag}{mg:Str->Option Value}{base:Heap}
theorem aNm {qual:Str}{st:Stmt}{f:Addr}{fd:FuncData}(F:Fun K "__init__" qual st f fd)(S:FnScope ("self" :: bY 0) ("self" :: bY 0) (aF st))(O:OC K 0)
 (hb:∀ (cdv:Value) (A:Around) (outer:List PySem.Env) (s:Shared) (H:Hp) (E:XK),PSs (kF (CXM Pg w) Pg w K mg base ("self" :: bY 0) qual (aF st) f cdv A outer s H E) (cL st) (aEa (aAo K (nA 0) (nA 1) "many") (aAo K (nA 0) (nA 2) "rows"))) :
 FnOk Pg w K mg base (CXM Pg w) 1 f fd ("self" :: bY 0) (spI K 0):=by
 obtain⟨oc,od,kV,doc,pm,an,cdv,ct,osl,rfl,lk,hcd⟩:=F.ex;refine zQ lk hcd S (fun vs H Q E ⟨x,dx,us,e,l,_⟩=>by rw[e];simp[l]) fun A outer s H vs Q E hr ⟨x,dx,us,e,l,hx,q⟩=>⟨_,hb cdv A outer s H E,?_⟩
 match us,l with
 | [u1,u2],_ =>
  subst e;refine⟨u1,rfl,.ref x,rfl,x,_,dx,[],rfl,hx,O.cl,O.na _ (by decide +kernel),by decide,u2,rfl,.ref x,rfl,x,_,dx,_,rfl,bF,O.cl,O.na _ (by decide +kernel),by show (1:Nat)<1000;decide,?_⟩
  rw[oC];exact q
theorem aNg {qual:Str}{st:Stmt}{f:Addr}{fd:FuncData}(F:Fun K "__init__" qual st f fd)(S:FnScope ("self" :: bY 1) ("self" :: bY 1) (aF st))(O:OC K 1)
 (hb:∀ (cdv:Value) (A:Around) (outer:List PySem.Env) (s:Shared) (H:Hp) (E:XK),PSs (kF (CXM Pg w) Pg w K mg base ("self" :: bY 1) qual (aF st) f cdv A outer s H E) (cL st) (aEa (aAo K (nA 0) (nA 1) "bottom") (aEa (aAo K (nA 0) (nA 2) "heads") (aAo K (nA 0) (nA 3) "lines")))) :
 FnOk Pg w K mg base (CXM Pg w) 1 f fd ("self" :: bY 1) (spI K 1):=by
 obtain⟨oc,od,kV,doc,pm,an,cdv,ct,osl,rfl,lk,hcd⟩:=F.ex;refine zQ lk hcd S (fun vs H Q E ⟨x,dx,us,e,l,_⟩=>by rw[e];simp[l]) fun A outer s H vs Q E hr ⟨x,dx,us,e,l,hx,q⟩=>⟨_,hb cdv A outer s H E,?_⟩
 match us,l with
 | [u1,u2,u3],_ =>
  subst e
  refine⟨u1,rfl,.ref x,rfl,x,_,dx,[],rfl,hx,O.cl,O.na _ (by decide +kernel),by decide,u2,rfl,.ref x,rfl,x,_,dx,_,rfl,bF,O.cl,O.na _ (by decide +kernel),by show (1:Nat)<1000;decide,
   u3,rfl,.ref x,rfl,x,_,dx,_,rfl,bF,O.cl,O.na _ (by decide +kernel),by show (2:Nat)<1000;decide,?_⟩
  rw[oC,oC];exact q
structure ORaw (K:PySem.W.Frag)(c:Nat)(C f:Addr):Prop where
 ns:Av K mainGlobals (zA c)=some (some (.ref C))
 pg:Ds K C Str.empty=true
 hd:Dq K C=true
 po:Ee K C=true
 sa:Ao K (.ref C) "__setattr__" = some (some (.builtin "object.__setattr__"))
 mkd:Ep K C=true
 ii:Ao K (.ref C) "__init__" = some (some (.ref f))
 fn:PySem.W.isFn K (.ref f)=true
 kc:Cd K (.ref C)=true
theorem ORaw.cl {c:Nat}{C f:Addr}(o:ORaw K c C f):clO K c=C:=by unfold clO;rw[o.ns]
theorem ORaw.oc {c:Nat}{C f:Addr}(o:ORaw K c C f)(na:∀ n∈bY c,Ao K (.ref C) n=some none):OC K c :=
 ⟨by rw[o.cl];exact⟨o.pg,o.hd,o.po,o.sa⟩,fun n hn=>by rw[o.cl];exact na n hn⟩
theorem ORaw.oc0 {C f:Addr}(o:ORaw K 0 C f)(h1:Ao K (.ref C) "many" = some none)(h2:Ao K (.ref C) "rows" = some none):OC K 0:=o.oc fun n hn=>by
 rcases Ag.mp hn with rfl | hn
 · exact h1
 · rw[Bk.mp hn];exact h2
theorem ORaw.oc1 {C f:Addr}(o:ORaw K 1 C f)(h1:Ao K (.ref C) "bottom" = some none)(h2:Ao K (.ref C) "heads" = some none)(h3:Ao K (.ref C) "lines" = some none):OC K 1:=o.oc fun n hn=>by
 rcases Ag.mp hn with rfl | hn
 · exact h1
 · rcases Ag.mp hn with rfl | hn
   · exact h2
   · rw[Bk.mp hn];exact h3
theorem ORaw.mkr {c:Nat}{C f:Addr}{fd:FuncData}{h:Heap}(o:ORaw K c C f)(X:K.In h)(G:h.Ns mainGlobals mg)(F:FnOk Pg w K mg base (CXM Pg w) 1 f fd ("self" :: bY c) (spI K c))(b:kM K fd ("self" :: bY c) []):sF Pg w K mg base 1 c :=
 ⟨f,fd,by rw[o.cl];exact⟨o.mkd,o.ii,o.fn,o.kc⟩,F,b,by rw[o.cl];exact Df X G o.ns⟩
end
end Mir
namespace Mir
open PySem L2 PySem.Spec PyProof.Rows
variable {X:Cx}{P:XP}{a b c e:Expr}{es:List Expr}{f g:FE}{fs:FEs}{pos p:Pos}
def Itv (K:PySem.W.Frag)(a:Addr)(n:Nat):It :=
 ⟨fun i H=>∃ xs x,SqL K H a xs/\i<n/\xs[n-1-i]?=some x,fun i H x H'=>H'=H/\∀ xs,SqL K H a xs->xs[n-1-i]?=some x,fun i _=>n<=i⟩
theorem aDm {Pg:Program}{w:World}{K:PySem.W.Frag}{tg:Expr}(a it:Addr)(n:Nat):Turn Pg w K tg (Itv K a n) [it] it (fun i h=>i<=n/\h.IsRevIter it a ((n:Int)-1-(i:Nat))) where
 mem:=by simp
 obj:=fun i h st b hb=>by
  obtain⟨o,q1,_,q2⟩:=st.2;exact⟨o,by rw[Bk.mp hb];exact q1,fun v z=>by rw[q2]at z;cases z⟩
 keep:=fun i h h' st k=>⟨st.1,st.2.at fun o q=>k it Ap o q⟩
 item:=by
  intro X e1 e2 e3 hc i pins s σ H E I hf st hg;subst e1 e2 e3;obtain⟨xs,x,hq,hi,hx⟩:=hg;obtain⟨its,rv,pl,_⟩:=I.list hq;obtain⟨u,hu,ru⟩:=rv.get hx;obtain⟨f0,f1,f2,f3,f4,f5⟩:=hf it Ap;have en:(n:Int)-1-(i:Nat)=((n-1-i:Nat):Int):=by omega
  refine wpAny_pyNext_rev_item (en▸st.2) pl.isList (x:=u) (by simpa using hu) fun h' st' sb=>?_
  have st2:h'.IsRevIter it a ((n:Int)-1-((i+1:Nat):Int)):=by
   have:((n-1-i:Nat):Int)-1=(n:Int)-1-((i+1:Nat):Int):=by omega
   rw[←this];exact st'
  obtain⟨o,q1,q2,q3⟩:=id st2;refine⟨u,rfl,vC (s:={ s with heap:=h' }) q1 q2 q3 (by decide) ⟨x,H,?_,ru,⟨rfl,fun ys hy=>?_⟩,⟨hi,st2⟩,fun b hb=>(hf b hb).1⟩⟩
  · exact I.turned (t':=s.toks) (fun b o hb q=>(sb.2 b hb).trans q) f0 f1 f3 f4 f5
  · rw[I.list_inj hy hq];exact hx
 done:=by
  intro X e1 e2 e3 hc i pins s σ H E I hf st hg;subst e1 e2 e3;obtain⟨f0,f1,f2,f3,f4,f5⟩:=hf it Ap;have hi:n<=i:=hg;have en:(n:Int)-1-(i:Nat)=-1:=by have:=st.1;omega
  exact wpAny_pyNext_rev_end (I.ok.hd hc) (en▸st.2) fun h' eb=>⟨rfl,I.turned (t':=s.toks) (fun b o hb q=>eb b o hb q) f0 f1 f3 f4 f5⟩
 self:=fun _ _ _ _ _ st h=>wpAny_pyIter_revIter st.2 h
def aGs (a:FE):FI:=fun ρ=>do
 let x ← a ρ
 let ds ← asL x.d
 .ok ⟨x.k != .own,x.fr,ds.reverse⟩
theorem aC2 {K:PySem.W.Frag}{H0 H':Hp}{B:Addr->Prop}{a:Addr}{xs:List V}{ds:List D}{st fr:Bool}(hs:st=true->¬ B a)(h2:Rd H' a (.lst xs))(h3:aI K (aX fr H0 H' B) ds xs):nU K H0 H' B (Itv K a ds.length) ⟨st,fr,ds.reverse⟩:=by
 refine⟨fun b=>b=a,fun h b z=>by rw[z];exact hs h,fun H2 B2 k1 k2 k3 k4 k5 i=>?_⟩
 have q:SqL K H2 a xs:=.inl (lK h2 fun o=>k1 a o rfl);refine⟨fun hi=>?_,fun d hd=>?_⟩
 · show ds.length<=i
   simpa using hi
 · have hi:i<ds.length:=by simpa using (Af.mp hd).1
   rw[List.getElem?_reverse hi]at hd;obtain⟨v,hv,rv⟩:=h3.get hd;refine⟨⟨xs,v,q,hi,hv⟩,fun x H3 ⟨e,y⟩=>?_⟩
   subst e;have:=y xs q
   rw[hv]at this;cases this;exact⟨aG.refl _,Rep.same (aO k2 k3) rv⟩
theorem aCj:bootBuiltins "reversed" = some (.type "reversed"):=by decide +kernel
theorem aJa {tg:Expr}(hg:Gl X "reversed")(hm:X.mg "reversed" = none)(ha:PE X a (tE X.K P f))(hs:starEach [a] X.env=[(false,eval a X.env)]:=by rfl):PI X tg (.Call (.Name "reversed" p) [a] [] pos) (tI X.K P (aGs f)):=by
 intro pins s σ H Rq I h
 have key:tAs X.K P [f] σ H fun vs H1=>∃ a xs,vs=[.ref a]/\SqL X.K H1 a xs/\Rq (Itv X.K a xs.length) H1:=by
  have e:aGs f=fun ρ=>evs [f] ρ >>= fun rs=>match rs with | [x]=>(asL x.d >>= fun ds=>.ok ⟨x.k != .own,x.fr,ds.reverse⟩) | _=>.stk:=by
   funext ρ
   unfold aGs evs;cases f ρ<;>rfl
  rw[e]at h;refine aBi h ?_
  intro H0 B ρ vs H' rs d0 d gs s h;match vs,rs,gs with
  | [],rs,gs=>have e:rs=[]:=gs;subst e;exact h.elim
  | [v],_,⟨r,rr,e1,g1,g2⟩ =>
   subst e1;rw[show rr=[] from g2]at h
   cases e2:asL r.d with
   | stk=>simp[e2]at h
   | exc x=>exact(dD e2).elim
   | ok ds =>
    simp only[e2,R.ok_bind]at h;obtain⟨a,xs,h1,h2,h3⟩:=g1.list (cX e2);subst h1;refine⟨a,xs,rfl,.inl h2,?_⟩
    rw[←h3.length];exact h _ H' (aG.refl _) (aC2 (fun hk=>g1.notB d0 (cX e2) rfl hk) h2 h3)
  | v :: w :: _,_,⟨r,rr,e1,g1,r2,rr2,e2,g2⟩ =>
   subst e1;subst e2;exact h.elim
 refine Call_ (eY I hg hm aCj (Ar (thn ((aA ha aB hs) pos pins s σ H _ I key) fun us s1 ⟨vs,H1,I1,r1,q1⟩=>?_) hs rfl))
 obtain⟨a,xs,e,hq,q⟩:=q1;subst e;cases r1 with
 | cons r rr =>
  cases rr;cases r;obtain⟨its,rv,pl,_⟩:=I1.list hq;refine call_reversed_list pl.isList ?_
  have I2:Inv X pins σ H1 { s1 with heap:=s1.heap.push (revObj a ((its.toArray.size:Int)-1)) }:=I1.kept (t':=s1.toks) fun b o e=>Aa _ e
  have st:(s1.heap.push (revObj a ((its.toArray.size:Int)-1))).IsRevIter s1.heap.objs.size a ((its.toArray.size:Int)-1):=⟨_,Ae _ rfl,rfl,rfl⟩;refine wpAny_pyIter_revIter st ?_
  refine⟨s1.heap.objs.size,[s1.heap.objs.size],_,_,H1,rfl,I2,aDm a _ xs.length,⟨Bv _,?_⟩,fun b hb=>?_,q⟩
  · have:((xs.length:Nat):Int)-1-((0:Nat):Int)=(its.toArray.size:Int)-1:=by
     have:=rv.length
     simp;omega
    rw[this];exact st
  · rw[Bk.mp hb]
    exact I1.fpOk (Ad _) (I1.hok.fresh (Ad _))
def Itd (lo:Int)(n:Nat):It:=⟨fun i _=>i<n,fun i H x H'=>H'=H/\x=.int (lo-i),fun i _=>n<=i⟩
theorem aBc {Pg:Program}{w:World}{K:PySem.W.Frag}{tg:Expr}(it:Addr)(lo:Int)(n:Nat):Turn Pg w K tg (Itd lo n) [it] it (fun i h=>IsRangeIter h it (lo-(i:Nat)) ((n:Int)-(i:Nat)) (-1)) where
 mem:=by simp
 obj:=fun i h st b hb=>by
  have e:=Bk.mp hb;subst e;refine⟨_,st,fun v z=>?_⟩
  have z':Data.fields _=Data.cell v:=z;cases z'
 keep:=fun i h h' st k=>k it Ap _ st
 item:=by
  intro X e1 e2 e3 hc i pins s σ H E I hf st hg;subst e1 e2 e3;obtain⟨f0,f1,f2,f3,f4,f5⟩:=hf it Ap;have hi:i<n:=hg;refine wpAny_pyNext_range_item st (by omega) fun h' st' sb=>?_
  have st2:IsRangeIter h' it (lo-((i+1:Nat):Int)) ((n:Int)-((i+1:Nat):Int)) (-1):=by
   have e1:lo-(i:Nat)+-1=lo-((i+1:Nat):Int):=by omega
   have e2:(n:Int)-(i:Nat)-1=(n:Int)-((i+1:Nat):Int):=by omega
   rw[←e1,←e2];exact st'
  refine⟨_,rfl,vC (s:={ s with heap:=h',toks:=s.toks+1 }) (n:="range_iterator") st2 rfl rfl (by decide) ⟨.int (lo-i),H,?_,⟨_,rfl⟩,⟨rfl,rfl⟩,st2,fun b hb=>(hf b hb).1⟩⟩
  exact I.turned (fun b o hb q=>(sb.2 b hb).trans q) f0 f1 f3 f4 f5
 done:=by
  intro X e1 e2 e3 hc i pins s σ H E I hf st hg;subst e1 e2 e3;obtain⟨f0,f1,f2,f3,f4,f5⟩:=hf it Ap;have hi:n<=i:=hg;exact wpAny_pyNext_range_end (I.ok.hd hc) st (by omega) fun h' eb=>⟨rfl,I.turned (t':=s.toks) (fun b o hb q=>eb b o hb q) f0 f1 f3 f4 f5⟩
 self:=fun _ _ _ _ _ st h=>wpAny_pyIter_rangeiter st h
def aFg (lo:Int)(n:Nat):List D:=(Bp n).map fun (i:Nat)=>.int (lo-(i:Int))
def aFv (a b c:FE):FI:=fun ρ=>do
 let x ← a ρ
 let y ← b ρ
 let z ← c ρ
 let i ← asI x.d
 let j ← asI y.d
 let k ← asI z.d
 if k=-1/\-(2^61)<=i/\i<2^61/\-(2^61)<=j/\j<2^61 then .ok ⟨true,true,aFg i (i-j).toNat⟩ else .stk
theorem aDq {K:PySem.W.Frag}{H0 H':Hp}{B:Addr->Prop}{lo:Int}{n:Nat}:nU K H0 H' B (Itd lo n) ⟨true,true,aFg lo n⟩:=by
 refine⟨fun _=>False,fun _ _ z=>z.elim,fun H2 B2 _ _ _ _ _ i=>⟨fun hi=>?_,fun d hd=>?_⟩⟩
 · show n<=i
   simpa[aFg] using hi
 · unfold aFg at hd
   have hi:i<n:=by simpa using (Af.mp hd).1
   rw[Bb,List.getElem?_range hi]at hd;cases hd;refine⟨hi,fun x H3 ⟨e1,e2⟩=>?_⟩
   subst e1;exact⟨aG.refl _,e2⟩
theorem jA (a b:Int):Builtin.Range.rangeSize a b (-1)=((a-b).toNat:Int):=by
 have:Builtin.Range.rangeSize a b (-1)=if a>b then (a-b-1)/1+1 else 0:=rfl
 rw[this,Int.ediv_one];split<;>omega
theorem xN {a b:Int}(h1:-(2^61)<=a)(h2:a<2^61)(h3:-(2^61)<=b)(h4:b<2^61):Builtin.Range.small a b (-1)=true:=by
 unfold Builtin.Range.small;rw[jA];simp only[Builtin.Range.rangeFitsLong,Bt,Eu,decide_eq_true_eq,beq_iff_eq];simp
 omega
theorem aK0 {tg:Expr}{l:FE}(hg:Gl X "range")(hm:X.mg "range" = none)(ha:PE X a (tE X.K P f))(hb:PE X b (tE X.K P g))(hc:PE X c (tE X.K P l))(h1:starEach [a,b,c] X.env=(false,eval a X.env) :: starEach [b,c] X.env:=by rfl)
 (h2:starEach [b,c] X.env=(false,eval b X.env) :: starEach [c] X.env:=by rfl) (h3:starEach [c] X.env=(false,eval c X.env) :: starEach [] X.env:=by rfl) (h4:(backTo pos (starEach [b,c] X.env)).any (·.1)=false:=by rfl) :
 PI X tg (.Call (.Name "range" p) [a,b,c] [] pos) (tI X.K P (aFv f g l)):=by
 intro pins s σ H Rq I h
 have key:tAs X.K P [f,g,l] σ H fun vs H1=>∃ i j:Int,vs=[.int i,.int j,.int (-1)]/\(-(2^61)<=i/\i<2^61/\-(2^61)<=j/\j<2^61)/\Rq (Itd i (i-j).toNat) H1:=by
  have e:aFv f g l=fun ρ=>evs [f,g,l] ρ >>= fun rs=>match rs with
   | [x,y,z]=>(asI x.d >>= fun i=>asI y.d >>= fun j=>asI z.d >>= fun k=>if k=-1/\-(2^61)<=i/\i<2^61/\-(2^61)<=j/\j<2^61 then .ok ⟨true,true,aFg i (i-j).toNat⟩ else .stk)
   | _=>.stk:=by
   funext ρ
   unfold aFv evs evs evs;cases f ρ with
   | ok r =>
    cases g ρ with
    | ok r2=>cases l ρ<;>rfl
    | _=>rfl
   | _=>rfl
  rw[e]at h;refine aBi h ?_
  intro H0 B ρ vs H' rs d0 d gs s h;match vs,rs,gs with
  | [],rs,gs=>have e:rs=[]:=gs;subst e;exact h.elim
  | [v],_,⟨r,rr,e1,g1,g2⟩ =>
   subst e1;rw[show rr=[] from g2]at h
   exact h.elim
  | [v,w],_,⟨r,rr,e1,g1,r2,rr2,e2,g2,g3⟩ =>
   subst e1;subst e2;rw[show rr2=[] from g3]at h
   exact h.elim
  | [v,w,u],_,⟨r,rr,e1,g1,r2,rr2,e2,g2,r3,rr3,e3,g3,g4⟩ =>
   subst e1;subst e2;subst e3;rw[show rr3=[] from g4]at h
   cases q1:asI r.d with
   | stk=>simp[q1]at h
   | exc x=>exact(bP q1).elim
   | ok i =>
    cases q2:asI r2.d with
    | stk=>simp[q1,q2]at h
    | exc x=>exact(bP q2).elim
    | ok j =>
     cases q3:asI r3.d with
     | stk=>simp[q1,q2,q3]at h
     | exc x=>exact(bP q3).elim
     | ok k =>
      simp only[q1,q2,q3,R.ok_bind]at h;by_cases hz:k=-1/\-(2^61)<=i/\i<2^61/\-(2^61)<=j/\j<2^61
      · rw[if_pos hz]at h
        exact⟨i,j,by rw[g1.int (bX q1),g2.int (bX q2),g3.int (bX q3),hz.1],hz.2,h _ H' (aG.refl _) aDq⟩
      · rw[if_neg hz]at h;exact h.elim
  | _ :: _ :: _ :: _ :: _,_,⟨r,rr,e1,g1,r2,rr2,e2,g2,r3,rr3,e3,g3,r4,rr4,e4,_⟩ =>
   subst e1;subst e2;subst e3;subst e4;exact h.elim
 refine Call_ (eY I hg hm boot_range (Ar (thn ((aA ha (aA hb (aA hc aB h3) h2) h1) pos pins s σ H _ I key) fun us s1 ⟨vs,H1,I1,r1,q1⟩=>?_) h1 h4))
 obtain⟨i,j,e,⟨b1,b2,b3,b4⟩,q⟩:=q1;subst e;cases r1 with
 | cons x1 rr =>
  cases rr with
  | cons x2 rr =>
   cases rr with
   | cons x3 rr =>
    cases rr;obtain⟨t1,rfl⟩:=x1;obtain⟨t2,rfl⟩:=x2;obtain⟨t3,rfl⟩:=x3;refine call_range_3 (by decide) ?_ (.inl (PyProof.noPylong_small (by decide)))
    refine wpAny_pyIter_range (IsRange.new ..) (xN b1 b2 b3 b4) ?_
    have I2:Inv X pins σ H1 { s1 with heap:=s1.heap.push { cls:=.type "range",data:=.fields #[.int i t1,.int j t2,.int (-1) t3] },toks:=s1.toks }:=I1.kept fun b o e=>Aa _ e
    refine⟨_,[_],_,_,H1,rfl,I2.kept (t':=s1.toks) fun b o e=>Aa _ e,aBc _ i (i-j).toNat,?_,fun b hb=>?_,q⟩
    · have e1:i-((0:Nat):Int)=i:=by simp
      have e2:(((i-j).toNat:Nat):Int)-((0:Nat):Int)=Builtin.Range.rangeSize i j (-1):=by rw[jA];simp
      show IsRangeIter _ _ (i-((0:Nat):Int)) ((((i-j).toNat:Nat):Int)-((0:Nat):Int)) (-1)
      rw[e1,e2];exact Ae _ rfl
    · rw[Bk.mp hb]
      exact I2.fpOk (Ad _) (I2.hok.fresh (Ad _))
end Mir
namespace Mir
open PySem L2
abbrev li (xs:List Int):List D:=xs.map .int
theorem dY {s t:FS}{ρ ρ1:Mir.Env}(h:s ρ=.nx ρ1):aQ s t ρ=t ρ1:=by simp only[aQ,h]
theorem aJj {s t:FS}{ρ:Mir.Env}{r:Res}(h:s ρ=.rt r):aQ s t ρ=.rt r:=by simp only[aQ,h]
theorem mI {s t:FS}{ρ ρ1:Mir.Env}{x:Xc}(h:s ρ=.exc x ρ1):aQ s t ρ=.exc x ρ1:=by simp only[aQ,h]
theorem aK2 {it:FI}{tg:Tg}{b:FS}{ρ:Mir.Env}{fr:Bool}{ds:List D}(h:it ρ=.ok ⟨true,fr,ds⟩):fV it tg b ρ=qH tg b fr ds ρ:=by simp only[fV,h,R.at,if_true]
theorem sN {np n:Nat}{s:FS}{ds:List D}{r:Res}(hl:ds.length=np)(h:s (stE n ds)=.rt r):bS np n s ds=.ok ⟨r.k,r.fr||r.d.imm,r.d⟩:=by simp only[bS,hl,if_true,h]
theorem aKi {np n:Nat}{s:FS}{ds:List D}{ρ:Mir.Env}(hl:ds.length=np)(h:s (stE n ds)=.nx ρ):bS np n s ds=.ok (sc .non):=by simp only[bS,hl,if_true,h]
theorem gE {np n:Nat}{s:FS}{ds:List D}{x:Xc}{ρ:Mir.Env}(hl:ds.length=np)(h:s (stE n ds)=.exc x ρ):bS np n s ds=.exc x:=by simp only[bS,hl,if_true,h]
theorem aCp {f:FE}{ρ:Mir.Env}{k:Kd}{fr:Bool}{d:D}(h:f ρ=.ok ⟨k,fr,d⟩):bO f ρ=.rt ⟨if k=.shr then .shr else .tmp,fr,d⟩:=by simp only[bO,h,R.at]
theorem zZ {f:FE}{ρ:Mir.Env}{r:Res}(h:f ρ=.ok r):dQ f ρ=.nx ρ:=by simp only[dQ,h,R.at]
theorem aG9 {f:FE}{ρ:Mir.Env}{i:Nat}{fr:Bool}{d:D}(h:f ρ=.ok ⟨.tmp,fr,d⟩):bB i f ρ=.nx (ρ.set i (some ⟨.own,fr,d⟩)):=by simp only[bB,h,R.at,Res.keep]
theorem set_shr {f:FE}{ρ:Mir.Env}{i:Nat}{fr:Bool}{d:D}(h:f ρ=.ok ⟨.shr,fr,d⟩):bB i f ρ=.nx (ρ.set i (some ⟨.shr,fr,d⟩)):=by simp only[bB,h,R.at,Res.keep]
theorem xK {t:FT}{A B:FS}{ρ:Mir.Env}{b:Bool}(h:t ρ=.ok b):ifS t A B ρ=if b then A ρ else B ρ:=by simp only[ifS,h,R.at]
theorem aIt {f:FE}{A B:FS}{ρ:Mir.Env}{b:Bool}{k:Kd}{fr:Bool}(h:f ρ=.ok ⟨k,fr,.bl b⟩):ifS (bT f) A B ρ=if b then A ρ else B ρ:=by
 simp only[ifS,bT,h,R.ok_bind,asB,R.at]
theorem yU {f:FE}{ρ:Mir.Env}{b:Bool}{k:Kd}{fr:Bool}(h:f ρ=.ok ⟨k,fr,.bl b⟩):bT f ρ=.ok b:=by simp only[bT,h,R.ok_bind,asB]
theorem aKt {t u:FT}{ρ:Mir.Env}{b:Bool}{r:R Bool}(h:t ρ=.ok b)(h2:b=false->u ρ=r):orT t u ρ=if b then .ok true else r:=by
 cases b with
 | true=>simp only[orT,h,R.ok_bind,if_true]
 | false=>simp only[orT,h,R.ok_bind,h2 rfl,Bf,if_false]
theorem aGn {f g:FE}{ρ:Mir.Env}{b:Bool}{k:Kd}{fr:Bool}{r:R Res}(h:f ρ=.ok ⟨k,fr,.bl b⟩)(h2:b=true->g ρ=r):yC f g ρ=if b then r else .ok (sc (.bl false)):=by
 cases b with
 | true=>simp only[yC,h,R.ok_bind,asB,h2 rfl,if_true]
 | false=>simp only[yC,h,R.ok_bind,asB,Bf,if_false]
theorem sR {φ:Φ}{fs:FEs}{ρ:Mir.Env}{rs:List Res}{k:Kd}{d:D}(h:evs fs ρ=.ok rs)(hφ:φ (rs.map (·.d))=.ok ⟨k,true,d⟩):aK φ fs ρ=.ok ⟨if k=.shr then .shr else .tmp,true,d⟩:=by
 simp only[aK,h,R.ok_bind,hφ,if_true]
theorem zR {φ:Φ}{fs:FEs}{ρ:Mir.Env}{rs:List Res}{d:D}(h:evs fs ρ=.ok rs)(hφ:φ (rs.map (·.d))=.ok ⟨.shr,true,d⟩):aK φ fs ρ=.ok ⟨.shr,true,d⟩:=(sR h hφ).trans rfl
theorem eU {φ:Φ}{fs:FEs}{ρ:Mir.Env}{rs:List Res}{d:D}(h:evs fs ρ=.ok rs)(hφ:φ (rs.map (·.d))=.ok ⟨.tmp,true,d⟩):aK φ fs ρ=.ok ⟨.tmp,true,d⟩:=(sR h hφ).trans rfl
theorem zC {f:FE}{ρ:Mir.Env}{fr:Bool}{d:D}(h:f ρ=.ok ⟨.tmp,fr,d⟩):bO f ρ=.rt ⟨.tmp,fr,d⟩:=(aCp h).trans rfl
theorem zB {f:FE}{ρ:Mir.Env}{fr:Bool}{d:D}(h:f ρ=.ok ⟨.shr,fr,d⟩):bO f ρ=.rt ⟨.shr,fr,d⟩:=(aCp h).trans rfl
theorem aN {f:FE}{fs:FEs}{ρ:Mir.Env}{r:Res}{rs:List Res}(h:f ρ=.ok r)(h2:evs fs ρ=.ok rs):evs (f :: fs) ρ=.ok (r :: rs):=by simp only[evs,h,h2,R.ok_bind]
theorem cU {ρ:Mir.Env}:evs [] ρ=.ok []:=rfl
theorem aJx {n:Nat}(h:n<2^250):n<2^1000:=Aj h (Nat.pow_le_pow_right (by decide) (by decide))
theorem aNd {i j:Int}(h1:i.natAbs<2^1000)(h2:j.natAbs<2^1000):CM i j=true:=by
 have lg:∀ n:Nat,n<2^1000->n.log2<1000000:=fun n h=>by
  by_cases z:n=0
  · subst z;decide
  · exact Dj ((Nat.log2_lt z).mpr h) (by decide)
 unfold CM;rw[decide_eq_true (lg _ h1),decide_eq_true (lg _ h2)];rfl
theorem aHp (a b:Int):jK (.int a) (.int b)=.ok (decide (a=b)):=by
 by_cases h:a=b
 · subst h;simp[jK,iE,SeqAt.shaped,PyData.canLay0,PyData.depth,PyData.eqv]
 · simp[jK,iE,SeqAt.shaped,PyData.canLay0,PyData.depth,PyData.eqv,h]
theorem yQ {xs:List D}{k:Nat}{d:D}(h:xs[k]?=some d):atI xs (k:Int)=some d:=by
 have hk:=(Af.mp h).1;have hn:¬ (k:Int)<0:=by omega
 unfold atI ixN;rw[if_pos (by omega),if_pos (by omega)]
 simpa using h
theorem aKk {f:FE}{ρ:Mir.Env}{k:Kd}{fr:Bool}{ds:List D}(h:f ρ=.ok ⟨k,fr,.lst ds⟩):hJ f ρ=.ok (sc (.int ds.length)):=by simp only[hJ,h,R.ok_bind,asS]
theorem aCt {f g:FE}{ρ:Mir.Env}{k k':Kd}{fr fr':Bool}{i j:Int}(h1:f ρ=.ok ⟨k,fr,.int i⟩)(h2:g ρ=.ok ⟨k',fr',.int j⟩):eqE f g ρ=.ok (sc (.bl (decide (i=j)))):=by simp only[eqE,h1,h2,R.ok_bind,aHp]
theorem aIm {f g:FE}{ρ:Mir.Env}{r r':Res}{b:Bool}(h1:f ρ=.ok r)(h2:g ρ=.ok r')(h:jK r.d r'.d=.ok b):eqE f g ρ=.ok (sc (.bl b)):=by simp only[eqE,h1,h2,R.ok_bind,h]
theorem aId {f g:FE}{ρ:Mir.Env}{r r':Res}{b:Bool}(h1:f ρ=.ok r)(h2:g ρ=.ok r')(h:jK r.d r'.d=.ok b):neE f g ρ=.ok (sc (.bl (!b))):=by simp only[neE,h1,h2,R.ok_bind,h]
theorem lU {G:Int->Int->Bool}{f g:FE}{ρ:Mir.Env}{k k':Kd}{fr fr':Bool}{i j:Int}(h1:f ρ=.ok ⟨k,fr,.int i⟩)(h2:g ρ=.ok ⟨k',fr',.int j⟩):aCm G f g ρ=.ok (sc (.bl (G i j))):=by simp only[aCm,h1,h2,R.ok_bind,asI]
theorem gA {C:Int->Int->Bool}{G:Int->Int->Int}{f g:FE}{ρ:Mir.Env}{k k':Kd}{fr fr':Bool}{i j:Int}(h1:f ρ=.ok ⟨k,fr,.int i⟩)(h2:g ρ=.ok ⟨k',fr',.int j⟩)(hc:C i j=true):i2E C G f g ρ=.ok (sc (.int (G i j))):=by
 simp only[i2E,h1,h2,R.ok_bind,asI,hc,if_true]
theorem aG7 {f g:FE}{ρ:Mir.Env}{k k':Kd}{fr fr':Bool}{ds:List D}{i:Nat}{d:D}(h1:f ρ=.ok ⟨k,fr,.lst ds⟩)(h2:g ρ=.ok ⟨k',fr',.int i⟩)(h:ds[i]?=some d):cO f g ρ=.ok ⟨.shr,fr||d.imm,d⟩:=by
 simp only[cO,h1,h2,R.ok_bind,asS,asI,yQ h]
theorem aAb {f g:FE}{ρ:Mir.Env}{k k':Kd}{fr fr':Bool}{ds:List D}{i:Nat}{z:Int}(h1:f ρ=.ok ⟨k,fr,.lst ds⟩)(h2:g ρ=.ok ⟨k',fr',.int i⟩)(h:ds[i]?=some (.int z)):cO f g ρ=.ok ⟨.shr,true,.int z⟩ :=
 (aG7 h1 h2 h).trans (by simp[D.imm])
end Mir
namespace Mir
open PySem L2
theorem aD6 {φ:Φ}{fs:FEs}{ρ:Mir.Env}{rs:List Res}{k:Kd}{d:D}{y:Bool×List D}(h:evs fs ρ=.ok rs)(hφ:φ (rs.map (·.d))=.ok ⟨k,false,d⟩)(hg:gives rs=.ok y):aK φ fs ρ=.ok ⟨if k=.shr then .shr else .tmp,y.1,d⟩:=by
 simp only[aK,h,R.ok_bind,hφ,Bf,if_false,hg]
end Mir
namespace N42
open PySem L2 Mir
def top (i:Nat):Stmt:=PySem.Challenge.pw_flatmeet_k42_refused_sizes.main.body.getD i (.Pass ⟨0,0,0,0⟩)
structure Blt (mg:Str->Option Value):Prop where
 len_:mg "len" = none
 list_:mg "list" = none
 zip_:mg "zip" = none
 enumerate_:mg "enumerate" = none
 range_:mg "range" = none
 sum_:mg "sum" = none
 reversed_:mg "reversed" = none
 set_:mg "set" = none
 sorted_:mg "sorted" = none
 tuple_:mg "tuple" = none
 dict_:mg "dict" = none
 isinstance_:mg "isinstance" = none
 ValueError_:mg "ValueError" = none
 g_MOST_WAYS:∃ t,mg "MOST_WAYS" = some (.int 5 t)
section
variable {Pg:Program}{w:World}{K:PySem.W.Frag}{mg:Str->Option Value}{base:Heap}{k:Nat}{T:Addr}
abbrev mR:Stmt:=zD (top 35) 0
theorem aF1:FnScope ("self" :: bY 0) ("self" :: bY 0) (aF mR):=⟨rfl,rfl,rfl,by decide +kernel,rfl,by decide +kernel,by decide +kernel⟩
theorem aJe (O:OC K 0){f:Addr}{fd:FuncData}(F:Fun K "__init__" "Flat.__init__" mR f fd):FnOk Pg w K mg base (CXM Pg w) 1 f fd ("self" :: bY 0) (spI K 0):=aNm F aF1 O fun cdv A outer s H E=>mM (oX (pv 0) (pv 1) rfl) (oM (oX (pv 0) (pv 2) rfl))
abbrev fM:Stmt:=zD (top 28) 0
theorem yG:FnScope ("self" :: bY 1) ("self" :: bY 1) (aF fM):=⟨rfl,rfl,rfl,by decide +kernel,rfl,by decide +kernel,by decide +kernel⟩
theorem aB2 (O:OC K 1){f:Addr}{fd:FuncData}(F:Fun K "__init__" "Cleared.__init__" fM f fd):FnOk Pg w K mg base (CXM Pg w) 1 f fd ("self" :: bY 1) (spI K 1):=aNg F yG O fun cdv A outer s H E=>mM (oX (pv 0) (pv 1) rfl) (mM (oX (pv 0) (pv 2) rfl) (oM (oX (pv 0) (pv 3) rfl)))
abbrev eK:Stmt:=top 18
theorem iX:FnScope ["one","other"] ["one","other"] (aF eK):=⟨rfl,rfl,rfl,by decide +kernel,rfl,by decide +kernel,by decide +kernel⟩
def qN:FS :=
 (ifS (bT (neE (hJ (vE 0)) (hJ (vE 1))))
  (iS .NotAlike [cE (.str "lists of unlike lengths")])
  dR)
def eP:Φ:=bS 2 2 qN
theorem gO (B:Blt mg)(XT:XAll K mg T)  (F:aS K mg "check_alike" eK ["one","other"]):aD Pg w K mg base (CXM Pg w) (k+1) "check_alike" ["one","other"] (spM K (clK K) eP):=by
 have nd:=iX.nd;refine bG F iX fun f cdv A outer s H E hr=>?_
 have hu:=hr.units
 exact(aJ (dF (jH hu (fS rfl B.len_ (m_v 0)) (fS rfl B.len_ (m_v 1)))
  (aJ (nX (xc:=.NotAlike) (XT.nm .NotAlike) (XT.ex .NotAlike (by decide) (by decide)) rfl rfl zX (aA cY aB)))
  cS))
abbrev oB:Stmt:=top 19
theorem wH:FnScope ["one","other"] ["one","other"] (aF oB):=⟨rfl,rfl,rfl,by decide +kernel,rfl,by decide +kernel,by decide +kernel⟩
def aFn:FS :=
 (aQ (dQ (aK eP [vE 0,vE 1]))
 (bO (aMy (vE 0) (vE 1))))
def gD:Φ:=bS 2 2 aFn
theorem iD (B:Blt mg)(XT:XAll K mg T)(gO:aD Pg w K mg base (CXM Pg w) k "check_alike" ["one","other"] (spM K (clK K) eP))(F:aS K mg "pairs" oB ["one","other"]):aD Pg w K mg base (CXM Pg w) (k+1) "pairs" ["one","other"] (spM K (clK K) gD):=by
 have nd:=wH.nd;refine bG F wH fun f cdv A outer s H E hr=>?_
 have hu:=hr.units
 exact(aC (fT (aP gO hr rfl bQ (aA (m_v 0) (aA (m_v 1) aB))))
  (aJ (bK (aNv rfl rfl B.list_ rfl B.zip_ (m_v 0) (m_v 1)))))
abbrev eN:Stmt:=top 20
theorem iT:FnScope ["many"] ["many"] (aF eN):=⟨rfl,rfl,rfl,by decide +kernel,rfl,by decide +kernel,by decide +kernel⟩
def qJ:FS :=
 (ifS (orT (bT (ltE (vE 0) (cE (.int 1)))) (bT (gtE (vE 0) (cE (.int 5)))))
  (iS .BadCount [cE (.str "a space has 1 to 5 ways")])
  dR)
def cB:Φ:=bS 1 1 qJ
theorem dH (B:Blt mg)(XT:XAll K mg T)  (F:aS K mg "check_count" eN ["many"]):aD Pg w K mg base (CXM Pg w) (k+1) "check_count" ["many"] (spM K (clK K) cB):=by
 have nd:=iT.nd;refine bG F iT fun f cdv A outer s H E hr=>?_
 have hu:=hr.units
 exact(aJ (dF (PW.pt (yY (rE (m_v 0) aL) (sW (zF (m_v 0) (aKr rfl B.g_MOST_WAYS)))))
  (aJ (nX (xc:=.BadCount) (XT.nm .BadCount) (XT.ex .BadCount (by decide) (by decide)) rfl rfl zX (aA cY aB)))
  cS))
abbrev fJ:Stmt:=top 21
theorem kH:FnScope ["many","rows","place","row"] ["many","rows"] (aF fJ):=⟨rfl,rfl,rfl,by decide +kernel,rfl,by decide +kernel,by decide +kernel⟩
def sV:FS :=
 (aQ (dQ (aK cB [vE 0]))
 (fV (aBn (vE 1)) (.tp [.nm 2,.nm 3])
  (ifS (bT (neE (hJ (vE 3)) (vE 0)))
   (aJs)
   dR)))
def dB:Φ:=bS 2 4 sV
theorem dU (B:Blt mg)(XT:XAll K mg T)(dH:aD Pg w K mg base (CXM Pg w) k "check_count" ["many"] (spM K (clK K) cB))(F:aS K mg "check_rows" fJ ["many","rows"]):aD Pg w K mg base (CXM Pg w) (k+1) "check_rows" ["many","rows"] (spM K (clK K) dB):=by
 have nd:=kH.nd;refine bG F kH fun f cdv A outer s H E hr=>?_
 have hu:=hr.units
 exact(aC (fT (aP dH hr rfl bQ (aA (m_v 0) aB)))
  (aJ (eF dO rfl (tD rfl B.enumerate_ (m_v 1)) (fB rfl (aY (bA nd rfl (Or.inl rfl)) (aY (bA nd rfl (Or.inl rfl)) cK)))
   (aJ (dF (jH hu (fS rfl B.len_ (m_v 3)) (m_v 0))
    (aJ aH4)
    cS)))))
abbrev fF:Stmt:=top 22
theorem kI:FnScope ["least","most","size"] ["least","most","size"] (aF fF):=⟨rfl,rfl,rfl,by decide +kernel,rfl,by decide +kernel,by decide +kernel⟩
def uM:FS :=
 (ifS (orT (bT (ltE (vE 2) (vE 0))) (bT (gtE (vE 2) (vE 1))))
  (iS .BadSize [cE (.str "no size of this space")])
  dR)
def dX:Φ:=bS 3 3 uM
theorem iJ (B:Blt mg)(XT:XAll K mg T)  (F:aS K mg "check_size" fF ["least","most","size"]):aD Pg w K mg base (CXM Pg w) (k+1) "check_size" ["least","most","size"] (spM K (clK K) dX):=by
 have nd:=kI.nd;refine bG F kI fun f cdv A outer s H E hr=>?_
 have hu:=hr.units
 exact(aJ (dF (PW.pt (yY (rE (m_v 2) (m_v 0)) (sW (zF (m_v 2) (m_v 1)))))
  (aJ (nX (xc:=.BadSize) (XT.nm .BadSize) (XT.ex .BadSize (by decide) (by decide)) rfl rfl zX (aA cY aB)))
  cS))
abbrev gL:Stmt:=top 23
theorem mH:FnScope ["many","size","told","longer","places","least"] ["many","size"] (aF gL):=⟨rfl,rfl,rfl,by decide +kernel,rfl,by decide +kernel,by decide +kernel⟩
def uP:FS :=
 (aQ (bB 2 (bH [jM []]))
 (aQ (aKf (bT (gtE (vE 1) (cE (.int 0))))
  (aQ (bB 3 (bH []))
  (aQ (jB 2 (fV (fN (vE 2)) (.nm 4)
   (aQ (bB 5 (ifE (aBh (vE 4)) (fC (cO (vE 4) (qT (cE (.int 1)))) (cE (.int 1))) (cE (.int 0))))
   (aGr 3 (cC (zV (vE 5) (vE 0)) 1 [4] (.nm 0) (bE (qD (vE 1) (jM [vE 0]))))))))
  (aQ (jB 3 (bB 2 (vE 3)))
  (xB 1 (fun m n=>m-n) (cE (.int 1)))))))
 (bO (vE 2))))
def eR:Φ:=bS 2 6 uP
theorem gI (B:Blt mg)(XT:XAll K mg T)  (F:aS K mg "places_of" gL ["many","size"]):aD Pg w K mg base (CXM Pg w) (k+1) "places_of" ["many","size"] (spM K (clK K) eR):=by
 have nd:=mH.nd;refine bG F mH fun f cdv A outer s H E hr=>?_
 have hu:=hr.units
 exact(aC (aW (i:=2) nd rfl (Or.inl rfl) (bN (aA (hZ aB) aB)))
  (aC (aIh dO (zF (m_v 1) aL)
   (aC (aW (i:=3) nd rfl (Or.inl rfl) (bN aB))
   (aC (fA (i:=2) (eF dO rfl (cI (m_v 2)) (bA nd rfl (Or.inr rfl))
    (aC (aW (i:=5) nd rfl (Or.inl rfl) (aL7 (uF (m_v 4)) (fU (cA (m_v 4) (nK aL)) aL) aL))
    (aJ (aIs (i:=3) rfl (Or.inl rfl) (cJ rfl (aT (XN:=["many","size","told","longer","places","least"]) (N:=["number","places"]) (k:=1) (fs:=[4]) rfl rfl rfl (by decide +kernel)) (tP rfl B.range_ (m_v 5) (m_v 0)) (fun _ _ _=>(bA (show (["number","places"]:List Str).Nodup by decide +kernel) rfl (Or.inl rfl))) (eJ rfl) (fun _ _ _=>cF (mX (m_v 1) (hZ (aA (m_v 0) aB))))))))))
   (aC (fA (i:=3) (aW (i:=2) nd rfl (Or.inl rfl) (m_v 3)))
   (aJ (aKh (i:=1) nd rfl (Or.inl rfl) aL))))))
  (aJ (bK (m_v 2)))))
abbrev oK:Stmt:=top 24
theorem vF:FnScope ["many"] ["many"] (aF oK):=⟨rfl,rfl,rfl,by decide +kernel,rfl,by decide +kernel,by decide +kernel⟩
def aHt:FS :=
 (bO (cC (iM (vE 0)) 1 [0] (.nm 0) (bE (cC (iM (vE 1)) 1 [0] (.nm 0) (bE (ifE (bT (eqE (vE 0) (vE 1))) (cE (.int 1)) (cE (.int 0))))))))
def oF:Φ:=bS 1 1 aHt
theorem uK (B:Blt mg)(XT:XAll K mg T)  (F:aS K mg "units" oK ["many"]):aD Pg w K mg base (CXM Pg w) (k+1) "units" ["many"] (spM K (clK K) oF):=by
 have nd:=vF.nd;refine bG F vF fun f cdv A outer s H E hr=>?_
 have hu:=hr.units;exact(aJ (bK (cJ rfl (aT (XN:=["many"]) (N:=["place","many"]) (k:=1) (fs:=[0]) rfl rfl rfl (by decide +kernel)) (gK rfl B.range_ (m_v 0)) (fun _ _ _=>(bA (show (["place","many"]:List Str).Nodup by decide +kernel) rfl (Or.inr rfl))) (eJ rfl) (fun _ _ _=>cF (cJ rfl (mV (N:=["way","place"]) (k:=1) (fs:=[0]) (aT (XN:=["many"]) (N:=["place","many"]) (k:=1) (fs:=[0]) rfl rfl rfl (by decide +kernel)) (by decide +kernel)) (gK rfl B.range_ (m_v 1)) (fun _ _ _=>(bA (show (["way","place"]:List Str).Nodup by decide +kernel) rfl (Or.inl rfl))) (eJ rfl) (fun _ _ _=>cF (aL7 (zJ hu (m_v 0) (m_v 1)) aL aL)))))))
abbrev nZ:Stmt:=top 25
theorem uW:FnScope ["width","often","rows","told","many","row"] ["width","often","rows"] (aF nZ):=⟨rfl,rfl,rfl,by decide +kernel,rfl,by decide +kernel,by decide +kernel⟩
def aFq:FS :=
 (aQ (bB 3 (aHd (bH [cE (.int 0)]) (vE 0)))
 (aQ (jB 2 (jB 1 (fV (fN (aK gD [vE 1,vE 2])) (.tp [.nm 4,.nm 5])
  (bB 3 (cC (aEs (vE 3) (vE 5)) 2 [4] (.tp [.nm 0,.nm 1]) (bE (fC (vE 0) (gC (vE 2) (vE 1)))))))))
 (bO (vE 3))))
def kA:Φ:=bS 3 6 aFq
theorem mF (B:Blt mg)(XT:XAll K mg T)(iD:aD Pg w K mg base (CXM Pg w) k "pairs" ["one","other"] (spM K (clK K) gD))(F:aS K mg "mixed" nZ ["width","often","rows"]):aD Pg w K mg base (CXM Pg w) (k+1) "mixed" ["width","often","rows"] (spM K (clK K) kA):=by
 have nd:=uW.nd;refine bG F uW fun f cdv A outer s H E hr=>?_
 have hu:=hr.units
 exact(aC (aW (i:=3) nd rfl (Or.inl rfl) (aEv (bN (aA aL aB)) (m_v 0)))
  (aC (fA (i:=2) (fA (i:=1) (eF dO rfl (cI (aP iD hr rfl bQ (aA (m_v 1) (aA (m_v 2) aB)))) (fB rfl (aY (bA nd rfl (Or.inr rfl)) (aY (bA nd rfl (Or.inl rfl)) cK)))
   (aJ (oN (i:=3) rfl nd rfl rfl (aT (XN:=["width","often","rows","told","many","row"]) (N:=["before","number","many"]) (k:=2) (fs:=[4]) rfl rfl rfl (by decide +kernel)) (tM rfl rfl B.zip_ (m_v 3) (m_v 5)) (fun _ _ _=>(fB rfl (aY (bA (show (["before","number","many"]:List Str).Nodup by decide +kernel) rfl (Or.inl rfl)) (aY (bA (show (["before","number","many"]:List Str).Nodup by decide +kernel) rfl (Or.inl rfl)) cK)))) (eJ rfl) (fun _ _ _=>cF (fU (m_v 0) (eB (m_v 2) (m_v 1)))))))))
  (aJ (bK (m_v 3)))))
abbrev lW:Stmt:=top 26
theorem rD:FnScope ["one","other","first","second","often","rest"] ["one","other"] (aF lW):=⟨rfl,rfl,rfl,by decide +kernel,rfl,by decide +kernel,by decide +kernel⟩
def aE2:FS :=
 (aQ (bB 2 (bH [vE 0,cE (.int 1),cE (.int 0)]))
 (aQ (bB 3 (bH [vE 1,cE (.int 0),cE (.int 1)]))
 (aQ (aKf (bT (neE (cO (vE 3) (cE (.int 0))) (cE (.int 0))))
  (aQ (bB 4 (lX (cO (vE 2) (cE (.int 0))) (cO (vE 3) (cE (.int 0)))))
  (aQ (bB 5 (cC (aEs (vE 2) (vE 3)) 2 [4] (.tp [.nm 0,.nm 1]) (bE (pE (vE 0) (gC (vE 2) (vE 1))))))
  (aQ (jB 3 (bB 2 (vE 3)))
  (jB 5 (bB 3 (vE 5)))))))
 (aQ (ifS (bT (ltE (cO (vE 2) (cE (.int 0))) (cE (.int 0))))
  (bB 2 (cC (fN (vE 2)) 1 [] (.nm 0) (bE (qT (vE 0)))))
  dR)
 (bO (vE 2))))))
def lR:Φ:=bS 2 6 aE2
theorem qE (B:Blt mg)(XT:XAll K mg T)  (F:aS K mg "bezout" lW ["one","other"]):aD Pg w K mg base (CXM Pg w) (k+1) "bezout" ["one","other"] (spM K (clK K) lR):=by
 have nd:=rD.nd;refine bG F rD fun f cdv A outer s H E hr=>?_
 have hu:=hr.units
 exact(aC (aW (i:=2) nd rfl (Or.inl rfl) (bN (aA (m_v 0) (aA aL (aA aL aB)))))
  (aC (aW (i:=3) nd rfl (Or.inl rfl) (bN (aA (m_v 1) (aA aL (aA aL aB)))))
  (aC (aIh dO (jH hu (cA (m_v 3) aL) aL)
   (aC (aW (i:=4) nd rfl (Or.inr rfl) (lH (cA (m_v 2) aL) (cA (m_v 3) aL)))
   (aC (oN (i:=5) rfl nd rfl rfl (aT (XN:=["one","other","first","second","often","rest"]) (N:=["left","right","often"]) (k:=2) (fs:=[4]) rfl rfl rfl (by decide +kernel)) (tM rfl rfl B.zip_ (m_v 2) (m_v 3)) (fun _ _ _=>(fB rfl (aY (bA (show (["left","right","often"]:List Str).Nodup by decide +kernel) rfl (Or.inl rfl)) (aY (bA (show (["left","right","often"]:List Str).Nodup by decide +kernel) rfl (Or.inl rfl)) cK)))) (eJ rfl) (fun _ _ _=>cF (lJ (m_v 0) (eB (m_v 2) (m_v 1)))))
   (aC (fA (i:=3) (aW (i:=2) nd rfl (Or.inl rfl) (m_v 3)))
   (aJ (fA (i:=5) (aW (i:=3) nd rfl (Or.inl rfl) (m_v 5))))))))
  (aC (dF (rE (cA (m_v 2) aL) aL)
   (aJ (oN (i:=2) rfl nd rfl rfl (aT (XN:=["one","other","first","second","often","rest"]) (N:=["number"]) (k:=1) (fs:=[]) rfl rfl rfl (by decide +kernel)) (cI (m_v 2)) (fun _ _ _=>(bA (show (["number"]:List Str).Nodup by decide +kernel) rfl (Or.inl rfl))) (eJ rfl) (fun _ _ _=>cF (nK (m_v 0)))))
   cS)
  (aJ (bK (m_v 2)))))))
abbrev oA:Stmt:=top 27
theorem uT:FnScope ["rows","top","way","bottom","chosen","head","told","place","row"] ["rows","top","way","bottom"] (aF oA):=⟨rfl,rfl,rfl,by decide +kernel,rfl,by decide +kernel,by decide +kernel⟩
def aGv:FS :=
 (aQ (bB 4 (cO (vE 0) (vE 1)))
 (aQ (bB 5 (cO (vE 4) (vE 2)))
 (aQ (bB 6 (bH []))
 (aQ (jB 0 (fV (aBn (vE 0)) (.tp [.nm 7,.nm 8])
  (ifS (bT (eqE (vE 7) (vE 1)))
   (jB 4 (aAq 6 (vE 4)))
   (aAq 6 (cC (aEs (vE 8) (vE 4)) 2 [3,5,8,2] (.tp [.nm 0,.nm 1]) (bE (lX (pE (gC (vE 3) (vE 0)) (gC (cO (vE 4) (vE 5)) (vE 1))) (vE 2))))))))
 (bO (vE 6))))))
def nY:Φ:=bS 4 9 aGv
theorem uC (B:Blt mg)(XT:XAll K mg T)  (F:aS K mg "swept" oA ["rows","top","way","bottom"]):aD Pg w K mg base (CXM Pg w) (k+1) "swept" ["rows","top","way","bottom"] (spM K (clK K) nY):=by
 have nd:=uT.nd;refine bG F uT fun f cdv A outer s H E hr=>?_
 have hu:=hr.units
 exact(aC (aW (i:=4) nd rfl (Or.inl rfl) (cA (m_v 0) (m_v 1)))
  (aC (aW (i:=5) nd rfl (Or.inr rfl) (cA (m_v 4) (m_v 2)))
  (aC (aW (i:=6) nd rfl (Or.inl rfl) (bN aB))
  (aC (fA (i:=0) (eF dO rfl (tD rfl B.enumerate_ (m_v 0)) (fB rfl (aY (bA nd rfl (Or.inl rfl)) (aY (bA nd rfl (Or.inr rfl)) cK)))
   (aJ (dF (zJ hu (m_v 7) (m_v 1))
    (aJ (fA (i:=4) (aAd (i:=6) rfl (Or.inl rfl) (m_v 4))))
    (aJ (aAd (i:=6) rfl (Or.inl rfl) (cJ rfl (aT (XN:=["rows","top","way","bottom","chosen","head","told","place","row"]) (N:=["left","right","bottom","head","row","way"]) (k:=2) (fs:=[3,5,8,2]) rfl rfl rfl (by decide +kernel)) (tM rfl rfl B.zip_ (m_v 8) (m_v 4)) (fun _ _ _=>(fB rfl (aY (bA (show (["left","right","bottom","head","row","way"]:List Str).Nodup by decide +kernel) rfl (Or.inl rfl)) (aY (bA (show (["left","right","bottom","head","row","way"]:List Str).Nodup by decide +kernel) rfl (Or.inl rfl)) cK)))) (eJ rfl) (fun _ _ _=>cF (lH (lJ (eB (m_v 3) (m_v 0)) (eB (cA (m_v 4) (m_v 5)) (m_v 1))) (m_v 2))))))))))
  (aJ (bK (m_v 6)))))))
abbrev jV:Stmt:=top 29
theorem pT:FnScope ["many","rows","lines","heads","bottom","way","top","found"] ["many","rows"] (aF jV):=⟨rfl,rfl,rfl,by decide +kernel,rfl,by decide +kernel,by decide +kernel⟩
def aA5:FS :=
 (aQ (bB 2 (cC (fN (vE 1)) 1 [] (.nm 0) (bE (aLp (vE 0)))))
 (aQ (bB 3 (bH []))
 (aQ (bB 4 (cE (.int 1)))
 (aQ (fV (iM (vE 0)) (.nm 5)
  (aQ (bB 6 (hJ (vE 3)))
  (aQ (bB 7 (cC (zV (vE 6) (hJ (vE 2))) 1 [5,2] (.nm 0) (Mir.bIf (bT (neE (cO (cO (vE 2) (vE 0)) (vE 1)) (cE (.int 0)))) (vE 0))))
  (ifS (aBh (vE 7))
   (aQ (bB 2 (pU (pU (pU (sX (vE 2) (noO) (soO (vE 6))) (bH [cO (vE 2) (cO (vE 7) (cE (.int 0)))])) (sX (vE 2) (soO (vE 6)) (soO (cO (vE 7) (cE (.int 0)))))) (sX (vE 2) (soO (fC (cO (vE 7) (cE (.int 0))) (cE (.int 1)))) (noO))))
   (aQ (jB 2 (bB 2 (aK nY [vE 2,vE 6,vE 5,vE 4])))
   (aQ (bB 4 (cO (cO (vE 2) (vE 6)) (vE 5)))
   (aAq 3 (vE 5)))))
   dR))))
 (aQ (ifS (bT (ltE (vE 4) (cE (.int 0))))
  (jB 3 (bO (aHl 1 [qT (vE 4),vE 3,cC (fN (vE 2)) 1 [] (.nm 0) (bE (cC (fN (vE 0)) 1 [] (.nm 0) (bE (qT (vE 0)))))])))
  dR)
 (jB 2 (jB 3 (bO (aHl 1 [vE 4,vE 3,vE 2])))))))))
def jZ:Φ:=bS 2 8 aA5
theorem mZ (B:Blt mg)(XT:XAll K mg T)(O1:OC K 1)(U1:sF Pg w K mg base 1 1)(hk:2<=k)(uC:aD Pg w K mg base (CXM Pg w) k "swept" ["rows","top","way","bottom"] (spM K (clK K) nY))(F:aS K mg "cleared" jV ["many","rows"]):aD Pg w K mg base (CXM Pg w) (k+1) "cleared" ["many","rows"] (spM K (clK K) jZ):=by
 have nd:=pT.nd;refine bG F pT fun f cdv A outer s H E hr=>?_
 have hu:=hr.units
 exact(aC (aW (i:=2) nd rfl (Or.inr rfl) (cJ rfl (aT (XN:=["many","rows","lines","heads","bottom","way","top","found"]) (N:=["row"]) (k:=1) (fs:=[]) rfl rfl rfl (by decide +kernel)) (cI (m_v 1)) (fun _ _ _=>(bA (show (["row"]:List Str).Nodup by decide +kernel) rfl (Or.inl rfl))) (eJ rfl) (fun _ _ _=>cF (aIk rfl B.list_ (m_v 0)))))
  (aC (aW (i:=3) nd rfl (Or.inl rfl) (bN aB))
  (aC (aW (i:=4) nd rfl (Or.inl rfl) aL)
  (aC (eF dO rfl (gK rfl B.range_ (m_v 0)) (bA nd rfl (Or.inr rfl))
   (aC (aW (i:=6) nd rfl (Or.inl rfl) (fS rfl B.len_ (m_v 3)))
   (aC (oN (i:=7) rfl nd rfl rfl (aT (XN:=["many","rows","lines","heads","bottom","way","top","found"]) (N:=["place","way","lines"]) (k:=1) (fs:=[5,2]) rfl rfl rfl (by decide +kernel)) (tP rfl B.range_ (m_v 6) (fS rfl B.len_ (m_v 2))) (fun _ _ _=>(bA (show (["place","way","lines"]:List Str).Nodup by decide +kernel) rfl (Or.inl rfl))) (eJ rfl) (fun _ _ _=>zE (jH hu (cA (cA (m_v 2) (m_v 0)) (m_v 1)) aL) (m_v 0)))
   (aJ (dF (uF (m_v 7))
    (aC (aW (i:=2) nd rfl (Or.inr rfl) (kL (kL (kL (pM (m_v 2) jE (gX (m_v 6))) (bN (aA (cA (m_v 2) (cA (m_v 7) aL)) aB))) (pM (m_v 2) (gX (m_v 6)) (gX (cA (m_v 7) aL)))) (pM (m_v 2) (gX (fU (cA (m_v 7) aL) aL)) jE)))
    (aC (fA (i:=2) (aW (i:=2) nd rfl (Or.inr rfl) (aP uC hr rfl bQ (aA (m_v 2) (aA (m_v 6) (aA (m_v 5) (aA (m_v 4) aB)))))))
    (aC (aW (i:=4) nd rfl (Or.inl rfl) (cA (cA (m_v 2) (m_v 6)) (m_v 5)))
    (aJ (aAd (i:=3) rfl (Or.inl rfl) (m_v 5))))))
    cS)))))
  (aC (dF (rE (m_v 4) aL)
   (aJ (fA (i:=3) (bK (aDx (c:=1) U1 (hr.mono hk) rfl (aA (nK (m_v 4)) (aA (m_v 3) (aA (cJ rfl (aT (XN:=["many","rows","lines","heads","bottom","way","top","found"]) (N:=["line"]) (k:=1) (fs:=[]) rfl rfl rfl (by decide +kernel)) (cI (m_v 2)) (fun _ _ _=>(bA (show (["line"]:List Str).Nodup by decide +kernel) rfl (Or.inl rfl))) (eJ rfl) (fun _ _ _=>cF (cJ rfl (mV (N:=["number"]) (k:=1) (fs:=[]) (aT (XN:=["many","rows","lines","heads","bottom","way","top","found"]) (N:=["line"]) (k:=1) (fs:=[]) rfl rfl rfl (by decide +kernel)) (by decide +kernel)) (cI (m_v 0)) (fun _ _ _=>(bA (show (["number"]:List Str).Nodup by decide +kernel) rfl (Or.inl rfl))) (eJ rfl) (fun _ _ _=>cF (nK (m_v 0)))))) aB)))))))
   cS)
  (aJ (fA (i:=2) (fA (i:=3) (bK (aDx (c:=1) U1 (hr.mono hk) rfl (aA (m_v 4) (aA (m_v 3) (aA (m_v 2) aB)))))))))))))
abbrev sM:Stmt:=top 31
theorem aAj:FnScope ["one","other"] ["one","other"] (aF sM):=⟨rfl,rfl,rfl,by decide +kernel,rfl,by decide +kernel,by decide +kernel⟩
def aJr:FS :=
 (bO (cC (fN (aK gD [vE 0,vE 1])) 2 [] (.tp [.nm 0,.nm 1]) (bE (pE (vE 0) (vE 1)))))
def nF:Φ:=bS 2 2 aJr
theorem oY (B:Blt mg)(XT:XAll K mg T)(iD:aD Pg w K mg base (CXM Pg w) k "pairs" ["one","other"] (spM K (clK K) gD))(F:aS K mg "less" sM ["one","other"]):aD Pg w K mg base (CXM Pg w) (k+1) "less" ["one","other"] (spM K (clK K) nF):=by
 have nd:=aAj.nd;refine bG F aAj fun f cdv A outer s H E hr=>?_
 have hu:=hr.units;exact(aJ (bK (cJ rfl (aT (XN:=["one","other"]) (N:=["left","right"]) (k:=2) (fs:=[]) rfl rfl rfl (by decide +kernel)) (cI (aP iD hr rfl bQ (aA (m_v 0) (aA (m_v 1) aB)))) (fun _ _ _=>(fB rfl (aY (bA (show (["left","right"]:List Str).Nodup by decide +kernel) rfl (Or.inl rfl)) (aY (bA (show (["left","right"]:List Str).Nodup by decide +kernel) rfl (Or.inl rfl)) cK)))) (eJ rfl) (fun _ _ _=>cF (lJ (m_v 0) (m_v 1))))))
abbrev oJ:Stmt:=top 32
theorem vO:FnScope ["row","many"] ["row","many"] (aF oJ):=⟨rfl,rfl,rfl,by decide +kernel,rfl,by decide +kernel,by decide +kernel⟩
def aGc:FS :=
 (bO (cC (fN (vE 0)) 1 [1] (.nm 0) (bE (gC (vE 0) (vE 1)))))
def fD:Φ:=bS 2 2 aGc
theorem gN (B:Blt mg)(XT:XAll K mg T)  (F:aS K mg "times" oJ ["row","many"]):aD Pg w K mg base (CXM Pg w) (k+1) "times" ["row","many"] (spM K (clK K) fD):=by
 have nd:=vO.nd;refine bG F vO fun f cdv A outer s H E hr=>?_
 have hu:=hr.units;exact(aJ (bK (cJ rfl (aT (XN:=["row","many"]) (N:=["number","many"]) (k:=1) (fs:=[1]) rfl rfl rfl (by decide +kernel)) (cI (m_v 0)) (fun _ _ _=>(bA (show (["number","many"]:List Str).Nodup by decide +kernel) rfl (Or.inl rfl))) (eJ rfl) (fun _ _ _=>cF (eB (m_v 0) (m_v 1))))))
abbrev jR:Stmt:=top 33
theorem oQ:FnScope ["one","other"] ["one","other"] (aF jR):=⟨rfl,rfl,rfl,by decide +kernel,rfl,by decide +kernel,by decide +kernel⟩
def aCb:FS :=
 (bO (aNe (cC (fN (aK gD [vE 0,vE 1])) 2 [] (.tp [.nm 0,.nm 1]) (bE (gC (vE 0) (vE 1))))))
def jW:Φ:=bS 2 2 aCb
theorem mP (B:Blt mg)(XT:XAll K mg T)(iD:aD Pg w K mg base (CXM Pg w) k "pairs" ["one","other"] (spM K (clK K) gD))(F:aS K mg "weighed" jR ["one","other"]):aD Pg w K mg base (CXM Pg w) (k+1) "weighed" ["one","other"] (spM K (clK K) jW):=by
 have nd:=oQ.nd;refine bG F oQ fun f cdv A outer s H E hr=>?_
 have hu:=hr.units;exact(aJ (bK (aMk rfl rfl B.sum_ (cJ rfl (aT (XN:=["one","other"]) (N:=["left","right"]) (k:=2) (fs:=[]) rfl rfl rfl (by decide +kernel)) (cI (aP iD hr rfl bQ (aA (m_v 0) (aA (m_v 1) aB)))) (fun _ _ _=>(fB rfl (aY (bA (show (["left","right"]:List Str).Nodup by decide +kernel) rfl (Or.inl rfl)) (aY (bA (show (["left","right"]:List Str).Nodup by decide +kernel) rfl (Or.inl rfl)) cK)))) (eJ rfl) (fun _ _ _=>cF (eB (m_v 0) (m_v 1)))))))
abbrev iF:Stmt:=top 36
theorem nL:FnScope ["shares","weights","whole","told","least","maker","share","weight","found","common"] ["shares","weights","whole"] (aF iF):=⟨rfl,rfl,rfl,by decide +kernel,rfl,by decide +kernel,by decide +kernel⟩
def xD:FS :=
 (aQ (bB 3 (bH []))
 (aQ (bB 4 (vE 2))
 (aQ (bB 5 (aHd (bH [cE (.int 0)]) (hJ (vE 1))))
 (aQ (jB 0 (fV (aGs (vE 0)) (.nm 6)
  (aQ (bB 7 (iP (aK jW [vE 6,vE 1]) (vE 2)))
  (aQ (bB 8 (aK lR [vE 7,vE 4]))
  (aQ (bB 9 (cO (vE 8) (cE (.int 0))))
  (aQ (bB 3 (pU (bH [aK nF [aK fD [vE 6,lX (vE 4) (vE 9)],aK fD [vE 5,lX (vE 7) (vE 9)]]]) (vE 3)))
  (aQ (jB 5 (jB 6 (bB 5 (aK kA [hJ (vE 1),sX (vE 8) (soO (cE (.int 1))) (noO),bH [vE 6,vE 5]]))))
  (bB 4 (vE 9)))))))))
 (bO (vE 3))))))
def iG:Φ:=bS 3 10 xD
theorem kY (B:Blt mg)(XT:XAll K mg T)(mP:aD Pg w K mg base (CXM Pg w) k "weighed" ["one","other"] (spM K (clK K) jW))(qE:aD Pg w K mg base (CXM Pg w) k "bezout" ["one","other"] (spM K (clK K) lR))(oY:aD Pg w K mg base (CXM Pg w) k "less" ["one","other"] (spM K (clK K) nF))(gN:aD Pg w K mg base (CXM Pg w) k "times" ["row","many"] (spM K (clK K) fD))(mF:aD Pg w K mg base (CXM Pg w) k "mixed" ["width","often","rows"] (spM K (clK K) kA))(F:aS K mg "narrowed" iF ["shares","weights","whole"]):aD Pg w K mg base (CXM Pg w) (k+1) "narrowed" ["shares","weights","whole"] (spM K (clK K) iG):=by
 have nd:=nL.nd;refine bG F nL fun f cdv A outer s H E hr=>?_
 have hu:=hr.units
 exact(aC (aW (i:=3) nd rfl (Or.inl rfl) (bN aB))
  (aC (aW (i:=4) nd rfl (Or.inl rfl) (m_v 2))
  (aC (aW (i:=5) nd rfl (Or.inl rfl) (aEv (bN (aA aL aB)) (fS rfl B.len_ (m_v 1))))
  (aC (fA (i:=0) (eF dO rfl (aJa rfl B.reversed_ (m_v 0)) (bA nd rfl (Or.inl rfl))
   (aC (aW (i:=7) nd rfl (Or.inl rfl) (lV (aP mP hr rfl bQ (aA (m_v 6) (aA (m_v 1) aB))) (m_v 2)))
   (aC (aW (i:=8) nd rfl (Or.inl rfl) (aP qE hr rfl bQ (aA (m_v 7) (aA (m_v 4) aB))))
   (aC (aW (i:=9) nd rfl (Or.inl rfl) (cA (m_v 8) aL))
   (aC (aW (i:=3) nd rfl (Or.inl rfl) (kL (bN (aA (aP oY hr rfl bQ (aA (aP gN hr rfl bQ (aA (m_v 6) (aA (lH (m_v 4) (m_v 9)) aB))) (aA (aP gN hr rfl bQ (aA (m_v 5) (aA (lH (m_v 7) (m_v 9)) aB))) aB))) aB)) (m_v 3)))
   (aC (fA (i:=5) (fA (i:=6) (aW (i:=5) nd rfl (Or.inl rfl) (aP mF hr rfl bQ (aA (fS rfl B.len_ (m_v 1)) (aA (pM (m_v 8) (gX aL) jE) (aA (bN (aA (m_v 6) (aA (m_v 5) aB))) aB)))))))
   (aJ (aW (i:=4) nd rfl (Or.inl rfl) (m_v 9))))))))))
  (aJ (bK (m_v 3)))))))
abbrev lQ:Stmt:=top 37
theorem rS:FnScope ["shares","told","place","way","often"] ["shares"] (aF lQ):=⟨rfl,rfl,rfl,by decide +kernel,rfl,by decide +kernel,by decide +kernel⟩
def aDt:FS :=
 (aQ (bB 1 (aLp (vE 0)))
 (aQ (fV (aFv (pE (hJ (vE 0)) (cE (.int 1))) (qT (cE (.int 1))) (qT (cE (.int 1)))) (.nm 2)
  (fV (zV (fC (vE 2) (cE (.int 1))) (hJ (vE 0))) (.nm 3)
   (aQ (bB 4 (lX (cO (cO (vE 1) (vE 2)) (vE 3)) (cO (cO (vE 1) (vE 3)) (vE 3))))
   (aLw 1 (vE 2) (aK nF [cO (vE 1) (vE 2),aK fD [cO (vE 1) (vE 3),vE 4]])))))
 (bO (vE 1))))
def lT:Φ:=bS 1 5 aDt
theorem pB (B:Blt mg)(XT:XAll K mg T)(oY:aD Pg w K mg base (CXM Pg w) k "less" ["one","other"] (spM K (clK K) nF))(gN:aD Pg w K mg base (CXM Pg w) k "times" ["row","many"] (spM K (clK K) fD))(F:aS K mg "tidied" lQ ["shares"]):aD Pg w K mg base (CXM Pg w) (k+1) "tidied" ["shares"] (spM K (clK K) lT):=by
 have nd:=rS.nd;refine bG F rS fun f cdv A outer s H E hr=>?_
 have hu:=hr.units
 exact(aC (aW (i:=1) nd rfl (Or.inl rfl) (aIk rfl B.list_ (m_v 0)))
  (aC (eF dO rfl (aK0 rfl B.range_ (lJ (fS rfl B.len_ (m_v 0)) aL) (nK aL) (nK aL)) (bA nd rfl (Or.inl rfl))
   (aJ (eF dO rfl (tP rfl B.range_ (fU (m_v 2) aL) (fS rfl B.len_ (m_v 0))) (bA nd rfl (Or.inl rfl))
    (aC (aW (i:=4) nd rfl (Or.inl rfl) (lH (cA (cA (m_v 1) (m_v 2)) (m_v 3)) (cA (cA (m_v 1) (m_v 3)) (m_v 3))))
    (aJ (aMn (i:=1) rfl (Or.inl rfl) (m_v 2) (aP oY hr rfl bQ (aA (cA (m_v 1) (m_v 2)) (aA (aP gN hr rfl bQ (aA (cA (m_v 1) (m_v 3)) (aA (m_v 4) aB))) aB)))))))))
  (aJ (bK (m_v 1)))))
abbrev cQ:Stmt:=top 38
theorem eZ:FnScope ["many","found","lines","shares","way"] ["many","found"] (aF cQ):=⟨rfl,rfl,rfl,by decide +kernel,rfl,by decide +kernel,by decide +kernel⟩
def kW:FS :=
 (aQ (bB 2 (cC (fN (sX (aBt 1 2 (vE 1)) (noO) (soO (hJ (aBt 1 1 (vE 1)))))) 1 [0] (.nm 0) (bE (sX (vE 0) (noO) (soO (vE 1))))))
 (aQ (bB 3 (aK oF [hJ (vE 2)]))
 (aQ (fV (iM (vE 0)) (.nm 4)
  (ifS (bT (inE true (vE 4) (aBt 1 1 (vE 1))))
   (bB 3 (aK lT [aK iG [vE 3,cC (fN (vE 2)) 1 [4] (.nm 0) (bE (cO (vE 0) (vE 1))),aBt 1 0 (vE 1)]]))
   dR))
 (bO (cC (fN (vE 3)) 1 [1,0,2] (.nm 0) (bE (cC (fN (aK kA [vE 2,vE 0,vE 3])) 1 [1] (.nm 0) (bE (lX (vE 0) (aBt 1 0 (vE 1)))))))))))
def cP:Φ:=bS 2 5 kW
theorem dN (B:Blt mg)(XT:XAll K mg T)(O1:OC K 1)  (uK:aD Pg w K mg base (CXM Pg w) k "units" ["many"] (spM K (clK K) oF))(pB:aD Pg w K mg base (CXM Pg w) k "tidied" ["shares"] (spM K (clK K) lT))(kY:aD Pg w K mg base (CXM Pg w) k "narrowed" ["shares","weights","whole"] (spM K (clK K) iG))(mF:aD Pg w K mg base (CXM Pg w) k "mixed" ["width","often","rows"] (spM K (clK K) kA))(F:aS K mg "frame_of_cleared" cQ ["many","found"]):aD Pg w K mg base (CXM Pg w) (k+1) "frame_of_cleared" ["many","found"] (spM K (clK K) cP):=by
 have nd:=eZ.nd;refine bG F eZ fun f cdv A outer s H E hr=>?_
 have hu:=hr.units
 exact(aC (aW (i:=2) nd rfl (Or.inr rfl) (cJ rfl (aT (XN:=["many","found","lines","shares","way"]) (N:=["line","many"]) (k:=1) (fs:=[0]) rfl rfl rfl (by decide +kernel)) (cI (pM (wD (c:=1) (i:=2) O1 (m_v 1)) jE (gX (fS rfl B.len_ (wD (c:=1) (i:=1) O1 (m_v 1)))))) (fun _ _ _=>(bA (show (["line","many"]:List Str).Nodup by decide +kernel) rfl (Or.inl rfl))) (eJ rfl) (fun _ _ _=>cF (pM (m_v 0) jE (gX (m_v 1))))))
  (aC (aW (i:=3) nd rfl (Or.inl rfl) (aP uK hr rfl bQ (aA (fS rfl B.len_ (m_v 2)) aB)))
  (aC (eF dO rfl (gK rfl B.range_ (m_v 0)) (bA nd rfl (Or.inr rfl))
   (aJ (dF (aJy (m_v 4) (wD (c:=1) (i:=1) O1 (m_v 1)))
    (aJ (aW (i:=3) nd rfl (Or.inl rfl) (aP pB hr rfl bQ (aA (aP kY hr rfl bQ (aA (m_v 3) (aA (cJ rfl (aT (XN:=["many","found","lines","shares","way"]) (N:=["line","way"]) (k:=1) (fs:=[4]) rfl rfl rfl (by decide +kernel)) (cI (m_v 2)) (fun _ _ _=>(bA (show (["line","way"]:List Str).Nodup by decide +kernel) rfl (Or.inl rfl))) (eJ rfl) (fun _ _ _=>cF (cA (m_v 0) (m_v 1)))) (aA (wD (c:=1) (i:=0) O1 (m_v 1)) aB)))) aB))))
    cS)))
  (aJ (bK (cJ rfl (aT (XN:=["many","found","lines","shares","way"]) (N:=["share","found","many","lines"]) (k:=1) (fs:=[1,0,2]) rfl rfl rfl (by decide +kernel)) (cI (m_v 3)) (fun _ _ _=>(bA (show (["share","found","many","lines"]:List Str).Nodup by decide +kernel) rfl (Or.inl rfl))) (eJ rfl) (fun _ _ _=>cF (cJ rfl (mV (N:=["number","found"]) (k:=1) (fs:=[1]) (aT (XN:=["many","found","lines","shares","way"]) (N:=["share","found","many","lines"]) (k:=1) (fs:=[1,0,2]) rfl rfl rfl (by decide +kernel)) (by decide +kernel)) (cI (aP mF hr rfl aMw (aA (m_v 2) (aA (m_v 0) (aA (m_v 3) aB))))) (fun _ _ _=>(bA (show (["number","found"]:List Str).Nodup by decide +kernel) rfl (Or.inl rfl))) (eJ rfl) (fun _ _ _=>cF (lH (m_v 0) (wD (c:=1) (i:=0) O1 (m_v 1))))))))))))
abbrev iL:Stmt:=top 39
theorem nG:FnScope ["many","rows"] ["many","rows"] (aF iL):=⟨rfl,rfl,rfl,by decide +kernel,rfl,by decide +kernel,by decide +kernel⟩
def xX:FS :=
 (bO (aK cP [vE 0,aK jZ [vE 0,vE 1]]))
def eI:Φ:=bS 2 2 xX
theorem fP (B:Blt mg)(XT:XAll K mg T)(dN:aD Pg w K mg base (CXM Pg w) k "frame_of_cleared" ["many","found"] (spM K (clK K) cP))(mZ:aD Pg w K mg base (CXM Pg w) k "cleared" ["many","rows"] (spM K (clK K) jZ))(F:aS K mg "frame_of" iL ["many","rows"]):aD Pg w K mg base (CXM Pg w) (k+1) "frame_of" ["many","rows"] (spM K (clK K) eI):=by
 have nd:=nG.nd;refine bG F nG fun f cdv A outer s H E hr=>?_
 have hu:=hr.units;exact(aJ (bK (aP dN hr rfl bQ (aA (m_v 0) (aA (aP mZ hr rfl bQ (aA (m_v 0) (aA (m_v 1) aB))) aB)))))
abbrev jQ:Stmt:=top 40
theorem pG:FnScope ["many","rows"] ["many","rows"] (aF jQ):=⟨rfl,rfl,rfl,by decide +kernel,rfl,by decide +kernel,by decide +kernel⟩
def aBx:FS :=
 (aQ (dQ (aK dB [vE 0,vE 1]))
 (bO (aHl 0 [vE 0,aK eI [vE 0,vE 1]])))
def jP:Φ:=bS 2 2 aBx
theorem mY (B:Blt mg)(XT:XAll K mg T)(O0:OC K 0)(U0:sF Pg w K mg base 1 0)(hk:2<=k)(dU:aD Pg w K mg base (CXM Pg w) k "check_rows" ["many","rows"] (spM K (clK K) dB))(fP:aD Pg w K mg base (CXM Pg w) k "frame_of" ["many","rows"] (spM K (clK K) eI))(F:aS K mg "flat_of" jQ ["many","rows"]):aD Pg w K mg base (CXM Pg w) (k+1) "flat_of" ["many","rows"] (spM K (clK K) jP):=by
 have nd:=pG.nd;refine bG F pG fun f cdv A outer s H E hr=>?_
 have hu:=hr.units
 exact(aC (fT (aP dU hr rfl bQ (aA (m_v 0) (aA (m_v 1) aB))))
  (aJ (bK (aDx (c:=0) U0 (hr.mono hk) rfl (aA (m_v 0) (aA (aP fP hr rfl bQ (aA (m_v 0) (aA (m_v 1) aB))) aB))))))
abbrev jO:Stmt:=top 42
theorem pR:FnScope ["places","exchanges","place","number"] ["places"] (aF jO):=⟨rfl,rfl,rfl,by decide +kernel,rfl,by decide +kernel,by decide +kernel⟩
def aBl:FS :=
 (aQ (ifS (bT (ltE (aH6 (vE 0)) (hJ (vE 0))))
  (bO (cE (.int 0)))
  dR)
 (aQ (bB 1 (cE (.int 0)))
 (aQ (fV (aCk (vE 0)) (.tp [.nm 2,.nm 3])
  (xB 1 (fun m n=>m+n) (hJ (cC (aJg (aCo (vE 0) (noO) (soO (vE 2)))) 1 [3] (.nm 0) (Mir.bIf (bT (gtE (vE 0) (vE 1))) (vE 0))))))
 (bO (pE (cE (.int 1)) (gC (cE (.int 2)) (iP (vE 1) (cE (.int 2)))))))))
def fL:Φ:=bS 1 4 aBl
theorem hG (B:Blt mg)(XT:XAll K mg T)  (F:aS K mg "turn_of" jO ["places"]):aD Pg w K mg base (CXM Pg w) (k+1) "turn_of" ["places"] (spM K (clK K) fL):=by
 have nd:=pR.nd;refine bG F pR fun f cdv A outer s H E hr=>?_
 have hu:=hr.units
 exact(aC (dF (rE (aJ4 rfl rfl B.len_ rfl B.set_ (m_v 0)) (fS rfl B.len_ (m_v 0)))
  (aJ (bK aL))
  cS)
  (aC (aW (i:=1) nd rfl (Or.inl rfl) aL)
  (aC (eF dO rfl (yZ rfl B.enumerate_ (m_v 0)) (fB rfl (aY (bA nd rfl (Or.inl rfl)) (aY (bA nd rfl (Or.inr rfl)) cK)))
   (aJ (aDy (i:=1) nd rfl (Or.inl rfl) (fS rfl B.len_ (cJ rfl (aT (XN:=["places","exchanges","place","number"]) (N:=["before","number"]) (k:=1) (fs:=[3]) rfl rfl rfl (by decide +kernel)) (aKv (aK3 (m_v 0) jE (gX (m_v 2)))) (fun _ _ _=>(bA (show (["before","number"]:List Str).Nodup by decide +kernel) rfl (Or.inl rfl))) (eJ rfl) (fun _ _ _=>zE (zF (m_v 0) (m_v 1)) (m_v 0)))))))
  (aJ (bK (lJ aL (eB aL (lV (m_v 1) aL))))))))
abbrev lD:Stmt:=top 43
theorem rK:FnScope ["terms","numbers","places","number","key"] ["terms"] (aF lD):=⟨rfl,rfl,rfl,by decide +kernel,rfl,by decide +kernel,by decide +kernel⟩
def aFa:FS :=
 (aQ (bB 1 (aIn))
 (aQ (jB 0 (fV (fN (vE 0)) (.tp [.nm 2,.nm 3])
  (aQ (bB 4 (aLh (aCq (vE 2))))
  (aCx 1 (vE 4) (fC (aHz (vE 1) (vE 4) (cE (.int 0))) (gC (aK fL [vE 2]) (vE 3)))))))
 (bO (cC (fN (aIc (vE 1))) 1 [1] (.nm 0) (Mir.bIf (bT (neE (zL (vE 1) (vE 0)) (cE (.int 0)))) (jM [vE 0,zL (vE 1) (vE 0)]))))))
def eV:Φ:=bS 1 5 aFa
theorem gB (B:Blt mg)(XT:XAll K mg T)(hG:aD Pg w K mg base (CXM Pg w) k "turn_of" ["places"] (spM K (clK K) fL))(F:aS K mg "summed" lD ["terms"]):aD Pg w K mg base (CXM Pg w) (k+1) "summed" ["terms"] (spM K (clK K) eV):=by
 have nd:=rK.nd;refine bG F rK fun f cdv A outer s H E hr=>?_
 have hu:=hr.units
 exact(aC (aW (i:=1) nd rfl (Or.inr rfl) aJ0)
  (aC (fA (i:=0) (eF dO rfl (cI (m_v 0)) (fB rfl (aY (bA nd rfl (Or.inl rfl)) (aY (bA nd rfl (Or.inl rfl)) cK)))
   (aC (aW (i:=4) nd rfl (Or.inl rfl) (aIo rfl B.tuple_ (aDz rfl B.sorted_ (m_v 2))))
   (aJ (aKx (i:=1) hu rfl (Or.inr (Or.inl rfl)) (m_v 4) (fU (aIz hu (m_v 1) (m_v 4) aL) (eB (aP hG hr rfl bQ (aA (m_v 2) aB)) (m_v 3))))))))
  (aJ (bK (cJ rfl (aT (XN:=["terms","numbers","places","number","key"]) (N:=["key","numbers"]) (k:=1) (fs:=[1]) rfl rfl rfl (by decide +kernel)) (cI (aLt rfl rfl B.sorted_ (m_v 1))) (fun _ _ _=>(bA (show (["key","numbers"]:List Str).Nodup by decide +kernel) rfl (Or.inl rfl))) (eJ rfl) (fun _ _ _=>zE (jH hu (xI hu (m_v 1) (m_v 0)) aL) (hZ (aA (m_v 0) (aA (xI hu (m_v 1) (m_v 0)) aB)))))))))
abbrev nW:Stmt:=top 44
theorem vQ:FnScope ["some","many"] ["some","many"] (aF nW):=⟨rfl,rfl,rfl,by decide +kernel,rfl,by decide +kernel,by decide +kernel⟩
def aGf:FS :=
 (bO (aK eV [cC (fN (vE 0)) 2 [1] (.tp [.nm 0,.nm 1]) (bE (jM [vE 0,gC (vE 1) (vE 2)]))]))
def oE:Φ:=bS 2 2 aGf
theorem tL (B:Blt mg)(XT:XAll K mg T)(gB:aD Pg w K mg base (CXM Pg w) k "summed" ["terms"] (spM K (clK K) eV))(F:aS K mg "taken" nW ["some","many"]):aD Pg w K mg base (CXM Pg w) (k+1) "taken" ["some","many"] (spM K (clK K) oE):=by
 have nd:=vQ.nd;refine bG F vQ fun f cdv A outer s H E hr=>?_
 have hu:=hr.units;exact(aJ (bK (aP gB hr rfl bQ (aA (cJ rfl (aT (XN:=["some","many"]) (N:=["places","number","many"]) (k:=2) (fs:=[1]) rfl rfl rfl (by decide +kernel)) (cI (m_v 0)) (fun _ _ _=>(fB rfl (aY (bA (show (["places","number","many"]:List Str).Nodup by decide +kernel) rfl (Or.inl rfl)) (aY (bA (show (["places","number","many"]:List Str).Nodup by decide +kernel) rfl (Or.inl rfl)) cK)))) (eJ rfl) (fun _ _ _=>cF (hZ (aA (m_v 0) (aA (eB (m_v 1) (m_v 2)) aB))))) aB))))
abbrev jN:Stmt:=top 45
theorem qA:FnScope ["one","other","terms","front","left"] ["one","other"] (aF jN):=⟨rfl,rfl,rfl,by decide +kernel,rfl,by decide +kernel,by decide +kernel⟩
def aBu:FS :=
 (aQ (bB 2 (bH []))
 (aQ (fV (fN (vE 0)) (.tp [.nm 3,.nm 4])
  (aGr 2 (cC (fN (vE 1)) 2 [3,4] (.tp [.nm 0,.nm 1]) (bE (jM [qD (vE 2) (vE 0),gC (vE 3) (vE 1)])))))
 (bO (aK eV [vE 2]))))
def jY:Φ:=bS 2 5 aBu
theorem mU (B:Blt mg)(XT:XAll K mg T)(gB:aD Pg w K mg base (CXM Pg w) k "summed" ["terms"] (spM K (clK K) eV))(F:aS K mg "product" jN ["one","other"]):aD Pg w K mg base (CXM Pg w) (k+1) "product" ["one","other"] (spM K (clK K) jY):=by
 have nd:=qA.nd;refine bG F qA fun f cdv A outer s H E hr=>?_
 have hu:=hr.units
 exact(aC (aW (i:=2) nd rfl (Or.inl rfl) (bN aB))
  (aC (eF dO rfl (cI (m_v 0)) (fB rfl (aY (bA nd rfl (Or.inr rfl)) (aY (bA nd rfl (Or.inr rfl)) cK)))
   (aJ (aIs (i:=2) rfl (Or.inl rfl) (cJ rfl (aT (XN:=["one","other","terms","front","left"]) (N:=["back","right","front","left"]) (k:=2) (fs:=[3,4]) rfl rfl rfl (by decide +kernel)) (cI (m_v 1)) (fun _ _ _=>(fB rfl (aY (bA (show (["back","right","front","left"]:List Str).Nodup by decide +kernel) rfl (Or.inl rfl)) (aY (bA (show (["back","right","front","left"]:List Str).Nodup by decide +kernel) rfl (Or.inl rfl)) cK)))) (eJ rfl) (fun _ _ _=>cF (hZ (aA (mX (m_v 2) (m_v 0)) (aA (eB (m_v 3) (m_v 1)) aB))))))))
  (aJ (bK (aP gB hr rfl bQ (aA (m_v 2) aB))))))
abbrev mJ:Stmt:=top 46
theorem rB:FnScope ["many","rows","told","row"] ["many","rows"] (aF mJ):=⟨rfl,rfl,rfl,by decide +kernel,rfl,by decide +kernel,by decide +kernel⟩
def aFe:FS :=
 (aQ (dQ (aK dB [vE 0,vE 1]))
 (aQ (bB 2 (bH [jM [jM [],cE (.int 1)]]))
 (aQ (fV (fN (vE 1)) (.nm 3)
  (bB 2 (aK jY [vE 2,aK eV [cC (aBn (vE 3)) 2 [] (.tp [.nm 0,.nm 1]) (bE (jM [jM [vE 0],vE 1]))]])))
 (bO (vE 2)))))
def mB:Φ:=bS 2 4 aFe
theorem pI (B:Blt mg)(XT:XAll K mg T)(dU:aD Pg w K mg base (CXM Pg w) k "check_rows" ["many","rows"] (spM K (clK K) dB))(mU:aD Pg w K mg base (CXM Pg w) k "product" ["one","other"] (spM K (clK K) jY))(gB:aD Pg w K mg base (CXM Pg w) k "summed" ["terms"] (spM K (clK K) eV))(F:aS K mg "box_of" mJ ["many","rows"]):aD Pg w K mg base (CXM Pg w) (k+1) "box_of" ["many","rows"] (spM K (clK K) mB):=by
 have nd:=rB.nd;refine bG F rB fun f cdv A outer s H E hr=>?_
 have hu:=hr.units
 exact(aC (fT (aP dU hr rfl bQ (aA (m_v 0) (aA (m_v 1) aB))))
  (aC (aW (i:=2) nd rfl (Or.inl rfl) (bN (aA (hZ (aA (hZ aB) (aA aL aB))) aB)))
  (aC (eF dO rfl (cI (m_v 1)) (bA nd rfl (Or.inl rfl))
   (aJ (aW (i:=2) nd rfl (Or.inl rfl) (aP mU hr rfl bQ (aA (m_v 2) (aA (aP gB hr rfl bQ (aA (cJ rfl (aT (XN:=["many","rows","told","row"]) (N:=["way","number"]) (k:=2) (fs:=[]) rfl rfl rfl (by decide +kernel)) (tD rfl B.enumerate_ (m_v 3)) (fun _ _ _=>(fB rfl (aY (bA (show (["way","number"]:List Str).Nodup by decide +kernel) rfl (Or.inl rfl)) (aY (bA (show (["way","number"]:List Str).Nodup by decide +kernel) rfl (Or.inl rfl)) cK)))) (eJ rfl) (fun _ _ _=>cF (hZ (aA (hZ (aA (m_v 0) aB)) (aA (m_v 1) aB))))) aB)) aB))))))
  (aJ (bK (m_v 2))))))
abbrev gG:Stmt:=top 48
theorem lM:FnScope ["many","size"] ["many","size"] (aF gG):=⟨rfl,rfl,rfl,by decide +kernel,rfl,by decide +kernel,by decide +kernel⟩
def jD:FS :=
 (aQ (dQ (aK cB [vE 0]))
 (dQ (aK dX [cE (.int 1),vE 0,vE 1])))
def dA:Φ:=bS 2 2 jD
theorem eS (B:Blt mg)(XT:XAll K mg T)(dH:aD Pg w K mg base (CXM Pg w) k "check_count" ["many"] (spM K (clK K) cB))(iJ:aD Pg w K mg base (CXM Pg w) k "check_size" ["least","most","size"] (spM K (clK K) dX))(F:aS K mg "check_sum" gG ["many","size"]):aD Pg w K mg base (CXM Pg w) (k+1) "check_sum" ["many","size"] (spM K (clK K) dA):=by
 have nd:=lM.nd;refine bG F lM fun f cdv A outer s H E hr=>?_
 have hu:=hr.units
 exact(aC (fT (aP dH hr rfl bQ (aA (m_v 0) aB)))
  (aJ (fT (aP iJ hr rfl bQ (aA aL (aA (m_v 0) (aA (m_v 1) aB)))))))
abbrev fH:Stmt:=top 49
theorem kG:FnScope ["numbers","places"] ["numbers","places"] (aF fH):=⟨rfl,rfl,rfl,by decide +kernel,rfl,by decide +kernel,by decide +kernel⟩
def tK:FS :=
 (bO (gC (aK fL [vE 1]) (aHz (vE 0) (aLh (aCq (vE 1))) (cE (.int 0)))))
def cV:Φ:=bS 2 2 tK
theorem dC (B:Blt mg)(XT:XAll K mg T)(hG:aD Pg w K mg base (CXM Pg w) k "turn_of" ["places"] (spM K (clK K) fL))(F:aS K mg "number_for" fH ["numbers","places"]):aD Pg w K mg base (CXM Pg w) (k+1) "number_for" ["numbers","places"] (spM K (clK K) cV):=by
 have nd:=kG.nd;refine bG F kG fun f cdv A outer s H E hr=>?_
 have hu:=hr.units;exact(aJ (bK (eB (aP hG hr rfl bQ (aA (m_v 1) aB)) (aIz hu (m_v 0) (aIo rfl B.tuple_ (aDz rfl B.sorted_ (m_v 1))) aL))))
abbrev dZ:Stmt:=top 50
theorem iN:FnScope ["many","numbers","places","told","place","front","back"] ["many","numbers","places"] (aF dZ):=⟨rfl,rfl,rfl,by decide +kernel,rfl,by decide +kernel,by decide +kernel⟩
def pQ:FS :=
 (aQ (bB 3 (bH []))
 (aQ (fV (iM (hJ (vE 2))) (.nm 4)
  (aQ (bB 5 (sC (vE 2) (noO) (soO (vE 4))))
  (aQ (bB 6 (sC (vE 2) (soO (fC (vE 4) (cE (.int 1)))) (noO)))
  (aAq 3 (cC (iM (vE 0)) 1 [1,6,5] (.nm 0) (bE (aK cV [vE 1,qD (qD (vE 3) (jM [vE 0])) (vE 2)])))))))
 (bO (vE 3))))
def dW:Φ:=bS 3 7 pQ
theorem fO (B:Blt mg)(XT:XAll K mg T)(dC:aD Pg w K mg base (CXM Pg w) k "number_for" ["numbers","places"] (spM K (clK K) cV))(F:aS K mg "leading_rows" dZ ["many","numbers","places"]):aD Pg w K mg base (CXM Pg w) (k+1) "leading_rows" ["many","numbers","places"] (spM K (clK K) dW):=by
 have nd:=iN.nd;refine bG F iN fun f cdv A outer s H E hr=>?_
 have hu:=hr.units
 exact(aC (aW (i:=3) nd rfl (Or.inl rfl) (bN aB))
  (aC (eF dO rfl (gK rfl B.range_ (fS rfl B.len_ (m_v 2))) (bA nd rfl (Or.inl rfl))
   (aC (aW (i:=5) nd rfl (Or.inr rfl) (tV (m_v 2) jE (gX (m_v 4))))
   (aC (aW (i:=6) nd rfl (Or.inr rfl) (tV (m_v 2) (gX (fU (m_v 4) aL)) jE))
   (aJ (aAd (i:=3) rfl (Or.inl rfl) (cJ rfl (aT (XN:=["many","numbers","places","told","place","front","back"]) (N:=["way","numbers","back","front"]) (k:=1) (fs:=[1,6,5]) rfl rfl rfl (by decide +kernel)) (gK rfl B.range_ (m_v 0)) (fun _ _ _=>(bA (show (["way","numbers","back","front"]:List Str).Nodup by decide +kernel) rfl (Or.inl rfl))) (eJ rfl) (fun _ _ _=>cF (aP dC hr rfl aMw (aA (m_v 1) (aA (mX (mX (m_v 3) (hZ (aA (m_v 0) aB))) (m_v 2)) aB))))))))))
  (aJ (bK (m_v 3)))))
abbrev jT:Stmt:=top 51
theorem pL:FnScope ["many","size","some","first","rows","whole","often"] ["many","size","some"] (aF jT):=⟨rfl,rfl,rfl,by decide +kernel,rfl,by decide +kernel,by decide +kernel⟩
def rZ:FS :=
 (aQ (dQ (aK dA [vE 0,vE 1]))
 (aQ (ifS (aI1 (aBh (vE 2)))
  (bO (cC (iM (vE 1)) 1 [0] (.nm 0) (bE (aHd (bH [cE (.int 0)]) (vE 1)))))
  dR)
 (aQ (bB 3 (cO (vE 2) (cE (.int 0))))
 (aQ (bB 4 (aK eI [vE 0,aK dW [vE 0,aFz (vE 2),cO (vE 3) (cE (.int 0))]]))
 (aQ (bB 5 (aK mB [vE 0,vE 4]))
 (aQ (bB 6 (lX (cO (vE 3) (cE (.int 1))) (zL (aFz (vE 5)) (cO (vE 3) (cE (.int 0))))))
 (aQ (ifS (bT (neE (aK oE [vE 5,vE 6]) (vE 2)))
  (bO (cE .non))
  dR)
 (bO (pU (bH [aK fD [cO (vE 4) (cE (.int 0)),vE 6]]) (sX (vE 4) (soO (cE (.int 1))) (noO)))))))))))
def cN:Φ:=bS 3 7 rZ
theorem gU (B:Blt mg)(XT:XAll K mg T)(eS:aD Pg w K mg base (CXM Pg w) k "check_sum" ["many","size"] (spM K (clK K) dA))(fP:aD Pg w K mg base (CXM Pg w) k "frame_of" ["many","rows"] (spM K (clK K) eI))(fO:aD Pg w K mg base (CXM Pg w) k "leading_rows" ["many","numbers","places"] (spM K (clK K) dW))(pI:aD Pg w K mg base (CXM Pg w) k "box_of" ["many","rows"] (spM K (clK K) mB))(tL:aD Pg w K mg base (CXM Pg w) k "taken" ["some","many"] (spM K (clK K) oE))(gN:aD Pg w K mg base (CXM Pg w) k "times" ["row","many"] (spM K (clK K) fD))(F:aS K mg "spanned" jT ["many","size","some"]):aD Pg w K mg base (CXM Pg w) (k+1) "spanned" ["many","size","some"] (spM K (clK K) cN):=by
 have nd:=pL.nd;refine bG F pL fun f cdv A outer s H E hr=>?_
 have hu:=hr.units
 exact(aC (fT (aP eS hr rfl bQ (aA (m_v 0) (aA (m_v 1) aB))))
  (aC (dF (aDf (uF (m_v 2)))
   (aJ (bK (cJ rfl (aT (XN:=["many","size","some","first","rows","whole","often"]) (N:=["place","many"]) (k:=1) (fs:=[0]) rfl rfl rfl (by decide +kernel)) (gK rfl B.range_ (m_v 1)) (fun _ _ _=>(bA (show (["place","many"]:List Str).Nodup by decide +kernel) rfl (Or.inl rfl))) (eJ rfl) (fun _ _ _=>cF (aEv (bN (aA aL aB)) (m_v 1))))))
   cS)
  (aC (aW (i:=3) nd rfl (Or.inl rfl) (cA (m_v 2) aL))
  (aC (aW (i:=4) nd rfl (Or.inl rfl) (aP fP hr rfl bQ (aA (m_v 0) (aA (aP fO hr rfl bQ (aA (m_v 0) (aA (aDb rfl hu rfl B.dict_ (m_v 2)) (aA (cA (m_v 3) aL) aB)))) aB))))
  (aC (aW (i:=5) nd rfl (Or.inl rfl) (aP pI hr rfl bQ (aA (m_v 0) (aA (m_v 4) aB))))
  (aC (aW (i:=6) nd rfl (Or.inl rfl) (lH (cA (m_v 3) aL) (xI hu (aDb rfl hu rfl B.dict_ (m_v 5)) (cA (m_v 3) aL))))
  (aC (dF (jH hu (aP tL hr rfl bQ (aA (m_v 5) (aA (m_v 6) aB))) (m_v 2))
   (aJ (bK aE7))
   cS)
  (aJ (bK (kL (bN (aA (aP gN hr rfl bQ (aA (cA (m_v 4) aL) (aA (m_v 6) aB))) aB)) (pM (m_v 4) (gX aL) jE)))))))))))
abbrev iI:Stmt:=top 52
theorem nJ:FnScope ["numbers","left","right","told","place","number","one","other"] ["numbers","left","right"] (aF iI):=⟨rfl,rfl,rfl,by decide +kernel,rfl,by decide +kernel,by decide +kernel⟩
def xY:FS :=
 (aQ (bB 3 (cE (.int 0)))
 (aQ (fV (aCk (vE 2)) (.tp [.nm 4,.nm 5])
  (aQ (bB 6 (aK cV [vE 0,qD (vE 1) (jM [vE 5])]))
  (aQ (bB 7 (aK cV [vE 0,qD (sC (vE 2) (noO) (soO (vE 4))) (sC (vE 2) (soO (fC (vE 4) (cE (.int 1)))) (noO))]))
  (xB 3 (fun m n=>m+n) (gC (gC (vE 6) (vE 7)) (pE (cE (.int 1)) (gC (cE (.int 2)) (iP (vE 4) (cE (.int 2))))))))))
 (bO (vE 3))))
def iC:Φ:=bS 3 8 xY
theorem kU (B:Blt mg)(XT:XAll K mg T)(dC:aD Pg w K mg base (CXM Pg w) k "number_for" ["numbers","places"] (spM K (clK K) cV))(F:aS K mg "rule_sum" iI ["numbers","left","right"]):aD Pg w K mg base (CXM Pg w) (k+1) "rule_sum" ["numbers","left","right"] (spM K (clK K) iC):=by
 have nd:=nJ.nd;refine bG F nJ fun f cdv A outer s H E hr=>?_
 have hu:=hr.units
 exact(aC (aW (i:=3) nd rfl (Or.inl rfl) aL)
  (aC (eF dO rfl (yZ rfl B.enumerate_ (m_v 2)) (fB rfl (aY (bA nd rfl (Or.inl rfl)) (aY (bA nd rfl (Or.inl rfl)) cK)))
   (aC (aW (i:=6) nd rfl (Or.inl rfl) (aP dC hr rfl bQ (aA (m_v 0) (aA (mX (m_v 1) (hZ (aA (m_v 5) aB))) aB))))
   (aC (aW (i:=7) nd rfl (Or.inl rfl) (aP dC hr rfl bQ (aA (m_v 0) (aA (mX (tV (m_v 2) jE (gX (m_v 4))) (tV (m_v 2) (gX (fU (m_v 4) aL)) jE)) aB))))
   (aJ (aDy (i:=3) nd rfl (Or.inl rfl) (eB (eB (m_v 6) (m_v 7)) (lJ aL (eB aL (lV (m_v 4) aL)))))))))
  (aJ (bK (m_v 3)))))
abbrev lY:Stmt:=top 53
theorem rX:FnScope ["many","size","some","numbers","left","right"] ["many","size","some"] (aF lY):=⟨rfl,rfl,rfl,by decide +kernel,rfl,by decide +kernel,by decide +kernel⟩
def wP:FS :=
 (aQ (dQ (aK dA [vE 0,vE 1]))
 (aQ (bB 3 (aFz (vE 2)))
 (aQ (fV (fN (aK eR [vE 0,pE (vE 1) (cE (.int 1))])) (.nm 4)
  (fV (fN (aK eR [vE 0,fC (vE 1) (cE (.int 1))])) (.nm 5)
   (ifS (bT (neE (aK iC [vE 3,vE 4,vE 5]) (cE (.int 0))))
    (bO (jM [vE 4,vE 5]))
    dR)))
 (bO (cE .non)))))
def eX:Φ:=bS 3 6 wP
theorem iV (B:Blt mg)(XT:XAll K mg T)(eS:aD Pg w K mg base (CXM Pg w) k "check_sum" ["many","size"] (spM K (clK K) dA))(gI:aD Pg w K mg base (CXM Pg w) k "places_of" ["many","size"] (spM K (clK K) eR))(kU:aD Pg w K mg base (CXM Pg w) k "rule_sum" ["numbers","left","right"] (spM K (clK K) iC))(F:aS K mg "broken" lY ["many","size","some"]):aD Pg w K mg base (CXM Pg w) (k+1) "broken" ["many","size","some"] (spM K (clK K) eX):=by
 have nd:=rX.nd;refine bG F rX fun f cdv A outer s H E hr=>?_
 have hu:=hr.units
 exact(aC (fT (aP eS hr rfl bQ (aA (m_v 0) (aA (m_v 1) aB))))
  (aC (aW (i:=3) nd rfl (Or.inl rfl) (aDb rfl hu rfl B.dict_ (m_v 2)))
  (aC (eF dO rfl (cI (aP gI hr rfl bQ (aA (m_v 0) (aA (lJ (m_v 1) aL) aB)))) (bA nd rfl (Or.inl rfl))
   (aJ (eF dO rfl (cI (aP gI hr rfl bQ (aA (m_v 0) (aA (fU (m_v 1) aL) aB)))) (bA nd rfl (Or.inl rfl))
    (aJ (dF (jH hu (aP kU hr rfl bQ (aA (m_v 3) (aA (m_v 4) (aA (m_v 5) aB)))) aL)
     (aJ (bK (hZ (aA (m_v 4) (aA (m_v 5) aB)))))
     cS)))))
  (aJ (bK aE7)))))
abbrev eM:Stmt:=top 55
theorem jL:FnScope ["many","size","some","rows","rule"] ["many","size","some"] (aF eM):=⟨rfl,rfl,rfl,by decide +kernel,rfl,by decide +kernel,by decide +kernel⟩
def dG:FS :=
 (aQ (bB 3 (aK cN [vE 0,vE 1,vE 2]))
 (aQ (ifS (aI1 (aBh (vE 2)))
  (iS .ZeroSum [cE (.str "the sum 0 is the box of many flats")])
  dR)
 (aQ (ifS (bT (aH0 (vE 3)))
  (aQ (bB 4 (aK eX [vE 0,vE 1,vE 2]))
  (aJs))
  dR)
 (bO (aK jP [vE 0,vE 3])))))
def bL:Φ:=bS 3 5 dG
theorem gT (B:Blt mg)(XT:XAll K mg T)(gU:aD Pg w K mg base (CXM Pg w) k "spanned" ["many","size","some"] (spM K (clK K) cN))(iV:aD Pg w K mg base (CXM Pg w) k "broken" ["many","size","some"] (spM K (clK K) eX))(mY:aD Pg w K mg base (CXM Pg w) k "flat_of" ["many","rows"] (spM K (clK K) jP))(F:aS K mg "flat_of_box" eM ["many","size","some"]):aD Pg w K mg base (CXM Pg w) (k+1) "flat_of_box" ["many","size","some"] (spM K (clK K) bL):=by
 have nd:=jL.nd;refine bG F jL fun f cdv A outer s H E hr=>?_
 have hu:=hr.units
 exact(aC (aW (i:=3) nd rfl (Or.inl rfl) (aP gU hr rfl bQ (aA (m_v 0) (aA (m_v 1) (aA (m_v 2) aB)))))
  (aC (dF (aDf (uF (m_v 2)))
   (aJ (nX (xc:=.ZeroSum) (XT.nm .ZeroSum) (XT.ex .ZeroSum (by decide) (by decide)) rfl rfl zX (aA cY aB)))
   cS)
  (aC (dF (aD5 (m_v 3))
   (aC (aW (i:=4) nd rfl (Or.inl rfl) (aP iV hr rfl bQ (aA (m_v 0) (aA (m_v 1) (aA (m_v 2) aB)))))
   (aJ aH4))
   cS)
  (aJ (bK (aP mY hr rfl bQ (aA (m_v 0) (aA (m_v 3) aB))))))))
abbrev eQ:Stmt:=top 57
theorem iY:FnScope ["_law_caught","_law_some","_law_names","_law_found"] ["_law_caught"] (aF eQ):=⟨rfl,rfl,rfl,by decide +kernel,rfl,by decide +kernel,by decide +kernel⟩
def qR:FS :=
 (aQ (ifS (bT (aH0 (vE 0)))
  (bO (bH []))
  dR)
 (aQ (bB 1 (bH [kB (some .NotAlike) (vE 0),kB (some .BadCount) (vE 0),kB (some .BadRow) (vE 0)]))
 (aQ (bB 1 (pU (vE 1) (bH [kB (some .OtherSpace) (vE 0),kB (some .BadSize) (vE 0),kB (some .BadPlaces) (vE 0)])))
 (aQ (bB 1 (pU (vE 1) (bH [kB (some .ZeroSum) (vE 0),kB (some .BadTable) (vE 0),kB (some .NoLine) (vE 0)])))
 (aQ (bB 1 (pU (vE 1) (bH [kB (some .BadName) (vE 0),kB (some .NoRow) (vE 0),kB (some .NoName) (vE 0)])))
 (aQ (bB 1 (pU (vE 1) (bH [kB (some .BadRows) (vE 0),kB (some .NoBox) (vE 0)])))
 (aQ (bB 2 (bH [cE (.str "alike"),cE (.str "count"),cE (.str "row"),cE (.str "space"),cE (.str "size"),cE (.str "places"),cE (.str "zero"),cE (.str "table"),cE (.str "line"),cE (.str "name"),cE (.str "norow")]))
 (aQ (bB 2 (pU (vE 2) (bH [cE (.str "noname"),cE (.str "rows"),cE (.str "box")])))
 (aQ (bB 3 (cC (aEs (vE 2) (vE 1)) 2 [] (.tp [.nm 0,.nm 1]) (Mir.bIf (bT (vE 1)) (vE 0))))
 (aQ (ifS (bT (kB none (vE 0)))
  (bO (vE 3))
  dR)
 (bO (bH [cE (.str "none")]))))))))))))
def bZ:Φ:=bS 1 4 qR
theorem gS (B:Blt mg)(XT:XAll K mg T)  (F:aS K mg "_law_called" eQ ["_law_caught"]):aD Pg w K mg base (CXM Pg w) (k+1) "_law_called" ["_law_caught"] (spM K (clK K) bZ):=by
 have nd:=iY.nd;refine bG F iY fun f cdv A outer s H E hr=>?_
 have hu:=hr.units;refine aC ?_ ?_
 · exact(dF (aD5 (m_v 0))
    (aJ (bK (bN aB)))
    cS)
 refine aC ?_ ?_
 · exact(aW (i:=1) nd rfl (Or.inl rfl) (bN (aA (fR (c:=some .NotAlike) XT.tab rfl B.isinstance_ (m_v 0) (cT rfl (XT.nm .NotAlike) rfl)) (aA (fR (c:=some .BadCount) XT.tab rfl B.isinstance_ (m_v 0) (cT rfl (XT.nm .BadCount) rfl)) (aA (fR (c:=some .BadRow) XT.tab rfl B.isinstance_ (m_v 0) (cT rfl (XT.nm .BadRow) rfl)) aB)))))
 refine aC ?_ ?_
 · exact(aW (i:=1) nd rfl (Or.inl rfl) (kL (m_v 1) (bN (aA (fR (c:=some .OtherSpace) XT.tab rfl B.isinstance_ (m_v 0) (cT rfl (XT.nm .OtherSpace) rfl)) (aA (fR (c:=some .BadSize) XT.tab rfl B.isinstance_ (m_v 0) (cT rfl (XT.nm .BadSize) rfl)) (aA (fR (c:=some .BadPlaces) XT.tab rfl B.isinstance_ (m_v 0) (cT rfl (XT.nm .BadPlaces) rfl)) aB))))))
 refine aC ?_ ?_
 · exact(aW (i:=1) nd rfl (Or.inl rfl) (kL (m_v 1) (bN (aA (fR (c:=some .ZeroSum) XT.tab rfl B.isinstance_ (m_v 0) (cT rfl (XT.nm .ZeroSum) rfl)) (aA (fR (c:=some .BadTable) XT.tab rfl B.isinstance_ (m_v 0) (cT rfl (XT.nm .BadTable) rfl)) (aA (fR (c:=some .NoLine) XT.tab rfl B.isinstance_ (m_v 0) (cT rfl (XT.nm .NoLine) rfl)) aB))))))
 refine aC ?_ ?_
 · exact(aW (i:=1) nd rfl (Or.inl rfl) (kL (m_v 1) (bN (aA (fR (c:=some .BadName) XT.tab rfl B.isinstance_ (m_v 0) (cT rfl (XT.nm .BadName) rfl)) (aA (fR (c:=some .NoRow) XT.tab rfl B.isinstance_ (m_v 0) (cT rfl (XT.nm .NoRow) rfl)) (aA (fR (c:=some .NoName) XT.tab rfl B.isinstance_ (m_v 0) (cT rfl (XT.nm .NoName) rfl)) aB))))))
 refine aC ?_ ?_
 · exact(aW (i:=1) nd rfl (Or.inl rfl) (kL (m_v 1) (bN (aA (fR (c:=some .BadRows) XT.tab rfl B.isinstance_ (m_v 0) (cT rfl (XT.nm .BadRows) rfl)) (aA (fR (c:=some .NoBox) XT.tab rfl B.isinstance_ (m_v 0) (cT rfl (XT.nm .NoBox) rfl)) aB)))))
 refine aC ?_ ?_
 · refine aW (i:=2) ?a ?b ?c ?d ?e ?f
   case a=>exact nd
   case b=>exact rfl
   case c=>exact(Or.inl rfl)
   case d=>exact(bN (aA cY (aA cY (aA cY (aA cY (aA cY (aA cY (aA cY (aA cY (aA cY (aA cY (aA cY aB))))))))))))
   case e=>rfl
   case f=>first | exact .inl rfl | exact .inr rfl | assumption
 refine aC ?_ ?_
 · exact(aW (i:=2) nd rfl (Or.inl rfl) (kL (m_v 2) (bN (aA cY (aA cY (aA cY aB))))))
 refine aC ?_ ?_
 · exact(oN (i:=3) rfl nd rfl rfl (aT (XN:=["_law_caught","_law_some","_law_names","_law_found"]) (N:=["_law_name","_law_truth"]) (k:=2) (fs:=[]) rfl rfl rfl (by decide +kernel)) (tM rfl rfl B.zip_ (m_v 2) (m_v 1)) (fun _ _ _=>(fB rfl (aY (bA (show (["_law_name","_law_truth"]:List Str).Nodup by decide +kernel) rfl (Or.inl rfl)) (aY (bA (show (["_law_name","_law_truth"]:List Str).Nodup by decide +kernel) rfl (Or.inl rfl)) cK)))) (eJ rfl) (fun _ _ _=>zE (aE8 (m_v 1)) (m_v 0)))
 refine aC ?_ ?_
 · exact(dF (aE8 (fR (c:=none) XT.tab rfl B.isinstance_ (m_v 0) (aGe (v:=.ty "ValueError") rfl B.ValueError_ (by decide +kernel) rfl)))
    (aJ (bK (m_v 3)))
    cS)
 refine aJ ?_
 exact(bK (bN (aA cY aB)))
abbrev gF:Stmt:=top 58
theorem lP:FnScope ["_law_script","_law_k"] ["_law_script","_law_k"] (aF gF):=⟨rfl,rfl,rfl,by decide +kernel,rfl,by decide +kernel,by decide +kernel⟩
def wK:FS :=
 (aQ (ifS (bT (ltE (vE 1) (hJ (vE 0))))
  (bO (iP (cO (vE 0) (vE 1)) (cE (.int 2147483647))))
  dR)
 (bO (cE (.int 0))))
def bU:Φ:=bS 2 2 wK
theorem eW (B:Blt mg)(XT:XAll K mg T)  (F:aS K mg "_law_cell" gF ["_law_script","_law_k"]):aD Pg w K mg base (CXM Pg w) (k+1) "_law_cell" ["_law_script","_law_k"] (spM K (clK K) bU):=by
 have nd:=lP.nd;refine bG F lP fun f cdv A outer s H E hr=>?_
 have hu:=hr.units
 exact(aC (dF (rE (m_v 1) (fS rfl B.len_ (m_v 0)))
  (aJ (bK (lV (cA (m_v 0) (m_v 1)) aL)))
  cS)
  (aJ (bK aL)))
abbrev fG:Stmt:=top 59
theorem kJ:FnScope ["_law_which","_law_many","_law_size","_law_some","_law_caught","e"] ["_law_which","_law_many","_law_size","_law_some"] (aF fG):=⟨rfl,rfl,rfl,by decide +kernel,rfl,by decide +kernel,by decide +kernel⟩
def tN:FS :=
 (aQ (bB 4 (cE .non))
 (aQ (wF 4 5
  (ifS (bT (eqE (vE 0) (cE (.int 0))))
   (dQ (aK cN [vE 1,vE 2,vE 3]))
   (ifS (bT (eqE (vE 0) (cE (.int 1))))
    (dQ (aK eX [vE 1,vE 2,vE 3]))
    (dQ (aK bL [vE 1,vE 2,vE 3])))))
 (bO (aK bZ [vE 4]))))
def aH:Φ:=bS 4 6 tN
theorem cG (B:Blt mg)(XT:XAll K mg T)(gU:aD Pg w K mg base (CXM Pg w) k "spanned" ["many","size","some"] (spM K (clK K) cN))(iV:aD Pg w K mg base (CXM Pg w) k "broken" ["many","size","some"] (spM K (clK K) eX))(gT:aD Pg w K mg base (CXM Pg w) k "flat_of_box" ["many","size","some"] (spM K (clK K) bL))(gS:aD Pg w K mg base (CXM Pg w) k "_law_called" ["_law_caught"] (spM K (clK K) bZ))(F:aS K mg "_law_flags" fG ["_law_which","_law_many","_law_size","_law_some"]):aD Pg w K mg base (CXM Pg w) (k+1) "_law_flags" ["_law_which","_law_many","_law_size","_law_some"] (spM K (clK K) aH):=by
 have nd:=kJ.nd;refine bG F kJ fun f cdv A outer s H E hr=>?_
 have hu:=hr.units
 exact(aC (aW (i:=4) nd rfl (Or.inl rfl) aE7)
  (aC (aNu (i:=4) (k:=5) rfl rfl rfl XT.top rfl XT.flat nd rfl rfl (by decide) rfl rfl rfl fun pn xe P thT paT =>
   (aJ (dF (zJ hu (m_v 0) aL)
    (aJ (fT (aP gU hr rfl thT (aA (m_v 1) (aA (m_v 2) (aA (m_v 3) aB))))))
    (aJ (dF (zJ hu (m_v 0) aL)
     (aJ (fT (aP iV hr rfl thT (aA (m_v 1) (aA (m_v 2) (aA (m_v 3) aB))))))
     (aJ (fT (aP gT hr rfl thT (aA (m_v 1) (aA (m_v 2) (aA (m_v 3) aB)))))))))))
  (aJ (bK (aP gS hr rfl bQ (aA (m_v 4) aB))))))
abbrev pD:Stmt:=top 60
theorem aDc:FnScope ["_law_script","_law_ways","_law_size","_law_cell_here","_law_count","_law_bad","_law_some","_law_which"] ["_law_script"] (aF pD):=⟨rfl,rfl,rfl,by decide +kernel,rfl,by decide +kernel,by decide +kernel⟩
def aIw:FS :=
 (aQ (bB 1 (fC (cE (.int 1)) (iP (aK bU [vE 0,cE (.int 0)]) (cE (.int 5)))))
 (aQ (bB 2 (fC (cE (.int 1)) (iP (aK bU [vE 0,cE (.int 1)]) (vE 1))))
 (aQ (bB 3 (aK bU [vE 0,cE (.int 2)]))
 (aQ (bB 4 (cO (bH [cE (.int 0),cE (.int 6),pE (qT (cE (.int 1))) (gC (vE 3) (tX (cE (.int 10)) (cE (.int 48)))),fC (cE (.int 6)) (gC (vE 3) (tX (cE (.int 10)) (cE (.int 48))))]) (iP (vE 3) (cE (.int 4)))))
 (aQ (bB 5 (cO (bH [cE (.int 0),fC (vE 1) (cE (.int 1)),pE (qT (cE (.int 1))) (gC (vE 3) (tX (cE (.int 10)) (cE (.int 48)))),fC (fC (vE 1) (cE (.int 1))) (gC (vE 3) (tX (cE (.int 10)) (cE (.int 48))))]) (iP (lX (vE 3) (cE (.int 4))) (cE (.int 4)))))
 (aQ (bB 6 (bH [jM [rP (vE 2),fC (cE (.int 1)) (iP (lX (vE 3) (cE (.int 16))) (cE (.int 9)))]]))
 (aQ (fV (iM (cE (.int 3))) (.nm 7)
  (aQ (ifS (orT (bT (neE (aK aH [vE 7,vE 4,vE 2,vE 6]) (bH [cE (.str "count")]))) (bT (neE (aK aH [vE 7,vE 4,vE 5,bH []]) (bH [cE (.str "count")]))))
   (bO (cE (.bl false)))
   dR)
  (ifS (orT (bT (neE (aK aH [vE 7,vE 1,vE 5,bH []]) (bH [cE (.str "size")]))) (bT (neE (aK aH [vE 7,vE 1,vE 2,vE 6]) (bH []))))
   (bO (cE (.bl false)))
   dR)))
 (bO (yC (eqE (aK aH [cE (.int 2),vE 1,vE 2,bH []]) (bH [cE (.str "zero")])) (eqE (aK aH [cE (.int 2),vE 1,vE 2,vE 6]) (bH [])))))))))))
def qX:Φ:=bS 1 8 aIw
theorem aNl (B:Blt mg)(XT:XAll K mg T)(eW:aD Pg w K mg base (CXM Pg w) k "_law_cell" ["_law_script","_law_k"] (spM K (clK K) bU))(cG:aD Pg w K mg base (CXM Pg w) k "_law_flags" ["_law_which","_law_many","_law_size","_law_some"] (spM K (clK K) aH)){fa:Addr}{fd:FuncData}(F:Fun K "law" "law" pD fa fd):FnOk Pg w K mg base (CXM Pg w) (k+1) fa fd ["_law_script"] (spM K (clK K) qX):=by
 have nd:=aDc.nd;refine aH9 F aDc fun f cdv A outer s H E hr=>?_
 have hu:=hr.units
 exact(aC (aW (i:=1) nd rfl (Or.inl rfl) (fU aL (lV (aP eW hr rfl bQ (aA (m_v 0) (aA aL aB))) aL)))
  (aC (aW (i:=2) nd rfl (Or.inl rfl) (fU aL (lV (aP eW hr rfl bQ (aA (m_v 0) (aA aL aB))) (m_v 1))))
  (aC (aW (i:=3) nd rfl (Or.inl rfl) (aP eW hr rfl bQ (aA (m_v 0) (aA aL aB))))
  (aC (aW (i:=4) nd rfl (Or.inl rfl) (cA (bN (aA aL (aA aL (aA (lJ (nK aL) (eB (m_v 3) (zS aL aL))) (aA (fU aL (eB (m_v 3) (zS aL aL))) aB))))) (lV (m_v 3) aL)))
  (aC (aW (i:=5) nd rfl (Or.inl rfl) (cA (bN (aA aL (aA (fU (m_v 1) aL) (aA (lJ (nK aL) (eB (m_v 3) (zS aL aL))) (aA (fU (fU (m_v 1) aL) (eB (m_v 3) (zS aL aL))) aB))))) (lV (lH (m_v 3) aL) aL)))
  (aC (aW (i:=6) nd rfl (Or.inl rfl) (bN (aA (hZ (aA (aJ8 rfl rfl B.tuple_ rfl B.range_ (m_v 2)) (aA (fU aL (lV (lH (m_v 3) aL) aL)) aB))) aB)))
  (aC (eF dO rfl (gK rfl B.range_ aL) (bA nd rfl (Or.inl rfl))
   (aC (dF (PW.pt (yY (jH hu (aP cG hr rfl bQ (aA (m_v 7) (aA (m_v 4) (aA (m_v 2) (aA (m_v 6) aB))))) (bN (aA cY aB))) (sW (jH hu (aP cG hr rfl bQ (aA (m_v 7) (aA (m_v 4) (aA (m_v 5) (aA (bN aB) aB))))) (bN (aA cY aB))))))
    (aJ (bK aMt))
    cS)
   (aJ (dF (PW.pt (yY (jH hu (aP cG hr rfl bQ (aA (m_v 7) (aA (m_v 1) (aA (m_v 5) (aA (bN aB) aB))))) (bN (aA cY aB))) (sW (jH hu (aP cG hr rfl bQ (aA (m_v 7) (aA (m_v 1) (aA (m_v 2) (aA (m_v 6) aB))))) (bN aB)))))
    (aJ (bK aMt))
    cS))))
  (aJ (bK (aNi (aMu hu (aP cG hr rfl bQ (aA aL (aA (m_v 1) (aA (m_v 2) (aA (bN aB) aB))))) (bN (aA cY aB))) (aMi (aMu hu (aP cG hr rfl bQ (aA aL (aA (m_v 1) (aA (m_v 2) (aA (m_v 6) aB))))) (bN aB)))))))))))))
end
theorem all_mk {l:PySem.W.OpenLaw}{w:World}{K:PySem.W.Frag}{h:Heap}{mg:Str->Option Value}{fa T:Addr}(X:K.In h)(G:h.Ns mainGlobals mg)(hfa:mg "law" = some (.ref fa))(XT:XAll K mg T)
 {f0:Addr} {oc0 kV0 dc0 pm0 cd0 ct0:Value} {od0 an0:Option Addr} {sl0:Array (Option Value)} (a0:At K "check_alike" eK f0 oc0 kV0 dc0 pm0 cd0 ct0 od0 an0 sl0)
 {f1:Addr} {oc1 kV1 dc1 pm1 cd1 ct1:Value} {od1 an1:Option Addr} {sl1:Array (Option Value)} (a1:At K "pairs" oB f1 oc1 kV1 dc1 pm1 cd1 ct1 od1 an1 sl1)
 {f2:Addr} {oc2 kV2 dc2 pm2 cd2 ct2:Value} {od2 an2:Option Addr} {sl2:Array (Option Value)} (a2:At K "check_count" eN f2 oc2 kV2 dc2 pm2 cd2 ct2 od2 an2 sl2)
 {f3:Addr} {oc3 kV3 dc3 pm3 cd3 ct3:Value} {od3 an3:Option Addr} {sl3:Array (Option Value)} (a3:At K "check_rows" fJ f3 oc3 kV3 dc3 pm3 cd3 ct3 od3 an3 sl3)
 {f4:Addr} {oc4 kV4 dc4 pm4 cd4 ct4:Value} {od4 an4:Option Addr} {sl4:Array (Option Value)} (a4:At K "check_size" fF f4 oc4 kV4 dc4 pm4 cd4 ct4 od4 an4 sl4)
 {f5:Addr} {oc5 kV5 dc5 pm5 cd5 ct5:Value} {od5 an5:Option Addr} {sl5:Array (Option Value)} (a5:At K "places_of" gL f5 oc5 kV5 dc5 pm5 cd5 ct5 od5 an5 sl5)
 {f6:Addr} {oc6 kV6 dc6 pm6 cd6 ct6:Value} {od6 an6:Option Addr} {sl6:Array (Option Value)} (a6:At K "units" oK f6 oc6 kV6 dc6 pm6 cd6 ct6 od6 an6 sl6)
 {f7:Addr} {oc7 kV7 dc7 pm7 cd7 ct7:Value} {od7 an7:Option Addr} {sl7:Array (Option Value)} (a7:At K "mixed" nZ f7 oc7 kV7 dc7 pm7 cd7 ct7 od7 an7 sl7)
 {f8:Addr} {oc8 kV8 dc8 pm8 cd8 ct8:Value} {od8 an8:Option Addr} {sl8:Array (Option Value)} (a8:At K "bezout" lW f8 oc8 kV8 dc8 pm8 cd8 ct8 od8 an8 sl8)
 {f9:Addr} {oc9 kV9 dc9 pm9 cd9 ct9:Value} {od9 an9:Option Addr} {sl9:Array (Option Value)} (a9:At K "swept" oA f9 oc9 kV9 dc9 pm9 cd9 ct9 od9 an9 sl9)
 {f10:Addr} {oc10 kV10 dc10 pm10 cd10 ct10:Value} {od10 an10:Option Addr} {sl10:Array (Option Value)} (a10:At K "cleared" jV f10 oc10 kV10 dc10 pm10 cd10 ct10 od10 an10 sl10)
 {f11:Addr} {oc11 kV11 dc11 pm11 cd11 ct11:Value} {od11 an11:Option Addr} {sl11:Array (Option Value)} (a11:At K "less" sM f11 oc11 kV11 dc11 pm11 cd11 ct11 od11 an11 sl11)
 {f12:Addr} {oc12 kV12 dc12 pm12 cd12 ct12:Value} {od12 an12:Option Addr} {sl12:Array (Option Value)} (a12:At K "times" oJ f12 oc12 kV12 dc12 pm12 cd12 ct12 od12 an12 sl12)
 {f13:Addr} {oc13 kV13 dc13 pm13 cd13 ct13:Value} {od13 an13:Option Addr} {sl13:Array (Option Value)} (a13:At K "weighed" jR f13 oc13 kV13 dc13 pm13 cd13 ct13 od13 an13 sl13)
 {f14:Addr} {oc14 kV14 dc14 pm14 cd14 ct14:Value} {od14 an14:Option Addr} {sl14:Array (Option Value)} (a14:At K "narrowed" iF f14 oc14 kV14 dc14 pm14 cd14 ct14 od14 an14 sl14)
 {f15:Addr} {oc15 kV15 dc15 pm15 cd15 ct15:Value} {od15 an15:Option Addr} {sl15:Array (Option Value)} (a15:At K "tidied" lQ f15 oc15 kV15 dc15 pm15 cd15 ct15 od15 an15 sl15)
 {f16:Addr} {oc16 kV16 dc16 pm16 cd16 ct16:Value} {od16 an16:Option Addr} {sl16:Array (Option Value)} (a16:At K "frame_of_cleared" cQ f16 oc16 kV16 dc16 pm16 cd16 ct16 od16 an16 sl16)
 {f17:Addr} {oc17 kV17 dc17 pm17 cd17 ct17:Value} {od17 an17:Option Addr} {sl17:Array (Option Value)} (a17:At K "frame_of" iL f17 oc17 kV17 dc17 pm17 cd17 ct17 od17 an17 sl17)
 {f18:Addr} {oc18 kV18 dc18 pm18 cd18 ct18:Value} {od18 an18:Option Addr} {sl18:Array (Option Value)} (a18:At K "flat_of" jQ f18 oc18 kV18 dc18 pm18 cd18 ct18 od18 an18 sl18)
 {f19:Addr} {oc19 kV19 dc19 pm19 cd19 ct19:Value} {od19 an19:Option Addr} {sl19:Array (Option Value)} (a19:At K "turn_of" jO f19 oc19 kV19 dc19 pm19 cd19 ct19 od19 an19 sl19)
 {f20:Addr} {oc20 kV20 dc20 pm20 cd20 ct20:Value} {od20 an20:Option Addr} {sl20:Array (Option Value)} (a20:At K "summed" lD f20 oc20 kV20 dc20 pm20 cd20 ct20 od20 an20 sl20)
 {f21:Addr} {oc21 kV21 dc21 pm21 cd21 ct21:Value} {od21 an21:Option Addr} {sl21:Array (Option Value)} (a21:At K "taken" nW f21 oc21 kV21 dc21 pm21 cd21 ct21 od21 an21 sl21)
 {f22:Addr} {oc22 kV22 dc22 pm22 cd22 ct22:Value} {od22 an22:Option Addr} {sl22:Array (Option Value)} (a22:At K "product" jN f22 oc22 kV22 dc22 pm22 cd22 ct22 od22 an22 sl22)
 {f23:Addr} {oc23 kV23 dc23 pm23 cd23 ct23:Value} {od23 an23:Option Addr} {sl23:Array (Option Value)} (a23:At K "box_of" mJ f23 oc23 kV23 dc23 pm23 cd23 ct23 od23 an23 sl23)
 {f24:Addr} {oc24 kV24 dc24 pm24 cd24 ct24:Value} {od24 an24:Option Addr} {sl24:Array (Option Value)} (a24:At K "check_sum" gG f24 oc24 kV24 dc24 pm24 cd24 ct24 od24 an24 sl24)
 {f25:Addr} {oc25 kV25 dc25 pm25 cd25 ct25:Value} {od25 an25:Option Addr} {sl25:Array (Option Value)} (a25:At K "number_for" fH f25 oc25 kV25 dc25 pm25 cd25 ct25 od25 an25 sl25)
 {f26:Addr} {oc26 kV26 dc26 pm26 cd26 ct26:Value} {od26 an26:Option Addr} {sl26:Array (Option Value)} (a26:At K "leading_rows" dZ f26 oc26 kV26 dc26 pm26 cd26 ct26 od26 an26 sl26)
 {f27:Addr} {oc27 kV27 dc27 pm27 cd27 ct27:Value} {od27 an27:Option Addr} {sl27:Array (Option Value)} (a27:At K "spanned" jT f27 oc27 kV27 dc27 pm27 cd27 ct27 od27 an27 sl27)
 {f28:Addr} {oc28 kV28 dc28 pm28 cd28 ct28:Value} {od28 an28:Option Addr} {sl28:Array (Option Value)} (a28:At K "rule_sum" iI f28 oc28 kV28 dc28 pm28 cd28 ct28 od28 an28 sl28)
 {f29:Addr} {oc29 kV29 dc29 pm29 cd29 ct29:Value} {od29 an29:Option Addr} {sl29:Array (Option Value)} (a29:At K "broken" lY f29 oc29 kV29 dc29 pm29 cd29 ct29 od29 an29 sl29)
 {f30:Addr} {oc30 kV30 dc30 pm30 cd30 ct30:Value} {od30 an30:Option Addr} {sl30:Array (Option Value)} (a30:At K "flat_of_box" eM f30 oc30 kV30 dc30 pm30 cd30 ct30 od30 an30 sl30)
 {f31:Addr} {oc31 kV31 dc31 pm31 cd31 ct31:Value} {od31 an31:Option Addr} {sl31:Array (Option Value)} (a31:At K "_law_called" eQ f31 oc31 kV31 dc31 pm31 cd31 ct31 od31 an31 sl31)
 {f32:Addr} {oc32 kV32 dc32 pm32 cd32 ct32:Value} {od32 an32:Option Addr} {sl32:Array (Option Value)} (a32:At K "_law_cell" gF f32 oc32 kV32 dc32 pm32 cd32 ct32 od32 an32 sl32)
 {f33:Addr} {oc33 kV33 dc33 pm33 cd33 ct33:Value} {od33 an33:Option Addr} {sl33:Array (Option Value)} (a33:At K "_law_flags" fG f33 oc33 kV33 dc33 pm33 cd33 ct33 od33 an33 sl33)
 {f34:Addr} {oc34 kV34 dc34 pm34 cd34 ct34:Value} {od34 an34:Option Addr} {sl34:Array (Option Value)} (a34:At K "law" pD f34 oc34 kV34 dc34 pm34 cd34 ct34 od34 an34 sl34)
 {C0 i0:Addr} {ocX0 kVX0 dcX0 pmX0 cdX0 ctX0:Value} {odX0 anX0:Option Addr} {slX0:Array (Option Value)} (r0:ORaw K 0 C0 i0) (na00:Ao K (.ref C0) "many" = some none) (na01:Ao K (.ref C0) "rows" = some none)
 (lX0:K.lookup i0=some ⟨ocX0,odX0,.func (By "__init__" "Flat.__init__" (eL mR) (cL mR) (aF mR) .none kVX0 dcX0 pmX0 anX0 cdX0 ctX0),slX0⟩) (cX0:Cq K cdX0 "Flat.__init__" = true) (kX0:Cd K (.ref i0)=true)
 {C1 i1:Addr} {ocX1 kVX1 dcX1 pmX1 cdX1 ctX1:Value} {odX1 anX1:Option Addr} {slX1:Array (Option Value)} (r1:ORaw K 1 C1 i1) (na10:Ao K (.ref C1) "bottom" = some none) (na11:Ao K (.ref C1) "heads" = some none) (na12:Ao K (.ref C1) "lines" = some none)
 (lX1:K.lookup i1=some ⟨ocX1,odX1,.func (By "__init__" "Cleared.__init__" (eL fM) (cL fM) (aF fM) .none kVX1 dcX1 pmX1 anX1 cdX1 ctX1),slX1⟩) (cX1:Cq K cdX1 "Cleared.__init__" = true) (kX1:Cd K (.ref i1)=true)
 (z_len:Av K mainGlobals "len" = some none)
 (z_list:Av K mainGlobals "list" = some none)
 (z_zip:Av K mainGlobals "zip" = some none)
 (z_enumerate:Av K mainGlobals "enumerate" = some none)
 (z_range:Av K mainGlobals "range" = some none)
 (z_sum:Av K mainGlobals "sum" = some none)
 (z_reversed:Av K mainGlobals "reversed" = some none)
 (z_set:Av K mainGlobals "set" = some none)
 (z_sorted:Av K mainGlobals "sorted" = some none)
 (z_tuple:Av K mainGlobals "tuple" = some none)
 (z_dict:Av K mainGlobals "dict" = some none)
 (z_isinstance:Av K mainGlobals "isinstance" = some none)
 (z_ValueError:Av K mainGlobals "ValueError" = some none)
 {t_MOST_WAYS:Tok} (g_MOST_WAYS:Av K mainGlobals "MOST_WAYS" = some (some (.int 5 t_MOST_WAYS)))
:∃ fd:FuncData,(∀ (s:Shared) (v:Value),BindsTo s fd ⟨[v],[]⟩ [("_law_script",v)])/\∀ base:Heap,K.In base->base.Ns mainGlobals mg->FnOk l.prog w K mg base (CXM l.prog w) 10 fa fd ["_law_script"] (spM K (clK K) qX):=by
 have B:Blt mg:=⟨Az X G z_len,Az X G z_list,Az X G z_zip,Az X G z_enumerate,Az X G z_range,Az X G z_sum,Az X G z_reversed,Az X G z_set,Az X G z_sorted,Az X G z_tuple,Az X G z_dict,Az X G z_isinstance,Az X G z_ValueError,⟨_,Df X G g_MOST_WAYS⟩⟩;have qV:aS K mg "check_alike" eK ["one","other"]:=aV X G a0.ns a0.lk a0.cd a0.kp fun _ _ _ _ _ _ us hl=>match us,hl with | [_,_],_=>rfl
 have aFr:aS K mg "pairs" oB ["one","other"]:=aV X G a1.ns a1.lk a1.cd a1.kp fun _ _ _ _ _ _ us hl=>match us,hl with | [_,_],_=>rfl
 have qO:aS K mg "check_count" eN ["many"]:=aV X G a2.ns a2.lk a2.cd a2.kp fun _ _ _ _ _ _ us hl=>match us,hl with | [_],_=>rfl
 have sT:aS K mg "check_rows" fJ ["many","rows"]:=aV X G a3.ns a3.lk a3.cd a3.kp fun _ _ _ _ _ _ us hl=>match us,hl with | [_,_],_=>rfl
 have uD:aS K mg "check_size" fF ["least","most","size"]:=aV X G a4.ns a4.lk a4.cd a4.kp fun _ _ _ _ _ _ us hl=>match us,hl with | [_,_,_],_=>rfl
 have vN:aS K mg "places_of" gL ["many","size"]:=aV X G a5.ns a5.lk a5.cd a5.kp fun _ _ _ _ _ _ us hl=>match us,hl with | [_,_],_=>rfl
 have aHa:aS K mg "units" oK ["many"]:=aV X G a6.ns a6.lk a6.cd a6.kp fun _ _ _ _ _ _ us hl=>match us,hl with | [_],_=>rfl
 have aFm:aS K mg "mixed" nZ ["width","often","rows"]:=aV X G a7.ns a7.lk a7.cd a7.kp fun _ _ _ _ _ _ us hl=>match us,hl with | [_,_,_],_=>rfl
 have aCr:aS K mg "bezout" lW ["one","other"]:=aV X G a8.ns a8.lk a8.cd a8.kp fun _ _ _ _ _ _ us hl=>match us,hl with | [_,_],_=>rfl
 have aGy:aS K mg "swept" oA ["rows","top","way","bottom"]:=aV X G a9.ns a9.lk a9.cd a9.kp fun _ _ _ _ _ _ us hl=>match us,hl with | [_,_,_,_],_=>rfl
 have aA6:aS K mg "cleared" jV ["many","rows"]:=aV X G a10.ns a10.lk a10.cd a10.kp fun _ _ _ _ _ _ us hl=>match us,hl with | [_,_],_=>rfl
 have aL1:aS K mg "less" sM ["one","other"]:=aV X G a11.ns a11.lk a11.cd a11.kp fun _ _ _ _ _ _ us hl=>match us,hl with | [_,_],_=>rfl
 have aGd:aS K mg "times" oJ ["row","many"]:=aV X G a12.ns a12.lk a12.cd a12.kp fun _ _ _ _ _ _ us hl=>match us,hl with | [_,_],_=>rfl
 have aA2:aS K mg "weighed" jR ["one","other"]:=aV X G a13.ns a13.lk a13.cd a13.kp fun _ _ _ _ _ _ us hl=>match us,hl with | [_,_],_=>rfl
 have wX:aS K mg "narrowed" iF ["shares","weights","whole"]:=aV X G a14.ns a14.lk a14.cd a14.kp fun _ _ _ _ _ _ us hl=>match us,hl with | [_,_,_],_=>rfl
 have aEl:aS K mg "tidied" lQ ["shares"]:=aV X G a15.ns a15.lk a15.cd a15.kp fun _ _ _ _ _ _ us hl=>match us,hl with | [_],_=>rfl
 have kS:aS K mg "frame_of_cleared" cQ ["many","found"]:=aV X G a16.ns a16.lk a16.cd a16.kp fun _ _ _ _ _ _ us hl=>match us,hl with | [_,_],_=>rfl
 have xM:aS K mg "frame_of" iL ["many","rows"]:=aV X G a17.ns a17.lk a17.cd a17.kp fun _ _ _ _ _ _ us hl=>match us,hl with | [_,_],_=>rfl
 have aBq:aS K mg "flat_of" jQ ["many","rows"]:=aV X G a18.ns a18.lk a18.cd a18.kp fun _ _ _ _ _ _ us hl=>match us,hl with | [_,_],_=>rfl
 have aB3:aS K mg "turn_of" jO ["places"]:=aV X G a19.ns a19.lk a19.cd a19.kp fun _ _ _ _ _ _ us hl=>match us,hl with | [_],_=>rfl
 have aEw:aS K mg "summed" lD ["terms"]:=aV X G a20.ns a20.lk a20.cd a20.kp fun _ _ _ _ _ _ us hl=>match us,hl with | [_],_=>rfl
 have aG0:aS K mg "taken" nW ["some","many"]:=aV X G a21.ns a21.lk a21.cd a21.kp fun _ _ _ _ _ _ us hl=>match us,hl with | [_,_],_=>rfl
 have aBy:aS K mg "product" jN ["one","other"]:=aV X G a22.ns a22.lk a22.cd a22.kp fun _ _ _ _ _ _ us hl=>match us,hl with | [_,_],_=>rfl
 have aFd:aS K mg "box_of" mJ ["many","rows"]:=aV X G a23.ns a23.lk a23.cd a23.kp fun _ _ _ _ _ _ us hl=>match us,hl with | [_,_],_=>rfl
 have wC:aS K mg "check_sum" gG ["many","size"]:=aV X G a24.ns a24.lk a24.cd a24.kp fun _ _ _ _ _ _ us hl=>match us,hl with | [_,_],_=>rfl
 have sY:aS K mg "number_for" fH ["numbers","places"]:=aV X G a25.ns a25.lk a25.cd a25.kp fun _ _ _ _ _ _ us hl=>match us,hl with | [_,_],_=>rfl
 have oP:aS K mg "leading_rows" dZ ["many","numbers","places"]:=aV X G a26.ns a26.lk a26.cd a26.kp fun _ _ _ _ _ _ us hl=>match us,hl with | [_,_,_],_=>rfl
 have aAw:aS K mg "spanned" jT ["many","size","some"]:=aV X G a27.ns a27.lk a27.cd a27.kp fun _ _ _ _ _ _ us hl=>match us,hl with | [_,_,_],_=>rfl
 have yE:aS K mg "rule_sum" iI ["numbers","left","right"]:=aV X G a28.ns a28.lk a28.cd a28.kp fun _ _ _ _ _ _ us hl=>match us,hl with | [_,_,_],_=>rfl
 have aCz:aS K mg "broken" lY ["many","size","some"]:=aV X G a29.ns a29.lk a29.cd a29.kp fun _ _ _ _ _ _ us hl=>match us,hl with | [_,_,_],_=>rfl
 have qS:aS K mg "flat_of_box" eM ["many","size","some"]:=aV X G a30.ns a30.lk a30.cd a30.kp fun _ _ _ _ _ _ us hl=>match us,hl with | [_,_,_],_=>rfl
 have qK:aS K mg "_law_called" eQ ["_law_caught"]:=aV X G a31.ns a31.lk a31.cd a31.kp fun _ _ _ _ _ _ us hl=>match us,hl with | [_],_=>rfl
 have uY:aS K mg "_law_cell" gF ["_law_script","_law_k"]:=aV X G a32.ns a32.lk a32.cd a32.kp fun _ _ _ _ _ _ us hl=>match us,hl with | [_,_],_=>rfl
 have uN:aS K mg "_law_flags" fG ["_law_which","_law_many","_law_size","_law_some"]:=aV X G a33.ns a33.lk a33.cd a33.kp fun _ _ _ _ _ _ us hl=>match us,hl with | [_,_,_,_],_=>rfl
 have e:=hfa.symm.trans (Df X G a34.ns);cases e;refine⟨By "law" "law" (eL pD) (cL pD) (aF pD) .none kV34 dc34 pm34 an34 cd34 ct34,fun s v=>.of_eq rfl,fun base _ _=>?_⟩
 have O0:OC K 0:=r0.oc0 na00 na01;have FX0:=sO (st:=mR) lX0 cX0 kX0;have U0:sF l.prog w K mg base 1 0:=r0.mkr X G (aJe O0 FX0) (FX0.binds (ps:="self" :: bY 0) fun _ _ _ _ _ _ us hl=>match us,hl with | [_,_,_],_=>rfl)
 have O1:OC K 1:=r1.oc1 na10 na11 na12;have FX1:=sO (st:=fM) lX1 cX1 kX1;have U1:sF l.prog w K mg base 1 1:=r1.mkr X G (aB2 O1 FX1) (FX1.binds (ps:="self" :: bY 1) fun _ _ _ _ _ _ us hl=>match us,hl with | [_,_,_,_],_=>rfl)
 have qP:L2.aD l.prog w K mg base (CXM l.prog w) 1 "check_alike" ["one","other"] (spM K (clK K) eP):=gO (k:=0) B XT  qV;have sK:L2.aD l.prog w K mg base (CXM l.prog w) 2 "pairs" ["one","other"] (spM K (clK K) gD):=iD (k:=1) B XT (qP.mono (by decide)) aFr
 have kK:L2.aD l.prog w K mg base (CXM l.prog w) 1 "check_count" ["many"] (spM K (clK K) cB):=dH (k:=0) B XT  qO;have lI:L2.aD l.prog w K mg base (CXM l.prog w) 2 "check_rows" ["many","rows"] (spM K (clK K) dB):=dU (k:=1) B XT (kK.mono (by decide)) sT
 have tJ:L2.aD l.prog w K mg base (CXM l.prog w) 1 "check_size" ["least","most","size"] (spM K (clK K) dX):=iJ (k:=0) B XT  uD;have wA:L2.aD l.prog w K mg base (CXM l.prog w) 1 "places_of" ["many","size"] (spM K (clK K) eR):=gI (k:=0) B XT  vN;have aG6:L2.aD l.prog w K mg base (CXM l.prog w) 1 "units" ["many"] (spM K (clK K) oF):=uK (k:=0) B XT  aHa;have aAh:L2.aD l.prog w K mg base (CXM l.prog w) 3 "mixed" ["width","often","rows"] (spM K (clK K) kA):=mF (k:=2) B XT (sK.mono (by decide)) aFm
 have aD3:L2.aD l.prog w K mg base (CXM l.prog w) 1 "bezout" ["one","other"] (spM K (clK K) lR):=qE (k:=0) B XT  aCr;have aHe:L2.aD l.prog w K mg base (CXM l.prog w) 1 "swept" ["rows","top","way","bottom"] (spM K (clK K) nY):=uC (k:=0) B XT  aGy;have aBe:L2.aD l.prog w K mg base (CXM l.prog w) 3 "cleared" ["many","rows"] (spM K (clK K) jZ):=mZ (k:=2) B XT O1 U1 (by decide) (aHe.mono (by decide)) aA6
 have aCn:L2.aD l.prog w K mg base (CXM l.prog w) 3 "less" ["one","other"] (spM K (clK K) nF):=oY (k:=2) B XT (sK.mono (by decide)) aL1
 have uO:L2.aD l.prog w K mg base (CXM l.prog w) 1 "times" ["row","many"] (spM K (clK K) fD):=gN (k:=0) B XT  aGd;have aAu:L2.aD l.prog w K mg base (CXM l.prog w) 3 "weighed" ["one","other"] (spM K (clK K) jW):=mP (k:=2) B XT (sK.mono (by decide)) aA2
 have xR:L2.aD l.prog w K mg base (CXM l.prog w) 4 "narrowed" ["shares","weights","whole"] (spM K (clK K) iG):=kY (k:=3) B XT (aAu.mono (by decide)) (aD3.mono (by decide)) (aCn.mono (by decide)) (uO.mono (by decide)) (aAh.mono (by decide)) wX
 have aE1:L2.aD l.prog w K mg base (CXM l.prog w) 4 "tidied" ["shares"] (spM K (clK K) lT):=pB (k:=3) B XT (aCn.mono (by decide)) (uO.mono (by decide)) aEl
 have kX:L2.aD l.prog w K mg base (CXM l.prog w) 5 "frame_of_cleared" ["many","found"] (spM K (clK K) cP):=dN (k:=4) B XT O1  (aG6.mono (by decide)) (aE1.mono (by decide)) (xR.mono (by decide)) (aAh.mono (by decide)) kS
 have pH:L2.aD l.prog w K mg base (CXM l.prog w) 6 "frame_of" ["many","rows"] (spM K (clK K) eI):=fP (k:=5) B XT (kX.mono (by decide)) (aBe.mono (by decide)) xM
 have aBv:L2.aD l.prog w K mg base (CXM l.prog w) 7 "flat_of" ["many","rows"] (spM K (clK K) jP):=mY (k:=6) B XT O0 U0 (by decide) (lI.mono (by decide)) (pH.mono (by decide)) aBq
 have sD:L2.aD l.prog w K mg base (CXM l.prog w) 1 "turn_of" ["places"] (spM K (clK K) fL):=hG (k:=0) B XT  aB3;have pX:L2.aD l.prog w K mg base (CXM l.prog w) 2 "summed" ["terms"] (spM K (clK K) eV):=gB (k:=1) B XT (sD.mono (by decide)) aEw
 have aF0:L2.aD l.prog w K mg base (CXM l.prog w) 3 "taken" ["some","many"] (spM K (clK K) oE):=tL (k:=2) B XT (pX.mono (by decide)) aG0
 have aBk:L2.aD l.prog w K mg base (CXM l.prog w) 3 "product" ["one","other"] (spM K (clK K) jY):=mU (k:=2) B XT (pX.mono (by decide)) aBy
 have aEj:L2.aD l.prog w K mg base (CXM l.prog w) 4 "box_of" ["many","rows"] (spM K (clK K) mB):=pI (k:=3) B XT (lI.mono (by decide)) (aBk.mono (by decide)) (pX.mono (by decide)) aFd
 have nN:L2.aD l.prog w K mg base (CXM l.prog w) 2 "check_sum" ["many","size"] (spM K (clK K) dA):=eS (k:=1) B XT (kK.mono (by decide)) (tJ.mono (by decide)) wC
 have lC:L2.aD l.prog w K mg base (CXM l.prog w) 2 "number_for" ["numbers","places"] (spM K (clK K) cV):=dC (k:=1) B XT (sD.mono (by decide)) sY
 have qB:L2.aD l.prog w K mg base (CXM l.prog w) 3 "leading_rows" ["many","numbers","places"] (spM K (clK K) dW):=fO (k:=2) B XT (lC.mono (by decide)) oP
 have rR:L2.aD l.prog w K mg base (CXM l.prog w) 7 "spanned" ["many","size","some"] (spM K (clK K) cN):=gU (k:=6) B XT (nN.mono (by decide)) (pH.mono (by decide)) (qB.mono (by decide)) (aEj.mono (by decide)) (aF0.mono (by decide)) (uO.mono (by decide)) aAw
 have yK:L2.aD l.prog w K mg base (CXM l.prog w) 3 "rule_sum" ["numbers","left","right"] (spM K (clK K) iC):=kU (k:=2) B XT (lC.mono (by decide)) yE
 have wO:L2.aD l.prog w K mg base (CXM l.prog w) 4 "broken" ["many","size","some"] (spM K (clK K) eX):=iV (k:=3) B XT (nN.mono (by decide)) (wA.mono (by decide)) (yK.mono (by decide)) aCz
 have qL:L2.aD l.prog w K mg base (CXM l.prog w) 8 "flat_of_box" ["many","size","some"] (spM K (clK K) bL):=gT (k:=7) B XT (rR.mono (by decide)) (wO.mono (by decide)) (aBv.mono (by decide)) qS
 have qI:L2.aD l.prog w K mg base (CXM l.prog w) 1 "_law_called" ["_law_caught"] (spM K (clK K) bZ):=gS (k:=0) B XT  qK;have vT:L2.aD l.prog w K mg base (CXM l.prog w) 1 "_law_cell" ["_law_script","_law_k"] (spM K (clK K) bU):=eW (k:=0) B XT  uY;have uE:L2.aD l.prog w K mg base (CXM l.prog w) 9 "_law_flags" ["_law_which","_law_many","_law_size","_law_some"] (spM K (clK K) aH):=cG (k:=8) B XT (rR.mono (by decide)) (wO.mono (by decide)) (qL.mono (by decide)) (qI.mono (by decide)) uN
 exact aNl (k:=9) B XT (vT.mono (by decide)) (uE.mono (by decide)) (sO (st:=pD) a34.lk a34.cd a34.kp)
theorem walk {l:PySem.W.OpenLaw}{q:Program}{loose:List Str}{XP:(Str->Option Value)->Heap->Prop}{YP:World->Heap->Prop}{d:DefRec}{K:Params->PySem.W.Frag}(hn:l.most=some 63)(hdf:d.params.defaults=[])(hw:∀ ns:List Int,ns.length<=63->qX [.lst (ns.map .int)]=.ok (sc (.bl true)))
 (hY:∀ (w:World) (h:Heap),YP w h->(K w.params).In h) (hL:∀ P:Params,noL (K P)=true)
 (F:∀ (w:World) (mg:Str->Option Value) (fa:Addr) (h:Heap),(K w.params).In h->h.Ns mainGlobals mg->mg d.name=some (.ref fa) ->
  ∃ fd:FuncData,(∀ (s:Shared) (u:Value),BindsTo s fd ⟨[u],[]⟩ [("_law_script",u)])/\∀ base:Heap,(K w.params).In base->base.Ns mainGlobals mg->FnOk l.prog w (K w.params) mg base (CXM l.prog w) 10 fa fd ["_law_script"] (spM (K w.params) (clK (K w.params)) qX)) :
 PySem.W.WalkO q loose XP YP l.row.toRowW d [] (fun f vs=>PySem.call f vs) :=
 L2.aGk (n:=63) (k:=10) (x:="_law_script") (CX:=fun w=>CXM l.prog w) (sp:=fun w=>spM (K w.params) (clK (K w.params)) qX) hn (by decide) hdf ⟨rfl,by decide,by decide⟩ hY F (fun w _ _ ns hl _ hS=>aLj (hL w.params) (hw ns hl) hS) fun _ _ _ _ _ ⟨_,_,_,_,_,z⟩=>z
end N42
namespace Mir
open PySem L2
theorem aD0 {α:Type}{xs:List α}{k:Nat}{d:α}(h:k<xs.length):xs.getD k d∈xs:=by
 rw[Br,Al h];exact List.getElem_mem h
theorem aCs {r:List Int}{w:Nat}(h:w<r.length):(li r)[w]?=some (.int (r.getD w 0)):=by
 simp[li,h,Br]
theorem wJ {i j:Int}(h:0<j):CP i j=true:=decide_eq_true h
theorem aIb {i j:Int}(h:0<j)(h2:j.natAbs<2^250):CD i j=true:=by
 have:j.natAbs.log2<9000:=by
  by_cases z:j.natAbs=0
  · rw[z];decide
  · exact Dj ((Nat.log2_lt z).mpr h2) (by decide)
 unfold CD;rw[decide_eq_true h,decide_eq_true this];rfl
end Mir
namespace Sm
open Srt
abbrev Tm:=List Int×Int
def look (A:List Tm)(k:List Int):Int:=match A with
 | []=>0
 | p :: r=>if p.1=k then p.2 else look r k
def put (A:List Tm)(k:List Int)(v:Int):List Tm:=if k∈A.map (·.1) then A.map fun p=>if p.1=k then (p.1,v) else p else A++[(k,v)]
theorem aB5 {A:List Tm}{k:List Int}(h:k∉A.map (·.1)):look A k=0:=by
 induction A with
 | nil=>rfl
 | cons q r ih =>
  have h':k≠q.1/\k∉r.map (·.1):=by simpa using h
  simp only[look,if_neg (Ne.symm h'.1)];exact ih h'.2
def aMx (A:List Tm):List Tm:=srt px (A.filter fun p=>p.2 != 0)
def sgn (m:Nat):Int:=1-2*((m:Int)%2)
def aHm (p:List Int):Nat->Nat
 | 0=>0
 | j+1=>aHm p j+((p.take j).filter fun b=>decide (p.getD j 0<b)).length
def inv (p:List Int):Nat:=aHm p p.length
def val (t:Tm):Int:=if t.1.Nodup then sgn (inv t.1)*t.2 else 0
def key (t:Tm):List Int:=srt ix t.1
def step (A:List Tm)(t:Tm):List Tm:=put A (key t) (look A (key t)+val t)
def acc (A:List Tm)(ts:List Tm):List Tm:=ts.foldl step A
def aNx (ts:List Tm):List Tm:=aMx (acc [] ts)
end Sm
namespace Sm
open PySem L2 Mir Srt
def nm (b:Prop)[Decidable b](n:Int):Int:=if b then n else 0
variable (a0 a1 x7:Option Res)(f2:Bool)(p:List Int)(n:Int)
end Sm
namespace Sm
open PySem L2 Mir Srt
theorem xG {p:List Int}(h:p.Pairwise fun a b=>ix b a=false):inv p=0:=by
 have go:∀ j,j<=p.length->aHm p j=0:=by
  intro j;induction j with
  | zero=>intro _;rfl
  | succ j ih =>
   intro hj;have hlt:j<p.length:=by omega
   show aHm p j+_=0
   rw[ih (by omega),Nat.zero_add,Ce,List.filter_eq_nil_iff]
   intro b hb;obtain⟨i,hi,e⟩:=List.mem_iff_getElem.mp hb;have hi':i<j:=by rw[Du]at hi;omega
   have q:=(List.pairwise_iff_getElem.mp h) i j (by omega) hlt hi'
   have e2:b=p[i]:=by rw[←e];simp
   have e3:p.getD j 0=p[j]:=by simp[hlt]
   rw[e2,e3];unfold ix at q;simpa using q
 exact go p.length (Ad _)
structure Told (S:List Tm):Prop where
 up:∀ t∈S,t.1.Pairwise fun a b=>ix b a=false
 nd:∀ t∈S,t.1.Nodup
 ks:(S.map (·.1)).Nodup
 nz:∀ t∈S,t.2≠0
 so:S.Pairwise fun a b=>px b a=false
theorem Told.val {S:List Tm}(h:Told S){t:Tm}(ht:t∈S):val t=t.2:=by
 unfold Sm.val;rw[if_pos (h.nd t ht),xG (h.up t ht)];show (1-2*((0:Int)%2))*t.2=t.2
 omega
theorem Told.key {S:List Tm}(h:Told S){t:Tm}(ht:t∈S):key t=t.1:=(xS yD (Do _) (h.up t ht)).symm
theorem uQ {S:List Tm}(h:Told S):∀ (T B:List Tm),(∀ t∈T,t∈S)->(((B++T).map (·.1)).Nodup)->acc B T=B++T
 | [],B,_,_=>by simp[acc]
 | t :: T,B,hs,nd=>by
  have ht:=hs t Ap
  have nm:t.1∉B.map (·.1):=by
   rw[Cv,List.nodup_append]at nd;intro m;exact nd.2.2 t.1 m t.1 (by simp) rfl
  have e:step B t=B++[t]:=by
   unfold step;rw[h.key ht,aB5 nm,h.val ht,Int.zero_add];unfold put;rw[if_neg nm]
  show acc (step B t) T=_
  rw[e,uQ h T (B++[t]) (fun u hu=>hs u (Am _ hu)) (by simpa using nd)]
  simp
theorem Told.same {S:List Tm}(h:Told S):aNx S=S:=by
 unfold aNx;rw[uQ h S [] (fun _ z=>z) (by simpa using h.ks),Es]
 unfold aMx;have e:S.filter (fun p=>p.2 != 0)=S:=List.filter_eq_self.mpr fun t ht=>by simpa using h.nz t ht
 rw[e];exact(xS aJ2 (Do _) h.so).symm
end Sm
namespace Sm
open PySem L2 Mir Srt
def dP (ns:List Int)(k:Nat):Int:=if k<ns.length then ns.getD k 0%2147483647 else 0
theorem oS (ns:List Int)(k:Nat):0<=dP ns k/\dP ns k<2147483647:=by
 unfold dP;split
 · exact⟨Cz _ (by decide),Ck _ (by decide)⟩
 · decide
abbrev aKa:FS:=(aQ (ifS (bT (ltE (vE 1) (hJ (vE 0))))
 (bO (iP (cO (vE 0) (vE 1)) (cE (.int 2147483647))))
 dR)
 (bO (cE (.int 0))))
theorem aKb (ns:List Int)(k:Nat):bS 2 2 aKa [.lst (li ns),.int k]=.ok (sc (.int (dP ns k))):=by
 refine(sN (r:=sc (.int (dP ns k))) rfl ?_).trans rfl
 have t:ltE (vE 1) (hJ (vE 0)) (stE 2 [.lst (li ns),.int k])=.ok (sc (.bl (decide ((k:Int)<(li ns).length)))):=lU (i:=(k:Int)) (j:=((li ns).length:Int)) rfl (aKk (ds:=li ns) rfl);by_cases h:k<ns.length
 · refine(aJj (r:=sc (.int (dP ns k))) ?_)
   refine(aIt t).trans ?_
   rw[decide_eq_true (by simpa using h)]
   refine(if_pos rfl).trans ?_
   have e:=gA (C:=CP) (G:=fun i j=>i%j) (f:=cO (vE 0) (vE 1)) (g:=cE (.int 2147483647)) (ρ:=[some ⟨.shr,false,.lst (li ns)⟩,some ⟨.shr,false,.int k⟩]) (j:=2147483647) (aAb (ds:=li ns) (i:=k) (z:=ns.getD k 0) rfl rfl (aCs h)) rfl (decide_eq_true (by decide))
   refine(zB e).trans ?_
   unfold dP;rw[if_pos h];rfl
 · refine(dY (ρ1:=stE 2 [.lst (li ns),.int k]) ?_).trans ?_
   · refine(aIt t).trans ?_
     rw[decide_eq_false (by simpa using h)]
     rfl
   · unfold dP
     rw[if_neg h];rfl
abbrev S0 (ns:List Int):Option Res:=some ⟨.shr,false,.lst (li ns)⟩
abbrev iR (i:Int):Option Res:=some ⟨.shr,true,.int i⟩
theorem aFk {φ:Φ}(hφ:∀ ns k,φ [.lst (li ns),.int (k:Nat)]=.ok (sc (.int (dP ns k))))(ns:List Int)(k:Nat)(r:List (Option Res)):aK φ [vE 0,cE (.int k)] (S0 ns :: r)=.ok ⟨.shr,true,.int (dP ns k)⟩:=zR (rs:=[⟨.shr,false,.lst (li ns)⟩,⟨.shr,true,.int k⟩]) (aN rfl (aN rfl cU)) (hφ ns k)
end Sm
namespace Sm
open PySem L2 Mir Srt
theorem fQ {φ:Φ}{fs:FEs}{ρ:Mir.Env}{rs:List Res}{x:Xc}(h:evs fs ρ=.ok rs)(hφ:φ (rs.map (·.d))=.exc x):aK φ fs ρ=.exc x:=by
 simp only[aK,h,R.ok_bind,hφ,R.exc_bind]
theorem jG {f:FE}{ρ:Mir.Env}{x:Xc}(h:f ρ=.exc x):dQ f ρ=.exc x ρ:=by simp only[dQ,h,R.at]
theorem aAg {f:FE}{ρ:Mir.Env}{i:Nat}{x:Xc}(h:f ρ=.exc x):bB i f ρ=.exc x ρ:=by simp only[bB,h,R.at]
abbrev aAf (s:String):FS:=(ifS (orT (bT (ltE (vE 0) (cE (.int 1)))) (bT (gtE (vE 0) (cE (.int 5)))))
 (iS .BadCount [cE (.str s)])
 dR)
theorem sI {f g:FE}{ρ:Mir.Env}{k k':Kd}{fr fr':Bool}{b c:Bool}(h1:f ρ=.ok ⟨k,fr,.bl b⟩)(h2:g ρ=.ok ⟨k',fr',.bl c⟩):orT (bT f) (bT g) ρ=.ok (b||c):=by
 refine(aKt (yU h1) fun _=>yU h2).trans ?_
 cases b<;>rfl
theorem aH8 (m:Int):orT (bT (ltE (vE 0) (cE (.int 1)))) (bT (gtE (vE 0) (cE (.int 5)))) [some ⟨.shr,false,.int m⟩]=.ok (decide (m<1)||decide (5<m)) :=
 sI (lU (G:=fun i j=>decide (i<j)) (k:=.shr) (fr:=true) (i:=m) (k':=.shr) (fr':=true) (j:=1) rfl rfl) (lU (G:=fun i j=>decide (j<i)) (k:=.shr) (fr:=true) (i:=m) (k':=.shr) (fr':=true) (j:=5) rfl rfl)
theorem aDj {s:String}{m:Int}(h:(decide (m<1)||decide (5<m))=true):bS 1 1 (aAf s) [.int m]=.exc ⟨.BadCount,[]⟩:=by
 refine gE (ρ:=[some ⟨.shr,false,.int m⟩]) rfl ((xK (aH8 m)).trans ?_)
 rw[h];rfl
theorem aCl {s:String}{m:Int}(h:(decide (m<1)||decide (5<m))=false):bS 1 1 (aAf s) [.int m]=.ok (sc .non):=by
 refine aKi (ρ:=[some ⟨.shr,false,.int m⟩]) rfl ((xK (aH8 m)).trans ?_)
 rw[h];rfl
abbrev aK6 (s:String):FS:=(ifS (orT (bT (ltE (vE 2) (vE 0))) (bT (gtE (vE 2) (vE 1))))
 (iS .BadSize [cE (.str s)])
 dR)
theorem aNt (l m z:Int):orT (bT (ltE (vE 2) (vE 0))) (bT (gtE (vE 2) (vE 1))) [some ⟨.shr,false,.int l⟩,some ⟨.shr,false,.int m⟩,some ⟨.shr,false,.int z⟩]=.ok (decide (z<l)||decide (m<z)) :=
 sI (lU (G:=fun i j=>decide (i<j)) (k:=.shr) (fr:=true) (i:=z) (k':=.shr) (fr':=true) (j:=l) rfl rfl) (lU (G:=fun i j=>decide (j<i)) (k:=.shr) (fr:=true) (i:=z) (k':=.shr) (fr':=true) (j:=m) rfl rfl)
theorem aFo {s:String}{l m z:Int}(h:(decide (z<l)||decide (m<z))=true):bS 3 3 (aK6 s) [.int l,.int m,.int z]=.exc ⟨.BadSize,[]⟩:=by
 refine gE (ρ:=[some ⟨.shr,false,.int l⟩,some ⟨.shr,false,.int m⟩,some ⟨.shr,false,.int z⟩]) rfl ((xK (aNt l m z)).trans ?_)
 rw[h];rfl
end Sm
namespace N42
open PySem L2 Mir Sm
theorem cn {m:Int}(h:(decide (m<1)||decide (5<m))=true):cB [.int m]=.exc ⟨.BadCount,[]⟩:=aDj h
theorem cy {m:Int}(h:(decide (m<1)||decide (5<m))=false):cB [.int m]=.ok (sc .non):=aCl h
theorem sn {m z:Int}(h:(decide (z<1)||decide (m<z))=true):dX [.int 1,.int m,.int z]=.exc ⟨.BadSize,[]⟩:=aFo h
inductive Bad (m z:Int):XC->Prop
 | cnt (h:(decide (m<1)||decide (5<m))=true):Bad m z .BadCount
 | siz (h:(decide (m<1)||decide (5<m))=false) (h2:(decide (z<1)||decide (m<z))=true):Bad m z .BadSize
theorem chk {m z:Int}{x:XC}(b:Bad m z x):dA [.int m,.int z]=.exc ⟨x,[]⟩:=by
 have ev:evs [vE 0] [some ⟨.shr,false,.int m⟩,some ⟨.shr,false,.int z⟩]=.ok [⟨.shr,true,.int m⟩]:=rfl;have ev2:evs [cE (.int 1),vE 0,vE 1] [some ⟨.shr,false,.int m⟩,some ⟨.shr,false,.int z⟩]=.ok [⟨.shr,true,.int 1⟩,⟨.shr,true,.int m⟩,⟨.shr,true,.int z⟩]:=rfl;cases b with
 | cnt h=>exact gE (np:=2) (n:=2) (s:=jD) (ds:=[.int m,.int z]) (ρ:=[some ⟨.shr,false,.int m⟩,some ⟨.shr,false,.int z⟩]) rfl (mI (jG (fQ ev (cn h))))
 | siz h h2=>exact gE (np:=2) (n:=2) (s:=jD) (ds:=[.int m,.int z]) (ρ:=[some ⟨.shr,false,.int m⟩,some ⟨.shr,false,.int z⟩]) rfl ((dY (zZ (zR ev (cy h)))).trans (jG (fQ ev2 (sn h2))))
theorem aDw {m z:Int}{x:XC}(b:Bad m z x)(A:D):cN [.int m,.int z,A]=.exc ⟨x,[]⟩ :=
 gE (np:=3) (n:=7) (s:=rZ) (ds:=[.int m,.int z,A]) (ρ:=[some ⟨.shr,false,.int m⟩,some ⟨.shr,false,.int z⟩,some ⟨.shr,false,A⟩,none,none,none,none]) rfl (mI (jG (fQ (rs:=[⟨.shr,true,.int m⟩,⟨.shr,true,.int z⟩]) (aN rfl (aN rfl cU)) (chk b))))
theorem aIv {m z:Int}{x:XC}(b:Bad m z x)(A:D):eX [.int m,.int z,A]=.exc ⟨x,[]⟩ :=
 gE (np:=3) (n:=6) (s:=wP) (ds:=[.int m,.int z,A]) (ρ:=[some ⟨.shr,false,.int m⟩,some ⟨.shr,false,.int z⟩,some ⟨.shr,false,A⟩,none,none,none]) rfl (mI (jG (fQ (rs:=[⟨.shr,true,.int m⟩,⟨.shr,true,.int z⟩]) (aN rfl (aN rfl cU)) (chk b))))
theorem aIa {m z:Int}{x:XC}(b:Bad m z x)(A:D):bL [.int m,.int z,A]=.exc ⟨x,[]⟩ :=
 gE (np:=3) (n:=5) (s:=dG) (ds:=[.int m,.int z,A]) (ρ:=[some ⟨.shr,false,.int m⟩,some ⟨.shr,false,.int z⟩,some ⟨.shr,false,A⟩,none,none]) rfl (mI (aAg (fQ (rs:=[⟨.shr,true,.int m⟩,⟨.shr,true,.int z⟩,⟨.shr,false||A.imm,A⟩]) (aN rfl (aN rfl (aN rfl cU))) (aDw b A))))
abbrev zI (φ0 φ1 φ2:Φ):FS:=(ifS (bT (eqE (vE 0) (cE (.int 0))))
 (dQ (aK φ0 [vE 1,vE 2,vE 3]))
 (ifS (bT (eqE (vE 0) (cE (.int 1))))
  (dQ (aK φ1 [vE 1,vE 2,vE 3]))
  (dQ (aK φ2 [vE 1,vE 2,vE 3]))))
abbrev aEy (φ0 φ1 φ2 φc:Φ):FS:=(aQ (bB 4 (cE .non)) (aQ (wF 4 5 (zI φ0 φ1 φ2)) (bO (aK φc [vE 4]))))
abbrev fE (w:Int)(a b c:D)(x:Option Res):Mir.Env:=[some ⟨.shr,false,.int w⟩,some ⟨.shr,false,a⟩,some ⟨.shr,false,b⟩,some ⟨.shr,false,c⟩,x,none]
section
variable {φ0 φ1 φ2 φc:Φ}{w:Nat}{a b c r:D}
theorem aEq (x:Option Res)(φ:Φ)(h:φ=if w=0 then φ0 else if w=1 then φ1 else φ2):zI φ0 φ1 φ2 (fE w a b c x)=dQ (aK φ [vE 1,vE 2,vE 3]) (fE w a b c x):=by
 have c0:bT (eqE (vE 0) (cE (.int 0))) (fE w a b c x)=.ok (decide ((w:Int)=0)):=yU (aCt (k:=.shr) (fr:=true) (i:=w) rfl (k':=.shr) (fr':=true) (j:=0) rfl);have c1:bT (eqE (vE 0) (cE (.int 1))) (fE w a b c x)=.ok (decide ((w:Int)=1)):=yU (aCt (k:=.shr) (fr:=true) (i:=w) rfl (k':=.shr) (fr':=true) (j:=1) rfl);refine(xK c0).trans ?_
 by_cases h0:w=0
 · rw[decide_eq_true (by omega),if_pos rfl,h,if_pos h0]
 · rw[decide_eq_false (by omega),if_neg (by decide),xK c1,h,if_neg h0]
   by_cases h1:w=1
   · rw[decide_eq_true (by omega),if_pos rfl,if_pos h1]
   · rw[decide_eq_false (by omega),if_neg (by decide),if_neg h1]
theorem aDi {x:XC}(hz:(if w=0 then φ0 else if w=1 then φ1 else φ2) [a,b,c]=.exc ⟨x,[]⟩)(hc:φc [.exc x []]=.ok ⟨.tmp,true,r⟩):bS 4 6 (aEy φ0 φ1 φ2 φc) [.int w,a,b,c]=.ok ⟨.tmp,true,r⟩:=by
 have e1:bB 4 (cE .non) (fE w a b c none)=.nx (fE w a b c (some (sc .non))):=rfl;have ev:evs [vE 1,vE 2,vE 3] (fE w a b c (some (sc .non)))=.ok [⟨.shr,false||a.imm,a⟩,⟨.shr,false||b.imm,b⟩,⟨.shr,false||c.imm,c⟩]:=rfl;have bd:=(aEq (φ0:=φ0) (φ1:=φ1) (φ2:=φ2) (a:=a) (b:=b) (c:=c) (some (sc .non)) _ rfl).trans (jG (fQ ev hz));have t:wF 4 5 (zI φ0 φ1 φ2) (fE w a b c (some (sc .non)))=.nx (fE w a b c (some (sc (.exc x [])))):=by simp only[wF,bd];rfl
 have e3:bO (aK φc [vE 4]) (fE w a b c (some (sc (.exc x []))))=.rt ⟨.tmp,true,r⟩:=zC (eU (rs:=[⟨.shr,true,.exc x []⟩]) (aN rfl cU) hc);exact(sN (np:=4) (n:=6) (ds:=[.int w,a,b,c]) rfl ((dY e1).trans ((dY t).trans e3))).trans rfl
theorem aIi {x:XC}(h0:φ0 [a,b,c]=.exc ⟨x,[]⟩)(h1:φ1 [a,b,c]=.exc ⟨x,[]⟩)(h2:φ2 [a,b,c]=.exc ⟨x,[]⟩)(hc:φc [.exc x []]=.ok ⟨.tmp,true,r⟩):bS 4 6 (aEy φ0 φ1 φ2 φc) [.int w,a,b,c]=.ok ⟨.tmp,true,r⟩:=by
 refine aDi ?_ hc
 by_cases z:w=0
 · rw[if_pos z];exact h0
 · rw[if_neg z]
   by_cases z:w=1
   · rw[if_pos z];exact h1
   · rw[if_neg z];exact h2
theorem aKu {r0 r1 r2:Res}(h0:φ0 [a,b,c]=.ok r0)(h1:φ1 [a,b,c]=.ok r1)(h2:φ2 [a,b,c]=.ok r2)(hc:φc [.non]=.ok ⟨.tmp,true,r⟩):bS 4 6 (aEy φ0 φ1 φ2 φc) [.int w,a,b,c]=.ok ⟨.tmp,true,r⟩:=by
 have e1:bB 4 (cE .non) (fE w a b c none)=.nx (fE w a b c (some (sc .non))):=rfl;have ev:evs [vE 1,vE 2,vE 3] (fE w a b c (some (sc .non)))=.ok [⟨.shr,false||a.imm,a⟩,⟨.shr,false||b.imm,b⟩,⟨.shr,false||c.imm,c⟩]:=rfl
 obtain⟨q,hz⟩:∃ q,(if w=0 then φ0 else if w=1 then φ1 else φ2) [a,b,c]=.ok q:=by
  by_cases z:w=0
  · rw[if_pos z];exact⟨_,h0⟩
  · rw[if_neg z]
    by_cases z:w=1
    · rw[if_pos z];exact⟨_,h1⟩
    · rw[if_neg z];exact⟨_,h2⟩
 obtain⟨q',hq⟩:∃ q',aK (if w=0 then φ0 else if w=1 then φ1 else φ2) [vE 1,vE 2,vE 3] (fE w a b c (some (sc .non)))=.ok q':=by
  obtain⟨k,fr,d⟩:=q;cases fr with
  | true=>exact⟨_,sR ev hz⟩
  | false=>exact⟨_,aD6 ev hz rfl⟩
 have bd:=(aEq (φ0:=φ0) (φ1:=φ1) (φ2:=φ2) (a:=a) (b:=b) (c:=c) (some (sc .non)) _ rfl).trans (zZ hq);have t:wF 4 5 (zI φ0 φ1 φ2) (fE w a b c (some (sc .non)))=.nx (fE w a b c (some (sc .non))):=by simp only[wF,bd]
 have e3:bO (aK φc [vE 4]) (fE w a b c (some (sc .non)))=.rt ⟨.tmp,true,r⟩:=zC (eU (rs:=[⟨.shr,true,.non⟩]) (aN rfl cU) hc);exact(sN (np:=4) (n:=6) (ds:=[.int w,a,b,c]) rfl ((dY e1).trans ((dY t).trans e3))).trans rfl
end
theorem aRm:bZ [.exc .BadCount []]=.ok ⟨.tmp,true,.lst [.str "count"]⟩:=by kernel_rfl
theorem aRz:bZ [.exc .BadSize []]=.ok ⟨.tmp,true,.lst [.str "size"]⟩:=by kernel_rfl
theorem aQv:bZ [.exc .ZeroSum []]=.ok ⟨.tmp,true,.lst [.str "zero"]⟩:=by kernel_rfl
theorem aOm:bZ [.non]=.ok ⟨.tmp,true,.lst []⟩:=by kernel_rfl
theorem flc (w:Nat){m z:Int}(b:Bad m z .BadCount)(A:D):aH [.int w,.int m,.int z,A]=.ok ⟨.tmp,true,.lst [.str "count"]⟩:=aIi (aDw b A) (aIv b A) (aIa b A) aRm
theorem fls (w:Nat){m z:Int}(b:Bad m z .BadSize)(A:D):aH [.int w,.int m,.int z,A]=.ok ⟨.tmp,true,.lst [.str "size"]⟩:=aIi (aDw b A) (aIv b A) (aIa b A) aRz
abbrev fI (z c:Nat):D:=.lst [.tup [.tup (lA 0 z),.int (c:Int)]]
def okA:R Res->Bool
 | .ok _=>true
 | _=>false
theorem xW {r:R Res}(h:okA r=true):∃ q,r=.ok q:=by
 match r,h with
 | .ok q,_=>exact⟨q,rfl⟩
theorem aN9 {m z A:D}(h:okA (bL [m,z,A])=true):okA (cN [m,z,A])=true:=by
 have ev:evs [vE 0,vE 1,vE 2] [some ⟨.shr,false,m⟩,some ⟨.shr,false,z⟩,some ⟨.shr,false,A⟩,none,none]=.ok [⟨.shr,false||m.imm,m⟩,⟨.shr,false||z.imm,z⟩,⟨.shr,false||A.imm,A⟩]:=rfl;cases e:cN [m,z,A] with
 | ok q=>rfl
 | exc x =>
  have:bL [m,z,A]=.exc x:=gE (np:=3) (n:=5) (s:=dG) (ds:=[m,z,A]) rfl (mI (aAg (fQ ev e)))
  rw[this]at h;cases h
 | stk =>
  have e1:aK cN [vE 0,vE 1,vE 2] [some ⟨.shr,false,m⟩,some ⟨.shr,false,z⟩,some ⟨.shr,false,A⟩,none,none]=.stk:=by
   simp only[aK,ev,R.ok_bind];rw[show List.map (fun x=>Res.d x) [(⟨.shr,false||m.imm,m⟩:Res),⟨.shr,false||z.imm,z⟩,⟨.shr,false||A.imm,A⟩]=[m,z,A] from rfl,e]
   rfl
  have e2:dG (stE 5 [m,z,A])=.stk:=by
   have:bB 3 (aK cN [vE 0,vE 1,vE 2]) [some ⟨.shr,false,m⟩,some ⟨.shr,false,z⟩,some ⟨.shr,false,A⟩,none,none]=.stk:=by simp only[bB,e1,R.at]
   show aQ _ _ _=_
   simp only[aQ];rw[show stE 5 [m,z,A]=[some ⟨.shr,false,m⟩,some ⟨.shr,false,z⟩,some ⟨.shr,false,A⟩,none,none] from rfl,this]
  have:bL [m,z,A]=.stk:=by
   show bS 3 5 dG [m,z,A]=_
   simp only[bS];rw[if_pos (show [m,z,A].length=3 from rfl),e2]
  rw[this]at h;cases h
def aE (m z c:Nat):Bool:=okA (eX [.int (m:Int),.int (z:Int),fI z c])&&okA (bL [.int (m:Int),.int (z:Int),fI z c])
def isZ:R Res->Bool
 | .exc ⟨.ZeroSum,[]⟩=>true
 | _=>false
theorem aI8 {r:R Res}(h:isZ r=true):r=.exc ⟨.ZeroSum,[]⟩:=by
 match r,h with
 | .exc ⟨.ZeroSum,[]⟩,_=>rfl
def eA (m z:Nat):Bool:=isZ (bL [.int (m:Int),.int (z:Int),.lst []])
def jF (m z:Nat):Prop:=eA m z=true/\∀ c:Nat,1<=c->c<=9->aE m z c=true
theorem cR {m z:Nat}(h0:eA m z=true)(h1:aE m z 1=true)(h2:aE m z 2=true)(h3:aE m z 3=true)(h4:aE m z 4=true)(h5:aE m z 5=true)(h6:aE m z 6=true)(h7:aE m z 7=true)(h8:aE m z 8=true)(h9:aE m z 9=true):jF m z:=by
 refine⟨h0,fun c c1 c9=>?_⟩
 rcases (show c=1\/c=2\/c=3\/c=4\/c=5\/c=6\/c=7\/c=8\/c=9 by omega) with rfl | rfl | rfl | rfl | rfl | rfl | rfl | rfl | rfl<;>assumption
end N42
namespace N42
theorem z11:eA 1 1=true:=by decide +kernel
theorem aRy:aE 1 1 1=true:=by decide +kernel
theorem aO8:aE 1 1 2=true:=by decide +kernel
theorem aO2:aE 1 1 3=true:=by decide +kernel
theorem aPw:aE 1 1 4=true:=by decide +kernel
theorem aR8:aE 1 1 5=true:=by decide +kernel
theorem aOw:aE 1 1 6=true:=by decide +kernel
theorem aS3:aE 1 1 7=true:=by decide +kernel
theorem aSb:aE 1 1 8=true:=by decide +kernel
theorem aRc:aE 1 1 9=true:=by decide +kernel
theorem a11:jF 1 1:=cR z11 aRy aO8 aO2 aPw aR8 aOw aS3 aSb aRc
end N42
namespace N42
theorem z21:eA 2 1=true:=by decide +kernel
theorem aQ7:aE 2 1 1=true:=by decide +kernel
theorem aRo:aE 2 1 2=true:=by decide +kernel
theorem aOi:aE 2 1 3=true:=by decide +kernel
theorem aO9:aE 2 1 4=true:=by decide +kernel
theorem aO6:aE 2 1 5=true:=by decide +kernel
theorem aSk:aE 2 1 6=true:=by decide +kernel
theorem aSw:aE 2 1 7=true:=by decide +kernel
theorem aQq:aE 2 1 8=true:=by decide +kernel
theorem aPi:aE 2 1 9=true:=by decide +kernel
theorem a21:jF 2 1:=cR z21 aQ7 aRo aOi aO9 aO6 aSk aSw aQq aPi
end N42
namespace N42
theorem z22:eA 2 2=true:=by decide +kernel
theorem aP1:aE 2 2 1=true:=by decide +kernel
theorem aOt:aE 2 2 2=true:=by decide +kernel
theorem aOu:aE 2 2 3=true:=by decide +kernel
theorem aOp:aE 2 2 4=true:=by decide +kernel
theorem aSn:aE 2 2 5=true:=by decide +kernel
theorem aRw:aE 2 2 6=true:=by decide +kernel
theorem aPt:aE 2 2 7=true:=by decide +kernel
theorem aO5:aE 2 2 8=true:=by decide +kernel
theorem aRr:aE 2 2 9=true:=by decide +kernel
theorem a22:jF 2 2:=cR z22 aP1 aOt aOu aOp aSn aRw aPt aO5 aRr
end N42
namespace N42
theorem z31:eA 3 1=true:=by decide +kernel
theorem aQt:aE 3 1 1=true:=by decide +kernel
theorem aSs:aE 3 1 2=true:=by decide +kernel
theorem aPr:aE 3 1 3=true:=by decide +kernel
theorem aP6:aE 3 1 4=true:=by decide +kernel
theorem aOk:aE 3 1 5=true:=by decide +kernel
theorem aRa:aE 3 1 6=true:=by decide +kernel
theorem aOg:aE 3 1 7=true:=by decide +kernel
theorem aQ0:aE 3 1 8=true:=by decide +kernel
theorem aPc:aE 3 1 9=true:=by decide +kernel
theorem a31:jF 3 1:=cR z31 aQt aSs aPr aP6 aOk aRa aOg aQ0 aPc
end N42
namespace N42
theorem z32:eA 3 2=true:=by decide +kernel
theorem aOl:aE 3 2 1=true:=by decide +kernel
theorem aRi:aE 3 2 2=true:=by decide +kernel
theorem aSq:aE 3 2 3=true:=by decide +kernel
theorem aOs:aE 3 2 4=true:=by decide +kernel
theorem aPh:aE 3 2 5=true:=by decide +kernel
theorem aPs:aE 3 2 6=true:=by decide +kernel
theorem aP7:aE 3 2 7=true:=by decide +kernel
theorem aOz:aE 3 2 8=true:=by decide +kernel
theorem aO1:aE 3 2 9=true:=by decide +kernel
theorem a32:jF 3 2:=cR z32 aOl aRi aSq aOs aPh aPs aP7 aOz aO1
end N42
namespace N42
theorem z33:eA 3 3=true:=by decide +kernel
theorem aR1:aE 3 3 1=true:=by decide +kernel
theorem aSt:aE 3 3 2=true:=by decide +kernel
theorem aQx:aE 3 3 3=true:=by decide +kernel
theorem aP8:aE 3 3 4=true:=by decide +kernel
theorem aQ6:aE 3 3 5=true:=by decide +kernel
theorem aP2:aE 3 3 6=true:=by decide +kernel
theorem aOc:aE 3 3 7=true:=by decide +kernel
theorem aOy:aE 3 3 8=true:=by decide +kernel
theorem aQi:aE 3 3 9=true:=by decide +kernel
theorem a33:jF 3 3:=cR z33 aR1 aSt aQx aP8 aQ6 aP2 aOc aOy aQi
end N42
namespace N42
theorem z41:eA 4 1=true:=by decide +kernel
theorem aPa:aE 4 1 1=true:=by decide +kernel
theorem aPo:aE 4 1 2=true:=by decide +kernel
theorem aPz:aE 4 1 3=true:=by decide +kernel
theorem aRj:aE 4 1 4=true:=by decide +kernel
theorem aP0:aE 4 1 5=true:=by decide +kernel
theorem aO3:aE 4 1 6=true:=by decide +kernel
theorem aPy:aE 4 1 7=true:=by decide +kernel
theorem aOb:aE 4 1 8=true:=by decide +kernel
theorem aQk:aE 4 1 9=true:=by decide +kernel
theorem a41:jF 4 1:=cR z41 aPa aPo aPz aRj aP0 aO3 aPy aOb aQk
end N42
namespace N42
theorem z42:eA 4 2=true:=by decide +kernel
theorem aOv:aE 4 2 1=true:=by decide +kernel
theorem aSa:aE 4 2 2=true:=by decide +kernel
theorem aR0:aE 4 2 3=true:=by decide +kernel
theorem aPx:aE 4 2 4=true:=by decide +kernel
theorem aR2:aE 4 2 5=true:=by decide +kernel
theorem aOn:aE 4 2 6=true:=by decide +kernel
theorem aQ4:aE 4 2 7=true:=by decide +kernel
theorem aSr:aE 4 2 8=true:=by decide +kernel
theorem aPv:aE 4 2 9=true:=by decide +kernel
theorem a42:jF 4 2:=cR z42 aOv aSa aR0 aPx aR2 aOn aQ4 aSr aPv
end N42
namespace N42
theorem z43:eA 4 3=true:=by decide +kernel
theorem aRg:aE 4 3 1=true:=by decide +kernel
theorem aR5:aE 4 3 2=true:=by decide +kernel
theorem aR3:aE 4 3 3=true:=by decide +kernel
theorem aRk:aE 4 3 4=true:=by decide +kernel
theorem aQg:aE 4 3 5=true:=by decide +kernel
theorem aQp:aE 4 3 6=true:=by decide +kernel
theorem aPb:aE 4 3 7=true:=by decide +kernel
theorem aRu:aE 4 3 8=true:=by decide +kernel
theorem aSj:aE 4 3 9=true:=by decide +kernel
theorem a43:jF 4 3:=cR z43 aRg aR5 aR3 aRk aQg aQp aPb aRu aSj
end N42
namespace N42
theorem z44:eA 4 4=true:=by decide +kernel
theorem aQc:aE 4 4 1=true:=by decide +kernel
theorem aSl:aE 4 4 2=true:=by decide +kernel
theorem aSv:aE 4 4 3=true:=by decide +kernel
theorem aS0:aE 4 4 4=true:=by decide +kernel
theorem aQy:aE 4 4 5=true:=by decide +kernel
theorem aRs:aE 4 4 6=true:=by decide +kernel
theorem aOa:aE 4 4 7=true:=by decide +kernel
theorem aSh:aE 4 4 8=true:=by decide +kernel
theorem aQf:aE 4 4 9=true:=by decide +kernel
theorem a44:jF 4 4:=cR z44 aQc aSl aSv aS0 aQy aRs aOa aSh aQf
end N42
namespace N42
theorem z51:eA 5 1=true:=by decide +kernel
theorem aQr:aE 5 1 1=true:=by decide +kernel
theorem aPe:aE 5 1 2=true:=by decide +kernel
theorem aSu:aE 5 1 3=true:=by decide +kernel
theorem aRh:aE 5 1 4=true:=by decide +kernel
theorem aSz:aE 5 1 5=true:=by decide +kernel
theorem aRx:aE 5 1 6=true:=by decide +kernel
theorem aQ3:aE 5 1 7=true:=by decide +kernel
theorem aR9:aE 5 1 8=true:=by decide +kernel
theorem aP4:aE 5 1 9=true:=by decide +kernel
theorem a51:jF 5 1:=cR z51 aQr aPe aSu aRh aSz aRx aQ3 aR9 aP4
end N42
namespace N42
theorem z52:eA 5 2=true:=by decide +kernel
theorem aS1:aE 5 2 1=true:=by decide +kernel
theorem aQu:aE 5 2 2=true:=by decide +kernel
theorem aQd:aE 5 2 3=true:=by decide +kernel
theorem aSe:aE 5 2 4=true:=by decide +kernel
theorem aSf:aE 5 2 5=true:=by decide +kernel
theorem aS4:aE 5 2 6=true:=by decide +kernel
theorem aQj:aE 5 2 7=true:=by decide +kernel
theorem aPk:aE 5 2 8=true:=by decide +kernel
theorem aQm:aE 5 2 9=true:=by decide +kernel
theorem a52:jF 5 2:=cR z52 aS1 aQu aQd aSe aSf aS4 aQj aPk aQm
end N42
namespace N42
theorem z53:eA 5 3=true:=by decide +kernel
theorem aR4:aE 5 3 1=true:=by decide +kernel
theorem aP9:aE 5 3 2=true:=by decide +kernel
theorem aQa:aE 5 3 3=true:=by decide +kernel
theorem aS2:aE 5 3 4=true:=by decide +kernel
theorem aOq:aE 5 3 5=true:=by decide +kernel
theorem aP3:aE 5 3 6=true:=by decide +kernel
theorem aPg:aE 5 3 7=true:=by decide +kernel
theorem aOf:aE 5 3 8=true:=by decide +kernel
theorem aQl:aE 5 3 9=true:=by decide +kernel
theorem a53:jF 5 3:=cR z53 aR4 aP9 aQa aS2 aOq aP3 aPg aOf aQl
end N42
namespace N42
theorem z54:eA 5 4=true:=by decide +kernel
theorem aSm:aE 5 4 1=true:=by decide +kernel
theorem aPn:aE 5 4 2=true:=by decide +kernel
theorem aQs:aE 5 4 3=true:=by decide +kernel
theorem aR7:aE 5 4 4=true:=by decide +kernel
theorem aSg:aE 5 4 5=true:=by decide +kernel
theorem aQ5:aE 5 4 6=true:=by decide +kernel
theorem aQo:aE 5 4 7=true:=by decide +kernel
theorem aO4:aE 5 4 8=true:=by decide +kernel
theorem aSx:aE 5 4 9=true:=by decide +kernel
theorem a54:jF 5 4:=cR z54 aSm aPn aQs aR7 aSg aQ5 aQo aO4 aSx
end N42
namespace N42
theorem z55:eA 5 5=true:=by decide +kernel
theorem aPj:aE 5 5 1=true:=by decide +kernel
theorem aQ1:aE 5 5 2=true:=by decide +kernel
theorem aRb:aE 5 5 3=true:=by decide +kernel
theorem aSd:aE 5 5 4=true:=by decide +kernel
theorem aRd:aE 5 5 5=true:=by decide +kernel
theorem aRv:aE 5 5 6=true:=by decide +kernel
theorem aPu:aE 5 5 7=true:=by decide +kernel
theorem aRp:aE 5 5 8=true:=by decide +kernel
theorem aOr:aE 5 5 9=true:=by decide +kernel
theorem a55:jF 5 5:=cR z55 aPj aQ1 aRb aSd aRd aRv aPu aRp aOr
end N42
namespace N42
open PySem L2 Mir Sm
theorem aJp {m z:Nat}(h1:1<=m)(h5:m<=5)(hz:1<=z)(hm:z<=m):jF m z:=by
 rcases (show m=1\/m=2\/m=3\/m=4\/m=5 by omega) with rfl | rfl | rfl | rfl | rfl
 · rw[show z=1 by omega];exact a11
 · rcases (show z=1\/z=2 by omega) with rfl | rfl
   · exact a21
   · exact a22
 · rcases (show z=1\/z=2\/z=3 by omega) with rfl | rfl | rfl
   · exact a31
   · exact a32
   · exact a33
 · rcases (show z=1\/z=2\/z=3\/z=4 by omega) with rfl | rfl | rfl | rfl
   · exact a41
   · exact a42
   · exact a43
   · exact a44
 · rcases (show z=1\/z=2\/z=3\/z=4\/z=5 by omega) with rfl | rfl | rfl | rfl | rfl
   · exact a51
   · exact a52
   · exact a53
   · exact a54
   · exact a55
theorem fly (w:Nat){m z c:Nat}(h:aE m z c=true):aH [.int w,.int (m:Int),.int (z:Int),fI z c]=.ok ⟨.tmp,true,.lst []⟩:=by
 obtain⟨h1,h2⟩:=Bx.mp h;obtain⟨r0,e0⟩:=xW (aN9 h2);obtain⟨r1,e1⟩:=xW h1;obtain⟨r2,e2⟩:=xW h2;exact aKu e0 e1 e2 aOm
theorem flz {m z:Nat}(h:eA m z=true):aH [.int 2,.int (m:Int),.int (z:Int),.lst []]=.ok ⟨.tmp,true,.lst [.str "zero"]⟩:=aDi (w:=2) (aI8 h) aQv
theorem xZ (ns:List Int)(k:Nat)(r:List (Option Res)):aK bU [vE 0,cE (.int k)] (S0 ns :: r)=.ok ⟨.shr,true,.int (dP ns k)⟩:=aFk (φ:=bU) (fun ns k=>aKb ns k) ns k r
abbrev E8 (ns:List Int)(x1 x2 x3 x4 x5 x6 x7:Option Res):Mir.Env:=[S0 ns,x1,x2,x3,x4,x5,x6,x7]
theorem aDk {fs:FEs}{ρ:Mir.Env}{rs:List Res}{y:Bool×List D}(h:evs fs ρ=.ok rs)(hg:gives rs=.ok y)(hz:y.2.length<=sizeLine):bH fs ρ=.ok ⟨.tmp,y.1,.lst y.2⟩:=by
 simp only[bH,h,R.ok_bind,hg,if_pos hz]
theorem aMb {ρ:Mir.Env}:tX (cE (.int 10)) (cE (.int 48)) ρ=.ok ⟨.shr,true,.int 1000000000000000000000000000000000000000000000000⟩:=by rfl
theorem far {ρ:Mir.Env}{i:Nat}{c:Int}(h:vE i ρ=.ok ⟨.shr,true,.int c⟩)(h0:0<=c)(h1:c<2147483647):gC (vE i) (tX (cE (.int 10)) (cE (.int 48))) ρ=.ok ⟨.shr,true,.int (c*1000000000000000000000000000000000000000000000000)⟩ :=
 gA h aMb (aNd (aJx (by omega)) (by decide))
theorem aIf {ρ:Mir.Env}{c u:Int}{f:FE}(h:vE 3 ρ=.ok ⟨.shr,true,.int c⟩)(hf:f ρ=.ok ⟨.shr,true,.int u⟩)(h0:0<=c)(h1:c<2147483647) :
 bH [cE (.int 0),f,pE (qT (cE (.int 1))) (gC (vE 3) (tX (cE (.int 10)) (cE (.int 48)))),fC f (gC (vE 3) (tX (cE (.int 10)) (cE (.int 48))))] ρ=.ok ⟨.tmp,true,.lst (li [0,u,-1-c*1000000000000000000000000000000000000000000000000,u+c*1000000000000000000000000000000000000000000000000])⟩ :=
 aDk (y:=(true,li [0,u,-1-c*1000000000000000000000000000000000000000000000000,u+c*1000000000000000000000000000000000000000000000000])) (aN (r:=⟨.shr,true,.int 0⟩) rfl (aN hf (aN (gA (k:=.shr) (fr:=true) (i:=-1) rfl (far h h0 h1) rfl) (aN (gA hf (far h h0 h1) rfl) cU)))) rfl (show (4:Nat)<=sizeLine by decide)
theorem aMj {ρ:Mir.Env}{g:FE}{l:List Int}{f:FE}{k:Int}(hl:l.length=4)(h:f ρ=.ok ⟨.tmp,true,.lst (li l)⟩)(hg:g ρ=.ok ⟨.shr,true,.int k⟩)(h0:0<=k)(h4:k<4):∃ v∈l,cO f g ρ=.ok ⟨.shr,true,.int v⟩:=by
 obtain⟨i,rfl⟩:=Ct h0;exact⟨_,Mir.aD0 (d:=0) (by omega),aAb h hg (aCs (r:=l) (by omega))⟩
theorem eq1 (s:Str)(h:jK (.lst [.str s]) (.lst [.str s])=.ok true){ρ:Mir.Env}{f:FE}{k:Kd}{fr:Bool}(hf:f ρ=.ok ⟨k,fr,.lst [.str s]⟩):neE f (bH [cE (.str s)]) ρ=.ok ⟨.shr,true,.bl false⟩:=aId hf (r':=⟨.tmp,true,.lst [.str s]⟩) rfl h
theorem law_ok (ns:List Int):qX [.lst (ns.map .int)]=.ok (sc (.bl true)):=by
 have c0:=oS ns 0;have c1:=oS ns 1;have c2:=oS ns 2;have m0:=Cz (dP ns 0) (show (5:Int)≠0 by decide)
 have m1:=Ck (dP ns 0) (show (0:Int)<5 by decide)
 obtain⟨m,hm⟩:=Ct (show 0<=1+dP ns 0%5 by omega)
 have hm5:m<=5:=by omega
 have z0:=Cz (dP ns 1) (show (m:Int)≠0 by omega)
 have z1:=Ck (dP ns 1) (show 0<(m:Int) by omega)
 obtain⟨z,hz⟩:=Ct (show 0<=1+dP ns 1%(m:Int) by omega)
 have hzm:z<=m:=by omega
 have e1:bB 1 (fC (cE (.int 1)) (iP (aK bU [vE 0,cE (.int 0)]) (cE (.int 5)))) (E8 ns none none none none none none none)=.nx (E8 ns (iR m) none none none none none none):=by
  rw[←hm];exact set_shr (gA (k:=.shr) (fr:=true) (i:=1) rfl (gA (xZ ns 0 _) (k':=.shr) (fr':=true) (j:=5) rfl (wJ (by decide))) rfl)
 have e2:bB 2 (fC (cE (.int 1)) (iP (aK bU [vE 0,cE (.int 1)]) (vE 1))) (E8 ns (iR m) none none none none none none)=.nx (E8 ns (iR m) (iR z) none none none none none):=by
  rw[show iR (z:Int)=iR (1+dP ns 1%(m:Int)) by rw[hz]]
  exact set_shr (gA (k:=.shr) (fr:=true) (i:=1) rfl (gA (xZ ns 1 _) (k':=.shr) (fr':=true) (j:=(m:Int)) rfl (wJ (by omega))) rfl)
 have e3:bB 3 (aK bU [vE 0,cE (.int 2)]) (E8 ns (iR m) (iR z) none none none none none)=.nx (E8 ns (iR m) (iR z) (iR (dP ns 2)) none none none none):=set_shr (xZ ns 2 _);generalize dP ns 2=c at c2 e3
 obtain⟨q,hq,e4⟩:=aMj (ρ:=E8 ns (iR m) (iR z) (iR c) none none none none) (g:=iP (vE 3) (cE (.int 4))) (k:=c%4) rfl (aIf (u:=6) (f:=cE (.int 6)) rfl rfl c2.1 c2.2) (gA (k:=.shr) (fr:=true) (i:=c) rfl (k':=.shr) (fr':=true) (j:=4) rfl (wJ (by decide))) (Cz _ (by decide)) (Ck _ (by decide))
 have bq:(decide (q<1)||decide (5<q))=true:=by
  simp only[Ag,Ai,or_false]at hq;rw[Bool.or_eq_true_iff,decide_eq_true_iff,decide_eq_true_iff];omega
 have e5':fC (vE 1) (cE (.int 1)) (E8 ns (iR m) (iR z) (iR c) (iR q) none none none)=.ok ⟨.shr,true,.int ((m:Int)+1)⟩:=gA (k:=.shr) (fr:=true) (i:=(m:Int)) rfl (k':=.shr) (fr':=true) (j:=1) rfl rfl
 obtain⟨b,hb,e5⟩:=aMj (ρ:=E8 ns (iR m) (iR z) (iR c) (iR q) none none none) (g:=iP (lX (vE 3) (cE (.int 4))) (cE (.int 4))) (k:=c/4%4) rfl (aIf (f:=fC (vE 1) (cE (.int 1))) rfl e5' c2.1 c2.2)
  (gA (gA (k:=.shr) (fr:=true) (i:=c) rfl (k':=.shr) (fr':=true) (j:=4) rfl (aIb (by decide) (by decide))) (k':=.shr) (fr':=true) (j:=4) rfl (wJ (by decide))) (Cz _ (by decide)) (Ck _ (by decide))
 have gm:(decide ((m:Int)<1)||decide (5<(m:Int)))=false:=by
  rw[Bool.or_eq_false_iff,decide_eq_false_iff_not,decide_eq_false_iff_not];omega
 have bb:(decide (b<1)||decide ((m:Int)<b))=true:=by
  simp only[Ag,Ai,or_false]at hb;rw[Bool.or_eq_true_iff,decide_eq_true_iff,decide_eq_true_iff];omega
 have w0:=Cz (c/16) (show (9:Int)≠0 by decide)
 have w1:=Ck (c/16) (show (0:Int)<9 by decide)
 obtain⟨v,hv⟩:=Ct (show 0<=1+c/16%9 by omega)
 obtain⟨zb,gb⟩:=aJp (m:=m) (z:=z) (by omega) hm5 (by omega) hzm
 have gd:=gb v (by omega) (by omega)
 have e6:bB 6 (bH [jM [rP (vE 2),fC (cE (.int 1)) (iP (lX (vE 3) (cE (.int 16))) (cE (.int 9)))]]) (E8 ns (iR m) (iR z) (iR c) (iR q) (iR b) none none)=.nx (E8 ns (iR m) (iR z) (iR c) (iR q) (iR b) (some ⟨.own,true,fI z v⟩) none):=by
  have t1:rP (vE 2) (E8 ns (iR m) (iR z) (iR c) (iR q) (iR b) none none)=.ok ⟨.shr,true,.tup (lA 0 z)⟩:=by
   have hc:0<=(z:Int)/\(z:Int)<=1000:=by omega
   have hv:vE 2 (E8 ns (iR m) (iR z) (iR c) (iR q) (iR b) none none)=.ok ⟨.shr,true,.int (z:Nat)⟩:=rfl;simp only[rP,hv,R.ok_bind,asI,if_pos hc,Cp]
  have t2:fC (cE (.int 1)) (iP (lX (vE 3) (cE (.int 16))) (cE (.int 9))) (E8 ns (iR m) (iR z) (iR c) (iR q) (iR b) none none)=.ok ⟨.shr,true,.int (v:Nat)⟩:=by
   rw[←hv];exact gA (k:=.shr) (fr:=true) (i:=1) rfl (gA (gA (k:=.shr) (fr:=true) (i:=c) rfl (k':=.shr) (fr':=true) (j:=16) rfl (aIb (by decide) (by decide))) (k':=.shr) (fr':=true) (j:=9) rfl (wJ (by decide))) rfl
  have t3:jM [rP (vE 2),fC (cE (.int 1)) (iP (lX (vE 3) (cE (.int 16))) (cE (.int 9)))] (E8 ns (iR m) (iR z) (iR c) (iR q) (iR b) none none)=.ok ⟨.shr,true,.tup [.tup (lA 0 z),.int (v:Nat)]⟩:=by
   have ev:=aN t1 (aN t2 cU);simp only[jM,ev,R.ok_bind];rfl
  exact aG9 (aDk (y:=(true,[.tup [.tup (lA 0 z),.int (v:Nat)]])) (aN t3 cU) rfl (show (1:Nat)<=sizeLine by decide))
 have q1:jK (.lst [.str "count"]) (.lst [.str "count"])=.ok true:=by kernel_rfl
 have q2:jK (.lst [.str "size"]) (.lst [.str "size"])=.ok true:=by kernel_rfl
 have q3:jK (.lst [.str "zero"]) (.lst [.str "zero"])=.ok true:=by kernel_rfl
 have q4:jK (.lst []) (.lst [])=.ok true:=by kernel_rfl
 have lL:∀ w:Nat,(aQ (ifS (orT (bT (neE (aK aH [vE 7,vE 4,vE 2,vE 6]) (bH [cE (.str "count")]))) (bT (neE (aK aH [vE 7,vE 4,vE 5,bH []]) (bH [cE (.str "count")]))))
  (bO (cE (.bl false)))
  dR)
  (ifS (orT (bT (neE (aK aH [vE 7,vE 1,vE 5,bH []]) (bH [cE (.str "size")]))) (bT (neE (aK aH [vE 7,vE 1,vE 2,vE 6]) (bH []))))
   (bO (cE (.bl false)))
   dR)) (E8 ns (iR m) (iR z) (iR c) (iR q) (iR b) (some ⟨.own,true,fI z v⟩) (iR w))=.nx (E8 ns (iR m) (iR z) (iR c) (iR q) (iR b) (some ⟨.own,true,fI z v⟩) (iR w)):=fun w=>by
  have k1:aK aH [vE 7,vE 4,vE 2,vE 6] (E8 ns (iR m) (iR z) (iR c) (iR q) (iR b) (some ⟨.own,true,fI z v⟩) (iR w))=.ok ⟨.tmp,true,.lst [.str "count"]⟩ :=
   eU (rs:=[⟨.shr,true,.int w⟩,⟨.shr,true,.int q⟩,⟨.shr,true,.int z⟩,⟨.own,true,fI z v⟩]) (aN rfl (aN rfl (aN rfl (aN rfl cU)))) (flc w (.cnt bq) _)
  have k2:aK aH [vE 7,vE 4,vE 5,bH []] (E8 ns (iR m) (iR z) (iR c) (iR q) (iR b) (some ⟨.own,true,fI z v⟩) (iR w))=.ok ⟨.tmp,true,.lst [.str "count"]⟩ :=
   eU (rs:=[⟨.shr,true,.int w⟩,⟨.shr,true,.int q⟩,⟨.shr,true,.int b⟩,⟨.tmp,true,.lst []⟩]) (aN rfl (aN rfl (aN rfl (aN rfl cU)))) (flc w (.cnt bq) _)
  have k3:aK aH [vE 7,vE 1,vE 5,bH []] (E8 ns (iR m) (iR z) (iR c) (iR q) (iR b) (some ⟨.own,true,fI z v⟩) (iR w))=.ok ⟨.tmp,true,.lst [.str "size"]⟩ :=
   eU (rs:=[⟨.shr,true,.int w⟩,⟨.shr,true,.int m⟩,⟨.shr,true,.int b⟩,⟨.tmp,true,.lst []⟩]) (aN rfl (aN rfl (aN rfl (aN rfl cU)))) (fls w (.siz gm bb) _)
  have k4:aK aH [vE 7,vE 1,vE 2,vE 6] (E8 ns (iR m) (iR z) (iR c) (iR q) (iR b) (some ⟨.own,true,fI z v⟩) (iR w))=.ok ⟨.tmp,true,.lst []⟩ :=
   eU (rs:=[⟨.shr,true,.int w⟩,⟨.shr,true,.int m⟩,⟨.shr,true,.int z⟩,⟨.own,true,fI z v⟩]) (aN rfl (aN rfl (aN rfl (aN rfl cU)))) (fly w gd)
  refine(dY ((xK (sI (eq1 _ q1 k1) (eq1 _ q1 k2))).trans rfl)).trans ?_
  exact(xK (sI (eq1 _ q2 k3) (aId k4 (r':=⟨.tmp,true,.lst []⟩) rfl q4))).trans rfl
 have e7:fV (iM (cE (.int 3))) (.nm 7) (aQ (ifS (orT (bT (neE (aK aH [vE 7,vE 4,vE 2,vE 6]) (bH [cE (.str "count")]))) (bT (neE (aK aH [vE 7,vE 4,vE 5,bH []]) (bH [cE (.str "count")]))))
  (bO (cE (.bl false)))
  dR)
  (ifS (orT (bT (neE (aK aH [vE 7,vE 1,vE 5,bH []]) (bH [cE (.str "size")]))) (bT (neE (aK aH [vE 7,vE 1,vE 2,vE 6]) (bH []))))
   (bO (cE (.bl false)))
   dR)) (E8 ns (iR m) (iR z) (iR c) (iR q) (iR b) (some ⟨.own,true,fI z v⟩) none)=.nx (E8 ns (iR m) (iR z) (iR c) (iR q) (iR b) (some ⟨.own,true,fI z v⟩) (iR 2)):=by
  refine(aK2 (fr:=true) (ds:=[.int (0:Nat),.int (1:Nat),.int (2:Nat)]) rfl).trans ?_
  have t0:=lL 0;have t1:=lL 1;have t2:=lL 2
  generalize (aQ (ifS (orT (bT (neE (aK aH [vE 7,vE 4,vE 2,vE 6]) (bH [cE (.str "count")]))) (bT (neE (aK aH [vE 7,vE 4,vE 5,bH []]) (bH [cE (.str "count")]))))
   (bO (cE (.bl false)))
   dR)
   (ifS (orT (bT (neE (aK aH [vE 7,vE 1,vE 5,bH []]) (bH [cE (.str "size")]))) (bT (neE (aK aH [vE 7,vE 1,vE 2,vE 6]) (bH []))))
    (bO (cE (.bl false)))
    dR))=B at t0 t1 t2
  have step:∀ (d:D) (r:List D) (y:Option Res),B (E8 ns (iR m) (iR z) (iR c) (iR q) (iR b) (some ⟨.own,true,fI z v⟩) (some ⟨.shr,true,d⟩))=.nx (E8 ns (iR m) (iR z) (iR c) (iR q) (iR b) (some ⟨.own,true,fI z v⟩) (some ⟨.shr,true,d⟩))->qH (.nm 7) B true (d :: r) (E8 ns (iR m) (iR z) (iR c) (iR q) (iR b) (some ⟨.own,true,fI z v⟩) y)=qH (.nm 7) B true r (E8 ns (iR m) (iR z) (iR c) (iR q) (iR b) (some ⟨.own,true,fI z v⟩) (some ⟨.shr,true,d⟩)):=fun d r y h=>by
   have e:Tg.bind true (.nm 7) d (E8 ns (iR m) (iR z) (iR c) (iR q) (iR b) (some ⟨.own,true,fI z v⟩) y)=.ok (E8 ns (iR m) (iR z) (iR c) (iR q) (iR b) (some ⟨.own,true,fI z v⟩) (some ⟨.shr,true,d⟩)):=rfl;simp only[qH,e,R.at,h]
  rw[step _ _ _ t0,step _ _ _ t1,step _ _ _ t2];rfl
 have k5:aK aH [cE (.int 2),vE 1,vE 2,bH []] (E8 ns (iR m) (iR z) (iR c) (iR q) (iR b) (some ⟨.own,true,fI z v⟩) (iR 2))=.ok ⟨.tmp,true,.lst [.str "zero"]⟩ :=
  eU (rs:=[⟨.shr,true,.int 2⟩,⟨.shr,true,.int m⟩,⟨.shr,true,.int z⟩,⟨.tmp,true,.lst []⟩]) (aN rfl (aN rfl (aN rfl (aN rfl cU)))) (flz zb)
 have k6:aK aH [cE (.int 2),vE 1,vE 2,vE 6] (E8 ns (iR m) (iR z) (iR c) (iR q) (iR b) (some ⟨.own,true,fI z v⟩) (iR 2))=.ok ⟨.tmp,true,.lst []⟩ :=
  eU (rs:=[⟨.shr,true,.int 2⟩,⟨.shr,true,.int m⟩,⟨.shr,true,.int z⟩,⟨.own,true,fI z v⟩]) (aN rfl (aN rfl (aN rfl (aN rfl cU)))) (fly 2 gd)
 have e8:bO (yC (eqE (aK aH [cE (.int 2),vE 1,vE 2,bH []]) (bH [cE (.str "zero")])) (eqE (aK aH [cE (.int 2),vE 1,vE 2,vE 6]) (bH []))) (E8 ns (iR m) (iR z) (iR c) (iR q) (iR b) (some ⟨.own,true,fI z v⟩) (iR 2))=.rt ⟨.shr,true,.bl true⟩:=zB ((aGn (aIm k5 (r':=⟨.tmp,true,.lst [.str "zero"]⟩) rfl q3) fun _=>aIm k6 (r':=⟨.tmp,true,.lst []⟩) rfl q4).trans rfl);exact(sN (np:=1) (n:=8) (s:=aIw) (ds:=[.lst (li ns)]) rfl ((dY e1).trans ((dY e2).trans ((dY e3).trans ((dY (set_shr e4)).trans ((dY (set_shr e5)).trans ((dY e6).trans ((dY e7).trans e8)))))))).trans rfl
end N42
namespace Hd
open PySem PySem.W
section
variable (tb:String->Option Builtin)(p:Program)(w:World)(m:Nat)(an:Option Value)
noncomputable def one (ih:SharedT->Thread->Option SharedT)(s:SharedT)(t:Thread):Option SharedT :=
 @Bool.rec (fun _=>Option SharedT) (@Bool.rec (fun _=>Option SharedT) none (@Option.rec (SharedT×Thread) (fun _=>Option SharedT) none (fun r=>ih r.1 r.2) (stepT (denote tb) p w s t)) (stepOk m an t)) (some s) (through t)
noncomputable def run (n:Nat):SharedT->Thread->Option SharedT :=
 @Nat.rec (fun _=>SharedT->Thread->Option SharedT) (fun _ _=>none) (fun _ ih=>one tb p w m an ih) n
end
theorem aGz {tb:String->Option Builtin}{p:Program}{w:World}{m:Nat}{an:Option Value}(n:Nat):∀ {s s':SharedT} {t:Thread},run tb p w m an n s t=some s'->topRun tb p w m an n s.abs t=some s'.abs:=by
 induction n with
 | zero=>intro s s' t h;cases h
 | succ n ih =>
  intro s s' t h;have h1:one tb p w m an (run tb p w m an n) s t=some s':=h;unfold one at h1;unfold topRun;cases a:through t with
  | true=>rw[a]at h1;cases h1;rfl
  | false =>
   rw[a]at h1;cases b:stepOk m an t with
   | false=>rw[b]at h1;cases h1
   | true =>
    rw[b]at h1;cases c:stepT (denote tb) p w s t with
    | none=>rw[c]at h1;cases h1
    | some r =>
     rw[c]at h1;obtain⟨s1,t1⟩:=r;have d:=stepT_spec c;simp only[d];exact ih h1
noncomputable def aSy (P:Params):BT :=
 .node (boot_o_0 P) (.node (boot_o_1 P) (.node (boot_o_3 P) (.node (boot_o_7 P) .nil .nil) .nil) (.node (boot_o_5 P) (.node (boot_o_9 P) .nil .nil) .nil))
  (.node (boot_o_2 P) (.node (boot_o_4 P) (.node (boot_o_8 P) .nil .nil) .nil) (.node (boot_o_6 P) (.node (boot_o_10 P) .nil .nil) .nil))
noncomputable def aN7 (w:World)(os:OsState):SharedT:=⟨aSy w.params,11,(boot_heap w.params).life,⟨[]⟩,boot_drawn,boot_toks,os⟩
theorem aCy (w:World)(os:OsState):(aN7 w os).abs=⟨boot_heap w.params,⟨[]⟩,boot_drawn,boot_toks,os⟩:=rfl
noncomputable def sz (w:World):Bool×Nat×Option Value:=((boot_heap w.params).isNs mainGlobals,(boot_heap w.params).objs.size,(boot_heap w.params).nsMap mainGlobals "__annotations__")
lay_quick Hd.sz
theorem aNj (w:World):sz w=(true,11,some (.ref 6)):=(congrFun PySem.W.Fast.te12317964393026182561 w).trans (by kernel_rfl)
section
variable (p q:Program)(Xt:Shared->Bool){α:Type}(Yf:Shared->α)(N:Nat)
noncomputable def zU (w:World)(os:OsState):=(run treeTable p w 11 (some (.ref 6)) N (aN7 w os) (topStub p)).map fun s =>
 ((staticsOk (importedModules p.main.body) (boot_heap w.params) s.abs.heap&&namesBound p s.abs.heap&&gensDone s.abs&&laidKept (boot_heap w.params) s.abs.heap),openSeen q [] (importedModules p.main.body) Xt true s.abs,Yf s.abs)
end
theorem left {p q:Program}{Xt:Shared->Bool}{α:Type}{Yf:Shared->α}{Ya:World->α}{N:Nat}(hb:∀ w:World,(fencedOpening treeTable p w N).map (fun s=>(s.heap,s.gens,s.drawn,s.toks))=some (boot_heap w.params,{ toList:=[] },boot_drawn,boot_toks))(hz:∀ w,sz w=(true,11,some (.ref 6)))
 (h:∀ w os,zU p q Xt Yf N w os=some (true,openGood q [],Ya w)):LeftO p q [] Xt Yf Ya N:=fun w=>by
 obtain⟨s0,a,b⟩:=Dr.mp (hb w);obtain⟨s1,c,d⟩:=Dr.mp (h w s0.os);simp only[Prod.mk.injEq]at b d;have z:=hz w;simp only[sz,Prod.mk.injEq]at z;have e:=aGz N c;rw[aCy]at e
 have f:s0=⟨boot_heap w.params,{ toList:=[] },boot_drawn,boot_toks,s0.os⟩:=by
  obtain⟨x1,x2,x3,x4,x5⟩:=s0;obtain⟨b1,b2,b3,b4⟩:=b;dsimp only at b1 b2 b3 b4
  rw[b1,b2,b3,b4]
 unfold openEnds;rw[a,El,f];unfold topFrom;dsimp only
 rw[z.1,z.2.1,z.2.2,e];simp only[El,d.1];show some (_,_)=_
 rw[d.2.1,d.2.2]
end Hd
namespace H42
open PySem PySem.W
local macro_rules | `(tactic| o_head $H)=>`(tactic| (have _:=$H;assumption))
theorem kk (h:PySem.Challenge.rw_flatmeet_k42_refused_sizes.row.Holds):PySem.Challenge.rw_flatmeet_k42_refused_sizes.row.Holds:=by k_head
abbrev pr:Program:=PySem.Challenge.pw_flatmeet_k42_refused_sizes
abbrev ad:List Addr:=[2,3,15,22,23,24,25,28,35,36,37,40,47,48,49,52,59,60,61,64,71,73,74,76,77,78,79,80,83,90,91,92,95,102,103,104,107,114,115,116,119,126,127,128,131,138,140,141,143,144,145,146,147,150,157,158,159,162,169,170,171,174,181,182,183,186,193,194,195,198,205,206,207,210,212,213,215,216,217,219,220,222,223,224,226,227,229,230,231,233,234,236,237,238,240,241,243,244,245,248,249,250,253,254,255,258,259,260,263,264,265,268,269,277,279,280,282,283,284,285,286,287,288,291,294,295,296,299,300,301,304,305,306,309,310,318,320,321,323,324,325,326,327,328,329,332,334,335,337,338,339,341,342,344,345,346,349,350,351,353,354,356,357,358,360,361,363,364,365,368,369,370,373,374,375,378,379,380,383,384,385,388,389,390,392,393,395,396,397,399,400,402,403,404,407,408,409,412,413,414,416,417,419,420,421,423,424,426,427,428,430,431,433,434,435,438,439,440,442,443,445,446,447,449,450,452,453,454,456,457,459,460]
theorem aIl (P:Params):ad=(kk.heap_1 P).map (·.1):=by kernel_rfl
noncomputable abbrev hk:Hook:=kHook kk.heap_1 ad aIl
def vw:Program:=view pr [1,2,3,4,5,6,7,8,9,10,11,12,13,14,15,17,18,19,20,21,22,23,24,25,26,27,28,29,31,32,33,35,36,37,38,39,40,42,43,44,45,46,48,49,50,51,52,53,55,57,58,59,60]
noncomputable def lk (w:World)(os:OsState):=Hd.zU pr vw (fun s=>xlAt vw [] s&&recOk [] s) (fun s=>ad.map s.heap.get?) 9684 w os
noncomputable def gd (w:World)(os:OsState):=some (true,openGood vw [],(kk.heap_1 w.params).map fun p=>some p.2)
lay_quick H42.lk H42.gd
theorem same:PySem.W.Fast.tw4527623531128996684=PySem.W.Fast.tw6659850589576771353:=by kernel_rfl
theorem lo:LeftO pr vw [] (fun s=>xlAt vw [] s&&recOk [] s) hk.obs hk.val 9684:=Hd.left (boot_open rfl rfl fun s=>rfl) Hd.aNj fun w os=>congrFun (congrFun (PySem.W.Fast.te4527623531128996684.trans (same.trans PySem.W.Fast.te6659850589576771353.symm)) w) os
theorem go (hs:PySem.Challenge.rw_flatmeet_k42_refused_sizes.row.wellSaid=true)(h:PySem.Challenge.rw_flatmeet_k42_refused_sizes.row.promised){d:DefRec}{kw:List (Str×Expr)}(h1:defOf vw PySem.Challenge.rw_flatmeet_k42_refused_sizes.row.name=some (d,kw))(h2:PySem.Challenge.rw_flatmeet_k42_refused_sizes.row.prog.theDef PySem.Challenge.rw_flatmeet_k42_refused_sizes.row.name=some (d.params,d.body,d.scope))(h3:kwWritten? d.params.kwonlyargs d.params.kw_defaults=some kw)
 (g:WalkO vw [] (XL vw []) (kHook kk.heap_1 ad aIl).says PySem.Challenge.rw_flatmeet_k42_refused_sizes.row.toRowW d kw fun f vs=>call f vs):PySem.Challenge.rw_flatmeet_k42_refused_sizes.row.Holds :=
 W.holds_open lo hk.of hk.keeps (fun s e=>xl_of s (Bx.mp e).1) XL.keeps h1 h2 h3 (fun s e=>recFacts_of (Bx.mp e).2) rfl hs (by decide +kernel) ⟨rfl,rfl,rfl,rfl,rfl,by decide +kernel⟩ h g
end H42
open PySem PySem.W PyProof.Rows
set_option maxRecDepth 100000 in
set_option maxHeartbeats 0 in
theorem PySem.Challenge.cw_flatmeet_k42_refused_sizes_holds : PySem.Challenge.rw_flatmeet_k42_refused_sizes.Holds := by
  w_on; o_law
  refine H42.go (by assumption) ?hw (by rfl) (by rfl) (by rfl) ?hc
  (case hw => w_witness2)
  k_fill
  refine N42.walk (l := PySem.Challenge.rw_flatmeet_k42_refused_sizes) rfl rfl (fun ns _ => N42.law_ok ns) (fun w h Y => PySem.W.kIn_of Y) ?L ?F
  case L => intro P; kernel_rfl
  case F =>
    intro w mg fa h KX G hmg
    refine' N42.all_mk KX G hmg (Mir.xall_mk KX G ⟨?t1, ?t2, ?t3⟩ ⟨?x0a, ?x0b, ?x0c, ?x0d, ?x0e, ?x0f⟩ ⟨?x1a, ?x1b, ?x1c, ?x1d, ?x1e, ?x1f⟩ ⟨?x2a, ?x2b, ?x2c, ?x2d, ?x2e, ?x2f⟩ ⟨?x3a, ?x3b, ?x3c, ?x3d, ?x3e, ?x3f⟩ ⟨?x4a, ?x4b, ?x4c, ?x4d, ?x4e, ?x4f⟩ ⟨?x5a, ?x5b, ?x5c, ?x5d, ?x5e, ?x5f⟩ ⟨?x6a, ?x6b, ?x6c, ?x6d, ?x6e, ?x6f⟩ ⟨?x7a, ?x7b, ?x7c, ?x7d, ?x7e, ?x7f⟩ ⟨?x8a, ?x8b, ?x8c, ?x8d, ?x8e, ?x8f⟩ ⟨?x9a, ?x9b, ?x9c, ?x9d, ?x9e, ?x9f⟩ ⟨?x10a, ?x10b, ?x10c, ?x10d, ?x10e, ?x10f⟩ ⟨?x11a, ?x11b, ?x11c, ?x11d, ?x11e, ?x11f⟩ ⟨?x12a, ?x12b, ?x12c, ?x12d, ?x12e, ?x12f⟩ ⟨?x13a, ?x13b, ?x13c, ?x13d, ?x13e, ?x13f⟩ ?e0 ?e1 ?e2 ?e3 ?e4 ?e5 ?e6 ?e7 ?e8 ?e9 ?e10 ?e11 ?nd) ⟨?n0, ?l0, ?c0, ?k0⟩ ⟨?n1, ?l1, ?c1, ?k1⟩ ⟨?n2, ?l2, ?c2, ?k2⟩ ⟨?n3, ?l3, ?c3, ?k3⟩ ⟨?n4, ?l4, ?c4, ?k4⟩ ⟨?n5, ?l5, ?c5, ?k5⟩ ⟨?n6, ?l6, ?c6, ?k6⟩ ⟨?n7, ?l7, ?c7, ?k7⟩ ⟨?n8, ?l8, ?c8, ?k8⟩ ⟨?n9, ?l9, ?c9, ?k9⟩ ⟨?n10, ?l10, ?c10, ?k10⟩ ⟨?n11, ?l11, ?c11, ?k11⟩ ⟨?n12, ?l12, ?c12, ?k12⟩ ⟨?n13, ?l13, ?c13, ?k13⟩ ⟨?n14, ?l14, ?c14, ?k14⟩ ⟨?n15, ?l15, ?c15, ?k15⟩ ⟨?n16, ?l16, ?c16, ?k16⟩ ⟨?n17, ?l17, ?c17, ?k17⟩ ⟨?n18, ?l18, ?c18, ?k18⟩ ⟨?n19, ?l19, ?c19, ?k19⟩ ⟨?n20, ?l20, ?c20, ?k20⟩ ⟨?n21, ?l21, ?c21, ?k21⟩ ⟨?n22, ?l22, ?c22, ?k22⟩ ⟨?n23, ?l23, ?c23, ?k23⟩ ⟨?n24, ?l24, ?c24, ?k24⟩ ⟨?n25, ?l25, ?c25, ?k25⟩ ⟨?n26, ?l26, ?c26, ?k26⟩ ⟨?n27, ?l27, ?c27, ?k27⟩ ⟨?n28, ?l28, ?c28, ?k28⟩ ⟨?n29, ?l29, ?c29, ?k29⟩ ⟨?n30, ?l30, ?c30, ?k30⟩ ⟨?n31, ?l31, ?c31, ?k31⟩ ⟨?n32, ?l32, ?c32, ?k32⟩ ⟨?n33, ?l33, ?c33, ?k33⟩ ⟨?n34, ?l34, ?c34, ?k34⟩ ⟨?o0a, ?o0b, ?o0c, ?o0d, ?o0e, ?o0f, ?o0g, ?o0h, ?o0i⟩ ?on00 ?on01 ?ol0 ?oc0 ?ok0 ⟨?o1a, ?o1b, ?o1c, ?o1d, ?o1e, ?o1f, ?o1g, ?o1h, ?o1i⟩ ?on10 ?on11 ?on12 ?ol1 ?oc1 ?ok1 ?z0 ?z1 ?z2 ?z3 ?z4 ?z5 ?z6 ?z7 ?z8 ?z9 ?z10 ?z11 ?z12 ?gq0
    (case t1 => k_is); (case t2 => k_is); (case t3 => rfl)
    (case x0a => k_is); (case x0b => k_is); (case x0c => rfl); (case x0d => k_is); (case x0e => k_is); (case x0f => k_is)
    (case x1a => k_is); (case x1b => k_is); (case x1c => rfl); (case x1d => k_is); (case x1e => k_is); (case x1f => k_is)
    (case x2a => k_is); (case x2b => k_is); (case x2c => rfl); (case x2d => k_is); (case x2e => k_is); (case x2f => k_is)
    (case x3a => k_is); (case x3b => k_is); (case x3c => rfl); (case x3d => k_is); (case x3e => k_is); (case x3f => k_is)
    (case x4a => k_is); (case x4b => k_is); (case x4c => rfl); (case x4d => k_is); (case x4e => k_is); (case x4f => k_is)
    (case x5a => k_is); (case x5b => k_is); (case x5c => rfl); (case x5d => k_is); (case x5e => k_is); (case x5f => k_is)
    (case x6a => k_is); (case x6b => k_is); (case x6c => rfl); (case x6d => k_is); (case x6e => k_is); (case x6f => k_is)
    (case x7a => k_is); (case x7b => k_is); (case x7c => rfl); (case x7d => k_is); (case x7e => k_is); (case x7f => k_is)
    (case x8a => k_is); (case x8b => k_is); (case x8c => rfl); (case x8d => k_is); (case x8e => k_is); (case x8f => k_is)
    (case x9a => k_is); (case x9b => k_is); (case x9c => rfl); (case x9d => k_is); (case x9e => k_is); (case x9f => k_is)
    (case x10a => k_is); (case x10b => k_is); (case x10c => rfl); (case x10d => k_is); (case x10e => k_is); (case x10f => k_is)
    (case x11a => k_is); (case x11b => k_is); (case x11c => rfl); (case x11d => k_is); (case x11e => k_is); (case x11f => k_is)
    (case x12a => k_is); (case x12b => k_is); (case x12c => rfl); (case x12d => k_is); (case x12e => k_is); (case x12f => k_is)
    (case x13a => k_is); (case x13b => k_is); (case x13c => rfl); (case x13d => k_is); (case x13e => k_is); (case x13f => k_is)
    (case e0 => k_exc); (case e1 => k_exc); (case e2 => k_exc); (case e3 => k_exc); (case e4 => k_exc); (case e5 => k_exc); (case e6 => k_exc); (case e7 => k_exc); (case e8 => k_exc); (case e9 => k_exc); (case e10 => k_exc); (case e11 => k_exc)
    (case nd => decide)
    (case n0 => k_is); (case l0 => k_is); (case c0 => k_is); (case k0 => k_is)
    (case n1 => k_is); (case l1 => k_is); (case c1 => k_is); (case k1 => k_is)
    (case n2 => k_is); (case l2 => k_is); (case c2 => k_is); (case k2 => k_is)
    (case n3 => k_is); (case l3 => k_is); (case c3 => k_is); (case k3 => k_is)
    (case n4 => k_is); (case l4 => k_is); (case c4 => k_is); (case k4 => k_is)
    (case n5 => k_is); (case l5 => k_is); (case c5 => k_is); (case k5 => k_is)
    (case n6 => k_is); (case l6 => k_is); (case c6 => k_is); (case k6 => k_is)
    (case n7 => k_is); (case l7 => k_is); (case c7 => k_is); (case k7 => k_is)
    (case n8 => k_is); (case l8 => k_is); (case c8 => k_is); (case k8 => k_is)
    (case n9 => k_is); (case l9 => k_is); (case c9 => k_is); (case k9 => k_is)
    (case n10 => k_is); (case l10 => k_is); (case c10 => k_is); (case k10 => k_is)
    (case n11 => k_is); (case l11 => k_is); (case c11 => k_is); (case k11 => k_is)
    (case n12 => k_is); (case l12 => k_is); (case c12 => k_is); (case k12 => k_is)
    (case n13 => k_is); (case l13 => k_is); (case c13 => k_is); (case k13 => k_is)
    (case n14 => k_is); (case l14 => k_is); (case c14 => k_is); (case k14 => k_is)
    (case n15 => k_is); (case l15 => k_is); (case c15 => k_is); (case k15 => k_is)
    (case n16 => k_is); (case l16 => k_is); (case c16 => k_is); (case k16 => k_is)
    (case n17 => k_is); (case l17 => k_is); (case c17 => k_is); (case k17 => k_is)
    (case n18 => k_is); (case l18 => k_is); (case c18 => k_is); (case k18 => k_is)
    (case n19 => k_is); (case l19 => k_is); (case c19 => k_is); (case k19 => k_is)
    (case n20 => k_is); (case l20 => k_is); (case c20 => k_is); (case k20 => k_is)
    (case n21 => k_is); (case l21 => k_is); (case c21 => k_is); (case k21 => k_is)
    (case n22 => k_is); (case l22 => k_is); (case c22 => k_is); (case k22 => k_is)
    (case n23 => k_is); (case l23 => k_is); (case c23 => k_is); (case k23 => k_is)
    (case n24 => k_is); (case l24 => k_is); (case c24 => k_is); (case k24 => k_is)
    (case n25 => k_is); (case l25 => k_is); (case c25 => k_is); (case k25 => k_is)
    (case n26 => k_is); (case l26 => k_is); (case c26 => k_is); (case k26 => k_is)
    (case n27 => k_is); (case l27 => k_is); (case c27 => k_is); (case k27 => k_is)
    (case n28 => k_is); (case l28 => k_is); (case c28 => k_is); (case k28 => k_is)
    (case n29 => k_is); (case l29 => k_is); (case c29 => k_is); (case k29 => k_is)
    (case n30 => k_is); (case l30 => k_is); (case c30 => k_is); (case k30 => k_is)
    (case n31 => k_is); (case l31 => k_is); (case c31 => k_is); (case k31 => k_is)
    (case n32 => k_is); (case l32 => k_is); (case c32 => k_is); (case k32 => k_is)
    (case n33 => k_is); (case l33 => k_is); (case c33 => k_is); (case k33 => k_is)
    (case n34 => k_is); (case l34 => k_is); (case c34 => k_is); (case k34 => k_is)
    (case o0a => k_is); (case o0b => k_is); (case o0c => k_is); (case o0d => k_is); (case o0e => k_is); (case o0f => k_is); (case o0g => k_is); (case o0h => k_is); (case o0i => k_is); (case on00 => k_is); (case on01 => k_is); (case ol0 => k_is); (case oc0 => k_is); (case ok0 => k_is)
    (case o1a => k_is); (case o1b => k_is); (case o1c => k_is); (case o1d => k_is); (case o1e => k_is); (case o1f => k_is); (case o1g => k_is); (case o1h => k_is); (case o1i => k_is); (case on10 => k_is); (case on11 => k_is); (case on12 => k_is); (case ol1 => k_is); (case oc1 => k_is); (case ok1 => k_is)
    (case z0 => k_is); (case z1 => k_is); (case z2 => k_is); (case z3 => k_is); (case z4 => k_is); (case z5 => k_is); (case z6 => k_is); (case z7 => k_is); (case z8 => k_is); (case z9 => k_is); (case z10 => k_is); (case z11 => k_is); (case z12 => k_is)
    (case gq0 => k_is)
